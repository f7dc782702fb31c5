import PyProof.Rows.All
import Wide.All
import OpenK.AllK
import Wide.FinOn
import Lean
import PyProof.EqAt
import PyProof.EqKinds
import PyProof.TupleCall
import PyProof.P3Eq
import PyProof.NeData
import PyProof.ConsumeWalk
import PyProof.Rows.SumAny
import PyProof.ZipIter
import PyProof.Rows.ZipGen
import PyProof.Rows.SeqMore
import PyProof.FactsAll.tuple
import PyProof.WalksMore
import PyProof.EnumMake
import PyProof.EnumFor
import PyProof.Rows.MinMaxN
import KE.KDictList
import KE.KRevIter
import KE.KItemsList
import PyProof.Rows.SortWalk
import PyProof.Rows.SetFrom
import PyProof.SetRoads
import PyProof.StrLoop
import PyProof.StrWalks
import PyProof.StrCalls2
import PyProof.StrLawsTight
import PyProof.StrLawsReplace
import PyProof.SliceStr2
import PyProof.StrOps
import PyProof.Rows.DictRows
import KE.KIntText
import PyProof.AttrMissHeap
import KE.KDictOf
import PyProof.ExcInit
import PyProof.ExcClass3
import PyProof.InstStoreFacts
import PyProof.Rows.ChunkEnd
import KE.KSortTup
import PyProof.SetKind
import PyProof.SetScanFacts
import PyProof.TupleKey
import PyProof.IsRules
import KE.KDictSum
import KE.KLam
import PySem.Challenge.RW_cutlands_k24_whole_lands_turned_and_move
set_option bootstrap.genMatcherCode false
set_option maxRecDepth 100000
set_option maxHeartbeats 0
set_option linter.all false
noncomputable section
set_option compiler.extract_closed false
set_option hygiene false
abbrev Vq:=PySem.Value
abbrev Sq:=PySem.Shared
abbrev LI:=List Int
abbrev LL:=List LI
section
open PySem
def ae:=@List.getElem?_eq_some_iff
def af:=@Heap.get?_push_of_some
def ag:=@List.getD_eq_getElem?_getD
def ai:=@List.getElem?_eq_getElem
def aj:=@List.mem_append
def ak:=@List.mem_singleton
def ao:=@wpAny_pure
def aq:=@wpAny_bind
def ar:=@List.getElem?_set_ne
def au:=@Heap.get?_push_size
def av:=@List.mem_of_getElem?
def aw:=@List.getElem?_map
def ax:=@List.length_map
def ay:=@List.mem_append_left
def aA:=@List.length_cons
def aC:=@decide_eq_false
def aD:=@decide_eq_true
def aE:=@List.mem_map
def aF:=@Nat.lt_of_lt_of_le
def aG:=@List.mem_cons
def aH:=@Nat.zero_add
def aI:=@Bool.false_ne_true
def aJ:=@List.map_map
def aK:=@Int.mul_le_mul_of_nonneg_right
def aL:=@Nat.le_refl
def aM:=@Heap.lt_size
def aN:=@Nat.ne_of_lt
def aO:=@Nat.le_trans
def aP:=@Classical.byContradiction
def aR:=@if_pos
def aS:=@if_neg
def aT:=@List.mem_range
def aU:=@List.length_append
def aV:=@List.mem_filter
def aW:=@List.getElem_mem
def aX:=@List.of_mem_zip
def aY:=@Int.mul_pos
def aZ:=@Int.natAbs_mul
def a9:=@List.map_append
def bc:=@Nat.lt_irrefl
def bh:=@Nat.le_of_lt
def bj:=@List.filterMap_cons
def bx:=@List.mem_cons_self
def bz:=@List.mem_cons_of_mem
def bA:=@Array.append_assoc
def bB:=@Array.length_toList
def bC:=@Nat.ne_of_gt
def bD:=@Bool.false_and
def bE:=@Int.mul_one
def bF:=@List.mem_filterMap
def bG:=@List.mem_append_right
def bH:=@List.size_toArray
def bI:=@List.any_eq_false
def bJ:=@Array.mem_toList_iff
def bK:=@List.map_cons
def bL:=@Nat.le_of_eq
def bM:=@Nat.lt_succ_self
def bN:=@Nat.zero_le
def bO:=@List.append_nil
def bQ:=@Nat.le_succ
def bR:=@List.nodup_cons
def bS:=@Option.isSome_iff_exists
def bT:=@List.length_take
def bU:=@List.length_replicate
def bV:=@Int.toNat_natCast
def bW:=@Int.ediv_one
def bX:=@List.filterMap_map
def bY:=@List.length_drop
def bZ:=@Bool.and_eq_true
def b4:=@List.reverse_cons
def b5:=@List.replicate_succ
def b6:=@List.flatten_cons
def b7:=@List.append_assoc
def b8:=@List.length_singleton
def b9:=@List.nil_append
def cf:=@Nat.mul_comm
def cg:=@List.map_nil
def cj:=@Nat.lt_of_le_of_lt
def cm:=@Bool.false_eq_true
def cn:=@List.lookup_cons
def cq:=@Nat.le_of_succ_le
def cu:=@Nat.lt_succ_of_lt
def cw:=@Option.isSome_some
def cx:=@Nat.le_add_right
def cy:=@Nat.le_succ_of_le
def cA:=@List.range_succ_eq_map
def cB:=@List.all_cons
def cC:=@List.all_map
def cD:=@List.any_cons
def cE:=@List.any_map
def cF:=@List.take_of_length_le
def cG:=@List.all_eq_true
def cH:=@List.length_nil
def cI:=@Option.isSome_map
def cJ:=@Nat.lt_trans
def cK:=@Option.map_eq_some_iff
def cL:=@List.nodup_nil
def cN:=@Int.toNat_of_nonneg
def cO:=@List.range_succ
def cP:=@List.filterMap_append
def cQ:=@List.take_succ
def cR:=@List.length_reverse
def cS:=@List.map_congr_left
def cT:=@List.length_range
def cU:=@Array.getD_eq_getD_getElem?
def cV:=@Array.mem_of_getElem?
def cW:=@List.ext_getElem
def cX:=@List.pairwise_append
def cY:=@List.range_eq_range'
def cZ:=@List.mem_range'_1
def c5:=@List.pairwise_iff_getElem
def c6:=@Nat.not_lt_zero
def c7:=@List.getElem_map
def dc:=@Nat.lt_trichotomy
def de:=@Nat.sub_self
def dg:=@Nat.le_of_lt_succ
def dh:=@Nat.mod_lt
def du:=@Nat.succ_pos
def dw:=@Nat.pow_succ
def dy:=@Nat.pow_le_pow_right
def dz:=@List.any_eq_true
def dA:=@List.take_left'
def dB:=@List.perm_middle
def dC:=@List.filterMap_cons_some
def dD:=@Array.forIn_toList
def dE:=@Bool.not_true
def dF:=@List.take_append_drop
def dG:=@List.map_singleton
def dH:=@List.not_mem_nil
def dI:=@List.length_eq_zero_iff
def dJ:=@List.length_eraseIdx_of_lt
def dM:=@List.eraseIdx_eq_take_drop_succ
def dN:=@List.pairwise_singleton
def dO:=@Nat.eq_zero_or_pos
def dP:=@List.pairwise_map
def dQ:=@Int.gcd_dvd_left
def dR:=@Int.gcd_dvd_right
def dS:=@Int.dvd_mul_of_dvd_left
def dU:=@Int.fmod_nonneg_of_pos
def dW:=@Int.fmod_lt_of_pos
def dX:=@Int.mul_assoc
def dY:=@Int.mul_comm
def dZ:=@List.lookup_cons_self
def d8:=@List.drop_eq_getElem_cons
def ei:=@List.mem_nil_iff
def eA:=@List.map_take
def eB:=@List.map_drop
def eD:=@Int.natAbs_add_le
def eE:=@Nat.min_eq_left
def eF:=@List.drop_of_length_le
def eG:=@List.pairwise_cons
def eI:=@List.perm_ext_iff_of_nodup
def eJ:=@Int.mul_fdiv_cancel_left
def eK:=@List.cons_append
def eM:=@List.take_length
def eN:=@Int.one_mul
def eO:=@Int.mul_zero
def eP:=@Int.mul_eq_zero
def eQ:=@Int.zero_mul
def eR:=@Int.mul_add
def eS:=@List.mem_of_mem_erase
def eT:=@Nat.mul_le_mul_left
def eU:=@List.length_zip
def eV:=@List.mem_of_mem_take
def eW:=@Nat.mul_le_mul_right
def eX:=@Nat.mul_le_mul
def eY:=@Int.mul_ne_zero
def eZ:=@Int.lt_trichotomy
def fg:=@Rat.lt_of_mul_lt_mul_left
def fj:=@Rat.le_of_lt
def fq:=@List.getElem_range
def fu:=@Rat.intCast_mul
def fy:=@Int.mul_sub
def fz:=@Rat.mul_pos
def fB:=@List.dropLast_subset
def fC:=@List.getElem_take
def fE:=@List.mem_of_mem_drop
def fF:=@Int.lt_of_lt_of_le
def fG:=@Int.pos_of_mul_pos_right
def fH:=@Int.mul_neg
def fJ:=@List.filter_congr
def fK:=@List.filter_eq_nil_iff
def fL:=@List.length_filter_le
def fM:=@List.mem_zipIdx_iff_getElem?
def fN:=@List.getElem_of_mem
def fO:=@List.eq_nil_or_concat
def fP:=@List.concat_eq_append
def fQ:=@List.singleton_append
def fR:=@List.flatMap_cons
def fS:=@List.filter_cons_of_pos
def fT:=@List.filter_cons_of_neg
def fU:=@Int.le_refl
def fV:=@List.filter_filter
def fW:=@Rat.mul_le_mul_of_nonneg_right
def fX:=@Rat.not_lt
def fY:=@Rat.mul_le_mul_of_nonneg_left
def fZ:=@Rat.one_mul
def f9:=@List.sublist_cons_iff
def gh:=@List.drop_eq_nil_of_le
end
set_option Elab.async false
namespace L2
open PySem PySem.Spec PyProof.Rows
abbrev m6:=Sum Int Str
noncomputable def wA:m6->Value->Bool
 |.inl k,v=>Value.isInt k v
 |.inr x,v=>Value.isStrOf x v
def QA(w:World):m6->Int
 |.inl k=>hashInt k
 |.inr x=>hashStr w x
theorem jg:∀{k} {v},wA k v=true->(∃i t,k=Sum.inl i/\v=Value.int i t)\/(∃x t,k=Sum.inr x/\v=Value.str x t)
 |.inl i,v,h=>by obtain⟨t,e⟩:=Value.isInt_shape h;exact .inl ⟨i,t,rfl,e⟩
 |.inr x,v,h=>by obtain⟨t,e⟩:=Value.isStrOf_shape h;exact .inr ⟨x,t,rfl,e⟩
def C0 i t:wA (.inl i) (.int i t)=true:=by simp[wA,Value.isInt]
def Dn x t:wA (.inr x) (.str x t)=true:=by simp[wA,Value.isStrOf]
def Lz a b:decide ((Sum.inl a:m6)=Sum.inl b)=(a==b):=by
 by_cases e:a=b
 .subst e;simp
 .have h:¬(Sum.inl a:m6)=Sum.inl b:=λq=>e (Sum.inl.inj q);rw[aC h];exact (beq_eq_false_iff_ne.mpr e).symm
def NB a b:decide ((Sum.inr a:m6)=Sum.inr b)=decide (a=b):=by
 by_cases e:a=b
 .subst e;simp
 .have h:¬(Sum.inr a:m6)=Sum.inr b:=λq=>e (Sum.inr.inj q);rw[aC h,aC e]
def M3 a b:decide ((Sum.inl a:m6)=Sum.inr b)=false:=aC (λq=>nomatch q)
def LN a b:decide ((Sum.inr a:m6)=Sum.inl b)=false:=aC (λq=>nomatch q)
noncomputable def kz(prog:Program)(w:World):PySem.KeyKind prog w m6 where
 is:=wA
 hash:=QA w
 inj:=λv a b g d=>by
  rcases jg g with⟨i,t,rfl,rfl⟩|⟨x,t,rfl,rfl⟩
  .rcases jg d with⟨j,u,rfl,e⟩|⟨y,u,rfl,e⟩
   .injection e with c _;rw[c]
   .exact nomatch e
  .rcases jg d with⟨j,u,rfl,e⟩|⟨y,u,rfl,e⟩
   .exact nomatch e
   .injection e with c _;rw[c]
 byValue:=λk v h=>by rcases jg h with⟨i,t,rfl,rfl⟩|⟨x,t,rfl,rfl⟩<;>rfl
 pyHash:=λhv h=>by
  rcases jg hv with⟨i,t,rfl,rfl⟩|⟨x,t,rfl,rfl⟩
  .exact wpAny_pyHash_int h
  .exact wpAny_pyHash_str h
 eqBool:=λf hv h=>by
  rcases jg f with⟨i,t,rfl,rfl⟩|⟨x,t,rfl,rfl⟩
  .rcases jg hv with⟨j,u,rfl,rfl⟩|⟨y,u,rfl,rfl⟩
   .rw[Lz]at h;exact wpAny_eqBool_int h
   .rw[M3]at h;exact SeqAt.EqAt.int_str i t y u _ _ _ _ h
  .rcases jg hv with⟨j,u,rfl,rfl⟩|⟨y,u,rfl,rfl⟩
   .rw[LN]at h;exact SeqAt.EqAt.str_int x t j u _ _ _ _ h
   .rw[NB]at h;exact wpAny_eqBool_str h
 «strs»:=λk x t v h=>by
  rcases jg h with⟨i,u,rfl,e⟩|⟨y,u,rfl,e⟩
  .exact nomatch e
  .injection e with c _;subst c;cases v<;>rfl
def zd prog w i t:(kz prog w).is (.inl i) (.int i t)=true:=C0 i t
def zi prog w x t:(kz prog w).is (.inr x) (.str x t)=true:=Dn x t
end L2
namespace L2
open PySem PySem.Spec PyProof.Rows
inductive V where
 |non|bl (b:Bool)|int (i:Int)|str (x:Str)|byt (b:Array UInt8)|flt (b:UInt64)|ref (a:Addr)|ty (n:String)
 deriving DecidableEq
def iE:V->Value->Prop
 |.non,u=>u=Value.none
 |.bl b,u=>u=Value.bool b
 |.int i,u=>∃t,u=Value.int i t
 |.str x,u=>∃t,u=Value.str x t
 |.byt b,u=>∃t,u=Value.bytes b t
 |.flt b,u=>∃t,u=Value.float b t
 |.ref a,u=>u=Value.ref a
 |.ty n,u=>u=Value.type n
abbrev g9:List V->List Value->Prop:=Paired iE
def g9.length(r:g9 xs us):xs.length=us.length:=Paired.length r
theorem g9.get:∀{a:List V} {us:List Vq} {i:Nat} {x:V},g9 a us->a[i]? = some x->∃u,us[i]? = some u/\iE x u
 |_,_,_,_,.nil,e=>by simp at e
 |_,_,0,_,.cons r _,e=>by simp at e;subst e;exact⟨_,rfl,r⟩
 |_,_,i+1,x,.cons _ t,e=>by obtain⟨u,b,c⟩:=g9.get t (by simpa using e);exact⟨u,by simpa using b,c⟩
theorem g9.set(r:iE x u):∀{xs} {us} i,g9 xs us->g9 (xs.set i x) (us.set i u)
 |_,_,_,.nil=>.nil
 |_,_,0,.cons _ t=>.cons r t
 |_,_,i+1,.cons q t=>.cons q (g9.set r i t)
theorem g9.append:∀{xs ys} {us ws},g9 xs us->g9 ys ws->g9 (xs++ys) (us++ws)
 |_,_,_,_,.nil,s=>s
 |_,_,_,_,.cons r t,s=>.cons r (g9.append t s)
theorem g9.take:∀{xs} {us} n,g9 xs us->g9 (xs.take n) (us.take n)
 |_,_,0,_=>.nil
 |_,_,_+1,.nil=>.nil
 |_,_,n+1,.cons r t=>.cons r (g9.take n t)
theorem g9.drop:∀{xs} {us} n,g9 xs us->g9 (xs.drop n) (us.drop n)
 |_,_,0,r=>r
 |_,_,_+1,.nil=>.nil
 |_,_,n+1,.cons _ t=>g9.drop n t
def oV:Option V->Option Value->Prop
 |some v,some u=>iE v u
 |none,none=>True
 |_,_=>False
def KV{a:Type}:List (a×V)->List (a×Value)->Prop:=Paired λ(p:a×V) (q:a×Value)=>p.1=q.1/\iE p.2 q.2
def kV:m6->V
 |.inl i=>.int i
 |.inr x=>.str x
inductive HO where
 |lst (xs:List V)
 |tup (xs:List V)
 |dK (kvs:List (m6×V))|dT (kvs:List (List m6×V))
 |set (S:Int->Bool) (n:Nat)
 |ins (C dx:Addr) (fs:List (Str×V))
 |own (x:Addr)
 |xd (fs:List (Str×V))
 |met (f x:Addr)
 |rng (lo hi:Int)
 |frz (o:Obj) (u:HO)
 |tbl (q:Str) (ps:Array Vq)
 |ext (φ:Heap->Prop)
abbrev Hp:=Addr->Option HO
noncomputable def iU(H:Hp)(a:Addr)(o:HO):Hp:=λb=>if b=a then some o else H b
def gE:iU H a o a=some o:=by unfold iU;rw[aR rfl]
def gI(h:b≠a):iU H a o b=H b:=by unfold iU;rw[aS h]
def N6{H:Hp}(h:H a=some o)(h':H b=some u)(d:o≠u):a≠b:=by intro e;subst e;rw[h]at h';exact d (Option.some.inj h')
def hU{H:Hp}(h:H a=some o)(h':H b=none):a≠b:=by intro e;subst e;rw[h]at h';cases h'
section
variable (P:Program)(w:World)
def sC(h:Heap)(a:Addr)(b:Array Vq):Prop:=∃o,h.get? a=some o/\o.cls=.type "tuple" /\∃n,o.data=.seq b n/\o.dict=none
def sC.tup(x:sC h a items):IsTup h a items:=let ⟨o,e,c,n,d,_⟩:=x;⟨o,e,c,n,d⟩
def sC.new(h:Heap) items:sC (h.push {cls:=.type "tuple",data:=.seq items}) h.objs.size items:=⟨_,au _ rfl,rfl,_,rfl,rfl⟩
def Cp:List Vq->List Value
 |_::_::c::r=>c::Cp r
 |_=>[]
def jz(H:Hp)(h:Heap)(a:Addr):HO->Prop
 |.lst c=>c.length<=sizeLine/\∃(gG:List Vq) (n:Nat),g9 c gG/\h.get? a=some {cls:=.type "list",data:=.seq gG.toArray n}
 |.tup c=>c.length<=sizeLine/\∃gG:List Vq,g9 c gG/\sC h a gG.toArray
 |.dK kvs=>kvs.length<=sizeLine/\(a==sysModules)=false/\∃vs,KV kvs vs/\h.DictOf (kz P w) a vs
 |.dT kvs=>kvs.length<=sizeLine/\(a==sysModules)=false/\∃c:List (List m6×Addr×Value),
   Paired (λ(p:List m6×V) (q:List m6×Addr×Value)=>p.1=q.1/\H q.2.1=some (.tup (p.1.map kV))/\iE p.2 q.2.2) kvs c/\
   ∃o es ep,h.get? a=some o/\o.ExactDict/\o.data=.dict es ep/\es.toList=c.map (entryOfKey (tupleKind (kz P w)))/\(c.map (·.1)).Nodup
 |.set S n=>h.SetOf (intKind P w) a S n
 |.ins C dx fs=>H dx=some (.own a)/\fs.length<=1000/\dx≠a/\h.get? a=some (W.instObj C dx)/\
   ∃d,h.Ns1 dx d/\(∀f,oV (fs.lookup f) (d f))/\PySem.Within d (fs.map (·.1))
 |.own _=>∃o,h.get? a=some o
 |.xd fs=>∃d,h.Ns1 a d/\∀f,oV (fs.lookup f) (d f)
 |.rng lo hi=>∃t u v,h.get? a=some {cls:=.type "range",data:=.fields #[.int lo t,.int hi u,.int 1 v]}
 |.frz o u=>h.get? a=some o/\jz H h a u
 |.tbl q ps=>h.get? a=some {cls:=.none,data:=.fields ps}/\TriplesOk ps.toList/\∀v∈Cp ps.toList,∃b,v=.ref b/\H b=some (.own a)/\h.CodeRec (.ref b) q
 |.met f x=>h.get? a=some (W.methodObj (.ref f) (.ref x))
 |.ext φ=>φ h/\(∃o,h.get? a=some o)/\∀e g:Heap,φ e->(∀o,e.get? a=some o->g.get? a=some o)->φ g
def oo(H:Hp)(h:Heap):Prop:=∀a o,H a=some o->jz P w H h a o
end
section
variable {P:Program}{w:World}{H H':Hp}{h h':Heap}{a:Addr}{o:HO}
def jz.lt(x:jz P w H h a o):a<h.objs.size:=by
 cases o with
 |lst xs=>obtain⟨_,_,_,_,e⟩:=x;exact aM e
 |tup xs=>obtain⟨_,_,_,p⟩:=x;exact (sC.tup p).lt
 |dK kvs=>obtain⟨_,_,_,_,o,_,_,e,_⟩:=x;exact aM e
 |dT kvs=>obtain⟨_,_,_,_,o,_,_,e,_⟩:=x;exact aM e
 |set S n=>obtain⟨o,_,_,_,e,_⟩:=x;exact aM e
 |ins C dx fs=>obtain⟨_,_,_,e,_⟩:=x;exact aM e
 |own y=>obtain⟨_,e⟩:=x;exact aM e
 |xd fs=>obtain⟨_,⟨_,_,_,e,_⟩,_⟩:=x;exact aM e
 |rng lo hi=>obtain⟨_,_,_,e⟩:=x;exact aM e
 |frz ob u=>obtain⟨e,_⟩:=x;exact aM e
 |tbl q ps=>exact aM x.1
 |met f y=>exact aM (x)
 |ext φ=>obtain⟨_,⟨_,e⟩,_⟩:=x;exact aM e
theorem Paired.mapP{F G:α->β->Prop}:∀{l₁} {l₂},Paired F l₁ l₂->(∀a b,F a b->G a b)->Paired G l₁ l₂
 |_,_,.nil,_=>.nil
 |_,_,.cons r t,f=>.cons (f _ _ r) (Paired.mapP t f)
def Paired.imp'{F G:α->β->Prop}(f:∀a b,F a b->G a b){c:List α}{l₂:List β}(r:Paired F c l₂):Paired G c l₂:=Paired.mapP r f
theorem jz.stay(x:jz P w H h a o)(k:∀b u,(b=a\/H b=some (.own a))->h.get? b=some u->h'.get? b=some u)
  (E:∀b,H b=some (.own a)->H' b=some (.own a)) (F:∀b l,H b=some (.tup l)->H' b=some (.tup l)):jz P w H' h' a o:=by
 induction o with
 |lst l=>obtain⟨z,gG,n,r,e⟩:=x;exact⟨z,gG,n,r,k _ _ (.inl rfl) e⟩
 |tup l=>obtain⟨z,gG,r,g,e,c⟩:=x;exact⟨z,gG,r,g,k _ _ (.inl rfl) e,c⟩
 |dK kvs=>obtain⟨z,y,A,r,g,i,j,e,c⟩:=x;exact⟨z,y,A,r,g,i,j,k _ _ (.inl rfl) e,c⟩
 |dT kvs=>obtain⟨z,y,l,r,g,i,j,e,c⟩:=x;exact⟨z,y,l,Paired.mapP r λp q z=>⟨z.1,F _ _ z.2.1,z.2.2⟩,g,i,j,k _ _ (.inl rfl) e,c⟩
 |set S n=>obtain⟨g,i,j,t,e,c⟩:=x;exact⟨g,i,j,t,k _ _ (.inl rfl) e,c⟩
 |ins C dx fs=>obtain⟨d,z,ne,e,s,⟨B,i,j,m,c⟩,r⟩:=x;exact⟨E _ d,z,ne,k _ _ (.inl rfl) e,s,⟨B,i,j,k _ _ (.inr d) m,c⟩,r⟩
 |own y=>obtain⟨g,e⟩:=x;exact⟨g,k _ _ (.inl rfl) e⟩
 |xd fs=>obtain⟨s,⟨B,i,j,e,c⟩,r⟩:=x;exact⟨s,⟨B,i,j,k _ _ (.inl rfl) e,c⟩,r⟩
 |rng lo hi=>obtain⟨t,u,v,e⟩:=x;exact⟨t,u,v,k _ _ (.inl rfl) e⟩
 |frz g u ih=>obtain⟨e,q⟩:=x;exact⟨k _ _ (.inl rfl) e,ih q⟩
 |tbl q ps=>obtain⟨e,t,L⟩:=x;refine⟨k a _ (.inl rfl) e,t,λv hv=>?_⟩;obtain⟨b,I,D,c,o,A,J,N,m,K⟩:=L v hv;cases N;exact⟨_,I,E _ D,_,o,A,J,rfl,k _ _ (.inr D) m,K⟩
 |met f y=>have e:=x;exact k a _ (.inl rfl) e
 |ext φ=>obtain⟨p,⟨o,e⟩,st⟩:=x;exact⟨st _ _ p λo q=>k _ _ (.inl rfl) q,⟨o,k _ _ (.inl rfl) e⟩,st⟩
def oo.lt(x:oo P w H h)(e:H a=some o):a<h.objs.size:=(x a o e).lt
def oo.fresh(x:oo P w H h)(e:h.objs.size<=a):H a=none:=by
 cases q:H a with
 |none=>rfl
 |some u=>exact absurd (aF (x.lt q) e) (bc _)
def oo.kept(x:oo P w H h)(k:∀b u,h.get? b=some u->h'.get? b=some u):oo P w H h':=λa o e=>(x a o e).stay (λb u _ q=>k b u q) (λ_ q=>q) λ_ _ q=>q
def oo.laid(x:oo P w H h)(k:∀b u,h.get? b=some u->h'.get? b=some u)(g:h.objs.size<=a)(new:jz P w (iU H a o) h' a o):oo P w (iU H a o) h':=λb u e=>by
 have d:=x.fresh g;by_cases f:b=a
 .subst f;rw[gE]at e;cases e;exact new
 .rw[gI f]at e;exact (x b u e).stay (λc v _ q=>k c v q) (λc q=>by rw[gI (hU q d)];exact q) λc i q=>by rw[gI (hU q d)];exact q
end
def Rd(H:Hp)(a:Addr)(u:HO):Prop:=H a=some u\/∃o,H a=some (.frz o u)
def Rd.ok(r:Rd H a u)(x:oo P w H h):jz P w H h a u:=by
 rcases r with r|⟨o,r⟩
 .exact x a u r
 .obtain⟨_,q⟩:=x a _ r;exact q
def OX:Option HO->Prop
 |some (.lst _)=>True
 |some (.dK _)=>True
 |some (.dT _)=>True
 |some (.set _ _)=>True
 |some (.ins _ _ _)=>True
 |some (.ext _)=>True
 |_=>False
section
variable {P:Program}{w:World}{H:Hp}{h h':Heap}{x e:Addr}{o':HO}
def oo.write(ok:oo P w H h)(i:OX (H x))(n:e=x\/H e=some (.own x))(k:∀b u,b≠e->h.get? b=some u->h'.get? b=some u)(m:∃u,h'.get? e=some u)
  (new:jz P w (iU H x o') h' x o'):oo P w (iU H x o') h':=λb u q=>by
 have d:∀c y,H c=some (.own y)->c≠x:=λc y r z=>by subst z;rw[r]at i;exact i
 have f:∀c l,H c=some (.tup l)->c≠x:=λc l r z=>by subst z;rw[r]at i;exact i
 by_cases g:b=x
 .subst g;rw[gE]at q;cases q;exact new
 .rw[gI g]at q;by_cases a:b=e
  .have o:H b=some (.own x):=by
    rcases n with z|z
    .exact absurd (a.trans z) g
    .rw[a];exact z
   rw[q]at o;cases o;obtain⟨v,hv⟩:=m;exact⟨v,by rw[a];exact hv⟩
  .refine (ok b u q).stay (λc v j r=>k c v ?_ r) (λc r=>by rw[gI (d c b r)];exact r) λc l r=>by rw[gI (f c l r)];exact r
   rcases j with rfl|j
   .exact a
   .rintro rfl;rcases n with z|z
    .exact d c b j z
    .rw[j]at z;cases z;exact g rfl
end
structure Un(fs ex:List Addr)(H H':Hp)(h h':Heap):Prop where
 keep:∀b o,h.get? b=some o->H b=none->b∉fs->b∉ex->h'.get? b=some o
 slot:∀b o,h.get? b=some o->H b=none->b∈fs->b∉ex->∃sl,h'.get? b=some {o with slots:=sl}
 free:∀b o,h.get? b=some o->H b=none->b∉ex->H' b=none
 there:∀b o,h.get? b=some o->b∉ex->∃o',h'.get? b=some o'
 tups:∀b xs,H b=some (.tup xs)->H' b=some (.tup xs)
 frzs:∀b o u,H b=some (.frz o u)->H' b=some (.frz o u)
 tbls:∀b q ps,H b=some (.tbl q ps)->∃more,H' b=some (.tbl q (ps++more))
section
variable {fs fs' ex ex':List Addr}{H H1 H2:Hp}{h h1 h2 h':Heap}{a x e:Addr}{o:HO}
def Un.any(u:Un fs ex H H1 h h1)(q:h.get? b=some ob)(n:H b=none)(d:b∉ex):∃f,h1.get? b=some {ob with slots:=f}:=by
 by_cases c:b∈fs
 .exact u.slot b ob q n c d
 .exact⟨ob.slots,u.keep b ob q n c d⟩
def Un.kept(k:∀b u,h.get? b=some u->h'.get? b=some u):Un fs ex H H h h':=⟨λb c q _ _ _=>k b c q,λb c q _ _ _=>⟨c.slots,k b c q⟩,λ_ _ _ n _=>n,λb c q _=>⟨c,k b c q⟩,λ_ _ q=>q,λ_ _ _ q=>q,λ_ _ d q=>⟨#[],by rw[q];simp⟩⟩
def Un.refl:Un fs ex H H h h:=Un.kept λ_ _ q=>q
def Un.laid(k:∀b u,h.get? b=some u->h'.get? b=some u)(d:h.objs.size<=a)(c:H a=none):Un fs ex H (iU H a o) h h' where
 keep:=λb u q _ _ _=>k b u q
 slot:=λb u q _ _ _=>⟨u.slots,k b u q⟩
 free:=λb u q n _=>by rw[gI (aN (aF (aM q) d))];exact n
 there:=λb u q _=>⟨u,k b u q⟩
 tups:=λb f q=>by rw[gI (hU q c)];exact q
 frzs:=λb u f q=>by rw[gI (hU q c)];exact q
 tbls:=λb _ g q=>⟨#[],by rw[gI (hU q c),q];simp⟩
def Un.write(d:OX (H x))(p:e=x\/H e=some (.own x))(k:∀b u,b≠e->h.get? b=some u->h'.get? b=some u)(g:∃u,h'.get? e=some u):Un fs ex H (iU H x o) h h':=by
 have j:∀b,H b=none->b≠x:=λb n z=>by subst z;rw[n]at d;exact d
 have i:∀b,H b=none->b≠e:=λb n z=>by
  subst z;rcases p with r|r
  .exact j b n r
  .rw[n]at r;cases r
 have f:∀b u,H b=some u->¬OX (some u)->b≠x:=λb u q m z=>by subst z;rw[q]at d;exact m d
 refine⟨λb u q n _ _=>k b u (i b n) q,λb u q n _ _=>⟨u.slots,k b u (i b n) q⟩,λb u q n _=>by rw[gI (j b n)];exact n,λb u q _=>?_,
  λb l q=>by rw[gI (f b _ q λz=>z)];exact q,λb u l q=>by rw[gI (f b _ q λz=>z)];exact q,λb _ s q=>⟨#[],by rw[gI (f b _ q λz=>z),q];simp⟩⟩
 by_cases c:b=e
 .subst c;exact g
 .exact⟨u,k b u c q⟩
end
noncomputable def Qb(h:Heap)(H:Hp):List Addr:=(List.range h.objs.size).filter λa=>(H a).isSome
def HB(h:Heap)(H:Hp):Heap:=W.hideAll h (Qb h H)
def DG h H:(HB h H).objs.size=h.objs.size:=W.hideAll_size _ _
def Gc(e:h.get? b=some o)(n:H b=none):(HB h H).get? b=some o:=W.hideAll_get _ e λa=>by have q:=(aV.mp a).2;rw[n]at q;simp at q
def Jr(e:(HB h H).get? b=some o):h.get? b=some o/\H b=none:=by
 have a:=W.of_hideAll (Qb h H) e;refine⟨a,?_⟩;cases q:H b with
 |none=>rfl
 |some x=>have c:b∈Qb h H:=aV.mpr ⟨aT.mpr (aM a),by simp[q]⟩;have z:(HB h H).get? b=none:=W.hideAll_none (Qb h H) c;rw[z]at e;cases e
end L2
namespace L2
open PySem PySem.Spec PyProof.Rows
structure Mod(K:W.Frag)(mg:Str->Option Value)(base:Heap):Prop where
 kin:K.In base
 glob:base.Ns mainGlobals mg
 blt:∃mb,base.Ns builtinsNs mb/\∀x:Str,x≠ "__name__" ->mb x=bootBuiltins x
 nolimit:base.NoLimit
def GS(a:Heap)(H:Hp):Prop:=∀c P b,(c,P)∈a.life.ids->a.CodeRec (.ref c) b->∃d,H P=some (.tbl (b++ ".<locals>.<lambda>") d)
structure Cx where
 prog:Program
 w:World
 K:W.Frag
 mg:Str->Option Value
 base:Heap
 A:Around
 N:List Str
 s₀:Sq
 H₀:Hp
 env:Env
 outer:List Env
 stack:List Env
 ex:List Addr
 fn:Str->Bool
 calm:Bool
 pn:List (Addr×Obj)
 xe:Vq->Shared->Prop
noncomputable def CS(l:List Env):List Addr:=l.filterMap (·.frame)
abbrev Cx.fs(X:Cx):List Addr:=CS X.outer
def Pd(a:Scope)(x:Str):Prop:=a.names.lookup x=some .local\/a.names.lookup x=some .cell\/a.names.lookup x=some .free
def Ea(a:Scope)(x:Str):Prop:=a.names.lookup x=some .local\/a.names.lookup x=some .cell
def Qh(a:Env)(h:Heap)(m:Str->Option Value)(x:Str)(u:Vq):Prop:=(a.kindOf x=some .local/\m x=some u)\/((a.kindOf x=some .cell\/a.kindOf x=some .free)/\∃c,a.cells.lookup x=some c/\h.IsCell c (some u))
structure Cx.Ok(X:Cx):Prop where
 mod:Mod X.K X.mg X.base
 kind:X.env.scope.kind=.function
 glob:X.env.globals=mainGlobals
 blt:X.env.builtins=builtinsNs
 above:X.s₀.heap.objs.size<=X.env.locals
 inj:∀x y c,X.env.cells.lookup x=some c->X.env.cells.lookup y=some c->x=y
 has:∀x,(X.env.kindOf x=some .cell\/X.env.kindOf x=some .free)->∃c,X.env.cells.lookup x=some c
 cab:∀x c,X.fn x=true->X.env.cells.lookup x=some c->X.s₀.heap.objs.size<=c
 hd:X.calm=true->X.A.handled=none
 frames:X.A.frames=some X.stack
 stk:X.stack=X.outer\/(X.stack=X.env::X.outer/\X.env.frame=some X.env.locals)
 exf:∀b∈X.ex,b≠X.env.locals/\∀x c,X.env.cells.lookup x=some c->c≠b
 bs:∀b o,X.base.get? b=some o->X.s₀.heap.get? b=some o/\X.H₀ b=none
 bsz:X.base.objs.size<=X.s₀.heap.objs.size
 noex:∀b o,X.base.get? b=some o->b∉X.ex
 exfs:∀b∈X.ex,b∉X.fs
 funs:X.s₀.heap.FunFrames X.base X.outer
 frf:∀b∈X.fs,X.H₀ b=none
 tab:GS X.base X.H₀
structure gP(X:Cx)(gx:List (Addr×Obj))(σ:List (Option V))(H:Hp)(s:Sq):Prop where
 ok:X.Ok
 os:s.os=X.s₀.os
 bare:AllBare s.gens
 base:Un X.fs X.ex X.H₀ H X.s₀.heap s.heap
 loc:∃m,s.heap.Ns X.env.locals m/\∀(i:Nat) (x:Str) (v:V),X.N[i]? = some x->σ[i]? = some (some v)->Pd X.env.scope x->∃u,iE v u/\Qh X.env s.heap m x u
 cell:∀x c,X.env.cells.lookup x=some c->∃v,s.heap.IsCell c v
 free:H X.env.locals=none
 freeC:∀x c,X.env.cells.lookup x=some c->H c=none
 pin:∀p∈X.pn++gx,s.heap.get? p.1=some p.2/\H p.1=none/\p.1≠X.env.locals/\p.1∉X.fs/\∀v,p.2.data≠.cell v
 hok:oo X.prog X.w H s.heap
 len:σ.length=X.N.length
section
variable {X:Cx}{gx:List (Addr×Obj)}{σ:List (Option V)}{H H':Hp}{s:Sq}{h':Heap}
def Cx.Ok.nofr(ok:X.Ok)(e:X.base.get? b=some o):b∉X.fs:=λa=>by have:=(ok.funs.mem a).1;rw[e]at this;cases this
def gP.bs(I:gP X gx σ H s):∀b o,X.base.get? b=some o->s.heap.get? b=some o/\H b=none:=λb o e=>⟨I.base.keep b o (I.ok.bs b o e).1 (I.ok.bs b o e).2 (I.ok.nofr e) (I.ok.noex b o e),I.base.free b o (I.ok.bs b o e).1 (I.ok.bs b o e).2 (I.ok.noex b o e)⟩
def gP.tab(I:gP X gx σ H s):GS X.base H:=λc P d a b=>let ⟨ps,e⟩:=I.ok.tab c P d a b;let ⟨more,q⟩:=I.base.tbls _ _ ps e;⟨ps++more,q⟩
def gP.bk(I:gP X gx σ H s):∀b o,X.base.get? b=some o->s.heap.get? b=some o:=λb o e=>(I.bs b o e).1
def gP.mod(I:gP X gx σ H s):Mod X.K X.mg X.base:=I.ok.mod
def gP.kIn(I:gP X gx σ H s):X.K.In s.heap:=I.ok.mod.kin.keeps I.bk
def gP.lt(I:gP X gx σ H s):X.env.locals<s.heap.objs.size:=let ⟨_,hn,_⟩:=I.loc;hn.lt
def gP.sz(I:gP X gx σ H s):X.s₀.heap.objs.size<=s.heap.objs.size:=aO I.ok.above (bh I.lt)
def gP.nofs(I:gP X gx σ H s)(h:s.heap.objs.size<=a):a∉X.fs:=λb=>by obtain⟨_,o,c,_⟩:=I.ok.funs.mem b;exact absurd (aF (aM c) (aO I.sz h)) (bc _)
def gP.cne(I:gP X gx σ H s):∀x c,X.env.cells.lookup x=some c->c≠X.env.locals:=λx c e z=>by obtain⟨v,o,f,d⟩:=I.cell x c e;obtain⟨m,⟨h,i,g,b,a,_⟩,_⟩:=I.loc;rw[z,b]at f;cases f;rw[a]at d;cases d
def gP.funs(I:gP X gx σ H s):s.heap.FunFrames X.base X.outer:=by
 have all:∀(l:List Env),(∀b∈CS l,b∈X.fs)->X.s₀.heap.FunFrames X.base l->s.heap.FunFrames X.base l:=by
  intro l;induction l with
  |nil=>intro _ _;trivial
  |cons env r ih=>intro f g;obtain⟨j,⟨L,o,d,h,i,k⟩,hr⟩:=g;have a:=f L (by unfold CS;rw[bj,d];exact bx);obtain⟨m,e⟩:=I.base.slot L o i (I.ok.frf L a) a λz=>I.ok.exfs L z a;exact⟨j,⟨L,_,d,h,e,k⟩,ih (λb c=>f b (by unfold CS;rw[bj,d];exact bz _ c)) hr⟩
 exact all X.outer (λ_ c=>c) I.ok.funs
def gP.stack(I:gP X gx σ H s):s.heap.FunFrames X.base X.stack:=by
 rcases I.ok.stk with e|⟨e,b⟩
 .rw[e];exact I.funs
 .rw[e];obtain⟨m,a,_⟩:=I.loc;refine .cons (by rw[I.ok.kind];decide) b a ?_ I.funs;exact Heap.get?_none_of_le (aO I.ok.bsz I.ok.above)
def gP.stkSub(I:gP X gx σ H s):∀b∈CS X.stack,b∈X.env.locals::X.fs:=λb a=>by
 rcases I.ok.stk with e|⟨e,c⟩
 .rw[e]at a;exact bz _ a
 .rw[e]at a;unfold CS at a;rw[bj,c]at a;exact a
def gP.stkFree(I:gP X gx σ H s):∀b∈CS X.stack,H b=none:=λb a=>by
 rcases aG.mp (I.stkSub b a) with e|a
 .rw[e];exact I.free
 .obtain⟨_,o,c,_⟩:=I.ok.funs.mem a;exact I.base.free b o c (I.ok.frf b a) λz=>I.ok.exfs b z a
def gP.step{ch:List Addr}(I:gP X gx σ H s)
  (j:∀b∈ch,(b∈X.ex\/X.s₀.heap.objs.size<=b)/\b≠X.env.locals/\(∀x c,X.env.cells.lookup x=some c->c≠b)/\∀p∈X.pn++gx,p.1≠b)
  (keep:∀b o,b≠X.env.locals->b∉X.fs->b∉ch->s.heap.get? b=some o->H b=none->h'.get? b=some o)
  (slot:∀b o,b≠X.env.locals->b∈X.fs->b∉ch->s.heap.get? b=some o->H b=none->∃Y,h'.get? b=some {o with slots:=Y}) (f:∀b o,b∉ch->s.heap.get? b=some o->H b=none->H' b=none)
  (D:∀b o,b∉ch->s.heap.get? b=some o->∃L,h'.get? b=some L)
  (P:∀b B,H b=some (.tup B)->H' b=some (.tup B)) (N:∀b o u,H b=some (.frz o u)->H' b=some (.frz o u)) (F:∀b q R,H b=some (.tbl q R)->∃K,H' b=some (.tbl q (R++K)))
  (ns:∀m,s.heap.Ns X.env.locals m->h'.Ns X.env.locals m) (U:oo X.prog X.w H' h') (hg:AllBare g') :
  gP X gx σ H' {s with heap:=h',gens:=g',drawn:=d',toks:=t'}:=by
 have Q:∀b o,X.s₀.heap.get? b=some o->b≠X.env.locals:=λb o e=>aN (aF (aM e) I.ok.above);have y:∀b o,X.s₀.heap.get? b=some o->b∉X.ex->b∉ch:=λb o e a C=>by
  rcases (j b C).1 with z|z
  .exact a z
  .exact absurd (aF (aM e) z) (bc _)
 have h:∀x c,X.env.cells.lookup x=some c->∀v,s.heap.IsCell c v->h'.IsCell c v:=λx c e v ⟨o,E,Z⟩=>by
  have g:c∉ch:=λz=>(j c z).2.2.1 x c e rfl;by_cases hc:c∈X.fs
  .obtain⟨Y,q⟩:=slot c o (I.cne x c e) hc g E (I.freeC x c e);exact⟨_,q,Z⟩
  .exact⟨o,keep c o (I.cne x c e) hc g E (I.freeC x c e),Z⟩
 refine⟨I.ok,I.os,hg,⟨λb o e n C a=>?_,λb o e n C a=>?_,λb o e n a=>?_,λb o e a=>?_,λb B e=>P b B (I.base.tups b B e),λb o B e=>N b o B (I.base.frzs b o B e),λb _ R e=>?_⟩,?_,λx c e=>?_,?_,λx c e=>?_,λp hp=>?_,U,I.len⟩
 .exact keep b o (Q b o e) C (y b o e a) (I.base.keep b o e n C a) (I.base.free b o e n a)
 .obtain⟨Y,A⟩:=I.base.slot b o e n C a;obtain⟨S,J⟩:=slot b _ (Q b o e) C (y b o e a) A (I.base.free b o e n a);exact⟨S,J⟩
 .obtain⟨L,A⟩:=I.base.there b o e a;exact f b L (y b o e a) A (I.base.free b o e n a)
 .obtain⟨L,A⟩:=I.base.there b o e a;exact D b L (y b o e a) A
 .obtain⟨m1,A⟩:=I.base.tbls b _ R e;obtain⟨m2,J⟩:=F b _ _ A;exact⟨m1++m2,by rw[J,bA]⟩
 .obtain⟨m,hn,hl⟩:=I.loc;refine⟨m,ns m hn,λi x v A J e3=>?_⟩;obtain⟨u,r,l⟩:=hl i x v A J e3;refine⟨u,r,?_⟩;rcases l with l|⟨k,c,e,z⟩
  .exact .inl l
  .exact .inr ⟨k,c,e,h x c e _ z⟩
 .obtain⟨v,z⟩:=I.cell x c e;exact⟨v,h x c e v z⟩
 .obtain⟨m,⟨o,_,_,E,_⟩,_⟩:=I.loc;exact f _ o (λz=>(j _ z).2.1 rfl) E I.free
 .obtain⟨v,o,E,Z⟩:=I.cell x c e;exact f c o (λz=>(j c z).2.2.1 x c e rfl) E (I.freeC x c e)
 .obtain⟨e,n,ne,nf,d⟩:=I.pin p hp;have g:p.1∉ch:=λz=>(j p.1 z).2.2.2 p hp rfl;exact⟨keep p.1 p.2 ne nf g e n,f p.1 p.2 g e n,ne,nf,d⟩
def gP.un(I:gP X gx σ H s)(u:Un X.fs [] H H' s.heap h')(d:oo X.prog X.w H' h'):gP X gx σ H' {s with heap:=h',toks:=t'}:=by obtain⟨m,⟨o,l,q,h,r⟩,_⟩:=id I.loc;obtain⟨x,i⟩:=u.any h I.free (by simp);exact I.step (ch:=[]) (λ_ z=>nomatch z) (λb o _ f _ e n=>u.keep b o e n f (by simp)) (λb o _ f _ e n=>u.slot b o e n f (by simp)) (λb o _ e n=>u.free b o e n (by simp)) (λb o _ e=>u.there b o e (by simp)) u.tups u.frzs u.tbls (λp j=>by obtain⟨v,c,g,a,k⟩:=j;rw[h]at a;cases a;exact⟨_,c,g,i,k⟩) d I.bare
def gP.call(I:gP X gx σ H s)(u:Un (CS X.stack) ch H H' s.heap h')(h:oo X.prog X.w H' h')(q:AllBare g')
  (d:∀b∈ch,(b∈X.ex\/X.s₀.heap.objs.size<=b)/\b≠X.env.locals/\(∀x c,X.env.cells.lookup x=some c->c≠b)/\∀p∈X.pn++gx,p.1≠b) :
  gP X gx σ H' {s with heap:=h',gens:=g',drawn:=d',toks:=t'}:=by
 obtain⟨m,⟨o,A,C,k,r⟩,_⟩:=id I.loc;obtain⟨E,i⟩:=u.any k I.free λz=>(d _ z).2.1 rfl;exact I.step d (λb o i l a e n=>u.keep b o e n (λz=>(aG.mp (I.stkSub b z)).elim i l) a) (λb o _ _ a e n=>u.any e n a) (λb o a e n=>u.free b o e n a) (λb o a e=>u.there b o e a) u.tups u.frzs u.tbls (λB v=>by obtain⟨D,g,j,f,y⟩:=v;rw[k]at f;cases f;exact⟨_,g,j,i,y⟩) h q
def gP.turned(I:gP X gx σ H s)(k:∀b o,b≠it->s.heap.get? b=some o->h'.get? b=some o)(w:H it=none)(f:it≠X.env.locals)
  (g:it∈X.ex\/X.s₀.heap.objs.size<=it) (h:∀x c,X.env.cells.lookup x=some c->c≠it) (l:∀p∈X.pn++gx,p.1≠it):gP X gx σ H {s with heap:=h',toks:=t'}:=by
 have d:∀b u,H b=some u->b≠it:=λb u e z=>by rw[z,w]at e;cases e
 refine I.step (ch:=[it]) (λb y=>?_) (λb o _ _ a e _=>k b o (λz=>a (by simp[z])) e) (λb o _ _ a e _=>⟨o.slots,k b o (λz=>a (by simp[z])) e⟩) (λ_ _ _ _ n=>n)
  (λb o a e=>⟨o,k b o (λz=>a (by simp[z])) e⟩) (λ_ _ e=>e) (λ_ _ _ e=>e) (λb _ C e=>⟨#[],by rw[e];simp⟩) (λm B=>?_) (λb u e=>?_) I.bare
 .have e:b=it:=by simpa using y
  subst e;exact⟨g,f,h,l⟩
 .obtain⟨o,i,j,A,r⟩:=B;exact⟨o,i,j,k _ o (Ne.symm f) A,r⟩
 .refine (I.hok b u e).stay (λc v a q=>k c v ?_ q) (λ_ q=>q) λ_ _ q=>q;rcases a with z|z
  .rw[z];exact d b u e
  .exact d c _ z
def gP.tok(I:gP X gx σ H s) t:gP X gx σ H {s with toks:=t}:=I.un Un.refl I.hok
def gP.kept(I:gP X gx σ H s)(k:∀b u,s.heap.get? b=some u->h'.get? b=some u):gP X gx σ H {s with heap:=h',toks:=t'}:=I.un (Un.kept k) (I.hok.kept k)
def gP.laid(I:gP X gx σ H s)(k:∀b u,s.heap.get? b=some u->h'.get? b=some u)(c:s.heap.objs.size<=a)(new:jz X.prog X.w (iU H a o) h' a o) :
  gP X gx σ (iU H a o) {s with heap:=h',toks:=t'}:=I.un (Un.laid k c (I.hok.fresh c)) (I.hok.laid k c new)
def gP.write(I:gP X gx σ H s)(d:OX (H x))(c:e=x\/H e=some (.own x))(k:∀b u,b≠e->s.heap.get? b=some u->h'.get? b=some u)(a:∃u,h'.get? e=some u)
  (new:jz X.prog X.w (iU H x o) h' x o):gP X gx σ (iU H x o) {s with heap:=h',toks:=t'}:=I.un (Un.write d c k a) (I.hok.write d c k a new)
def gP.weak(I:gP X gx σ H s)(a:σ'.length=σ.length)(w:∀(i:Nat) v,σ'[i]? = some (some v)->σ[i]? = some (some v)):gP X gx σ' H s:=⟨I.ok,I.os,I.bare,I.base,let ⟨m,hn,hl'⟩:=I.loc;⟨m,hn,λi x v d c b=>hl' i x v d (w i v c) b⟩,I.cell,I.free,I.freeC,I.pin,I.hok,a.trans I.len⟩
def gP.pins_of(I:gP X gx σ H s)(h:∀p∈pins',s.heap.get? p.1=some p.2/\H p.1=none/\p.1≠X.env.locals/\p.1∉X.fs/\∀v,p.2.data≠.cell v):gP X pins' σ H s:=⟨I.ok,I.os,I.bare,I.base,I.loc,I.cell,I.free,I.freeC,λp a=>(aj.mp a).elim (λz=>I.pin p (ay _ z)) (h p),I.hok,I.len⟩
def zm{N:List Str}(e:N.Nodup){i j:Nat}(a:N[i]? = some x)(b:N[j]? = some x):i=j:=by obtain⟨f,d⟩:=ae.mp a;obtain⟨g,c⟩:=ae.mp b;exact (List.getElem_inj e).mp (d.trans c.symm)
def vD{M:Model}{A:Around}{E:Vq->Shared->Prop}{i:Nat}{x:Str}{v:V}{u:Vq}{Q:Unit->Shared->Prop}(I:gP X gx σ H s)(hN:X.N.Nodup)(Y:X.N[i]? = some x)(B:Ea X.env.scope x)(r:iE v u)
  (h:∀s',gP X gx (σ.set i (some v)) H s'->(∃a,Heap.SameBut a s.heap s'.heap/\(a=X.env.locals\/X.env.cells.lookup x=some a))->Q () s') (hf:X.fn x=true\/X.env.scope.names.lookup x=some .local:=by first|exact .inl rfl|exact .inr rfl|assumption):wpAny M A (storeName X.env x u) Q E s:=by
 obtain⟨m,hn,hl⟩:=id I.loc;have Z:(X.env.scope.kind==.class||(X.env.scope.kind==.module&&X.env.locals != X.env.globals))=false:=by rw[I.ok.kind];rfl
 have F:i<σ.length:=by rw[I.len];exact (ae.mp Y).1
 have cne:=I.cne;have tracked:∀{a:Addr} {h':Heap},(∃o,s.heap.get? a=some o/\H a=none)->Heap.SameBut a s.heap h'->oo X.prog X.w H h':=λ{a h'} ha f b ob e=>by
  obtain⟨_,_,C⟩:=ha;refine (I.hok b ob e).stay (λc w' l q=>(f.2 c ?_).trans q) (λ_ q=>q) λ_ _ q=>q;rintro rfl;rcases l with rfl|l
  .rw[C]at e;cases e
  .rw[C]at l;cases l
 rcases B with J|J
 .refine wpAny_storeName_local J hn (λh' hn' f=>?_) Z;obtain⟨oL,_,_,hoL,_⟩:=id hn;refine h _ ⟨I.ok,I.os,I.bare,⟨λb o e n P B=>?_,λb o e n P B=>?_,I.base.free,λb o e B=>?_,I.base.tups,I.base.frzs,I.base.tbls⟩,⟨_,hn',λj y v' g D e3=>?_⟩,λy c e=>?_,I.free,I.freeC,λp hp=>?_,tracked ⟨oL,hoL,I.free⟩ f,by simpa using I.len⟩ ⟨_,f,.inl rfl⟩
  .exact (f.2 b (aN (aF (aM e) I.ok.above))).trans (I.base.keep b o e n P B)
  .obtain⟨sl,g⟩:=I.base.slot b o e n P B;exact⟨sl,(f.2 b (aN (aF (aM e) I.ok.above))).trans g⟩
  .obtain⟨o',g⟩:=I.base.there b o e B;exact⟨o',(f.2 b (aN (aF (aM e) I.ok.above))).trans g⟩
  .by_cases K:j=i
   .subst K;rw[Y]at g;cases g;rw[List.getElem?_set_self F]at D;cases D;exact⟨u,r,.inl ⟨J,by simp⟩⟩
   .rw[ar (Ne.symm K)]at D;obtain⟨u',r',q⟩:=hl j y v' g D e3;refine⟨u',r',?_⟩;rcases q with⟨k,e⟩|⟨k,c,e,z⟩
    .refine .inl ⟨k,?_⟩;have:y≠x:=λe=>K (zm hN g (e▸Y));simp[this,e]
    .exact .inr ⟨k,c,e,z.sameBut f (cne y c e)⟩
  .obtain⟨w',z⟩:=I.cell y c e;exact⟨w',z.sameBut f (cne y c e)⟩
  .obtain⟨e,n,ne,nf,d⟩:=I.pin p hp;exact⟨(f.2 p.1 ne).trans e,n,ne,nf,d⟩
 .have L:X.fn x=true:=by
   rcases hf with z|z
   .exact z
   .rw[z]at J;cases J
  obtain⟨c,l⟩:=I.ok.has x (.inl J);obtain⟨w',z⟩:=I.cell x c l;refine wpAny_storeName_cell I.ok.kind J l z (λh' U f=>?_);obtain⟨oc,hoc,R⟩:=id z;refine h {s with heap:=h'} ⟨I.ok,I.os,I.bare,⟨λb o e n P B=>?_,λb o e n P B=>?_,I.base.free,λb o e B=>?_,I.base.tups,I.base.frzs,I.base.tbls⟩,⟨m,hn.sameBut f (Ne.symm (cne x c l)),λj y v' g D e3=>?_⟩,λy c' e=>?_,I.free,I.freeC,λp hp=>?_,tracked ⟨oc,hoc,I.freeC x c l⟩ f,by simpa using I.len⟩ ⟨c,f,.inr l⟩
  .exact (f.2 b (aN (aF (aM e) (I.ok.cab x c L l)))).trans (I.base.keep b o e n P B)
  .obtain⟨sl,g⟩:=I.base.slot b o e n P B;exact⟨sl,(f.2 b (aN (aF (aM e) (I.ok.cab x c L l)))).trans g⟩
  .obtain⟨o',g⟩:=I.base.there b o e B;exact⟨o',(f.2 b (aN (aF (aM e) (I.ok.cab x c L l)))).trans g⟩
  .by_cases K:j=i
   .subst K;rw[Y]at g;cases g;rw[List.getElem?_set_self F]at D;cases D;exact⟨u,r,.inr ⟨.inl J,c,l,U⟩⟩
   .rw[ar (Ne.symm K)]at D;obtain⟨u',r',q⟩:=hl j y v' g D e3;refine⟨u',r',?_⟩;rcases q with q|⟨k,c',e,z'⟩
    .exact .inl q
    .refine .inr ⟨k,c',e,z'.sameBut f ?_⟩;rintro rfl;exact K (zm hN g (I.ok.inj _ _ _ e l▸Y))
  .by_cases S:c'=c
   .subst S;exact⟨_,U⟩
   .obtain⟨w2,z2⟩:=I.cell y c' e;exact⟨w2,z2.sameBut f S⟩
  .obtain⟨e,n,ne,nf,d⟩:=I.pin p hp;refine⟨(f.2 p.1 ?_).trans e,n,ne,nf,d⟩;intro q;rw[q,hoc]at e;have q':=Option.some.inj e;exact d w' (by rw[<-q'];exact R)
def zJ{M:Model}{A:Around}{E:Vq->Shared->Prop}{i:Nat}{x:Str}{v:V}{u:Vq}{Q:Unit->Shared->Prop}(I:gP X gx σ H s)(e:X.N.Nodup)(c:X.N[i]? = some x)(d:Ea X.env.scope x)(r:iE v u)
  (h:∀a,gP X gx (σ.set i (some v)) H a->Q () a) (f:X.fn x=true\/X.env.scope.names.lookup x=some .local:=by first|exact .inl rfl|exact .inr rfl|assumption):wpAny M A (storeName X.env x u) Q E s:=
 vD I e c d r (λa b _=>h a b) f
def gP.call'(I:gP X gx σ H s)(g:s'.os=s.os)(u:Un (CS X.stack) ch H H' s.heap s'.heap)(d:oo X.prog X.w H' s'.heap)(f:AllBare s'.gens)
  (a:∀b∈ch,(b∈X.ex\/X.s₀.heap.objs.size<=b)/\b≠X.env.locals/\(∀x c,X.env.cells.lookup x=some c->c≠b)/\∀p∈X.pn++gx,p.1≠b):gP X gx σ H' s':=by
 obtain⟨h',k,j,h,i⟩:=s';have e:=g;subst e;exact I.call u d f a
end
abbrev XK:=Value->Option Addr->Hp->Prop
abbrev St:=List (Option V)
abbrev VK:=V->Hp->Prop
abbrev TE:=St->Hp->VK->Prop
abbrev TT:=St->Hp->(Bool->Hp->Prop)->Prop
abbrev TA:=St->Hp->(List V->Hp->Prop)->Prop
structure rA where
 nx:St->Hp->Prop
 rt:VK
 bk:St->Hp->Prop:=λ_ _=>False
 ct:St->Hp->Prop:=λ_ _=>False
abbrev TS:=rA->St->Hp->Prop
def EP(X:Cx)(b:List (Addr×Obj))(c:St)(Q:VK)(u:Vq)(d:Sq):Prop:=∃v a,gP X b c a d/\iE v u/\Q v a
def TP(X:Cx)(c:List (Addr×Obj))(d:St)(Q:Bool->Hp->Prop)(b:Bool)(e:Sq):Prop:=∃a,gP X c d a e/\Q b a
def AP(X:Cx)(c:List (Addr×Obj))(d:St)(Q:List V->Hp->Prop)(us:List Vq)(e:Sq):Prop:=∃a b,gP X c d b e/\g9 a us/\Q a b
def SP(X:Cx)(c:List (Addr×Obj))(D:rA)(f:Flow)(d:Sq):Prop:=
 match f with
 |.next=>∃a b,gP X c a b d/\D.nx a b
 |.brk=>∃a b,gP X c a b d/\D.bk a b
 |.cont=>∃a b,gP X c a b d/\D.ct a b
 |.ret u=>∃v a b,gP X c a b d/\iE v u/\D.rt v b
def PE(X:Cx)(e:Expr)(t:TE):Prop:=∀(b:List (Addr×Obj)) (s:Sq) (a:St) (H:Hp) (Q:VK),gP X b a H s->t a H Q->wpAny (model X.prog X.w) X.A (eval e X.env) (EP X b a Q) X.xe s
def PT(X:Cx)(e:Expr)(t:TT):Prop:=∀(b:List (Addr×Obj)) (s:Sq) (a:St) (H:Hp) (Q:Bool->Hp->Prop),gP X b a H s->t a H Q->wpAny (model X.prog X.w) X.A (isTrue e X.env (eval e X.env)) (TP X b a Q) X.xe s
def PW(X:Cx)(e:Expr)(t:TT):Prop:=∀(a:Sem Vq) (c:List (Addr×Obj)) (s:Sq) (b:St) (H:Hp) (Q:Bool->Hp->Prop),gP X c b H s->t b H Q->wpAny (model X.prog X.w) X.A (isTrue e X.env a) (TP X c b Q) X.xe s
def PW.pt(h:PW X e t):PT X e t:=h _
def PA(X:Cx)(es:List Expr)(t:TA):Prop:=∀(pos:Pos) (b:List (Addr×Obj)) (s:Sq) (a:St) (H:Hp) (Q:List V->Hp->Prop),gP X b a H s->t a H Q->wpAny (model X.prog X.w) X.A (spliced (backTo pos (starEach es X.env))) (AP X b a Q) X.xe s
def PS(X:Cx)(st:Stmt)(t:TS):Prop:=∀(a:List (Addr×Obj)) (s:Sq) (b:St) (H:Hp) (D:rA),gP X a b H s->t D b H->wpAny (model X.prog X.w) X.A (exec st X.env) (SP X a D) X.xe s
def zb(X:Cx)(st:List Stmt)(t:TS):Prop:=∀(a:List (Addr×Obj)) (s:Sq) (b:St) (H:Hp) (D:rA),gP X a b H s->t D b H->wpAny (model X.prog X.w) X.A (execs st X.env) (SP X a D) X.xe s
def jB{b:Type}{t:Sem b}{Q c:b->Shared->Prop}{M:Model}{A:Around}{E:Vq->Shared->Prop}{s:Sq}(h:wpAny M A t Q E s)(d:∀a s,Q a s->c a s):wpAny M A t c E s:=wpAny_mono h d λ_ _ x=>x
end L2
namespace L2
open PySem PySem.Spec PyProof.Rows
section
variable {X:Cx}
def mX(i:Nat):TE:=λa H Q=>∃v,a[i]? = some (some v)/\Q v H
def tC(v:V):TE:=λ_ H Q=>Q v H
def Nu(w:X.N[i]? = some x)(hv:Pd X.env.scope x)(g:(x==("__debug__" : Str))=false:=by decide)(f:(x==("__classdict__" : Str))=false:=by decide):PE X (.Name x pos) (mX i):=by
 intro n s p H Q I h;obtain⟨v,e,h⟩:=h;obtain⟨m,o,k⟩:=I.loc;obtain⟨u,r,l⟩:=k i x v w e hv;have b:EP X n p Q u s:=⟨v,H,I,r,h⟩;rcases l with⟨d,q⟩|⟨d,c,j,a⟩
 .exact wpAny_Name (wpAny_loadName_local I.ok.kind d o q b) g
 .rcases d with d|d
  .exact wpAny_Name (wpAny_loadName_cell I.ok.kind d j a b) g
  .exact wpAny_Name (wpAny_loadName_free I.ok.kind d j a b f) g
def Lb{i j pos}:PE X (.Constant (.int i) j pos) (tC (.int i)):=λ_ _ _ H _ I h=>wpAny_Constant_int ⟨.int i,H,I.tok _,⟨_,rfl⟩,h⟩
def Pt{b j pos}:PE X (.Constant (.bool b) j pos) (tC (.bl b)):=λ_ _ _ H _ I h=>Constant_bool ⟨.bl b,H,I,rfl,h⟩
def Gl(X:Cx)(x:Str):Prop:=X.env.kindOf x=some .globalImplicit
def wZ(I:gP X gx σ H s)(b:Gl X x)(c:X.mg x=some u)(h:Q u s)
  (a:(x==("__debug__" : Str))=false:=by decide):wpAny (model X.prog X.w) X.A (eval (.Name x pos) X.env) Q E s:=
 Calls.Name_function_global I.ok.kind b (Calls.loadGlobal_global (by rw[I.ok.glob];exact I.mod.glob.keeps I.bk) c h) a
def mx(I:gP X gx σ H s)(e:Gl X x)(f:X.mg x=none)(hv:bootBuiltins x=some u)(h:Q u s)
  (b:x≠ "__name__" :=by decide) (c:(x==("__debug__" : Str))=false:=by decide):wpAny (model X.prog X.w) X.A (eval (.Name x pos) X.env) Q E s:=by
 obtain⟨g,a,d⟩:=I.mod.blt;exact Calls.Name_function_global I.ok.kind e (Calls.loadGlobal_builtin (by rw[I.ok.glob];exact I.mod.glob.keeps I.bk) f (by rw[I.ok.blt];exact a.keeps I.bk) ((d x b).trans hv) h) c
def JO(b:Gl X x)(c:X.mg x=some u)(r:iE v u)(a:(x==("__debug__" : Str))=false:=by decide):PE X (.Name x pos) (tC v):=λ_ _ _ H _ I h=>wZ I b c ⟨v,H,I,r,h⟩ a
def Km(c:Gl X x)(d:X.mg x=none)(hv:bootBuiltins x=some u)(r:iE v u)(a:x≠ "__name__" :=by decide)(b:(x==("__debug__" : Str))=false:=by decide):PE X (.Name x pos) (tC v):=λ_ _ _ H _ I h=>mx I c d hv ⟨v,H,I,r,h⟩ a b
variable {a b:Expr}{ta tb:TE}{pos:Pos}
def tB(t:TE):TT:=λd H Q=>t d H λx e=>∃c,x=.bl c/\Q c e
def M8(h:PE X e t)(i:∀c,isTrue e X.env c=(do let v <-c;standAt e.pos;holding [v] (truthy v)):=by intro _;rfl):PT X e (tB t):=by intro f s g H Q I hw;refine isTrue_plain (jB (h f s g H _ I hw) λv s1 ⟨x,H1,I1,r1,q1⟩=>?_) (i _);obtain⟨d,rfl,q⟩:=q1;cases r1;exact wpAny_truthy_bool ⟨H1,I1,q⟩
variable {tA tB':TT}{jJ:List Expr}
def LJ(t u:TT):TT:=λd H Q=>t d H λc e=>if c=true then u d e Q else Q false e
def QP(t u:TT):TT:=λd H Q=>t d H λc e=>if c=true then Q true e else u d e Q
def Nt(t:TT):TT:=λd H Q=>t d H λc e=>Q (!c) e
def JX(g:PT X a tA):PW X (.BoolOp .And [a] pos) tA:=by
 intro j d s f H Q I h;refine isTrue_and (jB (g d s f H Q I h) λc i e=>?_);cases c with
 |true=>exact isTrue_and_nil e
 |false=>exact e
def Le(g:PT X a tA):PW X (.BoolOp .Or [a] pos) tA:=by
 intro j d s f H Q I h;refine isTrue_or (jB (g d s f H Q I h) λc i e=>?_);cases c with
 |false=>exact isTrue_or_nil e
 |true=>exact e
def M7(g:PT X a tA)(f:PW X (.BoolOp .And (b::jJ) pos) tB'):PW X (.BoolOp .And (a::b::jJ) pos) (LJ tA tB'):=by
 intro i d s e H Q I h;refine isTrue_and (jB (g d s e H _ I h) λc s1 ⟨H1,I1,q1⟩=>?_);cases c with
 |true=>exact f i d s1 e H1 Q I1 q1
 |false=>exact⟨H1,I1,q1⟩
def NY(g:PT X a tA)(f:PW X (.BoolOp .Or (b::jJ) pos) tB'):PW X (.BoolOp .Or (a::b::jJ) pos) (QP tA tB'):=by
 intro i d s e H Q I h;refine isTrue_or (jB (g d s e H _ I h) λc s1 ⟨H1,I1,q1⟩=>?_);cases c with
 |true=>exact⟨H1,I1,q1⟩
 |false=>exact f i d s1 e H1 Q I1 q1
def LM(g:PT X a tA):PT X (.UnaryOp .Not a pos) (Nt tA):=by intro d s e H Q I h;exact isTrue_not (g d s e H (λc f=>Q (!c) f) I h)
def GN(ta tb:TE):TE:=λd H Q=>ta d H λx e=>∃c,x=.bl c/\if c=true then tb d e Q else Q (.bl false) e
def GE(ta:TE):TE:=λd H Q=>ta d H λx e=>∃c,x=.bl c/\Q (.bl (!c)) e
def My{op}(h:PE X a t):PE X (.BoolOp op [a] pos) t:=λc s d H Q I hw=>BoolOp_one (h c s d H Q I hw)
def Me(i:PE X a ta)(g:PE X (.BoolOp .And (b::jJ) pos) tb):PE X (.BoolOp .And (a::b::jJ) pos) (GN ta tb):=by
 intro e s f H Q I h;refine BoolOp_and (jB (i e s f H _ I h) λv s1 ⟨x,H1,I1,r1,d⟩=>?_);obtain⟨c,rfl,d⟩:=d;cases r1;refine wpAny_truthy_bool ?_;cases c with
 |true=>exact g e s1 f H1 Q I1 d
 |false=>exact⟨.bl false,H1,I1,rfl,d⟩
def MW(g:PE X a ta):PE X (.UnaryOp .Not a pos) (GE ta):=by intro e s f H Q I h;refine UnaryOp_ (jB (g e s f H _ I h) λv s1 ⟨x,H1,I1,r1,d⟩=>?_);obtain⟨c,rfl,d⟩:=d;cases r1;exact not_of (wpAny_truthy_bool ⟨.bl (!c),H1,I1,rfl,d⟩)
def Qt(t:TT)(ta tb:TE):TE:=λd H Q=>t d H λc e=>if c=true then ta d e Q else tb d e Q
def Ga(g:PT X c tA)(j:PE X a ta)(i:PE X b tb):PE X (.IfExp c a b pos) (Qt tA ta tb):=by
 intro e s f H Q I h;refine wpAny_IfExp (jB (g e s f H _ I h) λd s1 ⟨H1,I1,q1⟩=>?_);cases d with
 |true=>exact j e s1 f H1 Q I1 q1
 |false=>exact i e s1 f H1 Q I1 q1
end
end L2
namespace L2
open PySem PySem.Spec PyProof.Rows
def ka(K:W.Frag)(H:Hp)(a:Addr)(b:List V):Prop:=
 Rd H a (.lst b)\/
  ∃(o:Obj) (gG:Array Vq) (n:Nat),K.lookup a=some o/\o.cls=.type "list" /\o.dict=none/\o.data=.seq gG n/\gG.size<=sizeLine/\g9 b gG.toList
def lz(K:W.Frag)(H:Hp)(a:Addr)(b:List V):Prop:=
 Rd H a (.tup b)\/
  ∃(o:Obj) (gG:Array Vq) (n:Nat),K.lookup a=some o/\o.cls=.type "tuple" /\o.data=.seq gG n/\gG.size<=sizeLine/\g9 b gG.toList
def Qr:Vq->Option V
 |.none=>some .non
 |.bool b=>some (.bl b)
 |.int i _=>some (.int i)
 |.str x _=>some (.str x)
 |.bytes b _=>some (.byt b)
 |.float b _=>some (.flt b)
 |.ref a=>some (.ref a)
 |.type n=>some (.ty n)
 |_=>none
def iE.abs(r:iE x u):Qr u=some x:=by
 cases x with
 |non=>cases r;rfl
 |bl _=>cases r;rfl
 |int _=>obtain⟨t,rfl⟩:=r;rfl
 |str _=>obtain⟨t,rfl⟩:=r;rfl
 |byt _=>obtain⟨t,rfl⟩:=r;rfl
 |flt _=>obtain⟨t,rfl⟩:=r;rfl
 |ref _=>cases r;rfl
 |ty _=>cases r;rfl
def iE.inj(r:iE x u)(q:iE y u):x=y:=Option.some.inj (r.abs.symm.trans q.abs)
theorem g9.inj:∀{xs ys} {us},g9 xs us->g9 ys us->xs=ys
 |_,_,_,.nil,.nil=>rfl
 |_,_,_,.cons r t,.cons r' t'=>by rw[r.inj r',g9.inj t t']
section
variable {X:Cx}{gx:List (Addr×Obj)}{σ:St}{H:Hp}{s:Sq}{a:Addr}{xs ys:List V}
def ka.of{K:W.Frag}(h:H a=some (.lst xs)):ka K H a xs:=.inl (.inl h)
def lz.of{K:W.Frag}(h:H a=some (.tup xs)):lz K H a xs:=.inl (.inl h)
def gP.list(I:gP X gx σ H s)(h:ka X.K H a xs):∃gG:List Vq,g9 xs gG/\PlainL s.heap a gG.toArray/\xs.length<=sizeLine:=by
 rcases h with h|⟨o,gG,n,b,c,d,f,g,r⟩
 .obtain⟨z,gG,n,r,e⟩:=h.ok I.hok;exact⟨gG,r,⟨_,n,e,rfl,rfl,rfl⟩,z⟩
 .refine⟨gG.toList,r,⟨o,n,I.kIn a o b,c,d,by simpa using f⟩,?_⟩;have e:=r.length;simp only[bB]at e;omega
def gP.tuple(I:gP X gx σ H s)(h:lz X.K H a xs):∃gG:List Vq,g9 xs gG/\IsTup s.heap a gG.toArray/\xs.length<=sizeLine:=by
 rcases h with h|⟨o,gG,n,b,c,d,f,r⟩
 .obtain⟨z,gG,r,p⟩:=h.ok I.hok;exact⟨gG,r,p.tup,z⟩
 .refine⟨gG.toList,r,⟨o,I.kIn a o b,c,n,by simpa using d⟩,?_⟩;have e:=r.length;simp only[bB]at e;omega
def gP.list_inj(I:gP X gx σ H s)(h:ka X.K H a xs)(h':ka X.K H a ys):xs=ys:=by
 obtain⟨gG,r,⟨o,n,e,_,_,d⟩,_⟩:=I.list h;obtain⟨b,i,⟨k,j,c,_,_,f⟩,_⟩:=I.list h';rw[e]at c;cases c;rw[d]at f;injection f with g _;have:gG=b:=by simpa using congrArg Array.toList g
 subst this;exact r.inj i
def gP.tuple_inj(I:gP X gx σ H s)(h:lz X.K H a xs)(h':lz X.K H a ys):xs=ys:=by
 obtain⟨gG,r,⟨o,e,_,n,d⟩,_⟩:=I.tuple h;obtain⟨b,i,⟨k,c,_,j,f⟩,_⟩:=I.tuple h';rw[e]at c;cases c;rw[d]at f;injection f with g _;have:gG=b:=by simpa using congrArg Array.toList g
 subst this;exact r.inj i
end
noncomputable abbrev Cx.wish(X:Cx)(E:Vq->Shared->Prop):Cx:={X with xe:=E}
abbrev Cx.nox(X:Cx):Cx:=X.wish λ_ _=>False
def Cx.Ok.wish{X:Cx}(ok:X.Ok) E:(X.wish E).Ok:=⟨ok.mod,ok.kind,ok.glob,ok.blt,ok.above,ok.inj,ok.has,ok.cab,ok.hd,ok.frames,ok.stk,ok.exf,ok.bs,ok.bsz,ok.noex,ok.exfs,ok.funs,ok.frf,ok.tab⟩
def Cx.Ok.unwish{X:Cx}(ok:(X.wish E).Ok):X.Ok:=⟨ok.mod,ok.kind,ok.glob,ok.blt,ok.above,ok.inj,ok.has,ok.cab,ok.hd,ok.frames,ok.stk,ok.exf,ok.bs,ok.bsz,ok.noex,ok.exfs,ok.funs,ok.frf,ok.tab⟩
section
variable {X:Cx}{gx:List (Addr×Obj)}{σ:St}{H:Hp}{s:Sq}{E:Vq->Shared->Prop}
def gP.wish(I:gP X gx σ H s) E:gP (X.wish E) gx σ H s:=⟨I.ok.wish E,I.os,I.bare,I.base,I.loc,I.cell,I.free,I.freeC,I.pin,I.hok,I.len⟩
def gP.unwish(I:gP (X.wish E) gx σ H s):gP X gx σ H s:=⟨I.ok.unwish,I.os,I.bare,I.base,I.loc,I.cell,I.free,I.freeC,I.pin,I.hok,I.len⟩
def SP.unwish(h:SP (X.wish E) gx D f s'):SP X gx D f s':=by
 cases f with
 |next=>obtain⟨a,b,I,q⟩:=h;exact⟨a,b,I.unwish,q⟩
 |brk=>obtain⟨a,b,I,q⟩:=h;exact⟨a,b,I.unwish,q⟩
 |cont=>obtain⟨a,b,I,q⟩:=h;exact⟨a,b,I.unwish,q⟩
 |ret u=>obtain⟨v,a,b,I,r,q⟩:=h;exact⟨v,a,b,I.unwish,r,q⟩
def zb.nox{st:List Stmt}(h:zb X.nox st t):zb X st t:=λgx s σ H D I hw=>wpAny_mono (h gx s σ H D (I.wish _) hw) (λ_ _ q=>q.unwish) λ_ _ z=>False.elim z
end
section
variable {X:Cx}{st:Stmt}{jJ:List Stmt}{t u:TS}{e:Expr}{te:TE}{pos:Pos}
def Gh:TS:=λD a H=>D.nx a H
def Ko(t u:TS):TS:=λD a H=>t {D with nx:=u D} a H
def Ij:zb X [] Gh:=λ_ _ a H _ I h=>wpAny_execs_nil ⟨a,H,I,h⟩
def yq(c:PS X st t)(i:zb X jJ u):zb X (st::jJ) (Ko t u):=by
 intro b s g H D I h;refine wpAny_execs_cons (jB (c b s g H {D with nx:=u D} I h) λf j q=>?_);cases f with
 |next=>obtain⟨a,k,d,q⟩:=q;exact i b j a k D d q
 |ret v=>exact q
 |brk=>exact q
 |cont=>exact q
def BW(b:PS X st t):zb X [st] t:=by
 intro a s c H D I h;refine wpAny_execs_cons (jB (b a s c H D I h) λf d q=>?_);cases f with
 |next=>exact wpAny_execs_nil q
 |ret v=>exact q
 |brk=>exact q
 |cont=>exact q
def gP.quiet(I:gP X gx σ H s):interactive X.env=false:=by simp[interactive,I.ok.kind]
def yE(te:TE):TS:=λD a H=>te a H λ_ b=>D.nx a b
def BU(c:PE X e te)(hs:swapsWith e none pos.line X.env=pure false:=by rfl):PS X (.Expr e pos) (yE te):=by intro b s a H D I h;exact wpAny_Expr_any (jB (c b s a H _ I h) λv s1 ⟨x,H1,I1,r1,q1⟩=>⟨a,H1,I1,q1⟩) I.quiet hs
def Au(te:TE):TS:=λD a H=>te a H D.rt
def Bd(c:PE X e te):PS X (.Return (some e) pos) (Au te):=by intro b s a H D I h;exact wpAny_Return_some (jB (c b s a H _ I h) λv s1 ⟨x,H1,I1,r1,q1⟩=>⟨x,a,H1,I1,r1,q1⟩)
def Lj(c:TT)(t u:TS):TS:=λD a H=>c a H λb d=>if b=true then t D a d else u D a d
def OD(i:PT X c tc)(k:zb X a t)(j:zb X b u):PS X (.If c a b pos) (Lj tc t u):=by
 intro f s g H D I h;refine wpAny_If (jB (i f s g H _ I h) λd s1 ⟨H1,I1,q1⟩=>?_);cases d with
 |true=>exact k f s1 g H1 D I1 q1
 |false=>exact j f s1 g H1 D I1 q1
def Bu:TS:=λ_ _ _=>False
def Hi:PS X st Bu:=λ_ _ _ _ _ _ h=>h.elim
end
abbrev TG:=V->St->Hp->(St->Hp->Prop)->Prop
abbrev HN:=List V->St->Hp->(St->Hp->Prop)->Prop
def PG(X:Cx)(target:Expr)(t:TG):Prop:=
 ∀(b:List (Addr×Obj)) (s:Sq) (c:St) (H:Hp) (v:V) (u:Vq) (Q:St->Hp->Prop),gP X b c H s->iE v u->t v c H Q->
  wpAny (model X.prog X.w) X.A (assign target X.env u) (λ_ e=>∃a d,gP X b a d e/\Q a d) X.xe s
def NK(X:Cx)(ts:List Expr)(t:HN):Prop:=
 ∀(c:List (Addr×Obj)) (s:Sq) (e:St) (H:Hp) (d:List V) (b:List Vq) (Q:St->Hp->Prop),gP X c e H s->g9 d b->t d e H Q->
  wpAny (model X.prog X.w) X.A (assignInOrder ((assignEach ts X.env).map (·.2)) b) (λ_ g=>∃a f,gP X c a f g/\Q a f) X.xe s
abbrev Oj:=V->V->V->Hp->(Hp->Prop)->Prop
def Px(X:Cx)(t:Oj):Prop:=
 ∀(a:List (Addr×Obj)) (s:Sq) (b:St) (H:Hp) (o i v:V) (e d u:Vq) (Q:Hp->Prop),gP X a b H s->iE o e->iE i d->iE v u->t o i v H Q->
  wpAny (model X.prog X.w) X.A (setItem e d u) (λ_ f=>∃c,gP X a b c f/\Q c) X.xe s
section
variable {X:Cx}{pos:Pos}
def jV(i:Nat):TG:=λv a H Q=>Q (a.set i (some v)) H
def Cy(d:X.N.Nodup)(b:X.N[i]? = some x)(c:Ea X.env.scope x)(e:X.fn x=true\/X.env.scope.names.lookup x=some .local:=by first|exact .inl rfl|exact .inr rfl|assumption):PG X (.Name x pos) (jV i):=by intro f s g H v u Q I r h;exact wpAny_assign_Name (zJ I d b c r (λj a=>⟨_,H,a,h⟩) e)
def Dy:HN:=λb a H Q=>b=[]/\Q a H
def ud(t:TG)(u:HN):HN:=λd b H Q=>∃v r,d=v::r/\t v b H λa c=>u r a c Q
def BI:NK X [] Dy:=by intro c s a H d b Q I r h;obtain⟨e,h⟩:=h;subst e;cases r;exact assignInOrder_nil ⟨a,H,I,h⟩
theorem yu(b:PG X e t)(d:NK X es u)
  (hs:(assignEach (e::es) X.env).map (·.2)=assign e X.env::(assignEach es X.env).map (·.2):=by rfl):NK X (e::es) (ud t u):=by
 intro a s c H i g Q I r h;obtain⟨v,j,f,h⟩:=h;subst f;cases r with
 |cons r rr=>rw[hs];refine assignInOrder_cons (jB (b a s c H _ _ _ I r h) λ_ s1 ⟨σ1,H1,I1,q1⟩=>?_);exact d a s1 σ1 H1 _ _ Q I1 rr q1
def Dd(K:W.Frag)(n:Nat)(t:HN):TG:=λv c H Q=>∃a b,v=.ref a/\lz K H a b/\b.length=n/\t b c H Q
def GA(w:X.calm=true)(h:NK X es t)
  (m:(assignEach es X.env).length=n:=by rfl) (c:(assignEach es X.env).findIdx? (·.1)=none:=by rfl):PG X (.Tuple es k pos) (Dd X.K n t):=by
 intro l s p H v u Q I r hw;obtain⟨a,y,q,x,f,hw⟩:=hw;subst q;cases r;obtain⟨gG,d,g,A⟩:=I.tuple x;refine assign_Tuple_tuple (I.ok.hd w) g (by simp[m,<-f,d.length]) c λz i=>?_;have j:=I.kept (t':=s.toks) λb o e=>i b o (aN (aM e)) e;exact h l _ p H y _ Q j (by simpa using d) hw
def MY(to b:TE)(t:Oj):TG:=λv a H Q=>to a H λo c=>b a c λi e=>t o i v e λd=>Q a d
def K7(d:PE X o to)(c:PE X i ti)(hs:Px X t)
  (e:∀v,assign (.Subscript o i pos) X.env v=(do
   let ov <-holding [v] (eval o X.env)
   let iv <-holding [v,ov] (eval i X.env)
   standAt pos
   holding [v,ov,iv] (setItem ov iv v)
   release [v,ov,iv] []):=by intro _;rfl):PG X (.Subscript o i pos) (MY to ti t):=by
 intro b s a H v u Q I r h;rw[e];refine aq (wpAny_holding (jB (d b s a H _ I h) λov s1 ⟨x,H1,I1,r1,q1⟩=>?_));refine aq (wpAny_holding (jB (c b s1 a H1 _ I1 q1) λiv s2 ⟨y,H2,I2,r2,q2⟩=>?_));refine aq (wpAny_standAt (aq (wpAny_holding (jB (hs b s2 a H2 x y v ov iv u _ I2 r1 r2 r q2) λ_ s3 ⟨H3,I3,q3⟩=>?_))));exact wpAny_release ⟨a,H3,I3,q3⟩
def mT(b:TE)(g:TG):TS:=λD a H=>b a H λx c=>g x a c D.nx
def EW(f:PE X e te)(d:PG X tg g)(hs:swapsWithSole [tg] e pos.line X.env=pure false:=by rfl)(hw:swappedStores [tg] e X.env=pure none:=by rfl)
  (c:(assignEach [tg] X.env).map (·.2)=[assign tg X.env]:=by rfl):PS X (.Assign [tg] e pos) (mT te g):=by
 intro a s b H D I h;refine wpAny_Assign_stores (jB (f a s b H _ I h) λv s1 ⟨x,H1,I1,r1,q1⟩=>?_) hs hw;rw[c];exact jB (d a s1 b H1 x v _ I1 r1 q1) λ_ i q=>q
def Am(j:X.N.Nodup)(d:X.N[i]? = some x)(g:Ea X.env.scope x)(f:PE X e te)(hs:swapsWith e (some (.Name x pos')) pos.line X.env=pure false:=by rfl)(k:X.fn x=true\/X.env.scope.names.lookup x=some .local:=by first|exact .inl rfl|exact .inr rfl|assumption) :
  PS X (.Assign [.Name x pos'] e pos) (mT te (jV i)):=by
 intro a s c H D I h;refine wpAny_Assign_Name (jB (f a s c H _ I h) λv s1 ⟨y,H1,I1,r1,q1⟩=>?_) hs;exact zJ I1 j d g r1 (λl b=>⟨_,H1,b,q1⟩) k
end
section
variable {X:Cx}{pos:Pos}
def Ar(c:TT)(h:TS):TS:=λD a H=>∃W:Nat->St->Hp->Prop,(∃m,W m a H)/\∀m a H,W m a H->
 c a H λb f=>if b=true then ∃N:St->Hp->Prop,(∀d g,N d g->∃e,e<m/\W e d g)/\h {D with nx:=N,ct:=N,bk:=D.nx} a f else D.nx a f
def Ha(u:PassesOwn (model X.prog X.w) X.A X.env X.xe)(P:PT X c tc)(L:zb X body tb):PS X (.While c body [] pos) (Ar tc tb):=by
 intro p s J H D I h;obtain⟨W,⟨B,Q⟩,e⟩:=h;refine wpAny_While (codeAny_whileLoop (λn E=>∃g y,gP X p g y E/\W n g y) ?_ B ⟨J,H,I,Q⟩);rintro n K ⟨d,x,C,F⟩;refine wpAny_passesOwn u (jB (P p K d x _ C (e n d x F)) λb s2 ⟨H2,I2,k⟩=>?_);cases b with
 |true=>
  obtain⟨N,z,k⟩:=k;rw[aR rfl];refine wpAny_passesOwn u (jB (L p s2 d H2 _ I2 k) λf R j=>?_);cases f with
  |next=>obtain⟨a,i,m,q⟩:=j;obtain⟨l,r,o⟩:=z a i q;exact⟨l,r,a,i,m,o⟩
  |cont=>obtain⟨a,i,m,q⟩:=j;obtain⟨l,r,o⟩:=z a i q;exact⟨l,r,a,i,m,o⟩
  |brk=>exact j
  |ret v=>exact j
 |false=>rw[aS aI];exact wpAny_execs_nil ⟨d,H2,I2,k⟩
end
structure It where
 go:Nat->Hp->Prop
 yld:Nat->Hp->V->Hp->Prop
 stop:Nat->Hp->Prop
def qO(X:Cx)(a:List (Addr×Obj))(H:Hp)(b:Addr):Prop:=H b=none/\b≠X.env.locals/\b∉X.fs/\(b∈X.ex\/X.s₀.heap.objs.size<=b)/\(∀x c,X.env.cells.lookup x=some c->c≠b)/\∀p∈X.pn++a,p.1≠b
def gP.fpOk(I:gP X gx σ H s)(a:s.heap.objs.size<=b)(d:H' b=none):qO X gx H' b:=by
 refine⟨d,bC (aF I.lt a),I.nofs a,.inr (aO I.sz a),λx c e z=>?_,λp f z=>?_⟩
 .obtain⟨v,q⟩:=I.cell x c e;exact absurd (aF q.lt (by rw[z];exact a)) (bc _)
 .exact absurd (aF (aM (I.pin p f).1) (by rw[z];exact a)) (bc _)
structure AN(P:Program)(w:World)(K:W.Frag)(tg:Expr)(J:It)(fp:List Addr)(it:Addr)(tn:Nat->Heap->Prop):Prop where
 mem:it∈fp
 obj:∀i h,tn i h->∀b∈fp,∃o,h.get? b=some o/\∀v,o.data≠.cell v
 keep:∀i h h',tn i h->(∀b∈fp,∀o,h.get? b=some o->h'.get? b=some o)->tn i h'
 item:∀(X:Cx),X.prog=P->X.w=w->X.K=K->X.calm=true->∀(i:Nat) (gx:List (Addr×Obj)) (s:Sq) (σ:St) (H:Hp) (E:Vq->Shared->Prop),gP X gx σ H s->(∀b∈fp,qO X gx H b)->tn i s.heap->J.go i H->
  wpAny (model P w) X.A (pyNext (.ref it)) (λr s1=>∃u,r=some u/\
   wpAny (model P w) X.A (letOwnedTupleGo tg (.ref it) u) (λ_ s2=>∃x H',gP X gx σ H' s2/\iE x u/\J.yld i H x H'/\tn (i+1) s2.heap/\∀b∈fp,H' b=none) E s1) E s
 done:∀(X:Cx),X.prog=P->X.w=w->X.K=K->X.calm=true->∀(i:Nat) (gx:List (Addr×Obj)) (s:Sq) (σ:St) (H:Hp) (E:Vq->Shared->Prop),gP X gx σ H s->(∀b∈fp,qO X gx H b)->tn i s.heap->J.stop i H->
  wpAny (model P w) X.A (pyNext (.ref it)) (λr s1=>r=none/\gP X gx σ H s1) E s
 self:∀(A:Around) (i:Nat) (s:Sq) (Q:Vq->Shared->Prop) (E:Vq->Shared->Prop),tn i s.heap->Q (.ref it) s->wpAny (model P w) A (pyIter (.ref it)) Q E s
abbrev TI:=St->Hp->(It->Hp->Prop)->Prop
def QT(X:Cx)(d:List (Addr×Obj))(i:St)(h:Expr)(R:It->Hp->Prop)(c:Vq)(g:Sq):Prop:=∃(it:Addr) (e:List Addr) (f:Nat->Heap->Prop) (J:It) (a:Hp),c=.ref it/\gP X d i a g/\AN X.prog X.w X.K h J e it f/\f 0 g.heap/\(∀b∈e,qO X d a b)/\R J a
def PI(X:Cx)(d a:Expr)(f:TI):Prop:=
 ∀(c:List (Addr×Obj)) (s:Sq) (b:St) (H:Hp) (R:It->Hp->Prop),gP X c b H s->f b H R->
  wpAny (model X.prog X.w) X.A (eval a X.env) (λv e=>wpAny (model X.prog X.w) X.A (pyIter v) (QT X c b d R) X.xe e) X.xe s
theorem EB{M:Model}{A:Around}{E:Vq->Shared->Prop}{s:Sq}{b:Expr}{it:Addr}{u:Vq}{o:Obj}{n:String}{vs:Array Vq}{Q:Unit->Shared->Prop}(f:s.heap.get? it=some o)(c:o.cls=.type n)(e:o.data=.fields vs)
    (d:["enumerate", "zip", "dict_itemiterator", "dict_reverseitemiterator", "odict_iterator", "itertools.zip_longest", "itertools.pairwise"].contains n=false) (a:Q () s):wpAny M A (letOwnedTupleGo b (.ref it) u) Q E s:=by
  unfold letOwnedTupleGo;cases b<;>first
    |exact ao a
    | (cases u<;>first
        |exact ao a
        | (refine aq (wpAny_load f ?_)
           rw[c,e]
           show wpAny M A (if (["enumerate", "zip", "dict_itemiterator", "dict_reverseitemiterator", "odict_iterator", "itertools.zip_longest", "itertools.pairwise"].contains n&&vs[0]? == some (rawInt _))=true then _ else _) Q E s
           rw[aS (by intro h;rw[d,bD]at h;cases h)]
           exact ao a))
noncomputable def QK(K:W.Frag)(a:Addr):It:=⟨λi H=>∃b x,ka K H a b/\b[i]? = some x,λi H x c=>c=H/\∀b,ka K H a b->b[i]? = some x,λi H=>∃b,ka K H a b/\b.length<=i⟩
noncomputable def Qn(K:W.Frag)(a:Addr):It:=⟨λi H=>∃b x,lz K H a b/\b[i]? = some x,λi H x c=>c=H/\∀b,lz K H a b->b[i]? = some x,λi H=>∃b,lz K H a b/\b.length<=i⟩
noncomputable def Pf(b:Int)(n:Nat):It:=⟨λi _=>i<n,λi H x a=>a=H/\x=.int (b+i),λi _=>n<=i⟩
def DH{K:W.Frag} a it:AN P w K tg (QK K a) [it] it (λi h=>h.IsListIter it a i) where
 mem:=by simp
 obj:=λi h st b f=>by
  have e:b=it:=by simpa using f
  subst e;obtain⟨o,e,c,d⟩:=st;exact⟨o,e,λv z=>by rw[d]at z;cases z⟩
 keep:=λi h J st k=>st.at λo e=>k it (by simp) o e
 item:=by intro X A hw y L i Z s σ H E I l st C;subst A hw y;obtain⟨xs,x,j,n⟩:=C;obtain⟨gG,q,p,hz⟩:=I.list j;obtain⟨u,Y,S⟩:=q.get n;obtain⟨F,r,U,D,m,B⟩:=l it (by simp);refine wpAny_pyNext_list_item st p.isList (by simpa using Y) λJ g sb=>?_;have R:=I.turned (t':=s.toks) (λb o f e=>(sb.2 b f).trans e) F r D m B;obtain⟨o,e,c,d⟩:=id g;exact⟨u,rfl,EB e c d (by decide) ⟨x,H,R,S,⟨rfl,λys N=>by rw[I.list_inj N j];exact n⟩,g,λb f=>(l b f).1⟩⟩
 done:=by intro X A hw y L i Z s σ H E I l st C;subst A hw y;obtain⟨xs,j,n⟩:=C;obtain⟨gG,q,p,hz⟩:=I.list j;obtain⟨F,r,U,D,m,B⟩:=l it (by simp);have hl:=q.length;exact wpAny_pyNext_list_end (I.ok.hd L) st p.isList (by simp;omega) λJ Q=>⟨rfl,I.turned (λb o f e=>Q b o f e) F r D m B⟩
 self:=λ_ _ _ _ _ st h=>wpAny_pyIter_listiter st h
def AF{K:W.Frag} a it:AN P w K tg (Qn K a) [it] it (λi h=>h.IsTupleIter it a i) where
 mem:=by simp
 obj:=λi h st b f=>by
  have e:b=it:=by simpa using f
  subst e;obtain⟨o,e,c,d⟩:=st;exact⟨o,e,λv z=>by rw[d]at z;cases z⟩
 keep:=λi h J st k=>st.at λo e=>k it (by simp) o e
 item:=by intro X A hw y L i Z s σ H E I l st C;subst A hw y;obtain⟨xs,x,j,n⟩:=C;obtain⟨gG,q,p,hz⟩:=I.tuple j;obtain⟨u,Y,S⟩:=q.get n;obtain⟨F,r,U,D,m,B⟩:=l it (by simp);refine wpAny_pyNext_tuple_item st (p) (by simpa using Y) λJ g sb=>?_;have R:=I.turned (t':=s.toks) (λb o f e=>(sb.2 b f).trans e) F r D m B;obtain⟨o,e,c,d⟩:=id g;exact⟨u,rfl,EB e c d (by decide) ⟨x,H,R,S,⟨rfl,λys N=>by rw[I.tuple_inj N j];exact n⟩,g,λb f=>(l b f).1⟩⟩
 done:=by intro X A hw y L i Z s σ H E I l st C;subst A hw y;obtain⟨xs,j,n⟩:=C;obtain⟨gG,q,p,hz⟩:=I.tuple j;obtain⟨F,r,U,D,m,B⟩:=l it (by simp);have hl:=q.length;exact wpAny_pyNext_tuple_end (I.ok.hd L) st (p) (by simp;omega) λJ Q=>⟨rfl,I.turned (λb o f e=>Q b o f e) F r D m B⟩
 self:=λ_ _ _ _ _ st h=>wpAny_pyIter_tupleiter st h
def AW{K:W.Frag} it lo n:AN P w K tg (Pf lo n) [it] it (λi h=>IsRangeIter h it (lo+(i:Nat)*1) ((n:Int)-(i:Nat)) 1) where
 mem:=by simp
 obj:=λi h st b a=>by
  have e:b=it:=by simpa using a
  subst e;exact⟨_,st,λv z=>by have B:=z;cases B⟩
 keep:=λi h g st k=>k it (by simp) _ st
 item:=by intro X m hw l p i y s A H E I d st r;subst m hw l;obtain⟨x,j,J,u,f,q⟩:=d it (by simp);have W:=Walks.range (prog:=X.prog) (w:=X.w) (I.ok.hd p) it lo 1 n;refine W.item i s _ _ r st λv g L hv c F=>?_;obtain⟨t,rfl⟩:=hv;have D:gP X y A H {s with heap:=g,toks:=L}:=I.turned (λb o a e=>F b o (by simpa using a) e) x j u f q;refine⟨_,rfl,EB c rfl rfl (by decide) ⟨.int (lo+i),H,D,⟨t,?_⟩,⟨rfl,rfl⟩,c,λb a=>(d b a).1⟩⟩;rw[bE]
 done:=by intro X m hw l p i y s A H E I d st r;subst m hw l;obtain⟨x,j,J,u,f,q⟩:=d it (by simp);exact wpAny_pyNext_range_end (I.ok.hd p) st (by have:n<=i:=r;omega) λg C=>⟨rfl,I.turned (λb o a e=>C b o a e) x j u f q⟩
 self:=λ_ _ _ _ _ st h=>wpAny_pyIter_rangeiter st h
end L2
namespace L2
open PySem PySem.Spec PyProof.Rows
section
variable {X:Cx}{tg:Expr}
def Gb(K:W.Frag)(c:TE):TI:=λd H R=>c d H λx b=>∃a,x=.ref a/\(∃e,ka K b a e)/\R (QK K a) b
def LC(K:W.Frag)(c:TE):TI:=λd H R=>c d H λx b=>∃a,x=.ref a/\(∃e,lz K b a e)/\R (Qn K a) b
def IF(c:PE X l tl):PI X tg l (Gb X.K tl):=by
 intro d s f H R I h;refine jB (c d s f H _ I h) λv s1 ⟨x,H1,I1,r1,q1⟩=>?_;obtain⟨a,e,⟨m,i⟩,q⟩:=q1;subst e;cases r1;obtain⟨gG,j,p,k⟩:=I1.list i;refine wpAny_pyIter_list p.isList ?_;refine⟨s1.heap.objs.size,[s1.heap.objs.size],_,_,H1,rfl,I1.kept λb o e=>af _ e,DH a _,⟨_,au _ rfl,rfl,rfl⟩,λb g=>?_,q⟩;have e:b=s1.heap.objs.size:=by simpa using g
 subst e;exact I1.fpOk (aL _) (I1.hok.fresh (aL _))
def K9(c:PE X l tl):PI X tg l (LC X.K tl):=by
 intro d s f H R I h;refine jB (c d s f H _ I h) λv s1 ⟨x,H1,I1,r1,q1⟩=>?_;obtain⟨a,e,⟨m,i⟩,q⟩:=q1;subst e;cases r1;obtain⟨gG,j,p,k⟩:=I1.tuple i;refine wpAny_pyIter_tuple (p) ?_;refine⟨s1.heap.objs.size,[s1.heap.objs.size],_,_,H1,rfl,I1.kept λb o e=>af _ e,AF a _,⟨_,au _ rfl,rfl,rfl⟩,λb g=>?_,q⟩;have e:b=s1.heap.objs.size:=by simpa using g
 subst e;exact I1.fpOk (aL _) (I1.hok.fresh (aL _))
def GJ{a c:Int}(I:gP X gx σ H s)(g:-(2 ^ 62)<=a)(h:a<2 ^ 62)(j:-(2 ^ 62)<=c)(f:c<2 ^ 62)
  (q:R (Pf a (c-a).toNat) H):wpAny (model X.prog X.w) X.A (pyIter (.ref s.heap.objs.size)) (QT X gx σ tg R) E {s with heap:=s.heap.push {cls:=.type "range",data:=.fields #[.int a t,.int c u,.int 1 v]},toks:=tk}:=by
 refine wpAny_pyIter_range (IsRange.new ..) (small_one g h j f) ?_;have d:gP X gx σ H {s with heap:=s.heap.push {cls:=.type "range",data:=.fields #[.int a t,.int c u,.int 1 v]},toks:=tk}:=I.kept λb o e=>af _ e;refine⟨(s.heap.push {cls:=.type "range",data:=.fields #[.int a t,.int c u,.int 1 v]}).objs.size,[(s.heap.push {cls:=.type "range",data:=.fields #[.int a t,.int c u,.int 1 v]}).objs.size],_,_,H,rfl,
  d.kept λb o e=>af _ e,AW _ a (c-a).toNat,?_,λb k=>?_,q⟩
 .have l:a+((0:Nat):Int)*1=a:=by simp
  have i:(((c-a).toNat:Nat):Int)-((0:Nat):Int)=Builtin.Range.rangeSize a c 1:=by rw[rangeSize_one];split<;>omega
  rw[l,i];exact au _ rfl
 .have e:b=(s.heap.push {cls:=.type "range",data:=.fields #[.int a t,.int c u,.int 1 v]}).objs.size:=by simpa using k
  subst e;exact d.fpOk (aL _) (d.hok.fresh (aL _))
def G4(c:TA):TI:=λa H R=>c a H λd b=>∃j:Int,d=[.int j]/\-(2 ^ 62)<=j/\j<2 ^ 62/\R (Pf 0 j.toNat) b
def C2(f:Gl X "range")(g:X.mg "range" = none)(k:PA X [a] ta)(hs:starEach [a] X.env=[(false,eval a X.env)]:=by rfl):PI X tg (.Call (.Name "range" p) [a] [] pos) (G4 ta):=by
 intro c s d H R I h;refine Call_ (mx I f g boot_range (PyProof.Rows.callWith_type1 (jB (k pos c s d H _ I h) λus s1 ⟨vs,H1,I1,r1,b⟩=>?_) hs rfl));obtain⟨j,e,b,i,q⟩:=b;subst e;cases r1 with
 |cons r rr=>cases rr;obtain⟨t,rfl⟩:=r;exact call_range_1 (GJ I1 (by omega) (by omega) b i (by simpa using q))
def GP(j:TI)(g:TG)(f:TS):TS:=λD a H=>j a H λJ k=>∃W:Nat->Nat->St->Hp->Prop,(∃m,W 0 m a k)/\∀i m a H,W i m a H->
 (J.stop i H/\D.nx a H)\/(J.go i H/\∃N:St->Hp->Prop,(∀b c,N b c->∃e,e<m/\W (i+1) e b c)/\∀x c,J.yld i H x c->g x a c λd h=>f {D with nx:=N,ct:=N,bk:=D.nx} d h)
noncomputable def tK(a:List Addr)(h:Heap):List (Addr×Obj):=a.filterMap λb=>(h.get? b).map λo=>(b,o)
def mZ(a:b∈fp)(e:h.get? b=some o):(b,o)∈tK fp h:=bF.mpr ⟨b,a,by rw[e];rfl⟩
def C1(c:p∈tK fp h):p.1∈fp/\h.get? p.1=some p.2:=by
 obtain⟨b,d,e⟩:=bF.mp c;cases q:h.get? b with
 |none=>rw[q]at e;cases e
 |some o=>rw[q]at e;have a:=Option.some.inj e;subst a;exact⟨d,q⟩
def gP.pinned(I:gP X gx σ H s)(i:∀b∈fp,qO X gx H b)(k:∀b∈fp,∃o,s.heap.get? b=some o/\∀v,o.data≠.cell v):gP X (gx++tK fp s.heap) σ H s:=I.pins_of λp j=>(aj.mp j).elim (λz=>I.pin p (bG _ z)) λz=>by obtain⟨c,e⟩:=C1 z;obtain⟨g,f,h,_⟩:=i p.1 c;obtain⟨o,a,d⟩:=k p.1 c;rw[e]at a;cases a;exact⟨e,g,f,h,d⟩
def gP.unpinned(I:gP X (gx++pl) σ H s):gP X gx σ H s:=I.pins_of λp a=>I.pin p (bG _ (ay _ a))
theorem Hu(E:PassesOwn (model X.prog X.w) X.A X.env X.xe)(hc:X.calm=true)(hi:PI X tg iter wi)(hg:PG X tg g)(l:zb X body tb)
  (hs:∀x,foldedSetIterable iter X.env x=pure x:=by intro _;rfl):PS X (.For tg iter body [] pos) (GP wi g tb):=by
 intro C s σ H D I h;refine wpAny_For (jB (hi C s σ H _ I h) λv s1 h1=>jB h1 λitv s2 h2=>?_) hs;obtain⟨it,L,tn,J,H2,e,I2,T,U,f2,W,⟨m0,w0⟩,F⟩:=h2;subst e;have p:∀{z:Hp},(∀b∈L,z b=none)->∀b∈L,qO X C z b:=λhn b l=>⟨hn b l,(f2 b l).2⟩;refine codeAny_forLoop_any (λn s'=>∃i k z,gP X C k z s'/\tn i s'.heap/\(∀b∈L,z b=none)/\W i n k z) ?_ m0 ⟨0,σ,H2,I2,U,λb l=>(f2 b l).1,w0⟩;rintro n s3 ⟨i,j,S,I3,R,K,w3⟩;rcases F i n j S w3 with⟨P,qn⟩|⟨go,N,hN,step⟩
 .refine wpAny_passesOwn E (jB (T.done X rfl rfl rfl hc i C s3 j S X.xe I3 (p K) R P) λr s4 ⟨hr,I4⟩=>?_);subst hr;exact wpAny_execs_nil ⟨j,S,I4,qn⟩
 .refine wpAny_passesOwn E (jB (T.item X rfl rfl rfl hc i C s3 j S X.xe I3 (p K) R go) λr s4 ⟨u,hr,h4⟩=>?_);subst hr;refine wpAny_passesOwn E (jB h4 λ_ s5 ⟨x,H5,I5,r5,y5,st5,fr5⟩=>?_);have Z:=I5.pinned (p fr5) (T.obj _ _ st5);refine wpAny_passesOwn E (jB (hg _ s5 j H5 x u _ Z r5 (step x H5 y5)) λ_ s6 ⟨σ6,H6,I6,q6⟩=>?_);refine wpAny_passesOwn E (jB (l _ s6 σ6 H6 _ I6 q6) λf Y B=>?_);have q:∀{a:St} {y:Hp},gP X (C++tK L s5.heap) a y Y->N a y->∃m,m<n/\∃i k z,gP X C k z Y/\tn i Y.heap/\(∀b∈L,z b=none)/\W i m k z:=λ{a y} c Q=>by obtain⟨m',hm,w7⟩:=hN a y Q;refine⟨m',hm,i+1,a,y,c.unpinned,T.keep _ _ _ st5 λb l o e=>(c.pin (b,o) (bG _ (bG _ (mZ l e)))).1,λb l=>?_,w7⟩;obtain⟨o,e,d⟩:=T.obj _ _ st5 b l;exact (c.pin (b,o) (bG _ (bG _ (mZ l e)))).2.1
  cases f with
  |next=>obtain⟨a,y,c,Q⟩:=B;exact q c Q
  |cont=>obtain⟨a,y,c,Q⟩:=B;exact q c Q
  |brk=>obtain⟨a,y,c,B⟩:=B;exact⟨a,y,c.unpinned,B⟩
  |ret v=>obtain⟨x7,a,y,c,r7,B⟩:=B;exact⟨x7,a,y,c.unpinned,r7,B⟩
end
end L2
namespace L2
open PySem PySem.Spec PyProof.Rows
abbrev R2:=V->V->Hp->VK->Prop
def oh(X:Cx)(f:Vq->Value->Sem Value)(r:R2):Prop:=
 ∀(a:List (Addr×Obj)) (s:Sq) (b:St) (H:Hp) (x y:V) (v u:Vq) (Q:VK),gP X a b H s->iE x v->iE y u->r x y H Q->
  wpAny (model X.prog X.w) X.A (f v u) (EP X a b Q) X.xe s
def Qo(X:Cx)(f:Vq->Sem Value)(r:V->Hp->VK->Prop):Prop:=
 ∀(a:List (Addr×Obj)) (s:Sq) (b:St) (H:Hp) (x:V) (v:Vq) (Q:VK),gP X a b H s->iE x v->r x H Q->
  wpAny (model X.prog X.w) X.A (f v) (EP X a b Q) X.xe s
def jT(X:Cx)(f:Vq)(r:List V->Hp->VK->Prop):Prop:=
 ∀(b:List (Addr×Obj)) (s:Sq) (c:St) (H:Hp) (d:List V) (a:List Vq) (Q:VK),gP X b c H s->g9 d a->r d H Q->
  wpAny (model X.prog X.w) X.A (call f a) (EP X b c Q) X.xe s
def tU(r:R2)(c d:TE):TE:=λa H Q=>c a H λx b=>d a b λy e=>r x y e Q
def QH(r:V->Hp->VK->Prop)(c:TE):TE:=λa H Q=>c a H λx b=>r x b Q
def rI(C:Int->Int->Prop)(g:Int->Int->V):R2:=λx y H Q=>∃i j,x=.int i/\y=.int j/\C i j/\Q (g i j) H
def Br(g:Int->Int->V):R2:=λx y H Q=>∃i j,x=.int i/\y=.int j/\Q (g i j) H
def rU(g:Int->V):V->Hp->VK->Prop:=λx H Q=>∃i,x=.int i/\Q (g i) H
section
variable {X:Cx}{a b c:Expr}{ta tb tc:TE}{pos:Pos}
def Mw(l:PE X a ta)(k:PE X b tb){R:V->V->Hp->Prop}(I:gP X gx σ H s)
  (h:ta σ H λx j=>tb σ j λy d=>R x y d) {f:Vq->Value->Sem Value}
  (m:∀v u i x y d,gP X gx σ d i->iE x v->iE y u->R x y d->wpAny (model X.prog X.w) X.A (f v u) Q X.xe i) :
  wpAny (model X.prog X.w) X.A (eval a X.env) (λv e=>wpAny (model X.prog X.w) X.A (eval b X.env) (λu g=>wpAny (model X.prog X.w) X.A (f v u) Q X.xe g) X.xe e) X.xe s:=by
 refine jB (l gx s σ H _ I h) λv s1 ⟨x,j,I1,r1,q1⟩=>?_;refine jB (k gx s1 σ j _ I1 q1) λu i ⟨y,d,I2,r2,q2⟩=>?_;exact m v u i x y d I2 r1 r2 q2
def Fc(l:oh X (binaryOp op) r)(g:PE X a ta)(k:PE X b tb):PE X (.BinOp a op b pos) (tU r ta tb):=by intro i s j H Q I h;exact wpAny_BinOp (Mw g k I h λv u e x y f m d n q=>l i e j f x y v u Q m d n q)
def OM(f:Qo X (unaryOp op) r)(g:PE X a ta):PE X (.UnaryOp op a pos) (QH r ta):=by intro d s e H Q I h;exact UnaryOp_ (jB (g d s e H _ I h) λv s1 ⟨x,H1,I1,r1,q1⟩=>f d s1 e H1 x v Q I1 r1 q1)
def PN{g:Int->Int->Int}
  (d:∀i j t u s Q E,C i j->Q (.int (g i j) s.toks) {s with toks:=s.toks+1}->wpAny (model X.prog X.w) X.A (f (.int i t) (.int j u)) Q E s) :
  oh X f (rI C λi j=>.int (g i j)):=by
 intro n s o H x y v u Q I e m h;obtain⟨i,j,rfl,rfl,l,q⟩:=h;obtain⟨t,rfl⟩:=e;obtain⟨k,rfl⟩:=m;exact d i j t k s _ _ l ⟨.int (g i j),H,I.tok _,⟨_,rfl⟩,q⟩
def NV{g:Int->Int->Int}
  (d:∀i j t u s Q E,Q (.int (g i j) s.toks) {s with toks:=s.toks+1}->wpAny (model X.prog X.w) X.A (f (.int i t) (.int j u)) Q E s) :
  oh X f (Br λi j=>.int (g i j)):=by
 intro m s n H x y v u Q I e l h;obtain⟨i,j,rfl,rfl,q⟩:=h;obtain⟨t,rfl⟩:=e;obtain⟨k,rfl⟩:=l;exact d i j t k s _ _ ⟨.int (g i j),H,I.tok _,⟨_,rfl⟩,q⟩
def Ji{g:Int->Int->Bool}
  (d:∀(i j:Int) (t u:Tok) (s:Sq) (Q:Vq->Shared->Prop) (E:Vq->Shared->Prop),Q (.bool (g i j)) s->wpAny (model X.prog X.w) X.A (f (.int i t) (.int j u)) Q E s) :
  oh X f (Br λi j=>.bl (g i j)):=by
 intro m s n H x y v u Q I e l h;obtain⟨i,j,rfl,rfl,q⟩:=h;obtain⟨t,rfl⟩:=e;obtain⟨k,rfl⟩:=l;exact d i j t k s _ _ ⟨.bl (g i j),H,I,rfl,q⟩
def N5(i j:Int):Prop:=0<=j/\j<=1000000/\i.natAbs<2 ^ 64
def MX:oh X (binaryOp .Add) (Br λi j=>.int (i+j)):=NV λ_ _ _ _ _ _ _ q=>add_int q
def Mb:oh X (binaryOp .Sub) (Br λi j=>.int (i-j)):=NV λ_ _ _ _ _ _ _ q=>sub_int q
def J5:oh X (binaryOp .Mod) (rI (λ_ j=>j≠0) λi j=>.int (i.fmod j)):=PN λ_ _ _ _ _ _ _ d q=>mod_int' d q
def LQ:oh X (binaryOp .Pow) (rI N5 λi j=>.int (i ^ j.toNat)):=PN λ_ _ _ _ _ _ _ d q=>pow_int_small d.1 d.2.1 d.2.2 q
def Rm{g:Int->Int}
  (d:∀i t s Q E,Q (.int (g i) s.toks) {s with toks:=s.toks+1}->wpAny (model X.prog X.w) X.A (f (.int i t)) Q E s) :
  Qo X f (rU λi=>.int (g i)):=by
 intro j s k H x v Q I e h;obtain⟨i,rfl,q⟩:=h;obtain⟨t,rfl⟩:=e;exact d i t s _ _ ⟨.int (g i),H,I.tok _,⟨_,rfl⟩,q⟩
def MK:Qo X (unaryOp .USub) (rU λi=>.int (-i)):=Rm λ_ _ _ _ _ q=>neg_int q
end
section
variable {X:Cx}{a b c:Expr}{ta tb tc:TE}{pos:Pos}
def Gg:oh X (compareOp .Lt) (Br λi j=>.bl (decide (i<j))):=Ji λ_ _ _ _ _ _ _ q=>lt_int q
def Fj:oh X (compareOp .LtE) (Br λi j=>.bl (decide (i<=j))):=Ji λ_ _ _ _ _ _ _ q=>le_int q
def Ce:oh X (compareOp .Gt) (Br λi j=>.bl (decide (j<i))):=Ji λ_ _ _ _ _ _ _ q=>gt_int q
def HJ:oh X (compareOp .GtE) (Br λi j=>.bl (decide (j<=i))):=Ji λ_ _ _ _ _ _ _ q=>ge_int q
def rh b (h:op≠.In:=by decide) (e:op≠.NotIn:=by decide):behindInMarks op b=false:=by
 have d:(op==CmpOp.In)=false:=by cases op<;>first|rfl|exact absurd rfl h
 have f:(op==CmpOp.NotIn)=false:=by cases op<;>first|rfl|exact absurd rfl e
 cases b<;>simp[behindInMarks,d,f]
def Iv(l:oh X (compareOp op) r)(g:PE X a ta)(k:PE X b tb)(o:behindInMarks op b=false):PE X (.Compare a [op] [b] pos) (tU r ta tb):=by intro i s j H Q I h;exact wpAny_Compare1 (Mw g k I h λv u e x y f m d n q=>l i e j f x y v u Q m d n q) o
def wD(t:TE):TT:=λd H Q=>t d H λx e=>∃k,x=.bl k/\Q k e
def Im(j:oh X (compareOp op) r)(l:PE X a ta)(i:PE X b tb)(g:behindInMarks op b=false):PT X (.Compare a [op] [b] pos) (wD (tU r ta tb)):=by
 intro d s f H Q I h;refine wpAny_isTrue_Compare1 (jB (l d s f H _ I h) λv s1 ⟨x,H1,I1,r1,q1⟩=>jB (i d s1 f H1 _ I1 q1) λu s2 ⟨y,H2,I2,r2,q2⟩=>jB (j d s2 f H2 x y v u _ I2 r1 r2 q2) λc s3 ⟨z,H3,I3,r3,k,e,q3⟩=>?_) g
 subst e;cases r3;exact wpAny_truthy_bool ⟨H3,I3,q3⟩
def AK(r j:R2)(ta tb tc:TE):TE:=λd H Q=>ta d H λx h=>tb d h λy i=>r x y i λz e=>∃k,z=.bl k/\
 (if k=true then tc d e λf g=>j y f g Q else Q (.bl false) e)
theorem FN(n:oh X (compareOp op) r)(i:oh X (compareOp op') r')(o:PE X a ta)(m:PE X b tb)(j:PE X c tc)
  (l:lastMarks [op,op'] [b,c]=false:=by with_unfolding_all rfl):PE X (.Compare a [op,op'] [b,c] pos) (AK r r' ta tb tc):=by
 intro f s g H Q I h;refine Compare_chain (jB (o f s g H _ I h) λv s1 ⟨x,H1,I1,r1,q1⟩=>chain_link (jB (m f s1 g H1 _ I1 q1) λu s2 ⟨y,H2,I2,r2,q2⟩=>jB (n f s2 g H2 x y v u _ I2 r1 r2 q2) λd s3 ⟨z,H3,I3,r3,k,e,q3⟩=>?_)) l
 subst e;cases r3;refine wpAny_truthy_bool ?_;cases k with
 |false=>exact ite_ff ⟨.bl false,H3,I3,rfl,q3⟩
 |true=>exact ite_tt (chain_last (jB (j f s3 g H3 _ I3 q3) λw' s4 ⟨z',H4,I4,r4,q4⟩=>i f s4 g H4 y z' u w' Q I4 r2 r4 q4))
def xy:(sizeLine:Nat)<2 ^ 63:=by rw[sizeLine_eq];decide
def AR:oh X (binaryOp .Add) (λx y H Q=>∃i j,x=.str i/\y=.str j/\i.length+j.length<=sizeLine/\Q (.str (i++j)) H):=by intro k s l H x y v u Q I d g h;obtain⟨i,j,rfl,rfl,f,q⟩:=h;obtain⟨t,rfl⟩:=d;obtain⟨e,rfl⟩:=g;exact add_str (λe m=>⟨.str (i++j),H,I.tok _,⟨_,rfl⟩,q⟩) f
def nc(r:g9 [x] us):∃u,us=[u]/\iE x u:=by
 cases r with
 |cons r1 r2=>cases r2;exact⟨_,rfl,r1⟩
def B4(r:g9 [x,y] us):∃u d,us=[u,d]/\iE x u/\iE y d:=by
 cases r with
 |cons r1 r2=>
  cases r2 with
  |cons r3 r4=>cases r4;exact⟨_,_,rfl,r1,r3⟩
def mG:jT X (.builtin "abs") (λd H Q=>∃i,d=[.int i]/\Q (.int (if i<0 then -i else i)) H):=by intro f s g H d e Q I r h;obtain⟨i,rfl,q⟩:=h;obtain⟨u,rfl,t,rfl⟩:=nc r;exact call_abs_int λu j=>⟨.int (if i<0 then -i else i),H,I.tok _,⟨_,rfl⟩,q⟩
def Du(f:X.calm=true):jT X (.builtin "max") (λe H Q=>∃i j,e=[.int i,.int j]/\Q (.int (if j>i then j else i)) H):=by
 intro n s o H e l Q I r h;obtain⟨i,j,rfl,q⟩:=h;obtain⟨u,m,rfl,⟨t,rfl⟩,⟨p,rfl⟩⟩:=B4 r;refine max_two_ints (I.ok.hd f) λg v k=>⟨_,H,I.kept k,?_,q⟩;by_cases d:j>i
 .rw[aR d,aR d];exact⟨_,rfl⟩
 .rw[aS d,aS d];exact⟨_,rfl⟩
def DD(f:X.calm=true):jT X (.builtin "min") (λe H Q=>∃i j,e=[.int i,.int j]/\Q (.int (if j<i then j else i)) H):=by
 intro n s o H e l Q I r h;obtain⟨i,j,rfl,q⟩:=h;obtain⟨u,m,rfl,⟨t,rfl⟩,⟨p,rfl⟩⟩:=B4 r;refine min_two_ints (I.ok.hd f) λg v k=>⟨_,H,I.kept k,?_,q⟩;by_cases d:j<i
 .rw[aR d,aR d];exact⟨_,rfl⟩
 .rw[aS d,aS d];exact⟨_,rfl⟩
def KP(K:W.Frag)(x:V)(H:Hp)(n:Nat):Prop:=
 match x with
 |.str y=>y.length<=sizeLine/\n=y.length
 |.byt y=>y.size<=sizeLine/\n=y.size
 |.ref p=>(∃d,ka K H p d/\n=d.length)\/∃d,lz K H p d/\n=d.length
 |_=>False
def EL:jT X (.builtin "len") (λf H Q=>∃x n,f=[x]/\KP X.K x H n/\Q (.int n) H):=by
 intro w s z H f v Q I r h;obtain⟨x,n,rfl,e,q⟩:=h;obtain⟨u,rfl,j⟩:=nc r;have o:=sizeLine_eq;cases x with
 |str y=>obtain⟨t,rfl⟩:=j;obtain⟨hy,d⟩:y.length<=sizeLine/\n=y.length:=e;subst d;exact len_str (by omega) ⟨.int _,H,I.tok _,⟨_,rfl⟩,q⟩
 |byt y=>obtain⟨t,rfl⟩:=j;obtain⟨hy,d⟩:y.size<=sizeLine/\n=y.size:=e;subst d;exact W.len_bytes (by omega) ⟨.int _,H,I.tok _,⟨_,rfl⟩,q⟩
 |ref p=>
  cases j;have d:=e;rcases d with⟨f,g,d⟩|⟨f,g,d⟩
  .subst d;obtain⟨gG,l,k,m⟩:=I.list g;have i:=l.length;exact Calls.call_len_list k.isList (by simp only[bH];omega) ⟨.int f.length,H,I.tok _,⟨_,by simp only[bH];rw[i]⟩,q⟩
  .subst d;obtain⟨gG,l,k,m⟩:=I.tuple g;have i:=l.length;exact len_tuple k (by simp only[bH];omega) ⟨.int f.length,H,I.tok _,⟨_,by simp only[bH];rw[i]⟩,q⟩
 |_=>exact (e).elim
end
end L2
namespace L2
open PySem PySem.Spec PyProof.Rows
structure zX(h:Heap)(x dx C:Addr)(mA:Str->Option Value):Prop where
 obj:h.get? x=some (W.instObj C dx)
 ns:h.Ns1 dx mA
 ne:dx≠x
def CU{h:Heap}(n:h.Ns1 dx mA):∃d,h.get? dx=some d/\∀name,W.lookIn name d=some (mA name):=by
 obtain⟨o,c,m,i,k,j,_,l⟩:=n;refine⟨o,i,λname=>?_⟩;have e:=l name;unfold nsFind findBy at e;rw[<-Array.find?_toList]at e;unfold W.lookIn;rw[k];dsimp only;split
 .rename_i y q;rw[q]at e;exact congrArg some e
 .rename_i q;rw[q]at e;have a:c.toList.any (·.refKey)=false:=by rw[bI];intro y f;obtain⟨z,t,b⟩:=j y (bJ.mp f);simp[DictEntry.refKey,b]
  have g:¬c.toList.any (·.refKey)=true:=by rw[a];exact aI
  rw[aS g];exact congrArg some e
def zX.look(I:zX h x dx C mA):∃a,W.InstAt h x (W.instObj C dx) C (some a)/\∀name,W.lookIn name a=some (mA name):=
 let ⟨a,ho,hl⟩:=CU I.ns
 ⟨a,⟨I.obj,rfl,rfl,ho⟩,hl⟩
section
variable {prog:Program}{w:World}{A:Around}{E:Vq->Shared->Prop}{s:Sq}{K:W.Frag}{x dx C f:Addr}{mA:Str->Option Value}{name:Str}{v:Vq}
def J6(X:K.In s.heap)(I:zX s.heap x dx C mA)(c:W.plainGet K C name=true)(d:W.hasDictIn K C=true)
  (e:W.findIn K (.ref C) name=some none) (hv:mA name=some v) (a:W.handedIn v=true) (h:Q v {s with toks:=s.toks+1}) :
  wpAny (model prog w) A (getAttr (.ref x) name expr) Q E s:=by
 obtain⟨g,J,b⟩:=I.look;exact W.get_value X J (W.plainGet_of c).1 (W.findObj_own d e rfl (by rw[b,hv])) a h
def Eh(X:K.In s.heap)(I:zX s.heap x dx C mA)(a:W.plainGet K C name=true)
  (e:W.findIn K (.ref C) name=some (some (.ref f))) (c:W.isFn K (.ref f)=true) (hv:mA name=none) (h:Q (.ref f,[.ref x]) s) :
  wpAny (model prog w) A (getMethod (.ref x) name pl) Q E s:=by
 obtain⟨d,J,b⟩:=I.look;exact W.method_fn X J (W.plainGet_of a).1 (W.plainGet_of a).2 e (beq_iff_eq.mp c) (by show (W.lookIn name d).map (·.isSome)=some false;rw[b,hv];rfl) h
def Kg(X:K.In s.heap)(I:zX s.heap x dx C mA)
  (hs:W.findIn K (.ref C) "__setattr__" = some (some (.builtin "object.__setattr__"))) (l:W.plainOver K C=true) (k:W.takerIn K C name=some none) (o:W.hasDictIn K C=true)
  (hw:PySem.Within mA ns) (j:ns.length<=sizeLine)
  (h:∀h',zX h' x dx C (λy=>if y=name then some v else mA y)->Heap.SameBut dx s.heap h'->Q () {s with heap:=h',toks:=s.toks+2}) :
  wpAny (model prog w) A (setAttr (.ref x) name v) Q E s:=by
 obtain⟨B,J,r⟩:=I.look;refine W.set_plain X J hs (W.osa_open X J l k λb=>?_);obtain⟨z,p,e⟩:=W.any_some o;have m:=I.obj;refine aq (ao (aq (aq (wpAny_loadPart m (aq (W.Looks.here (W.looks_clsIn X p) ?_))))));rw[e];refine ao (aq (ao (aq ?_)));refine wpAny_nsSet1 I.ns λh' a c=>?_;obtain⟨u,q,n,g,i,d⟩:=a.count (PySem.Within.cons name v hw);refine aq (wpAny_lookBehind g (by rw[i];exact pastItsLine_dict (aO d (by rw[aA];omega))) ?_);exact ao (h _ ⟨(c.2 _ (Ne.symm I.ne)).trans I.obj,a,I.ne⟩ c)
def FM(X:K.In s.heap)(b:W.makesIn K C=true)
  (c:W.findIn K (.ref C) "__init__" = some (some (.ref f))) (e:W.typeIn K (.ref f)=some (.type "function"))
  (h:codeAny (model prog w) (A.under (.builtin "type.__call__" ⟨.ref C::vs,kw⟩)) (.call (.ref f) ⟨.ref (s.heap.objs.size+1)::vs,kw⟩) (W.InitBack (s.heap.objs.size+1) R)
   {s with heap:=(s.heap.push W.emptyDict).push (W.instObj C s.heap.objs.size)}) :
  codeAny (model prog w) A (.call (.ref C) ⟨vs,kw⟩) R s:=by
 obtain⟨j,g,d,t,i⟩:=s;exact W.make_core (W.makes_of X b) (W.looks_findIn X c) (λa=>W.bind_fn X a e) (.inl rfl) h
end
def nh(f:Str)(v:V):List (Str×V)->List (Str×V)
 |[]=>[(f,v)]
 | (g,x)::r=>if g=f then (g,v)::r else (g,x)::nh f v r
theorem rP f g v:∀fs:List (Str×V),(nh f v fs).lookup g=if g=f then some v else fs.lookup g
 |[]=>by
  show List.lookup g [(f,v)]=_;by_cases h:g=f
  .have a:=beq_iff_eq.mpr h;simp only[List.lookup,a,aR h]
  .have a:=beq_eq_false_iff_ne.mpr h;simp only[List.lookup,a,aS h]
 | (k,x)::r=>by
  have c:=rP f g v r;rw[show nh f v ((k,x)::r)=(if k=f then (k,v)::r else (k,x)::nh f v r) from rfl];by_cases b:k=f
  .rw[aR b];by_cases h:g=k
   .have a:=beq_iff_eq.mpr h;simp only[List.lookup,a,aR (h.trans b)]
   .have a:=beq_eq_false_iff_ne.mpr h;simp only[List.lookup,a,aS (λe:g=f=>h (e.trans b.symm))]
  .rw[aS b];by_cases h:g=k
   .have a:=beq_iff_eq.mpr h;simp only[List.lookup,a,aS (λe:g=f=>b (h.symm.trans e))]
   .have a:=beq_eq_false_iff_ne.mpr h;simp only[List.lookup,a];exact c
theorem qK f v:∀fs:List (Str×V),f∈(nh f v fs).map (·.1)/\∀g,g∈fs.map (·.1)->g∈(nh f v fs).map (·.1)
 |[]=>⟨by simp[nh],λg h=>by simp at h⟩
 | (k,x)::r=>by
  obtain⟨b,c⟩:=qK f v r;rw[show nh f v ((k,x)::r)=(if k=f then (k,v)::r else (k,x)::nh f v r) from rfl];by_cases a:k=f
  .rw[aR a];subst a;exact⟨by simp,λg h=>by simpa using h⟩
  .rw[aS a];refine⟨?_,λg h=>?_⟩
   .rw[bK];exact bz _ b
   .rw[bK]at h ⊢;rcases aG.mp h with e|e
    .exact aG.mpr (.inl e)
    .exact bz _ (c g e)
theorem rX f v:∀fs:List (Str×V),(nh f v fs).length<=fs.length+1
 |[]=>by simp[nh]
 | (k,x)::r=>by
  have b:=rX f v r;rw[show nh f v ((k,x)::r)=(if k=f then (k,v)::r else (k,x)::nh f v r) from rfl];by_cases a:k=f
  .rw[aR a,aA,aA];omega
  .rw[aS a,aA,aA];omega
def oV.some_of(r:oV (some v) o):∃u,o=some u/\iE v u:=by
 cases o with
 |none=>exact (r).elim
 |some u=>exact⟨u,rfl,r⟩
def oV.none_of(r:oV none o):o=none:=by
 cases o with
 |none=>rfl
 |some u=>exact (r).elim
def Dx(r:iE v u):W.handedIn u=true:=by
 cases v with
 |non=>cases (r);rfl
 |bl b=>cases (r);rfl
 |int i=>obtain⟨t,e⟩:=(r);cases e;rfl
 |str x=>obtain⟨t,e⟩:=(r);cases e;rfl
 |byt b=>obtain⟨t,e⟩:=(r);cases e;rfl
 |flt b=>obtain⟨t,e⟩:=(r);cases e;rfl
 |ref a=>cases (r);rfl
 |ty n=>cases (r);rfl
section
variable {P:Program}{w:World}{H H':Hp}{h h':Heap}{a C dx:Addr}{fs fs':List (Str×V)}
def sM(c:oo P w H h)(e:H a=some (.ins C dx fs)):∃b,zX h a dx C b/\(∀f,oV (fs.lookup f) (b f))/\PySem.Within b (fs.map (·.1))/\fs.length<=1000/\H dx=some (.own a):=by obtain⟨d,z,ne,g,b,n,r,q⟩:=(c a _ e);exact⟨b,⟨g,n,ne⟩,r,q,z,d⟩
end
structure vU(K:W.Frag)(C:Addr):Prop where
 pg:W.plainGet K C Str.empty=true
 hd:W.hasDictIn K C=true
 po:W.plainOver K C=true
 sa:W.findIn K (.ref C) "__setattr__" = some (some (.builtin "object.__setattr__"))
def vU.get{K:W.Frag}(c:vU K C) f:W.plainGet K C f=true:=c.pg
def kx(K:W.Frag)(C:Addr)(f:Str):Prop:=W.findIn K (.ref C) f=some none
def kx.taker{K:W.Frag}(n:kx K C f):W.takerIn K C f=some none:=by unfold W.takerIn;rw[show W.findIn K (.ref C) f=some none from n];rfl
structure Js(K:W.Frag)(C:Addr)(m:Str)(f:Addr):Prop where
 at_:W.findIn K (.ref C) m=some (some (.ref f))
 fn:W.isFn K (.ref f)=true
 kp:W.keepIn K (.ref f)=true
section
variable {X:Cx}{gx:List (Addr×Obj)}{σ:St}{H:Hp}{s:Sq}{a C dx:Addr}{fs:List (Str×V)}{f:Str}{v:V}{A:Around}{E:Vq->Shared->Prop}
def AH(I:gP X gx σ H s)(e:H a=some (.ins C dx fs))(c:vU X.K C)(n:kx X.K C f)(l:fs.lookup f=some v)
  (h:∀u g,gP X gx σ H g->iE v u->Q u g):wpAny (model X.prog X.w) A (getAttr (.ref a) f b) Q E s:=by
 obtain⟨j,O,r,_,_,_⟩:=sM I.hok e;obtain⟨u,i,d⟩:=oV.some_of (by rw[<-l];exact r f);exact J6 I.kIn O (c.get f) c.hd n i (Dx d) (h u _ (I.tok _) d)
def AE(I:gP X gx σ H s)(e:H a=some (.ins C dx fs))(c:vU X.K C)(k:Js X.K C m g)(l:fs.lookup m=none)
  (h:Q (.ref g,[.ref a]) s):wpAny (model X.prog X.w) A (getMethod (.ref a) m pl) Q E s:=by
 obtain⟨d,O,r,_,_,_⟩:=sM I.hok e;have b:=oV.none_of (by rw[<-l];exact r m);exact Eh I.kIn O (c.get m) k.at_ k.fn b h
def zQ(I:gP X gx σ H s)(e:H a=some (.ins C dx fs))(c:vU X.K C)(n:kx X.K C f)(L:fs.length<1000)(D:iE y u)
  (h:∀j,gP X gx σ (iU H a (.ins C dx (nh f y fs))) j->Q () j):wpAny (model X.prog X.w) A (setAttr (.ref a) f u) Q E s:=by
 obtain⟨l,O,r,i,_,k⟩:=sM I.hok e;have B:(fs.map (·.1)).length<=sizeLine:=by rw[ax,sizeLine_eq];omega
 refine Kg I.kIn O c.sa c.po n.taker c.hd i B λm d x=>h _ ?_;have F:∃o,m.get? dx=some o:=let ⟨o,_,_,e',_⟩:=d.ns;⟨o,e'⟩;refine I.write (by rw[e];exact True.intro) (.inr k) (λb q p z=>(x.2 b p).trans z) F ?_;refine⟨by rw[gI O.ne];exact k,?_,O.ne,d.obj,_,d.ns,λg=>?_,λg J=>?_⟩
 .have:=rX f y fs;omega
 .rw[rP];by_cases q:g=f
  .rw[aR q,aR q];exact D
  .rw[aS q,aS q];exact r g
 .by_cases q:g=f
  .rw[q];exact (qK f y fs).1
  .refine (qK f y fs).2 g (i g λz=>J ?_);show (if g=f then some u else l g)=none;rw[aS q];exact z
def gP.made(I:gP X gx σ H s):gP X gx σ (iU (iU H s.heap.objs.size (.own (s.heap.objs.size+1))) (s.heap.objs.size+1) (.ins C s.heap.objs.size []))
  {s with heap:=(s.heap.push W.emptyDict).push (W.instObj C s.heap.objs.size)}:=by
 have c:(s.heap.push W.emptyDict).get? s.heap.objs.size=some W.emptyDict:=au s.heap rfl;have h:((s.heap.push W.emptyDict).push (W.instObj C s.heap.objs.size)).get? (s.heap.objs.size+1)=some (W.instObj C s.heap.objs.size):=by have:=au (s.heap.push W.emptyDict) (o:=W.instObj C s.heap.objs.size) rfl;rwa [Heap.size_push]at this
 have g:(s.heap.push W.emptyDict).Ns s.heap.objs.size (λ_=>none):=⟨W.emptyDict,#[],_,c,rfl,(λe i=>absurd i (by simp)),λ_=>rfl⟩;have j:=I.laid (o:=.own (s.heap.objs.size+1)) (t':=s.toks) (λb u q=>af _ q) (aL _) ⟨_,c⟩;refine j.laid (λb u q=>af _ q) (bL (Heap.size_push _ _)) ?_;have ne:s.heap.objs.size≠s.heap.objs.size+1:=aN (bM _);refine⟨by rw[gI ne,gE],bN _,ne,h,λ_=>none,(Heap.Ns1.of_empty g).at λo q=>af _ q,λ_=>True.intro,λy d=>absurd rfl d⟩
def JP(c:attributeBase e f env (eval e env)=eval e env)
  (h:wpAny (model prog w) A (eval e env) (λo b=>wpAny (model prog w) A (getAttr o f true) Q E b) E s):wpAny (model prog w) A (eval (.Attribute e f pos) env) Q E s:=
 Attribute_any_ h (by rw[arm_eval_Attribute,c])
end
def ML(K:W.Frag)(e:TE)(f:Str):TE:=λd H Q=>e d H λx b=>∃a C c fs v,x=.ref a/\b a=some (.ins C c fs)/\vU K C/\kx K C f/\fs.lookup f=some v/\Q v b
def L6(K:W.Frag)(h e:TE)(f:Str):TS:=λD b H=>e b H λy g=>h b g λx d=>∃a C c fs,x=.ref a/\d a=some (.ins C c fs)/\vU K C/\kx K C f/\fs.length<1000/\
 D.nx b (iU d a (.ins C c (nh f y fs)))
section
variable {X:Cx}{o e value:Expr}{f:Str}{pos pos' tpos:Pos}{ta tv:TE}
def KZ(j:PE X e ta)(i:attributeBase e f X.env (eval e X.env)=eval e X.env):PE X (.Attribute e f pos) (ML X.K ta f):=by intro b s g H Q I h;refine JP i (jB (j b s g H _ I h) λu s1 ⟨x,H1,I1,rx,a,C,dx,fs,v,ex,ea,c,n,l,q⟩=>?_);subst ex;obtain rfl:u=Value.ref a:=rx;exact AH I1 ea c n l λp m d k=>⟨v,H1,d,k,q⟩
def G0(i:PE X o ta)(hv:PE X value tv)(hs:swapsWith value (some (.Attribute o f pos')) pos.line X.env=pure false):PS X (.Assign [.Attribute o f pos'] value pos) (L6 X.K ta tv f):=by intro d s b H D I h;refine plainObj_wpAny_Assign_Attribute (jB (hv d s b H _ I h) λu s1 ⟨y,H1,I1,ry,q⟩=>jB (i d s1 b H1 _ I1 q) λov s2 ⟨x,H2,I2,rx,a,C,dx,fs,ex,ea,c,n,l,q2⟩=>?_) hs;subst ex;obtain rfl:ov=Value.ref a:=rx;exact zQ I2 ea c n l ry λj g=>⟨b,_,g,q2⟩
end
section
variable {X:Cx}{gx:List (Addr×Obj)}{σ:St}{H:Hp}{s:Sq}{A:Around}{E:Vq->Shared->Prop}{Q:Vq->Shared->Prop}{c:Vq}{b:Bool}
inductive nL(K:W.Frag)(H:Hp):V->Value->Prop where
 |non:nL K H .non (.type "NoneType")
 |bl (x:Bool):nL K H (.bl x) (.type "bool")
 |int (i:Int):nL K H (.int i) (.type "int")
 |str (x:Str):nL K H (.str x) (.type "str")
 |flt (x:UInt64):nL K H (.flt x) (.type "float")
 |lst {a:Addr} {xs:List V} (e:H a=some (.lst xs)):nL K H (.ref a) (.type "list")
 |frz {a:Addr} {o:Obj} {xs:List V} (e:H a=some (.frz o (.lst xs))):nL K H (.ref a) (.type "list")
 |tup {a:Addr} {xs:List V} (e:H a=some (.tup xs)):nL K H (.ref a) (.type "tuple")
 |dK {a:Addr} {kvs:List (m6×V)} (e:H a=some (.dK kvs)):nL K H (.ref a) (.type "dict")
 |dT {a:Addr} {kvs:List (List m6×V)} (e:H a=some (.dT kvs)):nL K H (.ref a) (.type "dict")
 |ins {a C dx:Addr} {fs:List (Str×V)} (e:H a=some (.ins C dx fs)) (cl:vU K C) (ha:W.findIn K (.ref C) "__class__" = some (some (.builtin "object.__class__")))
   (hn:W.specialIn K (.builtin "object.__class__") "__get__" = some (some (.builtin "getset_descriptor.__get__"))) (htk:W.takesIn K (.builtin "object.__class__")=some true)
   (hm:W.mroIn K C (.type "object")=some true):nL K H (.ref a) (.ref C)
def Dc(I:gP X gx σ H s)(d:iE x u)(ty:nL X.K H x t)(e:W.kitOne X.K t c=some b)(h:∀m,Q (.bool b) {s with toks:=m}) :
  wpAny (model X.prog X.w) A (call (.builtin "isinstance") [u,c]) Q E s:=by
 cases ty with
 |non=>cases (d);exact W.kia_one W.kitx_none I.kIn True.intro e (λz=>nomatch z) h
 |bl y=>cases (d);exact W.kia_one W.kitx_bool I.kIn True.intro e (λz=>nomatch z) h
 |int i=>obtain⟨t,q⟩:=(d);cases q;exact W.kia_one W.kitx_int I.kIn True.intro e (λz=>nomatch z) h
 |str y=>obtain⟨t,q⟩:=(d);cases q;exact W.kia_one W.kitx_str I.kIn True.intro e (λz=>nomatch z) h
 |flt y=>obtain⟨t,q⟩:=(d);cases q;exact W.kia_one W.kitx_float I.kIn True.intro e (λz=>nomatch z) h
 |@lst a j ea=>cases (d);obtain⟨_,_,n,_,f⟩:=(I.hok a _ ea);exact W.kia_one W.kitx_list I.kIn ⟨_,f,rfl⟩ e (λz=>nomatch z) h
 |@frz a ob j ea=>cases (d);obtain⟨_,_,_,n,_,f⟩:=(I.hok a _ ea);exact W.kia_one W.kitx_list I.kIn ⟨_,f,rfl⟩ e (λz=>nomatch z) h
 |@tup a j ea=>cases (d);obtain⟨_,_,_,p⟩:=(I.hok a _ ea);obtain⟨o,f,g,_⟩:=p;exact W.kia_one W.kitx_tuple I.kIn ⟨o,f,g⟩ e (λz=>nomatch z) h
 |@dK a kvs ea=>cases (d);obtain⟨_,_,v,_,p⟩:=(I.hok a _ ea);obtain⟨o,k,l,f,g,_⟩:=p;exact W.kia_one W.kitx_dict I.kIn ⟨o,f,g.1⟩ e (λz=>nomatch z) h
 |@dT a kvs ea=>cases (d);obtain⟨_,_,j,_,o,k,l,f,g,_⟩:=(I.hok a _ ea);exact W.kia_one W.kitx_dict I.kIn ⟨o,f,g.1⟩ e (λz=>nomatch z) h
 |@ins a C dx fs ea cl ha hn htk hm=>cases (d);obtain⟨r,O,_⟩:=sM I.hok ea;obtain⟨B,J,_⟩:=O.look;exact W.kia_one (W.kitx_own (cl.get _) cl.hd ha hn htk hm) I.kIn J e (λz=>nomatch z) h
end
end L2
namespace L2
open PySem PySem.Spec PyProof.Rows
structure iP(k:Nat)(A:Around):Prop where
 hd:A.handled=none
 dp:A.depth+3*k+5<recursionLimit
 un:A.units+16*k+200<cLine
def iP.mono(r:iP k A)(h:j<=k):iP j A:=⟨r.hd,by have:=r.dp;omega,by have:=r.un;omega⟩
def iP.deeper(r:iP (k+1) A) env:iP k (A.deeper env):=⟨r.hd,by have:=r.dp;show A.depth+1+3*k+5<_;omega,by have:=r.un;show A.units+3+16*k+200<_;omega⟩
def Ba{A:Around}:(A.under (.builtin "type.__call__" ⟨.ref C::us,kw⟩)).depth=A.depth+1:=by first|rfl|simp[Around.under,Code.weight,Code.isCreation,Code.isGuard,Code.isCaller,Code.frames,Code.isFrame,guardIds]
def AD{A:Around}:(A.under (.builtin "type.__call__" ⟨.ref C::us,kw⟩)).units=A.units+1:=by first|rfl|simp[Around.under,Code.cUnits,Code.frames,Code.isFrame]
def iP.make(r:iP (k+1) A) C us kw:iP k (A.under (.builtin "type.__call__" ⟨.ref C::us,kw⟩)):=⟨r.hd,by have:=r.dp;rw[Ba];omega,by have:=r.un;rw[AD];omega⟩
def iP.depth(r:iP k A):A.depth<recursionLimit:=by have:=r.dp;omega
def iP.units(r:iP k A):A.units+64<cLine:=by have:=r.un;omega
def tZ:TA:=λ_ H Q=>Q [] H
def pM(c:TE)(f:TA):TA:=λa H Q=>c a H λx b=>f a b λe d=>Q (x::e) d
section
variable {X:Cx}{e:Expr}{es:List Expr}{te:TE}{t:TA}{pos:Pos}
def uh:PA X [] tZ:=λ_ _ _ _ H Q I h=>Calls.spliced_nil ⟨[],H,I,.nil,h⟩
def nY(c:PE X e te)(hr:PA X es t)(hs:starEach (e::es) X.env=(false,eval e X.env)::starEach es X.env:=by rfl):PA X (e::es) (pM te t):=by intro pos a s b H Q I h;rw[hs];refine Calls.spliced_cons (jB (c a s b H _ I h) λu s1 ⟨x,H1,I1,r1,q1⟩=>?_);exact jB (hr pos a s1 b H1 _ I1 q1) λus s2 ⟨xs,H2,I2,r2,q2⟩=>⟨x::xs,H2,I2,.cons r1 r2,q2⟩
def MP(t:TA):TE:=λc H Q=>t c H λb a=>b.length<=sizeLine/\∀p,a p=none->Q (.ref p) (iU a p (.tup b))
def Lp(t:TA):TE:=λc H Q=>t c H λb a=>b.length<=sizeLine/\∀p,a p=none->Q (.ref p) (iU a p (.lst b))
def Nb{x1}(h:PA X es t):PE X (.Tuple es x1 pos) (MP t):=by intro a s c H Q I d;refine wpAny_Tuple_spliced (jB (h pos a s c H _ I d) λus s1 ⟨xs,H1,I1,r,z,q⟩=>⟨by rw[<-r.length];exact z,?_⟩);have f:=I1.hok.fresh (aL _);refine⟨.ref s1.heap.objs.size,iU H1 s1.heap.objs.size (.tup xs),I1.laid (λb u e=>af _ e) (aL _) ?_,rfl,q _ f⟩;exact⟨z,us,r,⟨_,au _ rfl,rfl,_,rfl,rfl⟩⟩
def Ld(h:PA X es t):PE X (.List es pos) (Lp t):=by intro a s c H Q I d;refine wpAny_List_spliced (jB (h pos a s c H _ I d) λus s1 ⟨xs,H1,I1,r,z,q⟩=>⟨by rw[<-r.length];exact z,?_⟩);have f:=I1.hok.fresh (aL _);refine⟨.ref s1.heap.objs.size,iU H1 s1.heap.objs.size (.lst xs),I1.laid (λb u e=>af _ e) (aL _) ?_,rfl,q _ f⟩;exact⟨z,us,0,r,au _ rfl⟩
end
abbrev Sp:=List V->Hp->VK->XK->Prop
abbrev Iq:=List Env->Hp->Shared->XK->Value->Shared->Prop
structure Ao(P:Program)(w:World)(K:W.Frag)(mg:Str->Option Value)(base:Heap)(A:Around)(outer:List Env)(s:Sq)(H:Hp):Prop where
 frames:A.frames=some outer
 mod:Mod K mg base
 bs:∀b o,base.get? b=some o->s.heap.get? b=some o/\H b=none
 bsz:base.objs.size<=s.heap.objs.size
 funs:s.heap.FunFrames base outer
 frf:∀b∈CS outer,H b=none
 hok:oo P w H s.heap
 bare:AllBare s.gens
 tab:GS base H
def CE(a:List Env)(P:Program)(w:World)(H:Hp)(s:Sq)(Q:VK)(u:Vq)(b:Sq):Prop:=∃v c,b.os=s.os/\AllBare b.gens/\Un (CS a) [] H c s.heap b.heap/\oo P w c b.heap/\iE v u/\Q v c
def CR(c:Iq)(a:List Env)(P:Program)(w:World)(H:Hp)(s:Sq)(Q:VK)(E:XK)(r:Result)(b:Sq):Prop:=
 match r with
 |.ok (.ret u)=>CE a P w H s Q u b
 |.ok _=>False
 |.error e=>c a H s E e b
structure lU(P:Program)(w:World)(K:W.Frag)(mg:Str->Option Value)(base:Heap)(CX:Iq)(k:Nat)(f:Addr)(fd:FuncData)(ps:List Str)(sp:Sp):Prop where
 len:∀vs H Q E,sp vs H Q E->vs.length=ps.length
 run:∀(A:Around) (outer:List Env) (s:Sq) (H:Hp) (args:Args) (us:List Vq) (vs:List V) (Q:VK) (E:XK),iP k A->Ao P w K mg base A outer s H->BindsTo s fd args (ps.zip us)->g9 vs us->sp vs H Q E->
  codeAny (model P w) A (.call (.ref f) args) (CR CX outer P w H s Q E) s
def lU.mono{K:W.Frag}(F:lU P w K mg base CX j f fd ps sp)(h:j<=k) :
  lU P w K mg base CX k f fd ps sp:=⟨F.len,λA a s H b c d Q E hr=>F.run A a s H b c d Q E (hr.mono h)⟩
def lU.imp{K:W.Frag}(F:lU P w K mg base CX k f fd ps sp)
  (h:∀vs H Q E,sp' vs H Q E->sp vs H Q E):lU P w K mg base CX k f fd ps sp':=
 ⟨λvs H Q E q=>F.len vs H Q E (h _ _ _ _ q),λA a s H b c vs Q E hr e g hv d=>F.run A a s H b c vs Q E hr e g hv (h _ _ _ _ d)⟩
def Ao.make{K:W.Frag}(e:Ao P w K mg base A outer s H) C us kw :
  Ao P w K mg base (A.under (.builtin "type.__call__" ⟨.ref C::us,kw⟩)) outer s H:=⟨by first|exact e.frames|(simpa[Around.under,Code.envs,Code.isFrame,pushEnvs] using e.frames),e.mod,e.bs,e.bsz,e.funs,e.frf,e.hok,e.bare,e.tab⟩
section
variable {X:Cx}{gx:List (Addr×Obj)}{σ:St}{H:Hp}{s s':Sq}
def gP.env0(I:gP X gx σ H s):Ao X.prog X.w X.K X.mg X.base X.A X.stack s H:=⟨I.ok.frames,I.ok.mod,I.bs,aO I.ok.bsz I.sz,I.stack,I.stkFree,I.hok,I.bare,I.tab⟩
def gP.after(I:gP X gx σ H s)(h:CE X.stack X.prog X.w H s Q u s'):EP X gx σ Q u s':=by obtain⟨v,i,f,a,un,e,r,q⟩:=h;obtain⟨j,g,d,t,c⟩:=s';obtain rfl:c=s.os:=f;exact⟨v,i,I.call un e a (λb z=>absurd z (by simp)),r,q⟩
end
def vR(b:Sp)(a:List V)(E:XK)(t:TA):TE:=λd H Q=>t d H λc e=>b (c++a) e Q E
def wF(C:Addr)(m:Str)(f:Sp)(b:List V)(E:XK)(h:TE)(t:TA):TE:=λc H Q=>h c H λx d=>∃a e fs,x=.ref a/\d a=some (.ins C e fs)/\fs.lookup m=none/\
 t c d λg i=>f (x::(g++b)) i Q E
def B7(C:Addr)(d:Sp)(c:List V)(E:XK)(t:TA):TE:=λf H Q=>t f H λe b=>∀x a,b x=none->b a=none->a≠x->
 d (.ref x::(e++c)) (iU (iU b a (.own x)) x (.ins C a [])) (λv g=>v=.non/\Q (.ref x) g) E
def nO(K:W.Frag)(fd:FuncData)(b:List Str)(c:List Vq):Prop:=∀(s:Sq) (a:List Vq),K.In s.heap->(a++c).length=b.length->BindsTo s fd ⟨a,[]⟩ (b.zip (a++c))
def nO.all{K:W.Frag}(h:∀us:List Vq,us.length=ps.length->bindArgs fd ⟨us,[]⟩=pure (ps.zip us)):nO K fd ps []:=λs us _ a=>by rw[bO]at a ⊢;exact .of_eq (h us a)
def qE(d:Iq)(X:Cx)(E:XK):Prop:=∀(b:List (Addr×Obj)) (c:St) (H:Hp) (s:Sq) (e:Vq) (a:Sq),gP X b c H s->d X.stack H s E e a->X.xe e a
section
variable {X:Cx}{CX:Iq}{k:Nat}{f C:Addr}{fd:FuncData}{ps:List Str}{sp:Sp}{dvs:List V}{ds:List Vq}{E:XK}{x m:Str}{p pos apos:Pos}{e o:Expr}{es:List Expr}{ta:TE}{t:TA}
theorem GV(F:lU X.prog X.w X.K X.mg X.base CX k f fd ps sp)(hr:iP k X.A)(g:nO X.K fd ps ds)(d:g9 dvs ds)(i:qE CX X E)
  (I:gP X gx σ H s) (r:g9 vs us) (h:sp (vs++dvs) H Q E):wpAny (model X.prog X.w) X.A (call (.ref f) us) (EP X gx σ Q) X.xe s:=by
 have b:=r.append d;have c:(us++ds).length=ps.length:=by rw[<-b.length];exact F.len _ _ _ _ h
 refine wpAny_call (codeAny_mono (F.run X.A X.stack s H ⟨us,[]⟩ (us++ds) (vs++dvs) Q E hr I.env0 (g s us I.kIn c) b h) λr j a=>?_);cases r with
 |error e=>exact i gx σ H s e j I a
 |ok fl=>
  cases fl with
  |ret u=>exact I.after a
  |next=>exact False.elim a
  |brk=>exact False.elim a
  |cont=>exact False.elim a
def IK(F:lU X.prog X.w X.K X.mg X.base CX k f fd ps sp)(hr:iP k X.A)(v:Gl X x)(y:X.mg x=some (.ref f))(n:W.keepIn X.K (.ref f)=true)(l:nO X.K fd ps ds)(u:g9 dvs ds)(c:qE CX X E)
  (g:PA X (e::es) t) (a:(x==("__debug__" : Str))=false:=by decide) (d:starEach (e::es) X.env=(false,eval e X.env)::starEach es X.env:=by rfl) (b:(backTo pos (starEach es X.env)).any (·.1)=false:=by rfl) :
  PE X (.Call (.Name x p) (e::es) [] pos) (vR sp dvs E t):=by
 intro i s j H Q I h;refine wpAny_Call_Name_kw (wZ I v y ?_ a);refine W.callWith_K I.ok.mod.kin n (jB (g pos i s j H _ I h) λus s1 ⟨vs,H1,I1,r,q⟩=>⟨I1.kIn,?_⟩) d b;exact GV F hr l u c I1 r q
def Hq(r:PE X o ta)(c:vU X.K C)(b:Js X.K C m f)(F:lU X.prog X.w X.K X.mg X.base CX k f fd ps sp)(hr:iP k X.A)(n:nO X.K fd ps ds)(g:g9 dvs ds)(v:qE CX X E)
  (j:eval (.Call (.Attribute o m apos) [] [] pos) X.env=(do
   let ov <-eval o X.env
   standAt apos.atName
   let (f,first) <-holding [ov] (getMethod ov m pl)
   callWith pos f first (backTo pos (starEach [] X.env)) (backToKw pos (keywordEach [] X.env))):=by rfl) :
  PE X (.Call (.Attribute o m apos) [] [] pos) (wF C m sp dvs E ta tZ):=by
 intro d s i H Q I h;refine W.methodCall_KW (jB (r d s i H _ I h) λu s1 ⟨x,H1,I1,rx,a,dx,fs,ex,ea,l,q⟩=>?_) j;subst ex;obtain rfl:u=Value.ref a:=rx;refine AE I1 ea c b l ?_;exact W.callWith_K0 I1.kIn b.kp (GV (vs:=[.ref a]) F hr n g v I1 (.cons rfl .nil) q)
structure Mk(K:W.Frag)(C f:Addr):Prop where
 makes:W.makesIn K C=true
 init:W.findIn K (.ref C) "__init__" = some (some (.ref f))
 fn:W.isFn K (.ref f)=true
 kp:W.keepIn K (.ref C)=true
theorem Gd(M:Mk X.K C f)(F:lU X.prog X.w X.K X.mg X.base CX k f fd ps sp)(hr:iP (k+1) X.A)(D:nO X.K fd ps ds)(J:g9 dvs ds)
  (i:qE CX X E) (I:gP X gx σ H s) (r:g9 vs us)
  (h:∀x dx,H x=none->H dx=none->dx≠x->sp (.ref x::(vs++dvs)) (iU (iU H dx (.own x)) x (.ins C dx [])) (λv n=>v=.non/\Q (.ref x) n) E) :
  wpAny (model X.prog X.w) X.A (call (.ref C) us) (EP X gx σ Q) X.xe s:=by
 have c:=h (s.heap.objs.size+1) s.heap.objs.size (I.hok.fresh (bQ _)) (I.hok.fresh (aL _)) (aN (bM _));have b:=gP.made (C:=C) I;have d:g9 (V.ref (s.heap.objs.size+1)::(vs++dvs)) (Value.ref (s.heap.objs.size+1)::(us++ds)):=.cons rfl (r.append J);have g:(Value.ref (s.heap.objs.size+1)::us++ds).length=ps.length:=by have e:=d.length;rw[F.len _ _ _ _ c]at e;exact e.symm
 refine wpAny_call (FM I.kIn M.makes M.init (beq_iff_eq.mp M.fn) (codeAny_mono (F.run _ X.stack _ _ ⟨Value.ref (s.heap.objs.size+1)::us,[]⟩ (Value.ref (s.heap.objs.size+1)::(us++ds)) _ _ E (hr.make C us [])
  (b.env0.make C us []) (D _ (Value.ref (s.heap.objs.size+1)::us) b.kIn g) d c) λr y a=>?_))
 cases r with
 |error e=>exact i gx σ _ _ e y b a
 |ok fl=>
  cases fl with
  |ret u=>obtain⟨v,B,l,j,q,z⟩:=b.after a;subst q;exact⟨j,⟨V.ref (s.heap.objs.size+1),B,l,rfl,z⟩⟩
  |next=>exact False.elim a
  |brk=>exact False.elim a
  |cont=>exact False.elim a
def Jy(M:Mk X.K C f)(F:lU X.prog X.w X.K X.mg X.base CX k f fd ps sp)(hr:iP (k+1) X.A)(u:Gl X x)(v:X.mg x=some (.ref C))(l:nO X.K fd ps ds)(n:g9 dvs ds)(c:qE CX X E)
  (g:PA X (e::es) t) (a:(x==("__debug__" : Str))=false:=by decide) (d:starEach (e::es) X.env=(false,eval e X.env)::starEach es X.env:=by rfl) (b:(backTo pos (starEach es X.env)).any (·.1)=false:=by rfl) :
  PE X (.Call (.Name x p) (e::es) [] pos) (B7 C sp dvs E t):=by
 intro i s j H Q I h;refine wpAny_Call_Name_kw (wZ I u v ?_ a);refine W.callWith_K I.ok.mod.kin M.kp (jB (g pos i s j H _ I h) λus s1 ⟨vs,H1,I1,r,q⟩=>⟨I1.kIn,?_⟩) d b;exact Gd M F hr l n c I1 r q
end
structure i8(N P:List Str)(sc:Scope):Prop where
 kind:sc.kind=.function
 co:sc.isCoroutine=false
 gen:sc.isGenerator=false
 nd:N.Nodup
 pre:N.take P.length=P
 par:∀x∈P,sc.names.lookup x=some .local\/sc.names.lookup x=some .cell
 nofree:∀y∈sc.names,y.2≠.free
theorem vJ{kindOf:Str->Option NameKind}:∀{binds} {m},(∀v,(x,v)∉binds)->bindL kindOf binds m x=m x
 |[],_,_=>rfl
 | (n,v)::r,m,h=>by
  unfold bindL;rw[vJ λw hw=>h w (bz _ hw)];split
  .have:x≠n:=by rintro rfl;exact h v bx
   simp[this]
  .rfl
theorem v8{kindOf:Str->Option NameKind}:∀{binds} {m},(∀v,(x,v)∉binds)->bindC kindOf binds m x=m x
 |[],_,_=>rfl
 | (n,v)::r,m,h=>by
  unfold bindC;rw[v8 λw hw=>h w (bz _ hw)];split
  .rfl
  .have:x≠n:=by rintro rfl;exact h v bx
   simp[this]
theorem wG{kindOf:Str->Option NameKind}:∀{P:List Str} {vs:List Vq} {i:Nat} {m:Str->Option Value},P.Nodup->P[i]? = some x->vs[i]? = some v->kindOf x=some .local->
  bindL kindOf (P.zip vs) m x=some v
 |[],_,_,_,_,h,_,_=>by simp at h
 |_::_,[],_,_,_,_,h,_=>by simp at h
 |p::P,w::vs,0,m,nd,h1,h2,hk=>by simp at h1 h2;subst h1;subst h2;show bindL kindOf ((p,w)::P.zip vs) m p=_;unfold bindL;rw[vJ λv hv=>(bR.mp nd).1 (aX hv).1,aR hk];simp
 |p::P,w::vs,i+1,m,nd,h1,h2,hk=>by unfold bindL;exact wG (bR.mp nd).2 (by simpa using h1) (by simpa using h2) hk
theorem vM{kindOf:Str->Option NameKind}:∀{P:List Str} {vs:List Vq} {i:Nat} {m:Str->Option Value},P.Nodup->P[i]? = some x->vs[i]? = some v->kindOf x≠some .local->
  bindC kindOf (P.zip vs) m x=some v
 |[],_,_,_,_,h,_,_=>by simp at h
 |_::_,[],_,_,_,_,h,_=>by simp at h
 |p::P,w::vs,0,m,nd,h1,h2,hk=>by simp at h1 h2;subst h1;subst h2;show bindC kindOf ((p,w)::P.zip vs) m p=_;unfold bindC;rw[v8 λv hv=>(bR.mp nd).1 (aX hv).1,aS hk];simp
 |p::P,w::vs,i+1,m,nd,h1,h2,hk=>by unfold bindC;exact vM (bR.mp nd).2 (by simpa using h1) (by simpa using h2) hk
noncomputable def ll(N:List Str)(vs:List V):St:=vs.map some++List.replicate (N.length-vs.length) none
noncomputable def nC(g:Iq)(P:Program)(w:World)(K:W.Frag)(mg:Str->Option Value)(base:Heap)(N:List Str)(b:Str)(a:Scope)(f:Addr)(d:Vq)(A:Around)(outer:List Env)(s:Sq)(H:Hp)(E:XK):Cx where
 prog:=P
 w:=w
 K:=K
 mg:=mg
 base:=base
 A:=A.deeper (envOfC b a s.heap.objs.size f d)
 N:=N
 s₀:=s
 H₀:=H
 env:=envOfC b a s.heap.objs.size f d
 outer:=outer
 stack:=envOfC b a s.heap.objs.size f d::outer
 ex:=[]
 calm:=true
 fn:=λ_=>true
 pn:=[]
 xe:=λe i=>wpAny (model P w) (A.deeper (envOfC b a s.heap.objs.size f d)) (leaving (envOfC b a s.heap.objs.size f d) e) (λ_ c=>g outer H s E e c) (λh c=>g outer H s E h c) i
def lJ{a:Scope}(h:a.names.lookup x=some .cell):∃c,(cellsFrom n a.names []).lookup x=some c:=by have q:=W.cellsFrom_some a.names n [] (.inl h);exact bS.mp q
theorem DI{K:W.Frag}
  (S:i8 N ps scope) (L:A.handled=none) (g:Ao P w K mg base A outer s H) (Q:vs.length=ps.length) (r:g9 vs us)
  (x:InCallC s s.heap.objs.size (bindL (envOfC qual scope s.heap.objs.size f cd).kindOf (ps.zip us) λ_=>none) (cellsFrom (s.heap.objs.size+1) scope.names []) (bindC (envOfC qual scope s.heap.objs.size f cd).kindOf (ps.zip us) λ_=>none) s1) :
  gP (nC CX P w K mg base N qual scope f cd A outer s H E) [] (ll N vs) H s1:=by
 have I:ps.length<=N.length:=by have:=congrArg List.length S.pre;rw[bT]at this;omega
 obtain⟨o,U,rfl,D⟩:=x.done;have l:∀b:Addr,b∉(nC CX P w K mg base N qual scope f cd A outer s H E).ex:=λb z=>absurd (show b∈([]) from z) (by simp);refine⟨⟨g.mod,S.kind,rfl,rfl,aL _,λy z c o d=>?_,λy j=>?_,λy c _ h=>?_,λ_=>L,Around.frames_deeper g.frames,.inr ⟨rfl,rfl⟩,λb z=>absurd z (l b),g.bs,g.bsz,λb _ _=>l b,λb z=>absurd z (l b),g.funs,g.frf,g.tab⟩,
  rfl,g.bare,Un.kept D,⟨_,x.toInCall.ns,λi y v o d R=>?_⟩,λy c h=>⟨_,x.cell y c h⟩,g.hok.fresh (aL _),λy c h=>?_,λp m=>absurd (show p∈([]) from m) (by simp),g.hok.kept D,?_⟩
 .exact name_of_addr x.apart (PySem.mem_of_lookup o) (PySem.mem_of_lookup d)
 .have j:=j;rcases j with j|j
  .exact lJ j
  .exact absurd rfl (S.nofree _ (PySem.mem_of_lookup j))
 .exact bh (x.above y c (PySem.mem_of_lookup h))
 .have B:i<vs.length:=by
   unfold ll at d;by_cases B:i<vs.length
   .exact B
   .rw[List.getElem?_append_right (by simpa using B)]at d;rw[List.getElem?_replicate]at d;split at d<;>cases d
  have J:vs[i]? = some v:=by
   unfold ll at d;rw[List.getElem?_append_left (by simpa using B),aw]at d;cases e:vs[i]? with
   |none=>rw[e]at d;cases d
   |some a=>rw[e]at d;cases d;rfl
  obtain⟨u,C,F⟩:=r.get J;have m:ps[i]? = some y:=by rw[<-S.pre,List.getElem?_take_of_lt (by omega)];exact o
  have n:ps.Nodup:=by rw[<-S.pre];exact S.nd.sublist (List.take_sublist _ _)
  refine⟨u,F,?_⟩;rcases S.par y (av m) with k|k
  .exact .inl ⟨k,wG n m C k⟩
  .obtain⟨c,e⟩:=lJ k;refine .inr ⟨.inl k,c,e,?_⟩;have q:=x.cell y c e;rw[vM n m C (by show scope.names.lookup y≠_;rw[k];decide)]at q;exact q
 .exact g.hok.fresh (bh (x.above y c (PySem.mem_of_lookup h)))
 .unfold ll;show _=N.length;rw[aU,ax,bU];omega
theorem Ol{K:W.Frag}{X kV z pm c Y oc:Vq}(lk:K.lookup f=some ⟨oc,od,.func (W.fnOf name qual params body scope X kV z pm an c Y),osl⟩)(F:W.codeIn K c qual=true)(S:i8 N ps scope)
  (len:∀vs H Q E,sp vs H Q E->vs.length=ps.length)
  (h:∀A a s H vs Q E,iP k (A.deeper (envOfC qual scope s.heap.objs.size f c))->sp vs H Q E->
   ∃t,zb (nC CX P w K mg base N qual scope f c A a s H E) body t/\t {nx:=λ_ g=>Q .non g,rt:=Q} (ll N vs) H) :
  lU P w K mg base CX (k+1) f (W.fnOf name qual params body scope X kV z pm an c Y) ps sp:=by
 refine⟨len,λA a s H L us vs Q E hr p hb r m=>?_⟩;have Z:=len _ _ _ _ m;have U:=p.mod.kin.keeps λb o e=>(p.bs b o e).1;have D:=p.mod.nolimit.keeps λb o e=>(p.bs b o e).1;have i:∀y∈ps.zip us,scope.names.lookup y.1=some .local\/(scope.names.lookup y.1=some .cell/\((cellsFrom (s.heap.objs.size+1) scope.names []).lookup y.1).isSome=true):=λ⟨n,v⟩ hy=>by
  rcases S.par n (aX hy).1 with q|q
  .exact .inl q
  .exact .inr ⟨q,W.cellsFrom_some _ _ _ (.inl q)⟩
 refine codeAny_call_function hr.depth (U _ _ lk) rfl S.co S.gen rfl (W.codeRec_of U F) (hb _ _ _ _ ?_);refine wpAny_newFunctionEnv_cells S.kind i λenv he R x=>?_;subst he;refine⟨D.keeps x.toInCall.keep,codeAny_func ?_⟩;obtain⟨t,ht,hq⟩:=h A a s H vs Q E (hr.deeper _) m;have I:gP (nC CX P w K mg base N qual scope f c A a s H E) [] (ll N vs) H R:=DI S hr.hd p Z r x;refine wpAny_mono (ht [] R (ll N vs) H _ I hq) (λfl C j=>?_) λe C j=>j;have l:∀{d:St} {g:Hp} {v:V} {u:Vq},gP (nC CX P w K mg base N qual scope f c A a s H E) [] d g C->iE v u->Q v g->CE a P w H s Q u C:=λ{d g v u} J B q=>⟨v,g,J.os,J.bare,J.base,J.hok,B,q⟩
 cases fl with
 |ret u=>obtain⟨v,d,g,J,B,q⟩:=j;exact l J B q
 |next=>obtain⟨d,g,J,q⟩:=j;exact l (v:=V.non) J rfl q
 |brk=>obtain⟨_,_,_,q⟩:=j;exact False.elim q
 |cont=>obtain⟨_,_,_,q⟩:=j;exact False.elim q
end L2
namespace L2
open PySem PySem.Spec PyProof.Rows
section
variable {X:Cx}{x:Str}{p pos:Pos}{e:Expr}{es:List Expr}{t:TA}{id T:String}{r:List V->Hp->VK->Prop}
def HM(r:List V->Hp->VK->Prop)(t:TA):TE:=λb H Q=>t b H λa c=>r a c Q
def tO(f:jT X (.builtin id) r)(i:Gl X x)(j:X.mg x=none)(hv:bootBuiltins x=some (.builtin id))(l:PA X (e::es) t)(g:x≠ "__name__" :=by decide)(a:(x==("__debug__" : Str))=false:=by decide)
  (k:starEach (e::es) X.env=(false,eval e X.env)::starEach es X.env:=by rfl) (b:(backTo pos (starEach es X.env)).any (·.1)=false:=by rfl):PE X (.Call (.Name x p) (e::es) [] pos) (HM r t):=by
 intro c s d H Q I h;refine wpAny_Call_Name_kw (mx I i j hv ?_ g a);exact PyProof.Rows.callWith_builtin1 (jB (l pos c s d H _ I h) λus s1 ⟨vs,H1,I1,r1,q1⟩=>f c s1 d H1 vs us Q I1 r1 q1) k b
def vE(f:jT X (.type T) r)(i:Gl X x)(j:X.mg x=none)(hv:bootBuiltins x=some (.type T))(l:PA X (e::es) t)(g:x≠ "__name__" :=by decide)(a:(x==("__debug__" : Str))=false:=by decide)
  (k:starEach (e::es) X.env=(false,eval e X.env)::starEach es X.env:=by rfl) (b:(backTo pos (starEach es X.env)).any (·.1)=false:=by rfl):PE X (.Call (.Name x p) (e::es) [] pos) (HM r t):=by
 intro c s d H Q I h;refine wpAny_Call_Name_kw (mx I i j hv ?_ g a);exact PyProof.Rows.callWith_type1 (jB (l pos c s d H _ I h) λus s1 ⟨vs,H1,I1,r1,q1⟩=>f c s1 d H1 vs us Q I1 r1 q1) k b
end
end L2
namespace HT
open PySem PyProof.Rows
section
variable {prog:Program}{w:World}{A:Around}{E:Vq->Shared->Prop}{s:Sq}
def cat_tup(v:IsTup s.heap t vs.toArray)(x:IsTup s.heap b ws.toArray)(hv:vs≠[])
  (r:ws=[]->Q (.ref t) s) (u:ws≠[]->Q (.ref s.heap.objs.size) {s with heap:=s.heap.push {cls:=.type "tuple",data:=.seq (vs++ws).toArray}})
  (i:vs.length+ws.length<=sizeLine):wpAny (model prog w) A (binaryOp .Add (.ref t) (.ref b)) Q E s:=by
 obtain⟨⟨cls,l,data,m⟩,h,o,n,p⟩:=id v;obtain⟨⟨k,f,j,g⟩,a,c,q,d⟩:=id x;simp only at o p c d;subst o p c d;have e:vs.toArray++ws.toArray=(vs++ws).toArray:=by simp
 by_cases hw:ws=[]
 .exact concat_meets ⟨_,h,rfl⟩ ⟨_,a,rfl⟩ noFill_tuple_add seq_tuple_add PySem.F.slot_tuple_add PySem.F.entry_tuple_add (PySem.F.args_tuple_add_2 _ _)
   (tuple_addW1 t b vs.toArray ws.toArray n q l f m g (by simpa using hv) (by simp[hw])) ⟨h,a,r hw⟩
 .refine concat_meets ⟨_,h,rfl⟩ ⟨_,a,rfl⟩ noFill_tuple_add seq_tuple_add PySem.F.slot_tuple_add PySem.F.entry_tuple_add (PySem.F.args_tuple_add_2 _ _)
   (tuple_addW2 t b vs.toArray ws.toArray n q l f m g (by simpa using hv) (by simpa using hw) (by rw[bH,bH];exact i)) ⟨h,a,?_⟩
  rw[e];exact u hw
noncomputable def sIx(n d:Nat):Option Int->Nat
 |none=>d
 |some v=>if v<0 then (v+(n:Int)).toNat else min v.toNat n
def sIx_none n d:sIx n d none=d:=rfl
def sIx_nat(n d k:Nat):sIx n d (some (k:Int))=min k n:=by show (if k<0 then (k+(n:Int)).toNat else min (k:Int).toNat n)=min k n;rw[aS (by omega),bV]
def Cq v (n d:Nat):(if v<0 then max (v+(n:Int)) 0 else min v (n:Int))=((sIx n d (some v):Nat):Int):=by
 show (if v<0 then max (v+n) 0 else min v n)=(((if v<0 then (v+n).toNat else min v.toNat n):Nat):Int);by_cases hv:v<0
 .simp only[aR hv];omega
 .simp only[aS hv];omega
def Ag lo a (n:Nat):Builtin.Slice.sliceAdjust lo a 1 (n:Int)=(((sIx n 0 lo:Nat):Int),((sIx n n a:Nat):Int)):=by
 have b:¬(1<0):=by omega
 unfold Builtin.Slice.sliceAdjust;simp only[b,if_false];refine Prod.ext ?_ ?_
 .cases lo with
  |none=>rfl
  |some v=>exact Cq v n 0
 .cases a with
  |none=>rfl
  |some v=>exact Cq v n n
def AC(i j:Nat):Builtin.Slice.slicePlaces (i:Int) (j:Int) 1=j-i:=by
 unfold Builtin.Slice.slicePlaces;have a:1>0:=by omega
 simp only[a,if_true,bW];split<;>omega
def oY(p:IsPart v o)(h:Q o s):wpAny (model prog w) A (Builtin.Slice.slicePartIndex v) Q E s:=by
 cases p with
 |none=>exact slicePart_none h
 |int i t=>exact slicePart_int h
def mI{a d:Option Int}{n:Nat}(hs:s.heap.IsSliceOf sl vl vu .none)(g:IsPart vl a)(f:IsPart vu d)
  (h:Q (((sIx n 0 a:Nat):Int),1,sIx n n d-sIx n 0 a) s):wpAny (model prog w) A (Builtin.Slice.sliceApplied (.ref sl) (pure (n:Int))) Q E s:=by
 obtain⟨i,b,e,c⟩:=id hs;unfold Builtin.Slice.sliceApplied Builtin.Slice.sliceFields;refine aq (aq (wpAny_field b c rfl (aq (wpAny_field b c rfl (aq (wpAny_field b c rfl (ao ?_)))))));refine aq (slicePart_none ?_);rw[aS (by decide)];refine aq (oY g (aq (oY f (aq (ao ?_)))));show wpAny _ _ (match Builtin.Slice.sliceAdjust a d 1 n with|(a,d)=>pure (a,(1:Int),Builtin.Slice.slicePlaces a d 1)) _ _ s;rw[Ag a d n];show wpAny _ _ (pure (((sIx n 0 a):Int),1,Builtin.Slice.slicePlaces ((sIx n 0 a):Int) ((sIx n n d):Int) 1)) _ _ s;rw[AC];exact ao h
def FG(a:Array Vq)(i k:Nat):((List.range k).filterMap λ(m:Nat)=>a[((i:Int)+(m:Int)*1).toNat]?).toArray=((a.toList.drop i).take k).toArray:=by
 have e:(λ(m:Nat)=>a[(i+(m:Int)*1).toNat]?)=λm=>a[i+m]?:=by
  funext m;have:(i+(m:Int)*1).toNat=i+m:=by omega
  rw[this]
 rw[e];have:=pick_run a i k;rw[bX]at this;have b:((λx=>a[x]?) ∘ λx=>i+x)=λm=>a[i+m]?:=rfl;rw[b]at this;rw[this]
theorem getItem_tuple_cut{a b:Option Int}(c:IsTup s.heap t items)(hs:s.heap.IsSliceOf sl vl vu .none)(m:IsPart vl a)(n:IsPart vu b)
  (hw:¬(sIx items.size 0 a=0/\sIx items.size items.size b=items.size))
  (h:Q (.ref s.heap.objs.size) {s with heap:=s.heap.push {cls:=.type "tuple",data:=.seq ((items.toList.drop (sIx items.size 0 a)).take (sIx items.size items.size b-sIx items.size 0 a)).toArray}})
  (k:items.size<=sizeLine):wpAny (model prog w) A (getItem (.ref t) (.ref sl)) Q E s:=by
 have d:sizeOk (.seq ((items.toList.drop (sIx items.size 0 a)).take (sIx items.size items.size b-sIx items.size 0 a)).toArray):=by show ((items.toList.drop (sIx items.size 0 a)).take (sIx items.size items.size b-sIx items.size 0 a)).toArray.size<=sizeLine;rw[bH,bT,bY,bB];omega
 obtain⟨l,i,e,j⟩:=id hs;have g:s.TypeIs (.ref sl) "slice" :=⟨l,i,e⟩;unfold getItem;try with_reducible refine wpAny_holding ?_;first|refine aq (ao ?_)|skip
 refine aq (wpAny_sequenceKey c.typeIs (by decide) ?_);refine aq (wpAny_callSpecial?_slot c.typeIs PyProof.Rows.slot_tuple_getitem
  (wpAny_call_entry PyProof.Rows.slot_tuple_getitem c.typeIs entry_tuple_getitem ?_ (args_tuple_getitem _ _)))
 show wpAny _ _ (Builtin.Tuple.tupleItemsOf (.ref t) >>= _) _ _ s;refine aq (tupleItemsOf_ c ?_);refine aq (wpAny_typeOf g ?_);rw[aR (by decide)];refine aq (mI hs m n ?_);have f:¬((((sIx items.size 0 a):Int)==0&&(1:Int)==1&&(sIx items.size items.size b-sIx items.size 0 a)==items.size)=true):=by intro q;rw[bZ,bZ]at q;have o:=eq_of_beq q.1.1;have p:=eq_of_beq q.2;exact hw ⟨by omega,by omega⟩
 show wpAny _ _ (if (((sIx items.size 0 a):Int)==0&&1==1&&(sIx items.size items.size b-sIx items.size 0 a)==items.size)=true then _ else _) _ _ s;rw[aS f,FG];first
  |exact aq (wpAny_newObj_type (ao ⟨_,rfl,ao h⟩) d)
  |exact aq (wpAny_newObj_type (aq (ao (ao ⟨_,rfl,ao h⟩))) d)
  |exact aq (aq (wpAny_newObj_type (ao (ao ⟨_,rfl,ao h⟩)) d))
  |exact aq (aq (wpAny_newObj_type (ao ⟨_,rfl,ao h⟩) d))
end
end HT
namespace L2
open PySem PySem.Spec PyProof.Rows
abbrev TO:=St->Hp->(Option Int->Hp->Prop)->Prop
def PO(X:Cx)(e:Option Expr)(t:TO):Prop:=
 ∀(b:List (Addr×Obj)) (s:Sq) (a:St) (H:Hp) (Q:Option Int->Hp->Prop),gP X b a H s->t a H Q->
  wpAny (model X.prog X.w) X.A (evalPart e X.env) (λu d=>∃o c,gP X b a c d/\IsPart u o/\Q o c) X.xe s
def CG:TO:=λ_ H Q=>Q none H
def Fy(t:TE):TO:=λa H Q=>t a H λx b=>∃i,x=.int i/\Q (some i) b
section
variable {X:Cx}{e:Expr}{te:TE}{lo hi:Option Expr}{tl th:TO}{pos p2:Pos}
def HX:PO X none CG:=by intro a s b H Q I h;rw[evalPart_none];exact ao ⟨none,H,I,.none,h⟩
def Cm(h:PE X e te):PO X (some e) (Fy te):=by intro a s b H Q I hw;rw[evalPart_some];refine jB (h a s b H _ I hw) λu s1 ⟨x,H1,I1,r1,q1⟩=>?_;obtain⟨i,rfl,q⟩:=q1;obtain⟨t,rfl⟩:=r1;exact⟨some i,H1,I1,.int i t,q⟩
def KA(X:Cx)(r:V->Option Int->Option Int->Hp->VK->Prop):Prop:=
 ∀(a:List (Addr×Obj)) (s:Sq) (c:St) (H:Hp) (x:V) (v f d:Vq) (lo hi:Option Int) (b:Addr) (Q:VK),gP X a c H s->iE x v->s.heap.IsSliceOf b f d .none->IsPart f lo->IsPart d hi->r x lo hi H Q->
  ∃T id,typeLookup (.type T) "__getitem__" = pure (some (.builtin id))/\s.TypeIs v T/\wpAny (model X.prog X.w) X.A (getItem v (.ref b)) (EP X a c Q) X.xe s
def KA.or(h:KA X r)(h':KA X r'):KA X (λx lo hi H Q=>r x lo hi H Q\/r' x lo hi H Q):=by
 intro f s g H x v b j lo hi i Q I c a d k q;rcases q with q|q
 .exact h f s g H x v b j lo hi i Q I c a d k q
 .exact h' f s g H x v b j lo hi i Q I c a d k q
def QR(r:V->Option Int->Option Int->Hp->VK->Prop)(te:TE)(tl th:TO):TE:=λa H Q=>te a H λx b=>tl a b λl d=>th a d λu c=>r x l u c Q
def Hm(hr:KA X r)(j:PE X e te)(d:PO X lo tl)(i:PO X hi th):PE X (.Subscript e (.Slice lo hi none p2) pos) (QR r te tl th):=by intro a s c H Q I h;refine Subscript_ (jB (j a s c H _ I h) λv s1 ⟨x,H1,I1,r1,q1⟩=>?_);refine wpAny_Slice (jB (d a s1 c H1 _ I1 q1) λvl s2 ⟨l,H2,I2,pl,q2⟩=>jB (i a s2 c H2 _ I2 q2) λvu s3 ⟨u,H3,I3,pu,q3⟩=>?_);rw[evalPart_none];refine ao ?_;have k:gP X a c H3 {s3 with heap:=s3.heap.push {cls:=.type "slice",data:=.fields #[vl,vu,.none]}}:=I3.kept λb n q=>af _ q;obtain⟨T,id,g,f,m⟩:=hr a {s3 with heap:=s3.heap.push {cls:=.type "slice",data:=.fields #[vl,vu,.none]}} c H3 x v vl vu l u s3.heap.objs.size Q k r1 (Heap.IsSliceOf.new ..) pl pu q3;exact tail_any f g m (by with_unfolding_all rfl)
noncomputable def Fu(a:List V)(lo hi:Option Int):List V:=(a.drop (HT.sIx a.length 0 lo)).take (HT.sIx a.length a.length hi-HT.sIx a.length 0 lo)
def rL xs lo hi:(Fu xs lo hi).length<=xs.length:=by unfold Fu;rw[bT,bY];omega
def N4(K:W.Frag):V->Option Int->Option Int->Hp->VK->Prop:=λx lo hi H Q=>∃a b,x=.ref a/\lz K H a b/\
 ¬(HT.sIx b.length 0 lo=0/\HT.sIx b.length b.length hi=b.length)/\∀p,H p=none->Q (.ref p) (iU H p (.tup (Fu b lo hi)))
def Lm:KA X (N4 X.K):=by
 intro o s p H x v n y lo hi w Q I k i l m h;obtain⟨a,c,rfl,j,hw,q⟩:=h;cases k;obtain⟨gG,r,f,g⟩:=I.tuple j;have d:gG.toArray.size=c.length:=by rw[bH];exact r.length.symm
 refine⟨"tuple",_,PyProof.Rows.slot_tuple_getitem.lookup,f.typeIs,?_⟩;refine HT.getItem_tuple_cut f i l m (by rw[d];exact hw) ?_ (by rw[d];exact g);rw[d];refine⟨.ref s.heap.objs.size,_,I.laid (λb u q=>af _ q) (aL _) ?_,rfl,q _ (I.hok.fresh (aL _))⟩;exact⟨aO (rL c lo hi) g,_,(r.drop (HT.sIx c.length 0 lo)).take (HT.sIx c.length c.length hi-HT.sIx c.length 0 lo),sC.new _ _⟩
def OA(K:W.Frag):R2:=λx y H Q=>∃a b d c,x=.ref a/\y=.ref b/\lz K H a d/\lz K H b c/\d≠[]/\d.length+c.length<=sizeLine/\
 (c=[]->Q (.ref a) H)/\(c≠[]->∀p,H p=none->Q (.ref p) (iU H p (.tup (d++c))))
def g9.nil_iff(r:g9 xs us):us=[]↔xs=[]:=by
 cases r with
 |nil=>simp
 |cons _ _=>simp
def Jd:oh X (binaryOp .Add) (OA X.K):=by intro A s B H x y v u Q I k n h;obtain⟨a,b,D,r,rfl,rfl,l,m,i,g,j,p⟩:=h;cases k;cases n;obtain⟨gG,d,o,_⟩:=I.tuple l;obtain⟨f,c,p2,_⟩:=I.tuple m;refine HT.cat_tup o p2 (λz=>i (d.nil_iff.mp z)) (λz=>⟨.ref a,H,I,rfl,j (c.nil_iff.mp z)⟩) (λz=>?_) (by rw[<-d.length,<-c.length];exact g);refine⟨.ref s.heap.objs.size,_,I.laid (λb C q=>af _ q) (aL _) ?_,rfl,p (λw=>z (c.nil_iff.mpr w)) _ (I.hok.fresh (aL _))⟩;exact⟨by rw[aU];exact g,_,d.append c,sC.new _ _⟩
end
end L2
namespace L2
open PySem PySem.Spec PyProof.Rows
noncomputable def yx(n:Nat)(i:Int):Option Nat:=if 0<=i then (if i<n then some i.toNat else none) else if -(n:Int)<=i then some (i+n).toNat else none
noncomputable def rW{a:Type}(b:List a)(i:Int):Option a:=(yx b.length i).bind λj=>b[j]?
def B9(h:yx n i=some j):seqIndex? i n=some j/\j<n/\-(n:Int)<=i/\i<n:=by
 unfold yx at h;by_cases b:0<=i
 .rw[aR b]at h;by_cases a:i<n
  .rw[aR a]at h;have e:=Option.some.inj h;exact⟨by rw[seqIndex_of b a,e],by omega,by omega,a⟩
  .rw[aS a]at h;cases h
 .rw[aS b]at h;by_cases a:-n<=i
  .rw[aR a]at h;have e:=Option.some.inj h;exact⟨by rw[seqIndex_neg (by omega) a,e],by omega,a,by omega⟩
  .rw[aS a]at h;cases h
def wY{a:List α}{v:α}(h:rW a i=some v):∃j,seqIndex? i a.length=some j/\a[j]? = some v/\j<a.length/\-(a.length:Int)<=i/\i<a.length:=by
 unfold rW at h;cases e:yx a.length i with
 |none=>rw[e]at h;cases h
 |some j=>rw[e]at h;obtain⟨c,d,f,b⟩:=B9 e;exact⟨j,c,h,d,f,b⟩
def HG xs (v:α):rW (xs++[v]) (-1)=some v:=by
 have a:(xs++[v]).length=xs.length+1:=by simp
 have e:yx (xs++[v]).length (-1)=some xs.length:=by unfold yx;rw[a,aS (by decide),aR (by omega)];congr 1;omega
 unfold rW;rw[e];simp
def CB(b:Expr):Prop:=∀o i,subscripted b false o i=operate [o,i] (getItem o i)
def IR(X:Cx)(r:R2):Prop:=
 ∀(b a:Expr) (c:List (Addr×Obj)) (s:Sq) (d:St) (H:Hp) (x y:V) (v u:Vq) (Q:VK),gP X c d H s->iE x v->iE y u->r x y H Q->
  subscripted a false v u=operate [v,u] (getItem v u)->wpAny (model X.prog X.w) X.A (subscriptTail b a v u) (EP X c d Q) X.xe s
def Rj(X:Cx)(id:String)(r:V->List V->Hp->VK->Prop):Prop:=
 ∀(b:List (Addr×Obj)) (s:Sq) (c:St) (H:Hp) (x:V) (d:List V) (v:Vq) (a:List Vq) (Q:VK),gP X b c H s->iE x v->g9 d a->r x d H Q->
  wpAny (model X.prog X.w) X.A (call (.builtin id) (v::a)) (EP X b c Q) X.xe s
section
variable {X:Cx}{a b:Expr}{ta tb:TE}{pos:Pos}
def IR.or(h:IR X r)(h':IR X r'):IR X (λx y H Q=>r x y H Q\/r' x y H Q):=by
 intro d c e s i H x y v u Q I f j q g;rcases q with q|q
 .exact h d c e s i H x y v u Q I f j q g
 .exact h' d c e s i H x y v u Q I f j q g
def Oq(hr:IR X r)(f:PE X a ta)(j:PE X b tb)(hs:CB b):PE X (.Subscript a b pos) (tU r ta tb):=by intro g s i H Q I h;exact Subscript_ (Mw f j I h λv u d x y e k c l q=>hr a b g d i e x y v u Q k c l q (hs _ _))
def Pi(K:W.Frag):R2:=λx y H Q=>∃p c i v,x=.ref p/\y=.int i/\ka K H p c/\rW c i=some v/\Q v H
def Ot(K:W.Frag):R2:=λx y H Q=>∃p c i v,x=.ref p/\y=.int i/\lz K H p c/\rW c i=some v/\Q v H
def OS:R2:=λx y H Q=>∃z i c,x=.str z/\y=.int i/\z.length<=sizeLine/\rW z.cps.toList i=some c/\Q (.str ⟨#[c]⟩) H
def HW:IR X (Pi X.K):=by
 intro f l E s J H x y v u Q I C N h m;obtain⟨p,Y,i,z,rfl,rfl,P,D,q⟩:=h;cases C;obtain⟨t,rfl⟩:=N;obtain⟨gG,r,g,U⟩:=I.list P;obtain⟨j,d,B,R,L,F⟩:=wY D;obtain⟨w,o,k⟩:=r.get B;have A:=r.length;have S:=xy;have c:EP X E J Q w s:=⟨z,H,I,k,q⟩;by_cases n:0<=i
 .have e:i.toNat=j:=by rw[seqIndex_of n F]at d;exact Option.some.inj d
  exact item_listR g.isList n (by omega) (by rw[e];simpa using o) c m
 .have e:(i+gG.toArray.size).toNat=j:=by rw[seqIndex_neg (by omega) L]at d;rw[bH,<-A];exact Option.some.inj d
  exact subscriptTail_builtinR g.isList.typeIs slot_list_getitem.lookup
   (wpAny_getItem_list_neg g.isList (by omega) (by rw[bH]<;>omega) (by omega) (by rw[e];simpa using o) ⟨rfl,c⟩) m
def ko:IR X (Ot X.K):=by
 intro d f B s C H x y v u Q I o E h m;obtain⟨p,S,i,z,rfl,rfl,F,A,q⟩:=h;cases o;obtain⟨t,rfl⟩:=E;obtain⟨gG,r,g,R⟩:=I.tuple F;obtain⟨j,k,n,J,P,L⟩:=wY A;obtain⟨w,D,e⟩:=r.get n;have l:=r.length;have N:=xy;have c:EP X B C Q w s:=⟨z,H,I,e,q⟩;exact subscriptTail_builtinR g.typeIs slot_tuple_getitem.lookup
  (getItem_tuple g (by omega) (by omega) (by rw[bH,<-l];exact k) (by simpa using D) ⟨rfl,c⟩) m
def LP:IR X OS:=by
 intro d e C s E H x y v u Q I n A h k;obtain⟨z,i,c,rfl,rfl,F,o,q⟩:=h;obtain⟨t,rfl⟩:=n;obtain⟨J,rfl⟩:=A;obtain⟨j,f,m,B,w,p⟩:=wY o;have g:z.cps.toList.length=z.length:=by simp[Str.length]
 rw[g]at f w p;have D:=xy;exact tail_any (typeIs_str s z t) slot_str_getitem.lookup (getItem_str (by have r:decide (i < -(2 ^ 63))=false:=aC (by omega);have l:decide (i >= 2 ^ 63)=false:=aC (by omega);rw[r,l,Bool.or_false]) (by rw[f];simpa using m) ⟨.str ⟨#[c]⟩,H,I.tok _,⟨_,rfl⟩,q⟩) k
def QC(K:W.Frag):R2:=λx y H Q=>Pi K x y H Q\/Ot K x y H Q\/OS x y H Q
def Ng:IR X (QC X.K):=HW.or (ko.or LP)
def A7(gG:List Vq) n j u:Obj.mapSeq (·.setIfInBounds j u) {cls:=.type "list",data:=.seq gG.toArray n}={cls:=.type "list",data:=.seq (gG.set j u).toArray n}:=by simp[Obj.mapSeq]
def gP.lst(I:gP X gx σ H s)(h:H p=some (.lst xs)) :
  ∃gG n,g9 xs gG/\s.heap.get? p=some {cls:=.type "list",data:=.seq gG.toArray n}/\xs.length<=sizeLine:=by
 obtain⟨z,gG,n,r,e⟩:=I.hok p _ h;exact⟨gG,n,r,e,z⟩
def gP.lstUpd{gG c:List Vq}(I:gP X gx σ H s)(h:H p=some (.lst xs))
  (j:s.heap.get? p=some {cls:=.type "list",data:=.seq gG.toArray n}) (d:f {cls:=.type "list",data:=.seq gG.toArray n}={cls:=.type "list",data:=.seq c.toArray n'}) (r:g9 ys c) (g:ys.length<=sizeLine) t :
  gP X gx σ (iU H p (.lst ys)) {s with heap:=s.heap.update p f,toks:=t}:=by
 have e:(s.heap.update p f).get? p=some {cls:=.type "list",data:=.seq c.toArray n'}:=by rw[Heap.get?_update_self f j (by rw[d]<;>rfl),d]
 refine I.write (by rw[h];trivial) (.inl rfl) (λb u i q=>(Heap.get?_update_other _ _ (Ne.symm i)).trans q) ⟨_,e⟩ ?_;exact⟨g,c,n',r,e⟩
def BG:V->V->V->Hp->(Hp->Prop)->Prop:=λo i v H Q=>∃p c k j,o=.ref p/\i=.int k/\H p=some (.lst c)/\yx c.length k=some j/\Q (iU H p (.lst (c.set j v)))
def set_list:Px X BG:=by
 intro A s D H o i v N K u Q I B C z h;obtain⟨p,F,k,j,rfl,rfl,g,y,q⟩:=h;cases B;obtain⟨t,rfl⟩:=C;obtain⟨gG,n,r,e,E⟩:=I.lst g;obtain⟨c,J,w,x⟩:=B9 y;have d:=r.length;have L:=xy;have m:gP X A D (iU H p (.lst (F.set j v))) {s with heap:=s.heap.update p (Obj.mapSeq (·.setIfInBounds j u))}:=I.lstUpd g e (A7 gG n j u) (r.set z j) (by rw[List.length_set];exact E) s.toks
 by_cases l:0<=k
 .have f:k.toNat=j:=by rw[seqIndex_of l x]at c;exact Option.some.inj c
  exact W.ki_setAt e l (by omega) (by rw[bH,<-d];exact x) (by rw[f];exact⟨_,m,q⟩)
 .have f:(k+gG.toArray.size).toNat=j:=by rw[seqIndex_neg (by omega) w]at c;rw[bH,<-d];exact Option.some.inj c
  exact W.ki_setBack e (by omega) (by rw[bH,<-d];exact w) (by omega) (by rw[f];exact⟨_,m,q⟩)
def xm lo hi n:(sliceBounds lo hi none n).1=((HT.sIx n 0 lo:Nat):Int)/\(sliceBounds lo hi none n).2.1=((HT.sIx n n hi:Nat):Int)/\(sliceBounds lo hi none n).2.2=1:=by
 refine⟨?_,?_,rfl⟩
 .cases lo with
  |none=>simp[sliceBounds,HT.sIx]
  |some i=>
   simp only[sliceBounds,HT.sIx,Option.getD_none,show 1>0 by decide,if_true];by_cases h:i<0
   .simp only[h,if_true]<;>omega
   .simp only[h,if_false]<;>omega
 .cases hi with
  |none=>simp[sliceBounds,HT.sIx]
  |some i=>
   simp only[sliceBounds,HT.sIx,Option.getD_none,show 1>0 by decide,if_true];by_cases h:i<0
   .simp only[h,if_true]<;>omega
   .simp only[h,if_false]<;>omega
def uY(gG:List Vq) lo hi:slicePick gG.toArray lo hi none=((gG.drop (HT.sIx gG.length 0 lo)).take (HT.sIx gG.length gG.length hi-HT.sIx gG.length 0 lo)).toArray:=by obtain⟨c,d,e⟩:=xm lo hi gG.toArray.size;unfold slicePick;rw[c,d,e];simp only[sliceRange_one,pick_run,bH]<;>rfl
def N7(K:W.Frag):V->Option Int->Option Int->Hp->VK->Prop:=λx e d H Q=>∃a c,x=.ref a/\ka K H a c/\∀p,H p=none->Q (.ref p) (iU H p (.lst (Fu c e d)))
def IT:KA X (N7 X.K):=by intro p s u H x v o z d f y Q I k g l n h;obtain⟨a,c,rfl,i,q⟩:=h;cases k;obtain⟨gG,r,e,m⟩:=I.list i;have j:=r.length;refine⟨"list",_,slot_list_getitem.lookup,e.isList.typeIs,?_⟩;refine wpAny_getItem_list_slice e.isList g l n .none (by simp) ?_ (by rw[bH]<;>omega);rw[uY,<-j];refine⟨.ref s.heap.objs.size,_,I.laid (λb w q=>af _ q) (aL _) ?_,rfl,q _ (I.hok.fresh (aL _))⟩;exact⟨aO (rL c d f) m,_,0,(r.drop (HT.sIx c.length 0 d)).take (HT.sIx c.length c.length f-HT.sIx c.length 0 d),au _ rfl⟩
def xX:jT X (.type "list") (λB H Q=>∃p f,B=[.ref p]/\(ka X.K H p f\/lz X.K H p f)/\∀l,H l=none->Q (.ref l) (iU H l (.lst f))):=by
 intro E s F H B J Q I r h;obtain⟨p,f,rfl,m,q⟩:=h;obtain⟨u,rfl,D⟩:=nc r;cases D;have i:∀(gG:List Vq),g9 f gG->f.length<=sizeLine->∀(c:Heap) (d:Nat),(∀b A,s.heap.get? b=some A->c.get? b=some A)->
   c.get? s.heap.objs.size=some {cls:=.type "list",dict:=none,data:=.seq gG.toArray d,slots:=#[]}->EP X E F Q (.ref s.heap.objs.size) {s with heap:=c}:=λgG g k c d j e=>
  ⟨.ref s.heap.objs.size,_,I.laid j (aL _) (show jz X.prog X.w _ c _ (.lst f) from ⟨k,gG,d,g,e⟩),rfl,q _ (I.hok.fresh (aL _))⟩
 rcases m with m|m
 .obtain⟨gG,g,v,k⟩:=I.list m;have C:=g.length;obtain⟨o,x,y,n,z⟩:=v.isList;exact call_list_seq p (.inl rfl) x y z (λc d j e=>i gG g k c d j e) (by simp only[bH]<;>omega)
 .obtain⟨gG,g,v,k⟩:=I.tuple m;have C:=g.length;obtain⟨o,x,y,n,z⟩:=v;exact call_list_seq p (.inr rfl) x y z (λc d j e=>i gG g k c d j e) (by simp only[bH]<;>omega)
def vi:jT X (.type "tuple") (λm H Q=>∃p c,m=[.ref p]/\((ka X.K H p c/\∀l,H l=none->Q (.ref l) (iU H l (.tup c)))\/(lz X.K H p c/\Q (.ref p) H))):=by
 intro v s w H m A Q I r h;obtain⟨p,c,rfl,h⟩:=h;obtain⟨u,rfl,n⟩:=nc r;cases n;rcases h with⟨g,q⟩|⟨g,q⟩
 .obtain⟨gG,i,f,k⟩:=I.list g;have z:=i.length;refine call_tuple_list f.isList (λd x=>?_) (by simp only[bH]<;>omega);have j:=I.kept (t':=s.toks) x;have y:gP X v w (iU H d.objs.size (.tup c)) {s with heap:=d.push {cls:=.type "tuple",data:=.seq gG.toArray}}:=
   j.laid (λb o e=>af _ e) (aL _) (⟨k,gG,i,sC.new _ _⟩)
  exact⟨.ref d.objs.size,_,y,rfl,q _ (j.hok.fresh (aL _))⟩
 .obtain⟨gG,i,f,k⟩:=I.tuple g;exact call_tuple_same f ⟨.ref p,H,I,rfl,q⟩
def Od(K:W.Frag)(T:String)(x:V)(H:Hp):Prop:=match x with
 |.str _=>T = "str"
 |.int _=>T = "int"
 |.ref p=>(T = "list" /\∃d,ka K H p d)\/(T = "tuple" /\∃o,K.lookup p=some o/\o.cls=.type "tuple" /\o.dict=none)\/
   (T = "dict" /\((∃c,H p=some (.dK c))\/∃c,H p=some (.dT c)))\/(T = "set" /\∃S n,H p=some (.set S n))
 |_=>False
theorem Lf{m:List (Addr×Obj)}{q:St}{H:Hp}{s:Sq}{T:String}{x:V}{v:Vq}(I:gP X m q H s)(r:iE x v)(ty:Od X.K T x H) :
  s.TypeIs v T/\∀a,v=.ref a->∃l,s.heap.get? a=some l/\l.dict=none:=by
 cases x with
 |str z=>obtain⟨t,rfl⟩:=r;cases (ty);exact⟨typeIs_str s z t,λ_ e=>nomatch e⟩
 |int i=>obtain⟨t,rfl⟩:=r;cases (ty);exact⟨typeIs_int s i t,λ_ e=>nomatch e⟩
 |ref p=>
  cases r;rcases ty with⟨rfl,y,w⟩|⟨rfl,o,d,u,j⟩|⟨rfl,d⟩|⟨rfl,S,n,d⟩
  .obtain⟨gG,_,k,_⟩:=I.list w;refine⟨k.isList.typeIs,λa e=>?_⟩;cases e;obtain⟨o,n,e,c,j,_⟩:=k;exact⟨o,e,j⟩
  .refine⟨⟨o,I.kIn p o d,u⟩,λa e=>?_⟩;cases e;exact⟨o,I.kIn _ o d,j⟩
  .have z:∃o,s.heap.get? p=some o/\o.ExactDict:=by
    rcases d with⟨h,d⟩|⟨h,d⟩
    .obtain⟨_,_,_,_,o,_,_,e,f,_⟩:=I.hok p _ d;exact⟨o,e,f⟩
    .obtain⟨_,_,_,_,o,_,_,e,f,_⟩:=I.hok p _ d;exact⟨o,e,f⟩
   obtain⟨o,e,f⟩:=z;refine⟨⟨o,e,f.1⟩,λa g=>?_⟩;cases g;exact⟨o,e,f.2.1⟩
  .obtain⟨o,_,_,_,e,f,_⟩:=I.hok p _ d;refine⟨⟨o,e,f.1⟩,λa g=>?_⟩;cases g;exact⟨o,e,f.2.1⟩
 |_=>exact False.elim ty
def Qy(K:W.Frag)(T:String)(r:V->List V->Hp->VK->Prop)(to:TE)(t:TA):TE:=λc H Q=>to c H λx d=>Od K T x d/\t c d λe f=>r x e f Q
variable {o e:Expr}{es:List Expr}{to:TE}{t:TA}{name:Str}{apos cpos:Pos}{T id:String}{r:V->List V->Hp->VK->Prop}
def EM(n:PlainAttrs T)(slot:Slot T name id)(g:typeOf (.builtin id)=pure (.type "method_descriptor"))(u:Rj X id r)(q:PE X o to)(p:PA X (e::es) t)
  (d:attributeBase o name X.env (eval o X.env)=eval o X.env:=by rfl)
  (f:((backTo cpos (starEach (e::es) X.env)).all (λx=>!x.1)&&(backToKw cpos (keywordEach [] X.env)).all (λx=>x.1.isSome)
   && decide ((e::es).length+([]:List Keyword).length+(if ([]:List Keyword).isEmpty then 0 else 1)<30))=true:=by rfl)
  (c:(apos.endLine==cpos.line)=true:=by rfl) (hs:starEach (e::es) X.env=(false,eval e X.env)::starEach es X.env:=by rfl) (hplain:(backTo cpos (starEach es X.env)).any (·.1)=false:=by rfl) :
  PE X (.Call (.Attribute o name apos) (e::es) [] cpos) (Qy X.K T r to t):=by
 intro i s j H Q I h;refine wpAny_Call_method_late d f c rfl (jB (q i s j H _ I h) λv s1 ⟨x,H1,I1,r1,ty,q1⟩=>?_);obtain⟨l,m⟩:=Lf I1 r1 ty;refine⟨T,id,n,slot,g,l,m,?_⟩;have k:=p cpos i s1 j H1 _ I1 q1;rw[hs]at k ⊢;refine Calls.callWith_builtin (by show (false||(backTo cpos (starEach es X.env)).any (·.1))=false;rw[hplain]<;>rfl) (Calls.evalArgs_plain ?_);exact jB k λus s2 ⟨vs,H2,I2,r2,q2⟩=>u i s2 j H2 x vs v us Q I2 r1 r2 q2
end
end L2
namespace L2
open PySem PySem.Spec PyProof.Rows
def Q4(X:Cx)(id:String)(r:V->List V->Hp->VK->Prop):Prop:=
 ∀(b:List (Addr×Obj)) (s:Sq) (c:St) (H:Hp) (x:V) (d:List V) (v:Vq) (a:List Vq) (Q:VK),gP X b c H s->iE x v->g9 d a->r x d H Q->
  wpAny (model X.prog X.w) X.A (call (.builtin id) (v::a)) (EP X b c Q) X.xe s
theorem g9.one:∀{x} {us},g9 [x] us->∃u,us=[u]/\iE x u
 |_,_,.cons r .nil=>⟨_,rfl,r⟩
theorem g9.eraseIdx:∀{xs} {us} i,g9 xs us->g9 (xs.eraseIdx i) (us.eraseIdx i)
 |_,_,_,.nil=>.nil
 |_,_,0,.cons _ t=>t
 |_,_,i+1,.cons r t=>.cons r (g9.eraseIdx i t)
def g9.reverse(h:g9 xs us):g9 xs.reverse us.reverse:=by
 induction h with
 |nil=>exact .nil
 |cons r t ih=>rw[b4,b4];exact g9.append ih (.cons r .nil)
theorem g9.rep(h:g9 xs us):∀k:Nat,g9 (List.replicate k xs).flatten (List.replicate k us).flatten
 |0=>.nil
 |k+1=>by rw[b5,b5,b6,b6];exact g9.append h (g9.rep h k)
theorem we{a:Type}:∀(l:List a) (i:Nat),(l.eraseIdx i).length<=l.length
 |[],_=>aL _
 |_::_,0=>bQ _
 |_::r,i+1=>Nat.succ_le_succ (we r i)
theorem nS(gG:List Vq):∀k a,
  List.foldl (λd c=>d++c) a.toArray (List.replicate k gG.toArray)=(a++(List.replicate k gG).flatten).toArray
 |0,a=>by simp
 |k+1,a=>by
  have e:a.toArray++gG.toArray=(a++gG).toArray:=by simp
  have b:(a++gG)++(List.replicate k gG).flatten=a++(List.replicate (k+1) gG).flatten:=by rw[b5,b6,b7]
  rw[<-b,<-nS gG k (a++gG),<-e,b5,List.foldl_cons]
section
variable {X:Cx}{gx:List (Addr×Obj)}{σ:St}{H:Hp}{s:Sq}{l b:Addr}{xs ys zs:List V}
def gP.lset{gG a:List Vq}(I:gP X gx σ H s)(d:H l=some (.lst xs))
  (e:s.heap.get? l=some {cls:=.type "list",data:=.seq gG.toArray n}) (i:f gG.toArray=a.toArray) (hv:g9 ys a) (c:ys.length<=sizeLine) :
  gP X gx σ (iU H l (.lst ys)) {s with heap:=s.heap.update l (Obj.mapSeq f),toks:=t'}:=by
 have q:=PySem.IsL.update e f;rw[i]at q;refine I.write (by rw[d];exact trivial) (.inl rfl) (λj u h g=>(Heap.get?_update_other s.heap (Obj.mapSeq f) (Ne.symm h)).trans g) ⟨_,q⟩ ?_;exact⟨c,a,_,hv,q⟩
def gP.lnew(I:gP X gx σ H s)(hv:g9 ys gG)(a:ys.length<=sizeLine) :
  gP X gx σ (iU H s.heap.objs.size (.lst ys)) {s with heap:=s.heap.push {cls:=.type "list",data:=.seq gG.toArray},toks:=t'}:=
 I.laid (λ_ _ q=>af _ q) (aL _) ⟨a,gG,0,hv,au _ rfl⟩
def gP.fresh(I:gP X gx σ H s):H s.heap.objs.size=none:=I.hok.fresh (aL _)
def gP.lstM(I:gP X gx σ H s)(a:H l=some (.lst xs)):xs.length<=sizeLine/\∃gG n,g9 xs gG/\xs.length=gG.length/\s.heap.get? l=some {cls:=.type "list",data:=.seq gG.toArray n}:=by obtain⟨z,gG,n,r,e⟩:=I.hok l _ a;exact⟨z,gG,n,r,r.length,e⟩
def Ft(h:n<=sizeLine):Builtin.List.listTooLong n=false:=by unfold Builtin.List.listTooLong;exact aC (by omega)
end
section
variable {X:Cx}
def xK:V->List V->Hp->VK->Prop:=λx b H Q=>∃l a y,x=.ref l/\b=[y]/\H l=some (.lst a)/\a.length<sizeLine/\Q .non (iU H l (.lst (a++[y])))
def vS:Q4 X "list.append" xK:=by intro j s k H x i v g Q I b d h;obtain⟨l,o,y,rfl,rfl,a,m,q⟩:=h;cases b;obtain⟨u,rfl,c⟩:=d.one;obtain⟨z,gG,n,r,f,e⟩:=I.lstM a;refine call_meets F.slot_list_append ⟨_,e,rfl⟩ F.entry_list_append (F.args_list_append_2 _ _) (PySem.list_append l gG.toArray n u (by rw[bH];omega)) ⟨e,?_⟩;refine⟨.non,_,I.lset a e (by simp) (r.append (.cons c .nil)) ?_,rfl,q⟩;rw[aU,b8];omega
def GZ:V->List V->Hp->VK->Prop:=λx b H Q=>∃l a i k y,x=.ref l/\b=[.int i]/\H l=some (.lst a)/\-(2 ^ 63)<=i/\i<2 ^ 63/\seqIndex? i a.length=some k/\a[k]? = some y/\Q y (iU H l (.lst (a.eraseIdx k)))
def Fd:Q4 X "list.pop" GZ:=by
 intro D s E H x C v B Q I j o h;obtain⟨l,A,i,k,y,rfl,rfl,b,c,g,p,f,q⟩:=h;cases j;obtain⟨u,rfl,m⟩:=o.one;obtain⟨t,rfl⟩:=m;obtain⟨z,gG,n,r,d,e⟩:=I.lstM b;obtain⟨w,hw,a⟩:=r.get f;refine call_meets F.slot_list_pop ⟨_,e,rfl⟩ F.entry_list_pop (F.args_list_pop_2 _ _)
  (MeetsSeq.list_pop_at l gG.toArray n i t k w (fitsIndex_both c g) (by rw[bH,<-d];exact p) (by rw[<-Array.getElem?_toList];exact hw) (by rw[bH];omega)) ⟨e,?_⟩
 refine⟨y,_,I.lset b e ?_ (r.eraseIdx k) ?_,a,q⟩
 .rw[List.eraseIdxIfInBounds_toArray]
 .have:=we A k;omega
def LK:R2:=λx y H Q=>∃l b c a,x=.ref l/\y=.ref b/\H l=some (.lst c)/\H b=some (.lst a)/\c.length+a.length<=sizeLine/\∀p,H p=none->Q (.ref p) (iU H p (.lst (c++a)))
def EZ:oh X (binaryOp .Add) LK:=by
 intro w s B H x y v u Q I f m h;obtain⟨l,b,E,p,rfl,rfl,g,k,C,q⟩:=h;cases f;cases m;obtain⟨z,gG,n,r,o,e⟩:=I.lstM g;obtain⟨A,a,D,d,j,c⟩:=I.lstM k;refine PySem.P.add_list e c ?_ (by rw[bH,bH];omega);have i:gG.toArray++a.toArray=(gG++a).toArray:=by simp
 rw[i];exact⟨.ref _,_,I.lnew (r.append d) (by rw[aU];omega),rfl,q _ I.fresh⟩
def Om:R2:=λx y H Q=>∃l k a,x=.ref l/\y=.int k/\H l=some (.lst a)/\-(2 ^ 63)<=k/\k<2 ^ 63/\a.length*k.toNat<=sizeLine/\
 ∀p,H p=none->Q (.ref p) (iU H p (.lst (List.replicate k.toNat a).flatten))
def wM{b:Type}(a:List b) k:(List.replicate k a).flatten.length=k*a.length:=by
 induction k with
 |zero=>simp
 |succ k ih=>rw[b5,b6,aU,ih,Nat.succ_mul,Nat.add_comm]
def KW:oh X (binaryOp .Mult) Om:=by
 intro K s L H x y v u Q I B E h;obtain⟨l,k,N,rfl,rfl,D,o,w,j,q⟩:=h;cases B;obtain⟨t,rfl⟩:=E;obtain⟨z,gG,n,r,p,e⟩:=I.lstM D;have A:gG.toArray.size*k.toNat<=sizeLine:=by rw[bH,<-p];exact j
 have d:¬gG.toArray.size*k.toNat>(2 ^ 63-1) / 8:=by
  have:sizeLine<=(2 ^ 63-1) / 8:=by decide
  omega
 have f:¬(!Builtin.List.listFitsIndex k)=true:=by rw[fitsIndex_both o w];exact aI
 have b:¬Builtin.List.listTooLong (gG.toArray.size*k.toNat)=true:=by rw[Ft A];exact aI
 have c:List.foldl (λi g=>i++g) #[] (List.replicate (if gG.toArray.isEmpty=true then 0 else k.toNat) gG.toArray)=(List.replicate k.toNat gG).flatten.toArray:=by
  have J:∀m:Nat,List.foldl (λi g=>i++g) #[] (List.replicate m gG.toArray)=(List.replicate m gG).flatten.toArray:=λm=>by have:=nS gG m [];rw[b9]at this;exact this
  rw[J];cases gG with
  |nil=>simp
  |cons a r'=>rw[aS (by simp)]
 refine wpAny_binaryOp_repeat_ref (by decide) ⟨_,e,rfl⟩ (λC=>typeIs_int C k t) noFill_list_mul F.fills_int_mul F.slot_int_rmul repeat_list F.slot_int_index.lookup
  (call_meets F.slot_int_rmul (typeIs_int s k t) F.entry_int_rmul (F.args_int_rmul_2 _ _) (int___rmul___int_list k t l gG.toArray n)
   ⟨e,rfl,⟨_,e,rfl⟩,call_meets F.slot_list_mul ⟨_,e,rfl⟩ F.entry_list_mul (F.args_list_mul_2 _ _) (AutoListH.list___mul___list_int_3 l gG.toArray n k t f d b) ⟨e,?_⟩⟩)
 rw[c];exact⟨.ref _,_,I.lnew (r.rep k.toNat) (by rw[wM,cf];exact j),rfl,q _ I.fresh⟩
end
end L2
namespace Att
open PySem PySem.W PySem.Calls PyProof.Rows
def sx:∀c vs,WellAll P h vs (c.map WData.int)->IntsAre vs c:=by
 intro c;induction c with
 |nil=>intro vs w;rw[cg]at w;cases w;exact .nil
 |cons n c ih=>
  intro vs w;rw[bK]at w;cases w with
  |cons a b=>cases a;exact .cons _ _ (ih _ b)
theorem script_of{l:OpenLaw}(p:l.most=some n)
  (c:l.row.toRowW.claim.pre args=true) (g:WellAll P h vals args) :
  ∃a vs b,vals=[Value.ref a]/\args=[WData.list (b.map WData.int)]/\h.get? a=some {cls:=.type "list",data:=.seq vs.toArray}/\IntsAre vs b/\b.length<=n:=by
 have oJ:=(pre_splitW c).1;have i:l.pre.holds [] {args:=args}=true:=(pre_splitW c).2;obtain⟨d,r,rfl,j,k⟩:=hasAllW_cons oJ;obtain rfl:=hasAllW_nil k;obtain⟨s,rfl,o⟩:=hasW_list j;obtain⟨b,rfl⟩:=items_int o;have m:b.length<=n:=by
  unfold OpenLaw.pre at i;have f:(WTm.not (.lt (.lit (.int n)) (.len (.arg 0)))).holds [] {args:=[.list (b.map .int)]}=true:=by have f:=(holds_andW i).1;rw[p]at f;exact f
  have e:=condW_of f (w_not (w_lt w_lit (w_len_list (w_arg rfl))));rw[ax]at e;refine Nat.le_of_not_lt λq=>?_;first
   | (rw[aD q']at e;exact absurd e (by decide))
   | (simp at e;omega)
 cases g with
 |cons w1 w2=>
  cases w2;cases w1 with
  |list ho qx=>exact⟨_,_,b,rfl,rfl,ho,sx b _ qx,m⟩
def post_true(l:OpenLaw) args:l.row.toRowW.claim.post args (.bool true) args=true:=
 postW_of
  (show WShape.has [] (.bool true) .bool=true by first|rfl|decide|simp[WShape.has,WShape.arms,WShape.armsAll])
  (w_eq_bool (w_res rfl) w_lit) rfl
end Att
namespace L2
open PySem PySem.Spec PyProof.Rows
theorem vO:∀{vs} {ns},IntsAre vs ns->g9 (ns.map V.int) vs
 |_,_,.nil=>.nil
 |_,_,.cons n t h=>.cons ⟨t,rfl⟩ (vO h)
def NC(H:Hp):Prop:=∀b,H b=none\/∃o a,H b=some (.frz o (.lst a))
def ze(h:Heap)(H:Hp)(a:List (Addr×Addr)):Heap:=⟨(HB h H).objs,{ids:=a}⟩
theorem G1{K:W.Frag}
  (KX:K.In s₁.heap) (y:s₁.heap.Ns mainGlobals mg) (f:s₁.heap.Ns builtinsNs mb) (Y:∀x:Str,x≠ "__name__" ->mb x=bootBuiltins x) (C:s₁.heap.NoLimit) (hg:s₁.gens = #[])
  (Q:s₁.heap.get? a=some {cls:=.type "list",data:=.seq vs.toArray}) (hi:IntsAre vs ns) (hl:ns.length<=sizeLine) (hr:iP k callerA)
  (F:∀i:Heap,K.In i->i.Ns mainGlobals mg->lU P w K mg i CX k fa fd [x] sp) (p:∀(s:Sq) (u:Vq),BindsTo s fd ⟨[u],[]⟩ [(x,u)])
  (X:∀H:Hp,NC H->ka K H a (ns.map V.int)->sp [.ref a] H (λv _=>v=.bl true) λ_ _ _=>False)
  (R:∀H e g,CX [] H s₁ (λ_ _ _=>False) e g->False) :
  codeAny (model P w) callerA (.call (.ref fa) ⟨[.ref a],[]⟩) (λr g=>r=.ok (.ret (.bool true))/\OldK s₁.heap g.heap/\g.os=s₁.os/\AllBare g.gens) s₁:=by
 have rv:=vO hi;have B:=hi.length;have l:∀H:Hp,NC H->ka K H a (ns.map V.int)->oo P w H s₁.heap->(∀b,H b≠none->b=a)->(H a≠none->K.lookup a=none)->
   codeAny (model P w) callerA (.call (.ref fa) ⟨[.ref a],[]⟩) (λr g=>r=.ok (.ret (.bool true))/\OldK s₁.heap g.heap/\g.os=s₁.os/\AllBare g.gens) s₁:=by
  intro H hO hS E hA hK;have base_of:∀{b:Addr} {o:Obj},s₁.heap.get? b=some o->H b=none->(ze s₁.heap H []).get? b=some o:=λe n=>Gc e n;have U:∀{b:Addr} {o:Obj} {L:Array DictEntry} {N:Nat},s₁.heap.get? b=some o->o.data=.dict L N->H b=none:=λ{b o L N} e d=>by
   cases q:H b with
   |none=>rfl
   |some u=>have S:=hA b (by rw[q];simp);subst S;rw[Q]at e;cases e;have d':=d;cases d'
  have j:∀{b:Addr} {m:Str->Option Value},s₁.heap.Ns b m->(ze s₁.heap H []).Ns b m:=λ{b m} ⟨o,L,N,e,d,r⟩=>⟨o,L,N,base_of e (U e d),d,r⟩;have I:K.In (ze s₁.heap H []):=λb o e=>base_of (KX b o e) (by
   cases q:H b with
   |none=>rfl
   |some u=>have S:=hA b (by rw[q];simp);subst S;rw[hK (by rw[q];simp)]at e;cases e)
  have hM:Mod K mg (ze s₁.heap H []):=⟨I,j y,⟨mb,j f,Y⟩,let ⟨mc,h1,h2⟩:=C;⟨mc,j h1,h2⟩⟩;have e0:Ao P w K mg (ze s₁.heap H []) callerA [] s₁ H:=⟨rfl,hM,λb o e=>Jr e,bL (DG _ _),trivial,λb f=>absurd (show b∈([]) from f) (by simp),E,.of_eq hg,λc P qn hm=>nomatch (show (c,P)∈([]:List (Addr×Addr)) from hm)⟩;refine codeAny_mono ((F _ I (j y)).run callerA [] s₁ H ⟨[.ref a],[]⟩ [.ref a] [.ref a] _ _ hr e0 (p s₁ (.ref a)) (.cons rfl .nil) (X H hO hS)) λr g h=>?_;cases r with
  |error e=>exact (R H e g h).elim
  |ok fl=>
   cases fl with
   |next=>exact False.elim h
   |brk=>exact False.elim h
   |cont=>exact False.elim h
   |ret u=>
    obtain⟨v,H',os,J,un,A,r',q⟩:=h;have q':=q;subst q';obtain rfl:u=Value.bool true:=r';refine⟨rfl,OldK.of_keep λb o e=>?_,os,J⟩;cases q:H b with
    |none=>exact un.keep b o e q (by intro z;exact absurd (show b∈([]) from z) (by simp)) (by simp)
    |some u=>
     rcases hO b with z|⟨ob,xs,z⟩
     .rw[q]at z;cases z
     .have z2:=un.frzs b ob _ z;obtain⟨e1,_⟩:=E b _ z;obtain⟨e2,_⟩:=A b _ z2;rw[e]at e1;cases e1;exact e2
 cases Z:K.lookup a with
 |some o=>have e:=KX a o Z;rw[Q]at e;cases e;refine l (λ_=>none) (λ_=>.inl rfl) (.inr ⟨_,vs.toArray,_,Z,rfl,rfl,rfl,by rw[bH,B];exact hl,by simpa using rv⟩) (λb u z=>by have D:=z;cases D) (λb z=>absurd rfl z) λz=>absurd rfl z
 |none=>
  refine l (λb=>if b=a then some (.frz {cls:=.type "list",data:=.seq vs.toArray} (.lst (ns.map V.int))) else none) (λb=>?_) (.inl (.inr ⟨{cls:=.type "list",data:=.seq vs.toArray},aR rfl⟩)) (λb u z=>?_) (λb z=>?_) λ_=>Z
  .by_cases f:b=a
   .exact .inr ⟨_,_,aR f⟩
   .exact .inl (aS f)
  .by_cases f:b=a
   .have D:=(aR f).symm.trans z;cases D;subst f;exact⟨Q,by rw[ax];exact hl,vs,_,rv,Q⟩
   .have D:=(aS f).symm.trans z;cases D
  .by_cases f:b=a
   .exact f
   .exact absurd (aS f) z
end L2
namespace L2
open PySem PySem.Spec PyProof.Rows
noncomputable def nW(s:Stmt)(j:Nat):Stmt:=match s with
 |.ClassDef _ _ _ body _ _ _ _ _ _ _=>body.getD j (.Pass ⟨0,0,0,0⟩)
 |_=>.Pass ⟨0,0,0,0⟩
noncomputable def jo(s:Stmt):Arguments:=match s with
 |.FunctionDef _ a _ _ _ _ _ _ _ _=>a
 |_=>{posonlyargs:=[],args:=[],vararg:=none,kwonlyargs:=[],kw_defaults:=[],kwarg:=none,defaults:=[]}
noncomputable def ib(s:Stmt):List Stmt:=match s with
 |.FunctionDef _ _ b _ _ _ _ _ _ _=>b
 |_=>[]
noncomputable def gD(s:Stmt):Scope:=match s with
 |.FunctionDef _ _ _ _ _ _ sc _ _ _=>sc
 |_=>{kind:=.function,names:=[],isGenerator:=false,isCoroutine:=false}
abbrev uR:Iq:=λ_ _ _ _ _ _=>False
abbrev E0:XK:=λ_ _ _=>False
def Hg:qE uR X E0:=λ_ _ _ _ _ _ _ h=>h.elim
structure HR(K:W.Frag)(x qual:Str)(st:Stmt)(f:Addr)(fd:FuncData):Prop where
 ex:∃(oc:Vq) (od:Option Addr) (kV doc pm:Vq) (an:Option Addr) (cdv ct:Vq) (osl:Array (Option Value)),
  fd=W.fnOf x qual (jo st) (ib st) (gD st) .none kV doc pm an cdv ct/\K.lookup f=some ⟨oc,od,.func fd,osl⟩/\W.codeIn K cdv qual=true
 kp:W.keepIn K (.ref f)=true
section
variable {P:Program}{w:World}{K:W.Frag}{mg:Str->Option Value}{base:Heap}
def HR.ok{st:Stmt}(F:HR K x qual st f fd)(S:i8 N ps (gD st))(len:∀vs H Q E,sp vs H Q E->vs.length=ps.length)
  (c:∀b A a s H vs Q E,iP k (A.deeper (envOfC qual (gD st) s.heap.objs.size f b))->sp vs H Q E->
   ∃t,zb (nC uR P w K mg base N qual (gD st) f b A a s H E).nox (ib st) t/\t {nx:=λ_ j=>Q .non j,rt:=Q} (ll N vs) H):lU P w K mg base uR (k+1) f fd ps sp:=by
 obtain⟨n,o,kV,l,pm,m,b,p,g,rfl,i,e⟩:=F.ex;refine Ol i e S len λA a s H vs Q E hr d=>?_;obtain⟨t,h,q⟩:=c b A a s H vs Q E hr d;exact⟨t,h.nox,q⟩
def HR.binds{st:Stmt}(F:HR K x qual st f fd)
  (h:∀(kV b pm:Vq) (c:Option Addr) (a d:Vq) (us:List Vq),us.length=ps.length->bindArgs (W.fnOf x qual (jo st) (ib st) (gD st) .none kV b pm c a d) ⟨us,[]⟩=pure (ps.zip us)):nO K fd ps []:=by
 obtain⟨i,j,kV,b,pm,c,a,d,e,rfl,k,g⟩:=F.ex;exact .all (h kV b pm c a d)
def AU{st:Stmt}{kV b pm a d:Vq}(l:K.lookup f=some ⟨oc,od,.func (W.fnOf x qual (jo st) (ib st) (gD st) .none kV b pm an a d),osl⟩)
  (c:W.codeIn K a qual=true) (k:W.keepIn K (.ref f)=true):HR K x qual st f (W.fnOf x qual (jo st) (ib st) (gD st) .none kV b pm an a d):=⟨⟨oc,od,kV,b,pm,an,a,d,osl,rfl,l,c⟩,k⟩
end
def KH(hr:iP k A):A.units+1<cLine:=cj (Nat.add_le_add_left (by decide:1<=64) _) hr.units
section
variable {X:Cx}
def pv i (b:X.N[i]? = some x:=by rfl) (hv:Pd X.env.scope x:=by first|exact Or.inl rfl|exact Or.inr (Or.inl rfl)|exact Or.inr (Or.inr rfl)) (c:(x==("__debug__" : Str))=false:=by decide)
  (a:(x==("__classdict__" : Str))=false:=by decide):PE X (.Name x pos) (mX i):=Nu b hv c a
end
def Ec(o:HO)(x:Option HO):Prop:=match o with
 |.tbl q ps=>∃a,x=some (.tbl q (ps++a))
 |o=>x=some o
def Ec.of(h:x=some o):Ec o x:=by
 cases o with
 |tbl q ps=>exact⟨#[],by rw[h];simp⟩
 |_=>exact h
def Ec.ne(h:Ec o x):x≠none:=by
 cases o with
 |tbl q ps=>obtain⟨m,e⟩:=h;rw[e];exact λz=>nomatch z
 |_=>have e:x=some _:=h;rw[e];exact λz=>nomatch z
def gX(H a:Hp):Prop:=∀b o,H b=some o->Ec o (a b)
def gX.refl H:gX H H:=λ_ _ h=>.of h
def gX.trans(a:gX H H1)(b:gX H1 H2):gX H H2:=λc o h=>by
 have q:=a c o h;cases o with
 |tbl q ps=>obtain⟨m,e⟩:=q;obtain⟨d,f⟩:=b c _ e;exact⟨m++d,by rw[f,bA]⟩
 |_=>exact b c _ q
def gX.seq{K:W.Frag}(e:gX H H')(h:ka K H a xs):ka K H' a xs:=by
 rcases h with (h|⟨o,h⟩)|h
 .exact .inl (.inl (e _ _ h))
 .exact .inl (.inr ⟨o,e _ _ h⟩)
 .exact .inr h
end L2
namespace L2
open PySem PySem.Spec PyProof.Rows
section
variable {P:Program}{w:World}{H:Hp}{h:Heap}{a:Addr}{o:HO}
def oo.track(ok:oo P w H h)(d:H a=none)(new:jz P w (iU H a o) h a o):oo P w (iU H a o) h:=λb u e=>by
 by_cases f:b=a
 .subst f;rw[gE]at e;cases e;exact new
 .rw[gI f]at e;refine (ok b u e).stay (λ_ _ _ q=>q) (λc q=>?_) λc g q=>?_
  .rw[gI (hU q d)];exact q
  .rw[gI (hU q d)];exact q
end
def gP.track(I:gP X gx σ H s)(d:H a=none)(g:a∈X.ex\/X.s₀.heap.objs.size<=a)
  (j:a≠X.env.locals) (h:∀x c,X.env.cells.lookup x=some c->c≠a) (i:∀p∈X.pn++gx,p.1≠a) (new:jz X.prog X.w (iU H a o) s.heap a o):gP X gx σ (iU H a o) s:=by
 have J:=I.step (t':=s.toks) (d':=s.drawn) (ch:=[a])
  (λb f=>by
   have e:b=a:=by simpa using f
   subst e;exact⟨g,j,h,i⟩)
  (λ_ _ _ _ _ e _=>e) (λ_ u _ _ _ e _=>⟨u.slots,e⟩)
  (λb u f _ n=>by rw[gI (by simpa using f)];exact n)
  (λ_ u _ e=>⟨u,e⟩)
  (λb l q=>by rw[gI (hU q d)];exact q)
  (λb u v q=>by rw[gI (hU q d)];exact q)
  (λb _ k q=>⟨#[],by rw[gI (hU q d),q];simp⟩)
  (λ_ q=>q) (I.hok.track d new) I.bare
 exact J
noncomputable def lh(a:Env):List (Str×NameKind)->List (Str×Addr)->List (Str×Addr)
 |[],acc=>acc
 | (n,k)::r,acc=>if k==NameKind.free then (match a.cells.lookup n with
  |some c=>lh a r ((n,c)::acc)
  |none=>lh a r acc) else lh a r acc
def oF(h:∀y∈scope.names,y.2=.free->∃c,env.cells.lookup y.1=some c):closureFor scope env=pure (lh env scope.names []):=by
 have all:∀(l:List (Str×NameKind)) b,(∀y∈l,y.2=.free->∃c,env.cells.lookup y.1=some c)->
   (forIn l b λx m=>(if (x.2==NameKind.free)=true then (do
    let a <-cellOf env x.1
    pure (ForInStep.yield ((x.1,a)::m))) else pure (ForInStep.yield m):Sem _))=pure (lh env l b):=by
  intro l;induction l with
  |nil=>intro b _;rfl
  |cons y r ih=>
   intro b g;obtain⟨n,k⟩:=y;rw[List.forIn_cons];by_cases f:(k==NameKind.free)=true
   .obtain⟨c,o⟩:=g (n,k) bx (by simpa using f);have d:=o;have e:cellOf env n=pure c:=by unfold cellOf;rw[d]
    simp only[f,if_true,e,pure_bind];rw[ih _ λy i=>g y (bz _ i)];show pure (lh env r ((n,c)::b))=pure (if (k==NameKind.free)=true then (match env.cells.lookup n with
     |some c=>lh env r ((n,c)::b)
     |none=>lh env r b) else lh env r b)
    rw[aR f,d]
   .have j:(k==NameKind.free)=false:=by simpa using f
    simp only[j,cm,if_false,pure_bind];rw[ih _ λy i=>g y (bz _ i)];show pure (lh env r b)=pure (if (k==NameKind.free)=true then (match env.cells.lookup n with
     |some c=>lh env r ((n,c)::b)
     |none=>lh env r b) else lh env r b)
    rw[aS f]
 have:=all scope.names [] h;unfold closureFor;simp only[pure_bind,bind_pure]at this ⊢;exact this
theorem kW:∀{l} {acc},(∀y d,acc.lookup y=some d->env.cells.lookup y=some d)->(lh env l acc).lookup x=some c->env.cells.lookup x=some c
 |[],acc,ha,h=>ha x c h
 | (n,k)::r,acc,ha,h=>by
  unfold lh at h;by_cases b:(k==NameKind.free)=true
  .rw[aR b]at h;cases e:env.cells.lookup n with
   |none=>rw[e]at h;exact kW ha h
   |some d=>
    rw[e]at h;refine kW (λy d' a=>?_) h;rw[cn]at a;cases q:y==n with
    |true=>rw[q]at a;cases a;rw[beq_iff_eq.mp q];exact e
    |false=>rw[q]at a;exact ha y d' a
  .rw[aS b]at h;exact kW ha h
theorem n8:∀{l} {acc},(∃c,acc.lookup x=some c)->∃c,(lh env l acc).lookup x=some c
 |[],_,h=>h
 | (n,k)::r,acc,h=>by
  unfold lh;by_cases hk:(k==NameKind.free)=true
  .rw[aR hk];cases e:env.cells.lookup n with
   |none=>exact n8 h
   |some d=>
    refine n8 ?_;rw[cn];cases q:x==n with
    |true=>exact⟨d,rfl⟩
    |false=>exact h
  .rw[aS hk];exact n8 h
theorem mL:∀{l} {acc},(x,NameKind.free)∈l->(∃c,env.cells.lookup x=some c)->∃c,(lh env l acc).lookup x=some c
 | (n,k)::r,acc,b,a=>by
  rcases aG.mp b with e|b
  .cases e;obtain⟨c,a⟩:=a;unfold lh;rw[aR (by rfl),a];refine n8 ⟨c,?_⟩;rw[cn,beq_self_eq_true]
  .unfold lh;by_cases f:(k==NameKind.free)=true
   .rw[aR f];cases env.cells.lookup n with
    |none=>exact mL b a
    |some d=>exact mL b a
   .rw[aS f];exact mL b a
def p7(h:(relabel scope env).names.lookup x=some .cell\/(relabel scope env).names.lookup x=some .free):(x,NameKind.free)∈scope.names\/scope.names.lookup x=some .cell:=by
 have all:∀(l:List (Str×NameKind)),∀k,(k=NameKind.cell\/k=NameKind.free)->
   (l.map λ(n,k)=>if (k==NameKind.free&&env.scope.kind==.function&&env.kindOf n==some .cell) then (n,NameKind.cell) else (n,k)).lookup x=some k->(x,NameKind.free)∈l\/l.lookup x=some .cell:=by
  intro l;induction l with
  |nil=>intro k _ h;simp at h
  |cons y r ih=>
   intro k b h;obtain⟨n,c⟩:=y;rw[bK]at h;by_cases a:(c==NameKind.free&&env.scope.kind==.function&&env.kindOf n==some .cell)=true
   .have d:c=.free:=by simp only[bZ,beq_iff_eq]at a;exact a.1.1
    simp only[a,if_true]at h;rw[cn]at h;cases q:x==n with
    |true=>rw[d,beq_iff_eq.mp q];exact .inl bx
    |false=>
     rw[q]at h;rcases ih k b h with z|z
     .exact .inl (bz _ z)
     .exact .inr (by rw[cn,q];exact z)
   .simp only[a,cm,if_false]at h;rw[cn]at h;cases q:x==n with
    |true=>
     rw[q]at h;have e:c=k:=by simpa using h
     rcases b with rfl|rfl
     .exact .inr (by rw[cn,q,e])
     .rw[e,beq_iff_eq.mp q];exact .inl bx
    |false=>
     rw[q]at h;rcases ih k b h with z|z
     .exact .inl (bz _ z)
     .exact .inr (by rw[cn,q];exact z)
 rcases h with h|h
 .exact all scope.names _ (.inl rfl) h
 .exact all scope.names _ (.inr rfl) h
def xI(h:scope.names.lookup x=some .free):(relabel scope env).names.lookup x=some .cell\/(relabel scope env).names.lookup x=some .free:=by
 have all:∀(l:List (Str×NameKind)),l.lookup x=some .free->
   (l.map λ(n,k)=>if (k==NameKind.free&&env.scope.kind==.function&&env.kindOf n==some .cell) then (n,NameKind.cell) else (n,k)).lookup x=some .cell\/
   (l.map λ(n,k)=>if (k==NameKind.free&&env.scope.kind==.function&&env.kindOf n==some .cell) then (n,NameKind.cell) else (n,k)).lookup x=some .free:=by
  intro l;induction l with
  |nil=>intro h;simp at h
  |cons y r ih=>
   intro h;obtain⟨n,k⟩:=y;rw[bK];rw[cn]at h;cases q:x==n with
   |true=>
    rw[q]at h;have b:k=.free:=by simpa using h
    by_cases a:(k==NameKind.free&&env.scope.kind==.function&&env.kindOf n==some .cell)=true
    .refine .inl ?_;simp only[a,if_true];rw[cn,q]
    .refine .inr ?_;simp only[a,cm,if_false];rw[cn,q,b]
   |false=>
    rw[q]at h;by_cases a:(k==NameKind.free&&env.scope.kind==.function&&env.kindOf n==some .cell)=true
    .simp only[a,if_true];rw[cn,q];exact ih h
    .simp only[a,cm,if_false];rw[cn,q];exact ih h
 exact all scope.names h
def Dw(X:Cx)(b:List Expr)(t:TT):Prop:=
 ∀(d:List (Addr×Obj)) (s:Sq) (a:St) (H:Hp) (Q:Bool->Hp->Prop),gP X d a H s->t a H Q->
  wpAny (model X.prog X.w) X.A (forIn b true λc r=>if r=true then do let ok <-isTrue c X.env (eval c X.env);pure (ForInStep.yield ok) else pure (ForInStep.yield r)) (TP X d a Q) X.xe s
def LA:TT:=λ_ H Q=>Q true H
def JG:Dw X [] LA:=λ_ _ _ H _ I h=>wpAny_tests_nil ⟨H,I,h⟩
def Jw(b:PT X c t):Dw X [c] t:=λa s d H Q I h=>wpAny_tests_one (b a s d H Q I h)
theorem lN:∀a k b,(cellsFrom k a b).lookup x=some c->b.lookup x=some c\/(k<=c/\(x,NameKind.cell)∈a)
 |[],_,_,h=>.inl h
 | (n,kd)::r,k,b,h=>by
  unfold cellsFrom at h;split at h
  .rename_i e;rcases lN r _ _ h with q|⟨q,m⟩
   .rw[cn]at q;cases d:x==n with
    |true=>rw[d]at q;cases q;refine .inr ⟨aL _,?_⟩;rw[beq_iff_eq.mp d,beq_iff_eq.mp e];exact bx
    |false=>rw[d]at q;exact .inl q
   .exact .inr ⟨cq q,bz _ m⟩
  .rcases lN r _ _ h with q|⟨q,m⟩
   .exact .inl q
   .exact .inr ⟨q,bz _ m⟩
theorem kY:∀a k b,(x,NameKind.cell)∉a->(cellsFrom k a b).lookup x=b.lookup x
 |[],_,_,_=>rfl
 | (n,kd)::r,k,b,h=>by
  unfold cellsFrom;have hr:(x,NameKind.cell)∉r:=λz=>h (bz _ z);split
  .rename_i c;rw[kY r _ _ hr,cn];cases d:x==n with
   |true=>exact absurd (by rw[beq_iff_eq.mp d,beq_iff_eq.mp c];exact bx) h
   |false=>rfl
  .exact kY r _ _ hr
theorem my:∀a k b,(x,NameKind.cell)∈a->(cellsFrom k a b).lookup x=some c->k<=c
 |[],_,_,h,_=>nomatch h
 | (n,kd)::r,k,b,h,e=>by
  unfold cellsFrom at e;by_cases hr:(x,NameKind.cell)∈r
  .split at e
   .exact cq (my r _ _ hr e)
   .exact my r _ _ hr e
  .rcases aG.mp h with q|q
   .cases q;rw[aR (by rfl),kY r _ _ hr,cn,beq_self_eq_true]at e;cases e;exact aL _
   .exact absurd q hr
theorem ml:∀d k a,(∀x y c,a.lookup x=some c->a.lookup y=some c->x=y)->(∀x c,a.lookup x=some c->c<k)->
  ∀x y c,(cellsFrom k d a).lookup x=some c->(cellsFrom k d a).lookup y=some c->x=y
 |[],_,_,h,_=>h
 | (n,kd)::r,k,a,h,hl=>by
  unfold cellsFrom;split
  .refine ml r (k+1) ((n,k)::a) (λx y c b e=>?_) λx c b=>?_
   .rw[cn]at b e;cases f:x==n with
    |true=>
     cases g:y==n with
     |true=>rw[beq_iff_eq.mp f,beq_iff_eq.mp g]
     |false=>rw[f]at b;rw[g]at e;cases b;exact absurd (hl _ _ e) (bc _)
    |false=>
     rw[f]at b;cases g:y==n with
     |true=>rw[g]at e;cases e;exact absurd (hl _ _ b) (bc _)
     |false=>rw[g]at e;exact h x y c b e
   .rw[cn]at b;cases f:x==n with
    |true=>rw[f]at b;cases b;exact bM _
    |false=>rw[f]at b;exact cu (hl x c b)
  .exact ml r k a h hl
theorem lK:∀a h b,(cellsFrom h.objs.size a b).lookup x=some c->b.lookup x=some c\/(h.objs.size<=c/\(pushCells h a).IsCell c none)
 |[],_,_,e=>.inl e
 | (n,kd)::r,h,b,e=>by
  unfold cellsFrom at e;unfold pushCells;split at e
  .rename_i d;rw[aR d];have g:(cellsFrom (h.push {cls:=.type "cell",data:=.cell none}).objs.size r ((n,h.objs.size)::b)).lookup x=some c:=by rw[Heap.size_push];exact e
   rcases lK r _ _ g with q|⟨q,m⟩
   .rw[cn]at q;cases f:x==n with
    |true=>rw[f]at q;cases q;exact .inr ⟨aL _,_,pushCells_keeps r _ _ _ (au _ rfl),rfl⟩
    |false=>rw[f]at q;exact .inl q
   .rw[Heap.size_push]at q;exact .inr ⟨cq q,m⟩
  .rename_i d;rw[aS d];exact lK r _ _ e
def q8{M:Model}{A:Around}{E:Vq->Shared->Prop}{s:Sq}{scope:Scope}{globals:Addr}{closure:List (Str×Addr)}{qual:Str}{func:Option Addr}{code:Vq}{outer:Env}{builtins:Addr}{Q:Env->Shared->Prop}
  (hQ:Q (newEnv scope s.heap.objs.size globals (cellsFrom (s.heap.objs.size+1) scope.names closure) qual func code (some outer) builtins) {s with heap:=pushCells (s.heap.push {cls:=.type "dict",data:=.dict #[]}) scope.names}) :
  wpAny M A (newFunctionEnv scope globals closure [] qual func code (some outer) builtins) Q E s:=by
 simp only[newFunctionEnv,cw,if_true];refine aq (wpAny_alloc ?_);refine aq (wpAny_layCells _ (λname kind cells=>by cases hkc:kind==NameKind.cell<;>simp[hkc]) _ _ _ _ ?_);rw[show ({s with heap:=s.heap.push {cls:=.type "dict",data:=.dict #[]}}:Sq).heap.objs.size=s.heap.objs.size+1 from Heap.size_push ..];rw[List.forIn_nil];exact aq (ao (ao hQ))
noncomputable def lA(X:Cx)(N:List Str)(a:Scope)(C:Addr)(b:Sq)(H:Hp)(ex:List Addr)(pn:List (Addr×Obj)):Cx:={X with N:=N,s₀:=b,H₀:=H,env:=compEnvC a (cellsFrom (C+1) a.names (lh X.env a.names [])) C X.env,outer:=X.stack,ex:=ex,fn:=λx=>a.names.lookup x==some .cell,pn:=pn,xe:=λ_ _=>False}
noncomputable def pull(a:List (Option Nat))(b:St):St:=a.map fun
 |none=>none
 |some j=>(b[j]?).getD none
def QY(J:It)(o:List (Option Nat))(g:TG)(j:TT)(p:TE)(l:St)(n:Hp)(Q:VK):Prop:=∃W:Nat->Nat->List V->Hp->Prop,(∃m,W 0 m [] n)/\∀i m a H,W i m a H->
 (J.stop i H/\∀D,H D=none->Q (.ref D) (iU H D (.lst a)))\/
 (J.go i H/\a.length<sizeLine/\∀x e,J.yld i H x e->g x (pull o l) e λc k=>j c k λb f=>if b=true then p c f λy h=>∃d,d<m/\W (i+1) d (a++[y]) h else ∃d,d<m/\W (i+1) d a f)
def GK(b:List (Option Nat))(f:TI)(g:TG)(e:TT)(c:TE):TE:=λa H Q=>f a H λJ d=>QY J b g e c a d Q
end L2
namespace L2
open PySem PySem.Spec PyProof.Rows
section
variable {prog:Program}{w:World}{A:Around}{R:Result->Shared->Prop}{s:Sq}
theorem w5{q F i:Expr}{u:List Expr}{e:Scope}{pos:Pos}{it p:Vq}{a:Env}(J:Nat->Shared->Prop)
  (C:∀n s,J n s->wpAny (model prog w) A (pyNext it) (λr b=>match r with
   |none=>R (.ok .next) b
   |some v=>wpAny (model prog w) A (letOwnedTupleGo F it v) (λ_ g=>wpAny (model prog w) A (assign F a v) (λ_ l=>
     wpAny (model prog w) A (forIn u true λc r=>if r=true then do let ok <-isTrue c a (eval c a);pure (ForInStep.yield ok) else pure (ForInStep.yield r)) (λok d=>
      if ok=true then wpAny (model prog w) A (eval q a) (λx k=>wpAny (model prog w) A (call (.builtin "list.append") [p,x]) (λ_ j=>∃m,m<n/\J m j) (λ_ _=>False) k) (λ_ _=>False) d
      else ∃m,m<n/\J m d) (λ_ _=>False) l) (λ_ _=>False) g) (λ_ _=>False) b) (λ_ _=>False) s)
  (n:Nat) (h:J n s):codeAny (model prog w) A (.compLoop (.ListComp q [⟨F,i,u,0⟩] e pos) 0 it p a) R s:=by
 refine codeAny_loop rfl J (λn s H=>?_) n h;show wpAny _ A ((compTurn (.ListComp q [⟨F,i,u,0⟩] e pos) 0 it p a).onRaise (λx=>do noteFrame x a;theTreesLotGoes x)) _ _ s;refine wpAny_noted ?_;rw[compTurn_list];refine aq (wpAny_standAt (aq (wpAny_mono (C n s H) (λr b f=>?_) λ_ _ z=>z.elim)));cases r with
 |none=>exact ao f
 |some v=>
  refine aq (wpAny_mono f (λ_ g y=>?_) λ_ _ z=>z.elim);refine aq (wpAny_mono y (λ_ l D=>aq (wpAny_mono D (λok d o=>?_) λ_ _ z=>z.elim)) λ_ _ z=>z.elim);cases ok with
  |false=>exact ao ⟨rfl,o⟩
  |true=>exact aq (aq (wpAny_mono o (λx k E=>aq (wpAny_mono E (λ_ j B=>ao (ao ⟨rfl,B⟩)) λ_ _ z=>z.elim)) λ_ _ z=>z.elim))
end
def mS(c:List (Option Nat))(g:TG):Prop:=∀x a H Q,g x a H Q->g x a H λb d=>(∀i j:Nat,c[i]? = some (some j)->b[i]? = a[i]?)/\Q b d
def ue(a:ix[k]? = some none):mS ix (jV k):=λx b H Q h=>by
 refine⟨λi j e=>?_,h⟩;have:k≠i:=by rintro rfl;rw[a]at e;cases e
 rw[ar this]
abbrev vj(us:List Vq):Obj:={cls:=.type "list",data:=.seq us.toArray us.length}
section
variable {X:Cx}{tg elt iter:Expr}{ifs:List Expr}{scope:Scope}{pos:Pos}{N:List Str}{ix:List (Option Nat)}{wi:TI}{g:TG}{tt:TT}{te:TE}
structure yJ(X:Cx)(scope:Scope)(N:List Str)(ix:List (Option Nat)):Prop where
 kind:scope.kind=.function
 sep:∀y∈scope.names,y.2=.cell->scope.names.lookup y.1=some .cell
 names:∀y∈scope.names,y.2=.local->scope.names.lookup y.1=some .local
 fre:∀y∈scope.names,y.2=.free->∃c,X.env.cells.lookup y.1=some c
 len:N.length=ix.length
 ix:∀(i j:Nat) (x:Str),N[i]? = some x->ix[i]? = some (some j)->X.N[j]? = some x/\scope.names.lookup x=some .free/\Pd X.env.scope x/\X.env.kindOf x≠some .local
def Os(L:yJ X scope N ix)(I:gP X gx σ H s)(f:∀b∈fp,qO X gx H b)(j:∀b∈fp,b<s.heap.objs.size) o :
  (lA X N scope (s.heap.objs.size+1) {s with heap:=s.heap.push o} H (s.heap.objs.size::fp) (X.pn++gx)).Ok:=by
 have v:gP X gx σ H {s with heap:=s.heap.push o}:=I.kept λb u e=>af _ e;have sound0:∀x c,(lh X.env scope.names []).lookup x=some c->X.env.cells.lookup x=some c:=λx c e=>kW (λy d z=>by simp at z) e;have cellLt:∀x c,X.env.cells.lookup x=some c->c<s.heap.objs.size:=λx c e=>let ⟨_,q⟩:=I.cell x c e;q.lt;have h:∀x c,(cellsFrom (s.heap.objs.size+1+1) scope.names (lh X.env scope.names [])).lookup x=some c->X.env.cells.lookup x=some c\/s.heap.objs.size+1+1<=c:=λx c e=>by
  rcases lN _ _ _ e with q|⟨q,_⟩
  .exact .inl (sound0 x c q)
  .exact .inr q
 refine⟨I.ok.mod,L.kind,I.ok.glob,I.ok.blt,?_,ml _ _ _ (λx y c i l=>I.ok.inj x y c (sound0 x c i) (sound0 y c l)) (λx c i=>cu (cu (cellLt x c (sound0 x c i)))),λx r=>?_,λx c i l=>?_,I.ok.hd,I.ok.frames,.inl rfl,λb a=>?_,λb u e=>?_,?_,λb u e a=>?_,λb a=>?_,v.stack,I.stkFree,I.tab⟩
 .show (s.heap.push o).objs.size<=s.heap.objs.size+1;rw[Heap.size_push];exact aL _
 .refine bS.mp (W.cellsFrom_some _ _ _ ?_);rcases p7 r with k|k
  .exact .inr (bS.mpr (mL k (L.fre _ k rfl)))
  .exact .inl k
 .have m:(scope.names.lookup x==some .cell)=true:=i;have w:scope.names.lookup x=some .cell:=by simpa using m
  show (s.heap.push o).objs.size<=c;rw[Heap.size_push];exact cq (my _ _ _ (PySem.mem_of_lookup w) l)
 .rcases aG.mp a with rfl|a
  .refine⟨aN (bM _),λx c e z=>?_⟩;rcases h x c e with q|q
   .exact absurd (cellLt x c q) (by rw[z];exact bc _)
   .rw[z]at q;omega
  .refine⟨aN (cu (j b a)),λx c e=>?_⟩;rcases h x c e with q|q
   .exact (f b a).2.2.2.2.1 x c q
   .intro z;rw[z]at q;exact absurd (aO (cx _ 2) q) (Nat.not_le.mpr (j b a))
 .exact⟨af _ (I.bs b u e).1,(I.bs b u e).2⟩
 .show X.base.objs.size<=(s.heap.push o).objs.size;rw[Heap.size_push];exact cy (aO I.ok.bsz I.sz)
 .have n:=aM (I.bs b u e).1;rcases aG.mp a with rfl|a
  .exact bc _ n
  .rcases (f b a).2.2.2.1 with z|z
   .exact I.ok.noex b u e z
   .exact absurd (aF (aM e) (aO I.ok.bsz z)) (bc _)
 .intro z;have p:=I.stkSub b z;rcases aG.mp a with rfl|a
  .rcases aG.mp p with q|q
   .exact absurd I.lt (by rw[<-q];exact bc _)
   .exact I.nofs (aL _) q
  .rcases aG.mp p with q|q
   .exact (f b a).2.1 q
   .exact (f b a).2.2.1 q
end
end L2
namespace L2
open PySem PySem.Spec PyProof.Rows
section
variable {X:Cx}{tg elt iter:Expr}{ifs:List Expr}{scope:Scope}{pos:Pos}{N:List Str}{ix:List (Option Nat)}{wi:TI}{g:TG}{tt:TT}{te:TE}
def zG{i:Nat}(h:(pull ix σ)[i]? = some (some v)):∃j,ix[i]? = some (some j)/\σ[j]? = some (some v):=by
 unfold pull at h;rw[aw]at h;cases e:ix[i]? with
 |none=>rw[e]at h;cases h
 |some k=>
  rw[e]at h;cases k with
  |none=>cases h
  |some j=>
   refine⟨j,rfl,?_⟩;have a:(σ[j]?).getD none=some v:=by simpa using h
   cases q:σ[j]? with
   |none=>rw[q]at a;cases a
   |some z=>rw[q]at a;simpa using a
theorem BQ{RR:Vq->Addr->Result->Shared->Prop}{Q:VK}{W:Nat->Nat->List V->Hp->Prop}
  (hc:X.calm=true) (L:yJ X scope N ix) (hgk:mS ix g)
  (blk:∀C P H ex pn,PG (lA X N scope C P H ex pn) tg g/\Dw (lA X N scope C P H ex pn) ifs tt/\PE (lA X N scope C P H ex pn) elt te)
  (l:gP X gx σ H2 s2) (T:AN X.prog X.w X.K tg J fp it tn) (st2:tn 0 s2.heap) (f2:∀b∈fp,qO X gx H2 b) (w0:W 0 m0 [] H2)
  (turn:∀i m Y H,W i m Y H->(J.stop i H/\∀D,H D=none->Q (.ref D) (iU H D (.lst Y)))\/
   (J.go i H/\Y.length<sizeLine/\∀x s,J.yld i H x s->g x (pull ix σ) s λσ2 H2=>tt σ2 H2 λb H3=>if b=true then te σ2 H3 λy H4=>∃m',m'<m/\W (i+1) m' (Y++[y]) H4 else ∃m',m'<m/\W (i+1) m' Y H3))
  (fin:∀D C m s U,U.heap.Ns C m->qO X gx s C->gP X gx σ s U->Q (.ref D) s->RR (.ref D) C (.ok .next) U) :
  wpAny (model X.prog X.w) X.A (newList []) (λacc P=>wpAny (model X.prog X.w) X.A (newFunctionEnv scope X.env.globals (lh X.env scope.names []) [] X.env.qual none .none (some X.env)) (λcenv s₄=>codeAny (model X.prog X.w) X.A (.compStart (.ListComp elt [⟨tg,iter,ifs,0⟩] scope pos) 0 (.ref it) acc {cenv with scope:=relabel scope X.env}) (RR acc cenv.locals) s₄) E P) E s2:=by
 refine wpAny_newObj_type (q8 ?_);have hCs:(s2.heap.push {cls:=.type "list",dict:=none,data:=.seq ([]).toArray}).objs.size=s2.heap.objs.size+1:=Heap.size_push ..;generalize S:pushCells ((s2.heap.push {cls:=.type "list",dict:=none,data:=.seq ([]).toArray}).push {cls:=.type "dict",data:=.dict #[]}) scope.names=h₁;rw[hCs];have hns₁:h₁.Ns (s2.heap.objs.size+1) (λ_=>none):=by rw[<-S,<-hCs];exact (Heap.Ns.new _ _).keeps (pushCells_keeps _ _)
 have Z:∀x c,(cellsFrom (s2.heap.objs.size+1+1) scope.names (lh X.env scope.names [])).lookup x=some c->X.env.cells.lookup x=some c\/(s2.heap.objs.size+1+1<=c/\h₁.IsCell c none):=λx c e=>by
  have hs3:((s2.heap.push {cls:=.type "list",dict:=none,data:=.seq ([]).toArray}).push {cls:=.type "dict",data:=.dict #[]}).objs.size=s2.heap.objs.size+1+1:=by rw[Heap.size_push,hCs]
  rw[<-hs3]at e;rcases lK _ _ _ e with q|⟨q,m⟩
  .exact .inl (kW (λy d z=>by simp at z) q)
  .rw[hs3]at q;rw[S]at m;exact .inr ⟨q,m⟩
 have fpObj:=T.obj 0 _ st2;have hlt:∀b∈fp,b<s2.heap.objs.size:=λb h=>let ⟨_,e,_⟩:=fpObj b h;aM e;have ok:=Os L l f2 hlt {cls:=.type "list",dict:=none,data:=.seq ([]).toArray};have DC:s2.heap.objs.size≠s2.heap.objs.size+1:=aN (bM _);have hold:∀b o,(s2.heap.push {cls:=.type "list",dict:=none,data:=.seq ([]).toArray}).get? b=some o->h₁.get? b=some o:=λb o e=>by rw[<-S];exact pushCells_keeps _ _ _ _ (af _ e)
 have old:∀b o,s2.heap.get? b=some o->h₁.get? b=some o:=λb o e=>hold b o (af _ e);have sound:∀x c,(lh X.env scope.names []).lookup x=some c->X.env.cells.lookup x=some c:=λx c e=>kW (λy d z=>by simp at z) e;have cellLt:∀x c,X.env.cells.lookup x=some c->c<s2.heap.objs.size:=λx c e=>let ⟨_,q⟩:=l.cell x c e;q.lt;have hDn:=l.hok.fresh (aL _);have hCn:=l.hok.fresh (bQ _);have F:∀p∈X.pn++gx,p.1<s2.heap.objs.size:=λp f=>aM (l.pin p f).1;have hDfs:s2.heap.objs.size∉CS X.stack:=λz=>by
  rcases aG.mp (l.stkSub _ z) with q|q
  .exact absurd l.lt (by rw[<-q];exact bc _)
  .exact l.nofs (aL _) q
 have I':gP (lA X N scope (s2.heap.objs.size+1) {s2 with heap:=s2.heap.push {cls:=.type "list",dict:=none,data:=.seq ([]).toArray}} H2 (s2.heap.objs.size::fp) (X.pn++gx))
   [(s2.heap.objs.size,vj [])] (pull ix σ) H2 {s2 with heap:=h₁,toks:=s2.toks}:=by
  refine⟨ok,rfl,l.bare,Un.kept hold,⟨_,hns₁,λi x v h1 h2 h3=>?_⟩,λx c e=>?_,hCn,λx c e=>?_,λp f=>?_,l.hok.kept old,?_⟩
  .obtain⟨j,ej,es⟩:=zG h2;obtain⟨q1,q2,q3,q4⟩:=L.ix i j x h1 ej;obtain⟨m,_,hl⟩:=l.loc;obtain⟨u,r,lk⟩:=hl j x v q1 es q3;refine⟨u,r,?_⟩;rcases lk with⟨k,_⟩|⟨k,c,hcl,hv⟩
   .exact absurd k q4
   .obtain⟨c',hc'⟩:=mL (PySem.mem_of_lookup q2) ⟨c,hcl⟩;have:=sound x c' hc';rw[hcl]at this;cases this;have hnc:(x,NameKind.cell)∉scope.names:=λz=>by have:=L.sep _ z rfl;rw[q2]at this;cases this
    refine .inr ⟨?_,c,(kY _ _ _ hnc).trans hc',let ⟨ob,ho,hd⟩:=hv;⟨ob,old c ob ho,hd⟩⟩;exact xI q2
  .rcases Z x c e with q|⟨_,q⟩
   .obtain⟨v,ob,ho,hd⟩:=l.cell x c q;exact⟨v,ob,old c ob ho,hd⟩
   .exact⟨none,q⟩
  .rcases Z x c e with q|⟨q,_⟩
   .exact l.freeC x c q
   .exact l.hok.fresh (aO (cx _ 2) q)
  .rcases aj.mp f with f|f
   .obtain⟨e,n,ne,nf,d⟩:=l.pin p f;refine⟨old _ _ e,n,aN (cu (F p f)),λz=>?_,d⟩;rcases aG.mp (l.stkSub _ z) with q|q
    .exact ne q
    .exact nf q
   .have e:p=(s2.heap.objs.size,vj []):=by simpa using f
    subst e;exact⟨hold _ _ (au _ rfl),hDn,DC,hDfs,λv z=>by cases z⟩
  .unfold pull;rw[ax];exact L.len.symm
 generalize a:lA X N scope (s2.heap.objs.size+1) {s2 with heap:=s2.heap.push {cls:=.type "list",dict:=none,data:=.seq ([]).toArray}} H2 (s2.heap.objs.size::fp) (X.pn++gx)=X' at I';obtain⟨hg,hif,he⟩:=blk (s2.heap.objs.size+1) {s2 with heap:=s2.heap.push {cls:=.type "list",dict:=none,data:=.seq ([]).toArray}} H2 (s2.heap.objs.size::fp) (X.pn++gx);rw[a]at hg hif he;have stat:∀{s:Hp} {R:List Vq},(∀b∈fp,s b=none)->∀b∈fp,qO X' [(s2.heap.objs.size,vj R)] s b:=λ{s R} hn b h=>by
  subst a;obtain⟨_,f1,f2',f3,f4,f5⟩:=f2 b h;refine⟨hn b h,aN (cu (hlt b h)),λz=>?_,.inl (bz _ h),λx c e=>?_,λp f=>?_⟩
  .rcases aG.mp (l.stkSub _ z) with q|q
   .exact f1 q
   .exact f2' q
  .rcases Z x c e with q|⟨q,_⟩
   .exact f4 x c q
   .intro z;rw[z]at q;exact absurd (aO (cx _ 2) q) (Nat.not_le.mpr (hlt b h))
  .rcases aj.mp f with f|f
   .exact f5 p f
   .have e:p=(s2.heap.objs.size,vj R):=by simpa using f
    subst e;exact Ne.symm (aN (hlt b h))
 have loop:codeAny (model X.prog X.w) X.A (.compLoop (.ListComp elt [⟨tg,iter,ifs,0⟩] scope pos) 0 (.ref it) (.ref s2.heap.objs.size) X'.env) (RR (.ref s2.heap.objs.size) (s2.heap.objs.size+1))
   {s2 with heap:=h₁,toks:=s2.toks}:=by
  refine w5 (λn U=>∃i Y R s,gP X' [(s2.heap.objs.size,vj R)] (pull ix σ) s U/\g9 Y R/\Y.length<=sizeLine/\tn i U.heap/\(∀b∈fp,s b=none)/\W i n Y s) ?_ m0
   ⟨0,[],[],H2,I',.nil,bN _,T.keep _ _ _ st2 λb _ o e=>old b o e,λb h=>(f2 b h).1,w0⟩
  rintro n s3 ⟨i,Y,R,H3,I3,rv,hz,st3,fr3,w3⟩;have hcX:X'.calm=true:=by subst a;exact hc
  have hA:X'.A=X.A:=by subst a;rfl
  rcases turn i n Y H3 w3 with⟨stop,qn⟩|⟨go,kJ,step⟩
  .have hd:=T.done X' (by subst a;rfl) (by subst a;rfl) (by subst a;rfl) hcX i _ s3 _ H3 (λ_ _=>False) I3 (stat fr3) st3 stop;rw[hA]at hd;refine jB hd λr s4 ⟨hr,I4⟩=>?_;subst hr;subst a;obtain⟨m,hn,_⟩:=I4.loc;have hD3:=I4.pin (s2.heap.objs.size,vj R) (bG _ bx);have u1:Un (CS X.stack) fp H2 H3 s2.heap s4.heap:=by
    have B:=I4.base;have nD:∀b o,s2.heap.get? b=some o->b∉fp->b∉s2.heap.objs.size::fp:=λb o e h z=>by
     rcases aG.mp z with q|q
     .exact absurd (aM e) (by rw[q];exact bc _)
     .exact h q
    exact⟨λb o e n h hx=>B.keep b o (af _ e) n h (nD b o e hx),λb o e n h hx=>B.slot b o (af _ e) n h (nD b o e hx),
     λb o e n hx=>B.free b o (af _ e) n (nD b o e hx),λb o e hx=>B.there b o (af _ e) (nD b o e hx),B.tups,B.frzs,B.tbls⟩
   have I5:=l.call' I4.os u1 I4.hok I4.bare λb h=>let ⟨_,f1,_,f3,f4,f5⟩:=f2 b h;⟨f3,f1,f4,f5⟩;have I6:gP X gx σ (iU H3 s2.heap.objs.size (.lst Y)) s4:=I5.track hD3.2.1 (.inr l.sz) (Ne.symm (aN l.lt)) (λx c e z=>absurd (cellLt x c e) (by rw[z];exact bc _))
    (λp f=>aN (F p f)) ⟨hz,R,R.length,rv,hD3.1⟩
   refine fin _ _ m _ s4 hn ⟨?_,?_,?_,.inr (cy l.sz),λx c e z=>?_,λp f=>?_⟩ I6 (qn _ hD3.2.1)
   .rw[gI (Ne.symm DC)];exact I4.free
   .exact Ne.symm (aN (cu l.lt))
   .exact l.nofs (bQ _)
   .exact absurd (cellLt x c e) (by rw[z];exact Nat.not_lt.mpr (bQ _))
   .exact aN (cu (F p f))
  .have hd:=T.item X' (by subst a;rfl) (by subst a;rfl) (by subst a;rfl) hcX i _ s3 _ H3 (λ_ _=>False) I3 (stat fr3) st3 go;rw[hA]at hd;refine jB hd λr s4 ⟨u,hr,h4⟩=>?_;subst hr;refine jB h4 λ_ s5 ⟨x,H5,I5,r5,y5,st5,fr5⟩=>?_;have I5':=I5.pinned (stat fr5) (T.obj _ _ st5);have hM:model X'.prog X'.w=model X.prog X.w:=by subst a;rfl
   have hE:X'.xe=λ_ _=>False:=by subst a;rfl
   have a6:=hg _ s5 _ H5 x u _ I5' r5 (hgk x _ H5 _ (step x H5 y5));rw[hM,hA,hE]at a6;refine jB a6 λ_ s6 ⟨σ6,H6,I6,agr,q6⟩=>?_;have a7:=hif _ s6 σ6 H6 _ I6 q6;rw[hM,hA,hE]at a7;refine jB a7 λok s7 ⟨H7,I7,q7⟩=>?_;have back:∀{U:Sq} {s:Hp} {pl:List (Addr×Obj)},gP X' pl σ6 s U->gP X' pl (pull ix σ) s U:=λ{U s pl} I=>by
    refine I.weak ?_ λk v e=>?_
    .have e1:=I.len;have e2:=I3.len;rw[e1,e2]
    .obtain⟨j,ej,_⟩:=zG e;rw[agr k j ej];exact e
   have held:∀{U:Sq} {s:Hp},gP X' ([(s2.heap.objs.size,vj R)]++tK fp s5.heap) σ6 s U->tn (i+1) U.heap/\∀b∈fp,s b=none:=λ{U s} I=>by refine⟨T.keep _ _ _ st5 λb h o e=>(I.pin (b,o) (bG _ (bG _ (mZ h e)))).1,λb h=>?_⟩;obtain⟨o,e,_⟩:=T.obj _ _ st5 b h;exact (I.pin (b,o) (bG _ (bG _ (mZ h e)))).2.1
   cases ok with
   |false=>rw[aS aI]at q7 ⊢;obtain⟨m',hm,w7⟩:=q7;obtain⟨k1,k2⟩:=held I7;exact⟨m',hm,i+1,Y,R,H7,(back I7).unpinned,rv,hz,k1,k2,w7⟩
   |true=>
    rw[aR rfl]at q7 ⊢;have a8:=he _ s7 σ6 H7 _ I7 q7;rw[hM,hA,hE]at a8;refine jB a8 λy s8 ⟨yv,H8,I8,r8,m',hm,w8⟩=>?_;obtain⟨k1,k2⟩:=held I8;have hD8:=I8.pin (s2.heap.objs.size,vj R) (bG _ (ay _ bx));have hl:=rv.length;refine append_at hD8.1 λh9 sb hD9=>?_;have I9:gP X' [] (pull ix σ) H8 s8:=(back I8).pins_of λp f=>by simp at f
    have I10:=I9.turned (t':=s8.toks) (λb o h e=>sb.extBut b o h e) hD8.2.1 hD8.2.2.1 (.inl (by subst a;exact bx))
     (λx c e z=>by
      subst a;rcases Z x c e with q|⟨q,_⟩
      .exact absurd (cellLt x c q) (by rw[z];exact bc _)
      .rw[z]at q;omega) (λp f z=>by
      subst a;rcases aj.mp f with f|f
      .exact absurd (F p f) (by rw[z];exact bc _)
      .simp at f)
    have e9:h9.get? s2.heap.objs.size=some (vj (R++[y])):=by rw[hD9];simp
    refine⟨m',hm,i+1,Y++[yv],R++[y],H8,I10.pins_of λp f=>?_,rv.append (.cons r8 .nil),by rw[aU,b8];omega,?_,k2,w8⟩
    .have e:p=(s2.heap.objs.size,vj (R++[y])):=by simpa using f
     subst e;exact⟨e9,hD8.2.1,hD8.2.2.1,hD8.2.2.2.1,λv z=>by cases z⟩
    .exact T.keep _ _ _ k1 λb h o e=>sb.extBut b o (aN (hlt b h)) e
 have loop':=loop;subst a;exact codeAny_compStart_list loop (T.self X.A 0 _ _ _ (T.keep _ _ _ st2 λb _ o e=>old b o e) loop')
def OZ(K:X.calm=true)(B:PI X tg iter wi)(L:yJ X scope N ix)(j:mS ix g)
  (k:∀C a H l i,PG (lA X N scope C a H l i) tg g/\Dw (lA X N scope C a H l i) ifs tt/\PE (lA X N scope C a H l i) elt te)
  (hs:∀x,foldedSetIterable iter X.env x=pure x:=by intro _;rfl):PE X (.ListComp elt [⟨tg,iter,ifs,0⟩] scope pos) (GK ix wi g tt te):=by
 intro w s z H Q I h;rw[eval_ListComp];refine wpAny_comprehension_free rfl hs (oF L.fre) L.kind L.names (jB (B w s z H _ I h) λv s1 n=>jB n λS Z p=>?_);obtain⟨it,fp,tn,J,H2,e,P,T,d,u,W,⟨U,R⟩,c⟩:=p;subst e;refine BQ K L j k P T d u R c λD C m A s' y f r q=>?_;refine⟨m,y,λY F=>⟨.ref D,A,r.turned (λb o E e=>F.extBut b o E e) f.1 f.2.1 f.2.2.2.1 f.2.2.2.2.1 f.2.2.2.2.2,rfl,q⟩⟩
end
end L2
namespace L2
open PySem PySem.Spec PyProof.Rows
structure gR(K:W.Frag)(mg:Str->Option Value)(x:Str)(st:Stmt):Prop where
 ex:∃f fd,HR K x x st f fd/\mg x=some (.ref f)
def Mp{K:W.Frag}{st:Stmt}{kV d pm b e:Vq}(X:K.In h)(G:h.Ns mainGlobals mg)
  (a:W.nsIn K mainGlobals x=some (some (.ref f)))
  (l:K.lookup f=some ⟨oc,od,.func (W.fnOf x x (jo st) (ib st) (gD st) .none kV d pm an b e),osl⟩)
  (c:W.codeIn K b x=true) (k:W.keepIn K (.ref f)=true):gR K mg x st:=⟨f,_,AU l c k,W.mg_of X G a⟩
structure ki(P:Program)(w:World)(K:W.Frag)(mg:Str->Option Value)(base:Heap)(x:Str)(k:Nat)(sp:Sp):Prop where
 ex:∃f fd ps,lU P w K mg base uR k f fd ps sp/\mg x=some (.ref f)/\W.keepIn K (.ref f)=true/\nO K fd ps []
def ki.mono{K:W.Frag}(h:ki P w K mg base x j sp)(d:j<=k):ki P w K mg base x k sp:=
 let ⟨f,fd,ps,F,a,b,c⟩:=h.ex
 ⟨f,fd,ps,F.mono d,a,b,c⟩
def xE{K:W.Frag}{st:Stmt}(D:gR K mg x st)(S:i8 N ps (gD st))
  (h:∀(kV d pm:Vq) (i:Option Addr) (a j:Vq) (us:List Vq),us.length=ps.length->bindArgs (W.fnOf x x (jo st) (ib st) (gD st) .none kV d pm i a j) ⟨us,[]⟩=pure (ps.zip us))
  (len:∀vs H Q E,sp vs H Q E->vs.length=ps.length)
  (c:∀f a A b s H vs Q E,iP k (A.deeper (envOfC x (gD st) s.heap.objs.size f a))->sp vs H Q E->
   ∃t,zb (nC uR P w K mg base N x (gD st) f a A b s H E).nox (ib st) t/\t {nx:=λ_ g=>Q .non g,rt:=Q} (ll N vs) H):ki P w K mg base x (k+1) sp:=by
 obtain⟨f,e,F,m⟩:=D.ex;exact⟨f,e,ps,F.ok S len (c f),m,F.kp,F.binds h⟩
section
variable {X:Cx}{x:Str}{k:Nat}{sp:Sp}{e:Expr}{es:List Expr}{t:TA}{p pos:Pos}
def zF(h:ki X.prog X.w X.K X.mg X.base x k sp)(hr:iP k X.A)(l:PA X (e::es) t)(i:Gl X x:=by rfl)
  (d:(x==("__debug__" : Str))=false:=by decide) (j:starEach (e::es) X.env=(false,eval e X.env)::starEach es X.env:=by rfl) (g:(backTo pos (starEach es X.env)).any (·.1)=false:=by rfl) :
  PE X (.Call (.Name x p) (e::es) [] pos) (vR sp [] E0 t):=by
 obtain⟨f,m,n,F,a,b,c⟩:=h.ex;exact IK F hr i a b c .nil Hg l d j g
end
def Io:oh X (binaryOp .Mult) (rI (λi j=>PySem.IntMulOk i j) λi j=>.int (i*j)):=PN λ_ _ _ _ _ _ _ a q=>mul_int q a
def Gq:oh X (binaryOp .FloorDiv) (rI (λi j=>j≠0/\Builtin.divisionGoesByPylong i j=false) λi j=>.int (i.fdiv j)):=PN λ_ _ _ _ _ _ _ a q=>floordiv_int a.1 q (.inl a.2)
end L2
namespace L2
open PySem PySem.Spec PyProof.Rows PySem.W PySem.Calls
theorem qV:∀{a:List Addr} {us:List Vq},g9 (a.map V.ref) us->us=a.map Value.ref
 |[],_,.nil=>rfl
 |d::a,u::us,.cons r t=>by have e:=r;rw[e,qV t];rfl
end L2
namespace L2
open PySem PySem.Spec PyProof.Rows PySem.W
mutual
inductive DV(K:Frag)(H:Hp):V->PyData->Prop
 |non:DV K H .non .none
 |bl (b:Bool):DV K H (.bl b) (.bool b)
 |int (i:Int):DV K H (.int i) (.int i)
 |str (x:Str):DV K H (.str x) (.str x)
 |lst {a:Addr} {xs:List V} {ds:List PyData} (h:ka K H a xs) (hs:yf K H xs ds):DV K H (.ref a) (.list ds)
 |tup {a:Addr} {xs:List V} {ds:List PyData} (h:lz K H a xs) (hs:yf K H xs ds):DV K H (.ref a) (.tuple ds)
inductive yf(K:Frag)(H:Hp):List V->List PyData->Prop
 |nil:yf K H [] []
 |cons {v:V} {d:PyData} {vs:List V} {ds:List PyData} (h:DV K H v d) (hs:yf K H vs ds):yf K H (v::vs) (d::ds)
end
section
variable {X:Cx}{gx:List (Addr×Obj)}{σ:St}{H:Hp}{s:Sq}
mutual
theorem DV.reads(I:gP X gx σ H s):∀{v} {d} {u},DV X.K H v d->iE v u->∃as,Reads s.heap u d as
 |_,_,_,.non,r=>by cases r;exact⟨_,.none⟩
 |_,_,_,.bl b,r=>by cases r;exact⟨_,.bool b⟩
 |_,_,_,.int i,r=>by obtain⟨t,rfl⟩:=r;exact⟨_,.int i t⟩
 |_,_,_,.str x,r=>by obtain⟨t,rfl⟩:=r;exact⟨_,.str x t⟩
 |_,_,_,.lst h hs,r=>by cases r;obtain⟨gG,g,⟨o,n,e,a,j,c⟩,_⟩:=I.list h;obtain⟨as,f⟩:=yf.reads I hs g;exact⟨_,.list e a c (by simpa using f)⟩
 |_,_,_,.tup h hs,r=>by cases r;obtain⟨gG,g,⟨o,e,a,n,c⟩,_⟩:=I.tuple h;obtain⟨as,f⟩:=yf.reads I hs g;exact⟨_,.tuple e a c (by simpa using f)⟩
theorem yf.reads(I:gP X gx σ H s):∀{vs} {ds} {us},yf X.K H vs ds->g9 vs us->∃as,ReadsAll s.heap us ds as
 |_,_,_,.nil,r=>by cases r;exact⟨_,.nil⟩
 |_,_,_,.cons h hs,r=>by
  cases r with
  |cons r1 r2=>obtain⟨as,a⟩:=DV.reads I h r1;obtain⟨bs,b⟩:=yf.reads I hs r2;exact⟨_,.cons a b⟩
end
def Ah(K:Frag)(neg:Bool):R2:=λx y H Q=>∃a b,DV K H x a/\DV K H y b/\(a.canLay0=true/\b.canLay0=true/\a.depth<=100)/\Q (.bl (if neg then !PyData.eqv a b else PyData.eqv a b)) H
def GM(k:X.A.units+200<cLine):oh X (compareOp .Eq) (Ah X.K false):=by intro l s m H x y v u Q I d g h;obtain⟨o,j,b,a,⟨e,f,n⟩,q⟩:=h;obtain⟨as,i⟩:=b.reads I d;obtain⟨bs,c⟩:=a.reads I g;exact SeqAt.eqOverData _ _ _ _ _ _ _ _ _ _ _ _ i c e f (by omega) ⟨.bl _,H,I,rfl,q⟩
def Fo(k:X.A.units+200<cLine):oh X (compareOp .NotEq) (Ah X.K true):=by intro l s m H x y v u Q I d g h;obtain⟨o,j,b,a,⟨e,f,n⟩,q⟩:=h;obtain⟨as,i⟩:=b.reads I d;obtain⟨bs,c⟩:=a.reads I g;exact SeqAt.neOverData _ _ _ _ _ _ _ _ _ _ _ _ i c e f (by omega) ⟨.bl _,H,I,rfl,q⟩
def OC(hr:iP k A):A.units+200<cLine:=by have:=hr.un;omega
end
end L2
namespace L2
open PySem PySem.Spec PyProof.Rows
theorem ym:∀{bs:List Bool} {us:List Vq},g9 (bs.map V.bl) us->us=bs.map Value.bool
 |[],_,.nil=>rfl
 |b::bs,u::us,.cons r t=>by have e:=r;rw[e,ym t];rfl
theorem m7:∀{ns} {us},g9 (ns.map V.int) us->IntsAre us ns
 |[],_,.nil=>.nil
 |n::ns,u::us,.cons r t=>by obtain⟨a,e⟩:=(r);rw[e];exact .cons n a (m7 t)
def Da{bs:List Bool}:(List.range bs.length).all (λi=>bs.getD i false)=bs.all id:=by
 induction bs with
 |nil=>rfl
 |cons b bs ih=>rw[aA,cA,cB,cC,cB,<-ih];rfl
def wI{bs:List Bool}:(List.range bs.length).any (λi=>bs.getD i false)=bs.any id:=by
 induction bs with
 |nil=>rfl
 |cons b bs ih=>rw[aA,cA,cD,cE,cD,<-ih];rfl
section
variable {X:Cx}
def DJ{bs:List Bool}:TruthOf prog w A (λi v=>(bs.map Value.bool).toArray[i]? = some v) (λi=>bs.getD i false):=λi v s Q E d a=>by
 have e:(bs.map Value.bool)[i]? = some v:=by simpa using d
 rw[aw]at e;cases c:bs[i]? with
 |none=>rw[c]at e;cases e
 |some b=>
  rw[c]at e;cases e;have:bs.getD i false=b:=by rw[ag,c];rfl
  dsimp only at a;rw[this]at a;exact ao a
def F9(j:X.calm=true):jT X (.builtin "all") (λd H Q=>∃(p:Addr) (bs:List Bool),d=[.ref p]/\ka X.K H p (bs.map V.bl)/\Q (.bl (bs.all id)) H):=by
 intro w s x H d v Q I r h;obtain⟨p,bs,rfl,m,q⟩:=h;obtain⟨u,rfl,f⟩:=nc r;cases f;obtain⟨gG,g,c,y⟩:=I.list m;have e:=ym g;subst e;have a:p<s.heap.objs.size:=by obtain⟨_,e,_⟩:=c.isList;exact aM e
 refine call_all_walk (wpAny_pyIter_list c.isList ⟨s.heap.objs.size,_,_,_,_,_,λi=>bs.getD i false,rfl,Walks.list (A:=X.A.in1) (I.ok.hd j) _ p (aN a) _,⟨⟨_,au _ rfl,rfl,rfl⟩,c.isList.push _⟩,DJ,λn B k=>?_⟩);refine⟨.bl _,H,I.kept (λb o e=>k b o ?_ (af _ e)),rfl,?_⟩
 .intro l;have:=aM e;have z:b=s.heap.objs.size:=by simpa using l
  rw[z]at this;exact bc _ this
 .rw[<-Da]at q;simpa using q
def Ep(k:X.calm=true):jT X (.builtin "sum") (λb H Q=>∃(p:Addr) (a:LI),b=[.ref p]/\ka X.K H p (a.map V.int)/\Q (.int a.sum) H):=by intro v s w H b o Q I r h;obtain⟨p,a,rfl,m,q⟩:=h;obtain⟨u,rfl,f⟩:=nc r;cases f;obtain⟨gG,g,i,x⟩:=I.list m;have d:=m7 g;obtain⟨b,e⟩:=d.allInts.items;have c:=i.isList;rw[e]at c;refine sum_intListG (I.ok.hd k) c λn y j l=>⟨.int a.sum,H,I.kept l,⟨j,?_⟩,q⟩;rw[preSum_eq,cF (by simp),<-nums_intItems,<-e,show gG.toArray.toList=gG from rfl,d.numsOf]
def Bo:bootBuiltins "all" = some (.builtin "all"):=by decide +kernel
def xo:bootBuiltins "any" = some (.builtin "any"):=by decide +kernel
def Ab:bootBuiltins "sum" = some (.builtin "sum"):=by decide +kernel
end
end L2
namespace L2
open PySem PySem.Spec PyProof.Rows
def jh(b:Bool)(h:Heap)(l:Addr)(a:Array Vq):Prop:=if b=true then h.IsTuple l a else h.IsList l a
def kP(b:Bool)(h:Heap)(it l:Addr)(k:Nat):Prop:=if b=true then h.IsTupleIter it l k else h.IsListIter it l k
noncomputable def um(b:Bool):String:=if b=true then "tuple_iterator" else "list_iterator"
def kP.look(x:kP b h it l k):∃o,h.get? it=some o/\o.cls=.type (um b)/\o.data=.fields #[.ref l,.int k 0]:=by
 cases b with
 |true=>exact (x)
 |false=>exact (x)
def kP.of{k:Nat}(x:∃o,h.get? it=some o/\o.cls=.type (um b)/\o.data=.fields #[.ref l,.int k 0]):kP b h it l k:=by
 cases b with
 |true=>exact x
 |false=>exact x
def kP.to(x:kP b h it l k)(e:∀o,h.get? it=some o->h'.get? it=some o):kP b h' it l k:=by obtain⟨o,a,q⟩:=x.look;exact .of ⟨o,e o a,q⟩
def jh.look(x:jh b h l xs):∃o n,h.get? l=some o/\o.data=.seq xs n:=by
 cases b with
 |true=>obtain⟨o,c,_,n,a⟩:=(x);exact⟨o,n,c,a⟩
 |false=>obtain⟨o,c,_,n,a⟩:=(x);exact⟨o,n,c,a⟩
def jh.to(x:jh b h l xs)(e:∀o,h.get? l=some o->h'.get? l=some o):jh b h' l xs:=by
 cases b with
 |true=>obtain⟨o,a,q⟩:=(x);exact⟨o,e o a,q⟩
 |false=>obtain⟨o,a,q⟩:=(x);exact⟨o,e o a,q⟩
section
variable {prog:Program}{w:World}{A:Around}{E:Vq->Shared->Prop}{s:Sq}
theorem Ii(f:s.heap.IsTupleIter it l k)(h:s.heap.IsTuple l xs)
  (g:∀x h',xs[k]? = some x->h'.IsTupleIter it l (k+1)->Heap.SameBut it s.heap h'->Q x {s with heap:=h'})
  (d:xs[k]? = none->A.handled=none/\∀h' e,Heap.ExtBut it s.heap h'->(∃o,h'.get? e=some o/\o.cls=.type "StopIteration")->E (.ref e) {s with heap:=h'}) :
  wpAny (model prog w) A (Builtin.SmallTypes.nextOf (.ref it)) Q E s:=by
 obtain⟨q,b,m,a⟩:=id f;obtain⟨p,i,_,n,dl⟩:=h;unfold Builtin.SmallTypes.nextOf;refine aq (wpAny_callSpecial?_slot f.typeIs F.slot_tuple_iterator_next (wpAny_call_entry F.slot_tuple_iterator_next f.typeIs F.entry_tuple_iterator_next ?_ (F.args_tuple_iterator_next_1 _)));show wpAny _ _ (field (.ref it) 0 >>= _) _ _ s;refine aq (wpAny_field b a rfl ?_);have ne:(Value.ref l==Value.none)=false:=rfl;simp only[ne,cm,if_false];refine aq (wpAny_field b a rfl (aq (wpAny_seqItems i dl ?_)));cases c:xs[k]? with
 |some x=>simp only[bV,c];refine aq (wpAny_setField b a (by simp) (ao ⟨x,rfl,ao (g x _ c ?_ (Heap.SameBut.update ..))⟩));refine⟨_,Heap.get?_update_self _ b (Obj.isFreed_of_fields (Obj.data_mapFields a _)),(Obj.cls_mapFields ..).trans m,?_⟩;rw[Obj.data_mapFields a];simp[rawInt]
 |none=>obtain⟨j,d⟩:=d c;simp only[bV,c];refine aq (wpAny_rule (aq (wpAny_setField b a (by simp) ?_)));show wpAny _ _ (newExc (.type "StopIteration") [] >>= _) _ _ _;simp only[newExc,newTuple];refine aq (aq (wpAny_newObj_type (aq (wpAny_of_eq (by first|rfl|(simp only[firstArgMember];rfl)) (wpAny_newObj_type ?_ (by size_fits)))) (by size_fits)));simp only[raiseNew];refine aq (wpAny_handled ?_);rw[show A.in1.handled=none from j];refine aq (ao (wpAny_throw ?_));exact d _ _ (((Heap.SameBut.update ..).extBut.push _).push _) ⟨_,au _ rfl,rfl⟩
theorem ua(j:kP b s.heap it l k)(i:jh b s.heap l xs)
  (h:∀x h',xs[k]? = some x->kP b h' it l (k+1)->Heap.SameBut it s.heap h'->Q x {s with heap:=h'})
  (f:xs[k]? = none->A.handled=none/\∀h' e,Heap.ExtBut it s.heap h'->(∃o,h'.get? e=some o/\o.cls=.type "StopIteration")->E (.ref e) {s with heap:=h'}) :
  wpAny (model prog w) A (Builtin.SmallTypes.nextOf (.ref it)) Q E s:=by
 cases b with
 |true=>exact Ii j i h f
 |false=>
  have c:=j;have d:=i;cases g:xs[k]? with
  |some x=>exact wpAny_nextOf_list_item c d g λh' a b=>h x h' g a b
  |none=>obtain⟨m,f⟩:=f g;exact wpAny_nextOf_list_end m c d g f
def Eg{z TI TO B I X R:Addr}{Q:Vq->Shared->Prop}(D:ZipApart z TI TO B I X R)
  (L:IsZip s.heap z TI TO .none) (Z:IsPair s.heap TI (.ref B) (.ref I)) (hTO:IsPair s.heap TO a b)
  (h1:kP b1 s.heap B X k) (h2:kP b2 s.heap I R k) (hl1:jh b1 s.heap X xs) (hl2:jh b2 s.heap R ys)
  (yes:∀x y h',xs[k]? = some x->ys[k]? = some y->IsZip h' z TI TO (rawInt s.heap.objs.size)->IsPair h' TO x y->kP b1 h' B X (k+1)->kP b2 h' I R (k+1)->IsPair h' s.heap.objs.size x y->h'.objs.size=s.heap.objs.size+1->
   (∀c o,c≠z->c≠TO->c≠B->c≠I->s.heap.get? c=some o->h'.get? c=some o)->Q (.ref s.heap.objs.size) {s with heap:=h'})
  (S:xs[k]? = none\/ys[k]? = none->A.handled=none/\∀h' e,(∀c o,c≠z->c≠TO->c≠B->c≠I->s.heap.get? c=some o->h'.get? c=some o)->(∃o,h'.get? e=some o/\o.cls=.type "StopIteration")->E (.ref e) {s with heap:=h'}) :
  wpAny (model prog w) A (Builtin.«zip.__next__» ⟨[.ref z],[]⟩) (λfin s'=>∃v,fin=.done (.ret v)/\Q v s') E s:=by
 have m:∀{h:Heap} {e:Addr} {H:Obj} {f:Vq},IsZip h z TI TO f->h.get? e=some H->H.cls=.type "StopIteration" ->e≠z:=λ{h e H f} q ge ce u=>by subst u;rw[q]at ge;cases ge;simp at ce
 show wpAny _ _ (field (.ref z) 2 >>= λ_=>_) _ _ _;refine aq (wpAny_field L rfl rfl ?_);refine aq (wpAny_field L rfl rfl (aq (wpAny_seqItems Z rfl ?_)));unfold Builtin.SmallTypes.ownedTupleIsFree;refine aq (aq (wpAny_field L rfl rfl (ao ?_)));simp only[if_true];refine aq (wpAny_rule (aq (wpAny_field L rfl rfl (aq (wpAny_setField_rec L (by simp) λg1 y1 K=>?_)))));have z1:=y1;simp only[List.zipIdx_cons,List.zipIdx_nil,List.forIn_cons,List.forIn_nil];refine aq (aq (aq (wpAny_onRaise ?_)));refine aq (ua (h1.to λo e=>K.extBut _ _ D.i1z e) (hl1.to λo e=>K.extBut _ _ D.l1z e) (λx g2 P t2 F=>ao ?_) (λP=>⟨(S (.inl P)).1,λg2 e F ⟨H,ge,ce⟩=>?_⟩))
 .have p2:=F.extBut _ _ D.TOi1 (K.extBut _ _ D.TOz hTO);refine aq (wpAny_seqItems p2 rfl (aq (wpAny_updateSeq_pair p2 λY q3 C=>?_)));have p3:=q3;refine aq (wpAny_letGo (ao (aq (aq (wpAny_onRaise ?_)))));have l:∀c o,c≠z->c≠B->c≠TO->s.heap.get? c=some o->Y.get? c=some o:=λc o d g j e=>C.extBut _ _ j (F.extBut _ _ g (K.extBut _ _ d e));refine aq (ua (h2.to λo e=>l _ o D.i2z D.i12.symm D.TOi2.symm e) (hl2.to λo e=>l _ o D.l2z D.l2i1 D.l2TO e) (λy g4 N t4 r=>ao ?_) (λN=>⟨(S (.inr N)).1,λg4 e r ⟨H,ge,ce⟩=>?_⟩))
  .have p4:=r.extBut _ _ D.TOi2 p3;refine aq (wpAny_seqItems p4 rfl (aq (wpAny_updateSeq_pair p4 λp q5 n=>?_)));have p5:IsPair p TO x y:=q5;refine aq (wpAny_letGo (ao (ao (aq (wpAny_seqItems p5 rfl (aq (wpAny_newTuple ?_)))))));have sz:p.objs.size=s.heap.objs.size:=by rw[n.1,r.1,C.1,F.1,K.1]
   have z5:=n.extBut _ _ D.TOz.symm (r.extBut _ _ D.i2z.symm (C.extBut _ _ D.TOz.symm (F.extBut _ _ D.i1z.symm z1)));have to5:∀c o,c≠z->c≠TO->c≠B->c≠I->s.heap.get? c=some o->p.get? c=some o:=λc o d g j J e=>n.extBut _ _ g (r.extBut _ _ J (l c o d j g e));unfold Builtin.SmallTypes.ownedTupleHandOut;refine aq (aq (wpAny_setField_rec (af _ z5) (by simp) λg7 y7 k7=>?_));have z7:=y7;refine wpAny_setField_rec z7 (by simp) λU y8 k8=>?_;have z8:=y8;have up:∀c o,c≠z->(p.push {cls:=.type "tuple",data:=.seq #[x,y]}).get? c=some o->U.get? c=some o:=λc o d e=>k8.extBut _ _ d (k7.extBut _ _ d e);have i:∀c o,c≠z->p.get? c=some o->U.get? c=some o:=λc o d e=>up c o d (af _ e);have p8:=up _ _ (bC (aM z5)) (au _ rfl);have s8:U.objs.size=p.objs.size+1:=by rw[k8.1,k7.1,Heap.size_push]
   rw[sz]at z8 p8 s8;refine ao ⟨_,rfl,?_⟩;rw[sz];have e1:=t2.to λo e=>i _ o D.i1z (n.extBut _ _ D.TOi1.symm (r.extBut _ _ D.i12 (C.extBut _ _ D.TOi1.symm e)));have e2:=t4.to λo e=>i _ o D.i2z (n.extBut _ _ D.TOi2.symm e);exact yes x y U P N z8 (i _ _ D.TOz p5) e1 e2 p8 s8 λc o d g j J e=>i c o d (to5 c o d g j J e)
  .have z4:=r _ _ D.i2z.symm (C.extBut _ _ D.TOz.symm (F.extBut _ _ D.i1z.symm z1));refine wpAny_setField_rec z4 (by simp) λp _ n=>(S (.inr N)).2 p e (λc o d g j J q=>n.extBut _ _ d (r _ _ J (l c o d j g q))) ⟨H,n.extBut _ _ (m z4 ge ce) ge,ce⟩
 .have z2:=F _ _ D.i1z.symm z1;refine wpAny_setField_rec z2 (by simp) λY _ C=>(S (.inl P)).2 Y e (λc o d g j J q=>C.extBut _ _ d (F _ _ j (K.extBut _ _ d q))) ⟨H,C.extBut _ _ (m z2 ge ce) ge,ce⟩
def zr{z TI TO f d g h:Addr}(D:ZipApart z TI TO f d g h)
  (r:IsZip s.heap z TI TO .none) (l:IsPair s.heap TI (.ref f) (.ref d)) (m:IsPair s.heap TO a b)
  (u:kP b1 s.heap f g k) (B:kP b2 s.heap d h k) (i:jh b1 s.heap g xs) (n:jh b2 s.heap h ys)
  (j:∀x y h',xs[k]? = some x->ys[k]? = some y->IsZip h' z TI TO (rawInt s.heap.objs.size)->IsPair h' TO x y->kP b1 h' f g (k+1)->kP b2 h' d h (k+1)->IsPair h' s.heap.objs.size x y->h'.objs.size=s.heap.objs.size+1->
   (∀c o,c≠z->c≠TO->c≠f->c≠d->s.heap.get? c=some o->h'.get? c=some o)->Q (some (.ref s.heap.objs.size)) {s with heap:=h'})
  (p:xs[k]? = none\/ys[k]? = none->A.handled=none/\∀h',(∀c o,c≠z->c≠TO->c≠f->c≠d->s.heap.get? c=some o->h'.get? c=some o)->Q none {s with heap:=h'}) :
  wpAny (model prog w) A (pyNext (.ref z)) Q E s:=by
 have ty:s.TypeIs (.ref z) "zip" :=⟨_,r,rfl⟩;unfold pyNext;refine aq (wpAny_attempt (wpAny_callSpecial?_slot ty F.slot_zip_next (wpAny_call_entry F.slot_zip_next ty F.entry_zip_next
  (Eg D r l m u B i n (λx y h' L C v H J N P K I=>ao (j x y h' L C v H J N P K I)) λq=>⟨(p q).1,λh' e hk ⟨o,ho,hc⟩=>?_⟩) (F.args_zip_next_1 _))))
 exact aq (wpAny_isInstance ⟨o,ho,hc⟩ isSubtype_stop (ao ((p q).2 h' hk)))
theorem mD(a:jh b s.heap l xs)
  (h:Q (.ref s.heap.objs.size) {s with heap:=s.heap.push {cls:=.type (um b),data:=.fields #[.ref l,.int 0 0]}}):wpAny (model prog w) A (pyIter (.ref l)) Q E s:=by
 cases b with
 |true=>exact wpAny_pyIter_tuple (a) h
 |false=>exact wpAny_pyIter_list (a) h
end
noncomputable abbrev zo(b:Bool)(l:Addr):Obj:={cls:=.type (um b),data:=.fields #[.ref l,.int 0 0]}
abbrev zt(x y:Vq):Obj:={cls:=.type "tuple",data:=.seq #[x,y]}
abbrev zz(p q:Addr):Obj:={cls:=.type "zip",data:=.fields #[.none,.bool false,.bool false,.ref p,.ref q]}
noncomputable abbrev xh(b1 b2:Bool)(h:Heap)(l1 l2:Addr):Heap:=
 ((((h.push (zo b1 l1)).push (zo b2 l2)).push (zt (.ref h.objs.size) (.ref (h.push (zo b1 l1)).objs.size))).push (zt .none .none)).push
  (zz ((h.push (zo b1 l1)).push (zo b2 l2)).objs.size (((h.push (zo b1 l1)).push (zo b2 l2)).push (zt (.ref h.objs.size) (.ref (h.push (zo b1 l1)).objs.size))).objs.size)
section
variable {prog:Program}{w:World}{A:Around}{E:Vq->Shared->Prop}{s:Sq}
def DW b1 b2 l1 l2 xs ys:Meets (Builtin.«zip.__new__» ⟨[.type "zip",.ref l1,.ref l2],[]⟩) (λ_ R s=>jh b1 s.heap l1 xs/\jh b2 s.heap l2 ys/\
  R (.ok (.ret (.ref ((((s.heap.push (zo b1 l1)).push (zo b2 l2)).push (zt (.ref s.heap.objs.size) (.ref (s.heap.push (zo b1 l1)).objs.size))).push (zt .none .none)).objs.size))) {s with heap:=xh b1 b2 s.heap l1 l2}):=by
 refine .of_wp λprog w A R s h=>?_;obtain⟨a,g,d,i,c⟩:=s;obtain⟨f,j,hR⟩:=h;have sz:=sub_zip;have b:=f;have k:jh b2 (Shared.heap ⟨a.push (zo b1 l1),g,d,i,c⟩) l2 ys:=j.to λo e=>af _ e;wp_walk using mD b,mD k;exact⟨_,rfl,hR⟩
def EO(f:jh b1 s.heap l1 xs)(j:jh b2 s.heap l2 ys)
  (h:∀h',IsZip h' (s.heap.objs.size+4) (s.heap.objs.size+2) (s.heap.objs.size+3) .none->IsPair h' (s.heap.objs.size+2) (.ref s.heap.objs.size) (.ref (s.heap.objs.size+1))->IsPair h' (s.heap.objs.size+3) .none .none->
   kP b1 h' s.heap.objs.size l1 0->kP b2 h' (s.heap.objs.size+1) l2 0->h'.objs.size=s.heap.objs.size+5->(∀c o,s.heap.get? c=some o->h'.get? c=some o)->Q (.ref (s.heap.objs.size+4)) {s with heap:=h'}) :
  wpAny (model prog w) A (call (.type "zip") [.ref l1,.ref l2]) Q E s:=by
 refine callType_new F.called_zip (by decide) (F.typeCall_zip_2 _ _) (F.newCall_zip_2 _ _) (λd=>F.args_object_init_3 d _ _) F.entry_zip_new (DW b1 b2 l1 l2 xs ys) ⟨f,j,?_⟩;generalize g:s.heap.objs.size=n at *;have b:(s.heap.push (zo b1 l1)).objs.size=n+1:=by rw[Heap.size_push,g]
 have l:((s.heap.push (zo b1 l1)).push (zo b2 l2)).objs.size=n+2:=by rw[Heap.size_push,b]
 generalize a:(s.heap.push (zo b1 l1)).push (zo b2 l2)=g2 at *;have p:∀c o,s.heap.get? c=some o->g2.get? c=some o:=λc o e=>by rw[<-a];exact af _ (af _ e)
 have r:g2.get? n=some (zo b1 l1):=by rw[<-a,<-g];exact af _ (au _ rfl)
 have u:g2.get? (n+1)=some (zo b2 l2):=by rw[<-a,<-b];exact au _ rfl
 have k:(g2.push (zt (.ref n) (.ref (n+1)))).objs.size=n+3:=by rw[Heap.size_push,l]
 have i:((g2.push (zt (.ref n) (.ref (n+1)))).push (zt .none .none)).objs.size=n+4:=by rw[Heap.size_push,k]
 have q:xh b1 b2 s.heap l1 l2=((g2.push (zt (.ref n) (.ref (n+1)))).push (zt .none .none)).push (zz (n+2) (n+3)):=by unfold xh;rw[g,b,a,l,k]
 rw[q,b,i];have x:(g2.push (zt (.ref n) (.ref (n+1)))).get? (n+2)=some (zt (.ref n) (.ref (n+1))):=by rw[<-l];exact au _ rfl
 have v:((g2.push (zt (.ref n) (.ref (n+1)))).push (zt .none .none)).get? (n+3)=some (zt .none .none):=by rw[<-k];exact au _ rfl
 have m:(((g2.push (zt (.ref n) (.ref (n+1)))).push (zt .none .none)).push (zz (n+2) (n+3))).get? (n+4)=some (zz (n+2) (n+3)):=by rw[<-i];exact au _ rfl
 have up:∀c o,g2.get? c=some o->(((g2.push (zt (.ref n) (.ref (n+1)))).push (zt .none .none)).push (zz (n+2) (n+3))).get? c=some o:=λc o e=>af _ (af _ (af _ e));exact⟨⟨_,m,rfl⟩,h _ m (af _ (af _ x)) (af _ v) (.of ⟨_,up _ _ r,rfl,rfl⟩) (.of ⟨_,up _ _ u,rfl,rfl⟩) (by rw[Heap.size_push,i]) λc o e=>up c o (p c o e)⟩
end
end L2
namespace L2
open PySem PySem.Spec PyProof.Rows
def gP.turnedL{ch:List Addr}(I:gP X gx σ H s)(k:∀b o,b∉ch->s.heap.get? b=some o->h'.get? b=some o)(f:∀b∈ch,qO X gx H b) :
  gP X gx σ H {s with heap:=h',toks:=t'}:=by
 have d:∀b u,H b=some u->b∉ch:=λb u e z=>by rw[(f b z).1]at e;cases e
 refine I.step (λb i=>let ⟨_,f1,_,f3,f4,f5⟩:=f b i;⟨f3,f1,f4,f5⟩) (λb o _ _ a e _=>k b o a e) (λb o _ _ a e _=>⟨o.slots,k b o a e⟩) (λ_ _ _ _ n=>n)
  (λb o a e=>⟨o,k b o a e⟩) (λ_ _ e=>e) (λ_ _ _ e=>e) (λb _ p e=>⟨#[],by rw[e];simp⟩) (λm l=>?_) (λb u e=>?_) I.bare
 .obtain⟨o,g,h,j,r⟩:=l;exact⟨o,g,h,k _ o (λz=>(f _ z).2.1 rfl) j,r⟩
 .refine (I.hok b u e).stay (λc v a q=>k c v ?_ q) (λ_ q=>q) λ_ _ q=>q;rcases a with z|z
  .rw[z];exact d b u e
  .exact d c _ z
def uS(K:W.Frag)(H:Hp)(b:Bool)(a:Addr)(c:List V):Prop:=if b=true then lz K H a c else ka K H a c
def gP.seqB(I:gP X gx σ H s)(h:uS X.K H b a xs):∃gG:List Vq,g9 xs gG/\jh b s.heap a gG.toArray/\xs.length<=sizeLine:=by
 cases b with
 |true=>obtain⟨gG,r,p,z⟩:=I.tuple (h);exact⟨gG,r,p,z⟩
 |false=>obtain⟨gG,r,p,z⟩:=I.list (h);exact⟨gG,r,p.isList,z⟩
def gP.seqB_inj(I:gP X gx σ H s)(h:uS X.K H b a xs)(h':uS X.K H b a ys):xs=ys:=by
 cases b with
 |true=>exact I.tuple_inj h h'
 |false=>exact I.list_inj h h'
noncomputable def Qj(K:W.Frag)(c d:Bool)(f e:Addr):It:=
  ⟨λi H=>∃b a x y,uS K H c f b/\uS K H d e a/\b[i]? = some x/\a[i]? = some y,
   λi H v g=>∃p x y,v=.ref p/\H p=none/\g=iU H p (.tup [x,y])/\(∀b,uS K H c f b->b[i]? = some x)/\∀a,uS K H d e a->a[i]? = some y,
   λi H=>∃b a,uS K H c f b/\uS K H d e a/\(b.length<=i\/a.length<=i)⟩
def EX{K:W.Frag}{x1}{z TI TO m l l1 l2:Addr}(D:ZipApart z TI TO m l l1 l2) :
  AN P w K (.Tuple elts x1 pos) (Qj K b1 b2 l1 l2) [z,TI,TO,m,l] z (λi h=>IsZip h z TI TO .none/\IsPair h TI (.ref m) (.ref l)/\(∃a b,IsPair h TO a b)/\kP b1 h m l1 i/\kP b2 h l l2 i) where
 mem:=by simp
 obj:=λi h st b g=>by
  obtain⟨n,f,⟨a,c,j⟩,p,r⟩:=st;have mem:b=z\/b=TI\/b=TO\/b=m\/b=l:=by simpa using g
  rcases mem with rfl|rfl|rfl|rfl|rfl
  .exact⟨_,n,λv q=>by cases q⟩
  .exact⟨_,f,λv q=>by cases q⟩
  .exact⟨_,j,λv q=>by cases q⟩
  .obtain⟨o,e,_,d⟩:=p.look;exact⟨o,e,λv q=>by rw[d]at q;cases q⟩
  .obtain⟨o,e,_,d⟩:=r.look;exact⟨o,e,λv q=>by rw[d]at q;cases q⟩
 keep:=λi h h' st k=>by obtain⟨n,f,⟨a,c,j⟩,p,r⟩:=st;exact⟨k z (by simp) _ n,k TI (by simp) _ f,⟨a,c,k TO (by simp) _ j⟩,p.to λo e=>k m (by simp) o e,r.to λo e=>k l (by simp) o e⟩
 item:=by
  intro X hP hw hK hc i gx s σ H E I Y st hg;subst hP hw hK;obtain⟨n,f,⟨a,c,j⟩,p,r⟩:=st;obtain⟨xs,ys,x,y,Z,q2,e1,e2⟩:=hg;obtain⟨F,r1,p1,z1⟩:=I.seqB Z;obtain⟨J,r2,p2,z2⟩:=I.seqB q2;obtain⟨u,gu,ru⟩:=r1.get e1;obtain⟨v,gv,rv⟩:=r2.get e2;have C:=I.fpOk (aL _) (I.hok.fresh (aL _));refine zr D n f j p r p1 p2 (λS U h' B A a1 a2 a3 a4 a5 a6 R=>?_) λq=>?_
  .have eu:S=u:=by
    have:F[i]? = some S:=by simpa using B
    rw[gu]at this;cases this;rfl
   have ev:U=v:=by
    have:J[i]? = some U:=by simpa using A
    rw[gv]at this;cases this;rfl
   subst eu;subst ev;refine⟨_,rfl,wpAny_letOwnedTupleGo_zip a1 λN L sb=>?_⟩;have zT:=bC (aM n);have I1:=I.turnedL (t':=s.toks) (ch:=[z,TO,m,l]) (λb o g e=>sb.extBut _ _ (λq=>g (by simp[q])) (R b o (λq=>g (by simp[q])) (λq=>g (by simp[q])) (λq=>g (by simp[q])) (λq=>g (by simp[q])) e))
    (λb g=>Y b (by
     have mem:b=z\/b=TO\/b=m\/b=l:=by simpa using g
     rcases mem with rfl|rfl|rfl|rfl<;>simp))
   have gT:=sb.extBut _ _ zT a5;have I2:gP X gx σ (iU H s.heap.objs.size (.tup [x,y])) {s with heap:=N}:=I1.track C.1 C.2.2.2.1 C.2.1 C.2.2.2.2.1 C.2.2.2.2.2
    ⟨by show 2<=sizeLine;decide,[S,U],.cons ru (.cons rv .nil),⟨_,gT,rfl,_,rfl,rfl⟩⟩
   have lt:∀{b o},s.heap.get? b=some o->iU H s.heap.objs.size (.tup [x,y]) b=H b:=λ{b o} e=>gI (aN (aM e));refine⟨.ref s.heap.objs.size,_,I2,rfl,⟨_,x,y,rfl,C.1,rfl,λxs' h=>by rw[I.seqB_inj h Z];exact e1,λys' h=>by rw[I.seqB_inj h q2];exact e2⟩,?_,λb g=>?_⟩
   .have k2:∀c o,c≠z->h'.get? c=some o->N.get? c=some o:=λc o c1 e=>sb.extBut _ _ c1 e;exact⟨L,k2 _ _ D.TIz (R _ _ D.TIz D.TITO D.TIi1 D.TIi2 f),⟨_,_,k2 _ _ D.TOz a2⟩,a3.to λo e=>k2 _ o D.i1z e,a4.to λo e=>k2 _ o D.i2z e⟩
   .have mem:b=z\/b=TI\/b=TO\/b=m\/b=l:=by simpa using g
    have Q:=(Y b g).1;obtain⟨o1,g1,_⟩:=p.look;obtain⟨o2,g2,_⟩:=r.look;rcases mem with rfl|rfl|rfl|rfl|rfl
    .rw[lt n];exact Q
    .rw[lt f];exact Q
    .rw[lt j];exact Q
    .rw[lt g1];exact Q
    .rw[lt g2];exact Q
  .exfalso;have m1:F.toArray[i]? = some u:=by simpa using gu
   have m2:J.toArray[i]? = some v:=by simpa using gv
   rcases q with q|q
   .rw[m1]at q;cases q
   .rw[m2]at q;cases q
 done:=by
  intro X hP hw hK hc i gx s σ H E I Y st hg;subst hP hw hK;obtain⟨n,f,⟨a,c,j⟩,p,r⟩:=st;obtain⟨xs,ys,Z,q2,hl⟩:=hg;obtain⟨F,r1,p1,z1⟩:=I.seqB Z;obtain⟨J,r2,p2,z2⟩:=I.seqB q2;have n1:=r1.length;have n2:=r2.length;have fpc:∀b∈[z,TO,m,l],qO X gx H b:=λb g=>Y b (by
   have mem:b=z\/b=TO\/b=m\/b=l:=by simpa using g
   rcases mem with rfl|rfl|rfl|rfl<;>simp)
  refine zr D n f j p r p1 p2 (λS U h' B A a1 a2 a3 a4 a5 a6 R=>?_) λq=>⟨I.ok.hd hc,λh' R=>⟨rfl,I.turnedL (λb o g e=>R b o (λq=>g (by simp[q])) (λq=>g (by simp[q])) (λq=>g (by simp[q])) (λq=>g (by simp[q])) e) fpc⟩⟩;exfalso;have m1:i<F.length:=by
   have:F[i]? = some S:=by simpa using B
   exact (ae.mp this).1
  have m2:i<J.length:=by
   have:J[i]? = some U:=by simpa using A
   exact (ae.mp this).1
  omega
 self:=λ_ _ _ _ _ st h=>wpAny_pyIter_zip st.1 h
def MM:bootBuiltins "zip" = some (.type "zip"):=by decide +kernel
section
variable {X:Cx}
def LS(K:W.Frag)(d e:Bool)(h:TA):TI:=λg H R=>h g H λf a=>∃c b,f=[.ref c,.ref b]/\(∃j,uS K a d c j)/\(∃i,uS K a e b i)/\R (Qj K d e c b) a
def MZ{x1}(L:Gl X "zip")(N:X.mg "zip" = none)(z:PA X [a,b] ta)(hs:starEach [a,b] X.env=[(false,eval a X.env),(false,eval b X.env)]:=by rfl)
  (c:starEach [b] X.env=[(false,eval b X.env)]:=by rfl):PI X (.Tuple elts x1 tpos) (.Call (.Name "zip" p) [a,b] [] pos) (LS X.K b1 b2 ta):=by
 intro A s B H R I h;refine Call_ (mx I L N MM (PyProof.Rows.callWith_type1 (jB (z pos A s B H _ I h) λy s1 ⟨vs,H1,I1,r1,d⟩=>?_) (by rw[hs,c]) (by rw[c];rfl)));obtain⟨x,P,rfl,⟨xs,d⟩,⟨Z,Q⟩,q⟩:=d;obtain⟨u1,U,rfl,E,w⟩:=B4 r1;cases E;cases w;obtain⟨y,S,r,_⟩:=I1.seqB d;obtain⟨ws,u,l,_⟩:=I1.seqB Q;have i:x<s1.heap.objs.size:=by obtain⟨o,n,e,_⟩:=r.look;exact aM e
 have j:P<s1.heap.objs.size:=by obtain⟨o,n,e,_⟩:=l.look;exact aM e
 refine EO r l λY m f g J C v F=>?_;refine wpAny_pyIter_zip m ?_;refine⟨_,_,_,_,H1,rfl,I1.kept F,EX (zipApart_new i j),⟨m,f,⟨_,_,g⟩,J,C⟩,λb D=>?_,q⟩;have mem:b=s1.heap.objs.size+4\/b=s1.heap.objs.size+2\/b=s1.heap.objs.size+3\/b=s1.heap.objs.size\/b=s1.heap.objs.size+1:=by simpa using D
 have k:s1.heap.objs.size<=b:=by rcases mem with rfl|rfl|rfl|rfl|rfl<;>omega
 exact I1.fpOk k (I1.hok.fresh k)
end
end L2
namespace L2
open PySem PySem.Spec PyProof.Rows
def qQ(h:H p=none):gX H (iU H p o):=λb u e=>by rw[gI (hU e h)];exact .of e
def gX.seqT{K:W.Frag}(e:gX H H')(h:lz K H a xs):lz K H' a xs:=by
 rcases h with (h|⟨o,h⟩)|h
 .exact .inl (.inl (e _ _ h))
 .exact .inl (.inr ⟨o,e _ _ h⟩)
 .exact .inr h
noncomputable def xw(d:List Str)(b a:Scope)(N:List Str)(c:List (Option Nat)):Bool:=
 a.kind==.function&&a.names.all (λy=>!(y.2==NameKind.cell)||a.names.lookup y.1==some .cell)&&a.names.all (λy=>!(y.2==NameKind.local)||a.names.lookup y.1==some .local) &&
 a.names.all (λy=>!(y.2==NameKind.free)||b.names.lookup y.1==some .cell)&&N.length==c.length &&
 (List.range N.length).all (λi=>match c[i]?,N[i]? with
  |some (some j),some x=>d[j]? == some x&&a.names.lookup x==some .free&&b.names.lookup x==some .cell
  |_,_=>true)
def OL(s:∀x,X.env.scope.names.lookup x=some .cell->∃c,X.env.cells.lookup x=some c)(h:xw X.N X.env.scope scope N ix=true):yJ X scope N ix:=by
 unfold xw at h;simp only[bZ]at h;obtain⟨⟨⟨⟨⟨k,m⟩,o⟩,r⟩,p⟩,n⟩:=h;refine⟨by simpa using k,λy d e=>?_,λy d e=>?_,λy d e=>?_,by simpa using p,λi j x g l=>?_⟩
 .have:=cG.mp m y d;rw[e]at this;simpa using this
 .have:=cG.mp o y d;rw[e]at this;simpa using this
 .have:=cG.mp r y d;rw[e]at this;exact s _ (by simpa using this)
 .have q:=(ae.mp g).1;have:=cG.mp n i (aT.mpr q);rw[g,l]at this;simp only[bZ,beq_iff_eq]at this;obtain⟨⟨a,b⟩,c⟩:=this;exact⟨a,b,.inr (.inl c),λz=>by have f:X.env.scope.names.lookup x=some .local:=z;rw[c]at f;cases f⟩
def G5(L:yJ X scope N ix):∀x,(lA X N scope C s₃ H ex pn).env.scope.names.lookup x=some .cell->∃c,(lA X N scope C s₃ H ex pn).env.cells.lookup x=some c:=λx b=>by
 refine bS.mp (W.cellsFrom_some _ _ _ ?_);rcases p7 (.inl b) with a|a
 .exact .inr (bS.mpr (mL a (L.fre _ a rfl)))
 .exact .inl a
def tH{K:W.Frag}(p:ix[k]? = some none)(b:ix[l]? = some none):mS ix (Dd K 2 (ud (jV k) (ud (jV l) Dy))):=by
 rintro x d H Q ⟨a,w,n,u,m,v,r,c,o,y,f,h,q⟩;refine⟨a,w,n,u,m,v,r,c,o,y,f,h,λi j e=>?_,q⟩;have g:k≠i:=by rintro rfl;rw[p]at e;cases e
 have s:l≠i:=by rintro rfl;rw[b]at e;cases e
 rw[ar s,ar g]
end L2
namespace L2
open PySem PySem.Spec PyProof.Rows
structure kG(K:W.Frag)(C:Addr)(m qual:Str)(st:Stmt):Prop where
 ex:∃f fd,HR K m qual st f fd/\Js K C m f
structure lu(P:Program)(w:World)(K:W.Frag)(mg:Str->Option Value)(base:Heap)(C:Addr)(m:Str)(k:Nat)(sp:Sp):Prop where
 cl:vU K C
 ex:∃f fd ps,lU P w K mg base uR k f fd ps sp/\Js K C m f/\nO K fd ps []
def BH{K:W.Frag}{st:Stmt}(g:vU K C)(D:kG K C m qual st)(S:i8 N ps (gD st))
  (i:∀(kV d pm:Vq) (j:Option Addr) (a l:Vq) (us:List Vq),us.length=ps.length->bindArgs (W.fnOf m qual (jo st) (ib st) (gD st) .none kV d pm j a l) ⟨us,[]⟩=pure (ps.zip us))
  (len:∀vs H Q E,sp vs H Q E->vs.length=ps.length)
  (c:∀f a A b s H vs Q E,iP k (A.deeper (envOfC qual (gD st) s.heap.objs.size f a))->sp vs H Q E->
   ∃t,zb (nC uR P w K mg base N qual (gD st) f a A b s H E).nox (ib st) t/\t {nx:=λ_ h=>Q .non h,rt:=Q} (ll N vs) H):lu P w K mg base C m (k+1) sp:=by
 obtain⟨f,e,F,m⟩:=D.ex;exact⟨g,f,e,ps,F.ok S len (c f),m,F.binds i⟩
structure DS(P:Program)(w:World)(K:W.Frag)(mg:Str->Option Value)(base:Heap)(x:Str)(C:Addr)(k:Nat)(sp:Sp):Prop where
 ex:∃f fd ps,lU P w K mg base uR k f fd ps sp/\Mk K C f/\nO K fd ps []
 mgx:mg x=some (.ref C)
section
variable {X:Cx}{x m:Str}{C:Addr}{k:Nat}{sp:Sp}{e o:Expr}{es:List Expr}{t:TA}{ta:TE}{p pos apos:Pos}
def OF(h:DS X.prog X.w X.K X.mg X.base x C k sp)(hr:iP (k+1) X.A)(j:PA X (e::es) t)(g:Gl X x:=by rfl)
  (c:(x==("__debug__" : Str))=false:=by decide) (i:starEach (e::es) X.env=(false,eval e X.env)::starEach es X.env:=by rfl) (d:(backTo pos (starEach es X.env)).any (·.1)=false:=by rfl) :
  PE X (.Call (.Name x p) (e::es) [] pos) (B7 C sp [] E0 t):=by
 obtain⟨f,l,n,F,a,b⟩:=h.ex;exact Jy a F hr g h.mgx b .nil Hg j c i d
def E1(h:lu X.prog X.w X.K X.mg X.base C m k sp)(hr:iP k X.A)(d:PE X o ta)
  (c:eval (.Call (.Attribute o m apos) [] [] pos) X.env=(do
   let ov <-eval o X.env
   standAt apos.atName
   let (f,first) <-holding [ov] (getMethod ov m pl)
   callWith pos f first (backTo pos (starEach [] X.env)) (backToKw pos (keywordEach [] X.env))):=by rfl) :
  PE X (.Call (.Attribute o m apos) [] [] pos) (wF C m sp [] E0 ta tZ):=by
 obtain⟨f,g,i,F,a,b⟩:=h.ex;exact Hq d h.cl a F hr b .nil Hg c
end
end L2
namespace L2
open PySem PySem.Spec PyProof.Rows
def F7(hN:X.N.Nodup)(F:X.N[i]? = some y)(P:Ea X.env.scope y)
  (hc:X.calm=true) (hi:PI X tg iter wi) (L:yJ X scope N ix) (p:mS ix g)
  (r:∀C c H A k,PG (lA X N scope C c H A k) tg g/\Dw (lA X N scope C c H A k) ifs tt/\PE (lA X N scope C c H A k) elt te)
  (hf:X.fn y=true\/X.env.scope.names.lookup y=some .local:=by first|exact .inl rfl|exact .inr rfl)
  (l:swapsWith (.ListComp elt [⟨tg,iter,ifs,0⟩] scope pos) (some (.Name y py)) spos.line X.env=pure true:=by rfl)
  (hs:∀x,foldedSetIterable iter X.env x=pure x:=by intro _;rfl):PS X (.Assign [.Name y py] (.ListComp elt [⟨tg,iter,ifs,0⟩] scope pos) spos) (mT (GK ix wi g tt te) (jV i)):=by
 intro gx s B H D I h;rw[exec_Assign_Name_used _ _ _ _ l];refine aq (wpAny_standAt (aq ?_));rw[arm_evalThenUse_ListComp];refine aq (jB (wpAny_comprehension_free rfl hs (oF L.fre) L.kind L.names (jB (hi gx s B H _ I h) λv s1 E=>jB E λitv s2 K=>?_)) λ_ Z q=>ao (ao q));obtain⟨it,fp,tn,J,H2,e,I2,T,j,S,W,⟨m0,w0⟩,d⟩:=K;subst e;refine BQ (Q:=λx H1=>jV i x B H1 D.nx) hc L p r I2 T j S w0 d λE0 C m H' Z hn f R q=>?_;refine wpAny_assign_Name (vD (v:=.ref E0) R hN F P rfl (λs3 U u=>?_) hf);obtain⟨a,sb,Y⟩:=u;have ne:C≠a:=by
  rcases Y with z|z
  .rw[z];exact f.2.1
  .exact λw=>f.2.2.2.2.1 y a z w.symm
 exact⟨m,hn.sameBut sb ne,λh' n=>⟨_,H',U.turned (λb o hb e=>n.extBut b o hb e) f.1 f.2.1 f.2.2.2.1 f.2.2.2.2.1 f.2.2.2.2.2,q⟩⟩
end L2
namespace L2
open PySem PySem.Spec PyProof.Rows
section
variable {κ:Type}[DecidableEq κ]
noncomputable def oM(kvs:List (κ×V))(k:κ):Option V:=(kvs.find? λa=>decide (a.1=k)).map (·.2)
noncomputable def rC(kvs:List (κ×V))(k:κ)(v:V):List (κ×V):=if (kvs.any λa=>decide (a.1=k))=true then kvs.map (λa=>if a.1=k then (a.1,v) else a) else kvs++[(k,v)]
def t9{k:κ}(e:p.1=k):oM (p::r) k=some p.2:=by simp[oM,List.find?_cons,e]
def t8{k:κ}(e:¬p.1=k):oM (p::r) k=oM r k:=by simp[oM,List.find?_cons,e]
theorem yU k:∀kvs:List (κ×V),(kvs.any λa=>decide (a.1=k))=(oM kvs k).isSome
 |[]=>rfl
 |p::r=>by
  rw[cD];by_cases e:p.1=k
  .simp only[t9 e,aD e,Bool.true_or,cw]
  .rw[t8 e,aC e,Bool.false_or];exact yU k r
def rZ kvs (k:κ) v:(rC kvs k v).length<=kvs.length+1:=by
 unfold rC;split
 .rw[ax];omega
 .rw[aU,aA,cH];omega
def oV.isSome_eq(r:oV o u):o.isSome=u.isSome:=by
 cases o with
 |none=>cases u with
  |none=>rfl
  |some _=>exact (show False from r).elim
 |some _=>cases u with
  |none=>exact (show False from r).elim
  |some _=>rfl
def KV.val(r:KV kvs vs)(k:κ):oV (oM kvs k) (valueAt vs k):=by
 unfold KV at r;induction r with
 |nil=>exact True.intro
 |@cons p q ps qs h t ih=>
  obtain⟨c,d⟩:=h;by_cases e:p.1=k
  .have a:q.1=k:=c.symm.trans e;have b:valueAt (q::qs) k=some q.2:=by simp[valueAt,List.find?_cons,a]
   rw[t9 e,b];exact d
  .have a:¬q.1=k:=λz=>e (c.trans z);have b:valueAt (q::qs) k=valueAt qs k:=by simp[valueAt,List.find?_cons,a]
   rw[t8 e,b];exact ih
end
def E3(r:iE (kV k) u):(kz P w).is k u=true:=by
 cases k with
 |inl i=>obtain⟨t,e⟩:=(show ∃t,u=Value.int i t from r);subst e;exact zd P w i t
 |inr x=>obtain⟨t,e⟩:=(show ∃t,u=Value.str x t from r);subst e;exact zi P w x t
theorem vB:∀{ks} {us},g9 (ks.map kV) us->ItemsAre (kz P w) ks us
 |[],_,r=>by rw[cg]at r;cases r;exact .nil
 |k::ks,_,r=>by
  rw[bK]at r;cases r with
  |cons h t=>exact .cons (E3 h) (vB t)
abbrev KT(H:Hp):List (List m6×V)->List (List m6×Addr×Value)->Prop:=Paired λp q=>p.1=q.1/\H q.2.1=some (.tup (p.1.map kV))/\iE p.2 q.2.2
def KT.val(r:KT H kvs xs) k:oV (oM kvs k) ((atKey xs k).map (·.2)):=by
 induction r with
 |nil=>exact True.intro
 |@cons p q ps qs h t ih=>
  obtain⟨c,_,d⟩:=h;by_cases e:p.1=k
  .have a:q.1=k:=c.symm.trans e;have b:atKey (q::qs) k=some q.2:=by simp[atKey,List.find?_cons,a]
   rw[t9 e,b];exact d
  .have a:¬q.1=k:=λz=>e (c.trans z);have b:atKey (q::qs) k=atKey qs k:=by simp[atKey,List.find?_cons,a]
   rw[t8 e,b];exact ih
theorem KT.repl(r:KT H kvs xs) k (d:iE y u) :
  KT H (kvs.map λb=>if b.1=k then (b.1,y) else b) (xs.map (putAt k u)):=by
 induction r with
 |nil=>exact .nil
 |@cons p q ps qs h t ih=>
  rw[bK,bK];refine .cons ?_ ih;obtain⟨a,c,f⟩:=h;unfold putAt;by_cases e:p.1=k
  .rw[aR e,aR (a.symm.trans e)];exact⟨a,c,d⟩
  .rw[aS e,aS (λz=>e (a.trans z))];exact⟨a,c,f⟩
def KT.put(r:KT H kvs xs) k (d:H b=some (.tup (k.map kV))) (a:iE y u) :
  KT H (rC kvs k y) (storedH xs k b u):=by
 have e:(kvs.any λc=>decide (c.1=k))=(atKey xs k).isSome:=by rw[yU,(r.val k).isSome_eq,cI]
 unfold rC storedH;rw[e];by_cases q:(atKey xs k).isSome=true
 .rw[aR q,aR q];exact r.repl k a
 .rw[aS q,aS q];exact Paired.snoc r ⟨rfl,d,a⟩
def KT.keeps(r:KT H kvs xs)(c:∀b a,H b=some (.tup a)->H' b=some (.tup a)):KT H' kvs xs:=Paired.mapP r λ_ _ z=>⟨z.1,c _ _ z.2.1,z.2.2⟩
section
variable {P:Program}{w:World}{H:Hp}{h:Heap}{a:Addr}
def KD(ok:oo P w H h)(e:Rd H a u):jz P w H h a u:=e.ok ok
def FB(ok:oo P w H h)(e:Rd H a (.dK kvs)):kvs.length<=sizeLine/\(a==sysModules)=false/\∃vs,KV kvs vs/\h.DictOf (kz P w) a vs:=show jz P w H h a (.dK kvs) from KD ok e
def w6(ok:oo P w H h)(e:H a=some (.tup (ks.map kV))):(tupleKind (kz P w)).is h ks a:=by obtain⟨_,gG,r,o,b,c,n,d,_⟩:=(show jz P w H h a (.tup (ks.map kV)) from ok a _ e);exact⟨o,gG.toArray,n,b,c,d,by simpa using vB r⟩
theorem BN(ok:oo P w H h)(e:Rd H a (.dT kvs)):kvs.length<=sizeLine/\(a==sysModules)=false/\
  ∃c,KT H kvs c/\h.DictOfH (tupleKind (kz P w)) a c:=by
 obtain⟨z,y,c,r,o,g,i,d,f,j,n,k⟩:=(show jz P w H h a (.dT kvs) from KD ok e);refine⟨z,y,c,r,o,g,i,d,f,j,n,λx b=>?_,k⟩;have all:∀{l:List (List m6×V)} {m:List (List m6×Addr×Value)},KT H l m->∀x∈m,(tupleKind (kz P w)).is h x.1 x.2.1:=by
  intro l m q;induction q with
  |nil=>intro x b;exact nomatch b
  |@cons p q ps qs hq t ih=>
   intro x b;rcases aG.mp b with e|b
   .subst e;exact w6 ok (by rw[<-hq.1];exact hq.2.1)
   .exact ih x b
 exact all r x b
def ON(ok:oo P w H h)(e:H a=some (.dT kvs)):kvs.length<=sizeLine/\(a==sysModules)=false/\
  ∃b,KT H kvs b/\h.DictOfH (tupleKind (kz P w)) a b:=BN ok (.inl e)
end
def xv(H:Hp)(a:Addr)(y:V)(r:Option V):Prop:=(∃c k,Rd H a (.dK c)/\y=kV k/\r=oM c k)\/∃c k b,Rd H a (.dT c)/\y=.ref b/\H b=some (.tup (k.map kV))/\r=oM c k
def xv.t{H:Hp}{a b:Addr}{kvs:List (List m6×V)}{k:List m6}(e:H a=some (.dT kvs))(c:H b=some (.tup (k.map kV))):xv H a (.ref b) (oM kvs k):=.inr ⟨kvs,k,b,.inl e,rfl,c,rfl⟩
section
variable {X:Cx}{gx:List (Addr×Obj)}{σ:St}{H:Hp}{s:Sq}{a:Addr}{y v:V}{u r:Vq}{o:Option V}{A:Around}{E:Vq->Shared->Prop}
def gP.big(I:gP X gx σ H s):sysModules<s.heap.objs.size:=by have h:mainGlobals<s.heap.objs.size:=(I.mod.glob.keeps I.bk).lt;exact cJ (by decide) h
def DX(D:A.units+1<cLine)(I:gP X gx σ H s)(g:xv H a y (some v))(x:iE y u)(h:∀f q,gP X gx σ H q->iE v f->Q f q) :
  wpAny (model X.prog X.w) A (getItem (.ref a) u) Q E s:=by
 rcases g with⟨i,k,e,m,l⟩|⟨i,k,b,e,m,C,l⟩
 .subst m;obtain⟨z,J,F,d,j⟩:=FB I.hok e;obtain⟨f,hw,c⟩:=oV.some_of (v:=v) (o:=valueAt F k) (by rw[l];exact d.val k);exact wpAny_getItem_of (E3 x) j.mapOf hw (h f _ (I.tok _) c)
 .subst m;cases (show u=Value.ref b from x);obtain⟨z,J,K,d,j⟩:=BN I.hok e;obtain⟨f,hw,c⟩:=oV.some_of (v:=v) (o:=(atKey K k).map (·.2)) (by rw[l];exact d.val k);obtain⟨p,B,n⟩:=cK.mp hw;refine wpAny_getItem_heap (tupleKind_room_in1 D) (w6 I.hok C) j B ?_;rw[n];exact h f _ (I.tok _) c
def Ql(x:A.units+1<cLine)(I:gP X gx σ H s)(g:xv H a y o)(n:iE y u)(h:∀m,gP X gx σ H m->Q (.bool o.isSome) m) :
  wpAny (model X.prog X.w) A (compareOp .In u (.ref a)) Q E s:=by
 rcases g with⟨d,k,e,i,l⟩|⟨d,k,b,e,i,p,l⟩
 .subst i;obtain⟨z,j,B,c,f⟩:=FB I.hok e;refine wpAny_in_of (E3 n) j f.mapOf ?_;rw[<-(c.val k).isSome_eq,<-l];exact h _ (I.tok _)
 .subst i;cases (show u=Value.ref b from n);obtain⟨z,j,C,c,f⟩:=BN I.hok e;refine wpAny_in_heap (tupleKind_room_in1 x) (w6 I.hok p) j f ?_;have q:=(c.val k).isSome_eq;rw[cI]at q;rw[<-q,<-l];exact h _ (I.tok _)
def J8(I:gP X gx σ H s)(f:OX (H a))(hs:Heap.SameBut a s.heap h')(d:∃q,h'.get? a=some q)(new:jz X.prog X.w (iU H a ob) h' a ob) :
  gP X gx σ (iU H a ob) {s with heap:=h',toks:=t'}:=
 I.write (x:=a) (e:=a) f (.inl rfl) (λb q c z=>(hs.2 b c).trans z) d new
end
def Mu(i:Expr):Prop:=∀b a,subscripted i false b a=operate [b,a] (getItem b a)
theorem I0{T id:String}
  (k:typeLookup (.type T) "__getitem__" = pure (some (.builtin id))) (hs:Mu slice)
  (h:wpAny (model prog w) A (eval value env) (λo d=>wpAny (model prog w) A (eval slice env) (λi a=>a.TypeIs o T/\wpAny (model prog w) A (getItem o i) Q E a) E d) E s) :
  wpAny (model prog w) A (eval (.Subscript value slice pos) env) Q E s:=by
 refine Subscript_ (wpAny_mono h (λo d g=>wpAny_mono g (λi a b=>?_) λ_ _ x=>x) λ_ _ x=>x);obtain⟨j,b⟩:=b;unfold subscriptTail;refine aq ?_;rw[getitemInPython_of_ne j.not_modules];refine aq (wpAny_specialOf j k ?_);have e:wpAny (model prog w) A (subscripted slice false o i) (λr c=>wpAny (model prog w) A (letTemporaryGo value o r >>= λ_=>pure r) Q E c) E a:=by rw[hs o i];exact wpAny_operating (wpAny_mono b (λr c f=>aq (wpAny_letTemporaryGo (ao f))) λ_ _ x=>x)
 first
  |exact ao (aq e)
  |exact aq (ao (aq e))
  |exact aq e
def yK(I:gP X gx σ H s)(g:xv H a y o):s.TypeIs (.ref a) "dict" :=by
 rcases g with⟨c,k,e,_,_⟩|⟨c,k,b,e,_,_,_⟩
 .obtain⟨_,_,f,_,d⟩:=FB I.hok e;exact d.typeIs
 .obtain⟨_,_,h,_,d⟩:=BN I.hok e;exact d.typeIs
def Ef(e ty:TE):TE:=λb H Q=>e b H λx d=>ty b d λy c=>∃a v,x=.ref a/\xv c a y (some v)/\Q v c
section
variable {X:Cx}{o i e value:Expr}{pos pos' tpos:Pos}{td ty tv:TE}
def Ih(j:X.A.units+1<cLine)(l:PE X o td)(k:PE X i ty)(hs:Mu i):PE X (.Subscript o i pos) (Ef td ty):=by intro c s d H Q I h;refine I0 PySem.F.slot_dict_getitem.lookup hs (jB (l c s d H _ I h) λu s1 ⟨x,H1,I1,rx,q1⟩=>jB (k c s1 d H1 _ I1 q1) λiv s2 ⟨y,H2,I2,ry,a,v,ex,g,q2⟩=>?_);subst ex;obtain rfl:u=Value.ref a:=rx;exact⟨yK I2 g,DX j I2 g ry λm n f b=>⟨v,H2,f,b,q2⟩⟩
end
def FC(h:Heap)(a:sysModules<h.objs.size):jz P w H (h.push {cls:=.type "dict",data:=.dict #[]}) h.objs.size (.dT []):=⟨bN _,beq_eq_false_iff_ne.mpr (Ne.symm (aN a)),[],.nil,_,#[],0,au _ rfl,⟨rfl,rfl,rfl⟩,rfl,rfl,cL⟩
end L2
namespace L2
open PySem PySem.Spec PyProof.Rows Builtin
def se:fillsNumberSlot (.type "tuple") "mul" = pure false:=PySem.fillsNumberSlot_seq F.slot_tuple_mul.lookup (by decide +kernel) F.slot_tuple_rmul.lookup (by decide +kernel)
def wU:seqRepeat? (.type "tuple")=pure (some (.builtin "tuple.__mul__")):=by unfold seqRepeat?;rw[PySem.seqSlot_of (name:= "__mul__") F.slot_tuple_mul.lookup (by decide +kernel),PySem.seqSlot_of (name:= "__rmul__") F.slot_tuple_rmul.lookup (by decide +kernel)];rfl
def uO a t l dct gG n sl :
  Meets (Builtin.«int.__rmul__» ⟨[.int a t,.ref l],[]⟩) (λ_ R s=>s.heap.get? l=some ⟨.type "tuple",dct,.seq gG n,sl⟩/\R (.ok (.ret Value.notImplemented)) s):=
 .of_wp λb w A R s h=>by obtain⟨i,g,d,e,f⟩:=s;obtain⟨c,h⟩:=h;wp_walk;exact⟨_,rfl,h⟩
def uX a t l dct gG n sl (y:-(2 ^ 63)<=a) (D:a<2 ^ 63) (m:gG.size*a.toNat<=sizeLine) :
  Meets (Builtin.«tuple.__mul__» ⟨[.ref l,.int a t],[]⟩) (λ_ R s=>s.heap.get? l=some ⟨.type "tuple",dct,.seq gG n,sl⟩/\((gG.isEmpty=true\/a=1)->R (.ok (.ret (.ref l))) s)/\
   (¬(gG.isEmpty=true\/a=1)->a<=0->R (.ok (.ret (.ref s.heap.objs.size))) {s with heap:=s.heap.push {cls:=.type "tuple",data:=.seq #[]}})/\
   (¬(gG.isEmpty=true\/a=1)->0<a->R (.ok (.ret (.ref s.heap.objs.size))) {s with heap:=s.heap.push {cls:=.type "tuple",data:=.seq ((List.replicate a.toNat gG).foldl (·++·) #[])}})):=
 .of_wp λk w A R s h=>by
  obtain⟨E,g,d,H,F⟩:=s;obtain⟨B,r,x,v⟩:=h;have q:¬(decide (a < -2 ^ 63)||decide (a >= 2 ^ 63))=true:=by simp;omega
  wp_walk;rw[aS q];wp_walk;by_cases b:gG.isEmpty=true\/a=1
  .rw[aR (by rcases b with c|c<;>simp[c])];wp_walk;exact⟨_,rfl,r b⟩
  .rw[aS (by intro z;exact b (by simpa using z))];by_cases j:a<=0
   .rw[aR (by simp[j])];wp_walk;exact⟨_,rfl,x b j⟩
   .have u:¬gG.isEmpty=true:=λz=>b (.inl z);have I:gG.size*a<=sizeLine:=by
     have:((gG.size*a.toNat:Nat):Int)<=sizeLine:=by exact_mod_cast m
     rw[Int.natCast_mul,cN (by omega)]at this;exact this
    have C:(sizeLine:Int)=2 ^ 24:=by decide
    rw[aS (by simp[j,u]),aS (by omega)];rw[aS (by simp[Tuple.tupleTooMany];omega)];have o:(List.foldl (λi f=>i++f) #[] (List.replicate a.toNat gG)).size<=sizeLine:=by
     have e:=nS gG.toList a.toNat [];simp only[b9]at e;have p:List.foldl (λi f=>i++f) #[] (List.replicate a.toNat gG)=(List.replicate a.toNat gG.toList).flatten.toArray:=by simpa using e
     rw[p,bH,wM,cf];simpa using m
    wp_walk;exact⟨_,rfl,v b (by omega)⟩
section
variable {X:Cx}
def Ej:R2:=λx y H Q=>∃l k a,x=.ref l/\y=.int k/\H l=some (.tup a)/\-(2 ^ 63)<=k/\k<2 ^ 63/\a.length*k.toNat<=sizeLine/\((a=[]\/k=1)->Q (.ref l) H)/\
 (¬(a=[]\/k=1)->∀p,H p=none->Q (.ref p) (iU H p (.tup (List.replicate k.toNat a).flatten)))
def HV:oh X (binaryOp .Mult) Ej:=by
 intro gx s σ H x y v u Q I K Y h;obtain⟨l,k,i,rfl,rfl,P,B,D,p,qa,j⟩:=h;cases K;obtain⟨t,rfl⟩:=Y;obtain⟨gG,r,⟨⟨c,d,dt,A⟩,e,U,n,Z⟩,_⟩:=I.tuple (lz.of P);subst U;subst Z;have C:=r.length;have J:gG.toArray.size*k.toNat<=sizeLine:=by rw[bH,<-C];exact p
 have g:gG.toArray.isEmpty=true↔i=[]:=by
  cases r with
  |nil=>simp
  |cons _ _=>simp
 have a:(gG.toArray.isEmpty=true\/k=1)↔(i=[]\/k=1):=by rw[g]
 have f:List.foldl (λL E=>L++E) #[] (List.replicate k.toNat gG.toArray)=(List.replicate k.toNat gG).flatten.toArray:=by have:=nS gG k.toNat [];rw[b9]at this;exact this
 have m:=I.fresh;refine wpAny_binaryOp_repeat_ref (by decide) ⟨_,e,rfl⟩ (λN=>typeIs_int N k t) se F.fills_int_mul F.slot_int_rmul wU F.slot_int_index.lookup
  (call_meets F.slot_int_rmul (typeIs_int s k t) F.entry_int_rmul (F.args_int_rmul_2 _ _) (uO k t l d gG.toArray n A)
   ⟨e,rfl,⟨_,e,rfl⟩,call_meets F.slot_tuple_mul ⟨_,e,rfl⟩ F.entry_tuple_mul (F.args_tuple_mul_2 _ _) (uX k t l d gG.toArray n A B D J) ⟨e,λz=>?_,λz w=>?_,λz w=>?_⟩⟩)
 .exact⟨.ref l,H,I,rfl,qa (a.mp z)⟩
 .have S:k.toNat=0:=by omega
  have q:=j (λy=>z (a.mpr y)) s.heap.objs.size m;rw[S]at q;exact⟨.ref _,_,I.laid (o:=.tup []) (λb R q=>af _ q) (aL _) ⟨bN _,[],.nil,sC.new _ _⟩,rfl,q⟩
 .rw[f];refine⟨.ref _,_,I.laid (o:=.tup (List.replicate k.toNat i).flatten) (λb R q=>af _ q) (aL _) ⟨?_,_,r.rep k.toNat,sC.new _ _⟩,rfl,j (λy=>z (a.mpr y)) _ m⟩;rw[wM,cf];exact p
def yY:V->Option Bool
 |.bl b=>some b
 |.int i=>some (i != 0)
 |_=>none
def lq:List V->Option (List Bool)
 |[]=>some []
 |v::vs=>(yY v).bind λb=>(lq vs).bind λr=>some (b::r)
theorem wd:∀{vs} {bs} {us} {i} {u},lq vs=some bs->g9 vs us->us[i]? = some u->∃v,iE v u/\yY v=some (bs.getD i false)
 |[],_,_,_,_,_,.nil,e=>by simp at e
 |v::vs,bs,_,i,u,h,.cons r t,e=>by
  cases hv:yY v with
  |none=>simp[lq,hv]at h
  |some b=>
   cases hr:lq vs with
   |none=>simp[lq,hv,hr]at h
   |some r'=>
    simp[lq,hv,hr]at h;subst h;cases i with
    |zero=>simp at e;subst e;exact⟨v,r,by simpa using hv⟩
    |succ i=>obtain⟨d,a,c⟩:=wd hr t (by simpa using e);exact⟨d,a,by simpa using c⟩
theorem vk:∀{vs} {bs},lq vs=some bs->vs.length=bs.length
 |[],_,h=>by cases h;rfl
 |v::vs,bs,h=>by
  cases hv:yY v with
  |none=>simp[lq,hv]at h
  |some b=>
   cases hr:lq vs with
   |none=>simp[lq,hv,hr]at h
   |some r'=>simp[lq,hv,hr]at h;subst h;simp[vk hr]
def tG(h:lq vs=some bs)(r:g9 vs us):TruthOf prog w A (λi v=>us.toArray[i]? = some v) (λi=>bs.getD i false):=λi u s Q E e a=>by
 obtain⟨v,d,c⟩:=wd h r (by simpa using e);dsimp only at a;cases v with
 |bl b=>
  cases d;have:b=bs.getD i false:=by simpa[yY] using c
  rw[<-this]at a;exact wpAny_truthy_bool a
 |int n=>
  obtain⟨t,rfl⟩:=d;have:(n != 0)=bs.getD i false:=by simpa[yY] using c
  rw[<-this]at a;exact PyProof.Rows.truthy_int a
 |_=>simp[yY]at c
def C5(l:X.calm=true):jT X (.builtin "any") (λm H Q=>∃p vs bs,m=[.ref p]/\(ka X.K H p vs\/lz X.K H p vs)/\lq vs=some bs/\Q (.bl (bs.any id)) H):=by
 intro D s E H m C Q I r h;obtain⟨p,vs,bs,rfl,g,c,q⟩:=h;obtain⟨u,rfl,v⟩:=nc r;cases v;have w:=vk c;rcases g with g|g
 .obtain⟨gG,f,d,y⟩:=I.list g;have x:=f.length;have a:p<s.heap.objs.size:=by obtain⟨_,e,_⟩:=d.isList;exact aM e
  refine call_any_walk (wpAny_pyIter_list d.isList ⟨s.heap.objs.size,_,_,_,_,_,λi=>bs.getD i false,rfl,Walks.list (A:=X.A.in1) (I.ok.hd l) _ p (aN a) _,⟨⟨_,au _ rfl,rfl,rfl⟩,d.isList.push _⟩,tG c f,λn B j=>?_⟩);refine⟨.bl _,H,I.kept (λb o e=>j b o (λk=>?_) (af _ e)),rfl,?_⟩
  .have lt:=aM e;have z:b=s.heap.objs.size:=by simpa using k
   rw[z]at lt;exact bc _ lt
  .rw[<-wI]at q;have:gG.toArray.size=bs.length:=by rw[bH];omega
   rw[this];exact q
 .obtain⟨gG,f,d,y⟩:=I.tuple g;have x:=f.length;have a:p<s.heap.objs.size:=by obtain⟨_,e,_⟩:=d;exact aM e
  have pt:=d;refine call_any_walk (wpAny_pyIter_tuple pt ⟨s.heap.objs.size,_,_,_,_,_,λi=>bs.getD i false,rfl,Walks.tuple (A:=X.A.in1) (I.ok.hd l) _ p (aN a) _,⟨⟨_,au _ rfl,rfl,rfl⟩,pt.push _⟩,tG c f,λn B j=>?_⟩);refine⟨.bl _,H,I.kept (λb o e=>j b o (λk=>?_) (af _ e)),rfl,?_⟩
  .have lt:=aM e;have z:b=s.heap.objs.size:=by simpa using k
   rw[z]at lt;exact bc _ lt
  .rw[<-wI]at q;have:gG.toArray.size=bs.length:=by rw[bH];omega
   rw[this];exact q
end
end L2
namespace L2
open PySem PySem.Spec PyProof.Rows
section
variable {prog:Program}{w:World}{A:Around}{E:Vq->Shared->Prop}{s:Sq}
def CQ{i:Nat}{Q:Vq->Shared->Prop}(y:IsEnum s.heap e it i old)(hi:kP b s.heap it l i)(S:jh b s.heap l xs)(hne:e≠it)
  (p:∀x h',xs[i]? = some x->IsEnumOut h' e it ((i:Int)+1) x s.heap.objs.size->kP b h' it l (i+1)->h'.get? s.heap.objs.size=some {cls:=.type "tuple",data:=.seq #[.int i s.toks,x]}->h'.objs.size=s.heap.objs.size+1->
   (∀c o,c≠e->c≠it->s.heap.get? c=some o->h'.get? c=some o)->Q (.ref s.heap.objs.size) {s with heap:=h',toks:=s.toks+1})
  (U:xs[i]? = none->A.handled=none/\∀h' x,Heap.ExtBut it s.heap h'->(∃o,h'.get? x=some o/\o.cls=.type "StopIteration")->E (.ref x) {s with heap:=h'}) :
  wpAny (model prog w) A (Builtin.«enumerate.__next__» ⟨[.ref e],[]⟩) (λr s'=>∃v,r=.done (.ret v)/\Q v s') E s:=by
 obtain⟨H,g,d,P,os⟩:=s;show wpAny _ _ (field (.ref e) 2 >>= λ_=>_) _ _ _;refine aq (wpAny_field y rfl rfl (aq (ua hi S (λx g1 Y t1 k1=>?_) U)));have h:=k1;have F:=(h.2 e hne).trans y;refine aq (wpAny_field F rfl rfl ?_);refine aq (wpAny_field F rfl rfl ?_);refine aq (wpAny_mkInt (aq (wpAny_setField_rec F (by simp) λg2 y2 n=>?_)));have z2:=y2;refine aq (wpAny_setField_rec z2 (by simp) λj Z D=>?_);have X:=Z;refine aq (wpAny_newTuple ?_);have sz:j.objs.size=H.objs.size:=by have a:=D.1;have c:=n.1;have u:=h.1;dsimp only at a c u;omega
 have z:IsEnum (j.push {cls:=.type "tuple",data:=.seq #[.int i P,x]}) e it (i+1) old:=af _ X;have el:=aM y;have B:∀c o,c≠e->c≠it->H.get? c=some o->j.get? c=some o:=λc o f C q=>D.extBut c o f (n.extBut c o f (h.extBut c o C q));unfold Builtin.SmallTypes.ownedTupleIsFree;refine aq (aq (wpAny_field z rfl rfl (ao ?_)));simp only[if_true];refine aq (wpAny_rule (aq (wpAny_field z rfl rfl (aq (wpAny_setField_rec z (by simp) λg5 y5 K=>?_)))));have z5:=y5;unfold Builtin.SmallTypes.ownedTupleHandOut;refine aq (aq (wpAny_setField_rec z5 (by simp) λg6 y6 N=>?_));have z6:=y6;refine wpAny_setField_rec z6 (by simp) λm y7 L=>?_;have I:=y7;have up:∀c o,c≠e->(j.push {cls:=.type "tuple",data:=.seq #[.int i P,x]}).get? c=some o->m.get? c=some o:=λc o f q=>L.extBut c o f (N.extBut c o f (K.extBut c o f q));have k:∀c o,c≠e->j.get? c=some o->m.get? c=some o:=λc o f q=>up c o f (af _ q);have R:=up _ _ (by rw[sz];exact bC el) (au _ rfl);have J:m.objs.size=j.objs.size+1:=by have a:=L.1;have c:=N.1;have u:=K.1;dsimp only at a c u;rw[Heap.size_push]at u;omega
 refine aq (wpAny_letGo (ao ⟨_,rfl,?_⟩));rw[sz]at I R J ⊢;exact p x m Y I (t1.to λo q=>k it o (Ne.symm hne) (D.extBut it o (Ne.symm hne) (n.extBut it o (Ne.symm hne) q))) R J λc o f C q=>k c o f (B c o f C q)
def wg{i:Nat}(f:IsEnum s.heap e it i old)(n:kP b s.heap it l i)(g:jh b s.heap l xs)(hne:e≠it)
  (a:∀x h',xs[i]? = some x->IsEnumOut h' e it ((i:Int)+1) x s.heap.objs.size->kP b h' it l (i+1)->h'.get? s.heap.objs.size=some {cls:=.type "tuple",data:=.seq #[.int i s.toks,x]}->h'.objs.size=s.heap.objs.size+1->
   (∀c o,c≠e->c≠it->s.heap.get? c=some o->h'.get? c=some o)->Q (some (.ref s.heap.objs.size)) {s with heap:=h',toks:=s.toks+1})
  (d:xs[i]? = none->A.handled=none/\∀h',Heap.ExtBut it s.heap h'->Q none {s with heap:=h'}):wpAny (model prog w) A (pyNext (.ref e)) Q E s:=by
 have ty:s.TypeIs (.ref e) "enumerate" :=⟨_,f,rfl⟩;unfold pyNext;refine aq (wpAny_attempt (wpAny_callSpecial?_slot ty F.slot_enumerate_next (wpAny_call_entry F.slot_enumerate_next ty F.entry_enumerate_next
  (CQ f n g hne (λx h' p j h k m r=>ao (a x h' p j h k m r)) λq=>⟨(d q).1,λh' x hk ⟨o,ho,hc⟩=>?_⟩) (F.args_enumerate_next_1 _))))
 exact aq (wpAny_isInstance ⟨o,ho,hc⟩ isSubtype_stop (ao ((d q).2 h' hk)))
noncomputable abbrev eo(b:Bool)(l:Addr):Obj:={cls:=.type (um b),data:=.fields #[.ref l,.int 0 0]}
abbrev en(p:Addr):Obj:={cls:=.type "enumerate",data:=.fields #[.none,.bool false,.ref p,rawInt 0,.none,.none]}
def A1 b l xs:Meets (Builtin.«enumerate.__new__» ⟨[.type "enumerate",.ref l],[]⟩) (λ_ R s=>jh b s.heap l xs/\
  R (.ok (.ret (.ref (s.heap.push (eo b l)).objs.size))) {s with heap:=(s.heap.push (eo b l)).push (en s.heap.objs.size)}):=by
 refine .of_wp λprog w A R s h=>?_;obtain⟨i,g,d,p,j⟩:=s;obtain⟨f,hR⟩:=h;have e:=sub_enumerate;have a:=f;obtain⟨o,n,k,m⟩:=a.look;wp_walk using mD a;refine wpAny_stack_any λst=>ao ?_;split
 .rename_i c _ _ _ _ _;cases (c==Value.type "enumerate")
  .wp_walk using mD a;exact⟨_,rfl,hR⟩
  .wp_walk using mD a;exact⟨_,rfl,hR⟩
 .wp_walk using mD a;exact⟨_,rfl,hR⟩
def DM(f:jh b s.heap l xs)
  (h:∀h',IsEnum h' (s.heap.objs.size+1) s.heap.objs.size 0 .none->kP b h' s.heap.objs.size l 0->h'.objs.size=s.heap.objs.size+2->(∀c o,s.heap.get? c=some o->h'.get? c=some o)->Q (.ref (s.heap.objs.size+1)) {s with heap:=h'}) :
  wpAny (model prog w) A (call (.type "enumerate") [.ref l]) Q E s:=by
 refine callType_new F.called_enumerate (by decide) (F.typeCall_enumerate_1 _) (F.newCall_enumerate_1 _) (λa=>F.args_object_init_2 a _) F.entry_enumerate_new (A1 b l xs) ⟨f,?_⟩;have e:(s.heap.push (eo b l)).objs.size=s.heap.objs.size+1:=Heap.size_push ..;have d:=au (s.heap.push (eo b l)) (o:=en s.heap.objs.size) rfl;rw[e]at d;rw[e];exact⟨⟨_,d,rfl⟩,h _ d (.of ⟨_,af _ (au _ rfl),rfl,rfl⟩) (by rw[Heap.size_push,e]) λc o q=>af _ (af _ q)⟩
end
noncomputable def QN(K:W.Frag)(b:Bool)(l:Addr):It:=
  ⟨λi H=>∃a x,uS K H b l a/\a[i]? = some x,
   λi H v c=>∃p x,v=.ref p/\H p=none/\c=iU H p (.tup [.int i,x])/\∀a,uS K H b l a->a[i]? = some x,
   λi H=>∃a,uS K H b l a/\a.length<=i⟩
def DF{K:W.Frag}{x1}(hne:e≠it) :
  AN P w K (.Tuple elts x1 pos) (QN K b l) [e,it] e (λi h=>(∃a,IsEnum h e it i a)/\kP b h it l i) where
 mem:=by simp
 obj:=λi h st c C=>by
  obtain⟨⟨a,g⟩,j⟩:=st;have mem:c=e\/c=it:=by simpa using C
  rcases mem with rfl|rfl
  .exact⟨_,g,λv q=>by cases q⟩
  .obtain⟨o,q,_,d⟩:=j.look;exact⟨o,q,λv q'=>by rw[d]at q';cases q'⟩
 keep:=λi h J st k=>by obtain⟨⟨a,g⟩,j⟩:=st;exact⟨⟨a,k e (by simp) _ g⟩,j.to λo q=>k it (by simp) o q⟩
 item:=by
  intro X R hw L C i Z s σ H E I F st U;subst R hw L;obtain⟨⟨a,g⟩,j⟩:=st;obtain⟨xs,x,B,e1⟩:=U;obtain⟨r,N,S,z1⟩:=I.seqB B;obtain⟨u,gu,ru⟩:=N.get e1;have p:=I.fpOk (aL _) (I.hok.fresh (aL _));refine wg g j S hne (λA J m a1 a2 Y a4 D=>?_) λq=>?_
  .have eu:A=u:=by
    have:r[i]? = some A:=by simpa using m
    rw[gu]at this;cases this;rfl
   subst eu;refine⟨_,rfl,wpAny_letOwnedTupleGo_enum a1 λQ y sb=>?_⟩;have n:=sb;have zT:=bC (aM g);have I1:=I.turnedL (t':=s.toks+1) (λb o f q=>n.extBut _ _ (λz=>f (by simp[z])) (D b o (λz=>f (by simp[z])) (λz=>f (by simp[z])) q)) (λb f=>F b f);have gT:=n.extBut _ _ zT Y;have I2:gP X Z σ (iU H s.heap.objs.size (.tup [.int i,x])) {s with heap:=Q,toks:=s.toks+1}:=I1.track p.1 p.2.2.2.1 p.2.1 p.2.2.2.2.1 p.2.2.2.2.2
    ⟨by show 2<=sizeLine;decide,[.int i s.toks,A],.cons ⟨_,rfl⟩ (.cons ru .nil),⟨_,gT,rfl,_,rfl,rfl⟩⟩
   have lt:∀{b o},s.heap.get? b=some o->iU H s.heap.objs.size (.tup [.int i,x]) b=H b:=λ{b o} q=>gI (aN (aM q));refine⟨.ref s.heap.objs.size,_,I2,rfl,⟨_,x,rfl,p.1,rfl,λxs' h=>by rw[I.seqB_inj h B];exact e1⟩,?_,λb f=>?_⟩
   .exact⟨⟨_,y⟩,a2.to λo q=>n.extBut _ o (Ne.symm hne) q⟩
   .have mem:b=e\/b=it:=by simpa using f
    have hn:=(F b f).1;obtain⟨o1,g1,_⟩:=j.look;rcases mem with rfl|rfl
    .rw[lt g];exact hn
    .rw[lt g1];exact hn
  .exfalso;have m1:r.toArray[i]? = some u:=by simpa using gu
   rw[m1]at q;cases q
 done:=by
  intro X R hw L C i Z s σ H E I F st U;subst R hw L;obtain⟨⟨a,g⟩,j⟩:=st;obtain⟨xs,B,hl⟩:=U;obtain⟨r,N,S,z1⟩:=I.seqB B;have n1:=N.length;refine wg g j S hne (λA J m a1 a2 Y a4 D=>?_) λq=>⟨I.ok.hd C,λJ D=>⟨rfl,I.turnedL (ch:=[it]) (λb o f q=>D b o (λz=>f (by simp[z])) q) λb f=>F b (by
   have:b=it:=by simpa using f
   simp[this])⟩⟩
  exfalso;have m1:i<r.length:=by
   have:r[i]? = some A:=by simpa using m
   exact (ae.mp this).1
  omega
 self:=λ_ _ _ _ _ st h=>by obtain⟨⟨a,g⟩,_⟩:=st;exact wpAny_pyIter_enum g h
section
variable {X:Cx}
def Hr(K:W.Frag)(b:Bool)(e:TA):TI:=λd H R=>e d H λc a=>∃l,c=[.ref l]/\(∃f,uS K a b l f)/\R (QN K b l) a
def Ey{x1}(w:Gl X "enumerate")(y:X.mg "enumerate" = none)(j:PA X [a] ta)(hs:starEach [a] X.env=[(false,eval a X.env)]:=by rfl) :
  PI X (.Tuple elts x1 tpos) (.Call (.Name "enumerate" p) [a] [] pos) (Hr X.K b ta):=by
 intro k s m H R I h;refine Call_ (mx I w y boot_enumerate (PyProof.Rows.callWith_type1 (jB (j pos k s m H _ I h) λi s1 ⟨vs,H1,I1,r1,c⟩=>?_) hs rfl));obtain⟨l,rfl,⟨A,c⟩,q⟩:=c;obtain⟨u,rfl,g⟩:=nc r1;cases g;obtain⟨i,x,v,_⟩:=I1.seqB c;refine DM v λz e n f r=>?_;refine wpAny_pyIter_enum e ?_;refine⟨_,_,_,_,H1,rfl,I1.kept r,DF (Nat.succ_ne_self _),⟨⟨_,e⟩,n⟩,λb o=>?_,q⟩;have mem:b=s1.heap.objs.size+1\/b=s1.heap.objs.size:=by simpa using o
 have d:s1.heap.objs.size<=b:=by rcases mem with rfl|rfl<;>omega
 exact I1.fpOk d (I1.hok.fresh d)
end
end L2
namespace HT
open PySem PySem.Spec PyProof.Rows
section
variable {prog:Program}{w:World}{A:Around}{E:Vq->Shared->Prop}{s:Sq}
def getItem_tuple_all{a d:Option Int}(c:IsTup s.heap t items)(hs:s.heap.IsSliceOf sl vl vu .none)(l:IsPart vl a)(j:IsPart vu d)
  (hw:sIx items.size 0 a=0/\sIx items.size items.size d=items.size) (h:Q (.ref t) s):wpAny (model prog w) A (getItem (.ref t) (.ref sl)) Q E s:=by
 obtain⟨k,e,f,i⟩:=id hs;have g:s.TypeIs (.ref sl) "slice" :=⟨k,e,f⟩;unfold getItem;try with_reducible refine wpAny_holding ?_;first|refine aq (ao ?_)|skip
 refine aq (wpAny_sequenceKey c.typeIs (by decide) ?_);refine aq (wpAny_callSpecial?_slot c.typeIs PyProof.Rows.slot_tuple_getitem
  (wpAny_call_entry PyProof.Rows.slot_tuple_getitem c.typeIs entry_tuple_getitem ?_ (args_tuple_getitem _ _)))
 show wpAny _ _ (Builtin.Tuple.tupleItemsOf (.ref t) >>= _) _ _ s;refine aq (tupleItemsOf_ c ?_);refine aq (wpAny_typeOf g ?_);rw[aR (by decide)];refine aq (mI hs l j ?_);have b:(((sIx items.size 0 a):Int)==0&&(1:Int)==1&&(sIx items.size items.size d-sIx items.size 0 a)==items.size)=true:=by rw[hw.1,hw.2];simp
 show wpAny _ _ (if (((sIx items.size 0 a):Int)==0&&1==1&&(sIx items.size items.size d-sIx items.size 0 a)==items.size)=true then _ else _) _ _ s;rw[aR b];refine aq (aq (wpAny_typeOf c.typeIs (ao ?_)));rw[aR (by decide)];refine aq (wpAny_rule ?_);exact ao ⟨_,rfl,ao h⟩
end
end HT
namespace L2
open PySem PySem.Spec PyProof.Rows
section
variable {X:Cx}
def Ob(K:W.Frag):V->Option Int->Option Int->Hp->VK->Prop:=λx d c H Q=>∃a b,x=.ref a/\lz K H a b/\(HT.sIx b.length 0 d=0/\HT.sIx b.length b.length c=b.length)/\Q (.ref a) H
def JD:KA X (Ob X.K):=by
 intro l s m H x v k u w n p Q I f c g i h;obtain⟨a,j,rfl,d,hw,q⟩:=h;cases f;obtain⟨gG,r,b,o⟩:=I.tuple d;have e:gG.toArray.size=j.length:=by rw[bH];exact r.length.symm
 refine⟨"tuple",_,PyProof.Rows.slot_tuple_getitem.lookup,b.typeIs,?_⟩;exact HT.getItem_tuple_all b c g i (by rw[e];exact hw) ⟨.ref a,H,I,rfl,q⟩
end
end L2
namespace L2
open PySem PySem.Spec PyProof.Rows
theorem rN:∀{xs} {us},xs.length=us.length->(∀(i:Nat) v,us[i]? = some v->∃x,xs[i]? = some x/\iE x v)->g9 xs us
 |[],[],_,_=>.nil
 |x::xs,u::us,hl,h=>by obtain⟨a,e,r⟩:=h 0 u rfl;simp at e;subst e;exact .cons r (rN (by simpa using hl) λi v hv=>by simpa using h (i+1) v (by simpa using hv))
theorem mM{F:α->β->Prop}:∀{l:List α} {m:List β} {i:Nat} {a:α},Paired F l m->l[i]? = some a->∃b,m[i]? = some b/\F a b
 |_::_,_::_,0,_,.cons h _,e=>by simp at e;subst e;exact⟨_,rfl,h⟩
 |_::_,_::_,i+1,_,.cons _ r,e=>by simpa using mM r (by simpa using e)
end L2
namespace HT
open PySem PySem.Spec PyProof.Rows
section
variable {prog:Program}{w:World}{A:Around}{E:Vq->Shared->Prop}{s:Sq}
def pick_rev(a:Array Vq):((List.range a.size).filterMap λ(m:Nat)=>a[(((a.size:Int)-1)+(m:Int)*(-1)).toNat]?).toArray=a.toList.reverse.toArray:=by
 congr 1;have e:∀n,n<=a.size->(List.range n).filterMap (λ(m:Nat)=>a[((a.size-1)+(m:Int)*(-1)).toNat]?)=(a.toList.reverse).take n:=by
  intro n;induction n with
  |zero=>intro _;simp
  |succ n ih=>
   intro h;have b:n<a.toList.reverse.length:=by simp;omega
   rw[cO,cP,ih (by omega),cQ,ai b];congr 1;have k:((a.size-1)+(n:Int)*(-1)).toNat=a.size-1-n:=by omega
   simp only[bj,List.filterMap_nil,k];rw[Array.getElem?_eq_getElem (by omega)];simp
 rw[e a.size (aL _),cF (by simp)]
def qM{n:Nat}(hs:s.heap.IsSliceOf sl .none .none (.int (-1) tk))
  (h:Q ((n:Int)-1,-1,n) s):wpAny (model prog w) A (Builtin.Slice.sliceApplied (.ref sl) (pure (n:Int))) Q E s:=by
 obtain⟨f,a,c,b⟩:=id hs;unfold Builtin.Slice.sliceApplied Builtin.Slice.sliceFields;refine aq (aq (wpAny_field a b rfl (aq (wpAny_field a b rfl (aq (wpAny_field a b rfl (ao ?_)))))));refine aq (oY (.int (-1) tk) ?_);rw[aS (by decide)];refine aq (slicePart_none (aq (slicePart_none (aq (ao ?_)))));have d:Builtin.Slice.slicePlaces (n-1) (-1) (-1)=n:=by
  unfold Builtin.Slice.slicePlaces;by_cases e:n=0
  .subst e;decide
  .rw[aS (by decide),aR (by omega)];have:(n-1 - -1-1) / (- -1)=(n:Int)-1:=by rw[show (- -1)=1 by decide,bW];omega
   rw[this];omega
 show wpAny _ _ (pure ((n:Int)-1,(-1),Builtin.Slice.slicePlaces (n-1) (-1) (-1))) _ _ s;rw[d];exact ao h
theorem getItem_tuple_rev(b:IsTup s.heap t items)(hs:s.heap.IsSliceOf sl .none .none (.int (-1) tk))
  (h:Q (.ref s.heap.objs.size) {s with heap:=s.heap.push {cls:=.type "tuple",data:=.seq items.toList.reverse.toArray}})
  (g:items.size<=sizeLine):wpAny (model prog w) A (getItem (.ref t) (.ref sl)) Q E s:=by
 have a:sizeOk (.seq items.toList.reverse.toArray):=by show items.toList.reverse.toArray.size<=sizeLine;rw[bH,cR,bB];exact g
 obtain⟨j,c,d,i⟩:=id hs;have f:s.TypeIs (.ref sl) "slice" :=⟨j,c,d⟩;unfold getItem;try with_reducible refine wpAny_holding ?_;first|refine aq (ao ?_)|skip
 refine aq (wpAny_sequenceKey b.typeIs (by decide) ?_);refine aq (wpAny_callSpecial?_slot b.typeIs PyProof.Rows.slot_tuple_getitem
  (wpAny_call_entry PyProof.Rows.slot_tuple_getitem b.typeIs entry_tuple_getitem ?_ (args_tuple_getitem _ _)))
 show wpAny _ _ (Builtin.Tuple.tupleItemsOf (.ref t) >>= _) _ _ s;refine aq (tupleItemsOf_ b ?_);refine aq (wpAny_typeOf f ?_);rw[aR (by decide)];refine aq (qM hs ?_);have e:¬((((items.size:Int)-1)==0&&(-1)==1&&items.size==items.size)=true):=by intro q;rw[bZ,bZ]at q;exact absurd q.1.2 (by decide)
 show wpAny _ _ (if (((items.size:Int)-1)==0&&(-1)==1&&items.size==items.size)=true then _ else _) _ _ s;rw[aS e,pick_rev];first
  |exact aq (wpAny_newObj_type (ao ⟨_,rfl,ao h⟩) a)
  |exact aq (wpAny_newObj_type (aq (ao (ao ⟨_,rfl,ao h⟩))) a)
  |exact aq (aq (wpAny_newObj_type (ao (ao ⟨_,rfl,ao h⟩)) a))
  |exact aq (aq (wpAny_newObj_type (ao ⟨_,rfl,ao h⟩) a))
end
end HT
namespace L2
open PySem PySem.Spec PyProof.Rows
def u0(gG:List Vq):slicePick gG.toArray none none (some (-1))=gG.reverse.toArray:=by
 unfold slicePick;have h:sliceBounds none none (some (-1)) gG.toArray.size=((gG.toArray.size:Int)-1,-1,-1):=by simp[sliceBounds]
 rw[h];have:sliceRange (gG.toArray.size-1) (-1) (-1)=(List.range gG.toArray.size).map λ(m:Nat)=>((gG.toArray.size-1)+(m:Int)*(-1)).toNat:=by
  generalize gG.toArray.size=n;unfold sliceRange;have a:(if (-1)>0 then (if (n:Int)-1 < -1 then (-1-((n:Int)-1) + -1-1) / -1 else 0) else (if (n:Int)-1 > -1 then (n-1 - -1 - -1-1) / (- -1) else 0))=n:=by
   rw[aS (by decide)];by_cases b:n=0
   .subst b;decide
   .rw[aR (by omega),show (- -1)=1 by decide,bW];omega
  simp only[a];rw[bV];refine cS λk _=>?_;congr 1;omega
 rw[this,bX];exact HT.pick_rev gG.toArray
section
variable {X:Cx}{e st:Expr}{te ts:TE}{p2 pos:Pos}
def Q6(K:W.Frag):V->Hp->VK->Prop:=λx H Q=>(∃a b,x=.ref a/\ka K H a b/\∀p,H p=none->Q (.ref p) (iU H p (.lst b.reverse)))\/∃a b,x=.ref a/\lz K H a b/\∀p,H p=none->Q (.ref p) (iU H p (.tup b.reverse))
def QW(K:W.Frag)(te ts:TE):TE:=λa H Q=>te a H λx b=>Fy ts a b λo c=>o=some (-1)/\Q6 K x c Q
def L4(B:PE X e te)(hs:PE X st ts):PE X (.Subscript e (.Slice none none (some st) p2) pos) (QW X.K te ts):=by
 intro g s j H Q I h;refine Subscript_ (jB (B g s j H _ I h) λv s1 ⟨x,H1,I1,r1,q1⟩=>?_);refine wpAny_Slice ?_;rw[evalPart_none];refine ao ?_;refine ao ?_;refine jB (Cm hs g s1 j H1 (λo m=>o=some (-1)/\Q6 X.K x m Q) I1 q1) λvs s2 ⟨o,m,I2,ps,ho,q2⟩=>?_;subst ho;cases ps with
 |int i tk=>
 have d:gP X g j m {s2 with heap:=s2.heap.push {cls:=.type "slice",data:=.fields #[.none,.none,.int (-1) tk]}}:=I2.kept λb u q=>af _ q;have f:({s2 with heap:=s2.heap.push {cls:=.type "slice",data:=.fields #[.none,.none,.int (-1) tk]}}:Sq).heap.IsSliceOf s2.heap.objs.size .none .none (.int (-1) tk):=Heap.IsSliceOf.new ..;have n:∃T id,typeLookup (.type T) "__getitem__" = pure (some (.builtin id))/\({s2 with heap:=s2.heap.push {cls:=.type "slice",data:=.fields #[.none,.none,.int (-1) tk]}}:Sq).TypeIs v T/\wpAny (model X.prog X.w) X.A (getItem v (.ref s2.heap.objs.size)) (EP X g j Q) X.xe {s2 with heap:=s2.heap.push {cls:=.type "slice",data:=.fields #[.none,.none,.int (-1) tk]}}:=by
  generalize ({s2 with heap:=s2.heap.push {cls:=.type "slice",data:=.fields #[.none,.none,.int (-1) tk]}}:Sq)=s4 at d f ⊢;rcases q2 with⟨a,y,rfl,l,q⟩|⟨a,y,rfl,l,q⟩
  .cases r1;obtain⟨gG,r,c,k⟩:=d.list l;have p:=r.length;refine⟨"list",_,slot_list_getitem.lookup,c.isList.typeIs,?_⟩;refine wpAny_getItem_list_slice c.isList f .none .none (.int (-1) tk) (by simp) ?_ (by rw[bH]<;>omega);rw[u0];refine⟨.ref s4.heap.objs.size,_,d.laid (λb u q=>af _ q) (aL _) ?_,rfl,q _ (d.hok.fresh (aL _))⟩;exact⟨by rw[cR];exact k,_,0,r.reverse,au _ rfl⟩
  .cases r1;obtain⟨gG,r,c,k⟩:=d.tuple l;have p:gG.toArray.size=y.length:=by rw[bH];exact r.length.symm
   refine⟨"tuple",_,PyProof.Rows.slot_tuple_getitem.lookup,c.typeIs,?_⟩;refine HT.getItem_tuple_rev c f ?_ (by rw[p];exact k);refine⟨.ref s4.heap.objs.size,_,d.laid (λb u q=>af _ q) (aL _) ?_,rfl,q _ (d.hok.fresh (aL _))⟩;exact⟨by rw[cR];exact k,_,r.reverse,sC.new _ _⟩
 obtain⟨T,id,z,c,C⟩:=n;exact tail_any c z C (by with_unfolding_all rfl)
end
end L2
namespace L2
open PySem PySem.Spec PyProof.Rows
section
variable {X:Cx}
def QL(d:TA):TE:=λc H Q=>d c H λb a=>∃n:Nat,b=[.int (n:Int)]/\n<=1000/\∀p,a p=none->Q (.ref p) (iU a p (.lst ((List.range n).map λ(i:Nat)=>V.int (i:Int))))
def GD(C:X.calm=true)(F:Gl X "list")(J:X.mg "list" = none)(j:Gl X "range")(g:X.mg "range" = none)(x:PA X [a] ta)(hs:starEach [a] X.env=[(false,eval a X.env)]:=by rfl)
  (m:starEach [Expr.Call (.Name "range" p2) [a] [] pos2] X.env=[(false,eval (.Call (.Name "range" p2) [a] [] pos2) X.env)]:=by rfl) :
  PE X (.Call (.Name "list" p1) [.Call (.Name "range" p2) [a] [] pos2] [] pos) (QL ta):=by
 intro y s z H Q I h;refine wpAny_Call_Name_kw (mx I F J (by decide +kernel:bootBuiltins "list" = some (.type "list")) ?_);refine PyProof.Rows.callWith_type1 ?_ m rfl;rw[m];refine Calls.spliced_cons (Call_ (mx I j g boot_range (PyProof.Rows.callWith_type1 (jB (x pos2 y s z H _ I h) λus s1 ⟨vs,H1,I1,r1,q1⟩=>?_) hs rfl)));obtain⟨n,rfl,L,q⟩:=q1;obtain⟨u,rfl,r⟩:=nc r1;obtain⟨t,rfl⟩:=r;refine call_range_1 (Calls.spliced_nil ?_);refine call_list_range (n:=n) (I1.ok.hd C) (IsRange.new ..) ?_ ?_ ?_ λK N c p D k d=>?_
 .exact small_one (by omega) (by omega) (by omega) (by omega)
 .unfold Builtin.Range.rangeSize;rw[aR (by decide)];by_cases l:0<(n:Int)
  .rw[aR l];omega
  .rw[aS l];omega
 .omega
 .have E:g9 ((List.range n).map λ(i:Nat)=>V.int i) c.toList:=by
   refine rN (by rw[ax,cT,bB];exact d.1.symm) λi v hv=>?_;have f:c[i]? = some v:=by simpa using hv
   obtain⟨B,rfl⟩:=d.2 i v f;have A:i<n:=by have:=(Array.getElem?_eq_some_iff.mp f).1;rw[d.1]at this;exact this
   refine⟨.int i,by rw[aw,List.getElem?_range A];rfl,B,?_⟩;rw[bE,Int.zero_add]
  have sz:(s1.heap.push {cls:=.type "range",data:=.fields #[.int 0 s1.toks,.int n t,.int 1 (s1.toks+1)]}).objs.size=s1.heap.objs.size+1:=Heap.size_push _ _;rw[sz]at k ⊢;refine⟨.ref _,_,I1.laid (λb o e=>D b o (af _ e)) (bQ _) (show jz X.prog X.w _ _ _ (.lst ((List.range n).map λ(i:Nat)=>V.int i)) from ⟨?_,c.toList,p,E,by simpa using k⟩),rfl,q _ (I1.hok.fresh (bQ _))⟩;rw[ax,cT];have:1000<=sizeLine:=by decide
  omega
end
end L2
namespace L2
open PySem PySem.Spec PyProof.Rows
def Jx:typeLookup (.type "list") "keys" = pure none:=by rw[typeLookup_type,builtinLookup_eq_fast];kernel_rfl
def vZ:entryFor table "dict.update.loop" = some Builtin.«dict.update.loop»:=entryFor_of_tree (by kernel_rfl)
def n6:plainId "dict.update.loop" = true:=by decide +kernel
def Dz
  (m:s.heap.get? a=some o) (p:o.cls=.type "list") (f:o.data=.seq xs k) (q:o.dict=none) (u:A.handled=none)
  (h:∀h' r,(∀b l,s.heap.get? b=some l->h'.get? b=some l)->Q none {s with heap:=h',toks:=r}) :
  wpAny (model prog w) A (getAttr? (.ref a) "keys") Q E s:=by
 obtain⟨c,C,y,B⟩:=o;simp only at p f q;subst p f q;obtain⟨v,g,d,r,x⟩:=s;have n:∀i,(⟨v,g,d,i,x⟩:Sq).TypeIs (.ref a) "list" :=λ_=>⟨_,m,rfl⟩;have H:=sub_AttributeError;have N:=F.slot_list_getattribute.lookup;have D:=F.slot_list_getattribute.bind (.ref a);have L:=am_list_getattr_none;unfold getAttr? getAttrBy? getAttrBy;(repeat (any_goals (first|assumption|exact n _|((with_reducible show wpAny _ _ (call (Value.builtin "list.__getattribute__") _ _) _ _ _);refine call_meets F.slot_list_getattribute (n _) am_entry_list_getattribute (F.args_list_getattribute_2 _ _) (meets_getattribute_miss_list a xs k B "keys" _ Jx (by decide +kernel) (by size_fits)) ⟨m,u,λh' i e j=>?_⟩)|wp_step)));obtain⟨K,J,I⟩:=j.there;unfold getattributeRaised;(repeat (any_goals (first|assumption|wp_step)));exact h _ _ λb l z=>j.keeps b l z
section
variable {X:Cx}{gx:List (Addr×Obj)}{σ:St}{H:Hp}{s:Sq}
abbrev Pr:=Addr×Addr×List m6×V
def xQ(H:Hp)(q:Pr):Prop:=H q.1=some (.tup [.ref q.2.1,q.2.2.2])/\H q.2.1=some (.tup (q.2.2.1.map kV))
noncomputable def rG(kvs:List (List m6×V))(a:List Pr):List (List m6×V):=a.foldl (λk q=>rC k q.2.2.1 q.2.2.2) kvs
def CZ(C:A.units<cLine)(I:gP X gx σ H s)(e:H d=some (.dT kvs))(j:H b=some (.tup (k.map kV)))(l:kvs.length<sizeLine)(x:iE v r)
  (h:∀h' t',Heap.SameBut d s.heap h'->gP X gx σ (iU H d (.dT (rC kvs k v))) {s with heap:=h',toks:=t'}->Q () {s with heap:=h',toks:=t'}):wpAny (model X.prog X.w) A (dictSet d (.ref b) r) Q E s:=by
 obtain⟨z,J,K,a,u⟩:=ON I.hok e;have N:K.length<=sizeLine:=by rw[<-Paired.length a];exact z
 have n:(rC kvs k v).length<=sizeLine:=by have:=rZ kvs k v;omega
 refine wpAny_dictSet_heap C (w6 I.hok j) u λh' f g=>h h' _ g ?_;obtain⟨q,p,y,m,o,B,F,_,D⟩:=f;refine J8 I (by rw[e];exact True.intro) g ⟨q,m⟩ ⟨n,J,_,(a.put k j x).keeps λc L i=>?_,q,p,y,m,o,B,F,D⟩;rw[gI (N6 i e (λz=>nomatch z))];exact i
theorem y0(Z:A.handled=none)(hu:A.units+1<cLine) :
  ∀a c H kvs s t,gP X gx σ H s->H d=some (.dT kvs)->H l=some (.lst ((c++a).map λq=>.ref q.1))->(∀q∈a,xQ H q)->kvs.length+a.length<=sizeLine->
  s.heap.IsListIter it l c.length->qO X gx H it->(∀B,gP X gx σ (iU H d (.dT (rG kvs a))) B->R (.ok (.ret .none)) B)->
  codeAny (model X.prog X.w) A (.builtin "dict.update.loop" ⟨[.ref d,.ref it,.int (c.length:Int) t,.none],[]⟩) R s
 |[],c,H,kvs,s,t,I,ed,el,_,hz,hit,hf,hR=>by
  obtain⟨gG,F,K,_⟩:=I.list (ka.of el);have hn:=F.length;rw[bO,ax]at hn;obtain⟨f,p,Y,D,m,C⟩:=hf;refine codeAny_builtin vZ ?_;rw[Around.under_plainId n6 _];refine aq (wpAny_pyNext_list_end Z hit K.isList (by simp[hn]) λh' eb=>?_);have n:=I.turned (t':=s.toks) (λb o P e=>eb b o P e) f p D m C;refine aq (ao (ao (hR _ ?_)));have e:iU H d (.dT (rG kvs []))=H:=by
   funext b;by_cases q:b=d
   .subst q;rw[gE,ed];rfl
   .rw[gI q]
  rw[e];exact n
 |q::a,c,H,kvs,s,t,I,ed,el,hp,hz,hit,hf,hR=>by
  obtain⟨gG,F,K,_⟩:=I.list (ka.of el);obtain⟨f,p,Y,D,m,C⟩:=id hf;obtain⟨h1,h2⟩:=hp q (by simp);obtain⟨u,J,ru⟩:=F.get (i:=c.length) (x:=.ref q.1) (by simp);cases (ru);refine codeAny_builtin vZ ?_;rw[Around.under_plainId n6 _];refine aq (wpAny_pyNext_list_item hit K.isList (by simpa using J) λh' h sb=>?_);have n:=I.turned (t':=s.toks) (λb o P e=>(sb.2 b P).trans e) f p D m C;obtain⟨ks,rk,⟨ot,U,ct,nt,dt⟩,_⟩:=n.tuple (lz.of h1);obtain⟨k,v,rfl,E,Q⟩:=B4 rk;cases (E);refine aq (wpAny_holding (aq (wpAny_tryCatch ?_)));unfold Builtin.Dict.pairItems;refine aq (wpAny_typeOf ⟨_,U,ct⟩ ?_);rw[aR (by decide)];refine aq (wpAny_seqItems U dt (ao ?_));have hz':kvs.length+(a.length+1)<=sizeLine:=hz;refine wpAny_holding (CZ hu n ed h2 (by omega) Q λh2' t2 N I2=>?_);have g:it≠d:=λz=>by rw[z,ed]at f;cases f
  have ne:∀b o,H b=some o->(∀kvs,o≠.dT kvs)->iU H d (.dT (rC kvs q.2.2.1 q.2.2.2)) b=some o:=λb o e z=>by rw[gI (λw=>by rw[w,ed]at e;cases e;exact z _ rfl)];exact e
  refine ao ⟨plainId_quiet n6 _,?_⟩;have L:=h.extBut N.extBut g;have j:=y0 Z hu a (c++[q]) (iU H d (.dT (rC kvs q.2.2.1 q.2.2.2))) (rC kvs q.2.2.1 q.2.2.2) _ 0 I2 gE (by rw[b7];exact ne _ _ el (λ_ z=>nomatch z)) (λr hr=>⟨ne _ _ (hp r (by simp[hr])).1 (λ_ z=>nomatch z),ne _ _ (hp r (by simp[hr])).2 (λ_ z=>nomatch z)⟩) (by have:=rZ kvs q.2.2.1 q.2.2.2;omega) (by simpa using L) ⟨by rw[gI g];exact f,p,Y,D,m,C⟩ (λB S=>hR B (by
   have e:∀x y:HO,iU (iU H d x) d y=iU H d y:=λx y=>by
    funext b;by_cases z:b=d
    .subst z;rw[gE,gE]
    .rw[gI z,gI z,gI z]
   rw[e]at S;exact S))
  rw[aU]at j;exact j
def By(hc:X.calm=true)(hu:X.A.units+4<cLine):jT X (.type "dict") (λN H Q=>∃l g,N=[.ref l]/\H l=some (.lst (g.map λq=>.ref q.1))/\(∀q∈g,xQ H q)/\∀d,H d=none->Q (.ref d) (iU H d (.dT (rG [] g)))):=by
 intro gx s σ H N us Q I r h;obtain⟨l,g,rfl,L,R,q⟩:=h;obtain⟨u,rfl,U⟩:=nc r;cases U;have D:=I.ok.hd hc;refine callType_codes (Q₁:=λi c=>i=.ref s.heap.objs.size/\c={s with heap:=s.heap.push {cls:=.type "dict",data:=.dict #[]}}) F.kt_called_dict (F.kt_typeCall_dict_1 _) F.entry_dict_init (kt_code_dict_new _ ⟨rfl,rfl⟩) ?_;rintro i c ⟨rfl,rfl⟩;have a:=I.hok.fresh (aL s.heap.objs.size);have C:(s.heap.push {cls:=.type "dict",data:=.dict #[]}).get? s.heap.objs.size=some {cls:=.type "dict",data:=.dict #[]}:=au _ rfl;refine⟨⟨_,C,rfl⟩,F.args_dict_init_2 _ _,?_⟩;have w:=I.laid (t':=s.toks) (λ_ _ q=>af _ q) (aL _) (FC s.heap I.big);have f:iU H s.heap.objs.size (.dT []) l=some (.lst (g.map λq=>.ref q.1)):=by rw[gI (hU L a)];exact L
 obtain⟨gG,rv,pl,J⟩:=w.list (ka.of f);rw[ax]at J;obtain⟨ol,nl,E,n,Y,e4⟩:=id pl;unfold Builtin.«dict.__init__»;refine aq ?_;unfold Builtin.Dict.selfAndRest;refine aq (wpAny_notOrdered_dict ⟨_,C,rfl⟩ ?_);refine ao ?_;show wpAny _ _ (Builtin.Dict.updateFrom "dict.__init__" s.heap.objs.size (.ref l) [] .none) _ _ _;unfold Builtin.Dict.updateFrom;refine aq (wpAny_typeOf ⟨_,E,n⟩ ?_);rw[aR (by decide)];refine aq (Dz E n e4 Y D λS K kp=>?_);have j:=w.kept (t':=K) kp;rw[aR (by rfl)];refine aq (wpAny_rule ?_);obtain⟨v,P,k,_⟩:=j.list (ka.of f);refine aq (wpAny_pyIter_list k.isList ?_);have Z:gP X gx σ (iU H s.heap.objs.size (.dT [])) {s with heap:=S.push {cls:=.type "list_iterator",data:=.fields #[.ref l,.int 0 0]},toks:=K}:=j.kept λb o e=>af _ e;refine ao ⟨plainId_quiet n6 _,y0 (A:=X.A.in1) D (by show X.A.units+1+1<_;omega) g [] _ [] _ _ Z gE (by simpa using f) (λr hr=>?_) (by simpa using J) ⟨_,au _ rfl,rfl,rfl⟩ (j.fpOk (aL _) (j.hok.fresh (aL _))) λs' B=>⟨rfl,.ref s.heap.objs.size,_,?_,rfl,q _ a⟩⟩
 .obtain⟨m,p⟩:=R r hr;exact⟨by rw[gI (hU m a)];exact m,by rw[gI (hU p a)];exact p⟩
 .have e:∀x y:HO,iU (iU H s.heap.objs.size x) s.heap.objs.size y=iU H s.heap.objs.size y:=λx y=>by
   funext b;by_cases z:b=s.heap.objs.size
   .subst z;rw[gE,gE]
   .rw[gI z,gI z,gI z]
  rw[e]at B;exact B
end
end L2
namespace L2
open PySem PySem.W PyProof.Rows
section
variable {lt:Nat->Nat->Bool}{n:Nat}{α β:Type}
def qZ(lt:Nat->Nat->Bool)(n:Nat):KasT α->(α->Prop)->Prop
 |.ret a,Q=>Q a
 |.ask i j k,Q=>i<n/\j<n/\qZ lt n (k (lt i j)) Q
theorem lF{f:α->KasT β}{Q:β->Prop}:∀{t:KasT α},qZ lt n t (λa=>qZ lt n (f a) Q)->qZ lt n (t.bind f) Q
 |.ret _,h=>h
 |.ask i j k,h=>⟨h.1,h.2.1,lF (t:=k (lt i j)) h.2.2⟩
theorem BX{s:Sq}{b:Nat->Nat->(Bool->Shared->Prop)->Shared->Prop}(c:∀i j C,i<n->j<n->C (lt i j) s->b i j C s){Q:α->Shared->Prop}:∀{t:KasT α},qZ lt n t (λa=>Q a s)->t.kasWp b Q s
 |.ret _,h=>h
 |.ask i j k,h=>c i j _ h.1 h.2.1 (BX c (t:=k (lt i j)) h.2.2)
structure qR(lt:Nat->Nat->Bool):Prop where
 tr:∀{a b c},lt b a=false->lt c b=false->lt c a=false
 as:∀{a b},lt a b=true->lt b a=false
def qR.ir(o:qR lt)(a:Nat):lt a a=false:=by
 cases h:lt a a with
 |false=>rfl
 |true=>have:=o.as h;rw[h]at this;exact this
abbrev ve(n:Nat)(p:Array Nat):Prop:=p.Perm (List.range n).toArray
def kr{p:Array Nat}(h:ve n p):p.size=n:=by rw[h.size_eq];simp
def mh{p:Array Nat}(h:ve n p)(a:0<n)(i:Nat):p.getD i 0<n:=by
 rw[cU];cases e:p[i]? with
 |none=>exact a
 |some v=>have:v∈(List.range n).toArray:=h.mem_iff.mp (cV e);simpa using this
def pB{p:Array Nat}{i j:Nat}(a:j<=p.size)(k:Nat):(kas_rev p i j).getD k 0=if i<=k/\k<j then p.getD (i+j-1-k) 0 else p.getD k 0:=by unfold kas_rev;rw[cU,getElem?_mirror_all a];split<;>rw[cU]
def FL{p:Array Nat}{k l:Nat}(c:k<p.size)(d:l<=k)(i:Nat):(bubble p k (k-l)).getD i 0=if i=l then p.getD k 0 else if l<i/\i<=k then p.getD (i-1) 0 else p.getD i 0:=by
 rw[cU,getElem?_bubble c _ (by omega),show k-(k-l)=l by omega];by_cases a:i=l
 .rw[aR a,aR a,cU]
 .rw[aS a,aS a];by_cases b:l<i/\i<=k
  .rw[aR b,aR b,cU]
  .rw[aS b,aS b,cU]
def sW{p:Array Nat}(h:ve n p)(i j:Nat):ve n (kas_rev p i j):=(mirror_perm _ _ _ _).trans h
def C3(lt:Nat->Nat->Bool)(p:Array Nat)(m:Nat):Prop:=∀i j,i<j->j<m->lt (p.getD j 0) (p.getD i 0)=false
def P9(lt:Nat->Nat->Bool)(p:Array Nat)(m:Nat):Prop:=∀i j,i<j->j<m->lt (p.getD i 0) (p.getD j 0)=false
def Qx(lt:Nat->Nat->Bool)(p:Array Nat)(m q:Nat):Prop:=∀i j,m<=i+(q+1)->i<m->m<=j+(q+1)->j<m->lt (p.getD i 0) (p.getD j 0)=false
theorem wN(o:qR lt)(l:0<n){p:Array Nat}(k:ve n p){Q:Nat->Prop}:∀f m,1<=m->C3 lt p m->(∀g,m<=g->g<=m+f->C3 lt p g->(g<m+f->lt (p.getD g 0) (p.getD (g-1) 0)=true)->Q g)->qZ lt n (kas_asc p f m) Q
 |0,m,_,hu,q=>q m (aL _) (aL _) hu λh=>absurd h (bc _)
 |f+1,m,h1,hu,q=>by
  refine⟨mh k l _,mh k l _,?_⟩;cases e:lt (p.getD m 0) (p.getD (m-1) 0) with
  |true=>exact q m (aL _) (cx _ _) hu λ_=>e
  |false=>
   refine wN o l k f (m+1) (by omega) (λi j r v=>?_) λg a b c d=>q g (by omega) (by omega) c λh=>d (by omega);by_cases u:j<m
   .exact hu i j r u
   .obtain rfl:j=m:=by omega
    by_cases s:i=j-1
    .rw[s];exact e
    .exact o.tr (hu i (j-1) (by omega) (by omega)) e
theorem qu(o:qR lt)(u:0<n){Q:Array Nat×Nat×Nat->Prop}:∀f p m q,ve n p->1<=m->m+f<=n->q<m->P9 lt p m->Qx lt p m q->
  (∀k l s,ve n k->m<=l->l<=m+f->s<l->P9 lt k l->Qx lt k l s->Q (k,l,s))->qZ lt n (kas_desc f p m q) Q
 |0,p,m,q,hp,_,_,hq,hd,he,w=>w p m q hp (aL _) (aL _) hq hd he
 |f+1,p,m,q,hp,h1,hf,hq,hd,he,w=>by
  have one:∀k:Array Nat,Qx lt k (m+1) 0:=λk i j a b c d=>by
   obtain rfl:i=m:=by omega
   obtain rfl:j=i:=by omega
   exact o.ir _
  have r:∀i,i<m->lt (p.getD (m-1) 0) (p.getD m 0)=false->lt (p.getD i 0) (p.getD m 0)=false:=λi B e=>by
   by_cases h:i=m-1
   .rw[h];exact e
   .exact o.tr e (hd i (m-1) (by omega) (by omega))
  refine⟨mh hp u _,mh hp u _,?_⟩;cases e:lt (p.getD m 0) (p.getD (m-1) 0) with
  |true=>
   have z:=o.as e;simp only[if_true];by_cases x:q>0
   .rw[aR x];have hr:=pB (p:=p) (i:=m-(q+1)) (j:=m) (by rw[kr hp];omega);refine qu o u f _ (m+1) 0 (sW hp _ _) (by omega) (by omega) (by omega) (λi j g v=>?_) (one _) λk l s a b c d=>w k l s a (by omega) (by omega) d;rw[hr i,hr j];by_cases y:j=m
    .rw[aS (c:=_/\j<m) (by omega),y];split
     .exact r _ (by omega) z
     .exact r _ (by omega) z
    .split
     .rw[aR (by omega)];exact he _ _ (by omega) (by omega) (by omega) (by omega)
     .split
      .exact hd _ _ (by omega) (by omega)
      .exact hd _ _ (by omega) (by omega)
   .rw[aS x];refine qu o u f p (m+1) 0 hp (by omega) (by omega) (by omega) (λi j g v=>?_) (one _) λk l s a b c d=>w k l s a (by omega) (by omega) d;by_cases y:j=m
    .subst y;exact r i g z
    .exact hd i j g (by omega)
  |false=>
   simp only[cm,if_false];refine⟨mh hp u _,mh hp u _,?_⟩;cases A:lt (p.getD (m-1) 0) (p.getD m 0) with
   |true=>exact w p m q hp (aL _) (by omega) hq hd he
   |false=>
    simp only[cm,if_false];refine qu o u f p (m+1) (q+1) hp (by omega) (by omega) (by omega) (λi j g v=>?_) (λi j a b c d=>?_) λk l s a b c d=>w k l s a (by omega) (by omega) d
    .by_cases y:j=m
     .subst y;exact r i g A
     .exact hd i j g (by omega)
    .by_cases B:i=m
     .subst B;by_cases v:j=i
      .subst v;exact o.ir _
      .exact o.tr (he (i-1) j (by omega) (by omega) (by omega) (by omega)) e
     .by_cases v:j=m
      .subst v;exact o.tr A (he i (j-1) (by omega) (by omega) (by omega) (by omega))
      .exact he i j (by omega) (by omega) (by omega) (by omega)
def yA(o:qR lt)(h:0<n){p:Array Nat}{m:Nat}(e:ve n p)(g:1<=m)(r:m<=n)(l:P9 lt p m){Q:Nat×Array Nat->Prop}(w:∀d f,ve n f->1<=d->d<=n->C3 lt f d->Q (d,f)):qZ lt n (kas_tail3 m n p) Q:=by refine lF (wN o h (sW e 0 m) _ m g (λi j k q=>?_) λd a b c _=>w d _ (sW e 0 m) (by omega) (by omega) c);have hr:=pB (p:=p) (i:=0) (j:=m) (by rw[kr e];omega);rw[hr i,hr j,aR (by omega),aR (by omega)];exact l _ _ (by omega) (by omega)
def wa(o:qR lt){p:Array Nat}{m:Nat}(l:ve n p)(u:1<=m)(x:m+1<=n)(s:P9 lt p (m+1)){Q:Nat×Array Nat->Prop}(w:∀g h,ve n h->1<=g->g<=n->C3 lt h g->Q (g,h)):qZ lt n (kas_descPart m n p) Q:=by
 have k:0<n:=by omega
 refine lF (qu o k _ p (m+1) 0 l (by omega) (by omega) (by omega) s (λi j a b c d=>?_) λh g r a b c d e f=>?_)
 .obtain rfl:i=m:=by omega
  obtain rfl:j=i:=by omega
  exact o.ir _
 .dsimp only;split
  .have hr:=pB (p:=h) (i:=g-(r+1)) (j:=g) (by rw[kr a];omega);refine yA o k (sW a _ _) (by omega) (by omega) (λi j q v=>?_) w;rw[hr i,hr j];split
   .rw[aR (by omega)];exact f _ _ (by omega) (by omega) (by omega) (by omega)
   .split
    .exact e _ _ (by omega) (by omega)
    .exact e _ _ (by omega) (by omega)
  .exact yA o k a (by omega) (by omega) e w
def Dr(o:qR lt)(q:0<n){p:Array Nat}(f:ve n p){Q:Nat×Array Nat->Prop}(w:∀l r,ve n r->1<=l->l<=n->C3 lt r l->Q (l,r)):qZ lt n (kas_count n p) Q:=by
 refine lF (wN o q f _ 1 (aL _) (λi j g k=>by omega) λm a b c d=>?_);split
 .exact w m p f a (by omega) c
 .rename_i hne;have h:m<n:=by have:m≠n:=λz=>hne (by rw[z];exact beq_self_eq_true _);omega
  have e:=o.as (d (by omega));split
  .refine⟨mh f q _,mh f q _,?_⟩;cases u:lt (p.getD 0 0) (p.getD (m-1) 0) with
   |true=>exact w m p f a (by omega) c
   |false=>
    have up:∀i j,i<=j->j<m->lt (p.getD j 0) (p.getD i 0)=false:=λi j g k=>by
     by_cases z:i=j
     .rw[z];exact o.ir _
     .exact c i j (by omega) k
    have all:∀i j,i<m->j<m->lt (p.getD i 0) (p.getD j 0)=false:=λi j s k=>o.tr (o.tr (up j (m-1) (by omega) (by omega)) u) (up 0 i (by omega) s);have hr:=pB (p:=p) (i:=0) (j:=m) (by rw[kr f];omega);refine wa o (sW f 0 m) a h (λi j g k=>?_) w;rw[hr i,hr j,aR (c:=0<=i/\i<m) (by omega)];by_cases z:j=m
    .rw[aS (by omega),z];exact o.tr e (all _ _ (by omega) (by omega))
    .rw[aR (by omega)];exact all _ _ (by omega) (by omega)
  .refine wa o f a h (λi j g k=>?_) w;obtain rfl:m=1:=by omega
   obtain rfl:i=0:=by omega
   obtain rfl:j=1:=by omega
   exact e
theorem qT(o:qR lt)(h:0<n){p:Array Nat}(g:ve n p){k:Nat}(d:C3 lt p k){Q:Nat->Prop}(w:∀l,l<=k->(∀i,i<l->lt (p.getD k 0) (p.getD i 0)=false)->(∀i,l<=i->i<k->lt (p.getD k 0) (p.getD i 0)=true)->Q l) :
  ∀f l r,l<=r->r<=k->r<=l+f->(∀i,i<l->lt (p.getD k 0) (p.getD i 0)=false)->(∀i,r<=i->i<k->lt (p.getD k 0) (p.getD i 0)=true)->qZ lt n (kas_place p k f l r) Q
 |0,l,r,h1,h2,h3,a,b=>w l (by omega) a λi j c=>b i (by omega) c
 |f+1,l,r,h1,h2,h3,a,b=>by
  unfold kas_place;split
  .exact w l (by omega) a λi j c=>b i (by omega) c
  .refine⟨mh g h _,mh g h _,?_⟩;cases e:lt (p.getD k 0) (p.getD ((l+r) / 2) 0) with
   |true=>
    refine qT o h g d w f l ((l+r) / 2) (by omega) (by omega) (by omega) a λi j c=>?_;by_cases z:i=(l+r) / 2
    .rw[z];exact e
    .cases y:lt (p.getD k 0) (p.getD i 0) with
     |true=>rfl
     |false=>rw[o.tr (d ((l+r) / 2) i (by omega) c) y]at e;cases e
   |false=>
    refine qT o h g d w f ((l+r) / 2+1) r (by omega) h2 (by omega) (λi j=>?_) b;by_cases z:i=(l+r) / 2
    .rw[z];exact e
    .exact o.tr (d i ((l+r) / 2) (by omega) (by omega)) e
theorem BV(o:qR lt)(m:0<n){Q:Array Nat->Prop}(w:∀g,ve n g->C3 lt g n->Q g):∀f p k,ve n p->k+f=n->C3 lt p k->qZ lt n (kas_bin f p k) Q
 |0,p,k,hp,h,hu=>w p hp (by rw[<-h];exact hu)
 |f+1,p,k,hp,h,hu=>by
  refine lF (qT o m hp hu (λl r a b=>?_) k 0 k (bN _) (aL _) (by omega) (λi e=>by omega) λi e h=>by omega);have q:=FL (p:=p) (k:=k) (l:=l) (by rw[kr hp];omega) r;refine BV o m w f _ (k+1) ((bubble_perm _ _ _).trans hp) (by omega) λi j s v=>?_;rw[q i,q j];by_cases e:i=l
  .rw[aR e,aS (by omega),aR (by omega)];exact o.as (b _ (by omega) (by omega))
  .rw[aS e];by_cases d:j=l
   .rw[aR d,aS (by omega)];exact a _ (by omega)
   .rw[aS d];by_cases u:l<i
    .rw[aR (c:=l<j/\j<=k) (by omega),aR (c:=l<i/\i<=k) (by omega)];exact hu _ _ (by omega) (by omega)
    .rw[aS (c:=l<i/\i<=k) (by omega)];split
     .exact hu _ _ (by omega) (by omega)
     .exact hu _ _ (by omega) (by omega)
def GG(o:qR lt)(c:0<n){Q:Array Nat->Prop}(w:∀p,ve n p->C3 lt p n->Q p):qZ lt n (kas_sort n) Q:=by
 refine lF (Dr o c (Array.Perm.refl _) λm p b d e a=>?_);dsimp only;split
 .exact BV o c w _ p _ b (by omega) (by rw[Nat.max_eq_left d];exact a)
 .refine w p b ?_;obtain rfl:m=n:=by omega
  exact a
end
end L2
namespace L2
open PySem PySem.W PyProof.Rows
section
variable {prog:Program}{w:World}{A:Around}{E:Vq->Shared->Prop}{s:Sq}{lt:Nat->Nat->Bool}
structure Mc(prog:Program)(w:World)(A:Around)(s:Sq)(a:Addr)(vs:List Vq)(κ:SortKind)(lt:Nat->Nat->Bool):Prop where
 kind:∀h',(∀b o,b≠a->s.heap.get? b=some o->h'.get? b=some o)->∀Q:SortKind->Shared->Prop,Q κ {s with heap:=h'}->wpAny (model prog w) A (keyKind' vs.toArray) Q (λ_ _=>False) {s with heap:=h'}
 ask:∀h',(∀b o,b≠a->s.heap.get? b=some o->h'.get? b=some o)->∀i j C,i<vs.length->j<vs.length->C (lt i j) {s with heap:=h'}->kas_ask prog w A κ vs i j C {s with heap:=h'}
def pL{a:Addr}{vs:List Vq}{B:SortKind}{n:Nat}{P:Fin->Shared->Prop}(k:s.heap.get? a=some (seqObj "list" vs.toArray n))(D:2<=vs.length)(r:vs.length<64)(o:qR lt)(C:Mc prog w A s a vs B lt)
  (h:∀p:Array Nat,ve vs.length p->C3 lt p vs.length->P (.done (.ret .none)) {s with heap:=sortedHeap s.heap a vs (List.toArray (p.toList.map λi=>vs.getD i Value.none))}) :
  wpAny (model prog w) A (Builtin.«list.sort» ⟨[.ref a],[]⟩) P E s:=by
 rw[list_sort_plain];have y:a<s.heap.objs.size:=aM k;refine aq (listItems_at k rfl ?_);refine aq (listUpdate_at k rfl ?_);obtain⟨x,ho1⟩:∃x,(s.heap.update a (Obj.mapSeq λ_=>#[])).get? a=some (seqObj "list" #[] x):=⟨_,get?_update_seq k (λ_=>#[])⟩;refine aq (seqEpoch_at ho1 rfl ?_);refine aq (wpAny_newTuple ?_);refine aq (wpAny_newList ?_);refine wpAny_holding ?_;have g:(((s.heap.update a (Obj.mapSeq λ_=>#[])).push (seqObj "tuple" vs.toArray 0)).push (seqObj "list" #[] 0)).get? a=some (seqObj "list" #[] x):=by rw[Heap.get?_push_ne _ _ _ (by rw[size_push',Heap.size_update];exact aN (cu y)),Heap.get?_push_ne _ _ _ (by rw[Heap.size_update];exact aN y)];exact ho1
 have keep:∀b u,b≠a->s.heap.get? b=some u->(((s.heap.update a (Obj.mapSeq λ_=>#[])).push (seqObj "tuple" vs.toArray 0)).push (seqObj "list" #[] 0)).get? b=some u:=λb u I q=>af _ (af _ (by rw[Heap.get?_update_ne _ _ _ _ I];exact q))
 show wpAny (model prog w) A _ P E {s with heap:=((s.heap.update a (Obj.mapSeq λ_=>#[])).push (seqObj "tuple" vs.toArray 0)).push (seqObj "list" #[] 0)};dsimp only;have f:¬vs.toArray.size<2:=by rw[bH];omega
 rw[aS f,aS f];refine aq (wpAny_mono (C.kind _ keep (λF d=>F=B/\d={s with heap:=((s.heap.update a (Obj.mapSeq λ_=>#[])).push (seqObj "tuple" vs.toArray 0)).push (seqObj "list" #[] 0)}) ⟨rfl,rfl⟩) ?_ λ_ _ z=>z.elim);rintro κ' d ⟨rfl,rfl⟩;refine aq (wpAny_mono (kat_run (ks:=vs) (vs:=vs) (Q:=λc d=>∃p:Array Nat,ve vs.length p/\C3 lt p vs.length/\arrOf c=p.map (kas_item (vs.toArray.zip vs.toArray))/\failedOf c=none/\d={s with heap:=((s.heap.update a (Obj.mapSeq λ_=>#[])).push (seqObj "tuple" vs.toArray 0)).push (seqObj "list" #[] 0)})
  (G:=λp d=>ve vs.length p/\C3 lt p vs.length/\d={s with heap:=((s.heap.update a (Obj.mapSeq λ_=>#[])).push (seqObj "tuple" vs.toArray 0)).push (seqObj "list" #[] 0)})
  rfl D r (λp c d L J H v=>⟨p,v.1,v.2.1,J,H,v.2.2⟩) (BX (lt:=lt) (n:=vs.length) (C.ask _ keep) (GG o (by omega) λp j l=>⟨j,l,rfl⟩))) ?_ λ_ _ z=>z)
 rintro⟨⟨⟩,c⟩ d ⟨p,j,l,m,K,rfl⟩;dsimp only;have e:(arrOf c).map (·.2)=List.toArray (p.toList.map λi=>vs.getD i Value.none):=kat_snds rfl m;refine aq (seqEpoch_at g rfl ?_);refine aq (listUpdate_at g rfl ?_ (hsz2:=?_))
 .rw[K];simp only[bne_self_eq_false,cm,if_false];rw[e];exact ao (h p j l)
 .rw[e,bH,ax,bB,kr j,sizeLine_eq];omega
def De{l:Addr}{vs:List Vq}{k:SortKind}{Q:Vq->Shared->Prop}(g:s.heap.IsList l vs.toArray)(j:2<=vs.length)(f:vs.length<64)(o:qR lt)
  (n:∀h',(∀b d,s.heap.get? b=some d->h'.get? b=some d)->Mc prog w A.in1.in1 {s with heap:=h'} (s.heap.objs.size+1) vs k lt)
  (h:∀p:Array Nat,ve vs.length p->C3 lt p vs.length->Q (.ref (s.heap.objs.size+1)) {s with heap:=sortedAll s.heap vs (List.toArray (p.toList.map λi=>vs.getD i Value.none))}) :
  wpAny (model prog w) A (call (.builtin "sorted") [.ref l]) Q E s:=by
 refine Calls.call_function_entry kind_sorted plain_sorted entry_sorted (args_sorted1 _) ?_;unfold Builtin.«sorted»;refine aq (m:=checkCount "sorted" 1 1 _) (ao ?_);refine aq (collect_list g ?_);refine aq (wpAny_newList ?_);have a:((s.heap.push (seqObj "list" #[] 0)).update s.heap.objs.size (Obj.mapSeq (·++vs.toArray))).objs.size=s.heap.objs.size+1:=by rw[Heap.size_update,size_push']
 have e:(((s.heap.push (seqObj "list" #[] 0)).update s.heap.objs.size (Obj.mapSeq (·++vs.toArray))).push (seqObj "list" vs.toArray 0)).get? (s.heap.objs.size+1)=some (seqObj "list" vs.toArray 0):=by rw[<-a];exact au _ rfl
 have keep:∀b d,s.heap.get? b=some d->(((s.heap.push (seqObj "list" #[] 0)).update s.heap.objs.size (Obj.mapSeq (·++vs.toArray))).push (seqObj "list" vs.toArray 0)).get? b=some d:=λb d q=>by have c:b<s.heap.objs.size:=aM q;rw[Heap.get?_push_ne _ _ _ (by rw[a];exact aN (cu c)),Heap.get?_update_ne _ _ _ _ (aN c),Heap.get?_push_ne _ _ _ (aN c)];exact q
 show wpAny _ _ _ _ _ {s with heap:=((s.heap.push (seqObj "list" #[] 0)).update s.heap.objs.size (Obj.mapSeq (·++vs.toArray))).push (seqObj "list" vs.toArray 0)};rw[a];refine aq (wpAny_holding (wpAny_call_entry slot_list_sort ⟨_,e,rfl⟩ entry_list_sort (pL (A:=A.in1.in1) e j f o (n _ keep) λp r u=>⟨_,rfl,?_⟩) (args_list_sort _)));exact ao ⟨_,rfl,h p r u⟩
end
end L2
namespace L2
open PySem PySem.Spec PySem.W PyProof.Rows
def jb:LI->LI->Bool
 |x::xs,y::ys=>if x=y then jb xs ys else decide (x<y)
 |_,_=>false
theorem pC:∀{a b:LI},jb a b=true->jb b a=false
 |[],_,h=>by simp[jb]at h
 |_::_,[],h=>by simp[jb]at h
 |x::a,y::b,h=>by
  unfold jb at h ⊢;by_cases e:x=y
  .rw[aR e]at h;rw[aR e.symm];exact pC h
  .rw[aS e]at h;rw[aS (Ne.symm e)];have:=of_decide_eq_true h;exact aC (by omega)
theorem xH:∀{a b c:LI},a.length=b.length->b.length=c.length->jb b a=false->jb c b=false->jb c a=false
 |[],[],[],_,_,_,_=>rfl
 |x::a,y::b,z::c,h1,h2,p,q=>by
  unfold jb at p q ⊢;simp only[aA,Nat.add_right_cancel_iff]at h1 h2;by_cases e:y=x
  .rw[aR e]at p;by_cases d:z=y
   .rw[aR d]at q;rw[aR (d.trans e)];exact xH h1 h2 p q
   .rw[aS d]at q;rw[aS (by omega)];rw[<-e];exact q
  .rw[aS e]at p;have p:=of_decide_eq_false p;by_cases d:z=y
   .rw[aS (by omega)];exact aC (by omega)
   .rw[aS d]at q;have q:=of_decide_eq_false q;rw[aS (by omega)];exact aC (by omega)
 |[],_::_,_,h,_,_,_=>by simp at h
 |_::_,[],_,h,_,_,_=>by simp at h
 |[],[],_::_,_,h,_,_=>by simp at h
 |_::_,_::_,[],_,h,_,_=>by simp at h
section
variable {prog:Program}{w:World}{A:Around}{E:Vq->Shared->Prop}{s:Sq}
theorem B8{b:Bool}(g:b=true){Q:Bool->Shared->Prop}:∀{d f:List Vq} {a c:LI} (i:Nat),IntsAre d a->IntsAre f c->a.length=c.length->Q (jb a c) s->KatLex prog w A b false Q (d.zip f) i s
 |_,_,_,_,i,.nil,.nil,_,h=>h
 |_,_,_,_,i,.nil,.cons _ _ _,hl,_=>by simp at hl
 |_,_,_,_,i,.cons _ _ _,.nil,hl,_=>by simp at hl
 |_,_,_,_,i,.cons n t hx,.cons m u hy,hl,h=>by
  unfold jb at h;refine kat_cons (wpAny_eqBool_int ?_);by_cases e:n=m
  .rw[aR e]at h;rw[show (n==m)=true from beq_iff_eq.mpr e];exact kat_yes (B8 g (i+1) hx hy (by simpa using hl) h)
  .rw[aS e]at h;rw[show (n==m)=false from beq_eq_false_iff_ne.mpr e];refine kat_no ?_;cases z:(b&&i==0) with
   |true=>exact oneLt_int h
   |false=>exact kat_one _ _ (wpAny_lt_int (show W.BoolBack Q (.bool (decide (n<m))) s from h))
def ux(h:Heap)(a:Addr)(v:Vq)(r:LI):Prop:=∃b o gG n,v=.ref b/\b≠a/\h.get? b=some o/\o.cls=.type "tuple" /\o.data=.seq gG n/\IntsAre gG.toList r
def ux.keep{h h':Heap}{a:Addr}{v:Vq}{r:LI}(x:ux h a v r)(k:∀b o,b≠a->h.get? b=some o->h'.get? b=some o):ux h' a v r:=let ⟨b,o,gG,n,e,hb,ho,q⟩:=x;⟨b,o,gG,n,e,hb,k b o hb ho,q⟩
theorem BZ{h:Heap}{a:Addr}{m:Nat}:∀{vs:List Vq} {rs:LL},Paired (ux h a) vs rs->(∀r∈rs,r.length=m+1)->∃fs,KatTups h vs fs/\fs.length=vs.length/\∀f∈fs,∃i t,f=Value.int i t
 |_,_,.nil,_=>⟨[],trivial,rfl,λ_ h=>nomatch h⟩
 |_,_,.cons (b:=r) x t,hm=>by
  obtain⟨fs,j,l,q⟩:=BZ t λr hr=>hm r (bz _ hr);obtain⟨b,o,gG,n,rfl,B,u,v,y,d⟩:=x;have k:=hm _ bx;have p:gG.toList.length=_:=d.length;obtain⟨f,hf⟩:∃f,gG[0]? = some f:=⟨_,Array.getElem?_eq_getElem (by rw[<-bB,p,k];omega)⟩;refine⟨f::fs,KatTups.cons u v y hf j,by simp[l],λg c=>?_⟩;rcases aG.mp c with rfl|c
  .obtain⟨z,e⟩:=d.int_at 0 g (by simpa using hf);exact⟨_,z,e⟩
  .exact q g c
def B0{a:Addr}{vs:List Vq}{rs:LL}{m:Nat}{p:LI}(hv:Paired (ux s.heap a) vs rs)(y:∀r∈rs,r.length=m+1)(h1:1<=vs.length) :
  Mc prog w A s a vs (tuples' (Value.type "int" != Value.type "tuple")) (λi j=>jb (rs.getD i p) (rs.getD j p)) where
 kind h' k Q q:=by have c:Paired (ux h' a) vs rs:=Paired.mapP hv λv r x=>x.keep k;obtain⟨fs,t,l,h⟩:=BZ c y;refine kat_kind (s:={s with heap:=h'}) t (by omega) (T:=.type "int") (λf Z=>?_) (by decide) q;obtain⟨i,tk,rfl⟩:=h f Z;exact Looks.of_pure rfl
 ask h' k i j C h hj q:=by
  have c:Paired (ux h' a) vs rs:=Paired.mapP hv λv r x=>x.keep k;obtain⟨r,H,b,o,gG,n,K,_,S,hc,X,F⟩:=mM c (ai h);obtain⟨D,g,b',o',d,n',z,_,B,R,u,e⟩:=mM c (ai hj);have U:C (jb r D) {s with heap:=h'}:=by
   have P:rs.getD i p=r:=by rw[ag,H];rfl
   have L:rs.getD j p=D:=by rw[ag,g];rfl
   rw[P,L]at q;exact q
  have I:=y r (av H);have J:=y D (av g);have N:gG.size=m+1:=by rw[<-bB,F.length,I]
  have Y:d.size=m+1:=by rw[<-bB,e.length,J]
  unfold kas_ask;rw[ag,ai h,ag,ai hj];show wpAny (model prog w) A (keyLt' _ vs[i] vs[j]) C _ _;rw[K,z];refine kat_lt (s:={s with heap:=h'}) S X B u ?_;rw[N,Y,aC (bc _)];exact B8 (by decide) 0 F e (by rw[I,J]) U
def Co{rs:LL}{d:LI}{m:Nat}(f:∀r∈rs,r.length=m)(g:d.length=m):qR λi j=>jb (rs.getD i d) (rs.getD j d):=by
 have len:∀i,(rs.getD i d).length=m:=λi=>by
  rw[ag];cases e:rs[i]? with
  |none=>exact g
  |some r=>exact f r (av e)
 exact⟨λ{a b c} p q=>xH (by rw[len,len]) (by rw[len,len]) p q,λ{a b} p=>pC p⟩
end
end L2
namespace L2
open PySem PySem.Spec PySem.W PyProof.Rows
section
variable {prog:Program}{w:World}{A:Around}{E:Vq->Shared->Prop}{s:Sq}
def oC{a:Addr}{vs:List Vq}{n:Nat}{P:Fin->Shared->Prop}(d:s.heap.get? a=some (seqObj "list" vs.toArray n))(i:vs.length<2)
  (h:P (.done (.ret .none)) {s with heap:=sortedHeap s.heap a vs vs.toArray}):wpAny (model prog w) A (Builtin.«list.sort» ⟨[.ref a],[]⟩) P E s:=by
 rw[list_sort_plain];have g:a<s.heap.objs.size:=aM d;refine aq (listItems_at d rfl ?_);refine aq (listUpdate_at d rfl ?_);obtain⟨e,ho1⟩:∃e,(s.heap.update a (Obj.mapSeq λ_=>#[])).get? a=some (seqObj "list" #[] e):=⟨_,get?_update_seq d (λ_=>#[])⟩;refine aq (seqEpoch_at ho1 rfl ?_);refine aq (wpAny_newTuple ?_);refine aq (wpAny_newList ?_);refine wpAny_holding ?_;have c:(((s.heap.update a (Obj.mapSeq λ_=>#[])).push (seqObj "tuple" vs.toArray 0)).push (seqObj "list" #[] 0)).get? a=some (seqObj "list" #[] e):=by rw[Heap.get?_push_ne _ _ _ (by rw[size_push',Heap.size_update];exact aN (cu g)),Heap.get?_push_ne _ _ _ (by rw[Heap.size_update];exact aN g)];exact ho1
 show wpAny (model prog w) A _ P E {s with heap:=((s.heap.update a (Obj.mapSeq λ_=>#[])).push (seqObj "tuple" vs.toArray 0)).push (seqObj "list" #[] 0)};dsimp only;have b:vs.toArray.size<2:=by rw[bH];omega
 rw[aR b,aR b];refine aq (ao ?_);rw[StateT.run_pure];refine aq (ao ?_);dsimp only;refine aq (seqEpoch_at c rfl ?_);have f:(arrOf (SortSt.mk' general' (vs.toArray.zip vs.toArray) #[] 7 none)).map (·.2)=vs.toArray:=by show (vs.toArray.zip vs.toArray).map (·.2)=_;apply Array.toList_inj.mp;simp[List.map_snd_zip]
 refine aq (listUpdate_at c rfl ?_ (hsz2:=?_))
 .simp only[bne_self_eq_false,cm,if_false];rw[f];exact ao h
 .rw[f,bH,sizeLine_eq];omega
def Bf{l:Addr}{vs:List Vq}{Q:Vq->Shared->Prop}(c:s.heap.IsList l vs.toArray)(d:vs.length<2)(h:Q (.ref (s.heap.objs.size+1)) {s with heap:=sortedAll s.heap vs vs.toArray}):wpAny (model prog w) A (call (.builtin "sorted") [.ref l]) Q E s:=by
 refine Calls.call_function_entry kind_sorted plain_sorted entry_sorted (args_sorted1 _) ?_;unfold Builtin.«sorted»;refine aq (m:=checkCount "sorted" 1 1 _) (ao ?_);refine aq (collect_list c ?_);refine aq (wpAny_newList ?_);have b:((s.heap.push (seqObj "list" #[] 0)).update s.heap.objs.size (Obj.mapSeq (·++vs.toArray))).objs.size=s.heap.objs.size+1:=by rw[Heap.size_update,size_push']
 have a:(((s.heap.push (seqObj "list" #[] 0)).update s.heap.objs.size (Obj.mapSeq (·++vs.toArray))).push (seqObj "list" vs.toArray 0)).get? (s.heap.objs.size+1)=some (seqObj "list" vs.toArray 0):=by rw[<-b];exact au _ rfl
 show wpAny _ _ _ _ _ {s with heap:=((s.heap.push (seqObj "list" #[] 0)).update s.heap.objs.size (Obj.mapSeq (·++vs.toArray))).push (seqObj "list" vs.toArray 0)};rw[b];refine aq (wpAny_holding (wpAny_call_entry slot_list_sort ⟨_,a,rfl⟩ entry_list_sort (oC a d ⟨_,rfl,?_⟩) (args_list_sort _)));exact ao ⟨_,rfl,h⟩
end
def nB{a:Type}(l:List a)(d:a):(List.range l.length).map (λi=>l.getD i d)=l:=by refine cW (by simp) λi c b=>?_;simp[b]
def rY{c a:Type}{F:c->a->Prop}{l:List c}{m:List a}(h:Paired F l m)(g:c)(f:a){i:Nat}(d:i<l.length):F (l.getD i g) (m.getD i f):=by obtain⟨b,e,q⟩:=mM h (ai d);rw[ag,ai d,ag,e];exact q
theorem oU{c b a:Type}{F:c->b->Prop}(f:a->c)(g:a->b):∀(l:List a),(∀x∈l,F (f x) (g x))->Paired F (l.map f) (l.map g)
 |[],_=>.nil
 |x::l,h=>.cons (h x bx) (oU f g l λy d=>h y (bz _ d))
end L2
namespace L2.Sp
open PySem PySem.SetTable
theorem t7(g:Array Nat)(j:Nat)(hr:∀a b,a<b->b<g.size->g.getD a 0<g.getD b 0):∀(f d c:Nat),c-d<=f->d<=c->c<=g.size->(∀i,i<d->g.getD i 0<j)->(∀i,c<=i->i<g.size->j<=g.getD i 0)->
  (∀i,i<below.go g j f d c->g.getD i 0<j)/\(∀i,below.go g j f d c<=i->i<g.size->j<=g.getD i 0)/\below.go g j f d c<=g.size
 |0,d,c,hf,hl,hs,h1,h2=>by
  have:d=c:=by omega
  subst this;exact⟨h1,h2,hs⟩
 |f+1,d,c,hf,hl,hs,h1,h2=>by
  unfold below.go;by_cases h:d<c
  .rw[aR h];dsimp only;have p:(d+c) / 2<c:=by omega
   have o:d<=(d+c) / 2:=by omega
   have e:g.getD ((d+c) / 2) j=g.getD ((d+c) / 2) 0:=by
    have:(d+c) / 2<g.size:=by omega
    simp[Array.getD,this]
   by_cases l:g.getD ((d+c) / 2) j<j
   .rw[aR l];refine t7 g j hr f _ c (by omega) (by omega) hs (λi m=>?_) h2;rw[e]at l;by_cases k:i=(d+c) / 2
    .rw[k];exact l
    .exact cJ (hr i _ (by omega) (by omega)) l
   .rw[aS l];refine t7 g j hr f d _ (by omega) (by omega) (by omega) h1 λi m n=>?_;rw[e]at l;by_cases k:i=(d+c) / 2
    .rw[k];omega
    .exact aO (by omega) (bh (hr ((d+c) / 2) i (by omega) n))
  .rw[aS h];have:d=c:=by omega
   subst this;exact⟨h1,h2,hs⟩
abbrev zE(α:Type):=Nat->Option α
abbrev Ow:=zE (Int×Value)
section
variable {α:Type}
def PL(m:Nat)(ow:zE α):List (Nat×α):=(List.range (m+1)).filterMap λj=>(ow j).map λe=>(j,e)
def pre(j:Nat)(ow:zE α):List (Nat×α):=(List.range j).filterMap λj=>(ow j).map λe=>(j,e)
def nR(j:Nat)(ow:zE α):pre (j+1) ow=pre j ow++((ow j).map λe=>(j,e)).toList:=by unfold pre;rw[cO,cP];congr 1
def uv{j:Nat}{ow:zE α}:∀p∈pre j ow,p.1<j/\ow p.1=some p.2:=λp a=>by unfold pre at a;obtain⟨i,b,e⟩:=bF.mp a;obtain⟨x,c,rfl⟩:=cK.mp e;exact⟨aT.mp b,c⟩
def JR{j i:Nat}{ow:zE α}{x:α}(a:i<j)(h:ow i=some x):(i,x)∈pre j ow:=by unfold pre;exact bF.mpr ⟨i,aT.mpr a,by rw[h];rfl⟩
theorem oO(ow:zE α):∀j,((pre j ow).map (·.1)).Pairwise (· < ·)
 |0=>List.Pairwise.nil
 |j+1=>by
  rw[nR,a9];refine cX.mpr ⟨oO ow j,?_,λa g b f=>?_⟩
  .cases ow j<;>simp
  .obtain⟨p,e,rfl⟩:=aE.mp g;obtain⟨q,c,rfl⟩:=aE.mp f;have d:=(uv p e).1;cases h:ow j with
   |none=>rw[h]at c;cases c
   |some x=>
    rw[h]at c;have:q=(j,x):=by simpa using c
    rw[this];exact d
theorem nM{a c:Type}{f g:a->Option c}:∀{l:List a},(∀x∈l,f x=g x)->l.filterMap f=l.filterMap g
 |[],_=>rfl
 |x::l,h=>by rw[bj,bj,h x (bx ..),nM λy b=>h y (bz _ b)]
def KS(m j:Nat)(ow:zE α):List (Nat×α):=(List.range' (j+1) (m-j)).filterMap λj=>(ow j).map λe=>(j,e)
def A2{m j:Nat}(ow:zE α)(a:j<=m):PL m ow=pre j ow++(((ow j).map λe=>(j,e)).toList++KS m j ow):=by rw[<-b7,<-nR];unfold PL pre KS;rw[<-cP];congr 1;rw[cY,cY,show m+1=(j+1)+(m-j) by omega,<-List.range'_append_1];simp
def kC(ow:zE α)(j:Nat)(e:α):zE α:=λi=>if i=j then some e else ow i
def Hz{m j:Nat}{ow:zE α}(b:j<=m)(h:ow j=none)(e:α):PL m ow=pre j ow++KS m j ow/\PL m (kC ow j e)=pre j ow++(j,e)::KS m j ow:=by
 refine⟨by rw[A2 ow b,h];rfl,?_⟩;rw[A2 (kC ow j e) b];have d:pre j (kC ow j e)=pre j ow:=by unfold pre;refine nM λi a=>?_;have:=aT.mp a;unfold kC;rw[aS (by omega)]
 have c:KS m j (kC ow j e)=KS m j ow:=by unfold KS;refine nM λi a=>?_;have:=(cZ.mp a).1;unfold kC;rw[aS (by omega)]
 rw[d,c];unfold kC;rw[aR rfl];rfl
end
structure Tb(t:SetTable)(es:Array (Int×Value))(ow:Ow):Prop where
 pl:t.place.toList=(PL t.mask ow).map (·.1)
 es:es.toList=(PL t.mask ow).map (·.2)
 dm:t.dummies = #[]
section
variable {t:SetTable}{es:Array (Int×Value)}{ow:Ow}
def Tb.rise(T:Tb t es ow):∀a b,a<b->b<t.place.size->t.place.getD a 0<t.place.getD b 0:=λa b c f=>by
 have s:=oO ow (t.mask+1);have e:(pre (t.mask+1) ow).map (·.1)=t.place.toList:=T.pl.symm;rw[e]at s;have d:b<t.place.toList.length:=by simpa using f
 have:=(c5.mp s) a b (by omega) d c;simpa[Array.getD,f,cJ c f] using this
def Tb.below(T:Tb t es ow)(j:Nat)(s:j<=t.mask+1):below t.place j=(pre j ow).length:=by
 obtain⟨l,m,u⟩:=t7 t.place j T.rise t.place.size 0 t.place.size (by omega) (bN _) (aL _) (λi c=>absurd c (c6 i)) λi c f=>absurd f (by omega);show below.go t.place j t.place.size 0 t.place.size=_;generalize below.go t.place j t.place.size 0 t.place.size=B at *;have split:∃r,PL t.mask ow=pre j ow++r/\∀p∈r,j<=p.1:=by
  refine⟨(List.range' j (t.mask+1-j)).filterMap λj=>(ow j).map λe=>(j,e),?_,λp n=>?_⟩
  .unfold PL pre;rw[<-cP];congr 1;rw[cY,cY,show t.mask+1=j+(t.mask+1-j) by omega,<-List.range'_append_1];simp
  .obtain⟨i,c,e⟩:=bF.mp n;obtain⟨x,o,rfl⟩:=cK.mp e;exact (cZ.mp c).1
 obtain⟨r,e,hr⟩:=split;have g:t.place.toList=(pre j ow).map (·.1)++r.map (·.1):=by rw[T.pl,e,a9]
 have sz:t.place.size=(pre j ow).length+r.length:=by have:=congrArg List.length g;simpa using this
 have k:∀i,i<(pre j ow).length->t.place.getD i 0<j:=λi c=>by
  have d:i<t.place.size:=by omega
  have:t.place.getD i 0=t.place.toList[i]'(by simpa using d):=by simp[Array.getD,d]
  rw[this];simp only[g];rw[List.getElem_append_left (by simpa using c),c7];exact (uv _ (aW _)).1
 have h:∀i,(pre j ow).length<=i->i<t.place.size->j<=t.place.getD i 0:=λi c d=>by
  have:t.place.getD i 0=t.place.toList[i]'(by simpa using d):=by simp[Array.getD,d]
  rw[this];simp only[g];rw[List.getElem_append_right (by simpa using c),c7];exact hr _ (aW _)
 rcases dc B (pre j ow).length with q|q|q
 .have a:=k B q;have b:=m B (aL _) (by omega);omega
 .exact q
 .have a:=l (pre j ow).length q;have b:=h (pre j ow).length (aL _) (by omega);omega
def OH{j:Nat}(d:j<=t.mask):∃r,PL t.mask ow=pre j ow++(((ow j).map λe=>(j,e)).toList++r)/\∀p∈r,j<p.1:=by
 refine⟨(List.range' (j+1) (t.mask-j)).filterMap λj=>(ow j).map λe=>(j,e),?_,λp b=>?_⟩
 .rw[<-b7,<-nR];unfold PL pre;rw[<-cP];congr 1;rw[cY,cY,show t.mask+1=(j+1)+(t.mask-j) by omega,<-List.range'_append_1];simp
 .obtain⟨i,a,e⟩:=bF.mp b;obtain⟨x,c,rfl⟩:=cK.mp e;have:=(cZ.mp a).1;omega
def Tb.slot(T:Tb t es ow){j:Nat}(i:j<=t.mask):t.slot j=(match ow j with|some _=>.live (pre j ow).length|none=>.empty)/\(∀x,ow j=some x->es[(pre j ow).length]? = some x):=by
 obtain⟨r,e,hr⟩:=OH (t:=t) (ow:=ow) i;have a:t.place.toList=(pre j ow).map (·.1)++((((ow j).map λe=>(j,e)).toList++r).map (·.1)):=by rw[T.pl,e,a9]
 have f:es.toList=(pre j ow).map (·.2)++((((ow j).map λe=>(j,e)).toList++r).map (·.2)):=by rw[T.es,e,a9]
 have g:t.place[(pre j ow).length]? = ((((ow j).map λe=>(j,e)).toList++r).map (·.1))[0]?:=by rw[<-Array.getElem?_toList,a,List.getElem?_append_right (by simp),ax,de]
 have c:es[(pre j ow).length]? = ((((ow j).map λe=>(j,e)).toList++r).map (·.2))[0]?:=by rw[<-Array.getElem?_toList,f,List.getElem?_append_right (by simp),ax,de]
 have b:has t.dummies j=false:=by rw[T.dm];rfl
 constructor
 .unfold SetTable.slot;dsimp only;rw[T.below j (by omega),g];cases h:ow j with
  |some x=>simp
  |none=>
   have hne:((((none:Option (Int×Value)).map λe=>(j,e)).toList++r).map (·.1))[0]?≠some j:=by
    cases r with
    |nil=>simp
    |cons p r=>have:=hr p (by simp);simp;omega
   rw[aS (by simpa using hne),b];rfl
 .intro x d;rw[c,d];rfl
end
def Bz(m:Nat)(p:Probe):Probe:=
 if p.more>0 then {p with j:=p.j+1,more:=p.more-1} else
 let (i,perturb):=leap m p.i p.perturb
 {p with j:=i,more:=runEnd m i-i,i,perturb}
def PY(m i q:Nat):Probe:={j:=i,more:=runEnd m i-i,i,perturb:=q,dummy:=none}
def st(m:Nat)(h:Int):Nat->Probe
 |0=>PY m (bits h % (m+1)) (bits h)
 |n+1=>Bz m (st m h n)
def lI{m i:Nat}(h:i<=m):i<=runEnd m i/\runEnd m i<=m/\runEnd m i<=i+9:=by unfold runEnd;split<;>omega
structure xQ(m:Nat)(p:Probe):Prop where
 i:p.i<=m
 e:p.j+p.more=runEnd m p.i
 d:p.dummy=none
def Np{m i q:Nat}(h:i<=m):xQ m (PY m i q):=⟨h,by have:=lI h;show i+(runEnd m i-i)=runEnd m i;omega,rfl⟩
def LG{m:Nat}{p:Probe}(h:xQ m p):xQ m (Bz m p):=by
 unfold Bz;by_cases a:p.more>0
 .rw[aR a];exact⟨h.i,by have:=h.e;show p.j+1+(p.more-1)=runEnd m p.i;omega,h.d⟩
 .rw[aS a];have:(leap m p.i p.perturb).1<=m:=by unfold leap;exact dg (dh _ (du m))
  have r:=lI this;exact⟨this,by show (leap m p.i p.perturb).1+(runEnd m (leap m p.i p.perturb).1-(leap m p.i p.perturb).1)=runEnd m (leap m p.i p.perturb).1;omega,h.d⟩
theorem EG(m:Nat)(h:Int):∀n,xQ m (st m h n)
 |0=>Np (dg (dh _ (du m)))
 |n+1=>LG (EG m h n)
def rH(m:Nat)(h:Int)(n:Nat):(st m h n).j<=m:=by have k:=EG m h n;have:=lI k.i;have:=k.e;omega
def lp(m:Nat)(h:Int):Nat->Nat×Nat
 |0=>(bits h % (m+1),bits h)
 |k+1=>leap m (lp m h k).1 (lp m h k).2
theorem Cd(m:Nat)(h:Int):∀k,(lp m h k).1<=m
 |0=>dg (dh _ (du m))
 |k+1=>by show (leap m _ _).1<=m;unfold leap;exact dg (dh _ (du m))
theorem Ay{m:Nat}{h:Int}{n i q:Nat}(b:i<=m)(e:st m h n=PY m i q):∀r,r<=runEnd m i-i->st m h (n+r)={j:=i+r,more:=runEnd m i-i-r,i,perturb:=q,dummy:=none}
 |0,_=>e
 |r+1,hr=>by have a:=Ay b e r (by omega);show Bz m (st m h (n+r))=_;rw[a];unfold Bz;rw[aR (show runEnd m i-i-r>0 by omega)];show ({j:=i+r+1,more:=runEnd m i-i-r-1,i,perturb:=q,dummy:=none}:Probe)=_;congr 1
def nk(m:Nat)(h:Int):Nat->Nat
 |0=>0
 |k+1=>nk m h k+(runEnd m (lp m h k).1-(lp m h k).1)+1
theorem KL(m:Nat)(h:Int):∀k,nk m h k<=10*k
 |0=>aL _
 |k+1=>by have:=KL m h k;have:=lI (Cd m h k);show nk m h k+_+1<=_;omega
theorem xk(m:Nat)(h:Int):∀{a b:Nat},a<b->nk m h a<nk m h b
 |a,b+1,hab=>by
  by_cases e:a=b
  .rw[e];show nk m h b<nk m h b+_+1;omega
  .have:=xk m h (a:=a) (b:=b) (by omega);show _<nk m h b+_+1;omega
theorem GT(m:Nat)(h:Int):∀k,st m h (nk m h k)=PY m (lp m h k).1 (lp m h k).2
 |0=>rfl
 |k+1=>by have e:=GT m h k;have a:=Cd m h k;have r:=lI a;have:=Ay a e (runEnd m (lp m h k).1-(lp m h k).1) (aL _);show Bz m (st m h _)=_;rw[this];unfold Bz;rw[aS (by simp)];rfl
theorem Oe(m:Nat)(h:Int):∀k,(lp m h k).2=bits h / 32 ^ k
 |0=>by simp[lp]
 |k+1=>by show (lp m h k).2 / 32=_;rw[Oe m h k,Nat.div_div_eq_div_mul,dw]
def JK(h:Int):bits h<2 ^ 64:=by unfold bits;have a:=Int.emod_nonneg h (show (2 ^ 64:Int)≠0 by decide);have b:=Int.emod_lt_of_pos h (show (0:Int)<2 ^ 64 by decide);omega
def NR(m:Nat)(h:Int)(k:Nat)(a:13<=k):(lp m h k).2=0:=by rw[Oe];refine Nat.div_eq_of_lt (aF (JK h) ?_);exact aO (show 2 ^ 64<=32 ^ 13 by decide) (dy (by decide) a)
def QM(m i:Nat):Nat:=(i*5+1) % (m+1)
def gG(m:Nat):Nat->Nat->Nat
 |0,i=>i
 |r+1,i=>gG m r (QM m i)
theorem pT(m:Nat):∀a b i,gG m (a+b) i=gG m b (gG m a i)
 |0,b,i=>by rw[aH];rfl
 |a+1,b,i=>by rw[Nat.succ_add];exact pT m a b (QM m i)
def Eo(m r i:Nat):gG m (r+1) i=QM m (gG m r i):=pT m r 1 i
theorem GI(m:Nat)(h:Int):∀r,(lp m h (13+r)).1=gG m r (lp m h 13).1
 |0=>rfl
 |r+1=>by rw[Eo,<-GI m h r];show (leap m (lp m h (13+r)).1 (lp m h (13+r)).2).1=_;rw[NR m h (13+r) (by omega)];rfl
def Ms(m:Nat):Prop:=m=7\/m=31\/m=127
def NP(m:Nat):Bool:=(gG m (m+1) 0==0)&&(List.range (m+1)).all λj=>(List.range (m+1)).any λr=>gG m r 0==j
def Q9:NP 7=true:=by decide +kernel
def Qi:NP 31=true:=by decide +kernel
def OJ:NP 127=true:=by decide +kernel
def Qd{m:Nat}(l:Ms m){i j:Nat}(k:i<=m)(f:j<=m):∃r,r<=m+1/\gG m r i=j:=by
 have ok:NP m=true:=by
  rcases l with rfl|rfl|rfl
  .exact Q9
  .exact Qi
  .exact OJ
 unfold NP at ok;rw[bZ]at ok;have c:gG m (m+1) 0=0:=by simpa using ok.1
 have get:∀j,j<=m->∃r,r<m+1/\gG m r 0=j:=λj f=>by have:=cG.mp ok.2 j (aT.mpr (by omega));obtain⟨r,hr,e⟩:=dz.mp this;exact⟨r,aT.mp hr,by simpa using e⟩
 obtain⟨a,n,g⟩:=get i k;obtain⟨b,o,d⟩:=get j f;by_cases h:a<=b
 .refine⟨b-a,by omega,?_⟩;rw[<-g,<-pT,show a+(b-a)=b by omega,d]
 .refine⟨m+1-a+b,by omega,?_⟩;rw[<-g,<-pT,show a+(m+1-a+b)=(m+1)+b by omega,pT,c,d]
def Pc{m:Nat}(a:Ms m)(h:Int){j:Nat}(b:j<=m):∃K,K<turns m/\(st m h (nk m h K)).j=j:=by obtain⟨r,hr,e⟩:=Qd a (Cd m h 13) b;refine⟨13+r,by unfold turns;omega,?_⟩;rw[GT m h (13+r)];show (lp m h (13+r)).1=j;rw[GI,e]
theorem KG{P:Nat->Prop}:∀n,P n->∃k,k<=n/\P k/\∀i,i<k->¬P i
 |0,h=>⟨0,aL _,h,λi b=>absurd b (c6 i)⟩
 |n+1,h=>by
  by_cases q:∃k,k<=n/\P k
  .obtain⟨k,c,a⟩:=q;obtain⟨j,d,r⟩:=KG k a;exact⟨j,by omega,r⟩
  .exact⟨n+1,aL _,h,λi b a=>q ⟨i,by omega,a⟩⟩
structure Pj{α:Type}(m:Nat)(ow:zE α)(h:Int)(N:Nat):Prop where
 lt:N<10*turns m
 lk:∃K,K<turns m/\N<=nk m h K
 no:ow (st m h N).j=none
 bf:∀i,i<N->ow (st m h i).j≠none
def zk{b:Type}{m:Nat}{ow:zE b}(c:Ms m)(h:Int)(l:∃j,j<=m/\ow j=none):∃N,Pj m ow h N:=by obtain⟨j,i,a⟩:=l;obtain⟨K,k,e⟩:=Pc c h i;obtain⟨N,g,d,f⟩:=KG (P:=λn=>ow (st m h n).j=none) (nk m h K) (by rw[e];exact a);have:=KL m h K;exact⟨N,by omega,⟨K,k,g⟩,d,f⟩
section
variable {t:SetTable}{es:Array (Int×Value)}{ow:Ow}{hashAt:Nat->Int}
theorem zI(T:Tb t es ow)(r:∀i,hashAt i=(es[i]?.map (·.1)).getD 0){h:Int}{N:Nat}(q:ow (st t.mask h N).j=none)(s:∀i,i<N->ow (st t.mask h i).j≠none) :
  ∀(f k:Nat),k<=N->N<k+f->
  (∃n y,k<=n/\n<N/\ow (st t.mask h n).j=some (h,y)/\(∀i,k<=i->i<n->∀x,ow (st t.mask h i).j=some x->x.1≠h)/\
   probe.go t hashAt h f (st t.mask h k)=some (.candidate (st t.mask h n).j (pre (st t.mask h n).j ow).length (st t.mask h (n+1))))\/
  ((∀i,k<=i->i<N->∀x,ow (st t.mask h i).j=some x->x.1≠h)/\probe.go t hashAt h f (st t.mask h k)=some (.empty (st t.mask h N).j none))
 |0,k,hk,hf=>absurd hf (by omega)
 |f+1,k,hk,hf=>by
  have p:=T.slot (rH t.mask h k);by_cases o:k=N
  .subst o;right;refine⟨λi b a=>absurd a (by omega),?_⟩;unfold probe.go;rw[p.1,q];dsimp only;rw[(EG t.mask h k).d]
  .have c:k<N:=by omega
   cases e:ow (st t.mask h k).j with
   |none=>exact absurd e (s k c)
   |some x=>
    have u:=p.2 x e;have w:hashAt (pre (st t.mask h k).j ow).length=x.1:=by rw[r,u];rfl
    have g:probe.go t hashAt h (f+1) (st t.mask h k)=if (x.1==h)=true then some (.candidate (st t.mask h k).j (pre (st t.mask h k).j ow).length (st t.mask h (k+1))) else probe.go t hashAt h f (st t.mask h (k+1)):=by
     conv=>lhs;unfold probe.go
     rw[p.1,e];dsimp only;rw[w];rfl
    by_cases l:x.1=h
    .left;refine⟨k,x.2,aL _,c,?_,λi b a=>absurd a (by omega),?_⟩
     .rw[e,<-l]
     .rw[g,aR (by simpa using l)]
    .rw[g,aS (by simpa using l)];have nk:∀{n:Nat},k+1<=n->(∀i,k+1<=i->i<n->∀x,ow (st t.mask h i).j=some x->x.1≠h)->∀i,k<=i->i<n->∀x,ow (st t.mask h i).j=some x->x.1≠h:=λ{n} _ hn i b a y hy=>by
      by_cases m:i=k
      .rw[m,e]at hy;cases hy;exact l
      .exact hn i (by omega) a y hy
     rcases zI T r q s f (k+1) (by omega) (by omega) with⟨n,y,b,a,v,A,z⟩|⟨b,a⟩
     .exact .inl ⟨n,y,by omega,a,v,nk b A,z⟩
     .exact .inr ⟨nk (by omega) b,a⟩
end
def Og(m:Nat)(ow:Ow):Prop:=∀j e,j<=m->ow j=some e->∃n,(st m e.1 n).j=j/\∀i,i<n->ow (st m e.1 i).j≠none
def JB{m:Nat}{ow:Ow}(P:Og m ow){h:Int}{N:Nat}(F:Pj m ow h N)(x:Vq):Og m (kC ow (st m h N).j (h,x)):=λj e g f=>by
 have keep:∀i,ow i≠none->kC ow (st m h N).j (h,x) i≠none:=λi d=>by
  unfold kC;split
  .simp
  .exact d
 unfold kC at f;by_cases c:j=(st m h N).j
 .rw[aR c]at f;cases f;exact⟨N,c.symm,λi d=>keep _ (F.bf i d)⟩
 .rw[aS c]at f;obtain⟨n,a,b⟩:=P j e g f;exact⟨n,a,λi d=>keep _ (b i d)⟩
def Mf{m:Nat}{ow:Ow}(P:Og m ow){h:Int}{N:Nat}(F:Pj m ow h N){j:Nat}{y:Vq}(c:j<=m)(e:ow j=some (h,y)):∃n,n<N/\(st m h n).j=j:=by
 obtain⟨n,a,b⟩:=P j (h,y) c e;refine⟨n,?_,a⟩;rcases dc n N with q|q|q
 .exact q
 .have:=F.no;rw[<-q,a,e]at this;cases this
 .exact absurd F.no (b N q)
def Ni{t:SetTable}{es:Array (Int×Value)}{ow:Ow}(T:Tb t es ow){j:Nat}(g:j<=t.mask)(h:ow j=none)(e:Int×Value) :
  Tb (t.put j).1 (insertAt es (t.put j).2 e) (kC ow j e)/\(t.put j).1={t with place:=insertAt t.place (t.put j).2 j}:=by
 obtain⟨b,d⟩:=Hz g h e;have c:(t.put j).2=(pre j ow).length:=T.below j (by omega);have f:has t.dummies j=false:=by rw[T.dm];rfl
 have a:(t.put j).1={t with place:=insertAt t.place (t.put j).2 j}:=by unfold SetTable.put;dsimp only;rw[f];rfl
 refine⟨⟨?_,?_,?_⟩,a⟩
 .rw[a];show (insertAt t.place (t.put j).2 j).toList=(PL t.mask (kC ow j e)).map (·.1);rw[SetTable.toList_insertAt,c,T.pl,b,d,a9,a9,dA (by simp),List.drop_left' (by simp)];rfl
 .rw[a];show (insertAt es (t.put j).2 e).toList=(PL t.mask (kC ow j e)).map (·.2);rw[SetTable.toList_insertAt,c,T.es,b,d,a9,a9,dA (by simp),List.drop_left' (by simp)];rfl
 .rw[a];exact T.dm
theorem A5{f:Nat->Bool}:∀(n k:Nat),k<n->f k=true->(∀i,i<k->f i=false)->(List.range n).find? f=some k
 |n,k,hk,h1,h2=>by rw[List.find?_eq_some_iff_append];refine⟨h1,List.range k,List.range' (k+1) (n-k-1),?_,λa b=>by rw[h2 a (aT.mp b)];rfl⟩;rw[cY,cY,show n=k+((n-k-1)+1) by omega,<-List.range'_append_1,List.range'_succ];simp
theorem Cg{m:Nat}{owner:Array (Option Nat)}{h:Int}{N:Nat}(v:owner.size=m+1)(l:owner.getD (st m h N).j none=none)(d:∀i,i<N->owner.getD (st m h i).j none≠none) :
  ∀(f k:Nat),nk m h k<=N->(∃K,K<k+f/\N<=nk m h K)->layClean.free m owner f (lp m h k).1 (lp m h k).2=some (st m h N).j
 |0,k,hk,⟨K,hK,hN⟩=>by have:=xk m h (show K<k by omega);omega
 |f+1,k,hk,⟨K,hK,hN⟩=>by
  have n:=Cd m h k;have y:=lI n;have e:=GT m h k;have g:∀r,r<=runEnd m (lp m h k).1-(lp m h k).1->(st m h (nk m h k+r)).j=(lp m h k).1+r:=λr hr=>by rw[Ay n e r hr]
  have c:∀j,j<=m->owner.getD j (some 0)=owner.getD j none:=λj A=>by
   have:j<owner.size:=by omega
   simp[Array.getD,this]
  unfold layClean.free;by_cases s:N<=nk m h k+(runEnd m (lp m h k).1-(lp m h k).1)
  .have x:=A5 (f:=λq=>(owner.getD ((lp m h k).1+q) (some 0)).isNone) (runEnd m (lp m h k).1+1-(lp m h k).1) (N-nk m h k) (by omega) (by
    have a:=g (N-nk m h k) (by omega);rw[show nk m h k+(N-nk m h k)=N by omega]at a;rw[<-a,c _ (rH m h N),l];rfl) λi o=>by
    have a:=g i (by omega);have:=d (nk m h k+i) (by omega);rw[a]at this;rw[c _ (by rw[<-a];exact rH m h _)];cases b:owner.getD ((lp m h k).1+i) none with
    |none=>exact absurd b this
    |some _=>rfl
   rw[x];dsimp only;have a:=g (N-nk m h k) (by omega);rw[show nk m h k+(N-nk m h k)=N by omega]at a;rw[a]
  .have w:(List.range (runEnd m (lp m h k).1+1-(lp m h k).1)).find? (λq=>(owner.getD ((lp m h k).1+q) (some 0)).isNone)=none:=by
    rw[List.find?_eq_none];intro q b;have b:=aT.mp b;have a:=g q (by omega);have:=d (nk m h k+q) (by omega);rw[a]at this;rw[c _ (by rw[<-a];exact rH m h _)];cases p:owner.getD ((lp m h k).1+q) none with
    |none=>exact absurd p this
    |some _=>simp
   rw[w];dsimp only;have u:nk m h (k+1)<=N:=by show nk m h k+(runEnd m (lp m h k).1-(lp m h k).1)+1<=N;omega
   refine Cg v l d f (k+1) u ⟨K,?_,hN⟩;rcases Nat.lt_or_ge k K with q|q
   .omega
   .exfalso;rcases Nat.lt_or_ge K k with z|z
    .have:=xk m h z;omega
    .have:K=k:=by omega
     rw[this]at hN;omega
structure Ly(m:Nat)(hs:LI)(k:Nat)(owner:Array (Option Nat)):Prop where
 sz:owner.size=m+1
 pm:((PL m λj=>owner.getD j none).map (·.2)).Perm (List.range k)
 pt:∀j i,j<=m->owner.getD j none=some i->∃h,hs[i]? = some h/\∃n,(st m h n).j=j/\∀q,q<n->owner.getD (st m h q).j none≠none
theorem yZ{a:Type}{ow:zE a}:∀n,(∀j,j<n->ow j≠none)->(pre n ow).length=n
 |0,_=>rfl
 |n+1,h=>by
  rw[nR,aU,yZ n λj b=>h j (by omega)];cases e:ow n with
  |none=>exact absurd e (h n (by omega))
  |some x=>simp
def Ou{a:Type}{m:Nat}{ow:zE a}(h:(PL m ow).length<=m):∃j,j<=m/\ow j=none:=aP λz=>by have:=yZ (ow:=ow) (m+1) λj b e=>z ⟨j,by omega,e⟩;have e:PL m ow=pre (m+1) ow:=rfl;rw[e]at h;omega
def Ja{m:Nat}(y:Ms m){hs:LI}{k:Nat}{owner:Array (Option Nat)}(L:Ly m hs k owner)(A:k<=m){h:Int}(s:hs[k]? = some h) :
  ∃j,layClean.free m owner (turns m) (bits h % (m+1)) (bits h)=some j/\Ly m hs (k+1) (owner.setIfInBounds j (some k)):=by
 have z:(PL m λj=>owner.getD j none).length=k:=by have:=L.pm.length_eq;simpa using this
 obtain⟨N,F⟩:=zk y h (Ou (m:=m) (ow:=λj=>owner.getD j none) (by omega));have r:=Cg L.sz F.no F.bf (turns m) 0 (bN _) (by obtain⟨K,a,b⟩:=F.lk;exact⟨K,by omega,b⟩)
 refine⟨(st m h N).j,r,?_⟩;have u:=rH m h N;have g:∀i,(owner.setIfInBounds (st m h N).j (some k)).getD i none=kC (λj=>owner.getD j none) (st m h N).j k i:=λi=>by
  have v:=L.sz;unfold kC;by_cases e:i=(st m h N).j
  .rw[aR e,e];have:(st m h N).j<owner.size:=by omega
   simp[Array.getD,this]
  .rw[aS e];simp only[cU,Array.getElem?_setIfInBounds];rw[aS (Ne.symm e)]
 have l:(λi=>(owner.setIfInBounds (st m h N).j (some k)).getD i none)=kC (λj=>owner.getD j none) (st m h N).j k:=funext g;obtain⟨x,w⟩:=Hz (ow:=λj=>owner.getD j none) u F.no k;refine⟨by simp[L.sz],?_,λj i p e=>?_⟩
 .rw[l,w,a9,bK,cO];have pm:=L.pm;rw[x,a9]at pm;exact (dB).trans (((pm.cons k)).trans (List.perm_append_singleton k (List.range k)).symm)
 .have keep:∀q,owner.getD q none≠none->(owner.setIfInBounds (st m h N).j (some k)).getD q none≠none:=λq f=>by
   rw[g];unfold kC;split
   .simp
   .exact f
  rw[g]at e;unfold kC at e;by_cases c:j=(st m h N).j
  .rw[aR c]at e;cases e;exact⟨h,s,N,c.symm,λq f=>keep _ (F.bf q f)⟩
  .rw[aS c]at e;obtain⟨o,a,n,b,d⟩:=L.pt j i p e;exact⟨o,a,n,b,λq f=>keep _ (d q f)⟩
theorem BB{m:Nat}(d:Ms m){hs:LI}(f:hs.length<=m):∀(a:LI) (k:Nat) (owner:Array (Option Nat)),hs.drop k=a->k+a.length=hs.length->Ly m hs k owner->
  ∃owner',a.foldl (init:=some (owner,k)) (λb h=>do
   let (owner,k) <-b
   let j <-layClean.free m owner (turns m) (bits h % (m+1)) (bits h)
   pure (owner.setIfInBounds j (some k),k+1))=some (owner',hs.length)/\Ly m hs hs.length owner'
 |[],k,owner,_,hk,L=>by
  have:k=hs.length:=by simpa using hk
  subst this;exact⟨owner,rfl,L⟩
 |h::a,k,owner,hd,hk,L=>by
  have p:k<hs.length:=by simp at hk;omega
  have i:hs[k]? = some h:=by have:=congrArg (λl=>l[0]?) hd;simpa using this
  obtain⟨j,e,g⟩:=Ja d L (by omega) i;have c:hs.drop (k+1)=a:=by rw[<-List.drop_drop,hd];rfl
  obtain⟨o,eo,n⟩:=BB d f a (k+1) _ c (by simp at hk;omega) g;refine⟨o,?_,n⟩;rw[List.foldl_cons];show List.foldl _ ((layClean.free m owner (turns m) (bits h % (m+1)) (bits h)).bind λj=>some (owner.setIfInBounds j (some k),k+1)) a=_;rw[e];exact eo
theorem vH{a:Type}(l:List a):∀n,(List.range n).filterMap (λi=>l[i]?)=l.take n
 |0=>rfl
 |n+1=>by rw[cO,cP,vH l n,cQ];congr 1
theorem JI{m:Nat}(S:Ms m)(es:Array (Int×Value))(U:es.size<=m)(finger r:Nat)(u k:Bool):∃t g ow,laid m finger r u k (es.map (·.1))=some (t,g)/\
  t.mask=m/\t.led=u/\t.plain=k/\Tb t (g.filterMap (es[·]?)) ow/\Og m ow/\(g.filterMap (es[·]?)).toList.Perm es.toList:=by
 let hs:LI:=es.toList.map (·.1);have B:hs.length=es.size:=by simp[hs]
 have Q:Ly m hs 0 (Array.replicate (m+1) none):=by
  have E:∀j,(Array.replicate (m+1) (none:Option Nat)).getD j none=none:=λj=>by rw[cU,Array.getElem?_replicate];split<;>rfl
  refine⟨by simp,?_,λj i F e=>?_⟩
  .have:(PL m λj=>(Array.replicate (m+1) (none:Option Nat)).getD j none)=[]:=by unfold PL;rw[List.filterMap_eq_nil_iff];intro j _;show Option.map _ ((Array.replicate (m+1) (none:Option Nat)).getD j none)=none;rw[E];rfl
   rw[this];exact List.Perm.nil
  .rw[E]at e;cases e
 obtain⟨c,eo,L⟩:=BB S (hs:=hs) (by omega) hs 0 _ (by simp) (by simp) Q;have y:layClean m (es.map (·.1))=some c:=by
  unfold layClean;rw[<-Array.foldl_toList];have:(es.map (·.1)).toList=hs:=by simp[hs]
  rw[this];have D:=eo;unfold hs at D ⊢;rw[D];rfl
 let f:List (Nat×Nat):=PL m λj=>c.getD j none;have pm:(f.map (·.2)).Perm (List.range es.size):=by rw[<-B];exact L.pm
 have lt:∀p∈f,p.2<es.size:=λp w=>aT.mp (pm.mem_iff.mp (aE.mpr ⟨p,w,rfl⟩));let ow:Ow:=λj=>(c.getD j none).bind (es[·]?);have o:PL m ow=f.filterMap λp=>(es[p.2]?).map λe=>(p.1,e):=by show (List.range (m+1)).filterMap _=((List.range (m+1)).filterMap _).filterMap _;rw[List.filterMap_filterMap];refine nM λj _=>?_;show ((c.getD j none).bind (es[·]?)).map _=((c.getD j none).map λe=>(j,e)).bind _;cases c.getD j none<;>rfl
 have J:∀p∈f,∃e,es[p.2]? = some e:=λp w=>⟨es[p.2]'(lt p w),by simp[lt p w]⟩;have P:∀l:List (Nat×Nat),(∀p∈l,∃e,es[p.2]? = some e)->(l.filterMap λp=>(es[p.2]?).map λe=>(p.1,e)).map (·.1)=l.map (·.1)/\(l.filterMap λp=>(es[p.2]?).map λe=>(p.1,e)).map (·.2)=(l.map (·.2)).filterMap (es[·]?):=λl=>by
  induction l with
  |nil=>exact λ_=>⟨rfl,rfl⟩
  |cons p l ih=>intro h;obtain⟨e,s⟩:=h p (bx ..);obtain⟨a,b⟩:=ih λq v=>h q (bz _ v);rw[bK,dC (b:=(p.1,e)) (by rw[s];rfl),bK,bK,a,b,bK,dC s];exact⟨rfl,rfl⟩
 obtain⟨K,H⟩:=P f J;have C:((f.map (·.2)).toArray.filterMap (es[·]?)).toList=(PL m ow).map (·.2):=by rw[o,H];simp
 refine⟨_,_,ow,by unfold laid;rw[y];rfl,rfl,rfl,rfl,⟨?_,C,rfl⟩,λj e F s=>?_,?_⟩
 .show (f.map (·.1)).toArray.toList=(PL m ow).map (·.1);rw[o,K]
 .show ∃n,_/\_;cases v:c.getD j none with
  |none=>
   have:ow j=none:=by show (c.getD j none).bind _=none;rw[v];rfl
   rw[this]at s;cases s
  |some i=>
   have R:es[i]? = some e:=by
    have:ow j=es[i]?:=by show (c.getD j none).bind _=_;rw[v];rfl
    rw[<-this];exact s
   obtain⟨h,a,n,b,d⟩:=L.pt j i F v;have N:h=e.1:=by
    have:hs[i]? = some e.1:=by simp[hs,R]
    rw[this]at a;cases a;rfl
   subst N;refine⟨n,b,λq z=>?_⟩;have:=d q z;cases x:c.getD (st m e.1 q).j none with
   |none=>exact absurd x this
   |some i'=>have mem:(st m e.1 q).j<=m:=rH m e.1 q;have:((st m e.1 q).j,i')∈f:=JR (j:=m+1) (by omega) x;obtain⟨X,A⟩:=J _ this;show (c.getD (st m e.1 q).j none).bind _≠none;rw[x];show es[i']?≠none;rw[A];simp
 .refine List.Perm.trans (List.Perm.of_eq C) ?_;rw[o,H];have I:=pm.filterMap (es[·]?);have:(List.range es.size).filterMap (es[·]?)=es.toList:=by have:=vH es.toList es.size;rw[cF (by simp)]at this;rw[<-this];exact nM λi _=>by rw[Array.getElem?_toList]
  rw[this]at I;exact I
end L2.Sp
namespace L2.Sp
open PySem PySem.SetTable
section
variable {prog:Program}{w:World}{A:Around}{E:Vq->Shared->Prop}{s:Sq}
abbrev TK(prog:Program)(w:World)(h:Heap)(ks:LI)(a:Addr):Prop:=IsTupleKey (intKind prog w) h ks a
def yB{ks:LI}{vs:List Vq}(h:ItemsAre (intKind prog w) ks vs):∀v∈vs,∃i t,v=.int i t:=by
 induction h with
 |nil=>intro v hv;cases hv
 |@cons k v' ks vs h1 _ ih=>
  intro v hv;rcases aG.mp hv with rfl|hv
  .obtain⟨t,rfl⟩:=Value.isInt_shape h1;exact⟨k,t,rfl⟩
  .exact ih v hv
def rK{ks:LI}{a:Addr}{Q:Bool->Shared->Prop}(j:TK prog w s.heap ks a)(h:Q false s):wpAny (model prog w) A (ofAClassStatement 8 (.ref a)) Q E s:=by
 have k:=j.typeIs;obtain⟨o,b,n,m,x,p,l⟩:=j;have c:=yB l;unfold ofAClassStatement;refine aq (wpAny_typeOf k ?_);dsimp only;refine aq (ao ?_);show wpAny _ _ (if (!true)=true then _ else _) Q E s;rw[aS (by decide)];refine aq (wpAny_seqItems m p ?_);dsimp only;refine aq ?_;show wpAny _ _ (forIn b _ _) _ _ s;rw[<-dD];refine wpAny_forIn_list _ (λf r d=>r.1=none/\d=s/\∀v∈f,∃i t,v=.int i t) _ ?_ ?_ _ _ ⟨rfl,rfl,c⟩
 .rintro v f r d ⟨hr,rfl,g⟩;obtain⟨i,t,rfl⟩:=g v bx;refine aq (wpAny_of_eq (t:=ofAClassStatement 7 (.int i t)) (a:=false) (by unfold ofAClassStatement;rfl) ?_);simp only[cm,if_false];exact ao ⟨rfl,rfl,λu e=>g u (bz _ e)⟩
 .rintro⟨q,y⟩ d ⟨hr,rfl,_⟩;simp only at hr;subst hr;exact ao h
def Df{ks:LI}{a:Addr}{Q:Bool->Shared->Prop}(j:TK prog w s.heap ks a)(h:Q true s):wpAny (model prog w) A (hashByValue 8 (.ref a)) Q E s:=by
 have k:=j.typeIs;obtain⟨o,b,n,m,x,p,l⟩:=j;have c:=yB l;unfold hashByValue;refine aq (wpAny_specialOf k F.slot_tuple_hash.lookup ?_);dsimp only;refine aq (wpAny_seqItems m p ?_);refine aq ?_;show wpAny _ _ (forIn b _ _) _ _ s;rw[<-dD];refine wpAny_forIn_list _ (λf r d=>r.1=none/\d=s/\∀v∈f,∃i t,v=.int i t) _ ?_ ?_ _ _ ⟨rfl,rfl,c⟩
 .rintro v f r d ⟨hr,rfl,g⟩;obtain⟨i,t,rfl⟩:=g v bx;refine aq (wpAny_of_eq (t:=hashByValue 7 (.int i t)) (a:=true) (by unfold hashByValue;rfl) ?_);simp only[dE,cm,if_false];exact ao ⟨rfl,rfl,λu e=>g u (bz _ e)⟩
 .rintro⟨q,y⟩ d ⟨hr,rfl,_⟩;simp only at hr;subst hr;exact ao h
def Nn{ks:LI}{a:Addr}{l:List Vq}{Q:Bool->Shared->Prop}(j:TK prog w s.heap ks a)(k:∀y∈l,∃b d,y=.ref b/\TK prog w s.heap d b)(h:Q false s) :
  wpAny (model prog w) A (searchCouldBeSeen (.ref a) l) Q E s:=by
 unfold searchCouldBeSeen;refine aq ?_;refine wpAny_forIn_list _ (λg r e=>r.1=none/\e=s/\∀y∈g,∃b d,y=.ref b/\TK prog w s.heap d b) _ ?_ ?_ _ _ ⟨rfl,rfl,k⟩
 .rintro v g r e ⟨hr,rfl,f⟩;obtain⟨b,d,rfl,i⟩:=f v bx;dsimp only;split
  .exact ao ⟨rfl,rfl,λu c=>f u (bz _ c)⟩
  .refine aq (wpAny_eqIsQuiet_tuple j ?_);simp only[dE,cm,if_false];refine aq (wpAny_eqIsQuiet_tuple i ?_);simp only[dE,cm,if_false];refine aq (rK j ?_);simp only[cm,if_false];refine aq (rK i ?_);simp only[cm,if_false];exact ao ⟨rfl,rfl,λu c=>f u (bz _ c)⟩
 .rintro⟨m,n⟩ e ⟨hr,rfl,_⟩;simp only at hr;subst hr;exact ao h
end
end L2.Sp
namespace L2.Sp
open PySem PySem.SetTable
section
variable {prog:Program}{w:World}
abbrev oJ(prog:Program)(w:World)(k:LI):Int:=tupleKeyHash (intKind prog w) k
inductive EK(prog:Program)(w:World)(G:LI->Addr->Prop):List (Int×Value)->LL->Prop
 |nil:EK prog w G [] []
 |cons {k:LI} {a:Addr} {es:List (Int×Value)} {ks:LL}:G k a->EK prog w G es ks->EK prog w G ((oJ prog w k,.ref a)::es) (k::ks)
variable {G:LI->Addr->Prop}{es es':List (Int×Value)}{ks:LL}
def EK.perm(K:EK prog w G es ks)(p:es'.Perm es):∃e,EK prog w G es' e/\e.Perm ks:=by
 replace p:=p.symm;induction p generalizing ks with
 |nil=>exact⟨ks,K,.refl _⟩
 |cons x _ ih=>
  cases K with
  |cons a b=>obtain⟨k,c,d⟩:=ih b;exact⟨_::k,.cons a c,d.cons _⟩
 |swap x y l=>
  cases K with
  |cons a b=>
   cases b with
   |cons c d=>exact⟨_,.cons c (.cons a d),.swap ..⟩
 |trans _ _ ih1 ih2=>obtain⟨k,a,b⟩:=ih1 K;obtain⟨f,c,d⟩:=ih2 a;exact⟨f,c,d.trans b⟩
def EK.mem(K:EK prog w G es ks){e:Int×Value}(b:e∈es):∃k a,k∈ks/\e=(oJ prog w k,.ref a)/\G k a:=by
 induction K with
 |nil=>cases b
 |@cons k a es ks t _ ih=>
  rcases aG.mp b with rfl|b
  .exact⟨k,a,bx ..,rfl,t⟩
  .obtain⟨d,c,x,y⟩:=ih b;exact⟨d,c,bz _ x,y⟩
def EK.has(K:EK prog w G es ks){k:LI}(b:k∈ks):∃a,(oJ prog w k,Value.ref a)∈es/\G k a:=by
 induction K with
 |nil=>cases b
 |@cons k' a es ks t _ ih=>
  rcases aG.mp b with rfl|b
  .exact⟨a,bx ..,t⟩
  .obtain⟨c,x,y⟩:=ih b;exact⟨c,bz _ x,y⟩
def EK.len(K:EK prog w G es ks):es.length=ks.length:=by
 induction K with
 |nil=>rfl
 |cons _ _ ih=>simp[ih]
def EK.keeps{b:LI->Addr->Prop}(K:EK prog w G es ks)(f:∀k a,G k a->b k a):EK prog w b es ks:=by
 induction K with
 |nil=>exact .nil
 |cons t _ ih=>exact .cons (f _ _ t) ih
end
section
variable {prog:Program}{w:World}{A:Around}{E:Vq->Shared->Prop}{s:Sq}
structure TS(prog:Program)(w:World)(G:LI->Addr->Prop)(es:Array (Int×Value))(t:SetTable)(ow:Ow)(ks:LL):Prop where
 tb:Tb t es ow
 pt:Og t.mask ow
 ms:Ms t.mask
 pl:t.plain=true
 rm:es.size*5<t.mask*3
 ld:t.led=!w.params.followText "set-order"
 ek:EK prog w G es.toList ks
def Tb.szs{t:SetTable}{es:Array (Int×Value)}{ow:Ow}(T:Tb t es ow):t.place.size=es.size:=by have a:=congrArg List.length T.pl;have b:=congrArg List.length T.es;simp only[ax,bB]at a b;omega
def Tb.fit{t:SetTable}{es:Array (Int×Value)}{ow:Ow}(T:Tb t es ow)(h:es.size<=t.mask):t.fits es.size=true:=by
 have a:=T.szs;have d:t.dummies.size=0:=by rw[T.dm];rfl
 unfold SetTable.fits SetTable.fill;rw[a,d];simpa using h
def TS.fit{G:LI->Addr->Prop}{es:Array (Int×Value)}{t:SetTable}{ow:Ow}{ks:LL}(T:TS prog w G es t ow ks):t.fits es.size=true:=T.tb.fit (by have:=T.rm;omega)
def Ms.odd{m:Nat}(h:Ms m):(m % 2==0)=false:=by rcases h with rfl|rfl|rfl<;>rfl
def TS.fst{G:LI->Addr->Prop}{es:Array (Int×Value)}{t:SetTable}{ow:Ow}{ks:LL}(T:TS prog w G es t ow ks)(x:Int):∃N,Pj t.mask ow x N:=by refine zk T.ms x (Ou ?_);have b:=congrArg List.length T.tb.es;simp only[ax,bB]at b;have:=T.rm;omega
theorem HC{S:Addr}{o:Obj}{es:Array (Int×Value)}{ep:Nat}{t:SetTable}{ow:Ow}{ks:LL}{k:LI}{a:Addr}{N:Nat}{Q:SetFound->Shared->Prop}(U:A.units<cLine)
  (I:s.heap.get? S=some o) (K:o.data=.set es ep t) (T:TS prog w (TK prog w s.heap) es t ow ks) (J:TK prog w s.heap k a) (l:Pj t.mask ow (oJ prog w k) N)
  (P:k∈ks->Q (.there none) s) (q2:k∉ks->Q (.free (st t.mask (oJ prog w k) N).j false) s) :
  ∀(f n:Nat) (r:Option SetTable.Probe),n<=N->N<n+f->r.getD (t.probeStart (oJ prog w k))=st t.mask (oJ prog w k) n->
   (∀i,i<n->∀b,ow (st t.mask (oJ prog w k) i).j=some (oJ prog w k,.ref b)->¬TK prog w s.heap k b)->
   wpAny (model prog w) A (setSearchFrom S (.ref a) (oJ prog w k) true f r) Q E s
 |0,n,r,hn,hf,_,_=>absurd hf (by omega)
 |f+1,n,r,hn,hf,hs,no=>by
  unfold setSearchFrom;refine aq (wpAny_setState_of I K T.fit ?_);dsimp only;have gw:t.gaveWay=false:=T.ms.odd;rw[gw,hs];simp only[cm,if_false];have tn:turns t.mask=t.mask+15:=rfl;generalize g:t.probe _ (oJ prog w k) (st t.mask (oJ prog w k) n)=met;obtain⟨p,ha,g⟩:∃p:Nat->Int,(∀i,p i=(es[i]?.map (·.1)).getD 0)/\t.probe p (oJ prog w k) (st t.mask (oJ prog w k) n)=met:=⟨_,λi=>rfl,g⟩;have g:probe.go t p (oJ prog w k) (10*turns t.mask) (st t.mask (oJ prog w k) n)=met:=g;rcases zI T.tb ha l.no l.bf (10*turns t.mask) n hn (by have:=l.lt;omega) with⟨u,y,L,B,D,h4,X⟩|⟨L,B⟩
  .rw[g]at X;subst X;dsimp only;have Z:=T.tb.slot (rH t.mask (oJ prog w k) u);have C:=Z.2 _ D;obtain⟨kb,b,v,eb,q⟩:=T.ek.mem (e:=(oJ prog w k,y)) (by rw[bJ];exact cV C)
   have ey:y=.ref b:=(Prod.mk.inj eb).2;subst ey;by_cases d:t.led=true
   case' pos=>rw[d];simp only[dE,cm,if_false]
   case' neg=>
    simp only[Bool.not_eq_true]at d;rw[d];simp only[Bool.not_false,if_true];refine aq (Nn J (λy hy=>?aa) ?bb)
    case aa=>
     obtain⟨e,h,rfl⟩:=aE.mp hy;obtain⟨k2,b2,_,e2,t2⟩:=T.ek.mem (e:=e) (by rw[bJ]at h ⊢;exact (Array.mem_filter.mp h).1)
     exact⟨b2,k2,by rw[e2],t2⟩
    simp only[cm,if_false]
   all_goals
    rw[C]
    dsimp only
    refine aq (wpAny_holding (wpAny_eqBool_tuple U q J ?_))
    refine aq (wpAny_setState_of I K T.fit ?_)
    dsimp only
    by_cases e:kb=k
    .rw[aD e];simp only[Bool.and_self,if_true];exact ao (P (e▸v))
    .rw[aC e];simp only[Bool.and_false,cm,if_false];have sm:t.sameMemory t.moves t.mask=some true:=by unfold SetTable.sameMemory;simp
     rw[sm];dsimp only;simp only[if_true];rw[Z.1,D];dsimp only;rw[C];dsimp only;refine aq (wpAny_isSame_ref_self (aq (ao ?_)));simp only[if_true];exact HC U I K T J l P q2 f (u+1) _ (by omega) (by omega) rfl λi Y b' c hc=>by
      by_cases z:i<n
      .exact no i z b' c hc
      .by_cases H:i<u
       .exact h4 i (by omega) H _ c rfl
       .have:i=u:=by omega
        subst this;rw[D]at c;cases c;exact e (q.inj hc)
  .rw[g]at B;subst B;dsimp only;refine ao (q2 λF=>?_);obtain⟨b,v,q⟩:=T.ek.has F;rw[T.tb.es]at v;obtain⟨⟨j,e⟩,hp,h⟩:=aE.mp v;obtain⟨p1,x⟩:=uv _ hp;dsimp only at p1 x h;subst h;obtain⟨i,Y,R⟩:=Mf T.pt l (by omega) x;by_cases m:i<n
   .exact no i m b (by rw[R];exact x) q
   .exact L i (by omega) Y _ (by rw[R];exact x) rfl
end
end L2.Sp
namespace L2.Sp
open PySem PySem.SetTable
section
variable {prog:Program}{w:World}{A:Around}{E:Vq->Shared->Prop}{s:Sq}
def Ro(prog:Program)(w:World)(G:LI->Addr->Prop)(o:Obj)(ks:LL):Prop:=∃a b t c,o.ExactSet/\o.data=.set a b t/\TS prog w G a t c ks
def SK(prog:Program)(w:World)(G:LI->Addr->Prop)(h:Heap)(S:Addr)(ks:LL):Prop:=∃o,h.get? S=some o/\Ro prog w G o ks
def IA{m n:Nat}(d:Ms m)(b:n*5 >= m*3)(c:(n-1)*5<m*3)(e:n<=70):Ms (sizeAbove (grown n)-1)/\n*5<(sizeAbove (grown n)-1)*3:=by
 have a:∀m∈[7,31,127],∀n,n<71->n*5 >= m*3->(n-1)*5<m*3->((sizeAbove (grown n)-1=7\/sizeAbove (grown n)-1=31\/sizeAbove (grown n)-1=127)/\n*5<(sizeAbove (grown n)-1)*3):=by decide +kernel
 exact a m (by rcases d with rfl|rfl|rfl<;>simp) n (by omega) b c
def uZ{b:Type}(a:Array b)(p:Nat)(x:b):(insertAt a p x).toList.Perm (x::a.toList):=by rw[SetTable.toList_insertAt];have:=@dB _ x (a.toList.take p) (a.toList.drop p);rw[dF]at this;exact this
def Mh{G:LI->Addr->Prop}{S:Addr}{ks:LL}{k:LI}{a:Addr}{Q:Bool->Shared->Prop}(hu:A.units<cLine)(kt:∀k a,G k a->TK prog w s.heap k a)(hS:SK prog w G s.heap S ks)(P:G k a)(hl:ks.length<70)
  (h:∀h' y,Heap.SameBut S s.heap h'->SK prog w G h' S y->(k∈ks->y=ks)->(k∉ks->y.Perm (k::ks))->∀b,Q b {s with heap:=h'}) :
  wpAny (model prog w) A (setAddHashed S (.ref a) (oJ prog w k)) Q E s:=by
 obtain⟨o,F,g,ep,t,ow,B,D,R⟩:=hS;have hk:=kt _ _ P;have T:TS prog w (TK prog w s.heap) g t ow ks:={R with ek:=R.ek.keeps kt};have hle:g.size=ks.length:=by have:=T.ek.len;simpa using this
 unfold setAddHashed setAddHashedIn;refine wpAny_holding (aq (wpAny_setState_of F D T.fit ?_));dsimp only;have hb:byScan (.ref a) g=false:=rfl;rw[hb];simp only[cm,if_false];obtain⟨N,X⟩:=T.fst (oJ prog w k);have hm:t.mask<=127:=by rcases T.ms with e|e|e<;>omega
 unfold setSearch;refine aq (HC hu F D T hk X (λr=>?_) (λr=>?_) 100000 0 none (bN _) (by have:=X.lt;have:turns t.mask=t.mask+15:=rfl;omega) rfl λi hi=>absurd hi (c6 i))
 .exact ao (h s.heap ks (Heap.SameBut.refl S s.heap) ⟨o,F,g,ep,t,ow,B,D,R⟩ (λ_=>rfl) (λq=>absurd r q) false)
 .dsimp only;refine aq (wpAny_setState_of F D T.fit ?_);dsimp only;have hj:(st t.mask (oJ prog w k) N).j<=t.mask:=rH ..;obtain⟨U,Y⟩:=Ni T.tb hj X.no (oJ prog w k,.ref a);have pp:=JB T.pt X (.ref a);generalize hj':(st t.mask (oJ prog w k) N).j=j at *;have C:(t.put j).1.plain=true:=by rw[Y];exact T.pl
  have m:(t.put j).1.mask=t.mask:=by rw[Y]
  have I:(t.put j).1.led=!w.params.followText "set-order" :=by rw[Y];exact T.ld
  rw[C];simp only[if_true];refine aq (Df hk ?_);simp only[if_true];have ip:=uZ g (t.put j).2 (oJ prog w k,Value.ref a);have u:(insertAt g (t.put j).2 (oJ prog w k,Value.ref a)).size=g.size+1:=by have:=ip.length_eq;simpa using this
  have rm:=T.rm;refine aq (wpAny_storeSet_of F D ?_ (fits_of_scanBound (by rw[u];unfold scanBound;omega)));have H:=Heap.SameBut.update s.heap S (Obj.putSet (insertAt g (t.put j).2 (oJ prog w k,Value.ref a)) (t.put j).1);have l:=Heap.get?_update_self (f:=Obj.putSet (insertAt g (t.put j).2 (oJ prog w k,Value.ref a)) (t.put j).1) F;rw[putSet_of _ _ D]at l;replace l:=l rfl;generalize s.heap.update S (Obj.putSet (insertAt g (t.put j).2 (oJ prog w k,Value.ref a)) (t.put j).1)=h1 at *;obtain⟨ks1,K1,K2⟩:=(EK.cons P R.ek).perm ip;generalize hE:insertAt g (t.put j).2 (oJ prog w k,Value.ref a)=es1 at *;generalize (t.put j).1=t1 at *;have fl:t1.fill=es1.size:=by
   have d:t1.dummies.size=0:=by rw[U.dm];rfl
   unfold SetTable.fill;rw[U.szs,d];rfl
  simp only[Bool.not_false,Bool.true_and];rw[<-m]at pp;by_cases x:t1.tooFull=true
  .rw[aR x];unfold setRelay;have v:es1.size*5 >= t1.mask*3:=by unfold SetTable.tooFull at x;rw[fl]at x;simpa using x
   obtain⟨m1,m2⟩:=IA T.ms (n:=g.size+1) (by rw[m,u]at v;exact v) (by simpa using rm) (by omega);have hms:Ms (sizeAbove (grown (g.size+1))-1):=m1;have hm2:sizeAbove (grown (g.size+1))-1<=127:=by rcases m1 with e|e|e<;>omega
   have J:t1.fits es1.size=true:=U.fit (by rw[m];omega);refine aq (aq (wpAny_setState_of l rfl J ?_));dsimp only;have hz:¬(sizeAbove (grown (g.size+1))>sizeLine):=by rw[sizeLine_eq];omega
   rw[aS hz];obtain⟨p,c,Z,l1,l2,l3,l4,l5,l6,l7⟩:=JI hms es1 (by omega) t1.finger (t1.movedTo (sizeAbove (grown (g.size+1))-1)) t1.led t1.plain;have lr:t1.relaid (es1.map (·.1)) (grown (g.size+1))=some (p,c):=l1;rw[lr];have z:(c.filterMap (es1[·]?)).size=es1.size:=by have:=l7.length_eq;rwa [bB,bB]at this
   have hre:∀{Q':Array (Int×Value)×SetTable->Shared->Prop},Q' (c.filterMap (es1[·]?),p) {s with heap:=h1}->
     wpAny (model prog w) A (if ((c.filterMap (es1[·]?)).size != es1.size)=true then (do unsupported "internal:set-table-lost-an-element";pure (c.filterMap (es1[·]?),p)) else pure (c.filterMap (es1[·]?),p)) Q' E {s with heap:=h1}:=λ{Q'} hg=>by
    rw[z];simp only[bne_self_eq_false,cm,if_false];exact ao hg
   refine aq (hre ?_);dsimp only;have rm2:(c.filterMap (es1[·]?)).size*5<p.mask*3:=by rw[z,u,l2];exact m2
   refine wpAny_storeSet_of l rfl ?_ (fits_of_scanBound (by rw[z,u];unfold scanBound;omega));have K:=Heap.SameBut.update h1 S (Obj.putSet (c.filterMap (es1[·]?)) p);have L:=Heap.get?_update_self (Obj.putSet (c.filterMap (es1[·]?)) p) l rfl;rw[putSet_of _ _ rfl]at L;generalize h1.update S (Obj.putSet (c.filterMap (es1[·]?)) p)=h2 at *;obtain⟨ks2,J1,J2⟩:=K1.perm l7;exact ao (h h2 ks2 (H.trans K) ⟨_,L,_,_,p,Z,B,rfl,⟨l5,by rw[l2];exact l6,by rw[l2];exact m1,by rw[l4];exact C,rm2,by rw[l3];exact I,J1⟩⟩ (λq=>absurd q r) (λ_=>J2.trans K2) true)
  .rw[aS x];have v:es1.size*5<t1.mask*3:=by unfold SetTable.tooFull at x;rw[fl]at x;simpa using x
   refine ao (h h1 ks1 H ⟨_,l,es1,_,t1,_,B,rfl,⟨U,pp,by rw[m];exact T.ms,C,v,I,K1⟩⟩ (λq=>absurd q r) (λ_=>K2) true)
end
end L2.Sp
namespace L2.Sp
open PySem PySem.SetTable PyProof.Rows
def SKx(prog:Program)(w:World)(G:LI->Addr->Prop)(h:Heap)(S:Addr)(l:LL):Prop:=∃a,SK prog w G h S a/\a.Nodup/\∀k,k∈a↔k∈l
section
variable {prog:Program}{w:World}{A:Around}{R:Result->Shared->Prop}{I:Addr}{fp wr:List Addr}{G:Array GenState->Array GenState->Prop}{n:Nat}{P:Nat->Value->Prop}{St:Nat->Shared->Prop}
def SKx.to{G:LI->Addr->Prop}{h h':Heap}{S:Addr}{l:LL}(x:SKx prog w G h S l)(k:∀o,h.get? S=some o->h'.get? S=some o):SKx prog w G h' S l:=let ⟨ks,⟨o,a,b⟩,c⟩:=x;⟨ks,⟨o,k o a,b⟩,c⟩
theorem DA(W:WalksS prog w A.in1 I fp wr G n P St)(S:Addr)(B:S∉fp)(hu:A.units+2<cLine)(N:Heap){G2:LI->Addr->Prop}(g0:∀k a,G2 k a->TK prog w N k a)(ne:∀b o,N.get? b=some o->b≠S/\b∉wr)
  (val:Nat->LI) (J:∀i v,P i v->∃a,v=.ref a/\G2 (val i) a) (m:n<70) :
  ∀(k i:Nat) (s:Sq),n-i=k->i<=n->St i s->(∀b o,N.get? b=some o->s.heap.get? b=some o)->
   SKx prog w G2 s.heap S ((List.range i).map val)->
   (∀c,Moved (S::wr) G s c->SKx prog w G2 c.heap S ((List.range n).map val)->R (.ok (.ret .none)) c)->
   codeAny (model prog w) A (.builtin "set.update.loop" ⟨[.ref S,.ref I],[]⟩) R s:=by
 have D:S∉wr:=λh=>B (W.sub _ h);have f:∀b∈wr,b∈S::wr:=λb m=>bz _ m;intro k;induction k with
 |zero=>
  intro i s hk hi l kp hS hR;have d:i=n:=by omega
  subst d;refine codeAny_builtin F.entry_set_update_loop ?_;rw[Around.under_plainId F.plain_set_update_loop _];show wpAny _ A.in1 (pyNext (.ref I) >>= _) _ _ s;refine aq (W.done s _ _ l λc u=>?_);show wpAny _ A.in1 (ret Value.none) _ _ c;exact ao (hR c (u.mono f) (hS.to λo ho=>u.heap S _ D ho))
 |succ k ih=>
  intro i s hk hi l kp hS hR;have y:i<n:=by omega
  refine codeAny_builtin F.entry_set_update_loop ?_;rw[Around.under_plainId F.plain_set_update_loop _];show wpAny _ A.in1 (pyNext (.ref I) >>= _) _ _ s;refine aq (W.item i s _ _ y l λv c hP K u=>?_);obtain⟨a,rfl,tk⟩:=J i v hP;have j:∀b o,N.get? b=some o->c.heap.get? b=some o:=λb o e=>u.heap b o (ne b o e).2 (kp b o e);obtain⟨ks,Z,nd,U⟩:=hS.to (h':=c.heap) λo ho=>u.heap S _ D ho;have hle:ks.length<70:=by have:=nd.length_le_of_subset (l₂:=(List.range i).map val) λk hk=>(U k).mp hk;rw[ax,cT]at this;omega
  show wpAny _ A.in1 (holding [Value.ref a] (setAdd S (.ref a)) >>= _) _ _ c;refine aq (wpAny_holding ?_);unfold setAdd;refine wpAny_holding ?_;have Q:TK prog w c.heap (val i) a:=let ⟨o,gG,n,q,r⟩:=g0 _ _ tk;⟨o,gG,n,j _ _ q,r⟩;have z:A.in1.units<cLine:=by show A.units+1<cLine;omega
  refine aq (wpAny_pyHash_tuple z Q ?_);refine Mh (s:={c with toks:=c.toks+((val i).length+1)}) z (λk a x=>let ⟨o,gG,n,q,r⟩:=g0 k a x;⟨o,gG,n,j _ _ q,r⟩) Z tk hle λh' H g E e1 e2 b=>?_;have X:SKx prog w G2 h' S ((List.range (i+1)).map val):=by
   by_cases d:val i∈ks
   .obtain rfl:=e1 d;refine⟨H,E,nd,λY=>?_⟩;rw[cO,a9,aj,<-U Y];refine⟨.inl,λq=>q.elim id λq=>?_⟩;rw[dG,ak]at q;rw[q];exact d
   .have p:=e2 d;refine⟨H,E,p.nodup_iff.mpr (bR.mpr ⟨d,nd⟩),λY=>?_⟩;rw[p.mem_iff,aG,cO,a9,aj,<-U Y,dG,ak];exact Or.comm
  refine ao ⟨plainId_quiet F.plain_set_update_loop _,ih (i+1) _ (by omega) y (W.frame _ c _ _ K (cx _ _) λb m o e=>?_) (λb o e=>?_) X λs'' C L=>?_⟩
  .rw[g.2 b (λh:b=S=>B (by rw[<-h];exact m))];exact e
  .exact (g.2 b (ne b o e).1).trans (j b o e)
  .refine hR s'' (Moved.trans W.gtrans ((u.mono f).then_heap (cx _ _) λb o m e=>?_) C) L;rw[g.2 b (λh:b=S=>m (by rw[h];exact bx))];exact e
end
section
variable {prog:Program}{w:World}{A:Around}{E:Vq->Shared->Prop}{s:Sq}
def Il(a:Vq){Q₁:Vq->Shared->Prop}
  (h:Q₁ (.ref s.heap.objs.size) {s with heap:=s.heap.push {cls:=.type "set",dict:=none,data:=.set #[] 0 (.fresh 0 0 (!w.params.followText "set-order"))}}) :
  codeAny (model prog w) A (.call (.builtin "set.__new__") ⟨[.type "set",a],[]⟩) (wants Q₁ E) s:=by
 refine codeAny_of_tree ?_;show wpAny _ A.in1 (do checkBuiltinCall "set.__new__" ⟨[.type "set",a],[]⟩;again (.builtin "set.__new__" ⟨[.type "set",a],[]⟩)) _ _ s;refine aq (wpAny_of_eq (F.newCall_set_1 a) (ao ⟨plainId_quiet F.plain_set_new _,codeAny_builtin F.entry_set_new ?_⟩));rw[Around.under_plainId F.plain_set_new _];unfold Builtin.«set.__new__» Builtin.Frozenset.newClass;have b:=sub_set_self;obtain⟨f,g,d,c,e⟩:=s;dsimp only;wp_walk;refine wpAny_askSetting (ao ?_);dsimp only;simp only[newObj];refine aq (wpAny_alloc (ao ?_));exact ao h
theorem set_list{G2:LI->Addr->Prop}{l:Addr}{d:Array Vq}{rs:LL}{Q:Vq->Shared->Prop}
  (hh:A.handled=none) (hu:A.units+8<cLine) (hl:s.heap.IsList l d) (hi:∀i v,d[i]? = some v->∃a,v=.ref a/\G2 (rs.getD i []) a) (g0:∀k a,G2 k a->TK prog w s.heap k a) (hz:d.size=rs.length) (q:d.size<70)
  (h:∀(h':Heap) (L:Nat),SKx prog w G2 h' s.heap.objs.size rs->
   (∀b o,b<s.heap.objs.size->s.heap.get? b=some o->h'.get? b=some o)->Q (.ref s.heap.objs.size) {s with heap:=h',toks:=L}) :
  wpAny (model prog w) A (call (.type "set") [.ref l]) Q E s:=by
 obtain⟨c,tl,hmro⟩:=F.called_set.mro;have P:=F.called_set.made;have hsub:=F.called_set.sub;refine wpAny_call (codeAny_of_tree ?_);show wpAny _ _ (callAny (.type "set") _) _ _ _;refine ao ⟨Code.quiet_builtin _ (by decide +kernel),codeAny_builtin F.entry_type_call ?_⟩;rw[Around.under_plain (weight_type_call_type "set" [.ref l] []) rfl];have h1:=F.called_set.notType;have h2:=F.called_set.canCreate;have hct:=F.typeCall_set_1 (.ref l);(repeat (any_goals (first|assumption|wp_step)));obtain⟨f,hld⟩:∃f:Bool,f=!w.params.followText "set-order" :=⟨_,rfl⟩;refine codeAny_mono (Il (.ref l) (E:=E) (Q₁:=λB n=>B=.ref s.heap.objs.size/\n={s with heap:=s.heap.push {cls:=.type "set",dict:=none,data:=.set #[] 0 (.fresh 0 0 f)}}) ⟨rfl,by rw[hld]⟩) λr n hr=>?_;cases r with
 |error e=>exact hr
 |ok fl=>
  cases fl with
  |ret B=>
   obtain⟨rfl,rfl⟩:=hr;have hS:(s.heap.push {cls:=.type "set",dict:=none,data:=.set #[] 0 (.fresh 0 0 f)}).get? s.heap.objs.size=some {cls:=.type "set",dict:=none,data:=.set #[] 0 (.fresh 0 0 f)}:=au _ rfl;have hT:Shared.TypeIs {s with heap:=s.heap.push {cls:=.type "set",dict:=none,data:=.set #[] 0 (.fresh 0 0 f)}} (.ref s.heap.objs.size) "set" :=⟨_,hS,rfl⟩;have hli:=F.called_set.init.lookup;have hbi:=F.called_set.init.bind (.ref s.heap.objs.size);(repeat (any_goals (first|assumption|wp_step)));refine codeAny_mono (codeAny_call_builtin (R:=wants (λr p=>r=.none/\∃h' L,p={s with heap:=h',toks:=L}/\
     SKx prog w G2 h' s.heap.objs.size rs/\
     (∀b o,b<s.heap.objs.size->s.heap.get? b=some o->h'.get? b=some o)) E) F.called_set.init.plain F.entry_set_init (check_set_init_1 hT ?_)) λz p g=>?_
   .obtain⟨ol,I,y,nl,J⟩:=hl;obtain⟨ocls,u,odata,oslots⟩:=ol;simp only at y J;subst y;subst J;have x:(s.heap.push {cls:=.type "set",dict:=none,data:=.set #[] 0 (.fresh 0 0 f)}).get? l=some {cls:=.type "list",dict:=u,data:=.seq d nl,slots:=oslots}:=af _ I;have hsls:=F.sub_list_set;have hslf:=F.sub_list_frozenset;have hne:(Value.type "list" == Value.type "dict")=false:=by decide
    have C:(s.heap.push {cls:=.type "set",dict:=none,data:=.set #[] 0 (.fresh 0 0 f)}).IsList l d:=⟨_,x,rfl,nl,rfl⟩;unfold Builtin.«set.__init__» noKeywords Builtin.Frozenset.updateFrom;generalize hPI:pyIter=PI;wp_walk;subst hPI;refine wpAny_pyIter_list C ?_;refine aq (wpAny_runValue ?_);have D:l<s.heap.objs.size:=aM I;have S:A.in1.in1.in1.handled=none:=by simp[hh]
    have H:l≠(s.heap.push {cls:=.type "set",dict:=none,data:=.set #[] 0 (.fresh 0 0 f)}).objs.size:=by rw[Heap.size_push];exact aN (cu D)
    have hSf:s.heap.objs.size∉[(s.heap.push {cls:=.type "set",dict:=none,data:=.set #[] 0 (.fresh 0 0 f)}).objs.size,l]:=by rw[Heap.size_push];simp only[aG,ak,dH,or_false,not_or];exact⟨aN (bM _),bC D⟩
    have X:(List.range d.size).map (λi=>rs.getD i [])=rs:=by rw[hz];refine cW (by simp) λi h1 h2=>?_;simp[h2]
    refine DA ((Walks.list S _ l H d).toS) s.heap.objs.size
     hSf (by show A.units+2+2<cLine;omega) s.heap g0 (λb o e=>?hne) (λi=>rs.getD i []) hi q (d.size-0) 0 _ (by omega) (bN _)
     ⟨⟨_,au _ rfl,rfl,rfl⟩,(C.push _)⟩ (λb o e=>af _ (af _ e)) ?hS0 ?hR
    case hne=>have q:=aM e;refine⟨aN q,?_⟩;rw[Heap.size_push];simp only[aG,ak,dH,or_false];exact aN (cu q)
    case hS0=>
     have K:((s.heap.push {cls:=.type "set",dict:=none,data:=.set #[] 0 (.fresh 0 0 f)}).push {cls:=.type "list_iterator",data:=.fields #[.ref l,.int 0 0]}).get? s.heap.objs.size
       = some {cls:=.type "set",dict:=none,data:=.set #[] 0 (.fresh 0 0 f)}:=af _ hS
     have hp:PL 7 (λ_=>(none:Option (Int×Value)))=[]:=rfl;refine⟨[],⟨_,K,#[],0,.fresh 0 0 f,λ_=>none,⟨rfl,rfl,rfl⟩,rfl,⟨⟨rfl,rfl,rfl⟩,(λj e _ he=>nomatch he),.inl rfl,rfl,(by show 0*5<7*3;decide),hld,.nil⟩⟩,cL,λk=>by simp⟩
    case hR=>
     intro s' N m;obtain⟨h',g',d',U,Z⟩:=s';have eg:g'=s.gens:=N.gens;have ed:d'=s.drawn:=N.drawn;have eo:Z=s.os:=N.os;subst eg;subst ed;subst eo;rw[X]at m;show wpAny _ _ _ _ _ _;refine ao ?_;show wpAny _ _ (ret Value.none) _ _ _;refine ao ⟨rfl,h',U,rfl,m,λb o q e=>?_⟩;have hb1:b≠s.heap.objs.size:=aN q;have Y:b≠(s.heap.push {cls:=.type "set",dict:=none,data:=.set #[] 0 (.fresh 0 0 f)}).objs.size:=by rw[Heap.size_push];exact aN (cu q)
     exact N.heap b o (by simp only[aG,ak,dH,or_false,not_or];exact⟨hb1,Y⟩) (af _ (af _ e))
   .cases z with
    |error e=>exact g
    |ok fl₂=>
     cases fl₂ with
     |ret r=>obtain⟨rfl,h',L,rfl,m,hk'⟩:=g;(repeat (any_goals (first|assumption|wp_step)));exact h _ _ m hk'
     |_=>exact g.elim
  |_=>exact hr.elim
end
end L2.Sp
namespace L2.Sp
open PySem PySem.SetTable PyProof.Rows
def jW:Slot "set_iterator" "__next__" "set_iterator.__next__" :=
 .of (owner:= "set_iterator") (n:= "__next__") (by rw[typeLookup_type,builtinLookup_eq_fast];kernel_rfl) (by decide +kernel) (by decide +kernel) (by decide +kernel)
  (by first|exact .inl (by decide +kernel)|exact .inr (by decide +kernel)) (by rw[isSubtype_type];kernel_rfl)
def pJ:Slot "set_iterator" "__iter__" "set_iterator.__iter__" :=
 .of (owner:= "set_iterator") (n:= "__iter__") (by rw[typeLookup_type,builtinLookup_eq_fast];kernel_rfl) (by decide +kernel) (by decide +kernel) (by decide +kernel)
  (by first|exact .inl (by decide +kernel)|exact .inr (by decide +kernel)) (by rw[isSubtype_type];kernel_rfl)
def oG:entryFor table "set_iterator.__next__" = some Builtin.«set_iterator.__next__»:=entryFor_of_tree (by kernel_rfl)
def vh:entryFor table "set_iterator.__iter__" = some Builtin.«dict_keyiterator.__iter__»:=entryFor_alias (id':= "dict_keyiterator.__iter__") (by kernel_rfl) rfl (by decide +kernel) (by kernel_rfl)
def ur:entryFor table "set.__iter__" = some Builtin.«frozenset.__iter__»:=entryFor_alias (id':= "frozenset.__iter__") (by kernel_rfl) rfl (by decide +kernel) (by kernel_rfl)
def zB:Manifest.owners.lookup (String.ofList ['r', 'o', 't', 'a', 'r', 'e', 't', 'i', '_', 't', 'e', 's'].reverse)=some Manifest.sig_set_iterator:=by kernel_rfl
def pS(a:Vq):argsOk "set_iterator.__next__" ⟨[a],[]⟩:=by unfold argsOk;rw[signature?_of (id:= "set_iterator.__next__") (n:=['_', '_', 't', 'x', 'e', 'n', '_', '_']) (o:=['r', 'o', 't', 'a', 'r', 'e', 't', 'i', '_', 't', 'e', 's']) (by kernel_rfl) zB];kernel_rfl
def xM(a:Vq):argsOk "set_iterator.__iter__" ⟨[a],[]⟩:=by unfold argsOk;rw[signature?_of (id:= "set_iterator.__iter__") (n:=['_', '_', 'r', 'e', 't', 'i', '_', '_']) (o:=['r', 'o', 't', 'a', 'r', 'e', 't', 'i', '_', 't', 'e', 's']) (by kernel_rfl) zB];kernel_rfl
theorem Cc{c:Type}(a:Nat->Nat):∀(n k:Nat) (l:List c) (out:Array c),l.length=n->(pickOrder.go a n k l out).toList.Perm (out.toList++l)
 |0,k,l,out,h=>by have:l=[]:=dI.mp h;subst this;unfold pickOrder.go;simp
 |n+1,k,l,out,h=>by
  have b:a k % l.length<l.length:=dh _ (by omega);unfold pickOrder.go;rw[ai b];dsimp only;refine (Cc a n (k+1) (l.eraseIdx (a k % l.length)) _ (by rw[dJ b];omega)).trans ?_;rw[Array.toList_push,b7];refine List.Perm.append_left _ ?_;rw[dM];have p:=@dB _ l[a k % l.length] (l.take (a k % l.length)) (l.drop (a k % l.length+1));have e:l.take (a k % l.length)++l[a k % l.length]::l.drop (a k % l.length+1)=l:=by rw[List.getElem_cons_drop b,dF]
  rw[e]at p;exact p.symm
def wk(w:World)(S:Addr)(ep:Nat)(es:Array (Int×Value)):Array (Int×Value):=if w.params.followText "set-order" = true then pickOrder (w.params.setOrder S ep) es else es
def xb{w:World}{S:Addr}{ep:Nat}{es:Array (Int×Value)}:(wk w S ep es).toList.Perm es.toList:=by
 unfold wk;split
 .have:=Cc (w.params.setOrder S ep) es.size 0 es.toList #[] (by simp);rw[b9]at this;exact this
 .exact List.Perm.refl _
end L2.Sp
namespace L2.Sp
open PySem PySem.SetTable PyProof.Rows
def OE{h:Type}{m:Nat}{ow:zE h}{i:Nat}{p:Nat×h}(l:(PL m ow)[i]? = some p):(pre (p.1+1) ow).length=i+1:=by
 obtain⟨r,e⟩:=uv (j:=m+1) p (av l);rw[nR,e,aU];show _+1=_;have c:=A2 ow (j:=p.1) (show p.1<=m by omega);rw[e]at c;have g:(PL m ow)[(pre p.1 ow).length]? = some p:=by rw[c,List.getElem?_append_right (aL _),de];rfl
 have d:((PL m ow).map (·.1)).Pairwise (· < ·):=oO ow (m+1);have d:=c5.mp d;obtain⟨o,k⟩:=ae.mp l;obtain⟨n,f⟩:=ae.mp g;have a:i<((PL m ow).map (·.1)).length:=by simpa using o
 have b:(pre p.1 ow).length<((PL m ow).map (·.1)).length:=by simpa using n
 rcases dc i (pre p.1 ow).length with q|q|q
 .have:=d i _ a b q;simp[k,f]at this
 .omega
 .have:=d _ i b a q;simp[k,f]at this
section
variable {prog:Program}{w:World}{A:Around}{E:Vq->Shared->Prop}{s:Sq}{S it:Addr}{es:Array (Int×Value)}{ep:Nat}{t:SetTable}{ow:Ow}{ks:LL}{G2:LI->Addr->Prop}{i:Nat}
def At(w:World)(t:SetTable)(ow:Ow)(a:Int)(i:Nat):Prop:=w.params.followText "set-order" = true\/∃j:Nat,a=j/\j<=t.mask+1/\(pre j ow).length=i
def Kf:At w t ow 0 0:=.inr ⟨0,rfl,bN _,rfl⟩
structure p0(h:Heap)(S:Addr)(es:Array (Int×Value))(ep:Nat)(t:SetTable):Prop where
 ob:∃o,h.get? S=some o/\o.ExactSet/\o.data=.set es ep t
def p0.to{h h':Heap}(x:p0 h S es ep t)(k:∀o,h.get? S=some o->h'.get? S=some o):p0 h' S es ep t:=let ⟨o,a,r⟩:=x.ob;⟨o,k o a,r⟩
def p0.lt{h:Heap}(x:p0 h S es ep t):S<h.objs.size:=let ⟨_,a,_⟩:=x.ob;aM a
def p0.ty(x:p0 s.heap S es ep t):s.TypeIs (.ref S) "set" :=let ⟨o,a,c,_⟩:=x.ob;⟨o,a,c.1⟩
theorem IC(x:p0 s.heap S es ep t)(T:TS prog w G2 es t ow ks){g:Int}(a:At w t ow g i)(n:i<es.size){Q:Option (Value×Nat)->Shared->Prop}
  (q:∀e d,(wk w S ep es)[i]? = some e->At w t ow (d:Nat) (i+1)->Q (some (e.2,d)) s):wpAny (model prog w) A (setNext S g.toNat i ep) Q E s:=by
 obtain⟨o,r,C,u⟩:=x.ob;unfold setNext;refine aq (wpAny_setState_of r u T.fit ?_);dsimp only;unfold setsByText;refine aq (aq (wpAny_askSetting (ao ?_)));show wpAny _ _ (if w.params.followText "set-order" = true then _ else _) _ _ _;have B:=T.pl;by_cases b:w.params.followText "set-order" = true
 .rw[aR b];simp only[bne_self_eq_false,cm,if_false];unfold setWalk;refine aq (aq (wpAny_setState_of r u T.fit ?_));dsimp only;unfold setsByText;refine aq (aq (wpAny_askSetting (ao ?_)));show wpAny _ _ (if w.params.followText "set-order" = true then _ else _) _ _ _;rw[aR b];refine aq (wpAny_askSetting (ao ?_));have h:pickOrder (w.params.setOrder S ep) es=wk w S ep es:=by unfold wk;rw[aR b]
  show wpAny _ _ (pure (((pickOrder (w.params.setOrder S ep) es)[i]?).map λe=>(e.2,g.toNat))) Q E s;rw[h];have D:(wk w S ep es).size=es.size:=by have:=(xb (w:=w) (S:=S) (ep:=ep) (es:=es)).length_eq;simpa using this
  have m:(wk w S ep es)[i]? = some (wk w S ep es)[i]:=by rw[Array.getElem?_eq_getElem]
  rw[m];exact ao (q _ _ m (.inl b))
 .rw[aS b];have k:w.params.followText "set-order" = false:=by simpa using b
  have z:t.led=true:=by rw[T.ld,k];rfl
  have h:wk w S ep es=es:=by unfold wk;rw[aS b]
  rcases a with a|⟨j,rfl,y,v⟩
  .exact absurd a b
  .show wpAny _ _ (if (!t.plain&&decide (es.size>1))=true then _ else _) _ _ _;rw[B];simp only[dE,bD,cm,if_false];refine aq (wpAny_of_eq (a:=()) (by show (if (!t.led&&!es.isEmpty)=true then _ else pure ())=pure ();rw[z];rfl) ?_);rw[bV,T.tb.below j y,v];have f:es.toList[i]? = some es[i]:=by simp
   rw[T.tb.es,aw]at f;cases c:(PL t.mask ow)[i]? with
   |none=>rw[c]at f;cases f
   |some p=>
    rw[c]at f;have l:t.place.toList[i]? = some p.1:=by rw[T.tb.pl,aw,c];rfl
    rw[Array.getElem?_toList]at l;rw[l,Array.getElem?_eq_getElem n];dsimp only;refine ao (q es[i] (p.1+1) (by rw[h,Array.getElem?_eq_getElem n]) (.inr ⟨p.1+1,rfl,?_,?_⟩))
    .have:=(uv p (av c)).1;omega
    .exact OE c
end
end L2.Sp
namespace L2.Sp
open PySem PySem.SetTable PyProof.Rows
section
variable {prog:Program}{w:World}{A:Around}{E:Vq->Shared->Prop}{s:Sq}{S it:Addr}{es:Array (Int×Value)}{ep:Nat}{t:SetTable}{ow:Ow}{ks:LL}{G2:LI->Addr->Prop}{i:Nat}
def uW(w:World)(t:SetTable)(ow:Ow)(h:Heap)(it S:Addr)(i n ep:Nat):Prop:=∃o a,h.get? it=some o/\o.cls=.type "set_iterator" /\o.data=.fields #[.int a 0,.int i 0,.ref S,.int n 0,.int ep 0]/\At w t ow a i
def uW.at{h h':Heap}{n:Nat}(x:uW w t ow h it S i n ep)(e:∀o,h.get? it=some o->h'.get? it=some o):uW w t ow h' it S i n ep:=let ⟨o,sl,ho,r⟩:=x;⟨o,sl,e _ ho,r⟩
def uW.ty{n:Nat}(x:uW w t ow s.heap it S i n ep):s.TypeIs (.ref it) "set_iterator" :=let ⟨o,_,ho,c,_⟩:=x;⟨o,ho,c⟩
def Kp(x:p0 s.heap S es ep t)(T:TS prog w G2 es t ow ks){Q:Vq->Shared->Prop}
  (q:Q (.ref s.heap.objs.size) {s with heap:=s.heap.push {cls:=.type "set_iterator",data:=.fields #[.int 0 0,.int 0 0,.ref S,.int es.size 0,.int ep 0]}}):wpAny (model prog w) A (pyIter (.ref S)) Q E s:=by
 obtain⟨o,b,d,a⟩:=x.ob;have c:=T.pl;refine wpAny_pyIter_slot x.ty F.slot_set_iter (wpAny_call_entry F.slot_set_iter x.ty ur ?_ (F.args_set_iter_1 _));unfold Builtin.«frozenset.__iter__»;refine aq (m:=Builtin.Frozenset.slot0 "__iter__" _) (ao ?_);unfold Builtin.Frozenset.sizeOf;refine aq (aq (wpAny_setEntries_of b a T.fit (ao ?_)));refine aq (m:=setDrawn S) ?_;unfold setDrawn;refine aq (wpAny_setState_of b a T.fit ?_);dsimp only;unfold setsByText;refine aq (aq (wpAny_askSetting (ao ?_)));show wpAny _ _ (pure (!(w.params.followText "set-order")&&(!t.plain&&decide (es.size>1)))) _ _ _;rw[c];simp only[dE,bD,Bool.and_false];refine ao ?_;simp only[cm,if_false];refine aq (ao ?_);refine aq (wpAny_setEpoch_of b a T.fit ?_);unfold newFields;refine aq (wpAny_newObj_type (ao ⟨_,rfl, "set_iterator",_,⟨_,au _ rfl,rfl⟩,jW.lookup,?_⟩));simpa[rawInt] using q
def JY{n:Nat}(x:uW w t ow s.heap it S i n ep){Q:Vq->Shared->Prop}(q:Q (.ref it) s):wpAny (model prog w) A (pyIter (.ref it)) Q E s:=by refine wpAny_pyIter_slot x.ty pJ (wpAny_call_entry pJ x.ty vh ?_ (xM _));show wpAny _ _ (ret (.ref it)) _ _ s;exact ao ⟨_,rfl, "set_iterator",_,x.ty,jW.lookup,q⟩
def OK(ne:S≠it)(j:uW w t ow s.heap it S i es.size ep)(x:p0 s.heap S es ep t)(T:TS prog w G2 es t ow ks)(u:i<es.size){Q:Option Vq->Shared->Prop}
  (q:∀h' e,(wk w S ep es)[i]? = some e->uW w t ow h' it S (i+1) es.size ep->Heap.SameBut it s.heap h'->Q (some e.2) {s with heap:=h'}):wpAny (model prog w) A (pyNext (.ref it)) Q E s:=by
 obtain⟨o,z,a,c,f,h⟩:=id j;obtain⟨B,r,y,l⟩:=x.ob;unfold pyNext;refine aq (wpAny_attempt (wpAny_callSpecial?_slot j.ty jW (wpAny_call_entry jW j.ty oG ?_ (pS _))));unfold Builtin.«set_iterator.__next__»;refine aq (m:=slotArgs "__next__" 0 _) (ao ?_);refine aq (wpAny_fieldsOf a f ?_);dsimp only;refine aq (wpAny_setEntries_of r l T.fit ?_);simp only[bne_self_eq_false,cm,if_false,bV];refine aq (IC x T h u λe b n d=>?_);dsimp only;refine aq (wpAny_setField a f (by simp) ?_);have k:=Heap.get?_update_self (Obj.mapFields (·.setIfInBounds 0 (rawInt b))) a (Obj.isFreed_of_fields (Obj.data_mapFields f _));have g:=Obj.data_mapFields f (·.setIfInBounds 0 (rawInt b));have p:(Obj.mapFields (·.setIfInBounds 0 (rawInt b)) o).cls=.type "set_iterator" :=(Obj.cls_mapFields ..).trans c;have v:=Heap.SameBut.update s.heap it (Obj.mapFields (·.setIfInBounds 0 (rawInt b)));generalize Obj.mapFields (·.setIfInBounds 0 (rawInt b)) o=o1 at *;generalize s.heap.update it (Obj.mapFields (·.setIfInBounds 0 (rawInt b)))=h1 at *;refine aq (wpAny_setField (s:={s with heap:=h1}) k g (by simp) ?_);refine ao ⟨_,rfl,ao (q _ e n ?_ (v.trans (Heap.SameBut.update ..)))⟩;refine⟨_,b,Heap.get?_update_self _ k (Obj.isFreed_of_fields (Obj.data_mapFields g _)),(Obj.cls_mapFields ..).trans p,?_,d⟩;rw[Obj.data_mapFields g];simp[rawInt]
end
end L2.Sp
namespace L2.Sp
open PySem PySem.SetTable PyProof.Rows
section
variable {prog:Program}{w:World}{A:Around}{E:Vq->Shared->Prop}{s:Sq}{S it:Addr}{es:Array (Int×Value)}{ep:Nat}{t:SetTable}{ow:Ow}{ks:LL}{G2:LI->Addr->Prop}{i:Nat}
def BE:(wk w S ep es).size=es.size:=by have:=(xb (w:=w) (S:=S) (ep:=ep) (es:=es)).length_eq;simpa using this
def Hk(x:p0 s.heap S es ep t)(T:TS prog w G2 es t ow ks){c:Int}(a:At w t ow c es.size){Q:Option (Value×Nat)->Shared->Prop}
  (q:Q none s):wpAny (model prog w) A (setNext S c.toNat es.size ep) Q E s:=by
 obtain⟨o,f,p,g⟩:=x.ob;unfold setNext;refine aq (wpAny_setState_of f g T.fit ?_);dsimp only;unfold setsByText;refine aq (aq (wpAny_askSetting (ao ?_)));show wpAny _ _ (if w.params.followText "set-order" = true then _ else _) _ _ _;have m:=T.pl;by_cases b:w.params.followText "set-order" = true
 .rw[aR b];simp only[bne_self_eq_false,cm,if_false];unfold setWalk;refine aq (aq (wpAny_setState_of f g T.fit ?_));dsimp only;unfold setsByText;refine aq (aq (wpAny_askSetting (ao ?_)));show wpAny _ _ (if w.params.followText "set-order" = true then _ else _) _ _ _;rw[aR b];refine aq (wpAny_askSetting (ao ?_));have n:pickOrder (w.params.setOrder S ep) es=wk w S ep es:=by unfold wk;rw[aR b]
  show wpAny _ _ (pure (((pickOrder (w.params.setOrder S ep) es)[es.size]?).map λe=>(e.2,c.toNat))) Q E s;rw[n,Array.getElem?_eq_none (by rw[BE];exact aL _)];exact ao q
 .rw[aS b];have d:w.params.followText "set-order" = false:=by simpa using b
  have l:t.led=true:=by rw[T.ld,d];rfl
  rcases a with a|⟨j,rfl,k,h⟩
  .exact absurd a b
  .show wpAny _ _ (if (!t.plain&&decide (es.size>1))=true then _ else _) _ _ _;rw[m];simp only[dE,bD,cm,if_false];refine aq (wpAny_of_eq (a:=()) (by show (if (!t.led&&!es.isEmpty)=true then _ else pure ())=pure ();rw[l];rfl) ?_);rw[bV,T.tb.below j k,h,Array.getElem?_eq_none (aL _)];exact ao q
def K8(g:A.handled=none)(j:uW w t ow s.heap it S es.size es.size ep)(x:p0 s.heap S es ep t)(T:TS prog w G2 es t ow ks){Q:Option Vq->Shared->Prop}
  (q:∀h',Heap.ExtBut it s.heap h'->Q none {s with heap:=h'}):wpAny (model prog w) A (pyNext (.ref it)) Q E s:=by
 obtain⟨o,h,a,c,d,b⟩:=id j;obtain⟨k,e,l,f⟩:=x.ob;unfold pyNext;refine aq (wpAny_attempt (wpAny_callSpecial?_slot j.ty jW (wpAny_call_entry jW j.ty oG ?_ (pS _))));unfold Builtin.«set_iterator.__next__»;refine aq (m:=slotArgs "__next__" 0 _) (ao ?_);refine aq (wpAny_fieldsOf a d ?_);dsimp only;refine aq (wpAny_setEntries_of e f T.fit ?_);simp only[bne_self_eq_false,cm,if_false,bV];refine aq (Hk x T b ?_);dsimp only;refine aq (wpAny_setField a d (by simp) ?_);refine aq ?_;simp only[newExc,newTuple];refine aq (wpAny_newObj_type ?_ (by size_fits));refine aq (wpAny_of_eq (by first|rfl|(simp only[firstArgMember];rfl)) ?_);refine wpAny_newObj_type ?_ (by size_fits);simp only[raiseNew];refine aq (wpAny_handled ?_);rw[show A.in1.handled=none from g];refine aq (ao (wpAny_throw ?_));refine aq (wpAny_isInstance ⟨_,au _ rfl,rfl⟩ isSubtype_stop ?_);exact ao (q _ (((Heap.SameBut.update ..).extBut.push _).push _))
def E8(d:A.handled=none)(I S:Addr)(ne:S≠I)(T:TS prog w G2 es t ow ks) :
  Walks prog w A I [I,S] [I] es.size (λi v=>∃e,(wk w S ep es)[i]? = some e/\v=e.2) (λi h=>uW w t ow h I S i es.size ep/\p0 h S es ep t) where
 sub:=λb a=>by simp at a;simp[a]
 frame:=λ_ _ _ x k=>⟨x.1.at λo e=>k I (by simp) o e,x.2.to λo e=>k S (by simp) o e⟩
 item:=λi s Q E g x q=>OK ne x.1 x.2 T g λc e f j k=>q _ c s.toks ⟨e,f,rfl⟩ ⟨j,x.2.to λo e=>k.extBut S o ne e⟩ λb o a e=>k.extBut b o (λz=>a (by simp[z])) e
 done:=λs Q E x q=>K8 d x.1 x.2 T λc k=>q c s.toks λb o a e=>k b o (λz=>a (by simp[z])) e
 self:=λ_ _ _ _ x q=>JY x.1 q
def Ho(c:s.TypeIs (.ref S) "set"){Q:Bool->Shared->Prop}(h:Q false s):wpAny (model prog w) A (Builtin.List.listLengthHint (.ref S)) Q E s:=by unfold Builtin.List.listLengthHint;refine aq (wpAny_specialOf c PySem.F.slot_set_len.lookup ?_);generalize mq:("set.__len__" : String)=id0;wp_delta;rw[show splitId id0=some ("set", "__len__") from by subst mq;decide +kernel];subst mq;refine aq (wpAny_isInstance (T:= "set") (b:=true) c (by rw[isSubtype_type];kernel_rfl) ?_);refine wpAny_ite_split (λa=>absurd a (by decide)) (λ_=>?_);refine wpAny_ite_split (λ_=>?_) (λa=>absurd (by decide +kernel) a);refine aq (wpAny_typeOf c ?_);exact ao h
def Ke(T:TS prog w G2 es t ow ks):W.KdlSrc prog w "set" S S es.size (λi v=>∃e,(wk w S ep es)[i]? = some e/\v=e.2) (λh=>p0 h S es ep t) where
 type:=λ_ x=>x.ty
 there:=λ_ x=>⟨x.lt,x.lt⟩
 keep:=λ_ _ x k=>x.to λo e=>k S (.inl rfl) o e
 notList:=by decide
 notTuple:=by decide
 hint:=λ_ _ _ _ x q=>Ho x.ty q
 iter:=λ_ _ a x=>⟨_,_,(λ_ _ q=>Kp x T q),E8 a _ S (aN x.lt) T,⟨⟨_,0,au _ rfl,rfl,rfl,Kf⟩,x.to λo e=>af _ e⟩⟩
theorem collect_set{l:LL}{R:List Vq->Shared->Prop}(v:A.handled=none)(F:SKx prog w G2 s.heap S l)(H:l.length<70)
  (h:∀(h':Heap) (n:Nat) (bs:List Addr) (ks:LL),(∀b o,s.heap.get? b=some o->h'.get? b=some o)->ks.Nodup->(∀k,k∈ks↔k∈l)->Paired (λb k=>G2 k b) bs ks->R (bs.map Value.ref) {s with heap:=h',toks:=n}) :
  wpAny (model prog w) A (collect (.ref S)) R E s:=by
 obtain⟨ks,⟨o,y,es,ep,t,ow,u,D,T⟩,nd,q⟩:=F;have C:es.size<=sizeLine:=by have a:=T.ek.len;have b:=nd.length_le_of_subset (l₂:=l) λk j=>(q k).mp j;rw[bB]at a;rw[sizeLine_eq];omega
 refine W.kdu_collect (Ke T) v ⟨o,y,u,D⟩ C λh' n c j d=>?_;obtain⟨m,f,pm⟩:=T.ek.perm (xb (w:=w) (S:=S) (ep:=ep) (es:=es));have e:c.toList=(wk w S ep es).toList.map (·.2):=by
  refine List.ext_getElem? λi=>?_;by_cases r:i<c.size
  .obtain⟨e,x,hv⟩:=d.2 i c[i] (Array.getElem?_eq_getElem r);rw[Array.getElem?_toList,Array.getElem?_eq_getElem r,aw,Array.getElem?_toList,x,hv];rfl
  .have B:c.size=es.size:=d.1;rw[List.getElem?_eq_none (by simp;omega),List.getElem?_eq_none (by simp[BE];omega)]
 have g:∀{es:List (Int×Value)} {ks:LL},EK prog w G2 es ks->∃bs:List Addr,es.map (·.2)=bs.map Value.ref/\Paired (λb k=>G2 k b) bs ks:=λ{es ks} f=>by
  induction f with
  |nil=>exact⟨[],rfl,.nil⟩
  |@cons k a es ks t _ ih=>obtain⟨bs,e,p⟩:=ih;exact⟨a::bs,by rw[bK,e];rfl,.cons t p⟩
 obtain⟨bs,z,p⟩:=g f;rw[e,z];exact h h' n bs m j (pm.nodup_iff.mpr nd) (λk=>(pm.mem_iff).trans (q k)) p
end
end L2.Sp
namespace L2
open PySem PySem.Spec PySem.W PyProof.Rows
theorem tP{prog:Program}{w:World}:∀{r:LI} {vs:List Vq},ItemsAre (intKind prog w) r vs->IntsAre vs r
 |_,_,.nil=>.nil
 |_,_,.cons h t=>by obtain⟨a,rfl⟩:=Value.isInt_shape h;exact .cons _ a (tP t)
theorem tM{prog:Program}{w:World}:∀{r:LI} {vs:List Vq},IntsAre vs r->ItemsAre (intKind prog w) r vs
 |_,_,.nil=>.nil
 |_,_,.cons n t h=>.cons (intKind_is _ _ _ _) (tM h)
section
variable {prog:Program}{w:World}{A:Around}{E:Vq->Shared->Prop}{s:Sq}
theorem Af{G:LI->Addr->Prop}{S:Addr}{l:LL}{m:Nat}{Q:Vq->Shared->Prop}(hh:A.handled=none)(hS:Sp.SKx prog w G s.heap S l)(hG:∀k a,G k a->Sp.TK prog w s.heap k a)(hm:∀r∈l,r.length=m)(hl:l.length<64)
  (q:∀(h':Heap) (D:Nat) (L:Addr) (e:Nat) (bs:List Addr) (rs:LL),(∀b o,s.heap.get? b=some o->h'.get? b=some o)->S<L->h'.get? L=some (seqObj "list" (bs.map Value.ref).toArray e)->Paired (λb k=>G k b) bs rs->rs.Nodup->(∀k,k∈rs↔k∈l)->
   rs.Pairwise (λa b=>jb b a=false)->Q (.ref L) {s with heap:=h',toks:=D}):wpAny (model prog w) A (call (.builtin "sorted") [.ref S]) Q E s:=by
 refine Calls.call_function_entry kind_sorted plain_sorted entry_sorted (args_sorted1 _) ?_;unfold Builtin.«sorted»;refine aq (m:=checkCount "sorted" 1 1 _) (ao ?_);refine aq (Sp.collect_set (A:=A.in1) hh hS (by omega) λd D bs rs U nd mm N=>?_);have C:bs.length=rs.length:=Paired.length N;have lr:rs.length<64:=by have:=nd.length_le_of_subset (l₂:=l) λk hk=>(mm k).mp hk;omega
 refine aq (wpAny_newList ?_ (by rw[ax,C,sizeLine_eq];omega));have h:(d.push (seqObj "list" (bs.map Value.ref).toArray 0)).get? d.objs.size=some (seqObj "list" (bs.map Value.ref).toArray 0):=au _ rfl;show wpAny _ _ _ _ _ {s with heap:=d.push (seqObj "list" (bs.map Value.ref).toArray 0),toks:=D};have J:∀b o,s.heap.get? b=some o->(d.push (seqObj "list" (bs.map Value.ref).toArray 0)).get? b=some o:=λb o e=>af _ (U b o e);have Z:S<d.objs.size:=by obtain⟨_,⟨o,R,_⟩,_⟩:=hS;exact aM (U _ _ R)
 have H:∀(g:List Addr) (f:LL),Paired (λb k=>G k b) g f->f.Perm rs->f.Pairwise (λa b=>jb b a=false)->
   Q (.ref d.objs.size) {s with heap:=sortedHeap (d.push (seqObj "list" (bs.map Value.ref).toArray 0)) d.objs.size (bs.map Value.ref) (g.map Value.ref).toArray,toks:=D}:=λg f Y pm pw=>by
  obtain⟨e,he⟩:=sortedHeap_at (vs:=bs.map Value.ref) (out:=(g.map Value.ref).toArray) h;refine q _ D d.objs.size e g f (λb o P=>?_) Z he Y (pm.nodup_iff.mpr nd) (λk=>pm.mem_iff.trans (mm k)) pw;have F:=aM (U b o P);rw[sortedHeap_old (aN F) (by rw[size_push'];exact cu F)];exact J b o P
 by_cases u:rs.length<2
 .refine aq (wpAny_holding (wpAny_call_entry slot_list_sort ⟨_,h,rfl⟩ entry_list_sort (oC (A:=A.in1.in1) h (by rw[ax,C];exact u) ⟨_,rfl,?_⟩) (args_list_sort _)));refine ao ⟨_,rfl,H bs rs N (List.Perm.refl _) ?_⟩;match rs,u with
  |[],_=>exact .nil
  |[_],_=>exact dN _ _
 .have c:∀r∈rs,r.length=m:=λr hr=>hm r ((mm r).mp hr);obtain⟨k,hk⟩:∃k,m=k+1:=by
   rcases dO m with z|z
   .exfalso;match rs,u,c,nd with
    |[],u,_,_=>exact u (by simp)
    |[_],u,_,_=>exact u (by simp)
    |a::b::_,_,c,nd=>have ha:=dI.mp ((c a (by simp)).trans z);have P:=dI.mp ((c b (by simp)).trans z);simp[ha,P]at nd
   .exact⟨m-1,by omega⟩
  subst hk;obtain⟨x,hr0⟩:∃x,x∈rs:=by
   match rs,u with
   |[],u=>exact absurd (by simp) u
   |r::_,_=>exact⟨r,bx⟩
  have hv:Paired (ux (d.push (seqObj "list" (bs.map Value.ref).toArray 0)) d.objs.size) (bs.map Value.ref) rs:=by
   have go:∀{B:List Addr} {rs:LL},Paired (λb k=>G k b) B rs->Paired (ux (d.push (seqObj "list" (bs.map Value.ref).toArray 0)) d.objs.size) (B.map Value.ref) rs:=λ{B rs} t=>by
    induction t with
    |nil=>exact .nil
    |cons e t ih=>refine .cons ?_ ih;obtain⟨o,y,n,R,hc,hd,v⟩:=hG _ _ e;exact⟨_,o,y,n,rfl,λz=>absurd (aM (U _ _ R)) (by rw[z];exact bc _),J _ _ R,hc,hd,tP v⟩
   exact go N
  refine aq (wpAny_holding (wpAny_call_entry slot_list_sort ⟨_,h,rfl⟩ entry_list_sort (pL (A:=A.in1.in1) (lt:=λi j=>jb (rs.getD i x) (rs.getD j x)) h (by rw[ax,C];omega) (by rw[ax,C];exact lr) (Co c (c x hr0))
   (B0 (s:={s with heap:=d.push (seqObj "list" (bs.map Value.ref).toArray 0),toks:=D}) hv c (by rw[ax,C];omega)) λp K hu=>⟨_,rfl,?_⟩) (args_list_sort _)))
  rw[ax]at K hu;have I:∀i∈p.toList,i<bs.length:=λi v=>by have:i∈(List.range bs.length).toArray:=K.mem_iff.mp (by simpa using v);simpa using this
  have e1:(p.toList.map λi=>(bs.map Value.ref).getD i Value.none)=(p.toList.map λi=>bs.getD i 0).map Value.ref:=by rw[aJ];refine cS λi v=>?_;have:=I i v;simp[this]
  rw[e1];have X:p.toList.Perm (List.range bs.length):=by simpa using K.toList
  refine ao ⟨_,rfl,H (p.toList.map λi=>bs.getD i 0) (p.toList.map λi=>rs.getD i x) (oU _ _ _ λi v=>rY N 0 x (I i v)) ?_ ?_⟩
  .have:=X.map λi=>rs.getD i x;rw[C,nB]at this;exact this
  .rw[dP,c5];intro i j v hj hij;have hs:p.size=bs.length:=kr K;have:=hu i j hij (by simpa[hs] using hj);rw[cU,cU]at this;simpa[Array.getElem?_eq_getElem (show i<p.size by simpa using v),Array.getElem?_eq_getElem (show j<p.size by simpa using hj)] using this
end
section
variable {X:Cx}
def QU(K:W.Frag)(g:TA):TE:=λi H Q=>g i H λh e=>∃(p:Addr) (bs:List Addr) (f:LL) (m:Nat) (G:Addr->LI->Prop),h=[.ref p]/\ka K e p (bs.map V.ref)/\Paired G bs f/\(∀b r,G b r->e b=some (.tup (r.map V.int)))/\(∀r∈f,r.length=m)/\f.length<64/\
 ∀(l:Addr) (d:List Addr) (c:LL),e l=none->Paired G d c->c.Nodup->(∀k,k∈c↔k∈f)->c.Pairwise (λa b=>jb b a=false)->Q (.ref l) (iU e l (.lst (d.map V.ref)))
def Fw(x:X.calm=true)(hu:X.A.units+200<cLine)(hg:Gl X "sorted")(E:X.mg "sorted" = none)(D:Gl X "set")(z:X.mg "set" = none)(ha:PA X [a] ta)(hs:starEach [a] X.env=[(false,eval a X.env)]:=by rfl)
  (Y:starEach [Expr.Call (.Name "set" p2) [a] [] pos2] X.env=[(false,eval (.Call (.Name "set" p2) [a] [] pos2) X.env)]:=by rfl) :
  PE X (.Call (.Name "sorted" p1) [.Call (.Name "set" p2) [a] [] pos2] [] pos) (QU X.K ta):=by
 intro gx s σ H Q I h;refine wpAny_Call_Name_kw (mx I hg E (by decide +kernel:bootBuiltins "sorted" = some (.builtin "sorted")) ?_);refine PyProof.Rows.callWith_builtin1 ?_ Y rfl;rw[Y];refine Calls.spliced_cons (Call_ (mx I D z (by decide +kernel:bootBuiltins "set" = some (.type "set")) (PyProof.Rows.callWith_type1 (jB (ha pos2 gx s σ H _ I h) λus s1 ⟨vs,H1,I1,r1,q1⟩=>?_) hs rfl)));obtain⟨l,bs,rs,m,G,rfl,hS,R,hG,E,hl,q⟩:=q1;obtain⟨u,rfl,rx⟩:=nc r1;cases rx;obtain⟨gG,y,pl,hz⟩:=I1.list hS;have e0:=qV y;subst e0;have Z:bs.length=rs.length:=Paired.length R;have J:∀k a,G a k->Sp.TK X.prog X.w s1.heap k a:=λk a e=>by replace e:=hG _ _ e;obtain⟨_,gG,y,o,ho,x,n,hd,_⟩:=(show jz X.prog X.w H1 s1.heap _ (.tup _) from I1.hok _ _ e);exact⟨o,gG.toArray,n,ho,x,hd,by simpa using tM (m7 y)⟩
 refine Sp.set_list (G2:=λk a=>G a k) (rs:=rs) (I1.ok.hd x) (by omega) pl.isList (λi v hv=>?_) J (by simp[Z]) (by simp[Z];omega) λN tk g C=>Calls.spliced_nil ?_
 .have c:(bs.map Value.ref)[i]? = some v:=by simpa using hv
  rw[aw]at c;cases j:bs[i]? with
  |none=>rw[j]at c;cases c
  |some b=>rw[j]at c;cases c;obtain⟨r,er,hr⟩:=mM R j;refine⟨b,rfl,?_⟩;rw[ag,er];exact hr
 .have P:∀b o,s1.heap.get? b=some o->N.get? b=some o:=λb o e=>C b o (aM e) e;refine Af (s:={s1 with heap:=N,toks:=tk}) (m:=m) (I1.ok.hd x) g (λk a e=>let ⟨o,gG,n,q,r⟩:=J k a e;⟨o,gG,n,P _ _ q,r⟩) E hl λh2 F L e d f k2 S p B nd U pw=>?_;have lr:f.length<64:=by have:=nd.length_le_of_subset (l₂:=rs) λk C=>(U k).mp C;omega
  refine⟨.ref L,_,I1.laid (t':=F) (λb o j=>k2 b o (P b o j)) (bh S) (show jz X.prog X.w _ _ _ (.lst (d.map V.ref)) from ⟨?_,d.map Value.ref,e,?_,p⟩),rfl,q L d f (I1.hok.fresh (bh S)) B nd U pw⟩
  .rw[ax,Paired.length B];have:64<=sizeLine:=by decide
   omega
  .clear p B;induction d with
   |nil=>exact .nil
   |cons b l ih=>exact .cons rfl ih
theorem A3:jT X (.builtin "sorted") (λxs H Q=>∃(p:Addr) (bs:List Addr) (rs:LL) (m:Nat) (G:Addr->LI->Prop),xs=[.ref p]/\ka X.K H p (bs.map V.ref)/\Paired G bs rs/\(∀b r,G b r->H b=some (.tup (r.map V.int)))/\(∀r∈rs,r.length=m)/\(m=0->rs.length<2)/\rs.length<64/\
  ∀(l:Addr) (c:List Addr) (d:LL),H l=none->Paired G c d->d.Perm rs->d.Pairwise (λa b=>jb b a=false)->Q (.ref l) (iU H l (.lst (c.map V.ref)))):=by
 intro gx s σ H xs us Q I r h;obtain⟨p,bs,rs,m,G,rfl,hS,E,hG,R,h0,hl,q⟩:=h;obtain⟨u,rfl,rx⟩:=nc r;cases rx;obtain⟨gG,L,Z,hz⟩:=I.list hS;have e0:=qV L;subst e0;have A:bs.length=rs.length:=Paired.length E;have C:∀(c:List Addr) (d:LL),c.length=bs.length->Paired G c d->d.Perm rs->d.Pairwise (λa b=>jb b a=false)->∃v H',gP X gx σ H' {s with heap:=sortedAll s.heap (bs.map Value.ref) (c.map Value.ref).toArray}/\iE v (.ref (s.heap.objs.size+1))/\Q v H':=λc d F t pm U=>by
  obtain⟨e,he⟩:=sortedAll_at s.heap (bs.map Value.ref) (c.map Value.ref).toArray;refine⟨.ref _,_,I.laid (t':=s.toks) (λb o F=>sortedAll_old F) (bQ _) (show jz X.prog X.w _ _ _ (.lst (c.map V.ref)) from ⟨?_,c.map Value.ref,e,?_,he⟩),rfl,q _ c d (I.hok.fresh (bQ _)) t pm U⟩
  .rw[ax,F,A];have:64<=sizeLine:=by decide
   omega
  .clear he t pm U F;induction c with
   |nil=>exact .nil
   |cons b l ih=>exact .cons rfl ih
 by_cases y:rs.length<2
 .refine Bf Z.isList (by rw[ax,A];exact y) (C bs rs rfl E (List.Perm.refl _) ?_);match rs,y with
  |[],_=>exact .nil
  |[_],_=>exact dN _ _
 .obtain⟨k,hk⟩:∃k,m=k+1:=⟨m-1,by have:m≠0:=λz=>y (h0 z);omega⟩;subst hk;obtain⟨f,hr0⟩:∃f,f∈rs:=by
   match rs,y with
   |[],y=>exact absurd (by simp) y
   |r::_,_=>exact⟨r,bx⟩
  have hv:∀g,(∀b ob,s.heap.get? b=some ob->g.get? b=some ob)->Paired (ux g (s.heap.objs.size+1)) (bs.map Value.ref) rs:=λg P=>by
   have go:∀{bs:List Addr} {rs:LL},Paired G bs rs->Paired (ux g (s.heap.objs.size+1)) (bs.map Value.ref) rs:=λ{bs rs} t=>by
    induction t with
    |nil=>exact .nil
    |cons e t ih=>refine .cons ?_ ih;obtain⟨_,gG,L,o,ho,hc,n,hd,_⟩:=(show jz X.prog X.w H s.heap _ (.tup _) from I.hok _ _ (hG _ _ e));exact⟨_,o,gG.toArray,n,rfl,λz=>absurd (z▸aM ho) (Nat.not_lt.mpr (bQ _)),P _ _ ho,hc,hd,by simpa using m7 L⟩
   exact go E
  refine De (lt:=λi j=>jb (rs.getD i f) (rs.getD j f)) Z.isList (by rw[ax,A];omega) (by rw[ax,A];exact hl) (Co R (R f hr0)) (λg P=>B0 (s:={s with heap:=g}) (hv g P) R (by rw[ax,A];omega)) λp B Y=>?_;rw[ax]at B Y;have D:∀i∈p.toList,i<bs.length:=λi x=>by have:i∈(List.range bs.length).toArray:=B.mem_iff.mp (by simpa using x);simpa using this
  have e1:(p.toList.map λi=>(bs.map Value.ref).getD i Value.none)=(p.toList.map λi=>bs.getD i 0).map Value.ref:=by rw[aJ];refine cS λi x=>?_;have:=D i x;simp[this]
  rw[e1];have J:p.toList.Perm (List.range bs.length):=by simpa using B.toList
  refine C (p.toList.map λi=>bs.getD i 0) (p.toList.map λi=>rs.getD i f) (by rw[ax,bB,kr B]) (oU _ _ _ λi x=>rY E 0 f (D i x)) ?_ ?_
  .have:=J.map λi=>rs.getD i f;rw[A,nB]at this;exact this
  .rw[dP,c5];intro i j x S N;have hs:p.size=bs.length:=kr B;have:=Y i j N (by simpa[hs] using S);rw[cU,cU]at this;simpa[Array.getElem?_eq_getElem (show i<p.size by simpa using x),Array.getElem?_eq_getElem (show j<p.size by simpa using S)] using this
end
end L2
namespace Cu
noncomputable def G(a b:Int):Int:=(Int.gcd a b:Nat)
def Mr a b:G b (Int.fmod a b)=G a b:=by
 unfold G;have e:=Int.fmod_def a b;rw[e];congr 1;apply Nat.dvd_antisymm
 .apply Int.dvd_gcd
  .have g:=dQ b (a-b*Int.fdiv a b);have h:=dR b (a-b*Int.fdiv a b);have d:=Int.dvd_add h (dS (c:=Int.fdiv a b) g);have f:a-b*Int.fdiv a b+b*Int.fdiv a b=a:=by omega
   rw[f]at d;exact d
  .exact dQ b _
 .apply Int.dvd_gcd
  .exact dR a b
  .exact Int.dvd_sub (dQ a b) (dS (dR a b))
def DP a b (h:b≠0):(Int.fmod a b).natAbs<b.natAbs:=by
 rcases Int.lt_or_gt_of_ne h with c|c
 .have d:=dU (-a) (show 0 < -b by omega);have e:=dW (-a) (show 0 < -b by omega);rw[Int.neg_fmod_neg]at d e;omega
 .have d:=dU a c;have e:=dW a c;omega
def HA a:G a 0=(a.natAbs:Int):=by unfold G;rw[Int.gcd_zero_right]
def tj a b:0<=G a b:=Int.natCast_nonneg _
def Aw a b:G a b ∣ a:=dQ a b
def rQ a b:G a b ∣ b:=dR a b
def Qm a b (h:b≠0):G a b<=(b.natAbs:Int):=by have:=Int.natAbs_dvd_natAbs.mpr (rQ a b);have c:=Nat.le_of_dvd (by omega) this;have:=tj a b;omega
end Cu
namespace Cu
open PySem PyProof.Rows
open PySem.Builtin.Int (intBits)
def noPy(h:intBits y<=m)(c:m<=8000):PySem.Builtin.divisionGoesByPylong x y=false:=by
 refine PyProof.noPylong_of_log2 ?_;rcases dO y.natAbs with a|b
 .rw[a];decide
 .refine (Nat.log2_lt (bC b)).mpr ?_;exact lt_pow_of_bits h (by omega)
end Cu
namespace L2
open PySem PySem.Spec PyProof.Rows
def Hc:jT X (.builtin "isinstance") (λa H Q=>∃x T t b,a=[x,.ty T]/\nL X.K H x t/\W.kitOne X.K t (.type T)=some b/\Q (.bl b) H):=by
 intro f s g H a d Q I r h;obtain⟨x,T,t,b,rfl,ty,e,q⟩:=h;cases r with
 |cons r1 r2=>
  cases r2 with
  |cons r3 r4=>cases r4;cases (r3);exact Dc I r1 ty e λc=>⟨.bl b,H,I.tok c,rfl,q⟩
def La:bootBuiltins "isinstance" = some (.builtin "isinstance"):=by decide +kernel
def qJ:bootBuiltins "abs" = some (.builtin "abs"):=by decide +kernel
def Bv:bootBuiltins "int" = some (.type "int"):=by decide +kernel
def CH:bootBuiltins "bool" = some (.type "bool"):=by decide +kernel
def jt:bootBuiltins "tuple" = some (.type "tuple"):=by decide +kernel
def ku:bootBuiltins "len" = some (.builtin "len"):=by decide +kernel
end L2
namespace L2
open PySem PySem.W PySem.Spec PyProof.Rows
def DZ{l:W.OpenLaw}{n k:Nat}{q:Program}{j:List Str}{XP:(Str->Option Value)->Heap->Prop}{YP:World->Heap->Prop}{d:DefRec}{K:Params->W.Frag}{CX:Iq}{sp:W.Frag->Sp}{x:Str}
  (hn:l.most=some n) (S:n<=sizeLine) (I:d.params.defaults=[]) (hr:iP k callerA)
  (hY:∀(w:World) (h:Heap),YP w h->(K w.params).In h)
  (F:∀(w:World) (m:Str->Option Value) (D:Addr) (h:Heap),(K w.params).In h->h.Ns mainGlobals m->m d.name=some (.ref D)->
   ∃fd:FuncData,(∀(s:Sq) (u:Vq),BindsTo s fd ⟨[u],[]⟩ [(x,u)])/\
    ∀c:Heap,(K w.params).In c->c.Ns mainGlobals m->lU l.prog w (K w.params) m c CX k D fd [x] (sp (K w.params)))
  (J:∀(K:W.Frag) (H:Hp) (a:Addr) (p:LI),p.length<=n->(∀z∈p,PySem.Builtin.Int.intBits z<=2 ^ 20)->NC H->ka K H a (p.map V.int)->sp K [.ref a] H (λv _=>v=.bl true) λ_ _ _=>False)
  (N:∀(H:Hp) (s:Sq) (e:Vq) (E:Sq),CX [] H s (λ_ _ _=>False) e E->False) :
  W.WalkO q j XP YP l.row.toRowW d [] (λf vs=>PySem.call f vs):=by
 intro w s₀ y m mb G Y D o pm cd doc dV kV ho hd hcd hD R hg U Z as A C hrd L hlo;obtain rfl:dV=.none:=Dflts.none hD I;obtain rfl:kV=.none:=Dflts.noKw hD;obtain⟨a,vs,p,rfl,rfl,B,i,X⟩:=Att.script_of hn A L;have hb:∀z∈p,PySem.Builtin.Int.intBits z<=2 ^ 20:=λz hz=>by have h1:=(layW_cons C).1;have P:=layableW_item h1 (WData.int z) (aE.mpr ⟨z,hz,rfl⟩);exact PyData.bits_of_layable (layable_int P)
 have KX:=hY w _ Y;obtain⟨fd,Q,hF⟩:=F w m D _ KX G.T.g R;refine enter_call (codeAny_mono (G1 KX G.T.g G.T.b G.T.builtins G.T.nolimit hg B i (aO X S) hr hF Q (λH hO hS=>J _ H a p X hb hO hS) λH e E=>N H y e E) λr E hq=>?_);obtain⟨rfl,P,h3,h4⟩:=hq;exact⟨.inl ⟨.bool true,.bool true,[],rfl,λ_=>rfl,.bool true,Att.post_true l _,λ_=>⟨List.Pairwise.nil,λ_ hm=>(nomatch hm)⟩⟩,P,h3,h4⟩
end L2
namespace C4
def Ri(c e:LI):Prop:=∀i j,i<c.length->j<c.length->c.getD i 0*e.getD j 0=c.getD j 0*e.getD i 0
def par_of_place(k:c.getD p 0≠0)(h:∀i,i<c.length->c.getD i 0*e.getD p 0=e.getD i 0*c.getD p 0):Ri c e:=λi j g l=>by have a:=h i g;have d:=h j l;refine Int.eq_of_mul_eq_mul_right k ?_;have b:c.getD i 0*e.getD j 0*c.getD p 0=c.getD i 0*(e.getD j 0*c.getD p 0):=dX _ _ _;have f:c.getD j 0*e.getD i 0*c.getD p 0=c.getD j 0*(e.getD i 0*c.getD p 0):=dX _ _ _;rw[b,f,<-a,<-d,<-dX,<-dX,dY (c.getD i 0) (c.getD j 0)]
end C4
namespace L3
open PySem L2
inductive T where
 |non|bl (b:Bool)|int (i:Int)|str (x:Str)
 |tup (ts:List T)|lst (ts:List T)|scr (ns:LI)
 |obj (C:Addr) (fs:List (Str×T))|emp
 |dic (kvs:List (LI×T))
inductive M(α:Type) where
 |bad|ok (a:α)|er (C:Addr) (n:Option Int)
namespace M
noncomputable def bind{b c:Type}(m:M b)(k:b->M c):M c:=match m with
 |.bad=>.bad
 |.ok a=>k a
 |.er C n=>.er C n
instance:Monad M where
 pure:=.ok
 bind:=M.bind
noncomputable def res{b:Type}(m:M b)(P:b->Prop)(E:Addr->Option Int->Prop):Prop:=match m with
 |.bad=>False
 |.ok a=>P a
 |.er C n=>E C n
def res.unb{m:M α}{k:α->M β}{P:β->Prop}(h:res (m.bind k) P E):res m (λa=>res (k a) P E) E:=by cases m<;>exact h
def res.mono{m:M α}{P b:α->Prop}(h:res m P E)(c:∀a,P a->b a)(d:∀C n,E C n->E' C n):res m b E':=by
 cases m with
 |bad=>exact h
 |ok a=>exact c a h
 |er C n=>exact d C n h
noncomputable def noEr{a:Type}(m:M a):M a:=match m with
 |.er _ _=>.bad
 |m=>m
def res.noEr{m:M α}{P:α->Prop}(h:res m.noEr P E):res m P E':=by
 cases m with
 |bad=>exact h
 |ok a=>exact h
 |er C n=>exact h.elim
@[simp] theorem bind_ok a (k:α->M β):M.bind (.ok a) k=k a:=rfl
@[simp] theorem Pp(k:α->M β):M.bind (.bad:M α) k=.bad:=rfl
@[simp] theorem PM C n (k:α->M β):M.bind (.er C n:M α) k=.er C n:=rfl
noncomputable def NoE{a:Type}(m:M a):Prop:=∀C n,m≠.er C n
def res.ne{m:M α}{P:α->Prop}(h:res m P E)(ne:NoE m):res m P E':=by
 cases m with
 |bad=>exact h
 |ok a=>exact h
 |er C n=>exact absurd rfl (ne C n)
@[simp] theorem noEr_ok(a:α):noEr (.ok a)=.ok a:=rfl
end M
mutual
inductive j5(K:W.Frag)(F:Hp):V->T->Prop
 |non:j5 K F .non .non
 |bl (b:Bool):j5 K F (.bl b) (.bl b)
 |int (i:Int):j5 K F (.int i) (.int i)
 |str (x:Str):j5 K F (.str x) (.str x)
 |tup {a:Addr} {xs:List V} {ts:List T} (h:F a=some (.tup xs)) (r:gN K F xs ts):j5 K F (.ref a) (.tup ts)
 |lst {a:Addr} {xs:List V} {ts:List T} (h:F a=some (.lst xs)) (r:gN K F xs ts):j5 K F (.ref a) (.lst ts)
 |scr {a:Addr} {ns:LI} (h:ka K F a (ns.map V.int)):j5 K F (.ref a) (.scr ns)
 |obj {a C dx:Addr} {fs:List (Str×V)} {ts:List (Str×T)} (h:F a=some (.ins C dx fs)) (r:mz K F fs ts):j5 K F (.ref a) (.obj C ts)
 |emp {a:Addr} (h:F a=some (.dK [])):j5 K F (.ref a) .emp
 |dic {a:Addr} {xs:List (List m6×V)} {kvs:List (LI×T)} (h:F a=some (.dT xs)) (r:lX K F xs kvs):j5 K F (.ref a) (.dic kvs)
inductive gN(K:W.Frag)(F:Hp):List V->List T->Prop
 |nil:gN K F [] []
 |cons {v:V} {t:T} {vs:List V} {ts:List T} (h:j5 K F v t) (r:gN K F vs ts):gN K F (v::vs) (t::ts)
inductive mz(K:W.Frag)(F:Hp):List (Str×V)->List (Str×T)->Prop
 |nil:mz K F [] []
 |cons {x:Str} {v:V} {t:T} {vs:List (Str×V)} {ts:List (Str×T)} (h:j5 K F v t) (r:mz K F vs ts):mz K F ((x,v)::vs) ((x,t)::ts)
inductive lX(K:W.Frag)(F:Hp):List (List m6×V)->List (LI×T)->Prop
 |nil:lX K F [] []
 |cons {k:LI} {v:V} {t:T} {vs:List (List m6×V)} {ts:List (LI×T)} (h:j5 K F v t) (r:lX K F vs ts):lX K F ((k.map Sum.inl,v)::vs) ((k,t)::ts)
end
section
variable {K:W.Frag}{F F':Hp}
mutual
theorem j5.mono(s:gX F F'):∀{v} {t},j5 K F v t->j5 K F' v t
 |_,_,.non=>.non
 |_,_,.bl b=>.bl b
 |_,_,.int i=>.int i
 |_,_,.str x=>.str x
 |_,_,.tup h r=>.tup (s _ _ h) (gN.mono s r)
 |_,_,.lst h r=>.lst (s _ _ h) (gN.mono s r)
 |_,_,.scr h=>.scr (s.seq h)
 |_,_,.obj h r=>.obj (s _ _ h) (mz.mono s r)
 |_,_,.emp h=>.emp (s _ _ h)
 |_,_,.dic h r=>.dic (s _ _ h) (lX.mono s r)
theorem gN.mono(s:gX F F'):∀{vs} {ts},gN K F vs ts->gN K F' vs ts
 |_,_,.nil=>.nil
 |_,_,.cons h r=>.cons (j5.mono s h) (gN.mono s r)
theorem mz.mono(s:gX F F'):∀{vs} {ts},mz K F vs ts->mz K F' vs ts
 |_,_,.nil=>.nil
 |_,_,.cons h r=>.cons (j5.mono s h) (mz.mono s r)
theorem lX.mono(s:gX F F'):∀{vs} {ts},lX K F vs ts->lX K F' vs ts
 |_,_,.nil=>.nil
 |_,_,.cons h r=>.cons (j5.mono s h) (lX.mono s r)
end
theorem gN.length:∀{vs} {ts},gN K F vs ts->vs.length=ts.length
 |_,_,.nil=>rfl
 |_,_,.cons _ r=>by rw[aA,aA,gN.length r]
theorem gN.get:∀{vs:List V} {ts:List T} {i:Nat} {t:T},gN K F vs ts->ts[i]? = some t->∃v,vs[i]? = some v/\j5 K F v t
 |_,_,_,_,.nil,e=>by simp at e
 |_,_,0,_,.cons h _,e=>by simp at e;subst e;exact⟨_,rfl,h⟩
 |_,_,i+1,_,.cons _ r,e=>by obtain⟨v,a,h⟩:=gN.get r (by simpa using e);exact⟨v,by simpa using a,h⟩
def gN.at_{i:Nat}(r:gN K F vs ts)(e:vs[i]? = some v):∃t,ts[i]? = some t/\j5 K F v t:=by
 have b:i<ts.length:=by rw[<-r.length];exact (ae.mp e).1
 obtain⟨c,a,h⟩:=r.get (ai b);rw[e]at a;cases a;exact⟨_,ai b,h⟩
theorem gN.append:∀{vs us} {ts ss},gN K F vs ts->gN K F us ss->gN K F (vs++us) (ts++ss)
 |_,_,_,_,.nil,q=>q
 |_,_,_,_,.cons h r,q=>.cons h (gN.append r q)
theorem gN.set(q:j5 K F v t):∀{vs} {ts} i,gN K F vs ts->gN K F (vs.set i v) (ts.set i t)
 |_,_,_,.nil=>.nil
 |_,_,0,.cons _ r=>.cons q r
 |_,_,i+1,.cons h r=>.cons h (gN.set q i r)
theorem gN.take:∀{vs} {ts} n,gN K F vs ts->gN K F (vs.take n) (ts.take n)
 |_,_,0,_=>.nil
 |_,_,_+1,.nil=>.nil
 |_,_,n+1,.cons h r=>.cons h (gN.take n r)
theorem gN.drop:∀{vs} {ts} n,gN K F vs ts->gN K F (vs.drop n) (ts.drop n)
 |_,_,0,r=>r
 |_,_,_+1,.nil=>.nil
 |_,_,n+1,.cons _ r=>gN.drop n r
theorem gN.rep:∀{vs} {ts} n,gN K F vs ts->gN K F (List.replicate n vs).flatten (List.replicate n ts).flatten
 |_,_,0,_=>.nil
 |_,_,n+1,r=>by rw[b5,b5,b6,b6];exact r.append (gN.rep n r)
theorem gN.ints:∀{vs:List V} {a:LI},gN K F vs (a.map T.int)->vs=a.map V.int
 |_,[],.nil=>rfl
 |_,_::_,.cons h r=>by cases h;rw[gN.ints r];rfl
theorem gN.bls:∀{vs:List V} {a:List Bool},gN K F vs (a.map T.bl)->vs=a.map V.bl
 |_,[],.nil=>rfl
 |_,_::_,.cons h r=>by cases h;rw[gN.bls r];rfl
theorem gN.of_ints:∀(a:LI),gN K F (a.map V.int) (a.map T.int)
 |[]=>.nil
 |n::a=>.cons (.int n) (gN.of_ints a)
theorem mz.look:∀{fs} {ts},mz K F fs ts->ts.lookup f=some t->∃v,fs.lookup f=some v/\j5 K F v t
 |_,_,.nil,e=>by cases e
 |_,_,.cons (x:=x) h r,e=>by
  by_cases b:f=x
  .subst b;rw[dZ]at e;cases e;exact⟨_,dZ,h⟩
  .have a:(f==x)=false:=by simpa using b
   rw[cn,a]at e;obtain⟨v,c,d⟩:=mz.look r e;exact⟨v,by rw[cn,a];exact c,d⟩
theorem mz.none_:∀{fs} {ts},mz K F fs ts->ts.lookup f=none->fs.lookup f=none
 |_,_,.nil,e=>rfl
 |_,_,.cons (x:=x) h r,e=>by
  by_cases a:f=x
  .subst a;rw[dZ]at e;cases e
  .have b:(f==x)=false:=by simpa using a
   rw[cn,b]at e ⊢;exact mz.none_ r e
end
def vG(h:Ec o (some u))(b:∀q a,u≠.tbl q a):o=u:=by
 cases o with
 |tbl q a=>obtain⟨m,e⟩:=h;exact absurd (Option.some.inj e) (b _ _)
 |_=>exact (Option.some.inj h).symm
def KI{x y:Option HO}(h:Ec o x)(k:∀a,x=some a->Ec a y):Ec o y:=by
 cases o with
 |tbl q ps=>obtain⟨m,e⟩:=h;obtain⟨b,c⟩:=k _ e;exact⟨m++b,by rw[c,bA]⟩
 |_=>exact k _ h
def tY{H:Hp}(h:Ec u (H b))(h':H p=none):b≠p:=λz=>h.ne (by rw[z];exact h')
structure Gr(F H F' H':Hp):Prop where
 ff:gX F F'
 fh:gX F' H'
 hh:gX H H'
 nw:∀a,F' a≠none->F a≠none\/H a=none\/∃xs,H a=some (.tup xs)
def Gr.refl(h:gX F H):Gr F H F H:=⟨.refl _,h,.refl _,λ_ h=>.inl h⟩
def gY(h:gX H H')(e:H' a=none):H a=none:=by
 cases q:H a with
 |none=>rfl
 |some o=>exact absurd e (h a o q).ne
def Gr.trans(g:Gr F H F' H')(b:Gr F' H' F'' H''):Gr F H F'' H'':=
 ⟨g.ff.trans b.ff,b.fh,g.hh.trans b.hh,λa d=>by
  rcases b.nw a d with q|q|⟨c,q⟩
  .exact g.nw a q
  .exact .inr (.inl (gY g.hh q))
  .cases z:H a with
   |none=>exact .inr (.inl rfl)
   |some o=>exact .inr (.inr ⟨c,by have k:=g.hh a o z;rw[q]at k;rw[vG k λ_ _ y=>nomatch y]⟩)⟩
def Gr.new(s:gX F H)(h:H p=none):Gr F H (iU F p o) (iU H p o):=by
 have c:=gY s h;refine⟨λb u e=>?_,λb u e=>?_,λb u e=>?_,λb a=>?_⟩
 .rw[gI (hU e c)];exact .of e
 .by_cases q:b=p
  .subst q;rw[gE]at e ⊢;exact .of e
  .rw[gI q]at e ⊢;exact s b u e
 .rw[gI (hU e h)];exact .of e
 .by_cases q:b=p
  .subst q;exact .inr (.inl h)
  .rw[gI q]at a;exact .inl a
def Gr.new'(s:gX F H)(h:H p=none):Gr F H F (iU H p o):=by
 refine⟨.refl _,λb u e=>?_,λb u e=>?_,λb a=>.inl a⟩
 .rw[gI (tY (s b u e) h)];exact s b u e
 .rw[gI (hU e h)];exact .of e
def Gr.take(g:Gr F0 H0 F H)(h:H p=some o)(d:F p=none)(c:H0 p=none):Gr F0 H0 (iU F p o) H:=by
 refine⟨λb u e=>?_,λb u e=>?_,g.hh,λb a=>?_⟩
 .rw[gI (tY (g.ff b u e) d)];exact g.ff b u e
 .by_cases q:b=p
  .subst q;rw[gE]at e;cases e;exact .of h
  .rw[gI q]at e;exact g.fh b u e
 .by_cases q:b=p
  .subst q;exact .inr (.inl c)
  .rw[gI q]at a;exact g.nw b a
def mv(a:F p=none):gX F (iU F p o):=λb u e=>by rw[gI (hU e a)];exact .of e
abbrev Pe:=List (Option T)
section
variable (K:W.Frag)
def kK(F:Hp)(a:St)(ρ:Pe):Prop:=∀(i:Nat) (t:T),ρ[i]? = some (some t)->∃v,a[i]? = some (some v)/\j5 K F v t
def kK.mono{K:W.Frag}(h:kK K F σ ρ)(s:gX F F'):kK K F' σ ρ:=λi t e=>let ⟨v,a,b⟩:=h i t e;⟨v,a,b.mono s⟩
def Ry(E:XK)(C:Addr)(n:Option Int)(F H:Hp):Prop:=match n with
 |none=>E (.ref C) none H
 |some i=>∀a,F a=some (.xd [("at",.int i)])->E (.ref C) (some a) H
def kE(E:XK)(F H:Hp)(C:Addr)(n:Option Int):Prop:=∀b a,Gr F H b a->Ry E C n b a
def kE.go(h:kE E F H C n)(g:Gr F H F1 H1):kE E F1 H1 C n:=λc a b=>h c a (g.trans b)
def kV(F H:Hp)(Q:VK)(t:T):Prop:=∀v b a,Gr F H b a->j5 K b v t->Q v a
def kB(F H:Hp)(Q:Bool->Hp->Prop)(b:Bool):Prop:=∀c a,Gr F H c a->Q b a
def kA(F H:Hp)(Q:List V->Hp->Prop)(ts:List T):Prop:=∀c b a,Gr F H b a->gN K b c ts->Q c a
def kF(F H:Hp)(Q:VK)(ts:List T):Prop:=∀l c b a,Gr F H b a->H l=none->b l=none->a l=some (.lst c)->gN K b c ts->Q (.ref l) a
noncomputable def ME(E:XK)(t:TE)(f:Pe->M T):Prop:=∀F H b a Q,gX F H->kK K F b a->(f a).res (kV K F H Q) (kE E F H)->t b H Q
noncomputable def MT(E:XK)(t:TT)(f:Pe->M Bool):Prop:=∀F H b a Q,gX F H->kK K F b a->(f a).res (kB F H Q) (kE E F H)->t b H Q
noncomputable def MA(E:XK)(t:TA)(f:Pe->M (List T)):Prop:=∀F H b a Q,gX F H->kK K F b a->(f a).res (kA K F H Q) (kE E F H)->t b H Q
noncomputable def MF(E:XK)(t:TE)(f:Pe->M (List T)):Prop:=∀F H b a Q,gX F H->kK K F b a->(f a).res (kF K F H Q) (kE E F H)->t b H Q
end
section
variable {K:W.Frag}{E:XK}{t u ta tb:TE}{f g fa fb:Pe->M T}
def kV.go{t:T}(h:kV K F H Q t)(g:Gr F H F1 H1):kV K F1 H1 Q t:=λv c b a r=>h v c b (g.trans a) r
def kB.go{t:Bool}(h:kB F H Q t)(g:Gr F H F1 H1):kB F1 H1 Q t:=λc b a=>h c b (g.trans a)
def kF.go{t:List T}(h:kF K F H Q t)(g:Gr F H F1 H1):kF K F1 H1 Q t:=λl k j i e a b c d=>h l k j i (g.trans e) (gY g.hh a) b c d
def kV.now{t:T}(h:kV K F H Q t)(s:gX F H)(r:j5 K F v t):Q v H:=h v F H (.refl s) r
def kF.of(h:kV K F H Q (.lst ts)):kF K F H Q ts:=λl i e d g c b a r=>h (.ref l) (iU e l (.lst i)) d (g.take a b c) (.lst gE (r.mono (mv b)))
def MF.me{f:Pe->M (List T)}(h:MF K E t f):ME K E t (λρ=>(f ρ).bind λts=>.ok (.lst ts)):=λF H a ρ Q s V r=>h F H a ρ Q s V ((M.res.unb r).mono (λts q=>kF.of q) λ_ _ z=>z)
def ME.run{k:T->M α}{P:α->Prop}(h:ME K E t f)(s:gX F H)(v:kK K F σ ρ)(r:((f ρ).bind k).res P (kE E F H))
  (c:∀x w b a,Gr F H b a->j5 K b w x->(k x).res P (kE E b a)->Q w a):t σ H Q:=
 h F H σ ρ Q s v ((M.res.unb r).mono (λx q w b a g d=>c x w b a g d (q.mono (λ_ z=>z) λ_ _ z=>z.go g)) λ_ _ z=>z)
def MT.run{t:TT}{f:Pe->M Bool}{k:Bool->M α}{P:α->Prop}(h:MT K E t f)(s:gX F H)(v:kK K F σ ρ)(r:((f ρ).bind k).res P (kE E F H))
  (c:∀x b a,Gr F H b a->(k x).res P (kE E b a)->Q x a):t σ H Q:=
 h F H σ ρ Q s v ((M.res.unb r).mono (λx q b a g=>c x b a g (q.mono (λ_ z=>z) λ_ _ z=>z.go g)) λ_ _ z=>z)
def MA.run{t:TA}{f:Pe->M (List T)}{k:List T->M α}{P:α->Prop}(h:MA K E t f)(s:gX F H)(v:kK K F σ ρ)(r:((f ρ).bind k).res P (kE E F H))
  (c:∀x w b a,Gr F H b a->gN K b w x->(k x).res P (kE E b a)->Q w a):t σ H Q:=
 h F H σ ρ Q s v ((M.res.unb r).mono (λx q w b a g d=>c x w b a g d (q.mono (λ_ z=>z) λ_ _ z=>z.go g)) λ_ _ z=>z)
@[simp] noncomputable def gq(i:Nat):Pe->M T:=λa=>match a[i]? with
 |some (some t)=>.ok t
 |_=>.bad
def Nr:ME K E (mX i) (gq i):=λF H c b Q s V r=>by
 unfold gq at r;split at r
 .rename_i t e;obtain⟨v,a,h⟩:=V i t e;exact⟨v,a,r.now s h⟩
 .exact r.elim
@[simp] noncomputable def cM(t:T):Pe->M T:=λ_=>.ok t
def L7{t:T}(h:∀F,j5 K F v t):ME K E (tC v) (cM t):=λF H b a Q s V r=>kV.now r s (h F)
@[simp] noncomputable def gO(o:T->T->M T)(fa fb:Pe->M T):Pe->M T:=λa=>(fa a).bind λx=>(fb a).bind λy=>o x y
structure MR(K:W.Frag)(r:R2)(o:T->T->M T):Prop where
 ne:∀x y,M.NoE (o x y)
 ok:∀F H v w x y Q,gX F H->j5 K F v x->j5 K F w y->(o x y).res (kV K F H Q) (λ_ _=>False)->r v w H Q
def Cz(hr:MR K r o)(e:ME K E ta fa)(j:ME K E tb fb):ME K E (tU r ta tb) (gO o fa fb):=λF H p n Q s V q=>by refine e.run s V q λx v m A a h c=>?_;refine j.run a.fh (V.mono a.ff) c λy w i d b l k=>?_;exact hr.ok i d v w x y Q b.fh (h.mono b.ff) l ((k.ne (hr.ne x y)).mono (λ_ z=>z.go (a.trans b)) λ_ _ z=>z)
noncomputable def j3(C:Int->Int->Bool)(g:Int->Int->T):T->T->M T
 |.int i,.int j=>if C i j then .ok (g i j) else .bad
 |_,_=>.bad
def yc{g:Int->Int->T} x y:M.NoE (j3 C g x y):=λa n=>by
 unfold j3;split
 .split<;>exact λz=>nomatch z
 .exact λz=>nomatch z
def j5.int_inv(h:j5 K F v (.int i)):v=.int i:=by cases h;rfl
def j5.lst_inv(h:j5 K F v (.lst ts)):∃a b,v=.ref a/\F a=some (.lst b)/\gN K F b ts:=by cases h;exact⟨_,_,rfl,‹_›,‹_›⟩
def j5.tup_inv(h:j5 K F v (.tup ts)):∃a b,v=.ref a/\F a=some (.tup b)/\gN K F b ts:=by cases h;exact⟨_,_,rfl,‹_›,‹_›⟩
def gN.two(h:gN K F vs [.int i,.int j]):vs=[.int i,.int j]:=by
 cases h with
 |cons h t=>
  cases t with
  |cons h2 t=>cases t;rw[h.int_inv,h2.int_inv]
def xO{g:Int->Int->V}(c:∀i j,Cb i j=true->C i j)(d:∀F i j,j5 K F (g i j) (gt i j)):MR K (rI C g) (j3 Cb gt):=⟨yc,λF H v w x y Q s a b q=>by
 unfold j3 at q;split at q
 .rename_i i j;rw[a.int_inv,b.int_inv];by_cases h:Cb i j=true
  .rw[aR h]at q;exact⟨i,j,rfl,rfl,c i j h,kV.now q s (d F i j)⟩
  .rw[aS h]at q;exact q.elim
 .exact q.elim⟩
def pR{g:Int->Int->V}(c:∀F i j,j5 K F (g i j) (gt i j)):MR K (Br g) (j3 (λ_ _=>true) gt):=⟨yc,λF H v w x y Q s a b q=>by
 unfold j3 at q;split at q
 .rw[a.int_inv,b.int_inv];exact⟨_,_,rfl,rfl,kV.now q s (c F _ _)⟩
 .exact q.elim⟩
@[simp] noncomputable def nU(o:Int->T)(fa:Pe->M T):Pe->M T:=λa=>(fa a).bind λx=>match x with
 |.int i=>.ok (o i)
 |_=>.bad
def PB{g:Int->V}(j:∀F i,j5 K F (g i) (gt i))(d:ME K E ta fa):ME K E (QH (rU g) ta) (nU gt fa):=λF H l k Q s V q=>by
 refine d.run s V q λx v b h c e a=>?_;cases e<;>first
  |exact a.elim
  |exact⟨_,rfl,a _ b h c (j b _)⟩
@[simp] noncomputable def ji(fa:Pe->M T):Pe->M Bool:=λa=>(fa a).bind λx=>match x with
 |.bl b=>.ok b
 |_=>.bad
def J9(e:ME K E ta fa):MT K E (tB ta) (ji fa):=λF H j i Q s V q=>by
 refine e.run s V q λx v b c d h a=>?_;cases h<;>first
  |exact a.elim
  |exact⟨_,rfl,a b c d⟩
def Ki(a:ME K E ta fa):MT K E (wD ta) (ji fa):=J9 a
section
variable {c d:TT}{fc fd:Pe->M Bool}
@[simp] noncomputable def AX(fc fd:Pe->M Bool):Pe->M Bool:=λa=>(fc a).bind λb=>if b then fd a else .ok false
@[simp] noncomputable def zN(fc fd:Pe->M Bool):Pe->M Bool:=λa=>(fc a).bind λb=>if b then .ok true else fd a
@[simp] noncomputable def qw(fc:Pe->M Bool):Pe->M Bool:=λa=>(fc a).bind λb=>.ok (!b)
def Mx(j:MT K E c fc)(l:MT K E d fd):MT K E (LJ c d) (AX fc fd):=λF H m k Q s V q=>by
 refine j.run s V q λb e h a i=>?_;cases b with
 |true=>rw[aR rfl];exact l e h m k Q a.fh (V.mono a.ff) (i.mono (λ_ z=>z.go a) λ_ _ z=>z)
 |false=>rw[aS aI];exact i e h a
def OO(j:MT K E c fc)(l:MT K E d fd):MT K E (QP c d) (zN fc fd):=λF H m k Q s V q=>by
 refine j.run s V q λb e h a i=>?_;cases b with
 |true=>rw[aR rfl];exact i e h a
 |false=>rw[aS aI];exact l e h m k Q a.fh (V.mono a.ff) (i.mono (λ_ z=>z.go a) λ_ _ z=>z)
def LO(e:MT K E c fc):MT K E (Nt c) (qw fc):=λF H l k Q s V q=>by refine e.run s V q λb a h j i=>?_;exact i a h j
@[simp] noncomputable def QF(fc:Pe->M Bool)(fa fb:Pe->M T):Pe->M T:=λa=>(fc a).bind λb=>if b then fa a else fb a
def N9(l:MT K E c fc)(n:ME K E ta fa)(m:ME K E tb fb):ME K E (Qt c ta tb) (QF fc fa fb):=λF H i h Q s V q=>by
 refine l.run s V q λb e j a k=>?_;cases b with
 |true=>rw[aR rfl];exact n e j i h Q a.fh (V.mono a.ff) (k.mono (λ_ z=>z.go a) λ_ _ z=>z)
 |false=>rw[aS aI];exact m e j i h Q a.fh (V.mono a.ff) (k.mono (λ_ z=>z.go a) λ_ _ z=>z)
end
@[simp] noncomputable def H9(fa fb:Pe->M T):Pe->M T:=λa=>(ji fa a).bind λb=>if b then fb a else .ok (.bl false)
@[simp] noncomputable def yo(fa:Pe->M T):Pe->M T:=λa=>(ji fa a).bind λb=>.ok (.bl (!b))
def Kt(k:ME K E ta fa)(j:ME K E tb fb):ME K E (GN ta tb) (H9 fa fb):=λF H i h Q s V q=>by
 refine (J9 k).run s V q λb c d a e=>?_;cases b with
 |true=>rw[aR rfl];exact j c d i h Q a.fh (V.mono a.ff) (e.mono (λ_ z=>z.go a) λ_ _ z=>z)
 |false=>rw[aS aI];exact e _ c d a (.bl _)
def HS(h:ME K E ta fa):ME K E (GE ta) (yo fa):=λF H j i Q s V q=>by refine (J9 h).run s V q λb a c e d=>?_;exact d _ a c e (.bl _)
@[simp] noncomputable def gj(fa:Pe->M T)(b:Pe->M (List T)):Pe->M (List T):=λa=>(fa a).bind λx=>(b a).bind λc=>.ok (x::c)
@[simp] noncomputable def gy:Pe->M (List T):=λ_=>.ok []
def A9:MA K E tZ gy:=λF H b a Q s V q=>q [] F H (.refl s) .nil
def Iw{c:TA}{b:Pe->M (List T)}(j:ME K E ta fa)(hr:MA K E c b):MA K E (pM ta c) (gj fa b):=λF H r p Q s V q=>by refine j.run s V q λx v o w a k h=>?_;refine hr.run a.fh (V.mono a.ff) h λy m l i d e n=>?_;exact n (v::m) l i (a.trans d) (.cons (k.mono d.ff) e)
@[simp] noncomputable def Ad(ts:List T):M (List T):=if ts.length<=sizeLine then .ok ts else .bad
@[simp] noncomputable def lW(c:Pe->M (List T)):Pe->M T:=λb=>(c b).bind λa=>(Ad a).bind λa=>.ok (.tup a)
@[simp] noncomputable def lstM(b:Pe->M (List T)):Pe->M (List T):=λa=>(b a).bind Ad
def MH{e:TA}{d:Pe->M (List T)}(hr:MA K E e d):ME K E (MP e) (lW d):=λF H m l Q s V q=>by
 refine hr.run s V q λj o k n b i a=>?_;unfold Ad at a;by_cases h:j.length<=sizeLine
 .rw[aR h]at a;refine⟨by rw[i.length];exact h,λp c=>?_⟩;exact a (.ref p) _ _ (b.trans (.new b.fh c)) (.tup gE (i.mono (Gr.new b.fh c).ff))
 .rw[aS h]at a;exact a.elim
def Lh{e:TA}{d:Pe->M (List T)}(hr:MA K E e d):MF K E (Lp e) (lstM d):=λF H n m Q s V q=>by
 refine hr.run s V q λl k j o b i a=>?_;unfold Ad at a;by_cases h:l.length<=sizeLine
 .rw[aR h]at a;refine⟨by rw[i.length];exact h,λp c=>?_⟩;exact a p k j _ (b.trans (.new' b.fh c)) (gY b.hh c) (gY b.fh c) gE i
 .rw[aS h]at a;exact a.elim
end
end L3
namespace L3
open PySem L2
inductive W where
 |p (t:T)|o (ts:List T)|d (kvs:List (LI×T))
abbrev En:=List (Option W)
@[simp] def QE:Option W->Option T
 |some (.p t)=>some t
 |_=>none
@[simp] def Q5:Option W->Option T
 |some (.p t)=>some t
 |some (.o ts)=>some (.lst ts)
 |_=>none
@[simp] noncomputable def mq(ρ:En):Pe:=ρ.map QE
@[simp] noncomputable def vw(ρ:En):Pe:=ρ.map Q5
mutual
@[simp] noncomputable def lf:T->Bool
 |.lst _=>false
 |.scr _=>false
 |.dic _=>false
 |.tup ts=>HP ts
 |.obj _ fs=>PX fs
 |_=>true
@[simp] noncomputable def HP:List T->Bool
 |[]=>true
 |t::ts=>lf t&&HP ts
noncomputable def PX:List (Str×T)->Bool
 |[]=>true
 |t::ts=>lf t.2&&PX ts
end
structure Fz where
 hp:Hp
 lt:List (Nat×Addr×List V)
instance:Coe Fz Hp:=⟨Fz.hp⟩
structure Lv(H0 F H:Hp)(σ:St)(ρ:En)(e:Nat×Addr×List V):Prop where
 h:H e.2.1=some (.lst e.2.2)
 f:F e.2.1=none
 z:H0 e.2.1=none
 d:∀(i:Nat) (ts:List T),ρ[i]? = some (some (.o ts))->σ[i]?≠some (some (.ref e.2.1))
def DR(K:W.Frag)(F:Hp)(a:List (List m6×V))(kvs:List (LI×T)):Prop:=Paired (λ(p:List m6×V) (q:LI×T)=>p.1=q.1.map Sum.inl/\j5 K F p.2 q.2) a kvs
def DR.mono(s:gX F F')(h:DR K F xs kvs):DR K F' xs kvs:=Paired.imp' (λ_ _ q=>⟨q.1,q.2.mono s⟩) h
structure Dv(K:W.Frag)(H0 F H:Hp)(σ:St)(ρ:En):Prop where
 at_:∀(i:Nat) kvs,ρ[i]? = some (some (.d kvs))->∃a,σ[i]? = some (some (.ref a))/\F a=none/\H0 a=none/\∃xs,H a=some (.dT xs)/\DR K F xs kvs
 dj:∀(i j:Nat) kvs kvs',ρ[i]? = some (some (.d kvs))->ρ[j]? = some (some (.d kvs'))->i≠j->σ[i]?≠σ[j]?
def Di{a:Type}{l:List a}{x y:a}(h:(l.set i x)[i]? = some y):y=x:=by
 rw[List.getElem?_set]at h;simp only[if_true]at h;split at h
 .exact (Option.some.inj h).symm
 .cases h
def C6{a:Type}{l:List a}{x y:a}(h:(l.set i x)[j]? = some y):(j=i/\y=x)\/(j≠i/\l[j]? = some y):=by
 by_cases e:j=i
 .subst e;exact .inl ⟨rfl,Di h⟩
 .rw[ar (λz=>e z.symm)]at h;exact .inr ⟨e,h⟩
def Dv.heap(d:Dv K H0 F H σ ρ)(s:gX F F')(h:∀a b,H a=some (.dT b)->F a=none->F' a=none/\H' a=some (.dT b)):Dv K H0 F' H' σ ρ:=⟨λi c e=>let ⟨a,e1,e2,e3,b,e4,e5⟩:=d.at_ i c e;let ⟨h1,h2⟩:=h a b e4 e2;⟨a,e1,h1,e3,b,h2,e5.mono s⟩,d.dj⟩
def Dv.set(d:Dv K H0 F H σ ρ)(hw:∀kvs,w≠some (.d kvs)):Dv K H0 F H (σ.set i v) (ρ.set i w):=by
 refine⟨λj kvs e=>?_,λj k kvs b e l c=>?_⟩
 .rcases C6 e with⟨rfl,q⟩|⟨g,q⟩
  .exact absurd q.symm (hw kvs)
  .obtain⟨a,m,r⟩:=d.at_ j kvs q;exact⟨a,by rw[ar (λz=>g z.symm)];exact m,r⟩
 .rcases C6 e with⟨rfl,q⟩|⟨g,q⟩
  .exact absurd q.symm (hw kvs)
  .rcases C6 l with⟨rfl,f⟩|⟨h,f⟩
   .exact absurd f.symm (hw b)
   .rw[ar (λz=>g z.symm),ar (λz=>h z.symm)];exact d.dj j k kvs b q f c
def Dv.setR(d:Dv K H0 F H σ ρ)(hw:∀kvs,w≠some (.d kvs)):Dv K H0 F H σ (ρ.set i w):=by
 refine⟨λj kvs e=>?_,λj k kvs a e f b=>?_⟩
 .rcases C6 e with⟨rfl,q⟩|⟨g,q⟩
  .exact absurd q.symm (hw kvs)
  .exact d.at_ j kvs q
 .rcases C6 e with⟨rfl,q⟩|⟨g,q⟩
  .exact absurd q.symm (hw kvs)
  .rcases C6 f with⟨rfl,c⟩|⟨h,c⟩
   .exact absurd c.symm (hw a)
   .exact d.dj j k kvs a q c b
structure Sr(K:W.Frag)(F0:Fz)(H0 F H:Hp)(σ:St)(ρ:En):Prop where
 gr:Gr F0.hp H0 F H
 len:σ.length=ρ.length
 pv:∀(i:Nat) (t:T),ρ[i]? = some (some (.p t))->∃v,σ[i]? = some (some v)/\j5 K F v t
 ov:∃ad:Nat->Addr,(∀(i:Nat) (ts:List T),ρ[i]? = some (some (.o ts))->σ[i]? = some (some (.ref (ad i)))/\F (ad i)=none/\H0 (ad i)=none/\∃vs,H (ad i)=some (.lst vs)/\gN K F vs ts)/\
  ∀(i j:Nat) (ts us:List T),ρ[i]? = some (some (.o ts))->ρ[j]? = some (some (.o us))->i≠j->ad i≠ad j
 lv:∀e∈F0.lt,Lv H0 F H σ ρ e
 sl:∀(j:Nat) (l:Addr) (vs:List V),F0.lt.lookup j=some (l,vs)->ρ[j]? = some none->σ[j]? = some (some (.ref l))
 dv:Dv K H0 F H σ ρ
section
variable {K:W.Frag}{F0:Fz}{H0 F H F' H':Hp}{σ:St}{ρ:En}
def Sr.vars(r:Sr K F0 H0 F H σ ρ):kK K F σ (mq ρ):=λi t e=>by
 unfold mq at e;rw[aw]at e;cases q:ρ[i]? with
 |none=>rw[q]at e;cases e
 |some w=>
  rw[q]at e;cases w with
  |none=>cases e
  |some w=>
   cases w with
   |p t'=>cases e;exact r.pv i _ q
   |o ts=>cases e
   |d kvs=>cases e
def Sr.grow(r:Sr K F0 H0 F H σ ρ)(g:Gr F H F' H'):Sr K F0 H0 F' H' σ ρ:=by
 obtain⟨k,l,m⟩:=r.ov;refine⟨r.gr.trans g,r.len,λi t e=>?_,⟨k,λi s e=>?_,m⟩,λe o=>?_,r.sl,r.dv.heap g.ff λa x j n=>⟨?_,g.hh _ _ j⟩⟩
 .obtain⟨v,a,b⟩:=r.pv i t e;exact⟨v,a,b.mono g.ff⟩
 .obtain⟨a,b,c,p,d,q⟩:=l i s e;refine⟨a,?_,c,p,g.hh _ _ d,q.mono g.ff⟩;cases z:F' (k i) with
  |none=>rfl
  |some u=>
   rcases g.nw (k i) (by rw[z];exact λw=>nomatch w) with y|y|⟨_,y⟩
   .exact absurd b y
   .rw[d]at y;cases y
   .rw[d]at y;cases y
 .have L:=r.lv e o;refine⟨g.hh _ _ L.h,?_,L.z,L.d⟩;cases z:F' e.2.1 with
  |none=>rfl
  |some u=>
   rcases g.nw e.2.1 (by rw[z];exact λw=>nomatch w) with y|y|⟨_,y⟩
   .exact absurd L.f y
   .rw[L.h]at y;cases y
   .rw[L.h]at y;cases y
 .cases z:F' a with
  |none=>rfl
  |some u=>
   rcases g.nw a (by rw[z];exact λw=>nomatch w) with y|y|⟨_,y⟩
   .exact absurd n y
   .rw[j]at y;cases y
   .rw[j]at y;cases y
theorem Sr.lend(r:Sr K F0 H0 F H σ ρ):∃l,gX F l/\Gr F0.hp H0 l H/\kK K l σ (vw ρ)/\
  (∀F' H',Gr l H F' H'->∃j,Gr F H j H'/\gX F j/\gX j F'/\(∀a,F' a≠none->j a=none->∃L,F' a=some (.lst L))/\(∀a,F' a≠none->j a=none->H a≠none)):=by
 classical
 obtain⟨J,m,N⟩:=r.ov;let f:Addr->Prop:=λa=>∃i h,ρ[i]? = some (some (.o h))/\J i=a;let l:Hp:=λa=>if f a then H a else F a
 have n:gX F l:=λa o e=>by
  have:¬f a:=by rintro⟨i,h,q,rfl⟩;obtain⟨_,b,_⟩:=m i h q;rw[b]at e;cases e
  show Ec o (if f a then H a else F a);rw[aS this];exact .of e
 have I:gX l H:=λa o e=>by
  by_cases q:f a
  .have s:(if f a then H a else F a)=some o:=e;rw[aR q]at s;exact .of s
  .have s:(if f a then H a else F a)=some o:=e;rw[aS q]at s;exact r.gr.fh a o s
 have C:∀a,f a->l a=H a:=λa q=>aR q;have A:∀a,¬f a->l a=F a:=λa q=>aS q;refine⟨l,n,⟨r.gr.ff.trans n,I,r.gr.hh,λa k=>?_⟩,λi t e=>?_,λF' H' g=>?_⟩
 .by_cases q:f a
  .obtain⟨i,h,e,rfl⟩:=q;exact .inr (.inl (m i h e).2.2.1)
  .rw[A a q]at k;exact r.gr.nw a k
 .unfold vw at e;rw[aw]at e;cases q:ρ[i]? with
  |none=>rw[q]at e;cases e
  |some w=>
   rw[q]at e;cases w with
   |none=>cases e
   |some w=>
    cases w with
    |p t'=>cases e;obtain⟨v,a,b⟩:=r.pv i _ q;exact⟨v,a,b.mono n⟩
    |o h=>cases e;obtain⟨a,b,c,y,d,z⟩:=m i h q;exact⟨_,a,.lst (by rw[C _ ⟨i,h,q,rfl⟩];exact d) (z.mono n)⟩
    |d kvs=>cases e
 .let j:Hp:=λa=>if f a then none else F' a
  have u:∀a,¬f a->j a=F' a:=λa q=>aS q;have B:∀a,f a->j a=none:=λa q=>aR q;have E:gX F j:=λa o e=>by
   have:¬f a:=by rintro⟨i,h,q,rfl⟩;obtain⟨_,b,_⟩:=m i h q;rw[b]at e;cases e
   rw[u a this];exact (n.trans g.ff) _ _ e
  have D:gX j F':=λa o e=>by
   by_cases q:f a
   .rw[B a q]at e;cases e
   .rw[u a q]at e;exact .of e
  refine⟨j,⟨E,D.trans g.fh,g.hh,λa k=>?_⟩,E,D,λa k x=>?_,λa k x=>?_⟩
  .by_cases q:f a
   .exact absurd (B a q) k
   .rw[u a q]at k;rcases g.nw a k with z|z
    .rw[A a q]at z;exact .inl z
    .exact .inr z
  .by_cases q:f a
   .obtain⟨i,h,e,rfl⟩:=id q;obtain⟨_,_,_,y,d,_⟩:=m i h e;exact⟨y,g.ff _ (.lst y) (by rw[C _ q];exact d)⟩
   .rw[u a q]at x;exact absurd x k
  .by_cases q:f a
   .obtain⟨i,h,e,rfl⟩:=id q;obtain⟨_,_,_,y,d,_⟩:=m i h e;rw[d];exact λz=>nomatch z
   .rw[u a q]at x;exact absurd x k
mutual
theorem j5.less(c:gX Fb F)(h:∀a,F a≠none->Fb a=none->∃d,F a=some (.lst d)):∀{v} {t},j5 K F v t->lf t=true->j5 K Fb v t
 |_,_,.non,_=>.non
 |_,_,.bl b,_=>.bl b
 |_,_,.int i,_=>.int i
 |_,_,.str x,_=>.str x
 |_,_,.tup (a:=a) e r,l=>by
  refine .tup ?_ (gN.less c h r (by simpa[lf] using l));cases q:Fb a with
  |none=>obtain⟨d,z⟩:=h a (by rw[e];exact λz=>nomatch z) q;rw[e]at z;cases z
  |some u=>have k:=c a u q;rw[e]at k;rw[vG k λ_ _ y=>nomatch y]
 |_,_,.lst _ _,l=>by simp[lf]at l
 |_,_,.scr _,l=>by simp[lf]at l
 |_,_,.obj (a:=a) (dx:=dx) e r,l=>by
  refine .obj (dx:=dx) ?_ (mz.less c h r (by simpa[lf] using l));cases q:Fb a with
  |none=>obtain⟨d,z⟩:=h a (by rw[e];exact λz=>nomatch z) q;rw[e]at z;cases z
  |some u=>have k:=c a u q;rw[e]at k;rw[vG k λ_ _ y=>nomatch y]
 |_,_,.dic _ _,l=>by simp[lf]at l
 |_,_,.emp (a:=a) e,l=>by
  refine .emp ?_;cases q:Fb a with
  |none=>obtain⟨d,z⟩:=h a (by rw[e];exact λz=>nomatch z) q;rw[e]at z;cases z
  |some u=>have k:=c a u q;rw[e]at k;rw[vG k λ_ _ y=>nomatch y]
theorem gN.less(b:gX Fb F)(h:∀a,F a≠none->Fb a=none->∃c,F a=some (.lst c)):∀{vs} {ts},gN K F vs ts->HP ts=true->gN K Fb vs ts
 |_,_,.nil,_=>.nil
 |_,_,.cons q r,l=>by rw[HP,bZ]at l;exact .cons (j5.less b h q l.1) (gN.less b h r l.2)
theorem mz.less(b:gX Fb F)(h:∀a,F a≠none->Fb a=none->∃c,F a=some (.lst c)):∀{vs} {ts},mz K F vs ts->PX ts=true->mz K Fb vs ts
 |_,_,.nil,_=>.nil
 |_,_,.cons q r,l=>by rw[PX,bZ]at l;exact .cons (j5.less b h q l.1) (mz.less b h r l.2)
end
end
end L3
namespace L3
open PySem L2
def kT(K:W.Frag)(F H:Hp)(Q:VK)(ts us:List T):Prop:=∀p l c d a b,Gr F H a b->H l=none->a l=none->H p=none->a p=none->p≠l->b l=some (.lst d)->b p=some (.tup (c++[.ref l]))->gN K a c ts->gN K a d us->Q (.ref p) b
def kT.of(h:kV K F H Q (.tup (ts++[.lst us]))):kT K F H Q ts us:=λp l u k j s g a b c d e f i r v=>by
 have q:=g.take f b a;have n:iU j l (.lst k) p=none:=by rw[gI e];exact d
 have o:gX j (iU j l (.lst k)):=mv b;have m:gX (iU j l (.lst k)) (iU (iU j l (.lst k)) p (.tup (u++[.ref l]))):=mv n;exact h (.ref p) _ s (q.take i n c) (.tup gE ((r.mono (o.trans m)).append (.cons (.lst (m _ _ gE) (v.mono (o.trans m))) .nil)))
inductive O where
 |bad|nx (ρ:En)|rt (t:T)|rf (ts:List T)|rn (ts us:List T)|bk (ρ:En)|ct (ρ:En)|er (C:Addr) (n:Option Int)
section
variable (K:W.Frag)(E:XK)
def kN(e:Fz)(d F:Hp)(D:St->Hp->Prop)(ρ:En):Prop:=∀c b a,gX F c->Sr K e d c b a ρ->D a b
noncomputable def O.res(o:O)(b:Fz)(a F:Hp)(D:rA):Prop:=match o with
 |.bad=>False
 |.nx ρ=>kN K b a F D.nx ρ
 |.rt t=>kV K b.hp a D.rt t
 |.rf ts=>kF K b.hp a D.rt ts
 |.rn ts us=>kT K b.hp a D.rt ts us
 |.bk ρ=>kN K b a F D.bk ρ
 |.ct ρ=>kN K b a F D.ct ρ
 |.er C n=>kE E b.hp a C n
noncomputable def MS(t:TS)(g:En->O):Prop:=∀d a F H c b D,Sr K d a F H c b->(g b).res K E d a F D->t D c H
end
section
variable {K:W.Frag}{E:XK}{t u ta tb:TE}{f fa fb:Pe->M T}{F0:Fz}{H0 F H F1 H1:Hp}{σ:St}{ρ:En}{D:rA}
def kN.go(h:kN K F0 H0 F N ρ)(s:gX F F1):kN K F0 H0 F1 N ρ:=λc b a d r=>h c b a (s.trans d) r
def O.res.go{o:O}(h:o.res K E F0 H0 F D)(s:gX F F1):o.res K E F0 H0 F1 D:=by
 cases o with
 |bad=>exact h
 |nx ρ=>exact kN.go h s
 |rt t=>exact h
 |rf ts=>exact h
 |rn ts us=>exact h
 |bk ρ=>exact kN.go h s
 |ct ρ=>exact kN.go h s
 |er C n=>exact h
noncomputable def O.of{b:Type}(m:M b)(k:b->O):O:=match m with
 |.bad=>.bad
 |.ok a=>k a
 |.er C n=>.er C n
@[simp] theorem O.of_ok(a:α) k:O.of (.ok a) k=k a:=rfl
@[simp] theorem O.of_bad k:O.of (.bad:M α) k=.bad:=rfl
@[simp] theorem O.of_er C n k:O.of (.er C n:M α) k=.er C n:=rfl
def O.res_of{m:M α}{k:α->O}(h:(O.of m k).res K E F0 H0 F D):m.res (λa=>(k a).res K E F0 H0 F D) (kE E F0.hp H0):=by cases m<;>exact h
@[simp] noncomputable def gQ(a b:En->O):En->O:=λρ=>match a ρ with
 |.nx ρ'=>b ρ'
 |o=>o
def LB{t u:TS}(d:MS K E t a)(g:MS K E u b):MS K E (Ko t u) (gQ a b):=λF0 H0 F H σ ρ D r q=>by
 refine d F0 H0 F H σ ρ _ r ?_;unfold gQ at q;cases e:a ρ with
 |nx ρ'=>rw[e]at q;intro j h c s i;exact g F0 H0 j h c ρ' D i (q.go s)
 |bad=>rw[e]at q;exact q
 |rt t=>rw[e]at q;exact q
 |rf ts=>rw[e]at q;exact q
 |rn ts us=>rw[e]at q;exact q
 |bk ρ=>rw[e]at q;exact q
 |ct ρ=>rw[e]at q;exact q
 |er C n=>rw[e]at q;exact q
@[simp] noncomputable def iR:En->O:=λρ=>.nx ρ
def Jh:MS K E Gh iR:=λF0 H0 F H σ ρ D r q=>q F H σ (.refl _) r
def E7:MS K E Bu (λ_=>.bad):=λ_ _ _ _ _ _ _ _ q=>q
def MT.inS(m:MT K E c fc)(r:Sr K F0 H0 F H σ ρ)(q:(O.of (fc (vw ρ)) k).res K E F0 H0 F D)
  (o:∀b e d,gX F e->Sr K F0 H0 e d σ ρ->(k b).res K E F0 H0 e D->Q b d):c σ H Q:=by
 obtain⟨p,s,h,V,a⟩:=r.lend;refine m p H σ (vw ρ) Q h.fh V ((O.res_of q).mono (λb z e d g=>?_) λC n z=>z.go h);obtain⟨j,l,i,_⟩:=a e d g;exact o b j d i (r.grow l) (z.go i)
@[simp] noncomputable def nq(d:Pe->M Bool)(a b:En->O):En->O:=λρ=>.of (d (vw ρ)) λc=>if c then a ρ else b ρ
def Pz{t u:TS}(i:MT K E c fc)(g:MS K E t a)(h:MS K E u b):MS K E (Lj c t u) (nq fc a b):=λF0 H0 F H σ ρ D r q=>by
 refine i.inS r q λc k j s e d=>?_;cases c with
 |true=>rw[aR rfl];exact g _ _ _ _ _ _ _ e d
 |false=>rw[aS aI];exact h _ _ _ _ _ _ _ e d
@[simp] noncomputable def i7(f:Pe->M T):En->O:=λρ=>.of (f (vw ρ)) λt=>.rt t
def MN(h:ME K E t f):MS K E (Au t) (i7 f):=λF0 H0 F H σ ρ D r q=>by obtain⟨d,e,a,V,c⟩:=r.lend;exact h d H σ (vw ρ) _ a.fh V ((O.res_of q).mono (λb z=>kV.go z a) λC n z=>z.go a)
@[simp] noncomputable def pZ(f:Pe->M (List T)):En->O:=λρ=>.of (f (vw ρ)) λt=>.rf t
def Jl{f:Pe->M (List T)}(h:MF K E t f):MS K E (Au t) (pZ f):=λF0 H0 F H σ ρ D r q=>by obtain⟨d,e,a,V,c⟩:=r.lend;exact h d H σ (vw ρ) _ a.fh V ((O.res_of q).mono (λb z=>kF.go z a) λC n z=>z.go a)
@[simp] noncomputable def nX(i:Nat):En->O:=λρ=>match ρ[i]? with
 |some (some (.o ts))=>.rf ts
 |_=>.bad
def DE:MS K E (Au (mX i)) (nX i):=λF0 H0 F H σ ρ D r q=>by
 unfold nX at q;split at q
 .rename_i k e;obtain⟨j,g,l⟩:=r.ov;obtain⟨a,b,c,h,d,z⟩:=g i k e;exact⟨_,a,q (j i) h F H r.gr c b d z⟩
 .exact q.elim
def pH{a:Type}{l:List a}{x y:a}(h:(l.set i x)[i]? = some y):y=x:=by
 rw[List.getElem?_set]at h;simp only[if_true]at h;split at h
 .exact (Option.some.inj h).symm
 .cases h
def iM{a:Type}{l:List a}{x y:a}(h:(l.set i x)[j]? = some y):(j=i/\y=x)\/(j≠i/\l[j]? = some y):=by
 by_cases e:j=i
 .subst e;exact .inl ⟨rfl,pH h⟩
 .rw[ar (λz=>e z.symm)]at h;exact .inr ⟨e,h⟩
def xJ{a:Type}{l:List a}{x:a}(h:i<l.length):(l.set i x)[i]? = some x:=by rw[List.getElem?_set_self h]
def Sr.setP(r:Sr K F0 H0 F H σ ρ)(h:j5 K F v x):Sr K F0 H0 F H (σ.set i (some v)) (ρ.set i (some (.p x))):=by
 obtain⟨N,s,A⟩:=r.ov;refine⟨r.gr,by simp[r.len],λj t e=>?_,⟨N,λj m e=>?_,λj k m C e B=>?_⟩,λe I=>?_,λj l J n q=>?_,r.dv.set λ_ z=>nomatch z⟩
 .have y:j<ρ.length:=by simpa using (ae.mp e).1
  rcases iM e with⟨rfl,q⟩|⟨c,q⟩
  .cases q;exact⟨v,xJ (by rw[r.len];exact y),h⟩
  .obtain⟨w,a,b⟩:=r.pv j t q;exact⟨w,by rw[ar (λz=>c z.symm)];exact a,b⟩
 .rcases iM e with⟨rfl,q⟩|⟨c,q⟩
  .cases q
  .obtain⟨a,b⟩:=s j m q;exact⟨by rw[ar (λz=>c z.symm)];exact a,b⟩
 .rcases iM e with⟨rfl,q⟩|⟨c,q⟩
  .cases q
  .rcases iM B with⟨rfl,o⟩|⟨P,o⟩
   .cases o
   .exact A j k m C q o
 .have L:=r.lv e I;refine⟨L.h,L.f,L.z,λj m q=>?_⟩;rcases iM q with⟨rfl,g⟩|⟨c,g⟩
  .cases g
  .rw[ar (λz=>c z.symm)];exact L.d j m g
 .rcases iM q with⟨rfl,g⟩|⟨c,g⟩
  .cases g
  .rw[ar (λz=>c z.symm)];exact r.sl j l J n g
def Sr.setO(r:Sr K F0 H0 F H σ ρ)(g:Gr F H F1 H1)(x:H l=none)(hf:F1 l=none)(hv:H1 l=some (.lst vs))(hr:gN K F1 vs ts) :
  Sr K F0 H0 F1 H1 (σ.set i (some (.ref l))) (ρ.set i (some (.o ts))):=by
 have p:=r.grow g;obtain⟨N,I,_⟩:=r.ov;obtain⟨C,P,Z⟩:=p.ov;have Y:∀j m,ρ[j]? = some (some (.o m))->C j≠l:=λj m e z=>by
  obtain⟨a,_⟩:=P j m e;obtain⟨S,_,_,vs0,R,_⟩:=I j m e;rw[a]at S;have:C j=N j:=by simpa using S
  rw[<-this,z,x]at R;cases R
 refine⟨p.gr,by simp[r.len],λj t e=>?_,⟨λj=>if j=i then l else C j,λj m e=>?_,λj k m X e Q v=>?_⟩,λe U=>?_,λj l' B A q=>?_,p.dv.set λ_ z=>nomatch z⟩
 .rcases iM e with⟨rfl,q⟩|⟨c,q⟩
  .cases q
  .obtain⟨w,a,b⟩:=p.pv j t q;exact⟨w,by rw[ar (λz=>c z.symm)];exact a,b⟩
 .have y:j<ρ.length:=by simpa using (ae.mp e).1
  rcases iM e with⟨rfl,q⟩|⟨c,q⟩
  .cases q;dsimp only;rw[aR rfl];exact⟨xJ (by rw[r.len];exact y),hf,gY r.gr.hh x,vs,hv,hr⟩
  .dsimp only;rw[aS c];obtain⟨a,b⟩:=P j m q;exact⟨by rw[ar (λz=>c z.symm)];exact a,b⟩
 .rcases iM e with⟨rfl,q⟩|⟨c,q⟩
  .rcases iM Q with⟨rfl,s⟩|⟨J,s⟩
   .exact absurd rfl v
   .dsimp only;rw[aR rfl,aS J];exact λz=>Y k X s z.symm
  .rcases iM Q with⟨rfl,s⟩|⟨J,s⟩
   .dsimp only;rw[aS c,aR rfl];exact Y j m q
   .dsimp only;rw[aS c,aS J];exact Z j k m X q s v
 .have L:=p.lv e U;have L0:=r.lv e U;refine⟨L.h,L.f,L.z,λj ts q=>?_⟩;rcases iM q with⟨rfl,n⟩|⟨c,n⟩
  .intro z;have z':=pH z;have:e.2.1=l:=by simpa using z'
   rw[<-this,L0.h]at x;cases x
  .rw[ar (λz=>c z.symm)];exact L.d j ts n
 .rcases iM q with⟨rfl,n⟩|⟨c,n⟩
  .cases n
  .rw[ar (λz=>c z.symm)];exact r.sl j l' B A n
@[simp] noncomputable def jE(f:Pe->M T)(ρ:En):M T:=f (mq ρ)
@[simp] noncomputable def sJ(f:Pe->M T)(ρ:En):M T:=(f (vw ρ)).bind λt=>if lf t then .ok t else .bad
def ME.inH(h:ME K E t f)(r:Sr K F0 H0 F H σ ρ)(q:(O.of (jE f ρ) k).res K E F0 H0 F D)
  (c:∀x v a b,Gr F H a b->j5 K a v x->Sr K F0 H0 a b σ ρ->(k x).res K E F0 H0 a D->Q v b):t σ H Q:=
 h F H σ (mq ρ) Q r.gr.fh r.vars ((O.res_of q).mono (λx z v a b g d=>c x v a b g d (r.grow g) (z.go g.ff)) λC n z=>z.go r.gr)
def ME.inB(h:ME K E t f)(r:Sr K F0 H0 F H σ ρ)(q:(O.of (sJ f ρ) k).res K E F0 H0 F D)
  (s:∀x v b a,Gr F H b a->j5 K b v x->Sr K F0 H0 b a σ ρ->(k x).res K E F0 H0 b D->Q v a):t σ H Q:=by
 obtain⟨w,y,j,V,d⟩:=r.lend;refine h w H σ (vw ρ) Q j.fh V ((M.res.unb (O.res_of q)).mono (λx z v b a g m=>?_) λC n z=>z.go j);obtain⟨o,l,p,i,c,_⟩:=d b a g;by_cases e:lf x=true
 .rw[aR e]at z;exact s x v o a l (m.less i c e) (r.grow l) (O.res.go z p)
 .rw[aS e]at z;exact z.elim
@[simp] noncomputable def setO(i:Nat)(f:En->M T):En->O:=λρ=>.of (f ρ) λt=>.nx (ρ.set i (some (.p t)))
def CC(h:ME K E t f):MS K E (mT t (jV i)) (setO i (jE f)):=λF0 H0 F H σ ρ D r q=>h.inH r q λx v e c g a d b=>b e c _ (.refl _) (d.setP a)
def Ks(h:ME K E t f):MS K E (mT t (jV i)) (setO i (sJ f)):=λF0 H0 F H σ ρ D r q=>h.inB r q λx v e c g a d b=>b e c _ (.refl _) (d.setP a)
@[simp] noncomputable def pY(f:Pe->M (List T))(ρ:En):M (List T):=f (mq ρ)
@[simp] noncomputable def El(f:Pe->M (List T))(ρ:En):M (List T):=(f (vw ρ)).bind λa=>if HP a then .ok a else .bad
def MF.inH{f:Pe->M (List T)}(h:MF K E t f)(r:Sr K F0 H0 F H σ ρ)(q:(O.of (pY f ρ) k).res K E F0 H0 F D)
  (j:∀ts l vs e i,Gr F H e i->H l=none->e l=none->i l=some (.lst vs)->gN K e vs ts->(k ts).res K E F0 H0 e D->Q (.ref l) i):t σ H Q:=
 h F H σ (mq ρ) Q r.gr.fh r.vars ((O.res_of q).mono (λts z l vs e i g a b c d=>j ts l vs e i g a b c d (z.go g.ff)) λC n z=>z.go r.gr)
def MF.inB{f:Pe->M (List T)}(h:MF K E t f)(r:Sr K F0 H0 F H σ ρ)(q:(O.of (El f ρ) k).res K E F0 H0 F D)
  (y:∀ts l vs i e,Gr F H i e->H l=none->i l=none->e l=some (.lst vs)->gN K i vs ts->(k ts).res K E F0 H0 i D->Q (.ref l) e):t σ H Q:=by
 obtain⟨A,B,s,V,o⟩:=r.lend;refine h A H σ (vw ρ) Q s.fh V ((M.res.unb (O.res_of q)).mono (λts z l vs i e g a b c d=>?_) λC n z=>z.go s);obtain⟨v,w,x,m,j,_⟩:=o i e g;by_cases p:HP ts=true
 .rw[aR p]at z;exact y ts l vs v e w a (gY m b) c (d.less m j p) (O.res.go z x)
 .rw[aS p]at z;exact z.elim
@[simp] noncomputable def nN(i:Nat)(f:En->M (List T)):En->O:=λρ=>.of (f ρ) λa=>.nx (ρ.set i (some (.o a)))
def BM{f:Pe->M (List T)}(h:MF K E t f):MS K E (mT t (jV i)) (nN i (pY f)):=λF0 H0 F H σ ρ D r q=>h.inH r q λn l m k e g a b c d j=>j k e _ (.refl _) (r.setO g a b c d)
def Kb{f:Pe->M (List T)}(h:MF K E t f):MS K E (mT t (jV i)) (nN i (El f)):=λF0 H0 F H σ ρ D r q=>h.inB r q λn l m k e g a b c d j=>j k e _ (.refl _) (r.setO g a b c d)
def Sr.change(r:Sr K F0 H0 F H σ ρ)(e:ρ[i]? = some (some (.o ts)))(hw:gN K F ws us) :
  ∃l vs,σ[i]? = some (some (.ref l))/\H l=some (.lst vs)/\gN K F vs ts/\Sr K F0 H0 F (iU H l (.lst ws)) σ (ρ.set i (some (.o us))):=by
 obtain⟨I,J,A⟩:=r.ov;obtain⟨a,b,c,vs,d,z⟩:=J i ts e;refine⟨I i,vs,a,d,z,⟨r.gr.ff,λp u q=>?_,λp u q=>?_,r.gr.nw⟩,by simp[r.len],λj t q=>?_,⟨I,λj s q=>?_,λj k s x q P m=>?_⟩,λN S=>?_,λj Z n B q=>?_,(r.dv.heap (.refl _) λp xs C _=>⟨by assumption,by rw[gI (λz=>by rw[z,d]at C;cases C)];exact C⟩).setR λ_ z=>nomatch z⟩
 .rw[gI (hU q b)];exact r.gr.fh p u q
 .rw[gI (hU q c)];exact r.gr.hh p u q
 .rcases iM q with⟨rfl,g⟩|⟨v,g⟩
  .cases g
  .exact r.pv j t g
 .rcases iM q with⟨rfl,g⟩|⟨v,g⟩
  .cases g;exact⟨a,b,c,ws,gE,hw⟩
  .obtain⟨X,Y,R,n,U,Q⟩:=J j s g;exact⟨X,Y,R,n,by rw[gI (A j i s ts g e v)];exact U,Q⟩
 .rcases iM q with⟨rfl,g⟩|⟨v,g⟩
  .rcases iM P with⟨rfl,y⟩|⟨hk,y⟩
   .exact absurd rfl m
   .exact A j k ts x e y m
  .rcases iM P with⟨rfl,y⟩|⟨hk,y⟩
   .exact A j k s ts g e m
   .exact A j k s x g y m
 .have L:=r.lv N S;have hne:N.2.1≠I i:=λw=>L.d i ts e (by rw[w];exact a);refine⟨by rw[gI hne];exact L.h,L.f,L.z,λj s q=>?_⟩;rcases iM q with⟨rfl,g⟩|⟨v,g⟩
  .exact L.d _ ts e
  .exact L.d j s g
 .rcases iM q with⟨rfl,g⟩|⟨v,g⟩
  .cases g
  .exact r.sl j Z n B g
@[simp] noncomputable def lg(ρ:En)(i:Nat):M (List T):=match ρ[i]? with
 |some (some (.o ts))=>.ok ts
 |_=>.bad
def pD(h:lg ρ i=.ok ts):ρ[i]? = some (some (.o ts)):=by
 unfold lg at h;split at h
 .rename_i a e;cases h;exact e
 .cases h
@[simp] noncomputable def tW(i:Nat)(f:En->M T):En->O:=λρ=>.of (lg ρ i) λa=>.of (f ρ) λt=>if a.length<sizeLine then .nx (ρ.set i (some (.o (a++[t])))) else .bad
def za(r:Sr K F0 H0 F H σ ρ)(e:ρ[i]? = some (some (.o ts)))(k:j5 K F v x)
  (q:(if ts.length<sizeLine then O.nx (ρ.set i (some (.o (ts++[x])))) else .bad).res K E F0 H0 F D):∃l,σ[i]? = some (some (.ref l))/\xK (.ref l) [v] H λ_ H1=>D.nx σ H1:=by
 by_cases c:ts.length<sizeLine
 .rw[aR c]at q;obtain⟨n,h,_⟩:=r.ov;obtain⟨_,_,_,m,d,z⟩:=h i ts e;obtain⟨l,b,j,g,s,p⟩:=r.change e (z.append (.cons k .nil));have:b=m:=by
   have a:=(h i ts e).1;rw[j]at a;have:l=n i:=by simpa using a
   rw[this,d]at g;cases g;rfl
  subst this;exact⟨l,j,l,b,v,rfl,rfl,g,by rw[z.length];exact c,q F _ _ (.refl _) p⟩
 .rw[aS c]at q;exact q.elim
def Lx(K:W.Frag)(i:Nat)(a:TE):TE:=Qy K "list" xK (mX i) (pM a tZ)
def IG(o:∀l s H,H l=some (.lst s)->Od K "list" (.ref l) H)(h:ME K E t f):MS K E (yE (Lx K i t)) (tW i (jE f)):=λF0 H0 F H σ ρ D r q=>by
 unfold tW at q;cases e:lg ρ i with
 |bad=>rw[e]at q;exact q.elim
 |er C n=>unfold lg at e;split at e<;>cases e
 |ok ts=>rw[e]at q;have c:=pD e;obtain⟨z,k,_⟩:=r.ov;obtain⟨a,_,_,y,d,_⟩:=k i ts c;refine⟨_,a,o _ _ _ d,?_⟩;refine h.inH r q λx v B A g m w p=>?_;obtain⟨l,j,b⟩:=za w c m p;rw[a]at j;cases j;exact b
@[simp] noncomputable def A8(i:Nat)(b:En->M T)(f:En->M T):En->O:=λρ=>.of (lg ρ i) λa=>.of (f ρ) λt=>.of (b ρ) λk=>match k with
 |.int k=>match yx a.length k with
  |some j=>.nx (ρ.set i (some (.o (a.set j t))))
  |none=>.bad
 |_=>.bad
theorem Hn{i:Nat}{ts:List T}{x y:T}{v w:V}{l:Addr}(r:Sr K F0 H0 F H σ ρ)(e:ρ[i]? = some (some (.o ts)))(p:σ[i]? = some (some (.ref l)))(s:j5 K F v x)(g:j5 K F w y)
  (b:(match y with
   |.int k=>match yx ts.length k with
    |some j=>O.nx (ρ.set i (some (.o (ts.set j x))))
    |none=>.bad
   |_=>.bad).res K E F0 H0 F D):BG (.ref l) w v H λI=>D.nx σ I:=by
 cases g with
 |int k=>
  dsimp only at b;cases h:yx ts.length k with
  |none=>rw[h]at b;exact b.elim
  |some j=>
   rw[h]at b;obtain⟨B,n,_⟩:=r.ov;obtain⟨_,_,_,A,d,z⟩:=n i ts e;obtain⟨L,c,q,m,J,C⟩:=r.change e (z.set s j);rw[p]at q;cases q;have:c=A:=by
    have a:=(n i ts e).1;rw[p]at a;have:l=B i:=by simpa using a
    rw[this,d]at m;cases m;rfl
   subst this;exact⟨l,c,k,j,rfl,rfl,m,by rw[z.length];exact h,b F _ _ (.refl _) C⟩
 |_=>exact b.elim
def Li(h:ME K E t f)(m:ME K E tk fk):MS K E (mT t (MY (mX i) tk BG)) (A8 i (sJ fk) (sJ f)):=λF0 H0 F H σ ρ D r q=>by
 unfold A8 at q;cases e:lg ρ i with
 |bad=>rw[e]at q;exact q.elim
 |er C n=>unfold lg at e;split at e<;>cases e
 |ok ts=>rw[e]at q;have c:=pD e;obtain⟨A,d,_⟩:=r.ov;have a:=(d i ts c).1;refine h.inB r q λx v J I g j s k=>⟨_,a,?_⟩;exact m.inB s k λy w B z l b p o=>Hn p c a (j.mono l.ff) b o
end
end L3
namespace L3
open PySem L2
section
variable {K:W.Frag}{E:XK}{t u ta tb:TE}{f fa fb:Pe->M T}{F0:Fz}{H0 F H F1 H1:Hp}{σ:St}{ρ:En}{D:rA}
structure xt(K:W.Frag)(J:It)(gG:List T)(F1:Hp):Prop where
 go:∀i H,gX F1 H->i<gG.length->J.go i H
 stop:∀H,gX F1 H->J.stop gG.length H
 yld:∀(i:Nat) t F H x H',gX F1 F->gX F H->gG[i]? = some t->J.yld i H x H'->∃F',Gr F H F' H'/\j5 K F' x t
def kI(K:W.Frag)(F H:Hp)(R:It->Hp->Prop)(gG:List T):Prop:=∀J b a,Gr F H b a->xt K J gG b->R J a
noncomputable def MI(K:W.Frag)(E:XK)(w:TI)(f:Pe->M (List T)):Prop:=∀F H σ ρ R,gX F H->kK K F σ ρ->(f ρ).res (kI K F H R) (kE E F H)->w σ H R
def Rg(K:W.Frag)(F H:Hp)(R:It->Hp->Prop)(gG:List T):Prop:=∀J b a,Gr F H b a->(∀F1,xt K J gG F1)->R J a
noncomputable def NS(K:W.Frag)(E:XK)(w:TI)(f:Pe->M (List T)):Prop:=∀F H σ ρ R,gX F H->kK K F σ ρ->(f ρ).res (Rg K F H R) (kE E F H)->w σ H R
def NS.mi{f:Pe->M (List T)}(h:NS K E w f):MI K E w f:=λF H σ ρ R s V q=>h F H σ ρ R s V (q.mono (λgG z J a b g i=>z J a b g (i a)) λ_ _ z=>z)
@[simp] noncomputable def PJ(fa:Pe->M T):Pe->M (List T):=λρ=>(fa ρ).bind λx=>match x with
 |.lst ts=>.ok ts
 |.scr ns=>.ok (ns.map T.int)
 |_=>.bad
@[simp] noncomputable def Q0(fa:Pe->M T):Pe->M (List T):=λρ=>(fa ρ).bind λx=>match x with
 |.tup ts=>.ok ts
 |_=>.bad
def B1(hs:ka K F a xs)(r:gN K F xs ts):xt K (QK K a) ts F where
 go:=λi H s k=>by have e:xs[i]? = some (xs[i]'(by rw[r.length];exact k)):=ai _;exact⟨xs,_,s.seq hs,e⟩
 stop:=λH s=>⟨xs,s.seq hs,by rw[r.length];exact aL _⟩
 yld:=λi t l H x m d c e y=>by obtain⟨rfl,j⟩:=y;have h:=j xs ((d.trans c).seq hs);obtain⟨n,b,g⟩:=r.at_ h;rw[e]at b;cases b;exact⟨l,.refl c,g.mono d⟩
def q9(s:gX F H)(h:F a=some (.tup xs)):lz K H a xs:=lz.of (s _ _ h)
def Ma(hs:F a=some (.tup xs))(r:gN K F xs ts):xt K (Qn K a) ts F where
 go:=λi H s k=>by have e:xs[i]? = some (xs[i]'(by rw[r.length];exact k)):=ai _;exact⟨xs,_,q9 s hs,e⟩
 stop:=λH s=>⟨xs,q9 s hs,by rw[r.length];exact aL _⟩
 yld:=λi t l H x m d c e y=>by obtain⟨rfl,j⟩:=y;have h:=j xs (q9 (d.trans c) hs);obtain⟨n,b,g⟩:=r.at_ h;rw[e]at b;cases b;exact⟨l,.refl c,g.mono d⟩
def wR(c:ME K E ta fa):MI K E (Gb K ta) (PJ fa):=λF H σ ρ R s V q=>by
  refine c.run s V q λx v F1 H1 a d b=>?_;cases d<;>first
    |exact b.elim
    | (rename_i h r
       exact⟨_,rfl,⟨_,ka.of (a.fh _ _ h)⟩,b _ F1 H1 a (B1 (ka.of h) r)⟩)
    | (rename_i h
       exact⟨_,rfl,⟨_,a.fh.seq h⟩,b _ F1 H1 a (B1 h (gN.of_ints _))⟩)
def Lu(c:ME K E ta fa):MI K E (LC K ta) (Q0 fa):=λF H σ ρ R s V q=>by
  refine c.run s V q λx v F1 H1 b d a=>?_;cases d<;>first
    |exact a.elim
    | (rename_i h r
       exact⟨_,rfl,⟨_,lz.of (b.fh _ _ h)⟩,a _ F1 H1 b (Ma h r)⟩)
def Of:(2:Int) ^ 62=4611686018427387904:=by decide +kernel
def PZ:(2:Int) ^ 63=9223372036854775808:=by decide +kernel
noncomputable def DN(j:Int):Bool:=decide (j.natAbs<4611686018427387904)
def nV(h:DN j=true):-(2 ^ 62)<=j/\j<2 ^ 62:=by rw[Of];have:=of_decide_eq_true h;omega
def n5(h:j.natAbs<=1000000):DN j=true:=aD (by omega)
noncomputable def sf(a:Int)(n:Nat):List T:=(List.range n).map λ(i:Nat)=>T.int (a+(i:Int))
def Ml F:xt K (Pf lo n) (sf lo n) F where
 go:=λi H s a=>by show i<n;simpa[sf] using a
 stop:=λH s=>by simp[sf,Pf]
 yld:=λi t c H x g d b e y=>by
  obtain⟨rfl,rfl⟩:=y;have a:i<n:=by simpa[sf] using (ae.mp e).1
  have:t=.int (lo+i):=by unfold sf at e;rw[aw,List.getElem?_range a]at e;cases e;rfl
  rw[this];exact⟨c,.refl b,.int _⟩
@[simp] noncomputable def kL(fa:Pe->M (List T)):Pe->M (List T):=λρ=>(fa ρ).bind λa=>match a with
 |[.int j]=>if DN j then .ok (sf 0 j.toNat) else .bad
 |_=>.bad
def IY{ta:TA}{fa:Pe->M (List T)}(g:MA K E ta fa):NS K E (G4 ta) (kL fa):=λF H σ ρ R s V q=>by
 refine g.run s V q λk i F1 H1 e h c=>?_;split at c
 .rename_i j;split at c
  .rename_i d;cases h with
   |cons a b=>cases a;cases b;exact⟨j,rfl,(nV d).1,(nV d).2,c _ F1 H1 e Ml⟩
  .exact c.elim
 .exact c.elim
noncomputable def seqB(b:Bool):T->M (List T)
 |.tup ts=>if b then .ok ts else .bad
 |.lst ts=>if b then .bad else .ok ts
 |.scr ns=>if b then .bad else .ok (ns.map T.int)
 |_=>.bad
def xR(r:j5 K F v x)(e:seqB b x=.ok ts):∃a c,v=.ref a/\(∀H,gX F H->uS K H b a c)/\gN K F c ts:=by
 cases r<;>try (cases e)
 .rename_i a c d h r;cases b with
  |true=>cases e;exact⟨a,c,rfl,λH s=>by unfold uS;rw[aR rfl];exact lz.of (s _ _ h),r⟩
  |false=>cases e
 .rename_i a c d h r;cases b with
  |true=>cases e
  |false=>cases e;exact⟨a,c,rfl,λH s=>by unfold uS;rw[aS aI];exact ka.of (s _ _ h),r⟩
 .rename_i a g h;cases b with
  |true=>cases e
  |false=>cases e;exact⟨a,_,rfl,λH s=>by unfold uS;rw[aS aI];exact s.seq h,gN.of_ints g⟩
noncomputable def xp(b a:List T):List T:=(b.zip a).map λp=>T.tup [p.1,p.2]
def Nl(c:∀H,gX F H->uS K H b1 l1 xs)(k:gN K F xs ts)(d:∀H,gX F H->uS K H b2 l2 ys)(m:gN K F ys us):xt K (Qj K b1 b2 l1 l2) (xp ts us) F where
 go:=λi H s I=>by
  have a:i<ts.length/\i<us.length:=by simp[xp]at I;omega
  have l:xs[i]? = some (xs[i]'(by rw[k.length];exact a.1)):=ai _;have h:ys[i]? = some (ys[i]'(by rw[m.length];exact a.2)):=ai _;exact⟨xs,ys,_,_,c H s,d H s,l,h⟩
 stop:=λH s=>⟨xs,ys,c H s,d H s,by simp[xp,k.length,m.length];omega⟩
 yld:=λi t N H x L b j e y=>by
  obtain⟨p,C,v,rfl,r,rfl,l,h⟩:=y;obtain⟨n,A,w⟩:=k.at_ (l xs (c H (b.trans j)));obtain⟨q,B,J⟩:=m.at_ (h ys (d H (b.trans j)));have:t=.tup [n,q]:=by unfold xp at e;rw[aw,(List.getElem?_zip_eq_some (z:=(n,q))).mpr ⟨A,B⟩]at e;cases e;rfl
  rw[this];have g:=Gr.new (o:=.tup [C,v]) j r;exact⟨_,g,.tup gE (.cons ((w.mono b).mono g.ff) (.cons ((J.mono b).mono g.ff) .nil))⟩
noncomputable def MD(b d:Bool)(fa:Pe->M (List T)):Pe->M (List T):=λρ=>(fa ρ).bind λe=>match e with
 |[x,y]=>(seqB b x).bind λc=>(seqB d y).bind λa=>.ok (xp c a)
 |_=>.bad
def wO:seqB b x≠.er C n:=by cases x<;>cases b<;>exact λz=>nomatch z
def Gn{ta:TA}{fa:Pe->M (List T)}(p:MA K E ta fa):MI K E (LS K b1 b2 ta) (MD b1 b2 fa):=λF H σ ρ R s V q=>by
 refine p.run s V q λA z F1 H1 h r d=>?_;split at d
 .rename_i x y;cases r with
  |cons a b=>
   cases b with
   |cons b c=>
    cases c;cases g:seqB b1 x with
    |bad=>rw[g]at d;exact d.elim
    |er C n=>exact absurd g wO
    |ok ts=>
     rw[g]at d;cases e:seqB b2 y with
     |bad=>simp only[e,M.bind_ok]at d;exact d.elim
     |er C n=>exact absurd e wO
     |ok us=>simp only[e,M.bind_ok]at d;obtain⟨v,o,rfl,j,l⟩:=xR a g;obtain⟨w,k,rfl,i,m⟩:=xR b e;exact⟨v,w,rfl,⟨o,j _ h.fh⟩,⟨k,i _ h.fh⟩,d _ F1 H1 h (Nl j l i m)⟩
 .exact d.elim
def MG(K:W.Frag)(g:TG)(m:T->Pe->Option Pe):Prop:=∀F H σ (ρ:Pe) x t ρ' Q,gX F H->σ.length=ρ.length->kK K F σ ρ->j5 K F x t->m t ρ=some ρ'->(∀a,a.length=ρ'.length->kK K F a ρ'->Q a H)->g x σ H Q
def OQ(K:W.Frag)(g:HN)(m:List T->Pe->Option Pe):Prop:=∀F H σ (ρ:Pe) xs ts ρ' Q,gX F H->σ.length=ρ.length->kK K F σ ρ->gN K F xs ts->m ts ρ=some ρ'->(∀a,a.length=ρ'.length->kK K F a ρ'->Q a H)->g xs σ H Q
@[simp] def jq(i:Nat):T->Pe->Option Pe:=λt ρ=>some (ρ.set i (some t))
def kK.set{ρ:Pe}(V:kK K F σ ρ)(d:σ.length=ρ.length)(h:j5 K F v x):kK K F (σ.set i (some v)) (ρ.set i (some x)):=λj t e=>by
 have c:j<ρ.length:=by simpa using (ae.mp e).1
 rcases iM e with⟨rfl,q⟩|⟨c,q⟩
 .cases q;exact⟨v,xJ (by rw[d];exact c),h⟩
 .obtain⟨w,a,b⟩:=V j t q;exact⟨w,by rw[ar (λz=>c z.symm)];exact a,b⟩
def Iy:MG K (jV i) (jq i):=λF H σ ρ x t b Q s a V r e k=>by cases e;exact k _ (by simp[a]) (V.set a r)
@[simp] noncomputable def mW:List T->Pe->Option Pe
 |[],ρ=>some ρ
 |_::_,_=>none
@[simp] def iL(m:T->Pe->Option Pe)(n:List T->Pe->Option Pe):List T->Pe->Option Pe
 |[],_=>none
 |t::ts,ρ=>(m t ρ).bind (n ts)
def Ig:OQ K Dy mW:=λF H σ ρ h g d Q s c V r e k=>by
 cases r with
 |nil=>cases e;exact⟨rfl,k σ c V⟩
 |cons a b=>cases e
def EU(l:MG K g m)(p:OQ K gs n):OQ K (ud g gs) (iL m n):=λF H σ ρ y x c Q s o V r e k=>by
 cases r with
 |nil=>cases e
 |cons a b=>
  rename_i v t j d;have e:(m t ρ).bind (n d)=some c:=e;cases q:m t ρ with
  |none=>rw[q]at e;cases e
  |some ρ1=>rw[q]at e;refine⟨v,j,rfl,l F H σ ρ v t ρ1 _ s o V a q λi h w=>?_⟩;exact p F H i ρ1 j d c Q s h w b e k
@[simp] noncomputable def mU(k:Nat)(m:List T->Pe->Option Pe):T->Pe->Option Pe
 |.tup ts,ρ=>if ts.length=k then m ts ρ else none
 |_,_=>none
def Mn(h:OQ K g m):MG K (Dd K k g) (mU k m):=λF H σ ρ x t b Q s i V r e q=>by
 cases r with
 |tup hx rs=>
  rename_i a j d;have e:(if d.length=k then m d ρ else none)=some b:=e;by_cases c:d.length=k
  .rw[aR c]at e;exact⟨_,_,rfl,lz.of (s _ _ hx),by rw[rs.length];exact c,h F H σ ρ _ _ b Q s i V rs e q⟩
  .rw[aS c]at e;cases e
 |_=>cases e
noncomputable def Jm(K:W.Frag)(g:TG)(m:T->En->Option En):Prop:=∀F0 H0 F H σ ρ x t b Q,Sr K F0 H0 F H σ ρ->j5 K F x t->m t ρ=some b->(∀a,Sr K F0 H0 F H a b->Q a H)->g x σ H Q
noncomputable def Gf(K:W.Frag)(g:HN)(m:List T->En->Option En):Prop:=∀F0 H0 F H σ ρ d c b Q,Sr K F0 H0 F H σ ρ->gN K F d c->m c ρ=some b->(∀a,Sr K F0 H0 F H a b->Q a H)->g d σ H Q
@[simp] noncomputable def nj(i:Nat):T->En->Option En:=λt ρ=>some (ρ.set i (some (.p t)))
def FH:Jm K (jV i) (nj i):=λF0 H0 F H σ ρ x t a Q s r e k=>by cases e;exact k _ (s.setP r)
@[simp] noncomputable def uP:List T->En->Option En
 |[],ρ=>some ρ
 |_::_,_=>none
@[simp] noncomputable def lx(m:T->En->Option En)(n:List T->En->Option En):List T->En->Option En
 |[],_=>none
 |t::ts,ρ=>(m t ρ).bind (n ts)
def GW:Gf K Dy uP:=λF0 H0 F H σ ρ g d c Q s r e k=>by
 cases r with
 |nil=>cases e;exact⟨rfl,k σ s⟩
 |cons a b=>cases e
def Dm(j:Jm K g m)(l:Gf K gs n):Gf K (ud g gs) (lx m n):=λF0 H0 F H σ ρ w p c Q s r e k=>by
 cases r with
 |nil=>cases e
 |cons a b=>
  rename_i v t i d;have e:(m t ρ).bind (n d)=some c:=e;cases q:m t ρ with
  |none=>rw[q]at e;cases e
  |some ρ1=>rw[q]at e;refine⟨v,i,rfl,j F0 H0 F H σ ρ v t ρ1 _ s a q λh o=>?_⟩;exact l F0 H0 F H h ρ1 i d c Q o b e k
@[simp] noncomputable def sZ(k:Nat)(m:List T->En->Option En):T->En->Option En
 |.tup ts,ρ=>if ts.length=k then m ts ρ else none
 |_,_=>none
def IM(h:Gf K g m):Jm K (Dd K k g) (sZ k m):=λF0 H0 F H σ ρ x t b Q s r e q=>by
 cases r with
 |tup hx rs=>
  rename_i a i d;have e:(if d.length=k then m d ρ else none)=some b:=e;by_cases c:d.length=k
  .rw[aR c]at e;exact⟨_,_,rfl,lz.of (s.gr.fh _ _ hx),by rw[rs.length];exact c,h F0 H0 F H σ ρ _ _ b Q s rs e q⟩
  .rw[aS c]at e;cases e
 |_=>cases e
noncomputable def jK(m:T->En->Option En)(g:En->O):List T->En->O
 |[],ρ=>.nx ρ
 |t::ts,ρ=>match m t ρ with
  |none=>.bad
  |some ρ1=>match g ρ1 with
   |.nx ρ2=>jK m g ts ρ2
   |.ct ρ2=>jK m g ts ρ2
   |.bk ρ2=>.nx ρ2
   |o=>o
theorem AS{tb:TS}{J:It}(hg:Jm K g m)(hb:MS K E tb gb){G:Hp->Hp->Prop}(Y:∀i F H,G F H->i<gG.length->J.go i H)(Q:∀F H,G F H->J.stop gG.length H)(X:∀(i:Nat) t F H x c,G F H->gG[i]? = some t->J.yld i H x c->∃d,Gr F H d c/\j5 K d x t)
  (P:∀d c b ρ',gX F1 d->Sr K F0 H0 d c b ρ'->G d c) (r:Sr K F0 H0 F H σ ρ) (s1:gX F1 F)
  (q:(jK m gb gG ρ).res K E F0 H0 F D):∃W:Nat->Nat->St->Hp->Prop,(∃m,W 0 m σ H)/\∀i m σ H,W i m σ H->
 (J.stop i H/\D.nx σ H)\/(J.go i H/\∃N:St->Hp->Prop,(∀b c,N b c->∃Z,Z<m/\W (i+1) Z b c)/\∀x c,J.yld i H x c->g x σ c λS H2=>tb {D with nx:=N,ct:=N,bk:=D.nx} S H2):=by
 refine⟨λi k b c=>i<=gG.length/\k=gG.length-i/\∃d ρ',gX F1 d/\Sr K F0 H0 d c b ρ'/\(jK m gb (gG.drop i) ρ').res K E F0 H0 d D,⟨_,bN _,rfl,F,ρ,s1,r,by simpa using q⟩,?_⟩
 rintro i k w I ⟨hi,rfl,L,B,A,v,a⟩
 by_cases h:i<gG.length
 .right;refine⟨Y i L I (P _ _ _ _ A v) h,λb c=>∃d ρ',gX F1 d/\Sr K F0 H0 d c b ρ'/\(jK m gb (gG.drop (i+1)) ρ').res K E F0 H0 d D,λb c z=>⟨gG.length-(i+1),by omega,h,rfl,z⟩,λx c y=>?_⟩;have et:=ai h;obtain⟨F3,o,rp⟩:=X i _ L I x c (P _ _ _ _ A v) et y;rw[d8 h]at a;unfold jK at a;cases U:m gG[i] B with
  |none=>rw[U]at a;exact a.elim
  |some ρ3=>
   rw[U]at a;refine hg F0 H0 F3 c w B x _ ρ3 _ (v.grow o) rp U λb r'=>?_;refine hb F0 H0 F3 c b ρ3 _ r' ?_;dsimp only at a;cases j:gb ρ3 with
   |bad=>rw[j]at a;exact a.elim
   |nx ρ4=>rw[j]at a;exact λd R p s l=>⟨d,ρ4,(A.trans o.ff).trans s,l,O.res.go a (o.ff.trans s)⟩
   |ct ρ4=>rw[j]at a;exact λd R p s l=>⟨d,ρ4,(A.trans o.ff).trans s,l,O.res.go a (o.ff.trans s)⟩
   |bk ρ4=>rw[j]at a;exact kN.go a o.ff
   |rt t=>rw[j]at a;exact a
   |rf ts=>rw[j]at a;exact a
   |rn ts us=>rw[j]at a;exact a
   |er C n=>rw[j]at a;exact a
 .left;have e:i=gG.length:=by omega
  subst e;refine⟨Q L I (P _ _ _ _ A v),?_⟩;rw[List.drop_length]at a;exact a L I w (.refl _) v
def vV{tb:TS}(o:Jm K g m)(n:MS K E tb gb)(a:xt K J gG F1)(r:Sr K F0 H0 F H σ ρ)(k:gX F1 F)
  (q:(jK m gb gG ρ).res K E F0 H0 F D):∃W:Nat->Nat->St->Hp->Prop,(∃m,W 0 m σ H)/\∀i m σ H,W i m σ H->
 (J.stop i H/\D.nx σ H)\/(J.go i H/\∃N:St->Hp->Prop,(∀c b,N c b->∃h,h<m/\W (i+1) h c b)/\∀x b,J.yld i H x b->g x σ b λd j=>tb {D with nx:=N,ct:=N,bk:=D.nx} d j):=
 AS (G:=λF H=>gX F1 F/\gX F H) o n (λi F H q l=>a.go i H (q.1.trans q.2) l) (λF H q=>a.stop H (q.1.trans q.2)) (λi t F H x b q e y=>a.yld i t F H x b q.1 q.2 e y) (λ_ _ _ _ s r=>⟨s,r.gr.fh⟩) r k q
@[simp] noncomputable def uy(a:Pe->M (List T))(m:T->En->Option En)(g:En->O):En->O:=λρ=>.of (a (mq ρ)) λgG=>jK m g gG ρ
def Nj{tb:TS}(c:MI K E w fi)(e:Jm K g m)(d:MS K E tb gb):MS K E (GP w g tb) (uy fi m gb):=λF0 H0 F H σ ρ D r q=>c F H σ (mq ρ) _ r.gr.fh r.vars ((O.res_of q).mono (λgG z J i h b a=>vV e d a (r.grow b) (.refl _) (z.go b.ff)) λC n z=>z.go r.gr)
@[simp] noncomputable def nE(a:Pe->M (List T))(m:T->En->Option En)(g:En->O):En->O:=λρ=>.of (a (vw ρ)) λgG=>jK m g gG ρ
def Kr{tb:TS}(i:NS K E w fi)(o:Jm K g m)(j:MS K E tb gb):MS K E (GP w g tb) (nE fi m gb):=λF0 H0 F H σ ρ D r q=>by obtain⟨s,v,d,V,a⟩:=r.lend;refine i s H σ (vw ρ) _ d.fh V ((O.res_of q).mono (λgG z J p h l c=>?_) λC n z=>z.go d);obtain⟨e,b,k,_⟩:=a p h l;exact vV o j (c e) (r.grow b) (.refl _) (z.go k)
noncomputable def ly(c:Pe->M Bool)(g:En->O):Nat->En->O
 |0,_=>.bad
 |n+1,ρ=>.of (c (vw ρ)) λb=>if b then (match g ρ with
   |.nx ρ2=>ly c g n ρ2
   |.ct ρ2=>ly c g n ρ2
   |.bk ρ2=>.nx ρ2
   |o=>o) else .nx ρ
def Hv{tb:TS}(i:En->Nat)(J:MT K E c fc)(I:MS K E tb gb):MS K E (Ar c tb) (λρ=>ly fc gb (i ρ) ρ):=λF0 H0 F H σ ρ D r q=>by
 refine⟨λn g o=>∃e d,gX F e/\Sr K F0 H0 e o g d/\(ly fc gb n d).res K E F0 H0 e D,⟨i ρ,F,ρ,.refl _,r,q⟩,?_⟩;rintro n l N ⟨P,m,w,L,v⟩;cases n with
 |zero=>exact v.elim
 |succ n=>
  unfold ly at v;refine J.inS L v λb x B y A a=>?_;cases b with
  |true=>
   rw[aR rfl]at a ⊢;refine⟨λg o=>∃e d,gX F e/\Sr K F0 H0 e o g d/\(ly fc gb n d).res K E F0 H0 e D,λg o z=>⟨n,bM n,z⟩,?_⟩;refine I F0 H0 x B l m _ A ?_;cases h:gb m with
   |bad=>rw[h]at a;exact a.elim
   |nx ρ4=>rw[h]at a;exact λe p k s j=>⟨e,ρ4,(w.trans y).trans s,j,O.res.go a s⟩
   |ct ρ4=>rw[h]at a;exact λe p k s j=>⟨e,ρ4,(w.trans y).trans s,j,O.res.go a s⟩
   |bk ρ4=>rw[h]at a;exact a
   |rt t=>rw[h]at a;exact a
   |rf ts=>rw[h]at a;exact a
   |rn ts us=>rw[h]at a;exact a
   |er C n=>rw[h]at a;exact a
  |false=>rw[aS aI]at a ⊢;exact a x B l (.refl _) A
@[simp] noncomputable def lY(a:List (Option Nat))(ρ:Pe):Pe:=a.map fun
 |none=>none
 |some j=>(ρ[j]?).getD none
def kK.pull{ρ:Pe}(V:kK K F σ ρ) ix:kK K F (L2.pull ix σ) (lY ix ρ):=λi t e=>by
 unfold lY at e;rw[aw]at e;cases q:ix[i]? with
 |none=>rw[q]at e;cases e
 |some w=>
  rw[q]at e;cases w with
  |none=>cases e
  |some j=>
   have c:(ρ[j]?).getD none=some t:=by simpa using e
   cases z:ρ[j]? with
   |none=>rw[z]at c;cases c
   |some y=>rw[z]at c;have:y=some t:=c;rw[this]at z;obtain⟨v,a,b⟩:=V j t z;refine⟨v,?_,b⟩;unfold L2.pull;rw[aw,q];simp[a]
@[simp] noncomputable def qd(m:T->Pe->Option Pe)(c:Pe->M Bool)(a:Pe->M T)(ρ:Pe)(t:T):M (Option T):=match m t ρ with
 |none=>.bad
 |some ρ1=>(c ρ1).bind λb=>if b then (a ρ1).bind λx=>.ok (some x) else .ok none
noncomputable def nH(k:T->M (Option T)):List T->M (List T)
 |[]=>.ok []
 |t::ts=>(k t).bind λo=>(nH k ts).bind λr=>.ok (match o with
  |some x=>x::r
  |none=>r)
def HQ:XK:=λ_ _ _=>False
def L1:MT K E LA (λ_=>.ok true):=λF H σ ρ Q s V q=>q F H (.refl s)
theorem E6{ρ:Pe}(hg:MG K g m)(ht:MT K HQ tt ft)(he:ME K HQ te fe)(V:kK K F1 σ ρ)
  (h:xt K J gG F1) (s:gX F1 H1) (hl:gG.length<sizeLine) (q:(nH (qd m ft fe (lY ix ρ)) gG).res (kF K F1 H1 Q) (λ_ _=>False)):QY J ix g tt te σ H1 Q:=by
 refine⟨λi k B H=>i<=gG.length/\k=gG.length-i/\∃F' l,Gr F1 H1 F' H/\gN K F' B l/\l.length<=i/\(nH (qd m ft fe (lY ix ρ)) (gG.drop i)).res (λU=>kF K F1 H1 Q (l++U)) (λ_ _=>False),
  ⟨_,bN _,rfl,F1,[],.refl s,.nil,bN _,by simpa using q⟩,?_⟩
 rintro i k B L ⟨hi,rfl,Y,l,c,A,tl,r⟩;by_cases a:i<gG.length
 .right;refine⟨h.go i L (c.ff.trans c.fh) a,by rw[A.length];omega,λx N y=>?_⟩;have et:=ai a;obtain⟨Z,o,rp⟩:=h.yld i _ Y L x N c.ff c.fh et y;rw[d8 a]at r;unfold nH at r;have d:=M.res.unb r;unfold qd at d;cases I:m gG[i] (lY ix ρ) with
  |none=>rw[I]at d;exact d.elim
  |some ρ3=>
   rw[I]at d;have j:=c.trans o;have V3:=(V.mono j.ff).pull ix;refine hg Z N _ _ x _ ρ3 _ o.fh (by simp[L2.pull,lY]) V3 rp I λp hl' X=>?_;have q4:=M.res.unb d;refine ht Z N p ρ3 _ o.fh X (q4.mono (λb z S H4 n=>?_) λ_ _ z=>z.elim);cases b with
   |true=>rw[aR rfl]at z ⊢;have q5:=M.res.unb z;refine he S H4 p ρ3 _ n.fh (X.mono n.ff) (q5.mono (λx' z' v F5 H5 g5 C=>?_) λ_ _ z=>z.elim);refine⟨gG.length-(i+1),by omega,a,rfl,F5,l++[x'],(j.trans n).trans g5,(A.mono (o.ff.trans (n.ff.trans g5.ff))).append (.cons C .nil),by simp;omega,?_⟩;have P:=M.res.unb z';exact P.mono (λU w=>by rw[b7];exact w) λ_ _ w=>w
   |false=>rw[aS aI]at z ⊢;refine⟨gG.length-(i+1),by omega,a,rfl,S,l,j.trans n,A.mono (o.ff.trans n.ff),by omega,?_⟩;exact M.res.unb z
 .left;have e:i=gG.length:=by omega
  subst e;rw[List.drop_length]at r;refine⟨h.stop L (c.ff.trans c.fh),λD R=>?_⟩;have d:kF K F1 H1 Q l:=by simpa[nH,M.res] using r
  exact d D B Y _ (c.trans (.new' c.fh R)) (gY c.hh R) (gY c.fh R) gE A
def KN(h:MI K E w fi)(i:MG K g m)(d:MT K HQ tt ft)(e:ME K HQ te fe) :
  MF K E (GK ix w g tt te) (λρ=>(fi ρ).bind λgG=>(if gG.length<sizeLine then nH (qd m ft fe (lY ix ρ)) gG else .bad).noEr):=λF H σ ρ Q s V q=>by
 refine h F H σ ρ _ s V ((M.res.unb q).mono (λgG z J k j b a=>?_) λ_ _ z=>z);split at z
 .rename_i c;exact E6 i d e (V.mono b.ff) a b.fh c (z.noEr.mono (λ_ w=>w.go b) λ_ _ w=>w)
 .exact z.elim
end
end L3
namespace L3
open PySem L2
section
variable {K:W.Frag}{E:XK}{t u ta tb:TE}{f fa fb:Pe->M T}{F0:Fz}{H0 F H F1 H1:Hp}{σ:St}{ρ:En}{D:rA}
noncomputable def uT(K:W.Frag)(F:List T->M T):Sp:=λb H Q E=>∃a F0,gX F0 H/\gN K F0 b a/\(F a).res (kV K F0 H Q) (kE E F0 H)
noncomputable def zZ(K:W.Frag)(F:List T->M (List T)):Sp:=λb H Q E=>∃a F0,gX F0 H/\gN K F0 b a/\(F a).res (kF K F0 H Q) (kE E F0 H)
@[simp] noncomputable def gF(fa:Pe->M (List T))(F:List T->M T):Pe->M T:=λρ=>(fa ρ).bind λa=>(F a).noEr
@[simp] noncomputable def iz(fa:Pe->M (List T))(F:List T->M (List T)):Pe->M (List T):=λρ=>(fa ρ).bind λa=>(F a).noEr
section
variable {tr:TA}{fr:Pe->M (List T)}{Fn:List T->M T}{Ff:List T->M (List T)}{E':XK}
def Gs(d:MA K E tr fr):ME K E (vR (uT K Fn) [] E' tr) (gF fr Fn):=λF H σ ρ Q s V q=>by refine d.run s V q λb g F1 H1 a e c=>?_;exact⟨b,F1,a.fh,by rw[bO];exact e,(c.mono (λ_ z=>kV.go z a) λ_ _ z=>z).noEr⟩
def EC(d:MA K E tr fr):MF K E (vR (zZ K Ff) [] E' tr) (iz fr Ff):=λF H σ ρ Q s V q=>by refine d.run s V q λb g F1 H1 a e c=>?_;exact⟨b,F1,a.fh,by rw[bO];exact e,(c.mono (λ_ z=>kF.go z a) λ_ _ z=>z).noEr⟩
@[simp] noncomputable def uI(C:Addr)(m:Str)(x:T):M Unit:=match x with
 |.obj C' fs=>if C'=C/\fs.lookup m=none then .ok () else .bad
 |_=>.bad
@[simp] noncomputable def yX(C:Addr)(m:Str)(a:Pe->M T)(fr:Pe->M (List T))(F:List T->M T):Pe->M T:=λρ=>(a ρ).bind λx=>(uI C m x).bind λ_=>(fr ρ).bind λb=>(F (x::b)).noEr
@[simp] noncomputable def uF(C:Addr)(m:Str)(a:Pe->M T)(fr:Pe->M (List T))(F:List T->M (List T)):Pe->M (List T):=λρ=>(a ρ).bind λx=>(uI C m x).bind λ_=>(fr ρ).bind λb=>(F (x::b)).noEr
def BK(r:j5 K F v x)(e:uI C m x=.ok ()):∃a dx fs,v=.ref a/\F a=some (.ins C dx fs)/\fs.lookup m=none:=by
 cases r with
 |obj h rs=>
  rename_i a c dx fs d;have e:(if c=C/\List.lookup m d=none then M.ok () else M.bad)=.ok ():=e;by_cases b:c=C/\List.lookup m d=none
  .obtain⟨rfl,g⟩:=b;exact⟨a,dx,fs,rfl,h,rs.none_ g⟩
  .rw[aS b]at e;cases e
 |_=>cases e
def Ci:uI C m x≠.er C' n:=by
 unfold uI;split
 .split<;>exact λz=>nomatch z
 .exact λz=>nomatch z
def EI(l:ME K E ta fa)(hr:MA K E tr fr):ME K E (wF C m (uT K Fn) [] E' ta tr) (yX C m fa fr Fn):=λF H σ ρ Q s V q=>by
 refine l.run s V q λx v F1 H1 c g b=>?_;cases e:uI C m x with
 |bad=>rw[e]at b;exact b.elim
 |er C n=>exact absurd e Ci
 |ok u=>rw[e]at b;obtain⟨a,j,fs,rfl,h,i⟩:=BK g e;refine⟨a,j,fs,rfl,c.fh _ _ h,i,?_⟩;refine hr.run c.fh (V.mono c.ff) b λo y k w d r p=>?_;exact⟨x::o,k,d.fh,by rw[bO];exact .cons (g.mono d.ff) r,(p.mono (λ_ z=>kV.go z (c.trans d)) λ_ _ z=>z).noEr⟩
def Gw(l:ME K E ta fa)(hr:MA K E tr fr):MF K E (wF C m (zZ K Ff) [] E' ta tr) (uF C m fa fr Ff):=λF H σ ρ Q s V q=>by
 refine l.run s V q λx v F1 H1 c g b=>?_;cases e:uI C m x with
 |bad=>rw[e]at b;exact b.elim
 |er C n=>exact absurd e Ci
 |ok u=>rw[e]at b;obtain⟨a,j,fs,rfl,h,i⟩:=BK g e;refine⟨a,j,fs,rfl,c.fh _ _ h,i,?_⟩;refine hr.run c.fh (V.mono c.ff) b λo y k w d r p=>?_;exact⟨x::o,k,d.fh,by rw[bO];exact .cons (g.mono d.ff) r,(p.mono (λ_ z=>kF.go z (c.trans d)) λ_ _ z=>z).noEr⟩
end
@[simp] noncomputable def Qz:O->M T
 |.nx _=>.ok .non
 |.rt t=>.ok t
 |.rf ts=>.ok (.lst ts)
 |.rn ts us=>.ok (.tup (ts++[.lst us]))
 |.er C n=>.er C n
 |_=>.bad
@[simp] noncomputable def Qk:O->M (List T)
 |.rf ts=>.ok ts
 |.er C n=>.er C n
 |_=>.bad
@[simp] noncomputable def iA(n:Nat)(ts:List T):En:=ts.map (λt=>some (W.p t))++List.replicate (n-ts.length) none
@[simp] noncomputable def m9(k n:Nat)(g:En->O):List T->M T:=λa=>if a.length=k then Qz (g (iA n a)) else .bad
@[simp] noncomputable def zP(k n:Nat)(g:En->O):List T->M (List T):=λa=>if a.length=k then Qk (g (iA n a)) else .bad
def vX{n i:Nat}(e:(iA n ts)[i]? = some (some (.d kvs))):False:=by
 unfold iA at e;rw[List.getElem?_append]at e;split at e
 .rw[aw]at e;cases q:ts[i]? with
  |none=>rw[q]at e;cases e
  |some x=>rw[q]at e;cases e
 .rw[List.getElem?_replicate]at e;split at e<;>cases e
def yW(s:gX F H)(r:gN K F vs ts):Sr K ⟨F,[]⟩ H F H (ll N vs) (iA N.length ts):=by
 refine⟨.refl s,?_,λi t e=>?_,⟨λ_=>0,λi g e=>?_,λi j g m e=>?_⟩,λ_ l=>(nomatch l),λ_ _ _ h=>(by cases h),⟨λi c e=>(vX e).elim,λi j c d e=>(vX e).elim⟩⟩
 .simp[L2.ll,iA,r.length]
 .unfold iA at e;rw[List.getElem?_append]at e;split at e
  .rename_i k;rw[aw]at e;cases q:ts[i]? with
   |none=>rw[q]at e;cases e
   |some x=>rw[q]at e;cases e;obtain⟨v,a,b⟩:=r.get q;refine⟨v,?_,b⟩;unfold L2.ll;rw[List.getElem?_append_left (by simpa[r.length] using k),aw,a];rfl
  .rw[List.getElem?_replicate]at e;split at e<;>cases e
 .exfalso;unfold iA at e;rw[List.getElem?_append]at e;split at e
  .rw[aw]at e;cases q:ts[i]? with
   |none=>rw[q]at e;cases e
   |some x=>rw[q]at e;cases e
  .rw[List.getElem?_replicate]at e;split at e<;>cases e
 .exfalso;unfold iA at e;rw[List.getElem?_append]at e;split at e
  .rw[aw]at e;cases q:ts[i]? with
   |none=>rw[q]at e;cases e
   |some x=>rw[q]at e;cases e
  .rw[List.getElem?_replicate]at e;split at e<;>cases e
def AQ(h:uT K (m9 k n g) vs H Q E):vs.length=k:=by
 obtain⟨b,F0,s,r,q⟩:=h;unfold m9 at q;by_cases a:b.length=k
 .rw[r.length];exact a
 .rw[aS a]at q;exact q.elim
def xU{t:TS}(i:MS K E t g)(h:uT K (m9 k N.length g) vs H Q E):t {nx:=λ_ b=>Q .non b,rt:=Q} (ll N vs) H:=by
 obtain⟨a,F0,s,r,q⟩:=h;unfold m9 at q;by_cases c:a.length=k
 .rw[aR c]at q;refine i ⟨F0,[]⟩ H F0 H _ _ _ (yW s r) ?_;cases e:g (iA N.length a) with
  |bad=>rw[e]at q;exact q
  |nx ρ=>rw[e]at q;exact λl b d _ j=>q .non l b j.gr .non
  |rt t=>rw[e]at q;exact q
  |rf a=>rw[e]at q;exact kF.of q
  |rn a us=>rw[e]at q;exact kT.of q
  |bk ρ=>rw[e]at q;exact q.elim
  |ct ρ=>rw[e]at q;exact q.elim
  |er C n=>rw[e]at q;exact q
 .rw[aS c]at q;exact q.elim
def B3(h:zZ K (zP k n g) vs H Q E):vs.length=k:=by
 obtain⟨b,F0,s,r,q⟩:=h;unfold zP at q;by_cases a:b.length=k
 .rw[r.length];exact a
 .rw[aS a]at q;exact q.elim
def ya{t:TS}(c:MS K E t g)(h:zZ K (zP k N.length g) vs H Q E):t {nx:=λ_ d=>Q .non d,rt:=Q} (ll N vs) H:=by
 obtain⟨a,F0,s,r,q⟩:=h;unfold zP at q;by_cases b:a.length=k
 .rw[aR b]at q;refine c ⟨F0,[]⟩ H F0 H _ _ _ (yW s r) ?_;cases e:g (iA N.length a) with
  |bad=>rw[e]at q;exact q
  |nx ρ=>rw[e]at q;exact q.elim
  |rt t=>rw[e]at q;exact q.elim
  |rf a=>rw[e]at q;exact q
  |rn a us=>rw[e]at q;exact q.elim
  |bk ρ=>rw[e]at q;exact q.elim
  |ct ρ=>rw[e]at q;exact q.elim
  |er C n=>rw[e]at q;exact q
 .rw[aS b]at q;exact q.elim
@[simp] noncomputable def Bj(C:Addr)(x:Str)(fa:Pe->M T):Pe->M T:=λρ=>(fa ρ).bind λo=>match o with
 |.obj C' fs=>if C'=C then (match fs.lookup x with
  |some t=>.ok t
  |none=>.bad) else .bad
 |_=>.bad
def Mg(j:vU K C)(n:kx K C x)(k:ME K E ta fa):ME K E (ML K ta x) (Bj C x fa):=λF H σ ρ Q s V q=>by
 refine k.run s V q λo v F1 H1 c l b=>?_;cases l with
 |obj h rs=>
  rename_i a d m fs p;dsimp only at b;by_cases g:d=C
  .subst g;rw[aR rfl]at b;cases e:List.lookup x p with
   |none=>rw[e]at b;exact b.elim
   |some y=>rw[e]at b;obtain⟨w,i,r⟩:=rs.look e;exact⟨a,d,m,fs,w,rfl,c.fh _ _ h,j,n,i,b w F1 H1 c r⟩
  .rw[aS g]at b;exact b.elim
 |_=>exact b.elim
end
end L3
namespace L3
open PySem L2 PySem.Spec PyProof.Rows
structure Pm(K:W.Frag)(E:XK)(X:Cx)(e:Expr)(t:TE)(f:Pe->M T):Prop where
 pe:PE X e t
 me:ME K E t f
structure Ck(K:W.Frag)(E:XK)(X:Cx)(e:Expr)(t:TE)(f:Pe->M (List T)):Prop where
 pe:PE X e t
 mf:MF K E t f
structure zO(K:W.Frag)(E:XK)(X:Cx)(e:Expr)(t:TT)(f:Pe->M Bool):Prop where
 pt:PT X e t
 mt:MT K E t f
structure Lq(K:W.Frag)(E:XK)(X:Cx)(e:Expr)(t:TT)(f:Pe->M Bool):Prop where
 pw:PW X e t
 mt:MT K E t f
structure zx(K:W.Frag)(E:XK)(X:Cx)(es:List Expr)(t:TA)(f:Pe->M (List T)):Prop where
 pa:PA X es t
 ma:MA K E t f
structure HZ(K:W.Frag)(E:XK)(X:Cx)(tg it:Expr)(w:TI)(f:Pe->M (List T)):Prop where
 pi:PI X tg it w
 mi:MI K E w f
structure zh(K:W.Frag)(E:XK)(X:Cx)(tg it:Expr)(w:TI)(f:Pe->M (List T)):Prop where
 pi:PI X tg it w
 mi:NS K E w f
structure NG(K:W.Frag)(X:Cx)(tg:Expr)(g:TG)(m:T->Pe->Option Pe):Prop where
 pg:PG X tg g
 mg:MG K g m
structure IU(K:W.Frag)(X:Cx)(tg:List Expr)(g:HN)(m:List T->Pe->Option Pe):Prop where
 pg:NK X tg g
 mg:OQ K g m
structure NI(K:W.Frag)(X:Cx)(tg:Expr)(g:TG)(m:T->En->Option En):Prop where
 pg:PG X tg g
 mg:Jm K g m
structure JH(K:W.Frag)(X:Cx)(tg:List Expr)(g:HN)(m:List T->En->Option En):Prop where
 pg:NK X tg g
 mg:Gf K g m
structure xT(K:W.Frag)(E:XK)(X:Cx)(st:Stmt)(t:TS)(g:En->O):Prop where
 ps:PS X st t
 ms:MS K E t g
structure oI(K:W.Frag)(E:XK)(X:Cx)(sts:List Stmt)(t:TS)(g:En->O):Prop where
 ps:zb X sts t
 ms:MS K E t g
noncomputable def MO(K:W.Frag)(E:XK)(t:TO)(f:Pe->M (Option Int)):Prop:=∀F H b a Q,gX F H->kK K F b a->(f a).res (λo=>∀d c,Gr F H d c->Q o c) (kE E F H)->t b H Q
structure P7(K:W.Frag)(E:XK)(X:Cx)(e:Option Expr)(t:TO)(f:Pe->M (Option Int)):Prop where
 po:PO X e t
 mo:MO K E t f
structure EH(K:W.Frag)(E:XK)(X:Cx)(es:List Expr)(t:TT)(f:Pe->M Bool):Prop where
 pf:Dw X es t
 mt:MT K E t f
section
variable {K:W.Frag}{E:XK}{X:Cx}{a b c e o:Expr}{es:List Expr}{ta tb tc te to:TE}{fa fb fc fe fo:Pe->M T}{tr:TA}{fr:Pe->M (List T)}{pos p p2 apos:Pos}
def gH i (f:X.N[i]? = some x:=by rfl) (hv:Pd X.env.scope x:=by first|exact Or.inl rfl|exact Or.inr (Or.inl rfl)|exact Or.inr (Or.inr rfl)) (g:(x==("__debug__" : Str))=false:=by decide)
  (d:(x==("__classdict__" : Str))=false:=by decide):Pm K E X (.Name x pos) (mX i) (gq i):=⟨pv i f hv g d,Nr⟩
def iK{j pos}:Pm K E X (.Constant (.int i) j pos) (tC (.int i)) (cM (.int i)):=⟨Lb,L7 λ_=>.int i⟩
def NN{b:Bool}{j pos}:Pm K E X (.Constant (.bool b) j pos) (tC (.bl b)) (cM (.bl b)):=⟨Pt,L7 λ_=>.bl b⟩
def yi i (g:∃t,X.mg x=some (.int i t)) (f:Gl X x:=by rfl) (d:(x==("__debug__" : Str))=false:=by decide):Pm K E X (.Name x pos) (tC (.int i)) (cM (.int i)):=let ⟨t,h⟩:=g;⟨JO f h ⟨t,rfl⟩ d,L7 λ_=>.int i⟩
def iB(h:Ck K E X e te f):Pm K E X e te (λρ=>(f ρ).bind λts=>.ok (.lst ts)):=⟨h.pe,h.mf.me⟩
def tR(g:oh X (binaryOp op) r)(hr:MR K r m)(d:Pm K E X a ta fa)(f:Pm K E X b tb fb):Pm K E X (.BinOp a op b pos) (tU r ta tb) (gO m fa fb):=⟨Fc g d.pe f.pe,Cz hr d.me f.me⟩
def FJ(K:W.Frag):R2:=λx y H Q=>(Br λi j=>.int (i+j)) x y H Q\/(∃i j,x=.str i/\y=.str j/\i.length+j.length<=sizeLine/\Q (.str (i++j)) H)\/LK x y H Q\/
 ∃a b d f,x=.ref a/\y=.ref b/\H a=some (.tup d)/\H b=some (.tup f)/\d.length+f.length<=sizeLine/\(d=[]->Q (.ref b) H)/\(d≠[]->f=[]->Q (.ref a) H)/\(d≠[]->f≠[]->∀p,H p=none->Q (.ref p) (iU H p (.tup (d++f))))
def Ik(P:X.K=K:=by rfl):oh X (binaryOp .Add) (FJ K):=by
 subst P;intro i s j H x y v u Q I d f h;rcases h with h|h|h|h
 .exact MX i s j H x y v u Q I d f h
 .exact AR i s j H x y v u Q I d f h
 .exact EZ i s j H x y v u Q I d f h
 .obtain⟨a,b,z,D,rfl,rfl,q,r,Z,C,q2,S⟩:=h;by_cases g:z=[]
  .subst g;cases d;cases f;obtain⟨gG,R,p1,_⟩:=I.tuple (lz.of q);obtain⟨m,r2,p2,_⟩:=I.tuple (lz.of r);cases R;obtain⟨⟨c1,N,e1,U⟩,n,k1,J,l⟩:=id p1;obtain⟨⟨c2,Y,e2,L⟩,w,A,n2,k⟩:=id p2;subst k1 l A k;exact concat_meets ⟨_,n,rfl⟩ ⟨_,w,rfl⟩ noFill_tuple_add seq_tuple_add PySem.F.slot_tuple_add PySem.F.entry_tuple_add (PySem.F.args_tuple_add_2 _ _) (tuple_addW0 a b _ _ J n2 N Y U L (by simp)) ⟨n,w,⟨.ref b,H,I,rfl,C rfl⟩⟩
  .exact Jd i s j H _ _ v u Q I d f ⟨a,b,z,D,rfl,rfl,lz.of q,lz.of r,g,Z,λe=>q2 g e,λe p B=>S g e p B⟩
noncomputable def iH:T->T->M T
 |.int i,.int j=>.ok (.int (i+j))
 |.str i,.str j=>if i.length+j.length<=sizeLine then .ok (.str (i++j)) else .bad
 |.lst a,.lst b=>if a.length+b.length<=sizeLine then .ok (.lst (a++b)) else .bad
 |.tup a,.tup b=>if a.length+b.length<=sizeLine then .ok (.tup (a++b)) else .bad
 |_,_=>.bad
def JJ x y:M.NoE (iH x y):=λC n=>by unfold iH;split<;>first|(intro z;cases z;done)|(split<;>intro z<;>cases z)
def JA:MR K (FJ K) iH:=⟨JJ,λF H v w x y Q s r l q=>by
 cases r with
 |int i=>
  cases l with
  |int j=>exact .inl ⟨i,j,rfl,rfl,kV.now q s (.int _)⟩
  |_=>exact q.elim
 |str i=>
  cases l with
  |str j=>
   have d:(if i.length+j.length<=sizeLine then M.ok (T.str (i++j)) else M.bad).res (kV K F H Q) (λ_ _=>False):=q;by_cases h:i.length+j.length<=sizeLine
   .rw[aR h]at d;exact .inr (.inl ⟨i,j,rfl,rfl,h,kV.now d s (.str _)⟩)
   .rw[aS h]at d;exact d.elim
  |_=>exact q.elim
 |lst h1 r1=>
  cases l with
  |lst h2 r2=>
   rename_i a n g b m f;have d:(if g.length+f.length<=sizeLine then M.ok (T.lst (g++f)) else M.bad).res (kV K F H Q) (λ_ _=>False):=q;by_cases h:g.length+f.length<=sizeLine
   .rw[aR h]at d;refine .inr (.inr (.inl ⟨a,b,n,m,rfl,rfl,s _ _ h1,s _ _ h2,by rw[r1.length,r2.length];exact h,λp k=>?_⟩));exact d (.ref p) _ _ (.new s k) (.lst gE ((r1.append r2).mono (Gr.new s k).ff))
   .rw[aS h]at d;exact d.elim
  |_=>exact q.elim
 |tup h1 r1=>
  cases l with
  |tup h2 r2=>
   rename_i a n g b m f;have d:(if g.length+f.length<=sizeLine then M.ok (T.tup (g++f)) else M.bad).res (kV K F H Q) (λ_ _=>False):=q;by_cases h:g.length+f.length<=sizeLine
   .rw[aR h]at d;refine .inr (.inr (.inr ⟨a,b,n,m,rfl,rfl,s _ _ h1,s _ _ h2,by rw[r1.length,r2.length];exact h,λe=>?_,λ_ e=>?_,λ_ _ p k=>?_⟩))
    .subst e;cases r1;exact kV.now d s (.tup h2 r2)
    .subst e;cases r2;exact kV.now d s (.tup h1 (by rw[bO];exact r1))
    .exact d (.ref p) _ _ (.new s k) (.tup gE ((r1.append r2).mono (Gr.new s k).ff))
   .rw[aS h]at d;exact d.elim
  |_=>exact q.elim
 |_=>exact q.elim⟩
def pz(f:Pm K E X a ta fa)(g:Pm K E X b tb fb)(d:X.K=K:=by rfl):Pm K E X (.BinOp a .Add b pos) (tU (FJ K) ta tb) (gO iH fa fb):=tR (Ik d) JA f g
@[simp] noncomputable def EE(fa fb:Pe->M T):Pe->M (List T):=λd=>(fa d).bind λx=>(fb d).bind λy=>match x,y with
 |.lst a,.lst b=>if a.length+b.length<=sizeLine then .ok (a++b) else .bad
 |_,_=>.bad
def Lg(n:Pm K E X a ta fa)(u:Pm K E X b tb fb):Ck K E X (.BinOp a .Add b pos) (tU LK ta tb) (EE fa fb):=by
 refine⟨Fc EZ n.pe u.pe,λF H N L Q s V q=>?_⟩;refine n.me.run s V q λx v J P j D z=>?_;refine u.me.run j.fh (V.mono j.ff) z λy w r C d I m=>?_;cases D with
 |lst h1 t1=>
  cases I with
  |lst h2 t2=>
   rename_i a B l b A k;have g:(if l.length+k.length<=sizeLine then M.ok (l++k) else M.bad).res (kF K F H Q) (kE E r C):=m;by_cases h:l.length+k.length<=sizeLine
   .rw[aR h]at g;refine⟨a,b,B,A,rfl,rfl,d.fh _ _ (d.ff _ _ h1),d.fh _ _ h2,by rw[t1.length,t2.length];exact h,λp i=>?_⟩;have f:=j.trans d;exact g p _ r _ (f.trans (.new' d.fh i)) (gY f.hh i) (gY d.fh i) gE ((t1.mono d.ff).append t2)
   .rw[aS h]at g;exact g.elim
  |_=>exact m.elim
 |_=>exact m.elim
noncomputable def yr:T->T->M T:=j3 (λ_ _=>true) λi j=>.int (i-j)
def FA(f:Pm K E X a ta fa)(d:Pm K E X b tb fb):Pm K E X (.BinOp a .Sub b pos) (tU (Br λi j=>.int (i-j)) ta tb) (gO yr fa fb):=tR Mb (pR λ_ _ _=>.int _) f d
instance {i j:Int}:Decidable (PySem.IntMulOk i j):=inferInstanceAs (Decidable (¬_))
noncomputable def jY:T->T->M T:=j3 (λi j=>decide (PySem.IntMulOk i j)) λi j=>.int (i*j)
def FY(f:Pm K E X a ta fa)(d:Pm K E X b tb fb):Pm K E X (.BinOp a .Mult b pos) (tU (rI (λi j=>PySem.IntMulOk i j) λi j=>.int (i*j)) ta tb) (gO jY fa fb):=tR Io (xO (λi j h=>of_decide_eq_true h) λ_ _ _=>.int _) f d
noncomputable def oq:T->T->M T:=j3 (λi j=>decide (j≠0)&&!Builtin.divisionGoesByPylong i j) λi j=>.int (i.fdiv j)
def Ct(f:Pm K E X a ta fa)(d:Pm K E X b tb fb):Pm K E X (.BinOp a .FloorDiv b pos) (tU (rI (λi j=>j≠0/\Builtin.divisionGoesByPylong i j=false) λi j=>.int (i.fdiv j)) ta tb) (gO oq fa fb):=tR Gq (xO (λi j h=>by simpa using h) λ_ _ _=>.int _) f d
noncomputable def tJ:T->T->M T:=j3 (λ_ j=>decide (j≠0)) λi j=>.int (i.fmod j)
def Ny(f:Pm K E X a ta fa)(d:Pm K E X b tb fb):Pm K E X (.BinOp a .Mod b pos) (tU (rI (λ_ j=>j≠0) λi j=>.int (i.fmod j)) ta tb) (gO tJ fa fb):=tR J5 (xO (λi j h=>by simpa using h) λ_ _ _=>.int _) f d
noncomputable def r6:T->T->M T:=j3 (λi j=>decide (0<=j)&&decide (j<=1000000)&&decide (i.natAbs<18446744073709551616)) λi j=>.int (i ^ j.toNat)
def Ac(f:Pm K E X a ta fa)(d:Pm K E X b tb fb):Pm K E X (.BinOp a .Pow b pos) (tU (rI N5 λi j=>.int (i ^ j.toNat)) ta tb) (gO r6 fa fb):=tR LQ (xO (λi j h=>by simp only[bZ,decide_eq_true_eq]at h;exact⟨h.1.1,h.1.2,h.2⟩) λ_ _ _=>.int _) f d
def Aj(d:Pm K E X a ta fa):Pm K E X (.UnaryOp .USub a pos) (QH (rU λi=>.int (-i)) ta) (nU (λi=>.int (-i)) fa):=⟨OM MK d.pe,PB (λ_ _=>.int _) d.me⟩
@[simp] noncomputable def FO(fa fb:Pe->M T):Pe->M (List T):=λd=>(fa d).bind λx=>(fb d).bind λy=>match x,y with
 |.lst a,.int k=>if DN k=true/\a.length*k.toNat<=sizeLine then .ok (List.replicate k.toNat a).flatten else .bad
 |_,_=>.bad
def Nv(n:Pm K E X a ta fa)(u:Pm K E X b tb fb):Ck K E X (.BinOp a .Mult b pos) (tU Om ta tb) (FO fa fb):=by
 refine⟨Fc KW n.pe u.pe,λF H L J Q s V q=>?_⟩;refine n.me.run s V q λx v I N j C z=>?_;refine u.me.run j.fh (V.mono j.ff) z λy w r B d D m=>?_;cases C with
 |lst h1 t1=>
  cases D with
  |int k=>
   rename_i a A l;have g:(if DN k=true/\l.length*k.toNat<=sizeLine then M.ok (List.replicate k.toNat l).flatten else M.bad).res (kF K F H Q) (kE E r B):=m;by_cases h:DN k=true/\l.length*k.toNat<=sizeLine
   .rw[aR h]at g;refine⟨a,k,A,rfl,rfl,d.fh _ _ (d.ff _ _ h1),by have:=nV h.1;rw[Of]at this;rw[PZ];omega,by have:=nV h.1;rw[Of]at this;rw[PZ];omega,by rw[t1.length];exact h.2,λp i=>?_⟩;have f:=j.trans d;exact g p _ r _ (f.trans (.new' d.fh i)) (gY f.hh i) (gY d.fh i) gE ((t1.mono d.ff).rep k.toNat)
   .rw[aS h]at g;exact g.elim
  |_=>exact m.elim
 |_=>exact m.elim
def zg(h:Pm K E X e te fe)(f:∀d,isTrue e X.env d=(do let v <-d;standAt e.pos;holding [v] (truthy v)):=by intro _;rfl):zO K E X e (tB te) (ji fe):=⟨M8 h.pe f,J9 h.me⟩
section
variable {tA tD:TT}{fA fD:Pe->M Bool}{jJ:List Expr}
def sN(h:zO K E X a tA fA):zO K E X (.UnaryOp .Not a pos) (Nt tA) (qw fA):=⟨LM h.pt,LO h.mt⟩
def Fi(h:Lq K E X a tA fA):zO K E X a tA fA:=⟨PW.pt h.pw,h.mt⟩
def GX(h:zO K E X a tA fA):Lq K E X (.BoolOp .And [a] pos) tA fA:=⟨JX h.pt,h.mt⟩
def pF(h:zO K E X a tA fA):Lq K E X (.BoolOp .Or [a] pos) tA fA:=⟨Le h.pt,h.mt⟩
def Kc(h:zO K E X a tA fA)(h':Lq K E X (.BoolOp .And (b::jJ) pos) tD fD):Lq K E X (.BoolOp .And (a::b::jJ) pos) (LJ tA tD) (AX fA fD):=⟨M7 h.pt h'.pw,Mx h.mt h'.mt⟩
def uw(h:zO K E X a tA fA)(h':Lq K E X (.BoolOp .Or (b::jJ) pos) tD fD):Lq K E X (.BoolOp .Or (a::b::jJ) pos) (QP tA tD) (zN fA fD):=⟨NY h.pt h'.pw,OO h.mt h'.mt⟩
def Bg{op}(h:Pm K E X a ta fa):Pm K E X (.BoolOp op [a] pos) ta fa:=⟨My h.pe,h.me⟩
def zV(h:Pm K E X a ta fa)(h':Pm K E X (.BoolOp .And (b::jJ) pos) tb fb):Pm K E X (.BoolOp .And (a::b::jJ) pos) (GN ta tb) (H9 fa fb):=⟨Me h.pe h'.pe,Kt h.me h'.me⟩
def xD(h:Pm K E X a ta fa):Pm K E X (.UnaryOp .Not a pos) (GE ta) (yo fa):=⟨MW h.pe,HS h.me⟩
def OB(h:zO K E X c tA fA)(d:Pm K E X a ta fa)(f:Pm K E X b tb fb):Pm K E X (.IfExp c a b pos) (Qt tA ta tb) (QF fA fa fb):=⟨Ga h.pt d.pe f.pe,N9 h.mt d.me f.me⟩
end
def Gv(h:oh X (compareOp op) r)(hr:MR K r m)(f:Pm K E X a ta fa)(d:Pm K E X b tb fb)(g:behindInMarks op b=false:=by exact rh _):Pm K E X (.Compare a [op] [b] pos) (tU r ta tb) (gO m fa fb):=⟨Iv h f.pe d.pe g,Cz hr f.me d.me⟩
def jm(h:oh X (compareOp op) r)(hr:MR K r m)(f:Pm K E X a ta fa)(d:Pm K E X b tb fb)(g:behindInMarks op b=false:=by exact rh _):zO K E X (.Compare a [op] [b] pos) (wD (tU r ta tb)) (ji (gO m fa fb)):=⟨Im h f.pe d.pe g,Ki (Cz hr f.me d.me)⟩
noncomputable def PR:T->T->M T:=j3 (λ_ _=>true) λi j=>.bl (decide (i<j))
noncomputable def PF:T->T->M T:=j3 (λ_ _=>true) λi j=>.bl (decide (i<=j))
noncomputable def NM:T->T->M T:=j3 (λ_ _=>true) λi j=>.bl (decide (j<i))
noncomputable def Oz:T->T->M T:=j3 (λ_ _=>true) λi j=>.bl (decide (j<=i))
def G9:MR K (Br λi j=>.bl (decide (i<j))) PR:=pR λ_ _ _=>.bl _
def GO:MR K (Br λi j=>.bl (decide (i<=j))) PF:=pR λ_ _ _=>.bl _
def CD:MR K (Br λi j=>.bl (decide (j<i))) NM:=pR λ_ _ _=>.bl _
def GH:MR K (Br λi j=>.bl (decide (j<=i))) Oz:=pR λ_ _ _=>.bl _
@[simp] noncomputable def QO(m f:T->T->M T)(fa fb fc:Pe->M T):Pe->M T:=λd=>(fa d).bind λx=>(fb d).bind λy=>(m x y).bind λz=>match z with
 |.bl true=>(fc d).bind λw=>f y w
 |.bl false=>.ok (.bl false)
 |_=>.bad
def HD(hr:MR K r m)(f:MR K r' m')(P:ME K E ta fa)(Y:ME K E tb fb)(Z:ME K E tc fc):ME K E (AK r r' ta tb tc) (QO m m' fa fb fc):=λF H σ ρ Q s V q=>by
 refine P.run s V q λx v F1 H1 i R J=>?_;refine Y.run i.fh (V.mono i.ff) J λy w U L n A q2=>?_;refine hr.ok U L v w x y _ n.fh (R.mono n.ff) A (((M.res.unb q2).ne (hr.ne x y)).mono (λz l v3 S H3 g r3=>?_) λ_ _ z=>z);have d:=(i.trans n).trans g;cases r3 with
 |bl k=>
  refine⟨k,rfl,?_⟩;cases k with
  |true=>rw[aR rfl];have h:=l.mono (λ_ z=>z) λ_ _ z=>z.go g;refine Z.run g.fh (V.mono d.ff) h λu I D C j B N=>?_;exact f.ok D C w I y u Q j.fh (A.mono (g.ff.trans j.ff)) B ((N.ne (f.ne y u)).mono (λ_ z=>z.go (d.trans j)) λ_ _ z=>z)
  |false=>rw[aS aI];exact l _ S H3 d (.bl _)
 |_=>exact l.elim
def Hw(k:oh X (compareOp op) r)(hr:MR K r m)(f:oh X (compareOp op') r')(d:MR K r' m')(i:Pm K E X a ta fa)(h:Pm K E X b tb fb)(g:Pm K E X c tc fc)
  (j:lastMarks [op,op'] [b,c]=false:=by with_unfolding_all rfl):Pm K E X (.Compare a [op,op'] [b,c] pos) (AK r r' ta tb tc) (QO m m' fa fb fc):=⟨FN k f i.pe h.pe g.pe j,HD hr d i.me h.me g.me⟩
mutual
noncomputable def qA:T->Bool
 |.str x=>PyData.canLay0 (.str x)
 |.lst ts=>qY ts
 |.tup ts=>qY ts
 |.scr _=>false
 |.obj _ _=>false
 |.emp=>false
 |.dic _=>false
 |_=>true
noncomputable def qY:List T->Bool
 |[]=>true
 |t::ts=>qA t&&qY ts
end
mutual
def yj:T->PyData
 |.non=>.none
 |.bl b=>.bool b
 |.int i=>.int i
 |.str x=>.str x
 |.lst ts=>.list (sj ts)
 |.tup ts=>.tuple (sj ts)
 |.scr _=>.none
 |.obj _ _=>.none
 |.emp=>.none
 |.dic _=>.none
def sj:List T->List PyData
 |[]=>[]
 |t::ts=>yj t::sj ts
end
mutual
theorem E4{F:Hp}:∀{v:V} {t:T},j5 K F v t->qA t=true->DV K F v (yj t)
 |_,_,.non,_=>.non
 |_,_,.bl b,_=>.bl b
 |_,_,.int i,_=>.int i
 |_,_,.str x,_=>.str x
 |_,_,.lst h r,l=>.lst (ka.of h) (Bx r (by simpa[qA] using l))
 |_,_,.tup h r,l=>.tup (lz.of h) (Bx r (by simpa[qA] using l))
 |_,_,.scr _,l=>by simp[qA]at l
 |_,_,.obj _ _,l=>by simp[qA]at l
 |_,_,.emp _,l=>by simp[qA]at l
 |_,_,.dic _ _,l=>by simp[qA]at l
theorem Bx{F:Hp}:∀{vs:List V} {ts:List T},gN K F vs ts->qY ts=true->yf K F vs (sj ts)
 |_,_,.nil,_=>.nil
 |_,_,.cons h r,l=>by rw[qY,bZ]at l;exact .cons (E4 h l.1) (Bx r l.2)
end
mutual
theorem xN:∀t,qA t=true->(yj t).canLay0=true
 |.non,_=>rfl
 |.bl b,_=>rfl
 |.int i,_=>rfl
 |.str x,h=>by simpa[qA,yj] using h
 |.lst ts,h=>by rw[yj,PyData.canLay0];exact tN ts (by simpa[qA] using h)
 |.tup ts,h=>by rw[yj,PyData.canLay0];exact tN ts (by simpa[qA] using h)
 |.scr _,h=>by simp[qA]at h
 |.obj _ _,h=>by simp[qA]at h
 |.emp,h=>by simp[qA]at h
 |.dic _,h=>by simp[qA]at h
theorem tN:∀ts,qY ts=true->PyData.canLayAll0 (sj ts)=true
 |[],_=>rfl
 |t::ts,h=>by rw[qY,bZ]at h;rw[sj,PyData.canLayAll0,xN t h.1,tN ts h.2];rfl
end
noncomputable def C9(x y:T):Bool:=(yj x).eqv (yj y)
noncomputable def sX(b a:List T):Bool:=PyData.eqvAll (sj b) (sj a)
noncomputable def Ai(t:T):Nat:=(yj t).depth
noncomputable def sv(ts:List T):Nat:=PyData.depthAll (sj ts)
@[simp] theorem P4 i:Ai (.int i)=0:=rfl
@[simp] theorem QB i:Ai (.bl i)=0:=rfl
@[simp] theorem Qa i:Ai (.str i)=0:=rfl
@[simp] theorem PQ:Ai .non=0:=rfl
@[simp] theorem JF ts:Ai (.lst ts)=sv ts+1:=by unfold Ai sv;rw[yj,PyData.depth]
@[simp] theorem JM ts:Ai (.tup ts)=sv ts+1:=by unfold Ai sv;rw[yj,PyData.depth]
@[simp] theorem OV:sv []=0:=rfl
@[simp] theorem Do t ts:sv (t::ts)=max (Ai t) (sv ts):=by unfold Ai sv;rw[sj,PyData.depthAll]
@[simp] theorem PU i j:C9 (.int i) (.int j)=(i==j):=rfl
@[simp] theorem P3 i j:C9 (.str i) (.str j)=(i==j):=rfl
def xP xs ys:C9 (.lst xs) (.lst ys)=sX xs ys:=by unfold C9 sX;rw[yj,yj,PyData.eqv]
def sT xs ys:C9 (.tup xs) (.tup ys)=sX xs ys:=by unfold C9 sX;rw[yj,yj,PyData.eqv]
def rg x xs y ys:sX (x::xs) (y::ys)=(C9 x y&&sX xs ys):=by unfold C9 sX;rw[sj,sj,PyData.eqvAll]
noncomputable def ie(neg:Bool):T->T->M T:=λx y=>if qA x&&qA y&&decide (Ai x<=100) then .ok (.bl (if neg then !C9 x y else C9 x y)) else .bad
mutual
theorem DV.same{F H:Hp}(s:gX F H):∀{v:V} {d:PyData},DV K F v d->DV K H v d
 |_,_,.non=>.non
 |_,_,.bl b=>.bl b
 |_,_,.int i=>.int i
 |_,_,.str x=>.str x
 |_,_,.lst h r=>.lst (s.seq h) (yf.same s r)
 |_,_,.tup h r=>.tup (s.seqT h) (yf.same s r)
theorem yf.same{F H:Hp}(s:gX F H):∀{v:List V} {d:List PyData},yf K F v d->yf K H v d
 |_,_,.nil=>.nil
 |_,_,.cons h r=>.cons (DV.same s h) (yf.same s r)
end
def JT x y:M.NoE (ie neg x y):=λC n=>by unfold ie;split<;>exact λz=>nomatch z
def B6(neg:Bool):MR K (Ah K neg) (ie neg):=⟨JT,λF H v w x y Q s a b q=>by
 unfold ie at q;by_cases h:(qA x&&qA y&&decide (Ai x<=100))=true
 .rw[aR h]at q;simp only[bZ,decide_eq_true_eq]at h;refine⟨yj x,yj y,DV.same s (E4 a h.1.1),DV.same s (E4 b h.1.2),⟨xN x h.1.1,xN y h.1.2,by exact h.2⟩,?_⟩;exact kV.now q s (.bl _)
 .rw[aS h]at q;exact q.elim⟩
def OW{k:Nat}(hr:iP k X.A)(e:Pm K E X a ta fa)(d:Pm K E X b tb fb)(f:X.K=K:=by rfl)(c:behindInMarks .Eq b=false:=by exact rh _):Pm K E X (.Compare a [.Eq] [b] pos) (tU (Ah K false) ta tb) (gO (ie false) fa fb):=Gv (f▸GM (OC hr)) (B6 false) e d c
def NZ{k:Nat}(hr:iP k X.A)(e:Pm K E X a ta fa)(d:Pm K E X b tb fb)(f:X.K=K:=by rfl)(c:behindInMarks .NotEq b=false:=by exact rh _):Pm K E X (.Compare a [.NotEq] [b] pos) (tU (Ah K true) ta tb) (gO (ie true) fa fb):=Gv (f▸Fo (OC hr)) (B6 true) e d c
def Ee{k:Nat}(hr:iP k X.A)(e:Pm K E X a ta fa)(d:Pm K E X b tb fb)(f:X.K=K:=by rfl)(c:behindInMarks .Eq b=false:=by exact rh _):zO K E X (.Compare a [.Eq] [b] pos) (wD (tU (Ah K false) ta tb)) (ji (gO (ie false) fa fb)):=jm (f▸GM (OC hr)) (B6 false) e d c
def oT{k:Nat}(hr:iP k X.A)(e:Pm K E X a ta fa)(d:Pm K E X b tb fb)(f:X.K=K:=by rfl)(c:behindInMarks .NotEq b=false:=by exact rh _):zO K E X (.Compare a [.NotEq] [b] pos) (wD (tU (Ah K true) ta tb)) (ji (gO (ie true) fa fb)):=jm (f▸Fo (OC hr)) (B6 true) e d c
end
end L3
namespace L3
open PySem L2 PySem.Spec PyProof.Rows
section
variable {K:W.Frag}{E:XK}{X:Cx}{a b c e o tg it:Expr}{es:List Expr}{ta tb tc te to:TE}{fa fb fc fe fo:Pe->M T}{tr:TA}{fr:Pe->M (List T)}{pos p p2 apos:Pos}
def gJ:zx K E X [] tZ gy:=⟨uh,A9⟩
def gA(d:Pm K E X e te fe)(hr:zx K E X es tr fr)(hs:starEach (e::es) X.env=(false,eval e X.env)::starEach es X.env:=by rfl):zx K E X (e::es) (pM te tr) (gj fe fr):=⟨nY d.pe hr.pa hs,Iw d.me hr.ma⟩
def oH{x1}(h:zx K E X es tr fr):Pm K E X (.Tuple es x1 pos) (MP tr) (lW fr):=⟨Nb h.pa,MH h.ma⟩
def xZ(h:zx K E X es tr fr):Ck K E X (.List es pos) (Lp tr) (lstM fr):=⟨Ld h.pa,Lh h.ma⟩
structure MC(K:W.Frag)(r:List V->Hp->VK->Prop)(o:List T->M T):Prop where
 ne:∀xs,M.NoE (o xs)
 ok:∀F H vs xs Q,gX F H->gN K F vs xs->(o xs).res (kV K F H Q) (λ_ _=>False)->r vs H Q
structure Oh(K:W.Frag)(r:List V->Hp->VK->Prop)(o:List T->M (List T)):Prop where
 ne:∀xs,M.NoE (o xs)
 ok:∀F H vs xs Q,gX F H->gN K F vs xs->(o xs).res (kF K F H Q) (λ_ _=>False)->r vs H Q
@[simp] noncomputable def j0(o:List T->M T)(fr:Pe->M (List T)):Pe->M T:=λd=>(fr d).bind o
@[simp] noncomputable def zw(o:List T->M (List T))(fr:Pe->M (List T)):Pe->M (List T):=λd=>(fr d).bind o
def KC{o:List T->M T}(f:MC K r o)(i:MA K E tr fr):ME K E (HM r tr) (j0 o fr):=λF H u n Q s V q=>by refine i.run s V q λg j l m d k h=>?_;exact f.ok l m j g Q d.fh k ((h.ne (f.ne g)).mono (λ_ z=>z.go d) λ_ _ z=>z)
def EV{o:List T->M (List T)}(f:Oh K r o)(i:MA K E tr fr):MF K E (HM r tr) (zw o fr):=λF H u n Q s V q=>by refine i.run s V q λg j l m d k h=>?_;exact f.ok l m j g Q d.fh k ((h.ne (f.ne g)).mono (λ_ z=>z.go d) λ_ _ z=>z)
section
variable {x:Str}{id T':String}{r:List V->Hp->VK->Prop}{m:List T->M T}{mf:List T->M (List T)}
def gS(i:jT X (.builtin id) r)(g:MC K r m)(k:Gl X x)(l:X.mg x=none)(hv:bootBuiltins x=some (.builtin id))(h:zx K E X (e::es) tr fr)(j:x≠ "__name__" :=by decide)(d:(x==("__debug__" : Str))=false:=by decide)
  (n:starEach (e::es) X.env=(false,eval e X.env)::starEach es X.env:=by rfl) (f:(backTo pos (starEach es X.env)).any (·.1)=false:=by rfl):Pm K E X (.Call (.Name x p) (e::es) [] pos) (HM r tr) (j0 m fr):=⟨tO i k l hv h.pa j d n f,KC g h.ma⟩
def iY(i:jT X (.type T') r)(g:MC K r m)(k:Gl X x)(l:X.mg x=none)(hv:bootBuiltins x=some (.type T'))(h:zx K E X (e::es) tr fr)(j:x≠ "__name__" :=by decide)(d:(x==("__debug__" : Str))=false:=by decide)
  (n:starEach (e::es) X.env=(false,eval e X.env)::starEach es X.env:=by rfl) (f:(backTo pos (starEach es X.env)).any (·.1)=false:=by rfl):Pm K E X (.Call (.Name x p) (e::es) [] pos) (HM r tr) (j0 m fr):=⟨vE i k l hv h.pa j d n f,KC g h.ma⟩
def qW(i:jT X (.type T') r)(g:Oh K r mf)(k:Gl X x)(l:X.mg x=none)(hv:bootBuiltins x=some (.type T'))(h:zx K E X (e::es) tr fr)(j:x≠ "__name__" :=by decide)(d:(x==("__debug__" : Str))=false:=by decide)
  (n:starEach (e::es) X.env=(false,eval e X.env)::starEach es X.env:=by rfl) (f:(backTo pos (starEach es X.env)).any (·.1)=false:=by rfl):Ck K E X (.Call (.Name x p) (e::es) [] pos) (HM r tr) (zw mf fr):=⟨vE i k l hv h.pa j d n f,EV g h.ma⟩
end
@[simp] noncomputable def lj:List T->M T
 |[.lst ts]=>.ok (.int ts.length)
 |[.tup ts]=>.ok (.int ts.length)
 |[.scr ns]=>.ok (.int ns.length)
 |[.str z]=>if z.length<=sizeLine then .ok (.int z.length) else .bad
 |_=>.bad
def J3 xs:M.NoE (lj xs):=λC n=>by unfold lj;split<;>first|(intro z;cases z;done)|(split<;>first|(intro z;cases z;done)|(split<;>intro z<;>cases z))
def kD:MC K (λg H Q=>∃x n,g=[x]/\KP K x H n/\Q (.int n) H) lj:=⟨J3,λF H i g Q s r q=>by
 cases r with
 |nil=>exact q.elim
 |cons h t=>
  cases t with
  |cons _ _=>cases h<;>exact q.elim
  |nil=>
   cases h with
   |lst h r=>exact⟨_,_,rfl,.inl ⟨_,ka.of (s _ _ h),rfl⟩,by rw[r.length];exact kV.now q s (.int _)⟩
   |tup h r=>exact⟨_,_,rfl,.inr ⟨_,lz.of (s _ _ h),rfl⟩,by rw[r.length];exact kV.now q s (.int _)⟩
   |scr h=>exact⟨_,_,rfl,.inl ⟨_,s.seq h,rfl⟩,by rw[ax];exact kV.now q s (.int _)⟩
   |str z=>
    have d:(if z.length<=sizeLine then M.ok (T.int z.length) else M.bad).res (kV K F H Q) (λ_ _=>False):=q;by_cases f:z.length<=sizeLine
    .rw[aR f]at d;exact⟨_,z.length,rfl,⟨f,rfl⟩,kV.now d s (.int _)⟩
    .rw[aS f]at d;exact d.elim
   |_=>exact q.elim⟩
@[simp] noncomputable def ug:List T->M T
 |[.int i]=>.ok (.int (if i<0 then -i else i))
 |_=>.bad
def JS xs:M.NoE (ug xs):=λC n=>by unfold ug;split<;>first|(intro z;cases z;done)|(split<;>first|(intro z;cases z;done)|(split<;>intro z<;>cases z))
def qL:MC K (λd H Q=>∃i,d=[.int i]/\Q (.int (if i<0 then -i else i)) H) ug:=⟨JS,λF H f d Q s r q=>by
 cases r with
 |nil=>exact q.elim
 |cons h t=>
  cases t with
  |cons _ _=>cases h<;>exact q.elim
  |nil=>
   cases h with
   |int i=>exact⟨i,rfl,kV.now q s (.int _)⟩
   |_=>exact q.elim⟩
@[simp] noncomputable def wt:List T->M T
 |[.int i,.int j]=>.ok (.int (if j>i then j else i))
 |_=>.bad
def FX xs:M.NoE (wt xs):=λC n=>by unfold wt;split<;>first|(intro z;cases z;done)|(split<;>first|(intro z;cases z;done)|(split<;>intro z<;>cases z))
def JV:MC K (λd H Q=>∃i j,d=[.int i,.int j]/\Q (.int (if j>i then j else i)) H) wt:=⟨FX,λF H f d Q s r q=>by
 unfold wt at q;split at q
 .exact⟨_,_,r.two,kV.now q s (.int _)⟩
 .exact q.elim⟩
@[simp] noncomputable def jM:List T->M T
 |[.lst ts]=>.ok (.tup ts)
 |[.tup ts]=>.ok (.tup ts)
 |[.scr ns]=>.ok (.tup (ns.map T.int))
 |_=>.bad
def Aq xs:M.NoE (jM xs):=λC n=>by unfold jM;split<;>first|(intro z;cases z;done)|(split<;>first|(intro z;cases z;done)|(split<;>intro z<;>cases z))
def jw:MC K (λg H Q=>∃p f,g=[.ref p]/\((ka K H p f/\∀l,H l=none->Q (.ref l) (iU H l (.tup f)))\/(lz K H p f/\Q (.ref p) H))) jM:=⟨Aq,λF H i g Q s r q=>by
 cases r with
 |nil=>exact q.elim
 |cons h t=>
  cases t with
  |cons _ _=>cases h<;>exact q.elim
  |nil=>
   cases h with
   |lst h r=>exact⟨_,_,rfl,.inl ⟨ka.of (s _ _ h),λl d=>q (.ref l) _ _ (.new s d) (.tup gE (r.mono (Gr.new s d).ff))⟩⟩
   |scr h=>exact⟨_,_,rfl,.inl ⟨s.seq h,λl d=>q (.ref l) _ _ (.new s d) (.tup gE (gN.of_ints _))⟩⟩
   |tup h r=>exact⟨_,_,rfl,.inr ⟨lz.of (s _ _ h),kV.now q s (.tup h r)⟩⟩
   |_=>exact q.elim⟩
@[simp] noncomputable def rj:List T->M (List T)
 |[.lst ts]=>.ok ts
 |[.tup ts]=>.ok ts
 |[.scr ns]=>.ok (ns.map T.int)
 |_=>.bad
def DO xs:M.NoE (rj xs):=λC n=>by unfold rj;split<;>first|(intro z;cases z;done)|(split<;>first|(intro z;cases z;done)|(split<;>intro z<;>cases z))
def uB:Oh K (λg H Q=>∃p f,g=[.ref p]/\(ka K H p f\/lz K H p f)/\∀l,H l=none->Q (.ref l) (iU H l (.lst f))) rj:=⟨DO,λF H i g Q s r q=>by
 cases r with
 |nil=>exact q.elim
 |cons h t=>
  cases t with
  |cons _ _=>cases h<;>exact q.elim
  |nil=>
   cases h with
   |lst h r=>exact⟨_,_,rfl,.inl (ka.of (s _ _ h)),λl d=>q l _ F _ (.new' s d) d (gY s d) gE r⟩
   |scr h=>exact⟨_,_,rfl,.inl (s.seq h),λl d=>q l _ F _ (.new' s d) d (gY s d) gE (gN.of_ints _)⟩
   |tup h r=>exact⟨_,_,rfl,.inr (lz.of (s _ _ h)),λl d=>q l _ F _ (.new' s d) d (gY s d) gE r⟩
   |_=>exact q.elim⟩
def iW:List T->Option (LI)
 |[]=>some []
 |.int i::ts=>(iW ts).bind λr=>some (i::r)
 |_::_=>none
theorem kQ:∀{ts} {ns},iW ts=some ns->ts=ns.map T.int
 |[],_,e=>by cases e;rfl
 |t::ts,ns,e=>by
  cases t with
  |int i=>
   cases q:iW ts with
   |none=>simp[iW,q]at e
   |some r=>simp[iW,q]at e;subst e;rw[kQ q];rfl
  |_=>cases e
@[simp] theorem qD ns:iW (ns.map T.int)=some ns:=by
 induction ns with
 |nil=>rfl
 |cons n ns ih=>simp[iW,ih]
def oz:List T->Option (List Bool)
 |[]=>some []
 |.bl i::ts=>(oz ts).bind λr=>some (i::r)
 |_::_=>none
theorem wC:∀{ts} {ns},oz ts=some ns->ts=ns.map T.bl
 |[],_,e=>by cases e;rfl
 |t::ts,ns,e=>by
  cases t with
  |bl i=>
   cases q:oz ts with
   |none=>simp[oz,q]at e
   |some r=>simp[oz,q]at e;subst e;rw[wC q];rfl
  |_=>cases e
@[simp] theorem Ox ns:oz (ns.map T.bl)=some ns:=by
 induction ns with
 |nil=>rfl
 |cons n ns ih=>simp[oz,ih]
@[simp] noncomputable def A0:List T->M T
 |[.lst ts]=>match iW ts with
  |some ns=>.ok (.int ns.sum)
  |none=>.bad
 |_=>.bad
def Jb xs:M.NoE (A0 xs):=λC n=>by unfold A0;split<;>first|(intro z;cases z;done)|(split<;>first|(intro z;cases z;done)|(split<;>intro z<;>cases z))
def AM:MC K (λg H Q=>∃(p:Addr) (d:LI),g=[.ref p]/\ka K H p (d.map V.int)/\Q (.int d.sum) H) A0:=⟨Jb,λF H j g Q s r q=>by
 cases r with
 |nil=>exact q.elim
 |cons h t=>
  cases t with
  |cons _ _=>cases h<;>exact q.elim
  |nil=>
   cases h with
   |lst h r=>
    rename_i a g i;have f:(match iW i with|some d=>M.ok (T.int d.sum)|none=>M.bad).res (kV K F H Q) (λ_ _=>False):=q;cases e:iW i with
    |none=>rw[e]at f;exact f.elim
    |some d=>rw[e]at f;rw[kQ e]at r;have:=r.ints;subst this;exact⟨a,d,rfl,ka.of (s _ _ h),kV.now f s (.int _)⟩
   |_=>exact q.elim⟩
@[simp] noncomputable def C8:List T->M T
 |[.lst ts]=>match oz ts with
  |some ns=>.ok (.bl (ns.all id))
  |none=>.bad
 |_=>.bad
def Jn xs:M.NoE (C8 xs):=λC n=>by unfold C8;split<;>first|(intro z;cases z;done)|(split<;>first|(intro z;cases z;done)|(split<;>intro z<;>cases z))
def Bb:MC K (λf H Q=>∃(p:Addr) (bs:List Bool),f=[.ref p]/\ka K H p (bs.map V.bl)/\Q (.bl (bs.all id)) H) C8:=⟨Jn,λF H i f Q s r q=>by
 cases r with
 |nil=>exact q.elim
 |cons h t=>
  cases t with
  |cons _ _=>cases h<;>exact q.elim
  |nil=>
   cases h with
   |lst h r=>
    rename_i a f g;have d:(match oz g with|some ns=>M.ok (T.bl (ns.all id))|none=>M.bad).res (kV K F H Q) (λ_ _=>False):=q;cases e:oz g with
    |none=>rw[e]at d;exact d.elim
    |some ns=>rw[e]at d;rw[wC e]at r;have:=r.bls;subst this;exact⟨a,ns,rfl,ka.of (s _ _ h),kV.now d s (.bl _)⟩
   |_=>exact q.elim⟩
@[simp] noncomputable def NH:T->String
 |.non=> "NoneType"
 |.bl _=> "bool"
 |.int _=> "int"
 |.str _=> "str"
 |.tup _=> "tuple"
 |.lst _=> "list"
 |.scr _=> "script"
 |.obj _ _=> "object"
 |.emp=> "dict"
 |.dic _=> "table"
@[simp] noncomputable def Nf(n:String)(x:T):M T:=match x with
 |.scr _=>.bad
 |.obj _ _=>.bad
 |.dic _=>.bad
 |x=>.ok (.bl (NH x==n||(n == "int" && NH x == "bool")))
def N8(r:j5 K F v x)(s:gX F H)(d:∀f,x≠.scr f)(g:∀C fs,x≠.obj C fs)(j:∀ks,x≠.dic ks):nL K H v (.type (NH x)):=by
 cases r with
 |non=>exact .non
 |bl b=>exact .bl b
 |int i=>exact .int i
 |str x=>exact .str x
 |tup h r=>exact .tup (s _ _ h)
 |lst h r=>exact .lst (s _ _ h)
 |scr h=>exact absurd rfl (d _)
 |obj h r=>exact absurd rfl (g _ _)
 |emp h=>exact .dK (s _ _ h)
 |dic h r=>exact absurd rfl (j _)
@[simp] noncomputable def xf(n:String)(fe:Pe->M T):Pe->M T:=λd=>(fe d).bind λx=>Nf n x
theorem KY(B:∀t∈["NoneType", "bool", "int", "str", "tuple", "list", "dict"],W.kitOne K (.type t) (.type n)=some (t==n||(n == "int" && t == "bool")))(u:ME K E te fe) :
  ME K E (HM (λD H Q=>∃x T t b,D=[x,.ty T]/\nL K H x t/\W.kitOne K t (.type T)=some b/\Q (.bl b) H) (pM te (pM (tC (.ty n)) tZ))) (xf n fe):=λF H J I Q s V q=>by
 refine u.run s V q λx v y j m w g=>?_;have d:∀b,Nf n x=.ok (.bl b)->(∀h,x≠.scr h)->(∀C fs,x≠.obj C fs)->(∀i,x≠.dic i)->b=(NH x==n||(n == "int" && NH x == "bool"))->∃f T t b,[v,L2.V.ty n]=[f,.ty T]/\nL K j f t/\W.kitOne K t (.type T)=some b/\Q (.bl b) j:=by
  intro b e k l r A;rw[e]at g;refine⟨v,n,_,b,rfl,N8 w m.fh k l r,?_,g _ y j m (.bl _)⟩;rw[A];refine B _ ?_;cases x with
  |scr h=>exact absurd rfl (k h)
  |obj C fs=>exact absurd rfl (l C fs)
  |dic i=>exact absurd rfl (r i)
  |_=>simp[NH]
 cases x with
 |scr h=>exact g.elim
 |obj C fs=>exact g.elim
 |dic i=>exact g.elim
 |non=>exact d _ rfl (λ_ z=>nomatch z) (λ_ _ z=>nomatch z) (λ_ z=>nomatch z) rfl
 |bl _=>exact d _ rfl (λ_ z=>nomatch z) (λ_ _ z=>nomatch z) (λ_ z=>nomatch z) rfl
 |int _=>exact d _ rfl (λ_ z=>nomatch z) (λ_ _ z=>nomatch z) (λ_ z=>nomatch z) rfl
 |str _=>exact d _ rfl (λ_ z=>nomatch z) (λ_ _ z=>nomatch z) (λ_ z=>nomatch z) rfl
 |tup _=>exact d _ rfl (λ_ z=>nomatch z) (λ_ _ z=>nomatch z) (λ_ z=>nomatch z) rfl
 |lst _=>exact d _ rfl (λ_ z=>nomatch z) (λ_ _ z=>nomatch z) (λ_ z=>nomatch z) rfl
 |emp=>exact d _ rfl (λ_ z=>nomatch z) (λ_ _ z=>nomatch z) (λ_ z=>nomatch z) rfl
def IE K:∀n∈["int", "bool", "str", "tuple", "list"],∀t∈["NoneType", "bool", "int", "str", "tuple", "list", "dict"],W.kitOne K (.type t) (.type n)=some (t==n||(n == "int" && t == "bool")):=by intro n d t f;simp only[aG,ei,or_false]at d f;rcases d with rfl|rfl|rfl|rfl|rfl<;>rcases f with rfl|rfl|rfl|rfl|rfl|rfl|rfl<;>rfl
def nr n (i:n∈["int", "bool", "str", "tuple", "list"]) (l:X.mg "isinstance" = none) (h:X.mg x=none) (g:bootBuiltins x=some (.type n)) (s:Pm K E X e te fe) (v:X.K=K:=by rfl) (j:Gl X "isinstance" :=by rfl) (q:Gl X x:=by rfl)
  (k:x≠ "__name__" :=by decide) (d:(x==("__debug__" : Str))=false:=by decide)
  (r:starEach [e,.Name x p3] X.env=(false,eval e X.env)::starEach [.Name x p3] X.env:=by rfl) (m:starEach [.Name x p3] X.env=(false,eval (.Name x p3) X.env)::starEach [] X.env:=by rfl) (f:(backTo pos (starEach [.Name x p3] X.env)).any (·.1)=false:=by rfl) :
  Pm K E X (.Call (.Name "isinstance" p) [e,.Name x p3] [] pos) (HM (λu H Q=>∃x T t b,u=[x,.ty T]/\nL K H x t/\W.kitOne K t (.type T)=some b/\Q (.bl b) H) (pM te (pM (tC (.ty n)) tZ))) (xf n fe):=by
 subst v;exact⟨tO Hc j l La (nY s.pe (nY (Km q h g rfl k d) uh m) r) (by decide) (by decide) r f,KY (IE X.K n i) s.me⟩
@[simp] noncomputable def ls:T->T->M T
 |.lst ts,.int i=>match rW ts i with
  |some t=>.ok t
  |none=>.bad
 |.tup ts,.int i=>match rW ts i with
  |some t=>.ok t
  |none=>.bad
 |.scr ns,.int i=>match rW ns i with
  |some t=>.ok (.int t)
  |none=>.bad
 |.str z,.int i=>if z.length<=sizeLine then (match rW z.cps.toList i with
  |some c=>.ok (.str ⟨#[c]⟩)
  |none=>.bad) else .bad
 |_,_=>.bad
def Cn(r:gN K F vs ts)(h:rW ts i=some t):∃v,rW vs i=some v/\j5 K F v t:=by
 unfold rW at h ⊢;rw[r.length];cases e:yx ts.length i with
 |none=>rw[e]at h;cases h
 |some j=>rw[e]at h;exact r.get h
def pI(f:α->β) l i:rW (l.map f) i=(rW l i).map f:=by
 unfold rW;rw[ax];cases yx l.length i with
 |none=>rfl
 |some j=>simp
def M5 x y:M.NoE (ls x y):=λC n=>by unfold ls;split<;>first|(intro z;cases z;done)|(split<;>first|(intro z;cases z;done)|(split<;>intro z<;>cases z))
def Ph:MR K (QC K) ls:=⟨M5,λF H v w x y Q s f d q=>by
 unfold ls at q;split at q
 .rename_i m i;rw[d.int_inv];obtain⟨a,k,rfl,h,r⟩:=f.lst_inv;split at q
  .rename_i t e;obtain⟨v,g,j⟩:=Cn r e;exact .inl ⟨a,k,i,v,rfl,rfl,ka.of (s _ _ h),g,kV.now q s j⟩
  .exact q.elim
 .rename_i m i;rw[d.int_inv];obtain⟨a,k,rfl,h,r⟩:=f.tup_inv;split at q
  .rename_i t e;obtain⟨v,g,j⟩:=Cn r e;exact .inr (.inl ⟨a,k,i,v,rfl,rfl,lz.of (s _ _ h),g,kV.now q s j⟩)
  .exact q.elim
 .rename_i n i;rw[d.int_inv];cases f with
  |scr h=>
   split at q
   .rename_i t e;exact .inl ⟨_,_,i,.int t,rfl,rfl,s.seq h,by rw[pI,e];rfl,kV.now q s (.int _)⟩
   .exact q.elim
 .rename_i z i;rw[d.int_inv];cases f with
  |str z=>
   split at q
   .rename_i l;split at q
    .rename_i c e;exact .inr (.inr ⟨z,i,c,rfl,rfl,l,e,kV.now q s (.str _)⟩)
    .exact q.elim
   .exact q.elim
 .exact q.elim⟩
def Gj(f:Pm K E X a ta fa)(d:Pm K E X b tb fb)(hs:CB b:=by intro _ _;rfl)(g:X.K=K:=by rfl):Pm K E X (.Subscript a b pos) (tU (QC K) ta tb) (gO ls fa fb):=⟨Oq (g▸Ng) f.pe d.pe hs,Cz Ph f.me d.me⟩
def Gm:P7 K E X none CG (λ_=>.ok none):=⟨HX,λF H f d Q s V q=>q F H (.refl s)⟩
@[simp] noncomputable def ia(fe:Pe->M T):Pe->M (Option Int):=λd=>(fe d).bind λx=>match x with
 |.int i=>.ok (some i)
 |_=>.bad
def Fx(h:Pm K E X e te fe):P7 K E X (some e) (Fy te) (ia fe):=⟨Cm h.pe,λF H m l Q s V q=>by
 refine h.me.run s V q λx v f g j k d=>?_;cases k with
 |int i=>exact⟨i,rfl,d f g j⟩
 |_=>exact d.elim⟩
noncomputable def mJ{f:Type}(d:List f)(g h:Option Int):List f:=(d.drop (HT.sIx d.length 0 g)).take (HT.sIx d.length d.length h-HT.sIx d.length 0 g)
def Mv xs lo hi:Fu xs lo hi=mJ xs lo hi:=rfl
def gN.cut(r:gN K F vs ts) lo hi:gN K F (mJ vs lo hi) (mJ ts lo hi):=by unfold mJ;rw[r.length];exact (r.drop _).take _
def EN(f:α->β) l lo hi:mJ (l.map f) lo hi=(mJ l lo hi).map f:=by unfold mJ;rw[ax,eA,eB]
section
variable {lo hi:Option Expr}{tl th:TO}{fl fh:Pe->M (Option Int)}
def MO.run{k:Option Int->M α}{P:α->Prop}(h:MO K E t f)(s:gX F H)(v:kK K F σ ρ)(r:((f ρ).bind k).res P (kE E F H))
  (j:∀x i d,Gr F H i d->(k x).res P (kE E i d)->Q x d):t σ H Q:=
 h F H σ ρ Q s v ((M.res.unb r).mono (λx q i d g=>j x i d g (q.mono (λ_ z=>z) λ_ _ z=>z.go g)) λ_ _ z=>z)
@[simp] noncomputable def i0(fe:Pe->M T)(fl fh:Pe->M (Option Int)):Pe->M T:=λd=>(fe d).bind λx=>(fl d).bind λl=>(fh d).bind λh=>match x with
 |.tup ts=>.ok (.tup (mJ ts l h))
 |.lst ts=>.ok (.lst (mJ ts l h))
 |.scr ns=>.ok (.lst ((mJ ns l h).map T.int))
 |_=>.bad
def yn(z:Pm K E X e te fe)(w:P7 K E X lo tl fl)(y:P7 K E X hi th fh)(I:X.K=K:=by rfl):Pm K E X (.Subscript e (.Slice lo hi none p2) pos) (QR (λx lo hi H Q=>N7 K x lo hi H Q\/(N4 K x lo hi H Q\/Ob K x lo hi H Q)) te tl th) (i0 fe fl fh):=by
 subst I;refine⟨Hm (IT.or (Lm.or JD)) z.pe w.po y.po,λF H U S Q s V q=>?_⟩;refine z.me.run s V q λx v R Y j J D=>?_;refine w.mo.run j.fh (V.mono j.ff) D λl Z P m L=>?_;refine y.mo.run m.fh ((V.mono j.ff).mono m.ff) L λu A B d k=>?_;have g:=(j.trans m).trans d;have N:=J.mono (m.ff.trans d.ff);cases N with
 |lst h r=>exact .inl ⟨_,_,rfl,ka.of (d.fh _ _ h),λp f=>k (.ref p) _ _ (g.trans (.new d.fh f)) (.lst gE ((r.cut l u).mono (Gr.new d.fh f).ff))⟩
 |scr h=>exact .inl ⟨_,_,rfl,d.fh.seq h,λp f=>k (.ref p) _ _ (g.trans (.new d.fh f)) (.lst gE (by rw[Mv,EN];exact gN.of_ints _))⟩
 |tup h r=>
  rename_i a xs i;have n:(M.ok (T.tup (mJ i l u))).res (kV X.K F H Q) (kE E A B):=k;by_cases hw:HT.sIx i.length 0 l=0/\HT.sIx i.length i.length u=i.length
  .have C:mJ i l u=i:=by unfold mJ;rw[hw.1,hw.2];simp
   rw[C]at n;exact .inr (.inr ⟨_,_,rfl,lz.of (d.fh _ _ h),by rw[r.length];exact hw,n _ A B g (.tup h r)⟩)
  .exact .inr (.inl ⟨_,_,rfl,lz.of (d.fh _ _ h),by rw[r.length];exact hw,λp f=>n (.ref p) _ _ (g.trans (.new d.fh f)) (.tup gE ((r.cut l u).mono (Gr.new d.fh f).ff))⟩)
 |_=>exact k.elim
end
section
variable {x:Str}{k:Nat}{Fn:List T->M T}{Ff:List T->M (List T)}
def jk(h:ki X.prog X.w X.K X.mg X.base x j (uT K Fn))(hr:iP k X.A)(g:zx K E X (e::es) tr fr)(i:j<=k:=by decide)(l:Gl X x:=by rfl)
  (d:(x==("__debug__" : Str))=false:=by decide) (m:starEach (e::es) X.env=(false,eval e X.env)::starEach es X.env:=by rfl) (f:(backTo pos (starEach es X.env)).any (·.1)=false:=by rfl) :
  Pm K E X (.Call (.Name x p) (e::es) [] pos) (vR (uT K Fn) [] E0 tr) (gF fr Fn):=⟨zF (h.mono i) hr g.pa l d m f,Gs g.ma⟩
def kZ(h:ki X.prog X.w X.K X.mg X.base x j (zZ K Ff))(hr:iP k X.A)(g:zx K E X (e::es) tr fr)(i:j<=k:=by decide)(l:Gl X x:=by rfl)
  (d:(x==("__debug__" : Str))=false:=by decide) (m:starEach (e::es) X.env=(false,eval e X.env)::starEach es X.env:=by rfl) (f:(backTo pos (starEach es X.env)).any (·.1)=false:=by rfl) :
  Ck K E X (.Call (.Name x p) (e::es) [] pos) (vR (zZ K Ff) [] E0 tr) (iz fr Ff):=⟨zF (h.mono i) hr g.pa l d m f,EC g.ma⟩
end
def OI(K:W.Frag)(t:TE):TI:=λd H R=>Gb K t d H R\/LC K t d H R
@[simp] noncomputable def iG(fa:Pe->M T):Pe->M (List T):=λd=>(fa d).bind λx=>match x with
 |.lst ts=>.ok ts
 |.scr ns=>.ok (ns.map T.int)
 |.tup ts=>.ok ts
 |_=>.bad
def Ln(g:ME K E ta fa):MI K E (OI K ta) (iG fa):=λF H f d R s V q=>by
 unfold iG at q;cases e:fa d with
 |bad=>rw[e]at q;exact q.elim
 |er C n=>rw[e]at q;exact .inl (wR g F H f d R s V (by unfold PJ;rw[e];exact q))
 |ok x=>
  rw[e]at q;cases x with
  |lst ts=>exact .inl (wR g F H f d R s V (by unfold PJ;rw[e];exact q))
  |scr ns=>exact .inl (wR g F H f d R s V (by unfold PJ;rw[e];exact q))
  |tup ts=>exact .inr (Lu g F H f d R s V (by unfold Q0;rw[e];exact q))
  |_=>exact q.elim
def iw(d:Pm K E X a ta fa)(i:X.K=K:=by rfl):HZ K E X tg a (OI K ta) (iG fa):=by
 subst i;refine⟨λf s g H R I h=>?_,Ln d.me⟩;rcases h with h|h
 .exact IF d.pe f s g H R I h
 .exact K9 d.pe f s g H R I h
def KO(K:W.Frag)(ta:TA):TI:=λd H R=>∃f g,LS K f g ta d H R
@[simp] noncomputable def seqT:T->M (List T)
 |.lst ts=>.ok ts
 |.scr ns=>.ok (ns.map T.int)
 |.tup ts=>.ok ts
 |_=>.bad
@[simp] noncomputable def ng(fa:Pe->M (List T)):Pe->M (List T):=λf=>(fa f).bind λh=>match h with
 |[x,y]=>(seqT x).bind λg=>(seqT y).bind λd=>.ok (xp g d)
 |_=>.bad
noncomputable def pN:T->Bool
 |.tup _=>true
 |_=>false
def AI x:seqT x=seqB (pN x) x:=by cases x<;>rfl
def IL(h:MA K E tr fr):MI K E (KO K tr) (ng fr):=λF H f d R s V q=>by
 unfold ng at q;cases e:fr d with
 |bad=>rw[e]at q;exact q.elim
 |er C n=>rw[e]at q;exact⟨true,true,Gn h F H f d R s V (by unfold MD;rw[e];exact q)⟩
 |ok xs=>
  rw[e]at q;match xs,e,q with
  |[],_,q=>exact q.elim
  |[_],_,q=>exact q.elim
  |[x,y],e,q=>refine⟨pN x,pN y,Gn h F H f d R s V ?_⟩;unfold MD;rw[e];have g:((seqT x).bind λj=>(seqT y).bind λi=>M.ok (xp j i)).res (kI K F H R) (kE E F H):=q;rw[AI x,AI y]at g;exact g
  |_::_::_::_,_,q=>exact q.elim
def mY{x1}(k:X.mg "zip" = none)(f:zx K E X [a,b] tr fr)(l:X.K=K:=by rfl)(j:Gl X "zip" :=by rfl)(hs:starEach [a,b] X.env=[(false,eval a X.env),(false,eval b X.env)]:=by rfl)
  (d:starEach [b] X.env=[(false,eval b X.env)]:=by rfl):HZ K E X (.Tuple elts x1 tpos) (.Call (.Name "zip" p) [a,b] [] pos) (KO K tr) (ng fr):=by
 subst l;refine⟨λg s i H R I h=>?_,IL f.ma⟩;obtain⟨m,n,h⟩:=h;exact MZ j k f.pa hs d g s i H R I h
def kq(g:X.mg "range" = none)(d:zx K E X [a] tr fr)(f:Gl X "range" :=by rfl)(hs:starEach [a] X.env=[(false,eval a X.env)]:=by rfl):zh K E X tg (.Call (.Name "range" p) [a] [] pos) (G4 tr) (kL fr):=⟨C2 f g d.pa hs,IY d.ma⟩
def zh.pim(h:zh K E X tg it w f):HZ K E X tg it w f:=⟨h.pi,h.mi.mi⟩
section
variable {x:Str}{g:TG}{gs:HN}{m:T->Pe->Option Pe}{ms:List T->Pe->Option Pe}{mo:T->En->Option En}{mos:List T->En->Option En}{n:Nat}
def iy i (h:X.N.Nodup) (j:Ea X.env.scope x:=by first|exact Or.inl rfl|exact Or.inr rfl) (f:X.N[i]? = some x:=by rfl) (d:X.fn x=true\/X.env.scope.names.lookup x=some .local:=by first|exact .inl rfl|exact .inr rfl|assumption):NG K X (.Name x pos) (jV i) (jq i):=⟨Cy h f j d,Iy⟩
def jH i (h:X.N.Nodup) (j:Ea X.env.scope x:=by first|exact Or.inl rfl|exact Or.inr rfl) (f:X.N[i]? = some x:=by rfl) (d:X.fn x=true\/X.env.scope.names.lookup x=some .local:=by first|exact .inl rfl|exact .inr rfl|assumption):NI K X (.Name x pos) (jV i) (nj i):=⟨Cy h f j d,FH⟩
def j2:IU K X [] Dy mW:=⟨BI,Ig⟩
def uK:JH K X [] Dy uP:=⟨BI,GW⟩
def hW(d:NG K X e g m)(f:IU K X es gs ms)(hs:(assignEach (e::es) X.env).map (·.2)=assign e X.env::(assignEach es X.env).map (·.2):=by rfl):IU K X (e::es) (ud g gs) (iL m ms):=⟨yu d.pg f.pg hs,EU d.mg f.mg⟩
def lH(d:NI K X e g mo)(f:JH K X es gs mos)(hs:(assignEach (e::es) X.env).map (·.2)=assign e X.env::(assignEach es X.env).map (·.2):=by rfl):JH K X (e::es) (ud g gs) (lx mo mos):=⟨yu d.pg f.pg hs,Dm d.mg f.mg⟩
def mj n (f:X.calm=true) (h:IU K X es gs ms) (j:X.K=K:=by rfl) (i:(assignEach es X.env).length=n:=by rfl) (d:(assignEach es X.env).findIdx? (·.1)=none:=by rfl):NG K X (.Tuple es k pos) (Dd K n gs) (mU n ms):=by subst j;exact⟨GA f h.pg i d,Mn h.mg⟩
def Bm n (f:X.calm=true) (h:JH K X es gs mos) (j:X.K=K:=by rfl) (i:(assignEach es X.env).length=n:=by rfl) (d:(assignEach es X.env).findIdx? (·.1)=none:=by rfl):NI K X (.Tuple es k pos) (Dd K n gs) (sZ n mos):=by subst j;exact⟨GA f h.pg i d,IM h.mg⟩
end
section
variable {elt iter:Expr}{ifs:List Expr}{scope:Scope}{N:List Str}{ix:List (Option Nat)}{wi:TI}{g:TG}{tt:TT}{fi:Pe->M (List T)}{m:T->Pe->Option Pe}{ft:Pe->M Bool}
def gZ:EH K E X [] LA (λ_=>.ok true):=⟨JG,L1⟩
def yy(h:zO K E X c t f):EH K E X [c] t f:=⟨Jw h.pt,h.mt⟩
@[simp] noncomputable def jL(ix:List (Option Nat))(fi:Pe->M (List T))(m:T->Pe->Option Pe)(ft:Pe->M Bool)(fe:Pe->M T):Pe->M (List T):=λd=>(fi d).bind λgG=>(if gG.length<sizeLine then nH (qd m ft fe (lY ix d)) gG else .bad).noEr
def Oy(n:X.calm=true)(k:HZ K E X tg iter wi fi)(L:yJ X scope N ix)(j:mS ix g)
  (f:∀C d H h i,NG K (lA X N scope C d H h i) tg g m/\EH K HQ (lA X N scope C d H h i) ifs tt ft/\Pm K HQ (lA X N scope C d H h i) elt te fe)
  (hs:∀x,foldedSetIterable iter X.env x=pure x:=by intro _;rfl):Ck K E X (.ListComp elt [⟨tg,iter,ifs,0⟩] scope pos) (GK ix wi g tt te) (jL ix fi m ft fe):=by
 obtain⟨q,r,l⟩:=f 0 X.s₀ X.H₀ [] [];exact⟨OZ n k.pi L j (λC d H h i=>⟨(f C d H h i).1.pg,(f C d H h i).2.1.pf,(f C d H h i).2.2.pe⟩) hs,KN k.mi q.mg r.mt l.me⟩
end
end
end L3
namespace L3
open PySem L2 PySem.Spec PyProof.Rows
section
variable {K:W.Frag}{E:XK}{X:Cx}{a b c e o tg it:Expr}{es:List Expr}{ta tb tc te to:TE}{fa fb fc fe fo:Pe->M T}{tr:TA}{fr:Pe->M (List T)}{pos pos' p p2 apos:Pos}{st:Stmt}{jJ:List Stmt}{t u:TS}{g g':En->O}{ff:Pe->M (List T)}{x:Str}
def iq:oI K E X [] Gh iR:=⟨Ij,Jh⟩
def gL(h:xT K E X st t g):oI K E X [st] t g:=⟨BW h.ps,h.ms⟩
def gz(h:xT K E X st t g)(h':oI K E X jJ u g'):oI K E X (st::jJ) (Ko t u) (gQ g g'):=⟨yq h.ps h'.ps,LB h.ms h'.ms⟩
def Cj:xT K E X st Bu (λ_=>.bad):=⟨Hi,E7⟩
def jN(h:Pm K E X e te fe):xT K E X (.Return (some e) pos) (Au te) (i7 fe):=⟨Bd h.pe,MN h.me⟩
def qm(h:Ck K E X e te ff):xT K E X (.Return (some e) pos) (Au te) (pZ ff):=⟨Bd h.pe,Jl h.mf⟩
def tQ i (h:PE X (.Name x p) (mX i)):xT K E X (.Return (some (.Name x p)) pos) (Au (mX i)) (nX i):=⟨Bd h,DE⟩
def ja{tc:TT}{fc:Pe->M Bool}(d:zO K E X c tc fc)(h:oI K E X A t g)(h':oI K E X B u g'):xT K E X (.If c A B pos) (Lj tc t u) (nq fc g g'):=⟨OD d.pt h.ps h'.ps,Pz d.mt h.ms h'.ms⟩
def Hs{tc:TT}{fc:Pe->M Bool}(d:En->Nat)(i:PassesOwn (model X.prog X.w) X.A X.env X.xe)(f:zO K E X c tc fc)(h:oI K E X A t g):xT K E X (.While c A [] pos) (Ar tc t) (λρ=>ly fc g (d ρ) ρ):=⟨Ha i f.pt h.ps,Hv d f.mt h.ms⟩
section
variable {w:TI}{fi:Pe->M (List T)}{gt:TG}{m:T->En->Option En}{A:List Stmt}
def mQ(j:PassesOwn (model X.prog X.w) X.A X.env X.xe)(i:X.calm=true)(f:HZ K E X tg it w fi)(d:NI K X tg gt m)(h:oI K E X A t g)(hs:∀x,foldedSetIterable it X.env x=pure x:=by intro _;rfl):xT K E X (.For tg it A [] pos) (GP w gt t) (uy fi m g):=⟨Hu j i f.pi d.pg h.ps hs,Nj f.mi d.mg h.ms⟩
def lP(j:PassesOwn (model X.prog X.w) X.A X.env X.xe)(i:X.calm=true)(f:zh K E X tg it w fi)(d:NI K X tg gt m)(h:oI K E X A t g)(hs:∀x,foldedSetIterable it X.env x=pure x:=by intro _;rfl):xT K E X (.For tg it A [] pos) (GP w gt t) (nE fi m g):=⟨Hu j i f.pi d.pg h.ps hs,Kr f.mi d.mg h.ms⟩
end
def M9 i (A:X.N.Nodup) (r:Ea X.env.scope x)
  (w:X.calm=true) (n:HZ K E X tg iter wi fi) (L:yJ X scope N ix) (l:mS ix gt)
  (f:∀C d H j h,NG K (lA X N scope C d H j h) tg gt m/\EH K HQ (lA X N scope C d H j h) ifs tt ft/\Pm K HQ (lA X N scope C d H j h) elt te fe)
  (z:MF K E (GK ix wi gt tt te) (jL ix fi m ft fe)->MS K E (mT (GK ix wi gt tt te) (jV i)) gm)
  (q:X.N[i]? = some x:=by rfl) (B:X.fn x=true\/X.env.scope.names.lookup x=some .local:=by first|exact .inl rfl|exact .inr rfl)
  (k:swapsWith (.ListComp elt [⟨tg,iter,ifs,0⟩] scope pos) (some (.Name x py)) spos.line X.env=pure true:=by rfl)
  (hs:∀x,foldedSetIterable iter X.env x=pure x:=by intro _;rfl):xT K E X (.Assign [.Name x py] (.ListComp elt [⟨tg,iter,ifs,0⟩] scope pos) spos) (mT (GK ix wi gt tt te) (jV i)) gm:=by
 obtain⟨y,s,v⟩:=f 0 X.s₀ X.H₀ [] [];exact⟨F7 A q r w n.pi L l (λC d H j h=>⟨(f C d H j h).1.pg,(f C d H j h).2.1.pf,(f C d H j h).2.2.pe⟩) B k hs,z (KN n.mi y.mg s.mt v.me)⟩
def hV i (j:X.N.Nodup) (h:Pm K E X e te fe) (f:Ea X.env.scope x:=by first|exact Or.inl rfl|exact Or.inr rfl) (d:X.N[i]? = some x:=by rfl) (hs:swapsWith e (some (.Name x pos')) pos.line X.env=pure false:=by rfl) (k:X.fn x=true\/X.env.scope.names.lookup x=some .local:=by first|exact .inl rfl|exact .inr rfl|assumption) :
  xT K E X (.Assign [.Name x pos'] e pos) (mT te (jV i)) (setO i (jE fe)):=⟨Am j d f h.pe hs k,CC h.me⟩
def yI i (j:X.N.Nodup) (h:Pm K E X e te fe) (f:Ea X.env.scope x:=by first|exact Or.inl rfl|exact Or.inr rfl) (d:X.N[i]? = some x:=by rfl) (hs:swapsWith e (some (.Name x pos')) pos.line X.env=pure false:=by rfl) (k:X.fn x=true\/X.env.scope.names.lookup x=some .local:=by first|exact .inl rfl|exact .inr rfl|assumption) :
  xT K E X (.Assign [.Name x pos'] e pos) (mT te (jV i)) (setO i (sJ fe)):=⟨Am j d f h.pe hs k,Ks h.me⟩
def uN i (j:X.N.Nodup) (h:Ck K E X e te ff) (f:Ea X.env.scope x:=by first|exact Or.inl rfl|exact Or.inr rfl) (d:X.N[i]? = some x:=by rfl) (hs:swapsWith e (some (.Name x pos')) pos.line X.env=pure false:=by rfl) (k:X.fn x=true\/X.env.scope.names.lookup x=some .local:=by first|exact .inl rfl|exact .inr rfl|assumption) :
  xT K E X (.Assign [.Name x pos'] e pos) (mT te (jV i)) (nN i (pY ff)):=⟨Am j d f h.pe hs k,BM h.mf⟩
def mC(h:MF K E te ff):MS K E (mT te (jV i)) (setO i (jE λρ=>(ff ρ).bind λts=>.ok (.lst ts))):=CC h.me
def Ht(h:H l=some (.lst xs)):Od K "list" (.ref l) H:=.inl ⟨rfl,_,ka.of h⟩
def nv i (hv:PE X (.Name x p) (mX i)) (m:Pm K E X e te fe) (hs:starEach [e] X.env=(false,eval e X.env)::starEach [] X.env:=by rfl) (n:X.K=K:=by rfl)
  (f:attributeBase (.Name x p) "append" X.env (eval (.Name x p) X.env)=eval (.Name x p) X.env:=by rfl)
  (j:((backTo pos (starEach [e] X.env)).all (λx=>!x.1)&&(backToKw pos (keywordEach [] X.env)).all (λx=>x.1.isSome)&&decide (([e]:List Expr).length+([]:List Keyword).length+(if ([]:List Keyword).isEmpty then 0 else 1)<30))=true:=by rfl)
  (d:(apos.endLine==pos.line)=true:=by rfl) (hplain:(backTo pos (starEach [] X.env)).any (·.1)=false:=by rfl) (k:swapsWith (.Call (.Attribute (.Name x p) "append" apos) [e] [] pos) none pos'.line X.env=pure false:=by rfl) :
  xT K E X (.Expr (.Call (.Attribute (.Name x p) "append" apos) [e] [] pos) pos') (yE (Lx K i te)) (tW i (jE fe)):=by
 subst n;exact⟨BU (EM PySem.F.plainAttrs_list PySem.F.slot_list_append PySem.F.type_list_append vS hv (nY m.pe uh hs) f j d hs hplain) k,IG (λl q H h=>Ht h) m.me⟩
def JU i (hv:PE X (.Name x p) (mX i)) (d:Pm K E X b tb fb) (h:Pm K E X e te fe)
  (j:∀v,assign (.Subscript (.Name x p) b p2) X.env v=(do
   let ov <-holding [v] (eval (.Name x p) X.env)
   let iv <-holding [v,ov] (eval b X.env)
   standAt p2
   holding [v,ov,iv] (setItem ov iv v)
   release [v,ov,iv] []):=by intro _;rfl)
  (hs:swapsWithSole [.Subscript (.Name x p) b p2] e pos.line X.env=pure false:=by rfl) (hw:swappedStores [.Subscript (.Name x p) b p2] e X.env=pure none:=by rfl)
  (f:(assignEach [.Subscript (.Name x p) b p2] X.env).map (·.2)=[assign (.Subscript (.Name x p) b p2) X.env]:=by rfl) :
  xT K E X (.Assign [.Subscript (.Name x p) b p2] e pos) (mT te (MY (mX i) tb BG)) (A8 i (sJ fb) (sJ fe)):=⟨EW h.pe (K7 hv d.pe set_list j) hs hw f,Li h.me d.me⟩
end
section
variable {P:Program}{w:World}{K:W.Frag}{mg:Str->Option Value}{base:Heap}{x:Str}{st:Stmt}{N ps:List Str}{k:Nat}{g:En->O}
def Qf(D:gR K mg x st)(S:i8 N ps (gD st))
  (i:∀(kV c pm:Vq) (j:Option Addr) (b l:Vq) (us:List Vq),us.length=ps.length->bindArgs (W.fnOf x x (jo st) (ib st) (gD st) .none kV c pm j b l) ⟨us,[]⟩=pure (ps.zip us))
  (d:∀(f:Addr) (b:Vq) (A:Around) (a:List Env) (s:Sq) (H:Hp) (E:XK),iP k (A.deeper (envOfC x (gD st) s.heap.objs.size f b))->∃t,oI K E (nC uR P w K mg base N x (gD st) f b A a s H E).nox (ib st) t g) :
  ki P w K mg base x (k+1) (uT K (m9 ps.length N.length g)):=
 xE D S i (λe H Q E h=>AQ h) λf b A a s H e Q E hr h=>let ⟨t,hp⟩:=d f b A a s H E hr;⟨t,hp.ps,xU hp.ms h⟩
def QG(D:gR K mg x st)(S:i8 N ps (gD st))
  (i:∀(kV c pm:Vq) (j:Option Addr) (b l:Vq) (us:List Vq),us.length=ps.length->bindArgs (W.fnOf x x (jo st) (ib st) (gD st) .none kV c pm j b l) ⟨us,[]⟩=pure (ps.zip us))
  (d:∀(f:Addr) (b:Vq) (A:Around) (a:List Env) (s:Sq) (H:Hp) (E:XK),iP k (A.deeper (envOfC x (gD st) s.heap.objs.size f b))->∃t,oI K E (nC uR P w K mg base N x (gD st) f b A a s H E).nox (ib st) t g) :
  ki P w K mg base x (k+1) (zZ K (zP ps.length N.length g)):=
 xE D S i (λe H Q E h=>B3 h) λf b A a s H e Q E hr h=>let ⟨t,hp⟩:=d f b A a s H E hr;⟨t,hp.ps,ya hp.ms h⟩
end
end L3
namespace L3
open PySem L2 PySem.Spec PyProof.Rows
section
variable {K:W.Frag}{E:XK}{X:Cx}{a b c e o tg it:Expr}{es:List Expr}{ta tb tc te to:TE}{fa fb fc fe fo:Pe->M T}{tr:TA}{fr:Pe->M (List T)}{pos p p2 apos:Pos}
@[simp] noncomputable def i9(f:Pe->M (List T)):Pe->M T:=λd=>(f d).bind λg=>.ok (.lst g)
def iQ(f:X.K=K:=by rfl):jT X (.builtin "len") (λd H Q=>∃x n,d=[x]/\KP K x H n/\Q (.int n) H):=f▸EL
def qH(f:X.calm=true)(h:X.K=K:=by rfl):jT X (.builtin "sum") (λg H Q=>∃(p:Addr) (d:LI),g=[.ref p]/\ka K H p (d.map V.int)/\Q (.int d.sum) H):=h▸Ep f
def rq(d:X.calm=true)(g:X.K=K:=by rfl):jT X (.builtin "all") (λf H Q=>∃(p:Addr) (bs:List Bool),f=[.ref p]/\ka K H p (bs.map V.bl)/\Q (.bl (bs.all id)) H):=g▸F9 d
def nZ(d:X.calm=true)(g:X.K=K:=by rfl):jT X (.builtin "any") (λf H Q=>∃p vs bs,f=[.ref p]/\(ka K H p vs\/lz K H p vs)/\lq vs=some bs/\Q (.bl (bs.any id)) H):=g▸C5 d
def iO(g:X.K=K:=by rfl):jT X (.type "tuple") (λf H Q=>∃p d,f=[.ref p]/\((ka K H p d/\∀l,H l=none->Q (.ref l) (iU H l (.tup d)))\/(lz K H p d/\Q (.ref p) H))):=g▸vi
def oS(g:X.K=K:=by rfl):jT X (.type "list") (λf H Q=>∃p d,f=[.ref p]/\(ka K H p d\/lz K H p d)/\∀l,H l=none->Q (.ref l) (iU H l (.lst d))):=g▸xX
def ID:T->Option Bool
 |.bl b=>some b
 |.int i=>some (i != 0)
 |_=>none
def oj:List T->Option (List Bool)
 |[]=>some []
 |v::vs=>(ID v).bind λb=>(oj vs).bind λr=>some (b::r)
theorem xa:∀{vs} {ts},gN K F vs ts->lq vs=oj ts
 |_,_,.nil=>rfl
 |v::vs,t::ts,.cons h r=>by
  have e:yY v=ID t:=by cases h<;>rfl
  rw[lq,oj,xa r,e]
@[simp] theorem AG(d:LI):oj (d.map T.int)=some (d.map λn=>n != 0):=by
 induction d with
 |nil=>rfl
 |cons n d ih=>simp[oj,ID,ih]
@[simp] theorem NF ns:oj (ns.map T.bl)=some ns:=by
 induction ns with
 |nil=>rfl
 |cons n ns ih=>simp[oj,ID,ih]
@[simp] noncomputable def qt(ts:List T):M T:=match oj ts with
 |some bs=>.ok (.bl (bs.any id))
 |none=>.bad
@[simp] noncomputable def sD:List T->M T
 |[.lst ts]=>qt ts
 |[.tup ts]=>qt ts
 |_=>.bad
def Ge ts:M.NoE (qt ts):=λC n=>by unfold qt;split<;>intro z<;>cases z
def IP xs:M.NoE (sD xs):=λC n=>by unfold sD;split<;>first|exact Ge _ C n|(intro z;cases z)
def xj:MC K (λf H Q=>∃p vs bs,f=[.ref p]/\(ka K H p vs\/lz K H p vs)/\lq vs=some bs/\Q (.bl (bs.any id)) H) sD:=⟨IP,λF H vs f Q s r q=>by
 cases r with
 |nil=>exact q.elim
 |cons h t=>
  cases t with
  |cons _ _=>cases h<;>exact q.elim
  |nil=>
   cases h with
   |lst h r=>
    rename_i a f g;have d:(qt g).res (kV K F H Q) (λ_ _=>False):=q;unfold qt at d;cases e:oj g with
    |none=>rw[e]at d;exact d.elim
    |some bs=>rw[e]at d;exact⟨a,f,bs,rfl,.inl (ka.of (s _ _ h)),by rw[xa r];exact e,kV.now d s (.bl _)⟩
   |tup h r=>
    rename_i a f g;have d:(qt g).res (kV K F H Q) (λ_ _=>False):=q;unfold qt at d;cases e:oj g with
    |none=>rw[e]at d;exact d.elim
    |some bs=>rw[e]at d;exact⟨a,f,bs,rfl,.inr (lz.of (s _ _ h)),by rw[xa r];exact e,kV.now d s (.bl _)⟩
   |_=>exact q.elim⟩
noncomputable def yP:T->T->M T
 |.tup a,.int k=>if DN k=true/\a.length*k.toNat<=sizeLine then .ok (.tup (List.replicate k.toNat a).flatten) else .bad
 |_,_=>.bad
def F8 x y:M.NoE (yP x y):=λC n=>by unfold yP;split<;>first|(split<;>intro z<;>cases z)|(intro z;cases z)
def IQ:MR K Ej yP:=⟨F8,λF H v w x y Q s l j q=>by
 cases l with
 |tup h r=>
  cases j with
  |int k=>
   rename_i a m g;have d:(if DN k=true/\g.length*k.toNat<=sizeLine then M.ok (T.tup (List.replicate k.toNat g).flatten) else M.bad).res (kV K F H Q) (λ_ _=>False):=q;by_cases f:DN k=true/\g.length*k.toNat<=sizeLine
   .rw[aR f]at d;refine⟨a,k,m,rfl,rfl,s _ _ h,by have:=nV f.1;rw[Of]at this;rw[PZ];omega,by have:=nV f.1;rw[Of]at this;rw[PZ];omega,by rw[r.length];exact f.2,λz=>?_,λz p i=>?_⟩
    .have:(List.replicate k.toNat g).flatten=g:=by
      rcases z with z|z
      .subst z;cases r;simp
      .subst z;simp
     rw[this]at d;exact kV.now d s (.tup h r)
    .exact d (.ref p) _ _ (.new s i) (.tup gE ((r.rep k.toNat).mono (Gr.new s i).ff))
   .rw[aS f]at d;exact d.elim
  |_=>exact q.elim
 |_=>exact q.elim⟩
@[simp] noncomputable def EA(fa fb:Pe->M T):Pe->M T:=gO yP fa fb
def Kh(d:Pm K E X a ta fa)(f:Pm K E X b tb fb):Pm K E X (.BinOp a .Mult b pos) (tU Ej ta tb) (EA fa fb):=tR HV IQ d f
noncomputable def nG(d:List T):List T:=(d.zipIdx).map λp=>T.tup [.int (p.2:Int),p.1]
def Fg(K:W.Frag)(ta:TA):TI:=λd H R=>∃b,Hr K b ta d H R
@[simp] noncomputable def oE(fa:Pe->M (List T)):Pe->M (List T):=λd=>(fa d).bind λg=>match g with
 |[x]=>(seqT x).bind λf=>.ok (nG f)
 |_=>.bad
def Jf{b:Bool}(d:∀H,gX F H->uS K H b l xs)(h:gN K F xs ts):xt K (QN K b l) (nG ts) F where
 go:=λi H s w=>by
  have f:i<ts.length:=by simpa[nG] using w
  have j:xs[i]? = some (xs[i]'(by rw[h.length];exact f)):=ai _;exact⟨xs,_,d H s,j⟩
 stop:=λH s=>⟨xs,d H s,by simp[nG,h.length]⟩
 yld:=λi t A H x z m k e y=>by
  obtain⟨p,v,rfl,n,rfl,j⟩:=y;obtain⟨r,u,q⟩:=h.at_ (j xs (d H (m.trans k)));have:t=.tup [.int i,r]:=by unfold nG at e;rw[aw,List.getElem?_zipIdx,u]at e;simp at e;exact e.symm
  rw[this];have g:=Gr.new (o:=.tup [.int i,v]) k n;exact⟨_,g,.tup gE (.cons (.int _) (.cons ((q.mono m).mono g.ff) .nil))⟩
noncomputable def Be(b:Bool)(fa:Pe->M (List T)):Pe->M (List T):=λd=>(fa d).bind λg=>match g with
 |[x]=>(seqB b x).bind λf=>.ok (nG f)
 |_=>.bad
def yp{b:Bool}(k:MA K E tr fr):MI K E (Hr K b tr) (Be b fr):=λF H y w R s V q=>by
 refine k.run s V q λz v m r g l d=>?_;split at d
 .rename_i x;cases l with
  |cons a c=>
   cases c;cases f:seqB b x with
   |bad=>rw[f]at d;exact d.elim
   |er C n=>exact absurd f wO
   |ok ts=>rw[f]at d;obtain⟨u,j,rfl,h,i⟩:=xR a f;exact⟨u,rfl,⟨j,h _ g.fh⟩,d _ m r g (Jf h i)⟩
 .exact d.elim
def Jj(h:MA K E tr fr):MI K E (Fg K tr) (oE fr):=λF H f d R s V q=>by
 unfold oE at q;cases e:fr d with
 |bad=>rw[e]at q;exact q.elim
 |er C n=>rw[e]at q;exact⟨true,yp h F H f d R s V (by unfold Be;rw[e];exact q)⟩
 |ok xs=>
  rw[e]at q;match xs,e,q with
  |[],_,q=>exact q.elim
  |[x],e,q=>refine⟨pN x,yp h F H f d R s V ?_⟩;unfold Be;rw[e];have g:((seqT x).bind λi=>M.ok (nG i)).res (kI K F H R) (kE E F H):=q;rw[AI x]at g;exact g
  |_::_::_,_,q=>exact q.elim
def BO{x1}(j:X.mg "enumerate" = none)(d:zx K E X [a] tr fr)(k:X.K=K:=by rfl)(i:Gl X "enumerate" :=by rfl)(hs:starEach [a] X.env=[(false,eval a X.env)]:=by rfl) :
  HZ K E X (.Tuple elts x1 tpos) (.Call (.Name "enumerate" p) [a] [] pos) (Fg K tr) (oE fr):=by
 subst k;refine⟨λf s g H R I h=>?_,Jj d.ma⟩;obtain⟨b,h⟩:=h;exact Ey i j d.pa hs f s g H R I h
end
structure Bs(mg:Str->Option Value):Prop where
 abs:mg "abs" = none
 isinstance:mg "isinstance" = none
 int:mg "int" = none
 bool:mg "bool" = none
 len:mg "len" = none
 range:mg "range" = none
 tuple:mg "tuple" = none
 list:mg "list" = none
 str:mg "str" = none
 all:mg "all" = none
 any:mg "any" = none
 sum:mg "sum" = none
 zip:mg "zip" = none
 max:mg "max" = none
 min:mg "min" = none
 enumerate:mg "enumerate" = none
 reversed:mg "reversed" = none
 set:mg "set" = none
 dict:mg "dict" = none
 sorted:mg "sorted" = none
def qh:bootBuiltins "list" = some (.type "list"):=by decide +kernel
def Lw:bootBuiltins "max" = some (.builtin "max"):=by decide +kernel
def Na:bootBuiltins "min" = some (.builtin "min"):=by decide +kernel
end L3
namespace L3
open PySem L2
section
variable {α:Type}
theorem wJ enc f:∀(l:List α),(∀a∈l,k (enc a)=.ok (some (f a)))->nH k (l.map enc)=.ok (l.map f)
 |[],_=>rfl
 |a::l,h=>by rw[bK,nH,h a (by simp),M.bind_ok,wJ enc f l λb c=>h b (by simp[c])];rfl
theorem pU enc f p:∀(l:List α),(∀a∈l,k (enc a)=.ok (if p a then some (f a) else none))->nH k (l.map enc)=.ok ((l.filter p).map f)
 |[],_=>rfl
 |a::l,h=>by
  rw[bK,nH,h a (by simp),M.bind_ok,pU enc f p l λb d=>h b (by simp[d])];by_cases c:p a=true
  .simp[c]
  .simp[c]
theorem jX enc (P:Nat->En->Prop):∀(l:List α) (k:Nat) (ρ:En),P k ρ->
  (∀i a ρ,l[i]? = some a->P (k+i) ρ->∃d c,m (enc a) ρ=some d/\(g d=.nx c\/g d=.ct c)/\P (k+i+1) c)->∃ρ',jK m g (l.map enc) ρ=.nx ρ'/\P (k+l.length) ρ'
 |[],k,ρ,h,_=>⟨ρ,rfl,h⟩
 |a::l,k,ρ,h,st=>by
  obtain⟨d,c,p,f,j⟩:=st 0 a ρ rfl h;obtain⟨ρ',e,q⟩:=jX enc P l (k+1) c j λi b ρ o n=>by have:=st (i+1) b ρ (by simpa using o) (by rw[show k+(i+1)=k+1+i by omega];exact n);rw[show k+1+i+1=k+(i+1)+1 by omega];exact this
  refine⟨ρ',?_,by rw[aA,show k+(l.length+1)=k+1+l.length by omega];exact q⟩;rw[bK,jK,p];rcases f with f|f<;>(dsimp only;rw[f];exact e)
theorem wK enc (P:En->Prop):∀(l:List α) (ρ:En),P ρ->
  (∀a∈l,∀ρ,P ρ->∃d c,m (enc a) ρ=some d/\(g d=.nx c\/g d=.ct c)/\P c)->∃ρ',jK m g (l.map enc) ρ=.nx ρ'/\P ρ'
 |[],ρ,h,_=>⟨ρ,rfl,h⟩
 |a::l,ρ,h,st=>by obtain⟨d,c,n,f,i⟩:=st a (by simp) ρ h;obtain⟨ρ',e,o⟩:=wK enc P l c i λb k ρ j=>st b (by simp[k]) ρ j;refine⟨ρ',?_,o⟩;rw[bK,jK,n];rcases f with f|f<;>(dsimp only;rw[f];exact e)
theorem pq(P:En->Prop)(d:En->Nat)(R:En->Prop)(st:∀ρ,P ρ->(c (vw ρ)=.ok false/\R ρ)\/(c (vw ρ)=.ok true/\∃a,(g ρ=.nx a\/g ρ=.ct a)/\P a/\d a<d ρ)) :
  ∀n ρ,P ρ->d ρ<n->∃ρ',ly c g n ρ=.nx ρ'/\R ρ'
 |0,ρ,_,h=>absurd h (c6 _)
 |n+1,ρ,hP,hn=>by
  rcases st ρ hP with⟨e,r⟩|⟨e,a,b,f,j⟩
  .exact⟨ρ,by rw[ly,e];rfl,r⟩
  .obtain⟨ρ',i,r⟩:=pq P d R st n a f (by omega);refine⟨ρ',?_,r⟩;rw[ly,e,O.of_ok,aR rfl];rcases b with b|b<;>(rw[b];exact i)
end
def xu{i:Type}(l:List i) enc f (j:fi ρ=.ok (l.map enc)) (c:l.length<sizeLine)
  (g:∀a∈l,∃b,m (enc a) (lY ix ρ)=some b/\ft b=.ok true/\fe b=.ok (f a)):jL ix fi m ft fe ρ=.ok (l.map f):=by
 have h:=wJ (k:=qd m ft fe (lY ix ρ)) enc f l λa o=>by obtain⟨b,n,e,d⟩:=g a o;unfold qd;rw[n];dsimp only;rw[e,M.bind_ok,aR rfl,d];rfl
 unfold jL;rw[j,M.bind_ok,ax,aR c,h];rfl
theorem AB{i:Type}(l:List i) enc f p (j:fi ρ=.ok (l.map enc)) (c:l.length<sizeLine)
  (g:∀a∈l,∃b,m (enc a) (lY ix ρ)=some b/\ft b=.ok (p a)/\(p a=true->fe b=.ok (f a))):jL ix fi m ft fe ρ=.ok ((l.filter p).map f):=by
 have h:=pU (k:=qd m ft fe (lY ix ρ)) enc f p l λa q=>by
  obtain⟨b,o,e,d⟩:=g a q;unfold qd;rw[o];dsimp only;rw[e,M.bind_ok];cases n:p a with
  |true=>rw[aR rfl,aR rfl,d n];rfl
  |false=>rw[aS aI,aS aI]
 unfold jL;rw[j,M.bind_ok,ax,aR c,h];rfl
def iI{e:Type}(l:List e) enc f (g:fi ρ=.ok (l.map enc)) (c:l.length<sizeLine)
  (d:∀a∈l,∃b,m (enc a) (lY ix ρ)=some b/\ft b=.ok true/\fe b=.ok (f a)) (hr:l.map f=ts):jL ix fi m ft fe ρ=.ok ts:=by rw[<-hr];exact xu l enc f g c d
def GY{e:Type}(l:List e) enc f p (g:fi ρ=.ok (l.map enc)) (c:l.length<sizeLine)
  (d:∀a∈l,∃b,m (enc a) (lY ix ρ)=some b/\ft b=.ok (p a)/\(p a=true->fe b=.ok (f a))) (hr:(l.filter p).map f=ts):jL ix fi m ft fe ρ=.ok ts:=by rw[<-hr];exact AB l enc f p g c d
def zL lo n:sf lo n=(List.range n).map λ(i:Nat)=>T.int (lo+(i:Int)):=rfl
noncomputable def tI(a:LI):T:=.tup (a.map T.int)
def tL(a:LI):T:=.lst (a.map T.int)
def AV(l:List α)(i:Int)(d:0<=i)(b:i<l.length):∃a,rW l i=some a/\a∈l:=by
 unfold rW yx;rw[aR d,aR b];have c:i.toNat<l.length:=by omega
 exact⟨l[i.toNat],by simp[c],aW _⟩
def jn(h:PySem.IntMulOk i j):jY (.int i) (.int j)=.ok (.int (i*j)):=by simp[jY,j3,h]
def qp(h:j≠0)(a:Builtin.divisionGoesByPylong i j=false):oq (.int i) (.int j)=.ok (.int (i.fdiv j)):=by simp[oq,j3,h,a]
def pG(h:j≠0):tJ (.int i) (.int j)=.ok (.int (i.fmod j)):=by simp[tJ,j3,h]
@[simp] theorem i5 i j:iH (.int i) (.int j)=.ok (.int (i+j)):=rfl
@[simp] theorem nP i j:yr (.int i) (.int j)=.ok (.int (i-j)):=rfl
@[simp] theorem P6 i j:PR (.int i) (.int j)=.ok (.bl (decide (i<j))):=rfl
@[simp] theorem P8 i j:PF (.int i) (.int j)=.ok (.bl (decide (i<=j))):=rfl
@[simp] theorem PV i j:NM (.int i) (.int j)=.ok (.bl (decide (j<i))):=rfl
@[simp] theorem Ir i j:Oz (.int i) (.int j)=.ok (.bl (decide (j<=i))):=rfl
@[simp] theorem jx i j:ie false (.int i) (.int j)=.ok (.bl (i==j)):=by simp[ie,qA,sT]
@[simp] theorem yF i j:ie true (.int i) (.int j)=.ok (.bl (!(i==j))):=by simp[ie,qA,sT]
def DB(h:i.natAbs<2 ^ 64):PySem.IntMulOk i j:=IntMulOk.of_left (PyProof.Rows.intBits_le h)
def Bn(n:Nat)(x:Int):Prop:=x.natAbs<2 ^ n
def Bn.mono(h:Bn m x)(a:m<=n):Bn n x:=aF h (dy (by decide) a)
def Bn.mul(h:Bn m x)(h':Bn n y):Bn (m+n) (x*y):=by unfold Bn at *;rw[aZ,Nat.pow_add];exact Nat.mul_lt_mul'' h h'
def Bn.add(h:Bn m x)(h':Bn n y):Bn (max m n+1) (x+y):=by have a:Bn (max m n) x:=h.mono (Nat.le_max_left _ _);have b:Bn (max m n) y:=h'.mono (Nat.le_max_right _ _);unfold Bn at *;rw[dw];have:=eD x y;omega
def Bn.neg(h:Bn m x):Bn m (-x):=by unfold Bn at *;rw[Int.natAbs_neg];exact h
def Bn.sub(h:Bn m x)(h':Bn n y):Bn (max m n+1) (x-y):=by rw[Int.sub_eq_add_neg];exact h.add h'.neg
def Bn.ok(h:Bn m x)(h':Bn n y)(b:m<=2 ^ 20)(a:n<=2 ^ 20):PySem.IntMulOk x y:=IntMulOk.of_bits (aO (PyProof.Rows.intBits_le h) b) (aO (PyProof.Rows.intBits_le h') a)
def Bn.noPy(h:Bn n y)(a:n<=8000):Builtin.divisionGoesByPylong x y=false:=Cu.noPy (PyProof.Rows.intBits_le h) a
section
variable {a b g:En->O}{ρ ρ':En}{r:O}{fc:Pe->M Bool}{f:Pe->M T}{ff:Pe->M (List T)}{t:T}{ts:List T}{k n i:Nat}
def gB(c:a ρ=.nx ρ')(d:b ρ'=r):gQ a b ρ=r:=by unfold gQ;rw[c];exact d
def mr(c:a ρ=.rt t)(hr:.rt t=r):gQ a b ρ=r:=by unfold gQ;rw[c];exact hr
def jC(h:fc (vw ρ)=.ok true)(c:a ρ=r):nq fc a b ρ=r:=by unfold nq;rw[h];exact c
def iS(h:fc (vw ρ)=.ok false)(c:b ρ=r):nq fc a b ρ=r:=by unfold nq;rw[h];exact c
def gU(h:f (mq ρ)=.ok t)(hr:ρ'=ρ.set i (some (.p t))):setO i (jE f) ρ=.nx ρ':=by unfold setO jE;rw[h,hr];rfl
def B5(h:f (vw ρ)=.ok t)(c:lf t=true)(hr:ρ'=ρ.set i (some (.p t))):setO i (sJ f) ρ=.nx ρ':=by unfold setO sJ;rw[h,hr];simp[c]
def nF(h:ff (mq ρ)=.ok ts)(hr:ρ'=ρ.set i (some (.o ts))):nN i (pY ff) ρ=.nx ρ':=by unfold nN pY;rw[h,hr];rfl
def Kj(h:ff (vw ρ)=.ok ts)(c:HP ts=true)(hr:ρ'=ρ.set i (some (.o ts))):nN i (El ff) ρ=.nx ρ':=by unfold nN El;rw[h,hr];simp[c]
def xV(c:ρ[i]? = some (some (.o us)))(h:f (mq ρ)=.ok t)(d:us.length<sizeLine)(hr:ρ'=ρ.set i (some (.o (us++[t])))):tW i (jE f) ρ=.nx ρ':=by unfold tW jE lg;rw[c,h,hr];simp[d]
def MU(e:ρ[i]? = some (some (.o us)))(h:f (vw ρ)=.ok t)(c:lf t=true)(d:fk (vw ρ)=.ok (.int j))(l:yx us.length j=some m)(hr:ρ'=ρ.set i (some (.o (us.set m t)))):A8 i (sJ fk) (sJ f) ρ=.nx ρ':=by unfold A8 sJ lg;rw[e,h,d,hr];simp[c,l]
def ig(h:f (vw ρ)=.ok t):i7 f ρ=.rt t:=by unfold i7;rw[h];rfl
def qi(h:ff (vw ρ)=.ok ts):pZ ff ρ=.rf ts:=by unfold pZ;rw[h];rfl
def m4(h:fi (mq ρ)=.ok gG)(c:jK m g gG ρ=r):uy fi m g ρ=r:=by unfold uy;rw[h];exact c
def lZ(h:fi (vw ρ)=.ok gG)(c:jK m g gG ρ=r):nE fi m g ρ=r:=by unfold nE;rw[h];exact c
def iN(c:ts.length=k)(h:g (iA n ts)=.rt t):m9 k n g ts=.ok t:=by unfold m9;rw[aR c,h];rfl
def qI(c:ts.length=k)(h:g (iA n ts)=.rf us):zP k n g ts=.ok us:=by unfold zP;rw[aR c,h];rfl
end
def Pn n:sf 0 n=(List.range n).map λ(i:Nat)=>T.int (i:Int):=by simp[sf]
theorem qg{c:Type} f:∀(l:List c),(∀a∈l,qA (f a)=true)->qY (l.map f)=true
 |[],_=>rfl
 |a::l,h=>by rw[bK,qY,h a (by simp),qg f l λb d=>h b (by simp[d])];rfl
theorem pX{c:Type} f n:∀(l:List c),(∀a∈l,Ai (f a)<=n)->sv (l.map f)<=n
 |[],_=>bN _
 |a::l,h=>by rw[bK,Do];have e:=h a (by simp);have g:=pX f n l λb d=>h b (by simp[d]);omega
@[simp] theorem NL(a:LI):qY (a.map T.int)=true:=qg _ _ λ_ _=>rfl
def v5(a:LI):sv (a.map T.int)<=0:=pX _ _ _ λ_ _=>aL _
@[simp] theorem Lk ns:qA (tI ns)=true:=by simp[tI,qA]
def K5 ns:Ai (tI ns)<=1:=by unfold tI;rw[JM];have:=v5 ns;omega
@[simp] theorem Gx(l:LL):qY (l.map tI)=true:=qg _ _ λ_ _=>Lk _
def tX(l:LL):sv (l.map tI)<=1:=pX _ _ _ λ_ _=>K5 _
@[simp] theorem HK l:sX l []=l.isEmpty:=by cases l<;>rfl
theorem tq{d:Type} f (c:∀a b,C9 (f a) (f b)=true↔a=b):∀(l m:List d),sX (l.map f) (m.map f)=true↔l=m
 |[],[]=>by simp[rg]
 |[],b::m=>⟨λz=>(nomatch (show false=true from z)),λz=>nomatch z⟩
 |a::l,[]=>by simp[rg]
 |a::l,b::m=>by rw[bK,bK,rg,bZ,c a b,tq f c l m];simp
def wm(l m:LI):sX (l.map T.int) (m.map T.int)=decide (l=m):=by
 have h:=tq T.int (λa b=>by simp[sT]) l m;by_cases e:l=m
 .rw[aD e];exact h.mpr e
 .rw[aC e];cases c:sX (l.map T.int) (m.map T.int) with
  |false=>rfl
  |true=>exact absurd (h.mp c) e
def Mj neg (l m:LI):ie neg (.lst (l.map T.int)) (.lst (m.map T.int))=.ok (.bl (if neg then !decide (l=m) else decide (l=m))):=by have h:=v5 l;unfold ie;rw[aR (by simp[qA];omega),xP,wm]
def xA neg ts (h:qY ts=true) (a:sv ts<=90):ie neg (.lst ts) (.lst [])=.ok (.bl (if neg then !ts.isEmpty else ts.isEmpty)):=by unfold ie;rw[aR (by simp[qA,h,qY];omega),xP,HK]
def wH{a:Type} f (l:List a):nG (l.map f)=l.zipIdx.map λp=>T.tup [.int (p.2:Int),f p.1]:=by unfold nG;rw[List.zipIdx_map,aJ];rfl
def FS{b a:Type} f (g:a->T) (l:List b) m:xp (l.map f) (m.map g)=(l.zip m).map λp=>T.tup [f p.1,g p.2]:=by unfold xp;rw[List.zip_map,aJ];rfl
theorem BY{c:Type} f:∀(l:List c),(∀a∈l,lf (f a)=true)->HP (l.map f)=true
 |[],_=>rfl
 |a::l,h=>by rw[bK,HP,h a (by simp),BY f l λb d=>h b (by simp[d])];rfl
@[simp] theorem Hy(a:LI):HP (a.map T.int)=true:=BY _ _ λ_ _=>rfl
@[simp] theorem NT ns:lf (tI ns)=true:=by simp[tI]
section
variable {α:Type}{fe fd fl:Pe->M T}{ρ:Pe}{ts:List T}{d k:Nat}
def v9(l:List α)(d:Nat):mJ l none (some (d:Int))=l.take d:=by
 unfold mJ;rw[HT.sIx_none,HT.sIx_nat,List.drop_zero,Nat.sub_zero];by_cases h:d<=l.length
 .rw[eE h]
 .rw[Nat.min_eq_right (by omega),cF (aL _),cF (by omega)]
def rB(l:List α)(d:Nat):mJ l (some (d:Int)) none=l.drop d:=by
 unfold mJ;rw[HT.sIx_none,HT.sIx_nat];by_cases h:d<=l.length
 .rw[eE h,cF (by simp)]
 .rw[Nat.min_eq_right (by omega),eF (aL _),eF (by omega),List.take_nil]
def MJ n d:HT.sIx n d (some (-1))=n-1:=by unfold HT.sIx;dsimp only;rw[aR (by decide)];omega
def DQ(l:List α):mJ l none (some (-1))=l.dropLast:=by unfold mJ;rw[HT.sIx_none,MJ,List.drop_zero,Nat.sub_zero,List.dropLast_eq_take]
def lL(h:fe ρ=.ok (.tup ts))(a:fd ρ=.ok (.int (d:Int)))(b:d<=ts.length):i0 fe (λ_=>.ok none) (ia fd) ρ=.ok (.tup (ts.take d)):=by simp only[i0,ia,h,a,M.bind_ok,v9]
def v7(h:fe ρ=.ok (.lst ts))(a:fd ρ=.ok (.int (d:Int))):i0 fe (λ_=>.ok none) (ia fd) ρ=.ok (.lst (ts.take d)):=by simp only[i0,ia,h,a,M.bind_ok,v9]
def G3(h:fe ρ=.ok (.tup ts))(a:ts≠[]):i0 fe (λ_=>.ok none) (ia (nU (λi=>.int (-i)) (cM (.int 1)))) ρ=.ok (.tup ts.dropLast):=by have e:ia (nU (λi=>.int (-i)) (cM (.int 1))) ρ=.ok (some (-1)):=rfl;simp only[i0,h,e,M.bind_ok,DQ]
def uL(h:fe ρ=.ok (.tup ts))(a:fd ρ=.ok (.int (d:Int)))(b:0<d)(c:ts≠[]):i0 fe (ia fd) (λ_=>.ok none) ρ=.ok (.tup (ts.drop d)):=by simp only[i0,ia,h,a,M.bind_ok,rB]
def DK(h:fe ρ=.ok (.lst ts))(a:fd ρ=.ok (.int (d:Int))):i0 fe (ia fd) (λ_=>.ok none) ρ=.ok (.lst (ts.drop d)):=by simp only[i0,ia,h,a,M.bind_ok,rB]
def mF(h:lc ρ=.ok ts)(hr:o [.lst ts]=r):j0 o (gj (i9 lc) gy) ρ=r:=by simp only[j0,gj,gy,i9,h,M.bind_ok];exact hr
def lV(h:f ρ=.ok t)(hr:o [t]=r):j0 o (gj f gy) ρ=r:=by simp only[j0,gj,gy,h,M.bind_ok];exact hr
def iD(h:lc ρ=.ok ts):i9 lc ρ=.ok (.lst ts):=by simp only[i9,h,M.bind_ok]
def yD(h:fe ρ=.ok (.tup ts)):iG fe ρ=.ok ts:=by simp only[iG,h,M.bind_ok]
def jR(h:fe ρ=.ok (.lst ts)):iG fe ρ=.ok ts:=by simp only[iG,h,M.bind_ok]
def iT(h:fe ρ=.ok (.bl b)):ji fe ρ=.ok b:=by simp only[ji,h,M.bind_ok]
def A6(h:fc ρ=.ok b)(hr:(!b)=r):L3.qw fc ρ=.ok r:=by simp only[L3.qw,h,M.bind_ok,hr]
def gC(a:fa ρ=.ok x)(b:fb ρ=.ok y)(hr:o x y=r):gO o fa fb ρ=r:=by simp only[gO,a,b,M.bind_ok];exact hr
def rS(h:f ρ=.ok x)(hr:F [x]=.ok t):gF (gj f gy) F ρ=.ok t:=by simp only[gF,gj,gy,h,hr,M.bind_ok];rfl
def kf(h:f ρ=.ok x)(a:g ρ=.ok y)(hr:F [x,y]=.ok t):gF (gj f (gj g gy)) F ρ=.ok t:=by simp only[gF,gj,gy,h,a,hr,M.bind_ok];rfl
def kn{f g k:Pe->M T}(h:f ρ=.ok x)(a:g ρ=.ok y)(b:k ρ=.ok z)(hr:F [x,y,z]=.ok t):gF (gj f (gj g (gj k gy))) F ρ=.ok t:=by simp only[gF,gj,gy,h,a,b,hr,M.bind_ok];rfl
def OG{f g k l:Pe->M T}(h:f ρ=.ok x)(b:g ρ=.ok y)(c:k ρ=.ok z)(a:l ρ=.ok u)(hr:F [x,y,z,u]=.ok t):gF (gj f (gj g (gj k (gj l gy)))) F ρ=.ok t:=by simp only[gF,gj,gy,h,b,c,a,hr,M.bind_ok];rfl
end
section
variable {ρ:Pe}{ts:List T}{F:List T->M (List T)}{f g k l:Pe->M T}{x y z u:T}
def L8(h:f ρ=.ok x)(hr:F [x]=.ok ts):iz (gj f gy) F ρ=.ok ts:=by simp only[iz,gj,gy,h,hr,M.bind_ok];rfl
def E5(h:f ρ=.ok x)(a:g ρ=.ok y)(hr:F [x,y]=.ok ts):iz (gj f (gj g gy)) F ρ=.ok ts:=by simp only[iz,gj,gy,h,a,hr,M.bind_ok];rfl
def Mo(h:f ρ=.ok x)(a:g ρ=.ok y)(b:k ρ=.ok z)(hr:F [x,y,z]=.ok ts):iz (gj f (gj g (gj k gy))) F ρ=.ok ts:=by simp only[iz,gj,gy,h,a,b,hr,M.bind_ok];rfl
def Nc(h:f ρ=.ok x)(b:g ρ=.ok y)(c:k ρ=.ok z)(a:l ρ=.ok u)(hr:F [x,y,z,u]=.ok ts):iz (gj f (gj g (gj k (gj l gy)))) F ρ=.ok ts:=by simp only[iz,gj,gy,h,b,c,a,hr,M.bind_ok];rfl
end
def oN{b a:Type}{l:List b}{m:List a}{f:b->T}{g:a->T}(h:fa ρ=.ok x)(d:seqT x=.ok (l.map f))(e:fb ρ=.ok y)(c:seqT y=.ok (m.map g)) :
  ng (gj fa (gj fb gy)) ρ=.ok ((l.zip m).map λp=>T.tup [f p.1,g p.2]):=by
 rw[<-FS];simp only[ng,gj,gy,h,e,M.bind_ok,d,c]
end L3
namespace L3
open PySem L2 PySem.Spec PyProof.Rows
section
variable {K:W.Frag}{E:XK}{X:Cx}{a b c e o tg it:Expr}{es:List Expr}{ta tb tc te to:TE}{fa fb fc fe fo:Pe->M T}{tr:TA}{fr:Pe->M (List T)}{pos p p2 apos:Pos}
@[simp] noncomputable def ou:List T->M T
 |[.int i,.int j]=>.ok (.int (if j<i then j else i))
 |_=>.bad
def FD xs:M.NoE (ou xs):=λC n=>by unfold ou;split<;>intro z<;>cases z
def HY:MC K (λd H Q=>∃i j,d=[.int i,.int j]/\Q (.int (if j<i then j else i)) H) ou:=⟨FD,λF H f d Q s r q=>by
 unfold ou at q;split at q
 .exact⟨_,_,r.two,kV.now q s (.int _)⟩
 .exact q.elim⟩
end
def FQ(K:W.Frag):Sp:=λc H Q _=>∃(a:Addr) (b:LI),c=[.ref a]/\ka K H a (b.map V.int)/\b.length<=63/\(∀z∈b,Builtin.Int.intBits z<=2 ^ 20)/\∀d,Q (.bl true) d
def Ei{K:W.Frag}(h:∀b:LI,b.length<=63->(∀z∈b,Builtin.Int.intBits z<=2 ^ 20)->F [.scr b]=.ok (.bl true)) vs H Q E (z:FQ K vs H Q E):uT K F vs H Q E:=by obtain⟨a,b,rfl,f,c,e,d⟩:=z;refine⟨[.scr b],H,.refl _,.cons (.scr f) .nil,?_⟩;rw[h b c e];intro v j i g r;cases r;exact d _
def Qc{K:W.Frag}{st:Stmt}(F:HR K x x st f fd)(S:i8 N ps (gD st))
  (d:∀(f:Addr) (b:Vq) (A:Around) (a:List Env) (s:Sq) (H:Hp) (E:XK),iP k (A.deeper (envOfC x (gD st) s.heap.objs.size f b))->∃t,oI K E (nC uR P w K mg base N x (gD st) f b A a s H E).nox (ib st) t g) :
  lU P w K mg base uR (k+1) f fd ps (uT K (m9 ps.length N.length g)):=
 F.ok S (λc H Q E h=>AQ h) λb A a s H c Q E hr h=>let ⟨t,hp⟩:=d f b A a s H E hr;⟨t,hp.ps,xU hp.ms h⟩
def N3{l:W.OpenLaw}{q:Program}{k:Nat}{x:Str}{c:List Str}{XP:(Str->Option Value)->Heap->Prop}{j:World->Heap->Prop}{d:DefRec}{K:Params->W.Frag}(o:l.most=some 63)(hr:iP k callerA)(g:d.params.defaults=[])
  (p:∀(w:World) (h:Heap),j w h->(K w.params).In h)
  (F:∀(w:World) (e:Str->Option Value) (i:Addr) (h:Heap),(K w.params).In h->h.Ns mainGlobals e->e d.name=some (.ref i)->
   ∃fd:FuncData,(∀(s:Sq) (u:Vq),BindsTo s fd ⟨[u],[]⟩ [(x,u)])/\∀b:Heap,(K w.params).In b->b.Ns mainGlobals e->lU l.prog w (K w.params) e b uR k i fd [x] (FQ (K w.params))) :
  W.WalkO q c XP j l.row.toRowW d [] (λf vs=>PySem.call f vs):=
 L2.DZ o (by decide) g hr p F (λ_ _ a n m r _ v=>⟨a,n,rfl,v,m,r,λ_=>rfl⟩) λ_ _ _ _ z=>z
end L3
namespace L3
open PySem L2 PySem.Spec PyProof.Rows
section
variable {K:W.Frag}{E:XK}{t:TE}{f:Pe->M T}
def kO(K:W.Frag)(F H:Hp)(x:Addr)(Q:VK)(t:T):Prop:=∀b c,gX F b->gX b c->(∀a o,a≠x->H a=some o->Ec o (c a))->(∀a,b a≠none->F a≠none\/H a=none\/a=x\/∃d,H a=some (.tup d))->j5 K b (.ref x) t->Q .non c
noncomputable def AJ(K:W.Frag)(C:Addr)(g:List T->M T):Sp:=λe H Q _=>∃x d b c a,e=.ref x::b/\H x=some (.ins C d [])/\a x=none/\gX a H/\gN K a b c/\(g c).noEr.res (kO K a H x Q) (λ_ _=>False)
def Fq{B:Pe->M (List T)}(N:MA K E tr B):ME K E (B7 C (AJ K C Fn) [] E' tr) (gF B Fn):=λF H σ Z Q s V q=>by
 refine N.run s V q λD P S w g R i=>?_;intro x l j A hne;have v:iU w l (.own x) x=none:=by rw[gI (λz=>hne z.symm)];exact j
 have m:gX w (iU (iU w l (.own x)) x (.ins C l [])):=(qQ A).trans (qQ v);refine⟨x,l,P,D,S,by rw[bO],gE,gY g.fh j,g.fh.trans m,R,?_⟩;cases e:Fn D with
 |bad=>rw[e]at i;exact i.elim
 |er C n=>rw[e]at i;exact i.elim
 |ok t=>
  rw[e]at i;intro X U a b c d r;refine⟨rfl,i (.ref x) X U ⟨g.ff.trans a,b,λp o h=>?_,λp J=>?_⟩ r⟩
  .have I:=g.hh p o h;have u:p≠x:=tY I j;exact KI (g.hh.trans m p o h) λL e=>c p L u e
  .rcases d p J with z|z|z|⟨Y,z⟩
   .exact g.nw p z
   .exact .inr (.inl (gY g.hh (gY m z)))
   .rw[z];exact .inr (.inl (gY g.hh j))
   .cases y:H p with
    |none=>exact .inr (.inl rfl)
    |some o=>exact .inr (.inr ⟨Y,by have k:=g.hh.trans m p o y;rw[z]at k;rw[vG k λ_ _ y=>nomatch y]⟩)
noncomputable def vP(C:Addr)(n:Nat)(d e:Str)(g h:Pe->M T):List T->M T:=λc=>if c.length=n then (g (none::c.map some)).bind λa=>(h (none::c.map some)).bind λb=>.ok (.obj C [(d,a),(e,b)]) else .bad
structure Qw(K:W.Frag)(E:XK)(X:Cx)(body:List Stmt)(f1 f2:Str)(g1 g2:Pe->M T):Prop where
 ex:∃(t1 t2:TE),zb X body (Ko (L6 K (mX 0) t1 f1) (L6 K (mX 0) t2 f2))/\ME K E t1 g1/\ME K E t2 g2
def QD(h:X.K=K)(d:PE X o1 (mX 0))(e:Pm K E X a1 t1 g1)(b:PE X o2 (mX 0))(g:Pm K E X a2 t2 g2)
  (a:swapsWith a1 (some (.Attribute o1 f1 p1)) q1.line X.env=pure false:=by rfl) (c:swapsWith a2 (some (.Attribute o2 f2 p2)) q2.line X.env=pure false:=by rfl) :
  Qw K E X [.Assign [.Attribute o1 f1 p1] a1 q1,.Assign [.Attribute o2 f2 p2] a2 q2] f1 f2 g1 g2:=by
 subst h;exact⟨t1,t2,yq (G0 d e.pe a) (BW (G0 b g.pe c)),e.me,g.me⟩
theorem LH{st:Stmt}(cl:vU K C)(n1:kx K C f1)(n2:kx K C f2)(ne:f1≠f2)(D:kG K C "__init__" qual st)(S:i8 N N (gD st))
  (mk:W.makesIn K C=true) (kp:W.keepIn K (.ref C)=true) (hm:mg x=some (.ref C)) (hN:N.length=n+1)
  (hb:∀(kV doc pm:Vq) (an:Option Addr) (j ct:Vq) (us:List Vq),us.length=N.length->bindArgs (W.fnOf "__init__" qual (jo st) (ib st) (gD st) .none kV doc pm an j ct) ⟨us,[]⟩=pure (N.zip us))
  (hT:∀(f:Addr) (j:Vq) (A:Around) (d:List Env) (s:Sq) (H:Hp) (E:XK),iP k (A.deeper (envOfC qual (gD st) s.heap.objs.size f j))->Qw K E (nC uR P w K mg base N qual (gD st) f j A d s H E).nox (ib st) f1 f2 g1 g2) :
  DS P w K mg base x C (k+1) (AJ K C (vP C n f1 f2 g1 g2)):=by
 obtain⟨fi,fd,F,Mm⟩:=D.ex;refine⟨⟨fi,fd,N,F.ok S (λvs H Q E h=>?_) (λj A d s H vs Q E hr h=>?_),⟨mk,Mm.at_,Mm.fn,kp⟩,F.binds hb⟩,hm⟩
 .obtain⟨x,B,us,u,F0,rfl,U,fx,s,r,q⟩:=h;unfold vP at q;by_cases L:u.length=n
  .rw[aA,r.length,L,hN]
  .rw[aS L]at q;exact q.elim
 .obtain⟨x,B,us,u,F0,rfl,U,fx,s0,r,q⟩:=h;obtain⟨t1,t2,ps,m1,m2⟩:=(hT fi j A d s H E hr).ex;refine⟨_,ps,?_⟩;unfold vP at q;by_cases L:u.length=n
  .rw[aR L]at q;have V:kK K F0 (ll N (.ref x::us)) (none::u.map some):=λi t e=>by
    cases i with
    |zero=>cases e
    |succ i=>
     rw[List.getElem?_cons_succ,aw]at e;cases hq:u[i]? with
     |none=>rw[hq]at e;cases e
     |some y=>rw[hq]at e;cases e;obtain⟨v,a,b⟩:=r.get hq;refine⟨v,?_,b⟩;unfold L2.ll;rw[List.getElem?_append_left (by rw[ax,aA];exact Nat.succ_lt_succ (ae.mp a).1),aw,List.getElem?_cons_succ,a];rfl
   cases Z:g1 (none::u.map some) with
   |bad=>rw[Z]at q;exact q.elim
   |er C n=>rw[Z]at q;exact q.elim
   |ok a=>
    rw[Z,L3.M.bind_ok]at q;cases X:g2 (none::u.map some) with
    |bad=>rw[X]at q;exact q.elim
    |er C n=>rw[X]at q;exact q.elim
    |ok b=>
     rw[X,L3.M.bind_ok]at q;refine m1 F0 H _ _ _ s0 V ?_;rw[Z];intro v Y H1 c r1;have hx1:=c.hh _ _ U;have J:Y x=none:=by
      cases z:Y x with
      |none=>rfl
      |some o=>
       rcases c.nw x (by rw[z];exact λy=>nomatch y) with y|y|⟨_,y⟩
       .exact absurd fx y
       .rw[U]at y;cases y
       .rw[U]at y;cases y
     refine⟨.ref x,rfl,x,C,B,[],rfl,hx1,cl,n1,by decide,?_⟩;have s1:gX Y (iU H1 x (.ins C B (nh f1 v []))):=λp o h=>by
      have l:p≠x:=λz=>by rw[z,J]at h;cases h
      rw[gI l];exact c.fh p o h
     refine m2 Y _ _ _ _ s1 (V.mono c.ff) ?_;rw[X];intro R I H3 g r2;have hx3:=g.hh x _ gE;have fx2:I x=none:=by
      cases z:I x with
      |none=>rfl
      |some o=>
       rcases g.nw x (by rw[z];exact λy=>nomatch y) with y|y|⟨_,y⟩
       .exact absurd J y
       .rw[gE]at y;cases y
       .rw[gE]at y;cases y
     refine⟨.ref x,rfl,x,C,B,_,rfl,hx3,cl,n2,by show 1<1000;decide,?_⟩;have ep:nh f2 R (nh f1 v [])=[(f1,v),(f2,R)]:=by show (if f1=f2 then _ else _)=_;rw[aS ne];rfl
     have sF:gX I (iU I x (.ins C B [(f1,v),(f2,R)])):=qQ fx2;refine q (iU I x (.ins C B [(f1,v),(f2,R)])) _ ((c.ff.trans g.ff).trans sF) (λp o h=>?_) (λp o l h=>?_) (λp l=>?_) (.obj gE (.cons (r1.mono (g.ff.trans sF)) (.cons (r2.mono sF) .nil)))
     .by_cases l:p=x
      .subst l;rw[gE]at h;rw[gE,ep];exact .of h
      .rw[gI l]at h ⊢;exact g.fh p o h
     .rw[gI l];exact KI (c.hh p o h) λo' e=>g.hh p o' (by rw[gI l];exact e)
     .by_cases m:p=x
      .exact .inr (.inr (.inl m))
      .rw[gI m]at l;rcases g.nw p l with z|z|⟨xs,z⟩
       .rcases c.nw p z with y|y|y
        .exact .inl y
        .exact .inr (.inl y)
        .exact .inr (.inr (.inr y))
       .rw[gI m]at z;exact .inr (.inl (gY c.hh z))
       .rw[gI m]at z;cases y:H p with
        |none=>exact .inr (.inl rfl)
        |some o=>exact .inr (.inr (.inr ⟨xs,by have k:=c.hh p o y;rw[z]at k;rw[vG k λ_ _ y=>nomatch y]⟩))
  .rw[aS L]at q;exact q.elim
end
section
variable {X:Cx}{K:W.Frag}{E:XK}{x m:Str}{C:Addr}{k:Nat}{Fn:List T->M T}{Ff:List T->M (List T)}{e o:Expr}{es:List Expr}{tr:TA}{fr:Pe->M (List T)}{ta:TE}{fa:Pe->M T}{p pos apos:Pos}
def vT(h:DS X.prog X.w X.K X.mg X.base x C j (AJ K C Fn))(hr:iP k X.A)(c:zx K E X (e::es) tr fr)(d:j+1<=k:=by decide)(f:Gl X x:=by rfl)
  (a:(x==("__debug__" : Str))=false:=by decide) (g:starEach (e::es) X.env=(false,eval e X.env)::starEach es X.env:=by rfl) (b:(backTo pos (starEach es X.env)).any (·.1)=false:=by rfl) :
  Pm K E X (.Call (.Name x p) (e::es) [] pos) (B7 C (AJ K C Fn) [] E0 tr) (gF fr Fn):=⟨OF h (hr.mono d) c.pa f a g b,Fq c.ma⟩
def KU(h:lu X.prog X.w X.K X.mg X.base C m j (uT K Fn))(hr:iP k X.A)(a:Pm K E X o ta fa)(b:j<=k:=by decide)
  (c:eval (.Call (.Attribute o m apos) [] [] pos) X.env=(do
   let ov <-eval o X.env
   standAt apos.atName
   let (f,first) <-holding [ov] (getMethod ov m pl)
   callWith pos f first (backTo pos (starEach [] X.env)) (backToKw pos (keywordEach [] X.env))):=by rfl) :
  Pm K E X (.Call (.Attribute o m apos) [] [] pos) (wF C m (uT K Fn) [] E0 ta tZ) (yX C m fa gy Fn):=⟨E1 h (hr.mono b) a.pe c,EI a.me A9⟩
def LR(h:lu X.prog X.w X.K X.mg X.base C m j (zZ K Ff))(hr:iP k X.A)(a:Pm K E X o ta fa)(b:j<=k:=by decide)
  (c:eval (.Call (.Attribute o m apos) [] [] pos) X.env=(do
   let ov <-eval o X.env
   standAt apos.atName
   let (f,first) <-holding [ov] (getMethod ov m pl)
   callWith pos f first (backTo pos (starEach [] X.env)) (backToKw pos (keywordEach [] X.env))):=by rfl) :
  Ck K E X (.Call (.Attribute o m apos) [] [] pos) (wF C m (zZ K Ff) [] E0 ta tZ) (uF C m fa gy Ff):=⟨E1 h (hr.mono b) a.pe c,Gw a.me A9⟩
def FU(d:X.K=K)(c:vU K C)(a:kx K C f)(h:Pm K E X e ta fa)(b:attributeBase e f X.env (eval e X.env)=eval e X.env:=by rfl):Pm K E X (.Attribute e f pos) (ML X.K ta f) (Bj C f fa):=by subst d;exact⟨KZ h.pe b,Mg c a h.me⟩
@[simp] noncomputable def ED(f:Pe->M T)(m:T->En->Option En):En->O:=λa=>O.of (jE f a) λt=>match m t a with
 |some ρ'=>.nx ρ'
 |none=>.bad
def K6{m:T->En->Option En}(h:ME K E t f)(w:Jm K g m):MS K E (mT t g) (ED f m):=λl i F H u b D r q=>
 h.inH r q λx v d c z j y a=>by
  cases e:m x b with
  |none=>rw[e]at a;exact a.elim
  |some ρ'=>rw[e]at a;exact w l i d c u b v x ρ' _ y j e λs n=>a d c _ (.refl _) n
def Iu{m:T->En->Option En}(b:Pm K E X e t f)(a:NI K X tg g m)(hs:swapsWithSole [tg] e pos.line X.env=pure false:=by rfl)(hw:swappedStores [tg] e X.env=pure none:=by rfl)
  (c:(assignEach [tg] X.env).map (·.2)=[assign tg X.env]:=by rfl):xT K E X (.Assign [tg] e pos) (mT t g) (ED f m):=⟨EW b.pe a.pg hs hw c,K6 b.me a.mg⟩
def Ls{m:T->En->Option En}(h:f (mq ρ)=.ok t)(a:m t ρ=some ρ'):ED f m ρ=.nx ρ':=by unfold ED jE;rw[h];simp[a]
end
section
variable {P:Program}{w:World}{K:W.Frag}{mg:Str->Option Value}{base:Heap}{C:Addr}{m qual:Str}{st:Stmt}{N ps:List Str}{k:Nat}{g:En->O}
def NQ(e:vU K C)(D:kG K C m qual st)(S:i8 N ps (gD st))
  (j:∀(kV c pm:Vq) (l:Option Addr) (b n:Vq) (us:List Vq),us.length=ps.length->bindArgs (W.fnOf m qual (jo st) (ib st) (gD st) .none kV c pm l b n) ⟨us,[]⟩=pure (ps.zip us))
  (d:∀(f:Addr) (b:Vq) (A:Around) (a:List Env) (s:Sq) (H:Hp) (E:XK),iP k (A.deeper (envOfC qual (gD st) s.heap.objs.size f b))->∃t,oI K E (nC uR P w K mg base N qual (gD st) f b A a s H E).nox (ib st) t g) :
  lu P w K mg base C m (k+1) (uT K (m9 ps.length N.length g)):=
 BH e D S j (λi H Q E h=>AQ h) λf b A a s H i Q E hr h=>let ⟨t,hp⟩:=d f b A a s H E hr;⟨t,hp.ps,xU hp.ms h⟩
def OR(e:vU K C)(D:kG K C m qual st)(S:i8 N ps (gD st))
  (j:∀(kV c pm:Vq) (l:Option Addr) (b n:Vq) (us:List Vq),us.length=ps.length->bindArgs (W.fnOf m qual (jo st) (ib st) (gD st) .none kV c pm l b n) ⟨us,[]⟩=pure (ps.zip us))
  (d:∀(f:Addr) (b:Vq) (A:Around) (a:List Env) (s:Sq) (H:Hp) (E:XK),iP k (A.deeper (envOfC qual (gD st) s.heap.objs.size f b))->∃t,oI K E (nC uR P w K mg base N qual (gD st) f b A a s H E).nox (ib st) t g) :
  lu P w K mg base C m (k+1) (zZ K (zP ps.length N.length g)):=
 BH e D S j (λi H Q E h=>B3 h) λf b A a s H i Q E hr h=>let ⟨t,hp⟩:=d f b A a s H E hr;⟨t,hp.ps,ya hp.ms h⟩
end
end L3
namespace L3
open PySem L2 PySem.Spec PyProof.Rows
section
variable {K:W.Frag}{E:XK}{X:Cx}{F0:Fz}{H0 F H:Hp}{σ:L2.St}{ρ:En}{x:Str}{e:Expr}{pos pos' p pd:Pos}
noncomputable def Bc(kvs:List (LI×T))(k:LI)(v:T):List (LI×T):=if (kvs.any λa=>decide (a.1=k))=true then kvs.map (λa=>if a.1=k then (a.1,v) else a) else kvs++[(k,v)]
theorem sO:∀{a b:LI},a.map (Sum.inl:Int->m6)=b.map Sum.inl->a=b
 |[],[],_=>rfl
 |[],_::_,h=>nomatch h
 |_::_,[],h=>nomatch h
 |x::a,y::b,h=>by simp only[bK,List.cons.injEq]at h;rw[Sum.inl.inj h.1,sO h.2]
def DR.put(h:DR K F xs kvs) k (r:j5 K F v t):DR K F (rC xs (k.map Sum.inl) v) (Bc kvs k t):=by
 have b:(xs.any λa=>decide (a.1=k.map Sum.inl))=kvs.any λa=>decide (a.1=k):=by
  induction h with
  |nil=>rfl
  |cons q _ ih=>
   rename_i x y _ _ _;rw[cD,cD,ih];congr 1;by_cases z:y.1=k
   .rw[aD z,aD (by rw[q.1,z])]
   .rw[aC z,aC (λw=>z (sO (by rw[<-q.1,w])))]
 unfold rC Bc;rw[b];generalize (kvs.any λa=>decide (a.1=k))=bb;split
 .clear b;unfold DR at h ⊢;induction h with
  |nil=>exact .nil
  |cons q _ ih=>
   rename_i x y _ _ _;refine .cons ?_ ih;dsimp only;by_cases z:y.1=k
   .rw[aR (by rw[q.1,z]),aR z];exact⟨q.1,r⟩
   .rw[aS (λw=>z (sO (by rw[<-q.1,w]))),aS z];exact q
 .clear b;unfold DR at h ⊢;induction h with
  |nil=>exact .cons ⟨rfl,r⟩ .nil
  |cons q _ ih=>exact .cons q ih
end
end L3
namespace L3
open PySem L2 PySem.Spec PyProof.Rows
theorem gN.reverse{K:W.Frag}:∀{vs} {ts},gN K F vs ts->gN K F vs.reverse ts.reverse
 |_,_,.nil=>.nil
 |_,_,.cons q r=>by rw[b4,b4];exact (gN.reverse r).append (.cons q .nil)
@[simp] noncomputable def P5:T->T->M T
 |.tup ts,.int i=>if i = -1 then .ok (.tup ts.reverse) else .bad
 |.lst ts,.int i=>if i = -1 then .ok (.lst ts.reverse) else .bad
 |_,_=>.bad
section
variable {K:W.Frag}{E:XK}{X:Cx}{e st:Expr}{te ts:TE}{fe fs:Pe->M T}{p2 pos:Pos}
def Mz(k:Pm K E X e te fe)(hs:Pm K E X st ts fs)(w:X.K=K:=by rfl):Pm K E X (.Subscript e (.Slice none none (some st) p2) pos) (QW K te ts) (gO P5 fe fs):=by
 subst w;refine⟨L4 k.pe hs.pe,λF H C B Q s V q=>?_⟩;refine k.me.run s V q λx v A D j u n=>?_;refine hs.me.run j.fh (V.mono j.ff) n λy J I z c l b=>?_;have g:=j.trans c;have m:=u.mono c.ff;unfold P5 at b;split at b
 .rename_i ts i;rw[l.int_inv];obtain⟨a,o,rfl,h,r⟩:=m.tup_inv;by_cases d:i = -1
  .rw[aR d]at b;subst d;exact⟨_,rfl,rfl,.inr ⟨_,_,rfl,lz.of (c.fh _ _ h),λp f=>b (.ref p) _ _ (g.trans (.new c.fh f)) (.tup gE (r.reverse.mono (Gr.new c.fh f).ff))⟩⟩
  .rw[aS d]at b;exact b.elim
 .rename_i ts i;rw[l.int_inv];obtain⟨a,o,rfl,h,r⟩:=m.lst_inv;by_cases d:i = -1
  .rw[aR d]at b;subst d;exact⟨_,rfl,rfl,.inl ⟨_,_,rfl,ka.of (c.fh _ _ h),λp f=>b (.ref p) _ _ (g.trans (.new c.fh f)) (.lst gE (r.reverse.mono (Gr.new c.fh f).ff))⟩⟩
  .rw[aS d]at b;exact b.elim
 .exact b.elim
end
end L3
namespace L3
open PySem L2 PySem.Spec PyProof.Rows
section
variable {K:W.Frag}{E:XK}{X:Cx}{e:Expr}{es:List Expr}{tr:TA}{fr:Pe->M (List T)}{pos p apos:Pos}{pos':Pos}
def DL:bootBuiltins "sorted" = some (.builtin "sorted"):=by decide +kernel
end
end L3
namespace L3
open PySem L2 PySem.Spec PyProof.Rows
def LX:Nat->(List Value->Prop)->Prop
 |0,P=>P []
 |k+1,P=>∀v,LX k λus=>P (v::us)
theorem m5:∀{k} {P},LX k P->∀us:List Vq,us.length=k->P us
 |0,_,h,[],_=>h
 |k+1,_,h,v::us,e=>m5 (h v) us (by simpa using e)
def PD(X:Cx):Prop:=∀x,X.env.scope.names.lookup x=some .cell->∃c,X.env.cells.lookup x=some c
structure Zx(P:Program)(w:World)(K:W.Frag)(mg:Str->Option Value)(base:Heap):Prop where
 here:True
section
variable {P:Program}{w:World}{K:W.Frag}{mg:Str->Option Value}{base:Heap}
noncomputable abbrev CP(_:Zx P w K mg base)(x:Str)(k:Nat)(F:List T->M T):Prop:=ki P w K mg base x k (uT K F)
noncomputable abbrev CF(_:Zx P w K mg base)(x:Str)(k:Nat)(F:List T->M (List T)):Prop:=ki P w K mg base x k (zZ K F)
end
section
variable {P:Program}{w:World}{K:W.Frag}{mg:Str->Option Value}{base:Heap}{x m qual:Str}{C:Addr}{st:Stmt}{g:En->O}
noncomputable abbrev N1(P:Program)(w:World)(K:W.Frag)(mg:Str->Option Value)(base:Heap)(k:Nat)(qual:Str)(st:Stmt)(N:List Str)(g:En->O):Prop:=∀{f:Addr} {cdv:Vq} {A:Around} {outer:List Env} {s:Sq} {H:Hp} {E:XK},N.Nodup->PD (nC uR P w K mg base N qual (gD st) f cdv A outer s H E).nox->iP k (A.deeper (envOfC qual (gD st) s.heap.objs.size f cdv))->∃t,oI K E (nC uR P w K mg base N qual (gD st) f cdv A outer s H E).nox (ib st) t g
abbrev ND(x qual:Str)(st:Stmt)(ps:List Str):Prop:=∀(kV doc pm:Vq) (an:Option Addr) (cdv ct:Vq),LX ps.length λus=>bindArgs (W.fnOf x qual (jo st) (ib st) (gD st) .none kV doc pm an cdv ct) ⟨us,[]⟩=pure (ps.zip us)
def lQ(_:Zx P w K mg base) k F N ps (e:F=m9 ps.length N.length g) (D:gR K mg x st) (l:N1 P w K mg base k x st N g) (S:i8 N ps (gD st):=by constructor<;>first|rfl|decide +kernel)
  (n:ND x x st ps:=by first|exact λ_ _ _ _ _ _ _ _=>rfl|exact λ_ _ _ _ _ _ _=>rfl|exact λ_ _ _ _ _ _ _ _ _=>rfl|exact λ_ _ _ _ _ _ _ _ _ _=>rfl|exact λ_ _ _ _ _ _ _ _ _ _ _=>rfl|exact λ_ _ _ _ _ _=>rfl) :
  ki P w K mg base x (k+1) (uT K F):=e▸Qf D S (λa b c d e f i j=>m5 (n a b c d e f) i j) λ_ _ _ _ _ _ _ r=>l S.nd (λ_ h=>lJ h) r
def zK(_:Zx P w K mg base) k F N ps (e:F=zP ps.length N.length g) (D:gR K mg x st) (l:N1 P w K mg base k x st N g) (S:i8 N ps (gD st):=by constructor<;>first|rfl|decide +kernel)
  (n:ND x x st ps:=by first|exact λ_ _ _ _ _ _ _ _=>rfl|exact λ_ _ _ _ _ _ _=>rfl|exact λ_ _ _ _ _ _ _ _ _=>rfl|exact λ_ _ _ _ _ _ _ _ _ _=>rfl|exact λ_ _ _ _ _ _ _ _ _ _ _=>rfl|exact λ_ _ _ _ _ _=>rfl) :
  ki P w K mg base x (k+1) (zZ K F):=e▸QG D S (λa b c d e f i j=>m5 (n a b c d e f) i j) λ_ _ _ _ _ _ _ r=>l S.nd (λ_ h=>lJ h) r
def Pq(_:Zx P w K mg base) k F N ps (e:F=m9 ps.length N.length g) (o:vU K C) (D:kG K C m qual st) (l:N1 P w K mg base k qual st N g) (S:i8 N ps (gD st):=by constructor<;>first|rfl|decide +kernel)
  (n:ND m qual st ps:=by first|exact λ_ _ _ _ _ _ _=>rfl|exact λ_ _ _ _ _ _ _ _=>rfl|exact λ_ _ _ _ _ _ _ _ _=>rfl) :
  lu P w K mg base C m (k+1) (uT K F):=e▸NQ o D S (λa b c d e f i j=>m5 (n a b c d e f) i j) λ_ _ _ _ _ _ _ r=>l S.nd (λ_ h=>lJ h) r
def LD(_:Zx P w K mg base) k F N ps (e:F=zP ps.length N.length g) (o:vU K C) (D:kG K C m qual st) (l:N1 P w K mg base k qual st N g) (S:i8 N ps (gD st):=by constructor<;>first|rfl|decide +kernel)
  (n:ND m qual st ps:=by first|exact λ_ _ _ _ _ _ _=>rfl|exact λ_ _ _ _ _ _ _ _=>rfl|exact λ_ _ _ _ _ _ _ _ _=>rfl) :
  lu P w K mg base C m (k+1) (zZ K F):=e▸OR o D S (λa b c d e f i j=>m5 (n a b c d e f) i j) λ_ _ _ _ _ _ _ r=>l S.nd (λ_ h=>lJ h) r
def Ov(_:Zx P w K mg base) k F N ps (e:F=m9 ps.length N.length g) (D:HR K x x st f fd) (a:N1 P w K mg base k x st N g) (S:i8 N ps (gD st):=by constructor<;>first|rfl|decide +kernel) :
  lU P w K mg base uR (k+1) f fd ps (uT K F):=e▸Qc D S λ_ _ _ _ _ _ _ r=>a S.nd (λ_ h=>lJ h) r
def QI(_:Zx P w K mg base) k F N (e:F=vP C n f1 f2 g1 g2) (q:vU K C) (p:kx K C f1) (y:kx K C f2) (z:W.makesIn K C=true) (v:W.keepIn K (.ref C)=true) (B:mg x=some (.ref C)) (D:kG K C "__init__" qual st)
  (o:∀{f:Addr} {i:Vq} {A:Around} {h:List Env} {s:Sq} {H:Hp} {E:XK},iP k (A.deeper (envOfC qual (gD st) s.heap.objs.size f i))->Qw K E (nC uR P w K mg base N qual (gD st) f i A h s H E).nox (ib st) f1 f2 g1 g2)
  (S:i8 N N (gD st):=by constructor<;>first|rfl|decide +kernel) (u:ND "__init__" qual st N:=by exact λ_ _ _ _ _ _ _ _ _=>rfl) (ne:f1≠f2:=by decide) (I:N.length=n+1:=by rfl) :
  DS P w K mg base x C (k+1) (AJ K C F):=e▸LH q p y ne D S z v B I (λa b c d e f l j=>m5 (u a b c d e f) l j) λ_ _ _ _ _ _ _ r=>o r
end
section
variable {K:W.Frag}{E:XK}{X:Cx}{tg elt iter:Expr}{ifs:List Expr}{scope:Scope}{wi:TI}{g:TG}{tt:TT}{te:TE}{fe:Pe->M T}{fi:Pe->M (List T)}{m:T->Pe->Option Pe}{ft:Pe->M Bool}{pos:Pos}{x:Str}
noncomputable abbrev QS(K:W.Frag)(X:Cx)(scope:Scope)(N:List Str)(tg elt:Expr)(ifs:List Expr)(g:TG)(tt:TT)(te:TE)(m:T->Pe->Option Pe)(ft:Pe->M Bool)(fe:Pe->M T):Prop:=∀{C s₃ H ex pn},N.Nodup->PD (lA X N scope C s₃ H ex pn)->NG K (lA X N scope C s₃ H ex pn) tg g m/\EH K HQ (lA X N scope C s₃ H ex pn) ifs tt ft/\Pm K HQ (lA X N scope C s₃ H ex pn) elt te fe
def i6 N ix (e:PD X) (f:HZ K E X tg iter wi fi) (b:QS K X scope N tg elt ifs g tt te m ft fe) (c:xw X.N X.env.scope scope N ix=true:=by rfl) (a:mS ix g:=by first|exact ue rfl|exact tH rfl rfl) (nd:N.Nodup:=by decide) (d:X.calm=true:=by rfl)
  (hs:∀x,foldedSetIterable iter X.env x=pure x:=by intro _;rfl):Ck K E X (.ListComp elt [⟨tg,iter,ifs,0⟩] scope pos) (GK ix wi g tt te) (jL ix fi m ft fe):=
 let L:=OL e c
 Oy d f L a (λ_ _ _ _ _=>b nd (G5 L)) hs
def nK N ix i (n:X.N.Nodup) (h:PD X) (k:HZ K E X tg iter wi fi) (c:QS K X scope N tg elt ifs g tt te m ft fe)
  (j:MF K E (GK ix wi g tt te) (jL ix fi m ft fe)->MS K E (mT (GK ix wi g tt te) (jV i)) gm) (d:xw X.N X.env.scope scope N ix=true:=by rfl) (a:mS ix g:=by first|exact ue rfl|exact tH rfl rfl) (nd:N.Nodup:=by decide) (l:Ea X.env.scope x:=by first|exact Or.inl rfl|exact Or.inr rfl) (f:X.calm=true:=by rfl)
  (e:X.N[i]? = some x:=by rfl) (o:X.fn x=true\/X.env.scope.names.lookup x=some .local:=by first|exact .inl rfl|exact .inr rfl)
  (b:swapsWith (.ListComp elt [⟨tg,iter,ifs,0⟩] scope pos) (some (.Name x py)) spos.line X.env=pure true:=by rfl)
  (hs:∀x,foldedSetIterable iter X.env x=pure x:=by intro _;rfl):xT K E X (.Assign [.Name x py] (.ListComp elt [⟨tg,iter,ifs,0⟩] scope pos) spos) (mT (GK ix wi g tt te) (jV i)) gm:=
 let L:=OL h d
 M9 i n l f k L a (λ_ _ _ _ _=>c nd (G5 L)) j e o b hs
end
end L3
namespace L3
open PySem L2 PySem.Spec PyProof.Rows
section
variable {K:W.Frag}{E:XK}{X:Cx}{e:Expr}{es:List Expr}{te:TE}{fe:Pe->M T}{ff:Pe->M (List T)}{tr:TA}{fr:Pe->M (List T×List T)}{pos pos' p p2 p3 p4 p5 pc apos pos2:Pos}{x y:Str}
@[simp] noncomputable def Qu(fr:Pe->M (List T)):Pe->M (List T):=λa=>(fr a).bind λb=>match b with
 |[.int j]=>if 0<=j/\j<=1000 then .ok (sf 0 j.toNat) else .bad
 |_=>.bad
def Pa{fr:Pe->M (List T)}(k:MA K E tr fr):MF K E (QL tr) (Qu fr):=λF H u r Q s o q=>by
 refine k.run s o q λz w m v d l c=>?_;split at c
 .rename_i j;split at c
  .rename_i h;cases l with
   |cons a b=>
    cases a;cases b;refine⟨j.toNat,by rw[cN h.1],by omega,λp f=>?_⟩;refine c p _ m _ (d.trans (.new' d.fh f)) (gY d.hh f) (gY d.fh f) gE ?_;have n:sf 0 j.toNat=((List.range j.toNat).map λ(i:Nat)=>(i:Int)).map T.int:=by rw[zL,aJ];exact cS λi _=>by simp
    have g:((List.range j.toNat).map λ(i:Nat)=>V.int i)=((List.range j.toNat).map λ(i:Nat)=>(i:Int)).map V.int:=by rw[aJ];rfl
    rw[n,g];exact gN.of_ints _
  .exact c.elim
 .exact c.elim
def NX{fr:Pe->M (List T)}(d:X.calm=true)(g:X.mg "list" = none)(a:X.mg "range" = none)(c:zx K E X [e] tr fr)(f:Gl X "list" :=by rfl)(b:Gl X "range" :=by rfl)(hs:starEach [e] X.env=[(false,eval e X.env)]:=by rfl)
  (h:starEach [Expr.Call (.Name "range" p2) [e] [] pos2] X.env=[(false,eval (.Call (.Name "range" p2) [e] [] pos2) X.env)]:=by rfl) :
  Ck K E X (.Call (.Name "list" p) [.Call (.Name "range" p2) [e] [] pos2] [] pos) (QL tr) (Qu fr):=⟨GD d f g b a c.pa hs h,Pa c.ma⟩
@[simp] noncomputable def vC(i j:Nat)(d:En->M T):En->O:=λa=>.of (lg a i) λc=>.of (lg a j) λb=>.of (d a) λk=>match k with
 |.int k=>if 0<=k/\k<1000/\i≠j/\c.length<sizeLine then (match b[k.toNat]? with
  |some y=>.nx ((a.set j (some (.o (b.eraseIdx k.toNat)))).set i (some (.o (c++[y]))))
  |none=>.bad) else .bad
 |_=>.bad
theorem gN.eraseIdx:∀{vs} {ts} n,gN K F vs ts->gN K F (vs.eraseIdx n) (ts.eraseIdx n)
 |_,_,_,.nil=>.nil
 |_,_,0,.cons _ r=>r
 |_,_,n+1,.cons h r=>.cons h (gN.eraseIdx n r)
def Kv(K:W.Frag)(i j:Nat)(te:TE):TE:=Lx K i (Qy K "list" GZ (mX j) (pM te tZ))
def Kk(U:∀l xs H,H l=some (.lst xs)->Od K "list" (.ref l) H)(h:ME K E te fe):MS K E (yE (Kv K i j te)) (vC i j (sJ fe)):=λF0 H0 F H σ J D r q=>by
 unfold vC at q;cases e:lg J i with
 |bad=>rw[e]at q;exact q.elim
 |er C n=>unfold lg at e;split at e<;>cases e
 |ok ts=>
  cases f:lg J j with
  |bad=>rw[e,f]at q;exact q.elim
  |er C n=>unfold lg at f;split at f<;>cases f
  |ok us=>
   rw[e,f]at q;have Y:=pD e;have c:=pD f;obtain⟨ad,R,h2⟩:=r.ov;obtain⟨a,_,_,vs,d,_⟩:=R i ts Y;obtain⟨P,_,_,vs2,d2,_⟩:=R j us c;refine⟨_,a,U _ _ _ d,_,P,U _ _ _ d2,?_⟩;refine h.inB r q λx v F' H' g rp r' b=>?_;cases rp with
   |int k=>
    dsimp only at b;split at b
    .rename_i hc;obtain⟨Z,k1,ij,tl⟩:=hc;cases z:us[k.toNat]? with
     |none=>rw[z]at b;exact b.elim
     |some y=>
      rw[z]at b;obtain⟨L,m,h2'⟩:=r'.ov;obtain⟨b2,_,_,N,I,S⟩:=m j us c;obtain⟨w,ew,s⟩:=S.get z;obtain⟨l,vs',c1,c2,c3,r2⟩:=r'.change c (S.eraseIdx _);rw[P]at c1;cases c1;rw[P]at b2;have A:ad j=L j:=by simpa using b2
      rw[<-A]at I;rw[I]at c2;cases c2;have kl:=(ae.mp ew).1;have si:seqIndex? k N.length=some k.toNat:=by
       unfold seqIndex?;have n0:¬k<0:=by omega
       have u:k<N.length:=by omega
       simp only[n0,if_false];simp[Z,u]
      have B:(1000:Int)<2 ^ 63:=by decide
      have Q:-(2 ^ 63)<=0:=by decide
      refine⟨ad j,N,k,k.toNat,w,rfl,rfl,I,Int.le_trans Q Z,Int.lt_trans k1 B,si,ew,?_⟩;have e3:(J.set j (some (.o (us.eraseIdx k.toNat))))[i]? = some (some (.o ts)):=by rw[ar (Ne.symm ij)];exact Y
      obtain⟨l2,a4,q4⟩:=za r2 e3 s (by rw[aR tl];exact b);rw[a]at a4;cases a4;exact q4
    .exact b.elim
   |_=>exact b.elim
def HH i j (hv:PE X (.Name x p) (mX i)) (hw:PE X (.Name y p2) (mX j)) (r:Pm K E X e te fe) (s:X.K=K:=by rfl)
  (hs:starEach [e] X.env=(false,eval e X.env)::starEach [] X.env:=by rfl)
  (b:starEach [Expr.Call (.Attribute (.Name y p2) "pop" p3) [e] [] p4] X.env=(false,eval (.Call (.Attribute (.Name y p2) "pop" p3) [e] [] p4) X.env)::starEach [] X.env:=by rfl)
  (c:attributeBase (.Name x p) "append" X.env (eval (.Name x p) X.env)=eval (.Name x p) X.env:=by rfl)
  (g:attributeBase (.Name y p2) "pop" X.env (eval (.Name y p2) X.env)=eval (.Name y p2) X.env:=by rfl)
  (f:((backTo pos (starEach [Expr.Call (.Attribute (.Name y p2) "pop" p3) [e] [] p4] X.env)).all (λx=>!x.1)&&(backToKw pos (keywordEach [] X.env)).all (λx=>x.1.isSome)&&decide (([Expr.Call (.Attribute (.Name y p2) "pop" p3) [e] [] p4]:List Expr).length+([]:List Keyword).length+(if ([]:List Keyword).isEmpty then 0 else 1)<30))=true:=by rfl)
  (n:((backTo p4 (starEach [e] X.env)).all (λx=>!x.1)&&(backToKw p4 (keywordEach [] X.env)).all (λx=>x.1.isSome)&&decide (([e]:List Expr).length+([]:List Keyword).length+(if ([]:List Keyword).isEmpty then 0 else 1)<30))=true:=by rfl)
  (d:(apos.endLine==pos.line)=true:=by rfl) (o:(p3.endLine==p4.line)=true:=by rfl) (q:(backTo pos (starEach [] X.env)).any (·.1)=false:=by rfl) (k:(backTo p4 (starEach [] X.env)).any (·.1)=false:=by rfl)
  (m:swapsWith (.Call (.Attribute (.Name x p) "append" apos) [.Call (.Attribute (.Name y p2) "pop" p3) [e] [] p4] [] pos) none pos'.line X.env=pure false:=by rfl) :
  xT K E X (.Expr (.Call (.Attribute (.Name x p) "append" apos) [.Call (.Attribute (.Name y p2) "pop" p3) [e] [] p4] [] pos) pos') (yE (Kv K i j te)) (vC i j (sJ fe)):=by
 subst s;have a:=EM PySem.F.plainAttrs_list PySem.F.slot_list_pop PySem.F.type_list_pop Fd hw (nY r.pe uh hs) g n o hs k;exact⟨BU (EM PySem.F.plainAttrs_list PySem.F.slot_list_append PySem.F.type_list_append vS hv (nY a uh b) c f d b q) m,Kk (λl u H h=>Ht h) r.me⟩
end
end L3
namespace L3
open PySem L2 PySem.Spec PyProof.Rows
section
variable {K:W.Frag}{E:XK}{F H:Hp}{X:Cx}{a b:Expr}{ta tb:TE}{fa fb:Pe->M T}{pos:Pos}
theorem lX.dr:∀{xs} {kvs},lX K F xs kvs->DR K F xs kvs
 |_,_,.nil=>.nil
 |_,_,.cons h r=>.cons ⟨rfl,h⟩ (lX.dr r)
theorem DR.rd:∀{xs} {kvs},DR K F xs kvs->lX K F xs kvs
 |[],_,.nil=>.nil
 | (_,_)::_,_,.cons ⟨e,h⟩ r=>by cases e;exact .cons h (DR.rd r)
noncomputable def lT(kvs:List (LI×T))(k:LI):Option T:=(kvs.find? λc=>decide (c.1=k)).map (·.2)
theorem lX.val k:∀{xs} {kvs},lX K F xs kvs->(lT kvs k=none/\oM xs (k.map Sum.inl)=none)\/∃t v,lT kvs k=some t/\oM xs (k.map Sum.inl)=some v/\j5 K F v t
 |_,_,.nil=>.inl ⟨rfl,rfl⟩
 |_,_,.cons (k:=j) (v:=v) (t:=t) h r=>by
  unfold lT oM;by_cases e:j=k
  .subst e;exact .inr ⟨t,v,by simp,by simp,h⟩
  .rw[List.find?_cons_of_neg (by simpa using e),List.find?_cons_of_neg (by simpa using λz=>e (sO z))];exact lX.val k r
def uz:List T->Option (List (LI×T))
 |[]=>some []
 |.tup [.tup ks,v]::r=>(iW ks).bind λc=>(uz r).bind λq=>some ((c,v)::q)
 |_=>none
noncomputable def qf(kvs c:List (LI×T)):List (LI×T):=c.foldl (λk q=>Bc k q.1 q.2) kvs
@[simp] noncomputable def zj:List T->M T
 |[.lst ts]=>match uz ts with
  |some ps=>.ok (.dic (qf [] ps))
  |none=>.bad
 |_=>.bad
def Gk xs:M.NoE (zj xs):=λC n=>by unfold zj;split<;>first|(intro z;cases z;done)|(split<;>intro z<;>cases z)
theorem Ex:∀{vs} {ts} {ps},gN K F vs ts->uz ts=some ps->∃l:List Pr,vs=l.map (λq=>.ref q.1)/\(∀q∈l,xQ F q)/\lX K F (l.map λq=>(q.2.2.1,q.2.2.2)) ps
 |_,[],_,.nil,e=>by cases e;exact⟨[],rfl,(λ_ h=>nomatch h),lX.nil⟩
 |_,t::ts,ps,.cons h r,e=>by
  unfold uz at e;split at e
  .rename_i z;cases z
  .rename_i ks v m z;cases z;cases c:iW ks with
   |none=>rw[c]at e;cases e
   |some ns=>
    rw[c]at e;cases d:uz ts with
    |none=>rw[d]at e;cases e
    |some q=>
     rw[d]at e;cases e;obtain⟨l,rfl,i,j⟩:=Ex r d;cases h with
     |tup h rs=>
      cases rs with
      |cons h1 rs=>
       cases rs with
       |cons hv rs=>
        cases rs;cases h1 with
        |tup hb rk=>
         rw[kQ c]at rk;rename_i a f b k;refine⟨(a,b,ns.map Sum.inl,f)::l,rfl,λq g=>?_,.cons hv j⟩;rcases aG.mp g with rfl|z
         .exact⟨h,by rw[hb,rk.ints,aJ];rfl⟩
         .exact i q z
  .cases e
theorem vA:∀l {xs} {kvs ps},lX K F (l.map λq=>(q.2.2.1,q.2.2.2)) ps->lX K F xs kvs->lX K F (rG xs l) (qf kvs ps)
 |[],_,_,ps,h,r=>by cases h;exact r
 |q::l,xs,kvs,ps,h,r=>by
  generalize e:(q::l).map (λq:Pr=>(q.2.2.1,q.2.2.2))=m at h;cases h with
  |nil=>cases e
  |cons h1 h2=>rw[bK]at e;obtain⟨c,f⟩:=List.cons.inj e;subst f;have d:=(Prod.mk.inj c).1;have i:=(Prod.mk.inj c).2;rename_i k v t g;show lX K F (rG (rC xs q.2.2.1 q.2.2.2) l) (qf (Bc kvs k t) g);refine vA l h2 ?_;rw[d,i];exact (r.dr.put _ h1).rd
def JW:MC K (λi H Q=>∃l e,i=[.ref l]/\H l=some (.lst (e.map λq=>.ref q.1))/\(∀q∈e,xQ H q)/\∀d,H d=none->Q (.ref d) (iU H d (.dT (rG [] e)))) zj:=⟨Gk,λF H k i Q s r q=>by
 unfold zj at q;split at q
 .split at q
  .rename_i m _ e c;cases r with
   |cons h t=>
    cases t;cases h with
    |lst h r=>obtain⟨l,rfl,f,j⟩:=Ex r c;refine⟨_,l,rfl,s _ _ h,λp c=>⟨s _ _ (f p c).1,s _ _ (f p c).2⟩,λd g=>?_⟩;exact q (.ref d) _ _ (.new s g) (.dic gE ((vA l j .nil).mono (Gr.new s g).ff))
  .exact q.elim
 .exact q.elim⟩
def Jt:bootBuiltins "dict" = some (.type "dict"):=by decide +kernel
def RA(hr:iP k A):A.units+4<cLine:=by have:=hr.un;omega
noncomputable def Bh(neg:Bool):T->T->M T
 |.tup ks,.dic kvs=>match iW ks with
  |some ns=>.ok (.bl (if neg then !(lT kvs ns).isSome else (lT kvs ns).isSome))
  |none=>.bad
 |_,_=>.bad
def NA:R2:=λy x H Q=>∃a o,x=.ref a/\xv H a y o/\Q (.bl o.isSome) H
def MB(e:X.A.units+1<cLine):oh X (compareOp .In) NA:=by intro j s k H x y v u Q I c f h;obtain⟨a,o,rfl,g,q⟩:=h;cases f;exact Ql e I g c λi d=>⟨.bl _,H,d,rfl,q⟩
def Ie x y:M.NoE (Bh neg x y):=λC n=>by unfold Bh;split<;>first|(intro z;cases z;done)|(split<;>intro z<;>cases z)
def Pg{kvs:List (LI×T)}{c:LI}(s:gX F H)(g:F p=some (.tup vs))(f:gN K F vs (c.map T.int))(e:F d=some (.dT xs)):xv H d (.ref p) (oM xs (c.map Sum.inl)):=xv.t (s _ _ e) (by rw[s _ _ g,f.ints,aJ];rfl)
def Md:MR K NA (Bh false):=⟨Ie,λF H v w x y Q s h e q=>by
 unfold Bh at q;split at q
 .split at q
  .rename_i i kvs _ f g;cases h with
   |tup hp rk=>
    cases e with
    |dic hd rd=>rw[kQ g]at rk;refine⟨_,_,rfl,Pg (kvs:=kvs) s hp rk hd,?_⟩;rcases rd.val f with⟨d,c⟩|⟨t,v,d,c,_⟩<;>(rw[d]at q;rw[c];exact kV.now q s (.bl _))
  .exact q.elim
 .exact q.elim⟩
def Jc(hr:iP k X.A)(d:Pm K E X a ta fa)(e:Pm K E X b tb fb)(c:behindInMarks .In b=false:=by rfl):zO K E X (.Compare a [.In] [b] pos) (wD (tU NA ta tb)) (ji (gO (Bh false) fa fb)):=jm (MB (KH hr)) Md d e c
noncomputable def FK:T->T->M T
 |.dic kvs,.tup ks=>match iW ks with
  |some ns=>match lT kvs ns with
   |some t=>.ok t
   |none=>.bad
  |none=>.bad
 |_,_=>.bad
def Nh(n:ME K E ta fa)(r:ME K E tb fb):ME K E (Ef ta tb) (gO FK fa fb):=λF H J I Q s V q=>by
 refine n.run s V q λx v D L e o k=>?_;refine r.run e.fh (V.mono e.ff) k λy w p m h A c=>?_;have B:=o.mono h.ff;unfold FK at c;split at c
 .split at c
  .rename_i kvs C _ l z;split at c
   .rename_i t d;cases B with
    |dic hd rd=>
     cases A with
     |tup hp rk=>
      rw[kQ z]at rk;rcases rd.val l with⟨f,i⟩|⟨N,u,f,i,j⟩
      .rw[f]at d;cases d
      .rw[f]at d;cases d;have g:=Pg (kvs:=kvs) h.fh hp rk hd;rw[i]at g;exact⟨_,u,rfl,g,c _ p m (e.trans h) j⟩
   .exact c.elim
  .exact c.elim
 .exact c.elim
def Nq(hr:iP k X.A)(d:Pm K E X a ta fa)(c:Pm K E X b tb fb)(hs:Mu b:=by intro _ _;rfl):Pm K E X (.Subscript a b pos) (Ef ta tb) (gO FK fa fb):=⟨Ih (KH hr) d.pe c.pe hs,Nh d.me c.me⟩
end
section
variable {P:Program}{w:World}{K:W.Frag}{mg:Str->Option Value}{base:Heap}{x:Str}{st:Stmt}
def Pu N ps (e:F=λ_=>.bad) (D:gR K mg x st) (S:i8 N ps (gD st):=by constructor<;>first|rfl|decide +kernel)
  (m:ND x x st ps:=by first|exact λ_ _ _ _ _ _ _ _=>rfl|exact λ_ _ _ _ _ _ _=>rfl|exact λ_ _ _ _ _ _ _ _ _=>rfl):ki P w K mg base x (k+1) (uT K F):=by
 have i:∀g H Q E,¬uT K F g H Q E:=λg H Q E h=>by subst e;obtain⟨_,_,_,_,_,z⟩:=h
 exact xE D S (λa b c d e f l j=>m5 (m a b c d e f) l j) (λg H Q E h=>absurd h (i _ _ _ _)) λ_ _ _ _ _ _ _ _ _ _ h=>absurd h (i _ _ _ _)
end
end L3
namespace L3
open PySem L2 PySem.Spec PyProof.Rows
section
def mw:List T->Option (LL)
 |[]=>some []
 |.tup ts::l=>(iW ts).bind λr=>(mw l).bind λrs=>some (r::rs)
 |_::_=>none
def zH(r:LI):T:=.tup (r.map T.int)
theorem uu:∀{ts:List T} {rs:LL},mw ts=some rs->ts=rs.map zH
 |[],_,e=>by cases e;rfl
 |t::l,rs,e=>by
  unfold mw at e;split at e
  .rename_i h;cases h
  .rename_i ts c h;cases h;cases a:iW ts with
   |none=>rw[a]at e;cases e
   |some r=>
    cases b:mw l with
    |none=>rw[a,b]at e;cases e
    |some rs'=>rw[a,b]at e;cases e;rw[bK,<-uu b,kQ a];rfl
  .cases e
theorem rM:∀(r:LI),iW (r.map T.int)=some r
 |[]=>rfl
 |i::r=>by rw[bK];unfold iW;rw[rM r];rfl
theorem rR:∀(rs:LL),mw (rs.map zH)=some rs
 |[]=>rfl
 |r::rs=>by rw[bK];show mw (.tup (r.map T.int)::_)=_;unfold mw;rw[rM,rR rs];rfl
variable {K:W.Frag}{F:Hp}
theorem vt:∀{vs:List V} {rs:LL},gN K F vs (rs.map zH)->∃bs:List Addr,vs=bs.map V.ref/\Paired (λb r=>F b=some (.tup (r.map V.int))) bs rs
 |_,[],.nil=>⟨[],rfl,.nil⟩
 |_,r::rs,.cons h t=>by obtain⟨bs,e,p⟩:=vt t;obtain⟨a,f,rfl,c,d⟩:=h.tup_inv;rw[d.ints]at c;exact⟨a::bs,by rw[e];rfl,.cons c p⟩
def vQ{bs:List Addr}{rs:LL}(h:Paired (λb r=>F b=some (.tup (r.map V.int))) bs rs):gN K F (bs.map V.ref) (rs.map zH):=by
 induction h with
 |nil=>exact .nil
 |cons a _ ih=>exact .cons (.tup a (gN.of_ints _)) ih
end
def Dl(r:LI):LL->LL
 |[]=>[r]
 |x::l=>if jb x r=true then x::Dl r l else r::x::l
def jO:LL->LL
 |[]=>[]
 |r::l=>Dl r (jO l)
def Bq:LL->LL
 |[]=>[]
 |r::l=>if r∈Bq l then Bq l else r::Bq l
theorem rE(r:LI):∀l,(Dl r l).Perm (r::l)
 |[]=>.refl _
 |x::l=>by
  unfold Dl;split
  .exact ((rE r l).cons x).trans (.swap ..)
  .exact .refl _
theorem oX:∀l,(jO l).Perm l
 |[]=>.refl _
 |r::l=>(rE r _).trans ((oX l).cons r)
theorem B2{m:Nat}{r:LI}(hr:r.length=m):∀{l:LL},(∀x∈l,x.length=m)->l.Pairwise (λa b=>jb b a=false)->(Dl r l).Pairwise (λa b=>jb b a=false)
 |[],_,_=>dN _ _
 |x::l,hl,p=>by
  obtain⟨e,g⟩:=eG.mp p;have f:=hl x (by simp);have d:∀y∈l,y.length=m:=λy c=>hl y (bz _ c);unfold Dl;split
  .rename_i h;refine eG.mpr ⟨λy c=>?_,B2 hr d g⟩;rcases aG.mp ((rE r l).mem_iff.mp c) with rfl|c
   .exact pC h
   .exact e y c
  .rename_i h;have h:jb x r=false:=by simpa using h
   refine eG.mpr ⟨λy c=>?_,p⟩;rcases aG.mp c with rfl|c
   .exact h
   .exact xH (hr.trans f.symm) (f.trans (d y c).symm) h (e y c)
theorem yV{m:Nat}:∀{l:LL},(∀x∈l,x.length=m)->(jO l).Pairwise (λa b=>jb b a=false)
 |[],_=>.nil
 |r::l,h=>B2 (h r (by simp)) (λx c=>h x (bz _ ((oX l).mem_iff.mp c))) (yV λx c=>h x (bz _ c))
theorem yQ:∀{a b:LI},a.length=b.length->jb a b=false->jb b a=false->a=b
 |[],[],_,_,_=>rfl
 |x::a,y::b,h,p,q=>by
  unfold jb at p q;by_cases e:x=y
  .subst e;rw[aR rfl]at p q;rw[yQ (by simpa using h) p q]
  .rw[aS e]at p;rw[aS (Ne.symm e)]at q;simp only[decide_eq_false_iff_not]at p q;omega
def ui{m:Nat}{d rs:LL}(e:∀r∈rs,r.length=m)(h:d.Perm rs)(hs:d.Pairwise (λa b=>jb b a=false)):d=jO rs:=by have f:=oX rs;refine List.Perm.eq_of_pairwise (λa b j i g c=>?_) hs (yV e) (h.trans f.symm);exact yQ ((e a (h.mem_iff.mp j)).trans (e b (f.mem_iff.mp i)).symm) c g
theorem qj{k:LI}:∀{l:LL},k∈Bq l↔k∈l
 |[]=>Iff.rfl
 |r::l=>by
  unfold Bq;split
  .rename_i h;rw[qj (l:=l),aG];refine⟨.inr,λz=>z.elim (λz=>?_) id⟩;rw[z];exact qj.mp h
  .rw[aG,aG,qj (l:=l)]
theorem z9:∀(l:LL),(Bq l).Nodup
 |[]=>cL
 |r::l=>by
  unfold Bq;split
  .exact z9 l
  .rename_i h;exact bR.mpr ⟨h,z9 l⟩
def GQ{m:Nat}{c rs:LL}(d:∀r∈rs,r.length=m)(nd:c.Nodup)(e:∀k,k∈c↔k∈rs)(hs:c.Pairwise (λa b=>jb b a=false)):c=jO (Bq rs):=ui (m:=m) (λr hr=>d r (qj.mp hr)) ((eI nd (z9 rs)).mpr λk=>(e k).trans qj.symm) hs
def yH(b:Bool)(rs:LL):Bool:=rs.all (λr=>r.length==(rs.headD []).length)&&decide (rs.length<64)&&(b||(decide (rs.length<2)||decide ((rs.headD []).length≠0)))
def Cv{b:Bool}{rs:LL}(h:yH b rs=true):(∀r∈rs,r.length=(rs.headD []).length)/\rs.length<64/\(b=false->(rs.headD []).length=0->rs.length<2):=by unfold yH at h;simp only[bZ,Bool.or_eq_true,decide_eq_true_eq,cG,beq_iff_eq]at h;exact⟨h.1.1,h.1.2,λy z=>h.2.elim (λq=>by rw[y]at q;cases q) λq=>q.elim id λq=>absurd z q⟩
noncomputable def lR(b:Bool)(f:LL->LL):List T->M (List T)
 |[.lst ts]=>match mw ts with
  |some rs=>if yH b rs=true then .ok ((f rs).map zH) else .bad
  |none=>.bad
 |_=>.bad
def yz b f xs:M.NoE (lR b f xs):=λC n=>by
 unfold lR;split
 .split
  .split<;>(intro z;cases z)
  .intro z;cases z
 .intro z;cases z
theorem vz{b:Bool}{f:LL->LL}{K:W.Frag}{F:Hp}{vs:List V}{g:List T}{A:List T->Prop}{B:Addr->Option Int->Prop}(r:gN K F vs g)(q:(lR b f g).res A B) :
  ∃a bs rs,vs=[.ref a]/\F a=some (.lst (bs.map V.ref))/\Paired (λb r=>F b=some (.tup (r.map V.int))) bs rs/\yH b rs=true/\A ((f rs).map zH):=by
 unfold lR at q;split at q
 .rename_i j;cases r with
  |cons h t=>
   cases t;obtain⟨a,k,rfl,i,d⟩:=h.lst_inv;cases e:mw j with
   |none=>rw[e]at q;exact q.elim
   |some rs=>
    rw[e]at q;dsimp only at q;by_cases c:yH b rs=true
    .rw[aR c]at q;rw[uu e]at d;obtain⟨bs,rfl,p⟩:=vt d;exact⟨a,bs,rs,rfl,i,p,c,q⟩
    .rw[aS c]at q;exact q.elim
 .exact q.elim
section
variable {K:W.Frag}{E:XK}{X:Cx}{e:Expr}{tr:TA}{fr:Pe->M (List T)}{pos p pos2 p2:Pos}
def E9(K:W.Frag):List V->Hp->VK->Prop:=λg H Q=>∃(p:Addr) (bs:List Addr) (f:LL) (m:Nat) (G:Addr->LI->Prop),g=[.ref p]/\ka K H p (bs.map V.ref)/\Paired G bs f/\(∀b r,G b r->H b=some (.tup (r.map V.int)))/\(∀r∈f,r.length=m)/\(m=0->f.length<2)/\f.length<64/\
  ∀(l:Addr) (d:List Addr) (c:LL),H l=none->Paired G d c->c.Perm f->c.Pairwise (λa b=>jb b a=false)->Q (.ref l) (iU H l (.lst (d.map V.ref)))
def F6:Oh K (E9 K) (lR false jO):=⟨yz _ _,λF H o u Q s r q=>by obtain⟨a,bs,m,rfl,d,j,k,q⟩:=vz r q;obtain⟨o1,o2,o3⟩:=Cv k;exact⟨a,bs,m,_,λb r=>F b=some (.tup (r.map V.int)),rfl,ka.of (s _ _ d),j,λb r h=>s _ _ h,o1,o3 rfl,o2,λl i g c n pm f=>by rw[<-ui o1 pm f]at q;exact q l _ F _ (.new' s c) c (gY s c) gE (vQ n)⟩⟩
def yT(d:X.mg "sorted" = none)(b:zx K E X [e] tr fr)(c:Gl X "sorted" :=by rfl)(g:X.K=K:=by rfl)
  (f:starEach [e] X.env=(false,eval e X.env)::starEach [] X.env:=by rfl) (a:(backTo pos (starEach [] X.env)).any (·.1)=false:=by rfl):Ck K E X (.Call (.Name "sorted" p) [e] [] pos) (HM (E9 K) tr) (zw (lR false jO) fr):=⟨tO (g▸A3) c d DL b.pa (by decide) (by decide) f a,EV F6 b.ma⟩
def QZ(K:W.Frag):List V->Hp->VK->Prop:=λg H Q=>∃(p:Addr) (bs:List Addr) (f:LL) (m:Nat) (G:Addr->LI->Prop),g=[.ref p]/\ka K H p (bs.map V.ref)/\Paired G bs f/\(∀b r,G b r->H b=some (.tup (r.map V.int)))/\(∀r∈f,r.length=m)/\f.length<64/\
  ∀(l:Addr) (d:List Addr) (c:LL),H l=none->Paired G d c->c.Nodup->(∀k,k∈c↔k∈f)->c.Pairwise (λa b=>jb b a=false)->Q (.ref l) (iU H l (.lst (d.map V.ref)))
def E2:Oh K (QZ K) (lR true λrs=>jO (Bq rs)):=⟨yz _ _,λF H o u Q s r q=>by obtain⟨a,bs,rs,rfl,d,k,m,q⟩:=vz r q;obtain⟨o1,o2,o3⟩:=Cv m;exact⟨a,bs,rs,_,λb r=>F b=some (.tup (r.map V.int)),rfl,ka.of (s _ _ d),k,λb r h=>s _ _ h,o1,o2,λl j i c n nd g f=>by rw[<-GQ o1 nd g f]at q;exact q l _ F _ (.new' s c) c (gY s c) gE (vQ n)⟩⟩
def G7{k:Nat}(d:X.calm=true)(hr:iP k X.A)(g:X.mg "sorted" = none)(a:X.mg "set" = none)(c:zx K E X [e] tr fr)(f:Gl X "sorted" :=by rfl)(b:Gl X "set" :=by rfl)(i:X.K=K:=by rfl)
  (hs:starEach [e] X.env=[(false,eval e X.env)]:=by rfl) (h:starEach [Expr.Call (.Name "set" p2) [e] [] pos2] X.env=[(false,eval (.Call (.Name "set" p2) [e] [] pos2) X.env)]:=by rfl) :
  Ck K E X (.Call (.Name "sorted" p) [.Call (.Name "set" p2) [e] [] pos2] [] pos) (QU K tr) (zw (lR true λrs=>jO (Bq rs)) fr):=⟨i▸Fw d (OC hr) f g b a c.pa hs h,EV (r:=QZ K) E2 c.ma⟩
end
end L3
namespace CL
open PySem L2 L3
structure Cs where
 Cutting:Addr
 Desk:Addr
 CutError:Addr
 NoCutting:Addr
 NoTable:Addr
 NoFraction:Addr
 NoSpot:Addr
 NoSigns:Addr
 NoLand:Addr
 NoFace:Addr
 NoNumber:Addr
 NoText:Addr
 NoDeed:Addr
def pP(c:Cs):En->O:=(gQ (setO 2 (jE (gO tJ (gq 0) (gq 1))))
  (gQ (setO 0 (jE (gq 1)))
  (setO 1 (jE (gq 2)))))
def rz(c:Cs):En->O:=(gQ (λa=>ly (ji (gO (ie true) (gq 1) (cM (.int 0)))) (pP c) ((λa=>match a with|_::some (.p (.int j))::_=>j.natAbs+1|_=>0) a) a)
  (i7 (j0 ug (gj (gq 0) gy))))
def iZ(c:Cs):List T->M T:=m9 2 3 (rz c)
def mn(c:Cs):En->O:=(gQ (nq (ji (gO PR (gq 1) (j0 lj (gj (gq 0) gy)))) (i7 (gO ls (gq 0) (gq 1))) iR)
  (i7 (cM (.int 0))))
def gW(c:Cs):List T->M T:=m9 2 2 (mn c)
def zW(c:Cs):En->O:=(i7 (H9 (xf "int" (gq 0)) (yo (xf "bool" (gq 0)))))
def jU(c:Cs):List T->M T:=m9 1 1 (zW c)
def Ds(c:Cs):En->O:=(gQ (nq (ji (gO NM (gq 0) (cM (.int 0)))) (i7 (cM (.int 1))) iR)
  (gQ (nq (ji (gO PR (gq 0) (cM (.int 0)))) (i7 (nU (λi=>.int (-i)) (cM (.int 1)))) iR)
  (i7 (cM (.int 0)))))
def jG(c:Cs):List T->M T:=m9 1 1 (Ds c)
def Dt(c:Cs):En->O:=(i7 (H9 (gF (gj (gq 0) gy) (jU c)) (QO PF PF (cM (.int 1)) (gq 0) (cM (.int 3)))))
def lE(c:Cs):List T->M T:=m9 1 1 (Dt c)
def qP(c:Cs):Pe->M T:=(gF (gj (gq 0) gy) (jU c))
def qN(c:Cs):Pe->M T:=(gO (ie true) (gq 0) (cM (.int 0)))
def ES(c:Cs):En->O:=(gQ (nq (zN (qw (ji (xf "tuple" (gq 1)))) (ji (gO (ie true) (j0 lj (gj (gq 1) gy)) (gO iH (gq 0) (cM (.int 1)))))) (i7 (cM (.bl false))) iR)
  (gQ (nq (qw (ji (j0 C8 (gj (i9 (jL [none] (iG (gq 1)) (jq 0) (λ_=>.ok true) (qP c))) gy)))) (i7 (cM (.bl false))) iR)
  (i7 (j0 sD (gj (i9 (jL [none] (iG (i0 (gq 1) (λ_=>.ok none) (ia (gq 0)))) (jq 0) (λ_=>.ok true) (qN c))) gy)))))
def mO(c:Cs):List T->M T:=m9 2 2 (ES c)
def nQ(c:Cs):En->O:=(setO 1 (jE (gO iH (gq 1) (cM (.int 1)))))
def vf(c:Cs):En->O:=(gQ (setO 1 (jE (cM (.int 0))))
  (gQ (λa=>ly (ji (gO (ie false) (gO ls (gq 0) (gq 1)) (cM (.int 0)))) (nQ c) ((λa=>match a with|some (.p (.tup ts))::_=>ts.length+1|_=>0) a) a)
  (i7 (gq 1))))
def j4(c:Cs):List T->M T:=m9 1 2 (vf c)
def om(c:Cs):Pe->M T:=(gO (ie false) (gO jY (gq 0) (gO ls (gq 2) (gq 3))) (gO jY (gq 1) (gO ls (gq 4) (gq 3))))
def w9(c:Cs):En->O:=(gQ (setO 2 (jE (gF (gj (gq 0) gy) (j4 c))))
  (i7 (j0 C8 (gj (i9 (jL [none,none,some 1,some 2,some 0] (ng (gj (gq 0) (gj (gq 1) gy))) (mU 2 (iL (jq 0) (iL (jq 1) mW))) (λ_=>.ok true) (om c))) gy))))
def kh(c:Cs):List T->M T:=m9 2 3 (w9 c)
def mR(c:Cs):Pe->M T:=(gF (gj (gq 0) (gj (gq 1) gy)) (kh c))
def yG(c:Cs):En->O:=(gQ (nq (zN (ji (gO Oz (j0 lj (gj (gq 1) gy)) (cM (.int 7)))) (qw (ji (gF (gj (gq 0) (gj (gq 2) gy)) (mO c))))) (i7 (cM (.bl false))) iR)
  (i7 (yo (j0 sD (gj (i9 (jL [none,some 2] (iG (gq 1)) (jq 0) (λ_=>.ok true) (mR c))) gy)))))
def kc(c:Cs):List T->M T:=m9 3 3 (yG c)
def m8(c:Cs):En->O:=(gQ (nq (qw (ji (gF (gj (gq 0) (gj (gq 2) (gj (gq 3) gy))) (kc c)))) (λ_=>.bad) iR)
  (tW 2 (jE (j0 jM (gj (gq 3) gy)))))
def tT(c:Cs):En->O:=(gQ (nq (zN (qw (ji (gF (gj (gq 0) gy) (lE c)))) (qw (ji (xf "list" (gq 1))))) (λ_=>.bad) iR)
  (gQ (nN 2 (pY (lstM gy)))
  (gQ (uy (iG (gq 1)) (nj 3) (m8 c))
  (i7 (j0 jM (gj (gq 2) gy))))))
def jr(c:Cs):List T->M T:=m9 2 4 (tT c)
def gM(c:Cs):List T->M T:=vP c.Cutting 2 "own_cuts" "own_dims" (gF (gj (gq 1) (gj (gq 2) gy)) (jr c)) (gq 1)
def uf(c:Cs):En->O:=(i7 (Bj c.Cutting "own_dims" (gq 0)))
def js(c:Cs):List T->M T:=m9 1 1 (uf c)
def tF(c:Cs):En->O:=(pZ (zw rj (gj (Bj c.Cutting "own_cuts" (gq 0)) gy)))
def jy(c:Cs):List T->M (List T):=zP 1 1 (tF c)
def zf(c:Cs):En->O:=(setO 3 (jE (gO oq (gq 3) (gq 2))))
def A4(c:Cs):En->O:=(gQ (nq (ji (gO Oz (gq 0) (gO r6 (cM (.int 10)) (cM (.int 18))))) (gQ (setO 3 (jE (gq 0)))
  (gQ (nE (kL (gj (gq 1) gy)) (nj 4) (zf c))
  (i7 (gO tJ (gq 3) (gq 2))))) iR)
  (gQ (setO 5 (jE (gO tJ (gO jY (gO iH (gO iH (gO tJ (gq 0) (cM (.int 1000000007))) (gO jY (cM (.int 1009)) (gq 1))) (cM (.int 17))) (cM (.int 69621))) (cM (.int 2147483647)))))
  (gQ (setO 5 (jE (gO tJ (gO iH (gO iH (gO jY (gq 5) (gq 5)) (gO jY (cM (.int 40503)) (gq 1))) (cM (.int 5))) (cM (.int 2147483629)))))
  (i7 (gO tJ (gO oq (gO tJ (gO jY (gq 5) (cM (.int 48271))) (cM (.int 2147483647))) (cM (.int 32))) (gq 2))))))
def gK(c:Cs):List T->M T:=m9 3 6 (A4 c)
def rO(c:Cs):En->O:=(nq (ji (gO (ie true) (gO jY (gO ls (gq 0) (gq 2)) (gO ls (gq 1) (gq 3))) (gO jY (gO ls (gq 0) (gq 3)) (gO ls (gq 1) (gq 2))))) (i7 (cM (.bl false))) iR)
def zl(c:Cs):En->O:=(nE (kL (gj (gq 2) gy)) (nj 3) (rO c))
def Ak(c:Cs):En->O:=(gQ (nE (kL (gj (j0 lj (gj (gq 0) gy)) gy)) (nj 2) (zl c))
  (i7 (cM (.bl true))))
def j8(c:Cs):List T->M T:=m9 2 4 (Ak c)
def uQ(c:Cs):Pe->M T:=(gO yr (gF (gj (gq 1) (gj (gq 0) (gj (cM (.int 7)) gy))) (gK c)) (cM (.int 3)))
def ub(c:Cs):Pe->M T:=(gO jY (gq 0) (gq 1))
def uk(c:Cs):Pe->M T:=(gO jY (gq 0) (gq 1))
def wu(c:Cs):En->O:=(gQ (nN 3 (pY (jL [none,some 0] (kL (gj (gq 1) gy)) (jq 0) (λ_=>.ok true) (uQ c))))
  (gQ (nq (ji (gO (ie false) (gq 3) (i9 (FO (i9 (lstM (gj (cM (.int 0)) gy))) (gq 1))))) (A8 3 (sJ (gF (gj (gq 0) (gj (cM (.int 4)) (gj (gq 1) gy))) (gK c))) (sJ (gO iH (cM (.int 1)) (gF (gj (gq 0) (gj (cM (.int 5)) (gj (cM (.int 3)) gy))) (gK c))))) iR)
  (gQ (setO 4 (jE (gO yr (gF (gj (gq 0) (gj (cM (.int 6)) (gj (cM (.int 9)) gy))) (gK c)) (cM (.int 4)))))
  (gQ (setO 5 (jE (gF (gj (gq 0) (gj (cM (.int 7)) (gj (cM (.int 7)) gy))) (gK c))))
  (gQ (nq (AX (ji (gO (ie false) (gq 5) (cM (.int 1)))) (ji (gO (ie true) (gq 2) (i9 (lstM gy))))) (nN 3 (pY (zw rj (gj (i0 (gO ls (gq 2) (gF (gj (gq 0) (gj (cM (.int 8)) (gj (j0 lj (gj (gq 2) gy)) gy))) (gK c))) (λ_=>.ok none) (ia (gq 1))) gy)))) iR)
  (gQ (nq (zN (ji (gO (ie false) (gq 5) (cM (.int 2)))) (ji (gO (ie false) (gq 5) (cM (.int 3))))) (setO 4 (sJ (j0 A0 (gj (i9 (jL [none,none] (ng (gj (gq 3) (gj (i9 (lstM (gj (cM (.int 1)) (gj (cM (.int 2)) (gj (nU (λi=>.int (-i)) (cM (.int 1))) gy))))) gy))) (mU 2 (iL (jq 0) (iL (jq 1) mW))) (λ_=>.ok true) (ub c))) gy)))) iR)
  (gQ (nq (ji (gO (ie false) (gq 5) (cM (.int 4)))) (gQ (setO 6 (jE (gO jY (gO iH (cM (.int 1)) (gF (gj (gq 0) (gj (cM (.int 9)) (gj (gO r6 (cM (.int 10)) (cM (.int 6))) gy))) (gK c))) (gO ls (i9 (lstM (gj (cM (.int 1)) (gj (cM (.int 1)) (gj (gO r6 (cM (.int 10)) (cM (.int 18))) gy))))) (gF (gj (gq 0) (gj (cM (.int 11)) (gj (cM (.int 3)) gy))) (gK c))))))
  (gQ (nN 3 (El (jL [none,some 6] (iG (gq 3)) (jq 0) (λ_=>.ok true) (uk c))))
  (setO 4 (jE (gO iH (gO jY (gq 4) (gq 6)) (gF (gj (gq 0) (gj (cM (.int 10)) (gj (cM (.int 7)) gy))) (gK c))))))) iR)
  (i7 (j0 jM (gj (i9 (EE (gq 3) (i9 (lstM (gj (gq 4) gy))))) gy))))))))))
def lD(c:Cs):List T->M T:=m9 3 7 (wu c)
def nu(c:Cs):Pe->M T:=(gq 0)
def rT(c:Cs):En->O:=(gQ (setO 6 (sJ (gF (gj (gF (gj (gq 0) (gj (gO iH (gq 1) (gq 5)) gy)) (gW c)) (gj (gq 2) (gj (gq 4) gy))) (lD c))))
  (nq (ji (gO (ie false) (i9 (jL [none,some 6] (iG (gq 4)) (jq 0) (ji (gF (gj (gq 1) (gj (gq 0) gy)) (j8 c))) (nu c))) (i9 (lstM gy)))) (tW 4 (jE (gq 6))) iR))
def zR(c:Cs):En->O:=(gQ (nN 4 (pY (lstM gy)))
  (gQ (nE (kL (gj (gq 3) gy)) (nj 5) (rT c))
  (nX 4)))
def kM(c:Cs):List T->M (List T):=zP 4 7 (zR c)
def EJ(c:Cs):Pe->M T:=(gO jY (gq 0) (gq 1))
def OP(c:Cs):En->O:=(i7 (j0 A0 (gj (i9 (jL [none,none] (ng (gj (gq 0) (gj (gq 1) gy))) (mU 2 (iL (jq 0) (iL (jq 1) mW))) (λ_=>.ok true) (EJ c))) gy)))
def p9(c:Cs):List T->M T:=m9 2 2 (OP c)
def wz(c:Cs):En->O:=(gQ (setO 1 (jE (gF (gj (gq 1) (gj (gq 2) gy)) (iZ c))))
  (nq (ji (gO (ie false) (gq 1) (cM (.int 1)))) (i7 (gq 0)) iR))
def DU(c:Cs):Pe->M T:=(gO oq (gq 0) (gq 1))
def EF(c:Cs):En->O:=(gQ (setO 1 (jE (cM (.int 0))))
  (gQ (uy (iG (gq 0)) (nj 2) (wz c))
  (gQ (nq (ji (gO (ie false) (gq 1) (cM (.int 0)))) (i7 (gq 0)) iR)
  (i7 (j0 jM (gj (i9 (jL [none,some 1] (iG (gq 0)) (jq 0) (λ_=>.ok true) (DU c))) gy))))))
def kj(c:Cs):List T->M T:=m9 1 3 (EF c)
def Ap(c:Cs):Pe->M T:=(gO iH (gO jY (gq 2) (gq 0)) (gO jY (gq 3) (gq 1)))
def Dg(c:Cs):En->O:=(gQ (nq (ji (gO (ie false) (gO ls (gq 0) (gq 2)) (cM (.int 0)))) (i7 (gq 0)) iR)
  (gQ (setO 3 (jE (j0 ug (gj (gO ls (gq 1) (gq 2)) gy))))
  (gQ (setO 4 (jE (gO jY (nU (λi=>.int (-i)) (gO ls (gq 0) (gq 2))) (gF (gj (gO ls (gq 1) (gq 2)) gy) (jG c)))))
  (i7 (gF (gj (j0 jM (gj (i9 (jL [none,none,some 3,some 4] (ng (gj (gq 0) (gj (gq 1) gy))) (mU 2 (iL (jq 0) (iL (jq 1) mW))) (λ_=>.ok true) (Ap c))) gy)) gy) (kj c))))))
def kS(c:Cs):List T->M T:=m9 3 5 (Dg c)
def DT(c:Cs):En->O:=(i7 (gO yr (gF (gj (i0 (gq 0) (λ_=>.ok none) (ia (nU (λi=>.int (-i)) (cM (.int 1))))) (gj (i0 (gq 1) (λ_=>.ok none) (ia (nU (λi=>.int (-i)) (cM (.int 1))))) gy)) (p9 c)) (gO jY (gO ls (gq 0) (nU (λi=>.int (-i)) (cM (.int 1)))) (gO ls (gq 1) (nU (λi=>.int (-i)) (cM (.int 1)))))))
def ju(c:Cs):List T->M T:=m9 2 2 (DT c)
def qq(c:Cs):En->O:=(gQ (setO 6 (jE (j0 ug (gj (gF (gj (i0 (gq 5) (λ_=>.ok none) (ia (nU (λi=>.int (-i)) (cM (.int 1))))) (gj (i0 (gq 1) (λ_=>.ok none) (ia (nU (λi=>.int (-i)) (cM (.int 1))))) gy)) (p9 c)) gy))))
  (setO 4 (jE (j0 wt (gj (gq 4) (gj (gO iH (gO oq (gq 6) (j0 ug (gj (gF (gj (gq 5) (gj (gq 2) gy)) (ju c)) gy))) (cM (.int 1))) gy))))))
def pV(c:Cs):Pe->M T:=(gO iH (gO jY (gq 2) (gq 0)) (gO jY (gq 3) (gq 1)))
def yM(c:Cs):En->O:=(gQ (setO 4 (jE (cM (.int 1))))
  (gQ (uy (iG (gq 0)) (nj 5) (qq c))
  (gQ (setO 7 (jE (i9 (jL [none,none,some 4,some 3] (ng (gj (i0 (gq 2) (λ_=>.ok none) (ia (nU (λi=>.int (-i)) (cM (.int 1))))) (gj (i0 (gq 1) (λ_=>.ok none) (ia (nU (λi=>.int (-i)) (cM (.int 1))))) gy))) (mU 2 (iL (jq 0) (iL (jq 1) mW))) (λ_=>.ok true) (pV c)))))
  (i7 (gF (gj (gO iH (j0 jM (gj (gq 7) gy)) (lW (gj (gO jY (gq 4) (gO ls (gq 2) (nU (λi=>.int (-i)) (cM (.int 1))))) gy))) gy) (kj c))))))
def jA(c:Cs):List T->M T:=m9 4 8 (yM c)
def r9(c:Cs):En->O:=(i7 (gO iH (i0 (gq 0) (λ_=>.ok none) (ia (gq 1))) (i0 (gq 0) (ia (gO iH (gq 1) (cM (.int 1)))) (λ_=>.ok none))))
def iC(c:Cs):List T->M T:=m9 2 2 (r9 c)
def rV(c:Cs):Pe->M T:=(gO jY (gq 1) (gq 0))
def zU(c:Cs):En->O:=(gQ (setO 3 (jE (j0 ug (gj (gO ls (gq 0) (gq 1)) gy))))
  (gQ (setO 4 (jE (gO jY (nU (λi=>.int (-i)) (gF (gj (gO ls (gq 0) (gq 1)) gy) (jG c))) (gF (gj (gF (gj (gq 0) (gj (gq 1) gy)) (iC c)) (gj (gq 2) gy)) (ju c)))))
  (gQ (setO 5 (jE (j0 jM (gj (i9 (jL [none,some 3] (iG (gq 2)) (jq 0) (λ_=>.ok true) (rV c))) gy))))
  (i7 (gF (gj (gO iH (gO iH (i0 (gq 5) (λ_=>.ok none) (ia (gq 1))) (lW (gj (gq 4) gy))) (i0 (gq 5) (ia (gq 1)) (λ_=>.ok none))) gy) (kj c))))))
def j9(c:Cs):List T->M T:=m9 3 6 (zU c)
def pK(c:Cs)(a:List T->M T):Pe->M T:=(gq 0)
def pE(c:Cs)(a:List T->M T):Pe->M T:=(gF (gj (gF (gj (gq 0) (gj (gq 2) (gj (gq 1) gy))) (kS c)) (gj (gq 1) gy)) (iC c))
def p6(c:Cs)(a:List T->M T):Pe->M T:=(yo (j0 sD (gj (gq 0) gy)))
def xn(c:Cs)(a:List T->M T):Pe->M T:=(lW (gj (gq 0) (gj (gF (gj (gq 2) (gj (gq 3) (gj (gq 1) gy))) (j9 c)) gy)))
def yh(c:Cs)(a:List T->M T):En->O:=(gQ (setO 2 (jE (i9 (jL [none,none] (oE (gj (i0 (gq 1) (λ_=>.ok none) (ia (nU (λi=>.int (-i)) (cM (.int 1))))) gy)) (mU 2 (iL (jq 0) (iL (jq 1) mW))) (ji (gO (ie true) (gq 1) (cM (.int 0)))) (pK c a)))))
  (gQ (nq (ji (gO (ie false) (gq 2) (i9 (lstM gy)))) (pZ (lstM gy)) iR)
  (gQ (setO 3 (jE (gO ls (gq 2) (cM (.int 0)))))
  (gQ (setO 4 (jE (i9 (jL [none,some 3,some 1] (iG (gq 0)) (jq 0) (λ_=>.ok true) (pE c a)))))
  (gQ (nq (ji (j0 sD (gj (i9 (jL [none] (iG (gq 4)) (jq 0) (λ_=>.ok true) (p6 c a))) gy))) (pZ (lstM gy)) iR)
  (pZ (jL [none,none,some 1,some 3] (iG (gF (gj (gq 4) (gj (gO yr (j0 lj (gj (gq 1) gy)) (cM (.int 2))) gy)) a)) (mU 2 (iL (jq 0) (iL (jq 1) mW))) (λ_=>.ok true) (xn c a))))))))
def jS(c:Cs)(a:List T->M T):List T->M (List T):=zP 2 5 (yh c a)
def kR(c:Cs)(a:List T->M T):En->O:=(tW 4 (jE (lW (gj (gO iH (gq 5) (lW (gj (gq 7) gy))) (gj (gF (gj (gq 1) (gj (gq 2) (gj (gO FK (gq 3) (gq 5)) (gj (gq 7) gy)))) (jA c)) gy)))))
def mE(c:Cs)(a:List T->M T):En->O:=(nq (ji (gO (Bh false) (gq 5) (gq 3))) (uy (iG (lW (gj (nU (λi=>.int (-i)) (cM (.int 1))) (gj (cM (.int 1)) gy)))) (nj 7) (kR c a)) (tW 4 (jE (lW (gj (gO iH (gq 5) (lW (gj (gF (gj (gF (gj (gq 2) (gj (gq 6) gy)) (ju c)) gy) (jG c)) gy))) (gj (gq 6) gy))))))
def sA(c:Cs)(a:List T->M T):En->O:=(gQ (setO 3 (jE (j0 zj (gj (i9 (iz (gj (gq 1) (gj (gq 2) gy)) (jS c a))) gy))))
  (gQ (nN 4 (pY (lstM gy)))
  (gQ (uy (iG (gq 0)) (sZ 2 (lx (nj 5) (lx (nj 6) uP))) (mE c a))
  (nX 4))))
def jF(c:Cs)(a:List T->M T):List T->M (List T):=zP 3 8 (sA c a)
def yO(c:Cs)(a:List T->M T):En->O:=(setO 2 (jE (i9 (iz (gj (gq 2) (gj (i0 (gq 0) (λ_=>.ok none) (ia (gq 3))) (gj (gq 4) gy))) (jF c a)))))
def IX(c:Cs)(a:List T->M T):En->O:=(gQ (setO 2 (jE (i9 (lstM (gj (lW (gj (lW gy) (gj (gO iH (EA (lW (gj (cM (.int 0)) gy)) (gq 1)) (lW (gj (cM (.int 1)) gy))) gy))) gy)))))
  (gQ (uy (oE (gj (gq 0) gy)) (sZ 2 (lx (nj 3) (lx (nj 4) uP))) (yO c a))
  (i7 (gq 2))))
def j7(c:Cs):Nat->List T->M T
 |0=>λ_=>.bad
 |k+1=>m9 2 5 (IX c (j7 c k))
def uU(c:Cs):En->O:=(gQ (setO 3 (jE (gF (gj (gq 0) (gj (gq 1) gy)) (gW c))))
  (gQ (setO 4 (jE (gO iH (cM (.int 1)) (gF (gj (gq 3) (gj (cM (.int 0)) (gj (cM (.int 3)) gy))) (gK c)))))
  (gQ (setO 5 (jE (gF (gj (gq 3) (gj (cM (.int 1)) (gj (gO iH (gq 2) (cM (.int 1))) gy))) (gK c))))
  (gQ (nq (ji (gO (ie false) (gq 4) (cM (.int 3)))) (setO 5 (jE (j0 ou (gj (gq 5) (gj (cM (.int 5)) gy))))) iR)
  (i7 (lW (gj (gq 4) (gj (i9 (iz (gj (gq 0) (gj (gO iH (gq 1) (cM (.int 1))) (gj (gq 4) (gj (gq 5) gy)))) (kM c))) gy))))))))
def vg(c:Cs):List T->M T:=m9 3 6 (uU c)
def FP(c:Cs):Pe->M T:=(gq 0)
def Jz(c:Cs):En->O:=(pZ (jL [none,none] (iG (gF (gj (i9 (uF c.Cutting "cuts" (gq 0) gy (jy c))) (gj (yX c.Cutting "dims" (gq 0) gy (js c)) gy)) (j7 c 5))) (mU 2 (iL (jq 0) (iL (jq 1) mW))) (λ_=>.ok true) (FP c)))
def jf(c:Cs):List T->M (List T):=zP 1 1 (Jz c)
def uV(c:Cs):En->O:=(gQ (setO 3 (jE (gF (gj (gq 0) (gj (gq 1) gy)) (gW c))))
  (gQ (setO 4 (jE (gO iH (cM (.int 1)) (gF (gj (gq 3) (gj (cM (.int 0)) (gj (cM (.int 3)) gy))) (gK c)))))
  (gQ (setO 5 (jE (gF (gj (gq 3) (gj (cM (.int 1)) (gj (gO iH (gq 2) (cM (.int 1))) gy))) (gK c))))
  (gQ (nq (ji (gO (ie false) (gq 4) (cM (.int 3)))) (setO 5 (jE (j0 ou (gj (gq 5) (gj (cM (.int 5)) gy))))) iR)
  (i7 (lW (gj (gq 4) (gj (i9 (iz (gj (gq 0) (gj (gO iH (gq 1) (cM (.int 1))) (gj (gq 4) (gj (gq 5) gy)))) (kM c))) gy))))))))
def j6(c:Cs):List T->M T:=m9 3 6 (uV c)
def pA(c:Cs):En->O:=(vC 3 2 (sJ (gF (gj (gq 0) (gj (gq 4) (gj (j0 lj (gj (gq 2) gy)) gy))) (gK c))))
def yd(c:Cs):En->O:=(gQ (nN 2 (pY (Qu (gj (gq 1) gy))))
  (gQ (nN 3 (pY (lstM gy)))
  (gQ (nE (kL (gj (gq 1) gy)) (nj 4) (pA c))
  (nX 3))))
def ke(c:Cs):List T->M (List T):=zP 2 5 (yd c)
def zM(c:Cs):En->O:=(gQ (setO 2 (jE (gO iH (gq 2) (gq 3))))
  (setO 3 (jE (gO oq (gO jY (gq 3) (gO yr (gq 0) (gq 4))) (gO iH (gq 4) (cM (.int 1)))))))
def AL(c:Cs):En->O:=(gQ (setO 2 (jE (cM (.int 0))))
  (gQ (setO 3 (jE (cM (.int 1))))
  (gQ (nE (kL (gj (gO iH (gq 1) (cM (.int 1))) gy)) (nj 4) (zM c))
  (i7 (gq 2)))))
def kX(c:Cs):List T->M T:=m9 2 5 (AL c)
def vy(c:Cs):Pe->M T:=(gO ls (gq 1) (gq 0))
def qF(c:Cs):Pe->M T:=(j0 jM (gj (i9 (jL [none,some 0] (iG (gq 1)) (jq 0) (λ_=>.ok true) (vy c))) gy))
def qU(c:Cs):Pe->M T:=(gO ls (gq 1) (gq 0))
def vn(c:Cs):Pe->M T:=(gO ls (i9 (lstM (gj (cM (.int 1)) (gj (nU (λi=>.int (-i)) (cM (.int 1))) (gj (cM (.int 3)) (gj (nU (λi=>.int (-i)) (cM (.int 2))) gy)))))) (gF (gj (gF (gj (gq 1) (gj (cM (.int 9)) gy)) (gW c)) (gj (gq 0) (gj (cM (.int 4)) gy))) (gK c)))
def vW(c:Cs):Pe->M T:=(gO jY (gO ls (gq 1) (gq 2)) (gq 0))
def wj(c:Cs):Pe->M T:=(j0 jM (gj (i9 (jL [none,some 1,some 0] (iG (gO ls (gq 2) (gq 0))) (jq 0) (λ_=>.ok true) (vW c))) gy))
def qC(c:Cs):Pe->M T:=(QF (ji (gO NM (gq 0) (cM (.int 0)))) (cM (.int 1)) (nU (λi=>.int (-i)) (cM (.int 1))))
def vm(c:Cs):Pe->M T:=(gO jY (gq 0) (gq 1))
def pk(c:Cs):Pe->M T:=(j0 jM (gj (i9 (jL [none,none] (ng (gj (gq 0) (gj (gq 1) gy))) (mU 2 (iL (jq 0) (iL (jq 1) mW))) (λ_=>.ok true) (vm c))) gy))
def sY(c:Cs):Pe->M T:=(gO yr (gF (gj (gF (gj (gq 1) (gj (cM (.int 10)) gy)) (gW c)) (gj (gq 0) (gj (cM (.int 19)) gy))) (gK c)) (cM (.int 9)))
def uH(c:Cs):Pe->M T:=(gO jY (gq 0) (gq 1))
def vI(c:Cs):En->O:=(gQ (setO 12 (jE (j0 A0 (gj (i9 (jL [none,none] (ng (gj (gq 11) (gj (gq 9) gy))) (mU 2 (iL (jq 0) (iL (jq 1) mW))) (λ_=>.ok true) (uH c))) gy))))
  (tW 10 (jE (gO iH (i0 (gq 11) (λ_=>.ok none) (ia (gq 1))) (lW (gj (gO iH (gO ls (gq 11) (gq 1)) (gq 12)) gy))))))
def uM(c:Cs):Pe->M T:=(gO iH (gO P5 (i0 (gq 0) (λ_=>.ok none) (ia (gq 1))) (nU (λi=>.int (-i)) (cM (.int 1)))) (i0 (gq 0) (ia (gq 1)) (λ_=>.ok none)))
def oW(c:Cs):Pe->M T:=(gO iH (i0 (gq 0) (λ_=>.ok none) (ia (gq 1))) (i0 (gq 0) (ia (gO iH (gq 1) (cM (.int 1)))) (λ_=>.ok none)))
def vN(c:Cs):En->O:=(gQ (setO 15 (jE (i9 (zw (lR true λa=>jO (Bq a)) (gj (i9 (jL [none,some 14] (iG (gq 3)) (jq 0) (λ_=>.ok true) (oW c))) gy)))))
  (nq (ji (gO (ie true) (i9 (iz (gj (gF (gj (gq 1) (gj (gO iH (i0 (gq 2) (λ_=>.ok none) (ia (gq 14))) (i0 (gq 2) (ia (gO iH (gq 14) (cM (.int 1)))) (λ_=>.ok none))) gy)) (gM c)) gy) (jf c))) (gq 15))) (i7 (cM (.bl false))) iR))
def Em(c:Cs):En->O:=(gQ (ED (gF (gj (gq 0) (gj (cM (.int 0)) (gj (cM (.int 6)) gy))) (j6 c)) (sZ 2 (lx (nj 1) (lx (nj 2) uP))))
  (gQ (setO 3 (jE (i9 (iz (gj (gF (gj (gq 1) (gj (gq 2) gy)) (gM c)) gy) (jf c)))))
  (gQ (nq (ji (gO NM (j0 lj (gj (gq 3) gy)) (gF (gj (j0 lj (gj (gq 2) gy)) (gj (gq 1) gy)) (kX c)))) (i7 (cM (.bl false))) iR)
  (gQ (setO 4 (jE (i9 (iz (gj (gF (gj (gq 0) (gj (cM (.int 8)) gy)) (gW c)) (gj (j0 lj (gj (gq 2) gy)) gy)) (ke c)))))
  (gQ (setO 5 (jE (i9 (zw (lR false jO) (gj (i9 (jL [none,some 4] (iG (gq 3)) (jq 0) (λ_=>.ok true) (qF c))) gy)))))
  (gQ (nq (ji (gO (ie true) (i9 (iz (gj (gF (gj (gq 1) (gj (i9 (jL [none,some 2] (iG (gq 4)) (jq 0) (λ_=>.ok true) (qU c))) gy)) (gM c)) gy) (jf c))) (gq 5))) (i7 (cM (.bl false))) iR)
  (gQ (setO 6 (jE (i9 (jL [none,some 0] (kL (gj (j0 lj (gj (gq 2) gy)) gy)) (jq 0) (λ_=>.ok true) (vn c)))))
  (gQ (setO 7 (jE (i9 (jL [none,some 6,some 2] (kL (gj (j0 lj (gj (gq 2) gy)) gy)) (jq 0) (λ_=>.ok true) (wj c)))))
  (gQ (setO 8 (jE (i9 (jL [none] (iG (gq 6)) (jq 0) (λ_=>.ok true) (qC c)))))
  (gQ (setO 5 (jE (i9 (zw (lR false jO) (gj (i9 (jL [none,some 8] (iG (gq 3)) (jq 0) (λ_=>.ok true) (pk c))) gy)))))
  (gQ (nq (ji (gO (ie true) (i9 (iz (gj (gF (gj (gq 1) (gj (gq 7) gy)) (gM c)) gy) (jf c))) (gq 5))) (i7 (cM (.bl false))) iR)
  (gQ (setO 9 (jE (i9 (jL [none,some 0] (kL (gj (gq 1) gy)) (jq 0) (λ_=>.ok true) (sY c)))))
  (gQ (nN 10 (pY (lstM gy)))
  (gQ (uy (iG (gq 2)) (nj 11) (vI c))
  (gQ (setO 13 (jE (i9 (jL [none,some 1] (iG (gq 2)) (jq 0) (λ_=>.ok true) (uM c)))))
  (gQ (nq (zN (ji (gO (ie true) (i9 (iz (gj (gF (gj (gq 1) (gj (gq 10) gy)) (gM c)) gy) (jf c))) (gq 3))) (ji (gO (ie true) (i9 (iz (gj (gF (gj (gq 1) (gj (gq 13) gy)) (gM c)) gy) (jf c))) (gq 3)))) (i7 (cM (.bl false))) iR)
  (gQ (nE (kL (gj (j0 lj (gj (gq 2) gy)) gy)) (nj 14) (vN c))
  (i7 (cM (.bl true))))))))))))))))))))
def qk(c:Cs):List T->M T:=m9 1 16 (Em c)
variable {c:Cs}
def lO ns (k:Nat):∃v,gW c [.scr ns,.int k]=.ok (.int v)/\(v=0\/v∈ns):=by
 by_cases h:(k:Int)<ns.length
 .obtain⟨a,e,b⟩:=AV ns k (by omega) h;exact⟨a,by simp[gW,mn,h,e],.inr b⟩
 .exact⟨0,by simp[gW,mn,h],.inl rfl⟩
def jv(h:i.natAbs<2 ^ 64):jY (.int i) (.int j)=.ok (.int (i*j)):=jn (DB h)
def IB cell (k:Nat) b (A:0<b) (D:b<2 ^ 62) (J:k<=1000000):∃d,gK c [.int cell,.int (k:Int),.int b]=.ok (.int d)/\0<=d/\d<b:=by
 have f:b≠0:=by omega
 have B:∀x:Int,0<=x.fmod b/\x.fmod b<b:=λx=>⟨dU x A,dW x A⟩;have l:r6 (.int 10) (.int 18)=.ok (.int 1000000000000000000):=by simp[r6,j3]
 by_cases h:(1000000000000000000:Int)<=cell
 .obtain⟨q,e,v,w,rfl⟩:=jX (m:=nj 4) (g:=setO 3 (jE (gO oq (gq 3) (gq 2)))) (λ(i:Nat)=>T.int (i:Int)) (λ_ q=>∃v w,q=[some (.p (.int cell)),some (.p (.int k)),some (.p (.int b)),some (.p (.int v)),w,none])
   (List.range k) 0 [some (.p (.int cell)),some (.p (.int k)),some (.p (.int b)),some (.p (.int cell)),none,none] ⟨_,_,rfl⟩ (by rintro i a q I ⟨v,w,rfl⟩;have F:Builtin.divisionGoesByPylong v b=false:=Bn.noPy (n:=62) (by unfold Bn;omega) (by decide);exact⟨_,_,rfl,.inl (gU (by simp[qp f F];rfl) rfl),_,_,rfl⟩)
  refine⟨v.fmod b,iN rfl ?_,B v⟩;have u:DN (k:Int)=true:=n5 (by omega);refine mr (jC (by simp[l,h]) (gB (gU (by simp) rfl) (gB (lZ (by simp[u,Pn]) e) (ig (by simp[pG f]))))) rfl
 .have s:∀x y:Int,0<y->0<=x.fmod y/\x.fmod y<y:=λx y z=>⟨dU x z,dW x z⟩;have K:=s cell 1000000007 (by decide);have H:=s ((cell.fmod 1000000007+1009*k+17)*69621) 2147483647 (by decide);generalize o:((cell.fmod 1000000007+1009*k+17)*69621).fmod 2147483647=s1 at H;have E:=s (s1*s1+40503*k+5) 2147483629 (by decide);generalize r:(s1*s1+40503*k+5).fmod 2147483629=s2 at E;have C:Builtin.divisionGoesByPylong ((s2*48271).fmod 2147483647) 32=false:=Bn.noPy (n:=62) (by unfold Bn;decide) (by decide);refine⟨(((s2*48271).fmod 2147483647).fdiv 32).fmod b,iN rfl ?_,B _⟩;refine gB (iS (by simp[l,h]) rfl) (gB (gU (t:=.int s1) ?_ rfl) (gB (gU (t:=.int s2) ?_ rfl) (ig ?_)))
  .rw[<-o];simp[pG,jv (i:=1009) (j:=k) (by decide),jv (i:=cell.fmod 1000000007+1009*k+17) (j:=69621) (by omega)]
  .rw[<-r];simp[pG,jv (i:=40503) (j:=k) (by decide),jv (i:=s1) (j:=s1) (by omega)]
  .simp[pG,f,qp (j:=32) (by decide) C,jv (i:=s2) (j:=48271) (by omega)]
def dr(c:Cs)(a k b:Int):Int:=match gK c [.int a,.int k,.int b] with
 |.ok (.int d)=>d
 |_=>0
def je cell k b (h:0<b) (a:b<2 ^ 62) (i:0<=k) (j:k<=1000000):gK c [.int cell,.int k,.int b]=.ok (.int (dr c cell k b))/\0<=dr c cell k b/\dr c cell k b<b:=by
 obtain⟨d,e,f,g⟩:=IB cell k.toNat b h a (by omega);rw[cN i]at e;have:dr c cell k b=d:=by unfold dr;rw[e]
 rw[this];exact⟨e,f,g⟩
def BR(l:LI)(i:Int)(f:0<=i)(b:i<l.length):∃w,ls (.lst (l.map T.int)) (.int i)=.ok (.int w)/\w∈l:=by obtain⟨a,e,d⟩:=AV l i f b;exact⟨a,by simp[pI,e],d⟩
def OU i:(if i<0 then -i else i)=(i.natAbs:Int):=by split<;>omega
def qe a b:iZ c [.int a,.int b]=.ok (.int (Cu.G a b)):=by
 obtain⟨d,e,x,w,rfl,i⟩:=pq (c:=ji (gO (ie true) (gq 1) (cM (.int 0)))) (g:=gQ (setO 2 (jE (gO tJ (gq 0) (gq 1)))) (gQ (setO 0 (jE (gq 1))) (setO 1 (jE (gq 2)))))
  (λd=>∃x y w,d=[some (.p (.int x)),some (.p (.int y)),w]/\Cu.G x y=Cu.G a b) (λd=>match d with|_::some (.p (.int j))::_=>j.natAbs|_=>0)
  (λd=>∃x w,d=[some (.p (.int x)),some (.p (.int 0)),w]/\Cu.G x 0=Cu.G a b) (by
   rintro d ⟨x,y,w,rfl,h⟩;by_cases f:y=0
   .subst f;exact .inl ⟨by simp,_,_,rfl,h⟩
   .refine .inr ⟨by simp[f],_,.inl (gB (gU (t:=.int (x.fmod y)) (by simp[pG f]) rfl) (gB (gU (by simp) rfl) (gU (by simp) rfl))),⟨y,x.fmod y,_,rfl,?_⟩,?_⟩
    .rw[<-h];exact Cu.Mr x y
    .exact Cu.DP x y f)
  (b.natAbs+1) [some (.p (.int a)),some (.p (.int b)),none] ⟨a,b,none,rfl,rfl⟩ (bM _)
 refine iN rfl (gB e (ig ?_));rw[Cu.HA]at i;simp[OU,i]
def Kd{t g:Int}(a:g ∣ t)(b:g≠0):(t.fdiv g).natAbs<=t.natAbs:=by obtain⟨k,rfl⟩:=a;rw[eJ k b,aZ];exact Nat.le_mul_of_pos_left _ (by omega)
noncomputable def NJ:T->Bool
 |.scr _=>false
 |.obj _ _=>false
 |.dic _=>false
 |_=>true
noncomputable def isInt:T->Bool
 |.int _=>true
 |_=>false
def zD x (h:NJ x=true):jU c [x]=.ok (.bl (isInt x)):=by cases x<;>first|(simp[NJ]at h;done)|rfl
def IW x (h:NJ x=true):Nf "tuple" x=.ok (.bl (pN x)):=by cases x<;>first|(simp[NJ]at h;done)|rfl
noncomputable def jP(x:Int):Int:=if 0<x then 1 else if x<0 then -1 else 0
def qG x:-1<=jP x/\jP x<=1:=by unfold jP;split<;>(try split)<;>lia
def oZ x:jG c [.int x]=.ok (.int (jP x)):=by
 unfold jP;by_cases h:0<x
 .rw[aR h];exact iN rfl (mr (jC (by simp[h]) (ig (by simp))) rfl)
 .rw[aS h];by_cases a:x<0
  .rw[aR a];exact iN rfl (gB (iS (by simp[h]) rfl) (mr (jC (by simp[a]) (ig (by simp))) rfl))
  .rw[aS a];exact iN rfl (gB (iS (by simp[h]) rfl) (gB (iS (by simp[a]) rfl) (ig (by simp))))
def wX(bs:List Bool):C8 [.lst (bs.map T.bl)]=.ok (.bl (bs.all id)):=by simp
def xg(bs:List Bool):sD [.lst (bs.map T.bl)]=.ok (.bl (bs.any id)):=by simp
noncomputable def oB(d:Nat):T->Bool
 |.tup ts=>decide (ts.length=d+1)&&ts.all isInt&&(match iW ts with|some ns=>(ns.take d).any (· != 0)|none=>false)
 |_=>false
theorem zu:∀ts,ts.all isInt=true->∃a:LI,ts=a.map T.int
 |[],_=>⟨[],rfl⟩
 |t::ts,h=>by
  rw[cB,bZ]at h;obtain⟨a,e⟩:=zu ts h.2;cases t with
  |int i=>exact⟨i::a,by rw[e];rfl⟩
  |_=>simp[isInt]at h
def CV(d:Nat)(q:d<=10) x (l:NJ x=true) (hs:∀ts,x=.tup ts->ts.length<1000/\∀t∈ts,NJ t=true):mO c [.int d,x]=.ok (.bl (oB d x)):=by
 have sz:1000<sizeLine:=by decide
 by_cases e:pN x=true
 .cases x with
  |tup ts=>
   obtain⟨p,m⟩:=hs ts rfl;by_cases g:ts.length=d+1
   .have j:jL [none] (iG (gq 1)) (jq 0) (λ_=>.ok true) (qP c) (vw (iA 2 [.int d,.tup ts]))=.ok ((ts.map isInt).map T.bl):=by rw[xu ts id (λt=>T.bl (isInt t)) (by simp) (by lia) λt e=>⟨_,rfl,rfl,by simp[qP,zD t (m t e)]⟩];simp
    have i:(L3.zN (L3.qw (ji (xf "tuple" (gq 1)))) (ji (gO (ie true) (j0 lj (gj (gq 1) gy)) (gO iH (gq 0) (cM (.int 1)))))) (vw (iA 2 [.int d,.tup ts]))=.ok false:=by simp[g]
    by_cases f:ts.all isInt=true
    .obtain⟨b,rfl⟩:=zu ts f;have h:b.length=d+1:=by simpa using g
     have a:oB d (.tup (b.map T.int))=(b.take d).any (· != 0):=by simp[oB,h,f]
     rw[a];have k:jL [none] (iG (i0 (gq 1) (λ_=>.ok none) (ia (gq 0)))) (jq 0) (λ_=>.ok true) (qN c) (vw (iA 2 [.int d,.tup (b.map T.int)]))=.ok (((b.take d).map λn=>n != 0).map T.bl):=by rw[xu (b.take d) T.int (λn=>T.bl (n != 0)) (yD (by rw[eA];exact lL rfl rfl (by simp;lia))) (by simp;lia) λn g=>⟨_,rfl,rfl,by simp[qN,bne]⟩];rw[aJ];rfl
     refine iN rfl (gB (iS i rfl) (gB (iS (A6 (iT (mF j (wX _))) ?_) rfl) (ig (mF k ?_))))
     .rw[cC];simpa using f
     .rw[xg,cE];rfl
    .have a:oB d (.tup ts)=false:=by simp[oB,f]
     rw[a];refine iN rfl (gB (iS i rfl) (mr (jC (A6 (iT (mF j (wX _))) ?_) (ig rfl)) rfl));rw[cC];simpa using f
   .have a:oB d (.tup ts)=false:=by simp[oB,g]
    rw[a];refine iN rfl (mr (jC ?_ (ig rfl)) rfl);have:¬(ts.length=(d:Int)+1):=by lia
    simp[this]
  |_=>simp[pN]at e
 .have a:oB d x=false:=by cases x<;>first|rfl|(simp[pN]at e;done)
  rw[a];refine iN rfl (mr (jC ?_ (ig rfl)) rfl);have o:pN x=false:=by simpa using e
  have:=IW x l;rw[o]at this;simp only[L3.zN,L3.qw,ji,xf,gq,vw,iA,bK,cg,eK,b9,List.getElem?_cons_succ,List.getElem?_cons_zero,Q5,M.bind_ok,this];rfl
def Mt(l:List α)(h:l≠[]):rW l (-1)=l.getLast?:=by obtain⟨m,a,rfl⟩:∃m a,l=m++[a]:=⟨l.dropLast,l.getLast h,(List.dropLast_concat_getLast h).symm⟩;rw[L2.HG];simp
def An(d:Nat)(h:1<=d/\d<=3):lE c [.int d]=.ok (.bl true):=by
 have w:jU c [.int d]=.ok (.bl true):=rfl;have a:(1:Int)<=d:=by lia
 have b:(d:Int)<=3:=by lia
 exact iN rfl (ig (by simp[w,a,b]))
def NO n:(List.replicate n [T.int 0]).flatten=(List.replicate n (0:Int)).map T.int:=by
 induction n with
 |zero=>rfl
 |succ n ih=>rw[b5,b6,ih,b5];rfl
def OT(n:Nat)(d:n<=1000)(h:f ρ=.ok (.int (n:Int))):i9 (FO (i9 (lstM (gj (cM (.int 0)) gy))) f) ρ=.ok (.lst ((List.replicate n (0:Int)).map T.int)):=by
 have sz:1000<sizeLine:=by decide
 have hr:DN n=true:=n5 (by lia);have a:1<=sizeLine:=by decide
 have b:n<=sizeLine:=by lia
 simp[h,hr,a,b,NO]
def NW(n:Nat)(d:n<=1000)(h:f ρ=.ok (.int (n:Int))):EA (lW (gj (cM (.int 0)) gy)) f ρ=.ok (.tup ((List.replicate n (0:Int)).map T.int)):=by
 have sz:1000<sizeLine:=by decide
 have hr:DN n=true:=n5 (by lia);have a:1<=sizeLine:=by decide
 have b:n<=sizeLine:=by lia
 simp[h,yP,hr,a,b,NO]
end CL
namespace L3
open PySem L2
theorem oP{n:Type} enc (P:En->Prop) p t:∀(l:List n) (ρ:En),P ρ->
  (∀a∈l,∀ρ,P ρ->∃c,m (enc a) ρ=some c/\(p a=true->∃d,g c=.nx d/\P d)/\(p a=false->g c=.rt t))->
  (l.all p=true->∃ρ',jK m g (l.map enc) ρ=.nx ρ'/\P ρ')/\(l.all p=false->jK m g (l.map enc) ρ=.rt t)
 |[],ρ,h,_=>⟨λ_=>⟨ρ,rfl,h⟩,λh=>by simp at h⟩
 |a::l,ρ,h,st=>by
  obtain⟨c,r,f,i⟩:=st a (by simp) ρ h;rw[bK,jK,r];dsimp only;cases e:p a with
  |true=>obtain⟨d,j,s⟩:=f e;rw[j];have o:=oP enc P p t l d s λb q ρ k=>st b (by simp[q]) ρ k;rw[cB,e,Bool.true_and];exact o
  |false=>rw[i e,cB,e,bD];exact⟨λz=>(by cases z),λ_=>rfl⟩
end L3
namespace CL
open PySem L2 L3
variable {c:Cs}
def yw ns:iW (ns.map T.int)=some ns:=by simp
def Bp(a:LI):A0 [.lst (a.map T.int)]=.ok (.int a.sum):=by simp
end CL
namespace L3
open PySem L2
theorem zv{o:Type} enc (P:Nat->En->Prop) (R:T->Prop):∀(l:List o) (k:Nat) (ρ:En),P k ρ->
  (∀i a ρ,l[i]? = some a->P (k+i) ρ->∃c,m (enc a) ρ=some c/\((∃d,g c=.nx d/\P (k+i+1) d)\/∃t,g c=.rt t/\R t))->
  (∃ρ',jK m g (l.map enc) ρ=.nx ρ'/\P (k+l.length) ρ')\/∃t,jK m g (l.map enc) ρ=.rt t/\R t
 |[],k,ρ,h,_=>.inl ⟨ρ,rfl,h⟩
 |a::l,k,ρ,h,st=>by
  obtain⟨c,q,j⟩:=st 0 a ρ rfl h;rw[bK,jK,q];dsimp only;rcases j with⟨d,f,e⟩|⟨t,f,e⟩
  .rw[f];rw[aA,show k+(l.length+1)=k+1+l.length by lia];exact zv enc P R l (k+1) d e λi b ρ p n=>by have:=st (i+1) b ρ (by simpa using p) (by rw[show k+(i+1)=k+1+i by lia];exact n);rw[show k+1+i+1=k+(i+1)+1 by lia];exact this
  .rw[f];exact .inr ⟨t,rfl,e⟩
end L3
namespace CL
open PySem L2 L3
variable {c:Cs}
def AY(l:List α)(k:Nat) h:rW l (k:Int)=some l[k]:=by unfold rW yx;rw[aR (by lia),aR (by lia)];simp[h]
def Jk(l:LI) k (h:k<l.length):rW l (k:Int)=some (l.getD k 0):=by rw[AY l k h,ag,ai h];rfl
def getD_mem(l:LI) k (h:k<l.length):l.getD k 0∈l:=by rw[ag,ai h];exact aW h
def ko l (k:Nat) (h:k<l.length):ls (tI l) (.int (k:Int))=.ok (.int (l.getD k 0)):=by simp[tI,pI,Jk l k h]
def Oi x xs:ls (.lst (x::xs)) (.int 0)=.ok x:=by have h:=AY (x::xs) 0 (by simp);have a:rW (x::xs) 0=some x:=h;show (match rW (x::xs) 0 with|some t=>M.ok t|none=>.bad)=_;rw[a]
def Q3 n (x:T):(List.replicate n [x]).flatten=List.replicate n x:=by
 induction n with
 |zero=>rfl
 |succ n ih=>rw[b5,b6,ih,b5];rfl
end CL
namespace CL
abbrev Vc:=Nat->Int
end CL
namespace CL
open PySem L2 L3
variable {c:Cs}
noncomputable def vc(l:LI):Vc:=λi=>l.getD i 0
def kH l i (h:l.length<=i):vc l i=0:=by unfold vc;rw[ag,List.getElem?_eq_none h];rfl
def jc l i h:vc l i=l[i]:=by unfold vc;rw[ag,ai h];rfl
def lC{a:Type}(l:List a) k v (h:l[k]? = some v):l.take (k+1)=l.take k++[v]:=by rw[cQ,h];rfl
def rF(h:f ρ=.ok (.int i)):nU (λi=>.int (-i)) f ρ=.ok (.int (-i)):=by simp only[nU,h,M.bind_ok]
def sS:Bn n 0:=by unfold Bn;exact Nat.two_pow_pos _
def qS N (F:N<=8000) row (H:row.length<1000) (o:∀x∈row,Bn N x):∃g n,0<g/\kj c [tI row]=.ok (tI n)/\n.length=row.length/\(∀i,vc row i=g*vc n i)/\∀y∈n,Bn N y:=by
 have sz:1000<sizeLine:=by decide
 have main:=zv (m:=nj 2) (g:=wz c) T.int
  (λk v=>∃(a:Int) (s:Option W),v=[some (.p (tI row)),some (.p (.int a)),s]/\0<=a/\Bn N a/\∀x∈row.take k,a ∣ x)
  (λt=>t=tI row) row 0 _ ⟨0,none,rfl,by decide,sS,λx f=>by simp at f⟩ (by
   rintro i x v d ⟨a,s,rfl,B,r,b⟩;rw[aH]at b ⊢;have u:=av d;refine⟨_,rfl,?_⟩;have w:setO 1 (jE (gF (gj (gq 1) (gj (gq 2) gy)) (iZ c))) [some (.p (tI row)),some (.p (.int a)),some (.p (.int x))]=.nx [some (.p (tI row)),some (.p (.int (Cu.G a x))),some (.p (.int x))]:=gU (kf rfl rfl (qe a x)) rfl;by_cases h:Cu.G a x=1
   .right;exact⟨_,gB w (jC (iT (gC rfl rfl (by rw[jx,h];rfl))) (ig rfl)),rfl⟩
   .left;refine⟨_,gB w (iS (iT (gC rfl rfl (by rw[jx];simp[h]))) rfl),_,_,rfl,Cu.tj _ _,?_,λz A=>?_⟩
    .by_cases l:x=0
     .rw[l,Cu.HA];exact cj (by lia) r
     .have I:=Cu.Qm a x l;have J:=Cu.tj a x;exact cj (by lia) (o x u)
    .rw[lC row i x d]at A;rcases aj.mp A with q|q
     .exact Int.dvd_trans (Cu.Aw a x) (b z q)
     .rw[ak.mp q];exact Cu.rQ a x)
 rcases main with⟨D,e,a,s,rfl,B,r,b⟩|⟨t,e,rfl⟩
 .rw[aH,eM]at b;by_cases j:a=0
  .exact⟨1,row,by decide,iN rfl (gB (gU rfl rfl) (gB (m4 rfl e) (mr (jC (iT (gC rfl rfl (by rw[jx,j];rfl))) (ig rfl)) rfl))),rfl,λi=>by rw[eN],o⟩
  .refine⟨a,row.map (λx=>x.fdiv a),by lia,iN rfl (gB (gU rfl rfl) (gB (m4 rfl e) (gB (iS (iT (gC rfl rfl (by rw[jx];simp[j]))) rfl) (ig ?_)))),by simp,λi=>?_,λy C=>?_⟩
   .exact lV (iD (iI row T.int (λx=>T.int (x.fdiv a)) rfl (by lia) (λx f=>⟨_,rfl,rfl,gC rfl rfl (qp j (r.noPy F))⟩) (by rw[aJ];rfl))) rfl
   .by_cases d:i<row.length
    .rw[jc row i d,jc _ i (by simpa using d),c7];obtain⟨q,E⟩:=b _ (aW d);rw[E,eJ q j]
    .rw[kH row i (by lia),kH _ i (by simp;lia),eO]
   .obtain⟨x,f,rfl⟩:=aE.mp C;exact cj (Kd (b x f) j) (o x f)
 .exact⟨1,row,by decide,iN rfl (gB (gU rfl rfl) (mr (m4 rfl e) rfl)),rfl,λi=>by rw[eN],o⟩
def QJ{g x:Int}(a:g≠0)(h:g*x=0):x=0:=by
 rcases eP.mp h with z|z
 .exact absurd z a
 .exact z
def qo o:jP o*o=(o.natAbs:Int):=by
 unfold jP;split
 .rw[eN];lia
 .split
  .rw[Int.neg_mul,eN];lia
  .rw[eQ];lia
noncomputable def sm:Nat->(Nat->Int)->Int
 |0,_=>0
 |n+1,f=>f 0+sm n λi=>f (i+1)
theorem iV:∀n f g,(∀i,i<n->f i=g i)->sm n f=sm n g
 |0,_,_,_=>rfl
 |n+1,f,g,h=>by rw[sm,sm,h 0 (by lia),iV n _ _ λi a=>h (i+1) (by lia)]
theorem qX a b:∀n f g,sm n (λi=>a*f i+b*g i)=a*sm n f+b*sm n g
 |0,_,_=>by simp[sm]
 |n+1,f,g=>by rw[sm,sm,sm,qX a b n (λi=>f (i+1)) λi=>g (i+1),eR,eR];lia
theorem jI a:∀n f,sm n (λi=>a*f i)=a*sm n f
 |0,_=>by simp[sm]
 |n+1,f=>by rw[sm,sm,jI a n λi=>f (i+1),eR]
theorem pQ:∀n:Nat,sm n (λ_=>0)=0
 |0=>rfl
 |n+1=>by rw[sm,pQ n];rfl
def HU(e:fa ρ=.ok (.lst a))(f:fb ρ=.ok (.lst b))(d:a.length+b.length<=sizeLine):EE fa fb ρ=.ok (a++b):=by simp only[EE,e,f,M.bind_ok];rw[aR d]
def QQ(h:f ρ=.ok a):i9 (lstM (gj f gy)) ρ=.ok (.lst [a]):=by
 have b:1<=sizeLine:=by decide
 simp only[i9,lstM,gj,gy,h,M.bind_ok,Ad,aA,cH,b,if_true]
def Dh(h:f ρ=.ok a):lW (gj f gy) ρ=.ok (.tup [a]):=by
 have b:1<=sizeLine:=by decide
 simp only[lW,gj,gy,h,M.bind_ok,Ad,aA,cH,b,if_true]
def C7(h:f ρ=.ok a)(e:g ρ=.ok b):lW (gj f (gj g gy)) ρ=.ok (.tup [a,b]):=by
 have d:2<=sizeLine:=by decide
 simp only[lW,gj,gy,h,e,M.bind_ok,Ad,aA,cH,d,if_true]
def sU a b (h:a.length+b.length<=sizeLine):iH (.tup a) (.tup b)=.ok (.tup (a++b)):=by unfold iH;exact aR h
def pj a b (h:a.length+b.length<=1000):iH (tI a) (tI b)=.ok (tI (a++b)):=by
 have sz:1000<sizeLine:=by decide
 unfold tI;rw[sU _ _ (by simp;lia),a9]
def rD{e d:Type}[Inhabited d]{P:e->d->Prop}(l:List e)(h:∀a∈l,∃b,P a b):∃f:e->d,∀a∈l,P a (f a):=⟨λa=>Classical.epsilon λb=>P a b,λa g=>Classical.epsilon_spec (h a g)⟩
end CL
namespace CL
noncomputable def kg(m:Nat)(A u:Vc):Int:=sm m λi=>A i*u i
def Ib(h:∀i,s*z i=a*x i+b*y i):s*kg m A z=a*kg m A x+b*kg m A y:=by
 unfold kg;rw[<-jI,<-qX];refine iV m _ _ λi _=>?_;have:=h i;calc s*(A i*z i)=A i*(s*z i):=by rw[Int.mul_left_comm]
  _=A i*(a*x i+b*y i):=by rw[this]
  _=a*(A i*x i)+b*(A i*y i):=by grind
theorem uE m:∀(f:List Vc) (T:List Nat),T.Nodup->(∀t∈T,t<m)->f.length<T.length->∃v:Vc,(∃i,v i≠0)/\(∀i,i∉T->v i=0)/\∀A∈f,kg m A v=0
 |[],T,nd,ht,hl=>by
  cases T with
  |nil=>cases hl
  |cons t T=>refine⟨λi=>if i=t then 1 else 0,⟨t,by simp⟩,λi g=>?_,λA l=>nomatch l⟩;have:i≠t:=λz=>g (by simp[z]);simp[this]
 |A::f,T,nd,ht,hl=>by
  cases T with
  |nil=>cases hl
  |cons t T=>
   obtain⟨E,q⟩:=bR.mp nd;have h:f.length<T.length:=by simp at hl;exact hl
   obtain⟨d,⟨j,w⟩,o1,C⟩:=uE m f T q (λx o=>ht x (by simp[o])) h;have p:j∈T:=aP λz=>w (o1 j z);have r:f.length<((t::T).erase j).length:=by have F:j∈t::T:=bz _ p;rw[List.length_erase_of_mem F,aA];exact h
   obtain⟨c,⟨k,D⟩,o2,u⟩:=uE m f ((t::T).erase j) (nd.erase j) (λx o=>ht x (eS o)) r;have n:c j=0:=o2 j (λz=>by rw[List.Nodup.mem_erase_iff nd]at z;exact z.1 rfl);by_cases l:kg m A c=0
   .exact⟨c,⟨k,D⟩,λi g=>o2 i (λz=>g (eS z)),λB e=>by
     rcases aG.mp e with rfl|e
     .exact l
     .exact u B e⟩
   .refine⟨λi=>kg m A c*d i-kg m A d*c i,⟨j,?_⟩,λi g=>?_,λB e=>?_⟩
    .dsimp only;rw[n];simp[l,w]
    .show kg m A c*d i-kg m A d*c i=0;rw[o1 i (λz=>g (by simp[z])),o2 i (λz=>g (eS z))];simp
    .have:=Ib (m:=m) (A:=B) (x:=d) (y:=c) (z:=λi=>kg m A c*d i-kg m A d*c i) (s:=1) (a:=kg m A c) (b:=-kg m A d) (λi=>by grind);rcases aG.mp e with rfl|e
     .rw[eN]at this;rw[this];grind
     .rw[C B e,u B e]at this;simpa using this
end CL
namespace CL
open PySem L2 L3
variable {c:Cs}
def ye{i:Int}(h:0<i):(0:Rat)<(i:Rat):=by have:=(Rat.intCast_lt_intCast).mpr h;simpa using this
def Ek N M row other a (A:a<row.length) (E:other.length=row.length) (hs:row.length<1000) (Y:N+M+1<=8000) (k:∀x∈row,Bn N x) (q:∀x∈other,Bn M x) (hne:vc other a≠0) :
  ∃r,kS c [tI row,tI other,.int (a:Int)]=.ok (tI r)/\r.length=row.length/\(∀x∈r,Bn (N+M+1) x)/\vc r a=0/\∃g s b:Int,0<g/\0<s/\(∀i,g*vc r i=s*vc row i+b*vc other i)/\(vc row a≠0->s=((vc other a).natAbs:Int)/\b = -vc row a*jP (vc other a)):=by
 have sz:1000<sizeLine:=by decide
 have u:ls (tI row) (.int (a:Int))=.ok (.int (vc row a)):=ko row a A;have B:ls (tI other) (.int (a:Int))=.ok (.int (vc other a)):=ko other a (by lia);have C:Bn N (vc row a):=k _ (getD_mem row a A);have L:Bn M (vc other a):=q _ (getD_mem other a (by lia));by_cases j:vc row a=0
 .exact⟨row,iN rfl (mr (jC (iT (gC (gC rfl rfl u) rfl (by rw[jx,j];rfl))) (ig rfl)) rfl),rfl,λx H=>(k x H).mono (by lia),j,1,1,0,by decide,by decide,λi=>by lia,λz=>absurd j z⟩
 .generalize J:vc other a=o at *;generalize U:vc row a=x0 at *;have S:ug [.int o]=.ok (.int (o.natAbs:Int)):=by simp[OU]
  let w:Int:=-x0*jP o;have K:=qG o;have v:Bn N w:=by
   refine cj ?_ C;show (-x0*jP o).natAbs<=_;rw[aZ,Int.natAbs_neg];have:(jP o).natAbs<=1:=by lia
   exact aO (eT _ this) (by lia)
  have D:Bn M (o.natAbs:Int):=cj (by lia) L;let d:LI:=(row.zip other).map λp=>(o.natAbs:Int)*p.1+w*p.2;have R:d.length=row.length:=by simp[d,E]
  have m:∀y∈d,Bn (N+M+1) y:=λy F=>by obtain⟨p,f,rfl⟩:=aE.mp F;exact ((D.mul (k _ (aX f).1)).add (v.mul (q _ (aX f).2))).mono (by lia)
  have e:∀i,vc d i=(o.natAbs:Int)*vc row i+w*vc other i:=λi=>by
   by_cases P:i<row.length
   .rw[jc d i (by lia),jc row i P,jc other i (by lia)];simp[d]
   .rw[kH d i (by lia),kH row i (by lia),kH other i (by lia),eO,eO];rfl
  obtain⟨g,r,X,I,Q,h,l⟩:=qS (c:=c) (N+M+1) Y d (by lia) m;refine⟨r,iN rfl (gB (iS (iT (gC (gC rfl rfl u) rfl (by rw[jx];simp[j]))) rfl) (gB (gU (t:=.int (o.natAbs:Int)) (lV (gC rfl rfl B) S) rfl) (gB (gU (t:=.int w) ?_ rfl) (ig (rS (x:=tI d) ?_ I))))),by lia,l,?_,g,(o.natAbs:Int),w,X,by lia,λi=>by rw[<-h i,e i],λ_=>⟨rfl,rfl⟩⟩
  .refine gC (x:=.int (-x0)) (y:=.int (jP o)) ?_ (rS (gC rfl rfl B) (oZ o)) (jn ((C.neg).ok (n:=2) ?_ (by lia) (by decide)))
   .exact rF (gC rfl rfl u)
   .unfold Bn;show _<4;lia
  .refine lV (t:=.lst (d.map T.int)) (iD (iI (row.zip other) (λp=>T.tup [.int p.1,.int p.2]) (λp=>T.int ((o.natAbs:Int)*p.1+w*p.2)) (oN rfl rfl rfl rfl) (by simp;lia) (λp f=>⟨_,rfl,rfl,?_⟩) (by rw[aJ];rfl))) rfl;exact gC (gC rfl rfl (jn (D.ok (k _ (aX f).1) (by lia) (by lia)))) (gC rfl rfl (jn (v.ok (q _ (aX f).2) (by lia) (by lia)))) (i5 _ _)
  .refine QJ (g:=g) (by lia) ?_;rw[<-h a,e a,J,U];show _ + -x0*jP o*o=_;rw[dX,qo,Int.neg_mul,dY x0];lia
def Je(h:f ρ=.ok (tI r)):iG f ρ=.ok (r.map T.int):=by unfold iG;rw[h];rfl
end CL
namespace CL
open PySem L2 L3
variable {c:Cs}
noncomputable def lG:Nat->(Nat->Rat)->Rat
 |0,_=>0
 |n+1,f=>f 0+lG n λi=>f (i+1)
theorem iJ:∀n f g,(∀i,i<n->f i=g i)->lG n f=lG n g
 |0,_,_,_=>rfl
 |n+1,f,g,h=>by unfold lG;rw[h 0 (by lia),iJ n _ _ λi a=>h (i+1) (by lia)]
theorem og a b:∀n f g,lG n (λi=>a*f i+b*g i)=a*lG n f+b*lG n g
 |0,_,_=>by unfold lG;grind
 |n+1,f,g=>by unfold lG;rw[og a b n (λi=>f (i+1)) λi=>g (i+1)];grind
theorem qc:∀n:Nat,lG n (λ_=>0)=0
 |0=>rfl
 |n+1=>by unfold lG;rw[qc n];grind
noncomputable def jQ(d:Nat)(X:Nat->Rat)(x:Vc):Rat:=lG d (λp=>(x p:Rat)*X p)-(x d:Rat)
def xr(x y z:Vc) s a b (h:∀i,s*z i=a*x i+b*y i):(s:Rat)*jQ d X z=(a:Rat)*jQ d X x+(b:Rat)*jQ d X y:=by
 have f:∀i,s*(z i)=a*(x i)+b*(y i:Rat):=λi=>by
  have:=h i;have e:((s*z i:Int):Rat)=((a*x i+b*y i:Int):Rat):=by rw[this]
  simpa using e
 unfold jQ;have k:(s:Rat)*lG d (λp=>(z p:Rat)*X p)=(a:Rat)*lG d (λp=>(x p:Rat)*X p)+(b:Rat)*lG d (λp=>(y p:Rat)*X p):=by
  have:=og (s:Rat) 0 d (λp=>(z p:Rat)*X p) (λ_=>0);have g:=og (a:Rat) (b:Rat) d (λp=>(x p:Rat)*X p) (λp=>(y p:Rat)*X p);have j:lG d (λi=>(s:Rat)*((z i:Rat)*X i)+0*0)=lG d (λi=>(a:Rat)*((x i:Rat)*X i)+(b:Rat)*((y i:Rat)*X i)):=iJ d _ _ λi _=>by have:=f i;grind
  rw[j,g]at this;grind
 have:=f d;grind
def zp(h:∀p,p<d->x p=0):jQ d X x = -(x d:Rat):=by
 unfold jQ;have e:lG d (λp=>(x p)*X p)=0:=by rw[iJ d _ (λ_=>0) λp a=>by rw[h p a];simp];exact qc d
 rw[e];grind
def Pk(h:fc ρ=.ok false)(a:fd ρ=.ok b):L3.zN fc fd ρ=.ok b:=by simp only[L3.zN,h,a,M.bind_ok];rfl
def lM row s i:vc (row.map λx=>s*x) i=s*vc row i:=by unfold vc;rw[ag,ag,aw];cases row[i]?<;>simp
def ph a b i:vc (a++b) i=if i<a.length then vc a i else vc b (i-a.length):=by
 unfold vc;by_cases h:i<a.length
 .rw[aR h,ag,List.getElem?_append_left h,<-ag]
 .rw[aS h,ag,List.getElem?_append_right (by lia),<-ag]
def GL(d B:Nat)(a:LI):Prop:=a.length=d+1/\∀x∈a,Bn B x
structure GC(d B:Nat)(ns:LI):Prop where
 gl:GL d B ns
 re:∃p,p<d/\vc ns p≠0
def GL.mono(h:GL d B ns)(a:B<=B'):GL d B' ns:=⟨h.1,λx b=>(h.2 x b).mono a⟩
def LY ns k v i (a:k<ns.length):vc (ns.set k v) i=if k=i then v else vc ns i:=by
 unfold vc;rw[ag,List.getElem?_set];by_cases h:k=i
 .subst h;rw[aR rfl,aR rfl,aR a];rfl
 .rw[aS h,aS h,<-ag]
def Jg n k (h:k<n):yx n (k:Int)=some k:=by unfold yx;rw[aR (by lia),aR (by lia)];simp
def mP(n:Nat)(h:n<=1000)(a:f ρ=.ok (.int (n:Int))):kL (gj f gy) ρ=.ok ((List.range n).map λ(i:Nat)=>T.int (i:Int)):=by have hr:DN n=true:=n5 (by lia);rw[<-Pn];simp[a,hr]
noncomputable def iX(a b:LI):Bool:=(List.range a.length).all λk=>(List.range k).all λj=>vc a k*vc b j==vc a j*vc b k
def yg n B a b (s:a.length=n) (L:b.length=n) (K:n<=10) (N:B<=1000) (v:∀x∈a,Bn B x) (bb:∀x∈b,Bn B x):j8 c [tI a,tI b]=.ok (.bl (iX a b)):=by
 have sz:1000<sizeLine:=by decide
 have i:=oP (m:=nj 2) (λ(k:Nat)=>T.int (k:Int)) (λρ=>∃o d,ρ=[some (.p (tI a)),some (.p (tI b)),o,d]) (λk=>(List.range k).all λj=>vc a k*vc b j==vc a j*vc b k) (.bl false) (List.range n) [some (.p (tI a)),some (.p (tI b)),none,none] ⟨none,none,rfl⟩ (by
  rintro k H ρ ⟨o,d,rfl⟩;have A:=aT.mp H;refine⟨_,rfl,?_⟩;have l:=oP (m:=nj 3) (g:=rO c) (λ(j:Nat)=>T.int (j:Int)) (λρ=>∃d,ρ=[some (.p (tI a)),some (.p (tI b)),some (.p (.int (k:Int))),d]) (λj=>vc a k*vc b j==vc a j*vc b k) (.bl false) (List.range k) [some (.p (tI a)),some (.p (tI b)),some (.p (.int (k:Int))),d] ⟨d,rfl⟩ (by
   rintro j y ρ ⟨d,rfl⟩;have I:=aT.mp y;have F:=ko a k (by lia);have C:=ko b j (by lia);have D:=ko a j (by lia);have z:=ko b k (by lia);have E:=jn ((v _ (getD_mem a k (by lia))).ok (bb _ (getD_mem b j (by lia))) (by lia) (by lia));have J:=jn ((v _ (getD_mem a j (by lia))).ok (bb _ (getD_mem b k (by lia))) (by lia) (by lia));have u:ji (gO (ie true) (gO jY (gO ls (gq 0) (gq 2)) (gO ls (gq 1) (gq 3))) (gO jY (gO ls (gq 0) (gq 3)) (gO ls (gq 1) (gq 2)))) (vw [some (.p (tI a)),some (.p (tI b)),some (.p (.int (k:Int))),some (.p (.int (j:Int)))])=.ok (!(vc a k*vc b j==vc a j*vc b k)):=iT (gC (gC (gC rfl rfl F) (gC rfl rfl C) E) (gC (gC rfl rfl D) (gC rfl rfl z) J) (yF _ _))
   refine⟨_,rfl,λh=>⟨_,iS (u.trans (by rw[h];rfl)) rfl,_,rfl⟩,λh=>jC (u.trans (by rw[h];rfl)) (ig rfl)⟩)
  have hr:=mP (f:=gq 2) (ρ:=vw [some (.p (tI a)),some (.p (tI b)),some (.p (.int (k:Int))),d]) k (by lia) rfl;refine⟨λh=>?_,λh=>lZ hr (l.2 h)⟩;obtain⟨q,e,w,rfl⟩:=l.1 h;exact⟨_,lZ hr e,_,_,rfl⟩)
 have hr:=mP (f:=j0 lj (gj (gq 0) gy)) (ρ:=vw (iA 4 [tI a,tI b])) n (by lia) (lV (t:=tI a) rfl (by simp[tI,s]));have r:iX a b=((List.range n).all λk=>(List.range k).all λj=>vc a k*vc b j==vc a j*vc b k):=by unfold iX;rw[s]
 cases h:iX a b with
 |true=>obtain⟨q,e,o,d,rfl⟩:=i.1 (by rw[<-r];exact h);exact iN rfl (gB (lZ hr e) (ig rfl))
 |false=>exact iN rfl (mr (lZ hr (i.2 (by rw[<-r];exact h))) rfl)
def tz a (n:a.length<=100) (h:∃p,p<a.length/\vc a p≠0):∃p:Nat,j4 c [tI a]=.ok (.int (p:Int))/\p<a.length/\vc a p≠0:=by
 obtain⟨q,o,l⟩:=h;obtain⟨b,e,p,rfl,f,i⟩:=pq (c:=ji (gO (ie false) (gO ls (gq 0) (gq 1)) (cM (.int 0)))) (g:=nQ c)
  (λb=>∃k:Nat,b=[some (.p (tI a)),some (.p (.int (k:Int)))]/\k<=q) (λb=>match b with|_::some (.p (.int j))::_=>q-j.toNat|_=>0)
  (λb=>∃k:Nat,b=[some (.p (tI a)),some (.p (.int (k:Int)))]/\k<a.length/\vc a k≠0) (by
   rintro b ⟨k,rfl,hk⟩;have m:ls (tI a) (.int (k:Int))=.ok (.int (vc a k)):=ko a k (by lia);by_cases d:vc a k=0
   .have hne:k≠q:=λz=>l (by rw[<-z];exact d);refine .inr ⟨iT (gC (gC rfl rfl m) rfl (by rw[jx,d];rfl)),_,.inl (gU (gC rfl rfl (by rw[i5];simp)) rfl),⟨k+1,rfl,by lia⟩,?_⟩;show q-(((k+1:Nat):Int)).toNat<q-((k:Int)).toNat;lia
   .exact .inl ⟨iT (gC (gC rfl rfl m) rfl (by rw[jx];simp[d])),k,rfl,by lia,d⟩)
  ((a.map T.int).length+1) [some (.p (tI a)),some (.p (.int ((0:Nat):Int)))] ⟨0,rfl,by lia⟩ (by rw[ax];lia)
 exact⟨p,iN rfl (gB (gU rfl rfl) (gB e (ig rfl))),f,i⟩
def vd d B a b (Q:d<=3) (P:B<=1000) (f:GC d B a) (m:GL d B b) (h:iX a b=false):kh c [tI a,tI b]=.ok (.bl false):=by
 have sz:1000<sizeLine:=by decide
 have N:=f.gl.1;have E:=m.1;obtain⟨q,R,l⟩:=f.re;obtain⟨p,C,o,g⟩:=tz a (by lia) ⟨q,by lia,l⟩;have L:=ko b p (by lia);have F:=ko a p o;have H:jL [none,none,some 1,some 2,some 0] (ng (gj (gq 0) (gj (gq 1) gy))) (mU 2 (iL (jq 0) (iL (jq 1) mW))) (λ_=>.ok true) (om c) (vw [some (.p (tI a)),some (.p (tI b)),some (.p (.int p))])=.ok (((a.zip b).map λx=>x.1*vc b p==x.2*vc a p).map T.bl):=iI (a.zip b) (λx=>T.tup [.int x.1,.int x.2]) (λx=>T.bl (x.1*vc b p==x.2*vc a p)) (oN rfl rfl rfl rfl) (by rw[eU];lia) (λx r=>⟨_,rfl,rfl,by have v:=f.gl.2 _ (aX r).1;have w:=m.2 _ (aX r).2;have D:=m.2 _ (getD_mem b p (by lia));have I:=f.gl.2 _ (getD_mem a p o);exact gC (gC rfl (gC rfl rfl L) (jn (v.ok D (by lia) (by lia)))) (gC rfl (gC rfl rfl F) (jn (w.ok I (by lia) (by lia)))) (jx _ _)⟩) (by rw[aJ];rfl)
 refine iN rfl (gB (gU (rS rfl C) rfl) (ig (mF H ?_)));rw[wX];congr 2;cases u:((a.zip b).map λx=>x.1*vc b p==x.2*vc a p).all id with
 |false=>rfl
 |true=>
  exfalso;rw[cG]at u;have e:=C4.par_of_place g λi s=>by
   have J:(a.zip b)[i]? = some (a[i],b[i]'(by lia)):=by rw[List.getElem?_zip_eq_some];exact⟨ai s,ai (by lia)⟩
   have:=u _ (aE.mpr ⟨_,av J,rfl⟩);have y:a[i]*vc b p=(b[i]'(by lia))*vc a p:=by simpa using this
   show vc a i*vc b p=vc b i*vc a p;rw[jc a i s,jc b i (by lia)];exact y
  have:iX a b=true:=by unfold iX;refine cG.mpr λk K=>cG.mpr λj z=>?_;have n:=aT.mp K;have A:=aT.mp z;have:=e k j n (by lia);simpa[vc] using this
  rw[h]at this;cases this
structure qB(d B:Nat)(cs:LL):Prop where
 gc:∀f∈cs,GC d B f
 few:cs.length<=7
 pw:cs.Pairwise λa b=>iX a b=false
def Eu(h:GC d B ns):oB d (tI ns)=true:=by
 obtain⟨p,g,a⟩:=h.re;have e:=h.gl.1;unfold tI oB;have b:(ns.map T.int).length=d+1:=by simp[e]
 have f:(ns.map T.int).all isInt=true:=cG.mpr λx j=>by obtain⟨y,-,rfl⟩:=aE.mp j;rfl
 show (decide ((ns.map T.int).length=d+1)&&(ns.map T.int).all isInt&&(match iW (ns.map T.int) with|some ns=>(ns.take d).any (· != 0)|none=>false))=true;rw[aD b,f,yw];refine dz.mpr ⟨vc ns p,?_,by simpa using a⟩;rw[jc ns p (by lia)];refine av (i:=p) ?_;rw[List.getElem?_take,aR g,ai (by lia)]
def xW d B (b:LL) ns (r:1<=d/\d<=3) (q:B<=1000) (u:b.length<7) (n:∀f∈b,GC d B f) (g:GC d B ns) (hs:∀f∈b,iX f ns=false):kc c [.int d,.lst (b.map tI),tI ns]=.ok (.bl true):=by
 have sz:1000<sizeLine:=by decide
 have h:=CV (c:=c) d (by lia) (tI ns) rfl λv e=>by cases e;refine⟨by rw[ax,g.gl.1];lia,λt j=>by obtain⟨y,-,rfl⟩:=aE.mp j;rfl⟩
 rw[Eu g]at h;have p:jL [none,some 2] (iG (gq 1)) (jq 0) (λ_=>.ok true) (mR c) (vw (iA 3 [.int d,.lst (b.map tI),tI ns]))=.ok ((b.map λ_=>false).map T.bl):=iI b tI (λ_=>T.bl false) rfl (by lia) (λf i=>⟨_,rfl,rfl,kf rfl rfl (vd d B f ns r.2 q (n f i) g.gl (hs f i))⟩) (by rw[aJ];rfl)
 have k:ji (gO Oz (j0 lj (gj (gq 1) gy)) (cM (.int 7))) (vw (iA 3 [.int d,.lst (b.map tI),tI ns]))=.ok false:=iT (gC (x:=.int (b.length:Int)) (lV (t:=.lst (b.map tI)) rfl (by simp)) rfl (by rw[Ir];congr 2;exact aC (by lia)))
 have s:ji (gF (gj (gq 0) (gj (gq 2) gy)) (mO c)) (vw (iA 3 [.int d,.lst (b.map tI),tI ns]))=.ok true:=iT (kf rfl rfl h);refine iN rfl (gB (iS ?_ rfl) (ig ?_))
 .simp only[L3.zN,L3.qw,k,s,M.bind_ok];rfl
 .have o:j0 sD (gj (i9 (jL [none,some 2] (iG (gq 1)) (jq 0) (λ_=>.ok true) (mR c))) gy) (vw (iA 3 [.int d,.lst (b.map tI),tI ns]))=.ok (.bl false):=by
   refine mF p ?_;rw[xg];congr 2;induction b with
   |nil=>rfl
   |cons a l ih=>simp
  have m:=iT o;simp only[yo,m,M.bind_ok];rfl
def Aa d B cs (u:1<=d/\d<=3) (w:B<=1000) (h:qB d B cs):jr c [.int d,.lst (cs.map tI)]=.ok (.tup (cs.map tI)):=by
 have sz:1000<sizeLine:=by decide
 have j:=h.few;obtain⟨n,e,l,rfl⟩:=jX (m:=nj 3) (g:=m8 c) tI
  (λk n=>∃l:Option W,n=[some (.p (.int d)),some (.p (.lst (cs.map tI))),some (.o ((cs.take k).map tI)),l])
  cs 0 _ ⟨none,rfl⟩ (by
   rintro k a n b ⟨l,rfl⟩;rw[aH];have A:=(ae.mp b).1;have r:=xW (c:=c) d B (cs.take k) a u w (by rw[bT];lia) (λf j=>h.gc f (eV j)) (h.gc a (av b)) λf j=>by have s:=h.pw;rw[<-dF k cs,cX]at s;refine s.2.2 f j a ?_;refine av (i:=0) ?_;rw[List.getElem?_drop,Nat.add_zero];exact b
   have q:ji (gF (gj (gq 0) (gj (gq 2) (gj (gq 3) gy))) (kc c)) (vw [some (.p (.int d)),some (.p (.lst (cs.map tI))),some (.o ((cs.take k).map tI)),some (.p (tI a))])=.ok true:=iT (kn (y:=.lst ((cs.take k).map tI)) (z:=tI a) rfl rfl rfl r);refine⟨_,_,rfl,.inl (gB (iS (A6 q rfl) rfl) (xV (us:=(cs.take k).map tI) (t:=tI a) rfl (lV (t:=tI a) rfl rfl) (by rw[ax,bT];lia) rfl)),some (.p (tI a)),?_⟩;rw[lC cs k a b,a9];rfl)
 rw[aH,eM]at e;have v:ji (gF (gj (gq 0) gy) (lE c)) (vw (iA 4 [.int d,.lst (cs.map tI)]))=.ok true:=iT (rS rfl (An d u));have x:ji (xf "list" (gq 1)) (vw (iA 4 [.int d,.lst (cs.map tI)]))=.ok true:=rfl;refine iN rfl (gB (iS ?_ rfl) (gB (nF (ts:=[]) (by simp) rfl) (gB (m4 rfl e) (ig rfl))));simp only[L3.zN,L3.qw,v,x,M.bind_ok];rfl
noncomputable def uo(c:Cs)(d:Nat)(a:LL):T:=.obj c.Cutting [("own_cuts",.tup (a.map tI)),("own_dims",.int d)]
def JC d B cs (b:1<=d/\d<=3) (a:B<=1000) (h:qB d B cs):gM c [.int d,.lst (cs.map tI)]=.ok (uo c d cs):=by have e:=Aa (c:=c) d B cs b a h;have q:gF (gj (gq 1) (gj (gq 2) gy)) (jr c) (none::[T.int d,.lst (cs.map tI)].map some)=.ok (.tup (cs.map tI)):=kf rfl rfl e;unfold gM vP;rw[aR (show [T.int d,T.lst (cs.map tI)].length=2 from rfl),q];rfl
def Fe(h:f ρ=.ok (.obj C fs))(a:fs.lookup x=some t):Bj C x f ρ=.ok t:=by unfold Bj;rw[h,M.bind_ok];show (if C=C then (match fs.lookup x with|some t=>M.ok t|none=>.bad) else .bad)=_;rw[aR rfl,a]
def Jp(d:Nat)(a:LL){f:Pe->M T}{ρ:Pe}(g:f ρ=.ok (uo c d a)):yX c.Cutting "dims" f gy (js c) ρ=.ok (.int d):=by
 have b:uI c.Cutting "dims" (uo c d a)=.ok ():=by unfold uI uo;exact aR ⟨rfl,rfl⟩
 have e:js c [uo c d a]=.ok (.int d):=iN rfl (ig (Fe rfl rfl));simp only[yX,g,M.bind_ok,b,gy,e,M.noEr_ok]
def Ic d cs (e:f ρ=.ok (uo c d cs)):uF c.Cutting "cuts" f gy (jy c) ρ=.ok (cs.map tI):=by
 have a:uI c.Cutting "cuts" (uo c d cs)=.ok ():=by unfold uI uo;exact aR ⟨rfl,rfl⟩
 have b:jy c [uo c d cs]=.ok (cs.map tI):=qI rfl (qi (by have:Bj c.Cutting "own_cuts" (gq 0) (vw (iA 1 [uo c d cs]))=.ok (.tup (cs.map tI)):=Fe rfl rfl;simp only[zw,gj,gy,this,M.bind_ok];rfl))
 simp only[uF,e,M.bind_ok,a,gy,b,M.noEr_ok]
def wQ(a:ns.length=d)(e:∀x∈ns,Bn 84 x)(hv:Bn 84 v)(hr:∃p,p<d/\vc ns p≠0):GC d 84 (ns++[v]):=by
 refine⟨⟨by simp[a],λx f=>?_⟩,?_⟩
 .rcases aj.mp f with q|q
  .exact e x q
  .rw[ak.mp q];exact hv
 .obtain⟨p,b,h⟩:=hr;refine⟨p,b,?_⟩;unfold vc at *;rw[ag,List.getElem?_append_left (by lia),<-ag];exact h
def Jo(g:ns.length=d)(h:ns≠List.replicate d 0):∃p,p<d/\vc ns p≠0:=by
 refine aP λj=>h (List.eq_replicate_iff.mpr ⟨g,λb k=>?_⟩);obtain⟨i,f⟩:=List.getElem?_of_mem k;have a:i<d:=by have:=(ae.mp f).1;lia
 refine aP λe=>j ⟨i,a,?_⟩;unfold vc;rw[ag,f];exact e
def Mq(b:LI)(f:∀x∈b,x.natAbs<=3):(((b.zip [1,2,(-1:Int)]).map λ(p:Int×Int)=>p.1*p.2).sum).natAbs<=1000:=by
 have e:∀b d:LI,(∀x∈b,x.natAbs<=3)->(((b.zip d).map λ(p:Int×Int)=>p.1*p.2).sum).natAbs<=3*(d.map Int.natAbs).sum:=λb=>by
  induction b with
  |nil=>intro _ _;exact bN _
  |cons a l ih=>
   intro d h;cases d with
   |nil=>exact bN _
   |cons k d=>rw[List.zip_cons_cons,bK,List.sum_cons,bK,List.sum_cons,Nat.mul_add];refine aO (eD _ _) (Nat.add_le_add ?_ (ih d λx g=>h x (bz _ g)));rw[aZ];exact eW _ (h a bx)
 exact aO (e b _ f) (by decide)
def zS cell d (fs:LL) (hd:1<=d/\d<=3) (hf:∀f∈fs,GC d 84 f) (hfl:fs.length<=10) :
  ∃u,lD c [.int cell,.int d,.lst (fs.map tI)]=.ok (tI u)/\GC d 84 u:=by
 have sz:1000<sizeLine:=by decide
 let n:LI:=(List.range d).map λ(j:Nat)=>dr c cell j 7-3;have l0:n.length=d:=by simp[n]
 have b0:∀x∈n,x.natAbs<=3:=λx E=>by obtain⟨j,hj,rfl⟩:=aE.mp E;have hj':=aT.mp hj;obtain⟨_,a1,a2⟩:=je (c:=c) cell j 7 (by lia) (by lia) (by lia) (by lia);lia
 obtain⟨d6,d6a,d6b⟩:=je (c:=c) cell 6 9 (by decide) (by decide) (by lia) (by lia);obtain⟨d7,d7a,d7b⟩:=je (c:=c) cell 7 7 (by decide) (by decide) (by lia) (by lia);generalize dr c cell 6 9=c0 at d6 d6a d6b;generalize dr c cell 7 7=way at d7 d7a d7b;let St:LI->Option W->Option W->Option W->En:=λu r s F=>[some (.p (.int cell)),some (.p (.int d)),some (.p (.lst (fs.map tI))),some (.o (u.map T.int)),r,s,F];have e0:jL [none,some 0] (kL (gj (gq 1) gy)) (jq 0) (λ_=>.ok true) (uQ c) (mq [some (.p (.int cell)),some (.p (.int d)),some (.p (.lst (fs.map tI))),none,none,none,none])=.ok (n.map T.int):=by refine iI (List.range d) (λ(j:Nat)=>T.int (j:Int)) (λ(j:Nat)=>T.int (dr c cell j 7-3)) (mP d (by lia) rfl) (by simp;lia) (λj hj=>⟨_,rfl,rfl,?_⟩) (by rw[aJ];rfl);have hj':=aT.mp hj;obtain⟨e,_,_⟩:=je (c:=c) cell j 7 (by lia) (by lia) (by lia) (by lia);exact gC (kn rfl rfl rfl e) rfl (nP _ _)
 obtain⟨g,e1,l1,b1,r1⟩:∃g,(nq (ji (gO (ie false) (gq 3) (i9 (FO (i9 (lstM (gj (cM (.int 0)) gy))) (gq 1))))) (A8 3 (sJ (gF (gj (gq 0) (gj (cM (.int 4)) (gj (gq 1) gy))) (gK c))) (sJ (gO iH (cM (.int 1)) (gF (gj (gq 0) (gj (cM (.int 5)) (gj (cM (.int 3)) gy))) (gK c))))) iR) (St n none none none)=.nx (St g none none none)/\g.length=d/\(∀x∈g,x.natAbs<=3)/\∃p,p<d/\vc g p≠0:=by
  have ec:ji (gO (ie false) (gq 3) (i9 (FO (i9 (lstM (gj (cM (.int 0)) gy))) (gq 1)))) (vw (St n none none none))=.ok (decide (n=List.replicate d 0)):=iT (gC (x:=.lst (n.map T.int)) (y:=.lst ((List.replicate d (0:Int)).map T.int)) rfl (OT d (by lia) rfl) (by rw[Mj];rfl))
  by_cases hz:n=List.replicate d 0
  .obtain⟨d4,d4a,d4b⟩:=je (c:=c) cell 4 d (by lia) (by lia) (by lia) (by lia);obtain⟨d5,d5a,d5b⟩:=je (c:=c) cell 5 3 (by lia) (by lia) (by lia) (by lia);obtain⟨p,J⟩:∃p:Nat,dr c cell 4 d=(p:Int):=⟨(dr c cell 4 d).toNat,by lia⟩;rw[J]at d4 d4b;refine⟨n.set p (1+dr c cell 5 3),jC (by rw[ec,aD hz]) (MU (us:=n.map T.int) (t:=.int (1+dr c cell 5 3)) (j:=(p:Int)) (m:=p) rfl (gC rfl (kn rfl rfl rfl d5) (i5 _ _)) rfl (kn rfl rfl rfl d4) (Jg _ _ (by rw[ax];lia)) ?_),by rw[List.length_set];exact l0,λx E=>?_,p,by lia,?_⟩
   .simp only[St,List.map_set];rfl
   .rcases List.mem_or_eq_of_mem_set E with q|q
    .exact b0 x q
    .rw[q];lia
   .rw[LY _ _ _ _ (by lia),aR rfl];lia
  .exact⟨n,iS (by rw[ec,aC hz]) rfl,l0,b0,Jo l0 hz⟩
 have D:∀x:Int,x.natAbs<=1000->Bn 84 x:=λx E=>Bn.mono (m:=10) (by unfold Bn;lia) (by decide);have hfe:∀neg,ie neg (.lst (fs.map tI)) (.lst [])=.ok (.bl (if neg then !fs.isEmpty else fs.isEmpty)):=λneg=>by rw[xA neg (fs.map tI) (by simp) (aO (tX fs) (by decide))];simp
 let r:Int->Option W:=λv=>some (.p (.int v));let s:Option W:=some (.p (.int way));have HL:∀{o:O},(gQ (nq (AX (ji (gO (ie false) (gq 5) (cM (.int 1)))) (ji (gO (ie true) (gq 2) (i9 (lstM gy))))) (nN 3 (pY (zw rj (gj (i0 (gO ls (gq 2) (gF (gj (gq 0) (gj (cM (.int 8)) (gj (j0 lj (gj (gq 2) gy)) gy))) (gK c))) (λ_=>.ok none) (ia (gq 1))) gy)))) iR) _) (St g (r (c0-4)) s none)=o->wu c (iA 7 [.int cell,.int d,.lst (fs.map tI)])=o:=λ{o} h=>gB (ρ':=St n none none none) (nF e0 rfl) (gB (ρ':=St g none none none) e1 (gB (ρ':=St g (r (c0-4)) none none) (gU (gC (kn rfl rfl rfl d6) rfl (nP _ _)) rfl) (gB (ρ':=St g (r (c0-4)) s none) (gU (kn rfl rfl rfl d7) rfl) h)))
 have q1:ji (gO (ie false) (gq 5) (cM (.int 1))) (vw (St g (r (c0-4)) s none))=.ok (way==1):=iT (gC (x:=.int way) rfl rfl (jx _ _));have q2:ji (gO (ie true) (gq 2) (i9 (lstM gy))) (vw (St g (r (c0-4)) s none))=.ok (!fs.isEmpty):=iT (gC (x:=.lst (fs.map tI)) (y:=.lst []) rfl (by simp) (by rw[hfe];rfl));have X:∀(u:LI) (v k:Int) F,ji (gO (ie false) (gq 5) (cM (.int k))) (vw (St u (r v) s F))=.ok (way==k):=λu v k F=>iT (gC (x:=.int way) rfl rfl (jx _ _));have C:∀(u:LI) (v:Int) F,u.length=d->i7 (j0 jM (gj (i9 (EE (gq 3) (i9 (lstM (gj (gq 4) gy))))) gy)) (St u (r v) s F)=.rt (tI (u++[v])):=λu v F hl=>ig (lV (t:=.lst (u.map T.int++[.int v])) (iD (HU (a:=u.map T.int) (b:=[.int v]) rfl (QQ rfl) (by simp;lia))) (by simp[tI]))
 have B:∀(u:LI) (v:Int) F,(L3.zN (ji (gO (ie false) (gq 5) (cM (.int 2)))) (ji (gO (ie false) (gq 5) (cM (.int 3))))) (vw (St u (r v) s F))=.ok (way==2||way==3):=λu v F=>by simp only[L3.zN,X,M.bind_ok];cases way==2<;>rfl
 have L:¬(way=1/\fs≠[])->(L3.AX (ji (gO (ie false) (gq 5) (cM (.int 1)))) (ji (gO (ie true) (gq 2) (i9 (lstM gy))))) (vw (St g (r (c0-4)) s none))=.ok false:=λhc=>by
  simp only[L3.AX,q1,q2,M.bind_ok];by_cases I:way=1
  .have hn:fs=[]:=by
    by_cases hn:fs=[]
    .exact hn
    .exact absurd ⟨I,hn⟩ hc
   rw[I,hn];rfl
  .have:(way==1)=false:=by simpa using I
   rw[this];rfl
 by_cases Z:way=1/\fs≠[]
 .obtain⟨I,hne⟩:=Z;have hlp:=List.length_pos_iff.mpr hne;obtain⟨d3,d3a,d3b⟩:=je (c:=c) cell 8 fs.length (by lia) (by lia) (by lia) (by lia);obtain⟨f,ef,hfm⟩:=AV fs (dr c cell 8 fs.length) d3a d3b;have gf:=hf f hfm;have tl:(f.take d).length=d:=by rw[bT,gf.gl.1];lia
  have nd:∀k:Int,k≠1->(way==k)=false:=λk hk=>by simp[I];lia
  refine⟨f.take d++[c0-4],iN rfl (HL (gB (ρ':=St (f.take d) (r (c0-4)) s none) (jC ?_ (nF (ts:=(f.take d).map T.int) ?_ rfl)) (gB (iS (by rw[B,nd 2 (by decide),nd 3 (by decide)];rfl) rfl) (gB (iS (by rw[X,nd 4 (by decide)]) rfl) (C _ _ _ tl))))),wQ tl (λx E=>gf.gl.2 x (eV E)) (D _ (by lia)) ?_⟩
  .simp only[L3.AX,q1,q2,M.bind_ok];rw[I];simp[hne]
  .have:=lL (fe:=gO ls (gq 2) (gF (gj (gq 0) (gj (cM (.int 8)) (gj (j0 lj (gj (gq 2) gy)) gy))) (gK c))) (fd:=gq 1) (d:=d) (ts:=f.map T.int) (ρ:=mq (St g (r (c0-4)) s none)) (gC (x:=.lst (fs.map tI)) (y:=.int (dr c cell 8 fs.length)) rfl (kn (z:=.int (fs.length:Int)) rfl rfl (lV rfl (by simp)) d3) (by simp[pI,ef,tI])) rfl (by rw[ax,gf.gl.1];lia);simp only[zw,gj,gy,this,M.bind_ok];rw[eA];rfl
  .obtain⟨p,J,h⟩:=gf.re;refine⟨p,J,?_⟩;unfold vc at *;rw[ag,List.getElem?_take,aR J,<-ag];exact h
 .have U:∀x∈g,Bn 84 x:=λx E=>D x (by have:=b1 x E;lia);by_cases H:way=2\/way=3
  .have t23:(way==2||way==3)=true:=by rcases H with h|h<;>rw[h]<;>rfl
   have n4:(way==4)=false:=by rcases H with h|h<;>rw[h]<;>rfl
   let v:Int:=((g.zip [1,2,-1]).map λp=>p.1*p.2).sum;have ez:jL [none,none] (ng (gj (gq 3) (gj (i9 (lstM (gj (cM (.int 1)) (gj (cM (.int 2)) (gj (nU (λi=>.int (-i)) (cM (.int 1))) gy))))) gy))) (mU 2 (iL (jq 0) (iL (jq 1) mW))) (λ_=>.ok true) (ub c) (vw (St g (r (c0-4)) s none))=.ok (((g.zip [1,2,-1]).map λp=>p.1*p.2).map T.int):=iI (g.zip [1,2,-1]) (λp=>T.tup [.int p.1,.int p.2]) (λp=>T.int (p.1*p.2)) (oN (x:=.lst (g.map T.int)) (y:=.lst ([1,2,-1].map T.int)) rfl rfl (iD rfl) rfl) (by rw[eU];lia) (λp J=>⟨_,rfl,rfl,gC rfl rfl (jv (by have:=b1 _ (aX J).1;lia))⟩) (by rw[aJ];rfl)
   have vb:=Mq g b1;exact⟨g++[v],iN rfl (HL (gB (iS (L Z) rfl) (gB (ρ':=St g (r v) s none) (jC (by rw[B,t23]) (B5 (mF ez (Bp _)) rfl rfl)) (gB (iS (by rw[X,n4]) rfl) (C _ _ _ l1))))),wQ l1 U (D _ vb) r1⟩
  .have N:(way==2||way==3)=false:=by have h2:¬way=2:=λz=>H (.inl z);have h3:¬way=3:=λz=>H (.inr z);simp[h2,h3]
   by_cases h4:way=4
   .obtain⟨d9,d9a,d9b⟩:=je (c:=c) cell 9 1000000 (by decide) (by decide) (by lia) (by lia);obtain⟨d11,S,R⟩:=je (c:=c) cell 11 3 (by decide) (by decide) (by lia) (by lia);obtain⟨Q,P,Y⟩:=je (c:=c) cell 10 7 (by decide) (by decide) (by lia) (by lia);obtain⟨w,ew,hw⟩:=BR [1,1,1000000000000000000] (dr c cell 11 3) S (by simpa using R);have e18:r6 (.int 10) (.int 18)=.ok (.int 1000000000000000000):=by simp[r6,j3]
    have e6:r6 (.int 10) (.int 6)=.ok (.int 1000000):=by simp[r6,j3]
    generalize dr c cell 9 1000000=f0 at d9 d9a d9b;generalize dr c cell 10 7=g0 at Q P Y;let l:Int:=(1+f0)*w;have hw':1<=w/\w<=1000000000000000000:=by simp only[aG,ei,or_false]at hw;lia
    have K:l.natAbs<=1000000*1000000000000000000:=by show ((1+f0)*w).natAbs<=_;rw[aZ];exact eX (by lia) (by lia)
    have hfar1:1<=l:=by have:0<(1+f0)*w:=aY (by lia) (by lia);show 1<=(1+f0)*w;lia
    have hl3:i9 (lstM (gj (cM (.int 1)) (gj (cM (.int 1)) (gj (gO r6 (cM (.int 10)) (cM (.int 18))) gy)))) (mq (St g (r (c0-4)) s none))=.ok (.lst ([1,1,1000000000000000000].map T.int)):=by
     have o:gO r6 (cM (.int 10)) (cM (.int 18)) (mq (St g (r (c0-4)) s none))=.ok (.int 1000000000000000000):=gC rfl rfl e18;have h3:3<=sizeLine:=by decide
     simp only[i9,lstM,gj,gy,cM,o,M.bind_ok];rfl
    let A:LI:=g.map λx=>x*l;have es:jL [none,some 6] (iG (gq 3)) (jq 0) (λ_=>.ok true) (uk c) (vw (St g (r (c0-4)) s (some (.p (.int l)))))=.ok (A.map T.int):=iI g T.int (λx=>T.int (x*l)) rfl (by lia) (λx E=>⟨_,rfl,rfl,gC rfl rfl (jv (by have:=b1 x E;lia))⟩) (by rw[aJ];rfl)
    refine⟨A++[(c0-4)*l+g0],iN rfl (HL (gB (iS (L Z) rfl) (gB (iS (by rw[B,N]) rfl) (gB (ρ':=St A (r ((c0-4)*l+g0)) s (some (.p (.int l)))) (jC (by rw[X,h4];rfl) (gB (ρ':=St g (r (c0-4)) s (some (.p (.int l)))) (gU (gC (gC rfl (kn (z:=.int 1000000) rfl rfl (gC rfl rfl e6) d9) (i5 _ _)) (gC (x:=.lst ([1,1,1000000000000000000].map T.int)) (y:=.int (dr c cell 11 3)) hl3 (kn rfl rfl rfl d11) ew) (jv (by lia))) rfl) (gB (ρ':=St A (r (c0-4)) s (some (.p (.int l)))) (Kj es (Hy _) rfl) (gU (gC (gC rfl rfl (jv (by lia))) (kn rfl rfl rfl Q) (i5 _ _)) rfl)))) (C _ _ _ (by simp[A,l1])))))),wQ (by simp[A,l1]) (λx E=>?_) ?_ ?_⟩
    .obtain⟨y,hy,rfl⟩:=aE.mp E;have:=b1 y hy;unfold Bn;rw[aZ];refine cj (eX this K) (by decide)
    .unfold Bn;have I:((c0-4)*l).natAbs<=5*(1000000*1000000000000000000):=by rw[aZ];exact eX (by lia) K
     have h2:=eD ((c0-4)*l) g0;refine cj (aO h2 (Nat.add_le_add I (show g0.natAbs<=7 by lia))) (by decide)
    .obtain⟨p,J,h⟩:=r1;refine⟨p,J,?_⟩;have:vc A p=vc g p*l:=by unfold vc;rw[ag,ag,aw];cases g[p]?<;>simp
     rw[this];exact eY h (by lia)
   .exact⟨g++[c0-4],iN rfl (HL (gB (iS (L Z) rfl) (gB (iS (by rw[B,N]) rfl) (gB (iS (by rw[X];simp[h4]) rfl) (C _ _ _ l1))))),wQ l1 U (D _ (by lia)) r1⟩
def s9(h:a.length=b.length):iX a b=iX b a:=by
 unfold iX;rw[h];congr 1;funext k;congr 1;funext j;rw[dY (vc a k),dY (vc a j)];by_cases q:vc b j*vc a k=vc b k*vc a j
 .rw[beq_iff_eq.mpr q,beq_iff_eq.mpr q.symm]
 .rw[beq_eq_false_iff_ne.mpr q,beq_eq_false_iff_ne.mpr λz=>q z.symm]
def yC ns (u d h:Nat) (S:1<=d/\d<=3) (X:h<=7):∃j:LL,kM c [.scr ns,.int u,.int d,.int h]=.ok (j.map tI)/\qB d 84 j/\j.length<=h:=by
 have sz:1000<sizeLine:=by decide
 obtain⟨H,e,j,J,A,rfl,w,s,z⟩:=jX (m:=nj 5) (g:=rT c) (λ(i:Nat)=>T.int (i:Int))
  (λk H=>∃(j:LL) (J A:Option W),H=[some (.p (.scr ns)),some (.p (.int u)),some (.p (.int d)),some (.p (.int h)),some (.o (j.map tI)),J,A]/\j.length<=k/\(∀f∈j,GC d 84 f)/\j.Pairwise λa b=>iX a b=false)
  (List.range h) 0 _ ⟨[],none,none,rfl,aL _,(λf r=>nomatch r),List.Pairwise.nil⟩ (by
   rintro i k H I ⟨j,J,A,rfl,w,s,z⟩;rw[aH]at w ⊢;have D:i<h:=by simpa using (ae.mp I).1
   have C:k=i:=by rw[List.getElem?_range D]at I;cases I;rfl
   subst C;obtain⟨v,P,-⟩:=lO ns (u+k);obtain⟨n,en,B⟩:=zS v d j S s (by lia);let R:En:=[some (.p (.scr ns)),some (.p (.int u)),some (.p (.int d)),some (.p (.int h)),some (.o (j.map tI)),some (.p (.int (k:Int))),some (.p (tI n))];have Q:jL [none,some 6] (iG (gq 4)) (jq 0) (ji (gF (gj (gq 1) (gj (gq 0) gy)) (j8 c))) (nu c) (vw R)=.ok ((j.filter λf=>iX n f).map tI):=GY j tI tI (λf=>iX n f) rfl (by lia) (λf r=>⟨_,rfl,iT (kf rfl rfl (yg (d+1) 84 n f B.gl.1 (s f r).gl.1 (by lia) (by lia) B.gl.2 (s f r).gl.2)),λ_=>rfl⟩) rfl
   have L:ji (gO (ie false) (i9 (jL [none,some 6] (iG (gq 4)) (jq 0) (ji (gF (gj (gq 1) (gj (gq 0) gy)) (j8 c))) (nu c))) (i9 (lstM gy))) (vw R)=.ok (j.filter λf=>iX n f).isEmpty:=by refine iT (gC (y:=.lst []) (iD Q) (by simp) ?_);rw[xA false _ (by simp) (aO (tX _) (by decide))];simp
   have K:setO 6 (sJ (gF (gj (gF (gj (gq 0) (gj (gO iH (gq 1) (gq 5)) gy)) (gW c)) (gj (gq 2) (gj (gq 4) gy))) (lD c))) [some (.p (.scr ns)),some (.p (.int u)),some (.p (.int d)),some (.p (.int h)),some (.o (j.map tI)),some (.p (.int (k:Int))),A]=.nx R:=B5 (t:=tI n) (kn (kf (x:=.scr ns) (y:=.int ((u+k:Nat):Int)) rfl (gC rfl rfl (by rw[i5];simp)) P) rfl rfl en) (NT n) rfl
   by_cases E:(j.filter λf=>iX n f)=[]
   .refine⟨_,_,rfl,.inl (gB K (jC (L.trans (by rw[E];rfl)) (xV (us:=j.map tI) (t:=tI n) rfl rfl (by simp;lia) rfl))),j++[n],_,_,by rw[a9];rfl,by simp;lia,λf r=>?_,cX.mpr ⟨z,dN _ _,λf r g F=>?_⟩⟩
    .rcases aj.mp r with q|q
     .exact s f q
     .rw[ak.mp q];exact B
    .rw[ak.mp F,s9 (by rw[(s f r).gl.1,B.gl.1])];cases N:iX n f with
     |false=>rfl
     |true=>have:=aV.mpr ⟨r,N⟩;rw[E]at this;exact nomatch this
   .refine⟨_,_,rfl,.inl (gB K (iS (L.trans (by
     cases U:(j.filter λf=>iX n f) with
     |nil=>exact absurd U E
     |cons a l=>rfl)) rfl)),j,_,_,rfl,by lia,s,z⟩)
 rw[aH,cT]at w;exact⟨j,qI rfl (gB (nF (ts:=[]) (by simp) rfl) (gB (lZ (mP h (by lia) rfl) e) rfl)),⟨s,by lia,z⟩,w⟩
noncomputable def KR(a b:LI):Int:=((a.zip b).map λp=>p.1*p.2).sum
end CL
namespace CL
open PySem L2 L3
variable {c:Cs}
def wV{a:Type}[Inhabited a](l:List a) f k w (h:k<l.length):ls (.lst (l.map f)) (.int (k:Int))=.ok (f (l.getD k w)):=by have e:=AY (l.map f) k (by rw[ax];exact h);rw[c7]at e;show (match rW (l.map f) k with|some t=>M.ok t|none=>.bad)=_;rw[e,ag,ai h];rfl
def Qq(b:f1 ρ=.ok a1)(d:f2 ρ=.ok a2)(e:f3 ρ=.ok a3)(a:f4 ρ=.ok a4):lstM (gj f1 (gj f2 (gj f3 (gj f4 gy)))) ρ=.ok [a1,a2,a3,a4]:=by simp only[lstM,gj,gy,b,d,e,a,M.bind_ok];rfl
def zq l k i:vc (l.drop k) i=vc l (k+i):=by unfold vc;rw[ag,List.getElem?_drop,<-ag]
def Fv(d:a ρ=.rf ts)(hr:.rf ts=r):gQ a b ρ=r:=by unfold gQ;rw[d];exact hr
def PP(x:Rat):Int:=if 0<x then 1 else if x<0 then -1 else 0
def M6{jD a:Int}(g:0<a)(e:(jD:Rat)=(a:Rat)*v):jP jD=PP v:=by
 have f:=ye g;unfold jP PP;rcases eZ jD 0 with h|h|h
 .have d:(jD:Rat)<0:=by exact_mod_cast h
  have b:v<0:=by refine fg ?_ (fj f);grind
  rw[aS (by lia),aR h,aS (by grind),aR b]
 .have d:(jD:Rat)=0:=by rw[h];rfl
  have b:v=0:=by grind
  rw[aS (by lia),aS (by lia),aS (by grind),aS (by grind)]
 .have d:=ye h;have b:0<v:=by refine fg ?_ (fj f);grind
  rw[aR h,aR b]
def MQ u (k:Int):jQ d X (vc (u.map λx=>k*x))=(k:Rat)*jQ d X (vc u):=by have:=xr (d:=d) (X:=X) (vc u) (vc u) (vc (u.map λx=>k*x)) 1 k 0 (λi=>by rw[lM];lia);have a:((1:Int):Rat)=1:=rfl;have b:((0:Int):Rat)=0:=rfl;rw[a,b]at this;grind
def Qs(k:Nat->Int)(us:LL):LL:=(List.range us.length).map λi=>(us.getD i []).map λx=>k i*x
def Fp a b (d:k≠0) (f:m≠0):iX (a.map λx=>k*x) (b.map λx=>m*x)=iX a b:=by
 unfold iX;rw[ax];congr 1;funext i;congr 1;funext j;rw[lM,lM,lM,lM];have g:k*vc a i*(m*vc b j)=(k*m)*(vc a i*vc b j):=by grind
 have e:k*vc a j*(m*vc b i)=(k*m)*(vc a j*vc b i):=by grind
 rw[g,e];have h:=eY d f;by_cases q:vc a i*vc b j=vc a j*vc b i
 .rw[q,beq_self_eq_true,beq_self_eq_true]
 .rw[beq_eq_false_iff_ne.mpr q,beq_eq_false_iff_ne.mpr λz=>q (Int.eq_of_mul_eq_mul_left h z)]
def Nk(h:qB d B us) k (n:∀i,i<us.length->k i≠0/\(k i).natAbs<8):qB d (B+3) (Qs k us):=by
 refine⟨λf A=>?_,by unfold Qs;rw[ax,cT];exact h.few,?_⟩
 .obtain⟨i,a,rfl⟩:=aE.mp A;have e:=aT.mp a;obtain⟨r,w⟩:=n i e;have v:us.getD i []=us[i]:=by rw[ag,ai e];rfl
  rw[v];have g:=h.gc _ (aW e);refine⟨⟨by rw[ax];exact g.gl.1,λx u=>?_⟩,?_⟩
  .obtain⟨y,o,rfl⟩:=aE.mp u;exact (Bn.mul (m:=3) (by unfold Bn;exact w) (g.gl.2 y o)).mono (by lia)
  .obtain⟨p,s,hne⟩:=g.re;exact⟨p,s,by rw[lM];exact eY r hne⟩
 .rw[c5];intro i j a b l;unfold Qs at a b ⊢;rw[ax,cT]at a b;rw[c7,c7,fq,fq,Fp _ _ (n i a).1 (n j b).1];have z:us.getD i []=us[i]:=by rw[ag,ai a];rfl
  have q:us.getD j []=us[j]:=by rw[ag,ai b];rfl
  rw[z,q];exact c5.mp h.pw i j a b l
def rJ(d:Nat)(st u:LI):LI:=u.take d++[vc u d+((u.zip st).map λp=>p.1*p.2).sum]
theorem xY:∀st u,st.length<=u.length->((u.zip st).map λp=>p.1*p.2).sum=sm st.length λi=>vc u i*vc st i
 |[],u,_=>by simp[sm]
 |s::st,x::u,h=>by have:=xY st u (by simpa using h);show x*s+((u.zip st).map λp=>p.1*p.2).sum=vc (x::u) 0*vc (s::st) 0+sm st.length λi=>vc (x::u) (i+1)*vc (s::st) (i+1);rw[this];rfl
 |s::st,[],h=>by simp at h
def HI(f:u.length=d+1)(hs:st.length=d) k:vc (rJ d st u) k=if k<d then vc u k else if k=d then vc u d+kg d (vc u) (vc st) else 0:=by
 unfold rJ;rw[xY st u (by omega),hs];have e:(u.take d).length=d:=by rw[bT];omega
 unfold vc;by_cases a:k<d
 .rw[aR a,ag,List.getElem?_append_left (by omega),List.getElem?_take_of_lt a,<-ag]
 .rw[aS a,ag,List.getElem?_append_right (by omega),e];by_cases b:k=d
  .rw[aR b,b,de];rfl
  .rw[aS b,List.getElem?_eq_none (by simp;omega)];rfl
def tm(a:u.length=d+1)(hs:st.length=d)(h:k<d):vc (rJ d st u) k=vc u k:=by rw[HI a hs,aR h]
def Nm(a:u.length=d+1)(hs:st.length=d):vc (rJ d st u) d=vc u d+kg d (vc u) (vc st):=by rw[HI a hs,aS (bc _),aR rfl]
theorem sQ:∀n f,((sm n f:Int):Rat)=lG n λi=>(f i:Rat)
 |0,_=>rfl
 |n+1,f=>by unfold sm lG;rw[<-sQ n λi=>f (i+1)];simp
theorem Ku:∀n f,(∀i,i<n->Bn N (f i))->Bn (N+n) (sm n f)
 |0,f,_=>sS
 |n+1,f,h=>by have:=Ku n (λi=>f (i+1)) λi a=>h (i+1) (by omega);exact ((h 0 (by omega)).add this).mono (by omega)
def lS(h:∀x∈u,Bn B x) k:Bn B (vc u k):=by
 by_cases a:k<u.length
 .rw[jc u k a];exact h _ (aW _)
 .rw[kH u k (by omega)];exact sS
def pO(d:a.length=n):iX a b=true↔∀k,k<n->∀j,j<k->vc a k*vc b j=vc a j*vc b k:=by unfold iX;simp only[cG,aT,beq_iff_eq,d]
def Ia(g:a.length=d+1)(l:b.length=d+1)(hs:st.length=d)(h:iX a b=false):iX (rJ d st a) (rJ d st b)=false:=by
 have p:(rJ d st a).length=d+1:=by unfold rJ;rw[aU,bT];simp;omega
 cases q:iX (rJ d st a) (rJ d st b) with
 |false=>rfl
 |true=>
  exfalso;have q:=(pO p).mp q;have:=(pO g).mpr λk m j f=>by
   have o:∀k,k<d->∀j,j<k->vc a k*vc b j=vc a j*vc b k:=λk m j f=>by have:=q k (by omega) j f;rw[tm g hs m,tm l hs m,tm g hs (by omega),tm l hs (by omega)]at this;exact this
   by_cases n:k<d
   .exact o k n j f
   .have e:k=d:=by omega
    subst e;have:=q k (by omega) j f;rw[Nm g hs,Nm l hs,tm g hs f,tm l hs f]at this;have s:kg k (vc a) (vc st)*vc b j=vc a j*kg k (vc b) (vc st):=by
     unfold kg;rw[dY,<-jI,<-jI];refine iV _ _ _ λi r=>?_;have:vc a i*vc b j=vc a j*vc b i:=by
      rcases dc i j with z|z|z
      .exact (o j f i z).symm
      .rw[z]
      .exact o i r j z
     calc vc b j*(vc a i*vc st i)=(vc a i*vc b j)*vc st i:=by ac_rfl
      _=(vc a j*vc b i)*vc st i:=by rw[this]
      _=vc a j*(vc b i*vc st i):=by ac_rfl
    grind
  rw[h]at this;cases this
def Nx{l:LL}(h:qB d B l)(r:d<=3)(hs:st.length=d)(j:∀x∈st,x.natAbs<16):qB d (B+8) (l.map (rJ d st)):=by
 refine⟨λf o=>?_,by rw[ax];exact h.few,?_⟩
 .obtain⟨u,m,rfl⟩:=aE.mp o;have g:=h.gc u m;refine⟨⟨by unfold rJ;rw[aU,bT,g.gl.1];simp,λx e=>?_⟩,?_⟩
  .unfold rJ at e;rcases aj.mp e with q|q
   .exact (g.gl.2 x (eV q)).mono (by omega)
   .rw[ak.mp q,xY st u (by rw[g.gl.1];omega),hs];have n:=Ku d _ λi _=>(lS g.gl.2 i).mul (lS (B:=4) (λx e=>by unfold Bn;exact j x e) i);exact ((lS g.gl.2 d).add n).mono (by omega)
  .obtain⟨p,k,hne⟩:=g.re;exact⟨p,k,by rw[HI g.gl.1 hs,aR k];exact hne⟩
 .rw[dP];exact h.pw.imp_of_mem λ{a b} ha hb q=>Ia (h.gc a ha).gl.1 (h.gc b hb).gl.1 hs q
def JL{i j:Nat}{ρ ρ':En}{a:Pe->M T}{ts us:List T}{k:Nat}{y:T}(b:ρ[i]? = some (some (.o ts)))(f:ρ[j]? = some (some (.o us)))(m:a (vw ρ)=.ok (.int (k:Int)))(e:us[k]? = some y)(n:k<1000)(h:i≠j)(l:ts.length<sizeLine)(hr:ρ'=(ρ.set j (some (.o (us.eraseIdx k)))).set i (some (.o (ts++[y])))):vC i j (sJ a) ρ=.nx ρ':=by
 unfold vC lg sJ;rw[b,f,m];have g:(0:Int)<=(k:Int):=by omega
 have d:(k:Int)<1000:=by omega
 have p:(k:Int).toNat=k:=by omega
 simp[g,d,h,l,e,hr]
theorem FV{b d:Type}(f:b->d):∀(l:List b) (k:Nat),(l.map f).eraseIdx k=(l.eraseIdx k).map f
 |[],_=>rfl
 |_::_,0=>rfl
 |a::l,k+1=>by show f a::(l.map f).eraseIdx k=f a::(l.eraseIdx k).map f;rw[FV f l k]
theorem Cr{b:Type}:∀(l:List b) (q:Nat) (h:q<l.length),(l[q]::l.eraseIdx q).Perm l
 |_::_,0,_=>List.Perm.refl _
 |a::l,q+1,h=>((List.Perm.swap a _ _).trans ((Cr l q (by simpa using h)).cons a))
def Ew a:0<=jP a*a/\(a≠0->0<jP a*a/\jP a*jP a=1/\jP a≠0):=by
 unfold jP;split
 .exact⟨by lia,λ_=>⟨by lia,rfl,by decide⟩⟩
 .split
  .exact⟨by lia,λ_=>⟨by lia,rfl,by decide⟩⟩
  .exact⟨by lia,λh=>by lia⟩
theorem xG:∀n f,sm (n+1) f=sm n f+f n
 |0,f=>by rw[sm,sm,sm];lia
 |n+1,f=>by rw[sm,xG n λi=>f (i+1),sm];lia
def Oa xs:P5 (tI xs) (.int (-1))=.ok (tI xs.reverse):=by simp[tI,List.map_reverse]
def Kl(h:a+b≠0) u:(a+b)*jQ d (λj=>(b*X j+a*Z j) / (a+b)) u=b*jQ d X u+a*jQ d Z u:=by
 unfold jQ;have e:lG d (λp=>(u p)*((b*X p+a*Z p) / (a+b)))=(b / (a+b))*lG d (λp=>(u p)*X p)+(a / (a+b))*lG d (λp=>(u p)*Z p):=by rw[<-og];exact iJ _ _ _ λi _=>by grind
 rw[e];grind
noncomputable def hv(d:Nat)(u P:Vc):Int:=sm d (λi=>u i*P i)-u d*P d
def XP(d:Nat)(P:Vc):Nat->Rat:=λi=>(P i:Rat) / (P d:Rat)
def FZ(h:0<P d):(hv d u P:Rat)=(P d:Rat)*jQ d (XP d P) u:=by
 have b:(P d:Rat)≠0:=λz=>by have:=ye h;grind
 have e:(P d)*lG d (λi=>(u i)*XP d P i)=lG d λi=>(u i)*(P i):=by have:=og (P d) 0 d (λi=>(u i)*XP d P i) (λ_=>0);rw[iJ d _ (λi=>(u i)*(P i)) λi _=>by unfold XP;grind]at this;grind
 unfold hv jQ;have a:((sm d (λi=>u i*P i)-u d*P d:Int):Rat)=lG d (λi=>(u i)*(P i))-(u d)*(P d):=by rw[Rat.intCast_sub,sQ,fu];rw[iJ d _ (λi=>(u i)*(P i)) λi _=>fu _ _]
 rw[a];grind
def LU(h:0<P d):jP (hv d u P)=PP (jQ d (XP d P) u):=M6 h (FZ h)
def M4(h:∀i,g*z i=a*x i+b*y i):g*hv d z P=a*hv d x P+b*hv d y P:=by
 unfold hv;rw[fy,fy,fy,<-jI,<-jI,<-jI];have e:sm d (λi=>g*(z i*P i))=sm d (λi=>a*(x i*P i))+sm d (λi=>b*(y i*P i)):=by rw[jI a,jI b,<-qX];exact iV d _ _ λi _=>by have:=h i;grind
 rw[e];grind
def J4(h:∀i,g*R i=a*P i+b*Q i):g*hv d u R=a*hv d u P+b*hv d u Q:=by
 unfold hv;rw[fy,fy,fy,<-jI,<-jI,<-jI];have e:sm d (λi=>g*(u i*R i))=sm d (λi=>a*(u i*P i))+sm d (λi=>b*(u i*Q i)):=by rw[jI a,jI b,<-qX];exact iV d _ _ λi _=>by have:=h i;grind
 rw[e];grind
noncomputable def sk(p i:Nat):Nat:=if i<p then i else i+1
def Ip p i:sk (p+1) (i+1)=sk p i+1:=by unfold sk;split<;>split<;>lia
theorem AO:∀d p f,p<=d->lG (d+1) f=lG d (λi=>f (sk p i))+f p
 |0,0,f,_=>by unfold lG lG;grind
 |d+1,0,f,_=>by
  rw[lG];have:(λi=>f (sk 0 i))=λi=>f (i+1):=funext λi=>by simp[sk]
  rw[this];grind
 |d+1,p+1,f,h=>by
  rw[lG,AO d p (λi=>f (i+1)) (by lia)];have:lG (d+1) (λi=>f (sk (p+1) i))=f 0+lG d (λi=>f (sk p i+1)):=by rw[lG];congr 1;exact iJ d _ _ λi _=>by rw[Ip]
  rw[this];grind
def GR d p f (h:p<=d):sm (d+1) f=sm d (λi=>f (sk p i))+f p:=by have:=AO d p (λi=>(f i)) h;rw[<-sQ,<-sQ]at this;exact_mod_cast this
def Et(h:p<=d):sk p d=d+1:=by unfold sk;rw[aS (by lia)]
def HF(h:p<=d) X u:jQ (d+1) X u=jQ d (λi=>X (sk p i)) (λi=>u (sk p i))+(u p:Rat)*X p:=by unfold jQ;rw[AO d p _ h];dsimp only;rw[Et h];grind
def KF(h:p<=d) u P:hv (d+1) u P=hv d (λi=>u (sk p i)) (λi=>P (sk p i))+u p*P p:=by unfold hv;rw[GR d p _ h];dsimp only;rw[Et h];lia
def On(d:Nat)(us:LL)(s:LI)(X:Nat->Rat):Prop:=∀i,i<us.length->0<(vc s i:Rat)*jQ d X (vc (us.getD i []))
def Rz(d:Nat)(us:LL)(s:LI):Prop:=∃X,On d us s X
def Rx(d:Nat)(us:LL)(u s:LI):Prop:=∃X,jQ d X (vc u)=0/\On d us s X
def BJ(l:On d us s X)(h:On d us s Y)(a:0<=jQ d X (vc u))(b:jQ d Y (vc u)<=0):Rx d us u s:=by
 by_cases q:jQ d X (vc u)=0
 .exact⟨X,q,l⟩
 by_cases C:jQ d Y (vc u)=0
 .exact⟨Y,C,h⟩
 have n:0<jQ d X (vc u):=by grind
 have r:0 < -jQ d Y (vc u):=by grind
 generalize E:jQ d X (vc u)=A at *;generalize I:-jQ d Y (vc u)=B at *;have g:A+B≠0:=by grind
 have p:0<A+B:=by grind
 have f:=λw=>Kl (d:=d) (X:=X) (Z:=Y) g w;refine⟨λj=>(B*X j+A*Y j) / (A+B),?_,λi k=>?_⟩
 .have:=f (vc u);have e:(A+B)*jQ d (λj=>(B*X j+A*Y j) / (A+B)) (vc u)=0:=by grind
  rcases Rat.mul_eq_zero.mp e with z|z
  .exact absurd z g
  .exact z
 .have m:=l i k;have o:=h i k;have:=f (vc (us.getD i []));generalize jQ d (λj=>(B*X j+A*Y j) / (A+B)) (vc (us.getD i []))=Z at *;generalize jQ d X (vc (us.getD i []))=x at *;generalize jQ d Y (vc (us.getD i []))=y at *;have F:=fz r m;have H:=fz n o;generalize (vc s i)=v at *;have e:(A+B)*(v*Z)=B*(v*x)+A*(v*y):=by rw[show (A+B)*(v*Z)=v*((A+B)*Z) by grind,this];grind
  have D:0<(A+B)*(v*Z):=by rw[e];grind
  refine fg (c:=A+B) ?_ (by grind);rw[Rat.mul_zero];exact D
theorem Fm:∀d f,(∀i,i<d->Bn N (f i))->Bn (N+d) (sm d f)
 |0,_,_=>sS
 |d+1,f,h=>by rw[sm];exact ((h 0 (by lia)).add (Fm d (λi=>f (i+1)) λi a=>h (i+1) (by lia))).mono (by lia)
def Kz{B M d:Nat}(b:∀x∈u,Bn B x)(a:∀x∈P,Bn M x):Bn (B+M+d+1) (hv d (vc u) (vc P)):=((Fm d _ λi _=>(lS b i).mul (lS a i)).sub ((lS b d).mul (lS a d))).mono (by lia)
def IJ(i:N<=20000) a b (h:a.length<=100) (e:∀x∈a,Bn N x) (f:∀x∈b,Bn N x):p9 c [tI a,tI b]=.ok (.int (KR a b)):=by
 have sz:1000<sizeLine:=by decide
 have g:jL [none,none] (ng (gj (gq 0) (gj (gq 1) gy))) (mU 2 (iL (jq 0) (iL (jq 1) mW))) (λ_=>.ok true) (EJ c) (vw (iA 2 [tI a,tI b]))=.ok (((a.zip b).map λp=>p.1*p.2).map T.int):=iI (a.zip b) (λp=>T.tup [.int p.1,.int p.2]) (λp=>T.int (p.1*p.2)) (oN rfl rfl rfl rfl) (by rw[eU];lia) (λp d=>⟨_,rfl,rfl,gC rfl rfl (jn ((e _ (aX d).1).ok (f _ (aX d).2) (by lia) (by lia)))⟩) (by rw[aJ];rfl)
 exact iN rfl (ig (mF g (Bp _)))
theorem BS:∀d a b,a.length=d->b.length=d->KR a b=sm d λi=>vc a i*vc b i
 |0,[],[],_,_=>rfl
 |d+1,x::a,y::b,ha,hb=>by show x*y+KR a b=_;rw[BS d a b (by simpa using ha) (by simpa using hb)];rfl
def vF(h:u.length=d+1)(a:i<d):vc u.dropLast i=vc u i:=by rw[jc _ i (by simp;lia),jc _ i (by lia),List.getElem_dropLast]
def Az(h:u.length=d+1):ls (tI u) (.int (-1))=.ok (.int (vc u d)):=by
 have hne:u≠[]:=λz=>by rw[z]at h;simp at h
 have e:u.getLast? = some (vc u d):=by rw[List.getLast?_eq_some_getLast hne,jc u d (by lia),List.getLast_eq_getElem];simp[h]
 simp[tI,pI,Mt,hne,e]
def zA(h:u.length=d+1)(a:f ρ=.ok (tI u)):i0 f (λ_=>.ok none) (ia (nU (λi=>.int (-i)) (cM (.int 1)))) ρ=.ok (tI u.dropLast):=by
 have:=G3 a λz=>by have:=congrArg List.length z;simp at this;rw[this]at h;simp at h
 rw[<-List.map_dropLast]at this;exact this
def G8(q:B<=20000)(p:B'<=20000)(r:d<=50)(b:u.length=d+1)(a:P.length=d+1)(n:∀x∈u,Bn B x)(l:∀x∈P,Bn B' x)(o:f ρ=.ok (tI u))(m:g ρ=.ok (tI P)) :
  gF (gj (i0 f (λ_=>.ok none) (ia (nU (λi=>.int (-i)) (cM (.int 1))))) (gj (i0 g (λ_=>.ok none) (ia (nU (λi=>.int (-i)) (cM (.int 1))))) gy)) (p9 c) ρ=.ok (.int (sm d λi=>vc u i*vc P i)):=by
 have e:u.dropLast.length=d:=by simp[b]
 have j:P.dropLast.length=d:=by simp[a]
 refine kf (zA b o) (zA a m) ((IJ (N:=max B B') (by lia) _ _ (by lia) (λx h=>(n x (fB _ h)).mono (by lia)) λx h=>(l x (fB _ h)).mono (by lia)).trans ?_);rw[BS d _ _ e j];congr 2;exact iV d _ _ λi k=>by rw[vF b k,vF a k]
def oK{d B M:Nat}(h:B<=20000)(g:M<=20000)(i:d<=50)(e:u.length=d+1)(b:P.length=d+1)(f:∀x∈u,Bn B x)(a:∀x∈P,Bn M x):ju c [tI u,tI P]=.ok (.int (hv d (vc u) (vc P))):=iN rfl (ig (gC (G8 h g i e b f a rfl rfl) (gC (gC rfl (rF rfl) (Az e)) (gC rfl (rF rfl) (Az b)) (jn ((lS f d).ok (lS a d) (by lia) (by lia)))) (nP _ _)))
def wo(row:LI)(p:Nat):LI:=row.take p++row.drop (p+1)
def Bi(h:p<row.length):(wo row p).length+1=row.length:=by unfold wo;simp;lia
def BF(h:p<row.length) i:vc (wo row p) i=vc row (sk p i):=by
 unfold wo sk;rw[ph,bT,eE (by lia)];by_cases a:i<p
 .rw[aR a,aR a,jc _ i (by simp;lia),jc _ i (by lia),fC]
 .rw[aS a,aS a,zq];congr 1;lia
def Ed(h:x∈wo row p):x∈row:=(aj.mp h).elim eV fE
def mK row (p:Nat) (e:p<row.length) (f:row.length<=100):iC c [tI row,.int (p:Int)]=.ok (tI (wo row p)):=by have b:=lL (fe:=gq 0) (fd:=gq 1) (ρ:=vw (iA 2 [tI row,.int (p:Int)])) rfl rfl (by rw[ax];lia);have a:=uL (fe:=gq 0) (fd:=gO iH (gq 1) (cM (.int 1))) (d:=p+1) (ts:=row.map T.int) (ρ:=vw (iA 2 [tI row,.int (p:Int)])) rfl (gC rfl rfl (by rw[i5];simp)) (by lia) (by intro z;have:=congrArg List.length z;simp at this;subst this;simp at e);rw[<-eA]at b;rw[<-eB]at a;exact iN rfl (ig (gC (x:=tI (row.take p)) (y:=tI (row.drop (p+1))) b a (pj _ _ (by simp;lia))))
structure Gp(d M:Nat)(P:LI):Prop where
 len:P.length=d+1
 bn:∀x∈P,Bn M x
 pos:0<vc P d
def tV i:ug [.int i]=.ok (.int (i.natAbs:Int)):=by show M.ok (T.int (if i<0 then -i else i))=_;congr 2;split<;>lia
def AZ(h:Bn N x):Bn N (x.natAbs:Int):=by unfold Bn at *;simpa using h
def yS{d B M:Nat}(hB:B<=2000)(hM:M<=5000)(X:d<=50)(hu:u.length=d+2)(s:∀x∈u,Bn B x)(hp:p<=d)(j:Gp d M P) :
  ∃Q g,j9 c [tI u,.int (p:Int),tI P]=.ok (tI Q)/\Q.length=d+2/\(∀x∈Q,Bn (B+M+d+1) x)/\0<g/\(∀i,g*vc Q (sk p i)=((vc u p).natAbs:Int)*vc P i)/\g*vc Q p = -jP (vc u p)*hv d (λi=>vc u (sk p i)) (vc P):=by
 have sz:1000<sizeLine:=by decide
 have A:=ko u p (by lia);have q:=lS s p;have wl:=Bi (row:=u) (p:=p) (by lia);have o:∀x∈wo u p,Bn B x:=λx e=>s x (Ed e);have U:vc (wo u p)=λi=>vc u (sk p i):=funext λi=>BF (by lia) i;have v:=oK (c:=c) (d:=d) (B:=B) (M:=M) (by lia) (by lia) X (by lia) j.len o j.bn;have k:=Kz (d:=d) o j.bn;rw[U]at v k;generalize hH:hv d (λi=>vc u (sk p i)) (vc P)=h at *;have N:=qG (vc u p);have bs:Bn 1 (-jP (vc u p)):=by unfold Bn;lia
 have f:Bn (B+M+d+1) (-jP (vc u p)*h):=by
  have:=N;unfold Bn at k ⊢;rw[aZ];have b:(-jP (vc u p)).natAbs<=1:=by lia
  exact cj (aO (eW _ b) (by lia)) k
 let a:LI:=P.map λx=>((vc u p).natAbs:Int)*x;have E:a.length=d+1:=by simp[a,j.len]
 have D:∀x∈a,Bn (B+M+d+1) x:=λx e=>by obtain⟨y,F,rfl⟩:=aE.mp e;exact ((AZ q).mul (j.bn y F)).mono (by lia)
 have C:∀i,vc a i=((vc u p).natAbs:Int)*vc P i:=lM P _;let row:LI:=(a.take p++[-jP (vc u p)*h])++a.drop p;have rl:row.length=d+2:=by simp[row,E];lia
 have br:∀x∈row,Bn (B+M+d+1) x:=λx e=>by
  rcases aj.mp e with z|z
  .rcases aj.mp z with z|z
   .exact D x (eV z)
   .rw[ak.mp z];exact f
  .exact D x (fE z)
 obtain⟨g,J,Z,Y,yl,r,H⟩:=qS (c:=c) (B+M+d+1) (by lia) row (by lia) br;have m:∀i,vc row i=if i<p then vc a i else if i=p then -jP (vc u p)*h else vc a (i-1):=λi=>by
  show vc ((a.take p++[-jP (vc u p)*h])++a.drop p) i=_;have n:(a.take p).length=p:=by rw[bT];lia
  rw[ph,ph,aU,n,b8];by_cases b:i<p
  .rw[aR (by lia),aR b,aR b,jc _ i (by rw[n];exact b),jc _ i (by lia),fC]
  .by_cases l:i=p
   .subst l;rw[aR (by lia),aS b,aS b,aR rfl,de];rfl
   .rw[aS (by lia),aS b,aS l,zq];congr 1;lia
 refine⟨J,g,?_,by lia,H,Z,λi=>?_,?_⟩
 .let S (I L x5:Option W):En:=[some (.p (tI u)),some (.p (.int (p:Int))),some (.p (tI P)),I,L,x5];have R:jL [none,some 3] (iG (gq 2)) (jq 0) (λ_=>.ok true) (rV c) (mq (S (some (.p (.int ((vc u p).natAbs:Int)))) (some (.p (.int (-jP (vc u p)*h)))) none))=.ok (a.map T.int):=
   iI P T.int (λx=>T.int (((vc u p).natAbs:Int)*x)) rfl (by have:=j.len;lia) (λx e=>⟨_,rfl,rfl,gC rfl rfl (jn ((AZ q).ok (j.bn x e) (by lia) (by lia)))⟩) (by simp[a])
  have w:=lL (fe:=gq 5) (fd:=gq 1) (d:=p) (ts:=a.map T.int) (ρ:=vw (S (some (.p (.int ((vc u p).natAbs:Int)))) (some (.p (.int (-jP (vc u p)*h)))) (some (.p (tI a))))) rfl rfl (by rw[ax];lia);have K:i0 (gq 5) (ia (gq 1)) (λ_=>.ok none) (vw (S (some (.p (.int ((vc u p).natAbs:Int)))) (some (.p (.int (-jP (vc u p)*h)))) (some (.p (tI a)))))=.ok (tI (a.drop p)):=by have:i0 (gq 5) (ia (gq 1)) (λ_=>.ok none) (vw (S (some (.p (.int ((vc u p).natAbs:Int)))) (some (.p (.int (-jP (vc u p)*h)))) (some (.p (tI a)))))=.ok (.tup (mJ (a.map T.int) (some (p:Int)) none)):=rfl;rw[this,rB,<-eB];rfl
  rw[<-eA]at w;exact iN rfl (gB (ρ':=S (some (.p (.int ((vc u p).natAbs:Int)))) none none) (gU (lV (gC rfl rfl A) (tV _)) rfl) (gB (ρ':=S (some (.p (.int ((vc u p).natAbs:Int)))) (some (.p (.int (-jP (vc u p)*h)))) none) (gU (gC (rF (rS (gC rfl rfl A) (oZ _))) (kf (kf rfl rfl (mK u p (by lia) (by lia))) rfl v) (jn (bs.ok k (by lia) (by lia)))) rfl) (gB (ρ':=S (some (.p (.int ((vc u p).natAbs:Int)))) (some (.p (.int (-jP (vc u p)*h)))) (some (.p (tI a)))) (gU (mF R (by simp;rfl)) rfl) (ig (rS (gC (x:=tI (a.take p++[-jP (vc u p)*h])) (y:=tI (a.drop p)) (gC (x:=tI (a.take p)) (y:=tI [-jP (vc u p)*h]) w (Dh rfl) (pj _ _ (by simp;lia))) K (pj _ _ (by simp;lia))) Y)))))
 .rw[<-r,m];unfold sk;by_cases b:i<p
  .rw[aR b,aR b];exact C i
  .rw[aS b,aS (by lia),aS (by lia)];exact C i
 .rw[<-r,m,aS (by lia),aR rfl]
def G6 i j:wt [.int i,.int j]=.ok (.int (max i j)):=by simp;split<;>lia
def Iz{a m:Int}(b:0<=a)(d:0<m):a<(a.fdiv m+1)*m/\0<=a.fdiv m/\a.fdiv m<=a:=by rw[Int.fdiv_eq_ediv_of_nonneg _ (by lia)];exact⟨Int.lt_ediv_add_one_mul_self a d,Int.ediv_nonneg b (by lia),Int.ediv_le_self _ b⟩
def xx(hB:B<=2000)(hM:N<=5000)(I:2*B+N+d+3<=8000)(X:d<=50){us:LL}(H:∀w∈us,w.length=d+1/\∀x∈w,Bn B x)(hn:us.length<=100)(n:u.length=d+1)(D:∀x∈u,Bn B x)(b:Gp d N P)(hne:∀w∈us,hv d (vc w) (vc P)≠0)(hs:s = -1\/s=1) :
  ∃Q g o,jA c [.lst (us.map tI),tI u,tI P,.int s]=.ok (tI Q)/\Q.length=d+1/\(∀x∈Q,Bn (2*B+N+d+3) x)/\0<g/\1<=o/\(∀i,i<d->g*vc Q i=o*vc P i+s*vc u i)/\g*vc Q d=o*vc P d/\
   ∀w∈us,((sm d λi=>vc w i*vc u i).natAbs:Int)<o*((hv d (vc w) (vc P)).natAbs:Int):=by
 have sz:1000<sizeLine:=by decide
 let S (o:Int) (j f x7:Option W):En:=[some (.p (.lst (us.map tI))),some (.p (tI u)),some (.p (tI P)),some (.p (.int s)),some (.p (.int o)),j,f,x7];obtain⟨ρ',e',o,j,f,rfl,o1,v,r⟩:=jX (m:=nj 5) (g:=qq c) tI
  (λk R=>∃o j f,R=S o j f none/\1<=o/\Bn (2*B+d+1) o/\∀w∈us.take k,((sm d λi=>vc w i*vc u i).natAbs:Int)<o*((hv d (vc w) (vc P)).natAbs:Int)) us 0 (S 1 none none none)
  ⟨1,none,none,rfl,by decide,(by unfold Bn;exact aF (by decide:(1:Int).natAbs<2 ^ 1) (dy (by decide) (by lia))),λw hw=>by simp at hw⟩ (by
   rintro k w R Y ⟨o,j,f,rfl,o1,v,r⟩;rw[aH]at r ⊢;have hw:=av Y;obtain⟨Z,A⟩:=H w hw;have dt:gF (gj (i0 (gq 5) (λ_=>.ok none) (ia (nU (λi=>.int (-i)) (cM (.int 1))))) (gj (i0 (gq 1) (λ_=>.ok none) (ia (nU (λi=>.int (-i)) (cM (.int 1))))) gy)) (p9 c) (mq (S o (some (.p (tI w))) f none))=.ok (.int (sm d λi=>vc w i*vc u i)):=G8 (B:=B) (B':=B) (by lia) (by lia) X Z n A D rfl rfl;have la:=oK (c:=c) (d:=d) (B:=B) (M:=N) (by lia) (by lia) X Z b.len A b.bn;have hb:=Kz (d:=d) A b.bn;have h0:=hne w hw;have sb:Bn (2*B+d) (sm d λi=>vc w i*vc u i):=(Fm d _ λi _=>(lS A i).mul (lS D i)).mono (by lia);generalize hh:hv d (vc w) (vc P)=h at *;generalize J:(sm d λi=>vc w i*vc u i)=st at *;obtain⟨f1,f2,f3⟩:=Iz (a:=(st.natAbs:Int)) (m:=(h.natAbs:Int)) (by lia) (by lia);generalize l:(st.natAbs:Int).fdiv (h.natAbs:Int)=q at *;refine⟨_,S (max o (q+1)) (some (.p (tI w))) (some (.p (.int (st.natAbs:Int)))) none,rfl,.inl (gB (ρ':=S o (some (.p (tI w))) (some (.p (.int (st.natAbs:Int)))) none) (gU (lV dt (tV _)) rfl) (gU ?_ rfl)),max o (q+1),_,_,rfl,by lia,?_,?_⟩
   .have e1:gO iH (gO oq (gq 6) (j0 ug (gj (gF (gj (gq 5) (gj (gq 2) gy)) (ju c)) gy))) (cM (.int 1)) (mq (S o (some (.p (tI w))) (some (.p (.int (st.natAbs:Int)))) none))=.ok (.int (q+1)):=gC (gC rfl (lV (kf rfl rfl la) (tV _)) ((qp (by lia) ((AZ hb).noPy (by lia))).trans (by rw[l]))) rfl (i5 _ _);simp only[j0,gj,gy,e1,M.bind_ok];exact G6 o (q+1)
   .have:Bn (2*B+d+1) (q+1):=by unfold Bn at sb ⊢;rw[dw];lia
    unfold Bn at *;lia
   .intro z U;rw[lC us k w Y]at U;rcases aj.mp U with y|y
    .have:=r z y;refine fF this (aK (by lia) (by lia))
    .rw[ak.mp y,J,hh];have hm:(q+1)*(h.natAbs:Int)<=max o (q+1)*(h.natAbs:Int):=aK (by lia) (by lia);exact fF f1 hm)
 rw[aH,eM]at r;let e:LI:=(P.dropLast.zip u.dropLast).map λq=>o*q.1+s*q.2;have l1:P.dropLast.length=d:=by simp[b.len]
 have l2:u.dropLast.length=d:=by simp[n]
 have C:e.length=d:=by simp[e,b.len,n]
 have K:Bn 1 s:=by rcases hs with rfl|rfl<;>(unfold Bn;decide)
 have pv:∀i,i<d->vc e i=o*vc P i+s*vc u i:=λi E=>by rw[<-vF b.len E,<-vF n E,jc _ i (by lia),jc _ i (by lia),jc _ i (by lia)];simp[e]
 have pb:∀x∈e,Bn (2*B+N+d+3) x:=λx F=>by obtain⟨q,l,rfl⟩:=aE.mp F;obtain⟨q1,q2⟩:=aX l;exact ((v.mul (b.bn _ (fB _ q1))).add (K.mul (D _ (fB _ q2)))).mono (by lia)
 have lb:Bn (2*B+N+d+3) (o*vc P d):=(v.mul (lS b.bn d)).mono (by lia);obtain⟨g,ys,hg,el,yl,L,yb⟩:=qS (c:=c) (2*B+N+d+3) I (e++[o*vc P d]) (by simp[C];lia) λx F=>(aj.mp F).elim (pb x) λz=>by rw[ak.mp z];exact lb
 have e7:jL [none,none,some 4,some 3] (ng (gj (i0 (gq 2) (λ_=>.ok none) (ia (nU (λi=>.int (-i)) (cM (.int 1))))) (gj (i0 (gq 1) (λ_=>.ok none) (ia (nU (λi=>.int (-i)) (cM (.int 1))))) gy))) (mU 2 (iL (jq 0) (iL (jq 1) mW))) (λ_=>.ok true) (pV c) (mq (S o j f none))=.ok (e.map T.int):=iI (P.dropLast.zip u.dropLast) (λq=>T.tup [.int q.1,.int q.2]) (λq=>T.int (o*q.1+s*q.2)) (oN (zA b.len rfl) rfl (zA n rfl) rfl) (by rw[eU];lia) (λq l=>⟨_,rfl,rfl,gC (gC rfl rfl (jn (v.ok (b.bn _ (fB _ (aX l).1)) (by lia) (by lia)))) (gC rfl rfl (jn (K.ok (D _ (fB _ (aX l).2)) (by lia) (by lia)))) (i5 _ _)⟩) (by simp only[e,aJ];rfl)
 refine⟨ys,g,o,iN rfl (gB (ρ':=S 1 none none none) (gU rfl rfl) (gB (m4 rfl e') (gB (ρ':=S o j f (some (.p (.lst (e.map T.int))))) (gU (iD e7) rfl) (ig (rS (gC (x:=tI e) (y:=tI [o*vc P d]) (lV (t:=.lst (e.map T.int)) rfl (by simp;rfl)) (Dh (gC rfl (gC rfl (rF rfl) (Az b.len)) (jn (v.ok (lS b.bn d) (by lia) (by lia))))) (pj _ _ (by simp[C];lia))) el))))),by rw[yl];simp[C],yb,hg,o1,λi E=>?_,?_,r⟩
 .rw[<-L,ph,aR (by lia),pv i E]
 .rw[<-L,ph,aS (by lia),C,de];rfl
def sL(i:0<a)(g:0<b)(e:a*x=b*y):jP x=jP y:=by
 have d:∀{p q z w:Int},0<p->0<q->p*z=q*w->0<w->0<z:=λ{p q z w} hp hq e hw=>by
  have f:0<p*z:=by rw[e];exact aY hq hw
  exact fG f hp |> λh=>h
 have k:a * -x=b * -y:=by rw[fH,fH,e]
 unfold jP;by_cases f:0<x
 .rw[aR f,aR (d g i e.symm f)]
 .rw[aS f,aS λz=>f (d i g e z)];by_cases j:x<0
  .rw[aR j,aR (by have:=d g i k.symm (by lia);lia)]
  .rw[aS j,aS λz=>j (by have:=d i g k (by lia);lia)]
noncomputable def jZ:Nat->LL
 |0=>[[]]
 |n+1=>(jZ n).flatMap λs=>[s++[-1],s++[1]]
theorem iF:∀{n} {s},s∈jZ n->s.length=n/\∀x∈s,x = -1\/x=1
 |0,s,h=>by rw[ak.mp h];exact⟨rfl,λ_ z=>nomatch z⟩
 |n+1,s,h=>by
  obtain⟨r,hr,hs⟩:=List.mem_flatMap.mp h;obtain⟨a,b⟩:=iF hr;have go:∀v:Int,(v = -1\/v=1)->(r++[v]).length=n+1/\∀x∈r++[v],x = -1\/x=1:=λv hv=>⟨by simp[a],λx d=>(aj.mp d).elim (b x) λz=>by rw[ak.mp z];exact hv⟩;simp only[aG,ei,or_false]at hs;rcases hs with rfl|rfl
  .exact go _ (.inl rfl)
  .exact go _ (.inr rfl)
theorem yL:∀n:Nat,(jZ n).length=2 ^ n
 |0=>rfl
 |n+1=>by rw[jZ,List.length_flatMap];have:(jZ n).map (λs=>([s++[-1],s++[1]]:LL).length)=(jZ n).map λ_=>2:=cS λ_ _=>rfl;rw[this,List.map_const',List.sum_replicate_nat,yL n,dw]
def ny(h:s∈jZ n)(d:i<n):vc s i=1\/vc s i = -1:=by obtain⟨b,a⟩:=iF h;rw[jc s i (by lia)];exact (a _ (aW _)).symm
def mB(p:LI×LI):T:=.tup [tI p.1,tI p.2]
structure Gu(d B:Nat)(u:LI):Prop where
 len:u.length=d+1
 bn:∀x∈u,Bn B x
 ne:∃i,vc u i≠0
def CJ(p:Prop):Bool:=@decide p (Classical.propDecidable p)
@[simp] theorem BP:CJ p=true↔p:=@decide_eq_true_iff p (Classical.propDecidable p)
def sR(h:p):CJ p=true:=BP.mpr h
def Bw(h:¬p):CJ p=false:=by
 cases e:CJ p with
 |false=>rfl
 |true=>exact absurd (BP.mp e) h
def flt(n:Nat)(p:LI->Prop):LL:=(jZ n).filter λs=>CJ (p s)
def nT(h:∀s∈jZ n,p s↔q s):flt n p=flt n q:=fJ λs a=>by rw[show p s=q s from propext (h s a)]
def jj:s∈flt n p↔s∈jZ n/\p s:=by simp[flt]
def uj(h:∀s,¬p s):flt n p=[]:=fK.mpr λs _=>by simp[h s]
def sG n p:(flt n p).length<=2 ^ n:=by rw[<-yL];exact fL _ _
structure Ka(d N:Nat)(us:LL)(L:List (LI×LI)):Prop where
 fst:L.map Prod.fst=flt us.length (Rz d us)
 gp:∀p∈L,Gp d N p.2
 sg:∀p∈L,∀i,i<us.length->jP (hv d (vc (us.getD i [])) (vc p.2))=vc p.1 i
def ET(f:0<vc P d)(h:∀i,i<us.length->jP (hv d (vc (us.getD i [])) (vc P))=vc s i)(b:∀i,i<us.length->vc s i=1\/vc s i = -1):On d us s (XP d (vc P)):=λi a=>by
 have e:=h i a;rw[LU f]at e;generalize jQ d (XP d (vc P)) (vc (us.getD i []))=v at *;unfold PP at e;rcases b i a with q|q<;>rw[q]at e ⊢
 .have o:((1:Int):Rat)=1:=rfl;rw[o];split at e
  .grind
  .split at e<;>cases e
 .have o:((-1:Int):Rat) = -1:=rfl;rw[o];split at e
  .cases e
  .split at e
   .grind
   .cases e
def mN{us:LL}(a:us.length=n)(f:LI->LI)(b:i<n):(us.map f).getD i []=f (us.getD i []):=by rw[ag,aw,ai (by lia),ag,ai (by lia)];rfl
def md{us:LL}(a:i<us.length):us.getD i []∈us:=by rw[ag,ai a];exact aW _
def Kw{a b:Int}(j:0<a)(f:0<b)(e:(a:Rat)*x=(b:Rat)*y)(h:0<v*y):0<v*x:=by
 have k:=ye j;have g:=ye f;have i:a*(v*x)=b*(v*y):=by grind
 have d:0<a*(v*x):=by rw[i];exact fz g h
 refine fg (c:=a) ?_ (by grind);rw[Rat.mul_zero];exact d
def vK(x:p<=d)(D:vc u p≠0)(f:LI->LI)(v:∀w∈us,vc (f w) p=0/\p<(f w).length/\∃g s b:Int,0<g/\0<s/\∀i,g*vc (f w) i=s*vc w i+b*vc u i) s:Rz d (us.map λw=>wo (f w) p) s↔Rx (d+1) us u s:=by
 have y:∀X:Nat->Rat,∀w∈us,jQ (d+1) X (vc (f w))=jQ d (λi=>X (sk p i)) (vc (wo (f w) p)):=λX w hw=>by obtain⟨B,C,-⟩:=v w hw;rw[HF x,B,show vc (wo (f w) p)=λi=>vc (f w) (sk p i) from funext λi=>BF C i];grind
 constructor
 .rintro⟨X,o⟩;let Y:Nat->Rat:=λj=>if j=p then -jQ d X (λi=>vc u (sk p i)) / (vc u p:Rat) else X (if j<p then j else j-1)
  have A:(λi=>Y (sk p i))=X:=funext λi=>by
   show (if sk p i=p then _ else X (if sk p i<p then sk p i else sk p i-1))=X i;unfold sk;by_cases q:i<p
   .rw[aR q,aS (by lia),aR q]
   .rw[aS q,aS (by lia),aS (by lia)];congr 1
  have E:(vc u p:Rat)≠0:=λz=>D (by exact_mod_cast z);have k:jQ (d+1) Y (vc u)=0:=by
   rw[HF x,A];have:Y p = -jQ d X (λi=>vc u (sk p i)) / (vc u p:Rat):=by show (if p=p then _ else _)=_;rw[aR rfl]
   rw[this];grind
  refine⟨Y,k,λi h=>?_⟩;have hw:=md h;obtain⟨-,-,g,a,b,r,n,e⟩:=v _ hw;have m:=o i (by simpa using h);rw[mN rfl _ h]at m;have t:=y Y _ hw;rw[A]at t;rw[<-t]at m;have l:=xr (d:=d+1) (X:=Y) _ _ _ g a b e;rw[k]at l;exact Kw n r (by grind) m
 .rintro⟨X,k,o⟩;refine⟨λi=>X (sk p i),λi h=>?_⟩;rw[ax]at h;have hw:=md h;obtain⟨-,-,g,a,b,r,n,e⟩:=v _ hw;rw[mN rfl _ h,<-y X _ hw];have l:=xr (d:=d+1) (X:=X) _ _ _ g a b e;rw[k]at l;exact Kw r n (by grind) (o i h)
def uJ(n:p<=d)(C:vc u p≠0)(m:0<g0)(A:∀i,g0*vc Q (sk p i)=((vc u p).natAbs:Int)*vc P i)(j:g0*vc Q p = -jP (vc u p)*hv d (λi=>vc u (sk p i)) (vc P)) :
  hv (d+1) (vc u) (vc Q)=0/\(vc r p=0->p<r.length->(∃g s b:Int,0<g/\0<s/\∀i,g*vc r i=s*vc w i+b*vc u i)->jP (hv (d+1) (vc w) (vc Q))=jP (hv d (vc (wo r p)) (vc P))):=by
 have y:0<((vc u p).natAbs:Int):=by lia
 have f:∀x:Vc,g0*hv d x (λi=>vc Q (sk p i))=((vc u p).natAbs:Int)*hv d x (vc P):=λx=>by
  have:=J4 (d:=d) (u:=x) (P:=vc P) (Q:=vc P) (R:=λi=>vc Q (sk p i)) (g:=g0) (a:=((vc u p).natAbs:Int)) (b:=0) λi=>by rw[A i];lia
  lia
 have z:hv (d+1) (vc u) (vc Q)=0:=by
  have e:=KF n (vc u) (vc Q);have k:=f λi=>vc u (sk p i);have B:=qo (vc u p);generalize hv d (λi=>vc u (sk p i)) (vc P)=h at *;have:g0*hv (d+1) (vc u) (vc Q)=0:=by rw[e,eR,k,show g0*(vc u p*vc Q p)=vc u p*(g0*vc Q p) by grind,j,<-B];grind
  rcases eP.mp this with q|q
  .lia
  .exact q
 refine⟨z,λr0 rl ⟨g,a,b,hg,ha,e⟩=>?_⟩;have l:=M4 (d:=d+1) (P:=vc Q) e;rw[z]at l;have o:=KF n (vc r) (vc Q);rw[r0]at o;have v:=funext λi=>BF rl i;rw[v];have k:=f λi=>vc r (sk p i);rw[<-sL m y k];refine sL ha hg ?_;rw[show hv d (λi=>vc r (sk p i)) (λi=>vc Q (sk p i))=hv (d+1) (vc r) (vc Q) by lia];lia
abbrev nI(k:Nat):T:=.int (k:Int)
def Dp(h:f ρ=.ok (.tup ts)):oE (gj f gy) ρ=.ok (nG ts):=by simp only[oE,gj,gy,h,M.bind_ok];rfl
def DY(h:f ρ=.ok (.lst ts)):oE (gj f gy) ρ=.ok (nG ts):=by simp only[oE,gj,gy,h,M.bind_ok];rfl
def Lr ns:sD [tI ns]=.ok (.bl (ns.any λx=>x != 0)):=by simp only[tI,sD,qt,AG];rw[cE];rfl
def JQ(h:f ρ=.ok (.bl b)):yo f ρ=.ok (.bl (!b)):=by simp only[yo,ji,h,M.bind_ok]
theorem wW(hB:B<=2000)(hN:N<=5000)(hd:d<=50)(E:∀w∈us,Gu d B w)(hn:us.length<=8)(hu:Gu d B u) FR
  (hFR:∀d',d=d'+1->∀vs:LL,vs.length=us.length->(∀w∈vs,Gu d' (2*B+1) w)->∃L:List (LI×LI),FR [.lst (vs.map tI),.int (d':Int)]=.ok (.lst (L.map mB))/\Ka d' N vs L) :
  ∃C:List (LI×LI),jS c FR [.lst (us.map tI),tI u]=.ok (C.map mB)/\C.map Prod.fst=flt us.length (Rx d us u)/\∀q∈C,Gp d (B+N+d+1) q.2/\hv d (vc u) (vc q.2)=0/\(∀i,i<us.length->jP (hv d (vc (us.getD i [])) (vc q.2))=vc q.1 i)/\∃i,i<d/\vc u i≠0:=by
 have sz:1000<sizeLine:=by decide
 have ul:=hu.len;let S (x2 x3 x4:Option W):En:=[some (.p (.lst (us.map tI))),some (.p (tI u)),x2,x3,x4];let Z:List (Int×Nat):=u.dropLast.zipIdx.filter λq=>q.1 != 0;have hZ:∀q∈Z,q.2<d/\vc u q.2=q.1/\q.1≠0:=λq v=>by
  obtain⟨D,o⟩:=aV.mp v;obtain⟨x,k⟩:=q;have n:=fM.mp D;have hk:k<d:=by have:=(ae.mp n).1;simp at this;lia
  refine⟨hk,?_,by simpa using o⟩;rw[<-vF ul hk,jc _ k (by simp;lia)];have:=ae.mp n;exact this.2
 have e2:jL [none,none] (oE (gj (i0 (gq 1) (λ_=>.ok none) (ia (nU (λi=>.int (-i)) (cM (.int 1))))) gy)) (mU 2 (iL (jq 0) (iL (jq 1) mW))) (ji (gO (ie true) (gq 1) (cM (.int 0)))) (pK c FR) (mq (S none none none))=.ok (Z.map λq=>nI q.2):=by refine GY u.dropLast.zipIdx (λq=>T.tup [.int (q.2:Int),.int q.1]) (λq=>nI q.2) (λq=>q.1 != 0) ((Dp (zA ul rfl)).trans (by rw[wH])) (by simp;lia) (λq v=>⟨_,rfl,iT (gC rfl rfl (by rw[yF];rfl)),λ_=>rfl⟩) rfl
 have c2:ji (gO (ie false) (gq 2) (i9 (lstM gy))) (vw (S (some (.p (.lst (Z.map λq=>nI q.2)))) none none))=.ok Z.isEmpty:=by refine iT (gC (x:=.lst (Z.map λq=>nI q.2)) (y:=.lst []) rfl (by simp) ((xA false _ (qg _ _ λ_ _=>rfl) (aO (pX _ 0 _ λ_ _=>aL _) (by decide))).trans ?_));cases Z<;>rfl
 have st:∀{g:En->O} {ts:List T},_=O.rf ts->jS c FR [.lst (us.map tI),tI u]=.ok ts:=λ{g ts} h=>qI rfl (gB (ρ':=S (some (.p (.lst (Z.map λq=>nI q.2)))) none none) (gU (iD e2) rfl) h);cases m:Z with
 |nil=>
  have z0:∀i,i<d->vc u i=0:=λi l=>aP λne=>by have:(vc u i,i)∈Z:=aV.mpr ⟨fM.mpr (by rw[ai (by simp;lia),<-vF ul l,jc _ i (by simp;lia)]),by simpa using ne⟩;rw[m]at this;exact nomatch this
  have hd0:vc u d≠0:=by
   obtain⟨i,l⟩:=hu.ne;rcases dc i d with h|h|h
   .exact absurd (z0 i h) l
   .rw[<-h];exact l
   .exact absurd (kH u i (by lia)) l
  refine⟨[],st (g:=iR) (Fv (jC (c2.trans (by rw[m];rfl)) (qi (by simp))) rfl),(uj λs ⟨X,hX,_⟩=>?_).symm,λ_ h=>nomatch h⟩;rw[zp z0]at hX;have z:(vc u d:Rat)=0:=by grind
  exact hd0 (by exact_mod_cast z)
 |cons z0 Zr=>
  obtain⟨x,p⟩:=z0;obtain⟨hpd,hpx,hx0⟩:=hZ (x,p) (by rw[m];simp);dsimp only at hpd hpx hx0;obtain⟨d',rfl⟩:∃d',d=d'+1:=⟨d-1,by lia⟩;have h0:vc u p≠0:=by rw[hpx];exact hx0
  obtain⟨f,F⟩:=rD (P:=λ(w r:LI)=>kS c [tI w,tI u,.int (p:Int)]=.ok (tI r)/\r.length=w.length/\(∀x∈r,Bn (2*B+1) x)/\vc r p=0/\∃g s b:Int,0<g/\0<s/\∀i,g*vc r i=s*vc w i+b*vc u i) us λw hw=>by have wl:=(E w hw).len;obtain⟨r,D,o,n,A,g,s,b,I,K,h7,-⟩:=Ek (c:=c) B B w u p (by lia) (by lia) (by lia) (by lia) (E w hw).bn hu.bn h0;exact⟨r,D,o,λx H=>(n x H).mono (by lia),A,g,s,b,I,K,h7⟩
  have U:∀w∈us,(f w).length=d'+2:=λw hw=>by rw[(F w hw).2.1,(E w hw).len]
  let a:LL:=us.map λw=>wo (f w) p;have ti:=vK (d:=d') (p:=p) (by lia) (us:=us) h0 f λw hw=>⟨(F w hw).2.2.2.1,by have:=U w hw;lia,(F w hw).2.2.2.2⟩;have e4:jL [none,some 3,some 1] (iG (gq 0)) (jq 0) (λ_=>.ok true) (pE c FR) (mq (S (some (.p (.lst (Z.map λq=>nI q.2)))) (some (.p (nI p))) none))=.ok (a.map tI):=iI us tI (λw=>tI (wo (f w) p)) rfl (by lia) (λw hw=>⟨_,rfl,rfl,kf (kn rfl rfl rfl (F w hw).1) rfl (mK _ p (by have:=U w hw;lia) (by have:=U w hw;lia))⟩) (by simp[a])
  let S4:En:=S (some (.p (.lst (Z.map λq=>nI q.2)))) (some (.p (nI p))) (some (.p (.lst (a.map tI))));have e5:ji (j0 sD (gj (i9 (jL [none] (iG (gq 4)) (jq 0) (λ_=>.ok true) (p6 c FR))) gy)) (vw S4)=.ok ((a.map λt=>!(t.any λx=>x != 0)).any id):=by refine iT (mF (ts:=(a.map λt=>!(t.any λx=>x != 0)).map T.bl) ?_ (xg _));exact iI a tI (λt=>T.bl (!(t.any λx=>x != 0))) rfl (by simp[a];lia) (λt ht=>⟨_,rfl,rfl,JQ (lV (t:=tI t) rfl (Lr t))⟩) (by simp)
  have Y:∀{ts:List T},_=O.rf ts->jS c FR [.lst (us.map tI),tI u]=.ok ts:=λ{ts} h=>st (g:=iR) (gB (iS (c2.trans (by rw[m];rfl)) rfl) (gB (ρ':=S (some (.p (.lst (Z.map λq=>nI q.2)))) (some (.p (nI p))) none) (gU (t:=nI p) (gC (x:=.lst (Z.map λq=>nI q.2)) (y:=.int 0) rfl rfl (by rw[m];exact Oi _ _)) rfl) (gB (ρ':=S4) (gU (iD e4) rfl) h)));cases hA:(a.map λt=>!(t.any λx=>x != 0)).any id with
  |true=>
   obtain⟨b,hb,hb2⟩:=dz.mp hA;obtain⟨t,ht,rfl⟩:=aE.mp hb;obtain⟨w,hw,rfl⟩:=aE.mp ht;obtain⟨i,l,hiw⟩:=fN hw;have az:∀j,vc (wo (f w) p) j=0:=λj=>aP λne=>by
    have:((wo (f w) p).any λx=>x != 0)=true:=by
     by_cases hj:j<(wo (f w) p).length
     .exact dz.mpr ⟨vc (wo (f w) p) j,by rw[jc _ j hj];exact aW _,by simpa using ne⟩
     .exact absurd (kH _ j (by lia)) ne
    rw[this]at hb2;cases hb2
   refine⟨[],Y (Fv (jC (e5.trans (by rw[hA])) (qi (by simp))) rfl),(uj λs hs=>?_).symm,λ_ h=>nomatch h⟩;obtain⟨X,hX⟩:=(ti s).mpr hs;have:=hX i (by simpa using l);rw[mN rfl _ l,ag,ai l,Option.getD_some,hiw,zp λj _=>az j,az]at this;simp at this
  |false=>
   have gtr:∀t∈a,Gu d' (2*B+1) t:=λt ht=>by
    obtain⟨w,hw,rfl⟩:=aE.mp ht;have wl:=Bi (row:=f w) (p:=p) (by have:=U w hw;lia);have:=bI.mp hA _ (aE.mpr ⟨_,ht,rfl⟩);refine⟨by have:=U w hw;lia,λx H=>(F w hw).2.2.1 x (Ed H),?_⟩;have t1:((wo (f w) p).any λx=>x != 0)=true:=by simpa using this
    obtain⟨x,H,hx2⟩:=dz.mp t1;obtain⟨j,hj,e⟩:=fN H;exact⟨j,by rw[jc _ j hj,e];simpa using hx2⟩
   obtain⟨L,eL,hL⟩:=hFR d' rfl a (by simp[a]) gtr;obtain⟨Q,hQ⟩:=rD (P:=λ(q:LI×LI) (r:LI×Int)=>j9 c [tI u,.int (p:Int),tI q.2]=.ok (tI r.1)/\r.1.length=d'+2/\(∀x∈r.1,Bn (B+N+(d'+1)+1) x)/\0<r.2/\(∀i,r.2*vc r.1 (sk p i)=((vc u p).natAbs:Int)*vc q.2 i)/\r.2*vc r.1 p = -jP (vc u p)*hv d' (λi=>vc u (sk p i)) (vc q.2)) L λq v=>by obtain⟨R,g,D,o,n,A,I,K⟩:=yS (c:=c) (d:=d') (B:=B) (M:=N) hB hN (by lia) (by lia) hu.bn (p:=p) (by lia) (hL.gp q v);exact⟨(R,g),D,o,λx H=>(n x H).mono (by lia),A,I,K⟩
   have Ll:L.length<=256:=by
    have D:=congrArg List.length hL.fst;have o:=sG a.length (Rz d' a);have n:a.length<=8:=by simpa[a] using hn
    have A:2 ^ a.length<=2 ^ 8:=dy (by decide) n;rw[ax]at D;lia
   refine⟨L.map λq=>(q.1,(Q q).1),Y (gB (iS (e5.trans (by rw[hA])) rfl) (qi (iI L mB (λq=>mB (q.1,(Q q).1)) (jR (kf (x:=.lst (a.map tI)) (y:=.int (d':Int)) rfl (gC (x:=.int ((d'+2:Nat):Int)) (y:=.int 2) (lV (t:=tI u) rfl (by simp[tI,ul];lia)) rfl (by rw[nP];congr 2;lia)) eL)) (by lia) (λq v=>⟨_,rfl,rfl,C7 rfl (kn rfl rfl rfl (hQ q v).1)⟩) (by rw[aJ];rfl)))),?_,λq v=>?_⟩
   .rw[aJ];show L.map Prod.fst=_;rw[hL.fst,show a.length=us.length by simp[a]];exact nT λs _=>ti s
   .obtain⟨q0,J,rfl⟩:=aE.mp v;obtain⟨-,o,n,A,I,K⟩:=hQ q0 J;have gp0:=hL.gp q0 J;dsimp only;refine⟨⟨o,n,?_⟩,(uJ (w:=u) (r:=u) (by lia) h0 A I K).1,λi l=>?_,p,by lia,h0⟩
    .have:=I d';rw[Et (by lia)]at this;have h7:0<((vc u p).natAbs:Int)*vc q0.2 d':=aY (by lia) gp0.pos;rw[<-this]at h7;exact fG h7 A
    .have hw:=md l;rw[(uJ (w:=us.getD i []) (r:=f (us.getD i [])) (by lia) h0 A I K).2 (F _ hw).2.2.2.1 (by have:=U _ hw;lia) (F _ hw).2.2.2.2];have:=hL.sg q0 J i (by simpa[a] using l);rwa [mN rfl _ l]at this
def Cw(l:LL)(k:Nat)(h:k<l.length):l.getD k []∈l:=by rw[ag,ai h];exact aW h
def Nd a b:C9 (tI a) (tI b)=true↔a=b:=by unfold tI;rw[sT,wm,decide_eq_true_eq]
def uG(l:LL):ie true (.lst (l.map tI)) (.lst (l.map tI))=.ok (.bl false):=by
 have b:qA (.lst (l.map tI))=true:=Gx l;have e:=tX l;have d:Ai (.lst (l.map tI))<=100:=by rw[JF];lia
 have a:C9 (.lst (l.map tI)) (.lst (l.map tI))=true:=by rw[xP];exact (tq tI Nd l l).mpr rfl
 unfold ie;rw[b,a,aD d];rfl
def k9{a:Type}:List a->(List a->Int)->Int
 |[],f=>f []
 |x::l,f=>k9 l f+k9 l λB=>f (x::B)
section
variable {α:Type}
theorem kU:∀{l:List α} {f g:List α->Int},(∀B,B.Sublist l->f B=g B)->k9 l f=k9 l g
 |[],f,g,h=>h [] (List.Sublist.refl _)
 |x::l,f,g,h=>by unfold k9;rw[kU λB a=>h B (a.cons x),kU (f:=λB=>f (x::B)) (g:=λB=>g (x::B)) λB a=>h (x::B) (a.cons₂ x)]
theorem wc:∀(l:List α),k9 l (λ_=>0)=0
 |[]=>rfl
 |x::l=>by unfold k9;rw[wc l];rfl
theorem uA(s:Int):∀(l:List α) (f:List α->Int),k9 l (λB=>s*f B)=s*k9 l f
 |[],f=>rfl
 |x::l,f=>by unfold k9;rw[uA s l f,uA s l λB=>f (x::B),eR]
end
def CW{m k:Nat}{f:Nat->Int}(a:k<m)(h:∀i,i≠k->f i=0):sm m f=f k:=by obtain⟨e,rfl⟩:∃e,m=e+1:=⟨m-1,by lia⟩;rw[GR e k f (by lia)];have:sm e (λi=>f (sk k i))=0:=(iV _ _ (λ_=>0) λi _=>h _ (by unfold sk;split<;>lia)).trans (pQ e);lia
def GU(m:Nat)(rs:List Vc)(v:Vc):Prop:=∀r∈rs,kg m r v=0
structure IS(m:Nat)(os:List (Nat×Vc)):Prop where
 lt:∀p∈os,p.1<m/\p.2 p.1≠0
 tri:os.Pairwise λp q=>q.2 p.1=0
theorem Pb{m:Nat}{v:Vc}:∀(n:Nat) (b:List (Nat×Vc)),b.length=n->IS m b->(∀p∈b,kg m p.2 v=0)->(∀i,i∉b.map Prod.fst->v i=0)->∀p∈b,v p.1=0
 |0,b,hn,_,_,_=>λp a=>by have:b=[]:=dI.mp hn;subst this;cases a
 |n+1,b,hn,T,ha,out=>by
  rcases fO b with rfl|⟨f,q,k⟩
  .cases hn
  .rw[fP]at k;subst k;have h:=cX.mp T.tri;have l:=T.lt q (by simp);have j:v q.1=0:=by
    have e:=ha q (by simp);unfold kg at e;rw[CW l.1 λi g=>by
     by_cases o:i∈f.map Prod.fst
     .obtain⟨p,a,rfl⟩:=aE.mp o;rw[h.2.2 p a q (by simp),eQ]
     .rw[out i (by simp only[a9,bK,cg,aj,ak];exact λz=>z.elim o g),eO]]at e
    rcases eP.mp e with z|z
    .exact absurd z l.2
    .exact z
   have r:=Pb n f (by simpa using hn) ⟨λp a=>T.lt p (by simp[a]),h.1⟩ (λp a=>ha p (by simp[a])) λi g=>by
    by_cases d:i=q.1
    .rw[d];exact j
    .exact out i (by simp only[a9,bK,cg,aj,ak];exact λz=>z.elim g d)
   intro p a;rcases aj.mp a with z|z
   .exact r p z
   .rw[ak.mp z];exact j
def Dk{m:Nat}{a:List (Nat×Vc)}(T:IS m a)(h:List Vc)(n:∀v:Vc,(∀A∈h,kg m A v=0)->∀p∈a,kg m p.2 v=0):a.length<=h.length:=by
 refine Nat.le_of_not_lt λd=>?_;have nd:(a.map Prod.fst).Nodup:=by rw[List.Nodup,dP];exact T.tri.imp_of_mem λ{p q} _ hq e z=>(T.lt q hq).2 (by rw[<-z];exact e)
 obtain⟨v,⟨j,i⟩,b,l⟩:=uE m h (a.map Prod.fst) nd (λt k=>by obtain⟨p,g,rfl⟩:=aE.mp k;exact (T.lt p g).1) (by rw[ax];exact d)
 have z:=Pb a.length a rfl T (n v l) b;have f:j∈a.map Prod.fst:=aP λz=>i (b j z);obtain⟨p,g,rfl⟩:=aE.mp f;exact i (z p g)
def Eb(m:Nat)(rs:List Vc)(r:Nat):Prop:=∃a,IS m a/\a.length=r/\∀v,GU m rs v↔∀p∈a,kg m p.2 v=0
def Eb.uniq{m:Nat}{rs f:List Vc}{r i:Nat}(h:Eb m rs r)(h':Eb m f i)(e:∀v,GU m rs v↔GU m f v):r=i:=by
 obtain⟨d,T,rfl,a⟩:=h;obtain⟨b,l,rfl,g⟩:=h';have j:∀{d b:List (Nat×Vc)},IS m d->(∀v,(∀p∈b,kg m p.2 v=0)->∀p∈d,kg m p.2 v=0)->d.length<=b.length:=λ{d b} T h=>by have:=Dk T (b.map Prod.snd) λv hv=>h v λp k=>hv _ (aE.mpr ⟨p,k,rfl⟩);rwa [ax]at this
 exact Nat.le_antisymm (j T λv hv=>(a v).mp ((e v).mpr ((g v).mpr hv))) (j l λv hv=>(g v).mp ((e v).mp ((a v).mpr hv)))
def xq(u:Vc)(p:Nat)(r:Vc):Vc:=λi=>u p*r (sk p i)-r p*u (sk p i)
section
variable {d p:Nat}{u:Vc}
def xC(a:p<=d)(x v:Vc):kg (d+1) x v=kg d (λi=>x (sk p i)) (λi=>v (sk p i))+x p*v p:=by unfold kg;rw[GR d p _ a]
def Hf(a:p<=d)(r v:Vc):kg d (xq u p r) (λi=>v (sk p i))=u p*kg (d+1) r v-r p*kg (d+1) u v:=by
 rw[xC a r v,xC a u v];have:kg d (xq u p r) (λi=>v (sk p i))=u p*kg d (λi=>r (sk p i)) (λi=>v (sk p i))+(-(r p))*kg d (λi=>u (sk p i)) (λi=>v (sk p i)):=by unfold kg;rw[<-qX];exact iV _ _ _ λi _=>by unfold xq;grind
 rw[this];grind
def xl(e:p<=d)(g:u p≠0)(B:List Vc)(v:Vc):GU (d+1) (u::B) v↔kg (d+1) u v=0/\GU d (B.map (xq u p)) (λi=>v (sk p i)):=by
 constructor
 .intro h;have a:=h u (by simp);refine⟨a,λr hr=>?_⟩;obtain⟨f,b,rfl⟩:=aE.mp hr;rw[Hf e,a,h f (by simp[b])];lia
 .rintro⟨a,h⟩ r hr;rcases aG.mp hr with rfl|hr
  .exact a
  .have:=h _ (aE.mpr ⟨r,hr,rfl⟩);rw[Hf e,a,eO,Int.sub_zero]at this;rcases eP.mp this with z|z
   .exact absurd z g
   .exact z
def Gy(p:Nat)(x:Vc):Vc:=λi=>if i=p then 0 else x (if i<p then i else i-1)
def xF(x:Vc)(i:Nat):Gy p x (sk p i)=x i:=by
 unfold Gy sk;by_cases h:i<p
 .rw[aR h,aS (by lia),aR h]
 .rw[aS h,aS (by lia),aS (by lia)];rfl
def KB(x:Vc):Gy p x p=0:=aR rfl
def HE(a:p<=d)(x v:Vc):kg (d+1) (Gy p x) v=kg d x (λi=>v (sk p i)):=by rw[xC a,KB,eQ,Int.add_zero];unfold kg;exact iV _ _ _ λi _=>by dsimp only;rw[xF]
def sP(g:p<=d)(i:u p≠0){B:List Vc}{r:Nat}(h:Eb d (B.map (xq u p)) r):Eb (d+1) (u::B) (r+1):=by
 obtain⟨j,T,rfl,a⟩:=h;refine⟨(p,u)::j.map λq=>(sk p q.1,Gy p q.2),⟨λq b=>?_,eG.mpr ⟨λq b=>?_,dP.mpr (T.tri.imp λ{x y} e=>?_)⟩⟩,by simp,λv=>?_⟩
 .rcases aG.mp b with rfl|b
  .exact⟨by lia,i⟩
  .obtain⟨q,f,rfl⟩:=aE.mp b;have:=T.lt q f;refine⟨?_,?_⟩
   .show sk p q.1<d+1;unfold sk;split<;>lia
   .show Gy p q.2 (sk p q.1)≠0;rw[xF];exact this.2
 .obtain⟨q,b,rfl⟩:=aE.mp b;exact KB _
 .show Gy p y.2 (sk p x.1)=0;rw[xF];exact e
 .rw[xl g i,a];constructor
  .rintro⟨k,h⟩ q b;rcases aG.mp b with rfl|b
   .exact k
   .obtain⟨q,f,rfl⟩:=aE.mp b;show kg (d+1) (Gy p q.2) v=0;rw[HE g];exact h q f
  .intro h;refine⟨h (p,u) (by simp),λq b=>?_⟩;rw[<-HE g];exact h (sk p q.1,Gy p q.2) (bz _ (aE.mpr ⟨q,b,rfl⟩))
end
def oa{m:Nat}{u:Vc}(h:∀i,i<m->u i=0)(B:List Vc)(v:Vc):GU m (u::B) v↔GU m B v:=by
 have z:kg m u v=0:=(iV _ _ (λ_=>0) λi a=>by rw[h i a,eQ]).trans (pQ m);exact⟨λq r hr=>q r (by simp[hr]),λq r hr=>by
  rcases aG.mp hr with rfl|hr
  .exact z
  .exact q r hr⟩
theorem mV:∀(n m:Nat) (B:List Vc),B.length=n->∃r,r<=n/\Eb m B r
 |0,m,B,hn=>by have:B=[]:=dI.mp hn;subst this;exact⟨0,aL _,[],⟨λ_ h=>(nomatch h),.nil⟩,rfl,λv=>⟨λ_ _ h=>(nomatch h),λ_ _ h=>(nomatch h)⟩⟩
 |n+1,m,B,hn=>by
  cases B with
  |nil=>cases hn
  |cons u B=>
   have b:B.length=n:=by simpa using hn
   by_cases h:∃p,p<m/\u p≠0
   .obtain⟨p,l,f⟩:=h;obtain⟨d,rfl⟩:∃d,m=d+1:=⟨m-1,by lia⟩;obtain⟨r,hr,k⟩:=mV n d (B.map (xq u p)) (by simpa using b);exact⟨r+1,by lia,sP (by lia) f k⟩
   .obtain⟨r,hr,g,T,e,a⟩:=mV n m B b;exact⟨r,by lia,g,T,e,λv=>(oa (λi j=>aP λz=>h ⟨i,j,z⟩) B v).trans (a v)⟩
def nJ(d:Nat)(B:List Vc):Prop:=∀v,GU (d+1) B v->v d=0
def sV{d p:Nat}{u:Vc}(f:p<=d)(a:u p≠0)(B:List Vc):nJ (d+1) (u::B)↔nJ d (B.map (xq u p)):=by
 constructor
 .intro h w hw;let v:Vc:=λi=>if i=p then -(kg (d+1) (λi=>u (sk p i)) w) else u p*Gy p w i
  have b:∀i,v (sk p i)=u p*w i:=λi=>by show (if sk p i=p then _ else u p*Gy p w (sk p i))=_;rw[aS (by unfold sk;split<;>lia),xF]
  have j:v p = -(kg (d+1) (λi=>u (sk p i)) w):=aR rfl;have g:kg (d+1+1) u v=0:=by
   rw[xC (show p<=d+1 by lia),j];have:kg (d+1) (λi=>u (sk p i)) (λi=>v (sk p i))=u p*kg (d+1) (λi=>u (sk p i)) w:=by unfold kg;rw[<-jI];exact iV _ _ _ λi _=>by dsimp only;rw[b];grind
   rw[this];grind
  have:=h v ((xl (d:=d+1) (by lia) a B v).mpr ⟨g,λr hr=>by
   have e:kg (d+1) r (λi=>v (sk p i))=u p*kg (d+1) r w:=by unfold kg;rw[<-jI];exact iV _ _ _ λi _=>by dsimp only;rw[b];grind
   rw[e,hw r hr,eO]⟩)
  rw[<-Et f,b]at this;rcases eP.mp this with z|z
  .exact absurd z a
  .exact z
 .intro h v hv;have:=h _ ((xl (d:=d+1) (by lia) a B v).mp hv).2;rw[Et f]at this;exact this
def oQ(d:Nat)(B:List Vc):Int:=@ite _ (nJ d B) (Classical.propDecidable _) 0 (@ite _ (∃r,Eb (d+1) B r/\(B.length+r) % 2=0) (Classical.propDecidable _) 1 (-1))
def px{d r:Nat}{B:List Vc}(h:¬nJ d B)(k:Eb (d+1) B r):oQ d B=if (B.length+r) % 2=0 then 1 else -1:=by
 unfold oQ;rw[aS h];by_cases e:(B.length+r) % 2=0
 .rw[aR e,aR ⟨r,k,e⟩]
 .rw[aS e,aS];rintro⟨f,a,b⟩;rw[k.uniq a λ_=>Iff.rfl]at e;exact e b
def m3{d:Nat}{B:List Vc}(h:nJ d B):oQ d B=0:=by unfold oQ;rw[aR h]
def Hl{d p:Nat}{u:Vc}(b:p<=d)(a:u p≠0)(B:List Vc):oQ (d+1) (u::B)=oQ d (B.map (xq u p)):=by
 by_cases h:nJ d (B.map (xq u p))
 .rw[m3 h,m3 ((sV b a B).mpr h)]
 .obtain⟨r,_,k⟩:=mV _ (d+1) (B.map (xq u p)) rfl;rw[px h k,px (λz=>h ((sV b a B).mp z)) (sP (d:=d+1) (by lia) a k),aA,ax];have:(B.length+1+(r+1)) % 2=(B.length+r) % 2:=by lia
  rw[this]
def FW{d:Nat}{u:Vc}(h:∀i,i<d+1->u i=0)(B:List Vc):oQ d (u::B) = -oQ d B:=by
 have f:nJ d (u::B)↔nJ d B:=⟨λq v hv=>q v ((oa h B v).mpr hv),λq v hv=>q v ((oa h B v).mp hv)⟩;by_cases z:nJ d B
 .rw[m3 z,m3 (f.mpr z)];rfl
 .obtain⟨r,_,b,T,e,a⟩:=mV _ (d+1) B rfl;rw[px z ⟨b,T,e,a⟩,px (λq=>z (f.mp q)) ⟨b,T,e,λv=>(oa h B v).trans (a v)⟩,aA];by_cases q:(B.length+r) % 2=0
  .rw[aR q,aS (by lia)]
  .rw[aS q,aR (by lia)];rfl
def MV{d:Nat}{u:Vc}(h:∀i,i<d->u i=0)(a:u d≠0)(B:List Vc):oQ d (u::B)=0:=m3 λv hv=>by
 have:=hv u (by simp);unfold kg at this;have e:sm (d+1) (λi=>u i*v i)=u d*v d:=by rw[xG,(iV _ _ (λ_=>0) λi b=>by rw[h i b,eQ]),pQ];lia
 rw[e]at this;rcases eP.mp this with z|z
 .exact absurd z a
 .exact z
def zy{d:Nat}{B B':List Vc}(h:B.length=B'.length)(e:∀v,GU (d+1) B v↔GU (d+1) B' v):oQ d B=oQ d B':=by
 have g:nJ d B↔nJ d B':=⟨λq v hv=>q v ((e v).mpr hv),λq v hv=>q v ((e v).mp hv)⟩;by_cases z:nJ d B
 .rw[m3 z,m3 (g.mp z)]
 .obtain⟨r,_,f,T,b,a⟩:=mV _ (d+1) B rfl;rw[px z ⟨f,T,b,a⟩,px (λq=>z (g.mpr q)) ⟨f,T,b,λv=>(e v).symm.trans (a v)⟩,h]
def qr(d:Nat)(us:List Vc):Int:=k9 us (oQ d)
theorem nA{b a:Type}(t:b->a):∀(l:List b) (F:List a->Int),k9 l (λB=>F (B.map t))=k9 (l.map t) F
 |[],F=>rfl
 |x::l,F=>by rw[bK];unfold k9;rw[nA t l F,<-nA t l λB=>F (t x::B)];rfl
def vx{d p:Nat}{u:Vc}(b:p<=d)(a:u p≠0)(us:List Vc):qr (d+1) (u::us)=qr (d+1) us+qr d (us.map (xq u p)):=by show k9 us (oQ (d+1))+k9 us (λB=>oQ (d+1) (u::B))=_;rw[kU (f:=λB=>oQ (d+1) (u::B)) λB _=>Hl b a B,nA (xq u p) us (oQ d)];rfl
def CA{d:Nat}{u:Vc}(h:∀i,i<d->u i=0)(a:u d≠0)(us:List Vc):qr d (u::us)=qr d us:=by show k9 us (oQ d)+k9 us (λB=>oQ d (u::B))=_;rw[kU (f:=λB=>oQ d (u::B)) (g:=λ_=>0) λB _=>MV h a B,wc];exact Int.add_zero _
theorem wx{d:Nat}{u:Vc}(h:∀i,i<d+1->u i=0):∀us:List Vc,u∈us->qr d us=0
 |us,hu=>by
  have b:∀(A C:List Vc),k9 (A++u::C) (oQ d)=0:=λA C=>by
   have a:∀(A:List Vc) (P:List Vc),k9 (A++u::C) (λB=>oQ d (P++B))=0:=by
    intro A;induction A with
    |nil=>
     intro P;show k9 C (λB=>oQ d (P++B))+k9 C (λB=>oQ d (P++u::B))=0;have:k9 C (λB=>oQ d (P++u::B))=k9 C (λB=>(-1)*oQ d (P++B)):=kU λB _=>by
      have e:oQ d (P++u::B)=oQ d (u::(P++B)):=zy (by simp;lia) λv=>by
       unfold GU;constructor
       .intro q r hr;exact q r (by simp at hr ⊢;rcases hr with z|z|z<;>simp[z])
       .intro q r hr;exact q r (by simp at hr ⊢;rcases hr with z|z|z<;>simp[z])
      rw[e,FW h];lia
     rw[this,uA];lia
    |cons x A ih=>intro P;show k9 (A++u::C) (λB=>oQ d (P++B))+k9 (A++u::C) (λB=>oQ d (P++x::B))=0;rw[ih P];have:=ih (P++[x]);simp only[b7,fQ]at this;rw[this];rfl
   exact a A []
  obtain⟨A,C,rfl⟩:=List.append_of_mem hu;exact b A C
def Ez kvs k j v:lT (Bc kvs k v) j=if j=k then some v else lT kvs j:=by
 have get:∀l:List (LI×T),(l.find? λd=>decide (d.1=j)).map (·.2)=lT l j:=λ_=>rfl;unfold Bc;by_cases h:(kvs.any λd=>decide (d.1=k))=true
 .rw[aR h];induction kvs with
  |nil=>simp at h
  |cons a l ih=>
   unfold lT at ih ⊢;rw[bK,List.find?_cons,List.find?_cons];by_cases e:a.1=k
   .rw[aR e];by_cases b:j=k
    .rw[aR b];simp[e,b]
    .rw[aS b];have i:¬a.1=j:=λz=>b (z▸e);simp only[i,decide_false];by_cases f:(l.any λd=>decide (d.1=k))=true
     .rw[ih f,aS b]
     .have:l.map (λd=>if d.1=k then (d.1,v) else d)=l:=by
       conv=>rhs;rw[<-List.map_id l]
       refine cS λq g=>aS λz=>f (dz.mpr ⟨q,g,by simpa using z⟩)
      rw[this]
   .rw[aS e];have f:(l.any λd=>decide (d.1=k))=true:=by simpa[e] using h
    by_cases b:a.1=j
    .have:¬j=k:=λz=>e (b.trans z);simp[b,this]
    .simp only[b,decide_false];exact ih f
 .rw[aS h];unfold lT;rw[List.find?_append];by_cases b:j=k
  .subst b;have:=List.find?_eq_none.mpr λq g z=>h (dz.mpr ⟨q,g,z⟩);rw[this];simp
  .rw[aS b];have:¬k=j:=λz=>b z.symm;simp[this]
theorem vY:∀b kvs j,(lT (qf kvs b) j=lT kvs j/\j∉b.map Prod.fst)\/∃t,lT (qf kvs b) j=some t/\(j,t)∈b
 |[],_,_=>.inl ⟨rfl,λh=>nomatch h⟩
 | (k,v)::b,kvs,j=>by
  rcases vY b (Bc kvs k v) j with⟨a,e⟩|⟨t,a,e⟩
  .rw[Ez]at a;by_cases d:j=k
   .rw[aR d]at a;exact .inr ⟨v,a,by rw[d];simp⟩
   .rw[aS d]at a;exact .inl ⟨a,by simp[d];simpa using e⟩
  .exact .inr ⟨t,a,by simp[e]⟩
theorem wB:∀C:List (LI×LI),uz (C.map mB)=some (C.map λq=>(q.1,tI q.2))
 |[]=>rfl
 |q::C=>by rw[bK];show (iW (q.1.map T.int)).bind _=_;rw[qD,Option.bind_some,wB C];rfl
def Mi(C:List (LI×LI)) s:(lT (qf [] (C.map λq=>(q.1,tI q.2))) s=none/\s∉C.map Prod.fst)\/∃q∈C,q.1=s/\lT (qf [] (C.map λq=>(q.1,tI q.2))) s=some (tI q.2):=by
 rcases vY (C.map λq=>(q.1,tI q.2)) [] s with⟨b,a⟩|⟨t,b,a⟩
 .exact .inl ⟨b,by rw[aJ]at a;exact a⟩
 .obtain⟨q,d,e⟩:=aE.mp a;cases e;exact .inr ⟨q,d,rfl,b⟩
def Hj n p:flt (n+1) p=(jZ n).flatMap λs=>[s++[-1],s++[1]].filter λs=>CJ (p s):=by unfold flt;rw[jZ,List.filter_flatMap]
def zC(h:∀s∈jZ n,¬p s->∀v,¬q (s++[v])):flt (n+1) q=(flt n p).flatMap λs=>[s++[-1],s++[1]].filter λs=>CJ (q s):=by
 rw[Hj];unfold flt;generalize jZ n=l at *;induction l with
 |nil=>rfl
 |cons a l ih=>
  rw[fR,ih λs d=>h s (by simp[d])];by_cases b:p a
  .have e:(a::l).filter (λs=>CJ (p s))=a::l.filter λs=>CJ (p s):=fS (by simpa using b);rw[e,fR]
  .have e:(a::l).filter (λs=>CJ (p s))=l.filter λs=>CJ (p s):=fT (by simpa using b);rw[e];simp[h a (by simp) b]
section
variable {d:Nat}{us:LL}{u s:LI}
def mH i:(us++[u]).getD i []=if i<us.length then us.getD i [] else if i=us.length then u else []:=by
 rw[ag,ag];by_cases h:i<us.length
 .rw[aR h,List.getElem?_append_left h]
 .rw[aS h,List.getElem?_append_right (by lia)];by_cases a:i=us.length
  .rw[aR a,a,de];rfl
  .rw[aS a,List.getElem?_eq_none (by simp;lia)];rfl
def pW(hs:s.length=n) v i:vc (s++[v]) i=if i<n then vc s i else if i=n then v else 0:=by
 rw[ph,hs];by_cases h:i<n
 .rw[aR h,aR h]
 .rw[aS h,aS h];by_cases a:i=n
  .rw[aR a,a,de];rfl
  .rw[aS a];exact kH _ _ (by simp;lia)
def lB(hs:s.length=us.length)(v:Int) X:On d (us++[u]) (s++[v]) X↔On d us s X/\0<(v:Rat)*jQ d X (vc u):=by
 constructor
 .intro h;refine⟨λi a=>?_,?_⟩
  .have:=h i (by simp;lia);rwa [mH,aR a,pW hs,aR a]at this
  .have:=h us.length (by simp);rwa [mH,aS (by lia),aR rfl,pW hs,aS (by lia),aR rfl]at this
 .rintro⟨b,e⟩ i a;rw[mH,pW hs];by_cases q:i<us.length
  .rw[aR q,aR q];exact b i q
  .have:i=us.length:=by simp at a;lia
   rw[aS q,aS q,aR this,aR this];exact e
def CI(hs:s.length=us.length)(h:∀i,i<us.length->jP (hv d (vc (us.getD i [])) (vc P))=vc s i)(a:jP (hv d (vc u) (vc P))=v):∀i,i<(us++[u]).length->jP (hv d (vc ((us++[u]).getD i [])) (vc P))=vc (s++[v]) i:=λi b=>by
 rw[mH,pW hs];by_cases q:i<us.length
 .rw[aR q,aR q];exact h i q
 .have:i=us.length:=by simp at b;lia
  rw[aS q,aS q,aR this,aR this];exact a
end
def JZ(h:0<g)(j:1<=o)(hs:s = -1\/s=1)(a:∀i,i<d->g*vc Q i=o*vc P i+s*vc u i)(b:g*vc Q d=o*vc P d) :
  g*hv d (vc w) (vc Q)=o*hv d (vc w) (vc P)+s*sm d λi=>vc w i*vc u i:=by
 unfold hv;have e:g*sm d (λi=>vc w i*vc Q i)=o*sm d (λi=>vc w i*vc P i)+s*sm d (λi=>vc w i*vc u i):=by rw[<-jI,<-qX];exact iV d _ _ λi f=>by have:=a i f;grind
 rw[fy,e,show g*(vc w d*vc Q d)=vc w d*(g*vc Q d) by grind,b];grind
theorem Cf:∀(d:Nat) (f:Nat->Int),0<=sm d (λi=>f i*f i)/\((∃i,i<d/\f i≠0)->0<sm d λi=>f i*f i)
 |0,_=>⟨fU _,λ⟨_,h,_⟩=>nomatch h⟩
 |d+1,f=>by
  obtain⟨e,a⟩:=Cf d λi=>f (i+1);have b:∀x:Int,0<=x*x/\(x≠0->0<x*x):=λx=>by
   rcases eZ x 0 with h|h|h
   .have:=Int.mul_pos_of_neg_of_neg h h;exact⟨by lia,λ_=>this⟩
   .subst h;exact⟨by decide,λz=>absurd rfl z⟩
   .have:=aY h h;exact⟨by lia,λ_=>this⟩
  rw[sm];have q:=b (f 0);refine⟨by lia,λ⟨i,hi,hf⟩=>?_⟩;cases i with
  |zero=>have:=q.2 hf;lia
  |succ i=>have:=a ⟨i,by lia,hf⟩;lia
def GF(d:1<=o)(h:(b.natAbs:Int)<o*(a.natAbs:Int))(hs:s = -1\/s=1):jP (o*a+s*b)=jP a:=by
 unfold jP;rcases eZ a 0 with q|q|q
 .have:o*a.natAbs = -(o*a):=by rw[show a.natAbs = -a by lia,fH]
  rw[aS (by lia),aR (by lia),aS (by lia),aR q]
 .subst q;simp at h;lia
 .have:o*a.natAbs=o*a:=by rw[show a.natAbs=a by lia]
  rw[aR (by lia),aR q]
def J7(hB:B<=2000)(hN:N<=5000)(hd:d<=50)(h2:3*B+N+2*d+4<=N2)(hN2:N2<=5000)(Z:∀w∈us,Gu d B w)(hn:us.length<=8)(hu:Gu d B u) FR
  (hFR:∀d',d=d'+1->∀vs:LL,vs.length=us.length->(∀w∈vs,Gu d' (2*B+1) w)->∃L:List (LI×LI),FR [.lst (vs.map tI),.int (d':Int)]=.ok (.lst (L.map mB))/\Ka d' N vs L) (hL:Ka d N2 us L) :
  ∃L':List (LI×LI),jF c FR [.lst (L.map mB),.lst (us.map tI),tI u]=.ok (L'.map mB)/\Ka d N2 (us++[u]) L'/\L'.length=L.length+(flt us.length (Rx d us u)).length:=by
 have sz:1000<sizeLine:=by decide
 obtain⟨C,eC,hC,hCp⟩:=wW (c:=c) hB hN hd Z hn hu FR hFR;have Ll:L.length<=256:=by have h1:=congrArg List.length hL.fst;have h2:=sG us.length (Rz d us);have h4:2 ^ us.length<=2 ^ 8:=dy (by decide) hn;rw[ax]at h1;lia
 have rw_:∀q∈L,q.1∈jZ us.length/\Rz d us q.1:=λq R=>jj.mp (by rw[<-hL.fst];exact aE.mpr ⟨q,R,rfl⟩);let J:List (LI×T):=qf [] (C.map λq=>(q.1,tI q.2));let D:T:=.dic J;let S (G:List (LI×LI)) (A n a:Option W):En:=[some (.p (.lst (L.map mB))),some (.p (.lst (us.map tI))),some (.p (tI u)),some (.p D),some (.o (G.map mB)),A,n,a];let Ok (q:LI×LI):Prop:=Gp d N2 q.2/\∀i,i<(us++[u]).length->jP (hv d (vc ((us++[u]).getD i [])) (vc q.2))=vc q.1 i;let E:LI->Bool:=λs=>CJ (Rx d us u s);let two:LI->LL:=λs=>[s++[-1],s++[1]].filter λs=>CJ (Rz d (us++[u]) s);have hin:∀(s:LI) (b:Bool) (G:List (LI×LI)) (n a:Option W),(lT J s).isSome=b->ji (gO (Bh false) (gq 5) (gq 3)) (vw (S G (some (.p (tI s))) n a))=.ok b:=λs b G n a h=>iT (gC (x:=tI s) (y:=D) rfl rfl (by show (match iW (s.map T.int) with|some ns=>M.ok (T.bl (if false then !(lT J ns).isSome else (lT J ns).isSome))|none=>M.bad)=_;rw[qD];simp[h]))
 have app:∀(G:List (LI×LI)) (q:LI×LI) (A n a:Option W) {f:Pe->M T},G.length<=600->f (mq (S G A n a))=.ok (mB q)->tW 4 (jE f) (S G A n a)=.nx (S (G++[q]) A n a):=λG q A n a {f} hG h=>xV (us:=G.map mB) rfl h (by rw[ax];lia) (by simp[S]);obtain⟨ρ',e',G,A,n,a,rfl,g1,g2,g3⟩:=jX (m:=sZ 2 (lx (nj 5) (lx (nj 6) uP))) (g:=mE c FR) mB
  (λk ρ=>∃(G:List (LI×LI)) (A n a:Option W),ρ=S G A n a/\G.map Prod.fst=((L.take k).map Prod.fst).flatMap two/\(∀q∈G,Ok q)/\G.length=k+(((L.take k).map Prod.fst).filter E).length) L 0 (S [] none none none) ⟨[],none,none,none,rfl,rfl,(λ_ h=>nomatch h),rfl⟩ (by
   rintro k ⟨s,P⟩ ρ hk ⟨G,A,n,a,rfl,g1,g2,g3⟩;rw[aH]at g1 g3 ⊢;have hm:=av hk;have hkl:=(ae.mp hk).1;have g4:G.length<=2*k:=by have:=fL E ((L.take k).map Prod.fst);simp only[ax,bT]at this;lia
   have ck:(((L.take (k+1)).map Prod.fst).filter E).length=(((L.take k).map Prod.fst).filter E).length+if E s then 1 else 0:=by rw[lC L k _ hk,a9,List.filter_append,aU];cases h:E s<;>simp[h]
   obtain⟨r1,X0,hX0⟩:=rw_ _ hm;have K:=hL.gp _ hm;have sg:=hL.sg _ hm;dsimp only at r1 K sg hX0;have sl:=(iF r1).1;have H:=ET K.pos sg λi j=>ny r1 j;have rx:s∈C.map Prod.fst↔Rx d us u s:=by rw[hC,jj];exact⟨λz=>z.2,λz=>⟨r1,z⟩⟩
   have tk:((L.take (k+1)).map Prod.fst).flatMap two=((L.take k).map Prod.fst).flatMap two++two s:=by rw[lC L k _ hk];simp
   refine⟨S G (some (.p (tI s))) (some (.p (tI P))) a,?_⟩;rcases Mi C s with⟨v0,v1⟩|⟨q,R,rfl,v1⟩
   .have F:¬Rx d us u s:=λz=>v1 (rx.mpr z);have h0:hv d (vc u) (vc P)≠0:=λz=>F ⟨XP d (vc P),by
     have e:=FZ (u:=vc u) K.pos;rw[z]at e;have:=ye K.pos;rcases Rat.mul_eq_zero.mp e.symm with q|q
     .grind
     .exact q,H⟩
    have la:=oK (c:=c) (d:=d) (B:=B) (M:=N2) (by lia) (by lia) hd hu.len K.len hu.bn K.bn;have hs:=Ew (hv d (vc u) (vc P));generalize hh:hv d (vc u) (vc P)=h at *;have one:jP h = -1\/jP h=1:=by have:=qG h;have:=(hs.2 h0).2.2;lia
    have r:0<((jP h:Int):Rat)*jQ d (XP d (vc P)) (vc u):=by
     have z:∀i,i < [u].length->i=0:=λi j=>by simpa using j
     have:=ET (us:=[u]) (s:=[jP h]) K.pos (λi j=>by rw[z i j];show jP (hv d (vc u) (vc P))=_;rw[hh];rfl) λi j=>by rw[z i j];exact one.symm
     exact this 0 (by simp)
    have rz1:Rz d (us++[u]) (s++[jP h]):=⟨_,(lB sl _ _).mpr ⟨H,r⟩⟩;have rz2:∀v:Int,(v = -1\/v=1)->v≠jP h->¬Rz d (us++[u]) (s++[v]):=λv l hne ⟨Y,hY⟩=>by
     obtain⟨y1,y2⟩:=(lB sl _ _).mp hY;have:v = -jP h:=by rcases one with q|q<;>rw[q]at hne ⊢<;>lia
     rw[this]at y2;have c1:((-jP h:Int):Rat) = -((jP h:Int):Rat):=by simp
     rw[c1]at y2;rcases one with q|q
     .rw[q]at r y2;have o:((-1:Int):Rat) = -1:=rfl;rw[o]at r y2;exact F (BJ y1 H (by grind) (by grind))
     .rw[q]at r y2;have o:((1:Int):Rat)=1:=rfl;rw[o]at r y2;exact F (BJ H y1 (by grind) (by grind))
    have tw:two s=[s++[jP h]]:=by
     show List.filter _ [s++[-1],s++[1]]=_;rcases one with q|q<;>rw[q]at rz1 rz2 ⊢
     .rw[fS (by simpa using rz1),fT (by simpa using rz2 1 (.inr rfl) (by decide))];rfl
     .rw[fT (by simpa using rz2 (-1) (.inl rfl) (by decide)),fS (by simpa using rz1)];rfl
    refine⟨S (G++[(s++[jP h],P)]) (some (.p (tI s))) (some (.p (tI P))) a,rfl,.inl (iS (hin s false G _ _ (by rw[show lT J s=none from v0];rfl)) (app G (s++[jP h],P) _ _ _ (by lia) (C7 (gC (x:=tI s) (y:=tI [jP h]) rfl (Dh (rS (kf rfl rfl la) (oZ h))) (pj _ _ (by simp;lia))) rfl))),_,_,_,_,rfl,?_,?_,by rw[ck,show E s=false from Bw F,aU,g3];simp;lia⟩
    .rw[a9,g1,tk,tw];rfl
    .intro z hz;rcases aj.mp hz with y|y
     .exact g2 z y
     .rw[ak.mp y];exact⟨K,CI sl sg (by rw[hh])⟩
   .obtain⟨cp,cz,cs,ci⟩:=hCp q R;have hne:∀w∈us,hv d (vc w) (vc q.2)≠0:=λw hw z=>by obtain⟨i,j,e⟩:=fN hw;have:=cs i j;rw[ag,ai j,Option.getD_some,e,z]at this;rcases ny r1 j with y|y<;>rw[y]at this<;>cases this
    have U:∀v:Int,(v = -1\/v=1)->∃Q:LI,jA c [.lst (us.map tI),tI u,tI q.2,.int v]=.ok (tI Q)/\Ok (q.1++[v],Q):=λv l=>by
     obtain⟨Q,g,o,f1,f2,f3,f4,f5,f6,f7,f8⟩:=xx (c:=c) (d:=d) (B:=B) (N:=B+N+d+1) hB (by lia) (by lia) hd (λw hw=>⟨(Z w hw).len,(Z w hw).bn⟩) (by lia) hu.len hu.bn cp hne l;have pos:0<vc Q d:=by have h7:0<o*vc q.2 d:=aY (by lia) cp.pos;rw[<-f7]at h7;exact fG h7 f4
     have of:=λw=>JZ (w:=w) f4 f5 l f6 f7;refine⟨Q,f1,⟨f2,λx hx=>(f3 x hx).mono (by lia),pos⟩,CI sl (λi j=>?_) ?_⟩
     .have hw:=md j;rw[<-cs i j,sL f4 (by decide:(0:Int)<1) ((of _).trans (eN _).symm)];exact GF f5 (f8 _ hw) l
     .rw[sL f4 (by decide:(0:Int)<1) ((of _).trans (eN _).symm),cz];have:=(Cf d (vc u)).2 ci;generalize sm d (λi=>vc u i*vc u i)=m at this;unfold jP;rcases l with rfl|rfl
      .rw[aS (by lia),aR (by lia)]
      .rw[aR (by lia)]
    obtain⟨Q1,f1,o1⟩:=U (-1) (.inl rfl);obtain⟨Q2,f2,o2⟩:=U 1 (.inr rfl);have rzo:∀(v:Int) (Q:LI),(v = -1\/v=1)->Ok (q.1++[v],Q)->Rz d (us++[u]) (q.1++[v]):=λv Q l o=>⟨_,ET o.1.pos o.2 λi j=>by
     rw[pW sl];by_cases y:i<us.length
     .rw[aR y];exact ny r1 y
     .have:i=us.length:=by simp at j;lia
      rw[aS y,aR this];exact l.symm⟩
    have tw:two q.1=[q.1++[-1],q.1++[1]]:=by show List.filter _ [q.1++[-1],q.1++[1]]=_;rw[fS (by simpa using rzo _ _ (.inl rfl) o1),fS (by simpa using rzo _ _ (.inr rfl) o2)];rfl
    have gt:FK D (tI q.1)=.ok (tI q.2):=by show (match iW (q.1.map T.int) with|some ns=>(match lT J ns with|some t=>M.ok t|none=>M.bad)|none=>M.bad)=_;rw[qD];dsimp only;rw[show lT J q.1=some (tI q.2) from v1]
    have I:∀(G:List (LI×LI)) (v:Int) (Q:LI),G.length<=600->jA c [.lst (us.map tI),tI u,tI q.2,.int v]=.ok (tI Q)->kR c FR (S G (some (.p (tI q.1))) (some (.p (tI P))) (some (.p (.int v))))=.nx (S (G++[(q.1++[v],Q)]) (some (.p (tI q.1))) (some (.p (tI P))) (some (.p (.int v)))):=λG v Q hG hf=>app G (q.1++[v],Q) _ _ _ hG (C7 (gC (x:=tI q.1) (y:=tI [v]) rfl (Dh rfl) (pj _ _ (by simp;lia))) (OG rfl rfl (gC (x:=D) (y:=tI q.1) rfl rfl gt) rfl hf))
    have lp:jK (nj 7) (kR c FR) [T.int (-1),T.int 1] (S G (some (.p (tI q.1))) (some (.p (tI P))) a)=.nx (S ((G++[(q.1++[-1],Q1)])++[(q.1++[1],Q2)]) (some (.p (tI q.1))) (some (.p (tI P))) (some (.p (.int 1)))):=by have s1:nj 7 (T.int (-1)) (S G (some (.p (tI q.1))) (some (.p (tI P))) a)=some (S G (some (.p (tI q.1))) (some (.p (tI P))) (some (.p (.int (-1))))):=rfl;have s2:nj 7 (T.int 1) (S (G++[(q.1++[-1],Q1)]) (some (.p (tI q.1))) (some (.p (tI P))) (some (.p (.int (-1)))))=some (S (G++[(q.1++[-1],Q1)]) (some (.p (tI q.1))) (some (.p (tI P))) (some (.p (.int 1)))):=rfl;rw[jK,s1];dsimp only;rw[I G (-1) Q1 (by lia) f1];dsimp only;rw[jK,s2];dsimp only;rw[I _ 1 Q2 (by simp;lia) f2];rfl
    refine⟨_,rfl,.inl (jC (hin q.1 true G _ _ (by rw[show lT J q.1=some (tI q.2) from v1];rfl)) (m4 (yD (C7 (rF rfl) rfl)) lp)),_,_,_,_,rfl,?_,?_,by rw[ck,show E q.1=true from sR (rx.mp (aE.mpr ⟨q,R,rfl⟩)),aU,aU,g3];simp;lia⟩
    .rw[a9,a9,g1,tk,tw,b7];rfl
    .intro z hz;rcases aj.mp hz with y|y
     .rcases aj.mp y with y|y
      .exact g2 z y
      .rw[ak.mp y];exact o1
     .rw[ak.mp y];exact o2)
 rw[aH,eM]at g1 g3;refine⟨G,qI rfl (gB (ρ':=[some (.p (.lst (L.map mB))),some (.p (.lst (us.map tI))),some (.p (tI u)),some (.p D),none,none,none,none]) (gU (lV (iD (E5 rfl rfl eC)) (by show (match uz (C.map mB) with|some ps=>M.ok (T.dic (qf [] ps))|none=>M.bad)=_;rw[wB])) rfl) (gB (ρ':=S [] none none none) (nF (ts:=[]) (by simp) rfl) (gB (m4 (jR rfl) e') rfl))),⟨?_,λq R=>(g2 q R).1,λq R=>(g2 q R).2⟩,?_⟩
 .rw[g1,hL.fst,aU,b8];exact (zC λs hs np v ⟨X,hX⟩=>np ⟨X,((lB (iF hs).1 _ _).mp hX).1⟩).symm
 .rw[g3,hL.fst];congr 2;unfold flt;rw[fV];refine fJ λs _=>?_;by_cases h:Rx d us u s
  .have h2:Rz d us s:=let ⟨X,_,z⟩:=h;⟨X,z⟩;simp[E,h,h2]
  .simp[E,h]
noncomputable def Pw:Nat->Nat->Nat
 |0,B=>3*B+4
 |d+1,B=>3*B+Pw d (2*B+1)+2*(d+1)+4
theorem Kx:∀d B,d<=8->Pw d B+3*(B+1)<=6*((B+1)*2 ^ d)+20*d+4
 |0,B,_=>by unfold Pw;simp;lia
 |d+1,B,h=>by
  have a:=Kx d (2*B+1) (by lia);have e:(2*B+1+1)*2 ^ d=(B+1)*2 ^ (d+1):=by rw[dw,show 2*B+1+1=(B+1)*2 by lia,Nat.mul_assoc,cf 2]
  rw[e]at a;generalize (B+1)*2 ^ (d+1)=q at *;unfold Pw;lia
def t6(a:d<=4)(h:(B+1)*2 ^ d<=800):Pw d B<=5000/\B<=2000:=by have:=Kx d B (by lia);have:(B+1)*1<=(B+1)*2 ^ d:=eT _ (Nat.two_pow_pos d);lia
def JN(h:f ρ=.ok x):lstM (gj f gy) ρ=.ok [x]:=by
 have:1<=sizeLine:=by decide
 simp[h,this]
theorem yt:∀n d B us,d<n->d<=4->(B+1)*2 ^ d<=800->us.length<=8->(∀u∈us,Gu d B u)->
  ∃L:List (LI×LI),j7 c n [.lst (us.map tI),.int (d:Int)]=.ok (.lst (L.map mB))/\Ka d (Pw d B) us L
 |0,d,B,us,h,_,_,_,_=>absurd h (c6 _)
 |n+1,d,B,us,hdn,hd,hB,hn,hus=>by
  have sz:1000<sizeLine:=by decide
  obtain⟨p1,Z⟩:=t6 hd hB;obtain⟨N,n1,n2,n3⟩:∃N,3*B+N+2*d+4<=Pw d B/\N<=5000/\∀o,d=o+1->∀b:LL,b.length<=8->(∀w∈b,Gu o (2*B+1) w)->∃L:List (LI×LI),j7 c n [.lst (b.map tI),.int (o:Int)]=.ok (.lst (L.map mB))/\Ka o N b L:=by
   cases d with
   |zero=>exact⟨0,by unfold Pw;lia,by decide,λo h=>nomatch h⟩
   |succ d=>
    have e:(2*B+1+1)*2 ^ d=(B+1)*2 ^ (d+1):=by rw[dw,show 2*B+1+1=(B+1)*2 by lia,Nat.mul_assoc,cf 2]
    have q:=t6 (d:=d) (by lia) (by rw[e];exact hB);refine⟨Pw d (2*B+1),bL (by rw[Pw]),q.1,λo h b E F=>?_⟩;cases h;exact yt n d (2*B+1) b (by lia) (by lia) (by rw[e];exact hB) E F
  let S (L:List (LI×LI)) (s A:Option W):En:=[some (.p (.lst (us.map tI))),some (.p (.int (d:Int))),some (.p (.lst (L.map mB))),s,A];let C:LI:=List.replicate d 0++[1];have R:vc C d=1:=by show vc (List.replicate d 0++[1]) d=1;rw[ph,bU,aS (by lia),de];rfl
  have Y:Ka d (Pw d B) [] [([],C)]:=by
   refine⟨?_,λq P=>?_,λq P i H=>nomatch H⟩
   .have:([]:LI)∈flt 0 (Rz d []):=jj.mpr ⟨by simp[jZ],λ_=>0,λi H=>nomatch H⟩;have l:=sG 0 (Rz d []);show [[]]=flt 0 (Rz d []);revert this l;generalize flt 0 (Rz d [])=f;intro this l;match f,this,l with
    |[a],h,_=>rw[ak.mp h]
    |_::_::_,_,l=>simp at l
   .rw[ak.mp P];refine⟨by simp[C],λx D=>?_,by rw[R];decide⟩;have b1:Bn 1 x:=by
     rcases aj.mp D with z|z
     .rw[List.eq_of_mem_replicate z];unfold Bn;decide
     .rw[ak.mp z];unfold Bn;decide
    exact b1.mono (by lia)
  obtain⟨ρ',X,L,s,A,rfl,v⟩:=jX (m:=sZ 2 (lx (nj 3) (lx (nj 4) uP))) (g:=yO c (j7 c n)) (λp:LI×Nat=>T.tup [.int (p.2:Int),tI p.1])
   (λk K=>∃(L:List (LI×LI)) (s A:Option W),K=S L s A/\Ka d (Pw d B) (us.take k) L) us.zipIdx 0 (S [([],C)] none none) ⟨_,none,none,rfl,Y⟩ (by
    rintro k ⟨u,j⟩ K r ⟨L,s,A,rfl,v⟩;rw[aH]at v ⊢;obtain⟨hku,rfl⟩:us[k]? = some u/\k=j:=by
     rw[List.getElem?_zipIdx]at r;cases D:us[k]? with
     |none=>rw[D]at r;cases r
     |some z=>rw[D]at r;simp at r;exact⟨by rw[r.1],r.2⟩
    have hkl:=(ae.mp hku).1;obtain⟨J,eL,I,-⟩:=J7 (c:=c) Z n2 (by lia) n1 p1 (us:=us.take k) (λw hw=>hus w (eV hw)) (by simp;lia) (hus u (av hku)) (j7 c n) (λo h b Q U=>n3 o h b (by rw[Q];simp;lia) U) v;refine⟨_,S J (some (.p (.int (k:Int)))) (some (.p (tI u))),rfl,.inl (gU (iD (Mo rfl (v7 (d:=k) (ts:=us.map tI) rfl rfl) rfl (by rw[<-eA];exact eL))) rfl),J,_,_,rfl,by rw[lC us k u hku];exact I⟩)
  rw[aH,List.length_zipIdx,eM]at v;refine⟨L,iN rfl (gB (ρ':=S [([],C)] none none) (gU (iD (JN (C7 (by simp;rfl) (gC (x:=tI (List.replicate d 0)) (y:=tI [1]) (NW d (by lia) rfl) (Dh rfl) (pj _ _ (by simp;lia)))))) rfl) (gB (m4 ((DY rfl).trans (by rw[wH])) X) (ig rfl))),v⟩
def sH(d:Nat)(X:Nat->Rat)(e:Rat)(Y:Nat->Rat)(x:Vc):jQ d (λi=>X i+e*Y i) x=jQ d X x+e*lG d (λp=>(x p:Rat)*Y p):=by
 unfold jQ;have:lG d (λp=>(x p:Rat)*(X p+e*Y p))=1*lG d (λp=>(x p:Rat)*X p)+e*lG d (λp=>(x p:Rat)*Y p):=by rw[<-og];exact iJ _ _ _ λi _=>by grind
 rw[this];grind
def Po(A B:Rat)(j:0<A):∃a:Rat,0<a/\∀e:Rat,(-a<=e/\e<=a)->0<A+e*B:=by
 obtain⟨b,hb0,hb1,hb2⟩:∃b:Rat,0<=b/\B<=b/\-B<=b:=by
  by_cases h:0<=B
  .exact⟨B,h,Rat.le_refl,by grind⟩
  .exact⟨-B,by grind,by grind,Rat.le_refl⟩
 have m:(0:Rat)<b+1:=by grind
 have k:b+1≠0:=λz=>by grind
 let a:Rat:=A*(b+1)⁻¹;have l:a*(b+1)=A:=by show A*(b+1)⁻¹*(b+1)=A;rw[Rat.mul_assoc,Rat.inv_mul_cancel _ k,Rat.mul_one]
 have d:0<a:=aP λq=>by have:=fW (fX.mp q) (fj m);rw[l,Rat.zero_mul]at this;exact absurd j (fX.mpr this)
 refine⟨a,d,λe f=>?_⟩;have p:a*b<A:=by
  have:a*(b+1)=a*b+a:=by grind
  grind
 by_cases h:0<=B
 .have g:=fW f.1 h;have i:=fY hb1 (fj d);have:-a*B = -(a*B):=by grind
  grind
 .have g:=fW f.2 (show 0<=-B by grind);have i:=fY hb2 (fj d);have o:e * -B = -(e*B):=by grind
  have n:a * -B = -(a*B):=by grind
  grind
def NU{d:Nat}{s:LI}{X Y:Nat->Rat}:∀(n:Nat) (us:LL),us.length=n->On d us s X->∃b:Rat,0<b/\∀e:Rat,(-b<=e/\e<=b)->∀i,i<n->0<(vc s i:Rat)*jQ d (λi=>X i+e*Y i) (vc (us.getD i [])):=by
 intro n us u h;subst u;have main:∀k,k<=us.length->∃b:Rat,0<b/\∀e:Rat,(-b<=e/\e<=b)->∀i,i<k->0<(vc s i:Rat)*jQ d (λi=>X i+e*Y i) (vc (us.getD i [])):=by
  intro k;induction k with
  |zero=>exact λ_=>⟨1,by decide,λ_ _ i l=>absurd l (c6 _)⟩
  |succ k ih=>
   intro x;obtain⟨b,v,r⟩:=ih (by lia);have g:=h k (by lia);generalize o:(vc s k:Rat)*jQ d X (vc (us.getD k []))=A at g;generalize w:(vc s k:Rat)*lG d (λp=>(vc (us.getD k []) p:Rat)*Y p)=B;obtain⟨a,hδ',hh'⟩:∃a:Rat,0<a/\∀e:Rat,(-a<=e/\e<=a)->0<A+e*B:=Po A B g;refine⟨if b<=a then b else a,by split<;>assumption,λe j i l=>?_⟩;have m:-b<=e/\e<=b:=by split at j<;>grind
   have q:-a<=e/\e<=a:=by split at j<;>grind
   by_cases f:i=k
   .subst f;rw[sH];have:=hh' e q;rw[<-o,<-w]at this;grind
   .exact r e m i (by lia)
 exact main us.length (aL _)
theorem sI:∀(d:Nat) (f:Nat->Int),lG d (λi=>((f i:Int):Rat))=((sm d f:Int):Rat)
 |0,_=>rfl
 |n+1,f=>by unfold lG sm;rw[sI n λi=>f (i+1),Rat.intCast_add]
section
variable {d:Nat}{us:LL}{u s:LI}
def Qe{p:Nat}(e:p<d)(f:vc u p≠0)(hs:s.length=us.length)(h:Rx d us u s){v:Int}(hv:v=1\/v = -1):Rz d (us++[u]) (s++[v]):=by
 obtain⟨X,j,on⟩:=h;obtain⟨a,b,g⟩:=NU (Y:=λi=>(vc u i:Rat)) us.length us rfl on;have q:0<sm d (λi=>vc u i*vc u i):=(Cf d (vc u)).2 ⟨p,e,f⟩;have Q:lG d (λi=>(vc u i:Rat)*(vc u i:Rat))=((sm d (λi=>vc u i*vc u i):Int):Rat):=by rw[<-sI];exact iJ _ _ _ λi _=>by rw[fu]
 have n:=ye q;have m:=fz b n;refine⟨λi=>X i+((v:Rat)*a)*(vc u i:Rat),(lB hs v _).mpr ⟨λi l=>g _ ?_ i l,?_⟩⟩
 .rcases hv with rfl|rfl
  .have:((1:Int):Rat)*a=a:=by show (1:Rat)*a=a;exact fZ a
   rw[this];constructor<;>grind
  .have:((-1:Int):Rat)*a = -a:=by show (-1:Rat)*a = -a;grind
   rw[this];constructor<;>grind
 .rw[sH,j,Q];have k:(v:Rat)*(v:Rat)=1:=by
   have hw:v*v=1:=by rcases hv with rfl|rfl<;>rfl
   exact_mod_cast hw
  have:(v:Rat)*(0+(v:Rat)*a*((sm d (λi=>vc u i*vc u i):Int):Rat))=((v:Rat)*(v:Rat))*(a*((sm d (λi=>vc u i*vc u i):Int):Rat)):=by grind
  rw[this,k,fZ];exact m
theorem zc{b e:Type}{F:b->List e}{R:b->Bool}:∀(l:List b),(∀s∈l,(F s).length=1+if R s then 1 else 0)->(l.flatMap F).length=l.length+(l.filter R).length
 |[],_=>rfl
 |a::l,h=>by
  rw[fR,aU,zc l λs hs=>h s (by simp[hs]),h a (by simp),List.filter_cons,aA];cases R a
  .simp only[cm,if_false];lia
  .simp only[if_true,aA];lia
def OY(m:∀s:LI,s.length=us.length->Rx d us u s->∀v:Int,v=1\/v = -1->Rz d (us++[u]) (s++[v]))(hne:∀s,s.length=us.length->Rz d us s->Rx d us u s\/∃X,On d us s X/\jQ d X (vc u)≠0) :
  (flt (us.length+1) (Rz d (us++[u]))).length=(flt us.length (Rz d us)).length+(flt us.length (Rx d us u)).length:=by
 have st:=zC (n:=us.length) (p:=Rz d us) (q:=Rz d (us++[u])) λs f h v ⟨X,hX⟩=>h ⟨X,((lB (iF f).1 v X).mp hX).1⟩;rw[st,zc (R:=λs=>CJ (Rx d us u s))]
 .congr 1;unfold flt;rw[fV];congr 1;refine fJ λs _=>?_;by_cases h:Rx d us u s
  .obtain⟨X,_,on⟩:=id h;rw[sR h,sR (show Rz d us s from ⟨X,on⟩)];rfl
  .rw[Bw h];rfl
 .intro s f;obtain⟨hr,o⟩:=jj.mp f;have e:=(iF hr).1;by_cases h:Rx d us u s
  .rw[aR (sR h),fS (by simpa using m s e h (-1) (.inr rfl)),fS (by simpa using m s e h 1 (.inl rfl))];rfl
  .rw[aS (by rw[Bw h];decide)];obtain⟨X,on,ne⟩:=(hne s e o).resolve_left h;rcases Rat.le_total (a:=0) (b:=jQ d X (vc u)) with q|q
   .have pos:0<jQ d X (vc u):=by grind
    have l:Rz d (us++[u]) (s++[1]):=⟨X,(lB e 1 X).mpr ⟨on,by show 0<(1:Rat)*_;rw[fZ];exact pos⟩⟩;have i:¬Rz d (us++[u]) (s++[-1]):=λ⟨Y,hY⟩=>by obtain⟨j,k⟩:=(lB e (-1) Y).mp hY;have g:0<(-1:Rat)*jQ d Y (vc u):=k;exact h (BJ on j q (by grind))
    rw[fT (by simpa using i),fS (by simpa using l)];rfl
   .have neg:jQ d X (vc u)<0:=by grind
    have l:Rz d (us++[u]) (s++[-1]):=⟨X,(lB e (-1) X).mpr ⟨on,by show 0<(-1:Rat)*_;grind⟩⟩;have i:¬Rz d (us++[u]) (s++[1]):=λ⟨Y,hY⟩=>by obtain⟨j,k⟩:=(lB e 1 Y).mp hY;have g:0<(1:Rat)*jQ d Y (vc u):=k;exact h (BJ j on (by grind) q)
    rw[fS (by simpa using l),fT (by simpa using i)];rfl
end
def BD(d:Nat):oQ d []=1:=by
 obtain⟨r,hr,k⟩:=mV 0 (d+1) [] rfl;have a:¬nJ d []:=λh=>by have:=h (λ_=>1) λr hr=>nomatch hr;exact absurd this (by decide)
 rw[px a k,aR (by simp;lia)]
def CT{g:Type}{d:Nat}(l:List g)(a b:g->Vc)(h:∀w∈l,∃k:Int,k≠0/\∀i,a w i=k*b w i):qr d (l.map a)=qr d (l.map b):=by
 unfold qr;rw[<-nA,<-nA];refine kU λB j=>zy (by simp) λv=>?_;have f:∀w∈B,(kg (d+1) (a w) v=0↔kg (d+1) (b w) v=0):=λw hw=>by
  obtain⟨k,m,e⟩:=h w (j.subset hw);have:kg (d+1) (a w) v=k*kg (d+1) (b w) v:=by unfold kg;rw[<-jI];exact iV _ _ _ λi _=>by rw[e i,dX]
  rw[this];exact⟨λz=>(eP.mp z).resolve_left m,λz=>by rw[z,eO]⟩
 constructor
 .intro q r hr;obtain⟨w,hw,rfl⟩:=aE.mp hr;exact (f w hw).mp (q _ (aE.mpr ⟨w,hw,rfl⟩))
 .intro q r hr;obtain⟨w,hw,rfl⟩:=aE.mp hr;exact (f w hw).mpr (q _ (aE.mpr ⟨w,hw,rfl⟩))
def CK(m:Nat)(u:LI)(p:Nat)(w:LI):LI:=(List.range m).map λi=>((vc u p).natAbs:Int)*vc w i-jP (vc u p)*vc w p*vc u i
def Hx{m p:Nat}{u w:LI}(b:u.length=m)(hw:w.length=m)(i:Nat):vc (CK m u p w) i=((vc u p).natAbs:Int)*vc w i-jP (vc u p)*vc w p*vc u i:=by
 by_cases a:i<m
 .rw[jc _ i (by simp[CK];exact a)];simp[CK]
 .rw[kH _ i (by simp[CK];lia),kH w i (by lia),kH u i (by lia)];lia
theorem LZ:∀(n d:Nat) (us:LL),us.length=n->(∀u∈us,u.length=d+1)->((flt us.length (Rz d us)).length:Int)=qr d (us.reverse.map vc)
 |0,d,us,hn,_=>by
  have:us=[]:=dI.mp hn;subst this;show ((flt 0 (Rz d [])).length:Int)=oQ d [];have:flt 0 (Rz d [])=[[]]:=by unfold flt;have z:Rz d [] []:=⟨λ_=>0,λi b=>absurd b (c6 _)⟩;show [[]].filter _=[[]];rw[fS (by simpa using z)];rfl
  rw[this,BD];rfl
 |n+1,d,us,hn,hl=>by
  rcases fO us with rfl|⟨a,u,E⟩
  .cases hn
  rw[fP]at E;subst E;have j:a.length=n:=by simpa using hn
  have f:∀w∈a,w.length=d+1:=λw hw=>hl w (by simp[hw]);have B:u.length=d+1:=hl u (by simp);have F:=LZ n d a j f;rw[List.reverse_append,List.reverse_singleton,fQ,bK,aU,b8];by_cases I:∃i,i<d+1/\vc u i≠0
  .by_cases y:∃p,p<d/\vc u p≠0
   .obtain⟨p,K,l⟩:=y;obtain⟨e,rfl⟩:∃e,d=e+1:=⟨d-1,by lia⟩;have A:=OY (d:=e+1) (us:=a) (u:=u) (λs g h v hv=>Qe K l g h hv) λs g ⟨X,on⟩=>by
     by_cases q:jQ (e+1) X (vc u)=0
     .exact .inl ⟨X,q,on⟩
     .exact .inr ⟨X,on,q⟩
    have P:=vK (d:=e) (us:=a) (u:=u) (p:=p) (by lia) l (CK (e+2) u p) λw hw=>by have vw:=Hx (m:=e+2) (p:=p) B (f w hw);refine⟨?_,by simp[CK];lia,1,((vc u p).natAbs:Int),-(jP (vc u p)*vc w p),by decide,by lia,λi=>by rw[vw i];grind⟩;rw[vw p,<-qo];grind
    have L:flt a.length (Rx (e+1) a u)=flt (a.map λw=>wo (CK (e+2) u p w) p).length (Rz e (a.map λw=>wo (CK (e+2) u p w) p)):=by rw[ax];exact nT λs _=>(P s).symm
    have o:=LZ n e (a.map λw=>wo (CK (e+2) u p w) p) (by simpa using j) λw hw=>by obtain⟨x,R,rfl⟩:=aE.mp hw;have:=Bi (row:=CK (e+2) u p x) (p:=p) (by simp[CK];lia);simp[CK]at this ⊢;lia
    rw[A,L,Int.natCast_add,F,o,vx (d:=e) (p:=p) (by lia) l];congr 1;rw[<-List.map_reverse,aJ,aJ];refine CT a.reverse _ _ λw hw=>⟨jP (vc u p),?_,λi=>?_⟩
    .intro z;have:=qo (vc u p);rw[z,eQ]at this;lia
    .have Q:=f w (List.mem_reverse.mp hw);show vc (wo (CK (e+2) u p w) p) i=jP (vc u p)*xq (vc u) p (vc w) i;rw[BF (by simp[CK];lia),Hx B Q,<-qo];unfold xq;grind
   .have k:vc u d≠0:=by
     obtain⟨i,b,h⟩:=I;by_cases mq:i=d
     .rw[<-mq];exact h
     .exact absurd ⟨i,by lia,h⟩ y
    have H:∀i,i<d->vc u i=0:=λi b=>aP λz=>y ⟨i,b,z⟩;have D:∀X,jQ d X (vc u) = -(vc u d:Rat):=λX=>by unfold jQ;rw[iJ d _ (λ_=>0) λi b=>by rw[H i b];grind,qc];grind
    have N:(vc u d:Rat)≠0:=λz=>k (by exact_mod_cast z);have C:∀s,¬Rx d a u s:=λs ⟨X,q,_⟩=>by rw[D]at q;exact N (by grind)
    have A:=OY (d:=d) (us:=a) (u:=u) (λs _ h=>absurd h (C s)) λs g ⟨X,on⟩=>.inr ⟨X,on,by rw[D];grind⟩;rw[A,uj C,cH,Nat.add_zero,F,CA H k]
  .have r:∀i,vc u i=0:=λi=>by
    by_cases b:i<d+1
    .exact aP λz=>I ⟨i,b,z⟩
    .exact kH u i (by lia)
   have J:∀s∈jZ (a.length+1),¬Rz d (a++[u]) s:=λs g ⟨X,on⟩=>by
    have:=on a.length (by simp);rw[mH,aS (by lia),aR rfl]at this;have e:jQ d X (vc u)=0:=by unfold jQ;rw[iJ d _ (λ_=>0) λi b=>by rw[r i];grind,qc,r d];grind
    rw[e]at this;grind
   have:flt (a.length+1) (Rz d (a++[u]))=[]:=by unfold flt;exact fK.mpr λs g=>by simpa using J s g
   rw[this,wx (u:=vc u) (λi _=>r i) _ (by simp)];rfl
def Gz{d:Nat}{u:Vc}(h:∀i,i<d->u i=0)(a:u d≠0)(B:List Vc):nJ d (u::B):=λv hv=>by
 have:=hv u (by simp);unfold kg at this;have e:sm (d+1) (λi=>u i*v i)=u d*v d:=by rw[xG,(iV _ _ (λ_=>0) λi b=>by rw[h i b,eQ]),pQ];lia
 rw[e]at this;rcases eP.mp this with z|z
 .exact absurd z a
 .exact z
def Ch:Nat->Nat->Nat
 |0,_=>1
 |_+1,0=>1
 |n+1,d+1=>Ch n (d+1)+Ch n d
theorem Ae:∀n d,1<=Ch n d
 |0,_=>aL 1
 |_+1,0=>aL 1
 |n+1,d+1=>aO (Ae n (d+1)) (cx _ _)
theorem Jv:∀n,Ch n 0=1
 |0=>rfl
 |_+1=>rfl
def PH(d:Nat)(B:List Vc):Prop:=(B.length<=d->¬nJ d B/\Eb (d+1) B B.length)/\(B.length=d+1->nJ d B)
def Pl(d:Nat)(us:List Vc):Prop:=∀B,B.Sublist us->PH d B
section
variable {d p:Nat}{u:Vc}{us:List Vc}
def yR(j:p<=d)(f:u p≠0)(B:List Vc):PH (d+1) (u::B)↔PH d (B.map (xq u p)):=by
 have i:Eb (d+1+1) (u::B) (B.length+1)↔Eb (d+1) (B.map (xq u p)) B.length:=by
  constructor
  .intro k;obtain⟨r,_,g⟩:=mV _ (d+1) (B.map (xq u p)) rfl;have e:=k.uniq (sP (d:=d+1) (by lia) f g) λ_=>Iff.rfl;rw[show B.length=r by lia];exact g
  .intro k;exact sP (d:=d+1) (by lia) f k
 unfold PH;rw[aA,ax,sV j f,i];constructor
 .rintro⟨a,b⟩;exact⟨λh=>a (by lia),λh=>b (by lia)⟩
 .rintro⟨a,b⟩;exact⟨λh=>a (by lia),λh=>b (by lia)⟩
def IZ(e:p<=d)(f:u p≠0):Pl (d+1) (u::us)↔Pl (d+1) us/\Pl d (us.map (xq u p)):=by
 constructor
 .intro h;refine⟨λB a=>h B (a.cons u),λB a=>?_⟩;obtain⟨C,b,rfl⟩:=List.sublist_map_iff.mp a;exact (yR e f C).mp (h _ (b.cons₂ u))
 .rintro⟨g,i⟩ B a;rcases f9.mp a with h|⟨C,rfl,b⟩
  .exact g B h
  .exact (yR e f C).mpr (i _ (b.map _))
def II{m:Nat}(h:∀i,i<m->u i=0):¬Eb m [u] 1:=λk=>by obtain⟨r,hr,a⟩:=mV 0 m [] rfl;have:=k.uniq a (oa h []);lia
def Es(h:∀i,i<d+1->u i=0):¬nJ d [u]:=λa=>by have:=a (λ_=>1) ((oa h [] _).mpr λr hr=>nomatch hr);exact absurd this (by decide)
end
theorem xS:∀(n d:Nat) (us:List Vc),us.length=n->0<=qr d us/\qr d us<=(Ch n d:Int)/\(qr d us=(Ch n d:Int)↔Pl d us)
 |0,d,us,a=>by
  have:us=[]:=dI.mp a;subst this;have e:qr d []=1:=BD d;rw[e];refine⟨by decide,fU _,λ_ B b=>?_,λ_=>rfl⟩;have:B=[]:=List.sublist_nil.mp b;subst this;obtain⟨r,hr,k⟩:=mV 0 (d+1) [] rfl;have hr:r=0:=by lia
  subst hr;exact⟨λ_=>⟨λf=>absurd (f (λ_=>1) λr hr=>nomatch hr) (by decide),k⟩,λh=>by simp at h⟩
 |n+1,d,us,a=>by
  cases us with
  |nil=>cases a
  |cons u us=>
   have a:us.length=n:=by simpa using a
   by_cases v:∃p,p<d/\u p≠0
   .obtain⟨p,y,s⟩:=v;obtain⟨e,rfl⟩:∃e,d=e+1:=⟨d-1,by lia⟩;obtain⟨m,w,l⟩:=xS n (e+1) us a;obtain⟨F,A,x⟩:=xS n e (us.map (xq u p)) (by simpa using a);rw[vx (by lia) s,IZ (by lia) s,<-l,<-x];show _/\_<=((Ch n (e+1)+Ch n e:Nat):Int)/\(_=((Ch n (e+1)+Ch n e:Nat):Int)↔_);lia
   .have g:∀i,i<d->u i=0:=λi f=>aP λz=>v ⟨i,f,z⟩;have pos:=Ae (n+1) d;by_cases j:u d=0
    .have z:∀i,i<d+1->u i=0:=λi f=>by
      by_cases e:i=d
      .rw[e];exact j
      .exact g i (by lia)
     rw[wx z _ (bx ..)];refine⟨fU 0,by lia,λh=>by lia,λh=>?_⟩;have o:=h [u] ((List.nil_sublist us).cons₂ u);cases d with
     |zero=>exact absurd (o.2 rfl) (Es z)
     |succ e=>exact absurd (o.1 (by simp)).2 (II z)
    .obtain⟨m,w,l⟩:=xS n d us a;rw[CA g j];cases d with
     |zero=>
      rw[Jv]at *;refine⟨m,w,l.trans ⟨λh B b=>?_,λh B b=>h B (b.cons u)⟩⟩;rcases f9.mp b with q|⟨C,rfl,E⟩
      .exact h B q
      .exact⟨λq=>by simp at q,λ_=>Gz g j C⟩
     |succ e=>have D:=Ae n e;show _/\_<=((Ch n (e+1)+Ch n e:Nat):Int)/\(_=((Ch n (e+1)+Ch n e:Nat):Int)↔_);refine⟨m,by lia,λh=>by lia,λh=>?_⟩;exact absurd (Gz g j []) ((h [u] ((List.nil_sublist us).cons₂ u)).1 (by simp)).1
def Py(h:GC d B u):Gu d B u:=⟨h.gl.1,h.gl.2,let ⟨p,_,q⟩:=h.re;⟨p,q⟩⟩
abbrev uc(d:Nat)(cs:LL):LL:=flt cs.length (Rz d cs)
def JE{a:LL}(h:a.length<=8):(uc d a).length<=256:=aO (sG _ _) (dy (by decide) h)
def Dq{b:LL}(i:1<=d/\d<=3)(j:∀u∈b,GC d 90 u)(g:b.length<=8):∃L:List (LI×LI),j7 c 5 [.lst (b.map tI),.int (d:Int)]=.ok (.lst (L.map mB))/\Ka d 5000 b L/\L.length<=256:=by
 have a:(90+1)*2 ^ d<=800:=by have:2 ^ d<=2 ^ 3:=dy (by decide) i.2;lia
 obtain⟨L,e,h⟩:=yt 5 d 90 b (by lia) (by lia) a g λu k=>Py (j u k);have:=(t6 (by lia) a).1;refine⟨L,e,⟨h.fst,λp a=>⟨(h.gp p a).len,λx l=>((h.gp p a).bn x l).mono this,(h.gp p a).pos⟩,h.sg⟩,?_⟩;have f:=congrArg List.length h.fst;rw[ax]at f;rw[f];exact JE g
def AA{a:LL}(f:1<=d/\d<=3)(g:∀u∈a,GC d 90 u)(b:a.length<=8):jf c [uo c d a]=.ok ((uc d a).map tI):=by
 have sz:1000<sizeLine:=by decide
 obtain⟨L,e,h,j⟩:=Dq f g b;rw[show uc d a=L.map Prod.fst from h.fst.symm];exact qI rfl (qi (iI L mB (λq=>tI q.1) (jR (kf (iD (Ic d a rfl)) (Jp d a rfl) e)) (by lia) (λq i=>⟨_,rfl,rfl,rfl⟩) (by rw[aJ];rfl)))
def KJ(h:∀i,i<d->X i=Y i) u:jQ d X u=jQ d Y u:=by unfold jQ;rw[iJ d _ (λp=>(u p)*Y p) λp a=>by rw[h p a]]
def GB ns (a b:Nat) (w:b<=7):∃(d:Nat) (e:LL),vg c [.scr ns,.int (a:Int),.int b]=.ok (.tup [.int d,.lst (e.map tI)])/\(1<=d/\d<=3)/\qB d 84 e/\e.length<=b:=by
 obtain⟨v,q,-⟩:=lO ns a;obtain⟨o,k,n⟩:=je (c:=c) v 0 3 (by decide) (by decide) (by decide) (by decide);obtain⟨i,s,h⟩:=je (c:=c) v 1 (b+1) (by lia) (by lia) (by decide) (by decide);obtain⟨d,hd⟩:∃d:Nat,1+dr c v 0 3=(d:Int):=⟨(1+dr c v 0 3).toNat,by lia⟩;obtain⟨m,hmm⟩:∃d:Nat,dr c v 1 (b+1)=(d:Int):=⟨(dr c v 1 (b+1)).toNat,by lia⟩;have f:1<=d/\d<=3:=by lia
 rw[hmm]at i h;let R (m:Nat):En:=[some (.p (.scr ns)),some (.p (.int (a:Int))),some (.p (.int b)),some (.p (.int v)),some (.p (.int d)),some (.p (.int m))];obtain⟨g,hm',e5⟩:∃g:Nat,g<=b/\(nq (ji (gO (ie false) (gq 4) (cM (.int 3)))) (setO 5 (jE (j0 ou (gj (gq 5) (gj (cM (.int 5)) gy))))) iR) (R m)=.nx (R g):=by
  by_cases l:d=3
  .refine⟨min m 5,by lia,jC (iT (gC rfl rfl (by rw[jx,l];rfl))) (gU ?_ rfl)⟩;show j0 ou _ _=_;have:ou [.int (m:Int),.int 5]=.ok (.int ((min m 5:Nat):Int)):=by simp[ou];lia
   simpa[j0,gj,gy,R] using this
  .exact⟨m,by lia,iS (iT (gC rfl rfl (by rw[jx];simp;lia))) rfl⟩
 obtain⟨e,j,r,u⟩:=yC ns (a+1) d g f (by lia);refine⟨d,e,iN rfl (gB (gU (kf rfl rfl q) rfl) (gB (gU (gC rfl (kn rfl rfl rfl o) (by rw[i5,hd])) rfl) (gB (gU (kn rfl rfl (gC rfl rfl (i5 _ _)) i) rfl) (gB e5 (ig (C7 rfl (iD (Nc rfl (gC rfl rfl (by rw[i5];simp)) rfl rfl j)))))))),f,r,by lia⟩
def qB.sub{a us:LL}(h:qB d B a)(s:us.Sublist a):qB d B us:=⟨λf b=>h.gc f (s.subset b),aO s.length_le h.few,h.pw.sublist s⟩
abbrev Qv(cs:LL)(k:Nat):LL:=cs.take k++cs.drop (k+1)
def J0 cs k:(Qv cs k).Sublist cs:=by rw[show Qv cs k=cs.eraseIdx k from (dM cs k).symm];exact List.eraseIdx_sublist cs k
def Kq a b (d:a.length+b.length<=1000):iH (.lst a) (.lst b)=.ok (.lst (a++b)):=by
 have sz:1000<sizeLine:=by decide
 show (if _ then _ else _)=_;rw[aR (by lia)]
def L9{d k:Nat}{b:LL}{ρ:Pe}{fe a:Pe->M T}(f:fe ρ=.ok (.lst (b.map tI)))(e:a ρ=.ok (.int (k:Int)))(g:b.length<=8):gO iH (i0 fe (λ_=>.ok none) (ia a)) (i0 fe (ia (gO iH a (cM (.int 1)))) (λ_=>.ok none)) ρ=.ok (.lst ((Qv b k).map tI)):=by refine gC (v7 (d:=k) f e) (DK (d:=k+1) f (gC e rfl (by rw[i5];simp))) ?_;rw[<-eA,<-eB,a9];exact Kq _ _ (by simp;lia)
def qB.perm{d B:Nat}{us vs:LL}(h:qB d B us)(p:us.Perm vs):qB d B vs:=by refine⟨λf e=>h.gc f (p.mem_iff.mpr e),by rw[<-p.length_eq];exact h.few,?_⟩;have q:us.Pairwise λa b=>a.length=b.length/\iX a b=false:=h.pw.imp_of_mem λ{a b} ha hb z=>⟨by rw[(h.gc a ha).gl.1,(h.gc b hb).gl.1],z⟩;exact (p.pairwise q λ{a b} z=>⟨z.1.symm,by rw[<-s9 z.1];exact z.2⟩).imp λz=>z.2
theorem vL:∀a:LI,jb a a=false
 |[]=>rfl
 |x::a=>by unfold jb;rw[aR rfl];exact vL a
def wL(u v:Int)(a b:LI):jb (u::a) (v::b)=if u=v then jb a b else decide (u<v):=rfl
theorem tE:∀{a b:LI} {x y:LI},a.length=b.length->jb (a++x) (b++y)=if a=b then jb x y else jb a b
 |[],[],x,y,_=>by simp
 |u::a,v::b,x,y,h=>by
  have f:=tE (x:=x) (y:=y) (show a.length=b.length by simpa using h);rw[eK,eK,wL,wL];by_cases e:u=v
  .subst e;rw[aR rfl,aR rfl,f];by_cases d:a=b
   .rw[aR d,aR (by rw[d])]
   .rw[aS d,aS (λz=>d (List.cons.inj z).2)]
  .rw[aS e,aS e,aS (λz=>e (List.cons.inj z).1)]
def BC{a b:LI}(h:jb a b=true):a≠b:=λe=>by rw[e,vL]at h;cases h
theorem BL:∀n,(jZ n).Pairwise λa b=>jb a b=true
 |0=>dN _ _
 |n+1=>by
  unfold jZ;rw[List.pairwise_flatMap];refine⟨λs hs=>?_,(BL n).imp_of_mem λ{a b} ha hb h x hx y d=>?_⟩
  .refine eG.mpr ⟨λy d=>?_,dN _ _⟩;rw[ak.mp d,tE rfl,aR rfl];rfl
  .have e:a.length=b.length:=(iF ha).1.trans (iF hb).1.symm;have:∀u v:Int,jb (a++[u]) (b++[v])=true:=λu v=>by rw[tE e,aS (BC h)];exact h
   simp only[aG,ei,or_false]at hx d;rcases hx with rfl|rfl<;>rcases d with rfl|rfl<;>exact this _ _
section
variable {n:Nat}{p:LI->Prop}{X:LL}
def Ax(n:Nat)(p:LI->Prop):(flt n p).Pairwise λa b=>jb a b=true:=(BL n).filter _
def zY(n:Nat)(p:LI->Prop):(flt n p).Nodup:=(Ax n p).imp λh=>BC h
def Al:∀s∈flt n p,s.length=n:=λs a=>(iF (jj.mp a).1).1
def Fk(nd:X.Nodup)(a:∀s,s∈flt n p↔s∈X):jO X=flt n p:=(ui (m:=n) (λr hr=>Al r ((a r).mpr hr)) ((eI (zY n p) nd).mpr a) ((Ax n p).imp λh=>pC h)).symm
def Nz(a:∀s,s∈flt n p↔s∈X):jO (Bq X)=flt n p:=(GQ (m:=n) (λr hr=>Al r ((a r).mpr hr)) (zY n p) a ((Ax n p).imp λh=>pC h)).symm
theorem n9:∀{n:Nat} {s:LI},s.length=n->(∀i,i<n->vc s i=1\/vc s i = -1)->s∈jZ n
 |0,s,h,_=>by rw[dI.mp h];simp[jZ]
 |n+1,s,h,hv=>by
  have e:s=s.take n++[vc s n]:=by rw[jc s n (by omega)];have:=dF n s;rw[d8 (by omega),gh (by omega)]at this;exact this.symm
  have ih:=n9 (n:=n) (s:=s.take n) (by rw[bT];omega) λi hi=>by have:=hv i (by omega);unfold vc at this ⊢;rw[ag]at this ⊢;rw[List.getElem?_take,aR hi];exact this
  unfold jZ;rw[List.mem_flatMap];refine⟨s.take n,ih,?_⟩;rcases hv n (by omega) with q|q<;>rw[q]at e<;>rw[aG,ak]
  .exact .inr e
  .exact .inl e
def BA{m:Nat}{q:LI->Prop}(f g:LI->LI)(k:∀s∈jZ n,f s∈jZ m/\(p s->q (f s)))(o:∀s∈jZ m,q s->g s∈jZ n/\p (g s)/\f (g s)=s)(r:∀s∈jZ n,∀t∈jZ n,f s=f t->s=t) :
  jO ((flt n p).map f)=flt m q:=by
 refine Fk ?_ λs=>⟨λh=>?_,λh=>?_⟩
 .refine dP.mpr ((zY n p).imp_of_mem λ{a b} ha hb ne e=>ne (r a (jj.mp ha).1 b (jj.mp hb).1 e))
 .obtain⟨i,j⟩:=jj.mp h;obtain⟨a,b,d⟩:=o s i j;exact aE.mpr ⟨g s,jj.mpr ⟨a,b⟩,d⟩
 .obtain⟨t,l,rfl⟩:=aE.mp h;obtain⟨i,j⟩:=jj.mp l;exact jj.mpr ⟨(k t i).1,(k t i).2 j⟩
end
section
variable {d:Nat}{cs:LL}
def sE{a:Type}(l:List a)(f:a->Int)(z:a){i:Nat}(b:i<l.length):vc (l.map f) i=f (l.getD i z):=by unfold vc;rw[ag,aw,ai b,ag,ai b];rfl
def Av{s t:LI}{n:Nat}(hs:s.length=n)(e:t.length=n)(h:∀i,i<n->vc s i=vc t i):s=t:=by refine cW (by omega) λi a b=>?_;have:=h i (by omega);rw[jc s i a,jc t i b]at this;exact this
def K4{a:List Nat}(p:a.Perm (List.range cs.length)):jO ((uc d cs).map λs=>a.map λk=>vc s k)=uc d (a.map λk=>cs.getD k []):=by
 have u:a.length=cs.length:=by have:=p.length_eq;simpa using this
 have lt:∀k∈a,k<cs.length:=λk z=>aT.mp (p.mem_iff.mp z);have nd:a.Nodup:=p.nodup_iff.mpr List.nodup_range;have g:∀j,j<a.length->a.getD j 0<cs.length:=λj b=>lt _ (by rw[ag,ai b];exact aW b);have all:∀i,i<cs.length->∃j,j<a.length/\a.getD j 0=i:=λi l=>by obtain⟨j,b,e⟩:=List.mem_iff_getElem.mp (p.mem_iff.mpr (aT.mpr l));exact⟨j,b,by rw[ag,ai b];exact e⟩
 have o:∀(s:LI) j,j<a.length->vc (a.map λk=>vc s k) j=vc s (a.getD j 0):=λs j b=>sE a _ 0 b;have v:∀j,j<a.length->(a.map λk=>cs.getD k []).getD j []=cs.getD (a.getD j 0) []:=λj b=>by simp[ag,b]
 have q:∀s,Rz d (a.map λk=>cs.getD k []) (a.map λk=>vc s k)↔Rz d cs s:=λs=>by
  refine exists_congr λX=>?_;unfold On;rw[ax];refine⟨λh i l=>?_,λh j b=>?_⟩
  .obtain⟨j,b,rfl⟩:=all i l;have:=h j b;rwa [o s j b,v j b]at this
  .rw[o s j b,v j b];exact h _ (g j b)
 have r:∀s:LI,s.length=cs.length->a.map (λk=>vc ((List.range cs.length).map λi=>vc s (a.idxOf i)) k)=s:=λs m=>by
  refine Av (n:=cs.length) (by simp[u]) m λj b=>?_;have f:j<a.length:=by omega
  have w:a.getD j 0=a[j]:=by rw[ag,ai f];rfl
  rw[o _ j f,sE _ _ 0 (by simp;exact g j f)];have:(List.range cs.length).getD (a.getD j 0) 0=a[j]:=by rw[w,ag,List.getElem?_range (by rw[<-w];exact g j f)];rfl
  rw[this,nd.idxOf_getElem j f]
 show jO ((flt cs.length (Rz d cs)).map _)=flt (a.map _).length _;rw[ax,u];refine BA _ (λs=>(List.range cs.length).map λi=>vc s (a.idxOf i)) (λs m=>⟨n9 (by simp[u]) λj b=>?_,(q s).mpr⟩) (λs m h=>?_) λs m t y e=>?_
 .rw[o s j (by omega)];exact ny m (g j (by omega))
 .have x:=r s (iF m).1;refine⟨n9 (by simp) λi l=>?_,(q _).mp (by rw[x];exact h),x⟩;rw[sE _ _ 0 (by simpa using l),ag,List.getElem?_range l];refine ny m ?_;show a.idxOf i<_;rw[<-u];exact List.idxOf_lt_length_of_mem (p.mem_iff.mpr (aT.mpr l))
 .refine Av (iF m).1 (iF y).1 λi l=>?_;obtain⟨j,b,rfl⟩:=all i l;rw[<-o s j b,<-o t j b,e]
def L5{of f:Nat->Int}(h:∀k,k<cs.length->(f k=1\/f k = -1)/\0<f k*of k):jO ((uc d cs).map λs=>(List.range cs.length).map λk=>vc s k*f k)=uc d ((List.range cs.length).map λk=>(cs.getD k []).map λx=>of k*x):=by
 have r:∀(s:LI) j,j<cs.length->vc ((List.range cs.length).map λk=>vc s k*f k) j=vc s j*f j:=λs j g=>by rw[sE _ _ 0 (by simpa using g),ag,List.getElem?_range g];rfl
 have y:∀j,j<cs.length->((List.range cs.length).map λk=>(cs.getD k []).map λx=>of k*x).getD j []=(cs.getD j []).map λx=>of j*x:=λj g=>by simp[ag,g]
 have A:∀j,j<cs.length->f j*f j=1:=λj g=>by rcases (h j g).1 with e|e<;>rw[e]<;>rfl
 have pos:∀(j:Nat) (a b:Rat),j<cs.length->(0<(a*(f j:Rat))*((of j:Rat)*b)↔0<a*b):=λj a b g=>by
  have p:(0:Rat)<(f j:Rat)*(of j:Rat):=by exact_mod_cast (h j g).2
  have e:(a*(f j:Rat))*((of j:Rat)*b)=((f j:Rat)*(of j:Rat))*(a*b):=by grind
  rw[e];exact⟨λq=>aP λz=>by have z:a*b<=0:=fX.mp z;have:=Rat.mul_nonneg (fj p) (show (0:Rat)<=-(a*b) by grind);grind,λq=>fz p q⟩
 have o:∀s,Rz d ((List.range cs.length).map λk=>(cs.getD k []).map λx=>of k*x) ((List.range cs.length).map λk=>vc s k*f k)↔Rz d cs s:=λs=>by refine exists_congr λX=>?_;unfold On;rw[ax,cT];refine forall_congr' λi=>forall_congr' λu=>?_;rw[r s i u,y i u,MQ,fu];exact pos i _ _ u
 have m:∀s:LI,s.length=cs.length->((List.range cs.length).map λk=>vc ((List.range cs.length).map λk=>vc s k*f k) k*f k)=s:=λs l=>by refine Av (n:=cs.length) (by simp) l λj g=>?_;rw[r _ j g,r s j g,dX,A j g,bE]
 have ir:∀s∈jZ cs.length,((List.range cs.length).map λk=>vc s k*f k)∈jZ cs.length:=λs l=>n9 (by simp) λj g=>by rw[r s j g];rcases ny l g with e|e<;>rcases (h j g).1 with v|v<;>rw[e,v]<;>decide
 show jO ((flt cs.length (Rz d cs)).map _)=flt (List.map _ _).length _;rw[ax,cT];refine BA _ (λs=>(List.range cs.length).map λk=>vc s k*f k) (λs l=>⟨ir s l,(o s).mpr⟩) (λs l q=>?_) λs l t w e=>?_
 .have:=m s (iF l).1;exact⟨ir s l,(o _).mp (by rw[this];exact q),this⟩
 .rw[<-m s (iF l).1,e,m t (iF w).1]
end
section
variable {d:Nat}{cs:LL}
def Fh{st u:LI}(a:u.length=d+1)(hs:st.length=d)(X:Nat->Rat):jQ d X (vc (rJ d st u))=jQ d (λi=>X i+(-1)*(vc st i:Rat)) (vc u):=by
 rw[sH];have Q:lG d (λi=>(vc u i:Rat)*(vc st i:Rat))=((kg d (vc u) (vc st):Int):Rat):=by unfold kg;rw[<-sI];exact iJ _ _ _ λi _=>by rw[fu]
 rw[Q];unfold jQ;rw[Nm a hs,iJ d _ (λp=>(vc u p:Rat)*X p) λi b=>by rw[tm a hs b],Rat.intCast_add];grind
def KQ{st:LI}(hs:st.length=d)(b:∀u∈cs,u.length=d+1):uc d (cs.map (rJ d st))=uc d cs:=by
 show flt (cs.map _).length _=flt _ _;rw[ax];refine nT λs _=>?_;have e:∀i,i<cs.length->(cs.map (rJ d st)).getD i []=rJ d st (cs.getD i []):=λi a=>mN rfl _ a;refine⟨λ⟨X,h⟩=>⟨λi=>X i+(-1)*(vc st i:Rat),λi a=>?_⟩,λ⟨X,h⟩=>⟨λi=>X i+(vc st i:Rat),λi a=>?_⟩⟩
 .have:=h i (by rw[ax];exact a);rw[e i a,Fh (b _ (md a)) hs]at this;exact this
 .rw[ax]at a;rw[e i a,Fh (b _ (md a)) hs,KJ (Y:=X) λj _=>by grind];exact h i a
def sh(d:Nat)(u:LI):LI:=(u.take d).reverse++u.drop d
def EY{u:LI}(j:1<=d/\d<=3)(g:u.length=d+1)(X:Nat->Rat):jQ d X (vc (sh d u))=jQ d (λi=>X (d-1-i)) (vc u):=by
 have h:d=1\/d=2\/d=3:=by omega
 rcases h with rfl|rfl|rfl
 .match u,g with
  |[a,b],_=>simp[jQ,lG,vc,sh]
 .match u,g with
  |[a,b,e],_=>simp[jQ,lG,vc,sh];grind
 .match u,g with
  |[a,b,e,f],_=>simp[jQ,lG,vc,sh];grind
def Nw(e:1<=d/\d<=3)(b:∀u∈cs,u.length=d+1):uc d (cs.map (sh d))=uc d cs:=by
 show flt (cs.map _).length _=flt _ _;rw[ax];refine nT λs _=>?_;have f:∀i,i<cs.length->(cs.map (sh d)).getD i []=sh d (cs.getD i []):=λi a=>mN rfl _ a;refine⟨λ⟨X,h⟩=>⟨λi=>X (d-1-i),λi a=>?_⟩,λ⟨X,h⟩=>⟨λi=>X (d-1-i),λi a=>?_⟩⟩
 .have:=h i (by rw[ax];exact a);rw[f i a,EY e (b _ (md a))]at this;exact this
 .rw[ax]at a;rw[f i a,EY e (b _ (md a)),KJ (Y:=X) λj g=>by rw[show d-1-(d-1-j)=j by omega]];exact h i a
def dl{a:Type}(k:Nat)(l:List a):List a:=l.take k++l.drop (k+1)
def up(k i:Nat):Nat:=if i<k then i else i+1
def xi{a:Type}{k:Nat}{l:List a}(b:k<l.length):(dl k l).length=l.length-1:=by unfold dl;rw[aU,bT,bY];omega
def He{a:Type}{k:Nat}{l:List a}(b:k<l.length)(i:Nat):(dl k l)[i]? = l[up k i]?:=by
 unfold dl up;by_cases h:i<k
 .rw[aR h,List.getElem?_append_left (by rw[bT];omega),List.getElem?_take,aR h]
 .rw[aS h,List.getElem?_append_right (by rw[bT];omega),List.getElem?_drop,bT];congr 1;omega
def Gi{k:Nat}{l:LI}(a:k<l.length)(i:Nat):vc (dl k l) i=vc l (up k i):=by unfold vc;rw[ag,He a,ag]
def KM{k:Nat}{l:LL}(a:k<l.length)(i:Nat):(dl k l).getD i []=l.getD (up k i) []:=by rw[ag,He a,ag]
def LW{k:Nat}(r:k<cs.length)(h:∃p,p<d/\vc (cs.getD k []) p≠0):jO (Bq ((uc d cs).map (dl k)))=uc d (dl k cs):=by
 have F:=xi r;refine Nz λs=>⟨λl=>?_,λl=>?_⟩
 .obtain⟨f,X,on⟩:=jj.mp l;obtain⟨I,_⟩:=iF f;obtain⟨p,D,E⟩:=h;let u:=cs.getD k [];obtain⟨b,on',ne⟩:∃b,On d (dl k cs) s b/\jQ d b (vc u)≠0:=by
   by_cases z:jQ d X (vc u)=0
   .obtain⟨x,o,n⟩:=NU (Y:=λi=>(vc u i:Rat)) (dl k cs).length (dl k cs) rfl on;have q:0<sm d (λi=>vc u i*vc u i):=(Cf d (vc u)).2 ⟨p,D,E⟩;have Q:lG d (λi=>(vc u i:Rat)*(vc u i:Rat))=((sm d (λi=>vc u i*vc u i):Int):Rat):=by rw[<-sI];exact iJ _ _ _ λi _=>by rw[fu]
    have H:=fz o (ye q);refine⟨λi=>X i+x*(vc u i:Rat),λi a=>n x ⟨by grind,by grind⟩ i a,?_⟩;rw[sH,z,Q];grind
   .exact⟨X,on,z⟩
  obtain⟨v,hv,pv⟩:∃v:Int,(v=1\/v = -1)/\0<(v:Rat)*jQ d b (vc u):=by
   by_cases z:0<jQ d b (vc u)
   .exact⟨1,.inl rfl,by show 0<(1:Rat)*_;rw[fZ];exact z⟩
   .refine⟨-1,.inr rfl,?_⟩;show 0<(-1:Rat)*_;have:jQ d b (vc u)<=0:=fX.mp z;grind
  let t:LI:=s.take k++v::s.drop k;have m:t.length=cs.length:=by simp[t];omega
  have B:dl k t=s:=by
   have y:(s.take k).length=k:=by rw[bT];omega
   unfold dl;show (s.take k++v::s.drop k).take k++(s.take k++v::s.drop k).drop (k+1)=s;rw[dA y,List.drop_append,y,gh (by omega),show k+1-k=1 by omega];exact dF k s
  have A:vc t k=v:=by unfold vc;show (s.take k++v::s.drop k).getD k 0=v;rw[ag,List.getElem?_append_right (by rw[bT];omega),bT,show k-min k s.length=0 by omega];rfl
  have g:∀i,i≠k->∃j,up k j=i:=λi a=>by
   unfold up;by_cases q:i<k
   .exact⟨i,aR q⟩
   .exact⟨i-1,by rw[aS (by omega)];omega⟩
  have w:∀j,vc t (up k j)=vc s j:=λj=>by rw[<-Gi (by omega),B]
  refine aE.mpr ⟨t,jj.mpr ⟨n9 m λi a=>?_,b,λi a=>?_⟩,B⟩
  .by_cases e:i=k
   .rw[e,A];exact hv
   .obtain⟨j,rfl⟩:=g i e;rw[w];refine ny f ?_;unfold up at a;split at a<;>omega
  .by_cases e:i=k
   .rw[e,A];exact pv
   .obtain⟨j,rfl⟩:=g i e;have:=on' j (by unfold up at a;split at a<;>omega);rw[w,<-KM r];exact this
 .obtain⟨t,C,rfl⟩:=aE.mp l;obtain⟨f,X,on⟩:=jj.mp C;have m:=(iF f).1;refine jj.mpr ⟨n9 (by rw[xi (by omega),F,m]) λi a=>?_,X,λi a=>?_⟩
  .rw[Gi (by omega)];refine ny f ?_;unfold up;split<;>omega
  .rw[Gi (by omega),KM r];refine on _ ?_;unfold up;split<;>omega
end
def Dj ns:∃(d:Nat) (a:LL),j6 c [.scr ns,.int 0,.int 6]=.ok (.tup [.int d,.lst (a.map tI)])/\(1<=d/\d<=3)/\qB d 84 a/\a.length<=6:=GB (c:=c) ns 0 6 (by decide)
def Jq(n d:Nat)(e:n<=6)(f:1<=d/\d<=3):kX c [.int (n:Int),.int (d:Int)]=.ok (.int (Ch n d:Int)):=by
 have a:d=1\/d=2\/d=3:=by lia
 have b:n=0\/n=1\/n=2\/n=3\/n=4\/n=5\/n=6:=by lia
 rcases b with rfl|rfl|rfl|rfl|rfl|rfl|rfl<;>rcases a with rfl|rfl|rfl<;>rfl
def Pv(n d:Nat)(a:n<=6)(b:d<=3):Ch n d<=42:=by
 have:∀n<7,∀d<4,Ch n d<=42:=by decide
 exact this n (by lia) d (by lia)
def FI(f:Int)(n:Nat)(E:n<=7):∃z:List Nat,ke c [.int f,.int (n:Int)]=.ok (z.map λ(k:Nat)=>T.int (k:Int))/\z.Perm (List.range n):=by
 have sz:1000<sizeLine:=by decide
 let nI (k:Nat):T:=.int (k:Int);let R (d h:List Nat) (r:Option W):En:=[some (.p (.int f)),some (.p (.int (n:Int))),some (.o (d.map nI)),some (.o (h.map nI)),r];obtain⟨w,e,d,h,r,rfl,s,l⟩:=jX (m:=nj 4) (g:=pA c) (λ(k:Nat)=>T.int (k:Int))
  (λi w=>∃(d h:List Nat) (r:Option W),w=R d h r/\d.length+i=n/\(h++d).Perm (List.range n)) (List.range n) 0 (R (List.range n) [] none) ⟨List.range n,[],none,rfl,by simp,List.Perm.refl _⟩ (by
   rintro i k w C ⟨d,h,r,rfl,s,l⟩;rw[aH]at s ⊢;obtain⟨B,x⟩:=ae.mp C;rw[fq]at x;subst x;rw[cT]at B;obtain⟨A,a,b⟩:=je (c:=c) f (i:Int) (d.length:Int) (by omega) (by omega) (by omega) (by omega);obtain⟨q,hq⟩:∃q:Nat,dr c f (i:Int) (d.length:Int)=(q:Int):=⟨_,(cN a).symm⟩;rw[hq]at A b;have u:q<d.length:=by omega
   have D:h.length+d.length=n:=by have:=l.length_eq;rwa [aU,cT]at this
   refine⟨_,_,rfl,.inl (JL (i:=3) (j:=2) (ts:=h.map nI) (us:=d.map nI) (k:=q) (y:=nI d[q]) rfl rfl (kn rfl rfl (lV (t:=.lst (d.map nI)) rfl (by simp)) A) (by rw[aw,ai u];rfl) (by omega) (by decide) (by rw[ax];omega) rfl),d.eraseIdx q,h++[d[q]],some (.p (.int (i:Int))),?_,?_,?_⟩
   .simp[R,nI,FV]
   .rw[dJ u];omega
   .rw[b7];exact ((Cr d q u).append_left h).trans l)
 have v:d=[]:=dI.mp (by rw[cT]at s;omega);subst v;rw[bO]at l;refine⟨h,qI rfl (gB (ρ':=[some (.p (.int f)),some (.p (.int (n:Int))),some (.o ((List.range n).map nI)),none,none]) (nF (ts:=(List.range n).map nI) ?_ rfl) (gB (ρ':=R (List.range n) [] none) (nF rfl rfl) (gB (lZ (mP n (by omega) rfl) e) rfl))),l⟩;show (if 0<=(n:Int)/\(n:Int)<=1000 then M.ok (sf 0 ((n:Int)).toNat) else .bad)=_;rw[aR (by omega),zL];simp[nI]
def xB{b:Bool}{f:LL->LL}{X Y:LL}(h:∀r∈X,r.length=n)(d:X.length<64)(a:b=true\/(n=0->X.length<2))(e:f X=Y):lR b f [.lst (X.map tI)]=.ok (Y.map tI):=by
 show (match mw (X.map zH) with|some rs=>if yH b rs=true then M.ok ((f rs).map zH) else .bad|none=>.bad)=_;rw[rR];dsimp only;have ok:yH b X=true:=by
  unfold yH;cases X with
  |nil=>simp
  |cons x X=>
   have g:=h x (by simp);simp only[List.headD_cons,bZ,Bool.or_eq_true,decide_eq_true_eq,cG,beq_iff_eq];refine⟨⟨λr hr=>(h r hr).trans g.symm,d⟩,?_⟩;rcases a with a|a
   .exact .inl a
   .rcases dO n with z|z
    .exact .inr (.inl (a z))
    .exact .inr (.inr (aD (show x.length≠0 by omega)))
 rw[aR ok,e];rfl
def Bt{o:List T->M (List T)}{f:Pe->M T}{ρ:Pe}{t:T}{r:M (List T)}(h:f ρ=.ok t)(a:o [t]=r):zw o (gj f gy) ρ=r:=by unfold zw;simp[h,a]
def Ju{d:Nat}{a:LL}(f:d<=3)(b:∀u∈a,u.length=d+1)(g:a.length<=6):(uc d a).length<=Ch a.length d/\(uc d a).length<=42:=by have e:=LZ a.length d a rfl b;obtain⟨-,r,-⟩:=xS a.length d (a.reverse.map vc) (by simp);have:=Pv a.length d g f;rw[<-e]at r;exact⟨by lia,by lia⟩
variable {c:Cs}{d:Nat}{cs:LL}
def pm(d i:Nat):Nat:=if i<d then d-1-i else i
def uD{i:Nat}:pm d (pm d i)=i:=by
 unfold pm;by_cases h:i<d
 .rw[aR h,aR (by omega)];omega
 .rw[aS h,aS h]
def uC{i:Nat}(h:i<=d):pm d i<=d:=by unfold pm;split<;>omega
def yN{u:LI}(l:1<=d/\d<=3)(h:u.length=d+1){i:Nat}(j:i<=d):vc (sh d u) i=vc u (pm d i):=by
 have k:d=1\/d=2\/d=3:=by omega
 have g:i=0\/i=1\/i=2\/i=3:=by omega
 rcases k with rfl|rfl|rfl
 .match u,h with
  |[a,b],_=>rcases g with rfl|rfl|rfl|rfl<;>first|rfl|exact absurd j (by decide)
 .match u,h with
  |[a,b,e],_=>rcases g with rfl|rfl|rfl|rfl<;>first|rfl|exact absurd j (by decide)
 .match u,h with
  |[a,b,e,f],_=>rcases g with rfl|rfl|rfl|rfl<;>first|rfl|exact absurd j (by decide)
def FF{u:LI}(a:u.length=d+1):(sh d u).length=d+1:=by unfold sh;simp;omega
def IV{a b:LI}(f:1<=d/\d<=3)(e:a.length=d+1)(i:b.length=d+1)(h:iX a b=false):iX (sh d a) (sh d b)=false:=by
 cases q:iX (sh d a) (sh d b) with
 |false=>rfl
 |true=>
  have g:=(pO (FF e)).mp q;have:iX a b=true:=(pO e).mpr λk s j p=>by
   have o:vc a k=vc (sh d a) (pm d k):=by rw[yN f e (uC (by omega)),uD]
   have l:vc a j=vc (sh d a) (pm d j):=by rw[yN f e (uC (by omega)),uD]
   have m:vc b k=vc (sh d b) (pm d k):=by rw[yN f i (uC (by omega)),uD]
   have n:vc b j=vc (sh d b) (pm d j):=by rw[yN f i (uC (by omega)),uD]
   have r:pm d k<=d:=uC (by omega);have u:pm d j<=d:=uC (by omega);rw[o,l,m,n];rcases dc (pm d j) (pm d k) with z|z|z
   .exact g _ (by omega) _ z
   .exact absurd (congrArg (pm d) z) (by rw[uD,uD];omega)
   .exact (g _ (by omega) _ z).symm
  rw[h]at this;cases this
def Lc(e:1<=d/\d<=3)(h:qB d B cs):qB d B (cs.map (sh d)):=by
 refine⟨λf l=>?_,by rw[ax];exact h.few,?_⟩
 .obtain⟨u,j,rfl⟩:=aE.mp l;have g:=h.gc u j;refine⟨⟨FF g.gl.1,λx i=>?_⟩,?_⟩
  .unfold sh at i;rcases aj.mp i with q|q
   .exact g.gl.2 x (eV (List.mem_reverse.mp q))
   .exact g.gl.2 x (fE q)
  .obtain⟨p,k,hne⟩:=g.re;refine⟨pm d p,by unfold pm;rw[aR k];omega,?_⟩;rw[yN e g.gl.1 (uC (by omega)),uD];exact hne
 .rw[dP];exact h.pw.imp_of_mem λ{a b} ha hb q=>IV e (h.gc a ha).gl.1 (h.gc b hb).gl.1 q
def Qg{a b:Int}(e:a.natAbs<2 ^ 84)(f:b.natAbs<=9):(a*b).natAbs<=9*2 ^ 84:=by rw[aZ];exact aO (eX (bh e) f) (by decide)
def K3{st:LI}(h:qB d 84 cs)(r:d<=3)(hs:st.length=d)(a:∀x∈st,x.natAbs<=9):qB d 90 (cs.map (rJ d st)):=by
 have e:=Nx h r hs λx b=>by have:=a x b;omega
 refine⟨λf n=>?_,e.few,e.pw⟩;have k:=e.gc f n;obtain⟨u,o,rfl⟩:=aE.mp n;have g:=h.gc u o;refine⟨⟨k.gl.1,λx b=>?_⟩,k.re⟩;unfold rJ at b;rcases aj.mp b with q|q
 .exact (g.gl.2 x (eV q)).mono (by omega)
 .rw[ak.mp q,xY st u (by rw[g.gl.1];omega),hs];have l:∀i,(vc u i).natAbs<2 ^ 84:=λi=>lS g.gl.2 i;have s:∀i,(vc st i).natAbs<=9:=λi=>by
   by_cases m:i<st.length
   .rw[jc st i m];exact a _ (aW m)
   .rw[kH st i (by omega)];decide
  have j:=λi=>Qg (l i) (s i);have y:=l d;have v:=j 0;have w:=j (0+1);have z:=j (0+1+1);unfold Bn;have p:d=0\/d=1\/d=2\/d=3:=by omega
  rcases p with rfl|rfl|rfl|rfl<;>simp only[sm]<;>omega
def CY ns:qk c [.scr ns]=.ok (.bl true):=by
 have sz:1000<sizeLine:=by decide
 obtain⟨d,cs,ed,hd,hg,h6⟩:=Dj (c:=c) ns;obtain⟨c8,e8,-⟩:=lO (c:=c) ns 8;obtain⟨c9,e9,-⟩:=lO (c:=c) ns 9;obtain⟨c10,e10,-⟩:=lO (c:=c) ns 10;let n:=cs.length;have hl:∀u∈cs,u.length=d+1:=λu hu=>(hg.gc u hu).gl.1;have fw:=Ju hd.2 hl h6;have h90:∀{us:LL} {B:Nat},qB d B us->B<=90->∀u∈us,GC d 90 u:=λh hB u hu=>⟨(h.gc u hu).gl.mono hB,(h.gc u hu).re⟩;have H:∀{us:LL} {B:Nat} {f:Pe->M T} {ρ:Pe},qB d B us->B<=90->us.length<=8->f ρ=.ok (.lst (us.map tI))->ρ[1]? = some (some (.int (d:Int)))->
   i9 (iz (gj (gF (gj (gq 1) (gj f gy)) (gM c)) gy) (jf c)) ρ=.ok (.lst ((uc d us).map tI)):=λ{us B f ρ} g hB h8 hf hv=>
  iD (L8 (kf (by simp[gq,hv]) hf (JC (c:=c) d B us hd (by lia) g)) (AA hd (h90 g hB) h8))
 obtain⟨v,eo,po⟩:=FI (c:=c) c8 n (by lia);obtain⟨of,hof⟩:=rD (P:=λ(k:Nat) (w:Int)=>ls (.lst ([1,-1,3,-2].map T.int)) (.int (dr c c9 (k:Int) 4))=.ok (.int w)/\w∈[1,-1,3,-2]) (List.range n) λk l=>by have:=aT.mp l;obtain⟨e,a,b⟩:=je (c:=c) c9 (k:Int) 4 (by decide) (by decide) (by lia) (by lia);exact BR _ _ a (by simpa using b)
 have of8:∀k,k<n->of k≠0/\(of k).natAbs<8:=λk l=>by have:=(hof k (aT.mpr l)).2;simp at this;lia
 let X (k:Nat):Int:=if 0<of k then 1 else -1
 have hwy:∀k,k<n->(X k=1\/X k = -1)/\0<X k*of k:=λk l=>by
  have:=(of8 k l).1;by_cases q:0<of k
  .exact⟨.inl (aR q),by show 0<(if 0<of k then 1 else -1)*of k;rw[aR q];lia⟩
  .exact⟨.inr (aS q),by show 0<(if 0<of k then 1 else -1)*of k;rw[aS q];lia⟩
 let oc:LL:=v.map λk=>cs.getD k [];let sc:LL:=(List.range n).map λk=>(cs.getD k []).map λx=>of k*x;have goc:qB d 84 oc:=hg.perm (by
  have:=(po.map λk=>cs.getD k []).symm;have e:(List.range n).map (λk=>cs.getD k [])=cs:=by refine cW (by simp[n]) λi h1 h2=>?_;simp[ag,h2]
  rw[e]at this;exact this)
 have gsc:qB d 87 sc:=Nk hg of of8;let st:LI:=(List.range d).map λ(j:Nat)=>dr c c10 (j:Int) 19-9;have stl:st.length=d:=by simp[st]
 have stb:∀x∈st,x.natAbs<=9:=λx hx=>by obtain⟨j,hj,rfl⟩:=aE.mp hx;have:=aT.mp hj;obtain⟨e,a,b⟩:=je (c:=c) c10 (j:Int) 19 (by decide) (by decide) (by lia) (by lia);lia
 have gmo:qB d 90 (cs.map (rJ d st)):=K3 hg hd.2 stl stb;have gbk:qB d 84 (cs.map (sh d)):=Lc hd hg;have gdl:∀k,k<n->qB d 84 (dl k cs):=λk l=>hg.sub (J0 cs k);let S:=uc d cs;let K:LI:=(List.range n).map of;let Z:LI:=(List.range n).map X;have oll:K.length=n:=by simp[K]
 have wll:Z.length=n:=by simp[Z]
 have S1:∀s∈S,s.length=n:=Al;have n0:n=0->S.length<2:=λz=>by have h:S.length<=Ch n d:=fw.1;rw[z]at h;exact Nat.lt_succ_of_le h
 have R (f:LI->LI) (hf:∀s∈S,(f s).length=n):(∀r∈S.map f,r.length=n)/\(S.map f).length<64/\(n=0->(S.map f).length<2):=⟨λr hr=>by obtain⟨s,D,rfl⟩:=aE.mp hr;exact hf s D,by rw[ax];have:S.length<=42:=fw.2;lia,by rw[ax];exact n0⟩
 have rw0:=R;clear R;let R (x1 x2 x3 x4 x5 x6 x7 x8 x9 x10 C A x13 F E:Option W):En:=[some (.p (.scr ns)),x1,x2,x3,x4,x5,x6,x7,x8,x9,x10,C,A,x13,F,E];let J:Option W:=some (.p (.int (d:Int)));let I:Option W:=some (.p (.lst (cs.map tI)));let N:Option W:=some (.p (.lst (S.map tI)));let Y:Option W:=some (.p (.lst (v.map λ(k:Nat)=>T.int (k:Int))));let y5:Option W:=some (.p (.lst ((uc d oc).map tI)));let z5:Option W:=some (.p (.lst ((uc d sc).map tI)));let y6:Option W:=some (.p (tL K));let y7:Option W:=some (.p (.lst (sc.map tI)));let y8:Option W:=some (.p (tL Z));let y9:Option W:=some (.p (tL st));have sl:S.length<=42:=fw.2;have ordl:v.length=n:=by have:=po.length_eq;simpa using this
 have lt:∀k∈v,k<n:=λk l=>aT.mp (po.mem_iff.mp l);let ρ2:=R J I none none none none none none none none none none none none none;have s3:i9 (iz (gj (gF (gj (gq 1) (gj (gq 2) gy)) (gM c)) gy) (jf c)) (mq ρ2)=.ok (.lst (S.map tI)):=H hg (by decide) (by lia) rfl rfl;let ρ3:=R J I N none none none none none none none none none none none none;have t1:ji (gO NM (j0 lj (gj (gq 3) gy)) (gF (gj (j0 lj (gj (gq 2) gy)) (gj (gq 1) gy)) (kX c))) (vw ρ3)=.ok false:=by refine iT (gC (x:=.int (S.length:Int)) (y:=.int (Ch n d:Int)) (lV (t:=.lst (S.map tI)) rfl (by simp)) (kf (lV (t:=.lst (cs.map tI)) (r:=.ok (.int (n:Int))) rfl (by simp[n])) rfl (Jq n d h6 hd)) ?_);show M.ok (T.bl (decide ((Ch n d:Int)<(S.length:Int))))=_;congr 2;have h:S.length<=Ch n d:=fw.1;exact aC (by lia)
 have s4:i9 (iz (gj (gF (gj (gq 0) (gj (cM (.int 8)) gy)) (gW c)) (gj (j0 lj (gj (gq 2) gy)) gy)) (ke c)) (mq ρ3)=.ok (.lst (v.map λ(k:Nat)=>T.int (k:Int))):=iD (E5 (kf rfl rfl e8) (lV (t:=.lst (cs.map tI)) (r:=.ok (.int (n:Int))) rfl (by simp[n])) eo)
 let ρ4:=R J I N Y none none none none none none none none none none none;have l5:jL [none,some 4] (iG (gq 3)) (jq 0) (λ_=>.ok true) (qF c) (mq ρ4)=.ok ((S.map λs=>v.map λk=>vc s k).map tI):=iI S tI (λs=>tI (v.map λk=>vc s k)) (jR rfl) (by lia) (λs D=>⟨_,rfl,rfl,mF (iI v (λ(k:Nat)=>T.int (k:Int)) (λk=>T.int (vc s k)) (jR rfl) (by lia) (λk l=>⟨_,rfl,rfl,gC rfl rfl (ko s k (by have:=lt k l;have:=S1 s D;lia))⟩) (by rw[aJ];rfl):jL [none,some 0] (iG (gq 1)) (jq 0) (λ_=>.ok true) (vy c) [some (tI s),some (.lst (v.map λ(k:Nat)=>T.int (k:Int)))]=.ok ((v.map λk=>vc s k).map T.int)) rfl⟩) (by rw[aJ];rfl)
 have q5:=rw0 (λs=>v.map λk=>vc s k) λs _=>by simp[ordl]
 have s5:i9 (zw (lR false jO) (gj (i9 (jL [none,some 4] (iG (gq 3)) (jq 0) (λ_=>.ok true) (qF c))) gy)) (mq ρ4)=.ok (.lst ((uc d oc).map tI)):=iD (Bt (iD l5) (xB q5.1 q5.2.1 (.inr q5.2.2) (K4 po)))
 let ρ5:=R J I N Y y5 none none none none none none none none none none;have l6:jL [none,some 2] (iG (gq 4)) (jq 0) (λ_=>.ok true) (qU c) (vw ρ5)=.ok (oc.map tI):=iI v (λ(k:Nat)=>T.int (k:Int)) (λk=>tI (cs.getD k [])) (jR rfl) (by lia) (λk l=>⟨_,rfl,rfl,gC rfl rfl (wV cs tI k [] (lt k l))⟩) (by simp[oc])
 have t2:ji (gO (ie true) (i9 (iz (gj (gF (gj (gq 1) (gj (i9 (jL [none,some 2] (iG (gq 4)) (jq 0) (λ_=>.ok true) (qU c))) gy)) (gM c)) gy) (jf c))) (gq 5)) (vw ρ5)=.ok false:=iT (gC (H goc (by decide) (by simp[oc];lia) (iD l6) rfl) rfl (uG _))
 have l7:jL [none,some 0] (kL (gj (j0 lj (gj (gq 2) gy)) gy)) (jq 0) (λ_=>.ok true) (vn c) (mq ρ5)=.ok (K.map T.int):=iI (List.range n) (λ(k:Nat)=>T.int (k:Int)) (λk=>T.int (of k)) (mP n (by lia) (lV (t:=.lst (cs.map tI)) rfl (by simp[n]))) (by simp;lia) (λk l=>⟨_,rfl,rfl,by have:=aT.mp l;obtain⟨e,a,b⟩:=je (c:=c) c9 (k:Int) 4 (by decide) (by decide) (by lia) (by lia);exact gC (x:=.lst ([1,-1,3,-2].map T.int)) (iD (Qq rfl rfl rfl rfl)) (kn (kf rfl rfl e9) rfl rfl e) (hof k l).1⟩) (by rw[aJ];rfl)
 have cl4:∀k,k<n->(cs.getD k []).length<=4:=λk l=>by have:=hl _ (Cw cs k l);lia
 let ρ6:=R J I N Y y5 y6 none none none none none none none none none;have oi:∀k,k<n->ls (tL K) (.int (k:Int))=.ok (.int (of k)):=λk l=>by have:=wV K T.int k 0 (by lia);rw[show K.getD k 0=of k by simp[K,ag,l]]at this;exact this
 have l8:jL [none,some 6,some 2] (kL (gj (j0 lj (gj (gq 2) gy)) gy)) (jq 0) (λ_=>.ok true) (wj c) (mq ρ6)=.ok (sc.map tI):=
  iI (List.range n) (λ(k:Nat)=>T.int (k:Int)) (λk=>tI ((cs.getD k []).map λx=>of k*x)) (mP n (by lia) (lV (t:=.lst (cs.map tI)) rfl (by simp[n]))) (by simp;lia) (λk l=>⟨_,rfl,rfl,by
   have l:=aT.mp l;have ix:ls (.lst (cs.map tI)) (.int (k:Int))=.ok (tI (cs.getD k [])):=wV cs tI k [] l;have:jL [none,some 1,some 0] (iG (gO ls (gq 2) (gq 0))) (jq 0) (λ_=>.ok true) (vW c) [some (.int (k:Int)),some (tL K),some (.lst (cs.map tI))]=.ok (((cs.getD k []).map λx=>of k*x).map T.int):=iI (cs.getD k []) T.int (λx=>T.int (of k*x)) (Je (gC rfl rfl ix)) (by have:=cl4 k l;lia) (λx hx=>⟨_,rfl,rfl,gC (gC rfl rfl (oi k l)) rfl (jv (by have:=(of8 k l).2;lia))⟩) (by rw[aJ];rfl)
   exact mF this rfl⟩) (by simp[sc])
 let ρ7:=R J I N Y y5 y6 y7 none none none none none none none none;have l9:jL [none] (iG (gq 6)) (jq 0) (λ_=>.ok true) (qC c) (mq ρ7)=.ok (Z.map T.int):=iI (List.range n) (λk=>T.int (of k)) (λk=>T.int (X k)) (jR (by show M.ok (tL K)=_;simp[tL,K])) (by simp;lia) (λk l=>⟨_,rfl,rfl,by by_cases q:0<of k<;>simp[qC,X,q]⟩) (by simp[Z])
 let ρ8:=R J I N Y y5 y6 y7 y8 none none none none none none none;have sw:∀s∈S,(s.zip Z).map (λp=>p.1*p.2)=(List.range n).map λk=>vc s k*X k:=λs D=>by
  refine cW (by simp[wll,S1 s D]) λi h1 h2=>?_;have hi:i<n:=by simpa using h2
  have:i<s.length:=by rw[S1 s D];exact hi
  simp[Z,vc,ag,this]
 have l10:jL [none,some 8] (iG (gq 3)) (jq 0) (λ_=>.ok true) (pk c) (mq ρ8)=.ok ((S.map λs=>(List.range n).map λk=>vc s k*X k).map tI):=
  iI S tI (λs=>tI ((List.range n).map λk=>vc s k*X k)) (jR rfl) (by lia) (λs D=>⟨_,rfl,rfl,by
   have sr:∀x∈s,x = -1\/x=1:=(iF (jj.mp D).1).2;have:jL [none,none] (ng (gj (gq 0) (gj (gq 1) gy))) (mU 2 (iL (jq 0) (iL (jq 1) mW))) (λ_=>.ok true) (vm c) [some (tI s),some (tL Z)]=.ok (((s.zip Z).map λp=>p.1*p.2).map T.int):=iI (s.zip Z) (λp=>T.tup [.int p.1,.int p.2]) (λp=>T.int (p.1*p.2)) (oN rfl rfl rfl rfl) (by rw[eU];lia) (λp hp=>⟨_,rfl,rfl,gC rfl rfl (jv (by have:=sr _ (aX hp).1;lia))⟩) (by rw[aJ];rfl)
   rw[sw s D]at this;exact mF this rfl⟩) (by rw[aJ];rfl)
 have q10:=rw0 (λs=>(List.range n).map λk=>vc s k*X k) λs _=>by simp
 have s10:i9 (zw (lR false jO) (gj (i9 (jL [none,some 8] (iG (gq 3)) (jq 0) (λ_=>.ok true) (pk c))) gy)) (mq ρ8)=.ok (.lst ((uc d sc).map tI)):=iD (Bt (iD l10) (xB q10.1 q10.2.1 (.inr q10.2.2) (L5 hwy)))
 let ρ9:=R J I N Y z5 y6 y7 y8 none none none none none none none;have t3:ji (gO (ie true) (i9 (iz (gj (gF (gj (gq 1) (gj (gq 7) gy)) (gM c)) gy) (jf c))) (gq 5)) (vw ρ9)=.ok false:=iT (gC (H gsc (by decide) (by simp[sc];lia) rfl rfl) rfl (uG _))
 have l11:jL [none,some 0] (kL (gj (gq 1) gy)) (jq 0) (λ_=>.ok true) (sY c) (mq ρ9)=.ok (st.map T.int):=iI (List.range d) (λ(k:Nat)=>T.int (k:Int)) (λ(k:Nat)=>T.int (dr c c10 (k:Int) 19-9)) (mP d (by lia) rfl) (by simp;lia) (λk l=>⟨_,rfl,rfl,by have:=aT.mp l;obtain⟨e,a,b⟩:=je (c:=c) c10 (k:Int) 19 (by decide) (by decide) (by lia) (by lia);exact gC (kn (kf rfl rfl e10) rfl rfl e) rfl (nP _ _)⟩) (by rw[aJ];rfl)
 let ρ10:=R J I N Y z5 y6 y7 y8 y9 none none none none none none;let Q (L:LL) (C A:Option W):En:=R J I N Y z5 y6 y7 y8 y9 (some (.o (L.map tI))) C A none none none;obtain⟨ρ,em,C,A,rfl⟩:=jX (m:=nj 11) (g:=vI c) tI (λi ρ=>∃(C A:Option W),ρ=Q ((cs.take i).map (rJ d st)) C A) cs 0 (Q [] none none) ⟨_,_,rfl⟩ (by
  rintro i u ρ hi ⟨C,A,rfl⟩;rw[aH];obtain⟨il,iu⟩:=ae.mp hi;have gu:=(hg.gc u (iu▸aW il)).gl;let L:=(cs.take i).map (rJ d st);let y11:Option W:=some (.p (tI u));let more:Int:=((u.zip st).map λp=>p.1*p.2).sum;have l12:jL [none,none] (ng (gj (gq 11) (gj (gq 9) gy))) (mU 2 (iL (jq 0) (iL (jq 1) mW))) (λ_=>.ok true) (uH c) (mq (Q L y11 A))=.ok (((u.zip st).map λp=>p.1*p.2).map T.int):=iI (u.zip st) (λp=>T.tup [.int p.1,.int p.2]) (λp=>T.int (p.1*p.2)) (oN rfl rfl rfl rfl) (by rw[eU];lia) (λp hp=>⟨_,rfl,rfl,gC rfl rfl (jn ((gu.2 _ (aX hp).1).ok (show Bn 4 p.2 by unfold Bn;have:=stb _ (aX hp).2;lia) (by decide) (by decide)))⟩) (by rw[aJ];rfl)
  let y12:Option W:=some (.p (.int more));refine⟨_,Q ((cs.take (i+1)).map (rJ d st)) y11 y12,rfl,.inl (gB (ρ':=Q L y11 y12) (gU (mF l12 (Bp _)) rfl) (xV (us:=L.map tI) (t:=tI (rJ d st u)) rfl (gC (lL (ts:=u.map T.int) (d:=d) rfl rfl (by rw[ax,gu.1];lia)) (Dh (gC (gC rfl rfl (ko u d (by rw[gu.1];lia))) rfl (i5 _ _))) ?_) (by simp[L];lia) ?_)),_,_,rfl⟩
  .rw[sU _ _ (by simp;lia)];unfold rJ tI;rw[a9,eA];rfl
  .show Q _ _ _=_;rw[cQ,hi];simp[Q,R,L])
 rw[aH,eM]at em;let y10:Option W:=some (.o ((cs.map (rJ d st)).map tI));let ρ13:=R J I N Y z5 y6 y7 y8 y9 y10 C A none none none;have l13:jL [none,some 1] (iG (gq 2)) (jq 0) (λ_=>.ok true) (uM c) (mq ρ13)=.ok ((cs.map (sh d)).map tI):=
  iI cs tI (λu=>tI (sh d u)) (jR rfl) (by lia) (λu hu=>⟨_,rfl,rfl,by
   have ul:=hl u hu;refine gC (gC (x:=tI (u.take d)) (y:=.int (-1)) ?_ rfl (Oa _)) (uL (ts:=u.map T.int) (d:=d) rfl rfl (by lia) (by intro z;have:=congrArg List.length z;simp at this;subst this;simp at ul)) ?_
   .have:=lL (fe:=gq 0) (fd:=gq 1) (ts:=u.map T.int) (d:=d) (ρ:=[some (tI u),some (.int (d:Int))]) rfl rfl (by rw[ax,ul];lia);rw[<-eA]at this;exact this
   .unfold tI sh;rw[sU _ _ (by simp;lia),a9,eB]⟩) (by rw[aJ];rfl)
 let y13:Option W:=some (.p (.lst ((cs.map (sh d)).map tI)));let P (F E:Option W):En:=R J I N Y z5 y6 y7 y8 y9 y10 C A y13 F E;have t4:zN (ji (gO (ie true) (i9 (iz (gj (gF (gj (gq 1) (gj (gq 10) gy)) (gM c)) gy) (jf c))) (gq 3))) (ji (gO (ie true) (i9 (iz (gj (gF (gj (gq 1) (gj (gq 13) gy)) (gM c)) gy) (jf c))) (gq 3))) (vw (P none none))=.ok false:=Pk (iT (gC (H gmo (by decide) (by simp;lia) rfl rfl) rfl (by rw[KQ stl hl];exact uG _))) (iT (gC (H gbk (by decide) (by simp;lia) rfl rfl) rfl (by rw[Nw hd hl];exact uG _)))
 obtain⟨ρ',ef,_⟩:=wK (m:=nj 14) (g:=vN c) (λ(k:Nat)=>T.int (k:Int)) (λρ=>∃F E,ρ=P F E) (List.range n) (P none none) ⟨_,_,rfl⟩ (by
  rintro k l ρ ⟨F,E,rfl⟩;have l:=aT.mp l;let U:Option W:=some (.p (.int (k:Int)));have sn:∀s∈S,(s.map T.int:List T)≠[]:=λs D z=>by have:=congrArg List.length z;simp at this;have h1:=S1 s D;rw[this]at h1;simp at h1;lia
  have l14:jL [none,some 14] (iG (gq 3)) (jq 0) (λ_=>.ok true) (oW c) (mq (P U E))=.ok ((S.map (dl k)).map tI):=iI S tI (λs=>tI (dl k s)) (jR rfl) (by lia) (λs D=>⟨_,rfl,rfl,by refine gC (lL (ts:=s.map T.int) (d:=k) rfl rfl (by rw[ax,S1 s D];lia)) (uL (ts:=s.map T.int) (d:=k+1) rfl (gC rfl rfl (by rw[i5];simp)) (by lia) (sn s D)) ?_;rw[sU _ _ (by simp;have:=S1 s D;lia)];unfold tI dl;rw[a9,eA,eB]⟩) (by rw[aJ];rfl)
  have r1:∀r∈S.map (dl k),r.length=n-1:=λr hr=>by obtain⟨s,D,rfl⟩:=aE.mp hr;rw[xi (by rw[S1 s D];exact l),S1 s D]
  have s15:i9 (zw (lR true λrs=>jO (Bq rs)) (gj (i9 (jL [none,some 14] (iG (gq 3)) (jq 0) (λ_=>.ok true) (oW c))) gy)) (mq (P U E))=.ok (.lst ((uc d (dl k cs)).map tI)):=iD (Bt (iD l14) (xB (f:=λrs=>jO (Bq rs)) r1 (by rw[ax];lia) (.inl rfl) (LW l (hg.gc _ (Cw cs k l)).re)))
  let y15:Option W:=some (.p (.lst ((uc d (dl k cs)).map tI)));have t5:ji (gO (ie true) (i9 (iz (gj (gF (gj (gq 1) (gj (gO iH (i0 (gq 2) (λ_=>.ok none) (ia (gq 14))) (i0 (gq 2) (ia (gO iH (gq 14) (cM (.int 1)))) (λ_=>.ok none))) gy)) (gM c)) gy) (jf c))) (gq 15)) (vw (P U y15))=.ok false:=iT (gC (H (gdl k l) (by decide) (by rw[xi l];lia) (L9 (d:=d) rfl rfl (by lia)) rfl) rfl (uG _))
  exact⟨_,P U y15,rfl,.inl (gB (ρ':=P U y15) (gU s15 rfl) (iS t5 rfl)),_,_,rfl⟩)
 exact iN rfl (gB (ρ':=ρ2) (Ls (kn rfl rfl rfl ed) rfl) (gB (ρ':=ρ3) (gU s3 rfl) (gB (iS t1 rfl) (gB (ρ':=ρ4) (gU s4 rfl) (gB (ρ':=ρ5) (gU s5 rfl) (gB (iS t2 rfl) (gB (ρ':=ρ6) (gU (iD l7) rfl) (gB (ρ':=ρ7) (gU (iD l8) rfl) (gB (ρ':=ρ8) (gU (iD l9) rfl) (gB (ρ':=ρ9) (gU s10 rfl) (gB (iS t3 rfl) (gB (ρ':=ρ10) (gU (iD l11) rfl) (gB (ρ':=Q [] none none) (nF rfl rfl) (gB (m4 (jR rfl) em) (gB (ρ':=P none none) (gU (iD l13) rfl) (gB (iS t4 rfl) (gB (lZ (mP n (by lia) (lV (t:=.lst (cs.map tI)) rfl (by simp[n]))) ef) (ig rfl))))))))))))))))))
end CL
namespace K24
open PySem L2 L3 CL
def jD(i:Nat):Stmt:=PySem.Challenge.pw_cutlands_k24_whole_lands_turned_and_move.main.body.getD i (.Pass ⟨0,0,0,0⟩)
structure Er(c:Cs)(K:W.Frag)(mg:Str->Option Value):Prop where
 here:True
 cl_Cutting:vU K c.Cutting
 na_Cutting_own_cuts:kx K c.Cutting "own_cuts"
 na_Cutting_own_dims:kx K c.Cutting "own_dims"
 mk_Cutting:W.makesIn K c.Cutting=true
 kp_Cutting:W.keepIn K (.ref c.Cutting)=true
 mg_Cutting:mg "Cutting" = some (.ref c.Cutting)
 k_MOST_CUTS:∃t,mg "MOST_CUTS" = some (.int 7 t)
 k_MOST_DIMS:∃t,mg "MOST_DIMS" = some (.int 3 t)
def Oo{K:W.Frag}{h:Heap}{a:Str->Option Value}{aCutting:Addr}{tMOST_CUTS tMOST_DIMS:_}(X:K.In h)(G:h.Ns mainGlobals a)(e:W.nsIn K mainGlobals "Cutting" = some (some (.ref aCutting)))(b:W.plainGet K aCutting Str.empty=true)(f:W.hasDictIn K aCutting=true)(c:W.plainOver K aCutting=true)(i:W.findIn K (.ref aCutting) "__setattr__" = some (some (.builtin "object.__setattr__")))(own_cuts:W.findIn K (.ref aCutting) "own_cuts" = some none)(own_dims:W.findIn K (.ref aCutting) "own_dims" = some none)(g:W.makesIn K aCutting=true)(d:W.keepIn K (.ref aCutting)=true)(uMOST_CUTS:W.nsIn K mainGlobals "MOST_CUTS" = some (some (.int 7 tMOST_CUTS)))(uMOST_DIMS:W.nsIn K mainGlobals "MOST_DIMS" = some (some (.int 3 tMOST_DIMS))):Er ⟨aCutting,0,0,0,0,0,0,0,0,0,0,0,0⟩ K a:=⟨trivial,⟨b,f,c,i⟩,own_cuts,own_dims,g,d,W.mg_of X G e,⟨_,W.mg_of X G uMOST_CUTS⟩,⟨_,W.mg_of X G uMOST_DIMS⟩⟩
def Oc{K:W.Frag}{a g:Addr}{m q:Str}{st:Stmt}{k kV d pm b o:Vq}{n j:Option Addr}{c:Array (Option Value)}(i:W.findIn K (.ref a) m=some (some (.ref g)))(f:W.isFn K (.ref g)=true)(l:K.lookup g=some ⟨k,n,.func (W.fnOf m q (jo st) (ib st) (gD st) .none kV d pm j b o),c⟩)(h:W.codeIn K b q=true)(e:W.keepIn K (.ref g)=true):kG K a m q st:=⟨_,_,AU l h e,i,f,e⟩
set_option hygiene false in
local macro_rules|`('x')=>`(by repeat' first|(refine' gz ?_ ?_)|(refine' gL ?_)|(exact iq)|(refine' hV _ nd ?_)|(refine' ja ?_ ?_ ?_)|(refine' jN ?_)|(refine' yI _ nd ?_)|(refine' qm ?_)|(refine' ps_dropm ?_)|(exact Cj)|(refine' uN _ nd ?_)|(exact gH _)|(exact iK)|(refine' gA ?_ ?_)|(exact gJ)|(refine' Gj ?_ ?_)|(refine' jk (by assumption) hr ?_)|(refine' pz ?_ ?_)|(refine' zg ?_)|(refine' oT hr ?_ ?_)|(refine' Ee hr ?_ ?_)|(refine' sN ?_)|(refine' Fi ?_)|(refine' uw ?_ ?_)|(refine' pF ?_)|(refine' Kc ?_ ?_)|(refine' GX ?_)|(refine' gS (iQ (K:=K)) kD (by rfl) B.len ku ?_)|(refine' jm Gg G9 ?_ ?_)|(refine' jm Ce CD ?_ ?_)|(refine' jm HJ GH ?_ ?_)|(refine' jm Fj GO ?_ ?_)|(refine' jm op_notN mr_notN ?_ ?_)|(refine' jm op_isN mr_isN ?_ ?_)|(exact NN)|(exact pm_non)|(exact pm_str)|(refine' oH ?_)|(refine' FY ?_ ?_)|(refine' FA ?_ ?_)|(refine' Aj ?_)|(refine' Ny ?_ ?_)|(refine' Ct ?_ ?_)|(refine' yn ?_ ?_ ?_)|(exact Gm)|(refine' Fx ?_)|(refine' nr "tuple" (by decide) B.isinstance B.tuple jt ?_)|(refine' nr "list" (by decide) B.isinstance B.list qh ?_)|(refine' nr "int" (by decide) B.isinstance B.int Bv ?_)|(refine' nr "bool" (by decide) B.isinstance B.bool CH ?_)|(refine' iY (iO (K:=K)) jw (by rfl) B.tuple jt ?_)|(refine' iY call_int1 mc_int1 (by rfl) B.int Bv ?_)|(refine' gS mG qL (by rfl) B.abs qJ ?_)|(refine' gS (rq (K:=K) rfl) Bb (by rfl) B.all Bo ?_)|(refine' iB ?_)|(refine' kZ (by assumption) hr ?_)|(refine' qW (oS (K:=K)) uB (by rfl) B.list qh ?_)|(refine' xZ ?_)|(refine' Lg ?_ ?_)|(refine' Nv ?_ ?_)|(refine' zV ?_ ?_)|(refine' Bg ?_)|(refine' xD ?_))
section
variable {P:Program}{w:World}{K:W.Frag}{mg:Str->Option Value}{base:Heap}{c:Cs}(Z:Zx P w K mg base)(B:Bs mg)(ER:Er c K mg)
include Z B ER
theorem o0(D:gR K mg "is_whole" (jD 7)):CP Z "is_whole" 1 (jU c):=lQ Z 0 (jU c) ["thing"] ["thing"] rfl D λnd hX hr=>⟨_,(gL (jN (zV (nr "int" (by decide) B.isinstance B.int Bv (gH 0)) (Bg (xD (nr "bool" (by decide) B.isinstance B.bool CH (gH 0)))))))⟩
theorem o1(D:gR K mg "sign_of" (jD 9)):CP Z "sign_of" 1 (jG c):=lQ Z 0 (jG c) ["number"] ["number"] rfl D λnd hX hr=>⟨_,(gz (ja (jm Ce CD (gH 0) iK) 'x' iq) (gz (ja (jm Gg G9 (gH 0) iK) 'x' iq) 'x'))⟩
theorem o2(D:gR K mg "common_divisor" (jD 10)):CP Z "common_divisor" 1 (iZ c):=lQ Z 0 (iZ c) ["one","other","rest"] ["one","other"] rfl D λnd hX hr=>⟨_,(gz (Hs (λρ=>match ρ with|_::some (.p (.int j))::_=>j.natAbs+1|_=>0) PassesOwn.never 'x' 'x') (gL (jN (gS mG qL (by rfl) B.abs qJ 'x'))))⟩
theorem o3(D:gR K mg "dot" (jD 11)):CP Z "dot" 1 (p9 c):=lQ Z 0 (p9 c) ["numbers","others"] ["numbers","others"] rfl D λnd hX hr=>⟨_,(gL (jN (gS (qH (K:=K) rfl) AM (by rfl) B.sum Ab (gA (iB (i6 ["one","other"] [none,none] hX (mY B.zip 'x') (λnd hX=>⟨(mj 2 rfl (hW (iy 0 nd) (hW (iy 1 nd) j2))),gZ, 'x'⟩))) gJ))))⟩
theorem o4(D:gR K mg "without_place" (jD 19)):CP Z "without_place" 1 (iC c):=lQ Z 0 (iC c) ["row","place"] ["row","place"] rfl D λnd hX hr=>⟨_, 'x'⟩
theorem o5(D:gR K mg "first_place" (jD 31)):CP Z "first_place" 1 (j4 c):=lQ Z 0 (j4 c) ["cut","place"] ["cut"] rfl D λnd hX hr=>⟨_,(gz (hV 1 nd iK) (gz (Hs (λρ=>match ρ with|some (.p (.tup ts))::_=>ts.length+1|_=>0) PassesOwn.never 'x' 'x') 'x'))⟩
theorem o6(D:kG K c.Cutting "dims" "Cutting.dims" (nW (jD 36) 1)):lu P w K mg base c.Cutting "dims" 1 (uT K (js c)):=Pq Z 0 (js c) ["self"] ["self"] rfl ER.cl_Cutting D λnd hX hr=>⟨_,(gL (jN (FU rfl ER.cl_Cutting ER.na_Cutting_own_dims (gH 0))))⟩
theorem o7(D:kG K c.Cutting "cuts" "Cutting.cuts" (nW (jD 36) 2)):lu P w K mg base c.Cutting "cuts" 1 (zZ K (jy c)):=LD Z 0 (jy c) ["self"] ["self"] rfl ER.cl_Cutting D λnd hX hr=>⟨_,(gL (qm (qW (oS (K:=K)) uB (by rfl) B.list qh (gA (FU rfl ER.cl_Cutting ER.na_Cutting_own_cuts (gH 0)) gJ))))⟩
theorem o8(D:gR K mg "_law_cell_at" (jD 38)):CP Z "_law_cell_at" 1 (gW c):=lQ Z 0 (gW c) ["_law_script","_law_k"] ["_law_script","_law_k"] rfl D λnd hX hr=>⟨_,(gz (ja (jm Gg G9 (gH 1) (gS (iQ (K:=K)) kD (by rfl) B.len ku 'x')) 'x' iq) 'x')⟩
theorem o9(D:gR K mg "_law_draw" (jD 39)):CP Z "_law_draw" 1 (gK c):=lQ Z 0 (gK c) ["_law_cell","_law_k","_law_bound","_law_left","_law_j","_law_stir"] ["_law_cell","_law_k","_law_bound"] rfl D λnd hX hr=>⟨_,(gz (ja (jm HJ GH (gH 0) (Ac iK iK)) (gz 'x' (gz (lP PassesOwn.never rfl (kq B.range 'x') (jH 4 nd) 'x') 'x')) iq) 'x')⟩
theorem Ru(D:gR K mg "_law_same" (jD 40)):CP Z "_law_same" 1 (j8 c):=lQ Z 0 (j8 c) ["_law_one","_law_other","_law_k","_law_j"] ["_law_one","_law_other"] rfl D λnd a hr=>⟨_,(gz (lP PassesOwn.never rfl (kq B.range (gA (gS (iQ (K:=K)) kD (by rfl) B.len ku 'x') gJ)) (jH 2 nd) (gL (lP PassesOwn.never rfl (kq B.range 'x') (jH 3 nd) 'x'))) 'x')⟩
theorem Re(D:gR K mg "_law_most" (jD 45)):CP Z "_law_most" 1 (kX c):=lQ Z 0 (kX c) ["_law_many","_law_dims","_law_found","_law_here","_law_k"] ["_law_many","_law_dims"] rfl D λnd a hr=>⟨_,(gz (hV 2 nd iK) (gz (hV 3 nd iK) (gz (lP PassesOwn.never rfl (kq B.range 'x') (jH 4 nd) 'x') 'x')))⟩
theorem Rt(D:gR K mg "lowest" (jD 12))(b:CP Z "common_divisor" 1 (iZ c)):CP Z "lowest" 2 (kj c):=lQ Z 1 (kj c) ["row","divisor","number"] ["row"] rfl D λnd a hr=>⟨_,(gz (hV 1 nd iK) (gz (mQ PassesOwn.never rfl (iw (gH 0)) (jH 2 nd) 'x') (gz 'x' (gL (jN (iY (iO (K:=K)) jw (by rfl) B.tuple jt (gA (iB (i6 ["number","divisor"] [none,some 1] a (iw (gH 0)) (λnd a=>⟨(iy 0 nd),gZ, 'x'⟩))) gJ)))))))⟩
theorem Rv(D:gR K mg "left_at" (jD 17))(b:CP Z "dot" 1 (p9 c)):CP Z "left_at" 2 (ju c):=lQ Z 1 (ju c) ["cut","point"] ["cut","point"] rfl D λnd a hr=>⟨_, 'x'⟩
theorem Rl(D:gR K mg "is_dims" (jD 28))(b:CP Z "is_whole" 1 (jU c)):CP Z "is_dims" 2 (lE c):=lQ Z 1 (lE c) ["thing"] ["thing"] rfl D λnd a hr=>⟨_,(gL (jN (zV 'x' (Bg (Hw Fj GO Fj GO iK (gH 0) (yi 3 ER.k_MOST_DIMS))))))⟩
theorem Ra(D:gR K mg "is_cut" (jD 30))(b:CP Z "is_whole" 1 (jU c)):CP Z "is_cut" 2 (mO c):=lQ Z 1 (mO c) ["dims","thing"] ["dims","thing"] rfl D λnd a hr=>⟨_,(gz (ja (Fi (uw (sN (zg (nr "tuple" (by decide) B.isinstance B.tuple jt (gH 1)))) (pF (oT hr (gS (iQ (K:=K)) kD (by rfl) B.len ku 'x') 'x')))) 'x' iq) (gz (ja (sN (zg (gS (rq (K:=K) rfl) Bb (by rfl) B.all Bo (gA (iB (i6 ["number"] [none] a (iw (gH 1)) (λnd a=>⟨(iy 0 nd),gZ, 'x'⟩))) gJ)))) 'x' iq) (gL (jN (gS (nZ (K:=K) rfl) xj (by rfl) B.any xo (gA (iB (i6 ["number"] [none] a (iw 'x') (λnd a=>⟨(iy 0 nd),gZ,(NZ hr (gH 0) iK)⟩))) gJ))))))⟩
theorem Rr(D:gR K mg "same_spots" (jD 32))(b:CP Z "first_place" 1 (j4 c)):CP Z "same_spots" 2 (kh c):=lQ Z 1 (kh c) ["one","other","place"] ["one","other"] rfl D λnd a hr=>⟨_,(gz 'x' (gL (jN (gS (rq (K:=K) rfl) Bb (by rfl) B.all Bo (gA (iB (i6 ["mine","theirs","other","place","one"] [none,none,some 1,some 2,some 0] a (mY B.zip 'x') (λnd a=>⟨(mj 2 rfl (hW (iy 0 nd) (hW (iy 1 nd) j2))),gZ,(OW hr 'x' 'x')⟩))) gJ)))))⟩
theorem RD(D:gR K mg "_law_cut" (jD 41))(b:CP Z "_law_draw" 1 (gK c)):CP Z "_law_cut" 2 (lD c):=lQ Z 1 (lD c) ["_law_cell","_law_dims","_law_ahead","_law_numbers","_law_c","_law_way","_law_far"] ["_law_cell","_law_dims","_law_ahead"] rfl D λnd a hr=>⟨_,(gz (nK ["_law_j","_law_cell"] [none,some 0] 3 nd a (zh.pim (kq B.range 'x')) (λnd a=>⟨(iy 0 nd),gZ, 'x'⟩) BM) (gz (ja 'x' (gL (JU 3 (pv 3) 'x' 'x')) iq) (gz 'x' (gz 'x' (gz (ja 'x' (gL (uN 3 nd (qW (oS (K:=K)) uB (by rfl) B.list qh (gA (yn (Gj (gH 2) (jk b hr (gA (gH 0) (gA iK (gA (gS (iQ (K:=K)) kD (by rfl) B.len ku 'x') gJ))))) Gm (Fx (gH 1))) gJ)))) iq) (gz (ja 'x' (gL (yI 4 nd (gS (qH (K:=K) rfl) AM (by rfl) B.sum Ab (gA (iB (i6 ["_law_number","_law_part"] [none,none] a (mY B.zip 'x') (λnd a=>⟨(mj 2 rfl (hW (iy 0 nd) (hW (iy 1 nd) j2))),gZ, 'x'⟩))) gJ)))) iq) (gz (ja 'x' (gz (hV 6 nd (FY (pz iK (jk b hr (gA (gH 0) (gA iK (gA (Ac iK iK) gJ))))) (Gj (iB (xZ (gA iK (gA iK (gA (Ac iK iK) gJ))))) 'x'))) (gz (nK ["_law_number","_law_far"] [none,some 6] 3 nd a (iw (gH 3)) (λnd a=>⟨(iy 0 nd),gZ, 'x'⟩) Kb) 'x')) iq) (gL (jN (iY (iO (K:=K)) jw (by rfl) B.tuple jt 'x'))))))))))⟩
theorem Rw(D:gR K mg "_law_order" (jD 44))(a:CP Z "_law_draw" 1 (gK c)):CF Z "_law_order" 2 (ke c):=zK Z 1 (ke c) ["_law_cell","_law_many","_law_left","_law_found","_law_k"] ["_law_cell","_law_many"] rfl D λnd b hr=>⟨_,(gz (uN 2 nd (NX rfl B.list B.range 'x')) (gz 'x' (gz (lP PassesOwn.never rfl (kq B.range 'x') (jH 4 nd) (gL (HH 3 2 (pv 3) (pv 2) (jk a hr (gA (gH 0) (gA (gH 4) (gA (gS (iQ (K:=K)) kD (by rfl) B.len ku 'x') gJ))))))) (gL (tQ 3 (pv 3))))))⟩
theorem RB(D:gR K mg "cleared" (jD 13))(a:CP Z "lowest" 2 (kj c))(d:CP Z "sign_of" 1 (jG c)):CP Z "cleared" 3 (kS c):=lQ Z 2 (kS c) ["row","other","place","often","other_often"] ["row","other","place"] rfl D λnd b hr=>⟨_,(gz 'x' (gz (hV 3 nd (gS mG qL (by rfl) B.abs qJ 'x')) (gz 'x' (gL (jN (jk a hr (gA (iY (iO (K:=K)) jw (by rfl) B.tuple jt (gA (iB (i6 ["mine","theirs","often","other_often"] [none,none,some 3,some 4] b (mY B.zip 'x') (λnd b=>⟨(mj 2 rfl (hW (iy 0 nd) (hW (iy 1 nd) j2))),gZ, 'x'⟩))) gJ)) gJ)))))))⟩
theorem RC(D:gR K mg "point_off" (jD 18))(a:CP Z "lowest" 2 (kj c))(e:CP Z "dot" 1 (p9 c))(d:CP Z "left_at" 2 (ju c)):CP Z "point_off" 3 (jA c):=lQ Z 2 (jA c) ["ahead","cut","point","sign","often","other","step","parts"] ["ahead","cut","point","sign"] rfl D λnd b hr=>⟨_,(gz (hV 4 nd iK) (gz (mQ PassesOwn.never rfl (iw (gH 0)) (jH 5 nd) (gz (hV 6 nd (gS mG qL (by rfl) B.abs qJ 'x')) (gL (hV 4 nd (gS (Du rfl) JV (by rfl) B.max Lw (gA (gH 4) (gA (pz (Ct (gH 6) (gS mG qL (by rfl) B.abs qJ 'x')) iK) gJ))))))) (gz (nK ["part","number","often","sign"] [none,none,some 4,some 3] 7 nd b (mY B.zip 'x') (λnd b=>⟨(mj 2 rfl (hW (iy 0 nd) (hW (iy 1 nd) j2))),gZ, 'x'⟩) mC) (gL (jN (jk a hr (gA (pz (iY (iO (K:=K)) jw (by rfl) B.tuple jt 'x') 'x') gJ)))))))⟩
theorem Rh(D:gR K mg "point_on" (jD 20))(d:CP Z "lowest" 2 (kj c))(b:CP Z "left_at" 2 (ju c))(f:CP Z "sign_of" 1 (jG c))(e:CP Z "without_place" 1 (iC c)):CP Z "point_on" 3 (j9 c):=lQ Z 2 (j9 c) ["cut","place","point","often","part","others"] ["cut","place","point"] rfl D λnd a hr=>⟨_,(gz (hV 3 nd (gS mG qL (by rfl) B.abs qJ 'x')) (gz 'x' (gz (hV 5 nd (iY (iO (K:=K)) jw (by rfl) B.tuple jt (gA (iB (i6 ["number","often"] [none,some 3] a (iw (gH 2)) (λnd a=>⟨(iy 0 nd),gZ, 'x'⟩))) gJ))) 'x')))⟩
theorem Rq(D:gR K mg "can_stand" (jD 34))(d:CP Z "is_cut" 2 (mO c))(b:CP Z "same_spots" 2 (kh c)):CP Z "can_stand" 3 (kc c):=lQ Z 2 (kc c) ["dims","ahead","thing"] ["dims","ahead","thing"] rfl D λnd a hr=>⟨_,(gz (ja (Fi (uw (jm HJ GH (gS (iQ (K:=K)) kD (by rfl) B.len ku 'x') (yi 7 ER.k_MOST_CUTS)) (pF 'x'))) 'x' iq) (gL (jN (xD (gS (nZ (K:=K) rfl) xj (by rfl) B.any xo (gA (iB (i6 ["cut","thing"] [none,some 2] a (iw (gH 1)) (λnd a=>⟨(iy 0 nd),gZ, 'x'⟩))) gJ))))))⟩
theorem Q8(D:gR K mg "_law_cuts" (jD 42))(d:CP Z "_law_cut" 2 (lD c))(e:CP Z "_law_cell_at" 1 (gW c))(b:CP Z "_law_same" 1 (j8 c)):CF Z "_law_cuts" 3 (kM c):=zK Z 2 (kM c) ["_law_script","_law_at","_law_dims","_law_many","_law_found","_law_k","_law_cut_here"] ["_law_script","_law_at","_law_dims","_law_many"] rfl D λnd a hr=>⟨_,(gz 'x' (gz (lP PassesOwn.never rfl (kq B.range 'x') (jH 5 nd) (gz 'x' (gL (ja (Ee hr (iB (i6 ["_law_other","_law_cut_here"] [none,some 6] a (iw (gH 4)) (λnd a=>⟨(iy 0 nd),(yy 'x'),(gH 0)⟩))) (iB (xZ gJ))) (gL (nv 4 (pv 4) (gH 6))) iq)))) (gL (tQ 4 (pv 4)))))⟩
theorem Rf(D:gR K mg "checked_cuts" (jD 35))(a:CP Z "is_dims" 2 (lE c))(b:CP Z "can_stand" 3 (kc c)):CP Z "checked_cuts" 4 (jr c):=lQ Z 3 (jr c) ["dims","things","ahead","thing"] ["dims","things"] rfl D λnd d hr=>⟨_,(gz (ja (Fi (uw 'x' (pF (sN (zg (nr "list" (by decide) B.isinstance B.list qh (gH 1))))))) (gL Cj) iq) (gz 'x' (gz (mQ PassesOwn.never rfl (iw (gH 1)) (jH 3 nd) (gz 'x' (gL (nv 2 (pv 2) (iY (iO (K:=K)) jw (by rfl) B.tuple jt 'x'))))) (gL (jN (iY (iO (K:=K)) jw (by rfl) B.tuple jt 'x'))))))⟩
theorem Rn(D:gR K mg "_law_drawn" (jD 43))(e:CP Z "_law_cell_at" 1 (gW c))(d:CP Z "_law_draw" 1 (gK c))(a:CF Z "_law_cuts" 3 (kM c)):CP Z "_law_drawn" 4 (j6 c):=lQ Z 3 (j6 c) ["_law_script","_law_at","_law_most_here","_law_cell","_law_dims","_law_many"] ["_law_script","_law_at","_law_most_here"] rfl D λnd b hr=>⟨_,(gz 'x' (gz 'x' (gz 'x' (gz (ja 'x' (gL (hV 5 nd (gS (DD rfl) HY (by rfl) B.min Na 'x'))) iq) 'x'))))⟩
theorem Rk(D:kG K c.Cutting "__init__" "Cutting.__init__" (nW (jD 36) 0))(a:CP Z "checked_cuts" 4 (jr c)):DS P w K mg base "Cutting" c.Cutting 5 (AJ K c.Cutting (gM c)):=QI Z 4 (gM c) ["self","dims","cuts"] rfl ER.cl_Cutting ER.na_Cutting_own_cuts ER.na_Cutting_own_dims ER.mk_Cutting ER.kp_Cutting ER.mg_Cutting D λhr=>QD rfl (pv 0) (jk a hr (gA (gH 1) (gA (gH 2) gJ))) (pv 0) (gH 1)
theorem Rp{k:Nat}{d:List T->M T}(D:gR K mg "crossings" (jD 21))(g:CP Z "without_place" k (iC c))(f:CP Z "cleared" k (kS c))(e:CP Z "point_on" k (j9 c))(b:CP Z "cells" k d):CF Z "crossings" (k+1) (jS c d):=zK Z k (jS c d) ["ahead","cut","places","place","traces"] ["ahead","cut"] rfl D λnd a hr=>⟨_,(gz (nK ["place","number"] [none,none] 2 nd a (BO B.enumerate 'x') (λnd a=>⟨(mj 2 rfl (hW (iy 0 nd) (hW (iy 1 nd) j2))),(yy 'x'),(gH 0)⟩) mC) (gz 'x' (gz 'x' (gz (nK ["other","place","cut"] [none,some 3,some 1] 4 nd a (iw (gH 0)) (λnd a=>⟨(iy 0 nd),gZ,(jk g hr (gA (jk f hr 'x' (aL _)) 'x') (aL _))⟩) mC) (gz (ja (zg (gS (nZ (K:=K) rfl) xj (by rfl) B.any xo (gA (iB (i6 ["trace"] [none] a (iw (gH 4)) (λnd a=>⟨(iy 0 nd),gZ,(xD (gS (nZ (K:=K) rfl) xj (by rfl) B.any xo 'x'))⟩))) gJ))) 'x' iq) (gL (qm (i6 ["signs","point","cut","place"] [none,none,some 1,some 3] a (iw (jk b hr (gA (gH 4) (gA (FA (gS (iQ (K:=K)) kD (by rfl) B.len ku 'x') iK) gJ)) (aL _))) (λnd a=>⟨(mj 2 rfl (hW (iy 0 nd) (hW (iy 1 nd) j2))),gZ,(oH (gA (gH 0) (gA (jk e hr 'x' (aL _)) gJ)))⟩)))))))))⟩
theorem Rc{k:Nat}{e:List T->M T}(D:gR K mg "with_one_more" (jD 22))(a:CF Z "crossings" k (jS c e))(b:CP Z "point_off" k (jA c))(f:CP Z "sign_of" k (jG c))(d:CP Z "left_at" k (ju c)):CF Z "with_one_more" (k+1) (jF c e):=zK Z k (jF c e) ["found","ahead","cut","crossed","grown","signs","point","sign"] ["found","ahead","cut"] rfl D λnd g hr=>⟨_,(gz (hV 3 nd (iY (By rfl (RA hr)) JW (by rfl) B.dict Jt (gA (iB (kZ a hr 'x' (aL _))) gJ))) (gz 'x' (gz (mQ PassesOwn.never rfl (iw (gH 0)) (Bm 2 rfl (lH (jH 5 nd) (lH (jH 6 nd) uK))) (gL (ja (Jc hr (gH 5) (gH 3)) (gL (mQ PassesOwn.never rfl (iw 'x') (jH 7 nd) (gL (nv 4 (pv 4) (oH (gA 'x' (gA (jk b hr (gA (gH 1) (gA (gH 2) (gA (Nq hr (gH 3) (gH 5)) 'x'))) (aL _)) gJ))))))) (gL (nv 4 (pv 4) (oH (gA (pz (gH 5) (oH (gA (jk f hr (gA (jk d hr 'x' (aL _)) gJ) (aL _)) gJ))) 'x'))))))) (gL (tQ 4 (pv 4))))))⟩
theorem Q7{k m:Nat}(D:gR K mg "cells" (jD 23))(a:CF Z "with_one_more" k (jF c (j7 c m))):CP Z "cells" (k+1) (j7 c (m+1)):=lQ Z k (j7 c (m+1)) ["cuts","dims","found","k","cut"] ["cuts","dims"] rfl D λnd b hr=>⟨_,(gz (hV 2 nd (iB (xZ (gA (oH (gA (oH gJ) (gA (pz (Kh 'x' (gH 1)) 'x') gJ))) gJ)))) (gz (mQ PassesOwn.never rfl (BO B.enumerate 'x') (Bm 2 rfl (lH (jH 3 nd) (lH (jH 4 nd) uK))) (gL (hV 2 nd (iB (kZ a hr 'x' (aL _)))))) 'x'))⟩
theorem oR(D_crossings:gR K mg "crossings" (jD 21))(D_with_one_more:gR K mg "with_one_more" (jD 22))(D_cells:gR K mg "cells" (jD 23))(O4:CP Z "without_place" 3 (iC c))(O19:CP Z "cleared" 3 (kS c))(O21:CP Z "point_on" 3 (j9 c))(O20:CP Z "point_off" 3 (jA c))(O1:CP Z "sign_of" 3 (jG c))(O13:CP Z "left_at" 3 (ju c)):∀m:Nat,CP Z "cells" (3+3*m) (j7 c m)
 |0=>Pu (k:=2) ["cuts","dims","found","k","cut"] ["cuts","dims"] rfl D_cells
 |m+1=>by have IH:=oR D_crossings D_with_one_more D_cells O4 O19 O21 O20 O1 O13 m;exact Q7 Z B ER (k:=3+3*m+2) D_cells (Rc Z B ER (k:=3+3*m+1) D_with_one_more (Rp Z B ER (k:=3+3*m) D_crossings (O4.mono (by omega)) (O19.mono (by omega)) (O21.mono (by omega)) IH) (O20.mono (by omega)) (O1.mono (by omega)) (O13.mono (by omega)))
theorem Rb(D:gR K mg "lands" (jD 24))(a:CP Z "cells" 18 (j7 c 5))(d:lu P w K mg base c.Cutting "cuts" 1 (zZ K (jy c)))(e:lu P w K mg base c.Cutting "dims" 1 (uT K (js c))):CF Z "lands" 19 (jf c):=zK Z 18 (jf c) ["cutting"] ["cutting"] rfl D λnd b hr=>⟨_,(gL (qm (i6 ["signs","point"] [none,none] b (iw (jk a hr (gA (iB (LR d hr (gH 0))) (gA (KU e hr (gH 0)) gJ)))) (λnd b=>⟨(mj 2 rfl (hW (iy 0 nd) (hW (iy 1 nd) j2))),gZ,(gH 0)⟩))))⟩
theorem oL{g:Addr}{fd:FuncData}(D:HR K "law" "law" (jD 46) g fd)(h:CP Z "_law_drawn" 4 (j6 c))(d:CF Z "lands" 19 (jf c))(e:CF Z "_law_order" 2 (ke c))(b:DS P w K mg base "Cutting" c.Cutting 5 (AJ K c.Cutting (gM c)))(f:CP Z "_law_most" 1 (kX c))(j:CP Z "_law_cell_at" 1 (gW c))(i:CP Z "_law_draw" 1 (gK c)):lU P w K mg base uR 20 g fd ["_law_script"] (uT K (qk c)):=Ov Z 19 (qk c) ["_law_script","_law_dims","_law_cuts_here","_law_some","_law_order_here","_law_due","_law_often","_law_scaled","_law_ways","_law_steps","_law_moved","_law_cut_here","_law_more","_law_back","_law_k","_law_rest"] ["_law_script"] rfl D λnd a hr=>⟨_,(gz (Iu 'x' (Bm 2 rfl (lH (jH 1 nd) (lH (jH 2 nd) uK)))) (gz (hV 3 nd (iB (kZ d hr (gA (vT b hr 'x') gJ)))) (gz (ja (jm Ce CD (gS (iQ (K:=K)) kD (by rfl) B.len ku 'x') (jk f hr (gA (gS (iQ (K:=K)) kD (by rfl) B.len ku 'x') 'x'))) 'x' iq) (gz (hV 4 nd (iB (kZ e hr (gA 'x' (gA (gS (iQ (K:=K)) kD (by rfl) B.len ku 'x') gJ))))) (gz (hV 5 nd (iB (yT B.sorted (gA (iB (i6 ["_law_signs","_law_order_here"] [none,some 4] a (iw (gH 3)) (λnd a=>⟨(iy 0 nd),gZ,(iY (iO (K:=K)) jw (by rfl) B.tuple jt (gA (iB (i6 ["_law_k","_law_signs"] [none,some 0] a (iw (gH 1)) (λnd a=>⟨(iy 0 nd),gZ, 'x'⟩))) gJ))⟩))) gJ)))) (gz (ja (oT hr (iB (kZ d hr (gA (vT b hr (gA (gH 1) (gA (iB (i6 ["_law_k","_law_cuts_here"] [none,some 2] a (iw (gH 4)) (λnd a=>⟨(iy 0 nd),gZ, 'x'⟩))) gJ))) gJ))) (gH 5)) 'x' iq) (gz (hV 6 nd (iB (i6 ["_law_k","_law_script"] [none,some 0] a (zh.pim (kq B.range (gA (gS (iQ (K:=K)) kD (by rfl) B.len ku 'x') gJ))) (λnd a=>⟨(iy 0 nd),gZ, 'x'⟩)))) (gz (nK ["_law_k","_law_often","_law_cuts_here"] [none,some 6,some 2] 7 nd a (zh.pim (kq B.range (gA (gS (iQ (K:=K)) kD (by rfl) B.len ku 'x') gJ))) (λnd a=>⟨(iy 0 nd),gZ,(iY (iO (K:=K)) jw (by rfl) B.tuple jt (gA (iB (i6 ["_law_number","_law_often","_law_k"] [none,some 1,some 0] a (iw 'x') (λnd a=>⟨(iy 0 nd),gZ, 'x'⟩))) gJ))⟩) mC) (gz (hV 8 nd (iB (i6 ["_law_by"] [none] a (iw (gH 6)) (λnd a=>⟨(iy 0 nd),gZ,(OB (jm Ce CD (gH 0) iK) iK (Aj iK))⟩)))) (gz (hV 5 nd (iB (yT B.sorted (gA (iB (i6 ["_law_signs","_law_ways"] [none,some 8] a (iw (gH 3)) (λnd a=>⟨(iy 0 nd),gZ,(iY (iO (K:=K)) jw (by rfl) B.tuple jt (gA (iB (i6 ["_law_sign","_law_way"] [none,none] a (mY B.zip 'x') (λnd a=>⟨(mj 2 rfl (hW (iy 0 nd) (hW (iy 1 nd) j2))),gZ, 'x'⟩))) gJ))⟩))) gJ)))) (gz (ja (oT hr (iB (kZ d hr (gA (vT b hr 'x') gJ))) (gH 5)) 'x' iq) (gz (nK ["_law_j","_law_script"] [none,some 0] 9 nd a (zh.pim (kq B.range 'x')) (λnd a=>⟨(iy 0 nd),gZ, 'x'⟩) mC) (gz 'x' (gz (mQ PassesOwn.never rfl (iw (gH 2)) (jH 11 nd) (gz (hV 12 nd (gS (qH (K:=K) rfl) AM (by rfl) B.sum Ab (gA (iB (i6 ["_law_number","_law_step"] [none,none] a (mY B.zip 'x') (λnd a=>⟨(mj 2 rfl (hW (iy 0 nd) (hW (iy 1 nd) j2))),gZ, 'x'⟩))) gJ))) (gL (nv 10 (pv 10) 'x')))) (gz (nK ["_law_cut_here","_law_dims"] [none,some 1] 13 nd a (iw (gH 2)) (λnd a=>⟨(iy 0 nd),gZ,(pz (Mz 'x' (Aj iK)) 'x')⟩) mC) (gz (ja (Fi (uw (oT hr (iB (kZ d hr (gA (vT b hr 'x') gJ))) (gH 3)) (pF (oT hr (iB (kZ d hr (gA (vT b hr 'x') gJ))) (gH 3))))) 'x' iq) (gz (lP PassesOwn.never rfl (kq B.range (gA (gS (iQ (K:=K)) kD (by rfl) B.len ku 'x') gJ)) (jH 14 nd) (gz (hV 15 nd (iB (G7 rfl hr B.sorted B.set (gA (iB (i6 ["_law_signs","_law_k"] [none,some 14] a (iw (gH 3)) (λnd a=>⟨(iy 0 nd),gZ, 'x'⟩))) gJ)))) (gL (ja (oT hr (iB (kZ d hr (gA (vT b hr 'x') gJ))) (gH 15)) 'x' iq)))) 'x')))))))))))))))))⟩
end
def LV{l:W.OpenLaw}{w:World}{K:W.Frag}{h:Heap}{b:Str->Option Value}{c:Cs}{fa f:Addr}{oc kV k pm i ct:Vq}{od an:Option Addr}{I:Array (Option Value)}(X:K.In h)(G:h.Ns mainGlobals b)(hfa:b "law" = some (.ref fa))
  (a:W.nsIn K mainGlobals "law" = some (some (.ref f))) (lk:K.lookup f=some ⟨oc,od,.func (W.fnOf "law" "law" (jo (jD 46)) (ib (jD 46)) (gD (jD 46)) .none kV k pm an i ct),I⟩) (cc:W.codeIn K i "law" = true) (kk:W.keepIn K (.ref f)=true)
  (B:Bs b) (ER:Er c K b) (LF:∀ns:LI,(qk c) [.scr ns]=.ok (.bl true)) (D0:gR K b "is_whole" (jD 7)) (D1:gR K b "sign_of" (jD 9)) (D2:gR K b "common_divisor" (jD 10)) (D3:gR K b "dot" (jD 11)) (D4:gR K b "without_place" (jD 19)) (D5:gR K b "first_place" (jD 31)) (D6:gR K b "_law_cell_at" (jD 38)) (D7:gR K b "_law_draw" (jD 39)) (D8:gR K b "_law_same" (jD 40)) (D9:gR K b "_law_most" (jD 45)) (D10:gR K b "lowest" (jD 12)) (D:gR K b "left_at" (jD 17)) (D12:gR K b "is_dims" (jD 28)) (n:gR K b "is_cut" (jD 30)) (H:gR K b "same_spots" (jD 32)) (D15:gR K b "_law_cut" (jD 41)) (p:gR K b "_law_order" (jD 44)) (y:gR K b "cleared" (jD 13)) (z:gR K b "point_off" (jD 18)) (D19:gR K b "point_on" (jD 20)) (D20:gR K b "can_stand" (jD 34)) (P:gR K b "_law_cuts" (jD 42)) (C:gR K b "checked_cuts" (jD 35)) (R:gR K b "_law_drawn" (jD 43)) (D24:gR K b "cells" (jD 23)) (q:gR K b "crossings" (jD 21)) (E:gR K b "lands" (jD 24)) (J:gR K b "with_one_more" (jD 22)) (M0:kG K c.Cutting "dims" "Cutting.dims" (nW (jD 36) 1)) (M1:kG K c.Cutting "cuts" "Cutting.cuts" (nW (jD 36) 2)) (M2:kG K c.Cutting "__init__" "Cutting.__init__" (nW (jD 36) 0)) :
  ∃fd:FuncData,(∀(s:Sq) (v:Vq),BindsTo s fd ⟨[v],[]⟩ [("_law_script",v)])/\∀d:Heap,K.In d->d.Ns mainGlobals b->lU l.prog w K b d uR 20 fa fd ["_law_script"] (FQ K):=by
 have e:=hfa.symm.trans (W.mg_of X G a);cases e;refine⟨W.fnOf "law" "law" (jo (jD 46)) (ib (jD 46)) (gD (jD 46)) .none kV k pm an i ct,?bnd,λd _ _=>?main⟩
 case main=>have Z:Zx l.prog w K b d:=⟨trivial⟩;have O0:=o0 Z B ER D0;have F:=o1 Z B ER D1;have O2:=o2 Z B ER D2;have O3:=o3 Z B ER D3;have O4:=o4 Z B ER D4;have O5:=o5 Z B ER D5;have O6:=o6 Z B ER M0;have O7:=o7 Z B ER M1;have Q:=o8 Z B ER D6;have m:=o9 Z B ER D7;have S:=Ru Z B ER D8;have r:=Re Z B ER D9;have j:=Rt Z B ER D10 O2;have g:=Rv Z B ER D O3;have O14:=Rl Z B ER D12 O0;have O15:=Ra Z B ER n O0;have L:=Rr Z B ER H O5;have O17:=RD Z B ER D15 m;have o:=Rw Z B ER p m;have O19:=RB Z B ER y j F;have U:=RC Z B ER z j O3 g;have x:=Rh Z B ER D19 j g F O4;have u:=Rq Z B ER D20 O15 L;have N:=Q8 Z B ER P O17 Q S;have A:=Rf Z B ER C O14 u;have O25:=Rn Z B ER R Q m N;have Y:=Rk Z B ER M2 A;have O27:=oR Z B ER q J D24 (O4.mono (by decide)) (O19.mono (by decide)) (x.mono (by decide)) (U.mono (by decide)) (F.mono (by decide)) (g.mono (by decide)) 5;have O29:=Rb Z B ER E O27 O7 O6;exact (oL Z B ER (AU (st:=jD 46) lk cc kk) O25 O29 o Y r Q m).imp (Ei λns _ _=>LF ns)
 case bnd=>exact λs v=>.of_eq rfl
end K24
namespace PySem.Challenge.cw_cutlands_k24_whole_lands_turned_and_move_holds
def tw7273448671970919614:0=0:=rfl
def tw8326095209888716794:0=0:=rfl
def tw14462001837195653985:0=0:=rfl
def tw16854405632030554554:0=0:=rfl
def tw15655629500561554117:0=0:=rfl
def tw12520232456686455961:0=0:=rfl
def tw12848731007349486244:0=0:=rfl
def tw5009490758057163013:0=0:=rfl
def tw7557455156728229413:0=0:=rfl
def tw939393731654319443:0=0:=rfl
def tw10949803982343404553:0=0:=rfl
def tw4672548738715187934:0=0:=rfl
def tw12183371406002768934:0=0:=rfl
def tw15642668155110684660:0=0:=rfl
def tw4011984661467026689:0=0:=rfl
def tw6901630134309820079:0=0:=rfl
def tw17735998938731076343:0=0:=rfl
def tw7319987671803780099:0=0:=rfl
def tw1935894722449141066:0=0:=rfl
def tw14039991317469472127:0=0:=rfl
def tw663712483836384053:0=0:=rfl
def tw15034881600764622588:0=0:=rfl
def tw4599514096598348883:0=0:=rfl
def tw12477410835317826468:0=0:=rfl
def tw4521043923037966773:0=0:=rfl
def tw18300474805004672289:0=0:=rfl
def tw9605661330926380059:0=0:=rfl
def tw2209018195942759087:0=0:=rfl
def tw10194173350187170300:0=0:=rfl
def tw15335769028830131348:0=0:=rfl
def tw17976171345023369671:0=0:=rfl
def tw16263599254464122960:0=0:=rfl
def tw10454923335991117410:0=0:=rfl
def tw13989480136080578546:0=0:=rfl
def tw17373286838937418404:0=0:=rfl
def tw13774419882040580222:0=0:=rfl
def tw16092298715209568689:0=0:=rfl
def tw9124857145912528011:0=0:=rfl
def tw4031540175309769134:0=0:=rfl
def tw16372273528664380549:0=0:=rfl
def tw5904210949217391987:0=0:=rfl
def tw8099699341379907599:0=0:=rfl
def tw4337624393533022775:0=0:=rfl
def tw5578559856480729181:0=0:=rfl
def tw472582219990379631:0=0:=rfl
def tw13385803595511599213:0=0:=rfl
def tw16095322553051141601:0=0:=rfl
def tw14144961796926826613:0=0:=rfl
def tw10156268407627920176:0=0:=rfl
def tw6450659323323671963:0=0:=rfl
def tw6929610398751524146:0=0:=rfl
def tw15401093194130668995:0=0:=rfl
def tw4944974902958133315:0=0:=rfl
def tw5450715328372886491:0=0:=rfl
def tw15155552971823384308:0=0:=rfl
def tw10620760328564748550:0=0:=rfl
def tw4576492387131881072:0=0:=rfl
def tw15496442790267894634:0=0:=rfl
def tw14595024633403403103:0=0:=rfl
def tw10354052747973760243:0=0:=rfl
def tw11806437580422246136:0=0:=rfl
def tw18373355323505016469:0=0:=rfl
def tw11002762208120168379:0=0:=rfl
def tw7420200455422885276:0=0:=rfl
def tw3930190280178241616:0=0:=rfl
def tw8118572695171568949:0=0:=rfl
def tw3357255779450327096:0=0:=rfl
def tw2104327902835112599:0=0:=rfl
def tw7964303315815333031:0=0:=rfl
def tw14531589092305296297:0=0:=rfl
def tw13351820567471368669:0=0:=rfl
def tw4116581856145476923:0=0:=rfl
def tw15773040693986845861:0=0:=rfl
def tw18325873438911586184:0=0:=rfl
def tw1053474432164051298:0=0:=rfl
def tw12867743584323875857:0=0:=rfl
def tw13539242611381941561:0=0:=rfl
def tw8227096169938551861:0=0:=rfl
def tw6362907706188501976:0=0:=rfl
def tw7377045289900374380:0=0:=rfl
def tw9260235692020313522:0=0:=rfl
def tw9928568785439680000:0=0:=rfl
def tw11488122117175905002:0=0:=rfl
def tw12546742441308992361:0=0:=rfl
def tw7441563508096318298:0=0:=rfl
def tw6051915814163794652:0=0:=rfl
def tw10227236273784692693:0=0:=rfl
def tw9280987265929723802:0=0:=rfl
def tw472215453539719481:0=0:=rfl
def tw13500150300051074560:0=0:=rfl
def tw887253453251576862:0=0:=rfl
def tw9079182485870964798:0=0:=rfl
def tw18387607560605250755:0=0:=rfl
def tw6547014108510831059:0=0:=rfl
def tw18304679242789718774:0=0:=rfl
def tw15983415017667795864:0=0:=rfl
def tw17472914895556133841:0=0:=rfl
def tw11636941577702793476:0=0:=rfl
def tw3812848014013905797:0=0:=rfl
def tw3929464478879926736:0=0:=rfl
def tw12305940766050759068:0=0:=rfl
def tw3993933949269898265:0=0:=rfl
def tw16902895747295067623:0=0:=rfl
def tw16232109943376984974:0=0:=rfl
end PySem.Challenge.cw_cutlands_k24_whole_lands_turned_and_move_holds
open PySem PySem.W PyProof.Rows
set_option Elab.async true
theorem PySem.Challenge.cw_cutlands_k24_whole_lands_turned_and_move_holds : PySem.Challenge.rw_cutlands_k24_whole_lands_turned_and_move.Holds := by
 w_on;o_law;k_head;(case hw=>w_witness2);k_fill;refine L3.N3 (l:=PySem.Challenge.rw_cutlands_k24_whole_lands_turned_and_move) (k:=20) (x:= "_law_script") rfl ⟨rfl,by decide,by decide⟩ rfl (λw h Y=>PySem.W.kIn_of Y) ?F
 case F=>intro w mg fa h KX G hmg;refine' K24.LV KX G hmg ?a ?l ?c ?k ?B ?E (λns=>CL.CY ns) ?_ ?_ ?_ ?_ ?_ ?_ ?_ ?_ ?_ ?_ ?_ ?_ ?_ ?_ ?_ ?_ ?_ ?_ ?_ ?_ ?_ ?_ ?_ ?_ ?_ ?_ ?_ ?_ ?_ ?_ ?_;(case a=>k_is);(case l=>k_is);(case c=>k_is);(case k=>k_is);(case B=>constructor<;>(apply mg_none_of KX G;k_is));(case E=>apply K24.Oo KX G<;>first | k_is | k_exc | decide);all_goals first | (apply L2.Mp KX G<;>k_is) | (apply K24.Oc<;>first | k_is | k_exc | decide)
