import PyProof.Rows.All
import Wide.All
import OpenK.AllK
import Wide.FinOn
import Lean
import PyProof.EqAt
import PyProof.EqKinds
import PyProof.TupleCall
import PyProof.P3Eq
import PyProof.NeData
import PyProof.ReprRoads
import PyProof.ReprLen
import PyProof.Rows.ReprOcc
import PyProof.ConsumeWalk
import PyProof.Rows.SumAny
import PyProof.ZipIter
import PyProof.Rows.ZipGen
import PyProof.Rows.SeqMore
import PyProof.FactsAll.tuple
import PyProof.WalksMore
import PyProof.EnumMake
import PyProof.EnumFor
import PyProof.Rows.MinMaxN
import KE.KDictList
import KE.KRevIter
import KE.KItemsList
import PyProof.Rows.SortWalk
import PyProof.Rows.SetFrom
import PyProof.SetRoads
import PyProof.StrLoop
import PyProof.StrWalks
import PyProof.StrCalls2
import PyProof.StrLawsTight
import PyProof.StrLawsReplace
import PyProof.SliceStr2
import PyProof.StrOps
import PyProof.Rows.DictRows
import KE.KIntText
import PyProof.AttrMissHeap
import KE.KDictOf
import PyProof.ExcInit
import PyProof.ExcClass3
import PyProof.InstStoreFacts
import PyProof.Rows.ChunkEnd
import KE.KSortTup
import PyProof.SetKind
import PyProof.SetScanFacts
import PyProof.TupleKey
import PyProof.IsRules
import KE.KDictSum
import KE.KLam
import PyProof.Rows.SortRunsK
import PySem.Challenge.RW_cutlands_k11_signs_held
set_option bootstrap.genMatcherCode false
set_option maxRecDepth 100000
set_option maxHeartbeats 0
set_option linter.all false
noncomputable section
set_option compiler.extract_closed false
set_option hygiene false
abbrev Vq:=PySem.Value
abbrev LI:=List Int
abbrev LL:=List LI
section
open PySem
def aa:=@List.getElem?_eq_some_iff
def ae:=@Heap.get?_push_of_some
def af:=@List.getD_eq_getElem?_getD
def ag:=@List.getElem?_eq_getElem
def ai:=@List.mem_append
def aj:=@List.mem_singleton
def ak:=@wpAny_pure
def ao:=@wpAny_bind
def aq:=@List.getElem?_set_ne
def ar:=@Heap.get?_push_size
def au:=@List.mem_of_getElem?
def av:=@List.getElem?_map
def aw:=@List.length_map
def ax:=@List.mem_append_left
def ay:=@List.length_cons
def az:=@Int.le_of_lt
def aA:=@decide_eq_false
def aB:=@decide_eq_true
def aC:=@List.mem_map
def aD:=@Nat.lt_of_lt_of_le
def aE:=@List.mem_cons
def aF:=@Nat.zero_add
def aG:=@Bool.false_ne_true
def aH:=@List.map_map
def aI:=@Int.mul_le_mul_of_nonneg_right
def aJ:=@Nat.le_refl
def aK:=@Heap.lt_size
def aL:=@Nat.ne_of_lt
def aM:=@Nat.le_trans
def aN:=@Classical.byContradiction
def aO:=@Int.mul_nonneg
def aP:=@if_pos
def aQ:=@if_neg
def aR:=@List.mem_range
def aS:=@List.length_append
def aT:=@List.mem_filter
def aU:=@List.getElem_mem
def aV:=@List.of_mem_zip
def aW:=@Int.mul_pos
def aX:=@Int.natAbs_mul
def aY:=@List.map_append
def aZ:=@Nat.lt_irrefl
def a9:=@List.eq_of_mem_replicate
def bh:=@Nat.le_of_lt
def bj:=@List.filterMap_cons
def bu:=@List.mem_cons_self
def bx:=@List.mem_cons_of_mem
def bz:=@Array.append_assoc
def bA:=@Array.length_toList
def bB:=@Nat.ne_of_gt
def bC:=@Int.mul_one
def bD:=@List.mem_filterMap
def bE:=@List.mem_append_right
def bF:=@List.size_toArray
def bG:=@List.any_eq_false
def bH:=@List.map_cons
def bI:=@Nat.lt_succ_self
def bJ:=@Nat.zero_le
def bK:=@List.append_nil
def bL:=@Nat.le_succ
def bM:=@List.nodup_cons
def bN:=@Option.isSome_iff_exists
def bO:=@List.length_take
def bP:=@List.length_replicate
def bQ:=@Int.toNat_natCast
def bR:=@List.length_drop
def bS:=@Bool.and_eq_true
def bT:=@List.length_set
def bU:=@List.all_cons
def bV:=@List.any_cons
def bW:=@List.replicate_succ
def bX:=@List.flatten_cons
def bY:=@List.append_assoc
def bZ:=@List.length_singleton
def b4:=@Nat.succ_mul
def b5:=@List.nil_append
def b6:=@Nat.mul_comm
def b7:=@List.map_nil
def b8:=@Nat.lt_of_le_of_lt
def b9:=@Nat.add_le_add_left
def cf:=@Bool.false_eq_true
def cg:=@List.lookup_cons
def cj:=@Nat.le_of_succ_le
def ck:=@Nat.lt_succ_of_lt
def cm:=@Option.isSome_some
def cq:=@Nat.le_add_right
def cu:=@Nat.le_succ_of_le
def cv:=@List.range_succ_eq_map
def cw:=@List.all_map
def cx:=@List.any_map
def cy:=@List.take_of_length_le
def cA:=@List.all_eq_true
def cB:=@List.length_nil
def cC:=@Int.toNat_of_nonneg
def cD:=@Nat.lt_trichotomy
def cE:=@List.pairwise_iff_getElem
def cF:=@Int.gcd_dvd_left
def cG:=@Int.gcd_dvd_right
def cH:=@Int.dvd_mul_of_dvd_left
def cI:=@Int.fmod_nonneg_of_pos
def cJ:=@Int.fmod_lt_of_pos
def cK:=@Int.natAbs_natCast
def cL:=@Int.gcd_pos_of_ne_zero_right
def cN:=@Int.natAbs_dvd_natAbs
def cO:=@Nat.eq_of_mul_eq_mul_left
def cP:=@Int.mul_assoc
def cQ:=@Int.mul_comm
def cR:=@Int.mul_fdiv_cancel_left
def cS:=@Int.mul_neg
def cT:=@Int.eq_of_mul_eq_mul_right
def cU:=@Int.mul_ne_zero
def cV:=@Int.gcd_comm
def cW:=@Int.dvd_gcd_mul_iff_dvd_mul
def cX:=@Nat.eq_zero_or_pos
def cY:=@Nat.log2_lt
def cZ:=@List.lookup_cons_self
def c6:=@List.drop_eq_getElem_cons
def c7:=@List.mem_nil_iff
def c8:=@List.map_take
def c9:=@Nat.not_lt_zero
def dc:=@Nat.le_max_left
def de:=@Nat.le_max_right
def dg:=@Nat.pow_succ
def dh:=@Int.natAbs_add_le
def du:=@Int.natAbs_neg
def dw:=@Int.sub_eq_add_neg
def dy:=@List.drop_zero
def dz:=@List.drop_of_length_le
def dA:=@List.length_reverse
def dB:=@List.mem_iff_getElem?
def dC:=@List.map_set
def dD:=@Nat.le_mul_of_pos_left
def dE:=@List.dropLast_concat_getLast
def dF:=@Bool.true_and
def dG:=@Nat.two_pow_pos
def dH:=@Int.one_mul
def dI:=@Int.zero_mul
def dJ:=@Int.add_zero
def dM:=@Int.zero_add
def dN:=@Int.mul_add
def dO:=@Int.mul_zero
def dP:=@Int.mul_eq_zero
def dQ:=@List.mem_iff_getElem
def dR:=@List.getElem_map
def dS:=@Int.eq_of_mul_eq_mul_left
def dU:=@Nat.eq_one_of_mul_eq_one_right
def dW:=@List.mem_of_mem_take
def dX:=@List.take_length
def dY:=@Int.neg_mul
def dZ:=@List.length_erase_of_mem
def d8:=@List.countP_mono_left
def eg:=@Int.le_refl
def eA:=@Int.le_trans
def eB:=@Nat.lt_or_ge
def eC:=@Int.mul_nonpos_of_nonneg_of_nonpos
def eD:=@List.mem_of_mem_erase
def eE:=@List.countP_eq_length_filter
def eF:=@List.nodup_range
def eG:=@Int.mul_neg_of_pos_of_neg
def eI:=@Rat.intCast_lt_intCast
def eJ:=@Rat.intCast_mul
def eK:=@Rat.mul_pos
def eL:=@Rat.le_of_lt
def eM:=@List.sum_cons
def eN:=@Int.fdiv_nonneg
def eO:=@Int.mul_le_mul_of_nonneg_left
def eP:=@Int.not_lt
def eQ:=@Int.lt_of_mul_lt_mul_right
def eS:=@Int.pow_pos
def eT:=@Int.mul_le_mul
def eU:=@Int.pow_succ
def eV:=@Nat.mul_le_mul_left
def eW:=@List.mem_or_eq_of_mem_set
def eX:=@List.pairwise_map
def eY:=@List.pairwise_append
def eZ:=@List.pairwise_singleton
def fg:=@Nat.mul_le_mul
def fj:=@List.length_filter_le
def fv:=@List.filter_append
def fw:=@Int.lt_trichotomy
def fz:=@Rat.lt_of_mul_lt_mul_left
def fC:=@List.ext_getElem
def fE:=@Int.lt_of_mul_lt_mul_left
def fF:=@List.length_eq_zero_iff
def fG:=@List.zip_cons_cons
def fH:=@Rat.mul_nonneg
def fJ:=@Nat.mul_le_mul_right
def fK:=@List.filter_sublist
def fL:=@List.length_range
def fM:=@List.length_zip
def fN:=@List.mem_of_mem_drop
def fO:=@List.any_eq_true
def fP:=@List.eq_replicate_iff
def fQ:=@Array.all_eq_true_iff_forall_mem
end
set_option Elab.async false
namespace L2
open PySem PySem.Spec PyProof.Rows
abbrev pI:=Sum Int Str
noncomputable def yA:pI->Value->Bool
 |.inl k,v=>Value.isInt k v
 |.inr x,v=>Value.isStrOf x v
def RF(w:World):pI->Int
 |.inl k=>hashInt k
 |.inr x=>hashStr w x
theorem jB:∀{k} {v},yA k v=true->(∃i t,k=Sum.inl i/\v=Value.int i t)\/(∃x t,k=Sum.inr x/\v=Value.str x t)
 |.inl i,v,h=>by obtain⟨t,e⟩:=Value.isInt_shape h;exact .inl ⟨i,t,rfl,e⟩
 |.inr x,v,h=>by obtain⟨t,e⟩:=Value.isStrOf_shape h;exact .inr ⟨x,t,rfl,e⟩
def FB i t:yA (.inl i) (.int i t)=true:=by simp[yA,Value.isInt]
def EU x t:yA (.inr x) (.str x t)=true:=by simp[yA,Value.isStrOf]
def OE a b:decide ((Sum.inl a:pI)=Sum.inl b)=(a==b):=by
 by_cases e:a=b
 .subst e;simp
 .have h:¬(Sum.inl a:pI)=Sum.inl b:=λq=>e (Sum.inl.inj q);rw[aA h];exact (beq_eq_false_iff_ne.mpr e).symm
def Oi a b:decide ((Sum.inr a:pI)=Sum.inr b)=decide (a=b):=by
 by_cases e:a=b
 .subst e;simp
 .have h:¬(Sum.inr a:pI)=Sum.inr b:=λq=>e (Sum.inr.inj q);rw[aA h,aA e]
def Nn a b:decide ((Sum.inl a:pI)=Sum.inr b)=false:=aA (λq=>nomatch q)
def MN a b:decide ((Sum.inr a:pI)=Sum.inl b)=false:=aA (λq=>nomatch q)
noncomputable def kG(prog:Program)(w:World):PySem.KeyKind prog w pI where
 is:=yA
 hash:=RF w
 inj:=λv a b l f=>by
  rcases jB l with⟨i,t,rfl,rfl⟩|⟨x,t,rfl,rfl⟩
  .rcases jB f with⟨j,u,rfl,e⟩|⟨y,u,rfl,e⟩
   .injection e with c _;rw[c]
   .exact nomatch e
  .rcases jB f with⟨j,u,rfl,e⟩|⟨y,u,rfl,e⟩
   .exact nomatch e
   .injection e with c _;rw[c]
 byValue:=λk v h=>by rcases jB h with⟨i,t,rfl,rfl⟩|⟨x,t,rfl,rfl⟩<;>rfl
 pyHash:=λd h=>by
  rcases jB d with⟨i,t,rfl,rfl⟩|⟨x,t,rfl,rfl⟩
  .exact wpAny_pyHash_int h
  .exact wpAny_pyHash_str h
 eqBool:=λg d h=>by
  rcases jB g with⟨i,t,rfl,rfl⟩|⟨x,t,rfl,rfl⟩
  .rcases jB d with⟨j,u,rfl,rfl⟩|⟨y,u,rfl,rfl⟩
   .rw[OE]at h;exact wpAny_eqBool_int h
   .rw[Nn]at h;exact SeqAt.EqAt.int_str i t y u _ _ _ _ h
  .rcases jB d with⟨j,u,rfl,rfl⟩|⟨y,u,rfl,rfl⟩
   .rw[MN]at h;exact SeqAt.EqAt.str_int x t j u _ _ _ _ h
   .rw[Oi]at h;exact wpAny_eqBool_str h
 «strs»:=λk x t v h=>by
  rcases jB h with⟨i,u,rfl,e⟩|⟨y,u,rfl,e⟩
  .exact nomatch e
  .injection e with c _;subst c;cases v<;>rfl
def AY prog w i t:(kG prog w).is (.inl i) (.int i t)=true:=FB i t
def Ar prog w x t:(kG prog w).is (.inr x) (.str x t)=true:=EU x t
end L2
namespace L2
open PySem PySem.Spec PyProof.Rows
inductive V where
 |non|bl (b:Bool)|int (i:Int)|str (x:Str)|byt (b:Array UInt8)|flt (b:UInt64)|ref (a:Addr)|ty (n:String)
 deriving DecidableEq
def iH:V->Value->Prop
 |.non,u=>u=Value.none
 |.bl b,u=>u=Value.bool b
 |.int i,u=>∃t,u=Value.int i t
 |.str x,u=>∃t,u=Value.str x t
 |.byt b,u=>∃t,u=Value.bytes b t
 |.flt b,u=>∃t,u=Value.float b t
 |.ref a,u=>u=Value.ref a
 |.ty n,u=>u=Value.type n
abbrev hW:List V->List Value->Prop:=Paired iH
def hW.length(r:hW xs us):xs.length=us.length:=Paired.length r
theorem hW.get:∀{xs:List V} {us:List Vq} {i:Nat} {x:V},hW xs us->xs[i]? = some x->∃u,us[i]? = some u/\iH x u
 |_,_,_,_,.nil,e=>by simp at e
 |_,_,0,_,.cons r _,e=>by simp at e;subst e;exact⟨_,rfl,r⟩
 |_,_,i+1,x,.cons _ t,e=>by obtain⟨u,a,b⟩:=hW.get t (by simpa using e);exact⟨u,by simpa using a,b⟩
theorem hW.set(r:iH x u):∀{xs} {us} i,hW xs us->hW (xs.set i x) (us.set i u)
 |_,_,_,.nil=>.nil
 |_,_,0,.cons _ t=>.cons r t
 |_,_,i+1,.cons q t=>.cons q (hW.set r i t)
theorem hW.append:∀{xs ys} {us ws},hW xs us->hW ys ws->hW (xs++ys) (us++ws)
 |_,_,_,_,.nil,s=>s
 |_,_,_,_,.cons r t,s=>.cons r (hW.append t s)
theorem hW.take:∀{xs} {us} n,hW xs us->hW (xs.take n) (us.take n)
 |_,_,0,_=>.nil
 |_,_,_+1,.nil=>.nil
 |_,_,n+1,.cons r t=>.cons r (hW.take n t)
theorem hW.drop:∀{xs} {us} n,hW xs us->hW (xs.drop n) (us.drop n)
 |_,_,0,r=>r
 |_,_,_+1,.nil=>.nil
 |_,_,n+1,.cons _ t=>hW.drop n t
def uO:Option V->Option Value->Prop
 |some v,some u=>iH v u
 |none,none=>True
 |_,_=>False
def KV{a:Type}:List (a×V)->List (a×Value)->Prop:=Paired λ(p:a×V) (q:a×Value)=>p.1=q.1/\iH p.2 q.2
def kV:pI->V
 |.inl i=>.int i
 |.inr x=>.str x
inductive HO where
 |lst (xs:List V)
 |tup (xs:List V)
 |dK (kvs:List (pI×V))|dT (kvs:List (List pI×V))
 |set (S:Int->Bool) (n:Nat)
 |ins (C dx:Addr) (fs:List (Str×V))
 |own (x:Addr)
 |xd (fs:List (Str×V))
 |met (f x:Addr)
 |rng (lo hi:Int)
 |frz (o:Obj) (u:HO)
 |tbl (q:Str) (ps:Array Vq)
 |ext (φ:Heap->Prop)
abbrev Hp:=Addr->Option HO
noncomputable def ju(H:Hp)(a:Addr)(o:HO):Hp:=λb=>if b=a then some o else H b
def gB:ju H a o a=some o:=by unfold ju;rw[aP rfl]
def gA(h:b≠a):ju H a o b=H b:=by unfold ju;rw[aQ h]
def Re{H:Hp}(h:H a=some o)(c:H b=some u)(d:o≠u):a≠b:=by intro e;subst e;rw[h]at c;exact d (Option.some.inj c)
def hC{H:Hp}(h:H a=some o)(c:H b=none):a≠b:=by intro e;subst e;rw[h]at c;cases c
section
variable (P:Program)(w:World)
def vR(h:Heap)(a:Addr)(items:Array Vq):Prop:=∃o,h.get? a=some o/\o.cls=.type "tuple" /\∃n,o.data=.seq items n/\o.dict=none
def vR.tup(x:vR h a items):IsTup h a items:=let ⟨o,e,c,n,d,_⟩:=x;⟨o,e,c,n,d⟩
def vR.new(h:Heap) items:vR (h.push {cls:=.type "tuple",data:=.seq items}) h.objs.size items:=⟨_,ar _ rfl,rfl,_,rfl,rfl⟩
def Dz:List Vq->List Value
 |_::_::c::r=>c::Dz r
 |_=>[]
def kf(H:Hp)(h:Heap)(a:Addr):HO->Prop
 |.lst xs=>xs.length<=sizeLine/\∃(its:List Vq) (n:Nat),hW xs its/\h.get? a=some {cls:=.type "list",data:=.seq its.toArray n}
 |.tup xs=>xs.length<=sizeLine/\∃its:List Vq,hW xs its/\vR h a its.toArray
 |.dK kvs=>kvs.length<=sizeLine/\(a==sysModules)=false/\∃vs,KV kvs vs/\h.DictOf (kG P w) a vs
 |.dT kvs=>kvs.length<=sizeLine/\(a==sysModules)=false/\∃xs:List (List pI×Addr×Value),
   Paired (λ(p:List pI×V) (q:List pI×Addr×Value)=>p.1=q.1/\H q.2.1=some (.tup (p.1.map kV))/\iH p.2 q.2.2) kvs xs/\
   ∃o d i,h.get? a=some o/\o.ExactDict/\o.data=.dict d i/\d.toList=xs.map (entryOfKey (tupleKind (kG P w)))/\(xs.map (·.1)).Nodup
 |.set S n=>h.SetOf (intKind P w) a S n
 |.ins C dx fs=>H dx=some (.own a)/\fs.length<=1000/\dx≠a/\h.get? a=some (W.instObj C dx)/\
   ∃c,h.Ns1 dx c/\(∀f,uO (fs.lookup f) (c f))/\PySem.Within c (fs.map (·.1))
 |.own _=>∃o,h.get? a=some o
 |.xd fs=>∃c,h.Ns1 a c/\∀f,uO (fs.lookup f) (c f)
 |.rng lo hi=>∃t u v,h.get? a=some {cls:=.type "range",data:=.fields #[.int lo t,.int hi u,.int 1 v]}
 |.frz o u=>h.get? a=some o/\kf H h a u
 |.tbl q ps=>h.get? a=some {cls:=.none,data:=.fields ps}/\TriplesOk ps.toList/\∀v∈Dz ps.toList,∃b,v=.ref b/\H b=some (.own a)/\h.CodeRec (.ref b) q
 |.met f x=>h.get? a=some (W.methodObj (.ref f) (.ref x))
 |.ext φ=>φ h/\(∃o,h.get? a=some o)/\∀g e:Heap,φ g->(∀o,g.get? a=some o->e.get? a=some o)->φ e
def qP(H:Hp)(h:Heap):Prop:=∀a o,H a=some o->kf P w H h a o
end
section
variable {P:Program}{w:World}{H H':Hp}{h h':Heap}{a:Addr}{o:HO}
def kf.lt(x:kf P w H h a o):a<h.objs.size:=by
 cases o with
 |lst xs=>obtain⟨_,_,_,_,e⟩:=x;exact aK e
 |tup xs=>obtain⟨_,_,_,p⟩:=x;exact (vR.tup p).lt
 |dK kvs=>obtain⟨_,_,_,_,o,_,_,e,_⟩:=x;exact aK e
 |dT kvs=>obtain⟨_,_,_,_,o,_,_,e,_⟩:=x;exact aK e
 |set S n=>obtain⟨o,_,_,_,e,_⟩:=x;exact aK e
 |ins C dx fs=>obtain⟨_,_,_,e,_⟩:=x;exact aK e
 |own y=>obtain⟨_,e⟩:=x;exact aK e
 |xd fs=>obtain⟨_,⟨_,_,_,e,_⟩,_⟩:=x;exact aK e
 |rng lo hi=>obtain⟨_,_,_,e⟩:=x;exact aK e
 |frz ob u=>obtain⟨e,_⟩:=x;exact aK e
 |tbl q ps=>exact aK x.1
 |met f y=>exact aK (x)
 |ext φ=>obtain⟨_,⟨_,e⟩,_⟩:=x;exact aK e
theorem Paired.mapP{F G:α->β->Prop}:∀{l₁} {l₂},Paired F l₁ l₂->(∀a b,F a b->G a b)->Paired G l₁ l₂
 |_,_,.nil,_=>.nil
 |_,_,.cons r t,f=>.cons (f _ _ r) (Paired.mapP t f)
def Paired.imp'{F G:α->β->Prop}(f:∀a b,F a b->G a b){c:List α}{d:List β}(r:Paired F c d):Paired G c d:=Paired.mapP r f
theorem kf.stay(x:kf P w H h a o)(k:∀b u,(b=a\/H b=some (.own a))->h.get? b=some u->h'.get? b=some u)
  (F:∀b,H b=some (.own a)->H' b=some (.own a)) (N:∀b xs,H b=some (.tup xs)->H' b=some (.tup xs)):kf P w H' h' a o:=by
 induction o with
 |lst xs=>obtain⟨z,l,n,r,e⟩:=x;exact⟨z,l,n,r,k _ _ (.inl rfl) e⟩
 |tup xs=>obtain⟨z,l,r,g,e,c⟩:=x;exact⟨z,l,r,g,k _ _ (.inl rfl) e,c⟩
 |dK kvs=>obtain⟨z,y,A,r,g,i,j,e,c⟩:=x;exact⟨z,y,A,r,g,i,j,k _ _ (.inl rfl) e,c⟩
 |dT kvs=>obtain⟨z,y,xs,r,g,i,j,e,c⟩:=x;exact⟨z,y,xs,Paired.mapP r λp q z=>⟨z.1,N _ _ z.2.1,z.2.2⟩,g,i,j,k _ _ (.inl rfl) e,c⟩
 |set S n=>obtain⟨g,i,j,t,e,c⟩:=x;exact⟨g,i,j,t,k _ _ (.inl rfl) e,c⟩
 |ins C dx fs=>obtain⟨d,z,ne,e,B,⟨s,i,j,m,c⟩,r⟩:=x;exact⟨F _ d,z,ne,k _ _ (.inl rfl) e,B,⟨s,i,j,k _ _ (.inr d) m,c⟩,r⟩
 |own y=>obtain⟨g,e⟩:=x;exact⟨g,k _ _ (.inl rfl) e⟩
 |xd fs=>obtain⟨B,⟨s,i,j,e,c⟩,r⟩:=x;exact⟨B,⟨s,i,j,k _ _ (.inl rfl) e,c⟩,r⟩
 |rng lo hi=>obtain⟨t,u,v,e⟩:=x;exact⟨t,u,v,k _ _ (.inl rfl) e⟩
 |frz g u ih=>obtain⟨e,q⟩:=x;exact⟨k _ _ (.inl rfl) e,ih q⟩
 |tbl q ps=>obtain⟨e,t,cs⟩:=x;refine⟨k a _ (.inl rfl) e,t,λv K=>?_⟩;obtain⟨b,I,D,c,o,A,Q,J,m,L⟩:=cs v K;cases J;exact⟨_,I,F _ D,_,o,A,Q,rfl,k _ _ (.inr D) m,L⟩
 |met f y=>have e:=x;exact k a _ (.inl rfl) e
 |ext φ=>obtain⟨p,⟨o,e⟩,E⟩:=x;exact⟨E _ _ p λo q=>k _ _ (.inl rfl) q,⟨o,k _ _ (.inl rfl) e⟩,E⟩
def qP.lt(x:qP P w H h)(e:H a=some o):a<h.objs.size:=(x a o e).lt
def qP.fresh(x:qP P w H h)(e:h.objs.size<=a):H a=none:=by
 cases q:H a with
 |none=>rfl
 |some u=>exact absurd (aD (x.lt q) e) (aZ _)
def qP.kept(x:qP P w H h)(k:∀b u,h.get? b=some u->h'.get? b=some u):qP P w H h':=λa o e=>(x a o e).stay (λb u _ q=>k b u q) (λ_ q=>q) λ_ _ q=>q
def qP.laid(x:qP P w H h)(k:∀b u,h.get? b=some u->h'.get? b=some u)(g:h.objs.size<=a)(new:kf P w (ju H a o) h' a o):qP P w (ju H a o) h':=λb u e=>by
 have f:=x.fresh g;by_cases d:b=a
 .subst d;rw[gB]at e;cases e;exact new
 .rw[gA d]at e;exact (x b u e).stay (λc v _ q=>k c v q) (λc q=>by rw[gA (hC q f)];exact q) λc i q=>by rw[gA (hC q f)];exact q
end
def Rd(H:Hp)(a:Addr)(u:HO):Prop:=H a=some u\/∃o,H a=some (.frz o u)
def Rd.ok(r:Rd H a u)(x:qP P w H h):kf P w H h a u:=by
 rcases r with r|⟨o,r⟩
 .exact x a u r
 .obtain⟨_,q⟩:=x a _ r;exact q
def Qb:Option HO->Prop
 |some (.lst _)=>True
 |some (.dK _)=>True
 |some (.dT _)=>True
 |some (.set _ _)=>True
 |some (.ins _ _ _)=>True
 |some (.ext _)=>True
 |_=>False
section
variable {P:Program}{w:World}{H:Hp}{h h':Heap}{x e:Addr}{o':HO}
def qP.write(ok:qP P w H h)(g:Qb (H x))(n:e=x\/H e=some (.own x))(k:∀b u,b≠e->h.get? b=some u->h'.get? b=some u)(m:∃u,h'.get? e=some u)
  (new:kf P w (ju H x o') h' x o'):qP P w (ju H x o') h':=λb u q=>by
 have d:∀c y,H c=some (.own y)->c≠x:=λc y r z=>by subst z;rw[r]at g;exact g
 have f:∀c i,H c=some (.tup i)->c≠x:=λc i r z=>by subst z;rw[r]at g;exact g
 by_cases l:b=x
 .subst l;rw[gB]at q;cases q;exact new
 .rw[gA l]at q;by_cases a:b=e
  .have o:H b=some (.own x):=by
    rcases n with z|z
    .exact absurd (a.trans z) l
    .rw[a];exact z
   rw[q]at o;cases o;obtain⟨v,p⟩:=m;exact⟨v,by rw[a];exact p⟩
  .refine (ok b u q).stay (λc v j r=>k c v ?_ r) (λc r=>by rw[gA (d c b r)];exact r) λc i r=>by rw[gA (f c i r)];exact r
   rcases j with rfl|j
   .exact a
   .rintro rfl;rcases n with z|z
    .exact d c b j z
    .rw[j]at z;cases z;exact l rfl
end
structure Un(fs ex:List Addr)(H H':Hp)(h h':Heap):Prop where
 keep:∀b o,h.get? b=some o->H b=none->b∉fs->b∉ex->h'.get? b=some o
 slot:∀b o,h.get? b=some o->H b=none->b∈fs->b∉ex->∃sl,h'.get? b=some {o with slots:=sl}
 free:∀b o,h.get? b=some o->H b=none->b∉ex->H' b=none
 there:∀b o,h.get? b=some o->b∉ex->∃o',h'.get? b=some o'
 tups:∀b xs,H b=some (.tup xs)->H' b=some (.tup xs)
 frzs:∀b o u,H b=some (.frz o u)->H' b=some (.frz o u)
 tbls:∀b q ps,H b=some (.tbl q ps)->∃more,H' b=some (.tbl q (ps++more))
section
variable {fs fs' ex ex':List Addr}{H H1 H2:Hp}{h h1 h2 h':Heap}{a x e:Addr}{o:HO}
def Un.any(u:Un fs ex H H1 h h1)(q:h.get? b=some ob)(n:H b=none)(d:b∉ex):∃f,h1.get? b=some {ob with slots:=f}:=by
 by_cases c:b∈fs
 .exact u.slot b ob q n c d
 .exact⟨ob.slots,u.keep b ob q n c d⟩
def Un.kept(k:∀b u,h.get? b=some u->h'.get? b=some u):Un fs ex H H h h':=⟨λb c q _ _ _=>k b c q,λb c q _ _ _=>⟨c.slots,k b c q⟩,λ_ _ _ n _=>n,λb c q _=>⟨c,k b c q⟩,λ_ _ q=>q,λ_ _ _ q=>q,λ_ _ d q=>⟨#[],by rw[q];simp⟩⟩
def Un.refl:Un fs ex H H h h:=Un.kept λ_ _ q=>q
def Un.laid(k:∀b u,h.get? b=some u->h'.get? b=some u)(f:h.objs.size<=a)(c:H a=none):Un fs ex H (ju H a o) h h' where
 keep:=λb u q _ _ _=>k b u q
 slot:=λb u q _ _ _=>⟨u.slots,k b u q⟩
 free:=λb u q n _=>by rw[gA (aL (aD (aK q) f))];exact n
 there:=λb u q _=>⟨u,k b u q⟩
 tups:=λb d q=>by rw[gA (hC q c)];exact q
 frzs:=λb u d q=>by rw[gA (hC q c)];exact q
 tbls:=λb _ g q=>⟨#[],by rw[gA (hC q c),q];simp⟩
def Un.write(d:Qb (H x))(p:e=x\/H e=some (.own x))(k:∀b u,b≠e->h.get? b=some u->h'.get? b=some u)(f:∃u,h'.get? e=some u):Un fs ex H (ju H x o) h h':=by
 have j:∀b,H b=none->b≠x:=λb n z=>by subst z;rw[n]at d;exact d
 have i:∀b,H b=none->b≠e:=λb n z=>by
  subst z;rcases p with r|r
  .exact j b n r
  .rw[n]at r;cases r
 have g:∀b u,H b=some u->¬Qb (some u)->b≠x:=λb u q l z=>by subst z;rw[q]at d;exact l d
 refine⟨λb u q n _ _=>k b u (i b n) q,λb u q n _ _=>⟨u.slots,k b u (i b n) q⟩,λb u q n _=>by rw[gA (j b n)];exact n,λb u q _=>?_,
  λb m q=>by rw[gA (g b _ q λz=>z)];exact q,λb u m q=>by rw[gA (g b _ q λz=>z)];exact q,λb _ s q=>⟨#[],by rw[gA (g b _ q λz=>z),q];simp⟩⟩
 by_cases c:b=e
 .subst c;exact f
 .exact⟨u,k b u c q⟩
end
noncomputable def Rp(h:Heap)(H:Hp):List Addr:=(List.range h.objs.size).filter λa=>(H a).isSome
def G4(h:Heap)(H:Hp):Heap:=W.hideAll h (Rp h H)
def Fs h H:(G4 h H).objs.size=h.objs.size:=W.hideAll_size _ _
def HS(e:h.get? b=some o)(n:H b=none):(G4 h H).get? b=some o:=W.hideAll_get _ e λa=>by have q:=(aT.mp a).2;rw[n]at q;simp at q
def Ks(e:(G4 h H).get? b=some o):h.get? b=some o/\H b=none:=by
 have a:=W.of_hideAll (Rp h H) e;refine⟨a,?_⟩;cases q:H b with
 |none=>rfl
 |some x=>have c:b∈Rp h H:=aT.mpr ⟨aR.mpr (aK a),by simp[q]⟩;have z:(G4 h H).get? b=none:=W.hideAll_none (Rp h H) c;rw[z]at e;cases e
end L2
namespace L2
open PySem PySem.Spec PyProof.Rows
structure Mod(K:W.Frag)(mg:Str->Option Value)(base:Heap):Prop where
 kin:K.In base
 glob:base.Ns mainGlobals mg
 blt:∃mb,base.Ns builtinsNs mb/\∀x:Str,x≠ "__name__" ->mb x=bootBuiltins x
 nolimit:base.NoLimit
def Gs(a:Heap)(H:Hp):Prop:=∀c P b,(c,P)∈a.life.ids->a.CodeRec (.ref c) b->∃d,H P=some (.tbl (b++ ".<locals>.<lambda>") d)
structure Cx where
 prog:Program
 w:World
 K:W.Frag
 mg:Str->Option Value
 base:Heap
 A:Around
 N:List Str
 s₀:Shared
 H₀:Hp
 env:Env
 outer:List Env
 stack:List Env
 ex:List Addr
 fn:Str->Bool
 calm:Bool
 pn:List (Addr×Obj)
 xe:Vq->Shared->Prop
noncomputable def Fd(l:List Env):List Addr:=l.filterMap (·.frame)
abbrev Cx.fs(X:Cx):List Addr:=Fd X.outer
def PJ(a:Scope)(x:Str):Prop:=a.names.lookup x=some .local\/a.names.lookup x=some .cell\/a.names.lookup x=some .free
def EB(a:Scope)(x:Str):Prop:=a.names.lookup x=some .local\/a.names.lookup x=some .cell
def R1(a:Env)(h:Heap)(m:Str->Option Value)(x:Str)(u:Vq):Prop:=(a.kindOf x=some .local/\m x=some u)\/((a.kindOf x=some .cell\/a.kindOf x=some .free)/\∃c,a.cells.lookup x=some c/\h.IsCell c (some u))
structure Cx.Ok(X:Cx):Prop where
 mod:Mod X.K X.mg X.base
 kind:X.env.scope.kind=.function
 glob:X.env.globals=mainGlobals
 blt:X.env.builtins=builtinsNs
 above:X.s₀.heap.objs.size<=X.env.locals
 inj:∀x y c,X.env.cells.lookup x=some c->X.env.cells.lookup y=some c->x=y
 has:∀x,(X.env.kindOf x=some .cell\/X.env.kindOf x=some .free)->∃c,X.env.cells.lookup x=some c
 cab:∀x c,X.fn x=true->X.env.cells.lookup x=some c->X.s₀.heap.objs.size<=c
 hd:X.calm=true->X.A.handled=none
 frames:X.A.frames=some X.stack
 stk:X.stack=X.outer\/(X.stack=X.env::X.outer/\X.env.frame=some X.env.locals)
 exf:∀b∈X.ex,b≠X.env.locals/\∀x c,X.env.cells.lookup x=some c->c≠b
 bs:∀b o,X.base.get? b=some o->X.s₀.heap.get? b=some o/\X.H₀ b=none
 bsz:X.base.objs.size<=X.s₀.heap.objs.size
 noex:∀b o,X.base.get? b=some o->b∉X.ex
 exfs:∀b∈X.ex,b∉X.fs
 funs:X.s₀.heap.FunFrames X.base X.outer
 frf:∀b∈X.fs,X.H₀ b=none
 tab:Gs X.base X.H₀
structure gJ(X:Cx)(fT:List (Addr×Obj))(σ:List (Option V))(H:Hp)(s:Shared):Prop where
 ok:X.Ok
 os:s.os=X.s₀.os
 bare:AllBare s.gens
 base:Un X.fs X.ex X.H₀ H X.s₀.heap s.heap
 loc:∃m,s.heap.Ns X.env.locals m/\∀(i:Nat) (x:Str) (v:V),X.N[i]? = some x->σ[i]? = some (some v)->PJ X.env.scope x->∃u,iH v u/\R1 X.env s.heap m x u
 cell:∀x c,X.env.cells.lookup x=some c->∃v,s.heap.IsCell c v
 free:H X.env.locals=none
 freeC:∀x c,X.env.cells.lookup x=some c->H c=none
 pin:∀p∈X.pn++fT,s.heap.get? p.1=some p.2/\H p.1=none/\p.1≠X.env.locals/\p.1∉X.fs/\∀v,p.2.data≠.cell v
 hok:qP X.prog X.w H s.heap
 len:σ.length=X.N.length
section
variable {X:Cx}{fT:List (Addr×Obj)}{σ:List (Option V)}{H H':Hp}{s:Shared}{h':Heap}
def Cx.Ok.nofr(ok:X.Ok)(e:X.base.get? b=some o):b∉X.fs:=λa=>by have:=(ok.funs.mem a).1;rw[e]at this;cases this
def gJ.bs(I:gJ X fT σ H s):∀b o,X.base.get? b=some o->s.heap.get? b=some o/\H b=none:=λb o e=>⟨I.base.keep b o (I.ok.bs b o e).1 (I.ok.bs b o e).2 (I.ok.nofr e) (I.ok.noex b o e),I.base.free b o (I.ok.bs b o e).1 (I.ok.bs b o e).2 (I.ok.noex b o e)⟩
def gJ.tab(I:gJ X fT σ H s):Gs X.base H:=λc P d a b=>let ⟨ps,e⟩:=I.ok.tab c P d a b;let ⟨more,q⟩:=I.base.tbls _ _ ps e;⟨ps++more,q⟩
def gJ.bk(I:gJ X fT σ H s):∀b o,X.base.get? b=some o->s.heap.get? b=some o:=λb o e=>(I.bs b o e).1
def gJ.mod(I:gJ X fT σ H s):Mod X.K X.mg X.base:=I.ok.mod
def gJ.kIn(I:gJ X fT σ H s):X.K.In s.heap:=I.ok.mod.kin.keeps I.bk
def gJ.lt(I:gJ X fT σ H s):X.env.locals<s.heap.objs.size:=let ⟨_,hn,_⟩:=I.loc;hn.lt
def gJ.sz(I:gJ X fT σ H s):X.s₀.heap.objs.size<=s.heap.objs.size:=aM I.ok.above (bh I.lt)
def gJ.nofs(I:gJ X fT σ H s)(h:s.heap.objs.size<=a):a∉X.fs:=λc=>by obtain⟨_,o,b,_⟩:=I.ok.funs.mem c;exact absurd (aD (aK b) (aM I.sz h)) (aZ _)
def gJ.cne(I:gJ X fT σ H s):∀x c,X.env.cells.lookup x=some c->c≠X.env.locals:=λx c e z=>by obtain⟨v,o,d,f⟩:=I.cell x c e;obtain⟨m,⟨h,g,i,a,b,_⟩,_⟩:=I.loc;rw[z,a]at d;cases d;rw[b]at f;cases f
def gJ.funs(I:gJ X fT σ H s):s.heap.FunFrames X.base X.outer:=by
 have all:∀(l:List Env),(∀b∈Fd l,b∈X.fs)->X.s₀.heap.FunFrames X.base l->s.heap.FunFrames X.base l:=by
  intro l;induction l with
  |nil=>intro _ _;trivial
  |cons env r ih=>intro f i;obtain⟨g,⟨L,o,c,h,j,k⟩,hr⟩:=i;have a:=f L (by unfold Fd;rw[bj,c];exact bu);obtain⟨m,e⟩:=I.base.slot L o j (I.ok.frf L a) a λz=>I.ok.exfs L z a;exact⟨g,⟨L,_,c,h,e,k⟩,ih (λb d=>f b (by unfold Fd;rw[bj,c];exact bx _ d)) hr⟩
 exact all X.outer (λ_ d=>d) I.ok.funs
def gJ.stack(I:gJ X fT σ H s):s.heap.FunFrames X.base X.stack:=by
 rcases I.ok.stk with e|⟨e,b⟩
 .rw[e];exact I.funs
 .rw[e];obtain⟨m,a,_⟩:=I.loc;refine .cons (by rw[I.ok.kind];decide) b a ?_ I.funs;exact Heap.get?_none_of_le (aM I.ok.bsz I.ok.above)
def gJ.stkSub(I:gJ X fT σ H s):∀b∈Fd X.stack,b∈X.env.locals::X.fs:=λb a=>by
 rcases I.ok.stk with e|⟨e,c⟩
 .rw[e]at a;exact bx _ a
 .rw[e]at a;unfold Fd at a;rw[bj,c]at a;exact a
def gJ.stkFree(I:gJ X fT σ H s):∀b∈Fd X.stack,H b=none:=λb a=>by
 rcases aE.mp (I.stkSub b a) with e|a
 .rw[e];exact I.free
 .obtain⟨_,o,c,_⟩:=I.ok.funs.mem a;exact I.base.free b o c (I.ok.frf b a) λz=>I.ok.exfs b z a
def gJ.step{ch:List Addr}(I:gJ X fT σ H s)
  (g:∀b∈ch,(b∈X.ex\/X.s₀.heap.objs.size<=b)/\b≠X.env.locals/\(∀x c,X.env.cells.lookup x=some c->c≠b)/\∀p∈X.pn++fT,p.1≠b)
  (keep:∀b o,b≠X.env.locals->b∉X.fs->b∉ch->s.heap.get? b=some o->H b=none->h'.get? b=some o)
  (B:∀b o,b≠X.env.locals->b∈X.fs->b∉ch->s.heap.get? b=some o->H b=none->∃U,h'.get? b=some {o with slots:=U}) (f:∀b o,b∉ch->s.heap.get? b=some o->H b=none->H' b=none)
  (D:∀b o,b∉ch->s.heap.get? b=some o->∃F,h'.get? b=some F)
  (K:∀b xs,H b=some (.tup xs)->H' b=some (.tup xs)) (P:∀b o u,H b=some (.frz o u)->H' b=some (.frz o u)) (N:∀b q R,H b=some (.tbl q R)->∃Q,H' b=some (.tbl q (R++Q)))
  (ns:∀m,s.heap.Ns X.env.locals m->h'.Ns X.env.locals m) (Y:qP X.prog X.w H' h') (hg:AllBare g') :
  gJ X fT σ H' {s with heap:=h',gens:=g',drawn:=d',toks:=t'}:=by
 have J:∀b o,X.s₀.heap.get? b=some o->b≠X.env.locals:=λb o e=>aL (aD (aK e) I.ok.above);have A:∀b o,X.s₀.heap.get? b=some o->b∉X.ex->b∉ch:=λb o e a C=>by
  rcases (g b C).1 with z|z
  .exact a z
  .exact absurd (aD (aK e) z) (aZ _)
 have h:∀x c,X.env.cells.lookup x=some c->∀v,s.heap.IsCell c v->h'.IsCell c v:=λx c e v ⟨o,E,Z⟩=>by
  have j:c∉ch:=λz=>(g c z).2.2.1 x c e rfl;by_cases hc:c∈X.fs
  .obtain⟨U,q⟩:=B c o (I.cne x c e) hc j E (I.freeC x c e);exact⟨_,q,Z⟩
  .exact⟨o,keep c o (I.cne x c e) hc j E (I.freeC x c e),Z⟩
 refine⟨I.ok,I.os,hg,⟨λb o e n C a=>?_,λb o e n C a=>?_,λb o e n a=>?_,λb o e a=>?_,λb xs e=>K b xs (I.base.tups b xs e),λb o xs e=>P b o xs (I.base.frzs b o xs e),λb _ R e=>?_⟩,?_,λx c e=>?_,?_,λx c e=>?_,λp hp=>?_,Y,I.len⟩
 .exact keep b o (J b o e) C (A b o e a) (I.base.keep b o e n C a) (I.base.free b o e n a)
 .obtain⟨U,y⟩:=I.base.slot b o e n C a;obtain⟨S,L⟩:=B b _ (J b o e) C (A b o e a) y (I.base.free b o e n a);exact⟨S,L⟩
 .obtain⟨F,y⟩:=I.base.there b o e a;exact f b F (A b o e a) y (I.base.free b o e n a)
 .obtain⟨F,y⟩:=I.base.there b o e a;exact D b F (A b o e a) y
 .obtain⟨m1,y⟩:=I.base.tbls b _ R e;obtain⟨m2,L⟩:=N b _ _ y;exact⟨m1++m2,by rw[L,bz]⟩
 .obtain⟨m,hn,hl⟩:=I.loc;refine⟨m,ns m hn,λi x v y L e3=>?_⟩;obtain⟨u,r,l⟩:=hl i x v y L e3;refine⟨u,r,?_⟩;rcases l with l|⟨k,c,e,z⟩
  .exact .inl l
  .exact .inr ⟨k,c,e,h x c e _ z⟩
 .obtain⟨v,z⟩:=I.cell x c e;exact⟨v,h x c e v z⟩
 .obtain⟨m,⟨o,_,_,E,_⟩,_⟩:=I.loc;exact f _ o (λz=>(g _ z).2.1 rfl) E I.free
 .obtain⟨v,o,E,Z⟩:=I.cell x c e;exact f c o (λz=>(g c z).2.2.1 x c e rfl) E (I.freeC x c e)
 .obtain⟨e,n,ne,nf,d⟩:=I.pin p hp;have j:p.1∉ch:=λz=>(g p.1 z).2.2.2 p hp rfl;exact⟨keep p.1 p.2 ne nf j e n,f p.1 p.2 j e n,ne,nf,d⟩
def gJ.un(I:gJ X fT σ H s)(u:Un X.fs [] H H' s.heap h')(f:qP X.prog X.w H' h'):gJ X fT σ H' {s with heap:=h',toks:=t'}:=by obtain⟨m,⟨o,l,x,h,r⟩,_⟩:=id I.loc;obtain⟨v,j⟩:=u.any h I.free (by simp);exact I.step (ch:=[]) (λ_ z=>nomatch z) (λb o _ d _ e n=>u.keep b o e n d (by simp)) (λb o _ d _ e n=>u.slot b o e n d (by simp)) (λb o _ e n=>u.free b o e n (by simp)) (λb o _ e=>u.there b o e (by simp)) u.tups u.frzs u.tbls (λq i=>by obtain⟨p,c,g,a,k⟩:=i;rw[h]at a;cases a;exact⟨_,c,g,j,k⟩) f I.bare
def gJ.call(I:gJ X fT σ H s)(u:Un (Fd X.stack) ch H H' s.heap h')(i:qP X.prog X.w H' h')(y:AllBare g')
  (f:∀b∈ch,(b∈X.ex\/X.s₀.heap.objs.size<=b)/\b≠X.env.locals/\(∀x c,X.env.cells.lookup x=some c->c≠b)/\∀p∈X.pn++fT,p.1≠b) :
  gJ X fT σ H' {s with heap:=h',gens:=g',drawn:=d',toks:=t'}:=by
 obtain⟨m,⟨o,A,E,k,r⟩,_⟩:=id I.loc;obtain⟨D,g⟩:=u.any k I.free λz=>(f _ z).2.1 rfl;exact I.step f (λb o g q a e n=>u.keep b o e n (λz=>(aE.mp (I.stkSub b z)).elim g q) a) (λb o _ _ a e n=>u.any e n a) (λb o a e n=>u.free b o e n a) (λb o a e=>u.there b o e a) u.tups u.frzs u.tbls (λC l=>by obtain⟨B,h,j,d,v⟩:=l;rw[k]at d;cases d;exact⟨_,h,j,g,v⟩) i y
def gJ.turned(I:gJ X fT σ H s)(k:∀b o,b≠it->s.heap.get? b=some o->h'.get? b=some o)(i:H it=none)(f:it≠X.env.locals)
  (A:it∈X.ex\/X.s₀.heap.objs.size<=it) (l:∀x c,X.env.cells.lookup x=some c->c≠it) (w:∀p∈X.pn++fT,p.1≠it):gJ X fT σ H {s with heap:=h',toks:=t'}:=by
 have d:∀b u,H b=some u->b≠it:=λb u e z=>by rw[z,i]at e;cases e
 refine I.step (ch:=[it]) (λb j=>?_) (λb o _ _ a e _=>k b o (λz=>a (by simp[z])) e) (λb o _ _ a e _=>⟨o.slots,k b o (λz=>a (by simp[z])) e⟩) (λ_ _ _ _ n=>n)
  (λb o a e=>⟨o,k b o (λz=>a (by simp[z])) e⟩) (λ_ _ e=>e) (λ_ _ _ e=>e) (λb _ C e=>⟨#[],by rw[e];simp⟩) (λm h=>?_) (λb u e=>?_) I.bare
 .have e:b=it:=by simpa using j
  subst e;exact⟨A,f,l,w⟩
 .obtain⟨o,g,B,y,r⟩:=h;exact⟨o,g,B,k _ o (Ne.symm f) y,r⟩
 .refine (I.hok b u e).stay (λc v a q=>k c v ?_ q) (λ_ q=>q) λ_ _ q=>q;rcases a with z|z
  .rw[z];exact d b u e
  .exact d c _ z
def gJ.tok(I:gJ X fT σ H s) t:gJ X fT σ H {s with toks:=t}:=I.un Un.refl I.hok
def gJ.kept(I:gJ X fT σ H s)(k:∀b u,s.heap.get? b=some u->h'.get? b=some u):gJ X fT σ H {s with heap:=h',toks:=t'}:=I.un (Un.kept k) (I.hok.kept k)
def gJ.laid(I:gJ X fT σ H s)(k:∀b u,s.heap.get? b=some u->h'.get? b=some u)(c:s.heap.objs.size<=a)(new:kf X.prog X.w (ju H a o) h' a o) :
  gJ X fT σ (ju H a o) {s with heap:=h',toks:=t'}:=I.un (Un.laid k c (I.hok.fresh c)) (I.hok.laid k c new)
def gJ.write(I:gJ X fT σ H s)(c:Qb (H x))(d:e=x\/H e=some (.own x))(k:∀b u,b≠e->s.heap.get? b=some u->h'.get? b=some u)(a:∃u,h'.get? e=some u)
  (new:kf X.prog X.w (ju H x o) h' x o):gJ X fT σ (ju H x o) {s with heap:=h',toks:=t'}:=I.un (Un.write c d k a) (I.hok.write c d k a new)
def gJ.weak(I:gJ X fT σ H s)(b:σ'.length=σ.length)(w:∀(i:Nat) v,σ'[i]? = some (some v)->σ[i]? = some (some v)):gJ X fT σ' H s:=⟨I.ok,I.os,I.bare,I.base,let ⟨m,hn,hl'⟩:=I.loc;⟨m,hn,λi x v c d a=>hl' i x v c (w i v d) a⟩,I.cell,I.free,I.freeC,I.pin,I.hok,b.trans I.len⟩
def gJ.pins_of(I:gJ X fT σ H s)(h:∀p∈pins',s.heap.get? p.1=some p.2/\H p.1=none/\p.1≠X.env.locals/\p.1∉X.fs/\∀v,p.2.data≠.cell v):gJ X pins' σ H s:=⟨I.ok,I.os,I.bare,I.base,I.loc,I.cell,I.free,I.freeC,λp a=>(ai.mp a).elim (λz=>I.pin p (ax _ z)) (h p),I.hok,I.len⟩
def Au{N:List Str}(d:N.Nodup){i j:Nat}(a:N[i]? = some x)(b:N[j]? = some x):i=j:=by obtain⟨f,c⟩:=aa.mp a;obtain⟨g,e⟩:=aa.mp b;exact (List.getElem_inj d).mp (c.trans e.symm)
def yl{M:Model}{A:Around}{E:Vq->Shared->Prop}{i:Nat}{x:Str}{v:V}{u:Vq}{Q:Unit->Shared->Prop}(I:gJ X fT σ H s)(hN:X.N.Nodup)(Y:X.N[i]? = some x)(B:EB X.env.scope x)(r:iH v u)
  (h:∀s',gJ X fT (σ.set i (some v)) H s'->(∃a,Heap.SameBut a s.heap s'.heap/\(a=X.env.locals\/X.env.cells.lookup x=some a))->Q () s') (hf:X.fn x=true\/X.env.scope.names.lookup x=some .local:=by first|exact .inl rfl|exact .inr rfl|assumption):wpAny M A (storeName X.env x u) Q E s:=by
 obtain⟨m,hn,hl⟩:=id I.loc;have S:(X.env.scope.kind==.class||(X.env.scope.kind==.module&&X.env.locals != X.env.globals))=false:=by rw[I.ok.kind];rfl
 have J:i<σ.length:=by rw[I.len];exact (aa.mp Y).1
 have cne:=I.cne;have tracked:∀{a:Addr} {h':Heap},(∃o,s.heap.get? a=some o/\H a=none)->Heap.SameBut a s.heap h'->qP X.prog X.w H h':=λ{a h'} ha f b ob e=>by
  obtain⟨_,_,C⟩:=ha;refine (I.hok b ob e).stay (λc w' l q=>(f.2 c ?_).trans q) (λ_ q=>q) λ_ _ q=>q;rintro rfl;rcases l with rfl|l
  .rw[C]at e;cases e
  .rw[C]at l;cases l
 rcases B with F|F
 .refine wpAny_storeName_local F hn (λh' hn' f=>?_) S;obtain⟨oL,_,_,hoL,_⟩:=id hn;refine h _ ⟨I.ok,I.os,I.bare,⟨λb o e n K B=>?_,λb o e n K B=>?_,I.base.free,λb o e B=>?_,I.base.tups,I.base.frzs,I.base.tbls⟩,⟨_,hn',λj y v' g D e3=>?_⟩,λy c e=>?_,I.free,I.freeC,λp hp=>?_,tracked ⟨oL,hoL,I.free⟩ f,by simpa using I.len⟩ ⟨_,f,.inl rfl⟩
  .exact (f.2 b (aL (aD (aK e) I.ok.above))).trans (I.base.keep b o e n K B)
  .obtain⟨sl,g⟩:=I.base.slot b o e n K B;exact⟨sl,(f.2 b (aL (aD (aK e) I.ok.above))).trans g⟩
  .obtain⟨o',g⟩:=I.base.there b o e B;exact⟨o',(f.2 b (aL (aD (aK e) I.ok.above))).trans g⟩
  .by_cases L:j=i
   .subst L;rw[Y]at g;cases g;rw[List.getElem?_set_self J]at D;cases D;exact⟨u,r,.inl ⟨F,by simp⟩⟩
   .rw[aq (Ne.symm L)]at D;obtain⟨u',r',q⟩:=hl j y v' g D e3;refine⟨u',r',?_⟩;rcases q with⟨k,e⟩|⟨k,c,e,z⟩
    .refine .inl ⟨k,?_⟩;have:y≠x:=λe=>L (Au hN g (e▸Y));simp[this,e]
    .exact .inr ⟨k,c,e,z.sameBut f (cne y c e)⟩
  .obtain⟨w',z⟩:=I.cell y c e;exact⟨w',z.sameBut f (cne y c e)⟩
  .obtain⟨e,n,ne,nf,d⟩:=I.pin p hp;exact⟨(f.2 p.1 ne).trans e,n,ne,nf,d⟩
 .have P:X.fn x=true:=by
   rcases hf with z|z
   .exact z
   .rw[z]at F;cases F
  obtain⟨c,l⟩:=I.ok.has x (.inl F);obtain⟨w',z⟩:=I.cell x c l;refine wpAny_storeName_cell I.ok.kind F l z (λh' hc' f=>?_);obtain⟨oc,U,R⟩:=id z;refine h {s with heap:=h'} ⟨I.ok,I.os,I.bare,⟨λb o e n K B=>?_,λb o e n K B=>?_,I.base.free,λb o e B=>?_,I.base.tups,I.base.frzs,I.base.tbls⟩,⟨m,hn.sameBut f (Ne.symm (cne x c l)),λj y v' g D e3=>?_⟩,λy c' e=>?_,I.free,I.freeC,λp hp=>?_,tracked ⟨oc,U,I.freeC x c l⟩ f,by simpa using I.len⟩ ⟨c,f,.inr l⟩
  .exact (f.2 b (aL (aD (aK e) (I.ok.cab x c P l)))).trans (I.base.keep b o e n K B)
  .obtain⟨sl,g⟩:=I.base.slot b o e n K B;exact⟨sl,(f.2 b (aL (aD (aK e) (I.ok.cab x c P l)))).trans g⟩
  .obtain⟨o',g⟩:=I.base.there b o e B;exact⟨o',(f.2 b (aL (aD (aK e) (I.ok.cab x c P l)))).trans g⟩
  .by_cases L:j=i
   .subst L;rw[Y]at g;cases g;rw[List.getElem?_set_self J]at D;cases D;exact⟨u,r,.inr ⟨.inl F,c,l,hc'⟩⟩
   .rw[aq (Ne.symm L)]at D;obtain⟨u',r',q⟩:=hl j y v' g D e3;refine⟨u',r',?_⟩;rcases q with q|⟨k,c',e,z'⟩
    .exact .inl q
    .refine .inr ⟨k,c',e,z'.sameBut f ?_⟩;rintro rfl;exact L (Au hN g (I.ok.inj _ _ _ e l▸Y))
  .by_cases Z:c'=c
   .subst Z;exact⟨_,hc'⟩
   .obtain⟨w2,z2⟩:=I.cell y c' e;exact⟨w2,z2.sameBut f Z⟩
  .obtain⟨e,n,ne,nf,d⟩:=I.pin p hp;refine⟨(f.2 p.1 ?_).trans e,n,ne,nf,d⟩;intro q;rw[q,U]at e;have q':=Option.some.inj e;exact d w' (by rw[<-q'];exact R)
def sS{M:Model}{A:Around}{E:Vq->Shared->Prop}{i:Nat}{x:Str}{v:V}{u:Vq}{Q:Unit->Shared->Prop}(I:gJ X fT σ H s)(d:X.N.Nodup)(c:X.N[i]? = some x)(f:EB X.env.scope x)(r:iH v u)
  (h:∀a,gJ X fT (σ.set i (some v)) H a->Q () a) (b:X.fn x=true\/X.env.scope.names.lookup x=some .local:=by first|exact .inl rfl|exact .inr rfl|assumption):wpAny M A (storeName X.env x u) Q E s:=
 yl I d c f r (λa e _=>h a e) b
def gJ.call'(I:gJ X fT σ H s)(f:s'.os=s.os)(u:Un (Fd X.stack) ch H H' s.heap s'.heap)(a:qP X.prog X.w H' s'.heap)(g:AllBare s'.gens)
  (d:∀b∈ch,(b∈X.ex\/X.s₀.heap.objs.size<=b)/\b≠X.env.locals/\(∀x c,X.env.cells.lookup x=some c->c≠b)/\∀p∈X.pn++fT,p.1≠b):gJ X fT σ H' s':=by
 obtain⟨h',i,j,k,h⟩:=s';have e:=f;subst e;exact I.call u a g d
end
abbrev XK:=Value->Option Addr->Hp->Prop
abbrev St:=List (Option V)
abbrev VK:=V->Hp->Prop
abbrev TE:=St->Hp->VK->Prop
abbrev TT:=St->Hp->(Bool->Hp->Prop)->Prop
abbrev TA:=St->Hp->(List V->Hp->Prop)->Prop
structure ud where
 nx:St->Hp->Prop
 rt:VK
 bk:St->Hp->Prop:=λ_ _=>False
 ct:St->Hp->Prop:=λ_ _=>False
abbrev TS:=ud->St->Hp->Prop
def EP(X:Cx)(b:List (Addr×Obj))(d:St)(Q:VK)(u:Vq)(c:Shared):Prop:=∃v a,gJ X b d a c/\iH v u/\Q v a
def TP(X:Cx)(c:List (Addr×Obj))(e:St)(Q:Bool->Hp->Prop)(b:Bool)(d:Shared):Prop:=∃a,gJ X c e a d/\Q b a
def AP(X:Cx)(c:List (Addr×Obj))(e:St)(Q:List V->Hp->Prop)(us:List Vq)(d:Shared):Prop:=∃a b,gJ X c e b d/\hW a us/\Q a b
def SP(X:Cx)(c:List (Addr×Obj))(D:ud)(f:Flow)(d:Shared):Prop:=
 match f with
 |.next=>∃a b,gJ X c a b d/\D.nx a b
 |.brk=>∃a b,gJ X c a b d/\D.bk a b
 |.cont=>∃a b,gJ X c a b d/\D.ct a b
 |.ret u=>∃v a b,gJ X c a b d/\iH v u/\D.rt v b
def PE(X:Cx)(e:Expr)(t:TE):Prop:=∀(b:List (Addr×Obj)) (s:Shared) (a:St) (H:Hp) (Q:VK),gJ X b a H s->t a H Q->wpAny (model X.prog X.w) X.A (eval e X.env) (EP X b a Q) X.xe s
def PT(X:Cx)(e:Expr)(t:TT):Prop:=∀(b:List (Addr×Obj)) (s:Shared) (a:St) (H:Hp) (Q:Bool->Hp->Prop),gJ X b a H s->t a H Q->wpAny (model X.prog X.w) X.A (isTrue e X.env (eval e X.env)) (TP X b a Q) X.xe s
def PW(X:Cx)(e:Expr)(t:TT):Prop:=∀(a:Sem Vq) (c:List (Addr×Obj)) (s:Shared) (b:St) (H:Hp) (Q:Bool->Hp->Prop),gJ X c b H s->t b H Q->wpAny (model X.prog X.w) X.A (isTrue e X.env a) (TP X c b Q) X.xe s
def PW.pt(h:PW X e t):PT X e t:=h _
def PA(X:Cx)(c:List Expr)(t:TA):Prop:=∀(pos:Pos) (b:List (Addr×Obj)) (s:Shared) (a:St) (H:Hp) (Q:List V->Hp->Prop),gJ X b a H s->t a H Q->wpAny (model X.prog X.w) X.A (spliced (backTo pos (starEach c X.env))) (AP X b a Q) X.xe s
def PS(X:Cx)(st:Stmt)(t:TS):Prop:=∀(a:List (Addr×Obj)) (s:Shared) (b:St) (H:Hp) (D:ud),gJ X a b H s->t D b H->wpAny (model X.prog X.w) X.A (exec st X.env) (SP X a D) X.xe s
def Ak(X:Cx)(st:List Stmt)(t:TS):Prop:=∀(a:List (Addr×Obj)) (s:Shared) (b:St) (H:Hp) (D:ud),gJ X a b H s->t D b H->wpAny (model X.prog X.w) X.A (execs st X.env) (SP X a D) X.xe s
def jU{c:Type}{t:Sem c}{Q b:c->Shared->Prop}{M:Model}{A:Around}{E:Vq->Shared->Prop}{s:Shared}(h:wpAny M A t Q E s)(d:∀a s,Q a s->b a s):wpAny M A t b E s:=wpAny_mono h d λ_ _ x=>x
end L2
namespace L2
open PySem PySem.Spec PyProof.Rows
section
variable {X:Cx}
def lQ(i:Nat):TE:=λa H Q=>∃v,a[i]? = some (some v)/\Q v H
def tC(v:V):TE:=λ_ H Q=>Q v H
def Pf(w:X.N[i]? = some x)(o:PJ X.env.scope x)(g:(x==("__debug__" : Str))=false:=by decide)(f:(x==("__classdict__" : Str))=false:=by decide):PE X (.Name x pos) (lQ i):=by
 intro n s y H Q I h;obtain⟨v,e,h⟩:=h;obtain⟨m,p,q⟩:=I.loc;obtain⟨u,r,l⟩:=q i x v w e o;have d:EP X n y Q u s:=⟨v,H,I,r,h⟩;rcases l with⟨b,k⟩|⟨b,c,j,a⟩
 .exact wpAny_Name (wpAny_loadName_local I.ok.kind b p k d) g
 .rcases b with b|b
  .exact wpAny_Name (wpAny_loadName_cell I.ok.kind b j a d) g
  .exact wpAny_Name (wpAny_loadName_free I.ok.kind b j a d f) g
def B0{i j pos}:PE X (.Constant (.int i) j pos) (tC (.int i)):=λ_ _ _ H _ I h=>wpAny_Constant_int ⟨.int i,H,I.tok _,⟨_,rfl⟩,h⟩
def Rc{b j pos}:PE X (.Constant (.bool b) j pos) (tC (.bl b)):=λ_ _ _ H _ I h=>Constant_bool ⟨.bl b,H,I,rfl,h⟩
def Oc{j pos}:PE X (.Constant .none j pos) (tC .non):=λ_ _ _ H _ I h=>Constant_none ⟨.non,H,I,rfl,h⟩
def Nw{x j pos}:PE X (.Constant (.str x) j pos) (tC (.str x)):=λ_ _ _ H _ I h=>Calls.Constant_str ⟨.str x,H,I.tok _,⟨_,rfl⟩,h⟩
def Gl(X:Cx)(x:Str):Prop:=X.env.kindOf x=some .globalImplicit
def zJ(I:gJ X fT σ H s)(c:Gl X x)(a:X.mg x=some u)(h:Q u s)
  (b:(x==("__debug__" : Str))=false:=by decide):wpAny (model X.prog X.w) X.A (eval (.Name x pos) X.env) Q E s:=
 Calls.Name_function_global I.ok.kind c (Calls.loadGlobal_global (by rw[I.ok.glob];exact I.mod.glob.keeps I.bk) a h) b
def oP(I:gJ X fT σ H s)(c:Gl X x)(a:X.mg x=none)(d:bootBuiltins x=some u)(h:Q u s)
  (e:x≠ "__name__" :=by decide) (b:(x==("__debug__" : Str))=false:=by decide):wpAny (model X.prog X.w) X.A (eval (.Name x pos) X.env) Q E s:=by
 obtain⟨i,f,g⟩:=I.mod.blt;exact Calls.Name_function_global I.ok.kind c (Calls.loadGlobal_builtin (by rw[I.ok.glob];exact I.mod.glob.keeps I.bk) a (by rw[I.ok.blt];exact f.keeps I.bk) ((g x e).trans d) h) b
def LJ(c:Gl X x)(a:X.mg x=some u)(r:iH v u)(b:(x==("__debug__" : Str))=false:=by decide):PE X (.Name x pos) (tC v):=λ_ _ _ H _ I h=>zJ I c a ⟨v,H,I,r,h⟩ b
def LM(c:Gl X x)(a:X.mg x=none)(d:bootBuiltins x=some u)(r:iH v u)(e:x≠ "__name__" :=by decide)(b:(x==("__debug__" : Str))=false:=by decide):PE X (.Name x pos) (tC v):=λ_ _ _ H _ I h=>oP I c a d ⟨v,H,I,r,h⟩ e b
variable {a b:Expr}{ta tb:TE}{pos:Pos}
def tB(t:TE):TT:=λe H Q=>t e H λx d=>∃c,x=.bl c/\Q c d
def Oo(h:PE X e t)(g:∀c,isTrue e X.env c=(do let v <-c;standAt e.pos;holding [v] (truthy v)):=by intro _;rfl):PT X e (tB t):=by intro f s i H Q I hw;refine isTrue_plain (jU (h f s i H _ I hw) λv s1 ⟨x,H1,I1,r1,q1⟩=>?_) (g _);obtain⟨d,rfl,q⟩:=q1;cases r1;exact wpAny_truthy_bool ⟨H1,I1,q⟩
variable {tA tB':TT}{mV:List Expr}
def Nk(t u:TT):TT:=λe H Q=>t e H λc d=>if c=true then u e d Q else Q false d
def RO(t u:TT):TT:=λe H Q=>t e H λc d=>if c=true then Q true d else u e d Q
def NX(t:TT):TT:=λe H Q=>t e H λc d=>Q (!c) d
def JQ(f:PT X a tA):PW X (.BoolOp .And [a] pos) tA:=by
 intro j d s g H Q I h;refine isTrue_and (jU (f d s g H Q I h) λc i e=>?_);cases c with
 |true=>exact isTrue_and_nil e
 |false=>exact e
def NG(f:PT X a tA):PW X (.BoolOp .Or [a] pos) tA:=by
 intro j d s g H Q I h;refine isTrue_or (jU (f d s g H Q I h) λc i e=>?_);cases c with
 |false=>exact isTrue_or_nil e
 |true=>exact e
def Ov(i:PT X a tA)(f:PW X (.BoolOp .And (b::mV) pos) tB'):PW X (.BoolOp .And (a::b::mV) pos) (Nk tA tB'):=by
 intro g d s e H Q I h;refine isTrue_and (jU (i d s e H _ I h) λc s1 ⟨H1,I1,q1⟩=>?_);cases c with
 |true=>exact f g d s1 e H1 Q I1 q1
 |false=>exact⟨H1,I1,q1⟩
def Qw(i:PT X a tA)(f:PW X (.BoolOp .Or (b::mV) pos) tB'):PW X (.BoolOp .Or (a::b::mV) pos) (RO tA tB'):=by
 intro g d s e H Q I h;refine isTrue_or (jU (i d s e H _ I h) λc s1 ⟨H1,I1,q1⟩=>?_);cases c with
 |true=>exact⟨H1,I1,q1⟩
 |false=>exact f g d s1 e H1 Q I1 q1
def Nl(f:PT X a tA):PT X (.UnaryOp .Not a pos) (NX tA):=by intro e s g H Q I h;exact isTrue_not (f e s g H (λc d=>Q (!c) d) I h)
def G7(ta tb:TE):TE:=λe H Q=>ta e H λx d=>∃c,x=.bl c/\if c=true then tb e d Q else Q (.bl false) d
def Oa(ta tb:TE):TE:=λe H Q=>ta e H λx d=>∃c,x=.bl c/\if c=true then Q (.bl true) d else tb e d Q
def Ih(ta:TE):TE:=λe H Q=>ta e H λx d=>∃c,x=.bl c/\Q (.bl (!c)) d
def OL{op}(h:PE X a t):PE X (.BoolOp op [a] pos) t:=λc s d H Q I hw=>BoolOp_one (h c s d H Q I hw)
def Pd(i:PE X a ta)(g:PE X (.BoolOp .And (b::mV) pos) tb):PE X (.BoolOp .And (a::b::mV) pos) (G7 ta tb):=by
 intro e s f H Q I h;refine BoolOp_and (jU (i e s f H _ I h) λv s1 ⟨x,H1,I1,r1,d⟩=>?_);obtain⟨c,rfl,d⟩:=d;cases r1;refine wpAny_truthy_bool ?_;cases c with
 |true=>exact g e s1 f H1 Q I1 d
 |false=>exact⟨.bl false,H1,I1,rfl,d⟩
def QP(i:PE X a ta)(g:PE X (.BoolOp .Or (b::mV) pos) tb):PE X (.BoolOp .Or (a::b::mV) pos) (Oa ta tb):=by
 intro e s f H Q I h;refine BoolOp_or (jU (i e s f H _ I h) λv s1 ⟨x,H1,I1,r1,d⟩=>?_);obtain⟨c,rfl,d⟩:=d;cases r1;refine wpAny_truthy_bool ?_;cases c with
 |false=>exact g e s1 f H1 Q I1 d
 |true=>exact⟨.bl true,H1,I1,rfl,d⟩
def NO(f:PE X a ta):PE X (.UnaryOp .Not a pos) (Ih ta):=by intro e s g H Q I h;refine UnaryOp_ (jU (f e s g H _ I h) λv s1 ⟨x,H1,I1,r1,d⟩=>?_);obtain⟨c,rfl,d⟩:=d;cases r1;exact not_of (wpAny_truthy_bool ⟨.bl (!c),H1,I1,rfl,d⟩)
def R5(t:TT)(ta tb:TE):TE:=λd H Q=>t d H λc e=>if c=true then ta d e Q else tb d e Q
def Hk(g:PT X c tA)(j:PE X a ta)(i:PE X b tb):PE X (.IfExp c a b pos) (R5 tA ta tb):=by
 intro e s f H Q I h;refine wpAny_IfExp (jU (g e s f H _ I h) λd s1 ⟨H1,I1,q1⟩=>?_);cases d with
 |true=>exact j e s1 f H1 Q I1 q1
 |false=>exact i e s1 f H1 Q I1 q1
end
end L2
namespace L2
open PySem PySem.Spec PyProof.Rows
def lC(K:W.Frag)(H:Hp)(a:Addr)(xs:List V):Prop:=
 Rd H a (.lst xs)\/
  ∃(o:Obj) (b:Array Vq) (n:Nat),K.lookup a=some o/\o.cls=.type "list" /\o.dict=none/\o.data=.seq b n/\b.size<=sizeLine/\hW xs b.toList
def mD(K:W.Frag)(H:Hp)(a:Addr)(xs:List V):Prop:=
 Rd H a (.tup xs)\/
  ∃(o:Obj) (b:Array Vq) (n:Nat),K.lookup a=some o/\o.cls=.type "tuple" /\o.data=.seq b n/\b.size<=sizeLine/\hW xs b.toList
def RV:Vq->Option V
 |.none=>some .non
 |.bool b=>some (.bl b)
 |.int i _=>some (.int i)
 |.str x _=>some (.str x)
 |.bytes b _=>some (.byt b)
 |.float b _=>some (.flt b)
 |.ref a=>some (.ref a)
 |.type n=>some (.ty n)
 |_=>none
def iH.abs(r:iH x u):RV u=some x:=by
 cases x with
 |non=>cases r;rfl
 |bl _=>cases r;rfl
 |int _=>obtain⟨t,rfl⟩:=r;rfl
 |str _=>obtain⟨t,rfl⟩:=r;rfl
 |byt _=>obtain⟨t,rfl⟩:=r;rfl
 |flt _=>obtain⟨t,rfl⟩:=r;rfl
 |ref _=>cases r;rfl
 |ty _=>cases r;rfl
def iH.inj(r:iH x u)(q:iH y u):x=y:=Option.some.inj (r.abs.symm.trans q.abs)
theorem hW.inj:∀{xs ys} {us},hW xs us->hW ys us->xs=ys
 |_,_,_,.nil,.nil=>rfl
 |_,_,_,.cons r t,.cons r' t'=>by rw[r.inj r',hW.inj t t']
section
variable {X:Cx}{fT:List (Addr×Obj)}{σ:St}{H:Hp}{s:Shared}{a:Addr}{xs ys:List V}
def lC.of{K:W.Frag}(h:H a=some (.lst xs)):lC K H a xs:=.inl (.inl h)
def mD.of{K:W.Frag}(h:H a=some (.tup xs)):mD K H a xs:=.inl (.inl h)
def gJ.list(I:gJ X fT σ H s)(h:lC X.K H a xs):∃its:List Vq,hW xs its/\PlainL s.heap a its.toArray/\xs.length<=sizeLine:=by
 rcases h with h|⟨o,its,n,b,c,d,f,g,r⟩
 .obtain⟨z,its,n,r,e⟩:=h.ok I.hok;exact⟨its,r,⟨_,n,e,rfl,rfl,rfl⟩,z⟩
 .refine⟨its.toList,r,⟨o,n,I.kIn a o b,c,d,by simpa using f⟩,?_⟩;have e:=r.length;simp only[bA]at e;omega
def gJ.tuple(I:gJ X fT σ H s)(h:mD X.K H a xs):∃its:List Vq,hW xs its/\IsTup s.heap a its.toArray/\xs.length<=sizeLine:=by
 rcases h with h|⟨o,its,n,b,c,d,f,r⟩
 .obtain⟨z,its,r,p⟩:=h.ok I.hok;exact⟨its,r,p.tup,z⟩
 .refine⟨its.toList,r,⟨o,I.kIn a o b,c,n,by simpa using d⟩,?_⟩;have e:=r.length;simp only[bA]at e;omega
def gJ.list_inj(I:gJ X fT σ H s)(h:lC X.K H a xs)(i:lC X.K H a ys):xs=ys:=by
 obtain⟨c,r,⟨o,n,e,_,_,d⟩,_⟩:=I.list h;obtain⟨b,j,⟨l,m,g,_,_,f⟩,_⟩:=I.list i;rw[e]at g;cases g;rw[d]at f;injection f with k _;have:c=b:=by simpa using congrArg Array.toList k
 subst this;exact r.inj j
def gJ.tuple_inj(I:gJ X fT σ H s)(h:mD X.K H a xs)(i:mD X.K H a ys):xs=ys:=by
 obtain⟨c,r,⟨o,e,_,n,d⟩,_⟩:=I.tuple h;obtain⟨b,j,⟨l,g,_,m,f⟩,_⟩:=I.tuple i;rw[e]at g;cases g;rw[d]at f;injection f with k _;have:c=b:=by simpa using congrArg Array.toList k
 subst this;exact r.inj j
end
noncomputable abbrev Cx.wish(X:Cx)(E:Vq->Shared->Prop):Cx:={X with xe:=E}
abbrev Cx.nox(X:Cx):Cx:=X.wish λ_ _=>False
def Cx.Ok.wish{X:Cx}(ok:X.Ok) E:(X.wish E).Ok:=⟨ok.mod,ok.kind,ok.glob,ok.blt,ok.above,ok.inj,ok.has,ok.cab,ok.hd,ok.frames,ok.stk,ok.exf,ok.bs,ok.bsz,ok.noex,ok.exfs,ok.funs,ok.frf,ok.tab⟩
def Cx.Ok.unwish{X:Cx}(ok:(X.wish E).Ok):X.Ok:=⟨ok.mod,ok.kind,ok.glob,ok.blt,ok.above,ok.inj,ok.has,ok.cab,ok.hd,ok.frames,ok.stk,ok.exf,ok.bs,ok.bsz,ok.noex,ok.exfs,ok.funs,ok.frf,ok.tab⟩
section
variable {X:Cx}{fT:List (Addr×Obj)}{σ:St}{H:Hp}{s:Shared}{E:Vq->Shared->Prop}
def gJ.wish(I:gJ X fT σ H s) E:gJ (X.wish E) fT σ H s:=⟨I.ok.wish E,I.os,I.bare,I.base,I.loc,I.cell,I.free,I.freeC,I.pin,I.hok,I.len⟩
def gJ.unwish(I:gJ (X.wish E) fT σ H s):gJ X fT σ H s:=⟨I.ok.unwish,I.os,I.bare,I.base,I.loc,I.cell,I.free,I.freeC,I.pin,I.hok,I.len⟩
def SP.unwish(h:SP (X.wish E) fT D f s'):SP X fT D f s':=by
 cases f with
 |next=>obtain⟨a,b,I,q⟩:=h;exact⟨a,b,I.unwish,q⟩
 |brk=>obtain⟨a,b,I,q⟩:=h;exact⟨a,b,I.unwish,q⟩
 |cont=>obtain⟨a,b,I,q⟩:=h;exact⟨a,b,I.unwish,q⟩
 |ret u=>obtain⟨v,a,b,I,r,q⟩:=h;exact⟨v,a,b,I.unwish,r,q⟩
def Ak.nox{st:List Stmt}(h:Ak X.nox st t):Ak X st t:=λfT s σ H D I hw=>wpAny_mono (h fT s σ H D (I.wish _) hw) (λ_ _ q=>q.unwish) λ_ _ z=>False.elim z
end
section
variable {X:Cx}{st:Stmt}{mV:List Stmt}{t u:TS}{e:Expr}{te:TE}{pos:Pos}
def Ai:TS:=λD a H=>D.nx a H
def xx(t u:TS):TS:=λD a H=>t {D with nx:=u D} a H
def DN:Ak X [] Ai:=λ_ _ a H _ I h=>wpAny_execs_nil ⟨a,H,I,h⟩
def p9(j:PS X st t)(k:Ak X mV u):Ak X (st::mV) (xx t u):=by
 intro b s i H D I h;refine wpAny_execs_cons (jU (j b s i H {D with nx:=u D} I h) λf c q=>?_);cases f with
 |next=>obtain⟨a,d,g,q⟩:=q;exact k b c a d D g q
 |ret v=>exact q
 |brk=>exact q
 |cont=>exact q
def uT(b:PS X st t):Ak X [st] t:=by
 intro a s c H D I h;refine wpAny_execs_cons (jU (b a s c H D I h) λf d q=>?_);cases f with
 |next=>exact wpAny_execs_nil q
 |ret v=>exact q
 |brk=>exact q
 |cont=>exact q
def gJ.quiet(I:gJ X fT σ H s):interactive X.env=false:=by simp[interactive,I.ok.kind]
def oz(te:TE):TS:=λD a H=>te a H λ_ b=>D.nx a b
def r0(d:PE X e te)(c:swapsWith e none pos.line X.env=pure false:=by rfl):PS X (.Expr e pos) (oz te):=by intro b s a H D I h;exact wpAny_Expr_any (jU (d b s a H _ I h) λv s1 ⟨x,H1,I1,r1,q1⟩=>⟨a,H1,I1,q1⟩) I.quiet c
def wA(te:TE):TS:=λD a H=>te a H D.rt
def vZ(c:PE X e te):PS X (.Return (some e) pos) (wA te):=by intro b s a H D I h;exact wpAny_Return_some (jU (c b s a H _ I h) λv s1 ⟨x,H1,I1,r1,q1⟩=>⟨x,a,H1,I1,r1,q1⟩)
def G6(c:TT)(t u:TS):TS:=λD a H=>c a H λb d=>if b=true then t D a d else u D a d
def Mj(i:PT X c tc)(k:Ak X a t)(j:Ak X b u):PS X (.If c a b pos) (G6 tc t u):=by
 intro f s g H D I h;refine wpAny_If (jU (i f s g H _ I h) λd s1 ⟨H1,I1,q1⟩=>?_);cases d with
 |true=>exact k f s1 g H1 D I1 q1
 |false=>exact j f s1 g H1 D I1 q1
def BL:TS:=λ_ _ _=>False
def Ha:PS X st BL:=λ_ _ _ _ _ _ h=>h.elim
end
abbrev TG:=V->St->Hp->(St->Hp->Prop)->Prop
abbrev JK:=List V->St->Hp->(St->Hp->Prop)->Prop
def PG(X:Cx)(target:Expr)(t:TG):Prop:=
 ∀(b:List (Addr×Obj)) (s:Shared) (d:St) (H:Hp) (v:V) (u:Vq) (Q:St->Hp->Prop),gJ X b d H s->iH v u->t v d H Q->
  wpAny (model X.prog X.w) X.A (assign target X.env u) (λ_ e=>∃a c,gJ X b a c e/\Q a c) X.xe s
def PB(X:Cx)(ts:List Expr)(t:JK):Prop:=
 ∀(d:List (Addr×Obj)) (s:Shared) (f:St) (H:Hp) (b:List V) (c:List Vq) (Q:St->Hp->Prop),gJ X d f H s->hW b c->t b f H Q->
  wpAny (model X.prog X.w) X.A (assignInOrder ((assignEach ts X.env).map (·.2)) c) (λ_ g=>∃a e,gJ X d a e g/\Q a e) X.xe s
abbrev QH:=V->V->V->Hp->(Hp->Prop)->Prop
def QA(X:Cx)(t:QH):Prop:=
 ∀(b:List (Addr×Obj)) (s:Shared) (e:St) (H:Hp) (o i v:V) (a d u:Vq) (Q:Hp->Prop),gJ X b e H s->iH o a->iH i d->iH v u->t o i v H Q->
  wpAny (model X.prog X.w) X.A (setItem a d u) (λ_ f=>∃c,gJ X b e c f/\Q c) X.xe s
section
variable {X:Cx}{pos:Pos}
def jg(i:Nat):TG:=λv a H Q=>Q (a.set i (some v)) H
def Ex(c:X.N.Nodup)(b:X.N[i]? = some x)(e:EB X.env.scope x)(a:X.fn x=true\/X.env.scope.names.lookup x=some .local:=by first|exact .inl rfl|exact .inr rfl|assumption):PG X (.Name x pos) (jg i):=by intro f s j H v u Q I r h;exact wpAny_assign_Name (sS I c b e r (λg d=>⟨_,H,d,h⟩) a)
def ET:JK:=λa b H Q=>a=[]/\Q b H
def vX(t:TG)(u:JK):JK:=λb d H Q=>∃v r,b=v::r/\t v d H λa c=>u r a c Q
def DK:PB X [] ET:=by intro d s a H b c Q I r h;obtain⟨e,h⟩:=h;subst e;cases r;exact assignInOrder_nil ⟨a,H,I,h⟩
theorem Bv(f:PG X e t)(g:PB X es u)
  (c:(assignEach (e::es) X.env).map (·.2)=assign e X.env::(assignEach es X.env).map (·.2):=by rfl):PB X (e::es) (vX t u):=by
 intro a s d H i j Q I r h;obtain⟨v,k,b,h⟩:=h;subst b;cases r with
 |cons r rr=>rw[c];refine assignInOrder_cons (jU (f a s d H _ _ _ I r h) λ_ s1 ⟨σ1,H1,I1,q1⟩=>?_);exact g a s1 σ1 H1 _ _ Q I1 rr q1
def EN(K:W.Frag)(n:Nat)(t:JK):TG:=λv c H Q=>∃a b,v=.ref a/\mD K H a b/\b.length=n/\t b c H Q
def IQ(q:X.calm=true)(h:PB X es t)
  (w:(assignEach es X.env).length=n:=by rfl) (c:(assignEach es X.env).findIdx? (·.1)=none:=by rfl):PG X (.Tuple es k pos) (EN X.K n t):=by
 intro j s z H v u Q I r hw;obtain⟨a,i,l,g,y,hw⟩:=hw;subst l;cases r;obtain⟨f,d,p,A⟩:=I.tuple g;refine assign_Tuple_tuple (I.ok.hd q) p (by simp[w,<-y,d.length]) c λB m=>?_;have x:=I.kept (t':=s.toks) λb o e=>m b o (aL (aK e)) e;exact h j _ z H i _ Q x (by simpa using d) hw
def Os(to d:TE)(t:QH):TG:=λv a H Q=>to a H λo c=>d a c λi b=>t o i v b λe=>Q a e
def OR(d:PE X o to)(c:PE X i ti)(e:QA X t)
  (f:∀v,assign (.Subscript o i pos) X.env v=(do
   let ov <-holding [v] (eval o X.env)
   let iv <-holding [v,ov] (eval i X.env)
   standAt pos
   holding [v,ov,iv] (setItem ov iv v)
   release [v,ov,iv] []):=by intro _;rfl):PG X (.Subscript o i pos) (Os to ti t):=by
 intro b s a H v u Q I r h;rw[f];refine ao (wpAny_holding (jU (d b s a H _ I h) λov s1 ⟨x,H1,I1,r1,q1⟩=>?_));refine ao (wpAny_holding (jU (c b s1 a H1 _ I1 q1) λiv s2 ⟨y,H2,I2,r2,q2⟩=>?_));refine ao (wpAny_standAt (ao (wpAny_holding (jU (e b s2 a H2 x y v ov iv u _ I2 r1 r2 r q2) λ_ s3 ⟨H3,I3,q3⟩=>?_))));exact wpAny_release ⟨a,H3,I3,q3⟩
def l3(b:TE)(g:TG):TS:=λD a H=>b a H λx c=>g x a c D.nx
def GO(i:PE X e te)(d:PG X tg g)(f:swapsWithSole [tg] e pos.line X.env=pure false:=by rfl)(hw:swappedStores [tg] e X.env=pure none:=by rfl)
  (c:(assignEach [tg] X.env).map (·.2)=[assign tg X.env]:=by rfl):PS X (.Assign [tg] e pos) (l3 te g):=by
 intro b s a H D I h;refine wpAny_Assign_stores (jU (i b s a H _ I h) λv s1 ⟨x,H1,I1,r1,q1⟩=>?_) f hw;rw[c];exact jU (d b s1 a H1 x v _ I1 r1 q1) λ_ j q=>q
def wX(d:X.N.Nodup)(b:X.N[i]? = some x)(j:EB X.env.scope x)(l:PE X e te)(g:swapsWith e (some (.Name x pos')) pos.line X.env=pure false:=by rfl)(k:X.fn x=true\/X.env.scope.names.lookup x=some .local:=by first|exact .inl rfl|exact .inr rfl|assumption) :
  PS X (.Assign [.Name x pos'] e pos) (l3 te (jg i)):=by
 intro c s f H D I h;refine wpAny_Assign_Name (jU (l c s f H _ I h) λv s1 ⟨y,H1,I1,r1,q1⟩=>?_) g;exact sS I1 d b j r1 (λm a=>⟨_,H1,a,q1⟩) k
def OO(i j:Nat)(d:TA):TS:=λD a H=>d a H λb c=>∃v w,b=[v,w]/\D.nx ((a.set i (some v)).set j (some w)) c
theorem NR{kt k2 pt2}(F:X.calm=true)(r:X.N.Nodup)(P:X.N[i]? = some x)(J:X.N[j]? = some y)(k:i≠j)
  (m:X.env.scope.names.lookup x=some .local) (z:X.env.scope.names.lookup y=some .local) (Q:PA X [a,b] ta)
  (hw:swappedStores [.Tuple [.Name x px,.Name y py] kt pt] (.Tuple [a,b] k2 pt2) X.env=pure (some [x,y]))
  (E:swapsWithSole [.Tuple [.Name x px,.Name y py] kt pt] (.Tuple [a,b] k2 pt2) pos.line X.env=pure false:=by rfl) :
  PS X (.Assign [.Tuple [.Name x px,.Name y py] kt pt] (.Tuple [a,b] k2 pt2) pos) (OO i j ta):=by
 intro l s n H D I h;rw[exec_Assign_arm];refine ao (wpAny_standAt ?_);rw[E];refine ao (ak ?_);rw[aQ (by decide)];refine ao (Tuple_ (jU (Q _ l s n H _ I h) λus s1 ⟨vs,H1,I1,r1,f⟩=>?_));obtain⟨v,w,C,f⟩:=f;subst C;obtain⟨c,d,rfl,rv,rw'⟩:∃c d,us=[c,d]/\iH v c/\iH w d:=by
  cases r1 with
  |cons p q=>
   cases q with
   |cons p' q'=>cases q';exact⟨_,_,rfl,p,p'⟩
 refine wpAny_newObj_type ?_ (by show 2<=sizeLine;decide);have K:gJ X l n H1 {s1 with heap:=s1.heap.push {cls:=.type "tuple",data:=.seq [c,d].toArray}}:=I1.kept λb o e=>ae _ e;rw[hw];refine ao (ak ?_);show wpAny (model X.prog X.w) X.A (do rule "assign.swapped-stores";let items <-unpackItems (.ref s1.heap.objs.size) 2 none;assignInOrder [λv=>bindName X.env y v,λv=>bindName X.env x v] items.reverse;pure Flow.next) _ _ _;refine ao (wpAny_rule (ao (unpackItems_tuple (items:=#[c,d]) (I.ok.hd F) (IsTup.new s1.heap _) λS g=>?_)));have B:=K.kept (t':=s1.toks) λb o e=>g b o (aL (aK e)) e;refine ao (assignInOrder_cons (wpAny_bindName (sS B r J (.inl z) rw' (λR L=>?_) (.inr z))));refine assignInOrder_cons (wpAny_bindName (sS L r P (.inl m) rv (λU u=>assignInOrder_nil (ak ?_)) (.inr m)));rw[List.set_comm _ _ (Ne.symm k)]at u;exact⟨_,H1,u,f⟩
end
section
variable {X:Cx}{pos:Pos}
def C3(c:TT)(h:TS):TS:=λD a H=>∃W:Nat->St->Hp->Prop,(∃m,W m a H)/\∀m a H,W m a H->
 c a H λb f=>if b=true then ∃N:St->Hp->Prop,(∀d g,N d g->∃e,e<m/\W e d g)/\h {D with nx:=N,ct:=N,bk:=D.nx} a f else D.nx a f
def HR(x:PassesOwn (model X.prog X.w) X.A X.env X.xe)(F:PT X c tc)(K:Ak X body tb):PS X (.While c body [] pos) (C3 tc tb):=by
 intro o s Q H D I h;obtain⟨W,⟨J,C⟩,e⟩:=h;refine wpAny_While (codeAny_whileLoop (λn P=>∃g y,gJ X o g y P/\W n g y) ?_ J ⟨Q,H,I,C⟩);rintro n E ⟨d,u,L,B⟩;refine wpAny_passesOwn x (jU (F o E d u _ L (e n d u B)) λb s2 ⟨H2,I2,j⟩=>?_);cases b with
 |true=>
  obtain⟨N,z,j⟩:=j;rw[aP rfl];refine wpAny_passesOwn x (jU (K o s2 d H2 _ I2 j) λf R k=>?_);cases f with
  |next=>obtain⟨a,i,m,q⟩:=k;obtain⟨p,l,r⟩:=z a i q;exact⟨p,l,a,i,m,r⟩
  |cont=>obtain⟨a,i,m,q⟩:=k;obtain⟨p,l,r⟩:=z a i q;exact⟨p,l,a,i,m,r⟩
  |brk=>exact k
  |ret v=>exact k
 |false=>rw[aQ aG];exact wpAny_execs_nil ⟨d,H2,I2,j⟩
end
structure It where
 go:Nat->Hp->Prop
 yld:Nat->Hp->V->Hp->Prop
 stop:Nat->Hp->Prop
def sI(X:Cx)(a:List (Addr×Obj))(H:Hp)(b:Addr):Prop:=H b=none/\b≠X.env.locals/\b∉X.fs/\(b∈X.ex\/X.s₀.heap.objs.size<=b)/\(∀x c,X.env.cells.lookup x=some c->c≠b)/\∀p∈X.pn++a,p.1≠b
def gJ.fpOk(I:gJ X fT σ H s)(a:s.heap.objs.size<=b)(d:H' b=none):sI X fT H' b:=by
 refine⟨d,bB (aD I.lt a),I.nofs a,.inr (aM I.sz a),λx c e z=>?_,λp f z=>?_⟩
 .obtain⟨v,q⟩:=I.cell x c e;exact absurd (aD q.lt (by rw[z];exact a)) (aZ _)
 .exact absurd (aD (aK (I.pin p f).1) (by rw[z];exact a)) (aZ _)
structure A8(P:Program)(w:World)(K:W.Frag)(tg:Expr)(J:It)(fp:List Addr)(it:Addr)(tn:Nat->Heap->Prop):Prop where
 mem:it∈fp
 obj:∀i h,tn i h->∀b∈fp,∃o,h.get? b=some o/\∀v,o.data≠.cell v
 keep:∀i h h',tn i h->(∀b∈fp,∀o,h.get? b=some o->h'.get? b=some o)->tn i h'
 item:∀(X:Cx),X.prog=P->X.w=w->X.K=K->X.calm=true->∀(i:Nat) (fT:List (Addr×Obj)) (s:Shared) (σ:St) (H:Hp) (E:Vq->Shared->Prop),gJ X fT σ H s->(∀b∈fp,sI X fT H b)->tn i s.heap->J.go i H->
  wpAny (model P w) X.A (pyNext (.ref it)) (λr s1=>∃u,r=some u/\
   wpAny (model P w) X.A (letOwnedTupleGo tg (.ref it) u) (λ_ s2=>∃x H',gJ X fT σ H' s2/\iH x u/\J.yld i H x H'/\tn (i+1) s2.heap/\∀b∈fp,H' b=none) E s1) E s
 done:∀(X:Cx),X.prog=P->X.w=w->X.K=K->X.calm=true->∀(i:Nat) (fT:List (Addr×Obj)) (s:Shared) (σ:St) (H:Hp) (E:Vq->Shared->Prop),gJ X fT σ H s->(∀b∈fp,sI X fT H b)->tn i s.heap->J.stop i H->
  wpAny (model P w) X.A (pyNext (.ref it)) (λr s1=>r=none/\gJ X fT σ H s1) E s
 self:∀(A:Around) (i:Nat) (s:Shared) (Q:Vq->Shared->Prop) (E:Vq->Shared->Prop),tn i s.heap->Q (.ref it) s->wpAny (model P w) A (pyIter (.ref it)) Q E s
abbrev TI:=St->Hp->(It->Hp->Prop)->Prop
def Sl(X:Cx)(d:List (Addr×Obj))(i:St)(h:Expr)(R:It->Hp->Prop)(c:Vq)(g:Shared):Prop:=∃(it:Addr) (f:List Addr) (e:Nat->Heap->Prop) (J:It) (a:Hp),c=.ref it/\gJ X d i a g/\A8 X.prog X.w X.K h J f it e/\e 0 g.heap/\(∀b∈f,sI X d a b)/\R J a
def PI(X:Cx)(f a:Expr)(e:TI):Prop:=
 ∀(c:List (Addr×Obj)) (s:Shared) (b:St) (H:Hp) (R:It->Hp->Prop),gJ X c b H s->e b H R->
  wpAny (model X.prog X.w) X.A (eval a X.env) (λv d=>wpAny (model X.prog X.w) X.A (pyIter v) (Sl X c b f R) X.xe d) X.xe s
theorem DU{M:Model}{A:Around}{E:Vq->Shared->Prop}{s:Shared}{b:Expr}{it:Addr}{u:Vq}{o:Obj}{n:String}{vs:Array Vq}{Q:Unit->Shared->Prop}(c:s.heap.get? it=some o)(d:o.cls=.type n)(e:o.data=.fields vs)
    (f:["enumerate", "zip", "dict_itemiterator", "dict_reverseitemiterator", "odict_iterator", "itertools.zip_longest", "itertools.pairwise"].contains n=false) (a:Q () s):wpAny M A (letOwnedTupleGo b (.ref it) u) Q E s:=by
  unfold letOwnedTupleGo;cases b<;>first
    |exact ak a
    | (cases u<;>first
        |exact ak a
        | (refine ao (wpAny_load c ?_)
           rw[d,e]
           show wpAny M A (if (["enumerate", "zip", "dict_itemiterator", "dict_reverseitemiterator", "odict_iterator", "itertools.zip_longest", "itertools.pairwise"].contains n&&vs[0]? == some (rawInt _))=true then _ else _) Q E s
           rw[aQ (by intro h;rw[f,Bool.false_and]at h;cases h)]
           exact ak a))
noncomputable def RQ(K:W.Frag)(a:Addr):It:=⟨λi H=>∃b x,lC K H a b/\b[i]? = some x,λi H x c=>c=H/\∀b,lC K H a b->b[i]? = some x,λi H=>∃b,lC K H a b/\b.length<=i⟩
noncomputable def RK(K:W.Frag)(a:Addr):It:=⟨λi H=>∃b x,mD K H a b/\b[i]? = some x,λi H x c=>c=H/\∀b,mD K H a b->b[i]? = some x,λi H=>∃b,mD K H a b/\b.length<=i⟩
noncomputable def P9(b:Int)(n:Nat):It:=⟨λi _=>i<n,λi H x a=>a=H/\x=.int (b+i),λi _=>n<=i⟩
def Gc{K:W.Frag} a it:A8 P w K tg (RQ K a) [it] it (λi h=>h.IsListIter it a i) where
 mem:=by simp
 obj:=λi h f b g=>by
  have e:b=it:=by simpa using g
  subst e;obtain⟨o,e,c,d⟩:=f;exact⟨o,e,λv z=>by rw[d]at z;cases z⟩
 keep:=λi h Q f k=>f.at λo e=>k it (by simp) o e
 item:=by intro X C hw L N i U s σ H E I m f J;subst C hw L;obtain⟨S,x,l,r⟩:=J;obtain⟨n,B,p,Z⟩:=I.list l;obtain⟨u,hu,Y⟩:=B.get r;obtain⟨q,D,f2,F,A,y⟩:=m it (by simp);refine wpAny_pyNext_list_item f p.isList (by simpa using hu) λQ j sb=>?_;have I1:=I.turned (t':=s.toks) (λb o g e=>(sb.2 b g).trans e) q D F A y;obtain⟨o,e,c,d⟩:=id j;exact⟨u,rfl,DU e c d (by decide) ⟨x,H,I1,Y,⟨rfl,λys hy=>by rw[I.list_inj hy l];exact r⟩,j,λb g=>(m b g).1⟩⟩
 done:=by intro X C hw L N i U s σ H E I m f J;subst C hw L;obtain⟨S,l,r⟩:=J;obtain⟨n,B,p,Z⟩:=I.list l;obtain⟨q,D,f2,F,A,y⟩:=m it (by simp);have hl:=B.length;exact wpAny_pyNext_list_end (I.ok.hd N) f p.isList (by simp;omega) λQ R=>⟨rfl,I.turned (λb o g e=>R b o g e) q D F A y⟩
 self:=λ_ _ _ _ _ f h=>wpAny_pyIter_listiter f h
def CZ{K:W.Frag} a it:A8 P w K tg (RK K a) [it] it (λi h=>h.IsTupleIter it a i) where
 mem:=by simp
 obj:=λi h f b g=>by
  have e:b=it:=by simpa using g
  subst e;obtain⟨o,e,c,d⟩:=f;exact⟨o,e,λv z=>by rw[d]at z;cases z⟩
 keep:=λi h Q f k=>f.at λo e=>k it (by simp) o e
 item:=by intro X C hw L N i U s σ H E I m f J;subst C hw L;obtain⟨S,x,l,r⟩:=J;obtain⟨n,B,p,Z⟩:=I.tuple l;obtain⟨u,hu,Y⟩:=B.get r;obtain⟨q,D,f2,F,A,y⟩:=m it (by simp);refine wpAny_pyNext_tuple_item f (p) (by simpa using hu) λQ j sb=>?_;have I1:=I.turned (t':=s.toks) (λb o g e=>(sb.2 b g).trans e) q D F A y;obtain⟨o,e,c,d⟩:=id j;exact⟨u,rfl,DU e c d (by decide) ⟨x,H,I1,Y,⟨rfl,λys hy=>by rw[I.tuple_inj hy l];exact r⟩,j,λb g=>(m b g).1⟩⟩
 done:=by intro X C hw L N i U s σ H E I m f J;subst C hw L;obtain⟨S,l,r⟩:=J;obtain⟨n,B,p,Z⟩:=I.tuple l;obtain⟨q,D,f2,F,A,y⟩:=m it (by simp);have hl:=B.length;exact wpAny_pyNext_tuple_end (I.ok.hd N) f (p) (by simp;omega) λQ R=>⟨rfl,I.turned (λb o g e=>R b o g e) q D F A y⟩
 self:=λ_ _ _ _ _ f h=>wpAny_pyIter_tupleiter f h
def Df{K:W.Frag} it lo n:A8 P w K tg (P9 lo n) [it] it (λi h=>IsRangeIter h it (lo+(i:Nat)*1) ((n:Int)-(i:Nat)) 1) where
 mem:=by simp
 obj:=λi h a b c=>by
  have e:b=it:=by simpa using c
  subst e;exact⟨_,a,λv z=>by have J:=z;cases J⟩
 keep:=λi h p a k=>k it (by simp) _ a
 item:=by intro X q hw y l i A s B H E I f a x;subst q hw y;obtain⟨g,r,L,u,m,j⟩:=f it (by simp);have W:=Walks.range (prog:=X.prog) (w:=X.w) (I.ok.hd l) it lo 1 n;refine W.item i s _ _ x a λv p F D d N=>?_;obtain⟨t,rfl⟩:=D;have Q:gJ X A B H {s with heap:=p,toks:=F}:=I.turned (λb o c e=>N b o (by simpa using c) e) g r u m j;refine⟨_,rfl,DU d rfl rfl (by decide) ⟨.int (lo+i),H,Q,⟨t,?_⟩,⟨rfl,rfl⟩,d,λb c=>(f b c).1⟩⟩;rw[bC]
 done:=by intro X q hw y l i A s B H E I f a x;subst q hw y;obtain⟨g,r,L,u,m,j⟩:=f it (by simp);exact wpAny_pyNext_range_end (I.ok.hd l) a (by have:n<=i:=x;omega) λp C=>⟨rfl,I.turned (λb o c e=>C b o c e) g r u m j⟩
 self:=λ_ _ _ _ _ a h=>wpAny_pyIter_rangeiter a h
end L2
namespace L2
open PySem PySem.Spec PyProof.Rows
section
variable {X:Cx}{tg:Expr}
def Aj(K:W.Frag)(c:TE):TI:=λe H R=>c e H λx b=>∃a,x=.ref a/\(∃d,lC K b a d)/\R (RQ K a) b
def OA(K:W.Frag)(c:TE):TI:=λe H R=>c e H λx b=>∃a,x=.ref a/\(∃d,mD K b a d)/\R (RK K a) b
def Dx(i:PE X l tl):PI X tg l (Aj X.K tl):=by
 intro f s j H R I h;refine jU (i f s j H _ I h) λv s1 ⟨x,H1,I1,r1,q1⟩=>?_;obtain⟨a,e,⟨k,d⟩,q⟩:=q1;subst e;cases r1;obtain⟨c,n,p,m⟩:=I1.list d;refine wpAny_pyIter_list p.isList ?_;refine⟨s1.heap.objs.size,[s1.heap.objs.size],_,_,H1,rfl,I1.kept λb o e=>ae _ e,Gc a _,⟨_,ar _ rfl,rfl,rfl⟩,λb g=>?_,q⟩;have e:b=s1.heap.objs.size:=by simpa using g
 subst e;exact I1.fpOk (aJ _) (I1.hok.fresh (aJ _))
def N2(i:PE X l tl):PI X tg l (OA X.K tl):=by
 intro f s j H R I h;refine jU (i f s j H _ I h) λv s1 ⟨x,H1,I1,r1,q1⟩=>?_;obtain⟨a,e,⟨k,d⟩,q⟩:=q1;subst e;cases r1;obtain⟨c,n,p,m⟩:=I1.tuple d;refine wpAny_pyIter_tuple (p) ?_;refine⟨s1.heap.objs.size,[s1.heap.objs.size],_,_,H1,rfl,I1.kept λb o e=>ae _ e,CZ a _,⟨_,ar _ rfl,rfl,rfl⟩,λb g=>?_,q⟩;have e:b=s1.heap.objs.size:=by simpa using g
 subst e;exact I1.fpOk (aJ _) (I1.hok.fresh (aJ _))
def Ji{a c:Int}(I:gJ X fT σ H s)(k:-(2 ^ 62)<=a)(l:a<2 ^ 62)(f:-(2 ^ 62)<=c)(h:c<2 ^ 62)
  (q:R (P9 a (c-a).toNat) H):wpAny (model X.prog X.w) X.A (pyIter (.ref s.heap.objs.size)) (Sl X fT σ tg R) E {s with heap:=s.heap.push {cls:=.type "range",data:=.fields #[.int a t,.int c u,.int 1 v]},toks:=tk}:=by
 refine wpAny_pyIter_range (IsRange.new ..) (small_one k l f h) ?_;have d:gJ X fT σ H {s with heap:=s.heap.push {cls:=.type "range",data:=.fields #[.int a t,.int c u,.int 1 v]},toks:=tk}:=I.kept λb o e=>ae _ e;refine⟨(s.heap.push {cls:=.type "range",data:=.fields #[.int a t,.int c u,.int 1 v]}).objs.size,[(s.heap.push {cls:=.type "range",data:=.fields #[.int a t,.int c u,.int 1 v]}).objs.size],_,_,H,rfl,
  d.kept λb o e=>ae _ e,Df _ a (c-a).toNat,?_,λb j=>?_,q⟩
 .have g:a+((0:Nat):Int)*1=a:=by simp
  have i:(((c-a).toNat:Nat):Int)-((0:Nat):Int)=Builtin.Range.rangeSize a c 1:=by rw[rangeSize_one];split<;>omega
  rw[g,i];exact ar _ rfl
 .have e:b=(s.heap.push {cls:=.type "range",data:=.fields #[.int a t,.int c u,.int 1 v]}).objs.size:=by simpa using j
  subst e;exact d.fpOk (aJ _) (d.hok.fresh (aJ _))
def Jo(c:TA):TI:=λd H R=>c d H λa b=>∃j:Int,a=[.int j]/\-(2 ^ 62)<=j/\j<2 ^ 62/\R (P9 0 j.toNat) b
def Fk(g:Gl X "range")(c:X.mg "range" = none)(k:PA X [a] ta)(i:starEach [a] X.env=[(false,eval a X.env)]:=by rfl):PI X tg (.Call (.Name "range" p) [a] [] pos) (Jo ta):=by
 intro f s l H R I h;refine Call_ (oP I g c boot_range (PyProof.Rows.callWith_type1 (jU (k pos f s l H _ I h) λus s1 ⟨vs,H1,I1,r1,b⟩=>?_) i rfl));obtain⟨j,e,b,d,q⟩:=b;subst e;cases r1 with
 |cons r rr=>cases rr;obtain⟨t,rfl⟩:=r;exact call_range_1 (Ji I1 (by omega) (by omega) b d (by simpa using q))
def Cj(k:TI)(g:TG)(j:TS):TS:=λD a H=>k a H λJ h=>∃W:Nat->Nat->St->Hp->Prop,(∃m,W 0 m a h)/\∀i m a H,W i m a H->
 (J.stop i H/\D.nx a H)\/(J.go i H/\∃N:St->Hp->Prop,(∀b c,N b c->∃e,e<m/\W (i+1) e b c)/\∀x c,J.yld i H x c->g x a c λd f=>j {D with nx:=N,ct:=N,bk:=D.nx} d f)
noncomputable def vD(a:List Addr)(h:Heap):List (Addr×Obj):=a.filterMap λb=>(h.get? b).map λo=>(b,o)
def oW(a:b∈fp)(e:h.get? b=some o):(b,o)∈vD fp h:=bD.mpr ⟨b,a,by rw[e];rfl⟩
def Ga(d:p∈vD fp h):p.1∈fp/\h.get? p.1=some p.2:=by
 obtain⟨b,c,e⟩:=bD.mp d;cases q:h.get? b with
 |none=>rw[q]at e;cases e
 |some o=>rw[q]at e;have a:=Option.some.inj e;subst a;exact⟨c,q⟩
def gJ.pinned(I:gJ X fT σ H s)(j:∀b∈fp,sI X fT H b)(g:∀b∈fp,∃o,s.heap.get? b=some o/\∀v,o.data≠.cell v):gJ X (fT++vD fp s.heap) σ H s:=I.pins_of λp k=>(ai.mp k).elim (λz=>I.pin p (bE _ z)) λz=>by obtain⟨c,e⟩:=Ga z;obtain⟨i,f,h,_⟩:=j p.1 c;obtain⟨o,a,d⟩:=g p.1 c;rw[e]at a;cases a;exact⟨e,i,f,h,d⟩
def gJ.unpinned(I:gJ X (fT++pl) σ H s):gJ X fT σ H s:=I.pins_of λp a=>I.pin p (bE _ (ax _ a))
theorem BQ(R:PassesOwn (model X.prog X.w) X.A X.env X.xe)(hc:X.calm=true)(hi:PI X tg iter wi)(hg:PG X tg g)(p:Ak X body tb)
  (hs:∀x,foldedSetIterable iter X.env x=pure x:=by intro _;rfl):PS X (.For tg iter body [] pos) (Cj wi g tb):=by
 intro C s σ H D I h;refine wpAny_For (jU (hi C s σ H _ I h) λv s1 h1=>jU h1 λitv s2 h2=>?_) hs;obtain⟨it,P,tn,J,H2,e,I2,T,U,f2,W,⟨m0,w0⟩,E⟩:=h2;subst e;have l:∀{z:Hp},(∀b∈P,z b=none)->∀b∈P,sI X C z b:=λhn b p=>⟨hn b p,(f2 b p).2⟩;refine codeAny_forLoop_any (λn s'=>∃i k z,gJ X C k z s'/\tn i s'.heap/\(∀b∈P,z b=none)/\W i n k z) ?_ m0 ⟨0,σ,H2,I2,U,λb p=>(f2 b p).1,w0⟩;rintro n s3 ⟨i,c,S,I3,F,Q,w3⟩;rcases E i n c S w3 with⟨K,qn⟩|⟨go,N,hN,step⟩
 .refine wpAny_passesOwn R (jU (T.done X rfl rfl rfl hc i C s3 c S X.xe I3 (l Q) F K) λr s4 ⟨hr,I4⟩=>?_);subst hr;exact wpAny_execs_nil ⟨c,S,I4,qn⟩
 .refine wpAny_passesOwn R (jU (T.item X rfl rfl rfl hc i C s3 c S X.xe I3 (l Q) F go) λr s4 ⟨u,hr,h4⟩=>?_);subst hr;refine wpAny_passesOwn R (jU h4 λ_ s5 ⟨x,H5,I5,r5,y5,st5,fr5⟩=>?_);have Y:=I5.pinned (l fr5) (T.obj _ _ st5);refine wpAny_passesOwn R (jU (hg _ s5 c H5 x u _ Y r5 (step x H5 y5)) λ_ s6 ⟨σ6,H6,I6,q6⟩=>?_);refine wpAny_passesOwn R (jU (p _ s6 σ6 H6 _ I6 q6) λf Z B=>?_);have j:∀{a:St} {y:Hp},gJ X (C++vD P s5.heap) a y Z->N a y->∃m,m<n/\∃i k z,gJ X C k z Z/\tn i Z.heap/\(∀b∈P,z b=none)/\W i m k z:=λ{a y} q L=>by obtain⟨m',hm,w7⟩:=hN a y L;refine⟨m',hm,i+1,a,y,q.unpinned,T.keep _ _ _ st5 λb p o e=>(q.pin (b,o) (bE _ (bE _ (oW p e)))).1,λb p=>?_,w7⟩;obtain⟨o,e,d⟩:=T.obj _ _ st5 b p;exact (q.pin (b,o) (bE _ (bE _ (oW p e)))).2.1
  cases f with
  |next=>obtain⟨a,y,q,L⟩:=B;exact j q L
  |cont=>obtain⟨a,y,q,L⟩:=B;exact j q L
  |brk=>obtain⟨a,y,q,B⟩:=B;exact⟨a,y,q.unpinned,B⟩
  |ret v=>obtain⟨x7,a,y,q,r7,B⟩:=B;exact⟨x7,a,y,q.unpinned,r7,B⟩
end
end L2
namespace L2
open PySem PySem.Spec PyProof.Rows
abbrev R2:=V->V->Hp->VK->Prop
def pJ(X:Cx)(f:Vq->Value->Sem Value)(r:R2):Prop:=
 ∀(a:List (Addr×Obj)) (s:Shared) (b:St) (H:Hp) (x y:V) (v u:Vq) (Q:VK),gJ X a b H s->iH x v->iH y u->r x y H Q->
  wpAny (model X.prog X.w) X.A (f v u) (EP X a b Q) X.xe s
def RU(X:Cx)(f:Vq->Sem Value)(r:V->Hp->VK->Prop):Prop:=
 ∀(a:List (Addr×Obj)) (s:Shared) (b:St) (H:Hp) (x:V) (v:Vq) (Q:VK),gJ X a b H s->iH x v->r x H Q->
  wpAny (model X.prog X.w) X.A (f v) (EP X a b Q) X.xe s
def kg(X:Cx)(f:Vq)(r:List V->Hp->VK->Prop):Prop:=
 ∀(c:List (Addr×Obj)) (s:Shared) (d:St) (H:Hp) (b:List V) (a:List Vq) (Q:VK),gJ X c d H s->hW b a->r b H Q->
  wpAny (model X.prog X.w) X.A (call f a) (EP X c d Q) X.xe s
def uh(r:R2)(e b:TE):TE:=λa H Q=>e a H λx d=>b a d λy c=>r x y c Q
def RN(r:V->Hp->VK->Prop)(b:TE):TE:=λc H Q=>b c H λx a=>r x a Q
def rI(C:Int->Int->Prop)(g:Int->Int->V):R2:=λx y H Q=>∃i j,x=.int i/\y=.int j/\C i j/\Q (g i j) H
def CB(g:Int->Int->V):R2:=λx y H Q=>∃i j,x=.int i/\y=.int j/\Q (g i j) H
def rU(g:Int->V):V->Hp->VK->Prop:=λx H Q=>∃i,x=.int i/\Q (g i) H
section
variable {X:Cx}{a b c:Expr}{ta tb tc:TE}{pos:Pos}
def Pb(m:PE X a ta)(l:PE X b tb){R:V->V->Hp->Prop}(I:gJ X fT σ H s)
  (h:ta σ H λx j=>tb σ j λy d=>R x y d) {f:Vq->Value->Sem Value}
  (k:∀v u i x y d,gJ X fT σ d i->iH x v->iH y u->R x y d->wpAny (model X.prog X.w) X.A (f v u) Q X.xe i) :
  wpAny (model X.prog X.w) X.A (eval a X.env) (λv g=>wpAny (model X.prog X.w) X.A (eval b X.env) (λu e=>wpAny (model X.prog X.w) X.A (f v u) Q X.xe e) X.xe g) X.xe s:=by
 refine jU (m fT s σ H _ I h) λv s1 ⟨x,j,I1,r1,q1⟩=>?_;refine jU (l fT s1 σ j _ I1 q1) λu i ⟨y,d,I2,r2,q2⟩=>?_;exact k v u i x y d I2 r1 r2 q2
def GN(l:pJ X (binaryOp op) r)(m:PE X a ta)(g:PE X b tb):PE X (.BinOp a op b pos) (uh r ta tb):=by intro d s n H Q I h;exact wpAny_BinOp (Pb m g I h λv u e x y f i k j q=>l d e n f x y v u Q i k j q)
def PF(f:RU X (unaryOp op) r)(g:PE X a ta):PE X (.UnaryOp op a pos) (RN r ta):=by intro d s e H Q I h;exact UnaryOp_ (jU (g d s e H _ I h) λv s1 ⟨x,H1,I1,r1,q1⟩=>f d s1 e H1 x v Q I1 r1 q1)
def Rl{g:Int->Int->Int}
  (d:∀i j t u s Q E,C i j->Q (.int (g i j) s.toks) {s with toks:=s.toks+1}->wpAny (model X.prog X.w) X.A (f (.int i t) (.int j u)) Q E s) :
  pJ X f (rI C λi j=>.int (g i j)):=by
 intro n s o H x y v u Q I l k h;obtain⟨i,j,rfl,rfl,e,q⟩:=h;obtain⟨t,rfl⟩:=l;obtain⟨m,rfl⟩:=k;exact d i j t m s _ _ e ⟨.int (g i j),H,I.tok _,⟨_,rfl⟩,q⟩
def P6{g:Int->Int->Int}
  (d:∀i j t u s Q E,Q (.int (g i j) s.toks) {s with toks:=s.toks+1}->wpAny (model X.prog X.w) X.A (f (.int i t) (.int j u)) Q E s) :
  pJ X f (CB λi j=>.int (g i j)):=by
 intro m s n H x y v u Q I k e h;obtain⟨i,j,rfl,rfl,q⟩:=h;obtain⟨t,rfl⟩:=k;obtain⟨l,rfl⟩:=e;exact d i j t l s _ _ ⟨.int (g i j),H,I.tok _,⟨_,rfl⟩,q⟩
def LA{g:Int->Int->Bool}
  (d:∀(i j:Int) (t u:Tok) (s:Shared) (Q:Vq->Shared->Prop) (E:Vq->Shared->Prop),Q (.bool (g i j)) s->wpAny (model X.prog X.w) X.A (f (.int i t) (.int j u)) Q E s) :
  pJ X f (CB λi j=>.bl (g i j)):=by
 intro m s n H x y v u Q I k e h;obtain⟨i,j,rfl,rfl,q⟩:=h;obtain⟨t,rfl⟩:=k;obtain⟨l,rfl⟩:=e;exact d i j t l s _ _ ⟨.bl (g i j),H,I,rfl,q⟩
def QG(i j:Int):Prop:=0<=j/\j<=1000000/\i.natAbs<2 ^ 64
def Oh:pJ X (binaryOp .Add) (CB λi j=>.int (i+j)):=P6 λ_ _ _ _ _ _ _ q=>add_int q
def M4:pJ X (binaryOp .Sub) (CB λi j=>.int (i-j)):=P6 λ_ _ _ _ _ _ _ q=>sub_int q
def Ki:pJ X (binaryOp .Mod) (rI (λ_ j=>j≠0) λi j=>.int (i.fmod j)):=Rl λ_ _ _ _ _ _ _ d q=>mod_int' d q
def OI:pJ X (binaryOp .Pow) (rI QG λi j=>.int (i ^ j.toNat)):=Rl λ_ _ _ _ _ _ _ d q=>pow_int_small d.1 d.2.1 d.2.2 q
def To{g:Int->Int}
  (d:∀i t s Q E,Q (.int (g i) s.toks) {s with toks:=s.toks+1}->wpAny (model X.prog X.w) X.A (f (.int i t)) Q E s) :
  RU X f (rU λi=>.int (g i)):=by
 intro j s k H x v Q I e h;obtain⟨i,rfl,q⟩:=h;obtain⟨t,rfl⟩:=e;exact d i t s _ _ ⟨.int (g i),H,I.tok _,⟨_,rfl⟩,q⟩
def OP:RU X (unaryOp .USub) (rU λi=>.int (-i)):=To λ_ _ _ _ _ q=>neg_int q
end
section
variable {X:Cx}{a b c:Expr}{ta tb tc:TE}{pos:Pos}
def Hn(I:gJ X fT σ H s)(q:Q (.bl k) H)(e:k=k'):EP X fT σ Q (.bool k') s:=by subst e;exact⟨.bl k,H,I,rfl,q⟩
def rW:pJ X (compareOp .Lt) (CB λi j=>.bl (decide (i<j))):=LA λ_ _ _ _ _ _ _ q=>lt_int q
def wm:pJ X (compareOp .LtE) (CB λi j=>.bl (decide (i<=j))):=LA λ_ _ _ _ _ _ _ q=>le_int q
def uE:pJ X (compareOp .Gt) (CB λi j=>.bl (decide (j<i))):=LA λ_ _ _ _ _ _ _ q=>gt_int q
def Ax:pJ X (compareOp .GtE) (CB λi j=>.bl (decide (j<=i))):=LA λ_ _ _ _ _ _ _ q=>ge_int q
def wL:pJ X (compareOp .Is) (λx y H Q=>y=.non/\Q (.bl (decide (x=.non))) H):=by
 intro f s g H x y v u Q I d e h;obtain⟨rfl,q⟩:=h;cases e;refine is_none_gen (Hn I q ?_);cases x<;>first
  | (cases d;rfl)
  | (obtain⟨t,rfl⟩:=d;rfl)
def oN:pJ X (compareOp .IsNot) (λx y H Q=>y=.non/\Q (.bl (!decide (x=.non))) H):=by
 intro f s g H x y v u Q I d e h;obtain⟨rfl,q⟩:=h;cases e;refine isnot_none_gen (Hn I q ?_);cases x<;>first
  | (cases d;rfl)
  | (obtain⟨t,rfl⟩:=d;rfl)
def tQ b (h:op≠.In:=by decide) (f:op≠.NotIn:=by decide):behindInMarks op b=false:=by
 have d:(op==CmpOp.In)=false:=by cases op<;>first|rfl|exact absurd rfl h
 have e:(op==CmpOp.NotIn)=false:=by cases op<;>first|rfl|exact absurd rfl f
 cases b<;>simp[behindInMarks,d,e]
def LH(m:pJ X (compareOp op) r)(n:PE X a ta)(i:PE X b tb)(d:behindInMarks op b=false):PE X (.Compare a [op] [b] pos) (uh r ta tb):=by intro e s o H Q I h;exact wpAny_Compare1 (Pb n i I h λv u f x y g j l k q=>m e f o g x y v u Q j l k q) d
def AE(t:TE):TT:=λe H Q=>t e H λx d=>∃k,x=.bl k/\Q k d
def KY(i:pJ X (compareOp op) r)(l:PE X a ta)(j:PE X b tb)(g:behindInMarks op b=false):PT X (.Compare a [op] [b] pos) (AE (uh r ta tb)):=by
 intro d s f H Q I h;refine wpAny_isTrue_Compare1 (jU (l d s f H _ I h) λv s1 ⟨x,H1,I1,r1,q1⟩=>jU (j d s1 f H1 _ I1 q1) λu s2 ⟨y,H2,I2,r2,q2⟩=>jU (i d s2 f H2 x y v u _ I2 r1 r2 q2) λc s3 ⟨z,H3,I3,r3,k,e,q3⟩=>?_) g
 subst e;cases r3;exact wpAny_truthy_bool ⟨H3,I3,q3⟩
def BN(r i:R2)(ta tb tc:TE):TE:=λd H Q=>ta d H λx g=>tb d g λy f=>r x y f λz e=>∃k,z=.bl k/\
 (if k=true then tc d e λj h=>i y j h Q else Q (.bl false) e)
theorem IK(l:pJ X (compareOp op) r)(i:pJ X (compareOp op') r')(o:PE X a ta)(n:PE X b tb)(m:PE X c tc)
  (j:lastMarks [op,op'] [b,c]=false:=by with_unfolding_all rfl):PE X (.Compare a [op,op'] [b,c] pos) (BN r r' ta tb tc):=by
 intro f s g H Q I h;refine Compare_chain (jU (o f s g H _ I h) λv s1 ⟨x,H1,I1,r1,q1⟩=>chain_link (jU (n f s1 g H1 _ I1 q1) λu s2 ⟨y,H2,I2,r2,q2⟩=>jU (l f s2 g H2 x y v u _ I2 r1 r2 q2) λd s3 ⟨z,H3,I3,r3,k,e,q3⟩=>?_)) j
 subst e;cases r3;refine wpAny_truthy_bool ?_;cases k with
 |false=>exact ite_ff ⟨.bl false,H3,I3,rfl,q3⟩
 |true=>exact ite_tt (chain_last (jU (m f s3 g H3 _ I3 q3) λw' s4 ⟨z',H4,I4,r4,q4⟩=>i f s4 g H4 y z' u w' Q I4 r2 r4 q4))
def zL:(sizeLine:Nat)<2 ^ 63:=by rw[sizeLine_eq];decide
def B6:pJ X (binaryOp .Add) (λx y H Q=>∃i j,x=.str i/\y=.str j/\i.length+j.length<=sizeLine/\Q (.str (i++j)) H):=by intro k s m H x y v u Q I f e h;obtain⟨i,j,rfl,rfl,d,q⟩:=h;obtain⟨t,rfl⟩:=f;obtain⟨g,rfl⟩:=e;exact add_str (λg l=>⟨.str (i++j),H,I.tok _,⟨_,rfl⟩,q⟩) d
def nI(r:hW [x] us):∃u,us=[u]/\iH x u:=by
 cases r with
 |cons r1 r2=>cases r2;exact⟨_,rfl,r1⟩
def Mr(r:hW [x,y] us):∃u d,us=[u,d]/\iH x u/\iH y d:=by
 cases r with
 |cons r1 r2=>
  cases r2 with
  |cons r3 r4=>cases r4;exact⟨_,_,rfl,r1,r3⟩
def p7:kg X (.builtin "abs") (λxs H Q=>∃i,xs=[.int i]/\Q (.int (if i<0 then -i else i)) H):=by intro e s g H xs d Q I r h;obtain⟨i,rfl,q⟩:=h;obtain⟨u,rfl,t,rfl⟩:=nI r;exact call_abs_int λu f=>⟨.int (if i<0 then -i else i),H,I.tok _,⟨_,rfl⟩,q⟩
def FO(e:X.calm=true):kg X (.builtin "min") (λxs H Q=>∃i j,xs=[.int i,.int j]/\Q (.int (if j<i then j else i)) H):=by
 intro g s p H xs f Q I r h;obtain⟨i,j,rfl,q⟩:=h;obtain⟨u,n,rfl,⟨t,rfl⟩,⟨o,rfl⟩⟩:=Mr r;refine min_two_ints (I.ok.hd e) λm l k=>⟨_,H,I.kept k,?_,q⟩;by_cases d:j<i
 .rw[aP d,aP d];exact⟨_,rfl⟩
 .rw[aQ d,aQ d];exact⟨_,rfl⟩
def tE:kg X (.type "int") (λxs H Q=>(∃i,xs=[.int i]/\Q (.int i) H)\/∃k,xs=[.bl k]/\Q (.int (if k then 1 else 0)) H):=by
 intro f s g H xs e Q I r h;rcases h with⟨i,rfl,q⟩|⟨k,rfl,q⟩
 .obtain⟨u,rfl,t,rfl⟩:=nI r;exact call_int_int ⟨.int i,H,I,⟨_,rfl⟩,q⟩
 .obtain⟨u,rfl,d⟩:=nI r;cases d;exact call_int_bool ⟨.int (if k then 1 else 0),H,I.tok _,⟨_,rfl⟩,q⟩
def N8(K:W.Frag)(x:V)(H:Hp)(n:Nat):Prop:=
 match x with
 |.str y=>y.length<=sizeLine/\n=y.length
 |.byt y=>y.size<=sizeLine/\n=y.size
 |.ref p=>(∃d,lC K H p d/\n=d.length)\/∃d,mD K H p d/\n=d.length
 |_=>False
def GV:kg X (.builtin "len") (λxs H Q=>∃x n,xs=[x]/\N8 X.K x H n/\Q (.int n) H):=by
 intro v s z H xs o Q I r h;obtain⟨x,n,rfl,e,q⟩:=h;obtain⟨u,rfl,k⟩:=nI r;have w:=sizeLine_eq;cases x with
 |str y=>obtain⟨t,rfl⟩:=k;obtain⟨hy,d⟩:y.length<=sizeLine/\n=y.length:=e;subst d;exact len_str (by omega) ⟨.int _,H,I.tok _,⟨_,rfl⟩,q⟩
 |byt y=>obtain⟨t,rfl⟩:=k;obtain⟨hy,d⟩:y.size<=sizeLine/\n=y.size:=e;subst d;exact W.len_bytes (by omega) ⟨.int _,H,I.tok _,⟨_,rfl⟩,q⟩
 |ref p=>
  cases k;have d:=e;rcases d with⟨xs,g,d⟩|⟨xs,g,d⟩
  .subst d;obtain⟨f,i,l,m⟩:=I.list g;have j:=i.length;exact Calls.call_len_list l.isList (by simp only[bF];omega) ⟨.int xs.length,H,I.tok _,⟨_,by simp only[bF];rw[j]⟩,q⟩
  .subst d;obtain⟨f,i,l,m⟩:=I.tuple g;have j:=i.length;exact len_tuple l (by simp only[bF];omega) ⟨.int xs.length,H,I.tok _,⟨_,by simp only[bF];rw[j]⟩,q⟩
 |_=>exact (e).elim
end
end L2
namespace L2
open PySem PySem.Spec PyProof.Rows
structure C7(h:Heap)(x dx C:Addr)(mA:Str->Option Value):Prop where
 obj:h.get? x=some (W.instObj C dx)
 ns:h.Ns1 dx mA
 ne:dx≠x
def Fp{h:Heap}(n:h.Ns1 dx mA):∃d,h.get? dx=some d/\∀name,W.lookIn name d=some (mA name):=by
 obtain⟨o,c,m,k,l,g,_,f⟩:=n;refine⟨o,k,λname=>?_⟩;have e:=f name;unfold nsFind findBy at e;rw[<-Array.find?_toList]at e;unfold W.lookIn;rw[l];dsimp only;split
 .rename_i y q;rw[q]at e;exact congrArg some e
 .rename_i q;rw[q]at e;have a:c.toList.any (·.refKey)=false:=by rw[bG];intro y j;obtain⟨z,t,b⟩:=g y (Array.mem_toList_iff.mp j);simp[DictEntry.refKey,b]
  have i:¬c.toList.any (·.refKey)=true:=by rw[a];exact aG
  rw[aQ i];exact congrArg some e
def C7.look(I:C7 h x dx C mA):∃a,W.InstAt h x (W.instObj C dx) C (some a)/\∀name,W.lookIn name a=some (mA name):=
 let ⟨a,ho,hl⟩:=Fp I.ns
 ⟨a,⟨I.obj,rfl,rfl,ho⟩,hl⟩
section
variable {prog:Program}{w:World}{A:Around}{E:Vq->Shared->Prop}{s:Shared}{K:W.Frag}{x dx C f:Addr}{mA:Str->Option Value}{name:Str}{v:Vq}
def LC(X:K.In s.heap)(I:C7 s.heap x dx C mA)(d:W.plainGet K C name=true)(b:W.hasDictIn K C=true)
  (g:W.findIn K (.ref C) name=some none) (e:mA name=some v) (a:W.handedIn v=true) (h:Q v {s with toks:=s.toks+1}) :
  wpAny (model prog w) A (getAttr (.ref x) name expr) Q E s:=by
 obtain⟨i,J,c⟩:=I.look;exact W.get_value X J (W.plainGet_of d).1 (W.findObj_own b g rfl (by rw[c,e])) a h
def IH(X:K.In s.heap)(I:C7 s.heap x dx C mA)(a:W.plainGet K C name=true)
  (g:W.findIn K (.ref C) name=some (some (.ref f))) (b:W.isFn K (.ref f)=true) (d:mA name=none) (h:Q (.ref f,[.ref x]) s) :
  wpAny (model prog w) A (getMethod (.ref x) name pl) Q E s:=by
 obtain⟨e,J,c⟩:=I.look;exact W.method_fn X J (W.plainGet_of a).1 (W.plainGet_of a).2 g (beq_iff_eq.mp b) (by show (W.lookIn name e).map (·.isSome)=some false;rw[c,d];rfl) h
def JU(X:K.In s.heap)(I:C7 s.heap x dx C mA)
  (k:W.findIn K (.ref C) "__setattr__" = some (some (.builtin "object.__setattr__"))) (r:W.plainOver K C=true) (m:W.takerIn K C name=some none) (n:W.hasDictIn K C=true)
  (hw:PySem.Within mA ns) (hsz:ns.length<=sizeLine)
  (h:∀d,C7 d x dx C (λy=>if y=name then some v else mA y)->Heap.SameBut dx s.heap d->Q () {s with heap:=d,toks:=s.toks+2}) :
  wpAny (model prog w) A (setAttr (.ref x) name v) Q E s:=by
 obtain⟨B,J,D⟩:=I.look;refine W.set_plain X J k (W.osa_open X J r m λb=>?_);obtain⟨z,o,g⟩:=W.any_some n;have l:=I.obj;refine ao (ak (ao (ao (wpAny_loadPart l (ao (W.Looks.here (W.looks_clsIn X o) ?_))))));rw[g];refine ak (ao (ak (ao ?_)));refine wpAny_nsSet1 I.ns λd a c=>?_;obtain⟨u,q,p,j,i,e⟩:=a.count (PySem.Within.cons name v hw);refine ao (wpAny_lookBehind j (by rw[i];exact pastItsLine_dict (aM e (by rw[ay];omega))) ?_);exact ak (h _ ⟨(c.2 _ (Ne.symm I.ne)).trans I.obj,a,I.ne⟩ c)
def GH(X:K.In s.heap)(b:W.makesIn K C=true)
  (c:W.findIn K (.ref C) "__init__" = some (some (.ref f))) (e:W.typeIn K (.ref f)=some (.type "function"))
  (h:codeAny (model prog w) (A.under (.builtin "type.__call__" ⟨.ref C::vs,kw⟩)) (.call (.ref f) ⟨.ref (s.heap.objs.size+1)::vs,kw⟩) (W.InitBack (s.heap.objs.size+1) R)
   {s with heap:=(s.heap.push W.emptyDict).push (W.instObj C s.heap.objs.size)}) :
  codeAny (model prog w) A (.call (.ref C) ⟨vs,kw⟩) R s:=by
 obtain⟨j,g,d,t,i⟩:=s;exact W.make_core (W.makes_of X b) (W.looks_findIn X c) (λa=>W.bind_fn X a e) (.inl rfl) h
end
def pH(f:Str)(v:V):List (Str×V)->List (Str×V)
 |[]=>[(f,v)]
 | (g,x)::r=>if g=f then (g,v)::r else (g,x)::pH f v r
theorem ux f g v:∀fs:List (Str×V),(pH f v fs).lookup g=if g=f then some v else fs.lookup g
 |[]=>by
  show List.lookup g [(f,v)]=_;by_cases h:g=f
  .have a:=beq_iff_eq.mpr h;simp only[List.lookup,a,aP h]
  .have a:=beq_eq_false_iff_ne.mpr h;simp only[List.lookup,a,aQ h]
 | (k,x)::r=>by
  have c:=ux f g v r;rw[show pH f v ((k,x)::r)=(if k=f then (k,v)::r else (k,x)::pH f v r) from rfl];by_cases b:k=f
  .rw[aP b];by_cases h:g=k
   .have a:=beq_iff_eq.mpr h;simp only[List.lookup,a,aP (h.trans b)]
   .have a:=beq_eq_false_iff_ne.mpr h;simp only[List.lookup,a,aQ (λe:g=f=>h (e.trans b.symm))]
  .rw[aQ b];by_cases h:g=k
   .have a:=beq_iff_eq.mpr h;simp only[List.lookup,a,aQ (λe:g=f=>b (h.symm.trans e))]
   .have a:=beq_eq_false_iff_ne.mpr h;simp only[List.lookup,a];exact c
theorem tU f v:∀fs:List (Str×V),f∈(pH f v fs).map (·.1)/\∀g,g∈fs.map (·.1)->g∈(pH f v fs).map (·.1)
 |[]=>⟨by simp[pH],λg h=>by simp at h⟩
 | (k,x)::r=>by
  obtain⟨c,b⟩:=tU f v r;rw[show pH f v ((k,x)::r)=(if k=f then (k,v)::r else (k,x)::pH f v r) from rfl];by_cases a:k=f
  .rw[aP a];subst a;exact⟨by simp,λg h=>by simpa using h⟩
  .rw[aQ a];refine⟨?_,λg h=>?_⟩
   .rw[bH];exact bx _ c
   .rw[bH]at h ⊢;rcases aE.mp h with e|e
    .exact aE.mpr (.inl e)
    .exact bx _ (b g e)
theorem uw f v:∀fs:List (Str×V),(pH f v fs).length<=fs.length+1
 |[]=>by simp[pH]
 | (k,x)::r=>by
  have b:=uw f v r;rw[show pH f v ((k,x)::r)=(if k=f then (k,v)::r else (k,x)::pH f v r) from rfl];by_cases a:k=f
  .rw[aP a,ay,ay];omega
  .rw[aQ a,ay,ay];omega
def uO.some_of(r:uO (some v) o):∃u,o=some u/\iH v u:=by
 cases o with
 |none=>exact (r).elim
 |some u=>exact⟨u,rfl,r⟩
def uO.none_of(r:uO none o):o=none:=by
 cases o with
 |none=>rfl
 |some u=>exact (r).elim
def FU(r:iH v u):W.handedIn u=true:=by
 cases v with
 |non=>cases (r);rfl
 |bl b=>cases (r);rfl
 |int i=>obtain⟨t,e⟩:=(r);cases e;rfl
 |str x=>obtain⟨t,e⟩:=(r);cases e;rfl
 |byt b=>obtain⟨t,e⟩:=(r);cases e;rfl
 |flt b=>obtain⟨t,e⟩:=(r);cases e;rfl
 |ref a=>cases (r);rfl
 |ty n=>cases (r);rfl
section
variable {P:Program}{w:World}{H H':Hp}{h h':Heap}{a C dx:Addr}{fs fs':List (Str×V)}
def uU(c:qP P w H h)(e:H a=some (.ins C dx fs)):∃b,C7 h a dx C b/\(∀f,uO (fs.lookup f) (b f))/\PySem.Within b (fs.map (·.1))/\fs.length<=1000/\H dx=some (.own a):=by obtain⟨d,z,ne,g,b,n,r,q⟩:=(c a _ e);exact⟨b,⟨g,n,ne⟩,r,q,z,d⟩
end
structure yr(K:W.Frag)(C:Addr):Prop where
 pg:W.plainGet K C Str.empty=true
 hd:W.hasDictIn K C=true
 po:W.plainOver K C=true
 sa:W.findIn K (.ref C) "__setattr__" = some (some (.builtin "object.__setattr__"))
def yr.get{K:W.Frag}(c:yr K C) f:W.plainGet K C f=true:=c.pg
def lJ(K:W.Frag)(C:Addr)(f:Str):Prop:=W.findIn K (.ref C) f=some none
def lJ.taker{K:W.Frag}(n:lJ K C f):W.takerIn K C f=some none:=by unfold W.takerIn;rw[show W.findIn K (.ref C) f=some none from n];rfl
structure KP(K:W.Frag)(C:Addr)(m:Str)(f:Addr):Prop where
 at_:W.findIn K (.ref C) m=some (some (.ref f))
 fn:W.isFn K (.ref f)=true
 kp:W.keepIn K (.ref f)=true
section
variable {X:Cx}{fT:List (Addr×Obj)}{σ:St}{H:Hp}{s:Shared}{a C dx:Addr}{fs:List (Str×V)}{f:Str}{v:V}{A:Around}{E:Vq->Shared->Prop}
def CJ(I:gJ X fT σ H s)(e:H a=some (.ins C dx fs))(c:yr X.K C)(n:lJ X.K C f)(l:fs.lookup f=some v)
  (h:∀u g,gJ X fT σ H g->iH v u->Q u g):wpAny (model X.prog X.w) A (getAttr (.ref a) f b) Q E s:=by
 obtain⟨j,O,r,_,_,_⟩:=uU I.hok e;obtain⟨u,i,d⟩:=uO.some_of (by rw[<-l];exact r f);exact LC I.kIn O (c.get f) c.hd n i (FU d) (h u _ (I.tok _) d)
def CT(I:gJ X fT σ H s)(e:H a=some (.ins C dx fs))(c:yr X.K C)(k:KP X.K C m g)(l:fs.lookup m=none)
  (h:Q (.ref g,[.ref a]) s):wpAny (model X.prog X.w) A (getMethod (.ref a) m pl) Q E s:=by
 obtain⟨d,O,r,_,_,_⟩:=uU I.hok e;have b:=uO.none_of (by rw[<-l];exact r m);exact IH I.kIn O (c.get m) k.at_ k.fn b h
def BZ(I:gJ X fT σ H s)(e:H a=some (.ins C dx fs))(c:yr X.K C)(n:lJ X.K C f)(L:fs.length<1000)(B:iH y u)
  (h:∀i,gJ X fT σ (ju H a (.ins C dx (pH f y fs))) i->Q () i):wpAny (model X.prog X.w) A (setAttr (.ref a) f u) Q E s:=by
 obtain⟨D,O,r,j,_,k⟩:=uU I.hok e;have l:(fs.map (·.1)).length<=sizeLine:=by rw[aw,sizeLine_eq];omega
 refine JU I.kIn O c.sa c.po n.taker c.hd j l λx d p=>h _ ?_;have F:∃o,x.get? dx=some o:=let ⟨o,_,_,e',_⟩:=d.ns;⟨o,e'⟩;refine I.write (by rw[e];exact True.intro) (.inr k) (λb q m z=>(p.2 b m).trans z) F ?_;refine⟨by rw[gA O.ne];exact k,?_,O.ne,d.obj,_,d.ns,λg=>?_,λg J=>?_⟩
 .have:=uw f y fs;omega
 .rw[ux];by_cases q:g=f
  .rw[aP q,aP q];exact B
  .rw[aQ q,aQ q];exact r g
 .by_cases q:g=f
  .rw[q];exact (tU f y fs).1
  .refine (tU f y fs).2 g (j g λz=>J ?_);show (if g=f then some u else D g)=none;rw[aQ q];exact z
def gJ.made(I:gJ X fT σ H s):gJ X fT σ (ju (ju H s.heap.objs.size (.own (s.heap.objs.size+1))) (s.heap.objs.size+1) (.ins C s.heap.objs.size []))
  {s with heap:=(s.heap.push W.emptyDict).push (W.instObj C s.heap.objs.size)}:=by
 have c:(s.heap.push W.emptyDict).get? s.heap.objs.size=some W.emptyDict:=ar s.heap rfl;have g:((s.heap.push W.emptyDict).push (W.instObj C s.heap.objs.size)).get? (s.heap.objs.size+1)=some (W.instObj C s.heap.objs.size):=by have:=ar (s.heap.push W.emptyDict) (o:=W.instObj C s.heap.objs.size) rfl;rwa [Heap.size_push]at this
 have d:(s.heap.push W.emptyDict).Ns s.heap.objs.size (λ_=>none):=⟨W.emptyDict,#[],_,c,rfl,(λe i=>absurd i (by simp)),λ_=>rfl⟩;have h:=I.laid (o:=.own (s.heap.objs.size+1)) (t':=s.toks) (λb u q=>ae _ q) (aJ _) ⟨_,c⟩;refine h.laid (λb u q=>ae _ q) (Nat.le_of_eq (Heap.size_push _ _)) ?_;have ne:s.heap.objs.size≠s.heap.objs.size+1:=aL (bI _);refine⟨by rw[gA ne,gB],bJ _,ne,g,λ_=>none,(Heap.Ns1.of_empty d).at λo q=>ae _ q,λ_=>True.intro,λy j=>absurd rfl j⟩
def LP(c:attributeBase e f env (eval e env)=eval e env)
  (h:wpAny (model prog w) A (eval e env) (λo b=>wpAny (model prog w) A (getAttr o f true) Q E b) E s):wpAny (model prog w) A (eval (.Attribute e f pos) env) Q E s:=
 Attribute_any_ h (by rw[arm_eval_Attribute,c])
end
def Oy(K:W.Frag)(d:TE)(f:Str):TE:=λe H Q=>d e H λx b=>∃a C c fs v,x=.ref a/\b a=some (.ins C c fs)/\yr K C/\lJ K C f/\fs.lookup f=some v/\Q v b
def Ny(K:W.Frag)(g h:TE)(f:Str):TS:=λD b H=>h b H λy e=>g b e λx c=>∃a C d fs,x=.ref a/\c a=some (.ins C d fs)/\yr K C/\lJ K C f/\fs.length<1000/\
 D.nx b (ju c a (.ins C d (pH f y fs)))
section
variable {X:Cx}{o e value:Expr}{f:Str}{pos pos' tpos:Pos}{ta tv:TE}
def OF(k:PE X e ta)(g:attributeBase e f X.env (eval e X.env)=eval e X.env):PE X (.Attribute e f pos) (Oy X.K ta f):=by intro b s d H Q I h;refine LP g (jU (k b s d H _ I h) λu s1 ⟨x,H1,I1,rx,a,C,dx,fs,v,ex,ea,c,n,l,q⟩=>?_);subst ex;obtain rfl:u=Value.ref a:=rx;exact CJ I1 ea c n l λm p j i=>⟨v,H1,j,i,q⟩
def Ii(k:PE X o ta)(i:PE X value tv)(j:swapsWith value (some (.Attribute o f pos')) pos.line X.env=pure false):PS X (.Assign [.Attribute o f pos'] value pos) (Ny X.K ta tv f):=by intro d s b H D I h;refine plainObj_wpAny_Assign_Attribute (jU (i d s b H _ I h) λu s1 ⟨y,H1,I1,ry,q⟩=>jU (k d s1 b H1 _ I1 q) λov s2 ⟨x,H2,I2,rx,a,C,dx,fs,ex,ea,c,n,l,q2⟩=>?_) j;subst ex;obtain rfl:ov=Value.ref a:=rx;exact BZ I2 ea c n l ry λm g=>⟨b,_,g,q2⟩
end
section
variable {X:Cx}{fT:List (Addr×Obj)}{σ:St}{H:Hp}{s:Shared}{A:Around}{E:Vq->Shared->Prop}{Q:Vq->Shared->Prop}{c:Vq}{b:Bool}
inductive pX(K:W.Frag)(H:Hp):V->Value->Prop where
 |non:pX K H .non (.type "NoneType")
 |bl (x:Bool):pX K H (.bl x) (.type "bool")
 |int (i:Int):pX K H (.int i) (.type "int")
 |str (x:Str):pX K H (.str x) (.type "str")
 |flt (x:UInt64):pX K H (.flt x) (.type "float")
 |lst {a:Addr} {xs:List V} (e:H a=some (.lst xs)):pX K H (.ref a) (.type "list")
 |frz {a:Addr} {o:Obj} {xs:List V} (e:H a=some (.frz o (.lst xs))):pX K H (.ref a) (.type "list")
 |tup {a:Addr} {xs:List V} (e:H a=some (.tup xs)):pX K H (.ref a) (.type "tuple")
 |dK {a:Addr} {kvs:List (pI×V)} (e:H a=some (.dK kvs)):pX K H (.ref a) (.type "dict")
 |dT {a:Addr} {kvs:List (List pI×V)} (e:H a=some (.dT kvs)):pX K H (.ref a) (.type "dict")
 |ins {a C dx:Addr} {fs:List (Str×V)} (e:H a=some (.ins C dx fs)) (cl:yr K C) (ha:W.findIn K (.ref C) "__class__" = some (some (.builtin "object.__class__")))
   (hn:W.specialIn K (.builtin "object.__class__") "__get__" = some (some (.builtin "getset_descriptor.__get__"))) (htk:W.takesIn K (.builtin "object.__class__")=some true)
   (hm:W.mroIn K C (.type "object")=some true):pX K H (.ref a) (.ref C)
def Fe(I:gJ X fT σ H s)(d:iH x u)(ty:pX X.K H x t)(e:W.kitOne X.K t c=some b)(h:∀l,Q (.bool b) {s with toks:=l}) :
  wpAny (model X.prog X.w) A (call (.builtin "isinstance") [u,c]) Q E s:=by
 cases ty with
 |non=>cases (d);exact W.kia_one W.kitx_none I.kIn True.intro e (λz=>nomatch z) h
 |bl y=>cases (d);exact W.kia_one W.kitx_bool I.kIn True.intro e (λz=>nomatch z) h
 |int i=>obtain⟨t,q⟩:=(d);cases q;exact W.kia_one W.kitx_int I.kIn True.intro e (λz=>nomatch z) h
 |str y=>obtain⟨t,q⟩:=(d);cases q;exact W.kia_one W.kitx_str I.kIn True.intro e (λz=>nomatch z) h
 |flt y=>obtain⟨t,q⟩:=(d);cases q;exact W.kia_one W.kitx_float I.kIn True.intro e (λz=>nomatch z) h
 |@lst a j ea=>cases (d);obtain⟨_,_,n,_,f⟩:=(I.hok a _ ea);exact W.kia_one W.kitx_list I.kIn ⟨_,f,rfl⟩ e (λz=>nomatch z) h
 |@frz a ob j ea=>cases (d);obtain⟨_,_,_,n,_,f⟩:=(I.hok a _ ea);exact W.kia_one W.kitx_list I.kIn ⟨_,f,rfl⟩ e (λz=>nomatch z) h
 |@tup a j ea=>cases (d);obtain⟨_,_,_,p⟩:=(I.hok a _ ea);obtain⟨o,f,g,_⟩:=p;exact W.kia_one W.kitx_tuple I.kIn ⟨o,f,g⟩ e (λz=>nomatch z) h
 |@dK a kvs ea=>cases (d);obtain⟨_,_,v,_,p⟩:=(I.hok a _ ea);obtain⟨o,k,m,f,g,_⟩:=p;exact W.kia_one W.kitx_dict I.kIn ⟨o,f,g.1⟩ e (λz=>nomatch z) h
 |@dT a kvs ea=>cases (d);obtain⟨_,_,j,_,o,k,m,f,g,_⟩:=(I.hok a _ ea);exact W.kia_one W.kitx_dict I.kIn ⟨o,f,g.1⟩ e (λz=>nomatch z) h
 |@ins a C dx fs ea cl ha hn htk hm=>cases (d);obtain⟨B,O,_⟩:=uU I.hok ea;obtain⟨r,J,_⟩:=O.look;exact W.kia_one (W.kitx_own (cl.get _) cl.hd ha hn htk hm) I.kIn J e (λz=>nomatch z) h
end
end L2
namespace L2
open PySem PySem.Spec PyProof.Rows
structure i6(k:Nat)(A:Around):Prop where
 hd:A.handled=none
 dp:A.depth+3*k+5<recursionLimit
 un:A.units+16*k+200<cLine
 gd:A.guards=some []
def i6.mono(r:i6 k A)(h:j<=k):i6 j A:=⟨r.hd,by have:=r.dp;omega,by have:=r.un;omega,r.gd⟩
def i6.deeper(r:i6 (k+1) A) env:i6 k (A.deeper env):=⟨r.hd,by have:=r.dp;show A.depth+1+3*k+5<_;omega,by have:=r.un;show A.units+3+16*k+200<_;omega,r.gd⟩
def C0{A:Around}:(A.under (.builtin "type.__call__" ⟨.ref C::us,kw⟩)).depth=A.depth+1:=by first|rfl|simp[Around.under,Code.weight,Code.isCreation,Code.isGuard,Code.isCaller,Code.frames,Code.isFrame,guardIds]
def CS{A:Around}:(A.under (.builtin "type.__call__" ⟨.ref C::us,kw⟩)).units=A.units+1:=by first|rfl|simp[Around.under,Code.cUnits,Code.frames,Code.isFrame]
def i6.make(r:i6 (k+1) A) C us kw:i6 k (A.under (.builtin "type.__call__" ⟨.ref C::us,kw⟩)):=⟨r.hd,by have:=r.dp;rw[C0];omega,by have:=r.un;rw[CS];omega,r.gd⟩
def i6.depth(r:i6 k A):A.depth<recursionLimit:=by have:=r.dp;omega
def i6.units(r:i6 k A):A.units+64<cLine:=by have:=r.un;omega
def qQ:TA:=λ_ H Q=>Q [] H
def nK(f:TE)(b:TA):TA:=λa H Q=>f a H λx d=>b a d λe c=>Q (x::e) c
section
variable {X:Cx}{e:Expr}{es:List Expr}{te:TE}{t:TA}{pos:Pos}
def rD:PA X [] qQ:=λ_ _ _ _ H Q I h=>Calls.spliced_nil ⟨[],H,I,.nil,h⟩
def nO(d:PE X e te)(hr:PA X es t)(c:starEach (e::es) X.env=(false,eval e X.env)::starEach es X.env:=by rfl):PA X (e::es) (nK te t):=by intro pos a s b H Q I h;rw[c];refine Calls.spliced_cons (jU (d a s b H _ I h) λu s1 ⟨x,H1,I1,r1,q1⟩=>?_);exact jU (hr pos a s1 b H1 _ I1 q1) λus s2 ⟨xs,H2,I2,r2,q2⟩=>⟨x::xs,H2,I2,.cons r1 r2,q2⟩
def NT(t:TA):TE:=λc H Q=>t c H λb a=>b.length<=sizeLine/\∀p,a p=none->Q (.ref p) (ju a p (.tup b))
def MQ(t:TA):TE:=λc H Q=>t c H λb a=>b.length<=sizeLine/\∀p,a p=none->Q (.ref p) (ju a p (.lst b))
def NW{x1}(h:PA X es t):PE X (.Tuple es x1 pos) (NT t):=by intro c s f H Q I a;refine wpAny_Tuple_spliced (jU (h pos c s f H _ I a) λus s1 ⟨xs,H1,I1,r,z,q⟩=>⟨by rw[<-r.length];exact z,?_⟩);have d:=I1.hok.fresh (aJ _);refine⟨.ref s1.heap.objs.size,ju H1 s1.heap.objs.size (.tup xs),I1.laid (λb u e=>ae _ e) (aJ _) ?_,rfl,q _ d⟩;exact⟨z,us,r,⟨_,ar _ rfl,rfl,_,rfl,rfl⟩⟩
def Nm(h:PA X es t):PE X (.List es pos) (MQ t):=by intro c s f H Q I a;refine wpAny_List_spliced (jU (h pos c s f H _ I a) λus s1 ⟨xs,H1,I1,r,z,q⟩=>⟨by rw[<-r.length];exact z,?_⟩);have d:=I1.hok.fresh (aJ _);refine⟨.ref s1.heap.objs.size,ju H1 s1.heap.objs.size (.lst xs),I1.laid (λb u e=>ae _ e) (aJ _) ?_,rfl,q _ d⟩;exact⟨z,us,0,r,ar _ rfl⟩
end
abbrev Sp:=List V->Hp->VK->XK->Prop
abbrev K2:=List Env->Hp->Shared->XK->Value->Shared->Prop
structure Cm(P:Program)(w:World)(K:W.Frag)(mg:Str->Option Value)(base:Heap)(A:Around)(outer:List Env)(s:Shared)(H:Hp):Prop where
 frames:A.frames=some outer
 mod:Mod K mg base
 bs:∀b o,base.get? b=some o->s.heap.get? b=some o/\H b=none
 bsz:base.objs.size<=s.heap.objs.size
 funs:s.heap.FunFrames base outer
 frf:∀b∈Fd outer,H b=none
 hok:qP P w H s.heap
 bare:AllBare s.gens
 tab:Gs base H
def CE(a:List Env)(P:Program)(w:World)(H:Hp)(s:Shared)(Q:VK)(u:Vq)(b:Shared):Prop:=∃v c,b.os=s.os/\AllBare b.gens/\Un (Fd a) [] H c s.heap b.heap/\qP P w c b.heap/\iH v u/\Q v c
def CR(c:K2)(a:List Env)(P:Program)(w:World)(H:Hp)(s:Shared)(Q:VK)(E:XK)(r:Result)(b:Shared):Prop:=
 match r with
 |.ok (.ret u)=>CE a P w H s Q u b
 |.ok _=>False
 |.error e=>c a H s E e b
structure nh(P:Program)(w:World)(K:W.Frag)(mg:Str->Option Value)(base:Heap)(CX:K2)(k:Nat)(f:Addr)(fd:FuncData)(ps:List Str)(sp:Sp):Prop where
 len:∀vs H Q E,sp vs H Q E->vs.length=ps.length
 run:∀(A:Around) (outer:List Env) (s:Shared) (H:Hp) (args:Args) (us:List Vq) (vs:List V) (Q:VK) (E:XK),i6 k A->Cm P w K mg base A outer s H->BindsTo s fd args (ps.zip us)->hW vs us->sp vs H Q E->
  codeAny (model P w) A (.call (.ref f) args) (CR CX outer P w H s Q E) s
def nh.mono{K:W.Frag}(F:nh P w K mg base CX j f fd ps sp)(h:j<=k) :
  nh P w K mg base CX k f fd ps sp:=⟨F.len,λA a s H b d c Q E hr=>F.run A a s H b d c Q E (hr.mono h)⟩
def nh.imp{K:W.Frag}(F:nh P w K mg base CX k f fd ps sp)
  (h:∀vs H Q E,sp' vs H Q E->sp vs H Q E):nh P w K mg base CX k f fd ps sp':=
 ⟨λvs H Q E q=>F.len vs H Q E (h _ _ _ _ q),λA a s H b c vs Q E hr i g d e=>F.run A a s H b c vs Q E hr i g d (h _ _ _ _ e)⟩
def Cm.make{K:W.Frag}(e:Cm P w K mg base A outer s H) C us kw :
  Cm P w K mg base (A.under (.builtin "type.__call__" ⟨.ref C::us,kw⟩)) outer s H:=⟨by first|exact e.frames|(simpa[Around.under,Code.envs,Code.isFrame,pushEnvs] using e.frames),e.mod,e.bs,e.bsz,e.funs,e.frf,e.hok,e.bare,e.tab⟩
section
variable {X:Cx}{fT:List (Addr×Obj)}{σ:St}{H:Hp}{s s':Shared}
def gJ.env0(I:gJ X fT σ H s):Cm X.prog X.w X.K X.mg X.base X.A X.stack s H:=⟨I.ok.frames,I.ok.mod,I.bs,aM I.ok.bsz I.sz,I.stack,I.stkFree,I.hok,I.bare,I.tab⟩
def gJ.after(I:gJ X fT σ H s)(h:CE X.stack X.prog X.w H s Q u s'):EP X fT σ Q u s':=by obtain⟨v,i,f,a,un,c,r,q⟩:=h;obtain⟨j,g,d,t,e⟩:=s';obtain rfl:e=s.os:=f;exact⟨v,i,I.call un c a (λb z=>absurd z (by simp)),r,q⟩
end
def qS(c:Sp)(a:List V)(E:XK)(t:TA):TE:=λe H Q=>t e H λb d=>c (b++a) d Q E
def yu(C:Addr)(m:Str)(f:Sp)(b:List V)(E:XK)(i:TE)(t:TA):TE:=λd H Q=>i d H λx c=>∃a h fs,x=.ref a/\c a=some (.ins C h fs)/\fs.lookup m=none/\
 t d c λe g=>f (x::(e++b)) g Q E
def Dr(C:Addr)(e:Sp)(c:List V)(E:XK)(t:TA):TE:=λg H Q=>t g H λd b=>∀x a,b x=none->b a=none->a≠x->
 e (.ref x::(d++c)) (ju (ju b a (.own x)) x (.ins C a [])) (λv f=>v=.non/\Q (.ref x) f) E
def qr(K:W.Frag)(fd:FuncData)(b:List Str)(ds:List Vq):Prop:=∀(s:Shared) (a:List Vq),K.In s.heap->(a++ds).length=b.length->BindsTo s fd ⟨a,[]⟩ (b.zip (a++ds))
def qr.all{K:W.Frag}(h:∀us:List Vq,us.length=ps.length->bindArgs fd ⟨us,[]⟩=pure (ps.zip us)):qr K fd ps []:=λs us _ a=>by rw[bK]at a ⊢;exact .of_eq (h us a)
def uf(c:K2)(X:Cx)(E:XK):Prop:=∀(b:List (Addr×Obj)) (d:St) (H:Hp) (s:Shared) (e:Vq) (a:Shared),gJ X b d H s->c X.stack H s E e a->X.xe e a
section
variable {X:Cx}{CX:K2}{k:Nat}{f C:Addr}{fd:FuncData}{ps:List Str}{sp:Sp}{dvs:List V}{ds:List Vq}{E:XK}{x m:Str}{p pos apos:Pos}{e o:Expr}{es:List Expr}{ta:TE}{t:TA}
theorem Hc(F:nh X.prog X.w X.K X.mg X.base CX k f fd ps sp)(hr:i6 k X.A)(i:qr X.K fd ps ds)(g:hW dvs ds)(j:uf CX X E)
  (I:gJ X fT σ H s) (r:hW vs us) (h:sp (vs++dvs) H Q E):wpAny (model X.prog X.w) X.A (call (.ref f) us) (EP X fT σ Q) X.xe s:=by
 have b:=r.append g;have d:(us++ds).length=ps.length:=by rw[<-b.length];exact F.len _ _ _ _ h
 refine wpAny_call (codeAny_mono (F.run X.A X.stack s H ⟨us,[]⟩ (us++ds) (vs++dvs) Q E hr I.env0 (i s us I.kIn d) b h) λr c a=>?_);cases r with
 |error e=>exact j fT σ H s e c I a
 |ok fl=>
  cases fl with
  |ret u=>exact I.after a
  |next=>exact False.elim a
  |brk=>exact False.elim a
  |cont=>exact False.elim a
def Kr(F:nh X.prog X.w X.K X.mg X.base CX k f fd ps sp)(hr:i6 k X.A)(u:Gl X x)(c:X.mg x=some (.ref f))(j:W.keepIn X.K (.ref f)=true)(l:qr X.K fd ps ds)(n:hW dvs ds)(g:uf CX X E)
  (v:PA X (e::es) t) (b:(x==("__debug__" : Str))=false:=by decide) (i:starEach (e::es) X.env=(false,eval e X.env)::starEach es X.env:=by rfl) (a:(backTo pos (starEach es X.env)).any (·.1)=false:=by rfl) :
  PE X (.Call (.Name x p) (e::es) [] pos) (qS sp dvs E t):=by
 intro d s y H Q I h;refine wpAny_Call_Name_kw (zJ I u c ?_ b);refine W.callWith_K I.ok.mod.kin j (jU (v pos d s y H _ I h) λus s1 ⟨vs,H1,I1,r,q⟩=>⟨I1.kIn,?_⟩) i a;exact Hc F hr l n g I1 r q
def JF(d:PE X o ta)(c:yr X.K C)(b:KP X.K C m f)(F:nh X.prog X.w X.K X.mg X.base CX k f fd ps sp)(hr:i6 k X.A)(n:qr X.K fd ps ds)(j:hW dvs ds)(r:uf CX X E)
  (g:eval (.Call (.Attribute o m apos) [] [] pos) X.env=(do
   let ov <-eval o X.env
   standAt apos.atName
   let (f,first) <-holding [ov] (getMethod ov m pl)
   callWith pos f first (backTo pos (starEach [] X.env)) (backToKw pos (keywordEach [] X.env))):=by rfl) :
  PE X (.Call (.Attribute o m apos) [] [] pos) (yu C m sp dvs E ta qQ):=by
 intro i s v H Q I h;refine W.methodCall_KW (jU (d i s v H _ I h) λu s1 ⟨x,H1,I1,rx,a,dx,fs,ex,ea,l,q⟩=>?_) g;subst ex;obtain rfl:u=Value.ref a:=rx;refine CT I1 ea c b l ?_;exact W.callWith_K0 I1.kIn b.kp (Hc (vs:=[.ref a]) F hr n j r I1 (.cons rfl .nil) q)
structure Mk(K:W.Frag)(C f:Addr):Prop where
 makes:W.makesIn K C=true
 init:W.findIn K (.ref C) "__init__" = some (some (.ref f))
 fn:W.isFn K (.ref f)=true
 kp:W.keepIn K (.ref C)=true
theorem Hr(M:Mk X.K C f)(F:nh X.prog X.w X.K X.mg X.base CX k f fd ps sp)(hr:i6 (k+1) X.A)(n:qr X.K fd ps ds)(D:hW dvs ds)
  (i:uf CX X E) (I:gJ X fT σ H s) (r:hW vs us)
  (h:∀x dx,H x=none->H dx=none->dx≠x->sp (.ref x::(vs++dvs)) (ju (ju H dx (.own x)) x (.ins C dx [])) (λv l=>v=.non/\Q (.ref x) l) E) :
  wpAny (model X.prog X.w) X.A (call (.ref C) us) (EP X fT σ Q) X.xe s:=by
 have c:=h (s.heap.objs.size+1) s.heap.objs.size (I.hok.fresh (bL _)) (I.hok.fresh (aJ _)) (aL (bI _));have b:=gJ.made (C:=C) I;have d:hW (V.ref (s.heap.objs.size+1)::(vs++dvs)) (Value.ref (s.heap.objs.size+1)::(us++ds)):=.cons rfl (r.append D);have B:(Value.ref (s.heap.objs.size+1)::us++ds).length=ps.length:=by have e:=d.length;rw[F.len _ _ _ _ c]at e;exact e.symm
 refine wpAny_call (GH I.kIn M.makes M.init (beq_iff_eq.mp M.fn) (codeAny_mono (F.run _ X.stack _ _ ⟨Value.ref (s.heap.objs.size+1)::us,[]⟩ (Value.ref (s.heap.objs.size+1)::(us++ds)) _ _ E (hr.make C us [])
  (b.env0.make C us []) (n _ (Value.ref (s.heap.objs.size+1)::us) b.kIn B) d c) λr y a=>?_))
 cases r with
 |error e=>exact i fT σ _ _ e y b a
 |ok fl=>
  cases fl with
  |ret u=>obtain⟨v,J,g,q,j,z⟩:=b.after a;subst j;exact⟨q,⟨V.ref (s.heap.objs.size+1),J,g,rfl,z⟩⟩
  |next=>exact False.elim a
  |brk=>exact False.elim a
  |cont=>exact False.elim a
def KJ(M:Mk X.K C f)(F:nh X.prog X.w X.K X.mg X.base CX k f fd ps sp)(hr:i6 (k+1) X.A)(n:Gl X x)(c:X.mg x=some (.ref C))(j:qr X.K fd ps ds)(l:hW dvs ds)(g:uf CX X E)
  (u:PA X (e::es) t) (b:(x==("__debug__" : Str))=false:=by decide) (i:starEach (e::es) X.env=(false,eval e X.env)::starEach es X.env:=by rfl) (a:(backTo pos (starEach es X.env)).any (·.1)=false:=by rfl) :
  PE X (.Call (.Name x p) (e::es) [] pos) (Dr C sp dvs E t):=by
 intro d s v H Q I h;refine wpAny_Call_Name_kw (zJ I n c ?_ b);refine W.callWith_K I.ok.mod.kin M.kp (jU (u pos d s v H _ I h) λus s1 ⟨vs,H1,I1,r,q⟩=>⟨I1.kIn,?_⟩) i a;exact Hr M F hr j l g I1 r q
end
structure jC(N P:List Str)(sc:Scope):Prop where
 kind:sc.kind=.function
 co:sc.isCoroutine=false
 gen:sc.isGenerator=false
 nd:N.Nodup
 pre:N.take P.length=P
 par:∀x∈P,sc.names.lookup x=some .local\/sc.names.lookup x=some .cell
 nofree:∀y∈sc.names,y.2≠.free
theorem yB{kindOf:Str->Option NameKind}:∀{binds} {m},(∀v,(x,v)∉binds)->bindL kindOf binds m x=m x
 |[],_,_=>rfl
 | (n,v)::r,m,h=>by
  unfold bindL;rw[yB λw hw=>h w (bx _ hw)];split
  .have:x≠n:=by rintro rfl;exact h v bu
   simp[this]
  .rfl
theorem xU{kindOf:Str->Option NameKind}:∀{binds} {m},(∀v,(x,v)∉binds)->bindC kindOf binds m x=m x
 |[],_,_=>rfl
 | (n,v)::r,m,h=>by
  unfold bindC;rw[xU λw hw=>h w (bx _ hw)];split
  .rfl
  .have:x≠n:=by rintro rfl;exact h v bu
   simp[this]
theorem xS{kindOf:Str->Option NameKind}:∀{P:List Str} {vs:List Vq} {i:Nat} {m:Str->Option Value},P.Nodup->P[i]? = some x->vs[i]? = some v->kindOf x=some .local->
  bindL kindOf (P.zip vs) m x=some v
 |[],_,_,_,_,h,_,_=>by simp at h
 |_::_,[],_,_,_,_,h,_=>by simp at h
 |p::P,w::vs,0,m,nd,h1,h2,hk=>by simp at h1 h2;subst h1;subst h2;show bindL kindOf ((p,w)::P.zip vs) m p=_;unfold bindL;rw[yB λv a=>(bM.mp nd).1 (aV a).1,aP hk];simp
 |p::P,w::vs,i+1,m,nd,h1,h2,hk=>by unfold bindL;exact xS (bM.mp nd).2 (by simpa using h1) (by simpa using h2) hk
theorem yi{kindOf:Str->Option NameKind}:∀{P:List Str} {vs:List Vq} {i:Nat} {m:Str->Option Value},P.Nodup->P[i]? = some x->vs[i]? = some v->kindOf x≠some .local->
  bindC kindOf (P.zip vs) m x=some v
 |[],_,_,_,_,h,_,_=>by simp at h
 |_::_,[],_,_,_,_,h,_=>by simp at h
 |p::P,w::vs,0,m,nd,h1,h2,hk=>by simp at h1 h2;subst h1;subst h2;show bindC kindOf ((p,w)::P.zip vs) m p=_;unfold bindC;rw[xU λv a=>(bM.mp nd).1 (aV a).1,aQ hk];simp
 |p::P,w::vs,i+1,m,nd,h1,h2,hk=>by unfold bindC;exact yi (bM.mp nd).2 (by simpa using h1) (by simpa using h2) hk
noncomputable def mx(N:List Str)(vs:List V):St:=vs.map some++List.replicate (N.length-vs.length) none
noncomputable def pW(g:K2)(P:Program)(w:World)(K:W.Frag)(mg:Str->Option Value)(base:Heap)(N:List Str)(b:Str)(a:Scope)(f:Addr)(d:Vq)(A:Around)(outer:List Env)(s:Shared)(H:Hp)(E:XK):Cx where
 prog:=P
 w:=w
 K:=K
 mg:=mg
 base:=base
 A:=A.deeper (envOfC b a s.heap.objs.size f d)
 N:=N
 s₀:=s
 H₀:=H
 env:=envOfC b a s.heap.objs.size f d
 outer:=outer
 stack:=envOfC b a s.heap.objs.size f d::outer
 ex:=[]
 calm:=true
 fn:=λ_=>true
 pn:=[]
 xe:=λe i=>wpAny (model P w) (A.deeper (envOfC b a s.heap.objs.size f d)) (leaving (envOfC b a s.heap.objs.size f d) e) (λ_ c=>g outer H s E e c) (λh c=>g outer H s E h c) i
def nr{a:Scope}(h:a.names.lookup x=some .cell):∃c,(cellsFrom n a.names []).lookup x=some c:=by have q:=W.cellsFrom_some a.names n [] (.inl h);exact bN.mp q
theorem FA{K:W.Frag}
  (S:jC N ps scope) (J:A.handled=none) (g:Cm P w K mg base A outer s H) (U:vs.length=ps.length) (r:hW vs us)
  (x:InCallC s s.heap.objs.size (bindL (envOfC qual scope s.heap.objs.size f cd).kindOf (ps.zip us) λ_=>none) (cellsFrom (s.heap.objs.size+1) scope.names []) (bindC (envOfC qual scope s.heap.objs.size f cd).kindOf (ps.zip us) λ_=>none) s1) :
  gJ (pW CX P w K mg base N qual scope f cd A outer s H E) [] (mx N vs) H s1:=by
 have F:ps.length<=N.length:=by have:=congrArg List.length S.pre;rw[bO]at this;omega
 obtain⟨B,Q,rfl,C⟩:=x.done;have j:∀b:Addr,b∉(pW CX P w K mg base N qual scope f cd A outer s H E).ex:=λb z=>absurd (show b∈([]) from z) (by simp);refine⟨⟨g.mod,S.kind,rfl,rfl,aJ _,λy z c B d=>?_,λy l=>?_,λy c _ h=>?_,λ_=>J,Around.frames_deeper g.frames,.inr ⟨rfl,rfl⟩,λb z=>absurd z (j b),g.bs,g.bsz,λb _ _=>j b,λb z=>absurd z (j b),g.funs,g.frf,g.tab⟩,
  rfl,g.bare,Un.kept C,⟨_,x.toInCall.ns,λi y v B d R=>?_⟩,λy c h=>⟨_,x.cell y c h⟩,g.hok.fresh (aJ _),λy c h=>?_,λp m=>absurd (show p∈([]) from m) (by simp),g.hok.kept C,?_⟩
 .exact name_of_addr x.apart (PySem.mem_of_lookup B) (PySem.mem_of_lookup d)
 .have l:=l;rcases l with l|l
  .exact nr l
  .exact absurd rfl (S.nofree _ (PySem.mem_of_lookup l))
 .exact bh (x.above y c (PySem.mem_of_lookup h))
 .have o:i<vs.length:=by
   unfold mx at d;by_cases o:i<vs.length
   .exact o
   .rw[List.getElem?_append_right (by simpa using o)]at d;rw[List.getElem?_replicate]at d;split at d<;>cases d
  have L:vs[i]? = some v:=by
   unfold mx at d;rw[List.getElem?_append_left (by simpa using o),av]at d;cases e:vs[i]? with
   |none=>rw[e]at d;cases d
   |some a=>rw[e]at d;cases d;rfl
  obtain⟨u,D,I⟩:=r.get L;have m:ps[i]? = some y:=by rw[<-S.pre,List.getElem?_take_of_lt (by omega)];exact B
  have n:ps.Nodup:=by rw[<-S.pre];exact S.nd.sublist (List.take_sublist _ _)
  refine⟨u,I,?_⟩;rcases S.par y (au m) with k|k
  .exact .inl ⟨k,xS n m D k⟩
  .obtain⟨c,e⟩:=nr k;refine .inr ⟨.inl k,c,e,?_⟩;have q:=x.cell y c e;rw[yi n m D (by show scope.names.lookup y≠_;rw[k];decide)]at q;exact q
 .exact g.hok.fresh (bh (x.above y c (PySem.mem_of_lookup h)))
 .unfold mx;show _=N.length;rw[aS,aw,bP];omega
theorem Q0{K:W.Frag}{Y kV l pm c Z oc:Vq}(lk:K.lookup f=some ⟨oc,od,.func (W.fnOf name qual params body scope Y kV l pm an c Z),osl⟩)(C:W.codeIn K c qual=true)(S:jC N ps scope)
  (B:∀vs H Q E,sp vs H Q E->vs.length=ps.length)
  (i:∀A a s H vs Q E,i6 k (A.deeper (envOfC qual scope s.heap.objs.size f c))->sp vs H Q E->
   ∃t,Ak (pW CX P w K mg base N qual scope f c A a s H E) body t/\t {nx:=λ_ g=>Q .non g,rt:=Q} (mx N vs) H) :
  nh P w K mg base CX (k+1) f (W.fnOf name qual params body scope Y kV l pm an c Z) ps sp:=by
 refine⟨B,λA a s H U us vs Q E hr z hb r m=>?_⟩;have hl:=B _ _ _ _ m;have X:=z.mod.kin.keeps λb o e=>(z.bs b o e).1;have L:=z.mod.nolimit.keeps λb o e=>(z.bs b o e).1;have h:∀y∈ps.zip us,scope.names.lookup y.1=some .local\/(scope.names.lookup y.1=some .cell/\((cellsFrom (s.heap.objs.size+1) scope.names []).lookup y.1).isSome=true):=λ⟨n,v⟩ hy=>by
  rcases S.par n (aV hy).1 with q|q
  .exact .inl q
  .exact .inr ⟨q,W.cellsFrom_some _ _ _ (.inl q)⟩
 refine codeAny_call_function hr.depth (X _ _ lk) rfl S.co S.gen rfl (W.codeRec_of X C) (hb _ _ _ _ ?_);refine wpAny_newFunctionEnv_cells S.kind h λenv he R x=>?_;subst he;refine⟨L.keeps x.toInCall.keep,codeAny_func ?_⟩;obtain⟨t,ht,hq⟩:=i A a s H vs Q E (hr.deeper _) m;have I:gJ (pW CX P w K mg base N qual scope f c A a s H E) [] (mx N vs) H R:=FA S hr.hd z hl r x;refine wpAny_mono (ht [] R (mx N vs) H _ I hq) (λfl F j=>?_) λe F j=>j;have p:∀{d:St} {g:Hp} {v:V} {u:Vq},gJ (pW CX P w K mg base N qual scope f c A a s H E) [] d g F->iH v u->Q v g->CE a P w H s Q u F:=λ{d g v u} J D q=>⟨v,g,J.os,J.bare,J.base,J.hok,D,q⟩
 cases fl with
 |ret u=>obtain⟨v,d,g,J,D,q⟩:=j;exact p J D q
 |next=>obtain⟨d,g,J,q⟩:=j;exact p (v:=V.non) J rfl q
 |brk=>obtain⟨_,_,_,q⟩:=j;exact False.elim q
 |cont=>obtain⟨_,_,_,q⟩:=j;exact False.elim q
end L2
namespace L2
open PySem PySem.Spec PyProof.Rows
section
variable {X:Cx}{x:Str}{p pos:Pos}{e:Expr}{es:List Expr}{t:TA}{id T:String}{r:List V->Hp->VK->Prop}
def Hy(r:List V->Hp->VK->Prop)(t:TA):TE:=λc H Q=>t c H λa b=>r a b Q
def A7(i:kg X (.builtin id) r)(j:Gl X x)(g:X.mg x=none)(k:bootBuiltins x=some (.builtin id))(m:PA X (e::es) t)(l:x≠ "__name__" :=by decide)(a:(x==("__debug__" : Str))=false:=by decide)
  (f:starEach (e::es) X.env=(false,eval e X.env)::starEach es X.env:=by rfl) (b:(backTo pos (starEach es X.env)).any (·.1)=false:=by rfl):PE X (.Call (.Name x p) (e::es) [] pos) (Hy r t):=by
 intro c s d H Q I h;refine wpAny_Call_Name_kw (oP I j g k ?_ l a);exact PyProof.Rows.callWith_builtin1 (jU (m pos c s d H _ I h) λus s1 ⟨vs,H1,I1,r1,q1⟩=>i c s1 d H1 vs us Q I1 r1 q1) f b
def ue(i:kg X (.type T) r)(j:Gl X x)(g:X.mg x=none)(k:bootBuiltins x=some (.type T))(m:PA X (e::es) t)(l:x≠ "__name__" :=by decide)(a:(x==("__debug__" : Str))=false:=by decide)
  (f:starEach (e::es) X.env=(false,eval e X.env)::starEach es X.env:=by rfl) (b:(backTo pos (starEach es X.env)).any (·.1)=false:=by rfl):PE X (.Call (.Name x p) (e::es) [] pos) (Hy r t):=by
 intro c s d H Q I h;refine wpAny_Call_Name_kw (oP I j g k ?_ l a);exact PyProof.Rows.callWith_type1 (jU (m pos c s d H _ I h) λus s1 ⟨vs,H1,I1,r1,q1⟩=>i c s1 d H1 vs us Q I1 r1 q1) f b
end
end L2
namespace HT
open PySem PyProof.Rows
section
variable {prog:Program}{w:World}{A:Around}{E:Vq->Shared->Prop}{s:Shared}
def cat_tup(r:IsTup s.heap t vs.toArray)(u:IsTup s.heap b ws.toArray)(j:vs≠[])
  (x:ws=[]->Q (.ref t) s) (v:ws≠[]->Q (.ref s.heap.objs.size) {s with heap:=s.heap.push {cls:=.type "tuple",data:=.seq (vs++ws).toArray}})
  (hsz:vs.length+ws.length<=sizeLine):wpAny (model prog w) A (binaryOp .Add (.ref t) (.ref b)) Q E s:=by
 obtain⟨⟨cls,p,data,m⟩,h,k,n,q⟩:=id r;obtain⟨⟨l,c,i,d⟩,a,f,o,g⟩:=id u;simp only at k q f g;subst k q f g;have e:vs.toArray++ws.toArray=(vs++ws).toArray:=by simp
 by_cases hw:ws=[]
 .exact concat_meets ⟨_,h,rfl⟩ ⟨_,a,rfl⟩ noFill_tuple_add seq_tuple_add PySem.F.slot_tuple_add PySem.F.entry_tuple_add (PySem.F.args_tuple_add_2 _ _)
   (tuple_addW1 t b vs.toArray ws.toArray n o p c m d (by simpa using j) (by simp[hw])) ⟨h,a,x hw⟩
 .refine concat_meets ⟨_,h,rfl⟩ ⟨_,a,rfl⟩ noFill_tuple_add seq_tuple_add PySem.F.slot_tuple_add PySem.F.entry_tuple_add (PySem.F.args_tuple_add_2 _ _)
   (tuple_addW2 t b vs.toArray ws.toArray n o p c m d (by simpa using j) (by simpa using hw) (by rw[bF,bF];exact hsz)) ⟨h,a,?_⟩
  rw[e];exact v hw
noncomputable def sIx(n d:Nat):Option Int->Nat
 |none=>d
 |some v=>if v<0 then (v+(n:Int)).toNat else min v.toNat n
def sIx_none n d:sIx n d none=d:=rfl
def sIx_nat(n d k:Nat):sIx n d (some (k:Int))=min k n:=by show (if k<0 then (k+(n:Int)).toNat else min (k:Int).toNat n)=min k n;rw[aQ (by omega),bQ]
def DG v (n d:Nat):(if v<0 then max (v+(n:Int)) 0 else min v (n:Int))=((sIx n d (some v):Nat):Int):=by
 show (if v<0 then max (v+n) 0 else min v n)=(((if v<0 then (v+n).toNat else min v.toNat n):Nat):Int);by_cases a:v<0
 .simp only[aP a];omega
 .simp only[aQ a];omega
def BK lo a (n:Nat):Builtin.Slice.sliceAdjust lo a 1 (n:Int)=(((sIx n 0 lo:Nat):Int),((sIx n n a:Nat):Int)):=by
 have b:¬(1<0):=by omega
 unfold Builtin.Slice.sliceAdjust;simp only[b,if_false];refine Prod.ext ?_ ?_
 .cases lo with
  |none=>rfl
  |some v=>exact DG v n 0
 .cases a with
  |none=>rfl
  |some v=>exact DG v n n
def CY(i j:Nat):Builtin.Slice.slicePlaces (i:Int) (j:Int) 1=j-i:=by
 unfold Builtin.Slice.slicePlaces;have a:1>0:=by omega
 simp only[a,if_true,Int.ediv_one];split<;>omega
def v9(p:IsPart v o)(h:Q o s):wpAny (model prog w) A (Builtin.Slice.slicePartIndex v) Q E s:=by
 cases p with
 |none=>exact slicePart_none h
 |int i t=>exact slicePart_int h
def og{a c:Option Int}{n:Nat}(i:s.heap.IsSliceOf sl vl vu .none)(e:IsPart vl a)(g:IsPart vu c)
  (h:Q (((sIx n 0 a:Nat):Int),1,sIx n n c-sIx n 0 a) s):wpAny (model prog w) A (Builtin.Slice.sliceApplied (.ref sl) (pure (n:Int))) Q E s:=by
 obtain⟨j,b,f,d⟩:=id i;unfold Builtin.Slice.sliceApplied Builtin.Slice.sliceFields;refine ao (ao (wpAny_field b d rfl (ao (wpAny_field b d rfl (ao (wpAny_field b d rfl (ak ?_)))))));refine ao (slicePart_none ?_);rw[aQ (by decide)];refine ao (v9 e (ao (v9 g (ao (ak ?_)))));show wpAny _ _ (match Builtin.Slice.sliceAdjust a c 1 n with|(a,c)=>pure (a,(1:Int),Builtin.Slice.slicePlaces a c 1)) _ _ s;rw[BK a c n];show wpAny _ _ (pure (((sIx n 0 a):Int),1,Builtin.Slice.slicePlaces ((sIx n 0 a):Int) ((sIx n n c):Int) 1)) _ _ s;rw[CY];exact ak h
def IF(xs:Array Vq)(i k:Nat):((List.range k).filterMap λ(m:Nat)=>xs[((i:Int)+(m:Int)*1).toNat]?).toArray=((xs.toList.drop i).take k).toArray:=by
 have e:(λ(m:Nat)=>xs[(i+(m:Int)*1).toNat]?)=λm=>xs[i+m]?:=by
  funext m;have:(i+(m:Int)*1).toNat=i+m:=by omega
  rw[this]
 rw[e];have:=pick_run xs i k;rw[List.filterMap_map]at this;have a:((λx=>xs[x]?) ∘ λx=>i+x)=λm=>xs[i+m]?:=rfl;rw[a]at this;rw[this]
theorem getItem_tuple_cut{a b:Option Int}(d:IsTup s.heap t items)(j:s.heap.IsSliceOf sl vl vu .none)(m:IsPart vl a)(k:IsPart vu b)
  (hw:¬(sIx items.size 0 a=0/\sIx items.size items.size b=items.size))
  (h:Q (.ref s.heap.objs.size) {s with heap:=s.heap.push {cls:=.type "tuple",data:=.seq ((items.toList.drop (sIx items.size 0 a)).take (sIx items.size items.size b-sIx items.size 0 a)).toArray}})
  (hsz:items.size<=sizeLine):wpAny (model prog w) A (getItem (.ref t) (.ref sl)) Q E s:=by
 have c:sizeOk (.seq ((items.toList.drop (sIx items.size 0 a)).take (sIx items.size items.size b-sIx items.size 0 a)).toArray):=by show ((items.toList.drop (sIx items.size 0 a)).take (sIx items.size items.size b-sIx items.size 0 a)).toArray.size<=sizeLine;rw[bF,bO,bR,bA];omega
 obtain⟨l,e,f,n⟩:=id j;have i:s.TypeIs (.ref sl) "slice" :=⟨l,e,f⟩;unfold getItem;try with_reducible refine wpAny_holding ?_;first|refine ao (ak ?_)|skip
 refine ao (wpAny_sequenceKey d.typeIs (by decide) ?_);refine ao (wpAny_callSpecial?_slot d.typeIs PyProof.Rows.slot_tuple_getitem
  (wpAny_call_entry PyProof.Rows.slot_tuple_getitem d.typeIs entry_tuple_getitem ?_ (args_tuple_getitem _ _)))
 show wpAny _ _ (Builtin.Tuple.tupleItemsOf (.ref t) >>= _) _ _ s;refine ao (tupleItemsOf_ d ?_);refine ao (wpAny_typeOf i ?_);rw[aP (by decide)];refine ao (og j m k ?_);have g:¬((((sIx items.size 0 a):Int)==0&&(1:Int)==1&&(sIx items.size items.size b-sIx items.size 0 a)==items.size)=true):=by intro q;rw[bS,bS]at q;have o:=eq_of_beq q.1.1;have p:=eq_of_beq q.2;exact hw ⟨by omega,by omega⟩
 show wpAny _ _ (if (((sIx items.size 0 a):Int)==0&&1==1&&(sIx items.size items.size b-sIx items.size 0 a)==items.size)=true then _ else _) _ _ s;rw[aQ g,IF];first
  |exact ao (wpAny_newObj_type (ak ⟨_,rfl,ak h⟩) c)
  |exact ao (wpAny_newObj_type (ao (ak (ak ⟨_,rfl,ak h⟩))) c)
  |exact ao (ao (wpAny_newObj_type (ak (ak ⟨_,rfl,ak h⟩)) c))
  |exact ao (ao (wpAny_newObj_type (ak ⟨_,rfl,ak h⟩) c))
end
end HT
namespace L2
open PySem PySem.Spec PyProof.Rows
abbrev TO:=St->Hp->(Option Int->Hp->Prop)->Prop
def PO(X:Cx)(e:Option Expr)(t:TO):Prop:=
 ∀(b:List (Addr×Obj)) (s:Shared) (a:St) (H:Hp) (Q:Option Int->Hp->Prop),gJ X b a H s->t a H Q->
  wpAny (model X.prog X.w) X.A (evalPart e X.env) (λu d=>∃o c,gJ X b a c d/\IsPart u o/\Q o c) X.xe s
def Eg:TO:=λ_ H Q=>Q none H
def My(t:TE):TO:=λb H Q=>t b H λx a=>∃i,x=.int i/\Q (some i) a
section
variable {X:Cx}{e:Expr}{te:TE}{lo hi:Option Expr}{tl th:TO}{pos p2:Pos}
def LD:PO X none Eg:=by intro a s b H Q I h;rw[evalPart_none];exact ak ⟨none,H,I,.none,h⟩
def J8(h:PE X e te):PO X (some e) (My te):=by intro a s b H Q I hw;rw[evalPart_some];refine jU (h a s b H _ I hw) λu s1 ⟨x,H1,I1,r1,q1⟩=>?_;obtain⟨i,rfl,q⟩:=q1;obtain⟨t,rfl⟩:=r1;exact⟨some i,H1,I1,.int i t,q⟩
def Mo(X:Cx)(r:V->Option Int->Option Int->Hp->VK->Prop):Prop:=
 ∀(d:List (Addr×Obj)) (s:Shared) (f:St) (H:Hp) (x:V) (v c a:Vq) (lo hi:Option Int) (b:Addr) (Q:VK),gJ X d f H s->iH x v->s.heap.IsSliceOf b c a .none->IsPart c lo->IsPart a hi->r x lo hi H Q->
  ∃T id,typeLookup (.type T) "__getitem__" = pure (some (.builtin id))/\s.TypeIs v T/\wpAny (model X.prog X.w) X.A (getItem v (.ref b)) (EP X d f Q) X.xe s
def Mo.or(h:Mo X r)(l:Mo X r'):Mo X (λx lo hi H Q=>r x lo hi H Q\/r' x lo hi H Q):=by
 intro b s k H x v f a lo hi g Q I j d i c q;rcases q with q|q
 .exact h b s k H x v f a lo hi g Q I j d i c q
 .exact l b s k H x v f a lo hi g Q I j d i c q
def Si(r:V->Option Int->Option Int->Hp->VK->Prop)(te:TE)(tl th:TO):TE:=λa H Q=>te a H λx c=>tl a c λl b=>th a b λu d=>r x l u d Q
def IW(hr:Mo X r)(f:PE X e te)(k:PO X lo tl)(j:PO X hi th):PE X (.Subscript e (.Slice lo hi none p2) pos) (Si r te tl th):=by intro a s c H Q I h;refine Subscript_ (jU (f a s c H _ I h) λv s1 ⟨x,H1,I1,r1,q1⟩=>?_);refine wpAny_Slice (jU (k a s1 c H1 _ I1 q1) λvl s2 ⟨l,H2,I2,pl,q2⟩=>jU (j a s2 c H2 _ I2 q2) λvu s3 ⟨u,H3,I3,pu,q3⟩=>?_);rw[evalPart_none];refine ak ?_;have i:gJ X a c H3 {s3 with heap:=s3.heap.push {cls:=.type "slice",data:=.fields #[vl,vu,.none]}}:=I3.kept λb n q=>ae _ q;obtain⟨T,id,d,g,m⟩:=hr a {s3 with heap:=s3.heap.push {cls:=.type "slice",data:=.fields #[vl,vu,.none]}} c H3 x v vl vu l u s3.heap.objs.size Q i r1 (Heap.IsSliceOf.new ..) pl pu q3;exact tail_any g d m (by with_unfolding_all rfl)
noncomputable def Hj(xs:List V)(lo hi:Option Int):List V:=(xs.drop (HT.sIx xs.length 0 lo)).take (HT.sIx xs.length xs.length hi-HT.sIx xs.length 0 lo)
def ug xs lo hi:(Hj xs lo hi).length<=xs.length:=by unfold Hj;rw[bO,bR];omega
def QQ(K:W.Frag):V->Option Int->Option Int->Hp->VK->Prop:=λx lo hi H Q=>∃a b,x=.ref a/\mD K H a b/\
 ¬(HT.sIx b.length 0 lo=0/\HT.sIx b.length b.length hi=b.length)/\∀p,H p=none->Q (.ref p) (ju H p (.tup (Hj b lo hi)))
def Nh:Mo X (QQ X.K):=by
 intro p s z H x v u o lo hi w Q I n k m j h;obtain⟨a,c,rfl,l,hw,q⟩:=h;cases n;obtain⟨d,r,g,i⟩:=I.tuple l;have f:d.toArray.size=c.length:=by rw[bF];exact r.length.symm
 refine⟨"tuple",_,PyProof.Rows.slot_tuple_getitem.lookup,g.typeIs,?_⟩;refine HT.getItem_tuple_cut g k m j (by rw[f];exact hw) ?_ (by rw[f];exact i);rw[f];refine⟨.ref s.heap.objs.size,_,I.laid (λb y q=>ae _ q) (aJ _) ?_,rfl,q _ (I.hok.fresh (aJ _))⟩;exact⟨aM (ug c lo hi) i,_,(r.drop (HT.sIx c.length 0 lo)).take (HT.sIx c.length c.length hi-HT.sIx c.length 0 lo),vR.new _ _⟩
def Qj(K:W.Frag):R2:=λx y H Q=>∃a b d c,x=.ref a/\y=.ref b/\mD K H a d/\mD K H b c/\d≠[]/\d.length+c.length<=sizeLine/\
 (c=[]->Q (.ref a) H)/\(c≠[]->∀p,H p=none->Q (.ref p) (ju H p (.tup (d++c))))
def hW.nil_iff(r:hW xs us):us=[]↔xs=[]:=by
 cases r with
 |nil=>simp
 |cons _ _=>simp
def Ls:pJ X (binaryOp .Add) (Qj X.K):=by intro B s E H x y v u Q I p o h;obtain⟨a,b,A,D,rfl,rfl,r,l,j,g,k,m⟩:=h;cases p;cases o;obtain⟨i,d,n,_⟩:=I.tuple r;obtain⟨f,c,p2,_⟩:=I.tuple l;refine HT.cat_tup n p2 (λz=>j (d.nil_iff.mp z)) (λz=>⟨.ref a,H,I,rfl,k (c.nil_iff.mp z)⟩) (λz=>?_) (by rw[<-d.length,<-c.length];exact g);refine⟨.ref s.heap.objs.size,_,I.laid (λb C q=>ae _ q) (aJ _) ?_,rfl,m (λw=>z (c.nil_iff.mpr w)) _ (I.hok.fresh (aJ _))⟩;exact⟨by rw[aS];exact g,_,d.append c,vR.new _ _⟩
end
end L2
namespace L2
open PySem PySem.Spec PyProof.Rows
noncomputable def xi(n:Nat)(i:Int):Option Nat:=if 0<=i then (if i<n then some i.toNat else none) else if -(n:Int)<=i then some (i+n).toNat else none
noncomputable def rN{a:Type}(xs:List a)(i:Int):Option a:=(xi xs.length i).bind λj=>xs[j]?
def DM(h:xi n i=some j):seqIndex? i n=some j/\j<n/\-(n:Int)<=i/\i<n:=by
 unfold xi at h;by_cases b:0<=i
 .rw[aP b]at h;by_cases a:i<n
  .rw[aP a]at h;have e:=Option.some.inj h;exact⟨by rw[seqIndex_of b a,e],by omega,by omega,a⟩
  .rw[aQ a]at h;cases h
 .rw[aQ b]at h;by_cases a:-n<=i
  .rw[aP a]at h;have e:=Option.some.inj h;exact⟨by rw[seqIndex_neg (by omega) a,e],by omega,a,by omega⟩
  .rw[aQ a]at h;cases h
def zE{xs:List α}{v:α}(h:rN xs i=some v):∃j,seqIndex? i xs.length=some j/\xs[j]? = some v/\j<xs.length/\-(xs.length:Int)<=i/\i<xs.length:=by
 unfold rN at h;cases e:xi xs.length i with
 |none=>rw[e]at h;cases h
 |some j=>rw[e]at h;obtain⟨c,d,a,b⟩:=DM e;exact⟨j,c,h,d,a,b⟩
def Hm xs (v:α):rN (xs++[v]) (-1)=some v:=by
 have a:(xs++[v]).length=xs.length+1:=by simp
 have e:xi (xs++[v]).length (-1)=some xs.length:=by unfold xi;rw[a,aQ (by decide),aP (by omega)];congr 1;omega
 unfold rN;rw[e];simp
def Aa(b:Expr):Prop:=∀o i,subscripted b false o i=operate [o,i] (getItem o i)
def Lo(X:Cx)(r:R2):Prop:=
 ∀(b a:Expr) (c:List (Addr×Obj)) (s:Shared) (d:St) (H:Hp) (x y:V) (v u:Vq) (Q:VK),gJ X c d H s->iH x v->iH y u->r x y H Q->
  subscripted a false v u=operate [v,u] (getItem v u)->wpAny (model X.prog X.w) X.A (subscriptTail b a v u) (EP X c d Q) X.xe s
def SU(X:Cx)(id:String)(r:V->List V->Hp->VK->Prop):Prop:=
 ∀(c:List (Addr×Obj)) (s:Shared) (d:St) (H:Hp) (x:V) (b:List V) (v:Vq) (a:List Vq) (Q:VK),gJ X c d H s->iH x v->hW b a->r x b H Q->
  wpAny (model X.prog X.w) X.A (call (.builtin id) (v::a)) (EP X c d Q) X.xe s
section
variable {X:Cx}{a b:Expr}{ta tb:TE}{pos:Pos}
def Lo.or(h:Lo X r)(k:Lo X r'):Lo X (λx y H Q=>r x y H Q\/r' x y H Q):=by
 intro d c f s i H x y v u Q I e j q g;rcases q with q|q
 .exact h d c f s i H x y v u Q I e j q g
 .exact k d c f s i H x y v u Q I e j q g
def Mh(hr:Lo X r)(l:PE X a ta)(g:PE X b tb)(d:Aa b):PE X (.Subscript a b pos) (uh r ta tb):=by intro c s m H Q I h;exact Subscript_ (Pb l g I h λv u e x y f i k j q=>hr a b c e m f x y v u Q i k j q (d _ _))
def QL(K:W.Frag):R2:=λx y H Q=>∃p c i v,x=.ref p/\y=.int i/\lC K H p c/\rN c i=some v/\Q v H
def QE(K:W.Frag):R2:=λx y H Q=>∃p c i v,x=.ref p/\y=.int i/\mD K H p c/\rN c i=some v/\Q v H
def Qa:R2:=λx y H Q=>∃z i c,x=.str z/\y=.int i/\z.length<=sizeLine/\rN z.cps.toList i=some c/\Q (.str ⟨#[c]⟩) H
def ze:Lo X (QL X.K):=by
 intro l k C s R H x y v u Q I L F h n;obtain⟨p,S,i,z,rfl,rfl,B,E,q⟩:=h;cases L;obtain⟨t,rfl⟩:=F;obtain⟨e,r,m,U⟩:=I.list B;obtain⟨j,d,J,Z,P,D⟩:=zE E;obtain⟨w,A,g⟩:=r.get J;have N:=r.length;have Y:=zL;have c:EP X C R Q w s:=⟨z,H,I,g,q⟩;by_cases o:0<=i
 .have f:i.toNat=j:=by rw[seqIndex_of o D]at d;exact Option.some.inj d
  exact item_listR m.isList o (by omega) (by rw[f];simpa using A) c n
 .have f:(i+e.toArray.size).toNat=j:=by rw[seqIndex_neg (by omega) P]at d;rw[bF,<-N];exact Option.some.inj d
  exact subscriptTail_builtinR m.isList.typeIs slot_list_getitem.lookup
   (wpAny_getItem_list_neg m.isList (by omega) (by rw[bF]<;>omega) (by omega) (by rw[f];simpa using A) ⟨rfl,c⟩) n
def jV:Lo X (QE X.K):=by
 intro e d m s J H x y v u Q I E C h n;obtain⟨p,L,i,z,rfl,rfl,l,o,q⟩:=h;cases E;obtain⟨t,rfl⟩:=C;obtain⟨k,r,g,P⟩:=I.tuple l;obtain⟨j,B,D,S,U,N⟩:=zE o;obtain⟨w,A,c⟩:=r.get D;have F:=r.length;have R:=zL;have f:EP X m J Q w s:=⟨z,H,I,c,q⟩;exact subscriptTail_builtinR g.typeIs slot_tuple_getitem.lookup
  (getItem_tuple g (by omega) (by omega) (by rw[bF,<-F];exact B) (by simpa using A) ⟨rfl,f⟩) n
def NY:Lo X Qa:=by
 intro e d B s J H x y v u Q I r o h l;obtain⟨z,i,c,rfl,rfl,C,m,q⟩:=h;obtain⟨t,rfl⟩:=r;obtain⟨F,rfl⟩:=o;obtain⟨j,f,p,E,A,g⟩:=zE m;have w:z.cps.toList.length=z.length:=by simp[Str.length]
 rw[w]at f A g;have D:=zL;exact tail_any (typeIs_str s z t) slot_str_getitem.lookup (getItem_str (by have k:decide (i < -(2 ^ 63))=false:=aA (by omega);have n:decide (i >= 2 ^ 63)=false:=aA (by omega);rw[k,n,Bool.or_false]) (by rw[f];simpa using p) ⟨.str ⟨#[c]⟩,H,I.tok _,⟨_,rfl⟩,q⟩) l
def Ni(K:W.Frag):R2:=λx y H Q=>QL K x y H Q\/QE K x y H Q\/Qa x y H Q
def HK:Lo X (Ni X.K):=ze.or (jV.or NY)
def CD(its:List Vq) n j u:Obj.mapSeq (·.setIfInBounds j u) {cls:=.type "list",data:=.seq its.toArray n}={cls:=.type "list",data:=.seq (its.set j u).toArray n}:=by simp[Obj.mapSeq]
def gJ.lst(I:gJ X fT σ H s)(h:H p=some (.lst xs)) :
  ∃its n,hW xs its/\s.heap.get? p=some {cls:=.type "list",data:=.seq its.toArray n}/\xs.length<=sizeLine:=by
 obtain⟨z,its,n,r,e⟩:=I.hok p _ h;exact⟨its,n,r,e,z⟩
def gJ.lstUpd{its c:List Vq}(I:gJ X fT σ H s)(h:H p=some (.lst xs))
  (i:s.heap.get? p=some {cls:=.type "list",data:=.seq its.toArray n}) (d:f {cls:=.type "list",data:=.seq its.toArray n}={cls:=.type "list",data:=.seq c.toArray n'}) (r:hW ys c) (g:ys.length<=sizeLine) t :
  gJ X fT σ (ju H p (.lst ys)) {s with heap:=s.heap.update p f,toks:=t}:=by
 have e:(s.heap.update p f).get? p=some {cls:=.type "list",data:=.seq c.toArray n'}:=by rw[Heap.get?_update_self f i (by rw[d]<;>rfl),d]
 refine I.write (by rw[h];trivial) (.inl rfl) (λb u j q=>(Heap.get?_update_other _ _ (Ne.symm j)).trans q) ⟨_,e⟩ ?_;exact⟨g,c,n',r,e⟩
def Du:V->V->V->Hp->(Hp->Prop)->Prop:=λo i v H Q=>∃p c k j,o=.ref p/\i=.int k/\H p=some (.lst c)/\xi c.length k=some j/\Q (ju H p (.lst (c.set j v)))
def G5:QA X Du:=by
 intro B s J H o i v N L u Q I A C F h;obtain⟨p,z,k,j,rfl,rfl,m,E,q⟩:=h;cases A;obtain⟨t,rfl⟩:=C;obtain⟨c,n,r,g,D⟩:=I.lst m;obtain⟨d,P,x,y⟩:=DM E;have f:=r.length;have K:=zL;have l:gJ X B J (ju H p (.lst (z.set j v))) {s with heap:=s.heap.update p (Obj.mapSeq (·.setIfInBounds j u))}:=I.lstUpd m g (CD c n j u) (r.set F j) (by rw[bT];exact D) s.toks
 by_cases w:0<=k
 .have e:k.toNat=j:=by rw[seqIndex_of w y]at d;exact Option.some.inj d
  exact W.ki_setAt g w (by omega) (by rw[bF,<-f];exact y) (by rw[e];exact⟨_,l,q⟩)
 .have e:(k+c.toArray.size).toNat=j:=by rw[seqIndex_neg (by omega) x]at d;rw[bF,<-f];exact Option.some.inj d
  exact W.ki_setBack g (by omega) (by rw[bF,<-f];exact x) (by omega) (by rw[e];exact⟨_,l,q⟩)
def zY lo hi n:(sliceBounds lo hi none n).1=((HT.sIx n 0 lo:Nat):Int)/\(sliceBounds lo hi none n).2.1=((HT.sIx n n hi:Nat):Int)/\(sliceBounds lo hi none n).2.2=1:=by
 refine⟨?_,?_,rfl⟩
 .cases lo with
  |none=>simp[sliceBounds,HT.sIx]
  |some i=>
   simp only[sliceBounds,HT.sIx,Option.getD_none,show 1>0 by decide,if_true];by_cases h:i<0
   .simp only[h,if_true]<;>omega
   .simp only[h,if_false]<;>omega
 .cases hi with
  |none=>simp[sliceBounds,HT.sIx]
  |some i=>
   simp only[sliceBounds,HT.sIx,Option.getD_none,show 1>0 by decide,if_true];by_cases h:i<0
   .simp only[h,if_true]<;>omega
   .simp only[h,if_false]<;>omega
def xF(its:List Vq) lo hi:slicePick its.toArray lo hi none=((its.drop (HT.sIx its.length 0 lo)).take (HT.sIx its.length its.length hi-HT.sIx its.length 0 lo)).toArray:=by obtain⟨c,e,d⟩:=zY lo hi its.toArray.size;unfold slicePick;rw[c,e,d];simp only[sliceRange_one,pick_run,bF]<;>rfl
def Qg(K:W.Frag):V->Option Int->Option Int->Hp->VK->Prop:=λx e d H Q=>∃a c,x=.ref a/\lC K H a c/\∀p,H p=none->Q (.ref p) (ju H p (.lst (Hj c e d)))
def LK:Mo X (Qg X.K):=by intro u s A H x v w p d f y Q I n j m i h;obtain⟨a,c,rfl,k,q⟩:=h;cases n;obtain⟨g,r,e,l⟩:=I.list k;have o:=r.length;refine⟨"list",_,slot_list_getitem.lookup,e.isList.typeIs,?_⟩;refine wpAny_getItem_list_slice e.isList j m i .none (by simp) ?_ (by rw[bF]<;>omega);rw[xF,<-o];refine⟨.ref s.heap.objs.size,_,I.laid (λb z q=>ae _ q) (aJ _) ?_,rfl,q _ (I.hok.fresh (aJ _))⟩;exact⟨aM (ug c d f) l,_,0,(r.drop (HT.sIx c.length 0 d)).take (HT.sIx c.length c.length f-HT.sIx c.length 0 d),ar _ rfl⟩
noncomputable def qZ:V->Bool
 |.non=>true
 |.bl _=>true
 |.int _=>true
 |.str _=>true
 |_=>false
noncomputable def JO:V->V->Bool
 |.non,.non=>true
 |.bl a,.bl b=>a==b
 |.bl a,.int b=>(if a then 1 else 0)==b
 |.int a,.bl b=>a==(if b then 1 else 0)
 |.int a,.int b=>a==b
 |.str a,.str b=>a==b
 |_,_=>false
def OH(f:iH y u)(c:iH x v)(g:qZ y=true)(e:qZ x=true):SeqAt.EqAt A s u v (JO y x):=by
 cases y with
 |non=>
  cases f;cases x with
  |non=>cases c;exact SeqAt.EqAt.same _
  |bl b=>cases c;exact SeqAt.EqAt.none_bool b
  |int b=>obtain⟨t,rfl⟩:=c;exact SeqAt.EqAt.none_int b t
  |str b=>obtain⟨t,rfl⟩:=c;exact SeqAt.EqAt.none_str b t
  |_=>exact absurd (e) aG
 |bl a=>
  cases f;cases x with
  |non=>cases c;exact SeqAt.EqAt.bool_none a
  |bl b=>cases c;exact SeqAt.EqAt.bool_bool a b
  |int b=>obtain⟨t,rfl⟩:=c;exact SeqAt.EqAt.bool_int a b t
  |str b=>obtain⟨t,rfl⟩:=c;exact SeqAt.EqAt.bool_str a b t
  |_=>exact absurd (e) aG
 |int a=>
  obtain⟨d,rfl⟩:=f;cases x with
  |non=>cases c;exact SeqAt.EqAt.int_none a d
  |bl b=>cases c;exact SeqAt.EqAt.int_bool a d b
  |int b=>obtain⟨t,rfl⟩:=c;exact SeqAt.EqAt.int_int a d b t
  |str b=>obtain⟨t,rfl⟩:=c;exact SeqAt.EqAt.int_str a d b t
  |_=>exact absurd (e) aG
 |str a=>
  obtain⟨d,rfl⟩:=f;cases x with
  |non=>cases c;exact SeqAt.EqAt.str_none a d
  |bl b=>cases c;exact SeqAt.EqAt.str_bool a d b
  |int b=>obtain⟨t,rfl⟩:=c;exact SeqAt.EqAt.str_int a d b t
  |str b=>obtain⟨t,rfl⟩:=c;exact SeqAt.EqAt.str_str a d b t
  |_=>exact absurd (e) aG
 |_=>exact absurd (g) aG
noncomputable def KZ(x:V)(u:Vq):Bool:=match u with
 |.none=>JO .non x
 |.bool b=>JO (.bl b) x
 |.int i _=>JO (.int i) x
 |.str z _=>JO (.str z) x
 |_=>false
def GI(r:iH y u)(f:qZ y=true):KZ x u=JO y x:=by
 cases y with
 |non=>cases r;rfl
 |bl b=>cases r;rfl
 |int i=>obtain⟨t,rfl⟩:=r;rfl
 |str z=>obtain⟨t,rfl⟩:=r;rfl
 |_=>exact absurd (f) aG
theorem zx:∀{xs} {us},hW xs us->xs.all qZ=true->us.any (KZ x)=xs.any λy=>JO y x
 |_,_,.nil,_=>rfl
 |y::xs,u::us,.cons r t,f=>by rw[bU,bS]at f;rw[bV,bV,GI r f.1,zx t f.2]
theorem vA(e:iH x v)(d:qZ x=true):∀{xs} {us},hW xs us->xs.all qZ=true->∀u∈us,SeqAt.EqAt A s u v (KZ x u)
 |_,_,.nil,_=>λu c=>by cases c
 |y::xs,u::us,.cons r t,f=>λg c=>by
  rw[bU,bS]at f;rcases aE.mp c with rfl|c
  .rw[GI r f.1];exact OH r e f.1 d
  .exact vA e d t f.2 g c
noncomputable def RA(x:V)(xs:List V):Bool:=xs.any λy=>JO y x
def R9(K:W.Frag)(neg:Bool):R2:=λx y H Q=>∃p c,y=.ref p/\(lC K H p c\/mD K H p c)/\qZ x=true/\c.all qZ=true/\Q (.bl (if neg then !RA x c else RA x c)) H
def zN:pJ X (compareOp .NotIn) (R9 X.K true):=by
 intro l s m H x y v u Q I g j h;obtain⟨p,k,rfl,d,f,fs,q⟩:=h;cases j;rcases d with d|d
 .obtain⟨c,r,e,i⟩:=I.list d;refine SeqAt.notIn_listAt (KZ x) e.isList (λw hw=>vA g f r fs w (by simpa using hw)) ⟨.bl _,H,I,rfl,?_⟩;rw[show c.toArray.any (KZ x)=c.any (KZ x) by simp,zx r fs];exact q
 .obtain⟨c,r,e,i⟩:=I.tuple d;refine SeqAt.notIn_tupleAt (KZ x) e (λw hw=>vA g f r fs w (by simpa using hw)) ⟨.bl _,H,I,rfl,?_⟩;rw[show c.toArray.any (KZ x)=c.any (KZ x) by simp,zx r fs];exact q
def zP:kg X (.type "list") (λxs H Q=>∃p i,xs=[.ref p]/\(lC X.K H p i\/mD X.K H p i)/\∀l,H l=none->Q (.ref l) (ju H l (.lst i))):=by
 intro C s F H xs J Q I r h;obtain⟨p,i,rfl,k,q⟩:=h;obtain⟨u,rfl,E⟩:=nI r;cases E;have v:∀(c:List Vq),hW i c->i.length<=sizeLine->∀(d:Heap) (f:Nat),(∀b B,s.heap.get? b=some B->d.get? b=some B)->
   d.get? s.heap.objs.size=some {cls:=.type "list",dict:=none,data:=.seq c.toArray f,slots:=#[]}->EP X C F Q (.ref s.heap.objs.size) {s with heap:=d}:=λc g m d f j e=>
  ⟨.ref s.heap.objs.size,_,I.laid j (aJ _) (show kf X.prog X.w _ d _ (.lst i) from ⟨m,c,f,g,e⟩),rfl,q _ (I.hok.fresh (aJ _))⟩
 rcases k with k|k
 .obtain⟨c,g,y,m⟩:=I.list k;have D:=g.length;obtain⟨o,z,x,n,A⟩:=y.isList;exact call_list_seq p (.inl rfl) z x A (λd f j e=>v c g m d f j e) (by simp only[bF]<;>omega)
 .obtain⟨c,g,y,m⟩:=I.tuple k;have D:=g.length;obtain⟨o,z,x,n,A⟩:=y;exact call_list_seq p (.inr rfl) z x A (λd f j e=>v c g m d f j e) (by simp only[bF]<;>omega)
def xO:kg X (.type "tuple") (λxs H Q=>∃p d,xs=[.ref p]/\((lC X.K H p d/\∀l,H l=none->Q (.ref l) (ju H l (.tup d)))\/(mD X.K H p d/\Q (.ref p) H))):=by
 intro v s y H xs z Q I r h;obtain⟨p,d,rfl,h⟩:=h;obtain⟨u,rfl,x⟩:=nI r;cases x;rcases h with⟨f,q⟩|⟨f,q⟩
 .obtain⟨c,i,j,k⟩:=I.list f;have A:=i.length;refine call_tuple_list j.isList (λg n=>?_) (by simp only[bF]<;>omega);have m:=I.kept (t':=s.toks) n;have w:gJ X v y (ju H g.objs.size (.tup d)) {s with heap:=g.push {cls:=.type "tuple",data:=.seq c.toArray}}:=
   m.laid (λb o e=>ae _ e) (aJ _) (⟨k,c,i,vR.new _ _⟩)
  exact⟨.ref g.objs.size,_,w,rfl,q _ (m.hok.fresh (aJ _))⟩
 .obtain⟨c,i,j,k⟩:=I.tuple f;exact call_tuple_same j ⟨.ref p,H,I,rfl,q⟩
def OG(K:W.Frag)(T:String)(x:V)(H:Hp):Prop:=match x with
 |.str _=>T = "str"
 |.int _=>T = "int"
 |.ref p=>(T = "list" /\∃d,lC K H p d)\/(T = "tuple" /\∃o,K.lookup p=some o/\o.cls=.type "tuple" /\o.dict=none)\/
   (T = "dict" /\((∃c,H p=some (.dK c))\/∃c,H p=some (.dT c)))\/(T = "set" /\∃S n,H p=some (.set S n))
 |_=>False
theorem NB{u:List (Addr×Obj)}{y:St}{H:Hp}{s:Shared}{T:String}{x:V}{v:Vq}(I:gJ X u y H s)(r:iH x v)(ty:OG X.K T x H) :
  s.TypeIs v T/\∀a,v=.ref a->∃k,s.heap.get? a=some k/\k.dict=none:=by
 cases x with
 |str z=>obtain⟨t,rfl⟩:=r;cases (ty);exact⟨typeIs_str s z t,λ_ e=>nomatch e⟩
 |int i=>obtain⟨t,rfl⟩:=r;cases (ty);exact⟨typeIs_int s i t,λ_ e=>nomatch e⟩
 |ref p=>
  cases r;rcases ty with⟨rfl,A,q⟩|⟨rfl,o,d,w,j⟩|⟨rfl,d⟩|⟨rfl,S,n,d⟩
  .obtain⟨m,_,l,_⟩:=I.list q;refine⟨l.isList.typeIs,λa e=>?_⟩;cases e;obtain⟨o,n,e,c,j,_⟩:=l;exact⟨o,e,j⟩
  .refine⟨⟨o,I.kIn p o d,w⟩,λa e=>?_⟩;cases e;exact⟨o,I.kIn _ o d,j⟩
  .have z:∃o,s.heap.get? p=some o/\o.ExactDict:=by
    rcases d with⟨g,d⟩|⟨g,d⟩
    .obtain⟨_,_,_,_,o,_,_,e,f,_⟩:=I.hok p _ d;exact⟨o,e,f⟩
    .obtain⟨_,_,_,_,o,_,_,e,f,_⟩:=I.hok p _ d;exact⟨o,e,f⟩
   obtain⟨o,e,f⟩:=z;refine⟨⟨o,e,f.1⟩,λa h=>?_⟩;cases h;exact⟨o,e,f.2.1⟩
  .obtain⟨o,_,_,_,e,f,_⟩:=I.hok p _ d;refine⟨⟨o,e,f.1⟩,λa h=>?_⟩;cases h;exact⟨o,e,f.2.1⟩
 |_=>exact False.elim ty
def Py(K:W.Frag)(T:String)(r:V->List V->Hp->VK->Prop)(to:TE)(t:TA):TE:=λd H Q=>to d H λx c=>OG K T x c/\t d c λf e=>r x f e Q
variable {o e:Expr}{es:List Expr}{to:TE}{t:TA}{name:Str}{apos cpos:Pos}{T id:String}{r:V->List V->Hp->VK->Prop}
def Dt(p:PlainAttrs T)(g:Slot T name id)(i:typeOf (.builtin id)=pure (.type "method_descriptor"))(m:SU X id r)(w:PE X o to)(y:PA X (e::es) t)
  (d:attributeBase o name X.env (eval o X.env)=eval o X.env:=by rfl)
  (f:((backTo cpos (starEach (e::es) X.env)).all (λx=>!x.1)&&(backToKw cpos (keywordEach [] X.env)).all (λx=>x.1.isSome)
   && decide ((e::es).length+([]:List Keyword).length+(if ([]:List Keyword).isEmpty then 0 else 1)<30))=true:=by rfl)
  (c:(apos.endLine==cpos.line)=true:=by rfl) (n:starEach (e::es) X.env=(false,eval e X.env)::starEach es X.env:=by rfl) (hplain:(backTo cpos (starEach es X.env)).any (·.1)=false:=by rfl) :
  PE X (.Call (.Attribute o name apos) (e::es) [] cpos) (Py X.K T r to t):=by
 intro j s k H Q I h;refine wpAny_Call_method_late d f c rfl (jU (w j s k H _ I h) λv s1 ⟨x,H1,I1,r1,ty,q1⟩=>?_);obtain⟨q,u⟩:=NB I1 r1 ty;refine⟨T,id,p,g,i,q,u,?_⟩;have l:=y cpos j s1 k H1 _ I1 q1;rw[n]at l ⊢;refine Calls.callWith_builtin (by show (false||(backTo cpos (starEach es X.env)).any (·.1))=false;rw[hplain]<;>rfl) (Calls.evalArgs_plain ?_);exact jU l λus s2 ⟨vs,H2,I2,r2,q2⟩=>m j s2 k H2 x vs v us Q I2 r1 r2 q2
end
end L2
namespace L2
open PySem PySem.Spec PyProof.Rows
def S7(X:Cx)(id:String)(r:V->List V->Hp->VK->Prop):Prop:=
 ∀(c:List (Addr×Obj)) (s:Shared) (d:St) (H:Hp) (x:V) (b:List V) (v:Vq) (a:List Vq) (Q:VK),gJ X c d H s->iH x v->hW b a->r x b H Q->
  wpAny (model X.prog X.w) X.A (call (.builtin id) (v::a)) (EP X c d Q) X.xe s
theorem hW.one:∀{x} {us},hW [x] us->∃u,us=[u]/\iH x u
 |_,_,.cons r .nil=>⟨_,rfl,r⟩
theorem hW.rep(h:hW xs us):∀k:Nat,hW (List.replicate k xs).flatten (List.replicate k us).flatten
 |0=>.nil
 |k+1=>by rw[bW,bW,bX,bX];exact hW.append h (hW.rep h k)
theorem qD(its:List Vq):∀k a,
  List.foldl (λb c=>b++c) a.toArray (List.replicate k its.toArray)=(a++(List.replicate k its).flatten).toArray
 |0,a=>by simp
 |k+1,a=>by
  have e:a.toArray++its.toArray=(a++its).toArray:=by simp
  have d:(a++its)++(List.replicate k its).flatten=a++(List.replicate (k+1) its).flatten:=by rw[bW,bX,bY]
  rw[<-d,<-qD its k (a++its),<-e,bW,List.foldl_cons]
section
variable {X:Cx}{fT:List (Addr×Obj)}{σ:St}{H:Hp}{s:Shared}{l b:Addr}{xs ys zs:List V}
def gJ.lset{its a:List Vq}(I:gJ X fT σ H s)(g:H l=some (.lst xs))
  (e:s.heap.get? l=some {cls:=.type "list",data:=.seq its.toArray n}) (j:f its.toArray=a.toArray) (h:hW ys a) (d:ys.length<=sizeLine) :
  gJ X fT σ (ju H l (.lst ys)) {s with heap:=s.heap.update l (Obj.mapSeq f),toks:=t'}:=by
 have q:=PySem.IsL.update e f;rw[j]at q;refine I.write (by rw[g];exact trivial) (.inl rfl) (λk u i c=>(Heap.get?_update_other s.heap (Obj.mapSeq f) (Ne.symm i)).trans c) ⟨_,q⟩ ?_;exact⟨d,a,_,h,q⟩
def gJ.lnew(I:gJ X fT σ H s)(c:hW ys its)(a:ys.length<=sizeLine) :
  gJ X fT σ (ju H s.heap.objs.size (.lst ys)) {s with heap:=s.heap.push {cls:=.type "list",data:=.seq its.toArray},toks:=t'}:=
 I.laid (λ_ _ q=>ae _ q) (aJ _) ⟨a,its,0,c,ar _ rfl⟩
def gJ.fresh(I:gJ X fT σ H s):H s.heap.objs.size=none:=I.hok.fresh (aJ _)
def gJ.lstM(I:gJ X fT σ H s)(a:H l=some (.lst xs)):xs.length<=sizeLine/\∃its n,hW xs its/\xs.length=its.length/\s.heap.get? l=some {cls:=.type "list",data:=.seq its.toArray n}:=by obtain⟨z,its,n,r,e⟩:=I.hok l _ a;exact⟨z,its,n,r,r.length,e⟩
def Ht(h:n<=sizeLine):Builtin.List.listTooLong n=false:=by unfold Builtin.List.listTooLong;exact aA (by omega)
end
section
variable {X:Cx}
def oV:V->List V->Hp->VK->Prop:=λx b H Q=>∃l a y,x=.ref l/\b=[y]/\H l=some (.lst a)/\a.length<sizeLine/\Q .non (ju H l (.lst (a++[y])))
def qH:S7 X "list.append" oV:=by intro j s p H x m v g Q I f d h;obtain⟨l,i,y,rfl,rfl,b,k,q⟩:=h;cases f;obtain⟨u,rfl,c⟩:=d.one;obtain⟨z,a,n,r,o,e⟩:=I.lstM b;refine call_meets F.slot_list_append ⟨_,e,rfl⟩ F.entry_list_append (F.args_list_append_2 _ _) (PySem.list_append l a.toArray n u (by rw[bF];omega)) ⟨e,?_⟩;refine⟨.non,_,I.lset b e (by simp) (r.append (.cons c .nil)) ?_,rfl,q⟩;rw[aS,bZ];omega
def ML:R2:=λx y H Q=>∃l b c a,x=.ref l/\y=.ref b/\H l=some (.lst c)/\H b=some (.lst a)/\c.length+a.length<=sizeLine/\∀p,H p=none->Q (.ref p) (ju H p (.lst (c++a)))
def Hl:pJ X (binaryOp .Add) ML:=by
 intro w s F H x y v u Q I o k h;obtain⟨l,b,p,A,rfl,rfl,i,f,B,q⟩:=h;cases o;cases k;obtain⟨z,c,n,r,E,e⟩:=I.lstM i;obtain⟨D,a,C,d,m,j⟩:=I.lstM f;refine PySem.P.add_list e j ?_ (by rw[bF,bF];omega);have g:c.toArray++a.toArray=(c++a).toArray:=by simp
 rw[g];exact⟨.ref _,_,I.lnew (r.append d) (by rw[aS];omega),rfl,q _ I.fresh⟩
def PQ:R2:=λx y H Q=>∃l k a,x=.ref l/\y=.int k/\H l=some (.lst a)/\-(2 ^ 63)<=k/\k<2 ^ 63/\a.length*k.toNat<=sizeLine/\
 ∀p,H p=none->Q (.ref p) (ju H p (.lst (List.replicate k.toNat a).flatten))
def yT{a:Type}(xs:List a) k:(List.replicate k xs).flatten.length=k*xs.length:=by
 induction k with
 |zero=>simp
 |succ k ih=>rw[bW,bX,aS,ih,b4,Nat.add_comm]
def Nt:pJ X (binaryOp .Mult) PQ:=by
 intro N s P H x y v u Q I J C h;obtain⟨l,k,L,rfl,rfl,w,A,D,o,q⟩:=h;cases J;obtain⟨t,rfl⟩:=C;obtain⟨z,b,n,r,K,e⟩:=I.lstM w;have E:b.toArray.size*k.toNat<=sizeLine:=by rw[bF,<-K];exact o
 have d:¬b.toArray.size*k.toNat>(2 ^ 63-1) / 8:=by
  have:sizeLine<=(2 ^ 63-1) / 8:=by decide
  omega
 have g:¬(!Builtin.List.listFitsIndex k)=true:=by rw[fitsIndex_both A D];exact aG
 have c:¬Builtin.List.listTooLong (b.toArray.size*k.toNat)=true:=by rw[Ht E];exact aG
 have f:List.foldl (λi j=>i++j) #[] (List.replicate (if b.toArray.isEmpty=true then 0 else k.toNat) b.toArray)=(List.replicate k.toNat b).flatten.toArray:=by
  have p:∀m:Nat,List.foldl (λi j=>i++j) #[] (List.replicate m b.toArray)=(List.replicate m b).flatten.toArray:=λm=>by have:=qD b m [];rw[b5]at this;exact this
  rw[p];cases b with
  |nil=>simp
  |cons a r'=>rw[aQ (by simp)]
 refine wpAny_binaryOp_repeat_ref (by decide) ⟨_,e,rfl⟩ (λB=>typeIs_int B k t) noFill_list_mul F.fills_int_mul F.slot_int_rmul repeat_list F.slot_int_index.lookup
  (call_meets F.slot_int_rmul (typeIs_int s k t) F.entry_int_rmul (F.args_int_rmul_2 _ _) (int___rmul___int_list k t l b.toArray n)
   ⟨e,rfl,⟨_,e,rfl⟩,call_meets F.slot_list_mul ⟨_,e,rfl⟩ F.entry_list_mul (F.args_list_mul_2 _ _) (AutoListH.list___mul___list_int_3 l b.toArray n k t g d c) ⟨e,?_⟩⟩)
 rw[f];exact⟨.ref _,_,I.lnew (r.rep k.toNat) (by rw[yT,b6];exact o),rfl,q _ I.fresh⟩
end
end L2
namespace Att
open PySem PySem.W PySem.Calls PyProof.Rows
def uN:∀c vs,WellAll P h vs (c.map WData.int)->IntsAre vs c:=by
 intro c;induction c with
 |nil=>intro vs w;rw[b7]at w;cases w;exact .nil
 |cons n c ih=>
  intro vs w;rw[bH]at w;cases w with
  |cons a b=>cases a;exact .cons _ _ (ih _ b)
theorem script_of{l:OpenLaw}(k:l.most=some n)
  (c:l.row.toRowW.claim.pre args=true) (i:WellAll P h vals args) :
  ∃a vs b,vals=[Value.ref a]/\args=[WData.list (b.map WData.int)]/\h.get? a=some {cls:=.type "list",data:=.seq vs.toArray}/\IntsAre vs b/\b.length<=n:=by
 have g:=(pre_splitW c).1;have j:l.pre.holds [] {args:=args}=true:=(pre_splitW c).2;obtain⟨d,r,rfl,s,m⟩:=hasAllW_cons g;obtain rfl:=hasAllW_nil m;obtain⟨u,rfl,o⟩:=hasW_list s;obtain⟨b,rfl⟩:=items_int o;have p:b.length<=n:=by
  unfold OpenLaw.pre at j;have f:(WTm.not (.lt (.lit (.int n)) (.len (.arg 0)))).holds [] {args:=[.list (b.map .int)]}=true:=by have f:=(holds_andW j).1;rw[k]at f;exact f
  have e:=condW_of f (w_not (w_lt w_lit (w_len_list (w_arg rfl))));rw[aw]at e;refine Nat.le_of_not_lt λq=>?_;first
   | (rw[aB q']at e;exact absurd e (by decide))
   | (simp at e;omega)
 cases i with
 |cons w1 w2=>
  cases w2;cases w1 with
  |list ho Ac=>exact⟨_,_,b,rfl,rfl,ho,uN b _ Ac,p⟩
def post_true(l:OpenLaw) args:l.row.toRowW.claim.post args (.bool true) args=true:=
 postW_of
  (show WShape.has [] (.bool true) .bool=true by first|rfl|decide|simp[WShape.has,WShape.arms,WShape.armsAll])
  (w_eq_bool (w_res rfl) w_lit) rfl
end Att
namespace L2
open PySem PySem.Spec PyProof.Rows
theorem xW:∀{vs} {ns},IntsAre vs ns->hW (ns.map V.int) vs
 |_,_,.nil=>.nil
 |_,_,.cons n t h=>.cons ⟨t,rfl⟩ (xW h)
def MM(H:Hp):Prop:=∀b,H b=none\/∃o a,H b=some (.frz o (.lst a))
def Aw(h:Heap)(H:Hp)(a:List (Addr×Addr)):Heap:=⟨(G4 h H).objs,{ids:=a}⟩
theorem Jp{K:W.Frag}
  (KX:K.In s₁.heap) (J:s₁.heap.Ns mainGlobals mg) (f:s₁.heap.Ns builtinsNs mb) (S:∀x:Str,x≠ "__name__" ->mb x=bootBuiltins x) (B:s₁.heap.NoLimit) (hg:s₁.gens = #[])
  (N:s₁.heap.get? a=some {cls:=.type "list",data:=.seq vs.toArray}) (hi:IntsAre vs ns) (hl:ns.length<=sizeLine) (hr:i6 k callerA)
  (F:∀g:Heap,K.In g->g.Ns mainGlobals mg->nh P w K mg g CX k fa fd [x] sp) (p:∀(s:Shared) (u:Vq),BindsTo s fd ⟨[u],[]⟩ [(x,u)])
  (X:∀H:Hp,MM H->lC K H a (ns.map V.int)->sp [.ref a] H (λv _=>v=.bl true) λ_ _ _=>False)
  (U:∀H e i,CX [] H s₁ (λ_ _ _=>False) e i->False) :
  codeAny (model P w) callerA (.call (.ref fa) ⟨[.ref a],[]⟩) (λr i=>r=.ok (.ret (.bool true))/\OldK s₁.heap i.heap/\i.os=s₁.os/\AllBare i.gens) s₁:=by
 have rv:=xW hi;have I:=hi.length;have l:∀H:Hp,MM H->lC K H a (ns.map V.int)->qP P w H s₁.heap->(∀b,H b≠none->b=a)->(H a≠none->K.lookup a=none)->
   codeAny (model P w) callerA (.call (.ref fa) ⟨[.ref a],[]⟩) (λr i=>r=.ok (.ret (.bool true))/\OldK s₁.heap i.heap/\i.os=s₁.os/\AllBare i.gens) s₁:=by
  intro H hO hS D hA hK;have base_of:∀{b:Addr} {o:Obj},s₁.heap.get? b=some o->H b=none->(Aw s₁.heap H []).get? b=some o:=λe n=>HS e n;have Z:∀{b:Addr} {o:Obj} {L:Array DictEntry} {Q:Nat},s₁.heap.get? b=some o->o.data=.dict L Q->H b=none:=λ{b o L Q} e d=>by
   cases q:H b with
   |none=>rfl
   |some u=>have Y:=hA b (by rw[q];simp);subst Y;rw[N]at e;cases e;have d':=d;cases d'
  have j:∀{b:Addr} {m:Str->Option Value},s₁.heap.Ns b m->(Aw s₁.heap H []).Ns b m:=λ{b m} ⟨o,L,Q,e,d,r⟩=>⟨o,L,Q,base_of e (Z e d),d,r⟩;have y:K.In (Aw s₁.heap H []):=λb o e=>base_of (KX b o e) (by
   cases q:H b with
   |none=>rfl
   |some u=>have Y:=hA b (by rw[q];simp);subst Y;rw[hK (by rw[q];simp)]at e;cases e)
  have hM:Mod K mg (Aw s₁.heap H []):=⟨y,j J,⟨mb,j f,S⟩,let ⟨mc,h1,h2⟩:=B;⟨mc,j h1,h2⟩⟩;have e0:Cm P w K mg (Aw s₁.heap H []) callerA [] s₁ H:=⟨rfl,hM,λb o e=>Ks e,Nat.le_of_eq (Fs _ _),trivial,λb f=>absurd (show b∈([]) from f) (by simp),D,.of_eq hg,λc P qn hm=>nomatch (show (c,P)∈([]:List (Addr×Addr)) from hm)⟩;refine codeAny_mono ((F _ y (j J)).run callerA [] s₁ H ⟨[.ref a],[]⟩ [.ref a] [.ref a] _ _ hr e0 (p s₁ (.ref a)) (.cons rfl .nil) (X H hO hS)) λr i h=>?_;cases r with
  |error e=>exact (U H e i h).elim
  |ok fl=>
   cases fl with
   |next=>exact False.elim h
   |brk=>exact False.elim h
   |cont=>exact False.elim h
   |ret u=>
    obtain⟨v,H',os,C,un,E,r',q⟩:=h;have q':=q;subst q';obtain rfl:u=Value.bool true:=r';refine⟨rfl,OldK.of_keep λb o e=>?_,os,C⟩;cases q:H b with
    |none=>exact un.keep b o e q (by intro z;exact absurd (show b∈([]) from z) (by simp)) (by simp)
    |some u=>
     rcases hO b with z|⟨ob,xs,z⟩
     .rw[q]at z;cases z
     .have z2:=un.frzs b ob _ z;obtain⟨e1,_⟩:=D b _ z;obtain⟨e2,_⟩:=E b _ z2;rw[e]at e1;cases e1;exact e2
 cases R:K.lookup a with
 |some o=>have e:=KX a o R;rw[N]at e;cases e;refine l (λ_=>none) (λ_=>.inl rfl) (.inr ⟨_,vs.toArray,_,R,rfl,rfl,rfl,by rw[bF,I];exact hl,by simpa using rv⟩) (λb u z=>by have A:=z;cases A) (λb z=>absurd rfl z) λz=>absurd rfl z
 |none=>
  refine l (λb=>if b=a then some (.frz {cls:=.type "list",data:=.seq vs.toArray} (.lst (ns.map V.int))) else none) (λb=>?_) (.inl (.inr ⟨{cls:=.type "list",data:=.seq vs.toArray},aP rfl⟩)) (λb u z=>?_) (λb z=>?_) λ_=>R
  .by_cases f:b=a
   .exact .inr ⟨_,_,aP f⟩
   .exact .inl (aQ f)
  .by_cases f:b=a
   .have A:=(aP f).symm.trans z;cases A;subst f;exact⟨N,by rw[aw];exact hl,vs,_,rv,N⟩
   .have A:=(aQ f).symm.trans z;cases A
  .by_cases f:b=a
   .exact f
   .exact absurd (aQ f) z
end L2
namespace L2
open PySem PySem.Spec PyProof.Rows
noncomputable def nP(s:Stmt)(j:Nat):Stmt:=match s with
 |.ClassDef _ _ _ body _ _ _ _ _ _ _=>body.getD j (.Pass ⟨0,0,0,0⟩)
 |_=>.Pass ⟨0,0,0,0⟩
noncomputable def jJ(s:Stmt):Arguments:=match s with
 |.FunctionDef _ a _ _ _ _ _ _ _ _=>a
 |_=>{posonlyargs:=[],args:=[],vararg:=none,kwonlyargs:=[],kw_defaults:=[],kwarg:=none,defaults:=[]}
noncomputable def iy(s:Stmt):List Stmt:=match s with
 |.FunctionDef _ _ b _ _ _ _ _ _ _=>b
 |_=>[]
noncomputable def gw(s:Stmt):Scope:=match s with
 |.FunctionDef _ _ _ _ _ _ sc _ _ _=>sc
 |_=>{kind:=.function,names:=[],isGenerator:=false,isCoroutine:=false}
abbrev xh:K2:=λ_ _ _ _ _ _=>False
abbrev E0:XK:=λ_ _ _=>False
def IU:uf xh X E0:=λ_ _ _ _ _ _ _ h=>h.elim
structure JL(K:W.Frag)(x qual:Str)(st:Stmt)(f:Addr)(fd:FuncData):Prop where
 ex:∃(oc:Vq) (od:Option Addr) (kV doc pm:Vq) (an:Option Addr) (cdv ct:Vq) (osl:Array (Option Value)),
  fd=W.fnOf x qual (jJ st) (iy st) (gw st) .none kV doc pm an cdv ct/\K.lookup f=some ⟨oc,od,.func fd,osl⟩/\W.codeIn K cdv qual=true
 kp:W.keepIn K (.ref f)=true
section
variable {P:Program}{w:World}{K:W.Frag}{mg:Str->Option Value}{base:Heap}
def JL.ok{st:Stmt}(F:JL K x qual st f fd)(S:jC N ps (gw st))(g:∀vs H Q E,sp vs H Q E->vs.length=ps.length)
  (c:∀b A a s H vs Q E,i6 k (A.deeper (envOfC qual (gw st) s.heap.objs.size f b))->sp vs H Q E->
   ∃t,Ak (pW xh P w K mg base N qual (gw st) f b A a s H E).nox (iy st) t/\t {nx:=λ_ m=>Q .non m,rt:=Q} (mx N vs) H):nh P w K mg base xh (k+1) f fd ps sp:=by
 obtain⟨p,o,kV,i,u,n,b,r,l,rfl,j,d⟩:=F.ex;refine Q0 j d S g λA a s H vs Q E hr e=>?_;obtain⟨t,h,q⟩:=c b A a s H vs Q E hr e;exact⟨t,h.nox,q⟩
def JL.binds{st:Stmt}(F:JL K x qual st f fd)
  (h:∀(kV b e:Vq) (d:Option Addr) (a c:Vq) (us:List Vq),us.length=ps.length->bindArgs (W.fnOf x qual (jJ st) (iy st) (gw st) .none kV b e d a c) ⟨us,[]⟩=pure (ps.zip us)):qr K fd ps []:=by
 obtain⟨l,j,kV,b,e,d,a,c,g,rfl,k,i⟩:=F.ex;exact .all (h kV b e d a c)
def B5{st:Stmt}{kV b e a d:Vq}(l:K.lookup f=some ⟨oc,od,.func (W.fnOf x qual (jJ st) (iy st) (gw st) .none kV b e an a d),osl⟩)
  (c:W.codeIn K a qual=true) (k:W.keepIn K (.ref f)=true):JL K x qual st f (W.fnOf x qual (jJ st) (iy st) (gw st) .none kV b e an a d):=⟨⟨oc,od,kV,b,e,an,a,d,osl,rfl,l,c⟩,k⟩
end
def Rb(hr:i6 k A):A.units+1<cLine:=b8 (b9 (by decide:1<=64) _) hr.units
section
variable {X:Cx}
def pv i (c:X.N[i]? = some x:=by rfl) (d:PJ X.env.scope x:=by first|exact Or.inl rfl|exact Or.inr (Or.inl rfl)|exact Or.inr (Or.inr rfl)) (b:(x==("__debug__" : Str))=false:=by decide)
  (a:(x==("__classdict__" : Str))=false:=by decide):PE X (.Name x pos) (lQ i):=Pf c d b a
end
def Gk(o:HO)(x:Option HO):Prop:=match o with
 |.tbl q ps=>∃a,x=some (.tbl q (ps++a))
 |o=>x=some o
def Gk.of(h:x=some o):Gk o x:=by
 cases o with
 |tbl q ps=>exact⟨#[],by rw[h];simp⟩
 |_=>exact h
def Gk.ne(h:Gk o x):x≠none:=by
 cases o with
 |tbl q ps=>obtain⟨m,e⟩:=h;rw[e];exact λz=>nomatch z
 |_=>have e:x=some _:=h;rw[e];exact λz=>nomatch z
def gL(H a:Hp):Prop:=∀b o,H b=some o->Gk o (a b)
def gL.refl H:gL H H:=λ_ _ h=>.of h
def gL.trans(a:gL H H1)(b:gL H1 H2):gL H H2:=λc o h=>by
 have q:=a c o h;cases o with
 |tbl q ps=>obtain⟨m,e⟩:=q;obtain⟨d,f⟩:=b c _ e;exact⟨m++d,by rw[f,bz]⟩
 |_=>exact b c _ q
def gL.seq{K:W.Frag}(e:gL H H')(h:lC K H a xs):lC K H' a xs:=by
 rcases h with (h|⟨o,h⟩)|h
 .exact .inl (.inl (e _ _ h))
 .exact .inl (.inr ⟨o,e _ _ h⟩)
 .exact .inr h
end L2
namespace L2
open PySem PySem.Spec PyProof.Rows
section
variable {P:Program}{w:World}{H:Hp}{h:Heap}{a:Addr}{o:HO}
def qP.track(ok:qP P w H h)(f:H a=none)(new:kf P w (ju H a o) h a o):qP P w (ju H a o) h:=λb u e=>by
 by_cases d:b=a
 .subst d;rw[gB]at e;cases e;exact new
 .rw[gA d]at e;refine (ok b u e).stay (λ_ _ _ q=>q) (λc q=>?_) λc g q=>?_
  .rw[gA (hC q f)];exact q
  .rw[gA (hC q f)];exact q
end
def gJ.track(I:gJ X fT σ H s)(d:H a=none)(h:a∈X.ex\/X.s₀.heap.objs.size<=a)
  (g:a≠X.env.locals) (i:∀x c,X.env.cells.lookup x=some c->c≠a) (j:∀p∈X.pn++fT,p.1≠a) (new:kf X.prog X.w (ju H a o) s.heap a o):gJ X fT σ (ju H a o) s:=by
 have J:=I.step (t':=s.toks) (d':=s.drawn) (ch:=[a])
  (λb f=>by
   have e:b=a:=by simpa using f
   subst e;exact⟨h,g,i,j⟩)
  (λ_ _ _ _ _ e _=>e) (λ_ u _ _ _ e _=>⟨u.slots,e⟩)
  (λb u f _ n=>by rw[gA (by simpa using f)];exact n)
  (λ_ u _ e=>⟨u,e⟩)
  (λb k q=>by rw[gA (hC q d)];exact q)
  (λb u v q=>by rw[gA (hC q d)];exact q)
  (λb _ l q=>⟨#[],by rw[gA (hC q d),q];simp⟩)
  (λ_ q=>q) (I.hok.track d new) I.bare
 exact J
noncomputable def my(a:Env):List (Str×NameKind)->List (Str×Addr)->List (Str×Addr)
 |[],acc=>acc
 | (n,k)::r,acc=>if k==NameKind.free then (match a.cells.lookup n with
  |some c=>my a r ((n,c)::acc)
  |none=>my a r acc) else my a r acc
def rh(h:∀y∈scope.names,y.2=.free->∃c,env.cells.lookup y.1=some c):closureFor scope env=pure (my env scope.names []):=by
 have all:∀(l:List (Str×NameKind)) b,(∀y∈l,y.2=.free->∃c,env.cells.lookup y.1=some c)->
   (forIn l b λx cs=>(if (x.2==NameKind.free)=true then (do
    let a <-cellOf env x.1
    pure (ForInStep.yield ((x.1,a)::cs))) else pure (ForInStep.yield cs):Sem _))=pure (my env l b):=by
  intro l;induction l with
  |nil=>intro b _;rfl
  |cons y r ih=>
   intro b g;obtain⟨n,k⟩:=y;rw[List.forIn_cons];by_cases d:(k==NameKind.free)=true
   .obtain⟨c,m⟩:=g (n,k) bu (by simpa using d);have f:=m;have e:cellOf env n=pure c:=by unfold cellOf;rw[f]
    simp only[d,if_true,e,pure_bind];rw[ih _ λy j=>g y (bx _ j)];show pure (my env r ((n,c)::b))=pure (if (k==NameKind.free)=true then (match env.cells.lookup n with
     |some c=>my env r ((n,c)::b)
     |none=>my env r b) else my env r b)
    rw[aP d,f]
   .have i:(k==NameKind.free)=false:=by simpa using d
    simp only[i,cf,if_false,pure_bind];rw[ih _ λy j=>g y (bx _ j)];show pure (my env r b)=pure (if (k==NameKind.free)=true then (match env.cells.lookup n with
     |some c=>my env r ((n,c)::b)
     |none=>my env r b) else my env r b)
    rw[aQ d]
 have:=all scope.names [] h;unfold closureFor;simp only[pure_bind,bind_pure]at this ⊢;exact this
theorem l6:∀{l} {acc},(∀y d,acc.lookup y=some d->env.cells.lookup y=some d)->(my env l acc).lookup x=some c->env.cells.lookup x=some c
 |[],acc,ha,h=>ha x c h
 | (n,k)::r,acc,ha,h=>by
  unfold my at h;by_cases b:(k==NameKind.free)=true
  .rw[aP b]at h;cases e:env.cells.lookup n with
   |none=>rw[e]at h;exact l6 ha h
   |some d=>
    rw[e]at h;refine l6 (λy d' a=>?_) h;rw[cg]at a;cases q:y==n with
    |true=>rw[q]at a;cases a;rw[beq_iff_eq.mp q];exact e
    |false=>rw[q]at a;exact ha y d' a
  .rw[aQ b]at h;exact l6 ha h
theorem qG:∀{l} {acc},(∃c,acc.lookup x=some c)->∃c,(my env l acc).lookup x=some c
 |[],_,h=>h
 | (n,k)::r,acc,h=>by
  unfold my;by_cases a:(k==NameKind.free)=true
  .rw[aP a];cases e:env.cells.lookup n with
   |none=>exact qG h
   |some d=>
    refine qG ?_;rw[cg];cases q:x==n with
    |true=>exact⟨d,rfl⟩
    |false=>exact h
  .rw[aQ a];exact qG h
theorem oA:∀{l} {acc},(x,NameKind.free)∈l->(∃c,env.cells.lookup x=some c)->∃c,(my env l acc).lookup x=some c
 | (n,k)::r,acc,b,a=>by
  rcases aE.mp b with e|b
  .cases e;obtain⟨c,a⟩:=a;unfold my;rw[aP (by rfl),a];refine qG ⟨c,?_⟩;rw[cg,beq_self_eq_true]
  .unfold my;by_cases f:(k==NameKind.free)=true
   .rw[aP f];cases env.cells.lookup n with
    |none=>exact oA b a
    |some d=>exact oA b a
   .rw[aQ f];exact oA b a
def sA(h:(relabel scope env).names.lookup x=some .cell\/(relabel scope env).names.lookup x=some .free):(x,NameKind.free)∈scope.names\/scope.names.lookup x=some .cell:=by
 have all:∀(l:List (Str×NameKind)),∀k,(k=NameKind.cell\/k=NameKind.free)->
   (l.map λ(n,k)=>if (k==NameKind.free&&env.scope.kind==.function&&env.kindOf n==some .cell) then (n,NameKind.cell) else (n,k)).lookup x=some k->(x,NameKind.free)∈l\/l.lookup x=some .cell:=by
  intro l;induction l with
  |nil=>intro k _ h;simp at h
  |cons y r ih=>
   intro k b h;obtain⟨n,c⟩:=y;rw[bH]at h;by_cases a:(c==NameKind.free&&env.scope.kind==.function&&env.kindOf n==some .cell)=true
   .have d:c=.free:=by simp only[bS,beq_iff_eq]at a;exact a.1.1
    simp only[a,if_true]at h;rw[cg]at h;cases q:x==n with
    |true=>rw[d,beq_iff_eq.mp q];exact .inl bu
    |false=>
     rw[q]at h;rcases ih k b h with z|z
     .exact .inl (bx _ z)
     .exact .inr (by rw[cg,q];exact z)
   .simp only[a,cf,if_false]at h;rw[cg]at h;cases q:x==n with
    |true=>
     rw[q]at h;have e:c=k:=by simpa using h
     rcases b with rfl|rfl
     .exact .inr (by rw[cg,q,e])
     .rw[e,beq_iff_eq.mp q];exact .inl bu
    |false=>
     rw[q]at h;rcases ih k b h with z|z
     .exact .inl (bx _ z)
     .exact .inr (by rw[cg,q];exact z)
 rcases h with h|h
 .exact all scope.names _ (.inl rfl) h
 .exact all scope.names _ (.inr rfl) h
def yO(h:scope.names.lookup x=some .free):(relabel scope env).names.lookup x=some .cell\/(relabel scope env).names.lookup x=some .free:=by
 have all:∀(l:List (Str×NameKind)),l.lookup x=some .free->
   (l.map λ(n,k)=>if (k==NameKind.free&&env.scope.kind==.function&&env.kindOf n==some .cell) then (n,NameKind.cell) else (n,k)).lookup x=some .cell\/
   (l.map λ(n,k)=>if (k==NameKind.free&&env.scope.kind==.function&&env.kindOf n==some .cell) then (n,NameKind.cell) else (n,k)).lookup x=some .free:=by
  intro l;induction l with
  |nil=>intro h;simp at h
  |cons y r ih=>
   intro h;obtain⟨n,k⟩:=y;rw[bH];rw[cg]at h;cases q:x==n with
   |true=>
    rw[q]at h;have b:k=.free:=by simpa using h
    by_cases a:(k==NameKind.free&&env.scope.kind==.function&&env.kindOf n==some .cell)=true
    .refine .inl ?_;simp only[a,if_true];rw[cg,q]
    .refine .inr ?_;simp only[a,cf,if_false];rw[cg,q,b]
   |false=>
    rw[q]at h;by_cases a:(k==NameKind.free&&env.scope.kind==.function&&env.kindOf n==some .cell)=true
    .simp only[a,if_true];rw[cg,q];exact ih h
    .simp only[a,cf,if_false];rw[cg,q];exact ih h
 exact all scope.names h
def E8(X:Cx)(a:List Expr)(t:TT):Prop:=
 ∀(d:List (Addr×Obj)) (s:Shared) (b:St) (H:Hp) (Q:Bool->Hp->Prop),gJ X d b H s->t b H Q->
  wpAny (model X.prog X.w) X.A (forIn a true λc r=>if r=true then do let ok <-isTrue c X.env (eval c X.env);pure (ForInStep.yield ok) else pure (ForInStep.yield r)) (TP X d b Q) X.xe s
def Ng:TT:=λ_ H Q=>Q true H
def Kv:E8 X [] Ng:=λ_ _ _ H _ I h=>wpAny_tests_nil ⟨H,I,h⟩
def J5(b:PT X c t):E8 X [c] t:=λa s d H Q I h=>wpAny_tests_one (b a s d H Q I h)
theorem nq:∀a k b,(cellsFrom k a b).lookup x=some c->b.lookup x=some c\/(k<=c/\(x,NameKind.cell)∈a)
 |[],_,_,h=>.inl h
 | (n,kd)::r,k,b,h=>by
  unfold cellsFrom at h;split at h
  .rename_i e;rcases nq r _ _ h with q|⟨q,m⟩
   .rw[cg]at q;cases d:x==n with
    |true=>rw[d]at q;cases q;refine .inr ⟨aJ _,?_⟩;rw[beq_iff_eq.mp d,beq_iff_eq.mp e];exact bu
    |false=>rw[d]at q;exact .inl q
   .exact .inr ⟨cj q,bx _ m⟩
  .rcases nq r _ _ h with q|⟨q,m⟩
   .exact .inl q
   .exact .inr ⟨q,bx _ m⟩
theorem mm:∀a k b,(x,NameKind.cell)∉a->(cellsFrom k a b).lookup x=b.lookup x
 |[],_,_,_=>rfl
 | (n,kd)::r,k,b,h=>by
  unfold cellsFrom;have hr:(x,NameKind.cell)∉r:=λz=>h (bx _ z);split
  .rename_i c;rw[mm r _ _ hr,cg];cases d:x==n with
   |true=>exact absurd (by rw[beq_iff_eq.mp d,beq_iff_eq.mp c];exact bu) h
   |false=>rfl
  .exact mm r _ _ hr
theorem nT:∀a k b,(x,NameKind.cell)∈a->(cellsFrom k a b).lookup x=some c->k<=c
 |[],_,_,h,_=>nomatch h
 | (n,kd)::r,k,b,h,e=>by
  unfold cellsFrom at e;by_cases hr:(x,NameKind.cell)∈r
  .split at e
   .exact cj (nT r _ _ hr e)
   .exact nT r _ _ hr e
  .rcases aE.mp h with q|q
   .cases q;rw[aP (by rfl),mm r _ _ hr,cg,beq_self_eq_true]at e;cases e;exact aJ _
   .exact absurd q hr
theorem nY:∀d k a,(∀x y c,a.lookup x=some c->a.lookup y=some c->x=y)->(∀x c,a.lookup x=some c->c<k)->
  ∀x y c,(cellsFrom k d a).lookup x=some c->(cellsFrom k d a).lookup y=some c->x=y
 |[],_,_,h,_=>h
 | (n,kd)::r,k,a,h,hl=>by
  unfold cellsFrom;split
  .refine nY r (k+1) ((n,k)::a) (λx y c b e=>?_) λx c b=>?_
   .rw[cg]at b e;cases f:x==n with
    |true=>
     cases g:y==n with
     |true=>rw[beq_iff_eq.mp f,beq_iff_eq.mp g]
     |false=>rw[f]at b;rw[g]at e;cases b;exact absurd (hl _ _ e) (aZ _)
    |false=>
     rw[f]at b;cases g:y==n with
     |true=>rw[g]at e;cases e;exact absurd (hl _ _ b) (aZ _)
     |false=>rw[g]at e;exact h x y c b e
   .rw[cg]at b;cases f:x==n with
    |true=>rw[f]at b;cases b;exact bI _
    |false=>rw[f]at b;exact ck (hl x c b)
  .exact nY r k a h hl
theorem ng:∀a h b,(cellsFrom h.objs.size a b).lookup x=some c->b.lookup x=some c\/(h.objs.size<=c/\(pushCells h a).IsCell c none)
 |[],_,_,e=>.inl e
 | (n,kd)::r,h,b,e=>by
  unfold cellsFrom at e;unfold pushCells;split at e
  .rename_i d;rw[aP d];have g:(cellsFrom (h.push {cls:=.type "cell",data:=.cell none}).objs.size r ((n,h.objs.size)::b)).lookup x=some c:=by rw[Heap.size_push];exact e
   rcases ng r _ _ g with q|⟨q,m⟩
   .rw[cg]at q;cases f:x==n with
    |true=>rw[f]at q;cases q;exact .inr ⟨aJ _,_,pushCells_keeps r _ _ _ (ar _ rfl),rfl⟩
    |false=>rw[f]at q;exact .inl q
   .rw[Heap.size_push]at q;exact .inr ⟨cj q,m⟩
  .rename_i d;rw[aQ d];exact ng r _ _ e
def sW{M:Model}{A:Around}{E:Vq->Shared->Prop}{s:Shared}{a:Scope}{globals:Addr}{closure:List (Str×Addr)}{c:Str}{e:Option Addr}{d:Vq}{b:Env}{builtins:Addr}{Q:Env->Shared->Prop}
  (j:Q (newEnv a s.heap.objs.size globals (cellsFrom (s.heap.objs.size+1) a.names closure) c e d (some b) builtins) {s with heap:=pushCells (s.heap.push {cls:=.type "dict",data:=.dict #[]}) a.names}) :
  wpAny M A (newFunctionEnv a globals closure [] c e d (some b) builtins) Q E s:=by
 simp only[newFunctionEnv,cm,if_true];refine ao (wpAny_alloc ?_);refine ao (wpAny_layCells _ (λi f g=>by cases h:f==NameKind.cell<;>simp[h]) _ _ _ _ ?_);rw[show ({s with heap:=s.heap.push {cls:=.type "dict",data:=.dict #[]}}:Shared).heap.objs.size=s.heap.objs.size+1 from Heap.size_push ..];rw[List.forIn_nil];exact ao (ak (ak j))
noncomputable def mQ(X:Cx)(N:List Str)(a:Scope)(C:Addr)(b:Shared)(H:Hp)(ex:List Addr)(pn:List (Addr×Obj)):Cx:={X with N:=N,s₀:=b,H₀:=H,env:=compEnvC a (cellsFrom (C+1) a.names (my X.env a.names [])) C X.env,outer:=X.stack,ex:=ex,fn:=λx=>a.names.lookup x==some .cell,pn:=pn,xe:=λ_ _=>False}
noncomputable def pull(a:List (Option Nat))(b:St):St:=a.map fun
 |none=>none
 |some j=>(b[j]?).getD none
def Sm(J:It)(h:List (Option Nat))(g:TG)(n:TT)(j:TE)(p:St)(l:Hp)(Q:VK):Prop:=∃W:Nat->Nat->List V->Hp->Prop,(∃m,W 0 m [] l)/\∀i m c H,W i m c H->
 (J.stop i H/\∀D,H D=none->Q (.ref D) (ju H D (.lst c)))\/
 (J.go i H/\c.length<sizeLine/\∀x f,J.yld i H x f->g x (pull h p) f λd k=>n d k λb e=>if b=true then j d e λy o=>∃a,a<m/\W (i+1) a (c++[y]) o else ∃a,a<m/\W (i+1) a c e)
def Je(c:List (Option Nat))(e:TI)(g:TG)(f:TT)(b:TE):TE:=λa H Q=>e a H λJ d=>Sm J c g f b a d Q
end L2
namespace L2
open PySem PySem.Spec PyProof.Rows
section
variable {prog:Program}{w:World}{A:Around}{R:Result->Shared->Prop}{s:Shared}
theorem zw{p F o:Expr}{u:List Expr}{e:Scope}{pos:Pos}{it q:Vq}{a:Env}(J:Nat->Shared->Prop)
  (y:∀n s,J n s->wpAny (model prog w) A (pyNext it) (λr b=>match r with
   |none=>R (.ok .next) b
   |some v=>wpAny (model prog w) A (letOwnedTupleGo F it v) (λ_ j=>wpAny (model prog w) A (assign F a v) (λ_ i=>
     wpAny (model prog w) A (forIn u true λc r=>if r=true then do let ok <-isTrue c a (eval c a);pure (ForInStep.yield ok) else pure (ForInStep.yield r)) (λok d=>
      if ok=true then wpAny (model prog w) A (eval p a) (λx g=>wpAny (model prog w) A (call (.builtin "list.append") [q,x]) (λ_ l=>∃m,m<n/\J m l) (λ_ _=>False) g) (λ_ _=>False) d
      else ∃m,m<n/\J m d) (λ_ _=>False) i) (λ_ _=>False) j) (λ_ _=>False) b) (λ_ _=>False) s)
  (n:Nat) (h:J n s):codeAny (model prog w) A (.compLoop (.ListComp p [⟨F,o,u,0⟩] e pos) 0 it q a) R s:=by
 refine codeAny_loop rfl J (λn s H=>?_) n h;show wpAny _ A ((compTurn (.ListComp p [⟨F,o,u,0⟩] e pos) 0 it q a).onRaise (λx=>do noteFrame x a;theTreesLotGoes x)) _ _ s;refine wpAny_noted ?_;rw[compTurn_list];refine ao (wpAny_standAt (ao (wpAny_mono (y n s H) (λr b f=>?_) λ_ _ z=>z.elim)));cases r with
 |none=>exact ak f
 |some v=>
  refine ao (wpAny_mono f (λ_ j B=>?_) λ_ _ z=>z.elim);refine ao (wpAny_mono B (λ_ i D=>ao (wpAny_mono D (λok d k=>?_) λ_ _ z=>z.elim)) λ_ _ z=>z.elim);cases ok with
  |false=>exact ak ⟨rfl,k⟩
  |true=>exact ao (ao (wpAny_mono k (λx g C=>ao (wpAny_mono C (λ_ l E=>ak (ak ⟨rfl,E⟩)) λ_ _ z=>z.elim)) λ_ _ z=>z.elim))
end
def oQ(c:List (Option Nat))(g:TG):Prop:=∀x a H Q,g x a H Q->g x a H λb d=>(∀i j:Nat,c[i]? = some (some j)->b[i]? = a[i]?)/\Q b d
def wZ(a:ix[k]? = some none):oQ ix (jg k):=λx b H Q h=>by
 refine⟨λi j e=>?_,h⟩;have:k≠i:=by rintro rfl;rw[a]at e;cases e
 rw[aq this]
abbrev xv(us:List Vq):Obj:={cls:=.type "list",data:=.seq us.toArray us.length}
section
variable {X:Cx}{tg elt iter:Expr}{ifs:List Expr}{scope:Scope}{pos:Pos}{N:List Str}{ix:List (Option Nat)}{wi:TI}{g:TG}{tt:TT}{te:TE}
structure AR(X:Cx)(scope:Scope)(N:List Str)(ix:List (Option Nat)):Prop where
 kind:scope.kind=.function
 sep:∀y∈scope.names,y.2=.cell->scope.names.lookup y.1=some .cell
 names:∀y∈scope.names,y.2=.local->scope.names.lookup y.1=some .local
 fre:∀y∈scope.names,y.2=.free->∃c,X.env.cells.lookup y.1=some c
 len:N.length=ix.length
 ix:∀(i j:Nat) (x:Str),N[i]? = some x->ix[i]? = some (some j)->X.N[j]? = some x/\scope.names.lookup x=some .free/\PJ X.env.scope x/\X.env.kindOf x≠some .local
def Q8(L:AR X scope N ix)(I:gJ X fT σ H s)(f:∀b∈fp,sI X fT H b)(i:∀b∈fp,b<s.heap.objs.size) o :
  (mQ X N scope (s.heap.objs.size+1) {s with heap:=s.heap.push o} H (s.heap.objs.size::fp) (X.pn++fT)).Ok:=by
 have w:gJ X fT σ H {s with heap:=s.heap.push o}:=I.kept λb u e=>ae _ e;have sound0:∀x c,(my X.env scope.names []).lookup x=some c->X.env.cells.lookup x=some c:=λx c e=>l6 (λy d z=>by simp at z) e;have cellLt:∀x c,X.env.cells.lookup x=some c->c<s.heap.objs.size:=λx c e=>let ⟨_,q⟩:=I.cell x c e;q.lt;have h:∀x c,(cellsFrom (s.heap.objs.size+1+1) scope.names (my X.env scope.names [])).lookup x=some c->X.env.cells.lookup x=some c\/s.heap.objs.size+1+1<=c:=λx c e=>by
  rcases nq _ _ _ e with q|⟨q,_⟩
  .exact .inl (sound0 x c q)
  .exact .inr q
 refine⟨I.ok.mod,L.kind,I.ok.glob,I.ok.blt,?_,nY _ _ _ (λx y c j n=>I.ok.inj x y c (sound0 x c j) (sound0 y c n)) (λx c j=>ck (ck (cellLt x c (sound0 x c j)))),λx r=>?_,λx c j n=>?_,I.ok.hd,I.ok.frames,.inl rfl,λb a=>?_,λb u e=>?_,?_,λb u e a=>?_,λb a=>?_,w.stack,I.stkFree,I.tab⟩
 .show (s.heap.push o).objs.size<=s.heap.objs.size+1;rw[Heap.size_push];exact aJ _
 .refine bN.mp (W.cellsFrom_some _ _ _ ?_);rcases sA r with k|k
  .exact .inr (bN.mpr (oA k (L.fre _ k rfl)))
  .exact .inl k
 .have l:(scope.names.lookup x==some .cell)=true:=j;have v:scope.names.lookup x=some .cell:=by simpa using l
  show (s.heap.push o).objs.size<=c;rw[Heap.size_push];exact cj (nT _ _ _ (PySem.mem_of_lookup v) n)
 .rcases aE.mp a with rfl|a
  .refine⟨aL (bI _),λx c e z=>?_⟩;rcases h x c e with q|q
   .exact absurd (cellLt x c q) (by rw[z];exact aZ _)
   .rw[z]at q;omega
  .refine⟨aL (ck (i b a)),λx c e=>?_⟩;rcases h x c e with q|q
   .exact (f b a).2.2.2.2.1 x c q
   .intro z;rw[z]at q;exact absurd (aM (cq _ 2) q) (Nat.not_le.mpr (i b a))
 .exact⟨ae _ (I.bs b u e).1,(I.bs b u e).2⟩
 .show X.base.objs.size<=(s.heap.push o).objs.size;rw[Heap.size_push];exact cu (aM I.ok.bsz I.sz)
 .have m:=aK (I.bs b u e).1;rcases aE.mp a with rfl|a
  .exact aZ _ m
  .rcases (f b a).2.2.2.1 with z|z
   .exact I.ok.noex b u e z
   .exact absurd (aD (aK e) (aM I.ok.bsz z)) (aZ _)
 .intro z;have p:=I.stkSub b z;rcases aE.mp a with rfl|a
  .rcases aE.mp p with q|q
   .exact absurd I.lt (by rw[<-q];exact aZ _)
   .exact I.nofs (aJ _) q
  .rcases aE.mp p with q|q
   .exact (f b a).2.1 q
   .exact (f b a).2.2.1 q
end
end L2
namespace L2
open PySem PySem.Spec PyProof.Rows
section
variable {X:Cx}{tg elt iter:Expr}{ifs:List Expr}{scope:Scope}{pos:Pos}{N:List Str}{ix:List (Option Nat)}{wi:TI}{g:TG}{tt:TT}{te:TE}
def AD{i:Nat}(h:(pull ix σ)[i]? = some (some v)):∃j,ix[i]? = some (some j)/\σ[j]? = some (some v):=by
 unfold pull at h;rw[av]at h;cases e:ix[i]? with
 |none=>rw[e]at h;cases h
 |some k=>
  rw[e]at h;cases k with
  |none=>cases h
  |some j=>
   refine⟨j,rfl,?_⟩;have a:(σ[j]?).getD none=some v:=by simpa using h
   cases q:σ[j]? with
   |none=>rw[q]at a;cases a
   |some z=>rw[q]at a;simpa using a
theorem DH{RR:Vq->Addr->Result->Shared->Prop}{Q:VK}{W:Nat->Nat->List V->Hp->Prop}
  (hc:X.calm=true) (L:AR X scope N ix) (hgk:oQ ix g)
  (blk:∀C P H ex pn,PG (mQ X N scope C P H ex pn) tg g/\E8 (mQ X N scope C P H ex pn) ifs tt/\PE (mQ X N scope C P H ex pn) elt te)
  (l:gJ X fT σ H2 s2) (T:A8 X.prog X.w X.K tg J fp it tn) (st2:tn 0 s2.heap) (f2:∀b∈fp,sI X fT H2 b) (w0:W 0 m0 [] H2)
  (turn:∀i m U H,W i m U H->(J.stop i H/\∀D,H D=none->Q (.ref D) (ju H D (.lst U)))\/
   (J.go i H/\U.length<sizeLine/\∀x s,J.yld i H x s->g x (pull ix σ) s λσ2 H2=>tt σ2 H2 λb H3=>if b=true then te σ2 H3 λy H4=>∃m',m'<m/\W (i+1) m' (U++[y]) H4 else ∃m',m'<m/\W (i+1) m' U H3))
  (fin:∀D C m s Z,Z.heap.Ns C m->sI X fT s C->gJ X fT σ s Z->Q (.ref D) s->RR (.ref D) C (.ok .next) Z) :
  wpAny (model X.prog X.w) X.A (newList []) (λacc P=>wpAny (model X.prog X.w) X.A (newFunctionEnv scope X.env.globals (my X.env scope.names []) [] X.env.qual none .none (some X.env)) (λcenv s₄=>codeAny (model X.prog X.w) X.A (.compStart (.ListComp elt [⟨tg,iter,ifs,0⟩] scope pos) 0 (.ref it) acc {cenv with scope:=relabel scope X.env}) (RR acc cenv.locals) s₄) E P) E s2:=by
 refine wpAny_newObj_type (sW ?_);have hCs:(s2.heap.push {cls:=.type "list",dict:=none,data:=.seq ([]).toArray}).objs.size=s2.heap.objs.size+1:=Heap.size_push ..;generalize S:pushCells ((s2.heap.push {cls:=.type "list",dict:=none,data:=.seq ([]).toArray}).push {cls:=.type "dict",data:=.dict #[]}) scope.names=h₁;rw[hCs];have hns₁:h₁.Ns (s2.heap.objs.size+1) (λ_=>none):=by rw[<-S,<-hCs];exact (Heap.Ns.new _ _).keeps (pushCells_keeps _ _)
 have Y:∀x c,(cellsFrom (s2.heap.objs.size+1+1) scope.names (my X.env scope.names [])).lookup x=some c->X.env.cells.lookup x=some c\/(s2.heap.objs.size+1+1<=c/\h₁.IsCell c none):=λx c e=>by
  have hs3:((s2.heap.push {cls:=.type "list",dict:=none,data:=.seq ([]).toArray}).push {cls:=.type "dict",data:=.dict #[]}).objs.size=s2.heap.objs.size+1+1:=by rw[Heap.size_push,hCs]
  rw[<-hs3]at e;rcases ng _ _ _ e with q|⟨q,m⟩
  .exact .inl (l6 (λy d z=>by simp at z) q)
  .rw[hs3]at q;rw[S]at m;exact .inr ⟨q,m⟩
 have fpObj:=T.obj 0 _ st2;have hlt:∀b∈fp,b<s2.heap.objs.size:=λb h=>let ⟨_,e,_⟩:=fpObj b h;aK e;have ok:=Q8 L l f2 hlt {cls:=.type "list",dict:=none,data:=.seq ([]).toArray};have DC:s2.heap.objs.size≠s2.heap.objs.size+1:=aL (bI _);have hold:∀b o,(s2.heap.push {cls:=.type "list",dict:=none,data:=.seq ([]).toArray}).get? b=some o->h₁.get? b=some o:=λb o e=>by rw[<-S];exact pushCells_keeps _ _ _ _ (ae _ e)
 have old:∀b o,s2.heap.get? b=some o->h₁.get? b=some o:=λb o e=>hold b o (ae _ e);have sound:∀x c,(my X.env scope.names []).lookup x=some c->X.env.cells.lookup x=some c:=λx c e=>l6 (λy d z=>by simp at z) e;have cellLt:∀x c,X.env.cells.lookup x=some c->c<s2.heap.objs.size:=λx c e=>let ⟨_,q⟩:=l.cell x c e;q.lt;have hDn:=l.hok.fresh (aJ _);have hCn:=l.hok.fresh (bL _);have F:∀p∈X.pn++fT,p.1<s2.heap.objs.size:=λp f=>aK (l.pin p f).1;have hDfs:s2.heap.objs.size∉Fd X.stack:=λz=>by
  rcases aE.mp (l.stkSub _ z) with q|q
  .exact absurd l.lt (by rw[<-q];exact aZ _)
  .exact l.nofs (aJ _) q
 have I':gJ (mQ X N scope (s2.heap.objs.size+1) {s2 with heap:=s2.heap.push {cls:=.type "list",dict:=none,data:=.seq ([]).toArray}} H2 (s2.heap.objs.size::fp) (X.pn++fT))
   [(s2.heap.objs.size,xv [])] (pull ix σ) H2 {s2 with heap:=h₁,toks:=s2.toks}:=by
  refine⟨ok,rfl,l.bare,Un.kept hold,⟨_,hns₁,λi x v h1 h2 h3=>?_⟩,λx c e=>?_,hCn,λx c e=>?_,λp f=>?_,l.hok.kept old,?_⟩
  .obtain⟨j,ej,es⟩:=AD h2;obtain⟨q1,q2,q3,q4⟩:=L.ix i j x h1 ej;obtain⟨m,_,hl⟩:=l.loc;obtain⟨u,r,lk⟩:=hl j x v q1 es q3;refine⟨u,r,?_⟩;rcases lk with⟨k,_⟩|⟨k,c,hcl,hv⟩
   .exact absurd k q4
   .obtain⟨c',hc'⟩:=oA (PySem.mem_of_lookup q2) ⟨c,hcl⟩;have:=sound x c' hc';rw[hcl]at this;cases this;have hnc:(x,NameKind.cell)∉scope.names:=λz=>by have:=L.sep _ z rfl;rw[q2]at this;cases this
    refine .inr ⟨?_,c,(mm _ _ _ hnc).trans hc',let ⟨ob,ho,hd⟩:=hv;⟨ob,old c ob ho,hd⟩⟩;exact yO q2
  .rcases Y x c e with q|⟨_,q⟩
   .obtain⟨v,ob,ho,hd⟩:=l.cell x c q;exact⟨v,ob,old c ob ho,hd⟩
   .exact⟨none,q⟩
  .rcases Y x c e with q|⟨q,_⟩
   .exact l.freeC x c q
   .exact l.hok.fresh (aM (cq _ 2) q)
  .rcases ai.mp f with f|f
   .obtain⟨e,n,ne,nf,d⟩:=l.pin p f;refine⟨old _ _ e,n,aL (ck (F p f)),λz=>?_,d⟩;rcases aE.mp (l.stkSub _ z) with q|q
    .exact ne q
    .exact nf q
   .have e:p=(s2.heap.objs.size,xv []):=by simpa using f
    subst e;exact⟨hold _ _ (ar _ rfl),hDn,DC,hDfs,λv z=>by cases z⟩
  .unfold pull;rw[aw];exact L.len.symm
 generalize a:mQ X N scope (s2.heap.objs.size+1) {s2 with heap:=s2.heap.push {cls:=.type "list",dict:=none,data:=.seq ([]).toArray}} H2 (s2.heap.objs.size::fp) (X.pn++fT)=X' at I';obtain⟨hg,hif,he⟩:=blk (s2.heap.objs.size+1) {s2 with heap:=s2.heap.push {cls:=.type "list",dict:=none,data:=.seq ([]).toArray}} H2 (s2.heap.objs.size::fp) (X.pn++fT);rw[a]at hg hif he;have stat:∀{s:Hp} {R:List Vq},(∀b∈fp,s b=none)->∀b∈fp,sI X' [(s2.heap.objs.size,xv R)] s b:=λ{s R} hn b h=>by
  subst a;obtain⟨_,f1,f2',f3,f4,f5⟩:=f2 b h;refine⟨hn b h,aL (ck (hlt b h)),λz=>?_,.inl (bx _ h),λx c e=>?_,λp f=>?_⟩
  .rcases aE.mp (l.stkSub _ z) with q|q
   .exact f1 q
   .exact f2' q
  .rcases Y x c e with q|⟨q,_⟩
   .exact f4 x c q
   .intro z;rw[z]at q;exact absurd (aM (cq _ 2) q) (Nat.not_le.mpr (hlt b h))
  .rcases ai.mp f with f|f
   .exact f5 p f
   .have e:p=(s2.heap.objs.size,xv R):=by simpa using f
    subst e;exact Ne.symm (aL (hlt b h))
 have loop:codeAny (model X.prog X.w) X.A (.compLoop (.ListComp elt [⟨tg,iter,ifs,0⟩] scope pos) 0 (.ref it) (.ref s2.heap.objs.size) X'.env) (RR (.ref s2.heap.objs.size) (s2.heap.objs.size+1))
   {s2 with heap:=h₁,toks:=s2.toks}:=by
  refine zw (λn Z=>∃i U R s,gJ X' [(s2.heap.objs.size,xv R)] (pull ix σ) s Z/\hW U R/\U.length<=sizeLine/\tn i Z.heap/\(∀b∈fp,s b=none)/\W i n U s) ?_ m0
   ⟨0,[],[],H2,I',.nil,bJ _,T.keep _ _ _ st2 λb _ o e=>old b o e,λb h=>(f2 b h).1,w0⟩
  rintro n s3 ⟨i,U,R,H3,I3,rv,hz,st3,fr3,w3⟩;have hcX:X'.calm=true:=by subst a;exact hc
  have hA:X'.A=X.A:=by subst a;rfl
  rcases turn i n U H3 w3 with⟨stop,qn⟩|⟨go,lg,step⟩
  .have hd:=T.done X' (by subst a;rfl) (by subst a;rfl) (by subst a;rfl) hcX i _ s3 _ H3 (λ_ _=>False) I3 (stat fr3) st3 stop;rw[hA]at hd;refine jU hd λr s4 ⟨hr,I4⟩=>?_;subst hr;subst a;obtain⟨m,hn,_⟩:=I4.loc;have hD3:=I4.pin (s2.heap.objs.size,xv R) (bE _ bu);have u1:Un (Fd X.stack) fp H2 H3 s2.heap s4.heap:=by
    have B:=I4.base;have nD:∀b o,s2.heap.get? b=some o->b∉fp->b∉s2.heap.objs.size::fp:=λb o e h z=>by
     rcases aE.mp z with q|q
     .exact absurd (aK e) (by rw[q];exact aZ _)
     .exact h q
    exact⟨λb o e n h hx=>B.keep b o (ae _ e) n h (nD b o e hx),λb o e n h hx=>B.slot b o (ae _ e) n h (nD b o e hx),
     λb o e n hx=>B.free b o (ae _ e) n (nD b o e hx),λb o e hx=>B.there b o (ae _ e) (nD b o e hx),B.tups,B.frzs,B.tbls⟩
   have I5:=l.call' I4.os u1 I4.hok I4.bare λb h=>let ⟨_,f1,_,f3,f4,f5⟩:=f2 b h;⟨f3,f1,f4,f5⟩;have I6:gJ X fT σ (ju H3 s2.heap.objs.size (.lst U)) s4:=I5.track hD3.2.1 (.inr l.sz) (Ne.symm (aL l.lt)) (λx c e z=>absurd (cellLt x c e) (by rw[z];exact aZ _))
    (λp f=>aL (F p f)) ⟨hz,R,R.length,rv,hD3.1⟩
   refine fin _ _ m _ s4 hn ⟨?_,?_,?_,.inr (cu l.sz),λx c e z=>?_,λp f=>?_⟩ I6 (qn _ hD3.2.1)
   .rw[gA (Ne.symm DC)];exact I4.free
   .exact Ne.symm (aL (ck l.lt))
   .exact l.nofs (bL _)
   .exact absurd (cellLt x c e) (by rw[z];exact Nat.not_lt.mpr (bL _))
   .exact aL (ck (F p f))
  .have hd:=T.item X' (by subst a;rfl) (by subst a;rfl) (by subst a;rfl) hcX i _ s3 _ H3 (λ_ _=>False) I3 (stat fr3) st3 go;rw[hA]at hd;refine jU hd λr s4 ⟨u,hr,h4⟩=>?_;subst hr;refine jU h4 λ_ s5 ⟨x,H5,I5,r5,y5,st5,fr5⟩=>?_;have I5':=I5.pinned (stat fr5) (T.obj _ _ st5);have hM:model X'.prog X'.w=model X.prog X.w:=by subst a;rfl
   have hE:X'.xe=λ_ _=>False:=by subst a;rfl
   have a6:=hg _ s5 _ H5 x u _ I5' r5 (hgk x _ H5 _ (step x H5 y5));rw[hM,hA,hE]at a6;refine jU a6 λ_ s6 ⟨σ6,H6,I6,agr,q6⟩=>?_;have a7:=hif _ s6 σ6 H6 _ I6 q6;rw[hM,hA,hE]at a7;refine jU a7 λok s7 ⟨H7,I7,q7⟩=>?_;have back:∀{Z:Shared} {s:Hp} {pl:List (Addr×Obj)},gJ X' pl σ6 s Z->gJ X' pl (pull ix σ) s Z:=λ{Z s pl} I=>by
    refine I.weak ?_ λk v e=>?_
    .have e1:=I.len;have e2:=I3.len;rw[e1,e2]
    .obtain⟨j,ej,_⟩:=AD e;rw[agr k j ej];exact e
   have held:∀{Z:Shared} {s:Hp},gJ X' ([(s2.heap.objs.size,xv R)]++vD fp s5.heap) σ6 s Z->tn (i+1) Z.heap/\∀b∈fp,s b=none:=λ{Z s} I=>by refine⟨T.keep _ _ _ st5 λb h o e=>(I.pin (b,o) (bE _ (bE _ (oW h e)))).1,λb h=>?_⟩;obtain⟨o,e,_⟩:=T.obj _ _ st5 b h;exact (I.pin (b,o) (bE _ (bE _ (oW h e)))).2.1
   cases ok with
   |false=>rw[aQ aG]at q7 ⊢;obtain⟨m',hm,w7⟩:=q7;obtain⟨k1,k2⟩:=held I7;exact⟨m',hm,i+1,U,R,H7,(back I7).unpinned,rv,hz,k1,k2,w7⟩
   |true=>
    rw[aP rfl]at q7 ⊢;have a8:=he _ s7 σ6 H7 _ I7 q7;rw[hM,hA,hE]at a8;refine jU a8 λy s8 ⟨yv,H8,I8,r8,m',hm,w8⟩=>?_;obtain⟨k1,k2⟩:=held I8;have hD8:=I8.pin (s2.heap.objs.size,xv R) (bE _ (ax _ bu));have hl:=rv.length;refine append_at hD8.1 λh9 sb hD9=>?_;have I9:gJ X' [] (pull ix σ) H8 s8:=(back I8).pins_of λp f=>by simp at f
    have I10:=I9.turned (t':=s8.toks) (λb o h e=>sb.extBut b o h e) hD8.2.1 hD8.2.2.1 (.inl (by subst a;exact bu))
     (λx c e z=>by
      subst a;rcases Y x c e with q|⟨q,_⟩
      .exact absurd (cellLt x c q) (by rw[z];exact aZ _)
      .rw[z]at q;omega) (λp f z=>by
      subst a;rcases ai.mp f with f|f
      .exact absurd (F p f) (by rw[z];exact aZ _)
      .simp at f)
    have e9:h9.get? s2.heap.objs.size=some (xv (R++[y])):=by rw[hD9];simp
    refine⟨m',hm,i+1,U++[yv],R++[y],H8,I10.pins_of λp f=>?_,rv.append (.cons r8 .nil),by rw[aS,bZ];omega,?_,k2,w8⟩
    .have e:p=(s2.heap.objs.size,xv (R++[y])):=by simpa using f
     subst e;exact⟨e9,hD8.2.1,hD8.2.2.1,hD8.2.2.2.1,λv z=>by cases z⟩
    .exact T.keep _ _ _ k1 λb h o e=>sb.extBut b o (aL (hlt b h)) e
 have loop':=loop;subst a;exact codeAny_compStart_list loop (T.self X.A 0 _ _ _ (T.keep _ _ _ st2 λb _ o e=>old b o e) loop')
def Qv(w:X.calm=true)(F:PI X tg iter wi)(L:AR X scope N ix)(l:oQ ix g)
  (k:∀C a H i j,PG (mQ X N scope C a H i j) tg g/\E8 (mQ X N scope C a H i j) ifs tt/\PE (mQ X N scope C a H i j) elt te)
  (r:∀x,foldedSetIterable iter X.env x=pure x:=by intro _;rfl):PE X (.ListComp elt [⟨tg,iter,ifs,0⟩] scope pos) (Je ix wi g tt te):=by
 intro n s U H Q I h;rw[eval_ListComp];refine wpAny_comprehension_free rfl r (rh L.fre) L.kind L.names (jU (F n s U H _ I h) λv s1 R=>jU R λS Z K=>?_);obtain⟨it,fp,Y,J,H2,e,E,T,d,y,W,⟨m0,u⟩,c⟩:=K;subst e;refine DH w L l k E T d y u c λD C m P s' z f p q=>?_;refine⟨m,z,λh' B=>⟨.ref D,P,p.turned (λb o A e=>B.extBut b o A e) f.1 f.2.1 f.2.2.2.1 f.2.2.2.2.1 f.2.2.2.2.2,rfl,q⟩⟩
end
end L2
namespace L2
open PySem PySem.Spec PyProof.Rows
structure gq(K:W.Frag)(mg:Str->Option Value)(x:Str)(st:Stmt):Prop where
 ex:∃f fd,JL K x x st f fd/\mg x=some (.ref f)
def Nr{K:W.Frag}{st:Stmt}{kV d g b e:Vq}(X:K.In h)(G:h.Ns mainGlobals mg)
  (a:W.nsIn K mainGlobals x=some (some (.ref f)))
  (l:K.lookup f=some ⟨oc,od,.func (W.fnOf x x (jJ st) (iy st) (gw st) .none kV d g an b e),osl⟩)
  (c:W.codeIn K b x=true) (k:W.keepIn K (.ref f)=true):gq K mg x st:=⟨f,_,B5 l c k,W.mg_of X G a⟩
structure lG(P:Program)(w:World)(K:W.Frag)(mg:Str->Option Value)(base:Heap)(x:Str)(k:Nat)(sp:Sp):Prop where
 ex:∃f fd ps,nh P w K mg base xh k f fd ps sp/\mg x=some (.ref f)/\W.keepIn K (.ref f)=true/\qr K fd ps []
def lG.mono{K:W.Frag}(h:lG P w K mg base x j sp)(d:j<=k):lG P w K mg base x k sp:=
 let ⟨f,fd,ps,F,a,b,c⟩:=h.ex
 ⟨f,fd,ps,F.mono d,a,b,c⟩
def Dl{K:W.Frag}{st:Stmt}(D:gq K mg x st)(S:jC N ps (gw st))
  (h:∀(kV d n:Vq) (g:Option Addr) (a l:Vq) (us:List Vq),us.length=ps.length->bindArgs (W.fnOf x x (jJ st) (iy st) (gw st) .none kV d n g a l) ⟨us,[]⟩=pure (ps.zip us))
  (e:∀vs H Q E,sp vs H Q E->vs.length=ps.length)
  (c:∀f a A b s H vs Q E,i6 k (A.deeper (envOfC x (gw st) s.heap.objs.size f a))->sp vs H Q E->
   ∃t,Ak (pW xh P w K mg base N x (gw st) f a A b s H E).nox (iy st) t/\t {nx:=λ_ j=>Q .non j,rt:=Q} (mx N vs) H):lG P w K mg base x (k+1) sp:=by
 obtain⟨f,i,F,m⟩:=D.ex;exact⟨f,i,ps,F.ok S e (c f),m,F.kp,F.binds h⟩
section
variable {X:Cx}{x:Str}{k:Nat}{sp:Sp}{e:Expr}{es:List Expr}{t:TA}{p pos:Pos}
def vy(h:lG X.prog X.w X.K X.mg X.base x k sp)(hr:i6 k X.A)(l:PA X (e::es) t)(j:Gl X x:=by rfl)
  (d:(x==("__debug__" : Str))=false:=by decide) (i:starEach (e::es) X.env=(false,eval e X.env)::starEach es X.env:=by rfl) (g:(backTo pos (starEach es X.env)).any (·.1)=false:=by rfl) :
  PE X (.Call (.Name x p) (e::es) [] pos) (qS sp [] E0 t):=by
 obtain⟨f,n,m,F,a,b,c⟩:=h.ex;exact Kr F hr j a b c .nil IU l d i g
end
def J2:pJ X (binaryOp .Mult) (rI (λi j=>PySem.IntMulOk i j) λi j=>.int (i*j)):=Rl λ_ _ _ _ _ _ _ a q=>mul_int q a
def Jl:pJ X (binaryOp .FloorDiv) (rI (λi j=>j≠0/\Builtin.divisionGoesByPylong i j=false) λi j=>.int (i.fdiv j)):=Rl λ_ _ _ _ _ _ _ a q=>floordiv_int a.1 q (.inl a.2)
end L2
namespace L2
open PySem PySem.Spec PyProof.Rows PySem.W
mutual
inductive DV(K:Frag)(H:Hp):V->PyData->Prop
 |non:DV K H .non .none
 |bl (b:Bool):DV K H (.bl b) (.bool b)
 |int (i:Int):DV K H (.int i) (.int i)
 |str (x:Str):DV K H (.str x) (.str x)
 |lst {a:Addr} {xs:List V} {ds:List PyData} (h:lC K H a xs) (hs:Av K H xs ds):DV K H (.ref a) (.list ds)
 |tup {a:Addr} {xs:List V} {ds:List PyData} (h:mD K H a xs) (hs:Av K H xs ds):DV K H (.ref a) (.tuple ds)
inductive Av(K:Frag)(H:Hp):List V->List PyData->Prop
 |nil:Av K H [] []
 |cons {v:V} {d:PyData} {vs:List V} {ds:List PyData} (h:DV K H v d) (hs:Av K H vs ds):Av K H (v::vs) (d::ds)
end
section
variable {X:Cx}{fT:List (Addr×Obj)}{σ:St}{H:Hp}{s:Shared}
mutual
theorem DV.reads(I:gJ X fT σ H s):∀{v} {d} {u},DV X.K H v d->iH v u->∃as,Reads s.heap u d as
 |_,_,_,.non,r=>by cases r;exact⟨_,.none⟩
 |_,_,_,.bl b,r=>by cases r;exact⟨_,.bool b⟩
 |_,_,_,.int i,r=>by obtain⟨t,rfl⟩:=r;exact⟨_,.int i t⟩
 |_,_,_,.str x,r=>by obtain⟨t,rfl⟩:=r;exact⟨_,.str x t⟩
 |_,_,_,.lst h hs,r=>by cases r;obtain⟨a,g,⟨o,n,e,j,k,f⟩,_⟩:=I.list h;obtain⟨as,c⟩:=Av.reads I hs g;exact⟨_,.list e j f (by simpa using c)⟩
 |_,_,_,.tup h hs,r=>by cases r;obtain⟨a,g,⟨o,e,j,n,f⟩,_⟩:=I.tuple h;obtain⟨as,c⟩:=Av.reads I hs g;exact⟨_,.tuple e j f (by simpa using c)⟩
theorem Av.reads(I:gJ X fT σ H s):∀{vs} {ds} {us},Av X.K H vs ds->hW vs us->∃as,ReadsAll s.heap us ds as
 |_,_,_,.nil,r=>by cases r;exact⟨_,.nil⟩
 |_,_,_,.cons h hs,r=>by
  cases r with
  |cons r1 r2=>obtain⟨as,a⟩:=DV.reads I h r1;obtain⟨bs,rb⟩:=Av.reads I hs r2;exact⟨_,.cons a rb⟩
end
def BS(K:Frag)(neg:Bool):R2:=λx y H Q=>∃a b,DV K H x a/\DV K H y b/\(a.canLay0=true/\b.canLay0=true/\a.depth<=100)/\Q (.bl (if neg then !PyData.eqv a b else PyData.eqv a b)) H
def Iq(k:X.A.units+200<cLine):pJ X (compareOp .Eq) (BS X.K false):=by intro i s l H x y v u Q I e c h;obtain⟨j,m,a,g,⟨d,f,n⟩,q⟩:=h;obtain⟨as,b⟩:=a.reads I e;obtain⟨bs,rb⟩:=g.reads I c;exact SeqAt.eqOverData _ _ _ _ _ _ _ _ _ _ _ _ b rb d f (by omega) ⟨.bl _,H,I,rfl,q⟩
def Hz(k:X.A.units+200<cLine):pJ X (compareOp .NotEq) (BS X.K true):=by intro i s l H x y v u Q I e c h;obtain⟨j,m,a,g,⟨d,f,n⟩,q⟩:=h;obtain⟨as,b⟩:=a.reads I e;obtain⟨bs,rb⟩:=g.reads I c;exact SeqAt.neOverData _ _ _ _ _ _ _ _ _ _ _ _ b rb d f (by omega) ⟨.bl _,H,I,rfl,q⟩
def Pu(hr:i6 k A):A.units+200<cLine:=by have:=hr.un;omega
end
end L2
namespace L2
open PySem PyProof.Rows
section
variable {X:Cx}
def xT(w:X.A.units+200<cLine)(k:X.A.guards=some []):kg X (.builtin "repr") (λxs H Q=>∃a d,xs=[.ref a]/\DV X.K H (.ref a) d/\d.showable=true/\d.hasDict=false/\d.depth<=100/\d.shown.length<=sizeLine/\Q (.str d.shown) H):=by intro n s x H xs m Q I r h;obtain⟨a,d,rfl,l,c,i,p,g,q⟩:=h;obtain⟨u,rfl,b⟩:=nI r;obtain⟨as,j⟩:=l.reads I b;cases b;exact repr_of_reads' j c (PyData.noDict_hsm i) k (by omega) (λ_ _ e=>e) (λv u o f=>⟨.str d.shown,H,I.kept f,⟨_,rfl⟩,q⟩) g
end
end L2
namespace L2
open PySem PySem.Spec PyProof.Rows
theorem A5:∀{bs:List Bool} {us:List Vq},hW (bs.map V.bl) us->us=bs.map Value.bool
 |[],_,.nil=>rfl
 |b::bs,u::us,.cons r t=>by have e:=r;rw[e,A5 t];rfl
theorem vM:∀{ns} {us},hW (ns.map V.int) us->IntsAre us ns
 |[],_,.nil=>.nil
 |n::ns,u::us,.cons r t=>by obtain⟨a,e⟩:=(r);rw[e];exact .cons n a (vM t)
def Fh{bs:List Bool}:(List.range bs.length).all (λi=>bs.getD i false)=bs.all id:=by
 induction bs with
 |nil=>rfl
 |cons b bs ih=>rw[ay,cv,bU,cw,bU,<-ih];rfl
def yF{bs:List Bool}:(List.range bs.length).any (λi=>bs.getD i false)=bs.any id:=by
 induction bs with
 |nil=>rfl
 |cons b bs ih=>rw[ay,cv,bV,cx,bV,<-ih];rfl
section
variable {X:Cx}
def Fv{bs:List Bool}:TruthOf prog w A (λi v=>(bs.map Value.bool).toArray[i]? = some v) (λi=>bs.getD i false):=λi v s Q E d a=>by
 have e:(bs.map Value.bool)[i]? = some v:=by simpa using d
 rw[av]at e;cases c:bs[i]? with
 |none=>rw[c]at e;cases e
 |some b=>
  rw[c]at e;cases e;have:bs.getD i false=b:=by rw[af,c];rfl
  dsimp only at a;rw[this]at a;exact ak a
def Jb(j:X.calm=true):kg X (.builtin "all") (λxs H Q=>∃(p:Addr) (bs:List Bool),xs=[.ref p]/\lC X.K H p (bs.map V.bl)/\Q (.bl (bs.all id)) H):=by
 intro v s B H xs n Q I r h;obtain⟨p,bs,rfl,k,q⟩:=h;obtain⟨u,rfl,m⟩:=nI r;cases m;obtain⟨d,l,c,x⟩:=I.list k;have e:=A5 l;subst e;have a:p<s.heap.objs.size:=by obtain⟨_,e,_⟩:=c.isList;exact aK e
 refine call_all_walk (wpAny_pyIter_list c.isList ⟨s.heap.objs.size,_,_,_,_,_,λi=>bs.getD i false,rfl,Walks.list (A:=X.A.in1) (I.ok.hd j) _ p (aL a) _,⟨⟨_,ar _ rfl,rfl,rfl⟩,c.isList.push _⟩,Fv,λy w g=>?_⟩);refine⟨.bl _,H,I.kept (λb o e=>g b o ?_ (ae _ e)),rfl,?_⟩
 .intro f;have:=aK e;have z:b=s.heap.objs.size:=by simpa using f
  rw[z]at this;exact aZ _ this
 .rw[<-Fh]at q;simpa using q
def GZ(g:X.calm=true):kg X (.builtin "sum") (λxs H Q=>∃(p:Addr) (b:LI),xs=[.ref p]/\lC X.K H p (b.map V.int)/\Q (.int b.sum) H):=by intro o s y H xs n Q I r h;obtain⟨p,b,rfl,i,q⟩:=h;obtain⟨u,rfl,l⟩:=nI r;cases l;obtain⟨a,j,k,w⟩:=I.list i;have c:=vM j;obtain⟨xs,e⟩:=c.allInts.items;have d:=k.isList;rw[e]at d;refine sum_intListG (I.ok.hd g) d λx v m f=>⟨.int b.sum,H,I.kept f,⟨m,?_⟩,q⟩;rw[preSum_eq,cy (by simp),<-nums_intItems,<-e,show a.toArray.toList=a from rfl,c.numsOf]
def tH:bootBuiltins "all" = some (.builtin "all"):=by decide +kernel
def Hq:bootBuiltins "any" = some (.builtin "any"):=by decide +kernel
def HE:bootBuiltins "sum" = some (.builtin "sum"):=by decide +kernel
end
end L2
namespace L2
open PySem PySem.Spec PyProof.Rows
def iZ(b:Bool)(h:Heap)(l:Addr)(xs:Array Vq):Prop:=if b=true then h.IsTuple l xs else h.IsList l xs
def kR(b:Bool)(h:Heap)(it l:Addr)(k:Nat):Prop:=if b=true then h.IsTupleIter it l k else h.IsListIter it l k
noncomputable def wM(b:Bool):String:=if b=true then "tuple_iterator" else "list_iterator"
def kR.look(x:kR b h it l k):∃o,h.get? it=some o/\o.cls=.type (wM b)/\o.data=.fields #[.ref l,.int k 0]:=by
 cases b with
 |true=>exact (x)
 |false=>exact (x)
def kR.of{k:Nat}(x:∃o,h.get? it=some o/\o.cls=.type (wM b)/\o.data=.fields #[.ref l,.int k 0]):kR b h it l k:=by
 cases b with
 |true=>exact x
 |false=>exact x
def kR.to(x:kR b h it l k)(e:∀o,h.get? it=some o->h'.get? it=some o):kR b h' it l k:=by obtain⟨o,a,q⟩:=x.look;exact .of ⟨o,e o a,q⟩
def iZ.look(x:iZ b h l xs):∃o n,h.get? l=some o/\o.data=.seq xs n:=by
 cases b with
 |true=>obtain⟨o,a,_,n,c⟩:=(x);exact⟨o,n,a,c⟩
 |false=>obtain⟨o,a,_,n,c⟩:=(x);exact⟨o,n,a,c⟩
def iZ.to(x:iZ b h l xs)(e:∀o,h.get? l=some o->h'.get? l=some o):iZ b h' l xs:=by
 cases b with
 |true=>obtain⟨o,a,q⟩:=(x);exact⟨o,e o a,q⟩
 |false=>obtain⟨o,a,q⟩:=(x);exact⟨o,e o a,q⟩
section
variable {prog:Program}{w:World}{A:Around}{E:Vq->Shared->Prop}{s:Shared}
theorem Ke(f:s.heap.IsTupleIter it l k)(m:s.heap.IsTuple l xs)
  (p:∀x a,xs[k]? = some x->a.IsTupleIter it l (k+1)->Heap.SameBut it s.heap a->Q x {s with heap:=a})
  (g:xs[k]? = none->A.handled=none/\∀a e,Heap.ExtBut it s.heap a->(∃o,a.get? e=some o/\o.cls=.type "StopIteration")->E (.ref e) {s with heap:=a}) :
  wpAny (model prog w) A (Builtin.SmallTypes.nextOf (.ref it)) Q E s:=by
 obtain⟨u,c,i,b⟩:=id f;obtain⟨r,q,_,n,j⟩:=m;unfold Builtin.SmallTypes.nextOf;refine ao (wpAny_callSpecial?_slot f.typeIs F.slot_tuple_iterator_next (wpAny_call_entry F.slot_tuple_iterator_next f.typeIs F.entry_tuple_iterator_next ?_ (F.args_tuple_iterator_next_1 _)));show wpAny _ _ (field (.ref it) 0 >>= _) _ _ s;refine ao (wpAny_field c b rfl ?_);have ne:(Value.ref l==Value.none)=false:=rfl;simp only[ne,cf,if_false];refine ao (wpAny_field c b rfl (ao (wpAny_seqItems q j ?_)));cases d:xs[k]? with
 |some x=>simp only[bQ,d];refine ao (wpAny_setField c b (by simp) (ak ⟨x,rfl,ak (p x _ d ?_ (Heap.SameBut.update ..))⟩));refine⟨_,Heap.get?_update_self _ c (Obj.isFreed_of_fields (Obj.data_mapFields b _)),(Obj.cls_mapFields ..).trans i,?_⟩;rw[Obj.data_mapFields b];simp[rawInt]
 |none=>obtain⟨h,g⟩:=g d;simp only[bQ,d];refine ao (wpAny_rule (ao (wpAny_setField c b (by simp) ?_)));show wpAny _ _ (newExc (.type "StopIteration") [] >>= _) _ _ _;simp only[newExc,newTuple];refine ao (ao (wpAny_newObj_type (ao (wpAny_of_eq (by first|rfl|(simp only[firstArgMember];rfl)) (wpAny_newObj_type ?_ (by size_fits)))) (by size_fits)));simp only[raiseNew];refine ao (wpAny_handled ?_);rw[show A.in1.handled=none from h];refine ao (ak (wpAny_throw ?_));exact g _ _ (((Heap.SameBut.update ..).extBut.push _).push _) ⟨_,ar _ rfl,rfl⟩
theorem sM(i:kR b s.heap it l k)(j:iZ b s.heap l xs)
  (m:∀x c,xs[k]? = some x->kR b c it l (k+1)->Heap.SameBut it s.heap c->Q x {s with heap:=c})
  (h:xs[k]? = none->A.handled=none/\∀c e,Heap.ExtBut it s.heap c->(∃o,c.get? e=some o/\o.cls=.type "StopIteration")->E (.ref e) {s with heap:=c}) :
  wpAny (model prog w) A (Builtin.SmallTypes.nextOf (.ref it)) Q E s:=by
 cases b with
 |true=>exact Ke i j m h
 |false=>
  have f:=i;have d:=j;cases g:xs[k]? with
  |some x=>exact wpAny_nextOf_list_item f d g λc a b=>m x c g a b
  |none=>obtain⟨n,h⟩:=h g;exact wpAny_nextOf_list_end n f d g h
def GY{z TI TO p J P U:Addr}{Q:Vq->Shared->Prop}(D:ZipApart z TI TO p J P U)
  (N:IsZip s.heap z TI TO .none) (hTI:IsPair s.heap TI (.ref p) (.ref J)) (Z:IsPair s.heap TO a b)
  (h1:kR b1 s.heap p P k) (h2:kR b2 s.heap J U k) (hl1:iZ b1 s.heap P xs) (hl2:iZ b2 s.heap U ys)
  (yes:∀x y g,xs[k]? = some x->ys[k]? = some y->IsZip g z TI TO (rawInt s.heap.objs.size)->IsPair g TO x y->kR b1 g p P (k+1)->kR b2 g J U (k+1)->IsPair g s.heap.objs.size x y->g.objs.size=s.heap.objs.size+1->
   (∀c o,c≠z->c≠TO->c≠p->c≠J->s.heap.get? c=some o->g.get? c=some o)->Q (.ref s.heap.objs.size) {s with heap:=g})
  (S:xs[k]? = none\/ys[k]? = none->A.handled=none/\∀g e,(∀c o,c≠z->c≠TO->c≠p->c≠J->s.heap.get? c=some o->g.get? c=some o)->(∃o,g.get? e=some o/\o.cls=.type "StopIteration")->E (.ref e) {s with heap:=g}) :
  wpAny (model prog w) A (Builtin.«zip.__next__» ⟨[.ref z],[]⟩) (λfin s'=>∃v,fin=.done (.ret v)/\Q v s') E s:=by
 have H:∀{h:Heap} {e:Addr} {I:Obj} {f:Vq},IsZip h z TI TO f->h.get? e=some I->I.cls=.type "StopIteration" ->e≠z:=λ{h e I f} q ge ce u=>by subst u;rw[q]at ge;cases ge;simp at ce
 show wpAny _ _ (field (.ref z) 2 >>= λ_=>_) _ _ _;refine ao (wpAny_field N rfl rfl ?_);refine ao (wpAny_field N rfl rfl (ao (wpAny_seqItems hTI rfl ?_)));unfold Builtin.SmallTypes.ownedTupleIsFree;refine ao (ao (wpAny_field N rfl rfl (ak ?_)));simp only[if_true];refine ao (wpAny_rule (ao (wpAny_field N rfl rfl (ao (wpAny_setField_rec N (by simp) λg1 y1 L=>?_)))));have z1:=y1;simp only[List.zipIdx_cons,List.zipIdx_nil,List.forIn_cons,List.forIn_nil];refine ao (ao (ao (wpAny_onRaise ?_)));refine ao (sM (h1.to λo e=>L.extBut _ _ D.i1z e) (hl1.to λo e=>L.extBut _ _ D.l1z e) (λx g2 X t2 F=>ak ?_) (λX=>⟨(S (.inl X)).1,λg2 e F ⟨I,ge,ce⟩=>?_⟩))
 .have p2:=F.extBut _ _ D.TOi1 (L.extBut _ _ D.TOz Z);refine ao (wpAny_seqItems p2 rfl (ao (wpAny_updateSeq_pair p2 λg3 q3 B=>?_)));have p3:=q3;refine ao (wpAny_letGo (ak (ao (ao (wpAny_onRaise ?_)))));have j:∀c o,c≠z->c≠p->c≠TO->s.heap.get? c=some o->g3.get? c=some o:=λc o d m l e=>B.extBut _ _ l (F.extBut _ _ m (L.extBut _ _ d e));refine ao (sM (h2.to λo e=>j _ o D.i2z D.i12.symm D.TOi2.symm e) (hl2.to λo e=>j _ o D.l2z D.l2i1 D.l2TO e) (λy g4 R t4 C=>ak ?_) (λR=>⟨(S (.inr R)).1,λg4 e C ⟨I,ge,ce⟩=>?_⟩))
  .have p4:=C.extBut _ _ D.TOi2 p3;refine ao (wpAny_seqItems p4 rfl (ao (wpAny_updateSeq_pair p4 λr q5 n=>?_)));have p5:IsPair r TO x y:=q5;refine ao (wpAny_letGo (ak (ak (ao (wpAny_seqItems p5 rfl (ao (wpAny_newTuple ?_)))))));have sz:r.objs.size=s.heap.objs.size:=by rw[n.1,C.1,B.1,F.1,L.1]
   have z5:=n.extBut _ _ D.TOz.symm (C.extBut _ _ D.i2z.symm (B.extBut _ _ D.TOz.symm (F.extBut _ _ D.i1z.symm z1)));have to5:∀c o,c≠z->c≠TO->c≠p->c≠J->s.heap.get? c=some o->r.get? c=some o:=λc o d m l K e=>n.extBut _ _ m (C.extBut _ _ K (j c o d l m e));unfold Builtin.SmallTypes.ownedTupleHandOut;refine ao (ao (wpAny_setField_rec (ae _ z5) (by simp) λg7 y7 k7=>?_));have z7:=y7;refine wpAny_setField_rec z7 (by simp) λY y8 k8=>?_;have z8:=y8;have up:∀c o,c≠z->(r.push {cls:=.type "tuple",data:=.seq #[x,y]}).get? c=some o->Y.get? c=some o:=λc o d e=>k8.extBut _ _ d (k7.extBut _ _ d e);have i:∀c o,c≠z->r.get? c=some o->Y.get? c=some o:=λc o d e=>up c o d (ae _ e);have p8:=up _ _ (bB (aK z5)) (ar _ rfl);have s8:Y.objs.size=r.objs.size+1:=by rw[k8.1,k7.1,Heap.size_push]
   rw[sz]at z8 p8 s8;refine ak ⟨_,rfl,?_⟩;rw[sz];have e1:=t2.to λo e=>i _ o D.i1z (n.extBut _ _ D.TOi1.symm (C.extBut _ _ D.i12 (B.extBut _ _ D.TOi1.symm e)));have e2:=t4.to λo e=>i _ o D.i2z (n.extBut _ _ D.TOi2.symm e);exact yes x y Y X R z8 (i _ _ D.TOz p5) e1 e2 p8 s8 λc o d m l K e=>i c o d (to5 c o d m l K e)
  .have z4:=C _ _ D.i2z.symm (B.extBut _ _ D.TOz.symm (F.extBut _ _ D.i1z.symm z1));refine wpAny_setField_rec z4 (by simp) λr _ n=>(S (.inr R)).2 r e (λc o d m l K q=>n.extBut _ _ d (C _ _ K (j c o d l m q))) ⟨I,n.extBut _ _ (H z4 ge ce) ge,ce⟩
 .have z2:=F _ _ D.i1z.symm z1;refine wpAny_setField_rec z2 (by simp) λg3 _ B=>(S (.inl X)).2 g3 e (λc o d m l K q=>B.extBut _ _ d (F _ _ l (L.extBut _ _ d q))) ⟨I,B.extBut _ _ (H z2 ge ce) ge,ce⟩
def A4{z TI TO f g h i:Addr}(D:ZipApart z TI TO f g h i)
  (r:IsZip s.heap z TI TO .none) (j:IsPair s.heap TI (.ref f) (.ref g)) (m:IsPair s.heap TO a b)
  (P:kR b1 s.heap f h k) (K:kR b2 s.heap g i k) (p:iZ b1 s.heap h xs) (n:iZ b2 s.heap i ys)
  (l:∀x y d,xs[k]? = some x->ys[k]? = some y->IsZip d z TI TO (rawInt s.heap.objs.size)->IsPair d TO x y->kR b1 d f h (k+1)->kR b2 d g i (k+1)->IsPair d s.heap.objs.size x y->d.objs.size=s.heap.objs.size+1->
   (∀c o,c≠z->c≠TO->c≠f->c≠g->s.heap.get? c=some o->d.get? c=some o)->Q (some (.ref s.heap.objs.size)) {s with heap:=d})
  (u:xs[k]? = none\/ys[k]? = none->A.handled=none/\∀d,(∀c o,c≠z->c≠TO->c≠f->c≠g->s.heap.get? c=some o->d.get? c=some o)->Q none {s with heap:=d}) :
  wpAny (model prog w) A (pyNext (.ref z)) Q E s:=by
 have ty:s.TypeIs (.ref z) "zip" :=⟨_,r,rfl⟩;unfold pyNext;refine ao (wpAny_attempt (wpAny_callSpecial?_slot ty F.slot_zip_next (wpAny_call_entry F.slot_zip_next ty F.entry_zip_next
  (GY D r j m P K p n (λx y d H I L B C J v N R=>ak (l x y d H I L B C J v N R)) λq=>⟨(u q).1,λd e hk ⟨o,ho,hc⟩=>?_⟩) (F.args_zip_next_1 _))))
 exact ao (wpAny_isInstance ⟨o,ho,hc⟩ isSubtype_stop (ak ((u q).2 d hk)))
theorem oE(a:iZ b s.heap l xs)
  (h:Q (.ref s.heap.objs.size) {s with heap:=s.heap.push {cls:=.type (wM b),data:=.fields #[.ref l,.int 0 0]}}):wpAny (model prog w) A (pyIter (.ref l)) Q E s:=by
 cases b with
 |true=>exact wpAny_pyIter_tuple (a) h
 |false=>exact wpAny_pyIter_list (a) h
end
noncomputable abbrev zo(b:Bool)(l:Addr):Obj:={cls:=.type (wM b),data:=.fields #[.ref l,.int 0 0]}
abbrev zt(x y:Vq):Obj:={cls:=.type "tuple",data:=.seq #[x,y]}
abbrev zz(p q:Addr):Obj:={cls:=.type "zip",data:=.fields #[.none,.bool false,.bool false,.ref p,.ref q]}
noncomputable abbrev zV(b1 b2:Bool)(h:Heap)(l1 l2:Addr):Heap:=
 ((((h.push (zo b1 l1)).push (zo b2 l2)).push (zt (.ref h.objs.size) (.ref (h.push (zo b1 l1)).objs.size))).push (zt .none .none)).push
  (zz ((h.push (zo b1 l1)).push (zo b2 l2)).objs.size (((h.push (zo b1 l1)).push (zo b2 l2)).push (zt (.ref h.objs.size) (.ref (h.push (zo b1 l1)).objs.size))).objs.size)
section
variable {prog:Program}{w:World}{A:Around}{E:Vq->Shared->Prop}{s:Shared}
def EW b1 b2 l1 l2 xs ys:Meets (Builtin.«zip.__new__» ⟨[.type "zip",.ref l1,.ref l2],[]⟩) (λ_ R s=>iZ b1 s.heap l1 xs/\iZ b2 s.heap l2 ys/\
  R (.ok (.ret (.ref ((((s.heap.push (zo b1 l1)).push (zo b2 l2)).push (zt (.ref s.heap.objs.size) (.ref (s.heap.push (zo b1 l1)).objs.size))).push (zt .none .none)).objs.size))) {s with heap:=zV b1 b2 s.heap l1 l2}):=by
 refine .of_wp λprog w A R s h=>?_;obtain⟨l,g,d,a,c⟩:=s;obtain⟨i,j,k⟩:=h;have sz:=sub_zip;have b:=i;have f:iZ b2 (Shared.heap ⟨l.push (zo b1 l1),g,d,a,c⟩) l2 ys:=j.to λo e=>ae _ e;wp_walk using oE b,oE f;exact⟨_,rfl,k⟩
def Ig(m:iZ b1 s.heap l1 xs)(l:iZ b2 s.heap l2 ys)
  (h:∀b,IsZip b (s.heap.objs.size+4) (s.heap.objs.size+2) (s.heap.objs.size+3) .none->IsPair b (s.heap.objs.size+2) (.ref s.heap.objs.size) (.ref (s.heap.objs.size+1))->IsPair b (s.heap.objs.size+3) .none .none->
   kR b1 b s.heap.objs.size l1 0->kR b2 b (s.heap.objs.size+1) l2 0->b.objs.size=s.heap.objs.size+5->(∀c o,s.heap.get? c=some o->b.get? c=some o)->Q (.ref (s.heap.objs.size+4)) {s with heap:=b}) :
  wpAny (model prog w) A (call (.type "zip") [.ref l1,.ref l2]) Q E s:=by
 refine callType_new F.called_zip (by decide) (F.typeCall_zip_2 _ _) (F.newCall_zip_2 _ _) (λf=>F.args_object_init_3 f _ _) F.entry_zip_new (EW b1 b2 l1 l2 xs ys) ⟨m,l,?_⟩;generalize g:s.heap.objs.size=n at *;have d:(s.heap.push (zo b1 l1)).objs.size=n+1:=by rw[Heap.size_push,g]
 have k:((s.heap.push (zo b1 l1)).push (zo b2 l2)).objs.size=n+2:=by rw[Heap.size_push,d]
 generalize a:(s.heap.push (zo b1 l1)).push (zo b2 l2)=g2 at *;have v:∀c o,s.heap.get? c=some o->g2.get? c=some o:=λc o e=>by rw[<-a];exact ae _ (ae _ e)
 have r:g2.get? n=some (zo b1 l1):=by rw[<-a,<-g];exact ae _ (ar _ rfl)
 have q:g2.get? (n+1)=some (zo b2 l2):=by rw[<-a,<-d];exact ar _ rfl
 have i:(g2.push (zt (.ref n) (.ref (n+1)))).objs.size=n+3:=by rw[Heap.size_push,k]
 have j:((g2.push (zt (.ref n) (.ref (n+1)))).push (zt .none .none)).objs.size=n+4:=by rw[Heap.size_push,i]
 have y:zV b1 b2 s.heap l1 l2=((g2.push (zt (.ref n) (.ref (n+1)))).push (zt .none .none)).push (zz (n+2) (n+3)):=by unfold zV;rw[g,d,a,k,i]
 rw[y,d,j];have x:(g2.push (zt (.ref n) (.ref (n+1)))).get? (n+2)=some (zt (.ref n) (.ref (n+1))):=by rw[<-k];exact ar _ rfl
 have u:((g2.push (zt (.ref n) (.ref (n+1)))).push (zt .none .none)).get? (n+3)=some (zt .none .none):=by rw[<-i];exact ar _ rfl
 have p:(((g2.push (zt (.ref n) (.ref (n+1)))).push (zt .none .none)).push (zz (n+2) (n+3))).get? (n+4)=some (zz (n+2) (n+3)):=by rw[<-j];exact ar _ rfl
 have up:∀c o,g2.get? c=some o->(((g2.push (zt (.ref n) (.ref (n+1)))).push (zt .none .none)).push (zz (n+2) (n+3))).get? c=some o:=λc o e=>ae _ (ae _ (ae _ e));exact⟨⟨_,p,rfl⟩,h _ p (ae _ (ae _ x)) (ae _ u) (.of ⟨_,up _ _ r,rfl,rfl⟩) (.of ⟨_,up _ _ q,rfl,rfl⟩) (by rw[Heap.size_push,j]) λc o e=>up c o (v c o e)⟩
end
end L2
namespace L2
open PySem PySem.Spec PyProof.Rows
def gJ.turnedL{ch:List Addr}(I:gJ X fT σ H s)(k:∀b o,b∉ch->s.heap.get? b=some o->h'.get? b=some o)(f:∀b∈ch,sI X fT H b) :
  gJ X fT σ H {s with heap:=h',toks:=t'}:=by
 have d:∀b u,H b=some u->b∉ch:=λb u e z=>by rw[(f b z).1]at e;cases e
 refine I.step (λb i=>let ⟨_,f1,_,f3,f4,f5⟩:=f b i;⟨f3,f1,f4,f5⟩) (λb o _ _ a e _=>k b o a e) (λb o _ _ a e _=>⟨o.slots,k b o a e⟩) (λ_ _ _ _ n=>n)
  (λb o a e=>⟨o,k b o a e⟩) (λ_ _ e=>e) (λ_ _ _ e=>e) (λb _ p e=>⟨#[],by rw[e];simp⟩) (λm h=>?_) (λb u e=>?_) I.bare
 .obtain⟨o,g,l,j,r⟩:=h;exact⟨o,g,l,k _ o (λz=>(f _ z).2.1 rfl) j,r⟩
 .refine (I.hok b u e).stay (λc v a q=>k c v ?_ q) (λ_ q=>q) λ_ _ q=>q;rcases a with z|z
  .rw[z];exact d b u e
  .exact d c _ z
def uP(K:W.Frag)(H:Hp)(b:Bool)(a:Addr)(xs:List V):Prop:=if b=true then mD K H a xs else lC K H a xs
def gJ.seqB(I:gJ X fT σ H s)(h:uP X.K H b a xs):∃its:List Vq,hW xs its/\iZ b s.heap a its.toArray/\xs.length<=sizeLine:=by
 cases b with
 |true=>obtain⟨its,r,p,z⟩:=I.tuple (h);exact⟨its,r,p,z⟩
 |false=>obtain⟨its,r,p,z⟩:=I.list (h);exact⟨its,r,p.isList,z⟩
def gJ.seqB_inj(I:gJ X fT σ H s)(h:uP X.K H b a xs)(c:uP X.K H b a ys):xs=ys:=by
 cases b with
 |true=>exact I.tuple_inj h c
 |false=>exact I.list_inj h c
noncomputable def RH(K:W.Frag)(c f:Bool)(e d:Addr):It:=
  ⟨λi H=>∃a b x y,uP K H c e a/\uP K H f d b/\a[i]? = some x/\b[i]? = some y,
   λi H v g=>∃p x y,v=.ref p/\H p=none/\g=ju H p (.tup [x,y])/\(∀a,uP K H c e a->a[i]? = some x)/\∀b,uP K H f d b->b[i]? = some y,
   λi H=>∃a b,uP K H c e a/\uP K H f d b/\(a.length<=i\/b.length<=i)⟩
def GM{K:W.Frag}{x1}{z TI TO l m l1 l2:Addr}(D:ZipApart z TI TO l m l1 l2) :
  A8 P w K (.Tuple elts x1 pos) (RH K b1 b2 l1 l2) [z,TI,TO,l,m] z (λi h=>IsZip h z TI TO .none/\IsPair h TI (.ref l) (.ref m)/\(∃a b,IsPair h TO a b)/\kR b1 h l l1 i/\kR b2 h m l2 i) where
 mem:=by simp
 obj:=λi h p b g=>by
  obtain⟨n,f,⟨a,c,j⟩,A,r⟩:=p;have mem:b=z\/b=TI\/b=TO\/b=l\/b=m:=by simpa using g
  rcases mem with rfl|rfl|rfl|rfl|rfl
  .exact⟨_,n,λv q=>by cases q⟩
  .exact⟨_,f,λv q=>by cases q⟩
  .exact⟨_,j,λv q=>by cases q⟩
  .obtain⟨o,e,_,d⟩:=A.look;exact⟨o,e,λv q=>by rw[d]at q;cases q⟩
  .obtain⟨o,e,_,d⟩:=r.look;exact⟨o,e,λv q=>by rw[d]at q;cases q⟩
 keep:=λi h Z p k=>by obtain⟨n,f,⟨a,c,j⟩,A,r⟩:=p;exact⟨k z (by simp) _ n,k TI (by simp) _ f,⟨a,c,k TO (by simp) _ j⟩,A.to λo e=>k l (by simp) o e,r.to λo e=>k m (by simp) o e⟩
 item:=by
  intro X hP hw hK hc i fT s σ H E I hf p hg;subst hP hw hK;obtain⟨n,f,⟨a,c,j⟩,A,r⟩:=p;obtain⟨xs,ys,x,y,q1,q2,e1,e2⟩:=hg;obtain⟨J,r1,p1,z1⟩:=I.seqB q1;obtain⟨Q,r2,p2,z2⟩:=I.seqB q2;obtain⟨u,gu,ru⟩:=r1.get e1;obtain⟨v,gv,rv⟩:=r2.get e2;have F:=I.fpOk (aJ _) (I.hok.fresh (aJ _));refine A4 D n f j A r p1 p2 (λL S Z C B a1 a2 a3 a4 a5 a6 N=>?_) λq=>?_
  .have eu:L=u:=by
    have:J[i]? = some L:=by simpa using C
    rw[gu]at this;cases this;rfl
   have ev:S=v:=by
    have:Q[i]? = some S:=by simpa using B
    rw[gv]at this;cases this;rfl
   subst eu;subst ev;refine⟨_,rfl,wpAny_letOwnedTupleGo_zip a1 λR U sb=>?_⟩;have zT:=bB (aK n);have I1:=I.turnedL (t':=s.toks) (ch:=[z,TO,l,m]) (λb o g e=>sb.extBut _ _ (λq=>g (by simp[q])) (N b o (λq=>g (by simp[q])) (λq=>g (by simp[q])) (λq=>g (by simp[q])) (λq=>g (by simp[q])) e))
    (λb g=>hf b (by
     have mem:b=z\/b=TO\/b=l\/b=m:=by simpa using g
     rcases mem with rfl|rfl|rfl|rfl<;>simp))
   have gT:=sb.extBut _ _ zT a5;have I2:gJ X fT σ (ju H s.heap.objs.size (.tup [x,y])) {s with heap:=R}:=I1.track F.1 F.2.2.2.1 F.2.1 F.2.2.2.2.1 F.2.2.2.2.2
    ⟨by show 2<=sizeLine;decide,[L,S],.cons ru (.cons rv .nil),⟨_,gT,rfl,_,rfl,rfl⟩⟩
   have lt:∀{b o},s.heap.get? b=some o->ju H s.heap.objs.size (.tup [x,y]) b=H b:=λ{b o} e=>gA (aL (aK e));refine⟨.ref s.heap.objs.size,_,I2,rfl,⟨_,x,y,rfl,F.1,rfl,λxs' h=>by rw[I.seqB_inj h q1];exact e1,λys' h=>by rw[I.seqB_inj h q2];exact e2⟩,?_,λb g=>?_⟩
   .have k2:∀c o,c≠z->Z.get? c=some o->R.get? c=some o:=λc o c1 e=>sb.extBut _ _ c1 e;exact⟨U,k2 _ _ D.TIz (N _ _ D.TIz D.TITO D.TIi1 D.TIi2 f),⟨_,_,k2 _ _ D.TOz a2⟩,a3.to λo e=>k2 _ o D.i1z e,a4.to λo e=>k2 _ o D.i2z e⟩
   .have mem:b=z\/b=TI\/b=TO\/b=l\/b=m:=by simpa using g
    have Y:=(hf b g).1;obtain⟨o1,g1,_⟩:=A.look;obtain⟨o2,g2,_⟩:=r.look;rcases mem with rfl|rfl|rfl|rfl|rfl
    .rw[lt n];exact Y
    .rw[lt f];exact Y
    .rw[lt j];exact Y
    .rw[lt g1];exact Y
    .rw[lt g2];exact Y
  .exfalso;have m1:J.toArray[i]? = some u:=by simpa using gu
   have m2:Q.toArray[i]? = some v:=by simpa using gv
   rcases q with q|q
   .rw[m1]at q;cases q
   .rw[m2]at q;cases q
 done:=by
  intro X hP hw hK hc i fT s σ H E I hf p hg;subst hP hw hK;obtain⟨n,f,⟨a,c,j⟩,A,r⟩:=p;obtain⟨xs,ys,q1,q2,hl⟩:=hg;obtain⟨J,r1,p1,z1⟩:=I.seqB q1;obtain⟨Q,r2,p2,z2⟩:=I.seqB q2;have n1:=r1.length;have n2:=r2.length;have fpc:∀b∈[z,TO,l,m],sI X fT H b:=λb g=>hf b (by
   have mem:b=z\/b=TO\/b=l\/b=m:=by simpa using g
   rcases mem with rfl|rfl|rfl|rfl<;>simp)
  refine A4 D n f j A r p1 p2 (λL S Z C B a1 a2 a3 a4 a5 a6 N=>?_) λq=>⟨I.ok.hd hc,λZ N=>⟨rfl,I.turnedL (λb o g e=>N b o (λq=>g (by simp[q])) (λq=>g (by simp[q])) (λq=>g (by simp[q])) (λq=>g (by simp[q])) e) fpc⟩⟩;exfalso;have m1:i<J.length:=by
   have:J[i]? = some L:=by simpa using C
   exact (aa.mp this).1
  have m2:i<Q.length:=by
   have:Q[i]? = some S:=by simpa using B
   exact (aa.mp this).1
  omega
 self:=λ_ _ _ _ _ p h=>wpAny_pyIter_zip p.1 h
def Ou:bootBuiltins "zip" = some (.type "zip"):=by decide +kernel
section
variable {X:Cx}
def Nf(K:W.Frag)(d e:Bool)(j:TA):TI:=λg H R=>j g H λf a=>∃c b,f=[.ref c,.ref b]/\(∃h,uP K a d c h)/\(∃i,uP K a e b i)/\R (RH K d e c b) a
def M6{x1}(S:Gl X "zip")(v:X.mg "zip" = none)(U:PA X [a,b] ta)(z:starEach [a,b] X.env=[(false,eval a X.env),(false,eval b X.env)]:=by rfl)
  (c:starEach [b] X.env=[(false,eval b X.env)]:=by rfl):PI X (.Tuple elts x1 tpos) (.Call (.Name "zip" p) [a,b] [] pos) (Nf X.K b1 b2 ta):=by
 intro x s Y H R I h;refine Call_ (oP I S v Ou (PyProof.Rows.callWith_type1 (jU (U pos x s Y H _ I h) λw s1 ⟨vs,H1,I1,r1,f⟩=>?_) (by rw[z,c]) (by rw[c];rfl)));obtain⟨P,Q,rfl,⟨Z,f⟩,⟨ys,F⟩,q⟩:=f;obtain⟨u1,u2,rfl,y,N⟩:=Mr r1;cases y;cases N;obtain⟨w,L,m,_⟩:=I1.seqB f;obtain⟨ws,B,u,_⟩:=I1.seqB F;have i:P<s1.heap.objs.size:=by obtain⟨o,n,e,_⟩:=m.look;exact aK e
 have j:Q<s1.heap.objs.size:=by obtain⟨o,n,e,_⟩:=u.look;exact aK e
 refine Ig m u λh' l d g C E J A=>?_;refine wpAny_pyIter_zip l ?_;refine⟨_,_,_,_,H1,rfl,I1.kept A,GM (zipApart_new i j),⟨l,d,⟨_,_,g⟩,C,E⟩,λb D=>?_,q⟩;have k:b=s1.heap.objs.size+4\/b=s1.heap.objs.size+2\/b=s1.heap.objs.size+3\/b=s1.heap.objs.size\/b=s1.heap.objs.size+1:=by simpa using D
 have r:s1.heap.objs.size<=b:=by rcases k with rfl|rfl|rfl|rfl|rfl<;>omega
 exact I1.fpOk r (I1.hok.fresh r)
end
end L2
namespace L2
open PySem PySem.Spec PyProof.Rows
def mY(h:H p=none):gL H (ju H p o):=λb u e=>by rw[gA (hC e h)];exact .of e
def gL.seqT{K:W.Frag}(e:gL H H')(h:mD K H a xs):mD K H' a xs:=by
 rcases h with (h|⟨o,h⟩)|h
 .exact .inl (.inl (e _ _ h))
 .exact .inl (.inr ⟨o,e _ _ h⟩)
 .exact .inr h
noncomputable def yW(d:List Str)(b a:Scope)(N:List Str)(c:List (Option Nat)):Bool:=
 a.kind==.function&&a.names.all (λy=>!(y.2==NameKind.cell)||a.names.lookup y.1==some .cell)&&a.names.all (λy=>!(y.2==NameKind.local)||a.names.lookup y.1==some .local) &&
 a.names.all (λy=>!(y.2==NameKind.free)||b.names.lookup y.1==some .cell)&&N.length==c.length &&
 (List.range N.length).all (λi=>match c[i]?,N[i]? with
  |some (some j),some x=>d[j]? == some x&&a.names.lookup x==some .free&&b.names.lookup x==some .cell
  |_,_=>true)
def Qr(o:∀x,X.env.scope.names.lookup x=some .cell->∃c,X.env.cells.lookup x=some c)(h:yW X.N X.env.scope scope N ix=true):AR X scope N ix:=by
 unfold yW at h;simp only[bS]at h;obtain⟨⟨⟨⟨⟨s,p⟩,q⟩,r⟩,k⟩,l⟩:=h;refine⟨by simpa using s,λy d e=>?_,λy d e=>?_,λy d e=>?_,by simpa using k,λi j x f n=>?_⟩
 .have:=cA.mp p y d;rw[e]at this;simpa using this
 .have:=cA.mp q y d;rw[e]at this;simpa using this
 .have:=cA.mp r y d;rw[e]at this;exact o _ (by simpa using this)
 .have m:=(aa.mp f).1;have:=cA.mp l i (aR.mpr m);rw[f,n]at this;simp only[bS,beq_iff_eq]at this;obtain⟨⟨a,b⟩,c⟩:=this;exact⟨a,b,.inr (.inl c),λz=>by have g:X.env.scope.names.lookup x=some .local:=z;rw[c]at g;cases g⟩
def Hs(L:AR X scope N ix):∀x,(mQ X N scope C s₃ H ex pn).env.scope.names.lookup x=some .cell->∃c,(mQ X N scope C s₃ H ex pn).env.cells.lookup x=some c:=λx b=>by
 refine bN.mp (W.cellsFrom_some _ _ _ ?_);rcases sA (.inl b) with a|a
 .exact .inr (bN.mpr (oA a (L.fre _ a rfl)))
 .exact .inl a
def vI{K:W.Frag}(g:ix[k]? = some none)(y:ix[l]? = some none):oQ ix (EN K 2 (vX (jg k) (vX (jg l) ET))):=by
 rintro x b H Q ⟨a,d,f,c,m,v,r,s,n,p,h,o,q⟩;refine⟨a,d,f,c,m,v,r,s,n,p,h,o,λi j e=>?_,q⟩;have u:k≠i:=by rintro rfl;rw[g]at e;cases e
 have w:l≠i:=by rintro rfl;rw[y]at e;cases e
 rw[aq w,aq u]
end L2
namespace L2
open PySem PySem.Spec PyProof.Rows
structure kP(K:W.Frag)(C:Addr)(m qual:Str)(st:Stmt):Prop where
 ex:∃f fd,JL K m qual st f fd/\KP K C m f
structure lU(P:Program)(w:World)(K:W.Frag)(mg:Str->Option Value)(base:Heap)(C:Addr)(m:Str)(k:Nat)(sp:Sp):Prop where
 cl:yr K C
 ex:∃f fd ps,nh P w K mg base xh k f fd ps sp/\KP K C m f/\qr K fd ps []
def Ee{K:W.Frag}{st:Stmt}(h:yr K C)(D:kP K C m qual st)(S:jC N ps (gw st))
  (i:∀(kV d o:Vq) (g:Option Addr) (a n:Vq) (us:List Vq),us.length=ps.length->bindArgs (W.fnOf m qual (jJ st) (iy st) (gw st) .none kV d o g a n) ⟨us,[]⟩=pure (ps.zip us))
  (e:∀vs H Q E,sp vs H Q E->vs.length=ps.length)
  (c:∀f a A b s H vs Q E,i6 k (A.deeper (envOfC qual (gw st) s.heap.objs.size f a))->sp vs H Q E->
   ∃t,Ak (pW xh P w K mg base N qual (gw st) f a A b s H E).nox (iy st) t/\t {nx:=λ_ l=>Q .non l,rt:=Q} (mx N vs) H):lU P w K mg base C m (k+1) sp:=by
 obtain⟨f,j,F,m⟩:=D.ex;exact⟨h,f,j,ps,F.ok S e (c f),m,F.binds i⟩
structure FM(P:Program)(w:World)(K:W.Frag)(mg:Str->Option Value)(base:Heap)(x:Str)(C:Addr)(k:Nat)(sp:Sp):Prop where
 ex:∃f fd ps,nh P w K mg base xh k f fd ps sp/\Mk K C f/\qr K fd ps []
 mgx:mg x=some (.ref C)
section
variable {X:Cx}{x m:Str}{C:Addr}{k:Nat}{sp:Sp}{e o:Expr}{es:List Expr}{t:TA}{ta:TE}{p pos apos:Pos}
def QW(h:FM X.prog X.w X.K X.mg X.base x C k sp)(hr:i6 (k+1) X.A)(j:PA X (e::es) t)(i:Gl X x:=by rfl)
  (c:(x==("__debug__" : Str))=false:=by decide) (g:starEach (e::es) X.env=(false,eval e X.env)::starEach es X.env:=by rfl) (d:(backTo pos (starEach es X.env)).any (·.1)=false:=by rfl) :
  PE X (.Call (.Name x p) (e::es) [] pos) (Dr C sp [] E0 t):=by
 obtain⟨f,n,l,F,a,b⟩:=h.ex;exact KJ a F hr i h.mgx b .nil IU j c g d
def Hu(h:lU X.prog X.w X.K X.mg X.base C m k sp)(hr:i6 k X.A)(d:PE X o ta)
  (c:eval (.Call (.Attribute o m apos) [] [] pos) X.env=(do
   let ov <-eval o X.env
   standAt apos.atName
   let (f,first) <-holding [ov] (getMethod ov m pl)
   callWith pos f first (backTo pos (starEach [] X.env)) (backToKw pos (keywordEach [] X.env))):=by rfl) :
  PE X (.Call (.Attribute o m apos) [] [] pos) (yu C m sp [] E0 ta qQ):=by
 obtain⟨f,i,g,F,a,b⟩:=h.ex;exact JF d h.cl a F hr b .nil IU c
end
end L2
namespace L2
open PySem PySem.Spec PyProof.Rows
def Iu(hN:X.N.Nodup)(hy:X.N[i]? = some y)(R:EB X.env.scope y)
  (Z:X.calm=true) (hi:PI X tg iter wi) (L:AR X scope N ix) (A:oQ ix g)
  (p:∀C c H k n,PG (mQ X N scope C c H k n) tg g/\E8 (mQ X N scope C c H k n) ifs tt/\PE (mQ X N scope C c H k n) elt te)
  (S:X.fn y=true\/X.env.scope.names.lookup y=some .local:=by first|exact .inl rfl|exact .inr rfl)
  (u:swapsWith (.ListComp elt [⟨tg,iter,ifs,0⟩] scope pos) (some (.Name y py)) spos.line X.env=pure true:=by rfl)
  (P:∀x,foldedSetIterable iter X.env x=pure x:=by intro _;rfl):PS X (.Assign [.Name y py] (.ListComp elt [⟨tg,iter,ifs,0⟩] scope pos) spos) (l3 (Je ix wi g tt te) (jg i)):=by
 intro F s B H D I h;rw[exec_Assign_Name_used _ _ _ _ u];refine ao (wpAny_standAt (ao ?_));rw[arm_evalThenUse_ListComp];refine ao (jU (wpAny_comprehension_free rfl P (rh L.fre) L.kind L.names (jU (hi F s B H _ I h) λv s1 h1=>jU h1 λitv s2 h2=>?_)) λ_ s' q=>ak (ak q));obtain⟨it,fp,tn,J,H2,e,I2,T,j,f2,W,⟨m0,U⟩,d⟩:=h2;subst e;refine DH (Q:=λx Y=>jg i x B Y D.nx) Z L A p I2 T j f2 U d λE0 C m H' s' hn f K q=>?_;refine wpAny_assign_Name (yl (v:=.ref E0) K hN hy R rfl (λs3 E l=>?_) S);obtain⟨a,sb,ha⟩:=l;have ne:C≠a:=by
  rcases ha with z|z
  .rw[z];exact f.2.1
  .exact λw=>f.2.2.2.2.1 y a z w.symm
 exact⟨m,hn.sameBut sb ne,λh' r=>⟨_,H',E.turned (λb o hb e=>r.extBut b o hb e) f.1 f.2.1 f.2.2.2.1 f.2.2.2.2.1 f.2.2.2.2.2,q⟩⟩
end L2
namespace L2
open PySem PySem.Spec PyProof.Rows
section
variable {κ:Type}[DecidableEq κ]
noncomputable def Cq(a:List (κ×V))(k:κ):Option V:=(a.find? λb=>decide (b.1=k)).map (·.2)
noncomputable def sZ(a:List (κ×V))(k:κ)(v:V):List (κ×V):=if (a.any λb=>decide (b.1=k))=true then a.map (λb=>if b.1=k then (b.1,v) else b) else a++[(k,v)]
def AO{k:κ}(e:p.1=k):Cq (p::r) k=some p.2:=by simp[Cq,List.find?_cons,e]
def Br{k:κ}(e:¬p.1=k):Cq (p::r) k=Cq r k:=by simp[Cq,List.find?_cons,e]
theorem Be k:∀a:List (κ×V),(a.any λb=>decide (b.1=k))=(Cq a k).isSome
 |[]=>rfl
 |p::r=>by
  rw[bV];by_cases e:p.1=k
  .simp only[AO e,aB e,Bool.true_or,cm]
  .rw[Br e,aA e,Bool.false_or];exact Be k r
def um kvs (k:κ) v:(sZ kvs k v).length<=kvs.length+1:=by
 unfold sZ;split
 .rw[aw];omega
 .rw[aS,ay,cB];omega
def uO.isSome_eq(r:uO o u):o.isSome=u.isSome:=by
 cases o with
 |none=>cases u with
  |none=>rfl
  |some _=>exact (show False from r).elim
 |some _=>cases u with
  |none=>exact (show False from r).elim
  |some _=>rfl
def KV.any(r:KV kvs vs)(k:κ):(kvs.any λa=>decide (a.1=k))=vs.any λa=>decide (a.1=k):=by
 unfold KV at r;induction r with
 |nil=>rfl
 |cons h t ih=>rw[bV,bV,ih,h.1]
theorem KV.repl(r:KV kvs vs)(k:κ)(c:iH y u) :
  KV (kvs.map λa=>if a.1=k then (a.1,y) else a) (vs.map λa=>if a.1=k then (a.1,u) else a):=by
 unfold KV at r ⊢;induction r with
 |nil=>exact .nil
 |@cons p q ps qs h t ih=>
  rw[bH,bH];refine .cons ?_ ih;obtain⟨b,d⟩:=h;by_cases e:p.1=k
  .rw[aP e,aP (b.symm.trans e)];exact⟨b,c⟩
  .rw[aQ e,aQ (λz=>e (b.trans z))];exact⟨b,d⟩
def KV.put(r:KV kvs vs)(k:κ)(a:iH y u):KV (sZ kvs k y) (stored vs k u):=by
 unfold sZ stored;rw[r.any k];by_cases e:(vs.any λb=>decide (b.1=k))=true
 .rw[aP e,aP e];exact r.repl k a
 .rw[aQ e,aQ e];exact Paired.snoc r ⟨rfl,a⟩
def KV.length{a:List (κ×V)}(r:KV a vs):a.length=vs.length:=Paired.length r
end
def Mt(r:iH (kV k) u):(kG P w).is k u=true:=by
 cases k with
 |inl i=>obtain⟨t,e⟩:=(show ∃t,u=Value.int i t from r);subst e;exact AY P w i t
 |inr x=>obtain⟨t,e⟩:=(show ∃t,u=Value.str x t from r);subst e;exact Ar P w x t
theorem yp:∀{ks} {us},hW (ks.map kV) us->ItemsAre (kG P w) ks us
 |[],_,r=>by rw[b7]at r;cases r;exact .nil
 |k::ks,_,r=>by
  rw[bH]at r;cases r with
  |cons h t=>exact .cons (Mt h) (yp t)
abbrev KT(H:Hp):List (List pI×V)->List (List pI×Addr×Value)->Prop:=Paired λp q=>p.1=q.1/\H q.2.1=some (.tup (p.1.map kV))/\iH p.2 q.2.2
def KT.val(r:KT H kvs xs) k:uO (Cq kvs k) ((atKey xs k).map (·.2)):=by
 induction r with
 |nil=>exact True.intro
 |@cons p q ps qs h t ih=>
  obtain⟨c,_,d⟩:=h;by_cases e:p.1=k
  .have a:q.1=k:=c.symm.trans e;have b:atKey (q::qs) k=some q.2:=by simp[atKey,List.find?_cons,a]
   rw[AO e,b];exact d
  .have a:¬q.1=k:=λz=>e (c.trans z);have b:atKey (q::qs) k=atKey qs k:=by simp[atKey,List.find?_cons,a]
   rw[Br e,b];exact ih
theorem KT.repl(r:KT H kvs xs) k (f:iH y u) :
  KT H (kvs.map λb=>if b.1=k then (b.1,y) else b) (xs.map (putAt k u)):=by
 induction r with
 |nil=>exact .nil
 |@cons p q ps qs h t ih=>
  rw[bH,bH];refine .cons ?_ ih;obtain⟨a,c,d⟩:=h;unfold putAt;by_cases e:p.1=k
  .rw[aP e,aP (a.symm.trans e)];exact⟨a,c,f⟩
  .rw[aQ e,aQ (λz=>e (a.trans z))];exact⟨a,c,d⟩
def KT.put(r:KT H kvs xs) k (d:H b=some (.tup (k.map kV))) (a:iH y u) :
  KT H (sZ kvs k y) (storedH xs k b u):=by
 have e:(kvs.any λc=>decide (c.1=k))=(atKey xs k).isSome:=by rw[Be,(r.val k).isSome_eq,Option.isSome_map]
 unfold sZ storedH;rw[e];by_cases q:(atKey xs k).isSome=true
 .rw[aP q,aP q];exact r.repl k a
 .rw[aQ q,aQ q];exact Paired.snoc r ⟨rfl,d,a⟩
def KT.keeps(r:KT H kvs xs)(c:∀b a,H b=some (.tup a)->H' b=some (.tup a)):KT H' kvs xs:=Paired.mapP r λ_ _ z=>⟨z.1,c _ _ z.2.1,z.2.2⟩
section
variable {P:Program}{w:World}{H:Hp}{h:Heap}{a:Addr}
def MJ(ok:qP P w H h)(e:Rd H a u):kf P w H h a u:=e.ok ok
def PM(ok:qP P w H h)(e:Rd H a (.dK kvs)):kvs.length<=sizeLine/\(a==sysModules)=false/\∃vs,KV kvs vs/\h.DictOf (kG P w) a vs:=show kf P w H h a (.dK kvs) from MJ ok e
def Qm(ok:qP P w H h)(e:H a=some (.dK kvs)):kvs.length<=sizeLine/\(a==sysModules)=false/\∃vs,KV kvs vs/\h.DictOf (kG P w) a vs:=PM ok (.inl e)
def Jm(ok:qP P w H h)(e:H a=some (.tup (ks.map kV))):(tupleKind (kG P w)).is h ks a:=by obtain⟨_,b,r,o,d,f,n,c,_⟩:=(show kf P w H h a (.tup (ks.map kV)) from ok a _ e);exact⟨o,b.toArray,n,d,f,c,by simpa using yp r⟩
theorem PP(ok:qP P w H h)(e:Rd H a (.dT kvs)):kvs.length<=sizeLine/\(a==sysModules)=false/\
  ∃xs,KT H kvs xs/\h.DictOfH (tupleKind (kG P w)) a xs:=by
 obtain⟨z,y,xs,r,o,c,k,j,f,g,i,d⟩:=(show kf P w H h a (.dT kvs) from MJ ok e);refine⟨z,y,xs,r,o,c,k,j,f,g,i,λx b=>?_,d⟩;have all:∀{l:List (List pI×V)} {m:List (List pI×Addr×Value)},KT H l m->∀x∈m,(tupleKind (kG P w)).is h x.1 x.2.1:=by
  intro l m q;induction q with
  |nil=>intro x b;exact nomatch b
  |@cons p q ps qs hq t ih=>
   intro x b;rcases aE.mp b with e|b
   .subst e;exact Jm ok (by rw[<-hq.1];exact hq.2.1)
   .exact ih x b
 exact all r x b
def QI(ok:qP P w H h)(e:H a=some (.dT kvs)):kvs.length<=sizeLine/\(a==sysModules)=false/\
  ∃xs,KT H kvs xs/\h.DictOfH (tupleKind (kG P w)) a xs:=PP ok (.inl e)
end
def HZ(H:Hp)(a:Addr)(y v:V)(d:Hp):Prop:=
 (∃c k,H a=some (.dK c)/\y=kV k/\c.length<sizeLine/\d=ju H a (.dK (sZ c k v)))\/
 ∃c k b,H a=some (.dT c)/\y=.ref b/\H b=some (.tup (k.map kV))/\c.length<sizeLine/\d=ju H a (.dT (sZ c k v))
def HZ.t{H:Hp}{a b:Addr}{c:List (List pI×V)}{k:List pI}{v:V}(e:H a=some (.dT c))(d:H b=some (.tup (k.map kV)))(f:c.length<sizeLine) :
  HZ H a (.ref b) v (ju H a (.dT (sZ c k v))):=.inr ⟨c,k,b,e,rfl,d,f,rfl⟩
section
variable {X:Cx}{fT:List (Addr×Obj)}{σ:St}{H:Hp}{s:Shared}{a:Addr}{y v:V}{u r:Vq}{o:Option V}{A:Around}{E:Vq->Shared->Prop}
def gJ.big(I:gJ X fT σ H s):sysModules<s.heap.objs.size:=by have h:mainGlobals<s.heap.objs.size:=(I.mod.glob.keeps I.bk).lt;exact Nat.lt_trans (by decide) h
def EC(I:gJ X fT σ H s)(c:Qb (H a))(f:Heap.SameBut a s.heap h')(g:∃q,h'.get? a=some q)(new:kf X.prog X.w (ju H a ob) h' a ob) :
  gJ X fT σ (ju H a ob) {s with heap:=h',toks:=t'}:=
 I.write (x:=a) (e:=a) c (.inl rfl) (λb q d z=>(f.2 b d).trans z) g new
def Oj(z:kvs.length<=sizeLine)(d:(a==sysModules)=false)(b:KV kvs vs)(c:h'.DictOf (kG P w) a vs) :
  kf P w H' h' a (.dK kvs):=⟨z,d,vs,b,c⟩
def EL(Z:A.units+1<cLine)(I:gJ X fT σ H s)(g:HZ H a y v H')(P:iH y u)(K:iH v r)(h:∀N,gJ X fT σ H' N->Q () N) :
  wpAny (model X.prog X.w) A (setItem (.ref a) u r) Q E s:=by
 rcases g with⟨d,k,e,p,l,B⟩|⟨d,k,b,e,p,F,l,B⟩
 .subst p B;obtain⟨z,D,vs,f,x⟩:=Qm I.hok e;have n:vs.length<=sizeLine:=by rw[<-f.length];exact z
  have C:(sZ d k v).length<=sizeLine:=by have:=um d k v;omega
  refine wpAny_setItem_pairs (hsz:=n) (Mt P) x λJ i m=>h _ ?_;have Y:∃q,J.get? a=some q:=let ⟨q,_,_,j,_⟩:=i;⟨q,j⟩;exact EC I (by rw[e];exact True.intro) m Y (Oj C D (f.put k K) i)
 .subst p B;cases (show u=Value.ref b from P);obtain⟨z,D,S,f,x⟩:=QI I.hok e;have n:S.length<=sizeLine:=by rw[<-Paired.length f];exact z
  have C:(sZ d k v).length<=sizeLine:=by have:=um d k v;omega
  refine wpAny_setItem_heap (hsz:=n) (tupleKind_room_in1 Z) (Jm I.hok F) x λJ i m=>h _ ?_;obtain⟨q,R,ep,j,h2,h3,h4,_,U⟩:=i;refine EC I (by rw[e];exact True.intro) m ⟨q,j⟩ ⟨C,D,_,(f.put k F K).keeps λc ys L=>?_,q,R,ep,j,h2,h3,h4,U⟩;rw[gA (Re L e (λz=>nomatch z))];exact L
end
def IG(f ty g:TE):TS:=λD b H=>g b H λv e=>f b e λx d=>ty b d λy h=>∃a c,x=.ref a/\HZ h a y v c/\D.nx b c
section
variable {X:Cx}{o i e value:Expr}{pos pos' tpos:Pos}{td ty tv:TE}
def Ka(j:X.A.units+1<cLine)(k:PE X o td)(f:PE X i ty)(l:PE X value tv)(m:swapsWith value (some (.Subscript o i pos')) pos.line X.env=pure false) :
  PS X (.Assign [.Subscript o i pos'] value pos) (IG td ty tv):=by
 intro c s b H D I h;refine wpAny_Assign_Subscript (jU (l c s b H _ I h) λr s1 ⟨v,H1,I1,rv,q1⟩=>jU (k c s1 b H1 _ I1 q1) λu s2 ⟨x,H2,I2,rx,q2⟩=>jU (f c s2 b H2 _ I2 q2) λiv s3 ⟨y,H3,I3,ry,a,H4,ex,g,q3⟩=>?_) m;subst ex;obtain rfl:u=Value.ref a:=rx;exact EL j I3 g ry rv λn d=>⟨b,H4,d,q3⟩
end
def Io(h:Heap)(a:sysModules<h.objs.size):kf P w H (h.push {cls:=.type "dict",data:=.dict #[]}) h.objs.size (.dT []):=⟨bJ _,beq_eq_false_iff_ne.mpr (Ne.symm (aL a)),[],.nil,_,#[],0,ar _ rfl,⟨rfl,rfl,rfl⟩,rfl,rfl,List.nodup_nil⟩
def BE:TE:=λ_ H Q=>∀p,H p=none->Q (.ref p) (ju H p (.dT []))
section
variable {X:Cx}{pos:Pos}
def HB:PE X (.Dict [] [] pos) BE:=λb s c H Q I h=>wpAny_Dict_empty ⟨.ref s.heap.objs.size,_,I.laid (a:=s.heap.objs.size) (o:=.dT []) (t':=s.toks) (λ_ _ q=>ae _ q) (aJ _) (Io s.heap I.big),rfl,h _ (I.hok.fresh (aJ _))⟩
end
end L2
namespace L2
open PySem PySem.Spec PyProof.Rows Builtin
def uR:fillsNumberSlot (.type "tuple") "mul" = pure false:=PySem.fillsNumberSlot_seq F.slot_tuple_mul.lookup (by decide +kernel) F.slot_tuple_rmul.lookup (by decide +kernel)
def zf:seqRepeat? (.type "tuple")=pure (some (.builtin "tuple.__mul__")):=by unfold seqRepeat?;rw[PySem.seqSlot_of (name:= "__mul__") F.slot_tuple_mul.lookup (by decide +kernel),PySem.seqSlot_of (name:= "__rmul__") F.slot_tuple_rmul.lookup (by decide +kernel)];rfl
def vH a t l dct its n sl :
  Meets (Builtin.«int.__rmul__» ⟨[.int a t,.ref l],[]⟩) (λ_ R s=>s.heap.get? l=some ⟨.type "tuple",dct,.seq its n,sl⟩/\R (.ok (.ret Value.notImplemented)) s):=
 .of_wp λb w A R s h=>by obtain⟨i,g,d,f,c⟩:=s;obtain⟨e,h⟩:=h;wp_walk;exact⟨_,rfl,h⟩
def xC a t l dct its n sl (E:-(2 ^ 63)<=a) (F:a<2 ^ 63) (m:its.size*a.toNat<=sizeLine) :
  Meets (Builtin.«tuple.__mul__» ⟨[.ref l,.int a t],[]⟩) (λ_ R s=>s.heap.get? l=some ⟨.type "tuple",dct,.seq its n,sl⟩/\((its.isEmpty=true\/a=1)->R (.ok (.ret (.ref l))) s)/\
   (¬(its.isEmpty=true\/a=1)->a<=0->R (.ok (.ret (.ref s.heap.objs.size))) {s with heap:=s.heap.push {cls:=.type "tuple",data:=.seq #[]}})/\
   (¬(its.isEmpty=true\/a=1)->0<a->R (.ok (.ret (.ref s.heap.objs.size))) {s with heap:=s.heap.push {cls:=.type "tuple",data:=.seq ((List.replicate a.toNat its).foldl (·++·) #[])}})):=
 .of_wp λk w A R s h=>by
  obtain⟨I,g,d,B,D⟩:=s;obtain⟨H,p,q,v⟩:=h;have o:¬(decide (a < -2 ^ 63)||decide (a >= 2 ^ 63))=true:=by simp;omega
  wp_walk;rw[aQ o];wp_walk;by_cases b:its.isEmpty=true\/a=1
  .rw[aP (by rcases b with c|c<;>simp[c])];wp_walk;exact⟨_,rfl,p b⟩
  .rw[aQ (by intro z;exact b (by simpa using z))];by_cases j:a<=0
   .rw[aP (by simp[j])];wp_walk;exact⟨_,rfl,q b j⟩
   .have x:¬its.isEmpty=true:=λz=>b (.inl z);have y:its.size*a<=sizeLine:=by
     have:((its.size*a.toNat:Nat):Int)<=sizeLine:=by exact_mod_cast m
     rw[Int.natCast_mul,cC (by omega)]at this;exact this
    have C:(sizeLine:Int)=2 ^ 24:=by decide
    rw[aQ (by simp[j,x]),aQ (by omega)];rw[aQ (by simp[Tuple.tupleTooMany];omega)];have r:(List.foldl (λf i=>f++i) #[] (List.replicate a.toNat its)).size<=sizeLine:=by
     have e:=qD its.toList a.toNat [];simp only[b5]at e;have u:List.foldl (λf i=>f++i) #[] (List.replicate a.toNat its)=(List.replicate a.toNat its.toList).flatten.toArray:=by simpa using e
     rw[u,bF,yT,b6];simpa using m
    wp_walk;exact⟨_,rfl,v b (by omega)⟩
section
variable {X:Cx}
def Jc:R2:=λx y H Q=>∃l k a,x=.ref l/\y=.int k/\H l=some (.tup a)/\-(2 ^ 63)<=k/\k<2 ^ 63/\a.length*k.toNat<=sizeLine/\((a=[]\/k=1)->Q (.ref l) H)/\
 (¬(a=[]\/k=1)->∀p,H p=none->Q (.ref p) (ju H p (.tup (List.replicate k.toNat a).flatten)))
def Le:pJ X (binaryOp .Mult) Jc:=by
 intro fT s σ H x y v u Q I U N h;obtain⟨l,k,j,rfl,rfl,E,K,P,m,C,p⟩:=h;cases U;obtain⟨t,rfl⟩:=N;obtain⟨a,r,⟨⟨c,d,dt,A⟩,e,D,n,hd⟩,_⟩:=I.tuple (mD.of E);subst D;subst hd;have Z:=r.length;have S:a.toArray.size*k.toNat<=sizeLine:=by rw[bF,<-Z];exact m
 have i:a.toArray.isEmpty=true↔j=[]:=by
  cases r with
  |nil=>simp
  |cons _ _=>simp
 have f:(a.toArray.isEmpty=true\/k=1)↔(j=[]\/k=1):=by rw[i]
 have g:List.foldl (λB J=>B++J) #[] (List.replicate k.toNat a.toArray)=(List.replicate k.toNat a).flatten.toArray:=by have:=qD a k.toNat [];rw[b5]at this;exact this
 have fr:=I.fresh;refine wpAny_binaryOp_repeat_ref (by decide) ⟨_,e,rfl⟩ (λL=>typeIs_int L k t) uR F.fills_int_mul F.slot_int_rmul zf F.slot_int_index.lookup
  (call_meets F.slot_int_rmul (typeIs_int s k t) F.entry_int_rmul (F.args_int_rmul_2 _ _) (vH k t l d a.toArray n A)
   ⟨e,rfl,⟨_,e,rfl⟩,call_meets F.slot_tuple_mul ⟨_,e,rfl⟩ F.entry_tuple_mul (F.args_tuple_mul_2 _ _) (xC k t l d a.toArray n A K P S) ⟨e,λz=>?_,λz w=>?_,λz w=>?_⟩⟩)
 .exact⟨.ref l,H,I,rfl,C (f.mp z)⟩
 .have Y:k.toNat=0:=by omega
  have q:=p (λy=>z (f.mpr y)) s.heap.objs.size fr;rw[Y]at q;exact⟨.ref _,_,I.laid (o:=.tup []) (λb R q=>ae _ q) (aJ _) ⟨bJ _,[],.nil,vR.new _ _⟩,rfl,q⟩
 .rw[g];refine⟨.ref _,_,I.laid (o:=.tup (List.replicate k.toNat j).flatten) (λb R q=>ae _ q) (aJ _) ⟨?_,_,r.rep k.toNat,vR.new _ _⟩,rfl,p (λy=>z (f.mpr y)) _ fr⟩;rw[yT,b6];exact m
def Af:V->Option Bool
 |.bl b=>some b
 |.int i=>some (i != 0)
 |_=>none
def mv:List V->Option (List Bool)
 |[]=>some []
 |v::vs=>(Af v).bind λb=>(mv vs).bind λr=>some (b::r)
theorem yy:∀{vs} {bs} {us} {i} {u},mv vs=some bs->hW vs us->us[i]? = some u->∃v,iH v u/\Af v=some (bs.getD i false)
 |[],_,_,_,_,_,.nil,e=>by simp at e
 |v::vs,bs,_,i,u,h,.cons r t,e=>by
  cases c:Af v with
  |none=>simp[mv,c]at h
  |some b=>
   cases hr:mv vs with
   |none=>simp[mv,c,hr]at h
   |some r'=>
    simp[mv,c,hr]at h;subst h;cases i with
    |zero=>simp at e;subst e;exact⟨v,r,by simpa using c⟩
    |succ i=>obtain⟨f,a,d⟩:=yy hr t (by simpa using e);exact⟨f,a,by simpa using d⟩
theorem yk:∀{vs} {bs},mv vs=some bs->vs.length=bs.length
 |[],_,h=>by cases h;rfl
 |v::vs,bs,h=>by
  cases a:Af v with
  |none=>simp[mv,a]at h
  |some b=>
   cases hr:mv vs with
   |none=>simp[mv,a,hr]at h
   |some r'=>simp[mv,a,hr]at h;subst h;simp[yk hr]
def vU(h:mv vs=some bs)(r:hW vs us):TruthOf prog w A (λi v=>us.toArray[i]? = some v) (λi=>bs.getD i false):=λi u s Q E e a=>by
 obtain⟨v,d,c⟩:=yy h r (by simpa using e);dsimp only at a;cases v with
 |bl b=>
  cases d;have:b=bs.getD i false:=by simpa[Af] using c
  rw[<-this]at a;exact wpAny_truthy_bool a
 |int n=>
  obtain⟨t,rfl⟩:=d;have:(n != 0)=bs.getD i false:=by simpa[Af] using c
  rw[<-this]at a;exact PyProof.Rows.truthy_int a
 |_=>simp[Af]at c
def E6(m:X.calm=true):kg X (.builtin "any") (λxs H Q=>∃p vs bs,xs=[.ref p]/\(lC X.K H p vs\/mD X.K H p vs)/\mv vs=some bs/\Q (.bl (bs.any id)) H):=by
 intro D s E H xs C Q I r h;obtain⟨p,vs,bs,rfl,g,d,q⟩:=h;obtain⟨u,rfl,y⟩:=nI r;cases y;have B:=yk d;rcases g with g|g
 .obtain⟨a,j,f,v⟩:=I.list g;have w:=j.length;have c:p<s.heap.objs.size:=by obtain⟨_,e,_⟩:=f.isList;exact aK e
  refine call_any_walk (wpAny_pyIter_list f.isList ⟨s.heap.objs.size,_,_,_,_,_,λi=>bs.getD i false,rfl,Walks.list (A:=X.A.in1) (I.ok.hd m) _ p (aL c) _,⟨⟨_,ar _ rfl,rfl,rfl⟩,f.isList.push _⟩,vU d j,λx n l=>?_⟩);refine⟨.bl _,H,I.kept (λb o e=>l b o (λk=>?_) (ae _ e)),rfl,?_⟩
  .have lt:=aK e;have z:b=s.heap.objs.size:=by simpa using k
   rw[z]at lt;exact aZ _ lt
  .rw[<-yF]at q;have:a.toArray.size=bs.length:=by rw[bF];omega
   rw[this];exact q
 .obtain⟨a,j,f,v⟩:=I.tuple g;have w:=j.length;have c:p<s.heap.objs.size:=by obtain⟨_,e,_⟩:=f;exact aK e
  have pt:=f;refine call_any_walk (wpAny_pyIter_tuple pt ⟨s.heap.objs.size,_,_,_,_,_,λi=>bs.getD i false,rfl,Walks.tuple (A:=X.A.in1) (I.ok.hd m) _ p (aL c) _,⟨⟨_,ar _ rfl,rfl,rfl⟩,pt.push _⟩,vU d j,λx n l=>?_⟩);refine⟨.bl _,H,I.kept (λb o e=>l b o (λk=>?_) (ae _ e)),rfl,?_⟩
  .have lt:=aK e;have z:b=s.heap.objs.size:=by simpa using k
   rw[z]at lt;exact aZ _ lt
  .rw[<-yF]at q;have:a.toArray.size=bs.length:=by rw[bF];omega
   rw[this];exact q
def F9:pJ X (compareOp .IsNot) (λx y H Q=>∃a b,x=.bl a/\y=.bl b/\Q (.bl (!(a==b))) H):=by intro e s f H x y v u Q I c d h;obtain⟨a,b,rfl,rfl,q⟩:=h;cases c;cases d;exact ak ⟨.bl (!(a==b)),H,I,by cases a<;>cases b<;>rfl,q⟩
end
end L2
namespace L2
open PySem PySem.Spec PyProof.Rows
section
variable {prog:Program}{w:World}{A:Around}{E:Vq->Shared->Prop}{s:Shared}
def FH{i:Nat}{Q:Vq->Shared->Prop}(y:IsEnum s.heap e it i old)(hi:kR b s.heap it l i)(hl:iZ b s.heap l xs)(j:e≠it)
  (r:∀x h,xs[i]? = some x->IsEnumOut h e it ((i:Int)+1) x s.heap.objs.size->kR b h it l (i+1)->h.get? s.heap.objs.size=some {cls:=.type "tuple",data:=.seq #[.int i s.toks,x]}->h.objs.size=s.heap.objs.size+1->
   (∀c o,c≠e->c≠it->s.heap.get? c=some o->h.get? c=some o)->Q (.ref s.heap.objs.size) {s with heap:=h,toks:=s.toks+1})
  (no:xs[i]? = none->A.handled=none/\∀h x,Heap.ExtBut it s.heap h->(∃o,h.get? x=some o/\o.cls=.type "StopIteration")->E (.ref x) {s with heap:=h}) :
  wpAny (model prog w) A (Builtin.«enumerate.__next__» ⟨[.ref e],[]⟩) (λH s'=>∃v,H=.done (.ret v)/\Q v s') E s:=by
 obtain⟨N,g,d,K,os⟩:=s;show wpAny _ _ (field (.ref e) 2 >>= λ_=>_) _ _ _;refine ao (wpAny_field y rfl rfl (ao (sM hi hl (λx g1 Y t1 k1=>?_) no)));have k:=k1;have D:=(k.2 e j).trans y;refine ao (wpAny_field D rfl rfl ?_);refine ao (wpAny_field D rfl rfl ?_);refine ao (wpAny_mkInt (ao (wpAny_setField_rec D (by simp) λg2 y2 F=>?_)));have z2:=y2;refine ao (wpAny_setField_rec z2 (by simp) λm y3 C=>?_);have z3:=y3;refine ao (wpAny_newTuple ?_);have sz:m.objs.size=N.objs.size:=by have a:=C.1;have c:=F.1;have u:=k.1;dsimp only at a c u;omega
 have B:IsEnum (m.push {cls:=.type "tuple",data:=.seq #[.int i K,x]}) e it (i+1) old:=ae _ z3;have X:=aK y;have z:∀c o,c≠e->c≠it->N.get? c=some o->m.get? c=some o:=λc o f I q=>C.extBut c o f (F.extBut c o f (k.extBut c o I q));unfold Builtin.SmallTypes.ownedTupleIsFree;refine ao (ao (wpAny_field B rfl rfl (ak ?_)));simp only[if_true];refine ao (wpAny_rule (ao (wpAny_field B rfl rfl (ao (wpAny_setField_rec B (by simp) λg5 y5 L=>?_)))));have z5:=y5;unfold Builtin.SmallTypes.ownedTupleHandOut;refine ao (ao (wpAny_setField_rec z5 (by simp) λg6 Z R=>?_));have z6:=Z;refine wpAny_setField_rec z6 (by simp) λp U P=>?_;have J:=U;have up:∀c o,c≠e->(m.push {cls:=.type "tuple",data:=.seq #[.int i K,x]}).get? c=some o->p.get? c=some o:=λc o f q=>P.extBut c o f (R.extBut c o f (L.extBut c o f q));have n:∀c o,c≠e->m.get? c=some o->p.get? c=some o:=λc o f q=>up c o f (ae _ q);have tp:=up _ _ (by rw[sz];exact bB X) (ar _ rfl);have S:p.objs.size=m.objs.size+1:=by have a:=P.1;have c:=R.1;have u:=L.1;dsimp only at a c u;rw[Heap.size_push]at u;omega
 refine ao (wpAny_letGo (ak ⟨_,rfl,?_⟩));rw[sz]at J tp S ⊢;exact r x p Y J (t1.to λo q=>n it o (Ne.symm j) (C.extBut it o (Ne.symm j) (F.extBut it o (Ne.symm j) q))) tp S λc o f I q=>n c o f (z c o f I q)
def uc{i:Nat}(g:IsEnum s.heap e it i old)(n:kR b s.heap it l i)(v:iZ b s.heap l xs)(f:e≠it)
  (d:∀x a,xs[i]? = some x->IsEnumOut a e it ((i:Int)+1) x s.heap.objs.size->kR b a it l (i+1)->a.get? s.heap.objs.size=some {cls:=.type "tuple",data:=.seq #[.int i s.toks,x]}->a.objs.size=s.heap.objs.size+1->
   (∀c o,c≠e->c≠it->s.heap.get? c=some o->a.get? c=some o)->Q (some (.ref s.heap.objs.size)) {s with heap:=a,toks:=s.toks+1})
  (h:xs[i]? = none->A.handled=none/\∀a,Heap.ExtBut it s.heap a->Q none {s with heap:=a}):wpAny (model prog w) A (pyNext (.ref e)) Q E s:=by
 have ty:s.TypeIs (.ref e) "enumerate" :=⟨_,g,rfl⟩;unfold pyNext;refine ao (wpAny_attempt (wpAny_callSpecial?_slot ty F.slot_enumerate_next (wpAny_call_entry F.slot_enumerate_next ty F.entry_enumerate_next
  (FH g n v f (λx a m p u j k r=>ak (d x a m p u j k r)) λq=>⟨(h q).1,λa x hk ⟨o,ho,hc⟩=>?_⟩) (F.args_enumerate_next_1 _))))
 exact ao (wpAny_isInstance ⟨o,ho,hc⟩ isSubtype_stop (ak ((h q).2 a hk)))
noncomputable abbrev eo(b:Bool)(l:Addr):Obj:={cls:=.type (wM b),data:=.fields #[.ref l,.int 0 0]}
abbrev en(p:Addr):Obj:={cls:=.type "enumerate",data:=.fields #[.none,.bool false,.ref p,rawInt 0,.none,.none]}
def Ci b l xs:Meets (Builtin.«enumerate.__new__» ⟨[.type "enumerate",.ref l],[]⟩) (λ_ R s=>iZ b s.heap l xs/\
  R (.ok (.ret (.ref (s.heap.push (eo b l)).objs.size))) {s with heap:=(s.heap.push (eo b l)).push (en s.heap.objs.size)}):=by
 refine .of_wp λprog w A R s h=>?_;obtain⟨r,g,d,j,k⟩:=s;obtain⟨i,e⟩:=h;have f:=sub_enumerate;have a:=i;obtain⟨o,n,p,q⟩:=a.look;wp_walk using oE a;refine wpAny_stack_any λm=>ak ?_;split
 .rename_i c _ _ _ _ _;cases (c==Value.type "enumerate")
  .wp_walk using oE a;exact⟨_,rfl,e⟩
  .wp_walk using oE a;exact⟨_,rfl,e⟩
 .wp_walk using oE a;exact⟨_,rfl,e⟩
def yj(g:iZ b s.heap l xs)
  (h:∀a,IsEnum a (s.heap.objs.size+1) s.heap.objs.size 0 .none->kR b a s.heap.objs.size l 0->a.objs.size=s.heap.objs.size+2->(∀c o,s.heap.get? c=some o->a.get? c=some o)->Q (.ref (s.heap.objs.size+1)) {s with heap:=a}) :
  wpAny (model prog w) A (call (.type "enumerate") [.ref l]) Q E s:=by
 refine callType_new F.called_enumerate (by decide) (F.typeCall_enumerate_1 _) (F.newCall_enumerate_1 _) (λe=>F.args_object_init_2 e _) F.entry_enumerate_new (Ci b l xs) ⟨g,?_⟩;have f:(s.heap.push (eo b l)).objs.size=s.heap.objs.size+1:=Heap.size_push ..;have d:=ar (s.heap.push (eo b l)) (o:=en s.heap.objs.size) rfl;rw[f]at d;rw[f];exact⟨⟨_,d,rfl⟩,h _ d (.of ⟨_,ae _ (ar _ rfl),rfl,rfl⟩) (by rw[Heap.size_push,f]) λc o q=>ae _ (ae _ q)⟩
end
noncomputable def R4(K:W.Frag)(b:Bool)(l:Addr):It:=
  ⟨λi H=>∃a x,uP K H b l a/\a[i]? = some x,
   λi H v c=>∃p x,v=.ref p/\H p=none/\c=ju H p (.tup [.int i,x])/\∀a,uP K H b l a->a[i]? = some x,
   λi H=>∃a,uP K H b l a/\a.length<=i⟩
def F7{K:W.Frag}{x1}(p:e≠it) :
  A8 P w K (.Tuple elts x1 pos) (R4 K b l) [e,it] e (λi h=>(∃a,IsEnum h e it i a)/\kR b h it l i) where
 mem:=by simp
 obj:=λi h j c L=>by
  obtain⟨⟨a,g⟩,m⟩:=j;have mem:c=e\/c=it:=by simpa using L
  rcases mem with rfl|rfl
  .exact⟨_,g,λv q=>by cases q⟩
  .obtain⟨o,q,_,d⟩:=m.look;exact⟨o,q,λv q'=>by rw[d]at q';cases q'⟩
 keep:=λi h R j k=>by obtain⟨⟨a,g⟩,m⟩:=j;exact⟨⟨a,k e (by simp) _ g⟩,m.to λo q=>k it (by simp) o q⟩
 item:=by
  intro X S hw Z L i fT s σ H E I F j Y;subst S hw Z;obtain⟨⟨a,g⟩,m⟩:=j;obtain⟨xs,x,D,e1⟩:=Y;obtain⟨A,Q,U,z1⟩:=I.seqB D;obtain⟨u,gu,ru⟩:=Q.get e1;have y:=I.fpOk (aJ _) (I.hok.fresh (aJ _));refine uc g m U p (λB R r a1 a2 a3 a4 J=>?_) λq=>?_
  .have eu:B=u:=by
    have:A[i]? = some B:=by simpa using r
    rw[gu]at this;cases this;rfl
   subst eu;refine⟨_,rfl,wpAny_letOwnedTupleGo_enum a1 λN C sb=>?_⟩;have n:=sb;have zT:=bB (aK g);have I1:=I.turnedL (t':=s.toks+1) (λb o f q=>n.extBut _ _ (λz=>f (by simp[z])) (J b o (λz=>f (by simp[z])) (λz=>f (by simp[z])) q)) (λb f=>F b f);have gT:=n.extBut _ _ zT a3;have I2:gJ X fT σ (ju H s.heap.objs.size (.tup [.int i,x])) {s with heap:=N,toks:=s.toks+1}:=I1.track y.1 y.2.2.2.1 y.2.1 y.2.2.2.2.1 y.2.2.2.2.2
    ⟨by show 2<=sizeLine;decide,[.int i s.toks,B],.cons ⟨_,rfl⟩ (.cons ru .nil),⟨_,gT,rfl,_,rfl,rfl⟩⟩
   have lt:∀{b o},s.heap.get? b=some o->ju H s.heap.objs.size (.tup [.int i,x]) b=H b:=λ{b o} q=>gA (aL (aK q));refine⟨.ref s.heap.objs.size,_,I2,rfl,⟨_,x,rfl,y.1,rfl,λxs' h=>by rw[I.seqB_inj h D];exact e1⟩,?_,λb f=>?_⟩
   .exact⟨⟨_,C⟩,a2.to λo q=>n.extBut _ o (Ne.symm p) q⟩
   .have mem:b=e\/b=it:=by simpa using f
    have hn:=(F b f).1;obtain⟨o1,g1,_⟩:=m.look;rcases mem with rfl|rfl
    .rw[lt g];exact hn
    .rw[lt g1];exact hn
  .exfalso;have m1:A.toArray[i]? = some u:=by simpa using gu
   rw[m1]at q;cases q
 done:=by
  intro X S hw Z L i fT s σ H E I F j Y;subst S hw Z;obtain⟨⟨a,g⟩,m⟩:=j;obtain⟨xs,D,hl⟩:=Y;obtain⟨A,Q,U,z1⟩:=I.seqB D;have n1:=Q.length;refine uc g m U p (λB R r a1 a2 a3 a4 J=>?_) λq=>⟨I.ok.hd L,λR J=>⟨rfl,I.turnedL (ch:=[it]) (λb o f q=>J b o (λz=>f (by simp[z])) q) λb f=>F b (by
   have:b=it:=by simpa using f
   simp[this])⟩⟩
  exfalso;have m1:i<A.length:=by
   have:A[i]? = some B:=by simpa using r
   exact (aa.mp this).1
  omega
 self:=λ_ _ _ _ _ j h=>by obtain⟨⟨a,g⟩,_⟩:=j;exact wpAny_pyIter_enum g h
section
variable {X:Cx}
def GK(K:W.Frag)(b:Bool)(e:TA):TI:=λf H R=>e f H λc a=>∃l,c=[.ref l]/\(∃d,uP K a b l d)/\R (R4 K b l) a
def IB{x1}(y:Gl X "enumerate")(g:X.mg "enumerate" = none)(z:PA X [a] ta)(k:starEach [a] X.env=[(false,eval a X.env)]:=by rfl) :
  PI X (.Tuple elts x1 tpos) (.Call (.Name "enumerate" p) [a] [] pos) (GK X.K b ta):=by
 intro j s A H R I h;refine Call_ (oP I y g boot_enumerate (PyProof.Rows.callWith_type1 (jU (z pos j s A H _ I h) λi s1 ⟨vs,H1,I1,r1,c⟩=>?_) k rfl));obtain⟨l,rfl,⟨B,c⟩,q⟩:=c;obtain⟨u,rfl,x⟩:=nI r1;cases x;obtain⟨i,v,w,_⟩:=I1.seqB c;refine yj w λC e o r m=>?_;refine wpAny_pyIter_enum e ?_;refine⟨_,_,_,_,H1,rfl,I1.kept m,F7 (Nat.succ_ne_self _),⟨⟨_,e⟩,o⟩,λb n=>?_,q⟩;have d:b=s1.heap.objs.size+1\/b=s1.heap.objs.size:=by simpa using n
 have f:s1.heap.objs.size<=b:=by rcases d with rfl|rfl<;>omega
 exact I1.fpOk f (I1.hok.fresh f)
end
end L2
namespace HT
open PySem PySem.Spec PyProof.Rows
section
variable {prog:Program}{w:World}{A:Around}{E:Vq->Shared->Prop}{s:Shared}
def getItem_tuple_all{a d:Option Int}(c:IsTup s.heap t items)(i:s.heap.IsSliceOf sl vl vu .none)(j:IsPart vl a)(l:IsPart vu d)
  (hw:sIx items.size 0 a=0/\sIx items.size items.size d=items.size) (h:Q (.ref t) s):wpAny (model prog w) A (getItem (.ref t) (.ref sl)) Q E s:=by
 obtain⟨k,e,f,m⟩:=id i;have g:s.TypeIs (.ref sl) "slice" :=⟨k,e,f⟩;unfold getItem;try with_reducible refine wpAny_holding ?_;first|refine ao (ak ?_)|skip
 refine ao (wpAny_sequenceKey c.typeIs (by decide) ?_);refine ao (wpAny_callSpecial?_slot c.typeIs PyProof.Rows.slot_tuple_getitem
  (wpAny_call_entry PyProof.Rows.slot_tuple_getitem c.typeIs entry_tuple_getitem ?_ (args_tuple_getitem _ _)))
 show wpAny _ _ (Builtin.Tuple.tupleItemsOf (.ref t) >>= _) _ _ s;refine ao (tupleItemsOf_ c ?_);refine ao (wpAny_typeOf g ?_);rw[aP (by decide)];refine ao (og i j l ?_);have b:(((sIx items.size 0 a):Int)==0&&(1:Int)==1&&(sIx items.size items.size d-sIx items.size 0 a)==items.size)=true:=by rw[hw.1,hw.2];simp
 show wpAny _ _ (if (((sIx items.size 0 a):Int)==0&&1==1&&(sIx items.size items.size d-sIx items.size 0 a)==items.size)=true then _ else _) _ _ s;rw[aP b];refine ao (ao (wpAny_typeOf c.typeIs (ak ?_)));rw[aP (by decide)];refine ao (wpAny_rule ?_);exact ak ⟨_,rfl,ak h⟩
end
end HT
namespace L2
open PySem PySem.Spec PyProof.Rows
section
variable {X:Cx}
def QK(K:W.Frag):V->Option Int->Option Int->Hp->VK->Prop:=λx d c H Q=>∃a b,x=.ref a/\mD K H a b/\(HT.sIx b.length 0 d=0/\HT.sIx b.length b.length c=b.length)/\Q (.ref a) H
def Kl:Mo X (QK X.K):=by
 intro m s y H x v u l n p w Q I j f i e h;obtain⟨a,d,rfl,g,hw,q⟩:=h;cases j;obtain⟨b,r,c,o⟩:=I.tuple g;have k:b.toArray.size=d.length:=by rw[bF];exact r.length.symm
 refine⟨"tuple",_,PyProof.Rows.slot_tuple_getitem.lookup,c.typeIs,?_⟩;exact HT.getItem_tuple_all c f i e (by rw[k];exact hw) ⟨.ref a,H,I,rfl,q⟩
end
end L2
namespace L2
open PySem PySem.Spec PyProof.Rows
section
variable {prog:Program}{w:World}{A:Around}{E:Vq->Shared->Prop}{s:Shared}{d it:Addr}{es:Array DictEntry}{ep i:Nat}
def sY(h:Heap)(d:Addr)(es:Array DictEntry)(ep:Nat):Prop:=∃o,h.get? d=some o/\o.ExactDict/\o.data=.dict es ep
def sY.to(x:sY h d es ep)(k:∀o,h.get? d=some o->h'.get? d=some o):sY h' d es ep:=let ⟨o,a,r⟩:=x;⟨o,k o a,r⟩
def sY.lt(x:sY h d es ep):d<h.objs.size:=let ⟨_,a,_⟩:=x;aK a
def sY.ty(x:sY s.heap d es ep):s.TypeIs (.ref d) "dict" :=let ⟨o,a,c,_⟩:=x;⟨o,a,c.1⟩
def HL(e:(d==sysModules)=false)(x:sY s.heap d es ep)
  (q:Q (.ref s.heap.objs.size) {s with heap:=s.heap.push {cls:=.type "dict_keyiterator",data:=.fields #[.ref d,.int 0 0,.int es.size 0,.int ep 0]}}):wpAny (model prog w) A (pyIter (.ref d)) Q E s:=by
 obtain⟨o,a,c,b⟩:=id x;refine wpAny_pyIter_slot x.ty F.slot_dict_iter (wpAny_call_entry F.slot_dict_iter x.ty F.entry_dict_iter ?_ (F.args_dict_iter_1 _));unfold Builtin.«dict.__iter__»;refine ao ?_;unfold Builtin.Dict.dictSlotNone;refine ao (wpAny_notOrdered_dict x.ty ?_);show wpAny _ _ (pure (Value.ref d)) _ _ s;refine ak ?_;show wpAny _ _ (Builtin.Dict.showsAll d >>= λ_=>_) _ _ s;unfold Builtin.Dict.showsAll;rw[aQ (by rw[e];exact λz=>nomatch z)];refine ao (ak (ao (wpAny_dictEntries a b (ao (wpAny_dictEpoch a b ?_)))));refine ao (wpAny_newObj_type (ak ⟨_,rfl, "dict_keyiterator",_,⟨_,ar _ rfl,rfl⟩,F.slot_dict_keyiterator_next.lookup,?_⟩));simpa[rawInt] using q
def Nz(j:s.heap.IsKeyIter it d i es.size ep)(x:sY s.heap d es ep) hi
  (q:∀e,e.IsKeyIter it d (i+1) es.size ep->Heap.SameBut it s.heap e->Q (some es[i].key) {s with heap:=e}):wpAny (model prog w) A (pyNext (.ref it)) Q E s:=by
 obtain⟨o,a,c,b⟩:=id j;obtain⟨l,g,m,h⟩:=id x;have f:Builtin.Dict_items.ownsTuple "dict_keyiterator" = false:=by decide
 unfold pyNext;refine ao (wpAny_attempt (wpAny_callSpecial?_slot j.typeIs F.slot_dict_keyiterator_next (wpAny_call_entry F.slot_dict_keyiterator_next j.typeIs F.entry_dict_keyiterator_next ?_ (F.args_dict_keyiterator_next_1 _))));refine ao (ak (ao (ao ?_)));first|refine ao (wpAny_typeNameOfWhole_keyiter j.typeIs (ak (ao (wpAny_fieldsOf a b ?_))))|refine ao (wpAny_typeNameOf_keyiter j.typeIs (ak (ao (wpAny_fieldsOf a b ?_))))
 simp only[f,cf,if_false];show wpAny _ _ (if (Value.ref d==Value.none)=true then _ else _) _ _ s;rw[aQ (λz=>nomatch z)];refine ao (ak (ao (wpAny_dictEntries g h ?_)));rw[aQ (by simp)];refine ao (ak (ao (wpAny_dictEpoch g h ?_)));rw[aQ (by simp)];refine ak ?_;simp only[show ¬(i<0) from by omega,if_false,bQ,Array.getElem?_eq_getElem hi];refine ao ?_;first|refine ao (wpAny_typeNameOfWhole_keyiter j.typeIs (ak (ao (wpAny_isOneOf_keyiter j.typeIs ?_))))|refine ao (wpAny_typeNameOf_keyiter j.typeIs (ak (ao (wpAny_isOneOf_keyiter j.typeIs ?_))))
 show wpAny _ _ (setField (.ref it) 1 (rawInt (i+1)) >>= λ_=>_) _ _ s;refine ao (wpAny_setField a b (by simp) ?_);have k:(s.heap.update it (Obj.mapFields (·.setIfInBounds 1 (rawInt (i+1))))).IsKeyIter it d (i+1) es.size ep:=⟨_,Heap.get?_update_self _ a (Obj.isFreed_of_fields (Obj.data_mapFields b _)),(Obj.cls_mapFields ..).trans c,by rw[Obj.data_mapFields b];simp[rawInt]⟩
 refine ao (wpAny_holding (ao (wpAny_isOneOf_keyiter k.typeIs ?_)));exact ak (ak ⟨_,rfl,ak (q _ k (Heap.SameBut.update ..))⟩)
def JX(k:A.handled=none)(j:s.heap.IsKeyIter it d es.size es.size ep)(x:sY s.heap d es ep)(q:∀h,Heap.ExtBut it s.heap h->Q none {s with heap:=h}) :
  wpAny (model prog w) A (pyNext (.ref it)) Q E s:=by
 obtain⟨o,a,c,b⟩:=id j;obtain⟨l,f,m,g⟩:=id x;have e:Builtin.Dict_items.ownsTuple "dict_keyiterator" = false:=by decide
 unfold pyNext;refine ao (wpAny_attempt (wpAny_callSpecial?_slot j.typeIs F.slot_dict_keyiterator_next (wpAny_call_entry F.slot_dict_keyiterator_next j.typeIs F.entry_dict_keyiterator_next ?_ (F.args_dict_keyiterator_next_1 _))));refine ao (ak (ao (ao ?_)));first|refine ao (wpAny_typeNameOfWhole_keyiter j.typeIs (ak (ao (wpAny_fieldsOf a b ?_))))|refine ao (wpAny_typeNameOf_keyiter j.typeIs (ak (ao (wpAny_fieldsOf a b ?_))))
 simp only[e,cf,if_false];show wpAny _ _ (if (Value.ref d==Value.none)=true then _ else _) _ _ s;rw[aQ (λz=>nomatch z)];refine ao (ak (ao (wpAny_dictEntries f g ?_)));rw[aQ (by simp)];refine ao (ak (ao (wpAny_dictEpoch f g ?_)));rw[aQ (by simp)];refine ak ?_;simp only[show ¬(es.size<0) from by omega,if_false,bQ,Array.getElem?_eq_none (aJ es.size)];refine ao ?_;first|refine ao (wpAny_typeNameOfWhole_keyiter j.typeIs (ak ?_))|refine ao (wpAny_typeNameOf_keyiter j.typeIs (ak ?_))
 show wpAny _ _ (setField (.ref it) 0 .none >>= λ_=>_) _ _ s;refine ao (wpAny_setField a b (by simp) ?_);refine ao ?_;simp only[newExc,newTuple];refine ao (wpAny_newObj_type ?_ (by size_fits));refine ao (wpAny_of_eq (by first|rfl|(simp only[firstArgMember];rfl)) ?_);refine wpAny_newObj_type ?_ (by size_fits);simp only[raiseNew];refine ao (wpAny_handled ?_);rw[show A.in1.handled=none from k];refine ao (ak (wpAny_throw ?_));refine ao (wpAny_isInstance ⟨_,ar _ rfl,rfl⟩ isSubtype_stop ?_);exact ak (q _ (((Heap.SameBut.update ..).extBut.push _).push _))
def Fy(g:A.handled=none) I d (ne:d≠I) es ep :
  Walks prog w A I [I,d] [I] es.size (λi v=>∃e,es[i]? = some e/\v=e.key) (λi h=>h.IsKeyIter I d i es.size ep/\sY h d es ep) where
 sub:=λb a=>by simp at a;simp[a]
 frame:=λ_ _ _ x k=>⟨x.1.at λo e=>k I (by simp) o e,x.2.to λo e=>k d (by simp) o e⟩
 item:=λi s Q E f x q=>Nz x.1 x.2 f λc j k=>q _ c s.toks ⟨es[i],by simp[f],rfl⟩ ⟨j,x.2.to λo e=>k.extBut d o ne e⟩ λb o a e=>k.extBut b o (λz=>a (by simp[z])) e
 done:=λs Q E x q=>JX g x.1 x.2 λc k=>q c s.toks λb o a e=>k b o (λz=>a (by simp[z])) e
 self:=λ_ _ _ _ x q=>wpAny_pyIter_keyiter x.1 q
def LW(b:(d==sysModules)=false):W.KdlSrc prog w "dict" d d es.size (λi v=>∃e,es[i]? = some e/\v=e.key) (λh=>sY h d es ep) where
 type:=λ_ x=>x.ty
 there:=λ_ x=>⟨x.lt,x.lt⟩
 keep:=λ_ _ x k=>x.to λo e=>k d (.inl rfl) o e
 notList:=by decide
 notTuple:=by decide
 hint:=λ_ _ _ _ x q=>W.kdl_hint_dict x.ty q
 iter:=λ_ _ a x=>⟨_,_,(λ_ _ q=>HL b x q),Fy a _ d (aL x.lt) es ep,⟨⟨_,ar _ rfl,rfl,rfl⟩,x.to λo e=>ae _ e⟩⟩
end
theorem qh:∀{xs} {us},xs.length=us.length->(∀(i:Nat) v,us[i]? = some v->∃x,xs[i]? = some x/\iH x v)->hW xs us
 |[],[],_,_=>.nil
 |x::xs,u::us,hl,h=>by obtain⟨b,e,r⟩:=h 0 u rfl;simp at e;subst e;exact .cons r (qh (by simpa using hl) λi v a=>by simpa using h (i+1) v (by simpa using a))
theorem tO{F:α->β->Prop}:∀{l:List α} {m:List β} {i:Nat} {a:α},Paired F l m->l[i]? = some a->∃b,m[i]? = some b/\F a b
 |_::_,_::_,0,_,.cons h _,e=>by simp at e;subst e;exact⟨_,rfl,h⟩
 |_::_,_::_,i+1,_,.cons _ r,e=>by simpa using tO r (by simpa using e)
section
variable {X:Cx}
theorem Dh(Y:X.calm=true):kg X (.type "list") (λxs H Q=>∃a c,xs=[.ref a]/\H a=some (.dT c)/\∀(l:Addr) (bs:List Addr),H l=none->bs.length=c.length->
  (∀(i:Nat) (b:Addr),bs[i]? = some b->∃k v,c[i]? = some (k,v)/\H b=some (.tup (k.map kV)))->Q (.ref l) (ju H l (.lst (bs.map V.ref)))):=by
 intro fT s σ H xs us Q I r h;obtain⟨a,c,rfl,e,q⟩:=h;obtain⟨u,rfl,rx⟩:=nI r;cases rx;obtain⟨z,R,j,E,o,A,K,ho,U,N,D,nd⟩:=(I.hok a _ e);have sz:A.size=j.length:=by rw[<-bA,D,aw]
 have x:=Paired.length E;refine W.kdl_call (LW R) (I.ok.hd Y) (⟨o,ho,U,N⟩:sY s.heap a A K) (by rw[sz,<-x];exact z) λZ tk d P L hl f=>?_;have B:∀(i:Nat) v,d[i]? = some v->∃y,j[i]? = some y/\v=.ref y.2.1:=λi v C=>by
  obtain⟨en,h1,h2⟩:=f.2 i v C;have n:A.toList[i]? = some en:=by simpa using h1
  rw[D,av]at n;cases g:j[i]? with
  |none=>rw[g]at n;cases n
  |some y=>rw[g]at n;cases n;exact⟨y,rfl,h2⟩
 have al:d.size=j.length:=by rw[<-sz];exact f.1
 have va:hW ((j.map λy=>y.2.1).map V.ref) d.toList:=by refine qh (by simp[al]) λi v C=>?_;obtain⟨y,p,J⟩:=B i v (by simpa using C);exact⟨.ref y.2.1,by simp[p],by rw[J];rfl⟩
 refine⟨.ref s.heap.objs.size,_,I.laid L (aJ _) (show kf X.prog X.w _ Z _ (.lst ((j.map λy=>y.2.1).map V.ref)) from ⟨by simp[<-x];exact z,d.toList,P,va,by simpa using hl⟩),rfl,q _ _ (I.hok.fresh (aJ _)) (by simp[x]) λi b m=>?_⟩;rw[av]at m;cases g:j[i]? with
 |none=>rw[g]at m;cases m
 |some y=>
  rw[g]at m;cases m;have F:i<c.length:=by rw[x];exact (aa.mp g).1
  obtain⟨y',p,J,S,e4⟩:=tO E (ag F);rw[g]at p;cases p;exact⟨_,_,ag F,S⟩
end
end L2
namespace L2
open PySem PySem.Spec PyProof.Rows
noncomputable def RX(K:W.Frag)(a:Addr)(n:Nat):It:=⟨λi H=>i<n/\∃b x,lC K H a b/\b.length=n/\b[n-1-i]? = some x,λi H x c=>c=H/\∀b,lC K H a b->b[n-1-i]? = some x,λi H=>i=n/\∃b,lC K H a b⟩
def HV{K:W.Frag} a it n:A8 P w K tg (RX K a n) [it] it (λi h=>h.IsRevIter it a ((n:Int)-1-i)) where
 mem:=by simp
 obj:=λi h f b g=>by
  obtain rfl:b=it:=by simpa using g
  obtain⟨o,e,c,d⟩:=f;exact⟨o,e,λv z=>by rw[d]at z;cases z⟩
 keep:=λi h Q f k=>f.at λo e=>k it (by simp) o e
 item:=by
  intro X B hw J N i Y s σ H E I l f F;subst B hw J;obtain⟨hi,U,x,m,hn,L⟩:=F;obtain⟨R,rv,p,hz⟩:=I.list m;obtain⟨u,hu,Z⟩:=rv.get L;obtain⟨q,C,f2,D,y,r⟩:=l it (by simp);have A:n-1-i=((n-1-i:Nat):Int):=by omega
  rw[A]at f;refine wpAny_pyNext_rev_item f p.isList (by simpa using hu) λQ j sb=>?_;have I1:=I.turned (t':=s.toks) (λb o g e=>(sb.2 b g).trans e) q C D y r;have e2:((n-1-i:Nat):Int)-1=n-1-((i+1):Int):=by omega
  rw[e2]at j;obtain⟨o,e,c,d⟩:=id j;exact⟨u,rfl,DU e c d (by decide) ⟨x,H,I1,Z,⟨rfl,λys hy=>by rw[I.list_inj hy m];exact L⟩,j,λb g=>(l b g).1⟩⟩
 done:=by
  intro X B hw J N i Y s σ H E I l f F;subst B hw J;obtain⟨rfl,U,m⟩:=F;obtain⟨q,C,f2,D,y,r⟩:=l it (by simp);have A:(i:Int)-1-i = -1:=by omega
  rw[A]at f;exact wpAny_pyNext_rev_end (I.ok.hd N) f λQ S=>⟨rfl,I.turned (λb o g e=>S b o g e) q C D y r⟩
 self:=λ_ _ _ _ _ f h=>wpAny_pyIter_revIter f h
section
variable {X:Cx}{tg:Expr}
def NU(K:W.Frag)(d:TA):TI:=λe H R=>d e H λc a=>∃l b,c=[.ref l]/\lC K a l b/\R (RX K l b.length) a
def LZ(z:Gl X "reversed")(j:X.mg "reversed" = none)(A:PA X [a] ta)(m:starEach [a] X.env=[(false,eval a X.env)]:=by rfl) :
  PI X tg (.Call (.Name "reversed" p) [a] [] pos) (NU X.K ta):=by
 intro f s i H R I h;refine Call_ (oP I z j (by decide +kernel:bootBuiltins "reversed" = some (.type "reversed")) (PyProof.Rows.callWith_type1 (jU (A pos f s i H _ I h) λus s1 ⟨vs,H1,I1,r1,q1⟩=>?_) m rfl));obtain⟨l,d,rfl,k,q⟩:=q1;obtain⟨u,rfl,x⟩:=nI r1;cases x;obtain⟨c,v,w,B⟩:=I1.list k;have y:=v.length;refine call_reversed_list w.isList ?_;have r:gJ X f i H1 {s1 with heap:=s1.heap.push (revObj l (c.toArray.size-1))}:=I1.kept λb o e=>ae _ e;have g:(s1.heap.push (revObj l (c.toArray.size-1))).IsRevIter s1.heap.objs.size l (d.length-1-(0:Int)):=⟨_,ar _ rfl,rfl,by simp[revObj,y]⟩;refine wpAny_pyIter_revIter g ?_;refine⟨s1.heap.objs.size,[s1.heap.objs.size],_,_,H1,rfl,r,HV l _ d.length,g,λb n=>?_,q⟩;obtain rfl:b=s1.heap.objs.size:=by simpa using n
 exact I1.fpOk (aJ _) (I1.hok.fresh (aJ _))
end
end L2
namespace L2
open PySem PySem.Spec PyProof.Rows
abbrev Rw(h:Heap)(e it:Addr)(i:Int)(item:Vq)(a:Addr)(f:Bool):Prop:=h.get? e=some {cls:=.type "enumerate",dict:=none,data:=.fields #[rawInt a,.bool f,.ref it,rawInt i,.none,item],slots:=#[]}
section
variable {prog:Program}{w:World}{A:Around}{E:Vq->Shared->Prop}{s:Shared}
theorem BX{i:Nat}{Q:Vq->Shared->Prop}(J:Rw s.heap e it i old a f)(ha:s.heap.get? a=some oa)(I:a≠e)(S:a≠it)(hi:kR b s.heap it l i)(hl:iZ b s.heap l xs)(k:e≠it)
  (y:∀x h,xs[i]? = some x->Rw h e it ((i:Int)+1) old a true->kR b h it l (i+1)->h.get? s.heap.objs.size=some {cls:=.type "tuple",data:=.seq #[.int i s.toks,x]}->h.objs.size=s.heap.objs.size+1->
   (∀c o,c≠e->c≠it->s.heap.get? c=some o->h.get? c=some o)->Q (.ref s.heap.objs.size) {s with heap:=h,toks:=s.toks+1})
  (no:xs[i]? = none->A.handled=none/\∀h x,Heap.ExtBut it s.heap h->(∃o,h.get? x=some o/\o.cls=.type "StopIteration")->E (.ref x) {s with heap:=h}) :
  wpAny (model prog w) A (Builtin.«enumerate.__next__» ⟨[.ref e],[]⟩) (λR s'=>∃v,R=.done (.ret v)/\Q v s') E s:=by
 obtain⟨U,g,d,j,L⟩:=s;show wpAny _ _ (field (.ref e) 2 >>= λ_=>_) _ _ _;refine ao (wpAny_field J rfl rfl (ao (sM hi hl (λx H X Y k1=>?_) no)));have r:=k1;have N:=(r.2 e k).trans J;show wpAny _ _ (field (.ref e) 3 >>= λ_=>_) _ _ ⟨H,g,d,j,L⟩;refine ao (wpAny_field N rfl rfl ?_);show wpAny _ _ (field (.ref e) 4 >>= λ_=>_) _ _ ⟨H,g,d,j,L⟩;refine ao (wpAny_field N rfl rfl ?_);show wpAny _ _ (mkInt i >>= λ_=>_) _ _ ⟨H,g,d,j,L⟩;refine ao (wpAny_mkInt (ao (wpAny_setField_rec N (by simp) λg2 y2 P=>?_)));have z2:=y2;refine ao (wpAny_setField_rec z2 (by simp) λn y3 K=>?_);have z3:=y3;refine ao (wpAny_newTuple ?_);have sz:n.objs.size=U.objs.size:=by have a:=K.1;have c:=P.1;have u:=r.1;dsimp only at a c u;omega
 have F:Rw (n.push {cls:=.type "tuple",data:=.seq #[.int i j,x]}) e it ((i:Int)+1) old a f:=ae _ z3;have el:=aK J;have B:∀c o,c≠e->c≠it->U.get? c=some o->n.get? c=some o:=λc o p D q=>K.extBut c o p (P.extBut c o p (r.extBut c o D q));have a4:(n.push {cls:=.type "tuple",data:=.seq #[.int i j,x]}).get? a=some oa:=ae _ (B a oa I S ha);have tp:(n.push {cls:=.type "tuple",data:=.seq #[.int i j,x]}).get? n.objs.size=some {cls:=.type "tuple",data:=.seq #[.int i j,x]}:=ar _ rfl;have up:∀c o,c≠e->c≠it->U.get? c=some o->(n.push {cls:=.type "tuple",data:=.seq #[.int i j,x]}).get? c=some o:=λc o p D q=>ae _ (B c o p D q);have Z:∀o,H.get? it=some o->(n.push {cls:=.type "tuple",data:=.seq #[.int i j,x]}).get? it=some o:=λo q=>ae _ (K.extBut it o (Ne.symm k) (P.extBut it o (Ne.symm k) q));show wpAny _ _ (Builtin.SmallTypes.ownedTupleIsFree (.ref e) >>= λ_=>_) _ _ _;unfold Builtin.SmallTypes.ownedTupleIsFree;refine ao (ao (wpAny_field F rfl rfl ?_));show wpAny _ _ (loadIfAlive ((a:Int).toNat) >>= λ_=>_) _ _ _;rw[bQ];refine ao (W.kdx_alive a4 ?_);simp only[Option.isNone_some,cf,if_false];refine ao (wpAny_field F rfl (x:=.bool f) rfl ?_);cases f with
 |true=>rw[aQ (λz=>nomatch z)];refine ak ?_;simp only[cf,if_false];refine ak ⟨_,rfl,?_⟩;rw[sz]at tp ⊢;exact y x _ X F (Y.to Z) tp (by rw[Heap.size_push,sz]) up
 |false=>rw[aP (show (Value.bool false != Value.bool true)=true from rfl)];refine ao (wpAny_setField_rec F (by simp) λg5 y5 k5=>?_);have z5:=y5;have m:=k5;refine ak ?_;simp only[cf,if_false];refine ak ⟨_,rfl,?_⟩;have C:=m.extBut _ _ (by rw[sz];exact bB el) tp;rw[sz]at C ⊢;exact y x g5 X z5 (Y.to λo q=>m.extBut it o (Ne.symm k) (Z o q)) C (by rw[m.1,Heap.size_push,sz]) λc o p D q=>m.extBut c o p (up c o p D q)
def Fc(h:Heap)(e it:Addr)(i:Nat):Prop:=(i=0/\∃b,IsEnum h e it 0 b)\/∃b a f c,Rw h e it i b a f/\h.get? a=some c/\a≠e/\a≠it
def Fc.keep(x:Fc h e it i)(v:∀o,h.get? S=some o->o.cls=.type "list")(d:∀b o,b≠S->h.get? b=some o->h'.get? b=some o)(j:∀o,h.get? S=some o->∃g,h'.get? S=some g)(l:e≠S):Fc h' e it i:=by
 rcases x with⟨z,c,q⟩|⟨c,a,f,n,q,u,r,p⟩
 .exact .inl ⟨z,c,d _ _ l q⟩
 .by_cases m:a=S
  .subst m;obtain⟨g,k⟩:=j n u;exact .inr ⟨c,a,f,g,d _ _ l q,k,r,p⟩
  .exact .inr ⟨c,a,f,n,d _ _ l q,d _ _ m u,r,p⟩
def vP(st:Fc s.heap e it i)(I:kR b s.heap it l i)(J:iZ b s.heap l xs)(j:e≠it)(p:e<s.heap.objs.size)(D:it<s.heap.objs.size)
  (h:∀x d,xs[i]? = some x->Fc d e it (i+1)->kR b d it l (i+1)->d.get? s.heap.objs.size=some {cls:=.type "tuple",data:=.seq #[.int i s.toks,x]}->d.objs.size=s.heap.objs.size+1->
   (∀c o,c≠e->c≠it->s.heap.get? c=some o->d.get? c=some o)->Q (some (.ref s.heap.objs.size)) {s with heap:=d,toks:=s.toks+1})
  (z:xs[i]? = none->A.handled=none/\∀d,Heap.ExtBut it s.heap d->Q none {s with heap:=d}):wpAny (model prog w) A (pyNext (.ref e)) Q E s:=by
 rcases st with⟨rfl,g,k⟩|⟨g,a,f,H,k,K,y,B⟩
 .exact uc k I J j (λx d u v C m r n=>h x d u (.inr ⟨x,_,false,_,by simpa using v,m,bB p,bB D⟩) C m r n) z
 .have ty:s.TypeIs (.ref e) "enumerate" :=⟨_,k,rfl⟩;unfold pyNext;refine ao (wpAny_attempt (wpAny_callSpecial?_slot ty F.slot_enumerate_next (wpAny_call_entry F.slot_enumerate_next ty F.entry_enumerate_next
   (BX k K y B I J j (λx d u v C m r n=>ak (h x d u (.inr ⟨g,a,true,H,by simpa using v,n a H y B K,y,B⟩) C m r n)) λq=>⟨(z q).1,λd x hk ⟨o,ho,hc⟩=>?_⟩) (F.args_enumerate_next_1 _))))
  exact ao (wpAny_isInstance ⟨o,ho,hc⟩ isSubtype_stop (ak ((z q).2 d hk)))
def E3:typeLookup (.type "enumerate") "__len__" = pure none:=by rw[typeLookup_type,builtinLookup_eq_fast];kernel_rfl
def BF:typeLookup (.type "enumerate") "__length_hint__" = pure none:=by rw[typeLookup_type,builtinLookup_eq_fast];kernel_rfl
def RM(us:List Vq)(b:Addr)(h:Heap)(as:List Addr):Prop:=∀(j:Nat) (a:Addr),as[j]? = some a->b<a/\∃t x,us[j]? = some x/\h.get? a=some {cls:=.type "tuple",data:=.seq #[.int j t,x]}
section
variable {R:Result->Shared->Prop}{us:List Vq}{b:Bool}
theorem Lg{S e it l:Addr}(hh:A.handled=none)(Y:e≠S)(N:it≠S)(hlS:l≠S)(hle:l≠e)(hli:l≠it)(X:e≠it)(hn:us.length<=sizeLine)(res:Vq){H:Heap}(D:e<H.objs.size/\it<H.objs.size/\S<H.objs.size)
  (hR:∀v J d c as,(∀c o,c≠S->c≠e->c≠it->H.get? c=some o->v.get? c=some o)->v.get? S=some {cls:=.type "list",dict:=none,data:=.seq d c,slots:=#[]}->as.length=us.length->(∀a∈as,H.objs.size<=a)->RM us 0 v as->
   d.toList=as.map Value.ref->R (.ok (.ret res)) {s with heap:=v,toks:=J}) :
  ∀(k i:Nat) (h:Heap) (J c:Nat) (d:Array Vq) (as:List Addr),us.length-i=k->i<=us.length->Fc h e it i->kR b h it l i->iZ b h l us.toArray->(∀c o,c≠S->c≠e->c≠it->H.get? c=some o->h.get? c=some o)->H.objs.size<=h.objs.size->
   h.get? S=some {cls:=.type "list",dict:=none,data:=.seq d c,slots:=#[]}->d.toList=as.map Value.ref->as.length=i->(∀a∈as,H.objs.size<=a)->RM us 0 h as->
   codeAny (model prog w) A (.builtin "list.extend.loop" ⟨[.ref S,.ref e,res],[]⟩) R {s with heap:=h,toks:=J}:=by
 intro k;induction k with
 |zero=>
  intro i h J c d as hk hi K L I g f hS m p u hG;refine codeAny_builtin PySem.F.entry_extend_loop ?_;rw[Around.under_plainId PySem.F.plain_extend_loop _];show wpAny _ A.in1 (pyNext (.ref e) >>= λ_=>_) _ _ _;refine ao (vP K L I X (aD D.1 f) (aD D.2.1 f) (λx v hx=>?_) λ_=>⟨hh,λv ex=>?_⟩)
  .have:us[i]? = none:=List.getElem?_eq_none (by omega);have Q:us[i]? = some x:=by simpa using hx
   rw[this]at Q;cases Q
  .refine ak (hR v J d c as (λc o q1 q2 Z e=>ex c o Z (g c o q1 q2 Z e)) (ex S _ (Ne.symm N) hS) (by omega) u (λj a B=>?_) m);obtain⟨y,t,x,e1,e2⟩:=hG j a B;have C:=u a (au B);exact⟨y,t,x,e1,ex a _ (bB (aD D.2.1 C)) e2⟩
 |succ k ih=>
  intro i h J c d as hk hi K L I g f hS m p u hG;have r:d.size=i:=by rw[<-bA,m,aw,p]
  refine codeAny_builtin PySem.F.entry_extend_loop ?_;rw[Around.under_plainId PySem.F.plain_extend_loop _];show wpAny _ A.in1 (pyNext (.ref e) >>= λ_=>_) _ _ _;refine ao (vP K L I X (aD D.1 f) (aD D.2.1 f) (λx v hx st' it' ht hz n=>?_) λq=>?_)
  .dsimp only at ht hz n ⊢;have z:=n S _ (Ne.symm Y) (Ne.symm N) hS;have up:∀c o,c≠S->v.get? c=some o->(v.update S (Obj.mapSeq (·.push (Value.ref h.objs.size)))).get? c=some o:=λc o C e=>(Heap.get?_update_other _ _ (Ne.symm C)).trans e;have U:=aD D.2.2 f;refine ao (wpAny_updateSeq z rfl (ak ⟨plainId_quiet PySem.F.plain_extend_loop _,ih (i+1) _ (J+1) _ (d.push (Value.ref h.objs.size)) (as++[h.objs.size]) (by omega) (by omega)
    (st'.keep (λo ho=>by rw[z]at ho;cases ho;rfl) up (λo ho=>⟨_,Heap.get?_update_self _ z rfl⟩) Y) (it'.to λo q=>up it o N q) (I.to λo q=>up l o hlS (n l o hle hli q))
    (λc o q1 q2 Z e=>up c o q1 (n c o q2 Z (g c o q1 q2 Z e))) (by rw[Heap.size_update];show H.objs.size<=v.objs.size;omega) (Heap.get?_update_self _ z rfl) (by rw[Array.toList_push,m,aY];rfl) (by rw[aS,p];rfl) (λa P=>?_) (λj a B=>?_)⟩) (by rw[r];omega) (by rw[Array.size_push,r];omega))
   .rcases ai.mp P with P|P
    .exact u a P
    .rw[aj.mp P];exact f
   .rcases cD j as.length with q|q|q
    .rw[List.getElem?_append_left q]at B;obtain⟨y,t,x',e1,e2⟩:=hG j a B;have C:=u a (au B);have n1:=bB (aD D.2.2 C);have n2:=bB (aD D.1 C);have n3:=bB (aD D.2.1 C);exact⟨y,t,x',e1,up a _ n1 (n a _ n2 n3 e2)⟩
    .subst q;have C:h.objs.size=a:=by simpa using B
     subst C;refine⟨b8 (bJ _) U,J,x,by rw[p];simpa using hx,?_⟩;rw[p];exact up _ _ (bB U) ht
    .have Rh:(as++[h.objs.size])[j]? = none:=List.getElem?_eq_none (by rw[aS,bZ];omega);rw[Rh]at B;cases B
  .exfalso;have:i<us.length:=by omega
   simp[this]at q
def CC(hh:A.handled=none)(P:IsEnum s.heap e it 0 .none)(hi:kR b s.heap it l 0)(hl:iZ b s.heap l us.toArray)(Y:l≠e)(U:l≠it)(X:e≠it)(hn:us.length<=sizeLine)(D:it<s.heap.objs.size)(hll:l<s.heap.objs.size)
  (q:∀m N d c as,(∀c o,c≠e->c≠it->s.heap.get? c=some o->m.get? c=some o)->m.get? s.heap.objs.size=some {cls:=.type "list",dict:=none,data:=.seq d c,slots:=#[]}->as.length=us.length->(∀a∈as,s.heap.objs.size<a)->RM us 0 m as->
   d.toList=as.map Value.ref->Q (.ref s.heap.objs.size) {s with heap:=m,toks:=N}):wpAny (model prog w) A (call (.type "list") [.ref e]) Q E s:=by
 have u:=aK P;refine callType_codes (Q₁:=λx i=>x=.ref s.heap.objs.size/\i={s with heap:=s.heap.push {cls:=.type "list",data:=.seq #[]}}) PySem.F.called_list (PySem.F.typeCall_list_1 _) PySem.F.entry_list_init
  (code_list_new _ ⟨rfl,rfl⟩) λx i p=>?_
 obtain⟨rfl,rfl⟩:=p;generalize g:s.heap.objs.size=S at *;have I:(s.heap.push {cls:=.type "list",data:=.seq #[]}).get? S=some {cls:=.type "list",data:=.seq #[]}:=by rw[<-g];exact ar _ rfl
 have kp:∀c o,s.heap.get? c=some o->(s.heap.push {cls:=.type "list",data:=.seq #[]}).get? c=some o:=λc o z=>ae _ z;refine⟨⟨_,I,rfl⟩,PySem.F.args_list_init_2 _ _,?_⟩;show wpAny _ _ (do let old <-Builtin.List.listItems (.ref S);Builtin.List.listUpdate (.ref S) (λ_=>#[]);letGo old.toList.reverse;Builtin.List.listExtendWith (.ref S) (.ref e) .none) _ _ {s with heap:=s.heap.push {cls:=.type "list",data:=.seq #[]}};refine ao ?_;unfold Builtin.List.listItems;refine ao (wpAny_seqItems I rfl (ak ?_));refine ao (wpAny_updateSeq I rfl ?_);have n:=Heap.get?_update_self (Obj.mapSeq (λ_=>(#[]))) I rfl;have k2:∀c o,c≠S->s.heap.get? c=some o->((s.heap.push {cls:=.type "list",data:=.seq #[]}).update S (Obj.mapSeq (λ_=>(#[])))).get? c=some o:=λc o y z=>(Heap.get?_update_other _ _ (Ne.symm y)).trans (kp c o z);refine ao (wpAny_letGo ?_);have h:=aL u;have H:=aL D;have C:=aL hll;have r:=k2 e _ h P;unfold Builtin.List.listExtendWith;have k:Shared.TypeIs {s with heap:=(s.heap.push {cls:=.type "list",data:=.seq #[]}).update S (Obj.mapSeq (λ_=>(#[])))} (.ref e) "enumerate" :=⟨_,r,rfl⟩;refine ao (wpAny_typeOf k ?_);have g1:Builtin.List.listSameRef (.ref S) (.ref e)=false:=by simp[Builtin.List.listSameRef,Ne.symm h]
 have g2:(Value.type "enumerate" == Value.type "list")=false:=by decide
 have g3:(Value.type "enumerate" == Value.type "tuple")=false:=by decide
 simp only[g1,g2,g3,Bool.or_false,cf,if_false];refine ao (wpAny_pyIter_enum r ?_);refine ao (wpAny_holding ?_);unfold Builtin.List.listLengthHint;refine ao (wpAny_specialOf k E3 ?_);refine ao (wpAny_specialOf k BF ?_);refine ak ?_;refine ao (wpAny_rule (ao ?_));refine ao (wpAny_updateSeq n rfl ?_);have v:=Heap.get?_update_self (Obj.mapSeq (·.push Value.none)) n rfl;refine wpAny_updateSeq v rfl ?_;have L:=Heap.get?_update_self (Obj.mapSeq (·.pop)) v rfl;have J:∀c o,c≠S->s.heap.get? c=some o->((((s.heap.push {cls:=.type "list",data:=.seq #[]}).update S (Obj.mapSeq (λ_=>(#[])))).update S (Obj.mapSeq (·.push Value.none))).update S (Obj.mapSeq (·.pop))).get? c=some o:=λc o y z=>(Heap.get?_update_other _ _ (Ne.symm y)).trans ((Heap.get?_update_other _ _ (Ne.symm y)).trans (k2 c o y z))
 have f:((((s.heap.push {cls:=.type "list",data:=.seq #[]}).update S (Obj.mapSeq (λ_=>(#[])))).update S (Obj.mapSeq (·.push Value.none))).update S (Obj.mapSeq (·.pop))).objs.size=S+1:=by rw[Heap.size_update,Heap.size_update,Heap.size_update,Heap.size_push,g]
 refine ak ⟨plainId_quiet PySem.F.plain_extend_loop _,?_⟩;generalize hh4:((((s.heap.push {cls:=.type "list",data:=.seq #[]}).update S (Obj.mapSeq (λ_=>(#[])))).update S (Obj.mapSeq (·.push Value.none))).update S (Obj.mapSeq (·.pop)))=h4 at *;refine Lg (A:=A.in1) hh h H C Y U X hn .none ⟨by rw[f];exact ck u,by rw[f];exact ck D,by rw[f];exact bI _⟩ (λm N d c as kk K e1 e2 e3 e4=>⟨rfl,?_⟩)
  us.length 0 h4 _ _ #[] [] (Nat.sub_zero _) (bJ _) (.inl ⟨rfl,_,J e _ h P⟩) (hi.to λo z=>J it o H z) (hl.to λo z=>J l o C z) (λ_ _ _ _ _ z=>z) (aJ _) L rfl rfl (λa Z=>nomatch Z) (λj a hj=>by simp at hj)
 exact q m N d c as (λc o z1 z2 B=>kk c o (λzz=>by rw[zz]at B;exact absurd (aK B) (by rw[g];exact aZ _)) z1 z2 (J c o (λzz=>by rw[zz]at B;exact absurd (aK B) (by rw[g];exact aZ _)) B)) K e1 (λa Z=>by have:=e2 a Z;rw[f]at this;omega) e3 e4
end
end
end L2
namespace L2
open PySem PySem.Spec PyProof.Rows
section
variable {X:Cx}
theorem wW(n:hW xs us)(e:2<=sizeLine):∀(as:List Addr) (j:Nat) (H:Hp),gJ X fT σ H s->(∀a∈as,sI X fT H a)->as.Nodup->
  (∀i a,as[i]? = some a->∃t x,us[j+i]? = some x/\s.heap.get? a=some {cls:=.type "tuple",data:=.seq #[.int ((j+i:Nat):Int) t,x]})->
  ∃d,gJ X fT σ d s/\gL H d/\(∀a,a∉as->d a=H a)/\∀i a,as[i]? = some a->∃x,xs[j+i]? = some x/\d a=some (.tup [.int ((j+i:Nat):Int),x])
 |[],j,H,I,_,_,_=>⟨H,I,.refl _,λ_ _=>rfl,λi a h=>by simp at h⟩
 |a::as,j,H,I,hf,nd,hg=>by
  obtain⟨t,u,o,F⟩:=hg 0 a rfl;obtain⟨p,K,R,L,E,C⟩:=hf a (by simp);have D:j+0<xs.length:=by rw[n.length];exact (aa.mp o).1
  have q:=ag D;obtain⟨Q,r,A⟩:=n.get q;rw[o]at r;cases r;have J:gJ X fT σ (ju H a (.tup [.int ((j+0):Int),xs[j+0]])) s:=I.track p L K E C ⟨e,[.int ((j+0):Int) t,u],.cons ⟨_,rfl⟩ (.cons A .nil),⟨_,F,rfl,_,rfl,rfl⟩⟩;obtain⟨k,l⟩:=bM.mp nd;obtain⟨d,y,v,w,B⟩:=wW n e as (j+1) _ J (λb c=>by obtain⟨g0,N⟩:=hf b (by simp[c]);have ne:b≠a:=λz=>k (z▸c);exact⟨by rw[gA ne];exact g0,N⟩) l (λi b c=>by obtain⟨P,m,f,g⟩:=hg (i+1) b (by simpa using c);rw[show j+(i+1)=j+1+i by omega]at f g;exact⟨P,m,f,g⟩)
  refine⟨d,y,(mY p).trans v,λb c=>?_,λi b c=>?_⟩
  .rw[w b (λz=>c (by simp[z])),gA (λz=>c (by simp[z]))]
  .cases i with
   |zero=>simp at c;subst c;exact⟨_,q,v _ _ gB⟩
   |succ i=>obtain⟨m,f,g⟩:=B i b (by simpa using c);rw[show j+1+i=j+(i+1) by omega]at f g;exact⟨m,f,g⟩
def RE(K:W.Frag)(g:TA):TE:=λh H Q=>g h H λf c=>∃b l e,f=[.ref l]/\uP K c b l e/\∀(p:Addr) (as:List Addr) (d:Hp),gL c d->c p=none->d p=some (.lst (as.map V.ref))->as.length=e.length->
 (∀(i:Nat) (a:Addr),as[i]? = some a->c a=none/\a≠p/\∃x,e[i]? = some x/\d a=some (.tup [.int (i:Int),x]))->Q (.ref p) d
def Ia(hc:X.calm=true)(hg:Gl X "list")(p:X.mg "list" = none)(P:Gl X "enumerate")(L:X.mg "enumerate" = none)(f:PA X [a] ta)(hs:starEach [a] X.env=[(false,eval a X.env)]:=by rfl)
  (he:starEach [Expr.Call (.Name "enumerate" p2) [a] [] pos2] X.env=[(false,eval (.Call (.Name "enumerate" p2) [a] [] pos2) X.env)]:=by rfl) :
  PE X (.Call (.Name "list" p1) [.Call (.Name "enumerate" p2) [a] [] pos2] [] pos) (RE X.K ta):=by
 intro R s σ H Q I h;refine wpAny_Call_Name_kw (oP I hg p (by decide +kernel:bootBuiltins "list" = some (.type "list")) ?_);refine PyProof.Rows.callWith_type1 ?_ he rfl;rw[he];refine Calls.spliced_cons (Call_ (oP I P L boot_enumerate (PyProof.Rows.callWith_type1 (jU (f pos2 R s σ H _ I h) λus s1 ⟨vs,H1,I1,r1,q1⟩=>?_) hs rfl)));obtain⟨b,l,xs,rfl,hq,q⟩:=q1;obtain⟨u,rfl,rx⟩:=nI r1;cases rx;obtain⟨us,rv,k,hz⟩:=I1.seqB hq;refine yj k λm F S d hk=>Calls.spliced_nil ?_;have N:l<s1.heap.objs.size:=by obtain⟨o,n,e,_⟩:=k.look;exact aK e
 have Z:=rv.length;refine CC (I1.ok.hd hc) F S (k.to λo e=>hk l o e) (aL (ck N)) (aL N) (Nat.succ_ne_self _) (by rw[<-Z];exact hz) (by show _<m.objs.size;rw[d];omega) (by rw[d];exact aD N (cq _ _)) λh2 tk r c as k2 hS A w J B=>?_;have kk:∀b o,s1.heap.get? b=some o->h2.get? b=some o:=λb o e=>by have lt:=aK e;exact k2 b o (aL (ck lt)) (aL lt) (hk b o e)
 have I2:=I1.kept (t':=tk) kk;have fp:∀b,s1.heap.objs.size<=b->sI X R H1 b:=λb hb=>I1.fpOk hb (I1.hok.fresh hb);have g:∀a∈as,s1.heap.objs.size<=a:=λa f=>by have:=w a f;rw[d]at this;omega
 have nd:as.Nodup:=by refine cE.mpr λi j C hj hij e=>?_;obtain⟨_,t1,x1,_,g1⟩:=J i _ (ag C);obtain⟨_,t2,x2,_,g2⟩:=J j _ (ag hj);rw[e,g2]at g1;simp at g1;omega
 obtain⟨H',I3,s3,o3,g3⟩:=wW rv (by decide) as 0 H1 I2 (λa f=>fp a (g a f)) nd (λi a f=>by obtain⟨_,t,x,E,D⟩:=J i a f;rw[aF];exact⟨t,x,E,D⟩)
 have Y:m.objs.size∉as:=λp=>aZ _ (w _ p);have U:H1 m.objs.size=none:=I1.hok.fresh (by rw[d];omega);obtain⟨f0,f1,f2,f3,f4,f5⟩:=fp m.objs.size (by rw[d];omega);have va:hW (as.map V.ref) r.toList:=by
  rw[B];refine qh (by simp) λi v y=>?_;rw[av]at y ⊢;cases C:as[i]? with
  |none=>rw[C]at y;cases y
  |some a'=>rw[C]at y;cases y;exact⟨_,rfl,rfl⟩
 have I4:gJ X R σ (ju H' m.objs.size (.lst (as.map V.ref))) {s1 with heap:=h2,toks:=tk}:=I3.track (by rw[o3 _ Y];exact f0) f3 f1 f4 f5 ⟨by rw[aw,A,<-Z];exact hz,r.toList,c,va,by simpa using hS⟩;refine⟨.ref m.objs.size,_,I4,rfl,q _ as _ (s3.trans (mY (by rw[o3 _ Y];exact f0))) U gB (by rw[A,Z]) λi a f=>?_⟩;have p:=au f;have ne:a≠m.objs.size:=λz=>Y (z▸p);obtain⟨x,E,D⟩:=g3 i a f;rw[aF]at E D;exact⟨I1.hok.fresh (g a p),ne,x,E,by rw[gA ne];exact D⟩
end
end L2
namespace L2.Sp
open PySem PySem.SetTable
end L2.Sp
namespace L2.Sp
open PySem PySem.SetTable
end L2.Sp
namespace L2.Sp
open PySem PySem.SetTable
end L2.Sp
namespace L2.Sp
open PySem PySem.SetTable
end L2.Sp
namespace L2.Sp
open PySem PySem.SetTable PyProof.Rows
end L2.Sp
namespace L2.Sp
open PySem PySem.SetTable PyProof.Rows
end L2.Sp
namespace L2.Sp
open PySem PySem.SetTable PyProof.Rows
end L2.Sp
namespace L2.Sp
open PySem PySem.SetTable PyProof.Rows
end L2.Sp
namespace L2.Sp
open PySem PySem.SetTable PyProof.Rows
end L2.Sp
namespace Cu
noncomputable def G(a b:Int):Int:=(Int.gcd a b:Nat)
def yY a b:G b (Int.fmod a b)=G a b:=by
 unfold G;have e:=Int.fmod_def a b;rw[e];congr 1;apply Nat.dvd_antisymm
 .apply Int.dvd_gcd
  .have g:=cF b (a-b*Int.fdiv a b);have h:=cG b (a-b*Int.fdiv a b);have d:=Int.dvd_add h (cH (c:=Int.fdiv a b) g);have f:a-b*Int.fdiv a b+b*Int.fdiv a b=a:=by omega
   rw[f]at d;exact d
  .exact cF b _
 .apply Int.dvd_gcd
  .exact cG a b
  .exact Int.dvd_sub (cF a b) (cH (cG a b))
def yq a b (h:b≠0):(Int.fmod a b).natAbs<b.natAbs:=by
 rcases Int.lt_or_gt_of_ne h with c|c
 .have d:=cI (-a) (show 0 < -b by omega);have e:=cJ (-a) (show 0 < -b by omega);rw[Int.neg_fmod_neg]at d e;omega
 .have d:=cI a c;have e:=cJ a c;omega
def PR a b:G (a.natAbs:Int) (b.natAbs:Int)=G a b:=by unfold G Int.gcd;rw[cK,cK]
def Ct a:G a 0=(a.natAbs:Int):=by unfold G;rw[Int.gcd_zero_right]
def vF a b:0<=G a b:=Int.natCast_nonneg _
def Jr a b (h:b≠0):0<G a b:=by have:=cL a h;unfold G;omega
def ni a b:G a b ∣ a:=cF a b
def lD a b:G a b ∣ b:=cG a b
def MY a b (h:b≠0):G a b<=(b.natAbs:Int):=by have:=cN.mpr (lD a b);have c:=Nat.le_of_dvd (by omega) this;have:=vF a b;omega
structure Qo(t b p q:Int):Prop where
 pos:0<q
 one:G p q=1
 is:p*b=t*q
def wY(i:b≠0)(l:g≠0)(f:g=G t b\/g = - G t b)(j:0<q)(d:t=g*p)(a:b=g*q):Qo t b p q:=by
 refine⟨j,?_,?_⟩
 .have c:Int.gcd t b=g.natAbs*Int.gcd p q:=by rw[d,a,Int.gcd_mul_left]
  have k:g.natAbs=Int.gcd t b:=by unfold G at f;omega
  rw[k]at c;have e:=cL t i;have h:Int.gcd p q=1:=by
   have:Int.gcd t b*1=Int.gcd t b*Int.gcd p q:=by rw[<-c,Nat.mul_one]
   exact (cO e this).symm
  unfold G;rw[h];rfl
 .have:p*(g*q)=g*p*q:=by rw[<-cP,cQ p g]
  rw[<-a,<-d]at this;exact this
def nM g p (a:g≠0):Int.fdiv (g*p) g=p:=by exact cR p a
def AN t b (g:b≠0):Qo t b (Int.fdiv t (if b<0 then-G t b else G t b)) (Int.fdiv b (if b<0 then-G t b else G t b)):=by
 have k:=Jr t b g;obtain⟨p,i⟩:=ni t b;obtain⟨q,d⟩:=lD t b;by_cases h:b<0
 .rw[aP h];have j:t=(-G t b)*(-p):=by rw[Int.neg_mul_neg];exact i
  have c:b=(-G t b)*(-q):=by rw[Int.neg_mul_neg];exact d
  have e:Int.fdiv t (-G t b) = -p:=by have:=nM (-G t b) (-p) (by omega);rw[<-j]at this;exact this
  have f:Int.fdiv b (-G t b) = -q:=by have:=nM (-G t b) (-q) (by omega);rw[<-c]at this;exact this
  rw[e,f];refine wY g (by omega) (Or.inr rfl) ?_ j c;by_cases a:0 < -q
  .exact a
  .exfalso;have:0<=q:=by omega
   have:=aO (az k) this;omega
 .rw[aQ h];have e:Int.fdiv t (G t b)=p:=by have:=nM (G t b) p (by omega);rw[<-i]at this;exact this
  have f:Int.fdiv b (G t b)=q:=by have:=nM (G t b) q (by omega);rw[<-d]at this;exact this
  rw[e,f];refine wY g (by omega) (Or.inl rfl) ?_ i d;by_cases a:0<q
  .exact a
  .exfalso;have:0<=-q:=by omega
   have:=aO (az k) this;rw[cS]at this;omega
def IA(r:b≠0)(d:b'≠0)(h:Qo t b p q)(c:Qo t' b' p' q')(e:t*b'=t'*b):p=p'/\q=q':=by
 have f:p*q'=p'*q:=by
  have s:(p*q')*(b*b')=(p'*q)*(b*b'):=by
   have m:(p*q')*(b*b')=(p*b)*(q'*b'):=by ac_rfl
   have u:(p'*q)*(b*b')=(p'*b')*(q*b):=by ac_rfl
   have n:(t*q)*(q'*b')=(t*b')*(q*q'):=by ac_rfl
   have g:(t'*q')*(q*b)=(t'*b)*(q*q'):=by ac_rfl
   rw[m,u,h.is,c.is,n,g,e]
  exact cT (cU r d) s
 have k:Int.gcd q p=1:=by have:=h.one;unfold G at this;rw[cV];omega
 have l:Int.gcd q' p'=1:=by have:=c.one;unfold G at this;rw[cV];omega
 have o:q ∣ q':=by have:q ∣ p*q':=⟨p',by rw[f,cQ]⟩;have a:=cW.mpr this;rw[k]at a;simpa using a
 have j:q' ∣ q:=by have:q' ∣ p'*q:=⟨p,by rw[<-f,cQ]⟩;have a:=cW.mpr this;rw[l]at a;simpa using a
 have i:=Int.dvd_antisymm (az h.pos) (az c.pos) o j;subst i;refine⟨cT (by have:=h.pos;omega) f,rfl⟩
end Cu
namespace Cu
open PySem PyProof.Rows
open PySem.Builtin.Int (intBits)
def noPy(h:intBits y<=m)(c:m<=8000):PySem.Builtin.divisionGoesByPylong x y=false:=by
 refine PyProof.noPylong_of_log2 ?_;rcases cX y.natAbs with a|b
 .rw[a];decide
 .refine (cY (bB b)).mpr ?_;exact lt_pow_of_bits h (by omega)
end Cu
namespace L2
open PySem PySem.Spec PyProof.Rows
def Hw:kg X (.builtin "isinstance") (λxs H Q=>∃x T t b,xs=[x,.ty T]/\pX X.K H x t/\W.kitOne X.K t (.type T)=some b/\Q (.bl b) H):=by
 intro d s f H xs c Q I r h;obtain⟨x,T,t,b,rfl,ty,e,q⟩:=h;cases r with
 |cons r1 r2=>
  cases r2 with
  |cons r3 r4=>cases r4;cases (r3);exact Fe I r1 ty e λa=>⟨.bl b,H,I.tok a,rfl,q⟩
def NI:bootBuiltins "isinstance" = some (.builtin "isinstance"):=by decide +kernel
def vJ:bootBuiltins "abs" = some (.builtin "abs"):=by decide +kernel
def tX:bootBuiltins "int" = some (.type "int"):=by decide +kernel
def zg:bootBuiltins "bool" = some (.type "bool"):=by decide +kernel
def iN:bootBuiltins "tuple" = some (.type "tuple"):=by decide +kernel
def jI:bootBuiltins "len" = some (.builtin "len"):=by decide +kernel
end L2
namespace L2
open PySem PySem.W PySem.Spec PyProof.Rows
def Gf{l:W.OpenLaw}{n k:Nat}{q:Program}{i:List Str}{XP:(Str->Option Value)->Heap->Prop}{U:World->Heap->Prop}{d:DefRec}{K:Params->W.Frag}{CX:K2}{Z:W.Frag->Sp}{x:Str}
  (hn:l.most=some n) (J:n<=sizeLine) (L:d.params.defaults=[]) (hr:i6 k callerA)
  (hY:∀(w:World) (h:Heap),U w h->(K w.params).In h)
  (F:∀(w:World) (m:Str->Option Value) (D:Addr) (h:Heap),(K w.params).In h->h.Ns mainGlobals m->m d.name=some (.ref D)->
   ∃fd:FuncData,(∀(s:Shared) (u:Vq),BindsTo s fd ⟨[u],[]⟩ [(x,u)])/\
    ∀c:Heap,(K w.params).In c->c.Ns mainGlobals m->nh l.prog w (K w.params) m c CX k D fd [x] (Z (K w.params)))
  (P:∀(K:W.Frag) (H:Hp) (a:Addr) (p:LI),p.length<=n->(∀z∈p,PySem.Builtin.Int.intBits z<=2 ^ 20)->MM H->lC K H a (p.map V.int)->Z K [.ref a] H (λv _=>v=.bl true) λ_ _ _=>False)
  (N:∀(H:Hp) (s:Shared) (e:Vq) (E:Shared),CX [] H s (λ_ _ _=>False) e E->False) :
  W.WalkO q i XP U l.row.toRowW d [] (λf vs=>PySem.call f vs):=by
 intro w s₀ y m mb G Y D o pm cd doc dV kV ho hd hcd hD I hg X vals as C B hrd S hlo;obtain rfl:dV=.none:=Dflts.none hD L;obtain rfl:kV=.none:=Dflts.noKw hD;obtain⟨a,vs,p,rfl,rfl,A,j,lg⟩:=Att.script_of hn C S;have hb:∀z∈p,PySem.Builtin.Int.intBits z<=2 ^ 20:=λz hz=>by have h1:=(layW_cons B).1;have Q:=layableW_item h1 (WData.int z) (aC.mpr ⟨z,hz,rfl⟩);exact PyData.bits_of_layable (layable_int Q)
 have KX:=hY w _ Y;obtain⟨fd,R,hF⟩:=F w m D _ KX G.T.g I;refine enter_call (codeAny_mono (Jp KX G.T.g G.T.b G.T.builtins G.T.nolimit hg A j (aM lg J) hr hF R (λH hO hS=>P _ H a p lg hb hO hS) λH e E=>N H y e E) λr E hq=>?_);obtain⟨rfl,Q,h3,h4⟩:=hq;exact⟨.inl ⟨.bool true,.bool true,[],rfl,λ_=>rfl,.bool true,Att.post_true l _,λ_=>⟨List.Pairwise.nil,λ_ hm=>(nomatch hm)⟩⟩,Q,h3,h4⟩
end L2
namespace C4
def SS(c e:LI):Prop:=∀i j,i<c.length->j<c.length->c.getD i 0*e.getD j 0=c.getD j 0*e.getD i 0
def par_of_place(l:c.getD p 0≠0)(h:∀i,i<c.length->c.getD i 0*e.getD p 0=e.getD i 0*c.getD p 0):SS c e:=λi j d k=>by have b:=h i d;have a:=h j k;refine cT l ?_;have f:c.getD i 0*e.getD j 0*c.getD p 0=c.getD i 0*(e.getD j 0*c.getD p 0):=cP _ _ _;have g:c.getD j 0*e.getD i 0*c.getD p 0=c.getD j 0*(e.getD i 0*c.getD p 0):=cP _ _ _;rw[f,g,<-b,<-a,<-cP,<-cP,cQ (c.getD i 0) (c.getD j 0)]
end C4
namespace L3
open PySem L2
inductive T where
 |non|bl (b:Bool)|int (i:Int)|str (x:Str)
 |tup (ts:List T)|lst (ts:List T)|scr (ns:LI)
 |obj (C:Addr) (fs:List (Str×T))|emp
 |dic (kvs:List (LI×T))
inductive M(α:Type) where
 |bad|ok (a:α)|er (C:Addr) (n:Option Int)
namespace M
noncomputable def bind{c b:Type}(m:M c)(k:c->M b):M b:=match m with
 |.bad=>.bad
 |.ok a=>k a
 |.er C n=>.er C n
instance:Monad M where
 pure:=.ok
 bind:=M.bind
noncomputable def res{b:Type}(m:M b)(P:b->Prop)(E:Addr->Option Int->Prop):Prop:=match m with
 |.bad=>False
 |.ok a=>P a
 |.er C n=>E C n
def res.unb{m:M α}{k:α->M β}{P:β->Prop}(h:res (m.bind k) P E):res m (λa=>res (k a) P E) E:=by cases m<;>exact h
def res.mono{m:M α}{P P':α->Prop}(h:res m P E)(c:∀a,P a->P' a)(b:∀C n,E C n->E' C n):res m P' E':=by
 cases m with
 |bad=>exact h
 |ok a=>exact c a h
 |er C n=>exact b C n h
noncomputable def noEr{a:Type}(m:M a):M a:=match m with
 |.er _ _=>.bad
 |m=>m
def res.noEr{m:M α}{P:α->Prop}(h:res m.noEr P E):res m P E':=by
 cases m with
 |bad=>exact h
 |ok a=>exact h
 |er C n=>exact h.elim
@[simp] theorem bind_ok a (k:α->M β):M.bind (.ok a) k=k a:=rfl
@[simp] theorem Qn(k:α->M β):M.bind (.bad:M α) k=.bad:=rfl
@[simp] theorem Rj C n (k:α->M β):M.bind (.er C n:M α) k=.er C n:=rfl
noncomputable def NoE{a:Type}(m:M a):Prop:=∀C n,m≠.er C n
def res.ne{m:M α}{P:α->Prop}(h:res m P E)(ne:NoE m):res m P E':=by
 cases m with
 |bad=>exact h
 |ok a=>exact h
 |er C n=>exact absurd rfl (ne C n)
@[simp] theorem noEr_ok(a:α):noEr (.ok a)=.ok a:=rfl
end M
mutual
inductive j9(K:W.Frag)(F:Hp):V->T->Prop
 |non:j9 K F .non .non
 |bl (b:Bool):j9 K F (.bl b) (.bl b)
 |int (i:Int):j9 K F (.int i) (.int i)
 |str (x:Str):j9 K F (.str x) (.str x)
 |tup {a:Addr} {xs:List V} {ts:List T} (h:F a=some (.tup xs)) (r:gH K F xs ts):j9 K F (.ref a) (.tup ts)
 |lst {a:Addr} {xs:List V} {ts:List T} (h:F a=some (.lst xs)) (r:gH K F xs ts):j9 K F (.ref a) (.lst ts)
 |scr {a:Addr} {ns:LI} (h:lC K F a (ns.map V.int)):j9 K F (.ref a) (.scr ns)
 |obj {a C dx:Addr} {fs:List (Str×V)} {ts:List (Str×T)} (h:F a=some (.ins C dx fs)) (r:mG K F fs ts):j9 K F (.ref a) (.obj C ts)
 |emp {a:Addr} (h:F a=some (.dK [])):j9 K F (.ref a) .emp
 |dic {a:Addr} {xs:List (List pI×V)} {kvs:List (LI×T)} (h:F a=some (.dT xs)) (r:zC K F xs kvs):j9 K F (.ref a) (.dic kvs)
inductive gH(K:W.Frag)(F:Hp):List V->List T->Prop
 |nil:gH K F [] []
 |cons {v:V} {t:T} {vs:List V} {ts:List T} (h:j9 K F v t) (r:gH K F vs ts):gH K F (v::vs) (t::ts)
inductive mG(K:W.Frag)(F:Hp):List (Str×V)->List (Str×T)->Prop
 |nil:mG K F [] []
 |cons {x:Str} {v:V} {t:T} {vs:List (Str×V)} {ts:List (Str×T)} (h:j9 K F v t) (r:mG K F vs ts):mG K F ((x,v)::vs) ((x,t)::ts)
inductive zC(K:W.Frag)(F:Hp):List (List pI×V)->List (LI×T)->Prop
 |nil:zC K F [] []
 |cons {k:LI} {v:V} {t:T} {vs:List (List pI×V)} {ts:List (LI×T)} (h:j9 K F v t) (r:zC K F vs ts):zC K F ((k.map Sum.inl,v)::vs) ((k,t)::ts)
end
section
variable {K:W.Frag}{F F':Hp}
mutual
theorem j9.mono(s:gL F F'):∀{v} {t},j9 K F v t->j9 K F' v t
 |_,_,.non=>.non
 |_,_,.bl b=>.bl b
 |_,_,.int i=>.int i
 |_,_,.str x=>.str x
 |_,_,.tup h r=>.tup (s _ _ h) (gH.mono s r)
 |_,_,.lst h r=>.lst (s _ _ h) (gH.mono s r)
 |_,_,.scr h=>.scr (s.seq h)
 |_,_,.obj h r=>.obj (s _ _ h) (mG.mono s r)
 |_,_,.emp h=>.emp (s _ _ h)
 |_,_,.dic h r=>.dic (s _ _ h) (zC.mono s r)
theorem gH.mono(s:gL F F'):∀{vs} {ts},gH K F vs ts->gH K F' vs ts
 |_,_,.nil=>.nil
 |_,_,.cons h r=>.cons (j9.mono s h) (gH.mono s r)
theorem mG.mono(s:gL F F'):∀{vs} {ts},mG K F vs ts->mG K F' vs ts
 |_,_,.nil=>.nil
 |_,_,.cons h r=>.cons (j9.mono s h) (mG.mono s r)
theorem zC.mono(s:gL F F'):∀{vs} {ts},zC K F vs ts->zC K F' vs ts
 |_,_,.nil=>.nil
 |_,_,.cons h r=>.cons (j9.mono s h) (zC.mono s r)
end
theorem gH.length:∀{vs} {ts},gH K F vs ts->vs.length=ts.length
 |_,_,.nil=>rfl
 |_,_,.cons _ r=>by rw[ay,ay,gH.length r]
theorem gH.get:∀{vs:List V} {ts:List T} {i:Nat} {t:T},gH K F vs ts->ts[i]? = some t->∃v,vs[i]? = some v/\j9 K F v t
 |_,_,_,_,.nil,e=>by simp at e
 |_,_,0,_,.cons h _,e=>by simp at e;subst e;exact⟨_,rfl,h⟩
 |_,_,i+1,_,.cons _ r,e=>by obtain⟨v,a,h⟩:=gH.get r (by simpa using e);exact⟨v,by simpa using a,h⟩
def gH.at_{i:Nat}(r:gH K F vs ts)(e:vs[i]? = some v):∃t,ts[i]? = some t/\j9 K F v t:=by
 have a:i<ts.length:=by rw[<-r.length];exact (aa.mp e).1
 obtain⟨c,b,h⟩:=r.get (ag a);rw[e]at b;cases b;exact⟨_,ag a,h⟩
theorem gH.append:∀{vs us} {ts ss},gH K F vs ts->gH K F us ss->gH K F (vs++us) (ts++ss)
 |_,_,_,_,.nil,q=>q
 |_,_,_,_,.cons h r,q=>.cons h (gH.append r q)
theorem gH.set(q:j9 K F v t):∀{vs} {ts} i,gH K F vs ts->gH K F (vs.set i v) (ts.set i t)
 |_,_,_,.nil=>.nil
 |_,_,0,.cons _ r=>.cons q r
 |_,_,i+1,.cons h r=>.cons h (gH.set q i r)
theorem gH.take:∀{vs} {ts} n,gH K F vs ts->gH K F (vs.take n) (ts.take n)
 |_,_,0,_=>.nil
 |_,_,_+1,.nil=>.nil
 |_,_,n+1,.cons h r=>.cons h (gH.take n r)
theorem gH.drop:∀{vs} {ts} n,gH K F vs ts->gH K F (vs.drop n) (ts.drop n)
 |_,_,0,r=>r
 |_,_,_+1,.nil=>.nil
 |_,_,n+1,.cons _ r=>gH.drop n r
theorem gH.rep:∀{vs} {ts} n,gH K F vs ts->gH K F (List.replicate n vs).flatten (List.replicate n ts).flatten
 |_,_,0,_=>.nil
 |_,_,n+1,r=>by rw[bW,bW,bX,bX];exact r.append (gH.rep n r)
theorem gH.ints:∀{vs:List V} {a:LI},gH K F vs (a.map T.int)->vs=a.map V.int
 |_,[],.nil=>rfl
 |_,_::_,.cons h r=>by cases h;rw[gH.ints r];rfl
theorem gH.bls:∀{vs:List V} {a:List Bool},gH K F vs (a.map T.bl)->vs=a.map V.bl
 |_,[],.nil=>rfl
 |_,_::_,.cons h r=>by cases h;rw[gH.bls r];rfl
theorem gH.of_ints:∀(a:LI),gH K F (a.map V.int) (a.map T.int)
 |[]=>.nil
 |n::a=>.cons (.int n) (gH.of_ints a)
theorem mG.look:∀{fs} {ts},mG K F fs ts->ts.lookup f=some t->∃v,fs.lookup f=some v/\j9 K F v t
 |_,_,.nil,e=>by cases e
 |_,_,.cons (x:=x) h r,e=>by
  by_cases b:f=x
  .subst b;rw[cZ]at e;cases e;exact⟨_,cZ,h⟩
  .have a:(f==x)=false:=by simpa using b
   rw[cg,a]at e;obtain⟨v,d,c⟩:=mG.look r e;exact⟨v,by rw[cg,a];exact d,c⟩
theorem mG.none_:∀{fs} {ts},mG K F fs ts->ts.lookup f=none->fs.lookup f=none
 |_,_,.nil,e=>rfl
 |_,_,.cons (x:=x) h r,e=>by
  by_cases a:f=x
  .subst a;rw[cZ]at e;cases e
  .have b:(f==x)=false:=by simpa using a
   rw[cg,b]at e ⊢;exact mG.none_ r e
end
def rR(h:Gk o (some u))(b:∀q a,u≠.tbl q a):o=u:=by
 cases o with
 |tbl q a=>obtain⟨m,e⟩:=h;exact absurd (Option.some.inj e) (b _ _)
 |_=>exact (Option.some.inj h).symm
def Mz{x y:Option HO}(h:Gk o x)(k:∀a,x=some a->Gk a y):Gk o y:=by
 cases o with
 |tbl q ps=>obtain⟨m,e⟩:=h;obtain⟨b,c⟩:=k _ e;exact⟨m++b,by rw[c,bz]⟩
 |_=>exact k _ h
def wG{H:Hp}(h:Gk u (H b))(a:H p=none):b≠p:=λz=>h.ne (by rw[z];exact a)
structure Gr(F H F' H':Hp):Prop where
 ff:gL F F'
 fh:gL F' H'
 hh:gL H H'
 nw:∀a,F' a≠none->F a≠none\/H a=none\/∃xs,H a=some (.tup xs)
def Gr.refl(h:gL F H):Gr F H F H:=⟨.refl _,h,.refl _,λ_ h=>.inl h⟩
def gN(h:gL H H')(e:H' a=none):H a=none:=by
 cases q:H a with
 |none=>rfl
 |some o=>exact absurd e (h a o q).ne
def Gr.trans(g:Gr F H F' H')(b:Gr F' H' F'' H''):Gr F H F'' H'':=
 ⟨g.ff.trans b.ff,b.fh,g.hh.trans b.hh,λa d=>by
  rcases b.nw a d with q|q|⟨c,q⟩
  .exact g.nw a q
  .exact .inr (.inl (gN g.hh q))
  .cases z:H a with
   |none=>exact .inr (.inl rfl)
   |some o=>exact .inr (.inr ⟨c,by have k:=g.hh a o z;rw[q]at k;rw[rR k λ_ _ y=>nomatch y]⟩)⟩
def Gr.new(s:gL F H)(h:H p=none):Gr F H (ju F p o) (ju H p o):=by
 have c:=gN s h;refine⟨λb u e=>?_,λb u e=>?_,λb u e=>?_,λb a=>?_⟩
 .rw[gA (hC e c)];exact .of e
 .by_cases q:b=p
  .subst q;rw[gB]at e ⊢;exact .of e
  .rw[gA q]at e ⊢;exact s b u e
 .rw[gA (hC e h)];exact .of e
 .by_cases q:b=p
  .subst q;exact .inr (.inl h)
  .rw[gA q]at a;exact .inl a
def Gr.new'(s:gL F H)(h:H p=none):Gr F H F (ju H p o):=by
 refine⟨.refl _,λb u e=>?_,λb u e=>?_,λb a=>.inl a⟩
 .rw[gA (wG (s b u e) h)];exact s b u e
 .rw[gA (hC e h)];exact .of e
def Gr.take(g:Gr F0 H0 F H)(h:H p=some o)(d:F p=none)(c:H0 p=none):Gr F0 H0 (ju F p o) H:=by
 refine⟨λb u e=>?_,λb u e=>?_,g.hh,λb a=>?_⟩
 .rw[gA (wG (g.ff b u e) d)];exact g.ff b u e
 .by_cases q:b=p
  .subst q;rw[gB]at e;cases e;exact .of h
  .rw[gA q]at e;exact g.fh b u e
 .by_cases q:b=p
  .subst q;exact .inr (.inl c)
  .rw[gA q]at a;exact g.nw b a
def jf(a:F p=none):gL F (ju F p o):=λb u e=>by rw[gA (hC e a)];exact .of e
abbrev Pe:=List (Option T)
section
variable (K:W.Frag)
def lF(F:Hp)(a:St)(ρ:Pe):Prop:=∀(i:Nat) (t:T),ρ[i]? = some (some t)->∃v,a[i]? = some (some v)/\j9 K F v t
def lF.mono{K:W.Frag}(h:lF K F σ ρ)(s:gL F F'):lF K F' σ ρ:=λi t e=>let ⟨v,a,b⟩:=h i t e;⟨v,a,b.mono s⟩
def Sx(E:XK)(C:Addr)(n:Option Int)(F H:Hp):Prop:=match n with
 |none=>E (.ref C) none H
 |some i=>∀a,F a=some (.xd [("at",.int i)])->E (.ref C) (some a) H
def kE(E:XK)(F H:Hp)(C:Addr)(n:Option Int):Prop:=∀a b,Gr F H a b->Sx E C n a b
def kE.go(h:kE E F H C n)(g:Gr F H F1 H1):kE E F1 H1 C n:=λb c a=>h b c (g.trans a)
def kV(F H:Hp)(Q:VK)(t:T):Prop:=∀v a b,Gr F H a b->j9 K a v t->Q v b
def kB(F H:Hp)(Q:Bool->Hp->Prop)(b:Bool):Prop:=∀c a,Gr F H c a->Q b a
def kA(F H:Hp)(Q:List V->Hp->Prop)(ts:List T):Prop:=∀a b c,Gr F H b c->gH K b a ts->Q a c
def kF(F H:Hp)(Q:VK)(ts:List T):Prop:=∀l c a b,Gr F H a b->H l=none->a l=none->b l=some (.lst c)->gH K a c ts->Q (.ref l) b
noncomputable def ME(E:XK)(t:TE)(f:Pe->M T):Prop:=∀F H b a Q,gL F H->lF K F b a->(f a).res (kV K F H Q) (kE E F H)->t b H Q
noncomputable def MT(E:XK)(t:TT)(f:Pe->M Bool):Prop:=∀F H b a Q,gL F H->lF K F b a->(f a).res (kB F H Q) (kE E F H)->t b H Q
noncomputable def MA(E:XK)(t:TA)(f:Pe->M (List T)):Prop:=∀F H b a Q,gL F H->lF K F b a->(f a).res (kA K F H Q) (kE E F H)->t b H Q
noncomputable def MF(E:XK)(t:TE)(f:Pe->M (List T)):Prop:=∀F H b a Q,gL F H->lF K F b a->(f a).res (kF K F H Q) (kE E F H)->t b H Q
end
section
variable {K:W.Frag}{E:XK}{t u ta tb:TE}{f g fa fb:Pe->M T}
def kV.go{t:T}(h:kV K F H Q t)(g:Gr F H F1 H1):kV K F1 H1 Q t:=λv b c a r=>h v b c (g.trans a) r
def kB.go{t:Bool}(h:kB F H Q t)(g:Gr F H F1 H1):kB F1 H1 Q t:=λb c a=>h b c (g.trans a)
def kF.go{t:List T}(h:kF K F H Q t)(g:Gr F H F1 H1):kF K F1 H1 Q t:=λl e j k i a b c d=>h l e j k (g.trans i) (gN g.hh a) b c d
def kV.now{t:T}(h:kV K F H Q t)(s:gL F H)(r:j9 K F v t):Q v H:=h v F H (.refl s) r
def kF.of(h:kV K F H Q (.lst ts)):kF K F H Q ts:=λl c d e g i b a r=>h (.ref l) (ju d l (.lst c)) e (g.take a b i) (.lst gB (r.mono (jf b)))
def MF.me{f:Pe->M (List T)}(h:MF K E t f):ME K E t (λρ=>(f ρ).bind λts=>.ok (.lst ts)):=λF H a ρ Q s V r=>h F H a ρ Q s V ((M.res.unb r).mono (λts q=>kF.of q) λ_ _ z=>z)
def ME.run{k:T->M α}{P:α->Prop}(h:ME K E t f)(s:gL F H)(v:lF K F σ ρ)(r:((f ρ).bind k).res P (kE E F H))
  (c:∀x w a b,Gr F H a b->j9 K a w x->(k x).res P (kE E a b)->Q w b):t σ H Q:=
 h F H σ ρ Q s v ((M.res.unb r).mono (λx q w a b g d=>c x w a b g d (q.mono (λ_ z=>z) λ_ _ z=>z.go g)) λ_ _ z=>z)
def MT.run{t:TT}{f:Pe->M Bool}{k:Bool->M α}{P:α->Prop}(h:MT K E t f)(s:gL F H)(v:lF K F σ ρ)(r:((f ρ).bind k).res P (kE E F H))
  (c:∀x b a,Gr F H b a->(k x).res P (kE E b a)->Q x a):t σ H Q:=
 h F H σ ρ Q s v ((M.res.unb r).mono (λx q b a g=>c x b a g (q.mono (λ_ z=>z) λ_ _ z=>z.go g)) λ_ _ z=>z)
def MA.run{t:TA}{f:Pe->M (List T)}{k:List T->M α}{P:α->Prop}(h:MA K E t f)(s:gL F H)(v:lF K F σ ρ)(r:((f ρ).bind k).res P (kE E F H))
  (c:∀x w a b,Gr F H a b->gH K a w x->(k x).res P (kE E a b)->Q w b):t σ H Q:=
 h F H σ ρ Q s v ((M.res.unb r).mono (λx q w a b g d=>c x w a b g d (q.mono (λ_ z=>z) λ_ _ z=>z.go g)) λ_ _ z=>z)
@[simp] noncomputable def fS(i:Nat):Pe->M T:=λa=>match a[i]? with
 |some (some t)=>.ok t
 |_=>.bad
def On:ME K E (lQ i) (fS i):=λF H c b Q s V r=>by
 unfold fS at r;split at r
 .rename_i t e;obtain⟨v,a,h⟩:=V i t e;exact⟨v,a,r.now s h⟩
 .exact r.elim
@[simp] noncomputable def cM(t:T):Pe->M T:=λ_=>.ok t
def JB{t:T}(h:∀F,j9 K F v t):ME K E (tC v) (cM t):=λF H b a Q s V r=>kV.now r s (h F)
@[simp] noncomputable def fZ(o:T->T->M T)(fa fb:Pe->M T):Pe->M T:=λa=>(fa a).bind λx=>(fb a).bind λy=>o x y
structure MR(K:W.Frag)(r:R2)(o:T->T->M T):Prop where
 ne:∀x y,M.NoE (o x y)
 ok:∀F H v w x y Q,gL F H->j9 K F v x->j9 K F w y->(o x y).res (kV K F H Q) (λ_ _=>False)->r v w H Q
def DQ(hr:MR K r o)(l:ME K E ta fa)(j:ME K E tb fb):ME K E (uh r ta tb) (fZ o fa fb):=λF H A n Q s V q=>by refine l.run s V q λx v m p a h d=>?_;refine j.run a.fh (V.mono a.ff) d λy w i e b c k=>?_;exact hr.ok i e v w x y Q b.fh (h.mono b.ff) c ((k.ne (hr.ne x y)).mono (λ_ z=>z.go (a.trans b)) λ_ _ z=>z)
noncomputable def k9(C:Int->Int->Bool)(g:Int->Int->T):T->T->M T
 |.int i,.int j=>if C i j then .ok (g i j) else .bad
 |_,_=>.bad
def An{g:Int->Int->T} x y:M.NoE (k9 C g x y):=λa n=>by
 unfold k9;split
 .split<;>exact λz=>nomatch z
 .exact λz=>nomatch z
def j9.int_inv(h:j9 K F v (.int i)):v=.int i:=by cases h;rfl
def j9.lst_inv(h:j9 K F v (.lst ts)):∃a xs,v=.ref a/\F a=some (.lst xs)/\gH K F xs ts:=by cases h;exact⟨_,_,rfl,‹_›,‹_›⟩
def j9.tup_inv(h:j9 K F v (.tup ts)):∃a xs,v=.ref a/\F a=some (.tup xs)/\gH K F xs ts:=by cases h;exact⟨_,_,rfl,‹_›,‹_›⟩
def gH.two(h:gH K F vs [.int i,.int j]):vs=[.int i,.int j]:=by
 cases h with
 |cons h t=>
  cases t with
  |cons h2 t=>cases t;rw[h.int_inv,h2.int_inv]
def yN{g:Int->Int->V}(c:∀i j,Cb i j=true->C i j)(d:∀F i j,j9 K F (g i j) (gt i j)):MR K (rI C g) (k9 Cb gt):=⟨An,λF H v w x y Q s a b q=>by
 unfold k9 at q;split at q
 .rename_i i j;rw[a.int_inv,b.int_inv];by_cases h:Cb i j=true
  .rw[aP h]at q;exact⟨i,j,rfl,rfl,c i j h,kV.now q s (d F i j)⟩
  .rw[aQ h]at q;exact q.elim
 .exact q.elim⟩
def rO{g:Int->Int->V}(c:∀F i j,j9 K F (g i j) (gt i j)):MR K (CB g) (k9 (λ_ _=>true) gt):=⟨An,λF H v w x y Q s a b q=>by
 unfold k9 at q;split at q
 .rw[a.int_inv,b.int_inv];exact⟨_,_,rfl,rfl,kV.now q s (c F _ _)⟩
 .exact q.elim⟩
@[simp] noncomputable def xk(o:Int->T)(fa:Pe->M T):Pe->M T:=λa=>(fa a).bind λx=>match x with
 |.int i=>.ok (o i)
 |_=>.bad
def Qf{g:Int->V}(h:∀F i,j9 K F (g i) (gt i))(j:ME K E ta fa):ME K E (RN (rU g) ta) (xk gt fa):=λF H l k Q s V q=>by
 refine j.run s V q λx v a c d e b=>?_;cases e<;>first
  |exact b.elim
  |exact⟨_,rfl,b _ a c d (h a _)⟩
@[simp] noncomputable def gI(fa:Pe->M T):Pe->M Bool:=λa=>(fa a).bind λx=>match x with
 |.bl b=>.ok b
 |_=>.bad
def GP(h:ME K E ta fa):MT K E (tB ta) (gI fa):=λF H j i Q s V q=>by
 refine h.run s V q λx v b c d e a=>?_;cases e<;>first
  |exact a.elim
  |exact⟨_,rfl,a b c d⟩
def LX(a:ME K E ta fa):MT K E (AE ta) (gI fa):=GP a
section
variable {c d:TT}{fc fd:Pe->M Bool}
@[simp] noncomputable def jW(fc fd:Pe->M Bool):Pe->M Bool:=λa=>(fc a).bind λb=>if b then fd a else .ok false
@[simp] noncomputable def oJ(fc fd:Pe->M Bool):Pe->M Bool:=λa=>(fc a).bind λb=>if b then .ok true else fd a
@[simp] noncomputable def jT(fc:Pe->M Bool):Pe->M Bool:=λa=>(fc a).bind λb=>.ok (!b)
def NA(j:MT K E c fc)(k:MT K E d fd):MT K E (Nk c d) (jW fc fd):=λF H m l Q s V q=>by
 refine j.run s V q λb e h a i=>?_;cases b with
 |true=>rw[aP rfl];exact k e h m l Q a.fh (V.mono a.ff) (i.mono (λ_ z=>z.go a) λ_ _ z=>z)
 |false=>rw[aQ aG];exact i e h a
def Q9(j:MT K E c fc)(k:MT K E d fd):MT K E (RO c d) (oJ fc fd):=λF H m l Q s V q=>by
 refine j.run s V q λb e h a i=>?_;cases b with
 |true=>rw[aP rfl];exact i e h a
 |false=>rw[aQ aG];exact k e h m l Q a.fh (V.mono a.ff) (i.mono (λ_ z=>z.go a) λ_ _ z=>z)
def Nu(j:MT K E c fc):MT K E (NX c) (jT fc):=λF H l k Q s V q=>by refine j.run s V q λb a e h i=>?_;exact i a e h
@[simp] noncomputable def RC(fc:Pe->M Bool)(fa fb:Pe->M T):Pe->M T:=λa=>(fc a).bind λb=>if b then fa a else fb a
def QT(l:MT K E c fc)(n:ME K E ta fa)(m:ME K E tb fb):ME K E (R5 c ta tb) (RC fc fa fb):=λF H k j Q s V q=>by
 refine l.run s V q λb e h a i=>?_;cases b with
 |true=>rw[aP rfl];exact n e h k j Q a.fh (V.mono a.ff) (i.mono (λ_ z=>z.go a) λ_ _ z=>z)
 |false=>rw[aQ aG];exact m e h k j Q a.fh (V.mono a.ff) (i.mono (λ_ z=>z.go a) λ_ _ z=>z)
end
@[simp] noncomputable def xP(fa fb:Pe->M T):Pe->M T:=λa=>(gI fa a).bind λb=>if b then fb a else .ok (.bl false)
@[simp] noncomputable def Rr(fa fb:Pe->M T):Pe->M T:=λa=>(gI fa a).bind λb=>if b then .ok (.bl true) else fb a
@[simp] noncomputable def FK(fa:Pe->M T):Pe->M T:=λa=>(gI fa a).bind λb=>.ok (.bl (!b))
def L1(j:ME K E ta fa)(i:ME K E tb fb):ME K E (G7 ta tb) (xP fa fb):=λF H k h Q s V q=>by
 refine (GP j).run s V q λb c d a e=>?_;cases b with
 |true=>rw[aP rfl];exact i c d k h Q a.fh (V.mono a.ff) (e.mono (λ_ z=>z.go a) λ_ _ z=>z)
 |false=>rw[aQ aG];exact e _ c d a (.bl _)
def Og(j:ME K E ta fa)(i:ME K E tb fb):ME K E (Oa ta tb) (Rr fa fb):=λF H k h Q s V q=>by
 refine (GP j).run s V q λb c d a e=>?_;cases b with
 |true=>rw[aP rfl];exact e _ c d a (.bl _)
 |false=>rw[aQ aG];exact i c d k h Q a.fh (V.mono a.ff) (e.mono (λ_ z=>z.go a) λ_ _ z=>z)
def LO(h:ME K E ta fa):ME K E (Ih ta) (FK fa):=λF H j i Q s V q=>by refine (GP h).run s V q λb a c d e=>?_;exact e _ a c d (.bl _)
@[simp] noncomputable def fR(fa:Pe->M T)(fr:Pe->M (List T)):Pe->M (List T):=λa=>(fa a).bind λx=>(fr a).bind λb=>.ok (x::b)
@[simp] noncomputable def fV:Pe->M (List T):=λ_=>.ok []
def B1:MA K E qQ fV:=λF H b a Q s V q=>q [] F H (.refl s) .nil
def Lq{c:TA}{fr:Pe->M (List T)}(m:ME K E ta fa)(hr:MA K E c fr):MA K E (nK ta c) (fR fa fr):=λF H w p Q s V q=>by refine m.run s V q λx v n r a i e=>?_;refine hr.run a.fh (V.mono a.ff) e λo l j h b d k=>?_;exact k (v::l) j h (a.trans b) (.cons (i.mono b.ff) d)
@[simp] noncomputable def Ce(ts:List T):M (List T):=if ts.length<=sizeLine then .ok ts else .bad
@[simp] noncomputable def kc(fr:Pe->M (List T)):Pe->M T:=λb=>(fr b).bind λa=>(Ce a).bind λa=>.ok (.tup a)
@[simp] noncomputable def lstM(fr:Pe->M (List T)):Pe->M (List T):=λa=>(fr a).bind Ce
def NL{e:TA}{fr:Pe->M (List T)}(hr:MA K E e fr):ME K E (NT e) (kc fr):=λF H n k Q s V q=>by
 refine hr.run s V q λi m j l b d a=>?_;unfold Ce at a;by_cases h:i.length<=sizeLine
 .rw[aP h]at a;refine⟨by rw[d.length];exact h,λp c=>?_⟩;exact a (.ref p) _ _ (b.trans (.new b.fh c)) (.tup gB (d.mono (Gr.new b.fh c).ff))
 .rw[aQ h]at a;exact a.elim
def OD{e:TA}{fr:Pe->M (List T)}(hr:MA K E e fr):MF K E (MQ e) (lstM fr):=λF H n l Q s V q=>by
 refine hr.run s V q λj k i m b d a=>?_;unfold Ce at a;by_cases h:j.length<=sizeLine
 .rw[aP h]at a;refine⟨by rw[d.length];exact h,λp c=>?_⟩;exact a p k i _ (b.trans (.new' b.fh c)) (gN b.hh c) (gN b.fh c) gB d
 .rw[aQ h]at a;exact a.elim
end
end L3
namespace L3
open PySem L2
inductive W where
 |p (t:T)|o (ts:List T)|d (kvs:List (LI×T))
abbrev En:=List (Option W)
@[simp] def RP:Option W->Option T
 |some (.p t)=>some t
 |_=>none
@[simp] def Sf:Option W->Option T
 |some (.p t)=>some t
 |some (.o ts)=>some (.lst ts)
 |_=>none
@[simp] noncomputable def lY(ρ:En):Pe:=ρ.map RP
@[simp] noncomputable def vw(ρ:En):Pe:=ρ.map Sf
mutual
@[simp] noncomputable def lf:T->Bool
 |.lst _=>false
 |.scr _=>false
 |.dic _=>false
 |.tup ts=>zj ts
 |.obj _ fs=>N4 fs
 |_=>true
@[simp] noncomputable def zj:List T->Bool
 |[]=>true
 |t::ts=>lf t&&zj ts
noncomputable def N4:List (Str×T)->Bool
 |[]=>true
 |t::ts=>lf t.2&&N4 ts
end
structure Fz where
 hp:Hp
 lt:List (Nat×Addr×List V)
instance:Coe Fz Hp:=⟨Fz.hp⟩
structure Lv(H0 F H:Hp)(σ:St)(ρ:En)(e:Nat×Addr×List V):Prop where
 h:H e.2.1=some (.lst e.2.2)
 f:F e.2.1=none
 z:H0 e.2.1=none
 d:∀(i:Nat) (ts:List T),ρ[i]? = some (some (.o ts))->σ[i]?≠some (some (.ref e.2.1))
def DR(K:W.Frag)(F:Hp)(xs:List (List pI×V))(a:List (LI×T)):Prop:=Paired (λ(p:List pI×V) (q:LI×T)=>p.1=q.1.map Sum.inl/\j9 K F p.2 q.2) xs a
def DR.mono(s:gL F F')(h:DR K F xs kvs):DR K F' xs kvs:=Paired.imp' (λ_ _ q=>⟨q.1,q.2.mono s⟩) h
structure Dv(K:W.Frag)(H0 F H:Hp)(σ:St)(ρ:En):Prop where
 at_:∀(i:Nat) kvs,ρ[i]? = some (some (.d kvs))->∃a,σ[i]? = some (some (.ref a))/\F a=none/\H0 a=none/\∃xs,H a=some (.dT xs)/\DR K F xs kvs
 dj:∀(i j:Nat) kvs kvs',ρ[i]? = some (some (.d kvs))->ρ[j]? = some (some (.d kvs'))->i≠j->σ[i]?≠σ[j]?
def Fg{a:Type}{l:List a}{x y:a}(h:(l.set i x)[i]? = some y):y=x:=by
 rw[List.getElem?_set]at h;simp only[if_true]at h;split at h
 .exact (Option.some.inj h).symm
 .cases h
def FY{a:Type}{l:List a}{x y:a}(h:(l.set i x)[j]? = some y):(j=i/\y=x)\/(j≠i/\l[j]? = some y):=by
 by_cases e:j=i
 .subst e;exact .inl ⟨rfl,Fg h⟩
 .rw[aq (λz=>e z.symm)]at h;exact .inr ⟨e,h⟩
def Dv.heap(d:Dv K H0 F H σ ρ)(s:gL F F')(h:∀a xs,H a=some (.dT xs)->F a=none->F' a=none/\H' a=some (.dT xs)):Dv K H0 F' H' σ ρ:=⟨λi b e=>let ⟨a,e1,e2,e3,xs,e4,e5⟩:=d.at_ i b e;let ⟨h1,h2⟩:=h a xs e4 e2;⟨a,e1,h1,e3,xs,h2,e5.mono s⟩,d.dj⟩
def Dv.set(d:Dv K H0 F H σ ρ)(hw:∀b,w≠some (.d b)):Dv K H0 F H (σ.set i v) (ρ.set i w):=by
 refine⟨λj b e=>?_,λj k b c e n f=>?_⟩
 .rcases FY e with⟨rfl,q⟩|⟨g,q⟩
  .exact absurd q.symm (hw b)
  .obtain⟨a,m,r⟩:=d.at_ j b q;exact⟨a,by rw[aq (λz=>g z.symm)];exact m,r⟩
 .rcases FY e with⟨rfl,q⟩|⟨g,q⟩
  .exact absurd q.symm (hw b)
  .rcases FY n with⟨rfl,h⟩|⟨l,h⟩
   .exact absurd h.symm (hw c)
   .rw[aq (λz=>g z.symm),aq (λz=>l z.symm)];exact d.dj j k b c q h f
def Dv.setR(d:Dv K H0 F H σ ρ)(hw:∀a,w≠some (.d a)):Dv K H0 F H σ (ρ.set i w):=by
 refine⟨λj a e=>?_,λj k a b e h c=>?_⟩
 .rcases FY e with⟨rfl,q⟩|⟨g,q⟩
  .exact absurd q.symm (hw a)
  .exact d.at_ j a q
 .rcases FY e with⟨rfl,q⟩|⟨g,q⟩
  .exact absurd q.symm (hw a)
  .rcases FY h with⟨rfl,f⟩|⟨l,f⟩
   .exact absurd f.symm (hw b)
   .exact d.dj j k a b q f c
structure Sr(K:W.Frag)(F0:Fz)(H0 F H:Hp)(σ:St)(ρ:En):Prop where
 gr:Gr F0.hp H0 F H
 len:σ.length=ρ.length
 pv:∀(i:Nat) (t:T),ρ[i]? = some (some (.p t))->∃v,σ[i]? = some (some v)/\j9 K F v t
 ov:∃ad:Nat->Addr,(∀(i:Nat) (ts:List T),ρ[i]? = some (some (.o ts))->σ[i]? = some (some (.ref (ad i)))/\F (ad i)=none/\H0 (ad i)=none/\∃vs,H (ad i)=some (.lst vs)/\gH K F vs ts)/\
  ∀(i j:Nat) (ts us:List T),ρ[i]? = some (some (.o ts))->ρ[j]? = some (some (.o us))->i≠j->ad i≠ad j
 lv:∀e∈F0.lt,Lv H0 F H σ ρ e
 sl:∀(j:Nat) (l:Addr) (vs:List V),F0.lt.lookup j=some (l,vs)->ρ[j]? = some none->σ[j]? = some (some (.ref l))
 dv:Dv K H0 F H σ ρ
section
variable {K:W.Frag}{F0:Fz}{H0 F H F' H':Hp}{σ:St}{ρ:En}
def Sr.vars(r:Sr K F0 H0 F H σ ρ):lF K F σ (lY ρ):=λi t e=>by
 unfold lY at e;rw[av]at e;cases q:ρ[i]? with
 |none=>rw[q]at e;cases e
 |some w=>
  rw[q]at e;cases w with
  |none=>cases e
  |some w=>
   cases w with
   |p t'=>cases e;exact r.pv i _ q
   |o ts=>cases e
   |d kvs=>cases e
def Sr.grow(r:Sr K F0 H0 F H σ ρ)(g:Gr F H F' H'):Sr K F0 H0 F' H' σ ρ:=by
 obtain⟨j,s,o⟩:=r.ov;refine⟨r.gr.trans g,r.len,λi t e=>?_,⟨j,λi m e=>?_,o⟩,λe l=>?_,r.sl,r.dv.heap g.ff λa x k n=>⟨?_,g.hh _ _ k⟩⟩
 .obtain⟨v,a,b⟩:=r.pv i t e;exact⟨v,a,b.mono g.ff⟩
 .obtain⟨a,b,c,p,d,q⟩:=s i m e;refine⟨a,?_,c,p,g.hh _ _ d,q.mono g.ff⟩;cases z:F' (j i) with
  |none=>rfl
  |some u=>
   rcases g.nw (j i) (by rw[z];exact λw=>nomatch w) with y|y|⟨_,y⟩
   .exact absurd b y
   .rw[d]at y;cases y
   .rw[d]at y;cases y
 .have L:=r.lv e l;refine⟨g.hh _ _ L.h,?_,L.z,L.d⟩;cases z:F' e.2.1 with
  |none=>rfl
  |some u=>
   rcases g.nw e.2.1 (by rw[z];exact λw=>nomatch w) with y|y|⟨_,y⟩
   .exact absurd L.f y
   .rw[L.h]at y;cases y
   .rw[L.h]at y;cases y
 .cases z:F' a with
  |none=>rfl
  |some u=>
   rcases g.nw a (by rw[z];exact λw=>nomatch w) with y|y|⟨_,y⟩
   .exact absurd n y
   .rw[k]at y;cases y
   .rw[k]at y;cases y
theorem Sr.lend(r:Sr K F0 H0 F H σ ρ):∃k,gL F k/\Gr F0.hp H0 k H/\lF K k σ (vw ρ)/\
  (∀F' H',Gr k H F' H'->∃j,Gr F H j H'/\gL F j/\gL j F'/\(∀a,F' a≠none->j a=none->∃xs,F' a=some (.lst xs))/\(∀a,F' a≠none->j a=none->H a≠none)):=by
 classical
 obtain⟨I,m,L⟩:=r.ov;let f:Addr->Prop:=λa=>∃i h,ρ[i]? = some (some (.o h))/\I i=a;let k:Hp:=λa=>if f a then H a else F a
 have n:gL F k:=λa o e=>by
  have:¬f a:=by rintro⟨i,h,q,rfl⟩;obtain⟨_,b,_⟩:=m i h q;rw[b]at e;cases e
  show Gk o (if f a then H a else F a);rw[aQ this];exact .of e
 have J:gL k H:=λa o e=>by
  by_cases q:f a
  .have x:(if f a then H a else F a)=some o:=e;rw[aP q]at x;exact .of x
  .have x:(if f a then H a else F a)=some o:=e;rw[aQ q]at x;exact r.gr.fh a o x
 have D:∀a,f a->k a=H a:=λa q=>aP q;have C:∀a,¬f a->k a=F a:=λa q=>aQ q;refine⟨k,n,⟨r.gr.ff.trans n,J,r.gr.hh,λa l=>?_⟩,λi t e=>?_,λF' H' g=>?_⟩
 .by_cases q:f a
  .obtain⟨i,h,e,rfl⟩:=q;exact .inr (.inl (m i h e).2.2.1)
  .rw[C a q]at l;exact r.gr.nw a l
 .unfold vw at e;rw[av]at e;cases q:ρ[i]? with
  |none=>rw[q]at e;cases e
  |some w=>
   rw[q]at e;cases w with
   |none=>cases e
   |some w=>
    cases w with
    |p t'=>cases e;obtain⟨v,a,b⟩:=r.pv i _ q;exact⟨v,a,b.mono n⟩
    |o h=>cases e;obtain⟨a,b,c,y,d,z⟩:=m i h q;exact⟨_,a,.lst (by rw[D _ ⟨i,h,q,rfl⟩];exact d) (z.mono n)⟩
    |d kvs=>cases e
 .let j:Hp:=λa=>if f a then none else F' a
  have s:∀a,¬f a->j a=F' a:=λa q=>aQ q;have E:∀a,f a->j a=none:=λa q=>aP q;have B:gL F j:=λa o e=>by
   have:¬f a:=by rintro⟨i,h,q,rfl⟩;obtain⟨_,b,_⟩:=m i h q;rw[b]at e;cases e
   rw[s a this];exact (n.trans g.ff) _ _ e
  have A:gL j F':=λa o e=>by
   by_cases q:f a
   .rw[E a q]at e;cases e
   .rw[s a q]at e;exact .of e
  refine⟨j,⟨B,A.trans g.fh,g.hh,λa l=>?_⟩,B,A,λa l u=>?_,λa l u=>?_⟩
  .by_cases q:f a
   .exact absurd (E a q) l
   .rw[s a q]at l;rcases g.nw a l with z|z
    .rw[C a q]at z;exact .inl z
    .exact .inr z
  .by_cases q:f a
   .obtain⟨i,h,e,rfl⟩:=id q;obtain⟨_,_,_,y,d,_⟩:=m i h e;exact⟨y,g.ff _ (.lst y) (by rw[D _ q];exact d)⟩
   .rw[s a q]at u;exact absurd u l
  .by_cases q:f a
   .obtain⟨i,h,e,rfl⟩:=id q;obtain⟨_,_,_,y,d,_⟩:=m i h e;rw[d];exact λz=>nomatch z
   .rw[s a q]at u;exact absurd u l
mutual
theorem j9.less(sb:gL Fb F)(h:∀a,F a≠none->Fb a=none->∃xs,F a=some (.lst xs)):∀{v} {t},j9 K F v t->lf t=true->j9 K Fb v t
 |_,_,.non,_=>.non
 |_,_,.bl b,_=>.bl b
 |_,_,.int i,_=>.int i
 |_,_,.str x,_=>.str x
 |_,_,.tup (a:=a) e r,l=>by
  refine .tup ?_ (gH.less sb h r (by simpa[lf] using l));cases q:Fb a with
  |none=>obtain⟨xs,z⟩:=h a (by rw[e];exact λz=>nomatch z) q;rw[e]at z;cases z
  |some u=>have k:=sb a u q;rw[e]at k;rw[rR k λ_ _ y=>nomatch y]
 |_,_,.lst _ _,l=>by simp[lf]at l
 |_,_,.scr _,l=>by simp[lf]at l
 |_,_,.obj (a:=a) (dx:=dx) e r,l=>by
  refine .obj (dx:=dx) ?_ (mG.less sb h r (by simpa[lf] using l));cases q:Fb a with
  |none=>obtain⟨xs,z⟩:=h a (by rw[e];exact λz=>nomatch z) q;rw[e]at z;cases z
  |some u=>have k:=sb a u q;rw[e]at k;rw[rR k λ_ _ y=>nomatch y]
 |_,_,.dic _ _,l=>by simp[lf]at l
 |_,_,.emp (a:=a) e,l=>by
  refine .emp ?_;cases q:Fb a with
  |none=>obtain⟨xs,z⟩:=h a (by rw[e];exact λz=>nomatch z) q;rw[e]at z;cases z
  |some u=>have k:=sb a u q;rw[e]at k;rw[rR k λ_ _ y=>nomatch y]
theorem gH.less(sb:gL Fb F)(h:∀a,F a≠none->Fb a=none->∃xs,F a=some (.lst xs)):∀{vs} {ts},gH K F vs ts->zj ts=true->gH K Fb vs ts
 |_,_,.nil,_=>.nil
 |_,_,.cons q r,l=>by rw[zj,bS]at l;exact .cons (j9.less sb h q l.1) (gH.less sb h r l.2)
theorem mG.less(sb:gL Fb F)(h:∀a,F a≠none->Fb a=none->∃xs,F a=some (.lst xs)):∀{vs} {ts},mG K F vs ts->N4 ts=true->mG K Fb vs ts
 |_,_,.nil,_=>.nil
 |_,_,.cons q r,l=>by rw[N4,bS]at l;exact .cons (j9.less sb h q l.1) (mG.less sb h r l.2)
end
end
end L3
namespace L3
open PySem L2
def kT(K:W.Frag)(F H:Hp)(Q:VK)(ts us:List T):Prop:=∀p l d c a b,Gr F H a b->H l=none->a l=none->H p=none->a p=none->p≠l->b l=some (.lst c)->b p=some (.tup (d++[.ref l]))->gH K a d ts->gH K a c us->Q (.ref p) b
def kT.of(h:kV K F H Q (.tup (ts++[.lst us]))):kT K F H Q ts us:=λp l u k j v g a b c d e f i r s=>by
 have q:=g.take f b a;have o:ju j l (.lst k) p=none:=by rw[gA e];exact d
 have n:gL j (ju j l (.lst k)):=jf b;have m:gL (ju j l (.lst k)) (ju (ju j l (.lst k)) p (.tup (u++[.ref l]))):=jf o;exact h (.ref p) _ v (q.take i o c) (.tup gB ((r.mono (n.trans m)).append (.cons (.lst (m _ _ gB) (s.mono (n.trans m))) .nil)))
inductive O where
 |bad|nx (ρ:En)|rt (t:T)|rf (ts:List T)|rn (ts us:List T)|bk (ρ:En)|ct (ρ:En)|er (C:Addr) (n:Option Int)
section
variable (K:W.Frag)(E:XK)
def kN(d:Fz)(e F:Hp)(D:St->Hp->Prop)(ρ:En):Prop:=∀b c a,gL F b->Sr K d e b c a ρ->D a c
noncomputable def O.res(o:O)(a:Fz)(b F:Hp)(D:ud):Prop:=match o with
 |.bad=>False
 |.nx ρ=>kN K a b F D.nx ρ
 |.rt t=>kV K a.hp b D.rt t
 |.rf ts=>kF K a.hp b D.rt ts
 |.rn ts us=>kT K a.hp b D.rt ts us
 |.bk ρ=>kN K a b F D.bk ρ
 |.ct ρ=>kN K a b F D.ct ρ
 |.er C n=>kE E a.hp b C n
noncomputable def MS(t:TS)(g:En->O):Prop:=∀a d F H c b D,Sr K a d F H c b->(g b).res K E a d F D->t D c H
end
section
variable {K:W.Frag}{E:XK}{t u ta tb:TE}{f fa fb:Pe->M T}{F0:Fz}{H0 F H F1 H1:Hp}{σ:St}{ρ:En}{D:ud}
def kN.go(h:kN K F0 H0 F N ρ)(s:gL F F1):kN K F0 H0 F1 N ρ:=λb c a d r=>h b c a (s.trans d) r
def O.res.go{o:O}(h:o.res K E F0 H0 F D)(s:gL F F1):o.res K E F0 H0 F1 D:=by
 cases o with
 |bad=>exact h
 |nx ρ=>exact kN.go h s
 |rt t=>exact h
 |rf ts=>exact h
 |rn ts us=>exact h
 |bk ρ=>exact kN.go h s
 |ct ρ=>exact kN.go h s
 |er C n=>exact h
noncomputable def O.of{b:Type}(m:M b)(k:b->O):O:=match m with
 |.bad=>.bad
 |.ok a=>k a
 |.er C n=>.er C n
@[simp] theorem O.of_ok(a:α) k:O.of (.ok a) k=k a:=rfl
@[simp] theorem O.of_bad k:O.of (.bad:M α) k=.bad:=rfl
@[simp] theorem O.of_er C n k:O.of (.er C n:M α) k=.er C n:=rfl
def O.res_of{m:M α}{k:α->O}(h:(O.of m k).res K E F0 H0 F D):m.res (λa=>(k a).res K E F0 H0 F D) (kE E F0.hp H0):=by cases m<;>exact h
@[simp] noncomputable def gh(a b:En->O):En->O:=λρ=>match a ρ with
 |.nx ρ'=>b ρ'
 |o=>o
def N7{t u:TS}(h:MS K E t a)(i:MS K E u b):MS K E (xx t u) (gh a b):=λF0 H0 F H σ ρ D r q=>by
 refine h F0 H0 F H σ ρ _ r ?_;unfold gh at q;cases e:a ρ with
 |nx ρ'=>rw[e]at q;intro d j c s g;exact i F0 H0 d j c ρ' D g (q.go s)
 |bad=>rw[e]at q;exact q
 |rt t=>rw[e]at q;exact q
 |rf ts=>rw[e]at q;exact q
 |rn ts us=>rw[e]at q;exact q
 |bk ρ=>rw[e]at q;exact q
 |ct ρ=>rw[e]at q;exact q
 |er C n=>rw[e]at q;exact q
@[simp] noncomputable def gM:En->O:=λρ=>.nx ρ
def Kj:MS K E Ai gM:=λF0 H0 F H σ ρ D r q=>q F H σ (.refl _) r
def Jq:MS K E BL (λ_=>.bad):=λ_ _ _ _ _ _ _ _ q=>q
def MT.inS(l:MT K E c fc)(r:Sr K F0 H0 F H σ ρ)(q:(O.of (fc (vw ρ)) k).res K E F0 H0 F D)
  (j:∀b a e,gL F a->Sr K F0 H0 a e σ ρ->(k b).res K E F0 H0 a D->Q b e):c σ H Q:=by
 obtain⟨o,p,g0,V,d⟩:=r.lend;refine l o H σ (vw ρ) Q g0.fh V ((O.res_of q).mono (λb z a e g=>?_) λC n z=>z.go g0);obtain⟨m,i,h,_⟩:=d a e g;exact j b m e h (r.grow i) (z.go h)
@[simp] noncomputable def j5(d:Pe->M Bool)(a b:En->O):En->O:=λρ=>.of (d (vw ρ)) λc=>if c then a ρ else b ρ
def QM{t u:TS}(g:MT K E c fc)(h:MS K E t a)(i:MS K E u b):MS K E (G6 c t u) (j5 fc a b):=λF0 H0 F H σ ρ D r q=>by
 refine g.inS r q λc j k s e d=>?_;cases c with
 |true=>rw[aP rfl];exact h _ _ _ _ _ _ _ e d
 |false=>rw[aQ aG];exact i _ _ _ _ _ _ _ e d
@[simp] noncomputable def gW(f:Pe->M T):En->O:=λρ=>.of (f (vw ρ)) λt=>.rt t
def N6(h:ME K E t f):MS K E (wA t) (gW f):=λF0 H0 F H σ ρ D r q=>by obtain⟨c,d,g0,V,a⟩:=r.lend;exact h c H σ (vw ρ) _ g0.fh V ((O.res_of q).mono (λb z=>kV.go z g0) λC n z=>z.go g0)
@[simp] noncomputable def wJ(f:Pe->M (List T)):En->O:=λρ=>.of (f (vw ρ)) λt=>.rf t
def Kk{f:Pe->M (List T)}(h:MF K E t f):MS K E (wA t) (wJ f):=λF0 H0 F H σ ρ D r q=>by obtain⟨c,d,g0,V,a⟩:=r.lend;exact h c H σ (vw ρ) _ g0.fh V ((O.res_of q).mono (λb z=>kF.go z g0) λC n z=>z.go g0)
@[simp] noncomputable def nG(i:Nat):En->O:=λρ=>match ρ[i]? with
 |some (some (.o ts))=>.rf ts
 |_=>.bad
def FV:MS K E (wA (lQ i)) (nG i):=λF0 H0 F H σ ρ D r q=>by
 unfold nG at q;split at q
 .rename_i g e;obtain⟨h,k,l⟩:=r.ov;obtain⟨a,b,c,j,d,z⟩:=k i g e;exact⟨_,a,q (h i) j F H r.gr c b d z⟩
 .exact q.elim
def se{a:Type}{l:List a}{x y:a}(h:(l.set i x)[i]? = some y):y=x:=by
 rw[List.getElem?_set]at h;simp only[if_true]at h;split at h
 .exact (Option.some.inj h).symm
 .cases h
def gF{a:Type}{l:List a}{x y:a}(h:(l.set i x)[j]? = some y):(j=i/\y=x)\/(j≠i/\l[j]? = some y):=by
 by_cases e:j=i
 .subst e;exact .inl ⟨rfl,se h⟩
 .rw[aq (λz=>e z.symm)]at h;exact .inr ⟨e,h⟩
def nH{a:Type}{l:List a}{x:a}(h:i<l.length):(l.set i x)[i]? = some x:=by rw[List.getElem?_set_self h]
def Sr.setP(r:Sr K F0 H0 F H σ ρ)(h:j9 K F v x):Sr K F0 H0 F H (σ.set i (some v)) (ρ.set i (some (.p x))):=by
 obtain⟨A,C,I⟩:=r.ov;refine⟨r.gr,by simp[r.len],λj t e=>?_,⟨A,λj m e=>?_,λj k m s e B=>?_⟩,λe y=>?_,λj l J n q=>?_,r.dv.set λ_ z=>nomatch z⟩
 .have N:j<ρ.length:=by simpa using (aa.mp e).1
  rcases gF e with⟨rfl,q⟩|⟨c,q⟩
  .cases q;exact⟨v,nH (by rw[r.len];exact N),h⟩
  .obtain⟨w,a,b⟩:=r.pv j t q;exact⟨w,by rw[aq (λz=>c z.symm)];exact a,b⟩
 .rcases gF e with⟨rfl,q⟩|⟨c,q⟩
  .cases q
  .obtain⟨a,b⟩:=C j m q;exact⟨by rw[aq (λz=>c z.symm)];exact a,b⟩
 .rcases gF e with⟨rfl,q⟩|⟨c,q⟩
  .cases q
  .rcases gF B with⟨rfl,o⟩|⟨P,o⟩
   .cases o
   .exact I j k m s q o
 .have L:=r.lv e y;refine⟨L.h,L.f,L.z,λj m q=>?_⟩;rcases gF q with⟨rfl,g⟩|⟨c,g⟩
  .cases g
  .rw[aq (λz=>c z.symm)];exact L.d j m g
 .rcases gF q with⟨rfl,g⟩|⟨c,g⟩
  .cases g
  .rw[aq (λz=>c z.symm)];exact r.sl j l J n g
def Sr.setO(r:Sr K F0 H0 F H σ ρ)(g:Gr F H F1 H1)(x:H l=none)(hf:F1 l=none)(hv:H1 l=some (.lst vs))(hr:gH K F1 vs ts) :
  Sr K F0 H0 F1 H1 (σ.set i (some (.ref l))) (ρ.set i (some (.o ts))):=by
 have s:=r.grow g;obtain⟨J,N,_⟩:=r.ov;obtain⟨I,Y,h2⟩:=s.ov;have P:∀j m,ρ[j]? = some (some (.o m))->I j≠l:=λj m e z=>by
  obtain⟨a,_⟩:=Y j m e;obtain⟨S,_,_,vs0,R,_⟩:=N j m e;rw[a]at S;have:I j=J j:=by simpa using S
  rw[<-this,z,x]at R;cases R
 refine⟨s.gr,by simp[r.len],λj t e=>?_,⟨λj=>if j=i then l else I j,λj m e=>?_,λj k m X e U v=>?_⟩,λe Q=>?_,λj Z y A q=>?_,s.dv.set λ_ z=>nomatch z⟩
 .rcases gF e with⟨rfl,q⟩|⟨c,q⟩
  .cases q
  .obtain⟨w,a,b⟩:=s.pv j t q;exact⟨w,by rw[aq (λz=>c z.symm)];exact a,b⟩
 .have C:j<ρ.length:=by simpa using (aa.mp e).1
  rcases gF e with⟨rfl,q⟩|⟨c,q⟩
  .cases q;dsimp only;rw[aP rfl];exact⟨nH (by rw[r.len];exact C),hf,gN r.gr.hh x,vs,hv,hr⟩
  .dsimp only;rw[aQ c];obtain⟨a,b⟩:=Y j m q;exact⟨by rw[aq (λz=>c z.symm)];exact a,b⟩
 .rcases gF e with⟨rfl,q⟩|⟨c,q⟩
  .rcases gF U with⟨rfl,p⟩|⟨B,p⟩
   .exact absurd rfl v
   .dsimp only;rw[aP rfl,aQ B];exact λz=>P k X p z.symm
  .rcases gF U with⟨rfl,p⟩|⟨B,p⟩
   .dsimp only;rw[aQ c,aP rfl];exact P j m q
   .dsimp only;rw[aQ c,aQ B];exact h2 j k m X q p v
 .have L:=s.lv e Q;have L0:=r.lv e Q;refine⟨L.h,L.f,L.z,λj ts q=>?_⟩;rcases gF q with⟨rfl,n⟩|⟨c,n⟩
  .intro z;have z':=se z;have:e.2.1=l:=by simpa using z'
   rw[<-this,L0.h]at x;cases x
  .rw[aq (λz=>c z.symm)];exact L.d j ts n
 .rcases gF q with⟨rfl,n⟩|⟨c,n⟩
  .cases n
  .rw[aq (λz=>c z.symm)];exact r.sl j Z y A n
@[simp] noncomputable def iD(f:Pe->M T)(ρ:En):M T:=f (lY ρ)
@[simp] noncomputable def mJ(f:Pe->M T)(ρ:En):M T:=(f (vw ρ)).bind λt=>if lf t then .ok t else .bad
def ME.inH(h:ME K E t f)(r:Sr K F0 H0 F H σ ρ)(q:(O.of (iD f ρ) k).res K E F0 H0 F D)
  (c:∀x v a b,Gr F H a b->j9 K a v x->Sr K F0 H0 a b σ ρ->(k x).res K E F0 H0 a D->Q v b):t σ H Q:=
 h F H σ (lY ρ) Q r.gr.fh r.vars ((O.res_of q).mono (λx z v a b g d=>c x v a b g d (r.grow g) (z.go g.ff)) λC n z=>z.go r.gr)
def ME.inB(h:ME K E t f)(r:Sr K F0 H0 F H σ ρ)(q:(O.of (mJ f ρ) k).res K E F0 H0 F D)
  (l:∀x v a b,Gr F H a b->j9 K a v x->Sr K F0 H0 a b σ ρ->(k x).res K E F0 H0 a D->Q v b):t σ H Q:=by
 obtain⟨s,w,g0,V,c⟩:=r.lend;refine h s H σ (vw ρ) Q g0.fh V ((M.res.unb (O.res_of q)).mono (λx z v a b g p=>?_) λC n z=>z.go g0);obtain⟨m,j,o,e,d,_⟩:=c a b g;by_cases i:lf x=true
 .rw[aP i]at z;exact l x v m b j (p.less e d i) (r.grow j) (O.res.go z o)
 .rw[aQ i]at z;exact z.elim
@[simp] noncomputable def setO(i:Nat)(f:En->M T):En->O:=λρ=>.of (f ρ) λt=>.nx (ρ.set i (some (.p t)))
def Dm(h:ME K E t f):MS K E (l3 t (jg i)) (setO i (iD f)):=λF0 H0 F H σ ρ D r q=>h.inH r q λx v a c g b d e=>e a c _ (.refl _) (d.setP b)
def KI(h:ME K E t f):MS K E (l3 t (jg i)) (setO i (mJ f)):=λF0 H0 F H σ ρ D r q=>h.inB r q λx v a c g b d e=>e a c _ (.refl _) (d.setP b)
@[simp] noncomputable def nC(f:Pe->M (List T))(ρ:En):M (List T):=f (lY ρ)
@[simp] noncomputable def tT(f:Pe->M (List T))(ρ:En):M (List T):=(f (vw ρ)).bind λa=>if zj a then .ok a else .bad
def MF.inH{f:Pe->M (List T)}(h:MF K E t f)(r:Sr K F0 H0 F H σ ρ)(q:(O.of (nC f ρ) k).res K E F0 H0 F D)
  (j:∀ts l vs e i,Gr F H e i->H l=none->e l=none->i l=some (.lst vs)->gH K e vs ts->(k ts).res K E F0 H0 e D->Q (.ref l) i):t σ H Q:=
 h F H σ (lY ρ) Q r.gr.fh r.vars ((O.res_of q).mono (λts z l vs e i g a b c d=>j ts l vs e i g a b c d (z.go g.ff)) λC n z=>z.go r.gr)
def MF.inB{f:Pe->M (List T)}(h:MF K E t f)(r:Sr K F0 H0 F H σ ρ)(q:(O.of (tT f ρ) k).res K E F0 H0 F D)
  (v:∀ts l vs e i,Gr F H e i->H l=none->e l=none->i l=some (.lst vs)->gH K e vs ts->(k ts).res K E F0 H0 e D->Q (.ref l) i):t σ H Q:=by
 obtain⟨y,A,g0,V,j⟩:=r.lend;refine h y H σ (vw ρ) Q g0.fh V ((M.res.unb (O.res_of q)).mono (λts z l vs e i g a b c d=>?_) λC n z=>z.go g0);obtain⟨w,s,x,m,o,_⟩:=j e i g;by_cases p:zj ts=true
 .rw[aP p]at z;exact v ts l vs w i s a (gN m b) c (d.less m o p) (O.res.go z x)
 .rw[aQ p]at z;exact z.elim
@[simp] noncomputable def mB(i:Nat)(f:En->M (List T)):En->O:=λρ=>.of (f ρ) λa=>.nx (ρ.set i (some (.o a)))
def DD{f:Pe->M (List T)}(h:MF K E t f):MS K E (l3 t (jg i)) (mB i (nC f)):=λF0 H0 F H σ ρ D r q=>h.inH r q λm l n e k g a b c d j=>j e k _ (.refl _) (r.setO g a b c d)
def Ku{f:Pe->M (List T)}(h:MF K E t f):MS K E (l3 t (jg i)) (mB i (tT f)):=λF0 H0 F H σ ρ D r q=>h.inB r q λm l n e k g a b c d j=>j e k _ (.refl _) (r.setO g a b c d)
@[simp] noncomputable def AQ(f:En->M T):En->O:=λρ=>.of (f ρ) λ_=>.nx ρ
def Im(h:ME K E t f):MS K E (oz t) (AQ (iD f)):=λF0 H0 F H σ ρ D r q=>h.inH r q λx v a b g e c d=>d a b _ (.refl _) c
def Sr.change(r:Sr K F0 H0 F H σ ρ)(e:ρ[i]? = some (some (.o ts)))(hw:gH K F ws us) :
  ∃l vs,σ[i]? = some (some (.ref l))/\H l=some (.lst vs)/\gH K F vs ts/\Sr K F0 H0 F (ju H l (.lst ws)) σ (ρ.set i (some (.o us))):=by
 obtain⟨C,Q,A⟩:=r.ov;obtain⟨a,b,c,vs,d,z⟩:=Q i ts e;refine⟨C i,vs,a,d,z,⟨r.gr.ff,λp u q=>?_,λp u q=>?_,r.gr.nw⟩,by simp[r.len],λj t q=>?_,⟨C,λj s q=>?_,λj k s x q N m=>?_⟩,λP X=>?_,λj R n B q=>?_,(r.dv.heap (.refl _) λp xs J _=>⟨by assumption,by rw[gA (λz=>by rw[z,d]at J;cases J)];exact J⟩).setR λ_ z=>nomatch z⟩
 .rw[gA (hC q b)];exact r.gr.fh p u q
 .rw[gA (hC q c)];exact r.gr.hh p u q
 .rcases gF q with⟨rfl,g⟩|⟨v,g⟩
  .cases g
  .exact r.pv j t g
 .rcases gF q with⟨rfl,g⟩|⟨v,g⟩
  .cases g;exact⟨a,b,c,ws,gB,hw⟩
  .obtain⟨Z,b',U,n,S,z'⟩:=Q j s g;exact⟨Z,b',U,n,by rw[gA (A j i s ts g e v)];exact S,z'⟩
 .rcases gF q with⟨rfl,g⟩|⟨v,g⟩
  .rcases gF N with⟨rfl,y⟩|⟨Y,y⟩
   .exact absurd rfl m
   .exact A j k ts x e y m
  .rcases gF N with⟨rfl,y⟩|⟨Y,y⟩
   .exact A j k s ts g e m
   .exact A j k s x g y m
 .have L:=r.lv P X;have I:P.2.1≠C i:=λw=>L.d i ts e (by rw[w];exact a);refine⟨by rw[gA I];exact L.h,L.f,L.z,λj s q=>?_⟩;rcases gF q with⟨rfl,g⟩|⟨v,g⟩
  .exact L.d _ ts e
  .exact L.d j s g
 .rcases gF q with⟨rfl,g⟩|⟨v,g⟩
  .cases g
  .exact r.sl j R n B g
@[simp] noncomputable def mC(ρ:En)(i:Nat):M (List T):=match ρ[i]? with
 |some (some (.o ts))=>.ok ts
 |_=>.bad
def sO(h:mC ρ i=.ok ts):ρ[i]? = some (some (.o ts)):=by
 unfold mC at h;split at h
 .rename_i a e;cases h;exact e
 .cases h
@[simp] noncomputable def oy(i:Nat)(f:En->M T):En->O:=λρ=>.of (mC ρ i) λa=>.of (f ρ) λt=>if a.length<sizeLine then .nx (ρ.set i (some (.o (a++[t])))) else .bad
def xb(r:Sr K F0 H0 F H σ ρ)(e:ρ[i]? = some (some (.o ts)))(k:j9 K F v x)
  (q:(if ts.length<sizeLine then O.nx (ρ.set i (some (.o (ts++[x])))) else .bad).res K E F0 H0 F D):∃l,σ[i]? = some (some (.ref l))/\oV (.ref l) [v] H λ_ H1=>D.nx σ H1:=by
 by_cases g:ts.length<sizeLine
 .rw[aP g]at q;obtain⟨m,j,_⟩:=r.ov;obtain⟨_,_,_,p,d,z⟩:=j i ts e;obtain⟨l,b,h,c,s,n⟩:=r.change e (z.append (.cons k .nil));have:b=p:=by
   have a:=(j i ts e).1;rw[h]at a;have:l=m i:=by simpa using a
   rw[this,d]at c;cases c;rfl
  subst this;exact⟨l,h,l,b,v,rfl,rfl,c,by rw[z.length];exact g,q F _ _ (.refl _) n⟩
 .rw[aQ g]at q;exact q.elim
def FR(K:W.Frag)(i:Nat)(a:TE):TE:=Py K "list" oV (lQ i) (nK a qQ)
def Kh(k:∀l xs H,H l=some (.lst xs)->OG K "list" (.ref l) H)(h:ME K E t f):MS K E (oz (FR K i t)) (oy i (iD f)):=λF0 H0 F H σ ρ D r q=>by
 unfold oy at q;cases e:mC ρ i with
 |bad=>rw[e]at q;exact q.elim
 |er C n=>unfold mC at e;split at e<;>cases e
 |ok ts=>rw[e]at q;have j:=sO e;obtain⟨y,s,_⟩:=r.ov;obtain⟨a,_,_,z,d,_⟩:=s i ts j;refine⟨_,a,k _ _ _ d,?_⟩;refine h.inH r q λx v w A g o p m=>?_;obtain⟨l,c,b⟩:=xb p j o m;rw[a]at c;cases c;exact b
def Km(k:∀l xs H,H l=some (.lst xs)->OG K "list" (.ref l) H)(h:ME K E t f):MS K E (oz (FR K i t)) (oy i (mJ f)):=λF0 H0 F H σ ρ D r q=>by
 unfold oy at q;cases e:mC ρ i with
 |bad=>rw[e]at q;exact q.elim
 |er C n=>unfold mC at e;split at e<;>cases e
 |ok ts=>rw[e]at q;have j:=sO e;obtain⟨y,s,_⟩:=r.ov;obtain⟨a,_,_,z,d,_⟩:=s i ts j;refine⟨_,a,k _ _ _ d,?_⟩;refine h.inB r q λx v w A g o p m=>?_;obtain⟨l,c,b⟩:=xb p j o m;rw[a]at c;cases c;exact b
@[simp] noncomputable def uK(i:Nat)(b:En->M T)(f:En->M T):En->O:=λρ=>.of (mC ρ i) λa=>.of (f ρ) λt=>.of (b ρ) λk=>match k with
 |.int k=>match xi a.length k with
  |some j=>.nx (ρ.set i (some (.o (a.set j t))))
  |none=>.bad
 |_=>.bad
theorem Ip{i:Nat}{ts:List T}{x y:T}{v w:V}{l:Addr}(n:Sr K F0 H0 F H σ ρ)(m:ρ[i]? = some (some (.o ts)))(q:σ[i]? = some (some (.ref l)))(A:j9 K F v x)(h:j9 K F w y)
  (b:(match y with
   |.int k=>match xi ts.length k with
    |some j=>O.nx (ρ.set i (some (.o (ts.set j x))))
    |none=>.bad
   |_=>.bad).res K E F0 H0 F D):Du (.ref l) w v H λI=>D.nx σ I:=by
 cases h with
 |int k=>
  dsimp only at b;cases g:xi ts.length k with
  |none=>rw[g]at b;exact b.elim
  |some j=>
   rw[g]at b;obtain⟨B,r,_⟩:=n.ov;obtain⟨_,_,_,C,d,z⟩:=r i ts m;obtain⟨J,c,p,e,L,s⟩:=n.change m (z.set A j);rw[q]at p;cases p;have:c=C:=by
    have a:=(r i ts m).1;rw[q]at a;have:l=B i:=by simpa using a
    rw[this,d]at e;cases e;rfl
   subst this;exact⟨l,c,k,j,rfl,rfl,e,by rw[z.length];exact g,b F _ _ (.refl _) s⟩
 |_=>exact b.elim
def NV(h:ME K E t f)(j:ME K E tk fk):MS K E (l3 t (Os (lQ i) tk Du)) (uK i (mJ fk) (mJ f)):=λF0 H0 F H σ ρ D r q=>by
 unfold uK at q;cases e:mC ρ i with
 |bad=>rw[e]at q;exact q.elim
 |er C n=>unfold mC at e;split at e<;>cases e
 |ok ts=>rw[e]at q;have c:=sO e;obtain⟨I,s,_⟩:=r.ov;have a:=(s i ts c).1;refine h.inB r q λx v z J g l p k=>⟨_,a,?_⟩;exact j.inB p k λy w B A o b d m=>Ip d c a (l.mono o.ff) b m
end
end L3
namespace L3
open PySem L2
section
variable {K:W.Frag}{E:XK}{t u ta tb:TE}{f fa fb:Pe->M T}{F0:Fz}{H0 F H F1 H1:Hp}{σ:St}{ρ:En}{D:ud}
structure xB(K:W.Frag)(J:It)(its:List T)(F1:Hp):Prop where
 go:∀i H,gL F1 H->i<its.length->J.go i H
 stop:∀H,gL F1 H->J.stop its.length H
 yld:∀(i:Nat) t F H x H',gL F1 F->gL F H->its[i]? = some t->J.yld i H x H'->∃F',Gr F H F' H'/\j9 K F' x t
def kI(K:W.Frag)(F H:Hp)(R:It->Hp->Prop)(its:List T):Prop:=∀J a b,Gr F H a b->xB K J its a->R J b
noncomputable def MI(K:W.Frag)(E:XK)(w:TI)(f:Pe->M (List T)):Prop:=∀F H σ ρ R,gL F H->lF K F σ ρ->(f ρ).res (kI K F H R) (kE E F H)->w σ H R
def Tt(K:W.Frag)(F H:Hp)(R:It->Hp->Prop)(its:List T):Prop:=∀J b a,Gr F H b a->(∀F1,xB K J its F1)->R J a
noncomputable def PY(K:W.Frag)(E:XK)(w:TI)(f:Pe->M (List T)):Prop:=∀F H σ ρ R,gL F H->lF K F σ ρ->(f ρ).res (Tt K F H R) (kE E F H)->w σ H R
def PY.mi{f:Pe->M (List T)}(h:PY K E w f):MI K E w f:=λF H σ ρ R s V q=>h F H σ ρ R s V (q.mono (λb z J a c g i=>z J a c g (i a)) λ_ _ z=>z)
@[simp] noncomputable def Rn(fa:Pe->M T):Pe->M (List T):=λρ=>(fa ρ).bind λx=>match x with
 |.lst ts=>.ok ts
 |.scr ns=>.ok (ns.map T.int)
 |_=>.bad
@[simp] noncomputable def Sg(fa:Pe->M T):Pe->M (List T):=λρ=>(fa ρ).bind λx=>match x with
 |.tup ts=>.ok ts
 |_=>.bad
def zD(c:lC K F a xs)(r:gH K F xs ts):xB K (RQ K a) ts F where
 go:=λi H s l=>by have e:xs[i]? = some (xs[i]'(by rw[r.length];exact l)):=ag _;exact⟨xs,_,s.seq c,e⟩
 stop:=λH s=>⟨xs,s.seq c,by rw[r.length];exact aJ _⟩
 yld:=λi t h H x n g d e y=>by obtain⟨rfl,j⟩:=y;have m:=j xs ((g.trans d).seq c);obtain⟨o,b,k⟩:=r.at_ m;rw[e]at b;cases b;exact⟨h,.refl d,k.mono g⟩
def t7(s:gL F H)(h:F a=some (.tup xs)):mD K H a xs:=mD.of (s _ _ h)
def NQ(c:F a=some (.tup xs))(r:gH K F xs ts):xB K (RK K a) ts F where
 go:=λi H s l=>by have e:xs[i]? = some (xs[i]'(by rw[r.length];exact l)):=ag _;exact⟨xs,_,t7 s c,e⟩
 stop:=λH s=>⟨xs,t7 s c,by rw[r.length];exact aJ _⟩
 yld:=λi t h H x n g d e y=>by obtain⟨rfl,j⟩:=y;have m:=j xs (t7 (g.trans d) c);obtain⟨o,b,k⟩:=r.at_ m;rw[e]at b;cases b;exact⟨h,.refl d,k.mono g⟩
def zk(d:ME K E ta fa):MI K E (Aj K ta) (Rn fa):=λF H σ ρ R s V q=>by
  refine d.run s V q λx v F1 H1 a c b=>?_;cases c<;>first
    |exact b.elim
    | (rename_i h r
       exact⟨_,rfl,⟨_,lC.of (a.fh _ _ h)⟩,b _ F1 H1 a (zD (lC.of h) r)⟩)
    | (rename_i h
       exact⟨_,rfl,⟨_,a.fh.seq h⟩,b _ F1 H1 a (zD h (gH.of_ints _))⟩)
def N5(d:ME K E ta fa):MI K E (OA K ta) (Sg fa):=λF H σ ρ R s V q=>by
  refine d.run s V q λx v F1 H1 a c b=>?_;cases c<;>first
    |exact b.elim
    | (rename_i h r
       exact⟨_,rfl,⟨_,mD.of (a.fh _ _ h)⟩,b _ F1 H1 a (NQ h r)⟩)
def Q7:(2:Int) ^ 62=4611686018427387904:=by decide +kernel
def RB:(2:Int) ^ 63=9223372036854775808:=by decide +kernel
noncomputable def BD(j:Int):Bool:=decide (j.natAbs<4611686018427387904)
def qF(h:BD j=true):-(2 ^ 62)<=j/\j<2 ^ 62:=by rw[Q7];have:=of_decide_eq_true h;omega
def l8(h:j.natAbs<=1000000):BD j=true:=aB (by omega)
noncomputable def yR(a:Int)(n:Nat):List T:=(List.range n).map λ(i:Nat)=>T.int (a+(i:Int))
def M8 F:xB K (P9 lo n) (yR lo n) F where
 go:=λi H s a=>by show i<n;simpa[yR] using a
 stop:=λH s=>by simp[yR,P9]
 yld:=λi t b H x g d c e y=>by
  obtain⟨rfl,rfl⟩:=y;have a:i<n:=by simpa[yR] using (aa.mp e).1
  have:t=.int (lo+i):=by unfold yR at e;rw[av,List.getElem?_range a]at e;cases e;rfl
  rw[this];exact⟨b,.refl c,.int _⟩
@[simp] noncomputable def kY(fa:Pe->M (List T)):Pe->M (List T):=λρ=>(fa ρ).bind λa=>match a with
 |[.int j]=>if BD j then .ok (yR 0 j.toNat) else .bad
 |_=>.bad
def K4{ta:TA}{fa:Pe->M (List T)}(h:MA K E ta fa):PY K E (Jo ta) (kY fa):=λF H σ ρ R s V q=>by
 refine h.run s V q λi k F1 H1 e g c=>?_;split at c
 .rename_i j;split at c
  .rename_i d;cases g with
   |cons a b=>cases a;cases b;exact⟨j,rfl,(qF d).1,(qF d).2,c _ F1 H1 e M8⟩
  .exact c.elim
 .exact c.elim
noncomputable def seqB(b:Bool):T->M (List T)
 |.tup ts=>if b then .ok ts else .bad
 |.lst ts=>if b then .bad else .ok ts
 |.scr ns=>if b then .bad else .ok (ns.map T.int)
 |_=>.bad
def zW(r:j9 K F v x)(e:seqB b x=.ok ts):∃a xs,v=.ref a/\(∀H,gL F H->uP K H b a xs)/\gH K F xs ts:=by
 cases r<;>try (cases e)
 .rename_i a xs d h r;cases b with
  |true=>cases e;exact⟨a,xs,rfl,λH s=>by unfold uP;rw[aP rfl];exact mD.of (s _ _ h),r⟩
  |false=>cases e
 .rename_i a xs d h r;cases b with
  |true=>cases e
  |false=>cases e;exact⟨a,xs,rfl,λH s=>by unfold uP;rw[aQ aG];exact lC.of (s _ _ h),r⟩
 .rename_i a c h;cases b with
  |true=>cases e
  |false=>cases e;exact⟨a,_,rfl,λH s=>by unfold uP;rw[aQ aG];exact s.seq h,gH.of_ints c⟩
noncomputable def zm(xs a:List T):List T:=(xs.zip a).map λp=>T.tup [p.1,p.2]
def Ph(l:∀H,gL F H->uP K H b1 l1 xs)(j:gH K F xs ts)(m:∀H,gL F H->uP K H b2 l2 ys)(d:gH K F ys us):xB K (RH K b1 b2 l1 l2) (zm ts us) F where
 go:=λi H s C=>by
  have a:i<ts.length/\i<us.length:=by simp[zm]at C;omega
  have c:xs[i]? = some (xs[i]'(by rw[j.length];exact a.1)):=ag _;have k:ys[i]? = some (ys[i]'(by rw[d.length];exact a.2)):=ag _;exact⟨xs,ys,_,_,l H s,m H s,c,k⟩
 stop:=λH s=>⟨xs,ys,l H s,m H s,by simp[zm,j.length,d.length];omega⟩
 yld:=λi t L H x N b h e y=>by
  obtain⟨p,r,A,rfl,J,rfl,c,k⟩:=y;obtain⟨q,I,v⟩:=j.at_ (c xs (l H (b.trans h)));obtain⟨n,w,B⟩:=d.at_ (k ys (m H (b.trans h)));have:t=.tup [q,n]:=by unfold zm at e;rw[av,(List.getElem?_zip_eq_some (z:=(q,n))).mpr ⟨I,w⟩]at e;cases e;rfl
  rw[this];have g:=Gr.new (o:=.tup [r,A]) h J;exact⟨_,g,.tup gB (.cons ((v.mono b).mono g.ff) (.cons ((B.mono b).mono g.ff) .nil))⟩
noncomputable def Ol(b e:Bool)(fa:Pe->M (List T)):Pe->M (List T):=λρ=>(fa ρ).bind λc=>match c with
 |[x,y]=>(seqB b x).bind λd=>(seqB e y).bind λa=>.ok (zm d a)
 |_=>.bad
def yL:seqB b x≠.er C n:=by cases x<;>cases b<;>exact λz=>nomatch z
def Jy{ta:TA}{fa:Pe->M (List T)}(w:MA K E ta fa):MI K E (Nf K b1 b2 ta) (Ol b1 b2 fa):=λF H σ ρ R s V q=>by
 refine w.run s V q λz A F1 H1 h m d=>?_;split at d
 .rename_i x y;cases m with
  |cons a b=>
   cases b with
   |cons b c=>
    cases c;cases e:seqB b1 x with
    |bad=>rw[e]at d;exact d.elim
    |er C n=>exact absurd e yL
    |ok ts=>
     rw[e]at d;cases g:seqB b2 y with
     |bad=>simp only[g,M.bind_ok]at d;exact d.elim
     |er C n=>exact absurd g yL
     |ok us=>simp only[g,M.bind_ok]at d;obtain⟨r,k,rfl,j,p⟩:=zW a e;obtain⟨v,o,rfl,i,l⟩:=zW b g;exact⟨r,v,rfl,⟨k,j _ h.fh⟩,⟨o,i _ h.fh⟩,d _ F1 H1 h (Ph j p i l)⟩
 .exact d.elim
def MG(K:W.Frag)(g:TG)(m:T->Pe->Option Pe):Prop:=∀F H σ (ρ:Pe) x t ρ' Q,gL F H->σ.length=ρ.length->lF K F σ ρ->j9 K F x t->m t ρ=some ρ'->(∀a,a.length=ρ'.length->lF K F a ρ'->Q a H)->g x σ H Q
def PH(K:W.Frag)(g:JK)(m:List T->Pe->Option Pe):Prop:=∀F H σ (ρ:Pe) xs ts ρ' Q,gL F H->σ.length=ρ.length->lF K F σ ρ->gH K F xs ts->m ts ρ=some ρ'->(∀a,a.length=ρ'.length->lF K F a ρ'->Q a H)->g xs σ H Q
@[simp] def jP(i:Nat):T->Pe->Option Pe:=λt ρ=>some (ρ.set i (some t))
def lF.set{ρ:Pe}(V:lF K F σ ρ)(d:σ.length=ρ.length)(h:j9 K F v x):lF K F (σ.set i (some v)) (ρ.set i (some x)):=λj t e=>by
 have c:j<ρ.length:=by simpa using (aa.mp e).1
 rcases gF e with⟨rfl,q⟩|⟨c,q⟩
 .cases q;exact⟨v,nH (by rw[d];exact c),h⟩
 .obtain⟨w,a,b⟩:=V j t q;exact⟨w,by rw[aq (λz=>c z.symm)];exact a,b⟩
def Kx:MG K (jg i) (jP i):=λF H σ ρ x t b Q s a V r e k=>by cases e;exact k _ (by simp[a]) (V.set a r)
@[simp] noncomputable def oI:List T->Pe->Option Pe
 |[],ρ=>some ρ
 |_::_,_=>none
@[simp] def iX(m:T->Pe->Option Pe)(n:List T->Pe->Option Pe):List T->Pe->Option Pe
 |[],_=>none
 |t::ts,ρ=>(m t ρ).bind (n ts)
def J9:PH K ET oI:=λF H σ ρ g h c Q s d V r e k=>by
 cases r with
 |nil=>cases e;exact⟨rfl,k σ d V⟩
 |cons a b=>cases e
def Jt(o:MG K g m)(p:PH K gs n):PH K (vX g gs) (iX m n):=λF H σ ρ x y d Q s w V r e k=>by
 cases r with
 |nil=>cases e
 |cons a b=>
  rename_i v t j c;have e:(m t ρ).bind (n c)=some d:=e;cases q:m t ρ with
  |none=>rw[q]at e;cases e
  |some ρ1=>rw[q]at e;refine⟨v,j,rfl,o F H σ ρ v t ρ1 _ s w V a q λi h l=>?_⟩;exact p F H i ρ1 j c d Q s h l b e k
@[simp] noncomputable def oO(k:Nat)(m:List T->Pe->Option Pe):T->Pe->Option Pe
 |.tup ts,ρ=>if ts.length=k then m ts ρ else none
 |_,_=>none
def M9(h:PH K g m):MG K (EN K k g) (oO k m):=λF H σ ρ x t b Q s i V r e q=>by
 cases r with
 |tup hx rs=>
  rename_i a j d;have e:(if d.length=k then m d ρ else none)=some b:=e;by_cases c:d.length=k
  .rw[aP c]at e;exact⟨_,_,rfl,mD.of (s _ _ hx),by rw[rs.length];exact c,h F H σ ρ _ _ b Q s i V rs e q⟩
  .rw[aQ c]at e;cases e
 |_=>cases e
noncomputable def JJ(K:W.Frag)(g:TG)(m:T->En->Option En):Prop:=∀F0 H0 F H σ ρ x t b Q,Sr K F0 H0 F H σ ρ->j9 K F x t->m t ρ=some b->(∀a,Sr K F0 H0 F H a b->Q a H)->g x σ H Q
noncomputable def Gx(K:W.Frag)(g:JK)(m:List T->En->Option En):Prop:=∀F0 H0 F H σ ρ c d b Q,Sr K F0 H0 F H σ ρ->gH K F c d->m d ρ=some b->(∀a,Sr K F0 H0 F H a b->Q a H)->g c σ H Q
@[simp] noncomputable def jA(i:Nat):T->En->Option En:=λt ρ=>some (ρ.set i (some (.p t)))
def Hi:JJ K (jg i) (jA i):=λF0 H0 F H σ ρ x t a Q s r e k=>by cases e;exact k _ (s.setP r)
@[simp] noncomputable def kC:List T->En->Option En
 |[],ρ=>some ρ
 |_::_,_=>none
@[simp] noncomputable def gY(m:T->En->Option En)(n:List T->En->Option En):List T->En->Option En
 |[],_=>none
 |t::ts,ρ=>(m t ρ).bind (n ts)
def G9:Gx K ET kC:=λF0 H0 F H σ ρ d g c Q s r e k=>by
 cases r with
 |nil=>cases e;exact⟨rfl,k σ s⟩
 |cons a b=>cases e
def Ge(j:JJ K g m)(o:Gx K gs n):Gx K (vX g gs) (gY m n):=λF0 H0 F H σ ρ p w d Q s r e k=>by
 cases r with
 |nil=>cases e
 |cons a b=>
  rename_i v t i c;have e:(m t ρ).bind (n c)=some d:=e;cases q:m t ρ with
  |none=>rw[q]at e;cases e
  |some ρ1=>rw[q]at e;refine⟨v,i,rfl,j F0 H0 F H σ ρ v t ρ1 _ s a q λh l=>?_⟩;exact o F0 H0 F H h ρ1 i c d Q l b e k
@[simp] noncomputable def kr(k:Nat)(m:List T->En->Option En):T->En->Option En
 |.tup ts,ρ=>if ts.length=k then m ts ρ else none
 |_,_=>none
def KR(h:Gx K g m):JJ K (EN K k g) (kr k m):=λF0 H0 F H σ ρ x t b Q s r e q=>by
 cases r with
 |tup hx rs=>
  rename_i a i d;have e:(if d.length=k then m d ρ else none)=some b:=e;by_cases c:d.length=k
  .rw[aP c]at e;exact⟨_,_,rfl,mD.of (s.gr.fh _ _ hx),by rw[rs.length];exact c,h F0 H0 F H σ ρ _ _ b Q s rs e q⟩
  .rw[aQ c]at e;cases e
 |_=>cases e
noncomputable def iW(m:T->En->Option En)(g:En->O):List T->En->O
 |[],ρ=>.nx ρ
 |t::ts,ρ=>match m t ρ with
  |none=>.bad
  |some ρ1=>match g ρ1 with
   |.nx ρ2=>iW m g ts ρ2
   |.ct ρ2=>iW m g ts ρ2
   |.bk ρ2=>.nx ρ2
   |o=>o
theorem C8{tb:TS}{J:It}(hg:JJ K g m)(hb:MS K E tb gb){G:Hp->Hp->Prop}(P:∀i F H,G F H->i<its.length->J.go i H)(R:∀F H,G F H->J.stop its.length H)(X:∀(i:Nat) t F H x c,G F H->its[i]? = some t->J.yld i H x c->∃d,Gr F H d c/\j9 K d x t)
  (S:∀d c b ρ',gL F1 d->Sr K F0 H0 d c b ρ'->G d c) (r:Sr K F0 H0 F H σ ρ) (s1:gL F1 F)
  (q:(iW m gb its ρ).res K E F0 H0 F D):∃W:Nat->Nat->St->Hp->Prop,(∃m,W 0 m σ H)/\∀i m σ H,W i m σ H->
 (J.stop i H/\D.nx σ H)\/(J.go i H/\∃N:St->Hp->Prop,(∀b c,N b c->∃m',m'<m/\W (i+1) m' b c)/\∀x c,J.yld i H x c->g x σ c λY H2=>tb {D with nx:=N,ct:=N,bk:=D.nx} Y H2):=by
 refine⟨λi k b c=>i<=its.length/\k=its.length-i/\∃d ρ',gL F1 d/\Sr K F0 H0 d c b ρ'/\(iW m gb (its.drop i) ρ').res K E F0 H0 d D,⟨_,bJ _,rfl,F,ρ,s1,r,by simpa using q⟩,?_⟩
 rintro i k p L ⟨hi,rfl,I,A,w,v,a⟩
 by_cases h:i<its.length
 .right;refine⟨P i I L (S _ _ _ _ w v) h,λb c=>∃d ρ',gL F1 d/\Sr K F0 H0 d c b ρ'/\(iW m gb (its.drop (i+1)) ρ').res K E F0 H0 d D,λb c z=>⟨its.length-(i+1),by omega,h,rfl,z⟩,λx c y=>?_⟩;have et:=ag h;obtain⟨Z,o,rp⟩:=X i _ I L x c (S _ _ _ _ w v) et y;rw[c6 h]at a;unfold iW at a;cases Q:m its[i] A with
  |none=>rw[Q]at a;exact a.elim
  |some ρ3=>
   rw[Q]at a;refine hg F0 H0 Z c p A x _ ρ3 _ (v.grow o) rp Q λb r'=>?_;refine hb F0 H0 Z c b ρ3 _ r' ?_;dsimp only at a;cases j:gb ρ3 with
   |bad=>rw[j]at a;exact a.elim
   |nx ρ4=>rw[j]at a;exact λd U B s l=>⟨d,ρ4,(w.trans o.ff).trans s,l,O.res.go a (o.ff.trans s)⟩
   |ct ρ4=>rw[j]at a;exact λd U B s l=>⟨d,ρ4,(w.trans o.ff).trans s,l,O.res.go a (o.ff.trans s)⟩
   |bk ρ4=>rw[j]at a;exact kN.go a o.ff
   |rt t=>rw[j]at a;exact a
   |rf ts=>rw[j]at a;exact a
   |rn ts us=>rw[j]at a;exact a
   |er C n=>rw[j]at a;exact a
 .left;have e:i=its.length:=by omega
  subst e;refine⟨R I L (S _ _ _ _ w v),?_⟩;rw[List.drop_length]at a;exact a I L p (.refl _) v
def tY{tb:TS}(o:JJ K g m)(l:MS K E tb gb)(a:xB K J its F1)(r:Sr K F0 H0 F H σ ρ)(k:gL F1 F)
  (q:(iW m gb its ρ).res K E F0 H0 F D):∃W:Nat->Nat->St->Hp->Prop,(∃m,W 0 m σ H)/\∀i m σ H,W i m σ H->
 (J.stop i H/\D.nx σ H)\/(J.go i H/\∃N:St->Hp->Prop,(∀c b,N c b->∃h,h<m/\W (i+1) h c b)/\∀x b,J.yld i H x b->g x σ b λd j=>tb {D with nx:=N,ct:=N,bk:=D.nx} d j):=
 C8 (G:=λF H=>gL F1 F/\gL F H) o l (λi F H q n=>a.go i H (q.1.trans q.2) n) (λF H q=>a.stop H (q.1.trans q.2)) (λi t F H x b q e y=>a.yld i t F H x b q.1 q.2 e y) (λ_ _ _ _ s r=>⟨s,r.gr.fh⟩) r k q
@[simp] noncomputable def mH(b:Pe->M (List T))(m:T->En->Option En)(g:En->O):En->O:=λρ=>.of (b (lY ρ)) λa=>iW m g a ρ
def MV{tb:TS}(e:MI K E w fi)(h:JJ K g m)(d:MS K E tb gb):MS K E (Cj w g tb) (mH fi m gb):=λF0 H0 F H σ ρ D r q=>e F H σ (lY ρ) _ r.gr.fh r.vars ((O.res_of q).mono (λc z J i j b a=>tY h d a (r.grow b) (.refl _) (z.go b.ff)) λC n z=>z.go r.gr)
@[simp] noncomputable def pG(b:Pe->M (List T))(m:T->En->Option En)(g:En->O):En->O:=λρ=>.of (b (vw ρ)) λa=>iW m g a ρ
def La{tb:TS}(k:PY K E w fi)(s:JJ K g m)(i:MS K E tb gb):MS K E (Cj w g tb) (pG fi m gb):=λF0 H0 F H σ ρ D r q=>by obtain⟨l,v,g0,V,a⟩:=r.lend;refine k l H σ (vw ρ) _ g0.fh V ((O.res_of q).mono (λd z J e p o c=>?_) λC n z=>z.go g0);obtain⟨h,b,j,_⟩:=a e p o;exact tY s i (c h) (r.grow b) (.refl _) (z.go j)
noncomputable def lS(c:Pe->M Bool)(g:En->O):Nat->En->O
 |0,_=>.bad
 |n+1,ρ=>.of (c (vw ρ)) λb=>if b then (match g ρ with
   |.nx ρ2=>lS c g n ρ2
   |.ct ρ2=>lS c g n ρ2
   |.bk ρ2=>.nx ρ2
   |o=>o) else .nx ρ
def Jj{tb:TS}(h:En->Nat)(J:MT K E c fc)(L:MS K E tb gb):MS K E (C3 c tb) (λρ=>lS fc gb (h ρ) ρ):=λF0 H0 F H σ ρ D r q=>by
 refine⟨λn g o=>∃d e,gL F d/\Sr K F0 H0 d o g e/\(lS fc gb n e).res K E F0 H0 d D,⟨h ρ,F,ρ,.refl _,r,q⟩,?_⟩;rintro n k P ⟨N,l,x,I,p⟩;cases n with
 |zero=>exact p.elim
 |succ n=>
  unfold lS at p;refine J.inS I p λb w B A y a=>?_;cases b with
  |true=>
   rw[aP rfl]at a ⊢;refine⟨λg o=>∃d e,gL F d/\Sr K F0 H0 d o g e/\(lS fc gb n e).res K E F0 H0 d D,λg o z=>⟨n,bI n,z⟩,?_⟩;refine L F0 H0 w B k l _ y ?_;cases i:gb l with
   |bad=>rw[i]at a;exact a.elim
   |nx ρ4=>rw[i]at a;exact λd v m s j=>⟨d,ρ4,(x.trans A).trans s,j,O.res.go a s⟩
   |ct ρ4=>rw[i]at a;exact λd v m s j=>⟨d,ρ4,(x.trans A).trans s,j,O.res.go a s⟩
   |bk ρ4=>rw[i]at a;exact a
   |rt t=>rw[i]at a;exact a
   |rf ts=>rw[i]at a;exact a
   |rn ts us=>rw[i]at a;exact a
   |er C n=>rw[i]at a;exact a
  |false=>rw[aQ aG]at a ⊢;exact a w B k (.refl _) y
@[simp] noncomputable def nN(a:List (Option Nat))(ρ:Pe):Pe:=a.map fun
 |none=>none
 |some j=>(ρ[j]?).getD none
def lF.pull{ρ:Pe}(V:lF K F σ ρ) ix:lF K F (L2.pull ix σ) (nN ix ρ):=λi t e=>by
 unfold nN at e;rw[av]at e;cases q:ix[i]? with
 |none=>rw[q]at e;cases e
 |some w=>
  rw[q]at e;cases w with
  |none=>cases e
  |some j=>
   have c:(ρ[j]?).getD none=some t:=by simpa using e
   cases z:ρ[j]? with
   |none=>rw[z]at c;cases c
   |some y=>rw[z]at c;have:y=some t:=c;rw[this]at z;obtain⟨v,a,b⟩:=V j t z;refine⟨v,?_,b⟩;unfold L2.pull;rw[av,q];simp[a]
@[simp] noncomputable def sE(m:T->Pe->Option Pe)(c:Pe->M Bool)(a:Pe->M T)(ρ:Pe)(t:T):M (Option T):=match m t ρ with
 |none=>.bad
 |some ρ1=>(c ρ1).bind λb=>if b then (a ρ1).bind λx=>.ok (some x) else .ok none
noncomputable def pR(k:T->M (Option T)):List T->M (List T)
 |[]=>.ok []
 |t::ts=>(k t).bind λo=>(pR k ts).bind λr=>.ok (match o with
  |some x=>x::r
  |none=>r)
def JP:XK:=λ_ _ _=>False
def NM:MT K E Ng (λ_=>.ok true):=λF H σ ρ Q s V q=>q F H (.refl s)
theorem GE{ρ:Pe}(hg:MG K g m)(ht:MT K JP tt ft)(he:ME K JP te fe)(V:lF K F1 σ ρ)
  (j:xB K J its F1) (s:gL F1 H1) (hl:its.length<sizeLine) (q:(pR (sE m ft fe (nN ix ρ)) its).res (kF K F1 H1 Q) (λ_ _=>False)):Sm J ix g tt te σ H1 Q:=by
 refine⟨λi k R H=>i<=its.length/\k=its.length-i/\∃X d,Gr F1 H1 X H/\gH K X R d/\d.length<=i/\(pR (sE m ft fe (nN ix ρ)) (its.drop i)).res (λS=>kF K F1 H1 Q (d++S)) (λ_ _=>False),
  ⟨_,bJ _,rfl,F1,[],.refl s,.nil,bJ _,by simpa using q⟩,?_⟩
 rintro i k R C ⟨hi,rfl,Z,d,c,A,tl,p⟩;by_cases a:i<its.length
 .right;refine⟨j.go i C (c.ff.trans c.fh) a,by rw[A.length];omega,λx P y=>?_⟩;have et:=ag a;obtain⟨U,r,rp⟩:=j.yld i _ Z C x P c.ff c.fh et y;rw[c6 a]at p;unfold pR at p;have h:=M.res.unb p;unfold sE at h;cases B:m its[i] (nN ix ρ) with
  |none=>rw[B]at h;exact h.elim
  |some ρ3=>
   rw[B]at h;have l:=c.trans r;have V3:=(V.mono l.ff).pull ix;refine hg U P _ _ x _ ρ3 _ r.fh (by simp[L2.pull,nN]) V3 rp B λo hl' V'=>?_;have q4:=M.res.unb h;refine ht U P o ρ3 _ r.fh V' (q4.mono (λb z Y H4 n=>?_) λ_ _ z=>z.elim);cases b with
   |true=>rw[aP rfl]at z ⊢;have q5:=M.res.unb z;refine he Y H4 o ρ3 _ n.fh (V'.mono n.ff) (q5.mono (λx' z' v F5 H5 g5 N=>?_) λ_ _ z=>z.elim);refine⟨its.length-(i+1),by omega,a,rfl,F5,d++[x'],(l.trans n).trans g5,(A.mono (r.ff.trans (n.ff.trans g5.ff))).append (.cons N .nil),by simp;omega,?_⟩;have I:=M.res.unb z';exact I.mono (λS w=>by rw[bY];exact w) λ_ _ w=>w
   |false=>rw[aQ aG]at z ⊢;refine⟨its.length-(i+1),by omega,a,rfl,Y,d,l.trans n,A.mono (r.ff.trans n.ff),by omega,?_⟩;exact M.res.unb z
 .left;have e:i=its.length:=by omega
  subst e;rw[List.drop_length]at p;refine⟨j.stop C (c.ff.trans c.fh),λD L=>?_⟩;have h:kF K F1 H1 Q d:=by simpa[pR,M.res] using p
  exact h D R Z _ (c.trans (.new' c.fh L)) (gN c.hh L) (gN c.fh L) gB A
def MD(e:MI K E w fi)(i:MG K g m)(d:MT K JP tt ft)(c:ME K JP te fe) :
  MF K E (Je ix w g tt te) (λρ=>(fi ρ).bind λits=>(if its.length<sizeLine then pR (sE m ft fe (nN ix ρ)) its else .bad).noEr):=λF H σ ρ Q s V q=>by
 refine e F H σ ρ _ s V ((M.res.unb q).mono (λits z J j k b a=>?_) λ_ _ z=>z);split at z
 .rename_i h;exact GE i d c (V.mono b.ff) a b.fh h (z.noEr.mono (λ_ w=>w.go b) λ_ _ w=>w)
 .exact z.elim
end
end L3
namespace L3
open PySem L2
section
variable {K:W.Frag}{E:XK}{t u ta tb:TE}{f fa fb:Pe->M T}{F0:Fz}{H0 F H F1 H1:Hp}{σ:St}{ρ:En}{D:ud}
noncomputable def uH(K:W.Frag)(F:List T->M T):Sp:=λb H Q E=>∃a F0,gL F0 H/\gH K F0 b a/\(F a).res (kV K F0 H Q) (kE E F0 H)
noncomputable def Cf(K:W.Frag)(F:List T->M (List T)):Sp:=λb H Q E=>∃a F0,gL F0 H/\gH K F0 b a/\(F a).res (kF K F0 H Q) (kE E F0 H)
@[simp] noncomputable def fY(fa:Pe->M (List T))(F:List T->M T):Pe->M T:=λρ=>(fa ρ).bind λa=>(F a).noEr
@[simp] noncomputable def jY(fa:Pe->M (List T))(F:List T->M (List T)):Pe->M (List T):=λρ=>(fa ρ).bind λa=>(F a).noEr
section
variable {tr:TA}{fr:Pe->M (List T)}{Fn:List T->M T}{Ff:List T->M (List T)}{E':XK}
def HH(e:MA K E tr fr):ME K E (qS (uH K Fn) [] E' tr) (fY fr Fn):=λF H σ ρ Q s V q=>by refine e.run s V q λd g F1 H1 a c b=>?_;exact⟨d,F1,a.fh,by rw[bK];exact c,(b.mono (λ_ z=>kV.go z a) λ_ _ z=>z).noEr⟩
def Ib(e:MA K E tr fr):MF K E (qS (Cf K Ff) [] E' tr) (jY fr Ff):=λF H σ ρ Q s V q=>by refine e.run s V q λd g F1 H1 a c b=>?_;exact⟨d,F1,a.fh,by rw[bK];exact c,(b.mono (λ_ z=>kF.go z a) λ_ _ z=>z).noEr⟩
@[simp] noncomputable def t5(C:Addr)(m:Str)(x:T):M Unit:=match x with
 |.obj C' fs=>if C'=C/\fs.lookup m=none then .ok () else .bad
 |_=>.bad
@[simp] noncomputable def uy(C:Addr)(m:Str)(b:Pe->M T)(fr:Pe->M (List T))(F:List T->M T):Pe->M T:=λρ=>(b ρ).bind λx=>(t5 C m x).bind λ_=>(fr ρ).bind λa=>(F (x::a)).noEr
@[simp] noncomputable def wD(C:Addr)(m:Str)(b:Pe->M T)(fr:Pe->M (List T))(F:List T->M (List T)):Pe->M (List T):=λρ=>(b ρ).bind λx=>(t5 C m x).bind λ_=>(fr ρ).bind λa=>(F (x::a)).noEr
def DW(r:j9 K F v x)(e:t5 C m x=.ok ()):∃a dx fs,v=.ref a/\F a=some (.ins C dx fs)/\fs.lookup m=none:=by
 cases r with
 |obj h rs=>
  rename_i a b dx fs d;have e:(if b=C/\List.lookup m d=none then M.ok () else M.bad)=.ok ():=e;by_cases c:b=C/\List.lookup m d=none
  .obtain⟨rfl,g⟩:=c;exact⟨a,dx,fs,rfl,h,rs.none_ g⟩
  .rw[aQ c]at e;cases e
 |_=>cases e
def Ds:t5 C m x≠.er C' n:=by
 unfold t5;split
 .split<;>exact λz=>nomatch z
 .exact λz=>nomatch z
def IS(p:ME K E ta fa)(hr:MA K E tr fr):ME K E (yu C m (uH K Fn) [] E' ta tr) (uy C m fa fr Fn):=λF H σ ρ Q s V q=>by
 refine p.run s V q λx v F1 H1 c g b=>?_;cases e:t5 C m x with
 |bad=>rw[e]at b;exact b.elim
 |er C n=>exact absurd e Ds
 |ok u=>rw[e]at b;obtain⟨a,j,fs,rfl,h,r⟩:=DW g e;refine⟨a,j,fs,rfl,c.fh _ _ h,r,?_⟩;refine hr.run c.fh (V.mono c.ff) b λl y k w d i o=>?_;exact⟨x::l,k,d.fh,by rw[bK];exact .cons (g.mono d.ff) i,(o.mono (λ_ z=>kV.go z (c.trans d)) λ_ _ z=>z).noEr⟩
def Jh(p:ME K E ta fa)(hr:MA K E tr fr):MF K E (yu C m (Cf K Ff) [] E' ta tr) (wD C m fa fr Ff):=λF H σ ρ Q s V q=>by
 refine p.run s V q λx v F1 H1 c g b=>?_;cases e:t5 C m x with
 |bad=>rw[e]at b;exact b.elim
 |er C n=>exact absurd e Ds
 |ok u=>rw[e]at b;obtain⟨a,j,fs,rfl,h,r⟩:=DW g e;refine⟨a,j,fs,rfl,c.fh _ _ h,r,?_⟩;refine hr.run c.fh (V.mono c.ff) b λl y k w d i o=>?_;exact⟨x::l,k,d.fh,by rw[bK];exact .cons (g.mono d.ff) i,(o.mono (λ_ z=>kF.go z (c.trans d)) λ_ _ z=>z).noEr⟩
end
@[simp] noncomputable def RT:O->M T
 |.nx _=>.ok .non
 |.rt t=>.ok t
 |.rf ts=>.ok (.lst ts)
 |.rn ts us=>.ok (.tup (ts++[.lst us]))
 |.er C n=>.er C n
 |_=>.bad
@[simp] noncomputable def RS:O->M (List T)
 |.rf ts=>.ok ts
 |.er C n=>.er C n
 |_=>.bad
@[simp] noncomputable def g9(n:Nat)(ts:List T):En:=ts.map (λt=>some (W.p t))++List.replicate (n-ts.length) none
@[simp] noncomputable def kJ(k n:Nat)(g:En->O):List T->M T:=λa=>if a.length=k then RT (g (g9 n a)) else .bad
@[simp] noncomputable def zX(k n:Nat)(g:En->O):List T->M (List T):=λa=>if a.length=k then RS (g (g9 n a)) else .bad
def ym{n i:Nat}(e:(g9 n ts)[i]? = some (some (.d kvs))):False:=by
 unfold g9 at e;rw[List.getElem?_append]at e;split at e
 .rw[av]at e;cases q:ts[i]? with
  |none=>rw[q]at e;cases e
  |some x=>rw[q]at e;cases e
 .rw[List.getElem?_replicate]at e;split at e<;>cases e
def AV(s:gL F H)(r:gH K F vs ts):Sr K ⟨F,[]⟩ H F H (mx N vs) (g9 N.length ts):=by
 refine⟨.refl s,?_,λi t e=>?_,⟨λ_=>0,λi k e=>?_,λi j k m e=>?_⟩,λ_ g=>(nomatch g),λ_ _ _ h=>(by cases h),⟨λi c e=>(ym e).elim,λi j c d e=>(ym e).elim⟩⟩
 .simp[L2.mx,g9,r.length]
 .unfold g9 at e;rw[List.getElem?_append]at e;split at e
  .rename_i l;rw[av]at e;cases q:ts[i]? with
   |none=>rw[q]at e;cases e
   |some x=>rw[q]at e;cases e;obtain⟨v,a,b⟩:=r.get q;refine⟨v,?_,b⟩;unfold L2.mx;rw[List.getElem?_append_left (by simpa[r.length] using l),av,a];rfl
  .rw[List.getElem?_replicate]at e;split at e<;>cases e
 .exfalso;unfold g9 at e;rw[List.getElem?_append]at e;split at e
  .rw[av]at e;cases q:ts[i]? with
   |none=>rw[q]at e;cases e
   |some x=>rw[q]at e;cases e
  .rw[List.getElem?_replicate]at e;split at e<;>cases e
 .exfalso;unfold g9 at e;rw[List.getElem?_append]at e;split at e
  .rw[av]at e;cases q:ts[i]? with
   |none=>rw[q]at e;cases e
   |some x=>rw[q]at e;cases e
  .rw[List.getElem?_replicate]at e;split at e<;>cases e
def Cv(h:uH K (kJ k n g) vs H Q E):vs.length=k:=by
 obtain⟨b,F0,s,r,q⟩:=h;unfold kJ at q;by_cases a:b.length=k
 .rw[r.length];exact a
 .rw[aQ a]at q;exact q.elim
def zq{t:TS}(d:MS K E t g)(h:uH K (kJ k N.length g) vs H Q E):t {nx:=λ_ b=>Q .non b,rt:=Q} (mx N vs) H:=by
 obtain⟨a,F0,s,r,q⟩:=h;unfold kJ at q;by_cases c:a.length=k
 .rw[aP c]at q;refine d ⟨F0,[]⟩ H F0 H _ _ _ (AV s r) ?_;cases e:g (g9 N.length a) with
  |bad=>rw[e]at q;exact q
  |nx ρ=>rw[e]at q;exact λj b i _ l=>q .non j b l.gr .non
  |rt t=>rw[e]at q;exact q
  |rf a=>rw[e]at q;exact kF.of q
  |rn a us=>rw[e]at q;exact kT.of q
  |bk ρ=>rw[e]at q;exact q.elim
  |ct ρ=>rw[e]at q;exact q.elim
  |er C n=>rw[e]at q;exact q
 .rw[aQ c]at q;exact q.elim
def DS(h:Cf K (zX k n g) vs H Q E):vs.length=k:=by
 obtain⟨b,F0,s,r,q⟩:=h;unfold zX at q;by_cases a:b.length=k
 .rw[r.length];exact a
 .rw[aQ a]at q;exact q.elim
def AB{t:TS}(c:MS K E t g)(h:Cf K (zX k N.length g) vs H Q E):t {nx:=λ_ d=>Q .non d,rt:=Q} (mx N vs) H:=by
 obtain⟨a,F0,s,r,q⟩:=h;unfold zX at q;by_cases b:a.length=k
 .rw[aP b]at q;refine c ⟨F0,[]⟩ H F0 H _ _ _ (AV s r) ?_;cases e:g (g9 N.length a) with
  |bad=>rw[e]at q;exact q
  |nx ρ=>rw[e]at q;exact q.elim
  |rt t=>rw[e]at q;exact q.elim
  |rf a=>rw[e]at q;exact q
  |rn a us=>rw[e]at q;exact q.elim
  |bk ρ=>rw[e]at q;exact q.elim
  |ct ρ=>rw[e]at q;exact q.elim
  |er C n=>rw[e]at q;exact q
 .rw[aQ b]at q;exact q.elim
@[simp] noncomputable def Bo(C:Addr)(x:Str)(fa:Pe->M T):Pe->M T:=λρ=>(fa ρ).bind λo=>match o with
 |.obj C' fs=>if C'=C then (match fs.lookup x with
  |some t=>.ok t
  |none=>.bad) else .bad
 |_=>.bad
def M5(k:yr K C)(i:lJ K C x)(r:ME K E ta fa):ME K E (Oy K ta x) (Bo C x fa):=λF H σ ρ Q s V q=>by
 refine r.run s V q λo v F1 H1 d l b=>?_;cases l with
 |obj h rs=>
  rename_i a c j fs m;dsimp only at b;by_cases g:c=C
  .subst g;rw[aP rfl]at b;cases e:List.lookup x m with
   |none=>rw[e]at b;exact b.elim
   |some y=>rw[e]at b;obtain⟨w,p,n⟩:=rs.look e;exact⟨a,c,j,fs,w,rfl,d.fh _ _ h,k,i,p,b w F1 H1 d n⟩
  .rw[aQ g]at b;exact b.elim
 |_=>exact b.elim
end
end L3
namespace L3
open PySem L2 PySem.Spec PyProof.Rows
structure Pm(K:W.Frag)(E:XK)(X:Cx)(e:Expr)(t:TE)(f:Pe->M T):Prop where
 pe:PE X e t
 me:ME K E t f
structure El(K:W.Frag)(E:XK)(X:Cx)(e:Expr)(t:TE)(f:Pe->M (List T)):Prop where
 pe:PE X e t
 mf:MF K E t f
structure BC(K:W.Frag)(E:XK)(X:Cx)(e:Expr)(t:TT)(f:Pe->M Bool):Prop where
 pt:PT X e t
 mt:MT K E t f
structure Na(K:W.Frag)(E:XK)(X:Cx)(e:Expr)(t:TT)(f:Pe->M Bool):Prop where
 pw:PW X e t
 mt:MT K E t f
structure Ad(K:W.Frag)(E:XK)(X:Cx)(es:List Expr)(t:TA)(f:Pe->M (List T)):Prop where
 pa:PA X es t
 ma:MA K E t f
structure JM(K:W.Frag)(E:XK)(X:Cx)(tg it:Expr)(w:TI)(f:Pe->M (List T)):Prop where
 pi:PI X tg it w
 mi:MI K E w f
structure yU(K:W.Frag)(E:XK)(X:Cx)(tg it:Expr)(w:TI)(f:Pe->M (List T)):Prop where
 pi:PI X tg it w
 mi:PY K E w f
structure Pk(K:W.Frag)(X:Cx)(tg:Expr)(g:TG)(m:T->Pe->Option Pe):Prop where
 pg:PG X tg g
 mg:MG K g m
structure J4(K:W.Frag)(X:Cx)(tg:List Expr)(g:JK)(m:List T->Pe->Option Pe):Prop where
 pg:PB X tg g
 mg:PH K g m
structure Pc(K:W.Frag)(X:Cx)(tg:Expr)(g:TG)(m:T->En->Option En):Prop where
 pg:PG X tg g
 mg:JJ K g m
structure KN(K:W.Frag)(X:Cx)(tg:List Expr)(g:JK)(m:List T->En->Option En):Prop where
 pg:PB X tg g
 mg:Gx K g m
structure sU(K:W.Frag)(E:XK)(X:Cx)(st:Stmt)(t:TS)(g:En->O):Prop where
 ps:PS X st t
 ms:MS K E t g
structure pS(K:W.Frag)(E:XK)(X:Cx)(sts:List Stmt)(t:TS)(g:En->O):Prop where
 ps:Ak X sts t
 ms:MS K E t g
noncomputable def MO(K:W.Frag)(E:XK)(t:TO)(f:Pe->M (Option Int)):Prop:=∀F H c b Q,gL F H->lF K F c b->(f b).res (λo=>∀d a,Gr F H d a->Q o a) (kE E F H)->t c H Q
structure Rt(K:W.Frag)(E:XK)(X:Cx)(e:Option Expr)(t:TO)(f:Pe->M (Option Int)):Prop where
 po:PO X e t
 mo:MO K E t f
structure HG(K:W.Frag)(E:XK)(X:Cx)(es:List Expr)(t:TT)(f:Pe->M Bool):Prop where
 pf:E8 X es t
 mt:MT K E t f
section
variable {K:W.Frag}{E:XK}{X:Cx}{a b c e o:Expr}{es:List Expr}{ta tb tc te to:TE}{fa fb fc fe fo:Pe->M T}{tr:TA}{fr:Pe->M (List T)}{pos p p2 apos:Pos}
def f7 i (g:X.N[i]? = some x:=by rfl) (h:PJ X.env.scope x:=by first|exact Or.inl rfl|exact Or.inr (Or.inl rfl)|exact Or.inr (Or.inr rfl)) (f:(x==("__debug__" : Str))=false:=by decide)
  (d:(x==("__classdict__" : Str))=false:=by decide):Pm K E X (.Name x pos) (lQ i) (fS i):=⟨pv i g h f d,On⟩
def gP{j pos}:Pm K E X (.Constant (.int i) j pos) (tC (.int i)) (cM (.int i)):=⟨B0,JB λ_=>.int i⟩
def Dw{b:Bool}{j pos}:Pm K E X (.Constant (.bool b) j pos) (tC (.bl b)) (cM (.bl b)):=⟨Rc,JB λ_=>.bl b⟩
def lN{j pos}:Pm K E X (.Constant .none j pos) (tC .non) (cM .non):=⟨Oc,JB λ_=>.non⟩
def JD{j pos}:Pm K E X (.Constant (.str x) j pos) (tC (.str x)) (cM (.str x)):=⟨Nw,JB λ_=>.str x⟩
def AW i (d:∃t,X.mg x=some (.int i t)) (g:Gl X x:=by rfl) (f:(x==("__debug__" : Str))=false:=by decide):Pm K E X (.Name x pos) (tC (.int i)) (cM (.int i)):=let ⟨t,h⟩:=d;⟨LJ g h ⟨t,rfl⟩ f,JB λ_=>.int i⟩
def jv(h:El K E X e te f):Pm K E X e te (λρ=>(f ρ).bind λts=>.ok (.lst ts)):=⟨h.pe,h.mf.me⟩
def vQ(g:pJ X (binaryOp op) r)(hr:MR K r m)(f:Pm K E X a ta fa)(d:Pm K E X b tb fb):Pm K E X (.BinOp a op b pos) (uh r ta tb) (fZ m fa fb):=⟨GN g f.pe d.pe,DQ hr f.me d.me⟩
def H9(K:W.Frag):R2:=λx y H Q=>(CB λi j=>.int (i+j)) x y H Q\/(∃i j,x=.str i/\y=.str j/\i.length+j.length<=sizeLine/\Q (.str (i++j)) H)\/ML x y H Q\/
 ∃a b d f,x=.ref a/\y=.ref b/\H a=some (.tup d)/\H b=some (.tup f)/\d.length+f.length<=sizeLine/\(d=[]->Q (.ref b) H)/\(d≠[]->f=[]->Q (.ref a) H)/\(d≠[]->f≠[]->∀p,H p=none->Q (.ref p) (ju H p (.tup (d++f))))
def Kp(hK:X.K=K:=by rfl):pJ X (binaryOp .Add) (H9 K):=by
 subst hK;intro g s j H x y v u Q I f d h;rcases h with h|h|h|h
 .exact Oh g s j H x y v u Q I f d h
 .exact B6 g s j H x y v u Q I f d h
 .exact Hl g s j H x y v u Q I f d h
 .obtain⟨a,b,n,ys,rfl,rfl,m,w,P,C,U,q3⟩:=h;by_cases i:n=[]
  .subst i;cases f;cases d;obtain⟨A,R,Y,_⟩:=I.tuple (mD.of m);obtain⟨q,r2,p2,_⟩:=I.tuple (mD.of w);cases R;obtain⟨⟨c1,S,e1,J⟩,r,N,Z,k⟩:=id Y;obtain⟨⟨c2,B,e2,D⟩,z,k2,n2,l⟩:=id p2;subst N k k2 l;exact concat_meets ⟨_,r,rfl⟩ ⟨_,z,rfl⟩ noFill_tuple_add seq_tuple_add PySem.F.slot_tuple_add PySem.F.entry_tuple_add (PySem.F.args_tuple_add_2 _ _) (tuple_addW0 a b _ _ Z n2 S B J D (by simp)) ⟨r,z,⟨.ref b,H,I,rfl,C rfl⟩⟩
  .exact Ls g s j H _ _ v u Q I f d ⟨a,b,n,ys,rfl,rfl,mD.of m,mD.of w,i,P,λe=>U i e,λe p L=>q3 i e p L⟩
noncomputable def iG:T->T->M T
 |.int i,.int j=>.ok (.int (i+j))
 |.str i,.str j=>if i.length+j.length<=sizeLine then .ok (.str (i++j)) else .bad
 |.lst a,.lst b=>if a.length+b.length<=sizeLine then .ok (.lst (a++b)) else .bad
 |.tup a,.tup b=>if a.length+b.length<=sizeLine then .ok (.tup (a++b)) else .bad
 |_,_=>.bad
def Kc x y:M.NoE (iG x y):=λC n=>by unfold iG;split<;>first|(intro z;cases z;done)|(split<;>intro z<;>cases z)
def Lu:MR K (H9 K) iG:=⟨Kc,λF H v w x y Q s n rb q=>by
 cases n with
 |int i=>
  cases rb with
  |int j=>exact .inl ⟨i,j,rfl,rfl,kV.now q s (.int _)⟩
  |_=>exact q.elim
 |str i=>
  cases rb with
  |str j=>
   have d:(if i.length+j.length<=sizeLine then M.ok (T.str (i++j)) else M.bad).res (kV K F H Q) (λ_ _=>False):=q;by_cases h:i.length+j.length<=sizeLine
   .rw[aP h]at d;exact .inr (.inl ⟨i,j,rfl,rfl,h,kV.now d s (.str _)⟩)
   .rw[aQ h]at d;exact d.elim
  |_=>exact q.elim
 |lst h1 r1=>
  cases rb with
  |lst h2 r2=>
   rename_i a l g b m f;have d:(if g.length+f.length<=sizeLine then M.ok (T.lst (g++f)) else M.bad).res (kV K F H Q) (λ_ _=>False):=q;by_cases h:g.length+f.length<=sizeLine
   .rw[aP h]at d;refine .inr (.inr (.inl ⟨a,b,l,m,rfl,rfl,s _ _ h1,s _ _ h2,by rw[r1.length,r2.length];exact h,λp k=>?_⟩));exact d (.ref p) _ _ (.new s k) (.lst gB ((r1.append r2).mono (Gr.new s k).ff))
   .rw[aQ h]at d;exact d.elim
  |_=>exact q.elim
 |tup h1 r1=>
  cases rb with
  |tup h2 r2=>
   rename_i a l g b m f;have d:(if g.length+f.length<=sizeLine then M.ok (T.tup (g++f)) else M.bad).res (kV K F H Q) (λ_ _=>False):=q;by_cases h:g.length+f.length<=sizeLine
   .rw[aP h]at d;refine .inr (.inr (.inr ⟨a,b,l,m,rfl,rfl,s _ _ h1,s _ _ h2,by rw[r1.length,r2.length];exact h,λe=>?_,λ_ e=>?_,λ_ _ p k=>?_⟩))
    .subst e;cases r1;exact kV.now d s (.tup h2 r2)
    .subst e;cases r2;exact kV.now d s (.tup h1 (by rw[bK];exact r1))
    .exact d (.ref p) _ _ (.new s k) (.tup gB ((r1.append r2).mono (Gr.new s k).ff))
   .rw[aQ h]at d;exact d.elim
  |_=>exact q.elim
 |_=>exact q.elim⟩
def tf(f:Pm K E X a ta fa)(d:Pm K E X b tb fb)(g:X.K=K:=by rfl):Pm K E X (.BinOp a .Add b pos) (uh (H9 K) ta tb) (fZ iG fa fb):=vQ (Kp g) Lu f d
@[simp] noncomputable def xD(fa fb:Pe->M T):Pe->M (List T):=λd=>(fa d).bind λx=>(fb d).bind λy=>match x,y with
 |.lst a,.lst b=>if a.length+b.length<=sizeLine then .ok (a++b) else .bad
 |_,_=>.bad
def IZ(u:Pm K E X a ta fa)(r:Pm K E X b tb fb):El K E X (.BinOp a .Add b pos) (uh ML ta tb) (xD fa fb):=by
 refine⟨GN Hl u.pe r.pe,λF H P L Q s V q=>?_⟩;refine u.me.run s V q λx v J N k D B=>?_;refine r.me.run k.fh (V.mono k.ff) B λy w n C d A m=>?_;cases D with
 |lst h1 t1=>
  cases A with
  |lst h2 t2=>
   rename_i a z l b I i;have g:(if l.length+i.length<=sizeLine then M.ok (l++i) else M.bad).res (kF K F H Q) (kE E n C):=m;by_cases h:l.length+i.length<=sizeLine
   .rw[aP h]at g;refine⟨a,b,z,I,rfl,rfl,d.fh _ _ (d.ff _ _ h1),d.fh _ _ h2,by rw[t1.length,t2.length];exact h,λp j=>?_⟩;have f:=k.trans d;exact g p _ n _ (f.trans (.new' d.fh j)) (gN f.hh j) (gN d.fh j) gB ((t1.mono d.ff).append t2)
   .rw[aQ h]at g;exact g.elim
  |_=>exact m.elim
 |_=>exact m.elim
noncomputable def oR:T->T->M T:=k9 (λ_ _=>true) λi j=>.int (i-j)
def CK(d:Pm K E X a ta fa)(f:Pm K E X b tb fb):Pm K E X (.BinOp a .Sub b pos) (uh (CB λi j=>.int (i-j)) ta tb) (fZ oR fa fb):=vQ M4 (rO λ_ _ _=>.int _) d f
instance {i j:Int}:Decidable (PySem.IntMulOk i j):=inferInstanceAs (Decidable (¬_))
noncomputable def iM:T->T->M T:=k9 (λi j=>decide (PySem.IntMulOk i j)) λi j=>.int (i*j)
def Ij(d:Pm K E X a ta fa)(f:Pm K E X b tb fb):Pm K E X (.BinOp a .Mult b pos) (uh (rI (λi j=>PySem.IntMulOk i j) λi j=>.int (i*j)) ta tb) (fZ iM fa fb):=vQ J2 (yN (λi j h=>of_decide_eq_true h) λ_ _ _=>.int _) d f
noncomputable def oq:T->T->M T:=k9 (λi j=>decide (j≠0)&&!Builtin.divisionGoesByPylong i j) λi j=>.int (i.fdiv j)
def JW(d:Pm K E X a ta fa)(f:Pm K E X b tb fb):Pm K E X (.BinOp a .FloorDiv b pos) (uh (rI (λi j=>j≠0/\Builtin.divisionGoesByPylong i j=false) λi j=>.int (i.fdiv j)) ta tb) (fZ oq fa fb):=vQ Jl (yN (λi j h=>by simpa using h) λ_ _ _=>.int _) d f
noncomputable def tP:T->T->M T:=k9 (λ_ j=>decide (j≠0)) λi j=>.int (i.fmod j)
def Od(d:Pm K E X a ta fa)(f:Pm K E X b tb fb):Pm K E X (.BinOp a .Mod b pos) (uh (rI (λ_ j=>j≠0) λi j=>.int (i.fmod j)) ta tb) (fZ tP fa fb):=vQ Ki (yN (λi j h=>by simpa using h) λ_ _ _=>.int _) d f
noncomputable def pP:T->T->M T:=k9 (λi j=>decide (0<=j)&&decide (j<=1000000)&&decide (i.natAbs<18446744073709551616)) λi j=>.int (i ^ j.toNat)
def tR(d:Pm K E X a ta fa)(f:Pm K E X b tb fb):Pm K E X (.BinOp a .Pow b pos) (uh (rI QG λi j=>.int (i ^ j.toNat)) ta tb) (fZ pP fa fb):=vQ OI (yN (λi j h=>by simp only[bS,decide_eq_true_eq]at h;exact⟨h.1.1,h.1.2,h.2⟩) λ_ _ _=>.int _) d f
def IE(d:Pm K E X a ta fa):Pm K E X (.UnaryOp .USub a pos) (RN (rU λi=>.int (-i)) ta) (xk (λi=>.int (-i)) fa):=⟨PF OP d.pe,Qf (λ_ _=>.int _) d.me⟩
@[simp] noncomputable def uS(fa fb:Pe->M T):Pe->M (List T):=λd=>(fa d).bind λx=>(fb d).bind λy=>match x,y with
 |.lst a,.int k=>if BD k=true/\a.length*k.toNat<=sizeLine then .ok (List.replicate k.toNat a).flatten else .bad
 |_,_=>.bad
def Jd(u:Pm K E X a ta fa)(r:Pm K E X b tb fb):El K E X (.BinOp a .Mult b pos) (uh PQ ta tb) (uS fa fb):=by
 refine⟨GN Nt u.pe r.pe,λF H N J Q s V q=>?_⟩;refine u.me.run s V q λx v I L j D B=>?_;refine r.me.run j.fh (V.mono j.ff) B λy w n C d A m=>?_;cases D with
 |lst h1 t1=>
  cases A with
  |int k=>
   rename_i a z l;have g:(if BD k=true/\l.length*k.toNat<=sizeLine then M.ok (List.replicate k.toNat l).flatten else M.bad).res (kF K F H Q) (kE E n C):=m;by_cases h:BD k=true/\l.length*k.toNat<=sizeLine
   .rw[aP h]at g;refine⟨a,k,z,rfl,rfl,d.fh _ _ (d.ff _ _ h1),by have:=qF h.1;rw[Q7]at this;rw[RB];omega,by have:=qF h.1;rw[Q7]at this;rw[RB];omega,by rw[t1.length];exact h.2,λp i=>?_⟩;have f:=j.trans d;exact g p _ n _ (f.trans (.new' d.fh i)) (gN f.hh i) (gN d.fh i) gB ((t1.mono d.ff).rep k.toNat)
   .rw[aQ h]at g;exact g.elim
  |_=>exact m.elim
 |_=>exact m.elim
def pZ(h:Pm K E X e te fe)(f:∀d,isTrue e X.env d=(do let v <-d;standAt e.pos;holding [v] (truthy v)):=by intro _;rfl):BC K E X e (tB te) (gI fe):=⟨Oo h.pe f,GP h.me⟩
section
variable {tA tD:TT}{fA fD:Pe->M Bool}{mV:List Expr}
def ml(h:BC K E X a tA fA):BC K E X (.UnaryOp .Not a pos) (NX tA) (jT fA):=⟨Nl h.pt,Nu h.mt⟩
def n6(h:Na K E X a tA fA):BC K E X a tA fA:=⟨PW.pt h.pw,h.mt⟩
def lH(h:BC K E X a tA fA):Na K E X (.BoolOp .And [a] pos) tA fA:=⟨JQ h.pt,h.mt⟩
def lh(h:BC K E X a tA fA):Na K E X (.BoolOp .Or [a] pos) tA fA:=⟨NG h.pt,h.mt⟩
def mq(h:BC K E X a tA fA)(d:Na K E X (.BoolOp .And (b::mV) pos) tD fD):Na K E X (.BoolOp .And (a::b::mV) pos) (Nk tA tD) (jW fA fD):=⟨Ov h.pt d.pw,NA h.mt d.mt⟩
def lO(h:BC K E X a tA fA)(d:Na K E X (.BoolOp .Or (b::mV) pos) tD fD):Na K E X (.BoolOp .Or (a::b::mV) pos) (RO tA tD) (oJ fA fD):=⟨Qw h.pt d.pw,Q9 h.mt d.mt⟩
def qA{op}(h:Pm K E X a ta fa):Pm K E X (.BoolOp op [a] pos) ta fa:=⟨OL h.pe,h.me⟩
def rG(h:Pm K E X a ta fa)(d:Pm K E X (.BoolOp .And (b::mV) pos) tb fb):Pm K E X (.BoolOp .And (a::b::mV) pos) (G7 ta tb) (xP fa fb):=⟨Pd h.pe d.pe,L1 h.me d.me⟩
def PU(h:Pm K E X a ta fa)(d:Pm K E X (.BoolOp .Or (b::mV) pos) tb fb):Pm K E X (.BoolOp .Or (a::b::mV) pos) (Oa ta tb) (Rr fa fb):=⟨QP h.pe d.pe,Og h.me d.me⟩
def yQ(h:Pm K E X a ta fa):Pm K E X (.UnaryOp .Not a pos) (Ih ta) (FK fa):=⟨NO h.pe,LO h.me⟩
def QY(h:BC K E X c tA fA)(d:Pm K E X a ta fa)(f:Pm K E X b tb fb):Pm K E X (.IfExp c a b pos) (R5 tA ta tb) (RC fA fa fb):=⟨Hk h.pt d.pe f.pe,QT h.mt d.me f.me⟩
end
def rF(h:pJ X (compareOp op) r)(hr:MR K r m)(f:Pm K E X a ta fa)(d:Pm K E X b tb fb)(g:behindInMarks op b=false:=by exact tQ _):Pm K E X (.Compare a [op] [b] pos) (uh r ta tb) (fZ m fa fb):=⟨LH h f.pe d.pe g,DQ hr f.me d.me⟩
def gU(h:pJ X (compareOp op) r)(hr:MR K r m)(f:Pm K E X a ta fa)(d:Pm K E X b tb fb)(g:behindInMarks op b=false:=by exact tQ _):BC K E X (.Compare a [op] [b] pos) (AE (uh r ta tb)) (gI (fZ m fa fb)):=⟨KY h f.pe d.pe g,LX (DQ hr f.me d.me)⟩
noncomputable def By:T->T->M T:=k9 (λ_ _=>true) λi j=>.bl (decide (i<j))
noncomputable def HY:T->T->M T:=k9 (λ_ _=>true) λi j=>.bl (decide (i<=j))
noncomputable def Ae:T->T->M T:=k9 (λ_ _=>true) λi j=>.bl (decide (j<i))
noncomputable def MB:T->T->M T:=k9 (λ_ _=>true) λi j=>.bl (decide (j<=i))
def rZ:MR K (CB λi j=>.bl (decide (i<j))) By:=rO λ_ _ _=>.bl _
def vV:MR K (CB λi j=>.bl (decide (i<=j))) HY:=rO λ_ _ _=>.bl _
def uF:MR K (CB λi j=>.bl (decide (j<i))) Ae:=rO λ_ _ _=>.bl _
def Ao:MR K (CB λi j=>.bl (decide (j<=i))) MB:=rO λ_ _ _=>.bl _
@[simp] noncomputable def Ro(m f:T->T->M T)(fa fb fc:Pe->M T):Pe->M T:=λd=>(fa d).bind λx=>(fb d).bind λy=>(m x y).bind λz=>match z with
 |.bl true=>(fc d).bind λw=>f y w
 |.bl false=>.ok (.bl false)
 |_=>.bad
def GB(hr:MR K r m)(f:MR K r' m')(ha:ME K E ta fa)(U:ME K E tb fb)(N:ME K E tc fc):ME K E (BN r r' ta tb tc) (Ro m m' fa fb fc):=λF H σ ρ Q s V q=>by
 refine ha.run s V q λx v F1 H1 i P C=>?_;refine U.run i.fh (V.mono i.ff) C λy w S J j u Y=>?_;refine hr.ok S J v w x y _ j.fh (P.mono j.ff) u (((M.res.unb Y).ne (hr.ne x y)).mono (λz l v3 B H3 g R=>?_) λ_ _ z=>z);have d:=(i.trans j).trans g;cases R with
 |bl k=>
  refine⟨k,rfl,?_⟩;cases k with
  |true=>rw[aP rfl];have n:=l.mono (λ_ z=>z) λ_ _ z=>z.go g;refine N.run g.fh (V.mono d.ff) n λA w4 D Z h I L=>?_;exact f.ok D Z w w4 y A Q h.fh (u.mono (g.ff.trans h.ff)) I ((L.ne (f.ne y A)).mono (λ_ z=>z.go (d.trans h)) λ_ _ z=>z)
  |false=>rw[aQ aG];exact l _ B H3 d (.bl _)
 |_=>exact l.elim
def AI(k:pJ X (compareOp op) r)(hr:MR K r m)(d:pJ X (compareOp op') r')(f:MR K r' m')(i:Pm K E X a ta fa)(h:Pm K E X b tb fb)(g:Pm K E X c tc fc)
  (j:lastMarks [op,op'] [b,c]=false:=by with_unfolding_all rfl):Pm K E X (.Compare a [op,op'] [b,c] pos) (BN r r' ta tb tc) (Ro m m' fa fb fc):=⟨IK k d i.pe h.pe g.pe j,GB hr f i.me h.me g.me⟩
mutual
noncomputable def qJ:T->Bool
 |.str x=>PyData.canLay0 (.str x)
 |.lst ts=>nV ts
 |.tup ts=>nV ts
 |.scr _=>false
 |.obj _ _=>false
 |.emp=>false
 |.dic _=>false
 |_=>true
noncomputable def nV:List T->Bool
 |[]=>true
 |t::ts=>qJ t&&nV ts
end
mutual
def pD:T->PyData
 |.non=>.none
 |.bl b=>.bool b
 |.int i=>.int i
 |.str x=>.str x
 |.lst ts=>.list (oY ts)
 |.tup ts=>.tuple (oY ts)
 |.scr _=>.none
 |.obj _ _=>.none
 |.emp=>.none
 |.dic _=>.none
def oY:List T->List PyData
 |[]=>[]
 |t::ts=>pD t::oY ts
end
mutual
theorem EE{F:Hp}:∀{v:V} {t:T},j9 K F v t->qJ t=true->DV K F v (pD t)
 |_,_,.non,_=>.non
 |_,_,.bl b,_=>.bl b
 |_,_,.int i,_=>.int i
 |_,_,.str x,_=>.str x
 |_,_,.lst h r,l=>.lst (lC.of h) (BY r (by simpa[qJ] using l))
 |_,_,.tup h r,l=>.tup (mD.of h) (BY r (by simpa[qJ] using l))
 |_,_,.scr _,l=>by simp[qJ]at l
 |_,_,.obj _ _,l=>by simp[qJ]at l
 |_,_,.emp _,l=>by simp[qJ]at l
 |_,_,.dic _ _,l=>by simp[qJ]at l
theorem BY{F:Hp}:∀{vs:List V} {ts:List T},gH K F vs ts->nV ts=true->Av K F vs (oY ts)
 |_,_,.nil,_=>.nil
 |_,_,.cons h r,l=>by rw[nV,bS]at l;exact .cons (EE h l.1) (BY r l.2)
end
mutual
theorem vg:∀t,qJ t=true->(pD t).canLay0=true
 |.non,_=>rfl
 |.bl b,_=>rfl
 |.int i,_=>rfl
 |.str x,h=>by simpa[qJ,pD] using h
 |.lst ts,h=>by rw[pD,PyData.canLay0];exact v8 ts (by simpa[qJ] using h)
 |.tup ts,h=>by rw[pD,PyData.canLay0];exact v8 ts (by simpa[qJ] using h)
 |.scr _,h=>by simp[qJ]at h
 |.obj _ _,h=>by simp[qJ]at h
 |.emp,h=>by simp[qJ]at h
 |.dic _,h=>by simp[qJ]at h
theorem v8:∀ts,nV ts=true->PyData.canLayAll0 (oY ts)=true
 |[],_=>rfl
 |t::ts,h=>by rw[nV,bS]at h;rw[oY,PyData.canLayAll0,vg t h.1,v8 ts h.2];rfl
end
noncomputable def Ey(x y:T):Bool:=(pD x).eqv (pD y)
noncomputable def xa(xs a:List T):Bool:=PyData.eqvAll (oY xs) (oY a)
noncomputable def Ay(t:T):Nat:=(pD t).depth
noncomputable def rK(ts:List T):Nat:=PyData.depthAll (oY ts)
@[simp] theorem Ry i:Ay (.int i)=0:=rfl
@[simp] theorem RG i:Ay (.bl i)=0:=rfl
@[simp] theorem Rv i:Ay (.str i)=0:=rfl
@[simp] theorem Rm:Ay .non=0:=rfl
@[simp] theorem KC ts:Ay (.lst ts)=rK ts+1:=by unfold Ay rK;rw[pD,PyData.depth]
@[simp] theorem EA ts:Ay (.tup ts)=rK ts+1:=by unfold Ay rK;rw[pD,PyData.depth]
@[simp] theorem Rf:rK []=0:=rfl
@[simp] theorem E5 t ts:rK (t::ts)=max (Ay t) (rK ts):=by unfold Ay rK;rw[oY,PyData.depthAll]
@[simp] theorem Kq i j:Ey (.int i) (.int j)=(i==j):=rfl
@[simp] theorem Rz i j:Ey (.str i) (.str j)=(i==j):=rfl
def Ej xs ys:Ey (.lst xs) (.lst ys)=xa xs ys:=by unfold Ey xa;rw[pD,pD,PyData.eqv]
def qL xs ys:Ey (.tup xs) (.tup ys)=xa xs ys:=by unfold Ey xa;rw[pD,pD,PyData.eqv]
def ub x xs y ys:xa (x::xs) (y::ys)=(Ey x y&&xa xs ys):=by unfold Ey xa;rw[oY,oY,PyData.eqvAll]
noncomputable def gD(neg:Bool):T->T->M T:=λx y=>if qJ x&&qJ y&&decide (Ay x<=100) then .ok (.bl (if neg then !Ey x y else Ey x y)) else .bad
mutual
theorem DV.same{F H:Hp}(s:gL F H):∀{v:V} {d:PyData},DV K F v d->DV K H v d
 |_,_,.non=>.non
 |_,_,.bl b=>.bl b
 |_,_,.int i=>.int i
 |_,_,.str x=>.str x
 |_,_,.lst h r=>.lst (s.seq h) (Av.same s r)
 |_,_,.tup h r=>.tup (s.seqT h) (Av.same s r)
theorem Av.same{F H:Hp}(s:gL F H):∀{v:List V} {d:List PyData},Av K F v d->Av K H v d
 |_,_,.nil=>.nil
 |_,_,.cons h r=>.cons (DV.same s h) (Av.same s r)
end
def Lf x y:M.NoE (gD neg x y):=λC n=>by unfold gD;split<;>exact λz=>nomatch z
def DZ(neg:Bool):MR K (BS K neg) (gD neg):=⟨Lf,λF H v w x y Q s a rb q=>by
 unfold gD at q;by_cases h:(qJ x&&qJ y&&decide (Ay x<=100))=true
 .rw[aP h]at q;simp only[bS,decide_eq_true_eq]at h;refine⟨pD x,pD y,DV.same s (EE a h.1.1),DV.same s (EE rb h.1.2),⟨vg x h.1.1,vg y h.1.2,by exact h.2⟩,?_⟩;exact kV.now q s (.bl _)
 .rw[aQ h]at q;exact q.elim⟩
def DF{k:Nat}(hr:i6 k X.A)(f:Pm K E X a ta fa)(e:Pm K E X b tb fb)(c:X.K=K:=by rfl)(d:behindInMarks .Eq b=false:=by exact tQ _):Pm K E X (.Compare a [.Eq] [b] pos) (uh (BS K false) ta tb) (fZ (gD false) fa fb):=rF (c▸Iq (Pu hr)) (DZ false) f e d
def Mf{k:Nat}(hr:i6 k X.A)(f:Pm K E X a ta fa)(e:Pm K E X b tb fb)(c:X.K=K:=by rfl)(d:behindInMarks .NotEq b=false:=by exact tQ _):Pm K E X (.Compare a [.NotEq] [b] pos) (uh (BS K true) ta tb) (fZ (gD true) fa fb):=rF (c▸Hz (Pu hr)) (DZ true) f e d
def BH{k:Nat}(hr:i6 k X.A)(f:Pm K E X a ta fa)(e:Pm K E X b tb fb)(c:X.K=K:=by rfl)(d:behindInMarks .Eq b=false:=by exact tQ _):BC K E X (.Compare a [.Eq] [b] pos) (AE (uh (BS K false) ta tb)) (gI (fZ (gD false) fa fb)):=gU (c▸Iq (Pu hr)) (DZ false) f e d
def rL{k:Nat}(hr:i6 k X.A)(f:Pm K E X a ta fa)(e:Pm K E X b tb fb)(c:X.K=K:=by rfl)(d:behindInMarks .NotEq b=false:=by exact tQ _):BC K E X (.Compare a [.NotEq] [b] pos) (AE (uh (BS K true) ta tb)) (gI (fZ (gD true) fa fb)):=gU (c▸Hz (Pu hr)) (DZ true) f e d
@[simp] noncomputable def jS(neg:Bool):T->T->M T:=λx y=>match y with
 |.non=>.ok (.bl (match x with|.non=>!neg|_=>neg))
 |_=>.bad
def DO x y:M.NoE (jS neg x y):=λC n=>by cases y<;>exact λz=>nomatch z
def vS:MR K (λx y H Q=>y=.non/\Q (.bl (decide (x=.non))) H) (jS false):=⟨DO,λF H v w x y Q s a rb q=>by
 cases rb with
 |non=>refine⟨rfl,?_⟩;cases a<;>exact kV.now q s (.bl _)
 |_=>exact q.elim⟩
def ph:MR K (λx y H Q=>y=.non/\Q (.bl (!decide (x=.non))) H) (jS true):=⟨DO,λF H v w x y Q s a rb q=>by
 cases rb with
 |non=>refine⟨rfl,?_⟩;cases a<;>exact kV.now q s (.bl _)
 |_=>exact q.elim⟩
noncomputable def kb:T->Bool
 |.non=>true
 |.bl _=>true
 |.int _=>true
 |.str _=>true
 |_=>false
noncomputable def uJ(x:T)(ts:List T):Bool:=ts.any λy=>Ey y x
def j9.flat{F:Hp}{v:V}{x:T}(r:j9 K F v x)(h:kb x=true):qZ v=true:=by cases r<;>first|rfl|(simp[kb]at h;done)
theorem gH.flat{F:Hp}:∀{vs:List V} {xs:List T},gH K F vs xs->xs.all kb=true->vs.all qZ=true
 |_,_,.nil,_=>rfl
 |_,_,.cons h r,q=>by rw[bU,bS]at q ⊢;exact⟨h.flat q.1,gH.flat r q.2⟩
def QR{F:Hp}{v w:V}{x y:T}(r:j9 K F v x)(b:j9 K F w y)(h:kb x=true)(a:kb y=true):JO v w=Ey x y:=by cases r<;>first|(exfalso;simp[kb]at h;done)|(cases b<;>first|(exfalso;simp[kb]at a;done)|rfl|simp[JO,qL])
theorem Iw{F:Hp}{v:V}{x:T}(r:j9 K F v x)(h:kb x=true):∀{vs:List V} {xs:List T},gH K F vs xs->xs.all kb=true->RA v vs=uJ x xs
 |_,_,.nil,_=>rfl
 |_,_,.cons q rs,l=>by rw[bU,bS]at l;have a:=Iw r h rs l.2;unfold RA uJ at a ⊢;rw[bV,bV,a,QR q r l.1 h]
noncomputable def Ja(neg:Bool):T->T->M T:=λx y=>match y with
 |.lst ts=>if kb x&&ts.all kb then .ok (.bl (if neg then !uJ x ts else uJ x ts)) else .bad
 |.tup ts=>if kb x&&ts.all kb then .ok (.bl (if neg then !uJ x ts else uJ x ts)) else .bad
 |_=>.bad
def JV x y:M.NoE (Ja neg x y):=λC n=>by unfold Ja;split<;>first|(intro z;cases z;done)|(split<;>intro z<;>cases z)
def QV(neg:Bool):MR K (R9 K neg) (Ja neg):=⟨JV,λF H v w x y Q s e rb q=>by
 cases rb with
 |lst h r=>
  rename_i a f d;have c:(if kb x&&d.all kb then M.ok (T.bl (if neg then !uJ x d else uJ x d)) else M.bad).res (kV K F H Q) (λ_ _=>False):=q;by_cases b:(kb x&&d.all kb)=true
  .rw[aP b]at c;rw[bS]at b;exact⟨a,f,rfl,.inl (lC.of (s _ _ h)),e.flat b.1,r.flat b.2,by rw[Iw e b.1 r b.2];exact kV.now c s (.bl _)⟩
  .rw[aQ b]at c;exact c.elim
 |tup h r=>
  rename_i a f d;have c:(if kb x&&d.all kb then M.ok (T.bl (if neg then !uJ x d else uJ x d)) else M.bad).res (kV K F H Q) (λ_ _=>False):=q;by_cases b:(kb x&&d.all kb)=true
  .rw[aP b]at c;rw[bS]at b;exact⟨a,f,rfl,.inr (mD.of (s _ _ h)),e.flat b.1,r.flat b.2,by rw[Iw e b.1 r b.2];exact kV.now c s (.bl _)⟩
  .rw[aQ b]at c;exact c.elim
 |_=>exact q.elim⟩
end
end L3
namespace L3
open PySem L2 PySem.Spec PyProof.Rows
section
variable {K:W.Frag}{E:XK}{X:Cx}{a b c e o tg it:Expr}{es:List Expr}{ta tb tc te to:TE}{fa fb fc fe fo:Pe->M T}{tr:TA}{fr:Pe->M (List T)}{pos p p2 apos:Pos}
def gQ:Ad K E X [] qQ fV:=⟨rD,B1⟩
def gx(d:Pm K E X e te fe)(hr:Ad K E X es tr fr)(f:starEach (e::es) X.env=(false,eval e X.env)::starEach es X.env:=by rfl):Ad K E X (e::es) (nK te tr) (fR fe fr):=⟨nO d.pe hr.pa f,Lq d.me hr.ma⟩
def Dd{x1}(h:Ad K E X es tr fr):Pm K E X (.Tuple es x1 pos) (NT tr) (kc fr):=⟨NW h.pa,NL h.ma⟩
def vB(h:Ad K E X es tr fr):El K E X (.List es pos) (MQ tr) (lstM fr):=⟨Nm h.pa,OD h.ma⟩
structure MC(K:W.Frag)(r:List V->Hp->VK->Prop)(o:List T->M T):Prop where
 ne:∀xs,M.NoE (o xs)
 ok:∀F H vs xs Q,gL F H->gH K F vs xs->(o xs).res (kV K F H Q) (λ_ _=>False)->r vs H Q
structure RJ(K:W.Frag)(r:List V->Hp->VK->Prop)(o:List T->M (List T)):Prop where
 ne:∀xs,M.NoE (o xs)
 ok:∀F H vs xs Q,gL F H->gH K F vs xs->(o xs).res (kF K F H Q) (λ_ _=>False)->r vs H Q
@[simp] noncomputable def jt(o:List T->M T)(fr:Pe->M (List T)):Pe->M T:=λd=>(fr d).bind o
@[simp] noncomputable def Em(o:List T->M (List T))(fr:Pe->M (List T)):Pe->M (List T):=λd=>(fr d).bind o
def Mu{o:List T->M T}(g:MC K r o)(m:MA K E tr fr):ME K E (Hy r tr) (jt o fr):=λF H u n Q s V q=>by refine m.run s V q λd l h j f k i=>?_;exact g.ok h j l d Q f.fh k ((i.ne (g.ne d)).mono (λ_ z=>z.go f) λ_ _ z=>z)
def QN{o:List T->M (List T)}(g:RJ K r o)(m:MA K E tr fr):MF K E (Hy r tr) (Em o fr):=λF H u n Q s V q=>by refine m.run s V q λd l h j f k i=>?_;exact g.ok h j l d Q f.fh k ((i.ne (g.ne d)).mono (λ_ z=>z.go f) λ_ _ z=>z)
section
variable {x:Str}{id T':String}{r:List V->Hp->VK->Prop}{m:List T->M T}{mf:List T->M (List T)}
def gG(k:kg X (.builtin id) r)(g:MC K r m)(l:Gl X x)(j:X.mg x=none)(n:bootBuiltins x=some (.builtin id))(h:Ad K E X (e::es) tr fr)(q:x≠ "__name__" :=by decide)(d:(x==("__debug__" : Str))=false:=by decide)
  (i:starEach (e::es) X.env=(false,eval e X.env)::starEach es X.env:=by rfl) (f:(backTo pos (starEach es X.env)).any (·.1)=false:=by rfl):Pm K E X (.Call (.Name x p) (e::es) [] pos) (Hy r tr) (jt m fr):=⟨A7 k l j n h.pa q d i f,Mu g h.ma⟩
def iQ(k:kg X (.type T') r)(g:MC K r m)(l:Gl X x)(j:X.mg x=none)(n:bootBuiltins x=some (.type T'))(h:Ad K E X (e::es) tr fr)(q:x≠ "__name__" :=by decide)(d:(x==("__debug__" : Str))=false:=by decide)
  (i:starEach (e::es) X.env=(false,eval e X.env)::starEach es X.env:=by rfl) (f:(backTo pos (starEach es X.env)).any (·.1)=false:=by rfl):Pm K E X (.Call (.Name x p) (e::es) [] pos) (Hy r tr) (jt m fr):=⟨ue k l j n h.pa q d i f,Mu g h.ma⟩
def mh(k:kg X (.type T') r)(g:RJ K r mf)(l:Gl X x)(j:X.mg x=none)(n:bootBuiltins x=some (.type T'))(h:Ad K E X (e::es) tr fr)(q:x≠ "__name__" :=by decide)(d:(x==("__debug__" : Str))=false:=by decide)
  (i:starEach (e::es) X.env=(false,eval e X.env)::starEach es X.env:=by rfl) (f:(backTo pos (starEach es X.env)).any (·.1)=false:=by rfl):El K E X (.Call (.Name x p) (e::es) [] pos) (Hy r tr) (Em mf fr):=⟨ue k l j n h.pa q d i f,QN g h.ma⟩
end
@[simp] noncomputable def jE:List T->M T
 |[.lst ts]=>.ok (.int ts.length)
 |[.tup ts]=>.ok (.int ts.length)
 |[.scr ns]=>.ok (.int ns.length)
 |[.str z]=>if z.length<=sizeLine then .ok (.int z.length) else .bad
 |_=>.bad
def KQ xs:M.NoE (jE xs):=λC n=>by unfold jE;split<;>first|(intro z;cases z;done)|(split<;>first|(intro z;cases z;done)|(split<;>intro z<;>cases z))
def jH:MC K (λxs H Q=>∃x n,xs=[x]/\N8 K x H n/\Q (.int n) H) jE:=⟨KQ,λF H g xs Q s r q=>by
 cases r with
 |nil=>exact q.elim
 |cons h t=>
  cases t with
  |cons _ _=>cases h<;>exact q.elim
  |nil=>
   cases h with
   |lst h r=>exact⟨_,_,rfl,.inl ⟨_,lC.of (s _ _ h),rfl⟩,by rw[r.length];exact kV.now q s (.int _)⟩
   |tup h r=>exact⟨_,_,rfl,.inr ⟨_,mD.of (s _ _ h),rfl⟩,by rw[r.length];exact kV.now q s (.int _)⟩
   |scr h=>exact⟨_,_,rfl,.inl ⟨_,s.seq h,rfl⟩,by rw[aw];exact kV.now q s (.int _)⟩
   |str z=>
    have d:(if z.length<=sizeLine then M.ok (T.int z.length) else M.bad).res (kV K F H Q) (λ_ _=>False):=q;by_cases f:z.length<=sizeLine
    .rw[aP f]at d;exact⟨_,z.length,rfl,⟨f,rfl⟩,kV.now d s (.int _)⟩
    .rw[aQ f]at d;exact d.elim
   |_=>exact q.elim⟩
@[simp] noncomputable def A0:List T->M T
 |[.int i]=>.ok (.int (if i<0 then -i else i))
 |_=>.bad
def K7 xs:M.NoE (A0 xs):=λC n=>by unfold A0;split<;>first|(intro z;cases z;done)|(split<;>first|(intro z;cases z;done)|(split<;>intro z<;>cases z))
def vL:MC K (λxs H Q=>∃i,xs=[.int i]/\Q (.int (if i<0 then -i else i)) H) A0:=⟨K7,λF H d xs Q s r q=>by
 cases r with
 |nil=>exact q.elim
 |cons h t=>
  cases t with
  |cons _ _=>cases h<;>exact q.elim
  |nil=>
   cases h with
   |int i=>exact⟨i,rfl,kV.now q s (.int _)⟩
   |_=>exact q.elim⟩
@[simp] noncomputable def rQ:List T->M T
 |[.int i]=>.ok (.int i)
 |[.bl k]=>.ok (.int (if k then 1 else 0))
 |_=>.bad
def Hx xs:M.NoE (rQ xs):=λC n=>by unfold rQ;split<;>first|(intro z;cases z;done)|(split<;>first|(intro z;cases z;done)|(split<;>intro z<;>cases z))
def zA:MC K (λxs H Q=>(∃i,xs=[.int i]/\Q (.int i) H)\/∃k,xs=[.bl k]/\Q (.int (if k then 1 else 0)) H) rQ:=⟨Hx,λF H d xs Q s r q=>by
 cases r with
 |nil=>exact q.elim
 |cons h t=>
  cases t with
  |cons _ _=>cases h<;>exact q.elim
  |nil=>
   cases h with
   |int i=>exact .inl ⟨i,rfl,kV.now q s (.int _)⟩
   |bl k=>exact .inr ⟨k,rfl,kV.now q s (.int _)⟩
   |_=>exact q.elim⟩
@[simp] noncomputable def ja:List T->M T
 |[.lst ts]=>.ok (.tup ts)
 |[.tup ts]=>.ok (.tup ts)
 |[.scr ns]=>.ok (.tup (ns.map T.int))
 |_=>.bad
def CH xs:M.NoE (ja xs):=λC n=>by unfold ja;split<;>first|(intro z;cases z;done)|(split<;>first|(intro z;cases z;done)|(split<;>intro z<;>cases z))
def jh:MC K (λxs H Q=>∃p f,xs=[.ref p]/\((lC K H p f/\∀l,H l=none->Q (.ref l) (ju H l (.tup f)))\/(mD K H p f/\Q (.ref p) H))) ja:=⟨CH,λF H g xs Q s r q=>by
 cases r with
 |nil=>exact q.elim
 |cons h t=>
  cases t with
  |cons _ _=>cases h<;>exact q.elim
  |nil=>
   cases h with
   |lst h r=>exact⟨_,_,rfl,.inl ⟨lC.of (s _ _ h),λl d=>q (.ref l) _ _ (.new s d) (.tup gB (r.mono (Gr.new s d).ff))⟩⟩
   |scr h=>exact⟨_,_,rfl,.inl ⟨s.seq h,λl d=>q (.ref l) _ _ (.new s d) (.tup gB (gH.of_ints _))⟩⟩
   |tup h r=>exact⟨_,_,rfl,.inr ⟨mD.of (s _ _ h),kV.now q s (.tup h r)⟩⟩
   |_=>exact q.elim⟩
@[simp] noncomputable def mF:List T->M (List T)
 |[.lst ts]=>.ok ts
 |[.tup ts]=>.ok ts
 |[.scr ns]=>.ok (ns.map T.int)
 |_=>.bad
def FS xs:M.NoE (mF xs):=λC n=>by unfold mF;split<;>first|(intro z;cases z;done)|(split<;>first|(intro z;cases z;done)|(split<;>intro z<;>cases z))
def nc:RJ K (λxs H Q=>∃p f,xs=[.ref p]/\(lC K H p f\/mD K H p f)/\∀l,H l=none->Q (.ref l) (ju H l (.lst f))) mF:=⟨FS,λF H g xs Q s r q=>by
 cases r with
 |nil=>exact q.elim
 |cons h t=>
  cases t with
  |cons _ _=>cases h<;>exact q.elim
  |nil=>
   cases h with
   |lst h r=>exact⟨_,_,rfl,.inl (lC.of (s _ _ h)),λl d=>q l _ F _ (.new' s d) d (gN s d) gB r⟩
   |scr h=>exact⟨_,_,rfl,.inl (s.seq h),λl d=>q l _ F _ (.new' s d) d (gN s d) gB (gH.of_ints _)⟩
   |tup h r=>exact⟨_,_,rfl,.inr (mD.of (s _ _ h)),λl d=>q l _ F _ (.new' s d) d (gN s d) gB r⟩
   |_=>exact q.elim⟩
def kq:List T->Option (LI)
 |[]=>some []
 |.int i::ts=>(kq ts).bind λr=>some (i::r)
 |_::_=>none
theorem rq:∀{ts} {ns},kq ts=some ns->ts=ns.map T.int
 |[],_,e=>by cases e;rfl
 |t::ts,ns,e=>by
  cases t with
  |int i=>
   cases q:kq ts with
   |none=>simp[kq,q]at e
   |some r=>simp[kq,q]at e;subst e;rw[rq q];rfl
  |_=>cases e
@[simp] theorem FF ns:kq (ns.map T.int)=some ns:=by
 induction ns with
 |nil=>rfl
 |cons n ns ih=>simp[kq,ih]
def qV:List T->Option (List Bool)
 |[]=>some []
 |.bl i::ts=>(qV ts).bind λr=>some (i::r)
 |_::_=>none
theorem yx:∀{ts} {ns},qV ts=some ns->ts=ns.map T.bl
 |[],_,e=>by cases e;rfl
 |t::ts,ns,e=>by
  cases t with
  |bl i=>
   cases q:qV ts with
   |none=>simp[qV,q]at e
   |some r=>simp[qV,q]at e;subst e;rw[yx q];rfl
  |_=>cases e
@[simp] theorem PN ns:qV (ns.map T.bl)=some ns:=by
 induction ns with
 |nil=>rfl
 |cons n ns ih=>simp[qV,ih]
@[simp] noncomputable def Dg:List T->M T
 |[.lst ts]=>match kq ts with
  |some ns=>.ok (.int ns.sum)
  |none=>.bad
 |_=>.bad
def K5 xs:M.NoE (Dg xs):=λC n=>by unfold Dg;split<;>first|(intro z;cases z;done)|(split<;>first|(intro z;cases z;done)|(split<;>intro z<;>cases z))
def HF:MC K (λxs H Q=>∃(p:Addr) (d:LI),xs=[.ref p]/\lC K H p (d.map V.int)/\Q (.int d.sum) H) Dg:=⟨K5,λF H i xs Q s r q=>by
 cases r with
 |nil=>exact q.elim
 |cons h t=>
  cases t with
  |cons _ _=>cases h<;>exact q.elim
  |nil=>
   cases h with
   |lst h r=>
    rename_i a xs g;have f:(match kq g with|some d=>M.ok (T.int d.sum)|none=>M.bad).res (kV K F H Q) (λ_ _=>False):=q;cases e:kq g with
    |none=>rw[e]at f;exact f.elim
    |some d=>rw[e]at f;rw[rq e]at r;have:=r.ints;subst this;exact⟨a,d,rfl,lC.of (s _ _ h),kV.now f s (.int _)⟩
   |_=>exact q.elim⟩
@[simp] noncomputable def zK:List T->M T
 |[.lst ts]=>match qV ts with
  |some ns=>.ok (.bl (ns.all id))
  |none=>.bad
 |_=>.bad
def Ln xs:M.NoE (zK xs):=λC n=>by unfold zK;split<;>first|(intro z;cases z;done)|(split<;>first|(intro z;cases z;done)|(split<;>intro z<;>cases z))
def tq:MC K (λxs H Q=>∃(p:Addr) (bs:List Bool),xs=[.ref p]/\lC K H p (bs.map V.bl)/\Q (.bl (bs.all id)) H) zK:=⟨Ln,λF H g xs Q s r q=>by
 cases r with
 |nil=>exact q.elim
 |cons h t=>
  cases t with
  |cons _ _=>cases h<;>exact q.elim
  |nil=>
   cases h with
   |lst h r=>
    rename_i a xs f;have d:(match qV f with|some ns=>M.ok (T.bl (ns.all id))|none=>M.bad).res (kV K F H Q) (λ_ _=>False):=q;cases e:qV f with
    |none=>rw[e]at d;exact d.elim
    |some ns=>rw[e]at d;rw[yx e]at r;have:=r.bls;subst this;exact⟨a,ns,rfl,lC.of (s _ _ h),kV.now d s (.bl _)⟩
   |_=>exact q.elim⟩
@[simp] noncomputable def Pt:T->String
 |.non=> "NoneType"
 |.bl _=> "bool"
 |.int _=> "int"
 |.str _=> "str"
 |.tup _=> "tuple"
 |.lst _=> "list"
 |.scr _=> "script"
 |.obj _ _=> "object"
 |.emp=> "dict"
 |.dic _=> "table"
@[simp] noncomputable def Nx(n:String)(x:T):M T:=match x with
 |.scr _=>.bad
 |.obj _ _=>.bad
 |.dic _=>.bad
 |x=>.ok (.bl (Pt x==n||(n == "int" && Pt x == "bool")))
def Q6(r:j9 K F v x)(s:gL F H)(g:∀f,x≠.scr f)(k:∀C fs,x≠.obj C fs)(d:∀j,x≠.dic j):pX K H v (.type (Pt x)):=by
 cases r with
 |non=>exact .non
 |bl b=>exact .bl b
 |int i=>exact .int i
 |str x=>exact .str x
 |tup h r=>exact .tup (s _ _ h)
 |lst h r=>exact .lst (s _ _ h)
 |scr h=>exact absurd rfl (g _)
 |obj h r=>exact absurd rfl (k _ _)
 |emp h=>exact .dK (s _ _ h)
 |dic h r=>exact absurd rfl (d _)
@[simp] noncomputable def nE(n:String)(fe:Pe->M T):Pe->M T:=λd=>(fe d).bind λx=>Nx n x
theorem MX(w:∀t∈["NoneType", "bool", "int", "str", "tuple", "list", "dict"],W.kitOne K (.type t) (.type n)=some (t==n||(n == "int" && t == "bool")))(B:ME K E te fe) :
  ME K E (Hy (λxs H Q=>∃x T t b,xs=[x,.ty T]/\pX K H x t/\W.kitOne K t (.type T)=some b/\Q (.bl b) H) (nK te (nK (tC (.ty n)) qQ))) (nE n fe):=λF H I D Q s V q=>by
 refine B.run s V q λx v u j k y g=>?_;have d:∀b,Nx n x=.ok (.bl b)->(∀h,x≠.scr h)->(∀C fs,x≠.obj C fs)->(∀i,x≠.dic i)->b=(Pt x==n||(n == "int" && Pt x == "bool"))->∃f T t b,[v,L2.V.ty n]=[f,.ty T]/\pX K j f t/\W.kitOne K t (.type T)=some b/\Q (.bl b) j:=by
  intro b e l m r A;rw[e]at g;refine⟨v,n,_,b,rfl,Q6 y k.fh l m r,?_,g _ u j k (.bl _)⟩;rw[A];refine w _ ?_;cases x with
  |scr h=>exact absurd rfl (l h)
  |obj C fs=>exact absurd rfl (m C fs)
  |dic i=>exact absurd rfl (r i)
  |_=>simp[Pt]
 cases x with
 |scr h=>exact g.elim
 |obj C fs=>exact g.elim
 |dic i=>exact g.elim
 |non=>exact d _ rfl (λ_ z=>nomatch z) (λ_ _ z=>nomatch z) (λ_ z=>nomatch z) rfl
 |bl _=>exact d _ rfl (λ_ z=>nomatch z) (λ_ _ z=>nomatch z) (λ_ z=>nomatch z) rfl
 |int _=>exact d _ rfl (λ_ z=>nomatch z) (λ_ _ z=>nomatch z) (λ_ z=>nomatch z) rfl
 |str _=>exact d _ rfl (λ_ z=>nomatch z) (λ_ _ z=>nomatch z) (λ_ z=>nomatch z) rfl
 |tup _=>exact d _ rfl (λ_ z=>nomatch z) (λ_ _ z=>nomatch z) (λ_ z=>nomatch z) rfl
 |lst _=>exact d _ rfl (λ_ z=>nomatch z) (λ_ _ z=>nomatch z) (λ_ z=>nomatch z) rfl
 |emp=>exact d _ rfl (λ_ z=>nomatch z) (λ_ _ z=>nomatch z) (λ_ z=>nomatch z) rfl
def KG K:∀n∈["int", "bool", "str", "tuple", "list"],∀t∈["NoneType", "bool", "int", "str", "tuple", "list", "dict"],W.kitOne K (.type t) (.type n)=some (t==n||(n == "int" && t == "bool")):=by intro n f t d;simp only[aE,c7,or_false]at f d;rcases f with rfl|rfl|rfl|rfl|rfl<;>rcases d with rfl|rfl|rfl|rfl|rfl|rfl|rfl<;>rfl
def lA n (f:n∈["int", "bool", "str", "tuple", "list"]) (m:X.mg "isinstance" = none) (l:X.mg x=none) (h:bootBuiltins x=some (.type n)) (r:Pm K E X e te fe) (u:X.K=K:=by rfl) (i:Gl X "isinstance" :=by rfl) (d:Gl X x:=by rfl)
  (k:x≠ "__name__" :=by decide) (j:(x==("__debug__" : Str))=false:=by decide)
  (s:starEach [e,.Name x p3] X.env=(false,eval e X.env)::starEach [.Name x p3] X.env:=by rfl) (g:starEach [.Name x p3] X.env=(false,eval (.Name x p3) X.env)::starEach [] X.env:=by rfl) (q:(backTo pos (starEach [.Name x p3] X.env)).any (·.1)=false:=by rfl) :
  Pm K E X (.Call (.Name "isinstance" p) [e,.Name x p3] [] pos) (Hy (λxs H Q=>∃x T t b,xs=[x,.ty T]/\pX K H x t/\W.kitOne K t (.type T)=some b/\Q (.bl b) H) (nK te (nK (tC (.ty n)) qQ))) (nE n fe):=by
 subst u;exact⟨A7 Hw i m NI (nO r.pe (nO (LM d l h rfl k j) rD g) s) (by decide) (by decide) s q,MX (KG X.K n f) r.me⟩
@[simp] noncomputable def gX:T->T->M T
 |.lst ts,.int i=>match rN ts i with
  |some t=>.ok t
  |none=>.bad
 |.tup ts,.int i=>match rN ts i with
  |some t=>.ok t
  |none=>.bad
 |.scr ns,.int i=>match rN ns i with
  |some t=>.ok (.int t)
  |none=>.bad
 |.str z,.int i=>if z.length<=sizeLine then (match rN z.cps.toList i with
  |some c=>.ok (.str ⟨#[c]⟩)
  |none=>.bad) else .bad
 |_,_=>.bad
def DB(r:gH K F vs ts)(h:rN ts i=some t):∃v,rN vs i=some v/\j9 K F v t:=by
 unfold rN at h ⊢;rw[r.length];cases e:xi ts.length i with
 |none=>rw[e]at h;cases h
 |some j=>rw[e]at h;exact r.get h
def rV(f:α->β) l i:rN (l.map f) i=(rN l i).map f:=by
 unfold rN;rw[aw];cases xi l.length i with
 |none=>rfl
 |some j=>simp
def Nc x y:M.NoE (gX x y):=λC n=>by unfold gX;split<;>first|(intro z;cases z;done)|(split<;>first|(intro z;cases z;done)|(split<;>intro z<;>cases z))
def Q2:MR K (Ni K) gX:=⟨Nc,λF H v w x y Q s d rb q=>by
 unfold gX at q;split at q
 .rename_i l i;rw[rb.int_inv];obtain⟨a,f,rfl,h,r⟩:=d.lst_inv;split at q
  .rename_i t e;obtain⟨v,j,g⟩:=DB r e;exact .inl ⟨a,f,i,v,rfl,rfl,lC.of (s _ _ h),j,kV.now q s g⟩
  .exact q.elim
 .rename_i l i;rw[rb.int_inv];obtain⟨a,f,rfl,h,r⟩:=d.tup_inv;split at q
  .rename_i t e;obtain⟨v,j,g⟩:=DB r e;exact .inr (.inl ⟨a,f,i,v,rfl,rfl,mD.of (s _ _ h),j,kV.now q s g⟩)
  .exact q.elim
 .rename_i m i;rw[rb.int_inv];cases d with
  |scr h=>
   split at q
   .rename_i t e;exact .inl ⟨_,_,i,.int t,rfl,rfl,s.seq h,by rw[rV,e];rfl,kV.now q s (.int _)⟩
   .exact q.elim
 .rename_i z i;rw[rb.int_inv];cases d with
  |str z=>
   split at q
   .rename_i k;split at q
    .rename_i c e;exact .inr (.inr ⟨z,i,c,rfl,rfl,k,e,kV.now q s (.str _)⟩)
    .exact q.elim
   .exact q.elim
 .exact q.elim⟩
def DE(f:Pm K E X a ta fa)(d:Pm K E X b tb fb)(h:Aa b:=by intro _ _;rfl)(g:X.K=K:=by rfl):Pm K E X (.Subscript a b pos) (uh (Ni K) ta tb) (fZ gX fa fb):=⟨Mh (g▸HK) f.pe d.pe h,DQ Q2 f.me d.me⟩
def Js:Rt K E X none Eg (λ_=>.ok none):=⟨LD,λF H f d Q s V q=>q F H (.refl s)⟩
@[simp] noncomputable def kL(fe:Pe->M T):Pe->M (Option Int):=λd=>(fe d).bind λx=>match x with
 |.int i=>.ok (some i)
 |_=>.bad
def Gz(h:Pm K E X e te fe):Rt K E X (some e) (My te) (kL fe):=⟨J8 h.pe,λF H m l Q s V q=>by
 refine h.me.run s V q λx v f g j k d=>?_;cases k with
 |int i=>exact⟨i,rfl,d f g j⟩
 |_=>exact d.elim⟩
noncomputable def qj{f:Type}(xs:List f)(d g:Option Int):List f:=(xs.drop (HT.sIx xs.length 0 d)).take (HT.sIx xs.length xs.length g-HT.sIx xs.length 0 d)
def Oz xs lo hi:Hj xs lo hi=qj xs lo hi:=rfl
def gH.cut(r:gH K F vs ts) lo hi:gH K F (qj vs lo hi) (qj ts lo hi):=by unfold qj;rw[r.length];exact (r.drop _).take _
def GX(f:α->β) l lo hi:qj (l.map f) lo hi=(qj l lo hi).map f:=by unfold qj;rw[aw,c8,List.map_drop]
section
variable {lo hi:Option Expr}{tl th:TO}{fl fh:Pe->M (Option Int)}
def MO.run{k:Option Int->M α}{P:α->Prop}(h:MO K E t f)(s:gL F H)(v:lF K F σ ρ)(r:((f ρ).bind k).res P (kE E F H))
  (j:∀x i d,Gr F H i d->(k x).res P (kE E i d)->Q x d):t σ H Q:=
 h F H σ ρ Q s v ((M.res.unb r).mono (λx q i d g=>j x i d g (q.mono (λ_ z=>z) λ_ _ z=>z.go g)) λ_ _ z=>z)
@[simp] noncomputable def nF(fe:Pe->M T)(fl fh:Pe->M (Option Int)):Pe->M T:=λd=>(fe d).bind λx=>(fl d).bind λl=>(fh d).bind λh=>match x with
 |.tup ts=>.ok (.tup (qj ts l h))
 |.lst ts=>.ok (.lst (qj ts l h))
 |.scr ns=>.ok (.lst ((qj ns l h).map T.int))
 |_=>.bad
def AH(y:Pm K E X e te fe)(A:Rt K E X lo tl fl)(z:Rt K E X hi th fh)(N:X.K=K:=by rfl):Pm K E X (.Subscript e (.Slice lo hi none p2) pos) (Si (λx lo hi H Q=>Qg K x lo hi H Q\/(QQ K x lo hi H Q\/QK K x lo hi H Q)) te tl th) (nF fe fl fh):=by
 subst N;refine⟨IW (LK.or (Nh.or Kl)) y.pe A.po z.po,λF H σ S Q s V q=>?_⟩;refine y.me.run s V q λx v P Y j I C=>?_;refine A.mo.run j.fh (V.mono j.ff) C λl Z U k J=>?_;refine z.mo.run k.fh ((V.mono j.ff).mono k.ff) J λu w B d m=>?_;have g:=(j.trans k).trans d;have D:=I.mono (k.ff.trans d.ff);cases D with
 |lst h r=>exact .inl ⟨_,_,rfl,lC.of (d.fh _ _ h),λp f=>m (.ref p) _ _ (g.trans (.new d.fh f)) (.lst gB ((r.cut l u).mono (Gr.new d.fh f).ff))⟩
 |scr h=>exact .inl ⟨_,_,rfl,d.fh.seq h,λp f=>m (.ref p) _ _ (g.trans (.new d.fh f)) (.lst gB (by rw[Oz,GX];exact gH.of_ints _))⟩
 |tup h r=>
  rename_i a R i;have n:(M.ok (T.tup (qj i l u))).res (kV X.K F H Q) (kE E w B):=m;by_cases hw:HT.sIx i.length 0 l=0/\HT.sIx i.length i.length u=i.length
  .have L:qj i l u=i:=by unfold qj;rw[hw.1,hw.2];simp
   rw[L]at n;exact .inr (.inr ⟨_,_,rfl,mD.of (d.fh _ _ h),by rw[r.length];exact hw,n _ w B g (.tup h r)⟩)
  .exact .inr (.inl ⟨_,_,rfl,mD.of (d.fh _ _ h),by rw[r.length];exact hw,λp f=>n (.ref p) _ _ (g.trans (.new d.fh f)) (.tup gB ((r.cut l u).mono (Gr.new d.fh f).ff))⟩)
 |_=>exact m.elim
end
section
variable {x:Str}{k:Nat}{Fn:List T->M T}{Ff:List T->M (List T)}
def lZ(h:lG X.prog X.w X.K X.mg X.base x j (uH K Fn))(hr:i6 k X.A)(g:Ad K E X (e::es) tr fr)(i:j<=k:=by decide)(m:Gl X x:=by rfl)
  (d:(x==("__debug__" : Str))=false:=by decide) (l:starEach (e::es) X.env=(false,eval e X.env)::starEach es X.env:=by rfl) (f:(backTo pos (starEach es X.env)).any (·.1)=false:=by rfl) :
  Pm K E X (.Call (.Name x p) (e::es) [] pos) (qS (uH K Fn) [] E0 tr) (fY fr Fn):=⟨vy (h.mono i) hr g.pa m d l f,HH g.ma⟩
def JZ(h:lG X.prog X.w X.K X.mg X.base x j (Cf K Ff))(hr:i6 k X.A)(g:Ad K E X (e::es) tr fr)(i:j<=k:=by decide)(m:Gl X x:=by rfl)
  (d:(x==("__debug__" : Str))=false:=by decide) (l:starEach (e::es) X.env=(false,eval e X.env)::starEach es X.env:=by rfl) (f:(backTo pos (starEach es X.env)).any (·.1)=false:=by rfl) :
  El K E X (.Call (.Name x p) (e::es) [] pos) (qS (Cf K Ff) [] E0 tr) (jY fr Ff):=⟨vy (h.mono i) hr g.pa m d l f,Ib g.ma⟩
end
def Qh(K:W.Frag)(t:TE):TI:=λd H R=>Aj K t d H R\/OA K t d H R
@[simp] noncomputable def iB(fa:Pe->M T):Pe->M (List T):=λd=>(fa d).bind λx=>match x with
 |.lst ts=>.ok ts
 |.scr ns=>.ok (ns.map T.int)
 |.tup ts=>.ok ts
 |_=>.bad
def OC(f:ME K E ta fa):MI K E (Qh K ta) (iB fa):=λF H g d R s V q=>by
 unfold iB at q;cases e:fa d with
 |bad=>rw[e]at q;exact q.elim
 |er C n=>rw[e]at q;exact .inl (zk f F H g d R s V (by unfold Rn;rw[e];exact q))
 |ok x=>
  rw[e]at q;cases x with
  |lst ts=>exact .inl (zk f F H g d R s V (by unfold Rn;rw[e];exact q))
  |scr ns=>exact .inl (zk f F H g d R s V (by unfold Rn;rw[e];exact q))
  |tup ts=>exact .inr (N5 f F H g d R s V (by unfold Sg;rw[e];exact q))
  |_=>exact q.elim
def ik(d:Pm K E X a ta fa)(i:X.K=K:=by rfl):JM K E X tg a (Qh K ta) (iB fa):=by
 subst i;refine⟨λf s g H R I h=>?_,OC d.me⟩;rcases h with h|h
 .exact Dx d.pe f s g H R I h
 .exact N2 d.pe f s g H R I h
def Mw(K:W.Frag)(ta:TA):TI:=λg H R=>∃d f,Nf K d f ta g H R
@[simp] noncomputable def seqT:T->M (List T)
 |.lst ts=>.ok ts
 |.scr ns=>.ok (ns.map T.int)
 |.tup ts=>.ok ts
 |_=>.bad
@[simp] noncomputable def mE(fa:Pe->M (List T)):Pe->M (List T):=λg=>(fa g).bind λf=>match f with
 |[x,y]=>(seqT x).bind λh=>(seqT y).bind λd=>.ok (zm h d)
 |_=>.bad
noncomputable def r6:T->Bool
 |.tup _=>true
 |_=>false
def Cp x:seqT x=seqB (r6 x) x:=by cases x<;>rfl
def K1(g:MA K E tr fr):MI K E (Mw K tr) (mE fr):=λF H h d R s V q=>by
 unfold mE at q;cases e:fr d with
 |bad=>rw[e]at q;exact q.elim
 |er C n=>rw[e]at q;exact⟨true,true,Jy g F H h d R s V (by unfold Ol;rw[e];exact q)⟩
 |ok xs=>
  rw[e]at q;match xs,e,q with
  |[],_,q=>exact q.elim
  |[_],_,q=>exact q.elim
  |[x,y],e,q=>refine⟨r6 x,r6 y,Jy g F H h d R s V ?_⟩;unfold Ol;rw[e];have f:((seqT x).bind λj=>(seqT y).bind λi=>M.ok (zm j i)).res (kI K F H R) (kE E F H):=q;rw[Cp x,Cp y]at f;exact f
  |_::_::_::_,_,q=>exact q.elim
def mj{x1}(i:X.mg "zip" = none)(f:Ad K E X [a,b] tr fr)(g:X.K=K:=by rfl)(k:Gl X "zip" :=by rfl)(l:starEach [a,b] X.env=[(false,eval a X.env),(false,eval b X.env)]:=by rfl)
  (d:starEach [b] X.env=[(false,eval b X.env)]:=by rfl):JM K E X (.Tuple elts x1 tpos) (.Call (.Name "zip" p) [a,b] [] pos) (Mw K tr) (mE fr):=by
 subst g;refine⟨λj s m H R I h=>?_,K1 f.ma⟩;obtain⟨n,q,h⟩:=h;exact M6 k i f.pa l d j s m H R I h
def lj(h:X.mg "range" = none)(d:Ad K E X [a] tr fr)(g:Gl X "range" :=by rfl)(f:starEach [a] X.env=[(false,eval a X.env)]:=by rfl):yU K E X tg (.Call (.Name "range" p) [a] [] pos) (Jo tr) (kY fr):=⟨Fk g h d.pa f,K4 d.ma⟩
def yU.pim(h:yU K E X tg it w f):JM K E X tg it w f:=⟨h.pi,h.mi.mi⟩
section
variable {x:Str}{g:TG}{gs:JK}{m:T->Pe->Option Pe}{ms:List T->Pe->Option Pe}{mo:T->En->Option En}{mos:List T->En->Option En}{n:Nat}
def iR i (f:X.N.Nodup) (d:EB X.env.scope x:=by first|exact Or.inl rfl|exact Or.inr rfl) (j:X.N[i]? = some x:=by rfl) (h:X.fn x=true\/X.env.scope.names.lookup x=some .local:=by first|exact .inl rfl|exact .inr rfl|assumption):Pk K X (.Name x pos) (jg i) (jP i):=⟨Ex f j d h,Kx⟩
def iu i (f:X.N.Nodup) (d:EB X.env.scope x:=by first|exact Or.inl rfl|exact Or.inr rfl) (j:X.N[i]? = some x:=by rfl) (h:X.fn x=true\/X.env.scope.names.lookup x=some .local:=by first|exact .inl rfl|exact .inr rfl|assumption):Pc K X (.Name x pos) (jg i) (jA i):=⟨Ex f j d h,Hi⟩
def lW:J4 K X [] ET oI:=⟨DK,J9⟩
def mw:KN K X [] ET kC:=⟨DK,G9⟩
def iC(d:Pk K X e g m)(f:J4 K X es gs ms)(h:(assignEach (e::es) X.env).map (·.2)=assign e X.env::(assignEach es X.env).map (·.2):=by rfl):J4 K X (e::es) (vX g gs) (iX m ms):=⟨Bv d.pg f.pg h,Jt d.mg f.mg⟩
def iO(d:Pc K X e g mo)(f:KN K X es gs mos)(h:(assignEach (e::es) X.env).map (·.2)=assign e X.env::(assignEach es X.env).map (·.2):=by rfl):KN K X (e::es) (vX g gs) (gY mo mos):=⟨Bv d.pg f.pg h,Ge d.mg f.mg⟩
def oG n (f:X.calm=true) (h:J4 K X es gs ms) (j:X.K=K:=by rfl) (i:(assignEach es X.env).length=n:=by rfl) (d:(assignEach es X.env).findIdx? (·.1)=none:=by rfl):Pk K X (.Tuple es k pos) (EN K n gs) (oO n ms):=by subst j;exact⟨IQ f h.pg i d,M9 h.mg⟩
def pT n (f:X.calm=true) (h:KN K X es gs mos) (j:X.K=K:=by rfl) (i:(assignEach es X.env).length=n:=by rfl) (d:(assignEach es X.env).findIdx? (·.1)=none:=by rfl):Pc K X (.Tuple es k pos) (EN K n gs) (kr n mos):=by subst j;exact⟨IQ f h.pg i d,KR h.mg⟩
end
section
variable {elt iter:Expr}{ifs:List Expr}{scope:Scope}{N:List Str}{ix:List (Option Nat)}{wi:TI}{g:TG}{tt:TT}{fi:Pe->M (List T)}{m:T->Pe->Option Pe}{ft:Pe->M Bool}
def iL:HG K E X [] Ng (λ_=>.ok true):=⟨Kv,NM⟩
def lR(h:BC K E X c t f):HG K E X [c] t f:=⟨J5 h.pt,h.mt⟩
@[simp] noncomputable def ka(ix:List (Option Nat))(fi:Pe->M (List T))(m:T->Pe->Option Pe)(ft:Pe->M Bool)(fe:Pe->M T):Pe->M (List T):=λf=>(fi f).bind λd=>(if d.length<sizeLine then pR (sE m ft fe (nN ix f)) d else .bad).noEr
def QX(n:X.calm=true)(k:JM K E X tg iter wi fi)(L:AR X scope N ix)(j:oQ ix g)
  (f:∀C d H i h,Pk K (mQ X N scope C d H i h) tg g m/\HG K JP (mQ X N scope C d H i h) ifs tt ft/\Pm K JP (mQ X N scope C d H i h) elt te fe)
  (r:∀x,foldedSetIterable iter X.env x=pure x:=by intro _;rfl):El K E X (.ListComp elt [⟨tg,iter,ifs,0⟩] scope pos) (Je ix wi g tt te) (ka ix fi m ft fe):=by
 obtain⟨s,q,l⟩:=f 0 X.s₀ X.H₀ [] [];exact⟨Qv n k.pi L j (λC d H i h=>⟨(f C d H i h).1.pg,(f C d H i h).2.1.pf,(f C d H i h).2.2.pe⟩) r,MD k.mi s.mg q.mt l.me⟩
end
end
end L3
namespace L3
open PySem L2 PySem.Spec PyProof.Rows
section
variable {K:W.Frag}{E:XK}{X:Cx}{a b c e o tg it:Expr}{es:List Expr}{ta tb tc te to:TE}{fa fb fc fe fo:Pe->M T}{tr:TA}{fr:Pe->M (List T)}{pos pos' p p2 apos:Pos}{st:Stmt}{mV:List Stmt}{t u:TS}{g g':En->O}{ff:Pe->M (List T)}{x:Str}
def gE:pS K E X [] Ai gM:=⟨DN,Kj⟩
def f6(h:sU K E X st t g):pS K E X [st] t g:=⟨uT h.ps,h.ms⟩
def fU(h:sU K E X st t g)(d:pS K E X mV u g'):pS K E X (st::mV) (xx t u) (gh g g'):=⟨p9 h.ps d.ps,N7 h.ms d.ms⟩
def zR:sU K E X st BL (λ_=>.bad):=⟨Ha,Jq⟩
def iz(h:Pm K E X e te fe):sU K E X (.Return (some e) pos) (wA te) (gW fe):=⟨vZ h.pe,N6 h.me⟩
def sQ(h:El K E X e te ff):sU K E X (.Return (some e) pos) (wA te) (wJ ff):=⟨vZ h.pe,Kk h.mf⟩
def rY i (h:PE X (.Name x p) (lQ i)):sU K E X (.Return (some (.Name x p)) pos) (wA (lQ i)) (nG i):=⟨vZ h,FV⟩
def gZ{tc:TT}{fc:Pe->M Bool}(f:BC K E X c tc fc)(h:pS K E X A t g)(d:pS K E X B u g'):sU K E X (.If c A B pos) (G6 tc t u) (j5 fc g g'):=⟨Mj f.pt h.ps d.ps,QM f.mt h.ms d.ms⟩
def yZ{tc:TT}{fc:Pe->M Bool}(d:En->Nat)(i:PassesOwn (model X.prog X.w) X.A X.env X.xe)(f:BC K E X c tc fc)(h:pS K E X A t g):sU K E X (.While c A [] pos) (C3 tc t) (λρ=>lS fc g (d ρ) ρ):=⟨HR i f.pt h.ps,Jj d f.mt h.ms⟩
section
variable {w:TI}{fi:Pe->M (List T)}{gt:TG}{m:T->En->Option En}{A:List Stmt}
def i8(k:PassesOwn (model X.prog X.w) X.A X.env X.xe)(i:X.calm=true)(d:JM K E X tg it w fi)(f:Pc K X tg gt m)(h:pS K E X A t g)(j:∀x,foldedSetIterable it X.env x=pure x:=by intro _;rfl):sU K E X (.For tg it A [] pos) (Cj w gt t) (mH fi m g):=⟨BQ k i d.pi f.pg h.ps j,MV d.mi f.mg h.ms⟩
def nB(k:PassesOwn (model X.prog X.w) X.A X.env X.xe)(i:X.calm=true)(d:yU K E X tg it w fi)(f:Pc K X tg gt m)(h:pS K E X A t g)(j:∀x,foldedSetIterable it X.env x=pure x:=by intro _;rfl):sU K E X (.For tg it A [] pos) (Cj w gt t) (pG fi m g):=⟨BQ k i d.pi f.pg h.ps j,La d.mi f.mg h.ms⟩
end
def NH i (B:X.N.Nodup) (s:EB X.env.scope x)
  (A:X.calm=true) (n:JM K E X tg iter wi fi) (L:AR X scope N ix) (l:oQ ix gt)
  (f:∀C d H h j,Pk K (mQ X N scope C d H h j) tg gt m/\HG K JP (mQ X N scope C d H h j) ifs tt ft/\Pm K JP (mQ X N scope C d H h j) elt te fe)
  (q:MF K E (Je ix wi gt tt te) (ka ix fi m ft fe)->MS K E (l3 (Je ix wi gt tt te) (jg i)) gm)
  (D:X.N[i]? = some x:=by rfl) (v:X.fn x=true\/X.env.scope.names.lookup x=some .local:=by first|exact .inl rfl|exact .inr rfl)
  (k:swapsWith (.ListComp elt [⟨tg,iter,ifs,0⟩] scope pos) (some (.Name x py)) spos.line X.env=pure true:=by rfl)
  (r:∀x,foldedSetIterable iter X.env x=pure x:=by intro _;rfl):sU K E X (.Assign [.Name x py] (.ListComp elt [⟨tg,iter,ifs,0⟩] scope pos) spos) (l3 (Je ix wi gt tt te) (jg i)) gm:=by
 obtain⟨z,w,y⟩:=f 0 X.s₀ X.H₀ [] [];exact⟨Iu B D s A n.pi L l (λC d H h j=>⟨(f C d H h j).1.pg,(f C d H h j).2.1.pf,(f C d H h j).2.2.pe⟩) v k r,q (MD n.mi z.mg w.mt y.me)⟩
def iI i (f:X.N.Nodup) (h:Pm K E X e te fe) (k:EB X.env.scope x:=by first|exact Or.inl rfl|exact Or.inr rfl) (d:X.N[i]? = some x:=by rfl) (j:swapsWith e (some (.Name x pos')) pos.line X.env=pure false:=by rfl) (l:X.fn x=true\/X.env.scope.names.lookup x=some .local:=by first|exact .inl rfl|exact .inr rfl|assumption) :
  sU K E X (.Assign [.Name x pos'] e pos) (l3 te (jg i)) (setO i (iD fe)):=⟨wX f d k h.pe j l,Dm h.me⟩
def wj i (f:X.N.Nodup) (h:Pm K E X e te fe) (k:EB X.env.scope x:=by first|exact Or.inl rfl|exact Or.inr rfl) (d:X.N[i]? = some x:=by rfl) (j:swapsWith e (some (.Name x pos')) pos.line X.env=pure false:=by rfl) (l:X.fn x=true\/X.env.scope.names.lookup x=some .local:=by first|exact .inl rfl|exact .inr rfl|assumption) :
  sU K E X (.Assign [.Name x pos'] e pos) (l3 te (jg i)) (setO i (mJ fe)):=⟨wX f d k h.pe j l,KI h.me⟩
def oC i (f:X.N.Nodup) (h:El K E X e te ff) (k:EB X.env.scope x:=by first|exact Or.inl rfl|exact Or.inr rfl) (d:X.N[i]? = some x:=by rfl) (j:swapsWith e (some (.Name x pos')) pos.line X.env=pure false:=by rfl) (l:X.fn x=true\/X.env.scope.names.lookup x=some .local:=by first|exact .inl rfl|exact .inr rfl|assumption) :
  sU K E X (.Assign [.Name x pos'] e pos) (l3 te (jg i)) (mB i (nC ff)):=⟨wX f d k h.pe j l,DD h.mf⟩
def rX(h:MF K E te ff):MS K E (l3 te (jg i)) (setO i (iD λρ=>(ff ρ).bind λts=>.ok (.lst ts))):=Dm h.me
@[simp] noncomputable def J3(i j:Nat)(fr:Pe->M (List T)):En->O:=λd=>.of (fr (lY d)) λf=>match f with
 |[x,y]=>.nx ((d.set i (some (.p x))).set j (some (.p y)))
 |_=>.bad
def OW(h:MA K E tr fr):MS K E (OO i j tr) (J3 i j fr):=λB y F H v l D r q=>by
 refine h F H v (lY l) _ r.gr.fh r.vars ((O.res_of q).mono (λw z A k s f d=>?_) λC n z=>z.go r.gr);have m:=r.grow f;cases d with
 |nil=>exact z.elim
 |cons h1 d=>
  cases d with
  |nil=>exact z.elim
  |cons h2 d=>
   cases d with
   |nil=>exact⟨_,_,rfl,z k s _ f.ff ((m.setP h1).setP h2)⟩
   |cons h3 d=>exact z.elim
def KA{kt k2 pt2}(k:X.calm=true)(l:X.N.Nodup)(h:X.N[i]? = some x)(n:X.N[j]? = some y)(d:i≠j)
  (q:X.env.scope.names.lookup x=some .local) (r:X.env.scope.names.lookup y=some .local) (f:Ad K E X [a,b] tr fr)
  (hw:swappedStores [.Tuple [.Name x px,.Name y py] kt pt] (.Tuple [a,b] k2 pt2) X.env=pure (some [x,y]))
  (m:swapsWithSole [.Tuple [.Name x px,.Name y py] kt pt] (.Tuple [a,b] k2 pt2) pos.line X.env=pure false:=by rfl) :
  sU K E X (.Assign [.Tuple [.Name x px,.Name y py] kt pt] (.Tuple [a,b] k2 pt2) pos) (OO i j tr) (J3 i j fr):=⟨NR k l h n d q r f.pa hw m,OW f.ma⟩
def zI(h:H l=some (.lst xs)):OG K "list" (.ref l) H:=.inl ⟨rfl,_,lC.of h⟩
def n0 i (hv:PE X (.Name x p) (lQ i)) (ha:Pm K E X e te fe) (hs:starEach [e] X.env=(false,eval e X.env)::starEach [] X.env:=by rfl) (hK:X.K=K:=by rfl)
  (hbase:attributeBase (.Name x p) "append" X.env (eval (.Name x p) X.env)=eval (.Name x p) X.env:=by rfl)
  (hfew:((backTo pos (starEach [e] X.env)).all (λx=>!x.1)&&(backToKw pos (keywordEach [] X.env)).all (λx=>x.1.isSome)&&decide (([e]:List Expr).length+([]:List Keyword).length+(if ([]:List Keyword).isEmpty then 0 else 1)<30))=true:=by rfl)
  (hline:(apos.endLine==pos.line)=true:=by rfl) (hplain:(backTo pos (starEach [] X.env)).any (·.1)=false:=by rfl) (hsw:swapsWith (.Call (.Attribute (.Name x p) "append" apos) [e] [] pos) none pos'.line X.env=pure false:=by rfl) :
  sU K E X (.Expr (.Call (.Attribute (.Name x p) "append" apos) [e] [] pos) pos') (oz (FR K i te)) (oy i (iD fe)):=by
 subst hK;exact⟨r0 (Dt PySem.F.plainAttrs_list PySem.F.slot_list_append PySem.F.type_list_append qH hv (nO ha.pe rD hs) hbase hfew hline hs hplain) hsw,Kh (λl xs H h=>zI h) ha.me⟩
def HI i (r:PE X (.Name x p) (lQ i)) (n:Pm K E X e te fe) (m:starEach [e] X.env=(false,eval e X.env)::starEach [] X.env:=by rfl) (q:X.K=K:=by rfl)
  (d:attributeBase (.Name x p) "append" X.env (eval (.Name x p) X.env)=eval (.Name x p) X.env:=by rfl)
  (j:((backTo pos (starEach [e] X.env)).all (λx=>!x.1)&&(backToKw pos (keywordEach [] X.env)).all (λx=>x.1.isSome)&&decide (([e]:List Expr).length+([]:List Keyword).length+(if ([]:List Keyword).isEmpty then 0 else 1)<30))=true:=by rfl)
  (f:(apos.endLine==pos.line)=true:=by rfl) (hplain:(backTo pos (starEach [] X.env)).any (·.1)=false:=by rfl) (k:swapsWith (.Call (.Attribute (.Name x p) "append" apos) [e] [] pos) none pos'.line X.env=pure false:=by rfl) :
  sU K E X (.Expr (.Call (.Attribute (.Name x p) "append" apos) [e] [] pos) pos') (oz (FR K i te)) (oy i (mJ fe)):=by
 subst q;exact⟨r0 (Dt PySem.F.plainAttrs_list PySem.F.slot_list_append PySem.F.type_list_append qH r (nO n.pe rD m) d j f m hplain) k,Km (λl s H h=>zI h) n.me⟩
def uX i (j:PE X (.Name x p) (lQ i)) (d:Pm K E X b tb fb) (h:Pm K E X e te fe)
  (l:∀v,assign (.Subscript (.Name x p) b p2) X.env v=(do
   let ov <-holding [v] (eval (.Name x p) X.env)
   let iv <-holding [v,ov] (eval b X.env)
   standAt p2
   holding [v,ov,iv] (setItem ov iv v)
   release [v,ov,iv] []):=by intro _;rfl)
  (k:swapsWithSole [.Subscript (.Name x p) b p2] e pos.line X.env=pure false:=by rfl) (hw:swappedStores [.Subscript (.Name x p) b p2] e X.env=pure none:=by rfl)
  (f:(assignEach [.Subscript (.Name x p) b p2] X.env).map (·.2)=[assign (.Subscript (.Name x p) b p2) X.env]:=by rfl) :
  sU K E X (.Assign [.Subscript (.Name x p) b p2] e pos) (l3 te (Os (lQ i) tb Du)) (uK i (mJ fb) (mJ fe)):=⟨GO h.pe (OR j d.pe G5 l) k hw f,NV h.me d.me⟩
def GJ(h:Pm K E X e te fe)(d:swapsWith e none pos.line X.env=pure false:=by rfl):sU K E X (.Expr e pos) (oz te) (AQ (iD fe)):=⟨r0 h.pe d,Im h.me⟩
end
section
variable {P:Program}{w:World}{K:W.Frag}{mg:Str->Option Value}{base:Heap}{x:Str}{st:Stmt}{N ps:List Str}{k:Nat}{g:En->O}
def Sd(D:gq K mg x st)(S:jC N ps (gw st))
  (i:∀(kV c m:Vq) (e:Option Addr) (b l:Vq) (us:List Vq),us.length=ps.length->bindArgs (W.fnOf x x (jJ st) (iy st) (gw st) .none kV c m e b l) ⟨us,[]⟩=pure (ps.zip us))
  (d:∀(f:Addr) (b:Vq) (A:Around) (a:List Env) (s:Shared) (H:Hp) (E:XK),i6 k (A.deeper (envOfC x (gw st) s.heap.objs.size f b))->∃t,pS K E (pW xh P w K mg base N x (gw st) f b A a s H E).nox (iy st) t g) :
  lG P w K mg base x (k+1) (uH K (kJ ps.length N.length g)):=
 Dl D S i (λj H Q E h=>Cv h) λf b A a s H j Q E hr h=>let ⟨t,hp⟩:=d f b A a s H E hr;⟨t,hp.ps,zq hp.ms h⟩
def RI(D:gq K mg x st)(S:jC N ps (gw st))
  (i:∀(kV c m:Vq) (e:Option Addr) (b l:Vq) (us:List Vq),us.length=ps.length->bindArgs (W.fnOf x x (jJ st) (iy st) (gw st) .none kV c m e b l) ⟨us,[]⟩=pure (ps.zip us))
  (d:∀(f:Addr) (b:Vq) (A:Around) (a:List Env) (s:Shared) (H:Hp) (E:XK),i6 k (A.deeper (envOfC x (gw st) s.heap.objs.size f b))->∃t,pS K E (pW xh P w K mg base N x (gw st) f b A a s H E).nox (iy st) t g) :
  lG P w K mg base x (k+1) (Cf K (zX ps.length N.length g)):=
 Dl D S i (λj H Q E h=>DS h) λf b A a s H j Q E hr h=>let ⟨t,hp⟩:=d f b A a s H E hr;⟨t,hp.ps,AB hp.ms h⟩
end
end L3
namespace L3
open PySem L2 PySem.Spec PyProof.Rows
section
variable {K:W.Frag}{E:XK}{X:Cx}{a b c e o tg it:Expr}{es:List Expr}{ta tb tc te to:TE}{fa fb fc fe fo:Pe->M T}{tr:TA}{fr:Pe->M (List T)}{pos p p2 apos:Pos}
@[simp] noncomputable def iT(f:Pe->M (List T)):Pe->M T:=λg=>(f g).bind λd=>.ok (.lst d)
def iq(d:X.K=K:=by rfl):kg X (.builtin "len") (λxs H Q=>∃x n,xs=[x]/\N8 K x H n/\Q (.int n) H):=d▸GV
def yD(f:X.calm=true)(g:X.K=K:=by rfl):kg X (.builtin "sum") (λxs H Q=>∃(p:Addr) (d:LI),xs=[.ref p]/\lC K H p (d.map V.int)/\Q (.int d.sum) H):=g▸GZ f
def m8(d:X.calm=true)(f:X.K=K:=by rfl):kg X (.builtin "all") (λxs H Q=>∃(p:Addr) (bs:List Bool),xs=[.ref p]/\lC K H p (bs.map V.bl)/\Q (.bl (bs.all id)) H):=f▸Jb d
def yK(d:X.calm=true)(f:X.K=K:=by rfl):kg X (.builtin "any") (λxs H Q=>∃p vs bs,xs=[.ref p]/\(lC K H p vs\/mD K H p vs)/\mv vs=some bs/\Q (.bl (bs.any id)) H):=f▸E6 d
def iJ(f:X.K=K:=by rfl):kg X (.type "tuple") (λxs H Q=>∃p d,xs=[.ref p]/\((lC K H p d/\∀l,H l=none->Q (.ref l) (ju H l (.tup d)))\/(mD K H p d/\Q (.ref p) H))):=f▸xO
def lB(f:X.K=K:=by rfl):kg X (.type "list") (λxs H Q=>∃p d,xs=[.ref p]/\(lC K H p d\/mD K H p d)/\∀l,H l=none->Q (.ref l) (ju H l (.lst d))):=f▸zP
def FP(d:X.K=K:=by rfl):pJ X (compareOp .NotIn) (R9 K true):=d▸zN
def MZ:T->Option Bool
 |.bl b=>some b
 |.int i=>some (i != 0)
 |_=>none
def uz:List T->Option (List Bool)
 |[]=>some []
 |v::vs=>(MZ v).bind λb=>(uz vs).bind λr=>some (b::r)
theorem zF:∀{vs} {ts},gH K F vs ts->mv vs=uz ts
 |_,_,.nil=>rfl
 |v::vs,t::ts,.cons h r=>by
  have e:Af v=MZ t:=by cases h<;>rfl
  rw[mv,uz,zF r,e]
@[simp] theorem Pp ns:uz (ns.map T.bl)=some ns:=by
 induction ns with
 |nil=>rfl
 |cons n ns ih=>simp[uz,MZ,ih]
@[simp] noncomputable def uA(ts:List T):M T:=match uz ts with
 |some bs=>.ok (.bl (bs.any id))
 |none=>.bad
@[simp] noncomputable def CI:List T->M T
 |[.lst ts]=>uA ts
 |[.tup ts]=>uA ts
 |_=>.bad
def I0 ts:M.NoE (uA ts):=λC n=>by unfold uA;split<;>intro z<;>cases z
def J6 xs:M.NoE (CI xs):=λC n=>by unfold CI;split<;>first|exact I0 _ C n|(intro z;cases z)
def HD:MC K (λxs H Q=>∃p vs bs,xs=[.ref p]/\(lC K H p vs\/mD K H p vs)/\mv vs=some bs/\Q (.bl (bs.any id)) H) CI:=⟨J6,λF H vs xs Q s r q=>by
 cases r with
 |nil=>exact q.elim
 |cons h t=>
  cases t with
  |cons _ _=>cases h<;>exact q.elim
  |nil=>
   cases h with
   |lst h r=>
    rename_i a xs f;have d:(uA f).res (kV K F H Q) (λ_ _=>False):=q;unfold uA at d;cases e:uz f with
    |none=>rw[e]at d;exact d.elim
    |some bs=>rw[e]at d;exact⟨a,xs,bs,rfl,.inl (lC.of (s _ _ h)),by rw[zF r];exact e,kV.now d s (.bl _)⟩
   |tup h r=>
    rename_i a xs f;have d:(uA f).res (kV K F H Q) (λ_ _=>False):=q;unfold uA at d;cases e:uz f with
    |none=>rw[e]at d;exact d.elim
    |some bs=>rw[e]at d;exact⟨a,xs,bs,rfl,.inr (mD.of (s _ _ h)),by rw[zF r];exact e,kV.now d s (.bl _)⟩
   |_=>exact q.elim⟩
@[simp] noncomputable def He(neg:Bool):T->T->M T
 |.bl a,.bl b=>.ok (.bl (if neg then !(a==b) else a==b))
 |_,_=>.bad
def Lm x y:M.NoE (He neg x y):=λC n=>by unfold He;split<;>intro z<;>cases z
def Gg:MR K (λx y H Q=>∃a b,x=.bl a/\y=.bl b/\Q (.bl (!(a==b))) H) (He true):=⟨Lm,λF H v w x y Q s d rb q=>by
 cases d with
 |bl a=>
  cases rb with
  |bl b=>exact⟨_,_,rfl,rfl,kV.now q s (.bl _)⟩
  |_=>exact q.elim
 |_=>exact q.elim⟩
noncomputable def AL:T->T->M T
 |.tup a,.int k=>if BD k=true/\a.length*k.toNat<=sizeLine then .ok (.tup (List.replicate k.toNat a).flatten) else .bad
 |_,_=>.bad
def GG x y:M.NoE (AL x y):=λC n=>by unfold AL;split<;>first|(split<;>intro z<;>cases z)|(intro z;cases z)
def Kz:MR K Jc AL:=⟨GG,λF H v w x y Q s l rb q=>by
 cases l with
 |tup h r=>
  cases rb with
  |int k=>
   rename_i a j g;have d:(if BD k=true/\g.length*k.toNat<=sizeLine then M.ok (T.tup (List.replicate k.toNat g).flatten) else M.bad).res (kV K F H Q) (λ_ _=>False):=q;by_cases f:BD k=true/\g.length*k.toNat<=sizeLine
   .rw[aP f]at d;refine⟨a,k,j,rfl,rfl,s _ _ h,by have:=qF f.1;rw[Q7]at this;rw[RB];omega,by have:=qF f.1;rw[Q7]at this;rw[RB];omega,by rw[r.length];exact f.2,λz=>?_,λz p i=>?_⟩
    .have:(List.replicate k.toNat g).flatten=g:=by
      rcases z with z|z
      .subst z;cases r;simp
      .subst z;simp
     rw[this]at d;exact kV.now d s (.tup h r)
    .exact d (.ref p) _ _ (.new s i) (.tup gB ((r.rep k.toNat).mono (Gr.new s i).ff))
   .rw[aQ f]at d;exact d.elim
  |_=>exact q.elim
 |_=>exact q.elim⟩
@[simp] noncomputable def Dk(fa fb:Pe->M T):Pe->M T:=fZ AL fa fb
def Dy(f:Pm K E X a ta fa)(d:Pm K E X b tb fb):Pm K E X (.BinOp a .Mult b pos) (uh Jc ta tb) (Dk fa fb):=vQ Le Kz f d
noncomputable def nL(xs:List T):List T:=(xs.zipIdx).map λp=>T.tup [.int (p.2:Int),p.1]
def IM(K:W.Frag)(ta:TA):TI:=λd H R=>∃b,GK K b ta d H R
@[simp] noncomputable def EH(fa:Pe->M (List T)):Pe->M (List T):=λf=>(fa f).bind λg=>match g with
 |[x]=>(seqT x).bind λd=>.ok (nL d)
 |_=>.bad
def Kf{b:Bool}(j:∀H,gL F H->uP K H b l xs)(h:gH K F xs ts):xB K (R4 K b l) (nL ts) F where
 go:=λi H s u=>by
  have d:i<ts.length:=by simpa[nL] using u
  have f:xs[i]? = some (xs[i]'(by rw[h.length];exact d)):=ag _;exact⟨xs,_,j H s,f⟩
 stop:=λH s=>⟨xs,j H s,by simp[nL,h.length]⟩
 yld:=λi t z H x A m k e y=>by
  obtain⟨p,n,rfl,w,rfl,f⟩:=y;obtain⟨r,v,q⟩:=h.at_ (f xs (j H (m.trans k)));have:t=.tup [.int i,r]:=by unfold nL at e;rw[av,List.getElem?_zipIdx,v]at e;simp at e;exact e.symm
  rw[this];have g:=Gr.new (o:=.tup [.int i,n]) k w;exact⟨_,g,.tup gB (.cons (.int _) (.cons ((q.mono m).mono g.ff) .nil))⟩
noncomputable def Di(b:Bool)(fa:Pe->M (List T)):Pe->M (List T):=λf=>(fa f).bind λd=>match d with
 |[x]=>(seqB b x).bind λg=>.ok (nL g)
 |_=>.bad
def AZ{b:Bool}(u:MA K E tr fr):MI K E (GK K b tr) (Di b fr):=λF H z w R s V q=>by
 refine u.run s V q λv y j k h l d=>?_;split at d
 .rename_i x;cases l with
  |cons a c=>
   cases c;cases f:seqB b x with
   |bad=>rw[f]at d;exact d.elim
   |er C n=>exact absurd f yL
   |ok ts=>rw[f]at d;obtain⟨r,i,rfl,g,m⟩:=zW a f;exact⟨r,rfl,⟨i,g _ h.fh⟩,d _ j k h (Kf g m)⟩
 .exact d.elim
def Lb(g:MA K E tr fr):MI K E (IM K tr) (EH fr):=λF H h d R s V q=>by
 unfold EH at q;cases e:fr d with
 |bad=>rw[e]at q;exact q.elim
 |er C n=>rw[e]at q;exact⟨true,AZ g F H h d R s V (by unfold Di;rw[e];exact q)⟩
 |ok xs=>
  rw[e]at q;match xs,e,q with
  |[],_,q=>exact q.elim
  |[x],e,q=>refine⟨r6 x,AZ g F H h d R s V ?_⟩;unfold Di;rw[e];have f:((seqT x).bind λi=>M.ok (nL i)).res (kI K F H R) (kE E F H):=q;rw[Cp x]at f;exact f
  |_::_::_,_,q=>exact q.elim
def Li{x1}(g:X.mg "enumerate" = none)(d:Ad K E X [a] tr fr)(f:X.K=K:=by rfl)(j:Gl X "enumerate" :=by rfl)(k:starEach [a] X.env=[(false,eval a X.env)]:=by rfl) :
  JM K E X (.Tuple elts x1 tpos) (.Call (.Name "enumerate" p) [a] [] pos) (IM K tr) (EH fr):=by
 subst f;refine⟨λi s l H R I h=>?_,Lb d.ma⟩;obtain⟨b,h⟩:=h;exact IB j g d.pa k i s l H R I h
end
structure Bs(mg:Str->Option Value):Prop where
 abs:mg "abs" = none
 isinstance:mg "isinstance" = none
 int:mg "int" = none
 bool:mg "bool" = none
 len:mg "len" = none
 range:mg "range" = none
 tuple:mg "tuple" = none
 list:mg "list" = none
 str:mg "str" = none
 all:mg "all" = none
 any:mg "any" = none
 sum:mg "sum" = none
 zip:mg "zip" = none
 max:mg "max" = none
 min:mg "min" = none
 enumerate:mg "enumerate" = none
 reversed:mg "reversed" = none
 set:mg "set" = none
 dict:mg "dict" = none
 sorted:mg "sorted" = none
 repr:mg "repr" = none
def lI:bootBuiltins "list" = some (.type "list"):=by decide +kernel
def Pa:bootBuiltins "min" = some (.builtin "min"):=by decide +kernel
end L3
namespace L3
open PySem L2
section
variable {α:Type}
theorem yH enc f:∀(l:List α),(∀a∈l,k (enc a)=.ok (some (f a)))->pR k (l.map enc)=.ok (l.map f)
 |[],_=>rfl
 |a::l,h=>by rw[bH,pR,h a (by simp),M.bind_ok,yH enc f l λb c=>h b (by simp[c])];rfl
theorem rP enc f p:∀(l:List α),(∀a∈l,k (enc a)=.ok (if p a then some (f a) else none))->pR k (l.map enc)=.ok ((l.filter p).map f)
 |[],_=>rfl
 |a::l,h=>by
  rw[bH,pR,h a (by simp),M.bind_ok,rP enc f p l λb d=>h b (by simp[d])];by_cases c:p a=true
  .simp[c]
  .simp[c]
theorem iV enc (P:Nat->En->Prop):∀(l:List α) (k:Nat) (ρ:En),P k ρ->
  (∀i a ρ,l[i]? = some a->P (k+i) ρ->∃d c,m (enc a) ρ=some d/\(g d=.nx c\/g d=.ct c)/\P (k+i+1) c)->∃ρ',iW m g (l.map enc) ρ=.nx ρ'/\P (k+l.length) ρ'
 |[],k,ρ,h,_=>⟨ρ,rfl,h⟩
 |a::l,k,ρ,h,st=>by
  obtain⟨d,c,o,f,q⟩:=st 0 a ρ rfl h;obtain⟨ρ',e,j⟩:=iV enc P l (k+1) c q λi b ρ p n=>by have:=st (i+1) b ρ (by simpa using p) (by rw[show k+(i+1)=k+1+i by omega];exact n);rw[show k+1+i+1=k+(i+1)+1 by omega];exact this
  refine⟨ρ',?_,by rw[ay,show k+(l.length+1)=k+1+l.length by omega];exact j⟩;rw[bH,iW,o];rcases f with f|f<;>(dsimp only;rw[f];exact e)
theorem qE enc (P:En->Prop):∀(l:List α) (ρ:En),P ρ->
  (∀a∈l,∀ρ,P ρ->∃d c,m (enc a) ρ=some d/\(g d=.nx c\/g d=.ct c)/\P c)->∃ρ',iW m g (l.map enc) ρ=.nx ρ'/\P ρ'
 |[],ρ,h,_=>⟨ρ,rfl,h⟩
 |a::l,ρ,h,st=>by obtain⟨d,c,k,f,o⟩:=st a (by simp) ρ h;obtain⟨ρ',e,i⟩:=qE enc P l c o λb n ρ j=>st b (by simp[n]) ρ j;refine⟨ρ',?_,i⟩;rw[bH,iW,k];rcases f with f|f<;>(dsimp only;rw[f];exact e)
theorem m9(P:En->Prop)(b:En->Nat)(R:En->Prop)(st:∀ρ,P ρ->(c (vw ρ)=.ok false/\R ρ)\/(c (vw ρ)=.ok true/\∃a,(g ρ=.nx a\/g ρ=.ct a)/\P a/\b a<b ρ)) :
  ∀n ρ,P ρ->b ρ<n->∃ρ',lS c g n ρ=.nx ρ'/\R ρ'
 |0,ρ,_,h=>absurd h (c9 _)
 |n+1,ρ,hP,hn=>by
  rcases st ρ hP with⟨e,r⟩|⟨e,a,d,f,j⟩
  .exact⟨ρ,by rw[lS,e];rfl,r⟩
  .obtain⟨ρ',i,r⟩:=m9 P b R st n a f (by omega);refine⟨ρ',?_,r⟩;rw[lS,e,O.of_ok,aP rfl];rcases d with d|d<;>(rw[d];exact i)
end
def uV{n:Type}(l:List n) enc f (d:fi ρ=.ok (l.map enc)) (g:l.length<sizeLine)
  (e:∀a∈l,∃b,m (enc a) (nN ix ρ)=some b/\ft b=.ok true/\fe b=.ok (f a)):ka ix fi m ft fe ρ=.ok (l.map f):=by
 have h:=yH (k:=sE m ft fe (nN ix ρ)) enc f l λa o=>by obtain⟨b,i,j,c⟩:=e a o;unfold sE;rw[i];dsimp only;rw[j,M.bind_ok,aP rfl,c];rfl
 unfold ka;rw[d,M.bind_ok,aw,aP g,h];rfl
theorem Dc{n:Type}(l:List n) enc f p (d:fi ρ=.ok (l.map enc)) (g:l.length<sizeLine)
  (e:∀a∈l,∃b,m (enc a) (nN ix ρ)=some b/\ft b=.ok (p a)/\(p a=true->fe b=.ok (f a))):ka ix fi m ft fe ρ=.ok ((l.filter p).map f):=by
 have h:=rP (k:=sE m ft fe (nN ix ρ)) enc f p l λa o=>by
  obtain⟨b,i,j,c⟩:=e a o;unfold sE;rw[i];dsimp only;rw[j,M.bind_ok];cases q:p a with
  |true=>rw[aP rfl,aP rfl,c q];rfl
  |false=>rw[aQ aG,aQ aG]
 unfold ka;rw[d,M.bind_ok,aw,aP g,h];rfl
def ku{g:Type}(l:List g) enc f (c:fi ρ=.ok (l.map enc)) (e:l.length<sizeLine)
  (d:∀a∈l,∃b,m (enc a) (nN ix ρ)=some b/\ft b=.ok true/\fe b=.ok (f a)) (hr:l.map f=ts):ka ix fi m ft fe ρ=.ok ts:=by rw[<-hr];exact uV l enc f c e d
def oK{g:Type}(l:List g) enc f p (c:fi ρ=.ok (l.map enc)) (e:l.length<sizeLine)
  (d:∀a∈l,∃b,m (enc a) (nN ix ρ)=some b/\ft b=.ok (p a)/\(p a=true->fe b=.ok (f a))) (hr:(l.filter p).map f=ts):ka ix fi m ft fe ρ=.ok ts:=by rw[<-hr];exact Dc l enc f p c e d
def Qx lo n:yR lo n=(List.range n).map λ(i:Nat)=>T.int (lo+(i:Int)):=rfl
noncomputable def tI(a:LI):T:=.tup (a.map T.int)
def tL(a:LI):T:=.lst (a.map T.int)
def fr(p:Int×Int):T:=.tup [.int p.1,.int p.2]
noncomputable def tS(s:List (Int×Int)):T:=.tup (s.map fr)
def Cr(l:List α)(i:Int)(d:0<=i)(b:i<l.length):∃a,rN l i=some a/\a∈l:=by
 unfold rN xi;rw[aP d,aP b];have c:i.toNat<l.length:=by omega
 exact⟨l[i.toNat],by simp[c],aU _⟩
def iw(h:PySem.IntMulOk i j):iM (.int i) (.int j)=.ok (.int (i*j)):=by simp[iM,k9,h]
def lM(h:j≠0)(a:Builtin.divisionGoesByPylong i j=false):oq (.int i) (.int j)=.ok (.int (i.fdiv j)):=by simp[oq,k9,h,a]
def qN(h:j≠0):tP (.int i) (.int j)=.ok (.int (i.fmod j)):=by simp[tP,k9,h]
@[simp] theorem iU i j:iG (.int i) (.int j)=.ok (.int (i+j)):=rfl
@[simp] theorem nt i j:oR (.int i) (.int j)=.ok (.int (i-j)):=rfl
@[simp] theorem oH i j:By (.int i) (.int j)=.ok (.bl (decide (i<j))):=rfl
@[simp] theorem yV i j:HY (.int i) (.int j)=.ok (.bl (decide (i<=j))):=rfl
@[simp] theorem sP i j:Ae (.int i) (.int j)=.ok (.bl (decide (j<i))):=rfl
@[simp] theorem sr i j:MB (.int i) (.int j)=.ok (.bl (decide (j<=i))):=rfl
@[simp] theorem iA i j:gD false (.int i) (.int j)=.ok (.bl (i==j)):=by simp[gD,qJ,qL]
@[simp] theorem lV i j:gD true (.int i) (.int j)=.ok (.bl (!(i==j))):=by simp[gD,qJ,qL]
def tZ(h:i.natAbs<2 ^ 64):PySem.IntMulOk i j:=IntMulOk.of_left (PyProof.Rows.intBits_le h)
def rH(h:j.natAbs<2 ^ 64):PySem.IntMulOk i j:=PySem.IntMulOk.of_right (PyProof.Rows.intBits_le h)
def Bn(n:Nat)(x:Int):Prop:=x.natAbs<2 ^ n
def Bn.mono(h:Bn m x)(a:m<=n):Bn n x:=aD h (Nat.pow_le_pow_right (by decide) a)
def Bn.mul(h:Bn m x)(a:Bn n y):Bn (m+n) (x*y):=by unfold Bn at *;rw[aX,Nat.pow_add];exact Nat.mul_lt_mul'' h a
def Bn.add(h:Bn m x)(c:Bn n y):Bn (max m n+1) (x+y):=by have a:Bn (max m n) x:=h.mono (dc _ _);have b:Bn (max m n) y:=c.mono (de _ _);unfold Bn at *;rw[dg];have:=dh x y;omega
def Bn.neg(h:Bn m x):Bn m (-x):=by unfold Bn at *;rw[du];exact h
def Bn.sub(h:Bn m x)(a:Bn n y):Bn (max m n+1) (x-y):=by rw[dw];exact h.add a.neg
def Bn.ok(h:Bn m x)(a:Bn n y)(b:m<=2 ^ 20)(c:n<=2 ^ 20):PySem.IntMulOk x y:=IntMulOk.of_bits (aM (PyProof.Rows.intBits_le h) b) (aM (PyProof.Rows.intBits_le a) c)
def Bn.noPy(h:Bn n y)(a:n<=8000):Builtin.divisionGoesByPylong x y=false:=Cu.noPy (PyProof.Rows.intBits_le h) a
section
variable {a b g:En->O}{ρ ρ':En}{r:O}{fc:Pe->M Bool}{f:Pe->M T}{ff:Pe->M (List T)}{t:T}{ts:List T}{k n i:Nat}
def fX(c:a ρ=.nx ρ')(d:b ρ'=r):gh a b ρ=r:=by unfold gh;rw[c];exact d
def jR(c:a ρ=.rt t)(hr:.rt t=r):gh a b ρ=r:=by unfold gh;rw[c];exact hr
def hU(h:fc (vw ρ)=.ok true)(c:a ρ=r):j5 fc a b ρ=r:=by unfold j5;rw[h];exact c
def gS(h:fc (vw ρ)=.ok false)(c:b ρ=r):j5 fc a b ρ=r:=by unfold j5;rw[h];exact c
def gy(h:f (lY ρ)=.ok t)(hr:ρ'=ρ.set i (some (.p t))):setO i (iD f) ρ=.nx ρ':=by unfold setO iD;rw[h,hr];rfl
def vf(h:f (vw ρ)=.ok t)(c:lf t=true)(hr:ρ'=ρ.set i (some (.p t))):setO i (mJ f) ρ=.nx ρ':=by unfold setO mJ;rw[h,hr];simp[c]
def l5(h:ff (lY ρ)=.ok ts)(hr:ρ'=ρ.set i (some (.o ts))):mB i (nC ff) ρ=.nx ρ':=by unfold mB nC;rw[h,hr];rfl
def LU(h:ff (vw ρ)=.ok ts)(c:zj ts=true)(hr:ρ'=ρ.set i (some (.o ts))):mB i (tT ff) ρ=.nx ρ':=by unfold mB tT;rw[h,hr];simp[c]
def tw(d:ρ[i]? = some (some (.o us)))(h:f (lY ρ)=.ok t)(c:us.length<sizeLine)(hr:ρ'=ρ.set i (some (.o (us++[t])))):oy i (iD f) ρ=.nx ρ':=by unfold oy iD mC;rw[d,h,hr];simp[c]
def KO(d:ρ[i]? = some (some (.o us)))(h:f (vw ρ)=.ok t)(e:lf t=true)(c:us.length<sizeLine)(hr:ρ'=ρ.set i (some (.o (us++[t])))):oy i (mJ f) ρ=.nx ρ':=by unfold oy mJ mC;rw[d,h,hr];simp[c,e]
def yX(d:ρ[i]? = some (some (.o us)))(h:f (vw ρ)=.ok t)(e:lf t=true)(c:fk (vw ρ)=.ok (.int j))(l:xi us.length j=some m)(hr:ρ'=ρ.set i (some (.o (us.set m t)))):uK i (mJ fk) (mJ f) ρ=.nx ρ':=by unfold uK mJ mC;rw[d,h,c,hr];simp[e,l]
def gC(h:f (vw ρ)=.ok t):gW f ρ=.rt t:=by unfold gW;rw[h];rfl
def zv(h:ff (vw ρ)=.ok ts):wJ ff ρ=.rf ts:=by unfold wJ;rw[h];rfl
def K6(h:f (lY ρ)=.ok t):AQ (iD f) ρ=.nx ρ:=by unfold AQ iD;rw[h];rfl
def i9(h:fi (lY ρ)=.ok its)(c:iW m g its ρ=r):mH fi m g ρ=r:=by unfold mH;rw[h];exact c
def mU(h:fi (vw ρ)=.ok its)(c:iW m g its ρ=r):pG fi m g ρ=r:=by unfold pG;rw[h];exact c
def gO(c:ts.length=k)(h:g (g9 n ts)=.rt t):kJ k n g ts=.ok t:=by unfold kJ;rw[aP c,h];rfl
def QD(c:ts.length=k)(h:g (g9 n ts)=.nx ρ):kJ k n g ts=.ok .non:=by unfold kJ;rw[aP c,h];rfl
def pY(c:ts.length=k)(h:g (g9 n ts)=.rf us):zX k n g ts=.ok us:=by unfold zX;rw[aP c,h];rfl
end
def Kb n:yR 0 n=(List.range n).map λ(i:Nat)=>T.int (i:Int):=by simp[yR]
theorem ou{d:Type} f:∀(l:List d),(∀a∈l,qJ (f a)=true)->nV (l.map f)=true
 |[],_=>rfl
 |a::l,h=>by rw[bH,nV,h a (by simp),ou f l λb c=>h b (by simp[c])];rfl
theorem n5{α:Type} f n:∀(l:List α),(∀a∈l,Ay (f a)<=n)->rK (l.map f)<=n
 |[],_=>bJ _
 |a::l,h=>by rw[bH,E5];have h1:=h a (by simp);have h2:=n5 f n l λb hb=>h b (by simp[hb]);omega
@[simp] theorem Pl(a:LI):nV (a.map T.int)=true:=ou _ _ λ_ _=>rfl
def ua(a:LI):rK (a.map T.int)<=0:=n5 _ _ _ λ_ _=>aJ _
@[simp] theorem NN ns:qJ (tI ns)=true:=by simp[tI,qJ]
def Ox ns:Ay (tI ns)<=1:=by unfold tI;rw[EA];have:=ua ns;omega
@[simp] theorem P7(l:LL):nV (l.map tI)=true:=ou _ _ λ_ _=>NN _
def Bw(l:LL):rK (l.map tI)<=1:=n5 _ _ _ λ_ _=>Ox _
@[simp] theorem Gn l:xa l []=l.isEmpty:=by cases l<;>rfl
theorem A6{d:Type} f (c:∀a b,Ey (f a) (f b)=true↔a=b):∀(l m:List d),xa (l.map f) (m.map f)=true↔l=m
 |[],[]=>by simp[ub]
 |[],b::m=>⟨λz=>(nomatch (show false=true from z)),λz=>nomatch z⟩
 |a::l,[]=>by simp[ub]
 |a::l,b::m=>by rw[bH,bH,ub,bS,c a b,A6 f c l m];simp
def ya(l m:LI):xa (l.map T.int) (m.map T.int)=decide (l=m):=by
 have h:=A6 T.int (λa b=>by simp[qL]) l m;by_cases e:l=m
 .rw[aB e];exact h.mpr e
 .rw[aA e];cases c:xa (l.map T.int) (m.map T.int) with
  |false=>rfl
  |true=>exact absurd (h.mp c) e
def Ir neg (l m:LI):gD neg (.tup (l.map T.int)) (.tup (m.map T.int))=.ok (.bl (if neg then !decide (l=m) else decide (l=m))):=by have h:=ua l;unfold gD;rw[aP (by simp[qJ];omega),qL,ya]
def BO neg (l m:LI):gD neg (.lst (l.map T.int)) (.lst (m.map T.int))=.ok (.bl (if neg then !decide (l=m) else decide (l=m))):=by have h:=ua l;unfold gD;rw[aP (by simp[qJ];omega),Ej,ya]
def zG neg ts (h:nV ts=true) (a:rK ts<=90):gD neg (.lst ts) (.lst [])=.ok (.bl (if neg then !ts.isEmpty else ts.isEmpty)):=by unfold gD;rw[aP (by simp[qJ,h,nV];omega),Ej,Gn]
def yh{a:Type} f (l:List a):nL (l.map f)=l.zipIdx.map λp=>T.tup [.int (p.2:Int),f p.1]:=by unfold nL;rw[List.zipIdx_map,aH];rfl
def Ho{b a:Type} f (g:a->T) (l:List b) m:zm (l.map f) (m.map g)=(l.zip m).map λp=>T.tup [f p.1,g p.2]:=by unfold zm;rw[List.zip_map,aH];rfl
theorem sG{d:Type} f:∀(l:List d),(∀a∈l,lf (f a)=true)->zj (l.map f)=true
 |[],_=>rfl
 |a::l,h=>by rw[bH,zj,h a (by simp),sG f l λb c=>h b (by simp[c])];rfl
@[simp] theorem IP(a:LI):zj (a.map T.int)=true:=sG _ _ λ_ _=>rfl
@[simp] theorem yc ns:lf (tI ns)=true:=by simp[tI]
@[simp] theorem KH(l:LL):zj (l.map tI)=true:=sG _ _ λ_ _=>yc _
section
variable {α:Type}{fe fd fl:Pe->M T}{ρ:Pe}{ts:List T}{d k:Nat}
def xV(l:List α)(d:Nat):qj l none (some (d:Int))=l.take d:=by
 unfold qj;rw[HT.sIx_none,HT.sIx_nat,dy,Nat.sub_zero];by_cases h:d<=l.length
 .rw[Nat.min_eq_left h]
 .rw[Nat.min_eq_right (by omega),cy (aJ _),cy (by omega)]
def EO(l:List α)(d:Nat):qj l (some (d:Int)) none=l.drop d:=by
 unfold qj;rw[HT.sIx_none,HT.sIx_nat];by_cases h:d<=l.length
 .rw[Nat.min_eq_left h,cy (by simp)]
 .rw[Nat.min_eq_right (by omega),dz (aJ _),dz (by omega),List.take_nil]
def AC(h:fe ρ=.ok (.tup ts))(a:fd ρ=.ok (.int (d:Int)))(b:d<=ts.length):nF fe (λ_=>.ok none) (kL fd) ρ=.ok (.tup (ts.take d)):=by simp only[nF,kL,h,a,M.bind_ok,xV]
def ye(h:fe ρ=.ok (.lst ts))(a:fd ρ=.ok (.int (d:Int))):nF fe (λ_=>.ok none) (kL fd) ρ=.ok (.lst (ts.take d)):=by simp only[nF,kL,h,a,M.bind_ok,xV]
def oo(h:lc ρ=.ok ts)(hr:o [.lst ts]=r):jt o (fR (iT lc) fV) ρ=r:=by simp only[jt,fR,fV,iT,h,M.bind_ok];exact hr
def oM(h:f ρ=.ok t)(hr:o [t]=r):jt o (fR f fV) ρ=r:=by simp only[jt,fR,fV,h,M.bind_ok];exact hr
def jw(h:lc ρ=.ok ts):iT lc ρ=.ok (.lst ts):=by simp only[iT,h,M.bind_ok]
def GU(h:fe ρ=.ok (.tup ts)):iB fe ρ=.ok ts:=by simp only[iB,h,M.bind_ok]
def gz(h:fe ρ=.ok (.bl b)):gI fe ρ=.ok b:=by simp only[gI,h,M.bind_ok]
def wC(h:fc ρ=.ok b)(hr:(!b)=r):L3.jT fc ρ=.ok r:=by simp only[L3.jT,h,M.bind_ok,hr]
def fW(b:fa ρ=.ok x)(a:fb ρ=.ok y)(hr:o x y=r):fZ o fa fb ρ=r:=by simp only[fZ,b,a,M.bind_ok];exact hr
def q0(h:f ρ=.ok x)(hr:F [x]=.ok t):fY (fR f fV) F ρ=.ok t:=by simp only[fY,fR,fV,h,hr,M.bind_ok];rfl
def ig(h:f ρ=.ok x)(a:g ρ=.ok y)(hr:F [x,y]=.ok t):fY (fR f (fR g fV)) F ρ=.ok t:=by simp only[fY,fR,fV,h,a,hr,M.bind_ok];rfl
def j3{f g k:Pe->M T}(h:f ρ=.ok x)(b:g ρ=.ok y)(a:k ρ=.ok z)(hr:F [x,y,z]=.ok t):fY (fR f (fR g (fR k fV))) F ρ=.ok t:=by simp only[fY,fR,fV,h,b,a,hr,M.bind_ok];rfl
def Ea{f g k l:Pe->M T}(h:f ρ=.ok x)(c:g ρ=.ok y)(a:k ρ=.ok z)(b:l ρ=.ok u)(hr:F [x,y,z,u]=.ok t):fY (fR f (fR g (fR k (fR l fV)))) F ρ=.ok t:=by simp only[fY,fR,fV,h,c,a,b,hr,M.bind_ok];rfl
end
section
variable {ρ:Pe}{ts:List T}{F:List T->M (List T)}{f g k l:Pe->M T}{x y z u:T}
def ON(h:f ρ=.ok x)(hr:F [x]=.ok ts):jY (fR f fV) F ρ=.ok ts:=by simp only[jY,fR,fV,h,hr,M.bind_ok];rfl
def Nj(h:f ρ=.ok x)(a:g ρ=.ok y)(hr:F [x,y]=.ok ts):jY (fR f (fR g fV)) F ρ=.ok ts:=by simp only[jY,fR,fV,h,a,hr,M.bind_ok];rfl
def Gw(h:f ρ=.ok x)(b:g ρ=.ok y)(a:k ρ=.ok z)(hr:F [x,y,z]=.ok ts):jY (fR f (fR g (fR k fV))) F ρ=.ok ts:=by simp only[jY,fR,fV,h,b,a,hr,M.bind_ok];rfl
def BJ(h:f ρ=.ok x)(c:g ρ=.ok y)(a:k ρ=.ok z)(b:l ρ=.ok u)(hr:F [x,y,z,u]=.ok ts):jY (fR f (fR g (fR k (fR l fV)))) F ρ=.ok ts:=by simp only[jY,fR,fV,h,c,a,b,hr,M.bind_ok];rfl
end
def oU{b a:Type}{l:List b}{m:List a}{f:b->T}{g:a->T}(e:fa ρ=.ok x)(h:seqT x=.ok (l.map f))(d:fb ρ=.ok y)(c:seqT y=.ok (m.map g)) :
  mE (fR fa (fR fb fV)) ρ=.ok ((l.zip m).map λp=>T.tup [f p.1,g p.2]):=by
 rw[<-Ho];simp only[mE,fR,fV,e,d,M.bind_ok,h,c]
end L3
namespace L3
open PySem L2 PySem.Spec PyProof.Rows
section
variable {K:W.Frag}{E:XK}{X:Cx}{a b c e o tg it:Expr}{es:List Expr}{ta tb tc te to:TE}{fa fb fc fe fo:Pe->M T}{tr:TA}{fr:Pe->M (List T)}{pos p p2 apos:Pos}
@[simp] noncomputable def q9:List T->M T
 |[.int i,.int j]=>.ok (.int (if j<i then j else i))
 |_=>.bad
def G8 xs:M.NoE (q9 xs):=λC n=>by unfold q9;split<;>intro z<;>cases z
def KU:MC K (λxs H Q=>∃i j,xs=[.int i,.int j]/\Q (.int (if j<i then j else i)) H) q9:=⟨G8,λF H d xs Q s r q=>by
 unfold q9 at q;split at q
 .exact⟨_,_,r.two,kV.now q s (.int _)⟩
 .exact q.elim⟩
end
section
variable {K:W.Frag}{E:XK}{X:Cx}{F0:Fz}{H0 F H:Hp}{σ:L2.St}{ρ:En}
def Sr.freeze(r:Sr K F0 H0 F H σ ρ)(e:ρ[j]? = some (some (.o ts))):∃Q,gL F Q/\Sr K F0 H0 Q H σ (ρ.set j (some (.p (.lst ts)))):=by
 obtain⟨n,S,U⟩:=r.ov;obtain⟨a,b,c,Y,d,z⟩:=S j ts e;have s:gL F (ju F (n j) (.lst Y)):=jf b;refine⟨ju F (n j) (.lst Y),s,⟨r.gr.ff.trans s,λp u q=>?_,r.gr.hh,λp l=>?_⟩,by simp[r.len],λi t q=>?_,⟨n,λi A q=>?_,λi k A D q q' N=>?_⟩,λR he=>?_,λi Z m C q=>?_,(r.dv.heap s λp xs l fp=>⟨by rw[gA (λz=>by rw[z,d]at l;cases l)];exact fp,l⟩).setR λ_ z=>nomatch z⟩
 .by_cases l:p=n j
  .subst l;rw[gB]at q;cases q;exact d
  .rw[gA l]at q;exact r.gr.fh p u q
 .by_cases P:p=n j
  .subst P;exact .inr (.inl c)
  .rw[gA P]at l;exact r.gr.nw p l
 .rcases gF q with⟨rfl,g⟩|⟨B,g⟩
  .cases g;exact⟨_,a,.lst gB (z.mono s)⟩
  .obtain⟨v,x,y⟩:=r.pv i t g;exact⟨v,x,y.mono s⟩
 .rcases gF q with⟨rfl,g⟩|⟨B,g⟩
  .cases g
  .obtain⟨a',b',c',m,d',z'⟩:=S i A g;exact⟨a',by rw[gA (U i j A ts g e B)];exact b',c',m,d',z'.mono s⟩
 .rcases gF q with⟨rfl,g⟩|⟨B,g⟩
  .cases g
  .rcases gF q' with⟨rfl,I⟩|⟨hk,I⟩
   .cases I
   .exact U i k A D g I N
 .have L:=r.lv R he;have J:R.2.1≠n j:=λw=>L.d j ts e (by rw[w];exact a);refine⟨L.h,by rw[gA J];exact L.f,L.z,λi A q=>?_⟩;rcases gF q with⟨rfl,g⟩|⟨B,g⟩
  .cases g
  .exact L.d i A g
 .rcases gF q with⟨rfl,g⟩|⟨B,g⟩
  .cases g
  .exact r.sl i Z m C g
@[simp] noncomputable def Px(j:Nat)(g:En->O):En->O:=λρ=>match ρ[j]? with
 |some (some (.o ts))=>g (ρ.set j (some (.p (.lst ts))))
 |_=>.bad
def Qu j (h:MS K E t g):MS K E t (Px j g):=λF0 H0 F H σ ρ D r q=>by
 unfold Px at q;split at q
 .rename_i c e;obtain⟨a,s,b⟩:=r.freeze e;exact h F0 H0 a H σ _ D b (q.go s)
 .exact q.elim
def NS j (h:sU K E X s t g):sU K E X s t (Px j g):=⟨h.ps,Qu j h.ms⟩
def QB(e:ρ[j]? = some (some (.o ts)))(h:g (ρ.set j (some (.p (.lst ts))))=r):Px j g ρ=r:=by unfold Px;rw[e];exact h
end
def ID(K:W.Frag):Sp:=λc H Q _=>∃(a:Addr) (b:LI),c=[.ref a]/\lC K H a (b.map V.int)/\b.length<=63/\(∀z∈b,Builtin.Int.intBits z<=2 ^ 20)/\∀d,Q (.bl true) d
def Hg{K:W.Frag}(h:∀b:LI,b.length<=63->(∀z∈b,Builtin.Int.intBits z<=2 ^ 20)->F [.scr b]=.ok (.bl true)) vs H Q E (z:ID K vs H Q E):uH K F vs H Q E:=by obtain⟨a,b,rfl,c,e,f,d⟩:=z;refine⟨[.scr b],H,.refl _,.cons (.scr c) .nil,?_⟩;rw[h b e f];intro v i j g r;cases r;exact d _
def R3{K:W.Frag}{st:Stmt}(F:JL K x x st f fd)(S:jC N ps (gw st))
  (d:∀(f:Addr) (b:Vq) (A:Around) (a:List Env) (s:Shared) (H:Hp) (E:XK),i6 k (A.deeper (envOfC x (gw st) s.heap.objs.size f b))->∃t,pS K E (pW xh P w K mg base N x (gw st) f b A a s H E).nox (iy st) t g) :
  nh P w K mg base xh (k+1) f fd ps (uH K (kJ ps.length N.length g)):=
 F.ok S (λc H Q E h=>Cv h) λb A a s H c Q E hr h=>let ⟨t,hp⟩:=d f b A a s H E hr;⟨t,hp.ps,zq hp.ms h⟩
def Qz{l:W.OpenLaw}{q:Program}{k:Nat}{x:Str}{c:List Str}{n:(Str->Option Value)->Heap->Prop}{i:World->Heap->Prop}{d:DefRec}{K:Params->W.Frag}(o:l.most=some 63)(hr:i6 k callerA)(g:d.params.defaults=[])
  (v:∀(w:World) (h:Heap),i w h->(K w.params).In h)
  (F:∀(w:World) (e:Str->Option Value) (j:Addr) (h:Heap),(K w.params).In h->h.Ns mainGlobals e->e d.name=some (.ref j)->
   ∃fd:FuncData,(∀(s:Shared) (u:Vq),BindsTo s fd ⟨[u],[]⟩ [(x,u)])/\∀b:Heap,(K w.params).In b->b.Ns mainGlobals e->nh l.prog w (K w.params) e b xh k j fd [x] (ID (K w.params))) :
  W.WalkO q c n i l.row.toRowW d [] (λf vs=>PySem.call f vs):=
 L2.Gf o (by decide) g hr v F (λ_ _ a m y p _ r=>⟨a,m,rfl,r,y,p,λ_=>rfl⟩) λ_ _ _ _ z=>z
end L3
namespace L3
open PySem L2 PySem.Spec PyProof.Rows
section
variable {K:W.Frag}{E:XK}{t:TE}{f:Pe->M T}
def kO(K:W.Frag)(F H:Hp)(x:Addr)(Q:VK)(t:T):Prop:=∀b c,gL F b->gL b c->(∀a o,a≠x->H a=some o->Gk o (c a))->(∀a,b a≠none->F a≠none\/H a=none\/a=x\/∃d,H a=some (.tup d))->j9 K b (.ref x) t->Q .non c
noncomputable def Ck(K:W.Frag)(C:Addr)(g:List T->M T):Sp:=λd H Q _=>∃x e b c a,d=.ref x::b/\H x=some (.ins C e [])/\a x=none/\gL a H/\gH K a b c/\(g c).noEr.res (kO K a H x Q) (λ_ _=>False)
def Hv{fr:Pe->M (List T)}(Y:MA K E tr fr):ME K E (Dr C (Ck K C Fn) [] E' tr) (fY fr Fn):=λF H σ Z Q s V q=>by
 refine Y.run s V q λD U J v g R i=>?_;intro x l j u B;have w:ju v l (.own x) x=none:=by rw[gA (λz=>B z.symm)];exact j
 have m:gL v (ju (ju v l (.own x)) x (.ins C l [])):=(mY u).trans (mY w);refine⟨x,l,U,D,J,by rw[bK],gB,gN g.fh j,g.fh.trans m,R,?_⟩;cases e:Fn D with
 |bad=>rw[e]at i;exact i.elim
 |er C n=>rw[e]at i;exact i.elim
 |ok t=>
  rw[e]at i;intro L X a b c d r;refine⟨rfl,i (.ref x) L X ⟨g.ff.trans a,b,λp o h=>?_,λp P=>?_⟩ r⟩
  .have S:=g.hh p o h;have A:p≠x:=wG S j;exact Mz (g.hh.trans m p o h) λI e=>c p I A e
  .rcases d p P with z|z|z|⟨N,z⟩
   .exact g.nw p z
   .exact .inr (.inl (gN g.hh (gN m z)))
   .rw[z];exact .inr (.inl (gN g.hh j))
   .cases y:H p with
    |none=>exact .inr (.inl rfl)
    |some o=>exact .inr (.inr ⟨N,by have k:=g.hh.trans m p o y;rw[z]at k;rw[rR k λ_ _ y=>nomatch y]⟩)
noncomputable def xX(C:Addr)(n:Nat)(d h:Str)(e g:Pe->M T):List T->M T:=λc=>if c.length=n then (e (none::c.map some)).bind λa=>(g (none::c.map some)).bind λb=>.ok (.obj C [(d,a),(h,b)]) else .bad
structure R6(K:W.Frag)(E:XK)(X:Cx)(body:List Stmt)(f1 f2:Str)(g1 g2:Pe->M T):Prop where
 ex:∃(t1 t2:TE),Ak X body (xx (Ny K (lQ 0) t1 f1) (Ny K (lQ 0) t2 f2))/\ME K E t1 g1/\ME K E t2 g2
def RZ(h:X.K=K)(d:PE X o1 (lQ 0))(e:Pm K E X a1 t1 g1)(a:PE X o2 (lQ 0))(g:Pm K E X a2 t2 g2)
  (c:swapsWith a1 (some (.Attribute o1 f1 p1)) q1.line X.env=pure false:=by rfl) (b:swapsWith a2 (some (.Attribute o2 f2 p2)) q2.line X.env=pure false:=by rfl) :
  R6 K E X [.Assign [.Attribute o1 f1 p1] a1 q1,.Assign [.Attribute o2 f2 p2] a2 q2] f1 f2 g1 g2:=by
 subst h;exact⟨t1,t2,p9 (Ii d e.pe c) (uT (Ii a g.pe b)),e.me,g.me⟩
theorem OK{st:Stmt}(cl:yr K C)(n1:lJ K C f1)(n2:lJ K C f2)(ne:f1≠f2)(D:kP K C "__init__" qual st)(S:jC N N (gw st))
  (mk:W.makesIn K C=true) (kp:W.keepIn K (.ref C)=true) (hm:mg x=some (.ref C)) (hN:N.length=n+1)
  (hb:∀(kV doc pm:Vq) (an:Option Addr) (j ct:Vq) (us:List Vq),us.length=N.length->bindArgs (W.fnOf "__init__" qual (jJ st) (iy st) (gw st) .none kV doc pm an j ct) ⟨us,[]⟩=pure (N.zip us))
  (hT:∀(f:Addr) (j:Vq) (A:Around) (d:List Env) (s:Shared) (H:Hp) (E:XK),i6 k (A.deeper (envOfC qual (gw st) s.heap.objs.size f j))->R6 K E (pW xh P w K mg base N qual (gw st) f j A d s H E).nox (iy st) f1 f2 g1 g2) :
  FM P w K mg base x C (k+1) (Ck K C (xX C n f1 f2 g1 g2)):=by
 obtain⟨fi,fd,F,Mm⟩:=D.ex;refine⟨⟨fi,fd,N,F.ok S (λvs H Q E h=>?_) (λj A d s H vs Q E hr h=>?_),⟨mk,Mm.at_,Mm.fn,kp⟩,F.binds hb⟩,hm⟩
 .obtain⟨x,B,us,u,F0,rfl,Z,fx,s,r,q⟩:=h;unfold xX at q;by_cases J:u.length=n
  .rw[ay,r.length,J,hN]
  .rw[aQ J]at q;exact q.elim
 .obtain⟨x,B,us,u,F0,rfl,Z,fx,s0,r,q⟩:=h;obtain⟨t1,t2,ps,m1,m2⟩:=(hT fi j A d s H E hr).ex;refine⟨_,ps,?_⟩;unfold xX at q;by_cases J:u.length=n
  .rw[aP J]at q;have V:lF K F0 (mx N (.ref x::us)) (none::u.map some):=λi t e=>by
    cases i with
    |zero=>cases e
    |succ i=>
     rw[List.getElem?_cons_succ,av]at e;cases hq:u[i]? with
     |none=>rw[hq]at e;cases e
     |some y=>rw[hq]at e;cases e;obtain⟨v,a,b⟩:=r.get hq;refine⟨v,?_,b⟩;unfold L2.mx;rw[List.getElem?_append_left (by rw[aw,ay];exact Nat.succ_lt_succ (aa.mp a).1),av,List.getElem?_cons_succ,a];rfl
   cases Y:g1 (none::u.map some) with
   |bad=>rw[Y]at q;exact q.elim
   |er C n=>rw[Y]at q;exact q.elim
   |ok a=>
    rw[Y,L3.M.bind_ok]at q;cases U:g2 (none::u.map some) with
    |bad=>rw[U]at q;exact q.elim
    |er C n=>rw[U]at q;exact q.elim
    |ok b=>
     rw[U,L3.M.bind_ok]at q;refine m1 F0 H _ _ _ s0 V ?_;rw[Y];intro v X H1 c r1;have hx1:=c.hh _ _ Z;have L:X x=none:=by
      cases z:X x with
      |none=>rfl
      |some o=>
       rcases c.nw x (by rw[z];exact λy=>nomatch y) with y|y|⟨_,y⟩
       .exact absurd fx y
       .rw[Z]at y;cases y
       .rw[Z]at y;cases y
     refine⟨.ref x,rfl,x,C,B,[],rfl,hx1,cl,n1,by decide,?_⟩;have s1:gL X (ju H1 x (.ins C B (pH f1 v []))):=λp o h=>by
      have l:p≠x:=λz=>by rw[z,L]at h;cases h
      rw[gA l];exact c.fh p o h
     refine m2 X _ _ _ _ s1 (V.mono c.ff) ?_;rw[U];intro R I H3 g r2;have hx3:=g.hh x _ gB;have fx2:I x=none:=by
      cases z:I x with
      |none=>rfl
      |some o=>
       rcases g.nw x (by rw[z];exact λy=>nomatch y) with y|y|⟨_,y⟩
       .exact absurd L y
       .rw[gB]at y;cases y
       .rw[gB]at y;cases y
     refine⟨.ref x,rfl,x,C,B,_,rfl,hx3,cl,n2,by show 1<1000;decide,?_⟩;have ep:pH f2 R (pH f1 v [])=[(f1,v),(f2,R)]:=by show (if f1=f2 then _ else _)=_;rw[aQ ne];rfl
     have sF:gL I (ju I x (.ins C B [(f1,v),(f2,R)])):=mY fx2;refine q (ju I x (.ins C B [(f1,v),(f2,R)])) _ ((c.ff.trans g.ff).trans sF) (λp o h=>?_) (λp o l h=>?_) (λp l=>?_) (.obj gB (.cons (r1.mono (g.ff.trans sF)) (.cons (r2.mono sF) .nil)))
     .by_cases l:p=x
      .subst l;rw[gB]at h;rw[gB,ep];exact .of h
      .rw[gA l]at h ⊢;exact g.fh p o h
     .rw[gA l];exact Mz (c.hh p o h) λo' e=>g.hh p o' (by rw[gA l];exact e)
     .by_cases m:p=x
      .exact .inr (.inr (.inl m))
      .rw[gA m]at l;rcases g.nw p l with z|z|⟨xs,z⟩
       .rcases c.nw p z with y|y|y
        .exact .inl y
        .exact .inr (.inl y)
        .exact .inr (.inr (.inr y))
       .rw[gA m]at z;exact .inr (.inl (gN c.hh z))
       .rw[gA m]at z;cases y:H p with
        |none=>exact .inr (.inl rfl)
        |some o=>exact .inr (.inr (.inr ⟨xs,by have k:=c.hh p o y;rw[z]at k;rw[rR k λ_ _ y=>nomatch y]⟩))
  .rw[aQ J]at q;exact q.elim
end
section
variable {X:Cx}{K:W.Frag}{E:XK}{x m:Str}{C:Addr}{k:Nat}{Fn:List T->M T}{Ff:List T->M (List T)}{e o:Expr}{es:List Expr}{tr:TA}{fr:Pe->M (List T)}{ta:TE}{fa:Pe->M T}{p pos apos:Pos}
def Qe(h:FM X.prog X.w X.K X.mg X.base x C j (Ck K C Fn))(hr:i6 k X.A)(c:Ad K E X (e::es) tr fr)(d:j+1<=k:=by decide)(g:Gl X x:=by rfl)
  (a:(x==("__debug__" : Str))=false:=by decide) (f:starEach (e::es) X.env=(false,eval e X.env)::starEach es X.env:=by rfl) (b:(backTo pos (starEach es X.env)).any (·.1)=false:=by rfl) :
  Pm K E X (.Call (.Name x p) (e::es) [] pos) (Dr C (Ck K C Fn) [] E0 tr) (fY fr Fn):=⟨QW h (hr.mono d) c.pa g a f b,Hv c.ma⟩
def Iy(h:lU X.prog X.w X.K X.mg X.base C m j (uH K Fn))(hr:i6 k X.A)(a:Pm K E X o ta fa)(b:j<=k:=by decide)
  (c:eval (.Call (.Attribute o m apos) [] [] pos) X.env=(do
   let ov <-eval o X.env
   standAt apos.atName
   let (f,first) <-holding [ov] (getMethod ov m pl)
   callWith pos f first (backTo pos (starEach [] X.env)) (backToKw pos (keywordEach [] X.env))):=by rfl) :
  Pm K E X (.Call (.Attribute o m apos) [] [] pos) (yu C m (uH K Fn) [] E0 ta qQ) (uy C m fa fV Fn):=⟨Hu h (hr.mono b) a.pe c,IS a.me B1⟩
def Om(h:lU X.prog X.w X.K X.mg X.base C m j (Cf K Ff))(hr:i6 k X.A)(a:Pm K E X o ta fa)(b:j<=k:=by decide)
  (c:eval (.Call (.Attribute o m apos) [] [] pos) X.env=(do
   let ov <-eval o X.env
   standAt apos.atName
   let (f,first) <-holding [ov] (getMethod ov m pl)
   callWith pos f first (backTo pos (starEach [] X.env)) (backToKw pos (keywordEach [] X.env))):=by rfl) :
  El K E X (.Call (.Attribute o m apos) [] [] pos) (yu C m (Cf K Ff) [] E0 ta qQ) (wD C m fa fV Ff):=⟨Hu h (hr.mono b) a.pe c,Jh a.me B1⟩
def BW(d:X.K=K)(b:yr K C)(a:lJ K C f)(h:Pm K E X e ta fa)(c:attributeBase e f X.env (eval e X.env)=eval e X.env:=by rfl):Pm K E X (.Attribute e f pos) (Oy X.K ta f) (Bo C f fa):=by subst d;exact⟨OF h.pe c,M5 b a h.me⟩
@[simp] noncomputable def IJ(f:Pe->M T)(m:T->En->Option En):En->O:=λa=>O.of (iD f a) λt=>match m t a with
 |some ρ'=>.nx ρ'
 |none=>.bad
def OM{m:T->En->Option En}(h:ME K E t f)(w:JJ K g m):MS K E (l3 t g) (IJ f m):=λu s F H y c D r q=>
 h.inH r q λx v b d z j l a=>by
  cases e:m x c with
  |none=>rw[e]at a;exact a.elim
  |some ρ'=>rw[e]at a;exact w u s b d y c v x ρ' _ l j e λi n=>a b d _ (.refl _) n
def K3{m:T->En->Option En}(b:Pm K E X e t f)(a:Pc K X tg g m)(d:swapsWithSole [tg] e pos.line X.env=pure false:=by rfl)(hw:swappedStores [tg] e X.env=pure none:=by rfl)
  (c:(assignEach [tg] X.env).map (·.2)=[assign tg X.env]:=by rfl):sU K E X (.Assign [tg] e pos) (l3 t g) (IJ f m):=⟨GO b.pe a.pg d hw c,OM b.me a.mg⟩
def Pi{m:T->En->Option En}(h:f (lY ρ)=.ok t)(a:m t ρ=some ρ'):IJ f m ρ=.nx ρ':=by unfold IJ iD;rw[h];simp[a]
end
section
variable {P:Program}{w:World}{K:W.Frag}{mg:Str->Option Value}{base:Heap}{C:Addr}{m qual:Str}{st:Stmt}{N ps:List Str}{k:Nat}{g:En->O}
def Qq(i:yr K C)(D:kP K C m qual st)(S:jC N ps (gw st))
  (j:∀(kV c o:Vq) (e:Option Addr) (b n:Vq) (us:List Vq),us.length=ps.length->bindArgs (W.fnOf m qual (jJ st) (iy st) (gw st) .none kV c o e b n) ⟨us,[]⟩=pure (ps.zip us))
  (d:∀(f:Addr) (b:Vq) (A:Around) (a:List Env) (s:Shared) (H:Hp) (E:XK),i6 k (A.deeper (envOfC qual (gw st) s.heap.objs.size f b))->∃t,pS K E (pW xh P w K mg base N qual (gw st) f b A a s H E).nox (iy st) t g) :
  lU P w K mg base C m (k+1) (uH K (kJ ps.length N.length g)):=
 Ee i D S j (λl H Q E h=>Cv h) λf b A a s H l Q E hr h=>let ⟨t,hp⟩:=d f b A a s H E hr;⟨t,hp.ps,zq hp.ms h⟩
def Qk(i:yr K C)(D:kP K C m qual st)(S:jC N ps (gw st))
  (j:∀(kV c o:Vq) (e:Option Addr) (b n:Vq) (us:List Vq),us.length=ps.length->bindArgs (W.fnOf m qual (jJ st) (iy st) (gw st) .none kV c o e b n) ⟨us,[]⟩=pure (ps.zip us))
  (d:∀(f:Addr) (b:Vq) (A:Around) (a:List Env) (s:Shared) (H:Hp) (E:XK),i6 k (A.deeper (envOfC qual (gw st) s.heap.objs.size f b))->∃t,pS K E (pW xh P w K mg base N qual (gw st) f b A a s H E).nox (iy st) t g) :
  lU P w K mg base C m (k+1) (Cf K (zX ps.length N.length g)):=
 Ee i D S j (λl H Q E h=>DS h) λf b A a s H l Q E hr h=>let ⟨t,hp⟩:=d f b A a s H E hr;⟨t,hp.ps,AB hp.ms h⟩
end
end L3
namespace L3
open PySem L2 PySem.Spec PyProof.Rows
section
variable {K:W.Frag}{E:XK}{X:Cx}{a tg:Expr}{tr:TA}{fr:Pe->M (List T)}{p p2 pos pos2:Pos}{F:Hp}
def Pg(d:lC K F l xs)(r:gH K F xs ts):xB K (RX K l xs.length) ts.reverse F where
 go:=λi H s c=>by rw[dA,<-r.length]at c;exact⟨c,xs,_,s.seq d,rfl,ag (by omega)⟩
 stop:=λH s=>⟨by rw[dA,r.length],xs,s.seq d⟩
 yld:=λi t h H x n g f e y=>by
  obtain⟨rfl,j⟩:=y;have m:=j xs ((g.trans f).seq d);obtain⟨o,b,k⟩:=r.at_ m;have c:i<ts.length:=by simpa using (aa.mp e).1
  rw[List.getElem?_reverse c,<-r.length]at e;rw[e]at b;cases b;exact⟨h,.refl f,k.mono g⟩
@[simp] noncomputable def Gj(d:Pe->M (List T)):Pe->M (List T):=λb=>(d b).bind λc=>match c with
 |[.lst ts]=>.ok ts.reverse
 |_=>.bad
def NK(i:MA K E tr fr):MI K E (NU K tr) (Gj fr):=λF H o m R s V q=>by
 refine i.run s V q λk n d e c f b=>?_;cases f with
 |nil=>exact b.elim
 |cons h t=>
  cases t with
  |cons _ _=>cases h<;>exact b.elim
  |nil=>
   cases h with
   |lst h r=>rename_i l g j;refine⟨l,g,rfl,lC.of (c.fh _ _ h),b _ d e c (Pg (lC.of h) r)⟩
   |_=>exact b.elim
def DX(d:X.mg "reversed" = none)(b:Ad K E X [a] tr fr)(c:X.K=K:=by rfl)(e:Gl X "reversed" :=by rfl)(f:starEach [a] X.env=[(false,eval a X.env)]:=by rfl):JM K E X tg (.Call (.Name "reversed" p) [a] [] pos) (NU K tr) (Gj fr):=by subst c;exact⟨LZ e d b.pa f,NK b.ma⟩
@[simp] noncomputable def QJ(e:Pe->M (List T)):Pe->M (List T):=λc=>(e c).bind λd=>match d with
 |[x]=>(seqT x).bind λb=>.ok (nL b)
 |_=>.bad
theorem vN:∀{vs} {ts},vs.length=ts.length->(∀(i:Nat) t,ts[i]? = some t->∃v,vs[i]? = some v/\j9 K F v t)->gH K F vs ts
 |[],[],_,_=>.nil
 |v::vs,t::ts,hl,h=>by obtain⟨c,e,r⟩:=h 0 t rfl;simp at e;subst e;exact .cons r (vN (by simpa using hl) λi t b=>by simpa using h (i+1) t (by simpa using b))
def Qd(ha:MA K E tr fr):MF K E (RE K tr) (QJ fr):=λF H σ ρ Q s va q=>by
 classical
 refine ha.run s va q λxs ws B v j r1 A=>?_;have z:∀(b:Bool) (l:Addr) (J:List V) (I:List T),uP K v b l J->gH K B J I->kF K F H Q (nL I)->∃b' N w,[V.ref l]=[.ref N]/\uP K v b' N w/\∀(p:Addr) (as:List Addr) (g:Hp),gL v g->v p=none->g p=some (.lst (as.map V.ref))->as.length=w.length->
   (∀(i:Nat) (a:Addr),as[i]? = some a->v a=none/\a≠p/\∃x,w[i]? = some x/\g a=some (.tup [.int i,x]))->Q (.ref p) g:=λb l J I Y r qk=>by
  refine⟨b,l,J,rfl,Y,λp as g sm S hl D L=>?_⟩;let C:Hp:=λc=>if c∈as then g c else B c
  have m:∀c,c∈as->C c=g c:=λc d=>aP d;have f:∀c,c∉as->C c=B c:=λc d=>aQ d;have new:∀c,c∈as->v c=none:=λc d=>by obtain⟨i,k⟩:=dB.mp d;exact (L i c k).1
  have U:gL B C:=λc o e=>by rw[f c (λd=>(j.fh c o e).ne (new c d))];exact .of e
  have pn:p∉as:=λd=>by obtain⟨i,k⟩:=dB.mp d;exact (L i p k).2.1 rfl
  have gr:Gr B v C g:=⟨U,λc o e=>by
   by_cases d:c∈as
   .rw[m c d]at e;exact .of e
   .rw[f c d]at e;exact j.fh.trans sm c o e,sm,λc d=>by
   by_cases P:c∈as
   .exact .inr (.inl (new c P))
   .rw[f c P]at d;exact .inl d⟩
  refine qk p (as.map V.ref) C g (j.trans gr) (gN j.hh S) (by rw[f p pn];exact gN j.fh S) hl (vN (by simp[nL,D,r.length]) λi t y=>?_);unfold nL at y;rw[av,List.getElem?_zipIdx]at y;cases k:I[i]? with
  |none=>rw[k]at y;cases y
  |some u=>
   rw[k]at y;simp at y;have n:i<as.length:=by rw[D,r.length];exact (aa.mp k).1
   obtain⟨h1,h2,x,Z,e2⟩:=L i _ (ag n);obtain⟨x',R,rx⟩:=r.get k;rw[Z]at R;cases R;refine⟨.ref as[i],by rw[av,ag n];rfl,?_⟩;rw[<-y];exact .tup (by rw[m _ (aU n)];exact e2) (.cons (.int _) (.cons (rx.mono U) .nil))
 cases r1 with
 |nil=>exact A.elim
 |cons h t=>
  cases t with
  |cons _ _=>cases h<;>exact A.elim
  |nil=>
   cases h with
   |lst h r=>exact z false _ _ _ (lC.of (j.fh _ _ h)) r A
   |tup h r=>exact z true _ _ _ (mD.of (j.fh _ _ h)) r A
   |scr h=>exact z false _ _ _ (j.fh.seq h) (gH.of_ints _) A
   |_=>exact A.elim
def Ra(g:X.calm=true)(f:X.mg "list" = none)(c:X.mg "enumerate" = none)(d:Ad K E X [a] tr fr)(e:X.K=K:=by rfl)(h:Gl X "list" :=by rfl)(b:Gl X "enumerate" :=by rfl)(i:starEach [a] X.env=[(false,eval a X.env)]:=by rfl)
  (j:starEach [Expr.Call (.Name "enumerate" p2) [a] [] pos2] X.env=[(false,eval (.Call (.Name "enumerate" p2) [a] [] pos2) X.env)]:=by rfl) :
  El K E X (.Call (.Name "list" p) [.Call (.Name "enumerate" p2) [a] [] pos2] [] pos) (RE K tr) (QJ fr):=by
 subst e;exact⟨Ia g h f b c d.pa i j,Qd d.ma⟩
end
section
variable {K:W.Frag}{E:XK}{X:Cx}{F0:Fz}{H0 F H:Hp}{σ:L2.St}{ρ:En}{x:Str}{e:Expr}{pos pos' p pd:Pos}
noncomputable def uL(a:List (LI×T))(k:LI)(v:T):List (LI×T):=if (a.any λb=>decide (b.1=k))=true then a.map (λb=>if b.1=k then (b.1,v) else b) else a++[(k,v)]
theorem zO:∀{a b:LI},a.map (Sum.inl:Int->pI)=b.map Sum.inl->a=b
 |[],[],_=>rfl
 |[],_::_,h=>nomatch h
 |_::_,[],h=>nomatch h
 |x::a,y::b,h=>by simp only[bH,List.cons.injEq]at h;rw[Sum.inl.inj h.1,zO h.2]
def DR.put(h:DR K F xs kvs) k (r:j9 K F v t):DR K F (sZ xs (k.map Sum.inl) v) (uL kvs k t):=by
 have b:(xs.any λa=>decide (a.1=k.map Sum.inl))=kvs.any λa=>decide (a.1=k):=by
  induction h with
  |nil=>rfl
  |cons q _ ih=>
   rename_i x y _ _ _;rw[bV,bV,ih];congr 1;by_cases z:y.1=k
   .rw[aB z,aB (by rw[q.1,z])]
   .rw[aA z,aA (λw=>z (zO (by rw[<-q.1,w])))]
 unfold sZ uL;rw[b];generalize (kvs.any λa=>decide (a.1=k))=bb;split
 .clear b;unfold DR at h ⊢;induction h with
  |nil=>exact .nil
  |cons q _ ih=>
   rename_i x y _ _ _;refine .cons ?_ ih;dsimp only;by_cases z:y.1=k
   .rw[aP (by rw[q.1,z]),aP z];exact⟨q.1,r⟩
   .rw[aQ (λw=>z (zO (by rw[<-q.1,w]))),aQ z];exact q
 .clear b;unfold DR at h ⊢;induction h with
  |nil=>exact .cons ⟨rfl,r⟩ .nil
  |cons q _ ih=>exact .cons q ih
@[simp] noncomputable def Jg(i:Nat):En->O:=λρ=>.nx (ρ.set i (some (.d [])))
def Sr.setD{p:Addr}(r:Sr K F0 H0 F H σ ρ)(D:H p=none):Sr K F0 H0 F (ju H p (.dT [])) (σ.set i (some (.ref p))) (ρ.set i (some (.d []))):=by
 have U:=gN r.gr.fh D;have A:=r.grow (Gr.new' (o:=.dT []) r.gr.fh D);obtain⟨ad,h1,h2⟩:=A.ov;refine⟨A.gr,by simp[r.len],λj t e=>?_,⟨ad,λj I e=>?_,λj k I ws e B s=>?_⟩,λe S=>?_,λj R J N q=>?_,⟨λj c e=>?_,λj k c u e B s=>?_⟩⟩
 .rcases gF e with⟨rfl,q⟩|⟨g,q⟩
  .cases q
  .obtain⟨w,a,b⟩:=A.pv j t q;exact⟨w,by rw[aq (λz=>g z.symm)];exact a,b⟩
 .rcases gF e with⟨rfl,q⟩|⟨g,q⟩
  .cases q
  .obtain⟨a,b⟩:=h1 j I q;exact⟨by rw[aq (λz=>g z.symm)];exact a,b⟩
 .rcases gF e with⟨rfl,q⟩|⟨g,q⟩
  .cases q
  .rcases gF B with⟨rfl,n⟩|⟨C,n⟩
   .cases n
   .exact h2 j k I ws q n s
 .have L:=A.lv e S;refine⟨L.h,L.f,L.z,λj Z q=>?_⟩;rcases gF q with⟨rfl,v⟩|⟨g,v⟩
  .cases v
  .rw[aq (λz=>g z.symm)];exact L.d j Z v
 .rcases gF q with⟨rfl,v⟩|⟨g,v⟩
  .cases v
  .rw[aq (λz=>g z.symm)];exact r.sl j R J N v
 .have l:j<ρ.length:=by simpa using (aa.mp e).1
  rcases gF e with⟨rfl,q⟩|⟨g,q⟩
  .cases q;exact⟨p,nH (by rw[r.len];exact l),U,gN r.gr.hh D,[],gB,.nil⟩
  .obtain⟨a,P,Y⟩:=A.dv.at_ j c q;exact⟨a,by rw[aq (λz=>g z.symm)];exact P,Y⟩
 .have y:∀(m:Nat) c,ρ[m]? = some (some (.d c))->σ[m]?≠some (some (.ref p)):=λm c q w=>by
   obtain⟨a,P,_,_,xs,Q,_⟩:=r.dv.at_ m c q;rw[P]at w;have:a=p:=by simpa using w
   rw[this,D]at Q;cases Q
  have l:∀{m:Nat} {z},(ρ.set i (some (W.d [])))[m]? = some z->m<σ.length:=λ{m z} q=>by rw[r.len];simpa using (aa.mp q).1
  rcases gF e with⟨rfl,q⟩|⟨g,q⟩
  .rcases gF B with⟨rfl,n⟩|⟨C,n⟩
   .exact absurd rfl s
   .rw[nH (l e),aq (λz=>C z.symm)];exact λw=>y k u n w.symm
  .rcases gF B with⟨rfl,n⟩|⟨C,n⟩
   .rw[nH (l B),aq (λz=>g z.symm)];exact y j c q
   .rw[aq (λz=>g z.symm),aq (λz=>C z.symm)];exact r.dv.dj j k c u q n s
def KM:MS K E (l3 BE (jg i)) (Jg i):=λF0 H0 F H σ ρ D r q p a=>q F _ _ (.refl _) (r.setD a)
def HM i (b:X.N.Nodup) (d:EB X.env.scope x:=by first|exact Or.inl rfl|exact Or.inr rfl) (a:X.N[i]? = some x:=by rfl) (c:swapsWith (.Dict [] [] pd) (some (.Name x pos')) pos.line X.env=pure false:=by rfl) (f:X.fn x=true\/X.env.scope.names.lookup x=some .local:=by first|exact .inl rfl|exact .inr rfl|assumption) :
  sU K E X (.Assign [.Name x pos'] (.Dict [] [] pd) pos) (l3 BE (jg i)) (Jg i):=⟨wX b a d HB c f,KM⟩
@[simp] noncomputable def tG(ρ:En)(i:Nat):M (List (LI×T)):=match ρ[i]? with
 |some (some (.d kvs))=>.ok kvs
 |_=>.bad
def FL(h:tG ρ i=.ok kvs):ρ[i]? = some (some (.d kvs)):=by
 unfold tG at h;split at h
 .rename_i a e;cases h;exact e
 .cases h
noncomputable def QO(ρ:En)(i:Nat)(a:List (LI×T))(t:T):T->O
 |.tup ks=>match kq ks with
  |some ns=>if a.length<sizeLine then .nx (ρ.set i (some (.d (uL a ns t)))) else .bad
  |none=>.bad
 |_=>.bad
@[simp] noncomputable def wV(i:Nat)(b f:En->M T):En->O:=λρ=>.of (tG ρ i) λa=>.of (f ρ) λt=>.of (b ρ) λk=>QO ρ i a t k
def Sr.changeD(r:Sr K F0 H0 F H σ ρ)(e:ρ[i]? = some (some (.d kvs)))(N:σ[i]? = some (some (.ref a)))(Q:F a=none)(P:H0 a=none)(S:H a=some (.dT xs))(hy:DR K F ys kvs'):Sr K F0 H0 F (ju H a (.dT ys)) σ (ρ.set i (some (.d kvs'))):=by
 obtain⟨ad,h1,h2⟩:=r.ov;refine⟨⟨r.gr.ff,λp u q=>?_,λp u q=>?_,r.gr.nw⟩,by simp[r.len],λj t q=>?_,⟨ad,λj v q=>?_,λj k v C q y g=>?_⟩,λR Z=>?_,λj U m B q=>?_,⟨λj s q=>?_,λj k s o q y g=>?_⟩⟩
 .rw[gA (hC q Q)];exact r.gr.fh p u q
 .rw[gA (hC q P)];exact r.gr.hh p u q
 .rcases gF q with⟨rfl,c⟩|⟨n,c⟩
  .cases c
  .exact r.pv j t c
 .rcases gF q with⟨rfl,c⟩|⟨n,c⟩
  .cases c
  .obtain⟨a',b',Y,m,A,z'⟩:=h1 j v c;exact⟨a',b',Y,m,by rw[gA (λz=>by rw[z,S]at A;cases A)];exact A,z'⟩
 .rcases gF q with⟨rfl,c⟩|⟨n,c⟩
  .cases c
  .rcases gF y with⟨rfl,l⟩|⟨J,l⟩
   .cases l
   .exact h2 j k v C c l g
 .have L:=r.lv R Z;have D:R.2.1≠a:=λw=>by have:=L.h;rw[w,S]at this;cases this
  refine⟨by rw[gA D];exact L.h,L.f,L.z,λj v q=>?_⟩;rcases gF q with⟨rfl,c⟩|⟨n,c⟩
  .cases c
  .exact L.d j v c
 .rcases gF q with⟨rfl,c⟩|⟨n,c⟩
  .cases c
  .exact r.sl j U m B c
 .rcases gF q with⟨rfl,c⟩|⟨n,c⟩
  .cases c;exact⟨a,N,Q,P,ys,gB,hy⟩
  .obtain⟨b,I,e2,e3,zs,e4,e5⟩:=r.dv.at_ j s c;have:b≠a:=λz=>r.dv.dj j i s kvs c e n (by rw[I,N,z]);exact⟨b,I,e2,e3,zs,by rw[gA this];exact e4,e5⟩
 .rcases gF q with⟨rfl,c⟩|⟨n,c⟩
  .rcases gF y with⟨rfl,l⟩|⟨J,l⟩
   .exact absurd rfl g
   .exact r.dv.dj j k kvs o e l g
  .rcases gF y with⟨rfl,l⟩|⟨J,l⟩
   .exact r.dv.dj j k s kvs c e g
   .exact r.dv.dj j k s o c l g
def LB(h:ME K E t f)(P:ME K E tk fk):MS K E (IG (lQ i) tk t) (wV i (mJ fk) (mJ f)):=λF0 H0 F H σ ρ D r q=>by
 unfold wV at q;cases e:tG ρ i with
 |bad=>rw[e]at q;exact q.elim
 |er C n=>unfold tG at e;split at e<;>cases e
 |ok kvs=>
  rw[e]at q;have o:=FL e;obtain⟨a,l,_⟩:=r.dv.at_ i kvs o;refine h.inB r q λx v F' H' g U r' S=>⟨_,l,?_⟩;refine P.inB r' S λy w A Q J k u I=>?_;obtain⟨a2,j,Y,Z,xs,z,dr⟩:=u.dv.at_ i kvs o;rw[l]at j;have:a=a2:=by simpa using j
  subst this;cases k with
  |tup h rs=>
   rename_i b vs B;have c:(match kq B with
    |some ns=>if kvs.length<sizeLine then O.nx (ρ.set i (some (.d (uL kvs ns x)))) else .bad
    |none=>.bad).res K E F0 H0 A D:=I
   cases m:kq B with
   |none=>rw[m]at c;exact c.elim
   |some ns=>
    rw[m]at c;dsimp only at c;by_cases s:kvs.length<sizeLine
    .rw[aP s]at c;have R:=rq m;rw[R]at rs;have N:=rs.ints;have L:Q b=some (.tup ((ns.map Sum.inl).map L2.kV)):=by rw[aH,J.fh _ _ h,N];rfl
     refine⟨a,_,rfl,HZ.t z L (by rw[Paired.length dr];exact s),?_⟩;exact c A _ _ (.refl _) (u.changeD o l Y Z z (dr.put ns (U.mono J.ff)))
    .rw[aQ s]at c;exact c.elim
  |_=>exact I.elim
def A3 i (hr:i6 k X.A) (c:PE X (.Name x p) (lQ i)) (a:Pm K E X i_ tk fk) (b:Pm K E X v t f) (d:swapsWith v (some (.Subscript (.Name x p) i_ pos')) pos.line X.env=pure false:=by rfl) :
  sU K E X (.Assign [.Subscript (.Name x p) i_ pos'] v pos) (IG (lQ i) tk t) (wV i (mJ fk) (mJ f)):=⟨Ka (Rb hr) c a.pe b.pe d,LB b.me a.me⟩
@[simp] noncomputable def sJ(i:Nat):En->O:=λρ=>match ρ[i]? with
 |some (some (.d kvs))=>.rf (kvs.map λa=>tI a.1)
 |_=>.bad
def Ml:List V->Hp->VK->Prop:=λd H Q=>∃a c,d=[.ref a]/\H a=some (.dT c)/\∀(l:Addr) (bs:List Addr),H l=none->bs.length=c.length->
  (∀(i:Nat) (b:Addr),bs[i]? = some b->∃k v,c[i]? = some (k,v)/\H b=some (.tup (k.map L2.kV)))->Q (.ref l) (ju H l (.lst (bs.map V.ref)))
def B7:MS K E (wA (Hy Ml (nK (lQ i) qQ))) (sJ i):=λF0 H0 F H σ ρ D r q=>by
 classical
 unfold sJ at q;split at q
 .rename_i m e;obtain⟨a,Z,fa,za,Q,S,dr⟩:=r.dv.at_ i m e;refine⟨_,Z,a,Q,rfl,S,λl bs A s N=>?_⟩;let u:Hp:=λc=>if c∈bs then H c else F c
  have f:∀c,c∈bs->u c=H c:=λc b=>aP b;have d:∀c,c∉bs->u c=F c:=λc b=>aQ b;have tp:∀c,c∈bs->∃B,H c=some (.tup B):=λc b=>by obtain⟨j,hj⟩:=dB.mp b;obtain⟨k,v,_,h⟩:=N j c hj;exact⟨_,h⟩
  have sF:gL F u:=λc o h=>by
   by_cases b:c∈bs
   .rw[f c b];exact r.gr.fh c o h
   .rw[d c b];exact .of h
  have Y:l∉bs:=λb=>by obtain⟨B,h⟩:=tp l b;rw[A]at h;cases h
  have C:gL H (ju H l (.lst (bs.map V.ref))):=mY A;refine q l (bs.map V.ref) u _ ⟨r.gr.ff.trans sF,λc o h=>?_,r.gr.hh.trans C,λc b=>?_⟩ (gN r.gr.hh A) (by rw[d l Y];exact gN r.gr.fh A) gB (vN (by simp[s,Paired.length dr]) λj t n=>?_)
  .by_cases b:c∈bs
   .rw[f c b]at h;exact C c o h
   .rw[d c b]at h;exact r.gr.fh.trans C c o h
  .by_cases J:c∈bs
   .obtain⟨B,h⟩:=tp c J;cases z:H0 c with
    |none=>exact .inr (.inl rfl)
    |some o=>exact .inr (.inr ⟨B,by have k:=r.gr.hh c o z;rw[h]at k;rw[rR k λ_ _ y=>nomatch y]⟩)
   .rw[d c J]at b;exact r.gr.nw c b
  .rw[av]at n;cases w:m[j]? with
   |none=>rw[w]at n;cases n
   |some kv=>
    rw[w]at n;have I:tI kv.1=t:=by simpa using n
    have g:j<bs.length:=by rw[s,Paired.length dr];exact (aa.mp w).1
    obtain⟨k,v,R,P⟩:=N j _ (ag g);obtain⟨U,L,e4,_⟩:=tO dr R;rw[w]at L;cases L;refine⟨.ref bs[j],by rw[av,ag g];rfl,?_⟩;rw[<-I];have e5:k=kv.1.map Sum.inl:=e4;rw[e5,aH]at P;exact .tup (by rw[f _ (aU g)];exact P) (gH.of_ints _)
 .exact q.elim
def IV i (d:X.calm=true) (b:X.mg "list" = none) (c:PE X (.Name x p) (lQ i)) (f:Gl X "list" :=by rfl) (a:starEach [Expr.Name x p] X.env=[(false,eval (.Name x p) X.env)]:=by rfl) :
  sU K E X (.Return (some (.Call (.Name "list" p1) [.Name x p] [] pos1)) pos) (wA (Hy Ml (nK (lQ i) qQ))) (sJ i):=
 ⟨vZ (ue (Dh d) f b lI (nO c rD a) (by decide) (by decide) a rfl),B7⟩
end
section
variable {K:W.Frag}{E:XK}{X:Cx}{t:TE}
@[simp] noncomputable def yd(i:Nat)(f:En->M (List T)):En->O:=λa=>.of (mC a i) λb=>.of (f a) λc=>if b.length<sizeLine then .nx (a.set i (some (.o (b++[.lst c])))) else .bad
def IR(s:∀l xs H,H l=some (.lst xs)->OG K "list" (.ref l) H)(h:MF K E t f):MS K E (oz (FR K i t)) (yd i (tT f)):=λL I F H P m D r q=>by
 unfold yd at q;cases e:mC m i with
 |bad=>rw[e]at q;exact q.elim
 |er C n=>unfold mC at e;split at e<;>cases e
 |ok ts=>rw[e]at q;have k:=sO e;obtain⟨A,v,_⟩:=r.ov;obtain⟨a,_,_,J,d,_⟩:=v i ts k;refine⟨_,a,s _ _ _ d,?_⟩;refine h.inB r q λy l B z N g w b o hr u=>?_;have p:=g.take o b w;obtain⟨x,j,c⟩:=xb (r.grow p) k (.lst gB (hr.mono (jf b))) (u.go (jf b));rw[a]at j;cases j;exact c
variable {e:Expr}{te:TE}{ff:Pe->M (List T)}{p apos pos pos':Pos}
def Fi i (k:PE X (.Name x p) (lQ i)) (g:El K E X e te ff) (f:starEach [e] X.env=(false,eval e X.env)::starEach [] X.env:=by rfl) (j:X.K=K:=by rfl)
  (a:attributeBase (.Name x p) "append" X.env (eval (.Name x p) X.env)=eval (.Name x p) X.env:=by rfl)
  (c:((backTo pos (starEach [e] X.env)).all (λx=>!x.1)&&(backToKw pos (keywordEach [] X.env)).all (λx=>x.1.isSome)&&decide (([e]:List Expr).length+([]:List Keyword).length+(if ([]:List Keyword).isEmpty then 0 else 1)<30))=true:=by rfl)
  (b:(apos.endLine==pos.line)=true:=by rfl) (hplain:(backTo pos (starEach [] X.env)).any (·.1)=false:=by rfl) (d:swapsWith (.Call (.Attribute (.Name x p) "append" apos) [e] [] pos) none pos'.line X.env=pure false:=by rfl) :
  sU K E X (.Expr (.Call (.Attribute (.Name x p) "append" apos) [e] [] pos) pos') (oz (FR K i te)) (yd i (tT ff)):=by
 subst j;exact⟨r0 (Dt PySem.F.plainAttrs_list PySem.F.slot_list_append PySem.F.type_list_append qH k (nO g.pe rD f) a c b f hplain) d,IR (λl m H h=>zI h) g.mf⟩
end
end L3
namespace L3
open PySem L2 PySem.Spec PyProof.Rows
def N1:Nat->(List Value->Prop)->Prop
 |0,P=>P []
 |k+1,P=>∀v,N1 k λus=>P (v::us)
theorem qK:∀{k} {P},N1 k P->∀us:List Vq,us.length=k->P us
 |0,_,h,[],_=>h
 |k+1,_,h,v::us,e=>qK (h v) us (by simpa using e)
def Rk(X:Cx):Prop:=∀x,X.env.scope.names.lookup x=some .cell->∃c,X.env.cells.lookup x=some c
structure Zx(P:Program)(w:World)(K:W.Frag)(mg:Str->Option Value)(base:Heap):Prop where
 here:True
section
variable {P:Program}{w:World}{K:W.Frag}{mg:Str->Option Value}{base:Heap}
noncomputable abbrev CP(_:Zx P w K mg base)(x:Str)(k:Nat)(F:List T->M T):Prop:=lG P w K mg base x k (uH K F)
noncomputable abbrev CF(_:Zx P w K mg base)(x:Str)(k:Nat)(F:List T->M (List T)):Prop:=lG P w K mg base x k (Cf K F)
end
section
variable {P:Program}{w:World}{K:W.Frag}{mg:Str->Option Value}{base:Heap}{x m qual:Str}{C:Addr}{st:Stmt}{g:En->O}
noncomputable abbrev Q5(P:Program)(w:World)(K:W.Frag)(mg:Str->Option Value)(base:Heap)(k:Nat)(qual:Str)(st:Stmt)(N:List Str)(g:En->O):Prop:=∀{f:Addr} {cdv:Vq} {A:Around} {outer:List Env} {s:Shared} {H:Hp} {E:XK},N.Nodup->Rk (pW xh P w K mg base N qual (gw st) f cdv A outer s H E).nox->i6 k (A.deeper (envOfC qual (gw st) s.heap.objs.size f cdv))->∃t,pS K E (pW xh P w K mg base N qual (gw st) f cdv A outer s H E).nox (iy st) t g
abbrev QU(x qual:Str)(st:Stmt)(ps:List Str):Prop:=∀(kV doc pm:Vq) (an:Option Addr) (cdv ct:Vq),N1 ps.length λus=>bindArgs (W.fnOf x qual (jJ st) (iy st) (gw st) .none kV doc pm an cdv ct) ⟨us,[]⟩=pure (ps.zip us)
def jk(_:Zx P w K mg base) k F N ps (e:F=kJ ps.length N.length g) (D:gq K mg x st) (j:Q5 P w K mg base k x st N g) (S:jC N ps (gw st):=by constructor<;>first|rfl|decide +kernel)
  (n:QU x x st ps:=by first|exact λ_ _ _ _ _ _ _ _=>rfl|exact λ_ _ _ _ _ _ _=>rfl|exact λ_ _ _ _ _ _ _ _ _=>rfl|exact λ_ _ _ _ _ _ _ _ _ _=>rfl|exact λ_ _ _ _ _ _ _ _ _ _ _=>rfl|exact λ_ _ _ _ _ _=>rfl) :
  lG P w K mg base x (k+1) (uH K F):=e▸Sd D S (λa b c d e f i l=>qK (n a b c d e f) i l) λ_ _ _ _ _ _ _ r=>j S.nd (λ_ h=>nr h) r
def vW(_:Zx P w K mg base) k F N ps (e:F=zX ps.length N.length g) (D:gq K mg x st) (j:Q5 P w K mg base k x st N g) (S:jC N ps (gw st):=by constructor<;>first|rfl|decide +kernel)
  (n:QU x x st ps:=by first|exact λ_ _ _ _ _ _ _ _=>rfl|exact λ_ _ _ _ _ _ _=>rfl|exact λ_ _ _ _ _ _ _ _ _=>rfl|exact λ_ _ _ _ _ _ _ _ _ _=>rfl|exact λ_ _ _ _ _ _ _ _ _ _ _=>rfl|exact λ_ _ _ _ _ _=>rfl) :
  lG P w K mg base x (k+1) (Cf K F):=e▸RI D S (λa b c d e f i l=>qK (n a b c d e f) i l) λ_ _ _ _ _ _ _ r=>j S.nd (λ_ h=>nr h) r
def Mx(_:Zx P w K mg base) k F N ps (e:F=kJ ps.length N.length g) (n:yr K C) (D:kP K C m qual st) (j:Q5 P w K mg base k qual st N g) (S:jC N ps (gw st):=by constructor<;>first|rfl|decide +kernel)
  (o:QU m qual st ps:=by first|exact λ_ _ _ _ _ _ _=>rfl|exact λ_ _ _ _ _ _ _ _=>rfl|exact λ_ _ _ _ _ _ _ _ _=>rfl) :
  lU P w K mg base C m (k+1) (uH K F):=e▸Qq n D S (λa b c d e f i l=>qK (o a b c d e f) i l) λ_ _ _ _ _ _ _ r=>j S.nd (λ_ h=>nr h) r
def NJ(_:Zx P w K mg base) k F N ps (e:F=zX ps.length N.length g) (n:yr K C) (D:kP K C m qual st) (j:Q5 P w K mg base k qual st N g) (S:jC N ps (gw st):=by constructor<;>first|rfl|decide +kernel)
  (o:QU m qual st ps:=by first|exact λ_ _ _ _ _ _ _=>rfl|exact λ_ _ _ _ _ _ _ _=>rfl|exact λ_ _ _ _ _ _ _ _ _=>rfl) :
  lU P w K mg base C m (k+1) (Cf K F):=e▸Qk n D S (λa b c d e f i l=>qK (o a b c d e f) i l) λ_ _ _ _ _ _ _ r=>j S.nd (λ_ h=>nr h) r
def Qc(_:Zx P w K mg base) k F N ps (e:F=kJ ps.length N.length g) (D:JL K x x st f fd) (a:Q5 P w K mg base k x st N g) (S:jC N ps (gw st):=by constructor<;>first|rfl|decide +kernel) :
  nh P w K mg base xh (k+1) f fd ps (uH K F):=e▸R3 D S λ_ _ _ _ _ _ _ r=>a S.nd (λ_ h=>nr h) r
def R7(_:Zx P w K mg base) k F N (e:F=xX C n f1 f2 g1 g2) (q:yr K C) (v:lJ K C f1) (y:lJ K C f2) (z:W.makesIn K C=true) (l:W.keepIn K (.ref C)=true) (j:mg x=some (.ref C)) (D:kP K C "__init__" qual st)
  (p:∀{f:Addr} {i:Vq} {A:Around} {h:List Env} {s:Shared} {H:Hp} {E:XK},i6 k (A.deeper (envOfC qual (gw st) s.heap.objs.size f i))->R6 K E (pW xh P w K mg base N qual (gw st) f i A h s H E).nox (iy st) f1 f2 g1 g2)
  (S:jC N N (gw st):=by constructor<;>first|rfl|decide +kernel) (u:QU "__init__" qual st N:=by exact λ_ _ _ _ _ _ _ _ _=>rfl) (ne:f1≠f2:=by decide) (I:N.length=n+1:=by rfl) :
  FM P w K mg base x C (k+1) (Ck K C F):=e▸OK q v y ne D S z l j I (λa b c d e f o B=>qK (u a b c d e f) o B) λ_ _ _ _ _ _ _ r=>p r
end
section
variable {K:W.Frag}{E:XK}{X:Cx}{tg elt iter:Expr}{ifs:List Expr}{scope:Scope}{wi:TI}{g:TG}{tt:TT}{te:TE}{fe:Pe->M T}{fi:Pe->M (List T)}{m:T->Pe->Option Pe}{ft:Pe->M Bool}{pos:Pos}{x:Str}
noncomputable abbrev Sj(K:W.Frag)(X:Cx)(scope:Scope)(N:List Str)(tg elt:Expr)(ifs:List Expr)(g:TG)(tt:TT)(te:TE)(m:T->Pe->Option Pe)(ft:Pe->M Bool)(fe:Pe->M T):Prop:=∀{C s₃ H ex pn},N.Nodup->Rk (mQ X N scope C s₃ H ex pn)->Pk K (mQ X N scope C s₃ H ex pn) tg g m/\HG K JP (mQ X N scope C s₃ H ex pn) ifs tt ft/\Pm K JP (mQ X N scope C s₃ H ex pn) elt te fe
def jq N ix (f:Rk X) (c:JM K E X tg iter wi fi) (a:Sj K X scope N tg elt ifs g tt te m ft fe) (d:yW X.N X.env.scope scope N ix=true:=by rfl) (b:oQ ix g:=by first|exact wZ rfl|exact vI rfl rfl) (nd:N.Nodup:=by decide) (e:X.calm=true:=by rfl)
  (h:∀x,foldedSetIterable iter X.env x=pure x:=by intro _;rfl):El K E X (.ListComp elt [⟨tg,iter,ifs,0⟩] scope pos) (Je ix wi g tt te) (ka ix fi m ft fe):=
 let L:=Qr f d
 QX e c L b (λ_ _ _ _ _=>a nd (Hs L)) h
def tm N ix i (j:X.N.Nodup) (k:Rk X) (e:JM K E X tg iter wi fi) (a:Sj K X scope N tg elt ifs g tt te m ft fe)
  (d:MF K E (Je ix wi g tt te) (ka ix fi m ft fe)->MS K E (l3 (Je ix wi g tt te) (jg i)) gm) (f:yW X.N X.env.scope scope N ix=true:=by rfl) (b:oQ ix g:=by first|exact wZ rfl|exact vI rfl rfl) (nd:N.Nodup:=by decide) (n:EB X.env.scope x:=by first|exact Or.inl rfl|exact Or.inr rfl) (h:X.calm=true:=by rfl)
  (p:X.N[i]? = some x:=by rfl) (o:X.fn x=true\/X.env.scope.names.lookup x=some .local:=by first|exact .inl rfl|exact .inr rfl)
  (c:swapsWith (.ListComp elt [⟨tg,iter,ifs,0⟩] scope pos) (some (.Name x py)) spos.line X.env=pure true:=by rfl)
  (l:∀x,foldedSetIterable iter X.env x=pure x:=by intro _;rfl):sU K E X (.Assign [.Name x py] (.ListComp elt [⟨tg,iter,ifs,0⟩] scope pos) spos) (l3 (Je ix wi g tt te) (jg i)) gm:=
 let L:=Qr k f
 NH i j n h e L b (λ_ _ _ _ _=>a nd (Hs L)) d p o c l
end
end L3
namespace L3
open PySem L2 PySem.Spec PyProof.Rows
section
variable {K:W.Frag}{E:XK}{X:Cx}{e:Expr}{es:List Expr}{tr:TA}{pos pos' p p2 p3 p4 p5 pc apos:Pos}{x y:Str}
def Lc(j:PE X (.Name x p) (lQ i))(g:Aa (.Constant (.int 1) jj p2):=by intro _ _;rfl)
  (a:starEach [Expr.Constant (.int 0) j0 p5] X.env=(false,eval (.Constant (.int 0) j0 p5) X.env)::starEach [] X.env:=by rfl)
  (b:attributeBase (.Subscript (.Name x p) (.Constant (.int 1) jj p2) p4) "append" X.env (eval (.Subscript (.Name x p) (.Constant (.int 1) jj p2) p4) X.env)=eval (.Subscript (.Name x p) (.Constant (.int 1) jj p2) p4) X.env:=by rfl)
  (h:((backTo pos (starEach [Expr.Constant (.int 0) j0 p5] X.env)).all (λx=>!x.1)&&(backToKw pos (keywordEach [] X.env)).all (λx=>x.1.isSome)&&decide (([Expr.Constant (.int 0) j0 p5]:List Expr).length+([]:List Keyword).length+(if ([]:List Keyword).isEmpty then 0 else 1)<30))=true:=by rfl)
  (d:(apos.endLine==pos.line)=true:=by rfl) (c:(backTo pos (starEach [] X.env)).any (·.1)=false:=by rfl)
  (f:swapsWith (.Call (.Attribute (.Subscript (.Name x p) (.Constant (.int 1) jj p2) p4) "append" apos) [.Constant (.int 0) j0 p5] [] pos) none pos'.line X.env=pure false:=by rfl) :
  PS X (.Expr (.Call (.Attribute (.Subscript (.Name x p) (.Constant (.int 1) jj p2) p4) "append" apos) [.Constant (.int 0) j0 p5] [] pos) pos') (oz (Py X.K "list" oV (uh (Ni X.K) (lQ i) (tC (.int 1))) (nK (tC (.int 0)) qQ))):=
 r0 (Dt PySem.F.plainAttrs_list PySem.F.slot_list_append PySem.F.type_list_append qH (Mh HK j B0 g) (nO B0 rD a) b h d a c) f
def DY i (b:X.N.Nodup) (h:PE X e te) (d:EB X.env.scope x:=by first|exact Or.inl rfl|exact Or.inr rfl) (a:X.N[i]? = some x:=by rfl) (c:swapsWith e (some (.Name x pos')) pos.line X.env=pure false:=by rfl) (f:X.fn x=true\/X.env.scope.names.lookup x=some .local:=by first|exact .inl rfl|exact .inr rfl|assumption) :
  PS X (.Assign [.Name x pos'] e pos) (l3 te (jg i)):=wX b a d h c f
end
end L3
namespace L3
open PySem L2 PySem.Spec PyProof.Rows
section
variable {K:W.Frag}{E:XK}{X:Cx}{F H F1 H1 F2 H2:Hp}
noncomputable def om:List T->M T
 |[.tup ts]=>if nV ts&&(pD (.tup ts)).showable&&decide (Ay (.tup ts)<=100)&&decide ((pD (.tup ts)).shown.length<=sizeLine) then .ok (.str (pD (.tup ts)).shown) else .bad
 |_=>.bad
def Jf xs:M.NoE (om xs):=λC n=>by unfold om;split<;>first|(intro z;cases z;done)|(split<;>intro z<;>cases z)
def Ed:MC K (λxs H Q=>∃a d,xs=[.ref a]/\DV K H (.ref a) d/\d.showable=true/\d.hasDict=false/\d.depth<=100/\d.shown.length<=sizeLine/\Q (.str d.shown) H) om:=⟨Jf,λF H f xs Q s r q=>by
 unfold om at q;split at q
 .rename_i e;split at q
  .rename_i h;simp only[bS,decide_eq_true_eq]at h;have c:qJ (.tup e)=true:=by rw[qJ];exact h.1.1.1
   cases r with
   |cons a b=>cases b;have d:=DV.same s (EE a c);obtain⟨p,g,rfl,_⟩:=a.tup_inv;exact⟨p,_,rfl,d,h.1.1.2,PyData.hasDict_of_canLay _ (vg _ c),h.1.2,h.2,kV.now q s (.str _)⟩
  .exact q.elim
 .exact q.elim⟩
def Ew:bootBuiltins "repr" = some (.builtin "repr"):=by rfl
def rM(F:Hp):Hp:=λa=>match F a with
 |some (.lst _)=>none
 |o=>o
def sj(h:rM F a=some u):F a=some u/\∀xs,u≠.lst xs:=by
 unfold rM at h;split at h
 .cases h
 .rename_i b;exact⟨h,λxs z=>b xs (by rw[h,z])⟩
def yP(h:F a=some u)(b:∀xs,u≠.lst xs):rM F a=some u:=by
 unfold rM;split
 .rename_i e;rw[h]at e;cases e;exact absurd rfl (b _)
 .exact h
mutual
theorem j9.noL:∀{v} {t},j9 K F v t->lf t=true->j9 K (rM F) v t
 |_,_,.non,_=>.non
 |_,_,.bl b,_=>.bl b
 |_,_,.int i,_=>.int i
 |_,_,.str x,_=>.str x
 |_,_,.tup h r,e=>.tup (yP h λ_ z=>nomatch z) (gH.noL r (by rw[lf]at e;exact e))
 |_,_,.lst _ _,e=>by rw[lf]at e;cases e
 |_,_,.scr _,e=>by rw[lf]at e;cases e
 |_,_,.dic _ _,e=>by rw[lf]at e;cases e
 |_,_,.obj h r,e=>.obj (yP h λ_ z=>nomatch z) (mG.noL r (by rw[lf]at e;exact e))
 |_,_,.emp h,_=>.emp (yP h λ_ z=>nomatch z)
theorem gH.noL:∀{vs} {ts},gH K F vs ts->zj ts=true->gH K (rM F) vs ts
 |_,_,.nil,_=>.nil
 |_,_,.cons h r,e=>by rw[zj,bS]at e;exact .cons (j9.noL h e.1) (gH.noL r e.2)
theorem mG.noL:∀{vs} {ts},mG K F vs ts->N4 ts=true->mG K (rM F) vs ts
 |_,_,.nil,_=>.nil
 |_,_,.cons h r,e=>by rw[N4,bS]at e;exact .cons (j9.noL h e.1) (mG.noL r e.2)
end
def M7(b c:Hp):Hp:=λa=>match b a with
 |none=>c a
 |o=>o
def LG(s:gL F1 H1):gL (rM F1) H1:=λa u e=>s a u (sj e).1
def OY(s:gL F1 H1)(g:Gr (rM F1) H1 F2 H2):Gr F1 H1 (M7 F2 F1) H2/\gL F2 (M7 F2 F1):=by
 have c:∀a u,F1 a=some u->F2 a≠none->rM F1 a=some u:=λa u e ne=>by
  rcases g.nw a ne with q|q|⟨f,q⟩
  .cases z:rM F1 a with
   |none=>exact absurd z q
   |some u'=>rw[<-e];exact (sj z).1.symm
  .exact absurd q (s a u e).ne
  .have k:=s a u e;rw[q]at k;have:=rR k λ_ _ y=>nomatch y;subst this;exact yP e λ_ z=>nomatch z
 refine⟨⟨λa u e=>?_,λa u e=>?_,g.hh,λa b=>?_⟩,λa u e=>?_⟩
 .unfold M7;split
  .exact .of e
  .rename_i o d;exact g.ff a u (c a u e d)
 .unfold M7 at e;split at e
  .rename_i d;exact (s.trans g.hh) a u e
  .exact g.fh a u e
 .unfold M7 at b;split at b
  .exact .inl b
  .rename_i d;rcases g.nw a b with q|q|q
   .cases z:rM F1 a with
    |none=>exact absurd z q
    |some u'=>exact .inl (by rw[(sj z).1];exact λy=>nomatch y)
   .exact .inr (.inl q)
   .exact .inr (.inr q)
 .unfold M7;rw[e];exact .of rfl
def Qi(g:Gr (rM F1) H1 F2 H2)(h:F2 l=some (.lst ws)):H1 l=none:=by
 rcases g.nw l (by rw[h];exact λz=>nomatch z) with q|q|⟨b,q⟩
 .cases z:rM F1 l with
  |none=>exact absurd z q
  |some u=>have k:=g.ff l u z;rw[h]at k;exact absurd (rR k λ_ _ y=>nomatch y) ((sj z).2 _)
 .exact q
 .have k:H2 l=some (.tup b):=g.hh l _ q;have a:H2 l=some (.lst ws):=g.fh l _ h;rw[k]at a;cases a
def P5:T->Bool
 |.tup [_,.lst us]=>decide (us.length<sizeLine)
 |_=>false
def K8(h:P5 t=true):∃a us,t=.tup [a,.lst us]/\us.length<sizeLine:=by
 unfold P5 at h;split at h
 .exact⟨_,_,rfl,of_decide_eq_true h⟩
 .cases h
noncomputable def yb(i j:Nat)(fr:Pe->M (List T))(R:List T->M T)(c:Pe->M Bool)(d:Pe->M T):En->O:=λa=>match fr (lY a) with
 |.ok xs=>if zj xs=true/\i≠j/\i<a.length/\j<a.length then (match R xs with
  |.ok t=>(match om [t] with
   |.ok (.str k)=>(match c (lY ((a.set i (some (.p t))).set j (some (.p (.str k))))) with
    |.ok b=>if !b||P5 t then (match d (lY ((a.set i none).set j (some (.p (.str k))))) with
     |.ok t8=>.rt t8
     |_=>.bad) else .bad
    |_=>.bad)
   |_=>.bad)
  |_=>.bad) else .bad
 |_=>.bad
def K9{a:Pe->M Bool}{c:Pe->M T}{fr:Pe->M (List T)}(n:fr (lY ρ)=.ok xs)(h:zj xs=true)(l:i≠j)(f:i<ρ.length)(q:j<ρ.length)(o:R xs=.ok t)(d:om [t]=.ok (.str k))(e:a (lY ((ρ.set i (some (.p t))).set j (some (.p (.str k)))))=.ok b)(m:(!b||P5 t)=true)(g:c (lY ((ρ.set i none).set j (some (.p (.str k)))))=.ok u):yb i j fr R a c ρ=.rt u:=by unfold yb;rw[n];dsimp only;rw[aP ⟨h,l,f,q⟩,o];dsimp only;rw[d];dsimp only;rw[e];dsimp only;rw[aP m,g]
theorem Lx{t2:TE}{c3:TT}{f3:Pe->M Bool}{Z:TE}{f8:Pe->M T}{tr:TA}{fr:Pe->M (List T)}{E0:XK}(ht:∀l xs H,H l=some (.lst xs)->OG K "list" (.ref l) H)(h:MA K E tr fr)(h2:ME K E t2 (jt om (fR (fS i) fV)))(h3:MT K E c3 f3)(h8:ME K E Z f8) :
  MS K E (xx (l3 (qS (uH K R) [] E0 tr) (jg i)) (xx (l3 t2 (jg j)) (xx (G6 c3 (oz (Py K "list" oV (uh (Ni K) (lQ i) (tC (.int 1))) (nK (tC (.int 0)) qQ))) Ai) (wA Z)))) (yb i j fr R f3 f8):=λF0 H0 F H o c D r q=>by
 unfold yb at q;cases e:fr (lY c) with
 |bad=>rw[e]at q;exact q.elim
 |er C n=>rw[e]at q;exact q.elim
 |ok xs=>
  rw[e]at q;refine h F H o (lY c) _ r.gr.fh r.vars ?_;rw[e];intro vs N H1 f r1;dsimp only at q;split at q
  case isFalse=>exact q.elim
  rename_i hc;obtain⟨hl,ij,il,jl⟩:=hc;refine⟨xs,rM N,LG f.fh,by rw[bK];exact r1.noL hl,?_⟩;cases Y:R xs with
  |bad=>rw[Y]at q;exact q.elim
  |er C n=>rw[Y]at q;exact q.elim
  |ok t=>
   rw[Y]at q;intro v F2 H2 L rep;dsimp only at q;obtain⟨P,sm⟩:=OY f.fh L;have x:=r.len;have rr:=r.grow f;have vv:lF K (M7 F2 N) (o.set i (some v)) (lY (c.set i (some (.p t)))):=((rr.grow P).setP (rep.mono sm)).vars;split at q
   .rename_i k ek;refine h2 _ H2 (o.set i (some v)) (lY (c.set i (some (.p t)))) _ P.fh vv ?_;have e2:jt om (fR (fS i) fV) (lY (c.set i (some (.p t))))=.ok (.str k):=by
     have:(lY (c.set i (some (.p t))))[i]? = some (some t):=by simp[lY,il]
     simp only[jt,fR,fS,this,fV,M.bind_ok];exact ek
    rw[e2];intro v3 F3 H3 Q r3;cases r3;have X:lF K F3 ((o.set i (some v)).set j (some (.str k))) (lY ((c.set i (some (.p t))).set j (some (.p (.str k))))):=((((rr.grow P).setP (rep.mono sm)).grow Q).setP (.str k)).vars;refine h3 F3 H3 _ _ _ Q.fh X ?_;have gt:=r.gr.trans f;have A:∀s d,f8 (lY ((c.set i none).set j (some (.p (.str k)))))=.ok d->kV K F0.hp H0 D.rt d->gL N s->gL H0 s->Z ((o.set i (some v)).set j (some (.str k))) s D.rt:=λs d I q8 s1 J=>by
     refine h8 N s _ (lY ((c.set i none).set j (some (.p (.str k))))) _ s1 (λm u em=>?_) ?_
     .simp only[lY,dC]at em;rcases gF em with⟨rfl,z⟩|⟨hk,z⟩
      .cases z;exact⟨.str k,nH (by simp[x,jl]),.str k⟩
      .rcases gF z with⟨_,z2⟩|⟨U,z2⟩
       .exact nomatch z2
       .obtain⟨w,a,b⟩:=rr.vars m u z2;exact⟨w,by rw[aq (Ne.symm hk),aq (Ne.symm U)];exact a,b⟩
     .rw[I];exact kV.go q8 ⟨gt.ff,s1,J,gt.nw⟩
    have hh3:=P.hh.trans Q.hh;cases e3:f3 (lY ((c.set i (some (.p t))).set j (some (.p (.str k))))) with
    |bad=>rw[e3]at q;exact q.elim
    |er C n=>rw[e3]at q;exact q.elim
    |ok b=>
     rw[e3]at q;dsimp only at q;split at q
     case isFalse=>exact q.elim
     rename_i hb;split at q
     case h_2=>exact q.elim
     rename_i d I;intro F4 H4 g4;have y:=hh3.trans g4.hh;have s4:=f.fh.trans y;have J:=(r.gr.hh.trans f.hh).trans y;cases b with
     |false=>exact A H4 _ I q s4 J
     |true=>
      obtain⟨t1,us,rfl,hu⟩:=K8 (by simpa using hb);obtain⟨p,ys,rfl,hp,rs⟩:=rep.tup_inv;cases rs with
      |cons rw1 r2=>
       cases r2 with
       |cons rw2 r3=>
        cases r3;obtain⟨l,ws,rfl,hw,S⟩:=rw2.lst_inv;have nl:=Qi L hw;have B:=Q.hh.trans g4.hh;have el:H4 l=some (.lst ws):=B _ _ (L.fh _ _ hw);have ep:H4 p=some (.tup _):=B _ _ (L.fh _ _ hp);have at2:((o.set i (some (V.ref p))).set j (some (V.str k)))[i]? = some (some (V.ref p)):=by rw[aq (Ne.symm ij)];exact nH (by rw[x];exact il)
        refine⟨V.ref p,at2,.inr (.inl ⟨p,_,1,.ref l,rfl,rfl,mD.of ep,rfl,ht _ _ _ el,l,ws,.int 0,rfl,rfl,el,by rw[S.length];exact hu,?_⟩)⟩;refine A _ _ I q (λa u g=>?_) (λa u g=>?_)
        .rw[gA (λz=>by rw[z,gN f.fh nl]at g;cases g)];exact s4 a u g
        .rw[gA (λz=>by rw[z]at g;exact (r.gr.hh.trans f.hh _ _ g).ne nl)];exact J a u g
   .exact q.elim
end
section
variable {K:W.Frag}{E:XK}{X:Cx}{e:Expr}{es:List Expr}{tr:TA}{p p2 p3 p8 pc:Pos}{x y:Str}
def HP(h:lG X.prog X.w X.K X.mg X.base x j (uH K R))(hr:i6 k X.A)(g:PA X (a::es) tr)(d:j<=k:=by decide)(f:Gl X x:=by rfl)
  (b:(x==("__debug__" : Str))=false:=by decide) (i:starEach (a::es) X.env=(false,eval a X.env)::starEach es X.env:=by rfl) (c:(backTo pc (starEach es X.env)).any (·.1)=false:=by rfl) :
  PE X (.Call (.Name x p) (a::es) [] pc) (qS (uH K R) [] E0 tr):=vy (h.mono d) hr g f b i c
def EY{fr:Pe->M (List T)} i j (h:Ad K E X es tr fr) (f:PA X es tr->PS X s1 (l3 (qS (uH K R) [] E0 tr) (jg i))) (c:Pm K E X q2 t2 (jt om (fR (fS i) fV))) (k:PE X q2 t2->PS X s2 (l3 t2 (jg j)))
  (a:BC K E X q3 c3 f3) (d:PS X s7 (oz (Py X.K "list" oV (uh (Ni X.K) (lQ i) (tC (.int 1))) (nK (tC (.int 0)) qQ)))) (b:Pm K E X q8 t8 f8) (g:X.K=K:=by rfl) :
  pS K E X [s1,s2,.If q3 [s7] [] p3,.Return (some q8) p8] (xx (l3 (qS (uH K R) [] E0 tr) (jg i)) (xx (l3 t2 (jg j)) (xx (G6 c3 (oz (Py K "list" oV (uh (Ni K) (lQ i) (tC (.int 1))) (nK (tC (.int 0)) qQ))) Ai) (wA t8)))) (yb i j fr R f3 f8):=by
 subst g;exact⟨p9 (f h.pa) (p9 (k c.pe) (p9 (Mj a.pt (uT d) DN) (uT (vZ b.pe)))),Lx (λl m H h=>zI h) h.ma c.me a.mt b.me⟩
@[simp] noncomputable def Bz(f:Pe->M (List T))(m:T->En->Option En)(g:En->O):En->O:=λb=>.of (tT f b) λa=>iW m g a b
def Kn{i:TS}{f:Pe->M (List T)}(h:MF K E t f)(u:JJ K g m)(n:MS K E i gb):MS K E (Cj (Aj K t) g i) (Bz f m gb):=λB A F H I w D r q=>h.inB r q λz l o v C j a b c d k=>have s:=j.take c b a;⟨l,rfl,⟨o,lC.of c⟩,tY u n (zD (lC.of gB) (d.mono (jf b))) (r.grow s) (.refl _) (k.go (jf b))⟩
def Gp{f:Pe->M (List T)}(j:PassesOwn (model X.prog X.w) X.A X.env X.xe)(d:X.calm=true)(a:El K E X it t f)(b:Pc K X tg gt m)(c:pS K E X A tb g)(i:X.K=K:=by rfl)(h:∀x,foldedSetIterable it X.env x=pure x:=by intro _;rfl):sU K E X (.For tg it A [] pos) (Cj (Aj K t) gt tb) (Bz f m g):=by subst i;exact⟨BQ j d (Dx a.pe) b.pg c.ps h,Kn a.mf b.mg c.ms⟩
def L4{f:Pe->M (List T)}(h:f (vw ρ)=.ok its)(a:zj its=true)(b:iW m g its ρ=r):Bz f m g ρ=r:=by unfold Bz tT;rw[h];simp only[M.bind_ok,a,if_true];exact b
end
end L3
namespace CL
open PySem L2 L3
structure Cs where
 Cutting:Addr
 Desk:Addr
 CutError:Addr
 NoCutting:Addr
 NoTable:Addr
 NoFraction:Addr
 NoSpot:Addr
 NoSigns:Addr
 NoLand:Addr
 NoFace:Addr
 NoNumber:Addr
 NoText:Addr
 NoDeed:Addr
def r9(c:Cs):En->O:=(gh (setO 2 (iD (fZ tP (fS 0) (fS 1))))
  (gh (setO 0 (iD (fS 1)))
  (setO 1 (iD (fS 2)))))
def tM(c:Cs):En->O:=(gh (λa=>lS (gI (fZ (gD true) (fS 1) (cM (.int 0)))) (r9 c) ((λa=>match a with|_::some (.p (.int j))::_=>j.natAbs+1|_=>0) a) a)
  (gW (jt A0 (fR (fS 0) fV))))
def iK(c:Cs):List T->M T:=kJ 2 3 (tM c)
def NC(c:Cs):En->O:=(gh (j5 (gI (fZ (gD false) (fS 1) (cM (.int 0)))) (λ_=>.bad) gM)
  (gh (setO 2 (iD (fY (fR (fS 0) (fR (fS 1) fV)) (iK c))))
  (gh (j5 (gI (fZ By (fS 1) (cM (.int 0)))) (setO 2 (iD (xk (λi=>.int (-i)) (fS 2)))) gM)
  (gW (kc (fR (fZ oq (fS 0) (fS 2)) (fR (fZ oq (fS 1) (fS 2)) fV)))))))
def oF(c:Cs):List T->M T:=kJ 2 3 (NC c)
def OV(c:Cs):En->O:=(gh (j5 (gI (fZ (gD false) (fZ gX (fS 1) (cM (.int 0))) (cM (.int 0)))) (λ_=>.bad) gM)
  (gW (fY (fR (fZ iM (fZ gX (fS 0) (cM (.int 0))) (fZ gX (fS 1) (cM (.int 1)))) (fR (fZ iM (fZ gX (fS 0) (cM (.int 1))) (fZ gX (fS 1) (cM (.int 0)))) fV)) (oF c))))
def qd(c:Cs):List T->M T:=kJ 2 2 (OV c)
def nX(c:Cs):En->O:=(gh (j5 (gI (fZ By (fS 1) (jt jE (fR (fS 0) fV)))) (gW (fZ gX (fS 0) (fS 1))) gM)
  (gW (cM (.int 0))))
def gR(c:Cs):List T->M T:=kJ 2 2 (nX c)
def Bt(c:Cs):En->O:=(gW (xP (nE "int" (fS 0)) (FK (nE "bool" (fS 0)))))
def jc(c:Cs):List T->M T:=kJ 1 1 (Bt c)
def xR(c:Cs):En->O:=(J3 0 1 (fR (fS 1) (fR (fZ tP (fS 0) (fS 1)) fV)))
def zZ(c:Cs):En->O:=(gh (setO 0 (iD (jt A0 (fR (fS 0) fV))))
  (gh (setO 1 (iD (jt A0 (fR (fS 1) fV))))
  (gh (λa=>lS (gI (fZ Ae (fS 1) (cM (.int 0)))) (xR c) ((λa=>match a with|_::some (.p (.int j))::_=>j.natAbs+1|_=>0) a) a)
  (gW (fS 0)))))
def jz(c:Cs):List T->M T:=kJ 2 2 (zZ c)
def sv(c:Cs):En->O:=(gh (j5 (oJ (jT (gI (nE "tuple" (fS 0)))) (oJ (gI (fZ (gD true) (jt jE (fR (fS 0) fV)) (cM (.int 2)))) (oJ (jT (gI (fY (fR (fZ gX (fS 0) (cM (.int 0))) fV) (jc c)))) (jT (gI (fY (fR (fZ gX (fS 0) (cM (.int 1))) fV) (jc c))))))) (gW (cM (.bl false))) gM)
  (gW (xP (fZ Ae (fZ gX (fS 0) (cM (.int 1))) (cM (.int 0))) (fZ (gD false) (fY (fR (fZ gX (fS 0) (cM (.int 0))) (fR (fZ gX (fS 0) (cM (.int 1))) fV)) (jz c)) (cM (.int 1))))))
def jy(c:Cs):List T->M T:=kJ 1 1 (sv c)
def J0(c:Cs):En->O:=(gW (fY (fR (fZ oR (fZ iM (fZ gX (fS 0) (cM (.int 0))) (fZ gX (fS 1) (cM (.int 1)))) (fZ iM (fZ gX (fS 1) (cM (.int 0))) (fZ gX (fS 0) (cM (.int 1))))) (fR (fZ iM (fZ gX (fS 0) (cM (.int 1))) (fZ gX (fS 1) (cM (.int 1)))) fV)) (oF c)))
def sR(c:Cs):List T->M T:=kJ 2 2 (J0 c)
def LR(c:Cs):En->O:=(gW (fY (fR (fZ iM (fZ gX (fS 0) (cM (.int 0))) (fZ gX (fS 1) (cM (.int 0)))) (fR (fZ iM (fZ gX (fS 0) (cM (.int 1))) (fZ gX (fS 1) (cM (.int 1)))) fV)) (oF c)))
def sD(c:Cs):List T->M T:=kJ 2 2 (LR c)
def Nv(c:Cs):En->O:=(gW (fZ By (fZ iM (fZ gX (fS 0) (cM (.int 0))) (fZ gX (fS 1) (cM (.int 1)))) (fZ iM (fZ gX (fS 1) (cM (.int 0))) (fZ gX (fS 0) (cM (.int 1))))))
def j8(c:Cs):List T->M T:=kJ 2 2 (Nv c)
def Ab(c:Cs):En->O:=(gh (setO 2 (iD (fY (fR (fS 0) (fR (fS 1) fV)) (jz c))))
  (gW (kc (fR (fZ oq (fS 0) (fS 2)) (fR (fZ oq (fS 1) (fS 2)) fV)))))
def kD(c:Cs):List T->M T:=kJ 2 3 (Ab c)
def Cw(c:Cs):En->O:=(gW (fZ oq (fZ gX (fS 0) (cM (.int 0))) (fZ gX (fS 0) (cM (.int 1)))))
def kz(c:Cs):List T->M T:=kJ 1 1 (Cw c)
def zd(c:Cs):En->O:=(gW (xk (λi=>.int (-i)) (fZ oq (xk (λi=>.int (-i)) (fZ gX (fS 0) (cM (.int 0)))) (fZ gX (fS 0) (cM (.int 1))))))
def jX(c:Cs):List T->M T:=kJ 1 1 (zd c)
def BG(c:Cs):En->O:=(gW (xP (nE "int" (fS 0)) (FK (nE "bool" (fS 0)))))
def jr(c:Cs):List T->M T:=kJ 1 1 (BG c)
def FW(c:Cs):En->O:=(gh (j5 (gI (fZ Ae (fS 0) (cM (.int 0)))) (gW (cM (.int 1))) gM)
  (gh (j5 (gI (fZ By (fS 0) (cM (.int 0)))) (gW (xk (λi=>.int (-i)) (cM (.int 1)))) gM)
  (gW (cM (.int 0)))))
def md(c:Cs):List T->M T:=kJ 1 1 (FW c)
def EZ(c:Cs):En->O:=(gW (xP (fY (fR (fS 0) fV) (jr c)) (Ro HY HY (cM (.int 1)) (fS 0) (cM (.int 3)))))
def mX(c:Cs):List T->M T:=kJ 1 1 (EZ c)
def tz(c:Cs):Pe->M T:=(fY (fR (fS 0) fV) (jr c))
def s9(c:Cs):Pe->M T:=(fZ (gD true) (fS 0) (cM (.int 0)))
def Jw(c:Cs):En->O:=(gh (j5 (oJ (jT (gI (nE "tuple" (fS 1)))) (gI (fZ (gD true) (jt jE (fR (fS 1) fV)) (fZ iG (fS 0) (cM (.int 1)))))) (gW (cM (.bl false))) gM)
  (gh (j5 (jT (gI (jt zK (fR (iT (ka [none] (iB (fS 1)) (jP 0) (λ_=>.ok true) (tz c))) fV)))) (gW (cM (.bl false))) gM)
  (gW (jt CI (fR (iT (ka [none] (iB (nF (fS 1) (λ_=>.ok none) (kL (fS 0)))) (jP 0) (λ_=>.ok true) (s9 c))) fV)))))
def oB(c:Cs):List T->M T:=kJ 2 2 (Jw c)
def pV(c:Cs):En->O:=(setO 1 (iD (fZ iG (fS 1) (cM (.int 1)))))
def xu(c:Cs):En->O:=(gh (setO 1 (iD (cM (.int 0))))
  (gh (λa=>lS (gI (fZ (gD false) (fZ gX (fS 0) (fS 1)) (cM (.int 0)))) (pV c) ((λa=>match a with|some (.p (.tup ts))::_=>ts.length+1|_=>0) a) a)
  (gW (fS 1))))
def kU(c:Cs):List T->M T:=kJ 1 2 (xu c)
def qW(c:Cs):Pe->M T:=(fZ (gD false) (fZ iM (fS 0) (fZ gX (fS 2) (fS 3))) (fZ iM (fS 1) (fZ gX (fS 4) (fS 3))))
def zr(c:Cs):En->O:=(gh (setO 2 (iD (fY (fR (fS 0) fV) (kU c))))
  (gW (jt zK (fR (iT (ka [none,none,some 1,some 2,some 0] (mE (fR (fS 0) (fR (fS 1) fV))) (oO 2 (iX (jP 0) (iX (jP 1) oI))) (λ_=>.ok true) (qW c))) fV))))
def lL(c:Cs):List T->M T:=kJ 2 3 (zr c)
def pj(c:Cs):Pe->M T:=(fY (fR (fS 0) (fR (fS 1) fV)) (lL c))
def Ag(c:Cs):En->O:=(gh (j5 (oJ (gI (fZ MB (jt jE (fR (fS 1) fV)) (cM (.int 7)))) (jT (gI (fY (fR (fS 0) (fR (fS 2) fV)) (oB c))))) (gW (cM (.bl false))) gM)
  (gW (FK (jt CI (fR (iT (ka [none,some 2] (iB (fS 1)) (jP 0) (λ_=>.ok true) (pj c))) fV)))))
def lE(c:Cs):List T->M T:=kJ 3 3 (Ag c)
def pC(c:Cs):En->O:=(gh (j5 (jT (gI (fY (fR (fS 0) (fR (fS 2) (fR (fS 3) fV))) (lE c)))) (λ_=>.bad) gM)
  (oy 2 (iD (jt ja (fR (fS 3) fV)))))
def w6(c:Cs):En->O:=(gh (j5 (oJ (jT (gI (fY (fR (fS 0) fV) (mX c)))) (jT (gI (nE "list" (fS 1))))) (λ_=>.bad) gM)
  (gh (mB 2 (nC (lstM fV)))
  (gh (mH (iB (fS 1)) (jA 3) (pC c))
  (gW (jt ja (fR (fS 2) fV))))))
def jL(c:Cs):List T->M T:=kJ 2 4 (w6 c)
def jK(c:Cs):List T->M T:=xX c.Cutting 2 "own_cuts" "own_dims" (fY (fR (fS 1) (fR (fS 2) fV)) (jL c)) (fS 1)
def vG(c:Cs):En->O:=(gW (Bo c.Cutting "own_dims" (fS 0)))
def jM(c:Cs):List T->M T:=kJ 1 1 (vG c)
def wN(c:Cs):En->O:=(wJ (Em mF (fR (Bo c.Cutting "own_cuts" (fS 0)) fV)))
def jN(c:Cs):List T->M (List T):=zX 1 1 (wN c)
def wy(c:Cs):En->O:=(gW (jt jE (fR (Bo c.Cutting "own_cuts" (fS 0)) fV)))
def jO(c:Cs):List T->M T:=kJ 1 1 (wy c)
def Bq(c:Cs):En->O:=(setO 3 (iD (fZ oq (fS 3) (fS 2))))
def C5(c:Cs):En->O:=(gh (j5 (gI (fZ MB (fS 0) (fZ pP (cM (.int 10)) (cM (.int 18))))) (gh (setO 3 (iD (fS 0)))
  (gh (pG (kY (fR (fS 1) fV)) (jA 4) (Bq c))
  (gW (fZ tP (fS 3) (fS 2))))) gM)
  (gh (setO 5 (iD (fZ tP (fZ iM (fZ iG (fZ iG (fZ tP (fS 0) (cM (.int 1000000007))) (fZ iM (cM (.int 1009)) (fS 1))) (cM (.int 17))) (cM (.int 69621))) (cM (.int 2147483647)))))
  (gh (setO 5 (iD (fZ tP (fZ iG (fZ iG (fZ iM (fS 5) (fS 5)) (fZ iM (cM (.int 40503)) (fS 1))) (cM (.int 5))) (cM (.int 2147483629)))))
  (gW (fZ tP (fZ oq (fZ tP (fZ iM (fS 5) (cM (.int 48271))) (cM (.int 2147483647))) (cM (.int 32))) (fS 2))))))
def f9(c:Cs):List T->M T:=kJ 3 6 (C5 c)
def uo(c:Cs):En->O:=(j5 (gI (fZ (gD true) (fZ iM (fZ gX (fS 0) (fS 2)) (fZ gX (fS 1) (fS 3))) (fZ iM (fZ gX (fS 0) (fS 3)) (fZ gX (fS 1) (fS 2))))) (gW (cM (.bl false))) gM)
def Am(c:Cs):En->O:=(pG (kY (fR (fS 2) fV)) (jA 3) (uo c))
def BU(c:Cs):En->O:=(gh (pG (kY (fR (jt jE (fR (fS 0) fV)) fV)) (jA 2) (Am c))
  (gW (cM (.bl true))))
def ki(c:Cs):List T->M T:=kJ 2 4 (BU c)
def wI(c:Cs):Pe->M T:=(fZ oR (fY (fR (fS 1) (fR (fS 0) (fR (cM (.int 7)) fV))) (f9 c)) (cM (.int 3)))
def vO(c:Cs):Pe->M T:=(fZ iM (fS 0) (fS 1))
def wU(c:Cs):Pe->M T:=(fZ iM (fS 0) (fS 1))
def yJ(c:Cs):En->O:=(gh (mB 3 (nC (ka [none,some 0] (kY (fR (fS 1) fV)) (jP 0) (λ_=>.ok true) (wI c))))
  (gh (j5 (gI (fZ (gD false) (fS 3) (iT (uS (iT (lstM (fR (cM (.int 0)) fV))) (fS 1))))) (uK 3 (mJ (fY (fR (fS 0) (fR (cM (.int 4)) (fR (fS 1) fV))) (f9 c))) (mJ (fZ iG (cM (.int 1)) (fY (fR (fS 0) (fR (cM (.int 5)) (fR (cM (.int 3)) fV))) (f9 c))))) gM)
  (gh (setO 4 (iD (fZ oR (fY (fR (fS 0) (fR (cM (.int 6)) (fR (cM (.int 9)) fV))) (f9 c)) (cM (.int 4)))))
  (gh (setO 5 (iD (fY (fR (fS 0) (fR (cM (.int 7)) (fR (cM (.int 7)) fV))) (f9 c))))
  (gh (j5 (jW (gI (fZ (gD false) (fS 5) (cM (.int 1)))) (gI (fZ (gD true) (fS 2) (iT (lstM fV))))) (mB 3 (nC (Em mF (fR (nF (fZ gX (fS 2) (fY (fR (fS 0) (fR (cM (.int 8)) (fR (jt jE (fR (fS 2) fV)) fV))) (f9 c))) (λ_=>.ok none) (kL (fS 1))) fV)))) gM)
  (gh (j5 (oJ (gI (fZ (gD false) (fS 5) (cM (.int 2)))) (gI (fZ (gD false) (fS 5) (cM (.int 3))))) (setO 4 (mJ (jt Dg (fR (iT (ka [none,none] (mE (fR (fS 3) (fR (iT (lstM (fR (cM (.int 1)) (fR (cM (.int 2)) (fR (xk (λi=>.int (-i)) (cM (.int 1))) fV))))) fV))) (oO 2 (iX (jP 0) (iX (jP 1) oI))) (λ_=>.ok true) (vO c))) fV)))) gM)
  (gh (j5 (gI (fZ (gD false) (fS 5) (cM (.int 4)))) (gh (setO 6 (iD (fZ iM (fZ iG (cM (.int 1)) (fY (fR (fS 0) (fR (cM (.int 9)) (fR (fZ pP (cM (.int 10)) (cM (.int 6))) fV))) (f9 c))) (fZ gX (iT (lstM (fR (cM (.int 1)) (fR (cM (.int 1)) (fR (fZ pP (cM (.int 10)) (cM (.int 18))) fV))))) (fY (fR (fS 0) (fR (cM (.int 11)) (fR (cM (.int 3)) fV))) (f9 c))))))
  (gh (mB 3 (tT (ka [none,some 6] (iB (fS 3)) (jP 0) (λ_=>.ok true) (wU c))))
  (setO 4 (iD (fZ iG (fZ iM (fS 4) (fS 6)) (fY (fR (fS 0) (fR (cM (.int 10)) (fR (cM (.int 7)) fV))) (f9 c))))))) gM)
  (gW (jt ja (fR (iT (xD (fS 3) (iT (lstM (fR (fS 4) fV))))) fV))))))))))
def tN(c:Cs):List T->M T:=kJ 3 7 (yJ c)
def qu(c:Cs):Pe->M T:=(fS 0)
def uv(c:Cs):En->O:=(gh (setO 6 (mJ (fY (fR (fY (fR (fS 0) (fR (fZ iG (fS 1) (fS 5)) fV)) (gR c)) (fR (fS 2) (fR (fS 4) fV))) (tN c))))
  (j5 (gI (fZ (gD false) (iT (ka [none,some 6] (iB (fS 4)) (jP 0) (gI (fY (fR (fS 1) (fR (fS 0) fV)) (ki c))) (qu c))) (iT (lstM fV)))) (oy 4 (iD (fS 6))) gM))
def De(c:Cs):En->O:=(gh (mB 4 (nC (lstM fV)))
  (gh (pG (kY (fR (fS 3) fV)) (jA 5) (uv c))
  (nG 4)))
def w9(c:Cs):List T->M (List T):=zX 4 7 (De c)
def AS(c:Cs):En->O:=(gh (setO 2 (iD (fZ iG (fZ iM (fS 2) (fZ gX (fS 5) (cM (.int 1)))) (fZ iM (fZ iM (fS 4) (fZ gX (fS 5) (cM (.int 0)))) (fS 3)))))
  (setO 3 (iD (fZ iM (fS 3) (fZ gX (fS 5) (cM (.int 1)))))))
def CW(c:Cs):En->O:=(gh (setO 2 (iD (xk (λi=>.int (-i)) (fZ gX (fS 0) (xk (λi=>.int (-i)) (cM (.int 1)))))))
  (gh (setO 3 (iD (cM (.int 1))))
  (gh (mH (mE (fR (fS 0) (fR (fS 1) fV))) (kr 2 (gY (jA 4) (gY (jA 5) kC))) (AS c))
  (gW (fZ oR (jt rQ (fR (fZ Ae (fS 2) (cM (.int 0))) fV)) (jt rQ (fR (fZ By (fS 2) (cM (.int 0))) fV)))))))
def l9(c:Cs):List T->M T:=kJ 2 6 (CW c)
def uD(c:Cs):En->O:=(gh (setO 4 (iD (fZ oR (fY (fR (fS 0) (fR (fZ iM (cM (.int 3)) (fS 3)) (fR (cM (.int 13)) fV))) (f9 c)) (cM (.int 6)))))
  (gh (setO 5 (iD (fZ gX (iT (lstM (fR (cM (.int 1)) (fR (cM (.int 1)) (fR (cM (.int 2)) (fR (cM (.int 3)) (fR (cM (.int 7)) fV))))))) (fY (fR (fS 0) (fR (fZ iG (fZ iM (cM (.int 3)) (fS 3)) (cM (.int 1))) (fR (cM (.int 5)) fV))) (f9 c)))))
  (gh (j5 (gI (fZ (gD false) (fY (fR (fS 0) (fR (fZ iG (fZ iM (cM (.int 3)) (fS 3)) (cM (.int 2))) (fR (cM (.int 6)) fV))) (f9 c)) (cM (.int 5)))) (gh (setO 4 (iD (fZ oR (fY (fR (fS 0) (fR (fZ iG (cM (.int 20)) (fS 3)) (fR (fZ pP (cM (.int 10)) (cM (.int 12))) fV))) (f9 c)) (fZ pP (cM (.int 10)) (cM (.int 11))))))
  (setO 5 (iD (fZ iG (cM (.int 1)) (fY (fR (fS 0) (fR (fZ iG (cM (.int 30)) (fS 3)) (fR (fZ pP (cM (.int 10)) (cM (.int 9))) fV))) (f9 c)))))) gM)
  (oy 2 (iD (fY (fR (fS 4) (fR (fS 5) fV)) (kD c)))))))
def CV(c:Cs):En->O:=(gh (mB 2 (nC (lstM fV)))
  (gh (pG (kY (fR (fS 1) fV)) (jA 3) (uD c))
  (gW (jt ja (fR (fS 2) fV)))))
def nv(c:Cs):List T->M T:=kJ 2 6 (CV c)
def yE(c:Cs):En->O:=(gh (setO 1 (iD (fY (fR (fS 1) (fR (fS 2) fV)) (iK c))))
  (j5 (gI (fZ (gD false) (fS 1) (cM (.int 1)))) (gW (fS 0)) gM))
def EX(c:Cs):Pe->M T:=(fZ oq (fS 0) (fS 1))
def Gq(c:Cs):En->O:=(gh (setO 1 (iD (cM (.int 0))))
  (gh (mH (iB (fS 0)) (jA 2) (yE c))
  (gh (j5 (gI (fZ (gD false) (fS 1) (cM (.int 0)))) (gW (fS 0)) gM)
  (gW (jt ja (fR (iT (ka [none,some 1] (iB (fS 0)) (jP 0) (λ_=>.ok true) (EX c))) fV))))))
def qq(c:Cs):List T->M T:=kJ 1 3 (Gq c)
def Cz(c:Cs):Pe->M T:=(fZ iG (fZ iM (fS 2) (fS 0)) (fZ iM (fS 3) (fS 1)))
def Fx(c:Cs):En->O:=(gh (j5 (gI (fZ (gD false) (fZ gX (fS 0) (fS 2)) (cM (.int 0)))) (gW (fS 0)) gM)
  (gh (setO 3 (iD (jt A0 (fR (fZ gX (fS 1) (fS 2)) fV))))
  (gh (setO 4 (iD (fZ iM (xk (λi=>.int (-i)) (fZ gX (fS 0) (fS 2))) (fY (fR (fZ gX (fS 1) (fS 2)) fV) (md c)))))
  (gW (fY (fR (jt ja (fR (iT (ka [none,none,some 3,some 4] (mE (fR (fS 0) (fR (fS 1) fV))) (oO 2 (iX (jP 0) (iX (jP 1) oI))) (λ_=>.ok true) (Cz c))) fV)) fV) (qq c))))))
def iP(c:Cs):List T->M T:=kJ 3 5 (Fx c)
def uq(c:Cs):En->O:=(gh (mB 4 (nC (uS (iT (lstM (fR (cM (.int 0)) fV))) (jt jE (fR (fS 0) fV)))))
  (gh (uK 4 (mJ (fS 2)) (mJ (cM (.int 1))))
  (oy 1 (mJ (fZ iG (fS 3) (jt ja (fR (fS 4) fV)))))))
def B3(c:Cs):En->O:=(gh (mB 1 (nC (lstM fV)))
  (gh (mH (EH (fR (fS 0) fV)) (kr 2 (gY (jA 2) (gY (jA 3) kC))) (uq c))
  (nG 1)))
def nj(c:Cs):List T->M (List T):=zX 1 5 (B3 c)
def rA(c:Cs):En->O:=(setO 0 (iD (fY (fR (fS 0) (fR (fS 3) (fR (fS 2) fV))) (iP c))))
def E4(c:Cs):En->O:=(gh (mH (iB (fS 1)) (kr 2 (gY (jA 2) (gY (jA 3) kC))) (rA c))
  (gW (fS 0)))
def kK(c:Cs):List T->M T:=kJ 2 4 (E4 c)
def qY(c:Cs):Pe->M T:=(kc (fR (fS 0) (fR (fY (fR (fS 1) (fR (fS 2) (fR (fS 3) fV))) (iP c)) fV)))
def yM(c:Cs):En->O:=(wJ (xD (iT (ka [none,none,some 1,some 2] (iB (fS 0)) (oO 2 (iX (jP 0) (iX (jP 1) oI))) (λ_=>.ok true) (qY c))) (iT (lstM (fR (kc (fR (fS 2) (fR (fS 1) fV))) fV)))))
def kH(c:Cs):List T->M (List T):=zX 3 3 (yM c)
def mL(c:Cs):Pe->M T:=(fS 0)
def kQ(c:Cs):En->O:=(gh (setO 5 (iD (fY (fR (fS 4) (fR (fS 2) fV)) (kK c))))
  (gh (setO 6 (iD (iT (ka [none,some 5] (kY (fR (fS 1) fV)) (jP 0) (gI (fZ (gD true) (fZ gX (fS 1) (fS 0)) (cM (.int 0)))) (mL c)))))
  (j5 (gI (fZ (gD false) (fS 6) (iT (lstM fV)))) (oy 3 (iD (fS 5))) (setO 2 (iD (iT (jY (fR (fS 2) (fR (fS 5) (fR (fZ gX (fS 6) (cM (.int 0))) fV))) (kH c))))))))
def rB(c:Cs):En->O:=(gh (setO 2 (iD (iT (lstM fV))))
  (gh (mB 3 (nC (lstM fV)))
  (gh (mH (iB (fS 0)) (jA 4) (kQ c))
  (gW (kc (fR (fS 2) (fR (fS 3) fV)))))))
def jo(c:Cs):List T->M T:=kJ 2 7 (rB c)
def wH(c:Cs):Pe->M T:=(fS 0)
def vY(c:Cs):Pe->M T:=(fS 0)
def xm(c:Cs):En->O:=(gh (setO 2 (iD (iT (ka [none,none] (iB (fS 0)) (oO 2 (iX (jP 0) (iX (jP 1) oI))) (λ_=>.ok true) (wH c)))))
  (wJ (ka [none,some 2] (kY (fR (fS 1) fV)) (jP 0) (gI (fZ (Ja true) (fS 0) (fS 1))) (vY c))))
def kX(c:Cs):List T->M (List T):=zX 2 3 (xm c)
def qw(c:Cs):En->O:=(setO 2 (iD (fY (fR (fS 2) (fR (fY (fR (kc (fR (fS 3) (fR (cM (.int 1)) fV))) (fR (fS 4) fV)) (sD c)) fV)) (sR c))))
def Cd(c:Cs):En->O:=(gh (setO 2 (iD (kc (fR (fZ gX (fS 0) (jt jE (fR (fS 1) fV))) (fR (cM (.int 1)) fV)))))
  (gh (mH (mE (fR (fS 0) (fR (fS 1) fV))) (kr 2 (gY (jA 3) (gY (jA 4) kC))) (qw c))
  (gW (fS 2))))
def ke(c:Cs):List T->M T:=kJ 2 5 (Cd c)
def sX(c:Cs):En->O:=(uK 2 (mJ (fS 3)) (mJ (fY (fR (fY (fR (fS 4) (fR (fS 1) fV)) (ke c)) (fR (kc (fR (fZ gX (fS 4) (fS 3)) (fR (cM (.int 1)) fV))) fV)) (qd c))))
def GQ(c:Cs):En->O:=(gh (mB 2 (nC (Em mF (fR (fS 1) fV))))
  (gh (mH (iB (fS 0)) (kr 2 (gY (jA 3) (gY (jA 4) kC))) (sX c))
  (gW (jt ja (fR (fS 2) fV)))))
def qi(c:Cs):List T->M T:=kJ 2 5 (GQ c)
def zy(c:Cs):Pe->M T:=(fZ oR (fY (fR (fS 1) (fR (fS 0) (fR (cM (.int 7)) fV))) (f9 c)) (cM (.int 3)))
def z9(c:Cs):Pe->M T:=(fZ iM (fS 0) (fS 1))
def zS(c:Cs):Pe->M T:=(fZ iM (fS 0) (fS 1))
def Bb(c:Cs):En->O:=(gh (mB 3 (nC (ka [none,some 0] (kY (fR (fS 1) fV)) (jP 0) (λ_=>.ok true) (zy c))))
  (gh (j5 (gI (fZ (gD false) (fS 3) (iT (uS (iT (lstM (fR (cM (.int 0)) fV))) (fS 1))))) (uK 3 (mJ (fY (fR (fS 0) (fR (cM (.int 4)) (fR (fS 1) fV))) (f9 c))) (mJ (fZ iG (cM (.int 1)) (fY (fR (fS 0) (fR (cM (.int 5)) (fR (cM (.int 3)) fV))) (f9 c))))) gM)
  (gh (setO 4 (iD (fZ oR (fY (fR (fS 0) (fR (cM (.int 6)) (fR (cM (.int 9)) fV))) (f9 c)) (cM (.int 4)))))
  (gh (setO 5 (iD (fY (fR (fS 0) (fR (cM (.int 7)) (fR (cM (.int 7)) fV))) (f9 c))))
  (gh (j5 (jW (gI (fZ (gD false) (fS 5) (cM (.int 1)))) (gI (fZ (gD true) (fS 2) (iT (lstM fV))))) (mB 3 (nC (Em mF (fR (nF (fZ gX (fS 2) (fY (fR (fS 0) (fR (cM (.int 8)) (fR (jt jE (fR (fS 2) fV)) fV))) (f9 c))) (λ_=>.ok none) (kL (fS 1))) fV)))) gM)
  (gh (j5 (oJ (gI (fZ (gD false) (fS 5) (cM (.int 2)))) (gI (fZ (gD false) (fS 5) (cM (.int 3))))) (setO 4 (mJ (jt Dg (fR (iT (ka [none,none] (mE (fR (fS 3) (fR (iT (lstM (fR (cM (.int 1)) (fR (cM (.int 2)) (fR (xk (λi=>.int (-i)) (cM (.int 1))) fV))))) fV))) (oO 2 (iX (jP 0) (iX (jP 1) oI))) (λ_=>.ok true) (z9 c))) fV)))) gM)
  (gh (j5 (gI (fZ (gD false) (fS 5) (cM (.int 4)))) (gh (setO 6 (iD (fZ iM (fZ iG (cM (.int 1)) (fY (fR (fS 0) (fR (cM (.int 9)) (fR (fZ pP (cM (.int 10)) (cM (.int 6))) fV))) (f9 c))) (fZ gX (iT (lstM (fR (cM (.int 1)) (fR (cM (.int 1)) (fR (fZ pP (cM (.int 10)) (cM (.int 18))) fV))))) (fY (fR (fS 0) (fR (cM (.int 11)) (fR (cM (.int 3)) fV))) (f9 c))))))
  (gh (mB 3 (tT (ka [none,some 6] (iB (fS 3)) (jP 0) (λ_=>.ok true) (zS c))))
  (setO 4 (iD (fZ iG (fZ iM (fS 4) (fS 6)) (fY (fR (fS 0) (fR (cM (.int 10)) (fR (cM (.int 7)) fV))) (f9 c))))))) gM)
  (gW (jt ja (fR (iT (xD (fS 3) (iT (lstM (fR (fS 4) fV))))) fV))))))))))
def nS(c:Cs):List T->M T:=kJ 3 7 (Bb c)
def xo(c:Cs):Pe->M T:=(fS 0)
def xG(c:Cs):En->O:=(gh (setO 6 (mJ (fY (fR (fY (fR (fS 0) (fR (fZ iG (fS 1) (fS 5)) fV)) (gR c)) (fR (fS 2) (fR (fS 4) fV))) (nS c))))
  (j5 (gI (fZ (gD false) (iT (ka [none,some 6] (iB (fS 4)) (jP 0) (gI (fY (fR (fS 1) (fR (fS 0) fV)) (ki c))) (xo c))) (iT (lstM fV)))) (oy 4 (iD (fS 6))) gM))
def zc(c:Cs):En->O:=(gh (mB 4 (nC (lstM fV)))
  (gh (pG (kY (fR (fS 3) fV)) (jA 5) (xG c))
  (nG 4)))
def mP(c:Cs):List T->M (List T):=zX 4 7 (zc c)
def jD(c:Cs):En->O:=(gh (setO 2 (iD (fZ iG (fZ iM (fS 2) (fZ gX (fS 5) (cM (.int 1)))) (fZ iM (fZ iM (fS 4) (fZ gX (fS 5) (cM (.int 0)))) (fS 3)))))
  (setO 3 (iD (fZ iM (fS 3) (fZ gX (fS 5) (cM (.int 1)))))))
def zM(c:Cs):En->O:=(gh (setO 2 (iD (xk (λi=>.int (-i)) (fZ gX (fS 0) (xk (λi=>.int (-i)) (cM (.int 1)))))))
  (gh (setO 3 (iD (cM (.int 1))))
  (gh (mH (mE (fR (fS 0) (fR (fS 1) fV))) (kr 2 (gY (jA 4) (gY (jA 5) kC))) (jD c))
  (gW (fZ oR (jt rQ (fR (fZ Ae (fS 2) (cM (.int 0))) fV)) (jt rQ (fR (fZ By (fS 2) (cM (.int 0))) fV)))))))
def sN(c:Cs):List T->M T:=kJ 2 6 (zM c)
def qt(c:Cs):Pe->M T:=(fY (fR (fS 0) fV) (jy c))
def xy(c:Cs):En->O:=(gh (j5 (oJ (jT (gI (nE "tuple" (fS 0)))) (gI (fZ (gD true) (jt jE (fR (fS 0) fV)) (fS 1)))) (gW (cM (.bl false))) gM)
  (gW (jt zK (fR (iT (ka [none] (iB (fS 0)) (jP 0) (λ_=>.ok true) (qt c))) fV))))
def iY(c:Cs):List T->M T:=kJ 2 2 (xy c)
def pO(c:Cs):Pe->M T:=(fY (fR (fS 0) fV) (jc c))
def xE(c:Cs):En->O:=(gh (j5 (oJ (jT (gI (nE "list" (fS 0)))) (gI (fZ (gD true) (jt jE (fR (fS 0) fV)) (fS 1)))) (gW (cM (.bl false))) gM)
  (gW (jt zK (fR (iT (ka [none] (iB (fS 0)) (jP 0) (λ_=>.ok true) (pO c))) fV))))
def je(c:Cs):List T->M T:=kJ 2 2 (xE c)
def pN(c:Cs):Pe->M T:=(xP (fY (fR (fS 0) fV) (jr c)) (Ro HY HY (xk (λi=>.int (-i)) (cM (.int 1))) (fS 0) (cM (.int 1))))
def Co(c:Cs):En->O:=(gh (j5 (oJ (jT (gI (nE "tuple" (fS 1)))) (gI (fZ (gD true) (jt jE (fR (fS 1) fV)) (fS 0)))) (gW (cM (.bl false))) gM)
  (gW (jt zK (fR (iT (ka [none] (iB (fS 1)) (jP 0) (λ_=>.ok true) (pN c))) fV))))
def nu(c:Cs):List T->M T:=kJ 2 2 (Co c)
def xw(c:Cs):En->O:=(j5 (jT (gI (fY (fR (uy c.Cutting "many" (fS 0) fV (jO c)) (fR (fS 1) fV)) (nu c)))) (λ_=>.bad) gM)
def kW(c:Cs):List T->M T:=kJ 2 2 (xw c)
def EV(c:Cs):Pe->M T:=(fZ iM (fS 1) (fS 0))
def Ic(c:Cs):En->O:=(gW (jt ja (fR (iT (ka [none,some 1] (iB (fS 0)) (jP 0) (λ_=>.ok true) (EV c))) fV)))
def nA(c:Cs):List T->M T:=kJ 2 2 (Ic c)
def yn(c:Cs):En->O:=(j5 (gI (fZ (gD false) (fZ gX (fS 5) (fS 2)) (cM (.int 0)))) (wV 4 (mJ (fS 5)) (mJ (cM (.bl true)))) gM)
def tJ(c:Cs):Pe->M T:=(fS 0)
def sV(c:Cs):Pe->M T:=(fS 0)
def t9(c:Cs):Pe->M T:=(fS 0)
def tK(c:Cs):En->O:=(gh (setO 8 (iD (fY (fR (fS 6) (fR (fS 7) (fR (fS 2) fV))) (iP c))))
  (j5 (gI (fZ HY (jt jE (fR (iT (ka [none] (iB (nF (fS 8) (kL (fZ iG (fS 1) (cM (.int 1)))) (λ_=>.ok none))) (jP 0) (gI (fZ (gD true) (fS 0) (cM (.int 0)))) (t9 c))) fV)) (fS 3))) (wV 4 (mJ (fS 8)) (mJ (cM (.bl true)))) gM))
def xY(c:Cs):En->O:=(mH (iB (iT (ka [none,some 2] (iB (fS 0)) (jP 0) (gI (fZ By (fZ gX (fS 0) (fS 1)) (cM (.int 0)))) (sV c)))) (jA 7) (tK c))
def GS(c:Cs):En->O:=(gh (Jg 4)
  (gh (mH (iB (fS 0)) (jA 5) (yn c))
  (gh (mH (iB (iT (ka [none,some 2] (iB (fS 0)) (jP 0) (gI (fZ Ae (fZ gX (fS 0) (fS 1)) (cM (.int 0)))) (tJ c)))) (jA 6) (xY c))
  (sJ 4))))
def pK(c:Cs):List T->M (List T):=zX 4 9 (GS c)
def v5(c:Cs):En->O:=(gh (setO 6 (mJ (fZ iG (fZ iG (jt jE (fR (fS 4) fV)) (cM (.int 1))) (jt jE (fR (fS 3) fV)))))
  (yd 4 (tT (jY (fR (fZ gX (fS 4) (xk (λi=>.int (-i)) (cM (.int 1)))) (fR (fS 1) (fR (fS 5) (fR (fS 6) fV)))) (pK c)))))
def Fu(c:Cs):En->O:=(gh (mB 4 (nC (lstM (fR (fS 0) fV))))
  (gh (mH (iB (fS 2)) (jA 5) (v5 c))
  (nG 4)))
def oj(c:Cs):List T->M (List T):=zX 4 7 (Fu c)
def vK(c:Cs):En->O:=(j5 (gI (fZ (gD true) (fZ gX (fS 5) (fS 1)) (cM (.int 0)))) (gh (setO 6 (iD (fY (fR (fY (fR (fS 5) (fR (fS 2) fV)) (ke c)) (fR (kc (fR (fZ gX (fS 5) (fS 1)) (fR (cM (.int 1)) fV))) fV)) (qd c))))
  (gh (j5 (jW (gI (fZ Ae (fZ gX (fS 5) (fS 1)) (cM (.int 0)))) (oJ (gI (fZ (jS false) (fS 3) (cM .non))) (gI (fY (fR (fS 3) (fR (fS 6) fV)) (j8 c))))) (setO 3 (iD (fS 6))) gM)
  (j5 (jW (gI (fZ By (fZ gX (fS 5) (fS 1)) (cM (.int 0)))) (oJ (gI (fZ (jS false) (fS 4) (cM .non))) (gI (fY (fR (fS 6) (fR (fS 4) fV)) (j8 c))))) (setO 4 (iD (fS 6))) gM))) gM)
def FN(c:Cs):En->O:=(gh (setO 3 (iD (cM .non)))
  (gh (setO 4 (iD (cM .non)))
  (gh (mH (iB (fS 0)) (jA 5) (vK c))
  (gW (kc (fR (fS 3) (fR (fS 4) fV)))))))
def mZ(c:Cs):List T->M T:=kJ 3 7 (FN c)
def uM(c:Cs):En->O:=(gh (setO 2 (iD (cM (.int 0))))
  (gh (j5 (jW (gI (fZ (jS true) (fS 0) (cM .non))) (gI (fZ MB (fZ gX (fS 0) (cM (.int 0))) (cM (.int 0))))) (setO 2 (iD (fZ iG (fY (fR (fS 0) fV) (kz c)) (cM (.int 1))))) (j5 (jW (gI (fZ (jS true) (fS 1) (cM .non))) (gI (fZ HY (fZ gX (fS 1) (cM (.int 0))) (cM (.int 0))))) (setO 2 (iD (fZ oR (fY (fR (fS 1) fV) (jX c)) (cM (.int 1))))) gM))
  (gh (j5 (jW (gI (fZ (jS true) (fS 0) (cM .non))) (jT (gI (fY (fR (fS 0) (fR (kc (fR (fS 2) (fR (cM (.int 1)) fV))) fV)) (j8 c))))) (gW (cM .non)) gM)
  (gh (j5 (jW (gI (fZ (jS true) (fS 1) (cM .non))) (jT (gI (fY (fR (kc (fR (fS 2) (fR (cM (.int 1)) fV))) (fR (fS 1) fV)) (j8 c))))) (gW (cM .non)) gM)
  (gW (fS 2))))))
def jx(c:Cs):List T->M T:=kJ 2 3 (uM c)
def lT(c:Cs):En->O:=(gh (setO 4 (iD (fY (fR (fS 0) fV) (kz c))))
  (gh (oy 2 (iD (fS 4)))
  (gh (setO 5 (iD (fZ oR (fZ gX (fS 0) (cM (.int 0))) (fZ iM (fS 4) (fZ gX (fS 0) (cM (.int 1)))))))
  (gh (setO 6 (iD (RC (gI (fZ (gD false) (fS 5) (cM (.int 0)))) (cM .non) (kc (fR (fZ gX (fS 0) (cM (.int 1))) (fR (fS 5) fV))))))
  (gh (setO 0 (iD (kc (fR (fZ gX (fS 1) (cM (.int 1))) (fR (fZ oR (fZ gX (fS 1) (cM (.int 0))) (fZ iM (fS 4) (fZ gX (fS 1) (cM (.int 1))))) fV)))))
  (gh (setO 1 (iD (fS 6)))
  (setO 3 (iD (fY (fR (fS 0) (fR (fS 1) fV)) (jx c))))))))))
def lK(c:Cs):En->O:=(setO 7 (iD (kc (fR (fZ iG (fZ iM (fS 4) (fZ gX (fS 7) (cM (.int 0)))) (fZ gX (fS 7) (cM (.int 1)))) (fR (fZ gX (fS 7) (cM (.int 0))) fV)))))
def xJ(c:Cs):En->O:=(gh (j5 (jW (gI (fZ (jS true) (fS 0) (cM .non))) (gI (fZ (gD false) (fS 0) (fS 1)))) (gW (fS 0)) gM)
  (gh (mB 2 (nC (lstM fV)))
  (gh (setO 3 (iD (fY (fR (fS 0) (fR (fS 1) fV)) (jx c))))
  (gh (λd=>lS (gI (fZ (jS false) (fS 3) (cM .non))) (lT c) ((λd=>match d with|some (.p (.tup [_,.int a]))::some (.p (.tup [_,.int b]))::_=>a.natAbs+b.natAbs+2|_=>1) d) d)
  (gh (setO 7 (iD (kc (fR (fS 3) (fR (cM (.int 1)) fV)))))
  (gh (Px 2 (mH (Gj (fR (fS 2) fV)) (jA 4) (lK c)))
  (gW (fS 7))))))))
def jF(c:Cs):List T->M T:=kJ 2 8 (xJ c)
def pE(c:Cs):En->O:=(gh (setO 6 (mJ (fY (fR (fZ gX (fS 0) (fS 4)) (fR (fS 5) (fR (fS 3) fV))) (mZ c))))
  (uK 3 (mJ (fS 5)) (mJ (fY (fR (fZ gX (fS 6) (cM (.int 0))) (fR (fZ gX (fS 6) (cM (.int 1))) fV)) (jF c)))))
def wo(c:Cs):En->O:=(gh (mB 3 (nC (Em mF (fR (fS 2) fV))))
  (gh (mH (Gj (fR (iT (QJ (fR (fS 1) fV))) fV)) (kr 2 (gY (jA 4) (gY (jA 5) kC))) (pE c))
  (nG 3)))
def jQ(c:Cs):List T->M (List T):=zX 3 7 (wo c)
def mK(c:Cs):En->O:=(j5 (gI (fZ (gD true) (fZ gX (fS 2) (fS 1)) (cM (.int 0)))) (gW (iT (Em mF (fR (nF (fY (fR (fS 2) (fR (fY (fR (fZ gX (fS 2) (fS 1)) fV) (md c)) fV)) (nA c)) (kL (fZ iG (fS 1) (cM (.int 1)))) (λ_=>.ok none)) fV)))) gM)
def rJ(c:Cs):En->O:=(gh (mH (iB (fS 0)) (jA 2) (mK c))
  (gW (cM .non)))
def iF(c:Cs):List T->M T:=kJ 2 3 (rJ c)
def mM(c:Cs):Pe->M T:=(fS 0)
def mN(c:Cs):Pe->M T:=(fY (fR (fY (fR (fS 0) (fR (fS 1) fV)) (nA c)) (fR (fS 2) fV)) (kK c))
def kM(c:Cs):En->O:=(j5 (gI (fZ MB (fZ gX (fS 10) (fS 1)) (cM (.int 0)))) (gW (kc (fR (cM (.str "paper")) (fR (iT (Em mF (fR (nF (fS 10) (kL (fZ iG (fS 1) (cM (.int 1)))) (λ_=>.ok none)) fV))) fV)))) gM)
def lq(c:Cs):En->O:=(gh (setO 3 (iD (iT (jY (fR (fS 0) fV) (nj c)))))
  (gh (setO 4 (iD (fY (fR (iT (ka [none,none] (mE (fR (fS 3) (fR (fS 2) fV))) (oO 2 (iX (jP 0) (iX (jP 1) oI))) (gI (fZ (gD false) (fS 1) (cM (.int 0)))) (mM c))) (fR (fS 1) fV)) (jo c))))
  (gh (setO 5 (iD (fY (fR (fZ gX (fS 4) (cM (.int 1))) (fR (fS 1) fV)) (iF c))))
  (gh (j5 (gI (fZ (jS true) (fS 5) (cM .non))) (gW (kc (fR (cM (.str "paper")) (fR (fS 5) fV)))) gM)
  (gh (setO 6 (iD (fZ gX (fS 4) (cM (.int 0)))))
  (gh (setO 7 (iD (iT (ka [none,none,some 6] (mE (fR (fS 3) (fR (fS 2) fV))) (oO 2 (iX (jP 0) (iX (jP 1) oI))) (gI (fZ (gD true) (fS 1) (cM (.int 0)))) (mN c)))))
  (gh (setO 8 (iD (iT (jY (fR (fS 6) (fR (fS 1) fV)) (kX c)))))
  (gh (setO 9 (iD (iT (jY (fR (fS 7) (fR (fS 1) (fR (fS 8) (fR (fS 6) fV)))) (oj c)))))
  (gh (mH (iB (fZ gX (fS 9) (xk (λi=>.int (-i)) (cM (.int 1))))) (jA 10) (kM c))
  (gW (kc (fR (cM (.str "spot")) (fR (fY (fR (fS 6) (fR (iT (jY (fR (fS 9) (fR (fS 8) (fR (iT (uS (iT (lstM (fR (kc (fR (cM (.int 0)) (fR (cM (.int 1)) fV))) fV))) (fS 1))) fV))) (jQ c))) fV)) (qi c)) fV)))))))))))))
def iE(c:Cs):List T->M T:=kJ 3 11 (lq c)
def NZ(c:Cs):En->O:=(gh (AQ (iD (fY (fR (fS 0) (fR (fS 1) fV)) (kW c))))
  (gW (fY (fR (iT (wD c.Cutting "cuts" (fS 0) fV (jN c))) (fR (uy c.Cutting "dims" (fS 0) fV (jM c)) (fR (fS 1) fV))) (iE c))))
def j6(c:Cs):List T->M T:=kJ 2 2 (NZ c)
def uB(c:Cs):En->O:=(j5 (gI (fZ By (fZ iM (fS 4) (fS 5)) (cM (.int 0)))) (gW (cM (.bl false))) gM)
def uG(c:Cs):Pe->M T:=(fZ iM (fS 0) (fZ gX (fS 1) (fS 2)))
def uC(c:Cs):Pe->M T:=(jt Dg (fR (iT (ka [none,none,some 0] (mE (fR (fS 1) (fR (fS 2) fV))) (oO 2 (iX (jP 0) (iX (jP 1) oI))) (λ_=>.ok true) (uG c))) fV))
def uu(c:Cs):Pe->M T:=(fS 0)
def C2(c:Cs):En->O:=(gh (mH (mE (fR (fS 3) (fR (fS 2) fV))) (kr 2 (gY (jA 4) (gY (jA 5) kC))) (uB c))
  (gh (setO 6 (iD (iT (ka [none,some 3,some 0] (kY (fR (fZ iG (fS 1) (cM (.int 1))) fV)) (jP 0) (λ_=>.ok true) (uC c)))))
  (gh (j5 (gI (fZ (gD true) (nF (fS 6) (λ_=>.ok none) (kL (fS 1))) (iT (uS (iT (lstM (fR (cM (.int 0)) fV))) (fS 1))))) (gW (cM (.bl false))) gM)
  (gh (setO 7 (iD (iT (ka [none,none] (mE (fR (fS 3) (fR (fS 2) fV))) (oO 2 (iX (jP 0) (iX (jP 1) oI))) (gI (fZ (gD true) (fZ iM (fS 0) (fS 1)) (cM (.int 0)))) (uu c)))))
  (gW (Rr (fZ Ae (fZ gX (fS 6) (fS 1)) (cM (.int 0))) (xP (fZ (gD false) (fZ gX (fS 6) (fS 1)) (cM (.int 0))) (fZ (gD true) (fS 7) (iT (lstM fV))))))))))
def kh(c:Cs):List T->M T:=kJ 4 8 (C2 c)
def Ah(c:Cs):Pe->M T:=(fY (fR (fS 0) (fR (fZ gX (fS 1) (cM (.int 1))) fV)) (l9 c))
def C6(c:Cs):En->O:=(gh (setO 4 (iD (fY (fR (fS 0) (fR (fS 3) fV)) (j6 c))))
  (gh (j5 (oJ (jT (gI (nE "tuple" (fS 4)))) (gI (fZ (gD true) (jt jE (fR (fS 4) fV)) (cM (.int 2))))) (gW (cM .non)) gM)
  (gh (j5 (jW (gI (fZ (gD false) (fZ gX (fS 4) (cM (.int 0))) (cM (.str "spot")))) (gI (fY (fR (fZ gX (fS 4) (cM (.int 1))) (fR (fS 2) fV)) (iY c)))) (j5 (gI (fZ (gD false) (jt ja (fR (iT (ka [none,some 4] (iB (fS 1)) (jP 0) (λ_=>.ok true) (Ah c))) fV)) (fS 3))) (gW (cM (.bl true))) gM) gM)
  (gh (j5 (jW (gI (fZ (gD false) (fZ gX (fS 4) (cM (.int 0))) (cM (.str "paper")))) (jW (gI (fY (fR (fZ gX (fS 4) (cM (.int 1))) (fR (jt jE (fR (fS 1) fV)) fV)) (je c))) (gI (fY (fR (fS 1) (fR (fS 2) (fR (fS 3) (fR (fZ gX (fS 4) (cM (.int 1))) fV)))) (kh c))))) (gW (cM (.bl false))) gM)
  (gW (cM .non))))))
def jG(c:Cs):List T->M T:=kJ 4 5 (C6 c)
def xQ(c:Cs):En->O:=(gh (setO 3 (iD (fY (fR (fS 0) (fR (fS 1) fV)) (gR c))))
  (gh (setO 4 (iD (fZ iG (cM (.int 1)) (fY (fR (fS 3) (fR (cM (.int 0)) (fR (cM (.int 3)) fV))) (f9 c)))))
  (gh (setO 5 (iD (fY (fR (fS 3) (fR (cM (.int 1)) (fR (fZ iG (fS 2) (cM (.int 1))) fV))) (f9 c))))
  (gh (j5 (gI (fZ (gD false) (fS 4) (cM (.int 3)))) (setO 5 (iD (jt q9 (fR (fS 5) (fR (cM (.int 5)) fV))))) gM)
  (gW (kc (fR (fS 4) (fR (iT (jY (fR (fS 0) (fR (fZ iG (fS 1) (cM (.int 1))) (fR (fS 4) (fR (fS 5) fV)))) (mP c))) fV))))))))
def lb(c:Cs):List T->M T:=kJ 3 6 (xQ c)
def uI(c:Cs):En->O:=(yb 2 3 (fR (fS 0) (fR (fS 1) fV)) (j6 c) (gI (fZ (gD false) (fZ gX (fS 2) (cM (.int 0))) (cM (.str "paper")))) (fZ (gD false) (jt om (fR (fY (fR (fS 0) (fR (fS 1) fV)) (j6 c)) fV)) (fS 3)))
def iS(c:Cs):List T->M T:=kJ 2 4 (uI c)
def pQ(c:Cs):Pe->M T:=(fZ oR (fY (fR (fY (fR (fS 1) (fR (fZ iG (fS 2) (fS 3)) fV)) (gR c)) (fR (fS 0) (fR (cM (.int 3)) fV))) (f9 c)) (cM (.int 1)))
def qg(c:Cs):En->O:=(oy 5 (iD (jt ja (fR (iT (ka [none,some 0,some 1,some 6] (kY (fR (jt jE (fR (fS 3) fV)) fV)) (jP 0) (λ_=>.ok true) (pQ c))) fV))))
def qf(c:Cs):En->O:=(j5 (oJ (gI (fZ (jS false) (fY (fR (fS 4) (fR (fS 3) (fR (fS 2) (fR (fS 7) fV)))) (jG c)) (cM .non))) (jT (gI (fY (fR (fS 4) (fR (fS 7) fV)) (iS c))))) (gW (cM (.bl false))) gM)
def qC(c:Cs):Pe->M T:=(fY (fR (fS 0) (fR (fS 1) fV)) (l9 c))
def qc(c:Cs):En->O:=(gh (setO 8 (iD (fY (fR (fY (fR (fS 0) (fR (fZ iG (fS 1) (fS 6)) fV)) (gR c)) (fR (fS 2) fV)) (nv c))))
  (gh (setO 7 (iD (jt ja (fR (iT (ka [none,some 8] (iB (fS 3)) (jP 0) (λ_=>.ok true) (qC c))) fV))))
  (j5 (gI (fZ (He true) (fY (fR (fS 4) (fR (fS 3) (fR (fS 2) (fR (fS 7) fV)))) (jG c)) (cM (.bl true)))) (gW (cM (.bl false))) gM)))
def xH(c:Cs):En->O:=(gh (setO 4 (iD (fY (fR (fS 2) (fR (fS 3) fV)) (jK c))))
  (gh (mB 5 (nC (lstM (fR (Dk (kc (fR (cM (.int 0)) fV)) (jt jE (fR (fS 3) fV))) (fR (Dk (kc (fR (cM (.int 1)) fV)) (jt jE (fR (fS 3) fV))) fV)))))
  (gh (pG (kY (fR (cM (.int 10)) fV)) (jA 6) (qg c))
  (gh (Bz (xD (fS 5) (nF (fS 5) (λ_=>.ok none) (kL (cM (.int 1))))) (jA 7) (qf c))
  (gh (pG (kY (fR (cM (.int 3)) fV)) (jA 6) (qc c))
  (gW (cM (.bl true))))))))
def kZ(c:Cs):List T->M T:=kJ 4 9 (xH c)
def Bj(c:Cs):En->O:=(gh (IJ (fY (fR (fS 0) (fR (fS 1) (fR (cM (.int 7)) fV))) (lb c)) (kr 2 (gY (jA 2) (gY (jA 3) kC))))
  (j5 (jT (gI (fY (fR (fS 0) (fR (fZ iG (fS 1) (cM (.int 8))) (fR (fS 2) (fR (fS 3) fV)))) (kZ c)))) (gW (cM (.bl false))) gM))
def KS(c:Cs):En->O:=(gh (mH (iB (iT (lstM (fR (cM (.int 0)) (fR (cM (.int 20)) (fR (cM (.int 0)) fV)))))) (jA 1) (Bj c))
  (gW (cM (.bl true))))
def uW(c:Cs):List T->M T:=kJ 1 4 (KS c)
def xr(c:Cs):En->O:=(gh (setO 3 (iD (fY (fR (fS 0) (fR (fS 1) fV)) (gR c))))
  (gh (setO 4 (iD (fZ iG (cM (.int 1)) (fY (fR (fS 3) (fR (cM (.int 0)) (fR (cM (.int 3)) fV))) (f9 c)))))
  (gh (setO 5 (iD (fY (fR (fS 3) (fR (cM (.int 1)) (fR (fZ iG (fS 2) (cM (.int 1))) fV))) (f9 c))))
  (gh (j5 (gI (fZ (gD false) (fS 4) (cM (.int 3)))) (setO 5 (iD (jt q9 (fR (fS 5) (fR (cM (.int 5)) fV))))) gM)
  (gW (kc (fR (fS 4) (fR (iT (jY (fR (fS 0) (fR (fZ iG (fS 1) (cM (.int 1))) (fR (fS 4) (fR (fS 5) fV)))) (w9 c))) fV))))))))
def rg(c:Cs):List T->M T:=kJ 3 6 (xr c)
def nU(c:Cs):Pe->M T:=(fY (fR (fS 0) (fR (fZ gX (fS 1) (cM (.int 1))) fV)) (sN c))
def zH(c:Cs):En->O:=(gh (setO 4 (iD (fY (fR (fS 0) (fR (fS 3) fV)) (j6 c))))
  (gh (j5 (oJ (jT (gI (nE "tuple" (fS 4)))) (gI (fZ (gD true) (jt jE (fR (fS 4) fV)) (cM (.int 2))))) (gW (cM .non)) gM)
  (gh (j5 (jW (gI (fZ (gD false) (fZ gX (fS 4) (cM (.int 0))) (cM (.str "spot")))) (gI (fY (fR (fZ gX (fS 4) (cM (.int 1))) (fR (fS 2) fV)) (iY c)))) (j5 (gI (fZ (gD false) (jt ja (fR (iT (ka [none,some 4] (iB (fS 1)) (jP 0) (λ_=>.ok true) (nU c))) fV)) (fS 3))) (gW (cM (.bl true))) gM) gM)
  (gh (j5 (jW (gI (fZ (gD false) (fZ gX (fS 4) (cM (.int 0))) (cM (.str "paper")))) (jW (gI (fY (fR (fZ gX (fS 4) (cM (.int 1))) (fR (jt jE (fR (fS 1) fV)) fV)) (je c))) (gI (fY (fR (fS 1) (fR (fS 2) (fR (fS 3) (fR (fZ gX (fS 4) (cM (.int 1))) fV)))) (kh c))))) (gW (cM (.bl false))) gM)
  (gW (cM .non))))))
def pb(c:Cs):List T->M T:=kJ 4 5 (zH c)
variable {c:Cs}
def rz ns (k:Nat):∃v,gR c [.scr ns,.int k]=.ok (.int v)/\(v=0\/v∈ns):=by
 by_cases h:(k:Int)<ns.length
 .obtain⟨a,e,b⟩:=Cr ns k (by omega) h;exact⟨a,by simp[gR,nX,h,e],.inr b⟩
 .exact⟨0,by simp[gR,nX,h],.inl rfl⟩
def j4(h:i.natAbs<2 ^ 64):iM (.int i) (.int j)=.ok (.int (i*j)):=iw (tZ h)
def KF cell (k:Nat) b (z:0<b) (C:b<2 ^ 62) (I:k<=1000000):∃d,f9 c [.int cell,.int (k:Int),.int b]=.ok (.int d)/\0<=d/\d<b:=by
 have f:b≠0:=by omega
 have A:∀x:Int,0<=x.fmod b/\x.fmod b<b:=λx=>⟨cI x z,cJ x z⟩;have l:pP (.int 10) (.int 18)=.ok (.int 1000000000000000000):=by simp[pP,k9]
 by_cases h:(1000000000000000000:Int)<=cell
 .obtain⟨o,e,v,w,rfl⟩:=iV (m:=jA 4) (g:=setO 3 (iD (fZ oq (fS 3) (fS 2)))) (λ(i:Nat)=>T.int (i:Int)) (λ_ o=>∃v w,o=[some (.p (.int cell)),some (.p (.int k)),some (.p (.int b)),some (.p (.int v)),w,none])
   (List.range k) 0 [some (.p (.int cell)),some (.p (.int k)),some (.p (.int b)),some (.p (.int cell)),none,none] ⟨_,_,rfl⟩ (by rintro i a o K ⟨v,w,rfl⟩;have E:Builtin.divisionGoesByPylong v b=false:=Bn.noPy (n:=62) (by unfold Bn;omega) (by decide);exact⟨_,_,rfl,.inl (gy (by simp[lM f E];rfl) rfl),_,_,rfl⟩)
  refine⟨v.fmod b,gO rfl ?_,A v⟩;have s:BD (k:Int)=true:=l8 (by omega);refine jR (hU (by simp[l,h]) (fX (gy (by simp) rfl) (fX (mU (by simp[s,Kb]) e) (gC (by simp[qN f]))))) rfl
 .have u:∀x y:Int,0<y->0<=x.fmod y/\x.fmod y<y:=λx y B=>⟨cI x B,cJ x B⟩;have J:=u cell 1000000007 (by decide);have H:=u ((cell.fmod 1000000007+1009*k+17)*69621) 2147483647 (by decide);generalize q:((cell.fmod 1000000007+1009*k+17)*69621).fmod 2147483647=s1 at H;have F:=u (s1*s1+40503*k+5) 2147483629 (by decide);generalize r:(s1*s1+40503*k+5).fmod 2147483629=s2 at F;have D:Builtin.divisionGoesByPylong ((s2*48271).fmod 2147483647) 32=false:=Bn.noPy (n:=62) (by unfold Bn;decide) (by decide);refine⟨(((s2*48271).fmod 2147483647).fdiv 32).fmod b,gO rfl ?_,A _⟩;refine fX (gS (by simp[l,h]) rfl) (fX (gy (t:=.int s1) ?_ rfl) (fX (gy (t:=.int s2) ?_ rfl) (gC ?_)))
  .rw[<-q];simp[qN,j4 (i:=1009) (j:=k) (by decide),j4 (i:=cell.fmod 1000000007+1009*k+17) (j:=69621) (by omega)]
  .rw[<-r];simp[qN,j4 (i:=40503) (j:=k) (by decide),j4 (i:=s1) (j:=s1) (by omega)]
  .simp[qN,f,lM (j:=32) (by decide) D,j4 (i:=s2) (j:=48271) (by omega)]
def dr(c:Cs)(a k b:Int):Int:=match f9 c [.int a,.int k,.int b] with
 |.ok (.int d)=>d
 |_=>0
def i7 cell k b (g:0<b) (a:b<2 ^ 62) (h:0<=k) (j:k<=1000000):f9 c [.int cell,.int k,.int b]=.ok (.int (dr c cell k b))/\0<=dr c cell k b/\dr c cell k b<b:=by
 obtain⟨d,e,f,i⟩:=KF cell k.toNat b g a (by omega);rw[cC h]at e;have:dr c cell k b=d:=by unfold dr;rw[e]
 rw[this];exact⟨e,f,i⟩
def Ec(l:LI)(i:Int)(f:0<=i)(d:i<l.length):∃w,gX (.lst (l.map T.int)) (.int i)=.ok (.int w)/\w∈l:=by obtain⟨a,e,b⟩:=Cr l i f d;exact⟨a,by simp[rV,e],b⟩
def L7 i:(if i<0 then -i else i)=(i.natAbs:Int):=by split<;>omega
def nJ a b:iK c [.int a,.int b]=.ok (.int (Cu.G a b)):=by
 obtain⟨d,e,x,w,rfl,i⟩:=m9 (c:=gI (fZ (gD true) (fS 1) (cM (.int 0)))) (g:=gh (setO 2 (iD (fZ tP (fS 0) (fS 1)))) (gh (setO 0 (iD (fS 1))) (setO 1 (iD (fS 2)))))
  (λd=>∃x y w,d=[some (.p (.int x)),some (.p (.int y)),w]/\Cu.G x y=Cu.G a b) (λd=>match d with|_::some (.p (.int j))::_=>j.natAbs|_=>0)
  (λd=>∃x w,d=[some (.p (.int x)),some (.p (.int 0)),w]/\Cu.G x 0=Cu.G a b) (by
   rintro d ⟨x,y,w,rfl,h⟩;by_cases f:y=0
   .subst f;exact .inl ⟨by simp,_,_,rfl,h⟩
   .refine .inr ⟨by simp[f],_,.inl (fX (gy (t:=.int (x.fmod y)) (by simp[qN f]) rfl) (fX (gy (by simp) rfl) (gy (by simp) rfl))),⟨y,x.fmod y,_,rfl,?_⟩,?_⟩
    .rw[<-h];exact Cu.yY x y
    .exact Cu.yq x y f)
  (b.natAbs+1) [some (.p (.int a)),some (.p (.int b)),none] ⟨a,b,none,rfl,rfl⟩ (bI _)
 refine gO rfl (fX e (gC ?_));rw[Cu.Ct]at i;simp[L7,i]
def qX a b:jz c [.int a,.int b]=.ok (.int (Cu.G a b)):=by
 obtain⟨d,e,x,rfl,f,l⟩:=m9 (c:=gI (fZ Ae (fS 1) (cM (.int 0)))) (g:=J3 0 1 (fR (fS 1) (fR (fZ tP (fS 0) (fS 1)) fV)))
  (λd=>∃x y:Int,d=[some (.p (.int x)),some (.p (.int y))]/\0<=x/\0<=y/\Cu.G x y=Cu.G a b) (λd=>match d with|_::some (.p (.int j))::_=>j.natAbs|_=>0)
  (λd=>∃x:Int,d=[some (.p (.int x)),some (.p (.int 0))]/\0<=x/\Cu.G x 0=Cu.G a b) (by
   rintro d ⟨x,y,rfl,f,hy0,h⟩;by_cases i:y=0
   .subst i;exact .inl ⟨by simp,_,rfl,f,h⟩
   .have k:0<y:=by omega
    refine .inr ⟨by simp[k],_,.inl (by simp[qN i]),⟨y,x.fmod y,rfl,hy0,cI x k,?_⟩,?_⟩
    .rw[<-h];exact Cu.yY x y
    .exact Cu.yq x y i)
  ((b.natAbs:Int).natAbs+1) [some (.p (.int (a.natAbs:Int))),some (.p (.int (b.natAbs:Int)))] ⟨_,_,rfl,by omega,by omega,Cu.PR a b⟩ (bI _)
 refine gO rfl (fX (gy (by simp[L7]) rfl) (fX (gy (t:=.int (b.natAbs:Int)) (by simp[L7]) rfl) (fX e (gC ?_))));rw[Cu.Ct]at l;have:x=Cu.G a b:=by omega
 simp[this]
def rS{t g:Int}(a:g ∣ t)(b:g≠0):(t.fdiv g).natAbs<=t.natAbs:=by obtain⟨k,rfl⟩:=a;rw[cR k b,aX];exact dD _ (by omega)
noncomputable def Pw:T->Bool
 |.scr _=>false
 |.obj _ _=>false
 |.dic _=>false
 |_=>true
noncomputable def isInt:T->Bool
 |.int _=>true
 |_=>false
def Bp x (h:Pw x=true):jr c [x]=.ok (.bl (isInt x)):=by cases x<;>first|(simp[Pw]at h;done)|rfl
def Ll x (h:Pw x=true):Nx "tuple" x=.ok (.bl (r6 x)):=by cases x<;>first|(simp[Pw]at h;done)|rfl
noncomputable def pM(x:Int):Int:=if 0<x then 1 else if x<0 then -1 else 0
def EM x:-1<=pM x/\pM x<=1:=by unfold pM;split<;>(try split)<;>lia
def vE x:md c [.int x]=.ok (.int (pM x)):=by
 unfold pM;by_cases h:0<x
 .rw[aP h];exact gO rfl (jR (hU (by simp[h]) (gC (by simp))) rfl)
 .rw[aQ h];by_cases a:x<0
  .rw[aP a];exact gO rfl (fX (gS (by simp[h]) rfl) (jR (hU (by simp[a]) (gC (by simp))) rfl))
  .rw[aQ a];exact gO rfl (fX (gS (by simp[h]) rfl) (fX (gS (by simp[a]) rfl) (gC (by simp))))
def qM(bs:List Bool):zK [.lst (bs.map T.bl)]=.ok (.bl (bs.all id)):=by simp
def DL(bs:List Bool):CI [.lst (bs.map T.bl)]=.ok (.bl (bs.any id)):=by simp
noncomputable def qT(d:Nat):T->Bool
 |.tup ts=>decide (ts.length=d+1)&&ts.all isInt&&(match kq ts with|some ns=>(ns.take d).any (· != 0)|none=>false)
 |_=>false
theorem AM:∀ts,ts.all isInt=true->∃a:LI,ts=a.map T.int
 |[],_=>⟨[],rfl⟩
 |t::ts,h=>by
  rw[bU,bS]at h;obtain⟨a,e⟩:=AM ts h.2;cases t with
  |int i=>exact⟨i::a,by rw[e];rfl⟩
  |_=>simp[isInt]at h
def ES(d:Nat)(r:d<=10) x (l:Pw x=true) (k:∀ts,x=.tup ts->ts.length<1000/\∀t∈ts,Pw t=true):oB c [.int d,x]=.ok (.bl (qT d x)):=by
 have sz:1000<sizeLine:=by decide
 by_cases e:r6 x=true
 .cases x with
  |tup ts=>
   obtain⟨q,o⟩:=k ts rfl;by_cases g:ts.length=d+1
   .have i:ka [none] (iB (fS 1)) (jP 0) (λ_=>.ok true) (tz c) (vw (g9 2 [.int d,.tup ts]))=.ok ((ts.map isInt).map T.bl):=by rw[uV ts id (λt=>T.bl (isInt t)) (by simp) (by lia) λt e=>⟨_,rfl,rfl,by simp[tz,Bp t (o t e)]⟩];simp
    have j:(L3.oJ (L3.jT (gI (nE "tuple" (fS 1)))) (gI (fZ (gD true) (jt jE (fR (fS 1) fV)) (fZ iG (fS 0) (cM (.int 1)))))) (vw (g9 2 [.int d,.tup ts]))=.ok false:=by simp[g]
    by_cases f:ts.all isInt=true
    .obtain⟨b,rfl⟩:=AM ts f;have h:b.length=d+1:=by simpa using g
     have a:qT d (.tup (b.map T.int))=(b.take d).any (· != 0):=by simp[qT,h,f]
     rw[a];have p:ka [none] (iB (nF (fS 1) (λ_=>.ok none) (kL (fS 0)))) (jP 0) (λ_=>.ok true) (s9 c) (vw (g9 2 [.int d,.tup (b.map T.int)]))=.ok (((b.take d).map λn=>n != 0).map T.bl):=by rw[uV (b.take d) T.int (λn=>T.bl (n != 0)) (GU (by rw[c8];exact AC rfl rfl (by simp;lia))) (by simp;lia) λn g=>⟨_,rfl,rfl,by simp[s9,bne]⟩];rw[aH];rfl
     refine gO rfl (fX (gS j rfl) (fX (gS (wC (gz (oo i (qM _))) ?_) rfl) (gC (oo p ?_))))
     .rw[cw];simpa using f
     .rw[DL,cx];rfl
    .have a:qT d (.tup ts)=false:=by simp[qT,f]
     rw[a];refine gO rfl (fX (gS j rfl) (jR (hU (wC (gz (oo i (qM _))) ?_) (gC rfl)) rfl));rw[cw];simpa using f
   .have a:qT d (.tup ts)=false:=by simp[qT,g]
    rw[a];refine gO rfl (jR (hU ?_ (gC rfl)) rfl);have:¬(ts.length=(d:Int)+1):=by lia
    simp[this]
  |_=>simp[r6]at e
 .have a:qT d x=false:=by cases x<;>first|rfl|(simp[r6]at e;done)
  rw[a];refine gO rfl (jR (hU ?_ (gC rfl)) rfl);have m:r6 x=false:=by simpa using e
  have:=Ll x l;rw[m]at this;simp only[L3.oJ,L3.jT,gI,nE,fS,vw,g9,bH,b7,List.cons_append,b5,List.getElem?_cons_succ,List.getElem?_cons_zero,Sf,M.bind_ok,this];rfl
def N9(l:List α)(h:l≠[]):rN l (-1)=l.getLast?:=by obtain⟨m,a,rfl⟩:∃m a,l=m++[a]:=⟨l.dropLast,l.getLast h,(dE h).symm⟩;rw[L2.Hm];simp
def B2(d:Nat)(h:1<=d/\d<=3):mX c [.int d]=.ok (.bl true):=by
 have w:jr c [.int d]=.ok (.bl true):=rfl;have a:(1:Int)<=d:=by lia
 have b:(d:Int)<=3:=by lia
 exact gO rfl (gC (by simp[w,a,b]))
def AK(n:Nat) r (b:r.length=n) (e:n<=100) (h:∀x∈r,-1<=x/\x<=1):nu c [.int n,tI r]=.ok (.bl true):=by
 have sz:1000<sizeLine:=by decide
 have w:∀i:Int,jr c [.int i]=.ok (.bl true):=λi=>rfl;have d:ka [none] (iB (fS 1)) (jP 0) (λ_=>.ok true) (pN c) (vw (g9 2 [.int n,tI r]))=.ok ((r.map λ_=>true).map T.bl):=by rw[uV r T.int (λ_=>T.bl true) rfl (by lia) λx a=>⟨_,rfl,rfl,by simp[pN,w,(h x a).1,(h x a).2]⟩];simp
 refine gO rfl (fX (gS (by simp[tI,b]) rfl) (gC (oo d ?_)));rw[qM];simp
def RY n:(List.replicate n [T.int 0]).flatten=(List.replicate n (0:Int)).map T.int:=by
 induction n with
 |zero=>rfl
 |succ n ih=>rw[bW,bX,ih,bW];rfl
def GR(n:Nat)(d:n<=1000)(h:f ρ=.ok (.int (n:Int))):iT (uS (iT (lstM (fR (cM (.int 0)) fV))) f) ρ=.ok (.lst ((List.replicate n (0:Int)).map T.int)):=by
 have sz:1000<sizeLine:=by decide
 have hr:BD n=true:=l8 (by lia);have a:1<=sizeLine:=by decide
 have b:n<=sizeLine:=by lia
 simp[h,hr,a,b,RY]
end CL
namespace L3
open PySem L2
theorem oS{q:Type} enc (P:En->Prop) p t:∀(l:List q) (ρ:En),P ρ->
  (∀a∈l,∀ρ,P ρ->∃c,m (enc a) ρ=some c/\(p a=true->∃d,g c=.nx d/\P d)/\(p a=false->g c=.rt t))->
  (l.all p=true->∃ρ',iW m g (l.map enc) ρ=.nx ρ'/\P ρ')/\(l.all p=false->iW m g (l.map enc) ρ=.rt t)
 |[],ρ,h,_=>⟨λ_=>⟨ρ,rfl,h⟩,λh=>by simp at h⟩
 |a::l,ρ,h,st=>by
  obtain⟨c,f,s,r⟩:=st a (by simp) ρ h;rw[bH,iW,f];dsimp only;cases e:p a with
  |true=>obtain⟨d,o,j⟩:=s e;rw[o];have k:=oS enc P p t l d j λb i ρ n=>st b (by simp[i]) ρ n;rw[bU,e,dF];exact k
  |false=>rw[r e,bU,e,Bool.false_and];exact⟨λz=>(by cases z),λ_=>rfl⟩
end L3
namespace CL
open PySem L2 L3
variable {c:Cs}
def G3:Bn (n+1) 1:=by unfold Bn;rw[dg];have:=dG n;lia
def FC(s w:Int):Bool:=s==0||(w==0||pM w==s)
def A9 ns:kq (ns.map T.int)=some ns:=by simp
def Ju(a:LI):Dg [.lst (a.map T.int)]=.ok (.int a.sum):=by simp
end CL
namespace L3
open PySem L2
theorem rT{p:Type} enc (P:Nat->En->Prop) (R:T->Prop):∀(l:List p) (k:Nat) (ρ:En),P k ρ->
  (∀i a ρ,l[i]? = some a->P (k+i) ρ->∃c,m (enc a) ρ=some c/\((∃d,g c=.nx d/\P (k+i+1) d)\/∃t,g c=.rt t/\R t))->
  (∃ρ',iW m g (l.map enc) ρ=.nx ρ'/\P (k+l.length) ρ')\/∃t,iW m g (l.map enc) ρ=.rt t/\R t
 |[],k,ρ,h,_=>.inl ⟨ρ,rfl,h⟩
 |a::l,k,ρ,h,st=>by
  obtain⟨c,j,q⟩:=st 0 a ρ rfl h;rw[bH,iW,j];dsimp only;rcases q with⟨d,e,f⟩|⟨t,e,f⟩
  .rw[e];rw[ay,show k+(l.length+1)=k+1+l.length by lia];exact rT enc P R l (k+1) d f λi b ρ n o=>by have:=st (i+1) b ρ (by simpa using n) (by rw[show k+(i+1)=k+1+i by lia];exact o);rw[show k+1+i+1=k+(i+1)+1 by lia];exact this
  .rw[e];exact .inr ⟨t,rfl,f⟩
end L3
namespace CL
open PySem L2 L3
variable {c:Cs}
def JE(l:List α)(k:Nat) h:rN l (k:Int)=some l[k]:=by unfold rN xi;rw[aP (by lia),aP (by lia)];simp[h]
def DI(l:LI) k (h:k<l.length):rN l (k:Int)=some (l.getD k 0):=by rw[JE l k h,af,ag h];rfl
def getD_mem(l:LI) k (h:k<l.length):l.getD k 0∈l:=by rw[af,ag h];exact aU h
def ze(l:LI) k (h:k<l.length):gX (.lst (l.map T.int)) (.int (k:Int))=.ok (.int (l.getD k 0)):=by simp[rV,DI l k h]
def jV l (k:Nat) (h:k<l.length):gX (tI l) (.int (k:Int))=.ok (.int (l.getD k 0)):=by simp[tI,rV,DI l k h]
def QF x xs:gX (.lst (x::xs)) (.int 0)=.ok x:=by have h:=JE (x::xs) 0 (by simp);have a:rN (x::xs) 0=some x:=h;show (match rN (x::xs) 0 with|some t=>M.ok t|none=>.bad)=_;rw[a]
def QZ n (x:T):(List.replicate n [x]).flatten=List.replicate n x:=by
 induction n with
 |zero=>rfl
 |succ n ih=>rw[bW,bX,ih,bW];rfl
end CL
namespace CL
abbrev Vc:=Nat->Int
inductive Qs(P:Vc->Prop):Vc->Prop
 |of {x:Vc}:P x->Qs P x
 |zero:Qs P λ_=>0
 |lin {x y z:Vc} {s a b:Int}:Qs P x->Qs P y->s≠0->(∀i,s*z i=a*x i+b*y i)->Qs P z
def Qs.sub(h:∀x,P x->Qs P' x)(q:Qs P z):Qs P' z:=by
 induction q with
 |of p=>exact h _ p
 |zero=>exact .zero
 |lin _ _ s e i1 i2=>exact .lin i1 i2 s e
def Qs.mono(h:∀x,P x->P' x)(q:Qs P z):Qs P' z:=q.sub λx p=>.of (h x p)
def Qs.comb a b (c:Qs P x) (d:Qs P y):Qs P λi=>a*x i+b*y i:=.lin (s:=1) c d (by decide) λi=>by rw[dH]
def RW(P:Vc->Prop)(r:Vc):Vc->Prop:=λx=>P x\/x=r
def Qs.split(q:Qs (RW P r) z):∃s a y,s≠0/\Qs P y/\∀i,s*z i=y i+a*r i:=by
 induction q with
 |of p=>
  rename_i x;rcases p with p|rfl
  .exact⟨1,0,x,by decide,.of p,λi=>by rw[dH,dI,dJ]⟩
  .exact⟨1,1,λ_=>0,by decide,.zero,λi=>by rw[dM]⟩
 |zero=>exact⟨1,0,λ_=>0,by decide,.zero,λi=>by simp⟩
 |lin _ _ hs e i1 i2=>
  rename_i x y z s a b _ _;obtain⟨d,f,h,o,l,k⟩:=i1;obtain⟨c,g,j,u,m,n⟩:=i2;refine⟨s*(d*c),a*c*f+b*d*g,_,cU hs (cU o u),l.comb (a*c) (b*d) m,λi=>?_⟩;calc s*(d*c)*z i=d*c*(s*z i):=by ac_rfl
   _=d*c*(a*x i+b*y i):=by rw[e]
   _=a*c*(d*x i)+b*d*(c*y i):=by rw[dN];ac_rfl
   _=a*c*(h i+f*r i)+b*d*(j i+g*r i):=by rw[k,n]
   _=a*c*h i+b*d*j i+(a*c*f+b*d*g)*r i:=by simp only[dN,Int.add_mul];ac_rfl
def Nd(P:Vc->Prop)(a:List Nat):Prop:=∀z,Qs P z->(∀p∈a,z p=0)->∀i,z i=0
def Nd.nil:Nd (λ_=>False) []:=λz q _=>by
 induction q with
 |of p=>exact p.elim
 |zero=>exact λ_=>rfl
 |lin _ _ hs e i1 i2=>
  intro i;have:=e i;rw[i1 (λp a=>nomatch a) i,i2 (λp a=>nomatch a) i,dO,dO,dJ]at this;rcases dP.mp this with z|z
  .exact absurd z hs
  .exact z
end CL
namespace CL
open PySem L2 L3
variable {c:Cs}
noncomputable def vc(l:LI):Vc:=λi=>l.getD i 0
def qo l i (h:l.length<=i):vc l i=0:=by unfold vc;rw[af,List.getElem?_eq_none h];rfl
def nR l i h:vc l i=l[i]:=by unfold vc;rw[af,ag h];rfl
def Qp(a:List (Nat×LI)):Vc->Prop:=λx=>∃p∈a,x=vc p.2
def ji{a:Type}(l:List a) k v (h:l[k]? = some v):l.take (k+1)=l.take k++[v]:=by rw[List.take_succ,h];rfl
def tV(h:f ρ=.ok (.int i)):xk (λi=>.int (-i)) f ρ=.ok (.int (-i)):=by simp only[xk,h,M.bind_ok]
def vq:Bn n 0:=by unfold Bn;exact dG _
def Po(x:Vc):Prop:=∀g:Int,(∀i,g ∣ x i)->(∃i,x i≠0)->g.natAbs=1
def JY{a b z:Int}(h:a ∣ b*z)(d:Int.gcd a b=1):a ∣ z:=by
 have e:a.natAbs ∣ b.natAbs*z.natAbs:=by rw[<-aX];exact cN.mpr h
 exact cN.mp (Nat.Coprime.dvd_of_dvd_mul_left (show Nat.gcd _ _=1 from d) e)
def GT{a:LI}{g:Int}:(∀i,g ∣ vc a i)↔∀x∈a,g ∣ x:=by
 constructor
 .intro h x d;obtain⟨i,b,rfl⟩:=dQ.mp d;rw[<-nR a i b];exact h i
 .intro h i;by_cases b:i<a.length
  .rw[nR a i b];exact h _ (aU b)
  .rw[qo a i (by lia)];exact Int.dvd_zero _
def QC{a:LI}(h:∃i,vc a i≠0):∃x∈a,x≠0:=by
 obtain⟨i,b⟩:=h;by_cases d:i<a.length
 .exact⟨a[i],aU d,by rw[<-nR a i d];exact b⟩
 .exact absurd (qo a i (by lia)) b
def OZ{a:LI}{b:Int}(h:b≠0)(l:∀x∈a,b ∣ x)(o:∀e:Int,(∀x∈a,e ∣ x)->e ∣ b):(∀i,vc a i=b*vc (a.map λx=>x.fdiv b) i)/\Po (vc (a.map λx=>x.fdiv b)):=by
 have e:∀i,vc a i=b*vc (a.map λx=>x.fdiv b) i:=λi=>by
  by_cases d:i<a.length
  .rw[nR a i d,nR _ i (by simpa using d),dR];obtain⟨q,n⟩:=l _ (aU d);rw[n,cR q h]
  .rw[qo a i (by lia),qo _ i (by simp;lia),dO]
 refine⟨e,λg p r=>?_⟩;have:b*g ∣ b:=o _ (GT.mp λi=>by rw[e i];exact Int.mul_dvd_mul_left b (p i));obtain⟨k,f⟩:=this;rw[cP]at f;have:g*k=1:=by
  have m:b*1=b*(g*k):=by rw[bC];exact f
  exact (dS h m).symm
 have j:=congrArg Int.natAbs this;rw[aX]at j;exact dU j
def F8 N (K:N<=8000) row (U:row.length<1000) (v:∀x∈row,Bn N x):∃g u,0<g/\qq c [tI row]=.ok (tI u)/\u.length=row.length/\(∀i,vc row i=g*vc u i)/\Po (vc u)/\∀y∈u,Bn N y:=by
 have sz:1000<sizeLine:=by decide
 have main:=rT (m:=jA 2) (g:=yE c) T.int
  (λk D=>∃(a:Int) (A:Option W),D=[some (.p (tI row)),some (.p (.int a)),A]/\0<=a/\Bn N a/\(∀x∈row.take k,a ∣ x)/\∀e:Int,(∀x∈row.take k,e ∣ x)->e ∣ a)
  (λt=>t=tI row/\Po (vc row)) row 0 _ ⟨0,none,rfl,by decide,vq,(λx d=>by simp at d),λe _=>Int.dvd_zero e⟩ (by
   rintro i x D B ⟨a,A,rfl,P,n,f,o⟩;rw[aF]at f o ⊢;have s:=au B;refine⟨_,rfl,?_⟩;have C:setO 1 (iD (fY (fR (fS 1) (fR (fS 2) fV)) (iK c))) [some (.p (tI row)),some (.p (.int a)),some (.p (.int x))]=.nx [some (.p (tI row)),some (.p (.int (Cu.G a x))),some (.p (.int x))]:=gy (ig rfl rfl (nJ a x)) rfl;by_cases h:Cu.G a x=1
   .right;refine⟨_,fX C (hU (gz (fW rfl rfl (by rw[iA,h];rfl))) (gC rfl)),rfl,λg L _=>?_⟩;have r:=GT.mp L;have:g ∣ Cu.G a x:=Int.dvd_coe_gcd (o g λz j=>r z (dW j)) (r x s);rw[h]at this;obtain⟨k,F⟩:=this;have n:=congrArg Int.natAbs F;rw[aX]at n;exact dU n.symm
   .left;refine⟨_,fX C (gS (gz (fW rfl rfl (by rw[iA];simp[h]))) rfl),_,_,rfl,Cu.vF _ _,?_,λz j=>?_,λe w=>?_⟩
    .by_cases b:x=0
     .rw[b,Cu.Ct];exact b8 (by lia) n
     .have R:=Cu.MY a x b;have S:=Cu.vF a x;exact b8 (by lia) (v x s)
    .rw[ji row i x B]at j;rcases ai.mp j with q|q
     .exact Int.dvd_trans (Cu.ni a x) (f z q)
     .rw[aj.mp q];exact Cu.lD a x
    .rw[ji row i x B]at w;exact Int.dvd_coe_gcd (o e λz j=>w z (by simp[j])) (w x (by simp)))
 rcases main with⟨I,e,a,A,rfl,P,n,f,o⟩|⟨t,e,rfl,H⟩
 .rw[aF,dX]at f o;by_cases l:a=0
  .refine⟨1,row,by decide,gO rfl (fX (gy rfl rfl) (fX (i9 rfl e) (jR (hU (gz (fW rfl rfl (by rw[iA,l];rfl))) (gC rfl)) rfl))),rfl,λi=>by rw[dH],λg _ J=>?_,v⟩;obtain⟨x,d,b⟩:=QC J;have:=f x d;rw[l]at this;exact absurd (Int.zero_dvd.mp this) b
  .have E:=OZ l f o;refine⟨a,row.map (λx=>x.fdiv a),by lia,gO rfl (fX (gy rfl rfl) (fX (i9 rfl e) (fX (gS (gz (fW rfl rfl (by rw[iA];simp[l]))) rfl) (gC ?_)))),by simp,E.1,E.2,λy Q=>?_⟩
   .exact oM (jw (ku row T.int (λx=>T.int (x.fdiv a)) rfl (by lia) (λx d=>⟨_,rfl,rfl,fW rfl rfl (lM l (n.noPy K))⟩) (by rw[aH];rfl))) rfl
   .obtain⟨x,d,rfl⟩:=aC.mp Q;exact b8 (rS (f x d) l) (v x d)
 .exact⟨1,row,by decide,gO rfl (fX (gy rfl rfl) (jR (i9 rfl e) rfl)),rfl,λi=>by rw[dH],H,v⟩
def qO{g x:Int}(a:g≠0)(h:g*x=0):x=0:=by
 rcases dP.mp h with z|z
 .exact absurd z a
 .exact z
def LN o:pM o*o=(o.natAbs:Int):=by
 unfold pM;split
 .rw[dH];lia
 .split
  .rw[dY,dH];lia
  .rw[dI];lia
def lX(p:Nat×LI):T:=.tup [.int (p.1:Int),tI p.2]
noncomputable def sm:Nat->(Nat->Int)->Int
 |0,_=>0
 |n+1,f=>f 0+sm n λi=>f (i+1)
theorem kj:∀n f g,(∀i,i<n->f i=g i)->sm n f=sm n g
 |0,_,_,_=>rfl
 |n+1,f,g,h=>by rw[sm,sm,h 0 (by lia),kj n _ _ λi a=>h (i+1) (by lia)]
theorem zQ a b:∀n f g,sm n (λi=>a*f i+b*g i)=a*sm n f+b*sm n g
 |0,_,_=>by simp[sm]
 |n+1,f,g=>by rw[sm,sm,sm,zQ a b n (λi=>f (i+1)) λi=>g (i+1),dN,dN];lia
theorem vz a:∀n f,sm n (λi=>a*f i)=a*sm n f
 |0,_=>by simp[sm]
 |n+1,f=>by rw[sm,sm,vz a n λi=>f (i+1),dN]
theorem uY:∀n:Nat,sm n (λ_=>0)=0
 |0=>rfl
 |n+1=>by rw[sm,uY n];rfl
theorem zU:∀(n k:Nat) (f:Nat->Int),k<n->sm n (λi=>(if i=k then 1 else 0)*f i)=f k
 |0,k,f,h=>absurd h (c9 _)
 |n+1,0,f,h=>by rw[sm,aP rfl,dH,kj n _ (λ_=>0) (λi _=>by rw[aQ (by lia),dI]),uY,dJ]
 |n+1,k+1,f,h=>by rw[sm,aQ (by lia),dI,dM,kj n _ (λi=>(if i=k then 1 else 0)*f (i+1)) (λi _=>by simp),zU n k (λi=>f (i+1)) (by lia)]
def Qs.at0(h:∀x,P x->x k=0)(q:Qs P z):z k=0:=by
 induction q with
 |of p=>exact h _ p
 |zero=>rfl
 |lin _ _ hs e i1 i2=>exact qO hs (by rw[e k,i1,i2,dO,dO];rfl)
theorem v7:∀(m:Nat) (l:List Nat),l.Nodup->(∀x∈l,x<m)->l.length<=m
 |0,[],_,_=>aJ _
 |0,x::l,_,h=>absurd (h x (bu ..)) (c9 _)
 |m+1,l,hn,h=>by
  have b:=v7 m (l.erase m) (hn.erase m) λx d=>by have q:=(hn.mem_erase_iff).mp d;have:=h x q.2;have:=q.1;lia
  by_cases a:m∈l
  .rw[dZ a]at b;lia
  .rw[List.erase_of_not_mem a]at b;lia
def Ek(f:fa ρ=.ok (.lst a))(d:fb ρ=.ok (.lst b))(e:a.length+b.length<=sizeLine):xD fa fb ρ=.ok (a++b):=by simp only[xD,f,d,M.bind_ok];rw[aP e]
def L9(h:f ρ=.ok a):iT (lstM (fR f fV)) ρ=.ok (.lst [a]):=by
 have b:1<=sizeLine:=by decide
 simp only[iT,lstM,fR,fV,h,M.bind_ok,Ce,ay,cB,b,if_true]
def nW(h:f ρ=.ok a)(e:g ρ=.ok b):kc (fR f (fR g fV)) ρ=.ok (.tup [a,b]):=by
 have d:2<=sizeLine:=by decide
 simp only[kc,fR,fV,h,e,M.bind_ok,Ce,ay,cB,d,if_true]
def CQ(h:iT f ρ=.ok (.lst ts)):f ρ=.ok ts:=by
 unfold iT at h;cases d:f ρ with
 |ok us=>rw[d]at h;cases h;rfl
 |bad=>rw[d]at h;cases h
 |er a b=>rw[d]at h;cases h
def Kd a b (h:a.length+b.length<=sizeLine):iG (.tup a) (.tup b)=.ok (.tup (a++b)):=by unfold iG;exact aP h
def ND a b (h:a.length+b.length<=1000):iG (tI a) (tI b)=.ok (tI (a++b)):=by
 have sz:1000<sizeLine:=by decide
 unfold tI;rw[Kd _ _ (by simp;lia),aY]
def xI(pv:List (Nat×LI)) left (a:Nat) (f:Nat×LI->LI) (g:pv.length<=100) (d:∀p∈pv,iP c [tI p.2,tI left,.int (a:Int)]=.ok (tI (f p))) :
  kH c [.lst (pv.map lX),tI left,.int (a:Int)]=.ok ((pv.map (λp=>(p.1,f p))++[(a,left)]).map lX):=by
 have sz:1000<sizeLine:=by decide
 have b:ka [none,none,some 1,some 2] (iB (fS 0)) (oO 2 (iX (jP 0) (iX (jP 1) oI))) (λ_=>.ok true) (qY c) (vw (g9 3 [.lst (pv.map lX),tI left,.int a]))=.ok ((pv.map (λp=>(p.1,f p))).map lX):=ku pv lX (λp=>lX (p.1,f p)) rfl (by lia) (λp e=>⟨_,rfl,rfl,nW rfl (j3 rfl rfl rfl (d p e))⟩) (by rw[aH];rfl)
 refine pY rfl (zv ?_);rw[aY];exact Ek (jw b) (L9 (nW rfl rfl)) (by simp;lia)
def tF{e d:Type}[Inhabited d]{P:e->d->Prop}(l:List e)(h:∀a∈l,∃b,P a b):∃f:e->d,∀a∈l,P a (f a):=⟨λa=>Classical.epsilon λb=>P a b,λa g=>Classical.epsilon_spec (h a g)⟩
def AJ(a:LL)(z:a.length<=8)(w:∀r∈a,r.length<=100):nj c [.lst (a.map tI)]=.ok ((a.zipIdx.map λp=>p.1++(List.replicate a.length (0:Int)).set p.2 1).map tI):=by
 have sz:1000<sizeLine:=by decide
 obtain⟨d,e,l,j,f,rfl⟩:=iV (m:=kr 2 (gY (jA 2) (gY (jA 3) kC))) (g:=uq c) (λ(p:LI×Nat)=>T.tup [.int (p.2:Int),tI p.1])
  (λk d=>∃l j f:Option W,d=[some (.p (.lst (a.map tI))),some (.o (((a.zipIdx.take k).map λp=>p.1++(List.replicate a.length (0:Int)).set p.2 1).map tI)),l,j,f])
  a.zipIdx 0 _ ⟨none,none,none,rfl⟩ (by
   rintro i ⟨r,k⟩ d n ⟨l,j,f,rfl⟩;rw[aF];have b:=au n;have h:=List.mem_zipIdx b;have s:k<a.length:=by lia
   have u:=w r (by rw[h.2.2];exact aU _);have v:i<a.length:=by have:=(aa.mp n).1;simpa using this
   have q:xi ((List.replicate a.length (0:Int)).map T.int).length (k:Int)=some k:=by unfold xi;rw[aP (by lia),aP (by rw[aw,bP];lia)];simp
   refine⟨_,_,rfl,.inl (fX (l5 (CQ (GR a.length (by lia) (oM rfl (by simp)))) rfl) (fX (yX (m:=k) rfl rfl rfl rfl q rfl) (KO (t:=tI (r++(List.replicate a.length (0:Int)).set k 1)) rfl ?_ (by simp) (by simp;lia) rfl))),some (.p (.int (k:Int))),some (.p (tI r)),some (.o (((List.replicate a.length (0:Int)).map T.int).set k (.int 1))),?_⟩
   .refine fW (x:=tI r) (y:=tI ((List.replicate a.length (0:Int)).set k 1)) rfl (oM (t:=.lst (((List.replicate a.length (0:Int)).set k 1).map T.int)) ?_ rfl) (ND _ _ (by simp;lia));show (M.ok (T.lst (((List.replicate a.length (0:Int)).map T.int).set k (.int 1))))=_;rw[<-dC]
   .rw[ji _ i (r,k) n,aY,aY];rfl)
 rw[aF,dX]at e;refine pY rfl (fX (l5 (ts:=[]) (by simp) rfl) (fX (i9 ?_ e) rfl));rw[<-yh];rfl
end CL
namespace CL
noncomputable def jb(m:Nat)(A u:Vc):Int:=sm m λi=>A i*u i
def pA(h:∀i,s*z i=a*x i+b*y i):s*jb m A z=a*jb m A x+b*jb m A y:=by
 unfold jb;rw[<-vz,<-zQ];refine kj m _ _ λi _=>?_;have:=h i;calc s*(A i*z i)=A i*(s*z i):=by rw[Int.mul_left_comm]
  _=A i*(a*x i+b*y i):=by rw[this]
  _=a*(A i*x i)+b*(A i*y i):=by grind
structure ko(m:Nat)(As:List Vc)(u:Vc):Prop where
 nn:∀i,0<=u i
 out:∀i,m<=i->u i=0
 ne:∃i,u i≠0
 eq:∀A∈As,jb m A u=0
noncomputable def cs(m:Nat)(u:Vc):Nat:=(List.range m).countP λi=>decide (u i≠0)
def PZ(h:∀i,i<m->v i=0->u i=0):cs m u<=cs m v:=by unfold cs;refine d8 λi b q=>?_;have a:=aR.mp b;simp only[decide_eq_true_eq]at q ⊢;exact λz=>q (h i a z)
theorem yz{f:Type}{p q:f->Bool}:∀{l:List f},(∀a∈l,p a=true->q a=true)->(∃a∈l,q a=true/\p a=false)->l.countP p<l.countP q
 |[],_,⟨_,h,_⟩=>by cases h
 |a::l,h,⟨b,e,h1,h2⟩=>by
  rw[List.countP_cons,List.countP_cons];have mono:l.countP p<=l.countP q:=d8 λc d=>h c (by simp[d]);rcases aE.mp e with rfl|e
  .rw[h1,h2];simp;lia
  .have j:=yz (λc d=>h c (by simp[d])) ⟨b,e,h1,h2⟩;cases g:p a with
   |true=>rw[h a (by simp) g];simp;lia
   |false=>cases i:q a<;>simp<;>lia
def Bi(h:∀i,i<m->v i=0->u i=0)(b:k<m)(d:v k≠0)(e:u k=0):cs m u<cs m v:=by unfold cs;refine yz (λi c q=>?_) ⟨k,aR.mpr b,by simpa using d,by simpa using e⟩;have a:=aR.mp c;simp only[decide_eq_true_eq]at q ⊢;exact λz=>q (h i a z)
theorem Mp(u v:Vc):∀m,(∃j,j<m/\0<v j)->∃k,k<m/\0<v k/\∀i,i<m->0<v i->u k*v i<=u i*v k
 |0,⟨_,h,_⟩=>absurd h (c9 _)
 |m+1,⟨j,hj,hv⟩=>by
  by_cases d:∃j,j<m/\0<v j
  .obtain⟨k,z,l,g⟩:=Mp u v m d;by_cases c:0<v m
   .by_cases p:u k*v m<=u m*v k
    .refine⟨k,by lia,l,λi f b=>?_⟩;by_cases e:i=m
     .subst e;exact p
     .exact g i (by lia) b
    .refine⟨m,by lia,c,λi f b=>?_⟩;by_cases e:i=m
     .subst e;exact eg _
     .have a:=g i (by lia) b;have n:u m*v k<=u k*v m:=az (Int.not_le.mp p);have q:u m*v i*v k<=u i*v m*v k:=by
       have o:=aI n (az b);have x:=aI a (az c);have r:u m*v i*v k=u m*v k*v i:=by grind
       have s:u k*v m*v i=u k*v i*v m:=by grind
       have w:u i*v m*v k=u i*v k*v m:=by grind
       rw[r,w];rw[s]at o;exact eA o x
      exact Int.le_of_mul_le_mul_right q l
   .refine⟨k,by lia,l,λi f b=>?_⟩;by_cases e:i=m
    .subst e;exact absurd b c
    .exact g i (by lia) b
  .have y:j=m:=by
    rcases eB j m with h|h
    .exact absurd ⟨j,h,hv⟩ d
    .lia
   subst y;refine⟨j,by lia,hv,λi f b=>?_⟩;by_cases e:i=j
   .subst e;exact eg _
   .exact absurd ⟨i,by lia,b⟩ d
def wd(c:ko m As u)(g:∀i,m<=i->v i=0)(p:∀A∈As,jb m A v=0)(r:∃j,j<m/\0<v j)(vs:∀i,u i=0->v i=0) :
  ∃k,k<m/\0<v k/\0<u k/\(∀i,0<=v k*u i-u k*v i)/\(∀i,m<=i->v k*u i-u k*v i=0)/\(∀A∈As,jb m A (λi=>v k*u i-u k*v i)=0)/\cs m (λi=>v k*u i-u k*v i)<cs m u:=by
 obtain⟨k,h,f,q⟩:=Mp u v m r;have o:u k≠0:=λz=>by rw[vs k z]at f;exact absurd f (by decide)
 have d:0<u k:=by have:=c.nn k;lia
 refine⟨k,h,f,d,λi=>?_,λi e=>?_,λA l=>?_,?_⟩
 .by_cases e:i<m
  .by_cases n:0<v i
   .have:=q i e n;rw[cQ (v k)];lia
   .have a:0<=v k*u i:=aO (az f) (c.nn i);have b:u k*v i<=0:=eC (az d) (by lia);lia
  .rw[c.out i (by lia),g i (by lia)];simp
 .rw[c.out i e,g i e];simp
 .have:=pA (m:=m) (A:=A) (x:=u) (y:=v) (z:=λi=>v k*u i-u k*v i) (s:=1) (a:=v k) (b:=-u k) (λi=>by grind);rw[c.eq A l,p A l]at this;simpa using this
 .refine Bi (λi _ z=>?_) h o ?_
  .rw[z,vs i z];simp
  .rw[cQ];lia
theorem wK m:∀(f:List Vc) (T:List Nat),T.Nodup->(∀t∈T,t<m)->f.length<T.length->∃v:Vc,(∃i,v i≠0)/\(∀i,i∉T->v i=0)/\∀A∈f,jb m A v=0
 |[],T,nd,ht,hl=>by
  cases T with
  |nil=>cases hl
  |cons t T=>refine⟨λi=>if i=t then 1 else 0,⟨t,by simp⟩,λi g=>?_,λA l=>nomatch l⟩;have:i≠t:=λz=>g (by simp[z]);simp[this]
 |A::f,T,nd,ht,hl=>by
  cases T with
  |nil=>cases hl
  |cons t T=>
   obtain⟨E,o⟩:=bM.mp nd;have h:f.length<T.length:=by simp at hl;exact hl
   obtain⟨e,⟨j,u⟩,o1,D⟩:=wK m f T o (λx p=>ht x (by simp[p])) h;have q:j∈T:=aN λz=>u (o1 j z);have r:f.length<((t::T).erase j).length:=by have C:j∈t::T:=bx _ q;rw[dZ C,ay];exact h
   obtain⟨c,⟨k,F⟩,o2,w⟩:=wK m f ((t::T).erase j) (nd.erase j) (λx p=>ht x (eD p)) r;have n:c j=0:=o2 j (λz=>by rw[List.Nodup.mem_erase_iff nd]at z;exact z.1 rfl);by_cases l:jb m A c=0
   .exact⟨c,⟨k,F⟩,λi g=>o2 i (λz=>g (eD z)),λB d=>by
     rcases aE.mp d with rfl|d
     .exact l
     .exact w B d⟩
   .refine⟨λi=>jb m A c*e i-jb m A e*c i,⟨j,?_⟩,λi g=>?_,λB d=>?_⟩
    .dsimp only;rw[n];simp[l,u]
    .show jb m A c*e i-jb m A e*c i=0;rw[o1 i (λz=>g (by simp[z])),o2 i (λz=>g (eD z))];simp
    .have:=pA (m:=m) (A:=B) (x:=e) (y:=c) (z:=λi=>jb m A c*e i-jb m A e*c i) (s:=1) (a:=jb m A c) (b:=-jb m A e) (λi=>by grind);rcases aE.mp d with rfl|d
     .rw[dH]at this;rw[this];grind
     .rw[D B d,w B d]at this;simpa using this
def OB(m:Nat)(a:List Vc)(u:Vc):Prop:=ko m a u/\∀v,ko m a v->(∀i,u i=0->v i=0)->∀i,v i=0->u i=0
def HW(h:OB m As u):cs m u<=As.length+1:=by
 obtain⟨I,B⟩:=h;refine Nat.le_of_not_lt λC=>?_;let S:=(List.range m).filter λi=>decide (u i≠0);have o:S.length=cs m u:=by show (List.filter _ _).length=_;unfold cs;rw[eE]
 have q:∀i,i∈S↔i<m/\u i≠0:=λi=>by show i∈List.filter _ _↔_;simp
 have n:S.Nodup:=List.Pairwise.filter _ eF;cases c:S with
 |nil=>rw[c]at o;simp at o;lia
 |cons t T=>
  rw[c]at o n;simp only[ay]at o;obtain⟨g,p⟩:=bM.mp n;have e:∀i∈T,i<m/\u i≠0:=λi f=>(q i).mp (by rw[c];simp[f]);obtain⟨d,⟨j,H⟩,o0,r⟩:=wK m As T p (λi f=>(e i f).1) (by lia);obtain⟨v,vo,ve,vp,vt⟩:∃v:Vc,(∀i,i∉T->v i=0)/\(∀A∈As,jb m A v=0)/\(∃j,j<m/\0<v j)/\v t=0:=by
   have l:j∈T:=aN λz=>H (o0 j z);by_cases N:0<d j
   .exact⟨d,o0,r,⟨j,(e j l).1,N⟩,o0 t g⟩
   .refine⟨λi=>-d i,λi f=>by show -d i=0;rw[o0 i f];rfl,λA F=>?_,⟨j,(e j l).1,by show 0 < -d j;lia⟩,by show -d t=0;rw[o0 t g];rfl⟩;have:=pA (m:=m) (A:=A) (x:=d) (y:=d) (z:=λi=>-d i) (s:=1) (a:=-1) (b:=0) (λi=>by grind);rw[r A F]at this;simpa using this
  have K:t<m/\u t≠0:=(q t).mp (by rw[c];simp);obtain⟨k,P,U,X,L,J,E,Q⟩:=wd I (λi f=>vo i (λz=>by have:=(e i z).1;lia)) ve vp (λi z=>vo i (λw=>(e i w).2 z));have D:ko m As (λi=>v k*u i-u k*v i):=⟨L,J,⟨t,by rw[vt];simp;exact⟨by lia,K.2⟩⟩,E⟩;have R:=B _ D (λi z=>by rw[z,vo i (λw=>(e i w).2 z)];simp) k (by rw[cQ];lia);lia
def Eu{m:Nat}{a Bs:List Vc}{u:Vc}(h:ko m Bs u)(c:∀A∈a,A∈Bs):ko m a u:=⟨h.nn,h.out,h.ne,λA b=>h.eq A (c A b)⟩
inductive Cn(P:Vc->Prop):Vc->Prop
 |of {x:Vc}:P x->Cn P x
 |lin {x y z:Vc} {s a b:Int}:Cn P x->Cn P y->0<s->0<=a->0<=b->0<a+b->(∀i,s*z i=a*x i+b*y i)->Cn P z
def Cn.mono(h:∀x,P x->P' x)(q:Cn P z):Cn P' z:=by
 induction q with
 |of q=>exact .of (h _ q)
 |lin _ _ hs ha hb hab e i1 i2=>exact .lin i1 i2 hs ha hb hab e
def vm{a b p q:Int}(i:0<=a)(g:0<=b)(h:0<a*p+b*q):(0<a/\0<p)\/0<b/\0<q:=by
 have c:∀{u v:Int},0<=u->¬(0<u/\0<v)->u*v<=0:=λ{u v} hu hn=>by
  by_cases f:u=0
  .rw[f,dI];exact eg _
  .exact eC hu (by lia)
 by_cases d:0<a/\0<p
 .exact .inl d
 .by_cases e:0<b/\0<q
  .exact .inr e
  .have:=c i d;have:=c g e;lia
theorem Cn.parts(hP:∀x,P x->∀i,0<=x i){f:Vc->Int}(Y:∀x y z s a b,(∀i,s*z i=a*x i+b*y i)->s*f z=a*f x+b*f y)(h:Cn P z) :
  (∀i,0<=z i)/\(0<f z->∃g,P g/\(∀i,z i=0->g i=0)/\0<f g)/\(f z<0->∃g,P g/\(∀i,z i=0->g i=0)/\f g<0)/\
   (f z=0->(∃g,P g/\(∀i,z i=0->g i=0)/\f g=0)\/∃g l,P g/\P l/\(∀i,z i=0->g i=0)/\(∀i,z i=0->l i=0)/\0<f g/\f l<0):=by
 induction h with
 |of h=>rename_i x;exact⟨hP _ h,λq=>⟨x,h,λ_ z=>z,q⟩,λq=>⟨x,h,λ_ z=>z,q⟩,λq=>.inl ⟨x,h,λ_ z=>z,q⟩⟩
 |lin _ _ hs ha hb hab e i1 i2=>
  rename_i x y z s a b _ _;obtain⟨J,L,Q,Z⟩:=i1;obtain⟨K,R,N,z2⟩:=i2;have q:=Y _ _ _ _ _ _ e;have nz:∀i,0<=z i:=λi=>by
   have C:=aO ha (J i);have D:=aO hb (K i);have o:0<=s*z i:=by rw[e i];lia
   exact Int.le_of_mul_le_mul_left (a:=s) (by simpa using o) hs
  have m:0<a->∀i,z i=0->x i=0:=λS i A=>by
   have:=e i;rw[A,dO]at this;have C:=aO ha (J i);have D:=aO hb (K i);have o:a*x i=0:=by lia
   rcases dP.mp o with h|h
   .lia
   .exact h
  have n:0<b->∀i,z i=0->y i=0:=λU i A=>by
   have:=e i;rw[A,dO]at this;have C:=aO ha (J i);have D:=aO hb (K i);have o:b*y i=0:=by lia
   rcases dP.mp o with h|h
   .lia
   .exact h
  have up:∀{g w:Vc},(∀i,z i=0->w i=0)->(∀i,w i=0->g i=0)->∀i,z i=0->g i=0:=λC D i A=>D i (C i A);refine⟨nz,λh=>?_,λh=>?_,λh=>?_⟩
  .rcases vm ha hb (by rw[<-q];exact aW hs h) with⟨k,p⟩|⟨k,p⟩
   .obtain⟨g,c,d,j⟩:=L p;exact⟨g,c,up (m k) d,j⟩
   .obtain⟨g,c,d,j⟩:=R p;exact⟨g,c,up (n k) d,j⟩
  .have w:=eG hs h;rcases vm (p:=-f x) (q:=-f y) ha hb (by rw[cS,cS];lia) with⟨k,p⟩|⟨k,p⟩
   .obtain⟨g,c,d,j⟩:=Q (by lia);exact⟨g,c,up (m k) d,j⟩
   .obtain⟨g,c,d,j⟩:=N (by lia);exact⟨g,c,up (n k) d,j⟩
  .rw[h,dO]at q;by_cases B:0<a/\0<f x
   .have w:=aW B.1 B.2;rcases vm (p:=0) (q:=-f y) ha hb (by rw[cS];lia) with⟨-,p⟩|⟨k,p⟩
    .lia
    .obtain⟨g,c,d,j⟩:=L B.2;obtain⟨r,H,F,I⟩:=N (by lia);exact .inr ⟨g,r,c,H,up (m B.1) d,up (n k) F,j,I⟩
   .by_cases E:0<a/\f x<0
    .have w:=eG E.1 E.2;rcases vm (p:=0) (q:=f y) ha hb (by lia) with⟨-,p⟩|⟨k,p⟩
     .lia
     .obtain⟨g,c,d,j⟩:=R p;obtain⟨r,H,F,I⟩:=Q E.2;exact .inr ⟨g,r,c,H,up (n k) d,up (m E.1) F,j,I⟩
    .have v:∀{w:Vc},(∀i,z i=0->w i=0)->((∃g,P g/\(∀i,w i=0->g i=0)/\f g=0)\/∃g l,P g/\P l/\(∀i,w i=0->g i=0)/\(∀i,w i=0->l i=0)/\0<f g/\f l<0)->(∃g,P g/\(∀i,z i=0->g i=0)/\f g=0)\/∃g l,P g/\P l/\(∀i,z i=0->g i=0)/\(∀i,z i=0->l i=0)/\0<f g/\f l<0:=λu h=>by
      rcases h with⟨g,c,d,j⟩|⟨g,l,c,d,j,X,g5⟩
      .exact .inl ⟨g,c,up u d,j⟩
      .exact .inr ⟨g,l,c,d,up u j,up u X,g5⟩
     by_cases k:0<a
     .exact v (m k) (Z (by lia))
     .rw[show a=0 by lia,dI,dM]at q;exact v (n (by lia)) (z2 (by rcases dP.mp q.symm with w|w<;>lia))
def Fw(d:OB m As u)(b:ko m As z)(c:∀i,u i=0->z i=0):∃s a:Int,0<s/\0<a/\∀i,s*u i=a*z i:=by
 obtain⟨j,l⟩:=b.ne;have n:j<m:=by
  rcases eB j m with h|h
  .exact h
  .exact absurd (b.out j h) l
 have g:0<z j:=by have:=b.nn j;lia
 obtain⟨k,w,q,v,r,p,f,x⟩:=wd d.1 b.out b.eq ⟨j,n,g⟩ c;refine⟨z k,u k,q,v,λi=>?_⟩;refine aN λo=>?_;have e:ko m As (λi=>z k*u i-u k*z i):=⟨r,p,⟨i,by lia⟩,f⟩;have:=d.2 _ e (λi z=>by rw[z,c i z];simp) k (by rw[cQ];lia);lia
def Np m A:∀x y z s a b,(∀i,s*z i=a*x i+b*y i)->s*jb m A z=a*jb m A x+b*jb m A y:=λ_ _ _ _ _ _ h=>pA h
theorem MP(q:∀x,P x->ko m As x)(K:∀u,ko m As u->Cn P u)(h0:∀x,P x->jb m A x=0->P' x)
  (h1:∀x y,P x->P y->0<jb m A x->jb m A y<0->cs m (λi=>(-jb m A y)*x i+jb m A x*y i)<=As.length+2->P' (λi=>(-jb m A y)*x i+jb m A x*y i)) :
  ∀n u,cs m u<=n->ko m (A::As) u->Cn P' u:=by
 intro n;induction n with
 |zero=>
  intro u hn f;obtain⟨i,p⟩:=f.ne;have im:i<m:=by
   rcases eB i m with h|h
   .exact h
   .exact absurd (f.out i h) p
  have:=Bi (m:=m) (u:=λ_=>0) (v:=u) (λ_ _ _=>rfl) im p rfl;lia
 |succ n ih=>
  intro u hn f;by_cases F:OB m (A::As) u
  .have H:ko m As u:=Eu f λB d=>by simp[d]
   have hz:∃z,P' z/\ko m (A::As) z/\∀i,u i=0->z i=0:=by
    obtain⟨_,_,_,hp⟩:=(K u H).parts (λx hx=>(q x hx).nn) (Np m A);rcases hp (f.eq A (by simp)) with⟨g,o,w,E⟩|⟨g,c,o,w,E,Z,J,g6⟩
    .exact⟨g,h0 g o E,⟨(q g o).nn,(q g o).out,(q g o).ne,λB d=>by
      rcases aE.mp d with rfl|d
      .exact E
      .exact (q g o).eq B d⟩,w⟩
    .have r:=q g o;have D:=q c w;have I:∀B,jb m B (λi=>(-jb m A c)*g i+jb m A g*c i)=(-jb m A c)*jb m B g+jb m A g*jb m B c:=λB=>by have:=pA (m:=m) (A:=B) (x:=g) (y:=c) (z:=λi=>(-jb m A c)*g i+jb m A g*c i) (s:=1) (a:=-jb m A c) (b:=jb m A g) (λi=>by grind);simpa using this
     have S:0 < -jb m A c:=by lia
     obtain⟨j,R⟩:=r.ne;have N:ko m (A::As) (λi=>(-jb m A c)*g i+jb m A g*c i):=by
      refine⟨λi=>?_,λi p=>?_,⟨j,?_⟩,λB d=>?_⟩
      .have U:=aO (az S) (r.nn i);have x2:=aO (az J) (D.nn i);lia
      .rw[r.out i p,D.out i p];simp
      .have X:0<g j:=by have:=r.nn j;lia
       have U:=aW S X;have x2:=aO (az J) (D.nn j);lia
      .rw[I B];rcases aE.mp d with rfl|d
       .grind
       .rw[r.eq B d,D.eq B d];simp
     have sz:∀i,u i=0->(-jb m A c)*g i+jb m A g*c i=0:=λi p=>by rw[E i p,Z i p];simp
     refine⟨_,h1 g c o w J g6 ?_,N,sz⟩;have f1:=HW F;have f2:cs m (λi=>(-jb m A c)*g i+jb m A g*c i)<=cs m u:=PZ λi _ z=>sz i z;simp only[ay]at f1;lia
   obtain⟨z,Q,N,sz⟩:=hz;obtain⟨s,a,hs,ha,e⟩:=Fw F N sz;exact .lin (.of Q) (.of Q) hs (az ha) (eg 0) (by lia) λi=>by rw[e i];simp
  .obtain⟨v,l,C,k,vk,uk⟩:∃v,ko m (A::As) v/\(∀i,u i=0->v i=0)/\∃k,v k=0/\u k≠0:=by refine aN λL=>F ⟨f,λv l C i vi=>aN λui=>L ⟨v,l,C,i,vi,ui⟩⟩
   have km:k<m:=by
    rcases eB k m with h|h
    .exact h
    .exact absurd (f.out k h) uk
   obtain⟨j,R⟩:=l.ne;have jm:j<m:=by
    rcases eB j m with h|h
    .exact h
    .exact absurd (l.out j h) R
   have jp:0<v j:=by have:=l.nn j;lia
   obtain⟨t,ht,a1,a2,a3,a4,a5,a6⟩:=wd f l.out l.eq ⟨j,jm,jp⟩ C;have kp:0<u k:=by have:=f.nn k;lia
   have Y:ko m (A::As) (λi=>v t*u i-u t*v i):=⟨a3,a4,⟨k,by rw[vk];simp;exact⟨by lia,uk⟩⟩,a5⟩;have l1:=Bi (m:=m) (u:=v) (v:=u) (λi _ z=>C i z) km uk vk;exact .lin (ih _ (by lia) Y) (ih v (by lia) l) a1 (by decide:(0:Int)<=1) (az a2) (by lia) λi=>by grind
end CL
namespace CL
open PySem L2 L3
variable {c:Cs}
def qv(p:Int×Int):Rat:=(p.1:Rat) / (p.2:Rat)
structure GF(A B:Nat)(p:Int×Int):Prop where
 pos:0<p.2
 one:Cu.G p.1 p.2=1
 b1:Bn A p.1
 b2:Bn B p.2
def GF.mono(h:GF A B p)(a:A<=A')(b:B<=B'):GF A' B' p:=⟨h.pos,h.one,h.b1.mono a,h.b2.mono b⟩
def mR{i:Int}(h:0<i):(0:Rat)<(i:Rat):=by have:=(eI).mpr h;simpa using this
def Pz{i:Int}(h:i≠0):(i:Rat)≠0:=λz=>by
 have e:i=(0:Rat):=by simpa using z
 exact h (Rat.intCast_inj.mp e)
def Jk a:Cu.G a 1=1:=by simp[Cu.G]
@[simp] theorem mz p:gX (fr p) (.int 0)=.ok (.int p.1):=rfl
@[simp] theorem kS p:gX (fr p) (.int 1)=.ok (.int p.2):=rfl
def wQ A B t b (d:b≠0) (n:Bn A t) (k:Bn B b) (l:B<=8000):∃p,oF c [.int t,.int b]=.ok (fr p)/\GF A B p/\qv p=(t:Rat) / (b:Rat):=by
 have q:=Cu.Jr t b d;have m:=Cu.MY t b d;have a:∀x:Int,Builtin.divisionGoesByPylong x (if b<0 then -Cu.G t b else Cu.G t b)=false:=λx=>by refine Bn.noPy ?_ l;unfold Bn at *;refine b8 ?_ k;split<;>lia
 have f:(if b<0 then -Cu.G t b else Cu.G t b)≠0:=by split<;>lia
 have i:(if b<0 then -Cu.G t b else Cu.G t b) ∣ t:=by split<;>first|exact Int.neg_dvd.mpr (Cu.ni t b)|exact Cu.ni t b
 have j:(if b<0 then -Cu.G t b else Cu.G t b) ∣ b:=by split<;>first|exact Int.neg_dvd.mpr (Cu.lD t b)|exact Cu.lD t b
 have g:=Cu.AN t b d;refine⟨(t.fdiv (if b<0 then -Cu.G t b else Cu.G t b),b.fdiv (if b<0 then -Cu.G t b else Cu.G t b)),gO rfl (fX (gS (gz (fW rfl rfl (by rw[iA];simp[d]))) rfl) (fX (gy (ig rfl rfl (nJ t b)) rfl) (fX (ρ':=[some (.p (.int t)),some (.p (.int b)),some (.p (.int (if b<0 then -Cu.G t b else Cu.G t b)))]) ?_ (gC (nW (fW rfl rfl (lM f (a t))) (fW rfl rfl (lM f (a b)))))))),⟨g.pos,g.one,b8 (rS i f) n,b8 (rS j f) k⟩,?_⟩
 .by_cases h:b<0
  .exact hU (gz (fW rfl rfl (by rw[oH];simp[h]))) (gy (tV rfl) (by simp[h]))
  .exact gS (gz (fW rfl rfl (by rw[oH];simp[h]))) (by simp[h])
 .have e:=g.is;generalize t.fdiv (if b<0 then -Cu.G t b else Cu.G t b)=x at *;generalize v:b.fdiv (if b<0 then -Cu.G t b else Cu.G t b)=y at *;have o:=g.pos;have r:(x:Rat)*(b:Rat)=(t:Rat)*(y:Rat):=by rw[<-eJ,<-eJ,e]
  have s:=Pz d;have u:(y:Rat)≠0:=Pz (by lia);show (x:Rat) / (y:Rat)=_;grind
def Fm(a:GF A B p)(hr:GF A' B' r)(b:B+B'<=8000)(i:A<=20000)(f:A'<=20000):∃s,sR c [fr p,fr r]=.ok (fr s)/\GF (max (A+B') (A'+B)+1) (B+B') s/\qv s=qv p-qv r:=by have d:=a.pos;have h:=hr.pos;obtain⟨s,e,g,q⟩:=wQ (max (A+B') (A'+B)+1) (B+B') (p.1*r.2-r.1*p.2) (p.2*r.2) (cU (by lia) (by lia)) ((a.b1.mul hr.b2).sub (hr.b1.mul a.b2)) (a.b2.mul hr.b2) b;refine⟨s,gO rfl (gC (ig (fW (fW (fW rfl rfl (mz p)) (fW rfl rfl (kS r)) (iw (a.b1.ok hr.b2 (by lia) (by lia)))) (fW (fW rfl rfl (mz r)) (fW rfl rfl (kS p)) (iw (hr.b1.ok a.b2 (by lia) (by lia)))) (nt _ _)) (fW (fW rfl rfl (kS p)) (fW rfl rfl (kS r)) (iw (a.b2.ok hr.b2 (by lia) (by lia)))) e)),g,?_⟩;rw[q];have j:(p.2:Rat)≠0:=Pz (by lia);have k:(r.2:Rat)≠0:=Pz (by lia);unfold qv;simp only[Rat.intCast_sub,eJ];grind
def BM(a:Bn N k)(hr:GF A B r)(b:B<=8000)(h:N<=20000)(f:A<=20000):∃s,sD c [fr (k,1),fr r]=.ok (fr s)/\GF (N+A) B s/\qv s=(k:Rat)*qv r:=by have d:=hr.pos;obtain⟨s,e,g,q⟩:=wQ (N+A) B (k*r.1) (1*r.2) (by lia) (a.mul hr.b1) (by rw[dH];exact hr.b2) b;refine⟨s,gO rfl (gC (ig (fW (fW rfl rfl (mz (k,1))) (fW rfl rfl (mz r)) (iw (a.ok hr.b1 (by lia) (by lia)))) (fW (fW rfl rfl (kS (k,1))) (fW rfl rfl (kS r)) (iw (tZ (show (1:Int).natAbs<2 ^ 64 by decide)))) e)),g,?_⟩;rw[q,dH];unfold qv;simp only[eJ];grind
def yC(b:k≠0)(a:Bn N k)(hr:GF A B r)(d:B+N<=8000)(h:A<=20000):∃s,qd c [fr r,fr (k,1)]=.ok (fr s)/\GF A (B+N) s/\qv s=qv r / (k:Rat):=by have f:=hr.pos;obtain⟨s,e,g,q⟩:=wQ A (B+N) (r.1*1) (r.2*k) (cU (by lia) b) (by rw[bC];exact hr.b1) (hr.b2.mul a) d;refine⟨s,gO rfl (fX (gS (gz (fW (fW rfl rfl (mz (k,1))) rfl (by rw[iA];simp[b]))) rfl) (gC (ig (fW (fW rfl rfl (mz r)) (fW rfl rfl (kS (k,1))) (iw (rH (show (1:Int).natAbs<2 ^ 64 by decide)))) (fW (fW rfl rfl (kS r)) (fW rfl rfl (mz (k,1))) (iw (hr.b2.ok a (by lia) (by lia)))) e))),g,?_⟩;rw[q,bC];unfold qv;simp only[eJ];grind
def Dj(g:0<p.2)(hr:0<r.2):qv p<qv r↔p.1*r.2<r.1*p.2:=by
 have a:=mR g;have b:=mR hr;have i:(p.2:Rat)≠0:=Pz (by lia);have j:(r.2:Rat)≠0:=Pz (by lia);have e:qv p*(p.2*r.2)=((p.1*r.2:Int):Rat):=by unfold qv;rw[eJ];grind
 have f:qv r*((p.2:Rat)*(r.2:Rat))=((r.1*p.2:Int):Rat):=by unfold qv;rw[eJ];grind
 have d:=eK a b;rw[<-eI,<-e,<-f];exact⟨λh=>Rat.mul_lt_mul_of_pos_right h d,λh=>Rat.lt_of_mul_lt_mul_right h (eL d)⟩
def wz(d:0<p.2)(hr:0<r.2)(b:IntMulOk p.1 r.2)(a:IntMulOk r.1 p.2):j8 c [fr p,fr r]=.ok (.bl (decide (qv p<qv r))):=by
 refine gO rfl (gC (fW (fW (fW rfl rfl (mz p)) (fW rfl rfl (kS r)) (iw b)) (fW (fW rfl rfl (mz r)) (fW rfl rfl (kS p)) (iw a)) ?_));rw[oH];have:=Dj d hr;by_cases h:p.1*r.2<r.1*p.2
 .rw[aB h,aB (this.mpr h)]
 .rw[aA h,aA (λz=>h (this.mp z))]
noncomputable def nb(x:Int):Nat:=x.natAbs.log2+1
def Bm x:Bn (nb x) x:=Nat.lt_log2_self
def xZ(h:Bn E x)(b:1<=E):nb x<=E:=by
 unfold nb Bn at *;by_cases a:x.natAbs=0
 .rw[a];simp;exact b
 .have:=(cY a).mpr h;lia
noncomputable def wt(p:Int×Int):Nat:=max (nb p.1) (nb p.2)
noncomputable def wts(s:List (Int×Int)):Nat:=(s.map wt).sum
structure Fq(p:Int×Int):Prop where
 pos:0<p.2
 one:Cu.G p.1 p.2=1
def Fq.gf(h:Fq p):GF (wt p) (wt p) p:=⟨h.pos,h.one,(Bm _).mono (dc _ _),(Bm _).mono (de _ _)⟩
def GF.fq(h:GF A B p):Fq p:=⟨h.pos,h.one⟩
def GF.wt(h:GF A B p)(b:A<=E)(d:B<=E)(a:1<=E):wt p<=E:=Nat.max_le.mpr ⟨xZ (h.b1.mono b) a,xZ (h.b2.mono d) a⟩
def FJ(p:Int×(Int×Int)):T:=.tup [.int p.1,fr p.2]
theorem yt x0 x1 N (z:N<=8000):∀(a:List (Int×(Int×Int))) (left:Int×Int) (B j:Nat) (d b:Option W),j+a.length<=100->(∀p∈a,Bn N p.1/\Fq p.2)->B+wts (a.map Prod.snd)<=8000->GF (N+B+j) B left->
  ∃s h k,iW (kr 2 (gY (jA 3) (gY (jA 4) kC))) (qw c) (a.map FJ) [x0,x1,some (.p (fr left)),d,b]=.nx [x0,x1,some (.p (fr s)),h,k]/\GF (N+(B+wts (a.map Prod.snd))+(j+a.length)) (B+wts (a.map Prod.snd)) s/\
   qv s=qv left-(a.map λp=>(p.1:Rat)*qv p.2).sum
 |[],left,B,j,d,b,_,_,_,hg=>⟨left,d,b,rfl,by simpa[wts] using hg,by simp;grind⟩
 |p::a,left,B,j,d,b,hj,hp,hB,hg=>by
  obtain⟨A,y⟩:=hp p (by simp);have i:B+wt p.2+wts (a.map Prod.snd)<=8000:=by simp[wts]at hB ⊢;lia
  obtain⟨t,f,u,m⟩:=BM A y.gf (by lia) (by lia) (by lia);simp at hj;obtain⟨l,x,w,v⟩:=Fm hg u (by lia) (by lia) (by lia);have C:GF (N+(B+wt p.2)+(j+1)) (B+wt p.2) l:=w.mono (by lia) (by lia);obtain⟨s,h,k,e,g,q⟩:=yt x0 x1 N z a l (B+wt p.2) (j+1) (some (.p (.int p.1))) (some (.p (fr p.2))) (by lia) (λr hr=>hp r (by simp[hr])) i C;refine⟨s,h,k,?_,?_,?_⟩
  .rw[bH,iW];have o:(kr 2 (gY (jA 3) (gY (jA 4) kC))) (FJ p) [x0,x1,some (.p (fr left)),d,b]=some [x0,x1,some (.p (fr left)),some (.p (.int p.1)),some (.p (fr p.2))]:=rfl;rw[o];have n:qw c [x0,x1,some (.p (fr left)),some (.p (.int p.1)),some (.p (fr p.2))]=.nx [x0,x1,some (.p (fr l)),some (.p (.int p.1)),some (.p (fr p.2))]:=gy (ig rfl (ig (nW rfl rfl) rfl f) x) rfl;dsimp only;rw[n];exact e
  .have f:B+wt p.2+wts (a.map Prod.snd)=B+wts ((p::a).map Prod.snd):=by simp[wts];lia
   rw[f]at g;exact g.mono (by simp;lia) (aJ _)
  .rw[q,v,m];simp only[bH,eM];grind
noncomputable def Gh(a:LI)(s:List (Int×Int)):Rat:=((a.zip s).map λp=>(p.1:Rat)*qv p.2).sum
def ur N (l:N<=8000) (o:1<=N) row s (a:s.length<row.length) (n:s.length<=10) (d:∀x∈row,Bn N x) (j:∀p∈s,Fq p) (h:1+wts s<=8000) :
  ∃r,ke c [tI row,.lst (s.map fr)]=.ok (fr r)/\GF (N+wts s+20) (1+wts s) r/\qv r=(vc row s.length:Rat)-Gh row s:=by
 have i:=jV row s.length a;have b:(row.zip s).map Prod.snd=s:=by rw[List.map_snd_zip];lia
 have k:=d _ (getD_mem row s.length a);obtain⟨r,u,m,e,g,q⟩:=yt (some (.p (tI row))) (some (.p (.lst (s.map fr)))) N l (row.zip s) (vc row s.length,1) 1 0 none none (by simp;lia) (λp f=>⟨d _ (aV f).1,j _ (aV f).2⟩) (by rw[b];exact h) ⟨show 0<1 by decide,Jk _,k.mono (by lia),show Bn 1 1 by unfold Bn;decide⟩;rw[b]at g;refine⟨r,gO rfl (fX (gy (nW (fW rfl (oM (r:=.ok (.int s.length)) rfl (by simp)) ?_) rfl) rfl) (fX (i9 (oU rfl rfl rfl rfl) e) (gC rfl))),g.mono (by simp;lia) (aJ _),?_⟩
 .exact i
 .rw[q];unfold Gh;have:qv (vc row s.length,1)=(vc row s.length):=by unfold qv;simp;grind
  rw[this]
def oT:Option (Int×Int)->T
 |none=>.non
 |some p=>fr p
def n8(lo:Option (Int×Int))(q:Rat):Prop:=∀p,lo=some p->qv p<q
def ot(a:Option (Int×Int))(q:Rat):Prop:=∀r,a=some r->q<qv r
noncomputable def JS:Option (Int×Int)->Int
 |some r=>if r.1<=0 then -((-r.1).fdiv r.2)-1 else 0
 |none=>0
noncomputable def wb(b a:Option (Int×Int)):Int:=match b with
 |some p=>if 0<=p.1 then p.1.fdiv p.2+1 else JS a
 |none=>JS a
instance (lo:Option (Int×Int)) (q:Rat):Decidable (n8 lo q):=match lo with
 |none=>.isTrue λ_ h=>nomatch h
 |some p=>if h:qv p<q then .isTrue λr e=>by cases e;exact h else .isFalse λz=>h (z p rfl)
instance (hi:Option (Int×Int)) (q:Rat):Decidable (ot hi q):=match hi with
 |none=>.isTrue λ_ h=>nomatch h
 |some p=>if h:q<qv p then .isTrue λr e=>by cases e;exact h else .isFalse λz=>h (z p rfl)
def Gm(a b:Option (Int×Int)):T:=if n8 a (wb a b:Rat)/\ot b (wb a b:Rat) then .int (wb a b) else .non
def Oe(E:Nat)(o:Option (Int×Int)):Prop:=∀p,o=some p->0<p.2/\Bn E p.1/\Bn E p.2
def EJ i:qv (i,1)=(i:Rat):=by unfold qv;simp;grind
def qU(a b:Int)(d:0<b):a.fdiv b*b<=a/\a<(a.fdiv b+1)*b:=by
 have e:=Int.fmod_def a b;have h:=cI a d;have i:=cJ a d;have f:b*a.fdiv b=a.fdiv b*b:=cQ _ _;constructor
 .omega
 .have g:(a.fdiv b+1)*b=a.fdiv b*b+b:=by grind
  omega
def zu(a b:Int)(d:0<b):(a.fdiv b).natAbs<=a.natAbs:=by
 obtain⟨j,n⟩:=qU a b d;rcases Int.le_total 0 a with h|h
 .have e:=eN h (az d);have f:a.fdiv b<=a.fdiv b*b:=by have:=eO (show 1<=b by omega) e;omega
  omega
 .have e:a.fdiv b+1<=1:=by
   refine eP.mp λz=>?_;have f:1<=a.fdiv b:=by omega
   have:=aI f (az d);omega
  by_cases i:a=0
  .subst i;simp
  .have l:a<=a.fdiv b:=by
    refine eP.mp λz=>?_;have g:a.fdiv b+1<=a:=by omega
    have k:=aI g (az d);have m:a*b<=a*1:=Int.mul_le_mul_of_nonpos_left h (by omega);omega
   omega
def Mg(f:Oe E lo)(g:Oe E hi):(wb lo hi).natAbs<2 ^ E+1:=by
 have d:(JS hi).natAbs<2 ^ E+1:=by
  cases e:hi with
  |none=>simp[JS]
  |some r=>
   obtain⟨a,b,_⟩:=g r e;show (if r.1<=0 then -((-r.1).fdiv r.2)-1 else 0).natAbs<2 ^ E+1;split
   .have:=zu (-r.1) r.2 a;unfold Bn at b;rw[du]at this;omega
   .simp
 unfold wb;cases e:lo with
 |none=>exact d
 |some p=>
  obtain⟨a,b,_⟩:=f p e;dsimp only;split
  .have:=zu p.1 p.2 a;unfold Bn at b;omega
  .exact d
def pF neg o:jS neg (oT o) .non=.ok (.bl (if neg then o.isSome else o.isNone)):=by cases o<;>cases neg<;>rfl
def LS(a:0<p.2/\Bn E p.1/\Bn E p.2)(d:E<=8000)(b:Bn (E+1) i):j8 c [fr p,fr (i,1)]=.ok (.bl (decide (qv p<(i:Rat)))):=by have:=wz (c:=c) (r:=(i,1)) a.1 (by decide:(0:Int)<1) (a.2.1.ok (show Bn 1 1 by unfold Bn;decide) (by omega) (by omega)) (b.ok a.2.2 (by omega) (by omega));rw[EJ]at this;exact this
def KL(a:0<p.2/\Bn E p.1/\Bn E p.2)(d:E<=8000)(b:Bn (E+1) i):j8 c [fr (i,1),fr p]=.ok (.bl (decide ((i:Rat)<qv p))):=by have:=wz (c:=c) (p:=(i,1)) (by decide:(0:Int)<1) a.1 (b.ok a.2.2 (by omega) (by omega)) (a.2.1.ok (show Bn 1 1 by unfold Bn;decide) (by omega) (by omega));rw[EJ]at this;exact this
def pU(h:fc ρ=.ok false):jW fc fd ρ=.ok false:=by simp only[L3.jW,h,M.bind_ok];rfl
def lx(h:fc ρ=.ok true)(a:fd ρ=.ok b):jW fc fd ρ=.ok b:=by simp only[L3.jW,h,a,M.bind_ok];rfl
def GW(h:fc ρ=.ok b):jT fc ρ=.ok (!b):=by simp only[L3.jT,h,M.bind_ok]
def JH(a:0<p.2/\Bn E p.1/\Bn E p.2)(b:E<=8000):kz c [fr p]=.ok (.int (p.1.fdiv p.2)):=by have:=a.1;exact gO rfl (gC (fW (fW rfl rfl (mz p)) (fW rfl rfl (kS p)) (lM (by omega) (a.2.2.noPy b))))
def P3(a:0<p.2/\Bn E p.1/\Bn E p.2)(b:E<=8000):jX c [fr p]=.ok (.int (-((-p.1).fdiv p.2))):=by have:=a.1;exact gO rfl (gC (tV (fW (tV (fW rfl rfl (mz p))) (fW rfl rfl (kS p)) (lM (by omega) (a.2.2.noPy b)))))
def nZ E (n:E<=8000) b a (x:Oe E b) (u:Oe E a):jx c [oT b,oT a]=.ok (Gm b a):=by
 have hw:=Mg x u;have A:Bn (E+1) (wb b a):=by unfold Bn;have:=dG E;rw[dg];omega
 let R (w:Option W):En:=[some (.p (oT b)),some (.p (oT a)),w];have B:setO 2 (iD (cM (.int 0))) (R none)=.nx (R (some (.p (.int 0)))):=gy rfl rfl;have k:j5 (jW (gI (fZ (jS true) (fS 0) (cM .non))) (gI (fZ MB (fZ gX (fS 0) (cM (.int 0))) (cM (.int 0))))) (setO 2 (iD (fZ iG (fY (fR (fS 0) fV) (kz c)) (cM (.int 1))))) (j5 (jW (gI (fZ (jS true) (fS 1) (cM .non))) (gI (fZ HY (fZ gX (fS 1) (cM (.int 0))) (cM (.int 0))))) (setO 2 (iD (fZ oR (fY (fR (fS 1) fV) (jX c)) (cM (.int 1))))) gM) (R (some (.p (.int 0))))=.nx (R (some (.p (.int (wb b a))))):=by
  have m:∀s,(s=JS a)->(j5 (jW (gI (fZ (jS true) (fS 1) (cM .non))) (gI (fZ HY (fZ gX (fS 1) (cM (.int 0))) (cM (.int 0))))) (setO 2 (iD (fZ oR (fY (fR (fS 1) fV) (jX c)) (cM (.int 1))))) gM) (R (some (.p (.int 0))))=.nx (R (some (.p (.int s)))):=λs f=>by
   cases e:a with
   |none=>rw[e,JS]at f;subst f;exact gS (pU (gz (fW rfl rfl (by show jS true (oT a) .non=_;rw[pF,e];rfl)))) rfl
   |some r=>
    rw[e,JS]at f;have d:jS true (oT a) .non=.ok (.bl true):=by rw[pF,e];rfl
    have g:gX (oT a) (.int 0)=.ok (.int r.1):=by rw[e];rfl
    by_cases hr:r.1<=0
    .rw[aP hr]at f;subst f;exact hU (lx (gz (fW rfl rfl d)) (gz (fW (fW rfl rfl g) rfl (by rw[yV];simp[hr])))) (gy (fW (q0 rfl (by rw[e];exact P3 (u r e) n)) rfl (nt _ _)) rfl)
    .rw[aQ hr]at f;subst f;exact gS (lx (gz (fW rfl rfl d)) (gz (fW (fW rfl rfl g) rfl (by rw[yV];simp[hr])))) rfl
  cases e:b with
  |none=>exact gS (pU (gz (fW rfl rfl (by show jS true (oT b) .non=_;rw[pF,e];rfl)))) (m _ rfl)
  |some p=>
   have d:jS true (oT b) .non=.ok (.bl true):=by rw[pF,e];rfl
   have g:gX (oT b) (.int 0)=.ok (.int p.1):=by rw[e];rfl
   by_cases o:0<=p.1
   .refine hU (lx (gz (fW rfl rfl d)) (gz (fW (fW rfl rfl g) rfl (by rw[sr];simp[o])))) (gy (fW (q0 rfl (by rw[e];exact JH (x p e) n)) rfl (iU _ _)) ?_);simp[wb,o,R]
   .exact gS (lx (gz (fW rfl rfl d)) (gz (fW (fW rfl rfl g) rfl (by rw[sr];simp[o])))) (m _ (by simp[wb,o]))
 have testlo:jW (gI (fZ (jS true) (fS 0) (cM .non))) (jT (gI (fY (fR (fS 0) (fR (kc (fR (fS 2) (fR (cM (.int 1)) fV))) fV)) (j8 c)))) (vw (R (some (.p (.int (wb b a))))))=.ok (!decide (n8 b (wb b a:Rat))):=by
  cases e:b with
  |none=>have:n8 none (wb none a:Rat):=λ_ z=>nomatch z;rw[<-e,aB (by rw[e];exact this)];exact pU (gz (fW rfl rfl (by show jS true (oT b) .non=_;rw[pF,e];rfl)))
  |some p=>
   have d:jS true (oT b) .non=.ok (.bl true):=by rw[pF,e];rfl
   rw[<-e];refine lx (gz (fW rfl rfl d)) (GW (gz (ig rfl (nW rfl rfl) ?_)));have q:=LS (c:=c) (x p e) n A;have v:decide (n8 b (wb b a:Rat))=decide (qv p<(wb b a:Rat)):=by
    by_cases z:qv p<(wb b a:Rat)
    .rw[aB z,aB];intro r j;rw[e]at j;cases j;exact z
    .rw[aA z,aA];exact λy=>z (y p e)
   rw[v];rw[show oT b=fr p by rw[e];rfl];exact q
 have testhi:jW (gI (fZ (jS true) (fS 1) (cM .non))) (jT (gI (fY (fR (kc (fR (fS 2) (fR (cM (.int 1)) fV))) (fR (fS 1) fV)) (j8 c)))) (vw (R (some (.p (.int (wb b a))))))=.ok (!decide (ot a (wb b a:Rat))):=by
  cases e:a with
  |none=>have:ot none (wb b none:Rat):=λ_ z=>nomatch z;rw[<-e,aB (by rw[e];exact this)];exact pU (gz (fW rfl rfl (by show jS true (oT a) .non=_;rw[pF,e];rfl)))
  |some p=>
   have d:jS true (oT a) .non=.ok (.bl true):=by rw[pF,e];rfl
   rw[<-e];refine lx (gz (fW rfl rfl d)) (GW (gz (ig (y:=oT a) (nW rfl rfl) rfl ?_)));have q:=KL (c:=c) (i:=wb b a) (u p e) n A;have v:decide (ot a (wb b a:Rat))=decide ((wb b a:Rat)<qv p):=by
    by_cases z:(wb b a:Rat)<qv p
    .rw[aB z,aB];intro r j;rw[e]at j;cases j;exact z
    .rw[aA z,aA];exact λy=>z (y p e)
   rw[v];rw[show oT a=fr p by rw[e];rfl];exact q
 refine gO rfl (fX B (fX k ?_));unfold Gm;by_cases l:n8 b (wb b a:Rat)
 .rw[aB l]at testlo;refine fX (gS testlo rfl) ?_;by_cases h:ot a (wb b a:Rat)
  .rw[aB h]at testhi;rw[aP ⟨l,h⟩];exact fX (gS testhi rfl) (gC rfl)
  .rw[aA h]at testhi;rw[aQ (λz=>h z.2)];exact jR (hU testhi (gC rfl)) rfl
 .rw[aA l]at testlo;rw[aQ (λz=>l z.1)];exact jR (hU testlo (gC rfl)) rfl
def mO:0<((i,1):Int×Int).2:=by show 0<1;decide
noncomputable def rb(fs:LI)(x:Int×Int):Int×Int:=fs.foldr (λf x=>(f*x.1+x.2,x.1)) x
structure Rx(lo hi:Option (Int×Int))(f:Int)(lo1 hi1:Option (Int×Int)):Prop where
 ex:∃p r:Int×Int,lo=some p/\hi=some r/\f=p.1.fdiv p.2/\lo1=some (r.2,r.1-f*r.2)/\hi1=(if p.1-f*p.2=0 then none else some (p.2,p.1-f*p.2))/\0<p.2/\0<r.2/\p.1*r.2<r.1*p.2/\r.1<=(f+1)*r.2
inductive xN:Option (Int×Int)->Option (Int×Int)->LI->Option (Int×Int)->Option (Int×Int)->Prop
 |nil {lo hi:Option (Int×Int)}:xN lo hi [] lo hi
 |cons {lo hi lo1 hi1 lo2 hi2:Option (Int×Int)} {f:Int} {fs:LI}:Rx lo hi f lo1 hi1->xN lo1 hi1 fs lo2 hi2->xN lo hi (f::fs) lo2 hi2
def xN.snoc(h:xN lo hi fs lo1 hi1)(s:Rx lo1 hi1 f lo2 hi2):xN lo hi (fs++[f]) lo2 hi2:=by
 induction h with
 |nil=>exact .cons s .nil
 |cons s' _ ih=>exact .cons s' (ih s)
structure Gd(lo hi:Option (Int×Int))(x:Int×Int):Prop where
 lo:n8 lo (qv x)
 hi:ot hi (qv x)
 pos:0<x.2
 one:Cu.G x.1 x.2=1
noncomputable def tp:Option (Int×Int)->Int
 |some p=>p.1
 |none=>1
noncomputable def bt:Option (Int×Int)->Int
 |some p=>p.2
 |none=>0
def L8 f a b:Cu.G (f*a+b) a=Cu.G b a:=by
 have h:=Cu.yY (f*a+b) a;have d:=Cu.yY b a;have e:(f*a+b).fmod a=b.fmod a:=by rw[Int.add_comm];have:=Int.add_mul_fmod_self_right b f a;exact this
 rw[<-h,e,d]
def OJ a b:Cu.G a b=Cu.G b a:=by unfold Cu.G;rw[cV]
def DJ(s:Rx lo hi f lo1 hi1)(h:Gd lo1 hi1 x)(g:0<x.1):Gd lo hi (f*x.1+x.2,x.1):=by
 obtain⟨p,r,rfl,rfl,l,rfl,rfl,b,hr,k,w⟩:=s.ex;obtain⟨y,n,j,v⟩:=h;obtain⟨a,i⟩:=qU p.1 p.2 b;rw[<-l]at a i;have d:0<r.1-f*r.2:=by
  have F:=aI a (az hr);have z:f*r.2*p.2<r.1*p.2:=by
   have:f*r.2*p.2=f*p.2*r.2:=by grind
   lia
  have:=eQ z (az b);lia
 have A:=(Dj d j).mp (y _ rfl);refine⟨λB e=>?_,λD e=>?_,g,?_⟩
 .cases e;rw[Dj b g];by_cases q:p.1-f*p.2=0
  .have:p.1=f*p.2:=by lia
   rw[this];have:=aW j b;have m:(f*x.1+x.2)*p.2=f*p.2*x.1+x.2*p.2:=by grind
   lia
  .have u:=n (p.2,p.1-f*p.2) (by rw[aQ q]);have o:0<p.1-f*p.2:=by lia
   have E:=(Dj j o).mp u;have m:(f*x.1+x.2)*p.2=f*x.1*p.2+p.2*x.2:=by grind
   have C:x.1*(p.1-f*p.2)=p.1*x.1-f*x.1*p.2:=by grind
   lia
 .cases e;rw[Dj g hr];lia
 .rw[L8,OJ];exact v
theorem Il(e:b=some p)(k:0<p.2)(o:0<p.1)(hr:∀r,a=some r->0<r.2)(i:n8 b (wb b a:Rat))(g:ot a (wb b a:Rat)) :
  Gd b a (wb b a,1)/\0<wb b a/\wb b a<=tp b+tp a/\1<=bt b+bt a:=by
 have j:wb b a=p.1.fdiv p.2+1:=by unfold wb;rw[e];simp;lia
 have n:0<=p.1.fdiv p.2:=eN (by lia) (by lia);have m:=zu p.1 p.2 k;refine⟨⟨by rw[EJ];exact i,by rw[EJ];exact g,mO,Jk _⟩,by lia,?_,?_⟩
 .cases d:a with
  |none=>rw[d]at j;rw[e];show wb (some p) none<=p.1+1;rw[<-e];lia
  |some r=>have h:=hr r d;have f:=g r d;rw[<-EJ,Dj mO h]at f;dsimp only at f;rw[<-d,e];rw[d];show wb (some p) (some r)<=p.1+r.1;rw[<-e,<-d];have l:wb b a*1<=wb b a*r.2:=eO (by lia) (by lia);lia
 .rw[e];show 1<=p.2+bt a;have:0<=bt a:=by
   cases d:a with
   |none=>exact eg _
   |some r=>have:=hr r d;show 0<=r.2;lia
  lia
theorem A2(h:xN i j fs b a):∀p,i=some p->0<p.2->0<p.1->(∀r,j=some r->0<r.2)->(∀r,a=some r->0<r.2)->n8 b (wb b a:Rat)->ot a (wb b a:Rat)->
  Gd i j (rb fs (wb b a,1))/\0<(rb fs (wb b a,1)).1/\(rb fs (wb b a,1)).1<=tp i+tp j/\(rb fs (wb b a,1)).2<=bt i+bt j:=by
 induction h with
 |nil=>intro p e o F hr _ A v;exact Il e o F hr A v
 |cons s _ ih=>
  rename_i i j g d b a f fs _;intro p e o F hr u A v;obtain⟨Q,r,B,J,D,l,m,R,I,g3,P⟩:=s.ex;rw[e]at B;cases B;obtain⟨k,w⟩:=qU p.1 p.2 o;rw[<-D]at k w;have C:0<=f:=by rw[D];exact eN (by lia) (by lia)
  have q:0<r.1-f*r.2:=by
   have Z:=aI k (az I);have L:f*r.2*p.2<r.1*p.2:=by
    have:f*r.2*p.2=f*p.2*r.2:=by grind
    lia
   have:=eQ L (az o);lia
  have y:∀x,d=some x->0<x.2:=λx n=>by
   rw[m]at n;split at n
   .cases n
   .cases n;dsimp only;lia
  obtain⟨E,H,Y,S⟩:=ih (r.2,r.1-f*r.2) l q I y u A v;refine⟨DJ s E H,?_,?_,?_⟩
  .show 0<f*(rb fs (wb b a,1)).1+(rb fs (wb b a,1)).2;have:=E.pos;have:=aO C (az H);lia
  .show f*(rb fs (wb b a,1)).1+(rb fs (wb b a,1)).2<=_;rw[e,J];show _<=p.1+r.1;have K:tp g+tp d<=r.2+p.2:=by
    rw[l,m];split
    .show r.2+1<=_;lia
    .exact eg _
   have N:bt g+bt d=(r.1-f*r.2)+(p.1-f*p.2):=by
    rw[l,m];split
    .rename_i z;rw[z];rfl
    .rfl
   have X:f*(rb fs (wb b a,1)).1<=f*(r.2+p.2):=eO (by lia) C;have U:f*(r.2+p.2)=f*r.2+f*p.2:=dN _ _ _;lia
  .show (rb fs (wb b a,1)).1<=_;rw[e,J];show _<=p.2+r.2;have K:tp g+tp d<=r.2+p.2:=by
    rw[l,m];split
    .show r.2+1<=_;lia
    .exact eg _
   lia
theorem JC(i:∀p,d=some p->0<p.2)(h:∀r,f=some r->0<r.2)(m:∀p r,d=some p->f=some r->qv p<qv r)(k:¬(n8 d (wb d f:Rat)/\ot f (wb d f:Rat))) :
  ∃p r,d=some p/\f=some r/\p.1*r.2<r.1*p.2/\r.1<=(p.1.fdiv p.2+1)*r.2:=by
 have up:∀p:Int×Int,d=some p->qv p<((p.1.fdiv p.2+1:Int):Rat):=λp e=>by rw[<-EJ,Dj (i p e) mO];have:=(qU p.1 p.2 (i p e)).2;dsimp only;lia
 have s:∀r:Int×Int,f=some r->((-((-r.1).fdiv r.2)-1:Int):Rat)<qv r:=λr e=>by
  rw[<-EJ,Dj mO (h r e)];have:=(qU (-r.1) r.2 (h r e)).2;have v:(-((-r.1).fdiv r.2)-1)*r.2 = -(((-r.1).fdiv r.2+1)*r.2):=by grind
  lia
 have l:∀p:Int×Int,d=some p->p.1<0->qv p<((0:Int):Rat):=λp e z=>by rw[<-EJ,Dj (i p e) mO];dsimp only;lia
 have j:∀r:Int×Int,f=some r->0<r.1->((0:Int):Rat)<qv r:=λr e z=>by rw[<-EJ,Dj mO (h r e)];dsimp only;lia
 cases a:d with
 |none=>
  exfalso;refine k ⟨λp e=>(by rw[a]at e;cases e),λr e=>?_⟩;have g:wb d f=if r.1<=0 then -((-r.1).fdiv r.2)-1 else 0:=by unfold wb;rw[a,e];rfl
  rw[g];split
  .exact s r e
  .exact j r e (by lia)
 |some p=>
  cases b:f with
  |none=>
   exfalso;refine k ⟨λn e=>?_,λr e=>(by rw[b]at e;cases e)⟩;rw[a]at e;cases e;have g:wb d f=if 0<=p.1 then p.1.fdiv p.2+1 else 0:=by unfold wb;rw[a,b];rfl
   rw[g];split
   .exact up p a
   .exact l p a (by lia)
  |some r=>
   have lt:=(Dj (i p a) (h r b)).mp (m p r a b);refine⟨p,r,rfl,rfl,lt,?_⟩;by_cases q:0<=p.1
   .have g:wb d f=p.1.fdiv p.2+1:=by unfold wb;rw[a];simp[q]
    refine eP.mp λz=>k ⟨λn e=>?_,λu e=>?_⟩
    .rw[a]at e;cases e;rw[g];exact up p a
    .rw[b]at e;cases e;rw[g,<-EJ,Dj mO (h r b)];dsimp only;lia
   .by_cases hr:r.1<=0
    .have g:wb d f = -((-r.1).fdiv r.2)-1:=by unfold wb;rw[a,b];simp[q,JS,hr]
     refine eP.mp λz=>k ⟨λn e=>?_,λu e=>?_⟩
     .rw[a]at e;cases e;rw[g,<-EJ,Dj (i p a) mO];dsimp only;have y:=(qU (-r.1) r.2 (h r b)).1;have B:=(qU p.1 p.2 (i p a)).2;have o:=h r b;have v:-((-r.1).fdiv r.2)*r.2 = -((-r.1).fdiv r.2*r.2):=by grind
      have w:(p.1.fdiv p.2+1)*r.2 < -((-r.1).fdiv r.2)*r.2:=by lia
      have x:=eQ w (az o);have A:(p.1.fdiv p.2+1)*p.2<=(-((-r.1).fdiv r.2)-1)*p.2:=aI (by lia) (az (i p a));lia
     .rw[b]at e;cases e;rw[g];exact s r b
    .have g:wb d f=0:=by unfold wb;rw[a,b];simp[q,JS,hr]
     exfalso;refine k ⟨λn e=>?_,λu e=>?_⟩
     .rw[a]at e;cases e;rw[g];exact l p a (by lia)
     .rw[b]at e;cases e;rw[g];exact j r b (by lia)
noncomputable def Pv:En->Nat:=λd=>match d with|some (.p (.tup [_,.int a]))::some (.p (.tup [_,.int b]))::_=>a.natAbs+b.natAbs+2|_=>1
noncomputable def BB:En->Nat:=λd=>match d with|some (.p (.tup [_,.int a]))::some (.p (.tup [_,.int b]))::_::some (.p .non)::_=>a.natAbs+b.natAbs+1|_=>0
def vn(b a:Option (Int×Int))(fs:LI)(d e f:Option W):En:=[some (.p (oT b)),some (.p (oT a)),some (.o (fs.map T.int)),some (.p (Gm b a)),d,e,f,none]
structure Mq(E:Nat)(lo hi:Option (Int×Int))(fs:LI)(lo' hi':Option (Int×Int)):Prop where
 path:xN lo hi fs lo' hi'
 l:Oe E lo'
 h:Oe E hi'
 lt:∀p r,lo'=some p->hi'=some r->qv p<qv r
 fb:∀f∈fs,Bn E f
 few:fs≠[]->∃p,lo'=some p/\p.2<=p.1/\∀r,hi'=some r->0<r.1/\4 ^ (fs.length-1)*(p.1*p.2*(r.1*r.2))<=2 ^ (4*E)
def pB(h:Bn E x):x<2 ^ E/\-(2 ^ E)<x:=by
 unfold Bn at h;have:((2 ^ E):Int)=2 ^ E:=by simp
 lia
def rj(a:x<2 ^ E)(b:-(2 ^ E)<x):Bn E x:=by
 unfold Bn;have:((2 ^ E):Int)=2 ^ E:=by simp
 lia
theorem GD(h:Mq E lo hi fs b a)(R:¬(n8 b (wb b a:Rat)/\ot a (wb b a:Rat))) :
  ∃p r f,p.1.fdiv p.2=f/\b=some p/\a=some r/\fs.length<=2*E+1/\0<p.2/\0<r.2/\0<r.1-f*r.2/\r.1-f*r.2<=r.2/\0<=p.1-f*p.2/\p.1-f*p.2<p.2/\Bn E (f)/\
   Mq E lo hi (fs++[f]) (some (r.2,r.1-f*r.2)) (if p.1-f*p.2=0 then none else some (p.2,p.1-f*p.2)):=by
 obtain⟨p,r,m,q,lt,le⟩:=JC (λp e=>(h.l p e).1) (λr e=>(h.h r e).1) h.lt R;obtain⟨d,w,u⟩:=h.l p m;obtain⟨n,rb1,s⟩:=h.h r q;obtain⟨B,Y⟩:=qU p.1 p.2 d;have F:=b8 (zu p.1 p.2 d) w;generalize D:p.1.fdiv p.2=f at *;have g4:(f+1)*r.2=f*r.2+r.2:=by grind
 have g5:(f+1)*p.2=f*p.2+p.2:=by grind
 have i:0<r.1-f*r.2:=by
  have a1:=aI B (az n);have a2:f*r.2*p.2<r.1*p.2:=by
   have:f*r.2*p.2=f*p.2*r.2:=by grind
   lia
  have:=eQ a2 (az d);lia
 have U:Rx b a f (some (r.2,r.1-f*r.2)) (if p.1-f*p.2=0 then none else some (p.2,p.1-f*p.2)):=⟨p,r,m,q,D.symm,rfl,rfl,d,n,lt,le⟩;have L:=(pB s).1;have plt:=(pB u).1;have y:fs.length<=2*E+1:=by
  by_cases k:fs=[]
  .subst k;simp
  .obtain⟨x,o,X,A⟩:=h.few k;rw[m]at o;cases o;obtain⟨H,C⟩:=A r q;have m1:1<=p.1*p.2:=by have:=aW (show 0<p.1 by lia) d;lia
   have m2:1<=r.1*r.2:=by have:=aW H n;lia
   have Z:1<=p.1*p.2*(r.1*r.2):=by have:=aW (show 0<p.1*p.2 by lia) (show 0<r.1*r.2 by lia);lia
   have m4:=eA (eO Z (az (eS (by decide)))) C;have I:(4:Nat) ^ (fs.length-1)<=2 ^ (4*E):=by
    have:(((4:Nat) ^ (fs.length-1):Nat):Int)<=((2 ^ (4*E):Nat):Int):=by push_cast;lia
    exact Int.ofNat_le.mp this
   rw[show (4:Nat)=2 ^ 2 by decide,<-Nat.pow_mul]at I;have m6:=(Nat.pow_le_pow_iff_right (show 1<2 by decide)).mp I;lia
 refine⟨p,r,f,D,m,q,y,d,n,i,by lia,by lia,by lia,F,h.path.snoc U,λx e=>?_,λJ e=>?_,λx J e j=>?_,λg v=>?_,λ_=>⟨_,rfl,?_,λJ j=>?_⟩⟩
 .cases e;exact⟨i,s,rj (by dsimp only;lia) (by dsimp only;lia)⟩
 .split at e
  .cases e
  .cases e;exact⟨by dsimp only;omega,u,rj (by dsimp only;omega) (by dsimp only;omega)⟩
 .cases e;split at j
  .cases j
  .cases j;rw[Dj i (by dsimp only;omega)];dsimp only;have x1:r.2*(p.1-f*p.2)=p.1*r.2-f*r.2*p.2:=by grind
   have x2:p.2*(r.1-f*r.2)=r.1*p.2-f*r.2*p.2:=by grind
   lia
 .rcases ai.mp v with v|v
  .exact h.fb g v
  .rw[aj.mp v];exact F
 .dsimp only;lia
 .split at j
  .cases j
  .rename_i hR;cases j;refine⟨d,?_⟩;dsimp only;rw[aS,bZ,Nat.add_sub_cancel];by_cases k:fs=[]
   .subst k;simp only[cB,Int.pow_zero,dH];have E2:(2:Int) ^ (4*E)=2 ^ E*2 ^ E*(2 ^ E*2 ^ E):=by rw[show 4*E=E+E+(E+E) by lia,Int.pow_add,Int.pow_add]
    rw[E2];have P0:(0:Int)<=2 ^ E:=az (eS (by decide));have Q:r.2*(r.1-f*r.2)<=2 ^ E*2 ^ E:=eT (by lia) (by lia) (by lia) P0;have S:p.2*(p.1-f*p.2)<=2 ^ E*2 ^ E:=eT (by lia) (by lia) (by lia) P0;exact eT Q S (aO (by lia) (by lia)) (aO P0 P0)
   .obtain⟨x,o,X,A⟩:=h.few k;rw[m]at o;cases o;obtain⟨H,C⟩:=A r q;have K:1<=f:=by
     refine eP.mp λz=>?_;have:f+1<=1:=by lia
     have:=aI this (az d);lia
    have z1:p.2<=f*p.2:=by have:=aI K (az d);lia
    have z2:r.2<=f*r.2:=by have:=aI K (az n);lia
    have P:r.2*(2*(r.1-f*r.2))<=r.2*r.1:=eO (by lia) (by lia);have N:p.2*(2*(p.1-f*p.2))<=p.2*p.1:=eO (by lia) (by lia);have w3:=eT P N (aO (by lia) (by lia)) (aO (by lia) (by lia));have l1:fs.length=fs.length-1+1:=by
     cases fs with
     |nil=>exact absurd rfl k
     |cons _ _=>simp
    rw[l1,eU];refine eA ?_ C;have P4:(0:Int)<=4 ^ (fs.length-1):=az (eS (by decide));have w4:r.2*(r.1-f*r.2)*(p.2*(p.1-f*p.2))*4=r.2*(2*(r.1-f*r.2))*(p.2*(2*(p.1-f*p.2))):=by grind
    have w5:r.2*r.1*(p.2*p.1)=p.1*p.2*(r.1*r.2):=by grind
    rw[cP,cQ 4];refine eO ?_ P4;rw[w4,<-w5];exact w3
def vh(h:¬(n8 a (wb a b:Rat)/\ot b (wb a b:Rat))):Gm a b=.non:=aQ h
def vj(h:n8 a (wb a b:Rat)/\ot b (wb a b:Rat)):Gm a b=.int (wb a b):=aP h
def Lp E (L:E<=7000) lo hi:∀ρ,(∃d b fs i j e,ρ=vn d b fs i j e/\Mq E lo hi fs d b)->
  (gI (fZ (jS false) (fS 3) (cM .non)) (vw ρ)=.ok false/\∃d b fs i j e,ρ=vn d b fs i j e/\Mq E lo hi fs d b/\n8 d (wb d b:Rat)/\ot b (wb d b:Rat))\/
  (gI (fZ (jS false) (fS 3) (cM .non)) (vw ρ)=.ok true/\∃g,(lT c ρ=.nx g\/lT c ρ=.ct g)/\(∃d b fs i j e,g=vn d b fs i j e/\Mq E lo hi fs d b)/\BB g<BB ρ):=by
 rintro ρ ⟨d,b,fs,i,j,e,rfl,h⟩;by_cases n:n8 d (wb d b:Rat)/\ot b (wb d b:Rat)
 .left;refine⟨gz (fW rfl rfl ?_),d,b,fs,i,j,e,rfl,h,n⟩;show jS false (Gm d b) .non=_;rw[vj n];rfl
 .right;have sz:20000<sizeLine:=by decide
  refine⟨gz (fW rfl rfl (by show jS false (Gm d b) .non=_;rw[vh n];rfl)),?_⟩;obtain⟨p,r,f,A,w,y,H,J,K,P,R,Q,N,x,u⟩:=GD h n;obtain⟨_,s,q⟩:=h.l p w;obtain⟨_,F,v⟩:=h.h r y;subst w y;have I:=vh n;let a:Option (Int×Int):=if p.1-f*p.2=0 then none else some (p.2,p.1-f*p.2)
  have z:RC (gI (fZ (gD false) (fS 5) (cM (.int 0)))) (cM .non) (kc (fR (fZ gX (fS 0) (cM (.int 1))) (fR (fS 5) fV))) (lY [some (.p (fr p)),some (.p (fr r)),some (.o ((fs++[f]).map T.int)),some (.p (Gm (some p) (some r))),some (.p (.int f)),some (.p (.int (p.1-f*p.2))),e,none])=.ok (oT a):=by
   by_cases m:p.1-f*p.2=0
   .have:a=none:=aP m;rw[this,m];rfl
   .have:a=some (p.2,p.1-f*p.2):=aQ m;rw[this];have D:gI (fZ (gD false) (fS 5) (cM (.int 0))) (lY [some (.p (fr p)),some (.p (fr r)),some (.o ((fs++[f]).map T.int)),some (.p (Gm (some p) (some r))),some (.p (.int f)),some (.p (.int (p.1-f*p.2))),e,none])=.ok false:=gz (fW rfl rfl (by rw[iA];simp[m]));show (gI _ _).bind _=_;rw[D];show kc (fR (fZ gX (fS 0) (cM (.int 1))) (fR (fS 5) fV)) (lY [some (.p (fr p)),some (.p (fr r)),some (.o ((fs++[f]).map T.int)),some (.p (Gm (some p) (some r))),some (.p (.int f)),some (.p (.int (p.1-f*p.2))),e,none])=_;exact nW (fW rfl rfl (kS p)) rfl
  have B:=nZ (c:=c) E (by lia) (some (r.2,r.1-f*r.2)) a u.l u.h;refine⟨vn (some (r.2,r.1-f*r.2)) a (fs++[f]) (some (.p (.int f))) (some (.p (.int (p.1-f*p.2)))) (some (.p (oT a))),.inl ?_,⟨_,_,_,_,_,_,rfl,u⟩,?_⟩
  .refine fX (gy (t:=.int f) (q0 rfl (by rw[<-A];exact JH ⟨J,s,q⟩ (by lia))) rfl) ?_;refine fX (tw (us:=fs.map T.int) rfl (t:=.int f) rfl (by simp;lia) rfl) ?_;refine fX (gy (t:=.int (p.1-f*p.2)) (fW (fW rfl rfl (mz p)) (fW rfl (fW rfl rfl (kS p)) (iw (x.ok q (by lia) (by lia)))) (nt _ _)) rfl) ?_;refine fX (gy (t:=oT a) ?_ rfl) ?_
   .have:=z;rw[aY]at this;exact this
   refine fX (gy (t:=fr (r.2,r.1-f*r.2)) (nW (fW rfl rfl (kS r)) (fW (fW rfl rfl (mz r)) (fW rfl (fW rfl rfl (kS r)) (iw (x.ok v (by lia) (by lia)))) (nt _ _))) rfl) ?_;refine fX (gy (t:=oT a) rfl rfl) ?_;refine gy (ig rfl rfl B) ?_;unfold vn;rw[aY];rfl
  .have C:BB (vn (some p) (some r) fs i j e)=p.2.natAbs+r.2.natAbs+1:=by unfold vn BB;rw[I];rfl
   rw[C];by_cases hw:n8 (some (r.2,r.1-f*r.2)) (wb (some (r.2,r.1-f*r.2)) a:Rat)/\ot a (wb (some (r.2,r.1-f*r.2)) a:Rat)
   .have:BB (vn (some (r.2,r.1-f*r.2)) a (fs++[f]) (some (.p (.int f))) (some (.p (.int (p.1-f*p.2)))) (some (.p (oT a))))=0:=by unfold vn BB;rw[vj hw];cases a<;>rfl
    rw[this];lia
   .by_cases m:p.1-f*p.2=0
    .have:a=none:=aP m;have k:BB (vn (some (r.2,r.1-f*r.2)) a (fs++[f]) (some (.p (.int f))) (some (.p (.int (p.1-f*p.2)))) (some (.p (oT a))))=0:=by unfold vn BB;rw[this];rfl
     rw[k];lia
    .have:a=some (p.2,p.1-f*p.2):=aQ m;have k:BB (vn (some (r.2,r.1-f*r.2)) a (fs++[f]) (some (.p (.int f))) (some (.p (.int (p.1-f*p.2)))) (some (.p (oT a))))=(r.1-f*r.2).natAbs+(p.1-f*p.2).natAbs+1:=by unfold vn BB;rw[vh hw,this];rfl
     rw[k];lia
theorem yI(h:xN lo hi fs b a) p (e:lo=some p) (l:0<p.2) (o:0<p.1) (k:Oe E lo) (f:Oe E hi) (i:Oe E a) (u:n8 b (wb b a:Rat)) (s:ot a (wb b a:Rat)) :
  Gd lo hi (rb fs (wb b a,1))/\0<(rb fs (wb b a,1)).1/\Bn (E+1) (rb fs (wb b a,1)).1/\Bn (E+1) (rb fs (wb b a,1)).2:=by
 obtain⟨g,v,x,D⟩:=A2 h p e l o (λr d=>(f r d).1) (λr d=>(i r d).1) u s;have P:(2:Int) ^ (E+1)=2*2 ^ E:=by rw[eU,cQ]
 have q:(1:Int)<=2 ^ E:=by have:=eS (n:=2) (m:=E) (by decide);lia
 have H:=pB (k p e).2.1;have w:=pB (k p e).2.2;have B:tp lo=p.1:=by rw[e];rfl
 have z:bt lo=p.2:=by rw[e];rfl
 have F:tp hi<=2 ^ E/\bt hi<=2 ^ E:=by
  cases j:hi with
  |none=>exact⟨q,by show (0:Int)<=_;lia⟩
  |some r=>have y:=pB (f r j).2.1;have C:=pB (f r j).2.2;exact⟨by show r.1<=_;lia,by show r.2<=_;lia⟩
 have A:=g.pos;exact⟨g,v,rj (by lia) (by lia),rj (by lia) (by lia)⟩
noncomputable def Qy(z:Int×Int)(f:Int):Int×Int:=(f*z.1+z.2,z.1)
theorem Aq E (i:E<=7000) x0 x1 x2 x3 x5 x6:∀(a:LI) (z:Int×Int) (b:Option W),(∀f∈a,Bn E f)->(∀k,k<=a.length->Bn (2*E+10) ((a.take k).foldl Qy z).1)->
  ∃d,iW (jA 4) (lK c) (a.map T.int) [x0,x1,x2,x3,b,x5,x6,some (.p (fr z))]=.nx [x0,x1,x2,x3,d,x5,x6,some (.p (fr (a.foldl Qy z)))]
 |[],z,b,_,_=>⟨b,rfl⟩
 |f::a,z,b,hf,hb=>by
  have j:=hf f (by simp);have m:Bn (2*E+10) z.1:=by simpa using hb 0 (bJ _)
  obtain⟨d,e⟩:=Aq E i x0 x1 x2 x3 x5 x6 a (Qy z f) (some (.p (.int f))) (λg n=>hf g (by simp[n])) (λk h=>by simpa using hb (k+1) (by simpa using h));refine⟨d,?_⟩;have l:lK c [x0,x1,x2,x3,some (.p (.int f)),x5,x6,some (.p (fr z))]=.nx [x0,x1,x2,x3,some (.p (.int f)),x5,x6,some (.p (fr (Qy z f)))]:=gy (nW (fW (fW rfl (fW rfl rfl (mz z)) (iw (j.ok m (by lia) (by lia)))) (fW rfl rfl (kS z)) (iU _ _)) (fW rfl rfl (mz z))) rfl
  rw[bH,iW];have o:jA 4 (.int f) [x0,x1,x2,x3,b,x5,x6,some (.p (fr z))]=some [x0,x1,x2,x3,some (.p (.int f)),x5,x6,some (.p (fr z))]:=rfl;rw[o];dsimp only;rw[l];exact e
def Bh fs y:fs.reverse.foldl Qy y=rb fs y:=by rw[List.foldl_reverse];rfl
def KD E (d:E<=7000) x0 x1 x2 x3 x5 x6 fs y x4 (h:∀f∈fs,Bn E f) (g:∀k,k<=fs.length->Bn (2*E+10) (rb (fs.drop k) y).1) :
  ∃a,iW (jA 4) (lK c) (fs.reverse.map T.int) [x0,x1,x2,x3,x4,x5,x6,some (.p (fr y))]=.nx [x0,x1,x2,x3,a,x5,x6,some (.p (fr (rb fs y)))]:=by
 obtain⟨a,e⟩:=Aq E d x0 x1 x2 x3 x5 x6 fs.reverse y x4 (λf b=>h f (by simpa using b)) (λk j=>by
  have i:fs.reverse.take k=(fs.drop (fs.length-k)).reverse:=by rw[List.take_reverse]
  rw[i,Bh];exact g _ (by lia))
 rw[Bh]at e;exact⟨a,e⟩
def II p r:gD false (fr p) (fr r)=.ok (.bl (decide (p=r))):=by
 have:=Ir false [p.1,p.2] [r.1,r.2];have e:decide ([p.1,p.2]=[r.1,r.2])=decide (p=r):=by
  by_cases h:p=r
  .rw[aB h,aB (by rw[h])]
  .rw[aA h,aA];intro z;simp at z;exact h (Prod.ext z.1 z.2)
 simp only[cf,if_false]at this;rw[e]at this;exact this
theorem wF E (hE:E<=7000) lo hi (h1:Oe E lo) (h2:Oe E hi) (Y:∀p r,lo=some p->hi=some r->qv p<qv r) :
  ∃x,jF c [oT lo,oT hi]=.ok (fr x)/\Gd lo hi x/\Bn (E+2) x.1/\Bn (E+1) x.2:=by
 have w0:=nZ (c:=c) E (by lia) lo hi h1 h2;have i0:Mq E lo hi [] lo hi:=⟨.nil,h1,h2,Y,λf hf=>(nomatch hf),λz=>absurd rfl z⟩;have fu:BB (vn lo hi [] none none none)<Pv (vn lo hi [] none none none):=by
  cases el:lo with
  |none=>cases eh:hi<;>(unfold vn BB Pv oT;simp)
  |some p=>
   cases eh:hi with
   |none=>unfold vn BB Pv oT;simp[fr]
   |some r=>
    by_cases hw:n8 (some p) (wb (some p) (some r):Rat)/\ot (some r) (wb (some p) (some r):Rat)
    .unfold vn BB Pv oT;rw[vj hw];simp[fr]
    .unfold vn BB Pv oT;rw[vh hw];simp[fr]
 obtain⟨ρ',e,b,a,fs,F,H,J,rfl,A,hl,Q⟩:=m9 (g:=lT c) (λρ=>∃b a fs F H J,ρ=vn b a fs F H J/\Mq E lo hi fs b a) BB
  (λρ=>∃b a fs F H J,ρ=vn b a fs F H J/\Mq E lo hi fs b a/\n8 b (wb b a:Rat)/\ot a (wb b a:Rat)) (Lp E hE lo hi) (Pv (vn lo hi [] none none none)) (vn lo hi [] none none none) ⟨lo,hi,[],none,none,none,rfl,i0⟩ fu
 have wi:=vj ⟨hl,Q⟩;have P:(2:Int) ^ (E+1)=2*2 ^ E:=by rw[eU,cQ]
 have P1:(1:Int)<=2 ^ E:=by have:=eS (n:=2) (m:=E) (by decide);lia
 have wB:Bn (E+1) (wb b a):=by have:=Mg A.l A.h;unfold Bn;have p0:=dG E;rw[dg];lia
 have fin:Gd lo hi (rb fs (wb b a,1))/\Bn (E+2) (rb fs (wb b a,1)).1/\Bn (E+1) (rb fs (wb b a,1)).2/\∀k,k<=fs.length->Bn (2*E+10) (rb (fs.drop k) (wb b a,1)).1:=by
  have C:=A.path;have hfb:=A.fb;cases C with
  |nil=>exact⟨⟨by show n8 lo (qv (wb lo hi,1));rw[EJ];exact hl,by show ot hi (qv (wb lo hi,1));rw[EJ];exact Q,mO,Jk _⟩,wB.mono (by lia),by show Bn (E+1) 1;exact rj (by lia) (by lia),λk _=>by rw[List.drop_nil];exact wB.mono (by lia)⟩
  |cons s C=>
   rename_i d i f u;obtain⟨p,r,e1,e2,hf,K,e4,p2,r2,g3,g4⟩:=s.ex;obtain⟨S,fl2⟩:=qU p.1 p.2 p2;rw[<-hf]at S fl2;have q4:(f+1)*r.2=f*r.2+r.2:=by grind
   have q5:(f+1)*p.2=f*p.2+p.2:=by grind
   have w:0<r.1-f*r.2:=by
    have a1:=aI S (az r2);have U:f*r.2*p.2<r.1*p.2:=by
     have:f*r.2*p.2=f*p.2*r.2:=by grind
     lia
    have:=eQ U (az p2);lia
   have bp:=pB (h1 p e1).2.2;have br:=pB (h2 r e2).2.2;have I:Oe E d:=λo j=>by rw[K]at j;cases j;exact⟨w,(h2 r e2).2.2,rj (by dsimp only;lia) (by dsimp only;lia)⟩
   have D:Oe E i:=λq j=>by
    rw[e4]at j;split at j
    .cases j
    .cases j;exact⟨by dsimp only;lia,(h1 p e1).2.2,rj (by dsimp only;lia) (by dsimp only;lia)⟩
   obtain⟨g,a1,U,a3⟩:=yI C (r.2,r.1-f*r.2) K w r2 I D A.h hl Q;have fB:=hfb f (by simp);have ie:Bn (E+2) (f*(rb u (wb b a,1)).1+(rb u (wb b a,1)).2):=by
    obtain⟨_,c1,c2,c3⟩:=A2 C (r.2,r.1-f*r.2) K w r2 (λr er=>(D r er).1) (λr er=>(A.h r er).1) hl Q;have t1:tp d+tp i<=r.2+p.2:=by
     rw[K,e4];split
     .show r.2+1<=_;lia
     .exact eg _
    have t2:bt d+bt i=(r.1-f*r.2)+(p.1-f*p.2):=by
     rw[K,e4];split
     .rename_i z;rw[z];rfl
     .rfl
    have gp:=g.pos;have cp:=pB (h1 p e1).2.1;have cr:=pB (h2 r e2).2.1;have m2:f*(r.2+p.2)=f*r.2+f*p.2:=dN _ _ _;have P2:(2:Int) ^ (E+2)=4*2 ^ E:=by rw[eU,P];lia
    generalize (2:Int) ^ E=pe at *;generalize (rb u (wb b a,1)).1=x1 at *;generalize (rb u (wb b a,1)).2=x2 at *;refine rj ?_ ?_<;>rw[P2]
    .by_cases f0:0<=f
     .have:=eO (show x1<=r.2+p.2 by lia) f0;lia
     .have:=aO (show 0<=-f by lia) (az c1);have e:-f*x1 = -(f*x1):=by grind
      lia
    .by_cases f0:0<=f
     .have:=aO f0 (az c1);lia
     .have:=eO (show x1<=r.2+p.2 by lia) (show 0<=-f by lia);have e:-f*x1 = -(f*x1):=by grind
      have j:-f*(r.2+p.2) = -(f*r.2)-f*p.2:=by grind
      lia
   refine⟨DJ s g a1,ie,U,λk hk=>?_⟩;have sm:∀(fs:LI) (d i:Option (Int×Int)),xN d i fs b a->(∃p,d=some p/\0<p.2/\0<p.1)->Oe E d->Oe E i->∀k,k<=fs.length->Bn (2*E+10) (rb (fs.drop k) (wb b a,1)).1:=by
    intro fs;induction fs with
    |nil=>intro _ _ _ _ _ _ k _;rw[List.drop_nil];exact wB.mono (by lia)
    |cons v fs2 ih=>
     rintro d i C ⟨p,e,c1,c2⟩ I D k hk;cases k with
     |zero=>obtain⟨_,_,b2,_⟩:=yI C p e c1 c2 I D A.h hl Q;rw[dy];exact b2.mono (by lia)
     |succ k=>
      cases C with
      |cons s2 hp2=>
       obtain⟨o,q,N,X,hf',L,e4',Z,R,g3',g4'⟩:=s2.ex;obtain⟨y,fl2'⟩:=qU o.1 o.2 Z;rw[<-hf']at y fl2';have q4':(v+1)*q.2=v*q.2+q.2:=by grind
       have q5':(v+1)*o.2=v*o.2+o.2:=by grind
       have B:0<q.1-v*q.2:=by
        have a1:=aI y (az R);have U:v*q.2*o.2<q.1*o.2:=by
         have:v*q.2*o.2=v*o.2*q.2:=by grind
         lia
        have:=eQ U (az Z);lia
       have bp':=pB (I o N).2.2;have br':=pB (D q X).2.2;have:=ih _ _ hp2 ⟨_,L,B,R⟩ (λp'' j=>by rw[L]at j;cases j;exact⟨B,(D q X).2.2,rj (by dsimp only;lia) (by dsimp only;lia)⟩) (λr'' j=>by
        rw[e4']at j;split at j
        .cases j
        .cases j;exact⟨by dsimp only;lia,(I o N).2.2,rj (by dsimp only;lia) (by dsimp only;lia)⟩) k (by simpa using hk)
       simpa using this
   cases k with
   |zero=>rw[dy];exact ie.mono (by lia)
   |succ k=>simpa using sm u d i C ⟨_,K,w,r2⟩ I D k (by simpa using hk)
 obtain⟨f1,v,f3,f4⟩:=fin;obtain⟨y4,eb⟩:=KD (c:=c) E hE (some (.p (oT b))) (some (.p (oT a))) (some (.p (.lst (fs.map T.int)))) (some (.p (Gm b a))) H J fs (wb b a,1) F A.fb f4;refine⟨rb fs (wb b a,1),?_,f1,v,f3⟩;have t0:L3.jW (gI (fZ (jS true) (fS 0) (cM .non))) (gI (fZ (gD false) (fS 0) (fS 1))) (vw (g9 8 [oT lo,oT hi]))=.ok false:=by
  cases el:lo with
  |none=>exact pU (gz (fW rfl rfl rfl))
  |some p=>
   cases eh:hi with
   |none=>exact lx (gz (fW rfl rfl rfl)) (gz (fW rfl rfl (by show gD false (fr p) .non=_;rfl)))
   |some r=>refine lx (gz (fW rfl rfl rfl)) (gz (fW rfl rfl ?_));show gD false (fr p) (fr r)=_;rw[II,aA];intro z;have:=Y p r el eh;rw[z]at this;exact absurd this (by grind)
 refine gO rfl (fX (gS t0 rfl) (fX (l5 (ts:=[]) rfl rfl) (fX (gy (t:=Gm lo hi) (ig rfl rfl w0) rfl) (fX (ρ':=vn b a fs F H J) e (fX (gy (t:=fr (wb b a,1)) (nW (by show fS 3 _=.ok (.int (wb b a));rw[<-wi];rfl) rfl) rfl) (fX (QB (ts:=fs.map T.int) rfl (i9 (its:=fs.reverse.map T.int) (by rw[List.map_reverse];rfl) eb)) (gC rfl)))))))
def si N M row other a (E:a<row.length) (X:other.length=row.length) (hs:row.length<1000) (Y:N+M+1<=8000) (j:∀x∈row,Bn N x) (v:∀x∈other,Bn M x) (U:vc other a≠0) :
  ∃r,iP c [tI row,tI other,.int (a:Int)]=.ok (tI r)/\r.length=row.length/\(∀x∈r,Bn (N+M+1) x)/\vc r a=0/\∃g s b:Int,0<g/\0<s/\(∀i,g*vc r i=s*vc row i+b*vc other i)/\(vc row a≠0->s=((vc other a).natAbs:Int)/\b = -vc row a*pM (vc other a))/\(r=row\/Po (vc r)):=by
 have sz:1000<sizeLine:=by decide
 have l:gX (tI row) (.int (a:Int))=.ok (.int (vc row a)):=jV row a E;have C:gX (tI other) (.int (a:Int))=.ok (.int (vc other a)):=jV other a (by lia);have B:Bn N (vc row a):=j _ (getD_mem row a E);have K:Bn M (vc other a):=v _ (getD_mem other a (by lia));by_cases k:vc row a=0
 .exact⟨row,gO rfl (jR (hU (gz (fW (fW rfl rfl l) rfl (by rw[iA,k];rfl))) (gC rfl)) rfl),rfl,λx I=>(j x I).mono (by lia),k,1,1,0,by decide,by decide,λi=>by lia,λz=>absurd k z,.inl rfl⟩
 .generalize P:vc other a=o at *;generalize S:vc row a=x0 at *;have Q:A0 [.int o]=.ok (.int (o.natAbs:Int)):=by simp[L7]
  let w:Int:=-x0*pM o;have H:=EM o;have D:Bn N w:=by
   refine b8 ?_ B;show (-x0*pM o).natAbs<=_;rw[aX,du];have:(pM o).natAbs<=1:=by lia
   exact aM (eV _ this) (by lia)
  have A:Bn M (o.natAbs:Int):=b8 (by lia) K;let d:LI:=(row.zip other).map λp=>(o.natAbs:Int)*p.1+w*p.2;have F:d.length=row.length:=by simp[d,X]
  have u:∀y∈d,Bn (N+M+1) y:=λy hy=>by obtain⟨p,f,rfl⟩:=aC.mp hy;exact ((A.mul (j _ (aV f).1)).add (D.mul (v _ (aV f).2))).mono (by lia)
  have e:∀i,vc d i=(o.natAbs:Int)*vc row i+w*vc other i:=λi=>by
   by_cases R:i<row.length
   .rw[nR d i (by lia),nR row i R,nR other i (by lia)];simp[d]
   .rw[qo d i (by lia),qo row i (by lia),qo other i (by lia),dO,dO];rfl
  obtain⟨g,r,Z,J,L,h,q,m⟩:=F8 (c:=c) (N+M+1) Y d (by lia) u;refine⟨r,gO rfl (fX (gS (gz (fW (fW rfl rfl l) rfl (by rw[iA];simp[k]))) rfl) (fX (gy (t:=.int (o.natAbs:Int)) (oM (fW rfl rfl C) Q) rfl) (fX (gy (t:=.int w) ?_ rfl) (gC (q0 (x:=tI d) ?_ J))))),by lia,m,?_,g,(o.natAbs:Int),w,Z,by lia,λi=>by rw[<-h i,e i],λ_=>⟨rfl,rfl⟩,.inr q⟩
  .refine fW (x:=.int (-x0)) (y:=.int (pM o)) ?_ (q0 (fW rfl rfl C) (vE o)) (iw ((B.neg).ok (n:=2) ?_ (by lia) (by decide)))
   .exact tV (fW rfl rfl l)
   .unfold Bn;show _<4;lia
  .refine oM (t:=.lst (d.map T.int)) (jw (ku (row.zip other) (λp=>T.tup [.int p.1,.int p.2]) (λp=>T.int ((o.natAbs:Int)*p.1+w*p.2)) (oU rfl rfl rfl rfl) (by simp;lia) (λp f=>⟨_,rfl,rfl,?_⟩) (by rw[aH];rfl))) rfl;exact fW (fW rfl rfl (iw (A.ok (j _ (aV f).1) (by lia) (by lia)))) (fW rfl rfl (iw (D.ok (v _ (aV f).2) (by lia) (by lia)))) (iU _ _)
  .refine qO (g:=g) (by lia) ?_;rw[<-h a,e a,P,S];show _ + -x0*pM o*o=_;rw[cP,LN,dY,cQ x0];lia
theorem qR P x1 L M (X:L<1000):∀(pv:List (Nat×LI)) (b:LI) (N:Nat) (l j:Option W),N+pv.length*(M+1)<=8000->b.length=L->(∀x∈b,Bn N x)->(∀p∈pv,p.1<L/\p.2.length=L/\vc p.2 p.1≠0/\(∀x∈p.2,Bn M x)/\P (vc p.2))->pv.Pairwise (λp q=>vc q.2 p.1=0)->
  ∃r z A,iW (kr 2 (gY (jA 2) (gY (jA 3) kC))) (rA c) (pv.map lX) [some (.p (tI b)),x1,l,j]=.nx [some (.p (tI r)),x1,z,A]/\r.length=L/\(∀x∈r,Bn (N+pv.length*(M+1)) x)/\
   (∃g s y,0<g/\0<s/\Qs P y/\∀i,g*vc r i=s*vc b i+1*y i)/\(∀k,vc b k=0->(∀p∈pv,vc p.2 k=0)->vc r k=0)/\∀p∈pv,vc r p.1=0
 |[],b,N,l,j,_,hl,hb,_,_=>⟨b,l,j,rfl,hl,λx m=>(hb x m).mono (by lia),⟨1,1,λ_=>0,by decide,by decide,.zero,λi=>by lia⟩,λk o _=>o,λp d=>nomatch d⟩
 | (a,prow)::pv,b,N,l,j,hN,hl,hb,hA,hw=>by
  obtain⟨h1,h2,h3,h4,S⟩:=hA (a,prow) (bu ..);obtain⟨Z,R⟩:=List.pairwise_cons.mp hw;rw[ay,b4]at hN;obtain⟨w,U,c1,b1,z0,f,u,Y,D,v,J,_⟩:=si N M b prow a (by lia) (by lia) (by lia) (by lia) hb h4 h3;obtain⟨r,z,A,e,n,B,⟨E,h,y,F,C,hy,K⟩,I,z2⟩:=qR P x1 L M X pv w (N+M+1) (some (.p (.int a))) (some (.p (tI prow))) (by lia) (by rw[c1,hl]) b1 (λp d=>hA p (bx _ d)) R;refine⟨r,z,A,?_,n,λx m=>(B x m).mono (by rw[ay,b4];lia),⟨f*E,h*u,_,aW D F,aW C v,Qs.comb (h*Y) f (.of S) hy,λi=>?_⟩,λk o d=>?_,λp d=>?_⟩
  .rw[bH,iW];have u:(kr 2 (gY (jA 2) (gY (jA 3) kC))) (lX (a,prow)) [some (.p (tI b)),x1,l,j]=some [some (.p (tI b)),x1,some (.p (.int a)),some (.p (tI prow))]:=rfl;rw[u];have h:rA c [some (.p (tI b)),x1,some (.p (.int a)),some (.p (tI prow))]=.nx [some (.p (tI w)),x1,some (.p (.int a)),some (.p (tI prow))]:=gy (j3 rfl rfl rfl U) rfl;dsimp only;rw[h];exact e
  .calc f*E*vc r i=f*(E*vc r i):=by ac_rfl
    _=h*(f*vc w i)+f*y i:=by rw[K i,dH,dN];congr 1;ac_rfl
    _=_:=by rw[J i,dN];simp only[dH,cP,Int.add_assoc]
  .refine I k (qO (g:=f) (by lia) ?_) λp H=>d p (bx _ H);have:=d (a,prow) (bu ..);dsimp only at this;rw[J k,o,this,dO,dO];rfl
  .rcases aE.mp d with rfl|d
   .exact I _ z0 λq Q=>Z q Q
   .exact z2 p d
def AG P L M N (a:L<1000) (pv:List (Nat×LI)) row (k:N+pv.length*(M+1)<=8000) (j:row.length=L) (b:∀x∈row,Bn N x) (m:∀p∈pv,p.1<L/\p.2.length=L/\vc p.2 p.1≠0/\(∀x∈p.2,Bn M x)/\P (vc p.2)) (hw:pv.Pairwise (λp q=>vc q.2 p.1=0)) :
  ∃r:LI,kK c [tI row,.lst (pv.map lX)]=.ok (tI r)/\r.length=L/\(∀x∈r,Bn (N+pv.length*(M+1)) x)/\
   (∃g s y,0<g/\0<s/\Qs P y/\∀i,g*vc r i=s*vc row i+1*y i)/\∀p∈pv,vc r p.1=0:=by
 obtain⟨r,n,o,e,d,f,h,-,l⟩:=qR P (some (.p (.lst (pv.map lX)))) L M a pv row N none none k j b m hw;exact⟨r,gO rfl (fX (i9 rfl e) (gC rfl)),d,f,h,l⟩
def l7(us:LL)(d:Nat)(x:Vc):Prop:=∀k,k<=d->x k=sm us.length λi=>x (d+1+i)*vc (us.getD i []) k
def l7.comb(h:g≠0)(j:l7 us d x)(l:l7 us d y)(e:∀i,g*z i=a*x i+b*y i):l7 us d z:=λk f=>by refine dS h ?_;rw[e k,j k f,l k f,<-zQ,<-vz];refine kj _ _ _ λi _=>?_;have:=e (d+1+i);rw[<-cP g,this];grind
def l7.zero:l7 us d λ_=>0:=λk _=>by
 have:(λi=>0*vc (us.getD i []) k)=λ_=>0:=by funext i;simp
 rw[this,uY]
def l7.qs(h:∀x,P x->l7 us d x)(q:Qs P z):l7 us d z:=by
 induction q with
 |zero=>exact .zero
 |of p=>exact h _ p
 |lin _ _ hs e i1 i2=>exact i1.comb hs i2 e
noncomputable def wr(us:LL)(k:Nat):LI:=us.getD k []++(List.replicate us.length (0:Int)).set k 1
def Al us d k (a:k<us.length) (f:∀u∈us,u.length=d+1) i:vc (wr us k) i=if i<d+1 then vc (us.getD k []) i else if i-(d+1)=k then 1 else 0:=by
 have b:us.getD k []∈us:=by rw[af,ag a];exact aU a
 have e:=f _ b;unfold wr;generalize us.getD k []=u at *;unfold vc;rw[af,List.getElem?_append,e];split
 .rw[af]
 .rw[List.getElem?_set];split
  .rename_i h;rw[aP h.symm];rw[bP];rw[aP (by lia)];rfl
  .rename_i h;rw[aQ (λz=>h z.symm),List.getElem?_replicate];split<;>rfl
def Cc us d k (a:k<us.length) (e:∀u∈us,u.length=d+1):(wr us k).length=d+1+us.length:=by
 have f:us.getD k []∈us:=by rw[af,ag a];exact aU a
 have b:=e _ f;unfold wr;generalize us.getD k []=u at *;simp[b]
def IC(b:1<=B) us k (a:k<us.length) (e:∀u∈us,∀x∈u,Bn B x):∀x∈wr us k,Bn B x:=λx f=>by
 have d:us.getD k []∈us:=by rw[af,ag a];exact aU a
 rcases ai.mp f with h|h
 .exact e _ d x h
 .rcases eW h with h|h
  .rw[a9 h];exact vq
  .rw[h];have:Bn 1 1:=by unfold Bn;decide
   exact this.mono b
def Jx us d k (a:k<us.length) (b:∀u∈us,u.length=d+1):l7 us d (vc (wr us k)):=λp e=>by
 rw[Al us d k a b p,aP (by lia)];have:(λi=>vc (wr us k) (d+1+i)*vc (us.getD i []) p)=λi=>(if i=k then 1 else 0)*vc (us.getD i []) p:=by funext i;rw[Al us d k a b (d+1+i),aQ (by lia),show d+1+i-(d+1)=i by lia]
 rw[this,zU _ k _ a]
noncomputable def Pq(B:Nat):Nat->Nat
 |0=>0
 |1=>B+1
 |2=>2*B+2
 |k+3=>Pq B (k+2)+(B+(k+2)*(Pq B (k+2)+1))+1
def Md B k:B+k*(Pq B k+1)<=Pq B (k+1):=match k with
 |0=>by show B+0*_<=B+1;lia
 |1=>by show B+1*(B+1+1)<=2*B+2;lia
 |k+2=>by show _<=Pq B (k+2)+(B+(k+2)*(Pq B (k+2)+1))+1;lia
def Q3 B k (h:k≠1):Pq B k+(B+k*(Pq B k+1))+1<=Pq B (k+1):=match k with
 |0=>by show 0+(B+0*_)+1<=B+1;lia
 |1=>absurd rfl h
 |k+2=>aJ _
def Mc B k:Pq B k<=Pq B (k+1):=match k with
 |0=>bJ _
 |1=>by show B+1<=2*B+2;lia
 |k+2=>by show _<=Pq B (k+2)+(B+(k+2)*(Pq B (k+2)+1))+1;lia
def Mn{r m:Vc}{t u:Int}(hr:Po r)(g:t≠0)(h:∀i,t*r i=u*m i)(x:Nat)(n:r x≠0) i:(r i).natAbs<=(m i).natAbs:=by
 obtain⟨b,e⟩:=cF t u;obtain⟨a,f⟩:=cG t u;have v:Int.gcd t u≠0:=λz=>g ((Int.gcd_eq_zero_iff.mp z).1);have d:Int.gcd b a=1:=by
  have k:=Int.gcd_mul_left (Int.gcd t u:Int) b a;rw[<-e,<-f]at k;have q:Int.gcd t u*1=Int.gcd t u*Int.gcd b a:=by rw[Nat.mul_one];simpa using k
  exact (cO (by lia) q).symm
 have j:∀i,b*r i=a*m i:=λi=>by
  have l:(Int.gcd t u:Int)*(b*r i)=t*r i:=by rw[<-cP,<-e]
  have p:(Int.gcd t u:Int)*(a*m i)=u*m i:=by rw[<-cP,<-f]
  exact dS (show (Int.gcd t u:Int)≠0 by lia) (l.trans ((h i).trans p.symm))
 have o:=hr a (λi=>JY ⟨m i,j i⟩ (by rw[cV];exact d)) ⟨x,n⟩;have s:b≠0:=λz=>g (by rw[e,z,dO]);have:=congrArg Int.natAbs (j i);rw[aX,aX,o,Nat.one_mul]at this;rw[<-this];exact dD _ (by lia)
def NF{r p z:Vc}{k a b:Int}(hr:Po r)(d:k≠0)(h:∀i,k*r i=a*p i+b*z i)(y:Nat)(g:r y=0)(ne:p y≠0\/z y≠0)(x:Nat)(f:r x≠0) i:(r i).natAbs<=(z y*p i-p y*z i).natAbs:=by
 have e:=h y;rw[g,dO]at e;rcases ne with q|q
 .exact Mn (t:=p y*k) (u:=-b) (m:=λi=>z y*p i-p y*z i) hr (cU q d) (λi=>by have:=h i;grind) x f i
 .exact Mn (t:=z y*k) (u:=a) (m:=λi=>z y*p i-p y*z i) hr (cU q d) (λi=>by have:=h i;grind) x f i
def Of{r y:Vc}(h:Qs P y)(g:∀x,P x->x=r):∃s a:Int,s≠0/\∀i,s*y i=a*r i:=by obtain⟨s,a,b,f,q,e⟩:=Qs.split (P:=λ_=>False) (r:=r) (h.mono λx d=>.inr (g x d));exact⟨s,a,f,λi=>by rw[e i,Nd.nil b q (λ_ h=>nomatch h) i,dM]⟩
structure PV(us:LL)(d B:Nat)(dn:List Nat)(pv:List (Nat×LI))(rs:LL)(ix:List Nat):Prop where
 len:pv.length=ix.length
 pl:∀p∈pv,p.1<d/\p.2.length=d+1+us.length/\vc p.2 p.1≠0/\(∀x∈p.2,Bn (Pq B pv.length) x)/\l7 us d (vc p.2)/\∀i,i∉ix->vc p.2 (d+1+i)=0
 pw:pv.Pairwise λp q=>p.1≠q.1/\vc q.2 p.1=0/\vc p.2 q.1=0
 rr:∀r∈rs,r.length=d+1+us.length/\(∀k,k<d->vc r k=0)/\l7 us d (vc r)/\(∀i,i∉dn->vc r (d+1+i)=0)/\∀x∈r,Bn (B+d*(Pq B d+1)) x
 sub:∀i∈ix,i∈dn
 sp:∀z∈dn,Qs (λx=>(∃p∈pv,x=vc p.2)\/∃r∈rs,x=vc r) (vc (wr us z))
def PV.short{pv:List (Nat×LI)}(h:PV us d B dn pv rs ix):pv.length<=d:=by
 have nd:=eX.mpr (h.pw.imp λq=>q.1);have:=v7 d (pv.map Prod.fst) nd λx b=>by obtain⟨p,a,rfl⟩:=aC.mp b;exact (h.pl p a).1
 simpa using this
def MK(h:k<=d):Pq B k<=Pq B d:=by
 induction h with
 |refl=>exact aJ _
 |step _ ih=>exact aM ih (Mc B _)
def Qs.at_zero(h:∀x,P x->x k=0)(q:Qs P z):z k=0:=Qs.at0 h q
def Lw{pv:List (Nat×LI)}(h:PV us d B dn pv rs ix)(w:l7 us d (vc (wr us z)))(hw:∀i,i≠z->vc (wr us z) (d+1+i)=0)(L:0<g)(K:0<s)(m:Qs (Qp pv) y)(e:∀i,g*vc left i=s*vc (wr us z) i+1*y i)
  (F:left.length=d+1+us.length) (C:∀k,k<d->vc left k=0) (A:∀x∈left,Bn (B+d*(Pq B d+1)) x):PV us d B (dn++[z]) pv (rs++[left]) ix:=by
 have D:=l7.qs (λx ⟨p,j,f⟩=>by rw[f];exact (h.pl p j).2.2.2.2.1) m;refine⟨h.len,h.pl,h.pw,λr hr=>?_,λi l=>ax _ (h.sub i l),λv n=>?_⟩
 .rcases ai.mp hr with hr|hr
  .obtain⟨H,J,I,E,u⟩:=h.rr r hr;exact⟨H,J,I,λi l=>E i (λq=>l (ax _ q)),u⟩
  .rw[aj.mp hr];refine⟨F,C,w.comb (by lia) D e,λi l=>?_,A⟩;refine qO (g:=g) (by lia) ?_;rw[e,hw i (λq=>l (by simp[q]))];have:=Qs.at_zero (λx ⟨p,j,f⟩=>by rw[f];exact (h.pl p j).2.2.2.2.2 i (λq=>l (ax _ (h.sub i q)))) m;rw[this];simp
 .rcases ai.mp n with q|q
  .exact (h.sp v q).mono λx o=>by
    rcases o with⟨p,j,f⟩|⟨r,hr,f⟩
    .exact .inl ⟨p,j,f⟩
    .exact .inr ⟨r,ax _ hr,f⟩
  .rw[aj.mp q];exact .lin (s:=s) (a:=g) (b:=-1) (.of (.inr ⟨left,by simp,rfl⟩)) (m.mono λx ⟨p,j,f⟩=>.inl ⟨p,j,f⟩) (by lia) λi=>by have:=e i;lia
def GA{pv:List (Nat×LI)}(h:PV us d B dn pv rs ix)(hz:l7 us d (vc (wr us z)))(hw:∀i,i≠z->vc (wr us z) (d+1+i)=0)(hg:0<g)(hs:0<s)(Q:Qs (Qp pv) y)(e:∀i,g*vc left i=s*vc (wr us z) i+1*y i)
  (hl:left.length=d+1+us.length) (m:∀p∈pv,vc left p.1=0) (hb:∀x∈left,Bn (B+pv.length*(Pq B pv.length+1)) x) (ha:a<d) (E:vc left a≠0) (f:Nat×LI->LI)
  (v:∀p∈pv,(f p).length=p.2.length/\(∀x∈f p,Bn (Pq B (pv.length+1)) x)/\vc (f p) a=0/\∃g s b:Int,0<g/\0<s/\∀i,g*vc (f p) i=s*vc p.2 i+b*vc left i) :
  PV us d B (dn++[z]) (pv.map (λp=>(p.1,f p))++[(a,left)]) rs (ix++[z]):=by
 have ly:=l7.qs (λx ⟨p,j,n⟩=>by rw[n];exact (h.pl p j).2.2.2.2.1) Q;have U:=hz.comb (by lia) ly e;have R:∀i,i∉ix++[z]->vc left (d+1+i)=0:=λi l=>by refine qO (g:=g) (by lia) ?_;rw[e,hw i (λq=>l (by simp[q]))];have:=Qs.at_zero (λx ⟨p,j,n⟩=>by rw[n];exact (h.pl p j).2.2.2.2.2 i (λq=>l (ax _ q))) Q;rw[this];simp
 have ne:∀p∈pv,p.1≠a:=λp j q=>E (q▸m p j);refine⟨by simp[h.len],λp j=>?_,?_,λr hr=>?_,λi l=>?_,λz' K=>?_⟩
 .simp only[aS,aw,bZ];rcases ai.mp j with j|j
  .obtain⟨o,k,rfl⟩:=aC.mp j;obtain⟨L,N,P,X,J,a6⟩:=h.pl o k;obtain⟨f1,f2,f3,A,H,w,D,C,u⟩:=v o k;refine⟨L,by rw[f1,N],λq=>P ?_,f2,J.comb (by lia) U u,λi l=>?_⟩
   .have:=u o.1;rw[q,m o k,dO,dO,dJ]at this;exact qO (g:=H) (by lia) this.symm
   .refine qO (g:=A) (by lia) ?_;rw[u,a6 i (λq=>l (ax _ q)),R i l];simp
  .rw[aj.mp j];exact⟨ha,hl,E,λx I=>(hb x I).mono (Md B _),U,R⟩
 .refine eY.mpr ⟨eX.mpr (h.pw.imp_of_mem λ{p q} j F r=>?_),eZ _ _,λp j q F=>?_⟩
  .obtain⟨r1,r2,r3⟩:=r;obtain⟨_,_,_,A,H,w,D,C,u⟩:=v p j;obtain⟨_,_,_,g2,s2,b2,hg2,hs2,v2⟩:=v q F;refine⟨r1,qO (g:=g2) (by lia) ?_,qO (g:=A) (by lia) ?_⟩
   .rw[v2,r2,m p j];simp
   .rw[u,r3,m q F];simp
  .obtain⟨o,k,rfl⟩:=aC.mp j;rw[aj.mp F];exact⟨ne o k,m o k,(v o k).2.2.1⟩
 .obtain⟨L,N,P,X,J⟩:=h.rr r hr;exact⟨L,N,P,λi l=>X i (λq=>l (ax _ q)),J⟩
 .rcases ai.mp l with l|l
  .exact ax _ (h.sub i l)
  .exact bE _ l
 .let Z:Vc->Prop:=λx=>(∃p∈pv.map (λp=>(p.1,f p))++[(a,left)],x=vc p.2)\/∃r∈rs,x=vc r;have S:Qs Z (vc left):=.of (.inl ⟨(a,left),by simp,rfl⟩);have Y:∀p∈pv,Qs Z (vc p.2):=λp j=>by obtain⟨_,_,_,A,H,w,D,C,u⟩:=v p j;exact .lin (s:=H) (a:=A) (b:=-w) (.of (.inl ⟨(p.1,f p),ax _ (aC.mpr ⟨p,j,rfl⟩),rfl⟩)) S (by lia) λi=>by have:=u i;have e2:-w*vc left i = -(w*vc left i):=dY _ _;dsimp only at this ⊢;lia
  rcases ai.mp K with q|q
  .exact (h.sp z' q).sub λx I=>by
    rcases I with⟨p,j,n⟩|⟨r,hr,n⟩
    .rw[n];exact Y p j
    .exact .of (.inr ⟨r,hr,n⟩)
  .rw[aj.mp q];exact .lin (s:=s) (a:=g) (b:=-1) S (Q.sub λx ⟨p,j,n⟩=>by rw[n];exact Y p j) (by lia) λi=>by have:=e i;lia
structure R8(d B:Nat):Prop where
 b1:1<=B
 le:∀k,k<=d->B+k*(Pq B k+1)<=8000
 pq:Pq B d<=8000
def QS us d k (a:k<us.length) (b:∀u∈us,u.length=d+1):∀i,i≠k->vc (wr us k) (d+1+i)=0:=λi e=>by rw[Al us d k a b,aQ (by lia),aQ (by lia)]
theorem CG us d B (hd:d<=4) (hn:us.length<=8) (hl:∀u∈us,u.length=d+1) (hb:∀u∈us,∀x∈u,Bn B x) (hB:R8 d B) zs (hz:∀z∈zs,z<us.length) (hzl:zs.length<=8) :
  ∃pv C U,jo c [.lst ((zs.map (wr us)).map tI),.int (d:Int)]=.ok (.tup [.lst (pv.map lX),.lst (C.map tI)])/\PV us d B zs pv C U/\C.length<=8:=by
 have sz:1000<sizeLine:=by decide
 have hrm:BD (d:Int)=true:=l8 (by lia);obtain⟨ρ,e,pv,C,U,x4,x5,x6,rfl,F,hrs⟩:=iV (m:=jA 4) (g:=kQ c) (λz=>tI (wr us z))
  (λk ρ=>∃(pv:List (Nat×LI)) (C:LL) (U:List Nat) (x4 x5 x6:Option W),ρ=[some (.p (.lst ((zs.map (wr us)).map tI))),some (.p (.int (d:Int))),some (.p (.lst (pv.map lX))),some (.o (C.map tI)),x4,x5,x6]/\PV us d B (zs.take k) pv C U/\C.length<=k)
  zs 0 _ ⟨[],[],[],none,none,none,rfl,⟨rfl,(λp w=>nomatch w),List.Pairwise.nil,(λp w=>nomatch w),(λp w=>nomatch w),(λz hz=>by simp at hz)⟩,aJ _⟩ (by
   rintro k z ρ Q ⟨pv,C,U,x4,x5,x6,rfl,F,hrs⟩;rw[aF]at F hrs ⊢;have J:=hz z (au Q);have hkl:=(aa.mp Q).1;have X:=F.short;have N:=Jx us d z J hl;have hww:=QS us d z J hl;have hbb:=hB.le pv.length X;obtain⟨left,el,hll,L,⟨g,s,y,hg,hs,hy,ey⟩,h0⟩:=AG (c:=c) (Qp pv) (d+1+us.length) (Pq B pv.length) B (by lia) pv (wr us z) hbb (Cc us d z J hl) (IC hB.b1 us z J hb) (λp w=>by obtain⟨q1,q2,q3,q4,_⟩:=F.pl p w;exact⟨by lia,q2,q3,q4,p,w,rfl⟩) (F.pw.imp λh=>h.2.1)
   let H:List Nat:=(List.range d).filter λj=>left.getD j 0 != 0;let R:En:=[some (.p (.lst ((zs.map (wr us)).map tI))),some (.p (.int (d:Int))),some (.p (.lst (pv.map lX))),some (.o (C.map tI)),some (.p (tI (wr us z))),some (.p (tI left)),some (.p (.lst (H.map λ(j:Nat)=>T.int (j:Int))))];have e4:ka [none,some 5] (kY (fR (fS 1) fV)) (jP 0) (gI (fZ (gD true) (fZ gX (fS 1) (fS 0)) (cM (.int 0)))) (mL c) (lY [some (.p (.lst ((zs.map (wr us)).map tI))),some (.p (.int (d:Int))),some (.p (.lst (pv.map lX))),some (.o (C.map tI)),some (.p (tI (wr us z))),some (.p (tI left)),x6])=.ok (H.map λ(j:Nat)=>T.int (j:Int)):=oK (List.range d) (λ(j:Nat)=>T.int (j:Int)) (λ(j:Nat)=>T.int (j:Int)) (λj=>left.getD j 0 != 0) (by simp[hrm,Kb]) (by simp;lia) (λj hj=>⟨_,rfl,gz (fW (fW rfl rfl (jV left j (by have:=aR.mp hj;lia))) rfl (lV _ _)),λ_=>rfl⟩) rfl
   have Y:nV (H.map λ(j:Nat)=>T.int (j:Int))=true:=ou _ _ λ_ _=>rfl;have hdeps:rK (H.map λ(j:Nat)=>T.int (j:Int))<=90:=aM (n5 _ 0 _ λ_ _=>aJ _) (by decide);have I:gI (fZ (gD false) (fS 6) (iT (lstM fV))) (vw R)=.ok H.isEmpty:=by refine gz (fW (x:=.lst (H.map λ(j:Nat)=>T.int (j:Int))) (y:=.lst []) rfl (by simp) ?_);rw[zG false _ Y hdeps];simp
   have pre:∀r,(j5 (gI (fZ (gD false) (fS 6) (iT (lstM fV)))) (oy 3 (iD (fS 5))) (setO 2 (iD (iT (jY (fR (fS 2) (fR (fS 5) (fR (fZ gX (fS 6) (cM (.int 0))) fV))) (kH c)))))) R=r->
     kQ c [some (.p (.lst ((zs.map (wr us)).map tI))),some (.p (.int (d:Int))),some (.p (.lst (pv.map lX))),some (.o (C.map tI)),some (.p (tI (wr us z))),x5,x6]=r:=λr hr=>
    fX (gy (t:=tI left) (ig rfl rfl el) rfl) (fX (gy (t:=.lst (H.map λ(j:Nat)=>T.int (j:Int))) (jw e4) rfl) hr)
   have mono:B+pv.length*(Pq B pv.length+1)<=B+d*(Pq B d+1):=b9 (fg X (Nat.add_le_add_right (MK X) 1)) _;have tk:zs.take (k+1)=zs.take k++[z]:=ji zs k z Q;cases E:H with
   |nil=>refine⟨_,_,rfl,.inl (pre _ (hU (by rw[I,E];rfl) (tw (t:=tI left) rfl rfl (by simp;lia) rfl))),pv,C++[left],U,_,_,_,by rw[aY];rfl,?_,by simp;lia⟩;rw[tk];refine Lw F N hww hg hs hy ey hll (λi him=>?_) (λx D=>(L x D).mono mono);refine aN λhc=>?_;have:i∈H:=aT.mpr ⟨aR.mpr him,by simpa[vc] using hc⟩;rw[E]at this;exact nomatch this
   |cons v js=>
    have hj0:v∈H:=by rw[E];exact bu ..
    have S:v<d:=aR.mp (aT.mp hj0).1;have A:vc left v≠0:=by have:=(aT.mp hj0).2;simpa[vc] using this
    have Z:pv.length+1<=d:=by
     have nd:(v::pv.map Prod.fst).Nodup:=bM.mpr ⟨λhm=>by obtain⟨p,w,ep⟩:=aC.mp hm;exact A (ep▸h0 p w),eX.mpr (F.pw.imp λq=>q.1)⟩
     have:=v7 d _ nd λx D=>by
      rcases aE.mp D with rfl|D
      .exact S
      .obtain⟨p,w,rfl⟩:=aC.mp D;exact (F.pl p w).1
     simpa using this
    have hP:Pq B (pv.length+1)<=8000:=aM (MK Z) hB.pq;obtain⟨f,hf⟩:=tF (P:=λ(p:Nat×LI) (r:LI)=>iP c [tI p.2,tI left,.int (v:Int)]=.ok (tI r)/\r.length=p.2.length/\(∀x∈r,Bn (Pq B (pv.length+1)) x)/\vc r v=0/\∃g s b:Int,0<g/\0<s/\∀i,g*vc r i=s*vc p.2 i+b*vc left i) pv λp w=>by
     obtain⟨q1,q2,q3,q4,_⟩:=F.pl p w;have H:=Md B pv.length;by_cases h1:pv.length=1
     .obtain⟨p',ep⟩:=List.length_eq_one_iff.mp h1;rw[ep]at w hy;have e1:=aj.mp w;subst e1;have K:∀x∈p.2,Bn (B+1) x:=λx D=>by have:=q4 x D;rw[h1]at this;exact this
      have hlb':∀x∈left,Bn (2*B+2) x:=λx D=>(L x D).mono (by rw[h1];show B+1*(B+1+1)<=_;lia);have hP2:Pq B (pv.length+1)=2*B+2:=by rw[h1];rfl
      have E:=hB.le 2 (by lia);have hle':B+2*(2*B+2+1)<=8000:=E;obtain⟨r,a1,a2,a3,a4,g1,s1,b1,a5,a6,a7,-,a8⟩:=si (c:=c) (B+1) (2*B+2) p.2 left v (by lia) (by lia) (by lia) (by lia) K hlb' A;refine⟨r,a1,a2,?_,a4,g1,s1,b1,a5,a6,a7⟩;rw[hP2];rcases a8 with rfl|a8
      .exact λx D=>(K x D).mono (by lia)
      .obtain⟨s2,a,hs2,ea⟩:=Of (r:=vc p.2) hy (λx ⟨q,hq,ex⟩=>by rw[ex,aj.mp hq]);have rx:vc r p.1≠0:=λz=>q3 (by have:=a7 p.1;rw[z,h0 p (by rw[ep];exact w),dO,dO,dJ]at this;exact qO (g:=s1) (by lia) this.symm)
       have e2:∀i,s2*g*g1*vc r i=(s2*g*s1+b1*a)*vc p.2 i+b1*s2*s*vc (wr us z) i:=λi=>by have e3:=a7 i;have e4:=ey i;have e5:=ea i;grind
       have ne:vc p.2 v≠0\/vc (wr us z) v≠0:=aN λhc=>by have c1:vc p.2 v=0:=aN λq=>hc (.inl q);have c2:vc (wr us z) v=0:=aN λq=>hc (.inr q);have e4:=ey v;have e5:=ea v;rw[c1,dO]at e5;rw[c2,qO hs2 e5,dO,dO,dJ]at e4;exact A (qO (g:=g) (by lia) e4)
       have key:=NF a8 (cU (cU hs2 (by lia)) (by lia)) e2 v a4 ne p.1 rx;have vb:∀{l:LI} {n:Nat} i,(∀x∈l,Bn n x)->Bn n (vc l i):=λ{l n} i h=>by
        by_cases Q:i<l.length
        .rw[nR l i Q];exact h _ (aU Q)
        .rw[qo l i (by lia)];exact vq
       have wb:=IC hB.b1 us z J hb;intro x D;obtain⟨i,Q,rfl⟩:=dQ.mp D;rw[<-nR r i Q];refine b8 (key i) ?_;have t1:=((vb (n:=B) v wb).mul (vb (n:=B+1) i K)).add ((vb (n:=B+1) v K).mul (vb (n:=B) i wb)).neg;have:Bn (2*B+2) (vc (wr us z) v*vc p.2 i-vc p.2 v*vc (wr us z) i):=by rw[dw];exact t1.mono (by lia)
       exact this
     .have st:=Q3 B pv.length h1;obtain⟨r,a1,a2,a3,a4,g,s,b,a5,a6,a7,_⟩:=si (c:=c) (Pq B pv.length) (B+pv.length*(Pq B pv.length+1)) p.2 left v (by lia) (by lia) (by lia) (by lia) q4 L A;exact⟨r,a1,a2,λx D=>(a3 x D).mono st,a4,g,s,b,a5,a6,a7⟩
    have i0:fZ gX (fS 6) (cM (.int 0)) (lY R)=.ok (.int (v:Int)):=fW (x:=.lst (H.map λ(j:Nat)=>T.int (j:Int))) rfl rfl (by rw[E];exact QF _ _);have e5:=xI (c:=c) pv left v f (by lia) λp w=>(hf p w).1;refine⟨_,_,rfl,.inl (pre _ (gS (by rw[I,E];rfl) (gy (jw (Gw rfl rfl i0 e5)) rfl))),_,C,U++[z],_,_,_,rfl,?_,by lia⟩;rw[tk];exact GA F N hww hg hs hy ey hll h0 L S A f λp w=>(hf p w).2)
 rw[aF,dX]at F;rw[aF]at hrs;refine⟨pv,C,U,gO rfl (fX (gy (t:=.lst []) (by simp) rfl) (fX (l5 (ts:=[]) (by simp) rfl) (fX (i9 (by rw[aH];rfl) e) (gC (nW rfl rfl))))),F,by lia⟩
noncomputable def nQ(pv:List (Nat×LI))(d:Nat):List Nat:=(List.range d).filter λk=>!(pv.map Prod.fst).contains k
def IT neg (k:Nat) (l:List Nat):Ja neg (.int (k:Int)) (.lst (l.map λ(j:Nat)=>T.int (j:Int)))=.ok (.bl (if neg then !l.contains k else l.contains k)):=by
 have d:(l.map λ(j:Nat)=>T.int j).all kb=true:=cA.mpr λx e=>by obtain⟨y,-,rfl⟩:=aC.mp e;rfl
 have f:uJ (.int k) (l.map λ(j:Nat)=>T.int j)=l.contains k:=by
  unfold uJ;rw[cx,List.contains_eq_any_beq];congr 1;funext a;show Ey (T.int a) (T.int k)=(k==a);rw[Kq];by_cases h:k=a
  .subst h;simp
  .have b:¬(a=(k:Int)):=by lia
   rw[beq_eq_false_iff_ne.mpr b,beq_eq_false_iff_ne.mpr h]
 show (if kb (T.int (k:Int))&&(l.map λ(j:Nat)=>T.int (j:Int)).all kb then _ else _)=_;rw[d,f];rfl
def wa pv (d:Nat) (e:d<=10) (b:pv.length<=100):kX c [.lst (pv.map lX),.int (d:Int)]=.ok ((nQ pv d).map λ(j:Nat)=>T.int (j:Int)):=by
 have sz:1000<sizeLine:=by decide
 have a:BD d=true:=l8 (by lia);refine pY rfl (fX (gy (t:=.lst ((pv.map Prod.fst).map λ(j:Nat)=>T.int j)) (jw (ku pv lX (λp=>T.int p.1) rfl (by lia) (λp b=>⟨_,rfl,rfl,rfl⟩) (by rw[aH];rfl))) rfl) (zv ?_));exact oK (List.range d) (λj=>T.int j) (λj=>T.int j) (λk=>!(pv.map Prod.fst).contains k) (by simp[a,Kb]) (by simp;lia) (λj f=>⟨_,rfl,gz (fW rfl rfl (IT true j _)),λ_=>rfl⟩) rfl
structure Jn(a:Nat)(x y r:LI):Prop where
 len:r.length=x.length
 at0:vc r a=0
 ex:∃g:Int,0<g/\∀i,g*vc r i = -vc y a*vc x i+vc x a*vc y i
def FI N x y a (C:a<x.length) (A:y.length=x.length) (f:x.length<1000) (E:2*N+1<=8000) (h:∀i∈x,Bn N i) (u:∀i∈y,Bn N i) (F:0<vc x a) (j:vc y a<0) :
  ∃r,iP c [tI x,tI y,.int (a:Int)]=.ok (tI r)/\Jn a x y r/\∀i∈r,Bn (2*N+1) i:=by
 obtain⟨r,e,l,b,z,g,s,w,B,k,v,q,-⟩:=si N N x y a C A f (by lia) h u (by lia);obtain⟨D,m⟩:=q (by lia);have o:pM (vc y a) = -1:=by unfold pM;rw[aQ (by lia),aP j]
 refine⟨r,e,⟨l,z,g,B,λi=>?_⟩,λi n=>(b i n).mono (by lia)⟩;have d:s = -vc y a:=by lia
 have p:w=vc x a:=by rw[m,o];lia
 rw[v i,d,p]
noncomputable def Fo(d:Nat)(r:LI):Nat:=((r.drop (d+1)).filter λw=>w != 0).length
def Bd kvs k t:(uL kvs k t).map Prod.fst=if (kvs.map Prod.fst).contains k then kvs.map Prod.fst else kvs.map Prod.fst++[k]:=by
 have h:(kvs.any λa=>decide (a.1=k))=(kvs.map Prod.fst).contains k:=by grind
 unfold uL;rw[h];split
 .rw[aH];refine List.map_congr_left λa _=>?_;show (if a.1=k then (a.1,t) else a).1=a.1;split<;>rfl
 .simp
def Dq:r∈(uL kvs k t).map Prod.fst↔r∈kvs.map Prod.fst\/r=k:=by
 rw[Bd];split
 .simp_all
 .simp
def EG kvs k t:(uL kvs k t).length<=kvs.length+1:=by have:=congrArg List.length (Bd kvs k t);rw[aw]at this;rw[this];split<;>simp
def rE r (d:Nat) (h:f ρ=.ok (tI r)) (b:fd ρ=.ok (.int (d:Int))):nF f (kL (fZ iG fd (cM (.int 1)))) (λ_=>.ok none) ρ=.ok (tI (r.drop (d+1))):=by
 have a:kL (fZ iG fd (cM (.int 1))) ρ=.ok (some ((d+1:Nat):Int)):=by simp_all
 simp only[nF,h,a,M.bind_ok,tI];rw[EO,List.map_drop]
def Kw(h:f ρ=.ok (tI r)):iB f ρ=.ok (r.map T.int):=by unfold iB;rw[h];rfl
structure Sh(d a:Nat)(rows:LL)(most N:Nat)(ks:LL):Prop where
 from_:∀r∈ks,(r∈rows/\vc r a=0)\/∃x∈rows,∃y∈rows,0<vc x a/\vc y a<0/\Jn a x y r
 bn:∀r∈ks,∀i∈r,Bn (2*N+1) i
def ED(g:ρ[i]? = some (some (.d kvs)))(b:fk (vw ρ)=.ok (tI k))(j:f (vw ρ)=.ok t)(h:lf t=true)(e:kvs.length<sizeLine):wV i (mJ fk) (mJ f) ρ=.nx (ρ.set i (some (.d (uL kvs k t)))):=by
 unfold wV tG mJ;rw[g,b,j];have a:=yc k;simp only[M.bind_ok,h,a,if_true,O.of_ok];show (match kq (k.map T.int) with
  |some ns=>if kvs.length<sizeLine then O.nx (ρ.set i (some (.d (uL kvs ns t)))) else .bad
  |none=>.bad)=_
 rw[FF];simp only[e,if_true]
theorem E7(d a o N:Nat)(L:Nat)(hL:L<1000)(hd:d<L)(ha:a<L)(hN:2*N+1<=8000)(b:LL)(hrl:b.length<=2000)(hr:∀r∈b,r.length=L/\∀i∈r,Bn N i) :
  ∃ks:LL,pK c [.lst (b.map tI),.int (d:Int),.int (a:Int),.int (o:Int)]=.ok (ks.map tI)/\Sh d a b o N ks/\(∀m,4<=m->b.length<=m->4*ks.length<=m*m)/\(∀r∈b,vc r a=0->r∈ks)/\∀x∈b,∀y∈b,0<vc x a->vc y a<0->∃r,Jn a x y r/\(Fo d r<=o->r∈ks):=by
 have sz:10000000<sizeLine:=by decide
 have Q:∀r∈b,gX (tI r) (.int (a:Int))=.ok (.int (vc r a)):=λr A=>jV r a (by rw[(hr r A).1];exact ha);let B (j:List (LI×T)) (v x6 x7 x8:Option W):En:=[some (.p (.lst (b.map tI))),some (.p (.int (d:Int))),some (.p (.int (a:Int))),some (.p (.int (o:Int))),some (.d j),v,x6,x7,x8];obtain⟨ρ1,e1,E,v,rfl,h1,h1l⟩:=iV (m:=jA 5) (g:=yn c) tI
  (λk R=>∃(j:List (LI×T)) (v:Option W),R=B j v none none none/\(∀r,r∈j.map Prod.fst↔r∈b.take k/\vc r a=0)/\j.length<=((b.take k).filter λr=>decide (vc r a=0)).length)
  b 0 (B [] none none none none) ⟨[],none,rfl,λr=>by simp,by simp⟩ (by
   rintro k r R F ⟨j,v,rfl,h,hk⟩;rw[aF]at h hk ⊢;have hm:=au F;have hkr:=(aa.mp F).1;have U:=ji b k r F;have tl:((b.take k).filter λr=>decide (vc r a=0)).length<=k:=aM (fj _ _) (by simp;lia);by_cases Z:vc r a=0
   .refine⟨_,_,rfl,.inl (hU (gz (fW (fW rfl rfl (Q r hm)) rfl (by rw[iA,Z];rfl))) (ED (k:=r) (t:=.bl true) rfl rfl rfl rfl (by lia))),uL j r (.bl true),some (.p (tI r)),rfl,λr'=>?_,aM (EG _ _ _) (by rw[U,fv,aS];simp[Z];exact hk)⟩;rw[Dq,h,U];constructor
    .rintro (⟨l,s⟩|rfl)
     .exact⟨ax _ l,s⟩
     .exact⟨by simp,Z⟩
    .rintro⟨l,s⟩;rcases ai.mp l with q|q
     .exact .inl ⟨q,s⟩
     .exact .inr (aj.mp q)
   .refine⟨_,_,rfl,.inl (gS (gz (fW (fW rfl rfl (Q r hm)) rfl (by rw[iA];simp[Z]))) rfl),j,some (.p (tI r)),rfl,λr'=>?_,aM hk (by rw[U,fv,aS];lia)⟩;rw[h,U];constructor
    .rintro⟨l,s⟩;exact⟨ax _ l,s⟩
    .rintro⟨l,s⟩;rcases ai.mp l with q|q
     .exact⟨q,s⟩
     .rw[aj.mp q]at s;exact absurd s Z)
 rw[aF,dX]at h1 h1l;have zl:(b.filter λr=>decide (vc r a=0)).length<=b.length:=fj _ _;let C:=b.filter λr=>decide (0<vc r a);let u:=b.filter λr=>decide (vc r a<0);have mp:∀x,x∈C↔x∈b/\0<vc x a:=λx=>by show x∈List.filter _ _↔_;simp
 have mn:∀x,x∈u↔x∈b/\vc x a<0:=λx=>by show x∈List.filter _ _↔_;simp
 have pl:C.length<=b.length:=fj _ _;have nl:u.length<=b.length:=fj _ _;obtain⟨J,hJ⟩:∃J:LI×LI->LI,∀p∈(C.flatMap λx=>u.map λy=>(x,y)),iP c [tI p.1,tI p.2,.int (a:Int)]=.ok (tI (J p))/\Jn a p.1 p.2 (J p)/\∀i∈J p,Bn (2*N+1) i:=tF (P:=λ(p:LI×LI) (r:LI)=>iP c [tI p.1,tI p.2,.int (a:Int)]=.ok (tI r)/\Jn a p.1 p.2 r/\∀i∈r,Bn (2*N+1) i) _ λp hp=>by obtain⟨x,X,hp⟩:=List.mem_flatMap.mp hp;obtain⟨y,hy,rfl⟩:=aC.mp hp;obtain⟨x1,x2⟩:=(mp x).mp X;obtain⟨y1,y2⟩:=(mn y).mp hy;exact FI (c:=c) N x y a (by rw[(hr x x1).1];exact ha) (by rw[(hr x x1).1,(hr y y1).1]) (by rw[(hr x x1).1];exact hL) hN (hr x x1).2 (hr y y1).2 x2 y2
 have S:∀x∈C,∀y∈u,iP c [tI x,tI y,.int (a:Int)]=.ok (tI (J (x,y)))/\Jn a x y (J (x,y))/\∀i∈J (x,y),Bn (2*N+1) i:=λx X y hy=>hJ (x,y) (List.mem_flatMap.mpr ⟨x,X,aC.mpr ⟨y,hy,rfl⟩⟩);have ePs:∀R:En,R[0]? = some (some (.p (.lst (b.map tI))))->R[2]? = some (some (.p (.int (a:Int))))->True:=λ_ _ _=>trivial;have I:∀(x:LI),x∈C->∀(j:List (LI×T)) (v x7 x8:Option W),j.length+u.length<=9000000->∃(f:List (LI×T)) (H D:Option W),iW (jA 7) (tK c) (u.map tI) (B j v (some (.p (tI x))) x7 x8)=.nx (B f v (some (.p (tI x))) H D)/\
   (∀r,r∈f.map Prod.fst↔r∈j.map Prod.fst\/∃y∈u,r=J (x,y)/\Fo d (J (x,y))<=o)/\f.length<=j.length+u.length:=by
  intro x X j v x7 x8 hsz;obtain⟨ρ2,e2,f,H,D,rfl,h2,h2l⟩:=iV (m:=jA 7) (g:=tK c) tI
   (λk R=>∃(f:List (LI×T)) (H D:Option W),R=B f v (some (.p (tI x))) H D/\(∀r,r∈f.map Prod.fst↔r∈j.map Prod.fst\/∃y∈u.take k,r=J (x,y)/\Fo d (J (x,y))<=o)/\f.length<=j.length+k)
   u 0 (B j v (some (.p (tI x))) x7 x8) ⟨j,x7,x8,rfl,λr=>by simp,aJ _⟩ (by
    rintro k y R F ⟨f,H,D,rfl,h,hk⟩;rw[aF]at h hk ⊢;have hm:=au F;have hkr:k<u.length:=(aa.mp F).1;have U:u.take (k+1)=u.take k++[y]:=ji u k y F;obtain⟨f1,f2,f3⟩:=S x X y hm;have sl:nF (fS 8) (kL (fZ iG (fS 1) (cM (.int 1)))) (λ_=>.ok none) (vw (B f v (some (.p (tI x))) (some (.p (tI y))) (some (.p (tI (J (x,y)))))))=.ok (tI ((J (x,y)).drop (d+1))):=rE (J (x,y)) d rfl rfl;have lenJ:(J (x,y)).length=L:=by rw[f2.len,(hr x ((mp x).mp X).1).1]
    have lc:ka [none] (iB (nF (fS 8) (kL (fZ iG (fS 1) (cM (.int 1)))) (λ_=>.ok none))) (jP 0) (gI (fZ (gD true) (fS 0) (cM (.int 0)))) (t9 c) (vw (B f v (some (.p (tI x))) (some (.p (tI y))) (some (.p (tI (J (x,y)))))))=.ok ((((J (x,y)).drop (d+1)).filter λw=>w != 0).map T.int):=oK ((J (x,y)).drop (d+1)) T.int T.int (λw=>w != 0) (Kw sl) (by simp;lia) (λw hw=>⟨_,rfl,gz (fW rfl rfl (by rw[lV];rfl)),λ_=>rfl⟩) rfl
    have Y:gI (fZ HY (jt jE (fR (iT (ka [none] (iB (nF (fS 8) (kL (fZ iG (fS 1) (cM (.int 1)))) (λ_=>.ok none))) (jP 0) (gI (fZ (gD true) (fS 0) (cM (.int 0)))) (t9 c))) fV)) (fS 3)) (vw (B f v (some (.p (tI x))) (some (.p (tI y))) (some (.p (tI (J (x,y)))))))=.ok (decide (Fo d (J (x,y))<=o)):=by
     refine gz (fW (x:=.int (Fo d (J (x,y)):Int)) (y:=.int (o:Int)) (oM (jw lc) (by simp[Fo])) rfl ?_);rw[yV];by_cases q:Fo d (J (x,y))<=o
     .rw[aB q,aB (by lia)]
     .rw[aA q,aA (by lia)]
    have st1:setO 8 (iD (fY (fR (fS 6) (fR (fS 7) (fR (fS 2) fV))) (iP c))) (B f v (some (.p (tI x))) (some (.p (tI y))) D)=.nx (B f v (some (.p (tI x))) (some (.p (tI y))) (some (.p (tI (J (x,y)))))):=gy (j3 rfl rfl rfl f1) rfl;by_cases q:Fo d (J (x,y))<=o
    .refine⟨_,_,rfl,.inl (fX st1 (hU (by rw[Y,aB q]) (ED (k:=J (x,y)) (t:=.bl true) rfl rfl rfl rfl (by lia)))),uL f (J (x,y)) (.bl true),some (.p (tI y)),some (.p (tI (J (x,y)))),rfl,λr=>?_,aM (EG _ _ _) (by lia)⟩;rw[Dq,h,U];constructor
     .rintro ((l|⟨y',l,s⟩)|rfl)
      .exact .inl l
      .exact .inr ⟨y',ax _ l,s⟩
      .exact .inr ⟨y,by simp,rfl,q⟩
     .rintro (l|⟨y',l,s⟩)
      .exact .inl (.inl l)
      .rcases ai.mp l with K|K
       .exact .inl (.inr ⟨y',K,s⟩)
       .rw[aj.mp K]at s;exact .inr s.1
    .refine⟨_,_,rfl,.inl (fX st1 (gS (by rw[Y,aA q]) rfl)),f,some (.p (tI y)),some (.p (tI (J (x,y)))),rfl,λr=>?_,by lia⟩;rw[h,U];constructor
     .rintro (l|⟨y',l,s⟩)
      .exact .inl l
      .exact .inr ⟨y',ax _ l,s⟩
     .rintro (l|⟨y',l,s⟩)
      .exact .inl l
      .rcases ai.mp l with K|K
       .exact .inr ⟨y',K,s⟩
       .rw[aj.mp K]at s;exact absurd s.2 q)
  rw[aF,dX]at h2;rw[aF]at h2l;exact⟨f,H,D,e2,h2,h2l⟩
 have sq:b.length*b.length<=2000*2000:=fg hrl hrl;obtain⟨ρ3,e3,kvs3,y6,H,D,rfl,h3,h3l⟩:=iV (m:=jA 6) (g:=xY c) tI
  (λk R=>∃(j:List (LI×T)) (y6 H D:Option W),R=B j v y6 H D/\(∀r,r∈j.map Prod.fst↔(r∈b/\vc r a=0)\/∃x∈C.take k,∃y∈u,r=J (x,y)/\Fo d (J (x,y))<=o)/\j.length<=(b.filter λr=>decide (vc r a=0)).length+k*u.length)
  C 0 (B E v none none none) ⟨E,none,none,none,rfl,λr=>by rw[h1];simp,by rw[Nat.zero_mul];exact h1l⟩ (by
   rintro k x R F ⟨j,y6,H,D,rfl,h,hk⟩;rw[aF]at h hk ⊢;have hm:=au F;have hkr:k<C.length:=(aa.mp F).1;have U:C.take (k+1)=C.take k++[x]:=ji C k x F;have kn:(k+1)*u.length<=b.length*b.length:=fg (by lia) nl;have kn':(k+1)*u.length=k*u.length+u.length:=b4 _ _;obtain⟨f,z7,z8,e,h',hl'⟩:=I x hm j v H D (by lia);have it:iB (iT (ka [none,some 2] (iB (fS 0)) (jP 0) (gI (fZ By (fZ gX (fS 0) (fS 1)) (cM (.int 0)))) (sV c))) (lY (B j v (some (.p (tI x))) H D))=.ok (u.map tI):=by
    have:ka [none,some 2] (iB (fS 0)) (jP 0) (gI (fZ By (fZ gX (fS 0) (fS 1)) (cM (.int 0)))) (sV c) (lY (B j v (some (.p (tI x))) H D))=.ok (u.map tI):=oK b tI tI (λr=>decide (vc r a<0)) rfl (by lia) (λr A=>⟨_,rfl,gz (fW (fW rfl rfl (Q r A)) rfl (by rw[oH])),λ_=>rfl⟩) rfl
    simp only[iB,iT,this,M.bind_ok]
   refine⟨_,_,rfl,.inl (i9 it e),f,some (.p (tI x)),z7,z8,rfl,λr=>?_,by lia⟩;rw[h',h,U];constructor
   .rintro ((l|⟨x',l,s⟩)|⟨y,l,s⟩)
    .exact .inl l
    .exact .inr ⟨x',ax _ l,s⟩
    .exact .inr ⟨x,by simp,y,l,s⟩
   .rintro (l|⟨x',l,y,s,K⟩)
    .exact .inl (.inl l)
    .rcases ai.mp l with q4|q4
     .exact .inl (.inr ⟨x',q4,y,s,K⟩)
     .rw[aj.mp q4]at K;exact .inr ⟨y,s,K⟩)
 rw[aF,dX]at h3;rw[aF]at h3l;have it:iB (iT (ka [none,some 2] (iB (fS 0)) (jP 0) (gI (fZ Ae (fZ gX (fS 0) (fS 1)) (cM (.int 0)))) (tJ c))) (lY (B E v none none none))=.ok (C.map tI):=by
  have:ka [none,some 2] (iB (fS 0)) (jP 0) (gI (fZ Ae (fZ gX (fS 0) (fS 1)) (cM (.int 0)))) (tJ c) (lY (B E v none none none))=.ok (C.map tI):=oK b tI tI (λr=>decide (0<vc r a)) rfl (by lia) (λr A=>⟨_,rfl,gz (fW (fW rfl rfl (Q r A)) rfl (by rw[sP])),λ_=>rfl⟩) rfl
  simp only[iB,iT,this,M.bind_ok]
 have kl:C.length*u.length<=b.length*b.length:=fg pl nl;refine⟨kvs3.map Prod.fst,?_,⟨λr A=>?_,λr A=>?_⟩,λm hm hrm=>?_,λr A Z=>(h3 r).mpr (.inl ⟨A,Z⟩),λx X y hy px ny=>⟨J (x,y),(S x ((mp x).mpr ⟨X,px⟩) y ((mn y).mpr ⟨hy,ny⟩)).2.1,λq=>(h3 _).mpr (.inr ⟨x,(mp x).mpr ⟨X,px⟩,y,(mn y).mpr ⟨hy,ny⟩,rfl,q⟩)⟩⟩
 .refine pY rfl (fX (ρ':=B [] none none none none) rfl (fX (i9 rfl e1) (fX (i9 it e3) ?_)));show O.rf _=O.rf _;rw[aH];rfl
 .rcases (h3 r).mp A with q|⟨x,qx,y,qy,rfl,_⟩
  .exact .inl q
  .exact .inr ⟨x,((mp x).mp qx).1,y,((mn y).mp qy).1,((mp x).mp qx).2,((mn y).mp qy).2,(S x qx y qy).2.1⟩
 .rcases (h3 r).mp A with q|⟨x,qx,y,qy,rfl,_⟩
  .exact λi F=>((hr r q.1).2 i F).mono (by lia)
  .exact (S x qx y qy).2.2
 .have cnt3:(b.filter λr=>decide (vc r a=0)).length+C.length+u.length=b.length:=by
   show (List.filter _ _).length+(List.filter _ _).length+(List.filter _ _).length=_;clear hrl hr Q B e1 h1 h1l hJ S I sq e3 h3 h3l it kl mp mn pl nl zl hrm ePs;induction b with
   |nil=>rfl
   |cons r b ih=>
    simp only[List.filter_cons,ay];rcases fw (vc r a) 0 with q|q|q
    .have l:¬vc r a=0:=by lia
     have s:¬0<vc r a:=by lia
     simp only[q,l,s,decide_true,decide_false,if_true,if_false,ay,cf];lia
    .have l:¬vc r a<0:=by lia
     have s:¬0<vc r a:=by lia
     simp only[q,l,s,decide_true,decide_false,if_true,if_false,ay,cf];simp only[Int.lt_irrefl,decide_false,if_false,cf];lia
    .have l:¬vc r a<0:=by lia
     have s:¬vc r a=0:=by lia
     simp only[q,l,s,decide_true,decide_false,if_true,if_false,ay,cf];lia
  rw[aw];generalize (b.filter λr=>decide (vc r a=0)).length=z at *;generalize C.length=p at *;generalize u.length=n at *;refine aM (eV 4 h3l) ?_;have a1:4*(p*n)<=(p+n)*(p+n):=by
   have h1:(4*(p*n):Int)<=((p:Int)+n)*(p+n):=by
    have:0<=((p:Int)-n)*(p-n):=by
     rcases Int.le_total (p:Int) n with q|q
     .exact Int.mul_nonneg_of_nonpos_of_nonpos (by lia) (by lia)
     .exact aO (by lia) (by lia)
    grind
   have:((4*(p*n):Nat):Int)<=(((p+n)*(p+n):Nat):Int):=by push_cast;exact h1
   exact Int.ofNat_le.mp this
  have a2:4*z+(p+n)*(p+n)<=m*m:=by
   have e:∃k,m=z+(p+n)+k:=⟨m-(z+(p+n)),by lia⟩;obtain⟨k,rfl⟩:=e;have e2:(z+(p+n)+k)*(z+(p+n)+k)=(p+n)*(p+n)+(z+k)*(z+k+2*(p+n)):=by grind
   rw[e2];have:4*z<=(z+k)*(z+k+2*(p+n)):=by
    by_cases Z:z+k+2*(p+n)<4
    .grind
    .have:=fg (cq z k) (show 4<=z+k+2*(p+n) by lia);lia
   lia
  lia
structure Ru(d k j a:Nat)(G G':LL):Prop where
 from_:∀r∈G',(r∈G/\vc r a=0)\/∃x∈G,∃y∈G,0<vc x a/\vc y a<0/\Jn a x y r
 stay:∀r∈G,vc r a=0->r∈G'
 join:∀x∈G,∀y∈G,0<vc x a->vc y a<0->∃r,Jn a x y r/\(Fo d r<=j+2+k->r∈G')
inductive Ik(d k:Nat):Nat->LL->List Nat->List (LL)->Prop
 |nil {j:Nat} {G:LL}:Ik d k j G [] [G]
 |cons {j a:Nat} {G G':LL} {pls:List Nat} {ls:List (LL)}:Ru d k j a G G'->Ik d k (j+1) G' pls ls->Ik d k j G (a::pls) (G::ls)
def Ik.snoc{d k j:Nat}{i G g:LL}{f:List Nat}{e:List (LL)}{a:Nat}(h:Ik d k j i f (e++[G]))(s:Ru d k (j+f.length) a G g):Ik d k j i (f++[a]) (e++[G,g]):=by
 generalize b:e++[G]=m at h;induction h generalizing e with
 |nil=>
  rename_i j l;cases e with
  |nil=>simp at b;subst b;exact .cons s .nil
  |cons x e=>simp at b
 |cons s' h' ih=>
  cases e with
  |nil=>simp at b;obtain⟨rfl,rfl⟩:=b;cases h'
  |cons x e=>simp at b;obtain⟨rfl,b⟩:=b;refine .cons s' (ih ?_ b);rw[ay]at s;rw[Nat.add_assoc,Nat.add_comm 1];exact s
noncomputable def Nb(N:Nat):Nat->Nat
 |0=>N
 |j+1=>2*Nb N j+1
noncomputable def Mb:Nat->Nat
 |0=>8
 |j+1=>Mb j*Mb j / 4
def Ef N (h:i<=j):Nb N i<=Nb N j:=by
 induction h with
 |refl=>exact aJ _
 |step _ ih=>exact aM ih (by show _<=2*Nb N _+1;lia)
def Lr(b:ρ[i]? = some (some (.o us)))(h:f (vw ρ)=.ok ts)(d:zj ts=true)(a:us.length<sizeLine)(hr:ρ'=ρ.set i (some (.o (us++[.lst ts])))):yd i (tT f) ρ=.nx ρ':=by unfold yd tT mC;rw[b,h,hr];simp[a,d]
def Eb xs x:gX (.lst (xs++[x])) (.int (-1))=.ok x:=by
 have h:rN (xs++[x]) (-1)=some x:=by
  unfold rN xi;have b:1<=(xs.length:Int)+1:=by lia
  have a:(-1+((xs.length:Int)+1)).toNat=xs.length:=by lia
  simp[b,a]
 simp[gX,h]
def Rg(h:f ρ=.ok a):lstM (fR f fV) ρ=.ok [a]:=CQ (L9 h)
theorem CU(d L N:Nat)(Z:L<1000)(hd:d<L)(b:LL)(E:b.length<=8)(hr:∀r∈b,r.length=L/\∀i∈r,Bn N i)(pv:List (Nat×LI))(hp:pv.length<=100)(f:List Nat)(hpl:f.length<=4)(ha:∀a∈f,a<L)(hN:Nb N f.length<=8000) :
  ∃h,oj c [.lst (b.map tI),.int (d:Int),.lst (f.map λ(j:Nat)=>T.int (j:Int)),.lst (pv.map lX)]=.ok (h.map λg=>T.lst (g.map tI))/\Ik d pv.length 0 b f h/\∀(i:Nat) G,h[i]? = some G->∀r∈G,r.length=L/\∀x∈r,Bn (Nb N i) x:=by
 have sz:1000<sizeLine:=by decide
 let R (h:List (LL)) (w v:Option W):En:=[some (.p (.lst (b.map tI))),some (.p (.int (d:Int))),some (.p (.lst (f.map λ(j:Nat)=>T.int (j:Int)))),some (.p (.lst (pv.map lX))),some (.o (h.map λg=>T.lst (g.map tI))),w,v];obtain⟨C,e,h,G,w,v,rfl,A,u,K,B⟩:=iV (m:=jA 5) (g:=v5 c) (λ(j:Nat)=>T.int (j:Int))
  (λk C=>∃(h:List (LL)) (G:LL) (w v:Option W),C=R (h++[G]) w v/\Ik d pv.length 0 b (f.take k) (h++[G])/\h.length=k/\G.length<=Mb k/\∀(i:Nat) H,(h++[G])[i]? = some H->∀r∈H,r.length=L/\∀x∈r,Bn (Nb N i) x)
  f 0 (R [b] none none) ⟨[],b,none,none,rfl,.nil,rfl,E,λi H n=>by
   cases i with
   |zero=>simp at n;subst n;exact hr
   |succ i=>simp at n⟩ (by
   rintro k a C n ⟨h,G,w,v,rfl,A,u,K,B⟩;rw[aF]at A u K ⊢;have X:=au n;have hk:=(aa.mp n).1;have tk:=ji f k a n;have I:=B k G (by rw[List.getElem?_append_right (by lia),u];simp);have hM:Mb k<=1024/\4<=Mb k:=by
    have:k=0\/k=1\/k=2\/k=3:=by lia
    rcases this with rfl|rfl|rfl|rfl<;>decide
   have J:=aM (Ef N (show k+1<=f.length by lia)) hN;obtain⟨S,f1,F,f3,f4,f5⟩:=E7 d a (k+2+pv.length) (Nb N k) L Z hd (ha a X) J G (by lia) I;have hlenls:(h++[G]).length=k+1:=by simp[u]
   have step:Ru d pv.length (0+(f.take k).length) a G S:=⟨F.from_,f4,λx D y U px ny=>by obtain⟨r,q1,q2⟩:=f5 x D y U px ny;refine⟨r,q1,λq=>q2 ?_⟩;rw[bO]at q;lia⟩
   have Y:fZ iG (fZ iG (jt jE (fR (fS 4) fV)) (cM (.int 1))) (jt jE (fR (fS 3) fV)) (vw (R (h++[G]) (some (.p (.int (a:Int)))) v))=.ok (.int ((k+2+pv.length:Nat):Int)):=by refine fW (x:=.int ((k+2:Nat):Int)) (y:=.int (pv.length:Int)) (fW (x:=.int ((k+1:Nat):Int)) (oM (t:=.lst ((h++[G]).map λg=>T.lst (g.map tI))) rfl (by simp[u])) rfl (by rw[iU];congr 2)) (oM (t:=.lst (pv.map lX)) rfl (by simp)) (by rw[iU];congr 2)
   have e7:gX (.lst ((h++[G]).map λg=>T.lst (g.map tI))) (.int (-1))=.ok (.lst (G.map tI)):=by rw[aY];exact Eb _ _
   refine⟨_,_,rfl,.inl (fX (vf Y rfl rfl) (Lr (us:=(h++[G]).map λg=>T.lst (g.map tI)) rfl (ts:=S.map tI) (BJ (x:=.lst (G.map tI)) (fW rfl (tV rfl) e7) rfl rfl rfl f1) (KH _) (by simp[u];lia) rfl)),h++[G],S,some (.p (.int (a:Int))),some (.p (.int ((k+2+pv.length:Nat):Int))),?_,?_,by simp[u],?_,λi H l r s=>?_⟩
   .show List.set _ _ _=_;simp[R]
   .rw[tk];have:=A.snoc step;simpa using this
   .have:=f3 (Mb k) hM.2 K;show _<=Mb k*Mb k / 4;lia
   .by_cases Q:i<(h++[G]).length
    .rw[List.getElem?_append_left Q]at l;exact B i H l r s
    .rw[List.getElem?_append_right (by lia)]at l;have P:i-(h++[G]).length=0:=by
      rcases cX (i-(h++[G]).length) with q|q
      .exact q
      .rw[List.getElem?_eq_none (by simp;lia)]at l;cases l
     rw[P]at l;simp at l;subst l;have z:i=k+1:=by lia
     subst z;refine⟨?_,F.bn r s⟩;rcases F.from_ r s with q|⟨x,D,y,U,_,_,hj⟩
     .exact (I r q.1).1
     .rw[hj.len];exact (I x D).1)
 rw[aF,dX]at A;exact⟨h++[G],pY rfl (fX (l5 (ts:=[.lst (b.map tI)]) (Rg rfl) rfl) (fX (i9 rfl e) rfl)),A,B⟩
end CL
namespace CL
def Cn.posQ{f:Vc->Rat}(j:∀x y z (s a b:Int),(∀i,s*z i=a*x i+b*y i)->(s:Rat)*f z=(a:Rat)*f x+(b:Rat)*f y)(n:∀x,P x->0<f x)(h:Cn P z):0<f z:=by
 induction h with
 |of h=>exact n _ h
 |lin _ _ hs ha hb hab e i1 i2=>
  rename_i x y z s a b _ _;have q:=j _ _ _ _ _ _ e;have l:(0:Rat)<(s:Rat):=mR hs;have:0<(a:Rat)*f x+(b:Rat)*f y:=by
   by_cases k:a=0
   .subst k;have d:(0:Rat)<(b:Rat):=mR (by lia);have:=eK d i2;simp;grind
   .have g:(0:Rat)<(a:Rat):=mR (by lia);have p:=eK g i1;by_cases m:b=0
    .subst m;simp;grind
    .have d:(0:Rat)<(b:Rat):=mR (by lia);have o:=eK d i2;grind
  rw[<-q]at this;refine fz (c:=(s:Rat)) ?_ (eL l);simpa using this
noncomputable def Lt(m:Nat)(g:Nat->Vc)(t:Vc):Vc:=λq=>sm m λj=>t j*g j q
def Jz(h:∀i,s*z i=a*x i+b*y i) q:s*Lt m g z q=a*Lt m g x q+b*Lt m g y q:=by unfold Lt;rw[<-vz,<-zQ];refine kj m _ _ λi _=>?_;rw[<-cP,h i];grind
def Ie m g t p:jb m (λi=>g i p) t=Lt m g t p:=by unfold jb Lt;exact kj m _ _ λi _=>cQ _ _
noncomputable def oX(i:Nat):Vc:=λj=>if j=i then 1 else 0
def uZ m g i (a:i<m) q:Lt m g (oX i) q=g i q:=by unfold Lt oX;exact zU m i (λj=>g j q) a
def yG m:∀n u,cs m u<=n->ko m [] u->Cn (λx=>∃i,i<m/\x=oX i) u:=by
 intro n;induction n with
 |zero=>
  intro u r c;obtain⟨i,e⟩:=c.ne;have d:i<m:=by
   rcases eB i m with h|h
   .exact h
   .exact absurd (c.out i h) e
  have:=Bi (m:=m) (u:=λ_=>0) (v:=u) (λ_ _ _=>rfl) d e rfl;lia
 |succ n ih=>
  intro u r c;obtain⟨i,e⟩:=c.ne;have d:i<m:=by
   rcases eB i m with h|h
   .exact h
   .exact absurd (c.out i h) e
  have B:0<u i:=by have:=c.nn i;lia
  by_cases f:∃j,j≠i/\u j≠0
  .obtain⟨j,w,y⟩:=f;have g:ko m [] (λk=>if k=i then 0 else u k):=⟨λk=>by split;exact eg _;exact c.nn k,λk o=>by split;rfl;exact c.out k o,⟨j,by simp[w,y]⟩,λA p=>nomatch p⟩;have l:=Bi (m:=m) (u:=λk=>if k=i then 0 else u k) (v:=u) (λk _ z=>by split;rfl;exact z) d e (by simp);refine .lin (s:=1) (a:=u i) (b:=1) (.of ⟨i,d,rfl⟩) (ih _ (by lia) g) (by decide) (by lia) (by decide) (by lia) λk=>?_;unfold oX;by_cases q:k=i
   .subst q;simp
   .simp[q]
  .refine .lin (s:=1) (a:=u i) (b:=0) (.of ⟨i,d,rfl⟩) (.of ⟨i,d,rfl⟩) (by decide) (by lia) (by decide) (by lia) λk=>?_;unfold oX;by_cases q:k=i
   .subst q;simp
   .have:u k=0:=aN λz=>f ⟨k,q,z⟩;simp[q,this]
theorem vx{c:Type}[DecidableEq c]:∀{l m:List c},l.Nodup->(∀x∈l,x∈m)->l.length<=m.length
 |[],_,_,_=>bJ _
 |a::l,m,nd,h=>by
  obtain⟨e,f⟩:=bM.mp nd;have b:a∈m:=h a (by simp);have:=vx (m:=m.erase a) f λx d=>by have ne:x≠a:=λz=>e (z▸d);exact (List.mem_erase_of_ne ne).mpr (h x (by simp[d]))
  rw[dZ b]at this;have:0<m.length:=List.length_pos_of_mem b;simp only[ay];lia
structure JN(d n:Nat)(ss ix:List Nat)(sd:LL):Prop where
 len:sd.length=ss.length
 nd:ss.Nodup
 lt:∀i∈ss,i<n
 l:∀r∈sd,r.length=d+1+n
 own:∀j,j<sd.length->vc (sd.getD j []) (d+1+ss.getD j 0)≠0
 oth:∀j,j<sd.length->∀i,i∉ix->i≠ss.getD j 0->vc (sd.getD j []) (d+1+i)=0
def N3(a:LL)(b:List Vc)(G:LL)(t:Vc):Prop:=ko a.length b t/\∃r∈G,∃s:Int,0<s/\∀q,s*vc r q=Lt a.length (λj=>vc (a.getD j [])) t q
def OX(h:JN d n ss ix sd)(u:r.length=d+1+n)(w:0<s)(e:∀q,s*vc r q=Lt sd.length (λj=>vc (sd.getD j [])) t q):Fo d r<=cs sd.length t+ix.length:=by
 let A:=((List.range sd.length).filter λj=>decide (t j≠0)).map λj=>ss.getD j 0;have l:A.length=cs sd.length t:=by show (List.map _ _).length=_;rw[aw];unfold cs;rw[eE]
 let I:=(List.range n).filter λi=>decide (vc r (d+1+i)≠0);have k:Fo d r=I.length:=by
  unfold Fo;have:r.drop (d+1)=(List.range n).map λi=>vc r (d+1+i):=by refine fC (by simp[u]) λi v x=>?_;simp at v;rw[List.getElem_drop,dR,List.getElem_range,nR r (d+1+i) (by lia)]
  rw[this,List.filter_map,aw];congr 2;funext i;simp[bne];rfl
 rw[k,<-l,<-aS];refine vx (List.Pairwise.filter _ eF) λi m=>?_;have b:i<n/\vc r (d+1+i)≠0:=by have:i∈List.filter _ _:=m;simpa using this
 refine aN λa=>b.2 ?_;have o:i∉A:=λz=>a (ax _ z);have p:i∉ix:=λz=>a (bE _ z);refine qO (g:=s) (by lia) ?_;rw[e];show sm sd.length (λj=>t j*vc (sd.getD j []) (d+1+i))=0;rw[kj sd.length _ (λ_=>0) λj c=>?_,uY];by_cases f:t j=0
 .rw[f,dI]
 .have:i≠ss.getD j 0:=λz=>o (by show i∈List.map _ _;exact aC.mpr ⟨j,aT.mpr ⟨aR.mpr c,by simpa using f⟩,z.symm⟩)
  rw[h.oth j c i p this,dO]
def FG{d n:Nat}{ss ix:List Nat}{c:LL}(h:JN d n ss ix c){a:Nat}{C:List Vc}{G Y:LL}(U:∀r∈G,r.length=d+1+n/\∃t,ko c.length C t/\∃s:Int,0<s/\∀q,s*vc r q=Lt c.length (λj=>vc (c.getD j [])) t q)
  (gen:∀u,ko c.length C u->Cn (N3 c C G) u) (st:Ru d ix.length C.length a G Y) :
  (∀r∈Y,r.length=d+1+n/\∃t,ko c.length ((λj=>vc (c.getD j []) a)::C) t/\∃s:Int,0<s/\∀q,s*vc r q=Lt c.length (λj=>vc (c.getD j [])) t q)/\
  ∀u,ko c.length ((λj=>vc (c.getD j []) a)::C) u->Cn (N3 c ((λj=>vc (c.getD j []) a)::C) Y) u:=by
 let A:Vc:=λj=>vc (c.getD j []) a;have la:∀t,jb c.length A t=Lt c.length (λj=>vc (c.getD j [])) t a:=λt=>Ie c.length (λj=>vc (c.getD j [])) t a;have E:∀{x y r:LI} {t f:Vc} {s H:Int},0<s->0<H->(∀q,s*vc x q=Lt c.length (λj=>vc (c.getD j [])) t q)->(∀q,H*vc y q=Lt c.length (λj=>vc (c.getD j [])) f q)->Jn a x y r->
   ∃N:Int,0<N/\∀q,N*vc r q=Lt c.length (λj=>vc (c.getD j [])) (λi=>(-jb c.length A f)*t i+jb c.length A t*f i) q:=by
  intro x y r t f s H o p e J I;obtain⟨g,hg,v⟩:=I.ex;refine⟨s*H*g,aW (aW o p) hg,λq=>?_⟩;have l1:=Jz (m:=c.length) (g:=λj=>vc (c.getD j [])) (x:=t) (y:=f) (z:=λi=>(-jb c.length A f)*t i+jb c.length A t*f i) (s:=1) (a:=-jb c.length A f) (b:=jb c.length A t) (λi=>by grind) q;rw[dH]at l1;rw[l1,la,la,<-e a,<-J a,<-e q,<-J q];have:=v q;calc s*H*g*vc r q=s*H*(g*vc r q):=by grind
   _=s*H*(-vc y a*vc x q+vc x a*vc y q):=by rw[this]
   _=_:=by grind
 have F:∀{t f:Vc},ko c.length C t->ko c.length C f->0<jb c.length A t->jb c.length A f<0->ko c.length (A::C) (λi=>(-jb c.length A f)*t i+jb c.length A t*f i):=by
  intro t f R Z S p2;have lin:∀B,jb c.length B (λi=>(-jb c.length A f)*t i+jb c.length A t*f i)=(-jb c.length A f)*jb c.length B t+jb c.length A t*jb c.length B f:=λB=>by have:=pA (m:=c.length) (A:=B) (x:=t) (y:=f) (z:=λi=>(-jb c.length A f)*t i+jb c.length A t*f i) (s:=1) (a:=-jb c.length A f) (b:=jb c.length A t) (λi=>by grind);simpa using this
  obtain⟨j,I⟩:=R.ne;have q1:0 < -jb c.length A f:=by lia
  refine⟨λi=>?_,λi hi=>?_,⟨j,?_⟩,λB D=>?_⟩
  .have x1:=aO (az q1) (R.nn i);have x2:=aO (az S) (Z.nn i);lia
  .rw[R.out i hi,Z.out i hi];simp
  .have gj:0<t j:=by have:=R.nn j;lia
   have x1:=aW q1 gj;have x2:=aO (az S) (Z.nn j);lia
  .rw[lin B];rcases aE.mp D with rfl|D
   .grind
   .rw[R.eq B D,Z.eq B D];simp
 have k:∀{r:LI} {t:Vc} {s:Int},0<s->(∀q,s*vc r q=Lt c.length (λj=>vc (c.getD j [])) t q)->(0<vc r a↔0<jb c.length A t)/\(vc r a<0↔jb c.length A t<0)/\(vc r a=0↔jb c.length A t=0):=λ{r t s} o e=>by
  rw[la,<-e a];refine⟨⟨λq=>aW o q,λq=>?_⟩,⟨λq=>eG o q,λq=>?_⟩,⟨λq=>by rw[q,dO],λq=>qO (by lia) q⟩⟩
  .exact fE (a:=s) (by simpa using q) (az o)
  .exact fE (a:=s) (by simpa using q) (az o)
 refine⟨λr hr=>?_,λu hu=>?_⟩
 .rcases st.from_ r hr with⟨h1,Q⟩|⟨x,L,y,hy,px,ny,I⟩
  .obtain⟨l,t,w,s,o,e⟩:=U r h1;exact⟨l,t,⟨w.nn,w.out,w.ne,λB D=>by
    rcases aE.mp D with rfl|D
    .exact (k o e).2.2.mp Q
    .exact w.eq B D⟩,s,o,e⟩
  .obtain⟨l,t,w,s,o,e⟩:=U x L;obtain⟨_,f,K,H,p,J⟩:=U y hy;obtain⟨N,Q,X⟩:=E o p e J I;exact⟨by rw[I.len,l],_,F w K ((k o e).1.mp px) ((k p J).2.1.mp ny),N,Q,X⟩
 .refine MP (A:=A) (P:=N3 c C G) (P':=N3 c (A::C) Y) (λx L=>L.1) gen (λt ⟨w,r,hr,s,o,e⟩ h0=>?_) (λt f ⟨w,x,L,s,o,e⟩ ⟨K,y,hy,H,p,J⟩ S p2 hcs=>?_) (cs c.length u) u (aJ _) hu
  .exact⟨⟨w.nn,w.out,w.ne,λB D=>by
    rcases aE.mp D with rfl|D
    .exact h0
    .exact w.eq B D⟩,r,st.stay r hr ((k o e).2.2.mpr h0),s,o,e⟩
  .obtain⟨r,I,hk⟩:=st.join x L y hy ((k o e).1.mpr S) ((k p J).2.1.mpr p2);obtain⟨N,Q,X⟩:=E o p e J I;have rl:r.length=d+1+n:=by rw[I.len,(U x L).1]
   have cl:=OX h rl Q X;exact⟨F w K S p2,r,hk (by lia),N,Q,X⟩
end CL
namespace CL
open PySem L2 L3
variable {c:Cs}
noncomputable def sT:Nat->(Nat->Rat)->Rat
 |0,_=>0
 |n+1,f=>f 0+sT n λi=>f (i+1)
theorem mW:∀n f g,(∀i,i<n->f i=g i)->sT n f=sT n g
 |0,_,_,_=>rfl
 |n+1,f,g,h=>by unfold sT;rw[h 0 (by lia),mW n _ _ λi a=>h (i+1) (by lia)]
theorem zb a b:∀n f g,sT n (λi=>a*f i+b*g i)=a*sT n f+b*sT n g
 |0,_,_=>by unfold sT;grind
 |n+1,f,g=>by unfold sT;rw[zb a b n (λi=>f (i+1)) λi=>g (i+1)];grind
theorem AX:∀n:Nat,sT n (λ_=>0)=0
 |0=>rfl
 |n+1=>by unfold sT;rw[AX n];grind
def L5(x X:Nat->Rat) v:∀n a,a<n->sT n (λi=>x i*(if i=a then v else X i))=sT n (λi=>x i*X i)+x a*(v-X a):=by
 intro n;induction n generalizing x X with
 |zero=>intro a h;cases h
 |succ n ih=>
  intro a b;unfold sT;cases a with
  |zero=>
   have:sT n (λi=>x (i+1)*(if i+1=0 then v else X (i+1)))=sT n (λi=>x (i+1)*X (i+1)):=mW n _ _ λi _=>by simp
   rw[this];simp;grind
  |succ a=>
   have:=ih (λi=>x (i+1)) (λi=>X (i+1)) a (by lia);have e:sT n (λi=>x (i+1)*(if i+1=a+1 then v else X (i+1)))=sT n (λi=>x (i+1)*(if i=a then v else X (i+1))):=mW n _ _ λi _=>by simp
   rw[e,this];simp;grind
noncomputable def jZ(d:Nat)(X:Nat->Rat)(x:Vc):Rat:=sT d (λp=>(x p:Rat)*X p)-(x d:Rat)
def sL(x y z:Vc) s a b (h:∀i,s*z i=a*x i+b*y i):(s:Rat)*jZ d X z=(a:Rat)*jZ d X x+(b:Rat)*jZ d X y:=by
 have f:∀i,s*(z i)=a*(x i)+b*(y i:Rat):=λi=>by
  have:=h i;have e:((s*z i:Int):Rat)=((a*x i+b*y i:Int):Rat):=by rw[this]
  simpa using e
 unfold jZ;have k:(s:Rat)*sT d (λp=>(z p:Rat)*X p)=(a:Rat)*sT d (λp=>(x p:Rat)*X p)+(b:Rat)*sT d (λp=>(y p:Rat)*X p):=by
  have:=zb (s:Rat) 0 d (λp=>(z p:Rat)*X p) (λ_=>0);have g:=zb (a:Rat) (b:Rat) d (λp=>(x p:Rat)*X p) (λp=>(y p:Rat)*X p);have j:sT d (λi=>(s:Rat)*((z i:Rat)*X i)+0*0)=sT d (λi=>(a:Rat)*((x i:Rat)*X i)+(b:Rat)*((y i:Rat)*X i)):=mW d _ _ λi _=>by have:=f i;grind
  rw[j,g]at this;grind
 have:=f d;grind
def Do(b:a<d) X v x:jZ d (λq=>if q=a then v else X q) x=jZ d X x+(x a:Rat)*(v-X a):=by unfold jZ;have:=L5 (λi=>(x i)) X v d a b;rw[this];grind
def qB(h:∀p,p<d->x p=0):jZ d X x = -(x d:Rat):=by
 unfold jZ;have e:sT d (λp=>(x p)*X p)=0:=by rw[mW d _ (λ_=>0) λp a=>by rw[h p a];simp];exact AX d
 rw[e];grind
noncomputable def Xs(s:List (Int×Int)):Nat->Rat:=λq=>qv (s.getD q (0,1))
def HN s a f (b:a<s.length):Xs (s.set a f)=λq=>if q=a then qv f else Xs s q:=by
 funext q;unfold Xs;rw[af,List.getElem?_set];by_cases h:q=a
 .subst h;simp[b]
 .rw[aQ (λz=>h z.symm),aQ h,af]
def Se:qv (0,1)=0:=by unfold qv;simp;grind
def we d:∀s a,s.length=d->d<=a.length->Gh a s=sT d (λp=>(vc a p:Rat)*Xs s p):=by
 induction d with
 |zero=>intro s a b _;have:=fF.mp b;subst this;simp[Gh,sT]
 |succ d ih=>
  intro s a b e;cases s with
  |nil=>cases b
  |cons p s=>
   cases a with
   |nil=>simp at e
   |cons x a=>have:=ih s a (by simpa using b) (by simpa using e);unfold Gh at this ⊢;rw[fG,bH,eM,this];rfl
def pL(d:Nat)(X:Nat->Rat)(a:Nat)(r:LI):Rat:=-(jZ d X (vc r)) / (vc r a:Rat)
structure Me(d:Nat)(X:Nat->Rat)(a E:Nat)(G:LL)(lo hi:Option (Int×Int)):Prop where
 l:Oe E lo
 h:Oe E hi
 lo1:∀r∈G,0<vc r a->∃p,lo=some p/\pL d X a r<=qv p
 lo2:∀p,lo=some p->∃r∈G,0<vc r a/\qv p=pL d X a r/\Cu.G p.1 p.2=1
 hi1:∀r∈G,vc r a<0->∃p,hi=some p/\qv p<=pL d X a r
 hi2:∀p,hi=some p->∃r∈G,vc r a<0/\qv p=pL d X a r/\Cu.G p.1 p.2=1
def DP(h:fc ρ=.ok false)(a:fd ρ=.ok b):L3.oJ fc fd ρ=.ok b:=by simp only[L3.oJ,h,a,M.bind_ok];rfl
def Hf(h:fc ρ=.ok true):L3.oJ fc fd ρ=.ok true:=by simp only[L3.oJ,h,M.bind_ok];rfl
def Dp(a:0<p.2/\Bn E p.1/\Bn E p.2)(hr:0<r.2/\Bn E r.1/\Bn E r.2)(b:E<=8000):j8 c [fr p,fr r]=.ok (.bl (decide (qv p<qv r))):=wz a.1 hr.1 (a.2.1.ok hr.2.2 (by lia) (by lia)) (hr.2.1.ok a.2.2 (by lia) (by lia))
theorem BP(d a N L:Nat)(hL:d<L)(had:a<d)(hd:d<=10)(h1:1<=N)(s:List (Int×Int))(hs:s.length=d)(hq:∀p∈s,Fq p)(hE:N+wts s+20<=8000)(G:LL)(hG:∀r∈G,r.length=L/\∀x∈r,Bn N x) :
  ∃u n,mZ c [.lst (G.map tI),.int (a:Int),.lst (s.map fr)]=.ok (.tup [oT u,oT n])/\Me d (Xs s) a (N+wts s+20) G u n:=by
 let R (u n:Option (Int×Int)) (K D:Option W):En:=[some (.p (.lst (G.map tI))),some (.p (.int (a:Int))),some (.p (.lst (s.map fr))),some (.p (oT u)),some (.p (oT n)),K,D];obtain⟨X,e,u,n,K,D,rfl,hI⟩:=iV (m:=jA 5) (g:=vK c) tI
  (λk X=>∃(u n:Option (Int×Int)) (K D:Option W),X=R u n K D/\Me d (Xs s) a (N+wts s+20) (G.take k) u n)
  G 0 (R none none none none) ⟨none,none,none,none,rfl,⟨(λ_ z=>nomatch z),(λ_ z=>nomatch z),λr hr=>by simp at hr,(λ_ z=>nomatch z),λr hr=>by simp at hr,(λ_ z=>nomatch z)⟩⟩ (by
   rintro k r X v ⟨u,n,K,D,rfl,I⟩;rw[aF]at I ⊢;have hm:=au v;have Z:=ji G k r v;obtain⟨rl,rb⟩:=hG r hm;have F:gX (tI r) (.int (a:Int))=.ok (.int (vc r a)):=jV r a (by lia);by_cases Y:vc r a=0
   .refine⟨_,_,rfl,.inl (gS (gz (fW (fW rfl rfl F) rfl (by rw[lV,Y];rfl))) rfl),u,n,some (.p (tI r)),D,rfl,?_⟩;rw[Z];refine⟨I.l,I.h,λb j i=>?_,λp e=>?_,λb j i=>?_,λp e=>?_⟩
    .rcases ai.mp j with q|q
     .exact I.lo1 b q i
     .rw[aj.mp q]at i;lia
    .obtain⟨b,A,C⟩:=I.lo2 p e;exact⟨b,ax _ A,C⟩
    .rcases ai.mp j with q|q
     .exact I.hi1 b q i
     .rw[aj.mp q]at i;lia
    .obtain⟨b,A,C⟩:=I.hi2 p e;exact⟨b,ax _ A,C⟩
   .obtain⟨left,el,gl,ql⟩:=ur (c:=c) N (by lia) h1 r s (by lia) (by lia) rb hq (by lia);have ra:=rb _ (getD_mem r a (by lia));obtain⟨en,ee,Q,qe⟩:=yC (c:=c) Y ra gl (by lia) (by lia);have J:qv en=pL d (Xs s) a r:=by rw[qe,ql,hs,we d s r hs (by lia)];unfold pL jZ;congr 1;grind
    have S:0<en.2/\Bn (N+wts s+20) en.1/\Bn (N+wts s+20) en.2:=⟨Q.pos,Q.b1,Q.b2.mono (by lia)⟩;have s1:∀D,setO 6 (iD (fY (fR (fY (fR (fS 5) (fR (fS 2) fV)) (ke c)) (fR (kc (fR (fZ gX (fS 5) (fS 1)) (fR (cM (.int 1)) fV))) fV)) (qd c))) (R u n (some (.p (tI r))) D)=.nx (R u n (some (.p (tI r))) (some (.p (fr en)))):=λD=>gy (ig (x:=fr left) (y:=fr (vc r a,1)) (ig rfl rfl el) (nW (fW rfl rfl F) rfl) ee) rfl;obtain⟨w,s2,M1,M2,M3⟩:∃w:Option (Int×Int),j5 (L3.jW (gI (fZ Ae (fZ gX (fS 5) (fS 1)) (cM (.int 0)))) (L3.oJ (gI (fZ (jS false) (fS 3) (cM .non))) (gI (fY (fR (fS 3) (fR (fS 6) fV)) (j8 c))))) (setO 3 (iD (fS 6))) gM (R u n (some (.p (tI r))) (some (.p (fr en))))=.nx (R w n (some (.p (tI r))) (some (.p (fr en))))/\
      Oe (N+wts s+20) w/\(∀b∈G.take k++[r],0<vc b a->∃p,w=some p/\pL d (Xs s) a b<=qv p)/\(∀p,w=some p->∃b∈G.take k++[r],0<vc b a/\qv p=pL d (Xs s) a b/\Cu.G p.1 p.2=1):=by
     by_cases E:0<vc r a
     .have H:gI (fZ Ae (fZ gX (fS 5) (fS 1)) (cM (.int 0))) (vw (R u n (some (.p (tI r))) (some (.p (fr en)))))=.ok true:=gz (fW (fW rfl rfl F) rfl (by rw[sP];simp[E]));have new:∀(_:∀p,u=some p->qv p<qv en),Oe (N+wts s+20) (some en)/\(∀b∈G.take k++[r],0<vc b a->∃p,some en=some p/\pL d (Xs s) a b<=qv p)/\(∀p,some en=some p->∃b∈G.take k++[r],0<vc b a/\qv p=pL d (Xs s) a b/\Cu.G p.1 p.2=1):=λo=>by
       refine⟨λp z=>by cases z;exact S,λb j i=>⟨en,rfl,?_⟩,λp z=>by cases z;exact⟨r,by simp,E,J,Q.one⟩⟩;rcases ai.mp j with q|q
       .obtain⟨p,U,e2⟩:=I.lo1 b q i;have:=o p U;grind
       .rw[aj.mp q,J];grind
      cases f:u with
      |none=>refine⟨some en,?_,new λp z=>by rw[f]at z;cases z⟩;rw[<-f];refine hU (lx H (Hf (gz (fW rfl rfl ?_)))) (gy (t:=fr en) rfl rfl);show jS false (oT u) .non=_;rw[pF,f];rfl
      |some p=>
       have B:jS false (oT u) .non=.ok (.bl false):=by rw[pF,f];rfl
       have P:j8 c [oT u,fr en]=.ok (.bl (decide (qv p<qv en))):=by rw[f];exact Dp (I.l p f) S hE
       by_cases o:qv p<qv en
       .refine⟨some en,?_,new λi z=>by rw[f]at z;cases z;exact o⟩;rw[<-f];exact hU (lx H (DP (gz (fW rfl rfl B)) (gz (ig rfl rfl (by rw[P,aB o]))))) (gy (t:=fr en) rfl rfl)
       .refine⟨u,?_,I.l,λb j i=>?_,λi z=>?_⟩
        .rw[<-f];exact gS (lx H (DP (gz (fW rfl rfl B)) (gz (ig rfl rfl (by rw[P,aA o]))))) rfl
        .rcases ai.mp j with q|q
         .exact I.lo1 b q i
         .rw[aj.mp q,<-J];exact⟨p,f,by grind⟩
        .obtain⟨b,A,C⟩:=I.lo2 i z;exact⟨b,ax _ A,C⟩
     .refine⟨u,gS (pU (gz (fW (fW rfl rfl F) rfl (by rw[sP];simp[E])))) rfl,I.l,λb j i=>?_,λi z=>?_⟩
      .rcases ai.mp j with q|q
       .exact I.lo1 b q i
       .rw[aj.mp q]at i;exact absurd i E
      .obtain⟨b,A,C⟩:=I.lo2 i z;exact⟨b,ax _ A,C⟩
    obtain⟨v,s3,H1,H2,H3⟩:∃v:Option (Int×Int),j5 (L3.jW (gI (fZ By (fZ gX (fS 5) (fS 1)) (cM (.int 0)))) (L3.oJ (gI (fZ (jS false) (fS 4) (cM .non))) (gI (fY (fR (fS 6) (fR (fS 4) fV)) (j8 c))))) (setO 4 (iD (fS 6))) gM (R w n (some (.p (tI r))) (some (.p (fr en))))=.nx (R w v (some (.p (tI r))) (some (.p (fr en))))/\
      Oe (N+wts s+20) v/\(∀b∈G.take k++[r],vc b a<0->∃p,v=some p/\qv p<=pL d (Xs s) a b)/\(∀p,v=some p->∃b∈G.take k++[r],vc b a<0/\qv p=pL d (Xs s) a b/\Cu.G p.1 p.2=1):=by
     by_cases E:vc r a<0
     .have H:gI (fZ By (fZ gX (fS 5) (fS 1)) (cM (.int 0))) (vw (R w n (some (.p (tI r))) (some (.p (fr en)))))=.ok true:=gz (fW (fW rfl rfl F) rfl (by rw[oH];simp[E]));have new:∀(_:∀p,n=some p->qv en<qv p),Oe (N+wts s+20) (some en)/\(∀b∈G.take k++[r],vc b a<0->∃p,some en=some p/\qv p<=pL d (Xs s) a b)/\(∀p,some en=some p->∃b∈G.take k++[r],vc b a<0/\qv p=pL d (Xs s) a b/\Cu.G p.1 p.2=1):=λo=>by
       refine⟨λp z=>by cases z;exact S,λb j i=>⟨en,rfl,?_⟩,λp z=>by cases z;exact⟨r,by simp,E,J,Q.one⟩⟩;rcases ai.mp j with q|q
       .obtain⟨p,U,e2⟩:=I.hi1 b q i;have:=o p U;grind
       .rw[aj.mp q,J];grind
      cases f:n with
      |none=>refine⟨some en,?_,new λp z=>by rw[f]at z;cases z⟩;rw[<-f];refine hU (lx H (Hf (gz (fW rfl rfl ?_)))) (gy (t:=fr en) rfl rfl);show jS false (oT n) .non=_;rw[pF,f];rfl
      |some p=>
       have B:jS false (oT n) .non=.ok (.bl false):=by rw[pF,f];rfl
       have P:j8 c [fr en,oT n]=.ok (.bl (decide (qv en<qv p))):=by rw[f];exact Dp S (I.h p f) hE
       by_cases o:qv en<qv p
       .refine⟨some en,?_,new λi z=>by rw[f]at z;cases z;exact o⟩;rw[<-f];exact hU (lx H (DP (gz (fW rfl rfl B)) (gz (ig rfl rfl (by rw[P,aB o]))))) (gy (t:=fr en) rfl rfl)
       .refine⟨n,?_,I.h,λb j i=>?_,λi z=>?_⟩
        .rw[<-f];exact gS (lx H (DP (gz (fW rfl rfl B)) (gz (ig rfl rfl (by rw[P,aA o]))))) rfl
        .rcases ai.mp j with q|q
         .exact I.hi1 b q i
         .rw[aj.mp q,<-J];exact⟨p,f,by grind⟩
        .obtain⟨b,A,C⟩:=I.hi2 i z;exact⟨b,ax _ A,C⟩
     .refine⟨n,gS (pU (gz (fW (fW rfl rfl F) rfl (by rw[oH];simp[E])))) rfl,I.h,λb j i=>?_,λi z=>?_⟩
      .rcases ai.mp j with q|q
       .exact I.hi1 b q i
       .rw[aj.mp q]at i;exact absurd i E
      .obtain⟨b,A,C⟩:=I.hi2 i z;exact⟨b,ax _ A,C⟩
    refine⟨_,_,rfl,.inl (hU (gz (fW (fW rfl rfl F) rfl (by rw[lV];simp[Y]))) (fX (s1 D) (fX s2 s3))),w,v,some (.p (tI r)),some (.p (fr en)),rfl,?_⟩;rw[Z];exact⟨M1,H1,M2,M3,H2,H3⟩)
 rw[aF,dX]at hI;exact⟨u,n,gO rfl (fX (gy (t:=.non) rfl rfl) (fX (gy (t:=.non) rfl rfl) (fX (i9 rfl e) (gC (nW rfl rfl))))),hI⟩
def tW{s:Int}(e:∀q,s*r q=y q):(s:Rat)*jZ d X r=jZ d X y:=by have:=sL (d:=d) (X:=X) y y r s 1 0 (λi=>by rw[e i];lia);have b:((1:Int):Rat)=1:=rfl;have a:((0:Int):Rat)=0:=rfl;rw[b,a]at this;grind
def P0(st:Bool)(x:Rat):Prop:=if st=true then 0<x else 0<=x
def P0.pos{st x}(h:0<x):P0 st x:=by unfold P0;split<;>grind
def P0.nn{st x}(h:P0 st x):0<=x:=by unfold P0 at h;split at h<;>grind
def P0.add{st x y}(h:P0 st x)(a:0<=y):P0 st (x+y):=by unfold P0 at *;split<;>simp_all<;>grind
def P0.mul{st x s}(a:0<s)(h:P0 st x):P0 st (s*x):=by
 unfold P0 at *;split
 .rw[aP (by assumption)]at h;exact eK a h
 .rw[aQ (by assumption)]at h;exact fH (eL a) h
def P0.of_mul{st x s}(a:0<s)(h:P0 st (s*x)):P0 st x:=by
 have:=P0.mul (s:=s⁻¹) (Rat.inv_pos.mpr a) h;have e:s⁻¹*(s*x)=x:=by grind
 rwa [e]at this
def Cn.p0{st}{f:Vc->Rat}(d:∀x y z (s a b:Int),(∀i,s*z i=a*x i+b*y i)->(s:Rat)*f z=(a:Rat)*f x+(b:Rat)*f y)(g:∀x,P x->P0 st (f x))(h:Cn P z):P0 st (f z):=by
 cases st with
 |true=>exact (Cn.posQ d (λx j=>g x j) h:0<f z)
 |false=>
  show 0<=f z;induction h with
  |of h=>exact g _ h
  |lin _ _ hs ha hb hab e i1 i2=>rename_i x y z s a b _ _;have q:=d _ _ _ _ _ _ e;have k:(0:Rat)<(s:Rat):=mR hs;have m:=fH (show (0:Rat)<=(a:Rat) by exact_mod_cast ha) i1;have l:=fH (show (0:Rat)<=(b:Rat) by exact_mod_cast hb) i2;refine Rat.le_of_mul_le_mul_left (c:=(s:Rat)) ?_ k;rw[q];grind
theorem HX{sb:Bool}{d n:Nat}{ss ix:List Nat}{f:LL}(h:JN d n ss ix f){j:Nat}{G:LL}{w:List Nat}{E:List (LL)}(L:Ik d ix.length j G w E) :
  ∀(F:List Vc),F.length=j->(∀r∈G,r.length=d+1+n/\∃t,ko f.length F t/\∃s:Int,0<s/\∀q,s*vc r q=Lt f.length (λj=>vc (f.getD j [])) t q)->(∀u,ko f.length F u->Cn (N3 f F G) u)->∀(Z:Nat->Prop),(∀r∈G,∀p,Z p->vc r p=0)->
  (∀(i a:Nat),w[i]? = some a->∃J C,E[i]? = some J/\E[i+1]? = some C/\(∀r∈J,vc r a=0->r∈C)/\∀X:Nat->Rat,(∀r∈C,P0 sb (jZ d X (vc r)))->∀x∈J,∀y∈J,0<vc x a->vc y a<0->P0 sb (-(vc y a:Rat)*jZ d X (vc x)+(vc x a:Rat)*jZ d X (vc y)))/\
  ∃Gl,E[w.length]? = some Gl/\E.getLast? = some Gl/\(∀r∈Gl,∀p,(Z p\/p∈w)->vc r p=0)/\∀r∈Gl,r.length=d+1+n/\∃t,ko f.length [] t/\∃s:Int,0<s/\∀q,s*vc r q=Lt f.length (λj=>vc (f.getD j [])) t q:=by
 induction L with
 |nil=>
  rename_i j G;intro F R K N Z hz;refine⟨λi a q=>by simp at q,G,rfl,rfl,λr hr p o=>?_,λr hr=>?_⟩
  .simp_all
  .obtain⟨l,t,I,q⟩:=K r hr;exact⟨l,t,Eu I λA R=>(nomatch R),q⟩
 |cons st L ih=>
  rename_i j a G G' w E;intro F R K N Z hz;subst R;obtain⟨hG',H⟩:=FG h K N st;obtain⟨i1,Gl,i2,i3,i4,i5⟩:=ih ((λj=>vc (f.getD j []) a)::F) (by simp) hG' H (λp=>Z p\/p=a) (λr hr p o=>by
   rcases st.from_ r hr with⟨P,q2⟩|⟨x,hx,y,L,px,ny,hj⟩
   .grind
   .rcases o with o|rfl
    .obtain⟨g,hg,v⟩:=hj.ex;refine qO (g:=g) (by lia) ?_;rw[v p,hz x hx p o,hz y L p o];simp
    .exact hj.at0)
  have l0:E[0]? = some G':=by cases L<;>rfl
  have lne:E≠[]:=λz=>by rw[z]at l0;cases l0
  refine⟨λi b q=>?_,Gl,?_,?_,λr hr p o=>i4 r hr p ?_,i5⟩
  .cases i with
   |zero=>
    simp at q;subst q;refine⟨G,G',rfl,by simpa using l0,st.stay,λX hX x hx y hy' px ny=>?_⟩;obtain⟨_,t,I,s,hs,e⟩:=K x hx;obtain⟨_,k,D,s',Q,e'⟩:=K y hy';let A:Vc:=λj=>vc (f.getD j []) a;have U:∀t,jb f.length A t=Lt f.length (λj=>vc (f.getD j [])) t a:=λt=>Ie f.length (λj=>vc (f.getD j [])) t a;have p1:0<jb f.length A t:=by rw[U,<-e a];exact aW hs px
    have p2:jb f.length A k<0:=by rw[U,<-e' a];exact eG Q ny
    have cz:ko f.length (A::F) (λi=>(-jb f.length A k)*t i+jb f.length A t*k i):=by
     have lin:∀B,jb f.length B (λi=>(-jb f.length A k)*t i+jb f.length A t*k i)=(-jb f.length A k)*jb f.length B t+jb f.length A t*jb f.length B k:=λB=>by have:=pA (m:=f.length) (A:=B) (x:=t) (y:=k) (z:=λi=>(-jb f.length A k)*t i+jb f.length A t*k i) (s:=1) (a:=-jb f.length A k) (b:=jb f.length A t) (λi=>by grind);simpa using this
     obtain⟨j,hj⟩:=I.ne;have P:0 < -jb f.length A k:=by lia
     refine⟨λi=>?_,λi hi=>?_,⟨j,?_⟩,λB S=>?_⟩
     .have x1:=aO (az P) (I.nn i);have x2:=aO (az p1) (D.nn i);lia
     .rw[I.out i hi,D.out i hi];simp
     .have gj:0<t j:=by have:=I.nn j;lia
      have x1:=aW P gj;have x2:=aO (az p1) (D.nn j);lia
     .rw[lin B];rcases aE.mp S with rfl|S
      .grind
      .rw[I.eq B S,D.eq B S];simp
    have hf:∀x y z (s a b:Int),(∀i,s*z i=a*x i+b*y i)->(s:Rat)*jZ d X (Lt f.length (λj=>vc (f.getD j [])) z)=(a:Rat)*jZ d X (Lt f.length (λj=>vc (f.getD j [])) x)+(b:Rat)*jZ d X (Lt f.length (λj=>vc (f.getD j [])) y):=λx y z s a b hh=>sL _ _ _ s a b λi=>Jz hh i;have pos:=Cn.p0 (st:=sb) hf (λu ⟨_,r,hr,s2,hs2,e2⟩=>by rw[<-tW (λq=>e2 q)];exact P0.mul (mR hs2) (hX r hr)) (H _ cz)
    have lz:=hf t k (λi=>(-jb f.length A k)*t i+jb f.length A t*k i) 1 (-jb f.length A k) (jb f.length A t) (λi=>by grind);have e1:=tW (d:=d) (X:=X) (λq=>e q);have e2:=tW (d:=d) (X:=X) (λq=>e' q);have a1:(jb f.length A t:Rat)=(s:Rat)*(vc x a:Rat):=by rw[U,<-e a];simp
    have a2:(jb f.length A k:Rat)=(s':Rat)*(vc y a:Rat):=by rw[U,<-e' a];simp
    have Y:=eK (mR hs) (mR Q);refine P0.of_mul Y ?_;have ev:jZ d X (Lt f.length (λj=>vc (f.getD j [])) (λi=>(-jb f.length A k)*t i+jb f.length A t*k i))=(s:Rat)*(s':Rat)*(-(vc y a:Rat)*jZ d X (vc x)+(vc x a:Rat)*jZ d X (vc y)):=by grind
    rw[<-ev];exact pos
   |succ i=>obtain⟨J,C,P,q2,q3⟩:=i1 i b (by simpa using q);exact⟨J,C,by simpa using P,by simpa using q2,q3⟩
  .simpa using i2
  .rw[List.getLast?_cons_of_ne_nil lne];exact i3
  .rcases o with o|o
   .exact .inl (.inl o)
   .rcases aE.mp o with o|o
    .exact .inl (.inr o)
    .exact .inr o
noncomputable def Sb(N d m:Nat):Nat->Nat
 |0=>d
 |i+1=>2*Sb N d m i+Nb N (m-1-i)+22
def Et s a f:wts (s.set a f)<=wts s+wt f:=by
 induction s generalizing a with
 |nil=>simp[wts]
 |cons p s ih=>
  cases a with
  |zero=>simp[wts];lia
  |succ a=>
   have:=ih a;have b:wts ((p::s).set (a+1) f)=wt p+wts (s.set a f):=by rw[List.set_cons_succ];simp[wts]
   have d:wts (p::s)=wt p+wts s:=by simp[wts]
   lia
def vT n k (h:k<n):xi n (k:Int)=some k:=by unfold xi;rw[aP (by lia),aP (by lia)];simp
def Qt l (k:Nat) t (h:l[k]? = some t):gX (.lst l) (.int (k:Int))=.ok t:=by
 have a:=(aa.mp h).1;have:rN l k=some t:=by unfold rN;rw[vT _ _ a];exact h
 simp[this]
def Bf{l:List Nat}(h:l.Nodup){i j a:Nat}(k:l[i]? = some a)(m:l[j]? = some a):i=j:=by
 obtain⟨e,b⟩:=aa.mp k;obtain⟨d,f⟩:=aa.mp m;have g:=cE.mp h;rcases cD i j with q|q|q
 .exact absurd (b.trans f.symm) (g i j e d q)
 .exact q
 .exact absurd (f.trans b.symm) (g j i d e q)
def BV(V:Nat)(p:Int×Int):Prop:=Bn V p.2/\Bn (V+30) p.1
def IX{p:Int×Int}(h:Fq p):Cu.Qo p.1 p.2 p.1 p.2:=⟨h.pos,h.one,rfl⟩
def JR{p r:Int×Int}(d:Fq p)(hr:Fq r)(e:qv p=qv r):p=r:=by
 have h:=mR d.pos;have i:=mR hr.pos;have f:(p.1:Rat)*(r.2:Rat)=(r.1:Rat)*(p.2:Rat):=by unfold qv at e;grind
 have g:p.1*r.2=r.1*p.2:=by exact_mod_cast f
 obtain⟨a,b⟩:=Cu.IA (by have:=d.pos;lia) (by have:=hr.pos;lia) (IX d) (IX hr) g;exact Prod.ext a b
def xA{st:Bool} E (n:E<=7000) lo hi (k:Oe E lo) (o:Oe E hi) (j:∀p,lo=some p->Fq p) (m:∀p,hi=some p->Fq p) (d:∀p r,lo=some p->hi=some r->P0 st (qv r-qv p)) :
  ∃x,jF c [oT lo,oT hi]=.ok (fr x)/\Fq x/\(∀p,lo=some p->P0 st (qv x-qv p))/\(∀r,hi=some r->P0 st (qv r-qv x))/\Bn (E+2) x.1/\Bn (E+1) x.2:=by
 by_cases h:∀p r,lo=some p->hi=some r->qv p<qv r
 .obtain⟨x,l,b,i,f⟩:=wF (c:=c) E n lo hi k o h;exact⟨x,l,⟨b.pos,b.one⟩,λp e=>P0.pos (by have:=b.lo p e;grind),λr e=>P0.pos (by have:=b.hi r e;grind),i,f⟩
 .simp only[Classical.not_forall]at h;obtain⟨p,r,a,g,s⟩:=h;have q:=d p r a g;have u:=q.nn;have e:qv p=qv r:=by grind
  obtain rfl:=JR (j p a) (m r g) e;have z:P0 st (qv p-qv p):=q;obtain⟨-,i,f⟩:=k p a;subst a g;refine⟨p,gO rfl (jR (t:=fr p) (hU (lx rfl (gz (fW rfl rfl (by rw[show oT (some p)=fr p from rfl,II,aB rfl])))) (gC rfl)) rfl),j p rfl,λ_ e=>by cases e;exact z,λ_ e=>by cases e;exact z,i.mono (by lia),f.mono (by lia)⟩
theorem wu{st:Bool}{d n:Nat}{ss ix:List Nat}{f:LL}(h:JN d n ss ix f)(N:Nat)(h1N:1<=N)(hd:d<=10){b:List Nat}{F:List (LL)}(hy:Ik d ix.length 0 f b F)(hpm:b.length<=10)(hpd:∀a∈b,a<d)(hnd:b.Nodup)(hb:∀(i:Nat) G,F[i]? = some G->∀r∈G,r.length=d+1+n/\∀x∈r,Bn (Nb N i) x)
  (Z:Nat->Prop) (hZ:∀r∈f,∀p,Z p->vc r p=0) (C:List (Int×Int)) (h0w:wts C<=d) (h0l:C.length=d) (h0z:∀a∈b,C.getD a (0,1)=(0,1)) (xg:∀Gl,F.getLast? = some Gl->(∀r∈Gl,∀p,(Z p\/p∈b)->vc r p=0)->∀r∈Gl,P0 st (jZ d (Xs C) (vc r))) (hE:∀i,i<b.length->Nb N (b.length-1-i)+Sb N d b.length i+20<=7000) (V:Nat) (h1V:1<=V) (hV:∀i,i<b.length->Nb N (b.length-1-i)+Sb N d b.length i+21<=V) (h0q:∀p∈C,Fq p/\BV V p) :
  ∃s:List (Int×Int),jQ c [.lst (F.map λg=>T.lst (g.map tI)),.lst (b.map λ(j:Nat)=>T.int (j:Int)),.lst (C.map fr)]=.ok (s.map fr)/\s.length=d/\(∀p∈s,Fq p/\BV V p)/\wts s<=Sb N d b.length b.length/\(∀p,p<d->p∉b->s.getD p (0,1)=C.getD p (0,1))/\∀r∈f,P0 st (jZ d (Xs s) (vc r)):=by
 have sz:1000<sizeLine:=by decide
 have g0:∀r∈f,r.length=d+1+n/\∃t,ko f.length [] t/\∃s:Int,0<s/\∀q,s*vc r q=Lt f.length (λj=>vc (f.getD j [])) t q:=λr hr=>by
  obtain⟨j,hj⟩:=dB.mp hr;have jl:=(aa.mp hj).1;have ej:f.getD j []=r:=by rw[af,hj];rfl
  refine⟨h.l r hr,oX j,⟨λi=>by unfold oX;split<;>lia,λi B=>by unfold oX;rw[aQ (by lia)],⟨j,by simp[oX]⟩,λA hA=>(nomatch hA)⟩,1,by decide,λq=>?_⟩;rw[uZ f.length _ j jl q,ej,dH]
 have gen0:∀u,ko f.length [] u->Cn (N3 f [] f) u:=λu hu=>(yG f.length (cs f.length u) u (aJ _) hu).mono λx ⟨i,B,ex⟩=>by
  subst ex;have hm:f.getD i []∈f:=by rw[af,ag B];exact aU B
  refine⟨⟨λk=>by unfold oX;split<;>lia,λk hk=>by unfold oX;rw[aQ (by lia)],⟨i,by simp[oX]⟩,λA hA=>(nomatch hA)⟩,f.getD i [],hm,1,by decide,λq=>?_⟩;rw[uZ f.length _ i B q,dH]
 obtain⟨at_,Gl,la1,la2,la3,la4⟩:=HX (sb:=st) h hy [] rfl g0 gen0 Z hZ;let m:=b.length;let R (s:List (Int×Int)) (X Y Q:Option W):En:=[some (.p (.lst (F.map λg=>T.lst (g.map tI)))),some (.p (.lst (b.map λ(j:Nat)=>T.int (j:Int)))),some (.p (.lst (C.map fr))),some (.o (s.map fr)),X,Y,Q];obtain⟨ρ,e,s,X,Y,Q,rfl,k1,k2,k3,K,G,I,k6⟩:=iV (m:=kr 2 (gY (jA 4) (gY (jA 5) kC))) (g:=pE c) (λ(p:Nat×Nat)=>T.tup [.int (p.2:Int),.int (p.1:Int)])
  (λi ρ=>∃(s:List (Int×Int)) (X Y Q:Option W),ρ=R s X Y Q/\s.length=d/\(∀p∈s,Fq p/\BV V p)/\wts s<=Sb N d m i/\(∀p,p<d->p∉b.drop (m-i)->s.getD p (0,1)=C.getD p (0,1))/\∃G,F[m-i]? = some G/\∀r∈G,P0 st (jZ d (Xs s) (vc r)))
  b.zipIdx.reverse 0 (R C none none none) ⟨C,none,none,none,rfl,h0l,h0q,h0w,λ_ _ _=>rfl,Gl,by simpa[m] using la1,xg Gl la2 la3⟩ (by
   rintro i ⟨a,jn⟩ ρ B ⟨s,X,Y,Q,rfl,k1,k2,k3,K,G',I,k6⟩;rw[aF]at k3 K I ⊢;have il:i<m:=by have:=(aa.mp B).1;simpa[m] using this
   rw[List.getElem?_reverse (by simpa[m] using il)]at B;have hz:b.zipIdx.length-1-i=m-1-i:=by simp[m]
   rw[hz,List.getElem?_zipIdx]at B;have hpl:b[m-1-i]? = some a/\jn=m-1-i:=by
    cases q:b[m-1-i]? with
    |none=>rw[q]at B;cases B
    |some a'=>rw[q]at B;simp at B;exact⟨by rw[B.1],B.2.symm⟩
   obtain⟨D,hjn⟩:=hpl;subst hjn;have am:=au D;have ad:=hpd a am;obtain⟨G,G2,q1,q2,q3,q4⟩:=at_ (m-1-i) a D;have e2:m-1-i+1=m-i:=by lia
   rw[e2,I]at q2;cases q2;have hGb:=hb (m-1-i) G q1;have hEi:=hE i il;have k3':=k3;have hE2:Nb N (m-1-i)+wts s+20<=7000:=by show Nb N (m-1-i)+wts s+20<=7000;lia
   have n1:1<=Nb N (m-1-i):=aM h1N (Ef N (bJ _));obtain⟨H,w,ee,E⟩:=BP (c:=c) d a (Nb N (m-1-i)) (d+1+n) (by lia) ad hd n1 s k1 (λp P=>(k2 p P).1) (by lia) G hGb;have sa:s.getD a (0,1)=(0,1):=Eq.trans (K a ad λhm=>by obtain⟨q,hq⟩:=dB.mp hm;rw[List.getElem?_drop]at hq;have:=Bf hnd D hq;lia) (h0z a am)
   have Xa:Xs s a=0:=by unfold Xs;rw[sa,Se]
   have lt:∀p r,H=some p->w=some r->P0 st (qv r-qv p):=λp r ep er=>by
    obtain⟨x,hx,px,ex,-⟩:=E.lo2 p ep;obtain⟨y,hy',ny,ey,-⟩:=E.hi2 r er;have key:=q4 (Xs s) k6 x hx y hy' px ny;rw[ex,ey];unfold pL;have a1:(0:Rat)<(vc x a:Rat):=mR px;have a2:(0:Rat) < -(vc y a:Rat):=by have:=mR (show 0 < -vc y a by lia);simpa using this
    generalize jZ d (Xs s) (vc x)=e1 at *;generalize jZ d (Xs s) (vc y)=e2 at *;generalize (vc x a:Rat)=u at *;generalize (vc y a:Rat)=v at *;refine P0.of_mul (eK a1 a2) ?_;have u0:u≠0:=by grind
    have v0:v≠0:=by grind
    have L:u * -v*(-e2 / v - -e1 / u) = -v*e1+u*e2:=by grind
    rw[L];exact key
   obtain⟨x,ex,gd,glo,ghi,bx1,U⟩:=xA (c:=c) (st:=st) (Nb N (m-1-i)+wts s+20) hE2 H w E.l E.h (λp e=>⟨(E.l p e).1,let ⟨_,_,_,_,h⟩:=E.lo2 p e;h⟩) (λp e=>⟨(E.h p e).1,let ⟨_,_,_,_,h⟩:=E.hi2 p e;h⟩) lt;have wx:wt x<=(Nb N (m-1-i)+wts s+20)+2:=Nat.max_le.mpr ⟨xZ bx1 (by lia),xZ (U.mono (by lia)) (by lia)⟩;have ixl:gX (.lst (F.map λg=>T.lst (g.map tI))) (.int ((m-1-i:Nat):Int))=.ok (.lst (G.map tI)):=by
    have q:(F.map λg=>T.lst (g.map tI))[m-1-i]? = some (T.lst (G.map tI)):=by rw[av,q1];rfl
    exact Qt _ _ _ q
   have s1:setO 6 (mJ (fY (fR (fZ gX (fS 0) (fS 4)) (fR (fS 5) (fR (fS 3) fV))) (mZ c))) (R s (some (.p (.int ((m-1-i:Nat):Int)))) (some (.p (.int (a:Int)))) Q)=.nx (R s (some (.p (.int ((m-1-i:Nat):Int)))) (some (.p (.int (a:Int)))) (some (.p (.tup [oT H,oT w])))):=by refine vf (j3 (x:=.lst (G.map tI)) (fW rfl rfl ixl) rfl rfl ee) ?_ rfl;cases H<;>cases w<;>rfl
   have s2:uK 3 (mJ (fS 5)) (mJ (fY (fR (fZ gX (fS 6) (cM (.int 0))) (fR (fZ gX (fS 6) (cM (.int 1))) fV)) (jF c))) (R s (some (.p (.int ((m-1-i:Nat):Int)))) (some (.p (.int (a:Int)))) (some (.p (.tup [oT H,oT w]))))=.nx (R (s.set a x) (some (.p (.int ((m-1-i:Nat):Int)))) (some (.p (.int (a:Int)))) (some (.p (.tup [oT H,oT w])))):=by
    refine yX (us:=s.map fr) rfl (ig (x:=oT H) (y:=oT w) (fW rfl rfl rfl) (fW rfl rfl rfl) ex) rfl (j:=(a:Int)) (m:=a) rfl ?_ ?_
    .rw[aw];exact vT _ _ (by lia)
    .show _=List.set _ _ _;simp[R,dC]
   refine⟨_,_,rfl,.inl (fX s1 s2),s.set a x,some (.p (.int ((m-1-i:Nat):Int))),some (.p (.int (a:Int))),some (.p (.tup [oT H,oT w])),rfl,by rw[bT,k1],λp P=>?_,?_,λp P S=>?_,G,by rw[show m-(i+1)=m-1-i by lia];exact q1,λr hr=>?_⟩
   .rcases eW P with q|q
    .exact k2 p q
    .rw[q];exact⟨gd,U.mono (by have:Nb N (m-1-i)+Sb N d m i+21<=V:=hV i il;lia),bx1.mono (by have:Nb N (m-1-i)+Sb N d m i+21<=V:=hV i il;lia)⟩
   .have:=Et s a x;show _<=2*Sb N d m i+Nb N (m-1-i)+22;lia
   .rw[show m-(i+1)=m-1-i by lia]at S;have dr:b.drop (m-1-i)=a::b.drop (m-i):=by have hlt:=(aa.mp D).1;rw[c6 hlt,e2];congr 1;exact (aa.mp D).2
    rw[dr]at S;have pa:p≠a:=λz=>S (by simp[z]);rw[af,aq (λz=>pa z.symm),<-af];exact K p P λz=>S (by simp[z])
   .rw[HN s a x (by lia),Do ad,Xa];have nx:P0 st (jZ d (Xs s) (vc r)+(vc r a:Rat)*(qv x-0)):=by
     rcases fw (vc r a) 0 with q|q|q
     .obtain⟨p,ep,le⟩:=E.hi1 r hr q;have J:=ghi p ep;unfold pL at le;have a2:(0:Rat) < -(vc r a:Rat):=by have:=mR (show 0 < -vc r a by lia);simpa using this
      generalize jZ d (Xs s) (vc r)=e1 at *;generalize (vc r a:Rat)=v at *;have v0:v≠0:=by grind
      have t:=P0.mul a2 (J.add (y:=-e1 / v-qv p) (by grind));have L:-v*(qv p-qv x+(-e1 / v-qv p))=e1+v*(qv x-0):=by grind
      rwa [L]at t
     .have t:=k6 r (q3 r hr q);rw[q];have L:jZ d (Xs s) (vc r)+((0:Int):Rat)*(qv x-0)=jZ d (Xs s) (vc r):=by simp;grind
      rwa [L]
     .obtain⟨p,ep,le⟩:=E.lo1 r hr q;have J:=glo p ep;unfold pL at le;have a2:(0:Rat)<(vc r a:Rat):=mR q;generalize jZ d (Xs s) (vc r)=e1 at *;generalize (vc r a:Rat)=v at *;have v0:v≠0:=by grind
      have t:=P0.mul a2 (J.add (y:=qv p - -e1 / v) (by grind));have L:v*(qv x-qv p+(qv p - -e1 / v))=e1+v*(qv x-0):=by grind
      rwa [L]at t
    exact nx)
 have fl:(b.zipIdx.reverse).length=m:=by simp[m]
 rw[aF,fl]at k3 K I;rw[Nat.sub_self]at K I;have G0:F[0]? = some f:=by cases hy<;>rfl
 rw[G0]at I;cases I;have ito:Gj (fR (iT (QJ (fR (fS 1) fV))) fV) (lY (R C none none none))=.ok (b.zipIdx.reverse.map λ(p:Nat×Nat)=>T.tup [.int (p.2:Int),.int (p.1:Int)]):=by have le:QJ (fR (fS 1) fV) (lY (R C none none none))=.ok (nL (b.map λ(j:Nat)=>T.int (j:Int))):=rfl;simp only[Gj,fR,fV,iT,le,M.bind_ok];rw[yh,List.map_reverse]
 refine⟨s,pY rfl (fX (l5 (ts:=C.map fr) rfl rfl) (fX (i9 ito e) rfl)),k1,k2,k3,λp P S=>K p P (by simpa using S),k6⟩
def uQ{d n:Nat}{P z:List Nat}{l:LL}(h:JN d n P z l)(N:Nat)(v:1<=N)(Q:d<=10){b:List Nat}{k:List (LL)}(Y:Ik d z.length 0 l b k)(w:b.length<=10)(o:∀a∈b,a<d)(u:b.Nodup)(E:∀(i:Nat) G,k[i]? = some G->∀r∈G,r.length=d+1+n/\∀x∈r,Bn (Nb N i) x)
  (Z:Nat->Prop) (A:∀r∈l,∀p,Z p->vc r p=0) (D:∀p,p<d->Z p\/p∈b) (L:∀Gl,k.getLast? = some Gl->∀r∈Gl,vc r d<0) (I:∀i,i<b.length->Nb N (b.length-1-i)+Sb N d b.length i+20<=7000) (V:Nat) (y:1<=V) (J:∀i,i<b.length->Nb N (b.length-1-i)+Sb N d b.length i+21<=V) :
  ∃s:List (Int×Int),jQ c [.lst (k.map λg=>T.lst (g.map tI)),.lst (b.map λ(j:Nat)=>T.int (j:Int)),.lst ((List.replicate d ((0,1):Int×Int)).map fr)]=.ok (s.map fr)/\s.length=d/\(∀p∈s,Fq p/\BV V p)/\wts s<=Sb N d b.length b.length/\(∀p,p<d->p∉b->s.getD p (0,1)=(0,1))/\∀r∈l,0<jZ d (Xs s) (vc r):=by
 have m:Fq (0,1):=⟨by decide,by decide⟩;have g0:∀p,(List.replicate d ((0,1):Int×Int)).getD p (0,1)=(0,1):=λp=>by rw[af,List.getElem?_replicate];split<;>rfl
 obtain⟨s,e,S,U,X,K,B⟩:=wu (c:=c) (st:=true) h N v Q Y w o u E Z A (List.replicate d (0,1)) (by
   have C:wt (0,1)=1:=by decide
   simp[wts,C]) (by simp) (λa _=>g0 a) (λGl R F r hr=>by
   rw[qB λp f=>F r hr p (D p f)];have:=L Gl R r hr;have q:=mR (show 0 < -vc r d by lia);exact P0.pos (by simpa using q)) I V y J λp f=>by rw[a9 f];exact⟨m,(G3 (n:=0)).mono (by lia),vq⟩
 exact⟨s,e,S,U,X,λp f H=>(K p f H).trans (g0 p),B⟩
def Gb(d M L:Nat)(hdL:d<L)(hd:d<=10)(hM:1<=M)(pv:List (Nat×LI))(s:List (Int×Int))(X:s.length=d)(V:Nat)(hq:∀p∈s,Fq p/\BV V p)(I:∀p∈pv,p.1<d/\p.2.length=L/\vc p.2 p.1≠0/\∀x∈p.2,Bn M x)(hw:pv.Pairwise λp q=>p.1≠q.1/\vc q.2 p.1=0/\vc p.2 q.1=0)(h0:∀p∈pv,s.getD p.1 (0,1)=(0,1))(hE:pv≠[]->M+wts s+20<=8000)(hV:pv≠[]->M+wts s+1<=V) :
  ∃f,qi c [.lst (pv.map lX),.lst (s.map fr)]=.ok (tS f)/\f.length=d/\(∀p∈f,Fq p/\BV V p)/\wts f<=wts s+pv.length*(M+wts s+20)/\(∀p∈pv,jZ d (Xs f) (vc p.2)=0)/\∀r:Vc,(∀p∈pv,r p.1=0)->jZ d (Xs f) r=jZ d (Xs s) r:=by
 have sz:1000<sizeLine:=by decide
 let R (f:List (Int×Int)) (E C:Option W):En:=[some (.p (.lst (pv.map lX))),some (.p (.lst (s.map fr))),some (.o (f.map fr)),E,C];obtain⟨U,e,f,E,C,rfl,Y,k2,J,H,w,S⟩:=iV (m:=kr 2 (gY (jA 3) (gY (jA 4) kC))) (g:=sX c) lX
  (λi U=>∃(f:List (Int×Int)) (E C:Option W),U=R f E C/\f.length=d/\(∀p∈f,Fq p/\BV V p)/\wts f<=wts s+i*(M+wts s+20)/\(∀p∈pv.take i,jZ d (Xs f) (vc p.2)=0)/\(∀r:Vc,(∀p∈pv.take i,r p.1=0)->jZ d (Xs f) r=jZ d (Xs s) r)/\∀q,(∀p∈pv.take i,p.1≠q)->f.getD q (0,1)=s.getD q (0,1))
  pv 0 (R s none none) ⟨s,none,none,rfl,X,hq,by lia,λp I=>by simp at I,λr _=>rfl,λq _=>rfl⟩ (by
   rintro i ⟨a,h⟩ U N ⟨f,E,C,rfl,Y,k2,J,H,w,S⟩;rw[aF]at J H w S ⊢;have u:=au N;have hV:=hV (λz=>by rw[z]at u;cases u);have hE:=hE (λz=>by rw[z]at u;cases u);obtain⟨ha,hl,n,Z⟩:=I _ u;simp only at ha hl n Z;have il:=(aa.mp N).1;have l:∀p∈pv.take i,p.1≠a/\vc h p.1=0/\vc p.2 a=0:=λp b=>by
    obtain⟨j,K⟩:=dB.mp b;rw[List.getElem?_take]at K;split at K
    .rename_i jl;have Q:=aa.mp K;have F:=aa.mp N;have:=cE.mp hw j i Q.1 F.1 jl;rw[Q.2,F.2]at this;exact this
    .cases K
   obtain⟨r,e1,g1,v1⟩:=ur (c:=c) M (by lia) hM h s (by lia) (by lia) Z (λp I=>(hq p I).1) (by lia);obtain⟨o,e2,P,v2⟩:=yC (c:=c) (k:=vc h a) n (Z _ (by unfold vc;rw[af,ag (show a<h.length by lia)];exact aU _)) g1 (by lia) (by lia)
   have st:sX c (R f (some (.p (.int (a:Int)))) (some (.p (tI h))))=.nx (R (f.set a o) (some (.p (.int (a:Int)))) (some (.p (tI h)))):=by
    refine yX (us:=f.map fr) rfl (ig (x:=fr r) (y:=fr (vc h a,1)) (ig rfl rfl e1) (nW (fW rfl rfl (jV h a (by lia))) rfl) e2) rfl (j:=(a:Int)) (m:=a) rfl ?_ ?_
    .rw[aw];exact vT _ _ (by lia)
    .simp[R,dC]
   have Xa:Xs f a=0:=by have Q:=S a λp b=>(l p b).1;have F:=h0 _ u;simp only at F;unfold Xs;rw[Q,F,Se]
   have ev:∀r:Vc,jZ d (Xs (f.set a o)) r=jZ d (Xs f) r+(r a:Rat)*qv o:=λr=>by rw[HN f a o (by lia),Do ha,Xa];grind
   have B:=ji _ i (a,h) N;refine⟨_,_,rfl,.inl st,f.set a o,_,_,rfl,by rw[bT,Y],λp b=>?_,?_,?_,?_,?_⟩
   .rcases eW b with q|q
    .exact k2 p q
    .rw[q];have w2:wt o<=M+wts s+20:=P.wt (by lia) (by lia) (by lia);exact⟨P.fq,P.b2.mono (by lia),(Bm o.1).mono (aM (dc _ _) (aM w2 (by lia)))⟩
   .have w1:=Et f a o;have w2:wt o<=M+wts s+20:=P.wt (by lia) (by lia) (by lia);rw[Nat.add_mul];lia
   .intro p b;rw[B]at b;rw[ev];rcases ai.mp b with q|q
    .rw[H p q,(l p q).2.2];simp;grind
    .have:p=(a,h):=by simpa using q
     subst this;simp only;rw[w (vc h) λp b=>(l p b).2.1,v2,v1];have dq:=we d s h X (by lia);rw[dq,X];unfold jZ;have ne:(vc h a:Rat)≠0:=by intro z;exact n (by exact_mod_cast z)
     generalize sT d (λp=>(vc h p:Rat)*Xs s p)=A;generalize (vc h a:Rat)=v at *;grind
   .intro r hr;rw[ev,hr (a,h) (by rw[B];simp),w r λp b=>hr p (by rw[B];simp[b])];simp;grind
   .intro q D;have qa:=D (a,h) (by rw[B];simp);rw[af,aq qa,<-af];exact S q λp b=>D p (by rw[B];simp[b]))
 rw[aF,dX]at H w;rw[aF]at J;exact⟨f,gO rfl (fX (l5 (ts:=s.map fr) rfl rfl) (fX (i9 rfl e) (gC rfl))),Y,k2,J,H,w⟩
def yg row s (b:s.natAbs<=1) (a:row.length<=1000):nA c [tI row,.int s]=.ok (tI (row.map λx=>s*x)):=by
 have sz:1000<sizeLine:=by decide
 refine gO rfl (gC (oM (jw (ku row T.int (λx=>T.int (s*x)) rfl (by lia) (λx d=>⟨_,rfl,rfl,fW rfl rfl (iw (tZ (by lia)))⟩) (by rw[aH];rfl))) rfl))
def Bc row s i:vc (row.map λx=>s*x) i=s*vc row i:=by unfold vc;rw[af,af,av];cases row[i]?<;>simp
def Mi(a:s.natAbs<=1)(h:Bn N x):Bn N (s*x):=by unfold Bn at *;rw[aX];refine b8 ?_ h;exact aM (fJ _ a) (by lia)
def Eo(h:f ρ=.ok (tI ys)):iT (Em mF (fR f fV)) ρ=.ok (tL ys):=by simp only[iT,Em,fR,fV,h,M.bind_ok];rfl
def BR d L (w:d<L) (y:L<=1000) (a:LL) (hr:∀r∈a,r.length=L) :
  (iF c [.lst (a.map tI),.int (d:Int)]=.ok .non/\∀r∈a,vc r d=0)\/
  ∃r∈a,vc r d≠0/\iF c [.lst (a.map tI),.int (d:Int)]=.ok (tL ((r.map λx=>pM (vc r d)*x).drop (d+1))):=by
 have main:=rT (m:=jA 2) (g:=mK c) tI
  (λk n=>∃(o:Option W),n=[some (.p (.lst (a.map tI))),some (.p (.int d)),o]/\∀r∈a.take k,vc r d=0)
  (λt=>∃r∈a,vc r d≠0/\t=tL ((r.map λx=>pM (vc r d)*x).drop (d+1))) a 0 _ ⟨none,rfl,λr h=>by simp at h⟩ (by
   rintro i r n u ⟨o,rfl,h⟩;rw[aF]at h ⊢;have l:=au u;have z:=hr r l;refine⟨_,rfl,?_⟩;have b:gX (tI r) (.int d)=.ok (.int (vc r d)):=jV r d (by lia);by_cases f:vc r d=0
   .left;refine⟨_,gS (gz (fW (fW rfl rfl b) rfl (by rw[lV,f];rfl))) rfl,_,rfl,λv j=>?_⟩;rw[ji _ i r u]at j;rcases ai.mp j with q|q
    .exact h v q
    .rw[aj.mp q];exact f
   .right;have s:(pM (vc r d)).natAbs<=1:=by unfold pM;split<;>(try split)<;>simp
    exact⟨_,hU (gz (fW (fW rfl rfl b) rfl (by rw[lV];simp[f]))) (gC (Eo (rE _ d (ig rfl (q0 (fW rfl rfl b) (vE _)) (yg r _ s (by lia))) rfl))),r,l,f,rfl⟩)
 rcases main with⟨n,e,o,rfl,h⟩|⟨t,e,r,l,f,rfl⟩
 .left;rw[aF,dX]at h;exact⟨gO rfl (fX (i9 rfl e) (gC rfl)),h⟩
 .right;exact⟨r,l,f,gO rfl (jR (i9 rfl e) rfl)⟩
def Kt us:(us.zipIdx.map λp=>p.1++(List.replicate us.length (0:Int)).set p.2 1)=(List.range us.length).map (wr us):=by
 apply fC
 .simp
 .intro i a b;simp only[aw,List.length_zipIdx]at a;simp[wr,List.getElem_zipIdx,a]
def B8{n:Nat}{g:LI}{k:Nat}{s:Int}:(k,s)∈(List.range n).zip g↔k<n/\g[k]? = some s:=by
 rw[dB];constructor
 .rintro⟨i,f⟩;rw[List.getElem?_zip_eq_some]at f;obtain⟨d,e⟩:=f;simp only at d e;have:=aa.mp d;simp at this;obtain⟨a,b⟩:=this;subst b;exact⟨a,e⟩
 .rintro⟨d,e⟩;exact⟨k,List.getElem?_zip_eq_some.mpr ⟨by simp[d],e⟩⟩
structure A1(n:Nat)(sg:LI):Prop where
 len:sg.length=n
 one:∀x∈sg,x.natAbs<=1
noncomputable def zer(n:Nat)(a:LI):List Nat:=(((List.range n).zip a).filter λp=>p.2==0).map Prod.fst
noncomputable def wO(n:Nat)(a:LI):List (Nat×Int):=((List.range n).zip a).filter λp=>p.2 != 0
def qI{n:Nat}{d:LI}{k:Nat}:k∈zer n d↔k<n/\d[k]? = some 0:=by
 unfold zer;rw[aC];constructor
 .rintro⟨⟨f,s⟩,h,rfl⟩;obtain⟨a,b⟩:=aT.mp h;have:=B8.mp a;have e:s=0:=by simpa using b
  subst e;exact this
 .rintro⟨a,b⟩;exact⟨(k,0),aT.mpr ⟨B8.mpr ⟨a,b⟩,by simp⟩,rfl⟩
def oZ{n:Nat}{a:LI}{k:Nat}{s:Int}:(k,s)∈wO n a↔k<n/\a[k]? = some s/\s≠0:=by unfold wO;rw[aT,B8];simp[and_assoc]
theorem qm{e d:Type}:∀(a:List e) (b:List d),((a.zip b).map Prod.fst).Sublist a
 |[],_=>by simp
 |_::_,[]=>by simp
 |x::a,y::b=>by simp[qm a b]
def OQ{g v:Int}(a:0<g)(h:0<g*v):0<v:=aN λq=>by have:=eO (show v<=0 by lia) (az a);rw[dO]at this;lia
def Jv(n:Nat)(a:LI):((wO n a).map Prod.fst).Nodup:=by have b:((wO n a).map Prod.fst).Sublist (((List.range n).zip a).map Prod.fst):=(fK).map _;have d:(((List.range n).zip a).map Prod.fst).Sublist (List.range n):=qm _ _;exact (eF).sublist (b.trans d)
def FD(h:∀i,i<=d->x i=y i):jZ d X x=jZ d X y:=by unfold jZ;rw[mW d _ (λp=>(y p)*X p) λp a=>by rw[h p (by lia)],h d (aJ _)]
def Qs.evl0(h:∀x,P x->jZ d X x=0)(q:Qs P z):jZ d X z=0:=by
 induction q with
 |of p=>exact h _ p
 |zero=>rw[qB λ_ _=>rfl];simp
 |lin hx hy hs e i1 i2=>
  rename_i x y z s a b;have:=sL (d:=d) (X:=X) x y z s a b e;rw[i1,i2]at this;have f:(s:Rat)≠0:=by intro z;exact hs (by exact_mod_cast z)
  grind
structure Rq(us:LL)(d N:Nat)(pv:List (Nat×LI))(ix:List Nat)(k:Nat)(s:Int)(r:LI):Prop where
 len:r.length=d+1+us.length
 own:0<s*vc r (d+1+k)
 oth:∀i,i∉ix->i≠k->vc r (d+1+i)=0
 lin:l7 us d (vc r)
 zer:∀p∈pv,vc r p.1=0
 ex:∃(g s':Int) (y:Vc),0<g/\0<s'/\Qs (Qp pv) y/\∀i,g*vc r i=s'*(s*vc (wr us k) i)+1*y i
 bn:∀x∈r,Bn N x
def IY{pv:List (Nat×LI)}(hd:d<=4)(hn:us.length<=8)(o:∀u∈us,u.length=d+1)(S:∀u∈us,∀x∈u,Bn B x)(H:R8 d B)(h:PV us d B zs pv rs ix)(m:k<us.length)(C:k∉zs)(L:s.natAbs<=1)(h0:s≠0) :
  ∃r,kK c [tI ((wr us k).map λx=>s*x),.lst (pv.map lX)]=.ok (tI r)/\Rq us d (B+pv.length*(Pq B pv.length+1)) pv ix k s r:=by
 have Q:=Cc us d k m o;have X:k∉ix:=λz=>C (h.sub k z);have E:=H.le pv.length h.short;obtain⟨r,e,l,b,⟨g,n,y,J,w,D,U⟩,z⟩:=AG (Qp pv) (d+1+us.length) (Pq B pv.length) B (by lia) pv ((wr us k).map λx=>s*x) E (by rw[aw,Q]) (λx N=>by
  obtain⟨R,v,rfl⟩:=aC.mp N;exact Mi L (IC H.b1 us k m S R v)) (λp j=>by
  obtain⟨q1,I,Z,P,-⟩:=h.pl p j;exact⟨by lia,I,Z,P,⟨p,j,rfl⟩⟩) (h.pw.imp λq=>q.2.1)
 have f:∀i,g*vc r i=n*(s*vc (wr us k) i)+1*y i:=λi=>by rw[U i,Bc]
 have K:∀i,i∉ix->y (d+1+i)=0:=λi A=>Qs.at0 (λx ⟨p,j,ex⟩=>by rw[ex];exact (h.pl p j).2.2.2.2.2 i A) D;refine⟨r,e,l,?_,λi A F=>?_,?_,z,⟨g,n,y,J,w,D,f⟩,b⟩
 .have q:=f (d+1+k);rw[K k X,Al us d k m o,aQ (by lia),aP (by lia)]at q;have ss:s*s=1:=by
   have:s=1\/s = -1:=by lia
   rcases this with e|e<;>rw[e]<;>decide
  have I:g*(s*vc r (d+1+k))=n:=by
   have:g*(s*vc r (d+1+k))=s*(g*vc r (d+1+k)):=by grind
   rw[this,q];grind
  exact OQ J (by lia)
 .have q:=f (d+1+i);rw[K i A,QS us d k m o i F]at q;exact qO (g:=g) (by lia) (by rw[q];simp)
 .have Y:=l7.qs (λx ⟨p,j,ex⟩=>by rw[ex];exact (h.pl p j).2.2.2.2.1) D;exact l7.comb (g:=g) (a:=n*s) (b:=1) (by lia) (Jx us d k m o) Y λi=>by rw[f i];grind
structure KB(us:LL)(d:Nat)(sg ws:LI):Prop where
 len:ws.length=us.length
 may:∀i s,sg[i]? = some s->0<=s*vc ws i
 zer:∀k,k<d->sm us.length (λi=>vc ws i*vc (us.getD i []) k)=0
 fin:0<sm us.length (λi=>vc ws i*vc (us.getD i []) d)\/(sm us.length (λi=>vc ws i*vc (us.getD i []) d)=0/\∃i s,sg[i]? = some s/\s*vc ws i≠0)
def EF r k i:vc (r.drop k) i=vc r (k+i):=by unfold vc;rw[af,af,List.getElem?_drop]
theorem Es:∀m g t,(∀j,j<m->l7 us d (g j))->l7 us d (Lt m g t)
 |0,g,t,_=>by have:Lt 0 g t=λ_=>0:=rfl;rw[this];exact l7.zero
 |m+1,g,t,h=>by refine l7.comb (g:=1) (a:=t 0) (b:=1) (by decide) (h 0 (by lia)) (Es m (λj=>g (j+1)) (λj=>t (j+1)) λj e=>h (j+1) (by lia)) λi=>?_;show 1*(t 0*g 0 i+sm m λj=>t (j+1)*g (j+1) i)=t 0*g 0 i+1*(sm m λj=>t (j+1)*g (j+1) i);lia
def Ma m j0 (b:j0<m) f (h:∀j,j<m->j≠j0->f j=0):sm m f=f j0:=by
 rw[<-zU m j0 f b];refine kj m _ _ λj a=>?_;by_cases q:j=j0
 .rw[aP q];lia
 .rw[aQ q,h j a q];rfl
def OU{us:LL}{d N:Nat}{n:LI}{pv:List (Nat×LI)}{D:List Nat}(F:A1 us.length n)(P:∀i∈D,i∈zer us.length n){f:Nat×Int->LI}(H:∀p∈wO us.length n,Rq us d N pv D p.1 p.2 (f p)){r:LI}(hl:r.length=d+1+us.length){t:Vc}(C:ko ((wO us.length n).map f).length [] t){s:Int}(U:0<s)(e:∀q,s*vc r q=Lt ((wO us.length n).map f).length (λj=>vc (((wO us.length n).map f).getD j [])) t q)
  (X:∀k,k<d->vc r k=0) (hd:0<=vc r d):KB us d n (r.drop (d+1)):=by
 generalize y:(wO us.length n).map f=sd at *;have B:∀j,j<sd.length->∃p,(wO us.length n)[j]? = some p/\sd.getD j []=f p:=λj l=>by subst y;rw[aw]at l;refine⟨_,ag l,?_⟩;rw[af,av,ag l];rfl
 have lr:l7 us d (vc r):=by
  have:l7 us d (Lt sd.length (λj=>vc (sd.getD j [])) t):=Es _ _ _ λj l=>by obtain⟨p,o,w⟩:=B j l;rw[w];exact (H p (au o)).lin
  exact l7.comb (g:=s) (a:=1) (b:=0) (by lia) this l7.zero λi=>by rw[e i];lia
 have u:∀j k m,(wO us.length n)[j]? = some (k,m)->j<sd.length/\s*(m*vc r (d+1+k))=t j*(m*vc (sd.getD j []) (d+1+k))/\0<m*vc (sd.getD j []) (d+1+k):=λj k m h=>by
  have A:=au h;have l:j<sd.length:=by rw[<-y,aw];exact (aa.mp h).1
  have S:sd.getD j []=f (k,m):=by obtain⟨p,o,w⟩:=B j l;rw[o]at h;cases h;exact w
  obtain⟨k1,x,v⟩:=oZ.mp A;have kx:k∉D:=λz=>by have:=(qI.mp (P k z)).2;rw[x]at this;exact v (Option.some.inj this)
  refine⟨l,?_,by rw[S];exact (H _ A).own⟩;have q:=e (d+1+k);have:Lt sd.length (λj=>vc (sd.getD j [])) t (d+1+k)=t j*vc (sd.getD j []) (d+1+k):=Ma sd.length j l _ λE L K=>by
   obtain⟨p,o,w⟩:=B E L;have:p.1≠k:=λz=>by
    have nd:=Jv us.length n;refine K (Bf nd (a:=k) ?_ ?_)
    .rw[av,o];simp[z]
    .rw[av,h];rfl
   show t E*vc (sd.getD E []) (d+1+k)=0;rw[w,(H p (au o)).oth k kx (λz=>this z.symm)];simp
  rw[this]at q;grind
 have J:∀i,vc (r.drop (d+1)) i=vc r (d+1+i):=λi=>EF r (d+1) i;have Q:∀k,k<=d->sm us.length (λi=>vc (r.drop (d+1)) i*vc (us.getD i []) k)=vc r k:=λk I=>by rw[lr k I];exact kj _ _ _ λi _=>by rw[J]
 refine⟨by rw[bR];lia,λi m R=>?_,λk I=>by rw[Q k (by lia),X k I],?_⟩
 .rw[J];by_cases z:m=0
  .rw[z];simp
  .have Z:i<us.length:=by rw[<-F.len];exact (aa.mp R).1
   have A:=oZ.mpr ⟨Z,R,z⟩;obtain⟨j,l⟩:=dB.mp A;obtain⟨-,x,v⟩:=u j i m l;have:=aO (C.nn j) (az v);rw[<-x]at this;exact aN λq=>by have:=eG U (show m*vc r (d+1+i)<0 by lia);lia
 .rw[Q d (aJ _)];rcases Int.lt_or_eq_of_le hd with q|q
  .exact .inl q
  .right;refine⟨q.symm,?_⟩;obtain⟨j,l⟩:=C.ne;have jl:j<sd.length:=by
    rcases eB j sd.length with h|h
    .exact h
    .exact absurd (C.out j h) l
   obtain⟨⟨k,m⟩,o,-⟩:=B j jl;obtain⟨-,x,v⟩:=u j k m o;have Y:=oZ.mp (au o);refine⟨k,m,Y.2.1,λz=>?_⟩;rw[J]at z;rw[z,dO]at x;have:=aW (show 0<t j by have:=C.nn j;lia) v;lia
def Gy{us:LL}{d B:Nat}{e:LI}{pv:List (Nat×LI)}{g:LL}{m:List Nat}(n:A1 us.length e)(h:PV us d B (zer us.length e) pv g m){r:LI}(hr:r∈g)(u:vc r d≠0):KB us d e ((r.map λx=>pM (vc r d)*x).drop (d+1)):=by
 obtain⟨l,z,b,w,-⟩:=h.rr r hr;have j:∀i,vc ((r.map λx=>pM (vc r d)*x).drop (d+1)) i=pM (vc r d)*vc r (d+1+i):=λi=>by rw[EF,Bc]
 have f:∀k,k<=d->sm us.length (λi=>vc ((r.map λx=>pM (vc r d)*x).drop (d+1)) i*vc (us.getD i []) k)=pM (vc r d)*vc r k:=λk a=>by rw[b k a,<-vz];exact kj _ _ _ λi _=>by rw[j];grind
 refine⟨by rw[bR,aw];lia,λi s p=>?_,λk a=>by rw[f k (by lia),z k a];simp,.inl ?_⟩
 .by_cases q:s=0
  .rw[q];simp
  .rw[j,w i λo=>?_]
   .simp
   .have:=(qI.mp o).2;rw[p]at this;exact q (Option.some.inj this)
 .rw[f d (aJ _)];unfold pM;split
  .lia
  .split
   .lia
   .lia
structure PX(us:LL)(d Wb V:Nat)(sg:LI)(s:List (Int×Int)):Prop where
 len:s.length=d
 fq:∀p∈s,Fq p/\BV V p
 wts:wts s<=Wb
 side:∀(i:Nat) (v:Int),sg[i]? = some v->(v=0->jZ d (Xs s) (vc (us.getD i []))=0)/\(v≠0->0<(v:Rat)*jZ d (Xs s) (vc (us.getD i [])))
noncomputable def Ns(B k:Nat):Nat:=B+k*(Pq B k+1)
structure Bg(d B Wb V:Nat):Prop where
 sml:R8 d B
 v1:1<=V
 vs:∀k m,k+m<=d->(∀i,i<m->Nb (Ns B k) (m-1-i)+Sb (Ns B k) d m i+21<=V)/\(k≠0->Pq B k+Sb (Ns B k) d m m+2<=V)
 ok:∀k m,k+m<=d->Nb (Ns B k) m<=8000/\(∀i,i<m->Nb (Ns B k) (m-1-i)+Sb (Ns B k) d m i+20<=7000)/\(k≠0->Pq B k+Sb (Ns B k) d m m+21<=8000)/\Sb (Ns B k) d m m+k*(Pq B k+Sb (Ns B k) d m m+21)<=Wb
def m7{pv:List (Nat×LI)}:k∈nQ pv d↔k<d/\∀p∈pv,p.1≠k:=by
 unfold nQ;rw[aT,aR];simp;intro _;constructor
 .intro h a b e z;subst z;exact h b e
 .intro h x e;exact h k x e rfl
def Bx pv d:(nQ pv d).Nodup:=(eF).sublist fK
def F6{pv:List (Nat×LI)}(h:PV us d B dn pv rs ix):pv.length+(nQ pv d).length<=d:=by
 have nd:(pv.map Prod.fst++nQ pv d).Nodup:=by rw[List.nodup_append];refine⟨eX.mpr (h.pw.imp λq=>q.1),Bx pv d,λa g b f z=>?_⟩;obtain⟨p,e,rfl⟩:=aC.mp g;exact (m7.mp f).2 p e z
 have:=vx nd λx i=>by
  rcases ai.mp i with q|q
  .obtain⟨p,e,rfl⟩:=aC.mp q;exact aR.mpr (h.pl p e).1
  .exact aR.mpr (m7.mp q).1
 simpa using this
def Ql(n:Nat)(d:n<=1000)(h:f ρ=.ok (.int (n:Int))):iT (uS (iT (lstM (fR (kc (fR (cM (.int 0)) (fR (cM (.int 1)) fV))) fV))) f) ρ=.ok (.lst ((List.replicate n ((0,1):Int×Int)).map fr)):=by
 have sz:1000<sizeLine:=by decide
 have hr:BD n=true:=l8 (by lia);have g:2<=sizeLine:=by decide
 have a:n<=sizeLine:=by lia
 have e:(List.replicate n [T.tup [T.int 0,T.int 1]]).flatten=(List.replicate n ((0,1):Int×Int)).map fr:=by
  clear h hr a d;induction n with
  |zero=>rfl
  |succ n ih=>rw[bW,bX,ih,bW];rfl
 have b:iT (lstM (fR (kc (fR (cM (.int 0)) (fR (cM (.int 1)) fV))) fV)) ρ=.ok (.lst [T.tup [T.int 0,T.int 1]]):=L9 (nW rfl rfl);refine jw ?_;unfold uS;rw[b,h];simp[hr,a];exact .inr rfl
def JN.g0(h:JN d n ss ix sd):∀r∈sd,r.length=d+1+n/\∃t,ko sd.length [] t/\∃s:Int,0<s/\∀q,s*vc r q=Lt sd.length (λj=>vc (sd.getD j [])) t q:=λr hr=>by
 obtain⟨j,a⟩:=dB.mp hr;have f:=(aa.mp a).1;have b:sd.getD j []=r:=by rw[af,a];rfl
 refine⟨h.l r hr,oX j,⟨λi=>by unfold oX;split<;>lia,λi g=>by unfold oX;rw[aQ (by lia)],⟨j,by simp[oX]⟩,λA e=>(nomatch e)⟩,1,by decide,λq=>?_⟩;rw[uZ sd.length _ j f q,b,dH]
def JN.gen0(_:JN d n ss ix sd):∀u,ko sd.length [] u->Cn (N3 sd [] sd) u:=λu b=>(yG sd.length (cs sd.length u) u (aJ _) b).mono λx ⟨i,hi,ex⟩=>by
 subst ex;have a:sd.getD i []∈sd:=by rw[af,ag hi];exact aU hi
 refine⟨⟨λk=>by unfold oX;split<;>lia,λk f=>by unfold oX;rw[aQ (by lia)],⟨i,by simp[oX]⟩,λA e=>(nomatch e)⟩,sd.getD i [],a,1,by decide,λq=>?_⟩;rw[uZ sd.length _ i hi q,dH]
def NP{us:LL}{d N:Nat}{b:LI}{pv:List (Nat×LI)}{o:List Nat}{f:Nat×Int->LI}(l:∀p∈wO us.length b,Rq us d N pv o p.1 p.2 (f p)):JN d us.length ((wO us.length b).map Prod.fst) o ((wO us.length b).map f):=by
 have q:∀j,j<((wO us.length b).map f).length->∃p,p∈wO us.length b/\((wO us.length b).map f).getD j []=f p/\((wO us.length b).map Prod.fst).getD j 0=p.1:=λj a=>by
  rw[aw]at a;refine⟨_,aU a,?_,?_⟩
  .rw[af,av,ag a];rfl
  .rw[af,av,ag a];rfl
 refine⟨by simp,Jv _ _,λi m=>?_,λr hr=>?_,λj a=>?_,λj a i m g=>?_⟩
 .obtain⟨⟨k,s⟩,e,rfl⟩:=aC.mp m;exact (oZ.mp e).1
 .obtain⟨p,e,rfl⟩:=aC.mp hr;exact (l p e).len
 .obtain⟨p,e,h,n⟩:=q j a;rw[h,n];intro z;have:=(l p e).own;rw[z]at this;simp at this
 .obtain⟨p,e,h,n⟩:=q j a;rw[n]at g;rw[h];exact (l p e).oth i m g
def rk(us:LL)(d B Wb V:Nat)(hd:d<=4)(hn:us.length<=8)(hl:∀u∈us,u.length=d+1)(hb:∀u∈us,∀x∈u,Bn B x)(hB:Bg d B Wb V)(n:LI)(I:A1 us.length n) :
  (∃ws,iE c [.lst (us.map tI),.int (d:Int),tI n]=.ok (.tup [.str "paper",tL ws])/\KB us d n ws/\∃k m,k+m<=d/\∀x∈ws,Bn (Nb (Ns B k) m) x)\/∃s,iE c [.lst (us.map tI),.int (d:Int),tI n]=.ok (.tup [.str "spot",tS s])/\PX us d Wb V n s:=by
 have sz:1000<sizeLine:=by decide
 obtain⟨pv,rs,ix,e4,H,hrs⟩:=CG (c:=c) us d B hd hn hl hb hB.sml (zer us.length n) (λz hz=>(qI.mp hz).1) (by
  have:=vx (m:=List.range us.length) (l:=zer us.length n) (by have h1:(zer us.length n).Sublist (((List.range us.length).zip n).map Prod.fst):=(fK).map _;exact (eF).sublist (h1.trans (qm _ _))) λx Q=>aR.mpr (qI.mp Q).1
  rw[fL]at this;lia)
 have ew:=AJ (c:=c) us hn (λr hr=>by have:=hl r hr;lia);rw[Kt]at ew;let vs:T:=.lst (((List.range us.length).map (wr us)).map tI);let R (x4 x5 x6 x7 x8 x9 C:Option W):En:=[some (.p (.lst (us.map tI))),some (.p (.int (d:Int))),some (.p (tI n)),some (.p vs),x4,x5,x6,x7,x8,x9,C];have zo:∀x4 x5 x6 x7 x8 x9 C,mE (fR (fS 3) (fR (fS 2) fV)) (lY (R x4 x5 x6 x7 x8 x9 C))=.ok (((List.range us.length).zip n).map λp=>T.tup [tI (wr us p.1),.int p.2]):=λx4 x5 x6 x7 x8 x9 C=>oU (x:=vs) (y:=tI n) (l:=List.range us.length) (m:=n) (f:=λk=>tI (wr us k)) (g:=T.int) rfl (by show M.ok _=_;rw[aH];rfl) rfl rfl
 have zl:((List.range us.length).zip n).length<sizeLine:=by rw[fM,fL];lia
 have lc1:ka [none,none] (mE (fR (fS 3) (fR (fS 2) fV))) (oO 2 (iX (jP 0) (iX (jP 1) oI))) (gI (fZ (gD false) (fS 1) (cM (.int 0)))) (mM c) (lY (R none none none none none none none))=.ok (((zer us.length n).map (wr us)).map tI):=oK _ _ (λp=>tI (wr us p.1)) (λp=>p.2==0) (zo _ _ _ _ _ _ _) zl (λp w=>⟨_,rfl,gz (fW rfl rfl (iA _ _)),λ_=>rfl⟩) (by unfold zer;rw[aH,aH];rfl)
 let fo:T:=.tup [.lst (pv.map lX),.lst (rs.map tI)];have BA:∀{o:O},(gh (setO 5 (iD (fY (fR (fZ gX (fS 4) (cM (.int 1))) (fR (fS 1) fV)) (iF c)))) _) (R (some (.p fo)) none none none none none none)=o->lq c (g9 11 [.lst (us.map tI),.int (d:Int),tI n])=o:=λ{o} h=>fX (ρ':=R none none none none none none none) (gy (jw (ON rfl ew)) rfl) (fX (ρ':=R (some (.p fo)) none none none none none none) (gy (ig (jw lc1) rfl e4) rfl) h)
 have hlr:∀r∈rs,r.length=d+1+us.length:=λr hr=>(H.rr r hr).1;rcases BR (c:=c) d (d+1+us.length) (by lia) (by lia) rs hlr with⟨e5,hz⟩|⟨r,hr,h0,e5⟩
 case inr=>
  left;refine⟨_,gO rfl (BA (fX (ρ':=R (some (.p fo)) (some (.p (tL ((r.map λx=>pM (vc r d)*x).drop (d+1))))) none none none none none) (gy (ig (fW rfl rfl rfl) rfl e5) rfl) (jR (hU (gz (fW rfl rfl rfl)) (gC (nW rfl rfl))) rfl))),Gy I H hr h0,d,0,by lia,λx Q=>?_⟩;obtain⟨y,hy,rfl⟩:=aC.mp (fN Q);have b:=(H.rr r hr).2.2.2.2 y hy;have sg1:(pM (vc r d)).natAbs<=1:=by unfold pM;split<;>(try split)<;>simp
  exact Mi sg1 b
 obtain⟨f,hf⟩:=tF (P:=λ(p:Nat×Int) r=>kK c [tI ((wr us p.1).map λx=>p.2*x),.lst (pv.map lX)]=.ok (tI r)/\Rq us d (Ns B pv.length) pv ix p.1 p.2 r) (wO us.length n) λp w=>by obtain⟨k,s⟩:=p;obtain⟨k1,k2,k3⟩:=oZ.mp w;exact IY hd hn hl hb hB.sml H k1 (λz=>by have:=(qI.mp z).2;rw[k2]at this;exact k3 (Option.some.inj this)) (I.one s (au k2)) k3
 have E:=λp w=>(hf p w).2;generalize D:(wO us.length n).map f=sd;have hS:=NP E;rw[D]at hS;have sdl:sd.length<=8:=by rw[<-D,aw];have:(wO us.length n).length<=((List.range us.length).zip n).length:=fj _ _;rw[fM,fL]at this;lia
 have sdr:∀r∈sd,r.length=d+1+us.length/\∀x∈r,Bn (Ns B pv.length) x:=λr hr=>by rw[<-D]at hr;obtain⟨p,w,rfl⟩:=aC.mp hr;exact⟨(E p w).len,(E p w).bn⟩
 let J:Option W:=some (.p fo);let N:Option W:=some (.p .non);let U:Option W:=some (.p (.lst (pv.map lX)));have lc2:ka [none,none,some 6] (mE (fR (fS 3) (fR (fS 2) fV))) (oO 2 (iX (jP 0) (iX (jP 1) oI))) (gI (fZ (gD true) (fS 1) (cM (.int 0)))) (mN c) (lY (R J N U none none none none))=.ok (sd.map tI):=oK _ _ (λp=>tI (f p)) (λp=>p.2 != 0) (zo _ _ _ _ _ _ _) zl (λp w=>⟨_,rfl,gz (fW rfl rfl (lV _ _)),λA=>by have F:p∈wO us.length n:=aT.mpr ⟨w,A⟩;have km:=oZ.mp (show (p.1,p.2)∈_ from F);refine ig (x:=tI ((wr us p.1).map λx=>p.2*x)) (y:=.lst (pv.map lX)) (ig rfl rfl (yg _ _ (I.one _ (au km.2.1)) ?_)) rfl (hf p F).1;rw[Cc us d p.1 km.1 hl];lia⟩) (by rw[<-D,aH];rfl)
 have fl:=F6 H;obtain⟨ok1,ok2,ok3,ok4⟩:=hB.ok pv.length (nQ pv d).length fl;have e8:=wa (c:=c) pv d (by lia) (by lia);obtain⟨ls,e9,hy,hbl⟩:=CU (c:=c) d (d+1+us.length) (Ns B pv.length) (by lia) (by lia) sd sdl sdr pv (by lia) (nQ pv d) (by lia) (λa ha=>by have:=(m7.mp ha).1;lia) ok1;rw[H.len]at hy;let Z:Nat->Prop:=λp=>∃q∈pv,q.1=p;have hZ:∀r∈sd,∀p,Z p->vc r p=0:=λr hr p ⟨q,hq,e⟩=>by rw[<-D]at hr;obtain⟨p',hp',rfl⟩:=aC.mp hr;rw[<-e];exact (E p' hp').zer q hq
 have Ac:∀p,p<d->Z p\/p∈nQ pv d:=λp w=>by
  by_cases q:Z p
  .exact .inl q
  .exact .inr (m7.mpr ⟨w,λp' hp' e=>q ⟨p',hp',e⟩⟩)
 obtain⟨-,Gl,la1,K,la3,la4⟩:=HX (sb:=true) hS hy [] rfl hS.g0 hS.gen0 Z hZ;let xs:Option W:=some (.p (.lst (sd.map tI)));let xq:Option W:=some (.p (.lst ((nQ pv d).map λ(j:Nat)=>T.int (j:Int))));let xl:Option W:=some (.p (.lst (ls.map λg=>T.lst (g.map tI))));have Ri:∀{o:O},(gh (mH (iB (fZ gX (fS 9) (xk (λi=>.int (-i)) (cM (.int 1))))) (jA 10) (kM c)) _) (R J N U xs xq xl none)=o->lq c (g9 11 [.lst (us.map tI),.int (d:Int),tI n])=o:=λ{o} h=>BA (fX (ρ':=R J N none none none none none) (gy (ig (fW rfl rfl rfl) rfl e5) rfl) (fX (ρ':=R J N none none none none none) (gS (gz (fW rfl rfl rfl)) rfl) (fX (ρ':=R J N U none none none none) (gy (fW rfl rfl rfl) rfl) (fX (ρ':=R J N U xs none none none) (gy (jw lc2) rfl) (fX (ρ':=R J N U xs xq none none) (gy (jw (Nj rfl rfl e8)) rfl) (fX (ρ':=R J N U xs xq xl none) (gy (jw (BJ rfl rfl rfl rfl e9)) rfl) h))))))
 have L:iB (fZ gX (fS 9) (xk (λi=>.int (-i)) (cM (.int 1)))) (lY (R J N U xs xq xl none))=.ok (Gl.map tI):=by
  have e1:ls.map (λg=>T.lst (g.map tI))=(ls.dropLast.map λg=>T.lst (g.map tI))++[T.lst (Gl.map tI)]:=by
   have A:ls≠[]:=λz=>by rw[z]at K;cases K
   have h1:=dE A;have h2:ls.getLast A=Gl:=by rw[List.getLast?_eq_getLast A]at K;exact Option.some.inj K
   rw[h2]at h1;conv=>lhs;rw[<-h1]
   rw[aY];rfl
  have e2:fZ gX (fS 9) (xk (λi=>.int (-i)) (cM (.int 1))) (lY (R J N U xs xq xl none))=.ok (T.lst (Gl.map tI)):=fW (x:=.lst (ls.map λg=>T.lst (g.map tI))) (y:=.int (-1)) rfl rfl (by rw[e1];exact Eb _ _);unfold iB;rw[e2];rfl
 have gll:∀r∈Gl,r.length=d+1+us.length:=λr hr=>(la4 r hr).1;have main:=rT (m:=jA 10) (g:=kM c) tI
  (λk ρ=>∃(C:Option W),ρ=R J N U xs xq xl C/\∀r∈Gl.take k,vc r d<0)
  (λt=>∃r∈Gl,0<=vc r d/\t=.tup [.str "paper",tL (r.drop (d+1))]) Gl 0 _ ⟨none,rfl,λr h=>by simp at h⟩ (by
   rintro i r ρ hi ⟨C,rfl,h⟩;rw[aF]at h ⊢;have F:=au hi;have Y:gX (tI r) (.int (d:Int))=.ok (.int (vc r d)):=jV r d (by have:=gll r F;lia);refine⟨_,rfl,?_⟩;by_cases h0:0<=vc r d
   .right;exact⟨_,hU (gz (fW (fW rfl rfl Y) rfl (by rw[sr];simp[h0]))) (gC (nW rfl (Eo (rE _ d rfl rfl)))),r,F,h0,rfl⟩
   .left;refine⟨_,gS (gz (fW (fW rfl rfl Y) rfl (by rw[sr];simp[h0]))) rfl,_,rfl,λr' hr'=>?_⟩;rw[ji _ i r hi]at hr';rcases ai.mp hr' with q|q
    .exact h r' q
    .rw[aj.mp q];lia)
 rcases main with⟨ρ,e,C,rfl,h⟩|⟨t,e,r,F,h0,rfl⟩
 .right;rw[aF,dX]at h;have n1:1<=Ns B pv.length:=aM hB.sml.b1 (cq _ _);obtain⟨s,p1,p2,p3,p4,p5,p6⟩:=uQ (c:=c) hS (Ns B pv.length) n1 (by lia) hy (by lia) (λa ha=>(m7.mp ha).1) (Bx pv d) hbl Z hZ Ac (λG hG r hr=>by rw[K]at hG;cases hG;exact h r hr) ok2 V hB.v1 (hB.vs pv.length (nQ pv d).length fl).1;obtain⟨s',q1,q2,q3,q4,q5,q6⟩:=Gb (c:=c) d (Pq B pv.length+1) (d+1+us.length) (by lia) (by lia) (by lia) pv s p2 V p3 (λp w=>by
   obtain⟨h1,h2,h3,h4,-⟩:=H.pl p w;exact⟨h1,h2,h3,λx Q=>(h4 x Q).mono (by lia)⟩) H.pw (λp w=>p5 p.1 (H.pl p w).1 λz=>(m7.mp z).2 p w rfl) (λA=>by
   have:pv.length≠0:=λz=>A (fF.mp z);have:=ok3 this;lia) (λA=>by
   have:pv.length≠0:=λz=>A (fF.mp z);have:=(hB.vs pv.length (nQ pv d).length fl).2 this;lia)
  refine⟨s',gO rfl (Ri (fX (i9 L e) (gC (nW rfl (ig (x:=.lst (pv.map lX)) rfl (jw (Gw rfl rfl (Ql d (by lia) rfl) p1)) q1))))),q2,q3,?_,λi v hi=>?_⟩
  .have m1:pv.length*(Pq B pv.length+1+wts s+20)<=pv.length*(Pq B pv.length+Sb (Ns B pv.length) d (nQ pv d).length (nQ pv d).length+21):=eV _ (by lia);lia
  .have il:i<us.length:=by rw[<-I.len];exact (aa.mp hi).1
   have ew':jZ d (Xs s') (vc (wr us i))=jZ d (Xs s') (vc (us.getD i [])):=FD λk hk=>by rw[Al us d i il hl,aP (by lia)]
   rw[<-ew'];refine⟨λhv=>?_,λhv=>?_⟩
   .subst hv;refine Qs.evl0 (λx Q=>?_) (H.sp i (qI.mpr ⟨il,hi⟩));rcases Q with⟨p,w,rfl⟩|⟨r,hr,rfl⟩
    .exact q5 p w
    .rw[qB (H.rr r hr).2.1,hz r hr];simp
   .have F:(i,v)∈wO us.length n:=oZ.mpr ⟨il,hi,hv⟩;have S:=E _ F;obtain⟨g,s2,y,hg,hs2,hy',ey⟩:=S.ex;have y0:jZ d (Xs s') y=0:=Qs.evl0 (λx ⟨p,w,ex⟩=>by rw[ex];exact q5 p w) hy';have rp:0<jZ d (Xs s') (vc (f (i,v))):=by rw[q6 _ λp w=>S.zer p w];exact p6 _ (by rw[<-D];exact aC.mpr ⟨_,F,rfl⟩)
    have l:=sL (d:=d) (X:=Xs s') (vc (wr us i)) y (vc (f (i,v))) g (s2*v) 1 (λj=>by rw[ey j];grind);rw[y0]at l;have a1:=eK (mR hg) rp;rw[l]at a1;have c1:((s2*v:Int):Rat)=(s2:Rat)*(v:Rat):=by simp
    rw[c1]at a1;have a2:=mR hs2;refine fz (c:=(s2:Rat)) ?_ (eL a2);grind
 .left;obtain⟨l4,t,ct,s,hs,e3⟩:=la4 r F;have Y:∀i∈ix,i∈zer us.length n:=H.sub;subst D;refine⟨_,gO rfl (Ri (jR (i9 L e) rfl)),OU I Y E l4 ct hs e3 (λk hk=>la3 r F k (Ac k hk)) h0,_,_,fl,λx Q=>?_⟩;exact (hbl _ Gl la1 r F).2 x (fN Q)
def GL(d B:Nat)(a:LI):Prop:=a.length=d+1/\∀x∈a,Bn B x
structure GC(d B:Nat)(ns:LI):Prop where
 gl:GL d B ns
 re:∃p,p<d/\vc ns p≠0
def MW ns k v i (a:k<ns.length):vc (ns.set k v) i=if k=i then v else vc ns i:=by
 unfold vc;rw[af,List.getElem?_set];by_cases h:k=i
 .subst h;rw[aP rfl,aP rfl,aP a];rfl
 .rw[aQ h,aQ h,<-af]
def LY n k (h:k<n):xi n (k:Int)=some k:=by unfold xi;rw[aP (by lia),aP (by lia)];simp
def pk(n:Nat)(h:n<=1000)(a:f ρ=.ok (.int (n:Int))):kY (fR f fV) ρ=.ok ((List.range n).map λ(i:Nat)=>T.int (i:Int)):=by have hr:BD n=true:=l8 (by lia);rw[<-Kb];simp[a,hr]
noncomputable def lP(a b:LI):Bool:=(List.range a.length).all λk=>(List.range k).all λj=>vc a k*vc b j==vc a j*vc b k
def Ap n B a b (w:a.length=n) (P:b.length=n) (N:n<=10) (L:B<=1000) (v:∀x∈a,Bn B x) (s:∀x∈b,Bn B x):ki c [tI a,tI b]=.ok (.bl (lP a b)):=by
 have sz:1000<sizeLine:=by decide
 have i:=oS (m:=jA 2) (λ(k:Nat)=>T.int (k:Int)) (λρ=>∃o d,ρ=[some (.p (tI a)),some (.p (tI b)),o,d]) (λk=>(List.range k).all λj=>vc a k*vc b j==vc a j*vc b k) (.bl false) (List.range n) [some (.p (tI a)),some (.p (tI b)),none,none] ⟨none,none,rfl⟩ (by
  rintro k y ρ ⟨o,d,rfl⟩;have D:=aR.mp y;refine⟨_,rfl,?_⟩;have l:=oS (m:=jA 3) (g:=uo c) (λ(j:Nat)=>T.int (j:Int)) (λρ=>∃d,ρ=[some (.p (tI a)),some (.p (tI b)),some (.p (.int (k:Int))),d]) (λj=>vc a k*vc b j==vc a j*vc b k) (.bl false) (List.range k) [some (.p (tI a)),some (.p (tI b)),some (.p (.int (k:Int))),d] ⟨d,rfl⟩ (by
   rintro j C ρ ⟨d,rfl⟩;have F:=aR.mp C;have z:=jV a k (by lia);have E:=jV b j (by lia);have J:=jV a j (by lia);have A:=jV b k (by lia);have I:=iw ((v _ (getD_mem a k (by lia))).ok (s _ (getD_mem b j (by lia))) (by lia) (by lia));have H:=iw ((v _ (getD_mem a j (by lia))).ok (s _ (getD_mem b k (by lia))) (by lia) (by lia));have u:gI (fZ (gD true) (fZ iM (fZ gX (fS 0) (fS 2)) (fZ gX (fS 1) (fS 3))) (fZ iM (fZ gX (fS 0) (fS 3)) (fZ gX (fS 1) (fS 2)))) (vw [some (.p (tI a)),some (.p (tI b)),some (.p (.int (k:Int))),some (.p (.int (j:Int)))])=.ok (!(vc a k*vc b j==vc a j*vc b k)):=gz (fW (fW (fW rfl rfl z) (fW rfl rfl E) I) (fW (fW rfl rfl J) (fW rfl rfl A) H) (lV _ _))
   refine⟨_,rfl,λh=>⟨_,gS (u.trans (by rw[h];rfl)) rfl,_,rfl⟩,λh=>hU (u.trans (by rw[h];rfl)) (gC rfl)⟩)
  have hr:=pk (f:=fS 2) (ρ:=vw [some (.p (tI a)),some (.p (tI b)),some (.p (.int (k:Int))),d]) k (by lia) rfl;refine⟨λh=>?_,λh=>mU hr (l.2 h)⟩;obtain⟨q,e,K,rfl⟩:=l.1 h;exact⟨_,mU hr e,_,_,rfl⟩)
 have hr:=pk (f:=jt jE (fR (fS 0) fV)) (ρ:=vw (g9 4 [tI a,tI b])) n (by lia) (oM (t:=tI a) rfl (by simp[tI,w]));have r:lP a b=((List.range n).all λk=>(List.range k).all λj=>vc a k*vc b j==vc a j*vc b k):=by unfold lP;rw[w]
 cases h:lP a b with
 |true=>obtain⟨q,e,o,d,rfl⟩:=i.1 (by rw[<-r];exact h);exact gO rfl (fX (mU hr e) (gC rfl))
 |false=>exact gO rfl (jR (mU hr (i.2 (by rw[<-r];exact h))) rfl)
def wg a (r:a.length<=100) (h:∃p,p<a.length/\vc a p≠0):∃p:Nat,kU c [tI a]=.ok (.int (p:Int))/\p<a.length/\vc a p≠0:=by
 obtain⟨q,o,f⟩:=h;obtain⟨b,e,p,rfl,i,l⟩:=m9 (c:=gI (fZ (gD false) (fZ gX (fS 0) (fS 1)) (cM (.int 0)))) (g:=pV c)
  (λb=>∃k:Nat,b=[some (.p (tI a)),some (.p (.int (k:Int)))]/\k<=q) (λb=>match b with|_::some (.p (.int j))::_=>q-j.toNat|_=>0)
  (λb=>∃k:Nat,b=[some (.p (tI a)),some (.p (.int (k:Int)))]/\k<a.length/\vc a k≠0) (by
   rintro b ⟨k,rfl,hk⟩;have m:gX (tI a) (.int (k:Int))=.ok (.int (vc a k)):=jV a k (by lia);by_cases d:vc a k=0
   .have n:k≠q:=λz=>f (by rw[<-z];exact d);refine .inr ⟨gz (fW (fW rfl rfl m) rfl (by rw[iA,d];rfl)),_,.inl (gy (fW rfl rfl (by rw[iU];simp)) rfl),⟨k+1,rfl,by lia⟩,?_⟩;show q-(((k+1:Nat):Int)).toNat<q-((k:Int)).toNat;lia
   .exact .inl ⟨gz (fW (fW rfl rfl m) rfl (by rw[iA];simp[d])),k,rfl,by lia,d⟩)
  ((a.map T.int).length+1) [some (.p (tI a)),some (.p (.int ((0:Nat):Int)))] ⟨0,rfl,by lia⟩ (by rw[aw];lia)
 exact⟨p,gO rfl (fX (gy rfl rfl) (fX e (gC rfl))),i,l⟩
def xK d B a b (R:d<=3) (Q:B<=1000) (f:GC d B a) (g:GL d B b) (h:lP a b=false):lL c [tI a,tI b]=.ok (.bl false):=by
 have sz:1000<sizeLine:=by decide
 have y:=f.gl.1;have J:=g.1;obtain⟨q,P,m⟩:=f.re;obtain⟨p,N,s,l⟩:=wg a (by lia) ⟨q,by lia,m⟩;have A:=jV b p (by lia);have D:=jV a p s;have v:ka [none,none,some 1,some 2,some 0] (mE (fR (fS 0) (fR (fS 1) fV))) (oO 2 (iX (jP 0) (iX (jP 1) oI))) (λ_=>.ok true) (qW c) (vw [some (.p (tI a)),some (.p (tI b)),some (.p (.int p))])=.ok (((a.zip b).map λx=>x.1*vc b p==x.2*vc a p).map T.bl):=ku (a.zip b) (λx=>T.tup [.int x.1,.int x.2]) (λx=>T.bl (x.1*vc b p==x.2*vc a p)) (oU rfl rfl rfl rfl) (by rw[fM];lia) (λx o=>⟨_,rfl,rfl,by have L:=f.gl.2 _ (aV o).1;have F:=g.2 _ (aV o).2;have H:=g.2 _ (getD_mem b p (by lia));have K:=f.gl.2 _ (getD_mem a p s);exact fW (fW rfl (fW rfl rfl A) (iw (L.ok H (by lia) (by lia)))) (fW rfl (fW rfl rfl D) (iw (F.ok K (by lia) (by lia)))) (iA _ _)⟩) (by rw[aH];rfl)
 refine gO rfl (fX (gy (q0 rfl N) rfl) (gC (oo v ?_)));rw[qM];congr 2;cases r:((a.zip b).map λx=>x.1*vc b p==x.2*vc a p).all id with
 |false=>rfl
 |true=>
  exfalso;rw[cA]at r;have e:=C4.par_of_place l λi u=>by
   have z:(a.zip b)[i]? = some (a[i],b[i]'(by lia)):=by rw[List.getElem?_zip_eq_some];exact⟨ag u,ag (by lia)⟩
   have:=r _ (aC.mpr ⟨_,au z,rfl⟩);have E:a[i]*vc b p=(b[i]'(by lia))*vc a p:=by simpa using this
   show vc a i*vc b p=vc b i*vc a p;rw[nR a i u,nR b i (by lia)];exact E
  have:lP a b=true:=by unfold lP;refine cA.mpr λk w=>cA.mpr λj C=>?_;have n:=aR.mp w;have I:=aR.mp C;have:=e k j n (by lia);simpa[vc] using this
  rw[h]at this;cases this
structure HC(d B:Nat)(cs:LL):Prop where
 gc:∀f∈cs,GC d B f
 few:cs.length<=7
 pw:cs.Pairwise λa b=>lP a b=false
def HU(h:GC d B ns):qT d (tI ns)=true:=by
 obtain⟨p,e,a⟩:=h.re;have f:=h.gl.1;unfold tI qT;have g:(ns.map T.int).length=d+1:=by simp[f]
 have b:(ns.map T.int).all isInt=true:=cA.mpr λx j=>by obtain⟨y,-,rfl⟩:=aC.mp j;rfl
 show (decide ((ns.map T.int).length=d+1)&&(ns.map T.int).all isInt&&(match kq (ns.map T.int) with|some ns=>(ns.take d).any (· != 0)|none=>false))=true;rw[aB g,b,A9];refine fO.mpr ⟨vc ns p,?_,by simpa using a⟩;rw[nR ns p (by lia)];refine au (i:=p) ?_;rw[List.getElem?_take,aP e,ag (by lia)]
def zh d B (b:LL) ns (s:1<=d/\d<=3) (n:B<=1000) (w:b.length<7) (u:∀f∈b,GC d B f) (g:GC d B ns) (k:∀f∈b,lP f ns=false):lE c [.int d,.lst (b.map tI),tI ns]=.ok (.bl true):=by
 have sz:1000<sizeLine:=by decide
 have i:=ES (c:=c) d (by lia) (tI ns) rfl λv e=>by cases e;refine⟨by rw[aw,g.gl.1];lia,λt p=>by obtain⟨y,-,rfl⟩:=aC.mp p;rfl⟩
 rw[HU g]at i;have j:ka [none,some 2] (iB (fS 1)) (jP 0) (λ_=>.ok true) (pj c) (vw (g9 3 [.int d,.lst (b.map tI),tI ns]))=.ok ((b.map λ_=>false).map T.bl):=ku b tI (λ_=>T.bl false) rfl (by lia) (λf h=>⟨_,rfl,rfl,ig rfl rfl (xK d B f ns s.2 n (u f h) g.gl (k f h))⟩) (by rw[aH];rfl)
 have m:gI (fZ MB (jt jE (fR (fS 1) fV)) (cM (.int 7))) (vw (g9 3 [.int d,.lst (b.map tI),tI ns]))=.ok false:=gz (fW (x:=.int (b.length:Int)) (oM (t:=.lst (b.map tI)) rfl (by simp)) rfl (by rw[sr];congr 2;exact aA (by lia)))
 have q:gI (fY (fR (fS 0) (fR (fS 2) fV)) (oB c)) (vw (g9 3 [.int d,.lst (b.map tI),tI ns]))=.ok true:=gz (ig rfl rfl i);refine gO rfl (fX (gS ?_ rfl) (gC ?_))
 .simp only[L3.oJ,L3.jT,m,q,M.bind_ok];rfl
 .have r:jt CI (fR (iT (ka [none,some 2] (iB (fS 1)) (jP 0) (λ_=>.ok true) (pj c))) fV) (vw (g9 3 [.int d,.lst (b.map tI),tI ns]))=.ok (.bl false):=by
   refine oo j ?_;rw[DL];congr 2;induction b with
   |nil=>rfl
   |cons a l ih=>simp
  have o:=gz r;simp only[FK,o,M.bind_ok];rfl
def B4 d B cs (s:1<=d/\d<=3) (x:B<=1000) (h:HC d B cs):jL c [.int d,.lst (cs.map tI)]=.ok (.tup (cs.map tI)):=by
 have sz:1000<sizeLine:=by decide
 have b:=h.few;obtain⟨l,e,r,rfl⟩:=iV (m:=jA 3) (g:=pC c) tI
  (λk l=>∃r:Option W,l=[some (.p (.int d)),some (.p (.lst (cs.map tI))),some (.o ((cs.take k).map tI)),r])
  cs 0 _ ⟨none,rfl⟩ (by
   rintro k a l j ⟨r,rfl⟩;rw[aF];have w:=(aa.mp j).1;have n:=zh (c:=c) d B (cs.take k) a s x (by rw[bO];lia) (λf b=>h.gc f (dW b)) (h.gc a (au j)) λf b=>by have u:=h.pw;rw[<-List.take_append_drop k cs,eY]at u;refine u.2.2 f b a ?_;refine au (i:=0) ?_;rw[List.getElem?_drop,Nat.add_zero];exact j
   have q:gI (fY (fR (fS 0) (fR (fS 2) (fR (fS 3) fV))) (lE c)) (vw [some (.p (.int d)),some (.p (.lst (cs.map tI))),some (.o ((cs.take k).map tI)),some (.p (tI a))])=.ok true:=gz (j3 (y:=.lst ((cs.take k).map tI)) (z:=tI a) rfl rfl rfl n);refine⟨_,_,rfl,.inl (fX (gS (wC q rfl) rfl) (tw (us:=(cs.take k).map tI) (t:=tI a) rfl (oM (t:=tI a) rfl rfl) (by rw[aw,bO];lia) rfl)),some (.p (tI a)),?_⟩;rw[ji cs k a j,aY];rfl)
 rw[aF,dX]at e;have v:gI (fY (fR (fS 0) fV) (mX c)) (vw (g9 4 [.int d,.lst (cs.map tI)]))=.ok true:=gz (q0 rfl (B2 d s));have A:gI (nE "list" (fS 1)) (vw (g9 4 [.int d,.lst (cs.map tI)]))=.ok true:=rfl;refine gO rfl (fX (gS ?_ rfl) (fX (l5 (ts:=[]) (by simp) rfl) (fX (i9 rfl e) (gC rfl))));simp only[L3.oJ,L3.jT,v,A,M.bind_ok];rfl
noncomputable def j7(c:Cs)(d:Nat)(cs:LL):T:=.obj c.Cutting [("own_cuts",.tup (cs.map tI)),("own_dims",.int d)]
def J7 d B cs (b:1<=d/\d<=3) (a:B<=1000) (h:HC d B cs):jK c [.int d,.lst (cs.map tI)]=.ok (j7 c d cs):=by have e:=B4 (c:=c) d B cs b a h;have q:fY (fR (fS 1) (fR (fS 2) fV)) (jL c) (none::[T.int d,.lst (cs.map tI)].map some)=.ok (.tup (cs.map tI)):=ig rfl rfl e;unfold jK xX;rw[aP (show [T.int d,T.lst (cs.map tI)].length=2 from rfl),q];rfl
def B9(h:f ρ=.ok (.obj C fs))(a:fs.lookup x=some t):Bo C x f ρ=.ok t:=by unfold Bo;rw[h,M.bind_ok];show (if C=C then (match fs.lookup x with|some t=>M.ok t|none=>.bad) else .bad)=_;rw[aP rfl,a]
def LQ(d:Nat)(cs:LL){f:Pe->M T}{ρ:Pe}(b:f ρ=.ok (j7 c d cs)):uy c.Cutting "dims" f fV (jM c) ρ=.ok (.int d):=by
 have a:t5 c.Cutting "dims" (j7 c d cs)=.ok ():=by unfold t5 j7;exact aP ⟨rfl,rfl⟩
 have e:jM c [j7 c d cs]=.ok (.int d):=gO rfl (gC (B9 rfl rfl));simp only[uy,b,M.bind_ok,a,fV,e,M.noEr_ok]
def L6 d cs (b:f ρ=.ok (j7 c d cs)):wD c.Cutting "cuts" f fV (jN c) ρ=.ok (cs.map tI):=by
 have a:t5 c.Cutting "cuts" (j7 c d cs)=.ok ():=by unfold t5 j7;exact aP ⟨rfl,rfl⟩
 have e:jN c [j7 c d cs]=.ok (cs.map tI):=pY rfl (zv (by have:Bo c.Cutting "own_cuts" (fS 0) (vw (g9 1 [j7 c d cs]))=.ok (.tup (cs.map tI)):=B9 rfl rfl;simp only[Em,fR,fV,this,M.bind_ok];rfl))
 simp only[wD,b,M.bind_ok,a,fV,e,M.noEr_ok]
def yS(b:ns.length=d)(f:∀x∈ns,Bn 84 x)(e:Bn 84 v)(hr:∃p,p<d/\vc ns p≠0):GC d 84 (ns++[v]):=by
 refine⟨⟨by simp[b],λx g=>?_⟩,?_⟩
 .rcases ai.mp g with q|q
  .exact f x q
  .rw[aj.mp q];exact e
 .obtain⟨p,a,h⟩:=hr;refine⟨p,a,?_⟩;unfold vc at *;rw[af,List.getElem?_append_left (by lia),<-af];exact h
def JT(g:ns.length=d)(h:ns≠List.replicate d 0):∃p,p<d/\vc ns p≠0:=by
 refine aN λj=>h (fP.mpr ⟨g,λb k=>?_⟩);obtain⟨i,f⟩:=List.getElem?_of_mem k;have e:i<d:=by have:=(aa.mp f).1;lia
 refine aN λa=>j ⟨i,e,?_⟩;unfold vc;rw[af,f];exact a
def Nq(b:LI)(f:∀x∈b,x.natAbs<=3):(((b.zip [1,2,(-1:Int)]).map λ(p:Int×Int)=>p.1*p.2).sum).natAbs<=1000:=by
 have e:∀b d:LI,(∀x∈b,x.natAbs<=3)->(((b.zip d).map λ(p:Int×Int)=>p.1*p.2).sum).natAbs<=3*(d.map Int.natAbs).sum:=λb=>by
  induction b with
  |nil=>intro _ _;exact bJ _
  |cons a l ih=>
   intro d h;cases d with
   |nil=>exact bJ _
   |cons k d=>rw[fG,bH,eM,bH,eM,Nat.mul_add];refine aM (dh _ _) (Nat.add_le_add ?_ (ih d λx g=>h x (bx _ g)));rw[aX];exact fJ _ (h a bu)
 exact aM (e b _ f) (by decide)
def Da cell d (fs:LL) (hd:1<=d/\d<=3) (hf:∀f∈fs,GC d 84 f) (hfl:fs.length<=10) :
  ∃u,tN c [.int cell,.int d,.lst (fs.map tI)]=.ok (tI u)/\GC d 84 u:=by
 have sz:1000<sizeLine:=by decide
 let n:LI:=(List.range d).map λ(j:Nat)=>dr c cell j 7-3;have l0:n.length=d:=by simp[n]
 have b0:∀x∈n,x.natAbs<=3:=λx E=>by obtain⟨j,hj,rfl⟩:=aC.mp E;have hj':=aR.mp hj;obtain⟨_,a1,a2⟩:=i7 (c:=c) cell j 7 (by lia) (by lia) (by lia) (by lia);lia
 obtain⟨d6,d6a,d6b⟩:=i7 (c:=c) cell 6 9 (by decide) (by decide) (by lia) (by lia);obtain⟨d7,d7a,d7b⟩:=i7 (c:=c) cell 7 7 (by decide) (by decide) (by lia) (by lia);generalize dr c cell 6 9=c0 at d6 d6a d6b;generalize dr c cell 7 7=way at d7 d7a d7b;let St:LI->Option W->Option W->Option W->En:=λu r s F=>[some (.p (.int cell)),some (.p (.int d)),some (.p (.lst (fs.map tI))),some (.o (u.map T.int)),r,s,F];have e0:ka [none,some 0] (kY (fR (fS 1) fV)) (jP 0) (λ_=>.ok true) (wI c) (lY [some (.p (.int cell)),some (.p (.int d)),some (.p (.lst (fs.map tI))),none,none,none,none])=.ok (n.map T.int):=by refine ku (List.range d) (λ(j:Nat)=>T.int (j:Int)) (λ(j:Nat)=>T.int (dr c cell j 7-3)) (pk d (by lia) rfl) (by simp;lia) (λj hj=>⟨_,rfl,rfl,?_⟩) (by rw[aH];rfl);have hj':=aR.mp hj;obtain⟨e,_,_⟩:=i7 (c:=c) cell j 7 (by lia) (by lia) (by lia) (by lia);exact fW (j3 rfl rfl rfl e) rfl (nt _ _)
 obtain⟨g,e1,l1,b1,r1⟩:∃g,(j5 (gI (fZ (gD false) (fS 3) (iT (uS (iT (lstM (fR (cM (.int 0)) fV))) (fS 1))))) (uK 3 (mJ (fY (fR (fS 0) (fR (cM (.int 4)) (fR (fS 1) fV))) (f9 c))) (mJ (fZ iG (cM (.int 1)) (fY (fR (fS 0) (fR (cM (.int 5)) (fR (cM (.int 3)) fV))) (f9 c))))) gM) (St n none none none)=.nx (St g none none none)/\g.length=d/\(∀x∈g,x.natAbs<=3)/\∃p,p<d/\vc g p≠0:=by
  have ec:gI (fZ (gD false) (fS 3) (iT (uS (iT (lstM (fR (cM (.int 0)) fV))) (fS 1)))) (vw (St n none none none))=.ok (decide (n=List.replicate d 0)):=gz (fW (x:=.lst (n.map T.int)) (y:=.lst ((List.replicate d (0:Int)).map T.int)) rfl (GR d (by lia) rfl) (by rw[BO];rfl))
  by_cases hz:n=List.replicate d 0
  .obtain⟨d4,d4a,d4b⟩:=i7 (c:=c) cell 4 d (by lia) (by lia) (by lia) (by lia);obtain⟨d5,d5a,d5b⟩:=i7 (c:=c) cell 5 3 (by lia) (by lia) (by lia) (by lia);obtain⟨p,K⟩:∃p:Nat,dr c cell 4 d=(p:Int):=⟨(dr c cell 4 d).toNat,by lia⟩;rw[K]at d4 d4b;refine⟨n.set p (1+dr c cell 5 3),hU (by rw[ec,aB hz]) (yX (us:=n.map T.int) (t:=.int (1+dr c cell 5 3)) (j:=(p:Int)) (m:=p) rfl (fW rfl (j3 rfl rfl rfl d5) (iU _ _)) rfl (j3 rfl rfl rfl d4) (LY _ _ (by rw[aw];lia)) ?_),by rw[bT];exact l0,λx E=>?_,p,by lia,?_⟩
   .simp only[St,dC];rfl
   .rcases eW E with q|q
    .exact b0 x q
    .rw[q];lia
   .rw[MW _ _ _ _ (by lia),aP rfl];lia
  .exact⟨n,gS (by rw[ec,aA hz]) rfl,l0,b0,JT l0 hz⟩
 have C:∀x:Int,x.natAbs<=1000->Bn 84 x:=λx E=>Bn.mono (m:=10) (by unfold Bn;lia) (by decide);have hfe:∀neg,gD neg (.lst (fs.map tI)) (.lst [])=.ok (.bl (if neg then !fs.isEmpty else fs.isEmpty)):=λneg=>by rw[zG neg (fs.map tI) (by simp) (aM (Bw fs) (by decide))];simp
 let r:Int->Option W:=λv=>some (.p (.int v));let s:Option W:=some (.p (.int way));have BA:∀{o:O},(gh (j5 (jW (gI (fZ (gD false) (fS 5) (cM (.int 1)))) (gI (fZ (gD true) (fS 2) (iT (lstM fV))))) (mB 3 (nC (Em mF (fR (nF (fZ gX (fS 2) (fY (fR (fS 0) (fR (cM (.int 8)) (fR (jt jE (fR (fS 2) fV)) fV))) (f9 c))) (λ_=>.ok none) (kL (fS 1))) fV)))) gM) _) (St g (r (c0-4)) s none)=o->yJ c (g9 7 [.int cell,.int d,.lst (fs.map tI)])=o:=λ{o} h=>fX (ρ':=St n none none none) (l5 e0 rfl) (fX (ρ':=St g none none none) e1 (fX (ρ':=St g (r (c0-4)) none none) (gy (fW (j3 rfl rfl rfl d6) rfl (nt _ _)) rfl) (fX (ρ':=St g (r (c0-4)) s none) (gy (j3 rfl rfl rfl d7) rfl) h)))
 have q1:gI (fZ (gD false) (fS 5) (cM (.int 1))) (vw (St g (r (c0-4)) s none))=.ok (way==1):=gz (fW (x:=.int way) rfl rfl (iA _ _));have q2:gI (fZ (gD true) (fS 2) (iT (lstM fV))) (vw (St g (r (c0-4)) s none))=.ok (!fs.isEmpty):=gz (fW (x:=.lst (fs.map tI)) (y:=.lst []) rfl (by simp) (by rw[hfe];rfl));have S:∀(u:LI) (v k:Int) F,gI (fZ (gD false) (fS 5) (cM (.int k))) (vw (St u (r v) s F))=.ok (way==k):=λu v k F=>gz (fW (x:=.int way) rfl rfl (iA _ _));have B:∀(u:LI) (v:Int) F,u.length=d->gW (jt ja (fR (iT (xD (fS 3) (iT (lstM (fR (fS 4) fV))))) fV)) (St u (r v) s F)=.rt (tI (u++[v])):=λu v F hl=>gC (oM (t:=.lst (u.map T.int++[.int v])) (jw (Ek (a:=u.map T.int) (b:=[.int v]) rfl (L9 rfl) (by simp;lia))) (by simp[tI]))
 have D:∀(u:LI) (v:Int) F,(L3.oJ (gI (fZ (gD false) (fS 5) (cM (.int 2)))) (gI (fZ (gD false) (fS 5) (cM (.int 3))))) (vw (St u (r v) s F))=.ok (way==2||way==3):=λu v F=>by simp only[L3.oJ,S,M.bind_ok];cases way==2<;>rfl
 have L:¬(way=1/\fs≠[])->(L3.jW (gI (fZ (gD false) (fS 5) (cM (.int 1)))) (gI (fZ (gD true) (fS 2) (iT (lstM fV))))) (vw (St g (r (c0-4)) s none))=.ok false:=λhc=>by
  simp only[L3.jW,q1,q2,M.bind_ok];by_cases J:way=1
  .have hn:fs=[]:=by
    by_cases hn:fs=[]
    .exact hn
    .exact absurd ⟨J,hn⟩ hc
   rw[J,hn];rfl
  .have:(way==1)=false:=by simpa using J
   rw[this];rfl
 by_cases hA:way=1/\fs≠[]
 .obtain⟨J,Q⟩:=hA;have hlp:=List.length_pos_iff.mpr Q;obtain⟨d3,d3a,d3b⟩:=i7 (c:=c) cell 8 fs.length (by lia) (by lia) (by lia) (by lia);obtain⟨f,ef,hfm⟩:=Cr fs (dr c cell 8 fs.length) d3a d3b;have gf:=hf f hfm;have tl:(f.take d).length=d:=by rw[bO,gf.gl.1];lia
  have nd:∀k:Int,k≠1->(way==k)=false:=λk hk=>by simp[J];lia
  refine⟨f.take d++[c0-4],gO rfl (BA (fX (ρ':=St (f.take d) (r (c0-4)) s none) (hU ?_ (l5 (ts:=(f.take d).map T.int) ?_ rfl)) (fX (gS (by rw[D,nd 2 (by decide),nd 3 (by decide)];rfl) rfl) (fX (gS (by rw[S,nd 4 (by decide)]) rfl) (B _ _ _ tl))))),yS tl (λx E=>gf.gl.2 x (dW E)) (C _ (by lia)) ?_⟩
  .simp only[L3.jW,q1,q2,M.bind_ok];rw[J];simp[Q]
  .have:=AC (fe:=fZ gX (fS 2) (fY (fR (fS 0) (fR (cM (.int 8)) (fR (jt jE (fR (fS 2) fV)) fV))) (f9 c))) (fd:=fS 1) (d:=d) (ts:=f.map T.int) (ρ:=lY (St g (r (c0-4)) s none)) (fW (x:=.lst (fs.map tI)) (y:=.int (dr c cell 8 fs.length)) rfl (j3 (z:=.int (fs.length:Int)) rfl rfl (oM rfl (by simp)) d3) (by simp[rV,ef,tI])) rfl (by rw[aw,gf.gl.1];lia);simp only[Em,fR,fV,this,M.bind_ok];rw[c8];rfl
  .obtain⟨p,K,h⟩:=gf.re;refine⟨p,K,?_⟩;unfold vc at *;rw[af,List.getElem?_take,aP K,<-af];exact h
 .have N:∀x∈g,Bn 84 x:=λx E=>C x (by have:=b1 x E;lia);by_cases H:way=2\/way=3
  .have t23:(way==2||way==3)=true:=by rcases H with h|h<;>rw[h]<;>rfl
   have n4:(way==4)=false:=by rcases H with h|h<;>rw[h]<;>rfl
   let v:Int:=((g.zip [1,2,-1]).map λp=>p.1*p.2).sum;have ez:ka [none,none] (mE (fR (fS 3) (fR (iT (lstM (fR (cM (.int 1)) (fR (cM (.int 2)) (fR (xk (λi=>.int (-i)) (cM (.int 1))) fV))))) fV))) (oO 2 (iX (jP 0) (iX (jP 1) oI))) (λ_=>.ok true) (vO c) (vw (St g (r (c0-4)) s none))=.ok (((g.zip [1,2,-1]).map λp=>p.1*p.2).map T.int):=ku (g.zip [1,2,-1]) (λp=>T.tup [.int p.1,.int p.2]) (λp=>T.int (p.1*p.2)) (oU (x:=.lst (g.map T.int)) (y:=.lst ([1,2,-1].map T.int)) rfl rfl (jw rfl) rfl) (by rw[fM];lia) (λp K=>⟨_,rfl,rfl,fW rfl rfl (j4 (by have:=b1 _ (aV K).1;lia))⟩) (by rw[aH];rfl)
   have vb:=Nq g b1;exact⟨g++[v],gO rfl (BA (fX (gS (L hA) rfl) (fX (ρ':=St g (r v) s none) (hU (by rw[D,t23]) (vf (oo ez (Ju _)) rfl rfl)) (fX (gS (by rw[S,n4]) rfl) (B _ _ _ l1))))),yS l1 N (C _ vb) r1⟩
  .have P:(way==2||way==3)=false:=by have h2:¬way=2:=λz=>H (.inl z);have h3:¬way=3:=λz=>H (.inr z);simp[h2,h3]
   by_cases h4:way=4
   .obtain⟨d9,d9a,d9b⟩:=i7 (c:=c) cell 9 1000000 (by decide) (by decide) (by lia) (by lia);obtain⟨d11,Y,R⟩:=i7 (c:=c) cell 11 3 (by decide) (by decide) (by lia) (by lia);obtain⟨Z,U,X⟩:=i7 (c:=c) cell 10 7 (by decide) (by decide) (by lia) (by lia);obtain⟨w,ew,hw⟩:=Ec [1,1,1000000000000000000] (dr c cell 11 3) Y (by simpa using R);have e18:pP (.int 10) (.int 18)=.ok (.int 1000000000000000000):=by simp[pP,k9]
    have e6:pP (.int 10) (.int 6)=.ok (.int 1000000):=by simp[pP,k9]
    generalize dr c cell 9 1000000=f0 at d9 d9a d9b;generalize dr c cell 10 7=g0 at Z U X;let l:Int:=(1+f0)*w;have hw':1<=w/\w<=1000000000000000000:=by simp only[aE,c7,or_false]at hw;lia
    have I:l.natAbs<=1000000*1000000000000000000:=by show ((1+f0)*w).natAbs<=_;rw[aX];exact fg (by lia) (by lia)
    have hfar1:1<=l:=by have:0<(1+f0)*w:=aW (by lia) (by lia);show 1<=(1+f0)*w;lia
    have hl3:iT (lstM (fR (cM (.int 1)) (fR (cM (.int 1)) (fR (fZ pP (cM (.int 10)) (cM (.int 18))) fV)))) (lY (St g (r (c0-4)) s none))=.ok (.lst ([1,1,1000000000000000000].map T.int)):=by
     have o:fZ pP (cM (.int 10)) (cM (.int 18)) (lY (St g (r (c0-4)) s none))=.ok (.int 1000000000000000000):=fW rfl rfl e18;have h3:3<=sizeLine:=by decide
     simp only[iT,lstM,fR,fV,cM,o,M.bind_ok];rfl
    let A:LI:=g.map λx=>x*l;have es:ka [none,some 6] (iB (fS 3)) (jP 0) (λ_=>.ok true) (wU c) (vw (St g (r (c0-4)) s (some (.p (.int l)))))=.ok (A.map T.int):=ku g T.int (λx=>T.int (x*l)) rfl (by lia) (λx E=>⟨_,rfl,rfl,fW rfl rfl (j4 (by have:=b1 x E;lia))⟩) (by rw[aH];rfl)
    refine⟨A++[(c0-4)*l+g0],gO rfl (BA (fX (gS (L hA) rfl) (fX (gS (by rw[D,P]) rfl) (fX (ρ':=St A (r ((c0-4)*l+g0)) s (some (.p (.int l)))) (hU (by rw[S,h4];rfl) (fX (ρ':=St g (r (c0-4)) s (some (.p (.int l)))) (gy (fW (fW rfl (j3 (z:=.int 1000000) rfl rfl (fW rfl rfl e6) d9) (iU _ _)) (fW (x:=.lst ([1,1,1000000000000000000].map T.int)) (y:=.int (dr c cell 11 3)) hl3 (j3 rfl rfl rfl d11) ew) (j4 (by lia))) rfl) (fX (ρ':=St A (r (c0-4)) s (some (.p (.int l)))) (LU es (IP _) rfl) (gy (fW (fW rfl rfl (j4 (by lia))) (j3 rfl rfl rfl Z) (iU _ _)) rfl)))) (B _ _ _ (by simp[A,l1])))))),yS (by simp[A,l1]) (λx E=>?_) ?_ ?_⟩
    .obtain⟨y,hy,rfl⟩:=aC.mp E;have:=b1 y hy;unfold Bn;rw[aX];refine b8 (fg this I) (by decide)
    .unfold Bn;have J:((c0-4)*l).natAbs<=5*(1000000*1000000000000000000):=by rw[aX];exact fg (by lia) I
     have h2:=dh ((c0-4)*l) g0;refine b8 (aM h2 (Nat.add_le_add J (show g0.natAbs<=7 by lia))) (by decide)
    .obtain⟨p,K,h⟩:=r1;refine⟨p,K,?_⟩;have:vc A p=vc g p*l:=by unfold vc;rw[af,af,av];cases g[p]?<;>simp
     rw[this];exact cU h (by lia)
   .exact⟨g++[c0-4],gO rfl (BA (fX (gS (L hA) rfl) (fX (gS (by rw[D,P]) rfl) (fX (gS (by rw[S];simp[h4]) rfl) (B _ _ _ l1))))),yS l1 N (C _ (by lia)) r1⟩
def Cy(h:a.length=b.length):lP a b=lP b a:=by
 unfold lP;rw[h];congr 1;funext k;congr 1;funext j;rw[cQ (vc a k),cQ (vc a j)];by_cases q:vc b j*vc a k=vc b k*vc a j
 .rw[beq_iff_eq.mpr q,beq_iff_eq.mpr q.symm]
 .rw[beq_eq_false_iff_ne.mpr q,beq_eq_false_iff_ne.mpr λz=>q z.symm]
def AF ns (s d h:Nat) (S:1<=d/\d<=3) (U:h<=7):∃cs:LL,w9 c [.scr ns,.int s,.int d,.int h]=.ok (cs.map tI)/\HC d 84 cs/\cs.length<=h:=by
 have sz:1000<sizeLine:=by decide
 obtain⟨B,e,cs,D,z,rfl,u,r,A⟩:=iV (m:=jA 5) (g:=uv c) (λ(i:Nat)=>T.int (i:Int))
  (λk B=>∃(cs:LL) (D z:Option W),B=[some (.p (.scr ns)),some (.p (.int s)),some (.p (.int d)),some (.p (.int h)),some (.o (cs.map tI)),D,z]/\cs.length<=k/\(∀f∈cs,GC d 84 f)/\cs.Pairwise λa b=>lP a b=false)
  (List.range h) 0 _ ⟨[],none,none,rfl,aJ _,(λf n=>nomatch n),List.Pairwise.nil⟩ (by
   rintro i k B H ⟨cs,D,z,rfl,u,r,A⟩;rw[aF]at u ⊢;have F:i<h:=by simpa using (aa.mp H).1
   have I:k=i:=by rw[List.getElem?_range F]at H;cases H;rfl
   subst I;obtain⟨v,Q,-⟩:=rz ns (s+k);obtain⟨j,en,w⟩:=Da v d cs S r (by lia);let R:En:=[some (.p (.scr ns)),some (.p (.int s)),some (.p (.int d)),some (.p (.int h)),some (.o (cs.map tI)),some (.p (.int (k:Int))),some (.p (tI j))];have N:ka [none,some 6] (iB (fS 4)) (jP 0) (gI (fY (fR (fS 1) (fR (fS 0) fV)) (ki c))) (qu c) (vw R)=.ok ((cs.filter λf=>lP j f).map tI):=oK cs tI tI (λf=>lP j f) rfl (by lia) (λf n=>⟨_,rfl,gz (ig rfl rfl (Ap (d+1) 84 j f w.gl.1 (r f n).gl.1 (by lia) (by lia) w.gl.2 (r f n).gl.2)),λ_=>rfl⟩) rfl
   have K:gI (fZ (gD false) (iT (ka [none,some 6] (iB (fS 4)) (jP 0) (gI (fY (fR (fS 1) (fR (fS 0) fV)) (ki c))) (qu c))) (iT (lstM fV))) (vw R)=.ok (cs.filter λf=>lP j f).isEmpty:=by refine gz (fW (y:=.lst []) (jw N) (by simp) ?_);rw[zG false _ (by simp) (aM (Bw _) (by decide))];simp
   have J:setO 6 (mJ (fY (fR (fY (fR (fS 0) (fR (fZ iG (fS 1) (fS 5)) fV)) (gR c)) (fR (fS 2) (fR (fS 4) fV))) (tN c))) [some (.p (.scr ns)),some (.p (.int s)),some (.p (.int d)),some (.p (.int h)),some (.o (cs.map tI)),some (.p (.int (k:Int))),z]=.nx R:=vf (t:=tI j) (j3 (ig (x:=.scr ns) (y:=.int ((s+k:Nat):Int)) rfl (fW rfl rfl (by rw[iU];simp)) Q) rfl rfl en) (yc j) rfl
   by_cases C:(cs.filter λf=>lP j f)=[]
   .refine⟨_,_,rfl,.inl (fX J (hU (K.trans (by rw[C];rfl)) (tw (us:=cs.map tI) (t:=tI j) rfl rfl (by simp;lia) rfl))),cs++[j],_,_,by rw[aY];rfl,by simp;lia,λf n=>?_,eY.mpr ⟨A,eZ _ _,λf n g E=>?_⟩⟩
    .rcases ai.mp n with q|q
     .exact r f q
     .rw[aj.mp q];exact w
    .rw[aj.mp E,Cy (by rw[(r f n).gl.1,w.gl.1])];cases P:lP j f with
     |false=>rfl
     |true=>have:=aT.mpr ⟨n,P⟩;rw[C]at this;exact nomatch this
   .refine⟨_,_,rfl,.inl (fX J (gS (K.trans (by
     cases L:(cs.filter λf=>lP j f) with
     |nil=>exact absurd L C
     |cons a l=>rfl)) rfl)),cs,_,_,rfl,by lia,r,A⟩)
 rw[aF,fL]at u;exact⟨cs,pY rfl (fX (l5 (ts:=[]) (by simp) rfl) (fX (mU (pk h (by lia) rfl) e) rfl)),⟨r,by lia,A⟩,u⟩
def RL d (o:d<=3):Bg d 84 9000 3900:=by
 have f:∀d,d<4->∀k,k<4->k<=d->84+k*(Pq 84 k+1)<=8000:=by decide
 have n:∀d,d<4->Pq 84 d<=8000:=by decide
 have l:∀d,d<4->∀k,k<4->∀m,m<4->k+m<=d->Nb (Ns 84 k) m<=8000:=by decide
 have e:∀d,d<4->∀k,k<4->∀m,m<4->k+m<=d->∀i,i<m->Nb (Ns 84 k) (m-1-i)+Sb (Ns 84 k) d m i+21<=3900:=by decide
 have b:∀d,d<4->∀k,k<4->∀m,m<4->k+m<=d->1<=k->Pq 84 k+Sb (Ns 84 k) d m m+2<=3900:=by decide
 have j:∀d,d<4->∀k,k<4->∀m,m<4->k+m<=d->Sb (Ns 84 k) d m m+k*(Pq 84 k+Sb (Ns 84 k) d m m+21)<=9000:=by decide
 refine⟨⟨by decide,λk a=>f d (by lia) k (by lia) a,n d (by lia)⟩,by decide,λk m h=>⟨e d (by lia) k (by lia) m (by lia) h,λa=>b d (by lia) k (by lia) m (by lia) h (by lia)⟩,λk m h=>⟨l d (by lia) k (by lia) m (by lia) h,λi g=>?_,λa=>?_,j d (by lia) k (by lia) m (by lia) h⟩⟩
 .have:=e d (by lia) k (by lia) m (by lia) h i g;lia
 .have:=b d (by lia) k (by lia) m (by lia) h (by lia);lia
def J1 d us (b:f ρ=.ok (j7 c d us)):uy c.Cutting "many" f fV (jO c) ρ=.ok (.int us.length):=by
 have a:t5 c.Cutting "many" (j7 c d us)=.ok ():=by unfold t5 j7;exact aP ⟨rfl,rfl⟩
 have e:jO c [j7 c d us]=.ok (.int us.length):=gO rfl (gC (oM (B9 rfl rfl) (by simp)));simp only[uy,b,M.bind_ok,a,fV,e,M.noEr_ok]
def wc(d:Nat)(us:LL)(f:us.length<=7)(a:LI)(b:A1 us.length a):kW c [j7 c d us,tI a]=.ok .non:=QD rfl (gS (wC (gz (ig (J1 d us rfl) rfl (AK us.length a b.len (by lia) λx e=>by have:=b.one x e;lia))) rfl) rfl)
def HA{B V:Nat}(q:B<=1000)(d:Nat)(o:Bg d B 9000 V)(us:LL)(r:1<=d/\d<=3)(h:HC d B us)(a:LI)(j:A1 us.length a) :
  (∃f,j6 c [j7 c d us,tI a]=.ok (.tup [.str "paper",tL f])/\KB us d a f/\∃k m,k+m<=d/\∀x∈f,Bn (Nb (Ns B k) m) x)\/∃s,j6 c [j7 c d us,tI a]=.ok (.tup [.str "spot",tS s])/\PX us d 9000 V a s:=by
 have n:=h.few;have g:=rk (c:=c) us d B 9000 V (by lia) (by lia) (λu i=>(h.gc u i).gl.1) (λu i=>(h.gc u i).gl.2) o a j;have run:∀t,iE c [.lst (us.map tI),.int d,tI a]=.ok t->j6 c [j7 c d us,tI a]=.ok t:=λt l=>gO rfl (fX (K6 (ig rfl rfl (wc d us n a j))) (gC (j3 (jw (L6 d us rfl)) (LQ d us rfl) rfl l)))
 rcases g with⟨f,e,p,b⟩|⟨s,e,p⟩
 .exact .inl ⟨f,run _ e,p,b⟩
 .exact .inr ⟨s,run _ e,p⟩
def Lz{B:Nat}(i:B<=1000)(d:Nat)(g:Bg d B 9000 3900)(us:LL)(j:1<=d/\d<=3)(h:HC d B us)(e:LI)(l:A1 us.length e) :
  (∃f,j6 c [j7 c d us,tI e]=.ok (.tup [.str "paper",tL f])/\KB us d e f/\∀x∈f,Bn 8000 x)\/∃s,j6 c [j7 c d us,tI e]=.ok (.tup [.str "spot",tS s])/\PX us d 9000 3900 e s:=
 (HA i d g us j h e l).imp (λ⟨f,a,b,k,m,h,q⟩=>⟨f,a,b,λx n=>(q x n).mono (g.ok k m h).1⟩) id
def Ko(d:Nat)(us:LL)(e:1<=d/\d<=3)(h:HC d 84 us)(a:LI)(f:A1 us.length a) :
  (∃b,j6 c [j7 c d us,tI a]=.ok (.tup [.str "paper",tL b])/\KB us d a b/\∀x∈b,Bn 8000 x)\/∃s,j6 c [j7 c d us,tI a]=.ok (.tup [.str "spot",tS s])/\PX us d 9000 3900 a s:=Lz (by decide) d (RL d e.2) us e h a f
def xj(us:LL)(a:LI)(k:Nat):Int:=((a.zip us).map λp=>p.1*vc p.2 k).sum
def DA(us:LL)(d:Nat)(b a:LI):Bool:=((b.zip a).all λp=>FC p.1 p.2)&&((decide ((List.range d).map (xj us a)=List.replicate d 0))&&(if xj us a d=0 then (b.zip a).any λp=>p.1 != 0&&p.2 != 0 else decide (0<xj us a d)))
def y9(f:s.natAbs<=1):FC s w=!decide (w*s<0):=by
 unfold FC pM;have:s=0\/s=1\/s = -1:=by lia
 rcases this with rfl|rfl|rfl
 .simp
 .rcases fw w 0 with h|h|h
  .have b:¬(0<w):=by lia
   have a:w≠0:=by lia
   simp[h,b,a]
  .subst h;simp
  .have a:w≠0:=by lia
   have e:¬w<0:=by lia
   simp[h,a,e]
 .rcases fw w 0 with h|h|h
  .have b:¬(0<w):=by lia
   have a:w≠0:=by lia
   have d:¬(w * -1<0):=by lia
   simp[h,b,a,d]
  .subst h;simp
  .have a:w≠0:=by lia
   have d:(w * -1<0):=by lia
   simp[h,a,d]
theorem Iv(p:Int->Int->Bool):∀a b:LI,(a.zip b).any (λx=>p x.1 x.2)=(b.zip a).any (λx=>p x.2 x.1)
 |[],b=>by simp
 |_::_,[]=>by simp
 |x::a,y::b=>by simp[Iv p a b]
theorem Iz(p:Int->Int->Bool):∀a b:LI,(a.zip b).all (λx=>p x.1 x.2)=(b.zip a).all (λx=>p x.2 x.1)
 |[],b=>by simp
 |_::_,[]=>by simp
 |x::a,y::b=>by simp[Iz p a b]
def E9 us ws d:((List.range (d+1)).map (xj us ws)).take d=(List.range d).map (xj us ws):=by rw[List.range_succ,aY,List.take_left' (by simp)]
def LV us ws d:gX (.lst (((List.range (d+1)).map (xj us ws)).map T.int)) (.int (d:Int))=.ok (.int (xj us ws d)):=by rw[ze _ d (by simp)];congr 2;rw[af,av,List.getElem?_range (by lia)];rfl
def Bu(d:Nat)(us:LL)(hd:1<=d/\d<=3)(h:HC d 84 us)(o:LI)(B:A1 us.length o)(f:LI)(hw:f.length=us.length)(I:∀x∈f,Bn 9000 x):kh c [.lst (us.map tI),.int d,tI o,tL f]=.ok (.bl (DA us d o f)):=by
 have sz:1000<sizeLine:=by decide
 have hn:=h.few;let R (j l x6 x7:Option W):En:=[some (.p (.lst (us.map tI))),some (.p (.int d)),some (.p (tI o)),some (.p (tL f)),j,l,x6,x7];have J:=oS (m:=kr 2 (gY (jA 4) (gY (jA 5) kC))) (g:=uB c) (λ(p:Int×Int)=>T.tup [.int p.1,.int p.2]) (λρ=>∃j l,ρ=R j l none none)
  (λp=>!decide (p.1*p.2<0)) (.bl false) (f.zip o) (R none none none none) ⟨none,none,rfl⟩ (by rintro⟨w,s⟩ i ρ ⟨j,l,rfl⟩;have hs1:=B.one s (aV i).2;have L:gI (fZ By (fZ iM (fS 4) (fS 5)) (cM (.int 0))) (vw (R (some (.p (.int w))) (some (.p (.int s))) none none))=.ok (decide (w*s<0)):=gz (fW (fW rfl rfl (iw (rH (by lia)))) rfl (oH _ _));refine⟨_,rfl,λE=>⟨_,gS (L.trans (by simpa using E)) rfl,_,_,rfl⟩,λE=>hU (L.trans (by simpa using E)) (gC rfl)⟩)
 have A:((f.zip o).all λp=>!decide (p.1*p.2<0))=((o.zip f).all λp=>FC p.1 p.2):=by rw[Iz (λa b=>!decide (a*b<0)) f o,Bool.eq_iff_iff,cA,cA];exact⟨λq p i=>by rw[y9 (B.one _ (aV i).1)];exact q p i,λq p i=>by have:=q p i;rw[y9 (B.one _ (aV i).1)]at this;exact this⟩
 rw[A]at J;have S:mE (fR (fS 3) (fR (fS 2) fV)) (lY (R none none none none))=.ok ((f.zip o).map λp=>T.tup [.int p.1,.int p.2]):=oU rfl rfl rfl rfl;unfold DA;cases P:((o.zip f).all λp=>FC p.1 p.2) with
 |false=>exact gO rfl (jR (i9 S (J.2 P)) rfl)
 |true=>
  obtain⟨ρ,e,j,l,rfl⟩:=J.1 P;let r:Option W:=some (.p (.lst (((List.range (d+1)).map (xj us f)).map T.int)));have U:ka [none,some 3,some 0] (kY (fR (fZ iG (fS 1) (cM (.int 1))) fV)) (jP 0) (λ_=>.ok true) (uC c) (lY (R j l none none))=.ok (((List.range (d+1)).map (xj us f)).map T.int):=by
   refine ku (List.range (d+1)) (λ(k:Nat)=>T.int (k:Int)) (λk=>T.int (xj us f k)) (pk (d+1) (by lia) (fW rfl rfl (by rw[iU];simp))) (by simp;lia) (λk Y=>⟨_,rfl,rfl,?_⟩) (by rw[aH];rfl);have hk':=aR.mp Y;have Z:ka [none,none,some 0] (mE (fR (fS 1) (fR (fS 2) fV))) (oO 2 (iX (jP 0) (iX (jP 1) oI))) (λ_=>.ok true) (uG c) [some (.int (k:Int)),some (tL f),some (.lst (us.map tI))]=.ok (((f.zip us).map λp=>p.1*vc p.2 k).map T.int):=ku (f.zip us) (λp=>T.tup [.int p.1,tI p.2]) (λp=>T.int (p.1*vc p.2 k)) (oU rfl rfl rfl rfl) (by rw[fM];lia) (λp i=>⟨_,rfl,rfl,fW rfl (fW rfl rfl (jV p.2 k (by rw[(h.gc _ (aV i).2).gl.1];lia))) (iw ((I _ (aV i).1).ok (n:=84) (by refine (h.gc _ (aV i).2).gl.2 _ ?_;rw[af,ag (show k<p.2.length by rw[(h.gc _ (aV i).2).gl.1];lia)];exact aU _) (by lia) (by decide)))⟩) (by rw[aH];rfl)
   exact oo Z (Ju _)
  let v:LI:=((f.zip o).filter λp=>p.1*p.2 != 0).map Prod.fst;have e8:ka [none,none] (mE (fR (fS 3) (fR (fS 2) fV))) (oO 2 (iX (jP 0) (iX (jP 1) oI))) (gI (fZ (gD true) (fZ iM (fS 0) (fS 1)) (cM (.int 0)))) (uu c) (lY (R j l r none))=.ok (v.map T.int):=oK (f.zip o) (λp=>T.tup [.int p.1,.int p.2]) (λp=>T.int p.1) (λp=>p.1*p.2 != 0) (oU rfl rfl rfl rfl) (by rw[fM];lia) (λp i=>⟨_,rfl,gz (fW (fW rfl rfl (iw (rH (by have:=B.one _ (aV i).2;lia)))) rfl (lV _ _)),λ_=>rfl⟩) (by rw[aH];rfl)
  have F:(!decide (v=[]))=((o.zip f).any λp=>p.1 != 0&&p.2 != 0):=by
   rw[Iv (λa b=>a != 0&&b != 0) o f];by_cases q:v=[]
   .rw[aB q];have:=List.map_eq_nil_iff.mp q;rw[List.filter_eq_nil_iff]at this;symm;rw[Bool.not_true,bG];intro p i z;refine this p i ?_;simp at z ⊢;exact⟨z.2,z.1⟩
   .rw[aA q,Bool.not_false];symm;obtain⟨x,X⟩:=List.exists_mem_of_ne_nil _ q;obtain⟨p,i,-⟩:=aC.mp X;obtain⟨H,u⟩:=aT.mp i;rw[fO];refine⟨p,H,?_⟩;simp at u ⊢;exact⟨u.2,u.1⟩
  refine gO rfl (fX (i9 S e) (fX (ρ':=R j l r none) (gy (jw U) rfl) ?_));have N:gI (fZ (gD true) (nF (fS 6) (λ_=>.ok none) (kL (fS 1))) (iT (uS (iT (lstM (fR (cM (.int 0)) fV))) (fS 1)))) (vw (R j l r none))=.ok (!decide ((List.range d).map (xj us f)=List.replicate d 0)):=by refine gz (fW (x:=.lst (((List.range d).map (xj us f)).map T.int)) (y:=.lst ((List.replicate d (0:Int)).map T.int)) ?_ (GR d (by lia) rfl) (by rw[BO];rfl));have:=ye (fe:=fS 6) (fd:=fS 1) (d:=d) (ts:=((List.range (d+1)).map (xj us f)).map T.int) (ρ:=vw (R j l r none)) rfl rfl;rw[<-c8,E9]at this;exact this
  cases Q:decide ((List.range d).map (xj us f)=List.replicate d 0) with
  |false=>exact jR (hU (by rw[N,Q];rfl) (gC rfl)) rfl
  |true=>
   let C:Option W:=some (.p (.lst (v.map T.int)));refine fX (gS (by rw[N,Q];rfl) rfl) (fX (ρ':=R j l r C) (gy (jw e8) rfl) (gC ?_));have K:=LV us f d;have g1:fZ Ae (fZ gX (fS 6) (fS 1)) (cM (.int 0)) (vw (R j l r C))=.ok (.bl (decide (0<xj us f d))):=fW (fW rfl rfl K) rfl (sP _ _);have g2:fZ (gD false) (fZ gX (fS 6) (fS 1)) (cM (.int 0)) (vw (R j l r C))=.ok (.bl (xj us f d==0)):=fW (fW rfl rfl K) rfl (iA _ _);have g3:fZ (gD true) (fS 7) (iT (lstM fV)) (vw (R j l r C))=.ok (.bl (!decide (v=[]))):=fW (x:=.lst (v.map T.int)) (y:=.lst (([]:LI).map T.int)) rfl (by simp) (by rw[BO];rfl);simp only[Rr,xP,gI,g1,g2,g3,M.bind_ok,F];by_cases D:xj us f d=0
   .rw[aP D,D];rfl
   .rw[aQ D];have:(xj us f d==0)=false:=by simpa using D
    rw[this];cases decide (0<xj us f d)<;>rfl
def Oq w (h:f ρ=.ok (.int w)):fZ oR (jt rQ (fR (fZ Ae f (cM (.int 0))) fV)) (jt rQ (fR (fZ By f (cM (.int 0))) fV)) ρ=.ok (.int (pM w)):=by
 unfold pM;by_cases b:0<w
 .have a:¬w<0:=by lia
  simp[h,b,a]
 .by_cases a:w<0
  .simp[h,b,a]
  .simp[h,b,a]
def Sa(a:f1 ρ=.ok a1)(d:f2 ρ=.ok a2):iT (lstM (fR f1 (fR f2 fV))) ρ=.ok (.lst [a1,a2]):=by
 have b:2<=sizeLine:=by decide
 simp only[iT,lstM,fR,fV,a,d,M.bind_ok,Ce,ay,cB,b,if_true]
def P8 a b (e:(PyData.str a).canLay0=true) (d:(PyData.str b).canLay0=true):gD false (.str a) (.str b)=.ok (.bl (a==b)):=by simp[gD,qJ,qL,e,d]
def vC:(PyData.str "paper").canLay0=true:=by rw[PyData.canLay0];decide +kernel
def wR:(PyData.str "spot").canLay0=true:=by rw[PyData.canLay0];decide +kernel
def JG:gD false (.str "paper") (.str "paper")=.ok (.bl true):=by rw[P8 _ _ vC vC];congr 2
def Ob:gD false (.str "spot") (.str "paper")=.ok (.bl false):=by rw[P8 _ _ wR vC];congr 2
def MU:gD false (.str "paper") (.str "spot")=.ok (.bl false):=by rw[P8 _ _ vC wR];congr 2
def OS:gD false (.str "spot") (.str "spot")=.ok (.bl true):=by rw[P8 _ _ wR wR];congr 2
theorem yo:∀n g t,(∀i,i<n->0<=(t i:Rat)*jZ d X (g i))->0<=jZ d X (Lt n g t)/\((∃i,i<n/\0<(t i:Rat)*jZ d X (g i))->0<jZ d X (Lt n g t))
 |0,g,t,_=>by
  have e:jZ d X (Lt 0 g t)=0:=by have z:Lt 0 g t=λ_=>0:=rfl;rw[z,qB λ_ _=>rfl];simp
  rw[e];exact⟨Rat.le_refl,λ⟨i,a,_⟩=>absurd a (c9 i)⟩
 |n+1,g,t,h=>by
  obtain⟨k,b⟩:=yo n (λj=>g (j+1)) (λj=>t (j+1)) λi a=>h (i+1) (by lia);have l:=sL (d:=d) (X:=X) (g 0) (Lt n (λj=>g (j+1)) (λj=>t (j+1))) (Lt (n+1) g t) 1 (t 0) 1 (λi=>by show 1*(t 0*g 0 i+sm n λj=>t (j+1)*g (j+1) i)=t 0*g 0 i+1*(sm n λj=>t (j+1)*g (j+1) i);lia)
  have f:((1:Int):Rat)=1:=rfl;rw[f]at l;refine⟨by grind,λ⟨i,a,hp⟩=>?_⟩;cases i with
  |zero=>grind
  |succ i=>have:=b ⟨i,by lia,hp⟩;grind
def RD(us:LL)(d:Nat)(a:LI)(X:Nat->Rat):Prop:=∀(i:Nat) (v:Int),a[i]? = some v->(v=0->jZ d X (vc (us.getD i []))=0)/\(v≠0->0<(v:Rat)*jZ d X (vc (us.getD i [])))
def Ld{us:LL}{d:Nat}{l f:LI}{X:Nat->Rat}(r:A1 us.length l)(h:RD us d l X)(p:KB us d l f):False:=by
 have g:∀i,i<us.length->∀v,l[i]? = some v->0<=(vc f i)*jZ d X (vc (us.getD i []))/\(v*vc f i≠0->0<(vc f i:Rat)*jZ d X (vc (us.getD i []))):=λi x v j=>by
  obtain⟨a,b⟩:=h i v j;have m:=p.may i v j;have o:=r.one v (au j);generalize jZ d X (vc (us.getD i []))=e at a b;generalize vc f i=w at m ⊢;have:v=0\/v=1\/v = -1:=by lia
  rcases this with rfl|rfl|rfl
  .rw[a rfl];simp
  .have u:=b (by decide);have B:((1:Int):Rat)=1:=rfl;rw[B]at u;have n:(0:Rat)<e:=by grind
   have s:0<=w:=by lia
   have A:(0:Rat)<=(w:Rat):=by exact_mod_cast s
   refine⟨fH A (eL n),λz=>eK (mR (by lia)) n⟩
  .have u:=b (by decide);have B:((-1:Int):Rat) = -1:=rfl;rw[B]at u;have n:(0:Rat) < -e:=by grind
   have s:0<=-w:=by lia
   have A:(0:Rat)<=((-w:Int):Rat):=by exact_mod_cast s
   have F:=fH A (eL n);have C:((-w:Int):Rat) = -(w:Rat):=by simp
   rw[C]at F;refine⟨by grind,λz=>?_⟩;have I:=eK (mR (show 0 < -w by lia)) n;rw[C]at I;grind
 have all:∀i,i<us.length->0<=(vc f i:Rat)*jZ d X (vc (us.getD i [])):=λi x=>by
  have:i<l.length:=by rw[r.len];exact x
  exact (g i x _ (ag this)).1
 obtain⟨J,H⟩:=yo us.length (λi=>vc (us.getD i [])) (vc f) all;have z:jZ d X (Lt us.length (λi=>vc (us.getD i [])) (vc f)) = -((Lt us.length (λi=>vc (us.getD i [])) (vc f) d:Int):Rat):=qB λk E=>p.zer k E;rcases p.fin with q|⟨q,i,v,j,y⟩
 .have:=mR (show 0<Lt us.length (λi=>vc (us.getD i [])) (vc f) d from q);grind
 .have D:i<us.length:=by rw[<-r.len];exact (aa.mp j).1
  have:=H ⟨i,D,(g i D v j).2 y⟩;rw[z]at this;have e:Lt us.length (λi=>vc (us.getD i [])) (vc f) d=0:=q;rw[e]at this;simp at this
theorem yf x0 x1 N (L:N<=1000):∀(f:List (Int×(Int×Int))) (ie a:Int) (A B:Nat) (v:Rat) (h i:Option W),(∀p∈f,Bn N p.1/\Fq p.2)->f.length<=10->A+B+2*f.length+2*wts (f.map Prod.snd)<=500000->N+B<=A->Bn A ie->Bn B a->0<a->(ie:Rat)=(a:Rat)*v->
  ∃d b r s,iW (kr 2 (gY (jA 4) (gY (jA 5) kC))) (jD c) (f.map FJ) [x0,x1,some (.p (.int ie)),some (.p (.int a)),h,i]=.nx [x0,x1,some (.p (.int d)),some (.p (.int b)),r,s]/\0<b/\(d:Rat)=(b:Rat)*(v+(f.map λp=>(p.1:Rat)*qv p.2).sum)
 |[],ie,a,A,B,v,h,i,_,_,_,_,_,_,hb,e=>⟨ie,a,h,i,rfl,hb,by rw[e];simp;grind⟩
 | (n,p)::f,ie,a,A,B,v,h,i,hp,hl,hA,hAB,b1,b2,hb,e=>by
  obtain⟨j,g⟩:=hp (n,p) (by simp);simp only at j g;have hw:wts (((n,p)::f).map Prod.snd)=wt p+wts (f.map Prod.snd):=by simp[wts]
  rw[hw]at hA;rw[ay]at hA hl;have m:Bn (wt p) p.1:=(Bm _).mono (dc _ _);have k:Bn (wt p) p.2:=(Bm _).mono (de _ _);have H:=iw (b1.ok k (by lia) (by lia));have F:=iw (j.ok m (by lia) (by lia));have D:=iw ((j.mul m).ok b2 (by lia) (by lia));have J:=iw (b2.ok k (by lia) (by lia));have bt:Bn (A+wt p+1) (ie*p.2+n*p.1*a):=((b1.mul k).add ((j.mul m).mul b2)).mono (by lia);have C:Bn (B+wt p) (a*p.2):=b2.mul k;have I:=g.pos;have p0:(p.2:Rat)≠0:=by
   intro z;have:p.2=0:=by exact_mod_cast z
   lia
  have E:((ie*p.2+n*p.1*a:Int):Rat)=((a*p.2:Int):Rat)*(v+(n:Rat)*qv p):=by
   have y:((ie*p.2+n*p.1*a:Int):Rat)=(ie:Rat)*(p.2:Rat)+(n:Rat)*(p.1:Rat)*(a:Rat):=by simp
   have K:((a*p.2:Int):Rat)=(a:Rat)*(p.2:Rat):=by simp
   rw[y,K,e];unfold qv;grind
  obtain⟨d,b,r,s,u,l,w⟩:=yf x0 x1 N L f (ie*p.2+n*p.1*a) (a*p.2) (A+wt p+1) (B+wt p) (v+(n:Rat)*qv p) (some (.p (.int n))) (some (.p (fr p))) (λq g=>hp q (by simp[g])) (by lia) (by lia) (by lia) bt C (aW hb I) E;refine⟨d,b,r,s,?_,l,?_⟩
  .rw[bH,iW];have x:jD c [x0,x1,some (.p (.int ie)),some (.p (.int a)),some (.p (.int n)),some (.p (fr p))]=.nx [x0,x1,some (.p (.int (ie*p.2+n*p.1*a))),some (.p (.int (a*p.2))),some (.p (.int n)),some (.p (fr p))]:=
    fX (gy (fW (fW rfl (fW rfl rfl (kS p)) H) (fW (fW rfl (fW rfl rfl (mz p)) F) rfl D) (iU _ _)) rfl) (gy (fW rfl (fW rfl rfl (kS p)) J) rfl)
   show (match jD c [x0,x1,some (.p (.int ie)),some (.p (.int a)),some (.p (.int n)),some (.p (fr p))] with|.nx ρ2=>iW (kr 2 (gY (jA 4) (gY (jA 5) kC))) (jD c) (f.map FJ) ρ2|.ct ρ2=>iW (kr 2 (gY (jA 4) (gY (jA 5) kC))) (jD c) (f.map FJ) ρ2|.bk ρ2=>.nx ρ2|o=>o)=_;rw[x];exact u
  .rw[w,bH,eM];grind
def Ei(x:Rat):Int:=if 0<x then 1 else if x<0 then -1 else 0
def Ot{ie a:Int}(g:0<a)(e:(ie:Rat)=(a:Rat)*v):pM ie=Ei v:=by
 have d:=mR g;unfold pM Ei;rcases fw ie 0 with h|h|h
 .have f:(ie:Rat)<0:=by exact_mod_cast h
  have b:v<0:=by refine fz ?_ (eL d);grind
  rw[aQ (by lia),aP h,aQ (by grind),aP b]
 .have f:(ie:Rat)=0:=by rw[h];rfl
  have b:v=0:=by grind
  rw[aQ (by lia),aQ (by lia),aQ (by grind),aQ (by grind)]
 .have f:=mR h;have b:0<v:=by refine fz ?_ (eL d);grind
  rw[aP h,aP b]
def Ft(A:B<=900) d u (f:GL d B u) (C:d<=3) s (q:s.length=d) (n:∀p∈s,Fq p) (hw:wts s<=200000):gX (tI u) (.int (-1))=.ok (.int (vc u d))/\∃ie a h i,iW (kr 2 (gY (jA 4) (gY (jA 5) kC))) (jD c) ((u.zip s).map FJ) [some (.p (tI u)),some (.p (tS s)),some (.p (.int (-(vc u d)))),some (.p (.int 1)),none,none]=.nx [some (.p (tI u)),some (.p (tS s)),some (.p (.int ie)),some (.p (.int a)),h,i]/\pM ie=Ei (jZ d (Xs s) (vc u)):=by
 have k:=f.1;have x:gX (tI u) (.int (-1))=.ok (.int (vc u d)):=by
  have g:u≠[]:=λz=>by rw[z]at k;simp at k
  have:rN (u.map T.int) (-1)=some (.int (vc u d)):=by
   rw[N9 _ (by simpa using g),List.getLast?_map,List.getLast?_eq_getElem?];have e:u.length-1=d:=by lia
   rw[e,ag (by lia)];unfold vc;rw[af,ag (by lia)];rfl
  simp[tI,this]
 have m:Bn B (vc u d):=by refine f.2 _ ?_;unfold vc;rw[af,ag (by lia)];exact aU _
 have o:(u.zip s).map Prod.snd=s:=by rw[List.map_snd_zip];lia
 obtain⟨ie,a,h,i,e,v,j⟩:=yf (some (.p (tI u))) (some (.p (tS s))) B (by lia) (u.zip s) (-(vc u d)) 1 (B+1) 1 (-(vc u d)) none none (λp l=>⟨f.2 _ (aV l).1,n _ (aV l).2⟩) (by rw[fM];lia) (by rw[o,fM];lia) (by lia) (m.neg.mono (by lia)) G3 (by decide) (by
  have r:((-(vc u d):Int):Rat) = -(vc u d):=by simp
  have y:((1:Int):Rat)=1:=rfl;rw[r,y];grind)
 have b:-(vc u d)+((u.zip s).map λp=>p.1*qv p.2).sum=jZ d (Xs s) (vc u):=by have:=we d s u q (by lia);unfold Gh at this;rw[this];unfold jZ;grind
 rw[b]at j;have w:=Ot v j;exact⟨x,ie,a,h,i,e,w⟩
def Az(a:B<=900) d u (f:GL d B u) (i:d<=3) s (j:s.length=d) (b:∀p∈s,Fq p) (hw:wts s<=200000):sN c [tI u,tS s]=.ok (.int (Ei (jZ d (Xs s) (vc u)))):=by obtain⟨g,ie,k,l,m,e,h⟩:=Ft a d u f i s j b hw;rw[<-h];exact gO rfl (fX (gy (tV (fW rfl rfl g)) rfl) (fX (gy rfl rfl) (fX (i9 (oU rfl rfl rfl rfl) e) (gC (Oq ie rfl)))))
def CA p (h:Fq p):jy c [fr p]=.ok (.bl true):=by have e:(L3.oJ (L3.jT (gI (nE "tuple" (fS 0)))) (L3.oJ (gI (fZ (gD true) (jt jE (fR (fS 0) fV)) (cM (.int 2)))) (L3.oJ (L3.jT (gI (fY (fR (fZ gX (fS 0) (cM (.int 0))) fV) (jc c)))) (L3.jT (gI (fY (fR (fZ gX (fS 0) (cM (.int 1))) fV) (jc c))))))) (vw (g9 1 [fr p]))=.ok false:=rfl;refine gO rfl (fX (gS e rfl) (gC ?_));have d:fZ Ae (fZ gX (fS 0) (cM (.int 1))) (cM (.int 0)) (vw (g9 1 [fr p]))=.ok (.bl true):=fW (fW rfl rfl (kS p)) rfl (by rw[sP];simp[h.pos]);have b:fZ (gD false) (fY (fR (fZ gX (fS 0) (cM (.int 0))) (fR (fZ gX (fS 0) (cM (.int 1))) fV)) (jz c)) (cM (.int 1)) (vw (g9 1 [fr p]))=.ok (.bl true):=fW (ig (fW rfl rfl (mz p)) (fW rfl rfl (kS p)) (qX p.1 p.2)) rfl (by rw[iA,h.one];rfl);have a:=gz d;simp only[xP,a,b,M.bind_ok];rfl
def FZ(d:Nat) s (e:s.length=d) (h:d<=3) (a:∀p∈s,Fq p):iY c [tS s,.int d]=.ok (.bl true):=by
 have sz:1000<sizeLine:=by decide
 have f:ka [none] (iB (fS 0)) (jP 0) (λ_=>.ok true) (qt c) (vw (g9 2 [tS s,.int d]))=.ok ((s.map λ_=>true).map T.bl):=ku s fr (λ_=>T.bl true) rfl (by lia) (λp g=>⟨_,rfl,rfl,q0 rfl (CA p (a p g))⟩) (by simp)
 have b:(L3.oJ (L3.jT (gI (nE "tuple" (fS 0)))) (gI (fZ (gD true) (jt jE (fR (fS 0) fV)) (fS 1)))) (vw (g9 2 [tS s,.int d]))=.ok false:=by simp[tS,e]
 exact gO rfl (fX (gS b rfl) (gC (oo f (by rw[qM];simp))))
def BI(n:Nat) ws (b:ws.length=n) (e:n<=8):je c [tL ws,.int n]=.ok (.bl true):=by
 have sz:1000<sizeLine:=by decide
 have w:∀i:Int,jc c [.int i]=.ok (.bl true):=λi=>rfl;have d:ka [none] (iB (fS 0)) (jP 0) (λ_=>.ok true) (pO c) (vw (g9 2 [tL ws,.int n]))=.ok ((ws.map λ_=>true).map T.bl):=ku ws T.int (λ_=>T.bl true) rfl (by lia) (λp f=>⟨_,rfl,rfl,q0 rfl (w p)⟩) (by simp)
 have a:(L3.oJ (L3.jT (gI (nE "list" (fS 0)))) (gI (fZ (gD true) (jt jE (fR (fS 0) fV)) (fS 1)))) (vw (g9 2 [tL ws,.int n]))=.ok false:=by simp[tL,b]
 exact gO rfl (fX (gS a rfl) (gC (oo d (by rw[qM];simp))))
theorem HJ k:∀a us,a.length=us.length->xj us a k=sm us.length (λi=>vc a i*vc (us.getD i []) k)
 |[],[],_=>rfl
 |w::a,u::us,h=>by have:=HJ k a us (by simpa using h);show w*vc u k+xj us a k=vc (w::a) 0*vc ((u::us).getD 0 []) k+sm us.length (λi=>vc (w::a) (i+1)*vc ((u::us).getD (i+1) []) k);rw[this];rfl
def FX{us:LL}{d:Nat}{f a:LI}(l:A1 us.length f)(p:KB us d f a):DA us d f a=true:=by
 have t:=λk=>HJ k a us p.len;unfold DA;have s:((f.zip a).all λq=>FC q.1 q.2)=true:=cA.mpr λq h=>by
  obtain⟨i,g⟩:=dB.mp h;rw[List.getElem?_zip_eq_some]at g;rw[y9 (l.one _ (aV h).1)];have:=p.may i q.1 g.1;have e:vc a i=q.2:=by unfold vc;rw[af,g.2];rfl
  rw[e,cQ]at this;simp;lia
 have r:(List.range d).map (xj us a)=List.replicate d 0:=fP.mpr ⟨by simp,λx m=>by obtain⟨k,n,rfl⟩:=aC.mp m;rw[t k];exact p.zer k (aR.mp n)⟩
 rw[s,aB r,dF,dF];rcases p.fin with q|⟨q,i,v,j,b⟩
 .rw[<-t d]at q;rw[aQ (by lia),aB q]
 .rw[<-t d]at q;rw[aP q,fO];have o:i<a.length:=by rw[p.len,<-l.len];exact (aa.mp j).1
  refine⟨(v,vc a i),dB.mpr ⟨i,List.getElem?_zip_eq_some.mpr ⟨j,?_⟩⟩,?_⟩
  .unfold vc;rw[af,ag o];rfl
  .have:v≠0/\vc a i≠0:=⟨λz=>b (by rw[z];simp),λz=>b (by rw[z];simp)⟩;simp[this.1,this.2]
def K0{us:LL}{d:Nat}{g:LI}{X:Nat->Rat}(k:A1 us.length g)(h:RD us d g X):(us.map λu=>Ei (jZ d X (vc u)))=g:=by
 apply fC
 .simp[k.len]
 .intro i f l;rw[aw]at f;obtain⟨a,b⟩:=h i g[i] (ag l);have o:=k.one _ (aU l);have m:us.getD i []=us[i]:=by rw[af,ag f];rfl
  rw[m]at a b;rw[dR];generalize jZ d X (vc us[i])=e at a b;generalize g[i]=v at a b o;have:v=0\/v=1\/v = -1:=by lia
  unfold Ei;rcases this with rfl|rfl|rfl
  .rw[a rfl,aQ (by grind),aQ (by grind)]
  .have j:=b (by decide);have f:((1:Int):Rat)=1:=rfl;rw[f]at j;rw[aP (by grind)]
  .have j:=b (by decide);have f:((-1:Int):Rat) = -1:=rfl;rw[f]at j;rw[aQ (by grind),aP (by grind)]
def sC(d:Nat)(us:LL)(j:1<=d/\d<=3)(h:HC d 84 us)(f:LI)(i:A1 us.length f) :
  (∃g,j6 c [j7 c d us,tI f]=.ok (.tup [.str "paper",tL g])/\KB us d f g/\pb c [j7 c d us,.lst (us.map tI),.int d,tI f]=.ok (.bl false))\/
  ∃s,j6 c [j7 c d us,tI f]=.ok (.tup [.str "spot",tS s])/\PX us d 9000 3900 f s/\pb c [j7 c d us,.lst (us.map tI),.int d,tI f]=.ok (.bl true):=by
 have sz:1000<sizeLine:=by decide
 have C:=h.few;let R (a:Option W):En:=[some (.p (j7 c d us)),some (.p (.lst (us.map tI))),some (.p (.int d)),some (.p (tI f)),a];rcases Ko (c:=c) d us j h f i with⟨g,e,p,b⟩|⟨s,e,p⟩
 .left;let a:Option W:=some (.p (.tup [.str "paper",tL g]));have m:(L3.oJ (L3.jT (gI (nE "tuple" (fS 4)))) (gI (fZ (gD true) (jt jE (fR (fS 4) fV)) (cM (.int 2))))) (vw (R a))=.ok false:=rfl;have r:(L3.jW (gI (fZ (gD false) (fZ gX (fS 4) (cM (.int 0))) (cM (.str "spot")))) (gI (fY (fR (fZ gX (fS 4) (cM (.int 1))) (fR (fS 2) fV)) (iY c)))) (vw (R a))=.ok false:=pU (gz (fW (x:=.str "paper") (fW rfl rfl rfl) rfl MU));have l:gI (fZ (gD false) (fZ gX (fS 4) (cM (.int 0))) (cM (.str "paper"))) (vw (R a))=.ok true:=gz (fW (x:=.str "paper") (fW rfl rfl rfl) rfl JG);have n:gI (fY (fR (fZ gX (fS 4) (cM (.int 1))) (fR (jt jE (fR (fS 1) fV)) fV)) (je c)) (vw (R a))=.ok true:=gz (ig (x:=tL g) (fW rfl rfl rfl) (oM rfl (by simp)) (BI us.length g p.len (by lia)));have A:gI (fY (fR (fS 1) (fR (fS 2) (fR (fS 3) (fR (fZ gX (fS 4) (cM (.int 1))) fV)))) (kh c)) (vw (R a))=.ok true:=by have:=Bu (c:=c) d us j h f i g p.len (λx w=>(b x w).mono (by lia));rw[FX i p]at this;exact gz (Ea (u:=tL g) rfl rfl rfl (fW rfl rfl rfl) this)
  have o:(L3.jW (gI (fZ (gD false) (fZ gX (fS 4) (cM (.int 0))) (cM (.str "paper")))) (L3.jW (gI (fY (fR (fZ gX (fS 4) (cM (.int 1))) (fR (jt jE (fR (fS 1) fV)) fV)) (je c))) (gI (fY (fR (fS 1) (fR (fS 2) (fR (fS 3) (fR (fZ gX (fS 4) (cM (.int 1))) fV)))) (kh c))))) (vw (R a))=.ok true:=by simp only[L3.jW,l,n,A,M.bind_ok];rfl
  exact⟨g,e,p,gO rfl (fX (ρ':=R a) (gy (ig rfl rfl e) rfl) (fX (gS m rfl) (fX (gS r rfl) (jR (hU o (gC rfl)) rfl))))⟩
 .right;let a:Option W:=some (.p (.tup [.str "spot",tS s]));have m:(L3.oJ (L3.jT (gI (nE "tuple" (fS 4)))) (gI (fZ (gD true) (jt jE (fR (fS 4) fV)) (cM (.int 2))))) (vw (R a))=.ok false:=rfl;have l:gI (fZ (gD false) (fZ gX (fS 4) (cM (.int 0))) (cM (.str "spot"))) (vw (R a))=.ok true:=gz (fW (x:=.str "spot") (fW rfl rfl rfl) rfl OS);have n:gI (fY (fR (fZ gX (fS 4) (cM (.int 1))) (fR (fS 2) fV)) (iY c)) (vw (R a))=.ok true:=gz (ig (x:=tS s) (fW rfl rfl rfl) rfl (FZ d s p.len j.2 λq k=>(p.fq q k).1));have r:(L3.jW (gI (fZ (gD false) (fZ gX (fS 4) (cM (.int 0))) (cM (.str "spot")))) (gI (fY (fR (fZ gX (fS 4) (cM (.int 1))) (fR (fS 2) fV)) (iY c)))) (vw (R a))=.ok true:=by simp only[L3.jW,l,n,M.bind_ok];rfl
  have v:ka [none,some 4] (iB (fS 1)) (jP 0) (λ_=>.ok true) (nU c) (vw (R a))=.ok (f.map T.int):=by refine ku us tI (λu=>T.int (Ei (jZ d (Xs s) (vc u)))) rfl (by lia) (λu z=>⟨_,rfl,rfl,ig (y:=tS s) rfl (fW rfl rfl rfl) (Az (B:=84) (by lia) d u (h.gc u z).gl j.2 s p.len (λq k=>(p.fq q k).1) (by have:=p.wts;lia))⟩) ?_;rw[<-K0 i p.side,aH];rfl
  have o:gI (fZ (gD false) (jt ja (fR (iT (ka [none,some 4] (iB (fS 1)) (jP 0) (λ_=>.ok true) (nU c))) fV)) (fS 3)) (vw (R a))=.ok true:=gz (fW (x:=tI f) (y:=tI f) (oo v rfl) rfl (by have:=Ir false f f;unfold tI;rw[this];simp))
  exact⟨s,e,p,gO rfl (fX (ρ':=R a) (gy (ig rfl rfl e) rfl) (fX (gS m rfl) (jR (hU r (hU o (gC rfl))) rfl)))⟩
def xM t b (j:0<b) (g:Bn 8000 b):∃p,kD c [.int t,.int b]=.ok (fr p)/\Fq p/\p.1.natAbs<=t.natAbs/\p.2.natAbs<=b.natAbs:=by
 have a:b≠0:=by lia
 have i:=Cu.Jr t b a;have h:=Cu.MY t b a;have e:Cu.G t b≠0:=by lia
 have d:∀x:Int,Builtin.divisionGoesByPylong x (Cu.G t b)=false:=λx=>by refine Bn.noPy (n:=8000) ?_ (by decide);unfold Bn at *;refine b8 ?_ g;lia
 have f:=Cu.AN t b a;rw[aQ (by lia)]at f;refine⟨(t.fdiv (Cu.G t b),b.fdiv (Cu.G t b)),gO rfl (fX (gy (ig rfl rfl (qX t b)) rfl) (gC (nW (fW rfl rfl (lM e (d t))) (fW rfl rfl (lM e (d b)))))),⟨f.pos,f.one⟩,rS (Cu.ni t b) e,rS (Cu.lD t b) e⟩
def FQ:lb c=rg c:=rfl
def Q4:He true (.bl true) (.bl true)=.ok (.bl false):=rfl
def Kg:RD us d (us.map λu=>Ei (jZ d X (vc u))) X:=λi v a=>by
 rw[av]at a;cases q:us[i]? with
 |none=>rw[q]at a;cases a
 |some u=>
  rw[q]at a;have e:v=Ei (jZ d X (vc u)):=by simpa using a.symm
  have g:us.getD i []=u:=by rw[af,q];rfl
  rw[g,e];generalize jZ d X (vc u)=x;unfold Ei;by_cases b:0<x
  .rw[aP b];have o:((1:Int):Rat)=1:=rfl;exact⟨λz=>absurd z (by decide),λ_=>by rw[o];grind⟩
  .rw[aQ b];by_cases f:x<0
   .rw[aP f];have o:((-1:Int):Rat) = -1:=rfl;exact⟨λz=>absurd z (by decide),λ_=>by rw[o];grind⟩
   .rw[aQ f];exact⟨λ_=>by grind,λz=>absurd rfl z⟩
def Lj x:(Ei x).natAbs<=1:=by unfold Ei;split<;>(try split)<;>simp
end CL
namespace CL
open PySem L2 L3
variable {c:Cs}
structure Sq(d:Nat)(s:List (Int×Int)):Prop where
 len:s.length=d
 fq:∀p∈s,Fq p
 w:wts s<=200000
def Lk cell (d j:Nat) (Y:j<=3) s (X:s.length<=3) l e:∃p a m,uD c [some (.p (.int cell)),some (.p (.int (d:Int))),some (.o (s.map fr)),some (.p (.int (j:Int))),l,e]=.nx [some (.p (.int cell)),some (.p (.int (d:Int))),some (.o ((s++[p]).map fr)),some (.p (.int (j:Int))),a,m]/\Fq p/\wt p<=50:=by
 have sz:1000<sizeLine:=by decide
 let R (l e:Option W):En:=[some (.p (.int cell)),some (.p (.int (d:Int))),some (.o (s.map fr)),some (.p (.int (j:Int))),l,e];obtain⟨P,a2,a3⟩:=i7 (c:=c) cell (3*(j:Int)) 13 (by decide) (by decide) (by omega) (by omega);obtain⟨U,C,D⟩:=i7 (c:=c) cell (3*(j:Int)+1) 5 (by decide) (by decide) (by omega) (by omega);obtain⟨F,g2,g3⟩:=i7 (c:=c) cell (3*(j:Int)+2) 6 (by decide) (by decide) (by omega) (by omega);obtain⟨S,h2,h3⟩:=i7 (c:=c) cell (20+(j:Int)) 1000000000000 (by decide) (by decide) (by omega) (by omega);obtain⟨I,Z,i3⟩:=i7 (c:=c) cell (30+(j:Int)) 1000000000 (by decide) (by decide) (by omega) (by omega);obtain⟨w,K,hw⟩:=Ec [1,1,2,3,7] _ C (by simpa using D);have q:∀{f:Pe->M T} {u:Pe},f u=.ok (.int (j:Int))->fZ iM (cM (.int 3)) f u=.ok (.int (3*(j:Int))):=λh=>fW rfl h (j4 (by decide));have y:setO 4 (iD (fZ oR (fY (fR (fS 0) (fR (fZ iM (cM (.int 3)) (fS 3)) (fR (cM (.int 13)) fV))) (f9 c)) (cM (.int 6)))) (R l e)=.nx (R (some (.p (.int (dr c cell (3*(j:Int)) 13-6)))) e):=gy (fW (j3 rfl (q rfl) rfl P) rfl rfl) rfl;have z:∀a,setO 5 (iD (fZ gX (iT (lstM (fR (cM (.int 1)) (fR (cM (.int 1)) (fR (cM (.int 2)) (fR (cM (.int 3)) (fR (cM (.int 7)) fV))))))) (fY (fR (fS 0) (fR (fZ iG (fZ iM (cM (.int 3)) (fS 3)) (cM (.int 1))) (fR (cM (.int 5)) fV))) (f9 c)))) (R a e)=.nx (R a (some (.p (.int w)))):=λa=>gy (fW (x:=.lst ([1,1,2,3,7].map T.int)) rfl (j3 rfl (fW (q rfl) rfl rfl) rfl U) K) rfl;have v:∀a m,gI (fZ (gD false) (fY (fR (fS 0) (fR (fZ iG (fZ iM (cM (.int 3)) (fS 3)) (cM (.int 2))) (fR (cM (.int 6)) fV))) (f9 c)) (cM (.int 5))) (vw (R a m))=.ok (decide (dr c cell (3*(j:Int)+2) 6=5)):=λa m=>gz (fW (j3 rfl (fW (q rfl) rfl rfl) rfl F) rfl (iA _ _));have k:∀(t b:Int),0<b->b<=1000000000->t.natAbs<=1000000000000->∃p,oy 2 (iD (fY (fR (fS 4) (fR (fS 5) fV)) (kD c))) (R (some (.p (.int t))) (some (.p (.int b))))=.nx [some (.p (.int cell)),some (.p (.int (d:Int))),some (.o ((s++[p]).map fr)),some (.p (.int (j:Int))),some (.p (.int t)),some (.p (.int b))]/\Fq p/\wt p<=50:=λt b J A E=>by have H:Bn 40 b:=b8 (show b.natAbs<=1000000000 by omega) (by decide);obtain⟨p,g,i,N,p2⟩:=xM (c:=c) t b J (H.mono (by decide));have B:Bn 45 p.1:=b8 (aM N E) (by decide);have L:Bn 45 p.2:=b8 (show p.2.natAbs<=1000000000 by omega) (by decide);refine⟨p,tw (t:=fr p) rfl (ig rfl rfl g) (by simp;omega) (by simp[R]),i,?_⟩;have:=xZ B (by decide);have:=xZ L (by decide);unfold wt;omega
 by_cases r:dr c cell (3*(j:Int)+2) 6=5
 .obtain⟨p,g,i,n⟩:=k (dr c cell (20+(j:Int)) 1000000000000-100000000000) (1+dr c cell (30+(j:Int)) 1000000000) (by omega) (by omega) (by omega);refine⟨p,_,_,fX y (fX (z _) (fX (hU (by rw[v];simp[r]) (fX (gy (fW (j3 rfl rfl rfl S) rfl rfl) rfl) (gy (fW rfl (j3 rfl rfl rfl I) rfl) rfl))) g)),i,n⟩
 .have Q:0<w/\w<=7:=by simp at hw;omega
  obtain⟨p,g,i,n⟩:=k (dr c cell (3*(j:Int)) 13-6) w Q.1 (by omega) (by omega);exact⟨p,_,_,fX y (fX (z _) (fX (gS (by rw[v];simp[r]) rfl) g)),i,n⟩
def AU cell (d:Nat) (C:1<=d/\d<=3):∃s,nv c [.int cell,.int (d:Int)]=.ok (tS s)/\Sq d s:=by
 have sz:1000<sizeLine:=by decide
 obtain⟨g,e,s,n,b,f,rfl,r,l,hw⟩:=iV (m:=jA 3) (λ(j:Nat)=>T.int (j:Int)) (λk g=>∃(s:List (Int×Int)) (n b f:Option W),g=[some (.p (.int cell)),some (.p (.int (d:Int))),some (.o (s.map fr)),n,b,f]/\s.length=k/\(∀p∈s,Fq p)/\wts s<=50*k) (List.range d) 0 [some (.p (.int cell)),some (.p (.int (d:Int))),some (.o []),none,none,none]
  ⟨[],_,_,_,rfl,rfl,(λp y=>nomatch y),by decide⟩ (by
   rintro i j g a ⟨s,n,b,f,rfl,r,l,hw⟩;have w:i<d:=by have:=(aa.mp a).1;simpa using this
   have v:j=i:=by rw[List.getElem?_range w]at a;exact (Option.some.inj a).symm
   subst v;obtain⟨p,z,B,e,x,A⟩:=Lk (c:=c) cell d j (by omega) s (by omega) b f;refine⟨_,_,rfl,.inl e,s++[p],_,_,_,rfl,by simp;omega,λq u=>?_,?_⟩
   .rcases ai.mp u with h|h
    .exact l q h
    .rw[aj.mp h];exact x
   .unfold wts at *;rw[aY,List.sum_append];simp;omega)
 refine⟨s,gO rfl (fX (l5 rfl rfl) (fX (mU (pk d (by omega) rfl) e) (gC ?_))),by rw[r];simp,l,by rw[fL]at hw;omega⟩;rfl
def HQ ns (a b:Nat) (s:b<=7):∃(d:Nat) (cs:LL),rg c [.scr ns,.int (a:Int),.int b]=.ok (.tup [.int d,.lst (cs.map tI)])/\(1<=d/\d<=3)/\HC d 84 cs/\cs.length<=b:=by
 obtain⟨v,j,-⟩:=rz ns a;obtain⟨k,i,r⟩:=i7 (c:=c) v 0 3 (by decide) (by decide) (by decide) (by decide);obtain⟨h,q,g⟩:=i7 (c:=c) v 1 (b+1) (by lia) (by lia) (by decide) (by decide);obtain⟨d,hd⟩:∃d:Nat,1+dr c v 0 3=(d:Int):=⟨(1+dr c v 0 3).toNat,by lia⟩;obtain⟨m,hmm⟩:∃d:Nat,dr c v 1 (b+1)=(d:Int):=⟨(dr c v 1 (b+1)).toNat,by lia⟩;have e:1<=d/\d<=3:=by lia
 rw[hmm]at h g;let R (m:Nat):En:=[some (.p (.scr ns)),some (.p (.int (a:Int))),some (.p (.int b)),some (.p (.int v)),some (.p (.int d)),some (.p (.int m))];obtain⟨f,hm',e5⟩:∃f:Nat,f<=b/\(j5 (gI (fZ (gD false) (fS 4) (cM (.int 3)))) (setO 5 (iD (jt q9 (fR (fS 5) (fR (cM (.int 5)) fV))))) gM) (R m)=.nx (R f):=by
  by_cases o:d=3
  .refine⟨min m 5,by lia,hU (gz (fW rfl rfl (by rw[iA,o];rfl))) (gy ?_ rfl)⟩;show jt q9 _ _=_;have:q9 [.int (m:Int),.int 5]=.ok (.int ((min m 5:Nat):Int)):=by simp[q9];lia
   simpa[jt,fR,fV,R] using this
  .exact⟨m,by lia,gS (gz (fW rfl rfl (by rw[iA];simp;lia))) rfl⟩
 obtain⟨cs,n,l,u⟩:=AF ns (a+1) d f e (by lia);refine⟨d,cs,gO rfl (fX (gy (ig rfl rfl j) rfl) (fX (gy (fW rfl (j3 rfl rfl rfl k) (by rw[iU,hd])) rfl) (fX (gy (j3 rfl rfl (fW rfl rfl (iU _ _)) h) rfl) (fX e5 (gC (nW rfl (jw (BJ rfl (fW rfl rfl (by rw[iU];simp)) rfl rfl n)))))))),e,l,by lia⟩
def AA:jG c=pb c:=rfl
def Sk(x:Str):Prop:=∀k∈x.cps.toList,k<0x110000
def rC(s:String):Sk (Str.ofString s):=λk b=>by rw[Str.ofString_eq_toList]at b;obtain⟨a,-,rfl⟩:=aC.mp b;have:=a.valid;unfold UInt32.isValidChar Nat.isValidChar at this;show a.val.toNat<_;omega
def zp(e:Sk a)(d:Sk b):Sk (a++b):=λk f=>(PyProof.Rows.mem_cps_append.mp f).elim (e k) (d k)
def DT ts (h:∀t∈ts,Sk t):Sk (Str.join ", " ts):=λk a=>by
 rcases (PyProof.Rows.mem_join _ _ _).mp a with⟨t,b,q⟩|⟨-,q⟩
 .exact h t b k q
 .exact rC ", " k q
structure Sw(n:Nat)(d:PyData):Prop where
 sh:d.showable=true
 ls:d.leavesShort 568=true
 wt:d.weight<=n
 sk:Sk d.shown
def C1(h:Bn 1880 x):Sw 1880 (.int x):=by
 have e:x.natAbs.log2<1880:=by
  by_cases z:x.natAbs=0
  .rw[z];decide
  .exact (cY z).mpr h
 refine⟨by rw[PyData.showable];exact aB (by omega),?_,?_,by rw[PyData.shown];exact rC _⟩
 .rw[PyData.leavesShort,PyData.shown];refine aB ?_;show (Str.ofString (toString x)).length<=568;rw[ofString_length];exact int_text_length_le10 (by decide) (aD h (show 2 ^ 1880<=10 ^ 567 by decide +kernel))
 .rw[PyData.weight];split<;>omega
theorem C9:∀{ds:List PyData},(∀d∈ds,Sw n d)->PyData.showableAll ds=true/\PyData.leavesShortAll 568 ds=true/\PyData.weightAll ds<=ds.length*(n+1)/\∀t∈PyData.shownAll ds,Sk t
 |[],_=>⟨by rw[PyData.showableAll],by rw[PyData.leavesShortAll],by rw[PyData.weightAll];omega,λt g=>by rw[PyData.shownAll]at g;cases g⟩
 |d::ds,h=>by
  obtain⟨a,b,e,f⟩:=C9 λx i=>h x (bx _ i);have q:=h d (bu ..);have w:=q.wt;refine⟨by rw[PyData.showableAll,q.sh,a];rfl,by rw[PyData.leavesShortAll,q.ls,b];rfl,by rw[PyData.weightAll,ay,b4];omega,λt g=>?_⟩;rw[PyData.shownAll]at g;rcases aE.mp g with rfl|g
  .exact q.sk
  .exact f t g
def KW{ds:List PyData}(h:∀d∈ds,Sw n d):Sw (ds.length*(n+1)) (.list ds):=by obtain⟨a,b,e,f⟩:=C9 h;refine⟨by rw[PyData.showable];exact a,by rw[PyData.leavesShort];exact b,by rw[PyData.weight];exact e,?_⟩;rw[PyData.shown,listText_eq_join];exact zp (zp (rC "[") (DT _ f)) (rC "]")
def Cg{ds:List PyData}(h:∀d∈ds,Sw n d):Sw (ds.length*(n+1)) (.tuple ds):=by
 obtain⟨a,b,e,f⟩:=C9 h;refine⟨by rw[PyData.showable];exact a,by rw[PyData.leavesShort];exact b,by rw[PyData.weight];exact e,?_⟩;rw[PyData.shown];unfold tupleText;refine zp (zp (rC "(") (DT _ f)) ?_;split
 .exact rC ",)"
 .exact rC ")"
def Ez(h:Sw n d)(hw:n<=n'):Sw n' d:=⟨h.sh,h.ls,aM h.wt hw,h.sk⟩
theorem n9:∀ts:List T,oY ts=ts.map pD
 |[]=>by rw[oY];rfl
 |t::ts=>by rw[oY,n9 ts];rfl
def Eh(x:Str)(h:PyData.showable (.str x)=true/\PyData.leavesShort 568 (.str x)=true/\PyData.weight (.str x)<=9/\PyData.strOk (PyData.shown (.str x))=true):Sw 13200 (pD (.str x)):=by rw[pD];refine⟨h.1,h.2.1,aM h.2.2.1 (by decide),λk a=>?_⟩;have:=h.2.2.2;unfold PyData.strOk at this;rw[fQ]at this;exact of_decide_eq_true (this k (by simpa using a))
def Ba{x:Str}{t:T}(m:Sw 13200 (pD (.str x)))(i:Sw 13200 (pD t))(j:nV [.str x,t]=true)(a:Ay t<=9):∃k,om [.tup [.str x,t]]=.ok (.str k)/\(PyData.str k).canLay0=true:=by
 have s:=Cg (n:=13200) (ds:=oY [.str x,t]) (λd a=>by
  rw[n9]at a;simp only[bH,b7,aE,c7,or_false]at a;rcases a with rfl|rfl
  .exact m
  .exact i)
 have w:(oY [.str x,t]).length*(13200+1)=26402:=by rw[n9];rfl
 rw[w]at s;have l:=PyData.shown_le 568 (by decide) _ s.ls;have e:pD (.tup [.str x,t])=.tuple (oY [.str x,t]):=by rw[pD]
 have b:=s.wt;have sz:16000000<sizeLine:=by decide
 have f:(pD (.tup [.str x,t])).shown.length<=sizeLine:=by rw[e];have:(568+2)*(PyData.tuple (oY [.str x,t])).weight<=570*26402:=fg (by decide) b;omega
 refine⟨(pD (.tup [.str x,t])).shown,?_,?_⟩
 .unfold om;dsimp only;have g:Ay (.tup [.str x,t])<=100:=by simp;omega
  rw[aP];simp only[bS,decide_eq_true_eq];exact⟨⟨⟨j,by rw[e];exact s.sh⟩,g⟩,f⟩
 .rw[PyData.canLay0];unfold PyData.strOk;rw[fQ];intro k h;rw[e]at h;exact aB (s.sk k (by simpa using h))
def Ts d (o:d<=3):Bg d 84 9000 1100/\∀k m,k+m<=d->Nb (Ns 84 k) m<=1880:=by
 have g:∀d,d<4->∀k,k<4->k<=d->84+k*(Pq 84 k+1)<=8000:=by decide
 have n:∀d,d<4->Pq 84 d<=8000:=by decide
 have f:∀d,d<4->∀k,k<4->∀m,m<4->k+m<=d->Nb (Ns 84 k) m<=1880:=by decide
 have e:∀d,d<4->∀k,k<4->∀m,m<4->k+m<=d->∀i,i<m->Nb (Ns 84 k) (m-1-i)+Sb (Ns 84 k) d m i+21<=1100:=by decide
 have b:∀d,d<4->∀k,k<4->∀m,m<4->k+m<=d->1<=k->Pq 84 k+Sb (Ns 84 k) d m m+2<=1100:=by decide
 have l:∀d,d<4->∀k,k<4->∀m,m<4->k+m<=d->Sb (Ns 84 k) d m m+k*(Pq 84 k+Sb (Ns 84 k) d m m+21)<=9000:=by decide
 refine⟨⟨⟨by decide,λk a=>g d (by lia) k (by lia) a,n d (by lia)⟩,by decide,λk m h=>⟨e d (by lia) k (by lia) m (by lia) h,λa=>b d (by lia) k (by lia) m (by lia) h (by lia)⟩,λk m h=>⟨aM (f d (by lia) k (by lia) m (by lia) h) (by decide),λi j=>?_,λa=>?_,l d (by lia) k (by lia) m (by lia) h⟩⟩,λk m h=>f d (by lia) k (by lia) m (by lia) h⟩
 .have:=e d (by lia) k (by lia) m (by lia) h i j;lia
 .have:=b d (by lia) k (by lia) m (by lia) h (by lia);lia
def Gu(a:LI):nV (a.map T.int)=true:=ou _ _ λ_ _=>rfl
def JA(a:LI):rK (a.map T.int)<=0:=n5 _ 0 _ λ_ _=>aJ _
def Lh(d:Nat)(us:LL)(i:1<=d/\d<=3)(h:HC d 84 us)(a:LI)(o:A1 us.length a):iS c [j7 c d us,tI a]=.ok (.bl true):=by
 have sz:1000<sizeLine:=by decide
 obtain⟨v,A⟩:=Ts d i.2;have r:=h.few;have B:zj [j7 c d us,tI a]=true:=by have:zj (us.map tI)=true:=sG _ _ λu _=>yc u;show (lf (j7 c d us)&&(lf (tI a)&&true))=true;rw[yc];unfold j7;simp[N4,this]
 have g:∀x t,j6 c [j7 c d us,tI a]=.ok (.tup [.str x,t])->∀b,gD false (.str x) (.str "paper")=.ok (.bl b)->(!b||P5 (.tup [.str x,t]))=true->(∃k,om [.tup [.str x,t]]=.ok (.str k)/\(PyData.str k).canLay0=true)->iS c [j7 c d us,tI a]=.ok (.bl true):=λx t e b eb hb ⟨k,ek,hk⟩=>by refine gO rfl (K9 (xs:=[j7 c d us,tI a]) rfl B (by decide) (by simp) (by simp) e ek (b:=b) (gz (fW (x:=.str x) (fW rfl rfl rfl) rfl eb)) hb ?_);refine fW (x:=.str k) (y:=.str k) (oM (ig rfl rfl e) ek) rfl ?_;rw[P8 _ _ hk hk,beq_self_eq_true]
 rcases HA (c:=c) (by decide) d v us i h a o with⟨j,e,p,k,m,z,b⟩|⟨s,e,p⟩
 .refine g _ _ e true JG ?_ (Ba (Eh "paper" ⟨by rw[PyData.showable],by rw[PyData.leavesShort];decide +kernel,by rw[PyData.weight];decide +kernel,by rw[PyData.shown];decide +kernel⟩) ?_ ?_ ?_)
  .show decide ((j.map T.int).length<sizeLine)=true;have:=p.len;exact aB (by rw[aw];lia)
  .unfold tL;rw[pD,n9,aH];refine Ez (KW (n:=1880) λx f=>?_) (by rw[aw,p.len];have:us.length*1881<=7*1881:=fJ _ r;omega);obtain⟨w,hw,rfl⟩:=aC.mp f;show Sw 1880 (pD (.int w));rw[pD];exact C1 ((b w hw).mono (A k m z))
  .have:=vC;simp only[nV,qJ,tL,Gu,this];rfl
  .have:=JA j;unfold tL;rw[KC];omega
 .refine g _ _ e false Ob rfl (Ba (Eh "spot" ⟨by rw[PyData.showable],by rw[PyData.leavesShort];decide +kernel,by rw[PyData.weight];decide +kernel,by rw[PyData.shown];decide +kernel⟩) ?_ ?_ ?_)
  .unfold tS;rw[pD,n9,aH];refine Ez (Cg (n:=2*1881) λx f=>?_) (by rw[aw,p.len];have:d*3763<=3*3763:=fJ _ i.2;omega);obtain⟨w,hw,rfl⟩:=aC.mp f;show Sw _ (pD (fr w));unfold fr;rw[pD,n9];have q:=(p.fq w hw).2;refine Cg (n:=1880) (ds:=[pD (.int w.1),pD (.int w.2)]) λx f=>?_;simp only[aE,c7,or_false]at f;rcases f with rfl|rfl<;>rw[pD]
   .exact C1 (q.2.mono (by decide))
   .exact C1 (q.1.mono (by decide))
  .have:=wR;have l:nV (s.map fr)=true:=ou _ _ λp _=>by simp[fr,qJ,nV]
   simp only[nV,qJ,tS,l,this];rfl
  .have:rK (s.map fr)<=1:=n5 _ 1 _ λp _=>by simp[fr]
   unfold tS;rw[EA];omega
def Mv(k:Int)(n:Nat)(d:n<=1000)(h:f ρ=.ok (.int (n:Int))):Dk (kc (fR (cM (.int k)) fV)) f ρ=.ok (tI (List.replicate n k)):=by
 have sz:1000<sizeLine:=by decide
 have hr:BD n=true:=l8 (by lia);have a:1<=sizeLine:=by decide
 have b:n<=sizeLine:=by lia
 have e:(List.replicate n [T.int k]).flatten=(List.replicate n k).map T.int:=by rw[QZ,List.map_replicate]
 simp[h,AL,hr,a,b,e,tI]
def Ep(n:Nat)(k:Int)(a:k.natAbs<=1):A1 n (List.replicate n k):=⟨by simp,λx b=>by rw[a9 b];exact a⟩
def Fj ns (a d:Nat) (us:LL) (r:1<=d/\d<=3) (h:HC d 84 us):kZ c [.scr ns,.int (a:Int),.int (d:Int),.lst (us.map tI)]=.ok (.bl true):=by
 have sz:1000<sizeLine:=by decide
 have hn:=h.few;let R (e x5 x6 x7 x8:Option W):En:=[some (.p (.scr ns)),some (.p (.int (a:Int))),some (.p (.int (d:Int))),some (.p (.lst (us.map tI))),e,x5,x6,x7,x8];let e:Option W:=some (.p (j7 c d us));have N:∀k:Nat,∃v,gR c [.scr ns,.int ((a:Int)+(k:Int))]=.ok (.int v):=λk=>by obtain⟨v,y,-⟩:=rz (c:=c) ns (a+k);exact⟨v,by simpa using y⟩
 have K:∀{ρ:Pe},fS 3 ρ=.ok (.lst (us.map tI))->jt jE (fR (fS 3) fV) ρ=.ok (.int (us.length:Int)):=λq=>oM q (by simp);obtain⟨ρ1,X,S,f,rfl,J,n⟩:=iV (m:=jA 6) (g:=qg c) (λ(k:Nat)=>T.int (k:Int))
  (λk ρ=>∃(S:LL) (f:Option W),ρ=R e (some (.o (S.map tI))) f none none/\(∀s∈S,A1 us.length s)/\S.length=2+k) (List.range 10) 0 (R e (some (.o ([List.replicate us.length 0,List.replicate us.length 1].map tI))) none none none)
  ⟨_,none,rfl,λs A=>by
   simp only[aE,c7,or_false]at A;rcases A with rfl|rfl
   .exact Ep _ 0 (by decide)
   .exact Ep _ 1 (by decide),rfl⟩ (by
  rintro i k ρ L ⟨S,f,rfl,J,n⟩
  rw[aF]at n ⊢
  have hi:i<10:=by have:=(aa.mp L).1;simpa using this
  obtain⟨v,y⟩:=N k
  let s:LI:=(List.range us.length).map λ(j:Nat)=>dr c v (j:Int) 3-1
  have e2:ka [none,some 0,some 1,some 6] (kY (fR (jt jE (fR (fS 3) fV)) fV)) (jP 0) (λ_=>.ok true) (pQ c) (lY (R e (some (.o (S.map tI))) (some (.p (.int (k:Int)))) none none))=.ok (s.map T.int):=ku (List.range us.length) (λ(j:Nat)=>T.int (j:Int)) (λj=>T.int (dr c v (j:Int) 3-1)) (pk us.length (by lia) (K rfl)) (by simp;lia) (λj I=>by have:=aR.mp I;exact⟨_,rfl,rfl,fW (j3 (ig rfl (fW rfl rfl (iU _ _)) y) rfl rfl (i7 (c:=c) v (j:Int) 3 (by decide) (by decide) (by lia) (by lia)).1) rfl (nt _ _)⟩) (by rw[aH];rfl)
  refine⟨_,_,rfl,.inl (tw (t:=tI s) rfl (oo e2 rfl) (by simp;lia) rfl),S++[s],_,by rw[aY];rfl,λt ht=>?_,by simp;lia⟩
  rcases ai.mp ht with q|q
  .exact J t q
  .rw[aj.mp q];refine⟨by simp[s],λx E=>?_⟩;obtain⟨j,I,rfl⟩:=aC.mp E;have:=aR.mp I;obtain⟨-,C,Q⟩:=i7 (c:=c) v (j:Int) 3 (by decide) (by decide) (by lia) (by lia);lia)
 have P:S.length=12:=by simpa using n
 have e3:xD (fS 5) (nF (fS 5) (λ_=>.ok none) (kL (cM (.int 1)))) (vw (R e (some (.o (S.map tI))) f none none))=.ok ((S++S.take 1).map tI):=by have q:=ye (fe:=fS 5) (fd:=cM (.int 1)) (d:=1) (ts:=S.map tI) (ρ:=vw (R e (some (.o (S.map tI))) f none none)) rfl rfl;have C:fS 5 (vw (R e (some (.o (S.map tI))) f none none))=.ok (.lst (S.map tI)):=rfl;unfold xD;rw[C,q];simp only[M.bind_ok];rw[aP (by simp;lia),<-c8,<-aY]
 obtain⟨ρ2,e4,l,rfl⟩:=qE (m:=jA 7) (g:=qf c) tI (λρ=>∃l:Option W,ρ=R e (some (.o (S.map tI))) f l none) (S++S.take 1) _ ⟨none,rfl⟩ (by
  rintro s A ρ ⟨l,rfl⟩;have z:A1 us.length s:=J s (by
   rcases ai.mp A with q|q
   .exact q
   .exact dW q)
  have on:=Lh (c:=c) d us r h s z;have hb:∃b,jG c [j7 c d us,.lst (us.map tI),.int d,tI s]=.ok (.bl b):=by rw[AA];rcases sC (c:=c) d us r h s z with⟨_,_,_,q⟩|⟨_,_,_,q⟩<;>exact⟨_,q⟩
  obtain⟨b,D⟩:=hb;have C:gI (fZ (jS false) (fY (fR (fS 4) (fR (fS 3) (fR (fS 2) (fR (fS 7) fV)))) (jG c)) (cM .non)) (vw (R e (some (.o (S.map tI))) f (some (.p (tI s))) none))=.ok false:=gz (fW (Ea rfl rfl rfl rfl D) rfl rfl);have Q:gI (fY (fR (fS 4) (fR (fS 7) fV)) (iS c)) (vw (R e (some (.o (S.map tI))) f (some (.p (tI s))) none))=.ok true:=gz (ig rfl rfl on);have q3:(L3.oJ (gI (fZ (jS false) (fY (fR (fS 4) (fR (fS 3) (fR (fS 2) (fR (fS 7) fV)))) (jG c)) (cM .non))) (L3.jT (gI (fY (fR (fS 4) (fR (fS 7) fV)) (iS c))))) (vw (R e (some (.o (S.map tI))) f (some (.p (tI s))) none))=.ok false:=by simp only[L3.oJ,L3.jT,C,Q,M.bind_ok];rfl
  exact⟨_,_,rfl,.inl (gS q3 rfl),_,rfl⟩)
 obtain⟨Y,e5,Z,y7',F,rfl⟩:=qE (m:=jA 6) (g:=qc c) (λ(k:Nat)=>T.int (k:Int)) (λρ=>∃f l F:Option W,ρ=R e (some (.o (S.map tI))) f l F) (List.range 3) _ ⟨f,l,none,rfl⟩ (by
  rintro k hk ρ ⟨f,l,F,rfl⟩;obtain⟨v,y⟩:=N k;obtain⟨p,ep,H⟩:=AU (c:=c) v d r;let s:=us.map λu=>Ei (jZ d (Xs p) (vc u));have z:A1 us.length s:=⟨by simp[s],λx E=>by obtain⟨u,-,rfl⟩:=aC.mp E;exact Lj _⟩
  have U:ka [none,some 8] (iB (fS 3)) (jP 0) (λ_=>.ok true) (qC c) (lY (R e (some (.o (S.map tI))) (some (.p (.int (k:Int)))) l (some (.p (tS p)))))=.ok (s.map T.int):=ku us tI (λu=>T.int (Ei (jZ d (Xs p) (vc u)))) rfl (by lia) (λu hu=>⟨_,rfl,rfl,ig rfl rfl (Az (c:=c) (B:=84) (by lia) d u (h.gc u hu).gl r.2 p H.len H.fq (by have:=H.w;lia))⟩) (by rw[aH];rfl)
  have D:jG c [j7 c d us,.lst (us.map tI),.int d,tI s]=.ok (.bl true):=by
   rw[AA];rcases sC (c:=c) d us r h s z with⟨_,_,q,_⟩|⟨_,_,_,q⟩
   .exact (Ld z Kg q).elim
   .exact q
  refine⟨_,_,rfl,.inl (fX (ρ':=R e (some (.o (S.map tI))) (some (.p (.int (k:Int)))) l (some (.p (tS p)))) (gy (ig (ig rfl (fW rfl rfl (iU _ _)) y) rfl ep) rfl) (fX (ρ':=R e (some (.o (S.map tI))) (some (.p (.int (k:Int)))) (some (.p (tI s))) (some (.p (tS p)))) (gy (oo U rfl) rfl) (gS (gz (fW (Ea rfl rfl rfl rfl D) rfl Q4)) rfl))),_,_,_,rfl⟩)
 exact gO rfl (fX (ρ':=R e none none none none) (gy (ig rfl rfl (J7 (c:=c) d 84 us r (by decide) h)) rfl) (fX (l5 (CQ (Sa (Mv 0 us.length (by lia) (K rfl)) (Mv 1 us.length (by lia) (K rfl)))) rfl) (fX (mU (pk 10 (by lia) rfl) X) (fX (L4 e3 (sG _ _ λu _=>yc u) e4) (fX (mU (pk 3 (by lia) rfl) e5) (gC rfl))))))
def IL ns:uW c [.scr ns]=.ok (.bl true):=by
 have sz:1000<sizeLine:=by decide
 obtain⟨b,e,a,f,h,rfl⟩:=qE (m:=jA 1) (g:=Bj c) (λ(k:Nat)=>T.int (k:Int)) (λb=>∃a f h:Option W,b=[some (.p (.scr ns)),a,f,h]) [0,20,0] [some (.p (.scr ns)),none,none,none] ⟨_,_,_,rfl⟩ (by rintro k r b ⟨a,f,h,rfl⟩;obtain⟨d,i,j,l,n,q⟩:=HQ (c:=c) ns k 7 (by decide);rw[<-FQ]at j;have o:=Fj (c:=c) ns (k+8) d i l n;refine⟨_,_,rfl,.inl (fX (ρ':=[some (.p (.scr ns)),some (.p (.int (k:Int))),some (.p (.int d)),some (.p (.lst (i.map tI)))]) ?_ (gS (wC (gz (Ea rfl (fW rfl rfl (iU _ _)) rfl rfl (by simpa using o))) rfl) rfl)),_,_,_,rfl⟩;exact Pi (j3 rfl rfl rfl j) rfl)
 exact gO rfl (fX (i9 rfl e) (gC rfl))
end CL
namespace K11
open PySem L2 L3 CL
def ie(i:Nat):Stmt:=PySem.Challenge.pw_cutlands_k11_signs_held.main.body.getD i (.Pass ⟨0,0,0,0⟩)
structure Er(c:Cs)(K:W.Frag)(mg:Str->Option Value):Prop where
 here:True
 cl_Cutting:yr K c.Cutting
 na_Cutting_own_cuts:lJ K c.Cutting "own_cuts"
 na_Cutting_own_dims:lJ K c.Cutting "own_dims"
 mk_Cutting:W.makesIn K c.Cutting=true
 kp_Cutting:W.keepIn K (.ref c.Cutting)=true
 mg_Cutting:mg "Cutting" = some (.ref c.Cutting)
 k_MOST_CUTS:∃t,mg "MOST_CUTS" = some (.int 7 t)
 k_MOST_DIMS:∃t,mg "MOST_DIMS" = some (.int 3 t)
def Q1{K:W.Frag}{h:Heap}{a:Str->Option Value}{aCutting:Addr}{tMOST_CUTS tMOST_DIMS:_}(X:K.In h)(G:h.Ns mainGlobals a)(e:W.nsIn K mainGlobals "Cutting" = some (some (.ref aCutting)))(g:W.plainGet K aCutting Str.empty=true)(f:W.hasDictIn K aCutting=true)(i:W.plainOver K aCutting=true)(b:W.findIn K (.ref aCutting) "__setattr__" = some (some (.builtin "object.__setattr__")))(own_cuts:W.findIn K (.ref aCutting) "own_cuts" = some none)(own_dims:W.findIn K (.ref aCutting) "own_dims" = some none)(d:W.makesIn K aCutting=true)(c:W.keepIn K (.ref aCutting)=true)(uMOST_CUTS:W.nsIn K mainGlobals "MOST_CUTS" = some (some (.int 7 tMOST_CUTS)))(uMOST_DIMS:W.nsIn K mainGlobals "MOST_DIMS" = some (some (.int 3 tMOST_DIMS))):Er ⟨aCutting,0,0,0,0,0,0,0,0,0,0,0,0⟩ K a:=⟨trivial,⟨g,f,i,b⟩,own_cuts,own_dims,d,c,W.mg_of X G e,⟨_,W.mg_of X G uMOST_CUTS⟩,⟨_,W.mg_of X G uMOST_DIMS⟩⟩
def PD{K:W.Frag}{a g:Addr}{m q:Str}{st:Stmt}{k kV c o b n:Vq}{j f:Option Addr}{d:Array (Option Value)}(gf:W.findIn K (.ref a) m=some (some (.ref g)))(i:W.isFn K (.ref g)=true)(l:K.lookup g=some ⟨k,j,.func (W.fnOf m q (jJ st) (iy st) (gw st) .none kV c o f b n),d⟩)(h:W.codeIn K b q=true)(e:W.keepIn K (.ref g)=true):kP K a m q st:=⟨_,_,B5 l h e,gf,i,e⟩
set_option hygiene false in
local macro_rules|`('x')=>`(by repeat' first|(refine' fU ?_ ?_)|(refine' f6 ?_)|(exact gE)|(refine' iI _ nd ?_)|(refine' gZ ?_ ?_ ?_)|(refine' iz ?_)|(refine' wj _ nd ?_)|(refine' sQ ?_)|(refine' GJ ?_)|(exact zR)|(refine' oC _ nd ?_)|(exact f7 _)|(exact gP)|(refine' gx ?_ ?_)|(exact gQ)|(refine' DE ?_ ?_)|(refine' lZ (by assumption) hr ?_)|(refine' tf ?_ ?_)|(refine' pZ ?_)|(refine' rL hr ?_ ?_)|(refine' BH hr ?_ ?_)|(refine' ml ?_)|(refine' n6 ?_)|(refine' lO ?_ ?_)|(refine' lh ?_)|(refine' mq ?_ ?_)|(refine' lH ?_)|(refine' gG (iq (K:=K)) jH (by rfl) B.len jI ?_)|(refine' gU rW rZ ?_ ?_)|(refine' gU uE uF ?_ ?_)|(refine' gU Ax Ao ?_ ?_)|(refine' gU wm vV ?_ ?_)|(refine' gU oN ph ?_ ?_)|(refine' gU wL vS ?_ ?_)|(exact Dw)|(exact lN)|(exact JD)|(refine' Dd ?_)|(refine' Ij ?_ ?_)|(refine' CK ?_ ?_)|(refine' IE ?_)|(refine' Od ?_ ?_)|(refine' JW ?_ ?_)|(refine' AH ?_ ?_ ?_)|(exact Js)|(refine' Gz ?_)|(refine' lA "tuple" (by decide) B.isinstance B.tuple iN ?_)|(refine' lA "list" (by decide) B.isinstance B.list lI ?_)|(refine' lA "int" (by decide) B.isinstance B.int tX ?_)|(refine' lA "bool" (by decide) B.isinstance B.bool zg ?_)|(refine' iQ (iJ (K:=K)) jh (by rfl) B.tuple iN ?_)|(refine' iQ tE zA (by rfl) B.int tX ?_)|(refine' gG p7 vL (by rfl) B.abs vJ ?_)|(refine' gG (m8 (K:=K) rfl) tq (by rfl) B.all tH ?_)|(refine' jv ?_)|(refine' JZ (by assumption) hr ?_)|(refine' mh (lB (K:=K)) nc (by rfl) B.list lI ?_)|(refine' vB ?_)|(refine' IZ ?_ ?_)|(refine' Jd ?_ ?_)|(refine' rG ?_ ?_)|(refine' qA ?_)|(refine' yQ ?_))
section
variable {P:Program}{w:World}{K:W.Frag}{mg:Str->Option Value}{base:Heap}{c:Cs}(Z:Zx P w K mg base)(B:Bs mg)(ER:Er c K mg)
include Z B ER
theorem o0(D:gq K mg "is_whole" (ie 8)):CP Z "is_whole" 1 (jr c):=jk Z 0 (jr c) ["thing"] ["thing"] rfl D λnd hX hr=>⟨_,(f6 (iz (rG (lA "int" (by decide) B.isinstance B.int tX (f7 0)) (qA (yQ (lA "bool" (by decide) B.isinstance B.bool zg (f7 0)))))))⟩
theorem o1(D:gq K mg "sign_of" (ie 10)):CP Z "sign_of" 1 (md c):=jk Z 0 (md c) ["number"] ["number"] rfl D λnd hX hr=>⟨_,(fU (gZ (gU uE uF (f7 0) gP) 'x' gE) (fU (gZ (gU rW rZ (f7 0) gP) 'x' gE) 'x'))⟩
theorem o2(D:gq K mg "common_divisor" (ie 11)):CP Z "common_divisor" 1 (iK c):=jk Z 0 (iK c) ["one","other","rest"] ["one","other"] rfl D λnd hX hr=>⟨_,(fU (yZ (λρ=>match ρ with|_::some (.p (.int j))::_=>j.natAbs+1|_=>0) PassesOwn.never 'x' 'x') (f6 (iz (gG p7 vL (by rfl) B.abs vJ 'x'))))⟩
theorem o3(D:gq K mg "less" (ie 19)):CP Z "less" 1 (j8 c):=jk Z 0 (j8 c) ["one","other"] ["one","other"] rfl D λnd hX hr=>⟨_,(f6 (iz (rF rW rZ 'x' 'x')))⟩
theorem o4(D:gq K mg "floor_of" (ie 20)):CP Z "floor_of" 1 (kz c):=jk Z 0 (kz c) ["one"] ["one"] rfl D λnd hX hr=>⟨_, 'x'⟩
theorem o5(D:gq K mg "ceiling_of" (ie 21)):CP Z "ceiling_of" 1 (jX c):=jk Z 0 (jX c) ["one"] ["one"] rfl D λnd hX hr=>⟨_, 'x'⟩
theorem o6(D:gq K mg "weighted" (ie 23)):CF Z "weighted" 1 (nj c):=vW Z 0 (nj c) ["cuts","rows","k","cut","weights"] ["cuts"] rfl D λnd hX hr=>⟨_,(fU 'x' (fU (i8 PassesOwn.never rfl (Li B.enumerate 'x') (pT 2 rfl (iO (iu 2 nd) (iO (iu 3 nd) mw))) (fU (oC 4 nd (Jd 'x' (gG (iq (K:=K)) jH (by rfl) B.len jI 'x'))) (fU (uX 4 (pv 4) (f7 2) gP) (f6 (HI 1 (pv 1) (tf (f7 3) (iQ (iJ (K:=K)) jh (by rfl) B.tuple iN 'x'))))))) (f6 (rY 1 (pv 1)))))⟩
theorem o7(D:gq K mg "free_places" (ie 27)):CF Z "free_places" 1 (kX c):=vW Z 0 (kX c) ["pivots","dims","taken"] ["pivots","dims"] rfl D λnd hX hr=>⟨_,(fU (iI 2 nd (jv (jq ["place","pivot"] [none,none] hX (ik (f7 0)) (λnd hX=>⟨(oG 2 rfl (iC (iR 0 nd) (iC (iR 1 nd) lW))),iL,(f7 0)⟩)))) (f6 (sQ (jq ["place","taken"] [none,some 2] hX (yU.pim (lj B.range 'x')) (λnd hX=>⟨(iR 0 nd),(lR (gU (FP (K:=K)) (QV true) (f7 0) (f7 1) (by rfl))),(f7 0)⟩)))))⟩
theorem o8(D:gq K mg "turned" (ie 33)):CP Z "turned" 1 (nA c):=jk Z 0 (nA c) ["row","sign"] ["row","sign"] rfl D λnd hX hr=>⟨_,(f6 (iz (iQ (iJ (K:=K)) jh (by rfl) B.tuple iN (gx (jv (jq ["number","sign"] [none,some 1] hX (ik (f7 0)) (λnd hX=>⟨(iR 0 nd),iL, 'x'⟩))) gQ))))⟩
theorem o9(D:gq K mg "first_place" (ie 48)):CP Z "first_place" 1 (kU c):=jk Z 0 (kU c) ["cut","place"] ["cut"] rfl D λnd hX hr=>⟨_,(fU (iI 1 nd gP) (fU (yZ (λρ=>match ρ with|some (.p (.tup ts))::_=>ts.length+1|_=>0) PassesOwn.never 'x' 'x') 'x'))⟩
theorem Tr(D:kP K c.Cutting "dims" "Cutting.dims" (nP (ie 52) 1)):lU P w K mg base c.Cutting "dims" 1 (uH K (jM c)):=Mx Z 0 (jM c) ["self"] ["self"] rfl ER.cl_Cutting D λnd a hr=>⟨_,(f6 (iz (BW rfl ER.cl_Cutting ER.na_Cutting_own_dims (f7 0))))⟩
theorem S5(D:kP K c.Cutting "cuts" "Cutting.cuts" (nP (ie 52) 2)):lU P w K mg base c.Cutting "cuts" 1 (Cf K (jN c)):=NJ Z 0 (jN c) ["self"] ["self"] rfl ER.cl_Cutting D λnd a hr=>⟨_,(f6 (sQ (mh (lB (K:=K)) nc (by rfl) B.list lI (gx (BW rfl ER.cl_Cutting ER.na_Cutting_own_cuts (f7 0)) gQ))))⟩
theorem Th(D:kP K c.Cutting "many" "Cutting.many" (nP (ie 52) 3)):lU P w K mg base c.Cutting "many" 1 (uH K (jO c)):=Mx Z 0 (jO c) ["self"] ["self"] rfl ER.cl_Cutting D λnd a hr=>⟨_,(f6 (iz (gG (iq (K:=K)) jH (by rfl) B.len jI (gx (BW rfl ER.cl_Cutting ER.na_Cutting_own_cuts (f7 0)) gQ))))⟩
theorem S2(D:gq K mg "_law_cell_at" (ie 54)):CP Z "_law_cell_at" 1 (gR c):=jk Z 0 (gR c) ["_law_script","_law_k"] ["_law_script","_law_k"] rfl D λnd a hr=>⟨_,(fU (gZ (gU rW rZ (f7 1) (gG (iq (K:=K)) jH (by rfl) B.len jI 'x')) 'x' gE) 'x')⟩
theorem SD(D:gq K mg "_law_draw" (ie 55)):CP Z "_law_draw" 1 (f9 c):=jk Z 0 (f9 c) ["_law_cell","_law_k","_law_bound","_law_left","_law_j","_law_stir"] ["_law_cell","_law_k","_law_bound"] rfl D λnd a hr=>⟨_,(fU (gZ (gU Ax Ao (f7 0) (tR gP gP)) (fU 'x' (fU (nB PassesOwn.never rfl (lj B.range 'x') (iu 4 nd) 'x') 'x')) gE) 'x')⟩
theorem Tp(D:gq K mg "_law_whole" (ie 56)):CP Z "_law_whole" 1 (jc c):=jk Z 0 (jc c) ["_law_found"] ["_law_found"] rfl D λnd a hr=>⟨_,(f6 (iz (rG (lA "int" (by decide) B.isinstance B.int tX (f7 0)) (qA (yQ (lA "bool" (by decide) B.isinstance B.bool zg (f7 0)))))))⟩
theorem SN(D:gq K mg "_law_common" (ie 57)):CP Z "_law_common" 1 (jz c):=jk Z 0 (jz c) ["_law_one","_law_other"] ["_law_one","_law_other"] rfl D λnd b hr=>⟨_,(fU (iI 0 nd (gG p7 vL (by rfl) B.abs vJ 'x')) (fU (iI 1 nd (gG p7 vL (by rfl) B.abs vJ 'x')) (fU (yZ (λa=>match a with|_::some (.p (.int j))::_=>j.natAbs+1|_=>0) PassesOwn.never (gU uE uF (f7 1) gP) (f6 (KA (i:=0) (j:=1) rfl nd rfl rfl (by decide) rfl rfl 'x' (by rfl)))) 'x')))⟩
theorem S4(D:gq K mg "_law_same" (ie 60)):CP Z "_law_same" 1 (ki c):=jk Z 0 (ki c) ["_law_one","_law_other","_law_k","_law_j"] ["_law_one","_law_other"] rfl D λnd a hr=>⟨_,(fU (nB PassesOwn.never rfl (lj B.range (gx (gG (iq (K:=K)) jH (by rfl) B.len jI 'x') gQ)) (iu 2 nd) (f6 (nB PassesOwn.never rfl (lj B.range 'x') (iu 3 nd) 'x'))) 'x')⟩
theorem Tn(D:gq K mg "_law_side" (ie 63)):CP Z "_law_side" 1 (l9 c):=jk Z 0 (l9 c) ["_law_cut_here","_law_spot_here","_law_top","_law_bottom","_law_number","_law_part"] ["_law_cut_here","_law_spot_here"] rfl D λnd a hr=>⟨_,(fU 'x' (fU (iI 3 nd gP) (fU (i8 PassesOwn.never rfl (mj B.zip 'x') (pT 2 rfl (iO (iu 4 nd) (iO (iu 5 nd) mw))) 'x') (f6 (iz (CK (iQ tE zA (by rfl) B.int tX (gx (rF uE uF (f7 2) gP) gQ)) (iQ tE zA (by rfl) B.int tX (gx (rF rW rZ (f7 2) gP) gQ))))))))⟩
theorem Tq(D:gq K mg "_law_none" (ie 66)):CP Z "_law_none" 1 (kh c):=jk Z 0 (kh c) ["_law_cuts_here","_law_dims","_law_signs","_law_weights","_law_weight","_law_sign","_law_totals","_law_pushing"] ["_law_cuts_here","_law_dims","_law_signs","_law_weights"] rfl D λnd a hr=>⟨_,(fU (i8 PassesOwn.never rfl (mj B.zip 'x') (pT 2 rfl (iO (iu 4 nd) (iO (iu 5 nd) mw))) (f6 (gZ (gU rW rZ 'x' gP) 'x' gE))) (fU (tm ["_law_k","_law_weights","_law_cuts_here"] [none,some 3,some 0] 6 nd a (yU.pim (lj B.range 'x')) (λnd a=>⟨(iR 0 nd),iL,(gG (yD (K:=K) rfl) HF (by rfl) B.sum HE (gx (jv (jq ["_law_weight","_law_cut_here","_law_k"] [none,none,some 0] a (mj B.zip 'x') (λnd a=>⟨(oG 2 rfl (iC (iR 0 nd) (iC (iR 1 nd) lW))),iL, 'x'⟩))) gQ))⟩) rX) (fU 'x' (fU (tm ["_law_weight","_law_sign"] [none,none] 7 nd a (mj B.zip 'x') (λnd a=>⟨(oG 2 rfl (iC (iR 0 nd) (iC (iR 1 nd) lW))),(lR 'x'),(f7 0)⟩) rX) (f6 (iz (PU (rF uE uF 'x' gP) (qA (rG (DF hr 'x' gP) (qA (Mf hr (f7 7) (jv (vB gQ)))))))))))))⟩
theorem Su(D:gq K mg "lowest" (ie 12))(b:CP Z "common_divisor" 1 (iK c)):CP Z "lowest" 2 (qq c):=jk Z 1 (qq c) ["row","divisor","number"] ["row"] rfl D λnd a hr=>⟨_,(fU (iI 1 nd gP) (fU (i8 PassesOwn.never rfl (ik (f7 0)) (iu 2 nd) 'x') (fU 'x' (f6 (iz (iQ (iJ (K:=K)) jh (by rfl) B.tuple iN (gx (jv (jq ["number","divisor"] [none,some 1] a (ik (f7 0)) (λnd a=>⟨(iR 0 nd),iL, 'x'⟩))) gQ)))))))⟩
theorem SF(D:gq K mg "made" (ie 15))(a:CP Z "common_divisor" 1 (iK c)):CP Z "made" 2 (oF c):=jk Z 1 (oF c) ["top","bottom","divisor"] ["top","bottom"] rfl D λnd b hr=>⟨_,(fU 'x' (fU 'x' (fU (gZ (gU rW rZ (f7 1) gP) 'x' gE) 'x')))⟩
theorem SV(D:gq K mg "is_signs" (ie 31))(b:CP Z "is_whole" 1 (jr c)):CP Z "is_signs" 2 (nu c):=jk Z 1 (nu c) ["many","thing"] ["many","thing"] rfl D λnd a hr=>⟨_,(fU (gZ (n6 (lO (ml (pZ (lA "tuple" (by decide) B.isinstance B.tuple iN (f7 1)))) (lh (rL hr (gG (iq (K:=K)) jH (by rfl) B.len jI 'x') (f7 0))))) 'x' gE) (f6 (iz (gG (m8 (K:=K) rfl) tq (by rfl) B.all tH (gx (jv (jq ["sign"] [none] a (ik (f7 1)) (λnd a=>⟨(iR 0 nd),iL,(rG 'x' (qA (AI wm vV wm vV (IE gP) (f7 0) gP)))⟩))) gQ)))))⟩
theorem Tf(D:gq K mg "whole_between" (ie 37))(e:CP Z "floor_of" 1 (kz c))(a:CP Z "less" 1 (j8 c))(b:CP Z "ceiling_of" 1 (jX c)):CP Z "whole_between" 2 (jx c):=jk Z 1 (jx c) ["low","high","whole"] ["low","high"] rfl D λnd d hr=>⟨_,(fU (iI 2 nd gP) (fU (gZ (n6 (mq (gU oN ph (f7 0) lN) (lH (gU Ax Ao 'x' gP)))) 'x' (f6 (gZ (n6 (mq (gU oN ph (f7 1) lN) (lH (gU wm vV 'x' gP)))) 'x' gE))) (fU (gZ (n6 (mq (gU oN ph (f7 0) lN) (lH 'x'))) 'x' gE) (fU (gZ (n6 (mq (gU oN ph (f7 1) lN) (lH 'x'))) 'x' gE) 'x'))))⟩
theorem SQ(D:gq K mg "paper_of_noughts" (ie 40))(a:CP Z "turned" 1 (nA c))(b:CP Z "sign_of" 1 (md c)):CP Z "paper_of_noughts" 2 (iF c):=jk Z 1 (iF c) ["rests","dims","rest"] ["rests","dims"] rfl D λnd d hr=>⟨_,(fU (i8 PassesOwn.never rfl (ik (f7 0)) (iu 2 nd) (f6 (gZ 'x' (f6 (iz (jv (mh (lB (K:=K)) nc (by rfl) B.list lI 'x')))) gE))) 'x')⟩
theorem SA(D:gq K mg "is_dims" (ie 46))(a:CP Z "is_whole" 1 (jr c)):CP Z "is_dims" 2 (mX c):=jk Z 1 (mX c) ["thing"] ["thing"] rfl D λnd b hr=>⟨_,(f6 (iz (rG 'x' (qA (AI wm vV wm vV gP (f7 0) (AW 3 ER.k_MOST_DIMS))))))⟩
theorem SY(D:gq K mg "is_cut" (ie 47))(b:CP Z "is_whole" 1 (jr c)):CP Z "is_cut" 2 (oB c):=jk Z 1 (oB c) ["dims","thing"] ["dims","thing"] rfl D λnd a hr=>⟨_,(fU (gZ (n6 (lO (ml (pZ (lA "tuple" (by decide) B.isinstance B.tuple iN (f7 1)))) (lh (rL hr (gG (iq (K:=K)) jH (by rfl) B.len jI 'x') 'x')))) 'x' gE) (fU (gZ (ml (pZ (gG (m8 (K:=K) rfl) tq (by rfl) B.all tH (gx (jv (jq ["number"] [none] a (ik (f7 1)) (λnd a=>⟨(iR 0 nd),iL, 'x'⟩))) gQ)))) 'x' gE) (f6 (iz (gG (yK (K:=K) rfl) HD (by rfl) B.any Hq (gx (jv (jq ["number"] [none] a (ik 'x') (λnd a=>⟨(iR 0 nd),iL,(Mf hr (f7 0) gP)⟩))) gQ))))))⟩
theorem SX(D:gq K mg "same_spots" (ie 49))(b:CP Z "first_place" 1 (kU c)):CP Z "same_spots" 2 (lL c):=jk Z 1 (lL c) ["one","other","place"] ["one","other"] rfl D λnd a hr=>⟨_,(fU 'x' (f6 (iz (gG (m8 (K:=K) rfl) tq (by rfl) B.all tH (gx (jv (jq ["mine","theirs","other","place","one"] [none,none,some 1,some 2,some 0] a (mj B.zip 'x') (λnd a=>⟨(oG 2 rfl (iC (iR 0 nd) (iC (iR 1 nd) lW))),iL,(DF hr 'x' 'x')⟩))) gQ)))))⟩
theorem Sv(D:gq K mg "_law_lowest" (ie 58))(a:CP Z "_law_common" 1 (jz c)):CP Z "_law_lowest" 2 (kD c):=jk Z 1 (kD c) ["_law_top","_law_bottom","_law_share"] ["_law_top","_law_bottom"] rfl D λnd b hr=>⟨_, 'x'⟩
theorem Ti(D:gq K mg "_law_is_fraction" (ie 59))(a:CP Z "_law_whole" 1 (jc c))(b:CP Z "_law_common" 1 (jz c)):CP Z "_law_is_fraction" 2 (jy c):=jk Z 1 (jy c) ["_law_found"] ["_law_found"] rfl D λnd d hr=>⟨_,(fU (gZ (n6 (lO (ml (pZ (lA "tuple" (by decide) B.isinstance B.tuple iN (f7 0)))) (lO (rL hr (gG (iq (K:=K)) jH (by rfl) B.len jI 'x') gP) (lO 'x' (lh 'x'))))) 'x' gE) (f6 (iz (rG (rF uE uF 'x' gP) (qA (DF hr 'x' gP))))))⟩
theorem SZ(D:gq K mg "_law_cut" (ie 61))(b:CP Z "_law_draw" 1 (f9 c)):CP Z "_law_cut" 2 (nS c):=jk Z 1 (nS c) ["_law_cell","_law_dims","_law_ahead","_law_numbers_here","_law_c","_law_way","_law_far"] ["_law_cell","_law_dims","_law_ahead"] rfl D λnd a hr=>⟨_,(fU (tm ["_law_j","_law_cell"] [none,some 0] 3 nd a (yU.pim (lj B.range 'x')) (λnd a=>⟨(iR 0 nd),iL, 'x'⟩) DD) (fU (gZ 'x' (f6 (uX 3 (pv 3) 'x' 'x')) gE) (fU 'x' (fU 'x' (fU (gZ 'x' (f6 (oC 3 nd (mh (lB (K:=K)) nc (by rfl) B.list lI (gx (AH (DE (f7 2) (lZ b hr (gx (f7 0) (gx gP (gx (gG (iq (K:=K)) jH (by rfl) B.len jI 'x') gQ))))) Js (Gz (f7 1))) gQ)))) gE) (fU (gZ 'x' (f6 (wj 4 nd (gG (yD (K:=K) rfl) HF (by rfl) B.sum HE (gx (jv (jq ["_law_number","_law_part"] [none,none] a (mj B.zip 'x') (λnd a=>⟨(oG 2 rfl (iC (iR 0 nd) (iC (iR 1 nd) lW))),iL, 'x'⟩))) gQ)))) gE) (fU (gZ 'x' (fU (iI 6 nd (Ij (tf gP (lZ b hr (gx (f7 0) (gx gP (gx (tR gP gP) gQ))))) (DE (jv (vB (gx gP (gx gP (gx (tR gP gP) gQ))))) 'x'))) (fU (tm ["_law_number","_law_far"] [none,some 6] 3 nd a (ik (f7 3)) (λnd a=>⟨(iR 0 nd),iL, 'x'⟩) Ku) 'x')) gE) (f6 (iz (iQ (iJ (K:=K)) jh (by rfl) B.tuple iN 'x'))))))))))⟩
theorem SI(D:gq K mg "_law_numbers" (ie 67))(b:CP Z "_law_whole" 1 (jc c)):CP Z "_law_numbers" 2 (je c):=jk Z 1 (je c) ["_law_found","_law_many"] ["_law_found","_law_many"] rfl D λnd a hr=>⟨_,(fU (gZ (n6 (lO (ml (pZ (lA "list" (by decide) B.isinstance B.list lI (f7 0)))) (lh (rL hr (gG (iq (K:=K)) jH (by rfl) B.len jI 'x') (f7 1))))) 'x' gE) (f6 (iz (gG (m8 (K:=K) rfl) tq (by rfl) B.all tH (gx (jv (jq ["_law_one"] [none] a (ik (f7 0)) (λnd a=>⟨(iR 0 nd),iL, 'x'⟩))) gQ)))))⟩
theorem SC(D:gq K mg "cleared" (ie 13))(a:CP Z "lowest" 2 (qq c))(d:CP Z "sign_of" 1 (md c)):CP Z "cleared" 3 (iP c):=jk Z 2 (iP c) ["row","other","place","often","other_often"] ["row","other","place"] rfl D λnd b hr=>⟨_,(fU 'x' (fU (iI 3 nd (gG p7 vL (by rfl) B.abs vJ 'x')) (fU 'x' (f6 (iz (lZ a hr (gx (iQ (iJ (K:=K)) jh (by rfl) B.tuple iN (gx (jv (jq ["mine","theirs","often","other_often"] [none,none,some 3,some 4] b (mj B.zip 'x') (λnd b=>⟨(oG 2 rfl (iC (iR 0 nd) (iC (iR 1 nd) lW))),iL, 'x'⟩))) gQ)) gQ)))))))⟩
theorem SW(D:gq K mg "minus" (ie 16))(a:CP Z "made" 2 (oF c)):CP Z "minus" 3 (sR c):=jk Z 2 (sR c) ["one","other"] ["one","other"] rfl D λnd b hr=>⟨_, 'x'⟩
theorem S6(D:gq K mg "times" (ie 17))(a:CP Z "made" 2 (oF c)):CP Z "times" 3 (sD c):=jk Z 2 (sD c) ["one","other"] ["one","other"] rfl D λnd b hr=>⟨_, 'x'⟩
theorem S1(D:gq K mg "over" (ie 18))(a:CP Z "made" 2 (oF c)):CP Z "over" 3 (qd c):=jk Z 2 (qd c) ["one","other"] ["one","other"] rfl D λnd b hr=>⟨_, 'x'⟩
theorem Ss(D:gq K mg "check_signs" (ie 32))(b:CP Z "is_signs" 2 (nu c))(a:lU P w K mg base c.Cutting "many" 1 (uH K (jO c))):CP Z "check_signs" 3 (kW c):=jk Z 2 (kW c) ["cutting","thing"] ["cutting","thing"] rfl D λnd d hr=>⟨_,(f6 (gZ (ml (pZ (lZ b hr (gx (Iy a hr (f7 0)) 'x')))) (f6 zR) gE))⟩
theorem Tg(D:gq K mg "one_between" (ie 38))(e:CP Z "whole_between" 2 (jx c))(g:CP Z "floor_of" 1 (kz c)):CP Z "one_between" 3 (jF c):=jk Z 2 (jF c) ["low","high","floors","whole","floor","rest","over_rest","found"] ["low","high"] rfl D λnd f hr=>⟨_,(fU (gZ (n6 (mq (gU oN ph (f7 0) lN) (lH 'x'))) 'x' gE) (fU 'x' (fU 'x' (fU (yZ (λd=>match d with|some (.p (.tup [_,.int a]))::some (.p (.tup [_,.int b]))::_=>a.natAbs+b.natAbs+2|_=>1) PassesOwn.never (gU wL vS (f7 3) lN) (fU 'x' (fU (n0 2 (pv 2) (f7 4)) (fU 'x' (fU (iI 6 nd (QY 'x' lN 'x')) 'x'))))) (fU 'x' (fU (NS 2 (i8 PassesOwn.never rfl (DX B.reversed 'x') (iu 4 nd) 'x')) 'x'))))))⟩
theorem Tu(D:gq K mg "can_stand" (ie 50))(d:CP Z "is_cut" 2 (oB c))(b:CP Z "same_spots" 2 (lL c)):CP Z "can_stand" 3 (lE c):=jk Z 2 (lE c) ["dims","ahead","thing"] ["dims","ahead","thing"] rfl D λnd a hr=>⟨_,(fU (gZ (n6 (lO (gU Ax Ao (gG (iq (K:=K)) jH (by rfl) B.len jI 'x') (AW 7 ER.k_MOST_CUTS)) (lh 'x'))) 'x' gE) (f6 (iz (yQ (gG (yK (K:=K) rfl) HD (by rfl) B.any Hq (gx (jv (jq ["cut","thing"] [none,some 2] a (ik (f7 1)) (λnd a=>⟨(iR 0 nd),iL, 'x'⟩))) gQ))))))⟩
theorem SR(D:gq K mg "_law_cuts" (ie 62))(b:CP Z "_law_cut" 2 (nS c))(e:CP Z "_law_cell_at" 1 (gR c))(d:CP Z "_law_same" 1 (ki c)):CF Z "_law_cuts" 3 (mP c):=vW Z 2 (mP c) ["_law_script","_law_at","_law_dims","_law_many","_law_found","_law_k","_law_cut_here"] ["_law_script","_law_at","_law_dims","_law_many"] rfl D λnd a hr=>⟨_,(fU 'x' (fU (nB PassesOwn.never rfl (lj B.range 'x') (iu 5 nd) (fU 'x' (f6 (gZ (BH hr (jv (jq ["_law_other","_law_cut_here"] [none,some 6] a (ik (f7 4)) (λnd a=>⟨(iR 0 nd),(lR 'x'),(f7 0)⟩))) (jv (vB gQ))) (f6 (n0 4 (pv 4) (f7 6))) gE)))) (f6 (rY 4 (pv 4)))))⟩
theorem S8(D:gq K mg "_law_spot" (ie 64))(a:CP Z "_law_draw" 1 (f9 c))(b:CP Z "_law_lowest" 2 (kD c)):CP Z "_law_spot" 3 (nv c):=jk Z 2 (nv c) ["_law_cell","_law_dims","_law_found","_law_j","_law_top","_law_bottom"] ["_law_cell","_law_dims"] rfl D λnd d hr=>⟨_,(fU 'x' (fU (nB PassesOwn.never rfl (lj B.range 'x') (iu 3 nd) (fU 'x' (fU 'x' (fU (gZ 'x' (fU (iI 4 nd (CK (lZ a hr (gx (f7 0) (gx 'x' (gx (tR gP gP) gQ)))) (tR gP gP))) (f6 (iI 5 nd (tf gP (lZ a hr (gx (f7 0) (gx 'x' (gx (tR gP gP) gQ)))))))) gE) (f6 (n0 2 (pv 2) 'x')))))) (f6 (iz (iQ (iJ (K:=K)) jh (by rfl) B.tuple iN 'x')))))⟩
theorem SL(D:gq K mg "_law_is_spot" (ie 65))(b:CP Z "_law_is_fraction" 2 (jy c)):CP Z "_law_is_spot" 3 (iY c):=jk Z 2 (iY c) ["_law_found","_law_dims"] ["_law_found","_law_dims"] rfl D λnd a hr=>⟨_,(fU (gZ (n6 (lO (ml (pZ (lA "tuple" (by decide) B.isinstance B.tuple iN (f7 0)))) (lh (rL hr (gG (iq (K:=K)) jH (by rfl) B.len jI 'x') (f7 1))))) 'x' gE) (f6 (iz (gG (m8 (K:=K) rfl) tq (by rfl) B.all tH (gx (jv (jq ["_law_part"] [none] a (ik (f7 0)) (λnd a=>⟨(iR 0 nd),iL, 'x'⟩))) gQ)))))⟩
theorem SJ(D:gq K mg "settled" (ie 24))(a:CP Z "cleared" 3 (iP c)):CP Z "settled" 4 (kK c):=jk Z 3 (kK c) ["row","pivots","place","pivot"] ["row","pivots"] rfl D λnd b hr=>⟨_,(fU (i8 PassesOwn.never rfl (ik (f7 1)) (pT 2 rfl (iO (iu 2 nd) (iO (iu 3 nd) mw))) 'x') 'x')⟩
theorem SO(D:gq K mg "with_pivot" (ie 25))(b:CP Z "cleared" 3 (iP c)):CF Z "with_pivot" 4 (kH c):=vW Z 3 (kH c) ["pivots","row","place"] ["pivots","row","place"] rfl D λnd a hr=>⟨_,(f6 (sQ (IZ (jv (jq ["other_place","pivot","row","place"] [none,none,some 1,some 2] a (ik (f7 0)) (λnd a=>⟨(oG 2 rfl (iC (iR 0 nd) (iC (iR 1 nd) lW))),iL, 'x'⟩))) 'x')))⟩
theorem Sz(D:gq K mg "left_for" (ie 28))(a:CP Z "minus" 3 (sR c))(b:CP Z "times" 3 (sD c)):CP Z "left_for" 4 (ke c):=jk Z 3 (ke c) ["row","parts","left","number","part"] ["row","parts"] rfl D λnd d hr=>⟨_,(fU (iI 2 nd (Dd (gx (DE (f7 0) (gG (iq (K:=K)) jH (by rfl) B.len jI 'x')) 'x'))) (fU (i8 PassesOwn.never rfl (mj B.zip 'x') (pT 2 rfl (iO (iu 3 nd) (iO (iu 4 nd) mw))) 'x') 'x'))⟩
theorem SM(D:gq K mg "shadow" (ie 34))(b:CP Z "cleared" 3 (iP c)):CF Z "shadow" 4 (pK c):=vW Z 3 (pK c) ["rows","dims","place","most","told","row","one","other","joined"] ["rows","dims","place","most"] rfl D λnd a hr=>⟨_,(fU (HM 4 nd) (fU (i8 PassesOwn.never rfl (ik (f7 0)) (iu 5 nd) (f6 (gZ 'x' (f6 (A3 4 hr (pv 4) (f7 5) Dw)) gE))) (fU (i8 PassesOwn.never rfl (ik (jv (jq ["row","place"] [none,some 2] a (ik (f7 0)) (λnd a=>⟨(iR 0 nd),(lR (gU uE uF 'x' gP)),(f7 0)⟩)))) (iu 6 nd) (f6 (i8 PassesOwn.never rfl (ik (jv (jq ["row","place"] [none,some 2] a (ik (f7 0)) (λnd a=>⟨(iR 0 nd),(lR (gU rW rZ 'x' gP)),(f7 0)⟩)))) (iu 7 nd) (fU 'x' (f6 (gZ (gU wm vV (gG (iq (K:=K)) jH (by rfl) B.len jI (gx (jv (jq ["weight"] [none] a (ik 'x') (λnd a=>⟨(iR 0 nd),(lR 'x'),(f7 0)⟩))) gQ)) (f7 3)) (f6 (A3 4 hr (pv 4) (f7 8) Dw)) gE)))))) (f6 (IV 4 rfl B.list (pv 4))))))⟩
theorem S9(D:gq K mg "checked_cuts" (ie 51))(a:CP Z "is_dims" 2 (mX c))(b:CP Z "can_stand" 3 (lE c)):CP Z "checked_cuts" 4 (jL c):=jk Z 3 (jL c) ["dims","things","ahead","thing"] ["dims","things"] rfl D λnd d hr=>⟨_,(fU (gZ (n6 (lO 'x' (lh (ml (pZ (lA "list" (by decide) B.isinstance B.list lI (f7 1))))))) (f6 zR) gE) (fU 'x' (fU (i8 PassesOwn.never rfl (ik (f7 1)) (iu 3 nd) (fU 'x' (f6 (n0 2 (pv 2) (iQ (iJ (K:=K)) jh (by rfl) B.tuple iN 'x'))))) (f6 (iz (iQ (iJ (K:=K)) jh (by rfl) B.tuple iN 'x'))))))⟩
theorem SH(D:gq K mg "_law_drawn" (ie 69))(d:CP Z "_law_cell_at" 1 (gR c))(b:CP Z "_law_draw" 1 (f9 c))(a:CF Z "_law_cuts" 3 (mP c)):CP Z "_law_drawn" 4 (lb c):=jk Z 3 (lb c) ["_law_script","_law_at","_law_most","_law_cell","_law_dims","_law_many"] ["_law_script","_law_at","_law_most"] rfl D λnd e hr=>⟨_,(fU 'x' (fU 'x' (fU 'x' (fU (gZ 'x' (f6 (iI 5 nd (gG (FO rfl) KU (by rfl) B.min Pa 'x'))) gE) 'x'))))⟩
theorem SE(D:gq K mg "pivots_and_rests" (ie 26))(d:CP Z "settled" 4 (kK c))(b:CF Z "with_pivot" 4 (kH c)):CP Z "pivots_and_rests" 5 (jo c):=jk Z 4 (jo c) ["rows","dims","pivots","rests","row","left","places"] ["rows","dims"] rfl D λnd a hr=>⟨_,(fU 'x' (fU 'x' (fU (i8 PassesOwn.never rfl (ik (f7 0)) (iu 4 nd) (fU 'x' (fU (tm ["place","left"] [none,some 5] 6 nd a (yU.pim (lj B.range 'x')) (λnd a=>⟨(iR 0 nd),(lR 'x'),(f7 0)⟩) rX) (f6 (gZ 'x' (f6 (n0 3 (pv 3) (f7 5))) 'x'))))) 'x')))⟩
theorem S0(D:gq K mg "filled" (ie 29))(a:CP Z "over" 3 (qd c))(b:CP Z "left_for" 4 (ke c)):CP Z "filled" 5 (qi c):=jk Z 4 (qi c) ["pivots","parts","spot","place","pivot"] ["pivots","parts"] rfl D λnd d hr=>⟨_,(fU (oC 2 nd (mh (lB (K:=K)) nc (by rfl) B.list lI 'x')) (fU (i8 PassesOwn.never rfl (ik (f7 0)) (pT 2 rfl (iO (iu 3 nd) (iO (iu 4 nd) mw))) (f6 (uX 2 (pv 2) (f7 3) 'x'))) (f6 (iz (iQ (iJ (K:=K)) jh (by rfl) B.tuple iN 'x')))))⟩
theorem So(D:gq K mg "shadows" (ie 35))(a:CF Z "shadow" 4 (pK c)):CF Z "shadows" 5 (oj c):=vW Z 4 (oj c) ["rows","dims","places","pivots","layers","place","most"] ["rows","dims","places","pivots"] rfl D λnd b hr=>⟨_,(fU 'x' (fU (i8 PassesOwn.never rfl (ik (f7 2)) (iu 5 nd) (fU (wj 6 nd (tf (tf (gG (iq (K:=K)) jH (by rfl) B.len jI 'x') gP) (gG (iq (K:=K)) jH (by rfl) B.len jI 'x'))) (f6 (Fi 4 (pv 4) 'x')))) (f6 (rY 4 (pv 4)))))⟩
theorem Td(D:gq K mg "ends_at" (ie 36))(a:CP Z "over" 3 (qd c))(b:CP Z "left_for" 4 (ke c))(d:CP Z "less" 1 (j8 c)):CP Z "ends_at" 5 (mZ c):=jk Z 4 (mZ c) ["rows","place","parts","low","high","row","end"] ["rows","place","parts"] rfl D λnd e hr=>⟨_,(fU (iI 3 nd lN) (fU (iI 4 nd lN) (fU (i8 PassesOwn.never rfl (ik (f7 0)) (iu 5 nd) (f6 (gZ 'x' (fU 'x' (fU (gZ (n6 (mq (gU uE uF 'x' gP) (lH (n6 (lO (gU wL vS (f7 3) lN) (lh 'x')))))) 'x' gE) (f6 (gZ (n6 (mq (gU rW rZ 'x' gP) (lH (n6 (lO (gU wL vS (f7 4) lN) (lh 'x')))))) 'x' gE)))) gE))) 'x')))⟩
theorem Sy(D:kP K c.Cutting "__init__" "Cutting.__init__" (nP (ie 52) 0))(a:CP Z "checked_cuts" 4 (jL c)):FM P w K mg base "Cutting" c.Cutting 5 (Ck K c.Cutting (jK c)):=R7 Z 4 (jK c) ["self","dims","cuts"] rfl ER.cl_Cutting ER.na_Cutting_own_cuts ER.na_Cutting_own_dims ER.mk_Cutting ER.kp_Cutting ER.mg_Cutting D λhr=>RZ rfl (pv 0) (lZ a hr (gx (f7 1) (gx (f7 2) gQ))) (pv 0) (f7 1)
theorem Ta(D:gq K mg "parts_within" (ie 39))(a:CP Z "ends_at" 5 (mZ c))(b:CP Z "one_between" 3 (jF c)):CF Z "parts_within" 6 (jQ c):=vW Z 5 (jQ c) ["layers","places","parts","chosen","number","place","ends"] ["layers","places","parts"] rfl D λnd d hr=>⟨_,(fU (oC 3 nd (mh (lB (K:=K)) nc (by rfl) B.list lI 'x')) (fU (i8 PassesOwn.never rfl (DX B.reversed (gx (jv (Ra rfl B.list B.enumerate 'x')) gQ)) (pT 2 rfl (iO (iu 4 nd) (iO (iu 5 nd) mw))) (fU 'x' (f6 (uX 3 (pv 3) (f7 5) 'x')))) (f6 (rY 3 (pv 3)))))⟩
theorem Tc(D:gq K mg "parts_or_weights" (ie 41))(j:CF Z "weighted" 1 (nj c))(b:CP Z "pivots_and_rests" 5 (jo c))(e:CP Z "paper_of_noughts" 2 (iF c))(k:CF Z "free_places" 1 (kX c))(d:CF Z "shadows" 5 (oj c))(h:CP Z "settled" 4 (kK c))(f:CP Z "filled" 5 (qi c))(i:CP Z "turned" 1 (nA c))(g:CF Z "parts_within" 6 (jQ c)):CP Z "parts_or_weights" 7 (iE c):=jk Z 6 (iE c) ["cuts","dims","signs","rows","found","paper","pivots","sided","places","layers","row"] ["cuts","dims","signs"] rfl D λnd a hr=>⟨_,(fU 'x' (fU (iI 4 nd (lZ b hr (gx (jv (jq ["row","sign"] [none,none] a (mj B.zip 'x') (λnd a=>⟨(oG 2 rfl (iC (iR 0 nd) (iC (iR 1 nd) lW))),(lR 'x'),(f7 0)⟩))) 'x'))) (fU 'x' (fU (gZ (gU oN ph (f7 5) lN) 'x' gE) (fU 'x' (fU (tm ["row","sign","pivots"] [none,none,some 6] 7 nd a (mj B.zip 'x') (λnd a=>⟨(oG 2 rfl (iC (iR 0 nd) (iC (iR 1 nd) lW))),(lR 'x'), 'x'⟩) rX) (fU 'x' (fU 'x' (fU (i8 PassesOwn.never rfl (ik 'x') (iu 10 nd) (f6 (gZ (gU Ax Ao 'x' gP) (f6 (iz (Dd (gx JD (gx (jv (mh (lB (K:=K)) nc (by rfl) B.list lI 'x')) gQ))))) gE))) 'x')))))))))⟩
theorem S3(D:gq K mg "held" (ie 42))(e:CP Z "check_signs" 3 (kW c))(d:CP Z "parts_or_weights" 7 (iE c))(b:lU P w K mg base c.Cutting "cuts" 1 (Cf K (jN c)))(a:lU P w K mg base c.Cutting "dims" 1 (uH K (jM c))):CP Z "held" 8 (j6 c):=jk Z 7 (j6 c) ["cutting","signs"] ["cutting","signs"] rfl D λnd f hr=>⟨_,(fU 'x' (f6 (iz (lZ d hr (gx (jv (Om b hr (f7 0))) (gx (Iy a hr (f7 0)) 'x'))))))⟩
theorem Te(D:gq K mg "_law_held" (ie 68))(e:CP Z "held" 8 (j6 c))(g:CP Z "_law_is_spot" 3 (iY c))(a:CP Z "_law_numbers" 2 (je c))(d:CP Z "_law_none" 1 (kh c))(f:CP Z "_law_side" 1 (l9 c)):CP Z "_law_held" 9 (jG c):=jk Z 8 (jG c) ["_law_cutting","_law_cuts_here","_law_dims","_law_signs","_law_found"] ["_law_cutting","_law_cuts_here","_law_dims","_law_signs"] rfl D λnd b hr=>⟨_,(fU 'x' (fU (gZ (n6 (lO (ml (pZ (lA "tuple" (by decide) B.isinstance B.tuple iN (f7 4)))) (lh (rL hr (gG (iq (K:=K)) jH (by rfl) B.len jI 'x') gP)))) 'x' gE) (fU (gZ 'x' (f6 (gZ (BH hr (iQ (iJ (K:=K)) jh (by rfl) B.tuple iN (gx (jv (jq ["_law_cut_here","_law_found"] [none,some 4] b (ik (f7 1)) (λnd b=>⟨(iR 0 nd),iL, 'x'⟩))) gQ)) (f7 3)) 'x' gE)) gE) (fU (gZ (n6 (mq 'x' (mq (pZ (lZ a hr (gx 'x' (gx (gG (iq (K:=K)) jH (by rfl) B.len jI 'x') gQ)))) (lH 'x')))) 'x' gE) 'x'))))⟩
theorem Tj(D:gq K mg "_law_once_more" (ie 70))(a:CP Z "held" 8 (j6 c)):CP Z "_law_once_more" 9 (iS c):=jk Z 8 (iS c) ["_law_cutting","_law_signs","_law_found","_law_kept"] ["_law_cutting","_law_signs"] rfl D λnd e hr=>⟨_,(EY 2 3 'x' (λb=>DY 2 nd (HP a hr b)) (gG (xT (Pu hr) hr.gd) Ed (by rfl) B.repr Ew 'x') (λd=>DY 3 nd d) 'x' (Lc (pv 2)) (DF hr (gG (xT (Pu hr) hr.gd) Ed (by rfl) B.repr Ew 'x') (f7 3)))⟩
theorem Sn(D:gq K mg "_law_right" (ie 71))(b:FM P w K mg base "Cutting" c.Cutting 5 (Ck K c.Cutting (jK c)))(d:CP Z "_law_spot" 3 (nv c))(i:CP Z "_law_cell_at" 1 (gR c))(g:CP Z "_law_held" 9 (jG c))(h:CP Z "_law_once_more" 9 (iS c))(e:CP Z "_law_side" 1 (l9 c))(f:CP Z "_law_draw" 1 (f9 c)):CP Z "_law_right" 10 (kZ c):=jk Z 9 (kZ c) ["_law_script","_law_at","_law_dims","_law_cuts_here","_law_cutting","_law_some","_law_k","_law_signs","_law_place"] ["_law_script","_law_at","_law_dims","_law_cuts_here"] rfl D λnd a hr=>⟨_,(fU (iI 4 nd (Qe b hr 'x')) (fU (oC 5 nd (vB (gx (Dy 'x' (gG (iq (K:=K)) jH (by rfl) B.len jI 'x')) (gx (Dy 'x' (gG (iq (K:=K)) jH (by rfl) B.len jI 'x')) gQ)))) (fU (nB PassesOwn.never rfl (lj B.range 'x') (iu 6 nd) (f6 (n0 5 (pv 5) (iQ (iJ (K:=K)) jh (by rfl) B.tuple iN (gx (jv (jq ["_law_j","_law_script","_law_at","_law_k"] [none,some 0,some 1,some 6] a (yU.pim (lj B.range (gx (gG (iq (K:=K)) jH (by rfl) B.len jI 'x') gQ))) (λnd a=>⟨(iR 0 nd),iL, 'x'⟩))) gQ))))) (fU (Gp PassesOwn.never rfl 'x' (iu 7 nd) (f6 (gZ (n6 (lO (gU wL vS 'x' lN) (lh 'x'))) 'x' gE))) (fU (nB PassesOwn.never rfl (lj B.range 'x') (iu 6 nd) (fU 'x' (fU (iI 7 nd (iQ (iJ (K:=K)) jh (by rfl) B.tuple iN (gx (jv (jq ["_law_cut_here","_law_place"] [none,some 8] a (ik (f7 3)) (λnd a=>⟨(iR 0 nd),iL, 'x'⟩))) gQ))) (f6 (gZ (gU F9 Gg 'x' Dw) 'x' gE))))) 'x')))))⟩
theorem oL{a:Addr}{fd:FuncData}(D:JL K "law" "law" (ie 72) a fd)(b:CP Z "_law_drawn" 4 (lb c))(d:CP Z "_law_right" 10 (kZ c)):nh P w K mg base xh 11 a fd ["_law_script"] (uH K (uW c)):=Qc Z 10 (uW c) ["_law_script","_law_at","_law_dims","_law_cuts_here"] ["_law_script"] rfl D λnd e hr=>⟨_,(fU (i8 PassesOwn.never rfl (ik 'x') (iu 1 nd) (fU (K3 'x' (pT 2 rfl (iO (iu 2 nd) (iO (iu 3 nd) mw)))) 'x')) 'x')⟩
end
def OT{l:W.OpenLaw}{w:World}{K:W.Frag}{h:Heap}{b:Str->Option Value}{c:Cs}{fa f:Addr}{oc kV q pm i ct:Vq}{od an:Option Addr}{osl:Array (Option Value)}(X:K.In h)(G:h.Ns mainGlobals b)(F:b "law" = some (.ref fa))
  (a:W.nsIn K mainGlobals "law" = some (some (.ref f))) (lk:K.lookup f=some ⟨oc,od,.func (W.fnOf "law" "law" (jJ (ie 72)) (iy (ie 72)) (gw (ie 72)) .none kV q pm an i ct),osl⟩) (cc:W.codeIn K i "law" = true) (kk:W.keepIn K (.ref f)=true)
  (B:Bs b) (ER:Er c K b) (LF:∀ns:LI,(uW c) [.scr ns]=.ok (.bl true)) (D0:gq K b "is_whole" (ie 8)) (D1:gq K b "sign_of" (ie 10)) (D2:gq K b "common_divisor" (ie 11)) (D3:gq K b "less" (ie 19)) (D4:gq K b "floor_of" (ie 20)) (D5:gq K b "ceiling_of" (ie 21)) (D6:gq K b "weighted" (ie 23)) (D7:gq K b "free_places" (ie 27)) (D8:gq K b "turned" (ie 33)) (D9:gq K b "first_place" (ie 48)) (D10:gq K b "_law_cell_at" (ie 54)) (D11:gq K b "_law_draw" (ie 55)) (D12:gq K b "_law_whole" (ie 56)) (D13:gq K b "_law_common" (ie 57)) (D14:gq K b "_law_same" (ie 60)) (D15:gq K b "_law_side" (ie 63)) (D16:gq K b "_law_none" (ie 66)) (I:gq K b "lowest" (ie 12)) (D18:gq K b "made" (ie 15)) (D19:gq K b "is_signs" (ie 31)) (D20:gq K b "whole_between" (ie 37)) (D21:gq K b "paper_of_noughts" (ie 40)) (D22:gq K b "is_dims" (ie 46)) (C:gq K b "is_cut" (ie 47)) (D24:gq K b "same_spots" (ie 49)) (U:gq K b "_law_lowest" (ie 58)) (D26:gq K b "_law_is_fraction" (ie 59)) (D27:gq K b "_law_cut" (ie 61)) (D28:gq K b "_law_numbers" (ie 67)) (D29:gq K b "cleared" (ie 13)) (z:gq K b "minus" (ie 16)) (D31:gq K b "times" (ie 17)) (D32:gq K b "over" (ie 18)) (D33:gq K b "check_signs" (ie 32)) (D34:gq K b "one_between" (ie 38)) (D35:gq K b "can_stand" (ie 50)) (D36:gq K b "_law_cuts" (ie 62)) (D37:gq K b "_law_spot" (ie 64)) (H:gq K b "_law_is_spot" (ie 65)) (A:gq K b "settled" (ie 24)) (P:gq K b "with_pivot" (ie 25)) (D41:gq K b "left_for" (ie 28)) (D42:gq K b "shadow" (ie 34)) (D43:gq K b "checked_cuts" (ie 51)) (D44:gq K b "_law_drawn" (ie 69)) (D45:gq K b "pivots_and_rests" (ie 26)) (D46:gq K b "filled" (ie 29)) (D47:gq K b "shadows" (ie 35)) (D48:gq K b "ends_at" (ie 36)) (D49:gq K b "parts_within" (ie 39)) (D50:gq K b "parts_or_weights" (ie 41)) (D51:gq K b "held" (ie 42)) (D52:gq K b "_law_held" (ie 68)) (D53:gq K b "_law_once_more" (ie 70)) (D54:gq K b "_law_right" (ie 71)) (M0:kP K c.Cutting "dims" "Cutting.dims" (nP (ie 52) 1)) (M1:kP K c.Cutting "cuts" "Cutting.cuts" (nP (ie 52) 2)) (M2:kP K c.Cutting "many" "Cutting.many" (nP (ie 52) 3)) (M3:kP K c.Cutting "__init__" "Cutting.__init__" (nP (ie 52) 0)) :
  ∃fd:FuncData,(∀(s:Shared) (v:Vq),BindsTo s fd ⟨[v],[]⟩ [("_law_script",v)])/\∀d:Heap,K.In d->d.Ns mainGlobals b->nh l.prog w K b d xh 11 fa fd ["_law_script"] (ID K):=by
 have e:=F.symm.trans (W.mg_of X G a);cases e;refine⟨W.fnOf "law" "law" (jJ (ie 72)) (iy (ie 72)) (gw (ie 72)) .none kV q pm an i ct,?bnd,λd _ _=>?main⟩
 case main=>have Z:Zx l.prog w K b d:=⟨trivial⟩;have O0:=o0 Z B ER D0;have O1:=o1 Z B ER D1;have O2:=o2 Z B ER D2;have O3:=o3 Z B ER D3;have O4:=o4 Z B ER D4;have O5:=o5 Z B ER D5;have O6:=o6 Z B ER D6;have O7:=o7 Z B ER D7;have O8:=o8 Z B ER D8;have O9:=o9 Z B ER D9;have O10:=Tr Z B ER M0;have O11:=S5 Z B ER M1;have O12:=Th Z B ER M2;have k:=S2 Z B ER D10;have g:=SD Z B ER D11;have u:=Tp Z B ER D12;have x:=SN Z B ER D13;have O17:=S4 Z B ER D14;have p:=Tn Z B ER D15;have O19:=Tq Z B ER D16;have O20:=Su Z B ER I O2;have m:=SF Z B ER D18 O2;have O22:=SV Z B ER D19 O0;have O23:=Tf Z B ER D20 O4 O3 O5;have O24:=SQ Z B ER D21 O8 O1;have O25:=SA Z B ER D22 O0;have O26:=SY Z B ER C O0;have O27:=SX Z B ER D24 O9;have O28:=Sv Z B ER U x;have O29:=Ti Z B ER D26 u x;have O30:=SZ Z B ER D27 g;have D:=SI Z B ER D28 u;have j:=SC Z B ER D29 O20 O1;have O33:=SW Z B ER z m;have E:=S6 Z B ER D31 m;have r:=S1 Z B ER D32 m;have O36:=Ss Z B ER D33 O22 O12;have O37:=Tg Z B ER D34 O23 O4;have O38:=Tu Z B ER D35 O26 O27;have O39:=SR Z B ER D36 O30 k O17;have O40:=S8 Z B ER D37 g O28;have O41:=SL Z B ER H O29;have o:=SJ Z B ER A j;have Y:=SO Z B ER P j;have y:=Sz Z B ER D41 O33 E;have N:=SM Z B ER D42 j;have O46:=S9 Z B ER D43 O25 O38;have L:=SH Z B ER D44 k g O39;have O48:=SE Z B ER D45 o Y;have O49:=S0 Z B ER D46 r y;have O50:=So Z B ER D47 N;have O51:=Td Z B ER D48 r y O3;have J:=Sy Z B ER M3 O46;have Q:=Ta Z B ER D49 O51 O37;have R:=Tc Z B ER D50 O6 O48 O24 O7 O50 o O49 O8 Q;have n:=S3 Z B ER D51 O36 R O11 O10;have S:=Te Z B ER D52 n O41 D O19 p;have O57:=Tj Z B ER D53 n;have O58:=Sn Z B ER D54 J O40 k S O57 p g;exact (oL Z B ER (B5 (st:=ie 72) lk cc kk) L O58).imp (Hg λns _ _=>LF ns)
 case bnd=>exact λs v=>.of_eq rfl
end K11
namespace PySem.Challenge.cw_cutlands_k11_signs_held_holds
def tw13864467771452567038:0=0:=rfl
def tw12523517201514355793:0=0:=rfl
def tw12278188719456208361:0=0:=rfl
def tw15247498014408984549:0=0:=rfl
def tw8119729578855503764:0=0:=rfl
def tw16106719759699138430:0=0:=rfl
def tw11370223831207171345:0=0:=rfl
def tw3911142607083864924:0=0:=rfl
def tw985475146624893354:0=0:=rfl
def tw18146964437060816811:0=0:=rfl
def tw9614085291455284432:0=0:=rfl
def tw7416957683789315623:0=0:=rfl
def tw15244805288801165321:0=0:=rfl
def tw15349433408849951786:0=0:=rfl
def tw14603897101477241829:0=0:=rfl
def tw3567200966740217346:0=0:=rfl
def tw17764165246116201729:0=0:=rfl
def tw11485626265328140969:0=0:=rfl
def tw3833620205073280301:0=0:=rfl
def tw17323515846708359741:0=0:=rfl
def tw14332372198905068010:0=0:=rfl
def tw15076609578017789399:0=0:=rfl
def tw2102213177283186899:0=0:=rfl
def tw5444093904739932406:0=0:=rfl
def tw6101535979578646719:0=0:=rfl
def tw7449889723350177627:0=0:=rfl
def tw6840668676196421147:0=0:=rfl
def tw9395303441032504694:0=0:=rfl
def tw4337112344675299015:0=0:=rfl
def tw8320231954610020761:0=0:=rfl
def tw16645154684822405937:0=0:=rfl
def tw10724102438277591599:0=0:=rfl
def tw11962980585769225206:0=0:=rfl
def tw8401863248899156587:0=0:=rfl
def tw15457182362402540114:0=0:=rfl
def tw9324358309167200905:0=0:=rfl
def tw8294232313314287548:0=0:=rfl
def tw6680215757985593896:0=0:=rfl
def tw237748237418722978:0=0:=rfl
def tw9762137135719142178:0=0:=rfl
def tw12584257509888598132:0=0:=rfl
def tw14350026233102365646:0=0:=rfl
def tw14994897236415999498:0=0:=rfl
def tw4340796120031455873:0=0:=rfl
def tw311186029506613361:0=0:=rfl
def tw1992094869601810775:0=0:=rfl
def tw269767857396862526:0=0:=rfl
def tw15379157468650136294:0=0:=rfl
def tw15019509307482893296:0=0:=rfl
def tw4367042051544238875:0=0:=rfl
def tw17164111573724905210:0=0:=rfl
def tw16231585099629344418:0=0:=rfl
def tw3115292705166074016:0=0:=rfl
def tw9110666755138484118:0=0:=rfl
def tw2821463718120626647:0=0:=rfl
def tw8823868876249734541:0=0:=rfl
def tw1276823471789568502:0=0:=rfl
def tw11576291494478124783:0=0:=rfl
def tw6818283514469169580:0=0:=rfl
def tw13923298755019431988:0=0:=rfl
def tw6608145022473044946:0=0:=rfl
def tw15410630025740981952:0=0:=rfl
def tw8979425230136089913:0=0:=rfl
def tw1896993104974786116:0=0:=rfl
def tw8357815933046856625:0=0:=rfl
def tw12408936496862556504:0=0:=rfl
def tw5585230581192585577:0=0:=rfl
def tw7249337438046340262:0=0:=rfl
def tw11969074059374629636:0=0:=rfl
def tw8815084879930895089:0=0:=rfl
def tw12429073812526282660:0=0:=rfl
def tw2116141509906638492:0=0:=rfl
def tw3067835574144233760:0=0:=rfl
def tw15925076063565276380:0=0:=rfl
def tw14519455687666994005:0=0:=rfl
def tw4145544840266092613:0=0:=rfl
def tw2766318532178000326:0=0:=rfl
def tw6390209711511257101:0=0:=rfl
def tw2579245983902944636:0=0:=rfl
def tw11402561057219578844:0=0:=rfl
def tw1513578214237771422:0=0:=rfl
def tw3725067872392357738:0=0:=rfl
def tw15190239942657308139:0=0:=rfl
def tw2124501149464432496:0=0:=rfl
def tw644438109354229676:0=0:=rfl
def tw5973634707260672698:0=0:=rfl
def tw12874940655122410238:0=0:=rfl
def tw16688271060950321046:0=0:=rfl
def tw4873607936047411103:0=0:=rfl
def tw13225357474245039721:0=0:=rfl
def tw17074708261405141467:0=0:=rfl
def tw2851577033077152912:0=0:=rfl
def tw5061798894825680362:0=0:=rfl
def tw12085395740967195929:0=0:=rfl
def tw17129179422496755866:0=0:=rfl
def tw5001463339765572456:0=0:=rfl
def tw17549017117698653188:0=0:=rfl
def tw12487323010778648746:0=0:=rfl
def tw6021143012618819935:0=0:=rfl
def tw12806261610697103746:0=0:=rfl
def tw1007578914441234073:0=0:=rfl
def tw4028129979206328614:0=0:=rfl
def tw5345299316412306920:0=0:=rfl
def tw14054381969536971714:0=0:=rfl
def tw18206049405027270368:0=0:=rfl
def tw11547139150232880331:0=0:=rfl
def tw13545065352618220545:0=0:=rfl
def tw14853905233661546821:0=0:=rfl
def tw15489297169355430081:0=0:=rfl
def tw17761279324750150407:0=0:=rfl
def tw11394012532753229797:0=0:=rfl
def tw13432528270917809560:0=0:=rfl
def tw3987056994909839958:0=0:=rfl
def tw12468757785640454915:0=0:=rfl
def tw564311683646954429:0=0:=rfl
def tw3900092109969570336:0=0:=rfl
def tw8890401955828530538:0=0:=rfl
def tw17242366720861555977:0=0:=rfl
def tw16395014602653502736:0=0:=rfl
def tw16463416168351019516:0=0:=rfl
def tw381728902755060147:0=0:=rfl
def tw6951800455315776861:0=0:=rfl
def tw7520344625510285646:0=0:=rfl
def tw10480581219828953351:0=0:=rfl
def tw14388046056100839570:0=0:=rfl
def tw1394463241333434676:0=0:=rfl
def tw8460490951355153617:0=0:=rfl
def tw889495181813275237:0=0:=rfl
def tw3884152862216470189:0=0:=rfl
def tw10432390899435697393:0=0:=rfl
def tw18108602941385539269:0=0:=rfl
def tw16885321895230060482:0=0:=rfl
def tw7923406179326600433:0=0:=rfl
def tw6072691877713741492:0=0:=rfl
def tw12763818137164345958:0=0:=rfl
def tw831907848848527402:0=0:=rfl
def tw638301670054841723:0=0:=rfl
def tw318311399701793972:0=0:=rfl
def tw11097839266429961298:0=0:=rfl
def tw16800848000096478538:0=0:=rfl
def tw830694455388426126:0=0:=rfl
def tw6711534912411135072:0=0:=rfl
def tw5953498578780108737:0=0:=rfl
def tw4514031424631207354:0=0:=rfl
def tw7528205197225556484:0=0:=rfl
def tw4978578495780840005:0=0:=rfl
def tw4762809293429526026:0=0:=rfl
def tw10045508784470054928:0=0:=rfl
def tw16536366447835059676:0=0:=rfl
def tw15094948355019684058:0=0:=rfl
def tw17783150437042837943:0=0:=rfl
def tw13721281708133733633:0=0:=rfl
def tw2929292170790369965:0=0:=rfl
def tw9739591244830951146:0=0:=rfl
def tw14758277566501963506:0=0:=rfl
def tw4429172468271997915:0=0:=rfl
end PySem.Challenge.cw_cutlands_k11_signs_held_holds
open PySem PySem.W PyProof.Rows
set_option Elab.async true
theorem PySem.Challenge.cw_cutlands_k11_signs_held_holds : PySem.Challenge.rw_cutlands_k11_signs_held.Holds := by
 w_on;o_law;k_head;(case hw=>w_witness2);k_fill;refine L3.Qz (l:=PySem.Challenge.rw_cutlands_k11_signs_held) (k:=11) (x:= "_law_script") rfl ⟨rfl,by decide,by decide,rfl⟩ rfl (λw h Y=>PySem.W.kIn_of Y) ?F
 case F=>intro w mg fa h KX G hmg;refine' K11.OT KX G hmg ?a ?l ?c ?k ?B ?E (λns=>CL.IL ns) ?_ ?_ ?_ ?_ ?_ ?_ ?_ ?_ ?_ ?_ ?_ ?_ ?_ ?_ ?_ ?_ ?_ ?_ ?_ ?_ ?_ ?_ ?_ ?_ ?_ ?_ ?_ ?_ ?_ ?_ ?_ ?_ ?_ ?_ ?_ ?_ ?_ ?_ ?_ ?_ ?_ ?_ ?_ ?_ ?_ ?_ ?_ ?_ ?_ ?_ ?_ ?_ ?_ ?_ ?_ ?_ ?_ ?_ ?_;(case a=>k_is);(case l=>k_is);(case c=>k_is);(case k=>k_is);(case B=>constructor<;>(apply mg_none_of KX G;k_is));(case E=>apply K11.Q1 KX G<;>first | k_is | k_exc | decide);all_goals first | (apply L2.Nr KX G<;>k_is) | (apply K11.PD<;>first | k_is | k_exc | decide)
