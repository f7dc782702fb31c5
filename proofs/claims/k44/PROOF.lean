import PyProof.Rows.All
import Wide.All
import OpenK.AllK
import Wide.FinOn
import Lean
import PyProof.EqAt
import PyProof.EqKinds
import PyProof.TupleCall
import PyProof.P3Eq
import PyProof.NeData
import PyProof.ConsumeWalk
import PyProof.Rows.SumAny
import PyProof.ZipIter
import PyProof.Rows.ZipGen
import PyProof.Rows.SeqMore
import PyProof.FactsAll.tuple
import PyProof.WalksMore
import PyProof.EnumMake
import PyProof.EnumFor
import PyProof.Rows.MinMaxN
import KE.KDictList
import KE.KRevIter
import KE.KItemsList
import PyProof.Rows.SortWalk
import PyProof.Rows.SetFrom
import PyProof.SetRoads
import PyProof.StrLoop
import PyProof.StrWalks
import PyProof.StrCalls2
import PyProof.StrLawsTight
import PyProof.StrLawsReplace
import PyProof.SliceStr2
import PyProof.StrOps
import PyProof.Rows.DictRows
import KE.KIntText
import PyProof.AttrMissHeap
import KE.KDictOf
import PyProof.ExcInit
import PyProof.ExcClass3
import PyProof.InstStoreFacts
import PyProof.Rows.ChunkEnd
import KE.KSortTup
import PyProof.SetKind
import PyProof.SetScanFacts
import PyProof.TupleKey
import PyProof.IsRules
import KE.KDictSum
import KE.KLam
import PyProof.Rows.SortRunsK
import PySem.Challenge.RW_cutlands_k44_lands_by_counting
set_option bootstrap.genMatcherCode false
set_option maxRecDepth 100000
set_option maxHeartbeats 0
set_option linter.all false
noncomputable section
set_option compiler.extract_closed false
set_option hygiene false
abbrev LI:=List Int
abbrev LL:=List LI
section
open PySem
def aa:=@List.getElem?_eq_some_iff
def ae:=@Heap.get?_push_of_some
def af:=@List.getD_eq_getElem?_getD
def ag:=@List.getElem?_eq_getElem
def ai:=@List.mem_append
def aj:=@List.mem_singleton
def ak:=@wpAny_pure
def ao:=@wpAny_bind
def aq:=@List.getElem?_set_ne
def ar:=@Heap.get?_push_size
def au:=@List.mem_of_getElem?
def aw:=@List.getElem?_map
def ax:=@List.length_map
def ay:=@List.mem_append_left
def az:=@List.length_cons
def aB:=@decide_eq_false
def aC:=@decide_eq_true
def aE:=@List.mem_map
def aF:=@Nat.lt_of_lt_of_le
def aG:=@List.mem_cons
def aH:=@Nat.zero_add
def aI:=@Bool.false_ne_true
def aJ:=@List.map_map
def aL:=@Nat.le_refl
def aM:=@Heap.lt_size
def aN:=@Nat.ne_of_lt
def aO:=@Nat.le_trans
def aP:=@Classical.byContradiction
def aR:=@if_pos
def aS:=@if_neg
def aT:=@List.mem_range
def aU:=@List.length_append
def aV:=@List.mem_filter
def aW:=@List.getElem_mem
def aX:=@List.of_mem_zip
def aY:=@Int.mul_pos
def aZ:=@Int.natAbs_mul
def a9:=@List.map_append
def bg:=@Nat.lt_irrefl
def bj:=@Nat.le_of_lt
def br:=@List.filterMap_cons
def bu:=@List.mem_cons_self
def bx:=@List.mem_cons_of_mem
def bz:=@Array.append_assoc
def bA:=@Array.length_toList
def bB:=@Nat.ne_of_gt
def bC:=@Int.mul_one
def bE:=@List.mem_filterMap
def bF:=@List.mem_append_right
def bG:=@List.size_toArray
def bH:=@List.any_eq_false
def bI:=@Array.mem_toList_iff
def bJ:=@List.map_cons
def bK:=@Nat.lt_succ_self
def bL:=@Nat.zero_le
def bM:=@List.append_nil
def bN:=@Nat.le_succ
def bO:=@List.nodup_cons
def bP:=@Option.isSome_iff_exists
def bQ:=@List.length_take
def bR:=@Int.toNat_natCast
def bS:=@List.length_drop
def bT:=@Bool.and_eq_true
def bU:=@List.length_set
def bV:=@List.all_cons
def bW:=@List.any_cons
def bX:=@List.replicate_succ
def bY:=@List.flatten_cons
def bZ:=@List.append_assoc
def b9:=@List.foldl_cons
def cf:=@List.length_singleton
def cg:=@Nat.succ_mul
def cj:=@List.nil_append
def ck:=@Nat.mul_comm
def cm:=@List.map_nil
def cn:=@Nat.le_of_not_lt
def cq:=@List.forIn_cons
def cu:=@Bool.false_eq_true
def cw:=@List.lookup_cons
def cx:=@Nat.le_of_succ_le
def cy:=@Nat.lt_succ_of_lt
def cz:=@List.forIn_nil
def cA:=@Nat.le_add_right
def cB:=@Nat.le_succ_of_le
def cC:=@Nat.not_lt
def cD:=@List.range_succ_eq_map
def cE:=@List.all_map
def cF:=@List.any_map
def cG:=@List.take_of_length_le
def cH:=@List.all_eq_true
def cI:=@Int.toNat_of_nonneg
def cJ:=@List.ext_getElem
def cK:=@Array.forIn_toList
def cL:=@Bool.not_true
def cN:=@Bool.not_false
def cO:=@Array.toList_append
def cQ:=@Nat.lt_of_le_of_lt
def cR:=@List.zip_cons_cons
def cS:=@List.drop_eq_getElem_cons
def cT:=@Array.toList_push
def cU:=@List.perm_middle
def cV:=@List.pairwise_append
def cW:=@List.pairwise_singleton
def cX:=@List.pairwise_cons
def cY:=@Array.toList_inj
def cZ:=@Array.toList_extract
def c5:=@List.extract_eq_take_drop
def c6:=@List.take_add_one
def c7:=@Nat.sub_self
def c8:=@List.take_zero
def c9:=@Nat.add_zero
def dc:=@Array.append_empty
def de:=@Array.append_push
def dg:=@List.drop_eq_nil_of_le
def dh:=@List.perm_append_comm
def dq:=@List.mem_of_mem_drop
def du:=@List.pairwise_iff_getElem
def dy:=@List.length_pos_of_mem
def dz:=@List.reverse_append
def dA:=@Array.toList_reverse
def dB:=@List.mem_of_mem_take
def dC:=@List.mem_iff_getElem
def dD:=@Array.perm_iff_toList_perm
def dE:=@Bool.eq_false_iff
def dF:=@List.take_append_drop
def dG:=@List.getElem_drop
def dH:=@Array.getElem_extract
def dI:=@Array.getElem_toList
def dJ:=@Nat.min_eq_left
def dM:=@Nat.not_lt_zero
def dN:=@List.map_inj_right
def dO:=@Array.toList_map
def dP:=@List.length_range
def dQ:=@List.pairwise_map
def dR:=@Option.map_eq_some_iff
def dS:=@List.map_congr_left
def dU:=@Array.getD_eq_getD_getElem?
def dW:=@Int.gcd_dvd_left
def dX:=@Int.gcd_dvd_right
def dY:=@Int.dvd_mul_of_dvd_left
def dZ:=@Int.fmod_nonneg_of_pos
def d6:=@Int.fmod_lt_of_pos
def d7:=@Int.natAbs_natCast
def d8:=@Int.natAbs_dvd_natAbs
def d9:=@Int.mul_assoc
def ee:=@Int.mul_comm
def eh:=@List.mem_of_find?_eq_some
def eA:=@List.lookup_cons_self
def eB:=@List.drop_length
def eC:=@List.mem_nil_iff
def eE:=@List.map_take
def eF:=@List.map_drop
def eG:=@Nat.pow_le_pow_right
def eI:=@Nat.pow_succ
def eJ:=@Int.natAbs_add_le
def eK:=@Int.sub_eq_add_neg
def eL:=@List.drop_of_length_le
def eM:=@List.dropLast_eq_take
def eN:=@Bool.not_eq_true'
def eO:=@List.mergeSort_perm
def eP:=@List.pairwise_mergeSort
def eQ:=@List.cons_append
def eR:=@List.nodup_append
def eS:=@List.mem_iff_getElem?
def eU:=@Int.mul_fdiv_cancel_left
def eV:=@Nat.two_pow_pos
def eW:=@List.length_nil
def eX:=@Int.one_mul
def eY:=@Int.zero_mul
def fg:=@Int.add_zero
def fj:=@Int.zero_add
def fq:=@Int.mul_ne_zero
def fu:=@Int.mul_add
def fv:=@Int.mul_zero
def fw:=@Int.mul_eq_zero
def fB:=@Int.neg_mul
def fC:=@Int.dvd_trans
def fE:=@List.take_length
def fF:=@List.getElem_map
def fG:=@List.length_erase_of_mem
def fH:=@List.mem_of_mem_erase
def fJ:=@List.length_pos_iff
def fK:=@List.map_set
def fL:=@List.length_zip
def fM:=@List.eq_replicate_iff
def fN:=@List.any_eq_true
def fO:=@List.length_eq_zero_iff
def fP:=@List.eq_nil_or_concat
def fQ:=@List.concat_eq_append
def fR:=@Nat.le_antisymm
def fS:=@List.getElem_take
def fT:=@List.getElem_of_mem
def fU:=@List.filter_congr
def fV:=@List.length_filter_le
def fW:=@Int.ofNat_inj
def fX:=@Nat.not_succ_le_self
def fY:=@List.not_mem_nil
def fZ:=@List.range_succ
def f6:=@List.filter_append
def f7:=@List.length_filterMap_le
def f9:=@List.append_of_mem
def gh:=@List.filter_cons
def gq:=@List.filter_eq_nil_iff
def gw:=@List.getElem_range
def gz:=@List.singleton_append
def gA:=@Int.eq_of_mul_eq_mul_left
def gB:=@Int.dvd_zero
def gC:=@Nat.eq_one_of_mul_eq_one_right
def gE:=@Int.dvd_coe_gcd
def gG:=@Nat.lt_trichotomy
def gH:=@Nat.lt_or_gt_of_ne
def gJ:=@List.nodup_range
def gM:=@List.reverse_perm
def gN:=@List.filter_eq_self
def gO:=@List.map_dropLast
def gP:=@List.map_singleton
end
set_option Elab.async false
namespace L2
open PySem PySem.Spec PyProof.Rows
abbrev pD:=Sum Int Str
noncomputable def yQ:pD->Value->Bool
 |.inl k,v=>Value.isInt k v
 |.inr x,v=>Value.isStrOf x v
def UQ(w:World):pD->Int
 |.inl k=>hashInt k
 |.inr x=>hashStr w x
theorem jT:∀{k} {v},yQ k v=true->(∃i t,k=Sum.inl i/\v=Value.int i t)\/(∃x t,k=Sum.inr x/\v=Value.str x t)
 |.inl i,v,h=>by obtain⟨t,e⟩:=Value.isInt_shape h;exact .inl ⟨i,t,rfl,e⟩
 |.inr x,v,h=>by obtain⟨t,e⟩:=Value.isStrOf_shape h;exact .inr ⟨x,t,rfl,e⟩
def HI i t:yQ (.inl i) (.int i t)=true:=by simp[yQ,Value.isInt]
def GY x t:yQ (.inr x) (.str x t)=true:=by simp[yQ,Value.isStrOf]
def Ru a b:decide ((Sum.inl a:pD)=Sum.inl b)=(a==b):=by
 by_cases e:a=b
 .subst e;simp
 .have h:¬(Sum.inl a:pD)=Sum.inl b:=λq=>e (Sum.inl.inj q);rw[aB h];exact (beq_eq_false_iff_ne.mpr e).symm
def Su a b:decide ((Sum.inr a:pD)=Sum.inr b)=decide (a=b):=by
 by_cases e:a=b
 .subst e;simp
 .have h:¬(Sum.inr a:pD)=Sum.inr b:=λq=>e (Sum.inr.inj q);rw[aB h,aB e]
def Sg a b:decide ((Sum.inl a:pD)=Sum.inr b)=false:=aB (λq=>nomatch q)
def QY a b:decide ((Sum.inr a:pD)=Sum.inl b)=false:=aB (λq=>nomatch q)
noncomputable def l9(prog:Program)(w:World):PySem.KeyKind prog w pD where
 is:=yQ
 hash:=UQ w
 inj:=λv a b g f=>by
  rcases jT g with⟨i,t,rfl,rfl⟩|⟨x,t,rfl,rfl⟩
  .rcases jT f with⟨j,u,rfl,e⟩|⟨y,u,rfl,e⟩
   .injection e with c _;rw[c]
   .exact nomatch e
  .rcases jT f with⟨j,u,rfl,e⟩|⟨y,u,rfl,e⟩
   .exact nomatch e
   .injection e with c _;rw[c]
 byValue:=λk v h=>by rcases jT h with⟨i,t,rfl,rfl⟩|⟨x,t,rfl,rfl⟩<;>rfl
 pyHash:=λd h=>by
  rcases jT d with⟨i,t,rfl,rfl⟩|⟨x,t,rfl,rfl⟩
  .exact wpAny_pyHash_int h
  .exact wpAny_pyHash_str h
 eqBool:=λl d h=>by
  rcases jT l with⟨i,t,rfl,rfl⟩|⟨x,t,rfl,rfl⟩
  .rcases jT d with⟨j,u,rfl,rfl⟩|⟨y,u,rfl,rfl⟩
   .rw[Ru]at h;exact wpAny_eqBool_int h
   .rw[Sg]at h;exact SeqAt.EqAt.int_str i t y u _ _ _ _ h
  .rcases jT d with⟨j,u,rfl,rfl⟩|⟨y,u,rfl,rfl⟩
   .rw[QY]at h;exact SeqAt.EqAt.str_int x t j u _ _ _ _ h
   .rw[Su]at h;exact wpAny_eqBool_str h
 «strs»:=λk x t v h=>by
  rcases jT h with⟨i,u,rfl,e⟩|⟨y,u,rfl,e⟩
  .exact nomatch e
  .injection e with c _;subst c;cases v<;>rfl
def Co prog w i t:(l9 prog w).is (.inl i) (.int i t)=true:=HI i t
def Dc prog w x t:(l9 prog w).is (.inr x) (.str x t)=true:=GY x t
end L2
namespace L2
open PySem PySem.Spec PyProof.Rows
inductive V where
 |non|bl (b:Bool)|int (i:Int)|str (x:Str)|byt (b:Array UInt8)|flt (b:UInt64)|ref (a:Addr)|ty (n:String)
 deriving DecidableEq
def i9:V->Value->Prop
 |.non,u=>u=Value.none
 |.bl b,u=>u=Value.bool b
 |.int i,u=>∃t,u=Value.int i t
 |.str x,u=>∃t,u=Value.str x t
 |.byt b,u=>∃t,u=Value.bytes b t
 |.flt b,u=>∃t,u=Value.float b t
 |.ref a,u=>u=Value.ref a
 |.ty n,u=>u=Value.type n
abbrev iO:List V->List Value->Prop:=Paired i9
def iO.length(r:iO xs us):xs.length=us.length:=Paired.length r
theorem iO.get:∀{xs:List V} {us:List Value} {i:Nat} {x:V},iO xs us->xs[i]? = some x->∃u,us[i]? = some u/\i9 x u
 |_,_,_,_,.nil,e=>by simp at e
 |_,_,0,_,.cons r _,e=>by simp at e;subst e;exact⟨_,rfl,r⟩
 |_,_,i+1,x,.cons _ t,e=>by obtain⟨u,a,b⟩:=iO.get t (by simpa using e);exact⟨u,by simpa using a,b⟩
theorem iO.set(r:i9 x u):∀{xs} {us} i,iO xs us->iO (xs.set i x) (us.set i u)
 |_,_,_,.nil=>.nil
 |_,_,0,.cons _ t=>.cons r t
 |_,_,i+1,.cons q t=>.cons q (iO.set r i t)
theorem iO.append:∀{xs ys} {us ws},iO xs us->iO ys ws->iO (xs++ys) (us++ws)
 |_,_,_,_,.nil,s=>s
 |_,_,_,_,.cons r t,s=>.cons r (iO.append t s)
theorem iO.take:∀{xs} {us} n,iO xs us->iO (xs.take n) (us.take n)
 |_,_,0,_=>.nil
 |_,_,_+1,.nil=>.nil
 |_,_,n+1,.cons r t=>.cons r (iO.take n t)
theorem iO.drop:∀{xs} {us} n,iO xs us->iO (xs.drop n) (us.drop n)
 |_,_,0,r=>r
 |_,_,_+1,.nil=>.nil
 |_,_,n+1,.cons _ t=>iO.drop n t
def Bv:Option V->Option Value->Prop
 |some v,some u=>i9 v u
 |none,none=>True
 |_,_=>False
def KV{a:Type}:List (a×V)->List (a×Value)->Prop:=Paired λ(p:a×V) (q:a×Value)=>p.1=q.1/\i9 p.2 q.2
def kV:pD->V
 |.inl i=>.int i
 |.inr x=>.str x
inductive HO where
 |lst (xs:List V)
 |tup (xs:List V)
 |dK (kvs:List (pD×V))|dT (kvs:List (List pD×V))
 |set (S:Int->Bool) (n:Nat)
 |ins (C dx:Addr) (fs:List (Str×V))
 |own (x:Addr)
 |xd (fs:List (Str×V))
 |met (f x:Addr)
 |rng (lo hi:Int)
 |frz (o:Obj) (u:HO)
 |tbl (q:Str) (ps:Array Value)
 |ext (φ:Heap->Prop)
abbrev Hp:=Addr->Option HO
noncomputable def ja(H:Hp)(a:Addr)(o:HO):Hp:=λb=>if b=a then some o else H b
def hC:ja H a o a=some o:=by unfold ja;rw[aR rfl]
def hU(h:b≠a):ja H a o b=H b:=by unfold ja;rw[aS h]
def iC{H:Hp}(h:H a=some o)(h':H b=none):a≠b:=by intro e;subst e;rw[h]at h';cases h'
section
variable (P:Program)(w:World)
def wK(h:Heap)(a:Addr)(items:Array Value):Prop:=∃o,h.get? a=some o/\o.cls=.type "tuple" /\∃n,o.data=.seq items n/\o.dict=none
def wK.tup(x:wK h a items):IsTup h a items:=let ⟨o,e,c,n,d,_⟩:=x;⟨o,e,c,n,d⟩
def wK.new(h:Heap) items:wK (h.push {cls:=.type "tuple",data:=.seq items}) h.objs.size items:=⟨_,ar _ rfl,rfl,_,rfl,rfl⟩
def l5:List Value->List Value
 |_::_::c::r=>c::l5 r
 |_=>[]
def jL(H:Hp)(h:Heap)(a:Addr):HO->Prop
 |.lst xs=>xs.length<=sizeLine/\∃(its:List Value) (n:Nat),iO xs its/\h.get? a=some {cls:=.type "list",data:=.seq its.toArray n}
 |.tup xs=>xs.length<=sizeLine/\∃its:List Value,iO xs its/\wK h a its.toArray
 |.dK kvs=>kvs.length<=sizeLine/\(a==sysModules)=false/\∃vs,KV kvs vs/\h.DictOf (l9 P w) a vs
 |.dT kvs=>kvs.length<=sizeLine/\(a==sysModules)=false/\∃xs:List (List pD×Addr×Value),
   Paired (λ(p:List pD×V) (q:List pD×Addr×Value)=>p.1=q.1/\H q.2.1=some (.tup (p.1.map kV))/\i9 p.2 q.2.2) kvs xs/\
   ∃o g i,h.get? a=some o/\o.ExactDict/\o.data=.dict g i/\g.toList=xs.map (entryOfKey (tupleKind (l9 P w)))/\(xs.map (·.1)).Nodup
 |.set S n=>h.SetOf (intKind P w) a S n
 |.ins C dx fs=>H dx=some (.own a)/\fs.length<=1000/\dx≠a/\h.get? a=some (W.instObj C dx)/\
   ∃c,h.Ns1 dx c/\(∀f,Bv (fs.lookup f) (c f))/\PySem.Within c (fs.map (·.1))
 |.own _=>∃o,h.get? a=some o
 |.xd fs=>∃c,h.Ns1 a c/\∀f,Bv (fs.lookup f) (c f)
 |.rng lo hi=>∃t u v,h.get? a=some {cls:=.type "range",data:=.fields #[.int lo t,.int hi u,.int 1 v]}
 |.frz o u=>h.get? a=some o/\jL H h a u
 |.tbl q ps=>h.get? a=some {cls:=.none,data:=.fields ps}/\TriplesOk ps.toList/\∀v∈l5 ps.toList,∃b,v=.ref b/\H b=some (.own a)/\h.CodeRec (.ref b) q
 |.met f x=>h.get? a=some (W.methodObj (.ref f) (.ref x))
 |.ext φ=>φ h/\(∃o,h.get? a=some o)/\∀d e:Heap,φ d->(∀o,d.get? a=some o->e.get? a=some o)->φ e
def qZ(H:Hp)(h:Heap):Prop:=∀a o,H a=some o->jL P w H h a o
end
section
variable {P:Program}{w:World}{H H':Hp}{h h':Heap}{a:Addr}{o:HO}
def jL.lt(x:jL P w H h a o):a<h.objs.size:=by
 cases o with
 |lst xs=>obtain⟨_,_,_,_,e⟩:=x;exact aM e
 |tup xs=>obtain⟨_,_,_,p⟩:=x;exact (wK.tup p).lt
 |dK kvs=>obtain⟨_,_,_,_,o,_,_,e,_⟩:=x;exact aM e
 |dT kvs=>obtain⟨_,_,_,_,o,_,_,e,_⟩:=x;exact aM e
 |set S n=>obtain⟨o,_,_,_,e,_⟩:=x;exact aM e
 |ins C dx fs=>obtain⟨_,_,_,e,_⟩:=x;exact aM e
 |own y=>obtain⟨_,e⟩:=x;exact aM e
 |xd fs=>obtain⟨_,⟨_,_,_,e,_⟩,_⟩:=x;exact aM e
 |rng lo hi=>obtain⟨_,_,_,e⟩:=x;exact aM e
 |frz ob u=>obtain⟨e,_⟩:=x;exact aM e
 |tbl q ps=>exact aM x.1
 |met f y=>exact aM (x)
 |ext φ=>obtain⟨_,⟨_,e⟩,_⟩:=x;exact aM e
theorem Paired.mapP{F G:α->β->Prop}:∀{l₁} {l₂},Paired F l₁ l₂->(∀a b,F a b->G a b)->Paired G l₁ l₂
 |_,_,.nil,_=>.nil
 |_,_,.cons r t,f=>.cons (f _ _ r) (Paired.mapP t f)
def Paired.imp'{F G:α->β->Prop}(f:∀a b,F a b->G a b){c:List α}{l₂:List β}(r:Paired F c l₂):Paired G c l₂:=Paired.mapP r f
theorem jL.stay(x:jL P w H h a o)(k:∀b u,(b=a\/H b=some (.own a))->h.get? b=some u->h'.get? b=some u)
  (E:∀b,H b=some (.own a)->H' b=some (.own a)) (J:∀b xs,H b=some (.tup xs)->H' b=some (.tup xs)):jL P w H' h' a o:=by
 induction o with
 |lst xs=>obtain⟨z,l,n,r,e⟩:=x;exact⟨z,l,n,r,k _ _ (.inl rfl) e⟩
 |tup xs=>obtain⟨z,l,r,g,e,c⟩:=x;exact⟨z,l,r,g,k _ _ (.inl rfl) e,c⟩
 |dK kvs=>obtain⟨z,y,m,r,g,j,i,e,c⟩:=x;exact⟨z,y,m,r,g,j,i,k _ _ (.inl rfl) e,c⟩
 |dT kvs=>obtain⟨z,y,xs,r,g,j,i,e,c⟩:=x;exact⟨z,y,xs,Paired.mapP r λp q z=>⟨z.1,J _ _ z.2.1,z.2.2⟩,g,j,i,k _ _ (.inl rfl) e,c⟩
 |set S n=>obtain⟨g,j,i,t,e,c⟩:=x;exact⟨g,j,i,t,k _ _ (.inl rfl) e,c⟩
 |ins C dx fs=>obtain⟨d,z,ne,e,A,⟨s,j,i,B,c⟩,r⟩:=x;exact⟨E _ d,z,ne,k _ _ (.inl rfl) e,A,⟨s,j,i,k _ _ (.inr d) B,c⟩,r⟩
 |own y=>obtain⟨g,e⟩:=x;exact⟨g,k _ _ (.inl rfl) e⟩
 |xd fs=>obtain⟨A,⟨s,j,i,e,c⟩,r⟩:=x;exact⟨A,⟨s,j,i,k _ _ (.inl rfl) e,c⟩,r⟩
 |rng lo hi=>obtain⟨t,u,v,e⟩:=x;exact⟨t,u,v,k _ _ (.inl rfl) e⟩
 |frz g u ih=>obtain⟨e,q⟩:=x;exact⟨k _ _ (.inl rfl) e,ih q⟩
 |tbl q ps=>obtain⟨e,t,L⟩:=x;refine⟨k a _ (.inl rfl) e,t,λv R=>?_⟩;obtain⟨b,N,D,c,o,m,K,Q,B,I⟩:=L v R;cases Q;exact⟨_,N,E _ D,_,o,m,K,rfl,k _ _ (.inr D) B,I⟩
 |met f y=>have e:=x;exact k a _ (.inl rfl) e
 |ext φ=>obtain⟨p,⟨o,e⟩,F⟩:=x;exact⟨F _ _ p λo q=>k _ _ (.inl rfl) q,⟨o,k _ _ (.inl rfl) e⟩,F⟩
def qZ.lt(x:qZ P w H h)(e:H a=some o):a<h.objs.size:=(x a o e).lt
def qZ.fresh(x:qZ P w H h)(e:h.objs.size<=a):H a=none:=by
 cases q:H a with
 |none=>rfl
 |some u=>exact absurd (aF (x.lt q) e) (bg _)
def qZ.kept(x:qZ P w H h)(k:∀b u,h.get? b=some u->h'.get? b=some u):qZ P w H h':=λa o e=>(x a o e).stay (λb u _ q=>k b u q) (λ_ q=>q) λ_ _ q=>q
def qZ.laid(x:qZ P w H h)(k:∀b u,h.get? b=some u->h'.get? b=some u)(g:h.objs.size<=a)(new:jL P w (ja H a o) h' a o):qZ P w (ja H a o) h':=λb u e=>by
 have f:=x.fresh g;by_cases d:b=a
 .subst d;rw[hC]at e;cases e;exact new
 .rw[hU d]at e;exact (x b u e).stay (λc v _ q=>k c v q) (λc q=>by rw[hU (iC q f)];exact q) λc i q=>by rw[hU (iC q f)];exact q
end
def Rd(H:Hp)(a:Addr)(u:HO):Prop:=H a=some u\/∃o,H a=some (.frz o u)
def Rd.ok(r:Rd H a u)(x:qZ P w H h):jL P w H h a u:=by
 rcases r with r|⟨o,r⟩
 .exact x a u r
 .obtain⟨_,q⟩:=x a _ r;exact q
def Tj:Option HO->Prop
 |some (.lst _)=>True
 |some (.dK _)=>True
 |some (.dT _)=>True
 |some (.set _ _)=>True
 |some (.ins _ _ _)=>True
 |some (.ext _)=>True
 |_=>False
section
variable {P:Program}{w:World}{H:Hp}{h h':Heap}{x e:Addr}{o':HO}
def qZ.write(ok:qZ P w H h)(l:Tj (H x))(n:e=x\/H e=some (.own x))(k:∀b u,b≠e->h.get? b=some u->h'.get? b=some u)(m:∃u,h'.get? e=some u)
  (new:jL P w (ja H x o') h' x o'):qZ P w (ja H x o') h':=λb u q=>by
 have d:∀c y,H c=some (.own y)->c≠x:=λc y r z=>by subst z;rw[r]at l;exact l
 have f:∀c g,H c=some (.tup g)->c≠x:=λc g r z=>by subst z;rw[r]at l;exact l
 by_cases i:b=x
 .subst i;rw[hC]at q;cases q;exact new
 .rw[hU i]at q;by_cases a:b=e
  .have o:H b=some (.own x):=by
    rcases n with z|z
    .exact absurd (a.trans z) i
    .rw[a];exact z
   rw[q]at o;cases o;obtain⟨v,p⟩:=m;exact⟨v,by rw[a];exact p⟩
  .refine (ok b u q).stay (λc v j r=>k c v ?_ r) (λc r=>by rw[hU (d c b r)];exact r) λc g r=>by rw[hU (f c g r)];exact r
   rcases j with rfl|j
   .exact a
   .rintro rfl;rcases n with z|z
    .exact d c b j z
    .rw[j]at z;cases z;exact i rfl
end
structure Un(fs ex:List Addr)(H H':Hp)(h h':Heap):Prop where
 keep:∀b o,h.get? b=some o->H b=none->b∉fs->b∉ex->h'.get? b=some o
 slot:∀b o,h.get? b=some o->H b=none->b∈fs->b∉ex->∃sl,h'.get? b=some {o with slots:=sl}
 free:∀b o,h.get? b=some o->H b=none->b∉ex->H' b=none
 there:∀b o,h.get? b=some o->b∉ex->∃o',h'.get? b=some o'
 tups:∀b xs,H b=some (.tup xs)->H' b=some (.tup xs)
 frzs:∀b o u,H b=some (.frz o u)->H' b=some (.frz o u)
 tbls:∀b q ps,H b=some (.tbl q ps)->∃more,H' b=some (.tbl q (ps++more))
section
variable {fs fs' ex ex':List Addr}{H H1 H2:Hp}{h h1 h2 h':Heap}{a x e:Addr}{o:HO}
def Un.any(u:Un fs ex H H1 h h1)(q:h.get? b=some ob)(n:H b=none)(d:b∉ex):∃f,h1.get? b=some {ob with slots:=f}:=by
 by_cases c:b∈fs
 .exact u.slot b ob q n c d
 .exact⟨ob.slots,u.keep b ob q n c d⟩
def Un.kept(k:∀b u,h.get? b=some u->h'.get? b=some u):Un fs ex H H h h':=⟨λb c q _ _ _=>k b c q,λb c q _ _ _=>⟨c.slots,k b c q⟩,λ_ _ _ n _=>n,λb c q _=>⟨c,k b c q⟩,λ_ _ q=>q,λ_ _ _ q=>q,λ_ _ d q=>⟨#[],by rw[q];simp⟩⟩
def Un.refl:Un fs ex H H h h:=Un.kept λ_ _ q=>q
def Un.laid(k:∀b u,h.get? b=some u->h'.get? b=some u)(f:h.objs.size<=a)(c:H a=none):Un fs ex H (ja H a o) h h' where
 keep:=λb u q _ _ _=>k b u q
 slot:=λb u q _ _ _=>⟨u.slots,k b u q⟩
 free:=λb u q n _=>by rw[hU (aN (aF (aM q) f))];exact n
 there:=λb u q _=>⟨u,k b u q⟩
 tups:=λb d q=>by rw[hU (iC q c)];exact q
 frzs:=λb u d q=>by rw[hU (iC q c)];exact q
 tbls:=λb _ g q=>⟨#[],by rw[hU (iC q c),q];simp⟩
def Un.write(d:Tj (H x))(p:e=x\/H e=some (.own x))(k:∀b u,b≠e->h.get? b=some u->h'.get? b=some u)(f:∃u,h'.get? e=some u):Un fs ex H (ja H x o) h h':=by
 have j:∀b,H b=none->b≠x:=λb n z=>by subst z;rw[n]at d;exact d
 have i:∀b,H b=none->b≠e:=λb n z=>by
  subst z;rcases p with r|r
  .exact j b n r
  .rw[n]at r;cases r
 have g:∀b u,H b=some u->¬Tj (some u)->b≠x:=λb u q m z=>by subst z;rw[q]at d;exact m d
 refine⟨λb u q n _ _=>k b u (i b n) q,λb u q n _ _=>⟨u.slots,k b u (i b n) q⟩,λb u q n _=>by rw[hU (j b n)];exact n,λb u q _=>?_,
  λb l q=>by rw[hU (g b _ q λz=>z)];exact q,λb u l q=>by rw[hU (g b _ q λz=>z)];exact q,λb _ s q=>⟨#[],by rw[hU (g b _ q λz=>z),q];simp⟩⟩
 by_cases c:b=e
 .subst c;exact f
 .exact⟨u,k b u c q⟩
end
noncomputable def Uw(h:Heap)(H:Hp):List Addr:=(List.range h.objs.size).filter λa=>(H a).isSome
def KB(h:Heap)(H:Hp):Heap:=W.hideAll h (Uw h H)
def Hz h H:(KB h H).objs.size=h.objs.size:=W.hideAll_size _ _
def IF(e:h.get? b=some o)(n:H b=none):(KB h H).get? b=some o:=W.hideAll_get _ e λa=>by have q:=(aV.mp a).2;rw[n]at q;simp at q
def MW(e:(KB h H).get? b=some o):h.get? b=some o/\H b=none:=by
 have a:=W.of_hideAll (Uw h H) e;refine⟨a,?_⟩;cases q:H b with
 |none=>rfl
 |some x=>have c:b∈Uw h H:=aV.mpr ⟨aT.mpr (aM a),by simp[q]⟩;have z:(KB h H).get? b=none:=W.hideAll_none (Uw h H) c;rw[z]at e;cases e
end L2
namespace L2
open PySem PySem.Spec PyProof.Rows
structure Mod(K:W.Frag)(mg:Str->Option Value)(base:Heap):Prop where
 kin:K.In base
 glob:base.Ns mainGlobals mg
 blt:∃mb,base.Ns builtinsNs mb/\∀x:Str,x≠ "__name__" ->mb x=bootBuiltins x
 nolimit:base.NoLimit
def Fs(a:Heap)(H:Hp):Prop:=∀c P b,(c,P)∈a.life.ids->a.CodeRec (.ref c) b->∃d,H P=some (.tbl (b++ ".<locals>.<lambda>") d)
structure Cx where
 prog:Program
 w:World
 K:W.Frag
 mg:Str->Option Value
 base:Heap
 A:Around
 N:List Str
 s₀:Shared
 H₀:Hp
 env:Env
 outer:List Env
 stack:List Env
 ex:List Addr
 fn:Str->Bool
 calm:Bool
 pn:List (Addr×Obj)
 xe:Value->Shared->Prop
noncomputable def Gq(l:List Env):List Addr:=l.filterMap (·.frame)
abbrev Cx.fs(X:Cx):List Addr:=Gq X.outer
def SN(a:Scope)(x:Str):Prop:=a.names.lookup x=some .local\/a.names.lookup x=some .cell\/a.names.lookup x=some .free
def HN(a:Scope)(x:Str):Prop:=a.names.lookup x=some .local\/a.names.lookup x=some .cell
def Ve(a:Env)(h:Heap)(m:Str->Option Value)(x:Str)(u:Value):Prop:=(a.kindOf x=some .local/\m x=some u)\/((a.kindOf x=some .cell\/a.kindOf x=some .free)/\∃c,a.cells.lookup x=some c/\h.IsCell c (some u))
structure Cx.Ok(X:Cx):Prop where
 mod:Mod X.K X.mg X.base
 kind:X.env.scope.kind=.function
 glob:X.env.globals=mainGlobals
 blt:X.env.builtins=builtinsNs
 above:X.s₀.heap.objs.size<=X.env.locals
 inj:∀x y c,X.env.cells.lookup x=some c->X.env.cells.lookup y=some c->x=y
 has:∀x,(X.env.kindOf x=some .cell\/X.env.kindOf x=some .free)->∃c,X.env.cells.lookup x=some c
 cab:∀x c,X.fn x=true->X.env.cells.lookup x=some c->X.s₀.heap.objs.size<=c
 hd:X.calm=true->X.A.handled=none
 frames:X.A.frames=some X.stack
 stk:X.stack=X.outer\/(X.stack=X.env::X.outer/\X.env.frame=some X.env.locals)
 exf:∀b∈X.ex,b≠X.env.locals/\∀x c,X.env.cells.lookup x=some c->c≠b
 bs:∀b o,X.base.get? b=some o->X.s₀.heap.get? b=some o/\X.H₀ b=none
 bsz:X.base.objs.size<=X.s₀.heap.objs.size
 noex:∀b o,X.base.get? b=some o->b∉X.ex
 exfs:∀b∈X.ex,b∉X.fs
 funs:X.s₀.heap.FunFrames X.base X.outer
 frf:∀b∈X.fs,X.H₀ b=none
 tab:Fs X.base X.H₀
structure iz(X:Cx)(gU:List (Addr×Obj))(σ:List (Option V))(H:Hp)(s:Shared):Prop where
 ok:X.Ok
 os:s.os=X.s₀.os
 bare:AllBare s.gens
 base:Un X.fs X.ex X.H₀ H X.s₀.heap s.heap
 loc:∃m,s.heap.Ns X.env.locals m/\∀(i:Nat) (x:Str) (v:V),X.N[i]? = some x->σ[i]? = some (some v)->SN X.env.scope x->∃u,i9 v u/\Ve X.env s.heap m x u
 cell:∀x c,X.env.cells.lookup x=some c->∃v,s.heap.IsCell c v
 free:H X.env.locals=none
 freeC:∀x c,X.env.cells.lookup x=some c->H c=none
 pin:∀p∈X.pn++gU,s.heap.get? p.1=some p.2/\H p.1=none/\p.1≠X.env.locals/\p.1∉X.fs/\∀v,p.2.data≠.cell v
 hok:qZ X.prog X.w H s.heap
 len:σ.length=X.N.length
section
variable {X:Cx}{gU:List (Addr×Obj)}{σ:List (Option V)}{H H':Hp}{s:Shared}{h':Heap}
def Cx.Ok.nofr(ok:X.Ok)(e:X.base.get? b=some o):b∉X.fs:=λa=>by have:=(ok.funs.mem a).1;rw[e]at this;cases this
def iz.bs(I:iz X gU σ H s):∀b o,X.base.get? b=some o->s.heap.get? b=some o/\H b=none:=λb o e=>⟨I.base.keep b o (I.ok.bs b o e).1 (I.ok.bs b o e).2 (I.ok.nofr e) (I.ok.noex b o e),I.base.free b o (I.ok.bs b o e).1 (I.ok.bs b o e).2 (I.ok.noex b o e)⟩
def iz.tab(I:iz X gU σ H s):Fs X.base H:=λc P d a b=>let ⟨ps,e⟩:=I.ok.tab c P d a b;let ⟨more,q⟩:=I.base.tbls _ _ ps e;⟨ps++more,q⟩
def iz.bk(I:iz X gU σ H s):∀b o,X.base.get? b=some o->s.heap.get? b=some o:=λb o e=>(I.bs b o e).1
def iz.mod(I:iz X gU σ H s):Mod X.K X.mg X.base:=I.ok.mod
def iz.kIn(I:iz X gU σ H s):X.K.In s.heap:=I.ok.mod.kin.keeps I.bk
def iz.lt(I:iz X gU σ H s):X.env.locals<s.heap.objs.size:=let ⟨_,hn,_⟩:=I.loc;hn.lt
def iz.sz(I:iz X gU σ H s):X.s₀.heap.objs.size<=s.heap.objs.size:=aO I.ok.above (bj I.lt)
def iz.nofs(I:iz X gU σ H s)(h:s.heap.objs.size<=a):a∉X.fs:=λb=>by obtain⟨_,o,c,_⟩:=I.ok.funs.mem b;exact absurd (aF (aM c) (aO I.sz h)) (bg _)
def iz.cne(I:iz X gU σ H s):∀x c,X.env.cells.lookup x=some c->c≠X.env.locals:=λx c e z=>by obtain⟨v,o,d,f⟩:=I.cell x c e;obtain⟨m,⟨i,h,g,b,a,_⟩,_⟩:=I.loc;rw[z,b]at d;cases d;rw[a]at f;cases f
def iz.funs(I:iz X gU σ H s):s.heap.FunFrames X.base X.outer:=by
 have all:∀(l:List Env),(∀b∈Gq l,b∈X.fs)->X.s₀.heap.FunFrames X.base l->s.heap.FunFrames X.base l:=by
  intro l;induction l with
  |nil=>intro _ _;trivial
  |cons env r ih=>intro f h;obtain⟨k,⟨L,o,c,g,i,j⟩,hr⟩:=h;have d:=f L (by unfold Gq;rw[br,c];exact bu);obtain⟨m,e⟩:=I.base.slot L o i (I.ok.frf L d) d λz=>I.ok.exfs L z d;exact⟨k,⟨L,_,c,g,e,j⟩,ih (λb a=>f b (by unfold Gq;rw[br,c];exact bx _ a)) hr⟩
 exact all X.outer (λ_ a=>a) I.ok.funs
def iz.stack(I:iz X gU σ H s):s.heap.FunFrames X.base X.stack:=by
 rcases I.ok.stk with e|⟨e,b⟩
 .rw[e];exact I.funs
 .rw[e];obtain⟨m,a,_⟩:=I.loc;refine .cons (by rw[I.ok.kind];decide) b a ?_ I.funs;exact Heap.get?_none_of_le (aO I.ok.bsz I.ok.above)
def iz.stkSub(I:iz X gU σ H s):∀b∈Gq X.stack,b∈X.env.locals::X.fs:=λb a=>by
 rcases I.ok.stk with e|⟨e,c⟩
 .rw[e]at a;exact bx _ a
 .rw[e]at a;unfold Gq at a;rw[br,c]at a;exact a
def iz.stkFree(I:iz X gU σ H s):∀b∈Gq X.stack,H b=none:=λb a=>by
 rcases aG.mp (I.stkSub b a) with e|a
 .rw[e];exact I.free
 .obtain⟨_,o,c,_⟩:=I.ok.funs.mem a;exact I.base.free b o c (I.ok.frf b a) λz=>I.ok.exfs b z a
def iz.step{ch:List Addr}(I:iz X gU σ H s)
  (h:∀b∈ch,(b∈X.ex\/X.s₀.heap.objs.size<=b)/\b≠X.env.locals/\(∀x c,X.env.cells.lookup x=some c->c≠b)/\∀p∈X.pn++gU,p.1≠b)
  (f:∀b o,b≠X.env.locals->b∉X.fs->b∉ch->s.heap.get? b=some o->H b=none->h'.get? b=some o)
  (A:∀b o,b≠X.env.locals->b∈X.fs->b∉ch->s.heap.get? b=some o->H b=none->∃R,h'.get? b=some {o with slots:=R}) (free:∀b o,b∉ch->s.heap.get? b=some o->H b=none->H' b=none)
  (C:∀b o,b∉ch->s.heap.get? b=some o->∃K,h'.get? b=some K)
  (F:∀b xs,H b=some (.tup xs)->H' b=some (.tup xs)) (N:∀b o u,H b=some (.frz o u)->H' b=some (.frz o u)) (J:∀b q Q,H b=some (.tbl q Q)->∃E,H' b=some (.tbl q (Q++E)))
  (ns:∀m,s.heap.Ns X.env.locals m->h'.Ns X.env.locals m) (Y:qZ X.prog X.w H' h') (hg:AllBare g') :
  iz X gU σ H' {s with heap:=h',gens:=g',drawn:=d',toks:=t'}:=by
 have P:∀b o,X.s₀.heap.get? b=some o->b≠X.env.locals:=λb o e=>aN (aF (aM e) I.ok.above);have t:∀b o,X.s₀.heap.get? b=some o->b∉X.ex->b∉ch:=λb o e a B=>by
  rcases (h b B).1 with z|z
  .exact a z
  .exact absurd (aF (aM e) z) (bg _)
 have g:∀x c,X.env.cells.lookup x=some c->∀v,s.heap.IsCell c v->h'.IsCell c v:=λx c e v ⟨o,D,U⟩=>by
  have j:c∉ch:=λz=>(h c z).2.2.1 x c e rfl;by_cases hc:c∈X.fs
  .obtain⟨R,q⟩:=A c o (I.cne x c e) hc j D (I.freeC x c e);exact⟨_,q,U⟩
  .exact⟨o,f c o (I.cne x c e) hc j D (I.freeC x c e),U⟩
 refine⟨I.ok,I.os,hg,⟨λb o e n B a=>?_,λb o e n B a=>?_,λb o e n a=>?_,λb o e a=>?_,λb xs e=>F b xs (I.base.tups b xs e),λb o xs e=>N b o xs (I.base.frzs b o xs e),λb _ Q e=>?_⟩,?_,λx c e=>?_,?_,λx c e=>?_,λp Z=>?_,Y,I.len⟩
 .exact f b o (P b o e) B (t b o e a) (I.base.keep b o e n B a) (I.base.free b o e n a)
 .obtain⟨R,y⟩:=I.base.slot b o e n B a;obtain⟨S,L⟩:=A b _ (P b o e) B (t b o e a) y (I.base.free b o e n a);exact⟨S,L⟩
 .obtain⟨K,y⟩:=I.base.there b o e a;exact free b K (t b o e a) y (I.base.free b o e n a)
 .obtain⟨K,y⟩:=I.base.there b o e a;exact C b K (t b o e a) y
 .obtain⟨m1,y⟩:=I.base.tbls b _ Q e;obtain⟨m2,L⟩:=J b _ _ y;exact⟨m1++m2,by rw[L,bz]⟩
 .obtain⟨m,hn,hl⟩:=I.loc;refine⟨m,ns m hn,λi x v y L e3=>?_⟩;obtain⟨u,r,l⟩:=hl i x v y L e3;refine⟨u,r,?_⟩;rcases l with l|⟨k,c,e,z⟩
  .exact .inl l
  .exact .inr ⟨k,c,e,g x c e _ z⟩
 .obtain⟨v,z⟩:=I.cell x c e;exact⟨v,g x c e v z⟩
 .obtain⟨m,⟨o,_,_,D,_⟩,_⟩:=I.loc;exact free _ o (λz=>(h _ z).2.1 rfl) D I.free
 .obtain⟨v,o,D,U⟩:=I.cell x c e;exact free c o (λz=>(h c z).2.2.1 x c e rfl) D (I.freeC x c e)
 .obtain⟨e,n,ne,nf,d⟩:=I.pin p Z;have j:p.1∉ch:=λz=>(h p.1 z).2.2.2 p Z rfl;exact⟨f p.1 p.2 ne nf j e n,free p.1 p.2 j e n,ne,nf,d⟩
def iz.un(I:iz X gU σ H s)(u:Un X.fs [] H H' s.heap h')(g:qZ X.prog X.w H' h'):iz X gU σ H' {s with heap:=h',toks:=t'}:=by obtain⟨m,⟨o,v,p,h,r⟩,_⟩:=id I.loc;obtain⟨l,k⟩:=u.any h I.free (by simp);exact I.step (ch:=[]) (λ_ z=>nomatch z) (λb o _ c _ e n=>u.keep b o e n c (by simp)) (λb o _ c _ e n=>u.slot b o e n c (by simp)) (λb o _ e n=>u.free b o e n (by simp)) (λb o _ e=>u.there b o e (by simp)) u.tups u.frzs u.tbls (λq j=>by obtain⟨t,d,f,a,i⟩:=j;rw[h]at a;cases a;exact⟨_,d,f,k,i⟩) g I.bare
def iz.call(I:iz X gU σ H s)(u:Un (Gq X.stack) ch H H' s.heap h')(j:qZ X.prog X.w H' h')(v:AllBare g')
  (d:∀b∈ch,(b∈X.ex\/X.s₀.heap.objs.size<=b)/\b≠X.env.locals/\(∀x c,X.env.cells.lookup x=some c->c≠b)/\∀p∈X.pn++gU,p.1≠b) :
  iz X gU σ H' {s with heap:=h',gens:=g',drawn:=d',toks:=t'}:=by
 obtain⟨m,⟨o,D,A,k,r⟩,_⟩:=id I.loc;obtain⟨y,i⟩:=u.any k I.free λz=>(d _ z).2.1 rfl;exact I.step d (λb o i l a e n=>u.keep b o e n (λz=>(aG.mp (I.stkSub b z)).elim i l) a) (λb o _ _ a e n=>u.any e n a) (λb o a e n=>u.free b o e n a) (λb o a e=>u.there b o e a) u.tups u.frzs u.tbls (λB t=>by obtain⟨C,g,h,f,q⟩:=t;rw[k]at f;cases f;exact⟨_,g,h,i,q⟩) j v
def iz.turned(I:iz X gU σ H s)(k:∀b o,b≠it->s.heap.get? b=some o->h'.get? b=some o)(h:H it=none)(f:it≠X.env.locals)
  (j:it∈X.ex\/X.s₀.heap.objs.size<=it) (w:∀x c,X.env.cells.lookup x=some c->c≠it) (t:∀p∈X.pn++gU,p.1≠it):iz X gU σ H {s with heap:=h',toks:=t'}:=by
 have d:∀b u,H b=some u->b≠it:=λb u e z=>by rw[z,h]at e;cases e
 refine I.step (ch:=[it]) (λb g=>?_) (λb o _ _ a e _=>k b o (λz=>a (by simp[z])) e) (λb o _ _ a e _=>⟨o.slots,k b o (λz=>a (by simp[z])) e⟩) (λ_ _ _ _ n=>n)
  (λb o a e=>⟨o,k b o (λz=>a (by simp[z])) e⟩) (λ_ _ e=>e) (λ_ _ _ e=>e) (λb _ B e=>⟨#[],by rw[e];simp⟩) (λm y=>?_) (λb u e=>?_) I.bare
 .have e:b=it:=by simpa using g
  subst e;exact⟨j,f,w,t⟩
 .obtain⟨o,A,i,l,r⟩:=y;exact⟨o,A,i,k _ o (Ne.symm f) l,r⟩
 .refine (I.hok b u e).stay (λc v a q=>k c v ?_ q) (λ_ q=>q) λ_ _ q=>q;rcases a with z|z
  .rw[z];exact d b u e
  .exact d c _ z
def iz.tok(I:iz X gU σ H s) t:iz X gU σ H {s with toks:=t}:=I.un Un.refl I.hok
def iz.kept(I:iz X gU σ H s)(k:∀b u,s.heap.get? b=some u->h'.get? b=some u):iz X gU σ H {s with heap:=h',toks:=t'}:=I.un (Un.kept k) (I.hok.kept k)
def iz.laid(I:iz X gU σ H s)(k:∀b u,s.heap.get? b=some u->h'.get? b=some u)(c:s.heap.objs.size<=a)(new:jL X.prog X.w (ja H a o) h' a o) :
  iz X gU σ (ja H a o) {s with heap:=h',toks:=t'}:=I.un (Un.laid k c (I.hok.fresh c)) (I.hok.laid k c new)
def iz.write(I:iz X gU σ H s)(c:Tj (H x))(d:e=x\/H e=some (.own x))(k:∀b u,b≠e->s.heap.get? b=some u->h'.get? b=some u)(a:∃u,h'.get? e=some u)
  (new:jL X.prog X.w (ja H x o) h' x o):iz X gU σ (ja H x o) {s with heap:=h',toks:=t'}:=I.un (Un.write c d k a) (I.hok.write c d k a new)
def iz.weak(I:iz X gU σ H s)(c:σ'.length=σ.length)(w:∀(i:Nat) v,σ'[i]? = some (some v)->σ[i]? = some (some v)):iz X gU σ' H s:=⟨I.ok,I.os,I.bare,I.base,let ⟨m,hn,hl'⟩:=I.loc;⟨m,hn,λi x v d b a=>hl' i x v d (w i v b) a⟩,I.cell,I.free,I.freeC,I.pin,I.hok,c.trans I.len⟩
def iz.pins_of(I:iz X gU σ H s)(h:∀p∈pins',s.heap.get? p.1=some p.2/\H p.1=none/\p.1≠X.env.locals/\p.1∉X.fs/\∀v,p.2.data≠.cell v):iz X pins' σ H s:=⟨I.ok,I.os,I.bare,I.base,I.loc,I.cell,I.free,I.freeC,λp a=>(ai.mp a).elim (λz=>I.pin p (ay _ z)) (h p),I.hok,I.len⟩
def Cr{N:List Str}(d:N.Nodup){i j:Nat}(a:N[i]? = some x)(b:N[j]? = some x):i=j:=by obtain⟨f,e⟩:=aa.mp a;obtain⟨g,c⟩:=aa.mp b;exact (List.getElem_inj d).mp (e.trans c.symm)
def yM{M:Model}{A:Around}{E:Value->Shared->Prop}{i:Nat}{x:Str}{v:V}{u:Value}{Q:Unit->Shared->Prop}(I:iz X gU σ H s)(hN:X.N.Nodup)(Y:X.N[i]? = some x)(t:HN X.env.scope x)(r:i9 v u)
  (h:∀s',iz X gU (σ.set i (some v)) H s'->(∃a,Heap.SameBut a s.heap s'.heap/\(a=X.env.locals\/X.env.cells.lookup x=some a))->Q () s') (hf:X.fn x=true\/X.env.scope.names.lookup x=some .local:=by first|exact .inl rfl|exact .inr rfl|assumption):wpAny M A (storeName X.env x u) Q E s:=by
 obtain⟨m,hn,hl⟩:=id I.loc;have R:(X.env.scope.kind==.class||(X.env.scope.kind==.module&&X.env.locals != X.env.globals))=false:=by rw[I.ok.kind];rfl
 have D:i<σ.length:=by rw[I.len];exact (aa.mp Y).1
 have cne:=I.cne;have tracked:∀{a:Addr} {h':Heap},(∃o,s.heap.get? a=some o/\H a=none)->Heap.SameBut a s.heap h'->qZ X.prog X.w H h':=λ{a h'} ha f b ob e=>by
  obtain⟨_,_,B⟩:=ha;refine (I.hok b ob e).stay (λc w' l q=>(f.2 c ?_).trans q) (λ_ q=>q) λ_ _ q=>q;rintro rfl;rcases l with rfl|l
  .rw[B]at e;cases e
  .rw[B]at l;cases l
 rcases t with F|F
 .refine wpAny_storeName_local F hn (λh' hn' f=>?_) R;obtain⟨oL,_,_,hoL,_⟩:=id hn;refine h _ ⟨I.ok,I.os,I.bare,⟨λb o e n K t=>?_,λb o e n K t=>?_,I.base.free,λb o e t=>?_,I.base.tups,I.base.frzs,I.base.tbls⟩,⟨_,hn',λj y v' g C e3=>?_⟩,λy c e=>?_,I.free,I.freeC,λp hp=>?_,tracked ⟨oL,hoL,I.free⟩ f,by simpa using I.len⟩ ⟨_,f,.inl rfl⟩
  .exact (f.2 b (aN (aF (aM e) I.ok.above))).trans (I.base.keep b o e n K t)
  .obtain⟨sl,g⟩:=I.base.slot b o e n K t;exact⟨sl,(f.2 b (aN (aF (aM e) I.ok.above))).trans g⟩
  .obtain⟨o',g⟩:=I.base.there b o e t;exact⟨o',(f.2 b (aN (aF (aM e) I.ok.above))).trans g⟩
  .by_cases L:j=i
   .subst L;rw[Y]at g;cases g;rw[List.getElem?_set_self D]at C;cases C;exact⟨u,r,.inl ⟨F,by simp⟩⟩
   .rw[aq (Ne.symm L)]at C;obtain⟨u',r',q⟩:=hl j y v' g C e3;refine⟨u',r',?_⟩;rcases q with⟨k,e⟩|⟨k,c,e,z⟩
    .refine .inl ⟨k,?_⟩;have:y≠x:=λe=>L (Cr hN g (e▸Y));simp[this,e]
    .exact .inr ⟨k,c,e,z.sameBut f (cne y c e)⟩
  .obtain⟨w',z⟩:=I.cell y c e;exact⟨w',z.sameBut f (cne y c e)⟩
  .obtain⟨e,n,ne,nf,d⟩:=I.pin p hp;exact⟨(f.2 p.1 ne).trans e,n,ne,nf,d⟩
 .have J:X.fn x=true:=by
   rcases hf with z|z
   .exact z
   .rw[z]at F;cases F
  obtain⟨c,l⟩:=I.ok.has x (.inl F);obtain⟨w',z⟩:=I.cell x c l;refine wpAny_storeName_cell I.ok.kind F l z (λh' Z f=>?_);obtain⟨oc,S,U⟩:=id z;refine h {s with heap:=h'} ⟨I.ok,I.os,I.bare,⟨λb o e n K t=>?_,λb o e n K t=>?_,I.base.free,λb o e t=>?_,I.base.tups,I.base.frzs,I.base.tbls⟩,⟨m,hn.sameBut f (Ne.symm (cne x c l)),λj y v' g C e3=>?_⟩,λy c' e=>?_,I.free,I.freeC,λp hp=>?_,tracked ⟨oc,S,I.freeC x c l⟩ f,by simpa using I.len⟩ ⟨c,f,.inr l⟩
  .exact (f.2 b (aN (aF (aM e) (I.ok.cab x c J l)))).trans (I.base.keep b o e n K t)
  .obtain⟨sl,g⟩:=I.base.slot b o e n K t;exact⟨sl,(f.2 b (aN (aF (aM e) (I.ok.cab x c J l)))).trans g⟩
  .obtain⟨o',g⟩:=I.base.there b o e t;exact⟨o',(f.2 b (aN (aF (aM e) (I.ok.cab x c J l)))).trans g⟩
  .by_cases L:j=i
   .subst L;rw[Y]at g;cases g;rw[List.getElem?_set_self D]at C;cases C;exact⟨u,r,.inr ⟨.inl F,c,l,Z⟩⟩
   .rw[aq (Ne.symm L)]at C;obtain⟨u',r',q⟩:=hl j y v' g C e3;refine⟨u',r',?_⟩;rcases q with q|⟨k,c',e,z'⟩
    .exact .inl q
    .refine .inr ⟨k,c',e,z'.sameBut f ?_⟩;rintro rfl;exact L (Cr hN g (I.ok.inj _ _ _ e l▸Y))
  .by_cases P:c'=c
   .subst P;exact⟨_,Z⟩
   .obtain⟨w2,z2⟩:=I.cell y c' e;exact⟨w2,z2.sameBut f P⟩
  .obtain⟨e,n,ne,nf,d⟩:=I.pin p hp;refine⟨(f.2 p.1 ?_).trans e,n,ne,nf,d⟩;intro q;rw[q,S]at e;have q':=Option.some.inj e;exact d w' (by rw[<-q'];exact U)
def tw{M:Model}{A:Around}{E:Value->Shared->Prop}{i:Nat}{x:Str}{v:V}{u:Value}{Q:Unit->Shared->Prop}(I:iz X gU σ H s)(c:X.N.Nodup)(d:X.N[i]? = some x)(e:HN X.env.scope x)(r:i9 v u)
  (h:∀a,iz X gU (σ.set i (some v)) H a->Q () a) (f:X.fn x=true\/X.env.scope.names.lookup x=some .local:=by first|exact .inl rfl|exact .inr rfl|assumption):wpAny M A (storeName X.env x u) Q E s:=
 yM I c d e r (λa b _=>h a b) f
def iz.call'(I:iz X gU σ H s)(f:s'.os=s.os)(u:Un (Gq X.stack) ch H H' s.heap s'.heap)(d:qZ X.prog X.w H' s'.heap)(g:AllBare s'.gens)
  (a:∀b∈ch,(b∈X.ex\/X.s₀.heap.objs.size<=b)/\b≠X.env.locals/\(∀x c,X.env.cells.lookup x=some c->c≠b)/\∀p∈X.pn++gU,p.1≠b):iz X gU σ H' s':=by
 obtain⟨h',j,i,h,k⟩:=s';have e:=f;subst e;exact I.call u d g a
end
abbrev XK:=Value->Option Addr->Hp->Prop
abbrev St:=List (Option V)
abbrev VK:=V->Hp->Prop
abbrev TE:=St->Hp->VK->Prop
abbrev TT:=St->Hp->(Bool->Hp->Prop)->Prop
abbrev TA:=St->Hp->(List V->Hp->Prop)->Prop
structure sW where
 nx:St->Hp->Prop
 rt:VK
 bk:St->Hp->Prop:=λ_ _=>False
 ct:St->Hp->Prop:=λ_ _=>False
abbrev TS:=sW->St->Hp->Prop
def EP(X:Cx)(b:List (Addr×Obj))(c:St)(Q:VK)(u:Value)(d:Shared):Prop:=∃v a,iz X b c a d/\i9 v u/\Q v a
def TP(X:Cx)(c:List (Addr×Obj))(d:St)(Q:Bool->Hp->Prop)(b:Bool)(e:Shared):Prop:=∃a,iz X c d a e/\Q b a
def AP(X:Cx)(c:List (Addr×Obj))(d:St)(Q:List V->Hp->Prop)(us:List Value)(e:Shared):Prop:=∃a b,iz X c d b e/\iO a us/\Q a b
def SP(X:Cx)(c:List (Addr×Obj))(D:sW)(f:Flow)(d:Shared):Prop:=
 match f with
 |.next=>∃a b,iz X c a b d/\D.nx a b
 |.brk=>∃a b,iz X c a b d/\D.bk a b
 |.cont=>∃a b,iz X c a b d/\D.ct a b
 |.ret u=>∃v a b,iz X c a b d/\i9 v u/\D.rt v b
def PE(X:Cx)(e:Expr)(t:TE):Prop:=∀(b:List (Addr×Obj)) (s:Shared) (a:St) (H:Hp) (Q:VK),iz X b a H s->t a H Q->wpAny (model X.prog X.w) X.A (eval e X.env) (EP X b a Q) X.xe s
def PT(X:Cx)(e:Expr)(t:TT):Prop:=∀(b:List (Addr×Obj)) (s:Shared) (a:St) (H:Hp) (Q:Bool->Hp->Prop),iz X b a H s->t a H Q->wpAny (model X.prog X.w) X.A (isTrue e X.env (eval e X.env)) (TP X b a Q) X.xe s
def PW(X:Cx)(e:Expr)(t:TT):Prop:=∀(a:Sem Value) (c:List (Addr×Obj)) (s:Shared) (b:St) (H:Hp) (Q:Bool->Hp->Prop),iz X c b H s->t b H Q->wpAny (model X.prog X.w) X.A (isTrue e X.env a) (TP X c b Q) X.xe s
def PW.pt(h:PW X e t):PT X e t:=h _
def PA(X:Cx)(c:List Expr)(t:TA):Prop:=∀(pos:Pos) (b:List (Addr×Obj)) (s:Shared) (a:St) (H:Hp) (Q:List V->Hp->Prop),iz X b a H s->t a H Q->wpAny (model X.prog X.w) X.A (spliced (backTo pos (starEach c X.env))) (AP X b a Q) X.xe s
def PS(X:Cx)(st:Stmt)(t:TS):Prop:=∀(a:List (Addr×Obj)) (s:Shared) (b:St) (H:Hp) (D:sW),iz X a b H s->t D b H->wpAny (model X.prog X.w) X.A (exec st X.env) (SP X a D) X.xe s
def Bg(X:Cx)(st:List Stmt)(t:TS):Prop:=∀(a:List (Addr×Obj)) (s:Shared) (b:St) (H:Hp) (D:sW),iz X a b H s->t D b H->wpAny (model X.prog X.w) X.A (execs st X.env) (SP X a D) X.xe s
def kh{b:Type}{t:Sem b}{Q c:b->Shared->Prop}{M:Model}{A:Around}{E:Value->Shared->Prop}{s:Shared}(h:wpAny M A t Q E s)(d:∀a s,Q a s->c a s):wpAny M A t c E s:=wpAny_mono h d λ_ _ x=>x
end L2
namespace L2
open PySem PySem.Spec PyProof.Rows
section
variable {X:Cx}
def mv(i:Nat):TE:=λa H Q=>∃v,a[i]? = some (some v)/\Q v H
def tC(v:V):TE:=λ_ H Q=>Q v H
def v9(q:X.N[i]? = some x)(w:SN X.env.scope x)(f:(x==("__debug__" : Str))=false:=by decide)(g:(x==("__classdict__" : Str))=false:=by decide):PE X (.Name x pos) (mv i):=by
 intro t s o H Q I h;obtain⟨v,e,h⟩:=h;obtain⟨m,k,n⟩:=I.loc;obtain⟨u,r,l⟩:=n i x v q e w;have b:EP X t o Q u s:=⟨v,H,I,r,h⟩;rcases l with⟨d,p⟩|⟨d,c,j,a⟩
 .exact wpAny_Name (wpAny_loadName_local I.ok.kind d k p b) f
 .rcases d with d|d
  .exact wpAny_Name (wpAny_loadName_cell I.ok.kind d j a b) f
  .exact wpAny_Name (wpAny_loadName_free I.ok.kind d j a b g) f
def DD{i j pos}:PE X (.Constant (.int i) j pos) (tC (.int i)):=λ_ _ _ H _ I h=>wpAny_Constant_int ⟨.int i,H,I.tok _,⟨_,rfl⟩,h⟩
def Ii{b j pos}:PE X (.Constant (.bool b) j pos) (tC (.bl b)):=λ_ _ _ H _ I h=>Constant_bool ⟨.bl b,H,I,rfl,h⟩
def RG{j pos}:PE X (.Constant .none j pos) (tC .non):=λ_ _ _ H _ I h=>Constant_none ⟨.non,H,I,rfl,h⟩
def Gl(X:Cx)(x:Str):Prop:=X.env.kindOf x=some .globalImplicit
def Bc(I:iz X gU σ H s)(c:Gl X x)(b:X.mg x=some u)(h:Q u s)
  (a:(x==("__debug__" : Str))=false:=by decide):wpAny (model X.prog X.w) X.A (eval (.Name x pos) X.env) Q E s:=
 Calls.Name_function_global I.ok.kind c (Calls.loadGlobal_global (by rw[I.ok.glob];exact I.mod.glob.keeps I.bk) b h) a
def sC(I:iz X gU σ H s)(g:Gl X x)(f:X.mg x=none)(b:bootBuiltins x=some u)(h:Q u s)
  (c:x≠ "__name__" :=by decide) (e:(x==("__debug__" : Str))=false:=by decide):wpAny (model X.prog X.w) X.A (eval (.Name x pos) X.env) Q E s:=by
 obtain⟨i,a,d⟩:=I.mod.blt;exact Calls.Name_function_global I.ok.kind g (Calls.loadGlobal_builtin (by rw[I.ok.glob];exact I.mod.glob.keeps I.bk) f (by rw[I.ok.blt];exact a.keeps I.bk) ((d x c).trans b) h) e
def NB(c:Gl X x)(b:X.mg x=some u)(r:i9 v u)(a:(x==("__debug__" : Str))=false:=by decide):PE X (.Name x pos) (tC v):=λ_ _ _ H _ I h=>Bc I c b ⟨v,H,I,r,h⟩ a
def Nk(e:Gl X x)(d:X.mg x=none)(a:bootBuiltins x=some u)(r:i9 v u)(b:x≠ "__name__" :=by decide)(c:(x==("__debug__" : Str))=false:=by decide):PE X (.Name x pos) (tC v):=λ_ _ _ H _ I h=>sC I e d a ⟨v,H,I,r,h⟩ b c
variable {a b:Expr}{ta tb:TE}{pos:Pos}
def PC(X:Cx)(op:CmpOp)(a b:Expr)(t:TE):Prop:=
 ∀(f:List (Addr×Obj)) (s:Shared) (e:St) (H:Hp) (Q:VK),iz X f e H s->t e H Q->
  wpAny (model X.prog X.w) X.A (eval a X.env) (λv d=>wpAny (model X.prog X.w) X.A (eval b X.env) (λu c=>wpAny (model X.prog X.w) X.A (compareOp op v u) (EP X f e Q) X.xe c) X.xe d) X.xe s
def II b (h:op≠.In) (d:op≠.NotIn):behindInMarks op b=false:=by
 have c:(op==CmpOp.In)=false:=by cases op<;>first|rfl|exact absurd rfl h
 have e:(op==CmpOp.NotIn)=false:=by cases op<;>first|rfl|exact absurd rfl d
 cases b<;>simp[behindInMarks,c,e]
def Pv(ta:TE):TE:=λc H Q=>ta c H λx d=>Q (.bl (!decide (x=.non))) d
def i9.none_iff(r:i9 x v):(v==Value.none)=decide (x=.non):=by
 cases x with
 |non=>cases r;rfl
 |bl _=>cases r;rfl
 |int _=>obtain⟨t,rfl⟩:=r;rfl
 |str _=>obtain⟨t,rfl⟩:=r;rfl
 |byt _=>obtain⟨t,rfl⟩:=r;rfl
 |flt _=>obtain⟨t,rfl⟩:=r;rfl
 |ref _=>cases r;rfl
 |ty _=>cases r;rfl
def N5{j pos'}(d:PE X a ta):PC X .IsNot a (.Constant .none j pos') (Pv ta):=by intro c s e H Q I h;refine kh (d c s e H _ I h) λv s1 ⟨x,H1,I1,r1,q1⟩=>?_;exact Constant_none (isnot_none_gen ⟨.bl _,H1,I1,by rw[r1.none_iff];rfl,q1⟩)
def tB(t:TE):TT:=λd H Q=>t d H λx e=>∃c,x=.bl c/\Q c e
def QB(h:PC X op a b t)(e:behindInMarks op b=false:=by first|exact II _ (by decide) (by decide)|rfl):PT X (.Compare a [op] [b] pos) (tB t):=by intro f s g H Q I hw;refine wpAny_isTrue_Compare1 (kh (h f s g H _ I hw) λv j e=>kh e λu k i=>kh i λc s3 ⟨x,H1,I1,r1,q1⟩=>?_) e;obtain⟨d,rfl,q⟩:=q1;cases r1;exact wpAny_truthy_bool ⟨H1,I1,q⟩
def SD(h:PE X e t)(g:∀c,isTrue e X.env c=(do let v <-c;standAt e.pos;holding [v] (truthy v)):=by intro _;rfl):PT X e (tB t):=by intro f s i H Q I hw;refine isTrue_plain (kh (h f s i H _ I hw) λv s1 ⟨x,H1,I1,r1,q1⟩=>?_) (g _);obtain⟨d,rfl,q⟩:=q1;cases r1;exact wpAny_truthy_bool ⟨H1,I1,q⟩
variable {tA tB':TT}{mF:List Expr}
def Ss(t u:TT):TT:=λd H Q=>t d H λc e=>if c=true then u d e Q else Q false e
def UP(t u:TT):TT:=λd H Q=>t d H λc e=>if c=true then Q true e else u d e Q
def Rq(t:TT):TT:=λd H Q=>t d H λc e=>Q (!c) e
def OW(f:PT X a tA):PW X (.BoolOp .And [a] pos) tA:=by
 intro j d s g H Q I h;refine isTrue_and (kh (f d s g H Q I h) λc i e=>?_);cases c with
 |true=>exact isTrue_and_nil e
 |false=>exact e
def Q2(f:PT X a tA):PW X (.BoolOp .Or [a] pos) tA:=by
 intro j d s g H Q I h;refine isTrue_or (kh (f d s g H Q I h) λc i e=>?_);cases c with
 |false=>exact isTrue_or_nil e
 |true=>exact e
def QM(g:PT X a tA)(f:PW X (.BoolOp .And (b::mF) pos) tB'):PW X (.BoolOp .And (a::b::mF) pos) (Ss tA tB'):=by
 intro i d s e H Q I h;refine isTrue_and (kh (g d s e H _ I h) λc s1 ⟨H1,I1,q1⟩=>?_);cases c with
 |true=>exact f i d s1 e H1 Q I1 q1
 |false=>exact⟨H1,I1,q1⟩
def S5(g:PT X a tA)(f:PW X (.BoolOp .Or (b::mF) pos) tB'):PW X (.BoolOp .Or (a::b::mF) pos) (UP tA tB'):=by
 intro i d s e H Q I h;refine isTrue_or (kh (g d s e H _ I h) λc s1 ⟨H1,I1,q1⟩=>?_);cases c with
 |true=>exact⟨H1,I1,q1⟩
 |false=>exact f i d s1 e H1 Q I1 q1
def QZ(e:PT X a tA):PT X (.UnaryOp .Not a pos) (Rq tA):=by intro d s g H Q I h;exact isTrue_not (e d s g H (λc f=>Q (!c) f) I h)
def LP(ta tb:TE):TE:=λd H Q=>ta d H λx e=>∃c,x=.bl c/\if c=true then tb d e Q else Q (.bl false) e
def Jz(ta:TE):TE:=λd H Q=>ta d H λx e=>∃c,x=.bl c/\Q (.bl (!c)) e
def Rv{op}(h:PE X a t):PE X (.BoolOp op [a] pos) t:=λc s d H Q I hw=>BoolOp_one (h c s d H Q I hw)
def RL(i:PE X a ta)(g:PE X (.BoolOp .And (b::mF) pos) tb):PE X (.BoolOp .And (a::b::mF) pos) (LP ta tb):=by
 intro e s f H Q I h;refine BoolOp_and (kh (i e s f H _ I h) λv s1 ⟨x,H1,I1,r1,d⟩=>?_);obtain⟨c,rfl,d⟩:=d;cases r1;refine wpAny_truthy_bool ?_;cases c with
 |true=>exact g e s1 f H1 Q I1 d
 |false=>exact⟨.bl false,H1,I1,rfl,d⟩
def Sd(f:PE X a ta):PE X (.UnaryOp .Not a pos) (Jz ta):=by intro e s g H Q I h;refine UnaryOp_ (kh (f e s g H _ I h) λv s1 ⟨x,H1,I1,r1,d⟩=>?_);obtain⟨c,rfl,d⟩:=d;cases r1;exact not_of (wpAny_truthy_bool ⟨.bl (!c),H1,I1,rfl,d⟩)
end
end L2
namespace L2
open PySem PySem.Spec PyProof.Rows
def lS(K:W.Frag)(H:Hp)(a:Addr)(xs:List V):Prop:=
 Rd H a (.lst xs)\/
  ∃(o:Obj) (b:Array Value) (n:Nat),K.lookup a=some o/\o.cls=.type "list" /\o.dict=none/\o.data=.seq b n/\b.size<=sizeLine/\iO xs b.toList
def mW(K:W.Frag)(H:Hp)(a:Addr)(xs:List V):Prop:=
 Rd H a (.tup xs)\/
  ∃(o:Obj) (b:Array Value) (n:Nat),K.lookup a=some o/\o.cls=.type "tuple" /\o.data=.seq b n/\b.size<=sizeLine/\iO xs b.toList
def Vi:Value->Option V
 |.none=>some .non
 |.bool b=>some (.bl b)
 |.int i _=>some (.int i)
 |.str x _=>some (.str x)
 |.bytes b _=>some (.byt b)
 |.float b _=>some (.flt b)
 |.ref a=>some (.ref a)
 |.type n=>some (.ty n)
 |_=>none
def i9.abs(r:i9 x u):Vi u=some x:=by
 cases x with
 |non=>cases r;rfl
 |bl _=>cases r;rfl
 |int _=>obtain⟨t,rfl⟩:=r;rfl
 |str _=>obtain⟨t,rfl⟩:=r;rfl
 |byt _=>obtain⟨t,rfl⟩:=r;rfl
 |flt _=>obtain⟨t,rfl⟩:=r;rfl
 |ref _=>cases r;rfl
 |ty _=>cases r;rfl
def i9.inj(r:i9 x u)(q:i9 y u):x=y:=Option.some.inj (r.abs.symm.trans q.abs)
theorem iO.inj:∀{xs ys} {us},iO xs us->iO ys us->xs=ys
 |_,_,_,.nil,.nil=>rfl
 |_,_,_,.cons r t,.cons r' t'=>by rw[r.inj r',iO.inj t t']
section
variable {X:Cx}{gU:List (Addr×Obj)}{σ:St}{H:Hp}{s:Shared}{a:Addr}{xs ys:List V}
def lS.of{K:W.Frag}(h:H a=some (.lst xs)):lS K H a xs:=.inl (.inl h)
def mW.of{K:W.Frag}(h:H a=some (.tup xs)):mW K H a xs:=.inl (.inl h)
def iz.list(I:iz X gU σ H s)(h:lS X.K H a xs):∃its:List Value,iO xs its/\PlainL s.heap a its.toArray/\xs.length<=sizeLine:=by
 rcases h with h|⟨o,its,n,f,c,d,b,g,r⟩
 .obtain⟨z,its,n,r,e⟩:=h.ok I.hok;exact⟨its,r,⟨_,n,e,rfl,rfl,rfl⟩,z⟩
 .refine⟨its.toList,r,⟨o,n,I.kIn a o f,c,d,by simpa using b⟩,?_⟩;have e:=r.length;simp only[bA]at e;omega
def iz.tuple(I:iz X gU σ H s)(h:mW X.K H a xs):∃its:List Value,iO xs its/\IsTup s.heap a its.toArray/\xs.length<=sizeLine:=by
 rcases h with h|⟨o,its,n,d,c,b,f,r⟩
 .obtain⟨z,its,r,p⟩:=h.ok I.hok;exact⟨its,r,p.tup,z⟩
 .refine⟨its.toList,r,⟨o,I.kIn a o d,c,n,by simpa using b⟩,?_⟩;have e:=r.length;simp only[bA]at e;omega
def iz.list_inj(I:iz X gU σ H s)(h:lS X.K H a xs)(h':lS X.K H a ys):xs=ys:=by
 obtain⟨c,r,⟨o,n,e,_,_,d⟩,_⟩:=I.list h;obtain⟨b,i,⟨l,k,f,_,_,g⟩,_⟩:=I.list h';rw[e]at f;cases f;rw[d]at g;injection g with j _;have:c=b:=by simpa using congrArg Array.toList j
 subst this;exact r.inj i
def iz.tuple_inj(I:iz X gU σ H s)(h:mW X.K H a xs)(h':mW X.K H a ys):xs=ys:=by
 obtain⟨c,r,⟨o,e,_,n,d⟩,_⟩:=I.tuple h;obtain⟨b,i,⟨l,f,_,k,g⟩,_⟩:=I.tuple h';rw[e]at f;cases f;rw[d]at g;injection g with j _;have:c=b:=by simpa using congrArg Array.toList j
 subst this;exact r.inj i
end
noncomputable abbrev Cx.wish(X:Cx)(E:Value->Shared->Prop):Cx:={X with xe:=E}
abbrev Cx.nox(X:Cx):Cx:=X.wish λ_ _=>False
def Cx.Ok.wish{X:Cx}(ok:X.Ok) E:(X.wish E).Ok:=⟨ok.mod,ok.kind,ok.glob,ok.blt,ok.above,ok.inj,ok.has,ok.cab,ok.hd,ok.frames,ok.stk,ok.exf,ok.bs,ok.bsz,ok.noex,ok.exfs,ok.funs,ok.frf,ok.tab⟩
def Cx.Ok.unwish{X:Cx}(ok:(X.wish E).Ok):X.Ok:=⟨ok.mod,ok.kind,ok.glob,ok.blt,ok.above,ok.inj,ok.has,ok.cab,ok.hd,ok.frames,ok.stk,ok.exf,ok.bs,ok.bsz,ok.noex,ok.exfs,ok.funs,ok.frf,ok.tab⟩
section
variable {X:Cx}{gU:List (Addr×Obj)}{σ:St}{H:Hp}{s:Shared}{E:Value->Shared->Prop}
def iz.wish(I:iz X gU σ H s) E:iz (X.wish E) gU σ H s:=⟨I.ok.wish E,I.os,I.bare,I.base,I.loc,I.cell,I.free,I.freeC,I.pin,I.hok,I.len⟩
def iz.unwish(I:iz (X.wish E) gU σ H s):iz X gU σ H s:=⟨I.ok.unwish,I.os,I.bare,I.base,I.loc,I.cell,I.free,I.freeC,I.pin,I.hok,I.len⟩
def SP.unwish(h:SP (X.wish E) gU D f s'):SP X gU D f s':=by
 cases f with
 |next=>obtain⟨a,b,I,q⟩:=h;exact⟨a,b,I.unwish,q⟩
 |brk=>obtain⟨a,b,I,q⟩:=h;exact⟨a,b,I.unwish,q⟩
 |cont=>obtain⟨a,b,I,q⟩:=h;exact⟨a,b,I.unwish,q⟩
 |ret u=>obtain⟨v,a,b,I,r,q⟩:=h;exact⟨v,a,b,I.unwish,r,q⟩
def Bg.nox{st:List Stmt}(h:Bg X.nox st t):Bg X st t:=λgU s σ H D I hw=>wpAny_mono (h gU s σ H D (I.wish _) hw) (λ_ _ q=>q.unwish) λ_ _ z=>False.elim z
end
section
variable {X:Cx}{st:Stmt}{mF:List Stmt}{t u:TS}{e:Expr}{te:TE}{pos:Pos}
def yO:TS:=λD a H=>D.nx a H
def AG(t u:TS):TS:=λD a H=>t {D with nx:=u D} a H
def AX:Bg X [] yO:=λ_ _ a H _ I h=>wpAny_execs_nil ⟨a,H,I,h⟩
def ph(c:PS X st t)(k:Bg X mF u):Bg X (st::mF) (AG t u):=by
 intro b s j H D I h;refine wpAny_execs_cons (kh (c b s j H {D with nx:=u D} I h) λf g q=>?_);cases f with
 |next=>obtain⟨a,i,d,q⟩:=q;exact k b g a i D d q
 |ret v=>exact q
 |brk=>exact q
 |cont=>exact q
def pI(b:PS X st t):Bg X [st] t:=by
 intro a s c H D I h;refine wpAny_execs_cons (kh (b a s c H D I h) λf d q=>?_);cases f with
 |next=>exact wpAny_execs_nil q
 |ret v=>exact q
 |brk=>exact q
 |cont=>exact q
def KF:TS:=λD a H=>D.ct a H
def Cd:PS X (.Continue pos) KF:=λ_ _ a H _ I h=>wpAny_Continue ⟨a,H,I,h⟩
def iz.quiet(I:iz X gU σ H s):interactive X.env=false:=by simp[interactive,I.ok.kind]
def wN(te:TE):TS:=λD a H=>te a H λ_ b=>D.nx a b
def BE(d:PE X e te)(b:swapsWith e none pos.line X.env=pure false:=by rfl):PS X (.Expr e pos) (wN te):=by intro c s a H D I h;exact wpAny_Expr_any (kh (d c s a H _ I h) λv s1 ⟨x,H1,I1,r1,q1⟩=>⟨a,H1,I1,q1⟩) I.quiet b
def CY(te:TE):TS:=λD a H=>te a H D.rt
def A7(c:PE X e te):PS X (.Return (some e) pos) (CY te):=by intro b s a H D I h;exact wpAny_Return_some (kh (c b s a H _ I h) λv s1 ⟨x,H1,I1,r1,q1⟩=>⟨x,a,H1,I1,r1,q1⟩)
def GT(c:TT)(t u:TS):TS:=λD a H=>c a H λb d=>if b=true then t D a d else u D a d
def Jx(k:PT X c tc)(j:Bg X a t)(i:Bg X b u):PS X (.If c a b pos) (GT tc t u):=by
 intro f s g H D I h;refine wpAny_If (kh (k f s g H _ I h) λd s1 ⟨H1,I1,q1⟩=>?_);cases d with
 |true=>exact j f s1 g H1 D I1 q1
 |false=>exact i f s1 g H1 D I1 q1
def EH:TS:=λ_ _ _=>False
def K6:PS X st EH:=λ_ _ _ _ _ _ h=>h.elim
end
abbrev TG:=V->St->Hp->(St->Hp->Prop)->Prop
abbrev Ml:=List V->St->Hp->(St->Hp->Prop)->Prop
def PG(X:Cx)(target:Expr)(t:TG):Prop:=
 ∀(b:List (Addr×Obj)) (s:Shared) (d:St) (H:Hp) (v:V) (u:Value) (Q:St->Hp->Prop),iz X b d H s->i9 v u->t v d H Q->
  wpAny (model X.prog X.w) X.A (assign target X.env u) (λ_ e=>∃a c,iz X b a c e/\Q a c) X.xe s
def SJ(X:Cx)(ts:List Expr)(t:Ml):Prop:=
 ∀(b:List (Addr×Obj)) (s:Shared) (f:St) (H:Hp) (d:List V) (c:List Value) (Q:St->Hp->Prop),iz X b f H s->iO d c->t d f H Q->
  wpAny (model X.prog X.w) X.A (assignInOrder ((assignEach ts X.env).map (·.2)) c) (λ_ g=>∃a e,iz X b a e g/\Q a e) X.xe s
abbrev T6:=V->V->V->Hp->(Hp->Prop)->Prop
def Ur(X:Cx)(t:T6):Prop:=
 ∀(a:List (Addr×Obj)) (s:Shared) (d:St) (H:Hp) (o i v:V) (e c u:Value) (Q:Hp->Prop),iz X a d H s->i9 o e->i9 i c->i9 v u->t o i v H Q->
  wpAny (model X.prog X.w) X.A (setItem e c u) (λ_ f=>∃b,iz X a d b f/\Q b) X.xe s
section
variable {X:Cx}{pos:Pos}
def jS(i:Nat):TG:=λv a H Q=>Q (a.set i (some v)) H
def vW(b:X.N.Nodup)(c:X.N[i]? = some x)(d:HN X.env.scope x)(e:X.fn x=true\/X.env.scope.names.lookup x=some .local:=by first|exact .inl rfl|exact .inr rfl|assumption):PG X (.Name x pos) (jS i):=by intro f s g H v u Q I r h;exact wpAny_assign_Name (tw I b c d r (λj a=>⟨_,H,a,h⟩) e)
def GV:Ml:=λa b H Q=>a=[]/\Q b H
def wy(t:TG)(u:Ml):Ml:=λb d H Q=>∃v r,b=v::r/\t v d H λa c=>u r a c Q
def GF:SJ X [] GV:=by intro b s a H d c Q I r h;obtain⟨e,h⟩:=h;subst e;cases r;exact assignInOrder_nil ⟨a,H,I,h⟩
theorem CV(c:PG X e t)(f:SJ X es u)
  (b:(assignEach (e::es) X.env).map (·.2)=assign e X.env::(assignEach es X.env).map (·.2):=by rfl):SJ X (e::es) (wy t u):=by
 intro a s d H j i Q I r h;obtain⟨v,k,g,h⟩:=h;subst g;cases r with
 |cons r rr=>rw[b];refine assignInOrder_cons (kh (c a s d H _ _ _ I r h) λ_ s1 ⟨σ1,H1,I1,q1⟩=>?_);exact f a s1 σ1 H1 _ _ Q I1 rr q1
def Ht(K:W.Frag)(n:Nat)(t:Ml):TG:=λv c H Q=>∃a b,v=.ref a/\mW K H a b/\b.length=n/\t b c H Q
def Jc(l:X.calm=true)(h:SJ X es t)
  (g:(assignEach es X.env).length=n:=by rfl) (c:(assignEach es X.env).findIdx? (·.1)=none:=by rfl):PG X (.Tuple es k pos) (Ht X.K n t):=by
 intro y s q H v u Q I r hw;obtain⟨a,f,x,z,m,hw⟩:=hw;subst x;cases r;obtain⟨j,d,p,A⟩:=I.tuple z;refine assign_Tuple_tuple (I.ok.hd l) p (by simp[g,<-m,d.length]) c λB i=>?_;have w:=I.kept (t':=s.toks) λb o e=>i b o (aN (aM e)) e;exact h y _ q H f _ Q w (by simpa using d) hw
def Sl(to b:TE)(t:T6):TG:=λv a H Q=>to a H λo e=>b a e λi c=>t o i v c λd=>Q a d
def So(d:PE X o to)(f:PE X i ti)(c:Ur X t)
  (e:∀v,assign (.Subscript o i pos) X.env v=(do
   let ov <-holding [v] (eval o X.env)
   let iv <-holding [v,ov] (eval i X.env)
   standAt pos
   holding [v,ov,iv] (setItem ov iv v)
   release [v,ov,iv] []):=by intro _;rfl):PG X (.Subscript o i pos) (Sl to ti t):=by
 intro b s a H v u Q I r h;rw[e];refine ao (wpAny_holding (kh (d b s a H _ I h) λov s1 ⟨x,H1,I1,r1,q1⟩=>?_));refine ao (wpAny_holding (kh (f b s1 a H1 _ I1 q1) λiv s2 ⟨y,H2,I2,r2,q2⟩=>?_));refine ao (wpAny_standAt (ao (wpAny_holding (kh (c b s2 a H2 x y v ov iv u _ I2 r1 r2 r q2) λ_ s3 ⟨H3,I3,q3⟩=>?_))));exact wpAny_release ⟨a,H3,I3,q3⟩
def oG(c:TE)(g:TG):TS:=λD a H=>c a H λx b=>g x a b D.nx
def R0(f:PE X e te)(i:PG X tg g)(c:swapsWithSole [tg] e pos.line X.env=pure false:=by rfl)(hw:swappedStores [tg] e X.env=pure none:=by rfl)
  (d:(assignEach [tg] X.env).map (·.2)=[assign tg X.env]:=by rfl):PS X (.Assign [tg] e pos) (oG te g):=by
 intro a s b H D I h;refine wpAny_Assign_stores (kh (f a s b H _ I h) λv s1 ⟨x,H1,I1,r1,q1⟩=>?_) c hw;rw[d];exact kh (i a s1 b H1 x v _ I1 r1 q1) λ_ j q=>q
def uF(c:X.N.Nodup)(f:X.N[i]? = some x)(g:HN X.env.scope x)(l:PE X e te)(a:swapsWith e (some (.Name x pos')) pos.line X.env=pure false:=by rfl)(j:X.fn x=true\/X.env.scope.names.lookup x=some .local:=by first|exact .inl rfl|exact .inr rfl|assumption) :
  PS X (.Assign [.Name x pos'] e pos) (oG te (jS i)):=by
 intro b s k H D I h;refine wpAny_Assign_Name (kh (l b s k H _ I h) λv s1 ⟨y,H1,I1,r1,q1⟩=>?_) a;exact tw I1 c f g r1 (λm d=>⟨_,H1,d,q1⟩) j
def SA(i j:Nat)(d:TA):TS:=λD a H=>d a H λb c=>∃v w,b=[v,w]/\D.nx ((a.set i (some v)).set j (some w)) c
theorem QU{kt k2 pt2}(B:X.calm=true)(r:X.N.Nodup)(P:X.N[i]? = some x)(L:X.N[j]? = some y)(k:i≠j)
  (l:X.env.scope.names.lookup x=some .local) (m:X.env.scope.names.lookup y=some .local) (E:PA X [a,b] ta)
  (hw:swappedStores [.Tuple [.Name x px,.Name y py] kt pt] (.Tuple [a,b] k2 pt2) X.env=pure (some [x,y]))
  (C:swapsWithSole [.Tuple [.Name x px,.Name y py] kt pt] (.Tuple [a,b] k2 pt2) pos.line X.env=pure false:=by rfl) :
  PS X (.Assign [.Tuple [.Name x px,.Name y py] kt pt] (.Tuple [a,b] k2 pt2) pos) (SA i j ta):=by
 intro t s n H D I h;rw[exec_Assign_arm];refine ao (wpAny_standAt ?_);rw[C];refine ao (ak ?_);rw[aS (by decide)];refine ao (Tuple_ (kh (E _ t s n H _ I h) λus s1 ⟨vs,H1,I1,r1,f⟩=>?_));obtain⟨v,w,K,f⟩:=f;subst K;obtain⟨d,c,rfl,rv,rw'⟩:∃d c,us=[d,c]/\i9 v d/\i9 w c:=by
  cases r1 with
  |cons p q=>
   cases q with
   |cons p' q'=>cases q';exact⟨_,_,rfl,p,p'⟩
 refine wpAny_newObj_type ?_ (by show 2<=sizeLine;decide);have z:iz X t n H1 {s1 with heap:=s1.heap.push {cls:=.type "tuple",data:=.seq [d,c].toArray}}:=I1.kept λb o e=>ae _ e;rw[hw];refine ao (ak ?_);show wpAny (model X.prog X.w) X.A (do rule "assign.swapped-stores";let items <-unpackItems (.ref s1.heap.objs.size) 2 none;assignInOrder [λv=>bindName X.env y v,λv=>bindName X.env x v] items.reverse;pure Flow.next) _ _ _;refine ao (wpAny_rule (ao (unpackItems_tuple (items:=#[d,c]) (I.ok.hd B) (IsTup.new s1.heap _) λS g=>?_)));have J:=z.kept (t':=s1.toks) λb o e=>g b o (aN (aM e)) e;refine ao (assignInOrder_cons (wpAny_bindName (tw J r L (.inl m) rw' (λQ F=>?_) (.inr m))));refine assignInOrder_cons (wpAny_bindName (tw F r P (.inl l) rv (λR u=>assignInOrder_nil (ak ?_)) (.inr l)));rw[List.set_comm _ _ (Ne.symm k)]at u;exact⟨_,H1,u,f⟩
end
section
variable {X:Cx}{pos:Pos}
def Dz(c:TT)(h:TS):TS:=λD a H=>∃W:Nat->St->Hp->Prop,(∃m,W m a H)/\∀m a H,W m a H->
 c a H λb g=>if b=true then ∃N:St->Hp->Prop,(∀d f,N d f->∃e,e<m/\W e d f)/\h {D with nx:=N,ct:=N,bk:=D.nx} a g else D.nx a g
def JY(r:PassesOwn (model X.prog X.w) X.A X.env X.xe)(B:PT X c tc)(z:Bg X body tb):PS X (.While c body [] pos) (Dz tc tb):=by
 intro p s E H D I h;obtain⟨W,⟨y,J⟩,turn⟩:=h;refine wpAny_While (codeAny_whileLoop (λn L=>∃g t,iz X p g t L/\W n g t) ?_ y ⟨E,H,I,J⟩);rintro n C ⟨d,u,F,K⟩;refine wpAny_passesOwn r (kh (B p C d u _ F (turn n d u K)) λb s2 ⟨H2,I2,i⟩=>?_);cases b with
 |true=>
  obtain⟨N,x,i⟩:=i;rw[aR rfl];refine wpAny_passesOwn r (kh (z p s2 d H2 _ I2 i) λf P j=>?_);cases f with
  |next=>obtain⟨a,e,o,q⟩:=j;obtain⟨k,m,l⟩:=x a e q;exact⟨k,m,a,e,o,l⟩
  |cont=>obtain⟨a,e,o,q⟩:=j;obtain⟨k,m,l⟩:=x a e q;exact⟨k,m,a,e,o,l⟩
  |brk=>exact j
  |ret v=>exact j
 |false=>rw[aS aI];exact wpAny_execs_nil ⟨d,H2,I2,i⟩
end
structure It where
 go:Nat->Hp->Prop
 yld:Nat->Hp->V->Hp->Prop
 stop:Nat->Hp->Prop
def vA(X:Cx)(a:List (Addr×Obj))(H:Hp)(b:Addr):Prop:=H b=none/\b≠X.env.locals/\b∉X.fs/\(b∈X.ex\/X.s₀.heap.objs.size<=b)/\(∀x c,X.env.cells.lookup x=some c->c≠b)/\∀p∈X.pn++a,p.1≠b
def iz.fpOk(I:iz X gU σ H s)(a:s.heap.objs.size<=b)(d:H' b=none):vA X gU H' b:=by
 refine⟨d,bB (aF I.lt a),I.nofs a,.inr (aO I.sz a),λx c e z=>?_,λp f z=>?_⟩
 .obtain⟨v,q⟩:=I.cell x c e;exact absurd (aF q.lt (by rw[z];exact a)) (bg _)
 .exact absurd (aF (aM (I.pin p f).1) (by rw[z];exact a)) (bg _)
structure EW(P:Program)(w:World)(K:W.Frag)(tg:Expr)(J:It)(fp:List Addr)(it:Addr)(tn:Nat->Heap->Prop):Prop where
 mem:it∈fp
 obj:∀i h,tn i h->∀b∈fp,∃o,h.get? b=some o/\∀v,o.data≠.cell v
 keep:∀i h h',tn i h->(∀b∈fp,∀o,h.get? b=some o->h'.get? b=some o)->tn i h'
 item:∀(X:Cx),X.prog=P->X.w=w->X.K=K->X.calm=true->∀(i:Nat) (gU:List (Addr×Obj)) (s:Shared) (σ:St) (H:Hp) (E:Value->Shared->Prop),iz X gU σ H s->(∀b∈fp,vA X gU H b)->tn i s.heap->J.go i H->
  wpAny (model P w) X.A (pyNext (.ref it)) (λr s1=>∃u,r=some u/\
   wpAny (model P w) X.A (letOwnedTupleGo tg (.ref it) u) (λ_ s2=>∃x H',iz X gU σ H' s2/\i9 x u/\J.yld i H x H'/\tn (i+1) s2.heap/\∀b∈fp,H' b=none) E s1) E s
 done:∀(X:Cx),X.prog=P->X.w=w->X.K=K->X.calm=true->∀(i:Nat) (gU:List (Addr×Obj)) (s:Shared) (σ:St) (H:Hp) (E:Value->Shared->Prop),iz X gU σ H s->(∀b∈fp,vA X gU H b)->tn i s.heap->J.stop i H->
  wpAny (model P w) X.A (pyNext (.ref it)) (λr s1=>r=none/\iz X gU σ H s1) E s
 self:∀(A:Around) (i:Nat) (s:Shared) (Q:Value->Shared->Prop) (E:Value->Shared->Prop),tn i s.heap->Q (.ref it) s->wpAny (model P w) A (pyIter (.ref it)) Q E s
abbrev TI:=St->Hp->(It->Hp->Prop)->Prop
def Vm(X:Cx)(d:List (Addr×Obj))(i:St)(h:Expr)(R:It->Hp->Prop)(c:Value)(f:Shared):Prop:=∃(it:Addr) (g:List Addr) (e:Nat->Heap->Prop) (J:It) (a:Hp),c=.ref it/\iz X d i a f/\EW X.prog X.w X.K h J g it e/\e 0 f.heap/\(∀b∈g,vA X d a b)/\R J a
def PI(X:Cx)(d a:Expr)(f:TI):Prop:=
 ∀(c:List (Addr×Obj)) (s:Shared) (b:St) (H:Hp) (R:It->Hp->Prop),iz X c b H s->f b H R->
  wpAny (model X.prog X.w) X.A (eval a X.env) (λv e=>wpAny (model X.prog X.w) X.A (pyIter v) (Vm X c b d R) X.xe e) X.xe s
theorem Kc{M:Model}{A:Around}{E:Value->Shared->Prop}{s:Shared}{b:Expr}{it:Addr}{u:Value}{o:Obj}{n:String}{vs:Array Value}{Q:Unit->Shared->Prop}(d:s.heap.get? it=some o)(f:o.cls=.type n)(e:o.data=.fields vs)
    (c:["enumerate", "zip", "dict_itemiterator", "dict_reverseitemiterator", "odict_iterator", "itertools.zip_longest", "itertools.pairwise"].contains n=false) (a:Q () s):wpAny M A (letOwnedTupleGo b (.ref it) u) Q E s:=by
  unfold letOwnedTupleGo;cases b<;>first
    |exact ak a
    | (cases u<;>first
        |exact ak a
        | (refine ao (wpAny_load d ?_)
           rw[f,e]
           show wpAny M A (if (["enumerate", "zip", "dict_itemiterator", "dict_reverseitemiterator", "odict_iterator", "itertools.zip_longest", "itertools.pairwise"].contains n&&vs[0]? == some (rawInt _))=true then _ else _) Q E s
           rw[aS (by intro h;rw[c,Bool.false_and]at h;cases h)]
           exact ak a))
noncomputable def Ux(K:W.Frag)(a:Addr):It:=⟨λi H=>∃b x,lS K H a b/\b[i]? = some x,λi H x c=>c=H/\∀b,lS K H a b->b[i]? = some x,λi H=>∃b,lS K H a b/\b.length<=i⟩
noncomputable def Vd(K:W.Frag)(a:Addr):It:=⟨λi H=>∃b x,mW K H a b/\b[i]? = some x,λi H x c=>c=H/\∀b,mW K H a b->b[i]? = some x,λi H=>∃b,mW K H a b/\b.length<=i⟩
noncomputable def Ua(a:Int)(n:Nat):It:=⟨λi _=>i<n,λi H x b=>b=H/\x=.int (a+i),λi _=>n<=i⟩
def Hj{K:W.Frag} a it:EW P w K tg (Ux K a) [it] it (λi h=>h.IsListIter it a i) where
 mem:=by simp
 obj:=λi h f b g=>by
  have e:b=it:=by simpa using g
  subst e;obtain⟨o,e,c,d⟩:=f;exact⟨o,e,λv z=>by rw[d]at z;cases z⟩
 keep:=λi h N f k=>f.at λo e=>k it (by simp) o e
 item:=by intro X n hw y L i gU s σ H E I l f B;subst n hw y;obtain⟨Q,x,m,q⟩:=B;obtain⟨r,D,p,S⟩:=I.list m;obtain⟨u,hu,U⟩:=D.get q;obtain⟨F,A,R,C,J,t⟩:=l it (by simp);refine wpAny_pyNext_list_item f p.isList (by simpa using hu) λN j Z=>?_;have I1:=I.turned (t':=s.toks) (λb o g e=>(Z.2 b g).trans e) F A C J t;obtain⟨o,e,c,d⟩:=id j;exact⟨u,rfl,Kc e c d (by decide) ⟨x,H,I1,U,⟨rfl,λys Y=>by rw[I.list_inj Y m];exact q⟩,j,λb g=>(l b g).1⟩⟩
 done:=by intro X n hw y L i gU s σ H E I l f B;subst n hw y;obtain⟨Q,m,q⟩:=B;obtain⟨r,D,p,S⟩:=I.list m;obtain⟨F,A,R,C,J,t⟩:=l it (by simp);have hl:=D.length;exact wpAny_pyNext_list_end (I.ok.hd L) f p.isList (by simp;omega) λN eb=>⟨rfl,I.turned (λb o g e=>eb b o g e) F A C J t⟩
 self:=λ_ _ _ _ _ f h=>wpAny_pyIter_listiter f h
def DF{K:W.Frag} a it:EW P w K tg (Vd K a) [it] it (λi h=>h.IsTupleIter it a i) where
 mem:=by simp
 obj:=λi h f b g=>by
  have e:b=it:=by simpa using g
  subst e;obtain⟨o,e,c,d⟩:=f;exact⟨o,e,λv z=>by rw[d]at z;cases z⟩
 keep:=λi h N f k=>f.at λo e=>k it (by simp) o e
 item:=by intro X n hw y L i gU s σ H E I l f B;subst n hw y;obtain⟨Q,x,m,q⟩:=B;obtain⟨r,D,p,S⟩:=I.tuple m;obtain⟨u,hu,U⟩:=D.get q;obtain⟨F,A,R,C,J,t⟩:=l it (by simp);refine wpAny_pyNext_tuple_item f (p) (by simpa using hu) λN j Z=>?_;have I1:=I.turned (t':=s.toks) (λb o g e=>(Z.2 b g).trans e) F A C J t;obtain⟨o,e,c,d⟩:=id j;exact⟨u,rfl,Kc e c d (by decide) ⟨x,H,I1,U,⟨rfl,λys Y=>by rw[I.tuple_inj Y m];exact q⟩,j,λb g=>(l b g).1⟩⟩
 done:=by intro X n hw y L i gU s σ H E I l f B;subst n hw y;obtain⟨Q,m,q⟩:=B;obtain⟨r,D,p,S⟩:=I.tuple m;obtain⟨F,A,R,C,J,t⟩:=l it (by simp);have hl:=D.length;exact wpAny_pyNext_tuple_end (I.ok.hd L) f (p) (by simp;omega) λN eb=>⟨rfl,I.turned (λb o g e=>eb b o g e) F A C J t⟩
 self:=λ_ _ _ _ _ f h=>wpAny_pyIter_tupleiter f h
def DK{K:W.Frag} it lo n:EW P w K tg (Ua lo n) [it] it (λi h=>IsRangeIter h it (lo+(i:Nat)*1) ((n:Int)-(i:Nat)) 1) where
 mem:=by simp
 obj:=λi h a b c=>by
  have e:b=it:=by simpa using c
  subst e;exact⟨_,a,λv z=>by have L:=z;cases L⟩
 keep:=λi h r a k=>k it (by simp) _ a
 item:=by intro X g hw m l i B s A H E I f a q;subst g hw m;obtain⟨x,p,D,u,y,j⟩:=f it (by simp);have W:=Walks.range (prog:=X.prog) (w:=X.w) (I.ok.hd l) it lo 1 n;refine W.item i s _ _ q a λv r Q N d C=>?_;obtain⟨t,rfl⟩:=N;have F:iz X B A H {s with heap:=r,toks:=Q}:=I.turned (λb o c e=>C b o (by simpa using c) e) x p u y j;refine⟨_,rfl,Kc d rfl rfl (by decide) ⟨.int (lo+i),H,F,⟨t,?_⟩,⟨rfl,rfl⟩,d,λb c=>(f b c).1⟩⟩;rw[bC]
 done:=by intro X g hw m l i B s A H E I f a q;subst g hw m;obtain⟨x,p,D,u,y,j⟩:=f it (by simp);exact wpAny_pyNext_range_end (I.ok.hd l) a (by have:n<=i:=q;omega) λr J=>⟨rfl,I.turned (λb o c e=>J b o c e) x p u y j⟩
 self:=λ_ _ _ _ _ a h=>wpAny_pyIter_rangeiter a h
end L2
namespace L2
open PySem PySem.Spec PyProof.Rows
section
variable {X:Cx}{tg:Expr}
def CT(K:W.Frag)(d:TE):TI:=λe H R=>d e H λx b=>∃a,x=.ref a/\(∃c,lS K b a c)/\R (Ux K a) b
def QD(K:W.Frag)(d:TE):TI:=λe H R=>d e H λx b=>∃a,x=.ref a/\(∃c,mW K b a c)/\R (Vd K a) b
def z9(f:PE X l tl):PI X tg l (CT X.K tl):=by
 intro i s g H R I h;refine kh (f i s g H _ I h) λv s1 ⟨x,H1,I1,r1,q1⟩=>?_;obtain⟨a,e,⟨k,j⟩,q⟩:=q1;subst e;cases r1;obtain⟨d,n,p,m⟩:=I1.list j;refine wpAny_pyIter_list p.isList ?_;refine⟨s1.heap.objs.size,[s1.heap.objs.size],_,_,H1,rfl,I1.kept λb o e=>ae _ e,Hj a _,⟨_,ar _ rfl,rfl,rfl⟩,λb c=>?_,q⟩;have e:b=s1.heap.objs.size:=by simpa using c
 subst e;exact I1.fpOk (aL _) (I1.hok.fresh (aL _))
def Rk(f:PE X l tl):PI X tg l (QD X.K tl):=by
 intro i s g H R I h;refine kh (f i s g H _ I h) λv s1 ⟨x,H1,I1,r1,q1⟩=>?_;obtain⟨a,e,⟨k,j⟩,q⟩:=q1;subst e;cases r1;obtain⟨d,n,p,m⟩:=I1.tuple j;refine wpAny_pyIter_tuple (p) ?_;refine⟨s1.heap.objs.size,[s1.heap.objs.size],_,_,H1,rfl,I1.kept λb o e=>ae _ e,DF a _,⟨_,ar _ rfl,rfl,rfl⟩,λb c=>?_,q⟩;have e:b=s1.heap.objs.size:=by simpa using c
 subst e;exact I1.fpOk (aL _) (I1.hok.fresh (aL _))
def KN{a c:Int}(I:iz X gU σ H s)(g:-(2 ^ 62)<=a)(k:a<2 ^ 62)(i:-(2 ^ 62)<=c)(j:c<2 ^ 62)
  (q:R (Ua a (c-a).toNat) H):wpAny (model X.prog X.w) X.A (pyIter (.ref s.heap.objs.size)) (Vm X gU σ tg R) E {s with heap:=s.heap.push {cls:=.type "range",data:=.fields #[.int a t,.int c u,.int 1 v]},toks:=tk}:=by
 refine wpAny_pyIter_range (IsRange.new ..) (small_one g k i j) ?_;have d:iz X gU σ H {s with heap:=s.heap.push {cls:=.type "range",data:=.fields #[.int a t,.int c u,.int 1 v]},toks:=tk}:=I.kept λb o e=>ae _ e;refine⟨(s.heap.push {cls:=.type "range",data:=.fields #[.int a t,.int c u,.int 1 v]}).objs.size,[(s.heap.push {cls:=.type "range",data:=.fields #[.int a t,.int c u,.int 1 v]}).objs.size],_,_,H,rfl,
  d.kept λb o e=>ae _ e,DK _ a (c-a).toNat,?_,λb h=>?_,q⟩
 .have l:a+((0:Nat):Int)*1=a:=by simp
  have f:(((c-a).toNat:Nat):Int)-((0:Nat):Int)=Builtin.Range.rangeSize a c 1:=by rw[rangeSize_one];split<;>omega
  rw[l,f];exact ar _ rfl
 .have e:b=(s.heap.push {cls:=.type "range",data:=.fields #[.int a t,.int c u,.int 1 v]}).objs.size:=by simpa using h
  subst e;exact d.fpOk (aL _) (d.hok.fresh (aL _))
def Kq(d:TA):TI:=λb H R=>d b H λa c=>∃j:Int,a=[.int j]/\-(2 ^ 62)<=j/\j<2 ^ 62/\R (Ua 0 j.toNat) c
def GN(l:Gl X "range")(i:X.mg "range" = none)(f:PA X [a] ta)(c:starEach [a] X.env=[(false,eval a X.env)]:=by rfl):PI X tg (.Call (.Name "range" p) [a] [] pos) (Kq ta):=by
 intro d s g H R I h;refine Call_ (sC I l i boot_range (PyProof.Rows.callWith_type1 (kh (f pos d s g H _ I h) λus s1 ⟨vs,H1,I1,r1,b⟩=>?_) c rfl));obtain⟨j,e,b,k,q⟩:=b;subst e;cases r1 with
 |cons r rr=>cases rr;obtain⟨t,rfl⟩:=r;exact call_range_1 (KN I1 (by omega) (by omega) b k (by simpa using q))
def wJ(h:TI)(g:TG)(f:TS):TS:=λD a H=>h a H λJ j=>∃W:Nat->Nat->St->Hp->Prop,(∃m,W 0 m a j)/\∀i m a H,W i m a H->
 (J.stop i H/\D.nx a H)\/(J.go i H/\∃N:St->Hp->Prop,(∀c b,N c b->∃e,e<m/\W (i+1) e c b)/\∀x b,J.yld i H x b->g x a b λd k=>f {D with nx:=N,ct:=N,bk:=D.nx} d k)
noncomputable def wF(a:List Addr)(h:Heap):List (Addr×Obj):=a.filterMap λb=>(h.get? b).map λo=>(b,o)
def pL(a:b∈fp)(e:h.get? b=some o):(b,o)∈wF fp h:=bE.mpr ⟨b,a,by rw[e];rfl⟩
def Ho(c:p∈wF fp h):p.1∈fp/\h.get? p.1=some p.2:=by
 obtain⟨b,a,e⟩:=bE.mp c;cases q:h.get? b with
 |none=>rw[q]at e;cases e
 |some o=>rw[q]at e;have d:=Option.some.inj e;subst d;exact⟨a,q⟩
def iz.pinned(I:iz X gU σ H s)(j:∀b∈fp,vA X gU H b)(g:∀b∈fp,∃o,s.heap.get? b=some o/\∀v,o.data≠.cell v):iz X (gU++wF fp s.heap) σ H s:=I.pins_of λp h=>(ai.mp h).elim (λz=>I.pin p (bF _ z)) λz=>by obtain⟨a,e⟩:=Ho z;obtain⟨f,k,i,_⟩:=j p.1 a;obtain⟨o,c,d⟩:=g p.1 a;rw[e]at c;cases c;exact⟨e,f,k,i,d⟩
def iz.unpinned(I:iz X (gU++pl) σ H s):iz X gU σ H s:=I.pins_of λp a=>I.pin p (bF _ (ay _ a))
theorem uN(C:PassesOwn (model X.prog X.w) X.A X.env X.xe)(Z:X.calm=true)(hi:PI X tg iter wi)(hg:PG X tg g)(c:Bg X body tb)
  (hs:∀x,foldedSetIterable iter X.env x=pure x:=by intro _;rfl):PS X (.For tg iter body [] pos) (wJ wi g tb):=by
 intro B s σ H D I h;refine wpAny_For (kh (hi B s σ H _ I h) λv s1 h1=>kh h1 λitv s2 h2=>?_) hs;obtain⟨it,P,tn,J,H2,e,I2,T,R,Y,W,⟨m0,w0⟩,turn⟩:=h2;subst e;have t:∀{y:Hp},(∀b∈P,y b=none)->∀b∈P,vA X B y b:=λhn b c=>⟨hn b c,(Y b c).2⟩;refine codeAny_forLoop_any (λn s'=>∃i q y,iz X B q y s'/\tn i s'.heap/\(∀b∈P,y b=none)/\W i n q y) ?_ m0 ⟨0,σ,H2,I2,R,λb c=>(Y b c).1,w0⟩;rintro n s3 ⟨i,l,Q,I3,E,L,w3⟩;rcases turn i n l Q w3 with⟨F,qn⟩|⟨go,N,hN,step⟩
 .refine wpAny_passesOwn C (kh (T.done X rfl rfl rfl Z i B s3 l Q X.xe I3 (t L) E F) λr s4 ⟨hr,I4⟩=>?_);subst hr;exact wpAny_execs_nil ⟨l,Q,I4,qn⟩
 .refine wpAny_passesOwn C (kh (T.item X rfl rfl rfl Z i B s3 l Q X.xe I3 (t L) E go) λr s4 ⟨u,hr,h4⟩=>?_);subst hr;refine wpAny_passesOwn C (kh h4 λ_ s5 ⟨x,H5,I5,r5,y5,st5,fr5⟩=>?_);have U:=I5.pinned (t fr5) (T.obj _ _ st5);refine wpAny_passesOwn C (kh (hg _ s5 l H5 x u _ U r5 (step x H5 y5)) λ_ s6 ⟨σ6,H6,I6,q6⟩=>?_);refine wpAny_passesOwn C (kh (c _ s6 σ6 H6 _ I6 q6) λf S z=>?_);have j:∀{a:St} {k:Hp},iz X (B++wF P s5.heap) a k S->N a k->∃m,m<n/\∃i q y,iz X B q y S/\tn i S.heap/\(∀b∈P,y b=none)/\W i m q y:=λ{a k} p K=>by obtain⟨m',hm,w7⟩:=hN a k K;refine⟨m',hm,i+1,a,k,p.unpinned,T.keep _ _ _ st5 λb c o e=>(p.pin (b,o) (bF _ (bF _ (pL c e)))).1,λb c=>?_,w7⟩;obtain⟨o,e,d⟩:=T.obj _ _ st5 b c;exact (p.pin (b,o) (bF _ (bF _ (pL c e)))).2.1
  cases f with
  |next=>obtain⟨a,k,p,K⟩:=z;exact j p K
  |cont=>obtain⟨a,k,p,K⟩:=z;exact j p K
  |brk=>obtain⟨a,k,p,z⟩:=z;exact⟨a,k,p.unpinned,z⟩
  |ret v=>obtain⟨x7,a,k,p,r7,z⟩:=z;exact⟨x7,a,k,p.unpinned,r7,z⟩
end
end L2
namespace L2
open PySem PySem.Spec PyProof.Rows
abbrev R2:=V->V->Hp->VK->Prop
def rK(X:Cx)(f:Value->Value->Sem Value)(r:R2):Prop:=
 ∀(a:List (Addr×Obj)) (s:Shared) (b:St) (H:Hp) (x y:V) (v u:Value) (Q:VK),iz X a b H s->i9 x v->i9 y u->r x y H Q->
  wpAny (model X.prog X.w) X.A (f v u) (EP X a b Q) X.xe s
def Vf(X:Cx)(f:Value->Sem Value)(r:V->Hp->VK->Prop):Prop:=
 ∀(a:List (Addr×Obj)) (s:Shared) (b:St) (H:Hp) (x:V) (v:Value) (Q:VK),iz X a b H s->i9 x v->r x H Q->
  wpAny (model X.prog X.w) X.A (f v) (EP X a b Q) X.xe s
def lA(X:Cx)(f:Value)(r:List V->Hp->VK->Prop):Prop:=
 ∀(a:List (Addr×Obj)) (s:Shared) (d:St) (H:Hp) (c:List V) (b:List Value) (Q:VK),iz X a d H s->iO c b->r c H Q->
  wpAny (model X.prog X.w) X.A (call f b) (EP X a d Q) X.xe s
def vP(r:R2)(e c:TE):TE:=λa H Q=>e a H λx d=>c a d λy b=>r x y b Q
def UX(r:V->Hp->VK->Prop)(c:TE):TE:=λa H Q=>c a H λx b=>r x b Q
def rI(C:Int->Int->Prop)(g:Int->Int->V):R2:=λx y H Q=>∃i j,x=.int i/\y=.int j/\C i j/\Q (g i j) H
def EB(g:Int->Int->V):R2:=λx y H Q=>∃i j,x=.int i/\y=.int j/\Q (g i j) H
def rU(g:Int->V):V->Hp->VK->Prop:=λx H Q=>∃i,x=.int i/\Q (g i) H
section
variable {X:Cx}{a b c:Expr}{ta tb tc:TE}{pos:Pos}
def QE(l:PE X a ta)(k:PE X b tb){R:V->V->Hp->Prop}(I:iz X gU σ H s)
  (h:ta σ H λx j=>tb σ j λy d=>R x y d) {f:Value->Value->Sem Value}
  (m:∀v u i x y d,iz X gU σ d i->i9 x v->i9 y u->R x y d->wpAny (model X.prog X.w) X.A (f v u) Q X.xe i) :
  wpAny (model X.prog X.w) X.A (eval a X.env) (λv g=>wpAny (model X.prog X.w) X.A (eval b X.env) (λu e=>wpAny (model X.prog X.w) X.A (f v u) Q X.xe e) X.xe g) X.xe s:=by
 refine kh (l gU s σ H _ I h) λv s1 ⟨x,j,I1,r1,q1⟩=>?_;refine kh (k gU s1 σ j _ I1 q1) λu i ⟨y,d,I2,r2,q2⟩=>?_;exact m v u i x y d I2 r1 r2 q2
def K5(i:rK X (binaryOp op) r)(j:PE X a ta)(d:PE X b tb):PE X (.BinOp a op b pos) (vP r ta tb):=by intro n s l H Q I h;exact wpAny_BinOp (QE j d I h λv u g x y m f k e q=>i n g l m x y v u Q f k e q)
def PM(f:Vf X (unaryOp op) r)(g:PE X a ta):PE X (.UnaryOp op a pos) (UX r ta):=by intro d s e H Q I h;exact UnaryOp_ (kh (g d s e H _ I h) λv s1 ⟨x,H1,I1,r1,q1⟩=>f d s1 e H1 x v Q I1 r1 q1)
def UE{g:Int->Int->Int}
  (d:∀i j t u s Q E,C i j->Q (.int (g i j) s.toks) {s with toks:=s.toks+1}->wpAny (model X.prog X.w) X.A (f (.int i t) (.int j u)) Q E s) :
  rK X f (rI C λi j=>.int (g i j)):=by
 intro o s n H x y v u Q I l e h;obtain⟨i,j,rfl,rfl,k,q⟩:=h;obtain⟨t,rfl⟩:=l;obtain⟨m,rfl⟩:=e;exact d i j t m s _ _ k ⟨.int (g i j),H,I.tok _,⟨_,rfl⟩,q⟩
def TV{g:Int->Int->Int}
  (d:∀i j t u s Q E,Q (.int (g i j) s.toks) {s with toks:=s.toks+1}->wpAny (model X.prog X.w) X.A (f (.int i t) (.int j u)) Q E s) :
  rK X f (EB λi j=>.int (g i j)):=by
 intro n s m H x y v u Q I k e h;obtain⟨i,j,rfl,rfl,q⟩:=h;obtain⟨t,rfl⟩:=k;obtain⟨l,rfl⟩:=e;exact d i j t l s _ _ ⟨.int (g i j),H,I.tok _,⟨_,rfl⟩,q⟩
def Om{g:Int->Int->Bool}
  (d:∀(i j:Int) (t u:Tok) (s:Shared) (Q:Value->Shared->Prop) (E:Value->Shared->Prop),Q (.bool (g i j)) s->wpAny (model X.prog X.w) X.A (f (.int i t) (.int j u)) Q E s) :
  rK X f (EB λi j=>.bl (g i j)):=by
 intro n s m H x y v u Q I k e h;obtain⟨i,j,rfl,rfl,q⟩:=h;obtain⟨t,rfl⟩:=k;obtain⟨l,rfl⟩:=e;exact d i j t l s _ _ ⟨.bl (g i j),H,I,rfl,q⟩
def Tp(i j:Int):Prop:=0<=j/\j<=1000000/\i.natAbs<2 ^ 64
def Rc:rK X (binaryOp .Add) (EB λi j=>.int (i+j)):=TV λ_ _ _ _ _ _ _ q=>add_int q
def Rf:rK X (binaryOp .Sub) (EB λi j=>.int (i-j)):=TV λ_ _ _ _ _ _ _ q=>sub_int q
def N1:rK X (binaryOp .Mod) (rI (λ_ j=>j≠0) λi j=>.int (i.fmod j)):=UE λ_ _ _ _ _ _ _ d q=>mod_int' d q
def RH:rK X (binaryOp .Pow) (rI Tp λi j=>.int (i ^ j.toNat)):=UE λ_ _ _ _ _ _ _ d q=>pow_int_small d.1 d.2.1 d.2.2 q
def V2{g:Int->Int}
  (d:∀i t s Q E,Q (.int (g i) s.toks) {s with toks:=s.toks+1}->wpAny (model X.prog X.w) X.A (f (.int i t)) Q E s) :
  Vf X f (rU λi=>.int (g i)):=by
 intro j s k H x v Q I e h;obtain⟨i,rfl,q⟩:=h;obtain⟨t,rfl⟩:=e;exact d i t s _ _ ⟨.int (g i),H,I.tok _,⟨_,rfl⟩,q⟩
def Iz:Vf X (unaryOp .USub) (rU λi=>.int (-i)):=V2 λ_ _ _ _ _ q=>neg_int q
end
section
variable {X:Cx}{a b c:Expr}{ta tb tc:TE}{pos:Pos}
def Dk:rK X (compareOp .Lt) (EB λi j=>.bl (decide (i<j))):=Om λ_ _ _ _ _ _ _ q=>lt_int q
def Kp:rK X (compareOp .LtE) (EB λi j=>.bl (decide (i<=j))):=Om λ_ _ _ _ _ _ _ q=>le_int q
def CS:rK X (compareOp .Gt) (EB λi j=>.bl (decide (j<i))):=Om λ_ _ _ _ _ _ _ q=>gt_int q
def Js:rK X (compareOp .GtE) (EB λi j=>.bl (decide (j<=i))):=Om λ_ _ _ _ _ _ _ q=>ge_int q
def uv b (h:op≠.In:=by decide) (e:op≠.NotIn:=by decide):behindInMarks op b=false:=by
 have d:(op==CmpOp.In)=false:=by cases op<;>first|rfl|exact absurd rfl h
 have f:(op==CmpOp.NotIn)=false:=by cases op<;>first|rfl|exact absurd rfl e
 cases b<;>simp[behindInMarks,d,f]
def NS(i:rK X (compareOp op) r)(j:PE X a ta)(d:PE X b tb)(m:behindInMarks op b=false):PE X (.Compare a [op] [b] pos) (vP r ta tb):=by intro o s l H Q I h;exact wpAny_Compare1 (QE j d I h λv u g x y n f k e q=>i o g l n x y v u Q f k e q) m
def CD(t:TE):TT:=λe H Q=>t e H λx d=>∃k,x=.bl k/\Q k d
def Ob(i:rK X (compareOp op) r)(j:PE X a ta)(g:PE X b tb)(l:behindInMarks op b=false):PT X (.Compare a [op] [b] pos) (CD (vP r ta tb)):=by
 intro d s f H Q I h;refine wpAny_isTrue_Compare1 (kh (j d s f H _ I h) λv s1 ⟨x,H1,I1,r1,q1⟩=>kh (g d s1 f H1 _ I1 q1) λu s2 ⟨y,H2,I2,r2,q2⟩=>kh (i d s2 f H2 x y v u _ I2 r1 r2 q2) λc s3 ⟨z,H3,I3,r3,k,e,q3⟩=>?_) l
 subst e;cases r3;exact wpAny_truthy_bool ⟨H3,I3,q3⟩
def Ep(r f:R2)(ta tb tc:TE):TE:=λd H Q=>ta d H λx j=>tb d j λy g=>r x y g λz e=>∃k,z=.bl k/\
 (if k=true then tc d e λi h=>f y i h Q else Q (.bl false) e)
theorem Ji(m:rK X (compareOp op) r)(i:rK X (compareOp op') r')(l:PE X a ta)(j:PE X b tb)(n:PE X c tc)
  (o:lastMarks [op,op'] [b,c]=false:=by with_unfolding_all rfl):PE X (.Compare a [op,op'] [b,c] pos) (Ep r r' ta tb tc):=by
 intro f s g H Q I h;refine Compare_chain (kh (l f s g H _ I h) λv s1 ⟨x,H1,I1,r1,q1⟩=>chain_link (kh (j f s1 g H1 _ I1 q1) λu s2 ⟨y,H2,I2,r2,q2⟩=>kh (m f s2 g H2 x y v u _ I2 r1 r2 q2) λd s3 ⟨z,H3,I3,r3,k,e,q3⟩=>?_)) o
 subst e;cases r3;refine wpAny_truthy_bool ?_;cases k with
 |false=>exact ite_ff ⟨.bl false,H3,I3,rfl,q3⟩
 |true=>exact ite_tt (chain_last (kh (n f s3 g H3 _ I3 q3) λw' s4 ⟨z',H4,I4,r4,q4⟩=>i f s4 g H4 y z' u w' Q I4 r2 r4 q4))
def Aj:(sizeLine:Nat)<2 ^ 63:=by rw[sizeLine_eq];decide
def El:rK X (binaryOp .Add) (λx y H Q=>∃i j,x=.str i/\y=.str j/\i.length+j.length<=sizeLine/\Q (.str (i++j)) H):=by intro l s k H x y v u Q I f d h;obtain⟨i,j,rfl,rfl,e,q⟩:=h;obtain⟨t,rfl⟩:=f;obtain⟨g,rfl⟩:=d;exact add_str (λg m=>⟨.str (i++j),H,I.tok _,⟨_,rfl⟩,q⟩) e
def qB(r:iO [x] us):∃u,us=[u]/\i9 x u:=by
 cases r with
 |cons r1 r2=>cases r2;exact⟨_,rfl,r1⟩
def P2(r:iO [x,y] us):∃u d,us=[u,d]/\i9 x u/\i9 y d:=by
 cases r with
 |cons r1 r2=>
  cases r2 with
  |cons r3 r4=>cases r4;exact⟨_,_,rfl,r1,r3⟩
def mn:lA X (.builtin "abs") (λxs H Q=>∃i,xs=[.int i]/\Q (.int (if i<0 then -i else i)) H):=by intro d s g H xs e Q I r h;obtain⟨i,rfl,q⟩:=h;obtain⟨u,rfl,t,rfl⟩:=qB r;exact call_abs_int λu f=>⟨.int (if i<0 then -i else i),H,I.tok _,⟨_,rfl⟩,q⟩
def GW(e:X.calm=true):lA X (.builtin "max") (λxs H Q=>∃i j,xs=[.int i,.int j]/\Q (.int (if j>i then j else i)) H):=by
 intro n s l H xs f Q I r h;obtain⟨i,j,rfl,q⟩:=h;obtain⟨u,g,rfl,⟨t,rfl⟩,⟨p,rfl⟩⟩:=P2 r;refine max_two_ints (I.ok.hd e) λm o k=>⟨_,H,I.kept k,?_,q⟩;by_cases d:j>i
 .rw[aR d,aR d];exact⟨_,rfl⟩
 .rw[aS d,aS d];exact⟨_,rfl⟩
def zC:lA X (.type "int") (λxs H Q=>(∃i,xs=[.int i]/\Q (.int i) H)\/∃k,xs=[.bl k]/\Q (.int (if k then 1 else 0)) H):=by
 intro e s g H xs f Q I r h;rcases h with⟨i,rfl,q⟩|⟨k,rfl,q⟩
 .obtain⟨u,rfl,t,rfl⟩:=qB r;exact call_int_int ⟨.int i,H,I,⟨_,rfl⟩,q⟩
 .obtain⟨u,rfl,d⟩:=qB r;cases d;exact call_int_bool ⟨.int (if k then 1 else 0),H,I.tok _,⟨_,rfl⟩,q⟩
def RN(K:W.Frag)(x:V)(H:Hp)(n:Nat):Prop:=
 match x with
 |.str y=>y.length<=sizeLine/\n=y.length
 |.byt y=>y.size<=sizeLine/\n=y.size
 |.ref p=>(∃d,lS K H p d/\n=d.length)\/∃d,mW K H p d/\n=d.length
 |_=>False
def LV:lA X (.builtin "len") (λxs H Q=>∃x n,xs=[x]/\RN X.K x H n/\Q (.int n) H):=by
 intro z s w H xs v Q I r h;obtain⟨x,n,rfl,e,q⟩:=h;obtain⟨u,rfl,k⟩:=qB r;have o:=sizeLine_eq;cases x with
 |str y=>obtain⟨t,rfl⟩:=k;obtain⟨hy,d⟩:y.length<=sizeLine/\n=y.length:=e;subst d;exact len_str (by omega) ⟨.int _,H,I.tok _,⟨_,rfl⟩,q⟩
 |byt y=>obtain⟨t,rfl⟩:=k;obtain⟨hy,d⟩:y.size<=sizeLine/\n=y.size:=e;subst d;exact W.len_bytes (by omega) ⟨.int _,H,I.tok _,⟨_,rfl⟩,q⟩
 |ref p=>
  cases k;have d:=e;rcases d with⟨xs,g,d⟩|⟨xs,g,d⟩
  .subst d;obtain⟨i,j,l,m⟩:=I.list g;have f:=j.length;exact Calls.call_len_list l.isList (by simp only[bG];omega) ⟨.int xs.length,H,I.tok _,⟨_,by simp only[bG];rw[f]⟩,q⟩
  .subst d;obtain⟨i,j,l,m⟩:=I.tuple g;have f:=j.length;exact len_tuple l (by simp only[bG];omega) ⟨.int xs.length,H,I.tok _,⟨_,by simp only[bG];rw[f]⟩,q⟩
 |_=>exact (e).elim
end
end L2
namespace L2
open PySem PySem.Spec PyProof.Rows
structure DU(h:Heap)(x dx C:Addr)(mA:Str->Option Value):Prop where
 obj:h.get? x=some (W.instObj C dx)
 ns:h.Ns1 dx mA
 ne:dx≠x
def Hn{h:Heap}(n:h.Ns1 dx mA):∃c,h.get? dx=some c/\∀name,W.lookIn name c=some (mA name):=by
 obtain⟨o,d,m,i,j,l,_,k⟩:=n;refine⟨o,i,λname=>?_⟩;have e:=k name;unfold nsFind findBy at e;rw[<-Array.find?_toList]at e;unfold W.lookIn;rw[j];dsimp only;split
 .rename_i y q;rw[q]at e;exact congrArg some e
 .rename_i q;rw[q]at e;have a:d.toList.any (·.refKey)=false:=by rw[bH];intro y g;obtain⟨z,t,b⟩:=l y (bI.mp g);simp[DictEntry.refKey,b]
  have f:¬d.toList.any (·.refKey)=true:=by rw[a];exact aI
  rw[aS f];exact congrArg some e
def DU.look(I:DU h x dx C mA):∃a,W.InstAt h x (W.instObj C dx) C (some a)/\∀name,W.lookIn name a=some (mA name):=
 let ⟨a,ho,hl⟩:=Hn I.ns
 ⟨a,⟨I.obj,rfl,rfl,ho⟩,hl⟩
section
variable {prog:Program}{w:World}{A:Around}{E:Value->Shared->Prop}{s:Shared}{K:W.Frag}{x dx C f:Addr}{mA:Str->Option Value}{name:Str}{v:Value}
def Pi(X:K.In s.heap)(I:DU s.heap x dx C mA)(g:W.plainGet K C name=true)(e:W.hasDictIn K C=true)
  (d:W.findIn K (.ref C) name=some none) (b:mA name=some v) (a:W.handedIn v=true) (h:Q v {s with toks:=s.toks+1}) :
  wpAny (model prog w) A (getAttr (.ref x) name expr) Q E s:=by
 obtain⟨i,J,c⟩:=I.look;exact W.get_value X J (W.plainGet_of g).1 (W.findObj_own e d rfl (by rw[c,b])) a h
def Jg(X:K.In s.heap)(I:DU s.heap x dx C mA)(a:W.plainGet K C name=true)
  (g:W.findIn K (.ref C) name=some (some (.ref f))) (e:W.isFn K (.ref f)=true) (c:mA name=none) (h:Q (.ref f,[.ref x]) s) :
  wpAny (model prog w) A (getMethod (.ref x) name pl) Q E s:=by
 obtain⟨b,J,d⟩:=I.look;exact W.method_fn X J (W.plainGet_of a).1 (W.plainGet_of a).2 g (beq_iff_eq.mp e) (by show (W.lookIn name b).map (·.isSome)=some false;rw[d,c];rfl) h
def tR(X:K.In s.heap)(I:DU s.heap x dx C mA)
  (m:W.findIn K (.ref C) "__setattr__" = some (some (.builtin "object.__setattr__"))) (j:W.plainOver K C=true) (n:W.takerIn K C name=some none) (o:W.hasDictIn K C=true)
  (hw:PySem.Within mA ns) (hsz:ns.length<=sizeLine)
  (h:∀h',DU h' x dx C (λy=>if y=name then some v else mA y)->Heap.SameBut dx s.heap h'->Q () {s with heap:=h',toks:=s.toks+2}) :
  wpAny (model prog w) A (setAttr (.ref x) name v) Q E s:=by
 obtain⟨t,J,u⟩:=I.look;refine W.set_plain X J m (W.osa_open X J j n λb=>?_);obtain⟨z,l,d⟩:=W.any_some o;have k:=I.obj;refine ao (ak (ao (ao (wpAny_loadPart k (ao (W.Looks.here (W.looks_clsIn X l) ?_))))));rw[d];refine ak (ao (ak (ao ?_)));refine wpAny_nsSet1 I.ns λh' a c=>?_;obtain⟨r,p,q,e,i,g⟩:=a.count (PySem.Within.cons name v hw);refine ao (wpAny_lookBehind e (by rw[i];exact pastItsLine_dict (aO g (by rw[az];omega))) ?_);exact ak (h _ ⟨(c.2 _ (Ne.symm I.ne)).trans I.obj,a,I.ne⟩ c)
def Kr(X:K.In s.heap)(b:W.makesIn K C=true)
  (c:W.findIn K (.ref C) "__init__" = some (some (.ref f))) (e:W.typeIn K (.ref f)=some (.type "function"))
  (h:codeAny (model prog w) (A.under (.builtin "type.__call__" ⟨.ref C::vs,kw⟩)) (.call (.ref f) ⟨.ref (s.heap.objs.size+1)::vs,kw⟩) (W.InitBack (s.heap.objs.size+1) R)
   {s with heap:=(s.heap.push W.emptyDict).push (W.instObj C s.heap.objs.size)}) :
  codeAny (model prog w) A (.call (.ref C) ⟨vs,kw⟩) R s:=by
 obtain⟨j,g,d,t,i⟩:=s;exact W.make_core (W.makes_of X b) (W.looks_findIn X c) (λa=>W.bind_fn X a e) (.inl rfl) h
end
def qj(f:Str)(v:V):List (Str×V)->List (Str×V)
 |[]=>[(f,v)]
 | (g,x)::r=>if g=f then (g,v)::r else (g,x)::qj f v r
theorem vh f g v:∀fs:List (Str×V),(qj f v fs).lookup g=if g=f then some v else fs.lookup g
 |[]=>by
  show List.lookup g [(f,v)]=_;by_cases h:g=f
  .have a:=beq_iff_eq.mpr h;simp only[List.lookup,a,aR h]
  .have a:=beq_eq_false_iff_ne.mpr h;simp only[List.lookup,a,aS h]
 | (k,x)::r=>by
  have c:=vh f g v r;rw[show qj f v ((k,x)::r)=(if k=f then (k,v)::r else (k,x)::qj f v r) from rfl];by_cases b:k=f
  .rw[aR b];by_cases h:g=k
   .have a:=beq_iff_eq.mpr h;simp only[List.lookup,a,aR (h.trans b)]
   .have a:=beq_eq_false_iff_ne.mpr h;simp only[List.lookup,a,aS (λe:g=f=>h (e.trans b.symm))]
  .rw[aS b];by_cases h:g=k
   .have a:=beq_iff_eq.mpr h;simp only[List.lookup,a,aS (λe:g=f=>b (h.symm.trans e))]
   .have a:=beq_eq_false_iff_ne.mpr h;simp only[List.lookup,a];exact c
theorem uw f v:∀fs:List (Str×V),f∈(qj f v fs).map (·.1)/\∀g,g∈fs.map (·.1)->g∈(qj f v fs).map (·.1)
 |[]=>⟨by simp[qj],λg h=>by simp at h⟩
 | (k,x)::r=>by
  obtain⟨c,b⟩:=uw f v r;rw[show qj f v ((k,x)::r)=(if k=f then (k,v)::r else (k,x)::qj f v r) from rfl];by_cases a:k=f
  .rw[aR a];subst a;exact⟨by simp,λg h=>by simpa using h⟩
  .rw[aS a];refine⟨?_,λg h=>?_⟩
   .rw[bJ];exact bx _ c
   .rw[bJ]at h ⊢;rcases aG.mp h with e|e
    .exact aG.mpr (.inl e)
    .exact bx _ (b g e)
theorem vj f v:∀fs:List (Str×V),(qj f v fs).length<=fs.length+1
 |[]=>by simp[qj]
 | (k,x)::r=>by
  have b:=vj f v r;rw[show qj f v ((k,x)::r)=(if k=f then (k,v)::r else (k,x)::qj f v r) from rfl];by_cases a:k=f
  .rw[aR a,az,az];omega
  .rw[aS a,az,az];omega
def Bv.some_of(r:Bv (some v) o):∃u,o=some u/\i9 v u:=by
 cases o with
 |none=>exact (r).elim
 |some u=>exact⟨u,rfl,r⟩
def Bv.none_of(r:Bv none o):o=none:=by
 cases o with
 |none=>rfl
 |some u=>exact (r).elim
def Hf(r:i9 v u):W.handedIn u=true:=by
 cases v with
 |non=>cases (r);rfl
 |bl b=>cases (r);rfl
 |int i=>obtain⟨t,e⟩:=(r);cases e;rfl
 |str x=>obtain⟨t,e⟩:=(r);cases e;rfl
 |byt b=>obtain⟨t,e⟩:=(r);cases e;rfl
 |flt b=>obtain⟨t,e⟩:=(r);cases e;rfl
 |ref a=>cases (r);rfl
 |ty n=>cases (r);rfl
section
variable {P:Program}{w:World}{H H':Hp}{h h':Heap}{a C dx:Addr}{fs fs':List (Str×V)}
def vT(c:qZ P w H h)(e:H a=some (.ins C dx fs)):∃b,DU h a dx C b/\(∀f,Bv (fs.lookup f) (b f))/\PySem.Within b (fs.map (·.1))/\fs.length<=1000/\H dx=some (.own a):=by obtain⟨d,z,ne,g,b,n,r,q⟩:=(c a _ e);exact⟨b,⟨g,n,ne⟩,r,q,z,d⟩
end
structure zV(K:W.Frag)(C:Addr):Prop where
 pg:W.plainGet K C Str.empty=true
 hd:W.hasDictIn K C=true
 po:W.plainOver K C=true
 sa:W.findIn K (.ref C) "__setattr__" = some (some (.builtin "object.__setattr__"))
def zV.get{K:W.Frag}(c:zV K C) f:W.plainGet K C f=true:=c.pg
def md(K:W.Frag)(C:Addr)(f:Str):Prop:=W.findIn K (.ref C) f=some none
def md.taker{K:W.Frag}(n:md K C f):W.takerIn K C f=some none:=by unfold W.takerIn;rw[show W.findIn K (.ref C) f=some none from n];rfl
structure OB(K:W.Frag)(C:Addr)(m:Str)(f:Addr):Prop where
 at_:W.findIn K (.ref C) m=some (some (.ref f))
 fn:W.isFn K (.ref f)=true
 kp:W.keepIn K (.ref f)=true
section
variable {X:Cx}{gU:List (Addr×Obj)}{σ:St}{H:Hp}{s:Shared}{a C dx:Addr}{fs:List (Str×V)}{f:Str}{v:V}{A:Around}{E:Value->Shared->Prop}
def Ea(I:iz X gU σ H s)(e:H a=some (.ins C dx fs))(c:zV X.K C)(n:md X.K C f)(l:fs.lookup f=some v)
  (h:∀u d,iz X gU σ H d->i9 v u->Q u d):wpAny (model X.prog X.w) A (getAttr (.ref a) f b) Q E s:=by
 obtain⟨j,O,r,_,_,_⟩:=vT I.hok e;obtain⟨u,i,g⟩:=Bv.some_of (by rw[<-l];exact r f);exact Pi I.kIn O (c.get f) c.hd n i (Hf g) (h u _ (I.tok _) g)
def DZ(I:iz X gU σ H s)(e:H a=some (.ins C dx fs))(c:zV X.K C)(k:OB X.K C m g)(l:fs.lookup m=none)
  (h:Q (.ref g,[.ref a]) s):wpAny (model X.prog X.w) A (getMethod (.ref a) m pl) Q E s:=by
 obtain⟨d,O,r,_,_,_⟩:=vT I.hok e;have b:=Bv.none_of (by rw[<-l];exact r m);exact Jg I.kIn O (c.get m) k.at_ k.fn b h
def EG(I:iz X gU σ H s)(e:H a=some (.ins C dx fs))(c:zV X.K C)(n:md X.K C f)(J:fs.length<1000)(m:i9 y u)
  (h:∀k,iz X gU σ (ja H a (.ins C dx (qj f y fs))) k->Q () k):wpAny (model X.prog X.w) A (setAttr (.ref a) f u) Q E s:=by
 obtain⟨x,O,r,j,_,i⟩:=vT I.hok e;have p:(fs.map (·.1)).length<=sizeLine:=by rw[ax,sizeLine_eq];omega
 refine tR I.kIn O c.sa c.po n.taker c.hd j p λF d t=>h _ ?_;have B:∃o,F.get? dx=some o:=let ⟨o,_,_,e',_⟩:=d.ns;⟨o,e'⟩;refine I.write (by rw[e];exact True.intro) (.inr i) (λb q l z=>(t.2 b l).trans z) B ?_;refine⟨by rw[hU O.ne];exact i,?_,O.ne,d.obj,_,d.ns,λg=>?_,λg D=>?_⟩
 .have:=vj f y fs;omega
 .rw[vh];by_cases q:g=f
  .rw[aR q,aR q];exact m
  .rw[aS q,aS q];exact r g
 .by_cases q:g=f
  .rw[q];exact (uw f y fs).1
  .refine (uw f y fs).2 g (j g λz=>D ?_);show (if g=f then some u else x g)=none;rw[aS q];exact z
def iz.made(I:iz X gU σ H s):iz X gU σ (ja (ja H s.heap.objs.size (.own (s.heap.objs.size+1))) (s.heap.objs.size+1) (.ins C s.heap.objs.size []))
  {s with heap:=(s.heap.push W.emptyDict).push (W.instObj C s.heap.objs.size)}:=by
 have c:(s.heap.push W.emptyDict).get? s.heap.objs.size=some W.emptyDict:=ar s.heap rfl;have g:((s.heap.push W.emptyDict).push (W.instObj C s.heap.objs.size)).get? (s.heap.objs.size+1)=some (W.instObj C s.heap.objs.size):=by have:=ar (s.heap.push W.emptyDict) (o:=W.instObj C s.heap.objs.size) rfl;rwa [Heap.size_push]at this
 have h:(s.heap.push W.emptyDict).Ns s.heap.objs.size (λ_=>none):=⟨W.emptyDict,#[],_,c,rfl,(λe j=>absurd j (by simp)),λ_=>rfl⟩;have i:=I.laid (o:=.own (s.heap.objs.size+1)) (t':=s.toks) (λb u q=>ae _ q) (aL _) ⟨_,c⟩;refine i.laid (λb u q=>ae _ q) (Nat.le_of_eq (Heap.size_push _ _)) ?_;have ne:s.heap.objs.size≠s.heap.objs.size+1:=aN (bK _);refine⟨by rw[hU ne,hC],bL _,ne,g,λ_=>none,(Heap.Ns1.of_empty h).at λo q=>ae _ q,λ_=>True.intro,λy d=>absurd rfl d⟩
def Og(c:attributeBase e f env (eval e env)=eval e env)
  (h:wpAny (model prog w) A (eval e env) (λo b=>wpAny (model prog w) A (getAttr o f true) Q E b) E s):wpAny (model prog w) A (eval (.Attribute e f pos) env) Q E s:=
 Attribute_any_ h (by rw[arm_eval_Attribute,c])
end
def Qg(K:W.Frag)(e:TE)(f:Str):TE:=λc H Q=>e c H λx b=>∃a C d fs v,x=.ref a/\b a=some (.ins C d fs)/\zV K C/\md K C f/\fs.lookup f=some v/\Q v b
def Sw(K:W.Frag)(h e:TE)(f:Str):TS:=λD b H=>e b H λy g=>h b g λx c=>∃a C d fs,x=.ref a/\c a=some (.ins C d fs)/\zV K C/\md K C f/\fs.length<1000/\
 D.nx b (ja c a (.ins C d (qj f y fs)))
section
variable {X:Cx}{o e value:Expr}{f:Str}{pos pos' tpos:Pos}{ta tv:TE}
def RZ(k:PE X e ta)(d:attributeBase e f X.env (eval e X.env)=eval e X.env):PE X (.Attribute e f pos) (Qg X.K ta f):=by intro b s j H Q I h;refine Og d (kh (k b s j H _ I h) λu s1 ⟨x,H1,I1,rx,a,C,dx,fs,v,ex,ea,c,n,l,q⟩=>?_);subst ex;obtain rfl:u=Value.ref a:=rx;exact Ea I1 ea c n l λm p g i=>⟨v,H1,g,i,q⟩
def IM(j:PE X o ta)(i:PE X value tv)(g:swapsWith value (some (.Attribute o f pos')) pos.line X.env=pure false):PS X (.Assign [.Attribute o f pos'] value pos) (Sw X.K ta tv f):=by intro d s b H D I h;refine plainObj_wpAny_Assign_Attribute (kh (i d s b H _ I h) λu s1 ⟨y,H1,I1,ry,q⟩=>kh (j d s1 b H1 _ I1 q) λov s2 ⟨x,H2,I2,rx,a,C,dx,fs,ex,ea,c,n,l,q2⟩=>?_) g;subst ex;obtain rfl:ov=Value.ref a:=rx;exact EG I2 ea c n l ry λm k=>⟨b,_,k,q2⟩
end
section
variable {X:Cx}{gU:List (Addr×Obj)}{σ:St}{H:Hp}{s:Shared}{A:Around}{E:Value->Shared->Prop}{Q:Value->Shared->Prop}{c:Value}{b:Bool}
inductive qH(K:W.Frag)(H:Hp):V->Value->Prop where
 |non:qH K H .non (.type "NoneType")
 |bl (x:Bool):qH K H (.bl x) (.type "bool")
 |int (i:Int):qH K H (.int i) (.type "int")
 |str (x:Str):qH K H (.str x) (.type "str")
 |flt (x:UInt64):qH K H (.flt x) (.type "float")
 |lst {a:Addr} {xs:List V} (e:H a=some (.lst xs)):qH K H (.ref a) (.type "list")
 |frz {a:Addr} {o:Obj} {xs:List V} (e:H a=some (.frz o (.lst xs))):qH K H (.ref a) (.type "list")
 |tup {a:Addr} {xs:List V} (e:H a=some (.tup xs)):qH K H (.ref a) (.type "tuple")
 |dK {a:Addr} {kvs:List (pD×V)} (e:H a=some (.dK kvs)):qH K H (.ref a) (.type "dict")
 |dT {a:Addr} {kvs:List (List pD×V)} (e:H a=some (.dT kvs)):qH K H (.ref a) (.type "dict")
 |ins {a C dx:Addr} {fs:List (Str×V)} (e:H a=some (.ins C dx fs)) (cl:zV K C) (ha:W.findIn K (.ref C) "__class__" = some (some (.builtin "object.__class__")))
   (hn:W.specialIn K (.builtin "object.__class__") "__get__" = some (some (.builtin "getset_descriptor.__get__"))) (htk:W.takesIn K (.builtin "object.__class__")=some true)
   (hm:W.mroIn K C (.type "object")=some true):qH K H (.ref a) (.ref C)
def Hx(I:iz X gU σ H s)(d:i9 x u)(ty:qH X.K H x t)(e:W.kitOne X.K t c=some b)(h:∀m,Q (.bool b) {s with toks:=m}) :
  wpAny (model X.prog X.w) A (call (.builtin "isinstance") [u,c]) Q E s:=by
 cases ty with
 |non=>cases (d);exact W.kia_one W.kitx_none I.kIn True.intro e (λz=>nomatch z) h
 |bl y=>cases (d);exact W.kia_one W.kitx_bool I.kIn True.intro e (λz=>nomatch z) h
 |int i=>obtain⟨t,q⟩:=(d);cases q;exact W.kia_one W.kitx_int I.kIn True.intro e (λz=>nomatch z) h
 |str y=>obtain⟨t,q⟩:=(d);cases q;exact W.kia_one W.kitx_str I.kIn True.intro e (λz=>nomatch z) h
 |flt y=>obtain⟨t,q⟩:=(d);cases q;exact W.kia_one W.kitx_float I.kIn True.intro e (λz=>nomatch z) h
 |@lst a j ea=>cases (d);obtain⟨_,_,n,_,f⟩:=(I.hok a _ ea);exact W.kia_one W.kitx_list I.kIn ⟨_,f,rfl⟩ e (λz=>nomatch z) h
 |@frz a ob j ea=>cases (d);obtain⟨_,_,_,n,_,f⟩:=(I.hok a _ ea);exact W.kia_one W.kitx_list I.kIn ⟨_,f,rfl⟩ e (λz=>nomatch z) h
 |@tup a j ea=>cases (d);obtain⟨_,_,_,p⟩:=(I.hok a _ ea);obtain⟨o,f,g,_⟩:=p;exact W.kia_one W.kitx_tuple I.kIn ⟨o,f,g⟩ e (λz=>nomatch z) h
 |@dK a kvs ea=>cases (d);obtain⟨_,_,r,_,p⟩:=(I.hok a _ ea);obtain⟨o,l,k,f,g,_⟩:=p;exact W.kia_one W.kitx_dict I.kIn ⟨o,f,g.1⟩ e (λz=>nomatch z) h
 |@dT a kvs ea=>cases (d);obtain⟨_,_,j,_,o,l,k,f,g,_⟩:=(I.hok a _ ea);exact W.kia_one W.kitx_dict I.kIn ⟨o,f,g.1⟩ e (λz=>nomatch z) h
 |@ins a C dx fs ea cl ha hn htk hm=>cases (d);obtain⟨B,O,_⟩:=vT I.hok ea;obtain⟨v,J,_⟩:=O.look;exact W.kia_one (W.kitx_own (cl.get _) cl.hd ha hn htk hm) I.kIn J e (λz=>nomatch z) h
end
end L2
namespace L2
open PySem PySem.Spec PyProof.Rows
structure ji(k:Nat)(A:Around):Prop where
 hd:A.handled=none
 dp:A.depth+3*k+5<recursionLimit
 un:A.units+16*k+200<cLine
def ji.mono(r:ji k A)(h:j<=k):ji j A:=⟨r.hd,by have:=r.dp;omega,by have:=r.un;omega⟩
def ji.deeper(r:ji (k+1) A) env:ji k (A.deeper env):=⟨r.hd,by have:=r.dp;show A.depth+1+3*k+5<_;omega,by have:=r.un;show A.units+3+16*k+200<_;omega⟩
def ji.in1(r:ji (k+1) A):ji k A.in1:=⟨r.hd,by have:=r.dp;show A.depth+3*k+5<_;omega,by have:=r.un;show A.units+1+16*k+200<_;omega⟩
def DS{A:Around}:(A.under (.builtin "type.__call__" ⟨.ref C::us,kw⟩)).depth=A.depth+1:=by first|rfl|simp[Around.under,Code.weight,Code.isCreation,Code.isGuard,Code.isCaller,Code.frames,Code.isFrame,guardIds]
def Em{A:Around}:(A.under (.builtin "type.__call__" ⟨.ref C::us,kw⟩)).units=A.units+1:=by first|rfl|simp[Around.under,Code.cUnits,Code.frames,Code.isFrame]
def ji.make(r:ji (k+1) A) C us kw:ji k (A.under (.builtin "type.__call__" ⟨.ref C::us,kw⟩)):=⟨r.hd,by have:=r.dp;rw[DS];omega,by have:=r.un;rw[Em];omega⟩
def ji.depth(r:ji k A):A.depth<recursionLimit:=by have:=r.dp;omega
def ji.units(r:ji k A):A.units+64<cLine:=by have:=r.un;omega
def uO:TA:=λ_ H Q=>Q [] H
def ql(f:TE)(d:TA):TA:=λa H Q=>f a H λx e=>d a e λb c=>Q (x::b) c
section
variable {X:Cx}{e:Expr}{es:List Expr}{te:TE}{t:TA}{pos:Pos}
def sM:PA X [] uO:=λ_ _ _ _ H Q I h=>Calls.spliced_nil ⟨[],H,I,.nil,h⟩
def m9(d:PE X e te)(hr:PA X es t)(c:starEach (e::es) X.env=(false,eval e X.env)::starEach es X.env:=by rfl):PA X (e::es) (ql te t):=by intro pos a s b H Q I h;rw[c];refine Calls.spliced_cons (kh (d a s b H _ I h) λu s1 ⟨x,H1,I1,r1,q1⟩=>?_);exact kh (hr pos a s1 b H1 _ I1 q1) λus s2 ⟨xs,H2,I2,r2,q2⟩=>⟨x::xs,H2,I2,.cons r1 r2,q2⟩
def Rj(t:TA):TE:=λc H Q=>t c H λa b=>a.length<=sizeLine/\∀p,b p=none->Q (.ref p) (ja b p (.tup a))
def RI(t:TA):TE:=λc H Q=>t c H λa b=>a.length<=sizeLine/\∀p,b p=none->Q (.ref p) (ja b p (.lst a))
def Lu{x1}(h:PA X es t):PE X (.Tuple es x1 pos) (Rj t):=by intro a s f H Q I c;refine wpAny_Tuple_spliced (kh (h pos a s f H _ I c) λus s1 ⟨xs,H1,I1,r,z,q⟩=>⟨by rw[<-r.length];exact z,?_⟩);have d:=I1.hok.fresh (aL _);refine⟨.ref s1.heap.objs.size,ja H1 s1.heap.objs.size (.tup xs),I1.laid (λb u e=>ae _ e) (aL _) ?_,rfl,q _ d⟩;exact⟨z,us,r,⟨_,ar _ rfl,rfl,_,rfl,rfl⟩⟩
def RO(h:PA X es t):PE X (.List es pos) (RI t):=by intro a s f H Q I c;refine wpAny_List_spliced (kh (h pos a s f H _ I c) λus s1 ⟨xs,H1,I1,r,z,q⟩=>⟨by rw[<-r.length];exact z,?_⟩);have d:=I1.hok.fresh (aL _);refine⟨.ref s1.heap.objs.size,ja H1 s1.heap.objs.size (.lst xs),I1.laid (λb u e=>ae _ e) (aL _) ?_,rfl,q _ d⟩;exact⟨z,us,0,r,ar _ rfl⟩
end
abbrev Sp:=List V->Hp->VK->XK->Prop
abbrev PJ:=List Env->Hp->Shared->XK->Value->Shared->Prop
structure xt(P:Program)(w:World)(K:W.Frag)(mg:Str->Option Value)(base:Heap)(A:Around)(outer:List Env)(s:Shared)(H:Hp):Prop where
 frames:A.frames=some outer
 mod:Mod K mg base
 bs:∀b o,base.get? b=some o->s.heap.get? b=some o/\H b=none
 bsz:base.objs.size<=s.heap.objs.size
 funs:s.heap.FunFrames base outer
 frf:∀b∈Gq outer,H b=none
 hok:qZ P w H s.heap
 bare:AllBare s.gens
 tab:Fs base H
def CE(a:List Env)(P:Program)(w:World)(H:Hp)(s:Shared)(Q:VK)(u:Value)(b:Shared):Prop:=∃v c,b.os=s.os/\AllBare b.gens/\Un (Gq a) [] H c s.heap b.heap/\qZ P w c b.heap/\i9 v u/\Q v c
def CR(c:PJ)(a:List Env)(P:Program)(w:World)(H:Hp)(s:Shared)(Q:VK)(E:XK)(r:Result)(b:Shared):Prop:=
 match r with
 |.ok (.ret u)=>CE a P w H s Q u b
 |.ok _=>False
 |.error e=>c a H s E e b
structure nM(P:Program)(w:World)(K:W.Frag)(mg:Str->Option Value)(base:Heap)(CX:PJ)(k:Nat)(f:Addr)(fd:FuncData)(ps:List Str)(sp:Sp):Prop where
 len:∀vs H Q E,sp vs H Q E->vs.length=ps.length
 run:∀(A:Around) (outer:List Env) (s:Shared) (H:Hp) (args:Args) (us:List Value) (vs:List V) (Q:VK) (E:XK),ji k A->xt P w K mg base A outer s H->BindsTo s fd args (ps.zip us)->iO vs us->sp vs H Q E->
  codeAny (model P w) A (.call (.ref f) args) (CR CX outer P w H s Q E) s
def nM.mono{K:W.Frag}(F:nM P w K mg base CX j f fd ps sp)(h:j<=k) :
  nM P w K mg base CX k f fd ps sp:=⟨F.len,λA a s H b c d Q E hr=>F.run A a s H b c d Q E (hr.mono h)⟩
def nM.imp{K:W.Frag}(F:nM P w K mg base CX k f fd ps sp)
  (h:∀vs H Q E,sp' vs H Q E->sp vs H Q E):nM P w K mg base CX k f fd ps sp':=
 ⟨λvs H Q E q=>F.len vs H Q E (h _ _ _ _ q),λA a s H b c vs Q E hr i e g d=>F.run A a s H b c vs Q E hr i e g (h _ _ _ _ d)⟩
def xt.make{K:W.Frag}(e:xt P w K mg base A outer s H) C us kw :
  xt P w K mg base (A.under (.builtin "type.__call__" ⟨.ref C::us,kw⟩)) outer s H:=⟨by first|exact e.frames|(simpa[Around.under,Code.envs,Code.isFrame,pushEnvs] using e.frames),e.mod,e.bs,e.bsz,e.funs,e.frf,e.hok,e.bare,e.tab⟩
def xt.in1{K:W.Frag}(e:xt P w K mg base A outer s H) :
  xt P w K mg base A.in1 outer s H:=⟨e.frames,e.mod,e.bs,e.bsz,e.funs,e.frf,e.hok,e.bare,e.tab⟩
section
variable {X:Cx}{gU:List (Addr×Obj)}{σ:St}{H:Hp}{s s':Shared}
def iz.env0(I:iz X gU σ H s):xt X.prog X.w X.K X.mg X.base X.A X.stack s H:=⟨I.ok.frames,I.ok.mod,I.bs,aO I.ok.bsz I.sz,I.stack,I.stkFree,I.hok,I.bare,I.tab⟩
def iz.after(I:iz X gU σ H s)(h:CE X.stack X.prog X.w H s Q u s'):EP X gU σ Q u s':=by obtain⟨v,f,i,a,un,c,r,q⟩:=h;obtain⟨j,g,d,t,e⟩:=s';obtain rfl:e=s.os:=i;exact⟨v,f,I.call un c a (λb z=>absurd z (by simp)),r,q⟩
end
def zA(b:Sp)(a:List V)(E:XK)(t:TA):TE:=λd H Q=>t d H λc e=>b (c++a) e Q E
def zP(C:Addr)(m:Str)(e:Sp)(b:List V)(E:XK)(i:TE)(t:TA):TE:=λc H Q=>i c H λx d=>∃a h fs,x=.ref a/\d a=some (.ins C h fs)/\fs.lookup m=none/\
 t c d λg f=>e (x::(g++b)) f Q E
def FU(C:Addr)(d:Sp)(b:List V)(E:XK)(t:TA):TE:=λg H Q=>t g H λf c=>∀x a,c x=none->c a=none->a≠x->
 d (.ref x::(f++b)) (ja (ja c a (.own x)) x (.ins C a [])) (λv e=>v=.non/\Q (.ref x) e) E
def qI(K:W.Frag)(fd:FuncData)(c:List Str)(b:List Value):Prop:=∀(s:Shared) (a:List Value),K.In s.heap->(a++b).length=c.length->BindsTo s fd ⟨a,[]⟩ (c.zip (a++b))
def qI.all{K:W.Frag}(h:∀us:List Value,us.length=ps.length->bindArgs fd ⟨us,[]⟩=pure (ps.zip us)):qI K fd ps []:=λs us _ a=>by rw[bM]at a ⊢;exact .of_eq (h us a)
def uI(c:PJ)(X:Cx)(E:XK):Prop:=∀(b:List (Addr×Obj)) (d:St) (H:Hp) (s:Shared) (e:Value) (a:Shared),iz X b d H s->c X.stack H s E e a->X.xe e a
section
variable {X:Cx}{CX:PJ}{k:Nat}{f C:Addr}{fd:FuncData}{ps:List Str}{sp:Sp}{dvs:List V}{ds:List Value}{E:XK}{x m:Str}{p pos apos:Pos}{e o:Expr}{es:List Expr}{ta:TE}{t:TA}
theorem Ln(F:nM X.prog X.w X.K X.mg X.base CX k f fd ps sp)(hr:ji k X.A)(c:qI X.K fd ps ds)(i:iO dvs ds)(g:uI CX X E)
  (I:iz X gU σ H s) (r:iO vs us) (h:sp (vs++dvs) H Q E):wpAny (model X.prog X.w) X.A (call (.ref f) us) (EP X gU σ Q) X.xe s:=by
 have b:=r.append i;have d:(us++ds).length=ps.length:=by rw[<-b.length];exact F.len _ _ _ _ h
 refine wpAny_call (codeAny_mono (F.run X.A X.stack s H ⟨us,[]⟩ (us++ds) (vs++dvs) Q E hr I.env0 (c s us I.kIn d) b h) λr j a=>?_);cases r with
 |error e=>exact g gU σ H s e j I a
 |ok fl=>
  cases fl with
  |ret u=>exact I.after a
  |next=>exact False.elim a
  |brk=>exact False.elim a
  |cont=>exact False.elim a
def OZ(F:nM X.prog X.w X.K X.mg X.base CX k f fd ps sp)(hr:ji k X.A)(u:Gl X x)(l:X.mg x=some (.ref f))(y:W.keepIn X.K (.ref f)=true)(c:qI X.K fd ps ds)(j:iO dvs ds)(d:uI CX X E)
  (g:PA X (e::es) t) (b:(x==("__debug__" : Str))=false:=by decide) (n:starEach (e::es) X.env=(false,eval e X.env)::starEach es X.env:=by rfl) (a:(backTo pos (starEach es X.env)).any (·.1)=false:=by rfl) :
  PE X (.Call (.Name x p) (e::es) [] pos) (zA sp dvs E t):=by
 intro v s i H Q I h;refine wpAny_Call_Name_kw (Bc I u l ?_ b);refine W.callWith_K I.ok.mod.kin y (kh (g pos v s i H _ I h) λus s1 ⟨vs,H1,I1,r,q⟩=>⟨I1.kIn,?_⟩) n a;exact Ln F hr c j d I1 r q
def Iy(v:PE X o ta)(c:zV X.K C)(b:OB X.K C m f)(F:nM X.prog X.w X.K X.mg X.base CX k f fd ps sp)(hr:ji k X.A)(g:qI X.K fd ps ds)(r:iO dvs ds)(j:uI CX X E)
  (i:eval (.Call (.Attribute o m apos) [] [] pos) X.env=(do
   let ov <-eval o X.env
   standAt apos.atName
   let (f,first) <-holding [ov] (getMethod ov m pl)
   callWith pos f first (backTo pos (starEach [] X.env)) (backToKw pos (keywordEach [] X.env))):=by rfl) :
  PE X (.Call (.Attribute o m apos) [] [] pos) (zP C m sp dvs E ta uO):=by
 intro d s n H Q I h;refine W.methodCall_KW (kh (v d s n H _ I h) λu s1 ⟨x,H1,I1,rx,a,dx,fs,ex,ea,l,q⟩=>?_) i;subst ex;obtain rfl:u=Value.ref a:=rx;refine DZ I1 ea c b l ?_;exact W.callWith_K0 I1.kIn b.kp (Ln (vs:=[.ref a]) F hr g r j I1 (.cons rfl .nil) q)
structure Mk(K:W.Frag)(C f:Addr):Prop where
 makes:W.makesIn K C=true
 init:W.findIn K (.ref C) "__init__" = some (some (.ref f))
 fn:W.isFn K (.ref f)=true
 kp:W.keepIn K (.ref C)=true
theorem J0(M:Mk X.K C f)(F:nM X.prog X.w X.K X.mg X.base CX k f fd ps sp)(hr:ji (k+1) X.A)(g:qI X.K fd ps ds)(n:iO dvs ds)
  (i:uI CX X E) (I:iz X gU σ H s) (r:iO vs us)
  (h:∀x dx,H x=none->H dx=none->dx≠x->sp (.ref x::(vs++dvs)) (ja (ja H dx (.own x)) x (.ins C dx [])) (λv y=>v=.non/\Q (.ref x) y) E) :
  wpAny (model X.prog X.w) X.A (call (.ref C) us) (EP X gU σ Q) X.xe s:=by
 have d:=h (s.heap.objs.size+1) s.heap.objs.size (I.hok.fresh (bN _)) (I.hok.fresh (aL _)) (aN (bK _));have b:=iz.made (C:=C) I;have c:iO (V.ref (s.heap.objs.size+1)::(vs++dvs)) (Value.ref (s.heap.objs.size+1)::(us++ds)):=.cons rfl (r.append n);have j:(Value.ref (s.heap.objs.size+1)::us++ds).length=ps.length:=by have e:=c.length;rw[F.len _ _ _ _ d]at e;exact e.symm
 refine wpAny_call (Kr I.kIn M.makes M.init (beq_iff_eq.mp M.fn) (codeAny_mono (F.run _ X.stack _ _ ⟨Value.ref (s.heap.objs.size+1)::us,[]⟩ (Value.ref (s.heap.objs.size+1)::(us++ds)) _ _ E (hr.make C us [])
  (b.env0.make C us []) (g _ (Value.ref (s.heap.objs.size+1)::us) b.kIn j) c d) λr J a=>?_))
 cases r with
 |error e=>exact i gU σ _ _ e J b a
 |ok fl=>
  cases fl with
  |ret u=>obtain⟨v,l,D,z,q,B⟩:=b.after a;subst q;exact⟨z,⟨V.ref (s.heap.objs.size+1),l,D,rfl,B⟩⟩
  |next=>exact False.elim a
  |brk=>exact False.elim a
  |cont=>exact False.elim a
def OE(M:Mk X.K C f)(F:nM X.prog X.w X.K X.mg X.base CX k f fd ps sp)(hr:ji (k+1) X.A)(u:Gl X x)(l:X.mg x=some (.ref C))(c:qI X.K fd ps ds)(j:iO dvs ds)(d:uI CX X E)
  (g:PA X (e::es) t) (b:(x==("__debug__" : Str))=false:=by decide) (n:starEach (e::es) X.env=(false,eval e X.env)::starEach es X.env:=by rfl) (a:(backTo pos (starEach es X.env)).any (·.1)=false:=by rfl) :
  PE X (.Call (.Name x p) (e::es) [] pos) (FU C sp dvs E t):=by
 intro v s i H Q I h;refine wpAny_Call_Name_kw (Bc I u l ?_ b);refine W.callWith_K I.ok.mod.kin M.kp (kh (g pos v s i H _ I h) λus s1 ⟨vs,H1,I1,r,q⟩=>⟨I1.kIn,?_⟩) n a;exact J0 M F hr c j d I1 r q
end
structure i8(N P:List Str)(sc:Scope):Prop where
 kind:sc.kind=.function
 co:sc.isCoroutine=false
 gen:sc.isGenerator=false
 nd:N.Nodup
 pre:N.take P.length=P
 par:∀x∈P,sc.names.lookup x=some .local\/sc.names.lookup x=some .cell
 nofree:∀y∈sc.names,y.2≠.free
theorem yE{kindOf:Str->Option NameKind}:∀{binds} {m},(∀v,(x,v)∉binds)->bindL kindOf binds m x=m x
 |[],_,_=>rfl
 | (n,v)::r,m,h=>by
  unfold bindL;rw[yE λw hw=>h w (bx _ hw)];split
  .have:x≠n:=by rintro rfl;exact h v bu
   simp[this]
  .rfl
theorem zu{kindOf:Str->Option NameKind}:∀{binds} {m},(∀v,(x,v)∉binds)->bindC kindOf binds m x=m x
 |[],_,_=>rfl
 | (n,v)::r,m,h=>by
  unfold bindC;rw[zu λw hw=>h w (bx _ hw)];split
  .rfl
  .have:x≠n:=by rintro rfl;exact h v bu
   simp[this]
theorem zk{kindOf:Str->Option NameKind}:∀{P:List Str} {vs:List Value} {i:Nat} {m:Str->Option Value},P.Nodup->P[i]? = some x->vs[i]? = some v->kindOf x=some .local->
  bindL kindOf (P.zip vs) m x=some v
 |[],_,_,_,_,h,_,_=>by simp at h
 |_::_,[],_,_,_,_,h,_=>by simp at h
 |p::P,w::vs,0,m,nd,h1,h2,hk=>by simp at h1 h2;subst h1;subst h2;show bindL kindOf ((p,w)::P.zip vs) m p=_;unfold bindL;rw[yE λv a=>(bO.mp nd).1 (aX a).1,aR hk];simp
 |p::P,w::vs,i+1,m,nd,h1,h2,hk=>by unfold bindL;exact zk (bO.mp nd).2 (by simpa using h1) (by simpa using h2) hk
theorem zH{kindOf:Str->Option NameKind}:∀{P:List Str} {vs:List Value} {i:Nat} {m:Str->Option Value},P.Nodup->P[i]? = some x->vs[i]? = some v->kindOf x≠some .local->
  bindC kindOf (P.zip vs) m x=some v
 |[],_,_,_,_,h,_,_=>by simp at h
 |_::_,[],_,_,_,_,h,_=>by simp at h
 |p::P,w::vs,0,m,nd,h1,h2,hk=>by simp at h1 h2;subst h1;subst h2;show bindC kindOf ((p,w)::P.zip vs) m p=_;unfold bindC;rw[zu λv a=>(bO.mp nd).1 (aX a).1,aS hk];simp
 |p::P,w::vs,i+1,m,nd,h1,h2,hk=>by unfold bindC;exact zH (bO.mp nd).2 (by simpa using h1) (by simpa using h2) hk
noncomputable def lK(N:List Str)(vs:List V):St:=vs.map some++List.replicate (N.length-vs.length) none
noncomputable def ny(g:PJ)(P:Program)(w:World)(K:W.Frag)(mg:Str->Option Value)(base:Heap)(N:List Str)(b:Str)(a:Scope)(f:Addr)(d:Value)(A:Around)(outer:List Env)(s:Shared)(H:Hp)(E:XK):Cx where
 prog:=P
 w:=w
 K:=K
 mg:=mg
 base:=base
 A:=A.deeper (envOfC b a s.heap.objs.size f d)
 N:=N
 s₀:=s
 H₀:=H
 env:=envOfC b a s.heap.objs.size f d
 outer:=outer
 stack:=envOfC b a s.heap.objs.size f d::outer
 ex:=[]
 calm:=true
 fn:=λ_=>true
 pn:=[]
 xe:=λe i=>wpAny (model P w) (A.deeper (envOfC b a s.heap.objs.size f d)) (leaving (envOfC b a s.heap.objs.size f d) e) (λ_ c=>g outer H s E e c) (λh c=>g outer H s E h c) i
def mQ{a:Scope}(h:a.names.lookup x=some .cell):∃c,(cellsFrom n a.names []).lookup x=some c:=by have q:=W.cellsFrom_some a.names n [] (.inl h);exact bP.mp q
theorem zq{K:W.Frag}
  (S:i8 N ps scope) (I:A.handled=none) (g:xt P w K mg base A outer s H) (L:vs.length=ps.length) (r:iO vs us)
  (x:InCallC s s.heap.objs.size (bindL (envOfC qual scope s.heap.objs.size f cd).kindOf (ps.zip us) λ_=>none) (cellsFrom (s.heap.objs.size+1) scope.names []) (bindC (envOfC qual scope s.heap.objs.size f cd).kindOf (ps.zip us) λ_=>none) s1) :
  iz (ny CX P w K mg base N qual scope f cd A outer s H E) [] (lK N vs) H s1:=by
 have D:ps.length<=N.length:=by have:=congrArg List.length S.pre;rw[bQ]at this;omega
 obtain⟨o,R,rfl,C⟩:=x.done;have l:∀b:Addr,b∉(ny CX P w K mg base N qual scope f cd A outer s H E).ex:=λb z=>absurd (show b∈([]) from z) (by simp);refine⟨⟨g.mod,S.kind,rfl,rfl,aL _,λy z c o d=>?_,λy j=>?_,λy c _ h=>?_,λ_=>I,Around.frames_deeper g.frames,.inr ⟨rfl,rfl⟩,λb z=>absurd z (l b),g.bs,g.bsz,λb _ _=>l b,λb z=>absurd z (l b),g.funs,g.frf,g.tab⟩,
  rfl,g.bare,Un.kept C,⟨_,x.toInCall.ns,λi y v o d Q=>?_⟩,λy c h=>⟨_,x.cell y c h⟩,g.hok.fresh (aL _),λy c h=>?_,λp m=>absurd (show p∈([]) from m) (by simp),g.hok.kept C,?_⟩
 .exact name_of_addr x.apart (PySem.mem_of_lookup o) (PySem.mem_of_lookup d)
 .have j:=j;rcases j with j|j
  .exact mQ j
  .exact absurd rfl (S.nofree _ (PySem.mem_of_lookup j))
 .exact bj (x.above y c (PySem.mem_of_lookup h))
 .have t:i<vs.length:=by
   unfold lK at d;by_cases t:i<vs.length
   .exact t
   .rw[List.getElem?_append_right (by simpa using t)]at d;rw[List.getElem?_replicate]at d;split at d<;>cases d
  have F:vs[i]? = some v:=by
   unfold lK at d;rw[List.getElem?_append_left (by simpa using t),aw]at d;cases e:vs[i]? with
   |none=>rw[e]at d;cases d
   |some a=>rw[e]at d;cases d;rfl
  obtain⟨u,B,J⟩:=r.get F;have m:ps[i]? = some y:=by rw[<-S.pre,List.getElem?_take_of_lt (by omega)];exact o
  have n:ps.Nodup:=by rw[<-S.pre];exact S.nd.sublist (List.take_sublist _ _)
  refine⟨u,J,?_⟩;rcases S.par y (au m) with k|k
  .exact .inl ⟨k,zk n m B k⟩
  .obtain⟨c,e⟩:=mQ k;refine .inr ⟨.inl k,c,e,?_⟩;have q:=x.cell y c e;rw[zH n m B (by show scope.names.lookup y≠_;rw[k];decide)]at q;exact q
 .exact g.hok.fresh (bj (x.above y c (PySem.mem_of_lookup h)))
 .unfold lK;show _=N.length;rw[aU,ax,List.length_replicate];omega
theorem PF{K:W.Frag}{Z kV B U c Y oc:Value}(lk:K.lookup f=some ⟨oc,od,.func (W.fnOf name qual params body scope Z kV B U an c Y),osl⟩)(D:W.codeIn K c qual=true)(S:i8 N ps scope)
  (z:∀vs H Q E,sp vs H Q E->vs.length=ps.length)
  (h:∀A a s H vs Q E,ji k (A.deeper (envOfC qual scope s.heap.objs.size f c))->sp vs H Q E->
   ∃t,Bg (ny CX P w K mg base N qual scope f c A a s H E) body t/\t {nx:=λ_ g=>Q .non g,rt:=Q} (lK N vs) H) :
  nM P w K mg base CX (k+1) f (W.fnOf name qual params body scope Z kV B U an c Y) ps sp:=by
 refine⟨z,λA a s H args us vs Q E hr p hb r m=>?_⟩;have hl:=z _ _ _ _ m;have R:=p.mod.kin.keeps λb o e=>(p.bs b o e).1;have C:=p.mod.nolimit.keeps λb o e=>(p.bs b o e).1;have i:∀y∈ps.zip us,scope.names.lookup y.1=some .local\/(scope.names.lookup y.1=some .cell/\((cellsFrom (s.heap.objs.size+1) scope.names []).lookup y.1).isSome=true):=λ⟨n,v⟩ hy=>by
  rcases S.par n (aX hy).1 with q|q
  .exact .inl q
  .exact .inr ⟨q,W.cellsFrom_some _ _ _ (.inl q)⟩
 refine codeAny_call_function hr.depth (R _ _ lk) rfl S.co S.gen rfl (W.codeRec_of R D) (hb _ _ _ _ ?_);refine wpAny_newFunctionEnv_cells S.kind i λenv he X x=>?_;subst he;refine⟨C.keeps x.toInCall.keep,codeAny_func ?_⟩;obtain⟨t,ht,hq⟩:=h A a s H vs Q E (hr.deeper _) m;have I:iz (ny CX P w K mg base N qual scope f c A a s H E) [] (lK N vs) H X:=zq S hr.hd p hl r x;refine wpAny_mono (ht [] X (lK N vs) H _ I hq) (λfl L j=>?_) λe L j=>j;have l:∀{d:St} {g:Hp} {v:V} {u:Value},iz (ny CX P w K mg base N qual scope f c A a s H E) [] d g L->i9 v u->Q v g->CE a P w H s Q u L:=λ{d g v u} J F q=>⟨v,g,J.os,J.bare,J.base,J.hok,F,q⟩
 cases fl with
 |ret u=>obtain⟨v,d,g,J,F,q⟩:=j;exact l J F q
 |next=>obtain⟨d,g,J,q⟩:=j;exact l (v:=V.non) J rfl q
 |brk=>obtain⟨_,_,_,q⟩:=j;exact False.elim q
 |cont=>obtain⟨_,_,_,q⟩:=j;exact False.elim q
end L2
namespace L2
open PySem PySem.Spec PyProof.Rows
section
variable {X:Cx}{x:Str}{p pos:Pos}{e:Expr}{es:List Expr}{t:TA}{id T:String}{r:List V->Hp->VK->Prop}
def Mp(r:List V->Hp->VK->Prop)(t:TA):TE:=λb H Q=>t b H λa c=>r a c Q
def C8(j:lA X (.builtin id) r)(m:Gl X x)(k:X.mg x=none)(f:bootBuiltins x=some (.builtin id))(i:PA X (e::es) t)(g:x≠ "__name__" :=by decide)(a:(x==("__debug__" : Str))=false:=by decide)
  (l:starEach (e::es) X.env=(false,eval e X.env)::starEach es X.env:=by rfl) (b:(backTo pos (starEach es X.env)).any (·.1)=false:=by rfl):PE X (.Call (.Name x p) (e::es) [] pos) (Mp r t):=by
 intro c s d H Q I h;refine wpAny_Call_Name_kw (sC I m k f ?_ g a);exact PyProof.Rows.callWith_builtin1 (kh (i pos c s d H _ I h) λus s1 ⟨vs,H1,I1,r1,q1⟩=>j c s1 d H1 vs us Q I1 r1 q1) l b
def uL(j:lA X (.type T) r)(m:Gl X x)(k:X.mg x=none)(f:bootBuiltins x=some (.type T))(i:PA X (e::es) t)(g:x≠ "__name__" :=by decide)(a:(x==("__debug__" : Str))=false:=by decide)
  (l:starEach (e::es) X.env=(false,eval e X.env)::starEach es X.env:=by rfl) (b:(backTo pos (starEach es X.env)).any (·.1)=false:=by rfl):PE X (.Call (.Name x p) (e::es) [] pos) (Mp r t):=by
 intro c s d H Q I h;refine wpAny_Call_Name_kw (sC I m k f ?_ g a);exact PyProof.Rows.callWith_type1 (kh (i pos c s d H _ I h) λus s1 ⟨vs,H1,I1,r1,q1⟩=>j c s1 d H1 vs us Q I1 r1 q1) l b
end
end L2
namespace HT
open PySem PyProof.Rows
section
variable {prog:Program}{w:World}{A:Around}{E:Value->Shared->Prop}{s:Shared}
def cat_tup(v:IsTup s.heap t vs.toArray)(r:IsTup s.heap b ws.toArray)(p:vs≠[])
  (u:ws=[]->Q (.ref t) s) (x:ws≠[]->Q (.ref s.heap.objs.size) {s with heap:=s.heap.push {cls:=.type "tuple",data:=.seq (vs++ws).toArray}})
  (hsz:vs.length+ws.length<=sizeLine):wpAny (model prog w) A (binaryOp .Add (.ref t) (.ref b)) Q E s:=by
 obtain⟨⟨cls,m,data,j⟩,h,k,n,l⟩:=id v;obtain⟨⟨o,f,i,g⟩,a,d,q,c⟩:=id r;simp only at k l d c;subst k l d c;have e:vs.toArray++ws.toArray=(vs++ws).toArray:=by simp
 by_cases hw:ws=[]
 .exact concat_meets ⟨_,h,rfl⟩ ⟨_,a,rfl⟩ noFill_tuple_add seq_tuple_add PySem.F.slot_tuple_add PySem.F.entry_tuple_add (PySem.F.args_tuple_add_2 _ _)
   (tuple_addW1 t b vs.toArray ws.toArray n q m f j g (by simpa using p) (by simp[hw])) ⟨h,a,u hw⟩
 .refine concat_meets ⟨_,h,rfl⟩ ⟨_,a,rfl⟩ noFill_tuple_add seq_tuple_add PySem.F.slot_tuple_add PySem.F.entry_tuple_add (PySem.F.args_tuple_add_2 _ _)
   (tuple_addW2 t b vs.toArray ws.toArray n q m f j g (by simpa using p) (by simpa using hw) (by rw[bG,bG];exact hsz)) ⟨h,a,?_⟩
  rw[e];exact x hw
noncomputable def sIx(n d:Nat):Option Int->Nat
 |none=>d
 |some v=>if v<0 then (v+(n:Int)).toNat else min v.toNat n
def sIx_none n d:sIx n d none=d:=rfl
def sIx_nat(n d k:Nat):sIx n d (some (k:Int))=min k n:=by show (if k<0 then (k+(n:Int)).toNat else min (k:Int).toNat n)=min k n;rw[aS (by omega),bR]
def Gs v (n d:Nat):(if v<0 then max (v+(n:Int)) 0 else min v (n:Int))=((sIx n d (some v):Nat):Int):=by
 show (if v<0 then max (v+n) 0 else min v n)=(((if v<0 then (v+n).toNat else min v.toNat n):Nat):Int);by_cases a:v<0
 .simp only[aR a];omega
 .simp only[aS a];omega
def E7 lo a (n:Nat):Builtin.Slice.sliceAdjust lo a 1 (n:Int)=(((sIx n 0 lo:Nat):Int),((sIx n n a:Nat):Int)):=by
 have b:¬(1<0):=by omega
 unfold Builtin.Slice.sliceAdjust;simp only[b,if_false];refine Prod.ext ?_ ?_
 .cases lo with
  |none=>rfl
  |some v=>exact Gs v n 0
 .cases a with
  |none=>rfl
  |some v=>exact Gs v n n
def DA(i j:Nat):Builtin.Slice.slicePlaces (i:Int) (j:Int) 1=j-i:=by
 unfold Builtin.Slice.slicePlaces;have a:1>0:=by omega
 simp only[a,if_true,Int.ediv_one];split<;>omega
def wg(p:IsPart v o)(h:Q o s):wpAny (model prog w) A (Builtin.Slice.slicePartIndex v) Q E s:=by
 cases p with
 |none=>exact slicePart_none h
 |int i t=>exact slicePart_int h
def pA{a c:Option Int}{n:Nat}(e:s.heap.IsSliceOf sl vl vu .none)(i:IsPart vl a)(g:IsPart vu c)
  (h:Q (((sIx n 0 a:Nat):Int),1,sIx n n c-sIx n 0 a) s):wpAny (model prog w) A (Builtin.Slice.sliceApplied (.ref sl) (pure (n:Int))) Q E s:=by
 obtain⟨j,d,f,b⟩:=id e;unfold Builtin.Slice.sliceApplied Builtin.Slice.sliceFields;refine ao (ao (wpAny_field d b rfl (ao (wpAny_field d b rfl (ao (wpAny_field d b rfl (ak ?_)))))));refine ao (slicePart_none ?_);rw[aS (by decide)];refine ao (wg i (ao (wg g (ao (ak ?_)))));show wpAny _ _ (match Builtin.Slice.sliceAdjust a c 1 n with|(a,c)=>pure (a,(1:Int),Builtin.Slice.slicePlaces a c 1)) _ _ s;rw[E7 a c n];show wpAny _ _ (pure (((sIx n 0 a):Int),1,Builtin.Slice.slicePlaces ((sIx n 0 a):Int) ((sIx n n c):Int) 1)) _ _ s;rw[DA];exact ak h
def Kb(xs:Array Value)(i k:Nat):((List.range k).filterMap λ(m:Nat)=>xs[((i:Int)+(m:Int)*1).toNat]?).toArray=((xs.toList.drop i).take k).toArray:=by
 have e:(λ(m:Nat)=>xs[(i+(m:Int)*1).toNat]?)=λm=>xs[i+m]?:=by
  funext m;have:(i+(m:Int)*1).toNat=i+m:=by omega
  rw[this]
 rw[e];have:=pick_run xs i k;rw[List.filterMap_map]at this;have a:((λx=>xs[x]?) ∘ λx=>i+x)=λm=>xs[i+m]?:=rfl;rw[a]at this;rw[this]
theorem getItem_tuple_cut{a b:Option Int}(c:IsTup s.heap t items)(j:s.heap.IsSliceOf sl vl vu .none)(l:IsPart vl a)(m:IsPart vu b)
  (hw:¬(sIx items.size 0 a=0/\sIx items.size items.size b=items.size))
  (h:Q (.ref s.heap.objs.size) {s with heap:=s.heap.push {cls:=.type "tuple",data:=.seq ((items.toList.drop (sIx items.size 0 a)).take (sIx items.size items.size b-sIx items.size 0 a)).toArray}})
  (hsz:items.size<=sizeLine):wpAny (model prog w) A (getItem (.ref t) (.ref sl)) Q E s:=by
 have d:sizeOk (.seq ((items.toList.drop (sIx items.size 0 a)).take (sIx items.size items.size b-sIx items.size 0 a)).toArray):=by show ((items.toList.drop (sIx items.size 0 a)).take (sIx items.size items.size b-sIx items.size 0 a)).toArray.size<=sizeLine;rw[bG,bQ,bS,bA];omega
 obtain⟨n,f,e,k⟩:=id j;have g:s.TypeIs (.ref sl) "slice" :=⟨n,f,e⟩;unfold getItem;try with_reducible refine wpAny_holding ?_;first|refine ao (ak ?_)|skip
 refine ao (wpAny_sequenceKey c.typeIs (by decide) ?_);refine ao (wpAny_callSpecial?_slot c.typeIs PyProof.Rows.slot_tuple_getitem
  (wpAny_call_entry PyProof.Rows.slot_tuple_getitem c.typeIs entry_tuple_getitem ?_ (args_tuple_getitem _ _)))
 show wpAny _ _ (Builtin.Tuple.tupleItemsOf (.ref t) >>= _) _ _ s;refine ao (tupleItemsOf_ c ?_);refine ao (wpAny_typeOf g ?_);rw[aR (by decide)];refine ao (pA j l m ?_);have i:¬((((sIx items.size 0 a):Int)==0&&(1:Int)==1&&(sIx items.size items.size b-sIx items.size 0 a)==items.size)=true):=by intro q;rw[bT,bT]at q;have p:=eq_of_beq q.1.1;have o:=eq_of_beq q.2;exact hw ⟨by omega,by omega⟩
 show wpAny _ _ (if (((sIx items.size 0 a):Int)==0&&1==1&&(sIx items.size items.size b-sIx items.size 0 a)==items.size)=true then _ else _) _ _ s;rw[aS i,Kb];first
  |exact ao (wpAny_newObj_type (ak ⟨_,rfl,ak h⟩) d)
  |exact ao (wpAny_newObj_type (ao (ak (ak ⟨_,rfl,ak h⟩))) d)
  |exact ao (ao (wpAny_newObj_type (ak (ak ⟨_,rfl,ak h⟩)) d))
  |exact ao (ao (wpAny_newObj_type (ak ⟨_,rfl,ak h⟩) d))
end
end HT
namespace L2
open PySem PySem.Spec PyProof.Rows
abbrev TO:=St->Hp->(Option Int->Hp->Prop)->Prop
def PO(X:Cx)(e:Option Expr)(t:TO):Prop:=
 ∀(b:List (Addr×Obj)) (s:Shared) (a:St) (H:Hp) (Q:Option Int->Hp->Prop),iz X b a H s->t a H Q->
  wpAny (model X.prog X.w) X.A (evalPart e X.env) (λu d=>∃o c,iz X b a c d/\IsPart u o/\Q o c) X.xe s
def Gh:TO:=λ_ H Q=>Q none H
def Px(t:TE):TO:=λa H Q=>t a H λx b=>∃i,x=.int i/\Q (some i) b
section
variable {X:Cx}{e:Expr}{te:TE}{lo hi:Option Expr}{tl th:TO}{pos p2:Pos}
def OM:PO X none Gh:=by intro a s b H Q I h;rw[evalPart_none];exact ak ⟨none,H,I,.none,h⟩
def Ni(h:PE X e te):PO X (some e) (Px te):=by intro a s b H Q I hw;rw[evalPart_some];refine kh (h a s b H _ I hw) λu s1 ⟨x,H1,I1,r1,q1⟩=>?_;obtain⟨i,rfl,q⟩:=q1;obtain⟨t,rfl⟩:=r1;exact⟨some i,H1,I1,.int i t,q⟩
def Pw(X:Cx)(r:V->Option Int->Option Int->Hp->VK->Prop):Prop:=
 ∀(a:List (Addr×Obj)) (s:Shared) (d:St) (H:Hp) (x:V) (v f c:Value) (lo hi:Option Int) (b:Addr) (Q:VK),iz X a d H s->i9 x v->s.heap.IsSliceOf b f c .none->IsPart f lo->IsPart c hi->r x lo hi H Q->
  ∃T id,typeLookup (.type T) "__getitem__" = pure (some (.builtin id))/\s.TypeIs v T/\wpAny (model X.prog X.w) X.A (getItem v (.ref b)) (EP X a d Q) X.xe s
def Pw.or(h:Pw X r)(h':Pw X r'):Pw X (λx lo hi H Q=>r x lo hi H Q\/r' x lo hi H Q):=by
 intro i s d H x v f j lo hi a Q I c b g k q;rcases q with q|q
 .exact h i s d H x v f j lo hi a Q I c b g k q
 .exact h' i s d H x v f j lo hi a Q I c b g k q
def Vw(r:V->Option Int->Option Int->Hp->VK->Prop)(te:TE)(tl th:TO):TE:=λa H Q=>te a H λx d=>tl a d λl b=>th a b λu c=>r x l u c Q
def Jq(hr:Pw X r)(i:PE X e te)(d:PO X lo tl)(m:PO X hi th):PE X (.Subscript e (.Slice lo hi none p2) pos) (Vw r te tl th):=by intro c s a H Q I h;refine Subscript_ (kh (i c s a H _ I h) λv s1 ⟨x,H1,I1,r1,q1⟩=>?_);refine wpAny_Slice (kh (d c s1 a H1 _ I1 q1) λvl s2 ⟨l,H2,I2,pl,q2⟩=>kh (m c s2 a H2 _ I2 q2) λvu s3 ⟨u,H3,I3,pu,q3⟩=>?_);rw[evalPart_none];refine ak ?_;have g:iz X c a H3 {s3 with heap:=s3.heap.push {cls:=.type "slice",data:=.fields #[vl,vu,.none]}}:=I3.kept λb n q=>ae _ q;obtain⟨T,id,k,f,j⟩:=hr c {s3 with heap:=s3.heap.push {cls:=.type "slice",data:=.fields #[vl,vu,.none]}} a H3 x v vl vu l u s3.heap.objs.size Q g r1 (Heap.IsSliceOf.new ..) pl pu q3;exact tail_any f k j (by with_unfolding_all rfl)
noncomputable def Ko(xs:List V)(lo hi:Option Int):List V:=(xs.drop (HT.sIx xs.length 0 lo)).take (HT.sIx xs.length xs.length hi-HT.sIx xs.length 0 lo)
def vn xs lo hi:(Ko xs lo hi).length<=xs.length:=by unfold Ko;rw[bQ,bS];omega
def T2(K:W.Frag):V->Option Int->Option Int->Hp->VK->Prop:=λx lo hi H Q=>∃a b,x=.ref a/\mW K H a b/\
 ¬(HT.sIx b.length 0 lo=0/\HT.sIx b.length b.length hi=b.length)/\∀p,H p=none->Q (.ref p) (ja H p (.tup (Ko b lo hi)))
def Rx:Pw X (T2 X.K):=by
 intro w s t H x v u y lo hi p Q I l k m n h;obtain⟨a,c,rfl,j,hw,q⟩:=h;cases l;obtain⟨f,r,i,g⟩:=I.tuple j;have d:f.toArray.size=c.length:=by rw[bG];exact r.length.symm
 refine⟨"tuple",_,PyProof.Rows.slot_tuple_getitem.lookup,i.typeIs,?_⟩;refine HT.getItem_tuple_cut i k m n (by rw[d];exact hw) ?_ (by rw[d];exact g);rw[d];refine⟨.ref s.heap.objs.size,_,I.laid (λb o q=>ae _ q) (aL _) ?_,rfl,q _ (I.hok.fresh (aL _))⟩;exact⟨aO (vn c lo hi) g,_,(r.drop (HT.sIx c.length 0 lo)).take (HT.sIx c.length c.length hi-HT.sIx c.length 0 lo),wK.new _ _⟩
def SY(K:W.Frag):R2:=λx y H Q=>∃a b d c,x=.ref a/\y=.ref b/\mW K H a d/\mW K H b c/\d≠[]/\d.length+c.length<=sizeLine/\
 (c=[]->Q (.ref a) H)/\(c≠[]->∀p,H p=none->Q (.ref p) (ja H p (.tup (d++c))))
def iO.nil_iff(r:iO xs us):us=[]↔xs=[]:=by
 cases r with
 |nil=>simp
 |cons _ _=>simp
def ML:rK X (binaryOp .Add) (SY X.K):=by intro D s B H x y v u Q I o j h;obtain⟨a,b,A,C,rfl,rfl,m,i,k,f,r,p⟩:=h;cases o;cases j;obtain⟨l,d,n,_⟩:=I.tuple m;obtain⟨g,c,p2,_⟩:=I.tuple i;refine HT.cat_tup n p2 (λz=>k (d.nil_iff.mp z)) (λz=>⟨.ref a,H,I,rfl,r (c.nil_iff.mp z)⟩) (λz=>?_) (by rw[<-d.length,<-c.length];exact f);refine⟨.ref s.heap.objs.size,_,I.laid (λb t q=>ae _ q) (aL _) ?_,rfl,p (λw=>z (c.nil_iff.mpr w)) _ (I.hok.fresh (aL _))⟩;exact⟨by rw[aU];exact f,_,d.append c,wK.new _ _⟩
end
end L2
namespace L2
open PySem PySem.Spec PyProof.Rows
noncomputable def wW(n:Nat)(i:Int):Option Nat:=if 0<=i then (if i<n then some i.toNat else none) else if -(n:Int)<=i then some (i+n).toNat else none
noncomputable def qx{a:Type}(xs:List a)(i:Int):Option a:=(wW xs.length i).bind λj=>xs[j]?
def GI(h:wW n i=some j):seqIndex? i n=some j/\j<n/\-(n:Int)<=i/\i<n:=by
 unfold wW at h;by_cases b:0<=i
 .rw[aR b]at h;by_cases a:i<n
  .rw[aR a]at h;have e:=Option.some.inj h;exact⟨by rw[seqIndex_of b a,e],by omega,by omega,a⟩
  .rw[aS a]at h;cases h
 .rw[aS b]at h;by_cases a:-n<=i
  .rw[aR a]at h;have e:=Option.some.inj h;exact⟨by rw[seqIndex_neg (by omega) a,e],by omega,a,by omega⟩
  .rw[aS a]at h;cases h
def Bu{xs:List α}{v:α}(h:qx xs i=some v):∃j,seqIndex? i xs.length=some j/\xs[j]? = some v/\j<xs.length/\-(xs.length:Int)<=i/\i<xs.length:=by
 unfold qx at h;cases e:wW xs.length i with
 |none=>rw[e]at h;cases h
 |some j=>rw[e]at h;obtain⟨a,d,b,c⟩:=GI e;exact⟨j,a,h,d,b,c⟩
def rD{xs:List α}{j:Nat}{v:α}(h:xs[j]? = some v):qx xs (j:Int)=some v:=by
 have a:=(aa.mp h).1;have e:wW xs.length j=some j:=by unfold wW;rw[aR (by omega),aR (by omega)];simp
 unfold qx;rw[e];exact h
def Jt xs (v:α):qx (xs++[v]) (-1)=some v:=by
 have a:(xs++[v]).length=xs.length+1:=by simp
 have e:wW (xs++[v]).length (-1)=some xs.length:=by unfold wW;rw[a,aS (by decide),aR (by omega)];congr 1;omega
 unfold qx;rw[e];simp
def Ap(b:Expr):Prop:=∀o i,subscripted b false o i=operate [o,i] (getItem o i)
def N8(X:Cx)(r:R2):Prop:=
 ∀(b a:Expr) (c:List (Addr×Obj)) (s:Shared) (d:St) (H:Hp) (x y:V) (v u:Value) (Q:VK),iz X c d H s->i9 x v->i9 y u->r x y H Q->
  subscripted a false v u=operate [v,u] (getItem v u)->wpAny (model X.prog X.w) X.A (subscriptTail b a v u) (EP X c d Q) X.xe s
def V4(X:Cx)(id:String)(r:V->List V->Hp->VK->Prop):Prop:=
 ∀(a:List (Addr×Obj)) (s:Shared) (d:St) (H:Hp) (x:V) (b:List V) (v:Value) (c:List Value) (Q:VK),iz X a d H s->i9 x v->iO b c->r x b H Q->
  wpAny (model X.prog X.w) X.A (call (.builtin id) (v::c)) (EP X a d Q) X.xe s
section
variable {X:Cx}{a b:Expr}{ta tb:TE}{pos:Pos}
def N8.or(h:N8 X r)(h':N8 X r'):N8 X (λx y H Q=>r x y H Q\/r' x y H Q):=by
 intro c d e s j H x y v u Q I i g q f;rcases q with q|q
 .exact h c d e s j H x y v u Q I i g q f
 .exact h' c d e s j H x y v u Q I i g q f
def Fc(hr:N8 X r)(i:PE X a ta)(c:PE X b tb)(g:Ap b):PE X (.Subscript a b pos) (vP r ta tb):=by intro m s k H Q I h;exact Subscript_ (QE i c I h λv u f x y l e j d q=>hr a b m f k l x y v u Q e j d q (g _ _))
def Ta(K:W.Frag):R2:=λx y H Q=>∃p c i v,x=.ref p/\y=.int i/\lS K H p c/\qx c i=some v/\Q v H
def TL(K:W.Frag):R2:=λx y H Q=>∃p c i v,x=.ref p/\y=.int i/\mW K H p c/\qx c i=some v/\Q v H
def S7:R2:=λx y H Q=>∃z i c,x=.str z/\y=.int i/\z.length<=sizeLine/\qx z.cps.toList i=some c/\Q (.str ⟨#[c]⟩) H
def sZ:N8 X (Ta X.K):=by
 intro f m P s F H x y v u Q I D B h n;obtain⟨p,S,i,z,rfl,rfl,R,N,q⟩:=h;cases D;obtain⟨t,rfl⟩:=B;obtain⟨e,r,k,Y⟩:=I.list R;obtain⟨j,d,L,Z,E,J⟩:=Bu N;obtain⟨w,o,g⟩:=r.get L;have C:=r.length;have U:=Aj;have c:EP X P F Q w s:=⟨z,H,I,g,q⟩;by_cases A:0<=i
 .have l:i.toNat=j:=by rw[seqIndex_of A J]at d;exact Option.some.inj d
  exact item_listR k.isList A (by omega) (by rw[l];simpa using o) c n
 .have l:(i+e.toArray.size).toNat=j:=by rw[seqIndex_neg (by omega) E]at d;rw[bG,<-C];exact Option.some.inj d
  exact subscriptTail_builtinR k.isList.typeIs slot_list_getitem.lookup
   (wpAny_getItem_list_neg k.isList (by omega) (by rw[bG]<;>omega) (by omega) (by rw[l];simpa using o) ⟨rfl,c⟩) n
def kK:N8 X (TL X.K):=by
 intro d f F s B H x y v u Q I A k h m;obtain⟨p,L,i,z,rfl,rfl,J,D,q⟩:=h;cases A;obtain⟨t,rfl⟩:=k;obtain⟨l,r,g,P⟩:=I.tuple J;obtain⟨j,n,C,R,S,U⟩:=Bu D;obtain⟨w,E,e⟩:=r.get C;have o:=r.length;have N:=Aj;have c:EP X F B Q w s:=⟨z,H,I,e,q⟩;exact subscriptTail_builtinR g.typeIs slot_tuple_getitem.lookup
  (getItem_tuple g (by omega) (by omega) (by rw[bG,<-o];exact n) (by simpa using E) ⟨rfl,c⟩) m
def RX:N8 X S7:=by
 intro d e F s E H x y v u Q I m g h k;obtain⟨z,i,c,rfl,rfl,C,r,q⟩:=h;obtain⟨t,rfl⟩:=m;obtain⟨J,rfl⟩:=g;obtain⟨j,f,p,D,n,o⟩:=Bu r;have l:z.cps.toList.length=z.length:=by simp[Str.length]
 rw[l]at f n o;have B:=Aj;exact tail_any (typeIs_str s z t) slot_str_getitem.lookup (getItem_str (by have A:decide (i < -(2 ^ 63))=false:=aB (by omega);have w:decide (i >= 2 ^ 63)=false:=aB (by omega);rw[A,w,Bool.or_false]) (by rw[f];simpa using p) ⟨.str ⟨#[c]⟩,H,I.tok _,⟨_,rfl⟩,q⟩) k
def SW(K:W.Frag):R2:=λx y H Q=>Ta K x y H Q\/TL K x y H Q\/S7 x y H Q
def Lp:N8 X (SW X.K):=sZ.or (kK.or RX)
def EV(its:List Value) n j u:Obj.mapSeq (·.setIfInBounds j u) {cls:=.type "list",data:=.seq its.toArray n}={cls:=.type "list",data:=.seq (its.set j u).toArray n}:=by simp[Obj.mapSeq]
def iz.lst(I:iz X gU σ H s)(h:H p=some (.lst xs)) :
  ∃its n,iO xs its/\s.heap.get? p=some {cls:=.type "list",data:=.seq its.toArray n}/\xs.length<=sizeLine:=by
 obtain⟨z,its,n,r,e⟩:=I.hok p _ h;exact⟨its,n,r,e,z⟩
def iz.lstUpd{its c:List Value}(I:iz X gU σ H s)(h:H p=some (.lst xs))
  (i:s.heap.get? p=some {cls:=.type "list",data:=.seq its.toArray n}) (d:f {cls:=.type "list",data:=.seq its.toArray n}={cls:=.type "list",data:=.seq c.toArray n'}) (r:iO ys c) (j:ys.length<=sizeLine) t :
  iz X gU σ (ja H p (.lst ys)) {s with heap:=s.heap.update p f,toks:=t}:=by
 have e:(s.heap.update p f).get? p=some {cls:=.type "list",data:=.seq c.toArray n'}:=by rw[Heap.get?_update_self f i (by rw[d]<;>rfl),d]
 refine I.write (by rw[h];trivial) (.inl rfl) (λb u g q=>(Heap.get?_update_other _ _ (Ne.symm g)).trans q) ⟨_,e⟩ ?_;exact⟨j,c,n',r,e⟩
def FJ:V->V->V->Hp->(Hp->Prop)->Prop:=λo i v H Q=>∃p c k j,o=.ref p/\i=.int k/\H p=some (.lst c)/\wW c.length k=some j/\Q (ja H p (.lst (c.set j v)))
def Kf:Ur X FJ:=by
 intro J s D H o i v P N u Q I A C E h;obtain⟨p,z,k,j,rfl,rfl,l,F,q⟩:=h;cases A;obtain⟨t,rfl⟩:=C;obtain⟨c,n,r,f,B⟩:=I.lst l;obtain⟨d,L,m,w⟩:=GI F;have e:=r.length;have K:=Aj;have y:iz X J D (ja H p (.lst (z.set j v))) {s with heap:=s.heap.update p (Obj.mapSeq (·.setIfInBounds j u))}:=I.lstUpd l f (EV c n j u) (r.set E j) (by rw[bU];exact B) s.toks
 by_cases x:0<=k
 .have g:k.toNat=j:=by rw[seqIndex_of x w]at d;exact Option.some.inj d
  exact W.ki_setAt f x (by omega) (by rw[bG,<-e];exact w) (by rw[g];exact⟨_,y,q⟩)
 .have g:(k+c.toArray.size).toNat=j:=by rw[seqIndex_neg (by omega) m]at d;rw[bG,<-e];exact Option.some.inj d
  exact W.ki_setBack f (by omega) (by rw[bG,<-e];exact m) (by omega) (by rw[g];exact⟨_,y,q⟩)
def A1 lo hi n:(sliceBounds lo hi none n).1=((HT.sIx n 0 lo:Nat):Int)/\(sliceBounds lo hi none n).2.1=((HT.sIx n n hi:Nat):Int)/\(sliceBounds lo hi none n).2.2=1:=by
 refine⟨?_,?_,rfl⟩
 .cases lo with
  |none=>simp[sliceBounds,HT.sIx]
  |some i=>
   simp only[sliceBounds,HT.sIx,Option.getD_none,show 1>0 by decide,if_true];by_cases h:i<0
   .simp only[h,if_true]<;>omega
   .simp only[h,if_false]<;>omega
 .cases hi with
  |none=>simp[sliceBounds,HT.sIx]
  |some i=>
   simp only[sliceBounds,HT.sIx,Option.getD_none,show 1>0 by decide,if_true];by_cases h:i<0
   .simp only[h,if_true]<;>omega
   .simp only[h,if_false]<;>omega
def x9(its:List Value) lo hi:slicePick its.toArray lo hi none=((its.drop (HT.sIx its.length 0 lo)).take (HT.sIx its.length its.length hi-HT.sIx its.length 0 lo)).toArray:=by obtain⟨d,e,c⟩:=A1 lo hi its.toArray.size;unfold slicePick;rw[d,e,c];simp only[sliceRange_one,pick_run,bG]<;>rfl
def TQ(K:W.Frag):V->Option Int->Option Int->Hp->VK->Prop:=λx d e H Q=>∃a c,x=.ref a/\lS K H a c/\∀p,H p=none->Q (.ref p) (ja H p (.lst (Ko c d e)))
def NP:Pw X (TQ X.K):=by intro y s u H x v w z d f t Q I m l n o h;obtain⟨a,c,rfl,i,q⟩:=h;cases m;obtain⟨k,r,e,j⟩:=I.list i;have g:=r.length;refine⟨"list",_,slot_list_getitem.lookup,e.isList.typeIs,?_⟩;refine wpAny_getItem_list_slice e.isList l n o .none (by simp) ?_ (by rw[bG]<;>omega);rw[x9,<-g];refine⟨.ref s.heap.objs.size,_,I.laid (λb p q=>ae _ q) (aL _) ?_,rfl,q _ (I.hok.fresh (aL _))⟩;exact⟨aO (vn c d f) j,_,0,(r.drop (HT.sIx c.length 0 d)).take (HT.sIx c.length c.length f-HT.sIx c.length 0 d),ar _ rfl⟩
noncomputable def mT:V->Bool
 |.non=>true
 |.bl _=>true
 |.int _=>true
 |.str _=>true
 |_=>false
noncomputable def Mo:V->V->Bool
 |.non,.non=>true
 |.bl a,.bl b=>a==b
 |.bl a,.int b=>(if a then 1 else 0)==b
 |.int a,.bl b=>a==(if b then 1 else 0)
 |.int a,.int b=>a==b
 |.str a,.str b=>a==b
 |_,_=>false
def QV(e:i9 y u)(c:i9 x v)(g:mT y=true)(f:mT x=true):SeqAt.EqAt A s u v (Mo y x):=by
 cases y with
 |non=>
  cases e;cases x with
  |non=>cases c;exact SeqAt.EqAt.same _
  |bl b=>cases c;exact SeqAt.EqAt.none_bool b
  |int b=>obtain⟨t,rfl⟩:=c;exact SeqAt.EqAt.none_int b t
  |str b=>obtain⟨t,rfl⟩:=c;exact SeqAt.EqAt.none_str b t
  |_=>exact absurd (f) aI
 |bl a=>
  cases e;cases x with
  |non=>cases c;exact SeqAt.EqAt.bool_none a
  |bl b=>cases c;exact SeqAt.EqAt.bool_bool a b
  |int b=>obtain⟨t,rfl⟩:=c;exact SeqAt.EqAt.bool_int a b t
  |str b=>obtain⟨t,rfl⟩:=c;exact SeqAt.EqAt.bool_str a b t
  |_=>exact absurd (f) aI
 |int a=>
  obtain⟨d,rfl⟩:=e;cases x with
  |non=>cases c;exact SeqAt.EqAt.int_none a d
  |bl b=>cases c;exact SeqAt.EqAt.int_bool a d b
  |int b=>obtain⟨t,rfl⟩:=c;exact SeqAt.EqAt.int_int a d b t
  |str b=>obtain⟨t,rfl⟩:=c;exact SeqAt.EqAt.int_str a d b t
  |_=>exact absurd (f) aI
 |str a=>
  obtain⟨d,rfl⟩:=e;cases x with
  |non=>cases c;exact SeqAt.EqAt.str_none a d
  |bl b=>cases c;exact SeqAt.EqAt.str_bool a d b
  |int b=>obtain⟨t,rfl⟩:=c;exact SeqAt.EqAt.str_int a d b t
  |str b=>obtain⟨t,rfl⟩:=c;exact SeqAt.EqAt.str_str a d b t
  |_=>exact absurd (f) aI
 |_=>exact absurd (g) aI
noncomputable def Pn(x:V)(u:Value):Bool:=match u with
 |.none=>Mo .non x
 |.bool b=>Mo (.bl b) x
 |.int i _=>Mo (.int i) x
 |.str z _=>Mo (.str z) x
 |_=>false
def K0(r:i9 y u)(f:mT y=true):Pn x u=Mo y x:=by
 cases y with
 |non=>cases r;rfl
 |bl b=>cases r;rfl
 |int i=>obtain⟨t,rfl⟩:=r;rfl
 |str z=>obtain⟨t,rfl⟩:=r;rfl
 |_=>exact absurd (f) aI
theorem Ac:∀{xs} {us},iO xs us->xs.all mT=true->us.any (Pn x)=xs.any λy=>Mo y x
 |_,_,.nil,_=>rfl
 |y::xs,u::us,.cons r t,f=>by rw[bV,bT]at f;rw[bW,bW,K0 r f.1,Ac t f.2]
theorem xS(e:i9 x v)(d:mT x=true):∀{xs} {us},iO xs us->xs.all mT=true->∀u∈us,SeqAt.EqAt A s u v (Pn x u)
 |_,_,.nil,_=>λu c=>by cases c
 |y::xs,u::us,.cons r t,f=>λg c=>by
  rw[bV,bT]at f;rcases aG.mp c with rfl|c
  .rw[K0 r f.1];exact QV r e f.1 d
  .exact xS e d t f.2 g c
noncomputable def Uz(x:V)(xs:List V):Bool:=xs.any λy=>Mo y x
def Vb(K:W.Frag)(neg:Bool):R2:=λx y H Q=>∃p c,y=.ref p/\(lS K H p c\/mW K H p c)/\mT x=true/\c.all mT=true/\Q (.bl (if neg then !Uz x c else Uz x c)) H
def G1:rK X (compareOp .In) (Vb X.K false):=by
 intro m s l H x y v u Q I g i h;obtain⟨p,k,rfl,d,f,fs,q⟩:=h;cases i;rcases d with d|d
 .obtain⟨c,r,e,j⟩:=I.list d;refine SeqAt.in_listAt (Pn x) e.isList (λw hw=>xS g f r fs w (by simpa using hw)) ⟨.bl _,H,I,rfl,?_⟩;rw[show c.toArray.any (Pn x)=c.any (Pn x) by simp,Ac r fs];exact q
 .obtain⟨c,r,e,j⟩:=I.tuple d;refine SeqAt.in_tupleAt (Pn x) e (λw hw=>xS g f r fs w (by simpa using hw)) ⟨.bl _,H,I,rfl,?_⟩;rw[show c.toArray.any (Pn x)=c.any (Pn x) by simp,Ac r fs];exact q
def Af:lA X (.type "list") (λxs H Q=>∃p ys,xs=[.ref p]/\(lS X.K H p ys\/mW X.K H p ys)/\∀l,H l=none->Q (.ref l) (ja H l (.lst ys))):=by
 intro D s C H xs E Q I r h;obtain⟨p,ys,rfl,m,q⟩:=h;obtain⟨u,rfl,B⟩:=qB r;cases B;have i:∀(c:List Value),iO ys c->ys.length<=sizeLine->∀(d:Heap) (g:Nat),(∀b z,s.heap.get? b=some z->d.get? b=some z)->
   d.get? s.heap.objs.size=some {cls:=.type "list",dict:=none,data:=.seq c.toArray g,slots:=#[]}->EP X D C Q (.ref s.heap.objs.size) {s with heap:=d}:=λc f j d g k e=>
  ⟨.ref s.heap.objs.size,_,I.laid k (aL _) (show jL X.prog X.w _ d _ (.lst ys) from ⟨j,c,g,f,e⟩),rfl,q _ (I.hok.fresh (aL _))⟩
 rcases m with m|m
 .obtain⟨c,f,y,j⟩:=I.list m;have A:=f.length;obtain⟨o,v,t,n,x⟩:=y.isList;exact call_list_seq p (.inl rfl) v t x (λd g k e=>i c f j d g k e) (by simp only[bG]<;>omega)
 .obtain⟨c,f,y,j⟩:=I.tuple m;have A:=f.length;obtain⟨o,v,t,n,x⟩:=y;exact call_list_seq p (.inr rfl) v t x (λd g k e=>i c f j d g k e) (by simp only[bG]<;>omega)
def yu:lA X (.type "tuple") (λxs H Q=>∃p ys,xs=[.ref p]/\((lS X.K H p ys/\∀l,H l=none->Q (.ref l) (ja H l (.tup ys)))\/(mW X.K H p ys/\Q (.ref p) H))):=by
 intro v s t H xs y Q I r h;obtain⟨p,ys,rfl,h⟩:=h;obtain⟨u,rfl,n⟩:=qB r;cases n;rcases h with⟨i,q⟩|⟨i,q⟩
 .obtain⟨c,d,g,j⟩:=I.list i;have x:=d.length;refine call_tuple_list g.isList (λf w=>?_) (by simp only[bG]<;>omega);have k:=I.kept (t':=s.toks) w;have m:iz X v t (ja H f.objs.size (.tup ys)) {s with heap:=f.push {cls:=.type "tuple",data:=.seq c.toArray}}:=
   k.laid (λb o e=>ae _ e) (aL _) (⟨j,c,d,wK.new _ _⟩)
  exact⟨.ref f.objs.size,_,m,rfl,q _ (k.hok.fresh (aL _))⟩
 .obtain⟨c,d,g,j⟩:=I.tuple i;exact call_tuple_same g ⟨.ref p,H,I,rfl,q⟩
def Uy(K:W.Frag)(T:String)(x:V)(H:Hp):Prop:=match x with
 |.str _=>T = "str"
 |.int _=>T = "int"
 |.ref p=>(T = "list" /\∃d,lS K H p d)\/(T = "tuple" /\∃o,K.lookup p=some o/\o.cls=.type "tuple" /\o.dict=none)\/
   (T = "dict" /\((∃c,H p=some (.dK c))\/∃c,H p=some (.dT c)))\/(T = "set" /\∃S n,H p=some (.set S n))
 |_=>False
theorem Qy{w:List (Addr×Obj)}{u:St}{H:Hp}{s:Shared}{T:String}{x:V}{v:Value}(I:iz X w u H s)(r:i9 x v)(ty:Uy X.K T x H) :
  s.TypeIs v T/\∀a,v=.ref a->∃k,s.heap.get? a=some k/\k.dict=none:=by
 cases x with
 |str z=>obtain⟨t,rfl⟩:=r;cases (ty);exact⟨typeIs_str s z t,λ_ e=>nomatch e⟩
 |int i=>obtain⟨t,rfl⟩:=r;cases (ty);exact⟨typeIs_int s i t,λ_ e=>nomatch e⟩
 |ref p=>
  cases r;rcases ty with⟨rfl,A,y⟩|⟨rfl,o,d,q,h⟩|⟨rfl,d⟩|⟨rfl,S,n,d⟩
  .obtain⟨m,_,l,_⟩:=I.list y;refine⟨l.isList.typeIs,λa e=>?_⟩;cases e;obtain⟨o,n,e,c,h,_⟩:=l;exact⟨o,e,h⟩
  .refine⟨⟨o,I.kIn p o d,q⟩,λa e=>?_⟩;cases e;exact⟨o,I.kIn _ o d,h⟩
  .have z:∃o,s.heap.get? p=some o/\o.ExactDict:=by
    rcases d with⟨g,d⟩|⟨g,d⟩
    .obtain⟨_,_,_,_,o,_,_,e,f,_⟩:=I.hok p _ d;exact⟨o,e,f⟩
    .obtain⟨_,_,_,_,o,_,_,e,f,_⟩:=I.hok p _ d;exact⟨o,e,f⟩
   obtain⟨o,e,f⟩:=z;refine⟨⟨o,e,f.1⟩,λa j=>?_⟩;cases j;exact⟨o,e,f.2.1⟩
  .obtain⟨o,_,_,_,e,f,_⟩:=I.hok p _ d;refine⟨⟨o,e,f.1⟩,λa j=>?_⟩;cases j;exact⟨o,e,f.2.1⟩
 |_=>exact False.elim ty
def UF(K:W.Frag)(T:String)(r:V->List V->Hp->VK->Prop)(to:TE)(t:TA):TE:=λc H Q=>to c H λx d=>Uy K T x d/\t c d λe f=>r x e f Q
variable {o e:Expr}{es:List Expr}{to:TE}{t:TA}{name:Str}{apos cpos:Pos}{T id:String}{r:V->List V->Hp->VK->Prop}
def Jy(y:PlainAttrs T)(f:Slot T name id)(j:typeOf (.builtin id)=pure (.type "method_descriptor"))(w:V4 X id r)(p:PE X o to)(q:PA X (e::es) t)
  (d:attributeBase o name X.env (eval o X.env)=eval o X.env:=by rfl)
  (g:((backTo cpos (starEach (e::es) X.env)).all (λx=>!x.1)&&(backToKw cpos (keywordEach [] X.env)).all (λx=>x.1.isSome)
   && decide ((e::es).length+([]:List Keyword).length+(if ([]:List Keyword).isEmpty then 0 else 1)<30))=true:=by rfl)
  (c:(apos.endLine==cpos.line)=true:=by rfl) (m:starEach (e::es) X.env=(false,eval e X.env)::starEach es X.env:=by rfl) (hplain:(backTo cpos (starEach es X.env)).any (·.1)=false:=by rfl) :
  PE X (.Call (.Attribute o name apos) (e::es) [] cpos) (UF X.K T r to t):=by
 intro k s i H Q I h;refine wpAny_Call_method_late d g c rfl (kh (p k s i H _ I h) λv s1 ⟨x,H1,I1,r1,ty,q1⟩=>?_);obtain⟨n,u⟩:=Qy I1 r1 ty;refine⟨T,id,y,f,j,n,u,?_⟩;have l:=q cpos k s1 i H1 _ I1 q1;rw[m]at l ⊢;refine Calls.callWith_builtin (by show (false||(backTo cpos (starEach es X.env)).any (·.1))=false;rw[hplain]<;>rfl) (Calls.evalArgs_plain ?_);exact kh l λus s2 ⟨vs,H2,I2,r2,q2⟩=>w k s2 i H2 x vs v us Q I2 r1 r2 q2
end
end L2
namespace L2
open PySem PySem.Spec PyProof.Rows
def VZ(X:Cx)(id:String)(r:V->List V->Hp->VK->Prop):Prop:=
 ∀(a:List (Addr×Obj)) (s:Shared) (d:St) (H:Hp) (x:V) (b:List V) (v:Value) (c:List Value) (Q:VK),iz X a d H s->i9 x v->iO b c->r x b H Q->
  wpAny (model X.prog X.w) X.A (call (.builtin id) (v::c)) (EP X a d Q) X.xe s
theorem iO.one:∀{x} {us},iO [x] us->∃u,us=[u]/\i9 x u
 |_,_,.cons r .nil=>⟨_,rfl,r⟩
theorem iO.rep(h:iO xs us):∀k:Nat,iO (List.replicate k xs).flatten (List.replicate k us).flatten
 |0=>.nil
 |k+1=>by rw[bX,bX,bY,bY];exact iO.append h (iO.rep h k)
theorem rG(its:List Value):∀k a,
  List.foldl (λc d=>c++d) a.toArray (List.replicate k its.toArray)=(a++(List.replicate k its).flatten).toArray
 |0,a=>by simp
 |k+1,a=>by
  have e:a.toArray++its.toArray=(a++its).toArray:=by simp
  have b:(a++its)++(List.replicate k its).flatten=a++(List.replicate (k+1) its).flatten:=by rw[bX,bY,bZ]
  rw[<-b,<-rG its k (a++its),<-e,bX,b9]
section
variable {X:Cx}{gU:List (Addr×Obj)}{σ:St}{H:Hp}{s:Shared}{l b:Addr}{xs ys zs:List V}
def iz.lset{its a:List Value}(I:iz X gU σ H s)(g:H l=some (.lst xs))
  (e:s.heap.get? l=some {cls:=.type "list",data:=.seq its.toArray n}) (j:f its.toArray=a.toArray) (c:iO ys a) (i:ys.length<=sizeLine) :
  iz X gU σ (ja H l (.lst ys)) {s with heap:=s.heap.update l (Obj.mapSeq f),toks:=t'}:=by
 have q:=PySem.IsL.update e f;rw[j]at q;refine I.write (by rw[g];exact trivial) (.inl rfl) (λk u d h=>(Heap.get?_update_other s.heap (Obj.mapSeq f) (Ne.symm d)).trans h) ⟨_,q⟩ ?_;exact⟨i,a,_,c,q⟩
def iz.lnew(I:iz X gU σ H s)(a:iO ys its)(c:ys.length<=sizeLine) :
  iz X gU σ (ja H s.heap.objs.size (.lst ys)) {s with heap:=s.heap.push {cls:=.type "list",data:=.seq its.toArray},toks:=t'}:=
 I.laid (λ_ _ q=>ae _ q) (aL _) ⟨c,its,0,a,ar _ rfl⟩
def iz.fresh(I:iz X gU σ H s):H s.heap.objs.size=none:=I.hok.fresh (aL _)
def iz.lstM(I:iz X gU σ H s)(a:H l=some (.lst xs)):xs.length<=sizeLine/\∃its n,iO xs its/\xs.length=its.length/\s.heap.get? l=some {cls:=.type "list",data:=.seq its.toArray n}:=by obtain⟨z,its,n,r,e⟩:=I.hok l _ a;exact⟨z,its,n,r,r.length,e⟩
def Kv(h:n<=sizeLine):Builtin.List.listTooLong n=false:=by unfold Builtin.List.listTooLong;exact aB (by omega)
end
section
variable {X:Cx}
def tG:V->List V->Hp->VK->Prop:=λx b H Q=>∃l a y,x=.ref l/\b=[y]/\H l=some (.lst a)/\a.length<sizeLine/\Q .non (ja H l (.lst (a++[y])))
def uM:VZ X "list.append" tG:=by intro p s o H x i v k Q I d f h;obtain⟨l,g,y,rfl,rfl,b,j,q⟩:=h;cases d;obtain⟨u,rfl,c⟩:=f.one;obtain⟨z,a,n,r,m,e⟩:=I.lstM b;refine call_meets F.slot_list_append ⟨_,e,rfl⟩ F.entry_list_append (F.args_list_append_2 _ _) (PySem.list_append l a.toArray n u (by rw[bG];omega)) ⟨e,?_⟩;refine⟨.non,_,I.lset b e (by simp) (r.append (.cons c .nil)) ?_,rfl,q⟩;rw[aU,cf];omega
def Sq:R2:=λx y H Q=>∃l b a c,x=.ref l/\y=.ref b/\H l=some (.lst a)/\H b=some (.lst c)/\a.length+c.length<=sizeLine/\∀p,H p=none->Q (.ref p) (ja H p (.lst (a++c)))
def Lw:rK X (binaryOp .Add) Sq:=by
 intro D s B H x y v u Q I k f h;obtain⟨l,b,p,C,rfl,rfl,j,d,t,q⟩:=h;cases k;cases f;obtain⟨z,c,n,r,A,e⟩:=I.lstM j;obtain⟨w,a,E,g,o,m⟩:=I.lstM d;refine PySem.P.add_list e m ?_ (by rw[bG,bG];omega);have i:c.toArray++a.toArray=(c++a).toArray:=by simp
 rw[i];exact⟨.ref _,_,I.lnew (r.append g) (by rw[aU];omega),rfl,q _ I.fresh⟩
def Uh:R2:=λx y H Q=>∃l k a,x=.ref l/\y=.int k/\H l=some (.lst a)/\-(2 ^ 63)<=k/\k<2 ^ 63/\a.length*k.toNat<=sizeLine/\
 ∀p,H p=none->Q (.ref p) (ja H p (.lst (List.replicate k.toNat a).flatten))
def AV{a:Type}(xs:List a) k:(List.replicate k xs).flatten.length=k*xs.length:=by
 induction k with
 |zero=>simp
 |succ k ih=>rw[bX,bY,aU,ih,cg,Nat.add_comm]
def Qt:rK X (binaryOp .Mult) Uh:=by
 intro P s N H x y v u Q I D w h;obtain⟨l,k,L,rfl,rfl,C,A,E,o,q⟩:=h;cases D;obtain⟨t,rfl⟩:=w;obtain⟨z,b,n,r,B,e⟩:=I.lstM C;have p:b.toArray.size*k.toNat<=sizeLine:=by rw[bG,<-B];exact o
 have f:¬b.toArray.size*k.toNat>(2 ^ 63-1) / 8:=by
  have:sizeLine<=(2 ^ 63-1) / 8:=by decide
  omega
 have d:¬(!Builtin.List.listFitsIndex k)=true:=by rw[fitsIndex_both A E];exact aI
 have c:¬Builtin.List.listTooLong (b.toArray.size*k.toNat)=true:=by rw[Kv p];exact aI
 have g:List.foldl (λj i=>j++i) #[] (List.replicate (if b.toArray.isEmpty=true then 0 else k.toNat) b.toArray)=(List.replicate k.toNat b).flatten.toArray:=by
  have J:∀m:Nat,List.foldl (λj i=>j++i) #[] (List.replicate m b.toArray)=(List.replicate m b).flatten.toArray:=λm=>by have:=rG b m [];rw[cj]at this;exact this
  rw[J];cases b with
  |nil=>simp
  |cons a r'=>rw[aS (by simp)]
 refine wpAny_binaryOp_repeat_ref (by decide) ⟨_,e,rfl⟩ (λK=>typeIs_int K k t) noFill_list_mul F.fills_int_mul F.slot_int_rmul repeat_list F.slot_int_index.lookup
  (call_meets F.slot_int_rmul (typeIs_int s k t) F.entry_int_rmul (F.args_int_rmul_2 _ _) (int___rmul___int_list k t l b.toArray n)
   ⟨e,rfl,⟨_,e,rfl⟩,call_meets F.slot_list_mul ⟨_,e,rfl⟩ F.entry_list_mul (F.args_list_mul_2 _ _) (AutoListH.list___mul___list_int_3 l b.toArray n k t d f c) ⟨e,?_⟩⟩)
 rw[g];exact⟨.ref _,_,I.lnew (r.rep k.toNat) (by rw[AV,ck];exact o),rfl,q _ I.fresh⟩
end
end L2
namespace Att
open PySem PySem.W PySem.Calls PyProof.Rows
def vG:∀c vs,WellAll P h vs (c.map WData.int)->IntsAre vs c:=by
 intro c;induction c with
 |nil=>intro vs w;rw[cm]at w;cases w;exact .nil
 |cons n c ih=>
  intro vs w;rw[bJ]at w;cases w with
  |cons a b=>cases a;exact .cons _ _ (ih _ b)
theorem script_of{l:OpenLaw}(m:l.most=some n)
  (c:l.row.toRowW.claim.pre args=true) (i:WellAll P h vals args) :
  ∃a vs b,vals=[Value.ref a]/\args=[WData.list (b.map WData.int)]/\h.get? a=some {cls:=.type "list",data:=.seq vs.toArray}/\IntsAre vs b/\b.length<=n:=by
 have g:=(pre_splitW c).1;have j:l.pre.holds [] {args:=args}=true:=(pre_splitW c).2;obtain⟨d,r,rfl,o,s⟩:=hasAllW_cons g;obtain rfl:=hasAllW_nil s;obtain⟨t,rfl,p⟩:=hasW_list o;obtain⟨b,rfl⟩:=items_int p;have k:b.length<=n:=by
  unfold OpenLaw.pre at j;have e:(WTm.not (.lt (.lit (.int n)) (.len (.arg 0)))).holds [] {args:=[.list (b.map .int)]}=true:=by have e:=(holds_andW j).1;rw[m]at e;exact e
  have f:=condW_of e (w_not (w_lt w_lit (w_len_list (w_arg rfl))));rw[ax]at f;refine cn λq=>?_;first
   | (rw[aC q']at f;exact absurd f (by decide))
   | (simp at f;omega)
 cases i with
 |cons w1 w2=>
  cases w2;cases w1 with
  |list ho E9=>exact⟨_,_,b,rfl,rfl,ho,vG b _ E9,k⟩
def post_true(l:OpenLaw) args:l.row.toRowW.claim.post args (.bool true) args=true:=
 postW_of
  (show WShape.has [] (.bool true) .bool=true by first|rfl|decide|simp[WShape.has,WShape.arms,WShape.armsAll])
  (w_eq_bool (w_res rfl) w_lit) rfl
end Att
namespace L2
open PySem PySem.Spec PyProof.Rows
theorem yH:∀{vs} {ns},IntsAre vs ns->iO (ns.map V.int) vs
 |_,_,.nil=>.nil
 |_,_,.cons n t h=>.cons ⟨t,rfl⟩ (yH h)
def qF(h:Heap)(H:Hp)(a:List (Addr×Addr)):Heap:=⟨(KB h H).objs,{ids:=a}⟩
end L2
namespace L2
open PySem PySem.Spec PyProof.Rows
noncomputable def rH(s:Stmt)(j:Nat):Stmt:=match s with
 |.ClassDef _ _ _ body _ _ _ _ _ _ _=>body.getD j (.Pass ⟨0,0,0,0⟩)
 |_=>.Pass ⟨0,0,0,0⟩
noncomputable def jU(s:Stmt):Arguments:=match s with
 |.FunctionDef _ a _ _ _ _ _ _ _ _=>a
 |_=>{posonlyargs:=[],args:=[],vararg:=none,kwonlyargs:=[],kw_defaults:=[],kwarg:=none,defaults:=[]}
noncomputable def iQ(s:Stmt):List Stmt:=match s with
 |.FunctionDef _ _ b _ _ _ _ _ _ _=>b
 |_=>[]
noncomputable def g9(s:Stmt):Scope:=match s with
 |.FunctionDef _ _ _ _ _ _ sc _ _ _=>sc
 |_=>{kind:=.function,names:=[],isGenerator:=false,isCoroutine:=false}
abbrev sh:PJ:=λ_ _ _ _ _ _=>False
abbrev E0:XK:=λ_ _ _=>False
def L4:uI sh X E0:=λ_ _ _ _ _ _ _ h=>h.elim
structure Mn(K:W.Frag)(x qual:Str)(st:Stmt)(f:Addr)(fd:FuncData):Prop where
 ex:∃(oc:Value) (od:Option Addr) (kV doc pm:Value) (an:Option Addr) (cdv ct:Value) (osl:Array (Option Value)),
  fd=W.fnOf x qual (jU st) (iQ st) (g9 st) .none kV doc pm an cdv ct/\K.lookup f=some ⟨oc,od,.func fd,osl⟩/\W.codeIn K cdv qual=true
 kp:W.keepIn K (.ref f)=true
section
variable {P:Program}{w:World}{K:W.Frag}{mg:Str->Option Value}{base:Heap}
def Mn.ok{st:Stmt}(F:Mn K x qual st f fd)(S:i8 N ps (g9 st))(g:∀vs H Q E,sp vs H Q E->vs.length=ps.length)
  (c:∀b A a s H vs Q E,ji k (A.deeper (envOfC qual (g9 st) s.heap.objs.size f b))->sp vs H Q E->
   ∃t,Bg (ny sh P w K mg base N qual (g9 st) f b A a s H E).nox (iQ st) t/\t {nx:=λ_ l=>Q .non l,rt:=Q} (lK N vs) H):nM P w K mg base sh (k+1) f fd ps sp:=by
 obtain⟨p,n,kV,m,o,u,b,r,j,rfl,i,d⟩:=F.ex;refine PF i d S g λA a s H vs Q E hr e=>?_;obtain⟨t,h,q⟩:=c b A a s H vs Q E hr e;exact⟨t,h.nox,q⟩
def Mn.binds{st:Stmt}(F:Mn K x qual st f fd)
  (h:∀(kV b c:Value) (d:Option Addr) (a e:Value) (us:List Value),us.length=ps.length->bindArgs (W.fnOf x qual (jU st) (iQ st) (g9 st) .none kV b c d a e) ⟨us,[]⟩=pure (ps.zip us)):qI K fd ps []:=by
 obtain⟨k,j,kV,b,c,d,a,e,i,rfl,l,g⟩:=F.ex;exact .all (h kV b c d a e)
def EF{st:Stmt}{kV b d a e:Value}(l:K.lookup f=some ⟨oc,od,.func (W.fnOf x qual (jU st) (iQ st) (g9 st) .none kV b d an a e),osl⟩)
  (c:W.codeIn K a qual=true) (k:W.keepIn K (.ref f)=true):Mn K x qual st f (W.fnOf x qual (jU st) (iQ st) (g9 st) .none kV b d an a e):=⟨⟨oc,od,kV,b,d,an,a,e,osl,rfl,l,c⟩,k⟩
end
section
variable {X:Cx}
def pv i (d:X.N[i]? = some x:=by rfl) (c:SN X.env.scope x:=by first|exact Or.inl rfl|exact Or.inr (Or.inl rfl)|exact Or.inr (Or.inr rfl)) (b:(x==("__debug__" : Str))=false:=by decide)
  (a:(x==("__classdict__" : Str))=false:=by decide):PE X (.Name x pos) (mv i):=v9 d c b a
end
def Va{A B:Prop}(h:B):if false=true then A else B:=by rw[aS aI];exact h
def Vh{A B:Prop}(h:A):if true=true then A else B:=by rw[aR rfl];exact h
def Ih(o:HO)(x:Option HO):Prop:=match o with
 |.tbl q ps=>∃a,x=some (.tbl q (ps++a))
 |o=>x=some o
def Ih.of(h:x=some o):Ih o x:=by
 cases o with
 |tbl q ps=>exact⟨#[],by rw[h];simp⟩
 |_=>exact h
def Ih.ne(h:Ih o x):x≠none:=by
 cases o with
 |tbl q ps=>obtain⟨m,e⟩:=h;rw[e];exact λz=>nomatch z
 |_=>have e:x=some _:=h;rw[e];exact λz=>nomatch z
def iq(H a:Hp):Prop:=∀b o,H b=some o->Ih o (a b)
def iq.refl H:iq H H:=λ_ _ h=>.of h
def iq.trans(a:iq H H1)(b:iq H1 H2):iq H H2:=λc o h=>by
 have q:=a c o h;cases o with
 |tbl q ps=>obtain⟨m,e⟩:=q;obtain⟨d,f⟩:=b c _ e;exact⟨m++d,by rw[f,bz]⟩
 |_=>exact b c _ q
def iq.free(e:iq H H')(h:H' l=Option.none):H l=Option.none:=by
 cases q:H l with
 |none=>rfl
 |some o=>exact absurd h (e l o q).ne
def iq.seq{K:W.Frag}(e:iq H H')(h:lS K H a xs):lS K H' a xs:=by
 rcases h with (h|⟨o,h⟩)|h
 .exact .inl (.inl (e _ _ h))
 .exact .inl (.inr ⟨o,e _ _ h⟩)
 .exact .inr h
end L2
namespace L2
open PySem PySem.Spec PyProof.Rows
section
variable {P:Program}{w:World}{H:Hp}{h:Heap}{a:Addr}{o:HO}
def qZ.track(ok:qZ P w H h)(f:H a=none)(new:jL P w (ja H a o) h a o):qZ P w (ja H a o) h:=λb u e=>by
 by_cases d:b=a
 .subst d;rw[hC]at e;cases e;exact new
 .rw[hU d]at e;refine (ok b u e).stay (λ_ _ _ q=>q) (λc q=>?_) λc g q=>?_
  .rw[hU (iC q f)];exact q
  .rw[hU (iC q f)];exact q
end
def iz.track(I:iz X gU σ H s)(d:H a=none)(g:a∈X.ex\/X.s₀.heap.objs.size<=a)
  (j:a≠X.env.locals) (i:∀x c,X.env.cells.lookup x=some c->c≠a) (h:∀p∈X.pn++gU,p.1≠a) (new:jL X.prog X.w (ja H a o) s.heap a o):iz X gU σ (ja H a o) s:=by
 have J:=I.step (t':=s.toks) (d':=s.drawn) (ch:=[a])
  (λb f=>by
   have e:b=a:=by simpa using f
   subst e;exact⟨g,j,i,h⟩)
  (λ_ _ _ _ _ e _=>e) (λ_ u _ _ _ e _=>⟨u.slots,e⟩)
  (λb u f _ n=>by rw[hU (by simpa using f)];exact n)
  (λ_ u _ e=>⟨u,e⟩)
  (λb k q=>by rw[hU (iC q d)];exact q)
  (λb u v q=>by rw[hU (iC q d)];exact q)
  (λb _ l q=>⟨#[],by rw[hU (iC q d),q];simp⟩)
  (λ_ q=>q) (I.hok.track d new) I.bare
 exact J
noncomputable def mP(a:Env):List (Str×NameKind)->List (Str×Addr)->List (Str×Addr)
 |[],acc=>acc
 | (n,k)::r,acc=>if k==NameKind.free then (match a.cells.lookup n with
  |some c=>mP a r ((n,c)::acc)
  |none=>mP a r acc) else mP a r acc
def rQ(h:∀y∈scope.names,y.2=.free->∃c,env.cells.lookup y.1=some c):closureFor scope env=pure (mP env scope.names []):=by
 have all:∀(l:List (Str×NameKind)) b,(∀y∈l,y.2=.free->∃c,env.cells.lookup y.1=some c)->
   (forIn l b λx m=>(if (x.2==NameKind.free)=true then (do
    let a <-cellOf env x.1
    pure (ForInStep.yield ((x.1,a)::m))) else pure (ForInStep.yield m):Sem _))=pure (mP env l b):=by
  intro l;induction l with
  |nil=>intro b _;rfl
  |cons y r ih=>
   intro b i;obtain⟨n,k⟩:=y;rw[cq];by_cases f:(k==NameKind.free)=true
   .obtain⟨c,o⟩:=i (n,k) bu (by simpa using f);have d:=o;have e:cellOf env n=pure c:=by unfold cellOf;rw[d]
    simp only[f,if_true,e,pure_bind];rw[ih _ λy g=>i y (bx _ g)];show pure (mP env r ((n,c)::b))=pure (if (k==NameKind.free)=true then (match env.cells.lookup n with
     |some c=>mP env r ((n,c)::b)
     |none=>mP env r b) else mP env r b)
    rw[aR f,d]
   .have j:(k==NameKind.free)=false:=by simpa using f
    simp only[j,cu,if_false,pure_bind];rw[ih _ λy g=>i y (bx _ g)];show pure (mP env r b)=pure (if (k==NameKind.free)=true then (match env.cells.lookup n with
     |some c=>mP env r ((n,c)::b)
     |none=>mP env r b) else mP env r b)
    rw[aS f]
 have:=all scope.names [] h;unfold closureFor;simp only[pure_bind,bind_pure]at this ⊢;exact this
theorem my:∀{l} {acc},(∀y d,acc.lookup y=some d->env.cells.lookup y=some d)->(mP env l acc).lookup x=some c->env.cells.lookup x=some c
 |[],acc,ha,h=>ha x c h
 | (n,k)::r,acc,ha,h=>by
  unfold mP at h;by_cases b:(k==NameKind.free)=true
  .rw[aR b]at h;cases e:env.cells.lookup n with
   |none=>rw[e]at h;exact my ha h
   |some d=>
    rw[e]at h;refine my (λy d' a=>?_) h;rw[cw]at a;cases q:y==n with
    |true=>rw[q]at a;cases a;rw[beq_iff_eq.mp q];exact e
    |false=>rw[q]at a;exact ha y d' a
  .rw[aS b]at h;exact my ha h
theorem qY:∀{l} {acc},(∃c,acc.lookup x=some c)->∃c,(mP env l acc).lookup x=some c
 |[],_,h=>h
 | (n,k)::r,acc,h=>by
  unfold mP;by_cases a:(k==NameKind.free)=true
  .rw[aR a];cases e:env.cells.lookup n with
   |none=>exact qY h
   |some d=>
    refine qY ?_;rw[cw];cases q:x==n with
    |true=>exact⟨d,rfl⟩
    |false=>exact h
  .rw[aS a];exact qY h
theorem pj:∀{l} {acc},(x,NameKind.free)∈l->(∃c,env.cells.lookup x=some c)->∃c,(mP env l acc).lookup x=some c
 | (n,k)::r,acc,b,a=>by
  rcases aG.mp b with e|b
  .cases e;obtain⟨c,a⟩:=a;unfold mP;rw[aR (by rfl),a];refine qY ⟨c,?_⟩;rw[cw,beq_self_eq_true]
  .unfold mP;by_cases f:(k==NameKind.free)=true
   .rw[aR f];cases env.cells.lookup n with
    |none=>exact pj b a
    |some d=>exact pj b a
   .rw[aS f];exact pj b a
def tO(h:(relabel scope env).names.lookup x=some .cell\/(relabel scope env).names.lookup x=some .free):(x,NameKind.free)∈scope.names\/scope.names.lookup x=some .cell:=by
 have all:∀(l:List (Str×NameKind)),∀k,(k=NameKind.cell\/k=NameKind.free)->
   (l.map λ(n,k)=>if (k==NameKind.free&&env.scope.kind==.function&&env.kindOf n==some .cell) then (n,NameKind.cell) else (n,k)).lookup x=some k->(x,NameKind.free)∈l\/l.lookup x=some .cell:=by
  intro l;induction l with
  |nil=>intro k _ h;simp at h
  |cons y r ih=>
   intro k c h;obtain⟨n,b⟩:=y;rw[bJ]at h;by_cases a:(b==NameKind.free&&env.scope.kind==.function&&env.kindOf n==some .cell)=true
   .have d:b=.free:=by simp only[bT,beq_iff_eq]at a;exact a.1.1
    simp only[a,if_true]at h;rw[cw]at h;cases q:x==n with
    |true=>rw[d,beq_iff_eq.mp q];exact .inl bu
    |false=>
     rw[q]at h;rcases ih k c h with z|z
     .exact .inl (bx _ z)
     .exact .inr (by rw[cw,q];exact z)
   .simp only[a,cu,if_false]at h;rw[cw]at h;cases q:x==n with
    |true=>
     rw[q]at h;have e:b=k:=by simpa using h
     rcases c with rfl|rfl
     .exact .inr (by rw[cw,q,e])
     .rw[e,beq_iff_eq.mp q];exact .inl bu
    |false=>
     rw[q]at h;rcases ih k c h with z|z
     .exact .inl (bx _ z)
     .exact .inr (by rw[cw,q];exact z)
 rcases h with h|h
 .exact all scope.names _ (.inl rfl) h
 .exact all scope.names _ (.inr rfl) h
def Bj(h:scope.names.lookup x=some .free):(relabel scope env).names.lookup x=some .cell\/(relabel scope env).names.lookup x=some .free:=by
 have all:∀(l:List (Str×NameKind)),l.lookup x=some .free->
   (l.map λ(n,k)=>if (k==NameKind.free&&env.scope.kind==.function&&env.kindOf n==some .cell) then (n,NameKind.cell) else (n,k)).lookup x=some .cell\/
   (l.map λ(n,k)=>if (k==NameKind.free&&env.scope.kind==.function&&env.kindOf n==some .cell) then (n,NameKind.cell) else (n,k)).lookup x=some .free:=by
  intro l;induction l with
  |nil=>intro h;simp at h
  |cons y r ih=>
   intro h;obtain⟨n,k⟩:=y;rw[bJ];rw[cw]at h;cases q:x==n with
   |true=>
    rw[q]at h;have b:k=.free:=by simpa using h
    by_cases a:(k==NameKind.free&&env.scope.kind==.function&&env.kindOf n==some .cell)=true
    .refine .inl ?_;simp only[a,if_true];rw[cw,q]
    .refine .inr ?_;simp only[a,cu,if_false];rw[cw,q,b]
   |false=>
    rw[q]at h;by_cases a:(k==NameKind.free&&env.scope.kind==.function&&env.kindOf n==some .cell)=true
    .simp only[a,if_true];rw[cw,q];exact ih h
    .simp only[a,cu,if_false];rw[cw,q];exact ih h
 exact all scope.names h
def Ia(X:Cx)(a:List Expr)(t:TT):Prop:=
 ∀(d:List (Addr×Obj)) (s:Shared) (b:St) (H:Hp) (Q:Bool->Hp->Prop),iz X d b H s->t b H Q->
  wpAny (model X.prog X.w) X.A (forIn a true λc r=>if r=true then do let ok <-isTrue c X.env (eval c X.env);pure (ForInStep.yield ok) else pure (ForInStep.yield r)) (TP X d b Q) X.xe s
def R4:TT:=λ_ H Q=>Q true H
def Oo:Ia X [] R4:=λ_ _ _ H _ I h=>wpAny_tests_nil ⟨H,I,h⟩
def ND(d:PT X c t):Ia X [c] t:=λa s b H Q I h=>wpAny_tests_one (d a s b H Q I h)
theorem nE:∀a k b,(cellsFrom k a b).lookup x=some c->b.lookup x=some c\/(k<=c/\(x,NameKind.cell)∈a)
 |[],_,_,h=>.inl h
 | (n,kd)::r,k,b,h=>by
  unfold cellsFrom at h;split at h
  .rename_i e;rcases nE r _ _ h with q|⟨q,m⟩
   .rw[cw]at q;cases d:x==n with
    |true=>rw[d]at q;cases q;refine .inr ⟨aL _,?_⟩;rw[beq_iff_eq.mp d,beq_iff_eq.mp e];exact bu
    |false=>rw[d]at q;exact .inl q
   .exact .inr ⟨cx q,bx _ m⟩
  .rcases nE r _ _ h with q|⟨q,m⟩
   .exact .inl q
   .exact .inr ⟨q,bx _ m⟩
theorem mG:∀a k b,(x,NameKind.cell)∉a->(cellsFrom k a b).lookup x=b.lookup x
 |[],_,_,_=>rfl
 | (n,kd)::r,k,b,h=>by
  unfold cellsFrom;have hr:(x,NameKind.cell)∉r:=λz=>h (bx _ z);split
  .rename_i d;rw[mG r _ _ hr,cw];cases c:x==n with
   |true=>exact absurd (by rw[beq_iff_eq.mp c,beq_iff_eq.mp d];exact bu) h
   |false=>rfl
  .exact mG r _ _ hr
theorem oC:∀a k b,(x,NameKind.cell)∈a->(cellsFrom k a b).lookup x=some c->k<=c
 |[],_,_,h,_=>nomatch h
 | (n,kd)::r,k,b,h,e=>by
  unfold cellsFrom at e;by_cases hr:(x,NameKind.cell)∈r
  .split at e
   .exact cx (oC r _ _ hr e)
   .exact oC r _ _ hr e
  .rcases aG.mp h with q|q
   .cases q;rw[aR (by rfl),mG r _ _ hr,cw,beq_self_eq_true]at e;cases e;exact aL _
   .exact absurd q hr
theorem oE:∀d k a,(∀x y c,a.lookup x=some c->a.lookup y=some c->x=y)->(∀x c,a.lookup x=some c->c<k)->
  ∀x y c,(cellsFrom k d a).lookup x=some c->(cellsFrom k d a).lookup y=some c->x=y
 |[],_,_,h,_=>h
 | (n,kd)::r,k,a,h,hl=>by
  unfold cellsFrom;split
  .refine oE r (k+1) ((n,k)::a) (λx y c b e=>?_) λx c b=>?_
   .rw[cw]at b e;cases f:x==n with
    |true=>
     cases g:y==n with
     |true=>rw[beq_iff_eq.mp f,beq_iff_eq.mp g]
     |false=>rw[f]at b;rw[g]at e;cases b;exact absurd (hl _ _ e) (bg _)
    |false=>
     rw[f]at b;cases g:y==n with
     |true=>rw[g]at e;cases e;exact absurd (hl _ _ b) (bg _)
     |false=>rw[g]at e;exact h x y c b e
   .rw[cw]at b;cases f:x==n with
    |true=>rw[f]at b;cases b;exact bK _
    |false=>rw[f]at b;exact cy (hl x c b)
  .exact oE r k a h hl
theorem nU:∀a h b,(cellsFrom h.objs.size a b).lookup x=some c->b.lookup x=some c\/(h.objs.size<=c/\(pushCells h a).IsCell c none)
 |[],_,_,e=>.inl e
 | (n,kd)::r,h,b,e=>by
  unfold cellsFrom at e;unfold pushCells;split at e
  .rename_i d;rw[aR d];have g:(cellsFrom (h.push {cls:=.type "cell",data:=.cell none}).objs.size r ((n,h.objs.size)::b)).lookup x=some c:=by rw[Heap.size_push];exact e
   rcases nU r _ _ g with q|⟨q,m⟩
   .rw[cw]at q;cases f:x==n with
    |true=>rw[f]at q;cases q;exact .inr ⟨aL _,_,pushCells_keeps r _ _ _ (ar _ rfl),rfl⟩
    |false=>rw[f]at q;exact .inl q
   .rw[Heap.size_push]at q;exact .inr ⟨cx q,m⟩
  .rename_i d;rw[aS d];exact nU r _ _ e
def uH{M:Model}{A:Around}{E:Value->Shared->Prop}{s:Shared}{a:Scope}{globals:Addr}{closure:List (Str×Addr)}{c:Str}{e:Option Addr}{d:Value}{b:Env}{builtins:Addr}{Q:Env->Shared->Prop}
  (j:Q (newEnv a s.heap.objs.size globals (cellsFrom (s.heap.objs.size+1) a.names closure) c e d (some b) builtins) {s with heap:=pushCells (s.heap.push {cls:=.type "dict",data:=.dict #[]}) a.names}) :
  wpAny M A (newFunctionEnv a globals closure [] c e d (some b) builtins) Q E s:=by
 simp only[newFunctionEnv,Option.isSome_some,if_true];refine ao (wpAny_alloc ?_);refine ao (wpAny_layCells _ (λi f g=>by cases h:f==NameKind.cell<;>simp[h]) _ _ _ _ ?_);rw[show ({s with heap:=s.heap.push {cls:=.type "dict",data:=.dict #[]}}:Shared).heap.objs.size=s.heap.objs.size+1 from Heap.size_push ..];rw[cz];exact ao (ak (ak j))
noncomputable def nc(X:Cx)(N:List Str)(a:Scope)(C:Addr)(b:Shared)(H:Hp)(ex:List Addr)(pn:List (Addr×Obj)):Cx:={X with N:=N,s₀:=b,H₀:=H,env:=compEnvC a (cellsFrom (C+1) a.names (mP X.env a.names [])) C X.env,outer:=X.stack,ex:=ex,fn:=λx=>a.names.lookup x==some .cell,pn:=pn,xe:=λ_ _=>False}
noncomputable def pull(a:List (Option Nat))(b:St):St:=a.map fun
 |none=>none
 |some j=>(b[j]?).getD none
def Vo(J:It)(p:List (Option Nat))(g:TG)(n:TT)(j:TE)(k:St)(l:Hp)(Q:VK):Prop:=∃W:Nat->Nat->List V->Hp->Prop,(∃m,W 0 m [] l)/\∀i m d H,W i m d H->
 (J.stop i H/\∀D,H D=none->Q (.ref D) (ja H D (.lst d)))\/
 (J.go i H/\d.length<sizeLine/\∀x e,J.yld i H x e->g x (pull p k) e λc o=>n c o λb f=>if b=true then j c f λy h=>∃a,a<m/\W (i+1) a (d++[y]) h else ∃a,a<m/\W (i+1) a d f)
def Jb(c:List (Option Nat))(d:TI)(g:TG)(b:TT)(f:TE):TE:=λa H Q=>d a H λJ e=>Vo J c g b f a e Q
end L2
namespace L2
open PySem PySem.Spec PyProof.Rows
section
variable {prog:Program}{w:World}{A:Around}{R:Result->Shared->Prop}{s:Shared}
theorem Ab{p D g:Expr}{q:List Expr}{b:Scope}{pos:Pos}{it t:Value}{a:Env}(J:Nat->Shared->Prop)
  (turn:∀n s,J n s->wpAny (model prog w) A (pyNext it) (λr e=>match r with
   |none=>R (.ok .next) e
   |some v=>wpAny (model prog w) A (letOwnedTupleGo D it v) (λ_ j=>wpAny (model prog w) A (assign D a v) (λ_ l=>
     wpAny (model prog w) A (forIn q true λc r=>if r=true then do let ok <-isTrue c a (eval c a);pure (ForInStep.yield ok) else pure (ForInStep.yield r)) (λok d=>
      if ok=true then wpAny (model prog w) A (eval p a) (λx i=>wpAny (model prog w) A (call (.builtin "list.append") [t,x]) (λ_ f=>∃m,m<n/\J m f) (λ_ _=>False) i) (λ_ _=>False) d
      else ∃m,m<n/\J m d) (λ_ _=>False) l) (λ_ _=>False) j) (λ_ _=>False) e) (λ_ _=>False) s)
  (n:Nat) (h:J n s):codeAny (model prog w) A (.compLoop (.ListComp p [⟨D,g,q,0⟩] b pos) 0 it t a) R s:=by
 refine codeAny_loop rfl J (λn s E=>?_) n h;show wpAny _ A ((compTurn (.ListComp p [⟨D,g,q,0⟩] b pos) 0 it t a).onRaise (λx=>do noteFrame x a;theTreesLotGoes x)) _ _ s;refine wpAny_noted ?_;rw[compTurn_list];refine ao (wpAny_standAt (ao (wpAny_mono (turn n s E) (λr e o=>?_) λ_ _ z=>z.elim)));cases r with
 |none=>exact ak o
 |some v=>
  refine ao (wpAny_mono o (λ_ j y=>?_) λ_ _ z=>z.elim);refine ao (wpAny_mono y (λ_ l C=>ao (wpAny_mono C (λok d k=>?_) λ_ _ z=>z.elim)) λ_ _ z=>z.elim);cases ok with
  |false=>exact ak ⟨rfl,k⟩
  |true=>exact ao (ao (wpAny_mono k (λx i u=>ao (wpAny_mono u (λ_ f B=>ak (ak ⟨rfl,B⟩)) λ_ _ z=>z.elim)) λ_ _ z=>z.elim))
end
def pR(c:List (Option Nat))(g:TG):Prop:=∀x a H Q,g x a H Q->g x a H λb d=>(∀i j:Nat,c[i]? = some (some j)->b[i]? = a[i]?)/\Q b d
def xN(b:ix[k]? = some none):pR ix (jS k):=λx a H Q h=>by
 refine⟨λi j e=>?_,h⟩;have:k≠i:=by rintro rfl;rw[b]at e;cases e
 rw[aq this]
abbrev yk(us:List Value):Obj:={cls:=.type "list",data:=.seq us.toArray us.length}
section
variable {X:Cx}{tg elt iter:Expr}{ifs:List Expr}{scope:Scope}{pos:Pos}{N:List Str}{ix:List (Option Nat)}{wi:TI}{g:TG}{tt:TT}{te:TE}
structure Cy(X:Cx)(scope:Scope)(N:List Str)(ix:List (Option Nat)):Prop where
 kind:scope.kind=.function
 sep:∀y∈scope.names,y.2=.cell->scope.names.lookup y.1=some .cell
 names:∀y∈scope.names,y.2=.local->scope.names.lookup y.1=some .local
 fre:∀y∈scope.names,y.2=.free->∃c,X.env.cells.lookup y.1=some c
 len:N.length=ix.length
 ix:∀(i j:Nat) (x:Str),N[i]? = some x->ix[i]? = some (some j)->X.N[j]? = some x/\scope.names.lookup x=some .free/\SN X.env.scope x/\X.env.kindOf x≠some .local
def S1(L:Cy X scope N ix)(I:iz X gU σ H s)(f:∀b∈fp,vA X gU H b)(j:∀b∈fp,b<s.heap.objs.size) o :
  (nc X N scope (s.heap.objs.size+1) {s with heap:=s.heap.push o} H (s.heap.objs.size::fp) (X.pn++gU)).Ok:=by
 have t:iz X gU σ H {s with heap:=s.heap.push o}:=I.kept λb u e=>ae _ e;have sound0:∀x c,(mP X.env scope.names []).lookup x=some c->X.env.cells.lookup x=some c:=λx c e=>my (λy d z=>by simp at z) e;have cellLt:∀x c,X.env.cells.lookup x=some c->c<s.heap.objs.size:=λx c e=>let ⟨_,q⟩:=I.cell x c e;q.lt;have h:∀x c,(cellsFrom (s.heap.objs.size+1+1) scope.names (mP X.env scope.names [])).lookup x=some c->X.env.cells.lookup x=some c\/s.heap.objs.size+1+1<=c:=λx c e=>by
  rcases nE _ _ _ e with q|⟨q,_⟩
  .exact .inl (sound0 x c q)
  .exact .inr q
 refine⟨I.ok.mod,L.kind,I.ok.glob,I.ok.blt,?_,oE _ _ _ (λx y c i l=>I.ok.inj x y c (sound0 x c i) (sound0 y c l)) (λx c i=>cy (cy (cellLt x c (sound0 x c i)))),λx r=>?_,λx c i l=>?_,I.ok.hd,I.ok.frames,.inl rfl,λb a=>?_,λb u e=>?_,?_,λb u e a=>?_,λb a=>?_,t.stack,I.stkFree,I.tab⟩
 .show (s.heap.push o).objs.size<=s.heap.objs.size+1;rw[Heap.size_push];exact aL _
 .refine bP.mp (W.cellsFrom_some _ _ _ ?_);rcases tO r with k|k
  .exact .inr (bP.mpr (pj k (L.fre _ k rfl)))
  .exact .inl k
 .have m:(scope.names.lookup x==some .cell)=true:=i;have v:scope.names.lookup x=some .cell:=by simpa using m
  show (s.heap.push o).objs.size<=c;rw[Heap.size_push];exact cx (oC _ _ _ (PySem.mem_of_lookup v) l)
 .rcases aG.mp a with rfl|a
  .refine⟨aN (bK _),λx c e z=>?_⟩;rcases h x c e with q|q
   .exact absurd (cellLt x c q) (by rw[z];exact bg _)
   .rw[z]at q;omega
  .refine⟨aN (cy (j b a)),λx c e=>?_⟩;rcases h x c e with q|q
   .exact (f b a).2.2.2.2.1 x c q
   .intro z;rw[z]at q;exact absurd (aO (cA _ 2) q) (Nat.not_le.mpr (j b a))
 .exact⟨ae _ (I.bs b u e).1,(I.bs b u e).2⟩
 .show X.base.objs.size<=(s.heap.push o).objs.size;rw[Heap.size_push];exact cB (aO I.ok.bsz I.sz)
 .have n:=aM (I.bs b u e).1;rcases aG.mp a with rfl|a
  .exact bg _ n
  .rcases (f b a).2.2.2.1 with z|z
   .exact I.ok.noex b u e z
   .exact absurd (aF (aM e) (aO I.ok.bsz z)) (bg _)
 .intro z;have p:=I.stkSub b z;rcases aG.mp a with rfl|a
  .rcases aG.mp p with q|q
   .exact absurd I.lt (by rw[<-q];exact bg _)
   .exact I.nofs (aL _) q
  .rcases aG.mp p with q|q
   .exact (f b a).2.1 q
   .exact (f b a).2.2.1 q
end
end L2
namespace L2
open PySem PySem.Spec PyProof.Rows
section
variable {X:Cx}{tg elt iter:Expr}{ifs:List Expr}{scope:Scope}{pos:Pos}{N:List Str}{ix:List (Option Nat)}{wi:TI}{g:TG}{tt:TT}{te:TE}
def BH{i:Nat}(h:(pull ix σ)[i]? = some (some v)):∃j,ix[i]? = some (some j)/\σ[j]? = some (some v):=by
 unfold pull at h;rw[aw]at h;cases e:ix[i]? with
 |none=>rw[e]at h;cases h
 |some k=>
  rw[e]at h;cases k with
  |none=>cases h
  |some j=>
   refine⟨j,rfl,?_⟩;have a:(σ[j]?).getD none=some v:=by simpa using h
   cases q:σ[j]? with
   |none=>rw[q]at a;cases a
   |some z=>rw[q]at a;simpa using a
theorem FM{RR:Value->Addr->Result->Shared->Prop}{Q:VK}{W:Nat->Nat->List V->Hp->Prop}
  (hc:X.calm=true) (L:Cy X scope N ix) (hgk:pR ix g)
  (blk:∀C F H ex pn,PG (nc X N scope C F H ex pn) tg g/\Ia (nc X N scope C F H ex pn) ifs tt/\PE (nc X N scope C F H ex pn) elt te)
  (l:iz X gU σ H2 s2) (T:EW X.prog X.w X.K tg J fp it tn) (st2:tn 0 s2.heap) (f2:∀b∈fp,vA X gU H2 b) (w0:W 0 m0 [] H2)
  (turn:∀i m ys H,W i m ys H->(J.stop i H/\∀D,H D=none->Q (.ref D) (ja H D (.lst ys)))\/
   (J.go i H/\ys.length<sizeLine/\∀x s,J.yld i H x s->g x (pull ix σ) s λσ2 H2=>tt σ2 H2 λb H3=>if b=true then te σ2 H3 λy H4=>∃m',m'<m/\W (i+1) m' (ys++[y]) H4 else ∃m',m'<m/\W (i+1) m' ys H3))
  (fin:∀D C m s U,U.heap.Ns C m->vA X gU s C->iz X gU σ s U->Q (.ref D) s->RR (.ref D) C (.ok .next) U) :
  wpAny (model X.prog X.w) X.A (newList []) (λacc F=>wpAny (model X.prog X.w) X.A (newFunctionEnv scope X.env.globals (mP X.env scope.names []) [] X.env.qual none .none (some X.env)) (λcenv s₄=>codeAny (model X.prog X.w) X.A (.compStart (.ListComp elt [⟨tg,iter,ifs,0⟩] scope pos) 0 (.ref it) acc {cenv with scope:=relabel scope X.env}) (RR acc cenv.locals) s₄) E F) E s2:=by
 refine wpAny_newObj_type (uH ?_);have hCs:(s2.heap.push {cls:=.type "list",dict:=none,data:=.seq ([]).toArray}).objs.size=s2.heap.objs.size+1:=Heap.size_push ..;generalize R:pushCells ((s2.heap.push {cls:=.type "list",dict:=none,data:=.seq ([]).toArray}).push {cls:=.type "dict",data:=.dict #[]}) scope.names=h₁;rw[hCs];have hns₁:h₁.Ns (s2.heap.objs.size+1) (λ_=>none):=by rw[<-R,<-hCs];exact (Heap.Ns.new _ _).keeps (pushCells_keeps _ _)
 have S:∀x c,(cellsFrom (s2.heap.objs.size+1+1) scope.names (mP X.env scope.names [])).lookup x=some c->X.env.cells.lookup x=some c\/(s2.heap.objs.size+1+1<=c/\h₁.IsCell c none):=λx c e=>by
  have hs3:((s2.heap.push {cls:=.type "list",dict:=none,data:=.seq ([]).toArray}).push {cls:=.type "dict",data:=.dict #[]}).objs.size=s2.heap.objs.size+1+1:=by rw[Heap.size_push,hCs]
  rw[<-hs3]at e;rcases nU _ _ _ e with q|⟨q,m⟩
  .exact .inl (my (λy d z=>by simp at z) q)
  .rw[hs3]at q;rw[R]at m;exact .inr ⟨q,m⟩
 have fpObj:=T.obj 0 _ st2;have hlt:∀b∈fp,b<s2.heap.objs.size:=λb h=>let ⟨_,e,_⟩:=fpObj b h;aM e;have ok:=S1 L l f2 hlt {cls:=.type "list",dict:=none,data:=.seq ([]).toArray};have DC:s2.heap.objs.size≠s2.heap.objs.size+1:=aN (bK _);have hold:∀b o,(s2.heap.push {cls:=.type "list",dict:=none,data:=.seq ([]).toArray}).get? b=some o->h₁.get? b=some o:=λb o e=>by rw[<-R];exact pushCells_keeps _ _ _ _ (ae _ e)
 have Z:∀b o,s2.heap.get? b=some o->h₁.get? b=some o:=λb o e=>hold b o (ae _ e);have sound:∀x c,(mP X.env scope.names []).lookup x=some c->X.env.cells.lookup x=some c:=λx c e=>my (λy d z=>by simp at z) e;have cellLt:∀x c,X.env.cells.lookup x=some c->c<s2.heap.objs.size:=λx c e=>let ⟨_,q⟩:=l.cell x c e;q.lt;have hDn:=l.hok.fresh (aL _);have hCn:=l.hok.fresh (bN _);have t:∀p∈X.pn++gU,p.1<s2.heap.objs.size:=λp f=>aM (l.pin p f).1;have hDfs:s2.heap.objs.size∉Gq X.stack:=λz=>by
  rcases aG.mp (l.stkSub _ z) with q|q
  .exact absurd l.lt (by rw[<-q];exact bg _)
  .exact l.nofs (aL _) q
 have I':iz (nc X N scope (s2.heap.objs.size+1) {s2 with heap:=s2.heap.push {cls:=.type "list",dict:=none,data:=.seq ([]).toArray}} H2 (s2.heap.objs.size::fp) (X.pn++gU))
   [(s2.heap.objs.size,yk [])] (pull ix σ) H2 {s2 with heap:=h₁,toks:=s2.toks}:=by
  refine⟨ok,rfl,l.bare,Un.kept hold,⟨_,hns₁,λi x v h1 h2 h3=>?_⟩,λx c e=>?_,hCn,λx c e=>?_,λp f=>?_,l.hok.kept Z,?_⟩
  .obtain⟨j,ej,es⟩:=BH h2;obtain⟨q1,q2,q3,q4⟩:=L.ix i j x h1 ej;obtain⟨m,_,hl⟩:=l.loc;obtain⟨u,r,lk⟩:=hl j x v q1 es q3;refine⟨u,r,?_⟩;rcases lk with⟨k,_⟩|⟨k,c,hcl,hv⟩
   .exact absurd k q4
   .obtain⟨c',hc'⟩:=pj (PySem.mem_of_lookup q2) ⟨c,hcl⟩;have:=sound x c' hc';rw[hcl]at this;cases this;have hnc:(x,NameKind.cell)∉scope.names:=λz=>by have:=L.sep _ z rfl;rw[q2]at this;cases this
    refine .inr ⟨?_,c,(mG _ _ _ hnc).trans hc',let ⟨ob,ho,hd⟩:=hv;⟨ob,Z c ob ho,hd⟩⟩;exact Bj q2
  .rcases S x c e with q|⟨_,q⟩
   .obtain⟨v,ob,ho,hd⟩:=l.cell x c q;exact⟨v,ob,Z c ob ho,hd⟩
   .exact⟨none,q⟩
  .rcases S x c e with q|⟨q,_⟩
   .exact l.freeC x c q
   .exact l.hok.fresh (aO (cA _ 2) q)
  .rcases ai.mp f with f|f
   .obtain⟨e,n,ne,nf,d⟩:=l.pin p f;refine⟨Z _ _ e,n,aN (cy (t p f)),λz=>?_,d⟩;rcases aG.mp (l.stkSub _ z) with q|q
    .exact ne q
    .exact nf q
   .have e:p=(s2.heap.objs.size,yk []):=by simpa using f
    subst e;exact⟨hold _ _ (ar _ rfl),hDn,DC,hDfs,λv z=>by cases z⟩
  .unfold pull;rw[ax];exact L.len.symm
 generalize a:nc X N scope (s2.heap.objs.size+1) {s2 with heap:=s2.heap.push {cls:=.type "list",dict:=none,data:=.seq ([]).toArray}} H2 (s2.heap.objs.size::fp) (X.pn++gU)=X' at I';obtain⟨hg,hif,he⟩:=blk (s2.heap.objs.size+1) {s2 with heap:=s2.heap.push {cls:=.type "list",dict:=none,data:=.seq ([]).toArray}} H2 (s2.heap.objs.size::fp) (X.pn++gU);rw[a]at hg hif he;have stat:∀{s:Hp} {P:List Value},(∀b∈fp,s b=none)->∀b∈fp,vA X' [(s2.heap.objs.size,yk P)] s b:=λ{s P} hn b h=>by
  subst a;obtain⟨_,f1,f2',f3,f4,f5⟩:=f2 b h;refine⟨hn b h,aN (cy (hlt b h)),λz=>?_,.inl (bx _ h),λx c e=>?_,λp f=>?_⟩
  .rcases aG.mp (l.stkSub _ z) with q|q
   .exact f1 q
   .exact f2' q
  .rcases S x c e with q|⟨q,_⟩
   .exact f4 x c q
   .intro z;rw[z]at q;exact absurd (aO (cA _ 2) q) (Nat.not_le.mpr (hlt b h))
  .rcases ai.mp f with f|f
   .exact f5 p f
   .have e:p=(s2.heap.objs.size,yk P):=by simpa using f
    subst e;exact Ne.symm (aN (hlt b h))
 have loop:codeAny (model X.prog X.w) X.A (.compLoop (.ListComp elt [⟨tg,iter,ifs,0⟩] scope pos) 0 (.ref it) (.ref s2.heap.objs.size) X'.env) (RR (.ref s2.heap.objs.size) (s2.heap.objs.size+1))
   {s2 with heap:=h₁,toks:=s2.toks}:=by
  refine Ab (λn U=>∃i ys P s,iz X' [(s2.heap.objs.size,yk P)] (pull ix σ) s U/\iO ys P/\ys.length<=sizeLine/\tn i U.heap/\(∀b∈fp,s b=none)/\W i n ys s) ?_ m0
   ⟨0,[],[],H2,I',.nil,bL _,T.keep _ _ _ st2 λb _ o e=>Z b o e,λb h=>(f2 b h).1,w0⟩
  rintro n s3 ⟨i,ys,P,H3,I3,rv,hz,st3,fr3,w3⟩;have hcX:X'.calm=true:=by subst a;exact hc
  have hA:X'.A=X.A:=by subst a;rfl
  rcases turn i n ys H3 w3 with⟨stop,qn⟩|⟨go,mq,step⟩
  .have hd:=T.done X' (by subst a;rfl) (by subst a;rfl) (by subst a;rfl) hcX i _ s3 _ H3 (λ_ _=>False) I3 (stat fr3) st3 stop;rw[hA]at hd;refine kh hd λr s4 ⟨hr,I4⟩=>?_;subst hr;subst a;obtain⟨m,hn,_⟩:=I4.loc;have hD3:=I4.pin (s2.heap.objs.size,yk P) (bF _ bu);have u1:Un (Gq X.stack) fp H2 H3 s2.heap s4.heap:=by
    have B:=I4.base;have nD:∀b o,s2.heap.get? b=some o->b∉fp->b∉s2.heap.objs.size::fp:=λb o e h z=>by
     rcases aG.mp z with q|q
     .exact absurd (aM e) (by rw[q];exact bg _)
     .exact h q
    exact⟨λb o e n h hx=>B.keep b o (ae _ e) n h (nD b o e hx),λb o e n h hx=>B.slot b o (ae _ e) n h (nD b o e hx),
     λb o e n hx=>B.free b o (ae _ e) n (nD b o e hx),λb o e hx=>B.there b o (ae _ e) (nD b o e hx),B.tups,B.frzs,B.tbls⟩
   have I5:=l.call' I4.os u1 I4.hok I4.bare λb h=>let ⟨_,f1,_,f3,f4,f5⟩:=f2 b h;⟨f3,f1,f4,f5⟩;have I6:iz X gU σ (ja H3 s2.heap.objs.size (.lst ys)) s4:=I5.track hD3.2.1 (.inr l.sz) (Ne.symm (aN l.lt)) (λx c e z=>absurd (cellLt x c e) (by rw[z];exact bg _))
    (λp f=>aN (t p f)) ⟨hz,P,P.length,rv,hD3.1⟩
   refine fin _ _ m _ s4 hn ⟨?_,?_,?_,.inr (cB l.sz),λx c e z=>?_,λp f=>?_⟩ I6 (qn _ hD3.2.1)
   .rw[hU (Ne.symm DC)];exact I4.free
   .exact Ne.symm (aN (cy l.lt))
   .exact l.nofs (bN _)
   .exact absurd (cellLt x c e) (by rw[z];exact cC.mpr (bN _))
   .exact aN (cy (t p f))
  .have hd:=T.item X' (by subst a;rfl) (by subst a;rfl) (by subst a;rfl) hcX i _ s3 _ H3 (λ_ _=>False) I3 (stat fr3) st3 go;rw[hA]at hd;refine kh hd λr s4 ⟨u,hr,h4⟩=>?_;subst hr;refine kh h4 λ_ s5 ⟨x,H5,I5,r5,y5,st5,fr5⟩=>?_;have I5':=I5.pinned (stat fr5) (T.obj _ _ st5);have hM:model X'.prog X'.w=model X.prog X.w:=by subst a;rfl
   have hE:X'.xe=λ_ _=>False:=by subst a;rfl
   have a6:=hg _ s5 _ H5 x u _ I5' r5 (hgk x _ H5 _ (step x H5 y5));rw[hM,hA,hE]at a6;refine kh a6 λ_ s6 ⟨σ6,H6,I6,agr,q6⟩=>?_;have a7:=hif _ s6 σ6 H6 _ I6 q6;rw[hM,hA,hE]at a7;refine kh a7 λok s7 ⟨H7,I7,q7⟩=>?_;have back:∀{U:Shared} {s:Hp} {pl:List (Addr×Obj)},iz X' pl σ6 s U->iz X' pl (pull ix σ) s U:=λ{U s pl} I=>by
    refine I.weak ?_ λk v e=>?_
    .have e1:=I.len;have e2:=I3.len;rw[e1,e2]
    .obtain⟨j,ej,_⟩:=BH e;rw[agr k j ej];exact e
   have held:∀{U:Shared} {s:Hp},iz X' ([(s2.heap.objs.size,yk P)]++wF fp s5.heap) σ6 s U->tn (i+1) U.heap/\∀b∈fp,s b=none:=λ{U s} I=>by refine⟨T.keep _ _ _ st5 λb h o e=>(I.pin (b,o) (bF _ (bF _ (pL h e)))).1,λb h=>?_⟩;obtain⟨o,e,_⟩:=T.obj _ _ st5 b h;exact (I.pin (b,o) (bF _ (bF _ (pL h e)))).2.1
   cases ok with
   |false=>rw[aS aI]at q7 ⊢;obtain⟨m',hm,w7⟩:=q7;obtain⟨k1,k2⟩:=held I7;exact⟨m',hm,i+1,ys,P,H7,(back I7).unpinned,rv,hz,k1,k2,w7⟩
   |true=>
    rw[aR rfl]at q7 ⊢;have a8:=he _ s7 σ6 H7 _ I7 q7;rw[hM,hA,hE]at a8;refine kh a8 λy s8 ⟨yv,H8,I8,r8,m',hm,w8⟩=>?_;obtain⟨k1,k2⟩:=held I8;have Y:=I8.pin (s2.heap.objs.size,yk P) (bF _ (ay _ bu));have hl:=rv.length;refine append_at Y.1 λh9 sb hD9=>?_;have I9:iz X' [] (pull ix σ) H8 s8:=(back I8).pins_of λp f=>by simp at f
    have I10:=I9.turned (t':=s8.toks) (λb o h e=>sb.extBut b o h e) Y.2.1 Y.2.2.1 (.inl (by subst a;exact bu))
     (λx c e z=>by
      subst a;rcases S x c e with q|⟨q,_⟩
      .exact absurd (cellLt x c q) (by rw[z];exact bg _)
      .rw[z]at q;omega) (λp f z=>by
      subst a;rcases ai.mp f with f|f
      .exact absurd (t p f) (by rw[z];exact bg _)
      .simp at f)
    have e9:h9.get? s2.heap.objs.size=some (yk (P++[y])):=by rw[hD9];simp
    refine⟨m',hm,i+1,ys++[yv],P++[y],H8,I10.pins_of λp f=>?_,rv.append (.cons r8 .nil),by rw[aU,cf];omega,?_,k2,w8⟩
    .have e:p=(s2.heap.objs.size,yk (P++[y])):=by simpa using f
     subst e;exact⟨e9,Y.2.1,Y.2.2.1,Y.2.2.2.1,λv z=>by cases z⟩
    .exact T.keep _ _ _ k1 λb h o e=>sb.extBut b o (aN (hlt b h)) e
 have loop':=loop;subst a;exact codeAny_compStart_list loop (T.self X.A 0 _ _ _ (T.keep _ _ _ st2 λb _ o e=>Z b o e) loop')
def T4(t:X.calm=true)(R:PI X tg iter wi)(L:Cy X scope N ix)(d:pR ix g)
  (j:∀C a H k i,PG (nc X N scope C a H k i) tg g/\Ia (nc X N scope C a H k i) ifs tt/\PE (nc X N scope C a H k i) elt te)
  (w:∀x,foldedSetIterable iter X.env x=pure x:=by intro _;rfl):PE X (.ListComp elt [⟨tg,iter,ifs,0⟩] scope pos) (Jb ix wi g tt te):=by
 intro K s B H Q I h;rw[eval_ListComp];refine wpAny_comprehension_free rfl w (rQ L.fre) L.kind L.names (kh (R K s B H _ I h) λv Y y=>kh y λu U E=>?_);obtain⟨it,fp,Z,J,H2,e,p,T,c,r,W,⟨S,F⟩,turn⟩:=E;subst e;refine FM t L d j p T c r F turn λD C m A s' n f P q=>?_;refine⟨m,n,λh' z=>⟨.ref D,A,P.turned (λb o l e=>z.extBut b o l e) f.1 f.2.1 f.2.2.2.1 f.2.2.2.2.1 f.2.2.2.2.2,rfl,q⟩⟩
end
end L2
namespace L2
open PySem PySem.Spec PyProof.Rows
structure iu(K:W.Frag)(mg:Str->Option Value)(x:Str)(st:Stmt):Prop where
 ex:∃f fd,Mn K x x st f fd/\mg x=some (.ref f)
def RC{K:W.Frag}{st:Stmt}{kV d e b g:Value}(X:K.In h)(G:h.Ns mainGlobals mg)
  (a:W.nsIn K mainGlobals x=some (some (.ref f)))
  (l:K.lookup f=some ⟨oc,od,.func (W.fnOf x x (jU st) (iQ st) (g9 st) .none kV d e an b g),osl⟩)
  (c:W.codeIn K b x=true) (k:W.keepIn K (.ref f)=true):iu K mg x st:=⟨f,_,EF l c k,W.mg_of X G a⟩
structure lI(P:Program)(w:World)(K:W.Frag)(mg:Str->Option Value)(base:Heap)(x:Str)(k:Nat)(sp:Sp):Prop where
 ex:∃f fd ps,nM P w K mg base sh k f fd ps sp/\mg x=some (.ref f)/\W.keepIn K (.ref f)=true/\qI K fd ps []
def lI.mono{K:W.Frag}(h:lI P w K mg base x j sp)(d:j<=k):lI P w K mg base x k sp:=
 let ⟨f,fd,ps,F,a,b,c⟩:=h.ex
 ⟨f,fd,ps,F.mono d,a,b,c⟩
def AR{K:W.Frag}{st:Stmt}(D:iu K mg x st)(S:i8 N ps (g9 st))
  (g:∀(kV e h:Value) (n:Option Addr) (a i:Value) (us:List Value),us.length=ps.length->bindArgs (W.fnOf x x (jU st) (iQ st) (g9 st) .none kV e h n a i) ⟨us,[]⟩=pure (ps.zip us))
  (d:∀vs H Q E,sp vs H Q E->vs.length=ps.length)
  (b:∀f a A c s H vs Q E,ji k (A.deeper (envOfC x (g9 st) s.heap.objs.size f a))->sp vs H Q E->
   ∃t,Bg (ny sh P w K mg base N x (g9 st) f a A c s H E).nox (iQ st) t/\t {nx:=λ_ j=>Q .non j,rt:=Q} (lK N vs) H):lI P w K mg base x (k+1) sp:=by
 obtain⟨f,l,F,m⟩:=D.ex;exact⟨f,l,ps,F.ok S d (b f),m,F.kp,F.binds g⟩
section
variable {X:Cx}{x:Str}{k:Nat}{sp:Sp}{e:Expr}{es:List Expr}{t:TA}{p pos:Pos}
def Dm(h:lI X.prog X.w X.K X.mg X.base x k sp)(hr:ji k X.A)(i:PA X (e::es) t)(l:Gl X x:=by rfl)
  (d:(x==("__debug__" : Str))=false:=by decide) (j:starEach (e::es) X.env=(false,eval e X.env)::starEach es X.env:=by rfl) (g:(backTo pos (starEach es X.env)).any (·.1)=false:=by rfl) :
  PE X (.Call (.Name x p) (e::es) [] pos) (zA sp [] E0 t):=by
 obtain⟨f,m,n,F,a,b,c⟩:=h.ex;exact OZ F hr l a b c .nil L4 i d j g
end
def MU:rK X (binaryOp .Mult) (rI (λi j=>PySem.IntMulOk i j) λi j=>.int (i*j)):=UE λ_ _ _ _ _ _ _ a q=>mul_int q a
def LX:rK X (binaryOp .FloorDiv) (rI (λi j=>j≠0/\Builtin.divisionGoesByPylong i j=false) λi j=>.int (i.fdiv j)):=UE λ_ _ _ _ _ _ _ a q=>floordiv_int a.1 q (.inl a.2)
end L2
namespace L2
open PySem PySem.Spec PyProof.Rows PySem.W PySem.Calls
theorem zj:∀{a:List Addr} {us:List Value},iO (a.map V.ref) us->us=a.map Value.ref
 |[],_,.nil=>rfl
 |d::a,u::us,.cons r t=>by have e:=r;rw[e,zj t];rfl
end L2
namespace L2
open PySem PySem.Spec PyProof.Rows PySem.W
mutual
inductive DV(K:Frag)(H:Hp):V->PyData->Prop
 |non:DV K H .non .none
 |bl (b:Bool):DV K H (.bl b) (.bool b)
 |int (i:Int):DV K H (.int i) (.int i)
 |str (x:Str):DV K H (.str x) (.str x)
 |lst {a:Addr} {xs:List V} {ds:List PyData} (h:lS K H a xs) (hs:C7 K H xs ds):DV K H (.ref a) (.list ds)
 |tup {a:Addr} {xs:List V} {ds:List PyData} (h:mW K H a xs) (hs:C7 K H xs ds):DV K H (.ref a) (.tuple ds)
inductive C7(K:Frag)(H:Hp):List V->List PyData->Prop
 |nil:C7 K H [] []
 |cons {v:V} {d:PyData} {vs:List V} {ds:List PyData} (h:DV K H v d) (hs:C7 K H vs ds):C7 K H (v::vs) (d::ds)
end
section
variable {X:Cx}{gU:List (Addr×Obj)}{σ:St}{H:Hp}{s:Shared}
mutual
theorem DV.reads(I:iz X gU σ H s):∀{v} {d} {u},DV X.K H v d->i9 v u->∃as,Reads s.heap u d as
 |_,_,_,.non,r=>by cases r;exact⟨_,.none⟩
 |_,_,_,.bl b,r=>by cases r;exact⟨_,.bool b⟩
 |_,_,_,.int i,r=>by obtain⟨t,rfl⟩:=r;exact⟨_,.int i t⟩
 |_,_,_,.str x,r=>by obtain⟨t,rfl⟩:=r;exact⟨_,.str x t⟩
 |_,_,_,.lst h hs,r=>by cases r;obtain⟨g,a,⟨o,n,e,j,k,c⟩,_⟩:=I.list h;obtain⟨as,f⟩:=C7.reads I hs a;exact⟨_,.list e j c (by simpa using f)⟩
 |_,_,_,.tup h hs,r=>by cases r;obtain⟨g,a,⟨o,e,j,n,c⟩,_⟩:=I.tuple h;obtain⟨as,f⟩:=C7.reads I hs a;exact⟨_,.tuple e j c (by simpa using f)⟩
theorem C7.reads(I:iz X gU σ H s):∀{vs} {ds} {us},C7 X.K H vs ds->iO vs us->∃as,ReadsAll s.heap us ds as
 |_,_,_,.nil,r=>by cases r;exact⟨_,.nil⟩
 |_,_,_,.cons h hs,r=>by
  cases r with
  |cons r1 r2=>obtain⟨as,b⟩:=DV.reads I h r1;obtain⟨bs,a⟩:=C7.reads I hs r2;exact⟨_,.cons b a⟩
end
def EE(K:Frag)(neg:Bool):R2:=λx y H Q=>∃a b,DV K H x a/\DV K H y b/\(a.canLay0=true/\b.canLay0=true/\a.depth<=100)/\Q (.bl (if neg then !PyData.eqv a b else PyData.eqv a b)) H
def LH(o:X.A.units+200<cLine):rK X (compareOp .Eq) (EE X.K false):=by intro n s l H x y v u Q I g b h;obtain⟨j,k,d,f,⟨c,i,m⟩,q⟩:=h;obtain⟨as,e⟩:=d.reads I g;obtain⟨bs,a⟩:=f.reads I b;exact SeqAt.eqOverData _ _ _ _ _ _ _ _ _ _ _ _ e a c i (by omega) ⟨.bl _,H,I,rfl,q⟩
def JW(o:X.A.units+200<cLine):rK X (compareOp .NotEq) (EE X.K true):=by intro n s l H x y v u Q I g b h;obtain⟨j,k,d,f,⟨c,i,m⟩,q⟩:=h;obtain⟨as,e⟩:=d.reads I g;obtain⟨bs,a⟩:=f.reads I b;exact SeqAt.neOverData _ _ _ _ _ _ _ _ _ _ _ _ e a c i (by omega) ⟨.bl _,H,I,rfl,q⟩
def UA(hr:ji k A):A.units+200<cLine:=by have:=hr.un;omega
end
end L2
namespace L2
open PySem PySem.Spec PyProof.Rows
theorem CZ:∀{bs:List Bool} {us:List Value},iO (bs.map V.bl) us->us=bs.map Value.bool
 |[],_,.nil=>rfl
 |b::bs,u::us,.cons r t=>by have e:=r;rw[e,CZ t];rfl
theorem sI:∀{ns} {us},iO (ns.map V.int) us->IntsAre us ns
 |[],_,.nil=>.nil
 |n::ns,u::us,.cons r t=>by obtain⟨a,e⟩:=(r);rw[e];exact .cons n a (sI t)
def HW{bs:List Bool}:(List.range bs.length).all (λi=>bs.getD i false)=bs.all id:=by
 induction bs with
 |nil=>rfl
 |cons b bs ih=>rw[az,cD,bV,cE,bV,<-ih];rfl
def zx{bs:List Bool}:(List.range bs.length).any (λi=>bs.getD i false)=bs.any id:=by
 induction bs with
 |nil=>rfl
 |cons b bs ih=>rw[az,cD,bW,cF,bW,<-ih];rfl
section
variable {X:Cx}
def Hm{bs:List Bool}:TruthOf prog w A (λi v=>(bs.map Value.bool).toArray[i]? = some v) (λi=>bs.getD i false):=λi v s Q E d c=>by
 have e:(bs.map Value.bool)[i]? = some v:=by simpa using d
 rw[aw]at e;cases a:bs[i]? with
 |none=>rw[a]at e;cases e
 |some b=>
  rw[a]at e;cases e;have:bs.getD i false=b:=by rw[af,a];rfl
  dsimp only at c;rw[this]at c;exact ak c
def Lj(f:X.calm=true):lA X (.builtin "all") (λxs H Q=>∃(p:Addr) (bs:List Bool),xs=[.ref p]/\lS X.K H p (bs.map V.bl)/\Q (.bl (bs.all id)) H):=by
 intro x s v H xs t Q I r h;obtain⟨p,bs,rfl,k,q⟩:=h;obtain⟨u,rfl,g⟩:=qB r;cases g;obtain⟨d,l,a,n⟩:=I.list k;have e:=CZ l;subst e;have c:p<s.heap.objs.size:=by obtain⟨_,e,_⟩:=a.isList;exact aM e
 refine call_all_walk (wpAny_pyIter_list a.isList ⟨s.heap.objs.size,_,_,_,_,_,λi=>bs.getD i false,rfl,Walks.list (A:=X.A.in1) (I.ok.hd f) _ p (aN c) _,⟨⟨_,ar _ rfl,rfl,rfl⟩,a.isList.push _⟩,Hm,λw y m=>?_⟩);refine⟨.bl _,H,I.kept (λb o e=>m b o ?_ (ae _ e)),rfl,?_⟩
 .intro j;have:=aM e;have z:b=s.heap.objs.size:=by simpa using j
  rw[z]at this;exact bg _ this
 .rw[<-HW]at q;simpa using q
def Jp(f:X.calm=true):lA X (.builtin "sum") (λxs H Q=>∃(p:Addr) (b:LI),xs=[.ref p]/\lS X.K H p (b.map V.int)/\Q (.int b.sum) H):=by intro w s t H xs o Q I r h;obtain⟨p,b,rfl,i,q⟩:=h;obtain⟨u,rfl,g⟩:=qB r;cases g;obtain⟨a,k,j,n⟩:=I.list i;have d:=sI k;obtain⟨xs,e⟩:=d.allInts.items;have c:=j.isList;rw[e]at c;refine sum_intListG (I.ok.hd f) c λv x l m=>⟨.int b.sum,H,I.kept m,⟨l,?_⟩,q⟩;rw[preSum_eq,cG (by simp),<-nums_intItems,<-e,show a.toArray.toList=a from rfl,d.numsOf]
def uB:bootBuiltins "all" = some (.builtin "all"):=by decide +kernel
def wM:bootBuiltins "any" = some (.builtin "any"):=by decide +kernel
def wc:bootBuiltins "sum" = some (.builtin "sum"):=by decide +kernel
end
end L2
namespace L2
open PySem PySem.Spec PyProof.Rows
def jV(b:Bool)(h:Heap)(l:Addr)(xs:Array Value):Prop:=if b=true then h.IsTuple l xs else h.IsList l xs
def mE(b:Bool)(h:Heap)(it l:Addr)(k:Nat):Prop:=if b=true then h.IsTupleIter it l k else h.IsListIter it l k
noncomputable def xb(b:Bool):String:=if b=true then "tuple_iterator" else "list_iterator"
def mE.look(x:mE b h it l k):∃o,h.get? it=some o/\o.cls=.type (xb b)/\o.data=.fields #[.ref l,.int k 0]:=by
 cases b with
 |true=>exact (x)
 |false=>exact (x)
def mE.of{k:Nat}(x:∃o,h.get? it=some o/\o.cls=.type (xb b)/\o.data=.fields #[.ref l,.int k 0]):mE b h it l k:=by
 cases b with
 |true=>exact x
 |false=>exact x
def mE.to(x:mE b h it l k)(e:∀o,h.get? it=some o->h'.get? it=some o):mE b h' it l k:=by obtain⟨o,a,q⟩:=x.look;exact .of ⟨o,e o a,q⟩
def jV.look(x:jV b h l xs):∃o n,h.get? l=some o/\o.data=.seq xs n:=by
 cases b with
 |true=>obtain⟨o,a,_,n,c⟩:=(x);exact⟨o,n,a,c⟩
 |false=>obtain⟨o,a,_,n,c⟩:=(x);exact⟨o,n,a,c⟩
def jV.to(x:jV b h l xs)(e:∀o,h.get? l=some o->h'.get? l=some o):jV b h' l xs:=by
 cases b with
 |true=>obtain⟨o,a,q⟩:=(x);exact⟨o,e o a,q⟩
 |false=>obtain⟨o,a,q⟩:=(x);exact⟨o,e o a,q⟩
section
variable {prog:Program}{w:World}{A:Around}{E:Value->Shared->Prop}{s:Shared}
theorem Pd(f:s.heap.IsTupleIter it l k)(j:s.heap.IsTuple l xs)
  (i:∀x h',xs[k]? = some x->h'.IsTupleIter it l (k+1)->Heap.SameBut it s.heap h'->Q x {s with heap:=h'})
  (d:xs[k]? = none->A.handled=none/\∀h' e,Heap.ExtBut it s.heap h'->(∃o,h'.get? e=some o/\o.cls=.type "StopIteration")->E (.ref e) {s with heap:=h'}) :
  wpAny (model prog w) A (Builtin.SmallTypes.nextOf (.ref it)) Q E s:=by
 obtain⟨r,b,g,a⟩:=id f;obtain⟨q,m,_,n,h⟩:=j;unfold Builtin.SmallTypes.nextOf;refine ao (wpAny_callSpecial?_slot f.typeIs F.slot_tuple_iterator_next (wpAny_call_entry F.slot_tuple_iterator_next f.typeIs F.entry_tuple_iterator_next ?_ (F.args_tuple_iterator_next_1 _)));show wpAny _ _ (field (.ref it) 0 >>= _) _ _ s;refine ao (wpAny_field b a rfl ?_);have ne:(Value.ref l==Value.none)=false:=rfl;simp only[ne,cu,if_false];refine ao (wpAny_field b a rfl (ao (wpAny_seqItems m h ?_)));cases c:xs[k]? with
 |some x=>simp only[bR,c];refine ao (wpAny_setField b a (by simp) (ak ⟨x,rfl,ak (i x _ c ?_ (Heap.SameBut.update ..))⟩));refine⟨_,Heap.get?_update_self _ b (Obj.isFreed_of_fields (Obj.data_mapFields a _)),(Obj.cls_mapFields ..).trans g,?_⟩;rw[Obj.data_mapFields a];simp[rawInt]
 |none=>obtain⟨p,d⟩:=d c;simp only[bR,c];refine ao (wpAny_rule (ao (wpAny_setField b a (by simp) ?_)));show wpAny _ _ (newExc (.type "StopIteration") [] >>= _) _ _ _;simp only[newExc,newTuple];refine ao (ao (wpAny_newObj_type (ao (wpAny_of_eq (by first|rfl|(simp only[firstArgMember];rfl)) (wpAny_newObj_type ?_ (by size_fits)))) (by size_fits)));simp only[raiseNew];refine ao (wpAny_handled ?_);rw[show A.in1.handled=none from p];refine ao (ak (wpAny_throw ?_));exact d _ _ (((Heap.SameBut.update ..).extBut.push _).push _) ⟨_,ar _ rfl,rfl⟩
theorem xp(j:mE b s.heap it l k)(i:jV b s.heap l xs)
  (h:∀x h',xs[k]? = some x->mE b h' it l (k+1)->Heap.SameBut it s.heap h'->Q x {s with heap:=h'})
  (g:xs[k]? = none->A.handled=none/\∀h' e,Heap.ExtBut it s.heap h'->(∃o,h'.get? e=some o/\o.cls=.type "StopIteration")->E (.ref e) {s with heap:=h'}) :
  wpAny (model prog w) A (Builtin.SmallTypes.nextOf (.ref it)) Q E s:=by
 cases b with
 |true=>exact Pd j i h g
 |false=>
  have c:=j;have d:=i;cases f:xs[k]? with
  |some x=>exact wpAny_nextOf_list_item c d f λh' a b=>h x h' f a b
  |none=>obtain⟨m,g⟩:=g f;exact wpAny_nextOf_list_end m c d f g
def Iw{z TI TO r F R P:Addr}{Q:Value->Shared->Prop}(D:ZipApart z TI TO r F R P)
  (K:IsZip s.heap z TI TO .none) (Y:IsPair s.heap TI (.ref r) (.ref F)) (U:IsPair s.heap TO a b)
  (h1:mE b1 s.heap r R k) (h2:mE b2 s.heap F P k) (hl1:jV b1 s.heap R xs) (hl2:jV b2 s.heap P ys)
  (yes:∀x y h',xs[k]? = some x->ys[k]? = some y->IsZip h' z TI TO (rawInt s.heap.objs.size)->IsPair h' TO x y->mE b1 h' r R (k+1)->mE b2 h' F P (k+1)->IsPair h' s.heap.objs.size x y->h'.objs.size=s.heap.objs.size+1->
   (∀c o,c≠z->c≠TO->c≠r->c≠F->s.heap.get? c=some o->h'.get? c=some o)->Q (.ref s.heap.objs.size) {s with heap:=h'})
  (no:xs[k]? = none\/ys[k]? = none->A.handled=none/\∀h' e,(∀c o,c≠z->c≠TO->c≠r->c≠F->s.heap.get? c=some o->h'.get? c=some o)->(∃o,h'.get? e=some o/\o.cls=.type "StopIteration")->E (.ref e) {s with heap:=h'}) :
  wpAny (model prog w) A (Builtin.«zip.__next__» ⟨[.ref z],[]⟩) (λfin s'=>∃v,fin=.done (.ret v)/\Q v s') E s:=by
 have C:∀{h:Heap} {e:Addr} {H:Obj} {f:Value},IsZip h z TI TO f->h.get? e=some H->H.cls=.type "StopIteration" ->e≠z:=λ{h e H f} q ge ce u=>by subst u;rw[q]at ge;cases ge;simp at ce
 show wpAny _ _ (field (.ref z) 2 >>= λ_=>_) _ _ _;refine ao (wpAny_field K rfl rfl ?_);refine ao (wpAny_field K rfl rfl (ao (wpAny_seqItems Y rfl ?_)));unfold Builtin.SmallTypes.ownedTupleIsFree;refine ao (ao (wpAny_field K rfl rfl (ak ?_)));simp only[if_true];refine ao (wpAny_rule (ao (wpAny_field K rfl rfl (ao (wpAny_setField_rec K (by simp) λg1 y1 I=>?_)))));have z1:=y1;simp only[List.zipIdx_cons,List.zipIdx_nil,cq,cz];refine ao (ao (ao (wpAny_onRaise ?_)));refine ao (xp (h1.to λo e=>I.extBut _ _ D.i1z e) (hl1.to λo e=>I.extBut _ _ D.l1z e) (λx g2 L t2 p=>ak ?_) (λL=>⟨(no (.inl L)).1,λg2 e p ⟨H,ge,ce⟩=>?_⟩))
 .have p2:=p.extBut _ _ D.TOi1 (I.extBut _ _ D.TOz U);refine ao (wpAny_seqItems p2 rfl (ao (wpAny_updateSeq_pair p2 λZ q3 n=>?_)));have p3:=q3;refine ao (wpAny_letGo (ak (ao (ao (wpAny_onRaise ?_)))));have j:∀c o,c≠z->c≠r->c≠TO->s.heap.get? c=some o->Z.get? c=some o:=λc o d l g e=>n.extBut _ _ g (p.extBut _ _ l (I.extBut _ _ d e));refine ao (xp (h2.to λo e=>j _ o D.i2z D.i12.symm D.TOi2.symm e) (hl2.to λo e=>j _ o D.l2z D.l2i1 D.l2TO e) (λy g4 N t4 t=>ak ?_) (λN=>⟨(no (.inr N)).1,λg4 e t ⟨H,ge,ce⟩=>?_⟩))
  .have p4:=t.extBut _ _ D.TOi2 p3;refine ao (wpAny_seqItems p4 rfl (ao (wpAny_updateSeq_pair p4 λB q5 m=>?_)));have p5:IsPair B TO x y:=q5;refine ao (wpAny_letGo (ak (ak (ao (wpAny_seqItems p5 rfl (ao (wpAny_newTuple ?_)))))));have sz:B.objs.size=s.heap.objs.size:=by rw[m.1,t.1,n.1,p.1,I.1]
   have z5:=m.extBut _ _ D.TOz.symm (t.extBut _ _ D.i2z.symm (n.extBut _ _ D.TOz.symm (p.extBut _ _ D.i1z.symm z1)));have X:∀c o,c≠z->c≠TO->c≠r->c≠F->s.heap.get? c=some o->B.get? c=some o:=λc o d l g J e=>m.extBut _ _ l (t.extBut _ _ J (j c o d g l e));unfold Builtin.SmallTypes.ownedTupleHandOut;refine ao (ao (wpAny_setField_rec (ae _ z5) (by simp) λg7 y7 k7=>?_));have z7:=y7;refine wpAny_setField_rec z7 (by simp) λS y8 k8=>?_;have z8:=y8;have up:∀c o,c≠z->(B.push {cls:=.type "tuple",data:=.seq #[x,y]}).get? c=some o->S.get? c=some o:=λc o d e=>k8.extBut _ _ d (k7.extBut _ _ d e);have i:∀c o,c≠z->B.get? c=some o->S.get? c=some o:=λc o d e=>up c o d (ae _ e);have p8:=up _ _ (bB (aM z5)) (ar _ rfl);have s8:S.objs.size=B.objs.size+1:=by rw[k8.1,k7.1,Heap.size_push]
   rw[sz]at z8 p8 s8;refine ak ⟨_,rfl,?_⟩;rw[sz];have e1:=t2.to λo e=>i _ o D.i1z (m.extBut _ _ D.TOi1.symm (t.extBut _ _ D.i12 (n.extBut _ _ D.TOi1.symm e)));have e2:=t4.to λo e=>i _ o D.i2z (m.extBut _ _ D.TOi2.symm e);exact yes x y S L N z8 (i _ _ D.TOz p5) e1 e2 p8 s8 λc o d l g J e=>i c o d (X c o d l g J e)
  .have z4:=t _ _ D.i2z.symm (n.extBut _ _ D.TOz.symm (p.extBut _ _ D.i1z.symm z1));refine wpAny_setField_rec z4 (by simp) λB _ m=>(no (.inr N)).2 B e (λc o d l g J q=>m.extBut _ _ d (t _ _ J (j c o d g l q))) ⟨H,m.extBut _ _ (C z4 ge ce) ge,ce⟩
 .have z2:=p _ _ D.i1z.symm z1;refine wpAny_setField_rec z2 (by simp) λZ _ n=>(no (.inl L)).2 Z e (λc o d l g J q=>n.extBut _ _ d (p _ _ g (I.extBut _ _ d q))) ⟨H,n.extBut _ _ (C z2 ge ce) ge,ce⟩
def Dq{z TI TO d f g h:Addr}(D:ZipApart z TI TO d f g h)
  (p:IsZip s.heap z TI TO .none) (m:IsPair s.heap TI (.ref d) (.ref f)) (j:IsPair s.heap TO a b)
  (v:mE b1 s.heap d g k) (I:mE b2 s.heap f h k) (l:jV b1 s.heap g xs) (n:jV b2 s.heap h ys)
  (i:∀x y h',xs[k]? = some x->ys[k]? = some y->IsZip h' z TI TO (rawInt s.heap.objs.size)->IsPair h' TO x y->mE b1 h' d g (k+1)->mE b2 h' f h (k+1)->IsPair h' s.heap.objs.size x y->h'.objs.size=s.heap.objs.size+1->
   (∀c o,c≠z->c≠TO->c≠d->c≠f->s.heap.get? c=some o->h'.get? c=some o)->Q (some (.ref s.heap.objs.size)) {s with heap:=h'})
  (no:xs[k]? = none\/ys[k]? = none->A.handled=none/\∀h',(∀c o,c≠z->c≠TO->c≠d->c≠f->s.heap.get? c=some o->h'.get? c=some o)->Q none {s with heap:=h'}) :
  wpAny (model prog w) A (pyNext (.ref z)) Q E s:=by
 have ty:s.TypeIs (.ref z) "zip" :=⟨_,p,rfl⟩;unfold pyNext;refine ao (wpAny_attempt (wpAny_callSpecial?_slot ty F.slot_zip_next (wpAny_call_entry F.slot_zip_next ty F.entry_zip_next
  (Iw D p m j v I l n (λx y h' J B u L r C K H t=>ak (i x y h' J B u L r C K H t)) λq=>⟨(no q).1,λh' e hk ⟨o,ho,hc⟩=>?_⟩) (F.args_zip_next_1 _))))
 exact ao (wpAny_isInstance ⟨o,ho,hc⟩ isSubtype_stop (ak ((no q).2 h' hk)))
theorem pF(a:jV b s.heap l xs)
  (h:Q (.ref s.heap.objs.size) {s with heap:=s.heap.push {cls:=.type (xb b),data:=.fields #[.ref l,.int 0 0]}}):wpAny (model prog w) A (pyIter (.ref l)) Q E s:=by
 cases b with
 |true=>exact wpAny_pyIter_tuple (a) h
 |false=>exact wpAny_pyIter_list (a) h
end
noncomputable abbrev zo(b:Bool)(l:Addr):Obj:={cls:=.type (xb b),data:=.fields #[.ref l,.int 0 0]}
abbrev zt(x y:Value):Obj:={cls:=.type "tuple",data:=.seq #[x,y]}
abbrev zz(p q:Addr):Obj:={cls:=.type "zip",data:=.fields #[.none,.bool false,.bool false,.ref p,.ref q]}
noncomputable abbrev BC(b1 b2:Bool)(h:Heap)(l1 l2:Addr):Heap:=
 ((((h.push (zo b1 l1)).push (zo b2 l2)).push (zt (.ref h.objs.size) (.ref (h.push (zo b1 l1)).objs.size))).push (zt .none .none)).push
  (zz ((h.push (zo b1 l1)).push (zo b2 l2)).objs.size (((h.push (zo b1 l1)).push (zo b2 l2)).push (zt (.ref h.objs.size) (.ref (h.push (zo b1 l1)).objs.size))).objs.size)
section
variable {prog:Program}{w:World}{A:Around}{E:Value->Shared->Prop}{s:Shared}
def GK b1 b2 l1 l2 xs ys:Meets (Builtin.«zip.__new__» ⟨[.type "zip",.ref l1,.ref l2],[]⟩) (λ_ R s=>jV b1 s.heap l1 xs/\jV b2 s.heap l2 ys/\
  R (.ok (.ret (.ref ((((s.heap.push (zo b1 l1)).push (zo b2 l2)).push (zt (.ref s.heap.objs.size) (.ref (s.heap.push (zo b1 l1)).objs.size))).push (zt .none .none)).objs.size))) {s with heap:=BC b1 b2 s.heap l1 l2}):=by
 refine .of_wp λprog w A R s h=>?_;obtain⟨b,g,d,j,k⟩:=s;obtain⟨a,i,c⟩:=h;have sz:=sub_zip;have l:=a;have f:jV b2 (Shared.heap ⟨b.push (zo b1 l1),g,d,j,k⟩) l2 ys:=i.to λo e=>ae _ e;wp_walk using pF l,pF f;exact⟨_,rfl,c⟩
def Jm(g:jV b1 s.heap l1 xs)(k:jV b2 s.heap l2 ys)
  (h:∀h',IsZip h' (s.heap.objs.size+4) (s.heap.objs.size+2) (s.heap.objs.size+3) .none->IsPair h' (s.heap.objs.size+2) (.ref s.heap.objs.size) (.ref (s.heap.objs.size+1))->IsPair h' (s.heap.objs.size+3) .none .none->
   mE b1 h' s.heap.objs.size l1 0->mE b2 h' (s.heap.objs.size+1) l2 0->h'.objs.size=s.heap.objs.size+5->(∀c o,s.heap.get? c=some o->h'.get? c=some o)->Q (.ref (s.heap.objs.size+4)) {s with heap:=h'}) :
  wpAny (model prog w) A (call (.type "zip") [.ref l1,.ref l2]) Q E s:=by
 refine callType_new F.called_zip (by decide) (F.typeCall_zip_2 _ _) (F.newCall_zip_2 _ _) (λf=>F.args_object_init_3 f _ _) F.entry_zip_new (GK b1 b2 l1 l2 xs ys) ⟨g,k,?_⟩;generalize d:s.heap.objs.size=n at *;have b:(s.heap.push (zo b1 l1)).objs.size=n+1:=by rw[Heap.size_push,d]
 have j:((s.heap.push (zo b1 l1)).push (zo b2 l2)).objs.size=n+2:=by rw[Heap.size_push,b]
 generalize a:(s.heap.push (zo b1 l1)).push (zo b2 l2)=g2 at *;have p:∀c o,s.heap.get? c=some o->g2.get? c=some o:=λc o e=>by rw[<-a];exact ae _ (ae _ e)
 have u:g2.get? n=some (zo b1 l1):=by rw[<-a,<-d];exact ae _ (ar _ rfl)
 have t:g2.get? (n+1)=some (zo b2 l2):=by rw[<-a,<-b];exact ar _ rfl
 have l:(g2.push (zt (.ref n) (.ref (n+1)))).objs.size=n+3:=by rw[Heap.size_push,j]
 have i:((g2.push (zt (.ref n) (.ref (n+1)))).push (zt .none .none)).objs.size=n+4:=by rw[Heap.size_push,l]
 have r:BC b1 b2 s.heap l1 l2=((g2.push (zt (.ref n) (.ref (n+1)))).push (zt .none .none)).push (zz (n+2) (n+3)):=by unfold BC;rw[d,b,a,j,l]
 rw[r,b,i];have v:(g2.push (zt (.ref n) (.ref (n+1)))).get? (n+2)=some (zt (.ref n) (.ref (n+1))):=by rw[<-j];exact ar _ rfl
 have q:((g2.push (zt (.ref n) (.ref (n+1)))).push (zt .none .none)).get? (n+3)=some (zt .none .none):=by rw[<-l];exact ar _ rfl
 have m:(((g2.push (zt (.ref n) (.ref (n+1)))).push (zt .none .none)).push (zz (n+2) (n+3))).get? (n+4)=some (zz (n+2) (n+3)):=by rw[<-i];exact ar _ rfl
 have up:∀c o,g2.get? c=some o->(((g2.push (zt (.ref n) (.ref (n+1)))).push (zt .none .none)).push (zz (n+2) (n+3))).get? c=some o:=λc o e=>ae _ (ae _ (ae _ e));exact⟨⟨_,m,rfl⟩,h _ m (ae _ (ae _ v)) (ae _ q) (.of ⟨_,up _ _ u,rfl,rfl⟩) (.of ⟨_,up _ _ t,rfl,rfl⟩) (by rw[Heap.size_push,i]) λc o e=>up c o (p c o e)⟩
end
end L2
namespace L2
open PySem PySem.Spec PyProof.Rows
def iz.turnedL{ch:List Addr}(I:iz X gU σ H s)(k:∀b o,b∉ch->s.heap.get? b=some o->h'.get? b=some o)(f:∀b∈ch,vA X gU H b) :
  iz X gU σ H {s with heap:=h',toks:=t'}:=by
 have d:∀b u,H b=some u->b∉ch:=λb u e z=>by rw[(f b z).1]at e;cases e
 refine I.step (λb g=>let ⟨_,f1,_,f3,f4,f5⟩:=f b g;⟨f3,f1,f4,f5⟩) (λb o _ _ a e _=>k b o a e) (λb o _ _ a e _=>⟨o.slots,k b o a e⟩) (λ_ _ _ _ n=>n)
  (λb o a e=>⟨o,k b o a e⟩) (λ_ _ e=>e) (λ_ _ _ e=>e) (λb _ p e=>⟨#[],by rw[e];simp⟩) (λm j=>?_) (λb u e=>?_) I.bare
 .obtain⟨o,l,h,i,r⟩:=j;exact⟨o,l,h,k _ o (λz=>(f _ z).2.1 rfl) i,r⟩
 .refine (I.hok b u e).stay (λc v a q=>k c v ?_ q) (λ_ q=>q) λ_ _ q=>q;rcases a with z|z
  .rw[z];exact d b u e
  .exact d c _ z
def xZ(K:W.Frag)(H:Hp)(b:Bool)(a:Addr)(xs:List V):Prop:=if b=true then mW K H a xs else lS K H a xs
def iz.seqB(I:iz X gU σ H s)(h:xZ X.K H b a xs):∃its:List Value,iO xs its/\jV b s.heap a its.toArray/\xs.length<=sizeLine:=by
 cases b with
 |true=>obtain⟨its,r,p,z⟩:=I.tuple (h);exact⟨its,r,p,z⟩
 |false=>obtain⟨its,r,p,z⟩:=I.list (h);exact⟨its,r,p.isList,z⟩
def iz.seqB_inj(I:iz X gU σ H s)(h:xZ X.K H b a xs)(h':xZ X.K H b a ys):xs=ys:=by
 cases b with
 |true=>exact I.tuple_inj h h'
 |false=>exact I.list_inj h h'
noncomputable def U0(K:W.Frag)(e d:Bool)(c f:Addr):It:=
  ⟨λi H=>∃a b x y,xZ K H e c a/\xZ K H d f b/\a[i]? = some x/\b[i]? = some y,
   λi H v g=>∃p x y,v=.ref p/\H p=none/\g=ja H p (.tup [x,y])/\(∀a,xZ K H e c a->a[i]? = some x)/\∀b,xZ K H d f b->b[i]? = some y,
   λi H=>∃a b,xZ K H e c a/\xZ K H d f b/\(a.length<=i\/b.length<=i)⟩
def K9{K:W.Frag}{x1}{z TI TO m l l1 l2:Addr}(D:ZipApart z TI TO m l l1 l2) :
  EW P w K (.Tuple elts x1 pos) (U0 K b1 b2 l1 l2) [z,TI,TO,m,l] z (λi h=>IsZip h z TI TO .none/\IsPair h TI (.ref m) (.ref l)/\(∃a b,IsPair h TO a b)/\mE b1 h m l1 i/\mE b2 h l l2 i) where
 mem:=by simp
 obj:=λi h p b f=>by
  obtain⟨n,g,⟨a,c,j⟩,r,t⟩:=p;have mem:b=z\/b=TI\/b=TO\/b=m\/b=l:=by simpa using f
  rcases mem with rfl|rfl|rfl|rfl|rfl
  .exact⟨_,n,λv q=>by cases q⟩
  .exact⟨_,g,λv q=>by cases q⟩
  .exact⟨_,j,λv q=>by cases q⟩
  .obtain⟨o,e,_,d⟩:=r.look;exact⟨o,e,λv q=>by rw[d]at q;cases q⟩
  .obtain⟨o,e,_,d⟩:=t.look;exact⟨o,e,λv q=>by rw[d]at q;cases q⟩
 keep:=λi h Y p k=>by obtain⟨n,g,⟨a,c,j⟩,r,t⟩:=p;exact⟨k z (by simp) _ n,k TI (by simp) _ g,⟨a,c,k TO (by simp) _ j⟩,r.to λo e=>k m (by simp) o e,t.to λo e=>k l (by simp) o e⟩
 item:=by
  intro X hP hw hK hc i gU s σ H E I Z p hg;subst hP hw hK;obtain⟨n,g,⟨a,c,j⟩,r,t⟩:=p;obtain⟨xs,ys,x,y,q1,q2,e1,e2⟩:=hg;obtain⟨S,r1,p1,z1⟩:=I.seqB q1;obtain⟨N,r2,p2,z2⟩:=I.seqB q2;obtain⟨u,gu,ru⟩:=r1.get e1;obtain⟨v,gv,rv⟩:=r2.get e2;have C:=I.fpOk (aL _) (I.hok.fresh (aL _));refine Dq D n g j r t p1 p2 (λF U Y B A a1 a2 a3 a4 a5 a6 R=>?_) λq=>?_
  .have eu:F=u:=by
    have:S[i]? = some F:=by simpa using B
    rw[gu]at this;cases this;rfl
   have ev:U=v:=by
    have:N[i]? = some U:=by simpa using A
    rw[gv]at this;cases this;rfl
   subst eu;subst ev;refine⟨_,rfl,wpAny_letOwnedTupleGo_zip a1 λJ Q sb=>?_⟩;have zT:=bB (aM n);have I1:=I.turnedL (t':=s.toks) (ch:=[z,TO,m,l]) (λb o f e=>sb.extBut _ _ (λq=>f (by simp[q])) (R b o (λq=>f (by simp[q])) (λq=>f (by simp[q])) (λq=>f (by simp[q])) (λq=>f (by simp[q])) e))
    (λb f=>Z b (by
     have mem:b=z\/b=TO\/b=m\/b=l:=by simpa using f
     rcases mem with rfl|rfl|rfl|rfl<;>simp))
   have gT:=sb.extBut _ _ zT a5;have I2:iz X gU σ (ja H s.heap.objs.size (.tup [x,y])) {s with heap:=J}:=I1.track C.1 C.2.2.2.1 C.2.1 C.2.2.2.2.1 C.2.2.2.2.2
    ⟨by show 2<=sizeLine;decide,[F,U],.cons ru (.cons rv .nil),⟨_,gT,rfl,_,rfl,rfl⟩⟩
   have lt:∀{b o},s.heap.get? b=some o->ja H s.heap.objs.size (.tup [x,y]) b=H b:=λ{b o} e=>hU (aN (aM e));refine⟨.ref s.heap.objs.size,_,I2,rfl,⟨_,x,y,rfl,C.1,rfl,λxs' h=>by rw[I.seqB_inj h q1];exact e1,λys' h=>by rw[I.seqB_inj h q2];exact e2⟩,?_,λb f=>?_⟩
   .have k2:∀c o,c≠z->Y.get? c=some o->J.get? c=some o:=λc o c1 e=>sb.extBut _ _ c1 e;exact⟨Q,k2 _ _ D.TIz (R _ _ D.TIz D.TITO D.TIi1 D.TIi2 g),⟨_,_,k2 _ _ D.TOz a2⟩,a3.to λo e=>k2 _ o D.i1z e,a4.to λo e=>k2 _ o D.i2z e⟩
   .have mem:b=z\/b=TI\/b=TO\/b=m\/b=l:=by simpa using f
    have L:=(Z b f).1;obtain⟨o1,g1,_⟩:=r.look;obtain⟨o2,g2,_⟩:=t.look;rcases mem with rfl|rfl|rfl|rfl|rfl
    .rw[lt n];exact L
    .rw[lt g];exact L
    .rw[lt j];exact L
    .rw[lt g1];exact L
    .rw[lt g2];exact L
  .exfalso;have m1:S.toArray[i]? = some u:=by simpa using gu
   have m2:N.toArray[i]? = some v:=by simpa using gv
   rcases q with q|q
   .rw[m1]at q;cases q
   .rw[m2]at q;cases q
 done:=by
  intro X hP hw hK hc i gU s σ H E I Z p hg;subst hP hw hK;obtain⟨n,g,⟨a,c,j⟩,r,t⟩:=p;obtain⟨xs,ys,q1,q2,hl⟩:=hg;obtain⟨S,r1,p1,z1⟩:=I.seqB q1;obtain⟨N,r2,p2,z2⟩:=I.seqB q2;have n1:=r1.length;have n2:=r2.length;have fpc:∀b∈[z,TO,m,l],vA X gU H b:=λb f=>Z b (by
   have mem:b=z\/b=TO\/b=m\/b=l:=by simpa using f
   rcases mem with rfl|rfl|rfl|rfl<;>simp)
  refine Dq D n g j r t p1 p2 (λF U Y B A a1 a2 a3 a4 a5 a6 R=>?_) λq=>⟨I.ok.hd hc,λY R=>⟨rfl,I.turnedL (λb o f e=>R b o (λq=>f (by simp[q])) (λq=>f (by simp[q])) (λq=>f (by simp[q])) (λq=>f (by simp[q])) e) fpc⟩⟩;exfalso;have m1:i<S.length:=by
   have:S[i]? = some F:=by simpa using B
   exact (aa.mp this).1
  have m2:i<N.length:=by
   have:N[i]? = some U:=by simpa using A
   exact (aa.mp this).1
  omega
 self:=λ_ _ _ _ _ p h=>wpAny_pyIter_zip p.1 h
def Rh:bootBuiltins "zip" = some (.type "zip"):=by decide +kernel
section
variable {X:Cx}
def Q4(K:W.Frag)(e d:Bool)(j:TA):TI:=λi H R=>j i H λh c=>∃a b,h=[.ref a,.ref b]/\(∃f,xZ K c e a f)/\(∃g,xZ K c d b g)/\R (U0 K e d a b) c
def RY{x1}(N:Gl X "zip")(J:X.mg "zip" = none)(B:PA X [a,b] ta)(z:starEach [a,b] X.env=[(false,eval a X.env),(false,eval b X.env)]:=by rfl)
  (c:starEach [b] X.env=[(false,eval b X.env)]:=by rfl):PI X (.Tuple elts x1 tpos) (.Call (.Name "zip" p) [a,b] [] pos) (Q4 X.K b1 b2 ta):=by
 intro S s F H R I h;refine Call_ (sC I N J Rh (PyProof.Rows.callWith_type1 (kh (B pos S s F H _ I h) λA s1 ⟨vs,H1,I1,r1,k⟩=>?_) (by rw[z,c]) (by rw[c];rfl)));obtain⟨v,E,rfl,⟨Y,k⟩,⟨ys,L⟩,q⟩:=k;obtain⟨u1,u2,rfl,Q,P⟩:=P2 r1;cases Q;cases P;obtain⟨A,D,t,_⟩:=I1.seqB k;obtain⟨Z,w,r,_⟩:=I1.seqB L;have i:v<s1.heap.objs.size:=by obtain⟨o,n,e,_⟩:=t.look;exact aM e
 have f:E<s1.heap.objs.size:=by obtain⟨o,n,e,_⟩:=r.look;exact aM e
 refine Jm t r λh' m g d x C y U=>?_;refine wpAny_pyIter_zip m ?_;refine⟨_,_,_,_,H1,rfl,I1.kept U,K9 (zipApart_new i f),⟨m,g,⟨_,_,d⟩,x,C⟩,λb u=>?_,q⟩;have j:b=s1.heap.objs.size+4\/b=s1.heap.objs.size+2\/b=s1.heap.objs.size+3\/b=s1.heap.objs.size\/b=s1.heap.objs.size+1:=by simpa using u
 have l:s1.heap.objs.size<=b:=by rcases j with rfl|rfl|rfl|rfl|rfl<;>omega
 exact I1.fpOk l (I1.hok.fresh l)
end
end L2
namespace L2
open PySem PySem.Spec PyProof.Rows
def uW(h:H p=none):iq H (ja H p o):=λb u e=>by rw[hU (iC e h)];exact .of e
def iq.seqT{K:W.Frag}(e:iq H H')(h:mW K H a xs):mW K H' a xs:=by
 rcases h with (h|⟨o,h⟩)|h
 .exact .inl (.inl (e _ _ h))
 .exact .inl (.inr ⟨o,e _ _ h⟩)
 .exact .inr h
noncomputable def Bp(d:List Str)(b a:Scope)(N:List Str)(c:List (Option Nat)):Bool:=
 a.kind==.function&&a.names.all (λy=>!(y.2==NameKind.cell)||a.names.lookup y.1==some .cell)&&a.names.all (λy=>!(y.2==NameKind.local)||a.names.lookup y.1==some .local) &&
 a.names.all (λy=>!(y.2==NameKind.free)||b.names.lookup y.1==some .cell)&&N.length==c.length &&
 (List.range N.length).all (λi=>match c[i]?,N[i]? with
  |some (some j),some x=>d[j]? == some x&&a.names.lookup x==some .free&&b.names.lookup x==some .cell
  |_,_=>true)
def Tn(s:∀x,X.env.scope.names.lookup x=some .cell->∃c,X.env.cells.lookup x=some c)(h:Bp X.N X.env.scope scope N ix=true):Cy X scope N ix:=by
 unfold Bp at h;simp only[bT]at h;obtain⟨⟨⟨⟨⟨k,p⟩,m⟩,n⟩,o⟩,l⟩:=h;refine⟨by simpa using k,λy d e=>?_,λy d e=>?_,λy d e=>?_,by simpa using o,λi j x g q=>?_⟩
 .have:=cH.mp p y d;rw[e]at this;simpa using this
 .have:=cH.mp m y d;rw[e]at this;simpa using this
 .have:=cH.mp n y d;rw[e]at this;exact s _ (by simpa using this)
 .have r:=(aa.mp g).1;have:=cH.mp l i (aT.mpr r);rw[g,q]at this;simp only[bT,beq_iff_eq]at this;obtain⟨⟨a,b⟩,c⟩:=this;exact⟨a,b,.inr (.inl c),λz=>by have f:X.env.scope.names.lookup x=some .local:=z;rw[c]at f;cases f⟩
def K8(L:Cy X scope N ix):∀x,(nc X N scope C s₃ H ex pn).env.scope.names.lookup x=some .cell->∃c,(nc X N scope C s₃ H ex pn).env.cells.lookup x=some c:=λx b=>by
 refine bP.mp (W.cellsFrom_some _ _ _ ?_);rcases tO (.inl b) with a|a
 .exact .inr (bP.mpr (pj a (L.fre _ a rfl)))
 .exact .inl a
def wz{K:W.Frag}(w:ix[k]? = some none)(h:ix[l]? = some none):pR ix (Ht K 2 (wy (jS k) (wy (jS l) GV))):=by
 rintro x s H Q ⟨a,c,o,t,d,v,r,m,n,g,b,f,q⟩;refine⟨a,c,o,t,d,v,r,m,n,g,b,f,λi j e=>?_,q⟩;have u:k≠i:=by rintro rfl;rw[w]at e;cases e
 have p:l≠i:=by rintro rfl;rw[h]at e;cases e
 rw[aq p,aq u]
end L2
namespace L2
open PySem PySem.Spec PyProof.Rows
structure mm(K:W.Frag)(C:Addr)(m qual:Str)(st:Stmt):Prop where
 ex:∃f fd,Mn K m qual st f fd/\OB K C m f
structure lP(P:Program)(w:World)(K:W.Frag)(mg:Str->Option Value)(base:Heap)(C:Addr)(m:Str)(k:Nat)(sp:Sp):Prop where
 cl:zV K C
 ex:∃f fd ps,nM P w K mg base sh k f fd ps sp/\OB K C m f/\qI K fd ps []
def FA{K:W.Frag}{st:Stmt}(o:zV K C)(D:mm K C m qual st)(S:i8 N ps (g9 st))
  (g:∀(kV e h:Value) (n:Option Addr) (a i:Value) (us:List Value),us.length=ps.length->bindArgs (W.fnOf m qual (jU st) (iQ st) (g9 st) .none kV e h n a i) ⟨us,[]⟩=pure (ps.zip us))
  (d:∀vs H Q E,sp vs H Q E->vs.length=ps.length)
  (b:∀f a A c s H vs Q E,ji k (A.deeper (envOfC qual (g9 st) s.heap.objs.size f a))->sp vs H Q E->
   ∃t,Bg (ny sh P w K mg base N qual (g9 st) f a A c s H E).nox (iQ st) t/\t {nx:=λ_ j=>Q .non j,rt:=Q} (lK N vs) H):lP P w K mg base C m (k+1) sp:=by
 obtain⟨f,l,F,m⟩:=D.ex;exact⟨o,f,l,ps,F.ok S d (b f),m,F.binds g⟩
structure HK(P:Program)(w:World)(K:W.Frag)(mg:Str->Option Value)(base:Heap)(x:Str)(C:Addr)(k:Nat)(sp:Sp):Prop where
 ex:∃f fd ps,nM P w K mg base sh k f fd ps sp/\Mk K C f/\qI K fd ps []
 mgx:mg x=some (.ref C)
section
variable {X:Cx}{x m:Str}{C:Addr}{k:Nat}{sp:Sp}{e o:Expr}{es:List Expr}{t:TA}{ta:TE}{p pos apos:Pos}
def Tz(h:HK X.prog X.w X.K X.mg X.base x C k sp)(hr:ji (k+1) X.A)(g:PA X (e::es) t)(j:Gl X x:=by rfl)
  (c:(x==("__debug__" : Str))=false:=by decide) (i:starEach (e::es) X.env=(false,eval e X.env)::starEach es X.env:=by rfl) (d:(backTo pos (starEach es X.env)).any (·.1)=false:=by rfl) :
  PE X (.Call (.Name x p) (e::es) [] pos) (FU C sp [] E0 t):=by
 obtain⟨f,l,n,F,a,b⟩:=h.ex;exact OE a F hr j h.mgx b .nil L4 g c i d
def IZ(h:lP X.prog X.w X.K X.mg X.base C m k sp)(hr:ji k X.A)(c:PE X o ta)
  (d:eval (.Call (.Attribute o m apos) [] [] pos) X.env=(do
   let ov <-eval o X.env
   standAt apos.atName
   let (f,first) <-holding [ov] (getMethod ov m pl)
   callWith pos f first (backTo pos (starEach [] X.env)) (backToKw pos (keywordEach [] X.env))):=by rfl) :
  PE X (.Call (.Attribute o m apos) [] [] pos) (zP C m sp [] E0 ta uO):=by
 obtain⟨f,g,i,F,a,b⟩:=h.ex;exact Iy c h.cl a F hr b .nil L4 d
end
end L2
namespace L2
open PySem PySem.Spec PyProof.Rows
def Mg(hN:X.N.Nodup)(Y:X.N[i]? = some y)(F:HN X.env.scope y)
  (R:X.calm=true) (hi:PI X tg iter wi) (L:Cy X scope N ix) (k:pR ix g)
  (p:∀C c H t n,PG (nc X N scope C c H t n) tg g/\Ia (nc X N scope C c H t n) ifs tt/\PE (nc X N scope C c H t n) elt te)
  (K:X.fn y=true\/X.env.scope.names.lookup y=some .local:=by first|exact .inl rfl|exact .inr rfl)
  (r:swapsWith (.ListComp elt [⟨tg,iter,ifs,0⟩] scope pos) (some (.Name y py)) spos.line X.env=pure true:=by rfl)
  (U:∀x,foldedSetIterable iter X.env x=pure x:=by intro _;rfl):PS X (.Assign [.Name y py] (.ListComp elt [⟨tg,iter,ifs,0⟩] scope pos) spos) (oG (Jb ix wi g tt te) (jS i)):=by
 intro gU s u H D I h;rw[exec_Assign_Name_used _ _ _ _ r];refine ao (wpAny_standAt (ao ?_));rw[arm_evalThenUse_ListComp];refine ao (kh (wpAny_comprehension_free rfl U (rQ L.fre) L.kind L.names (kh (hi gU s u H _ I h) λv s1 Z=>kh Z λS s2 h2=>?_)) λ_ s' q=>ak (ak q));obtain⟨it,fp,tn,J,H2,e,E,T,d,P,W,⟨m0,w0⟩,turn⟩:=h2;subst e;refine FM (Q:=λx H1=>jS i x u H1 D.nx) R L k p E T d P w0 turn λE0 C m H' s' B f I' q=>?_;refine wpAny_assign_Name (yM (v:=.ref E0) I' hN Y F rfl (λs3 I3 j=>?_) K);obtain⟨a,sb,ha⟩:=j;have ne:C≠a:=by
  rcases ha with z|z
  .rw[z];exact f.2.1
  .exact λw=>f.2.2.2.2.1 y a z w.symm
 exact⟨m,B.sameBut sb ne,λh' l=>⟨_,H',I3.turned (λb o A e=>l.extBut b o A e) f.1 f.2.1 f.2.2.2.1 f.2.2.2.2.1 f.2.2.2.2.2,q⟩⟩
end L2
namespace L2
open PySem PySem.Spec PyProof.Rows
def P3(r:i9 (kV k) u):(l9 P w).is k u=true:=by
 cases k with
 |inl i=>obtain⟨t,e⟩:=(show ∃t,u=Value.int i t from r);subst e;exact Co P w i t
 |inr x=>obtain⟨t,e⟩:=(show ∃t,u=Value.str x t from r);subst e;exact Dc P w x t
theorem zh:∀{ks} {us},iO (ks.map kV) us->ItemsAre (l9 P w) ks us
 |[],_,r=>by rw[cm]at r;cases r;exact .nil
 |k::ks,_,r=>by
  rw[bJ]at r;cases r with
  |cons h t=>exact .cons (P3 h) (zh t)
section
variable {P:Program}{w:World}{H:Hp}{h:Heap}{a:Addr}
def DO(ok:qZ P w H h)(e:H a=some (.tup (ks.map kV))):(tupleKind (l9 P w)).is h ks a:=by obtain⟨_,b,r,o,c,f,n,d,_⟩:=(show jL P w H h a (.tup (ks.map kV)) from ok a _ e);exact⟨o,b.toArray,n,c,f,d,by simpa using zh r⟩
end
section
variable {X:Cx}{gU:List (Addr×Obj)}{σ:St}{H:Hp}{s:Shared}{a:Addr}{y v:V}{u r:Value}{o:Option V}{A:Around}{E:Value->Shared->Prop}
def iz.big(I:iz X gU σ H s):sysModules<s.heap.objs.size:=by have h:mainGlobals<s.heap.objs.size:=(I.mod.glob.keeps I.bk).lt;exact Nat.lt_trans (by decide) h
def Gk(I:iz X gU σ H s)(f:Tj (H a))(c:Heap.SameBut a s.heap h')(g:∃q,h'.get? a=some q)(new:jL X.prog X.w (ja H a ob) h' a ob) :
  iz X gU σ (ja H a ob) {s with heap:=h',toks:=t'}:=
 I.write (x:=a) (e:=a) f (.inl rfl) (λb q d z=>(c.2 b d).trans z) g new
end
end L2
namespace L2
open PySem PySem.Spec PyProof.Rows Builtin
def vz:fillsNumberSlot (.type "tuple") "mul" = pure false:=PySem.fillsNumberSlot_seq F.slot_tuple_mul.lookup (by decide +kernel) F.slot_tuple_rmul.lookup (by decide +kernel)
def Bz:seqRepeat? (.type "tuple")=pure (some (.builtin "tuple.__mul__")):=by unfold seqRepeat?;rw[PySem.seqSlot_of (name:= "__mul__") F.slot_tuple_mul.lookup (by decide +kernel),PySem.seqSlot_of (name:= "__rmul__") F.slot_tuple_rmul.lookup (by decide +kernel)];rfl
def xK a t l dct its n sl :
  Meets (Builtin.«int.__rmul__» ⟨[.int a t,.ref l],[]⟩) (λ_ R s=>s.heap.get? l=some ⟨.type "tuple",dct,.seq its n,sl⟩/\R (.ok (.ret Value.notImplemented)) s):=
 .of_wp λb w A R s h=>by obtain⟨f,g,d,c,i⟩:=s;obtain⟨e,h⟩:=h;wp_walk;exact⟨_,rfl,h⟩
def yr a t l dct its n sl (C:-(2 ^ 63)<=a) (E:a<2 ^ 63) (m:its.size*a.toNat<=sizeLine) :
  Meets (Builtin.«tuple.__mul__» ⟨[.ref l,.int a t],[]⟩) (λ_ R s=>s.heap.get? l=some ⟨.type "tuple",dct,.seq its n,sl⟩/\((its.isEmpty=true\/a=1)->R (.ok (.ret (.ref l))) s)/\
   (¬(its.isEmpty=true\/a=1)->a<=0->R (.ok (.ret (.ref s.heap.objs.size))) {s with heap:=s.heap.push {cls:=.type "tuple",data:=.seq #[]}})/\
   (¬(its.isEmpty=true\/a=1)->0<a->R (.ok (.ret (.ref s.heap.objs.size))) {s with heap:=s.heap.push {cls:=.type "tuple",data:=.seq ((List.replicate a.toNat its).foldl (·++·) #[])}})):=
 .of_wp λk w A R s h=>by
  obtain⟨y,g,d,H,I⟩:=s;obtain⟨D,x,q,r⟩:=h;have o:¬(decide (a < -2 ^ 63)||decide (a >= 2 ^ 63))=true:=by simp;omega
  wp_walk;rw[aS o];wp_walk;by_cases b:its.isEmpty=true\/a=1
  .rw[aR (by rcases b with c|c<;>simp[c])];wp_walk;exact⟨_,rfl,x b⟩
  .rw[aS (by intro z;exact b (by simpa using z))];by_cases f:a<=0
   .rw[aR (by simp[f])];wp_walk;exact⟨_,rfl,q b f⟩
   .have u:¬its.isEmpty=true:=λz=>b (.inl z);have F:its.size*a<=sizeLine:=by
     have:((its.size*a.toNat:Nat):Int)<=sizeLine:=by exact_mod_cast m
     rw[Int.natCast_mul,cI (by omega)]at this;exact this
    have B:(sizeLine:Int)=2 ^ 24:=by decide
    rw[aS (by simp[f,u]),aS (by omega)];rw[aS (by simp[Tuple.tupleTooMany];omega)];have p:(List.foldl (λj i=>j++i) #[] (List.replicate a.toNat its)).size<=sizeLine:=by
     have e:=rG its.toList a.toNat [];simp only[cj]at e;have v:List.foldl (λj i=>j++i) #[] (List.replicate a.toNat its)=(List.replicate a.toNat its.toList).flatten.toArray:=by simpa using e
     rw[v,bG,AV,ck];simpa using m
    wp_walk;exact⟨_,rfl,r b (by omega)⟩
section
variable {X:Cx}
def IQ:R2:=λx y H Q=>∃l k a,x=.ref l/\y=.int k/\H l=some (.tup a)/\-(2 ^ 63)<=k/\k<2 ^ 63/\a.length*k.toNat<=sizeLine/\((a=[]\/k=1)->Q (.ref l) H)/\
 (¬(a=[]\/k=1)->∀p,H p=none->Q (.ref p) (ja H p (.tup (List.replicate k.toNat a).flatten)))
def Mw:rK X (binaryOp .Mult) IQ:=by
 intro gU s σ H x y v u Q I P E h;obtain⟨l,k,i,rfl,rfl,N,K,R,p,Z,B⟩:=h;cases P;obtain⟨t,rfl⟩:=E;obtain⟨a,r,⟨⟨c,d,dt,m⟩,e,J,n,S⟩,_⟩:=I.tuple (mW.of N);subst J;subst S;have L:=r.length;have D:a.toArray.size*k.toNat<=sizeLine:=by rw[bG,<-L];exact p
 have j:a.toArray.isEmpty=true↔i=[]:=by
  cases r with
  |nil=>simp
  |cons _ _=>simp
 have f:(a.toArray.isEmpty=true\/k=1)↔(i=[]\/k=1):=by rw[j]
 have g:List.foldl (λx1 U=>x1++U) #[] (List.replicate k.toNat a.toArray)=(List.replicate k.toNat a).flatten.toArray:=by have:=rG a k.toNat [];rw[cj]at this;exact this
 have A:=I.fresh;refine wpAny_binaryOp_repeat_ref (by decide) ⟨_,e,rfl⟩ (λs'=>typeIs_int s' k t) vz F.fills_int_mul F.slot_int_rmul Bz F.slot_int_index.lookup
  (call_meets F.slot_int_rmul (typeIs_int s k t) F.entry_int_rmul (F.args_int_rmul_2 _ _) (xK k t l d a.toArray n m)
   ⟨e,rfl,⟨_,e,rfl⟩,call_meets F.slot_tuple_mul ⟨_,e,rfl⟩ F.entry_tuple_mul (F.args_tuple_mul_2 _ _) (yr k t l d a.toArray n m K R D) ⟨e,λz=>?_,λz w=>?_,λz w=>?_⟩⟩)
 .exact⟨.ref l,H,I,rfl,Z (f.mp z)⟩
 .have Y:k.toNat=0:=by omega
  have q:=B (λy=>z (f.mpr y)) s.heap.objs.size A;rw[Y]at q;exact⟨.ref _,_,I.laid (o:=.tup []) (λb C q=>ae _ q) (aL _) ⟨bL _,[],.nil,wK.new _ _⟩,rfl,q⟩
 .rw[g];refine⟨.ref _,_,I.laid (o:=.tup (List.replicate k.toNat i).flatten) (λb C q=>ae _ q) (aL _) ⟨?_,_,r.rep k.toNat,wK.new _ _⟩,rfl,B (λy=>z (f.mpr y)) _ A⟩;rw[AV,ck];exact p
def C5:V->Option Bool
 |.bl b=>some b
 |.int i=>some (i != 0)
 |_=>none
def mN:List V->Option (List Bool)
 |[]=>some []
 |v::vs=>(C5 v).bind λb=>(mN vs).bind λr=>some (b::r)
theorem zQ:∀{vs} {bs} {us} {i} {u},mN vs=some bs->iO vs us->us[i]? = some u->∃v,i9 v u/\C5 v=some (bs.getD i false)
 |[],_,_,_,_,_,.nil,e=>by simp at e
 |v::vs,bs,_,i,u,h,.cons r t,e=>by
  cases c:C5 v with
  |none=>simp[mN,c]at h
  |some b=>
   cases hr:mN vs with
   |none=>simp[mN,c,hr]at h
   |some r'=>
    simp[mN,c,hr]at h;subst h;cases i with
    |zero=>simp at e;subst e;exact⟨v,r,by simpa using c⟩
    |succ i=>obtain⟨f,a,d⟩:=zQ hr t (by simpa using e);exact⟨f,a,by simpa using d⟩
theorem yJ:∀{vs} {bs},mN vs=some bs->vs.length=bs.length
 |[],_,h=>by cases h;rfl
 |v::vs,bs,h=>by
  cases a:C5 v with
  |none=>simp[mN,a]at h
  |some b=>
   cases hr:mN vs with
   |none=>simp[mN,a,hr]at h
   |some r'=>simp[mN,a,hr]at h;subst h;simp[yJ hr]
def wO(h:mN vs=some bs)(r:iO vs us):TruthOf prog w A (λi v=>us.toArray[i]? = some v) (λi=>bs.getD i false):=λi u s Q E e a=>by
 obtain⟨v,d,c⟩:=zQ h r (by simpa using e);dsimp only at a;cases v with
 |bl b=>
  cases d;have:b=bs.getD i false:=by simpa[C5] using c
  rw[<-this]at a;exact wpAny_truthy_bool a
 |int n=>
  obtain⟨t,rfl⟩:=d;have:(n != 0)=bs.getD i false:=by simpa[C5] using c
  rw[<-this]at a;exact PyProof.Rows.truthy_int a
 |_=>simp[C5]at c
def G9(m:X.calm=true):lA X (.builtin "any") (λxs H Q=>∃p vs bs,xs=[.ref p]/\(lS X.K H p vs\/mW X.K H p vs)/\mN vs=some bs/\Q (.bl (bs.any id)) H):=by
 intro D s C H xs B Q I r h;obtain⟨p,vs,bs,rfl,g,c,q⟩:=h;obtain⟨u,rfl,v⟩:=qB r;cases v;have y:=yJ c;rcases g with g|g
 .obtain⟨a,j,f,t⟩:=I.list g;have n:=j.length;have d:p<s.heap.objs.size:=by obtain⟨_,e,_⟩:=f.isList;exact aM e
  refine call_any_walk (wpAny_pyIter_list f.isList ⟨s.heap.objs.size,_,_,_,_,_,λi=>bs.getD i false,rfl,Walks.list (A:=X.A.in1) (I.ok.hd m) _ p (aN d) _,⟨⟨_,ar _ rfl,rfl,rfl⟩,f.isList.push _⟩,wO c j,λw x l=>?_⟩);refine⟨.bl _,H,I.kept (λb o e=>l b o (λk=>?_) (ae _ e)),rfl,?_⟩
  .have lt:=aM e;have z:b=s.heap.objs.size:=by simpa using k
   rw[z]at lt;exact bg _ lt
  .rw[<-zx]at q;have:a.toArray.size=bs.length:=by rw[bG];omega
   rw[this];exact q
 .obtain⟨a,j,f,t⟩:=I.tuple g;have n:=j.length;have d:p<s.heap.objs.size:=by obtain⟨_,e,_⟩:=f;exact aM e
  have pt:=f;refine call_any_walk (wpAny_pyIter_tuple pt ⟨s.heap.objs.size,_,_,_,_,_,λi=>bs.getD i false,rfl,Walks.tuple (A:=X.A.in1) (I.ok.hd m) _ p (aN d) _,⟨⟨_,ar _ rfl,rfl,rfl⟩,pt.push _⟩,wO c j,λw x l=>?_⟩);refine⟨.bl _,H,I.kept (λb o e=>l b o (λk=>?_) (ae _ e)),rfl,?_⟩
  .have lt:=aM e;have z:b=s.heap.objs.size:=by simpa using k
   rw[z]at lt;exact bg _ lt
  .rw[<-zx]at q;have:a.toArray.size=bs.length:=by rw[bG];omega
   rw[this];exact q
end
end L2
namespace L2
open PySem PySem.Spec PyProof.Rows
section
variable {prog:Program}{w:World}{A:Around}{E:Value->Shared->Prop}{s:Shared}
def G8{i:Nat}{Q:Value->Shared->Prop}(y:IsEnum s.heap e it i old)(hi:mE b s.heap it l i)(Z:jV b s.heap l xs)(h:e≠it)
  (p:∀x h',xs[i]? = some x->IsEnumOut h' e it ((i:Int)+1) x s.heap.objs.size->mE b h' it l (i+1)->h'.get? s.heap.objs.size=some {cls:=.type "tuple",data:=.seq #[.int i s.toks,x]}->h'.objs.size=s.heap.objs.size+1->
   (∀c o,c≠e->c≠it->s.heap.get? c=some o->h'.get? c=some o)->Q (.ref s.heap.objs.size) {s with heap:=h',toks:=s.toks+1})
  (no:xs[i]? = none->A.handled=none/\∀h' x,Heap.ExtBut it s.heap h'->(∃o,h'.get? x=some o/\o.cls=.type "StopIteration")->E (.ref x) {s with heap:=h'}) :
  wpAny (model prog w) A (Builtin.«enumerate.__next__» ⟨[.ref e],[]⟩) (λr s'=>∃v,r=.done (.ret v)/\Q v s') E s:=by
 obtain⟨H,g,d,P,os⟩:=s;show wpAny _ _ (field (.ref e) 2 >>= λ_=>_) _ _ _;refine ao (wpAny_field y rfl rfl (ao (xp hi Z (λx g1 S t1 k1=>?_) no)));have j:=k1;have z:=(j.2 e h).trans y;refine ao (wpAny_field z rfl rfl ?_);refine ao (wpAny_field z rfl rfl ?_);refine ao (wpAny_mkInt (ao (wpAny_setField_rec z (by simp) λg2 y2 t=>?_)));have X:=y2;refine ao (wpAny_setField_rec X (by simp) λk y3 D=>?_);have z3:=y3;refine ao (wpAny_newTuple ?_);have sz:k.objs.size=H.objs.size:=by have a:=D.1;have c:=t.1;have u:=j.1;dsimp only at a c u;omega
 have C:IsEnum (k.push {cls:=.type "tuple",data:=.seq #[.int i P,x]}) e it (i+1) old:=ae _ z3;have el:=aM y;have B:∀c o,c≠e->c≠it->H.get? c=some o->k.get? c=some o:=λc o f F q=>D.extBut c o f (t.extBut c o f (j.extBut c o F q));unfold Builtin.SmallTypes.ownedTupleIsFree;refine ao (ao (wpAny_field C rfl rfl (ak ?_)));simp only[if_true];refine ao (wpAny_rule (ao (wpAny_field C rfl rfl (ao (wpAny_setField_rec C (by simp) λg5 y5 R=>?_)))));have U:=y5;unfold Builtin.SmallTypes.ownedTupleHandOut;refine ao (ao (wpAny_setField_rec U (by simp) λg6 y6 K=>?_));have Y:=y6;refine wpAny_setField_rec Y (by simp) λn y7 N=>?_;have L:=y7;have up:∀c o,c≠e->(k.push {cls:=.type "tuple",data:=.seq #[.int i P,x]}).get? c=some o->n.get? c=some o:=λc o f q=>N.extBut c o f (K.extBut c o f (R.extBut c o f q));have m:∀c o,c≠e->k.get? c=some o->n.get? c=some o:=λc o f q=>up c o f (ae _ q);have J:=up _ _ (by rw[sz];exact bB el) (ar _ rfl);have I:n.objs.size=k.objs.size+1:=by have a:=N.1;have c:=K.1;have u:=R.1;dsimp only at a c u;rw[Heap.size_push]at u;omega
 refine ao (wpAny_letGo (ak ⟨_,rfl,?_⟩));rw[sz]at L J I ⊢;exact p x n S L (t1.to λo q=>m it o (Ne.symm h) (D.extBut it o (Ne.symm h) (t.extBut it o (Ne.symm h) q))) J I λc o f F q=>m c o f (B c o f F q)
def zD{i:Nat}(f:IsEnum s.heap e it i old)(r:mE b s.heap it l i)(j:jV b s.heap l xs)(d:e≠it)
  (a:∀x h',xs[i]? = some x->IsEnumOut h' e it ((i:Int)+1) x s.heap.objs.size->mE b h' it l (i+1)->h'.get? s.heap.objs.size=some {cls:=.type "tuple",data:=.seq #[.int i s.toks,x]}->h'.objs.size=s.heap.objs.size+1->
   (∀c o,c≠e->c≠it->s.heap.get? c=some o->h'.get? c=some o)->Q (some (.ref s.heap.objs.size)) {s with heap:=h',toks:=s.toks+1})
  (no:xs[i]? = none->A.handled=none/\∀h',Heap.ExtBut it s.heap h'->Q none {s with heap:=h'}):wpAny (model prog w) A (pyNext (.ref e)) Q E s:=by
 have ty:s.TypeIs (.ref e) "enumerate" :=⟨_,f,rfl⟩;unfold pyNext;refine ao (wpAny_attempt (wpAny_callSpecial?_slot ty F.slot_enumerate_next (wpAny_call_entry F.slot_enumerate_next ty F.entry_enumerate_next
  (G8 f r j d (λx h' n k h p g m=>ak (a x h' n k h p g m)) λq=>⟨(no q).1,λh' x hk ⟨o,ho,hc⟩=>?_⟩) (F.args_enumerate_next_1 _))))
 exact ao (wpAny_isInstance ⟨o,ho,hc⟩ isSubtype_stop (ak ((no q).2 h' hk)))
noncomputable abbrev eo(b:Bool)(l:Addr):Obj:={cls:=.type (xb b),data:=.fields #[.ref l,.int 0 0]}
abbrev en(p:Addr):Obj:={cls:=.type "enumerate",data:=.fields #[.none,.bool false,.ref p,rawInt 0,.none,.none]}
def Dw b l xs:Meets (Builtin.«enumerate.__new__» ⟨[.type "enumerate",.ref l],[]⟩) (λ_ R s=>jV b s.heap l xs/\
  R (.ok (.ret (.ref (s.heap.push (eo b l)).objs.size))) {s with heap:=(s.heap.push (eo b l)).push (en s.heap.objs.size)}):=by
 refine .of_wp λprog w A R s h=>?_;obtain⟨j,g,d,q,r⟩:=s;obtain⟨i,e⟩:=h;have f:=sub_enumerate;have a:=i;obtain⟨o,n,k,m⟩:=a.look;wp_walk using pF a;refine wpAny_stack_any λp=>ak ?_;split
 .rename_i c _ _ _ _ _;cases (c==Value.type "enumerate")
  .wp_walk using pF a;exact⟨_,rfl,e⟩
  .wp_walk using pF a;exact⟨_,rfl,e⟩
 .wp_walk using pF a;exact⟨_,rfl,e⟩
def HY(f:jV b s.heap l xs)
  (h:∀h',IsEnum h' (s.heap.objs.size+1) s.heap.objs.size 0 .none->mE b h' s.heap.objs.size l 0->h'.objs.size=s.heap.objs.size+2->(∀c o,s.heap.get? c=some o->h'.get? c=some o)->Q (.ref (s.heap.objs.size+1)) {s with heap:=h'}) :
  wpAny (model prog w) A (call (.type "enumerate") [.ref l]) Q E s:=by
 refine callType_new F.called_enumerate (by decide) (F.typeCall_enumerate_1 _) (F.newCall_enumerate_1 _) (λe=>F.args_object_init_2 e _) F.entry_enumerate_new (Dw b l xs) ⟨f,?_⟩;have d:(s.heap.push (eo b l)).objs.size=s.heap.objs.size+1:=Heap.size_push ..;have a:=ar (s.heap.push (eo b l)) (o:=en s.heap.objs.size) rfl;rw[d]at a;rw[d];exact⟨⟨_,a,rfl⟩,h _ a (.of ⟨_,ae _ (ar _ rfl),rfl,rfl⟩) (by rw[Heap.size_push,d]) λc o q=>ae _ (ae _ q)⟩
end
noncomputable def UV(K:W.Frag)(b:Bool)(l:Addr):It:=
  ⟨λi H=>∃a x,xZ K H b l a/\a[i]? = some x,
   λi H v c=>∃p x,v=.ref p/\H p=none/\c=ja H p (.tup [.int i,x])/\∀a,xZ K H b l a->a[i]? = some x,
   λi H=>∃a,xZ K H b l a/\a.length<=i⟩
def HG{K:W.Frag}{x1}(p:e≠it) :
  EW P w K (.Tuple elts x1 pos) (UV K b l) [e,it] e (λi h=>(∃a,IsEnum h e it i a)/\mE b h it l i) where
 mem:=by simp
 obj:=λi h j c D=>by
  obtain⟨⟨a,g⟩,m⟩:=j;have mem:c=e\/c=it:=by simpa using D
  rcases mem with rfl|rfl
  .exact⟨_,g,λv q=>by cases q⟩
  .obtain⟨o,q,_,d⟩:=m.look;exact⟨o,q,λv q'=>by rw[d]at q';cases q'⟩
 keep:=λi h Y j k=>by obtain⟨⟨a,g⟩,m⟩:=j;exact⟨⟨a,k e (by simp) _ g⟩,m.to λo q=>k it (by simp) o q⟩
 item:=by
  intro X L hw Q D i gU s σ H E I C j U;subst L hw Q;obtain⟨⟨a,g⟩,m⟩:=j;obtain⟨xs,x,J,e1⟩:=U;obtain⟨A,N,S,z1⟩:=I.seqB J;obtain⟨u,gu,ru⟩:=N.get e1;have t:=I.fpOk (aL _) (I.hok.fresh (aL _));refine zD g m S p (λy Y r a1 a2 a3 a4 F=>?_) λq=>?_
  .have eu:y=u:=by
    have:A[i]? = some y:=by simpa using r
    rw[gu]at this;cases this;rfl
   subst eu;refine⟨_,rfl,wpAny_letOwnedTupleGo_enum a1 λR B sb=>?_⟩;have n:=sb;have zT:=bB (aM g);have I1:=I.turnedL (t':=s.toks+1) (λb o f q=>n.extBut _ _ (λz=>f (by simp[z])) (F b o (λz=>f (by simp[z])) (λz=>f (by simp[z])) q)) (λb f=>C b f);have gT:=n.extBut _ _ zT a3;have I2:iz X gU σ (ja H s.heap.objs.size (.tup [.int i,x])) {s with heap:=R,toks:=s.toks+1}:=I1.track t.1 t.2.2.2.1 t.2.1 t.2.2.2.2.1 t.2.2.2.2.2
    ⟨by show 2<=sizeLine;decide,[.int i s.toks,y],.cons ⟨_,rfl⟩ (.cons ru .nil),⟨_,gT,rfl,_,rfl,rfl⟩⟩
   have lt:∀{b o},s.heap.get? b=some o->ja H s.heap.objs.size (.tup [.int i,x]) b=H b:=λ{b o} q=>hU (aN (aM q));refine⟨.ref s.heap.objs.size,_,I2,rfl,⟨_,x,rfl,t.1,rfl,λxs' h=>by rw[I.seqB_inj h J];exact e1⟩,?_,λb f=>?_⟩
   .exact⟨⟨_,B⟩,a2.to λo q=>n.extBut _ o (Ne.symm p) q⟩
   .have mem:b=e\/b=it:=by simpa using f
    have Z:=(C b f).1;obtain⟨o1,g1,_⟩:=m.look;rcases mem with rfl|rfl
    .rw[lt g];exact Z
    .rw[lt g1];exact Z
  .exfalso;have m1:A.toArray[i]? = some u:=by simpa using gu
   rw[m1]at q;cases q
 done:=by
  intro X L hw Q D i gU s σ H E I C j U;subst L hw Q;obtain⟨⟨a,g⟩,m⟩:=j;obtain⟨xs,J,hl⟩:=U;obtain⟨A,N,S,z1⟩:=I.seqB J;have n1:=N.length;refine zD g m S p (λy Y r a1 a2 a3 a4 F=>?_) λq=>⟨I.ok.hd D,λY F=>⟨rfl,I.turnedL (ch:=[it]) (λb o f q=>F b o (λz=>f (by simp[z])) q) λb f=>C b (by
   have:b=it:=by simpa using f
   simp[this])⟩⟩
  exfalso;have m1:i<A.length:=by
   have:A[i]? = some y:=by simpa using r
   exact (aa.mp this).1
  omega
 self:=λ_ _ _ _ _ j h=>by obtain⟨⟨a,g⟩,_⟩:=j;exact wpAny_pyIter_enum g h
section
variable {X:Cx}
def Le(K:W.Frag)(b:Bool)(f:TA):TI:=λe H R=>f e H λd a=>∃l,d=[.ref l]/\(∃c,xZ K a b l c)/\R (UV K b l) a
def Jf{x1}(w:Gl X "enumerate")(v:X.mg "enumerate" = none)(m:PA X [a] ta)(j:starEach [a] X.env=[(false,eval a X.env)]:=by rfl) :
  PI X (.Tuple elts x1 tpos) (.Call (.Name "enumerate" p) [a] [] pos) (Le X.K b ta):=by
 intro x s t H R I h;refine Call_ (sC I w v boot_enumerate (PyProof.Rows.callWith_type1 (kh (m pos x s t H _ I h) λk s1 ⟨vs,H1,I1,r1,d⟩=>?_) j rfl));obtain⟨l,rfl,⟨A,d⟩,q⟩:=d;obtain⟨u,rfl,r⟩:=qB r1;cases r;obtain⟨k,n,o,_⟩:=I1.seqB d;refine HY o λB f y i z=>?_;refine wpAny_pyIter_enum f ?_;refine⟨_,_,_,_,H1,rfl,I1.kept z,HG (Nat.succ_ne_self _),⟨⟨_,f⟩,y⟩,λb g=>?_,q⟩;have c:b=s1.heap.objs.size+1\/b=s1.heap.objs.size:=by simpa using g
 have e:s1.heap.objs.size<=b:=by rcases c with rfl|rfl<;>omega
 exact I1.fpOk e (I1.hok.fresh e)
end
end L2
namespace HT
open PySem PySem.Spec PyProof.Rows
section
variable {prog:Program}{w:World}{A:Around}{E:Value->Shared->Prop}{s:Shared}
def getItem_tuple_all{a d:Option Int}(c:IsTup s.heap t items)(i:s.heap.IsSliceOf sl vl vu .none)(l:IsPart vl a)(k:IsPart vu d)
  (hw:sIx items.size 0 a=0/\sIx items.size items.size d=items.size) (h:Q (.ref t) s):wpAny (model prog w) A (getItem (.ref t) (.ref sl)) Q E s:=by
 obtain⟨m,f,e,j⟩:=id i;have g:s.TypeIs (.ref sl) "slice" :=⟨m,f,e⟩;unfold getItem;try with_reducible refine wpAny_holding ?_;first|refine ao (ak ?_)|skip
 refine ao (wpAny_sequenceKey c.typeIs (by decide) ?_);refine ao (wpAny_callSpecial?_slot c.typeIs PyProof.Rows.slot_tuple_getitem
  (wpAny_call_entry PyProof.Rows.slot_tuple_getitem c.typeIs entry_tuple_getitem ?_ (args_tuple_getitem _ _)))
 show wpAny _ _ (Builtin.Tuple.tupleItemsOf (.ref t) >>= _) _ _ s;refine ao (tupleItemsOf_ c ?_);refine ao (wpAny_typeOf g ?_);rw[aR (by decide)];refine ao (pA i l k ?_);have b:(((sIx items.size 0 a):Int)==0&&(1:Int)==1&&(sIx items.size items.size d-sIx items.size 0 a)==items.size)=true:=by rw[hw.1,hw.2];simp
 show wpAny _ _ (if (((sIx items.size 0 a):Int)==0&&1==1&&(sIx items.size items.size d-sIx items.size 0 a)==items.size)=true then _ else _) _ _ s;rw[aR b];refine ao (ao (wpAny_typeOf c.typeIs (ak ?_)));rw[aR (by decide)];refine ao (wpAny_rule ?_);exact ak ⟨_,rfl,ak h⟩
end
end HT
namespace L2
open PySem PySem.Spec PyProof.Rows
section
variable {X:Cx}
def Tw(K:W.Frag):V->Option Int->Option Int->Hp->VK->Prop:=λx c d H Q=>∃a b,x=.ref a/\mW K H a b/\(HT.sIx b.length 0 c=0/\HT.sIx b.length b.length d=b.length)/\Q (.ref a) H
def NZ:Pw X (Tw X.K):=by
 intro t s n H x v o u p w l Q I i g j k h;obtain⟨a,e,rfl,f,hw,q⟩:=h;cases i;obtain⟨b,r,c,m⟩:=I.tuple f;have d:b.toArray.size=e.length:=by rw[bG];exact r.length.symm
 refine⟨"tuple",_,PyProof.Rows.slot_tuple_getitem.lookup,c.typeIs,?_⟩;exact HT.getItem_tuple_all c g j k (by rw[d];exact hw) ⟨.ref a,H,I,rfl,q⟩
end
end L2
namespace L2
open PySem PySem.Spec PyProof.Rows
section
variable {prog:Program}{w:World}{A:Around}{E:Value->Shared->Prop}{s:Shared}{d it:Addr}{es:Array DictEntry}{ep i:Nat}
def uE(h:Heap)(d:Addr)(es:Array DictEntry)(ep:Nat):Prop:=∃o,h.get? d=some o/\o.ExactDict/\o.data=.dict es ep
def uE.to(x:uE h d es ep)(k:∀o,h.get? d=some o->h'.get? d=some o):uE h' d es ep:=let ⟨o,a,r⟩:=x;⟨o,k o a,r⟩
def uE.lt(x:uE h d es ep):d<h.objs.size:=let ⟨_,a,_⟩:=x;aM a
def uE.ty(x:uE s.heap d es ep):s.TypeIs (.ref d) "dict" :=let ⟨o,a,c,_⟩:=x;⟨o,a,c.1⟩
def JB(e:(d==sysModules)=false)(x:uE s.heap d es ep)
  (q:Q (.ref s.heap.objs.size) {s with heap:=s.heap.push {cls:=.type "dict_keyiterator",data:=.fields #[.ref d,.int 0 0,.int es.size 0,.int ep 0]}}):wpAny (model prog w) A (pyIter (.ref d)) Q E s:=by
 obtain⟨o,a,c,b⟩:=id x;refine wpAny_pyIter_slot x.ty F.slot_dict_iter (wpAny_call_entry F.slot_dict_iter x.ty F.entry_dict_iter ?_ (F.args_dict_iter_1 _));unfold Builtin.«dict.__iter__»;refine ao ?_;unfold Builtin.Dict.dictSlotNone;refine ao (wpAny_notOrdered_dict x.ty ?_);show wpAny _ _ (pure (Value.ref d)) _ _ s;refine ak ?_;show wpAny _ _ (Builtin.Dict.showsAll d >>= λ_=>_) _ _ s;unfold Builtin.Dict.showsAll;rw[aS (by rw[e];exact λz=>nomatch z)];refine ao (ak (ao (wpAny_dictEntries a b (ao (wpAny_dictEpoch a b ?_)))));refine ao (wpAny_newObj_type (ak ⟨_,rfl, "dict_keyiterator",_,⟨_,ar _ rfl,rfl⟩,F.slot_dict_keyiterator_next.lookup,?_⟩));simpa[rawInt] using q
def QT(j:s.heap.IsKeyIter it d i es.size ep)(x:uE s.heap d es ep) hi
  (q:∀h',h'.IsKeyIter it d (i+1) es.size ep->Heap.SameBut it s.heap h'->Q (some es[i].key) {s with heap:=h'}):wpAny (model prog w) A (pyNext (.ref it)) Q E s:=by
 obtain⟨o,a,c,b⟩:=id j;obtain⟨k,f,l,g⟩:=id x;have e:Builtin.Dict_items.ownsTuple "dict_keyiterator" = false:=by decide
 unfold pyNext;refine ao (wpAny_attempt (wpAny_callSpecial?_slot j.typeIs F.slot_dict_keyiterator_next (wpAny_call_entry F.slot_dict_keyiterator_next j.typeIs F.entry_dict_keyiterator_next ?_ (F.args_dict_keyiterator_next_1 _))));refine ao (ak (ao (ao ?_)));first|refine ao (wpAny_typeNameOfWhole_keyiter j.typeIs (ak (ao (wpAny_fieldsOf a b ?_))))|refine ao (wpAny_typeNameOf_keyiter j.typeIs (ak (ao (wpAny_fieldsOf a b ?_))))
 simp only[e,cu,if_false];show wpAny _ _ (if (Value.ref d==Value.none)=true then _ else _) _ _ s;rw[aS (λz=>nomatch z)];refine ao (ak (ao (wpAny_dictEntries f g ?_)));rw[aS (by simp)];refine ao (ak (ao (wpAny_dictEpoch f g ?_)));rw[aS (by simp)];refine ak ?_;simp only[show ¬(i<0) from by omega,if_false,bR,Array.getElem?_eq_getElem hi];refine ao ?_;first|refine ao (wpAny_typeNameOfWhole_keyiter j.typeIs (ak (ao (wpAny_isOneOf_keyiter j.typeIs ?_))))|refine ao (wpAny_typeNameOf_keyiter j.typeIs (ak (ao (wpAny_isOneOf_keyiter j.typeIs ?_))))
 show wpAny _ _ (setField (.ref it) 1 (rawInt (i+1)) >>= λ_=>_) _ _ s;refine ao (wpAny_setField a b (by simp) ?_);have h:(s.heap.update it (Obj.mapFields (·.setIfInBounds 1 (rawInt (i+1))))).IsKeyIter it d (i+1) es.size ep:=⟨_,Heap.get?_update_self _ a (Obj.isFreed_of_fields (Obj.data_mapFields b _)),(Obj.cls_mapFields ..).trans c,by rw[Obj.data_mapFields b];simp[rawInt]⟩
 refine ao (wpAny_holding (ao (wpAny_isOneOf_keyiter h.typeIs ?_)));exact ak (ak ⟨_,rfl,ak (q _ h (Heap.SameBut.update ..))⟩)
def Pp(h:A.handled=none)(j:s.heap.IsKeyIter it d es.size es.size ep)(x:uE s.heap d es ep)(q:∀h',Heap.ExtBut it s.heap h'->Q none {s with heap:=h'}) :
  wpAny (model prog w) A (pyNext (.ref it)) Q E s:=by
 obtain⟨o,a,c,e⟩:=id j;obtain⟨k,f,l,g⟩:=id x;have b:Builtin.Dict_items.ownsTuple "dict_keyiterator" = false:=by decide
 unfold pyNext;refine ao (wpAny_attempt (wpAny_callSpecial?_slot j.typeIs F.slot_dict_keyiterator_next (wpAny_call_entry F.slot_dict_keyiterator_next j.typeIs F.entry_dict_keyiterator_next ?_ (F.args_dict_keyiterator_next_1 _))));refine ao (ak (ao (ao ?_)));first|refine ao (wpAny_typeNameOfWhole_keyiter j.typeIs (ak (ao (wpAny_fieldsOf a e ?_))))|refine ao (wpAny_typeNameOf_keyiter j.typeIs (ak (ao (wpAny_fieldsOf a e ?_))))
 simp only[b,cu,if_false];show wpAny _ _ (if (Value.ref d==Value.none)=true then _ else _) _ _ s;rw[aS (λz=>nomatch z)];refine ao (ak (ao (wpAny_dictEntries f g ?_)));rw[aS (by simp)];refine ao (ak (ao (wpAny_dictEpoch f g ?_)));rw[aS (by simp)];refine ak ?_;simp only[show ¬(es.size<0) from by omega,if_false,bR,Array.getElem?_eq_none (aL es.size)];refine ao ?_;first|refine ao (wpAny_typeNameOfWhole_keyiter j.typeIs (ak ?_))|refine ao (wpAny_typeNameOf_keyiter j.typeIs (ak ?_))
 show wpAny _ _ (setField (.ref it) 0 .none >>= λ_=>_) _ _ s;refine ao (wpAny_setField a e (by simp) ?_);refine ao ?_;simp only[newExc,newTuple];refine ao (wpAny_newObj_type ?_ (by size_fits));refine ao (wpAny_of_eq (by first|rfl|(simp only[firstArgMember];rfl)) ?_);refine wpAny_newObj_type ?_ (by size_fits);simp only[raiseNew];refine ao (wpAny_handled ?_);rw[show A.in1.handled=none from h];refine ao (ak (wpAny_throw ?_));refine ao (wpAny_isInstance ⟨_,ar _ rfl,rfl⟩ isSubtype_stop ?_);exact ak (q _ (((Heap.SameBut.update ..).extBut.push _).push _))
def HV(g:A.handled=none) I d (ne:d≠I) es ep :
  Walks prog w A I [I,d] [I] es.size (λi v=>∃e,es[i]? = some e/\v=e.key) (λi h=>h.IsKeyIter I d i es.size ep/\uE h d es ep) where
 sub:=λb a=>by simp at a;simp[a]
 frame:=λ_ _ _ x k=>⟨x.1.at λo e=>k I (by simp) o e,x.2.to λo e=>k d (by simp) o e⟩
 item:=λi s Q E f x q=>QT x.1 x.2 f λc j k=>q _ c s.toks ⟨es[i],by simp[f],rfl⟩ ⟨j,x.2.to λo e=>k.extBut d o ne e⟩ λb o a e=>k.extBut b o (λz=>a (by simp[z])) e
 done:=λs Q E x q=>Pp g x.1 x.2 λc k=>q c s.toks λb o a e=>k b o (λz=>a (by simp[z])) e
 self:=λ_ _ _ _ x q=>wpAny_pyIter_keyiter x.1 q
def Mv(a:(d==sysModules)=false):W.KdlSrc prog w "dict" d d es.size (λi v=>∃e,es[i]? = some e/\v=e.key) (λh=>uE h d es ep) where
 type:=λ_ x=>x.ty
 there:=λ_ x=>⟨x.lt,x.lt⟩
 keep:=λ_ _ x k=>x.to λo e=>k d (.inl rfl) o e
 notList:=by decide
 notTuple:=by decide
 hint:=λ_ _ _ _ x q=>W.kdl_hint_dict x.ty q
 iter:=λ_ _ b x=>⟨_,_,(λ_ _ q=>JB a x q),HV b _ d (aN x.lt) es ep,⟨⟨_,ar _ rfl,rfl,rfl⟩,x.to λo e=>ae _ e⟩⟩
end
theorem vf:∀{xs} {us},xs.length=us.length->(∀(i:Nat) v,us[i]? = some v->∃x,xs[i]? = some x/\i9 x v)->iO xs us
 |[],[],_,_=>.nil
 |x::xs,u::us,hl,h=>by obtain⟨b,e,r⟩:=h 0 u rfl;simp at e;subst e;exact .cons r (vf (by simpa using hl) λi v a=>by simpa using h (i+1) v (by simpa using a))
theorem uu{F:α->β->Prop}:∀{l:List α} {m:List β} {i:Nat} {a:α},Paired F l m->l[i]? = some a->∃b,m[i]? = some b/\F a b
 |_::_,_::_,0,_,.cons h _,e=>by simp at e;subst e;exact⟨_,rfl,h⟩
 |_::_,_::_,i+1,_,.cons _ r,e=>by simpa using uu r (by simpa using e)
end L2
namespace L2
open PySem PySem.W PyProof.Rows
section
variable {lt:Nat->Nat->Bool}{n:Nat}{α β:Type}
abbrev UM(n:Nat)(p:Array Nat):Prop:=p.Perm (List.range n).toArray
def CC{p:Array Nat}(h:UM n p):p.size=n:=by rw[h.size_eq];simp
def Vv(lt:Nat->Nat->Bool)(p:Array Nat)(m:Nat):Prop:=∀i j,i<j->j<m->lt (p.getD j 0) (p.getD i 0)=false
end
end L2
namespace L2
open PySem PySem.Spec PySem.W PyProof.Rows
def wx{a:Type}(l:List a)(d:a):(List.range l.length).map (λi=>l.getD i d)=l:=by refine cJ (by simp) λi c b=>?_;simp[b]
def vm{c a:Type}{F:c->a->Prop}{l:List c}{m:List a}(h:Paired F l m)(f:c)(g:a){i:Nat}(d:i<l.length):F (l.getD i f) (m.getD i g):=by obtain⟨b,e,q⟩:=uu h (ag d);rw[af,ag d,af,e];exact q
theorem xA{c b a:Type}{F:c->b->Prop}(f:a->c)(g:a->b):∀(l:List a),(∀x∈l,F (f x) (g x))->Paired F (l.map f) (l.map g)
 |[],_=>.nil
 |x::l,h=>.cons (h x bu) (xA f g l λy d=>h y (bx _ d))
end L2
namespace L2.Sp
open PySem PySem.SetTable
end L2.Sp
namespace L2.Sp
open PySem PySem.SetTable
end L2.Sp
namespace L2.Sp
open PySem PySem.SetTable
end L2.Sp
namespace L2.Sp
open PySem PySem.SetTable
end L2.Sp
namespace L2.Sp
open PySem PySem.SetTable PyProof.Rows
end L2.Sp
namespace L2.Sp
open PySem PySem.SetTable PyProof.Rows
end L2.Sp
namespace L2.Sp
open PySem PySem.SetTable PyProof.Rows
end L2.Sp
namespace L2.Sp
open PySem PySem.SetTable PyProof.Rows
end L2.Sp
namespace L2.Sp
open PySem PySem.SetTable PyProof.Rows
end L2.Sp
namespace L2
open PySem PySem.Spec PyProof.Rows
section
variable {prog:Program}{w:World}{K:Type}[DecidableEq K]{knd:KeyKind prog w K}
def jt(knd:KeyKind prog w K)(h:Heap)(k:K×List K)(a:Addr):Prop:=∃o v b n,h.get? a=some o/\o.cls=.type "tuple" /\o.data=.seq #[v,.ref b] n/\knd.is k.1 v=true/\IsTupleKey knd h k.2 b
def jt.typeIs{s:Shared}{k:K×List K}{a:Addr}(x:jt knd s.heap k a):s.TypeIs (.ref a) "tuple" :=let ⟨o,_,_,_,ho,hc,_⟩:=x;⟨o,ho,hc⟩
def jt.inj{h:Heap}{a:Addr}{x y:K×List K}(j:jt knd h x a)(k:jt knd h y a):x=y:=by obtain⟨o,v,b,n,m,_,r,z,p⟩:=j;obtain⟨s,t,i,A,g,_,c,e,f⟩:=k;obtain rfl:o=s:=Option.some.inj (m.symm.trans g);rw[r]at c;injection c with l _;have q:[v,Value.ref b]=[t,.ref i]:=congrArg Array.toList l;injection q with u d;injection d with d _;injection d with d;subst u d;exact Prod.ext (knd.inj _ _ _ z e) (p.inj f)
def jt.keeps{h h':Heap}{k:K×List K}{a d:Addr}{o:Obj}{es ep}(x:jt knd h k a)(i:h.get? d=some o)(j:o.data=.dict es ep)(g:Heap.SameBut d h h'):jt knd h' k a:=by
 obtain⟨l,v,b,n,e,m,c,q,p⟩:=x;have f:a≠d:=by rintro rfl;obtain rfl:l=o:=Option.some.inj (e.symm.trans i);rw[j]at c;exact nomatch c
 exact⟨l,v,b,n,(g.2 a f).trans e,m,c,q,p.keeps i j g⟩
def xT(knd:KeyKind prog w K)(k:K×List K):Int:=reduceHash (Builtin.Tuple.tupleHashOf [knd.hash k.1,tupleKeyHash knd k.2])
variable {A:Around}{E:Value->Shared->Prop}{s:Shared}
def Dj{k:K×List K}{a:Addr}{Q:Int->Shared->Prop}(g:A.units+1<cLine)(e:jt knd s.heap k a)(h:Q (xT knd k) {s with toks:=s.toks+(k.2.length+3)}):wpAny (model prog w) A (pyHash (.ref a)) Q E s:=by
 have c:=e.typeIs;obtain⟨o,v,b,n,f,_,j,i,d⟩:=e;unfold pyHash;first|unfold pyHashByItsType|skip
 first|refine ao (wpAny_cRoomFor_or (.inr (by omega)) ?_)|skip
 refine ao (wpAny_specialOf c F.slot_tuple_hash.lookup ?_);show wpAny _ _ (if (some (Value.builtin "tuple.__hash__")==some Value.none)=true then _ else _) Q E s;rw[aS (by rw[beq_builtin_none];exact aI)];refine ao (wpAny_specialOf c F.slot_tuple_hash.lookup ?_);show wpAny _ _ (callSpecialIfBoundUnlessNone? (.ref a) "__hash__" _ >>= _) Q E s;refine ao (wpAny_callSpecialIfBoundUnlessNone?_slot c F.slot_tuple_hash (wpAny_call_entry F.slot_tuple_hash c F.entry_tuple_hash ?_ (F.args_tuple_hash_1 _)));show wpAny _ _ (Builtin.Tuple.tupleItemsOf (.ref a) >>= _) _ _ s;refine ao (wpAny_tupleItemsOf f j ?_);refine ao ?_;rw[<-cK];show wpAny _ _ (forIn [v,Value.ref b] _ _) _ _ s;rw[cq];refine ao (ao (knd.pyHash i ?_));refine ak ?_;dsimp only;rw[cq];refine ao (ao (wpAny_pyHash_tuple (knd:=knd) (show A.units+1<cLine from g) d ?_));refine ak ?_;dsimp only;rw[cz];refine ak ?_;show wpAny _ _ (retInt (Builtin.Tuple.tupleHashOf [knd.hash k.1,tupleKeyHash knd k.2])) _ _ _;refine wpAny_ret_mkInt ?_;unfold xT reduceHash at h;show wpAny _ _ (if (decide (-(2:Int) ^ 63<=Builtin.Tuple.tupleHashOf [knd.hash k.1,tupleKeyHash knd k.2])&&decide (Builtin.Tuple.tupleHashOf [knd.hash k.1,tupleKeyHash knd k.2]<2 ^ 63))=true then _ else _) Q E _;have d:s.toks+1+(k.2.length+1)+1=s.toks+(k.2.length+3):=by omega
 by_cases hr:(decide (-(2:Int) ^ 63<=Builtin.Tuple.tupleHashOf [knd.hash k.1,tupleKeyHash knd k.2])&&decide (Builtin.Tuple.tupleHashOf [knd.hash k.1,tupleKeyHash knd k.2]<2 ^ 63))=true
 .rw[aR hr];rw[aR hr]at h;refine ak ?_;dsimp only;rw[d];exact h
 .rw[aS hr];rw[aS hr]at h;refine ao (wpAny_rule (ak ?_));dsimp only;rw[d];exact h
def A9{x y:K×List K}{a b:Addr}{P:Fin->Shared->Prop}(F:A.units<cLine)(t:jt knd s.heap x a)(p:jt knd s.heap y b)(h:P (.done (.ret (.bool (decide (x=y))))) s) :
  wpAny (model prog w) A (Builtin.«tuple.__eq__» ⟨[.ref a,.ref b],[]⟩) P E s:=by
 have j:=p.typeIs;obtain⟨L,v,c,J,k,_,m,o,n⟩:=t;obtain⟨H,C,u,I,l,_,g,e,d⟩:=p;obtain⟨r,D⟩:=x;obtain⟨q,B⟩:=y;show wpAny _ _ (isInstance (.ref b) (.type "tuple") >>= _) _ _ s;refine ao (wpAny_isInstance j isSubtype_tuple_tuple ?_);simp only[cL,cu,if_false];refine ao (wpAny_tupleItemsOf k m ?_);refine ao (wpAny_tupleItemsOf l g ?_);refine ao ?_;show wpAny _ _ (forIn [(v,C),(Value.ref c,Value.ref u)] _ _) _ _ s;rw[cq];refine ao (ao (knd.eqBool (a:=r) (b:=q) o e ?_));by_cases f:r=q
 .subst f;rw[aC rfl];simp only[cL,cu,if_false];refine ak ?_;dsimp only;rw[cq];refine ao (ao (wpAny_eqBool_tuple (knd:=knd) F n d ?_));by_cases i:D=B
  .subst i;rw[aC rfl];simp only[cL,cu,if_false];refine ak ?_;dsimp only;rw[cz];refine ak (ak ?_);rw[aC rfl]at h;exact h
  .rw[aB i];simp only[cN,if_true];rw[aB (λz=>i (congrArg Prod.snd z))]at h;exact ao (ak (ak (ak (ak h))))
 .rw[aB f];simp only[cN,if_true];rw[aB (λz=>f (congrArg Prod.fst z))]at h;exact ao (ak (ak (ak (ak h))))
def BQ{x y:K×List K}{a b:Addr}{Q:Bool->Shared->Prop}(g:A.units+1<cLine)(d:jt knd s.heap x a)(f:jt knd s.heap y b)(h:Q (decide (x=y)) s) :
  wpAny (model prog w) A (eqBool (.ref a) (.ref b)) Q E s:=by
 unfold eqBool;try with_reducible refine wpAny_holding ?_;show wpAny _ _ (if (Value.ref a==Value.ref b)=true then _ else _) Q E s;by_cases c:(Value.ref a==Value.ref b)=true
 .rw[aR c];have e:a=b:=by have:=eq_of_beq c;injection this
  subst e;obtain rfl:=d.inj f;exact ao (wpAny_rule (ak (by simpa using h)))
 .rw[aS c];exact ao (wpAny_richCompare_same_room (op:=.Eq) d.typeIs f.typeIs F.slot_tuple_eq
   (wpAny_call_entry F.slot_tuple_eq d.typeIs F.entry_tuple_eq (A9 (show A.units+1<cLine from g) d f ⟨_,rfl,(λe=>nomatch e),wpAny_truthy_bool h⟩) (F.args_tuple_eq_2 _ _)) (by omega))
def C1{m:Nat}{l:List K}{a:Addr}{Q:Bool->Shared->Prop}(i:IsTupleKey knd s.heap l a)(h:Q true s):wpAny (model prog w) A (eqIsQuiet (m+1) (.ref a)) Q E s:=by
 have f:=i.typeIs;obtain⟨o,b,n,j,_,k,p⟩:=i;unfold eqIsQuiet;refine ao (wpAny_specialOf f F.slot_tuple_eq.lookup ?_);show wpAny _ _ (isInstance (.ref a) (.type "tuple") >>= _) _ _ s;refine ao (wpAny_isInstance f isSubtype_tuple_tuple ?_);simp only[cL,cu,if_false];refine ao (wpAny_seqItems j k ?_);refine ao ?_;show wpAny _ _ (forIn b _ _) _ _ s;rw[<-cK];refine wpAny_forIn_list _ (λg r d=>r.1=none/\d=s/\∀v∈g,carriedByValue v=true) _ ?_ ?_ _ _ ⟨rfl,rfl,p.byValue⟩
 .rintro v g r d ⟨hr,rfl,e⟩;rw[eqIsQuiet_byValue _ (e v bu)];refine ao (ak ?_);simp only[cL,cu,if_false];exact ak ⟨rfl,rfl,λu c=>e u (bx _ c)⟩
 .rintro⟨t,q⟩ d ⟨hr,rfl,_⟩;simp only at hr;subst hr;exact ak h
def DQ{k:K×List K}{a:Addr}{Q:Bool->Shared->Prop}(d:jt knd s.heap k a)(h:Q true s):wpAny (model prog w) A (eqIsQuiet 8 (.ref a)) Q E s:=by have c:=d.typeIs;obtain⟨o,v,b,n,e,_,i,g,f⟩:=d;unfold eqIsQuiet;refine ao (wpAny_specialOf c F.slot_tuple_eq.lookup ?_);show wpAny _ _ (isInstance (.ref a) (.type "tuple") >>= _) _ _ s;refine ao (wpAny_isInstance c isSubtype_tuple_tuple ?_);simp only[cL,cu,if_false];refine ao (wpAny_seqItems e i ?_);refine ao ?_;rw[<-cK];show wpAny _ _ (forIn [v,Value.ref b] _ _) _ _ s;rw[cq,eqIsQuiet_byValue _ (knd.byValue _ _ g)];refine ao (ao (ak ?_));simp only[cL,cu,if_false];refine ak ?_;dsimp only;rw[cq];refine ao (ao (C1 (knd:=knd) f ?_));simp only[cL,cu,if_false];refine ak ?_;dsimp only;rw[cz];exact ak (ak h)
end
def xJ{prog:Program}{w:World}{K:Type}[DecidableEq K](knd:KeyKind prog w K):HeapKind prog w (K×List K) where
 is:=jt knd
 hash:=xT knd
 draws:=λk=>k.2.length+3
 room:=λA=>A.units+1<cLine
 inj:=λc a=>c.inj a
 keeps:=λx f g e=>x.keeps f g e
 pyHash:=λb d h=>Dj b d h
 eqBool:=λb c a h=>BQ b c a h
 quiet:=λd h=>DQ d h
end L2
namespace L2
open PySem PySem.Spec PyProof.Rows
abbrev FE:=(pD×List pD)×Addr×Value
def UZ(P:Program)(w:World)(a:Addr)(xs:List FE)(h:Heap):Prop:=(a==sysModules)=false/\xs.length<=sizeLine/\∃o b c,h.get? a=some o/\o.ExactDict/\o.data=.dict b c/\b.toList=xs.map (entryOfKey (xJ (l9 P w)))/\(xs.map (·.1)).Nodup
def yL(P:Program)(w:World)(a:Addr)(xs:List FE):HO:=.ext (UZ P w a xs)
def A5(H:Hp)(k:pD×List pD)(b:Addr):Prop:=∃a,H b=some (.tup [kV k.1,.ref a])/\H a=some (.tup (k.2.map kV))
section
variable {P:Program}{w:World}{H H':Hp}{h h':Heap}{a b:Addr}{xs:List FE}{k:pD×List pD}
def Lf(x:UZ P w a xs h):jL P w H h a (yL P w a xs):=by
 refine⟨x,?_,λi j y q=>?_⟩
 .obtain⟨_,_,o,_,_,e,_⟩:=x;exact⟨o,e⟩
 .obtain⟨g,d,o,f,c,e,r⟩:=y;exact⟨g,d,o,f,c,q o e,r⟩
def Me(ok:qZ P w H h)(x:A5 H k b):(xJ (l9 P w)).is h k b:=by
 obtain⟨c,j,d⟩:=x;obtain⟨_,f,r,o,e,g,n,i,_⟩:=(show jL P w H h b (.tup [kV k.1,.ref c]) from ok b _ j);have:=DO ok d;cases r with
 |cons r1 r2=>
  cases r2 with
  |cons r3 r4=>cases r4;cases (show _=Value.ref c from r3);exact⟨o,_,c,n,e,g,i,P3 r1,this⟩
def Gw(ok:qZ P w H h)(e:H a=some (yL P w a xs))(n:∀x∈xs,A5 H x.1 x.2.1):UZ P w a xs h/\h.DictOfH (xJ (l9 P w)) a xs:=by obtain⟨x,_,_⟩:=(show jL P w H h a (yL P w a xs) from ok a _ e);refine⟨x,?_⟩;obtain⟨_,_,o,g,c,m,d,f,j,l⟩:=x;exact⟨o,g,c,m,d,f,j,λx i=>Me ok (n x i),l⟩
end
section
variable {X:Cx}{gU:List (Addr×Obj)}{σ:St}{H:Hp}{s:Shared}{a b:Addr}{xs:List FE}{k:pD×List pD}{r:Value}{A:Around}{E:Value->Shared->Prop}
def QO{Q:Unit->Shared->Prop}(z:A.units+2<cLine)(I:iz X gU σ H s)(e:H a=some (yL X.prog X.w a xs))(u:∀x∈xs,A5 H x.1 x.2.1)(o:A5 H k b)(v:xs.length<sizeLine)
  (h:∀f,iz X gU σ (ja H a (yL X.prog X.w a (storedH xs k b r))) f->Q () f):wpAny (model X.prog X.w) A (setItem (.ref a) (.ref b) r) Q E s:=by
 obtain⟨x,p⟩:=Gw I.hok e u;refine wpAny_setItem_heap (hsz:=by omega) (show A.units+1+1<cLine by omega) (Me I.hok o) p λy c i=>h _ ?_;obtain⟨q,t,g,d,n,j,l,_,m⟩:=c;refine Gk I (by rw[e];exact True.intro) i ⟨q,d⟩ (Lf ⟨x.1,?_,q,t,g,d,n,j,l,m⟩);unfold storedH;split
 .rw[ax];omega
 .rw[aU,cf];omega
def DE(t:X.calm=true):lA X (.type "list") (λzs H Q=>∃a xs,zs=[.ref a]/\H a=some (yL X.prog X.w a xs)/\∀l:Addr,H l=none->Q (.ref l) (ja H l (.lst (xs.map λx=>.ref x.2.1)))):=by
 intro gU s σ H zs us Q I r h;obtain⟨a,xs,rfl,e,q⟩:=h;obtain⟨u,rfl,L⟩:=qB r;cases L;obtain⟨⟨S,z,o,j,B,J,ex,dt,p,nd⟩,_,_⟩:=(show jL X.prog X.w H s.heap a (yL X.prog X.w a xs) from I.hok a _ e);have sz:j.size=xs.length:=by rw[<-bA,p,ax]
 refine W.kdl_call (Mv S) (I.ok.hd t) (⟨o,J,ex,dt⟩:uE s.heap a j B) (by rw[sz];exact z) λR tk c D Z F d=>?_;have g:∀(i:Nat) v,c[i]? = some v->∃y,xs[i]? = some y/\v=.ref y.2.1:=λi v m=>by
  obtain⟨en,C,N⟩:=d.2 i v m;have f:j.toList[i]? = some en:=by simpa using C
  rw[p,aw]at f;cases n:xs[i]? with
  |none=>rw[n]at f;cases f
  |some y=>rw[n]at f;cases f;exact⟨y,rfl,N⟩
 have U:c.size=xs.length:=by rw[<-sz];exact d.1
 have K:iO (xs.map λx=>V.ref x.2.1) c.toList:=by refine vf (by simp[U]) λi v m=>?_;obtain⟨y,Y,P⟩:=g i v (by simpa using m);exact⟨.ref y.2.1,by simp[Y],by rw[P];rfl⟩
 exact⟨.ref s.heap.objs.size,_,I.laid Z (aL _) (show jL X.prog X.w _ R _ (.lst (xs.map λx=>V.ref x.2.1)) from ⟨by rw[ax];exact z,c.toList,D,K,by simpa using F⟩),rfl,q _ (I.hok.fresh (aL _))⟩
end
end L2
namespace L2
open PySem PySem.Spec PySem.W PyProof.Rows
def uC(m:List Value)(l:List Value)(h:TriplesOk l):l5 (l++m)=l5 l++l5 m:=by
 fun_induction TriplesOk l with
 |case1=>rfl
 |case2 a b c d v r ih=>show v::l5 (r++m)=v::(l5 r++l5 m);rw[ih h]
 |case3=>exact h.elim
def B9(m:List Value)(e:TriplesOk m)(l:List Value)(h:TriplesOk l):TriplesOk (l++m):=by
 fun_induction TriplesOk l with
 |case1=>exact e
 |case2 a b c d v r ih=>exact ih h
 |case3=>exact h.elim
def zb{pos:Pos}{v:Value}(l:List Value)(h:codeAmong pos l=some v):v∈l5 l:=by
 fun_induction codeAmong pos l with
 |case1=>cases h;exact bu
 |case2 _ _ _ _ _ _ _ ih=>exact bx _ (ih h)
 |case3=>cases h
def rO(H:Hp)(P:Addr)(q:Str)(b:Addr):Prop:=∃a,H P=some (.tbl q a)/\Value.ref b∈l5 a.toList
section
variable {X:Cx}{gU:List (Addr×Obj)}{σ:St}{H H':Hp}{s:Shared}{P c':Addr}{q:Str}
def rO.rec'{prog:Program}{w:World}{h:Heap}(t:rO H P q c')(ok:qZ prog w H h):h.CodeRec (.ref c') q:=by obtain⟨c,e,m⟩:=t;obtain⟨b,a,_,r⟩:=((show jL prog w H h P (.tbl q c) from ok P _ e)).2.2 _ m;cases a;exact r
def rO.grow{prog:Program}{w:World}{h:Heap}(t:rO H P q c')(ok:qZ prog w H h)(g:∀b,H P=some (.tbl q b)->∃a,H' P=some (.tbl q (b++a))):rO H' P q c':=by obtain⟨b,e,m⟩:=t;obtain⟨a,c⟩:=g b e;refine⟨_,c,?_⟩;rw[cO,uC _ _ ((show jL prog w H h P (.tbl q b) from ok P _ e)).2.1];exact ay _ m
end
section
variable {P:Program}{w:World}{mg:Str->Option Value}{base:Heap}{k:Nat}{f:Addr}{N ps:List Str}{name qual:Str}{params:Arguments}{body:Expr}{scope:Scope}{A:Around}{outer:List Env}{s:Shared}{H:Hp}{args:Args}{us:List Value}{vs:List V}{Q:VK}
def Nw{K:W.Frag}{l d:Value}{g:Addr}(D:s.heap.get? f=some (kla_obj name qual params body scope [] l g d))(i:s.heap.CodeRec (.ref g) qual)(S:i8 N ps scope)
  (C:vs.length=ps.length) (hr:ji (k+1) A) (j:xt P w K mg base A outer s H) (p:BindsTo s (kla_fn name qual params body scope [] l (.ref g) d) args (ps.zip us)) (r:iO vs us)
  (a:∃t,PE (ny sh P w K mg base N qual scope f (.ref g) A outer s H E0).nox body t/\t (lK N vs) H Q) :
  codeAny (model P w) A (.call (.ref f) args) (CR sh outer P w H s Q E0) s:=by
 have h:=j.mod.nolimit.keeps λb o e=>(j.bs b o e).1;have c:∀y∈ps.zip us,scope.names.lookup y.1=some .local\/(scope.names.lookup y.1=some .cell/\((cellsFrom (s.heap.objs.size+1) scope.names []).lookup y.1).isSome=true):=λ⟨n,v⟩ hy=>by
  rcases S.par n (aX hy).1 with q|q
  .exact .inl q
  .exact .inr ⟨q,W.cellsFrom_some _ _ _ (.inl q)⟩
 refine kla_callFunE hr.depth D rfl S.co S.gen rfl i (p _ _ _ _ ?_);refine wpAny_newFunctionEnv_cells S.kind c λz F m x=>?_;subst F;refine⟨h.keeps x.toInCall.keep,kla_codeExpr ?_⟩;obtain⟨t,E,L⟩:=a;have I:iz (ny sh P w K mg base N qual scope f (.ref g) A outer s H E0) [] (lK N vs) H m:=zq S hr.hd j C r x;exact wpAny_mono (E [] m (lK N vs) H _ (I.wish _) L) (λu R ⟨v,H',J,rv,q⟩=>⟨v,H',J.os,J.bare,J.base,J.hok,rv,q⟩) λe R B=>B.elim
end
section
variable {X:Cx}{gU:List (Addr×Obj)}{σ:St}{H:Hp}{s:Shared}{c P:Addr}{qn:Str}{params:Arguments}{body:Expr}{scope:Scope}{pos:Pos}{A:Around}{E:Value->Shared->Prop}{Q:Value->Shared->Prop}
theorem JT(I:iz X gU σ H s)(p:X.env.code=.ref c)(C:CodeHd X.base c P)(kP:(c,P)∈X.base.life.ids)(hrc:X.base.CodeRec (.ref c) qn)(hb:X.base.BuiltinsAt X.mg P)
  (hq:qn++ ".<locals>.<lambda>" = X.env.qual++ "<lambda>") (U:closureFor scope X.env=pure []) (hdef:defaultsOf params X.env=([],[]))
  (h:∀f a g pm Y s',iz X gU σ Y s'->iq H Y->(∀b,H b=none->b<s.heap.objs.size->Y b=none)->s.heap.objs.size<=f->Y f=none->rO Y P (X.env.qual++ "<lambda>") a->
   s'.heap.get? f=some (kla_obj "<lambda>" (X.env.qual++ "<lambda>") params body scope [] pm a g)->Q (.ref f) s') :
  wpAny (model X.prog X.w) A (eval (.Lambda params body scope pos) X.env) Q E s:=by
 obtain⟨m,k⟩:=I.tab c P qn kP hrc;rw[hq]at k;obtain⟨oP,tri,B⟩:=(show jL X.prog X.w H s.heap P (.tbl _ m) from I.hok P _ k);have G:s.heap.Ns mainGlobals X.mg:=let ⟨o,es,ep,e,r⟩:=I.ok.mod.glob;⟨o,es,ep,I.bk _ _ e,r⟩;have hgP:mainGlobals≠P:=λz=>by obtain⟨o,es,ep,e,r⟩:=I.ok.mod.glob;have:=(I.bs _ _ e).2;rw[z,k]at this;cases this
 have C':CodeHd s.heap c P:=C.keeps I.bk;have hb':s.heap.BuiltinsAt X.mg P:=let ⟨bm,o,h1,h2,h3,h4,h5,r⟩:=hb;⟨bm,o,h1,h2,h3,h4,I.bk _ _ h5,r⟩;refine kla_eval hdef ?_;cases hc:codeAmong pos m.toList with
 |some cv=>obtain⟨b,rfl,hbo,hbr⟩:=B cv (zb _ hc);refine kla_makeFunctionHit (mg:=X.mg) U I.ok.glob G p C' oP tri hc hb' λg R tk K hsz=>?_;have I':iz X gU σ H {s with heap:=R.push {cls:=.type "function",data:=.func (kla_fn "<lambda>" (X.env.qual++ "<lambda>") params body scope [] ((X.mg "__name__").getD .none) (.ref b) g)},toks:=tk}:=I.kept λb o e=>ae _ (K b o e);exact h _ b g _ H _ I' (.refl _) (λ_ e _=>e) hsz (I.hok.fresh hsz) ⟨m,k,zb _ hc⟩ (ar _ rfl)
 |none=>
  refine kla_makeFunction (mg:=X.mg) U I.ok.glob G p C' oP tri hc hgP hb' λa g R tk hx j J D htb=>?_;have hc0:H a=none:=I.hok.fresh j;have cP:a≠P:=λz=>by rw[z]at j;exact absurd (I.hok.lt k) (cC.mpr j)
  have tri':TriplesOk [rawInt pos.line,rawInt pos.col,.ref a]:=by simp[TriplesOk,rawInt]
  have al:(m++#[rawInt pos.line,rawInt pos.col,Value.ref a]).toList=m.toList++[rawInt pos.line,rawInt pos.col,.ref a]:=by simp
  have i:∀b,b≠P->b≠a->ja (ja H a (.own P)) P (.tbl (X.env.qual++ "<lambda>") (m++#[rawInt pos.line,rawInt pos.col,.ref a])) b=H b:=λb h1 h2=>by rw[hU h1,hU h2]
  have upC:ja (ja H a (.own P)) P (.tbl (X.env.qual++ "<lambda>") (m++#[rawInt pos.line,rawInt pos.col,.ref a])) a=some (.own P):=by rw[hU cP,hC]
  have x:∀b u,H b=some u->b≠a:=λb u e=>iC e hc0;have K:∀b o,b≠P->s.heap.get? b=some o->(R.push (kla_obj "<lambda>" (X.env.qual++ "<lambda>") params body scope [] ((X.mg "__name__").getD .none) a g)).get? b=some o:=λb o hb e=>ae _ (hx b o hb e);have nP:∀b,H b=none->b≠P:=λb e z=>by rw[z,k]at e;cases e
  have Z:∀b,H b=none->b<s.heap.objs.size->ja (ja H a (.own P)) P (.tbl (X.env.qual++ "<lambda>") (m++#[rawInt pos.line,rawInt pos.col,.ref a])) b=none:=λb e l=>by rw[i b (nP b e) (aN (aF l j))];exact e
  have sm:iq H (ja (ja H a (.own P)) P (.tbl (X.env.qual++ "<lambda>") (m++#[rawInt pos.line,rawInt pos.col,.ref a]))):=λb u e=>by
   by_cases z:b=P
   .subst z;rw[k]at e;cases e;rw[hC];exact⟨_,rfl⟩
   .rw[i b z (x b u e)];exact .of e
  have hok:qZ X.prog X.w (ja (ja H a (.own P)) P (.tbl (X.env.qual++ "<lambda>") (m++#[rawInt pos.line,rawInt pos.col,.ref a]))) (R.push (kla_obj "<lambda>" (X.env.qual++ "<lambda>") params body scope [] ((X.mg "__name__").getD .none) a g)):=λb u e=>by
   by_cases z:b=P
   .subst z;rw[hC]at e;cases e;refine⟨ae _ htb,by rw[al];exact B9 _ tri' _ tri,λv L=>?_⟩;rw[al,uC _ _ tri]at L;rcases ai.mp L with L|L
    .obtain⟨d,rfl,t,hr⟩:=B v L;obtain⟨d',N,vs,tt,e1,S,e3⟩:=hr;cases e1;exact⟨d,rfl,by rw[i d (λz=>by rw[z,k]at t;cases t) (x d _ t)];exact t,d,N,vs,tt,rfl,K d N (λz=>by rw[z,k]at t;cases t) S,e3⟩
    .have:v=.ref a:=by simpa[l5] using L
     subst this;obtain⟨d',N,vs,tt,e1,S,e3⟩:=D;cases e1;exact⟨a,rfl,upC,a,N,vs,tt,rfl,ae _ S,e3⟩
   .by_cases y:b=a
    .subst y;rw[upC]at e;cases e;obtain⟨d',N,vs,tt,e1,S,e3⟩:=D;cases e1;exact⟨N,ae _ S⟩
    .rw[i b z y]at e;have F:∀d,H d=some (.own b)->d≠P:=λd r w=>by rw[w,k]at r;cases r
     refine (I.hok b u e).stay (λd v t r=>K d v ?_ r) (λd r=>by rw[i d (F d r) (x d _ r)];exact r) λd xs r=>by rw[i d (λw=>by rw[w,k]at r;cases r) (x d _ r)];exact r
     rcases t with rfl|t
     .exact z
     .exact F d t
  have un:Un X.fs [] H (ja (ja H a (.own P)) P (.tbl (X.env.qual++ "<lambda>") (m++#[rawInt pos.line,rawInt pos.col,.ref a]))) s.heap (R.push (kla_obj "<lambda>" (X.env.qual++ "<lambda>") params body scope [] ((X.mg "__name__").getD .none) a g)):=
   ⟨λb o e n _ _=>K b o (nP b n) e,λb o e n _ _=>⟨o.slots,K b o (nP b n) e⟩,λb o e n _=>Z b n (aM e),λb o e _=>by
    by_cases z:b=P
    .subst z;exact⟨_,ae _ htb⟩
    .exact⟨o,K b o z e⟩,λb xs e=>sm b _ e,λb o u e=>sm b _ e,λb q m e=>sm b _ e⟩
  refine h _ a g _ _ _ (I.un un hok) sm Z (bj (cQ j J)) ?_ ⟨_,hC,?_⟩ (ar _ rfl)
  .have hf:s.heap.objs.size<=R.objs.size:=bj (cQ j J);rw[i _ (λz=>by rw[z]at hf;exact absurd (I.hok.lt k) (cC.mpr hf)) (bB J)];exact I.hok.fresh hf
  .rw[al,uC _ _ tri];exact bF _ bu
end
end L2
namespace L2
open PySem PySem.Spec PySem.W PyProof.Rows
def Ol:LI->LI->Option Bool
 |x::a,y::b=>if x=y then Ol a b else some (decide (x<y))
 |_,_=>none
def qp(a b:LI):Bool:=(Ol a b).getD (decide (a.length<b.length))
def ub(b:LI):qp [] b=decide (0<b.length):=by cases b<;>rfl
def ur(a:LI):qp a []=false:=by cases a<;>simp[qp,Ol]
def qT(x y:Int)(a b:LI):qp (x::a) (y::b)=if x=y then qp a b else decide (x<y):=by
 unfold qp;rw[Ol];by_cases h:x=y
 .rw[aR h,aR h];simp
 .rw[aS h,aS h];rfl
theorem Fx:∀{a b:LI},qp a b=true->qp b a=false
 |[],b,h=>ur b
 |a::l,[],h=>by rw[ur]at h;cases h
 |x::a,y::b,h=>by
  rw[qT]at h ⊢;by_cases e:x=y
  .rw[aR e]at h;rw[aR e.symm];exact Fx h
  .rw[aS e]at h;rw[aS (λz=>e z.symm)];have:=of_decide_eq_true h;exact aB (by omega)
theorem FS:∀{a b c:LI},qp b a=false->qp c b=false->qp c a=false
 |[],b,c,_,_=>ur c
 |x::a,[],c,h,_=>by rw[ub]at h;simp at h
 |x::a,y::b,[],_,h=>by rw[ub]at h;simp at h
 |x::a,y::b,z::c,e,d=>by
  rw[qT]at e d ⊢;by_cases g:y=x
  .rw[aR g]at e;by_cases f:z=y
   .rw[aR f]at d;rw[aR (f.trans g)];exact FS e d
   .rw[aS f]at d;rw[aS (by omega),<-g];exact d
  .rw[aS g]at e;have e:=of_decide_eq_false e;by_cases f:z=y
   .rw[aS (by omega)];exact aB (by omega)
   .rw[aS f]at d;have d:=of_decide_eq_false d;rw[aS (by omega)];exact aB (by omega)
theorem zJ:∀a:LI,qp a a=false
 |[]=>rfl
 |x::a=>by rw[qT,aR rfl];exact zJ a
theorem BY:∀{a b:LI},qp a b=false->qp b a=false->a=b
 |[],[],_,_=>rfl
 |[],y::b,h,_=>by rw[ub]at h;simp at h
 |x::a,[],_,h=>by rw[ub]at h;simp at h
 |x::a,y::b,h1,h2=>by
  rw[qT]at h1 h2;by_cases e:x=y
  .rw[aR e]at h1;rw[aR e.symm]at h2;rw[e,BY h1 h2]
  .rw[aS e]at h1;rw[aS (λz=>e z.symm)]at h2;have:=of_decide_eq_false h1;have:=of_decide_eq_false h2;omega
abbrev Ky:=Int×LI
def wV(f g:Ky):Bool:=if f.1=g.1 then qp f.2 g.2 else decide (f.1<g.1)
def Jn{f g:Ky}(h:wV f g=true):wV g f=false:=by
 unfold wV at h ⊢;by_cases e:f.1=g.1
 .rw[aR e]at h;rw[aR e.symm];exact Fx h
 .rw[aS e]at h;rw[aS (λz=>e z.symm)];have:=of_decide_eq_true h;exact aB (by omega)
def LR{a b c:Ky}(e:wV b a=false)(d:wV c b=false):wV c a=false:=by
 unfold wV at e d ⊢;by_cases g:b.1=a.1
 .rw[aR g]at e;by_cases f:c.1=b.1
  .rw[aR f]at d;rw[aR (f.trans g)];exact FS e d
  .rw[aS f]at d;rw[aS (by omega),<-g];exact d
 .rw[aS g]at e;have e:=of_decide_eq_false e;by_cases f:c.1=b.1
  .rw[aS (by omega)];exact aB (by omega)
  .rw[aS f]at d;have d:=of_decide_eq_false d;rw[aS (by omega)];exact aB (by omega)
section
variable {prog:Program}{w:World}{A:Around}{E:Value->Shared->Prop}{s:Shared}
theorem Fo{R:Option Fin×Unit->Shared->Prop}{a:Value×Value->Option Fin×Unit->Sem (ForInStep (Option Fin×Unit))}
  (d:∀(n m:Int) (t u:Tok) (b:ForInStep (Option Fin×Unit)->Shared->Prop),(n=m->b (.yield (none,())) s)->(n≠m->b (.done (some (.done (.ret (.bool (decide (n<m))))),())) s)->wpAny (model prog w) A (a (.int n t,.int m u) (none,())) b E s)
  : ∀{xs ys:List Value} {g f:LI},IntsAre xs g->IntsAre ys f->(∀o,Ol g f=o->R (o.map λc=>Fin.done (.ret (.bool c)),()) s)->wpAny (model prog w) A (forIn (xs.zip ys) (none,()) a) R E s
 |_,_,_,_,.nil,_,h=>by rw[List.zip_nil_left,cz];exact ak (h none (by simp[Ol]))
 |_,_,_,_,.cons _ _ _,.nil,h=>by rw[List.zip_nil_right,cz];exact ak (h none (by simp[Ol]))
 |_,_,_,_,.cons n t hx,.cons m u hy,h=>by
  rw[cR,cq];refine ao (d n m t u _ (λe=>?_) λe=>?_)
  .exact Fo d hx hy λo i=>h o (by rw[Ol,aR e];exact i)
  .exact ak (h (some (decide (n<m))) (by rw[Ol,aS e]))
theorem yc{a b:Addr}{v f:Obj}{xs ys:Array Value}{na nb:Nat}{j g:LI}{P:Fin->Shared->Prop}(k:s.heap.get? a=some v)(l:v.data=.seq xs na)(d:s.heap.get? b=some f)(p:f.cls=.type "tuple")(i:f.data=.seq ys nb)
  (q:IntsAre xs.toList j) (r:IntsAre ys.toList g) (h:P (.done (.ret (.bool (qp j g)))) s) :
  wpAny (model prog w) A (Builtin.«tuple.__lt__» ⟨[.ref a,.ref b],[]⟩) P E s:=by
 show wpAny _ _ (isInstance (.ref b) (.type "tuple") >>= _) _ _ s;refine ao (wpAny_isInstance ⟨f,d,p⟩ isSubtype_tuple_tuple ?_);simp only[cL,cu,if_false];refine ao (wpAny_tupleItemsOf k l ?_);refine ao (wpAny_tupleItemsOf d i ?_);refine ao (Fo (s:=s) (λn m t u D y C=>?_) q r λo z=>?_)
 .refine ao (wpAny_eqBool_int ?_);by_cases e:n=m
  .rw[show (n==m)=true from beq_iff_eq.mpr e];simp only[cL,cu,if_false];exact ak (y e)
  .rw[show (n==m)=false from beq_eq_false_iff_ne.mpr e];simp only[cN,if_true];refine ao (wpAny_rule ?_);refine ao (wpAny_lt_int ?_);exact ao (ak (ak (C e)))
 .have x:xs.size=j.length:=by rw[<-bA,q.length]
  have B:ys.size=g.length:=by rw[<-bA,r.length]
  unfold qp at h;rw[z]at h;cases o with
  |none=>refine ak ?_;rw[x,B];exact h
  |some c=>exact ak h
end
end L2
namespace L2
open PySem PyProof.Rows
def Ts:Bool->Keyed->Array Keyed->Nat->Nat->Nat->StateT SortSt Sem (Option Nat):=sortPriv% PySem.Builtin.gallop
section
variable {prog:Program}{w:World}{A:Around}{E:Value->Shared->Prop}{s:Shared}{κ:SortKind}{I:Keyed->Prop}{L:Keyed->Keyed->Bool}
structure sN(prog:Program)(w:World)(A:Around)(E:Value->Shared->Prop)(s:Shared)(κ:SortKind)(I:Keyed->Prop)(L:Keyed->Keyed->Bool):Prop where
 ask:∀(x y:Keyed) (st:SortSt) (Q:Option Bool->SortSt->Prop),I x->I y->kindOf st=κ->Q (some (L x y)) st->wpS (model prog w) A E s (lt' x y) Q st
def bv(L:Keyed->Keyed->Bool)(left:Bool)(a x:Keyed):Bool:=if left then L x a else !(L a x)
theorem Q7(a:sN prog w A E s κ I L){left:Bool}{b x:Keyed}{c:Array Keyed}{j:Nat}{st:SortSt}{Q:Option Bool->SortSt->Prop}(g:c[j]? = some x)(f:I x)(e:I b)(d:kindOf st=κ)(h:Q (some (bv L left b x)) st) :
  wpS (model prog w) A E s (elem' c j >>= λx=>if left=true then lt' x b else lt' b x >>= λr=>pure (r.map λz=>!z)) Q st:=by
 rw[elem'_eq,g];refine wpS_bind (wpS_pure ?_);cases left with
 |true=>exact a.ask _ _ _ _ f e d h
 |false=>exact wpS_bind (a.ask _ _ _ _ e f d (wpS_pure h))
theorem BK{n:Nat}{b:Nat->Bool}{st:SortSt}{f:Nat->Option (Option Nat)×Nat×Nat->StateT SortSt Sem (ForInStep (Option (Option Nat)×Nat×Nat))}
  (y:∀x d a (Q:ForInStep (Option (Option Nat)×Nat×Nat)->SortSt->Prop),a<=n->(a<=d->Q (.done (none,d,a)) st)->(d<a->∀m,d<=m->m<a->m<=d+(a-d) / 2->d+(a-d) / 2<=m->Q (.yield (if b m=true then (none,m+1,a) else (none,d,m))) st)->wpS (model prog w) A E s (f x (none,d,a)) Q st)
  (mono:∀i j,i<j->j<n->b j=true->b i=true) {d a:Nat} (p:d<=a) (k:a<=n) (l:∀i,i<d->b i=true) (o:∀i,a<=i->i<n->b i=false) :
  wpS (model prog w) A E s (forIn [0:n] ((none,d,a):Option (Option Nat)×Nat×Nat) f) (λc g=>g=st/\∃r,c=(none,r,r)/\r<=n/\(∀i,i<r->b i=true)/\∀i,r<=i->i<n->b i=false) st:=by
 refine wpS_forRange (I:=λx c g=>g=st/\∃d a,c=(none,d,a)/\d<=a/\a<=n/\a-d<=n-x/\(∀i,i<d->b i=true)/\∀i,a<=i->i<n->b i=false) ?_ ?_ ⟨rfl,d,a,rfl,p,k,by omega,l,o⟩
 .rintro x c g _ C ⟨rfl,d,a,rfl,p,k,B,l,o⟩;refine y x d a _ k (λh=>⟨rfl,a,by rw[show d=a by omega],k,by rw[<-show d=a by omega];exact l,o⟩) λh m v F D H=>?_;cases e:b m with
  |true=>
   rw[aR rfl];refine⟨rfl,m+1,a,rfl,by omega,k,by omega,λi t=>?_,o⟩;by_cases q:i=m
   .rw[q];exact e
   .exact mono i m (by omega) (by omega) e
  |false=>
   rw[aS (by decide)];refine⟨rfl,d,m,rfl,v,by omega,by omega,l,λi t u=>?_⟩;by_cases q:i=m
   .rw[q];exact e
   .cases z:b i with
    |false=>rfl
    |true=>rw[mono m i (by omega) u z]at e;cases e
 .rintro c g ⟨rfl,d,a,rfl,p,k,B,l,o⟩;have e:d=a:=by omega
  exact⟨rfl,a,by rw[e],k,by rw[<-e];exact l,o⟩
theorem uP(a:sN prog w A E s κ I L){left:Bool}{u:Keyed}{B:Array Keyed}{t n d:Nat}{st:SortSt}{Q:Option Nat->SortSt->Prop}(N:kindOf st=κ)(hk:I u){b:Nat->Bool}
  (X:∀i,i<n->∃x,B[t+i]? = some x/\I x/\b i=bv L left u x) (mono:∀i j,i<j->j<n->b j=true->b i=true) (P:d<n)
  (h:∀r,r<=n->(∀i,i<r->b i=true)->(∀i,r<=i->i<n->b i=false)->Q (some r) st):wpS (model prog w) A E s (Ts left u B t n d) Q st:=by
 have y:∀i,i<n->∀Q:Option Bool->SortSt->Prop,Q (some (b i)) st->wpS (model prog w) A E s (elem' B (t+i) >>= λx=>if left=true then lt' x u else lt' u x >>= λr=>pure (r.map λz=>!z)) Q st:=λi o Q q=>by obtain⟨x,e,Z,Y⟩:=X i o;exact Q7 a e Z hk N (by rw[<-Y];exact q)
 refine wpS_bind (y d P _ ?_);dsimp only;cases R:b d with
 |true=>
  rw[aR rfl];refine wpS_bind (wpS_mono (wpS_forRange (I:=λx c g=>g=st/\∃f of,c=(none,f,of)/\f<of/\d+f<n/\b (d+f)=true/\x+1<=of) (Q:=λc g=>g=st/\∃f of,c=(none,f,of)/\f<of/\d+f<n/\b (d+f)=true/\(n<=d+of\/b (d+of)=false)) ?_ ?_ ⟨rfl,0,1,rfl,by decide,P,R,aL _⟩) ?_)
  .rintro x c g _ U ⟨rfl,f,of,rfl,v,p,l,k⟩;by_cases q:of >= n-d
   .rw[aR q];exact wpS_pure ⟨rfl,f,of,rfl,v,p,l,.inl (by omega)⟩
   .rw[aS q];refine wpS_bind (y (d+of) (by omega) _ ?_);dsimp only;cases e:b (d+of) with
    |true=>rw[aS (by decide)];exact wpS_pure ⟨rfl,of,2*of+1,rfl,by omega,by omega,e,by omega⟩
    |false=>rw[aR (by decide)];exact wpS_pure ⟨rfl,f,of,rfl,v,p,l,.inr e⟩
  .rintro c g ⟨rfl,f,of,rfl,v,p,l,k⟩;exact⟨rfl,f,of,rfl,v,p,l,.inl (by omega)⟩
  .rintro c g ⟨rfl,f,of,rfl,v,p,l,k⟩;dsimp only;refine wpS_bind (wpS_mono (BK (b:=b) ?_ mono (by omega) (by omega) (λi o=>?_) (λi o C=>?_)) ?_)
   .intro x m o Q S J H;by_cases q:m >= o
    .rw[aR q];exact wpS_pure (J q)
    .rw[aS q];refine wpS_bind (y (m+(o-m) / 2) (by omega) _ ?_);dsimp only;have z:=H (by omega) (m+(o-m) / 2) (by omega) (by omega) (aL _) (aL _);cases e:b (m+(o-m) / 2) with
     |true=>rw[e,aR rfl]at z;rw[aR rfl];exact wpS_pure z
     |false=>rw[e,aS (by decide)]at z;rw[aS (by decide)];exact wpS_pure z
   .by_cases q:i=d+f
    .rw[q];exact l
    .exact mono i (d+f) (by omega) p l
   .rcases k with k|k
    .omega
    .cases z:b i with
     |false=>rfl
     |true=>
      by_cases q:i=d+of
      .rw[q,k]at z;cases z
      .rw[mono (d+of) i (by omega) C z]at k;cases k
   .rintro c g ⟨rfl,r,rfl,F,D,K⟩;exact wpS_pure (h r F D K)
 |false=>
  rw[aS (by decide)];refine wpS_bind (wpS_mono (wpS_forRange (I:=λx c g=>g=st/\∃f of,c=(none,f,of)/\f<of/\f<=d/\b (d-f)=false/\x+1<=of) (Q:=λc g=>g=st/\∃f of,c=(none,f,of)/\f<of/\f<=d/\b (d-f)=false/\(d+1<=of\/b (d-of)=true)) ?_ ?_ ⟨rfl,0,1,rfl,by decide,bL _,R,aL _⟩) ?_)
  .rintro x c g _ U ⟨rfl,f,of,rfl,v,p,l,k⟩;by_cases q:of >= d+1
   .rw[aR q];exact wpS_pure ⟨rfl,f,of,rfl,v,p,l,.inl (by omega)⟩
   .rw[aS q];refine wpS_bind (y (d-of) (by omega) _ ?_);dsimp only;cases e:b (d-of) with
    |true=>rw[aR rfl];exact wpS_pure ⟨rfl,f,of,rfl,v,p,l,.inr e⟩
    |false=>rw[aS (by decide)];exact wpS_pure ⟨rfl,of,2*of+1,rfl,by omega,by omega,e,by omega⟩
  .rintro c g ⟨rfl,f,of,rfl,v,p,l,k⟩;exact⟨rfl,f,of,rfl,v,p,l,.inl (by omega)⟩
  .rintro c g ⟨rfl,f,of,rfl,v,p,l,k⟩;dsimp only;refine wpS_bind (wpS_mono (BK (b:=b) ?_ mono (by omega) (by omega) (λi o=>?_) (λi o C=>?_)) ?_)
   .intro x m o Q S J H;by_cases q:m >= o
    .rw[aR q];exact wpS_pure (J q)
    .rw[aS q];refine wpS_bind (y (m+(o-m) / 2) (by omega) _ ?_);dsimp only;have z:=H (by omega) (m+(o-m) / 2) (by omega) (by omega) (aL _) (aL _);cases e:b (m+(o-m) / 2) with
     |true=>rw[e,aR rfl]at z;rw[aR rfl];exact wpS_pure z
     |false=>rw[e,aS (by decide)]at z;rw[aS (by decide)];exact wpS_pure z
   .rcases k with k|k
    .omega
    .by_cases q:i=d-of
     .rw[q];exact k
     .exact mono i (d-of) (by omega) (by omega) k
   .cases z:b i with
    |false=>rfl
    |true=>
     by_cases q:i=d-f
     .rw[q,l]at z;cases z
     .rw[mono (d-f) i (by omega) C z]at l;cases l
   .rintro c g ⟨rfl,r,rfl,F,D,K⟩;exact wpS_pure (h r F D K)
end
end L2
namespace L2
open PySem PyProof.Rows
section
variable {I:Keyed->Prop}{L:Keyed->Keyed->Bool}
structure sU(I:Keyed->Prop)(L:Keyed->Keyed->Bool):Prop where
 as:∀x y,I x->I y->L x y=true->L y x=false
 tr:∀x y z,I x->I y->I z->L y x=false->L z y=false->L z x=false
abbrev jq(L:Keyed->Keyed->Bool)(x y:Keyed):Prop:=L y x=false
structure MI(L:Keyed->Keyed->Bool)(xs ys out:Array Keyed)(ia ib:Nat):Prop where
 p:(out.toList++(xs.toList.drop ia++ys.toList.drop ib)).Perm (xs.toList++ys.toList)
 so:out.toList.Pairwise (jq L)
 cr:∀o∈out.toList,∀z∈xs.toList.drop ia++ys.toList.drop ib,jq L o z
def MR(L:Keyed->Keyed->Bool)(xs ys r:Array Keyed):Prop:=r.toList.Perm (xs.toList++ys.toList)/\r.toList.Pairwise (jq L)
section
variable {xs ys out:Array Keyed}{ia ib k:Nat}
def MI.pushY(h:MI L xs ys out ia ib)(f:ib<ys.size)(j:ys.toList.Pairwise (jq L))(g:∀z∈xs.toList.drop ia,jq L ys[ib] z):MI L xs ys (out.push ys[ib]) ia (ib+1):=by
 have c:ib<ys.toList.length:=by simpa using f
 have e:ys.toList.drop ib=ys[ib]::ys.toList.drop (ib+1):=by rw[cS c];simp
 have d:=j.drop (i:=ib);rw[e]at d;refine⟨?_,?_,λo a z b=>?_⟩
 .have p:=h.p;rw[e]at p;rw[cT,bZ];have m:([ys[ib]]++(xs.toList.drop ia++ys.toList.drop (ib+1))).Perm (xs.toList.drop ia++ys[ib]::ys.toList.drop (ib+1)):=by show (ys[ib]::(xs.toList.drop ia++ys.toList.drop (ib+1))).Perm _;exact cU.symm
  exact (List.Perm.append_left _ m).trans p
 .rw[cT,cV];exact⟨h.so,cW _ _,λo a z b=>by rw[aj.mp b];exact h.cr o a _ (by rw[e];simp)⟩
 .rw[cT]at a;rcases ai.mp a with q|q
  .refine h.cr o q z ?_;rw[e];rcases ai.mp b with w|w
   .exact ay _ w
   .exact bF _ (bx _ w)
  .rw[aj.mp q];rcases ai.mp b with w|w
   .exact g z w
   .exact (cX.mp d).1 z w
def MI.pushX(h:MI L xs ys out ia ib)(j:ia<xs.size)(f:xs.toList.Pairwise (jq L))(g:∀z∈ys.toList.drop ib,jq L xs[ia] z):MI L xs ys (out.push xs[ia]) (ia+1) ib:=by
 have c:ia<xs.toList.length:=by simpa using j
 have e:xs.toList.drop ia=xs[ia]::xs.toList.drop (ia+1):=by rw[cS c];simp
 have d:=f.drop (i:=ia);rw[e]at d;refine⟨?_,?_,λo a z b=>?_⟩
 .have p:=h.p;rw[e]at p;rw[cT,bZ];exact p
 .rw[cT,cV];exact⟨h.so,cW _ _,λo a z b=>by rw[aj.mp b];exact h.cr o a _ (by rw[e];simp)⟩
 .rw[cT]at a;rcases ai.mp a with q|q
  .refine h.cr o q z ?_;rw[e];rcases ai.mp b with w|w
   .exact ay _ (bx _ w)
   .exact bF _ w
  .rw[aj.mp q];rcases ai.mp b with w|w
   .exact (cX.mp d).1 z w
   .exact g z w
def v8{zs:Array Keyed}{i k:Nat}(h:i+k<zs.size):zs.extract i (i+(k+1))=(zs.extract i (i+k)).push zs[i+k]:=by apply cY.mp;rw[cT,cZ,cZ,c5,c5];rw[show i+(k+1)-i=k+1 by omega,show i+k-i=k by omega,c6];congr 1;rw[List.getElem?_drop,ag (by simpa using h)];simp
def vX{zs:Array Keyed}{i:Nat}:zs.extract i i = #[]:=by apply cY.mp;rw[cZ,c5,c7,c8]
theorem MI.extX(h:MI L xs ys out ia ib)(a:xs.toList.Pairwise (jq L)):∀k,(d:ia+k<=xs.size)->(∀i (b:i<k),∀z∈ys.toList.drop ib,jq L (xs[ia+i]'(by omega)) z)->MI L xs ys (out++xs.extract ia (ia+k)) (ia+k) ib
 |0,_,_=>by rw[c9,vX,dc];exact h
 |k+1,d,hl=>by have c:=h.extX a k (by omega) λi b=>hl i (by omega);have:=c.pushX (by omega) a (hl k (by omega));rw[v8 (by omega),de];exact this
theorem MI.extY(h:MI L xs ys out ia ib)(a:ys.toList.Pairwise (jq L)):∀k,(d:ib+k<=ys.size)->(∀i (b:i<k),∀z∈xs.toList.drop ia,jq L (ys[ib+i]'(by omega)) z)->MI L xs ys (out++ys.extract ib (ib+k)) ia (ib+k)
 |0,_,_=>by rw[c9,vX,dc];exact h
 |k+1,d,hl=>by have c:=h.extY a k (by omega) λi b=>hl i (by omega);have:=c.pushY (by omega) a (hl k (by omega));rw[v8 (by omega),de];exact this
def qX{zs:Array Keyed}(i:Nat):(zs.extract i).toList=zs.toList.drop i:=by rw[cZ,c5];exact cG (by simp)
def MI.doneY(h:MI L xs ys out ia ib)(a:xs.toList.Pairwise (jq L))(e:ib=ys.size):MR L xs ys (out++xs.extract ia++ys.extract ib):=by have z:ys.toList.drop ib=[]:=dg (by simp[e]);unfold MR;rw[cO,cO,qX,qX,z,bM];have p:=h.p;have c:=h.cr;rw[z,bM]at p c;exact⟨p,cV.mpr ⟨h.so,a.drop,c⟩⟩
def MI.doneX(h:MI L xs ys out ia ib)(a:ys.toList.Pairwise (jq L))(e:ia=xs.size):MR L xs ys (out++xs.extract ia++ys.extract ib):=by have z:xs.toList.drop ia=[]:=dg (by simp[e]);unfold MR;rw[cO,cO,qX,qX,z,bM];have p:=h.p;have c:=h.cr;rw[z,cj]at p c;exact⟨p,cV.mpr ⟨h.so,a.drop,c⟩⟩
def MI.last(h:MI L xs ys out ia ib)(g:ys.toList.Pairwise (jq L))(e:ia+1=xs.size)(c:∀z∈ys.toList,jq L z (xs[ia]'(by omega))):MR L xs ys (out++ys.extract ib++xs.extract ia):=by
 have f:ia<xs.toList.length:=by simp;omega
 have z:xs.toList.drop ia=[xs[ia]'(by omega)]:=by rw[cS f,dg (by simp;omega)];simp
 unfold MR;rw[cO,cO,qX,qX,bZ];refine⟨(List.Perm.append_left _ dh).trans h.p,cV.mpr ⟨h.so,cV.mpr ⟨g.drop,?_,λy b x a=>?_⟩,λo d x a=>h.cr o d x ((ai.mp a).elim (λq=>bF _ q) λq=>ay _ q)⟩⟩
 .rw[z];exact cW _ _
 .rw[z]at a;rw[aj.mp a];exact c y (dq b)
end
end
end L2
namespace L2
open PySem PyProof.Rows
def V8:Array Keyed->Array Keyed->StateT SortSt Sem (Array Keyed):=sortPriv% PySem.Builtin.mergeLo
def U5:Nat->StateT SortSt Sem Unit:=sortPriv% PySem.Builtin.setMinGallop
section
variable {prog:Program}{w:World}{A:Around}{E:Value->Shared->Prop}{s:Shared}{κ:SortKind}{I:Keyed->Prop}{L:Keyed->Keyed->Bool}
def SG(st a:SortSt):Prop:=kindOf a=kindOf st/\arrOf a=arrOf st/\pendingOf a=pendingOf st/\failedOf a=failedOf st
def SG.refl(st:SortSt):SG st st:=⟨rfl,rfl,rfl,rfl⟩
def AZ{st:SortSt}{g:Nat}{Q:Unit->SortSt->Prop}(h:∀a,SG st a->Q () a):wpS (model prog w) A E s (U5 g) Q st:=wpS_modify (h _ ⟨rfl,rfl,rfl,rfl⟩)
def SG.trans{a b c:SortSt}(x:SG a b)(y:SG b c):SG a c:=⟨y.1.trans x.1,y.2.1.trans x.2.1,y.2.2.1.trans x.2.2.1,y.2.2.2.trans x.2.2.2⟩
def lC{xs:Array Keyed}{i:Nat}{st:SortSt}{Q:Keyed->SortSt->Prop}(h:i<xs.size)(q:Q xs[i] st):wpS (model prog w) A E s (elem' xs i) Q st:=by rw[elem'_eq,getElem?_pos xs i h];exact wpS_pure q
def yI{zs:Array Keyed}(a:∀z∈zs.toList,I z){i:Nat}{z:Keyed}(h:z∈zs.toList.drop i):I z:=a z (dq h)
def yY{zs:Array Keyed}(sz:zs.toList.Pairwise (jq L)){i:Nat}(c:i<zs.size){z:Keyed}(h:z∈zs.toList.drop i):z=zs[i]\/jq L zs[i] z:=by
 have a:i<zs.toList.length:=by simpa using c
 have b:=sz.drop (i:=i);rw[cS a]at b h;rcases aG.mp h with q|q
 .exact .inl (by rw[q];simp)
 .exact .inr (by have:=(cX.mp b).1 z q;simpa using this)
def qV{zs:Array Keyed}(sz:zs.toList.Pairwise (jq L)){i j:Nat}(h:i<j)(a:j<zs.size):jq L (zs[i]'(by omega)) zs[j]:=by have:=du.mp sz i j (by simp;omega) (by simpa using a) h;simpa using this
section
variable {xs ys:Array Keyed}
def Os(a:sN prog w A E s κ I L)(o:sU I L)(m:∀z∈xs.toList,I z)(n:∀z∈ys.toList,I z)(i:xs.toList.Pairwise (jq L))(p:ys.toList.Pairwise (jq L)){out:Array Keyed}{b c:Nat}(h:MI L xs ys out b c)(l:b<xs.size)(j:c<ys.size) :
  (L ys[c] xs[b]=true->MI L xs ys (out.push ys[c]) b (c+1))/\(L ys[c] xs[b]=false->MI L xs ys (out.push xs[b]) (b+1) c):=by
 have g:I xs[b]:=m _ (by simp);have f:I ys[c]:=n _ (by simp);constructor
 .intro e;refine h.pushY j p λz d=>?_;have k:jq L ys[c] xs[b]:=o.as _ _ f g e;rcases yY i l d with q|q
  .rw[q];exact k
  .exact o.tr _ _ _ f g (yI m d) k q
 .intro e;refine h.pushX l i λz d=>?_;rcases yY p j d with q|q
  .rw[q];exact e
  .exact o.tr _ _ _ g f (yI n d) e q
def Qu(a:sN prog w A E s κ I L)(o:sU I L)(x:∀z∈xs.toList,I z)(y:∀z∈ys.toList,I z)(t:xs.toList.Pairwise (jq L))(F:ys.toList.Pairwise (jq L)){out:Array Keyed}{c d:Nat}(h:MI L xs ys out c d)(K:c<xs.size)(B:d<ys.size){st:SortSt}(u:kindOf st=κ){Q:Option Nat->SortSt->Prop}
  (q:∀k,c+k<=xs.size->MI L xs ys (out++xs.extract c (c+k)) (c+k) d->(∀z∈xs.toList.drop (c+k),jq L ys[d] z)->Q (some k) st):wpS (model prog w) A E s (Ts false ys[d] xs c (xs.size-c) 0) Q st:=by
 have m:I ys[d]:=y _ (by simp);have g:∀i (n:i<xs.size),I xs[i]:=λi n=>x _ (by simp);refine uP a (b:=λi=>if n:c+i<xs.size then !(L ys[d] xs[c+i]) else false) u m (λi n=>⟨xs[c+i]'(by omega),getElem?_pos xs _ (by omega),g _ (by omega),by rw[dif_pos (by omega)];rfl⟩) (λi j H N e=>?_) (by omega) λr J C D=>?_
 .rw[dif_pos (by omega)]at e ⊢;have l:L ys[d] (xs[c+j]'(by omega))=false:=by simpa using e
  have:=o.tr _ _ _ (g (c+i) (by omega)) (g (c+j) (by omega)) m (qV t (show c+i<c+j by omega) (by omega)) l;simp[this]
 .refine q r (by omega) (h.extX t r (by omega) λi n z f=>?_) λz f=>?_
  .have e:=C i n;rw[dif_pos (by omega)]at e;have l:L ys[d] (xs[c+i]'(by omega))=false:=by simpa using e
   rcases yY F B f with w|w
   .rw[w];exact l
   .exact o.tr _ _ _ (g _ (by omega)) m (yI y f) l w
  .have p:c+r<xs.size:=by have:=dy f;simp at this;omega
   have e:=D r (aL _) (by omega);rw[dif_pos p]at e;have l:L ys[d] xs[c+r]=true:=by simpa using e
   have v:=o.as _ _ m (g _ p) l;rcases yY t p f with w|w
   .rw[w];exact v
   .exact o.tr _ _ _ m (g _ p) (yI x f) v w
theorem Qf(a:sN prog w A E s κ I L)(o:sU I L)(v:∀z∈xs.toList,I z)(x:∀z∈ys.toList,I z)(y:xs.toList.Pairwise (jq L))(t:ys.toList.Pairwise (jq L)){out:Array Keyed}{d c:Nat}(h:MI L xs ys out d c)(C:d<xs.size)(H:c<ys.size){st:SortSt}(p:kindOf st=κ){Q:Option Nat->SortSt->Prop}
  (q:∀k,c+k<=ys.size->MI L xs ys (out++ys.extract c (c+k)) d (c+k)->(∀z∈ys.toList.drop (c+k),jq L xs[d] z)->Q (some k) st):wpS (model prog w) A E s (Ts true xs[d] ys c (ys.size-c) 0) Q st:=by
 have m:I xs[d]:=v _ (by simp);have f:∀i (l:i<ys.size),I ys[i]:=λi l=>x _ (by simp);refine uP a (b:=λi=>if l:c+i<ys.size then L ys[c+i] xs[d] else false) p m (λi l=>⟨ys[c+i]'(by omega),getElem?_pos ys _ (by omega),f _ (by omega),by rw[dif_pos (by omega)];rfl⟩) (λi j F K e=>?_) (by omega) λr J B D=>?_
 .rw[dif_pos (by omega)]at e ⊢;cases z:L (ys[c+i]'(by omega)) xs[d] with
  |true=>rfl
  |false=>have:=o.tr _ _ _ m (f (c+i) (by omega)) (f (c+j) (by omega)) z (qV t (show c+i<c+j by omega) (by omega));rw[this]at e;cases e
 .refine q r (by omega) (h.extY t r (by omega) λi l z g=>?_) λz g=>?_
  .have e:=B i l;rw[dif_pos (by omega)]at e;have u:=o.as _ _ (f (c+i) (by omega)) m e;rcases yY y C g with w|w
   .rw[w];exact u
   .exact o.tr _ _ _ (f _ (by omega)) m (yI v g) u w
  .have n:c+r<ys.size:=by have:=dy g;simp at this;omega
   have e:=D r (aL _) (by omega);rw[dif_pos n]at e;rcases yY t n g with w|w
   .rw[w];exact e
   .exact o.tr _ _ _ m (f _ n) (yI x g) e w
end
end
end L2
namespace L2
open PySem PyProof.Rows
section
variable {prog:Program}{w:World}{A:Around}{E:Value->Shared->Prop}{s:Shared}{κ:SortKind}{I:Keyed->Prop}{L:Keyed->Keyed->Bool}{xs ys:Array Keyed}
def VA{g i e f ρ:Type}{S:Prop}{K:g->i->e->f->Prop}{G:ρ×g×i×e×f->Prop}{n:ρ}(h:S->∀a b c d,K a b c d->G (n,a,b,c,d)):∀u,(S/\∃a b c d,u=(n,a,b,c,d)/\K a b c d)->G u:=by rintro _ ⟨s,a,b,c,d,rfl,k⟩;exact h s a b c d k
def Vr{i l f g j ρ:Type}{S:Prop}{K:i->l->f->g->j->Prop}{G:ρ×i×l×f×g×j->Prop}{n:ρ}(h:S->∀a b c d e,K a b c d e->G (n,a,b,c,d,e)):∀u,(S/\∃a b c d e,u=(n,a,b,c,d,e)/\K a b c d e)->G u:=by rintro _ ⟨s,a,b,c,d,e,rfl,k⟩;exact h s a b c d e k
def Vt{l o g i m j ρ:Type}{S:Prop}{K:l->o->g->i->m->j->Prop}{G:ρ×l×o×g×i×m×j->Prop}{n:ρ}(h:S->∀a b c d e f,K a b c d e f->G (n,a,b,c,d,e,f)):∀u,(S/\∃a b c d e f,u=(n,a,b,c,d,e,f)/\K a b c d e f)->G u:=by rintro _ ⟨s,a,b,c,d,e,f,rfl,k⟩;exact h s a b c d e f k
def Vq{i l f g j ρ:Type}{S:Prop}{R:ρ->Prop}{K:i->l->f->g->j->Prop}{G:Option ρ×i×l×f×g×j->Prop}(m:S->∀r z,R r->G (some r,z))(h:S->∀a b c d e,K a b c d e->G (none,a,b,c,d,e)):∀u,(S/\((∃r z,u=(some r,z)/\R r)\/∃a b c d e,u=(none,a,b,c,d,e)/\K a b c d e))->G u:=by
 rintro _ ⟨s,⟨r,z,rfl,k⟩|⟨a,b,c,d,e,rfl,k⟩⟩
 .exact m s r z k
 .exact h s a b c d e k
def Vu{l n g i m j ρ:Type}{S:Prop}{R:ρ->Prop}{K:l->n->g->i->m->j->Prop}{G:Option ρ×l×n×g×i×m×j->Prop}(o:S->∀r z,R r->G (some r,z))(h:S->∀a b c d e f,K a b c d e f->G (none,a,b,c,d,e,f)):∀u,(S/\((∃r z,u=(some r,z)/\R r)\/∃a b c d e f,u=(none,a,b,c,d,e,f)/\K a b c d e f))->G u:=by
 rintro _ ⟨s,⟨r,z,rfl,k⟩|⟨a,b,c,d,e,f,rfl,k⟩⟩
 .exact o s r z k
 .exact h s a b c d e f k
def kM{c:Type}{Q:c->SortSt->Prop}{st:SortSt}{a b:Nat}{x y:StateT SortSt Sem c}(f:a=b->wpS (model prog w) A E s x Q st)(d:a≠b->wpS (model prog w) A E s y Q st):wpS (model prog w) A E s (if (a==b)=true then x else y) Q st:=by
 split
 .exact f (beq_iff_eq.mp ‹_›)
 .exact d λe=>‹¬_› (beq_iff_eq.mpr e)
def Gg{a:Type}{Q:a->SortSt->Prop}{st:SortSt}{c:Nat->Prop}{i:∀m,Decidable (c m)}{x y:Nat->StateT SortSt Sem a}(e:∀m,x m=y (m-1))(h:∀m,wpS (model prog w) A E s (y m) Q st):∀m,wpS (model prog w) A E s (if c m then x m else y m) Q st:=λm=>by
 split
 .exact e m▸h _
 .exact h _
def Bt{e a d:Type}{Q:e->SortSt->Prop}{st:SortSt}{c:Prop}{i:Decidable c}{x y:a->d->StateT SortSt Sem e}(J:a->d->Prop){b:a}{g:d}(h:∀b g,J b g->wpS (model prog w) A E s (y b g) Q st)(f:¬c->J b g)(j:c->(∀b g,J b g->wpS (model prog w) A E s (y b g) Q st)->wpS (model prog w) A E s (x b g) Q st):∀o,b=o->∀i,g=i->wpS (model prog w) A E s (if c then x o i else y o i) Q st:=by
 rintro _ rfl _ rfl;split
 .exact j ‹_› h
 .exact h _ _ (f ‹_›)
theorem RU(a:sN prog w A E s κ I L)(o:sU I L)(ix:∀z∈xs.toList,I z)(iy:∀z∈ys.toList,I z)(P:xs.toList.Pairwise (jq L))(N:ys.toList.Pairwise (jq L)){st:SortSt}{Q:Array Keyed->SortSt->Prop}(U:kindOf st=κ)(hx:0<xs.size)(hy:0<ys.size)
  (first:∀z∈xs.toList,jq L ys[0] z) (last:∀z∈ys.toList,jq L z (xs[xs.size-1]'(by omega))) (h:∀r f,SG st f->MR L xs ys r->Q r f):wpS (model prog w) A E s (V8 xs ys) Q st:=by
 have t:∀b (e:b+1=xs.size),∀z∈ys.toList,jq L z (xs[b]'(by omega)):=λb e z hz=>by have:=last z hz;simpa only[show xs.size-1=b by omega] using this
 have M0:MI L xs ys #[ys[0]] 0 1:=MI.pushY (out:=#[]) ⟨by simp,by simp,λo ho=>by simp at ho⟩ hy N (by simpa using first);refine wpS_bind (wpS_lift (wpAny_rule ⟨rfl,?_⟩));refine wpS_bind (lC hy ?_);dsimp only;refine kM (λS=>wpS_pure (h _ _ (SG.refl _) (M0.doneY P S))) λS=>?_;refine kM (λX=>wpS_pure (h _ _ (SG.refl _) (M0.last N X (t 0 X)))) λX=>?_;refine wpS_bind (wpS_get ?_);refine wpS_bind (wpS_mono (wpS_forRange (I:=λx c f=>SG st f/\∃out b d H,c=(none,out,b,d,H)/\MI L xs ys out b d/\b+1<xs.size/\d<ys.size/\x+1<=b+d) (Q:=λc f=>SG st f/\∃r y,c=(some r,y)/\MR L xs ys r) ?_ ?_ ⟨SG.refl _,_,_,_,_,rfl,M0,by omega,by omega,by omega⟩) ?_)
 .intro x c p _ hx1;revert c;refine VA λsg out b d H k=>?_;have M:=k.1;have F:=k.2.1;have l:=k.2.2.1;have B:=k.2.2.2;dsimp only;refine wpS_bind (wpS_mono (wpS_forRange (I:=λy c f=>SG st f/\∃out b d C D,c=(none,out,b,d,C,D)/\MI L xs ys out b d/\b+1<xs.size/\d<ys.size/\x+1+y<=b+d) (Q:=λc f=>SG st f/\((∃r z,c=(some r,z)/\MR L xs ys r)\/∃out b d C D,c=(none,out,b,d,C,D)/\MI L xs ys out b d/\b+1<xs.size/\d<ys.size/\x+2<=b+d)) ?_ ?_ ⟨sg,_,_,_,_,_,rfl,M,F,l,by omega⟩) ?_)
  .intro y c p _ hy1;revert c;refine Vr λsg out b d C D k=>?_;have M:=k.1;have F:=k.2.1;have l:=k.2.2.1;have B:=k.2.2.2;dsimp only;refine wpS_bind (lC l (wpS_bind (lC (show b<xs.size by omega) ?_)));refine wpS_bind (a.ask _ _ _ _ (iy _ (by simp)) (ix _ (by simp)) (sg.1.trans U) ?_);dsimp only;obtain⟨m1,m2⟩:=Os a o ix iy P N M (by omega) l;cases e:L ys[d] (xs[b]'(by omega)) with
   |true=>
    rw[aR rfl];have R:=m1 e;refine wpS_bind (lC l ?_);refine kM (λK=>wpS_pure ⟨sg,.inl ⟨_,_,rfl,R.doneY P K⟩⟩) λK=>?_;split
    .exact wpS_pure ⟨sg,.inr ⟨_,_,_,_,_,rfl,R,by omega,by omega,by omega⟩⟩
    .exact wpS_pure ⟨sg,_,_,_,_,_,rfl,R,by omega,by omega,by omega⟩
   |false=>
    rw[aS (by decide)];have R:=m2 e;refine wpS_bind (lC (show b<xs.size by omega) ?_);refine kM (λK=>wpS_pure ⟨sg,.inl ⟨_,_,rfl,R.last N K (t _ K)⟩⟩) λK=>?_;split
    .exact wpS_pure ⟨sg,.inr ⟨_,_,_,_,_,rfl,R,by omega,by omega,by omega⟩⟩
    .exact wpS_pure ⟨sg,_,_,_,_,_,rfl,R,by omega,by omega,by omega⟩
  .rintro c p ⟨sg,out,b,d,C,D,rfl,M,F,l,B⟩;omega
  .intro c p;revert c;refine Vq (λsg r z mr=>wpS_pure ⟨sg,r,_,rfl,mr⟩) λsg out b d C D k=>?_;have M:=k.1;have F:=k.2.1;have l:=k.2.2.1;have B:=k.2.2.2;dsimp only;refine wpS_bind (wpS_lift (wpAny_rule ⟨rfl,?_⟩));refine wpS_bind (wpS_mono (wpS_forRange (I:=λy c f=>SG st f/\∃out b d H C D,c=(none,out,b,d,H,C,D)/\MI L xs ys out b d/\b+1<xs.size/\d<ys.size/\x+2+y<=b+d) (Q:=λc f=>SG st f/\((∃r z,c=(some r,z)/\MR L xs ys r)\/∃out b d H C D,c=(none,out,b,d,H,C,D)/\MI L xs ys out b d/\b+1<xs.size/\d<ys.size/\x+2<=b+d)) ?_ ?_ ⟨sg,_,_,_,_,_,_,rfl,M,F,l,by omega⟩) ?_)
   .intro y c p _ hy1;revert c;refine Vt λsg out b d H C D k=>?_;have M:=k.1;have F:=k.2.1;have l:=k.2.2.1;have B:=k.2.2.2;dsimp only;revert H;refine Gg (λ_=>rfl) λm=>?_;refine wpS_bind (AZ λst2 g=>wpS_bind (lC l ?_));replace g:=sg.trans g;refine wpS_bind (Qu a o ix iy P N M (by omega) l (g.1.trans U) λk kk Y Z=>?_);dsimp only;generalize ho:out=v;generalize hi:b=i;revert v i;refine Bt (λu i=>MI L xs ys u i d/\(∀z∈xs.toList.drop i,jq L ys[d] z)/\i+1<xs.size/\x+2+y<=i+d) (λu i q=>?_) (λhk=>?_) λhk J=>?_
    .have Y:=q.1;have Z:=q.2.1;have F:=q.2.2.1;have B:=q.2.2.2;refine wpS_bind (lC l ?_);have M2:=Y.pushY l N Z;refine kM (λK=>wpS_pure ⟨g,.inl ⟨_,_,rfl,M2.doneY P K⟩⟩) λK=>?_;refine wpS_bind (lC (show i<xs.size by omega) ?_);have l:d+1<ys.size:=by omega
     have B:x+3+y<=i+(d+1):=by omega
     revert M2 l B;clear K Y Z;generalize u.push ys[d]=v,d+1=j;intro M2 l B;refine wpS_bind (Qf a o ix iy P N M2 (by omega) l (g.1.trans U) λk' kk' M3 l3=>?_);dsimp only;generalize ho:v=n;generalize hi:j=i;revert n i;refine Bt (λu j=>MI L xs ys u i j/\(∀z∈ys.toList.drop j,jq L (xs[i]'(by omega)) z)/\j<ys.size/\x+3+y<=i+j) (λu j q=>?_) (λhk=>?_) λhk J=>?_
     .have M3:=q.1;have l3:=q.2.1;have l:=q.2.2.1;have B:=q.2.2.2;refine wpS_bind (lC (show i<xs.size by omega) ?_);have M4:=M3.pushX (by omega) P l3;refine kM (λe5=>wpS_pure ⟨g,.inl ⟨_,_,rfl,M4.last N e5 (t _ e5)⟩⟩) λe5=>?_;split
      .exact wpS_pure ⟨g,.inr ⟨_,_,_,_,_,_,rfl,M4,by omega,by omega,by omega⟩⟩
      .exact wpS_pure ⟨g,_,_,_,_,_,_,rfl,M4,by omega,by omega,by omega⟩
     .have z0:k'=0:=by omega
      subst z0;exact⟨M2,l3,l,B⟩
     .by_cases e4:j+k'=ys.size
      .rw[aR (beq_iff_eq.mpr e4)];exact wpS_pure ⟨g,.inl ⟨_,_,rfl,M3.doneY P e4⟩⟩
      rw[aS λz=>e4 (beq_iff_eq.mp z)];exact J _ _ ⟨M3,l3,by omega,by omega⟩
    .have z0:k=0:=by omega
     subst z0;exact⟨M,Z,F,B⟩
    .by_cases S:b+k+1=xs.size
     .rw[aR (beq_iff_eq.mpr S)];exact wpS_pure ⟨g,.inl ⟨_,_,rfl,Y.last N S (t _ S)⟩⟩
     rw[aS λz=>S (beq_iff_eq.mp z)];refine kM (λX=>wpS_pure ⟨g,.inl ⟨_,_,rfl,Y.doneX N X⟩⟩) λX=>?_;exact J _ _ ⟨Y,Z,by omega,by omega⟩
   .rintro c p ⟨sg,out,b,d,H,C,D,rfl,M,F,l,B⟩;omega
   .intro c p;revert c;refine Vu (λsg r z mr=>wpS_pure ⟨sg,r,_,rfl,mr⟩) λsg out b d H C D k=>?_;have M:=k.1;have F:=k.2.1;have l:=k.2.2.1;have B:=k.2.2.2;dsimp only;refine wpS_bind (AZ λst2 g=>?_);exact wpS_pure ⟨sg.trans g,_,_,_,_,rfl,M,F,l,by omega⟩
 .rintro c p ⟨sg,out,b,d,H,rfl,M,F,l,B⟩;omega
 .rintro c p ⟨sg,r,y,rfl,mr⟩;exact wpS_pure (h r p sg mr)
end
end L2
namespace L2
open PySem PyProof.Rows
def VX:Array Keyed->Array Keyed->StateT SortSt Sem (Array Keyed):=sortPriv% PySem.Builtin.mergeHi
section
variable {I:Keyed->Prop}{L:Keyed->Keyed->Bool}
structure MH(L:Keyed->Keyed->Bool)(xs ys out:Array Keyed)(na nb:Nat):Prop where
 p:(xs.toList.take na++ys.toList.take nb++out.toList.reverse).Perm (xs.toList++ys.toList)
 so:out.toList.reverse.Pairwise (jq L)
 cr:∀z∈xs.toList.take na++ys.toList.take nb,∀o∈out.toList.reverse,jq L z o
section
variable {xs ys out:Array Keyed}{na nb k:Nat}
def AE{zs:Array Keyed}{n:Nat}(h:n<zs.size):zs.toList.take (n+1)=zs.toList.take n++[zs[n]]:=by rw[c6,ag (by simpa using h)];simp
def MH.pushX(h:MH L xs ys out (na+1) nb)(g:na<xs.size)(d:xs.toList.Pairwise (jq L))(f:∀z∈ys.toList.take nb,jq L z xs[na]):MH L xs ys (out.push xs[na]) na nb:=by
 have e:=AE g;have c:=d.take (i:=na+1);rw[e,cV]at c;refine⟨?_,?_,λz b o a=>?_⟩
 .have p:=h.p;rw[e]at p;rw[cT,dz];have m:(xs.toList.take na++ys.toList.take nb++([xs[na]].reverse++out.toList.reverse)).Perm (xs.toList.take na++[xs[na]]++ys.toList.take nb++out.toList.reverse):=by rw[bZ,bZ,bZ];refine List.Perm.append_left _ ?_;show (ys.toList.take nb++xs[na]::out.toList.reverse).Perm (xs[na]::(ys.toList.take nb++out.toList.reverse));exact cU
  exact m.trans p
 .rw[cT,dz];show (xs[na]::out.toList.reverse).Pairwise _;exact cX.mpr ⟨λz b=>h.cr _ (by rw[e];simp) z b,h.so⟩
 .rw[cT,dz]at a;have a:o∈xs[na]::out.toList.reverse:=a;rcases aG.mp a with q|q
  .rw[q];rcases ai.mp b with w|w
   .exact c.2.2 z w _ (by simp)
   .exact f z w
  .refine h.cr z ?_ o q;rcases ai.mp b with w|w
   .exact ay _ (by rw[e];exact ay _ w)
   .exact bF _ w
def MH.pushY(h:MH L xs ys out na (nb+1))(d:nb<ys.size)(g:ys.toList.Pairwise (jq L))(f:∀z∈xs.toList.take na,jq L z ys[nb]):MH L xs ys (out.push ys[nb]) na nb:=by
 have e:=AE d;have c:=g.take (i:=nb+1);rw[e,cV]at c;refine⟨?_,?_,λz b o a=>?_⟩
 .have p:=h.p;rw[e]at p;rw[cT,dz];have m:xs.toList.take na++ys.toList.take nb++([ys[nb]].reverse++out.toList.reverse)=xs.toList.take na++(ys.toList.take nb++[ys[nb]])++out.toList.reverse:=by simp
  rw[m];exact p
 .rw[cT,dz];show (ys[nb]::out.toList.reverse).Pairwise _;exact cX.mpr ⟨λz b=>h.cr _ (by rw[e];simp) z b,h.so⟩
 .rw[cT,dz]at a;have a:o∈ys[nb]::out.toList.reverse:=a;rcases aG.mp a with q|q
  .rw[q];rcases ai.mp b with w|w
   .exact f z w
   .exact c.2.2 z w _ (by simp)
  .refine h.cr z ?_ o q;rcases ai.mp b with w|w
   .exact ay _ w
   .exact bF _ (by rw[e];exact ay _ w)
def Gc{zs out:Array Keyed}{i k:Nat}(h:i+k<zs.size):out++(zs.extract i (i+(k+1))).reverse=out.push zs[i+k]++(zs.extract i (i+k)).reverse:=by rw[v8 h];apply cY.mp;rw[cO,cO,dA,dA,cT,cT,dz,bZ];rfl
theorem MH.extX{at_:Nat}(a:xs.toList.Pairwise (jq L)):∀(k:Nat) (out:Array Keyed),MH L xs ys out (at_+k) nb->(c:at_+k<=xs.size)->(∀i (b:i<k),∀z∈ys.toList.take nb,jq L z (xs[at_+i]'(by omega)))->MH L xs ys (out++(xs.extract at_ (at_+k)).reverse) at_ nb
 |0,out,h,_,_=>by rw[c9]at h ⊢;rw[vX];simpa using h
 |k+1,out,h,c,hl=>by rw[Gc (by omega)];exact MH.extX a k _ (MH.pushX (na:=at_+k) h (by omega) a (hl k (by omega))) (by omega) λi b=>hl i (by omega)
theorem MH.extY{at_:Nat}(a:ys.toList.Pairwise (jq L)):∀(k:Nat) (out:Array Keyed),MH L xs ys out na (at_+k)->(c:at_+k<=ys.size)->(∀i (b:i<k),∀z∈xs.toList.take na,jq L z (ys[at_+i]'(by omega)))->MH L xs ys (out++(ys.extract at_ (at_+k)).reverse) na at_
 |0,out,h,_,_=>by rw[c9]at h ⊢;rw[vX];simpa using h
 |k+1,out,h,c,hl=>by rw[Gc (by omega)];exact MH.extY a k _ (MH.pushY (nb:=at_+k) h (by omega) a (hl k (by omega))) (by omega) λi b=>hl i (by omega)
def A2{zs:Array Keyed}(i:Nat):(zs.extract 0 i).toList=zs.toList.take i:=by rw[cZ,c5];simp
def MH.done(h:MH L xs ys out na nb)(a:xs.toList.Pairwise (jq L))(b:ys.toList.Pairwise (jq L))(e:na=0\/nb=0):MR L xs ys (xs.extract 0 na++ys.extract 0 nb++out.reverse):=by
 unfold MR;rw[cO,cO,A2,A2,dA];refine⟨h.p,cV.mpr ⟨?_,h.so,h.cr⟩⟩;rcases e with rfl|rfl
 .rw[c8,cj];exact b.take
 .rw[c8,bM];exact a.take
def MH.first(h:MH L xs ys out na nb)(c:xs.toList.Pairwise (jq L))(e:nb=1)(d:0<ys.size)(f:∀z∈xs.toList,jq L ys[0] z):MR L xs ys (ys.extract 0 nb++xs.extract 0 na++out.reverse):=by
 subst e;have b:ys.toList.take 1=[ys[0]]:=by have:=AE (zs:=ys) (n:=0) d;simpa using this
 unfold MR;rw[cO,cO,A2,A2,dA];refine⟨(List.Perm.append_right _ dh).trans h.p,cV.mpr ⟨cV.mpr ⟨?_,c.take,λy a x i=>?_⟩,h.so,λz j o g=>h.cr z ((ai.mp j).elim (λq=>bF _ q) λq=>ay _ q) o g⟩⟩
 .rw[b];exact cW _ _
 .rw[b]at a;rw[aj.mp a];exact f x (dB i)
end
end
end L2
namespace L2
open PySem PyProof.Rows
section
variable {prog:Program}{w:World}{A:Around}{E:Value->Shared->Prop}{s:Shared}{κ:SortKind}{I:Keyed->Prop}{L:Keyed->Keyed->Bool}
def Ga{zs:Array Keyed}(a:∀z∈zs.toList,I z){i:Nat}{z:Keyed}(h:z∈zs.toList.take i):I z:=a z (dB h)
def takeL{zs:Array Keyed}(sz:zs.toList.Pairwise (jq L)){n:Nat}(b:0<n)(c:n<=zs.size){z:Keyed}(h:z∈zs.toList.take n):z=zs[n-1]\/jq L z zs[n-1]:=by
 obtain⟨m,rfl⟩:∃m,n=m+1:=⟨n-1,by omega⟩;have e:=AE (zs:=zs) (n:=m) (by omega);have a:=sz.take (i:=m+1);rw[e]at a h;rcases ai.mp h with q|q
 .exact .inr ((cV.mp a).2.2 z q _ (by simp))
 .exact .inl (aj.mp q)
section
variable {xs ys out:Array Keyed}{na nb:Nat}
def MH.pushX'(h:MH L xs ys out na nb)(c:0<na)(d:na<=xs.size)(a:xs.toList.Pairwise (jq L))(b:∀z∈ys.toList.take nb,jq L z xs[na-1]):MH L xs ys (out.push xs[na-1]) (na-1) nb:=by obtain⟨m,rfl⟩:∃m,na=m+1:=⟨na-1,by omega⟩;exact h.pushX (by omega) a b
def MH.pushY'(h:MH L xs ys out na nb)(d:0<nb)(c:nb<=ys.size)(b:ys.toList.Pairwise (jq L))(a:∀z∈xs.toList.take na,jq L z ys[nb-1]):MH L xs ys (out.push ys[nb-1]) na (nb-1):=by obtain⟨m,rfl⟩:∃m,nb=m+1:=⟨nb-1,by omega⟩;exact h.pushY (by omega) b a
def Nz(o:sU I L)(g:∀z∈xs.toList,I z)(j:∀z∈ys.toList,I z)(d:xs.toList.Pairwise (jq L))(m:ys.toList.Pairwise (jq L))(h:MH L xs ys out na nb)(f:0<na)(k:na<=xs.size)(n:0<nb)(i:nb<=ys.size) :
  (L ys[nb-1] xs[na-1]=true->MH L xs ys (out.push xs[na-1]) (na-1) nb)/\(L ys[nb-1] xs[na-1]=false->MH L xs ys (out.push ys[nb-1]) na (nb-1)):=by
 have b:I xs[na-1]:=g _ (by simp);have c:I ys[nb-1]:=j _ (by simp);constructor
 .intro e;have l:jq L ys[nb-1] xs[na-1]:=o.as _ _ c b e;refine h.pushX' f k d λz a=>?_;rcases takeL m n i a with q|q
  .rw[q];exact l
  .exact o.tr _ _ _ (Ga j a) c b q l
 .intro e;refine h.pushY' n i m λz a=>?_;rcases takeL d f k a with q|q
  .rw[q];exact e
  .exact o.tr _ _ _ (Ga g a) b c q e
def oX{zs:Array Keyed}{n:Nat}{z:Keyed}(h:z∈zs.toList.take n):∃i,∃a:i<zs.size,i<n/\z=zs[i]:=by
 obtain⟨i,a,e⟩:=dC.mp h;rw[bQ]at a;have b:i<zs.size:=by rw[bA]at a;omega
 exact⟨i,b,by omega,by rw[<-e];simp⟩
def Re(a:sN prog w A E s κ I L)(o:sU I L)(B:∀z∈xs.toList,I z)(u:∀z∈ys.toList,I z)(p:xs.toList.Pairwise (jq L))(D:ys.toList.Pairwise (jq L))(h:MH L xs ys out na nb)(J:0<na)(H:na<=xs.size)(x:0<nb)(v:nb<=ys.size){st:SortSt}(l:kindOf st=κ){Q:Option Nat->SortSt->Prop}
  (q:∀k,k<=na->MH L xs ys (out++(xs.extract k na).reverse) k nb->(∀z∈xs.toList.take k,jq L z ys[nb-1])->Q (some k) st):wpS (model prog w) A E s (Ts false ys[nb-1] xs 0 na (na-1)) Q st:=by
 have g:I ys[nb-1]:=u _ (by simp);have d:∀i (c:i<xs.size),I xs[i]:=λi c=>B _ (by simp);refine uP a (b:=λi=>if c:i<xs.size then !(L ys[nb-1] xs[i]) else false) l g (λi c=>⟨xs[i]'(by omega),by rw[aH];exact getElem?_pos xs _ (by omega),d _ (by omega),by rw[dif_pos (by omega)];rfl⟩) (λi j n K e=>?_) (by omega) λr F y C=>?_
 .rw[dif_pos (by omega)]at e ⊢;have m:L ys[nb-1] (xs[j]'(by omega))=false:=by simpa using e
  have:=o.tr _ _ _ (d i (by omega)) (d j (by omega)) g (qV p n (by omega)) m;simp[this]
 .obtain⟨k,rfl⟩:∃k,na=r+k:=⟨na-r,by omega⟩;refine q r (by omega) (MH.extX p k out h (by omega) λi c z f=>?_) λz f=>?_
  .have e:=C (r+i) (by omega) (by omega);rw[dif_pos (by omega)]at e;have m:L ys[nb-1] (xs[r+i]'(by omega))=true:=by simpa using e
   have t:=o.as _ _ g (d _ (by omega)) m;rcases takeL D x v f with w|w
   .rw[w];exact t
   .exact o.tr _ _ _ (Ga u f) g (d _ (by omega)) w t
  .obtain⟨i,c,hr,rfl⟩:=oX f;have e:=y i hr;rw[dif_pos c]at e;simpa using e
theorem Qm(a:sN prog w A E s κ I L)(o:sU I L)(n:∀z∈xs.toList,I z)(y:∀z∈ys.toList,I z)(t:xs.toList.Pairwise (jq L))(p:ys.toList.Pairwise (jq L))(h:MH L xs ys out na nb)(x:0<na)(v:na<=xs.size)(D:0<nb)(C:nb<=ys.size){st:SortSt}(l:kindOf st=κ){Q:Option Nat->SortSt->Prop}
  (q:∀k,k<=nb->MH L xs ys (out++(ys.extract k nb).reverse) na k->(∀z∈ys.toList.take k,jq L z xs[na-1])->Q (some k) st):wpS (model prog w) A E s (Ts true xs[na-1] ys 0 nb (nb-1)) Q st:=by
 have g:I xs[na-1]:=n _ (by simp);have d:∀i (c:i<ys.size),I ys[i]:=λi c=>y _ (by simp);refine uP a (b:=λi=>if c:i<ys.size then L ys[i] xs[na-1] else false) l g (λi c=>⟨ys[i]'(by omega),by rw[aH];exact getElem?_pos ys _ (by omega),d _ (by omega),by rw[dif_pos (by omega)];rfl⟩) (λi j m H e=>?_) (by omega) λr F u B=>?_
 .rw[dif_pos (by omega)]at e ⊢;cases z:L (ys[i]'(by omega)) xs[na-1] with
  |true=>rfl
  |false=>have:=o.tr _ _ _ g (d i (by omega)) (d j (by omega)) z (qV p m (by omega));rw[this]at e;cases e
 .obtain⟨k,rfl⟩:∃k,nb=r+k:=⟨nb-r,by omega⟩;refine q r (by omega) (MH.extY p k out h (by omega) λi c z f=>?_) λz f=>?_
  .have e:=B (r+i) (by omega) (by omega);rw[dif_pos (by omega)]at e;rcases takeL t x v f with w|w
   .rw[w];exact e
   .exact o.tr _ _ _ (Ga n f) g (d _ (by omega)) w e
  .obtain⟨i,c,hr,rfl⟩:=oX f;have e:=u i hr;rw[dif_pos c]at e;exact o.as _ _ (d _ c) g e
end
end
end L2
namespace L2
open PySem PyProof.Rows
section
variable {prog:Program}{w:World}{A:Around}{E:Value->Shared->Prop}{s:Shared}{κ:SortKind}{I:Keyed->Prop}{L:Keyed->Keyed->Bool}{xs ys:Array Keyed}
theorem Sk(a:sN prog w A E s κ I L)(o:sU I L)(ix:∀z∈xs.toList,I z)(iy:∀z∈ys.toList,I z)(H:xs.toList.Pairwise (jq L))(R:ys.toList.Pairwise (jq L)){st:SortSt}{Q:Array Keyed->SortSt->Prop}(U:kindOf st=κ)(hx:0<xs.size)(hy:0<ys.size)
  (first:∀z∈xs.toList,jq L ys[0] z) (last:∀z∈ys.toList,jq L z (xs[xs.size-1]'(by omega))) (h:∀r b,SG st b->MR L xs ys r->Q r b):wpS (model prog w) A E s (VX xs ys) Q st:=by
 have M0:MH L xs ys #[xs[xs.size-1]'(by omega)] (xs.size-1) ys.size:=by have:=MH.pushX' (L:=L) (xs:=xs) (ys:=ys) (out:=#[]) (na:=xs.size) (nb:=ys.size) ⟨by rw[cG (by simp),cG (by simp)];simp,by simp,λz _ o ho=>by simp at ho⟩ hx (aL _) H (λz hz=>last z (dB hz));simpa using this
 have P:∀{out na nb},MH L xs ys out na nb->nb=1->MR L xs ys (ys.extract 0 nb++xs.extract 0 na++out.reverse):=λM e=>M.first H e hy first;refine wpS_bind (wpS_lift (wpAny_rule ⟨rfl,?_⟩));refine wpS_bind (lC (show xs.size-1<xs.size by omega) ?_);dsimp only;refine kM (λX=>wpS_pure (h _ _ (SG.refl _) (M0.done H R (.inl X)))) λX=>?_;refine kM (λe2=>wpS_pure (h _ _ (SG.refl _) (P M0 e2))) λe2=>?_;refine wpS_bind (wpS_get ?_);refine wpS_bind (wpS_mono (wpS_forRange (I:=λx c b=>SG st b/\∃na nb out K,c=(none,na,nb,out,K)/\MH L xs ys out na nb/\1<=na/\na<=xs.size/\2<=nb/\nb<=ys.size/\x+1+na+nb<=xs.size+ys.size) (Q:=λc b=>SG st b/\∃r y,c=(some r,y)/\MR L xs ys r) ?_ ?_ ⟨SG.refl _,_,_,_,_,rfl,M0,by omega,by omega,by omega,by omega,by omega⟩) ?_)
 .intro x c g _ hx1;revert c;refine VA λsg na nb out K k=>?_;have M:=k.1;have B:=k.2.1;have p:=k.2.2.1;have l:=k.2.2.2.1;have f:=k.2.2.2.2.1;have C:=k.2.2.2.2.2;dsimp only;refine wpS_bind (wpS_mono (wpS_forRange (I:=λy c b=>SG st b/\∃na nb out D F,c=(none,na,nb,out,D,F)/\MH L xs ys out na nb/\1<=na/\na<=xs.size/\2<=nb/\nb<=ys.size/\x+1+y+na+nb<=xs.size+ys.size) (Q:=λc b=>SG st b/\((∃r z,c=(some r,z)/\MR L xs ys r)\/∃na nb out D F,c=(none,na,nb,out,D,F)/\MH L xs ys out na nb/\1<=na/\na<=xs.size/\2<=nb/\nb<=ys.size/\x+2+na+nb<=xs.size+ys.size)) ?_ ?_ ⟨sg,_,_,_,_,_,rfl,M,B,p,l,f,by omega⟩) ?_)
  .intro y c g _ hy1;revert c;refine Vr λsg na nb out D F k=>?_;have M:=k.1;have B:=k.2.1;have p:=k.2.2.1;have l:=k.2.2.2.1;have f:=k.2.2.2.2.1;have C:=k.2.2.2.2.2;dsimp only;refine wpS_bind (lC (show nb-1<ys.size by omega) (wpS_bind (lC (show na-1<xs.size by omega) ?_)));refine wpS_bind (a.ask _ _ _ _ (iy _ (by simp)) (ix _ (by simp)) (sg.1.trans U) ?_);dsimp only;obtain⟨m1,m2⟩:=Nz o ix iy H R M B p (by omega) f;cases e:L (ys[nb-1]'(by omega)) (xs[na-1]'(by omega)) with
   |true=>
    rw[aR rfl];have S:=m1 e;refine wpS_bind (lC (show na-1<xs.size by omega) ?_);refine kM (λN=>wpS_pure ⟨sg,.inl ⟨_,_,rfl,S.done H R (.inl N)⟩⟩) λN=>?_;split
    .exact wpS_pure ⟨sg,.inr ⟨_,_,_,_,_,rfl,S,by omega,by omega,by omega,by omega,by omega⟩⟩
    .exact wpS_pure ⟨sg,_,_,_,_,_,rfl,S,by omega,by omega,by omega,by omega,by omega⟩
   |false=>
    rw[aS (by decide)];have S:=m2 e;refine wpS_bind (lC (show nb-1<ys.size by omega) ?_);refine kM (λN=>wpS_pure ⟨sg,.inl ⟨_,_,rfl,P S N⟩⟩) λN=>?_;split
    .exact wpS_pure ⟨sg,.inr ⟨_,_,_,_,_,rfl,S,by omega,by omega,by omega,by omega,by omega⟩⟩
    .exact wpS_pure ⟨sg,_,_,_,_,_,rfl,S,by omega,by omega,by omega,by omega,by omega⟩
  .rintro c g ⟨sg,na,nb,out,D,F,rfl,M,B,p,l,f,C⟩;omega
  .intro c g;revert c;refine Vq (λsg r z Z=>wpS_pure ⟨sg,r,_,rfl,Z⟩) λsg na nb out D F k=>?_;have M:=k.1;have B:=k.2.1;have p:=k.2.2.1;have l:=k.2.2.2.1;have f:=k.2.2.2.2.1;have C:=k.2.2.2.2.2;dsimp only;refine wpS_bind (wpS_lift (wpAny_rule ⟨rfl,?_⟩));refine wpS_bind (wpS_mono (wpS_forRange (I:=λy c b=>SG st b/\∃na nb out K D F,c=(none,na,nb,out,K,D,F)/\MH L xs ys out na nb/\1<=na/\na<=xs.size/\2<=nb/\nb<=ys.size/\x+2+y+na+nb<=xs.size+ys.size) (Q:=λc b=>SG st b/\((∃r z,c=(some r,z)/\MR L xs ys r)\/∃na nb out K D F,c=(none,na,nb,out,K,D,F)/\MH L xs ys out na nb/\1<=na/\na<=xs.size/\2<=nb/\nb<=ys.size/\x+2+na+nb<=xs.size+ys.size)) ?_ ?_ ⟨sg,_,_,_,_,_,_,rfl,M,B,p,l,f,by omega⟩) ?_)
   .intro y c g _ hy1;revert c;refine Vt λsg na nb out K D F k=>?_;have M:=k.1;have B:=k.2.1;have p:=k.2.2.1;have l:=k.2.2.2.1;have f:=k.2.2.2.2.1;have C:=k.2.2.2.2.2;dsimp only;revert K;refine Gg (λ_=>rfl) λm=>?_;refine wpS_bind (AZ λst2 d=>wpS_bind (lC (show nb-1<ys.size by omega) ?_));replace d:=sg.trans d;refine wpS_bind (Re a o ix iy H R M B p (by omega) f (d.1.trans U) λk kk M1 Y=>?_);dsimp only;generalize hc:na-k=t;generalize ho:out=v;generalize hi:na=i;revert v i;refine Bt (λu i=>MH L xs ys u i nb/\(∀z∈xs.toList.take i,jq L z (ys[nb-1]'(by omega)))/\1<=i/\i<=xs.size/\x+2+y+i+nb<=xs.size+ys.size) (λu i q=>?_) (λhk=>?_) λhk J=>?_
    .have M1:=q.1;have Y:=q.2.1;have B:=q.2.2.1;have p:=q.2.2.2.1;have C:=q.2.2.2.2;refine wpS_bind (lC (show nb-1<ys.size by omega) ?_);have M2:=M1.pushY' (by omega) f R Y;refine kM (λN=>wpS_pure ⟨d,.inl ⟨_,_,rfl,P M2 N⟩⟩) λN=>?_;refine wpS_bind (lC (show i-1<xs.size by omega) ?_);have f:nb-1<=ys.size:=by omega
     have l:2<=nb-1:=by omega
     have C:x+3+y+i+(nb-1)<=xs.size+ys.size:=by omega
     revert M2 f l C;clear N M1 Y;generalize u.push (ys[nb-1]'(by omega))=v;generalize nb-1=j;intro M2 f l C;refine wpS_bind (Qm a o ix iy H R M2 B p (by omega) f (d.1.trans U) λk' kk' M3 l3=>?_);dsimp only;generalize hd:j-k'=t';generalize ho:v=n;generalize hi:j=i';revert n i';refine Bt (λu j=>MH L xs ys u i j/\(∀z∈ys.toList.take j,jq L z (xs[i-1]'(by omega)))/\2<=j/\j<=ys.size/\x+3+y+i+j<=xs.size+ys.size) (λu j q=>?_) (λhk=>?_) λhk J=>?_
     .have M3:=q.1;have l3:=q.2.1;have l:=q.2.2.1;have f:=q.2.2.2.1;have C:=q.2.2.2.2;refine wpS_bind (lC (show i-1<xs.size by omega) ?_);have M4:=M3.pushX' (by omega) (by omega) H l3;refine kM (λe5=>wpS_pure ⟨d,.inl ⟨_,_,rfl,M4.done H R (.inl e5)⟩⟩) λe5=>?_;split
      .exact wpS_pure ⟨d,.inr ⟨_,_,_,_,_,_,rfl,M4,by omega,by omega,by omega,by omega,by omega⟩⟩
      .exact wpS_pure ⟨d,_,_,_,_,_,_,rfl,M4,by omega,by omega,by omega,by omega,by omega⟩
     .have z0:k'=j:=by omega
      subst z0;exact⟨M2,l3,l,f,C⟩
     .by_cases e4:k'=1
      .rw[aR (beq_iff_eq.mpr e4)];exact wpS_pure ⟨d,.inl ⟨_,_,rfl,P M3 e4⟩⟩
      rw[aS λz=>e4 (beq_iff_eq.mp z)];refine kM (λe6=>wpS_pure ⟨d,.inl ⟨_,_,rfl,M3.done H R (.inr e6)⟩⟩) λe6=>?_;exact J _ _ ⟨M3,l3,by omega,by omega,by omega⟩
    .have z0:k=na:=by omega
     subst z0;exact⟨M,Y,B,p,C⟩
    .by_cases X:k=0
     .rw[aR (beq_iff_eq.mpr X)];exact wpS_pure ⟨d,.inl ⟨_,_,rfl,M1.done H R (.inl X)⟩⟩
     rw[aS λz=>X (beq_iff_eq.mp z)];exact J _ _ ⟨M1,Y,by omega,by omega,by omega⟩
   .rintro c g ⟨sg,na,nb,out,K,D,F,rfl,M,B,p,l,f,C⟩;omega
   .intro c g;revert c;refine Vu (λsg r z Z=>wpS_pure ⟨sg,r,_,rfl,Z⟩) λsg na nb out K D F k=>?_;have M:=k.1;have B:=k.2.1;have p:=k.2.2.1;have l:=k.2.2.2.1;have f:=k.2.2.2.2.1;have C:=k.2.2.2.2.2;dsimp only;refine wpS_bind (AZ λst2 d=>?_);exact wpS_pure ⟨sg.trans d,_,_,_,_,rfl,M,B,p,l,f,by omega⟩
 .rintro c g ⟨sg,na,nb,out,K,rfl,M,B,p,l,f,C⟩;omega
 .rintro c g ⟨sg,r,y,rfl,Z⟩;exact wpS_pure (h r g sg Z)
end
end L2
namespace L2
open PySem PyProof.Rows
def gK(d:Keyed)(xs:Array Keyed)(i:Nat):Keyed:=(xs[i]?).getD d
structure SB(κ:SortKind)(a₀:Array Keyed)(P:Array (Nat×Nat×Nat))(lo:Nat)(st:SortSt):Prop where
 perm:(arrOf st).Perm a₀
 kind:kindOf st=κ
 failed:failedOf st=none
 pend:pendingOf st=P
 low:∀i,i<lo->(arrOf st)[i]? = a₀[i]?
structure Gv(I:Keyed->Prop)(L:Keyed->Keyed->Bool)(d:Keyed)(a₀:Array Keyed):Prop where
 o:sU I L
 i:∀z∈a₀.toList,I z
 d:I d
def Up(L:Keyed->Keyed->Bool)(d:Keyed)(xs:Array Keyed)(a n:Nat):Prop:=∀i j,i<j->j<n->jq L (gK d xs (a+i)) (gK d xs (a+j))
def Dn(L:Keyed->Keyed->Bool)(d:Keyed)(xs:Array Keyed)(a n:Nat):Prop:=∀i j,i<j->j<n->jq L (gK d xs (a+j)) (gK d xs (a+i))
section
variable {prog:Program}{w:World}{A:Around}{E:Value->Shared->Prop}{s:Shared}{κ:SortKind}{I:Keyed->Prop}{L:Keyed->Keyed->Bool}{d:Keyed}{a₀:Array Keyed}{P:Array (Nat×Nat×Nat)}{lo:Nat}{st:SortSt}
def SB.size(h:SB κ a₀ P lo st):(arrOf st).size=a₀.size:=h.perm.size_eq
def SB.set(h:SB κ a₀ P lo st){xs:Array Keyed}(c:xs.Perm (arrOf st))(b:∀i,i<lo->xs[i]? = (arrOf st)[i]?):SB κ a₀ P lo (setArr st xs):=⟨c.trans h.perm,h.kind,h.failed,h.pend,λi a=>(b i a).trans (h.low i a)⟩
def yX{xs:Array Keyed}{i:Nat}(h:i<xs.size):gK d xs i=xs[i]:=by unfold gK;rw[getElem?_pos xs i h];rfl
def rE{xs:Array Keyed}{i j:Nat}(a:j<=xs.size)(k:Nat):gK d (mirror xs i j ((j-i) / 2)) k=if i<=k/\k<j then gK d xs (i+j-1-k) else gK d xs k:=by unfold gK;rw[getElem?_mirror_all a];split<;>rfl
def yR{xs:Array Keyed}{src e:Nat}(a:src<xs.size)(b:e<=src)(k:Nat):gK d (bubble xs src e) k=if k=src-e then gK d xs src else if src-e<k/\k<=src then gK d xs (k-1) else gK d xs k:=by
 unfold gK;rw[getElem?_bubble a e b];split
 .rfl
 .split<;>rfl
def SB.mir(h:SB κ a₀ P lo st){i j:Nat}(b:lo<=i)(a:j<=a₀.size):SB κ a₀ P lo (setArr st (mirror (arrOf st) i j ((j-i) / 2))):=h.set (mirror_perm _ _ _ _) λk c=>by rw[getElem?_mirror_all (by rw[h.size];exact a),aS (by omega)]
def SB.bub(h:SB κ a₀ P lo st){src e:Nat}(b:lo+e<=src)(a:src<a₀.size):SB κ a₀ P lo (setArr st (bubble (arrOf st) src e)):=h.set (bubble_perm _ _ _) λk c=>by rw[getElem?_bubble (by rw[h.size];exact a) _ (by omega),aS (by omega),aS (by omega)]
def SB.mI(h:SB κ a₀ P lo st)(g:Gv I L d a₀)(i:Nat):I (gK d (arrOf st) i):=by
 unfold gK;cases e:(arrOf st)[i]? with
 |none=>exact g.d
 |some z=>exact g.i z ((dD.mp h.perm).mem_iff.mp (bI.mpr (Array.mem_of_getElem? e)))
def xj(a:sN prog w A E s κ I L)(g:Gv I L d a₀)(c:SB κ a₀ P lo st){i j:Nat}{Q:Option Bool->SortSt->Prop}(l:i<a₀.size)(m:j<a₀.size)(h:Q (some (L (gK d (arrOf st) i) (gK d (arrOf st) j))) st):wpS (model prog w) A E s (ltAt' i j) Q st:=by
 have b:i<(arrOf st).size:=by rw[c.size];exact l
 have e:j<(arrOf st).size:=by rw[c.size];exact m
 have k:=c.mI g i;have f:=c.mI g j;rw[yX b]at k h;rw[yX e]at f h;rw[ltAt'_eq];refine wpS_bind (wpS_get ?_);exact wpS_bind (lC b (wpS_bind (lC e (a.ask _ _ _ _ k f c.kind h))))
section
variable {xs:Array Keyed}
def Mt(o:sU I L)(a:∀i,I (gK d xs i)){n:Nat}(c:1<=n)(h:Up L d xs lo n)(e:L (gK d xs (lo+n)) (gK d xs (lo+n-1))=false):Up L d xs lo (n+1):=λi j b f=>by
 by_cases q:j<n
 .exact h i j b q
 have q:j=n:=by omega
 subst q;by_cases r:i=j-1
 .subst r;rw[show lo+(j-1)=lo+j-1 by omega];exact e
 .have:=h i (j-1) (by omega) (by omega);rw[show lo+(j-1)=lo+j-1 by omega]at this;exact o.tr _ _ _ (a _) (a _) (a _) this e
def vS(o:sU I L)(a:∀i,I (gK d xs i)){n:Nat}(c:1<=n)(h:Dn L d xs lo n)(e:jq L (gK d xs (lo+n)) (gK d xs (lo+n-1))):Dn L d xs lo (n+1):=λi j b f=>by
 by_cases q:j<n
 .exact h i j b q
 have q:j=n:=by omega
 subst q;by_cases r:i=j-1
 .subst r;rw[show lo+(j-1)=lo+j-1 by omega];exact e
 .have:=h i (j-1) (by omega) (by omega);rw[show lo+(j-1)=lo+j-1 by omega]at this;exact o.tr _ _ _ (a _) (a _) (a _) e this
def Cc(L:Keyed->Keyed->Bool)(d:Keyed)(xs:Array Keyed)(i j:Nat):Prop:=∀k l,i<=k->k<j->i<=l->l<j->jq L (gK d xs k) (gK d xs l)
def IG{i j:Nat}(b:j<=xs.size)(h:Cc L d xs i j)(o:sU I L)(a:∀i,I (gK d xs i)):∀k l,jq L (gK d xs k) (gK d xs l)->jq L (gK d (mirror xs i j ((j-i) / 2)) k) (gK d (mirror xs i j ((j-i) / 2)) l):=λk l e=>by
 rw[rE b,rE b];split<;>split
 .exact h _ _ (by omega) (by omega) (by omega) (by omega)
 .exact o.tr _ _ _ (a _) (a _) (a _) (h _ k (by omega) (by omega) (by omega) (by omega)) e
 .exact o.tr _ _ _ (a _) (a _) (a _) e (h l _ (by omega) (by omega) (by omega) (by omega))
 .exact e
def P5{n:Nat}(a:lo+n<=xs.size)(h:Dn L d xs lo n):Up L d (mirror xs lo (lo+n) ((lo+n-lo) / 2)) lo n:=λi j c b=>by rw[rE a,rE a,aR (by omega),aR (by omega)];have:=h (n-1-j) (n-1-i) (by omega) (by omega);rwa [show lo+(n-1-j)=lo+(lo+n)-1-(lo+j) by omega,show lo+(n-1-i)=lo+(lo+n)-1-(lo+i) by omega]at this
end
end
end L2
namespace L2
open PySem PyProof.Rows
section
variable {prog:Program}{w:World}{A:Around}{E:Value->Shared->Prop}{s:Shared}{κ:SortKind}{I:Keyed->Prop}{L:Keyed->Keyed->Bool}{d:Keyed}{a₀:Array Keyed}{P:Array (Nat×Nat×Nat)}{lo:Nat}{st:SortSt}
def sU.rf(o:sU I L){x:Keyed}(h:I x):jq L x x:=by
 cases e:L x x with
 |true=>exact o.as x x h h e
 |false=>exact e
def EI(g:Gv I L d a₀)(i:SB κ a₀ P lo st){b a:Nat}(q:1<=b)(j:b<=a)(p:Up L d (arrOf st) lo b){f:Nat->Option (Option Nat)×Nat->StateT SortSt Sem (ForInStep (Option (Option Nat)×Nat))}
  (m:∀x n (Q:ForInStep (Option (Option Nat)×Nat)->SortSt->Prop),1<=n->n<a->(L (gK d (arrOf st) (lo+n)) (gK d (arrOf st) (lo+n-1))=true->Q (.done (none,n)) st)->(L (gK d (arrOf st) (lo+n)) (gK d (arrOf st) (lo+n-1))=false->Q (.yield (none,n+1)) st)->wpS (model prog w) A E s (f x (none,n)) Q st) :
  wpS (model prog w) A E s (forIn [b:a] ((none,b):Option (Option Nat)×Nat) f) (λc h=>h=st/\∃n,c=(none,n)/\b<=n/\n<=a/\Up L d (arrOf st) lo n/\(n=a\/L (gK d (arrOf st) (lo+n)) (gK d (arrOf st) (lo+n-1))=true)) st:=by
 refine wpS_forRange (I:=λx c h=>h=st/\c=(none,x)/\Up L d (arrOf st) lo x) ?_ ?_ ⟨rfl,rfl,p⟩
 .rintro x c h l k ⟨rfl,rfl,u⟩;refine m x x _ (by omega) k (λe=>⟨rfl,x,rfl,l,by omega,u,.inr e⟩) λe=>⟨rfl,rfl,Mt g.o (i.mI g) (by omega) u e⟩
 .rintro c h ⟨rfl,rfl,u⟩;rw[show max b a=a by omega]at u ⊢;exact⟨rfl,a,rfl,j,aL _,u,.inl rfl⟩
def xF(g:Gv I L d a₀)(a:SB κ a₀ P lo st){i j:Nat}(h:j<=i+1):Cc L d (arrOf st) i j:=λk l b f c e=>by rw[show k=l by omega];exact g.o.rf (a.mI g l)
def Ph(g:Gv I L d a₀)(b:SB κ a₀ P lo st){n:Nat}(u:Up L d (arrOf st) lo n)(e:L (gK d (arrOf st) lo) (gK d (arrOf st) (lo+n-1))=false):Cc L d (arrOf st) lo (lo+n):=λk l h m i j=>by
 have a:=b.mI g;have f:jq L (gK d (arrOf st) k) (gK d (arrOf st) (lo+n-1)):=by
  by_cases q:k=lo+n-1
  .rw[q];exact g.o.rf (a _)
  .have:=u (k-lo) (n-1) (by omega) (by omega);rwa [show lo+(k-lo)=k by omega,show lo+(n-1)=lo+n-1 by omega]at this
 have c:jq L (gK d (arrOf st) lo) (gK d (arrOf st) l):=by
  by_cases q:l=lo
  .rw[q];exact g.o.rf (a _)
  .have:=u 0 (l-lo) (by omega) (by omega);rwa [show lo+(l-lo)=l by omega,c9]at this
 exact g.o.tr _ _ _ (a _) (a _) (a _) (g.o.tr _ _ _ (a _) (a _) (a _) f e) c
def Hu(g:Gv I L d a₀)(e:SB κ a₀ P lo st){i j:Nat}(t:i<j)(h:Cc L d (arrOf st) i j)(m:L (gK d (arrOf st) j) (gK d (arrOf st) (j-1))=false)(f:L (gK d (arrOf st) (j-1)) (gK d (arrOf st) j)=false):Cc L d (arrOf st) i (j+1):=λk l b p c n=>by
 have a:=e.mI g;by_cases q:k=j
 .rw[q];by_cases r:l=j
  .rw[r];exact g.o.rf (a _)
  .exact g.o.tr _ _ _ (a _) (a _) (a _) f (h (j-1) l (by omega) (by omega) c (by omega))
 .by_cases r:l=j
  .rw[r];exact g.o.tr _ _ _ (a _) (a _) (a _) (h k (j-1) b (by omega) (by omega) (by omega)) m
  .exact h k l b (by omega) c (by omega)
def EU(g:Gv I L d a₀)(a:SB κ a₀ P lo st){i j n:Nat}(e:j<=a₀.size)(h:Cc L d (arrOf st) i j)(D:Dn L d (arrOf st) lo n):Dn L d (arrOf (setArr st (mirror (arrOf st) i j ((j-i) / 2)))) lo n:=λk l b c=>IG (by rw[a.size];exact e) h g.o (a.mI g) _ _ (D k l b c)
def IL(a:sN prog w A E s κ I L)(g:Gv I L d a₀){l:Nat}(hn:lo+l<=a₀.size)(h1:1<=l)(r:SB κ a₀ P lo st){Q:Option Nat->SortSt->Prop}(h:∀m f,SB κ a₀ P lo f->1<=m->m<=l->Up L d (arrOf f) lo m->Q (some m) f):wpS (model prog w) A E s (countRun' lo l) Q st:=by
 rw[countRun'_eq];refine wpS_bind (wpS_mono (EI g r (aL 1) h1 (λi j _ _=>by omega) λx n Q' U n2 X R=>?_) ?_)
 .dsimp only;refine wpS_bind (xj a g r (by omega) (by omega) ?_);cases e:L (gK d (arrOf st) (lo+n)) (gK d (arrOf st) (lo+n-1)) with
  |true=>exact wpS_pure (X e)
  |false=>exact wpS_pure (R e)
 rintro c f ⟨rfl,n,rfl,U,n2,u,z⟩;dsimp only;by_cases e:n=l
 .rw[aR (beq_iff_eq.mpr e)];exact wpS_pure (h n f r U n2 u)
 rw[aS λz=>e (beq_iff_eq.mp z)];have hl:=z.resolve_left e;have N:=g.o.as _ _ (r.mI g _) (r.mI g _) hl;by_cases e1:n>1
 case' pos=>
  rw[aR e1];refine wpS_bind (xj a g r (by omega) (by omega) ?_);by_cases C:L (gK d (arrOf f) lo) (gK d (arrOf f) (lo+n-1))=true
  case pos=>rw[C];exact wpS_pure (h n f r U n2 u)
  case' neg=>have C:=dE.mpr C;rw[C];dsimp only;rw[aS (by decide)];refine wpS_bind (wpS_reverse ?_);have F:=Ph g r u C;have K:=r.mir (i:=lo) (j:=lo+n) (aL _) (by omega);have Z:=EU g r (by omega) F (vS g.o (r.mI g) U (λi j hij hj=>F _ _ (by omega) (by omega) (by omega) (by omega)) N);generalize setArr f (mirror (arrOf f) lo (lo+n) ((lo+n-lo) / 2))=st1 at K Z ⊢
 case' neg=>rw[aS e1];have K:=r;have Z:=vS g.o (r.mI g) U (λi j _ _=>by omega) N;generalize f=st1 at K Z ⊢
 all_goals
  refine wpS_bind (wpS_lift (wpAny_rule ⟨rfl,?_⟩))
  refine wpS_bind (wpS_mono (wpS_forRange (I:=λx c f=>∃k,c=(none,x,k)/\SB κ a₀ P lo f/\Dn L d (arrOf f) lo x/\k+1<=x/\Cc L d (arrOf f) (lo+x-(k+1)) (lo+x)) (Q:=λc f=>∃m k,c=(none,m,k)/\SB κ a₀ P lo f/\Dn L d (arrOf f) lo m/\1<=m/\m<=l/\k+1<=m/\Cc L d (arrOf f) (lo+m-(k+1)) (lo+m)) ?_ ?_ ⟨0,rfl,K,Z,by omega,xF g K (by omega)⟩) ?_)
  .rintro x c t hx hxn ⟨k,rfl,p,y,q,F⟩;dsimp only;refine wpS_bind (xj a g p (by omega) (by omega) ?_);cases C:L (gK d (arrOf t) (lo+x)) (gK d (arrOf t) (lo+x-1)) with
   |true=>
    dsimp only;rw[aR rfl];have Y:=vS g.o (p.mI g) (by omega) y (g.o.as _ _ (p.mI g _) (p.mI g _) C);by_cases B:k>0
    .rw[aR B];have J:=p.mir (i:=lo+x-(k+1)) (j:=lo+x) (by omega) (by omega);exact wpS_bind (wpS_reverse (wpS_pure ⟨0,rfl,J,EU g p (by omega) F Y,by omega,xF g J (by omega)⟩))
    .rw[aS B];exact wpS_pure ⟨0,rfl,p,Y,by omega,xF g p (by omega)⟩
   |false=>
    dsimp only;rw[aS (by decide)];refine wpS_bind (xj a g p (by omega) (by omega) ?_);cases B:L (gK d (arrOf t) (lo+x-1)) (gK d (arrOf t) (lo+x)) with
    |true=>dsimp only;rw[aR rfl];exact wpS_pure ⟨x,k,rfl,p,y,by omega,by omega,q,F⟩
    |false=>dsimp only;rw[aS (by decide)];refine wpS_pure ⟨k+1,rfl,p,vS g.o (p.mI g) (by omega) y B,by omega,?_⟩;have:=Hu g p (by omega) F C B;rwa [show lo+x-(k+1)=lo+(x+1)-(k+1+1) by omega,show lo+x+1=lo+(x+1) by omega]at this
  .rintro c t ⟨k,rfl,p,y,q,F⟩;rw[show max (n+1) l=l by omega]at y q F ⊢;exact⟨l,k,rfl,p,y,by omega,aL _,q,F⟩
  .rintro c t ⟨m,k,rfl,p,y,m1,m2,q,F⟩;dsimp only;by_cases B:k>0
   .rw[aR B];have J:=p.mir (i:=lo+m-(k+1)) (j:=lo+m) (by omega) (by omega);have Y:=EU g p (by omega) F y;refine wpS_bind (wpS_reverse ?_);refine wpS_bind (wpS_reverse ?_);have D:=J.mir (i:=lo) (j:=lo+m) (aL _) (by omega);have U4:=P5 (by rw[J.size];omega) Y;refine wpS_bind (wpS_mono (EI g D m1 m2 U4 λx S Q' H v X R=>?_) ?_)
    .dsimp only;refine wpS_bind (xj a g D (by omega) (by omega) ?_);generalize e:L _ _=b;cases b with
     |true=>exact wpS_pure (X e)
     |false=>exact wpS_pure (R e)
    rintro c _ ⟨rfl,S,rfl,H,v,u,_⟩;exact wpS_pure (h S _ D (by omega) v u)
   .rw[aS B];refine wpS_bind (wpS_reverse ?_);have D:=p.mir (i:=lo) (j:=lo+m) (aL _) (by omega);have U4:=P5 (by rw[p.size];omega) y;refine wpS_bind (wpS_mono (EI g D m1 m2 U4 λx S Q' H v X R=>?_) ?_)
    .dsimp only;refine wpS_bind (xj a g D (by omega) (by omega) ?_);generalize e:L _ _=b;cases b with
     |true=>exact wpS_pure (X e)
     |false=>exact wpS_pure (R e)
    rintro c _ ⟨rfl,S,rfl,H,v,u,_⟩;exact wpS_pure (h S _ D (by omega) v u)
end
end L2
namespace L2
open PySem PyProof.Rows
section
variable {prog:Program}{w:World}{A:Around}{E:Value->Shared->Prop}{s:Shared}{κ:SortKind}{I:Keyed->Prop}{L:Keyed->Keyed->Bool}{d:Keyed}{a₀:Array Keyed}{P:Array (Nat×Nat×Nat)}{lo:Nat}{st:SortSt}
def LN(a:sN prog w A E s κ I L)(g:Gv I L d a₀){n ok:Nat}(hn:lo+n<=a₀.size)(Z:ok<=n)(K:SB κ a₀ P lo st)(U:Up L d (arrOf st) lo ok){Q:Bool->SortSt->Prop}(h:∀b,SB κ a₀ P lo b->Up L d (arrOf b) lo n->Q true b):wpS (model prog w) A E s (binarySort' lo n ok) Q st:=by
 rw[binarySort'_eq];refine wpS_bind (wpS_mono (wpS_forRange (I:=λk c b=>c=(none,())/\SB κ a₀ P lo b/\Up L d (arrOf b) lo (min k n))
  (Q:=λc b=>c=(none,())/\SB κ a₀ P lo b/\Up L d (arrOf b) lo n) ?_ ?_ ⟨rfl,K,λi j y hj=>U i j y (by omega)⟩) ?_)
 .rintro k c b X hkn ⟨rfl,B,u⟩;rw[show min k n=k by omega]at u;have t:=B.mI g;refine wpS_bind (wpS_mono (wpS_forRange (I:=λx c f=>f=b/\∃l r,c=(none,l,r)/\l<=r/\r<=k/\r-l<=k-x/\
    (∀i,i<l->jq L (gK d (arrOf b) (lo+i)) (gK d (arrOf b) (lo+k)))/\(∀i,r<=i->i<k->jq L (gK d (arrOf b) (lo+k)) (gK d (arrOf b) (lo+i))))
   (Q:=λc f=>f=b/\∃l r,c=(none,l,r)/\l<=k/\
    (∀i,i<l->jq L (gK d (arrOf b) (lo+i)) (gK d (arrOf b) (lo+k)))/\(∀i,l<=i->i<k->jq L (gK d (arrOf b) (lo+k)) (gK d (arrOf b) (lo+i)))) ?_ ?_ ⟨rfl,0,k,rfl,by omega,by omega,by omega,λi hi=>by omega,λi F H=>by omega⟩) ?_)
  .rintro x c f _ R ⟨rfl,l,r,rfl,D,v,Y,m,p⟩;dsimp only;by_cases z:l >= r
   .rw[aR z];have:l=r:=by omega
    subst this;exact wpS_pure ⟨rfl,l,l,rfl,v,m,p⟩
   rw[aS z];refine wpS_bind (xj a g B (by omega) (by omega) ?_);cases e:L (gK d (arrOf f) (lo+k)) (gK d (arrOf f) (lo+(l+r) / 2)) with
   |true=>
    refine wpS_pure ⟨rfl,l,(l+r) / 2,rfl,by omega,by omega,by omega,m,λi F H=>?_⟩;have J:=g.o.as _ _ (t _) (t _) e;by_cases q:i=(l+r) / 2
    .rw[q];exact J
    .exact g.o.tr _ _ _ (t _) (t _) (t _) J (u _ i (by omega) H)
   |false=>
    refine wpS_pure ⟨rfl,(l+r) / 2+1,r,rfl,by omega,by omega,by omega,λi F=>?_,p⟩;by_cases q:i=(l+r) / 2
    .rw[q];exact e
    .exact g.o.tr _ _ _ (t _) (t _) (t _) (u i ((l+r) / 2) (by omega) (by omega)) e
  .rintro c f ⟨rfl,l,r,rfl,D,v,Y,m,p⟩;have:l=r:=by omega
   subst this;exact⟨rfl,l,l,rfl,v,m,p⟩
  .rintro c f ⟨rfl,l,r,rfl,N,m,p⟩;show wpS _ _ _ _ (moveDown' (lo+k) (lo+l) >>= λ_=>pure (ForInStep.yield (none,()))) _ _;rw[moveDown'_eq];have C:lo+k<(arrOf f).size:=by rw[B.size];omega
   refine wpS_bind (wpS_modify (wpS_pure ⟨rfl,B.bub (by omega) (by omega),?_⟩));rw[show min (k+1) n=k+1 by omega];intro i j y hj;show jq L (gK d (bubble (arrOf f) (lo+k) (lo+k-(lo+l))) (lo+i)) (gK d (bubble (arrOf f) (lo+k) (lo+k-(lo+l))) (lo+j));rw[yR C (by omega),yR C (by omega),show lo+k-(lo+k-(lo+l))=lo+l by omega];by_cases i1:i=l
   .rw[aR (by omega),aS (by omega),aR (by omega),show lo+j-1=lo+(j-1) by omega];exact p _ (by omega) (by omega)
   rw[aS (by omega)];by_cases i2:l<i
   .rw[aR (by omega),aS (by omega),aR (by omega),show lo+j-1=lo+(j-1) by omega,show lo+i-1=lo+(i-1) by omega];exact u _ _ (by omega) (by omega)
   rw[aS (by omega)];by_cases j1:j=l
   .rw[aR (by omega)];exact m _ (by omega)
   rw[aS (by omega)];by_cases j2:l<j
   .rw[aR (by omega),show lo+j-1=lo+(j-1) by omega];by_cases q:i<j-1
    .exact u _ _ q (by omega)
    .exact absurd q (by omega)
   .rw[aS (by omega)];exact u _ _ y (by omega)
 .rintro c b ⟨S,B,u⟩;refine⟨S,B,?_⟩;rwa [show min (max (max ok 1) n) n=n by omega]at u
 .rintro c b ⟨rfl,B,u⟩;exact wpS_pure (h b B u)
end
end L2
namespace L2
open PySem PyProof.Rows
theorem IB{k:Nat}:∀(l:List Keyed) (m:Nat) (xs:Array Keyed),k+m+l.length<=xs.size->((l.zipIdx m).foldl (λa (x:Keyed×Nat)=>a.setIfInBounds (k+x.2) x.1) xs).toList=xs.toList.take (k+m)++l++xs.toList.drop (k+m+l.length)
 |[],m,xs,_=>by simp
 |x::l,m,xs,h=>by rw[az]at h;rw[List.zipIdx_cons,b9,IB l (m+1) _ (by rw[Array.size_setIfInBounds];omega),Array.toList_setIfInBounds];rw[show k+(m+1)=k+m+1 by omega,c6,List.take_set,List.set_eq_of_length_le (by simp;omega),List.getElem?_set_self (by simp;omega),List.drop_set_of_lt (by omega),az];simp[Nat.add_assoc,Nat.add_comm,Nat.add_left_comm]
section
variable {prog:Program}{w:World}{A:Around}{E:Value->Shared->Prop}{s:Shared}{κ:SortKind}{I:Keyed->Prop}{L:Keyed->Keyed->Bool}{st:SortSt}
def Sy{a:SortSt}{Q:PUnit->SortSt->Prop}(h:Q ⟨⟩ a):wpS (model prog w) A E s (set a:StateT SortSt Sem PUnit) Q st:=wpS_modify (f:=λ_=>a) h
def Fh{d:Keyed}{xs:Array Keyed}{n:Nat}(u:Up L d xs 0 n)(h:n<=xs.size):(xs.toList.take n).Pairwise (jq L):=by rw[du];intro i j b c a;rw[bQ]at b c;have:=u i j a (by omega);rw[aH,aH,yX (by omega),yX (by omega)]at this;simpa using this
def NR{d:Keyed}{xs:Array Keyed}{a n:Nat}(u:Up L d xs a n)(h:a+n=xs.size):(xs.toList.drop a).Pairwise (jq L):=by rw[du];intro i j c e b;rw[bS,bA]at c e;have:=u i j b (by omega);rw[yX (by omega),yX (by omega)]at this;simpa using this
def Ra{T X Y D M:List Keyed}(i:(T++X).Pairwise (jq L))(h:(Y++D).Pairwise (jq L))(m:M.Perm (X++Y))(sm:M.Pairwise (jq L))(c:∀t∈T,∀z∈Y++D,jq L t z)(j:∀x∈X,∀z∈D,jq L x z):(T++M++D).Pairwise (jq L):=by
 have g:=cV.mp i;have d:=cV.mp h;refine cV.mpr ⟨cV.mpr ⟨g.1,sm,λt f z a=>?_⟩,d.2.1,λz a e b=>?_⟩
 .rcases ai.mp (m.mem_iff.mp a) with q|q
  .exact g.2.2 t f z q
  .exact c t f z (ay _ q)
 .rcases ai.mp a with q|q
  .exact c z q e (bF _ b)
  .rcases ai.mp (m.mem_iff.mp q) with q|q
   .exact j z q e b
   .exact d.2.2 z q e b
theorem Qb(a:sN prog w A E s κ I L)(o:sU I L){n1 n2 p q:Nat}{c:Array Keyed}(B:kindOf st=κ)(hA:arrOf st=c)(hf:failedOf st=none)(hp:pendingOf st = #[(0,n1,p),(n1,n2,q)])(u:c.size=n1+n2)(h1:0<n1)(h2:0<n2)(hI:∀z∈c.toList,I z)
  (Y:(c.toList.take n1).Pairwise (jq L)) (S:(c.toList.drop n1).Pairwise (jq L)) {Q:Bool->SortSt->Prop} (h:∀d,(arrOf d).toList.Perm c.toList->(arrOf d).toList.Pairwise (jq L)->failedOf d=none->pendingOf d = #[(0,n1+n2,p)]->Q true d):wpS (model prog w) A E s (mergeAt' 0) Q st:=by
 obtain⟨k0,a0,p0,g0,f0⟩:=st;cases (show a0=c from hA);cases (show f0=none from hf);cases (show p0=_ from hp);refine wpS_bind (wpS_get ?_);have e0:(#[(0,n1,p),(n1,n2,q)]:Array (Nat×Nat×Nat))[0]? = some (0,n1,p):=rfl;have e1:(#[(0,n1,p),(n1,n2,q)]:Array (Nat×Nat×Nat))[0+1]? = some (n1,n2,q):=rfl;have e2:((#[(0,n1,p),(n1,n2,q)]:Array (Nat×Nat×Nat)).setIfInBounds 0 (0,n1+n2,p)).eraseIdxIfInBounds (0+1) = #[(0,n1+n2,p)]:=by simp[Array.eraseIdxIfInBounds,Array.eraseIdx]
 dsimp only;rw[e0,e1];dsimp only;rw[e2];refine wpS_bind (Sy ?_);have l:∀i (f:i<c.size),I c[i]:=λi f=>hI _ (by simp);have N:∀i j (v:i<j) (g:j<n1),jq L (c[i]'(by omega)) (c[j]'(by omega)):=λi j v g=>by have:=du.mp Y i j (by simp;omega) (by simp;omega) v;simpa using this
 have K:∀i j (v:i<j) (f:n1<=i) (g:j<n1+n2),jq L (c[i]'(by omega)) (c[j]'(by omega)):=λi j v f g=>by have:=du.mp S (i-n1) (j-n1) (by simp;omega) (by simp;omega) (by omega);simpa[show n1+(i-n1)=i by omega,show n1+(j-n1)=j by omega] using this
 have D:n1<c.size:=by omega
 refine wpS_bind (lC D ?_);refine wpS_bind (uP a (b:=λi=>if f:i<c.size then !(L c[n1] c[i]) else false) B (l _ _) (λi f=>⟨c[i]'(by omega),by rw[aH];exact getElem?_pos _ _ (by omega),l _ _,by rw[dif_pos (by omega)];rfl⟩) (λi j v g e=>?_) h1 λk k1 k2 k3=>?_)
 .rw[dif_pos (by omega)]at e ⊢;have e':L c[n1] (c[j]'(by omega))=false:=by simpa using e
  have:=o.tr _ _ _ (l i (by omega)) (l j (by omega)) (l _ D) (N i j v g) e';simp[this]
 have K2:∀i (f:i<k),jq L (c[i]'(by omega)) c[n1]:=λi f=>by have:=k2 i f;rw[dif_pos (by omega)]at this;simpa using this
 have K3:∀i (f:k<=i) (g:i<n1),L c[n1] (c[i]'(by omega))=true:=λi f g=>by have:=k3 i f g;rw[dif_pos (by omega)]at this;simpa using this
 clear k2 k3;have Z:∀j (f:n1<=j) (g:j<n1+n2),jq L c[n1] (c[j]'(by omega)):=λj f g=>by
  by_cases q:j=n1
  .subst q;exact o.rf (l _ _)
  .exact K _ _ (by omega) (aL _) g
 have K4:∀i (f:i<k) j (g:n1<=j) (P:j<n1+n2),jq L (c[i]'(by omega)) (c[j]'(by omega)):=λi f j g P=>o.tr _ _ _ (l _ _) (l _ D) (l _ _) (K2 i f) (Z j g P);dsimp only;by_cases ek:n1-k=0
 .rw[aR (beq_iff_eq.mpr ek)];refine wpS_pure (h _ (List.Perm.refl _) ?_ rfl rfl);show c.toList.Pairwise _;rw[<-dF n1 c.toList];refine cV.mpr ⟨Y,S,λx hx y hy=>?_⟩;obtain⟨i,f,C,rfl⟩:=oX hx;obtain⟨j,g,e⟩:=dC.mp hy;rw[bS,bA]at g;rw[<-e,dG];have:=K4 i (by omega) (n1+j) (by omega) (by omega);simpa using this
 rw[aS λz=>ek (beq_iff_eq.mp z)];have hl:0+k+(n1-k)-1<c.size:=by omega
 have H:n1-1<c.size:=by omega
 refine wpS_bind (lC hl ?_);have el:c[0+k+(n1-k)-1]=c[n1-1]:=by congr 1;omega
 rw[el];refine wpS_bind (uP a (b:=λi=>if f:n1+i<c.size then L c[n1+i] c[n1-1] else false) B (l _ _) (λi f=>⟨c[n1+i]'(by omega),getElem?_pos _ _ (by omega),l _ _,by rw[dif_pos (by omega)];rfl⟩) (λi j v g e=>?_) (by omega) λm m1 m2 m3=>?_)
 .rw[dif_pos (by omega)]at e ⊢;cases z:L (c[n1+i]'(by omega)) c[n1-1] with
  |true=>rfl
  |false=>have:=o.tr _ _ _ (l _ H) (l (n1+i) (by omega)) (l (n1+j) (by omega)) z (K _ _ (by omega) (by omega) (by omega));rw[this]at e;cases e
 have M2:∀i (f:i<m),L (c[n1+i]'(by omega)) c[n1-1]=true:=λi f=>by have:=m2 i f;rwa [dif_pos (by omega)]at this
 have M3:∀i (f:m<=i) (g:i<n2),jq L c[n1-1] (c[n1+i]'(by omega)):=λi f g=>by have:=m3 i f g;rwa [dif_pos (by omega)]at this
 clear m2 m3;dsimp only;have m0:¬m=0:=λe=>by have X:=M3 0 (by omega) h2;have y2:=K3 (n1-1) (by omega) (by omega);exact absurd ((show L c[n1] c[n1-1]=false from X).symm.trans y2) (by decide)
 rw[aS λz=>m0 (beq_iff_eq.mp z)];have xX:(c.extract (0+k) n1).toList=(c.toList.take n1).drop k:=by rw[cZ,c5,List.drop_take,aH]
 have xY:(c.extract n1 (n1+m)).toList=(c.toList.drop n1).take m:=by rw[cZ,c5,show n1+m-n1=m by omega]
 have zX:(c.extract (0+k) n1).size=n1-k:=by simp;omega
 have zY:(c.extract n1 (n1+m)).size=m:=by simp;omega
 have ix:∀z∈(c.extract (0+k) n1).toList,I z:=λz u=>hI z (by rw[xX]at u;exact dB (dq u));have iy:∀z∈(c.extract n1 (n1+m)).toList,I z:=λz u=>hI z (by rw[xY]at u;exact dq (dB u));have sx:(c.extract (0+k) n1).toList.Pairwise (jq L):=by rw[xX];exact Y.drop
 have sy:(c.extract n1 (n1+m)).toList.Pairwise (jq L):=by rw[xY];exact S.take
 have y0:(c.extract n1 (n1+m))[0]'(by omega)=c[n1]:=by simp
 have xl:(c.extract (0+k) n1)[(c.extract (0+k) n1).size-1]'(by omega)=c[n1-1]:=by rw[dH];congr 1;omega
 have first:∀z∈(c.extract (0+k) n1).toList,jq L ((c.extract n1 (n1+m))[0]'(by omega)) z:=λz u=>by rw[y0];obtain⟨i,f,e⟩:=dC.mp u;rw[bA]at f;rw[<-e,dI,dH];exact o.as _ _ (l _ _) (l _ _) (K3 _ (by omega) (by omega))
 have last:∀z∈(c.extract n1 (n1+m)).toList,jq L z ((c.extract (0+k) n1)[(c.extract (0+k) n1).size-1]'(by omega)):=λz u=>by rw[xl];obtain⟨i,f,e⟩:=dC.mp u;rw[bA]at f;rw[<-e,dI,dH];exact o.as _ _ (l _ _) (l _ _) (M2 _ (by omega))
 have R:∀(r:Array Keyed) (d:SortSt),SG (SortSt.mk' k0 c #[(0,n1+n2,p)] g0 none) d->MR L (c.extract (0+k) n1) (c.extract n1 (n1+m)) r->Q true (SortSt.mk' (kindOf d) (r.toList.zipIdx.foldl (λa (x:Keyed×Nat)=>a.setIfInBounds (0+k+x.2) x.1) (arrOf d)) (pendingOf d) (gallopOf d) (failedOf d)):=λr d sg J=>by
  obtain⟨k',a',p',g',f'⟩:=d;obtain⟨sg1,sg2,sg3,sg4⟩:=sg;cases (show a'=c from sg2);cases (show f'=none from sg4);cases (show p'=_ from sg3);obtain⟨U,so⟩:=J;have lr:r.toList.length=n1-k+m:=by rw[U.length_eq,aU,bA,bA,zX,zY]
  have rM:=IB (k:=0+k) r.toList 0 c (by omega);have t1:c.toList.take n1=(c.toList.take n1).take k++(c.toList.take n1).drop k:=(dF _ _).symm;have t2:c.toList.drop n1=(c.toList.drop n1).take m++(c.toList.drop n1).drop m:=(dF _ _).symm;have eT:c.toList.take (0+k+0)=(c.toList.take n1).take k:=by rw[List.take_take,dJ k1,aH,c9]
  have eD:c.toList.drop (0+k+0+r.toList.length)=(c.toList.drop n1).drop m:=by rw[List.drop_drop,lr];congr 1;omega
  rw[eT,eD]at rM;rw[xX,xY]at U;refine h _ ?_ ?_ rfl rfl
  .show (List.foldl _ c _).toList.Perm _;rw[rM];have:((c.toList.take n1).take k++r.toList++(c.toList.drop n1).drop m).Perm ((c.toList.take n1).take k++((c.toList.take n1).drop k++(c.toList.drop n1).take m)++(c.toList.drop n1).drop m):=List.Perm.append_right _ (List.Perm.append_left _ U);refine this.trans (List.Perm.of_eq ?_);rw[<-bZ,<-t1,bZ,<-t2,dF]
  .show (List.foldl _ c _).toList.Pairwise _;rw[rM];have aD:∀z∈(c.toList.drop n1).drop m,∃j,∃g:n1+j<c.size,m<=j/\z=c[n1+j]:=λz u=>by obtain⟨j,g,e⟩:=dC.mp u;rw[bS,bS,bA]at g;rw[dG,dG,dI]at e;exact⟨m+j,by omega,by omega,e.symm⟩
   refine Ra (by rw[<-t1];exact Y) (by rw[<-t2];exact S) U so (λt ht z u=>?_) λx hx z u=>?_
   .obtain⟨i,f,C,rfl⟩:=oX (n:=k) (by rw[List.take_take,dJ k1]at ht;exact ht);rw[<-t2]at u;obtain⟨j,g,e⟩:=dC.mp u;rw[bS,bA]at g;rw[<-e,dG,dI];exact K4 i C (n1+j) (by omega) (by omega)
   .obtain⟨j,g,hm,rfl⟩:=aD z u;obtain⟨i,f,C,rfl⟩:=oX (dq hx);have X:=M3 j hm (by omega);by_cases q:i=n1-1
    .subst q;exact X
    .exact o.tr _ _ _ (l _ _) (l _ H) (l _ _) (N i (n1-1) (by omega) (by omega)) X
 by_cases F:n1-k<=m
 .rw[aR F];exact wpS_bind (RU a o ix iy sx sy B (by omega) (by omega) first last λr d sg J=>wpS_bind (wpS_modify (wpS_bind (wpS_get (by have e:failedOf d=none:=sg.2.2.2;have:=R r d sg J;exact wpS_pure (by rw[show ((sortPriv% PySem.Builtin.SortState.failed) d).isNone=true by rw[show (sortPriv% PySem.Builtin.SortState.failed) d=failedOf d from rfl,e];rfl];exact this))))))
 .rw[aS F];exact wpS_bind (Sk a o ix iy sx sy B (by omega) (by omega) first last λr d sg J=>wpS_bind (wpS_modify (wpS_bind (wpS_get (by have e:failedOf d=none:=sg.2.2.2;have:=R r d sg J;exact wpS_pure (by rw[show ((sortPriv% PySem.Builtin.SortState.failed) d).isNone=true by rw[show (sortPriv% PySem.Builtin.SortState.failed) d=failedOf d from rfl,e];rfl];exact this))))))
end
end L2
namespace L2
open PySem PyProof.Rows
section
variable {prog:Program}{w:World}{A:Around}{E:Value->Shared->Prop}{s:Shared}{κ:SortKind}{I:Keyed->Prop}{L:Keyed->Keyed->Bool}{d:Keyed}{a₀:Array Keyed}{st:SortSt}{N mr:Nat}
def JO(N:Nat)(L:Keyed->Keyed->Bool)(d:Keyed)(a₀:Array Keyed)(κ:SortKind)(st:SortSt):Prop:=(arrOf st).toList.Perm a₀.toList/\kindOf st=κ/\failedOf st=none/\((∃p,pendingOf st = #[(0,N,p)]/\(arrOf st).toList.Pairwise (jq L))\/∃a b p q,a+b=N/\0<a/\0<b/\pendingOf st = #[(0,a,p),(a,b,q)]/\Up L d (arrOf st) 0 a/\Up L d (arrOf st) a b)
def TF(N mr:Nat)(L:Keyed->Keyed->Bool)(d:Keyed)(a₀:Array Keyed)(κ:SortKind)(n1:Nat)(st:SortSt):Prop:=n1<N/\mr<=n1/\(arrOf st).Perm a₀/\kindOf st=κ/\failedOf st=none/\pendingOf st = #[(0,n1,0)]/\Up L d (arrOf st) 0 n1
def Gv.perm{a:Array Keyed}(g:Gv I L d a₀)(h:a.Perm a₀):Gv I L d a:=⟨g.o,λz b=>g.i z ((dD.mp h).mem_iff.mp b),g.d⟩
def RW{xs:Array Keyed}(u:Up L d xs 0 N)(h:xs.size=N):xs.toList.Pairwise (jq L):=by have:=Fh u (by omega);rwa [cG (by simp;omega)]at this
def NX{a:Type}(x:a)(f:a->a):(#[x]:Array a).modify 0 f = #[f x]:=by
 refine Array.ext (by simp) λi c b=>?_;rw[Array.getElem_modify];have:i=0:=by simp at b;omega
 subst this;simp
def Pb(a:sN prog w A E s κ I L)(g:Gv I L d a₀)(hκ:kindOf st=κ)(hA:arrOf st=a₀)(hf:failedOf st=none)(hp:pendingOf st = #[])(R:a₀.size=N)(h2:2<=N)(hN:N<=64){Q:Unit->SortSt->Prop}(h:∀e,(arrOf e).toList.Perm a₀.toList->(arrOf e).toList.Pairwise (jq L)->failedOf e=none->Q () e):wpS (model prog w) A E s sortRuns' Q st:=by
 rw[sortRuns'_eq];refine wpS_bind (wpS_get ?_);dsimp only;obtain⟨mr,hmr,U,r2⟩:∃mr,minRun' N N 0=mr/\mr<=N/\N<=2*mr:=by
  by_cases q:N<64
  .obtain⟨f,rfl⟩:∃f,N=f+1:=⟨N-1,by omega⟩;exact⟨_,by rw[minRun'_succ,aR q,c9],aL _,by omega⟩
  .have:N=64:=by omega
   subst this;exact⟨32,rfl,by decide,by decide⟩
 have hs:(arrOf st).size=N:=by rw[hA];exact R
 have B0:SB κ a₀ #[] 0 st:=⟨by rw[hA],hκ,hf,hp,λ_ z=>absurd z (dM _)⟩;simp only[hs,hmr];refine wpS_bind (wpS_mono (wpS_forRange
  (I:=λx c e=>(x=0/\c=(none,0)/\SB κ a₀ #[] 0 e)\/(x=1/\∃n1,c=(none,n1)/\TF N mr L d a₀ κ n1 e)\/(c=(none,N)/\JO N L d a₀ κ e))
  (Q:=λc e=>c=(none,N)/\JO N L d a₀ κ e) ?_ ?_ (.inl ⟨rfl,rfl,B0⟩)) ?_)
 .rintro x c y _ hx (⟨rfl,rfl,B⟩|⟨rfl,n1,rfl,h1,h2,r,S,Y,hp',u⟩|⟨rfl,D⟩)
  .dsimp only;rw[aS (by omega)];refine wpS_bind (IL a g (by omega) (by omega) B λm l P m1 m2 J=>?_);have go:∀(b:SortSt) (n:Nat),SB κ a₀ #[] 0 b->mr<=n->n<=N->Up L d (arrOf b) 0 n->(0+1=0/\((none,0+n):Option Unit×Nat)=(none,0)/\SB κ a₀ #[] 0 (setPending b ((pendingOf b).push (0,n,0))))\/(0+1=1/\∃n1,((none,0+n):Option Unit×Nat)=(none,n1)/\TF N mr L d a₀ κ n1 (setPending b ((pendingOf b).push (0,n,0))))\/(((none,0+n):Option Unit×Nat)=(none,N)/\JO N L d a₀ κ (setPending b ((pendingOf b).push (0,n,0)))):=λb n k n1 n2 F=>by
    have e3:(pendingOf b).push (0,n,0) = #[(0,n,0)]:=by rw[k.pend];rfl
    by_cases q:n=N
    .subst q;exact .inr (.inr ⟨by rw[aH],(dD.mp k.perm),k.kind,k.failed,.inl ⟨0,e3,RW F (by rw[k.size];exact R)⟩⟩)
    .exact .inr (.inl ⟨rfl,n,by rw[aH],by omega,n1,k.perm,k.kind,k.failed,e3,F⟩)
   dsimp only;by_cases q:m<mr
   .rw[aR q];refine wpS_bind (wpS_lift (wpAny_rule ⟨rfl,?_⟩));have em:min (N-0) mr=mr:=by omega
    rw[em];refine wpS_bind (LN a g (by omega) (by omega) P J λb k F=>?_);rw[aS (by decide)];refine wpS_bind (wpS_get ?_);rw[show (pendingOf b).back? = none by rw[k.pend];rfl];exact wpS_bind (wpS_modify (wpS_pure (go b _ k (by omega) (by omega) F)))
   .rw[aS q];refine wpS_bind (wpS_get ?_);rw[show (pendingOf l).back? = none by rw[P.pend];rfl];exact wpS_bind (wpS_modify (wpS_pure (go l _ P (by omega) (by omega) J)))
  .dsimp only;rw[aS (by omega)];have g1:=g.perm r;have B1:SB κ (arrOf y) #[(0,n1,0)] n1 y:=⟨Array.Perm.refl _,S,Y,hp',λ_ _=>rfl⟩;have sz:(arrOf y).size=N:=r.size_eq.trans R;refine wpS_bind (IL a g1 (by omega) (by omega) B1 λm l P m1 m2 J=>?_);have go:∀(b:SortSt) (n v:Nat),SB κ (arrOf y) #[(0,n1,0)] n1 b->n=N-n1->Up L d (arrOf b) n1 n->∀t:SortSt,arrOf t=arrOf b->kindOf t=kindOf b->failedOf t=failedOf b->pendingOf t = #[(0,n1,v),(n1,n,0)]->JO N L d a₀ κ t:=λb n v k hn F t U r2 r3 r4=>by refine⟨by rw[U];exact dD.mp (k.perm.trans r),r2.trans k.kind,r3.trans k.failed,.inr ⟨n1,n,v,0,by omega,by omega,by omega,r4,?_,by rw[U];exact F⟩⟩;intro i j hij hj;have:=u i j hij hj;rw[U];unfold gK at this ⊢;rw[k.low _ (by omega),k.low _ (by omega)];exact this
   dsimp only;by_cases q:m<mr
   case' pos=>
    rw[aR q];refine wpS_bind (wpS_lift (wpAny_rule ⟨rfl,?_⟩));have en:min (N-n1) mr=N-n1:=by omega
    rw[en];refine wpS_bind (LN a g1 (by omega) (by omega) P J λb k F=>?_);rw[aS (by decide)]
   case' neg=>
    rw[aS q];have en:m=N-n1:=by omega
    subst en;have k:=P;have F:=J;generalize l=b at k F ⊢
   all_goals
    refine wpS_bind (wpS_get ?_)
    rw[show (pendingOf b).back? = some (0,n1,0) by rw[k.pend];rfl]
    dsimp only
    refine wpS_bind (wpS_mono (wpS_forRange (I:=λ_ c e=>e=b/\c=(none,())) (Q:=λc e=>e=b/\c=(none,())) ?_ (λ_ _ z=>z) ⟨rfl,rfl⟩) ?_)
    .rintro x c _ _ _ ⟨rfl,rfl⟩;refine wpS_bind (wpS_get ?_);rw[k.pend,aS (by show ¬1>1;decide)];exact wpS_pure ⟨rfl,rfl⟩
    .rintro c _ ⟨rfl,rfl⟩;refine wpS_bind (wpS_modify (wpS_bind (wpS_modify (wpS_pure (.inr (.inr ⟨?_,?_⟩))))))
     .rw[show n1+(N-n1)=N by omega]
     .refine go _ (N-n1) (power' N (2*0+n1) (2*0+n1+n1+(N-n1)) N) k rfl F _ rfl rfl rfl ?_;show ((pendingOf _).modify ((pendingOf _).size-1) _).push _=_;rw[k.pend];rw[show (#[(0,n1,0)]:Array (Nat×Nat×Nat)).size-1=0 from rfl,NX];rfl
  .dsimp only;rw[aR (by omega)];exact wpS_pure ⟨rfl,D⟩
 .rintro c y (⟨z,_⟩|⟨z,_⟩|z)
  .omega
  .omega
  .exact z
 .rintro c y ⟨rfl,D⟩;dsimp only;refine wpS_bind (wpS_mono (wpS_forRange (I:=λx c e=>c=(none,())/\(x=0/\JO N L d a₀ κ e\/(arrOf e).toList.Perm a₀.toList/\(arrOf e).toList.Pairwise (jq L)/\failedOf e=none/\∃p,pendingOf e = #[(0,N,p)])) (Q:=λc e=>c=(none,())/\(arrOf e).toList.Perm a₀.toList/\(arrOf e).toList.Pairwise (jq L)/\failedOf e=none) ?_ ?_ ⟨rfl,.inl ⟨rfl,D⟩⟩) ?_)
  .rintro x c l _ hx ⟨rfl,⟨rfl,r,k2,H,⟨p,C,K⟩|⟨n1,n2,p,q,Z,p1,p2,C,u1,J⟩⟩|⟨r,K,H,p,C⟩⟩
   .refine wpS_bind (wpS_get ?_);rw[C,aR (by show 1<=1;decide)];exact wpS_pure ⟨rfl,r,K,H⟩
   .refine wpS_bind (wpS_get ?_);rw[C,aS (by show ¬2<=1;decide)];have sz:(arrOf l).size=N:=by have:=r.length_eq;simp at this;omega
    refine wpS_bind (Qb (n1:=n1) (n2:=n2) (p:=p) (q:=q) a g.o k2 rfl H C (by omega) p1 p2 (λz R=>g.i z (r.mem_iff.mp R)) (Fh u1 (by omega)) (NR J (by omega)) λb pm3 so3 f3 X=>?_);rw[aS (by decide)];exact wpS_pure ⟨rfl,.inr ⟨pm3.trans r,so3,f3,p,by rw[X,Z]⟩⟩
   .refine wpS_bind (wpS_get ?_);rw[C,aR (by show 1<=1;decide)];exact wpS_pure ⟨rfl,r,K,H⟩
  .rintro c l ⟨rfl,⟨z,_⟩|⟨r,K,H,_⟩⟩
   .omega
   .exact⟨rfl,r,K,H⟩
  .rintro c l ⟨rfl,r,K,H⟩;exact wpS_pure (h l r K H)
end
end L2
namespace L2
open PySem PySem.Spec PySem.W PyProof.Rows
structure Ow(X:Cx)(gU:List (Addr×Obj))(a:Addr):Prop where
 l:a≠X.env.locals
 f:a∉X.fs
 z:X.s₀.heap.objs.size<=a
 c:∀x c,X.env.cells.lookup x=some c->c≠a
 p:∀q∈X.pn++gU,q.1≠a
section
variable {X:Cx}{gU:List (Addr×Obj)}{σ:St}{H:Hp}{s:Shared}{a:Addr}
def iz.ow(I:iz X gU σ H s)(h:s.heap.objs.size<=a):Ow X gU a where
 l:=bB (aF I.lt h)
 f:=I.nofs h
 z:=aO I.sz h
 c:=λx c e q=>by obtain⟨v,o,b,_⟩:=I.cell x c e;subst q;exact absurd (aM b) (cC.mpr h)
 p:=λq d e=>by have:=aM (I.pin q d).1;rw[e]at this;exact absurd this (cC.mpr h)
def Ow.turn{h':Heap}{t':Nat}(o:Ow X gU a)(I:iz X gU σ H s)(d:H a=none)(k:∀b u,b≠a->s.heap.get? b=some u->h'.get? b=some u):iz X gU σ H {s with heap:=h',toks:=t'}:=I.turned k d o.l (.inr o.z) o.c o.p
def Ow.stk(o:Ow X gU a)(I:iz X gU σ H s):a∉Gq X.stack:=λz=>by
 rcases aG.mp (I.stkSub a z) with e|e
 .exact o.l e
 .exact o.f e
end
def xW(H:Hp)(b:Addr)(f:Ky):Prop:=∃a,H b=some (.tup [.int f.1,.ref a])/\H a=some (.tup (f.2.map V.int))
def qi(H:Hp)(v:Value)(f:Ky):Prop:=∃a,v=.ref a/\xW H a f
def xW.mono{H a:Hp}{b:Addr}{f:Ky}(x:xW H b f)(h:iq H a):xW a b f:=let ⟨b2,e1,e2⟩:=x;⟨b2,h _ _ e1,h _ _ e2⟩
def ky(f:Ky):Ky:=(-f.1,f.2)
section
variable {X:Cx}{gU:List (Addr×Obj)}{σ:St}{H:Hp}{s:Shared}{A:Around}{E:Value->Shared->Prop}
def A8(I:iz X gU σ H s){a:Addr}{f:Ky}(x:xW H a f):∃o t b n o2 its n2,s.heap.get? a=some o/\o.cls=.type "tuple" /\o.data=.seq #[.int f.1 t,.ref b] n/\s.heap.get? b=some o2/\o2.cls=.type "tuple" /\o2.data=.seq its n2/\IntsAre its.toList f.2/\H b=some (.tup (f.2.map V.int)):=by
 obtain⟨b,m,h⟩:=x;obtain⟨_,its,r,o,k,i,n,l,_⟩:=(show jL X.prog X.w H s.heap a (.tup _) from I.hok a _ m);obtain⟨_,c,j,o2,e,g,n2,d,_⟩:=(show jL X.prog X.w H s.heap b (.tup _) from I.hok b _ h);cases r with
 |cons r1 r'=>
  cases r' with
  |cons r3 r4=>cases r4;obtain⟨t,rfl⟩:=r1;cases (show _=Value.ref b from r3);exact⟨o,t,b,n,o2,c.toArray,n2,k,i,l,e,g,d,by simpa using sI j,h⟩
def RB(hu:A.units+2<cLine)(I:iz X gU σ H s){v J:Value}{f g:Ky}(x:qi H v f)(Y:qi H J g){C:Bool->Shared->Prop}(h:C (wV f g) s):wpAny (model X.prog X.w) A (keyLt' (tuples' (Value.type "int" != Value.type "tuple")) v J) C E s:=by
 obtain⟨a,rfl,K⟩:=x;obtain⟨a',rfl,r⟩:=Y;obtain⟨o,t,b2,n,o2,N,n2,Q,h2,S,i,D,R,h7,P⟩:=A8 I K;obtain⟨o',t',d,n',k,B,U,j,L,p,b,c,l,m,u⟩:=A8 I r;refine kat_lt Q S j p ?_;show KatLex _ _ _ _ false _ [(.int f.1 t,.int g.1 t'),(.ref b2,.ref d)] 0 _;unfold wV at h;refine kat_cons (wpAny_eqBool_int ?_);by_cases e:f.1=g.1
 .rw[aR e]at h;rw[show (f.1==g.1)=true from beq_iff_eq.mpr e];refine kat_yes (kat_cons (wpAny_eqBool_tuple (knd:=l9 X.prog X.w) (x:=f.2.map Sum.inl) (y:=g.2.map Sum.inl) (by omega) (DO I.hok (by rw[aJ];exact P)) (DO I.hok (by rw[aJ];exact u)) ?_));by_cases z:f.2=g.2
  .rw[aC (show f.2.map (Sum.inl:Int->pD)=g.2.map Sum.inl by rw[z])];rw[z,zJ]at h;exact kat_yes (kat_nil h)
  .have Z:f.2.map (Sum.inl:Int->pD)≠g.2.map Sum.inl:=λq=>z ((dN λ_ _ w=>Sum.inl.inj w).mp q);rw[aB Z];refine kat_no ?_;refine kat_one _ _ ?_;refine wpAny_richCompare_same_room (op:=.Lt) ⟨o2,i,D⟩ ⟨k,b,c⟩ F.slot_tuple_lt (wpAny_call_entry F.slot_tuple_lt ⟨o2,i,D⟩ F.entry_tuple_lt (yc i R b c l h7 m ⟨_,rfl,(λq=>nomatch q),h⟩) (F.args_tuple_lt_2 _ _)) (by omega)
 .rw[aS e]at h;rw[show (f.1==g.1)=false from beq_eq_false_iff_ne.mpr e];refine kat_no ?_;exact oneLt_int h
def qi.fn{v:Value}{f g:Ky}(x:qi H v f)(y:qi H v g):f=g:=by
 obtain⟨a,rfl,l,m,k⟩:=x;obtain⟨n,e,h,d,b⟩:=y;cases e;rw[m]at d;obtain⟨i,rfl⟩:f.1=g.1/\l=h:=by injection d with z;injection z with z;injection z with j c;injection j with j;injection c with c;injection c with c;exact⟨j,c⟩
 rw[k]at b;have:f.2.map V.int=g.2.map V.int:=by injection b with z;injection z
 exact Prod.ext i ((dN λ_ _ w=>by injection w).mp this)
def MJ(H:Hp)(v:Value):Ky:=@dite _ (∃f,qi H v f) (Classical.propDecidable _) (λh=>h.choose) λ_=>(0,[])
def vL{v:Value}{f:Ky}(x:qi H v f):MJ H v=f:=by unfold MJ;rw[dif_pos ⟨f,x⟩];exact qi.fn (Exists.choose_spec _) x
def Iq(a:A.units+2<cLine)(I:iz X gU σ H s):sN X.prog X.w A E s (tuples' (Value.type "int" != Value.type "tuple")) (λz=>∃f,qi H z.1 f) (λx y=>wV (MJ H x.1) (MJ H y.1)):=⟨λx y st Q ⟨f,xf⟩ ⟨g,yg⟩ hκ q=>by rw[vL xf,vL yg]at q;rw[lt'_eq];refine wpS_bind (wpS_get ?_);rw[hκ];exact wpS_bind (wpS_lift (wpAny_attempt (RB a I xf yg ⟨rfl,wpS_pure q⟩)))⟩
def C6{g k:Type}{f:g->k}{l m:List k}(h:l.Perm m):∀xs:List g,m=xs.map f->∃p:List g,p.Perm xs/\l=p.map f:=by
 induction h with
 |nil=>intro xs e;cases xs with
  |nil=>exact⟨[],List.Perm.refl _,rfl⟩
  |cons _ _=>cases e
 |cons x _ ih=>intro xs e;cases xs with
  |nil=>cases e
  |cons y ys=>injection e with j c;obtain⟨p,d,i⟩:=ih ys c;exact⟨y::p,d.cons y,by rw[j,i];rfl⟩
 |swap x y l=>intro xs e;match xs,e with
  |a::b::ys,e=>injection e with j c;injection c with c n;exact⟨b::a::ys,List.Perm.swap _ _ _,by rw[j,c,n];rfl⟩
 |trans _ _ ih1 ih2=>intro xs e;exact let ⟨p,d,i⟩:=ih2 xs e;let ⟨q,q1,q2⟩:=ih1 p i;⟨q,q1.trans d,q2⟩
def Oy(I:A.units+2<cLine)(J:iz X gU σ H s){a vs:List Value}{fs:List Ky}(x:Paired (qi H) a fs)(k:a.length=vs.length)(C:2<=vs.length)(g:vs.length<=64):wpAny (model X.prog X.w) A ((sortRuns').run (SortSt.mk' (tuples' (Value.type "int" != Value.type "tuple")) (a.toArray.zip vs.toArray) #[] 7 none))
  (λr v=>∃p:Array Nat,UM fs.length p/\Vv (λi j=>wV (fs.getD i (0,[])) (fs.getD j (0,[]))) p fs.length/\arrOf r.2=p.map (kas_item (a.toArray.zip vs.toArray))/\failedOf r.2=none/\v=s) E s:=by
 have lf:a.length=fs.length:=Paired.length x;have h:(a.toArray.zip vs.toArray).size=vs.length:=by simp[k]
 have it:∀i,i<fs.length->qi H (kas_item (a.toArray.zip vs.toArray) i).1 (fs.getD i (0,[])):=λi c=>by have:=vm x Value.none (0,[]) (i:=i) (by omega);rw[kat_item k];exact this
 have F:∀z∈(a.toArray.zip vs.toArray).toList,∃f,qi H z.1 f:=λz o=>by
  rw[<-kas_range (a.toArray.zip vs.toArray),h,dO]at o;obtain⟨i,c,rfl⟩:=aE.mp o;have D:i<vs.length:=by simpa using c
  exact⟨_,it i (by omega)⟩
 have run:wpS (model X.prog X.w) A E s sortRuns' (λ_ b=>∃p:Array Nat,UM fs.length p/\Vv (λi j=>wV (fs.getD i (0,[])) (fs.getD j (0,[]))) p fs.length/\arrOf b=p.map (kas_item (a.toArray.zip vs.toArray))/\failedOf b=none) (SortSt.mk' (tuples' (Value.type "int" != Value.type "tuple")) (a.toArray.zip vs.toArray) #[] 7 none):=by
  refine Pb (a₀:=a.toArray.zip vs.toArray) (d:=kas_item (a.toArray.zip vs.toArray) 0) (Iq I J) ⟨⟨λ_ _ _ _=>Jn,λ_ _ _ _ _ _=>LR⟩,F,⟨_,it 0 (by omega)⟩⟩ rfl rfl rfl rfl h C g λb B t y=>?_;have q:=kas_range (a.toArray.zip vs.toArray);rw[h]at q;obtain⟨p,m,n⟩:=C6 (f:=kas_item (a.toArray.zip vs.toArray)) B (List.range vs.length) (by have:=congrArg Array.toList q;rw[dO]at this;exact this.symm)
  have u:∀i∈p,i<fs.length:=λi c=>by have:=aT.mp (m.mem_iff.mp c);omega
  have K:p.length=fs.length:=by rw[m.length_eq,dP];omega
  refine⟨p.toArray,?_,λi j l L=>?_,?_,y⟩
  .rw[<-lf,k];exact dD.mpr m
  .rw[n,dQ,du]at t;have:=t i j (by omega) (by omega) l;unfold jq at this;dsimp only at this;rw[vL (it _ (u _ (aW _))),vL (it _ (u _ (aW _)))]at this;simpa[show i<p.length by omega,show j<p.length by omega] using this
  .apply cY.mp;rw[n,dO]
 unfold wpS at run;exact wpAny_mono run (λr v ⟨e,p,a1,a2,a3,a4⟩=>⟨p,a1,a2,a3,a4,e⟩) λ_ _ z=>z
theorem KO(I:iz X gU σ H s){b:List Value}{fs:List Ky}(v:Paired (qi H) b fs)(j:1<=b.length){Q:SortKind->Shared->Prop}(h:Q (tuples' (Value.type "int" != Value.type "tuple")) s) :
  wpAny (model X.prog X.w) A (keyKind' b.toArray) Q E s:=by
 have go:∀{b:List Value} {fs:List Ky},Paired (qi H) b fs->∃c,KatTups s.heap b c/\c.length=b.length/\∀f∈c,∃i t,f=Value.int i t:=λ{b fs} p=>by
  induction p with
  |nil=>exact⟨[],trivial,rfl,λ_ z=>nomatch z⟩
  |cons x r ih=>
   obtain⟨c,e,k,g⟩:=ih;obtain⟨a,rfl,l⟩:=x;obtain⟨o,t,y,n,o2,m,C,j,u,q,_⟩:=A8 I l;refine⟨_::c,KatTups.cons j u q rfl e,by simp[k],λf d=>?_⟩;rcases aG.mp d with rfl|d
   .exact⟨_,_,rfl⟩
   .exact g f d
 obtain⟨c,e,k,g⟩:=go v;refine kat_kind e (by omega) (T:=.type "int") (λf d=>?_) (by decide) h;obtain⟨i,B,rfl⟩:=g f d;exact Looks.of_pure rfl
def S2(X:Cx)(gU:List (Addr×Obj))(σ:St)(H0:Hp)(D a f P:Addr)(d:Obj)(q:Str)(c g:Nat)(b:List Value)(fs:List Ky)(s:Shared):Prop:=∃H e,iz X gU σ H s/\iq H0 H/\H D=none/\H a=none/\H f=none/\s.heap.get? D=some (seqObj "list" #[] g)/\s.heap.get? a=some (seqObj "list" b.toArray e)/\s.heap.get? f=some d/\rO H P q c/\Paired (qi H) b fs
def LU(X:Cx)(gU:List (Addr×Obj))(σ:St)(f P:Addr)(d:Obj)(q:Str)(c:Nat):Prop:=∀(s:Shared) (H:Hp) (b:Addr) (g:Ky),iz X gU σ H s->s.heap.get? f=some d->rO H P q c->xW H b g->
 codeAny (model X.prog X.w) X.A.in1.in1 (.call (.ref f) ⟨[.ref b],[]⟩) (CR sh X.stack X.prog X.w H s (λv e=>∃p,v=.ref p/\H p=none/\∃a,H b=some (.tup [.int g.1,.ref a])/\e=ja H p (.tup [.int (-g.1),.ref a])) E0) s
theorem L5{D J f P:Addr}{K:Obj}{q:Str}{R e1:Nat}{Z:List Value}{fs:List Ky}{H0:Hp}{b:Addr}{g:Ky}(oD:Ow X gU D)(oS:Ow X gU J)(oF:Ow X gU f)(hL:LU X gU σ f P K q R)(hg:xW H0 b g)
  (hx:S2 X gU σ H0 D J f P K q R e1 Z fs s) {Q:Value->Shared->Prop} (hQ:∀k j H e,iz X gU σ H j->iq H0 H->H D=none->H J=none->H f=none->j.heap.get? D=some (seqObj "list" #[] e1)->j.heap.get? J=some (seqObj "list" Z.toArray e)->j.heap.get? f=some K->rO H P q R->Paired (qi H) (Z++[k]) (fs++[ky g])->Q k j) :
  wpAny (model X.prog X.w) X.A.in1.in1 (call (.ref f) [.ref b]) Q E s:=by
 obtain⟨H,e,I,sm,nD,nS,nF,gD,gS,N,tb,pr⟩:=hx;refine wpAny_call (codeAny_mono (hL s H b g I N tb (hg.mono sm)) λr j F=>?_);cases r with
 |error e=>exact F.elim
 |ok fl=>
  cases fl with
  |next=>exact False.elim F
  |brk=>exact False.elim F
  |cont=>exact False.elim F
  |ret u=>
   obtain⟨v,H',os,B,un,Y,rv,p,rfl,hp,C,U,rfl⟩:=F;cases (show u=Value.ref p from rv);obtain⟨hh,gg,d,t,S⟩:=j;obtain rfl:S=s.os:=os;have I':=I.call (t':=t) (d':=d) un Y B (λb z=>absurd z (by simp));have i:iq H (ja H p (.tup [.int (-g.1),.ref C])):=λc o y=>by rw[hU (iC y hp)];exact .of y
   have x:∀{c:Addr} {o:Obj},Ow X gU c->H c=none->s.heap.get? c=some o->hh.get? c=some o/\ja H p (.tup [.int (-g.1),.ref C]) c=none:=λ{c o} ow n y=>⟨un.keep c o y n (ow.stk I) (by simp),un.free c o y n (by simp)⟩;obtain⟨L,x1,x2⟩:=hg.mono sm;rw[U]at x1;have:C=L:=by cases x1;rfl
   subst this;refine hQ _ _ _ e I' (sm.trans i) (x oD nD gD).2 (x oS nS gS).2 (x oF nF N).2 (x oD nD gD).1 (x oS nS gS).1 (x oF nF N).1 (tb.grow I.hok λps ep=>?_) ?_
   .exact i _ _ ep
   .have ap:∀{l:List Value} {m:List Ky},Paired (qi H) l m->Paired (qi (ja H p (.tup [.int (-g.1),.ref C]))) (l++[.ref p]) (m++[ky g]):=λ{l m} z=>by
     induction z with
     |nil=>exact .cons ⟨p,rfl,C,hC,i _ _ x2⟩ .nil
     |cons h t ih=>exact .cons (let ⟨a,ea,xa⟩:=h;⟨a,ea,xa.mono i⟩) ih
    exact ap pr
end
section
variable {X:Cx}{gU:List (Addr×Obj)}{σ:St}{H:Hp}{s:Shared}{E:Value->Shared->Prop}
def GO{a:Type}{p:Array Nat}{l:List a}(d:a)(b:UM l.length p):(p.toList.map λi=>l.getD i d).Perm l:=by
 have c:p.toList.Perm (List.range l.length):=by simpa using b.toList
 have:=c.map λi=>l.getD i d;rwa [wx]at this
theorem Es{D f P:Addr}{fo:Obj}{q:Str}{c' n:Nat}{bs:List Addr}{fl:List Ky}{Q:Fin->Shared->Prop}(hu:X.A.units+8<cLine)(I:iz X gU σ H s)(N:Ow X gU D)(oF:Ow X gU f)(nD:H D=none)(nF:H f=none)(hDf:D≠f)(gD:s.heap.get? D=some (seqObj "list" (bs.map Value.ref).toArray n))(gF:s.heap.get? f=some fo)(tb:rO H P q c')
  (hL:LU X gU σ f P fo q c') (hf:Paired (xW H) bs fl) (h64:fl.length<=64)
  (h:∀F t d o,iz X gU σ F t->iq H F->F D=some (.lst (d.map V.ref))->(∀R:Addr->Ky->Prop,Paired R bs fl->Paired R d o)->o.Perm fl->o.Pairwise (λa b=>wV (ky b) (ky a)=false)->Q (.done (.ret .none)) t) :
  wpAny (model X.prog X.w) X.A.in1.in1 (ksk_tree D (.ref f) false) Q E s:=by
 have K:bs.length=fl.length:=Paired.length hf;have sl:64<=sizeLine:=by decide
 have hz:(bs.map Value.ref).toArray.size=fl.length:=by simp[K]
 unfold ksk_tree;refine ao (listItems_at gD rfl ?_);refine ao (listUpdate_at gD rfl ?_ (by rw[hz];omega) (bL _));obtain⟨Y,gD1⟩:∃Y,(s.heap.update D (Obj.mapSeq λ_=>(#[]:Array Value))).get? D=some (seqObj "list" #[] Y):=⟨_,get?_update_seq gD λ_=>#[]⟩;have I1:iz X gU σ H {s with heap:=s.heap.update D (Obj.mapSeq λ_=>(#[]:Array Value))}:=N.turn (t':=s.toks) I nD λb u C e=>by rw[Heap.get?_update_ne _ _ _ _ C];exact e
 have gF1:(s.heap.update D (Obj.mapSeq λ_=>(#[]:Array Value))).get? f=some fo:=by rw[Heap.get?_update_ne _ _ _ _ (Ne.symm hDf)];exact gF
 refine ao (seqEpoch_at gD1 rfl ?_);refine ao (wpAny_newTuple ?_ (by simp[K];omega));have I2:=I1.kept (t':=s.toks) λb u e=>ae (seqObj "tuple" (bs.map Value.ref).toArray.toList.toArray 0) e;refine ao (wpAny_newList ?_ (bL _));have I3:=I2.kept (t':=s.toks) λb u e=>ae (seqObj "list" [].toArray 0) e;refine wpAny_holding ?_;dsimp only at I2 I3 ⊢;generalize hh:(s.heap.update D (Obj.mapSeq λ_=>(#[]:Array Value))).push (seqObj "tuple" (bs.map Value.ref).toArray.toList.toArray 0)=h2 at I2 I3 ⊢;have gD3:(h2.push (seqObj "list" [].toArray 0)).get? D=some (seqObj "list" #[] Y):=ae _ (by rw[<-hh];exact ae _ gD1);have gF3:(h2.push (seqObj "list" [].toArray 0)).get? f=some fo:=ae _ (by rw[<-hh];exact ae _ gF1);have oS:Ow X gU h2.objs.size:=I2.ow (aL _);have nS:H h2.objs.size=none:=I2.hok.fresh (aL _);have neD:D≠h2.objs.size:=λz=>by have:=aM (show h2.get? D=some _ by rw[<-hh];exact ae _ gD1);rw[z]at this;exact absurd this (bg _)
 have neF:f≠h2.objs.size:=λz=>by have:=aM (show h2.get? f=some _ by rw[<-hh];exact ae _ gF1);rw[z]at this;exact absurd this (bg _)
 unfold ksk_rest;refine ao (wpAny_rule ?_);rw[List.forIn_toArray];refine ao (ksk_fold (λi t=>∃v,v.length=i/\S2 X gU σ H D h2.objs.size f P fo q c' Y v ((fl.take i).map ky) t) (bs.map Value.ref) 0 _ ⟨[],rfl,H,0,I3,.refl _,nD,nS,nF,gD3,ar _ rfl,gF3,tb,.nil⟩ (λj x t hx hI=>?_) λt hI=>?_)
 .obtain⟨v,m,hS⟩:=hI;rw[aH]at hS m;rw[aw]at hx;obtain⟨b,C,rfl⟩:=dR.mp hx;obtain⟨g,hg,xg⟩:=uu hf C;have hj:j<fl.length:=(aa.mp hg).1;refine ao (wpAny_attempt (L5 N oS oF hL xg hS λk y F e J sm n1 n2 n3 g1 g2 g3 tb' Z=>?_));dsimp only;have J':iz X gU σ F {y with heap:=y.heap.update h2.objs.size (Obj.mapSeq (·.push k))}:=oS.turn (t':=y.toks) J n2 λb u C e=>by rw[Heap.get?_update_ne _ _ _ _ C];exact e
  refine ao (listUpdate_at g2 rfl ?_ (by rw[bG,m];omega) (by show (v.toArray.push k).size<=_;rw[Array.size_push,bG,m];omega));obtain⟨e2,ge2⟩:∃e2,(y.heap.update h2.objs.size (Obj.mapSeq (·.push k))).get? h2.objs.size=some (seqObj "list" (v++[k]).toArray e2):=⟨_,by rw[show (v++[k]).toArray=v.toArray.push k by simp];exact get?_update_seq g2 (·.push k)⟩;refine ak ⟨rfl,v++[k],by simp[m],F,e2,J',sm,n1,n2,n3,?_,?_,?_,tb',?_⟩
  .rw[Heap.get?_update_ne _ _ _ _ neD];exact g1
  .exact ge2
  .rw[Heap.get?_update_ne _ _ _ _ neF];exact g3
  .rw[aH,c6,hg];simpa using Z
 .obtain⟨v,m,F,e,J,sm,n1,n2,n3,g1,g2,g3,tb',Z⟩:=hI;rw[aH,ax]at m Z;rw[cG (by omega)]at Z;refine ao (listItems_at g2 rfl ?_);have fin:∀(d:List Addr) (o:List Ky) (st:SortSt),(arrOf st).map (·.2)=(d.map Value.ref).toArray->failedOf st=none->d.length=bs.length->(∀R:Addr->Ky->Prop,Paired R bs fl->Paired R d o)->o.Perm fl->o.Pairwise (λa b=>wV (ky b) (ky a)=false)->
    wpAny (model X.prog X.w) X.A.in1.in1 (ksk_tail D false Y (.ref h2.objs.size) st) Q E t:=λd o st ho S mq pf pm pw=>by
   unfold ksk_tail;dsimp only;refine ao (listUpdate_at g2 rfl ?_ (by rw[bG,m];omega) (bL _));refine ao (wpAny_letGo ?_);have J1:iz X gU σ F {t with heap:=t.heap.update h2.objs.size (Obj.mapSeq λ_=>#[])}:=oS.turn (t':=t.toks) J n2 λb u C e=>by rw[Heap.get?_update_ne _ _ _ _ C];exact e
   have L:(t.heap.update h2.objs.size (Obj.mapSeq λ_=>#[])).get? D=some (seqObj "list" #[] Y):=by rw[Heap.get?_update_ne _ _ _ _ neD];exact g1
   refine ao (seqEpoch_at L rfl ?_);simp only[cu,if_false];rw[ho];have hsz:(d.map Value.ref).toArray.size=fl.length:=by simp[mq,K]
   refine ao (listUpdate_at L rfl ?_ (bL _) (by rw[hsz];omega));rw[S];simp only[bne_self_eq_false,cu,if_false];have J2:=N.turn (h':=(t.heap.update h2.objs.size (Obj.mapSeq λ_=>#[])).update D (Obj.mapSeq λ_=>(d.map Value.ref).toArray)) (t':=t.toks) J1 n1 λb u C e=>by rw[Heap.get?_update_ne _ _ _ _ C];exact e
   obtain⟨e3,g4⟩:∃e3,((t.heap.update h2.objs.size (Obj.mapSeq λ_=>#[])).update D (Obj.mapSeq λ_=>(d.map Value.ref).toArray)).get? D=some (seqObj "list" (d.map Value.ref).toArray e3):=⟨_,get?_update_seq L λ_=>(d.map Value.ref).toArray⟩;have vr:∀l:List Addr,iO (l.map V.ref) (l.map Value.ref):=λl=>by
    induction l with
    |nil=>exact .nil
    |cons b l ih=>exact .cons rfl ih
   refine ak (h (ja F D (.lst (d.map V.ref))) _ d o (J2.track n1 (.inr N.z) N.l N.c N.p (show jL X.prog X.w _ _ _ (.lst _) from ⟨by rw[ax,mq,K];omega,d.map Value.ref,e3,vr d,g4⟩)) (sm.trans λb u e=>by rw[hU (iC e n1)];exact .of e) hC pf pm pw)
  have kz:v.toArray.zip (bs.map Value.ref).toArray=v.toArray.zip (bs.map Value.ref).toArray:=rfl;unfold ksk_end;dsimp only;simp only[cu,if_false];by_cases r:(bs.map Value.ref).toArray.size<2
  .rw[aR r,aR r];refine ao (ak ?_);rw[StateT.run_pure];refine ao (ak ?_);refine fin bs fl (SortSt.mk' general' (v.toArray.zip (bs.map Value.ref).toArray) #[] 7 none) ?_ rfl rfl (λ_ z=>z) (List.Perm.refl _) ?_
   .show (v.toArray.zip (bs.map Value.ref).toArray).map (·.2)=_;apply cY.mp;simp[List.map_snd_zip,m]
   .rw[hz]at r;match fl,r with
    |[],_=>exact .nil
    |[_],_=>exact cW _ _
  .rw[aS r,aS r];rw[hz]at r;refine ao (KO J Z (by omega) ?_);refine ao (wpAny_mono (Oy (by show X.A.units+1+1+2<_;omega) J Z (by rw[m,ax]) (by rw[ax];omega) (by rw[ax];omega)) ?_ λ_ _ z=>z);rw[ax];rintro⟨⟨⟩,st'⟩ y ⟨p,hp,hup,har,S,rfl⟩;have B:∀i∈p.toList,i<fl.length:=λi U=>by have:i∈(List.range fl.length).toArray:=hp.mem_iff.mp (by simpa using U);simpa using this
   refine fin (p.toList.map λi=>bs.getD i 0) (p.toList.map λi=>fl.getD i (0,[])) st' ?_ S (by rw[ax,bA,CC hp,K]) (λR z=>xA _ _ _ λi U=>vm z 0 (0,[]) (by rw[K];exact B i U)) (GO _ hp) ?_
   .rw[kat_snds (by rw[m,ax]) har,aJ];congr 1;refine dS λi U=>?_;have:=B i U;simp[K,this]
   .rw[dQ,du];intro i j U hj hij;have hs:p.size=fl.length:=CC hp;have hj':j<p.size:=by simpa using hj
    have hi':i<p.size:=by simpa using U
    have:=hup i j hij (by omega);rw[dU,dU,Array.getElem?_eq_getElem hj',Array.getElem?_eq_getElem hi']at this;have gm:∀k,k<fl.length->(fl.map ky).getD k (0,[])=ky (fl.getD k (0,[])):=λk hk=>by simp[hk]
    simp only[Option.getD_some]at this;rw[gm _ (B _ (by simp)),gm _ (B _ (by simp))]at this;simpa using this
end
end L2
namespace L2
open PySem PySem.Spec PySem.W PyProof.Rows
section
variable {X:Cx}
abbrev pV(x:Str)(p1 p2 p3 p4 p5 p6 p7 p8:Pos)(j1 j2 j3:Nat):Expr:=.Tuple [.UnaryOp .USub (.Subscript (.Name x p1) (.Constant (.int 0) j1 p2) p3) p4,.Subscript (.Name x p5) (.Constant (.int 1) j2 p6) p7] j3 p8
def Rn{x:Str}{p1 p2 p3 p4 p5 p6 p7 p8:Pos}{j1 j2 j3:Nat}(i:X.N[0]? = some x)(k:SN X.env.scope x)(g:(x==("__debug__" : Str))=false)(a:(x==("__classdict__" : Str))=false) :
  ∃t,PE X (pV x p1 p2 p3 p4 p5 p6 p7 p8 j1 j2 j3) t/\∀(c:St) (H:Hp) (Q:VK) (b f:Addr) (d:Int),c[0]? = some (some (.ref b))->H b=some (.tup [.int d,.ref f])->(∀p,H p=none->Q (.ref p) (ja H p (.tup [.int (-d),.ref f])))->t c H Q:=by
 refine⟨_,Lu (m9 (PM Iz (Fc kK (v9 i k g a) DD λ_ _=>rfl)) (m9 (Fc kK (v9 i k g a) DD λ_ _=>rfl) sM)),λc H Q b f d e h q=>?_⟩;exact⟨_,e,b,_,_,_,rfl,rfl,mW.of h,rD (j:=0) rfl,_,rfl,_,e,b,_,_,_,rfl,rfl,mW.of h,rD (j:=1) rfl,(by show 2<=sizeLine;decide),λp l=>q p l⟩
def Rz{C:List (Addr×Obj)}{y:St}{f P:Addr}{q x:Str}{params:Arguments}{a:Scope}{h c:Value}{d k:Nat}{p1 p2 p3 p4 p5 p6 p7 p8:Pos}{j1 j2 j3:Nat}(hr:ji (k+3) X.A)(S:i8 [x] [x] a)(n:a.names.lookup x=some .local)
  (z:(x==("__debug__" : Str))=false) (e:(x==("__classdict__" : Str))=false)
  (l:∀u:Value,bindArgs (kla_fn "<lambda>" q params (pV x p1 p2 p3 p4 p5 p6 p7 p8 j1 j2 j3) a [] h (.ref d) c) ⟨[u],[]⟩=pure [(x,u)]) :
  LU X C y f P (kla_obj "<lambda>" q params (pV x p1 p2 p3 p4 p5 p6 p7 p8 j1 j2 j3) a [] h d c) q d:=by
 intro s H b g I r o B;obtain⟨i,j,E⟩:=B;obtain⟨t,v,D⟩:=Rn (X:=(ny sh X.prog X.w X.K X.mg X.base [x] q a f (.ref d) X.A.in1.in1 X.stack s H E0).nox) (p1:=p1) (p2:=p2) (p3:=p3) (p4:=p4) (p5:=p5) (p6:=p6) (p7:=p7) (p8:=p8) (j1:=j1) (j2:=j2) (j3:=j3) (x:=x) rfl (.inl n) z e;refine Nw (k:=k) (vs:=[.ref b]) (us:=[.ref b]) r (o.rec' I.hok) S rfl hr.in1.in1 I.env0.in1.in1 (.of_eq (l (.ref b))) (.cons rfl .nil) ⟨t,v,D _ _ _ b i g.1 rfl j λp m=>⟨p,rfl,m,i,j,rfl⟩⟩
end
def Jd(a:Heap)(mg:Str->Option Value)(x:Str)(b:Value):Prop:=∃c P,b=.ref c/\CodeHd a c P/\(c,P)∈a.life.ids/\a.CodeRec (.ref c) x/\a.BuiltinsAt mg P
def Ha(K:W.Frag)(mg:Str->Option Value)(a:Heap)(x:Str):Prop:=∀f e d c b,mg x=some (.ref f)->K.lookup f=some ⟨e,d,.func c,b⟩->Jd a mg x c.code
def IK{P:Program}{w:World}{mg:Str->Option Value}{c:Heap}{x:Str}{N e:List Str}{k:Nat}{i:Sp}{K:W.Frag}{st:Stmt}(D:iu K mg x st)(L:Ha K mg c x)(S:i8 N e (g9 st))
  (y:∀(kV g p:Value) (u:Option Addr) (b r:Value) (us:List Value),us.length=e.length->bindArgs (W.fnOf x x (jU st) (iQ st) (g9 st) .none kV g p u b r) ⟨us,[]⟩=pure (e.zip us))
  (n:∀vs H Q E,i vs H Q E->vs.length=e.length)
  (d:∀f b A a s H vs Q E,Jd c mg x b->ji k (A.deeper (envOfC x (g9 st) s.heap.objs.size f b))->i vs H Q E->
   ∃t,Bg (ny sh P w K mg c N x (g9 st) f b A a s H E).nox (iQ st) t/\t {nx:=λ_ B=>Q .non B,rt:=Q} (lK N vs) H):lI P w K mg c x (k+1) i:=by
 obtain⟨f,R,F,m⟩:=D.ex;have C:=F.kp;have v:=F.binds y;obtain⟨J,I,kV,g,p,u,b,r,z,rfl,o,j⟩:=F.ex;refine⟨f,_,e,PF o j S n λA a s H vs Q E hr l=>?_,m,C,v⟩;obtain⟨t,h,q⟩:=d f b A a s H vs Q E (L f _ _ _ _ m o) hr l;exact⟨t,h.nox,q⟩
def T8(X:Cx)(src:V->Hp->List Addr->Prop):Prop:=(∀x H c bs,iq H c->src x H bs->src x c bs)/\∀(d:List (Addr×Obj)) (s:Shared) (f:St) (H:Hp) (x:V) (u:Value) (bs:List Addr) (E:Value->Shared->Prop) (Q:List Value->Shared->Prop),iz X d f H s->src x H bs->i9 x u->
 (∀a e,(∀b o,s.heap.get? b=some o->a.get? b=some o)->Q (bs.map Value.ref) {s with heap:=a,toks:=e})->wpAny (model X.prog X.w) X.A.in1 (collect u) Q E s
def QL(K:W.Frag):V->Hp->List Addr->Prop:=λx H bs=>∃p,x=.ref p/\H p=some (.lst (bs.map V.ref))
section
variable {X:Cx}
def JZ:T8 X (QL X.K):=by refine⟨λx H H' bs h ⟨p,e1,e2⟩=>⟨p,e1,h _ _ e2⟩,λj s i H x u bs E Q I h r q=>?_⟩;obtain⟨p,rfl,e⟩:=h;cases r;obtain⟨c,f,d,a⟩:=I.list (lS.of e);have g:=zj f;subst g;refine collect_list d.isList (q _ s.toks λb o e=>?_) (by rw[ax]at a ⊢;exact a);rw[Heap.get?_update_ne _ _ _ _ (aN (aM e)),Heap.get?_push_ne _ _ _ (aN (aM e))];exact e
def JH(src:V->Hp->List Addr->Prop)(i:TE):TE:=λh H Q=>i h H λx f=>∃bs e,src x f bs/\Paired (xW f) bs e/\e.length<=64/\
 ∀D g d c,iq f g->f D=none->g D=some (.lst (d.map V.ref))->(∀R:Addr->Ky->Prop,Paired R bs e->Paired R d c)->c.Perm e->c.Pairwise (λa b=>wV (ky b) (ky a)=false)->Q (.ref D) g
def JA{k:Nat}{qn x:Str}{e:Expr}{te:TE}{src:V->Hp->List Addr->Prop}{params:Arguments}{a:Scope}{p pos t n p1 p2 p3 p4 p5 p6 p7 p8:Pos}{j1 j2 j3:Nat}(hr:ji (k+3) X.A)(L:Jd X.base X.mg qn X.env.code)(hq:qn++ ".<locals>.<lambda>" = X.env.qual++ "<lambda>")
  (S:i8 [x] [x] a) (hx:a.names.lookup x=some .local) (hb:∀(q:Str) (pm l:Value) (c':Addr) (u:Value),bindArgs (kla_fn "<lambda>" q params (pV x p1 p2 p3 p4 p5 p6 p7 p8 j1 j2 j3) a [] pm (.ref c') l) ⟨[u],[]⟩=pure [(x,u)])
  (R:closureFor a X.env=pure []) (v:defaultsOf params X.env=([],[])) (d:T8 X src) (he:PE X e te) (hg:Gl X "sorted") (hm:X.mg "sorted" = none)
  (g:backTo pos (starEach [e] X.env)=[(false,eval e X.env)]/\starEach [e] X.env=[(false,eval e X.env)]) (hd:(x==("__debug__" : Str))=false:=by decide) (Y:(x==("__classdict__" : Str))=false:=by decide) :
  PE X (.Call (.Name "sorted" p) [e] [⟨some "key",.Lambda params (pV x p1 p2 p3 p4 p5 p6 p7 p8 j1 j2 j3) a t,n⟩] pos) (JH src te):=by
 intro y s E H Q I h;obtain⟨c,P,i,C,kP,hrc,K⟩:=L;refine wpAny_Call_Name_kw (sC (u:=.builtin "sorted") I hg hm (by rfl) ?_);refine callWith_kw ?_ (by rw[g.1];rfl) (by rw[g.1];rfl) rfl rfl;rw[g.1];refine Calls.spliced_cons (kh (he y s E H _ I h) λu s1 ⟨xv,H1,I1,r1,bs,fl,hs,pf,h64,q⟩=>?_);refine Calls.spliced_nil ?_;refine kws_cons (JT I1 i C kP hrc K hq R v λf c' l pm D B I2 sm fr hf nf tb gf=>?_);refine kws_nil ?_;show wpAny _ X.A (call (.builtin "sorted") [u] [(Str.ofString "key",.ref f)]) _ _ B;refine call_function_entry_kw kind_sorted plain_sorted entry_sorted (ksk_s1 _ _) ?_;unfold Builtin.«sorted»;refine ao (m:=checkCount "sorted" 1 1 _) (ak ?_);refine ao (d.2 y B E D xv u bs _ _ I2 (d.1 _ _ _ _ sm hs) r1 λj r k3=>?_);have lb:bs.length=fl.length:=Paired.length pf;have sl:64<=sizeLine:=by decide
 refine ao (wpAny_newList ?_ (by rw[ax,lb];omega));have Z:iz X y E D {B with heap:=j,toks:=r}:=I2.kept k3;have I4:iz X y E D {B with heap:=j.push (seqObj "list" (bs.map Value.ref).toArray 0),toks:=r}:=Z.kept λb o e=>ae _ e;have hlf:f<j.objs.size:=aM (k3 _ _ gf);have n4:D j.objs.size=none:=Z.hok.fresh (aL _);refine ao (wpAny_holding (wpAny_call_entry_kw slot_list_sort ⟨_,ar _ rfl,rfl⟩ entry_list_sort ?_ (ksk_l1 _ _)));show wpAny (model X.prog X.w) X.A.in1.in1 (Builtin.«list.sort» ⟨[.ref j.objs.size],[(Str.ofString "key",.ref f)]⟩) _ _ _;rw[ksk_t1];refine Es (bs:=bs) (fl:=fl) (by have:=hr.units;omega) I4 (Z.ow (aL _)) (I1.ow hf) n4 nf (bB hlf) (ar _ rfl) (ae _ (k3 _ _ gf)) tb (Rz hr S hx hd Y (hb _ _ _ _)) (Paired.mapP pf λ_ _ z=>z.mono sm) h64 λH' s' bs' F J sm' e5 N U pw=>?_;refine⟨_,rfl,ak ⟨_,rfl,.ref j.objs.size,H',J,rfl,q _ H' bs' F (sm.trans sm') (sm.free n4) e5 N U pw⟩⟩
end
end L2
namespace L2
open PySem PySem.Spec PySem.W PyProof.Rows
def Kd{H:Hp}{b:Addr}{g:Ky}(x:xW H b g):A5 H (.inl g.1,g.2.map .inl) b:=let ⟨b2,e1,e2⟩:=x;⟨b2,e1,by rw[aJ];exact e2⟩
section
variable {X:Cx}{pos pos':Pos}
def L6(P:Program)(w:World)(H:Hp)(h:Heap)(a:sysModules<h.objs.size):jL P w H (h.push {cls:=.type "dict",data:=.dict #[]}) h.objs.size (yL P w h.objs.size []):=Lf ⟨beq_eq_false_iff_ne.mpr (Ne.symm (aN a)),bL _,_,#[],0,ar _ rfl,⟨rfl,rfl,rfl⟩,rfl,rfl,List.nodup_nil⟩
def LY(P:Program)(w:World)(d e:TE):TE:=λc H Q=>∀p,H p=none->d c (ja H p (yL P w p [])) λx f=>e c f λy a=>a p=some (yL P w p [])/\∃k b,x=.ref b/\A5 a k b/\∀r,i9 y r->Q (.ref p) (ja a p (yL P w p [(k,b,r)]))
def Kk{k v:Expr}{l i:TE}(R:X.A.units+2<cLine)(P:PE X k l)(L:PE X v i):PE X (.Dict [some k] [v] pos) (LY X.prog X.w l i):=by intro j s f H Q I h;have n:=I.hok.fresh (aL s.heap.objs.size);have E:=I.laid (a:=s.heap.objs.size) (o:=yL X.prog X.w s.heap.objs.size []) (h':=s.heap.push {cls:=.type "dict",data:=.dict #[]}) (t':=s.toks) (λ_ _ q=>ae _ q) (aL _) (L6 _ _ _ s.heap I.big);refine wpAny_Dict_any rfl rfl (λz=>nomatch z) (show 1<=15 by decide) (pairTrees_cons_walk (kh (P j _ f _ _ E (h _ n)) λu s1 ⟨x,H1,J1,rx,q1⟩=>kh (L j s1 f H1 _ J1 q1) λr s2 ⟨y,H2,J2,ry,e,k',b,ex,fk,q2⟩=>pairTrees_nil_walk ?_));subst ex;cases (show u=Value.ref b from rx);show wpAny _ _ (forIn [(Value.ref b,r)] PUnit.unit _) _ _ s2;rw[cq];obtain⟨N,F⟩:=Gw J2.hok e (λx p=>nomatch p);refine ao (ao (wpAny_dictSet_heap (show X.A.units+1<cLine by omega) (Me J2.hok fk) F (λh' c B=>?_) (bL _)));refine ak ?_;dsimp only;rw[cz];obtain⟨q,J,t,m,D,C,d,_,g⟩:=c;have K:storedH ([]:List FE) k' b r=[(k',b,r)]:=rfl;rw[K]at d g;exact ak ⟨.ref s.heap.objs.size,_,Gk J2 (by rw[e];exact True.intro) B ⟨q,m⟩ (Lf ⟨N.1,by show 1<=sizeLine;decide,q,J,t,m,D,C,d,g⟩),rfl,q2 r ry⟩
def PD(P:Program)(w:World)(f ty i:TE):TS:=λD d H=>i d H λv g=>f d g λx h=>ty d h λy e=>∃a b c k,x=.ref a/\y=.ref b/\e a=some (yL P w a c)/\(∀x∈c,A5 e x.1 x.2.1)/\A5 e k b/\c.length<sizeLine/\∀r,i9 v r->D.nx d (ja e a (yL P w a (storedH c k b r)))
def My{o i c:Expr}{g ty j:TE}(t:X.A.units+2<cLine)(n:PE X o g)(z:PE X i ty)(q:PE X c j)(m:swapsWith c (some (.Subscript o i pos')) pos.line X.env=pure false) :
  PS X (.Assign [.Subscript o i pos'] c pos) (PD X.prog X.w g ty j):=by
 intro f s d H D I h;refine wpAny_Assign_Subscript (kh (q f s d H _ I h) λr s1 ⟨v,H1,I1,rv,q1⟩=>kh (n f s1 d H1 _ I1 q1) λu s2 ⟨x,H2,I2,rx,q2⟩=>kh (z f s2 d H2 _ I2 q2) λiv s3 ⟨y,H3,I3,ry,a,b,xs,k,ex,ey,e,fk,fb,l,q3⟩=>?_) m;subst ex;subst ey;cases (show u=Value.ref a from rx);cases (show iv=Value.ref b from ry);exact QO t I3 e fk fb l λB p=>⟨d,_,p,q3 r rv⟩
end
def OQ(P:Program)(w:World)(F H:Hp)(a:Addr)(bs:List Addr)(fl:List Ky):Prop:=∃b:List FE,H a=some (yL P w a b)/\bs=b.map (·.2.1)/\Paired (λ(x:FE) (f:Ky)=>x.1=(.inl f.1,f.2.map .inl)/\xW F x.2.1 f) b fl
def v5(fl:List Ky)(g:Ky):List Ky:=if g∈fl then fl else fl++[g]
section
variable {P:Program}{w:World}{F F' H H':Hp}{a b:Addr}{bs:List Addr}{fl:List Ky}{g:Ky}
def OQ.mono(x:OQ P w F H a bs fl)(c:iq F F')(d:iq H H'):OQ P w F' H' a bs fl:=let ⟨xs,e,h,p⟩:=x;⟨xs,d _ _ e,h,Paired.mapP p λ_ _ z=>⟨z.1,z.2.mono c⟩⟩
def Pj{xs:List FE}{fl:List Ky}(p:Paired (λ(x:FE) (f:Ky)=>x.1=(.inl f.1,f.2.map .inl)/\xW F x.2.1 f) xs fl)(s:iq F H):∀x∈xs,A5 H x.1 x.2.1:=by
 induction p with
 |nil=>exact λx c=>nomatch c
 |cons h t ih=>
  intro x c;rcases aG.mp c with rfl|c
  .rw[h.1];exact Kd (h.2.mono s)
  .exact ih x c
def OQ.flr(x:OQ P w F H a bs fl):Paired (xW F) bs fl:=by
 obtain⟨c,e,rfl,p⟩:=x;clear e;induction p with
 |nil=>exact .nil
 |cons h t ih=>exact .cons h.2 ih
def Pa{f g:Ky}(h:((Sum.inl f.1,f.2.map Sum.inl):pD×List pD)=(.inl g.1,g.2.map .inl)):f=g:=by obtain⟨a,b⟩:=f;obtain⟨c,d⟩:=g;have e:=Prod.mk.inj h;have j:a=c:=Sum.inl.inj e.1;have i:b=d:=(dN λ_ _ w=>Sum.inl.inj w).mp e.2;rw[j,i]
def Qx{xs:List FE}{fl:List Ky}(p:Paired (λ(x:FE) (f:Ky)=>x.1=(.inl f.1,f.2.map .inl)/\xW F x.2.1 f) xs fl)(g:Ky):(atKey xs (.inl g.1,g.2.map .inl)).isSome=decide (g∈fl):=by
 induction p with
 |nil=>simp[atKey]
 |@cons x f xs fl h t ih=>
  unfold atKey at ih ⊢;rw[List.find?_cons];by_cases e:f=g
  .subst e;rw[show decide (x.1=((Sum.inl f.1,f.2.map Sum.inl):pD×List pD))=true from aC h.1];simp
  .rw[show decide (x.1=((Sum.inl g.1,g.2.map Sum.inl):pD×List pD))=false from aB λz=>e (Pa (h.1.symm.trans z))];have:decide (g∈f::fl)=decide (g∈fl):=by simp[Ne.symm e]
   rw[this];exact ih
def QW{xs:List FE}{r:Value}(p:Paired (λ(x:FE) (f:Ky)=>x.1=(.inl f.1,f.2.map .inl)/\xW F x.2.1 f) xs fl)(d:xW F b g):∃c,OQ P w F (ja H a (yL P w a (storedH xs (.inl g.1,g.2.map .inl) b r))) a c (v5 fl g):=by
 refine⟨_,_,hC,rfl,?_⟩;unfold storedH v5;rw[Qx p g];by_cases e:g∈fl
 .rw[aR (aC e),aR e];clear e;induction p with
  |nil=>exact .nil
  |@cons x f xs fl h t ih=>
   refine .cons ?_ ih;unfold putAt;split
   .exact⟨h.1,h.2⟩
   .exact h
 .rw[aS (by simpa using e),aS e];clear e;induction p with
  |nil=>exact .cons ⟨rfl,d⟩ .nil
  |cons h t ih=>exact .cons h ih
end
end L2
namespace Cu
noncomputable def G(a b:Int):Int:=(Int.gcd a b:Nat)
def Lo a b:G b (Int.fmod a b)=G a b:=by
 unfold G;have e:=Int.fmod_def a b;rw[e];congr 1;apply Nat.dvd_antisymm
 .apply Int.dvd_gcd
  .have f:=dW b (a-b*Int.fdiv a b);have h:=dX b (a-b*Int.fdiv a b);have d:=Int.dvd_add h (dY (c:=Int.fdiv a b) f);have g:a-b*Int.fdiv a b+b*Int.fdiv a b=a:=by omega
   rw[g]at d;exact d
  .exact dW b _
 .apply Int.dvd_gcd
  .exact dX a b
  .exact Int.dvd_sub (dW a b) (dY (dX a b))
def yG a b (h:b≠0):(Int.fmod a b).natAbs<b.natAbs:=by
 rcases Int.lt_or_gt_of_ne h with c|c
 .have d:=dZ (-a) (show 0 < -b by omega);have e:=d6 (-a) (show 0 < -b by omega);rw[Int.neg_fmod_neg]at d e;omega
 .have d:=dZ a c;have e:=d6 a c;omega
def Tf a b:G (a.natAbs:Int) (b.natAbs:Int)=G a b:=by unfold G Int.gcd;rw[d7,d7]
def wd a:G a 0=(a.natAbs:Int):=by unfold G;rw[Int.gcd_zero_right]
def nH a b:0<=G a b:=Int.natCast_nonneg _
def sE a b:G a b ∣ a:=dW a b
def n6 a b:G a b ∣ b:=dX a b
def Sh a b (h:b≠0):G a b<=(b.natAbs:Int):=by have:=d8.mpr (n6 a b);have c:=Nat.le_of_dvd (by omega) this;have:=nH a b;omega
end Cu
namespace Cu
open PySem PyProof.Rows
open PySem.Builtin.Int (intBits)
def noPy(h:intBits y<=m)(c:m<=8000):PySem.Builtin.divisionGoesByPylong x y=false:=by
 refine PyProof.noPylong_of_log2 ?_;rcases Nat.eq_zero_or_pos y.natAbs with a|b
 .rw[a];decide
 .refine (Nat.log2_lt (bB b)).mpr ?_;exact lt_pow_of_bits h (by omega)
end Cu
namespace L2
open PySem PySem.Spec PyProof.Rows
def Ja:lA X (.builtin "isinstance") (λxs H Q=>∃x T t b,xs=[x,.ty T]/\qH X.K H x t/\W.kitOne X.K t (.type T)=some b/\Q (.bl b) H):=by
 intro f s d H xs c Q I r h;obtain⟨x,T,t,b,rfl,ty,e,q⟩:=h;cases r with
 |cons r1 r2=>
  cases r2 with
  |cons r3 r4=>cases r4;cases (r3);exact Hx I r1 ty e λa=>⟨.bl b,H,I.tok a,rfl,q⟩
def QH:bootBuiltins "isinstance" = some (.builtin "isinstance"):=by decide +kernel
def pY:bootBuiltins "abs" = some (.builtin "abs"):=by decide +kernel
def wH:bootBuiltins "int" = some (.type "int"):=by decide +kernel
def Ax:bootBuiltins "bool" = some (.type "bool"):=by decide +kernel
def lJ:bootBuiltins "tuple" = some (.type "tuple"):=by decide +kernel
def lg:bootBuiltins "len" = some (.builtin "len"):=by decide +kernel
end L2
namespace C4
def VJ(c e:LI):Prop:=∀i j,i<c.length->j<c.length->c.getD i 0*e.getD j 0=c.getD j 0*e.getD i 0
def par_of_place(f:c.getD p 0≠0)(h:∀i,i<c.length->c.getD i 0*e.getD p 0=e.getD i 0*c.getD p 0):VJ c e:=λi j g l=>by have a:=h i g;have k:=h j l;refine Int.eq_of_mul_eq_mul_right f ?_;have b:c.getD i 0*e.getD j 0*c.getD p 0=c.getD i 0*(e.getD j 0*c.getD p 0):=d9 _ _ _;have d:c.getD j 0*e.getD i 0*c.getD p 0=c.getD j 0*(e.getD i 0*c.getD p 0):=d9 _ _ _;rw[b,d,<-a,<-k,<-d9,<-d9,ee (c.getD i 0) (c.getD j 0)]
end C4
namespace L2
open PySem PySem.W PySem.Spec PyProof.Rows
def w5(K:W.Frag)(xs:List Str):Bool:=xs.all (λx=>match tabIn K x with
  |some (c,P)=>(K.lookup P).isNone&&codeIn K (.ref c) x
  |none=>false)&&decide ((xs.map λx=>(tabIn K x).map (·.2)).Nodup)
def uj(H0:Hp)(a:List (Addr×Addr×Str)):Hp:=λb=>match a.find? (λq=>q.2.1==b) with
 |some q=>some (.tbl (q.2.2++ ".<locals>.<lambda>") #[])
 |none=>H0 b
def Gm{H0:Hp}{a:List (Addr×Addr×Str)}(b:∀q∈a,∀r∈a,q.2.1=r.2.1->q=r){q:Addr×Addr×Str}(c:q∈a):uj H0 a q.2.1=some (.tbl (q.2.2++ ".<locals>.<lambda>") #[]):=by
 unfold uj;cases e:a.find? (λr=>r.2.1==q.2.1) with
 |none=>exact absurd (List.find?_eq_none.mp e q c) (by simp)
 |some r=>have d:=eh e;have f:=List.find?_some e;obtain rfl:=b r d q c (by simpa using f);rfl
def Nn{H0:Hp}{a:List (Addr×Addr×Str)}{b:Addr}{u:HO}(h:uj H0 a b=some u):(∃q∈a,q.2.1=b/\u=.tbl (q.2.2++ ".<locals>.<lambda>") #[])\/((∀q∈a,q.2.1≠b)/\H0 b=some u):=by
 unfold uj at h;cases e:a.find? (λr=>r.2.1==b) with
 |none=>rw[e]at h;exact .inr ⟨λq c z=>List.find?_eq_none.mp e q c (by simpa using z),h⟩
 |some r=>rw[e]at h;cases h;exact .inl ⟨r,eh e,by simpa using List.find?_some e,rfl⟩
def JV{H0:Hp}{a:List (Addr×Addr×Str)}{b:Addr}(h:∀q∈a,q.2.1≠b):uj H0 a b=H0 b:=by unfold uj;rw[List.find?_eq_none.mpr λq c=>by simpa using h q c]
theorem Hv{K:W.Frag}{P:Program}{w:World}{g:Shared}{mg mb:Str->Option Value}{a fa:Addr}{vs:List Value}{Z:LI}{k:Nat}{fd:FuncData}{x:Str}{sp:Sp}(f:List (Addr×Addr×Str))
  (KX:K.In g.heap) (hns:g.heap.Ns mainGlobals mg) (A:g.heap.Ns builtinsNs mb) (hbb:∀x:Str,x≠ "__name__" ->mb x=bootBuiltins x) (hlim:g.heap.NoLimit) (hg:g.gens = #[])
  (ha:g.heap.get? a=some {cls:=.type "list",data:=.seq vs.toArray}) (hi:IntsAre vs Z) (hl:Z.length<=sizeLine) (hr:ji k callerA)
  (L:∀q∈f,CodeHd g.heap q.1 q.2.1/\g.heap.get? q.2.1=some (tabObj #[])/\K.lookup q.2.1=none/\g.heap.CodeRec (.ref q.1) q.2.2/\g.heap.BuiltinsAt mg q.2.1) (hnd:∀q∈f,∀r∈f,q.2.1=r.2.1->q=r)
  (F:∀j:Heap,K.In j->j.Ns mainGlobals mg->(∀q∈f,CodeHd j q.1 q.2.1/\(q.1,q.2.1)∈j.life.ids/\j.CodeRec (.ref q.1) q.2.2/\j.BuiltinsAt mg q.2.1)->nM P w K mg j sh k fa fd [x] sp) (X:∀(s:Shared) (u:Value),BindsTo s fd ⟨[u],[]⟩ [(x,u)])
  (hsp:∀H:Hp,lS K H a (Z.map V.int)->sp [.ref a] H (λv _=>v=.bl true) λ_ _ _=>False) :
  codeAny (model P w) callerA (.call (.ref fa) ⟨[.ref a],[]⟩) (λr C=>r=.ok (.ret (.bool true))/\OldK g.heap C.heap/\C.os=g.os/\AllBare C.gens) g:=by
 have rv:=yH hi;have lenV:=hi.length;have tne:∀q∈f,q.2.1≠a:=λq i z=>by have:=(L q i).2.1;rw[z,ha]at this;cases this
 have N:∀H0:Hp,(∀b u,H0 b=some u->b=a/\∃o xs,u=.frz o (.lst xs))->lS K H0 a (Z.map V.int)->qZ P w H0 g.heap->(H0 a≠none->K.lookup a=none)->
   codeAny (model P w) callerA (.call (.ref fa) ⟨[.ref a],[]⟩) (λr C=>r=.ok (.ret (.bool true))/\OldK g.heap C.heap/\C.os=g.os/\AllBare C.gens) g:=by
  intro H0 hO hS hok hK;have cases3:∀b u,uj H0 f b=some u->(∃q∈f,q.2.1=b/\u=.tbl (q.2.2++ ".<locals>.<lambda>") #[])\/(b=a/\H0 b=some u):=λb u h=>by
   rcases Nn h with z|⟨_,z⟩
   .exact .inl z
   .exact .inr ⟨(hO b u z).1,z⟩
  have free:∀{b:Addr} {o:Obj},g.heap.get? b=some o->(∀c,o.data≠.seq vs.toArray c)->(o≠tabObj #[])->uj H0 f b=none:=λ{b o} e d t=>by
   cases q:uj H0 f b with
   |none=>rfl
   |some u=>
    rcases cases3 b u q with⟨r,hr,z,_⟩|⟨z,_⟩
    .subst z;rw[(L r hr).2.1]at e;cases e;exact absurd rfl t
    .subst z;rw[ha]at e;cases e;exact absurd rfl (d 0)
  have baseOf:∀{b:Addr} {o:Obj},g.heap.get? b=some o->uj H0 f b=none->(qF g.heap (uj H0 f) (f.map λq=>(q.1,q.2.1))).get? b=some o:=λe n=>IF e n;have D:∀{b:Addr} {m:Str->Option Value},g.heap.Ns b m->(qF g.heap (uj H0 f) (f.map λq=>(q.1,q.2.1))).Ns b m:=λ{b m} ⟨o,es,ep,e,d,r⟩=>⟨o,es,ep,baseOf e (free e (λc z=>by rw[d]at z;cases z) λz=>by rw[z]at d;cases d),d,r⟩;have hKb:K.In (qF g.heap (uj H0 f) (f.map λq=>(q.1,q.2.1))):=λb o e=>baseOf (KX b o e) (by
   cases q:uj H0 f b with
   |none=>rfl
   |some u=>
    rcases cases3 b u q with⟨r,hr,z,_⟩|⟨z,y⟩
    .subst z;rw[(L r hr).2.2.1]at e;cases e
    .subst z;rw[hK (by rw[y];exact λw=>nomatch w)]at e;cases e)
  have hM:Mod K mg (qF g.heap (uj H0 f) (f.map λq=>(q.1,q.2.1))):=⟨hKb,D hns,⟨mb,D A,hbb⟩,let ⟨mc,Y,h2⟩:=hlim;⟨mc,D Y,h2⟩⟩;have crec:∀{c:Addr} {n:Str},g.heap.CodeRec (.ref c) n->(∃P,CodeHd g.heap c P)->(qF g.heap (uj H0 f) (f.map λq=>(q.1,q.2.1))).CodeRec (.ref c) n:=λ{c n} ⟨c',o,fs,t,E,l,U,e4⟩ ⟨P,o',vs',_,_,_,_,_,_,_,f1,f2,_⟩=>by cases E;rw[l]at f1;cases f1;exact⟨c,o,fs,t,rfl,baseOf l (free l (λc z=>by rw[U]at z;cases z) λz=>by rw[z]at f2;cases f2),U,e4⟩
  have p:∀q∈f,CodeHd (qF g.heap (uj H0 f) (f.map λq=>(q.1,q.2.1))) q.1 q.2.1/\(q.1,q.2.1)∈(qF g.heap (uj H0 f) (f.map λq=>(q.1,q.2.1))).life.ids/\(qF g.heap (uj H0 f) (f.map λq=>(q.1,q.2.1))).CodeRec (.ref q.1) q.2.2/\(qF g.heap (uj H0 f) (f.map λq=>(q.1,q.2.1))).BuiltinsAt mg q.2.1:=λq i=>by
   obtain⟨Y,h2,h3,h4,h5⟩:=L q i;refine⟨?_,aE.mpr ⟨q,i,rfl⟩,crec h4 ⟨_,Y⟩,?_⟩
   .obtain⟨o,fs,file,tf,R,tg,inF,text,tt,E,l,U,r⟩:=Y;exact⟨o,fs,file,tf,R,tg,inF,text,tt,baseOf E (free E (λc z=>by rw[U]at z;cases z) λz=>by rw[z]at l;cases l),l,U,r⟩
   .obtain⟨bm,o,b1,b2,b3,b4,b5,b6,b7,b8⟩:=h5;exact⟨bm,o,b1,b2,b3,b4,baseOf b5 (free b5 (λc z=>by rw[b8]at z;cases z) λz=>by rw[z]at b6;cases b6),b6,b7,b8⟩
  have hokT:qZ P w (uj H0 f) g.heap:=λb u e=>by
   rcases cases3 b u e with⟨q,i,z,rfl⟩|⟨z,y⟩
   .subst z;exact⟨(L q i).2.1,True.intro,λv hv=>nomatch hv⟩
   .obtain⟨_,o,xs,rfl⟩:=hO b u y;have:=hok b _ y;obtain⟨Y,h2⟩:=this;exact⟨Y,h2⟩
  have tabF:Fs (qF g.heap (uj H0 f) (f.map λq=>(q.1,q.2.1))) (uj H0 f):=λc P qn hm hc=>by obtain⟨q,i,e⟩:=aE.mp (show (c,P)∈f.map λq=>(q.1,q.2.1) from hm);cases e;obtain⟨c1,o1,v1,t1,E,l,U,e4⟩:=hc;obtain⟨c2,o2,v2,t2,f1,f2,f3,f4⟩:=(p q i).2.2.1;cases E;cases f1;rw[l]at f2;cases f2;rw[U]at f3;cases f3;rw[e4]at f4;cases f4;exact⟨#[],Gm hnd i⟩
  have e0:xt P w K mg (qF g.heap (uj H0 f) (f.map λq=>(q.1,q.2.1))) callerA [] g (uj H0 f):=⟨rfl,hM,λb o e=>MW e,Nat.le_of_eq (Hz _ _),trivial,λb A=>absurd (show b∈([]) from A) (by simp),hokT,.of_eq hg,tabF⟩;have hS':lS K (uj H0 f) a (Z.map V.int):=by
   rcases hS with (h|⟨o,h⟩)|h
   .exact .inl (.inl (by rw[JV tne];exact h))
   .exact .inl (.inr ⟨o,by rw[JV tne];exact h⟩)
   .exact .inr h
  refine codeAny_mono ((F _ hKb (D hns) p).run callerA [] g (uj H0 f) ⟨[.ref a],[]⟩ [.ref a] [.ref a] _ _ hr e0 (X g (.ref a)) (.cons rfl .nil) (hsp _ hS')) λr C h=>?_;cases r with
  |error e=>exact h.elim
  |ok fl=>
   cases fl with
   |next=>exact False.elim h
   |brk=>exact False.elim h
   |cont=>exact False.elim h
   |ret u=>
    obtain⟨v,H',os,bare,un,J,r',q⟩:=h;have q':=q;subst q';obtain rfl:u=Value.bool true:=r';have I:∀b o,g.heap.get? b=some o->(∀q∈f,q.2.1≠b)->C.heap.get? b=some o:=λb o e n=>by
     cases q:uj H0 f b with
     |none=>exact un.keep b o e q (by intro z;exact absurd (show b∈([]) from z) (by simp)) (by simp)
     |some u=>
      rcases cases3 b u q with⟨r,hr,z,_⟩|⟨z,y⟩
      .exact absurd z (n r hr)
      .obtain⟨_,ob,xs,rfl⟩:=hO b u y;have z2:=un.frzs b ob _ q;obtain⟨E,_⟩:=hok b _ y;obtain⟨l,_⟩:=J b _ z2;rw[e]at E;cases E;exact l
    have B:∀q∈f,∃ps,C.heap.get? q.2.1=some (tabObj ps):=λq i=>by obtain⟨more,e⟩:=un.tbls _ _ _ (Gm (H0:=H0) hnd i);exact⟨_,(show jL P w H' C.heap q.2.1 (.tbl _ _) from J _ _ e).1⟩
    refine⟨rfl,⟨λb o e=>?_,λb o e=>?_⟩,os,bare⟩
    .by_cases i:∃q∈f,q.2.1=b
     .obtain⟨q,i,rfl⟩:=i;obtain⟨ps,hp⟩:=B q i;have l:=(L q i).2.1;rw[e]at l;cases l;exact .inr (.inl ⟨((L q i).1.tab (L q i).2.1).isCodeTable,rfl,#[],ps,rfl,by rw[Array.empty_append];exact hp⟩)
     .exact .inl (I b o e λq S z=>i ⟨q,S,z⟩)
    .by_cases i:∃q∈f,q.2.1=b
     .obtain⟨q,i,rfl⟩:=i;obtain⟨ps,hp⟩:=B q i;exact⟨_,hp⟩
     .exact⟨o,I b o e λq S z=>i ⟨q,S,z⟩⟩
 cases hk:K.lookup a with
 |some o=>have e:=KX a o hk;rw[ha]at e;cases e;exact N (λ_=>none) (λb u z=>nomatch z) (.inr ⟨_,vs.toArray,_,hk,rfl,rfl,rfl,by rw[bG,lenV];exact hl,by simpa using rv⟩) (λb u z=>nomatch z) λz=>absurd rfl z
 |none=>
  refine N (λb=>if b=a then some (.frz {cls:=.type "list",data:=.seq vs.toArray} (.lst (Z.map V.int))) else none) (λb u z=>?_) (.inl (.inr ⟨{cls:=.type "list",data:=.seq vs.toArray},aR rfl⟩)) (λb u z=>?_) λ_=>hk
  .by_cases A:b=a
   .have Q:=(aR A).symm.trans z;cases Q;exact⟨A,_,_,rfl⟩
   .have Q:=(aS A).symm.trans z;cases Q
  .by_cases A:b=a
   .have Q:=(aR A).symm.trans z;cases Q;subst A;exact⟨ha,by rw[ax];exact hl,vs,_,rv,ha⟩
   .have Q:=(aS A).symm.trans z;cases Q
theorem LJ{l:W.OpenLaw}{n k:Nat}{q:Program}{D:List Str}{XP:(Str->Option Value)->Heap->Prop}{YP:World->Heap->Prop}{d:DefRec}{K:Params->W.Frag}{sp:W.Frag->Sp}{x:Str}(xs:List Str)
  (hn:l.most=some n) (hn2:n<=sizeLine) (hdf:d.params.defaults=[]) (hr:ji k callerA)
  (hY:∀(w:World) (h:Heap),YP w h->(K w.params).In h) (hx:∀x∈xs,∃d',(recsOf q).find? (λe=>e.name==x)=some d') (hk:∀w:World,w5 (K w.params) xs=true)
  (F:∀(w:World) (mg:Str->Option Value) (fa:Addr) (h:Heap),(K w.params).In h->h.Ns mainGlobals mg->mg d.name=some (.ref fa)->
   ∃fd:FuncData,(∀(s:Shared) (u:Value),BindsTo s fd ⟨[u],[]⟩ [(x,u)])/\
    ∀i:Heap,(K w.params).In i->i.Ns mainGlobals mg->(∀y∈xs,Ha (K w.params) mg i y)->nM l.prog w (K w.params) mg i sh k fa fd [x] (sp (K w.params)))
  (hsp:∀(K:W.Frag) (H:Hp) (a:Addr) (L:LI),L.length<=n->(∀z∈L,PySem.Builtin.Int.intBits z<=2 ^ 20)->lS K H a (L.map V.int)->sp K [.ref a] H (λv _=>v=.bl true) λ_ _ _=>False) :
  W.WalkO q D XP YP l.row.toRowW d [] (λf vs=>PySem.call f vs):=by
 intro w s₀ s₁ mg mb G Y fa o pm cd doc dV kV ho hd hcd hD hmg hg args vals as X Q hrd hwl hlo;obtain rfl:dV=.none:=Dflts.none hD hdf;obtain rfl:kV=.none:=Dflts.noKw hD;obtain⟨a,vs,L,rfl,rfl,Z,B,mq⟩:=Att.script_of hn X hwl;have hb:∀z∈L,PySem.Builtin.Int.intBits z<=2 ^ 20:=λz hz=>by have U:=(layW_cons Q).1;have J:=layableW_item U (WData.int z) (aE.mpr ⟨z,hz,rfl⟩);exact PyData.bits_of_layable (layable_int J)
 have KX:=hY w _ Y;obtain⟨fd,hbd,hF⟩:=F w mg fa _ KX G.T.g hmg;have hk:=hk w;unfold w5 at hk;rw[bT]at hk;obtain⟨hk1,p⟩:=hk;have p:=of_decide_eq_true p;have one:∀y∈xs,∃c P,tabIn (K w.params) y=some (c,P)/\(K w.params).lookup P=none/\codeIn (K w.params) (.ref c) y=true:=λy j=>by
  have:=cH.mp hk1 y j;split at this
  .rename_i c P e;rw[bT]at this;exact⟨c,P,e,by simpa using this.1,this.2⟩
  .cases this
 obtain⟨bm,ob,b1,b2,b3,b4,b5,b6⟩:=G.T.bmain;have hbG:bm≠mainGlobals:=λz=>by obtain⟨o,es,ep,e,hd,_⟩:=G.T.g;rw[z,e]at b3;cases b3;rw[hd]at b6;cases b6
 have A:∀t∈xs.filterMap (λy=>(tabIn (K w.params) y).map λr=>(r.1,r.2,y)),t.2.2∈xs/\tabIn (K w.params) t.2.2=some (t.1,t.2.1):=λt S=>by obtain⟨y,j,e⟩:=bE.mp S;obtain⟨r,m,rfl⟩:=dR.mp e;exact⟨j,m⟩
 have inj:∀{N:List Str},(N.map λx=>(tabIn (K w.params) x).map (·.2)).Nodup->∀y∈N,∀z∈N,(tabIn (K w.params) y).map (·.2)=(tabIn (K w.params) z).map (·.2)->y=z:=λ{N} nd=>by
  induction N with
  |nil=>exact λy j=>nomatch j
  |cons u N ih=>
   rw[bJ,bO]at nd;intro y j z hz e;rcases aG.mp j with m|R
   .rcases aG.mp hz with I|E
    .exact m.trans I.symm
    .exact absurd (aE.mpr ⟨z,E,by rw[<-m];exact e.symm⟩) nd.1
   .rcases aG.mp hz with I|E
    .exact absurd (aE.mpr ⟨y,R,by rw[<-I];exact e⟩) nd.1
    .exact ih nd.2 y R z E e
 refine enter_call (codeAny_mono (Hv (xs.filterMap λy=>(tabIn (K w.params) y).map λr=>(r.1,r.2,y)) KX G.T.g G.T.b G.T.builtins G.T.nolimit hg Z B (aO mq hn2) hr (λt S=>?_) (λt S t' ht' e=>?_) (λi U J h3=>hF i U J λy j=>?_) hbd (λH hS=>hsp _ H a L mq hb hS)) λr s' hq=>?_)
 .obtain⟨j,e⟩:=A t S;obtain⟨d',hd'⟩:=hx _ j;obtain⟨C,hP⟩:=tab_of G.T KX hd' e;obtain⟨c,P,e',hl,hc⟩:=one _ j;rw[e]at e';obtain⟨t1,t2,t3⟩:=t;cases e';exact⟨C,hP,hl,codeRec_of KX hc,bm,ob,b1,b2,hbG,(λz=>by rw[z,hP]at b3;cases b3;cases b4),b3,b4,b5,b6⟩
 .obtain⟨j,m⟩:=A t S;obtain⟨hy',I⟩:=A t' ht';have:t.2.2=t'.2.2:=inj p _ j _ hy' (by rw[m,I];simp[e]);rw[this,I]at m;obtain⟨t1,t2,t3⟩:=t;obtain⟨t1',t2',t3'⟩:=t';cases m;cases this;rfl
 .intro f oc od fd' osl hm hlk;obtain⟨c,P,e,hl,hc⟩:=one y j;obtain⟨f1,f2,f3,f4⟩:=h3 (c,P,y) (bE.mpr ⟨y,j,by rw[e];rfl⟩);exact⟨c,P,law_code U J e hm (U _ _ hlk) rfl,f1,f2,f3,f4⟩
 obtain⟨rfl,J,h3,h4⟩:=hq;exact⟨.inl ⟨.bool true,.bool true,[],rfl,λ_=>rfl,.bool true,Att.post_true l _,λ_=>⟨List.Pairwise.nil,λ_ hm=>(nomatch hm)⟩⟩,J,h3,h4⟩
end L2
namespace L3
open PySem L2
inductive T where
 |non|bl (b:Bool)|int (i:Int)|str (x:Str)
 |tup (ts:List T)|lst (ts:List T)|scr (ns:LI)
 |obj (C:Addr) (fs:List (Str×T))|emp
 |dic (kvs:List (LI×T))
inductive M(α:Type) where
 |bad|ok (a:α)|er (C:Addr) (n:Option Int)
namespace M
noncomputable def bind{c b:Type}(m:M c)(k:c->M b):M b:=match m with
 |.bad=>.bad
 |.ok a=>k a
 |.er C n=>.er C n
instance:Monad M where
 pure:=.ok
 bind:=M.bind
noncomputable def res{b:Type}(m:M b)(P:b->Prop)(E:Addr->Option Int->Prop):Prop:=match m with
 |.bad=>False
 |.ok a=>P a
 |.er C n=>E C n
def res.unb{m:M α}{k:α->M β}{P:β->Prop}(h:res (m.bind k) P E):res m (λa=>res (k a) P E) E:=by cases m<;>exact h
def res.mono{m:M α}{P b:α->Prop}(h:res m P E)(c:∀a,P a->b a)(d:∀C n,E C n->E' C n):res m b E':=by
 cases m with
 |bad=>exact h
 |ok a=>exact c a h
 |er C n=>exact d C n h
noncomputable def noEr{a:Type}(m:M a):M a:=match m with
 |.er _ _=>.bad
 |m=>m
def res.noEr{m:M α}{P:α->Prop}(h:res m.noEr P E):res m P E':=by
 cases m with
 |bad=>exact h
 |ok a=>exact h
 |er C n=>exact h.elim
@[simp] theorem bind_ok a (k:α->M β):M.bind (.ok a) k=k a:=rfl
@[simp] theorem Ti(k:α->M β):M.bind (.bad:M α) k=.bad:=rfl
@[simp] theorem Uv C n (k:α->M β):M.bind (.er C n:M α) k=.er C n:=rfl
noncomputable def NoE{a:Type}(m:M a):Prop:=∀C n,m≠.er C n
def res.ne{m:M α}{P:α->Prop}(h:res m P E)(ne:NoE m):res m P E':=by
 cases m with
 |bad=>exact h
 |ok a=>exact h
 |er C n=>exact absurd rfl (ne C n)
@[simp] theorem noEr_ok(a:α):noEr (.ok a)=.ok a:=rfl
end M
mutual
inductive kU(K:W.Frag)(F:Hp):V->T->Prop
 |non:kU K F .non .non
 |bl (b:Bool):kU K F (.bl b) (.bl b)
 |int (i:Int):kU K F (.int i) (.int i)
 |str (x:Str):kU K F (.str x) (.str x)
 |tup {a:Addr} {xs:List V} {ts:List T} (h:F a=some (.tup xs)) (r:iB K F xs ts):kU K F (.ref a) (.tup ts)
 |lst {a:Addr} {xs:List V} {ts:List T} (h:F a=some (.lst xs)) (r:iB K F xs ts):kU K F (.ref a) (.lst ts)
 |scr {a:Addr} {ns:LI} (h:lS K F a (ns.map V.int)):kU K F (.ref a) (.scr ns)
 |obj {a C dx:Addr} {fs:List (Str×V)} {ts:List (Str×T)} (h:F a=some (.ins C dx fs)) (r:oQ K F fs ts):kU K F (.ref a) (.obj C ts)
 |emp {a:Addr} (h:F a=some (.dK [])):kU K F (.ref a) .emp
 |dic {a:Addr} {xs:List (List pD×V)} {kvs:List (LI×T)} (h:F a=some (.dT xs)) (r:AA K F xs kvs):kU K F (.ref a) (.dic kvs)
inductive iB(K:W.Frag)(F:Hp):List V->List T->Prop
 |nil:iB K F [] []
 |cons {v:V} {t:T} {vs:List V} {ts:List T} (h:kU K F v t) (r:iB K F vs ts):iB K F (v::vs) (t::ts)
inductive oQ(K:W.Frag)(F:Hp):List (Str×V)->List (Str×T)->Prop
 |nil:oQ K F [] []
 |cons {x:Str} {v:V} {t:T} {vs:List (Str×V)} {ts:List (Str×T)} (h:kU K F v t) (r:oQ K F vs ts):oQ K F ((x,v)::vs) ((x,t)::ts)
inductive AA(K:W.Frag)(F:Hp):List (List pD×V)->List (LI×T)->Prop
 |nil:AA K F [] []
 |cons {k:LI} {v:V} {t:T} {vs:List (List pD×V)} {ts:List (LI×T)} (h:kU K F v t) (r:AA K F vs ts):AA K F ((k.map Sum.inl,v)::vs) ((k,t)::ts)
end
section
variable {K:W.Frag}{F F':Hp}
mutual
theorem kU.mono(s:iq F F'):∀{v} {t},kU K F v t->kU K F' v t
 |_,_,.non=>.non
 |_,_,.bl b=>.bl b
 |_,_,.int i=>.int i
 |_,_,.str x=>.str x
 |_,_,.tup h r=>.tup (s _ _ h) (iB.mono s r)
 |_,_,.lst h r=>.lst (s _ _ h) (iB.mono s r)
 |_,_,.scr h=>.scr (s.seq h)
 |_,_,.obj h r=>.obj (s _ _ h) (oQ.mono s r)
 |_,_,.emp h=>.emp (s _ _ h)
 |_,_,.dic h r=>.dic (s _ _ h) (AA.mono s r)
theorem iB.mono(s:iq F F'):∀{vs} {ts},iB K F vs ts->iB K F' vs ts
 |_,_,.nil=>.nil
 |_,_,.cons h r=>.cons (kU.mono s h) (iB.mono s r)
theorem oQ.mono(s:iq F F'):∀{vs} {ts},oQ K F vs ts->oQ K F' vs ts
 |_,_,.nil=>.nil
 |_,_,.cons h r=>.cons (kU.mono s h) (oQ.mono s r)
theorem AA.mono(s:iq F F'):∀{vs} {ts},AA K F vs ts->AA K F' vs ts
 |_,_,.nil=>.nil
 |_,_,.cons h r=>.cons (kU.mono s h) (AA.mono s r)
end
theorem iB.length:∀{vs} {ts},iB K F vs ts->vs.length=ts.length
 |_,_,.nil=>rfl
 |_,_,.cons _ r=>by rw[az,az,iB.length r]
theorem iB.get:∀{vs:List V} {ts:List T} {i:Nat} {t:T},iB K F vs ts->ts[i]? = some t->∃v,vs[i]? = some v/\kU K F v t
 |_,_,_,_,.nil,e=>by simp at e
 |_,_,0,_,.cons h _,e=>by simp at e;subst e;exact⟨_,rfl,h⟩
 |_,_,i+1,_,.cons _ r,e=>by obtain⟨v,a,h⟩:=iB.get r (by simpa using e);exact⟨v,by simpa using a,h⟩
def iB.at_{i:Nat}(r:iB K F vs ts)(e:vs[i]? = some v):∃t,ts[i]? = some t/\kU K F v t:=by
 have b:i<ts.length:=by rw[<-r.length];exact (aa.mp e).1
 obtain⟨c,a,h⟩:=r.get (ag b);rw[e]at a;cases a;exact⟨_,ag b,h⟩
theorem iB.append:∀{vs us} {ts ss},iB K F vs ts->iB K F us ss->iB K F (vs++us) (ts++ss)
 |_,_,_,_,.nil,q=>q
 |_,_,_,_,.cons h r,q=>.cons h (iB.append r q)
theorem iB.set(q:kU K F v t):∀{vs} {ts} i,iB K F vs ts->iB K F (vs.set i v) (ts.set i t)
 |_,_,_,.nil=>.nil
 |_,_,0,.cons _ r=>.cons q r
 |_,_,i+1,.cons h r=>.cons h (iB.set q i r)
theorem iB.take:∀{vs} {ts} n,iB K F vs ts->iB K F (vs.take n) (ts.take n)
 |_,_,0,_=>.nil
 |_,_,_+1,.nil=>.nil
 |_,_,n+1,.cons h r=>.cons h (iB.take n r)
theorem iB.drop:∀{vs} {ts} n,iB K F vs ts->iB K F (vs.drop n) (ts.drop n)
 |_,_,0,r=>r
 |_,_,_+1,.nil=>.nil
 |_,_,n+1,.cons _ r=>iB.drop n r
theorem iB.rep:∀{vs} {ts} n,iB K F vs ts->iB K F (List.replicate n vs).flatten (List.replicate n ts).flatten
 |_,_,0,_=>.nil
 |_,_,n+1,r=>by rw[bX,bX,bY,bY];exact r.append (iB.rep n r)
theorem iB.ints:∀{vs:List V} {a:LI},iB K F vs (a.map T.int)->vs=a.map V.int
 |_,[],.nil=>rfl
 |_,_::_,.cons h r=>by cases h;rw[iB.ints r];rfl
theorem iB.bls:∀{vs:List V} {a:List Bool},iB K F vs (a.map T.bl)->vs=a.map V.bl
 |_,[],.nil=>rfl
 |_,_::_,.cons h r=>by cases h;rw[iB.bls r];rfl
theorem iB.of_ints:∀(a:LI),iB K F (a.map V.int) (a.map T.int)
 |[]=>.nil
 |n::a=>.cons (.int n) (iB.of_ints a)
theorem oQ.look:∀{fs} {ts},oQ K F fs ts->ts.lookup f=some t->∃v,fs.lookup f=some v/\kU K F v t
 |_,_,.nil,e=>by cases e
 |_,_,.cons (x:=x) h r,e=>by
  by_cases b:f=x
  .subst b;rw[eA]at e;cases e;exact⟨_,eA,h⟩
  .have a:(f==x)=false:=by simpa using b
   rw[cw,a]at e;obtain⟨v,d,c⟩:=oQ.look r e;exact⟨v,by rw[cw,a];exact d,c⟩
theorem oQ.none_:∀{fs} {ts},oQ K F fs ts->ts.lookup f=none->fs.lookup f=none
 |_,_,.nil,e=>rfl
 |_,_,.cons (x:=x) h r,e=>by
  by_cases a:f=x
  .subst a;rw[eA]at e;cases e
  .have b:(f==x)=false:=by simpa using a
   rw[cw,b]at e ⊢;exact oQ.none_ r e
end
def yF(h:Ih o (some u))(b:∀q a,u≠.tbl q a):o=u:=by
 cases o with
 |tbl q a=>obtain⟨m,e⟩:=h;exact absurd (Option.some.inj e) (b _ _)
 |_=>exact (Option.some.inj h).symm
def P8{x y:Option HO}(h:Ih o x)(k:∀a,x=some a->Ih a y):Ih o y:=by
 cases o with
 |tbl q ps=>obtain⟨m,e⟩:=h;obtain⟨b,c⟩:=k _ e;exact⟨m++b,by rw[c,bz]⟩
 |_=>exact k _ h
def wI{H:Hp}(h:Ih u (H b))(h':H p=none):b≠p:=λz=>h.ne (by rw[z];exact h')
structure Gr(F H F' H':Hp):Prop where
 ff:iq F F'
 fh:iq F' H'
 hh:iq H H'
 nw:∀a,F' a≠none->F a≠none\/H a=none\/∃xs,H a=some (.tup xs)
def Gr.refl(h:iq F H):Gr F H F H:=⟨.refl _,h,.refl _,λ_ h=>.inl h⟩
def iF(h:iq H H')(e:H' a=none):H a=none:=by
 cases q:H a with
 |none=>rfl
 |some o=>exact absurd e (h a o q).ne
def Gr.trans(g:Gr F H F' H')(b:Gr F' H' F'' H''):Gr F H F'' H'':=
 ⟨g.ff.trans b.ff,b.fh,g.hh.trans b.hh,λa d=>by
  rcases b.nw a d with q|q|⟨c,q⟩
  .exact g.nw a q
  .exact .inr (.inl (iF g.hh q))
  .cases z:H a with
   |none=>exact .inr (.inl rfl)
   |some o=>exact .inr (.inr ⟨c,by have k:=g.hh a o z;rw[q]at k;rw[yF k λ_ _ y=>nomatch y]⟩)⟩
def Gr.new(s:iq F H)(h:H p=none):Gr F H (ja F p o) (ja H p o):=by
 have c:=iF s h;refine⟨λb u e=>?_,λb u e=>?_,λb u e=>?_,λb a=>?_⟩
 .rw[hU (iC e c)];exact .of e
 .by_cases q:b=p
  .subst q;rw[hC]at e ⊢;exact .of e
  .rw[hU q]at e ⊢;exact s b u e
 .rw[hU (iC e h)];exact .of e
 .by_cases q:b=p
  .subst q;exact .inr (.inl h)
  .rw[hU q]at a;exact .inl a
def Gr.new'(s:iq F H)(h:H p=none):Gr F H F (ja H p o):=by
 refine⟨.refl _,λb u e=>?_,λb u e=>?_,λb a=>.inl a⟩
 .rw[hU (wI (s b u e) h)];exact s b u e
 .rw[hU (iC e h)];exact .of e
def Gr.take(g:Gr F0 H0 F H)(h:H p=some o)(d:F p=none)(c:H0 p=none):Gr F0 H0 (ja F p o) H:=by
 refine⟨λb u e=>?_,λb u e=>?_,g.hh,λb a=>?_⟩
 .rw[hU (wI (g.ff b u e) d)];exact g.ff b u e
 .by_cases q:b=p
  .subst q;rw[hC]at e;cases e;exact .of h
  .rw[hU q]at e;exact g.fh b u e
 .by_cases q:b=p
  .subst q;exact .inr (.inl c)
  .rw[hU q]at a;exact g.nw b a
def jx(a:F p=none):iq F (ja F p o):=λb u e=>by rw[hU (iC e a)];exact .of e
abbrev Pe:=List (Option T)
section
variable (K:W.Frag)
def lQ(F:Hp)(a:St)(ρ:Pe):Prop:=∀(i:Nat) (t:T),ρ[i]? = some (some t)->∃v,a[i]? = some (some v)/\kU K F v t
def lQ.mono{K:W.Frag}(h:lQ K F σ ρ)(s:iq F F'):lQ K F' σ ρ:=λi t e=>let ⟨v,a,b⟩:=h i t e;⟨v,a,b.mono s⟩
def V9(E:XK)(C:Addr)(n:Option Int)(F H:Hp):Prop:=match n with
 |none=>E (.ref C) none H
 |some i=>∀a,F a=some (.xd [("at",.int i)])->E (.ref C) (some a) H
def kE(E:XK)(F H:Hp)(C:Addr)(n:Option Int):Prop:=∀a b,Gr F H a b->V9 E C n a b
def kE.go(h:kE E F H C n)(g:Gr F H F1 H1):kE E F1 H1 C n:=λa b c=>h a b (g.trans c)
def kV(F H:Hp)(Q:VK)(t:T):Prop:=∀v a b,Gr F H a b->kU K a v t->Q v b
def kB(F H:Hp)(Q:Bool->Hp->Prop)(b:Bool):Prop:=∀c a,Gr F H c a->Q b a
def kA(F H:Hp)(Q:List V->Hp->Prop)(ts:List T):Prop:=∀a b c,Gr F H b c->iB K b a ts->Q a c
def kF(F H:Hp)(Q:VK)(ts:List T):Prop:=∀l c a b,Gr F H a b->H l=none->a l=none->b l=some (.lst c)->iB K a c ts->Q (.ref l) b
noncomputable def ME(E:XK)(t:TE)(f:Pe->M T):Prop:=∀F H b a Q,iq F H->lQ K F b a->(f a).res (kV K F H Q) (kE E F H)->t b H Q
noncomputable def MT(E:XK)(t:TT)(f:Pe->M Bool):Prop:=∀F H b a Q,iq F H->lQ K F b a->(f a).res (kB F H Q) (kE E F H)->t b H Q
noncomputable def MA(E:XK)(t:TA)(f:Pe->M (List T)):Prop:=∀F H b a Q,iq F H->lQ K F b a->(f a).res (kA K F H Q) (kE E F H)->t b H Q
noncomputable def MF(E:XK)(t:TE)(f:Pe->M (List T)):Prop:=∀F H b a Q,iq F H->lQ K F b a->(f a).res (kF K F H Q) (kE E F H)->t b H Q
end
section
variable {K:W.Frag}{E:XK}{t u ta tb:TE}{f g fa fb:Pe->M T}
def kV.go{t:T}(h:kV K F H Q t)(g:Gr F H F1 H1):kV K F1 H1 Q t:=λv a b c r=>h v a b (g.trans c) r
def kB.go{t:Bool}(h:kB F H Q t)(g:Gr F H F1 H1):kB F1 H1 Q t:=λa b c=>h a b (g.trans c)
def kF.go{t:List T}(h:kF K F H Q t)(g:Gr F H F1 H1):kF K F1 H1 Q t:=λl e i j k a b c d=>h l e i j (g.trans k) (iF g.hh a) b c d
def kV.now{t:T}(h:kV K F H Q t)(s:iq F H)(r:kU K F v t):Q v H:=h v F H (.refl s) r
def kF.of(h:kV K F H Q (.lst ts)):kF K F H Q ts:=λl d e i g c b a r=>h (.ref l) (ja e l (.lst d)) i (g.take a b c) (.lst hC (r.mono (jx b)))
def MF.me{f:Pe->M (List T)}(h:MF K E t f):ME K E t (λρ=>(f ρ).bind λts=>.ok (.lst ts)):=λF H a ρ Q s V r=>h F H a ρ Q s V ((M.res.unb r).mono (λts q=>kF.of q) λ_ _ z=>z)
def ME.run{k:T->M α}{P:α->Prop}(h:ME K E t f)(s:iq F H)(v:lQ K F σ ρ)(r:((f ρ).bind k).res P (kE E F H))
  (c:∀x w a b,Gr F H a b->kU K a w x->(k x).res P (kE E a b)->Q w b):t σ H Q:=
 h F H σ ρ Q s v ((M.res.unb r).mono (λx q w a b g d=>c x w a b g d (q.mono (λ_ z=>z) λ_ _ z=>z.go g)) λ_ _ z=>z)
def MT.run{t:TT}{f:Pe->M Bool}{k:Bool->M α}{P:α->Prop}(h:MT K E t f)(s:iq F H)(v:lQ K F σ ρ)(r:((f ρ).bind k).res P (kE E F H))
  (c:∀x b a,Gr F H b a->(k x).res P (kE E b a)->Q x a):t σ H Q:=
 h F H σ ρ Q s v ((M.res.unb r).mono (λx q b a g=>c x b a g (q.mono (λ_ z=>z) λ_ _ z=>z.go g)) λ_ _ z=>z)
def MA.run{t:TA}{f:Pe->M (List T)}{k:List T->M α}{P:α->Prop}(h:MA K E t f)(s:iq F H)(v:lQ K F σ ρ)(r:((f ρ).bind k).res P (kE E F H))
  (c:∀x w a b,Gr F H a b->iB K a w x->(k x).res P (kE E a b)->Q w b):t σ H Q:=
 h F H σ ρ Q s v ((M.res.unb r).mono (λx q w a b g d=>c x w a b g d (q.mono (λ_ z=>z) λ_ _ z=>z.go g)) λ_ _ z=>z)
@[simp] noncomputable def gR(i:Nat):Pe->M T:=λa=>match a[i]? with
 |some (some t)=>.ok t
 |_=>.bad
def QF:ME K E (mv i) (gR i):=λF H c b Q s V r=>by
 unfold gR at r;split at r
 .rename_i t e;obtain⟨v,a,h⟩:=V i t e;exact⟨v,a,r.now s h⟩
 .exact r.elim
@[simp] noncomputable def cM(t:T):Pe->M T:=λ_=>.ok t
def MP{t:T}(h:∀F,kU K F v t):ME K E (tC v) (cM t):=λF H b a Q s V r=>kV.now r s (h F)
@[simp] noncomputable def ig(o:T->T->M T)(fa fb:Pe->M T):Pe->M T:=λa=>(fa a).bind λx=>(fb a).bind λy=>o x y
structure MR(K:W.Frag)(r:R2)(o:T->T->M T):Prop where
 ne:∀x y,M.NoE (o x y)
 ok:∀F H v w x y Q,iq F H->kU K F v x->kU K F w y->(o x y).res (kV K F H Q) (λ_ _=>False)->r v w H Q
def GG(hr:MR K r o)(i:ME K E ta fa)(c:ME K E tb fb):ME K E (vP r ta tb) (ig o fa fb):=λF H p n Q s V q=>by refine i.run s V q λx v m A b e l=>?_;refine c.run b.fh (V.mono b.ff) l λy w h k a d j=>?_;exact hr.ok h k v w x y Q a.fh (e.mono a.ff) d ((j.ne (hr.ne x y)).mono (λ_ z=>z.go (b.trans a)) λ_ _ z=>z)
noncomputable def l4(C:Int->Int->Bool)(g:Int->Int->T):T->T->M T
 |.int i,.int j=>if C i j then .ok (g i j) else .bad
 |_,_=>.bad
def CJ{g:Int->Int->T} x y:M.NoE (l4 C g x y):=λa n=>by
 unfold l4;split
 .split<;>exact λz=>nomatch z
 .exact λz=>nomatch z
def kU.int_inv(h:kU K F v (.int i)):v=.int i:=by cases h;rfl
def kU.lst_inv(h:kU K F v (.lst ts)):∃a xs,v=.ref a/\F a=some (.lst xs)/\iB K F xs ts:=by cases h;exact⟨_,_,rfl,‹_›,‹_›⟩
def kU.tup_inv(h:kU K F v (.tup ts)):∃a xs,v=.ref a/\F a=some (.tup xs)/\iB K F xs ts:=by cases h;exact⟨_,_,rfl,‹_›,‹_›⟩
def iB.two(h:iB K F vs [.int i,.int j]):vs=[.int i,.int j]:=by
 cases h with
 |cons h t=>
  cases t with
  |cons h2 t=>cases t;rw[h.int_inv,h2.int_inv]
def AH{g:Int->Int->V}(c:∀i j,Cb i j=true->C i j)(d:∀F i j,kU K F (g i j) (gt i j)):MR K (rI C g) (l4 Cb gt):=⟨CJ,λF H v w x y Q s a b q=>by
 unfold l4 at q;split at q
 .rename_i i j;rw[a.int_inv,b.int_inv];by_cases h:Cb i j=true
  .rw[aR h]at q;exact⟨i,j,rfl,rfl,c i j h,kV.now q s (d F i j)⟩
  .rw[aS h]at q;exact q.elim
 .exact q.elim⟩
def tN{g:Int->Int->V}(c:∀F i j,kU K F (g i j) (gt i j)):MR K (EB g) (l4 (λ_ _=>true) gt):=⟨CJ,λF H v w x y Q s a b q=>by
 unfold l4 at q;split at q
 .rw[a.int_inv,b.int_inv];exact⟨_,_,rfl,rfl,kV.now q s (c F _ _)⟩
 .exact q.elim⟩
@[simp] noncomputable def xV(o:Int->T)(fa:Pe->M T):Pe->M T:=λa=>(fa a).bind λx=>match x with
 |.int i=>.ok (o i)
 |_=>.bad
def Tg{g:Int->V}(h:∀F i,kU K F (g i) (gt i))(d:ME K E ta fa):ME K E (UX (rU g) ta) (xV gt fa):=λF H l k Q s V q=>by
 refine d.run s V q λx v a e j c b=>?_;cases c<;>first
  |exact b.elim
  |exact⟨_,rfl,b _ a e j (h a _)⟩
@[simp] noncomputable def jl(fa:Pe->M T):Pe->M Bool:=λa=>(fa a).bind λx=>match x with
 |.bl b=>.ok b
 |_=>.bad
def N3(d:ME K E ta fa):MT K E (tB ta) (jl fa):=λF H j i Q s V q=>by
 refine d.run s V q λx v b e c h a=>?_;cases h<;>first
  |exact a.elim
  |exact⟨_,rfl,a b e c⟩
def Od(a:ME K E ta fa):MT K E (CD ta) (jl fa):=N3 a
section
variable {c d:TT}{fc fd:Pe->M Bool}
@[simp] noncomputable def yo(fc fd:Pe->M Bool):Pe->M Bool:=λa=>(fc a).bind λb=>if b then fd a else .ok false
@[simp] noncomputable def Bo(fc fd:Pe->M Bool):Pe->M Bool:=λa=>(fc a).bind λb=>if b then .ok true else fd a
@[simp] noncomputable def oK(fc:Pe->M Bool):Pe->M Bool:=λa=>(fc a).bind λb=>.ok (!b)
def Qq(l:MT K E c fc)(m:MT K E d fd):MT K E (Ss c d) (yo fc fd):=λF H k j Q s V q=>by
 refine l.run s V q λb e h a i=>?_;cases b with
 |true=>rw[aR rfl];exact m e h k j Q a.fh (V.mono a.ff) (i.mono (λ_ z=>z.go a) λ_ _ z=>z)
 |false=>rw[aS aI];exact i e h a
def Tq(l:MT K E c fc)(m:MT K E d fd):MT K E (UP c d) (Bo fc fd):=λF H k j Q s V q=>by
 refine l.run s V q λb e h a i=>?_;cases b with
 |true=>rw[aR rfl];exact i e h a
 |false=>rw[aS aI];exact m e h k j Q a.fh (V.mono a.ff) (i.mono (λ_ z=>z.go a) λ_ _ z=>z)
def RJ(h:MT K E c fc):MT K E (Rq c) (oK fc):=λF H l k Q s V q=>by refine h.run s V q λb a i e j=>?_;exact j a i e
end
@[simp] noncomputable def Mh(fa fb:Pe->M T):Pe->M T:=λa=>(jl fa a).bind λb=>if b then fb a else .ok (.bl false)
@[simp] noncomputable def GP(fa:Pe->M T):Pe->M T:=λa=>(jl fa a).bind λb=>.ok (.bl (!b))
def Nu(i:ME K E ta fa)(h:ME K E tb fb):ME K E (LP ta tb) (Mh fa fb):=λF H k j Q s V q=>by
 refine (N3 i).run s V q λb c d a e=>?_;cases b with
 |true=>rw[aR rfl];exact h c d k j Q a.fh (V.mono a.ff) (e.mono (λ_ z=>z.go a) λ_ _ z=>z)
 |false=>rw[aS aI];exact e _ c d a (.bl _)
def Nl(d:ME K E ta fa):ME K E (Jz ta) (GP fa):=λF H j i Q s V q=>by refine (N3 d).run s V q λb a e c h=>?_;exact h _ a e c (.bl _)
@[simp] noncomputable def gQ(fa:Pe->M T)(c:Pe->M (List T)):Pe->M (List T):=λa=>(fa a).bind λx=>(c a).bind λb=>.ok (x::b)
@[simp] noncomputable def gW:Pe->M (List T):=λ_=>.ok []
def DX:MA K E uO gW:=λF H b a Q s V q=>q [] F H (.refl s) .nil
def Of{d:TA}{b:Pe->M (List T)}(k:ME K E ta fa)(hr:MA K E d b):MA K E (ql ta d) (gQ fa b):=λF H w r Q s V q=>by refine k.run s V q λx v p y a i n=>?_;refine hr.run a.fh (V.mono a.ff) n λo e j m c h l=>?_;exact l (v::e) j m (a.trans c) (.cons (i.mono c.ff) h)
@[simp] noncomputable def Be(ts:List T):M (List T):=if ts.length<=sizeLine then .ok ts else .bad
@[simp] noncomputable def oY(c:Pe->M (List T)):Pe->M T:=λb=>(c b).bind λa=>(Be a).bind λa=>.ok (.tup a)
@[simp] noncomputable def lstM(b:Pe->M (List T)):Pe->M (List T):=λa=>(b a).bind Be
def RA{i:TA}{d:Pe->M (List T)}(hr:MA K E i d):ME K E (Rj i) (oY d):=λF H n m Q s V q=>by
 refine hr.run s V q λj k l o b e a=>?_;unfold Be at a;by_cases h:j.length<=sizeLine
 .rw[aR h]at a;refine⟨by rw[e.length];exact h,λp c=>?_⟩;exact a (.ref p) _ _ (b.trans (.new b.fh c)) (.tup hC (e.mono (Gr.new b.fh c).ff))
 .rw[aS h]at a;exact a.elim
def R1{i:TA}{d:Pe->M (List T)}(hr:MA K E i d):MF K E (RI i) (lstM d):=λF H n m Q s V q=>by
 refine hr.run s V q λj k l o b e a=>?_;unfold Be at a;by_cases h:j.length<=sizeLine
 .rw[aR h]at a;refine⟨by rw[e.length];exact h,λp c=>?_⟩;exact a p k l _ (b.trans (.new' b.fh c)) (iF b.hh c) (iF b.fh c) hC e
 .rw[aS h]at a;exact a.elim
end
end L3
namespace L3
open PySem L2
inductive W where
 |p (t:T)|o (ts:List T)|d (kvs:List (LI×T))
abbrev En:=List (Option W)
@[simp] def U8:Option W->Option T
 |some (.p t)=>some t
 |_=>none
@[simp] def Vx:Option W->Option T
 |some (.p t)=>some t
 |some (.o ts)=>some (.lst ts)
 |_=>none
@[simp] noncomputable def kP(ρ:En):Pe:=ρ.map U8
@[simp] noncomputable def vw(ρ:En):Pe:=ρ.map Vx
mutual
@[simp] noncomputable def lf:T->Bool
 |.lst _=>false
 |.scr _=>false
 |.dic _=>false
 |.tup ts=>Ew ts
 |.obj _ fs=>UB fs
 |_=>true
@[simp] noncomputable def Ew:List T->Bool
 |[]=>true
 |t::ts=>lf t&&Ew ts
noncomputable def UB:List (Str×T)->Bool
 |[]=>true
 |t::ts=>lf t.2&&UB ts
end
structure Fz where
 hp:Hp
 lt:List (Nat×Addr×List V)
instance:Coe Fz Hp:=⟨Fz.hp⟩
structure Lv(H0 F H:Hp)(σ:St)(ρ:En)(e:Nat×Addr×List V):Prop where
 h:H e.2.1=some (.lst e.2.2)
 f:F e.2.1=none
 z:H0 e.2.1=none
 d:∀(i:Nat) (ts:List T),ρ[i]? = some (some (.o ts))->σ[i]?≠some (some (.ref e.2.1))
def DR(K:W.Frag)(F:Hp)(xs:List (List pD×V))(a:List (LI×T)):Prop:=Paired (λ(p:List pD×V) (q:LI×T)=>p.1=q.1.map Sum.inl/\kU K F p.2 q.2) xs a
def DR.mono(s:iq F F')(h:DR K F xs kvs):DR K F' xs kvs:=Paired.imp' (λ_ _ q=>⟨q.1,q.2.mono s⟩) h
structure Dv(K:W.Frag)(H0 F H:Hp)(σ:St)(ρ:En):Prop where
 at_:∀(i:Nat) kvs,ρ[i]? = some (some (.d kvs))->∃a,σ[i]? = some (some (.ref a))/\F a=none/\H0 a=none/\∃xs,H a=some (.dT xs)/\DR K F xs kvs
 dj:∀(i j:Nat) kvs kvs',ρ[i]? = some (some (.d kvs))->ρ[j]? = some (some (.d kvs'))->i≠j->σ[i]?≠σ[j]?
def Hs{a:Type}{l:List a}{x y:a}(h:(l.set i x)[i]? = some y):y=x:=by
 rw[List.getElem?_set]at h;simp only[if_true]at h;split at h
 .exact (Option.some.inj h).symm
 .cases h
def GZ{a:Type}{l:List a}{x y:a}(h:(l.set i x)[j]? = some y):(j=i/\y=x)\/(j≠i/\l[j]? = some y):=by
 by_cases e:j=i
 .subst e;exact .inl ⟨rfl,Hs h⟩
 .rw[aq (λz=>e z.symm)]at h;exact .inr ⟨e,h⟩
def Dv.heap(d:Dv K H0 F H σ ρ)(s:iq F F')(h:∀a xs,H a=some (.dT xs)->F a=none->F' a=none/\H' a=some (.dT xs)):Dv K H0 F' H' σ ρ:=⟨λi b e=>let ⟨a,e1,e2,e3,xs,e4,e5⟩:=d.at_ i b e;let ⟨h1,h2⟩:=h a xs e4 e2;⟨a,e1,h1,e3,xs,h2,e5.mono s⟩,d.dj⟩
def Dv.set(d:Dv K H0 F H σ ρ)(hw:∀b,w≠some (.d b)):Dv K H0 F H (σ.set i v) (ρ.set i w):=by
 refine⟨λj b e=>?_,λj k b c e m g=>?_⟩
 .rcases GZ e with⟨rfl,q⟩|⟨h,q⟩
  .exact absurd q.symm (hw b)
  .obtain⟨a,n,r⟩:=d.at_ j b q;exact⟨a,by rw[aq (λz=>h z.symm)];exact n,r⟩
 .rcases GZ e with⟨rfl,q⟩|⟨h,q⟩
  .exact absurd q.symm (hw b)
  .rcases GZ m with⟨rfl,f⟩|⟨l,f⟩
   .exact absurd f.symm (hw c)
   .rw[aq (λz=>h z.symm),aq (λz=>l z.symm)];exact d.dj j k b c q f g
def Dv.setR(d:Dv K H0 F H σ ρ)(hw:∀a,w≠some (.d a)):Dv K H0 F H σ (ρ.set i w):=by
 refine⟨λj a e=>?_,λj k a b e g f=>?_⟩
 .rcases GZ e with⟨rfl,q⟩|⟨h,q⟩
  .exact absurd q.symm (hw a)
  .exact d.at_ j a q
 .rcases GZ e with⟨rfl,q⟩|⟨h,q⟩
  .exact absurd q.symm (hw a)
  .rcases GZ g with⟨rfl,c⟩|⟨l,c⟩
   .exact absurd c.symm (hw b)
   .exact d.dj j k a b q c f
structure Sr(K:W.Frag)(F0:Fz)(H0 F H:Hp)(σ:St)(ρ:En):Prop where
 gr:Gr F0.hp H0 F H
 len:σ.length=ρ.length
 pv:∀(i:Nat) (t:T),ρ[i]? = some (some (.p t))->∃v,σ[i]? = some (some v)/\kU K F v t
 ov:∃ad:Nat->Addr,(∀(i:Nat) (ts:List T),ρ[i]? = some (some (.o ts))->σ[i]? = some (some (.ref (ad i)))/\F (ad i)=none/\H0 (ad i)=none/\∃vs,H (ad i)=some (.lst vs)/\iB K F vs ts)/\
  ∀(i j:Nat) (ts us:List T),ρ[i]? = some (some (.o ts))->ρ[j]? = some (some (.o us))->i≠j->ad i≠ad j
 lv:∀e∈F0.lt,Lv H0 F H σ ρ e
 sl:∀(j:Nat) (l:Addr) (vs:List V),F0.lt.lookup j=some (l,vs)->ρ[j]? = some none->σ[j]? = some (some (.ref l))
 dv:Dv K H0 F H σ ρ
section
variable {K:W.Frag}{F0:Fz}{H0 F H F' H':Hp}{σ:St}{ρ:En}
def Sr.vars(r:Sr K F0 H0 F H σ ρ):lQ K F σ (kP ρ):=λi t e=>by
 unfold kP at e;rw[aw]at e;cases q:ρ[i]? with
 |none=>rw[q]at e;cases e
 |some w=>
  rw[q]at e;cases w with
  |none=>cases e
  |some w=>
   cases w with
   |p t'=>cases e;exact r.pv i _ q
   |o ts=>cases e
   |d kvs=>cases e
def Sr.grow(r:Sr K F0 H0 F H σ ρ)(g:Gr F H F' H'):Sr K F0 H0 F' H' σ ρ:=by
 obtain⟨j,n,p⟩:=r.ov;refine⟨r.gr.trans g,r.len,λi t e=>?_,⟨j,λi o e=>?_,p⟩,λe s=>?_,r.sl,r.dv.heap g.ff λa x k l=>⟨?_,g.hh _ _ k⟩⟩
 .obtain⟨v,a,b⟩:=r.pv i t e;exact⟨v,a,b.mono g.ff⟩
 .obtain⟨a,b,c,m,d,q⟩:=n i o e;refine⟨a,?_,c,m,g.hh _ _ d,q.mono g.ff⟩;cases z:F' (j i) with
  |none=>rfl
  |some u=>
   rcases g.nw (j i) (by rw[z];exact λw=>nomatch w) with y|y|⟨_,y⟩
   .exact absurd b y
   .rw[d]at y;cases y
   .rw[d]at y;cases y
 .have L:=r.lv e s;refine⟨g.hh _ _ L.h,?_,L.z,L.d⟩;cases z:F' e.2.1 with
  |none=>rfl
  |some u=>
   rcases g.nw e.2.1 (by rw[z];exact λw=>nomatch w) with y|y|⟨_,y⟩
   .exact absurd L.f y
   .rw[L.h]at y;cases y
   .rw[L.h]at y;cases y
 .cases z:F' a with
  |none=>rfl
  |some u=>
   rcases g.nw a (by rw[z];exact λw=>nomatch w) with y|y|⟨_,y⟩
   .exact absurd l y
   .rw[k]at y;cases y
   .rw[k]at y;cases y
theorem Sr.lend(r:Sr K F0 H0 F H σ ρ):∃k,iq F k/\Gr F0.hp H0 k H/\lQ K k σ (vw ρ)/\
  (∀F' H',Gr k H F' H'->∃j,Gr F H j H'/\iq F j/\iq j F'/\(∀a,F' a≠none->j a=none->∃xs,F' a=some (.lst xs))/\(∀a,F' a≠none->j a=none->H a≠none)):=by
 classical
 obtain⟨E,m,J⟩:=r.ov;let f:Addr->Prop:=λa=>∃i h,ρ[i]? = some (some (.o h))/\E i=a;let k:Hp:=λa=>if f a then H a else F a
 have s:iq F k:=λa o e=>by
  have:¬f a:=by rintro⟨i,h,q,rfl⟩;obtain⟨_,b,_⟩:=m i h q;rw[b]at e;cases e
  show Ih o (if f a then H a else F a);rw[aS this];exact .of e
 have I:iq k H:=λa o e=>by
  by_cases q:f a
  .have u:(if f a then H a else F a)=some o:=e;rw[aR q]at u;exact .of u
  .have u:(if f a then H a else F a)=some o:=e;rw[aS q]at u;exact r.gr.fh a o u
 have ow:∀a,f a->k a=H a:=λa q=>aR q;have D:∀a,¬f a->k a=F a:=λa q=>aS q;refine⟨k,s,⟨r.gr.ff.trans s,I,r.gr.hh,λa l=>?_⟩,λi t e=>?_,λF' H' g=>?_⟩
 .by_cases q:f a
  .obtain⟨i,h,e,rfl⟩:=q;exact .inr (.inl (m i h e).2.2.1)
  .rw[D a q]at l;exact r.gr.nw a l
 .unfold vw at e;rw[aw]at e;cases q:ρ[i]? with
  |none=>rw[q]at e;cases e
  |some w=>
   rw[q]at e;cases w with
   |none=>cases e
   |some w=>
    cases w with
    |p t'=>cases e;obtain⟨v,a,b⟩:=r.pv i _ q;exact⟨v,a,b.mono s⟩
    |o h=>cases e;obtain⟨a,b,c,y,d,z⟩:=m i h q;exact⟨_,a,.lst (by rw[ow _ ⟨i,h,q,rfl⟩];exact d) (z.mono s)⟩
    |d kvs=>cases e
 .let j:Hp:=λa=>if f a then none else F' a
  have x:∀a,¬f a->j a=F' a:=λa q=>aS q;have A:∀a,f a->j a=none:=λa q=>aR q;have C:iq F j:=λa o e=>by
   have:¬f a:=by rintro⟨i,h,q,rfl⟩;obtain⟨_,b,_⟩:=m i h q;rw[b]at e;cases e
   rw[x a this];exact (s.trans g.ff) _ _ e
  have B:iq j F':=λa o e=>by
   by_cases q:f a
   .rw[A a q]at e;cases e
   .rw[x a q]at e;exact .of e
  refine⟨j,⟨C,B.trans g.fh,g.hh,λa l=>?_⟩,C,B,λa l n=>?_,λa l n=>?_⟩
  .by_cases q:f a
   .exact absurd (A a q) l
   .rw[x a q]at l;rcases g.nw a l with z|z
    .rw[D a q]at z;exact .inl z
    .exact .inr z
  .by_cases q:f a
   .obtain⟨i,h,e,rfl⟩:=id q;obtain⟨_,_,_,y,d,_⟩:=m i h e;exact⟨y,g.ff _ (.lst y) (by rw[ow _ q];exact d)⟩
   .rw[x a q]at n;exact absurd n l
  .by_cases q:f a
   .obtain⟨i,h,e,rfl⟩:=id q;obtain⟨_,_,_,y,d,_⟩:=m i h e;rw[d];exact λz=>nomatch z
   .rw[x a q]at n;exact absurd n l
mutual
theorem kU.less(c:iq Fb F)(h:∀a,F a≠none->Fb a=none->∃xs,F a=some (.lst xs)):∀{v} {t},kU K F v t->lf t=true->kU K Fb v t
 |_,_,.non,_=>.non
 |_,_,.bl b,_=>.bl b
 |_,_,.int i,_=>.int i
 |_,_,.str x,_=>.str x
 |_,_,.tup (a:=a) e r,l=>by
  refine .tup ?_ (iB.less c h r (by simpa[lf] using l));cases q:Fb a with
  |none=>obtain⟨xs,z⟩:=h a (by rw[e];exact λz=>nomatch z) q;rw[e]at z;cases z
  |some u=>have k:=c a u q;rw[e]at k;rw[yF k λ_ _ y=>nomatch y]
 |_,_,.lst _ _,l=>by simp[lf]at l
 |_,_,.scr _,l=>by simp[lf]at l
 |_,_,.obj (a:=a) (dx:=dx) e r,l=>by
  refine .obj (dx:=dx) ?_ (oQ.less c h r (by simpa[lf] using l));cases q:Fb a with
  |none=>obtain⟨xs,z⟩:=h a (by rw[e];exact λz=>nomatch z) q;rw[e]at z;cases z
  |some u=>have k:=c a u q;rw[e]at k;rw[yF k λ_ _ y=>nomatch y]
 |_,_,.dic _ _,l=>by simp[lf]at l
 |_,_,.emp (a:=a) e,l=>by
  refine .emp ?_;cases q:Fb a with
  |none=>obtain⟨xs,z⟩:=h a (by rw[e];exact λz=>nomatch z) q;rw[e]at z;cases z
  |some u=>have k:=c a u q;rw[e]at k;rw[yF k λ_ _ y=>nomatch y]
theorem iB.less(b:iq Fb F)(h:∀a,F a≠none->Fb a=none->∃xs,F a=some (.lst xs)):∀{vs} {ts},iB K F vs ts->Ew ts=true->iB K Fb vs ts
 |_,_,.nil,_=>.nil
 |_,_,.cons q r,l=>by rw[Ew,bT]at l;exact .cons (kU.less b h q l.1) (iB.less b h r l.2)
theorem oQ.less(b:iq Fb F)(h:∀a,F a≠none->Fb a=none->∃xs,F a=some (.lst xs)):∀{vs} {ts},oQ K F vs ts->UB ts=true->oQ K Fb vs ts
 |_,_,.nil,_=>.nil
 |_,_,.cons q r,l=>by rw[UB,bT]at l;exact .cons (kU.less b h q l.1) (oQ.less b h r l.2)
end
end
end L3
namespace L3
open PySem L2
def kT(K:W.Frag)(F H:Hp)(Q:VK)(ts us:List T):Prop:=∀p l c d a b,Gr F H a b->H l=none->a l=none->H p=none->a p=none->p≠l->b l=some (.lst d)->b p=some (.tup (c++[.ref l]))->iB K a c ts->iB K a d us->Q (.ref p) b
def kT.of(h:kV K F H Q (.tup (ts++[.lst us]))):kT K F H Q ts us:=λp l q k j t g a b c d e f i r s=>by
 have u:=g.take f b a;have o:ja j l (.lst k) p=none:=by rw[hU e];exact d
 have n:iq j (ja j l (.lst k)):=jx b;have m:iq (ja j l (.lst k)) (ja (ja j l (.lst k)) p (.tup (q++[.ref l]))):=jx o;exact h (.ref p) _ t (u.take i o c) (.tup hC ((r.mono (n.trans m)).append (.cons (.lst (m _ _ hC) (s.mono (n.trans m))) .nil)))
inductive O where
 |bad|nx (ρ:En)|rt (t:T)|rf (ts:List T)|rn (ts us:List T)|bk (ρ:En)|ct (ρ:En)|er (C:Addr) (n:Option Int)
section
variable (K:W.Frag)(E:XK)
def kN(d:Fz)(H0 F:Hp)(D:St->Hp->Prop)(ρ:En):Prop:=∀b c a,iq F b->Sr K d H0 b c a ρ->D a c
noncomputable def O.res(o:O)(a:Fz)(H0 F:Hp)(D:sW):Prop:=match o with
 |.bad=>False
 |.nx ρ=>kN K a H0 F D.nx ρ
 |.rt t=>kV K a.hp H0 D.rt t
 |.rf ts=>kF K a.hp H0 D.rt ts
 |.rn ts us=>kT K a.hp H0 D.rt ts us
 |.bk ρ=>kN K a H0 F D.bk ρ
 |.ct ρ=>kN K a H0 F D.ct ρ
 |.er C n=>kE E a.hp H0 C n
noncomputable def MS(t:TS)(g:En->O):Prop:=∀d c F H b a D,Sr K d c F H b a->(g a).res K E d c F D->t D b H
end
section
variable {K:W.Frag}{E:XK}{t u ta tb:TE}{f fa fb:Pe->M T}{F0:Fz}{H0 F H F1 H1:Hp}{σ:St}{ρ:En}{D:sW}
def kN.go(h:kN K F0 H0 F N ρ)(s:iq F F1):kN K F0 H0 F1 N ρ:=λb c a d r=>h b c a (s.trans d) r
def O.res.go{o:O}(h:o.res K E F0 H0 F D)(s:iq F F1):o.res K E F0 H0 F1 D:=by
 cases o with
 |bad=>exact h
 |nx ρ=>exact kN.go h s
 |rt t=>exact h
 |rf ts=>exact h
 |rn ts us=>exact h
 |bk ρ=>exact kN.go h s
 |ct ρ=>exact kN.go h s
 |er C n=>exact h
noncomputable def O.of{b:Type}(m:M b)(k:b->O):O:=match m with
 |.bad=>.bad
 |.ok a=>k a
 |.er C n=>.er C n
@[simp] theorem O.of_ok(a:α) k:O.of (.ok a) k=k a:=rfl
@[simp] theorem O.of_bad k:O.of (.bad:M α) k=.bad:=rfl
@[simp] theorem O.of_er C n k:O.of (.er C n:M α) k=.er C n:=rfl
def O.res_of{m:M α}{k:α->O}(h:(O.of m k).res K E F0 H0 F D):m.res (λa=>(k a).res K E F0 H0 F D) (kE E F0.hp H0):=by cases m<;>exact h
@[simp] noncomputable def iD(a b:En->O):En->O:=λρ=>match a ρ with
 |.nx ρ'=>b ρ'
 |o=>o
def QG{t u:TS}(d:MS K E t a)(i:MS K E u b):MS K E (AG t u) (iD a b):=λF0 H0 F H σ ρ D r q=>by
 refine d F0 H0 F H σ ρ _ r ?_;unfold iD at q;cases e:a ρ with
 |nx ρ'=>rw[e]at q;intro j h c s g;exact i F0 H0 j h c ρ' D g (q.go s)
 |bad=>rw[e]at q;exact q
 |rt t=>rw[e]at q;exact q
 |rf ts=>rw[e]at q;exact q
 |rn ts us=>rw[e]at q;exact q
 |bk ρ=>rw[e]at q;exact q
 |ct ρ=>rw[e]at q;exact q
 |er C n=>rw[e]at q;exact q
@[simp] noncomputable def jE:En->O:=λρ=>.nx ρ
def N2:MS K E yO jE:=λF0 H0 F H σ ρ D r q=>q F H σ (.refl _) r
def MD:MS K E KF (λρ=>.ct ρ):=λF0 H0 F H σ ρ D r q=>q F H σ (.refl _) r
def L8:MS K E EH (λ_=>.bad):=λ_ _ _ _ _ _ _ _ q=>q
def MT.inS(j:MT K E c fc)(r:Sr K F0 H0 F H σ ρ)(q:(O.of (fc (vw ρ)) k).res K E F0 H0 F D)
  (p:∀b d a,iq F d->Sr K F0 H0 d a σ ρ->(k b).res K E F0 H0 d D->Q b a):c σ H Q:=by
 obtain⟨m,s,i,V,e⟩:=r.lend;refine j m H σ (vw ρ) Q i.fh V ((O.res_of q).mono (λb z d a g=>?_) λC n z=>z.go i);obtain⟨l,o,h,_⟩:=e d a g;exact p b l a h (r.grow o) (z.go h)
@[simp] noncomputable def pW(d:Pe->M Bool)(a b:En->O):En->O:=λρ=>.of (d (vw ρ)) λc=>if c then a ρ else b ρ
def S6{t u:TS}(g:MT K E c fc)(h:MS K E t a)(i:MS K E u b):MS K E (GT c t u) (pW fc a b):=λF0 H0 F H σ ρ D r q=>by
 refine g.inS r q λc k j s d e=>?_;cases c with
 |true=>rw[aR rfl];exact h _ _ _ _ _ _ _ d e
 |false=>rw[aS aI];exact i _ _ _ _ _ _ _ d e
@[simp] noncomputable def jg(f:Pe->M T):En->O:=λρ=>.of (f (vw ρ)) λt=>.rt t
def R6(h:ME K E t f):MS K E (CY t) (jg f):=λF0 H0 F H σ ρ D r q=>by obtain⟨d,e,a,V,c⟩:=r.lend;exact h d H σ (vw ρ) _ a.fh V ((O.res_of q).mono (λb z=>kV.go z a) λC n z=>z.go a)
@[simp] noncomputable def xO(f:Pe->M (List T)):En->O:=λρ=>.of (f (vw ρ)) λt=>.rf t
def OP{f:Pe->M (List T)}(h:MF K E t f):MS K E (CY t) (xO f):=λF0 H0 F H σ ρ D r q=>by obtain⟨d,e,a,V,c⟩:=r.lend;exact h d H σ (vw ρ) _ a.fh V ((O.res_of q).mono (λb z=>kF.go z a) λC n z=>z.go a)
@[simp] noncomputable def tQ(i:Nat):En->O:=λρ=>match ρ[i]? with
 |some (some (.o ts))=>.rf ts
 |_=>.bad
def HQ:MS K E (CY (mv i)) (tQ i):=λF0 H0 F H σ ρ D r q=>by
 unfold tQ at q;split at q
 .rename_i k e;obtain⟨h,j,l⟩:=r.ov;obtain⟨a,b,c,g,d,z⟩:=j i k e;exact⟨_,a,q (h i) g F H r.gr c b d z⟩
 .exact q.elim
def tT{a:Type}{l:List a}{x y:a}(h:(l.set i x)[i]? = some y):y=x:=by
 rw[List.getElem?_set]at h;simp only[if_true]at h;split at h
 .exact (Option.some.inj h).symm
 .cases h
def iG{a:Type}{l:List a}{x y:a}(h:(l.set i x)[j]? = some y):(j=i/\y=x)\/(j≠i/\l[j]? = some y):=by
 by_cases e:j=i
 .subst e;exact .inl ⟨rfl,tT h⟩
 .rw[aq (λz=>e z.symm)]at h;exact .inr ⟨e,h⟩
def AK{a:Type}{l:List a}{x:a}(h:i<l.length):(l.set i x)[i]? = some x:=by rw[List.getElem?_set_self h]
def Sr.setP(r:Sr K F0 H0 F H σ ρ)(h:kU K F v x):Sr K F0 H0 F H (σ.set i (some v)) (ρ.set i (some (.p x))):=by
 obtain⟨A,B,I⟩:=r.ov;refine⟨r.gr,by simp[r.len],λj t e=>?_,⟨A,λj m e=>?_,λj k m y e N=>?_⟩,λe J=>?_,λj l s n q=>?_,r.dv.set λ_ z=>nomatch z⟩
 .have C:j<ρ.length:=by simpa using (aa.mp e).1
  rcases iG e with⟨rfl,q⟩|⟨c,q⟩
  .cases q;exact⟨v,AK (by rw[r.len];exact C),h⟩
  .obtain⟨w,a,b⟩:=r.pv j t q;exact⟨w,by rw[aq (λz=>c z.symm)];exact a,b⟩
 .rcases iG e with⟨rfl,q⟩|⟨c,q⟩
  .cases q
  .obtain⟨a,b⟩:=B j m q;exact⟨by rw[aq (λz=>c z.symm)];exact a,b⟩
 .rcases iG e with⟨rfl,q⟩|⟨c,q⟩
  .cases q
  .rcases iG N with⟨rfl,o⟩|⟨P,o⟩
   .cases o
   .exact I j k m y q o
 .have L:=r.lv e J;refine⟨L.h,L.f,L.z,λj m q=>?_⟩;rcases iG q with⟨rfl,g⟩|⟨c,g⟩
  .cases g
  .rw[aq (λz=>c z.symm)];exact L.d j m g
 .rcases iG q with⟨rfl,g⟩|⟨c,g⟩
  .cases g
  .rw[aq (λz=>c z.symm)];exact r.sl j l s n g
def Sr.setO(r:Sr K F0 H0 F H σ ρ)(g:Gr F H F1 H1)(x:H l=none)(Z:F1 l=none)(hv:H1 l=some (.lst vs))(hr:iB K F1 vs ts) :
  Sr K F0 H0 F1 H1 (σ.set i (some (.ref l))) (ρ.set i (some (.o ts))):=by
 have p:=r.grow g;obtain⟨B,N,_⟩:=r.ov;obtain⟨A,Q,h2⟩:=p.ov;have S:∀j m,ρ[j]? = some (some (.o m))->A j≠l:=λj m e z=>by
  obtain⟨a,_⟩:=Q j m e;obtain⟨X,_,_,vs0,R,_⟩:=N j m e;rw[a]at X;have:A j=B j:=by simpa using X
  rw[<-this,z,x]at R;cases R
 refine⟨p.gr,by simp[r.len],λj t e=>?_,⟨λj=>if j=i then l else A j,λj m e=>?_,λj k m P e Y s=>?_⟩,λe U=>?_,λj l' J C q=>?_,p.dv.set λ_ z=>nomatch z⟩
 .rcases iG e with⟨rfl,q⟩|⟨c,q⟩
  .cases q
  .obtain⟨w,a,b⟩:=p.pv j t q;exact⟨w,by rw[aq (λz=>c z.symm)];exact a,b⟩
 .have y:j<ρ.length:=by simpa using (aa.mp e).1
  rcases iG e with⟨rfl,q⟩|⟨c,q⟩
  .cases q;dsimp only;rw[aR rfl];exact⟨AK (by rw[r.len];exact y),Z,iF r.gr.hh x,vs,hv,hr⟩
  .dsimp only;rw[aS c];obtain⟨a,b⟩:=Q j m q;exact⟨by rw[aq (λz=>c z.symm)];exact a,b⟩
 .rcases iG e with⟨rfl,q⟩|⟨c,q⟩
  .rcases iG Y with⟨rfl,v⟩|⟨I,v⟩
   .exact absurd rfl s
   .dsimp only;rw[aR rfl,aS I];exact λz=>S k P v z.symm
  .rcases iG Y with⟨rfl,v⟩|⟨I,v⟩
   .dsimp only;rw[aS c,aR rfl];exact S j m q
   .dsimp only;rw[aS c,aS I];exact h2 j k m P q v s
 .have L:=p.lv e U;have L0:=r.lv e U;refine⟨L.h,L.f,L.z,λj ts q=>?_⟩;rcases iG q with⟨rfl,n⟩|⟨c,n⟩
  .intro z;have z':=tT z;have:e.2.1=l:=by simpa using z'
   rw[<-this,L0.h]at x;cases x
  .rw[aq (λz=>c z.symm)];exact L.d j ts n
 .rcases iG q with⟨rfl,n⟩|⟨c,n⟩
  .cases n
  .rw[aq (λz=>c z.symm)];exact r.sl j l' J C n
@[simp] noncomputable def kn(f:Pe->M T)(ρ:En):M T:=f (kP ρ)
@[simp] noncomputable def vK(f:Pe->M T)(ρ:En):M T:=(f (vw ρ)).bind λt=>if lf t then .ok t else .bad
def ME.inH(h:ME K E t f)(r:Sr K F0 H0 F H σ ρ)(q:(O.of (kn f ρ) k).res K E F0 H0 F D)
  (d:∀x v a b,Gr F H a b->kU K a v x->Sr K F0 H0 a b σ ρ->(k x).res K E F0 H0 a D->Q v b):t σ H Q:=
 h F H σ (kP ρ) Q r.gr.fh r.vars ((O.res_of q).mono (λx z v a b g c=>d x v a b g c (r.grow g) (z.go g.ff)) λC n z=>z.go r.gr)
def ME.inB(h:ME K E t f)(r:Sr K F0 H0 F H σ ρ)(q:(O.of (vK f ρ) k).res K E F0 H0 F D)
  (w:∀x v b a,Gr F H b a->kU K b v x->Sr K F0 H0 b a σ ρ->(k x).res K E F0 H0 b D->Q v a):t σ H Q:=by
 obtain⟨o,y,l,V,d⟩:=r.lend;refine h o H σ (vw ρ) Q l.fh V ((M.res.unb (O.res_of q)).mono (λx z v b a g m=>?_) λC n z=>z.go l);obtain⟨p,j,s,i,c,_⟩:=d b a g;by_cases e:lf x=true
 .rw[aR e]at z;exact w x v p a j (m.less i c e) (r.grow j) (O.res.go z s)
 .rw[aS e]at z;exact z.elim
@[simp] noncomputable def setO(i:Nat)(f:En->M T):En->O:=λρ=>.of (f ρ) λt=>.nx (ρ.set i (some (.p t)))
def Fy(h:ME K E t f):MS K E (oG t (jS i)) (setO i (kn f)):=λF0 H0 F H σ ρ D r q=>h.inH r q λx v c d g b a e=>e c d _ (.refl _) (a.setP b)
def OA(h:ME K E t f):MS K E (oG t (jS i)) (setO i (vK f)):=λF0 H0 F H σ ρ D r q=>h.inB r q λx v c d g b a e=>e c d _ (.refl _) (a.setP b)
@[simp] noncomputable def qt(f:Pe->M (List T))(ρ:En):M (List T):=f (kP ρ)
@[simp] noncomputable def uA(f:Pe->M (List T))(ρ:En):M (List T):=(f (vw ρ)).bind λa=>if Ew a then .ok a else .bad
def MF.inH{f:Pe->M (List T)}(h:MF K E t f)(r:Sr K F0 H0 F H σ ρ)(q:(O.of (qt f ρ) k).res K E F0 H0 F D)
  (j:∀ts l vs e i,Gr F H e i->H l=none->e l=none->i l=some (.lst vs)->iB K e vs ts->(k ts).res K E F0 H0 e D->Q (.ref l) i):t σ H Q:=
 h F H σ (kP ρ) Q r.gr.fh r.vars ((O.res_of q).mono (λts z l vs e i g a b c d=>j ts l vs e i g a b c d (z.go g.ff)) λC n z=>z.go r.gr)
def MF.inB{f:Pe->M (List T)}(h:MF K E t f)(r:Sr K F0 H0 F H σ ρ)(q:(O.of (uA f ρ) k).res K E F0 H0 F D)
  (A:∀ts l vs i e,Gr F H i e->H l=none->i l=none->e l=some (.lst vs)->iB K i vs ts->(k ts).res K E F0 H0 i D->Q (.ref l) e):t σ H Q:=by
 obtain⟨v,B,s,V,o⟩:=r.lend;refine h v H σ (vw ρ) Q s.fh V ((M.res.unb (O.res_of q)).mono (λts z l vs i e g a b c d=>?_) λC n z=>z.go s);obtain⟨w,y,x,j,m,_⟩:=o i e g;by_cases p:Ew ts=true
 .rw[aR p]at z;exact A ts l vs w e y a (iF j b) c (d.less j m p) (O.res.go z x)
 .rw[aS p]at z;exact z.elim
@[simp] noncomputable def n5(i:Nat)(f:En->M (List T)):En->O:=λρ=>.of (f ρ) λa=>.nx (ρ.set i (some (.o a)))
@[simp] noncomputable def zv(i:Nat)(f:En->M (List T)):En->O:=λρ=>.of (f ρ) λa=>.nx (ρ.set i (some (.p (.lst a))))
def AW{f:Pe->M (List T)}(h:MF K E t f):MS K E (oG t (jS i)) (n5 i (qt f)):=λF0 H0 F H σ ρ D r q=>h.inH r q λn l m j e g a b c d k=>k j e _ (.refl _) (r.setO g a b c d)
def Nj{f:Pe->M (List T)}(h:MF K E t f):MS K E (oG t (jS i)) (n5 i (uA f)):=λF0 H0 F H σ ρ D r q=>h.inB r q λn l m j e g a b c d k=>k j e _ (.refl _) (r.setO g a b c d)
def Dg{f:Pe->M (List T)}(h:MF K E t f):MS K E (oG t (jS i)) (zv i (uA f)):=λF0 H0 F H σ ρ D r q=>h.inB r q λo l e k j g a b c d n=>by have m:=g.take c b a;exact n (ja k l (.lst e)) j _ (jx b) ((r.grow m).setP (.lst hC (d.mono (jx b))))
def Sr.change(r:Sr K F0 H0 F H σ ρ)(e:ρ[i]? = some (some (.o ts)))(hw:iB K F ws us) :
  ∃l vs,σ[i]? = some (some (.ref l))/\H l=some (.lst vs)/\iB K F vs ts/\Sr K F0 H0 F (ja H l (.lst ws)) σ (ρ.set i (some (.o us))):=by
 obtain⟨C,N,A⟩:=r.ov;obtain⟨a,b,c,vs,d,z⟩:=N i ts e;refine⟨C i,vs,a,d,z,⟨r.gr.ff,λp u q=>?_,λp u q=>?_,r.gr.nw⟩,by simp[r.len],λj t q=>?_,⟨C,λj n q=>?_,λj k n v q Q m=>?_⟩,λP X=>?_,λj Y s J q=>?_,(r.dv.heap (.refl _) λp xs B _=>⟨by assumption,by rw[hU (λz=>by rw[z,d]at B;cases B)];exact B⟩).setR λ_ z=>nomatch z⟩
 .rw[hU (iC q b)];exact r.gr.fh p u q
 .rw[hU (iC q c)];exact r.gr.hh p u q
 .rcases iG q with⟨rfl,g⟩|⟨y,g⟩
  .cases g
  .exact r.pv j t g
 .rcases iG q with⟨rfl,g⟩|⟨y,g⟩
  .cases g;exact⟨a,b,c,ws,hC,hw⟩
  .obtain⟨R,S,U,s,d',Z⟩:=N j n g;exact⟨R,S,U,s,by rw[hU (A j i n ts g e y)];exact d',Z⟩
 .rcases iG q with⟨rfl,g⟩|⟨y,g⟩
  .rcases iG Q with⟨rfl,x⟩|⟨hk,x⟩
   .exact absurd rfl m
   .exact A j k ts v e x m
  .rcases iG Q with⟨rfl,x⟩|⟨hk,x⟩
   .exact A j k n ts g e m
   .exact A j k n v g x m
 .have L:=r.lv P X;have I:P.2.1≠C i:=λw=>L.d i ts e (by rw[w];exact a);refine⟨by rw[hU I];exact L.h,L.f,L.z,λj n q=>?_⟩;rcases iG q with⟨rfl,g⟩|⟨y,g⟩
  .exact L.d _ ts e
  .exact L.d j n g
 .rcases iG q with⟨rfl,g⟩|⟨y,g⟩
  .cases g
  .exact r.sl j Y s J g
@[simp] noncomputable def rZ(ρ:En)(i:Nat):M (List T):=match ρ[i]? with
 |some (some (.o ts))=>.ok ts
 |_=>.bad
def Dd(h:rZ ρ i=.ok ts):ρ[i]? = some (some (.o ts)):=by
 unfold rZ at h;split at h
 .rename_i a e;cases h;exact e
 .cases h
@[simp] noncomputable def tY(i:Nat)(f:En->M T):En->O:=λρ=>.of (rZ ρ i) λa=>.of (f ρ) λt=>if a.length<sizeLine then .nx (ρ.set i (some (.o (a++[t])))) else .bad
def LB(r:Sr K F0 H0 F H σ ρ)(e:ρ[i]? = some (some (.o ts)))(m:kU K F v x)
  (q:(if ts.length<sizeLine then O.nx (ρ.set i (some (.o (ts++[x])))) else .bad).res K E F0 H0 F D):∃l,σ[i]? = some (some (.ref l))/\tG (.ref l) [v] H λ_ H1=>D.nx σ H1:=by
 by_cases c:ts.length<sizeLine
 .rw[aR c]at q;obtain⟨n,j,_⟩:=r.ov;obtain⟨_,_,_,k,d,z⟩:=j i ts e;obtain⟨l,b,h,g,s,p⟩:=r.change e (z.append (.cons m .nil));have:b=k:=by
   have a:=(j i ts e).1;rw[h]at a;have:l=n i:=by simpa using a
   rw[this,d]at g;cases g;rfl
  subst this;exact⟨l,h,l,b,v,rfl,rfl,g,by rw[z.length];exact c,q F _ _ (.refl _) p⟩
 .rw[aS c]at q;exact q.elim
def NN(K:W.Frag)(i:Nat)(a:TE):TE:=UF K "list" tG (mv i) (ql a uO)
def OL(p:∀l xs H,H l=some (.lst xs)->Uy K "list" (.ref l) H)(h:ME K E t f):MS K E (wN (NN K i t)) (tY i (kn f)):=λF0 H0 F H σ ρ D r q=>by
 unfold tY at q;cases e:rZ ρ i with
 |bad=>rw[e]at q;exact q.elim
 |er C n=>unfold rZ at e;split at e<;>cases e
 |ok ts=>rw[e]at q;have j:=Dd e;obtain⟨y,o,_⟩:=r.ov;obtain⟨a,_,_,w,d,_⟩:=o i ts j;refine⟨_,a,p _ _ _ d,?_⟩;refine h.inH r q λx v A z g k m s=>?_;obtain⟨l,c,b⟩:=LB m j k s;rw[a]at c;cases c;exact b
@[simp] noncomputable def yh(i:Nat)(b:En->M T)(f:En->M T):En->O:=λρ=>.of (rZ ρ i) λa=>.of (f ρ) λt=>.of (b ρ) λk=>match k with
 |.int k=>match wW a.length k with
  |some j=>.nx (ρ.set i (some (.o (a.set j t))))
  |none=>.bad
 |_=>.bad
theorem Je{i:Nat}{ts:List T}{x y:T}{v w:V}{l:Addr}(p:Sr K F0 H0 F H σ ρ)(m:ρ[i]? = some (some (.o ts)))(r:σ[i]? = some (some (.ref l)))(A:kU K F v x)(g:kU K F w y)
  (b:(match y with
   |.int k=>match wW ts.length k with
    |some j=>O.nx (ρ.set i (some (.o (ts.set j x))))
    |none=>.bad
   |_=>.bad).res K E F0 H0 F D):FJ (.ref l) w v H λC=>D.nx σ C:=by
 cases g with
 |int k=>
  dsimp only at b;cases e:wW ts.length k with
  |none=>rw[e]at b;exact b.elim
  |some j=>
   rw[e]at b;obtain⟨B,q,_⟩:=p.ov;obtain⟨_,_,_,s,d,z⟩:=q i ts m;obtain⟨J,c,n,h,L,I⟩:=p.change m (z.set A j);rw[r]at n;cases n;have:c=s:=by
    have a:=(q i ts m).1;rw[r]at a;have:l=B i:=by simpa using a
    rw[this,d]at h;cases h;rfl
   subst this;exact⟨l,c,k,j,rfl,rfl,h,by rw[z.length];exact e,b F _ _ (.refl _) I⟩
 |_=>exact b.elim
def Rb(h:ME K E t f)(s:ME K E tk fk):MS K E (oG t (Sl (mv i) tk FJ)) (yh i (vK fk) (vK f)):=λF0 H0 F H σ ρ D r q=>by
 unfold yh at q;cases e:rZ ρ i with
 |bad=>rw[e]at q;exact q.elim
 |er C n=>unfold rZ at e;split at e<;>cases e
 |ok ts=>rw[e]at q;have c:=Dd e;obtain⟨z,l,_⟩:=r.ov;have a:=(l i ts c).1;refine h.inB r q λx v J B g d k p=>⟨_,a,?_⟩;exact s.inB k p λy w A I m b j o=>Je j c a (d.mono m.ff) b o
end
end L3
namespace L3
open PySem L2
section
variable {K:W.Frag}{E:XK}{t u ta tb:TE}{f fa fb:Pe->M T}{F0:Fz}{H0 F H F1 H1:Hp}{σ:St}{ρ:En}{D:sW}
structure xu(K:W.Frag)(J:It)(its:List T)(F1:Hp):Prop where
 go:∀i H,iq F1 H->i<its.length->J.go i H
 stop:∀H,iq F1 H->J.stop its.length H
 yld:∀(i:Nat) t F H x H',iq F1 F->iq F H->its[i]? = some t->J.yld i H x H'->∃F',Gr F H F' H'/\kU K F' x t
def kI(K:W.Frag)(F H:Hp)(R:It->Hp->Prop)(its:List T):Prop:=∀J a b,Gr F H a b->xu K J its a->R J b
noncomputable def MI(K:W.Frag)(E:XK)(w:TI)(f:Pe->M (List T)):Prop:=∀F H σ ρ R,iq F H->lQ K F σ ρ->(f ρ).res (kI K F H R) (kE E F H)->w σ H R
def Wi(K:W.Frag)(F H:Hp)(R:It->Hp->Prop)(its:List T):Prop:=∀J b a,Gr F H b a->(∀F1,xu K J its F1)->R J a
noncomputable def TY(K:W.Frag)(E:XK)(w:TI)(f:Pe->M (List T)):Prop:=∀F H σ ρ R,iq F H->lQ K F σ ρ->(f ρ).res (Wi K F H R) (kE E F H)->w σ H R
def TY.mi{f:Pe->M (List T)}(h:TY K E w f):MI K E w f:=λF H σ ρ R s V q=>h F H σ ρ R s V (q.mono (λc z J a b g i=>z J a b g (i a)) λ_ _ z=>z)
@[simp] noncomputable def UL(fa:Pe->M T):Pe->M (List T):=λρ=>(fa ρ).bind λx=>match x with
 |.lst ts=>.ok ts
 |.scr ns=>.ok (ns.map T.int)
 |_=>.bad
@[simp] noncomputable def Vy(fa:Pe->M T):Pe->M (List T):=λρ=>(fa ρ).bind λx=>match x with
 |.tup ts=>.ok ts
 |_=>.bad
def Ao(c:lS K F a xs)(r:iB K F xs ts):xu K (Ux K a) ts F where
 go:=λi H s m=>by have e:xs[i]? = some (xs[i]'(by rw[r.length];exact m)):=ag _;exact⟨xs,_,s.seq c,e⟩
 stop:=λH s=>⟨xs,s.seq c,by rw[r.length];exact aL _⟩
 yld:=λi t k H x n g d e y=>by obtain⟨rfl,j⟩:=y;have l:=j xs ((g.trans d).seq c);obtain⟨o,b,h⟩:=r.at_ l;rw[e]at b;cases b;exact⟨k,.refl d,h.mono g⟩
def uT(s:iq F H)(h:F a=some (.tup xs)):mW K H a xs:=mW.of (s _ _ h)
def RS(c:F a=some (.tup xs))(r:iB K F xs ts):xu K (Vd K a) ts F where
 go:=λi H s m=>by have e:xs[i]? = some (xs[i]'(by rw[r.length];exact m)):=ag _;exact⟨xs,_,uT s c,e⟩
 stop:=λH s=>⟨xs,uT s c,by rw[r.length];exact aL _⟩
 yld:=λi t k H x n g d e y=>by obtain⟨rfl,j⟩:=y;have l:=j xs (uT (g.trans d) c);obtain⟨o,b,h⟩:=r.at_ l;rw[e]at b;cases b;exact⟨k,.refl d,h.mono g⟩
def AN(c:ME K E ta fa):MI K E (CT K ta) (UL fa):=λF H σ ρ R s V q=>by
  refine c.run s V q λx v F1 H1 a d b=>?_;cases d<;>first
    |exact b.elim
    | (rename_i h r
       exact⟨_,rfl,⟨_,lS.of (a.fh _ _ h)⟩,b _ F1 H1 a (Ao (lS.of h) r)⟩)
    | (rename_i h
       exact⟨_,rfl,⟨_,a.fh.seq h⟩,b _ F1 H1 a (Ao h (iB.of_ints _))⟩)
def RT(c:ME K E ta fa):MI K E (QD K ta) (Vy fa):=λF H σ ρ R s V q=>by
  refine c.run s V q λx v F1 H1 a d b=>?_;cases d<;>first
    |exact b.elim
    | (rename_i h r
       exact⟨_,rfl,⟨_,mW.of (a.fh _ _ h)⟩,b _ F1 H1 a (RS h r)⟩)
def Ue:(2:Int) ^ 62=4611686018427387904:=by decide +kernel
def Us:(2:Int) ^ 63=9223372036854775808:=by decide +kernel
noncomputable def Ce(j:Int):Bool:=decide (j.natAbs<4611686018427387904)
def rA(h:Ce j=true):-(2 ^ 62)<=j/\j<2 ^ 62:=by rw[Ue];have:=of_decide_eq_true h;omega
def lT(h:j.natAbs<=1000000):Ce j=true:=aC (by omega)
noncomputable def Ah(a:Int)(n:Nat):List T:=(List.range n).map λ(i:Nat)=>T.int (a+(i:Int))
def Rt F:xu K (Ua lo n) (Ah lo n) F where
 go:=λi H s a=>by show i<n;simpa[Ah] using a
 stop:=λH s=>by simp[Ah,Ua]
 yld:=λi t b H x g d c e y=>by
  obtain⟨rfl,rfl⟩:=y;have a:i<n:=by simpa[Ah] using (aa.mp e).1
  have:t=.int (lo+i):=by unfold Ah at e;rw[aw,List.getElem?_range a]at e;cases e;rfl
  rw[this];exact⟨b,.refl c,.int _⟩
@[simp] noncomputable def kC(fa:Pe->M (List T)):Pe->M (List T):=λρ=>(fa ρ).bind λa=>match a with
 |[.int j]=>if Ce j then .ok (Ah 0 j.toNat) else .bad
 |_=>.bad
def Ou{ta:TA}{fa:Pe->M (List T)}(g:MA K E ta fa):TY K E (Kq ta) (kC fa):=λF H σ ρ R s V q=>by
 refine g.run s V q λi k F1 H1 h e c=>?_;split at c
 .rename_i j;split at c
  .rename_i d;cases e with
   |cons a b=>cases a;cases b;exact⟨j,rfl,(rA d).1,(rA d).2,c _ F1 H1 h Rt⟩
  .exact c.elim
 .exact c.elim
noncomputable def seqB(b:Bool):T->M (List T)
 |.tup ts=>if b then .ok ts else .bad
 |.lst ts=>if b then .bad else .ok ts
 |.scr ns=>if b then .bad else .ok (ns.map T.int)
 |_=>.bad
def AI(r:kU K F v x)(e:seqB b x=.ok ts):∃a xs,v=.ref a/\(∀H,iq F H->xZ K H b a xs)/\iB K F xs ts:=by
 cases r<;>try (cases e)
 .rename_i a xs c h r;cases b with
  |true=>cases e;exact⟨a,xs,rfl,λH s=>by unfold xZ;rw[aR rfl];exact mW.of (s _ _ h),r⟩
  |false=>cases e
 .rename_i a xs c h r;cases b with
  |true=>cases e
  |false=>cases e;exact⟨a,xs,rfl,λH s=>by unfold xZ;rw[aS aI];exact lS.of (s _ _ h),r⟩
 .rename_i a d h;cases b with
  |true=>cases e
  |false=>cases e;exact⟨a,_,rfl,λH s=>by unfold xZ;rw[aS aI];exact s.seq h,iB.of_ints d⟩
noncomputable def tj(xs ys:List T):List T:=(xs.zip ys).map λp=>T.tup [p.1,p.2]
def RD(j:∀H,iq F H->xZ K H b1 l1 xs)(h:iB K F xs ts)(k:∀H,iq F H->xZ K H b2 l2 ys)(c:iB K F ys us):xu K (U0 K b1 b2 l1 l2) (tj ts us) F where
 go:=λi H s I=>by
  have a:i<ts.length/\i<us.length:=by simp[tj]at I;omega
  have m:xs[i]? = some (xs[i]'(by rw[h.length];exact a.1)):=ag _;have l:ys[i]? = some (ys[i]'(by rw[c.length];exact a.2)):=ag _;exact⟨xs,ys,_,_,j H s,k H s,m,l⟩
 stop:=λH s=>⟨xs,ys,j H s,k H s,by simp[tj,h.length,c.length];omega⟩
 yld:=λi t N H x L b d e y=>by
  obtain⟨p,C,B,rfl,r,rfl,m,l⟩:=y;obtain⟨q,w,J⟩:=h.at_ (m xs (j H (b.trans d)));obtain⟨n,v,A⟩:=c.at_ (l ys (k H (b.trans d)));have:t=.tup [q,n]:=by unfold tj at e;rw[aw,(List.getElem?_zip_eq_some (z:=(q,n))).mpr ⟨w,v⟩]at e;cases e;rfl
  rw[this];have g:=Gr.new (o:=.tup [C,B]) d r;exact⟨_,g,.tup hC (.cons ((J.mono b).mono g.ff) (.cons ((A.mono b).mono g.ff) .nil))⟩
noncomputable def QK(e d:Bool)(fa:Pe->M (List T)):Pe->M (List T):=λρ=>(fa ρ).bind λb=>match b with
 |[x,y]=>(seqB e x).bind λc=>(seqB d y).bind λa=>.ok (tj c a)
 |_=>.bad
def Ay:seqB b x≠.er C n:=by cases x<;>cases b<;>exact λz=>nomatch z
def KH{ta:TA}{fa:Pe->M (List T)}(m:MA K E ta fa):MI K E (Q4 K b1 b2 ta) (QK b1 b2 fa):=λF H σ ρ R s V q=>by
 refine m.run s V q λz A F1 H1 h l d=>?_;split at d
 .rename_i x y;cases l with
  |cons a b=>
   cases b with
   |cons b c=>
    cases c;cases g:seqB b1 x with
    |bad=>rw[g]at d;exact d.elim
    |er C n=>exact absurd g Ay
    |ok ts=>
     rw[g]at d;cases e:seqB b2 y with
     |bad=>simp only[e,M.bind_ok]at d;exact d.elim
     |er C n=>exact absurd e Ay
     |ok us=>simp only[e,M.bind_ok]at d;obtain⟨k,w,rfl,j,v⟩:=AI a g;obtain⟨o,p,rfl,i,r⟩:=AI b e;exact⟨k,o,rfl,⟨w,j _ h.fh⟩,⟨p,i _ h.fh⟩,d _ F1 H1 h (RD j v i r)⟩
 .exact d.elim
def MG(K:W.Frag)(g:TG)(m:T->Pe->Option Pe):Prop:=∀F H σ (ρ:Pe) x t ρ' Q,iq F H->σ.length=ρ.length->lQ K F σ ρ->kU K F x t->m t ρ=some ρ'->(∀a,a.length=ρ'.length->lQ K F a ρ'->Q a H)->g x σ H Q
def Tx(K:W.Frag)(g:Ml)(m:List T->Pe->Option Pe):Prop:=∀F H σ (ρ:Pe) xs ts ρ' Q,iq F H->σ.length=ρ.length->lQ K F σ ρ->iB K F xs ts->m ts ρ=some ρ'->(∀a,a.length=ρ'.length->lQ K F a ρ'->Q a H)->g xs σ H Q
@[simp] def ku(i:Nat):T->Pe->Option Pe:=λt ρ=>some (ρ.set i (some t))
def lQ.set{ρ:Pe}(V:lQ K F σ ρ)(d:σ.length=ρ.length)(h:kU K F v x):lQ K F (σ.set i (some v)) (ρ.set i (some x)):=λj t e=>by
 have c:j<ρ.length:=by simpa using (aa.mp e).1
 rcases iG e with⟨rfl,q⟩|⟨c,q⟩
 .cases q;exact⟨v,AK (by rw[d];exact c),h⟩
 .obtain⟨w,a,b⟩:=V j t q;exact⟨w,by rw[aq (λz=>c z.symm)];exact a,b⟩
def OD:MG K (jS i) (ku i):=λF H σ ρ x t b Q s a V r e k=>by cases e;exact k _ (by simp[a]) (V.set a r)
@[simp] noncomputable def oR:List T->Pe->Option Pe
 |[],ρ=>some ρ
 |_::_,_=>none
@[simp] def je(m:T->Pe->Option Pe)(n:List T->Pe->Option Pe):List T->Pe->Option Pe
 |[],_=>none
 |t::ts,ρ=>(m t ρ).bind (n ts)
def OG:Tx K GV oR:=λF H σ ρ g h c Q s d V r e k=>by
 cases r with
 |nil=>cases e;exact⟨rfl,k σ d V⟩
 |cons a b=>cases e
def L9(l:MG K g m)(w:Tx K gs n):Tx K (wy g gs) (je m n):=λF H σ ρ x y c Q s o V r e k=>by
 cases r with
 |nil=>cases e
 |cons a b=>
  rename_i v t j d;have e:(m t ρ).bind (n d)=some c:=e;cases q:m t ρ with
  |none=>rw[q]at e;cases e
  |some ρ1=>rw[q]at e;refine⟨v,j,rfl,l F H σ ρ v t ρ1 _ s o V a q λi h p=>?_⟩;exact w F H i ρ1 j d c Q s h p b e k
@[simp] noncomputable def oT(k:Nat)(m:List T->Pe->Option Pe):T->Pe->Option Pe
 |.tup ts,ρ=>if ts.length=k then m ts ρ else none
 |_,_=>none
def Sb(h:Tx K g m):MG K (Ht K k g) (oT k m):=λF H σ ρ x t b Q s i V r e q=>by
 cases r with
 |tup hx rs=>
  rename_i a j c;have e:(if c.length=k then m c ρ else none)=some b:=e;by_cases d:c.length=k
  .rw[aR d]at e;exact⟨_,_,rfl,mW.of (s _ _ hx),by rw[rs.length];exact d,h F H σ ρ _ _ b Q s i V rs e q⟩
  .rw[aS d]at e;cases e
 |_=>cases e
noncomputable def Iu(K:W.Frag)(g:TG)(m:T->En->Option En):Prop:=∀F0 H0 F H σ ρ x t a Q,Sr K F0 H0 F H σ ρ->kU K F x t->m t ρ=some a->(∀b,Sr K F0 H0 F H b a->Q b H)->g x σ H Q
noncomputable def K1(K:W.Frag)(g:Ml)(m:List T->En->Option En):Prop:=∀F0 H0 F H σ ρ c d a Q,Sr K F0 H0 F H σ ρ->iB K F c d->m d ρ=some a->(∀b,Sr K F0 H0 F H b a->Q b H)->g c σ H Q
@[simp] noncomputable def ot(i:Nat):T->En->Option En:=λt ρ=>some (ρ.set i (some (.p t)))
def KR:Iu K (jS i) (ot i):=λF0 H0 F H σ ρ x t a Q s r e k=>by cases e;exact k _ (s.setP r)
@[simp] noncomputable def qs:List T->En->Option En
 |[],ρ=>some ρ
 |_::_,_=>none
@[simp] noncomputable def kc(m:T->En->Option En)(n:List T->En->Option En):List T->En->Option En
 |[],_=>none
 |t::ts,ρ=>(m t ρ).bind (n ts)
def Lc:K1 K GV qs:=λF0 H0 F H σ ρ d g c Q s r e k=>by
 cases r with
 |nil=>cases e;exact⟨rfl,k σ s⟩
 |cons a b=>cases e
def HA(j:Iu K g m)(l:K1 K gs n):K1 K (wy g gs) (kc m n):=λF0 H0 F H σ ρ p w c Q s r e k=>by
 cases r with
 |nil=>cases e
 |cons a b=>
  rename_i v t i d;have e:(m t ρ).bind (n d)=some c:=e;cases q:m t ρ with
  |none=>rw[q]at e;cases e
  |some ρ1=>rw[q]at e;refine⟨v,i,rfl,j F0 H0 F H σ ρ v t ρ1 _ s a q λh o=>?_⟩;exact l F0 H0 F H h ρ1 i d c Q o b e k
@[simp] noncomputable def qL(k:Nat)(m:List T->En->Option En):T->En->Option En
 |.tup ts,ρ=>if ts.length=k then m ts ρ else none
 |_,_=>none
def Oq(h:K1 K g m):Iu K (Ht K k g) (qL k m):=λF0 H0 F H σ ρ x t b Q s r e q=>by
 cases r with
 |tup hx rs=>
  rename_i a i c;have e:(if c.length=k then m c ρ else none)=some b:=e;by_cases d:c.length=k
  .rw[aR d]at e;exact⟨_,_,rfl,mW.of (s.gr.fh _ _ hx),by rw[rs.length];exact d,h F0 H0 F H σ ρ _ _ b Q s rs e q⟩
  .rw[aS d]at e;cases e
 |_=>cases e
noncomputable def jY(m:T->En->Option En)(g:En->O):List T->En->O
 |[],ρ=>.nx ρ
 |t::ts,ρ=>match m t ρ with
  |none=>.bad
  |some ρ1=>match g ρ1 with
   |.nx ρ2=>jY m g ts ρ2
   |.ct ρ2=>jY m g ts ρ2
   |.bk ρ2=>.nx ρ2
   |o=>o
theorem wt{tb:TS}{J:It}(hg:Iu K g m)(hb:MS K E tb gb){G:Hp->Hp->Prop}(U:∀i F H,G F H->i<its.length->J.go i H)(Y:∀F H,G F H->J.stop its.length H)(R:∀(i:Nat) t F H x c,G F H->its[i]? = some t->J.yld i H x c->∃d,Gr F H d c/\kU K d x t)
  (X:∀d c b ρ',iq F1 d->Sr K F0 H0 d c b ρ'->G d c) (r:Sr K F0 H0 F H σ ρ) (s1:iq F1 F)
  (q:(jY m gb its ρ).res K E F0 H0 F D):∃W:Nat->Nat->St->Hp->Prop,(∃m,W 0 m σ H)/\∀i m σ H,W i m σ H->
 (J.stop i H/\D.nx σ H)\/(J.go i H/\∃N:St->Hp->Prop,(∀b c,N b c->∃Z,Z<m/\W (i+1) Z b c)/\∀x c,J.yld i H x c->g x σ c λS H2=>tb {D with nx:=N,ct:=N,bk:=D.nx} S H2):=by
 refine⟨λi k b c=>i<=its.length/\k=its.length-i/\∃d ρ',iq F1 d/\Sr K F0 H0 d c b ρ'/\(jY m gb (its.drop i) ρ').res K E F0 H0 d D,⟨_,bL _,rfl,F,ρ,s1,r,by simpa using q⟩,?_⟩
 rintro i k A L ⟨hi,rfl,I,p,w,v,a⟩
 by_cases h:i<its.length
 .right;refine⟨U i I L (X _ _ _ _ w v) h,λb c=>∃d ρ',iq F1 d/\Sr K F0 H0 d c b ρ'/\(jY m gb (its.drop (i+1)) ρ').res K E F0 H0 d D,λb c z=>⟨its.length-(i+1),by omega,h,rfl,z⟩,λx c y=>?_⟩;have et:=ag h;obtain⟨F3,o,rp⟩:=R i _ I L x c (X _ _ _ _ w v) et y;rw[cS h]at a;unfold jY at a;cases P:m its[i] p with
  |none=>rw[P]at a;exact a.elim
  |some ρ3=>
   rw[P]at a;refine hg F0 H0 F3 c A p x _ ρ3 _ (v.grow o) rp P λb r'=>?_;refine hb F0 H0 F3 c b ρ3 _ r' ?_;dsimp only at a;cases j:gb ρ3 with
   |bad=>rw[j]at a;exact a.elim
   |nx ρ4=>rw[j]at a;exact λd Q B s l=>⟨d,ρ4,(w.trans o.ff).trans s,l,O.res.go a (o.ff.trans s)⟩
   |ct ρ4=>rw[j]at a;exact λd Q B s l=>⟨d,ρ4,(w.trans o.ff).trans s,l,O.res.go a (o.ff.trans s)⟩
   |bk ρ4=>rw[j]at a;exact kN.go a o.ff
   |rt t=>rw[j]at a;exact a
   |rf ts=>rw[j]at a;exact a
   |rn ts us=>rw[j]at a;exact a
   |er C n=>rw[j]at a;exact a
 .left;have e:i=its.length:=by omega
  subst e;refine⟨Y I L (X _ _ _ _ w v),?_⟩;rw[eB]at a;exact a I L A (.refl _) v
def zN{tb:TS}(l:Iu K g m)(j:MS K E tb gb)(b:xu K J its F1)(r:Sr K F0 H0 F H σ ρ)(k:iq F1 F)
  (q:(jY m gb its ρ).res K E F0 H0 F D):∃W:Nat->Nat->St->Hp->Prop,(∃m,W 0 m σ H)/\∀i m σ H,W i m σ H->
 (J.stop i H/\D.nx σ H)\/(J.go i H/\∃N:St->Hp->Prop,(∀c a,N c a->∃h,h<m/\W (i+1) h c a)/\∀x a,J.yld i H x a->g x σ a λd n=>tb {D with nx:=N,ct:=N,bk:=D.nx} d n):=
 wt (G:=λF H=>iq F1 F/\iq F H) l j (λi F H q o=>b.go i H (q.1.trans q.2) o) (λF H q=>b.stop H (q.1.trans q.2)) (λi t F H x a q e y=>b.yld i t F H x a q.1 q.2 e y) (λ_ _ _ _ s r=>⟨s,r.gr.fh⟩) r k q
@[simp] noncomputable def GH(j:Nat)(ts:List T):O->O
 |.nx ρ=>match ρ[j]? with
  |some none=>.nx (ρ.set j (some (.o ts)))
  |_=>.bad
 |.rt t=>.rt t
 |.rf ts=>.rf ts
 |.rn ts us=>.rn ts us
 |.er C n=>.er C n
 |_=>.bad
@[simp] noncomputable def rh(j:Nat)(m:T->En->Option En)(g:En->O):En->O:=λρ=>match ρ[j]? with
 |some (some (.o ts))=>GH j ts (jY m g ts (ρ.set j none))
 |_=>.bad
def Sr.hide(r:Sr K F0 H0 F H σ ρ)(e:ρ[j]? = some (some (.o ts))):∃l vs,σ[j]? = some (some (.ref l))/\H l=some (.lst vs)/\iB K F vs ts/\(∀v∈F0.lt,v.2.1≠l)/\Sr K ⟨F0.hp,(j,l,vs)::F0.lt⟩ H0 F H σ (ρ.set j none):=by
 obtain⟨x,A,J⟩:=r.ov;obtain⟨a,b,c,vs,d,z⟩:=A j ts e;refine⟨x j,vs,a,d,z,λv s w=>(r.lv v s).d j ts e (by rw[w];exact a),r.gr,by simp[r.len],λi t q=>?_,⟨x,λi n q=>?_,λi k n y q P B=>?_⟩,λv s=>?_,λi l I m q=>?_,r.dv.setR λ_ z=>nomatch z⟩
 .rcases iG q with⟨rfl,g⟩|⟨p,g⟩
  .cases g
  .exact r.pv i t g
 .rcases iG q with⟨rfl,g⟩|⟨p,g⟩
  .cases g
  .exact A i n g
 .rcases iG q with⟨rfl,g⟩|⟨p,g⟩
  .cases g
  .rcases iG P with⟨rfl,C⟩|⟨Q,C⟩
   .cases C
   .exact J i k n y g C B
 .rcases aG.mp s with rfl|s
  .refine⟨d,b,c,λi n q w=>?_⟩;rcases iG q with⟨rfl,g⟩|⟨p,g⟩
   .cases g
   .obtain⟨N,_⟩:=A i n g;rw[N]at w;have:x i=x j:=by simpa using w
    exact J i j n ts g e p this
  .have L:=r.lv v s;refine⟨L.h,L.f,L.z,λi n q=>?_⟩;rcases iG q with⟨rfl,g⟩|⟨p,g⟩
   .cases g
   .exact L.d i n g
 .rw[cw]at m;rcases iG q with⟨rfl,g⟩|⟨p,g⟩
  .rw[beq_self_eq_true]at m;cases m;exact a
  .rw[beq_eq_false_iff_ne.mpr p]at m;exact r.sl i l I m g
def Sr.unhide(r:Sr K ⟨F0.hp,(j,l,vs)::F0.lt⟩ H0 F H σ ρ)(e:ρ[j]? = some none)(hr:iB K F vs ts)(Q:∀s∈F0.lt,s.2.1≠l):Sr K F0 H0 F H σ (ρ.set j (some (.o ts))):=by
 obtain⟨C,I,R⟩:=r.ov;have L:=r.lv (j,l,vs) (bu ..);have B:=r.sl j l vs (by rw[cw,beq_self_eq_true]) e;have J:∀i p,ρ[i]? = some (some (.o p))->C i≠l:=λi p q w=>L.d i p q (by rw[(I i p q).1,w]);refine⟨r.gr,by simp[r.len],λi t q=>?_,⟨λi=>if i=j then l else C i,λi c q=>?_,λi k c g q P m=>?_⟩,λs N=>?_,λi S A x q=>?_,r.dv.setR λ_ z=>nomatch z⟩
 .rcases iG q with⟨rfl,a⟩|⟨b,a⟩
  .cases a
  .exact r.pv i t a
 .rcases iG q with⟨rfl,a⟩|⟨b,a⟩
  .cases a;dsimp only;rw[aR rfl];exact⟨B,L.f,L.z,vs,L.h,hr⟩
  .dsimp only;rw[aS b];exact I i c a
 .rcases iG q with⟨rfl,a⟩|⟨b,a⟩
  .rcases iG P with⟨rfl,n⟩|⟨y,n⟩
   .exact absurd rfl m
   .dsimp only;rw[aR rfl,aS y];exact λw=>J k g n w.symm
  .rcases iG P with⟨rfl,n⟩|⟨y,n⟩
   .dsimp only;rw[aS b,aR rfl];exact J i c a
   .dsimp only;rw[aS b,aS y];exact R i k c g a n m
 .have v:=r.lv s (bx _ N);refine⟨v.h,v.f,v.z,λi c q=>?_⟩;rcases iG q with⟨rfl,a⟩|⟨b,a⟩
  .rw[B];intro w;exact Q s N (by simpa using w.symm)
  .exact v.d i c a
 .rcases iG q with⟨rfl,a⟩|⟨b,a⟩
  .cases a
  .exact r.sl i S A (by rw[cw,beq_eq_false_iff_ne.mpr b];exact x) a
theorem G5{tb:TS}(hw:∀σ H R l vs,σ[j]? = some (some (.ref l))->H l=some (.lst vs)->R (Ux K l) H->w σ H R)(U:Iu K g m)(B:MS K E tb gb) :
  MS K E (wJ w g tb) (rh j m gb):=λF0 H0 F H σ ρ D r q=>by
 unfold rh at q;split at q
 .rename_i A e;obtain⟨l,vs,a,d,z,N,S⟩:=r.hide e;refine hw σ H _ l vs a d ?_;have q':(jY m gb A (ρ.set j none)).res K E ⟨F0.hp,(j,l,vs)::F0.lt⟩ H0 F D:=by
   cases eo:jY m gb A (ρ.set j none) with
   |bad=>rw[eo]at q;exact q.elim
   |nx ρ2=>
    rw[eo]at q;unfold GH at q;dsimp only at q;split at q
    .rename_i X;exact λb c p s v=>q b c p s (v.unhide X (z.mono s) N)
    .exact q.elim
   |rt t=>rw[eo]at q;exact q
   |rf us=>rw[eo]at q;exact q
   |rn A us=>rw[eo]at q;exact q
   |bk ρ2=>rw[eo]at q;exact q.elim
   |ct ρ2=>rw[eo]at q;exact q.elim
   |er C n=>rw[eo]at q;exact q
  refine wt (G:=λb c=>iq F b/\iq b c/\c l=some (.lst vs)) U B (λi b c k Z=>?_) (λb c k=>?_) (λi t b c x J k L y=>?_) (λb c p I s v=>⟨s,v.gr.fh,(v.lv (j,l,vs) (bu ..)).h⟩) S (.refl _) q'
  .have Y:vs[i]? = some (vs[i]'(by rw[z.length];exact Z)):=ag _;exact⟨vs,_,lS.of k.2.2,Y⟩
  .exact⟨vs,lS.of k.2.2,by rw[z.length];exact aL _⟩
  .obtain⟨rfl,P⟩:=y;obtain⟨t',o,Q⟩:=z.at_ (P vs (lS.of k.2.2));rw[L]at o;cases o;exact⟨b,.refl k.2.1,Q.mono k.1⟩
 .exact q.elim
@[simp] noncomputable def vE(b:Pe->M (List T))(m:T->En->Option En)(g:En->O):En->O:=λρ=>.of (b (kP ρ)) λa=>jY m g a ρ
def Se{tb:TS}(h:MI K E w fi)(e:Iu K g m)(c:MS K E tb gb):MS K E (wJ w g tb) (vE fi m gb):=λF0 H0 F H σ ρ D r q=>h F H σ (kP ρ) _ r.gr.fh r.vars ((O.res_of q).mono (λd z J j i b a=>zN e c a (r.grow b) (.refl _) (z.go b.ff)) λC n z=>z.go r.gr)
@[simp] noncomputable def u0(b:Pe->M (List T))(m:T->En->Option En)(g:En->O):En->O:=λρ=>.of (b (vw ρ)) λa=>jY m g a ρ
def OJ{tb:TS}(v:TY K E w fi)(p:Iu K g m)(e:MS K E tb gb):MS K E (wJ w g tb) (u0 fi m gb):=λF0 H0 F H σ ρ D r q=>by obtain⟨k,x,d,V,a⟩:=r.lend;refine v k H σ (vw ρ) _ d.fh V ((O.res_of q).mono (λh z J s o i b=>?_) λC n z=>z.go d);obtain⟨j,c,l,_⟩:=a s o i;exact zN p e (b j) (r.grow c) (.refl _) (z.go l)
noncomputable def mD(c:Pe->M Bool)(g:En->O):Nat->En->O
 |0,_=>.bad
 |n+1,ρ=>.of (c (vw ρ)) λb=>if b then (match g ρ with
   |.nx ρ2=>mD c g n ρ2
   |.ct ρ2=>mD c g n ρ2
   |.bk ρ2=>.nx ρ2
   |o=>o) else .nx ρ
def KG{tb:TS}(h:En->Nat)(J:MT K E c fc)(I:MS K E tb gb):MS K E (Dz c tb) (λρ=>mD fc gb (h ρ) ρ):=λF0 H0 F H σ ρ D r q=>by
 refine⟨λn g o=>∃e d,iq F e/\Sr K F0 H0 e o g d/\(mD fc gb n d).res K E F0 H0 e D,⟨h ρ,F,ρ,.refl _,r,q⟩,?_⟩;rintro n l P ⟨N,k,w,L,v⟩;cases n with
 |zero=>exact v.elim
 |succ n=>
  unfold mD at v;refine J.inS L v λb y A x B a=>?_;cases b with
  |true=>
   rw[aR rfl]at a ⊢;refine⟨λg o=>∃e d,iq F e/\Sr K F0 H0 e o g d/\(mD fc gb n d).res K E F0 H0 e D,λg o z=>⟨n,bK n,z⟩,?_⟩;refine I F0 H0 y A l k _ B ?_;cases i:gb k with
   |bad=>rw[i]at a;exact a.elim
   |nx ρ4=>rw[i]at a;exact λe p m s j=>⟨e,ρ4,(w.trans x).trans s,j,O.res.go a s⟩
   |ct ρ4=>rw[i]at a;exact λe p m s j=>⟨e,ρ4,(w.trans x).trans s,j,O.res.go a s⟩
   |bk ρ4=>rw[i]at a;exact a
   |rt t=>rw[i]at a;exact a
   |rf ts=>rw[i]at a;exact a
   |rn ts us=>rw[i]at a;exact a
   |er C n=>rw[i]at a;exact a
  |false=>rw[aS aI]at a ⊢;exact a y A l (.refl _) B
@[simp] noncomputable def om(a:List (Option Nat))(ρ:Pe):Pe:=a.map fun
 |none=>none
 |some j=>(ρ[j]?).getD none
def lQ.pull{ρ:Pe}(V:lQ K F σ ρ) ix:lQ K F (L2.pull ix σ) (om ix ρ):=λi t e=>by
 unfold om at e;rw[aw]at e;cases q:ix[i]? with
 |none=>rw[q]at e;cases e
 |some w=>
  rw[q]at e;cases w with
  |none=>cases e
  |some j=>
   have c:(ρ[j]?).getD none=some t:=by simpa using e
   cases z:ρ[j]? with
   |none=>rw[z]at c;cases c
   |some y=>rw[z]at c;have:y=some t:=c;rw[this]at z;obtain⟨v,a,b⟩:=V j t z;refine⟨v,?_,b⟩;unfold L2.pull;rw[aw,q];simp[a]
@[simp] noncomputable def uc(m:T->Pe->Option Pe)(a:Pe->M Bool)(c:Pe->M T)(ρ:Pe)(t:T):M (Option T):=match m t ρ with
 |none=>.bad
 |some ρ1=>(a ρ1).bind λb=>if b then (c ρ1).bind λx=>.ok (some x) else .ok none
noncomputable def qo(k:T->M (Option T)):List T->M (List T)
 |[]=>.ok []
 |t::ts=>(k t).bind λo=>(qo k ts).bind λr=>.ok (match o with
  |some x=>x::r
  |none=>r)
def Mj:XK:=λ_ _ _=>False
def Q5:MT K E R4 (λ_=>.ok true):=λF H σ ρ Q s V q=>q F H (.refl s)
theorem L1{ρ:Pe}(hg:MG K g m)(ht:MT K Mj tt ft)(he:ME K Mj te fe)(V:lQ K F1 σ ρ)
  (l:xu K J its F1) (s:iq F1 H1) (hl:its.length<sizeLine) (q:(qo (uc m ft fe (om ix ρ)) its).res (kF K F1 H1 Q) (λ_ _=>False)):Vo J ix g tt te σ H1 Q:=by
 refine⟨λi k L H=>i<=its.length/\k=its.length-i/\∃Y h,Gr F1 H1 Y H/\iB K Y L h/\h.length<=i/\(qo (uc m ft fe (om ix ρ)) (its.drop i)).res (λS=>kF K F1 H1 Q (h++S)) (λ_ _=>False),
  ⟨_,bL _,rfl,F1,[],.refl s,.nil,bL _,by simpa using q⟩,?_⟩
 rintro i k L R ⟨hi,rfl,U,h,a,A,tl,o⟩;by_cases c:i<its.length
 .right;refine⟨l.go i R (a.ff.trans a.fh) c,by rw[A.length];omega,λx I y=>?_⟩;have et:=ag c;obtain⟨F3,r,rp⟩:=l.yld i _ U R x I a.ff a.fh et y;rw[cS c]at o;unfold qo at o;have j:=M.res.unb o;unfold uc at j;cases B:m its[i] (om ix ρ) with
  |none=>rw[B]at j;exact j.elim
  |some ρ3=>
   rw[B]at j;have d:=a.trans r;have V3:=(V.mono d.ff).pull ix;refine hg F3 I _ _ x _ ρ3 _ r.fh (by simp[L2.pull,om]) V3 rp B λp hl' X=>?_;have q4:=M.res.unb j;refine ht F3 I p ρ3 _ r.fh X (q4.mono (λb z F4 H4 n=>?_) λ_ _ z=>z.elim);cases b with
   |true=>rw[aR rfl]at z ⊢;have q5:=M.res.unb z;refine he F4 H4 p ρ3 _ n.fh (X.mono n.ff) (q5.mono (λx' z' v F5 H5 Z C=>?_) λ_ _ z=>z.elim);refine⟨its.length-(i+1),by omega,c,rfl,F5,h++[x'],(d.trans n).trans Z,(A.mono (r.ff.trans (n.ff.trans Z.ff))).append (.cons C .nil),by simp;omega,?_⟩;have P:=M.res.unb z';exact P.mono (λS w=>by rw[bZ];exact w) λ_ _ w=>w
   |false=>rw[aS aI]at z ⊢;refine⟨its.length-(i+1),by omega,c,rfl,F4,h,d.trans n,A.mono (r.ff.trans n.ff),by omega,?_⟩;exact M.res.unb z
 .left;have e:i=its.length:=by omega
  subst e;rw[eB]at o;refine⟨l.stop R (a.ff.trans a.fh),λD N=>?_⟩;have j:kF K F1 H1 Q h:=by simpa[qo,M.res] using o
  exact j D L U _ (a.trans (.new' a.fh N)) (iF a.hh N) (iF a.fh N) hC A
def PQ(i:MI K E w fi)(h:MG K g m)(d:MT K Mj tt ft)(e:ME K Mj te fe) :
  MF K E (Jb ix w g tt te) (λρ=>(fi ρ).bind λits=>(if its.length<sizeLine then qo (uc m ft fe (om ix ρ)) its else .bad).noEr):=λF H σ ρ Q s V q=>by
 refine i F H σ ρ _ s V ((M.res.unb q).mono (λits z J k j a b=>?_) λ_ _ z=>z);split at z
 .rename_i c;exact L1 h d e (V.mono a.ff) b a.fh c (z.noEr.mono (λ_ w=>w.go a) λ_ _ w=>w)
 .exact z.elim
end
end L3
namespace L3
open PySem L2
section
variable {K:W.Frag}{E:XK}{t u ta tb:TE}{f fa fb:Pe->M T}{F0:Fz}{H0 F H F1 H1:Hp}{σ:St}{ρ:En}{D:sW}
noncomputable def xU(K:W.Frag)(F:List T->M T):Sp:=λb H Q E=>∃a F0,iq F0 H/\iB K F0 b a/\(F a).res (kV K F0 H Q) (kE E F0 H)
noncomputable def Cq(K:W.Frag)(F:List T->M (List T)):Sp:=λb H Q E=>∃a F0,iq F0 H/\iB K F0 b a/\(F a).res (kF K F0 H Q) (kE E F0 H)
@[simp] noncomputable def hZ(fa:Pe->M (List T))(F:List T->M T):Pe->M T:=λρ=>(fa ρ).bind λa=>(F a).noEr
@[simp] noncomputable def kL(fa:Pe->M (List T))(F:List T->M (List T)):Pe->M (List T):=λρ=>(fa ρ).bind λa=>(F a).noEr
section
variable {tr:TA}{fr:Pe->M (List T)}{Fn:List T->M T}{Ff:List T->M (List T)}{E':XK}
def LW(c:MA K E tr fr):ME K E (zA (xU K Fn) [] E' tr) (hZ fr Fn):=λF H σ ρ Q s V q=>by refine c.run s V q λb g F1 H1 a e d=>?_;exact⟨b,F1,a.fh,by rw[bM];exact e,(d.mono (λ_ z=>kV.go z a) λ_ _ z=>z).noEr⟩
def J5(c:MA K E tr fr):MF K E (zA (Cq K Ff) [] E' tr) (kL fr Ff):=λF H σ ρ Q s V q=>by refine c.run s V q λb g F1 H1 a e d=>?_;exact⟨b,F1,a.fh,by rw[bM];exact e,(d.mono (λ_ z=>kF.go z a) λ_ _ z=>z).noEr⟩
@[simp] noncomputable def xC(C:Addr)(m:Str)(x:T):M Unit:=match x with
 |.obj C' fs=>if C'=C/\fs.lookup m=none then .ok () else .bad
 |_=>.bad
@[simp] noncomputable def qP(C:Addr)(m:Str)(b:Pe->M T)(fr:Pe->M (List T))(F:List T->M T):Pe->M T:=λρ=>(b ρ).bind λx=>(xC C m x).bind λ_=>(fr ρ).bind λa=>(F (x::a)).noEr
@[simp] noncomputable def sV(C:Addr)(m:Str)(b:Pe->M T)(fr:Pe->M (List T))(F:List T->M (List T)):Pe->M (List T):=λρ=>(b ρ).bind λx=>(xC C m x).bind λ_=>(fr ρ).bind λa=>(F (x::a)).noEr
def Fv(r:kU K F v x)(e:xC C m x=.ok ()):∃a dx fs,v=.ref a/\F a=some (.ins C dx fs)/\fs.lookup m=none:=by
 cases r with
 |obj h rs=>
  rename_i a c dx fs b;have e:(if c=C/\List.lookup m b=none then M.ok () else M.bad)=.ok ():=e;by_cases d:c=C/\List.lookup m b=none
  .obtain⟨rfl,g⟩:=d;exact⟨a,dx,fs,rfl,h,rs.none_ g⟩
  .rw[aS d]at e;cases e
 |_=>cases e
def Fe:xC C m x≠.er C' n:=by
 unfold xC;split
 .split<;>exact λz=>nomatch z
 .exact λz=>nomatch z
def J9(o:ME K E ta fa)(hr:MA K E tr fr):ME K E (zP C m (xU K Fn) [] E' ta tr) (qP C m fa fr Fn):=λF H σ ρ Q s V q=>by
 refine o.run s V q λx v F1 H1 b g c=>?_;cases e:xC C m x with
 |bad=>rw[e]at c;exact c.elim
 |er C n=>exact absurd e Fe
 |ok u=>rw[e]at c;obtain⟨a,r,fs,rfl,h,l⟩:=Fv g e;refine⟨a,r,fs,rfl,b.fh _ _ h,l,?_⟩;refine hr.run b.fh (V.mono b.ff) c λk w j y d i p=>?_;exact⟨x::k,j,d.fh,by rw[bM];exact .cons (g.mono d.ff) i,(p.mono (λ_ z=>kV.go z (b.trans d)) λ_ _ z=>z).noEr⟩
def J7(o:ME K E ta fa)(hr:MA K E tr fr):MF K E (zP C m (Cq K Ff) [] E' ta tr) (sV C m fa fr Ff):=λF H σ ρ Q s V q=>by
 refine o.run s V q λx v F1 H1 b g c=>?_;cases e:xC C m x with
 |bad=>rw[e]at c;exact c.elim
 |er C n=>exact absurd e Fe
 |ok u=>rw[e]at c;obtain⟨a,r,fs,rfl,h,l⟩:=Fv g e;refine⟨a,r,fs,rfl,b.fh _ _ h,l,?_⟩;refine hr.run b.fh (V.mono b.ff) c λk w j y d i p=>?_;exact⟨x::k,j,d.fh,by rw[bM];exact .cons (g.mono d.ff) i,(p.mono (λ_ z=>kF.go z (b.trans d)) λ_ _ z=>z).noEr⟩
end
@[simp] noncomputable def UW:O->M T
 |.nx _=>.ok .non
 |.rt t=>.ok t
 |.rf ts=>.ok (.lst ts)
 |.rn ts us=>.ok (.tup (ts++[.lst us]))
 |.er C n=>.er C n
 |_=>.bad
@[simp] noncomputable def US:O->M (List T)
 |.rf ts=>.ok ts
 |.er C n=>.er C n
 |_=>.bad
@[simp] noncomputable def iW(n:Nat)(ts:List T):En:=ts.map (λt=>some (W.p t))++List.replicate (n-ts.length) none
@[simp] noncomputable def nY(k n:Nat)(g:En->O):List T->M T:=λa=>if a.length=k then UW (g (iW n a)) else .bad
@[simp] noncomputable def AM(k n:Nat)(g:En->O):List T->M (List T):=λa=>if a.length=k then US (g (iW n a)) else .bad
def yN{n i:Nat}(e:(iW n ts)[i]? = some (some (.d kvs))):False:=by
 unfold iW at e;rw[List.getElem?_append]at e;split at e
 .rw[aw]at e;cases q:ts[i]? with
  |none=>rw[q]at e;cases e
  |some x=>rw[q]at e;cases e
 .rw[List.getElem?_replicate]at e;split at e<;>cases e
def Cj(s:iq F H)(r:iB K F vs ts):Sr K ⟨F,[]⟩ H F H (lK N vs) (iW N.length ts):=by
 refine⟨.refl s,?_,λi t e=>?_,⟨λ_=>0,λi g e=>?_,λi j g m e=>?_⟩,λ_ k=>(nomatch k),λ_ _ _ h=>(by cases h),⟨λi c e=>(yN e).elim,λi j c d e=>(yN e).elim⟩⟩
 .simp[L2.lK,iW,r.length]
 .unfold iW at e;rw[List.getElem?_append]at e;split at e
  .rename_i l;rw[aw]at e;cases q:ts[i]? with
   |none=>rw[q]at e;cases e
   |some x=>rw[q]at e;cases e;obtain⟨v,a,b⟩:=r.get q;refine⟨v,?_,b⟩;unfold L2.lK;rw[List.getElem?_append_left (by simpa[r.length] using l),aw,a];rfl
  .rw[List.getElem?_replicate]at e;split at e<;>cases e
 .exfalso;unfold iW at e;rw[List.getElem?_append]at e;split at e
  .rw[aw]at e;cases q:ts[i]? with
   |none=>rw[q]at e;cases e
   |some x=>rw[q]at e;cases e
  .rw[List.getElem?_replicate]at e;split at e<;>cases e
 .exfalso;unfold iW at e;rw[List.getElem?_append]at e;split at e
  .rw[aw]at e;cases q:ts[i]? with
   |none=>rw[q]at e;cases e
   |some x=>rw[q]at e;cases e
  .rw[List.getElem?_replicate]at e;split at e<;>cases e
def Ef(h:xU K (nY k n g) vs H Q E):vs.length=k:=by
 obtain⟨b,F0,s,r,q⟩:=h;unfold nY at q;by_cases a:b.length=k
 .rw[r.length];exact a
 .rw[aS a]at q;exact q.elim
def Ba{t:TS}(l:MS K E t g)(h:xU K (nY k N.length g) vs H Q E):t {nx:=λ_ b=>Q .non b,rt:=Q} (lK N vs) H:=by
 obtain⟨a,F0,s,r,q⟩:=h;unfold nY at q;by_cases c:a.length=k
 .rw[aR c]at q;refine l ⟨F0,[]⟩ H F0 H _ _ _ (Cj s r) ?_;cases e:g (iW N.length a) with
  |bad=>rw[e]at q;exact q
  |nx ρ=>rw[e]at q;exact λj b i _ d=>q .non j b d.gr .non
  |rt t=>rw[e]at q;exact q
  |rf a=>rw[e]at q;exact kF.of q
  |rn a us=>rw[e]at q;exact kT.of q
  |bk ρ=>rw[e]at q;exact q.elim
  |ct ρ=>rw[e]at q;exact q.elim
  |er C n=>rw[e]at q;exact q
 .rw[aS c]at q;exact q.elim
def Ai(h:Cq K (AM k n g) vs H Q E):vs.length=k:=by
 obtain⟨b,F0,s,r,q⟩:=h;unfold AM at q;by_cases a:b.length=k
 .rw[r.length];exact a
 .rw[aS a]at q;exact q.elim
def wQ{t:TS}(d:MS K E t g)(h:Cq K (AM k N.length g) vs H Q E):t {nx:=λ_ c=>Q .non c,rt:=Q} (lK N vs) H:=by
 obtain⟨a,F0,s,r,q⟩:=h;unfold AM at q;by_cases b:a.length=k
 .rw[aR b]at q;refine d ⟨F0,[]⟩ H F0 H _ _ _ (Cj s r) ?_;cases e:g (iW N.length a) with
  |bad=>rw[e]at q;exact q
  |nx ρ=>rw[e]at q;exact q.elim
  |rt t=>rw[e]at q;exact q.elim
  |rf a=>rw[e]at q;exact q
  |rn a us=>rw[e]at q;exact q.elim
  |bk ρ=>rw[e]at q;exact q.elim
  |ct ρ=>rw[e]at q;exact q.elim
  |er C n=>rw[e]at q;exact q
 .rw[aS b]at q;exact q.elim
@[simp] noncomputable def Ej(C:Addr)(x:Str)(fa:Pe->M T):Pe->M T:=λρ=>(fa ρ).bind λo=>match o with
 |.obj C' fs=>if C'=C then (match fs.lookup x with
  |some t=>.ok t
  |none=>.bad) else .bad
 |_=>.bad
def Sf(n:zV K C)(na:md K C x)(l:ME K E ta fa):ME K E (Qg K ta x) (Ej C x fa):=λF H σ ρ Q s V q=>by
 refine l.run s V q λo v F1 H1 g i b=>?_;cases i with
 |obj h rs=>
  rename_i a d p fs k;dsimp only at b;by_cases c:d=C
  .subst c;rw[aR rfl]at b;cases e:List.lookup x k with
   |none=>rw[e]at b;exact b.elim
   |some y=>rw[e]at b;obtain⟨w,m,j⟩:=rs.look e;exact⟨a,d,p,fs,w,rfl,g.fh _ _ h,n,na,m,b w F1 H1 g j⟩
  .rw[aS c]at b;exact b.elim
 |_=>exact b.elim
end
end L3
namespace L3
open PySem L2 PySem.Spec PyProof.Rows
structure Pm(K:W.Frag)(E:XK)(X:Cx)(e:Expr)(t:TE)(f:Pe->M T):Prop where
 pe:PE X e t
 me:ME K E t f
structure GQ(K:W.Frag)(E:XK)(X:Cx)(e:Expr)(t:TE)(f:Pe->M (List T)):Prop where
 pe:PE X e t
 mf:MF K E t f
structure Ee(K:W.Frag)(E:XK)(X:Cx)(e:Expr)(t:TT)(f:Pe->M Bool):Prop where
 pt:PT X e t
 mt:MT K E t f
structure RQ(K:W.Frag)(E:XK)(X:Cx)(e:Expr)(t:TT)(f:Pe->M Bool):Prop where
 pw:PW X e t
 mt:MT K E t f
structure Eg(K:W.Frag)(E:XK)(X:Cx)(es:List Expr)(t:TA)(f:Pe->M (List T)):Prop where
 pa:PA X es t
 ma:MA K E t f
structure Ig(K:W.Frag)(E:XK)(X:Cx)(tg it:Expr)(w:TI)(f:Pe->M (List T)):Prop where
 pi:PI X tg it w
 mi:MI K E w f
structure tq(K:W.Frag)(E:XK)(X:Cx)(tg it:Expr)(w:TI)(f:Pe->M (List T)):Prop where
 pi:PI X tg it w
 mi:TY K E w f
structure SH(K:W.Frag)(X:Cx)(tg:Expr)(g:TG)(m:T->Pe->Option Pe):Prop where
 pg:PG X tg g
 mg:MG K g m
structure Pc(K:W.Frag)(X:Cx)(tg:List Expr)(g:Ml)(m:List T->Pe->Option Pe):Prop where
 pg:SJ X tg g
 mg:Tx K g m
structure RP(K:W.Frag)(X:Cx)(tg:Expr)(g:TG)(m:T->En->Option En):Prop where
 pg:PG X tg g
 mg:Iu K g m
structure Nb(K:W.Frag)(X:Cx)(tg:List Expr)(g:Ml)(m:List T->En->Option En):Prop where
 pg:SJ X tg g
 mg:K1 K g m
structure xP(K:W.Frag)(E:XK)(X:Cx)(st:Stmt)(t:TS)(g:En->O):Prop where
 ps:PS X st t
 ms:MS K E t g
structure qg(K:W.Frag)(E:XK)(X:Cx)(sts:List Stmt)(t:TS)(g:En->O):Prop where
 ps:Bg X sts t
 ms:MS K E t g
noncomputable def MO(K:W.Frag)(E:XK)(t:TO)(f:Pe->M (Option Int)):Prop:=∀F H c a Q,iq F H->lQ K F c a->(f a).res (λo=>∀d b,Gr F H d b->Q o b) (kE E F H)->t c H Q
structure UG(K:W.Frag)(E:XK)(X:Cx)(e:Option Expr)(t:TO)(f:Pe->M (Option Int)):Prop where
 po:PO X e t
 mo:MO K E t f
structure KC(K:W.Frag)(E:XK)(X:Cx)(es:List Expr)(t:TT)(f:Pe->M Bool):Prop where
 pf:Ia X es t
 mt:MT K E t f
section
variable {K:W.Frag}{E:XK}{X:Cx}{a b c e o:Expr}{es:List Expr}{ta tb tc te to:TE}{fa fb fc fe fo:Pe->M T}{tr:TA}{fr:Pe->M (List T)}{pos p p2 apos:Pos}
def ie i (h:X.N[i]? = some x:=by rfl) (g:SN X.env.scope x:=by first|exact Or.inl rfl|exact Or.inr (Or.inl rfl)|exact Or.inr (Or.inr rfl)) (f:(x==("__debug__" : Str))=false:=by decide)
  (d:(x==("__classdict__" : Str))=false:=by decide):Pm K E X (.Name x pos) (mv i) (gR i):=⟨pv i h g f d,QF⟩
def jO{j pos}:Pm K E X (.Constant (.int i) j pos) (tC (.int i)) (cM (.int i)):=⟨DD,MP λ_=>.int i⟩
def S8{b:Bool}{j pos}:Pm K E X (.Constant (.bool b) j pos) (tC (.bl b)) (cM (.bl b)):=⟨Ii,MP λ_=>.bl b⟩
def Q3{j pos}:Pm K E X (.Constant .none j pos) (tC .non) (cM .non):=⟨RG,MP λ_=>.non⟩
def Di i (f:∃t,X.mg x=some (.int i t)) (g:Gl X x:=by rfl) (d:(x==("__debug__" : Str))=false:=by decide):Pm K E X (.Name x pos) (tC (.int i)) (cM (.int i)):=let ⟨t,h⟩:=f;⟨NB g h ⟨t,rfl⟩ d,MP λ_=>.int i⟩
def jR(h:GQ K E X e te f):Pm K E X e te (λρ=>(f ρ).bind λts=>.ok (.lst ts)):=⟨h.pe,h.mf.me⟩
def xM(g:rK X (binaryOp op) r)(hr:MR K r m)(f:Pm K E X a ta fa)(d:Pm K E X b tb fb):Pm K E X (.BinOp a op b pos) (vP r ta tb) (ig m fa fb):=⟨K5 g f.pe d.pe,GG hr f.me d.me⟩
def Lx(K:W.Frag):R2:=λx y H Q=>(EB λi j=>.int (i+j)) x y H Q\/(∃i j,x=.str i/\y=.str j/\i.length+j.length<=sizeLine/\Q (.str (i++j)) H)\/Sq x y H Q\/
 ∃a b d f,x=.ref a/\y=.ref b/\H a=some (.tup d)/\H b=some (.tup f)/\d.length+f.length<=sizeLine/\(d=[]->Q (.ref b) H)/\(d≠[]->f=[]->Q (.ref a) H)/\(d≠[]->f≠[]->∀p,H p=none->Q (.ref p) (ja H p (.tup (d++f))))
def NW(L:X.K=K:=by rfl):rK X (binaryOp .Add) (Lx K):=by
 subst L;intro j s i H x y v u Q I f d h;rcases h with h|h|h|h
 .exact Rc j s i H x y v u Q I f d h
 .exact El j s i H x y v u Q I f d h
 .exact Lw j s i H x y v u Q I f d h
 .obtain⟨a,b,m,Y,rfl,rfl,q,n,A,q1,U,Z⟩:=h;by_cases g:m=[]
  .subst g;cases f;cases d;obtain⟨C,J,P,_⟩:=I.tuple (mW.of q);obtain⟨w,r2,p2,_⟩:=I.tuple (mW.of n);cases J;obtain⟨⟨c1,S,e1,R⟩,t,k1,N,k⟩:=id P;obtain⟨⟨c2,d2,e2,D⟩,r,B,n2,l⟩:=id p2;subst k1 k B l;exact concat_meets ⟨_,t,rfl⟩ ⟨_,r,rfl⟩ noFill_tuple_add seq_tuple_add PySem.F.slot_tuple_add PySem.F.entry_tuple_add (PySem.F.args_tuple_add_2 _ _) (tuple_addW0 a b _ _ N n2 S d2 R D (by simp)) ⟨t,r,⟨.ref b,H,I,rfl,q1 rfl⟩⟩
  .exact ML j s i H _ _ v u Q I f d ⟨a,b,m,Y,rfl,rfl,mW.of q,mW.of n,g,A,λe=>U g e,λe p z=>Z g e p z⟩
noncomputable def jw:T->T->M T
 |.int i,.int j=>.ok (.int (i+j))
 |.str i,.str j=>if i.length+j.length<=sizeLine then .ok (.str (i++j)) else .bad
 |.lst a,.lst b=>if a.length+b.length<=sizeLine then .ok (.lst (a++b)) else .bad
 |.tup a,.tup b=>if a.length+b.length<=sizeLine then .ok (.tup (a++b)) else .bad
 |_,_=>.bad
def MQ x y:M.NoE (jw x y):=λC n=>by unfold jw;split<;>first|(intro z;cases z;done)|(split<;>intro z<;>cases z)
def NO:MR K (Lx K) jw:=⟨MQ,λF H v w x y Q s r l q=>by
 cases r with
 |int i=>
  cases l with
  |int j=>exact .inl ⟨i,j,rfl,rfl,kV.now q s (.int _)⟩
  |_=>exact q.elim
 |str i=>
  cases l with
  |str j=>
   have d:(if i.length+j.length<=sizeLine then M.ok (T.str (i++j)) else M.bad).res (kV K F H Q) (λ_ _=>False):=q;by_cases h:i.length+j.length<=sizeLine
   .rw[aR h]at d;exact .inr (.inl ⟨i,j,rfl,rfl,h,kV.now d s (.str _)⟩)
   .rw[aS h]at d;exact d.elim
  |_=>exact q.elim
 |lst h1 r1=>
  cases l with
  |lst h2 r2=>
   rename_i a m g b n f;have d:(if g.length+f.length<=sizeLine then M.ok (T.lst (g++f)) else M.bad).res (kV K F H Q) (λ_ _=>False):=q;by_cases h:g.length+f.length<=sizeLine
   .rw[aR h]at d;refine .inr (.inr (.inl ⟨a,b,m,n,rfl,rfl,s _ _ h1,s _ _ h2,by rw[r1.length,r2.length];exact h,λp k=>?_⟩));exact d (.ref p) _ _ (.new s k) (.lst hC ((r1.append r2).mono (Gr.new s k).ff))
   .rw[aS h]at d;exact d.elim
  |_=>exact q.elim
 |tup h1 r1=>
  cases l with
  |tup h2 r2=>
   rename_i a m g b n f;have d:(if g.length+f.length<=sizeLine then M.ok (T.tup (g++f)) else M.bad).res (kV K F H Q) (λ_ _=>False):=q;by_cases h:g.length+f.length<=sizeLine
   .rw[aR h]at d;refine .inr (.inr (.inr ⟨a,b,m,n,rfl,rfl,s _ _ h1,s _ _ h2,by rw[r1.length,r2.length];exact h,λe=>?_,λ_ e=>?_,λ_ _ p k=>?_⟩))
    .subst e;cases r1;exact kV.now d s (.tup h2 r2)
    .subst e;cases r2;exact kV.now d s (.tup h1 (by rw[bM];exact r1))
    .exact d (.ref p) _ _ (.new s k) (.tup hC ((r1.append r2).mono (Gr.new s k).ff))
   .rw[aS h]at d;exact d.elim
  |_=>exact q.elim
 |_=>exact q.elim⟩
def IX(f:Pm K E X a ta fa)(g:Pm K E X b tb fb)(d:X.K=K:=by rfl):Pm K E X (.BinOp a .Add b pos) (vP (Lx K) ta tb) (ig jw fa fb):=xM (NW d) NO f g
@[simp] noncomputable def wa(fa fb:Pe->M T):Pe->M (List T):=λd=>(fa d).bind λx=>(fb d).bind λy=>match x,y with
 |.lst a,.lst b=>if a.length+b.length<=sizeLine then .ok (a++b) else .bad
 |_,_=>.bad
def Br(t:Pm K E X a ta fa)(n:Pm K E X b tb fb):GQ K E X (.BinOp a .Add b pos) (vP Sq ta tb) (wa fa fb):=by
 refine⟨K5 Lw t.pe n.pe,λF H L J Q s V q=>?_⟩;refine t.me.run s V q λx v I N m A D=>?_;refine n.me.run m.fh (V.mono m.ff) D λy w r C d z l=>?_;cases A with
 |lst h1 t1=>
  cases z with
  |lst h2 t2=>
   rename_i a u k b B j;have g:(if k.length+j.length<=sizeLine then M.ok (k++j) else M.bad).res (kF K F H Q) (kE E r C):=l;by_cases h:k.length+j.length<=sizeLine
   .rw[aR h]at g;refine⟨a,b,u,B,rfl,rfl,d.fh _ _ (d.ff _ _ h1),d.fh _ _ h2,by rw[t1.length,t2.length];exact h,λp i=>?_⟩;have f:=m.trans d;exact g p _ r _ (f.trans (.new' d.fh i)) (iF f.hh i) (iF d.fh i) hC ((t1.mono d.ff).append t2)
   .rw[aS h]at g;exact g.elim
  |_=>exact l.elim
 |_=>exact l.elim
noncomputable def qh:T->T->M T:=l4 (λ_ _=>true) λi j=>.int (i-j)
def Av(f:Pm K E X a ta fa)(d:Pm K E X b tb fb):Pm K E X (.BinOp a .Sub b pos) (vP (EB λi j=>.int (i-j)) ta tb) (ig qh fa fb):=xM Rf (tN λ_ _ _=>.int _) f d
instance {i j:Int}:Decidable (PySem.IntMulOk i j):=inferInstanceAs (Decidable (¬_))
noncomputable def mU:T->T->M T:=l4 (λi j=>decide (PySem.IntMulOk i j)) λi j=>.int (i*j)
def Q1(f:Pm K E X a ta fa)(d:Pm K E X b tb fb):Pm K E X (.BinOp a .Mult b pos) (vP (rI (λi j=>PySem.IntMulOk i j) λi j=>.int (i*j)) ta tb) (ig mU fa fb):=xM MU (AH (λi j h=>of_decide_eq_true h) λ_ _ _=>.int _) f d
noncomputable def vk:T->T->M T:=l4 (λi j=>decide (j≠0)&&!Builtin.divisionGoesByPylong i j) λi j=>.int (i.fdiv j)
def Gb(f:Pm K E X a ta fa)(d:Pm K E X b tb fb):Pm K E X (.BinOp a .FloorDiv b pos) (vP (rI (λi j=>j≠0/\Builtin.divisionGoesByPylong i j=false) λi j=>.int (i.fdiv j)) ta tb) (ig vk fa fb):=xM LX (AH (λi j h=>by simpa using h) λ_ _ _=>.int _) f d
noncomputable def uh:T->T->M T:=l4 (λ_ j=>decide (j≠0)) λi j=>.int (i.fmod j)
def Qz(f:Pm K E X a ta fa)(d:Pm K E X b tb fb):Pm K E X (.BinOp a .Mod b pos) (vP (rI (λ_ j=>j≠0) λi j=>.int (i.fmod j)) ta tb) (ig uh fa fb):=xM N1 (AH (λi j h=>by simpa using h) λ_ _ _=>.int _) f d
noncomputable def Ny:T->T->M T:=l4 (λi j=>decide (0<=j)&&decide (j<=1000000)&&decide (i.natAbs<18446744073709551616)) λi j=>.int (i ^ j.toNat)
def Rl(f:Pm K E X a ta fa)(d:Pm K E X b tb fb):Pm K E X (.BinOp a .Pow b pos) (vP (rI Tp λi j=>.int (i ^ j.toNat)) ta tb) (ig Ny fa fb):=xM RH (AH (λi j h=>by simp only[bT,decide_eq_true_eq]at h;exact⟨h.1.1,h.1.2,h.2⟩) λ_ _ _=>.int _) f d
def EJ(d:Pm K E X a ta fa):Pm K E X (.UnaryOp .USub a pos) (UX (rU λi=>.int (-i)) ta) (xV (λi=>.int (-i)) fa):=⟨PM Iz d.pe,Tg (λ_ _=>.int _) d.me⟩
@[simp] noncomputable def Cf(fa fb:Pe->M T):Pe->M (List T):=λd=>(fa d).bind λx=>(fb d).bind λy=>match x,y with
 |.lst a,.int k=>if Ce k=true/\a.length*k.toNat<=sizeLine then .ok (List.replicate k.toNat a).flatten else .bad
 |_,_=>.bad
def Lh(t:Pm K E X a ta fa)(n:Pm K E X b tb fb):GQ K E X (.BinOp a .Mult b pos) (vP Uh ta tb) (Cf fa fb):=by
 refine⟨K5 Qt t.pe n.pe,λF H J I Q s V q=>?_⟩;refine t.me.run s V q λx v D L m A C=>?_;refine n.me.run m.fh (V.mono m.ff) C λy w r B d z l=>?_;cases A with
 |lst h1 t1=>
  cases z with
  |int k=>
   rename_i a u j;have g:(if Ce k=true/\j.length*k.toNat<=sizeLine then M.ok (List.replicate k.toNat j).flatten else M.bad).res (kF K F H Q) (kE E r B):=l;by_cases h:Ce k=true/\j.length*k.toNat<=sizeLine
   .rw[aR h]at g;refine⟨a,k,u,rfl,rfl,d.fh _ _ (d.ff _ _ h1),by have:=rA h.1;rw[Ue]at this;rw[Us];omega,by have:=rA h.1;rw[Ue]at this;rw[Us];omega,by rw[t1.length];exact h.2,λp i=>?_⟩;have f:=m.trans d;exact g p _ r _ (f.trans (.new' d.fh i)) (iF f.hh i) (iF d.fh i) hC ((t1.mono d.ff).rep k.toNat)
   .rw[aS h]at g;exact g.elim
  |_=>exact l.elim
 |_=>exact l.elim
def ve(h:Pm K E X e te fe)(f:∀d,isTrue e X.env d=(do let v <-d;standAt e.pos;holding [v] (truthy v)):=by intro _;rfl):Ee K E X e (tB te) (jl fe):=⟨SD h.pe f,N3 h.me⟩
section
variable {tA tD:TT}{fA fD:Pe->M Bool}{mF:List Expr}
def pO(h:Ee K E X a tA fA):Ee K E X (.UnaryOp .Not a pos) (Rq tA) (oK fA):=⟨QZ h.pt,RJ h.mt⟩
def Dl(h:RQ K E X a tA fA):Ee K E X a tA fA:=⟨PW.pt h.pw,h.mt⟩
def Cm(h:Ee K E X a tA fA):RQ K E X (.BoolOp .And [a] pos) tA fA:=⟨OW h.pt,h.mt⟩
def p9(h:Ee K E X a tA fA):RQ K E X (.BoolOp .Or [a] pos) tA fA:=⟨Q2 h.pt,h.mt⟩
def FF(h:Ee K E X a tA fA)(h':RQ K E X (.BoolOp .And (b::mF) pos) tD fD):RQ K E X (.BoolOp .And (a::b::mF) pos) (Ss tA tD) (yo fA fD):=⟨QM h.pt h'.pw,Qq h.mt h'.mt⟩
def pN(h:Ee K E X a tA fA)(h':RQ K E X (.BoolOp .Or (b::mF) pos) tD fD):RQ K E X (.BoolOp .Or (a::b::mF) pos) (UP tA tD) (Bo fA fD):=⟨S5 h.pt h'.pw,Tq h.mt h'.mt⟩
def AD{op}(h:Pm K E X a ta fa):Pm K E X (.BoolOp op [a] pos) ta fa:=⟨Rv h.pe,h.me⟩
def Bh(h:Pm K E X a ta fa)(h':Pm K E X (.BoolOp .And (b::mF) pos) tb fb):Pm K E X (.BoolOp .And (a::b::mF) pos) (LP ta tb) (Mh fa fb):=⟨RL h.pe h'.pe,Nu h.me h'.me⟩
def Al(h:Pm K E X a ta fa):Pm K E X (.UnaryOp .Not a pos) (Jz ta) (GP fa):=⟨Sd h.pe,Nl h.me⟩
end
def Aa(g:rK X (compareOp op) r)(hr:MR K r m)(f:Pm K E X a ta fa)(d:Pm K E X b tb fb)(h:behindInMarks op b=false:=by exact uv _):Pm K E X (.Compare a [op] [b] pos) (vP r ta tb) (ig m fa fb):=⟨NS g f.pe d.pe h,GG hr f.me d.me⟩
def jQ(g:rK X (compareOp op) r)(hr:MR K r m)(f:Pm K E X a ta fa)(d:Pm K E X b tb fb)(h:behindInMarks op b=false:=by exact uv _):Ee K E X (.Compare a [op] [b] pos) (CD (vP r ta tb)) (jl (ig m fa fb)):=⟨Ob g f.pe d.pe h,Od (GG hr f.me d.me)⟩
noncomputable def PB:T->T->M T:=l4 (λ_ _=>true) λi j=>.bl (decide (i<j))
noncomputable def Ut:T->T->M T:=l4 (λ_ _=>true) λi j=>.bl (decide (i<=j))
noncomputable def Ir:T->T->M T:=l4 (λ_ _=>true) λi j=>.bl (decide (j<i))
noncomputable def S3:T->T->M T:=l4 (λ_ _=>true) λi j=>.bl (decide (j<=i))
def Dr:MR K (EB λi j=>.bl (decide (i<j))) PB:=tN λ_ _ _=>.bl _
def KU:MR K (EB λi j=>.bl (decide (i<=j))) Ut:=tN λ_ _ _=>.bl _
def BX:MR K (EB λi j=>.bl (decide (j<i))) Ir:=tN λ_ _ _=>.bl _
def JX:MR K (EB λi j=>.bl (decide (j<=i))) S3:=tN λ_ _ _=>.bl _
@[simp] noncomputable def U9(m f:T->T->M T)(fa fb fc:Pe->M T):Pe->M T:=λd=>(fa d).bind λx=>(fb d).bind λy=>(m x y).bind λz=>match z with
 |.bl true=>(fc d).bind λw=>f y w
 |.bl false=>.ok (.bl false)
 |_=>.bad
def JQ(hr:MR K r m)(f:MR K r' m')(J:ME K E ta fa)(A:ME K E tb fb)(C:ME K E tc fc):ME K E (Ep r r' ta tb tc) (U9 m m' fa fb fc):=λF H σ ρ Q s V q=>by
 refine J.run s V q λx v F1 H1 i D q1=>?_;refine A.run i.fh (V.mono i.ff) q1 λy w I R h t N=>?_;refine hr.ok I R v w x y _ h.fh (D.mono h.ff) t (((M.res.unb N).ne (hr.ne x y)).mono (λz j v3 S U g Z=>?_) λ_ _ z=>z);have d:=(i.trans h).trans g;cases Z with
 |bl k=>
  refine⟨k,rfl,?_⟩;cases k with
  |true=>rw[aR rfl];have n:=j.mono (λ_ z=>z) λ_ _ z=>z.go g;refine C.run g.fh (V.mono d.ff) n λu L Y B l P q4=>?_;exact f.ok Y B w L y u Q l.fh (t.mono (g.ff.trans l.ff)) P ((q4.ne (f.ne y u)).mono (λ_ z=>z.go (d.trans l)) λ_ _ z=>z)
  |false=>rw[aS aI];exact j _ S U d (.bl _)
 |_=>exact j.elim
def Jh(j:rK X (compareOp op) r)(hr:MR K r m)(f:rK X (compareOp op') r')(d:MR K r' m')(h:Pm K E X a ta fa)(g:Pm K E X b tb fb)(i:Pm K E X c tc fc)
  (k:lastMarks [op,op'] [b,c]=false:=by with_unfolding_all rfl):Pm K E X (.Compare a [op,op'] [b,c] pos) (Ep r r' ta tb tc) (U9 m m' fa fb fc):=⟨Ji j f h.pe g.pe i.pe k,JQ hr d h.me g.me i.me⟩
mutual
noncomputable def rM:T->Bool
 |.str x=>PyData.canLay0 (.str x)
 |.lst ts=>sL ts
 |.tup ts=>sL ts
 |.scr _=>false
 |.obj _ _=>false
 |.emp=>false
 |.dic _=>false
 |_=>true
noncomputable def sL:List T->Bool
 |[]=>true
 |t::ts=>rM t&&sL ts
end
mutual
def BM:T->PyData
 |.non=>.none
 |.bl b=>.bool b
 |.int i=>.int i
 |.str x=>.str x
 |.lst ts=>.list (vt ts)
 |.tup ts=>.tuple (vt ts)
 |.scr _=>.none
 |.obj _ _=>.none
 |.emp=>.none
 |.dic _=>.none
def vt:List T->List PyData
 |[]=>[]
 |t::ts=>BM t::vt ts
end
mutual
theorem Ks{F:Hp}:∀{v:V} {t:T},kU K F v t->rM t=true->DV K F v (BM t)
 |_,_,.non,_=>.non
 |_,_,.bl b,_=>.bl b
 |_,_,.int i,_=>.int i
 |_,_,.str x,_=>.str x
 |_,_,.lst h r,l=>.lst (lS.of h) (DB r (by simpa[rM] using l))
 |_,_,.tup h r,l=>.tup (mW.of h) (DB r (by simpa[rM] using l))
 |_,_,.scr _,l=>by simp[rM]at l
 |_,_,.obj _ _,l=>by simp[rM]at l
 |_,_,.emp _,l=>by simp[rM]at l
 |_,_,.dic _ _,l=>by simp[rM]at l
theorem DB{F:Hp}:∀{vs:List V} {ts:List T},iB K F vs ts->sL ts=true->C7 K F vs (vt ts)
 |_,_,.nil,_=>.nil
 |_,_,.cons h r,l=>by rw[sL,bT]at l;exact .cons (Ks h l.1) (DB r l.2)
end
mutual
theorem Bd:∀t,rM t=true->(BM t).canLay0=true
 |.non,_=>rfl
 |.bl b,_=>rfl
 |.int i,_=>rfl
 |.str x,h=>by simpa[rM,BM] using h
 |.lst ts,h=>by rw[BM,PyData.canLay0];exact xh ts (by simpa[rM] using h)
 |.tup ts,h=>by rw[BM,PyData.canLay0];exact xh ts (by simpa[rM] using h)
 |.scr _,h=>by simp[rM]at h
 |.obj _ _,h=>by simp[rM]at h
 |.emp,h=>by simp[rM]at h
 |.dic _,h=>by simp[rM]at h
theorem xh:∀ts,sL ts=true->PyData.canLayAll0 (vt ts)=true
 |[],_=>rfl
 |t::ts,h=>by rw[sL,bT]at h;rw[vt,PyData.canLayAll0,Bd t h.1,xh ts h.2];rfl
end
noncomputable def Dt(x y:T):Bool:=(BM x).eqv (BM y)
noncomputable def xI(xs ys:List T):Bool:=PyData.eqvAll (vt xs) (vt ys)
noncomputable def EO(t:T):Nat:=(BM t).depth
noncomputable def s9(ts:List T):Nat:=PyData.depthAll (vt ts)
@[simp] theorem UD i:EO (.int i)=0:=rfl
@[simp] theorem UO i:EO (.bl i)=0:=rfl
@[simp] theorem UC i:EO (.str i)=0:=rfl
@[simp] theorem UK:EO .non=0:=rfl
@[simp] theorem OS ts:EO (.lst ts)=s9 ts+1:=by unfold EO s9;rw[BM,PyData.depth]
@[simp] theorem Nf ts:EO (.tup ts)=s9 ts+1:=by unfold EO s9;rw[BM,PyData.depth]
@[simp] theorem Uk:s9 []=0:=rfl
@[simp] theorem HL t ts:s9 (t::ts)=max (EO t) (s9 ts):=by unfold EO s9;rw[vt,PyData.depthAll]
@[simp] theorem NQ i j:Dt (.int i) (.int j)=(i==j):=rfl
@[simp] theorem UI i j:Dt (.str i) (.str j)=(i==j):=rfl
def FZ xs ys:Dt (.lst xs) (.lst ys)=xI xs ys:=by unfold Dt xI;rw[BM,BM,PyData.eqv]
def tU xs ys:Dt (.tup xs) (.tup ys)=xI xs ys:=by unfold Dt xI;rw[BM,BM,PyData.eqv]
def uJ x xs y ys:xI (x::xs) (y::ys)=(Dt x y&&xI xs ys):=by unfold Dt xI;rw[vt,vt,PyData.eqvAll]
noncomputable def iM(neg:Bool):T->T->M T:=λx y=>if rM x&&rM y&&decide (EO x<=100) then .ok (.bl (if neg then !Dt x y else Dt x y)) else .bad
mutual
theorem DV.same{F H:Hp}(s:iq F H):∀{v:V} {d:PyData},DV K F v d->DV K H v d
 |_,_,.non=>.non
 |_,_,.bl b=>.bl b
 |_,_,.int i=>.int i
 |_,_,.str x=>.str x
 |_,_,.lst h r=>.lst (s.seq h) (C7.same s r)
 |_,_,.tup h r=>.tup (s.seqT h) (C7.same s r)
theorem C7.same{F H:Hp}(s:iq F H):∀{v:List V} {d:List PyData},C7 K F v d->C7 K H v d
 |_,_,.nil=>.nil
 |_,_,.cons h r=>.cons (DV.same s h) (C7.same s r)
end
def Nx x y:M.NoE (iM neg x y):=λC n=>by unfold iM;split<;>exact λz=>nomatch z
def FQ(neg:Bool):MR K (EE K neg) (iM neg):=⟨Nx,λF H v w x y Q s b a q=>by
 unfold iM at q;by_cases h:(rM x&&rM y&&decide (EO x<=100))=true
 .rw[aR h]at q;simp only[bT,decide_eq_true_eq]at h;refine⟨BM x,BM y,DV.same s (Ks b h.1.1),DV.same s (Ks a h.1.2),⟨Bd x h.1.1,Bd y h.1.2,by exact h.2⟩,?_⟩;exact kV.now q s (.bl _)
 .rw[aS h]at q;exact q.elim⟩
def IT{k:Nat}(hr:ji k X.A)(e:Pm K E X a ta fa)(d:Pm K E X b tb fb)(c:X.K=K:=by rfl)(f:behindInMarks .Eq b=false:=by exact uv _):Pm K E X (.Compare a [.Eq] [b] pos) (vP (EE K false) ta tb) (ig (iM false) fa fb):=Aa (c▸LH (UA hr)) (FQ false) e d f
def T7{k:Nat}(hr:ji k X.A)(e:Pm K E X a ta fa)(d:Pm K E X b tb fb)(c:X.K=K:=by rfl)(f:behindInMarks .NotEq b=false:=by exact uv _):Pm K E X (.Compare a [.NotEq] [b] pos) (vP (EE K true) ta tb) (ig (iM true) fa fb):=Aa (c▸JW (UA hr)) (FQ true) e d f
def Ez{k:Nat}(hr:ji k X.A)(e:Pm K E X a ta fa)(d:Pm K E X b tb fb)(c:X.K=K:=by rfl)(f:behindInMarks .Eq b=false:=by exact uv _):Ee K E X (.Compare a [.Eq] [b] pos) (CD (vP (EE K false) ta tb)) (jl (ig (iM false) fa fb)):=jQ (c▸LH (UA hr)) (FQ false) e d f
def Dx{k:Nat}(hr:ji k X.A)(e:Pm K E X a ta fa)(d:Pm K E X b tb fb)(c:X.K=K:=by rfl)(f:behindInMarks .NotEq b=false:=by exact uv _):Ee K E X (.Compare a [.NotEq] [b] pos) (CD (vP (EE K true) ta tb)) (jl (ig (iM true) fa fb)):=jQ (c▸JW (UA hr)) (FQ true) e d f
noncomputable def lF:T->Bool
 |.non=>true
 |.bl _=>true
 |.int _=>true
 |.str _=>true
 |_=>false
noncomputable def vy(x:T)(ts:List T):Bool:=ts.any λy=>Dt y x
def kU.flat{F:Hp}{v:V}{x:T}(r:kU K F v x)(h:lF x=true):mT v=true:=by cases r<;>first|rfl|(simp[lF]at h;done)
theorem iB.flat{F:Hp}:∀{vs:List V} {xs:List T},iB K F vs xs->xs.all lF=true->vs.all mT=true
 |_,_,.nil,_=>rfl
 |_,_,.cons h r,q=>by rw[bV,bT]at q ⊢;exact⟨h.flat q.1,iB.flat r q.2⟩
def TB{F:Hp}{v w:V}{x y:T}(r:kU K F v x)(a:kU K F w y)(h:lF x=true)(h':lF y=true):Mo v w=Dt x y:=by cases r<;>first|(exfalso;simp[lF]at h;done)|(cases a<;>first|(exfalso;simp[lF]at h';done)|rfl|simp[Mo,tU])
theorem LO{F:Hp}{v:V}{x:T}(r:kU K F v x)(h:lF x=true):∀{vs:List V} {xs:List T},iB K F vs xs->xs.all lF=true->Uz v vs=vy x xs
 |_,_,.nil,_=>rfl
 |_,_,.cons q rs,l=>by rw[bV,bT]at l;have a:=LO r h rs l.2;unfold Uz vy at a ⊢;rw[bW,bW,a,TB q r l.1 h]
noncomputable def G7(neg:Bool):T->T->M T:=λx y=>match y with
 |.lst ts=>if lF x&&ts.all lF then .ok (.bl (if neg then !vy x ts else vy x ts)) else .bad
 |.tup ts=>if lF x&&ts.all lF then .ok (.bl (if neg then !vy x ts else vy x ts)) else .bad
 |_=>.bad
def Pl x y:M.NoE (G7 neg x y):=λC n=>by unfold G7;split<;>first|(intro z;cases z;done)|(split<;>intro z<;>cases z)
def Ui(neg:Bool):MR K (Vb K neg) (G7 neg):=⟨Pl,λF H v w x y Q s e g q=>by
 cases g with
 |lst h r=>
  rename_i a f c;have d:(if lF x&&c.all lF then M.ok (T.bl (if neg then !vy x c else vy x c)) else M.bad).res (kV K F H Q) (λ_ _=>False):=q;by_cases b:(lF x&&c.all lF)=true
  .rw[aR b]at d;rw[bT]at b;exact⟨a,f,rfl,.inl (lS.of (s _ _ h)),e.flat b.1,r.flat b.2,by rw[LO e b.1 r b.2];exact kV.now d s (.bl _)⟩
  .rw[aS b]at d;exact d.elim
 |tup h r=>
  rename_i a f c;have d:(if lF x&&c.all lF then M.ok (T.bl (if neg then !vy x c else vy x c)) else M.bad).res (kV K F H Q) (λ_ _=>False):=q;by_cases b:(lF x&&c.all lF)=true
  .rw[aR b]at d;rw[bT]at b;exact⟨a,f,rfl,.inr (mW.of (s _ _ h)),e.flat b.1,r.flat b.2,by rw[LO e b.1 r b.2];exact kV.now d s (.bl _)⟩
  .rw[aS b]at d;exact d.elim
 |_=>exact q.elim⟩
end
end L3
namespace L3
open PySem L2 PySem.Spec PyProof.Rows
section
variable {K:W.Frag}{E:XK}{X:Cx}{a b c e o tg it:Expr}{es:List Expr}{ta tb tc te to:TE}{fa fb fc fe fo:Pe->M T}{tr:TA}{fr:Pe->M (List T)}{pos p p2 apos:Pos}
def iJ:Eg K E X [] uO gW:=⟨sM,DX⟩
def hV(d:Pm K E X e te fe)(hr:Eg K E X es tr fr)(f:starEach (e::es) X.env=(false,eval e X.env)::starEach es X.env:=by rfl):Eg K E X (e::es) (ql te tr) (gQ fe fr):=⟨m9 d.pe hr.pa f,Of d.me hr.ma⟩
def KP{x1}(h:Eg K E X es tr fr):Pm K E X (.Tuple es x1 pos) (Rj tr) (oY fr):=⟨Lu h.pa,RA h.ma⟩
def ET(h:Eg K E X es tr fr):GQ K E X (.List es pos) (RI tr) (lstM fr):=⟨RO h.pa,R1 h.ma⟩
structure MC(K:W.Frag)(r:List V->Hp->VK->Prop)(o:List T->M T):Prop where
 ne:∀xs,M.NoE (o xs)
 ok:∀F H vs xs Q,iq F H->iB K F vs xs->(o xs).res (kV K F H Q) (λ_ _=>False)->r vs H Q
structure U2(K:W.Frag)(r:List V->Hp->VK->Prop)(o:List T->M (List T)):Prop where
 ne:∀xs,M.NoE (o xs)
 ok:∀F H vs xs Q,iq F H->iB K F vs xs->(o xs).res (kF K F H Q) (λ_ _=>False)->r vs H Q
@[simp] noncomputable def kv(o:List T->M T)(fr:Pe->M (List T)):Pe->M T:=λd=>(fr d).bind o
@[simp] noncomputable def Nt(o:List T->M (List T))(fr:Pe->M (List T)):Pe->M (List T):=λd=>(fr d).bind o
def P7{o:List T->M T}(f:MC K r o)(k:MA K E tr fr):ME K E (Mp r tr) (kv o fr):=λF H t n Q s V q=>by refine k.run s V q λd i h l g j m=>?_;exact f.ok h l i d Q g.fh j ((m.ne (f.ne d)).mono (λ_ z=>z.go g) λ_ _ z=>z)
def T3{o:List T->M (List T)}(f:U2 K r o)(k:MA K E tr fr):MF K E (Mp r tr) (Nt o fr):=λF H t n Q s V q=>by refine k.run s V q λd i h l g j m=>?_;exact f.ok h l i d Q g.fh j ((m.ne (f.ne d)).mono (λ_ z=>z.go g) λ_ _ z=>z)
section
variable {x:Str}{id T':String}{r:List V->Hp->VK->Prop}{m:List T->M T}{mf:List T->M (List T)}
def ip(k:lA X (.builtin id) r)(f:MC K r m)(q:Gl X x)(l:X.mg x=none)(i:bootBuiltins x=some (.builtin id))(h:Eg K E X (e::es) tr fr)(j:x≠ "__name__" :=by decide)(d:(x==("__debug__" : Str))=false:=by decide)
  (n:starEach (e::es) X.env=(false,eval e X.env)::starEach es X.env:=by rfl) (g:(backTo pos (starEach es X.env)).any (·.1)=false:=by rfl):Pm K E X (.Call (.Name x p) (e::es) [] pos) (Mp r tr) (kv m fr):=⟨C8 k q l i h.pa j d n g,P7 f h.ma⟩
def kH(k:lA X (.type T') r)(f:MC K r m)(q:Gl X x)(l:X.mg x=none)(i:bootBuiltins x=some (.type T'))(h:Eg K E X (e::es) tr fr)(j:x≠ "__name__" :=by decide)(d:(x==("__debug__" : Str))=false:=by decide)
  (n:starEach (e::es) X.env=(false,eval e X.env)::starEach es X.env:=by rfl) (g:(backTo pos (starEach es X.env)).any (·.1)=false:=by rfl):Pm K E X (.Call (.Name x p) (e::es) [] pos) (Mp r tr) (kv m fr):=⟨uL k q l i h.pa j d n g,P7 f h.ma⟩
def oZ(k:lA X (.type T') r)(f:U2 K r mf)(q:Gl X x)(l:X.mg x=none)(i:bootBuiltins x=some (.type T'))(h:Eg K E X (e::es) tr fr)(j:x≠ "__name__" :=by decide)(d:(x==("__debug__" : Str))=false:=by decide)
  (n:starEach (e::es) X.env=(false,eval e X.env)::starEach es X.env:=by rfl) (g:(backTo pos (starEach es X.env)).any (·.1)=false:=by rfl):GQ K E X (.Call (.Name x p) (e::es) [] pos) (Mp r tr) (Nt mf fr):=⟨uL k q l i h.pa j d n g,T3 f h.ma⟩
end
@[simp] noncomputable def kZ:List T->M T
 |[.lst ts]=>.ok (.int ts.length)
 |[.tup ts]=>.ok (.int ts.length)
 |[.scr ns]=>.ok (.int ns.length)
 |[.str z]=>if z.length<=sizeLine then .ok (.int z.length) else .bad
 |_=>.bad
def N6 xs:M.NoE (kZ xs):=λC n=>by unfold kZ;split<;>first|(intro z;cases z;done)|(split<;>first|(intro z;cases z;done)|(split<;>intro z<;>cases z))
def lj:MC K (λxs H Q=>∃x n,xs=[x]/\RN K x H n/\Q (.int n) H) kZ:=⟨N6,λF H g xs Q s r q=>by
 cases r with
 |nil=>exact q.elim
 |cons h t=>
  cases t with
  |cons _ _=>cases h<;>exact q.elim
  |nil=>
   cases h with
   |lst h r=>exact⟨_,_,rfl,.inl ⟨_,lS.of (s _ _ h),rfl⟩,by rw[r.length];exact kV.now q s (.int _)⟩
   |tup h r=>exact⟨_,_,rfl,.inr ⟨_,mW.of (s _ _ h),rfl⟩,by rw[r.length];exact kV.now q s (.int _)⟩
   |scr h=>exact⟨_,_,rfl,.inl ⟨_,s.seq h,rfl⟩,by rw[ax];exact kV.now q s (.int _)⟩
   |str z=>
    have d:(if z.length<=sizeLine then M.ok (T.int z.length) else M.bad).res (kV K F H Q) (λ_ _=>False):=q;by_cases f:z.length<=sizeLine
    .rw[aR f]at d;exact⟨_,z.length,rfl,⟨f,rfl⟩,kV.now d s (.int _)⟩
    .rw[aS f]at d;exact d.elim
   |_=>exact q.elim⟩
@[simp] noncomputable def uS:List T->M T
 |[.int i]=>.ok (.int (if i<0 then -i else i))
 |_=>.bad
def Mq xs:M.NoE (uS xs):=λC n=>by unfold uS;split<;>first|(intro z;cases z;done)|(split<;>first|(intro z;cases z;done)|(split<;>intro z<;>cases z))
def pT:MC K (λxs H Q=>∃i,xs=[.int i]/\Q (.int (if i<0 then -i else i)) H) uS:=⟨Mq,λF H d xs Q s r q=>by
 cases r with
 |nil=>exact q.elim
 |cons h t=>
  cases t with
  |cons _ _=>cases h<;>exact q.elim
  |nil=>
   cases h with
   |int i=>exact⟨i,rfl,kV.now q s (.int _)⟩
   |_=>exact q.elim⟩
@[simp] noncomputable def zp:List T->M T
 |[.int i,.int j]=>.ok (.int (if j>i then j else i))
 |_=>.bad
def KY xs:M.NoE (zp xs):=λC n=>by unfold zp;split<;>first|(intro z;cases z;done)|(split<;>first|(intro z;cases z;done)|(split<;>intro z<;>cases z))
def N7:MC K (λxs H Q=>∃i j,xs=[.int i,.int j]/\Q (.int (if j>i then j else i)) H) zp:=⟨KY,λF H d xs Q s r q=>by
 unfold zp at q;split at q
 .exact⟨_,_,r.two,kV.now q s (.int _)⟩
 .exact q.elim⟩
@[simp] noncomputable def Da:List T->M T
 |[.int i]=>.ok (.int i)
 |[.bl k]=>.ok (.int (if k then 1 else 0))
 |_=>.bad
def IW xs:M.NoE (Da xs):=λC n=>by unfold Da;split<;>first|(intro z;cases z;done)|(split<;>first|(intro z;cases z;done)|(split<;>intro z<;>cases z))
def FD:MC K (λxs H Q=>(∃i,xs=[.int i]/\Q (.int i) H)\/∃k,xs=[.bl k]/\Q (.int (if k then 1 else 0)) H) Da:=⟨IW,λF H d xs Q s r q=>by
 cases r with
 |nil=>exact q.elim
 |cons h t=>
  cases t with
  |cons _ _=>cases h<;>exact q.elim
  |nil=>
   cases h with
   |int i=>exact .inl ⟨i,rfl,kV.now q s (.int _)⟩
   |bl k=>exact .inr ⟨k,rfl,kV.now q s (.int _)⟩
   |_=>exact q.elim⟩
@[simp] noncomputable def lZ:List T->M T
 |[.lst ts]=>.ok (.tup ts)
 |[.tup ts]=>.ok (.tup ts)
 |[.scr ns]=>.ok (.tup (ns.map T.int))
 |_=>.bad
def Eh xs:M.NoE (lZ xs):=λC n=>by unfold lZ;split<;>first|(intro z;cases z;done)|(split<;>first|(intro z;cases z;done)|(split<;>intro z<;>cases z))
def lU:MC K (λxs H Q=>∃p ys,xs=[.ref p]/\((lS K H p ys/\∀l,H l=none->Q (.ref l) (ja H l (.tup ys)))\/(mW K H p ys/\Q (.ref p) H))) lZ:=⟨Eh,λF H f xs Q s r q=>by
 cases r with
 |nil=>exact q.elim
 |cons h t=>
  cases t with
  |cons _ _=>cases h<;>exact q.elim
  |nil=>
   cases h with
   |lst h r=>exact⟨_,_,rfl,.inl ⟨lS.of (s _ _ h),λl d=>q (.ref l) _ _ (.new s d) (.tup hC (r.mono (Gr.new s d).ff))⟩⟩
   |scr h=>exact⟨_,_,rfl,.inl ⟨s.seq h,λl d=>q (.ref l) _ _ (.new s d) (.tup hC (iB.of_ints _))⟩⟩
   |tup h r=>exact⟨_,_,rfl,.inr ⟨mW.of (s _ _ h),kV.now q s (.tup h r)⟩⟩
   |_=>exact q.elim⟩
@[simp] noncomputable def qM:List T->M (List T)
 |[.lst ts]=>.ok ts
 |[.tup ts]=>.ok ts
 |[.scr ns]=>.ok (ns.map T.int)
 |_=>.bad
def HF xs:M.NoE (qM xs):=λC n=>by unfold qM;split<;>first|(intro z;cases z;done)|(split<;>first|(intro z;cases z;done)|(split<;>intro z<;>cases z))
def qu:U2 K (λxs H Q=>∃p ys,xs=[.ref p]/\(lS K H p ys\/mW K H p ys)/\∀l,H l=none->Q (.ref l) (ja H l (.lst ys))) qM:=⟨HF,λF H f xs Q s r q=>by
 cases r with
 |nil=>exact q.elim
 |cons h t=>
  cases t with
  |cons _ _=>cases h<;>exact q.elim
  |nil=>
   cases h with
   |lst h r=>exact⟨_,_,rfl,.inl (lS.of (s _ _ h)),λl d=>q l _ F _ (.new' s d) d (iF s d) hC r⟩
   |scr h=>exact⟨_,_,rfl,.inl (s.seq h),λl d=>q l _ F _ (.new' s d) d (iF s d) hC (iB.of_ints _)⟩
   |tup h r=>exact⟨_,_,rfl,.inr (mW.of (s _ _ h)),λl d=>q l _ F _ (.new' s d) d (iF s d) hC r⟩
   |_=>exact q.elim⟩
def mC:List T->Option (LI)
 |[]=>some []
 |.int i::ts=>(mC ts).bind λr=>some (i::r)
 |_::_=>none
theorem xB:∀{ts} {ns},mC ts=some ns->ts=ns.map T.int
 |[],_,e=>by cases e;rfl
 |t::ts,ns,e=>by
  cases t with
  |int i=>
   cases q:mC ts with
   |none=>simp[mC,q]at e
   |some r=>simp[mC,q]at e;subst e;rw[xB q];rfl
  |_=>cases e
@[simp] theorem SO ns:mC (ns.map T.int)=some ns:=by
 induction ns with
 |nil=>rfl
 |cons n ns ih=>simp[mC,ih]
def rX:List T->Option (List Bool)
 |[]=>some []
 |.bl i::ts=>(rX ts).bind λr=>some (i::r)
 |_::_=>none
theorem yK:∀{ts} {ns},rX ts=some ns->ts=ns.map T.bl
 |[],_,e=>by cases e;rfl
 |t::ts,ns,e=>by
  cases t with
  |bl i=>
   cases q:rX ts with
   |none=>simp[rX,q]at e
   |some r=>simp[rX,q]at e;subst e;rw[yK q];rfl
  |_=>cases e
@[simp] theorem TM ns:rX (ns.map T.bl)=some ns:=by
 induction ns with
 |nil=>rfl
 |cons n ns ih=>simp[rX,ih]
@[simp] noncomputable def vF:List T->M T
 |[.lst ts]=>match mC ts with
  |some ns=>.ok (.int ns.sum)
  |none=>.bad
 |_=>.bad
def M9 xs:M.NoE (vF xs):=λC n=>by unfold vF;split<;>first|(intro z;cases z;done)|(split<;>first|(intro z;cases z;done)|(split<;>intro z<;>cases z))
def xq:MC K (λxs H Q=>∃(p:Addr) (d:LI),xs=[.ref p]/\lS K H p (d.map V.int)/\Q (.int d.sum) H) vF:=⟨M9,λF H i xs Q s r q=>by
 cases r with
 |nil=>exact q.elim
 |cons h t=>
  cases t with
  |cons _ _=>cases h<;>exact q.elim
  |nil=>
   cases h with
   |lst h r=>
    rename_i a xs g;have f:(match mC g with|some d=>M.ok (T.int d.sum)|none=>M.bad).res (kV K F H Q) (λ_ _=>False):=q;cases e:mC g with
    |none=>rw[e]at f;exact f.elim
    |some d=>rw[e]at f;rw[xB e]at r;have:=r.ints;subst this;exact⟨a,d,rfl,lS.of (s _ _ h),kV.now f s (.int _)⟩
   |_=>exact q.elim⟩
@[simp] noncomputable def xr:List T->M T
 |[.lst ts]=>match rX ts with
  |some ns=>.ok (.bl (ns.all id))
  |none=>.bad
 |_=>.bad
def Oc xs:M.NoE (xr xs):=λC n=>by unfold xr;split<;>first|(intro z;cases z;done)|(split<;>first|(intro z;cases z;done)|(split<;>intro z<;>cases z))
def uz:MC K (λxs H Q=>∃(p:Addr) (bs:List Bool),xs=[.ref p]/\lS K H p (bs.map V.bl)/\Q (.bl (bs.all id)) H) xr:=⟨Oc,λF H g xs Q s r q=>by
 cases r with
 |nil=>exact q.elim
 |cons h t=>
  cases t with
  |cons _ _=>cases h<;>exact q.elim
  |nil=>
   cases h with
   |lst h r=>
    rename_i a xs f;have d:(match rX f with|some ns=>M.ok (T.bl (ns.all id))|none=>M.bad).res (kV K F H Q) (λ_ _=>False):=q;cases e:rX f with
    |none=>rw[e]at d;exact d.elim
    |some ns=>rw[e]at d;rw[yK e]at r;have:=r.bls;subst this;exact⟨a,ns,rfl,lS.of (s _ _ h),kV.now d s (.bl _)⟩
   |_=>exact q.elim⟩
@[simp] noncomputable def SR:T->String
 |.non=> "NoneType"
 |.bl _=> "bool"
 |.int _=> "int"
 |.str _=> "str"
 |.tup _=> "tuple"
 |.lst _=> "list"
 |.scr _=> "script"
 |.obj _ _=> "object"
 |.emp=> "dict"
 |.dic _=> "table"
@[simp] noncomputable def RE(n:String)(x:T):M T:=match x with
 |.scr _=>.bad
 |.obj _ _=>.bad
 |.dic _=>.bad
 |x=>.ok (.bl (SR x==n||(n == "int" && SR x == "bool")))
def Uc(r:kU K F v x)(s:iq F H)(d:∀k,x≠.scr k)(j:∀C fs,x≠.obj C fs)(g:∀f,x≠.dic f):qH K H v (.type (SR x)):=by
 cases r with
 |non=>exact .non
 |bl b=>exact .bl b
 |int i=>exact .int i
 |str x=>exact .str x
 |tup h r=>exact .tup (s _ _ h)
 |lst h r=>exact .lst (s _ _ h)
 |scr h=>exact absurd rfl (d _)
 |obj h r=>exact absurd rfl (j _ _)
 |emp h=>exact .dK (s _ _ h)
 |dic h r=>exact absurd rfl (g _)
@[simp] noncomputable def vB(n:String)(fe:Pe->M T):Pe->M T:=λd=>(fe d).bind λx=>RE n x
theorem Qv(B:∀t∈["NoneType", "bool", "int", "str", "tuple", "list", "dict"],W.kitOne K (.type t) (.type n)=some (t==n||(n == "int" && t == "bool")))(A:ME K E te fe) :
  ME K E (Mp (λxs H Q=>∃x T t b,xs=[x,.ty T]/\qH K H x t/\W.kitOne K t (.type T)=some b/\Q (.bl b) H) (ql te (ql (tC (.ty n)) uO))) (vB n fe):=λF H I D Q s V q=>by
 refine A.run s V q λx v w j r y g=>?_;have d:∀b,RE n x=.ok (.bl b)->(∀h,x≠.scr h)->(∀C fs,x≠.obj C fs)->(∀i,x≠.dic i)->b=(SR x==n||(n == "int" && SR x == "bool"))->∃f T t b,[v,L2.V.ty n]=[f,.ty T]/\qH K j f t/\W.kitOne K t (.type T)=some b/\Q (.bl b) j:=by
  intro b e k m l u;rw[e]at g;refine⟨v,n,_,b,rfl,Uc y r.fh k m l,?_,g _ w j r (.bl _)⟩;rw[u];refine B _ ?_;cases x with
  |scr h=>exact absurd rfl (k h)
  |obj C fs=>exact absurd rfl (m C fs)
  |dic i=>exact absurd rfl (l i)
  |_=>simp[SR]
 cases x with
 |scr h=>exact g.elim
 |obj C fs=>exact g.elim
 |dic i=>exact g.elim
 |non=>exact d _ rfl (λ_ z=>nomatch z) (λ_ _ z=>nomatch z) (λ_ z=>nomatch z) rfl
 |bl _=>exact d _ rfl (λ_ z=>nomatch z) (λ_ _ z=>nomatch z) (λ_ z=>nomatch z) rfl
 |int _=>exact d _ rfl (λ_ z=>nomatch z) (λ_ _ z=>nomatch z) (λ_ z=>nomatch z) rfl
 |str _=>exact d _ rfl (λ_ z=>nomatch z) (λ_ _ z=>nomatch z) (λ_ z=>nomatch z) rfl
 |tup _=>exact d _ rfl (λ_ z=>nomatch z) (λ_ _ z=>nomatch z) (λ_ z=>nomatch z) rfl
 |lst _=>exact d _ rfl (λ_ z=>nomatch z) (λ_ _ z=>nomatch z) (λ_ z=>nomatch z) rfl
 |emp=>exact d _ rfl (λ_ z=>nomatch z) (λ_ _ z=>nomatch z) (λ_ z=>nomatch z) rfl
def Oi K:∀n∈["int", "bool", "str", "tuple", "list"],∀t∈["NoneType", "bool", "int", "str", "tuple", "list", "dict"],W.kitOne K (.type t) (.type n)=some (t==n||(n == "int" && t == "bool")):=by intro n d t f;simp only[aG,eC,or_false]at d f;rcases d with rfl|rfl|rfl|rfl|rfl<;>rcases f with rfl|rfl|rfl|rfl|rfl|rfl|rfl<;>rfl
def nR n (j:n∈["int", "bool", "str", "tuple", "list"]) (h:X.mg "isinstance" = none) (f:X.mg x=none) (m:bootBuiltins x=some (.type n)) (r:Pm K E X e te fe) (u:X.K=K:=by rfl) (l:Gl X "isinstance" :=by rfl) (q:Gl X x:=by rfl)
  (g:x≠ "__name__" :=by decide) (k:(x==("__debug__" : Str))=false:=by decide)
  (s:starEach [e,.Name x p3] X.env=(false,eval e X.env)::starEach [.Name x p3] X.env:=by rfl) (d:starEach [.Name x p3] X.env=(false,eval (.Name x p3) X.env)::starEach [] X.env:=by rfl) (i:(backTo pos (starEach [.Name x p3] X.env)).any (·.1)=false:=by rfl) :
  Pm K E X (.Call (.Name "isinstance" p) [e,.Name x p3] [] pos) (Mp (λxs H Q=>∃x T t b,xs=[x,.ty T]/\qH K H x t/\W.kitOne K t (.type T)=some b/\Q (.bl b) H) (ql te (ql (tC (.ty n)) uO))) (vB n fe):=by
 subst u;exact⟨C8 Ja l h QH (m9 r.pe (m9 (Nk q f m rfl g k) sM d) s) (by decide) (by decide) s i,Qv (Oi X.K n j) r.me⟩
@[simp] noncomputable def jD:T->T->M T
 |.lst ts,.int i=>match qx ts i with
  |some t=>.ok t
  |none=>.bad
 |.tup ts,.int i=>match qx ts i with
  |some t=>.ok t
  |none=>.bad
 |.scr ns,.int i=>match qx ns i with
  |some t=>.ok (.int t)
  |none=>.bad
 |.str z,.int i=>if z.length<=sizeLine then (match qx z.cps.toList i with
  |some c=>.ok (.str ⟨#[c]⟩)
  |none=>.bad) else .bad
 |_,_=>.bad
def Gi(r:iB K F vs ts)(h:qx ts i=some t):∃v,qx vs i=some v/\kU K F v t:=by
 unfold qx at h ⊢;rw[r.length];cases e:wW ts.length i with
 |none=>rw[e]at h;cases h
 |some j=>rw[e]at h;exact r.get h
def pJ(f:α->β) l i:qx (l.map f) i=(qx l i).map f:=by
 unfold qx;rw[ax];cases wW l.length i with
 |none=>rfl
 |some j=>simp
def Qr x y:M.NoE (jD x y):=λC n=>by unfold jD;split<;>first|(intro z;cases z;done)|(split<;>first|(intro z;cases z;done)|(split<;>intro z<;>cases z))
def T9:MR K (SW K) jD:=⟨Qr,λF H v w x y Q s f d q=>by
 unfold jD at q;split at q
 .rename_i m i;rw[d.int_inv];obtain⟨a,g,rfl,h,r⟩:=f.lst_inv;split at q
  .rename_i t e;obtain⟨v,k,j⟩:=Gi r e;exact .inl ⟨a,g,i,v,rfl,rfl,lS.of (s _ _ h),k,kV.now q s j⟩
  .exact q.elim
 .rename_i m i;rw[d.int_inv];obtain⟨a,g,rfl,h,r⟩:=f.tup_inv;split at q
  .rename_i t e;obtain⟨v,k,j⟩:=Gi r e;exact .inr (.inl ⟨a,g,i,v,rfl,rfl,mW.of (s _ _ h),k,kV.now q s j⟩)
  .exact q.elim
 .rename_i n i;rw[d.int_inv];cases f with
  |scr h=>
   split at q
   .rename_i t e;exact .inl ⟨_,_,i,.int t,rfl,rfl,s.seq h,by rw[pJ,e];rfl,kV.now q s (.int _)⟩
   .exact q.elim
 .rename_i z i;rw[d.int_inv];cases f with
  |str z=>
   split at q
   .rename_i l;split at q
    .rename_i c e;exact .inr (.inr ⟨z,i,c,rfl,rfl,l,e,kV.now q s (.str _)⟩)
    .exact q.elim
   .exact q.elim
 .exact q.elim⟩
def zl(f:Pm K E X a ta fa)(d:Pm K E X b tb fb)(g:Ap b:=by intro _ _;rfl)(h:X.K=K:=by rfl):Pm K E X (.Subscript a b pos) (vP (SW K) ta tb) (ig jD fa fb):=⟨Fc (h▸Lp) f.pe d.pe g,GG T9 f.me d.me⟩
def Ll:UG K E X none Gh (λ_=>.ok none):=⟨OM,λF H f d Q s V q=>q F H (.refl s)⟩
@[simp] noncomputable def ju(fe:Pe->M T):Pe->M (Option Int):=λd=>(fe d).bind λx=>match x with
 |.int i=>.ok (some i)
 |_=>.bad
def JR(h:Pm K E X e te fe):UG K E X (some e) (Px te) (ju fe):=⟨Ni h.pe,λF H m l Q s V q=>by
 refine h.me.run s V q λx v f j g k d=>?_;cases k with
 |int i=>exact⟨i,rfl,d f j g⟩
 |_=>exact d.elim⟩
noncomputable def pG{d:Type}(xs:List d)(f g:Option Int):List d:=(xs.drop (HT.sIx xs.length 0 f)).take (HT.sIx xs.length xs.length g-HT.sIx xs.length 0 f)
def QS xs lo hi:Ko xs lo hi=pG xs lo hi:=rfl
def iB.cut(r:iB K F vs ts) lo hi:iB K F (pG vs lo hi) (pG ts lo hi):=by unfold pG;rw[r.length];exact (r.drop _).take _
def Ld(f:α->β) l lo hi:pG (l.map f) lo hi=(pG l lo hi).map f:=by unfold pG;rw[ax,eE,eF]
section
variable {lo hi:Option Expr}{tl th:TO}{fl fh:Pe->M (Option Int)}
def MO.run{k:Option Int->M α}{P:α->Prop}(h:MO K E t f)(s:iq F H)(v:lQ K F σ ρ)(r:((f ρ).bind k).res P (kE E F H))
  (j:∀x i d,Gr F H i d->(k x).res P (kE E i d)->Q x d):t σ H Q:=
 h F H σ ρ Q s v ((M.res.unb r).mono (λx q i d g=>j x i d g (q.mono (λ_ z=>z) λ_ _ z=>z.go g)) λ_ _ z=>z)
@[simp] noncomputable def kR(fe:Pe->M T)(fl fh:Pe->M (Option Int)):Pe->M T:=λd=>(fe d).bind λx=>(fl d).bind λl=>(fh d).bind λh=>match x with
 |.tup ts=>.ok (.tup (pG ts l h))
 |.lst ts=>.ok (.lst (pG ts l h))
 |.scr ns=>.ok (.lst ((pG ns l h).map T.int))
 |_=>.bad
def Df(w:Pm K E X e te fe)(t:UG K E X lo tl fl)(y:UG K E X hi th fh)(D:X.K=K:=by rfl):Pm K E X (.Subscript e (.Slice lo hi none p2) pos) (Vw (λx lo hi H Q=>TQ K x lo hi H Q\/(T2 K x lo hi H Q\/Tw K x lo hi H Q)) te tl th) (kR fe fl fh):=by
 subst D;refine⟨Jq (NP.or (Rx.or NZ)) w.pe t.po y.po,λF H U S Q s V q=>?_⟩;refine w.me.run s V q λx v P Y k C L=>?_;refine t.mo.run k.fh (V.mono k.ff) L λl R Z j I=>?_;refine y.mo.run j.fh ((V.mono k.ff).mono j.ff) I λu z A d m=>?_;have g:=(k.trans j).trans d;have J:=C.mono (j.ff.trans d.ff);cases J with
 |lst h r=>exact .inl ⟨_,_,rfl,lS.of (d.fh _ _ h),λp f=>m (.ref p) _ _ (g.trans (.new d.fh f)) (.lst hC ((r.cut l u).mono (Gr.new d.fh f).ff))⟩
 |scr h=>exact .inl ⟨_,_,rfl,d.fh.seq h,λp f=>m (.ref p) _ _ (g.trans (.new d.fh f)) (.lst hC (by rw[QS,Ld];exact iB.of_ints _))⟩
 |tup h r=>
  rename_i a N i;have n:(M.ok (T.tup (pG i l u))).res (kV X.K F H Q) (kE E z A):=m;by_cases hw:HT.sIx i.length 0 l=0/\HT.sIx i.length i.length u=i.length
  .have B:pG i l u=i:=by unfold pG;rw[hw.1,hw.2];simp
   rw[B]at n;exact .inr (.inr ⟨_,_,rfl,mW.of (d.fh _ _ h),by rw[r.length];exact hw,n _ z A g (.tup h r)⟩)
  .exact .inr (.inl ⟨_,_,rfl,mW.of (d.fh _ _ h),by rw[r.length];exact hw,λp f=>n (.ref p) _ _ (g.trans (.new d.fh f)) (.tup hC ((r.cut l u).mono (Gr.new d.fh f).ff))⟩)
 |_=>exact m.elim
end
section
variable {x:Str}{k:Nat}{Fn:List T->M T}{Ff:List T->M (List T)}
def ml(h:lI X.prog X.w X.K X.mg X.base x j (xU K Fn))(hr:ji k X.A)(g:Eg K E X (e::es) tr fr)(l:j<=k:=by decide)(m:Gl X x:=by rfl)
  (d:(x==("__debug__" : Str))=false:=by decide) (i:starEach (e::es) X.env=(false,eval e X.env)::starEach es X.env:=by rfl) (f:(backTo pos (starEach es X.env)).any (·.1)=false:=by rfl) :
  Pm K E X (.Call (.Name x p) (e::es) [] pos) (zA (xU K Fn) [] E0 tr) (hZ fr Fn):=⟨Dm (h.mono l) hr g.pa m d i f,LW g.ma⟩
def ON(h:lI X.prog X.w X.K X.mg X.base x j (Cq K Ff))(hr:ji k X.A)(g:Eg K E X (e::es) tr fr)(l:j<=k:=by decide)(m:Gl X x:=by rfl)
  (d:(x==("__debug__" : Str))=false:=by decide) (i:starEach (e::es) X.env=(false,eval e X.env)::starEach es X.env:=by rfl) (f:(backTo pos (starEach es X.env)).any (·.1)=false:=by rfl) :
  GQ K E X (.Call (.Name x p) (e::es) [] pos) (zA (Cq K Ff) [] E0 tr) (kL fr Ff):=⟨Dm (h.mono l) hr g.pa m d i f,J5 g.ma⟩
end
def Tr(K:W.Frag)(t:TE):TI:=λd H R=>CT K t d H R\/QD K t d H R
@[simp] noncomputable def jK(fa:Pe->M T):Pe->M (List T):=λd=>(fa d).bind λx=>match x with
 |.lst ts=>.ok ts
 |.scr ns=>.ok (ns.map T.int)
 |.tup ts=>.ok ts
 |_=>.bad
def R8(f:ME K E ta fa):MI K E (Tr K ta) (jK fa):=λF H g d R s V q=>by
 unfold jK at q;cases e:fa d with
 |bad=>rw[e]at q;exact q.elim
 |er C n=>rw[e]at q;exact .inl (AN f F H g d R s V (by unfold UL;rw[e];exact q))
 |ok x=>
  rw[e]at q;cases x with
  |lst ts=>exact .inl (AN f F H g d R s V (by unfold UL;rw[e];exact q))
  |scr ns=>exact .inl (AN f F H g d R s V (by unfold UL;rw[e];exact q))
  |tup ts=>exact .inr (RT f F H g d R s V (by unfold Vy;rw[e];exact q))
  |_=>exact q.elim
def jh(d:Pm K E X a ta fa)(i:X.K=K:=by rfl):Ig K E X tg a (Tr K ta) (jK fa):=by
 subst i;refine⟨λf s g H R I h=>?_,R8 d.me⟩;rcases h with h|h
 .exact z9 d.pe f s g H R I h
 .exact Rk d.pe f s g H R I h
def PX(K:W.Frag)(ta:TA):TI:=λf H R=>∃g d,Q4 K g d ta f H R
@[simp] noncomputable def seqT:T->M (List T)
 |.lst ts=>.ok ts
 |.scr ns=>.ok (ns.map T.int)
 |.tup ts=>.ok ts
 |_=>.bad
@[simp] noncomputable def n0(fa:Pe->M (List T)):Pe->M (List T):=λh=>(fa h).bind λf=>match f with
 |[x,y]=>(seqT x).bind λg=>(seqT y).bind λd=>.ok (tj g d)
 |_=>.bad
noncomputable def ui:T->Bool
 |.tup _=>true
 |_=>false
def Eb x:seqT x=seqB (ui x) x:=by cases x<;>rfl
def M6(g:MA K E tr fr):MI K E (PX K tr) (n0 fr):=λF H h d R s V q=>by
 unfold n0 at q;cases e:fr d with
 |bad=>rw[e]at q;exact q.elim
 |er C n=>rw[e]at q;exact⟨true,true,KH g F H h d R s V (by unfold QK;rw[e];exact q)⟩
 |ok xs=>
  rw[e]at q;match xs,e,q with
  |[],_,q=>exact q.elim
  |[_],_,q=>exact q.elim
  |[x,y],e,q=>refine⟨ui x,ui y,KH g F H h d R s V ?_⟩;unfold QK;rw[e];have f:((seqT x).bind λj=>(seqT y).bind λi=>M.ok (tj j i)).res (kI K F H R) (kE E F H):=q;rw[Eb x,Eb y]at f;exact f
  |_::_::_::_,_,q=>exact q.elim
def og{x1}(l:X.mg "zip" = none)(f:Eg K E X [a,b] tr fr)(g:X.K=K:=by rfl)(m:Gl X "zip" :=by rfl)(i:starEach [a,b] X.env=[(false,eval a X.env),(false,eval b X.env)]:=by rfl)
  (d:starEach [b] X.env=[(false,eval b X.env)]:=by rfl):Ig K E X (.Tuple elts x1 tpos) (.Call (.Name "zip" p) [a,b] [] pos) (PX K tr) (n0 fr):=by
 subst g;refine⟨λj s k H R I h=>?_,M6 f.ma⟩;obtain⟨n,q,h⟩:=h;exact RY m l f.pa i d j s k H R I h
def lO(g:X.mg "range" = none)(d:Eg K E X [a] tr fr)(h:Gl X "range" :=by rfl)(f:starEach [a] X.env=[(false,eval a X.env)]:=by rfl):tq K E X tg (.Call (.Name "range" p) [a] [] pos) (Kq tr) (kC fr):=⟨GN h g d.pa f,Ou d.ma⟩
def tq.pim(h:tq K E X tg it w f):Ig K E X tg it w f:=⟨h.pi,h.mi.mi⟩
section
variable {x:Str}{g:TG}{gs:Ml}{m:T->Pe->Option Pe}{ms:List T->Pe->Option Pe}{mo:T->En->Option En}{mos:List T->En->Option En}{n:Nat}
def jc i (j:X.N.Nodup) (d:HN X.env.scope x:=by first|exact Or.inl rfl|exact Or.inr rfl) (h:X.N[i]? = some x:=by rfl) (f:X.fn x=true\/X.env.scope.names.lookup x=some .local:=by first|exact .inl rfl|exact .inr rfl|assumption):SH K X (.Name x pos) (jS i) (ku i):=⟨vW j h d f,OD⟩
def kX i (j:X.N.Nodup) (d:HN X.env.scope x:=by first|exact Or.inl rfl|exact Or.inr rfl) (h:X.N[i]? = some x:=by rfl) (f:X.fn x=true\/X.env.scope.names.lookup x=some .local:=by first|exact .inl rfl|exact .inr rfl|assumption):RP K X (.Name x pos) (jS i) (ot i):=⟨vW j h d f,KR⟩
def lM:Pc K X [] GV oR:=⟨GF,OG⟩
def v7:Nb K X [] GV qs:=⟨GF,Lc⟩
def iS(d:SH K X e g m)(f:Pc K X es gs ms)(h:(assignEach (e::es) X.env).map (·.2)=assign e X.env::(assignEach es X.env).map (·.2):=by rfl):Pc K X (e::es) (wy g gs) (je m ms):=⟨CV d.pg f.pg h,L9 d.mg f.mg⟩
def nq(d:RP K X e g mo)(f:Nb K X es gs mos)(h:(assignEach (e::es) X.env).map (·.2)=assign e X.env::(assignEach es X.env).map (·.2):=by rfl):Nb K X (e::es) (wy g gs) (kc mo mos):=⟨CV d.pg f.pg h,HA d.mg f.mg⟩
def oA n (j:X.calm=true) (h:Pc K X es gs ms) (f:X.K=K:=by rfl) (i:(assignEach es X.env).length=n:=by rfl) (d:(assignEach es X.env).findIdx? (·.1)=none:=by rfl):SH K X (.Tuple es k pos) (Ht K n gs) (oT n ms):=by subst f;exact⟨Jc j h.pg i d,Sb h.mg⟩
def Et n (j:X.calm=true) (h:Nb K X es gs mos) (f:X.K=K:=by rfl) (i:(assignEach es X.env).length=n:=by rfl) (d:(assignEach es X.env).findIdx? (·.1)=none:=by rfl):RP K X (.Tuple es k pos) (Ht K n gs) (qL n mos):=by subst f;exact⟨Jc j h.pg i d,Oq h.mg⟩
end
section
variable {elt iter:Expr}{ifs:List Expr}{scope:Scope}{N:List Str}{ix:List (Option Nat)}{wi:TI}{g:TG}{tt:TT}{fi:Pe->M (List T)}{m:T->Pe->Option Pe}{ft:Pe->M Bool}
def iV:KC K E X [] R4 (λ_=>.ok true):=⟨Oo,Q5⟩
def nJ(h:Ee K E X c t f):KC K E X [c] t f:=⟨ND h.pt,h.mt⟩
@[simp] noncomputable def lB(ix:List (Option Nat))(fi:Pe->M (List T))(m:T->Pe->Option Pe)(ft:Pe->M Bool)(fe:Pe->M T):Pe->M (List T):=λf=>(fi f).bind λd=>(if d.length<sizeLine then qo (uc m ft fe (om ix f)) d else .bad).noEr
def Ul(q:X.calm=true)(k:Ig K E X tg iter wi fi)(L:Cy X scope N ix)(j:pR ix g)
  (f:∀C d H i h,SH K (nc X N scope C d H i h) tg g m/\KC K Mj (nc X N scope C d H i h) ifs tt ft/\Pm K Mj (nc X N scope C d H i h) elt te fe)
  (l:∀x,foldedSetIterable iter X.env x=pure x:=by intro _;rfl):GQ K E X (.ListComp elt [⟨tg,iter,ifs,0⟩] scope pos) (Jb ix wi g tt te) (lB ix fi m ft fe):=by
 obtain⟨s,n,r⟩:=f 0 X.s₀ X.H₀ [] [];exact⟨T4 q k.pi L j (λC d H i h=>⟨(f C d H i h).1.pg,(f C d H i h).2.1.pf,(f C d H i h).2.2.pe⟩) l,PQ k.mi s.mg n.mt r.me⟩
end
end
end L3
namespace L3
open PySem L2 PySem.Spec PyProof.Rows
section
variable {K:W.Frag}{E:XK}{X:Cx}{a b c e o tg it:Expr}{es:List Expr}{ta tb tc te to:TE}{fa fb fc fe fo:Pe->M T}{tr:TA}{fr:Pe->M (List T)}{pos pos' p p2 apos:Pos}{st:Stmt}{mF:List Stmt}{t u:TS}{g g':En->O}{ff:Pe->M (List T)}{x:Str}
def iX:qg K E X [] yO jE:=⟨AX,N2⟩
def hW(h:xP K E X st t g):qg K E X [st] t g:=⟨pI h.ps,h.ms⟩
def gX(h:xP K E X st t g)(h':qg K E X mF u g'):qg K E X (st::mF) (AG t u) (iD g g'):=⟨ph h.ps h'.ps,QG h.ms h'.ms⟩
def Gy:xP K E X st EH (λ_=>.bad):=⟨K6,L8⟩
def Q6:xP K E X (.Continue pos) KF (λρ=>.ct ρ):=⟨Cd,MD⟩
def iZ(h:Pm K E X e te fe):xP K E X (.Return (some e) pos) (CY te) (jg fe):=⟨A7 h.pe,R6 h.me⟩
def wA(h:GQ K E X e te ff):xP K E X (.Return (some e) pos) (CY te) (xO ff):=⟨A7 h.pe,OP h.mf⟩
def BI i (h:PE X (.Name x p) (mv i)):xP K E X (.Return (some (.Name x p)) pos) (CY (mv i)) (tQ i):=⟨A7 h,HQ⟩
def jN{tc:TT}{fc:Pe->M Bool}(d:Ee K E X c tc fc)(h:qg K E X A t g)(h':qg K E X B u g'):xP K E X (.If c A B pos) (GT tc t u) (pW fc g g'):=⟨Jx d.pt h.ps h'.ps,S6 d.mt h.ms h'.ms⟩
def EX{tc:TT}{fc:Pe->M Bool}(d:En->Nat)(i:PassesOwn (model X.prog X.w) X.A X.env X.xe)(f:Ee K E X c tc fc)(h:qg K E X A t g):xP K E X (.While c A [] pos) (Dz tc t) (λρ=>mD fc g (d ρ) ρ):=⟨JY i f.pt h.ps,KG d f.mt h.ms⟩
section
variable {w:TI}{fi:Pe->M (List T)}{gt:TG}{m:T->En->Option En}{A:List Stmt}
def n8(hp:PassesOwn (model X.prog X.w) X.A X.env X.xe)(hc:X.calm=true)(hi:Ig K E X tg it w fi)(hg:RP K X tg gt m)(hb:qg K E X A t g)(hs:∀x,foldedSetIterable it X.env x=pure x:=by intro _;rfl):xP K E X (.For tg it A [] pos) (wJ w gt t) (vE fi m g):=⟨uN hp hc hi.pi hg.pg hb.ps hs,Se hi.mi hg.mg hb.ms⟩
def Mb j (n:PE X (.Name x p) (mv j)) (q:PassesOwn (model X.prog X.w) X.A X.env X.xe) (s:X.calm=true) (f:RP K X tg gt m) (d:qg K E X A t g) (i:X.K=K:=by rfl) (k:∀z,foldedSetIterable (.Name x p) X.env z=pure z:=by intro _;rfl):xP K E X (.For tg (.Name x p) A [] pos) (wJ (CT K (mv j)) gt t) (rh j m g):=by subst i;exact⟨uN q s (z9 n) f.pg d.ps k,G5 (λy H R l v e h r=>⟨_,e,l,rfl,⟨_,lS.of h⟩,r⟩) f.mg d.ms⟩
def tW(j:PassesOwn (model X.prog X.w) X.A X.env X.xe)(k:X.calm=true)(f:tq K E X tg it w fi)(h:RP K X tg gt m)(d:qg K E X A t g)(i:∀x,foldedSetIterable it X.env x=pure x:=by intro _;rfl):xP K E X (.For tg it A [] pos) (wJ w gt t) (u0 fi m g):=⟨uN j k f.pi h.pg d.ps i,OJ f.mi h.mg d.ms⟩
end
def Rr i (z:X.N.Nodup) (q:HN X.env.scope x)
  (s:X.calm=true) (n:Ig K E X tg iter wi fi) (L:Cy X scope N ix) (k:pR ix gt)
  (f:∀C d H j h,SH K (nc X N scope C d H j h) tg gt m/\KC K Mj (nc X N scope C d H j h) ifs tt ft/\Pm K Mj (nc X N scope C d H j h) elt te fe)
  (y:MF K E (Jb ix wi gt tt te) (lB ix fi m ft fe)->MS K E (oG (Jb ix wi gt tt te) (jS i)) gm)
  (w:X.N[i]? = some x:=by rfl) (r:X.fn x=true\/X.env.scope.names.lookup x=some .local:=by first|exact .inl rfl|exact .inr rfl)
  (l:swapsWith (.ListComp elt [⟨tg,iter,ifs,0⟩] scope pos) (some (.Name x py)) spos.line X.env=pure true:=by rfl)
  (v:∀x,foldedSetIterable iter X.env x=pure x:=by intro _;rfl):xP K E X (.Assign [.Name x py] (.ListComp elt [⟨tg,iter,ifs,0⟩] scope pos) spos) (oG (Jb ix wi gt tt te) (jS i)) gm:=by
 obtain⟨D,A,B⟩:=f 0 X.s₀ X.H₀ [] [];exact⟨Mg z w q s n.pi L k (λC d H j h=>⟨(f C d H j h).1.pg,(f C d H j h).2.1.pf,(f C d H j h).2.2.pe⟩) r l v,y (PQ n.mi D.mg A.mt B.me)⟩
def jA i (f:X.N.Nodup) (h:Pm K E X e te fe) (j:HN X.env.scope x:=by first|exact Or.inl rfl|exact Or.inr rfl) (k:X.N[i]? = some x:=by rfl) (d:swapsWith e (some (.Name x pos')) pos.line X.env=pure false:=by rfl) (l:X.fn x=true\/X.env.scope.names.lookup x=some .local:=by first|exact .inl rfl|exact .inr rfl|assumption) :
  xP K E X (.Assign [.Name x pos'] e pos) (oG te (jS i)) (setO i (kn fe)):=⟨uF f k j h.pe d l,Fy h.me⟩
def IR i (f:X.N.Nodup) (h:Pm K E X e te fe) (j:HN X.env.scope x:=by first|exact Or.inl rfl|exact Or.inr rfl) (k:X.N[i]? = some x:=by rfl) (d:swapsWith e (some (.Name x pos')) pos.line X.env=pure false:=by rfl) (l:X.fn x=true\/X.env.scope.names.lookup x=some .local:=by first|exact .inl rfl|exact .inr rfl|assumption) :
  xP K E X (.Assign [.Name x pos'] e pos) (oG te (jS i)) (setO i (vK fe)):=⟨uF f k j h.pe d l,OA h.me⟩
def Ct i (f:X.N.Nodup) (h:GQ K E X e te ff) (j:HN X.env.scope x:=by first|exact Or.inl rfl|exact Or.inr rfl) (k:X.N[i]? = some x:=by rfl) (d:swapsWith e (some (.Name x pos')) pos.line X.env=pure false:=by rfl) (l:X.fn x=true\/X.env.scope.names.lookup x=some .local:=by first|exact .inl rfl|exact .inr rfl|assumption) :
  xP K E X (.Assign [.Name x pos'] e pos) (oG te (jS i)) (n5 i (qt ff)):=⟨uF f k j h.pe d l,AW h.mf⟩
def J6 i (f:X.N.Nodup) (h:GQ K E X e te ff) (j:HN X.env.scope x:=by first|exact Or.inl rfl|exact Or.inr rfl) (k:X.N[i]? = some x:=by rfl) (d:swapsWith e (some (.Name x pos')) pos.line X.env=pure false:=by rfl) (l:X.fn x=true\/X.env.scope.names.lookup x=some .local:=by first|exact .inl rfl|exact .inr rfl|assumption) :
  xP K E X (.Assign [.Name x pos'] e pos) (oG te (jS i)) (n5 i (uA ff)):=⟨uF f k j h.pe d l,Nj h.mf⟩
def qm(h:MF K E te ff):MS K E (oG te (jS i)) (setO i (kn λρ=>(ff ρ).bind λts=>.ok (.lst ts))):=Fy h.me
@[simp] noncomputable def Nc(i j:Nat)(fr:Pe->M (List T)):En->O:=λd=>.of (fr (kP d)) λf=>match f with
 |[x,y]=>.nx ((d.set i (some (.p x))).set j (some (.p y)))
 |_=>.bad
def Qn(h:MA K E tr fr):MS K E (SA i j tr) (Nc i j fr):=λB A F H s l D r q=>by
 refine h F H s (kP l) _ r.gr.fh r.vars ((O.res_of q).mono (λw z y v m f d=>?_) λC n z=>z.go r.gr);have k:=r.grow f;cases d with
 |nil=>exact z.elim
 |cons h1 d=>
  cases d with
  |nil=>exact z.elim
  |cons h2 d=>
   cases d with
   |nil=>exact⟨_,_,rfl,z v m _ f.ff ((k.setP h1).setP h2)⟩
   |cons h3 d=>exact z.elim
def Nv{kt k2 pt2}(q:X.calm=true)(l:X.N.Nodup)(m:X.N[i]? = some x)(r:X.N[j]? = some y)(d:i≠j)
  (n:X.env.scope.names.lookup x=some .local) (k:X.env.scope.names.lookup y=some .local) (f:Eg K E X [a,b] tr fr)
  (hw:swappedStores [.Tuple [.Name x px,.Name y py] kt pt] (.Tuple [a,b] k2 pt2) X.env=pure (some [x,y]))
  (h:swapsWithSole [.Tuple [.Name x px,.Name y py] kt pt] (.Tuple [a,b] k2 pt2) pos.line X.env=pure false:=by rfl) :
  xP K E X (.Assign [.Tuple [.Name x px,.Name y py] kt pt] (.Tuple [a,b] k2 pt2) pos) (SA i j tr) (Nc i j fr):=⟨QU q l m r d n k f.pa hw h,Qn f.ma⟩
def Ei(h:H l=some (.lst xs)):Uy K "list" (.ref l) H:=.inl ⟨rfl,_,lS.of h⟩
def nv i (r:PE X (.Name x p) (mv i)) (n:Pm K E X e te fe) (m:starEach [e] X.env=(false,eval e X.env)::starEach [] X.env:=by rfl) (q:X.K=K:=by rfl)
  (f:attributeBase (.Name x p) "append" X.env (eval (.Name x p) X.env)=eval (.Name x p) X.env:=by rfl)
  (j:((backTo pos (starEach [e] X.env)).all (λx=>!x.1)&&(backToKw pos (keywordEach [] X.env)).all (λx=>x.1.isSome)&&decide (([e]:List Expr).length+([]:List Keyword).length+(if ([]:List Keyword).isEmpty then 0 else 1)<30))=true:=by rfl)
  (d:(apos.endLine==pos.line)=true:=by rfl) (hplain:(backTo pos (starEach [] X.env)).any (·.1)=false:=by rfl) (k:swapsWith (.Call (.Attribute (.Name x p) "append" apos) [e] [] pos) none pos'.line X.env=pure false:=by rfl) :
  xP K E X (.Expr (.Call (.Attribute (.Name x p) "append" apos) [e] [] pos) pos') (wN (NN K i te)) (tY i (kn fe)):=by
 subst q;exact⟨BE (Jy PySem.F.plainAttrs_list PySem.F.slot_list_append PySem.F.type_list_append uM r (m9 n.pe sM m) f j d m hplain) k,OL (λl s H h=>Ei h) n.me⟩
def Bw i (k:PE X (.Name x p) (mv i)) (d:Pm K E X b tb fb) (h:Pm K E X e te fe)
  (l:∀v,assign (.Subscript (.Name x p) b p2) X.env v=(do
   let ov <-holding [v] (eval (.Name x p) X.env)
   let iv <-holding [v,ov] (eval b X.env)
   standAt p2
   holding [v,ov,iv] (setItem ov iv v)
   release [v,ov,iv] []):=by intro _;rfl)
  (f:swapsWithSole [.Subscript (.Name x p) b p2] e pos.line X.env=pure false:=by rfl) (hw:swappedStores [.Subscript (.Name x p) b p2] e X.env=pure none:=by rfl)
  (j:(assignEach [.Subscript (.Name x p) b p2] X.env).map (·.2)=[assign (.Subscript (.Name x p) b p2) X.env]:=by rfl) :
  xP K E X (.Assign [.Subscript (.Name x p) b p2] e pos) (oG te (Sl (mv i) tb FJ)) (yh i (vK fb) (vK fe)):=⟨R0 h.pe (So k d.pe Kf l) f hw j,Rb h.me d.me⟩
end
section
variable {P:Program}{w:World}{K:W.Frag}{mg:Str->Option Value}{base:Heap}{x:Str}{st:Stmt}{N ps:List Str}{k:Nat}{g:En->O}
def Vg(D:iu K mg x st)(S:i8 N ps (g9 st))
  (d:∀(kV c i:Value) (m:Option Addr) (b j:Value) (us:List Value),us.length=ps.length->bindArgs (W.fnOf x x (jU st) (iQ st) (g9 st) .none kV c i m b j) ⟨us,[]⟩=pure (ps.zip us))
  (l:∀(f:Addr) (b:Value) (A:Around) (a:List Env) (s:Shared) (H:Hp) (E:XK),ji k (A.deeper (envOfC x (g9 st) s.heap.objs.size f b))->∃t,qg K E (ny sh P w K mg base N x (g9 st) f b A a s H E).nox (iQ st) t g) :
  lI P w K mg base x (k+1) (xU K (nY ps.length N.length g)):=
 AR D S d (λe H Q E h=>Ef h) λf b A a s H e Q E hr h=>let ⟨t,hp⟩:=l f b A a s H E hr;⟨t,hp.ps,Ba hp.ms h⟩
def Vj(D:iu K mg x st)(S:i8 N ps (g9 st))
  (d:∀(kV c i:Value) (m:Option Addr) (b j:Value) (us:List Value),us.length=ps.length->bindArgs (W.fnOf x x (jU st) (iQ st) (g9 st) .none kV c i m b j) ⟨us,[]⟩=pure (ps.zip us))
  (l:∀(f:Addr) (b:Value) (A:Around) (a:List Env) (s:Shared) (H:Hp) (E:XK),ji k (A.deeper (envOfC x (g9 st) s.heap.objs.size f b))->∃t,qg K E (ny sh P w K mg base N x (g9 st) f b A a s H E).nox (iQ st) t g) :
  lI P w K mg base x (k+1) (Cq K (AM ps.length N.length g)):=
 AR D S d (λe H Q E h=>Ai h) λf b A a s H e Q E hr h=>let ⟨t,hp⟩:=l f b A a s H E hr;⟨t,hp.ps,wQ hp.ms h⟩
end
end L3
namespace L3
open PySem L2 PySem.Spec PyProof.Rows
section
variable {K:W.Frag}{E:XK}{X:Cx}{a b c e o tg it:Expr}{es:List Expr}{ta tb tc te to:TE}{fa fb fc fe fo:Pe->M T}{tr:TA}{fr:Pe->M (List T)}{pos p p2 apos:Pos}
@[simp] noncomputable def jy(f:Pe->M (List T)):Pe->M T:=λd=>(f d).bind λg=>.ok (.lst g)
def i7(d:X.K=K:=by rfl):lA X (.builtin "len") (λxs H Q=>∃x n,xs=[x]/\RN K x H n/\Q (.int n) H):=d▸LV
def pB(g:X.calm=true)(f:X.K=K:=by rfl):lA X (.builtin "sum") (λxs H Q=>∃(p:Addr) (d:LI),xs=[.ref p]/\lS K H p (d.map V.int)/\Q (.int d.sum) H):=f▸Jp g
def nj(f:X.calm=true)(d:X.K=K:=by rfl):lA X (.builtin "all") (λxs H Q=>∃(p:Addr) (bs:List Bool),xs=[.ref p]/\lS K H p (bs.map V.bl)/\Q (.bl (bs.all id)) H):=d▸Lj f
def oU(f:X.calm=true)(d:X.K=K:=by rfl):lA X (.builtin "any") (λxs H Q=>∃p vs bs,xs=[.ref p]/\(lS K H p vs\/mW K H p vs)/\mN vs=some bs/\Q (.bl (bs.any id)) H):=d▸G9 f
def kj(d:X.K=K:=by rfl):lA X (.type "tuple") (λxs H Q=>∃p ys,xs=[.ref p]/\((lS K H p ys/\∀l,H l=none->Q (.ref l) (ja H l (.tup ys)))\/(mW K H p ys/\Q (.ref p) H))):=d▸yu
def nA(d:X.K=K:=by rfl):lA X (.type "list") (λxs H Q=>∃p ys,xs=[.ref p]/\(lS K H p ys\/mW K H p ys)/\∀l,H l=none->Q (.ref l) (ja H l (.lst ys))):=d▸Af
def QX(d:X.K=K:=by rfl):rK X (compareOp .In) (Vb K false):=d▸G1
def OO:T->Option Bool
 |.bl b=>some b
 |.int i=>some (i != 0)
 |_=>none
def rT:List T->Option (List Bool)
 |[]=>some []
 |v::vs=>(OO v).bind λb=>(rT vs).bind λr=>some (b::r)
theorem Bf:∀{vs} {ts},iB K F vs ts->mN vs=rT ts
 |_,_,.nil=>rfl
 |v::vs,t::ts,.cons h r=>by
  have e:C5 v=OO t:=by cases h<;>rfl
  rw[mN,rT,Bf r,e]
@[simp] theorem EM(d:LI):rT (d.map T.int)=some (d.map λn=>n != 0):=by
 induction d with
 |nil=>rfl
 |cons n d ih=>simp[rT,OO,ih]
@[simp] theorem SE ns:rT (ns.map T.bl)=some ns:=by
 induction ns with
 |nil=>rfl
 |cons n ns ih=>simp[rT,OO,ih]
@[simp] noncomputable def tV(ts:List T):M T:=match rT ts with
 |some bs=>.ok (.bl (bs.any id))
 |none=>.bad
@[simp] noncomputable def tm:List T->M T
 |[.lst ts]=>tV ts
 |[.tup ts]=>tV ts
 |_=>.bad
def Jl ts:M.NoE (tV ts):=λC n=>by unfold tV;split<;>intro z<;>cases z
def Pk xs:M.NoE (tm xs):=λC n=>by unfold tm;split<;>first|exact Jl _ C n|(intro z;cases z)
def xR:MC K (λxs H Q=>∃p vs bs,xs=[.ref p]/\(lS K H p vs\/mW K H p vs)/\mN vs=some bs/\Q (.bl (bs.any id)) H) tm:=⟨Pk,λF H vs xs Q s r q=>by
 cases r with
 |nil=>exact q.elim
 |cons h t=>
  cases t with
  |cons _ _=>cases h<;>exact q.elim
  |nil=>
   cases h with
   |lst h r=>
    rename_i a xs f;have d:(tV f).res (kV K F H Q) (λ_ _=>False):=q;unfold tV at d;cases e:rT f with
    |none=>rw[e]at d;exact d.elim
    |some bs=>rw[e]at d;exact⟨a,xs,bs,rfl,.inl (lS.of (s _ _ h)),by rw[Bf r];exact e,kV.now d s (.bl _)⟩
   |tup h r=>
    rename_i a xs f;have d:(tV f).res (kV K F H Q) (λ_ _=>False):=q;unfold tV at d;cases e:rT f with
    |none=>rw[e]at d;exact d.elim
    |some bs=>rw[e]at d;exact⟨a,xs,bs,rfl,.inr (mW.of (s _ _ h)),by rw[Bf r];exact e,kV.now d s (.bl _)⟩
   |_=>exact q.elim⟩
noncomputable def B5:T->T->M T
 |.tup a,.int k=>if Ce k=true/\a.length*k.toNat<=sizeLine then .ok (.tup (List.replicate k.toNat a).flatten) else .bad
 |_,_=>.bad
def Ip x y:M.NoE (B5 x y):=λC n=>by unfold B5;split<;>first|(split<;>intro z<;>cases z)|(intro z;cases z)
def Na:MR K IQ B5:=⟨Ip,λF H v w x y Q s m j q=>by
 cases m with
 |tup h r=>
  cases j with
  |int k=>
   rename_i a l g;have d:(if Ce k=true/\g.length*k.toNat<=sizeLine then M.ok (T.tup (List.replicate k.toNat g).flatten) else M.bad).res (kV K F H Q) (λ_ _=>False):=q;by_cases f:Ce k=true/\g.length*k.toNat<=sizeLine
   .rw[aR f]at d;refine⟨a,k,l,rfl,rfl,s _ _ h,by have:=rA f.1;rw[Ue]at this;rw[Us];omega,by have:=rA f.1;rw[Ue]at this;rw[Us];omega,by rw[r.length];exact f.2,λz=>?_,λz p i=>?_⟩
    .have:(List.replicate k.toNat g).flatten=g:=by
      rcases z with z|z
      .subst z;cases r;simp
      .subst z;simp
     rw[this]at d;exact kV.now d s (.tup h r)
    .exact d (.ref p) _ _ (.new s i) (.tup hC ((r.rep k.toNat).mono (Gr.new s i).ff))
   .rw[aS f]at d;exact d.elim
  |_=>exact q.elim
 |_=>exact q.elim⟩
@[simp] noncomputable def C2(fa fb:Pe->M T):Pe->M T:=ig B5 fa fb
def OK(d:Pm K E X a ta fa)(f:Pm K E X b tb fb):Pm K E X (.BinOp a .Mult b pos) (vP IQ ta tb) (C2 fa fb):=xM Mw Na d f
noncomputable def rP(xs:List T):List T:=(xs.zipIdx).map λp=>T.tup [.int (p.2:Int),p.1]
def JI(K:W.Frag)(ta:TA):TI:=λd H R=>∃b,Le K b ta d H R
@[simp] noncomputable def wG(fa:Pe->M (List T)):Pe->M (List T):=λf=>(fa f).bind λd=>match d with
 |[x]=>(seqT x).bind λg=>.ok (rP g)
 |_=>.bad
def NG{b:Bool}(f:∀H,iq F H->xZ K H b l xs)(d:iB K F xs ts):xu K (UV K b l) (rP ts) F where
 go:=λi H s v=>by
  have h:i<ts.length:=by simpa[rP] using v
  have j:xs[i]? = some (xs[i]'(by rw[d.length];exact h)):=ag _;exact⟨xs,_,f H s,j⟩
 stop:=λH s=>⟨xs,f H s,by simp[rP,d.length]⟩
 yld:=λi t A H x z m k e y=>by
  obtain⟨p,u,rfl,n,rfl,j⟩:=y;obtain⟨r,q,w⟩:=d.at_ (j xs (f H (m.trans k)));have:t=.tup [.int i,r]:=by unfold rP at e;rw[aw,List.getElem?_zipIdx,q]at e;simp at e;exact e.symm
  rw[this];have g:=Gr.new (o:=.tup [.int i,u]) k n;exact⟨_,g,.tup hC (.cons (.int _) (.cons ((w.mono m).mono g.ff) .nil))⟩
noncomputable def EC(b:Bool)(fa:Pe->M (List T)):Pe->M (List T):=λg=>(fa g).bind λd=>match d with
 |[x]=>(seqB b x).bind λf=>.ok (rP f)
 |_=>.bad
def Cn{b:Bool}(l:MA K E tr fr):MI K E (Le K b tr) (EC b fr):=λF H y w R s V q=>by
 refine l.run s V q λu v i m h k d=>?_;split at d
 .rename_i x;cases k with
  |cons a c=>
   cases c;cases f:seqB b x with
   |bad=>rw[f]at d;exact d.elim
   |er C n=>exact absurd f Ay
   |ok ts=>rw[f]at d;obtain⟨j,t,rfl,g,r⟩:=AI a f;exact⟨j,rfl,⟨t,g _ h.fh⟩,d _ i m h (NG g r)⟩
 .exact d.elim
def Oa(g:MA K E tr fr):MI K E (JI K tr) (wG fr):=λF H h d R s V q=>by
 unfold wG at q;cases e:fr d with
 |bad=>rw[e]at q;exact q.elim
 |er C n=>rw[e]at q;exact⟨true,Cn g F H h d R s V (by unfold EC;rw[e];exact q)⟩
 |ok xs=>
  rw[e]at q;match xs,e,q with
  |[],_,q=>exact q.elim
  |[x],e,q=>refine⟨ui x,Cn g F H h d R s V ?_⟩;unfold EC;rw[e];have f:((seqT x).bind λi=>M.ok (rP i)).res (kI K F H R) (kE E F H):=q;rw[Eb x]at f;exact f
  |_::_::_,_,q=>exact q.elim
def OI{x1}(k:X.mg "enumerate" = none)(d:Eg K E X [a] tr fr)(f:X.K=K:=by rfl)(l:Gl X "enumerate" :=by rfl)(g:starEach [a] X.env=[(false,eval a X.env)]:=by rfl) :
  Ig K E X (.Tuple elts x1 tpos) (.Call (.Name "enumerate" p) [a] [] pos) (JI K tr) (wG fr):=by
 subst f;refine⟨λi s j H R I h=>?_,Oa d.ma⟩;obtain⟨b,h⟩:=h;exact Jf l k d.pa g i s j H R I h
end
structure Bs(mg:Str->Option Value):Prop where
 abs:mg "abs" = none
 isinstance:mg "isinstance" = none
 int:mg "int" = none
 bool:mg "bool" = none
 len:mg "len" = none
 range:mg "range" = none
 tuple:mg "tuple" = none
 list:mg "list" = none
 str:mg "str" = none
 all:mg "all" = none
 any:mg "any" = none
 sum:mg "sum" = none
 zip:mg "zip" = none
 max:mg "max" = none
 min:mg "min" = none
 enumerate:mg "enumerate" = none
 reversed:mg "reversed" = none
 set:mg "set" = none
 dict:mg "dict" = none
 sorted:mg "sorted" = none
def ou:bootBuiltins "list" = some (.type "list"):=by decide +kernel
def Qj:bootBuiltins "max" = some (.builtin "max"):=by decide +kernel
end L3
namespace L3
open PySem L2
section
variable {α:Type}
theorem zM enc f:∀(l:List α),(∀a∈l,k (enc a)=.ok (some (f a)))->qo k (l.map enc)=.ok (l.map f)
 |[],_=>rfl
 |a::l,h=>by rw[bJ,qo,h a (by simp),M.bind_ok,zM enc f l λb c=>h b (by simp[c])];rfl
theorem tJ enc f p:∀(l:List α),(∀a∈l,k (enc a)=.ok (if p a then some (f a) else none))->qo k (l.map enc)=.ok ((l.filter p).map f)
 |[],_=>rfl
 |a::l,h=>by
  rw[bJ,qo,h a (by simp),M.bind_ok,tJ enc f p l λb d=>h b (by simp[d])];by_cases c:p a=true
  .simp[c]
  .simp[c]
theorem ly enc (P:Nat->En->Prop):∀(l:List α) (k:Nat) (ρ:En),P k ρ->
  (∀i a ρ,l[i]? = some a->P (k+i) ρ->∃d c,m (enc a) ρ=some d/\(g d=.nx c\/g d=.ct c)/\P (k+i+1) c)->∃ρ',jY m g (l.map enc) ρ=.nx ρ'/\P (k+l.length) ρ'
 |[],k,ρ,h,_=>⟨ρ,rfl,h⟩
 |a::l,k,ρ,h,st=>by
  obtain⟨d,c,q,f,p⟩:=st 0 a ρ rfl h;obtain⟨ρ',e,o⟩:=ly enc P l (k+1) c p λi b ρ n j=>by have:=st (i+1) b ρ (by simpa using n) (by rw[show k+(i+1)=k+1+i by omega];exact j);rw[show k+1+i+1=k+(i+1)+1 by omega];exact this
  refine⟨ρ',?_,by rw[az,show k+(l.length+1)=k+1+l.length by omega];exact o⟩;rw[bJ,jY,q];rcases f with f|f<;>(dsimp only;rw[f];exact e)
theorem nL(P:En->Prop)(d:En->Nat)(R:En->Prop)(st:∀ρ,P ρ->(c (vw ρ)=.ok false/\R ρ)\/(c (vw ρ)=.ok true/\∃a,(g ρ=.nx a\/g ρ=.ct a)/\P a/\d a<d ρ)) :
  ∀n ρ,P ρ->d ρ<n->∃ρ',mD c g n ρ=.nx ρ'/\R ρ'
 |0,ρ,_,h=>absurd h (dM _)
 |n+1,ρ,hP,hn=>by
  rcases st ρ hP with⟨e,r⟩|⟨e,a,b,f,j⟩
  .exact⟨ρ,by rw[mD,e];rfl,r⟩
  .obtain⟨ρ',i,r⟩:=nL P d R st n a f (by omega);refine⟨ρ',?_,r⟩;rw[mD,e,O.of_ok,aR rfl];rcases b with b|b<;>(rw[b];exact i)
end
def A4{j:Type}(l:List j) enc f (n:fi ρ=.ok (l.map enc)) (e:l.length<sizeLine)
  (i:∀a∈l,∃b,m (enc a) (om ix ρ)=some b/\ft b=.ok true/\fe b=.ok (f a)):lB ix fi m ft fe ρ=.ok (l.map f):=by
 have h:=zM (k:=uc m ft fe (om ix ρ)) enc f l λa g=>by obtain⟨b,o,d,c⟩:=i a g;unfold uc;rw[o];dsimp only;rw[d,M.bind_ok,aR rfl,c];rfl
 unfold lB;rw[n,M.bind_ok,ax,aR e,h];rfl
theorem DT{j:Type}(l:List j) enc f p (o:fi ρ=.ok (l.map enc)) (e:l.length<sizeLine)
  (i:∀a∈l,∃b,m (enc a) (om ix ρ)=some b/\ft b=.ok (p a)/\(p a=true->fe b=.ok (f a))):lB ix fi m ft fe ρ=.ok ((l.filter p).map f):=by
 have h:=tJ (k:=uc m ft fe (om ix ρ)) enc f p l λa g=>by
  obtain⟨b,q,d,c⟩:=i a g;unfold uc;rw[q];dsimp only;rw[d,M.bind_ok];cases n:p a with
  |true=>rw[aR rfl,aR rfl,c n];rfl
  |false=>rw[aS aI,aS aI]
 unfold lB;rw[o,M.bind_ok,ax,aR e,h];rfl
def jX{e:Type}(l:List e) enc f (g:fi ρ=.ok (l.map enc)) (c:l.length<sizeLine)
  (d:∀a∈l,∃b,m (enc a) (om ix ρ)=some b/\ft b=.ok true/\fe b=.ok (f a)) (hr:l.map f=ts):lB ix fi m ft fe ρ=.ok ts:=by rw[<-hr];exact A4 l enc f g c d
def sH{e:Type}(l:List e) enc f p (g:fi ρ=.ok (l.map enc)) (c:l.length<sizeLine)
  (d:∀a∈l,∃b,m (enc a) (om ix ρ)=some b/\ft b=.ok (p a)/\(p a=true->fe b=.ok (f a))) (hr:(l.filter p).map f=ts):lB ix fi m ft fe ρ=.ok ts:=by rw[<-hr];exact DT l enc f p g c d
def Tc lo n:Ah lo n=(List.range n).map λ(i:Nat)=>T.int (lo+(i:Int)):=rfl
noncomputable def tI(a:LI):T:=.tup (a.map T.int)
def A3(l:List α)(i:Int)(c:0<=i)(b:i<l.length):∃a,qx l i=some a/\a∈l:=by
 unfold qx wW;rw[aR c,aR b];have d:i.toNat<l.length:=by omega
 exact⟨l[i.toNat],by simp[d],aW _⟩
def lq(h:PySem.IntMulOk i j):mU (.int i) (.int j)=.ok (.int (i*j)):=by simp[mU,l4,h]
def qC(h:j≠0)(a:Builtin.divisionGoesByPylong i j=false):vk (.int i) (.int j)=.ok (.int (i.fdiv j)):=by simp[vk,l4,h,a]
def rg(h:j≠0):uh (.int i) (.int j)=.ok (.int (i.fmod j)):=by simp[uh,l4,h]
@[simp] theorem jj i j:jw (.int i) (.int j)=.ok (.int (i+j)):=rfl
@[simp] theorem nV i j:qh (.int i) (.int j)=.ok (.int (i-j)):=rfl
@[simp] theorem Ft i j:PB (.int i) (.int j)=.ok (.bl (decide (i<j))):=rfl
@[simp] theorem UN i j:Ut (.int i) (.int j)=.ok (.bl (decide (i<=j))):=rfl
@[simp] theorem UJ i j:Ir (.int i) (.int j)=.ok (.bl (decide (j<i))):=rfl
@[simp] theorem Oh i j:S3 (.int i) (.int j)=.ok (.bl (decide (j<=i))):=rfl
@[simp] theorem iT i j:iM false (.int i) (.int j)=.ok (.bl (i==j)):=by simp[iM,rM,tU]
@[simp] theorem qQ i j:iM true (.int i) (.int j)=.ok (.bl (!(i==j))):=by simp[iM,rM,tU]
def GX(h:i.natAbs<2 ^ 64):PySem.IntMulOk i j:=IntMulOk.of_left (PyProof.Rows.intBits_le h)
def Bn(n:Nat)(x:Int):Prop:=x.natAbs<2 ^ n
def Bn.mono(h:Bn m x)(a:m<=n):Bn n x:=aF h (eG (by decide) a)
def Bn.mul(h:Bn m x)(h':Bn n y):Bn (m+n) (x*y):=by unfold Bn at *;rw[aZ,Nat.pow_add];exact Nat.mul_lt_mul'' h h'
def Bn.add(h:Bn m x)(h':Bn n y):Bn (max m n+1) (x+y):=by have a:Bn (max m n) x:=h.mono (Nat.le_max_left _ _);have b:Bn (max m n) y:=h'.mono (Nat.le_max_right _ _);unfold Bn at *;rw[eI];have:=eJ x y;omega
def Bn.neg(h:Bn m x):Bn m (-x):=by unfold Bn at *;rw[Int.natAbs_neg];exact h
def Bn.sub(h:Bn m x)(h':Bn n y):Bn (max m n+1) (x-y):=by rw[eK];exact h.add h'.neg
def Bn.ok(h:Bn m x)(h':Bn n y)(a:m<=2 ^ 20)(b:n<=2 ^ 20):PySem.IntMulOk x y:=IntMulOk.of_bits (aO (PyProof.Rows.intBits_le h) a) (aO (PyProof.Rows.intBits_le h') b)
def Bn.noPy(h:Bn n y)(a:n<=8000):Builtin.divisionGoesByPylong x y=false:=Cu.noPy (PyProof.Rows.intBits_le h) a
section
variable {a b g:En->O}{ρ ρ':En}{r:O}{fc:Pe->M Bool}{f:Pe->M T}{ff:Pe->M (List T)}{t:T}{ts:List T}{k n i:Nat}
def gY(c:a ρ=.nx ρ')(d:b ρ'=r):iD a b ρ=r:=by unfold iD;rw[c];exact d
def k9(c:a ρ=.rt t)(hr:.rt t=r):iD a b ρ=r:=by unfold iD;rw[c];exact hr
def jF(h:fc (vw ρ)=.ok true)(c:a ρ=r):pW fc a b ρ=r:=by unfold pW;rw[h];exact c
def jM(h:fc (vw ρ)=.ok false)(c:b ρ=r):pW fc a b ρ=r:=by unfold pW;rw[h];exact c
def iw(h:f (kP ρ)=.ok t)(hr:ρ'=ρ.set i (some (.p t))):setO i (kn f) ρ=.nx ρ':=by unfold setO kn;rw[h,hr];rfl
def OY(h:f (vw ρ)=.ok t)(c:lf t=true)(hr:ρ'=ρ.set i (some (.p t))):setO i (vK f) ρ=.nx ρ':=by unfold setO vK;rw[h,hr];simp[c]
def nC(h:ff (kP ρ)=.ok ts)(hr:ρ'=ρ.set i (some (.o ts))):n5 i (qt ff) ρ=.nx ρ':=by unfold n5 qt;rw[h,hr];rfl
def Nr(h:ff (vw ρ)=.ok ts)(c:Ew ts=true)(hr:ρ'=ρ.set i (some (.o ts))):n5 i (uA ff) ρ=.nx ρ':=by unfold n5 uA;rw[h,hr];simp[c]
def Fk(h:ff (vw ρ)=.ok ts)(c:Ew ts=true)(hr:ρ'=ρ.set i (some (.p (.lst ts)))):zv i (uA ff) ρ=.nx ρ':=by unfold zv uA;rw[h,hr];simp[c]
def sr(d:ρ[i]? = some (some (.o us)))(h:f (kP ρ)=.ok t)(c:us.length<sizeLine)(hr:ρ'=ρ.set i (some (.o (us++[t])))):tY i (kn f) ρ=.nx ρ':=by unfold tY kn rZ;rw[d,h,hr];simp[c]
def DI(d:ρ[i]? = some (some (.o us)))(h:f (vw ρ)=.ok t)(c:lf t=true)(l:fk (vw ρ)=.ok (.int j))(e:wW us.length j=some m)(hr:ρ'=ρ.set i (some (.o (us.set m t)))):yh i (vK fk) (vK f) ρ=.nx ρ':=by unfold yh vK rZ;rw[d,h,l,hr];simp[c,e]
def iE(h:f (vw ρ)=.ok t):jg f ρ=.rt t:=by unfold jg;rw[h];rfl
def Az(h:ff (vw ρ)=.ok ts):xO ff ρ=.rf ts:=by unfold xO;rw[h];rfl
def mw(h:fi (kP ρ)=.ok its)(c:jY m g its ρ=r):vE fi m g ρ=r:=by unfold vE;rw[h];exact c
def qW(h:fi (vw ρ)=.ok its)(c:jY m g its ρ=r):u0 fi m g ρ=r:=by unfold u0;rw[h];exact c
def GS(e:ρ[j]? = some (some (.o us)))(h:GH j us (jY m g us (ρ.set j none))=r):rh j m g ρ=r:=by unfold rh;rw[e];exact h
def iU(c:ts.length=k)(h:g (iW n ts)=.rt t):nY k n g ts=.ok t:=by unfold nY;rw[aR c,h];rfl
def JF(c:ts.length=k)(h:g (iW n ts)=.rf us):AM k n g ts=.ok us:=by unfold AM;rw[aR c,h];rfl
end
def Oj n:Ah 0 n=(List.range n).map λ(i:Nat)=>T.int (i:Int):=by simp[Ah]
theorem qA{c:Type} f:∀(l:List c),(∀a∈l,rM (f a)=true)->sL (l.map f)=true
 |[],_=>rfl
 |a::l,h=>by rw[bJ,sL,h a (by simp),qA f l λb d=>h b (by simp[d])];rfl
theorem qN{d:Type} f n:∀(l:List d),(∀a∈l,EO (f a)<=n)->s9 (l.map f)<=n
 |[],_=>bL _
 |a::l,h=>by rw[bJ,HL];have e:=h a (by simp);have g:=qN f n l λb c=>h b (by simp[c]);omega
@[simp] theorem SF(a:LI):sL (a.map T.int)=true:=qA _ _ λ_ _=>rfl
def uG(a:LI):s9 (a.map T.int)<=0:=qN _ _ _ λ_ _=>aL _
@[simp] theorem QI ns:rM (tI ns)=true:=by simp[tI,rM]
def Ri ns:EO (tI ns)<=1:=by unfold tI;rw[Nf];have:=uG ns;omega
@[simp] theorem Kg(l:LL):sL (l.map tI)=true:=qA _ _ λ_ _=>QI _
def wY(l:LL):s9 (l.map tI)<=1:=qN _ _ _ λ_ _=>Ri _
@[simp] theorem Io l:xI l []=l.isEmpty:=by cases l<;>rfl
theorem C9{d:Type} f (c:∀a b,Dt (f a) (f b)=true↔a=b):∀(l m:List d),xI (l.map f) (m.map f)=true↔l=m
 |[],[]=>by simp[uJ]
 |[],b::m=>⟨λz=>(nomatch (show false=true from z)),λz=>nomatch z⟩
 |a::l,[]=>by simp[uJ]
 |a::l,b::m=>by rw[bJ,bJ,uJ,bT,c a b,C9 f c l m];simp
def yP(l m:LI):xI (l.map T.int) (m.map T.int)=decide (l=m):=by
 have h:=C9 T.int (λa b=>by simp[tU]) l m;by_cases e:l=m
 .rw[aC e];exact h.mpr e
 .rw[aB e];cases c:xI (l.map T.int) (m.map T.int) with
  |false=>rfl
  |true=>exact absurd (h.mp c) e
def R7 neg (l m:LI):iM neg (.tup (l.map T.int)) (.tup (m.map T.int))=.ok (.bl (if neg then !decide (l=m) else decide (l=m))):=by have h:=uG l;unfold iM;rw[aR (by simp[rM];omega),tU,yP]
def DP neg (l m:LI):iM neg (.lst (l.map T.int)) (.lst (m.map T.int))=.ok (.bl (if neg then !decide (l=m) else decide (l=m))):=by have h:=uG l;unfold iM;rw[aR (by simp[rM];omega),FZ,yP]
def vQ neg ts (h:sL ts=true) (a:s9 ts<=90):iM neg (.lst ts) (.lst [])=.ok (.bl (if neg then !ts.isEmpty else ts.isEmpty)):=by unfold iM;rw[aR (by simp[rM,h,sL];omega),FZ,Io]
def Li{b a:Type} f (g:a->T) (l:List b) m:tj (l.map f) (m.map g)=(l.zip m).map λp=>T.tup [f p.1,g p.2]:=by unfold tj;rw[List.zip_map,aJ];rfl
theorem Gn{c:Type} f:∀(l:List c),(∀a∈l,lf (f a)=true)->Ew (l.map f)=true
 |[],_=>rfl
 |a::l,h=>by rw[bJ,Ew,h a (by simp),Gn f l λb d=>h b (by simp[d])];rfl
@[simp] theorem wR(a:LI):Ew (a.map T.int)=true:=Gn _ _ λ_ _=>rfl
@[simp] theorem Th ns:lf (tI ns)=true:=by simp[tI]
section
variable {α:Type}{fe fd fl:Pe->M T}{ρ:Pe}{ts:List T}{d k:Nat}
def zf(l:List α)(d:Nat):pG l none (some (d:Int))=l.take d:=by
 unfold pG;rw[HT.sIx_none,HT.sIx_nat,List.drop_zero,Nat.sub_zero];by_cases h:d<=l.length
 .rw[dJ h]
 .rw[Nat.min_eq_right (by omega),cG (aL _),cG (by omega)]
def zw(l:List α)(d:Nat):pG l (some (d:Int)) none=l.drop d:=by
 unfold pG;rw[HT.sIx_none,HT.sIx_nat];by_cases h:d<=l.length
 .rw[dJ h,cG (by simp)]
 .rw[Nat.min_eq_right (by omega),eL (aL _),eL (by omega),List.take_nil]
def Qi n d:HT.sIx n d (some (-1))=n-1:=by unfold HT.sIx;dsimp only;rw[aR (by decide)];omega
def zO(l:List α):pG l none (some (-1))=l.dropLast:=by unfold pG;rw[HT.sIx_none,Qi,List.drop_zero,Nat.sub_zero,eM]
def tP(h:fe ρ=.ok (.tup ts))(a:fd ρ=.ok (.int (d:Int)))(b:d<=ts.length):kR fe (λ_=>.ok none) (ju fd) ρ=.ok (.tup (ts.take d)):=by simp only[kR,ju,h,a,M.bind_ok,zf]
def zZ(h:fe ρ=.ok (.lst ts))(a:fd ρ=.ok (.int (d:Int))):kR fe (λ_=>.ok none) (ju fd) ρ=.ok (.lst (ts.take d)):=by simp only[kR,ju,h,a,M.bind_ok,zf]
def LG(h:fe ρ=.ok (.tup ts))(a:ts≠[]):kR fe (λ_=>.ok none) (ju (xV (λi=>.int (-i)) (cM (.int 1)))) ρ=.ok (.tup ts.dropLast):=by have e:ju (xV (λi=>.int (-i)) (cM (.int 1))) ρ=.ok (some (-1)):=rfl;simp only[kR,h,e,M.bind_ok,zO]
def KI(h:fe ρ=.ok (.tup ts))(a:fd ρ=.ok (.int (d:Int)))(b:0<d)(c:ts≠[]):kR fe (ju fd) (λ_=>.ok none) ρ=.ok (.tup (ts.drop d)):=by simp only[kR,ju,h,a,M.bind_ok,zw]
def uy(h:fe ρ=.ok (.lst ts))(a:fd ρ=.ok (.int (d:Int))):kR fe (ju fd) (λ_=>.ok none) ρ=.ok (.lst (ts.drop d)):=by simp only[kR,ju,h,a,M.bind_ok,zw]
def qq(h:lc ρ=.ok ts)(hr:o [.lst ts]=r):kv o (gQ (jy lc) gW) ρ=r:=by simp only[kv,gQ,gW,jy,h,M.bind_ok];exact hr
def lY(h:f ρ=.ok t)(hr:o [t]=r):kv o (gQ f gW) ρ=r:=by simp only[kv,gQ,gW,h,M.bind_ok];exact hr
def jo(h:lc ρ=.ok ts):jy lc ρ=.ok (.lst ts):=by simp only[jy,h,M.bind_ok]
def Ik(h:fe ρ=.ok (.tup ts)):jK fe ρ=.ok ts:=by simp only[jK,h,M.bind_ok]
def wu(h:fe ρ=.ok (.lst ts)):jK fe ρ=.ok ts:=by simp only[jK,h,M.bind_ok]
def iN(h:fe ρ=.ok (.bl b)):jl fe ρ=.ok b:=by simp only[jl,h,M.bind_ok]
def sR(h:fc ρ=.ok b)(hr:(!b)=r):L3.oK fc ρ=.ok r:=by simp only[L3.oK,h,M.bind_ok,hr]
def gZ(a:fa ρ=.ok x)(b:fb ρ=.ok y)(hr:o x y=r):ig o fa fb ρ=r:=by simp only[ig,a,b,M.bind_ok];exact hr
def qe(h:f ρ=.ok x)(hr:F [x]=.ok t):hZ (gQ f gW) F ρ=.ok t:=by simp only[hZ,gQ,gW,h,hr,M.bind_ok];rfl
def lE(h:f ρ=.ok x)(a:g ρ=.ok y)(hr:F [x,y]=.ok t):hZ (gQ f (gQ g gW)) F ρ=.ok t:=by simp only[hZ,gQ,gW,h,a,hr,M.bind_ok];rfl
def mV{f g k:Pe->M T}(h:f ρ=.ok x)(b:g ρ=.ok y)(a:k ρ=.ok z)(hr:F [x,y,z]=.ok t):hZ (gQ f (gQ g (gQ k gW))) F ρ=.ok t:=by simp only[hZ,gQ,gW,h,b,a,hr,M.bind_ok];rfl
def Tt{f g k l:Pe->M T}(h:f ρ=.ok x)(c:g ρ=.ok y)(a:k ρ=.ok z)(b:l ρ=.ok u)(hr:F [x,y,z,u]=.ok t):hZ (gQ f (gQ g (gQ k (gQ l gW)))) F ρ=.ok t:=by simp only[hZ,gQ,gW,h,c,a,b,hr,M.bind_ok];rfl
end
section
variable {ρ:Pe}{ts:List T}{F:List T->M (List T)}{f g k l:Pe->M T}{x y z u:T}
def sS(h:f ρ=.ok x)(hr:F [x]=.ok ts):kL (gQ f gW) F ρ=.ok ts:=by simp only[kL,gQ,gW,h,hr,M.bind_ok];rfl
def Qo(h:f ρ=.ok x)(b:g ρ=.ok y)(a:k ρ=.ok z)(hr:F [x,y,z]=.ok ts):kL (gQ f (gQ g (gQ k gW))) F ρ=.ok ts:=by simp only[kL,gQ,gW,h,b,a,hr,M.bind_ok];rfl
end
def uV{b a:Type}{l:List b}{m:List a}{f:b->T}{g:a->T}(e:fa ρ=.ok x)(h:seqT x=.ok (l.map f))(c:fb ρ=.ok y)(d:seqT y=.ok (m.map g)) :
  n0 (gQ fa (gQ fb gW)) ρ=.ok ((l.zip m).map λp=>T.tup [f p.1,g p.2]):=by
 rw[<-Li];simp only[n0,gQ,gW,e,c,M.bind_ok,h,d]
end L3
namespace L3
open PySem L2 PySem.Spec PyProof.Rows
def LZ(K:W.Frag):Sp:=λc H Q _=>∃(a:Addr) (b:LI),c=[.ref a]/\lS K H a (b.map V.int)/\b.length<=63/\(∀z∈b,Builtin.Int.intBits z<=2 ^ 20)/\∀d,Q (.bl true) d
def IV{K:W.Frag}(h:∀b:LI,b.length<=63->(∀z∈b,Builtin.Int.intBits z<=2 ^ 20)->F [.scr b]=.ok (.bl true)) vs H Q E (z:LZ K vs H Q E):xU K F vs H Q E:=by obtain⟨a,b,rfl,c,e,d,f⟩:=z;refine⟨[.scr b],H,.refl _,.cons (.scr c) .nil,?_⟩;rw[h b e d];intro v i j g r;cases r;exact f _
def UY{K:W.Frag}{st:Stmt}(F:Mn K x x st f fd)(S:i8 N ps (g9 st))
  (c:∀(f:Addr) (b:Value) (A:Around) (a:List Env) (s:Shared) (H:Hp) (E:XK),ji k (A.deeper (envOfC x (g9 st) s.heap.objs.size f b))->∃t,qg K E (ny sh P w K mg base N x (g9 st) f b A a s H E).nox (iQ st) t g) :
  nM P w K mg base sh (k+1) f fd ps (xU K (nY ps.length N.length g)):=
 F.ok S (λd H Q E h=>Ef h) λb A a s H d Q E hr h=>let ⟨t,hp⟩:=c f b A a s H E hr;⟨t,hp.ps,Ba hp.ms h⟩
end L3
namespace L3
open PySem L2 PySem.Spec PyProof.Rows
section
variable {K:W.Frag}{E:XK}{t:TE}{f:Pe->M T}
def kO(K:W.Frag)(F H:Hp)(x:Addr)(Q:VK)(t:T):Prop:=∀b c,iq F b->iq b c->(∀a o,a≠x->H a=some o->Ih o (c a))->(∀a,b a≠none->F a≠none\/H a=none\/a=x\/∃d,H a=some (.tup d))->kU K b (.ref x) t->Q .non c
noncomputable def Ec(K:W.Frag)(C:Addr)(d:List T->M T):Sp:=λe H Q _=>∃x g b c a,e=.ref x::b/\H x=some (.ins C g [])/\a x=none/\iq a H/\iB K a b c/\(d c).noEr.res (kO K a H x Q) (λ_ _=>False)
def KQ{D:Pe->M (List T)}(U:MA K E tr D):ME K E (FU C (Ec K C Fn) [] E' tr) (hZ D Fn):=λF H σ ρ Q s V q=>by
 refine U.run s V q λI N L u g R i=>?_;intro x m j v w;have B:ja u m (.own x) x=none:=by rw[hU (λz=>w z.symm)];exact j
 have l:iq u (ja (ja u m (.own x)) x (.ins C m [])):=(uW v).trans (uW B);refine⟨x,m,N,I,L,by rw[bM],hC,iF g.fh j,g.fh.trans l,R,?_⟩;cases e:Fn I with
 |bad=>rw[e]at i;exact i.elim
 |er C n=>rw[e]at i;exact i.elim
 |ok t=>
  rw[e]at i;intro Z X a b c d r;refine⟨rfl,i (.ref x) Z X ⟨g.ff.trans a,b,λp o h=>?_,λp P=>?_⟩ r⟩
  .have S:=g.hh p o h;have A:p≠x:=wI S j;exact P8 (g.hh.trans l p o h) λY e=>c p Y A e
  .rcases d p P with z|z|z|⟨J,z⟩
   .exact g.nw p z
   .exact .inr (.inl (iF g.hh (iF l z)))
   .rw[z];exact .inr (.inl (iF g.hh j))
   .cases y:H p with
    |none=>exact .inr (.inl rfl)
    |some o=>exact .inr (.inr ⟨J,by have k:=g.hh.trans l p o y;rw[z]at k;rw[yF k λ_ _ y=>nomatch y]⟩)
noncomputable def zr(C:Addr)(n:Nat)(h g:Str)(d e:Pe->M T):List T->M T:=λc=>if c.length=n then (d (none::c.map some)).bind λa=>(e (none::c.map some)).bind λb=>.ok (.obj C [(h,a),(g,b)]) else .bad
structure U6(K:W.Frag)(E:XK)(X:Cx)(body:List Stmt)(f1 f2:Str)(g1 g2:Pe->M T):Prop where
 ex:∃(t1 t2:TE),Bg X body (AG (Sw K (mv 0) t1 f1) (Sw K (mv 0) t2 f2))/\ME K E t1 g1/\ME K E t2 g2
def Vk(h:X.K=K)(b:PE X o1 (mv 0))(e:Pm K E X a1 t1 g1)(a:PE X o2 (mv 0))(g:Pm K E X a2 t2 g2)
  (c:swapsWith a1 (some (.Attribute o1 f1 p1)) q1.line X.env=pure false:=by rfl) (d:swapsWith a2 (some (.Attribute o2 f2 p2)) q2.line X.env=pure false:=by rfl) :
  U6 K E X [.Assign [.Attribute o1 f1 p1] a1 q1,.Assign [.Attribute o2 f2 p2] a2 q2] f1 f2 g1 g2:=by
 subst h;exact⟨t1,t2,ph (IM b e.pe c) (pI (IM a g.pe d)),e.me,g.me⟩
theorem QP{st:Stmt}(cl:zV K C)(n1:md K C f1)(n2:md K C f2)(ne:f1≠f2)(D:mm K C "__init__" qual st)(S:i8 N N (g9 st))
  (mk:W.makesIn K C=true) (kp:W.keepIn K (.ref C)=true) (hm:mg x=some (.ref C)) (hN:N.length=n+1)
  (hb:∀(kV doc pm:Value) (an:Option Addr) (j ct:Value) (us:List Value),us.length=N.length->bindArgs (W.fnOf "__init__" qual (jU st) (iQ st) (g9 st) .none kV doc pm an j ct) ⟨us,[]⟩=pure (N.zip us))
  (hT:∀(f:Addr) (j:Value) (A:Around) (g:List Env) (s:Shared) (H:Hp) (E:XK),ji k (A.deeper (envOfC qual (g9 st) s.heap.objs.size f j))->U6 K E (ny sh P w K mg base N qual (g9 st) f j A g s H E).nox (iQ st) f1 f2 g1 g2) :
  HK P w K mg base x C (k+1) (Ec K C (zr C n f1 f2 g1 g2)):=by
 obtain⟨fi,fd,F,Mm⟩:=D.ex;refine⟨⟨fi,fd,N,F.ok S (λvs H Q E h=>?_) (λj A g s H vs Q E hr h=>?_),⟨mk,Mm.at_,Mm.fn,kp⟩,F.binds hb⟩,hm⟩
 .obtain⟨x,B,us,u,F0,rfl,U,fx,s,r,q⟩:=h;unfold zr at q;by_cases L:u.length=n
  .rw[az,r.length,L,hN]
  .rw[aS L]at q;exact q.elim
 .obtain⟨x,B,us,u,F0,rfl,U,fx,s0,r,q⟩:=h;obtain⟨t1,t2,ps,m1,m2⟩:=(hT fi j A g s H E hr).ex;refine⟨_,ps,?_⟩;unfold zr at q;by_cases L:u.length=n
  .rw[aR L]at q;have V:lQ K F0 (lK N (.ref x::us)) (none::u.map some):=λi t e=>by
    cases i with
    |zero=>cases e
    |succ i=>
     rw[List.getElem?_cons_succ,aw]at e;cases hq:u[i]? with
     |none=>rw[hq]at e;cases e
     |some y=>rw[hq]at e;cases e;obtain⟨v,a,b⟩:=r.get hq;refine⟨v,?_,b⟩;unfold L2.lK;rw[List.getElem?_append_left (by rw[ax,az];exact Nat.succ_lt_succ (aa.mp a).1),aw,List.getElem?_cons_succ,a];rfl
   cases Y:g1 (none::u.map some) with
   |bad=>rw[Y]at q;exact q.elim
   |er C n=>rw[Y]at q;exact q.elim
   |ok a=>
    rw[Y,L3.M.bind_ok]at q;cases X:g2 (none::u.map some) with
    |bad=>rw[X]at q;exact q.elim
    |er C n=>rw[X]at q;exact q.elim
    |ok b=>
     rw[X,L3.M.bind_ok]at q;refine m1 F0 H _ _ _ s0 V ?_;rw[Y];intro v R H1 c r1;have hx1:=c.hh _ _ U;have J:R x=none:=by
      cases z:R x with
      |none=>rfl
      |some o=>
       rcases c.nw x (by rw[z];exact λy=>nomatch y) with y|y|⟨_,y⟩
       .exact absurd fx y
       .rw[U]at y;cases y
       .rw[U]at y;cases y
     refine⟨.ref x,rfl,x,C,B,[],rfl,hx1,cl,n1,by decide,?_⟩;have s1:iq R (ja H1 x (.ins C B (qj f1 v []))):=λp o h=>by
      have l:p≠x:=λz=>by rw[z,J]at h;cases h
      rw[hU l];exact c.fh p o h
     refine m2 R _ _ _ _ s1 (V.mono c.ff) ?_;rw[X];intro Z I H3 d r2;have hx3:=d.hh x _ hC;have fx2:I x=none:=by
      cases z:I x with
      |none=>rfl
      |some o=>
       rcases d.nw x (by rw[z];exact λy=>nomatch y) with y|y|⟨_,y⟩
       .exact absurd J y
       .rw[hC]at y;cases y
       .rw[hC]at y;cases y
     refine⟨.ref x,rfl,x,C,B,_,rfl,hx3,cl,n2,by show 1<1000;decide,?_⟩;have ep:qj f2 Z (qj f1 v [])=[(f1,v),(f2,Z)]:=by show (if f1=f2 then _ else _)=_;rw[aS ne];rfl
     have sF:iq I (ja I x (.ins C B [(f1,v),(f2,Z)])):=uW fx2;refine q (ja I x (.ins C B [(f1,v),(f2,Z)])) _ ((c.ff.trans d.ff).trans sF) (λp o h=>?_) (λp o l h=>?_) (λp l=>?_) (.obj hC (.cons (r1.mono (d.ff.trans sF)) (.cons (r2.mono sF) .nil)))
     .by_cases l:p=x
      .subst l;rw[hC]at h;rw[hC,ep];exact .of h
      .rw[hU l]at h ⊢;exact d.fh p o h
     .rw[hU l];exact P8 (c.hh p o h) λo' e=>d.hh p o' (by rw[hU l];exact e)
     .by_cases m:p=x
      .exact .inr (.inr (.inl m))
      .rw[hU m]at l;rcases d.nw p l with z|z|⟨xs,z⟩
       .rcases c.nw p z with y|y|y
        .exact .inl y
        .exact .inr (.inl y)
        .exact .inr (.inr (.inr y))
       .rw[hU m]at z;exact .inr (.inl (iF c.hh z))
       .rw[hU m]at z;cases y:H p with
        |none=>exact .inr (.inl rfl)
        |some o=>exact .inr (.inr (.inr ⟨xs,by have k:=c.hh p o y;rw[z]at k;rw[yF k λ_ _ y=>nomatch y]⟩))
  .rw[aS L]at q;exact q.elim
end
section
variable {X:Cx}{K:W.Frag}{E:XK}{x m:Str}{C:Addr}{k:Nat}{Fn:List T->M T}{Ff:List T->M (List T)}{e o:Expr}{es:List Expr}{tr:TA}{fr:Pe->M (List T)}{ta:TE}{fa:Pe->M T}{p pos apos:Pos}
def Tv(h:HK X.prog X.w X.K X.mg X.base x C j (Ec K C Fn))(hr:ji k X.A)(c:Eg K E X (e::es) tr fr)(f:j+1<=k:=by decide)(g:Gl X x:=by rfl)
  (a:(x==("__debug__" : Str))=false:=by decide) (d:starEach (e::es) X.env=(false,eval e X.env)::starEach es X.env:=by rfl) (b:(backTo pos (starEach es X.env)).any (·.1)=false:=by rfl) :
  Pm K E X (.Call (.Name x p) (e::es) [] pos) (FU C (Ec K C Fn) [] E0 tr) (hZ fr Fn):=⟨Tz h (hr.mono f) c.pa g a d b,KQ c.ma⟩
def Ad(h:lP X.prog X.w X.K X.mg X.base C m j (xU K Fn))(hr:ji k X.A)(a:Pm K E X o ta fa)(c:j<=k:=by decide)
  (b:eval (.Call (.Attribute o m apos) [] [] pos) X.env=(do
   let ov <-eval o X.env
   standAt apos.atName
   let (f,first) <-holding [ov] (getMethod ov m pl)
   callWith pos f first (backTo pos (starEach [] X.env)) (backToKw pos (keywordEach [] X.env))):=by rfl) :
  Pm K E X (.Call (.Attribute o m apos) [] [] pos) (zP C m (xU K Fn) [] E0 ta uO) (qP C m fa gW Fn):=⟨IZ h (hr.mono c) a.pe b,J9 a.me DX⟩
def Kw(h:lP X.prog X.w X.K X.mg X.base C m j (Cq K Ff))(hr:ji k X.A)(a:Pm K E X o ta fa)(c:j<=k:=by decide)
  (b:eval (.Call (.Attribute o m apos) [] [] pos) X.env=(do
   let ov <-eval o X.env
   standAt apos.atName
   let (f,first) <-holding [ov] (getMethod ov m pl)
   callWith pos f first (backTo pos (starEach [] X.env)) (backToKw pos (keywordEach [] X.env))):=by rfl) :
  GQ K E X (.Call (.Attribute o m apos) [] [] pos) (zP C m (Cq K Ff) [] E0 ta uO) (sV C m fa gW Ff):=⟨IZ h (hr.mono c) a.pe b,J7 a.me DX⟩
def Kx(a:X.K=K)(c:zV K C)(na:md K C f)(h:Pm K E X e ta fa)(b:attributeBase e f X.env (eval e X.env)=eval e X.env:=by rfl):Pm K E X (.Attribute e f pos) (Qg X.K ta f) (Ej C f fa):=by subst a;exact⟨RZ h.pe b,Sf c na h.me⟩
end
section
variable {P:Program}{w:World}{K:W.Frag}{mg:Str->Option Value}{base:Heap}{C:Addr}{m qual:Str}{st:Stmt}{N ps:List Str}{k:Nat}{g:En->O}
def T5(o:zV K C)(D:mm K C m qual st)(S:i8 N ps (g9 st))
  (d:∀(kV c i:Value) (n:Option Addr) (b j:Value) (us:List Value),us.length=ps.length->bindArgs (W.fnOf m qual (jU st) (iQ st) (g9 st) .none kV c i n b j) ⟨us,[]⟩=pure (ps.zip us))
  (l:∀(f:Addr) (b:Value) (A:Around) (a:List Env) (s:Shared) (H:Hp) (E:XK),ji k (A.deeper (envOfC qual (g9 st) s.heap.objs.size f b))->∃t,qg K E (ny sh P w K mg base N qual (g9 st) f b A a s H E).nox (iQ st) t g) :
  lP P w K mg base C m (k+1) (xU K (nY ps.length N.length g)):=
 FA o D S d (λe H Q E h=>Ef h) λf b A a s H e Q E hr h=>let ⟨t,hp⟩:=l f b A a s H E hr;⟨t,hp.ps,Ba hp.ms h⟩
def SX(o:zV K C)(D:mm K C m qual st)(S:i8 N ps (g9 st))
  (d:∀(kV c i:Value) (n:Option Addr) (b j:Value) (us:List Value),us.length=ps.length->bindArgs (W.fnOf m qual (jU st) (iQ st) (g9 st) .none kV c i n b j) ⟨us,[]⟩=pure (ps.zip us))
  (l:∀(f:Addr) (b:Value) (A:Around) (a:List Env) (s:Shared) (H:Hp) (E:XK),ji k (A.deeper (envOfC qual (g9 st) s.heap.objs.size f b))->∃t,qg K E (ny sh P w K mg base N qual (g9 st) f b A a s H E).nox (iQ st) t g) :
  lP P w K mg base C m (k+1) (Cq K (AM ps.length N.length g)):=
 FA o D S d (λe H Q E h=>Ai h) λf b A a s H e Q E hr h=>let ⟨t,hp⟩:=l f b A a s H E hr;⟨t,hp.ps,wQ hp.ms h⟩
end
end L3
namespace L3
open PySem L2 PySem.Spec PyProof.Rows
def Rm:Nat->(List Value->Prop)->Prop
 |0,P=>P []
 |k+1,P=>∀v,Rm k λus=>P (v::us)
theorem oq:∀{k} {P},Rm k P->∀us:List Value,us.length=k->P us
 |0,_,h,[],_=>h
 |k+1,_,h,v::us,e=>oq (h v) us (by simpa using e)
def TJ(X:Cx):Prop:=∀x,X.env.scope.names.lookup x=some .cell->∃c,X.env.cells.lookup x=some c
structure Zx(P:Program)(w:World)(K:W.Frag)(mg:Str->Option Value)(base:Heap):Prop where
 here:True
section
variable {P:Program}{w:World}{K:W.Frag}{mg:Str->Option Value}{base:Heap}
noncomputable abbrev CP(_:Zx P w K mg base)(x:Str)(k:Nat)(F:List T->M T):Prop:=lI P w K mg base x k (xU K F)
noncomputable abbrev CF(_:Zx P w K mg base)(x:Str)(k:Nat)(F:List T->M (List T)):Prop:=lI P w K mg base x k (Cq K F)
end
section
variable {P:Program}{w:World}{K:W.Frag}{mg:Str->Option Value}{base:Heap}{x m qual:Str}{C:Addr}{st:Stmt}{g:En->O}
noncomputable abbrev Ub(P:Program)(w:World)(K:W.Frag)(mg:Str->Option Value)(base:Heap)(k:Nat)(qual:Str)(st:Stmt)(N:List Str)(g:En->O):Prop:=∀{f:Addr} {cdv:Value} {A:Around} {outer:List Env} {s:Shared} {H:Hp} {E:XK},N.Nodup->TJ (ny sh P w K mg base N qual (g9 st) f cdv A outer s H E).nox->ji k (A.deeper (envOfC qual (g9 st) s.heap.objs.size f cdv))->∃t,qg K E (ny sh P w K mg base N qual (g9 st) f cdv A outer s H E).nox (iQ st) t g
abbrev Sn(x qual:Str)(st:Stmt)(ps:List Str):Prop:=∀(kV doc pm:Value) (an:Option Addr) (cdv ct:Value),Rm ps.length λus=>bindArgs (W.fnOf x qual (jU st) (iQ st) (g9 st) .none kV doc pm an cdv ct) ⟨us,[]⟩=pure (ps.zip us)
def lX(_:Zx P w K mg base) k F N ps (e:F=nY ps.length N.length g) (D:iu K mg x st) (i:Ub P w K mg base k x st N g) (S:i8 N ps (g9 st):=by constructor<;>first|rfl|decide +kernel)
  (j:Sn x x st ps:=by first|exact λ_ _ _ _ _ _ _ _=>rfl|exact λ_ _ _ _ _ _ _=>rfl|exact λ_ _ _ _ _ _ _ _ _=>rfl|exact λ_ _ _ _ _ _ _ _ _ _=>rfl|exact λ_ _ _ _ _ _ _ _ _ _ _=>rfl|exact λ_ _ _ _ _ _=>rfl) :
  lI P w K mg base x (k+1) (xU K F):=e▸Vg D S (λa b c d e f l n=>oq (j a b c d e f) l n) λ_ _ _ _ _ _ _ r=>i S.nd (λ_ h=>mQ h) r
def Gd(_:Zx P w K mg base) k F N ps (e:F=AM ps.length N.length g) (D:iu K mg x st) (i:Ub P w K mg base k x st N g) (S:i8 N ps (g9 st):=by constructor<;>first|rfl|decide +kernel)
  (j:Sn x x st ps:=by first|exact λ_ _ _ _ _ _ _ _=>rfl|exact λ_ _ _ _ _ _ _=>rfl|exact λ_ _ _ _ _ _ _ _ _=>rfl|exact λ_ _ _ _ _ _ _ _ _ _=>rfl|exact λ_ _ _ _ _ _ _ _ _ _ _=>rfl|exact λ_ _ _ _ _ _=>rfl) :
  lI P w K mg base x (k+1) (Cq K F):=e▸Vj D S (λa b c d e f l n=>oq (j a b c d e f) l n) λ_ _ _ _ _ _ _ r=>i S.nd (λ_ h=>mQ h) r
def SV(_:Zx P w K mg base) k F N ps (e:F=nY ps.length N.length g) (o:zV K C) (D:mm K C m qual st) (i:Ub P w K mg base k qual st N g) (S:i8 N ps (g9 st):=by constructor<;>first|rfl|decide +kernel)
  (j:Sn m qual st ps:=by first|exact λ_ _ _ _ _ _ _=>rfl|exact λ_ _ _ _ _ _ _ _=>rfl|exact λ_ _ _ _ _ _ _ _ _=>rfl) :
  lP P w K mg base C m (k+1) (xU K F):=e▸T5 o D S (λa b c d e f l n=>oq (j a b c d e f) l n) λ_ _ _ _ _ _ _ r=>i S.nd (λ_ h=>mQ h) r
def Qk(_:Zx P w K mg base) k F N ps (e:F=AM ps.length N.length g) (o:zV K C) (D:mm K C m qual st) (i:Ub P w K mg base k qual st N g) (S:i8 N ps (g9 st):=by constructor<;>first|rfl|decide +kernel)
  (j:Sn m qual st ps:=by first|exact λ_ _ _ _ _ _ _=>rfl|exact λ_ _ _ _ _ _ _ _=>rfl|exact λ_ _ _ _ _ _ _ _ _=>rfl) :
  lP P w K mg base C m (k+1) (Cq K F):=e▸SX o D S (λa b c d e f l n=>oq (j a b c d e f) l n) λ_ _ _ _ _ _ _ r=>i S.nd (λ_ h=>mQ h) r
def TZ(_:Zx P w K mg base) k F N ps (e:F=nY ps.length N.length g) (D:Mn K x x st f fd) (a:Ub P w K mg base k x st N g) (S:i8 N ps (g9 st):=by constructor<;>first|rfl|decide +kernel) :
  nM P w K mg base sh (k+1) f fd ps (xU K F):=e▸UY D S λ_ _ _ _ _ _ _ r=>a S.nd (λ_ h=>mQ h) r
def U1(_:Zx P w K mg base) k F N (e:F=zr C n f1 f2 g1 g2) (y:zV K C) (n1:md K C f1) (n2:md K C f2) (u:W.makesIn K C=true) (v:W.keepIn K (.ref C)=true) (p:mg x=some (.ref C)) (D:mm K C "__init__" qual st)
  (q:∀{f:Addr} {i:Value} {A:Around} {h:List Env} {s:Shared} {H:Hp} {E:XK},ji k (A.deeper (envOfC qual (g9 st) s.heap.objs.size f i))->U6 K E (ny sh P w K mg base N qual (g9 st) f i A h s H E).nox (iQ st) f1 f2 g1 g2)
  (S:i8 N N (g9 st):=by constructor<;>first|rfl|decide +kernel) (j:Sn "__init__" qual st N:=by exact λ_ _ _ _ _ _ _ _ _=>rfl) (ne:f1≠f2:=by decide) (t:N.length=n+1:=by rfl) :
  HK P w K mg base x C (k+1) (Ec K C F):=e▸QP y n1 n2 ne D S u v p t (λa b c d e f l o=>oq (j a b c d e f) l o) λ_ _ _ _ _ _ _ r=>q r
end
section
variable {K:W.Frag}{E:XK}{X:Cx}{tg elt iter:Expr}{ifs:List Expr}{scope:Scope}{wi:TI}{g:TG}{tt:TT}{te:TE}{fe:Pe->M T}{fi:Pe->M (List T)}{m:T->Pe->Option Pe}{ft:Pe->M Bool}{pos:Pos}{x:Str}
noncomputable abbrev VC(K:W.Frag)(X:Cx)(scope:Scope)(N:List Str)(tg elt:Expr)(ifs:List Expr)(g:TG)(tt:TT)(te:TE)(m:T->Pe->Option Pe)(ft:Pe->M Bool)(fe:Pe->M T):Prop:=∀{C s₃ H ex pn},N.Nodup->TJ (nc X N scope C s₃ H ex pn)->SH K (nc X N scope C s₃ H ex pn) tg g m/\KC K Mj (nc X N scope C s₃ H ex pn) ifs tt ft/\Pm K Mj (nc X N scope C s₃ H ex pn) elt te fe
def kf N ix (f:TJ X) (e:Ig K E X tg iter wi fi) (a:VC K X scope N tg elt ifs g tt te m ft fe) (d:Bp X.N X.env.scope scope N ix=true:=by rfl) (b:pR ix g:=by first|exact xN rfl|exact wz rfl rfl) (nd:N.Nodup:=by decide) (h:X.calm=true:=by rfl)
  (c:∀x,foldedSetIterable iter X.env x=pure x:=by intro _;rfl):GQ K E X (.ListComp elt [⟨tg,iter,ifs,0⟩] scope pos) (Jb ix wi g tt te) (lB ix fi m ft fe):=
 let L:=Tn f d
 Ul h e L b (λ_ _ _ _ _=>a nd (K8 L)) c
def pX N ix i (f:X.N.Nodup) (n:TJ X) (j:Ig K E X tg iter wi fi) (b:VC K X scope N tg elt ifs g tt te m ft fe)
  (p:MF K E (Jb ix wi g tt te) (lB ix fi m ft fe)->MS K E (oG (Jb ix wi g tt te) (jS i)) gm) (h:Bp X.N X.env.scope scope N ix=true:=by rfl) (c:pR ix g:=by first|exact xN rfl|exact wz rfl rfl) (nd:N.Nodup:=by decide) (k:HN X.env.scope x:=by first|exact Or.inl rfl|exact Or.inr rfl) (o:X.calm=true:=by rfl)
  (e:X.N[i]? = some x:=by rfl) (l:X.fn x=true\/X.env.scope.names.lookup x=some .local:=by first|exact .inl rfl|exact .inr rfl)
  (a:swapsWith (.ListComp elt [⟨tg,iter,ifs,0⟩] scope pos) (some (.Name x py)) spos.line X.env=pure true:=by rfl)
  (d:∀x,foldedSetIterable iter X.env x=pure x:=by intro _;rfl):xP K E X (.Assign [.Name x py] (.ListComp elt [⟨tg,iter,ifs,0⟩] scope pos) spos) (oG (Jb ix wi g tt te) (jS i)) gm:=
 let L:=Tn n h
 Rr i f k o j L c (λ_ _ _ _ _=>b nd (K8 L)) p e l a d
end
end L3
namespace L3
open PySem L2 PySem.Spec PyProof.Rows
section
variable {P:Program}{w:World}{K:W.Frag}{mg:Str->Option Value}{base:Heap}{x:Str}{st:Stmt}
def Td N ps (e:F=λ_=>.bad) (D:iu K mg x st) (S:i8 N ps (g9 st):=by constructor<;>first|rfl|decide +kernel)
  (i:Sn x x st ps:=by first|exact λ_ _ _ _ _ _ _ _=>rfl|exact λ_ _ _ _ _ _ _=>rfl|exact λ_ _ _ _ _ _ _ _ _=>rfl):lI P w K mg base x (k+1) (xU K F):=by
 have no:∀g H Q E,¬xU K F g H Q E:=λg H Q E h=>by subst e;obtain⟨_,_,_,_,_,z⟩:=h
 exact AR D S (λa b c d e f j l=>oq (i a b c d e f) j l) (λg H Q E h=>absurd h (no _ _ _ _)) λ_ _ _ _ _ _ _ _ _ _ h=>absurd h (no _ _ _ _)
end
end L3
namespace L3
open PySem L2
def m8(f:Ky):T:=.tup [.int f.1,.tup (f.2.map T.int)]
def BV:List T->Option (LI)
 |[]=>some []
 |.int i::r=>(BV r).map (i :: ·)
 |_=>none
def yn:T->Option Ky
 |.tup [.int d,.tup ts]=>(BV ts).map λl=>(d,l)
 |_=>none
theorem zg:∀l:LI,BV (l.map T.int)=some l
 |[]=>rfl
 |i::l=>by simp[BV,zg l]
def tX(f:Ky):yn (m8 f)=some f:=by simp[yn,m8,zg]
theorem zc{K:W.Frag}{F:Hp}:∀{vs:List V} {ts:List T} {l:LI},iB K F vs ts->BV ts=some l->vs=l.map V.int
 |_,_,_,.nil,h=>by cases h;rfl
 |_,_,_,.cons (t:=t) r rs,h=>by
  cases t with
  |int i=>obtain⟨a,e,rfl⟩:=dR.mp h;rw[r.int_inv,zc rs e];rfl
  |_=>cases h
def zB{K:W.Frag}{F:Hp}{v:V}{t:T}{g:Ky}(r:kU K F v t)(h:yn t=some g):∃b,v=.ref b/\xW F b g:=by
 unfold yn at h;split at h
 .rename_i d n;obtain⟨l,e,rfl⟩:=dR.mp h;obtain⟨a,m,rfl,i,c⟩:=r.tup_inv;cases c with
  |cons r1 c=>
   cases c with
   |cons r2 c=>cases c;obtain⟨k,o,rfl,j,f⟩:=r2.tup_inv;rw[r1.int_inv]at i;exact⟨a,rfl,k,i,by rw[j,zc f e]⟩
 .cases h
theorem yz{K:W.Frag}{F:Hp}:∀l:LI,iB K F (l.map V.int) (l.map T.int)
 |[]=>.nil
 |i::l=>.cons (.int i) (yz l)
def HP{K:W.Frag}{F:Hp}{b:Addr}{g:Ky}(x:xW F b g):kU K F (.ref b) (m8 g):=let ⟨b2,e1,e2⟩:=x;.tup e1 (.cons (.int _) (.cons (.tup e2 (yz _)) .nil))
def wZ{K:W.Frag}{F:Hp}{bs:List Addr}{fl:List Ky}(p:Paired (xW F) bs fl):iB K F (bs.map V.ref) (fl.map m8):=by
 induction p with
 |nil=>exact .nil
 |cons h t ih=>exact .cons (HP h) ih
noncomputable def Kz(a:List Ky)(t:T):M (List Ky):=match t with
 |.non=>.ok a
 |t=>match yn t with
  |some g=>.ok (v5 a g)
  |none=>.bad
noncomputable def qw(st:T->List Ky->M (List Ky)):List T->List Ky->M (List Ky)
 |[],acc=>.ok acc
 |t::r,acc=>(st t acc).bind (qw st r)
def yS(a b:Ky):Bool:=!wV (ky b) (ky a)
def jv(l:List Ky):List Ky:=l.mergeSort yS
theorem vo{g:Type}{r:g->g->Prop}(c:∀a b,r a b->r b a->a=b):∀{l m:List g},l.Perm m->l.Pairwise r->m.Pairwise r->l=m
 |[],m,p,_,_=>(List.Perm.eq_nil p.symm).symm
 |a::l,[],p,_,_=>by have:=p.length_eq;simp at this
 |a::l,b::m,p,h1,h2=>by
  have e:a=b:=by
   have f:a∈b::m:=p.mem_iff.mp bu;have d:b∈a::l:=p.mem_iff.mpr bu;rcases aG.mp f with e|f
   .exact e
   .rcases aG.mp d with e|d
    .exact e.symm
    .exact c a b ((cX.mp h1).1 b d) ((cX.mp h2).1 a f)
  subst e;rw[vo c (List.Perm.cons_inv p) (cX.mp h1).2 (cX.mp h2).2]
def M5{f g:Ky}(a:wV f g=false)(b:wV g f=false):f=g:=by
 unfold wV at a b;by_cases e:f.1=g.1
 .rw[aR e]at a;rw[aR e.symm]at b;exact Prod.ext e (BY a b)
 .rw[aS e]at a;rw[aS (Ne.symm e)]at b;have:=of_decide_eq_false a;have:=of_decide_eq_false b;omega
def I0(a b:Ky)(c:yS a b=true)(d:yS b a=true):a=b:=by unfold yS at c d;simp only[eN]at c d;have:=M5 d c;have f:(ky a).1=(ky b).1:=congrArg Prod.fst this;have e:(ky a).2=(ky b).2:=congrArg Prod.snd this;have g:-a.1 = -b.1:=f;exact Prod.ext (by omega) e
def Lm(a b c:Ky)(d:yS a b=true)(e:yS b c=true):yS a c=true:=by unfold yS at d e ⊢;simp only[eN]at d e ⊢;exact LR d e
def Fp(a b:Ky):(yS a b||yS b a)=true:=by
 unfold yS;cases h:wV (ky b) (ky a) with
 |false=>rfl
 |true=>rw[Jn h];rfl
def JU{l m:List Ky}(p:m.Perm l)(h:m.Pairwise (λa b=>wV (ky b) (ky a)=false)):m=jv l:=by refine vo (r:=λa b=>yS a b=true) I0 (p.trans (eO l yS).symm) (h.imp λ{a b} z=>by unfold yS;rw[z];rfl) ?_;exact eP Lm Fp l
section
variable {P:Program}{w:World}{K:W.Frag}{E:XK}{Fb Hb F H F' H':Hp}{ρ:Pe}{jd:Nat}{a:Addr}{σ:St}{fl:List Ky}{D:sW}
structure Bk(P:Program)(w:World)(K:W.Frag)(Fb Hb:Hp)(jd:Nat)(a:Addr)(n:Nat)(ρ:Pe)(F H:Hp)(σ:St)(fl:List Ky):Prop where
 gr:Gr Fb Hb F H
 vars:lQ K F σ ρ
 len:σ.length=n
 d:σ[jd]? = some (some (.ref a))
 fa:F a=none
 ha:Hb a=none
 fd:∃bs,OQ P w F H a bs fl
def Bk.grow{n:Nat}(b:Bk P w K Fb Hb jd a n ρ F H σ fl)(g:Gr F H F' H'):Bk P w K Fb Hb jd a n ρ F' H' σ fl:=by
 obtain⟨bs,c,e,f,p⟩:=id b.fd;refine⟨b.gr.trans g,b.vars.mono g.ff,b.len,b.d,?_,b.ha,bs,OQ.mono ⟨c,e,f,p⟩ g.ff g.hh⟩;cases z:F' a with
 |none=>rfl
 |some u=>
  rcases g.nw a (by rw[z];exact λw=>nomatch w) with y|y|⟨_,y⟩
  .exact absurd b.fa y
  .rw[e]at y;cases y
  .rw[e]at y;cases y
def Bk.setN{n j:Nat}{v:V}(b:Bk P w K Fb Hb jd a n ρ F H σ fl)(k:∀t,ρ[j]?≠some (some t))(g:j≠jd):Bk P w K Fb Hb jd a n ρ F H (σ.set j (some v)) fl:=
 ⟨b.gr,λi t e=>by
  have:i≠j:=λz=>by subst z;exact k t e
  obtain⟨f,c,h⟩:=b.vars i t e;exact⟨f,by rw[aq (Ne.symm this)];exact c,h⟩,by rw[bU];exact b.len,by rw[aq g];exact b.d,b.fa,b.ha,b.fd⟩
def Bk.setP{n j:Nat}{v:V}{t:T}(b:Bk P w K Fb Hb jd a n ρ F H σ fl)(f:j<n)(k:j≠jd)(r:kU K F v t):Bk P w K Fb Hb jd a n (ρ.set j (some t)) F H (σ.set j (some v)) fl:=
 ⟨b.gr,λi u e=>by
  by_cases z:i=j
  .subst z;have g:i<σ.length:=by rw[b.len];exact f
   rw[List.getElem?_set]at e;simp only[if_true]at e;split at e
   .cases e;exact⟨v,by rw[List.getElem?_set_self g],r⟩
   .cases e
  .rw[aq (Ne.symm z)]at e;obtain⟨h,c,l⟩:=b.vars i u e;exact⟨h,by rw[aq (Ne.symm z)];exact c,l⟩,by rw[bU];exact b.len,by rw[aq k];exact b.d,b.fa,b.ha,b.fd⟩
def Bk.less{n:Nat}{ρ':Pe}(b:Bk P w K Fb Hb jd a n ρ F H σ fl)(h:∀(i:Nat) t,ρ'[i]? = some (some t)->ρ[i]? = some (some t)):Bk P w K Fb Hb jd a n ρ' F H σ fl:=⟨b.gr,λi t e=>b.vars i t (h i t e),b.len,b.d,b.fa,b.ha,b.fd⟩
def Pt(P:Program)(w:World)(c:TE)(b jd:Nat):TS:=AG (oG c (jS b)) (GT (tB (Pv (mv b))) (PD P w (mv jd) (mv b) (tC (.bl true))) yO)
def Um{u:TE}{fe:Pe->M T}{n j:Nat}(R:ME K E u fe)(b:Bk P w K Fb Hb jd a n ρ F H σ fl)(U:∀t,ρ[j]?≠some (some t))(N:j≠jd)(A:j<n)(Y:fl.length<1000)
  (q:((fe ρ).bind (Kz fl)).res (λi=>∀F' H' h,iq F F'->Bk P w K Fb Hb jd a n ρ F' H' h i->D.nx h H') (kE E Fb Hb)):Pt P w u j jd D σ H:=by
 refine R F H σ ρ _ b.gr.fh b.vars ((M.res.unb q).mono (λt z v F' H' g r=>?_) λC n z=>z.go b.gr);have f:=(b.grow g).setN (v:=v) U N;have x:(σ.set j (some v))[j]? = some (some v):=List.getElem?_set_self (by rw[b.len];exact A);refine⟨v,x,!decide (v=.non),rfl,?_⟩;by_cases s:v=.non
 .rw[aC s];subst s;cases r;exact Va (z F' H' _ g.ff f)
 .rw[aB s];refine Vh ?_;have S:∃l,yn t=some l/\(M.ok (v5 fl l)).res (λi=>∀F' H' h,iq F F'->Bk P w K Fb Hb jd a n ρ F' H' h i->D.nx h H') (kE E Fb Hb):=by
   unfold Kz at z;split at z
   .cases r;exact absurd rfl s
   .split at z
    .rename_i l e;exact⟨l,e,z⟩
    .exact z.elim
  obtain⟨l,L,I⟩:=S;obtain⟨B,rfl,m⟩:=zB r L;obtain⟨bs,y,e,e2,p⟩:=f.fd;have X:1000<sizeLine:=by decide
  refine⟨_,f.d,_,x,a,B,y,_,rfl,rfl,e,Pj p f.gr.fh,Kd (m.mono f.gr.fh),by rw[Paired.length p];omega,λJ Z=>?_⟩;have Q:=QW (P:=P) (w:=w) (H:=H') (a:=a) (r:=J) p m;refine I F' _ _ g.ff ⟨⟨f.gr.ff,λc o k=>?_,λc o k=>?_,f.gr.nw⟩,f.vars,f.len,f.d,f.fa,f.ha,Q⟩
  .rw[hU (iC k f.fa)];exact f.gr.fh c o k
  .rw[hU (iC k f.ha)];exact f.gr.hh c o k
def ID(fl:List Ky)(g:Ky):(v5 fl g).length<=fl.length+1:=by unfold v5;split<;>simp
def Fg{J:It}{its:List T}{s:Hp}{n:Nat}{g:TG}{X:TS}{st:T->List Ky->M (List Ky)}(r:xu K J its s)
  (S:∀t x F H σ f (D:sW),t∈its->iq s F->Bk P w K Fb Hb jd a n ρ F H σ f->kU K F x t->(st t f).res (λc=>∀F' H' d,iq F F'->Bk P w K Fb Hb jd a n ρ F' H' d c->D.nx d H') (kE E Fb Hb)->g x σ H λp Q=>X D p Q)
  (s1:iq s F) (b:Bk P w K Fb Hb jd a n ρ F H σ fl) (q:(qw st its fl).res (λc=>∀F' H' d,iq F F'->Bk P w K Fb Hb jd a n ρ F' H' d c->D.nx d H') (kE E Fb Hb)) :
  ∃W:Nat->Nat->St->Hp->Prop,(∃m,W 0 m σ H)/\∀i m σ H,W i m σ H->
 (J.stop i H/\D.nx σ H)\/(J.go i H/\∃N:St->Hp->Prop,(∀d H',N d H'->∃Y,Y<m/\W (i+1) Y d H')/\∀x H',J.yld i H x H'->g x σ H' λp Q=>X {D with nx:=N,ct:=N,bk:=D.nx} p Q):=by
 refine⟨λi k d H'=>i<=its.length/\k=its.length-i/\∃F' f,iq s F'/\Bk P w K Fb Hb jd a n ρ F' H' d f/\(qw st (its.drop i) f).res (λc=>∀o j h,iq F' o->Bk P w K Fb Hb jd a n ρ o j h c->D.nx h j) (kE E Fb Hb),⟨_,bL _,rfl,F,fl,s1,b,by simpa using q⟩,?_⟩
 rintro i k B C ⟨hi,rfl,U,f,u,A,v⟩
 by_cases l:i<its.length
 .right;refine⟨r.go i C (u.trans A.gr.fh) l,λd H'=>∃F' f,iq s F'/\Bk P w K Fb Hb jd a n ρ F' H' d f/\(qw st (its.drop (i+1)) f).res (λc=>∀o j h,iq F' o->Bk P w K Fb Hb jd a n ρ o j h c->D.nx h j) (kE E Fb Hb),λd H' z=>⟨its.length-(i+1),by omega,l,rfl,z⟩,λx H' y=>?_⟩;have et:=ag l;obtain⟨F3,I,rp⟩:=r.yld i _ U C x H' u A.gr.fh et y;rw[cS l]at v;unfold qw at v;refine S _ x F3 H' B f _ (aW l) (u.trans I.ff) (A.grow I) rp ((M.res.unb v).mono (λc z=>?_) λ_ _ z=>z);intro F4 H4 σ4 Z b4;exact⟨F4,c,(u.trans I.ff).trans Z,b4,z.mono (λL y F5 H5 R s5 b5=>y F5 H5 R ((I.ff.trans Z).trans s5) b5) λ_ _ z=>z⟩
 .have e:i=its.length:=by omega
  subst e;rw[eL (aL _)]at v;exact .inl ⟨r.stop C (u.trans A.gr.fh),v U C B (.refl _) A⟩
abbrev VO(P:Program)(w:World):List V->Hp->VK->Prop:=λzs H Q=>∃a xs,zs=[.ref a]/\H a=some (yL P w a xs)/\∀l:Addr,H l=none->Q (.ref l) (ja H l (.lst (xs.map λx=>.ref x.2.1)))
abbrev UH(P:Program)(w:World)(jd:Nat):TE:=Mp (VO P w) (ql (mv jd) uO)
def Pu{n:Nat}{Q:VK}(b:Bk P w K Fb Hb jd a n ρ F H σ fl)(q:∀l bs,H l=none->Paired (xW F) bs fl->Bk P w K Fb Hb jd a n ρ (ja F l (.lst (bs.map V.ref))) (ja H l (.lst (bs.map V.ref))) σ fl->Q (.ref l) (ja H l (.lst (bs.map V.ref)))):UH P w jd σ H Q:=by
 obtain⟨bs,c,e,h,p⟩:=id b.fd;have j:=OQ.flr (P:=P) (w:=w) (H:=H) (a:=a) ⟨c,e,h,p⟩;refine⟨_,b.d,a,c,rfl,e,λl f=>?_⟩;have i:(c.map λx:FE=>V.ref x.2.1)=bs.map V.ref:=by rw[h,aJ];rfl
 rw[i];have g:Gr F H (ja F l (.lst (bs.map V.ref))) (ja H l (.lst (bs.map V.ref))):=Gr.new b.gr.fh f;exact q l bs f j (b.grow g)
def NM{n:Nat}{ts:List T}(b:Bk P w K Fb Hb jd a n ρ F H σ fl)(g:fl.length<=64)(k:kF K Fb Hb D.rt ((jv fl).map m8)){src:V->Hp->List Addr->Prop}{x:V}{bs:List Addr}(m:src x H bs)(h:Paired (xW F) bs fl) :
  ∃bs fl,src x H bs/\Paired (xW H) bs fl/\fl.length<=64/\∀f H' d c,iq H H'->H f=none->H' f=some (.lst (d.map V.ref))->(∀R:Addr->Ky->Prop,Paired R bs fl->Paired R d c)->c.Perm fl->c.Pairwise (λa b=>wV (ky b) (ky a)=false)->D.rt (.ref f) H':=by
 refine⟨bs,fl,m,Paired.mapP h λ_ _ z=>z.mono b.gr.fh,g,λf H' d c sm i l p o j=>?_⟩;have e:=JU o j;have q:F f=none:=iF b.gr.fh i;refine k f (d.map V.ref) F H' ⟨b.gr.ff,b.gr.fh.trans sm,b.gr.hh.trans sm,b.gr.nw⟩ (iF b.gr.hh i) q l ?_;rw[<-e];exact wZ (p _ h)
def SZ(P:Program)(w:World)(K:W.Frag)(b f:TE)(d:TI)(jd g c e:Nat):TS:=AG (oG (LY P w b (tC (.bl true))) (jS jd)) (AG (wJ d (jS g) (wJ (CT K (UH P w jd)) (jS c) (Pt P w f e jd))) (CY (JH (QL K) (UH P w jd))))
noncomputable def TX(fe:Pe->M T)(c:Nat)(ρ:Pe):T->List Ky->M (List Ky):=λt b=>if b.length<1000 then (fe (ρ.set c (some t))).bind (Kz b) else .bad
noncomputable def Ic(fe:Pe->M T)(c d:Nat)(ρ:Pe):T->List Ky->M (List Ky):=λt b=>qw (TX fe d (ρ.set c (some t))) (b.map m8) b
noncomputable def Tu(m:M (List Ky)):O:=O.of m λl=>if l.length<=64 then .rf ((jv l).map m8) else .bad
noncomputable def Hr(h fe:Pe->M T)(i:Pe->M (List T))(jd d b e:Nat):En->O:=λρ=>.of (h (kP ρ)) λf=>match yn f with
 |none=>.bad
 |some g=>.of (i (((((kP ρ).set jd none).set e none).set d none).set b none)) λc=>Tu (qw (Ic fe d b (((((kP ρ).set jd none).set e none).set d none).set b none)) c [g])
def lL{ρ:Pe}{i j:Nat}{t:T}(h:(ρ.set j none)[i]? = some (some t)):i≠j/\ρ[i]? = some (some t):=by
 by_cases e:i=j
 .subst e;rw[List.getElem?_set]at h;simp only[if_true]at h;split at h<;>cases h
 .rw[aq (Ne.symm e)]at h;exact⟨e,h⟩
def LQ{F:Hp}{σ:St}{ρ:Pe}{j:Nat}{v:V}(h:lQ K F σ ρ):lQ K F (σ.set j (some v)) (ρ.set j none):=λi t e=>by obtain⟨c,e⟩:=lL e;obtain⟨d,b,f⟩:=h i t e;exact⟨d,by rw[aq (Ne.symm c)];exact b,f⟩
def AL{ρ:Pe}{i j:Nat}{x:Option T}{t:T}(b:i≠j)(h:∀t,ρ[j]?≠some (some t)):(ρ.set i x)[j]?≠some (some t):=by rw[aq b];exact h t
def Rg{t0 te:TE}{f0 fe:Pe->M T}{wi:TI}{fi:Pe->M (List T)}{jd f d h:Nat}(h0:ME K E t0 f0)(he:ME K E te fe)(hi:MI K E wi fi)(g:f≠jd/\d≠jd/\h≠jd/\f≠d/\f≠h/\d≠h){N:Nat}(hN:f<N/\d<N/\h<N/\jd<N):MS K E (SZ P w K t0 te wi jd f d h) (λρ=>if ρ.length=N then Hr f0 fe fi jd f d h ρ else .bad):=λF0 H0 F H σ ρ D r q=>by
 dsimp only at q;by_cases s:ρ.length=N
 case neg=>rw[aS s]at q;exact q.elim
 rw[aR s]at q;have X:σ.length=N:=r.len.trans s;intro p hp;have gp:Gr F H F (ja H p (yL P w p [])):=Gr.new' r.gr.fh hp;have fp0:F p=none:=iF r.gr.fh hp;refine h0 F _ σ (kP ρ) _ gp.fh r.vars ((O.res_of q).mono (λt0 z v F1 H1 Y r1=>?_) λC n z=>z.go (r.gr.trans gp));cases ea:yn t0 with
 |none=>rw[ea]at z;exact z.elim
 |some g0=>
  rw[ea]at z;obtain⟨b0,rfl,L⟩:=zB r1 ea;have hp1:H1 p=some (yL P w p []):=Y.hh _ _ hC;refine⟨hp1,(.inl g0.1,g0.2.map .inl),b0,rfl,Kd (L.mono Y.fh),λrv hrv=>?_⟩;have R:F1 p=none:=by
   cases y:F1 p with
   |none=>rfl
   |some u=>
    rcases Y.nw p (by rw[y];exact λw=>nomatch w) with k|k|⟨_,k⟩
    .exact absurd fp0 k
    .rw[hC]at k;cases k
    .rw[hC]at k;cases k
  have G0:=(r.gr.trans gp).trans Y;have U:H0 p=none:=iF r.gr.hh hp;have hd':jd<σ.length:=by rw[X];exact hN.2.2.2
  have b:Bk P w K F0.hp H0 jd p N (((((kP ρ).set jd none).set h none).set f none).set d none) F1 (ja H1 p (yL P w p [((.inl g0.1,g0.2.map .inl),b0,rv)])) (σ.set jd (some (.ref p))) [g0]:=by
   refine⟨⟨G0.ff,λc o S=>?_,λc o S=>?_,G0.nw⟩,λi t e=>?_,by rw[bU];exact X,List.getElem?_set_self hd',R,U,[b0],_,hC,rfl,.cons ⟨rfl,L⟩ .nil⟩
   .rw[hU (iC S R)];exact G0.fh c o S
   .rw[hU (iC S U)];exact G0.hh c o S
   .obtain⟨_,e⟩:=lL e;obtain⟨_,e⟩:=lL e;obtain⟨_,e⟩:=lL e;exact (LQ (r.vars.mono Y.ff)) i t e
  refine hi F1 _ _ _ _ b.gr.fh b.vars ((O.res_of z).mono (λits z J F2 H2 g2 iok=>?_) λC n z=>z.go (b.gr));refine Fg (st:=Ic fe f d (((((kP ρ).set jd none).set h none).set f none).set d none)) iok (λt x F3 H3 σ3 Z D3 ht s3 b3 rx q3=>?_) (.refl _) (b.grow g2) ((O.res_of z).mono (λZ z F4 H4 σ4 s4 b4=>?_) λ_ _ z=>z)
  .have nk:∀t,(((((kP ρ).set jd none).set h none).set f none).set d none)[d]?≠some (some t):=λt e=>(lL e).1 rfl;have ns:∀t,(((((kP ρ).set jd none).set h none).set f none).set d none)[h]?≠some (some t):=λt e=>(lL (lL (lL e).2).2).1 rfl;have nkk:∀t,(((((kP ρ).set jd none).set h none).set f none).set d none)[f]?≠some (some t):=λt e=>(lL (lL e).2).1 rfl;have b4:=b3.setP hN.1 g.1 rx;refine Pu b4 λl bs s pl b5=>⟨l,rfl,⟨_,lS.of hC⟩,?_⟩;have sl:iq F3 (ja F3 l (.lst (bs.map V.ref))):=jx (iF b3.gr.fh s);have rps:=wZ (K:=K) (Paired.mapP pl λ_ _ z=>z.mono sl);refine Fg (st:=TX fe d ((((((kP ρ).set jd none).set h none).set f none).set d none).set f (some t))) (Ao (lS.of hC) rps) (λt' x' F6 H6 σ6 B D6 ht' s6 b6 rx' I=>?_) (.refl _) b5 (q3.mono (λQ y F7 H7 A s7 b7=>?_) λ_ _ z=>z)
   .unfold TX at I;by_cases j:B.length<1000
    .rw[aR j]at I;have b8:=b6.setP hN.2.1 g.2.1 rx';refine Um he b8 (λt2=>AL g.2.2.2.2.2 λt3=>AL g.2.2.2.2.1 ns) g.2.2.1 hN.2.2.1 j (I.mono (λQ y F7 H7 A s7 b7=>y F7 H7 A s7 (b7.less λi t2 e=>?_)) λ_ _ z=>z);rw[aq]
     .exact e
     .intro z;subst z;exact AL g.2.2.2.1 nk e
    .rw[aS j]at I;exact I.elim
   .refine y F7 H7 A (sl.trans s7) (b7.less λi t2 e=>?_);rw[aq]
    .exact e
    .intro z;subst z;exact nkk t2 e
  .by_cases m:Z.length<=64
   .rw[aR m]at z;refine Pu b4 λl bs s pl b5=>?_;have sl:iq F4 (ja F4 l (.lst (bs.map V.ref))):=jx (iF b4.gr.fh s);exact NM (ts:=[]) b5 m z (src:=QL K) ⟨l,rfl,hC⟩ (Paired.mapP pl λ_ _ z=>z.mono sl)
   .rw[aS m]at z;exact z.elim
end
section
open PySem.W
variable {K:W.Frag}{E:XK}{X:Cx}
def tq.im{a it:Expr}{w:TI}{f:Pe->M (List T)}(h:tq K E X a it w f):Ig K E X a it w f:=⟨h.pi,h.mi.mi⟩
structure U3(X:Cx)(x:Str)(params:Arguments)(scope:Scope)(body:Expr):Prop where
 S:i8 [x] [x] scope
 hx:scope.names.lookup x=some .local
 hb:∀(q:Str) (pm ctv:Value) (c':Addr) (u:Value),bindArgs (kla_fn "<lambda>" q params body scope [] pm (.ref c') ctv) ⟨[u],[]⟩=pure [(x,u)]
 cl:closureFor scope X.env=pure []
 df:defaultsOf params X.env=([],[])
def Pg{k:Nat}{Q m f o r xs:Str}{s e it:Expr}{C B:TE}{I fe:Pe->M T}{Z:TI}{fi:Pe->M (List T)}{params:Arguments}{d:Scope}{p1 p2 p3 p4 p5 p6 p7 p8 q1 q2 P q4 q5 q6 q7 q8 q9 Y r2 r3 r4 r5 r6 r7 r8 r9 u1 D u3 u4 u5 u6 u7 u8 u9 p p' v:Pos}{j1 j2 j3 i1 i2 i3:Nat}
  (g j i h:Nat) (nd:X.N.Nodup) (hp:PassesOwn (model X.prog X.w) X.A X.env X.xe) (hr:ji (k+3) X.A) (L:Jd X.base X.mg Q X.env.code) (mL:X.mg "list" = none) (mS:X.mg "sorted" = none) (J:Pm K E X s C I) (hi:Ig K E X (.Name o P) it Z fi) (F:Pm K E X e B fe)
  (hq:Q++ ".<locals>.<lambda>" = X.env.qual++ "<lambda>" :=by rfl) (n:U3 X m params d (pV m p1 p2 p3 p4 p5 p6 p7 p8 j1 j2 j3):=by exact⟨by constructor<;>first|rfl|decide +kernel,rfl,λ_ _ _ _ _=>rfl,rfl,rfl⟩) (t:X.K=K:=by rfl) (u:X.calm=true:=by rfl)
  (hd:X.N[g]? = some f:=by rfl) (hk:X.N[j]? = some o:=by rfl) (hf:X.N[i]? = some r:=by rfl) (hs:X.N[h]? = some xs:=by rfl) (x:X.env.scope.names.lookup f=some .local:=by rfl) (U:X.env.scope.names.lookup o=some .local:=by rfl) (lf:X.env.scope.names.lookup r=some .local:=by rfl) (y:X.env.scope.names.lookup xs=some .local:=by rfl)
  (l:(f==("__debug__" : Str))=false/\(f==("__classdict__" : Str))=false/\(xs==("__debug__" : Str))=false/\(xs==("__classdict__" : Str))=false/\(m==("__debug__" : Str))=false/\(m==("__classdict__" : Str))=false:=by decide) (gL:Gl X "list" :=by rfl) (gS:Gl X "sorted" :=by rfl) (q:j≠g/\i≠g/\h≠g/\j≠i/\j≠h/\i≠h:=by decide)
  (s1:swapsWith (.Dict [some s] [.Constant (.bool true) i1 q1] q2) (some (.Name f u1)) D.line X.env=pure false:=by rfl) (s2:swapsWith e (some (.Name xs Y)) r2.line X.env=pure false:=by rfl) (fs:∀z,foldedSetIterable it X.env z=pure z:=by intro _;rfl) {N:Nat} (hN:j<N/\i<N/\h<N/\g<N:=by decide) :
  qg K E X [.Assign [.Name f u1] (.Dict [some s] [.Constant (.bool true) i1 q1] q2) D,
   .For (.Name o P) it [.For (.Name r q4) (.Call (.Name "list" q5) [.Name f q6] [] q7) [.Assign [.Name xs Y] e r2,.If (.Compare (.Name xs r3) [.IsNot] [.Constant .none i2 r4] r5) [.Assign [.Subscript (.Name f r6) (.Name xs r7) r8] (.Constant (.bool true) i3 r9) u3] [] u4] [] u5] [] u6,
   .Return (some (.Call (.Name "sorted" u7) [.Call (.Name "list" u8) [.Name f u9] [] q8] [⟨some "key",.Lambda params (pV m p1 p2 p3 p4 p5 p6 p7 p8 j1 j2 j3) d q9,p⟩] p')) v] (SZ X.prog X.w K C B Z g j i h) (λρ=>if ρ.length=N then Hr I fe fi g j i h ρ else .bad):=by
 subst t;have hu:X.A.units+2<cLine:=by have:=hr.units;omega
 have H:∀{pos},PE X (.Name f pos) (mv g):=λ{pos}=>v9 hd (.inl x) l.1 l.2.1;have R:∀{pos},PE X (.Name xs pos) (mv h):=λ{pos}=>v9 hs (.inl y) l.2.2.1 l.2.2.2.1;have ll:∀{a b c},PE X (.Call (.Name "list" a) [.Name f b] [] c) (UH X.prog X.w g):=λ{a b c}=>uL (DE u) gL mL (by rfl) (m9 H sM);refine⟨ph (uF nd hd (.inl x) (Kk hu J.pe Ii) s1 (.inr x)) (ph (uN hp u hi.pi (vW nd hk (.inl U) (.inr U)) (pI (uN hp u (z9 ll) (vW nd hf (.inl lf) (.inr lf)) (ph (uF nd hs (.inl y) F.pe s2 (.inr y)) (pI (Jx (QB (N5 R)) (pI (My hu H R Ii rfl)) AX))))) fs) (pI (A7 (JA hr L hq n.S n.hx n.hb n.cl n.df JZ ll gS mS ⟨rfl,rfl⟩ l.2.2.2.2.1 l.2.2.2.2.2)))),Rg J.me F.me hi.mi q hN⟩
noncomputable abbrev U7(P:Program)(w:World)(K:W.Frag)(mg:Str->Option Value)(base:Heap)(k:Nat)(qual:Str)(st:Stmt)(N:List Str)(g:En->O):Prop:=∀{f:Addr} {cdv:Value} {A:Around} {outer:List Env} {s:Shared} {H:Hp} {E:XK},Jd base mg qual cdv->N.Nodup->TJ (ny sh P w K mg base N qual (g9 st) f cdv A outer s H E).nox->ji k (A.deeper (PyProof.Rows.envOfC qual (g9 st) s.heap.objs.size f cdv))->∃t,qg K E (ny sh P w K mg base N qual (g9 st) f cdv A outer s H E).nox (iQ st) t g
def R9{P:Program}{w:World}{mg:Str->Option Value}{i:Heap}{x:Str}{st:Stmt}{g:En->O}(_:Zx P w K mg i) k F N ps (e:F=AM ps.length N.length g) (D:iu K mg x st) (L:Ha K mg i x) (p:U7 P w K mg i k x st N g) (S:i8 N ps (g9 st):=by constructor<;>first|rfl|decide +kernel)
  (l:Sn x x st ps:=by first|exact λ_ _ _ _ _ _ _ _=>rfl|exact λ_ _ _ _ _ _ _=>rfl|exact λ_ _ _ _ _ _ _ _ _=>rfl) :
  lI P w K mg i x (k+1) (Cq K F):=e▸IK D L S (λa b c d e f n o=>oq (l a b c d e f) n o) (λm H Q E h=>Ai h) λf r A j s H m Q E q hr h=>let ⟨t,hp⟩:=p q S.nd (λ_ h=>mQ h) hr;⟨t,hp.ps,wQ hp.ms h⟩
end
def Qw{l:W.OpenLaw}{q:Program}{k:Nat}{x:Str}{c:List Str}{r:(Str->Option Value)->Heap->Prop}{j:World->Heap->Prop}{d:DefRec}{K:Params->W.Frag}(xs:List Str)(o:l.most=some 63)(hr:ji k callerA)(g:d.params.defaults=[])
  (m:∀(w:World) (h:Heap),j w h->(K w.params).In h) (p:∀x∈xs,∃d',(PyProof.Rows.recsOf q).find? (λe=>e.name==x)=some d') (A:∀w:World,w5 (K w.params) xs=true)
  (F:∀(w:World) (mg:Str->Option Value) (i:Addr) (h:Heap),(K w.params).In h->h.Ns mainGlobals mg->mg d.name=some (.ref i)->
   ∃fd:FuncData,(∀(s:Shared) (u:Value),BindsTo s fd ⟨[u],[]⟩ [(x,u)])/\∀b:Heap,(K w.params).In b->b.Ns mainGlobals mg->(∀y∈xs,Ha (K w.params) mg b y)->nM l.prog w (K w.params) mg b sh k i fd [x] (LZ (K w.params))) :
  W.WalkO q c r j l.row.toRowW d [] (λf vs=>PySem.call f vs):=
 L2.LJ xs o (by decide) g hr m p A F λ_ _ a v t n z=>⟨a,v,rfl,z,t,n,λ_=>rfl⟩
end L3
namespace L3
open PySem L2
def Ov(j:Nat)(a:Addr)(bs:List (Addr×List V)):List (Nat×Addr×List V):=(j,a,bs.map λb=>V.ref b.1)::bs.map λb=>(j,b)
structure On(K:W.Frag)(F0:Fz)(H0 F H:Hp)(σ:St)(ρ:En)(j:Nat)(tss:List (List T))(a:Addr)(bs:List (Addr×List V)):Prop where
 r:Sr K ⟨F0.hp,Ov j a bs++F0.lt⟩ H0 F H σ ρ
 e:ρ[j]? = some none
 p:Paired (λ(b:Addr×List V) ts=>iB K F b.2 ts) bs tss
 nd:(a::bs.map (·.1)).Nodup
 far:∀e'∈F0.lt,e'.2.1∉a::bs.map (·.1)
noncomputable def Ns(K:W.Frag)(d:Fz)(H0 F H:Hp)(c:St)(ρ:En)(j:Nat)(b:List (List T)):Prop:=∃a bs,On K d H0 F H c ρ j b a bs
inductive rL where
 |bad|nx (ρ:En) (tss:List (List T))|ct (ρ:En) (tss:List (List T))|er (C:Addr) (n:Option Int)
section
variable (K:W.Frag)(E:XK)
def Vl(e:Fz)(H0 F:Hp)(D:St->Hp->Prop)(ρ:En)(j:Nat)(b:List (List T)):Prop:=∀c d a,iq F c->Ns K e H0 c d a ρ j b->D a d
def rL.res(j:Nat)(o:rL)(a:Fz)(H0 F:Hp)(D:sW):Prop:=match o with
 |.bad=>False
 |.nx ρ tss=>Vl K a H0 F D.nx ρ j tss
 |.ct ρ tss=>Vl K a H0 F D.ct ρ j tss
 |.er C n=>kE E a.hp H0 C n
def Gf(j:Nat)(t:TS)(g:En->List (List T)->rL):Prop:=∀e d F H c b a D,Ns K e d F H c b j a->(g b a).res K E j e d F D->t D c H
end
section
variable {K:W.Frag}{E:XK}{j:Nat}{F0:Fz}{H0 F H F1 H1:Hp}{σ:St}{ρ:En}{D:sW}
def rL.res.go{o:rL}(h:o.res K E j F0 H0 F D)(s:iq F F1):o.res K E j F0 H0 F1 D:=by
 cases o with
 |bad=>exact h
 |nx ρ tss=>exact λb c a d r=>h b c a (s.trans d) r
 |ct ρ tss=>exact λb c a d r=>h b c a (s.trans d) r
 |er C n=>exact h
def On.grow{b:List (List T)}{a:Addr}{bs:List (Addr×List V)}(n:On K F0 H0 F H σ ρ j b a bs)(g:Gr F H F1 H1):On K F0 H0 F1 H1 σ ρ j b a bs:=⟨n.r.grow g,n.e,Paired.imp' (λ_ _ q=>q.mono g.ff) n.p,n.nd,n.far⟩
@[simp] noncomputable def qJ(j:Nat)(g:En->O):En->List (List T)->rL:=λρ a=>match g ρ with
 |.nx ρ'=>(match ρ'[j]? with
  |some none=>.nx ρ' a
  |_=>.bad)
 |.ct ρ'=>(match ρ'[j]? with
  |some none=>.ct ρ' a
  |_=>.bad)
 |.er C n=>.er C n
 |_=>.bad
def J4{t:TS}{g:En->O}(h:MS K E t g):Gf K E j t (qJ j g):=λF0 H0 F H σ ρ tss D ⟨a,bs,n⟩ q=>by
 refine h ⟨F0.hp,Ov j a bs++F0.lt⟩ H0 F H σ ρ D n.r ?_;unfold qJ at q;cases e:g ρ with
 |nx ρ'=>
  rw[e]at q;dsimp only at q;split at q
  .rename_i c;exact λd f b s r=>q d f b s ⟨a,bs,r,c,Paired.imp' (λ_ _ q=>q.mono s) n.p,n.nd,n.far⟩
  .exact q.elim
 |ct ρ'=>
  rw[e]at q;dsimp only at q;split at q
  .rename_i c;exact λd f b s r=>q d f b s ⟨a,bs,r,c,Paired.imp' (λ_ _ q=>q.mono s) n.p,n.nd,n.far⟩
  .exact q.elim
 |er C n=>rw[e]at q;exact q
 |bad=>rw[e]at q;exact q
 |rt t=>rw[e]at q;exact q.elim
 |rf ts=>rw[e]at q;exact q.elim
 |rn ts us=>rw[e]at q;exact q.elim
 |bk ρ=>rw[e]at q;exact q.elim
@[simp] def wj(a b:En->List (List T)->rL):En->List (List T)->rL:=λρ c=>match a ρ c with
 |.nx ρ' tss'=>b ρ' tss'
 |o=>o
def NF{t u:TS}{a b:En->List (List T)->rL}(f:Gf K E j t a)(h:Gf K E j u b):Gf K E j (AG t u) (wj a b):=λF0 H0 F H σ ρ c D n q=>by
 refine f F0 H0 F H σ ρ c _ n ?_;unfold wj at q;cases e:a ρ c with
 |nx ρ' tss'=>rw[e]at q;exact λi g d s k=>h F0 H0 i g d ρ' tss' D k (q.go s)
 |bad=>rw[e]at q;exact q
 |ct ρ c=>rw[e]at q;exact q
 |er C n=>rw[e]at q;exact q
@[simp] noncomputable def OF(e:Pe->M Bool)(a b:En->List (List T)->rL):En->List (List T)->rL:=λρ d=>match e (vw ρ) with
 |.ok c=>if c then a ρ d else b ρ d
 |.er C n=>.er C n
 |.bad=>.bad
def QN{t u:TS}{c:TT}{f:Pe->M Bool}{a b:En->List (List T)->rL}(o:MT K E c f)(p:Gf K E j t a)(w:Gf K E j u b):Gf K E j (GT c t u) (OF f a b):=λF0 H0 F H σ ρ tss D ⟨x,bs,n⟩ q=>by
 obtain⟨v,A,k,V,d⟩:=n.r.lend;unfold OF at q;refine o v H σ (vw ρ) _ k.fh V ?_;cases e:f (vw ρ) with
 |bad=>rw[e]at q;exact q
 |er C m=>rw[e]at q;exact kE.go q k
 |ok c=>
  rw[e]at q;intro z i g;obtain⟨s,y,h,_⟩:=d z i g;have l:Ns K F0 H0 s i σ ρ j tss:=⟨x,bs,n.grow y⟩;cases c with
  |true=>exact p _ _ _ _ _ _ _ _ l (rL.res.go q h)
  |false=>exact w _ _ _ _ _ _ _ _ l (rL.res.go q h)
def Sr.relt{t:Hp}{L m:List (Nat×Addr×List V)}{k:Nat}{p:Addr}{xs ys:List V}(r:Sr K ⟨t,L⟩ H0 F H σ ρ)(I:(k,p,xs)∈L)(c:∀e∈m,Lv H0 F (ja H p (.lst ys)) σ ρ e)
  (g:∀i l vs,m.lookup i=some (l,vs)->∃a,L.lookup i=some (l,a)):Sr K ⟨t,m⟩ H0 F (ja H p (.lst ys)) σ ρ:=by
 obtain⟨x,y,C⟩:=r.ov;have M:=r.lv _ I;refine⟨⟨r.gr.ff,λb u q=>?_,λb u q=>?_,r.gr.nw⟩,r.len,r.pv,⟨x,λi o q=>?_,C⟩,c,λi l vs B q=>?_,r.dv.heap (.refl _) λb ys n _=>⟨by assumption,?_⟩⟩
 .rw[hU (iC q M.f)];exact r.gr.fh b u q
 .rw[hU (iC q M.z)];exact r.gr.hh b u q
 .obtain⟨s,v,A,a,N,J⟩:=y i o q;exact⟨s,v,A,a,by rw[hU (λw=>M.d i o q (by rw[s,w]))];exact N,J⟩
 .obtain⟨a,e⟩:=g i l vs B;exact r.sl i l a e q
 .rw[hU (λw=>by have:=M.h;dsimp only at this;rw[<-w,n]at this;cases this)];exact n
def si{a:Addr}{bs:List (Addr×List V)}{L:List (Nat×Addr×List V)}{i:Nat}:(Ov j a bs++L).lookup i=if i=j then some (a,bs.map λb=>V.ref b.1) else L.lookup i:=by
 unfold Ov;rw[eQ,cw];by_cases h:i=j
 .rw[aR h,beq_iff_eq.mpr h]
 .rw[aS h];have c:(i==j)=false:=by simpa using h
  rw[c];dsimp only;induction bs with
  |nil=>rfl
  |cons b bs ih=>rw[bJ,eQ,cw,c];exact ih
def On.out{c:List (List T)}{a:Addr}{bs:List (Addr×List V)}(n:On K F0 H0 F H σ ρ j c a bs):σ[j]? = some (some (.ref a))/\H a=some (.lst (bs.map λb=>V.ref b.1)):=⟨n.r.sl j a _ (by dsimp only;rw[si,aR rfl]) n.e,(n.r.lv (j,a,_) (ay _ bu)).h⟩
theorem sT{b a:Type}{R:b->a->Prop}:∀{xs ys},Paired R xs ys->xs.length=ys.length
 |_,_,.nil=>rfl
 |_,_,.cons _ r=>by rw[az,az,sT r]
theorem xw{d c:Type}{R:d->c->Prop}{a:List d}{b:List c}(q:Paired R a b):∀{xs ys},Paired R xs ys->Paired R (xs++a) (ys++b)
 |_,_,.nil=>q
 |_,_,.cons h r=>.cons h (xw q r)
theorem yW{b a:Type}{R:b->a->Prop}:∀{xs ys} {i:Nat} {y:a},Paired R xs ys->ys[i]? = some y->∃x,xs[i]? = some x/\R x y
 |_,_,_,_,.nil,e=>by simp at e
 |_,_,0,_,.cons h _,e=>by simp at e;subst e;exact⟨_,rfl,h⟩
 |_,_,i+1,_,.cons _ r,e=>by obtain⟨v,c,h⟩:=yW r (by simpa using e);exact⟨v,by simpa using c,h⟩
theorem xm{b a:Type}{R:b->a->Prop}{x:b}{y:a}(q:R x y):∀{xs ys} (i:Nat),Paired R xs ys->Paired R (xs.set i x) (ys.set i y)
 |_,_,_,.nil=>.nil
 |_,_,0,.cons _ r=>.cons q r
 |_,_,i+1,.cons h r=>.cons h (xm q i r)
@[simp] noncomputable def yD(f:Pe->M (List T)):En->List (List T)->rL:=λρ a=>match f (kP ρ) with
 |.ok us=>if a.length<sizeLine then .nx ρ (a++[us]) else .bad
 |.er C n=>.er C n
 |.bad=>.bad
def Lk{t:TE}{f:Pe->M (List T)}(h:MF K E t f):Gf K E j (wN (NN K j t)) (yD f):=λF0 H0 F H σ ρ tss D ⟨a,bs,n⟩ q=>by
 obtain⟨o1,o2⟩:=n.out;refine⟨_,o1,Ei o2,?_⟩;unfold yD at q;refine h F H σ (kP ρ) _ n.r.gr.fh n.r.vars ?_;cases e:f (kP ρ) with
 |bad=>rw[e]at q;exact q
 |er C m=>rw[e]at q;exact kE.go q n.r.gr
 |ok us=>
  rw[e]at q;dsimp only at q;split at q
  .rename_i hl;intro l ws U H' g N hf hv hr;have I:=n.grow g;obtain⟨o3,o4⟩:=I.out;have u:∀e∈Ov j a bs++F0.lt,e.2.1≠l:=λe c w=>by have:=(n.r.lv e c).h;rw[w,N]at this;cases this
   refine⟨a,_,.ref l,rfl,rfl,o4,by rw[ax,sT n.p];exact hl,q U _ σ g.ff ⟨a,bs++[(l,ws)],?_,n.e,xw (R:=λ(b:Addr×List V) P=>iB K U b.2 P) (.cons hr .nil) I.p,?_,?_⟩⟩
   .refine I.r.relt (k:=j) (xs:=bs.map λb=>V.ref b.1) (ay _ bu) (λe c=>?_) λi l' vs s=>?_
    .have S:∀e∈bs.map (λb=>(j,b))++F0.lt,e.2.1≠a:=λe c w=>by
      rcases ai.mp c with q|q
      .obtain⟨b,J,rfl⟩:=aE.mp q;exact (bO.mp n.nd).1 (w▸aE.mpr ⟨b,J,rfl⟩)
      .exact n.far e q (w▸bu)
     have B:∀e∈bs.map (λb=>(j,b))++F0.lt,Lv H0 U (ja H' a (.lst ((bs.map λb=>V.ref b.1)++[.ref l]))) σ ρ e:=λe c=>by have L:=I.r.lv e (by unfold Ov;exact bx _ c);exact⟨by rw[hU (S e c)];exact L.h,L.f,L.z,L.d⟩
     have Q:=I.r.lv (j,a,bs.map λb=>V.ref b.1) (ay _ bu);unfold Ov at c;rw[eQ,a9,a9,bZ]at c;rcases aG.mp c with rfl|c
     .exact⟨hC,Q.f,Q.z,Q.d⟩
     .rcases ai.mp c with o|c
      .exact B e (ay _ o)
      .rcases ai.mp c with o|o
       .rw[bJ,cm,aj]at o;subst o;refine⟨by rw[hU (λw=>u _ (ay _ bu) w.symm)];exact hv,hf,iF n.r.gr.hh N,λi P hi w=>?_⟩;obtain⟨ad,h1,_⟩:=n.r.ov;obtain⟨a1,_,_,vs1,Z,_⟩:=h1 i P hi;rw[a1]at w;have w':ad i=l:=by simpa using w
        rw[w',N]at Z;cases Z
       .exact B e (bF _ o)
    .rw[si]at s ⊢;split at s
     .rename_i v;cases s;exact⟨_,aR v⟩
     .rename_i v;exact⟨vs,by rw[aS v];exact s⟩
   .rw[a9,<-eQ];refine eR.mpr ⟨n.nd,by simp,λx hx y X w=>?_⟩;simp only[bJ,cm,aj]at X;subst X;rcases aG.mp hx with o|o
    .exact u _ (ay _ bu) (o▸w)
    .obtain⟨b,J,e3⟩:=aE.mp o;exact u (j,b) (ay _ (bx _ (aE.mpr ⟨b,J,rfl⟩))) (e3.trans w)
   .intro Y c A;rw[a9,<-eQ]at A;rcases ai.mp A with o|o
    .exact n.far Y c o
    .simp only[bJ,cm,aj]at o;exact u Y (bF _ c) o
  .exact q.elim
@[simp] noncomputable def yT(b f:Pe->M T):En->List (List T)->rL:=λρ a=>match b (kP ρ) with
 |.ok (.int k)=>(match wW a.length k with
  |some i=>(match a[i]? with
   |some ts=>(match f (kP ρ) with
    |.ok t=>if ts.length<sizeLine then .nx ρ (a.set i (ts++[t])) else .bad
    |.er C n=>.er C n
    |.bad=>.bad)
   |none=>.bad)
  |none=>.bad)
 |.er C n=>.er C n
 |_=>.bad
theorem tR{c a e:Type}{f:c×a->e}(d:∀x y z,f (x,y)=f (x,z)):∀{bs:List (c×a)} {i:Nat} {b:c×a} {z:a},bs[i]? = some b->(bs.set i (b.1,z)).map f=bs.map f
 |[],_,_,_,h=>by simp at h
 |x::bs,0,b,z,h=>by
  have:x=b:=by simpa using h
  subst this;simp only[List.set_cons_zero,bJ];rw[d x.1 z x.2]
 |x::bs,i+1,b,z,h=>by simp only[List.set_cons_succ,bJ];rw[tR d (by simpa using h)]
def IS{tk te:TE}{Z f:Pe->M T}(hk:ME K E tk Z)(l:ME K E te f):Gf K E j (wN (UF K "list" tG (vP (SW K) (mv j) tk) (ql te uO))) (yT Z f):=λF0 H0 F H σ ρ tss D ⟨a,bs,n⟩ q=>by
 obtain⟨o1,o2⟩:=n.out;refine⟨_,o1,hk F H σ (kP ρ) _ n.r.gr.fh n.r.vars ?_⟩;unfold yT at q;cases ek:Z (kP ρ) with
 |bad=>rw[ek]at q;exact q
 |er C m=>rw[ek]at q;exact kE.go q n.r.gr
 |ok kt=>
  rw[ek]at q;intro v F1 H1 g1 rv;cases kt with
  |int k=>
   dsimp only at q;rw[rv.int_inv];cases U:wW tss.length k with
   |none=>rw[U]at q;exact q.elim
   |some i=>
    rw[U]at q;dsimp only at q;cases N:tss[i]? with
    |none=>rw[N]at q;exact q.elim
    |some ts=>
     rw[N]at q;dsimp only at q;have s:=n.grow g1;obtain⟨b,y,rb⟩:=yW s.p N;obtain⟨o3,o4⟩:=s.out;have c:b∈bs:=eS.mpr ⟨i,y⟩;have Lb:=s.r.lv (j,b) (ay _ (bx _ (aE.mpr ⟨b,c,rfl⟩)));refine .inl ⟨a,_,k,.ref b.1,rfl,rfl,lS.of o4,?_,Ei Lb.h,l F1 H1 σ (kP ρ) _ s.r.gr.fh s.r.vars ?_⟩
     .unfold qx;rw[ax,sT n.p,U];show (bs.map λb=>V.ref b.1)[i]? = _;rw[aw,y];rfl
     cases ef:f (kP ρ) with
     |bad=>rw[ef]at q;exact q
     |er C m=>rw[ef]at q;exact kE.go q s.r.gr
     |ok t=>
      rw[ef]at q;dsimp only at q;split at q
      .rename_i hl;intro w X H2 Y S;have u:=s.grow Y;have L2:=u.r.lv (j,b) (ay _ (bx _ (aE.mpr ⟨b,c,rfl⟩)));have A:iB K X b.2 ts:=rb.mono Y.ff;have m1:(bs.set i (b.1,b.2++[w])).map (λb=>V.ref b.1)=bs.map λb=>V.ref b.1:=tR (λ_ _ _=>rfl) y;have m2:(bs.set i (b.1,b.2++[w])).map (·.1)=bs.map (·.1):=tR (λ_ _ _=>rfl) y;have nb:a≠b.1:=λz=>(bO.mp n.nd).1 (z▸aE.mpr ⟨b,c,rfl⟩);refine⟨b.1,b.2,w,rfl,rfl,L2.h,by rw[A.length];exact hl,q X _ σ (g1.ff.trans Y.ff) ⟨a,bs.set i (b.1,b.2++[w]),?_,n.e,xm (R:=λ(b:Addr×List V) ts=>iB K X b.2 ts) (A.append (.cons S .nil)) i u.p,by rw[m2];exact n.nd,by rw[m2];exact n.far⟩⟩;refine u.r.relt (k:=j) (xs:=b.2) (ay _ (bx _ (aE.mpr ⟨b,c,rfl⟩))) (λe l=>?_) λi' l' vs g=>?_
       .unfold Ov at l;rw[m1,eQ]at l;rcases aG.mp l with rfl|l
        .have L:=u.r.lv (j,a,bs.map λb=>V.ref b.1) (ay _ bu);exact⟨by rw[hU nb];exact L.h,L.f,L.z,L.d⟩
        .rcases ai.mp l with I|I
         .obtain⟨x,hx,rfl⟩:=aE.mp I;obtain⟨p,B⟩:=eS.mp hx;rcases iG B with⟨rfl,rfl⟩|⟨J,B⟩
          .exact⟨hC,L2.f,L2.z,L2.d⟩
          .have L:=u.r.lv (j,x) (ay _ (bx _ (aE.mpr ⟨x,eS.mpr ⟨p,B⟩,rfl⟩)));have P:x.1≠b.1:=λz=>by
            have nd:=(bO.mp n.nd).2;have h1:(bs.map (·.1))[p]? = some b.1:=by rw[aw,B,<-z];rfl
            have h2:(bs.map (·.1))[i]? = some b.1:=by rw[aw,y];rfl
            have Q:p<(bs.map (·.1)).length:=(aa.mp h1).1;exact J ((List.getElem?_inj Q nd).mp (h1.trans h2.symm))
           exact⟨by rw[hU P];exact L.h,L.f,L.z,L.d⟩
         .have L:=u.r.lv e (bF _ I);have P:e.2.1≠b.1:=λz=>n.far e I (z▸bx _ (aE.mpr ⟨b,c,rfl⟩));exact⟨by rw[hU P];exact L.h,L.f,L.z,L.d⟩
       .rw[si]at g ⊢;split at g
        .rename_i o;cases g;exact⟨_,aR o⟩
        .rename_i o;exact⟨vs,by rw[aS o];exact g⟩
      .exact q.elim
  |_=>exact q.elim
def Sr.takeL{u:Hp}{a:Addr}{xs:List V}{b:Addr×List V}{L:List (Nat×Addr×List V)}(r:Sr K ⟨u,(j,a,xs)::(j,b)::L⟩ H0 F H σ ρ)(k:∀e∈(j,a,xs)::L,e.2.1≠b.1):Sr K ⟨u,(j,a,xs)::L⟩ H0 (ja F b.1 (.lst b.2)) H σ ρ:=by
 have M:=r.lv (j,b) (bx _ bu);have A:F b.1=none:=M.f;have s:=jx (o:=.lst b.2) A;obtain⟨J,N,R⟩:=r.ov;refine⟨r.gr.take M.h A M.z,r.len,λi t q=>?_,⟨J,λi n q=>?_,R⟩,λe B=>?_,λi l I c q=>?_,r.dv.heap s λx X y Q=>⟨?_,y⟩⟩
 .obtain⟨v,e,z⟩:=r.pv i t q;exact⟨v,e,z.mono s⟩
 .obtain⟨p,C,P,m,U,S⟩:=N i n q;exact⟨p,by rw[hU (λw=>M.d i n q (by rw[p,w]))];exact C,P,m,U,S.mono s⟩
 .have L:=r.lv e (by
   rcases aG.mp B with q|q
   .exact q▸bu
   .exact bx _ (bx _ q))
  exact⟨L.h,by rw[hU (k e B)];exact L.f,L.z,L.d⟩
 .refine r.sl i l I ?_ q;dsimp only at c ⊢;rw[cw]at c ⊢;cases g:i==j with
  |true=>rw[g]at c;exact c
  |false=>rw[g]at c;dsimp only at c ⊢;rw[cw,g];exact c
 .rw[hU (λw=>by have:=M.h;dsimp only at this;rw[<-w,y]at this;cases this)];exact Q
theorem freeze{m:Hp}{a:Addr}{xs:List V}{L:List (Nat×Addr×List V)}:∀{bs:List (Addr×List V)} {d:List (List T)} {F:Hp},Sr K ⟨m,(j,a,xs)::(bs.map (λb=>(j,b))++L)⟩ H0 F H σ ρ->Paired (λ(b:Addr×List V) ts=>iB K F b.2 ts) bs d->(a::bs.map (·.1)).Nodup->(∀e∈L,e.2.1∉a::bs.map (·.1))->
  ∃k,iq F k/\Sr K ⟨m,(j,a,xs)::L⟩ H0 k H σ ρ/\iB K k (bs.map λb=>V.ref b.1) (d.map T.lst)
 |[],_,F,r,.nil,_,_=>⟨F,.refl _,r,.nil⟩
 |b::bs,_,F,r,.cons h p,nd,far=>by
  have t:F b.1=none:=(r.lv (j,b) (bx _ bu)).f;have s:=jx (o:=.lst b.2) t;rw[bJ]at nd far;have c:=bO.mp nd;have i:=bO.mp c.2;have u:=r.takeL λe g w=>by
   rcases aG.mp g with rfl|g
   .exact c.1 (w▸bu)
   .rcases ai.mp g with q|q
    .obtain⟨x,n,rfl⟩:=aE.mp q;exact i.1 (w▸aE.mpr ⟨x,n,rfl⟩)
    .exact far e q (w▸bx _ bu)
  obtain⟨k,l,v,y⟩:=freeze u (Paired.imp' (λ_ _ z=>z.mono s) p) (bO.mpr ⟨λz=>c.1 (bx _ z),i.2⟩) λe g z=>far e g (by
   rcases aG.mp z with q|q
   .exact q▸bu
   .exact bx _ (bx _ q))
  exact⟨k,s.trans l,v,.cons (.lst (l _ _ hC) (h.mono (s.trans l))) y⟩
def On.freeze{b:List (List T)}{a:Addr}{bs:List (Addr×List V)}(n:On K F0 H0 F H σ ρ j b a bs):∃c,iq F c/\Sr K F0 H0 c H σ (ρ.set j (some (.o (b.map T.lst)))):=by obtain⟨c,s,r,q⟩:=L3.freeze n.r n.p n.nd n.far;exact⟨c,s,r.unhide n.e q λe d w=>n.far e d (w▸bu)⟩
noncomputable def qR(m:T->En->Option En)(g:En->List (List T)->rL)(j:Nat):List T->En->List (List T)->rL
 |[],ρ,tss=>.nx ρ tss
 |t::ts,ρ,tss=>match m t ρ with
  |none=>.bad
  |some ρ1=>match ρ1[j]? with
   |some none=>(match g ρ1 tss with
    |.nx ρ2 tss2=>qR m g j ts ρ2 tss2
    |.ct ρ2 tss2=>qR m g j ts ρ2 tss2
    |o=>o)
   |_=>.bad
theorem EL{tb:TS}{J:It}{g:TG}{m:T->En->Option En}{I:En->List (List T)->rL}{its:List T}{v:List (List T)}(hg:Iu K g m)(hb:Gf K E j tb I)(w:xu K J its F1)(n:Ns K F0 H0 F H σ ρ j v)(s1:iq F1 F)
  (q:(qR m I j its ρ v).res K E j F0 H0 F D):∃W:Nat->Nat->St->Hp->Prop,(∃m,W 0 m σ H)/\∀i m σ H,W i m σ H->
 (J.stop i H/\D.nx σ H)\/(J.go i H/\∃N:St->Hp->Prop,(∀b f,N b f->∃m',m'<m/\W (i+1) m' b f)/\∀x f,J.yld i H x f->g x σ f λσ2 H2=>tb {D with nx:=N,ct:=N,bk:=D.nx} σ2 H2):=by
 refine⟨λi k b f=>i<=its.length/\k=its.length-i/\∃l h d,iq F1 l/\Ns K F0 H0 l f b h j d/\(qR m I j (its.drop i) h d).res K E j F0 H0 l D,⟨_,bL _,rfl,F,ρ,v,s1,n,by simpa using q⟩,?_⟩
 rintro i k Q U ⟨hi,rfl,F2,A,t,B,⟨a,bs,L⟩,c⟩
 by_cases o:i<its.length
 .right;refine⟨w.go i U (B.trans L.r.gr.fh) o,λb f=>∃l h d,iq F1 l/\Ns K F0 H0 l f b h j d/\(qR m I j (its.drop (i+1)) h d).res K E j F0 H0 l D,λb f z=>⟨its.length-(i+1),by omega,o,rfl,z⟩,λx f y=>?_⟩;have et:=ag o;obtain⟨F3,P,rp⟩:=w.yld i _ F2 U x f B L.r.gr.fh et y;rw[cS o]at c;unfold qR at c;cases Y:m its[i] A with
  |none=>rw[Y]at c;exact c.elim
  |some ρ3=>
   rw[Y]at c;have X:=L.grow P;refine hg ⟨F0.hp,Ov j a bs++F0.lt⟩ H0 F3 f Q A x _ ρ3 _ X.r rp Y λb r'=>?_;dsimp only at c;split at c
   .rename_i e3;refine hb F0 H0 F3 f b ρ3 t _ ⟨a,bs,r',e3,X.p,X.nd,X.far⟩ ?_;cases S:I ρ3 t with
    |bad=>rw[S]at c;exact c.elim
    |nx ρ4 tss4=>rw[S]at c;exact λl Z R s u=>⟨l,ρ4,tss4,(B.trans P.ff).trans s,u,rL.res.go c (P.ff.trans s)⟩
    |ct ρ4 tss4=>rw[S]at c;exact λl Z R s u=>⟨l,ρ4,tss4,(B.trans P.ff).trans s,u,rL.res.go c (P.ff.trans s)⟩
    |er C n=>rw[S]at c;exact c
   .exact c.elim
 .left;have e:i=its.length:=by omega
  subst e;refine⟨w.stop U (B.trans L.r.gr.fh),?_⟩;rw[eB]at c;exact c F2 U Q (.refl _) ⟨a,bs,L⟩
@[simp] noncomputable def Pz(j:Nat):rL->O
 |.nx ρ tss=>.nx (ρ.set j (some (.o (tss.map T.lst))))
 |.er C n=>.er C n
 |_=>.bad
@[simp] noncomputable def zI(b:Pe->M (List T))(j:Nat)(m:T->En->Option En)(g:En->List (List T)->rL):En->O:=λρ=>match ρ[j]? with
 |some (some (.o []))=>.of (b (kP ρ)) λa=>Pz j (qR m g j a (ρ.set j none) [])
 |_=>.bad
def NA{i:TS}{w:TI}{o:Pe->M (List T)}{g:TG}{m:T->En->Option En}{c:En->List (List T)->rL}(I:MI K E w o)(x:Iu K g m)(p:Gf K E j i c):MS K E (wJ w g i) (zI o j m c):=λF0 H0 F H σ ρ D r q=>by
 unfold zI at q;split at q
 .rename_i e;obtain⟨l,L,a,d,z,t,u⟩:=r.hide e;cases z;have A:j<ρ.length:=(aa.mp e).1;have n:On K F0 H0 F H σ (ρ.set j none) j [] l []:=⟨u,by rw[List.getElem?_set_self A],.nil,by simp,λB v w=>t B v (by simpa using w)⟩;refine I F H σ (kP ρ) _ r.gr.fh r.vars ((O.res_of q).mono (λb z J y k h f=>EL x p f ⟨l,[],n.grow h⟩ (.refl _) (rL.res.go ?_ h.ff)) λC n z=>z.go r.gr);cases eo:qR m c j b (ρ.set j none) [] with
  |bad=>rw[eo]at z;exact z.elim
  |nx ρ2 tss2=>rw[eo]at z;exact λy k σ' s ⟨a,bs,n2⟩=>let ⟨F2,s2,r2⟩:=n2.freeze;z F2 k σ' (s.trans s2) r2
  |ct ρ2 tss2=>rw[eo]at z;exact z.elim
  |er C m=>rw[eo]at z;exact z
 .exact q.elim
@[simp] def Ki:En->List (List T)->rL:=λρ a=>.nx ρ a
def JL:Gf K E j yO Ki:=λF0 H0 F H σ ρ a D n q=>q F H σ (.refl _) n
end
structure SL(K:W.Frag)(E:XK)(X:Cx)(j:Nat)(st:Stmt)(t:TS)(g:En->List (List T)->rL):Prop where
 ps:PS X st t
 ms:Gf K E j t g
structure E8(K:W.Frag)(E:XK)(X:Cx)(j:Nat)(sts:List Stmt)(t:TS)(g:En->List (List T)->rL):Prop where
 ps:Bg X sts t
 ms:Gf K E j t g
section
variable {K:W.Frag}{E:XK}{X:Cx}{st:Stmt}{mF A B:List Stmt}{t u:TS}{g g':En->List (List T)->rL}
def Md j:E8 K E X j [] yO Ki:=⟨AX,JL⟩
def tF{j:Nat}(h:SL K E X j st t g):E8 K E X j [st] t g:=⟨pI h.ps,h.ms⟩
def qS{j:Nat}(h:SL K E X j st t g)(h':E8 K E X j mF u g'):E8 K E X j (st::mF) (AG t u) (wj g g'):=⟨ph h.ps h'.ps,NF h.ms h'.ms⟩
def tE{a:En->O} j (h:xP K E X st t a):SL K E X j st t (qJ j a):=⟨h.ps,J4 h.ms⟩
def Lr{j:Nat}{c:Expr}{a:TT}{b:Pe->M Bool}{pos:Pos}(d:Ee K E X c a b)(h:E8 K E X j A t g)(h':E8 K E X j B u g'):SL K E X j (.If c A B pos) (GT a t u) (OF b g g'):=⟨Jx d.pt h.ps h'.ps,QN d.mt h.ms h'.ms⟩
def Il{w:TI}{e:Pe->M (List T)}{b:TG}{m:T->En->Option En}{a it:Expr}{pos:Pos} j (i:PassesOwn (model X.prog X.w) X.A X.env X.xe) (k:X.calm=true) (d:Ig K E X a it w e) (f:RP K X a b m) (c:E8 K E X j A t g) (h:∀x,foldedSetIterable it X.env x=pure x:=by intro _;rfl):xP K E X (.For a it A [] pos) (wJ w b t) (zI e j m g):=⟨uN i k d.pi f.pg c.ps h,NA d.mi f.mg c.ms⟩
variable {e b:Expr}{te tb:TE}{ff:Pe->M (List T)}{fe fb:Pe->M T}{x:Str}{p p2 apos pos pos':Pos}
def J3 j (l:PE X (.Name x p) (mv j)) (i:GQ K E X e te ff) (h:starEach [e] X.env=(false,eval e X.env)::starEach [] X.env:=by rfl) (k:X.K=K:=by rfl)
  (c:attributeBase (.Name x p) "append" X.env (eval (.Name x p) X.env)=eval (.Name x p) X.env:=by rfl)
  (d:((backTo pos (starEach [e] X.env)).all (λx=>!x.1)&&(backToKw pos (keywordEach [] X.env)).all (λx=>x.1.isSome)&&decide (([e]:List Expr).length+([]:List Keyword).length+(if ([]:List Keyword).isEmpty then 0 else 1)<30))=true:=by rfl)
  (a:(apos.endLine==pos.line)=true:=by rfl) (hplain:(backTo pos (starEach [] X.env)).any (·.1)=false:=by rfl) (f:swapsWith (.Call (.Attribute (.Name x p) "append" apos) [e] [] pos) none pos'.line X.env=pure false:=by rfl) :
  SL K E X j (.Expr (.Call (.Attribute (.Name x p) "append" apos) [e] [] pos) pos') (wN (NN K j te)) (yD ff):=by
 subst k;exact⟨BE (Jy PySem.F.plainAttrs_list PySem.F.slot_list_append PySem.F.type_list_append uM l (m9 i.pe sM h) c d a h hplain) f,Lk i.mf⟩
def L7 j (n:PE X (.Name x p) (mv j)) (k:Pm K E X b tb fb) (l:Pm K E X e te fe) (f:Ap b:=by intro _ _;rfl) (i:starEach [e] X.env=(false,eval e X.env)::starEach [] X.env:=by rfl) (m:X.K=K:=by rfl)
  (c:attributeBase (.Subscript (.Name x p) b p2) "append" X.env (eval (.Subscript (.Name x p) b p2) X.env)=eval (.Subscript (.Name x p) b p2) X.env:=by rfl)
  (d:((backTo pos (starEach [e] X.env)).all (λx=>!x.1)&&(backToKw pos (keywordEach [] X.env)).all (λx=>x.1.isSome)&&decide (([e]:List Expr).length+([]:List Keyword).length+(if ([]:List Keyword).isEmpty then 0 else 1)<30))=true:=by rfl)
  (a:(apos.endLine==pos.line)=true:=by rfl) (hplain:(backTo pos (starEach [] X.env)).any (·.1)=false:=by rfl) (h:swapsWith (.Call (.Attribute (.Subscript (.Name x p) b p2) "append" apos) [e] [] pos) none pos'.line X.env=pure false:=by rfl) :
  SL K E X j (.Expr (.Call (.Attribute (.Subscript (.Name x p) b p2) "append" apos) [e] [] pos) pos') (wN (UF K "list" tG (vP (SW K) (mv j) tb) (ql te uO))) (yT fb fe):=by
 subst m;exact⟨BE (Jy PySem.F.plainAttrs_list PySem.F.slot_list_append PySem.F.type_list_append uM (Fc Lp n k.pe f) (m9 l.pe sM i) c d a i hplain) h,IS k.me l.me⟩
end
end L3
namespace CL
open PySem L2 L3
structure Cs where
 Cutting:Addr
 Desk:Addr
 CutError:Addr
 NoCutting:Addr
 NoTable:Addr
 NoFraction:Addr
 NoSpot:Addr
 NoSigns:Addr
 NoLand:Addr
 NoFace:Addr
 NoNumber:Addr
 NoText:Addr
 NoDeed:Addr
def t9(c:Cs):En->O:=(iD (setO 2 (kn (ig uh (gR 0) (gR 1))))
  (iD (setO 0 (kn (gR 1)))
  (setO 1 (kn (gR 2)))))
def uR(c:Cs):En->O:=(iD (λa=>mD (jl (ig (iM true) (gR 1) (cM (.int 0)))) (t9 c) ((λa=>match a with|_::some (.p (.int j))::_=>j.natAbs+1|_=>0) a) a)
  (jg (kv uS (gQ (gR 0) gW))))
def jr(c:Cs):List T->M T:=nY 2 3 (uR c)
def oH(c:Cs):En->O:=(iD (pW (jl (ig PB (gR 1) (kv kZ (gQ (gR 0) gW)))) (jg (ig jD (gR 0) (gR 1))) jE)
  (jg (cM (.int 0))))
def jG(c:Cs):List T->M T:=nY 2 2 (oH c)
def BW(c:Cs):En->O:=(jg (Mh (vB "int" (gR 0)) (GP (vB "bool" (gR 0)))))
def lh(c:Cs):List T->M T:=nY 1 1 (BW c)
def yd(c:Cs):En->O:=(Nc 0 1 (gQ (gR 1) (gQ (ig uh (gR 0) (gR 1)) gW)))
def A0(c:Cs):En->O:=(iD (setO 0 (kn (kv uS (gQ (gR 0) gW))))
  (iD (setO 1 (kn (kv uS (gQ (gR 1) gW))))
  (iD (λa=>mD (jl (ig Ir (gR 1) (cM (.int 0)))) (yd c) ((λa=>match a with|_::some (.p (.int j))::_=>j.natAbs+1|_=>0) a) a)
  (jg (gR 0)))))
def l6(c:Cs):List T->M T:=nY 2 2 (A0 c)
def Ek(c:Cs):En->O:=(jg (Mh (vB "int" (gR 0)) (GP (vB "bool" (gR 0)))))
def kW(c:Cs):List T->M T:=nY 1 1 (Ek c)
def Hy(c:Cs):En->O:=(iD (pW (jl (ig Ir (gR 0) (cM (.int 0)))) (jg (cM (.int 1))) jE)
  (iD (pW (jl (ig PB (gR 0) (cM (.int 0)))) (jg (xV (λi=>.int (-i)) (cM (.int 1)))) jE)
  (jg (cM (.int 0)))))
def pE(c:Cs):List T->M T:=nY 1 1 (Hy c)
def HJ(c:Cs):En->O:=(jg (Mh (hZ (gQ (gR 0) gW) (kW c)) (U9 Ut Ut (cM (.int 1)) (gR 0) (cM (.int 3)))))
def nh(c:Cs):List T->M T:=nY 1 1 (HJ c)
def uU(c:Cs):Pe->M T:=(hZ (gQ (gR 0) gW) (kW c))
def uD(c:Cs):Pe->M T:=(ig (iM true) (gR 0) (cM (.int 0)))
def JP(c:Cs):En->O:=(iD (pW (Bo (oK (jl (vB "tuple" (gR 1)))) (jl (ig (iM true) (kv kZ (gQ (gR 1) gW)) (ig jw (gR 0) (cM (.int 1)))))) (jg (cM (.bl false))) jE)
  (iD (pW (oK (jl (kv xr (gQ (jy (lB [none] (jK (gR 1)) (ku 0) (λ_=>.ok true) (uU c))) gW)))) (jg (cM (.bl false))) jE)
  (jg (kv tm (gQ (jy (lB [none] (jK (kR (gR 1) (λ_=>.ok none) (ju (gR 0)))) (ku 0) (λ_=>.ok true) (uD c))) gW)))))
def oJ(c:Cs):List T->M T:=nY 2 2 (JP c)
def nQ(c:Cs):En->O:=(setO 1 (kn (ig jw (gR 1) (cM (.int 1)))))
def yx(c:Cs):En->O:=(iD (setO 1 (kn (cM (.int 0))))
  (iD (λa=>mD (jl (ig (iM false) (ig jD (gR 0) (gR 1)) (cM (.int 0)))) (nQ c) ((λa=>match a with|some (.p (.tup ts))::_=>ts.length+1|_=>0) a) a)
  (jg (gR 1))))
def jW(c:Cs):List T->M T:=nY 1 2 (yx c)
def rW(c:Cs):Pe->M T:=(ig (iM false) (ig mU (gR 0) (ig jD (gR 2) (gR 3))) (ig mU (gR 1) (ig jD (gR 4) (gR 3))))
def BD(c:Cs):En->O:=(iD (setO 2 (kn (hZ (gQ (gR 0) gW) (jW c))))
  (jg (kv xr (gQ (jy (lB [none,none,some 1,some 2,some 0] (n0 (gQ (gR 0) (gQ (gR 1) gW))) (oT 2 (je (ku 0) (je (ku 1) oR))) (λ_=>.ok true) (rW c))) gW))))
def l0(c:Cs):List T->M T:=nY 2 3 (BD c)
def pZ(c:Cs):Pe->M T:=(hZ (gQ (gR 0) (gQ (gR 1) gW)) (l0 c))
def CU(c:Cs):En->O:=(iD (pW (Bo (jl (ig S3 (kv kZ (gQ (gR 1) gW)) (cM (.int 7)))) (oK (jl (hZ (gQ (gR 0) (gQ (gR 2) gW)) (oJ c))))) (jg (cM (.bl false))) jE)
  (jg (GP (kv tm (gQ (jy (lB [none,some 2] (jK (gR 1)) (ku 0) (λ_=>.ok true) (pZ c))) gW)))))
def lV(c:Cs):List T->M T:=nY 3 3 (CU c)
def qd(c:Cs):En->O:=(iD (pW (oK (jl (hZ (gQ (gR 0) (gQ (gR 2) (gQ (gR 3) gW))) (lV c)))) (λ_=>.bad) jE)
  (tY 2 (kn (kv lZ (gQ (gR 3) gW)))))
def xD(c:Cs):En->O:=(iD (pW (Bo (oK (jl (hZ (gQ (gR 0) gW) (nh c)))) (oK (jl (vB "list" (gR 1))))) (λ_=>.bad) jE)
  (iD (n5 2 (qt (lstM gW)))
  (iD (vE (jK (gR 1)) (ot 3) (qd c))
  (jg (kv lZ (gQ (gR 2) gW))))))
def j9(c:Cs):List T->M T:=nY 2 4 (xD c)
def j8(c:Cs):List T->M T:=zr c.Cutting 2 "own_cuts" "own_dims" (hZ (gQ (gR 1) (gQ (gR 2) gW)) (j9 c)) (gR 1)
def xE(c:Cs):En->O:=(jg (Ej c.Cutting "own_dims" (gR 0)))
def iH(c:Cs):List T->M T:=nY 1 1 (xE c)
def w6(c:Cs):En->O:=(xO (Nt qM (gQ (Ej c.Cutting "own_cuts" (gR 0)) gW)))
def jb(c:Cs):List T->M (List T):=AM 1 1 (w6 c)
def CG(c:Cs):En->O:=(setO 3 (kn (ig vk (gR 3) (gR 2))))
def E5(c:Cs):En->O:=(iD (pW (jl (ig S3 (gR 0) (ig Ny (cM (.int 10)) (cM (.int 18))))) (iD (setO 3 (kn (gR 0)))
  (iD (u0 (kC (gQ (gR 1) gW)) (ot 4) (CG c))
  (jg (ig uh (gR 3) (gR 2))))) jE)
  (iD (setO 5 (kn (ig uh (ig mU (ig jw (ig jw (ig uh (gR 0) (cM (.int 1000000007))) (ig mU (cM (.int 1009)) (gR 1))) (cM (.int 17))) (cM (.int 69621))) (cM (.int 2147483647)))))
  (iD (setO 5 (kn (ig uh (ig jw (ig jw (ig mU (gR 5) (gR 5)) (ig mU (cM (.int 40503)) (gR 1))) (cM (.int 5))) (cM (.int 2147483629)))))
  (jg (ig uh (ig vk (ig uh (ig mU (gR 5) (cM (.int 48271))) (cM (.int 2147483647))) (cM (.int 32))) (gR 2))))))
def iK(c:Cs):List T->M T:=nY 3 6 (E5 c)
def uY(c:Cs):En->O:=(pW (jl (ig (iM true) (ig mU (ig jD (gR 0) (gR 2)) (ig jD (gR 1) (gR 3))) (ig mU (ig jD (gR 0) (gR 3)) (ig jD (gR 1) (gR 2))))) (jg (cM (.bl false))) jE)
def Ci(c:Cs):En->O:=(u0 (kC (gQ (gR 2) gW)) (ot 3) (uY c))
def E2(c:Cs):En->O:=(iD (u0 (kC (gQ (kv kZ (gQ (gR 0) gW)) gW)) (ot 2) (Ci c))
  (jg (cM (.bl true))))
def jJ(c:Cs):List T->M T:=nY 2 4 (E2 c)
def ux(c:Cs):En->O:=(iD (setO 1 (kn (hZ (gQ (gR 1) (gQ (gR 2) gW)) (jr c))))
  (pW (jl (ig (iM false) (gR 1) (cM (.int 1)))) (jg (gR 0)) jE))
def Hl(c:Cs):Pe->M T:=(ig vk (gR 0) (gR 1))
def KA(c:Cs):En->O:=(iD (setO 1 (kn (cM (.int 0))))
  (iD (vE (jK (gR 0)) (ot 2) (ux c))
  (iD (pW (jl (ig (iM false) (gR 1) (cM (.int 0)))) (jg (gR 0)) jE)
  (jg (kv lZ (gQ (jy (lB [none,some 1] (jK (gR 0)) (ku 0) (λ_=>.ok true) (Hl c))) gW))))))
def nW(c:Cs):List T->M T:=nY 1 3 (KA c)
def EN(c:Cs):Pe->M T:=(ig jw (ig mU (gR 2) (gR 0)) (ig mU (gR 3) (gR 1)))
def Hc(c:Cs):En->O:=(iD (pW (jl (ig (iM false) (ig jD (gR 0) (gR 2)) (cM (.int 0)))) (jg (gR 0)) jE)
  (iD (setO 3 (kn (kv uS (gQ (ig jD (gR 1) (gR 2)) gW))))
  (iD (setO 4 (kn (ig mU (xV (λi=>.int (-i)) (ig jD (gR 0) (gR 2))) (hZ (gQ (ig jD (gR 1) (gR 2)) gW) (pE c)))))
  (jg (hZ (gQ (kv lZ (gQ (jy (lB [none,none,some 3,some 4] (n0 (gQ (gR 0) (gQ (gR 1) gW))) (oT 2 (je (ku 0) (je (ku 1) oR))) (λ_=>.ok true) (EN c))) gW)) gW) (nW c))))))
def kJ(c:Cs):List T->M T:=nY 3 5 (Hc c)
def sX(c:Cs):En->O:=(setO 0 (kn (hZ (gQ (gR 0) (gQ (gR 3) (gQ (gR 2) gW))) (kJ c))))
def He(c:Cs):En->O:=(iD (vE (jK (gR 1)) (qL 2 (kc (ot 2) (kc (ot 3) qs))) (sX c))
  (jg (gR 0)))
def kD(c:Cs):List T->M T:=nY 2 4 (He c)
def rR(c:Cs):Pe->M T:=(oY (gQ (gR 0) (gQ (hZ (gQ (gR 1) (gQ (gR 2) (gQ (gR 3) gW))) (kJ c)) gW)))
def AC(c:Cs):En->O:=(xO (wa (jy (lB [none,none,some 1,some 2] (jK (gR 0)) (oT 2 (je (ku 0) (je (ku 1) oR))) (λ_=>.ok true) (rR c))) (jy (lstM (gQ (oY (gQ (gR 2) (gQ (gR 1) gW))) gW)))))
def lx(c:Cs):List T->M (List T):=AM 3 3 (AC c)
def m5(c:Cs):Pe->M T:=(gR 0)
def lG(c:Cs):En->O:=(iD (setO 5 (kn (hZ (gQ (gR 4) (gQ (gR 2) gW)) (kD c))))
  (iD (setO 6 (kn (jy (lB [none,some 5] (kC (gQ (gR 1) gW)) (ku 0) (jl (ig (iM true) (ig jD (gR 1) (gR 0)) (cM (.int 0)))) (m5 c)))))
  (pW (jl (ig (iM false) (gR 6) (jy (lstM gW)))) (tY 3 (kn (gR 5))) (setO 2 (kn (jy (kL (gQ (gR 2) (gQ (gR 5) (gQ (ig jD (gR 6) (cM (.int 0))) gW))) (lx c))))))))
def sj(c:Cs):En->O:=(iD (setO 2 (kn (jy (lstM gW))))
  (iD (n5 3 (qt (lstM gW)))
  (iD (vE (jK (gR 0)) (ot 4) (lG c))
  (jg (oY (gQ (gR 2) (gQ (gR 3) gW)))))))
def i5(c:Cs):List T->M T:=nY 2 7 (sj c)
def vD(c:Cs):En->O:=(jg (ig jw (kR (gR 0) (λ_=>.ok none) (ju (gR 1))) (kR (gR 0) (ju (ig jw (gR 1) (cM (.int 1)))) (λ_=>.ok none))))
def qf(c:Cs):List T->M T:=nY 2 2 (vD c)
def RK(c:Cs):En->O:=(jg (kv kZ (gQ (ig jD (hZ (gQ (gR 0) (gQ (gR 1) gW)) (i5 c)) (cM (.int 0))) gW)))
def sP(c:Cs):List T->M T:=nY 2 2 (RK c)
def DH(c:Cs):Pe->M T:=(ig jD (gR 1) (gR 0))
def wC(c:Cs):Pe->M T:=(kv tm (gQ (gR 0) gW))
def wU(c:Cs):Pe->M T:=(gR 0)
def HZ(c:Cs):En->O:=(iD (setO 3 (kn (hZ (gQ (jy (lB [none,some 0] (jK (gR 2)) (ku 0) (λ_=>.ok true) (DH c))) (gQ (gR 1) gW)) (i5 c))))
  (iD (pW (jl (kv tm (gQ (jy (lB [none] (jK (ig jD (gR 3) (cM (.int 1)))) (ku 0) (λ_=>.ok true) (wC c))) gW))) (jg (cM .non)) jE)
  (iD (setO 4 (kn (ig jD (gR 3) (cM (.int 0)))))
  (iD (setO 5 (kn (jy (lB [none,none,some 4] (wG (gQ (gR 0) gW)) (oT 2 (je (ku 0) (je (ku 1) oR))) (oK (jl (kv tm (gQ (hZ (gQ (gR 1) (gQ (gR 2) gW)) (kD c)) gW)))) (wU c)))))
  (jg (oY (gQ (ig qh (gR 1) (kv kZ (gQ (gR 4) gW))) (gQ (kv lZ (gQ (gR 5) gW)) gW))))))))
def j6(c:Cs):List T->M T:=nY 3 6 (HZ c)
def Nq(c:Cs):En->O:=(iD (setO 1 (kn (jy (sV c.Cutting "cuts" (gR 0) gW (jb c)))))
  (iD (setO 2 (kn (qP c.Cutting "dims" (gR 0) gW (iH c))))
  (λa=>if a.length=7 then Hr (hZ (gQ (gR 1) (gQ (gR 2) (gQ (jy (lstM gW)) gW))) (j6 c)) (hZ (gQ (gR 1) (gQ (gR 2) (gQ (ig jw (ig jD (gR 5) (cM (.int 1))) (oY (gQ (gR 4) gW))) gW))) (j6 c)) (kC (gQ (kv kZ (gQ (gR 1) gW)) gW)) 3 4 5 6 a else .bad)))
def pM(c:Cs):List T->M (List T):=AM 1 7 (Nq c)
def t6(c:Cs):Pe->M T:=(ig qh (hZ (gQ (gR 2) (gQ (ig jw (ig jw (cM (.int 4)) (ig mU (cM (.int 4)) (gR 3))) (gR 0)) (gQ (ig jw (ig mU (cM (.int 2)) (gR 1)) (cM (.int 1))) gW))) (iK c)) (gR 1))
def ug(c:Cs):Pe->M T:=(ig jw (gR 0) (ig mU (gR 2) (gR 1)))
def CK(c:Cs):En->O:=(iD (setO 4 (kn (ig jD (jy (lstM (gQ (cM (.int 1)) (gQ (cM (.int 2)) (gQ (cM (.int 3)) (gQ (cM (.int 5)) (gQ (cM (.int 1000)) gW))))))) (hZ (gQ (gR 0) (gQ (cM (.int 2)) (gQ (cM (.int 5)) gW))) (iK c)))))
  (iD (n5 5 (qt (lB [none,some 4,some 0,some 1] (kC (gQ (ig jw (gR 2) (cM (.int 1))) gW)) (ku 0) (λ_=>.ok true) (t6 c))))
  (iD (setO 6 (kn (hZ (gQ (gR 0) (gQ (ig jw (cM (.int 40)) (gR 1)) (gQ (cM (.int 6)) gW))) (iK c))))
  (iD (pW (yo (jl (ig (iM false) (gR 6) (cM (.int 1)))) (jl (ig (iM true) (gR 3) (jy (lstM gW))))) (n5 5 (uA (wa (jy (Nt qM (gQ (kR (ig jD (gR 3) (hZ (gQ (gR 0) (gQ (ig jw (cM (.int 50)) (gR 1)) (gQ (kv kZ (gQ (gR 3) gW)) gW))) (iK c))) (λ_=>.ok none) (ju (gR 2))) gW))) (kR (gR 5) (ju (gR 2)) (λ_=>.ok none))))) jE)
  (iD (pW (jl (ig (iM false) (gR 6) (cM (.int 2)))) (yh 5 (vK (gR 2)) (vK (cM (.int 0)))) jE)
  (iD (pW (yo (jl (ig (iM false) (gR 6) (cM (.int 3)))) (jl (ig Ir (kv kZ (gQ (gR 3) gW)) (cM (.int 1))))) (iD (setO 7 (kn (ig jD (gR 3) (hZ (gQ (gR 0) (gQ (ig jw (cM (.int 50)) (gR 1)) (gQ (ig qh (kv kZ (gQ (gR 3) gW)) (cM (.int 1))) gW))) (iK c)))))
  (iD (setO 8 (kn (ig jw (cM (.int 1)) (hZ (gQ (gR 0) (gQ (ig jw (cM (.int 60)) (gR 1)) (gQ (cM (.int 3)) gW))) (iK c)))))
  (n5 5 (qt (lB [none,none,some 8] (n0 (gQ (ig jD (gR 3) (xV (λi=>.int (-i)) (cM (.int 1)))) (gQ (gR 7) gW))) (oT 2 (je (ku 0) (je (ku 1) oR))) (λ_=>.ok true) (ug c)))))) jE)
  (iD (pW (jl (ig (iM false) (kR (gR 5) (λ_=>.ok none) (ju (gR 2))) (jy (Cf (jy (lstM (gQ (cM (.int 0)) gW))) (gR 2))))) (yh 5 (vK (hZ (gQ (gR 0) (gQ (ig jw (cM (.int 60)) (gR 1)) (gQ (gR 2) gW))) (iK c))) (vK (cM (.int 1)))) jE)
  (jg (kv lZ (gQ (gR 5) gW))))))))))
def kY(c:Cs):List T->M T:=nY 4 9 (CK c)
def nI(c:Cs):Pe->M T:=(gR 0)
def qD(c:Cs):En->O:=(iD (setO 5 (vK (hZ (gQ (gR 0) (gQ (gR 4) (gQ (gR 2) (gQ (gR 3) gW)))) (kY c))))
  (pW (jl (ig (iM false) (jy (lB [none,some 5] (jK (gR 3)) (ku 0) (jl (hZ (gQ (gR 0) (gQ (gR 1) gW)) (jJ c))) (nI c))) (jy (lstM gW)))) (tY 3 (kn (gR 5))) jE))
def yj(c:Cs):En->O:=(iD (setO 2 (kn (ig jD (jy (lstM (gQ (cM (.int 1)) (gQ (cM (.int 2)) (gQ (cM (.int 2)) (gQ (cM (.int 3)) (gQ (cM (.int 3)) gW))))))) (hZ (gQ (gR 0) (gQ (cM (.int 0)) (gQ (cM (.int 5)) gW))) (iK c)))))
  (iD (n5 3 (qt (lstM gW)))
  (iD (u0 (kC (gQ (hZ (gQ (gR 0) (gQ (cM (.int 1)) (gQ (ig jw (gR 1) (cM (.int 1))) gW))) (iK c)) gW)) (ot 4) (qD c))
  (jg (oY (gQ (gR 2) (gQ (gR 3) gW)))))))
def kG(c:Cs):List T->M T:=nY 2 6 (yj c)
def se(c:Cs):Pe->M T:=(ig qh (ig mU (ig jD (gR 3) (gR 4)) (gR 0)) (ig mU (gR 2) (gR 1)))
def mK(c:Cs):En->O:=(iD (setO 6 (kn (ig jD (gR 3) (gR 4))))
  (setO 3 (kn (jy (lB [none,none,some 6,some 5,some 4] (n0 (gQ (gR 3) (gQ (gR 5) gW))) (oT 2 (je (ku 0) (je (ku 1) oR))) (λ_=>.ok true) (se c))))))
def rS(c:Cs):Pe->M T:=(gR 0)
def oz(c:Cs):En->O:=(iD (setO 3 (kn (jy (Nt qM (gQ (gR 2) gW)))))
  (iD (rh 1 (qL 2 (kc (ot 4) (kc (ot 5) qs))) (mK c))
  (iD (setO 7 (kn (jy (lB [none,some 3] (kC (gQ (kv kZ (gQ (gR 3) gW)) gW)) (ku 0) (jl (ig (iM true) (ig jD (gR 1) (gR 0)) (cM (.int 0)))) (rS c)))))
  (pW (jl (ig (iM true) (gR 7) (jy (lstM gW)))) (tY 1 (kn (oY (gQ (ig jD (gR 7) (cM (.int 0))) (gQ (gR 3) gW))))) jE))))
def A6(c:Cs):En->O:=(iD (n5 1 (qt (lstM gW)))
  (iD (vE (jK (gR 0)) (ot 2) (oz c))
  (jg (kv kZ (gQ (gR 1) gW)))))
def kq(c:Cs):List T->M T:=nY 1 8 (A6 c)
def E3(c:Cs):Pe->M T:=(ig (G7 false) (gR 0) (ig jD (gR 1) (cM (.int 1))))
def HR(c:Cs):En->O:=(jg (kv xr (gQ (jy (lB [none,some 0] (jK (ig jD (gR 1) (cM (.int 1)))) (ku 0) (λ_=>.ok true) (E3 c))) gW)))
def nt(c:Cs):List T->M T:=nY 2 2 (HR c)
def m4(c:Cs):Pe->M T:=(gR 1)
def mZ(c:Cs):En->O:=(iD (zv 3 (uA (lB [none,none,some 2] (n0 (gQ (gR 0) (gQ (gR 1) gW))) (oT 2 (je (ku 0) (je (ku 1) oR))) (jl (hZ (gQ (gR 2) (gQ (gR 0) gW)) (nt c))) (m4 c))))
  (tY 1 (kn (xV (λi=>.int (-i)) (kv vF (gQ (gR 3) gW))))))
def sJ(c:Cs):En->O:=(iD (n5 1 (qt (lstM (gQ (cM (.int 1)) gW))))
  (iD (vE (jK (kR (gR 0) (ju (cM (.int 1))) (λ_=>.ok none))) (ot 2) (mZ c))
  (tQ 1)))
def iL(c:Cs):List T->M (List T):=AM 1 4 (sJ c)
def xn(c:Cs):En->O:=(xO (kL (gQ (jy (kL (gQ (gR 0) gW) (pM c))) gW) (iL c)))
def jz(c:Cs):List T->M (List T):=AM 1 1 (xn c)
def vi(c:Cs):En->O:=(yh 1 (vK (ig jD (gR 3) (cM (.int 0)))) (vK (ig jw (ig jD (gR 1) (ig jD (gR 3) (cM (.int 0)))) (gR 4))))
def DW(c:Cs):En->O:=(iD (n5 1 (qt (Cf (jy (lstM (gQ (cM (.int 0)) gW))) (ig jw (qP c.Cutting "dims" (gR 0) gW (iH c)) (cM (.int 1))))))
  (iD (setO 2 (kn (jy (kL (gQ (gR 0) gW) (pM c)))))
  (iD (vE (n0 (gQ (gR 2) (gQ (jy (kL (gQ (gR 2) gW) (iL c))) gW))) (qL 2 (kc (ot 3) (kc (ot 4) qs))) (vi c))
  (tQ 1))))
def mB(c:Cs):List T->M (List T):=AM 1 5 (DW c)
def oj(c:Cs):Pe->M T:=(kv uS (gQ (gR 0) gW))
def uK(c:Cs):En->O:=(jg (kv vF (gQ (jy (lB [none] (jK (jy (kL (gQ (gR 0) gW) (jz c)))) (ku 0) (λ_=>.ok true) (oj c))) gW)))
def j7(c:Cs):List T->M T:=nY 1 1 (uK c)
def sv(c:Cs):En->O:=(iD (pW (jl (ig PB (hZ (gQ (jy (sV c.Cutting "cuts" (gR 0) gW (jb c))) (gQ (qP c.Cutting "dims" (gR 0) gW (iH c)) gW)) (sP c)) (qP c.Cutting "dims" (gR 0) gW (iH c)))) (jg (cM (.int 0))) jE)
  (jg (kv uS (gQ (kv vF (gQ (jy (kL (gQ (gR 0) gW) (jz c))) gW)) gW))))
def jI(c:Cs):List T->M T:=nY 1 1 (sv c)
def zL(c:Cs):Pe->M T:=(ig mU (gR 2) (ig qh (ig mU (gR 0) (ig jD (gR 3) (gR 4))) (ig mU (ig jD (gR 5) (gR 4)) (gR 1))))
def y9(c:Cs):En->O:=(setO 5 (kn (hZ (gQ (gR 5) (gQ (gR 6) gW)) (l6 c))))
def zK(c:Cs):Pe->M T:=(ig vk (gR 0) (kv zp (gQ (cM (.int 1)) (gQ (gR 1) gW))))
def Lq(c:Cs):En->O:=(iD (setO 3 (kn (ig jD (jy (lstM (gQ (xV (λi=>.int (-i)) (cM (.int 1))) (gQ (cM (.int 1)) gW)))) (kv Da (gQ (ig Ir (ig jD (gR 1) (gR 2)) (cM (.int 0))) gW)))))
  (iD (setO 4 (kn (jy (lB [none,none,some 3,some 1,some 2,some 0] (n0 (gQ (gR 0) (gQ (gR 1) gW))) (oT 2 (je (ku 0) (je (ku 1) oR))) (λ_=>.ok true) (zL c)))))
  (iD (setO 4 (kn (ig jw (kR (gR 4) (λ_=>.ok none) (ju (gR 2))) (kR (gR 4) (ju (ig jw (gR 2) (cM (.int 1)))) (λ_=>.ok none)))))
  (iD (setO 5 (kn (cM (.int 0))))
  (iD (vE (jK (gR 4)) (ot 6) (y9 c))
  (jg (kv lZ (gQ (jy (lB [none,some 5] (jK (gR 4)) (ku 0) (λ_=>.ok true) (zK c))) gW))))))))
def mR(c:Cs):List T->M T:=nY 3 7 (Lq c)
def tK(c:Cs):Pe->M T:=(gR 0)
def qc(c:Cs):Pe->M T:=(gR 0)
def pP(c:Cs):En->List (List T)->rL:=(wj (qJ 5 (setO 7 (kn (hZ (gQ (ig jD (gR 1) (gR 6)) (gQ (ig jD (gR 1) (gR 2)) (gQ (gR 3) gW))) (mR c)))))
  (wj (qJ 5 (zv 8 (uA (lB [none,some 7,some 4] (kC (gQ (kv kZ (gQ (gR 4) gW)) gW)) (ku 0) (jl (hZ (gQ (ig jD (gR 2) (gR 0)) (gQ (gR 1) gW)) (jJ c))) (qc c)))))
  (wj (OF (Bo (jl (ig (iM false) (gR 6) (gR 2))) (jl (ig (iM false) (kR (gR 7) (λ_=>.ok none) (ju (xV (λi=>.int (-i)) (cM (.int 1))))) (C2 (oY (gQ (cM (.int 0)) gW)) (ig qh (gR 0) (cM (.int 1))))))) (qJ 5 (λa=>.ct a)) Ki)
  (OF (jl (ig (iM false) (gR 8) (jy (lstM gW)))) (wj (qJ 5 (tY 4 (kn (gR 7))))
  (yD (lstM (gQ (gR 6) gW)))) (yT (ig jD (gR 8) (cM (.int 0))) (gR 6))))))
def Cz(c:Cs):En->O:=(iD (setO 3 (kn (ig jD (jy (lB [none,some 1,some 2] (kC (gQ (gR 0) gW)) (ku 0) (jl (ig (iM true) (ig jD (ig jD (gR 1) (gR 2)) (gR 0)) (cM (.int 0)))) (tK c))) (cM (.int 0)))))
  (iD (n5 4 (qt (lstM gW)))
  (iD (n5 5 (qt (lstM gW)))
  (iD (zI (kC (gQ (kv kZ (gQ (gR 1) gW)) gW)) 5 (ot 6) (pP c))
  (jg (oY (gQ (gR 4) (gQ (gR 5) gW))))))))
def ki(c:Cs):List T->M T:=nY 3 9 (Cz c)
def BU(c:Cs)(a:List T->M T):Pe->M T:=(ig qh (gR 0) (gR 1))
def xi(c:Cs)(a:List T->M T):En->O:=(iD (pW (jl (ig (iM false) (gR 1) (jy (lstM gW)))) (jg (jy (wa (jy (Cf (jy (lstM (gQ (cM (.int 0)) gW))) (gR 0))) (jy (lstM (gQ (cM (.int 1)) gW)))))) jE)
  (iD (pW (jl (ig (iM false) (gR 0) (cM (.int 1)))) (jg (jy (lstM (gQ (xV (λi=>.int (-i)) (kv kZ (gQ (gR 1) gW))) (gQ (cM (.int 1)) gW))))) jE)
  (iD (setO 2 (kn (ig jD (hZ (gQ (gR 0) (gQ (gR 1) (gQ (ig qh (kv kZ (gQ (gR 1) gW)) (cM (.int 1))) gW))) (ki c)) (cM (.int 0)))))
  (jg (jy (lB [none,none] (n0 (gQ (hZ (gQ (gR 0) (gQ (kR (gR 1) (λ_=>.ok none) (ju (xV (λi=>.int (-i)) (cM (.int 1))))) gW)) a) (gQ (jy (wa (hZ (gQ (ig qh (gR 0) (cM (.int 1))) (gQ (gR 2) gW)) a) (jy (lstM (gQ (cM (.int 0)) gW))))) gW))) (oT 2 (je (ku 0) (je (ku 1) oR))) (λ_=>.ok true) (BU c a)))))))
def jH(c:Cs):Nat->List T->M T
 |0=>λ_=>.bad
 |k+1=>nY 2 3 (xi c (jH c k))
def rV(c:Cs):Pe->M T:=(hZ (gQ (gR 0) gW) (lh c))
def rN(c:Cs):Pe->M T:=(kv uS (gQ (gR 0) gW))
def oB(c:Cs):Pe->M T:=(kR (gR 0) (λ_=>.ok none) (ju (gR 1)))
def AY(c:Cs):En->O:=(iD (setO 2 (kn (hZ (gQ (gR 0) (gQ (jy (Nt qM (gQ (gR 1) gW))) gW)) (j8 c))))
  (iD (setO 3 (kn (hZ (gQ (gR 0) (gQ (gR 1) gW)) (jH c 10))))
  (iD (n5 4 (qt (kL (gQ (gR 2) gW) (mB c))))
  (iD (pW (Bo (oK (jl (vB "list" (gR 4)))) (Bo (jl (ig (iM true) (gR 4) (gR 3))) (oK (jl (kv xr (gQ (jy (lB [none] (jK (gR 4)) (ku 0) (λ_=>.ok true) (rV c))) gW)))))) (jg (cM (.bl false))) jE)
  (iD (tY 4 (kn (cM (.int 1))))
  (iD (setO 5 (kn (hZ (gQ (gR 2) gW) (j7 c))))
  (iD (setO 6 (kn (hZ (gQ (gR 2) gW) (jI c))))
  (iD (pW (Bo (oK (jl (hZ (gQ (gR 5) gW) (lh c)))) (Bo (oK (jl (hZ (gQ (gR 6) gW) (lh c)))) (jl (ig (iM true) (gR 5) (kv vF (gQ (jy (lB [none] (jK (gR 3)) (ku 0) (λ_=>.ok true) (rN c))) gW)))))) (jg (cM (.bl false))) jE)
  (iD (pW (jl (ig PB (hZ (gQ (jy (lB [none,some 0] (jK (gR 1)) (ku 0) (λ_=>.ok true) (oB c))) gW) (kq c)) (gR 0))) (jg (ig (iM false) (gR 6) (cM (.int 0)))) jE)
  (jg (ig (iM false) (gR 6) (kv uS (gQ (kv vF (gQ (gR 3) gW)) gW)))))))))))))
def l8(c:Cs):List T->M T:=nY 2 7 (AY c)
def yV(c:Cs):Pe->M T:=(hZ (gQ (hZ (gQ (gR 1) (gQ (gR 0) gW)) (jG c)) (gQ (ig jw (cM (.int 6)) (ig uh (gR 0) (cM (.int 2)))) gW)) (kG c))
def zm(c:Cs):Pe->M T:=(hZ (gQ (gR 0) (gQ (gR 1) gW)) (l8 c))
def KD(c:Cs):En->O:=(iD (setO 1 (kn (jy (lB [none,some 0] (kC (gQ (cM (.int 2)) gW)) (ku 0) (λ_=>.ok true) (yV c)))))
  (jg (kv xr (gQ (jy (lB [none,none] (jK (ig jw (gR 1) (kR (gR 1) (λ_=>.ok none) (ju (cM (.int 1)))))) (oT 2 (je (ku 0) (je (ku 1) oR))) (λ_=>.ok true) (zm c))) gW))))
def ua(c:Cs):List T->M T:=nY 1 2 (KD c)
def G4(c:Cs):En->O:=(iD (setO 2 (kn (hZ (gQ (gR 0) gW) (jW c))))
  (jg (hZ (gQ (hZ (gQ (hZ (gQ (gR 1) (gQ (gR 0) (gQ (gR 2) gW))) (kJ c)) (gQ (gR 2) gW)) (qf c)) gW) (nW c))))
def yZ(c:Cs):List T->M T:=nY 2 3 (G4 c)
variable {c:Cs}
def EY ns (k:Nat):∃v,jG c [.scr ns,.int k]=.ok (.int v)/\(v=0\/v∈ns):=by
 by_cases h:(k:Int)<ns.length
 .obtain⟨a,e,b⟩:=A3 ns k (by omega) h;exact⟨a,by simp[jG,oH,h,e],.inr b⟩
 .exact⟨0,by simp[jG,oH,h],.inl rfl⟩
def lR(h:i.natAbs<2 ^ 64):mU (.int i) (.int j)=.ok (.int (i*j)):=lq (GX h)
def Nm cell (k:Nat) b (z:0<b) (E:b<2 ^ 62) (K:k<=1000000):∃d,iK c [.int cell,.int (k:Int),.int b]=.ok (.int d)/\0<=d/\d<b:=by
 have f:b≠0:=by omega
 have B:∀x:Int,0<=x.fmod b/\x.fmod b<b:=λx=>⟨dZ x z,d6 x z⟩;have l:Ny (.int 10) (.int 18)=.ok (.int 1000000000000000000):=by simp[Ny,l4]
 by_cases h:(1000000000000000000:Int)<=cell
 .obtain⟨r,e,v,w,rfl⟩:=ly (m:=ot 4) (g:=setO 3 (kn (ig vk (gR 3) (gR 2)))) (λ(i:Nat)=>T.int (i:Int)) (λ_ r=>∃v w,r=[some (.p (.int cell)),some (.p (.int k)),some (.p (.int b)),some (.p (.int v)),w,none])
   (List.range k) 0 [some (.p (.int cell)),some (.p (.int k)),some (.p (.int b)),some (.p (.int cell)),none,none] ⟨_,_,rfl⟩ (by rintro i a r J ⟨v,w,rfl⟩;have D:Builtin.divisionGoesByPylong v b=false:=Bn.noPy (n:=62) (by unfold Bn;omega) (by decide);exact⟨_,_,rfl,.inl (iw (by simp[qC f D];rfl) rfl),_,_,rfl⟩)
  refine⟨v.fmod b,iU rfl ?_,B v⟩;have q:Ce (k:Int)=true:=lT (by omega);refine k9 (jF (by simp[l,h]) (gY (iw (by simp) rfl) (gY (qW (by simp[q,Oj]) e) (iE (by simp[rg f]))))) rfl
 .have o:∀x y:Int,0<y->0<=x.fmod y/\x.fmod y<y:=λx y A=>⟨dZ x A,d6 x A⟩;have I:=o cell 1000000007 (by decide);have H:=o ((cell.fmod 1000000007+1009*k+17)*69621) 2147483647 (by decide);generalize s:((cell.fmod 1000000007+1009*k+17)*69621).fmod 2147483647=s1 at H;have F:=o (s1*s1+40503*k+5) 2147483629 (by decide);generalize u:(s1*s1+40503*k+5).fmod 2147483629=s2 at F;have C:Builtin.divisionGoesByPylong ((s2*48271).fmod 2147483647) 32=false:=Bn.noPy (n:=62) (by unfold Bn;decide) (by decide);refine⟨(((s2*48271).fmod 2147483647).fdiv 32).fmod b,iU rfl ?_,B _⟩;refine gY (jM (by simp[l,h]) rfl) (gY (iw (t:=.int s1) ?_ rfl) (gY (iw (t:=.int s2) ?_ rfl) (iE ?_)))
  .rw[<-s];simp[rg,lR (i:=1009) (j:=k) (by decide),lR (i:=cell.fmod 1000000007+1009*k+17) (j:=69621) (by omega)]
  .rw[<-u];simp[rg,lR (i:=40503) (j:=k) (by decide),lR (i:=s1) (j:=s1) (by omega)]
  .simp[rg,f,qC (j:=32) (by decide) C,lR (i:=s2) (j:=48271) (by omega)]
def dr(c:Cs)(a k b:Int):Int:=match iK c [.int a,.int k,.int b] with
 |.ok (.int d)=>d
 |_=>0
def mM cell k b (f:0<b) (a:b<2 ^ 62) (g:0<=k) (j:k<=1000000):iK c [.int cell,.int k,.int b]=.ok (.int (dr c cell k b))/\0<=dr c cell k b/\dr c cell k b<b:=by
 obtain⟨d,e,h,i⟩:=Nm cell k.toNat b f a (by omega);rw[cI g]at e;have:dr c cell k b=d:=by unfold dr;rw[e]
 rw[this];exact⟨e,h,i⟩
def Ge(l:LI)(i:Int)(d:0<=i)(b:i<l.length):∃w,jD (.lst (l.map T.int)) (.int i)=.ok (.int w)/\w∈l:=by obtain⟨a,e,f⟩:=A3 l i d b;exact⟨a,by simp[pJ,e],f⟩
def CQ i:(if i<0 then -i else i)=(i.natAbs:Int):=by split<;>omega
def oh a b:jr c [.int a,.int b]=.ok (.int (Cu.G a b)):=by
 obtain⟨d,e,x,w,rfl,i⟩:=nL (c:=jl (ig (iM true) (gR 1) (cM (.int 0)))) (g:=iD (setO 2 (kn (ig uh (gR 0) (gR 1)))) (iD (setO 0 (kn (gR 1))) (setO 1 (kn (gR 2)))))
  (λd=>∃x y w,d=[some (.p (.int x)),some (.p (.int y)),w]/\Cu.G x y=Cu.G a b) (λd=>match d with|_::some (.p (.int j))::_=>j.natAbs|_=>0)
  (λd=>∃x w,d=[some (.p (.int x)),some (.p (.int 0)),w]/\Cu.G x 0=Cu.G a b) (by
   rintro d ⟨x,y,w,rfl,h⟩;by_cases f:y=0
   .subst f;exact .inl ⟨by simp,_,_,rfl,h⟩
   .refine .inr ⟨by simp[f],_,.inl (gY (iw (t:=.int (x.fmod y)) (by simp[rg f]) rfl) (gY (iw (by simp) rfl) (iw (by simp) rfl))),⟨y,x.fmod y,_,rfl,?_⟩,?_⟩
    .rw[<-h];exact Cu.Lo x y
    .exact Cu.yG x y f)
  (b.natAbs+1) [some (.p (.int a)),some (.p (.int b)),none] ⟨a,b,none,rfl,rfl⟩ (bK _)
 refine iU rfl (gY e (iE ?_));rw[Cu.wd]at i;simp[CQ,i]
def yf a b:l6 c [.int a,.int b]=.ok (.int (Cu.G a b)):=by
 obtain⟨d,e,x,rfl,f,l⟩:=nL (c:=jl (ig Ir (gR 1) (cM (.int 0)))) (g:=Nc 0 1 (gQ (gR 1) (gQ (ig uh (gR 0) (gR 1)) gW)))
  (λd=>∃x y:Int,d=[some (.p (.int x)),some (.p (.int y))]/\0<=x/\0<=y/\Cu.G x y=Cu.G a b) (λd=>match d with|_::some (.p (.int j))::_=>j.natAbs|_=>0)
  (λd=>∃x:Int,d=[some (.p (.int x)),some (.p (.int 0))]/\0<=x/\Cu.G x 0=Cu.G a b) (by
   rintro d ⟨x,y,rfl,f,hy0,h⟩;by_cases i:y=0
   .subst i;exact .inl ⟨by simp,_,rfl,f,h⟩
   .have k:0<y:=by omega
    refine .inr ⟨by simp[k],_,.inl (by simp[rg i]),⟨y,x.fmod y,rfl,hy0,dZ x k,?_⟩,?_⟩
    .rw[<-h];exact Cu.Lo x y
    .exact Cu.yG x y i)
  ((b.natAbs:Int).natAbs+1) [some (.p (.int (a.natAbs:Int))),some (.p (.int (b.natAbs:Int)))] ⟨_,_,rfl,by omega,by omega,Cu.Tf a b⟩ (bK _)
 refine iU rfl (gY (iw (by simp[CQ]) rfl) (gY (iw (t:=.int (b.natAbs:Int)) (by simp[CQ]) rfl) (gY e (iE ?_))));rw[Cu.wd]at l;have:x=Cu.G a b:=by omega
 simp[this]
def F8{t g:Int}(b:g ∣ t)(a:g≠0):(t.fdiv g).natAbs<=t.natAbs:=by obtain⟨k,rfl⟩:=b;rw[eU k a,aZ];exact Nat.le_mul_of_pos_left _ (by omega)
noncomputable def SI:T->Bool
 |.scr _=>false
 |.obj _ _=>false
 |.dic _=>false
 |_=>true
noncomputable def isInt:T->Bool
 |.int _=>true
 |_=>false
def B7 x (h:SI x=true):kW c [x]=.ok (.bl (isInt x)):=by cases x<;>first|(simp[SI]at h;done)|rfl
def MK x (h:SI x=true):RE "tuple" x=.ok (.bl (ui x)):=by cases x<;>first|(simp[SI]at h;done)|rfl
noncomputable def wX(x:Int):Int:=if 0<x then 1 else if x<0 then -1 else 0
def zS x:-1<=wX x/\wX x<=1:=by unfold wX;split<;>(try split)<;>lia
def Ex x:pE c [.int x]=.ok (.int (wX x)):=by
 unfold wX;by_cases h:0<x
 .rw[aR h];exact iU rfl (k9 (jF (by simp[h]) (iE (by simp))) rfl)
 .rw[aS h];by_cases a:x<0
  .rw[aR a];exact iU rfl (gY (jM (by simp[h]) rfl) (k9 (jF (by simp[a]) (iE (by simp))) rfl))
  .rw[aS a];exact iU rfl (gY (jM (by simp[h]) rfl) (gY (jM (by simp[a]) rfl) (iE (by simp))))
def rj(bs:List Bool):xr [.lst (bs.map T.bl)]=.ok (.bl (bs.all id)):=by simp
def AS(bs:List Bool):tm [.lst (bs.map T.bl)]=.ok (.bl (bs.any id)):=by simp
noncomputable def rY(d:Nat):T->Bool
 |.tup ts=>decide (ts.length=d+1)&&ts.all isInt&&(match mC ts with|some ns=>(ns.take d).any (· != 0)|none=>false)
 |_=>false
theorem CB:∀ts,ts.all isInt=true->∃a:LI,ts=a.map T.int
 |[],_=>⟨[],rfl⟩
 |t::ts,h=>by
  rw[bV,bT]at h;obtain⟨a,e⟩:=CB ts h.2;cases t with
  |int i=>exact⟨i::a,by rw[e];rfl⟩
  |_=>simp[isInt]at h
def HM(d:Nat)(r:d<=10) x (k:SI x=true) (m:∀ts,x=.tup ts->ts.length<1000/\∀t∈ts,SI t=true):oJ c [.int d,x]=.ok (.bl (rY d x)):=by
 have sz:1000<sizeLine:=by decide
 by_cases f:ui x=true
 .cases x with
  |tup ts=>
   obtain⟨q,p⟩:=m ts rfl;by_cases g:ts.length=d+1
   .have i:lB [none] (jK (gR 1)) (ku 0) (λ_=>.ok true) (uU c) (vw (iW 2 [.int d,.tup ts]))=.ok ((ts.map isInt).map T.bl):=by rw[A4 ts id (λt=>T.bl (isInt t)) (by simp) (by lia) λt f=>⟨_,rfl,rfl,by simp[uU,B7 t (p t f)]⟩];simp
    have j:(L3.Bo (L3.oK (jl (vB "tuple" (gR 1)))) (jl (ig (iM true) (kv kZ (gQ (gR 1) gW)) (ig jw (gR 0) (cM (.int 1)))))) (vw (iW 2 [.int d,.tup ts]))=.ok false:=by simp[g]
    by_cases e:ts.all isInt=true
    .obtain⟨b,rfl⟩:=CB ts e;have h:b.length=d+1:=by simpa using g
     have a:rY d (.tup (b.map T.int))=(b.take d).any (· != 0):=by simp[rY,h,e]
     rw[a];have o:lB [none] (jK (kR (gR 1) (λ_=>.ok none) (ju (gR 0)))) (ku 0) (λ_=>.ok true) (uD c) (vw (iW 2 [.int d,.tup (b.map T.int)]))=.ok (((b.take d).map λn=>n != 0).map T.bl):=by rw[A4 (b.take d) T.int (λn=>T.bl (n != 0)) (Ik (by rw[eE];exact tP rfl rfl (by simp;lia))) (by simp;lia) λn g=>⟨_,rfl,rfl,by simp[uD,bne]⟩];rw[aJ];rfl
     refine iU rfl (gY (jM j rfl) (gY (jM (sR (iN (qq i (rj _))) ?_) rfl) (iE (qq o ?_))))
     .rw[cE];simpa using e
     .rw[AS,cF];rfl
    .have a:rY d (.tup ts)=false:=by simp[rY,e]
     rw[a];refine iU rfl (gY (jM j rfl) (k9 (jF (sR (iN (qq i (rj _))) ?_) (iE rfl)) rfl));rw[cE];simpa using e
   .have a:rY d (.tup ts)=false:=by simp[rY,g]
    rw[a];refine iU rfl (k9 (jF ?_ (iE rfl)) rfl);have:¬(ts.length=(d:Int)+1):=by lia
    simp[this]
  |_=>simp[ui]at f
 .have a:rY d x=false:=by cases x<;>first|rfl|(simp[ui]at f;done)
  rw[a];refine iU rfl (k9 (jF ?_ (iE rfl)) rfl);have l:ui x=false:=by simpa using f
  have:=MK x k;rw[l]at this;simp only[L3.Bo,L3.oK,jl,vB,gR,vw,iW,bJ,cm,eQ,cj,List.getElem?_cons_succ,List.getElem?_cons_zero,Vx,M.bind_ok,this];rfl
def Sz(l:List α)(h:l≠[]):qx l (-1)=l.getLast?:=by obtain⟨m,a,rfl⟩:∃m a,l=m++[a]:=⟨l.dropLast,l.getLast h,(List.dropLast_concat_getLast h).symm⟩;rw[L2.Jt];simp
def Eu(d:Nat)(h:1<=d/\d<=3):nh c [.int d]=.ok (.bl true):=by
 have w:kW c [.int d]=.ok (.bl true):=rfl;have a:(1:Int)<=d:=by lia
 have b:(d:Int)<=3:=by lia
 exact iU rfl (iE (by simp[w,a,b]))
def TC n:(List.replicate n [T.int 0]).flatten=(List.replicate n (0:Int)).map T.int:=by
 induction n with
 |zero=>rfl
 |succ n ih=>rw[bX,bY,ih,bX];rfl
def PR(n:Nat)(d:n<=1000)(h:f ρ=.ok (.int (n:Int))):jy (Cf (jy (lstM (gQ (cM (.int 0)) gW))) f) ρ=.ok (.lst ((List.replicate n (0:Int)).map T.int)):=by
 have sz:1000<sizeLine:=by decide
 have hr:Ce n=true:=lT (by lia);have a:1<=sizeLine:=by decide
 have b:n<=sizeLine:=by lia
 simp[h,hr,a,b,TC]
def Te(n:Nat)(d:n<=1000)(h:f ρ=.ok (.int (n:Int))):C2 (oY (gQ (cM (.int 0)) gW)) f ρ=.ok (.tup ((List.replicate n (0:Int)).map T.int)):=by
 have sz:1000<sizeLine:=by decide
 have hr:Ce n=true:=lT (by lia);have a:1<=sizeLine:=by decide
 have b:n<=sizeLine:=by lia
 simp[h,B5,hr,a,b,TC]
end CL
namespace L3
open PySem L2
theorem sQ{q:Type} enc (P:En->Prop) p t:∀(l:List q) (ρ:En),P ρ->
  (∀a∈l,∀ρ,P ρ->∃d,m (enc a) ρ=some d/\(p a=true->∃c,g d=.nx c/\P c)/\(p a=false->g d=.rt t))->
  (l.all p=true->∃ρ',jY m g (l.map enc) ρ=.nx ρ'/\P ρ')/\(l.all p=false->jY m g (l.map enc) ρ=.rt t)
 |[],ρ,h,_=>⟨λ_=>⟨ρ,rfl,h⟩,λh=>by simp at h⟩
 |a::l,ρ,h,st=>by
  obtain⟨d,s,j,k⟩:=st a (by simp) ρ h;rw[bJ,jY,s];dsimp only;cases e:p a with
  |true=>obtain⟨c,o,n⟩:=j e;rw[o];have r:=sQ enc P p t l c n λb i ρ f=>st b (by simp[i]) ρ f;rw[bV,e,Bool.true_and];exact r
  |false=>rw[k e,bV,e,Bool.false_and];exact⟨λz=>(by cases z),λ_=>rfl⟩
end L3
namespace CL
open PySem L2 L3
variable {c:Cs}
def Ro:Bn (n+1) 1:=by unfold Bn;rw[eI];have:=eV n;lia
def Dh ns:mC (ns.map T.int)=some ns:=by simp
def xG(a:LI):vF [.lst (a.map T.int)]=.ok (.int a.sum):=by simp
end CL
namespace L3
open PySem L2
theorem vZ{p:Type} enc (P:Nat->En->Prop) (R:T->Prop):∀(l:List p) (k:Nat) (ρ:En),P k ρ->
  (∀i a ρ,l[i]? = some a->P (k+i) ρ->∃d,m (enc a) ρ=some d/\((∃c,g d=.nx c/\P (k+i+1) c)\/∃t,g d=.rt t/\R t))->
  (∃ρ',jY m g (l.map enc) ρ=.nx ρ'/\P (k+l.length) ρ')\/∃t,jY m g (l.map enc) ρ=.rt t/\R t
 |[],k,ρ,h,_=>.inl ⟨ρ,rfl,h⟩
 |a::l,k,ρ,h,st=>by
  obtain⟨d,q,o⟩:=st 0 a ρ rfl h;rw[bJ,jY,q];dsimp only;rcases o with⟨c,f,e⟩|⟨t,f,e⟩
  .rw[f];rw[az,show k+(l.length+1)=k+1+l.length by lia];exact vZ enc P R l (k+1) c e λi b ρ n j=>by have:=st (i+1) b ρ (by simpa using n) (by rw[show k+(i+1)=k+1+i by lia];exact j);rw[show k+1+i+1=k+(i+1)+1 by lia];exact this
  .rw[f];exact .inr ⟨t,rfl,e⟩
end L3
namespace CL
open PySem L2 L3
variable {c:Cs}
def Eo(l:List α)(k:Nat) h:qx l (k:Int)=some l[k]:=by unfold qx wW;rw[aR (by lia),aR (by lia)];simp[h]
def Fw(l:LI) k (h:k<l.length):qx l (k:Int)=some (l.getD k 0):=by rw[Eo l k h,af,ag h];rfl
def getD_mem(l:LI) k (h:k<l.length):l.getD k 0∈l:=by rw[af,ag h];exact aW h
def sZ(l:LI) k (h:k<l.length):jD (.lst (l.map T.int)) (.int (k:Int))=.ok (.int (l.getD k 0)):=by simp[pJ,Fw l k h]
def kK l (k:Nat) (h:k<l.length):jD (tI l) (.int (k:Int))=.ok (.int (l.getD k 0)):=by simp[tI,pJ,Fw l k h]
def P4 x xs:jD (.lst (x::xs)) (.int 0)=.ok x:=by have h:=Eo (x::xs) 0 (by simp);have a:qx (x::xs) 0=some x:=h;show (match qx (x::xs) 0 with|some t=>M.ok t|none=>.bad)=_;rw[a]
def CI(a:Nat)(row b:LI):LI:=(b.zip row).map λp=>row.getD a 0*p.1-b.getD a 0*p.2
def t8 a row here (h:row.length=here.length):(CI a row here).length=here.length:=by simp[CI,h]
def Ql a row here (f:a<row.length) (k:row.length=here.length) (hr:∀x∈row,Bn m x) (d:∀x∈here,Bn n x):∀x∈CI a row here,Bn (m+n+1) x:=λx h=>by obtain⟨p,b,rfl⟩:=aE.mp h;have e:=hr _ (getD_mem row a f);have j:=d _ (getD_mem here a (by lia));have g:=d _ (aX b).1;have i:=hr _ (aX b).2;exact ((e.mul g).sub (j.mul i)).mono (by lia)
def tM(p:Nat×LI):T:=.tup [.int (p.1:Int),.lst (p.2.map T.int)]
def Bk(j:Nat):Nat:=51*2 ^ j-1
def MB j:Bk j+Bk j+1=Bk (j+1):=by unfold Bk;rw[eI];have:=eV j;lia
def S4(h:j<=k):Bk j<=Bk k:=by unfold Bk;have:=eG (show 0<2 by decide) h;lia
def Ij(m L:Nat)(a:List (Nat×LI)):Prop:=∀(j:Nat) (p:Nat×LI),a[j]? = some p->p.1<m/\p.2.length=L/\∀x∈p.2,Bn (Bk j) x
def rJ(b:List (Nat×LI))(a:LI):LI:=b.foldl (λh p=>CI p.1 p.2 h) a
def Uq(a:f1 ρ=.ok a1)(g:f2 ρ=.ok a2)(b:f3 ρ=.ok a3)(d:f4 ρ=.ok a4)(f:f5 ρ=.ok a5):jy (lstM (gQ f1 (gQ f2 (gQ f3 (gQ f4 (gQ f5 gW)))))) ρ=.ok (.lst [a1,a2,a3,a4,a5]):=by
 have e:5<=sizeLine:=by decide
 simp only[jy,lstM,gQ,gW,a,g,b,d,f,M.bind_ok,Be,az,eW,e,if_true]
def KZ(e:fa ρ=.ok (.lst a))(f:fb ρ=.ok (.lst b))(d:a.length+b.length<=sizeLine):jy (wa fa fb) ρ=.ok (.lst (a++b)):=by simp only[jy,wa,e,f,M.bind_ok];rw[aR d];rfl
def TH n (x:T):(List.replicate n [x]).flatten=List.replicate n x:=by
 induction n with
 |zero=>rfl
 |succ n ih=>rw[bX,bY,ih,bX];rfl
def Qp(n:Nat)(d:n<=1000) x (h:f ρ=.ok (.int (n:Int))):jy (Cf (jy (lstM (gQ (cM x) gW))) f) ρ=.ok (.lst (List.replicate n x)):=by
 have sz:1000<sizeLine:=by decide
 have hr:Ce n=true:=lT (by lia);have a:1<=sizeLine:=by decide
 have b:n<=sizeLine:=by lia
 simp[h,hr,a,b,TH]
end CL
namespace CL
abbrev Vc:=Nat->Int
inductive Qs(P:Vc->Prop):Vc->Prop
 |of {x:Vc}:P x->Qs P x
 |zero:Qs P λ_=>0
 |lin {x y z:Vc} {s a b:Int}:Qs P x->Qs P y->s≠0->(∀i,s*z i=a*x i+b*y i)->Qs P z
def Qs.sub(h:∀x,P x->Qs P' x)(q:Qs P z):Qs P' z:=by
 induction q with
 |of p=>exact h _ p
 |zero=>exact .zero
 |lin _ _ s e i1 i2=>exact .lin i1 i2 s e
def Qs.mono(h:∀x,P x->P' x)(q:Qs P z):Qs P' z:=q.sub λx p=>.of (h x p)
def Qs.comb a b (c:Qs P x) (d:Qs P y):Qs P λi=>a*x i+b*y i:=.lin (s:=1) c d (by decide) λi=>by rw[eX]
def Ug(P:Vc->Prop)(r:Vc):Vc->Prop:=λx=>P x\/x=r
def Qs.split(q:Qs (Ug P r) z):∃s a y,s≠0/\Qs P y/\∀i,s*z i=y i+a*r i:=by
 induction q with
 |of p=>
  rename_i x;rcases p with p|rfl
  .exact⟨1,0,x,by decide,.of p,λi=>by rw[eX,eY,fg]⟩
  .exact⟨1,1,λ_=>0,by decide,.zero,λi=>by rw[fj]⟩
 |zero=>exact⟨1,0,λ_=>0,by decide,.zero,λi=>by simp⟩
 |lin _ _ hs e i1 i2=>
  rename_i x y z s a b _ _;obtain⟨d,f,j,k,t,o⟩:=i1;obtain⟨c,g,h,l,m,n⟩:=i2;refine⟨s*(d*c),a*c*f+b*d*g,_,fq hs (fq k l),t.comb (a*c) (b*d) m,λi=>?_⟩;calc s*(d*c)*z i=d*c*(s*z i):=by ac_rfl
   _=d*c*(a*x i+b*y i):=by rw[e]
   _=a*c*(d*x i)+b*d*(c*y i):=by rw[fu];ac_rfl
   _=a*c*(j i+f*r i)+b*d*(h i+g*r i):=by rw[o,n]
   _=a*c*j i+b*d*h i+(a*c*f+b*d*g)*r i:=by simp only[fu,Int.add_mul];ac_rfl
def Nd(P:Vc->Prop)(a:List Nat):Prop:=∀z,Qs P z->(∀p∈a,z p=0)->∀i,z i=0
def Nd.nil:Nd (λ_=>False) []:=λz q _=>by
 induction q with
 |of p=>exact p.elim
 |zero=>exact λ_=>rfl
 |lin _ _ hs e i1 i2=>
  intro i;have:=e i;rw[i1 (λp a=>nomatch a) i,i2 (λp a=>nomatch a) i,fv,fv,fg]at this;rcases fw.mp this with z|z
  .exact absurd z hs
  .exact z
def Nd.step(h:Nd P pl)(k:∀q∈pl,r q=0)(j:r p≠0):Nd (Ug P r) (pl++[p]):=λz q f i=>by
 obtain⟨s,a,y,g,n,e⟩:=q.split;have l:∀q∈pl,y q=0:=λq c=>by have:=e q;rw[f q (ay _ c),k q c,fv,fv,fg]at this;exact this.symm
 have b:=h y n l;have d:=e p;rw[f p (bF _ (aj.mpr rfl)),b p,fv,fj]at d;have m:a=0:=by
  rcases fw.mp d.symm with z|z
  .exact z
  .exact absurd z j
 have:=e i;rw[b i,m,eY,fg]at this;rcases fw.mp this with z|z
 .exact absurd z g
 .exact z
def Nd.less(h:Nd P pl)(a:∀x,P' x->Qs P x):Nd P' pl:=λz q=>h z (q.sub a)
def Ku{v r y:Vc}(g:Nd P pl)(d:s≠0)(c:Qs P y)(e:∀i,r i=s*v i+a*y i)(f:∀p∈pl,r p=0):(∀i,r i=0)↔Qs P v:=by
 constructor
 .intro h;refine .lin (a:=-a) (b:=0) c .zero d λi=>?_;have:=e i;rw[h i]at this;rw[fv,fg,fB];lia
 .intro h;refine g r ?_ f;have:=funext e;rw[this];exact h.comb s a c
end CL
namespace CL
open PySem L2 L3
variable {c:Cs}
noncomputable def vc(l:LI):Vc:=λi=>l.getD i 0
def jm l i (h:l.length<=i):vc l i=0:=by unfold vc;rw[af,List.getElem?_eq_none h];rfl
def jZ l i h:vc l i=l[i]:=by unfold vc;rw[af,ag h];rfl
def RV a row here (h:row.length=here.length) i:vc (CI a row here) i=vc row a*vc here i-vc here a*vc row i:=by
 by_cases b:i<here.length
 .rw[jZ (CI a row here) i (by rw[t8 a row here h];exact b),jZ here i b,jZ row i (by lia)];simp[CI,vc]
 .rw[jm _ i (by rw[t8 a row here h];lia),jm here i (by lia),jm row i (by lia),fv,fv];rfl
def yA(a:List (Nat×LI)):Vc->Prop:=λx=>∃p∈a,x=vc p.2
def VP(vs:LL):Vc->Prop:=λx=>∃v∈vs,x=vc v
theorem yC m P:∀f b,(∀p∈f,p.2.length=m/\P (vc p.2)/\vc p.2 p.1≠0)->b.length=m->f.Pairwise (λp q=>vc q.2 p.1=0)->
  ∃s y,s≠0/\Qs P y/\(∀i,vc (rJ f b) i=s*vc b i+1*y i)/\(∀k,vc b k=0->(∀p∈f,vc p.2 k=0)->vc (rJ f b) k=0)/\∀p∈f,vc (rJ f b) p.1=0
 |[],b,_,_,_=>⟨1,λ_=>0,by decide,.zero,λi=>by show vc b i=1*vc b i+1*0;lia,λk l _=>l,λp d=>nomatch d⟩
 | (a,row)::f,b,hA,hl,hw=>by
  obtain⟨A,w,v⟩:=hA (a,row) (bu ..);obtain⟨x,o⟩:=cX.mp hw;have g:(CI a row b).length=m:=by rw[t8 a row b (by lia),hl]
  have h:=RV a row b (by lia);obtain⟨s,y,t,u,e,n,r⟩:=yC m P f (CI a row b) (λp d=>hA p (bx _ d)) g o;refine⟨s*vc row a,_,fq t v,(u.comb 1 (-(s*vc b a)) (.of w)),λi=>?_,λk l d=>?_,λp d=>?_⟩
  .show vc (rJ f (CI a row b)) i=_;rw[e i,h i,Int.mul_sub,eK,fB,d9,d9,eX,eX];lia
  .refine n k ?_ λp j=>d p (bx _ j);have:=d (a,row) (bu ..);rw[h k,l,this,fv,fv];rfl
  .rcases aG.mp d with rfl|d
   .refine n _ ?_ λq z=>x q z;rw[h a,ee];lia
   .exact r p d
theorem FN x0 x1 x2 m (H:m<=20):∀d j b k l h f,j+d.length<=8->b.length=m->(∀x∈b,Bn (Bk j) x)->
  (∀i p,d[i]? = some p->p.1<m/\p.2.length=m/\∀x∈p.2,Bn (Bk (j+i)) x)->
  ∃q r s,jY (qL 2 (kc (ot 4) (kc (ot 5) qs))) (mK c) (d.map tM) [x0,x1,x2,some (.p (.lst (b.map T.int))),k,l,h,f]=.nx [x0,x1,x2,some (.p (.lst ((rJ d b).map T.int))),q,r,s,f]/\
   (rJ d b).length=m/\∀x∈rJ d b,Bn (Bk (j+d.length)) x
 |[],j,b,k,l,h,f,_,hl,hb,_=>⟨k,l,h,rfl,hl,hb⟩
 | (a,row)::d,j,b,k,l,h,f,hj,hl,hb,hA=>by
  obtain⟨I,F,g⟩:=hA 0 (a,row) rfl;rw[c9]at g;simp only[az]at hj;have sz:1000<sizeLine:=by decide
  have J:Bk j<=20000:=aO (S4 (show j<=8 by lia)) (by decide);have o:(CI a row b).length=m:=by rw[t8 a row b (by lia),hl]
  have t:∀x∈CI a row b,Bn (Bk (j+1)) x:=λx u=>(Ql a row b (by lia) (by lia) g hb x u).mono (by rw[MB];exact aL _);obtain⟨q,r,s,e,w,D⟩:=FN x0 x1 x2 m H d (j+1) (CI a row b) (some (.p (.int a))) (some (.p (.lst (row.map T.int)))) (some (.p (.int (b.getD a 0)))) f (by lia) o t λi p n=>by have:=hA (i+1) p (by simpa using n);rw[show j+1+i=j+(i+1) by lia];exact this
  refine⟨q,r,s,?_,w,by rw[az,show j+(d.length+1)=j+1+d.length by lia];exact D⟩;rw[bJ,jY];have A:(qL 2 (kc (ot 4) (kc (ot 5) qs))) (tM (a,row)) [x0,x1,x2,some (.p (.lst (b.map T.int))),k,l,h,f]=some [x0,x1,x2,some (.p (.lst (b.map T.int))),some (.p (.int a)),some (.p (.lst (row.map T.int))),h,f]:=rfl;rw[A];have E:lB [none,none,some 6,some 5,some 4] (n0 (gQ (gR 3) (gQ (gR 5) gW))) (oT 2 (je (ku 0) (je (ku 1) oR))) (λ_=>.ok true) (se c) (kP [x0,x1,x2,some (.p (.lst (b.map T.int))),some (.p (.int a)),some (.p (.lst (row.map T.int))),some (.p (.int (b.getD a 0))),f])=.ok ((CI a row b).map T.int):=jX (b.zip row) (λp=>T.tup [.int p.1,.int p.2]) (λp=>T.int (row.getD a 0*p.1-b.getD a 0*p.2)) (uV rfl rfl rfl rfl) (by simp;lia) (λp n=>⟨_,rfl,rfl,by have z:=hb _ (aX n).1;have B:=g _ (aX n).2;have C:=g _ (getD_mem row a (by lia));have y:=hb _ (getD_mem b a (by lia));exact gZ (gZ (gZ rfl rfl (sZ row a (by lia))) rfl (lq (C.ok z (by lia) (by lia)))) (gZ rfl rfl (lq (y.ok B (by lia) (by lia)))) (nV _ _)⟩) (by unfold CI;rw[aJ];rfl)
  have v:mK c [x0,x1,x2,some (.p (.lst (b.map T.int))),some (.p (.int a)),some (.p (.lst (row.map T.int))),h,f]=.nx [x0,x1,x2,some (.p (.lst ((CI a row b).map T.int))),some (.p (.int a)),some (.p (.lst (row.map T.int))),some (.p (.int (b.getD a 0))),f]:=gY (iw (gZ rfl rfl (sZ b a (by lia))) rfl) (iw (jo E) rfl)
  dsimp only;rw[v];exact e
def Uu(vs:LL)(j:Nat):Prop:=Qs (VP (vs.take j)) (vc (vs.getD j []))
structure vJ(vs:LL)(m k:Nat)(ah:List (Nat×LI)):Prop where
 bd:∀p∈ah,p.1<m/\p.2.length=m
 nz:∀p∈ah,vc p.2 p.1≠0
 tri:ah.Pairwise (λp q=>vc q.2 p.1=0)
 nd:Nd (yA ah) (ah.map Prod.fst)
 sp:∀v∈vs.take k,Qs (yA ah) (vc v)
 ps:∀p∈ah,Qs (VP (vs.take k)) (vc p.2)
 le:ah.length<=k
 eq:ah.length=k↔∀j,j<k->¬Uu vs j
def jP{a:Type}(l:List a) k v (h:l[k]? = some v):l.take (k+1)=l.take k++[v]:=by rw[List.take_succ,h];rfl
def Np{a:Type}(l:List a) k v w (h:l[k]? = some v):l.getD k w=v:=by rw[af,h];rfl
def VP.succ{vs:LL}(h:vs[k]? = some v) x (q:Qs (VP (vs.take k)) x):Qs (VP (vs.take (k+1))) x:=q.mono λz ⟨w,hw,e⟩=>⟨w,by rw[jP vs k v h];exact ay _ hw,e⟩
def E6{m L j:Nat}{R:LI}(h:Ij m L ah)(f:j<m)(d:R.length=L)(b:∀x∈R,Bn (Bk ah.length) x):Ij m L (ah++[(j,R)]):=λi p a=>by
 rw[List.getElem?_append]at a;split at a
 .exact h i p a
 .have e:i=ah.length:=by have:=(aa.mp a).1;simp at this;lia
  subst e;simp at a;subst a;exact⟨f,d,b⟩
theorem C0{m:Nat}:∀(a:List (Nat×LI)) (v:LI),(∀p∈a,p.2.length=m)->v.length=m->(rJ a v).length=m
 |[],v,_,h=>h
 |p::a,v,hp,h=>C0 a (CI p.1 p.2 v) (λq b=>hp q (by simp[b])) (by rw[t8 _ _ _ (by rw[hp p (by simp),h]),h])
def zG vs m k ah v (h:vJ vs m k ah) (l:vs[k]? = some v) (F:v.length=m) (r:(rJ ah v).length=m) :
  ((∀i,vc (rJ ah v) i=0)->vJ vs m (k+1) ah)/\∀j,j<m->vc (rJ ah v) j≠0->vJ vs m (k+1) (ah++[(j,rJ ah v)]):=by
 obtain⟨s,y,C,u,e,N,B⟩:=yC m (yA ah) ah v (λp d=>⟨(h.bd p d).2,⟨p,d,rfl⟩,h.nz p d⟩) F h.tri;have o:∀q∈ah.map Prod.fst,vc (rJ ah v) q=0:=λq n=>by obtain⟨p,d,rfl⟩:=aE.mp n;exact B p d
 have f:=Ku h.nd C u e o;have D:Uu vs k↔Qs (yA ah) (vc v):=by unfold Uu;rw[Np vs k v [] l];exact⟨λq=>q.sub λx ⟨w,hw,ex⟩=>by rw[ex];exact h.sp w hw,λq=>q.sub λx ⟨p,d,ex⟩=>by rw[ex];exact h.ps p d⟩
 generalize rJ ah v=R at *;constructor
 .intro I;have n:=f.mp I;refine⟨h.bd,h.nz,h.tri,h.nd,λw hw=>?_,λp d=>VP.succ l _ (h.ps p d),by have:=h.le;lia,?_⟩
  .rw[jP vs k v l]at hw;rcases ai.mp hw with q|q
   .exact h.sp w q
   .rw[aj.mp q];exact n
  .constructor
   .intro z;have:=h.le;lia
   .intro z;exact absurd (D.mpr n) (z k (by lia))
 .intro j J g;have t:¬Uu vs k:=λz=>g (f.mpr (D.mp z) j);have up:∀x,Qs (yA ah) x->Qs (yA (ah++[(j,R)])) x:=λx q=>q.mono λz ⟨p,d,ez⟩=>⟨p,ay _ d,ez⟩;have E:Qs (yA (ah++[(j,R)])) (vc R):=.of ⟨(j,R),bF _ (aj.mpr rfl),rfl⟩;refine⟨λp d=>?_,λp d=>?_,?_,?_,λw hw=>?_,λp d=>?_,?_,?_⟩
  .rcases ai.mp d with q|q
   .exact h.bd p q
   .rw[aj.mp q];exact⟨J,r⟩
  .rcases ai.mp d with q|q
   .exact h.nz p q
   .rw[aj.mp q];exact g
  .refine cV.mpr ⟨h.tri,cW _ _,λp d q n=>?_⟩;rw[aj.mp n];exact B p d
  .rw[a9];refine (Nd.step h.nd o g).less λx ⟨p,d,ex⟩=>?_;rcases ai.mp d with q|q
   .exact .of (.inl ⟨p,q,ex⟩)
   .rw[aj.mp q]at ex;exact .of (.inr ex)
  .rw[jP vs k v l]at hw;rcases ai.mp hw with q|q
   .exact up _ (h.sp w q)
   .rw[aj.mp q];exact .lin (a:=1) (b:=-1) E (up _ u) C λi=>by rw[e i];lia
  .rcases ai.mp d with q|q
   .exact VP.succ l _ (h.ps p q)
   .rw[aj.mp q];have L:Qs (VP (vs.take (k+1))) (vc v):=.of ⟨v,by rw[jP vs k v l];exact bF _ (aj.mpr rfl),rfl⟩;have H:=u.sub λx ⟨p,d,ex⟩=>by rw[ex];exact VP.succ l _ (h.ps p d)
    exact .lin (s:=1) L H (by decide) λi=>by rw[eX];exact e i
  .have:=h.le;simp;lia
  .rw[aU,cf];constructor
   .intro z i K;by_cases A:i=k
    .rw[A];exact t
    .exact h.eq.mp (by lia) i (by lia)
   .intro z;rw[h.eq.mpr λi K=>z i (by lia)]
theorem Kt{m:Nat}(vs:LL)(e:∀v∈vs,v.length=m):∀k,k<=vs.length->∃b,vJ vs m k b
 |0,_=>⟨[],(λp a=>nomatch a),(λp a=>nomatch a),List.Pairwise.nil,(λz q=>Nd.nil z (q.mono λx ⟨p,a,_⟩=>nomatch a)),(λv e=>by simp at e),(λp a=>nomatch a),aL _,⟨λ_ j o=>absurd o (dM _),λ_=>rfl⟩⟩
 |k+1,h=>by
  obtain⟨b,I⟩:=Kt vs e k (by lia);have u:=ag (l:=vs) (i:=k) (by lia);have d:=e _ (aW (l:=vs) (n:=k) (by lia));have f:=C0 b (vs[k]'(by lia)) (λp a=>(I.bd p a).2) d;obtain⟨s,r⟩:=zG vs m k b (vs[k]'(by lia)) I u d f;by_cases z:∃j,j<m/\vc (rJ b (vs[k]'(by lia))) j≠0
  .obtain⟨j,o,t⟩:=z;exact⟨_,r j o t⟩
  .refine⟨_,s λi=>?_⟩;by_cases g:i<m
   .exact aP λw=>z ⟨i,g,w⟩
   .exact jm _ i (by lia)
theorem BN m vs (hm:m<=4) (hn:vs.length<=8) (hv:∀v∈vs,v.length=m/\∀x∈v,Bn 50 x) :
  ∃a:List (Nat×LI),kq c [.lst (vs.map tI)]=.ok (.int (a.length:Int))/\vJ vs m vs.length a:=by
 have sz:1000<sizeLine:=by decide
 obtain⟨Z,e,a,x2,S,B,F,I,l,rfl,C,-⟩:=ly (m:=ot 2) (g:=oz c) tI
  (λk Z=>∃(a:List (Nat×LI)) (x2 S B F I l:Option W),Z=[some (.p (.lst (vs.map tI))),some (.o (a.map tM)),x2,S,B,F,I,l]/\vJ vs m k a/\Ij m m a)
  vs 0 _ ⟨[],none,none,none,none,none,none,rfl,⟨(λp d=>nomatch d),(λp d=>nomatch d),List.Pairwise.nil,(λz q=>Nd.nil z (q.mono λx ⟨p,d,_⟩=>nomatch d)),(λv hv=>by simp at hv),(λp d=>nomatch d),aL _,⟨λ_ j hj=>absurd hj (dM _),λ_=>rfl⟩⟩,λj p d=>by simp at d⟩ (by
   rintro k v Z hi ⟨a,x2,S,B,F,I,l,rfl,C,X⟩;rw[aH]at C ⊢;have hil:=(aa.mp hi).1;obtain⟨N,hvb⟩:=hv v (au hi);have b:=C.le;have Y:Ce (m:Int)=true:=lT (by lia);obtain⟨D,E,H,e3,h,A⟩:=FN (c:=c) (some (.p (.lst (vs.map tI)))) none (some (.p (tI v))) m (by lia) a 0 v B F I l (by lia) N (λx hx=>hvb x hx) λi p d=>by rw[aH];exact X i p d
   rw[aH]at A;obtain⟨K,J⟩:=zG vs m k a v C hi N h;generalize hR:rJ a v=R at e3 h A K J;let left:List Nat:=(List.range m).filter λj=>R.getD j 0 != 0;have e4:lB [none,some 3] (kC (gQ (kv kZ (gQ (gR 3) gW)) gW)) (ku 0) (jl (ig (iM true) (ig jD (gR 1) (gR 0)) (cM (.int 0)))) (rS c) (kP [some (.p (.lst (vs.map tI))),some (.o (a.map tM)),some (.p (tI v)),some (.p (.lst (R.map T.int))),D,E,H,l])=.ok (left.map λ(j:Nat)=>T.int (j:Int)):=sH (List.range m) (λ(j:Nat)=>T.int (j:Int)) (λ(j:Nat)=>T.int (j:Int)) (λj=>R.getD j 0 != 0) (by simp[h,Y,Oj]) (by simp;lia) (λj hj=>⟨_,rfl,iN (gZ (gZ rfl rfl (sZ R j (by have:=aT.mp hj;lia))) rfl (qQ _ _)),λ_=>rfl⟩) rfl
   have s:sL (left.map λ(j:Nat)=>T.int (j:Int))=true:=qA _ _ λ_ _=>rfl;have u:s9 (left.map λ(j:Nat)=>T.int (j:Int))<=90:=aO (qN _ 0 _ λ_ _=>aL _) (by decide);have f:jl (ig (iM true) (gR 7) (jy (lstM gW))) (vw [some (.p (.lst (vs.map tI))),some (.o (a.map tM)),some (.p (tI v)),some (.p (.lst (R.map T.int))),D,E,H,some (.p (.lst (left.map λ(j:Nat)=>T.int (j:Int))))])=.ok (!left.isEmpty):=by refine iN (gZ (x:=.lst (left.map λ(j:Nat)=>T.int (j:Int))) (y:=.lst []) rfl (by simp) ?_);rw[vQ true _ s u];simp
   have L:∀r,(pW (jl (ig (iM true) (gR 7) (jy (lstM gW)))) (tY 1 (kn (oY (gQ (ig jD (gR 7) (cM (.int 0))) (gQ (gR 3) gW))))) jE) [some (.p (.lst (vs.map tI))),some (.o (a.map tM)),some (.p (tI v)),some (.p (.lst (R.map T.int))),D,E,H,some (.p (.lst (left.map λ(j:Nat)=>T.int (j:Int))))]=r->
     oz c [some (.p (.lst (vs.map tI))),some (.o (a.map tM)),some (.p (tI v)),S,B,F,I,l]=r:=λr hr=>by
    refine gY (iw (t:=.lst (v.map T.int)) rfl rfl) (gY (ρ':=[some (.p (.lst (vs.map tI))),some (.o (a.map tM)),some (.p (tI v)),some (.p (.lst (R.map T.int))),D,E,H,l]) (GS (us:=a.map tM) rfl ?_) (gY (iw (t:=.lst (left.map λ(j:Nat)=>T.int (j:Int))) (jo e4) rfl) hr));show GH 1 (a.map tM) (jY (qL 2 (kc (ot 4) (kc (ot 5) qs))) (mK c) (a.map tM) [some (.p (.lst (vs.map tI))),none,some (.p (tI v)),some (.p (.lst (v.map T.int))),B,F,I,l])=_;rw[e3];rfl
   cases b:left with
   |nil=>
    refine⟨_,_,rfl,.inl (L _ (jM (by rw[f,b];rfl) rfl)),a,_,_,_,_,_,_,rfl,K (λi=>?_),X⟩;by_cases him:i<m
    .refine aP λhc=>?_;have:i∈left:=aV.mpr ⟨aT.mpr him,by simpa[vc] using hc⟩;rw[b]at this;exact nomatch this
    .exact jm R i (by lia)
   |cons w js=>
    have P:w∈left:=by rw[b];exact bu ..
    have n:w<m:=aT.mp (aV.mp P).1;have Q:vc R w≠0:=by have:=(aV.mp P).2;simpa[vc] using this
    have U:2<=sizeLine:=by decide
    have i0:ig jD (gR 7) (cM (.int 0)) (kP [some (.p (.lst (vs.map tI))),some (.o (a.map tM)),some (.p (tI v)),some (.p (.lst (R.map T.int))),D,E,H,some (.p (.lst (left.map λ(j:Nat)=>T.int (j:Int))))])=.ok (.int (w:Int)):=gZ rfl rfl (by rw[b];exact P4 _ _);have i4:gR 3 (kP [some (.p (.lst (vs.map tI))),some (.o (a.map tM)),some (.p (tI v)),some (.p (.lst (R.map T.int))),D,E,H,some (.p (.lst (left.map λ(j:Nat)=>T.int (j:Int))))])=.ok (.lst (R.map T.int)):=rfl;refine⟨_,_,rfl,.inl (L _ (jF (by rw[f,b];rfl) (sr (t:=tM (w,R)) rfl ?_ (by simp;lia) rfl))),a++[(w,R)],_,_,_,_,_,_,by rw[a9];rfl,J w n Q,E6 X n h A⟩;simp only[oY,gQ,gW,i0,i4,M.bind_ok,Be,az,eW,U,if_true];rfl)
 rw[aH]at C;refine⟨a,iU rfl (gY (nC (ts:=[]) (by simp) rfl) (gY (mw rfl e) (iE (lY rfl ?_)))),C⟩;simp
def QC(h:f ρ=.ok (.int i)):xV (λi=>.int (-i)) f ρ=.ok (.int (-i)):=by simp only[xV,h,M.bind_ok]
def vH:Bn n 0:=by unfold Bn;exact eV _
def HS N (D:N<=8000) row (F:row.length<1000) (n:∀x∈row,Bn N x):∃g ys,0<g/\nW c [tI row]=.ok (tI ys)/\ys.length=row.length/\(∀i,vc row i=g*vc ys i)/\∀y∈ys,Bn N y:=by
 have sz:1000<sizeLine:=by decide
 have main:=vZ (m:=ot 2) (g:=ux c) T.int
  (λk v=>∃(a:Int) (s:Option W),v=[some (.p (tI row)),some (.p (.int a)),s]/\0<=a/\Bn N a/\∀x∈row.take k,a ∣ x)
  (λt=>t=tI row) row 0 _ ⟨0,none,rfl,by decide,vH,λx j=>by simp at j⟩ (by
   rintro i x v d ⟨a,s,rfl,C,r,b⟩;rw[aH]at b ⊢;have o:=au d;refine⟨_,rfl,?_⟩;have w:setO 1 (kn (hZ (gQ (gR 1) (gQ (gR 2) gW)) (jr c))) [some (.p (tI row)),some (.p (.int a)),some (.p (.int x))]=.nx [some (.p (tI row)),some (.p (.int (Cu.G a x))),some (.p (.int x))]:=iw (lE rfl rfl (oh a x)) rfl;by_cases h:Cu.G a x=1
   .right;exact⟨_,gY w (jF (iN (gZ rfl rfl (by rw[iT,h];rfl))) (iE rfl)),rfl⟩
   .left;refine⟨_,gY w (jM (iN (gZ rfl rfl (by rw[iT];simp[h]))) rfl),_,_,rfl,Cu.nH _ _,?_,λz u=>?_⟩
    .by_cases f:x=0
     .rw[f,Cu.wd];exact cQ (by lia) r
     .have I:=Cu.Sh a x f;have H:=Cu.nH a x;exact cQ (by lia) (n x o)
    .rw[jP row i x d]at u;rcases ai.mp u with q|q
     .exact fC (Cu.sE a x) (b z q)
     .rw[aj.mp q];exact Cu.n6 a x)
 rcases main with⟨A,e,a,s,rfl,C,r,b⟩|⟨t,e,rfl⟩
 .rw[aH,fE]at b;by_cases l:a=0
  .exact⟨1,row,by decide,iU rfl (gY (iw rfl rfl) (gY (mw rfl e) (k9 (jF (iN (gZ rfl rfl (by rw[iT,l];rfl))) (iE rfl)) rfl))),rfl,λi=>by rw[eX],n⟩
  .refine⟨a,row.map (λx=>x.fdiv a),by lia,iU rfl (gY (iw rfl rfl) (gY (mw rfl e) (gY (jM (iN (gZ rfl rfl (by rw[iT];simp[l]))) rfl) (iE ?_)))),by simp,λi=>?_,λy B=>?_⟩
   .exact lY (jo (jX row T.int (λx=>T.int (x.fdiv a)) rfl (by lia) (λx j=>⟨_,rfl,rfl,gZ rfl rfl (qC l (r.noPy D))⟩) (by rw[aJ];rfl))) rfl
   .by_cases d:i<row.length
    .rw[jZ row i d,jZ _ i (by simpa using d),fF];obtain⟨q,E⟩:=b _ (aW d);rw[E,eU q l]
    .rw[jm row i (by lia),jm _ i (by simp;lia),fv]
   .obtain⟨x,j,rfl⟩:=aE.mp B;exact cQ (F8 (b x j) l) (n x j)
 .exact⟨1,row,by decide,iU rfl (gY (iw rfl rfl) (k9 (mw rfl e) rfl)),rfl,λi=>by rw[eX],n⟩
def H9{g x:Int}(a:g≠0)(h:g*x=0):x=0:=by
 rcases fw.mp h with z|z
 .exact absurd z a
 .exact z
def uf o:wX o*o=(o.natAbs:Int):=by
 unfold wX;split
 .rw[eX];lia
 .split
  .rw[fB,eX];lia
  .rw[eY];lia
def nZ(p:Nat×LI):T:=.tup [.int (p.1:Int),tI p.2]
noncomputable def sm:Nat->(Nat->Int)->Int
 |0,_=>0
 |n+1,f=>f 0+sm n λi=>f (i+1)
theorem iI:∀n f g,(∀i,i<n->f i=g i)->sm n f=sm n g
 |0,_,_,_=>rfl
 |n+1,f,g,h=>by rw[sm,sm,h 0 (by lia),iI n _ _ λi a=>h (i+1) (by lia)]
theorem DL a b:∀n f g,sm n (λi=>a*f i+b*g i)=a*sm n f+b*sm n g
 |0,_,_=>by simp[sm]
 |n+1,f,g=>by rw[sm,sm,sm,DL a b n (λi=>f (i+1)) λi=>g (i+1),fu,fu];lia
theorem qr a:∀n f,sm n (λi=>a*f i)=a*sm n f
 |0,_=>by simp[sm]
 |n+1,f=>by rw[sm,sm,qr a n λi=>f (i+1),fu]
theorem kl:∀n:Nat,sm n (λ_=>0)=0
 |0=>rfl
 |n+1=>by rw[sm,kl n];rfl
theorem Ar:∀(n k:Nat) (f:Nat->Int),k<n->sm n (λi=>(if i=k then 1 else 0)*f i)=f k
 |0,k,f,h=>absurd h (dM _)
 |n+1,0,f,h=>by rw[sm,aR rfl,eX,iI n _ (λ_=>0) (λi _=>by rw[aS (by lia),eY]),kl,fg]
 |n+1,k+1,f,h=>by rw[sm,aS (by lia),eY,fj,iI n _ (λi=>(if i=k then 1 else 0)*f (i+1)) (λi _=>by simp),Ar n k (λi=>f (i+1)) (by lia)]
theorem xy:∀(m:Nat) (l:List Nat),l.Nodup->(∀x∈l,x<m)->l.length<=m
 |0,[],_,_=>aL _
 |0,x::l,_,h=>absurd (h x (bu ..)) (dM _)
 |m+1,l,hn,h=>by
  have a:=xy m (l.erase m) (hn.erase m) λx d=>by have q:=(hn.mem_erase_iff).mp d;have:=h x q.2;have:=q.1;lia
  by_cases b:m∈l
  .rw[fG b]at a;lia
  .rw[List.erase_of_not_mem b]at a;lia
def FI(e:fa ρ=.ok (.lst a))(f:fb ρ=.ok (.lst b))(d:a.length+b.length<=sizeLine):wa fa fb ρ=.ok (a++b):=by simp only[wa,e,f,M.bind_ok];rw[aR d]
def UU(h:f ρ=.ok a):jy (lstM (gQ f gW)) ρ=.ok (.lst [a]):=by
 have b:1<=sizeLine:=by decide
 simp only[jy,lstM,gQ,gW,h,M.bind_ok,Be,az,eW,b,if_true]
def GU(h:f ρ=.ok a)(e:g ρ=.ok b):oY (gQ f (gQ g gW)) ρ=.ok (.tup [a,b]):=by
 have d:2<=sizeLine:=by decide
 simp only[oY,gQ,gW,h,e,M.bind_ok,Be,az,eW,d,if_true]
def OU a b (h:a.length+b.length<=sizeLine):jw (.tup a) (.tup b)=.ok (.tup (a++b)):=by unfold jw;exact aR h
def Qd a b (h:a.length+b.length<=1000):jw (tI a) (tI b)=.ok (tI (a++b)):=by
 have sz:1000<sizeLine:=by decide
 unfold tI;rw[OU _ _ (by simp;lia),a9]
def yt(pv:List (Nat×LI)) left (a:Nat) (f:Nat×LI->LI) (g:pv.length<=100) (d:∀p∈pv,kJ c [tI p.2,tI left,.int (a:Int)]=.ok (tI (f p))) :
  lx c [.lst (pv.map nZ),tI left,.int (a:Int)]=.ok ((pv.map (λp=>(p.1,f p))++[(a,left)]).map nZ):=by
 have sz:1000<sizeLine:=by decide
 have e:lB [none,none,some 1,some 2] (jK (gR 0)) (oT 2 (je (ku 0) (je (ku 1) oR))) (λ_=>.ok true) (rR c) (vw (iW 3 [.lst (pv.map nZ),tI left,.int a]))=.ok ((pv.map (λp=>(p.1,f p))).map nZ):=jX pv nZ (λp=>nZ (p.1,f p)) rfl (by lia) (λp b=>⟨_,rfl,rfl,GU rfl (mV rfl rfl rfl (d p b))⟩) (by rw[aJ];rfl)
 refine JF rfl (Az ?_);rw[a9];exact FI (jo e) (UU (GU rfl rfl)) (by simp;lia)
def rF{e d:Type}[Inhabited d]{P:e->d->Prop}(l:List e)(h:∀a∈l,∃b,P a b):∃f:e->d,∀a∈l,P a (f a):=⟨λa=>Classical.epsilon λb=>P a b,λa g=>Classical.epsilon_spec (h a g)⟩
end CL
namespace CL
noncomputable def jC(m:Nat)(A u:Vc):Int:=sm m λi=>A i*u i
def Fq(h:∀i,s*z i=a*x i+b*y i):s*jC m A z=a*jC m A x+b*jC m A y:=by
 unfold jC;rw[<-qr,<-DL];refine iI m _ _ λi _=>?_;have:=h i;calc s*(A i*z i)=A i*(s*z i):=by rw[Int.mul_left_comm]
  _=A i*(a*x i+b*y i):=by rw[this]
  _=a*(A i*x i)+b*(A i*y i):=by grind
theorem oO m:∀(f:List Vc) (T:List Nat),T.Nodup->(∀t∈T,t<m)->f.length<T.length->∃v:Vc,(∃i,v i≠0)/\(∀i,i∉T->v i=0)/\∀A∈f,jC m A v=0
 |[],T,nd,ht,hl=>by
  cases T with
  |nil=>cases hl
  |cons t T=>refine⟨λi=>if i=t then 1 else 0,⟨t,by simp⟩,λi g=>?_,λA l=>nomatch l⟩;have:i≠t:=λz=>g (by simp[z]);simp[this]
 |A::f,T,nd,ht,hl=>by
  cases T with
  |nil=>cases hl
  |cons t T=>
   obtain⟨C,p⟩:=bO.mp nd;have h:f.length<T.length:=by simp at hl;exact hl
   obtain⟨e,⟨j,w⟩,o1,E⟩:=oO m f T p (λx n=>ht x (by simp[n])) h;have o:j∈T:=aP λz=>w (o1 j z);have q:f.length<((t::T).erase j).length:=by have D:j∈t::T:=bx _ o;rw[fG D,az];exact h
   obtain⟨c,⟨k,F⟩,o2,u⟩:=oO m f ((t::T).erase j) (nd.erase j) (λx n=>ht x (fH n)) q;have r:c j=0:=o2 j (λz=>by rw[List.Nodup.mem_erase_iff nd]at z;exact z.1 rfl);by_cases l:jC m A c=0
   .exact⟨c,⟨k,F⟩,λi g=>o2 i (λz=>g (fH z)),λB d=>by
     rcases aG.mp d with rfl|d
     .exact l
     .exact u B d⟩
   .refine⟨λi=>jC m A c*e i-jC m A e*c i,⟨j,?_⟩,λi g=>?_,λB d=>?_⟩
    .dsimp only;rw[r];simp[l,w]
    .show jC m A c*e i-jC m A e*c i=0;rw[o1 i (λz=>g (by simp[z])),o2 i (λz=>g (fH z))];simp
    .have:=Fq (m:=m) (A:=B) (x:=e) (y:=c) (z:=λi=>jC m A c*e i-jC m A e*c i) (s:=1) (a:=jC m A c) (b:=-jC m A e) (λi=>by grind);rcases aG.mp d with rfl|d
     .rw[eX]at this;rw[this];grind
     .rw[E B d,u B d]at this;simpa using this
end CL
namespace CL
open PySem L2 L3
variable {c:Cs}
def we N M row other a (A:a<row.length) (H:other.length=row.length) (hs:row.length<1000) (K:N+M+1<=8000) (j:∀x∈row,Bn N x) (q:∀x∈other,Bn M x) (P:vc other a≠0) :
  ∃r,kJ c [tI row,tI other,.int (a:Int)]=.ok (tI r)/\r.length=row.length/\(∀x∈r,Bn (N+M+1) x)/\vc r a=0/\∃g s b:Int,0<g/\0<s/\(∀i,g*vc r i=s*vc row i+b*vc other i)/\(vc row a≠0->s=((vc other a).natAbs:Int)/\b = -vc row a*wX (vc other a)):=by
 have sz:1000<sizeLine:=by decide
 have m:jD (tI row) (.int (a:Int))=.ok (.int (vc row a)):=kK row a A;have B:jD (tI other) (.int (a:Int))=.ok (.int (vc other a)):=kK other a (by lia);have D:Bn N (vc row a):=j _ (getD_mem row a A);have Q:Bn M (vc other a):=q _ (getD_mem other a (by lia));by_cases k:vc row a=0
 .exact⟨row,iU rfl (k9 (jF (iN (gZ (gZ rfl rfl m) rfl (by rw[iT,k];rfl))) (iE rfl)) rfl),rfl,λx E=>(j x E).mono (by lia),k,1,1,0,by decide,by decide,λi=>by lia,λz=>absurd k z⟩
 .generalize U:vc other a=o at *;generalize Y:vc row a=x0 at *;have L:uS [.int o]=.ok (.int (o.natAbs:Int)):=by simp[CQ]
  let w:Int:=-x0*wX o;have Z:=zS o;have v:Bn N w:=by
   refine cQ ?_ D;show (-x0*wX o).natAbs<=_;rw[aZ,Int.natAbs_neg];have:(wX o).natAbs<=1:=by lia
   exact aO (Nat.mul_le_mul_left _ this) (by lia)
  have C:Bn M (o.natAbs:Int):=cQ (by lia) Q;let d:LI:=(row.zip other).map λp=>(o.natAbs:Int)*p.1+w*p.2;have S:d.length=row.length:=by simp[d,H]
  have u:∀y∈d,Bn (N+M+1) y:=λy F=>by obtain⟨p,e,rfl⟩:=aE.mp F;exact ((C.mul (j _ (aX e).1)).add (v.mul (q _ (aX e).2))).mono (by lia)
  have h:∀i,vc d i=(o.natAbs:Int)*vc row i+w*vc other i:=λi=>by
   by_cases X:i<row.length
   .rw[jZ d i (by lia),jZ row i X,jZ other i (by lia)];simp[d]
   .rw[jm d i (by lia),jm row i (by lia),jm other i (by lia),fv,fv];rfl
  obtain⟨g,r,J,I,R,f,l⟩:=HS (c:=c) (N+M+1) K d (by lia) u;refine⟨r,iU rfl (gY (jM (iN (gZ (gZ rfl rfl m) rfl (by rw[iT];simp[k]))) rfl) (gY (iw (t:=.int (o.natAbs:Int)) (lY (gZ rfl rfl B) L) rfl) (gY (iw (t:=.int w) ?_ rfl) (iE (qe (x:=tI d) ?_ I))))),by lia,l,?_,g,(o.natAbs:Int),w,J,by lia,λi=>by rw[<-f i,h i],λ_=>⟨rfl,rfl⟩⟩
  .refine gZ (x:=.int (-x0)) (y:=.int (wX o)) ?_ (qe (gZ rfl rfl B) (Ex o)) (lq ((D.neg).ok (n:=2) ?_ (by lia) (by decide)))
   .exact QC (gZ rfl rfl m)
   .unfold Bn;show _<4;lia
  .refine lY (t:=.lst (d.map T.int)) (jo (jX (row.zip other) (λp=>T.tup [.int p.1,.int p.2]) (λp=>T.int ((o.natAbs:Int)*p.1+w*p.2)) (uV rfl rfl rfl rfl) (by simp;lia) (λp e=>⟨_,rfl,rfl,?_⟩) (by rw[aJ];rfl))) rfl;exact gZ (gZ rfl rfl (lq (C.ok (j _ (aX e).1) (by lia) (by lia)))) (gZ rfl rfl (lq (v.ok (q _ (aX e).2) (by lia) (by lia)))) (jj _ _)
  .refine H9 (g:=g) (by lia) ?_;rw[<-f a,h a,U,Y];show _ + -x0*wX o*o=_;rw[d9,uf,fB,ee x0];lia
theorem sf P x1 L M (hL:L<1000):∀(pv:List (Nat×LI)) (row:LI) (N:Nat) (j f:Option W),N+pv.length*(M+1)<=8000->row.length=L->(∀x∈row,Bn N x)->(∀p∈pv,p.1<L/\p.2.length=L/\vc p.2 p.1≠0/\(∀x∈p.2,Bn M x)/\P (vc p.2))->pv.Pairwise (λp q=>vc q.2 p.1=0)->
  ∃r w u,jY (qL 2 (kc (ot 2) (kc (ot 3) qs))) (sX c) (pv.map nZ) [some (.p (tI row)),x1,j,f]=.nx [some (.p (tI r)),x1,w,u]/\r.length=L/\(∀x∈r,Bn (N+pv.length*(M+1)) x)/\
   (∃g s y,0<g/\0<s/\Qs P y/\∀i,g*vc r i=s*vc row i+1*y i)/\(∀k,vc row k=0->(∀p∈pv,vc p.2 k=0)->vc r k=0)/\∀p∈pv,vc r p.1=0
 |[],row,N,j,f,_,hl,hb,_,_=>⟨row,j,f,rfl,hl,λx l=>(hb x l).mono (by lia),⟨1,1,λ_=>0,by decide,by decide,.zero,λi=>by lia⟩,λk E _=>E,λp b=>nomatch b⟩
 | (a,prow)::pv,row,N,j,f,hN,hl,hb,hA,hw=>by
  obtain⟨h1,h2,S,U,X⟩:=hA (a,prow) (bu ..);obtain⟨Y,I⟩:=cX.mp hw;rw[az,cg]at hN;obtain⟨n,Z,J,b1,Q,d,v,q1,A,z,H,_⟩:=we N M row prow a (by lia) (by lia) (by lia) (by lia) hb U S;obtain⟨r,w,u,e,B,m,⟨t,h,y,o,D,R,v2⟩,F,K⟩:=sf P x1 L M hL pv n (N+M+1) (some (.p (.int a))) (some (.p (tI prow))) (by lia) (by rw[J,hl]) b1 (λp b=>hA p (bx _ b)) I;refine⟨r,w,u,?_,B,λx l=>(m x l).mono (by rw[az,cg];lia),⟨d*t,h*v,_,aY A o,aY D z,Qs.comb (h*q1) d (.of X) R,λi=>?_⟩,λk E b=>?_,λp b=>?_⟩
  .rw[bJ,jY];have v:(qL 2 (kc (ot 2) (kc (ot 3) qs))) (nZ (a,prow)) [some (.p (tI row)),x1,j,f]=some [some (.p (tI row)),x1,some (.p (.int a)),some (.p (tI prow))]:=rfl;rw[v];have h:sX c [some (.p (tI row)),x1,some (.p (.int a)),some (.p (tI prow))]=.nx [some (.p (tI n)),x1,some (.p (.int a)),some (.p (tI prow))]:=iw (mV rfl rfl rfl Z) rfl;dsimp only;rw[h];exact e
  .calc d*t*vc r i=d*(t*vc r i):=by ac_rfl
    _=h*(d*vc n i)+d*y i:=by rw[v2 i,eX,fu];congr 1;ac_rfl
    _=_:=by rw[H i,fu];simp only[eX,d9,Int.add_assoc]
  .refine F k (H9 (g:=d) (by lia) ?_) λp C=>b p (bx _ C);have:=b (a,prow) (bu ..);dsimp only at this;rw[H k,E,this,fv,fv];rfl
  .rcases aG.mp b with rfl|b
   .exact F _ Q λq hq=>Y q hq
   .exact K p b
def Cp P L M N (m:L<1000) (pv:List (Nat×LI)) row (l:N+pv.length*(M+1)<=8000) (f:row.length=L) (a:∀x∈row,Bn N x) (b:∀p∈pv,p.1<L/\p.2.length=L/\vc p.2 p.1≠0/\(∀x∈p.2,Bn M x)/\P (vc p.2)) (hw:pv.Pairwise (λp q=>vc q.2 p.1=0)) :
  ∃r:LI,kD c [tI row,.lst (pv.map nZ)]=.ok (tI r)/\r.length=L/\(∀x∈r,Bn (N+pv.length*(M+1)) x)/\
   (∃g s y,0<g/\0<s/\Qs P y/\∀i,g*vc r i=s*vc row i+1*y i)/\∀p∈pv,vc r p.1=0:=by
 obtain⟨r,o,n,e,d,k,h,-,j⟩:=sf P (some (.p (.lst (pv.map nZ)))) L M m pv row N none none l f a b hw;exact⟨r,iU rfl (gY (mw rfl e) (iE rfl)),d,k,h,j⟩
noncomputable def Pq(B:Nat):Nat->Nat
 |0=>0
 |k+1=>Pq B k+(B+k*(Pq B k+1))+1
def OV B k:Pq B k<=Pq B (k+1):=by show _<=Pq B k+(B+k*(Pq B k+1))+1;lia
def P0(h:k<=d):Pq B k<=Pq B d:=by
 induction h with
 |refl=>exact aL _
 |step _ ih=>exact aO ih (OV B _)
structure Vp(d B:Nat):Prop where
 b1:1<=B
 le:∀k,k<=d->B+k*(Pq B k+1)<=8000
 pq:Pq B d<=8000
structure PP(d B:Nat)(rows:LL)(pv:List (Nat×LI))(rs:LL):Prop where
 pl:∀p∈pv,p.1<d/\p.2.length=d+1/\vc p.2 p.1≠0/\(∀x∈p.2,Bn (Pq B pv.length) x)/\Qs (VP rows) (vc p.2)
 pw:pv.Pairwise λp q=>p.1≠q.1/\vc q.2 p.1=0/\vc p.2 q.1=0
 rr:∀r∈rs,r.length=d+1/\(∀k,k<d->vc r k=0)/\Qs (VP rows) (vc r)
 sp:∀r∈rows,Qs (λx=>(∃p∈pv,x=vc p.2)\/∃r∈rs,x=vc r) (vc r)
section
variable {d B:Nat}{rows rs:LL}{pv:List (Nat×LI)}{row left:LI}{g s:Int}{y:Vc}
def PP.short(h:PP d B rows pv rs):pv.length<=d:=by
 have:=xy d (pv.map Prod.fst) (dQ.mpr (h.pw.imp λq=>q.1)) λx b=>by obtain⟨p,a,rfl⟩:=aE.mp b;exact (h.pl p a).1
 simpa using this
def rB{x:Vc}(q:Qs (VP rows) x):Qs (VP (rows++[row])) x:=q.mono λz ⟨w,hw,e⟩=>⟨w,ay _ hw,e⟩
def vR(h:PP d B rows pv rs)(b:0<g)(a:Qs (yA pv) y)(e:∀i,g*vc left i=s*vc row i+1*y i):Qs (VP (rows++[row])) (vc left):=.lin (.of ⟨row,bF _ (aj.mpr rfl),rfl⟩) (a.sub λx ⟨p,hp,ex⟩=>by rw[ex];exact rB (h.pl p hp).2.2.2.2) (by lia) e
def Oe(h:PP d B rows pv rs)(o:0<g)(v:0<s)(j:Qs (yA pv) y)(e:∀i,g*vc left i=s*vc row i+1*y i)(n:left.length=d+1)(t:∀k,k<d->vc left k=0):PP d B (rows++[row]) pv (rs++[left]):=by
 have up:∀{x:Vc},Qs (λx=>(∃p∈pv,x=vc p.2)\/∃r∈rs,x=vc r) x->Qs (λx=>(∃p∈pv,x=vc p.2)\/∃r∈rs++[left],x=vc r) x:=λq=>q.mono λz l=>l.imp id λ⟨r,hr,ez⟩=>⟨r,ay _ hr,ez⟩;refine⟨λp f=>?_,h.pw,λr hr=>?_,λr hr=>?_⟩
 .obtain⟨a,b,m,u,q⟩:=h.pl p f;exact⟨a,b,m,u,rB q⟩
 .rcases ai.mp hr with q|q
  .obtain⟨a,b,q⟩:=h.rr r q;exact⟨a,b,rB q⟩
  .rw[aj.mp q];exact⟨n,t,vR h o j e⟩
 .rcases ai.mp hr with q|q
  .exact up (h.sp r q)
  .rw[aj.mp q];exact .lin (a:=g) (b:=-1) (.of (.inr ⟨left,bF _ (aj.mpr rfl),rfl⟩)) (j.mono λx ⟨p,f,ex⟩=>.inl ⟨p,f,ex⟩) (show s≠0 by lia) λi=>by rw[e i];lia
def IA(h:PP d B rows pv rs)(L:0<g)(Y:0<s)(H:Qs (yA pv) y)(e:∀i,g*vc left i=s*vc row i+1*y i)(S:left.length=d+1)(A:∀p∈pv,vc left p.1=0)(N:∀x∈left,Bn (B+pv.length*(Pq B pv.length+1)) x){j:Nat}(X:j<d)(K:vc left j≠0)
  (f:Nat×LI->LI) (v:∀p∈pv,(f p).length=p.2.length/\(∀x∈f p,Bn (Pq B (pv.length+1)) x)/\vc (f p) j=0/\∃g s b:Int,0<g/\0<s/\∀i,g*vc (f p) i=s*vc p.2 i+b*vc left i):PP d B (rows++[row]) (pv.map (λp=>(p.1,f p))++[(j,left)]) rs:=by
 have P:(pv.map (λp=>(p.1,f p))++[(j,left)]).length=pv.length+1:=by simp
 have at_:∀p∈pv,∀q∈pv,vc p.2 q.1=0->vc (f p) q.1=0:=λp k q t z=>by obtain⟨_,_,_,C,J,D,E,I,o⟩:=v p k;have:=o q.1;rw[z,A q t,fv,fv,fg]at this;exact H9 (Int.ne_of_gt E) this
 have m:Qs (λx=>(∃p∈pv.map (λp=>(p.1,f p))++[(j,left)],x=vc p.2)\/∃r∈rs,x=vc r) (vc left):=.of (.inl ⟨(j,left),bF _ (aj.mpr rfl),rfl⟩);have n:∀p∈pv,Qs (λx=>(∃p∈pv.map (λp=>(p.1,f p))++[(j,left)],x=vc p.2)\/∃r∈rs,x=vc r) (vc p.2):=λp k=>by obtain⟨_,_,_,C,J,D,E,I,o⟩:=v p k;exact .lin (a:=C) (b:=-D) (.of (.inl ⟨(p.1,f p),ay _ (aE.mpr ⟨p,k,rfl⟩),rfl⟩)) m (show J≠0 by lia) λi=>by rw[o i];lia
 refine⟨λp k=>?_,?_,λr hr=>?_,λr hr=>?_⟩
 .rw[P];rcases ai.mp k with q|q
  .obtain⟨p,l,rfl⟩:=aE.mp q;obtain⟨a,b,R,Z,q⟩:=h.pl p l;obtain⟨U,Q,_,C,J,D,E,I,o⟩:=v p l;refine⟨a,U.trans b,λz=>?_,Q,.lin (rB q) (vR h L H e) (show C≠0 by lia) o⟩;have:=o p.1;rw[show vc (f p) p.1=0 from z,A p l,fv,fv,fg]at this;exact R (H9 (Int.ne_of_gt I) this.symm)
  .rw[aj.mp q];exact⟨X,S,K,λx F=>(N x F).mono (by show _<=Pq B pv.length+(B+pv.length*(Pq B pv.length+1))+1;lia),vR h L H e⟩
 .refine cV.mpr ⟨dQ.mpr (h.pw.imp_of_mem λ{p q} k t w=>⟨w.1,at_ q t p k w.2.1,at_ p k q t w.2.2⟩),cW _ _,λp k q t=>?_⟩;rw[aj.mp t];obtain⟨p,l,rfl⟩:=aE.mp k;exact⟨λz=>K ((show p.1=j from z)▸A p l),A p l,(v p l).2.2.1⟩
 .obtain⟨a,b,q⟩:=h.rr r hr;exact⟨a,b,rB q⟩
 .rcases ai.mp hr with q|q
  .exact (h.sp r q).sub λx F=>by
    rcases F with⟨p,k,u⟩|⟨r,hr,u⟩
    .rw[u];exact n p k
    .exact .of (.inr ⟨r,hr,u⟩)
  .rw[aj.mp q];exact .lin (a:=g) (b:=-1) m (H.sub λx ⟨p,k,u⟩=>by rw[u];exact n p k) (show s≠0 by lia) λi=>by rw[e i];lia
end
theorem Gp(a:LL)(d B:Nat)(hd:d<=4)(hzl:a.length<=8)(hz:∀u∈a,u.length=d+1/\∀x∈u,Bn B x)(hB:Vp d B) :
  ∃pv n,i5 c [.lst (a.map tI),.int (d:Int)]=.ok (.tup [.lst (pv.map nZ),.lst (n.map tI)])/\PP d B a pv n/\n.length<=8:=by
 have sz:1000<sizeLine:=by decide
 have hrm:Ce (d:Int)=true:=lT (by lia);obtain⟨ρ,e,pv,n,x4,Z,S,rfl,v,L⟩:=ly (m:=ot 4) (g:=lG c) tI
  (λk ρ=>∃(pv:List (Nat×LI)) (n:LL) (x4 Z S:Option W),ρ=[some (.p (.lst (a.map tI))),some (.p (.int (d:Int))),some (.p (.lst (pv.map nZ))),some (.o (n.map tI)),x4,Z,S]/\PP d B (a.take k) pv n/\n.length<=k)
  a 0 _ ⟨[],[],none,none,none,rfl,⟨(λp l=>nomatch l),List.Pairwise.nil,(λp l=>nomatch l),(λz hz=>by simp at hz)⟩,aL _⟩ (by
   rintro k z ρ hi ⟨pv,n,x4,Z,S,rfl,v,L⟩;rw[aH]at v L ⊢;have U:=hz z (au hi);have hkl:=(aa.mp hi).1;have K:=v.short;have hbb:=hB.le pv.length K;obtain⟨left,el,X,Q,⟨g,s,y,hg,hs,hy,ey⟩,h0⟩:=Cp (c:=c) (yA pv) (d+1) (Pq B pv.length) B (by lia) pv z hbb U.1 U.2 (λp l=>by obtain⟨q1,q2,q3,q4,_⟩:=v.pl p l;exact⟨by lia,q2,q3,q4,p,l,rfl⟩) (v.pw.imp λh=>h.2.1)
   let C:List Nat:=(List.range d).filter λj=>left.getD j 0 != 0;let R:En:=[some (.p (.lst (a.map tI))),some (.p (.int (d:Int))),some (.p (.lst (pv.map nZ))),some (.o (n.map tI)),some (.p (tI z)),some (.p (tI left)),some (.p (.lst (C.map λ(j:Nat)=>T.int (j:Int))))];have e4:lB [none,some 5] (kC (gQ (gR 1) gW)) (ku 0) (jl (ig (iM true) (ig jD (gR 1) (gR 0)) (cM (.int 0)))) (m5 c) (kP [some (.p (.lst (a.map tI))),some (.p (.int (d:Int))),some (.p (.lst (pv.map nZ))),some (.o (n.map tI)),some (.p (tI z)),some (.p (tI left)),S])=.ok (C.map λ(j:Nat)=>T.int (j:Int)):=sH (List.range d) (λ(j:Nat)=>T.int (j:Int)) (λ(j:Nat)=>T.int (j:Int)) (λj=>left.getD j 0 != 0) (by simp[hrm,Oj]) (by simp;lia) (λj hj=>⟨_,rfl,iN (gZ (gZ rfl rfl (kK left j (by have:=aT.mp hj;lia))) rfl (qQ _ _)),λ_=>rfl⟩) rfl
   have H:sL (C.map λ(j:Nat)=>T.int (j:Int))=true:=qA _ _ λ_ _=>rfl;have J:s9 (C.map λ(j:Nat)=>T.int (j:Int))<=90:=aO (qN _ 0 _ λ_ _=>aL _) (by decide);have D:jl (ig (iM false) (gR 6) (jy (lstM gW))) (vw R)=.ok C.isEmpty:=by refine iN (gZ (x:=.lst (C.map λ(j:Nat)=>T.int (j:Int))) (y:=.lst []) rfl (by simp) ?_);rw[vQ false _ H J];simp
   have N:∀r,(pW (jl (ig (iM false) (gR 6) (jy (lstM gW)))) (tY 3 (kn (gR 5))) (setO 2 (kn (jy (kL (gQ (gR 2) (gQ (gR 5) (gQ (ig jD (gR 6) (cM (.int 0))) gW))) (lx c)))))) R=r->
     lG c [some (.p (.lst (a.map tI))),some (.p (.int (d:Int))),some (.p (.lst (pv.map nZ))),some (.o (n.map tI)),some (.p (tI z)),Z,S]=r:=λr hr=>
    gY (iw (t:=tI left) (lE rfl rfl el) rfl) (gY (iw (t:=.lst (C.map λ(j:Nat)=>T.int (j:Int))) (jo e4) rfl) hr)
   have mono:B+pv.length*(Pq B pv.length+1)<=B+d*(Pq B d+1):=Nat.add_le_add_left (Nat.mul_le_mul K (Nat.add_le_add_right (P0 K) 1)) _;have tk:a.take (k+1)=a.take k++[z]:=jP a k z hi;cases w:C with
   |nil=>refine⟨_,_,rfl,.inl (N _ (jF (by rw[D,w];rfl) (sr (t:=tI left) rfl rfl (by simp;lia) rfl))),pv,n++[left],_,_,_,by rw[a9];rfl,?_,by simp;lia⟩;rw[tk];refine Oe v hg hs hy ey X λi him=>?_;refine aP λhc=>?_;have:i∈C:=aV.mpr ⟨aT.mpr him,by simpa[vc] using hc⟩;rw[w]at this;exact nomatch this
   |cons E js=>
    have Y:E∈C:=by rw[w];exact bu ..
    have F:E<d:=aT.mp (aV.mp Y).1;have A:vc left E≠0:=by have:=(aV.mp Y).2;simpa[vc] using this
    have I:pv.length+1<=d:=by
     have nd:(E::pv.map Prod.fst).Nodup:=bO.mpr ⟨λhm=>by obtain⟨p,l,ep⟩:=aE.mp hm;exact A (ep▸h0 p l),dQ.mpr (v.pw.imp λq=>q.1)⟩
     have:=xy d _ nd λx hx=>by
      rcases aG.mp hx with rfl|hx
      .exact F
      .obtain⟨p,l,rfl⟩:=aE.mp hx;exact (v.pl p l).1
     simpa using this
    have hP:Pq B (pv.length+1)<=8000:=aO (P0 I) hB.pq;obtain⟨f,hf⟩:=rF (P:=λ(p:Nat×LI) (r:LI)=>kJ c [tI p.2,tI left,.int (E:Int)]=.ok (tI r)/\r.length=p.2.length/\(∀x∈r,Bn (Pq B (pv.length+1)) x)/\vc r E=0/\∃g s b:Int,0<g/\0<s/\∀i,g*vc r i=s*vc p.2 i+b*vc left i) pv λp l=>by obtain⟨q1,q2,q3,q4,_⟩:=v.pl p l;obtain⟨r,a1,a2,a3,a4,g,s,b,a5,a6,a7,_⟩:=we (c:=c) (Pq B pv.length) (B+pv.length*(Pq B pv.length+1)) p.2 left E (by lia) (by lia) (by lia) hP q4 Q A;exact⟨r,a1,a2,a3,a4,g,s,b,a5,a6,a7⟩
    have i0:ig jD (gR 6) (cM (.int 0)) (kP R)=.ok (.int (E:Int)):=gZ (x:=.lst (C.map λ(j:Nat)=>T.int (j:Int))) rfl rfl (by rw[w];exact P4 _ _);have e5:=yt (c:=c) pv left E f (by lia) λp l=>(hf p l).1;refine⟨_,_,rfl,.inl (N _ (jM (by rw[D,w];rfl) (iw (jo (Qo rfl rfl i0 e5)) rfl))),_,n,_,_,_,rfl,?_,by lia⟩;rw[tk];exact IA v hg hs hy ey X h0 Q F A f λp l=>(hf p l).2)
 rw[aH,fE]at v;rw[aH]at L;refine⟨pv,n,iU rfl (gY (iw (t:=.lst []) (by simp) rfl) (gY (nC (ts:=[]) (by simp) rfl) (gY (mw rfl e) (iE (GU rfl rfl))))),v,by lia⟩
end CL
namespace CL
open PySem L2 L3
variable {c:Cs}
noncomputable def DM:Nat->(Nat->Rat)->Rat
 |0,_=>0
 |n+1,f=>f 0+DM n λi=>f (i+1)
theorem zi:∀n f g,(∀i,i<n->f i=g i)->DM n f=DM n g
 |0,_,_,_=>rfl
 |n+1,f,g,h=>by unfold DM;rw[h 0 (by lia),zi n _ _ λi a=>h (i+1) (by lia)]
def zW(h:fc ρ=.ok false)(a:fd ρ=.ok b):L3.Bo fc fd ρ=.ok b:=by simp only[L3.Bo,h,a,M.bind_ok];rfl
def Si(h:fc ρ=.ok true):L3.Bo fc fd ρ=.ok true:=by simp only[L3.Bo,h,M.bind_ok];rfl
def QQ a b i:vc (a++b) i=if i<a.length then vc a i else vc b (i-a.length):=by
 unfold vc;by_cases h:i<a.length
 .rw[aR h,af,List.getElem?_append_left h,<-af]
 .rw[aS h,af,List.getElem?_append_right (by lia),<-af]
def GL(d B:Nat)(a:LI):Prop:=a.length=d+1/\∀x∈a,Bn B x
structure GC(d B:Nat)(ns:LI):Prop where
 gl:GL d B ns
 re:∃p,p<d/\vc ns p≠0
def GL.mono(h:GL d B ns)(b:B<=B'):GL d B' ns:=⟨h.1,λx a=>(h.2 x a).mono b⟩
def GL.set(h:GL d B ns) k (a:Bn B v):GL d B (ns.set k v):=⟨by rw[bU];exact h.1,λx b=>by
 rcases List.mem_or_eq_of_mem_set b with q|q
 .exact h.2 x q
 .rw[q];exact a⟩
def RF ns k v i (a:k<ns.length):vc (ns.set k v) i=if k=i then v else vc ns i:=by
 unfold vc;rw[af,List.getElem?_set];by_cases h:k=i
 .subst h;rw[aR rfl,aR rfl,aR a];rfl
 .rw[aS h,aS h,<-af]
def AQ n k (h:k<n):wW n (k:Int)=some k:=by unfold wW;rw[aR (by lia),aR (by lia)];simp
def pK(n:Nat)(h:n<=1000)(a:f ρ=.ok (.int (n:Int))):kC (gQ f gW) ρ=.ok ((List.range n).map λ(i:Nat)=>T.int (i:Int)):=by have hr:Ce n=true:=lT (by lia);rw[<-Oj];simp[a,hr]
def OC cell (k d B:Nat) (fs:LL) (hk:k<=10) (hd:1<=d/\d<=3) (hB:10<=B) (hB2:B<=1000) (hf:∀f∈fs,GL d B f) (hfl:fs.length<=10) :
  ∃ns,kY c [.int cell,.int k,.int d,.lst (fs.map tI)]=.ok (tI ns)/\GC d (B+2) ns:=by
 have sz:1000<sizeLine:=by decide
 have hrd:Ce ((d+1:Nat):Int)=true:=lT (by lia);obtain⟨d1,d1a,d1b⟩:=mM (c:=c) cell 2 5 (by decide) (by decide) (by decide) (by decide);obtain⟨h,ew,hw⟩:=Ge [1,2,3,5,1000] (dr c cell 2 5) d1a (by simpa using d1b);have hw':1<=h/\h<=1000:=by simp only[aG,eC,or_false]at hw;lia
 let s:LI:=(List.range (d+1)).map λ(j:Nat)=>dr c cell (4+4*k+j) (2*h+1)-h;have g0:GL d (B+2) s:=⟨by simp[s],λx P=>by obtain⟨j,hj,rfl⟩:=aE.mp P;have hj':=aT.mp hj;obtain⟨_,a1,a2⟩:=mM (c:=c) cell (4+4*k+j) (2*h+1) (by lia) (by lia) (by lia) (by lia);refine Bn.mono (m:=10) ?_ (by lia);unfold Bn;show _<1024;lia⟩
 obtain⟨d2,d2a,d2b⟩:=mM (c:=c) cell (40+k) 6 (by decide) (by decide) (by lia) (by lia);let r:=dr c cell (40+k) 6;let St:LI->Option W->Option W->En:=λns E D=>[some (.p (.int cell)),some (.p (.int k)),some (.p (.int d)),some (.p (.lst (fs.map tI))),some (.p (.int h)),some (.o (ns.map T.int)),some (.p (.int r)),E,D];have e0:lB [none,some 4,some 0,some 1] (kC (gQ (ig jw (gR 2) (cM (.int 1))) gW)) (ku 0) (λ_=>.ok true) (t6 c) (kP [some (.p (.int cell)),some (.p (.int k)),some (.p (.int d)),some (.p (.lst (fs.map tI))),some (.p (.int h)),none,none,none,none])=.ok (s.map T.int):=by
  refine jX (List.range (d+1)) (λ(j:Nat)=>T.int (j:Int)) (λ(j:Nat)=>T.int (dr c cell (4+4*k+j) (2*h+1)-h)) ?_ (by simp;lia) (λj hj=>⟨_,rfl,rfl,?_⟩) (by rw[aJ];rfl)
  .exact pK (d+1) (by lia) (gZ rfl rfl (by rw[jj];simp))
  .have hj':=aT.mp hj;obtain⟨e,_,_⟩:=mM (c:=c) cell (4+4*k+j) (2*h+1) (by lia) (by lia) (by lia) (by lia);exact gZ (mV (y:=.int (4+4*(k:Int)+(j:Int))) (z:=.int (2*h+1)) rfl (gZ (gZ rfl (gZ rfl rfl (lR (by decide))) (jj _ _)) rfl (jj _ _)) (gZ (gZ rfl rfl (lR (by decide))) rfl (jj _ _)) e) rfl (nV _ _)
 have S:∀neg,iM neg (.lst (fs.map tI)) (.lst [])=.ok (.bl (if neg then !fs.isEmpty else fs.isEmpty)):=λneg=>by rw[vQ neg (fs.map tI) (by simp) (aO (wY fs) (by decide))];simp
 obtain⟨A,e1,g1⟩:∃A,(pW (yo (jl (ig (iM false) (gR 6) (cM (.int 1)))) (jl (ig (iM true) (gR 3) (jy (lstM gW))))) (n5 5 (uA (wa (jy (Nt qM (gQ (kR (ig jD (gR 3) (hZ (gQ (gR 0) (gQ (ig jw (cM (.int 50)) (gR 1)) (gQ (kv kZ (gQ (gR 3) gW)) gW))) (iK c))) (λ_=>.ok none) (ju (gR 2))) gW))) (kR (gR 5) (ju (gR 2)) (λ_=>.ok none))))) jE) (St s none none)=.nx (St A none none)/\GL d (B+2) A:=by
  by_cases J:r=1/\fs≠[]
  .obtain⟨K,w⟩:=J;have hlp:=fJ.mpr w;obtain⟨d3,F,X⟩:=mM (c:=c) cell (50+k) fs.length (by lia) (by lia) (by lia) (by lia);obtain⟨f,ef,I⟩:=A3 fs (dr c cell (50+k) fs.length) F X;have H:=hf f I;refine⟨f.take d++s.drop d,jF ?_ (Nr (ts:=(f.take d++s.drop d).map T.int) ?_ (wR _) rfl),⟨?_,λx P=>?_⟩⟩
   .have N:jl (ig (iM false) (gR 6) (cM (.int 1))) (vw (St s none none))=.ok true:=iN (gZ (x:=.int r) rfl rfl (by rw[iT,K];rfl));have L:jl (ig (iM true) (gR 3) (jy (lstM gW))) (vw (St s none none))=.ok true:=iN (gZ (x:=.lst (fs.map tI)) (y:=.lst []) rfl (by simp) (by rw[S];simp[w]));simp only[L3.yo,N,L,M.bind_ok];rfl
   .rw[a9];refine FI (a:=(f.take d).map T.int) (b:=(s.drop d).map T.int) ?_ ?_ (by simp;have:=g0.1;lia)
    .refine jo ?_;have:=tP (fe:=ig jD (gR 3) (hZ (gQ (gR 0) (gQ (ig jw (cM (.int 50)) (gR 1)) (gQ (kv kZ (gQ (gR 3) gW)) gW))) (iK c))) (fd:=gR 2) (d:=d) (ts:=f.map T.int) (ρ:=vw (St s none none)) (gZ (x:=.lst (fs.map tI)) (y:=.int (dr c cell (50+k) fs.length)) rfl (mV (y:=.int (50+(k:Int))) (z:=.int (fs.length:Int)) rfl (gZ rfl rfl (jj _ _)) (lY rfl (by simp)) d3) (by simp[pJ,ef,tI])) rfl (by rw[ax,H.1];lia);simp only[Nt,gQ,gW,this,M.bind_ok];rw[eE];rfl
    .rw[eF];exact uy (ts:=s.map T.int) rfl rfl
   .rw[aU,bQ,bS,H.1,g0.1];lia
   .rcases ai.mp P with q|q
    .exact (H.2 x (dB q)).mono (by lia)
    .exact g0.2 x (dq q)
  .refine⟨s,jM ?_ rfl,g0⟩;have N:jl (ig (iM false) (gR 6) (cM (.int 1))) (vw (St s none none))=.ok (r==1):=iN (gZ (x:=.int r) rfl rfl (iT _ _));have L:jl (ig (iM true) (gR 3) (jy (lstM gW))) (vw (St s none none))=.ok (!fs.isEmpty):=iN (gZ (x:=.lst (fs.map tI)) (y:=.lst []) rfl (by simp) (by rw[S];rfl));simp only[L3.yo,N,L,M.bind_ok];by_cases K:r=1
   .have hn:fs=[]:=by
     by_cases hn:fs=[]
     .exact hn
     .exact absurd ⟨K,hn⟩ J
    rw[K,hn];rfl
   .have:(r==1)=false:=by simpa using K
    rw[this];rfl
 obtain⟨C,e2,g2⟩:∃C,(pW (jl (ig (iM false) (gR 6) (cM (.int 2)))) (yh 5 (vK (gR 2)) (vK (cM (.int 0)))) jE) (St A none none)=.nx (St C none none)/\GL d (B+2) C:=by
  by_cases h2:r=2
  .refine⟨A.set d 0,jF (iN (gZ (x:=.int r) rfl rfl (by rw[iT,h2];rfl))) (DI (us:=A.map T.int) (t:=.int 0) (j:=(d:Int)) (m:=d) rfl rfl rfl rfl (AQ _ _ (by rw[ax,g1.1];lia)) ?_),g1.set d vH⟩;show St (A.set d 0) none none=_;simp only[St,fK];rfl
  .exact⟨A,jM (iN (gZ (x:=.int r) rfl rfl (by rw[iT];simp[h2]))) rfl,g1⟩
 obtain⟨u,E,D,e3,g3⟩:∃u E D,(pW (yo (jl (ig (iM false) (gR 6) (cM (.int 3)))) (jl (ig Ir (kv kZ (gQ (gR 3) gW)) (cM (.int 1))))) (iD (setO 7 (kn (ig jD (gR 3) (hZ (gQ (gR 0) (gQ (ig jw (cM (.int 50)) (gR 1)) (gQ (ig qh (kv kZ (gQ (gR 3) gW)) (cM (.int 1))) gW))) (iK c)))))
  (iD (setO 8 (kn (ig jw (cM (.int 1)) (hZ (gQ (gR 0) (gQ (ig jw (cM (.int 60)) (gR 1)) (gQ (cM (.int 3)) gW))) (iK c)))))
  (n5 5 (qt (lB [none,none,some 8] (n0 (gQ (ig jD (gR 3) (xV (λi=>.int (-i)) (cM (.int 1)))) (gQ (gR 7) gW))) (oT 2 (je (ku 0) (je (ku 1) oR))) (λ_=>.ok true) (ug c)))))) jE) (St C none none)=.nx (St u E D)/\GL d (B+2) u:=by
  have N:jl (ig (iM false) (gR 6) (cM (.int 3))) (vw (St C none none))=.ok (r==3):=iN (gZ (x:=.int r) rfl rfl (iT _ _))
  have L:jl (ig Ir (kv kZ (gQ (gR 3) gW)) (cM (.int 1))) (vw (St C none none))=.ok (decide (1<(fs.length:Int))):=iN (gZ (x:=.int (fs.length:Int)) (lY rfl (by simp)) rfl rfl)
  by_cases J:r=3/\1<fs.length
  .obtain⟨U,Z⟩:=J;have w:fs≠[]:=by intro z;rw[z]at Z;simp at Z
   obtain⟨d3,F,X⟩:=mM (c:=c) cell (50+k) (fs.length-1) (by lia) (by lia) (by lia) (by lia);obtain⟨f,ef,I⟩:=A3 fs (dr c cell (50+k) (fs.length-1)) F (by lia);obtain⟨d4,d4a,d4b⟩:=mM (c:=c) cell (60+k) 3 (by decide) (by decide) (by lia) (by lia);have Qa:qx fs (-1)=some (fs.getLast w):=by rw[Sz _ w,List.getLast?_eq_getLast w]
   have gl:=hf _ (List.getLast_mem w);have H:=hf f I;generalize fs.getLast w=la at Qa gl;let v:Int:=1+dr c cell (60+k) 3;have hby:1<=v/\v<=3:=by show 1<=1+_/\1+_<=(3:Int);lia
   refine⟨(la.zip f).map λp=>p.1+v*p.2,some (.p (tI f)),some (.p (.int v)),jF ?_ (gY (iw (t:=tI f) (gZ (x:=.lst (fs.map tI)) (y:=.int (dr c cell (50+k) (fs.length-1))) rfl (mV (y:=.int (50+(k:Int))) (z:=.int ((fs.length:Int)-1)) rfl (gZ rfl rfl (jj _ _)) (gZ (x:=.int (fs.length:Int)) (lY rfl (by simp)) rfl (nV _ _)) d3) (by simp[pJ,ef])) rfl) (gY (iw (t:=.int v) (gZ rfl (mV (y:=.int (60+(k:Int))) rfl (gZ rfl rfl (jj _ _)) rfl d4) (jj _ _)) rfl) (nC (ts:=((la.zip f).map λp=>p.1+v*p.2).map T.int) ?_ rfl))),⟨by rw[ax,fL,gl.1,H.1];lia,λx P=>?_⟩⟩
   .simp only[L3.yo,N,L,M.bind_ok];have:(r==3)=true:=by simpa using U
    rw[this];simp only[if_true];have:decide (1<(fs.length:Int))=true:=aC (by lia);rw[this]
   .refine jX (la.zip f) (λp=>T.tup [.int p.1,.int p.2]) (λp=>T.int (p.1+v*p.2)) (uV (l:=la) (m:=f) (f:=T.int) (g:=T.int) (x:=tI la) (gZ (x:=.lst (fs.map tI)) (y:=.int (-1)) rfl rfl (by simp[pJ,Qa])) rfl rfl rfl) (by rw[fL,gl.1,H.1];lia) (λp Y=>⟨_,rfl,rfl,gZ rfl (gZ rfl rfl (lR ?_)) (jj _ _)⟩) (by rw[aJ];rfl);show v.natAbs<_;lia
   .obtain⟨p,Y,rfl⟩:=aE.mp P;have K:=gl.2 _ (aX Y).1;have h2:=H.2 _ (aX Y).2;unfold Bn at *;rw[Nat.pow_add];have a1:=eJ p.1 (v*p.2);have a2:(v*p.2).natAbs<=3*p.2.natAbs:=by rw[aZ];exact Nat.mul_le_mul_right _ (by lia)
    lia
  .refine⟨C,none,none,jM ?_ rfl,g2⟩;simp only[L3.yo,N,L,M.bind_ok];by_cases U:r=3
   .have:(r==3)=true:=by simpa using U
    rw[this];have:decide (1<(fs.length:Int))=false:=aB (by intro z;exact J ⟨U,by lia⟩);rw[this];rfl
   .have:(r==3)=false:=by simpa using U
    rw[this];rfl
 have Q:jl (ig (iM false) (kR (gR 5) (λ_=>.ok none) (ju (gR 2))) (jy (Cf (jy (lstM (gQ (cM (.int 0)) gW))) (gR 2)))) (vw (St u E D))=.ok (decide (u.take d=List.replicate d 0)):=by refine iN (gZ (x:=.lst ((u.take d).map T.int)) (y:=.lst ((List.replicate d (0:Int)).map T.int)) ?_ (PR d (by lia) rfl) (by rw[DP];rfl));rw[eE];exact zZ (ts:=u.map T.int) rfl rfl
 have head:∀t,iD (pW (jl (ig (iM false) (kR (gR 5) (λ_=>.ok none) (ju (gR 2))) (jy (Cf (jy (lstM (gQ (cM (.int 0)) gW))) (gR 2))))) (yh 5 (vK (hZ (gQ (gR 0) (gQ (ig jw (cM (.int 60)) (gR 1)) (gQ (gR 2) gW))) (iK c))) (vK (cM (.int 1)))) jE) (jg (kv lZ (gQ (gR 5) gW))) (St u E D)=.rt t->kY c [.int cell,.int k,.int d,.lst (fs.map tI)]=.ok t:=λt ht=>by refine iU rfl (gY (iw (t:=.int h) (gZ (x:=.lst ([1,2,3,5,1000].map T.int)) (y:=.int (dr c cell 2 5)) (Uq rfl rfl rfl rfl rfl) (mV rfl rfl rfl d1) ew) rfl) (gY (nC (ts:=s.map T.int) e0 rfl) (gY (iw (t:=.int r) (mV (y:=.int (40+(k:Int))) rfl (gZ rfl rfl (jj _ _)) rfl d2) rfl) (gY e1 (gY e2 (gY e3 ht))))))
 by_cases hz:u.take d=List.replicate d 0
 .obtain⟨d5,d5a,d5b⟩:=mM (c:=c) cell (60+k) d (by lia) (by lia) (by lia) (by lia);obtain⟨p,Y⟩:∃p:Nat,dr c cell (60+k) d=(p:Int):=⟨(dr c cell (60+k) d).toNat,by lia⟩;rw[Y]at d5 d5b;refine⟨u.set p 1,head _ (gY (ρ':=St (u.set p 1) E D) (jF (by rw[Q,aC hz]) (DI (us:=u.map T.int) (t:=.int 1) (j:=(p:Int)) (m:=p) rfl rfl rfl (mV (y:=.int (60+(k:Int))) rfl (gZ rfl rfl (jj _ _)) rfl d5) (AQ _ _ (by rw[ax,g3.1];lia)) ?_)) (iE rfl)),⟨g3.set p (by have:=hB;exact (Ro (n:=0)).mono (by lia)),p,by lia,?_⟩⟩
  .simp only[St,fK];rfl
  .rw[RF _ _ _ _ (by rw[g3.1];lia),aR rfl];decide
 .refine⟨u,head _ (gY (ρ':=St u E D) (jM (by rw[Q,aB hz]) rfl) (iE rfl)),⟨g3,?_⟩⟩;refine aP λJ=>hz (fM.mpr ⟨by rw[bQ,g3.1];lia,λb hb=>?_⟩);obtain⟨i,hi⟩:=List.getElem?_of_mem hb;have R:i<d:=by have:=(aa.mp hi).1;rw[bQ]at this;lia
  refine aP λhb0=>J ⟨i,R,?_⟩;rw[List.getElem?_take]at hi;rw[aR R]at hi;unfold vc;rw[af,hi];exact hb0
noncomputable def ke(a b:LI):Bool:=(List.range a.length).all λk=>(List.range k).all λj=>vc a k*vc b j==vc a j*vc b k
def uZ n B a b (v:a.length=n) (N:b.length=n) (P:n<=10) (L:B<=1000) (r:∀x∈a,Bn B x) (w:∀x∈b,Bn B x):jJ c [tI a,tI b]=.ok (.bl (ke a b)):=by
 have sz:1000<sizeLine:=by decide
 have i:=sQ (m:=ot 2) (λ(k:Nat)=>T.int (k:Int)) (λρ=>∃q d,ρ=[some (.p (tI a)),some (.p (tI b)),q,d]) (λk=>(List.range k).all λj=>vc a k*vc b j==vc a j*vc b k) (.bl false) (List.range n) [some (.p (tI a)),some (.p (tI b)),none,none] ⟨none,none,rfl⟩ (by
  rintro k K ρ ⟨q,d,rfl⟩;have F:=aT.mp K;refine⟨_,rfl,?_⟩;have l:=sQ (m:=ot 3) (g:=uY c) (λ(j:Nat)=>T.int (j:Int)) (λρ=>∃d,ρ=[some (.p (tI a)),some (.p (tI b)),some (.p (.int (k:Int))),d]) (λj=>vc a k*vc b j==vc a j*vc b k) (.bl false) (List.range k) [some (.p (tI a)),some (.p (tI b)),some (.p (.int (k:Int))),d] ⟨d,rfl⟩ (by
   rintro j J ρ ⟨d,rfl⟩;have D:=aT.mp J;have z:=kK a k (by lia);have A:=kK b j (by lia);have C:=kK a j (by lia);have I:=kK b k (by lia);have y:=lq ((r _ (getD_mem a k (by lia))).ok (w _ (getD_mem b j (by lia))) (by lia) (by lia));have E:=lq ((r _ (getD_mem a j (by lia))).ok (w _ (getD_mem b k (by lia))) (by lia) (by lia));have s:jl (ig (iM true) (ig mU (ig jD (gR 0) (gR 2)) (ig jD (gR 1) (gR 3))) (ig mU (ig jD (gR 0) (gR 3)) (ig jD (gR 1) (gR 2)))) (vw [some (.p (tI a)),some (.p (tI b)),some (.p (.int (k:Int))),some (.p (.int (j:Int)))])=.ok (!(vc a k*vc b j==vc a j*vc b k)):=iN (gZ (gZ (gZ rfl rfl z) (gZ rfl rfl A) y) (gZ (gZ rfl rfl C) (gZ rfl rfl I) E) (qQ _ _))
   refine⟨_,rfl,λh=>⟨_,jM (s.trans (by rw[h];rfl)) rfl,_,rfl⟩,λh=>jF (s.trans (by rw[h];rfl)) (iE rfl)⟩)
  have hr:=pK (f:=gR 2) (ρ:=vw [some (.p (tI a)),some (.p (tI b)),some (.p (.int (k:Int))),d]) k (by lia) rfl;refine⟨λh=>?_,λh=>qW hr (l.2 h)⟩;obtain⟨o,e,H,rfl⟩:=l.1 h;exact⟨_,qW hr e,_,_,rfl⟩)
 have hr:=pK (f:=kv kZ (gQ (gR 0) gW)) (ρ:=vw (iW 4 [tI a,tI b])) n (by lia) (lY (t:=tI a) rfl (by simp[tI,v]));have u:ke a b=((List.range n).all λk=>(List.range k).all λj=>vc a k*vc b j==vc a j*vc b k):=by unfold ke;rw[v]
 cases h:ke a b with
 |true=>obtain⟨o,e,q,d,rfl⟩:=i.1 (by rw[<-u];exact h);exact iU rfl (gY (qW hr e) (iE rfl))
 |false=>exact iU rfl (k9 (qW hr (i.2 (by rw[<-u];exact h))) rfl)
def GC.mono(h:GC d B ns)(a:B<=B'):GC d B' ns:=⟨h.gl.mono a,h.re⟩
def vY a (o:a.length<=100) (h:∃p,p<a.length/\vc a p≠0):∃p:Nat,jW c [tI a]=.ok (.int (p:Int))/\p<a.length/\vc a p≠0:=by
 obtain⟨q,r,f⟩:=h;obtain⟨b,e,p,rfl,l,i⟩:=nL (c:=jl (ig (iM false) (ig jD (gR 0) (gR 1)) (cM (.int 0)))) (g:=nQ c)
  (λb=>∃k:Nat,b=[some (.p (tI a)),some (.p (.int (k:Int)))]/\k<=q) (λb=>match b with|_::some (.p (.int j))::_=>q-j.toNat|_=>0)
  (λb=>∃k:Nat,b=[some (.p (tI a)),some (.p (.int (k:Int)))]/\k<a.length/\vc a k≠0) (by
   rintro b ⟨k,rfl,hk⟩;have m:jD (tI a) (.int (k:Int))=.ok (.int (vc a k)):=kK a k (by lia);by_cases d:vc a k=0
   .have n:k≠q:=λz=>f (by rw[<-z];exact d);refine .inr ⟨iN (gZ (gZ rfl rfl m) rfl (by rw[iT,d];rfl)),_,.inl (iw (gZ rfl rfl (by rw[jj];simp)) rfl),⟨k+1,rfl,by lia⟩,?_⟩;show q-(((k+1:Nat):Int)).toNat<q-((k:Int)).toNat;lia
   .exact .inl ⟨iN (gZ (gZ rfl rfl m) rfl (by rw[iT];simp[d])),k,rfl,by lia,d⟩)
  ((a.map T.int).length+1) [some (.p (tI a)),some (.p (.int ((0:Nat):Int)))] ⟨0,rfl,by lia⟩ (by rw[ax];lia)
 exact⟨p,iU rfl (gY (iw rfl rfl) (gY e (iE rfl))),l,i⟩
def ya d B a b (P:d<=3) (N:B<=1000) (f:GC d B a) (l:GL d B b) (h:ke a b=false):l0 c [tI a,tI b]=.ok (.bl false):=by
 have sz:1000<sizeLine:=by decide
 have F:=f.gl.1;have K:=l.1;obtain⟨q,Q,g⟩:=f.re;obtain⟨p,y,o,m⟩:=vY a (by lia) ⟨q,by lia,g⟩;have w:=kK b p (by lia);have A:=kK a p o;have I:lB [none,none,some 1,some 2,some 0] (n0 (gQ (gR 0) (gQ (gR 1) gW))) (oT 2 (je (ku 0) (je (ku 1) oR))) (λ_=>.ok true) (rW c) (vw [some (.p (tI a)),some (.p (tI b)),some (.p (.int p))])=.ok (((a.zip b).map λx=>x.1*vc b p==x.2*vc a p).map T.bl):=jX (a.zip b) (λx=>T.tup [.int x.1,.int x.2]) (λx=>T.bl (x.1*vc b p==x.2*vc a p)) (uV rfl rfl rfl rfl) (by rw[fL];lia) (λx r=>⟨_,rfl,rfl,by have z:=f.gl.2 _ (aX r).1;have E:=l.2 _ (aX r).2;have C:=l.2 _ (getD_mem b p (by lia));have D:=f.gl.2 _ (getD_mem a p o);exact gZ (gZ rfl (gZ rfl rfl w) (lq (z.ok C (by lia) (by lia)))) (gZ rfl (gZ rfl rfl A) (lq (E.ok D (by lia) (by lia)))) (iT _ _)⟩) (by rw[aJ];rfl)
 refine iU rfl (gY (iw (qe rfl y) rfl) (iE (qq I ?_)));rw[rj];congr 2;cases s:((a.zip b).map λx=>x.1*vc b p==x.2*vc a p).all id with
 |false=>rfl
 |true=>
  exfalso;rw[cH]at s;have e:=C4.par_of_place m λi t=>by
   have v:(a.zip b)[i]? = some (a[i],b[i]'(by lia)):=by rw[List.getElem?_zip_eq_some];exact⟨ag t,ag (by lia)⟩
   have:=s _ (aE.mpr ⟨_,au v,rfl⟩);have H:a[i]*vc b p=(b[i]'(by lia))*vc a p:=by simpa using this
   show vc a i*vc b p=vc b i*vc a p;rw[jZ a i t,jZ b i (by lia)];exact H
  have:ke a b=true:=by unfold ke;refine cH.mpr λk L=>cH.mpr λj J=>?_;have n:=aT.mp L;have u:=aT.mp J;have:=e k j n (by lia);simpa[vc] using this
  rw[h]at this;cases this
structure uk(d B:Nat)(cs:LL):Prop where
 gc:∀f∈cs,GC d B f
 few:cs.length<=7
 pw:cs.Pairwise λa b=>ke a b=false
def JN(h:GC d B ns):rY d (tI ns)=true:=by
 obtain⟨p,f,a⟩:=h.re;have e:=h.gl.1;unfold tI rY;have b:(ns.map T.int).length=d+1:=by simp[e]
 have j:(ns.map T.int).all isInt=true:=cH.mpr λx g=>by obtain⟨y,-,rfl⟩:=aE.mp g;rfl
 show (decide ((ns.map T.int).length=d+1)&&(ns.map T.int).all isInt&&(match mC (ns.map T.int) with|some ns=>(ns.take d).any (· != 0)|none=>false))=true;rw[aC b,j,Dh];refine fN.mpr ⟨vc ns p,?_,by simpa using a⟩;rw[jZ ns p (by lia)];refine au (i:=p) ?_;rw[List.getElem?_take,aR f,ag (by lia)]
def Ae d B (b:LL) ns (o:1<=d/\d<=3) (j:B<=1000) (w:b.length<7) (m:∀f∈b,GC d B f) (g:GC d B ns) (k:∀f∈b,ke f ns=false):lV c [.int d,.lst (b.map tI),tI ns]=.ok (.bl true):=by
 have sz:1000<sizeLine:=by decide
 have i:=HM (c:=c) d (by lia) (tI ns) rfl λv e=>by cases e;refine⟨by rw[ax,g.gl.1];lia,λt n=>by obtain⟨y,-,rfl⟩:=aE.mp n;rfl⟩
 rw[JN g]at i;have r:lB [none,some 2] (jK (gR 1)) (ku 0) (λ_=>.ok true) (pZ c) (vw (iW 3 [.int d,.lst (b.map tI),tI ns]))=.ok ((b.map λ_=>false).map T.bl):=jX b tI (λ_=>T.bl false) rfl (by lia) (λf h=>⟨_,rfl,rfl,lE rfl rfl (ya d B f ns o.2 j (m f h) g.gl (k f h))⟩) (by rw[aJ];rfl)
 have s:jl (ig S3 (kv kZ (gQ (gR 1) gW)) (cM (.int 7))) (vw (iW 3 [.int d,.lst (b.map tI),tI ns]))=.ok false:=iN (gZ (x:=.int (b.length:Int)) (lY (t:=.lst (b.map tI)) rfl (by simp)) rfl (by rw[Oh];congr 2;exact aB (by lia)))
 have p:jl (hZ (gQ (gR 0) (gQ (gR 2) gW)) (oJ c)) (vw (iW 3 [.int d,.lst (b.map tI),tI ns]))=.ok true:=iN (lE rfl rfl i);refine iU rfl (gY (jM ?_ rfl) (iE ?_))
 .simp only[L3.Bo,L3.oK,s,p,M.bind_ok];rfl
 .have q:kv tm (gQ (jy (lB [none,some 2] (jK (gR 1)) (ku 0) (λ_=>.ok true) (pZ c))) gW) (vw (iW 3 [.int d,.lst (b.map tI),tI ns]))=.ok (.bl false):=by
   refine qq r ?_;rw[AS];congr 2;induction b with
   |nil=>rfl
   |cons a l ih=>simp
  have u:=iN q;simp only[GP,u,M.bind_ok];rfl
def EZ d B cs (u:1<=d/\d<=3) (v:B<=1000) (h:uk d B cs):j9 c [.int d,.lst (cs.map tI)]=.ok (.tup (cs.map tI)):=by
 have sz:1000<sizeLine:=by decide
 have b:=h.few;obtain⟨n,e,l,rfl⟩:=ly (m:=ot 3) (g:=qd c) tI
  (λk n=>∃l:Option W,n=[some (.p (.int d)),some (.p (.lst (cs.map tI))),some (.o ((cs.take k).map tI)),l])
  cs 0 _ ⟨none,rfl⟩ (by
   rintro k a n j ⟨l,rfl⟩;rw[aH];have x:=(aa.mp j).1;have r:=Ae (c:=c) d B (cs.take k) a u v (by rw[bQ];lia) (λf b=>h.gc f (dB b)) (h.gc a (au j)) λf b=>by have s:=h.pw;rw[<-dF k cs,cV]at s;refine s.2.2 f b a ?_;refine au (i:=0) ?_;rw[List.getElem?_drop,c9];exact j
   have q:jl (hZ (gQ (gR 0) (gQ (gR 2) (gQ (gR 3) gW))) (lV c)) (vw [some (.p (.int d)),some (.p (.lst (cs.map tI))),some (.o ((cs.take k).map tI)),some (.p (tI a))])=.ok true:=iN (mV (y:=.lst ((cs.take k).map tI)) (z:=tI a) rfl rfl rfl r);refine⟨_,_,rfl,.inl (gY (jM (sR q rfl) rfl) (sr (us:=(cs.take k).map tI) (t:=tI a) rfl (lY (t:=tI a) rfl rfl) (by rw[ax,bQ];lia) rfl)),some (.p (tI a)),?_⟩;rw[jP cs k a j,a9];rfl)
 rw[aH,fE]at e;have A:jl (hZ (gQ (gR 0) gW) (nh c)) (vw (iW 4 [.int d,.lst (cs.map tI)]))=.ok true:=iN (qe rfl (Eu d u));have w:jl (vB "list" (gR 1)) (vw (iW 4 [.int d,.lst (cs.map tI)]))=.ok true:=rfl;refine iU rfl (gY (jM ?_ rfl) (gY (nC (ts:=[]) (by simp) rfl) (gY (mw rfl e) (iE rfl))));simp only[L3.Bo,L3.oK,A,w,M.bind_ok];rfl
noncomputable def m6(c:Cs)(d:Nat)(a:LL):T:=.obj c.Cutting [("own_cuts",.tup (a.map tI)),("own_dims",.int d)]
def MY d B cs (b:1<=d/\d<=3) (a:B<=1000) (h:uk d B cs):j8 c [.int d,.lst (cs.map tI)]=.ok (m6 c d cs):=by have e:=EZ (c:=c) d B cs b a h;have q:hZ (gQ (gR 1) (gQ (gR 2) gW)) (j9 c) (none::[T.int d,.lst (cs.map tI)].map some)=.ok (.tup (cs.map tI)):=lE rfl rfl e;unfold j8 zr;rw[aR (show [T.int d,T.lst (cs.map tI)].length=2 from rfl),q];rfl
def Km(h:f ρ=.ok (.obj C fs))(a:fs.lookup x=some t):Ej C x f ρ=.ok t:=by unfold Ej;rw[h,M.bind_ok];show (if C=C then (match fs.lookup x with|some t=>M.ok t|none=>.bad) else .bad)=_;rw[aR rfl,a]
def vI(d:Nat)(a:LL){f:Pe->M T}{ρ:Pe}(e:f ρ=.ok (m6 c d a)):qP c.Cutting "dims" f gW (iH c) ρ=.ok (.int d):=by
 have b:xC c.Cutting "dims" (m6 c d a)=.ok ():=by unfold xC m6;exact aR ⟨rfl,rfl⟩
 have g:iH c [m6 c d a]=.ok (.int d):=iU rfl (iE (Km rfl rfl));simp only[qP,e,M.bind_ok,b,gW,g,M.noEr_ok]
def FK d cs (b:f ρ=.ok (m6 c d cs)):sV c.Cutting "cuts" f gW (jb c) ρ=.ok (cs.map tI):=by
 have a:xC c.Cutting "cuts" (m6 c d cs)=.ok ():=by unfold xC m6;exact aR ⟨rfl,rfl⟩
 have e:jb c [m6 c d cs]=.ok (cs.map tI):=JF rfl (Az (by have:Ej c.Cutting "own_cuts" (gR 0) (vw (iW 1 [m6 c d cs]))=.ok (.tup (cs.map tI)):=Km rfl rfl;simp only[Nt,gQ,gW,this,M.bind_ok];rfl))
 simp only[sV,b,M.bind_ok,a,gW,e,M.noEr_ok]
def ES cell (h:Nat) (F:h<=7):∃(d:Nat) (j:LL),kG c [.int cell,.int (h:Int)]=.ok (.tup [.int d,.lst (j.map tI)])/\(1<=d/\d<=3)/\uk d 30 j/\j.length<=h:=by
 have sz:1000<sizeLine:=by decide
 obtain⟨d1,C,J⟩:=mM cell 0 5 (by decide) (by decide) (by decide) (by decide);obtain⟨Y,ed,v⟩:=Ge [1,2,2,3,3] (dr c cell 0 5) C (by simpa using J);obtain⟨d,rfl⟩:∃d:Nat,Y=(d:Int):=⟨Y.toNat,by simp only[aG,eC,or_false]at v;lia⟩;have X:1<=d/\d<=3:=by simp only[aG,eC,or_false]at v;lia
 obtain⟨Z,d2a,P⟩:=mM (c:=c) cell 1 ((h+1:Nat):Int) (by lia) (by lia) (by decide) (by decide);obtain⟨n,hn⟩:∃n:Nat,dr c cell 1 ((h+1:Nat):Int)=(n:Int):=⟨(dr c cell 1 ((h+1:Nat):Int)).toNat,by lia⟩;rw[hn]at Z P;obtain⟨E,e,j,B,A,rfl,D,u,w⟩:=ly (m:=ot 4) (g:=qD c) (λ(i:Nat)=>T.int (i:Int))
  (λk E=>∃(j:LL) (B A:Option W),E=[some (.p (.int cell)),some (.p (.int (h:Int))),some (.p (.int d)),some (.o (j.map tI)),B,A]/\j.length<=k/\(∀f∈j,GC d (10+2*k) f)/\j.Pairwise λa b=>ke a b=false)
  (List.range n) 0 _ ⟨[],none,none,rfl,aL _,(λf r=>nomatch r),List.Pairwise.nil⟩ (by
   rintro i k E Q ⟨j,B,A,rfl,D,u,w⟩;rw[aH]at D u ⊢;have L:i<n:=by simpa using (aa.mp Q).1
   have N:k=i:=by rw[List.getElem?_range L]at Q;cases Q;rfl
   subst N;obtain⟨s,en,K⟩:=OC (c:=c) cell k d (10+2*k) j (by lia) X (by lia) (by lia) (λf r=>(u f r).gl) (by lia);let R:En:=[some (.p (.int cell)),some (.p (.int (h:Int))),some (.p (.int d)),some (.o (j.map tI)),some (.p (.int (k:Int))),some (.p (tI s))];have e1:lB [none,some 5] (jK (gR 3)) (ku 0) (jl (hZ (gQ (gR 0) (gQ (gR 1) gW)) (jJ c))) (nI c) (vw R)=.ok ((j.filter λf=>ke f s).map tI):=sH j tI tI (λf=>ke f s) rfl (by lia) (λf r=>⟨_,rfl,iN (lE rfl rfl (uZ (c:=c) (d+1) (10+2*k+2) f s (u f r).gl.1 K.gl.1 (by lia) (by lia) (λx hx=>((u f r).gl.2 x hx).mono (by lia)) K.gl.2)),λ_=>rfl⟩) rfl
   have S:jl (ig (iM false) (jy (lB [none,some 5] (jK (gR 3)) (ku 0) (jl (hZ (gQ (gR 0) (gQ (gR 1) gW)) (jJ c))) (nI c))) (jy (lstM gW))) (vw R)=.ok (j.filter λf=>ke f s).isEmpty:=by refine iN (gZ (x:=.lst ((j.filter λf=>ke f s).map tI)) (y:=.lst []) (jo e1) (by simp) ?_);rw[vQ false _ (by simp) (aO (wY _) (by decide))];simp
   have U:setO 5 (vK (hZ (gQ (gR 0) (gQ (gR 4) (gQ (gR 2) (gQ (gR 3) gW)))) (kY c))) [some (.p (.int cell)),some (.p (.int (h:Int))),some (.p (.int d)),some (.o (j.map tI)),some (.p (.int (k:Int))),A]=.nx R:=OY (t:=tI s) (Tt rfl rfl rfl rfl en) (Th s) rfl;by_cases H:(j.filter λf=>ke f s)=[]
   .refine⟨_,_,rfl,.inl (gY U (jF (S.trans (by rw[H];rfl)) (sr (us:=j.map tI) (t:=tI s) rfl rfl (by simp;lia) rfl))),j++[s],_,_,by rw[a9];rfl,by simp;lia,λf r=>?_,cV.mpr ⟨w,cW _ _,λf r g I=>?_⟩⟩
    .rcases ai.mp r with q|q
     .exact (u f q).mono (by lia)
     .rw[aj.mp q];exact K.mono (by lia)
    .rw[aj.mp I];cases hs:ke f s with
     |false=>rfl
     |true=>have:f∈j.filter λf=>ke f s:=aV.mpr ⟨r,hs⟩;rw[H]at this;exact nomatch this
   .refine⟨_,_,rfl,.inl (gY U (jM (S.trans (by
     cases hq:(j.filter λf=>ke f s) with
     |nil=>exact absurd hq H
     |cons a l=>rfl)) rfl)),j,_,_,rfl,by lia,λf r=>(u f r).mono (by lia),w⟩)
 rw[aH,dP]at D u;refine⟨d,j,iU rfl (gY (iw (t:=.int d) (gZ (x:=.lst ([1,2,2,3,3].map T.int)) (y:=.int (dr c cell 0 5)) (Uq rfl rfl rfl rfl rfl) (mV rfl rfl rfl d1) ed) rfl) (gY (nC (ts:=[]) (by simp) rfl) (gY (qW (pK n (by lia) (mV (z:=.int ((h+1:Nat):Int)) rfl rfl (gZ rfl rfl rfl) Z)) e) (iE (GU rfl rfl))))),X,⟨λf r=>(u f r).mono (by lia),by lia,w⟩,by lia⟩
end CL
namespace CL
open PySem L2 L3
variable {c:Cs}
def Ox{a:Type}[Inhabited a](l:List a) f k w (h:k<l.length):jD (.lst (l.map f)) (.int (k:Int))=.ok (f (l.getD k w)):=by have e:=Eo (l.map f) k (by rw[ax];exact h);rw[fF]at e;show (match qx (l.map f) k with|some t=>M.ok t|none=>.bad)=_;rw[e,af,ag h];rfl
def Jw l k i:vc (l.drop k) i=vc l (k+i):=by unfold vc;rw[af,List.getElem?_drop,<-af]
def QJ(h:g ρ=.ok xs)(a:xs.length<=sizeLine):lstM g ρ=.ok xs:=by simp only[lstM,h,M.bind_ok,Be,a,if_true]
def tu m A u:jC m A u=jC m u A:=by unfold jC;exact iI _ _ _ λi _=>ee _ _
def QR n k f (b:k<n) (h:∀i,i<n->i≠k->f i=0):sm n f=f k:=by
 rw[<-Ar n k f b];exact iI _ _ _ λi a=>by
  by_cases e:i=k
  .rw[aR e];simp
  .rw[aS e,h i a e];simp
theorem Bb:∀n f,((sm n f:Int):Rat)=DM n λi=>(f i:Rat)
 |0,_=>rfl
 |n+1,f=>by unfold sm DM;rw[<-Bb n λi=>f (i+1)];simp
def BJ{d:Nat}{v:Vc}:∀(os:List (Nat×LI)),(∀p∈os,p.1<d/\vc p.2 p.1≠0)->os.Pairwise (λp q=>vc q.2 p.1=0)->(∀p∈os,jC d (vc p.2) v=0)->(∀i,i∉os.map Prod.fst->v i=0)->∀p∈os,v p.1=0:=λos=>by
 induction h:os.length generalizing os v with
 |zero=>have:os=[]:=fO.mp h;subst this;intro _ _ _ _ p a;cases a
 |succ n ih=>
  intro f g j k;rcases fP os with e|⟨l,x,e⟩
  .subst e;cases h
  .rw[fQ]at e;subst e;rw[cV]at g;have b:x∈l++[x]:=by simp
   have m:v x.1=0:=by
    have e:=j x b;unfold jC at e;rw[QR d x.1 _ (f x b).1 λi o ne=>by
     by_cases q:i∈(l++[x]).map Prod.fst
     .rw[a9,ai]at q;rcases q with q|q
      .obtain⟨p,a,rfl⟩:=aE.mp q;rw[g.2.2 p a x (by simp)];exact eY _
      .simp at q;exact absurd q ne
     .rw[k i q];exact fv _]at e
    exact H9 (f x b).2 e
   have r:=ih (v:=v) l (by simpa using h) (λp a=>f p (by simp[a])) g.1 (λp a=>j p (by simp[a])) (λi o=>by
    by_cases q:i=x.1
    .rw[q];exact m
    .refine k i λz=>?_;rw[a9,ai]at z;rcases z with z|z
     .exact o z
     .simp at z;exact q z)
   intro p a;rcases ai.mp a with q|q
   .exact r p q
   .rw[aj.mp q];exact m
def jB{P:Vc->Prop}{z v:Vc}{m:Nat}(q:Qs P z)(h:∀x,P x->jC m x v=0):jC m z v=0:=by
 induction q with
 |of p=>exact h _ p
 |zero=>rw[tu];unfold jC;rw[iI m _ (λ_=>0) λi _=>fv _];exact kl m
 |lin _ _ hs e i1 i2=>have:=Fq (m:=m) (A:=v) e;rw[tu m v,tu m v,tu m v,i1,i2,fv,fv]at this;exact H9 hs (by lia)
def R3{vs:LL}(h:vJ vs m n ah):(ah.map Prod.fst).Nodup:=by rw[List.Nodup,dQ];refine h.tri.imp_of_mem λ{p q} _ hq e z=>h.nz q hq ?_;rw[<-z];exact e
def qE{vs:LL}(h:vJ vs m vs.length ah)(b:List Vc)(g:∀v:Vc,(∀A∈b,jC m A v=0)->∀r∈vs,jC m (vc r) v=0):ah.length<=b.length:=by
 refine cn λd=>?_;have lt:∀p∈ah,p.1<m/\vc p.2 p.1≠0:=λp a=>⟨(h.bd p a).1,h.nz p a⟩;obtain⟨v,⟨j,f⟩,out,k⟩:=oO m b (ah.map Prod.fst) (R3 h) (λt i=>by obtain⟨p,a,rfl⟩:=aE.mp i;exact (lt p a).1) (by rw[ax];exact d)
 have z:=BJ ah lt h.tri (λp a=>jB (h.ps p a) λx ⟨w,hw,ex⟩=>by rw[ex];exact g v k w (dB hw)) out;have e:j∈ah.map Prod.fst:=aP λz=>f (out j z);obtain⟨p,a,rfl⟩:=aE.mp e;exact f (z p a)
def qK{vs b:LL}(h:vJ vs m vs.length d)(h':vJ b m b.length a)(e:∀v:Vc,(∀r∈vs,jC m (vc r) v=0)↔∀r∈b,jC m (vc r) v=0):d.length=a.length:=by
 have go:∀{vs b:LL} {d a:List (Nat×LI)},vJ vs m vs.length d->vJ b m b.length a->(∀v:Vc,(∀r∈b,jC m (vc r) v=0)->∀r∈vs,jC m (vc r) v=0)->d.length<=a.length:=λ{vs b d a} h h' e=>by
  have:=qE h (a.map λp=>vc p.2) λv f=>e v λr hr=>jB (h'.sp r (by rw[fE];exact hr)) λx ⟨p,hp,ex⟩=>by rw[ex];exact f _ (aE.mpr ⟨p,hp,rfl⟩)
  rw[ax]at this;exact this
 exact fR (go h h' λv=>(e v).mpr) (go h' h λv=>(e v).mp)
def t5(d:Nat)(u:LI)(v:Vc):jC d (vc (u.take d)) v=jC d (vc u) v:=iI _ _ _ λi a=>by unfold vc;rw[af,List.getElem?_take_of_lt a,<-af]
def JD{m:Nat}{os:List (Nat×LI)}(lt:∀p∈os,p.1<m/\vc p.2 p.1≠0)(tri:os.Pairwise λp q=>vc q.2 p.1=0)(b:List Vc)(i:∀v:Vc,(∀A∈b,jC m A v=0)->∀p∈os,jC m (vc p.2) v=0):os.length<=b.length:=by
 refine cn λf=>?_;have nd:(os.map Prod.fst).Nodup:=by rw[List.Nodup,dQ];exact tri.imp_of_mem λ{p q} _ hq e z=>(lt q hq).2 (by rw[<-z];exact e)
 obtain⟨v,⟨j,g⟩,out,h⟩:=oO m b (os.map Prod.fst) nd (λt k=>by obtain⟨p,a,rfl⟩:=aE.mp k;exact (lt p a).1) (by rw[ax];exact f)
 have z:=BJ os lt tri (i v h) out;have d:j∈os.map Prod.fst:=aP λz=>g (out j z);obtain⟨p,a,rfl⟩:=aE.mp d;exact g (z p a)
def lu{vs:LL}{m:Nat}{a os:List (Nat×LI)}(h:vJ vs m vs.length a)(lt:∀p∈os,p.1<m/\vc p.2 p.1≠0)(tri:os.Pairwise λp q=>vc q.2 p.1=0)(d:∀v:Vc,(∀r∈vs,jC m (vc r) v=0)->∀p∈os,jC m (vc p.2) v=0):os.length<=a.length:=by
 have:=JD lt tri (a.map λp=>vc p.2) λv b=>d v λr hr=>jB (h.sp r (by rw[fE];exact hr)) λx ⟨p,hp,ex⟩=>by rw[ex];exact b _ (aE.mpr ⟨p,hp,rfl⟩)
 rw[ax]at this;exact this
section
variable {d B:Nat}{rows rs:LL}{pv ah ah0:List (Nat×LI)}
def PP.tri(h:PP d B rows pv rs):pv.Pairwise λp q=>vc q.2 p.1=0:=h.pw.imp λq=>q.2.1
def xo(h:PP d B rows pv rs)(j:vJ (rows.map (·.take d)) d (rows.map (·.take d)).length ah0):ah0.length=pv.length:=by
 refine fR ?_ ?_
 .have:=qE j (pv.map λp=>vc p.2) λv e r hr=>by
   obtain⟨r,g,rfl⟩:=aE.mp hr;rw[t5];refine jB (h.sp r g) λx l=>?_;rcases l with⟨p,a,b⟩|⟨k,f,b⟩
   .rw[b];exact e _ (aE.mpr ⟨p,a,rfl⟩)
   .rw[b];unfold jC;rw[iI d _ (λ_=>0) λi m=>by rw[(h.rr k f).2.1 i m,eY]];exact kl d
  rw[ax]at this;exact this
 .exact lu j (λp a=>⟨(h.pl p a).1,(h.pl p a).2.2.1⟩) h.tri λv e p a=>jB (h.pl p a).2.2.2.2 λx ⟨r,hr,b⟩=>by rw[b,<-t5];exact e _ (aE.mpr ⟨r,hr,rfl⟩)
def nN(h:PP d B rows pv rs)(k:∀r∈rs,vc r d=0)(j:vJ rows (d+1) rows.length ah):ah.length=pv.length:=by
 refine fR ?_ (lu j (λp a=>⟨by have:=(h.pl p a).1;lia,(h.pl p a).2.2.1⟩) h.tri λv f p a=>jB (h.pl p a).2.2.2.2 λx ⟨r,hr,e⟩=>by rw[e];exact f r hr);have:=qE j (pv.map λp=>vc p.2) λv f r hr=>jB (h.sp r hr) λx l=>by
  rcases l with⟨p,a,e⟩|⟨g,b,e⟩
  .rw[e];exact f _ (aE.mpr ⟨p,a,rfl⟩)
  .rw[e];unfold jC;rw[iI (d+1) _ (λ_=>0) λi m=>by
    have:vc g i=0:=by
     by_cases z:i<d
     .exact (h.rr g b).2.1 i z
     .rw[show i=d by lia];exact k g b
    rw[this,eY]];exact kl _
 rw[ax]at this;exact this
def Hg(h:PP d B rows pv rs){r:LI}(hr:r∈rs)(f:vc r d≠0)(e:vJ rows (d+1) rows.length ah):pv.length<ah.length:=by
 have:=lu (os:=pv++[(d,r)]) e (λp a=>by
  rcases ai.mp a with q|q
  .exact⟨by have:=(h.pl p q).1;lia,(h.pl p q).2.2.1⟩
  .rw[aj.mp q];exact⟨by lia,f⟩) (cV.mpr ⟨h.tri,cW _ _,λp a q g=>by rw[aj.mp g];exact (h.rr r hr).2.1 _ (h.pl p a).1⟩) λv b p a=>by
  rcases ai.mp a with q|q
  .exact jB (h.pl p q).2.2.2.2 λx ⟨r,hr,ex⟩=>by rw[ex];exact b r hr
  .rw[aj.mp q];exact jB (h.rr r hr).2.2 λx ⟨r,hr,ex⟩=>by rw[ex];exact b r hr
 simp at this;lia
def t7(h:PP d B rows pv rs)(I:∀r∈rs,vc r d=0){u left:LI}{g s:Int}{y:Vc}(J:0<g)(N:0<s)(t:Qs (yA pv) y)(e:∀i,g*vc left i=s*vc u i+1*y i)(K:∀p∈pv,vc left p.1=0)(P:left.length=d+1)
  (w:vJ (rows++[u]) (d+1) (rows++[u]).length ah):ah.length=pv.length↔∀i,vc left i=0:=by
 have E:∀p∈pv,Qs (VP (rows++[u])) (vc p.2):=λp f=>rB (h.pl p f).2.2.2.2;have k:∀{x:Vc} {v:Vc},Qs (VP (rows++[u])) x->(∀r∈rows++[u],jC (d+1) (vc r) v=0)->jC (d+1) x v=0:=λq j=>jB q λx ⟨r,hr,n⟩=>by rw[n];exact j r hr
 have C:=lu w (λp f=>⟨by have:=(h.pl p f).1;lia,(h.pl p f).2.2.1⟩) h.tri λv j p f=>k (E p f) j;constructor
 .intro Q i;refine aP λD=>?_;have F:i<d+1:=aP λz=>D (jm left i (by lia));have:=lu (os:=pv++[(i,left)]) w (λp f=>by
   rcases ai.mp f with q|q
   .exact⟨by have:=(h.pl p q).1;lia,(h.pl p q).2.2.1⟩
   .rw[aj.mp q];exact⟨F,D⟩) (cV.mpr ⟨h.tri,cW _ _,λp f q L=>by rw[aj.mp L];exact K p f⟩) λv j p f=>by
   rcases ai.mp f with q|q
   .exact k (E p q) j
   .rw[aj.mp q];exact k (vR h J t e) j
  simp at this;lia
 .intro l;refine fR ?_ C;have:=qE w (pv.map λp=>vc p.2) λv j r hr=>by
   have H:∀x,yA pv x->jC (d+1) x v=0:=λx ⟨p,f,n⟩=>by rw[n];exact j _ (aE.mpr ⟨p,f,rfl⟩)
   rcases ai.mp hr with q|q
   .refine jB (h.sp r q) λx o=>?_;rcases o with o|⟨A,m,n⟩
    .exact H x o
    .rw[n];unfold jC;rw[iI (d+1) _ (λ_=>0) λi F=>by
      have:vc A i=0:=by
       by_cases z:i<d
       .exact (h.rr A m).2.1 i z
       .rw[show i=d by lia];exact I A m
      rw[this,eY]];exact kl _
   .rw[aj.mp q];refine jB (.lin (s:=s) (a:=-1) (b:=0) (z:=vc u) t t (by lia) λi=>?_) H;have:=e i;rw[l i]at this;lia
  rw[ax]at this;exact this
end
def NU a b (h:a.length+b.length<=sizeLine):jw (.lst a) (.lst b)=.ok (.lst (a++b)):=by unfold jw;exact aR h
theorem pU:∀n f,sm (n+1) f=sm n f+f n
 |0,f=>by rw[sm,sm,sm];lia
 |n+1,f=>by rw[sm,pU n λi=>f (i+1),sm];lia
noncomputable def sk(p i:Nat):Nat:=if i<p then i else i+1
def MN p i:sk (p+1) (i+1)=sk p i+1:=by unfold sk;split<;>split<;>lia
theorem J8:∀d p f,p<=d->DM (d+1) f=DM d (λi=>f (sk p i))+f p
 |0,0,f,_=>by unfold DM DM;grind
 |d+1,0,f,_=>by
  rw[DM];have:(λi=>f (sk 0 i))=λi=>f (i+1):=funext λi=>by simp[sk]
  rw[this];grind
 |d+1,p+1,f,h=>by
  rw[DM,J8 d p (λi=>f (i+1)) (by lia)];have:DM (d+1) (λi=>f (sk (p+1) i))=f 0+DM d (λi=>f (sk p i+1)):=by rw[DM];congr 1;exact zi d _ _ λi _=>by rw[MN]
  rw[this];grind
def PH d p f (h:p<=d):sm (d+1) f=sm d (λi=>f (sk p i))+f p:=by have:=J8 d p (λi=>(f i)) h;rw[<-Bb,<-Bb]at this;exact_mod_cast this
def TN(h:p<=d):sk p d=d+1:=by unfold sk;rw[aS (by lia)]
def wo(row:LI)(p:Nat):LI:=row.take p++row.drop (p+1)
def JS(h:p<row.length):(wo row p).length+1=row.length:=by unfold wo;simp;lia
def P6(h:p<row.length) i:vc (wo row p) i=vc row (sk p i):=by
 unfold wo sk;rw[QQ,bQ,dJ (by lia)];by_cases a:i<p
 .rw[aR a,aR a,jZ _ i (by simp;lia),jZ _ i (by lia),fS]
 .rw[aS a,aS a,Jw];congr 1;lia
def uq row (p:Nat) (e:p<row.length) (f:row.length<=100):qf c [tI row,.int (p:Int)]=.ok (tI (wo row p)):=by have b:=tP (fe:=gR 0) (fd:=gR 1) (ρ:=vw (iW 2 [tI row,.int (p:Int)])) rfl rfl (by rw[ax];lia);have a:=KI (fe:=gR 0) (fd:=ig jw (gR 1) (cM (.int 1))) (d:=p+1) (ts:=row.map T.int) (ρ:=vw (iW 2 [tI row,.int (p:Int)])) rfl (gZ rfl rfl (by rw[jj];simp)) (by lia) (by intro z;have:=congrArg List.length z;simp at this;subst this;simp at e);rw[<-eE]at b;rw[<-eF]at a;exact iU rfl (iE (gZ (x:=tI (row.take p)) (y:=tI (row.drop (p+1))) b a (Qd _ _ (by simp;lia))))
def JG i j:zp [.int i,.int j]=.ok (.int (max i j)):=by simp;split<;>lia
def MX{us:LL}(a:i<us.length):us.getD i []∈us:=by rw[af,ag a];exact aW _
def Hi(h:f ρ=.ok (.lst ts)):wG (gQ f gW) ρ=.ok (rP ts):=by simp only[wG,gQ,gW,h,M.bind_ok];rfl
def JK ns:tm [tI ns]=.ok (.bl (ns.any λx=>x != 0)):=by simp only[tI,tm,tV,EM];rw[cF];rfl
abbrev mI(k:Nat):T:=.int (k:Int)
def i6(a:LL)(zs:List Nat):LL:=zs.map λz=>a.getD z []
def kQ(l:LL)(k:Nat)(h:k<l.length):l.getD k []∈l:=by rw[af,ag h];exact aW h
def Jk{d:Nat}(b:1<=d/\d<=3):Vp d 62:=by
 have a:d=1\/d=2\/d=3:=by lia
 refine⟨by decide,λk e=>?_,?_⟩
 .have:k=0\/k=1\/k=2\/k=3:=by lia
  rcases this with rfl|rfl|rfl|rfl<;>decide
 .rcases a with rfl|rfl|rfl<;>decide
def qU{d B:Nat}{a:LL}{zs:List Nat}(g:uk d B a)(b:∀z∈zs,z<a.length):∀u∈i6 a zs,u.length=d+1/\∀x∈u,Bn B x:=λu e=>by obtain⟨z,h,rfl⟩:=aE.mp e;have f:=kQ a z (b z h);exact (g.gc _ f).gl
def Sx{a:LL}{zs:List Nat}(f:∀z∈zs,z<a.length)(d:zs.length<=8){b:Pe->M (List T)}{ρ:Pe}{j:Nat}{e:Pe->M T}(k:e=ig jD (gR 1) (gR 0))(g:b ρ=.ok (zs.map mI))(i:ρ[j]? = some (some (.lst (a.map tI)))) :
  lB [none,some j] b (ku 0) (λ_=>.ok true) e ρ=.ok ((i6 a zs).map tI):=by
 have sz:1000<sizeLine:=by decide
 subst k;exact jX zs mI (λz=>tI (a.getD z [])) g (by lia) (λz h=>⟨[some (mI z),some (.lst (a.map tI))],by simp[i],rfl,gZ rfl rfl (Ox a tI z [] (f z h))⟩) (by simp[i6])
def MZ{d:Nat}{b k:LL}{zs:List Nat}{pv:List (Nat×LI)}(n:1<=d/\d<=3)(q:uk d 62 b)(h:PP d 62 (i6 b zs) pv k):∃f:LI->LI,∀u∈b,kD c [tI u,.lst (pv.map nZ)]=.ok (tI (f u))/\(f u).length=d+1/\(∃g s y,0<g/\0<s/\Qs (yA pv) y/\∀i,g*vc (f u) i=s*vc u i+1*y i)/\∀p∈pv,vc (f u) p.1=0:=by
 refine rF (P:=λ(u r:LI)=>kD c [tI u,.lst (pv.map nZ)]=.ok (tI r)/\r.length=d+1/\(∃g s y,0<g/\0<s/\Qs (yA pv) y/\∀i,g*vc r i=s*vc u i+1*y i)/\∀p∈pv,vc r p.1=0) b λu w=>?_;have a:=(q.gc u w).gl;obtain⟨r,e,m,_,l,t⟩:=Cp (c:=c) (yA pv) (d+1) (Pq 62 pv.length) 62 (by lia) pv u ((Jk n).le _ h.short) a.1 a.2 (λp j=>by obtain⟨z,o,v,x,_⟩:=h.pl p j;exact⟨by lia,o,v,x,p,j,rfl⟩) h.tri
 exact⟨r,e,m,l,t⟩
noncomputable def mT(d:Nat)(a:LL)(pv:List (Nat×LI))(f:LI->LI):T:=.tup [.int ((d:Int)-(pv.length:Int)),.tup (((List.range a.length).filter λk=>!(f (a.getD k [])).any (· != 0)).map mI)]
theorem ED{d:Nat}{a:LL}{zs:List Nat}(o:1<=d/\d<=3)(e:uk d 62 a)(l:∀z∈zs,z<a.length)(q:zs.length<=8){S:T}(E:seqT S=.ok (zs.map mI)):∃pv b f,PP d 62 (i6 a zs) pv b/\
  (∀u∈a,(f u).length=d+1/\(∃g s y,0<g/\0<s/\Qs (yA pv) y/\∀i,g*vc (f u) i=s*vc u i+1*y i)/\∀p∈pv,vc (f u) p.1=0)/\
  j6 c [.lst (a.map tI),.int d,S]=.ok (if b.any (λr=>r.any (· != 0)) then .non else mT d a pv f):=by
 have sz:1000<sizeLine:=by decide
 have L:=e.few;obtain⟨pv,b,w,h,H⟩:=Gp (c:=c) (i6 a zs) d 62 (by lia) (by simp[i6];lia) (qU e l) (Jk o);obtain⟨f,m⟩:=MZ (c:=c) o e h;refine⟨pv,b,f,h,λu I=>(m u I).2,?_⟩;have A:=h.short;let C:T:=.tup [.lst (pv.map nZ),.lst (b.map tI)];let R (B F:Option W):En:=[some (.p (.lst (a.map tI))),some (.p (.int (d:Int))),some (.p S),some (.p C),B,F];have j:jl (kv tm (gQ (jy (lB [none] (jK (ig jD (gR 3) (cM (.int 1)))) (ku 0) (λ_=>.ok true) (wC c))) gW)) (vw (R none none))=.ok (b.any λr=>r.any (· != 0)):=by refine iN (qq (ts:=(b.map λr=>r.any (· != 0)).map T.bl) (jX b tI (λr=>T.bl (r.any (· != 0))) (wu (gZ rfl rfl rfl)) (by lia) (λr hr=>⟨_,rfl,rfl,lY rfl (JK r)⟩) (by simp)) ?_);rw[AS,cF];rfl
 have v:lB [none,none,some 4] (wG (gQ (gR 0) gW)) (oT 2 (je (ku 0) (je (ku 1) oR))) (L3.oK (jl (kv tm (gQ (hZ (gQ (gR 1) (gQ (gR 2) gW)) (kD c)) gW)))) (wU c) (kP (R (some (.p (.lst (pv.map nZ)))) none))=.ok (((List.range a.length).filter λk=>!(f (a.getD k [])).any (· != 0)).map mI):=by
  refine sH (List.range a.length) (λk=>T.tup [mI k,tI (a.getD k [])]) mI (λk=>!(f (a.getD k [])).any (· != 0)) ?_ (by simp;lia) (λk K=>⟨[some (mI k),some (tI (a.getD k [])),some (.lst (pv.map nZ))],rfl,sR (iN (lY (lE rfl rfl (m _ (kQ a k (aT.mp K))).1) (JK _))) rfl,λ_=>rfl⟩) rfl;rw[Hi (ts:=a.map tI) rfl];congr 1;refine cJ (by simp[rP]) λi N D=>?_;have J:i<a.length:=by simpa using D
  simp[rP,J]
 refine iU rfl (gY (ρ':=R none none) (iw (lE (jo (Sx l (by lia) rfl (by show jK (gR 2) _=_;simp only[jK];exact E) rfl)) rfl w) rfl) ?_);cases n:b.any λr=>r.any (· != 0) with
 |true=>exact k9 (jF (by rw[j,n]) (iE rfl)) rfl
 |false=>refine gY (jM (by rw[j,n]) rfl) (gY (ρ':=R (some (.p (.lst (pv.map nZ)))) none) (iw (gZ rfl rfl rfl) rfl) (gY (iw (jo v) rfl) (iE ?_)));exact GU (gZ (x:=.int (d:Int)) (y:=.int (pv.length:Int)) rfl (lY (t:=.lst (pv.map nZ)) rfl (by simp)) rfl) (lY rfl rfl)
def nB{l:LI}:(l.any (· != 0))=false↔∀i,vc l i=0:=by
 constructor
 .intro h i;by_cases a:i<l.length
  .rw[jZ l i a];have:=bH.mp h l[i] (aW a);simpa using this
  .exact jm l i (by lia)
 .intro h;refine bH.mpr λx b=>?_;obtain⟨i,a,rfl⟩:=fT b;have:=h i;rw[jZ l i a]at this;simp[this]
def uk.up62{d:Nat}{a:LL}(h:uk d 30 a):uk d 62 a:=⟨λf b=>(h.gc f b).mono (by decide),h.few,h.pw⟩
def uo(m:Nat)(a:LL)(v:Vc):Prop:=∀r∈a,jC m (vc r) v=0
def Gx{d:Nat}{x v:Vc}:jC (d+1) x (λi=>if i<d then v i else 0)=jC d x v:=by unfold jC;rw[pU];dsimp only;rw[aS (bg _),fv,fg];exact iI _ _ _ λi a=>by rw[aR a]
def BL{m:Nat}{a:LL}(f:m<=4)(e:a.length<=20)(hr:∀v∈a,v.length=m/\∀x∈v,Bn 62 x):∃d,vJ a m a.length d:=Kt a (λv b=>(hr v b).1) _ (aL _)
section
variable {d:Nat}{cs rs rs':LL}{zs zs':List Nat}{pv pv':List (Nat×LI)}{f f':LI->LI}
theorem HH(hd:1<=d/\d<=3)(X:uk d 62 cs)(l:∀z∈zs,z<cs.length)(B:∀z∈zs',z<cs.length)(C:zs.length<=8)(A:zs'.length<=8)(h:PP d 62 (i6 cs zs) pv rs)(h':PP d 62 (i6 cs zs') pv' rs')
  (hf:∀u∈cs,(f u).length=d+1/\(∃g s y,0<g/\0<s/\Qs (yA pv) y/\∀i,g*vc (f u) i=s*vc u i+1*y i)/\∀p∈pv,vc (f u) p.1=0)
  (hf':∀u∈cs,(f' u).length=d+1/\(∃g s y,0<g/\0<s/\Qs (yA pv') y/\∀i,g*vc (f' u) i=s*vc u i+1*y i)/\∀p∈pv',vc (f' u) p.1=0)
  (U:∀v,uo (d+1) (i6 cs zs) v↔uo (d+1) (i6 cs zs') v) :
  (if rs.any (λr=>r.any (· != 0)) then T.non else mT d cs pv f)=(if rs'.any (λr=>r.any (· != 0)) then T.non else mT d cs pv' f'):=by
 have P9:∀{u:LI} {m:Nat},u.length=m/\(∀x∈u,Bn 62 x)->u.length=m/\∀x∈u,Bn 62 x:=λq=>⟨q.1,λx t=>(q.2 x t).mono (by decide)⟩;have I:∀{zs:List Nat},(∀z∈zs,z<cs.length)->zs.length<=8->∃J,vJ (i6 cs zs) (d+1) (i6 cs zs).length J:=λ{zs} l C=>BL (by lia) (by simp[i6];lia) λv F=>P9 (qU X l v F);have S:∀{zs:List Nat},(∀z∈zs,z<cs.length)->zs.length<=8->∃J,vJ ((i6 cs zs).map (·.take d)) d ((i6 cs zs).map (·.take d)).length J:=λ{zs} l C=>BL (by lia) (by simp[i6];lia) λv F=>by obtain⟨u,j,rfl⟩:=aE.mp F;have q:=qU X l u j;exact P9 ⟨by rw[bQ,q.1];lia,λx t=>q.2 x (dB t)⟩
 have N:∀{zs:List Nat},(∀z∈zs,z<cs.length)->zs.length<=8->∀u∈cs,∃J,vJ (i6 cs zs++[u]) (d+1) (i6 cs zs++[u]).length J:=λ{zs} l C u j=>BL (by lia) (by simp[i6];lia) λv F=>by
  rcases ai.mp F with q|q
  .exact P9 (qU X l v q)
  .rw[aj.mp q];exact P9 (X.gc u j).gl
 obtain⟨a1,k1⟩:=I l C;obtain⟨a1',K⟩:=I B A;obtain⟨a0,k0⟩:=S l C;obtain⟨a0',P⟩:=S B A;have s1:=qK k1 K U;have Q:∀{zs:List Nat} {v:Vc},(∀r∈(i6 cs zs).map (·.take d),jC d (vc r) v=0)↔uo (d+1) (i6 cs zs) λi=>if i<d then v i else 0:=λ{zs v}=>⟨λq r hr=>by rw[Gx,<-t5];exact q _ (aE.mpr ⟨r,hr,rfl⟩),λq r hr=>by obtain⟨u,j,rfl⟩:=aE.mp hr;rw[t5,<-Gx];exact q u j⟩
 have s0:=qK k0 P λv=>Q.trans ((U _).trans Q.symm);have e0:=xo h k0;have e0':=xo h' P;have D:pv.length=pv'.length:=by lia
 have left:∀{zs:List Nat} {rs:LL} {pv a:List (Nat×LI)},PP d 62 (i6 cs zs) pv rs->vJ (i6 cs zs) (d+1) (i6 cs zs).length a->((rs.any λr=>r.any (· != 0))=false↔a.length=pv.length):=λ{zs rs pv a} h k=>by
  constructor
  .intro H;exact nN h (λr hr=>nB.mp (by simpa using bH.mp H r hr) d) k
  .intro e;refine bH.mpr λr hr z=>?_;have hn:vc r d≠0:=λw=>by
    have:(r.any (· != 0))=false:=nB.mpr λi=>by
     by_cases hi:i<d
     .exact (h.rr r hr).2.1 i hi
     .by_cases Z:i=d
      .rw[Z];exact w
      .exact jm r i (by rw[(h.rr r hr).1];lia)
    rw[this]at z;cases z
   have:=Hg h hr hn k;lia
 have l1:=left h k1;have l2:=left h' K;cases H:rs.any λr=>r.any (· != 0) with
 |true=>
  cases n:rs'.any λr=>r.any (· != 0) with
  |true=>rfl
  |false=>have:=l2.mp n;have:(rs.any λr=>r.any (· != 0))=false:=l1.mpr (by lia);rw[H]at this;cases this
 |false=>
  have q1:=l1.mp H;have n:(rs'.any λr=>r.any (· != 0))=false:=l2.mpr (by lia);rw[n];have z1:∀r∈rs,vc r d=0:=λr hr=>nB.mp (by simpa using bH.mp H r hr) d;have z2:∀r∈rs',vc r d=0:=λr hr=>nB.mp (by simpa using bH.mp n r hr) d;have j:∀u∈cs,(f u).any (· != 0)=(f' u).any (· != 0):=λu j=>by
   obtain⟨b,kb⟩:=N l C u j;obtain⟨b',E⟩:=N B A u j;have sb:=qK kb E λv=>by
    constructor
    .intro q r hr;rcases ai.mp hr with w|w
     .exact (U v).mp (λr hr=>q r (ay _ hr)) r w
     .exact q r (bF _ w)
    .intro q r hr;rcases ai.mp hr with w|w
     .exact (U v).mpr (λr hr=>q r (ay _ hr)) r w
     .exact q r (bF _ w)
   obtain⟨fl,⟨g,s,y,hg0,hs0,hy,ey⟩,fz⟩:=hf u j;obtain⟨Y,⟨g',s',y',R,L,hy',ey'⟩,fz'⟩:=hf' u j;have o:=t7 h z1 hg0 hs0 hy ey fz fl kb;have o':=t7 h' z2 R L hy' ey' fz' Y E;have:(f u).any (· != 0)=false↔(f' u).any (· != 0)=false:=by rw[nB,nB,<-o,<-o',sb,D]
   cases t:(f u).any (· != 0) with
   |false=>exact (this.mp t).symm
   |true=>
    cases hy:(f' u).any (· != 0) with
    |true=>rfl
    |false=>rw[this.mpr hy]at t;cases t
  simp only[cu,if_false];unfold mT;rw[D];congr 4;congr 1;refine fU λk hk=>?_;rw[j _ (kQ cs k (aT.mp hk))]
end
def Mi(d:Nat)(a:LL)(pv:List (Nat×LI))(f:LI->LI):Ky:=((d:Int)-(pv.length:Int),((List.range a.length).filter λk=>!(f (a.getD k [])).any (· != 0)).map λ(k:Nat)=>(k:Int))
def Jr(d:Nat)(a:LL)(pv:List (Nat×LI))(f:LI->LI):Prop:=∀u∈a,(f u).length=d+1/\(∃g s y,0<g/\0<s/\Qs (yA pv) y/\∀i,g*vc (f u) i=s*vc u i+1*y i)/\∀p∈pv,vc (f u) p.1=0
def SQ(d:Nat)(a:LL)(zs:List Nat)(o:Option Ky):Prop:=∃pv b f,PP d 62 (i6 a zs) pv b/\Jr d a pv f/\o=if b.any (λr=>r.any (· != 0)) then none else some (Mi d a pv f)
def NY:Option Ky->T
 |none=>.non
 |some g=>m8 g
def wm(d:Nat)(a:LL)(pv:List (Nat×LI))(f:LI->LI):mT d a pv f=m8 (Mi d a pv f):=by unfold mT m8 Mi;rw[aJ];rfl
def Ed(b:Bool)(g:Ky):(if b then T.non else m8 g)=NY (if b then none else some g):=by cases b<;>rfl
def OX{f g:Ky}(h:m8 f=m8 g):f=g:=by have:=congrArg yn h;rw[tX,tX]at this;exact Option.some.inj this
def NH{o a:Option Ky}(h:NY o=NY a):o=a:=by
 cases o with
 |none=>
  cases a with
  |none=>rfl
  |some g=>cases h
 |some f=>
  cases a with
  |none=>cases h
  |some g=>rw[OX h]
def FL(d:Nat)(a:LL)(zs:List Nat):Option Ky:=Classical.epsilon (SQ d a zs)
structure Vz(d:Nat)(cs:LL):Prop where
 hd:1<=d/\d<=3
 hg:uk d 62 cs
def oV(a:LL)(zs:List Nat):Prop:=(∀z∈zs,z<a.length)/\zs.length<=8
section
variable {d:Nat}{cs:LL}{zs zs':List Nat}{k:Nat}{g:Ky}
def B8{o e:Option Ky}(V:Vz d cs)(b:oV cs zs)(a:oV cs zs')(h:SQ d cs zs o)(h':SQ d cs zs' e)(j:∀v,uo (d+1) (i6 cs zs) v↔uo (d+1) (i6 cs zs') v):o=e:=by obtain⟨pv,r,f,p,l,rfl⟩:=h;obtain⟨q,i,s,n,m,rfl⟩:=h';have:=HH V.hd V.hg b.1 a.1 b.2 a.2 p n l m j;rw[wm,wm,Ed,Ed]at this;exact NH this
def Mc(V:Vz d cs)(a:oV cs zs){S:T}(h:seqT S=.ok (zs.map mI)):∃o,SQ d cs zs o/\j6 c [.lst (cs.map tI),.int d,S]=.ok (NY o):=by obtain⟨pv,b,f,p,l,e⟩:=ED (c:=c) V.hd V.hg a.1 a.2 h;rw[wm,Ed]at e;exact⟨_,⟨pv,b,f,p,l,rfl⟩,e⟩
def Cw(V:Vz d cs)(a:oV cs zs):SQ d cs zs (FL d cs zs):=by obtain⟨o,h,_⟩:=Mc (c:=⟨0,0,0,0,0,0,0,0,0,0,0,0,0⟩) V a (S:=.lst (zs.map mI)) rfl;exact Classical.epsilon_spec (p:=SQ d cs zs) ⟨o,h⟩
def PN(V:Vz d cs)(a:oV cs zs){S:T}(b:seqT S=.ok (zs.map mI)):j6 c [.lst (cs.map tI),.int d,S]=.ok (NY (FL d cs zs)):=by obtain⟨o,h,e⟩:=Mc (c:=c) V a b;rw[B8 V a a h (Cw V a) λ_=>Iff.rfl]at e;exact e
def pS(V:Vz d cs)(b:oV cs zs)(a:oV cs zs')(e:∀v,uo (d+1) (i6 cs zs) v↔uo (d+1) (i6 cs zs') v):FL d cs zs=FL d cs zs':=B8 V b a (Cw V b) (Cw V a) e
def P9{u:LI}{m:Nat}(q:u.length=m/\∀x∈u,Bn 62 x):u.length=m/\∀x∈u,Bn 62 x:=⟨q.1,λx a=>(q.2 x a).mono (by decide)⟩
def SS(V:Vz d cs)(a:oV cs zs):∃e,vJ (i6 cs zs) (d+1) (i6 cs zs).length e:=BL (by have:=V.hd;lia) (by have:=a.2;simp[i6];lia) λv b=>P9 (qU V.hg a.1 v b)
def VD(V:Vz d cs)(a:oV cs zs){u:LI}(f:u∈cs):∃e,vJ (i6 cs zs++[u]) (d+1) (i6 cs zs++[u]).length e:=BL (by have:=V.hd;lia) (by have:=a.2;simp[i6];lia) λv b=>by
 rcases ai.mp b with q|q
 .exact P9 (qU V.hg a.1 v q)
 .rw[aj.mp q];exact P9 (V.hg.gc u f).gl
def OH{a:LL}(h:(a.any λr=>r.any (· != 0))=false):∀r∈a,vc r d=0:=λr hr=>nB.mp (by simpa using bH.mp h r hr) d
def Po{b:LL}{pv:List (Nat×LI)}{a:LL}(p:PP d 62 a pv b)(h:(b.any λr=>r.any (· != 0))=true):∃r∈b,vc r d≠0:=by
 obtain⟨r,hr,f⟩:=fN.mp h;refine⟨r,hr,λz=>?_⟩;have:(r.any (· != 0))=false:=nB.mpr λi=>by
  by_cases j:i<d
  .exact (p.rr r hr).2.1 i j
  .by_cases e:i=d
   .rw[e];exact z
   .exact jm r i (by rw[(p.rr r hr).1];lia)
 rw[this]at f;cases f
def lN(V:Vz d cs)(i:oV cs zs)(h:FL d cs zs=some g):∃pv a f,PP d 62 (i6 cs zs) pv a/\Jr d cs pv f/\(∀r∈a,vc r d=0)/\g=Mi d cs pv f:=by
 obtain⟨pv,a,f,p,l,e⟩:=Cw V i;rw[h]at e;cases b:a.any λr=>r.any (· != 0) with
 |true=>rw[b]at e;cases e
 |false=>rw[b]at e;exact⟨pv,a,f,p,l,OH b,Option.some.inj e⟩
def vO(V:Vz d cs)(i:oV cs zs)(h:FL d cs zs=none):∃pv a,PP d 62 (i6 cs zs) pv a/\∃r∈a,vc r d≠0:=by
 obtain⟨pv,a,f,p,l,e⟩:=Cw V i;rw[h]at e;cases b:a.any λr=>r.any (· != 0) with
 |false=>rw[b]at e;cases e
 |true=>exact⟨pv,a,p,Po p b⟩
def BG(V:Vz d cs)(t:oV cs zs){pv:List (Nat×LI)}{m:LL}{f:LI->LI}(p:PP d 62 (i6 cs zs) pv m)(l:Jr d cs pv f)(z:∀r∈m,vc r d=0){u:LI}(C:u∈cs) :
  (f u).any (· != 0)=false↔∀v,uo (d+1) (i6 cs zs) v->jC (d+1) (vc u) v=0:=by
 obtain⟨D,⟨g,s,y,e,a,A,o⟩,K⟩:=l u C;constructor
 .intro h v J;have H:=nB.mp h;have j:jC (d+1) y v=0:=jB A λx ⟨q,hq,ex⟩=>by rw[ex];exact jB (p.pl q hq).2.2.2.2 λx ⟨r,hr,ex⟩=>by rw[ex];exact J r hr
  have I:∀i,s*vc u i = -(y i):=λi=>by have:=o i;rw[H i]at this;lia
  have F:s*jC (d+1) (vc u) v=0:=by
   have:s*jC (d+1) (vc u) v = -1*jC (d+1) y v:=by unfold jC;rw[<-qr,<-qr];exact iI _ _ _ λi N=>by have:=I i;grind
   rw[this,j];rfl
  rcases fw.mp F with w|w
  .lia
  .exact w
 .intro h;obtain⟨L,B⟩:=SS V t;obtain⟨b,n⟩:=VD V t C;have E:=qK n B λv=>by
   constructor
   .exact λq r hr=>q r (ay _ hr)
   .intro q r hr;rcases ai.mp hr with w|w
    .exact q r w
    .rw[aj.mp w];exact h v q
  exact nB.mpr ((t7 p z e a A o K D n).mp (by rw[E];exact nN p z B))
def mY(V:Vz d cs)(i:oV cs zs)(h:FL d cs zs=some g):∃b:List Nat,g.2=b.map (λ(k:Nat)=>(k:Int))/\(∀k,k∈b↔k<cs.length/\∀v,uo (d+1) (i6 cs zs) v->jC (d+1) (vc (cs.getD k [])) v=0)/\b.length<=cs.length/\b.Pairwise (· < ·):=by
 obtain⟨pv,j,f,p,l,z,rfl⟩:=lN V i h;refine⟨_,rfl,λk=>?_,?_,?_⟩
 .rw[aV,aT];constructor
  .rintro⟨a,e⟩;exact⟨a,(BG V i p l z (kQ cs k a)).mp (by simpa using e)⟩
  .rintro⟨a,e⟩;exact⟨a,by simpa using (BG V i p l z (kQ cs k a)).mpr e⟩
 .have:=fV (λk=>!(f (cs.getD k [])).any (· != 0)) (List.range cs.length);rwa [dP]at this
 .exact List.pairwise_lt_range.filter _
def iA{r:LI}:r∈i6 cs zs↔∃z∈zs,r=cs.getD z []:=by unfold i6;rw[aE];exact⟨λ⟨z,h,e⟩=>⟨z,h,e.symm⟩,λ⟨z,h,e⟩=>⟨z,h,e.symm⟩⟩
def kx{v:Vc}:uo (d+1) (i6 cs (zs++[k])) v↔uo (d+1) (i6 cs zs) v/\jC (d+1) (vc (cs.getD k [])) v=0:=by
 constructor
 .intro h;exact⟨λr hr=>h r (by obtain⟨z,a,e⟩:=iA.mp hr;exact iA.mpr ⟨z,ay _ a,e⟩),h _ (iA.mpr ⟨k,by simp,rfl⟩)⟩
 .rintro⟨b,f⟩ r hr;obtain⟨z,a,rfl⟩:=iA.mp hr;rcases ai.mp a with q|q
  .exact b _ (iA.mpr ⟨z,q,rfl⟩)
  .rw[aj.mp q];exact f
def oV.snoc(a:oV cs (zs++[k])):oV cs zs:=⟨λz h=>a.1 z (ay _ h),by have:=a.2;simp at this;lia⟩
def BO{a b:List Nat}(h:a.map (λ(k:Nat)=>(k:Int))=b.map λ(k:Nat)=>(k:Int)):a=b:=(dN (f:=λ(k:Nat)=>(k:Int)) λx y w=>fW.mp w).mp h
def Im(V:Vz d cs)(i:oV cs (zs++[k])){b:List Nat}(l:oV cs (b++[k]))(h:FL d cs zs=some g)(n:g.2=b.map (λ(k:Nat)=>(k:Int))):FL d cs (b++[k])=FL d cs (zs++[k]):=by
 obtain⟨f,e,m,_⟩:=mY V i.snoc h;have:b=f:=BO (n.symm.trans e);subst this;refine pS V l i λv=>?_;rw[kx,kx];refine and_congr_left λ_=>⟨λh r hr=>?_,λh r hr=>?_⟩
 .obtain⟨z,a,rfl⟩:=iA.mp hr;exact h _ (iA.mpr ⟨z,(m z).mpr ⟨i.1 z (ay _ a),λv j=>j _ hr⟩,rfl⟩)
 .obtain⟨z,a,rfl⟩:=iA.mp hr;exact ((m z).mp a).2 v h
def FO(V:Vz d cs)(i:oV cs (zs++[k]))(h:FL d cs zs=none):FL d cs (zs++[k])=none:=by
 obtain⟨pv,t,p,r,hr,n⟩:=vO V i.snoc h;cases e:FL d cs (zs++[k]) with
 |none=>rfl
 |some g=>
  obtain⟨j,o,u,a,z,s,rfl⟩:=lN V i e;obtain⟨y,l⟩:=SS V i;have:=lu (os:=j++[(d,r)]) l (λq b=>by
   rcases ai.mp b with w|w
   .exact⟨by have:=(a.pl q w).1;lia,(a.pl q w).2.2.1⟩
   .rw[aj.mp w];exact⟨bK d,n⟩) (cV.mpr ⟨a.tri,cW _ _,λq b A f=>by rw[aj.mp f];exact (p.rr r hr).2.1 _ (a.pl q b).1⟩) λv m q b=>by
   rcases ai.mp b with w|w
   .exact jB (a.pl q w).2.2.2.2 λx ⟨r,hr,ex⟩=>by rw[ex];exact m r hr
   .rw[aj.mp w];exact jB (p.rr r hr).2.2 λx ⟨r,hr,ex⟩=>by rw[ex];exact (kx.mp m).1 r hr
  rw[nN a s l]at this;simp at this;exact absurd this (fX _)
def LC(V:Vz d cs):∃g,FL d cs []=some g:=by
 cases e:FL d cs [] with
 |some g=>exact⟨g,rfl⟩
 |none=>
  obtain⟨pv,b,p,r,hr,a⟩:=vO V ⟨λ_ h=>absurd h fY,bL _⟩ e;have:=jB (m:=d+1) (v:=λi=>if i=d then 1 else 0) (p.rr r hr).2.2 λx ⟨r,hr,_⟩=>by simp[i6]at hr
  refine absurd ?_ a;unfold jC at this;rw[pU]at this;rw[iI d _ (λ_=>0) λi f=>by dsimp only;rw[aS (by lia),fv],kl]at this;simpa using this
def qO(V:Vz d cs)(a:oV cs zs)(h:FL d cs zs=some g):0<=g.1/\g.1<=d:=by obtain⟨pv,b,f,p,l,z,rfl⟩:=lN V a h;have:=p.short;unfold Mi;dsimp only;lia
def Fm{A:Ky}(V:Vz d cs)(j:oV cs (zs++[k]))(h:FL d cs zs=some g)(h':FL d cs (zs++[k])=some A)(R:(k:Int)∉g.2):A.1<g.1:=by
 obtain⟨J,e,m,_⟩:=mY V j.snoc h;have i:k<cs.length:=j.1 k (by simp);have I:k∉J:=λw=>R (by rw[e];exact aE.mpr ⟨k,w,rfl⟩);obtain⟨pv,S,f,p,l,z,rfl⟩:=lN V j.snoc h;obtain⟨L,D,X,N,Z,H,rfl⟩:=lN V j h';obtain⟨a,B⟩:=SS V j;obtain⟨b,o⟩:=VD V j.snoc (kQ cs k i);have ab:a.length=b.length:=qK B o λv=>by
  constructor
  .intro q r hr;rcases ai.mp hr with w|w
   .exact (kx.mp q).1 r w
   .rw[aj.mp w];exact (kx.mp q).2
  .intro q;exact kx.mpr ⟨λr hr=>q r (ay _ hr),q _ (by simp)⟩
 have U:=nN N H B;have Q:=lu o (λq n=>⟨by have:=(p.pl q n).1;lia,(p.pl q n).2.2.1⟩) p.tri λv K q n=>jB (p.pl q n).2.2.2.2 λx ⟨r,hr,ex⟩=>by rw[ex];exact K r (ay _ hr)
 obtain⟨E,⟨Y,s,y,u,t,F,C⟩,P⟩:=l _ (kQ cs k i);have ne:b.length≠pv.length:=λw=>I ((m k).mpr ⟨i,(BG V j.snoc p l z (kQ cs k i)).mp (nB.mpr ((t7 p z u t F C P E o).mp w))⟩);unfold Mi;dsimp only;lia
end
def j5(n:Nat)(p:Nat->Bool):List Nat:=(List.range n).filter p
def FX{n:Nat}{p:Nat->Bool}:∀z∈j5 n p,z<n:=λz h=>aT.mp (aV.mp h).1
def BR(n:Nat)(p:Nat->Bool):(j5 n p).length<=n:=by have:=fV p (List.range n);rwa [dP]at this
def nu(n:Nat)(p:Nat->Bool):j5 (n+1) p=j5 n p++(if p n then [n] else []):=by unfold j5;rw[fZ,f6];congr 1;cases h:p n<;>simp[h]
def nO{n:Nat}{p q:Nat->Bool}(h:∀k,k<n->p k=q k):j5 n p=j5 n q:=fU λk a=>h k (aT.mp a)
def wq(a:List Ky):Option Ky->List Ky
 |none=>a
 |some g=>v5 a g
def Ng(a:List Ky)(o:Option Ky):Kz a (NY o)=.ok (wq a o):=by
 cases o with
 |none=>rfl
 |some g=>unfold NY Kz wq;have:yn (m8 g)=some g:=tX g;unfold m8 at this ⊢;simp only[this]
def KL{a:List Ky}{g x:Ky}:x∈v5 a g↔x∈a\/x=g:=by
 unfold v5;split
 .rename_i h;exact⟨.inl,λb=>b.elim id λe=>e▸h⟩
 .simp
def Lg{a:List Ky}{o:Option Ky}{x:Ky}:x∈wq a o↔x∈a\/o=some x:=by
 cases o with
 |none=>simp[wq]
 |some g=>unfold wq;rw[KL];exact or_congr_right ⟨λh=>by rw[h],λh=>(Option.some.inj h).symm⟩
def DG{d:List Ky}(o:Option Ky)(h:d.Nodup):(wq d o).Nodup:=by
 cases o with
 |none=>exact h
 |some g=>
  show (v5 d g).Nodup;unfold v5;split
  .exact h
  .rename_i i;exact eR.mpr ⟨h,by simp,λa j b f e=>by rw[aj.mp f]at e;exact i (e▸j)⟩
def KW(a:List Ky)(o:Option Ky):(wq a o).length<=a.length+1:=by
 cases o with
 |none=>exact bN _
 |some g=>exact ID a g
section
variable {α:Type}{φ:α->Option Ky}
def za(φ:α->Option Ky)(l:List α)(b:List Ky):List Ky:=l.foldl (λa x=>wq a (φ x)) b
theorem yB{x:Ky}:∀{l:List α} {a:List Ky},x∈za φ l a↔x∈a\/∃y∈l,φ y=some x
 |[],a=>by simp[za]
 |y::l,a=>by show x∈za φ l (wq a (φ y))↔_;rw[yB,Lg];simp only[aG,exists_eq_or_imp,or_assoc]
theorem vg:∀{l:List α} {a:List Ky},a.Nodup->(za φ l a).Nodup
 |[],_,h=>h
 |y::l,_,h=>vg (l:=l) (DG (φ y) h)
theorem CA{st:T->List Ky->M (List Ky)}{enc:α->T}{N:Nat}:∀(l:List α) (b:List Ky),b.length+l.length<=N->(∀x∈l,∀a:List Ky,a.length<N->st (enc x) a=.ok (wq a (φ x)))->qw st (l.map enc) b=.ok (za φ l b)
 |[],_,_,_=>rfl
 |y::l,b,h,hs=>by rw[az]at h;show (st (enc y) b).bind (qw st (l.map enc))=_;rw[hs y bu b (by lia)];have:=KW b (φ y);exact CA l _ (by lia) λx d=>hs x (bx _ d)
end
theorem LK:∀(n:Nat) (p:Nat->Bool),∃b:Nat,b<2 ^ n/\∀k,k<n->(Builtin.bitAnd ((b:Int) / 2 ^ k) 1==1)=p k
 |0,_=>⟨0,by decide,λk a=>absurd a (dM _)⟩
 |n+1,p=>by
  obtain⟨b,d,h⟩:=LK n λk=>p (k+1);refine⟨2*b+(if p 0 then 1 else 0),?_,λk a=>?_⟩
  .rw[eI];split<;>lia
  .rw[PyProof.Rows.bitAnd_m1];cases k with
   |zero=>
    rw[Int.pow_zero,Int.ediv_one];cases p 0
    .simp
    .simp_all
   |succ k=>
    rw[<-h k (by lia),PyProof.Rows.bitAnd_m1,Int.pow_succ,ee,<-Int.ediv_ediv_of_nonneg (by decide)];have:((2*b+(if p 0 then 1 else 0):Nat):Int) / 2=b:=by split<;>lia
    rw[this]
def Ag(b:Nat):Nat->Bool:=λk=>Builtin.bitAnd ((b:Int) / 2 ^ k) 1==1
section
variable {d:Nat}{cs:LL}
def mH(b:cs.length<=7){n:Nat}(a:n<=cs.length)(p:Nat->Bool):oV cs (j5 n p):=⟨λz h=>aF (FX z h) a,aO (BR n p) (by lia)⟩
def wB(b:cs.length<=7){k:Nat}(a:k<cs.length)(p:Nat->Bool):oV cs (j5 k p++[k]):=by
 refine⟨λz h=>?_,?_⟩
 .rcases ai.mp h with q|q
  .have:=FX z q;lia
  .rw[aj.mp q];exact a
 .have:=BR k p;simp;lia
def yw(d:Nat)(cs:LL)(k:Nat)(a:List Ky):Prop:=a.Nodup/\∀g,g∈a↔∃p,FL d cs (j5 k p)=some g
def G6(l:LI):List Nat:=l.map Int.toNat
def rC(a:List Nat):G6 (a.map λ(k:Nat)=>(k:Int))=a:=by unfold G6;rw[aJ];exact (dS λk _=>by simp).trans (List.map_id a)
def IC(d:Nat)(cs:LL)(k:Nat)(a:List Ky):List Ky:=za (λf:Ky=>FL d cs (G6 f.2++[k])) a a
def Hq(V:Vz d cs)(w:cs.length<=7){k:Nat}(i:k<cs.length){a:List Ky}(h:yw d cs k a):yw d cs (k+1) (IC d cs k a):=by
 refine⟨vg h.1,λg=>?_⟩;unfold IC;rw[yB];have r:∀(p:Nat->Bool) (f:Ky),FL d cs (j5 k p)=some f->FL d cs (G6 f.2++[k])=FL d cs (j5 k p++[k]):=λp f e=>by
  obtain⟨x,n,m,v,_⟩:=mY V (mH (by lia) (by lia) p) e;rw[n,rC];exact Im V (wB (by lia) i p) ⟨λz s=>by
   rcases ai.mp s with q|q
   .exact ((m z).mp q).1
   .rw[aj.mp q];exact i,by simp;lia⟩ e n
 constructor
 .rintro (u|⟨f,t,e⟩)
  .obtain⟨p,e⟩:=(h.2 g).mp u;refine⟨λj=>p j&&decide (j<k),?_⟩;rw[nu,show (p k&&decide (k<k))=false by simp,aS (by decide),bM];rw[nO (q:=p) λj o=>by simp[o]];exact e
  .obtain⟨p,b⟩:=(h.2 f).mp t;rw[r p f b]at e;refine⟨λj=>if j=k then true else p j,?_⟩;rw[nu,aR (by simp),nO (q:=p) λj o=>by rw[aS (by lia)]];exact e
 .rintro⟨p,e⟩;rw[nu]at e;cases l:p k with
  |false=>rw[l]at e;simp only[cu,if_false,bM]at e;exact .inl ((h.2 g).mpr ⟨p,e⟩)
  |true=>
   rw[l]at e;simp only[if_true]at e;cases b:FL d cs (j5 k p) with
   |none=>rw[FO V (wB (by lia) i p) b]at e;cases e
   |some f=>exact .inr ⟨f,(h.2 f).mpr ⟨p,b⟩,by rw[r p f b];exact e⟩
def Ck{k:Nat}{a:List Ky}(h:yw d cs k a):a.length<=2 ^ k:=by
 have:=List.Nodup.length_le_of_subset (l₂:=(List.range (2 ^ k)).filterMap λb=>FL d cs (j5 k (Ag b))) h.1 λg j=>by obtain⟨p,e⟩:=(h.2 g).mp j;obtain⟨b,f,i⟩:=LK k p;exact bE.mpr ⟨b,aT.mpr f,by rw[show j5 _ (Ag b)=j5 _ p from nO i];exact e⟩
 have l:=f7 (λb=>FL d cs (j5 k (Ag b))) (List.range (2 ^ k));rw[dP]at l;lia
theorem few(V:Vz d cs)(s:cs.length<=7):∀n,n<=cs.length->∀(p:Nat->Bool) (g:Ky),FL d cs (j5 n p)=some g->∃q:Nat->Bool,q n=false/\(∀k,n<=k->q k=false)/\((j5 n q).length:Int)<=d-g.1/\∀v,uo (d+1) (i6 cs (j5 n p)) v↔uo (d+1) (i6 cs (j5 n q)) v
 |0,_,p,g,e=>⟨λ_=>false,rfl,λ_ _=>rfl,by have:=(qO V (mH s (bL _) p) e).2;show (0:Int)<=_;lia,λv=>Iff.rfl⟩
 |n+1,hn,p,g,e=>by
  have j:∀q:Nat->Bool,q n=false->j5 (n+1) q=j5 n q:=λq z=>by rw[nu,aS (by rw[z];decide),bM]
  by_cases t:p n=true
  .have A:j5 (n+1) p=j5 n p++[n]:=by rw[nu,aR t]
   have b:=wB s (show n<cs.length by lia) p;rw[A]at e ⊢;cases o:FL d cs (j5 n p) with
   |none=>rw[FO V b o]at e;cases e
   |some f=>
    obtain⟨q,r,h,w,u⟩:=few V s n (by lia) p f o;by_cases a:(n:Int)∈f.2
    .have x:∀v,uo (d+1) (i6 cs (j5 n p++[n])) v↔uo (d+1) (i6 cs (j5 n p)) v:=λv=>by
      obtain⟨D,C,m,_⟩:=mY V b.snoc o;have B:=(m n).mp (by rw[C]at a;obtain⟨z,b,y⟩:=aE.mp a;rw[<-fW.mp y];exact b)
      exact kx.trans ⟨λz=>z.1,λz=>⟨z,B.2 v z⟩⟩
     have:f=g:=by have:=pS V b b.snoc x;rw[e,o]at this;injection this with z;exact z.symm
     subst this;exact⟨q,h _ (by lia),λk a=>h k (by lia),by rw[j q r];exact w,λv=>by rw[j q r];exact (x v).trans (u v)⟩
    .have l:=Fm V b o e a;have i:j5 (n+1) (λk=>k==n||q k)=j5 n q++[n]:=by rw[nu,aR (by simp),nO (q:=q) λk a=>by simp[aN a]]
     refine⟨λk=>k==n||q k,by simp[h (n+1) (by lia)],λk a=>by simp[h k (by lia),show k≠n by lia],?_,λv=>?_⟩
     .rw[i,aU];simp;lia
     .rw[i];exact kx.trans ((and_congr (u v) Iff.rfl).trans kx.symm)
  .have t:p n=false:=by simpa using t
   rw[j p t]at e ⊢;obtain⟨q,r,h,w,u⟩:=few V s n (by lia) p g e;exact⟨q,h _ (by lia),λk a=>h k (by lia),by rw[j q r];exact w,λv=>by rw[j q r];exact u v⟩
def Ud:((List.range (2 ^ 7)).filter λb=>decide ((j5 7 (Ag b)).length<=3)).length=64:=by decide +kernel
def vM(V:Vz d cs)(i:cs.length<=7){a:List Ky}(h:yw d cs cs.length a):a.length<=64:=by
 by_cases f:cs.length<=6
 .have:=Ck h;have t:2 ^ cs.length<=2 ^ 6:=eG (by decide) f;lia
 have f:cs.length=7:=by lia
 have sub:∀g∈a,g∈((List.range (2 ^ 7)).filter λb=>decide ((j5 7 (Ag b)).length<=3)).filterMap λb=>FL d cs (j5 7 (Ag b)):=λg n=>by obtain⟨p,e⟩:=(h.2 g).mp n;obtain⟨q,_,_,m,o⟩:=few V i _ (aL _) p g e;rw[pS V (mH i (aL _) p) (mH i (aL _) q) o,f]at e;rw[f]at m;obtain⟨b,k,l⟩:=LK 7 q;have j:j5 7 (Ag b)=j5 7 q:=nO l;refine bE.mpr ⟨b,aV.mpr ⟨aT.mpr k,?_⟩,by rw[j];exact e⟩;rw[j];refine aC ?_;have:=(qO V (mH i (by lia) q) e).1;have:=V.hd.2;lia
 have s:=List.Nodup.length_le_of_subset h.1 sub;have r:=f7 (λb=>FL d cs (j5 7 (Ag b))) ((List.range (2 ^ 7)).filter λb=>decide ((j5 7 (Ag b)).length<=3));rw[Ud]at r;lia
end
section
variable {d:Nat}{cs:LL}
def N4{i fe:Pe->M T}{j:Pe->M (List T)}{h b a f:Nat}{ρ:En}{g:Ky}{its:List T}{l:List Ky}(k:i (kP ρ)=.ok (m8 g))(m:j (((((kP ρ).set h none).set f none).set b none).set a none)=.ok its)
  (n:qw (Ic fe b a (((((kP ρ).set h none).set f none).set b none).set a none)) its [g]=.ok l) (e:l.length<=64):Hr i fe j h b a f ρ=.rf ((jv l).map m8):=by
 unfold Hr;rw[k,O.of_ok,tX];dsimp only;rw[m,O.of_ok,n];unfold Tu;rw[O.of_ok,aR e]
def Q8{fe:Pe->M T}{b:Nat}{ρ:Pe}{t:T}{a:List Ky}{o:Option Ky}(e:a.length<1000)(h:fe (ρ.set b (some t))=.ok (NY o)):TX fe b ρ t a=.ok (wq a o):=by unfold TX;rw[aR e,h,M.bind_ok,Ng]
def AJ{k n:Nat}{g:En->O}{ts us:List T}(a:ts.length=k)(h:g (iW n ts)=.rf us):AM k n g ts=.ok us:=by unfold AM;rw[aR a,h];rfl
theorem CW(V:Vz d cs)(n:cs.length<=7){fe:Pe->M T}{ρ:Pe}(g:∀(k:Nat) (f:Ky) (p:Nat->Bool),k<cs.length->FL d cs (j5 k p)=some f->fe ((ρ.set 4 (some (.int (k:Int)))).set 5 (some (m8 f)))=.ok (NY (FL d cs (G6 f.2++[k])))) :
  ∀(m k:Nat) (b:List Ky),k+m=cs.length->yw d cs k b->∃l,qw (Ic fe 4 5 ρ) ((List.range' k m).map λ(i:Nat)=>T.int (i:Int)) b=.ok l/\yw d cs cs.length l
 |0,k,b,h,ha=>⟨b,rfl,by rw[<-h];exact ha⟩
 |m+1,k,b,h,ha=>by
  have t:=Ck ha;have q:2 ^ k<=2 ^ 6:=eG (by decide) (by lia);have e:Ic fe 4 5 ρ (.int (k:Int)) b=.ok (IC d cs k b):=CA (N:=1000) (enc:=m8) b b (by lia) λf o a j=>by obtain⟨p,e⟩:=(ha.2 f).mp o;exact Q8 j (g k f p (by lia) e)
  obtain⟨l,s,r⟩:=CW V n g m (k+1) _ (by lia) (Hq V n (by lia) ha);refine⟨l,?_,r⟩;rw[List.range'_succ,bJ];show (Ic fe 4 5 ρ (.int (k:Int)) b).bind _=_;rw[e];exact s
def De(V:Vz d cs)(j:cs.length<=7):∃l,yw d cs cs.length l/\pM c [m6 c d cs]=.ok ((jv l).map m8):=by
 have sz:1000<sizeLine:=by decide
 obtain⟨b,i⟩:=LC V;have A:yw d cs 0 [b]:=⟨by simp,λg=>⟨λh=>⟨λ_=>false,by rw[aj.mp h];exact i⟩,λ⟨p,h⟩=>by have n:FL d cs []=some g:=h;rw[i]at n;rw[Option.some.inj n];simp⟩⟩
 have w:oV cs []:=⟨λ_ h=>absurd h fY,bL _⟩;obtain⟨l,C,r⟩:=CW V j (fe:=hZ (gQ (gR 1) (gQ (gR 2) (gQ (ig jw (ig jD (gR 5) (cM (.int 1))) (oY (gQ (gR 4) gW))) gW))) (j6 c)) (ρ:=[some (m6 c d cs),some (.lst (cs.map tI)),some (.int (d:Int)),none,none,none,none]) (λk f p D e=>by
   obtain⟨a,o,m,E,_⟩:=mY V (mH (by lia) (by lia) p) e;have ok:oV cs (a++[k]):=⟨λz u=>by
    rcases ai.mp u with q|q
    .exact ((m z).mp q).1
    .rw[aj.mp q];exact D,by simp;lia⟩
   have B:seqT (.tup (a.map mI++[.int (k:Int)]))=.ok ((a++[k]).map mI):=by simp[seqT]
   rw[o,rC];have s:f.2.map T.int=a.map mI:=by rw[o,aJ];rfl
   refine mV rfl rfl (gZ (x:=.tup (a.map mI)) (y:=.tup [.int (k:Int)]) (gZ (x:=m8 f) rfl rfl (by unfold m8;rw[s];rfl)) rfl ?_) (PN V ok B);simp[jw];lia) cs.length 0 [b] (by lia) A
 refine⟨l,r,AJ rfl ?_⟩;have v:(λρ=>if ρ.length=7 then Hr (hZ (gQ (gR 1) (gQ (gR 2) (gQ (jy (lstM gW)) gW))) (j6 c)) (hZ (gQ (gR 1) (gQ (gR 2) (gQ (ig jw (ig jD (gR 5) (cM (.int 1))) (oY (gQ (gR 4) gW))) gW))) (j6 c)) (kC (gQ (kv kZ (gQ (gR 1) gW)) gW)) 3 4 5 6 ρ else .bad:En->O)
   [some (.p (m6 c d cs)),some (.p (.lst (cs.map tI))),some (.p (.int (d:Int))),none,none,none,none]=.rf ((jv l).map m8):=by
  refine (aR rfl).trans (N4 (g:=b) ?_ (pK cs.length (by lia) (lY (t:=.lst (cs.map tI)) rfl (by simp))) ?_ (vM V j r))
  .refine mV rfl rfl (z:=.lst []) rfl ?_;rw[PN V w (S:=.lst []) rfl,i];rfl
  .rw[List.range_eq_range'];exact C
 exact gY (iw (jo (FK d cs rfl)) rfl) (gY (iw (vI d cs rfl) rfl) v)
end
def Ie(a b:Ky):Prop:=∀k∈a.2,k∈b.2
section
variable {d:Nat}{cs:LL}
def Mf(d:Nat)(cs:LL)(y:Ky):Prop:=∃a:List Nat,y.2=a.map (λ(k:Nat)=>(k:Int))/\oV cs a/\a.Pairwise (· < ·)/\FL d cs a=some y/\∀k,k∈a↔k<cs.length/\∀v,uo (d+1) (i6 cs a) v->jC (d+1) (vc (cs.getD k [])) v=0
def FH(V:Vz d cs){zs:List Nat}(f:oV cs zs){y:Ky}(h:FL d cs zs=some y):Mf d cs y:=by
 obtain⟨g,e,m,l,j⟩:=mY V f h;have ok:oV cs g:=⟨λz f=>((m z).mp f).1,by have:=V.hg.few;lia⟩;have i:∀v,uo (d+1) (i6 cs zs) v↔uo (d+1) (i6 cs g) v:=λv=>by
  constructor
  .intro a r hr;obtain⟨z,b,rfl⟩:=iA.mp hr;exact ((m z).mp b).2 v a
  .intro a r hr;obtain⟨z,b,rfl⟩:=iA.mp hr;exact a _ (iA.mpr ⟨z,(m z).mpr ⟨f.1 z b,λv a=>a _ hr⟩,rfl⟩)
 refine⟨g,e,ok,j,by rw[<-pS V f ok i];exact h,λk=>?_⟩;rw[m k];exact and_congr_right λ_=>⟨λq v a=>q v ((i v).mpr a),λq v a=>q v ((i v).mp a)⟩
def BZ(V:Vz d cs){zs a:List Nat}(o:oV cs zs)(f:oV cs a)(t:∀v,uo (d+1) (i6 cs a) v->uo (d+1) (i6 cs zs) v)(h:FL d cs zs=none):FL d cs a=none:=by
 obtain⟨pv,y,p,r,hr,n⟩:=vO V o h;cases e:FL d cs a with
 |none=>rfl
 |some g=>
  obtain⟨k,s,z,b,B,u,rfl⟩:=lN V f e;obtain⟨A,l⟩:=SS V f;have:=lu (os:=k++[(d,r)]) l (λq i=>by
   rcases ai.mp i with w|w
   .exact⟨by have:=(b.pl q w).1;lia,(b.pl q w).2.2.1⟩
   .rw[aj.mp w];exact⟨bK d,n⟩) (cV.mpr ⟨b.tri,cW _ _,λq i C j=>by rw[aj.mp j];exact (p.rr r hr).2.1 _ (b.pl q i).1⟩) λv m q i=>by
   rcases ai.mp i with w|w
   .exact jB (b.pl q w).2.2.2.2 λx ⟨r,hr,ex⟩=>by rw[ex];exact m r hr
   .rw[aj.mp w];exact jB (p.rr r hr).2.2 λx ⟨r,hr,ex⟩=>by rw[ex];exact t v m r hr
  rw[nN b u l]at this;simp at this;exact absurd this (fX _)
def N9(V:Vz d cs){zs a:List Nat}(k:oV cs zs)(b:oV cs a){g i:Ky}(h:FL d cs zs=some g)(h':FL d cs a=some i)(n:∀v,uo (d+1) (i6 cs a) v->uo (d+1) (i6 cs zs) v):i.1<=g.1:=by
 obtain⟨pv,w,f,p,l,z,rfl⟩:=lN V k h;obtain⟨u,m,y,t,B,o,rfl⟩:=lN V b h';obtain⟨A,j⟩:=SS V b;have:=lu j (λq e=>⟨by have:=(p.pl q e).1;lia,(p.pl q e).2.2.1⟩) p.tri λv s q e=>jB (p.pl q e).2.2.2.2 λx ⟨r,hr,ex⟩=>by rw[ex];exact n v s r hr
 rw[nN t o j]at this;unfold Mi;dsimp only;lia
def SC(V:Vz d cs){zs:List Nat}{k:Nat}(b:oV cs (zs++[k])){g n:Ky}(h:FL d cs zs=some g)(h':FL d cs (zs++[k])=some n):g.1<=n.1+1:=by
 obtain⟨pv,F,f,p,l,z,rfl⟩:=lN V b.snoc h;obtain⟨E,u,H,C,J,B,rfl⟩:=lN V b h';obtain⟨I,o⟩:=SS V b;have:=qE o ((pv.map λq=>vc q.2)++[vc (cs.getD k [])]) λv s r hr=>by
  have D:∀q∈pv,jC (d+1) (vc q.2) v=0:=λq j=>s _ (ay _ (aE.mpr ⟨q,j,rfl⟩));obtain⟨y,A,rfl⟩:=iA.mp hr;rcases ai.mp A with w|w
  .refine jB (p.sp _ (iA.mpr ⟨y,w,rfl⟩)) λx t=>?_;rcases t with⟨q,j,m⟩|⟨e,a,m⟩
   .rw[m];exact D q j
   .rw[m];unfold jC;rw[iI (d+1) _ (λ_=>0) λi K=>by
     have:vc e i=0:=by
      by_cases q:i<d
      .exact (p.rr e a).2.1 i q
      .rw[show i=d by lia];exact z e a
     rw[this,eY]];exact kl _
  .rw[aj.mp w];exact s _ (by simp)
 rw[nN C B o]at this;simp at this;unfold Mi;dsimp only;lia
def jn(d:Nat)(cs:LL)(y:Ky)(k:Nat):Option Ky:=FL d cs (G6 y.2++[k])
structure VW(d:Nat)(cs:LL)(y:Ky)(k:Nat)(z:Ky):Prop where
 mf:Mf d cs z
 le:Ie y z
 kin:(k:Int)∈z.2
 one:(k:Int)∉y.2->z.1=y.1-1
 same:(k:Int)∈y.2->z=y
 least:∀t,Mf d cs t->Ie y t->(k:Int)∈t.2->Ie z t
def iY{a:List Nat}{k:Nat}:(k:Int)∈a.map (λ(k:Nat)=>(k:Int))↔k∈a:=by rw[aE];exact⟨λ⟨z,hz,e⟩=>by rw[<-fW.mp e];exact hz,λh=>⟨k,h,rfl⟩⟩
def F9(V:Vz d cs)(i:cs.length<=7){b:List Nat}(f:oV cs b)(g:b.Pairwise (· < ·)){k:Nat}(h:k<cs.length):oV cs (b++[k]):=by
 have nd:b.Nodup:=g.imp λa=>aN a;have:=List.Nodup.length_le_of_subset (l₂:=List.range cs.length) nd λz e=>aT.mpr (f.1 z e);rw[dP]at this;refine⟨λz e=>?_,by simp;lia⟩;rcases ai.mp e with q|q
 .exact f.1 z q
 .rw[aj.mp q];exact h
def xH(V:Vz d cs)(H:cs.length<=7){y z:Ky}(F:Mf d cs y){k:Nat}(A:k<cs.length)(h:jn d cs y k=some z):VW d cs y k z:=by
 obtain⟨u,e,ok,C,s,m⟩:=F;unfold jn at h;rw[e,rC]at h;have a:=F9 V H ok C A;obtain⟨J,o,n,_⟩:=mY V a h;have sub:∀j∈u,j∈J:=λj f=>(n j).mpr ⟨ok.1 j f,λv g=>g _ (iA.mpr ⟨j,ay _ f,rfl⟩)⟩;refine⟨FH V a h,λj f=>?_,?_,λB=>?_,λb=>?_,λt I x l j f=>?_⟩
 .rw[e]at f;rw[o];obtain⟨i,b,rfl⟩:=aE.mp f;exact iY.mpr (sub i b)
 .rw[o];exact iY.mpr ((n k).mpr ⟨A,λv g=>g _ (iA.mpr ⟨k,by simp,rfl⟩)⟩)
 .have N:=Fm V a s h B;have P:=SC V a s h;lia
 .rw[e]at b;have b:=iY.mp b;have:FL d cs (u++[k])=FL d cs u:=pS V a ok λv=>by rw[kx];exact⟨λq=>q.1,λq=>⟨q,q _ (iA.mpr ⟨k,b,rfl⟩)⟩⟩
  rw[this,s]at h;exact (Option.some.inj h).symm
 .obtain⟨L,p,D,_,K,E⟩:=I;rw[o]at f;obtain⟨i,b,rfl⟩:=aE.mp f;rw[p];refine iY.mpr ((E i).mpr ⟨((n i).mp b).1,λv g=>((n i).mp b).2 v (kx.mpr ⟨λr hr=>?_,?_⟩)⟩)
  .obtain⟨w,hw,rfl⟩:=iA.mp hr;have:=x w (by rw[e];exact iY.mpr hw);rw[p]at this;exact g _ (iA.mpr ⟨w,iY.mp this,rfl⟩)
  .rw[p]at l;exact g _ (iA.mpr ⟨k,iY.mp l,rfl⟩)
def Dp(V:Vz d cs)(o:cs.length<=7){y t:Ky}(n:Mf d cs y)(p:Mf d cs t)(g:Ie y t){k:Nat}(s:k<cs.length)(a:(k:Int)∈t.2):∃z,jn d cs y k=some z:=by
 obtain⟨q,e,ok,l,A,m⟩:=n;obtain⟨u,i,f,_,b,x⟩:=p;unfold jn;rw[e,rC];cases h:FL d cs (q++[k]) with
 |some z=>exact⟨z,rfl⟩
 |none=>
  rw[BZ V (F9 V o ok l s) f (λv j=>kx.mpr ⟨λr hr=>?_,?_⟩) h]at b
  .cases b
  .obtain⟨w,hw,rfl⟩:=iA.mp hr;have:=g w (by rw[e];exact iY.mpr hw);rw[i]at this;exact j _ (iA.mpr ⟨w,iY.mp this,rfl⟩)
  .rw[i]at a;exact j _ (iA.mpr ⟨k,iY.mp a,rfl⟩)
def n9(V:Vz d cs)(h6:cs.length<=7){a b:Ky}(ha:Mf d cs a)(hb:Mf d cs b)(h:Ie a b)(ne:a≠b):b.1<a.1:=by
 obtain⟨ka,ea,oka,hpa,fla,ma⟩:=id ha;obtain⟨kb,eb,okb,hpb,flb,mb⟩:=id hb;have hex:∃k∈kb,k∉ka:=by
  refine aP λhn=>ne ?_;have hs:∀k∈kb,k∈ka:=λk hk=>aP λq=>hn ⟨k,hk,q⟩;have:FL d cs ka=FL d cs kb:=pS V oka okb λv=>by
   constructor
   .intro hv r hr;obtain⟨w,hw,rfl⟩:=iA.mp hr;exact hv _ (iA.mpr ⟨w,hs w hw,rfl⟩)
   .intro hv r hr;obtain⟨w,hw,rfl⟩:=iA.mp hr;have:=h w (by rw[ea];exact iY.mpr hw);rw[eb]at this;exact hv _ (iA.mpr ⟨w,iY.mp this,rfl⟩)
  rw[fla,flb]at this;exact Option.some.inj this
 obtain⟨k,hkb,hka⟩:=hex;have hkn:k<cs.length:=okb.1 k hkb;have hkt:(k:Int)∈b.2:=by rw[eb];exact iY.mpr hkb
 obtain⟨z,hz⟩:=Dp V h6 ha hb h hkn hkt;have J:=xH V h6 ha hkn hz;have h1:=J.one (by rw[ea];exact λq=>hka (iY.mp q));obtain⟨kz,ez,okz',_,flz,mz⟩:=J.mf;have h2:=N9 V okz' okb flz flb λv hv r hr=>by obtain⟨w,hw,rfl⟩:=iA.mp hr;have:=J.least b hb h hkt w (by rw[ez];exact iY.mpr hw);rw[eb]at this;exact hv _ (iA.mpr ⟨w,iY.mp this,rfl⟩)
 lia
def tH(V:Vz d cs):∃y,FL d cs []=some y/\y.2=[]/\y.1=d/\Mf d cs y:=by
 obtain⟨y,e⟩:=LC V;have b:oV cs []:=⟨λ_ h=>absurd h fY,bL _⟩;have B:∀v,uo (d+1) (i6 cs []) v:=λv r hr=>by obtain⟨z,a,_⟩:=iA.mp hr;exact absurd a fY
 obtain⟨u,w,m,_⟩:=mY V b e;refine⟨y,e,?_,?_,FH V b e⟩
 .have:u=[]:=List.eq_nil_iff_forall_not_mem.mpr λk C=>by
   obtain⟨o,A⟩:=(m k).mp C;obtain⟨p,E,n⟩:=(V.hg.gc _ (kQ cs k o)).re;have:=A (λi=>if i=p then 1 else 0) (B _);unfold jC at this;have g:sm (d+1) (λj=>vc (cs.getD k []) j*if j=p then 1 else 0)=vc (cs.getD k []) p:=by rw[<-Ar (d+1) p (λj=>vc (cs.getD k []) j) (by lia)];exact iI _ _ _ λj _=>ee _ _
   rw[g]at this;exact n this
  rw[w,this];rfl
 .obtain⟨pv,D,f,p,l,z,rfl⟩:=lN V b e;have:pv=[]:=by
   cases pv with
   |nil=>rfl
   |cons q pv=>
    obtain⟨F,_,s,_,t⟩:=p.pl q bu;have:=jB (m:=d+1) (v:=λi=>if i=q.1 then 1 else 0) t λx ⟨r,hr,_⟩=>by obtain⟨z,a,_⟩:=iA.mp hr;exact absurd a fY
    unfold jC at this;have g:sm (d+1) (λj=>vc q.2 j*if j=q.1 then 1 else 0)=vc q.2 q.1:=by rw[<-Ar (d+1) q.1 (λj=>vc q.2 j) (by lia)];exact iI _ _ _ λj _=>ee _ _
    rw[g]at this;exact absurd this s
  unfold Mi;rw[this];simp
end
def um(a b:Ky):Bool:=a.2.all λk=>decide (k∈b.2)
def km{a b:Ky}:um a b=true↔Ie a b:=by unfold um Ie;simp
abbrev lH:=Ky×Int
def sD(D:List lH)(f:lH->Int):Int:=(D.map f).sum
def ko(x:lH)(D:List lH)(f:lH->Int):sD (x::D) f=f x+sD D f:=by simp[sD]
def uQ(A B:List lH)(f:lH->Int):sD (A++B) f=sD A f+sD B f:=by simp[sD]
def ng{D:List lH}{f:lH->Int}(h:∀x∈D,f x=0):sD D f=0:=by
 induction D with
 |nil=>rfl
 |cons x D ih=>rw[ko,h x bu,ih λy a=>h y (bx _ a)];rfl
def pC{D:List lH}{f g:lH->Int}(h:∀x∈D,f x=g x):sD D f=sD D g:=by unfold sD;rw[dS h]
def Ak(D:List lH)(f g:lH->Int):sD D (λx=>f x+g x)=sD D f+sD D g:=by
 induction D with
 |nil=>rfl
 |cons x D ih=>rw[ko,ko,ko,ih];lia
def IU(D:List lH)(s:Int)(f:lH->Int):sD D (λx=>s*f x)=s*sD D f:=by
 induction D with
 |nil=>simp[sD]
 |cons x D ih=>rw[ko,ko,ih,fu]
def P1{D:List lH}{f:lH->Int}(h:∀x∈D,f x<=0):sD D f<=0:=by
 induction D with
 |nil=>exact Int.le_refl _
 |cons x D ih=>rw[ko];have:=h x bu;have:=ih λy a=>h y (bx _ a);lia
def TU{D:List lH}{f:lH->Int}(h:∀x∈D,f x<=0){x:lH}(b:x∈D)(d:f x<0):sD D f<0:=by obtain⟨A,B,rfl⟩:=f9 b;rw[uQ,ko];have:=P1 (D:=A) (f:=f) λy a=>h y (by simp[a]);have:=P1 (D:=B) (f:=f) λy a=>h y (by simp[a]);lia
def sO{D:List lH}(nd:(D.map (·.1)).Nodup){t:lH}(d:t∈D){f:lH->Int}(h:∀x∈D,x.1≠t.1->f x=0):sD D f=f t:=by obtain⟨A,B,rfl⟩:=f9 d;rw[a9,bJ,eR]at nd;obtain⟨i,b,g⟩:=nd;rw[bO]at b;rw[uQ,ko,ng λx a=>h x (by simp[a]) λe=>g _ (aE.mpr ⟨x,a,rfl⟩) _ bu e,ng λx a=>h x (by simp[a]) λe=>b.1 (e▸aE.mpr ⟨x,a,rfl⟩)];lia
theorem Uj{D:List lH}(nd:(D.map (·.1)).Nodup)(P:Ky->Bool)(J:Ky->Option Ky):∀E:List lH,sD D (λw=>if P w.1 then sD E (λg=>if J g.1=some w.1 then g.2 else 0) else 0)=sD E (λg=>if (∃w∈D,J g.1=some w.1/\P w.1=true) then g.2 else 0)
 |[]=>ng λw _=>by simp[sD]
 |g::E=>by
  rw[ko,<-Uj nd P J E];have:sD D (λw=>if P w.1 then sD (g::E) (λg=>if J g.1=some w.1 then g.2 else 0) else 0)=sD D (λw=>(if P w.1=true/\J g.1=some w.1 then g.2 else 0)+(if P w.1 then sD E (λg=>if J g.1=some w.1 then g.2 else 0) else 0)):=pC λw _=>by rw[ko];cases P w.1<;>simp
  rw[this,Ak];congr 1;by_cases h:∃w∈D,J g.1=some w.1/\P w.1=true
  .rw[aR h];obtain⟨w,hw,a,b⟩:=h;rw[sO nd hw λx _ ne=>aS λq=>ne (by rw[a]at q;exact (Option.some.inj q.2).symm),aR ⟨b,a⟩]
  .rw[aS h];exact ng λw hw=>aS λq=>h ⟨w,hw,q.2,q.1⟩
section
variable {d:Nat}{cs:LL}
structure Du(d:Nat)(cs:LL)(D:List lH):Prop where
 mf:∀x∈D,Mf d cs x.1
 all:∀y,Mf d cs y->∃m,(y,m)∈D
 nd:(D.map (·.1)).Nodup
 first:∀t B,D=t::B->t.2=1
 next:∀A t B,D=A++t::B->A≠[]->t.2 = -sD A (λg=>if um g.1 t.1 then g.2 else 0)
 ord:D.Pairwise λx y=>y.1.1<=x.1.1
def Du.after(V:Vz d cs)(f:cs.length<=7){D:List lH}(M:Du d cs D){A B:List lH}{t:lH}(e:D=A++t::B):∀g∈B,¬Ie g.1 t.1:=λg b h=>by have nd:=M.nd;have a:=M.ord;rw[e,a9,bJ,eR,bO]at nd;rw[e]at a;have o:=(cX.mp (cV.mp a).2.1).1 g b;have ne:g.1≠t.1:=λq=>nd.2.1.1 (q▸aE.mpr ⟨g,b,rfl⟩);have:=n9 V f (M.mf g (by rw[e];simp[b])) (M.mf t (by rw[e];simp)) h ne;lia
def Du.head(V:Vz d cs)(f:cs.length<=7){D:List lH}(M:Du d cs D){t:lH}(g:t∈D)(b:t.1.2=[]):t.2=1:=by
 obtain⟨A,B,e⟩:=f9 g;cases A with
 |nil=>exact M.first t B e
 |cons h A=>exact absurd (λk a=>by rw[b]at a;cases a) (M.after V f (A:=[]) (t:=h) (B:=A++t::B) e t (by simp))
def Du.sum(V:Vz d cs)(f:cs.length<=7){D:List lH}(M:Du d cs D){t:lH}(p:t∈D)(j:t.1.2≠[]):sD D (λg=>if um g.1 t.1 then g.2 else 0)=0:=by
 obtain⟨A,B,e⟩:=f9 p;have l:A≠[]:=λz=>by
  subst z;obtain⟨y,_,h,_,o⟩:=tH V;obtain⟨m,i⟩:=M.all y o;rw[e]at i;rcases aG.mp i with q|q
  .rw[<-q]at j;exact j h
  .exact M.after V f (A:=[]) e (y,m) q λk b=>by have a:k∈y.2:=b;rw[h]at a;cases a
 have n:=M.next A t B e l;rw[e,uQ,ko,ng (D:=B) λg r=>aS λq=>M.after V f e g r (km.mp q)];rw[aR (km.mpr λk b=>b),n];lia
def Sj(d:Nat)(cs:LL)(D:List lH)(a:Nat)(t:Ky):Int:=sD D (λg=>if jn d cs g.1 a=some t then g.2 else 0)
theorem Fi(V:Vz d cs)(b:cs.length<=7){D:List lH}(M:Du d cs D){a:Nat}(f:a<cs.length):∀(N:Nat) (t:lH),t∈D->(a:Int)∈t.1.2->(d:Int)-t.1.1<N->Sj d cs D a t.1=0
 |0,t,ht,_,hN=>by obtain⟨v,_,ok,_,fl,_⟩:=M.mf t ht;have:=(qO V ok fl).2;lia
 |N+1,t,ht,hat,hN=>by
  have i:=M.mf t ht;have o:=Uj M.nd (λw=>decide ((a:Int)∈w.2)&&um w t.1) (λg=>jn d cs g a) D;have u:sD D (λg=>if (∃w∈D,jn d cs g.1 a=some w.1/\(decide ((a:Int)∈w.1.2)&&um w.1 t.1)=true) then g.2 else 0)=sD D (λg=>if um g.1 t.1 then g.2 else 0):=pC λg s=>by
   have j:=M.mf g s;by_cases h:Ie g.1 t.1
   .obtain⟨z,n⟩:=Dp V b j i h f hat;have J:=xH V b j f n;obtain⟨m,r⟩:=M.all z J.mf;rw[aR (km.mpr h),aR ⟨(z,m),r,n,by rw[bT];exact⟨aC J.kin,km.mpr (J.least t.1 i h hat)⟩⟩]
   .rw[aS λq=>h (km.mp q),aS];rintro⟨w,hw,e,q⟩;rw[bT]at q;exact h λk l=>km.mp q.2 k ((xH V b j f e).le k l)
  rw[u,M.sum V b ht (λz=>by rw[z]at hat;cases hat)]at o;have p:sD D (λw=>if (decide ((a:Int)∈w.1.2)&&um w.1 t.1) then Sj d cs D a w.1 else 0)=Sj d cs D a t.1:=by
   rw[sO M.nd ht λw hw ne=>?_]
   .rw[aR (by rw[bT];exact⟨aC hat,km.mpr λk l=>l⟩)]
   .by_cases q:(decide ((a:Int)∈w.1.2)&&um w.1 t.1)=true
    .rw[aR q];rw[bT]at q;have:=n9 V b (M.mf w hw) i (km.mp q.2) ne;exact Fi V b M f N w hw (of_decide_eq_true q.1) (by lia)
    .rw[aS q]
  rw[<-p];exact o
theorem PZ(V:Vz d cs)(f:cs.length<=7){t:Ky}(b:Mf d cs t){a:Nat}(r:a<cs.length)(h:(a:Int)∈t.2):∀(K:Nat) (g:Ky),Mf d cs g->Ie g t->(a:Int)∉g.2->g.1<K->∃s,Mf d cs s/\(a:Int)∉s.2/\jn d cs s a=some t
 |0,g,mg,_,_,hK=>by obtain⟨N,_,ok,_,fl,_⟩:=mg;have:=(qO V ok fl).1;lia
 |K+1,g,mg,hgt,hag,hK=>by
  obtain⟨z,w⟩:=Dp V f mg b hgt r h;have J:=xH V f mg r w;by_cases e:z=t
  .exact⟨g,mg,hag,by rw[w,e]⟩
  .have zt:=J.least t b hgt h;have u:∃k:Nat,k<cs.length/\(k:Int)∈t.2/\(k:Int)∉z.2:=by
    refine aP λA=>?_;obtain⟨E,v,o,_⟩:=id b;have C:Ie t z:=λk n=>by rw[v]at n;obtain⟨i,x,rfl⟩:=aE.mp n;exact aP λq=>A ⟨i,o.1 i x,by rw[v];exact iY.mpr x,q⟩
    have F:=n9 V f J.mf b zt e;have H:=n9 V f b J.mf C (Ne.symm e);lia
   obtain⟨k,n,l,m⟩:=u;obtain⟨y,B⟩:=Dp V f mg b hgt n l;have Y:=xH V f mg n B;have p:(k:Int)∉g.2:=λq=>m (J.le _ q);have I:=Y.one p;by_cases j:(a:Int)∈y.2
   .have D:=J.least y Y.mf Y.le j;have L:=J.one hag;have:z=y:=aP λne=>by have:=n9 V f J.mf Y.mf D ne;lia
    exact absurd (this▸Y.kin) m
   .exact PZ V f b r h K y Y.mf (Y.least t b hgt l) j (by lia)
def sg(d:Nat)(t:Ky):Int:=if ((d:Int)-t.1) % 2=0 then 1 else -1
theorem BP(V:Vz d cs)(h:cs.length<=7){D:List lH}(M:Du d cs D):∀(N:Nat) (t:lH),t∈D->(d:Int)-t.1.1<N->0<sg d t.1*t.2
 |0,t,ht,hN=>by obtain⟨ks,_,ok,_,fl,_⟩:=M.mf t ht;have:=(qO V ok fl).2;lia
 |N+1,t,ht,hN=>by
  have l:=M.mf t ht;obtain⟨U,e0,P,Z,S⟩:=tH V;obtain⟨H,I,v,_,o,_⟩:=id l;cases H with
  |nil=>rw[M.head V h ht I];rw[e0]at o;unfold sg;rw[<-Option.some.inj o,Z];simp
  |cons a H=>
   have m:a<cs.length:=v.1 a bu;have b:(a:Int)∈t.1.2:=by rw[I];simp
   have S0:=Fi V h M m (N+1) t ht b hN;have tt:jn d cs t.1 a=some t.1:=by obtain⟨z,K⟩:=Dp V h l l (λk r=>r) m b;rw[K,(xH V h l m K).same b]
   have neg:∀g∈D,g.1≠t.1->jn d cs g.1 a=some t.1->sg d t.1*g.2<0:=λg Q ne e=>by
    have J:=xH V h (M.mf g Q) m e;have C:(a:Int)∉g.1.2:=λq=>ne (J.same q).symm;have y:=J.one C;have ih:=BP V h M N g Q (by lia);have:sg d t.1 = -sg d g.1:=by
     unfold sg;rw[y];by_cases q:((d:Int)-g.1.1) % 2=0
     .rw[aR q,aS (by lia)]
     .rw[aS q,aR (by lia)];rfl
    rw[this,fB];lia
   obtain⟨F,s,j,R⟩:=PZ V h l m b (d+1) U S (λk r=>by rw[P]at r;cases r) (λq=>by rw[P]at q;cases q) (by lia);obtain⟨X,i⟩:=M.all F s;have p:F≠t.1:=λq=>j (q▸b);obtain⟨A,B,e⟩:=f9 ht;have nd:=M.nd;rw[e,a9,bJ,eR,bO]at nd;have n:∀x∈A++B,x∈D/\x.1≠t.1:=λx u=>by
    rcases ai.mp u with q|q
    .exact⟨by rw[e];simp[q],λz=>nd.2.2 _ (aE.mpr ⟨x,q,rfl⟩) _ bu z⟩
    .exact⟨by rw[e];simp[q],λz=>nd.2.1.1 (z▸aE.mpr ⟨x,q,rfl⟩)⟩
   have E:∀x∈A++B,sg d t.1*(if jn d cs x.1 a=some t.1 then x.2 else 0)<=0:=λx u=>by
    obtain⟨y,Y⟩:=n x u;split
    .rename_i q;exact Int.le_of_lt (neg x y Y q)
    .simp
   have f:(F,X)∈A++B:=by
    rw[e]at i;rcases ai.mp i with q|q
    .exact ay _ q
    .rcases aG.mp q with w|w
     .exact absurd (congrArg Prod.fst w) p
     .exact bF _ w
   have lt:=TU E f (by rw[aR R];exact neg _ (n _ f).1 p R);have L:sg d t.1*Sj d cs D a t.1=0:=by rw[S0];simp
   unfold Sj at L;rw[<-IU,e,uQ,ko,aR tt]at L;rw[uQ]at lt;lia
end
def Sm i (a:LI):G7 false (.int i) (.tup (a.map T.int))=.ok (.bl (decide (i∈a))):=by
 have f:(a.map T.int).all lF=true:=cH.mpr λx b=>by obtain⟨y,-,rfl⟩:=aE.mp b;rfl
 have g:vy (.int i) (a.map T.int)=decide (i∈a):=by
  unfold vy;rw[cF,Bool.eq_iff_iff,fN,decide_eq_true_iff];constructor
  .rintro⟨x,b,e⟩;have d:Dt (T.int x) (T.int i)=true:=e;rw[NQ]at d;rw[<-eq_of_beq d];exact b
  .intro h;exact⟨i,h,by show Dt (T.int i) (T.int i)=true;simp⟩
 unfold G7;dsimp only;rw[f,g];rfl
def Mx(g t:Ky):xr [.lst (g.2.map λk=>T.bl (decide (k∈t.2)))]=.ok (.bl (um g t)):=by have:=rj (g.2.map λk=>decide (k∈t.2));rw[aJ,cE]at this;exact this
def M8(t g:Ky)(a:g.2.length<1000):nt c [m8 t,m8 g]=.ok (.bl (um g t)):=by
 have sz:1000<sizeLine:=by decide
 exact iU rfl (iE (qq (ts:=g.2.map λk=>T.bl (decide (k∈t.2))) (jX g.2 T.int (λk=>T.bl (decide (k∈t.2))) rfl (by lia) (λk _=>⟨_,rfl,rfl,gZ rfl rfl (Sm k t.2)⟩) rfl) (Mx g t)))
def nG(D:List lH)(t:Ky):List lH:=D++[(t,-sD D (λg=>if um g.1 t then g.2 else 0))]
def qk:List Ky->List lH
 |[]=>[]
 |t::r=>r.foldl nG [(t,1)]
theorem uX:∀(r:List Ky) (D:List lH),(r.foldl nG D).map (·.1)=D.map (·.1)++r
 |[],D=>by simp
 |t::r,D=>by rw[b9,uX r];simp[nG]
def oN(Z:List Ky):(qk Z).map (·.1)=Z:=by
 cases Z with
 |nil=>rfl
 |cons t r=>unfold qk;rw[uX];rfl
def Iv(D:List lH):Prop:=(∀t B,D=t::B->t.2=1)/\∀A t B,D=A++t::B->A≠[]->t.2 = -sD A (λg=>if um g.1 t.1 then g.2 else 0)
def HC{D:List lH}(h:Iv D)(j:D≠[])(t:Ky):Iv (nG D t):=by
 unfold nG;refine⟨λu B e=>?_,λA u B e f=>?_⟩
 .cases D with
  |nil=>exact absurd rfl j
  |cons x D=>rw[eQ]at e;rw[<-(List.cons.inj e).1];exact h.1 x D rfl
 .rcases fP B with rfl|⟨d,b,rfl⟩
  .have a:=List.append_inj' e rfl;have i:(t,-sD D (λg=>if um g.1 t then g.2 else 0))=u:=(List.cons.inj a.2).1;rw[<-i,<-a.1]
  .have a:D++[(t,-sD D (λg=>if um g.1 t then g.2 else 0))]=(A++u::d)++[b]:=by rw[e];simp
   exact h.2 A u d (List.append_inj' a rfl).1 f
theorem zU:∀(r:List Ky) (D:List lH),Iv D->D≠[]->Iv (r.foldl nG D)
 |[],_,h,_=>h
 |t::r,D,h,hD=>zU r _ (HC h hD t) (by simp[nG])
def B6(Z:List Ky):Iv (qk Z):=by
 cases Z with
 |nil=>exact⟨λt B e=>(nomatch e),λA t B e _=>by simp[qk]at e⟩
 |cons t r=>
  refine zU r _ ⟨λu B e=>?_,λA u B e a=>?_⟩ (by simp)
  .rw[<-(List.cons.inj e).1]
  .cases A with
   |nil=>exact absurd rfl a
   |cons x A=>have:=congrArg List.length e;simp at this
def DJ(D:List lH)(p:lH->Bool):((D.filter p).map (·.2)).sum=sD D (λg=>if p g then g.2 else 0):=by
 induction D with
 |nil=>rfl
 |cons x D ih=>rw[ko,<-ih,gh];cases p x<;>simp
theorem BA:∀(D:List lH) (R:List Ky),tj ((D.map (·.1)++R).map m8) (D.map λx=>T.int x.2)=D.map λx=>T.tup [m8 x.1,.int x.2]
 |[],R=>by simp[tj]
 |x::D,R=>by have:=BA D R;unfold tj at this ⊢;simp only[bJ,eQ,cR];rw[this]
def wR(l:LI):Ew (l.map T.int)=true:=by
 induction l with
 |nil=>rfl
 |cons x l ih=>simp only[bJ,Ew,lf,ih];rfl
def Sa{f:Int->T}{a:Pe->M T}{ρ:Pe}{i:Int}(h:a ρ=.ok (.int i)):xV f a ρ=.ok (f i):=by unfold xV;rw[h];rfl
def Ds(D:List lH):List T:=D.map λx=>T.int x.2
def Kn(D:List lH)(t:Ky):Ds (nG D t)=Ds D++[.int (-((D.filter λx=>um x.1 t).map (·.2)).sum)]:=by unfold Ds nG;rw[DJ];simp
def FB(a:Ky)(r:List Ky)(hr:r.length<100)(v:∀g∈a::r,g.2.length<1000):iL c [.lst ((a::r).map m8)]=.ok (Ds (qk (a::r))):=by
 have sz:1000<sizeLine:=by decide
 let R (D:List lH) (f b:Option W):En:=[some (.p (.lst ((a::r).map m8))),some (.o (Ds D)),f,b];obtain⟨h,e,f,b,rfl⟩:=ly (m:=ot 2) (g:=mZ c) m8 (λk h=>∃f b,h=R ((r.take k).foldl nG [(a,1)]) f b) r 0 (R [(a,1)] none none) ⟨none,none,rfl⟩ (by
  rintro i t h y ⟨f,b,rfl⟩;rw[aH]at *;let D:=(r.take i).foldl nG [(a,1)];have l:D.map (·.1)=a::r.take i:=by show ((r.take i).foldl nG [(a,1)]).map (·.1)=_;rw[uX];rfl
  have z:D.length<=r.length+1:=by have:=congrArg List.length l;rw[ax,az,bQ]at this;lia
  have j:(a::r)=D.map (·.1)++r.drop i:=by rw[l,eQ,dF]
  have n:n0 (gQ (gR 0) (gQ (gR 1) gW)) (vw (R D (some (.p (m8 t))) b))=.ok (D.map λx=>T.tup [m8 x.1,.int x.2]):=by have w:n0 (gQ (gR 0) (gQ (gR 1) gW)) (vw (R D (some (.p (m8 t))) b))=.ok (tj ((a::r).map m8) (Ds D)):=rfl;rw[w];congr 1;rw[j];exact BA D _
  have q:lB [none,none,some 2] (n0 (gQ (gR 0) (gQ (gR 1) gW))) (oT 2 (je (ku 0) (je (ku 1) oR))) (jl (hZ (gQ (gR 2) (gQ (gR 0) gW)) (nt c))) (m4 c) (vw (R D (some (.p (m8 t))) b))=.ok (((D.filter λx=>um x.1 t).map (·.2)).map T.int):=sH D (λx=>T.tup [m8 x.1,.int x.2]) (λx=>T.int x.2) (λx=>um x.1 t) n (by lia) (λx u=>⟨[some (m8 x.1),some (.int x.2),some (m8 t)],rfl,iN (lE rfl rfl (M8 t x.1 (v _ (by rw[j];exact ay _ (aE.mpr ⟨x,u,rfl⟩))))),λ_=>rfl⟩) (by rw[aJ];rfl)
  have s:(r.take (i+1)).foldl nG [(a,1)]=nG D t:=by rw[c6,y];simp[D]
  refine⟨_,_,rfl,.inl (gY (Fk q (wR _) rfl) (sr (us:=Ds D) (t:=.int (-((D.filter λx=>um x.1 t).map (·.2)).sum)) rfl ?_ (by unfold Ds;rw[ax];lia) rfl)),some (.p (m8 t)),some (.p (.lst (((D.filter λx=>um x.1 t).map (·.2)).map T.int))),?_⟩
  .exact Sa (lY rfl (xG _))
  .rw[s];show _=[_,some (W.o (Ds (nG D t))),_,_];rw[Kn];rfl)
 rw[aH,fE]at e;refine AJ rfl (gY (ρ':=R [(a,1)] none none) (nC rfl rfl) (gY (mw (its:=r.map m8) ?_ e) rfl));rw[wu (uy (ts:=(a::r).map m8) (d:=1) rfl rfl)];rfl
section
variable {d:Nat}{cs:LL}
def Ot{a b:Ky}(h:yS a b=true):b.1<=a.1:=by
 unfold yS wV ky at h;by_cases e:a.1=b.1
 .lia
 .rw[aS (by simp;lia)]at h;simp at h;lia
def IJ{Z:List Ky}{x:lH}(h:x∈qk Z):x.1∈Z:=by rw[<-oN Z];exact aE.mpr ⟨x,h,rfl⟩
def Ey(V:Vz d cs)(t:cs.length<=7){l:List Ky}(j:yw d cs cs.length l):Du d cs (qk (jv l)):=by
 have i:(jv l).Perm l:=eO l yS;refine⟨λx f=>?_,λy s=>?_,?_,(B6 _).1,(B6 _).2,?_⟩
 .obtain⟨p,e⟩:=(j.2 x.1).mp (i.mem_iff.mp (IJ f));exact FH V (mH (by lia) (aL _) p) e
 .obtain⟨n,_,ok,_,q,_⟩:=s;have:y∈(qk (jv l)).map (·.1):=by
   rw[oN];refine i.mem_iff.mpr ((j.2 y).mpr ⟨λk=>decide (k∈n),?_⟩);rw[<-q];refine pS V (mH (by lia) (aL _) _) ok λv=>?_;have m:∀z,z∈j5 cs.length (λk=>decide (k∈n))↔z∈n:=λz=>by unfold j5;rw[aV,aT,decide_eq_true_iff];exact⟨λh=>h.2,λh=>⟨ok.1 z h,h⟩⟩
   unfold uo;constructor
   .intro h r hr;obtain⟨z,g,e⟩:=iA.mp hr;exact h r (iA.mpr ⟨z,(m z).mpr g,e⟩)
   .intro h r hr;obtain⟨z,g,e⟩:=iA.mp hr;exact h r (iA.mpr ⟨z,(m z).mp g,e⟩)
  obtain⟨x,f,e⟩:=aE.mp this;exact⟨x.2,by rw[<-e];exact f⟩
 .rw[oN];exact i.symm.nodup j.1
 .have h:=eP Lm Fp l;have o:(jv l).Pairwise λa b=>b.1<=a.1:=h.imp Ot;rw[<-oN (jv l),dQ]at o;exact o
def IP(D:List lH):tj ((D.map (·.1)).map m8) (Ds D)=D.map λx=>T.tup [m8 x.1,.int x.2]:=by have:=BA D [];rw[bM]at this;exact this
end
def Cv{d:Nat}{a:LL}(V:Vz d a)(m:a.length<=7):∃l,yw d a a.length l/\jz c [m6 c d a]=.ok (Ds (qk (jv l))):=by
 obtain⟨l,h,n⟩:=De (c:=c) V m;have i:(jv l).Perm l:=eO l yS;have b:∀g∈jv l,g.2.length<1000:=λg s=>by obtain⟨p,e⟩:=(h.2 g).mp (i.mem_iff.mp s);obtain⟨v,o,_,u,_⟩:=mY V (mH (by lia) (aL _) p) e;rw[o,ax];lia
 have f:(jv l).length<=64:=by rw[i.length_eq];exact vM V m h
 obtain⟨y,q,_⟩:=tH V;have k:y∈jv l:=i.mem_iff.mpr ((h.2 y).mpr ⟨λ_=>false,by
  have:j5 a.length (λ_=>false)=[]:=gq.mpr λ_ _=>by simp
  rw[this];exact q⟩)
 cases j:jv l with
 |nil=>rw[j]at k;cases k
 |cons t r=>rw[j]at b f n;rw[az]at f;refine⟨l,h,?_⟩;rw[j];exact AJ rfl (Az (sS (jo (sS rfl n)) (FB t r (by lia) b)))
def iR{a:Type}:List a->(List a->Int)->Int
 |[],f=>f []
 |x::l,f=>iR l f+iR l λB=>f (x::B)
section
variable {α:Type}
theorem iP:∀{l:List α} {f g:List α->Int},(∀B,B.Sublist l->f B=g B)->iR l f=iR l g
 |[],f,g,h=>h [] (List.Sublist.refl _)
 |x::l,f,g,h=>by unfold iR;rw[iP λB a=>h B (a.cons x),iP (f:=λB=>f (x::B)) (g:=λB=>g (x::B)) λB a=>h (x::B) (a.cons₂ x)]
theorem lW:∀(l:List α),iR l (λ_=>0)=0
 |[]=>rfl
 |x::l=>by unfold iR;rw[lW l];rfl
theorem l7(s:Int):∀(l:List α) (f:List α->Int),iR l (λB=>s*f B)=s*iR l f
 |[],f=>rfl
 |x::l,f=>by unfold iR;rw[l7 s l f,l7 s l λB=>f (x::B),fu]
def nr(B:List α):Int:=if B.length % 2=0 then 1 else -1
def oM(x:α)(B:List α):nr (x::B) = -nr B:=by
 unfold nr;rw[az];by_cases h:B.length % 2=0
 .rw[aR h,aS (by lia)]
 .rw[aS h,aR (by lia)];rfl
theorem Gj{P:α->Bool}:∀{l:List α},(∃x∈l,P x=true)->iR l (λB=>if B.all P then nr B else 0)=0
 |[],⟨_,h,_⟩=>(nomatch h)
 |y::l,⟨x,hx,px⟩=>by
  unfold iR;by_cases a:P y=true
  .have:iR l (λB=>if (y::B).all P then nr (y::B) else 0)=iR l (λB=>(-1)*(if B.all P then nr B else 0)):=iP λB _=>by rw[bV,a,Bool.true_and,oM];split<;>lia
   rw[this,l7];lia
  .have:iR l (λB=>if (y::B).all P then nr (y::B) else 0)=0:=(iP λB _=>aS (by rw[bV];simp[a])).trans (lW l);rw[this];rcases aG.mp hx with q|q
   .subst q;exact absurd px a
   .rw[Gj ⟨x,q,px⟩];rfl
theorem ue(D:List lH):∀(l:List α) (F:lH->List α->Int),sD D (λg=>iR l (F g))=iR l (λB=>sD D λg=>F g B)
 |[],F=>rfl
 |x::l,F=>by unfold iR;rw[Ak,ue D l F,ue D l λg B=>F g (x::B)]
end
section
variable {d:Nat}{cs:LL}
def vN(e:cs.length<=7){B:List Nat}(a:B.Sublist (List.range cs.length)):oV cs B:=⟨λz b=>aT.mp (a.subset b),by have:=a.length_le;rw[dP]at this;lia⟩
def HE(d:Nat)(cs:LL)(X:Ky):Int:=iR (List.range cs.length) λB=>if FL d cs B=some X then nr B else 0
def FY{zs a:List Nat}{v:Vc}(h:∀z∈zs,z∈a)(b:uo (d+1) (i6 cs a) v):uo (d+1) (i6 cs zs) v:=λr hr=>by obtain⟨z,f,e⟩:=iA.mp hr;exact b r (iA.mpr ⟨z,h z f,e⟩)
def Hk(V:Vz d cs)(t:cs.length<=7){X:Ky}(w:Mf d cs X){B:List Nat}(q:B.Sublist (List.range cs.length)):(∃g,FL d cs B=some g/\Ie g X)↔B.all (λz=>decide ((z:Int)∈X.2))=true:=by
 obtain⟨x,o,ok,_,n,r⟩:=w;have a:=vN t q;rw[cH];constructor
 .rintro⟨g,e,u⟩ z i;obtain⟨s,l,m,_⟩:=mY V a e;refine aC (u _ ?_);rw[l];exact iY.mpr ((m z).mpr ⟨a.1 z i,λv b=>b _ (iA.mpr ⟨z,i,rfl⟩)⟩)
 .intro h;have sub:∀z∈B,z∈x:=λz i=>by have:=of_decide_eq_true (h z i);rw[o]at this;exact iY.mp this
  cases e:FL d cs B with
  |none=>rw[BZ V a ok (λv b=>FY sub b) e]at n;cases n
  |some g=>refine⟨g,rfl,λk p=>?_⟩;obtain⟨s,l,m,_⟩:=mY V a e;rw[l]at p;obtain⟨j,f,rfl⟩:=aE.mp p;rw[o];refine iY.mpr ((r j).mpr ⟨((m j).mp f).1,λv b=>((m j).mp f).2 v (FY sub b)⟩)
def Du.at_{D:List lH}(M:Du d cs D)(V:Vz d cs)(b:cs.length<=7){B:List Nat}(a:B.Sublist (List.range cs.length)){g:Ky}(e:FL d cs B=some g):∃m,(g,m)∈D:=M.all g (FH V (vN b a) e)
def Ka(V:Vz d cs)(h:cs.length<=7){D:List lH}(M:Du d cs D){X:Ky}(i:Mf d cs X):sD D (λg=>if um g.1 X then HE d cs g.1 else 0)=iR (List.range cs.length) (λB=>if B.all (λz=>decide ((z:Int)∈X.2)) then nr B else 0):=by
 have k:sD D (λg=>if um g.1 X then HE d cs g.1 else 0)=sD D (λg=>iR (List.range cs.length) λB=>if um g.1 X then (if FL d cs B=some g.1 then nr B else 0) else 0):=pC λg _=>by
  unfold HE;cases um g.1 X
  .simp only[cu,if_false];exact (lW _).symm
  .rfl
 rw[k,ue];refine iP λB f=>?_;have b:=Hk V h i f;cases e:FL d cs B with
 |none=>rw[aS (λz=>by obtain⟨g,q,_⟩:=b.mpr z;rw[e]at q;cases q)];exact ng λg _=>by simp
 |some g=>
  obtain⟨m,j⟩:=M.at_ V h f e;rw[sO M.nd j λx _ ne=>by rw[aS (show ¬some g=some x.1 from λz=>ne (Option.some.inj z).symm)];simp]
  dsimp only;rw[aR rfl];by_cases a:um g X=true
  .rw[aR a,aR (b.mp ⟨g,e,km.mp a⟩)]
  .rw[aS a,aS (λz=>a (by obtain⟨n,q,l⟩:=b.mpr z;rw[e]at q;rw[Option.some.inj q];exact km.mpr l))]
theorem Am(V:Vz d cs)(b:cs.length<=7){D:List lH}(M:Du d cs D):∀(N:Nat) (t:lH),t∈D->(d:Int)-t.1.1<N->t.2=HE d cs t.1
 |0,t,ht,hN=>by obtain⟨p,_,ok,_,fl,_⟩:=M.mf t ht;have:=(qO V ok fl).2;lia
 |N+1,t,ht,hN=>by
  have i:=M.mf t ht;have m:=Ka V b M i;by_cases f:t.1.2=[]
  .have one:iR (List.range cs.length) (λB=>if B.all (λz=>decide ((z:Int)∈t.1.2)) then nr B else 0)=1:=by
    rw[f];generalize List.range cs.length=l;induction l with
    |nil=>rfl
    |cons x l ih=>unfold iR;rw[ih];have:iR l (λB=>if (x::B).all (λz=>decide ((z:Int)∈([]:LI))) then nr (x::B) else 0)=0:=(iP λB _=>aS (by simp)).trans (lW l);rw[this];rfl
   rw[one]at m;rw[M.head V b ht f,<-m];rw[sO M.nd ht λx h ne=>aS λz=>by
    have o:=km.mp z;have:x.1≠t.1:=ne;have:=n9 V b (M.mf x h) i o this;have w:x.1.2=[]:=by
     cases e:x.1.2 with
     |nil=>rfl
     |cons k r=>have:=o k (by rw[e];simp);rw[f]at this;cases this
    have v:=n9 V b i (M.mf x h) (λk a=>by rw[f]at a;cases a) (Ne.symm ne);lia]
   rw[aR (km.mpr λk a=>a)]
  .have u:=M.sum V b ht f;have s:iR (List.range cs.length) (λB=>if B.all (λz=>decide ((z:Int)∈t.1.2)) then nr B else 0)=0:=by
    obtain⟨p,q,ok,_,_,_⟩:=i;cases p with
    |nil=>rw[q]at f;exact absurd rfl f
    |cons k r=>refine Gj ⟨k,aT.mpr (ok.1 k (by simp)),aC ?_⟩;rw[q];exact iY.mpr (by simp)
   rw[s]at m;have n:sD D (λg=>(if um g.1 t.1 then g.2 else 0)+(-1)*(if um g.1 t.1 then HE d cs g.1 else 0))=0:=by rw[Ak,IU,u,m];rfl
   rw[sO M.nd ht λx h ne=>by
    by_cases j:um x.1 t.1=true
    .have:=n9 V b (M.mf x h) i (km.mp j) ne;rw[aR j,aR j,Am V b M N x h (by lia)];lia
    .rw[aS j,aS j];rfl]at n
   rw[aR (km.mpr λk a=>a),aR (km.mpr λk a=>a)]at n;lia
end
def MV{f:Pe->M (List T)}{ρ:Pe}{ts:List T}(h:jy f ρ=.ok (.lst ts)):f ρ=.ok ts:=by
 unfold jy at h;cases e:f ρ with
 |bad=>rw[e]at h;cases h
 |er C n=>rw[e]at h;cases h
 |ok us=>rw[e]at h;cases h;rfl
section
variable {d:Nat}{cs:LL}
def SU(d:Nat)(cs:LL)(m:Int):Int:=iR (List.range cs.length) λB=>if (FL d cs B).map (·.1)=some m then nr B else 0
def KS(V:Vz d cs)(a:cs.length<=7){D:List lH}(M:Du d cs D)(m:Int):sD D (λg=>if g.1.1=m then g.2 else 0)=SU d cs m:=by
 have j:sD D (λg=>if g.1.1=m then g.2 else 0)=sD D (λg=>iR (List.range cs.length) λB=>if g.1.1=m then (if FL d cs B=some g.1 then nr B else 0) else 0):=pC λg i=>by
  have w:=Am V a M (((d:Int)-g.1.1).toNat+1) g i (by lia);by_cases h:g.1.1=m
  .simp only[aR h];rw[w];rfl
  .simp only[aS h];exact (lW _).symm
 rw[j,ue];unfold SU;refine iP λB b=>?_;cases e:FL d cs B with
 |none=>exact ng λg _=>by simp
 |some g=>
  obtain⟨n,f⟩:=M.at_ V a b e;rw[sO M.nd f λx _ ne=>by rw[aS (show ¬some g=some x.1 from λz=>ne (Option.some.inj z).symm)];simp]
  dsimp only;rw[aR rfl];simp
def CH(V:Vz d cs)(w:cs.length<=7):mB c [m6 c d cs]=.ok ((List.range (d+1)).map λ(m:Nat)=>T.int (SU d cs (m:Int))):=by
 have sz:1000<sizeLine:=by decide
 have hd:=V.hd;obtain⟨l,B,e1⟩:=De (c:=c) V w;have F:(jv l).Perm l:=eO l yS;have n:∀g∈jv l,g.2.length<1000:=λg hg=>by obtain⟨p,e⟩:=(B.2 g).mp (F.mem_iff.mp hg);obtain⟨ks,P,_,hl,_⟩:=mY V (mH (by lia) (aL _) p) e;rw[P,ax];lia
 have s:(jv l).length<=64:=by rw[F.length_eq];exact vM V w B
 have M:=Ey V w B;obtain⟨y,Q,_⟩:=tH V;have K:y∈jv l:=F.mem_iff.mpr ((B.2 y).mpr ⟨λ_=>false,by
  have:j5 cs.length (λ_=>false)=[]:=gq.mpr λ_ _=>by simp
  rw[this];exact Q⟩)
 have e2:iL c [.lst ((jv l).map m8)]=.ok (Ds (qk (jv l))):=by
  cases L:jv l with
  |nil=>rw[L]at K;cases K
  |cons t r=>rw[L]at n s;rw[az]at s;exact FB t r (by lia) n
 let D:=qk (jv l);have Y:D.map (·.1)=jv l:=oN _;have u:∀x∈D,0<=x.1.1/\x.1.1<=(d:Int):=λx S=>by obtain⟨ks,_,ok,_,X,_⟩:=M.mf x S;exact qO V ok X
 let a (A:List lH):List T:=(List.range (d+1)).map λ(m:Nat)=>T.int (sD A λg=>if g.1.1=(m:Int) then g.2 else 0);let R (A:List lH) (b f:Option W):En:=[some (.p (m6 c d cs)),some (.o (a A)),some (.p (.lst ((jv l).map m8))),b,f];obtain⟨E,e,b,f,rfl⟩:=ly (m:=qL 2 (kc (ot 3) (kc (ot 4) qs))) (g:=vi c) (λ(x:lH)=>T.tup [m8 x.1,.int x.2]) (λk E=>∃b f,E=R (D.take k) b f) D 0 (R [] none none) ⟨none,none,rfl⟩ (by
  rintro i x E N ⟨b,f,rfl⟩;rw[aH]at *;obtain⟨b1,b2⟩:=u x (au N);obtain⟨m,hm⟩:∃m:Nat,x.1.1=(m:Int):=⟨x.1.1.toNat,by lia⟩;have h:m<d+1:=by lia
  let v:Int:=sD (D.take i) λg=>if g.1.1=(m:Int) then g.2 else 0
  have ix:jD (.lst (a (D.take i))) (.int x.1.1)=.ok (.int v):=by rw[hm];have:qx (a (D.take i)) (m:Int)=some (.int v):=rD (by simp[a,h];rfl);simp only[jD,this]
  refine⟨R (D.take i) (some (.p (m8 x.1))) (some (.p (.int x.2))),R (D.take (i+1)) (some (.p (m8 x.1))) (some (.p (.int x.2))),rfl,.inl (DI (us:=a (D.take i)) (t:=.int (v+x.2)) (j:=x.1.1) (m:=m) rfl (gZ (gZ rfl rfl ix) rfl rfl) rfl rfl (by rw[hm];exact AQ _ m (by simp[a];exact h)) ?_),_,_,rfl⟩;show R _ _ _=[_,some (.o ((a (D.take i)).set m (.int (v+x.2)))),_,_,_];have:a (D.take (i+1))=(a (D.take i)).set m (.int (v+x.2)):=by
   refine cJ (by simp[a]) λq U Z=>?_;rw[List.getElem_set];simp only[a,fF,gw];rw[jP D i x N,uQ];have H:sD [x] (λg=>if g.1.1=(q:Int) then g.2 else 0)=if x.1.1=(q:Int) then x.2 else 0:=by rw[ko];simp[sD]
   rw[H];by_cases J:m=q
   .rw[aR J,aR (by lia),<-J]
   .rw[aS J,aS (by lia),fg]
  simp only[R];rw[this])
 rw[aH,fE]at e;have z:n0 (gQ (gR 2) (gQ (jy (kL (gQ (gR 2) gW) (iL c))) gW)) (kP (R [] none none))=.ok (D.map λx=>T.tup [m8 x.1,.int x.2]):=by rw[<-IP,Y];have:jy (kL (gQ (gR 2) gW) (iL c)) (kP (R [] none none))=.ok (.lst (Ds D)):=jo (sS rfl e2);simp only[n0,gQ,gW,this,L3.M.bind_ok];rfl
 have H:a D=(List.range (d+1)).map λ(m:Nat)=>T.int (SU d cs (m:Int)):=dS λm _=>by rw[KS V w M]
 rw[<-H];have C:(List.replicate (d+1) (0:Int)).map T.int=a []:=by refine cJ (by simp[a]) λq U Z=>?_;simp[a,sD]
 refine AJ rfl (gY (ρ':=[some (.p (m6 c d cs)),some (.o (a [])),none,none,none]) (nC ?_ rfl) (gY (ρ':=R [] none none) (iw (jo (sS rfl e1)) rfl) (gY (mw z e) rfl)));rw[<-C];have I:ig jw (qP c.Cutting "dims" (gR 0) gW (iH c)) (cM (.int 1)) (kP (iW 5 [m6 c d cs]))=.ok (.int ((d+1:Nat):Int)):=gZ (vI d cs rfl) rfl (by rw[jj];simp);have:=PR (d+1) (by lia) I;exact MV this
end
def Hw{m k:Nat}{f:Nat->Int}(a:k<m)(h:∀i,i≠k->f i=0):sm m f=f k:=by obtain⟨e,rfl⟩:∃e,m=e+1:=⟨m-1,by lia⟩;rw[PH e k f (by lia)];have:sm e (λi=>f (sk k i))=0:=(iI _ _ (λ_=>0) λi _=>h _ (by unfold sk;split<;>lia)).trans (kl e);lia
def vC(m:Nat)(a:List Vc)(v:Vc):Prop:=∀r∈a,jC m r v=0
structure Jo(m:Nat)(os:List (Nat×Vc)):Prop where
 lt:∀p∈os,p.1<m/\p.2 p.1≠0
 tri:os.Pairwise λp q=>q.2 p.1=0
theorem Qh{m:Nat}{v:Vc}:∀(n:Nat) (os:List (Nat×Vc)),os.length=n->Jo m os->(∀p∈os,jC m p.2 v=0)->(∀i,i∉os.map Prod.fst->v i=0)->∀p∈os,v p.1=0
 |0,os,hn,_,_,_=>λp a=>by have:os=[]:=fO.mp hn;subst this;cases a
 |n+1,os,hn,T,ha,out=>by
  rcases fP os with rfl|⟨b,q,k⟩
  .cases hn
  .rw[fQ]at k;subst k;have g:=cV.mp T.tri;have l:=T.lt q (by simp);have j:v q.1=0:=by
    have e:=ha q (by simp);unfold jC at e;rw[Hw l.1 λi f=>by
     by_cases h:i∈b.map Prod.fst
     .obtain⟨p,a,rfl⟩:=aE.mp h;rw[g.2.2 p a q (by simp),eY]
     .rw[out i (by simp only[a9,bJ,cm,ai,aj];exact λz=>z.elim h f),fv]]at e
    rcases fw.mp e with z|z
    .exact absurd z l.2
    .exact z
   have o:=Qh n b (by simpa using hn) ⟨λp a=>T.lt p (by simp[a]),g.1⟩ (λp a=>ha p (by simp[a])) λi f=>by
    by_cases d:i=q.1
    .rw[d];exact j
    .exact out i (by simp only[a9,bJ,cm,ai,aj];exact λz=>z.elim f d)
   intro p a;rcases ai.mp a with z|z
   .exact o p z
   .rw[aj.mp z];exact j
def HU{m:Nat}{os:List (Nat×Vc)}(T:Jo m os)(b:List Vc)(i:∀v:Vc,(∀A∈b,jC m A v=0)->∀p∈os,jC m p.2 v=0):os.length<=b.length:=by
 refine cn λf=>?_;have nd:(os.map Prod.fst).Nodup:=by rw[List.Nodup,dQ];exact T.tri.imp_of_mem λ{p q} _ hq e z=>(T.lt q hq).2 (by rw[<-z];exact e)
 obtain⟨v,⟨j,g⟩,out,h⟩:=oO m b (os.map Prod.fst) nd (λt k=>by obtain⟨p,a,rfl⟩:=aE.mp k;exact (T.lt p a).1) (by rw[ax];exact f)
 have z:=Qh os.length os rfl T (i v h) out;have d:j∈os.map Prod.fst:=aP λz=>g (out j z);obtain⟨p,a,rfl⟩:=aE.mp d;exact g (z p a)
def AB(m:Nat)(b:List Vc)(r:Nat):Prop:=∃a,Jo m a/\a.length=r/\∀v,vC m b v↔∀p∈a,jC m p.2 v=0
def AB.uniq{m:Nat}{i d:List Vc}{r k:Nat}(h:AB m i r)(h':AB m d k)(e:∀v,vC m i v↔vC m d v):r=k:=by
 obtain⟨g,T,rfl,a⟩:=h;obtain⟨b,o,rfl,j⟩:=h';have l:∀{g b:List (Nat×Vc)},Jo m g->(∀v,(∀p∈b,jC m p.2 v=0)->∀p∈g,jC m p.2 v=0)->g.length<=b.length:=λ{g b} T h=>by have:=HU T (b.map Prod.snd) λv f=>h v λp n=>f _ (aE.mpr ⟨p,n,rfl⟩);rwa [ax]at this
 exact fR (l T λv f=>(a v).mp ((e v).mpr ((j v).mpr f))) (l o λv f=>(j v).mp ((e v).mp ((a v).mpr f)))
def sA(u:Vc)(p:Nat)(r:Vc):Vc:=λi=>u p*r (sk p i)-r p*u (sk p i)
section
variable {d p:Nat}{u:Vc}
def BB(a:p<=d)(x v:Vc):jC (d+1) x v=jC d (λi=>x (sk p i)) (λi=>v (sk p i))+x p*v p:=by unfold jC;rw[PH d p _ a]
def Ju(a:p<=d)(r v:Vc):jC d (sA u p r) (λi=>v (sk p i))=u p*jC (d+1) r v-r p*jC (d+1) u v:=by
 rw[BB a r v,BB a u v];have:jC d (sA u p r) (λi=>v (sk p i))=u p*jC d (λi=>r (sk p i)) (λi=>v (sk p i))+(-(r p))*jC d (λi=>u (sk p i)) (λi=>v (sk p i)):=by unfold jC;rw[<-DL];exact iI _ _ _ λi _=>by unfold sA;grind
 rw[this];grind
def Bq(e:p<=d)(g:u p≠0)(B:List Vc)(v:Vc):vC (d+1) (u::B) v↔jC (d+1) u v=0/\vC d (B.map (sA u p)) (λi=>v (sk p i)):=by
 constructor
 .intro h;have a:=h u (by simp);refine⟨a,λr hr=>?_⟩;obtain⟨f,b,rfl⟩:=aE.mp hr;rw[Ju e,a,h f (by simp[b])];lia
 .rintro⟨a,h⟩ r hr;rcases aG.mp hr with rfl|hr
  .exact a
  .have:=h _ (aE.mpr ⟨r,hr,rfl⟩);rw[Ju e,a,fv,Int.sub_zero]at this;rcases fw.mp this with z|z
   .exact absurd z g
   .exact z
def K7(p:Nat)(x:Vc):Vc:=λi=>if i=p then 0 else x (if i<p then i else i-1)
def An(x:Vc)(i:Nat):K7 p x (sk p i)=x i:=by
 unfold K7 sk;by_cases h:i<p
 .rw[aR h,aS (by lia),aR h]
 .rw[aS h,aS (by lia),aS (by lia)];rfl
def PU(x:Vc):K7 p x p=0:=aR rfl
def Lz(a:p<=d)(x v:Vc):jC (d+1) (K7 p x) v=jC d x (λi=>v (sk p i)):=by rw[BB a,PU,eY,fg];unfold jC;exact iI _ _ _ λi _=>by dsimp only;rw[An]
def AU(g:p<=d)(i:u p≠0){B:List Vc}{r:Nat}(h:AB d (B.map (sA u p)) r):AB (d+1) (u::B) (r+1):=by
 obtain⟨j,T,rfl,a⟩:=h;refine⟨(p,u)::j.map λq=>(sk p q.1,K7 p q.2),⟨λq b=>?_,cX.mpr ⟨λq b=>?_,dQ.mpr (T.tri.imp λ{x y} e=>?_)⟩⟩,by simp,λv=>?_⟩
 .rcases aG.mp b with rfl|b
  .exact⟨by lia,i⟩
  .obtain⟨q,f,rfl⟩:=aE.mp b;have:=T.lt q f;refine⟨?_,?_⟩
   .show sk p q.1<d+1;unfold sk;split<;>lia
   .show K7 p q.2 (sk p q.1)≠0;rw[An];exact this.2
 .obtain⟨q,b,rfl⟩:=aE.mp b;exact PU _
 .show K7 p y.2 (sk p x.1)=0;rw[An];exact e
 .rw[Bq g i,a];constructor
  .rintro⟨k,h⟩ q b;rcases aG.mp b with rfl|b
   .exact k
   .obtain⟨q,f,rfl⟩:=aE.mp b;show jC (d+1) (K7 p q.2) v=0;rw[Lz g];exact h q f
  .intro h;refine⟨h (p,u) (by simp),λq b=>?_⟩;rw[<-Lz g];exact h (sk p q.1,K7 p q.2) (bx _ (aE.mpr ⟨q,b,rfl⟩))
end
def vV{m:Nat}{u:Vc}(h:∀i,i<m->u i=0)(B:List Vc)(v:Vc):vC m (u::B) v↔vC m B v:=by
 have z:jC m u v=0:=(iI _ _ (λ_=>0) λi a=>by rw[h i a,eY]).trans (kl m);exact⟨λq r hr=>q r (by simp[hr]),λq r hr=>by
  rcases aG.mp hr with rfl|hr
  .exact z
  .exact q r hr⟩
theorem pQ:∀(n m:Nat) (B:List Vc),B.length=n->∃r,r<=n/\AB m B r
 |0,m,B,hn=>by have:B=[]:=fO.mp hn;subst this;exact⟨0,aL _,[],⟨λ_ h=>(nomatch h),.nil⟩,rfl,λv=>⟨λ_ _ h=>(nomatch h),λ_ _ h=>(nomatch h)⟩⟩
 |n+1,m,B,hn=>by
  cases B with
  |nil=>cases hn
  |cons u B=>
   have b:B.length=n:=by simpa using hn
   by_cases h:∃p,p<m/\u p≠0
   .obtain⟨p,l,f⟩:=h;obtain⟨d,rfl⟩:∃d,m=d+1:=⟨m-1,by lia⟩;obtain⟨r,hr,k⟩:=pQ n d (B.map (sA u p)) (by simpa using b);exact⟨r+1,by lia,AU (by lia) f k⟩
   .obtain⟨r,hr,j,T,e,a⟩:=pQ n m B b;exact⟨r,by lia,j,T,e,λv=>(vV (λi g=>aP λz=>h ⟨i,g,z⟩) B v).trans (a v)⟩
def mh(d:Nat)(B:List Vc):Prop:=∀v,vC (d+1) B v->v d=0
def tZ{d p:Nat}{u:Vc}(f:p<=d)(b:u p≠0)(B:List Vc):mh (d+1) (u::B)↔mh d (B.map (sA u p)):=by
 constructor
 .intro h w hw;let v:Vc:=λi=>if i=p then -(jC (d+1) (λi=>u (sk p i)) w) else u p*K7 p w i
  have a:∀i,v (sk p i)=u p*w i:=λi=>by show (if sk p i=p then _ else u p*K7 p w (sk p i))=_;rw[aS (by unfold sk;split<;>lia),An]
  have k:v p = -(jC (d+1) (λi=>u (sk p i)) w):=aR rfl;have j:jC (d+1+1) u v=0:=by
   rw[BB (show p<=d+1 by lia),k];have:jC (d+1) (λi=>u (sk p i)) (λi=>v (sk p i))=u p*jC (d+1) (λi=>u (sk p i)) w:=by unfold jC;rw[<-qr];exact iI _ _ _ λi _=>by dsimp only;rw[a];grind
   rw[this];grind
  have:=h v ((Bq (d:=d+1) (by lia) b B v).mpr ⟨j,λr hr=>by
   have e:jC (d+1) r (λi=>v (sk p i))=u p*jC (d+1) r w:=by unfold jC;rw[<-qr];exact iI _ _ _ λi _=>by dsimp only;rw[a];grind
   rw[e,hw r hr,fv]⟩)
  rw[<-TN f,a]at this;rcases fw.mp this with z|z
  .exact absurd z b
  .exact z
 .intro h v g;have:=h _ ((Bq (d:=d+1) (by lia) b B v).mp g).2;rw[TN f]at this;exact this
def pH(d:Nat)(B:List Vc):Int:=@ite _ (mh d B) (Classical.propDecidable _) 0 (@ite _ (∃r,AB (d+1) B r/\(B.length+r) % 2=0) (Classical.propDecidable _) 1 (-1))
def nX{d r:Nat}{B:List Vc}(h:¬mh d B)(k:AB (d+1) B r):pH d B=if (B.length+r) % 2=0 then 1 else -1:=by
 unfold pH;rw[aS h];by_cases e:(B.length+r) % 2=0
 .rw[aR e,aR ⟨r,k,e⟩]
 .rw[aS e,aS];rintro⟨f,a,b⟩;rw[k.uniq a λ_=>Iff.rfl]at e;exact e b
def mJ{d:Nat}{B:List Vc}(h:mh d B):pH d B=0:=by unfold pH;rw[aR h]
def JM{d p:Nat}{u:Vc}(b:p<=d)(a:u p≠0)(B:List Vc):pH (d+1) (u::B)=pH d (B.map (sA u p)):=by
 by_cases h:mh d (B.map (sA u p))
 .rw[mJ h,mJ ((tZ b a B).mpr h)]
 .obtain⟨r,_,k⟩:=pQ _ (d+1) (B.map (sA u p)) rfl;rw[nX h k,nX (λz=>h ((tZ b a B).mp z)) (AU (d:=d+1) (by lia) a k),az,ax];have:(B.length+1+(r+1)) % 2=(B.length+r) % 2:=by lia
  rw[this]
def Kh{d:Nat}{u:Vc}(h:∀i,i<d+1->u i=0)(B:List Vc):pH d (u::B) = -pH d B:=by
 have g:mh d (u::B)↔mh d B:=⟨λq v b=>q v ((vV h B v).mpr b),λq v b=>q v ((vV h B v).mp b)⟩;by_cases z:mh d B
 .rw[mJ z,mJ (g.mpr z)];rfl
 .obtain⟨r,_,f,T,e,a⟩:=pQ _ (d+1) B rfl;rw[nX z ⟨f,T,e,a⟩,nX (λq=>z (g.mp q)) ⟨f,T,e,λv=>(vV h B v).trans (a v)⟩,az];by_cases q:(B.length+r) % 2=0
  .rw[aR q,aS (by lia)]
  .rw[aS q,aR (by lia)];rfl
def Q9{d:Nat}{u:Vc}(h:∀i,i<d->u i=0)(f:u d≠0)(B:List Vc):pH d (u::B)=0:=mJ λv a=>by
 have:=a u (by simp);unfold jC at this;have e:sm (d+1) (λi=>u i*v i)=u d*v d:=by rw[pU,(iI _ _ (λ_=>0) λi b=>by rw[h i b,eY]),kl];lia
 rw[e]at this;rcases fw.mp this with z|z
 .exact absurd z f
 .exact z
def Cg{d:Nat}{B b:List Vc}(j:B.length=b.length)(e:∀v,vC (d+1) B v↔vC (d+1) b v):pH d B=pH d b:=by
 have h:mh d B↔mh d b:=⟨λq v f=>q v ((e v).mpr f),λq v f=>q v ((e v).mp f)⟩;by_cases z:mh d B
 .rw[mJ z,mJ (h.mp z)]
 .obtain⟨r,_,g,T,i,a⟩:=pQ _ (d+1) B rfl;rw[nX z ⟨g,T,i,a⟩,nX (λq=>z (h.mpr q)) ⟨g,T,i,λv=>(e v).symm.trans (a v)⟩,j]
def nK(d:Nat)(us:List Vc):Int:=iR us (pH d)
theorem oW{b a:Type}(t:b->a):∀(l:List b) (F:List a->Int),iR l (λB=>F (B.map t))=iR (l.map t) F
 |[],F=>rfl
 |x::l,F=>by rw[bJ];unfold iR;rw[oW t l F,<-oW t l λB=>F (t x::B)];rfl
def zR{d p:Nat}{u:Vc}(b:p<=d)(a:u p≠0)(us:List Vc):nK (d+1) (u::us)=nK (d+1) us+nK d (us.map (sA u p)):=by show iR us (pH (d+1))+iR us (λB=>pH (d+1) (u::B))=_;rw[iP (f:=λB=>pH (d+1) (u::B)) λB _=>JM b a B,oW (sA u p) us (pH d)];rfl
def Fu{d:Nat}{u:Vc}(h:∀i,i<d->u i=0)(a:u d≠0)(us:List Vc):nK d (u::us)=nK d us:=by show iR us (pH d)+iR us (λB=>pH d (u::B))=_;rw[iP (f:=λB=>pH d (u::B)) (g:=λ_=>0) λB _=>Q9 h a B,lW];exact fg _
theorem HX{d:Nat}{u:Vc}(h:∀i,i<d+1->u i=0):∀us:List Vc,u∈us->nK d us=0
 |us,hu=>by
  have a:∀(A C:List Vc),iR (A++u::C) (pH d)=0:=λA C=>by
   have b:∀(A:List Vc) (P:List Vc),iR (A++u::C) (λB=>pH d (P++B))=0:=by
    intro A;induction A with
    |nil=>
     intro P;show iR C (λB=>pH d (P++B))+iR C (λB=>pH d (P++u::B))=0;have:iR C (λB=>pH d (P++u::B))=iR C (λB=>(-1)*pH d (P++B)):=iP λB _=>by
      have e:pH d (P++u::B)=pH d (u::(P++B)):=Cg (by simp;lia) λv=>by
       unfold vC;constructor
       .intro q r hr;exact q r (by simp at hr ⊢;rcases hr with z|z|z<;>simp[z])
       .intro q r hr;exact q r (by simp at hr ⊢;rcases hr with z|z|z<;>simp[z])
      rw[e,Kh h];lia
     rw[this,l7];lia
    |cons x A ih=>intro P;show iR (A++u::C) (λB=>pH d (P++B))+iR (A++u::C) (λB=>pH d (P++x::B))=0;rw[ih P];have:=ih (P++[x]);simp only[bZ,gz]at this;rw[this];rfl
   exact b A []
  obtain⟨A,C,rfl⟩:=f9 hu;exact a A C
section
variable {d:Nat}{cs:LL}{B:List Nat}
def AO(cs:LL)(B:List Nat):List Vc:=B.map λz=>vc (cs.getD z [])
def Jv{m:Nat}{v:Vc}:vC m (AO cs B) v↔uo m (i6 cs B) v:=by
 unfold vC uo AO i6;constructor
 .intro h r hr;obtain⟨z,a,rfl⟩:=aE.mp hr;exact h _ (aE.mpr ⟨z,a,rfl⟩)
 .intro h r hr;obtain⟨z,a,rfl⟩:=aE.mp hr;exact h _ (aE.mpr ⟨z,a,rfl⟩)
def Do(V:Vz d cs)(a:oV cs B)(h:FL d cs B=none):pH d (AO cs B)=0:=by
 obtain⟨pv,m,P,r,hr,g⟩:=vO V a h;refine mJ λv j=>?_;have b:=Jv.mp j;obtain⟨n,f,l⟩:=P.rr r hr;have e:jC (d+1) (vc r) v=0:=jB l λx ⟨r',hr',ex⟩=>by rw[ex];exact b r' hr'
 unfold jC at e;rw[pU,(iI _ _ (λ_=>0) λi k=>by rw[f i k,eY]),kl,fj]at e;rcases fw.mp e with z|z
 .exact absurd z g
 .exact z
def JC(V:Vz d cs)(L:oV cs B){g:Ky}(h:FL d cs B=some g):∃r:Nat,AB (d+1) (AO cs B) r/\¬mh d (AO cs B)/\(r:Int)=(d:Int)-g.1:=by
 obtain⟨pv,J,f,P,_,R,rfl⟩:=lN V L h;have A:∀r∈J,∀v:Vc,jC (d+1) (vc r) v=0:=λr hr v=>by obtain⟨Y,A,Z⟩:=P.rr r hr;unfold jC;rw[pU,(iI _ _ (λ_=>0) λi F=>by rw[A i F,eY]),kl,R r hr];lia
 have T:Jo (d+1) (pv.map λp=>(p.1,vc p.2)):=⟨λq s=>by obtain⟨p,l,rfl⟩:=aE.mp s;exact⟨by have:=(P.pl p l).1;lia,(P.pl p l).2.2.1⟩,dQ.mpr (P.pw.imp λq=>q.2.1)⟩
 have E:∀v,vC (d+1) (AO cs B) v↔∀p∈pv.map (λp=>(p.1,vc p.2)),jC (d+1) p.2 v=0:=λv=>by
  rw[Jv];constructor
  .intro o q s;obtain⟨p,l,rfl⟩:=aE.mp s;exact jB (P.pl p l).2.2.2.2 λx ⟨y,m,u⟩=>by rw[u];exact o y m
  .intro o r hr;refine jB (P.sp r hr) λx N=>?_;rcases N with⟨p,l,u⟩|⟨y,m,u⟩
   .rw[u];exact o (p.1,vc p.2) (aE.mpr ⟨p,l,rfl⟩)
   .rw[u];exact A y m v
 have k:AB (d+1) (AO cs B) pv.length:=⟨_,T,by simp,E⟩;have X:¬mh d (AO cs B):=λF=>by
  have nd:((pv.map Prod.fst)++[d]).Nodup:=by
   refine eR.mpr ⟨?_,by simp,λa o b K e=>?_⟩
   .rw[List.Nodup,dQ];exact P.pw.imp λq=>q.1
   .obtain⟨p,l,rfl⟩:=aE.mp o;rw[aj.mp K]at e;have:=(P.pl p l).1;lia
  obtain⟨v,⟨j,w⟩,out,Q⟩:=oO (d+1) (pv.map λp=>vc p.2) ((pv.map Prod.fst)++[d]) nd (λt S=>by
   rcases ai.mp S with q|q
   .obtain⟨p,l,rfl⟩:=aE.mp q;have:=(P.pl p l).1;lia
   .rw[aj.mp q];lia) (by simp)
  have H:vC (d+1) (AO cs B) v:=(E v).mpr λq s=>by obtain⟨p,l,rfl⟩:=aE.mp s;exact Q _ (aE.mpr ⟨p,l,rfl⟩)
  have I:=F v H;have U:=Qh _ (pv.map λp=>(p.1,vc p.2)) rfl T ((E v).mp H) λi D=>by
   by_cases kP:i=d
   .rw[kP];exact I
   .refine out i λq=>?_;rcases ai.mp q with q|q
    .refine D ?_;rw[aJ];exact q
    .exact kP (aj.mp q)
  by_cases n:j=d
  .rw[n]at w;exact w I
  .have C:j∈pv.map Prod.fst:=aP λz=>w (out j λq=>by
    rcases ai.mp q with q|q
    .exact z q
    .exact n (aj.mp q))
   obtain⟨p,l,rfl⟩:=aE.mp C;exact w (U (p.1,vc p.2) (aE.mpr ⟨p,l,rfl⟩))
 exact⟨pv.length,k,X,by unfold Mi;dsimp only;lia⟩
def To(V:Vz d cs)(a:oV cs B){g:Ky}(h:FL d cs B=some g):∃(k:AB (d+1) (AO cs B) ((d:Int)-g.1).toNat),¬mh d (AO cs B)/\((((d:Int)-g.1).toNat:Nat):Int)=(d:Int)-g.1:=by
 obtain⟨r,k,b,e⟩:=JC V a h;have:((d:Int)-g.1).toNat=r:=by lia
 rw[this];exact⟨k,b,e⟩
def JJ(V:Vz d cs)(j:oV cs B){g:Ky}(h:FL d cs B=some g):pH d (AO cs B)=sg d g*nr B:=by
 obtain⟨r,k,l,e⟩:=JC V j h;rw[nX l k];have i:(AO cs B).length=B.length:=by simp[AO]
 rw[i];unfold sg nr;have f:((d:Int)-g.1) % 2=0↔r % 2=0:=by lia
 by_cases a:r % 2=0
 .rw[aR (f.mpr a)];by_cases b:B.length % 2=0
  .rw[aR b,aR (by lia)];rfl
  .rw[aS b,aS (by lia)];rfl
 .rw[aS λz=>a (f.mp z)];by_cases b:B.length % 2=0
  .rw[aR b,aS (by lia)];rfl
  .rw[aS b,aR (by lia)];rfl
def qG(cs:LL):(List.range cs.length).map (λz=>vc (cs.getD z []))=cs.map vc:=by
 refine cJ (by simp) λi e b=>?_;have a:i<cs.length:=by simpa using b
 simp only[fF,gw];rw[af,ag a];rfl
def Oz(V:Vz d cs)(a:cs.length<=7){D:List lH}(M:Du d cs D):sD D (λg=>(g.2.natAbs:Int))=nK d (cs.map vc):=by
 have j:sD D (λg=>(g.2.natAbs:Int))=sD D (λg=>iR (List.range cs.length) λB=>sg d g.1*(if FL d cs B=some g.1 then nr B else 0)):=pC λg f=>by
  have w:=Am V a M (((d:Int)-g.1.1).toNat+1) g f (by lia);have s:=BP V a M (((d:Int)-g.1.1).toNat+1) g f (by lia);rw[l7];show _=sg d g.1*HE d cs g.1;rw[<-w];unfold sg at s ⊢;split at s
  .rename_i h;rw[aR h];lia
  .rename_i h;rw[aS h];lia
 rw[j,ue];unfold nK;rw[<-qG,<-oW];refine iP λB b=>?_;have ok:=vN a b;cases e:FL d cs B with
 |none=>show _=pH d (AO cs B);rw[Do V ok e];exact ng λg _=>by simp
 |some g=>
  show _=pH d (AO cs B);rw[JJ V ok e];obtain⟨n,i⟩:=M.at_ V a b e;rw[sO M.nd i λx _ ne=>by rw[aS (show ¬some g=some x.1 from λz=>ne (Option.some.inj z).symm)];lia]
  dsimp only;rw[aR rfl]
end
def yq{d:Nat}{a:LL}(V:Vz d a)(b:a.length<=7):j7 c [m6 c d a]=.ok (.int (nK d (a.map vc))):=by
 have sz:1000<sizeLine:=by decide
 obtain⟨l,e,i⟩:=Cv (c:=c) V b;have h:(jv l).Perm l:=eO l yS;have j:(qk (jv l)).length<=64:=by have:=congrArg List.length (oN (jv l));rw[ax,h.length_eq]at this;rw[this];exact vM V b e
 have f:lB [none] (jK (jy (kL (gQ (gR 0) gW) (jz c)))) (ku 0) (λ_=>.ok true) (oj c) (vw (iW 1 [m6 c d a]))=.ok (((qk (jv l)).map λg=>(g.2.natAbs:Int)).map T.int):=jX (qk (jv l)) (λg=>T.int g.2) (λg=>T.int (g.2.natAbs:Int)) (wu (jo (sS rfl i))) (by lia) (λg k=>⟨_,rfl,rfl,lY (t:=.int g.2) rfl (by simp[CQ])⟩) (by rw[aJ];rfl)
 refine iU rfl (iE (qq f ?_));rw[xG];congr 2;exact Oz V b (Ey V b e)
def NC(d:Nat):pH d []=1:=by
 obtain⟨r,hr,k⟩:=pQ 0 (d+1) [] rfl;have a:¬mh d []:=λh=>by have:=h (λ_=>1) λr hr=>nomatch hr;exact absurd this (by decide)
 rw[nX a k,aR (by simp;lia)]
def yU{e:Type}{l d:List e}(h:l.Perm d):∀{f:List e->Int},(∀B b,B.Perm b->f B=f b)->iR l f=iR d f:=by
 induction h with
 |nil=>exact λ_=>rfl
 |cons x _ ih=>intro f a;unfold iR;rw[ih a,ih (f:=λB=>f (x::B)) λB b i=>a _ _ (i.cons x)]
 |swap x y l=>intro f a;show (iR l f+iR l λB=>f (x::B))+(iR l (λB=>f (y::B))+iR l λB=>f (y::x::B))=(iR l f+iR l λB=>f (y::B))+(iR l (λB=>f (x::B))+iR l λB=>f (x::y::B));rw[iP (f:=λB=>f (y::x::B)) (g:=λB=>f (x::y::B)) λB _=>a _ _ (List.Perm.swap x y B)];lia
 |trans _ _ ih1 ih2=>intro f a;rw[ih1 a,ih2 a]
def Gz{m:Nat}{B a:List Vc}(h:B.Perm a)(v:Vc):vC m B v↔vC m a v:=⟨λq r hr=>q r (h.mem_iff.mpr hr),λq r hr=>q r (h.mem_iff.mp hr)⟩
def Ma{b:Type}{B a:List b}(h:B.Perm a):nr B=nr a:=by unfold nr;rw[h.length_eq]
def mx{d:Nat}{us a:List Vc}(h:us.Perm a):nK d us=nK d a:=yU h λ_ _ b=>Cg b.length_eq (Gz b)
def bD(d:Nat)(m:Int)(B:List Vc):Int:=@ite _ (¬mh d B/\∃r:Nat,AB (d+1) B r/\(r:Int)=(d:Int)-m) (Classical.propDecidable _) 1 0
def xQ{d:Nat}{B b:List Vc}(e:∀v,vC (d+1) B v↔vC (d+1) b v):mh d B↔mh d b:=⟨λq v a=>q v ((e v).mpr a),λq v a=>q v ((e v).mp a)⟩
def Bm{m r:Nat}{B b:List Vc}(e:∀v,vC m B v↔vC m b v)(k:AB m B r):AB m b r:=by obtain⟨d,T,f,a⟩:=k;exact⟨d,T,f,λv=>(e v).symm.trans (a v)⟩
def Aq{d:Nat}{m:Int}{B a:List Vc}(e:∀v,vC (d+1) B v↔vC (d+1) a v):bD d m B=bD d m a:=by
 unfold bD;have:(¬mh d B/\∃r:Nat,AB (d+1) B r/\(r:Int)=(d:Int)-m)↔(¬mh d a/\∃r:Nat,AB (d+1) a r/\(r:Int)=(d:Int)-m):=by rw[xQ e];exact and_congr_right λ_=>⟨λ⟨r,k,h⟩=>⟨r,Bm e k,h⟩,λ⟨r,k,h⟩=>⟨r,Bm (λv=>(e v).symm) k,h⟩⟩
 by_cases h:¬mh d B/\∃r:Nat,AB (d+1) B r/\(r:Int)=(d:Int)-m
 .rw[aR h,aR (this.mp h)]
 .rw[aS h,aS λz=>h (this.mpr z)]
def GE{d r:Nat}{m:Int}{B:List Vc}(h:¬mh d B)(k:AB (d+1) B r):bD d m B=if (r:Int)=(d:Int)-m then 1 else 0:=by
 unfold bD;by_cases e:(r:Int)=(d:Int)-m
 .rw[aR e,aR ⟨h,r,k,e⟩]
 .rw[aS e,aS];rintro⟨_,f,a,b⟩;rw[k.uniq a λ_=>Iff.rfl]at e;exact e b
def Au{d:Nat}{m:Int}{B:List Vc}(h:mh d B):bD d m B=0:=by unfold bD;rw[aS λz=>z.1 h]
def NL{d p:Nat}{m:Int}{u:Vc}(b:p<=d)(a:u p≠0)(B:List Vc):bD (d+1) m (u::B)=bD d m (B.map (sA u p)):=by
 by_cases h:mh d (B.map (sA u p))
 .rw[Au h,Au ((tZ b a B).mpr h)]
 .obtain⟨r,_,k⟩:=pQ _ (d+1) (B.map (sA u p)) rfl;rw[GE h k,GE (λz=>h ((tZ b a B).mp z)) (AU (d:=d+1) (by lia) a k)];by_cases e:(r:Int)=(d:Int)-m
  .rw[aR e,aR (by lia)]
  .rw[aS e,aS (by lia)]
def wD(d:Nat)(m:Int)(us:List Vc):Int:=iR us λB=>bD d m B*nr B
def oo{d:Nat}{m:Int}{us a:List Vc}(h:us.Perm a):wD d m us=wD d m a:=yU h λ_ _ b=>by rw[Aq (Gz b),Ma b]
def BF{d p:Nat}{m:Int}{u:Vc}(b:p<=d)(a:u p≠0)(us:List Vc):wD (d+1) m (u::us)=wD (d+1) m us-wD d m (us.map (sA u p)):=by
 show iR us (λB=>bD (d+1) m B*nr B)+iR us (λB=>bD (d+1) m (u::B)*nr (u::B))=_;have:iR us (λB=>bD (d+1) m (u::B)*nr (u::B))=iR us (λB=>(-1)*(bD d m (B.map (sA u p))*nr (B.map (sA u p)))):=iP λB _=>by
  have e:nr (B.map (sA u p))=nr B:=by unfold nr;rw[ax]
  rw[NL b a,oM,e];lia
 rw[this,l7,oW (sA u p) us λB=>bD d m B*nr B];unfold wD;lia
def Rp{d:Nat}{u:Vc}(h:∀i,i<d->u i=0)(f:u d≠0)(B:List Vc):mh d (u::B):=λv a=>by
 have:=a u (by simp);unfold jC at this;have e:sm (d+1) (λi=>u i*v i)=u d*v d:=by rw[pU,(iI _ _ (λ_=>0) λi b=>by rw[h i b,eY]),kl];lia
 rw[e]at this;rcases fw.mp this with z|z
 .exact absurd z f
 .exact z
def FC{d:Nat}{m:Int}{u:Vc}(h:∀i,i<d->u i=0)(a:u d≠0)(us:List Vc):wD d m (u::us)=wD d m us:=by show iR us (λB=>bD d m B*nr B)+iR us (λB=>bD d m (u::B)*nr (u::B))=_;rw[iP (f:=λB=>bD d m (u::B)*nr (u::B)) (g:=λ_=>0) λB _=>by rw[Au (Rp h a B),eY],lW];exact fg _
def BS{x y:Vc}{m:Nat}{k l:Int}(a:k≠0)(e:∀i,l*y i=k*x i)(B:List Vc)(v:Vc):vC m (y::x::B) v↔vC m (y::B) v:=by
 have l:l*jC m y v=k*jC m x v:=by unfold jC;rw[<-qr,<-qr];exact iI _ _ _ λi _=>by rw[<-d9,e i,d9]
 constructor
 .intro q r hr;exact q r (by rcases aG.mp hr with z|z<;>simp[z])
 .intro q r hr;rcases aG.mp hr with rfl|hr
  .exact q _ (by simp)
  .rcases aG.mp hr with rfl|hr
   .have:=q y (by simp);rw[this,fv]at l;exact (fw.mp l.symm).resolve_left a
   .exact q r (by simp[hr])
def Rw{d:Nat}{m:Int}{x y:Vc}{k l:Int}(g:k≠0)(e:∀i,l*y i=k*x i){us:List Vc}(f:x∈us):wD d m (y::us)=wD d m us:=by
 obtain⟨A,C,rfl⟩:=f9 f;have a:(y::(A++x::C)).Perm (y::x::(A++C)):=(cU).cons y;have b:(A++x::C).Perm (x::(A++C)):=cU;rw[oo a,oo b];show iR (x::(A++C)) (λB=>bD d m B*nr B)+(iR (A++C) (λB=>bD d m (y::B)*nr (y::B))+iR (A++C) λB=>bD d m (y::x::B)*nr (y::x::B))=_;have:iR (A++C) (λB=>bD d m (y::x::B)*nr (y::x::B))=iR (A++C) (λB=>(-1)*(bD d m (y::B)*nr (y::B))):=iP λB _=>by rw[Aq (BS g e B),oM,oM,oM];lia
 rw[this,l7];unfold wD;lia
def Kl{d:Nat}{x y:Vc}{k l:Int}(j:k≠0)(e:∀i,l*y i=k*x i){us:List Vc}(g:x∈us):nK d (y::us)=nK d us:=by
 obtain⟨A,C,rfl⟩:=f9 g;have h:(y::(A++x::C)).Perm (y::x::(A++C)):=(cU).cons y;have f:(A++x::C).Perm (x::(A++C)):=cU;rw[mx h,mx f];show iR (x::(A++C)) (pH d)+(iR (A++C) (λB=>pH d (y::B))+iR (A++C) λB=>pH d (y::x::B))=_;have:iR (A++C) (λB=>pH d (y::x::B))=iR (A++C) (λB=>(-1)*pH d (y::B)):=iP λB _=>by
  have a:=BS (m:=d+1) j e B;by_cases z:mh d (y::B)
  .rw[mJ z,mJ ((xQ a).mpr z)];rfl
  .obtain⟨r,_,b⟩:=pQ _ (d+1) (y::B) rfl;rw[nX z b,nX (λq=>z ((xQ a).mp q)) (Bm (λv=>(a v).symm) b),az,az,az];by_cases q:(B.length+1+r) % 2=0
   .rw[aR q,aS (by lia)];rfl
   .rw[aS q,aR (by lia)];rfl
 rw[this,l7];unfold nK;lia
section
variable {d:Nat}{cs:LL}
def JE(V:Vz d cs)(i:cs.length<=7)(m:Int):SU d cs m=wD d m (cs.map vc):=by
 unfold SU wD;rw[<-qG,<-oW];refine iP λB b=>?_;have ok:=vN i b;have f:nr (B.map λz=>vc (cs.getD z []))=nr B:=by unfold nr;rw[ax]
 rw[f];show _=bD d m (AO cs B)*nr B;cases e:FL d cs B with
 |none=>
  rw[aS (λz=>nomatch z)];have a:=Do V ok e;have l:mh d (AO cs B):=aP λz=>by obtain⟨r,_,k⟩:=pQ _ (d+1) (AO cs B) rfl;rw[nX z k]at a;split at a<;>cases a
  rw[Au l,eY]
 |some g=>
  obtain⟨k,j,n⟩:=To V ok e;rw[GE j k];by_cases h:g.1=m
  .rw[aR (by simp[h]),aR (by lia),eX]
  .rw[aS (by simp[h]),aS (by lia),eY]
end
def SM(x:Vc):Prop:=∀g:Int,(∀i,g ∣ x i)->(∃i,x i≠0)->g.natAbs=1
def FV{a b z:Int}(h:a ∣ b*z)(e:Int.gcd a b=1):a ∣ z:=by
 have d:a.natAbs ∣ b.natAbs*z.natAbs:=by rw[<-aZ];exact d8.mpr h
 exact d8.mp (Nat.Coprime.dvd_of_dvd_mul_left (show Nat.gcd _ _=1 from e) d)
def OT{x y:Vc}{a b:Int}(A:SM x)(B:SM y)(D:0<a)(w:0<b)(h:∀i,a*x i=b*y i):∀i,x i=y i:=by
 by_cases t:∃i,y i≠0
 .obtain⟨k,u⟩:=t;have K:0<(Int.gcd a b:Int):=by have:=Int.gcd_pos_of_ne_zero_left b (show a≠0 by lia);lia
  obtain⟨d,l⟩:=dW a b;obtain⟨f,m⟩:=dX a b;have g:Int.gcd d f=1:=by
   have r:=Int.gcd_mul_left (Int.gcd a b:Int) d f;rw[<-l,<-m]at r;have E:Int.gcd a b*1=Int.gcd a b*Int.gcd d f:=by rw[Nat.mul_one];simpa using r
   exact (Nat.eq_of_mul_eq_mul_left (by lia) E).symm
  have n:∀i,d*x i=f*y i:=λi=>by
   have H:(Int.gcd a b:Int)*(d*x i)=a*x i:=by rw[<-d9,<-l]
   have F:(Int.gcd a b:Int)*(f*y i)=b*y i:=by rw[<-d9,<-m]
   exact gA (show (Int.gcd a b:Int)≠0 by lia) (H.trans ((h i).trans F.symm))
  have pos:∀{z j:Int},0<z->z=(Int.gcd a b:Int)*j->0<j:=λ{z j} hz e=>by
   rcases Int.lt_or_le 0 j with q|q
   .exact q
   .have:=Int.mul_le_mul_of_nonneg_left q (show 0<=(Int.gcd a b:Int) by lia);rw[fv]at this;lia
  have P:0<d:=pos D l;have L:0<f:=pos w m;have v:∀i,d ∣ y i:=λi=>FV ⟨x i,(n i).symm⟩ g;have C:∀i,f ∣ x i:=λi=>FV ⟨y i,n i⟩ (by rw[Int.gcd_comm];exact g);have I:x k≠0:=λz=>by
   have:=h k;rw[z,fv]at this;rcases fw.mp this.symm with q|q
   .lia
   .exact u q
  have J:=B d v ⟨k,u⟩;have N:=A f C ⟨k,I⟩;intro i;have:=n i;have p:d=1:=by lia
  have o:f=1:=by lia
  rw[p,o]at this;lia
 .intro i;have s:y i=0:=aP λz=>t ⟨i,z⟩;have:=h i;rw[s,fv]at this;rcases fw.mp this with q|q
  .lia
  .rw[q,s]
def Mz{a b:LI}(e:a.length=b.length)(h:∀i,vc a i=vc b i):a=b:=cJ e λi d f=>by rw[<-jZ a i d,<-jZ b i f];exact h i
def Kj{row:LI}{g:Int}:(∀i,g ∣ vc row i)↔∀x∈row,g ∣ x:=by
 constructor
 .intro h x b;obtain⟨i,a,rfl⟩:=dC.mp b;rw[<-jZ row i a];exact h i
 .intro h i;by_cases a:i<row.length
  .rw[jZ row i a];exact h _ (aW a)
  .rw[jm row i (by lia)];exact gB _
def PY{row:LI}(h:∃i,vc row i≠0):∃x∈row,x≠0:=by
 obtain⟨i,b⟩:=h;by_cases a:i<row.length
 .exact⟨row[i],aW a,by rw[<-jZ row i a];exact b⟩
 .exact absurd (jm row i (by lia)) b
def DN{row:LI}{a:Int}(d:a≠0)(l:∀x∈row,a ∣ x)(n:∀e:Int,(∀x∈row,e ∣ x)->e ∣ a):(∀i,vc row i=a*vc (row.map λx=>x.fdiv a) i)/\SM (vc (row.map λx=>x.fdiv a)):=by
 have e:∀i,vc row i=a*vc (row.map λx=>x.fdiv a) i:=λi=>by
  by_cases b:i<row.length
  .rw[jZ row i b,jZ _ i (by simpa using b),fF];obtain⟨q,m⟩:=l _ (aW b);rw[m,eU q d]
  .rw[jm row i (by lia),jm _ i (by simp;lia),fv]
 refine⟨e,λg o p=>?_⟩;have:a*g ∣ a:=n _ (Kj.mp λi=>by rw[e i];exact Int.mul_dvd_mul_left a (o i));obtain⟨k,h⟩:=this;rw[d9]at h;have:g*k=1:=by
  have j:a*1=a*(g*k):=by rw[bC];exact h
  exact (gA d j).symm
 have f:=congrArg Int.natAbs this;rw[aZ]at f;exact gC f
def Ib N (L:N<=8000) row (Q:row.length<1000) (u:∀x∈row,Bn N x):∃g ys,0<g/\nW c [tI row]=.ok (tI ys)/\ys.length=row.length/\(∀i,vc row i=g*vc ys i)/\SM (vc ys)/\∀y∈ys,Bn N y:=by
 have sz:1000<sizeLine:=by decide
 have main:=vZ (m:=ot 2) (g:=ux c) T.int
  (λk C=>∃(a:Int) (w:Option W),C=[some (.p (tI row)),some (.p (.int a)),w]/\0<=a/\Bn N a/\(∀x∈row.take k,a ∣ x)/\∀e:Int,(∀x∈row.take k,e ∣ x)->e ∣ a)
  (λt=>t=tI row/\SM (vc row)) row 0 _ ⟨0,none,rfl,by decide,vH,(λx d=>by simp at d),λe _=>gB e⟩ (by
   rintro i x C A ⟨a,w,rfl,J,n,f,l⟩;rw[aH]at f l ⊢;have r:=au A;refine⟨_,rfl,?_⟩;have D:setO 1 (kn (hZ (gQ (gR 1) (gQ (gR 2) gW)) (jr c))) [some (.p (tI row)),some (.p (.int a)),some (.p (.int x))]=.nx [some (.p (tI row)),some (.p (.int (Cu.G a x))),some (.p (.int x))]:=iw (lE rfl rfl (oh a x)) rfl;by_cases h:Cu.G a x=1
   .right;refine⟨_,gY D (jF (iN (gZ rfl rfl (by rw[iT,h];rfl))) (iE rfl)),rfl,λg K _=>?_⟩;have s:=Kj.mp K;have:g ∣ Cu.G a x:=gE (l g λz j=>s z (dB j)) (s x r);rw[h]at this;obtain⟨k,P⟩:=this;have n:=congrArg Int.natAbs P;rw[aZ]at n;exact gC n.symm
   .left;refine⟨_,gY D (jM (iN (gZ rfl rfl (by rw[iT];simp[h]))) rfl),_,_,rfl,Cu.nH _ _,?_,λz j=>?_,λe v=>?_⟩
    .by_cases b:x=0
     .rw[b,Cu.wd];exact cQ (by lia) n
     .have S:=Cu.Sh a x b;have R:=Cu.nH a x;exact cQ (by lia) (u x r)
    .rw[jP row i x A]at j;rcases ai.mp j with q|q
     .exact fC (Cu.sE a x) (f z q)
     .rw[aj.mp q];exact Cu.n6 a x
    .rw[jP row i x A]at v;exact gE (l e λz j=>v z (by simp[j])) (v x (by simp)))
 rcases main with⟨E,e,a,w,rfl,J,n,f,l⟩|⟨t,e,rfl,H⟩
 .rw[aH,fE]at f l;by_cases o:a=0
  .refine⟨1,row,by decide,iU rfl (gY (iw rfl rfl) (gY (mw rfl e) (k9 (jF (iN (gZ rfl rfl (by rw[iT,o];rfl))) (iE rfl)) rfl))),rfl,λi=>by rw[eX],λg _ F=>?_,u⟩;obtain⟨x,d,b⟩:=PY F;have:=f x d;rw[o]at this;exact absurd (Int.zero_dvd.mp this) b
  .have B:=DN o f l;refine⟨a,row.map (λx=>x.fdiv a),by lia,iU rfl (gY (iw rfl rfl) (gY (mw rfl e) (gY (jM (iN (gZ rfl rfl (by rw[iT];simp[o]))) rfl) (iE ?_)))),by simp,B.1,B.2,λy I=>?_⟩
   .exact lY (jo (jX row T.int (λx=>T.int (x.fdiv a)) rfl (by lia) (λx d=>⟨_,rfl,rfl,gZ rfl rfl (qC o (n.noPy L))⟩) (by rw[aJ];rfl))) rfl
   .obtain⟨x,d,rfl⟩:=aE.mp I;exact cQ (F8 (f x d) o) (u x d)
 .exact⟨1,row,by decide,iU rfl (gY (iw rfl rfl) (k9 (mw rfl e) rfl)),rfl,λi=>by rw[eX],H,u⟩
def Wv(cut a:LI)(p:Nat):Vc:=λi=>((vc cut p).natAbs:Int)*vc a i-wX (vc cut p)*vc a p*vc cut i
structure yy(cut other:LI)(p:Nat)(ys:LI):Prop where
 len:ys.length+1=other.length
 pr:SM (vc ys)
 ex:∃a b:Int,0<a/\0<b/\∀i,a*vc ys i=b*Wv cut other p (sk p i)
def yy.uniq{cut d ys zs:LI}{p:Nat}(h:yy cut d p ys)(h':yy cut d p zs):ys=zs:=by obtain⟨a,b,m,k,e⟩:=h.ex;obtain⟨l,j,f,g,n⟩:=h'.ex;refine Mz (by have:=h.len;have:=h'.len;lia) (OT h.pr h'.pr (a:=j*a) (b:=b*l) (aY g m) (aY k f) λi=>?_);rw[d9,e i,d9,n i,<-d9,<-d9,ee j b]
def QA{P:Nat->Prop}:∀n,P n->∃m,m<=n/\P m/\∀k,k<m->¬P k:=by
 intro n;induction n using Nat.strongRecOn with
 |ind n ih=>
  intro h;by_cases z:∃k,k<n/\P k
  .obtain⟨k,b,a⟩:=z;obtain⟨m,d,r⟩:=ih k b a;exact⟨m,by lia,r⟩
  .exact⟨n,aL _,h,λk b a=>z ⟨k,b,a⟩⟩
def HB a (n:a.length<=100) (q:Nat) (o:q<a.length) (f:vc a q≠0) (m:∀k,k<q->vc a k=0):jW c [tI a]=.ok (.int (q:Int)):=by
 obtain⟨b,e,rfl⟩:=nL (c:=jl (ig (iM false) (ig jD (gR 0) (gR 1)) (cM (.int 0)))) (g:=nQ c)
  (λb=>∃k:Nat,b=[some (.p (tI a)),some (.p (.int (k:Int)))]/\k<=q) (λb=>match b with|_::some (.p (.int j))::_=>q-j.toNat|_=>0)
  (λb=>b=[some (.p (tI a)),some (.p (.int (q:Int)))]) (by
   rintro b ⟨k,rfl,hk⟩;have i:jD (tI a) (.int (k:Int))=.ok (.int (vc a k)):=kK a k (by lia);by_cases d:vc a k=0
   .have l:k≠q:=λz=>f (by rw[<-z];exact d);refine .inr ⟨iN (gZ (gZ rfl rfl i) rfl (by rw[iT,d];rfl)),_,.inl (iw (gZ rfl rfl (by rw[jj];simp)) rfl),⟨k+1,rfl,by lia⟩,?_⟩;show q-(((k+1:Nat):Int)).toNat<q-((k:Int)).toNat;lia
   .have h:k=q:=aP λz=>d (m k (by lia));exact .inl ⟨iN (gZ (gZ rfl rfl i) rfl (by rw[iT];simp[d])),by rw[h]⟩)
  ((a.map T.int).length+1) [some (.p (tI a)),some (.p (.int ((0:Nat):Int)))] ⟨0,rfl,by lia⟩ (by rw[ax];lia)
 exact iU rfl (gY (iw rfl rfl) (gY e (iE rfl)))
def Pf{cut d:LI}{p n B:Nat}(Y:B<=61)(hc:cut.length=n)(ho:d.length=n)(Z:n<=10)(hp:p<n)(K:∀x∈cut,Bn B x)(L:∀x∈d,Bn B x)(l:vc cut p≠0)(J:∀k,k<p->vc cut k=0) :
  ∃ys,yZ c [tI cut,tI d]=.ok (tI ys)/\yy cut d p ys/\∀y∈ys,Bn (B+B+1) y:=by
 have U:=HB (c:=c) cut (by lia) p (by lia) l J;obtain⟨r,N,rl,w,C,g,s,b,u,F,e,f⟩:=we (c:=c) B B d cut p (by lia) (by lia) (by lia) (by lia) L K l;have v:=uq (c:=c) r p (by lia) (by lia);have wl:=JS (row:=r) (p:=p) (by lia);obtain⟨S,ys,o,E,yl,R,X,H⟩:=Ib (c:=c) (B+B+1) (by lia) (wo r p) (by lia) λx t=>w x (by
  unfold wo at t;rcases ai.mp t with q|q
  .exact dB q
  .exact dq q)
 refine⟨ys,iU rfl (gY (iw (qe rfl U) rfl) (iE (qe (lE (mV rfl rfl rfl N) rfl v) E))),⟨by lia,X,?_⟩,H⟩;have j:∃a b:Int,0<a/\0<b/\∀i,a*vc r i=b*Wv cut d p i:=by
  by_cases z:vc d p=0
  .have h:b=0:=by
    have:=e p;rw[C,z,fv,fv,fj]at this;rcases fw.mp this.symm with q|q
    .exact q
    .exact absurd q l
   refine⟨((vc cut p).natAbs:Int)*g,s,aY (by lia) u,F,λi=>?_⟩;unfold Wv;rw[z,d9,e i,h];grind
  .obtain⟨Q,P⟩:=f z;refine⟨g,1,u,by decide,λi=>?_⟩;unfold Wv;rw[e i,Q,P];grind
 obtain⟨a,A,I,m,D⟩:=j;refine⟨a*S,A,aY I o,m,λi=>?_⟩;rw[d9,<-R i,P6 (by lia),D]
def GR{cut a:LI}{p n B:Nat}(hB:B<=61)(hc:cut.length=n)(ho:a.length=n)(Y:n<=10)(hp:p<n)(F:∀x∈cut,Bn B x)(L:∀x∈a,Bn B x)(h0:vc cut p≠0) :
  ∃zs,mR c [tI a,tI cut,.int (p:Int)]=.ok (tI zs)/\yy cut a p zs:=by
 have sz:1000<sizeLine:=by decide
 have i1:jD (tI a) (.int (p:Int))=.ok (.int (vc a p)):=kK a p (by lia);have Q:jD (tI cut) (.int (p:Int))=.ok (.int (vc cut p)):=kK cut p (by lia);let h:Int:=wX (vc cut p);have N:Bn B (vc cut p):=F _ (getD_mem cut p (by lia));have H:Bn B (vc a p):=L _ (getD_mem a p (by lia));have P:Bn 1 h:=by have:=zS (vc cut p);unfold Bn;show _<2;show (wX (vc cut p)).natAbs<2;lia
 let v:LI:=(a.zip cut).map λx=>h*(x.1*vc cut p-vc a p*x.2);have vl:v.length=n:=by simp[v,hc,ho]
 have vv:∀i,vc v i=Wv cut a p i:=λi=>by
  unfold Wv;by_cases C:i<n
  .rw[jZ v i (by lia),jZ a i (by lia),jZ cut i (by lia)];simp only[v,fF,List.getElem_zip];rw[<-uf];show wX (vc cut p)*_=_;grind
  .rw[jm v i (by lia),jm a i (by lia),jm cut i (by lia)];grind
 have vb:∀x∈v,Bn (B+B+2) x:=λx f=>by obtain⟨q,o,rfl⟩:=aE.mp f;exact (P.mul (((L _ (aX o).1).mul N).sub (H.mul (F _ (aX o).2)))).mono (by lia)
 let R (x3 x4 x5 l:Option W):En:=[some (.p (tI a)),some (.p (tI cut)),some (.p (.int (p:Int))),x3,x4,x5,l];have e3:ig jD (jy (lstM (gQ (xV (λi=>.int (-i)) (cM (.int 1))) (gQ (cM (.int 1)) gW)))) (kv Da (gQ (ig Ir (ig jD (gR 1) (gR 2)) (cM (.int 0))) gW)) (kP (R none none none none))=.ok (.int h):=by
  have A:ig Ir (ig jD (gR 1) (gR 2)) (cM (.int 0)) (kP (R none none none none))=.ok (.bl (decide (0<vc cut p))):=gZ (gZ rfl rfl Q) rfl rfl;by_cases o:0<vc cut p
  .have:h=1:=by show wX (vc cut p)=1;unfold wX;rw[aR o]
   rw[aC o]at A;rw[this];exact gZ (x:=.lst [.int (-1),.int 1]) (y:=.int 1) rfl (lY A rfl) rfl
  .have:h = -1:=by show wX (vc cut p) = -1;unfold wX;rw[aS o,aR (by lia)]
   rw[aB o]at A;rw[this];exact gZ (x:=.lst [.int (-1),.int 1]) (y:=.int 0) rfl (lY A rfl) rfl
 have e4:lB [none,none,some 3,some 1,some 2,some 0] (n0 (gQ (gR 0) (gQ (gR 1) gW))) (oT 2 (je (ku 0) (je (ku 1) oR))) (λ_=>.ok true) (zL c) (kP (R (some (.p (.int h))) none none none))=.ok (v.map T.int):=jX (a.zip cut) (λx=>T.tup [.int x.1,.int x.2]) (λx=>T.int (h*(x.1*vc cut p-vc a p*x.2))) (uV rfl rfl rfl rfl) (by rw[fL];lia) (λx f=>⟨_,rfl,rfl,by have I:=L _ (aX f).1;have u:=F _ (aX f).2;have m1:=I.ok N (by lia) (by lia);have m2:=H.ok u (by lia) (by lia);exact gZ rfl (gZ (gZ rfl (gZ rfl rfl Q) (lq m1)) (gZ (gZ rfl rfl i1) rfl (lq m2)) rfl) (lq (P.ok ((I.mul N).sub (H.mul u)) (by lia) (by lia)))⟩) (by simp only[v];rw[aJ];rfl)
 let w:=wo v p;have wl:w.length+1=n:=by have:=JS (row:=v) (p:=p) (by lia);lia
 have wb:∀x∈w,Bn (B+B+2) x:=λx f=>vb x (by
  have f:x∈v.take p++v.drop (p+1):=f;rcases ai.mp f with q|q
  .exact dB q
  .exact dq q)
 have Z:ig jw (kR (gR 4) (λ_=>.ok none) (ju (gR 2))) (kR (gR 4) (ju (ig jw (gR 2) (cM (.int 1)))) (λ_=>.ok none)) (kP (R (some (.p (.int h))) (some (.p (.lst (v.map T.int)))) none none))=.ok (.lst (w.map T.int)):=by refine gZ (zZ (d:=p) rfl rfl) (uy (d:=p+1) rfl (gZ rfl rfl (by rw[jj];simp))) ?_;rw[<-eE,<-eF,NU _ _ (by simp;lia),<-a9];rfl
 let r (b:Int) (l:Option W):En:=R (some (.p (.int h))) (some (.p (.lst (w.map T.int)))) (some (.p (.int b))) l;obtain⟨J,e6,b,l,rfl,d1,d2,t,K⟩:=ly (m:=ot 6) (g:=y9 c) T.int (λk J=>∃(b:Int) (l:Option W),J=r b l/\0<=b/\Bn (B+B+2) b/\(∀x∈w.take k,b ∣ x)/\∀e:Int,(∀x∈w.take k,e ∣ x)->e ∣ b) w 0 (r 0 none) ⟨0,none,rfl,by decide,vH,(λx f=>by simp at f),λe _=>gB e⟩ (by
  rintro i x J C ⟨b,x2,rfl,I,u,U,S⟩;rw[aH]at U S ⊢;have D:=au C;refine⟨_,r (Cu.G b x) (some (.p (.int x))),rfl,.inl (iw (lE rfl rfl (yf b x)) rfl),_,_,rfl,Cu.nH _ _,?_,λz s=>?_,λe E=>?_⟩
  .by_cases j:x=0
   .rw[j,Cu.wd];exact cQ (by lia) u
   .have q1:=Cu.Sh b x j;have q2:=Cu.nH b x;exact cQ (by lia) (wb x D)
  .rw[jP w i x C]at s;rcases ai.mp s with q|q
   .exact fC (Cu.sE b x) (U z q)
   .rw[aj.mp q];exact Cu.n6 b x
  .rw[jP w i x C]at E;exact gE (S e λz s=>E z (by simp[s])) (E x (by simp)))
 rw[aH,fE]at t K;let m:Int:=max 1 b;have hm:m≠0:=by show max 1 b≠0;lia
 have bm:Bn (B+B+2) m:=by show (max 1 b).natAbs<2 ^ (B+B+2);have:b.natAbs<2 ^ (B+B+2):=d2;lia
 have e7:lB [none,some 5] (jK (gR 4)) (ku 0) (λ_=>.ok true) (zK c) (vw (r b l))=.ok ((w.map λx=>x.fdiv m).map T.int):=jX w T.int (λx=>T.int (x.fdiv m)) rfl (by lia) (λx f=>⟨_,rfl,rfl,gZ (y:=.int m) rfl (JG 1 b) (qC hm (bm.noPy (by lia)))⟩) (by rw[aJ];rfl)
 have e8:mR c [tI a,tI cut,.int (p:Int)]=.ok (tI (w.map λx=>x.fdiv m)):=iU rfl (gY (ρ':=R (some (.p (.int h))) none none none) (iw e3 rfl) (gY (ρ':=R (some (.p (.int h))) (some (.p (.lst (v.map T.int)))) none none) (iw (jo e4) rfl) (gY (ρ':=R (some (.p (.int h))) (some (.p (.lst (w.map T.int)))) none none) (iw Z rfl) (gY (ρ':=r 0 none) (iw rfl rfl) (gY (mw rfl e6) (iE (lY (jo e7) rfl)))))))
 have X:∀i,vc w i=Wv cut a p (sk p i):=λi=>by rw[show vc w i=vc v (sk p i) from P6 (by lia) i,vv]
 refine⟨_,e8,⟨by simp;lia,?_,?_⟩⟩
 .by_cases z:b=0
  .intro g _ Y;obtain⟨x,f,j⟩:=PY Y;obtain⟨y,hy,rfl⟩:=aE.mp f;have:=t y hy;rw[z]at this;rw[Int.zero_dvd.mp this,Int.zero_fdiv]at j;exact absurd rfl j
  .have:m=b:=by show max 1 b=b;lia
   rw[this];exact (DN z t K).2
 .by_cases z:b=0
  .refine⟨1,1,by decide,by decide,λi=>?_⟩;have:m=1:=by show max 1 b=1;lia
   rw[<-X i,this];have:(w.map λx=>x.fdiv 1)=w:=by refine (dS λx _=>?_).trans (List.map_id w);simp
   rw[this]
  .have:m=b:=by show max 1 b=b;lia
   refine⟨b,1,by lia,by decide,λi=>?_⟩;rw[<-X i,this,eX];exact ((DN z t K).1 i).symm
def C3{f:Nat->Bool}{n i:Nat}(d:i<n)(h:f i=true)(b:∀k,k<i->f k=false):∃r,(List.range n).filter f=i::r:=by
 obtain⟨m,rfl⟩:∃m,n=i+(m+1):=⟨n-i-1,by lia⟩;rw[List.range_add,f6];have:(List.range i).filter f=[]:=gq.mpr λk a=>by rw[b k (aT.mp a)];decide
 rw[this,cD,bJ,cj,gh,c9,aR h];exact⟨_,rfl⟩
def G3(a:LL)(one:LI):List Nat:=(List.range a.length).filter λi=>ke (a.getD i []) one
section
variable {α:Type}{m:T->En->Option En}{g:En->List (List T)->rL}{j:Nat}
theorem zE enc (P:Nat->En->List (List T)->Prop):∀(l:List α) (k:Nat) (ρ:En) (d:List (List T)),P k ρ d->
  (∀i a ρ d,l[i]? = some a->P (k+i) ρ d->∃p o f,m (enc a) ρ=some p/\p[j]? = some none/\(g p d=.nx o f\/g p d=.ct o f)/\P (k+i+1) o f)->∃ρ' n,qR m g j (l.map enc) ρ d=.nx ρ' n/\P (k+l.length) ρ' n
 |[],k,ρ,d,h,_=>⟨ρ,d,rfl,h⟩
 |a::l,k,ρ,d,h,st=>by
  obtain⟨p,o,f,v,w,q,t⟩:=st 0 a ρ d rfl h;obtain⟨ρ',n,e,u⟩:=zE enc P l (k+1) o f t λi b ρ d s r=>by have:=st (i+1) b ρ d (by simpa using s) (by rw[show k+(i+1)=k+1+i by lia];exact r);rw[show k+(i+1)+1=k+1+i+1 by lia]at this;exact this
  refine⟨ρ',n,?_,by rw[az,show k+(l.length+1)=k+1+l.length by lia];exact u⟩;rw[bJ];unfold qR;rw[v];dsimp only;rw[w];dsimp only;rcases q with q|q<;>rw[q]<;>exact e
variable {a b:En->List (List T)->rL}{ρ ρ':En}{tss tss':List (List T)}{r:rL}{fc:Pe->M Bool}{ga:En->O}
def m7(h:a ρ tss=.nx ρ' tss')(d:b ρ' tss'=r):wj a b ρ tss=r:=by unfold wj;rw[h];exact d
def Nh(h:a ρ tss=.ct ρ' tss'):wj a b ρ tss=.ct ρ' tss':=by unfold wj;rw[h]
def FG(h:fc (vw ρ)=.ok true)(d:a ρ tss=r):OF fc a b ρ tss=r:=by unfold OF;rw[h];exact d
def Dy(h:fc (vw ρ)=.ok false)(d:b ρ tss=r):OF fc a b ρ tss=r:=by unfold OF;rw[h];exact d
def By(h:ga ρ=.nx ρ')(e:ρ'[j]? = some none):qJ j ga ρ tss=.nx ρ' tss:=by unfold qJ;rw[h];dsimp only;rw[e]
def NJ{f:Pe->M (List T)}{us:List T}(h:f (kP ρ)=.ok us)(d:tss.length<sizeLine):yD f ρ tss=.nx ρ (tss++[us]):=by unfold yD;rw[h];dsimp only;rw[aR d]
def OR{d f:Pe->M T}{i:Nat}{ts:List T}{t:T}(l:d (kP ρ)=.ok (.int (i:Int)))(k:tss[i]? = some ts)(h:f (kP ρ)=.ok t)(n:ts.length<sizeLine):yT d f ρ tss=.nx ρ (tss.set i (ts++[t])):=by
 have o:i<tss.length:=(aa.mp k).1;have e:wW tss.length (i:Int)=some i:=by unfold wW;rw[aR (by lia),aR (by lia)];simp
 unfold yT;rw[l];dsimp only;rw[e];dsimp only;rw[k];dsimp only;rw[h];dsimp only;rw[aR n]
end
def FW(D:Nat)(one:LI):Bool:=(one.take D).any (· != 0)
abbrev Ry:=LL×List (List Nat)
def oy(D:Nat)(S:Ry)(j:Nat)(one:LI):Ry:=if FW D one then (match G3 S.1 one with
 |[]=>(S.1++[one],S.2++[[j]])
 |i::_=>(S.1,S.2.set i (S.2.getD i []++[j]))) else S
def oI(D:Nat)(o:Nat->LI):Nat->Ry
 |0=>([],[])
 |k+1=>oy D (oI D o k) k (o k)
structure UR(B D:Nat)(o:Nat->LI)(k:Nat)(S:Ry):Prop where
 gc:∀s∈S.1,GC D B s
 len:S.1.length<=k
 pw:S.1.Pairwise λa b=>ke a b=false
 whl:S.2.length=S.1.length
 wh:∀(i:Nat) s,S.1[i]? = some s->∃j0 r,S.2[i]? = some (j0::r)/\j0<k/\s=o j0/\(j0::r).length<=k
def PV{B D:Nat}{one:LI}(d:one.length=D+1)(b:∀x∈one,Bn B x)(h:FW D one=true):GC D B one:=by refine⟨⟨d,b⟩,?_⟩;obtain⟨x,e,a⟩:=fN.mp h;obtain⟨i,f,rfl⟩:=dC.mp e;rw[bQ]at f;refine⟨i,by lia,?_⟩;rw[jZ one i (by lia)];rw[fS]at a;simpa using a
def LA{B D:Nat}{o:Nat->LI}{k:Nat}{S:Ry}(h:UR B D o k S)(y:(o k).length=D+1)(p:∀x∈o k,Bn B x):UR B D o (k+1) (oy D S k (o k)):=by
 have m:∀(i:Nat) s,S.1[i]? = some s->∃g r,S.2[i]? = some (g::r)/\g<k+1/\s=o g/\(g::r).length<=k+1:=λi s e=>by obtain⟨g,r,a,b,d,f⟩:=h.wh i s e;exact⟨g,r,a,by lia,d,by lia⟩
 unfold oy;split
 .rename_i w;split
  .rename_i n;have no:∀s∈S.1,ke s (o k)=false:=λs t=>by obtain⟨i,j,rfl⟩:=dC.mp t;have:=gq.mp n i (aT.mpr j);rw[af,ag j]at this;simpa using this
   refine⟨λs t=>?_,by simp;have:=h.len;lia,cV.mpr ⟨h.pw,by simp,λa n b p=>by rw[aj.mp p];exact no a n⟩,by simp[h.whl],λi s e=>?_⟩
   .rcases ai.mp t with q|q
    .exact h.gc s q
    .rw[aj.mp q];exact PV y p w
   .by_cases j:i<S.1.length
    .dsimp only at e ⊢;rw[List.getElem?_append_left j]at e;rw[List.getElem?_append_left (by rw[h.whl];exact j)];exact m i s e
    .have l:i<(S.1++[o k]).length:=(aa.mp e).1;rw[aU,cf]at l;have u:i=S.1.length:=by lia
     subst u;dsimp only at e ⊢;rw[List.getElem?_append_right (aL _),c7]at e;refine⟨k,[],?_,by lia,by simpa using e.symm,by simp⟩;rw[List.getElem?_append_right (by rw[h.whl];exact aL _),h.whl,c7];rfl
  .rename_i v z n;refine⟨h.gc,by have:=h.len;dsimp only;lia,h.pw,by dsimp only;rw[bU];exact h.whl,λi s e=>?_⟩;obtain⟨g,r,a,b,d,f⟩:=h.wh i s e;by_cases j:v=i
   .subst j;have l:v<S.2.length:=(aa.mp a).1;refine⟨g,r++[k],?_,by lia,d,by simp at f ⊢;lia⟩;dsimp only;rw[List.getElem?_set_self l,af,a];rfl
   .refine⟨g,r,?_,by lia,d,by lia⟩;dsimp only;rw[aq j];exact a
 .exact⟨h.gc,by have:=h.len;lia,h.pw,h.whl,m⟩
theorem Aw{B D:Nat}{o:Nat->LI}{n:Nat}(b:∀k,k<n->(o k).length=D+1)(a:∀k,k<n->∀x∈o k,Bn B x):∀k,k<=n->UR B D o k (oI D o k)
 |0,_=>⟨λ_ h=>(nomatch h),aL _,.nil,rfl,λi s e=>by simp[oI]at e⟩
 |k+1,h=>LA (Aw b a k (by lia)) (b k (by lia)) (a k (by lia))
def nT(l:List Nat):List T:=l.map λ(k:Nat)=>T.int (k:Int)
def TR(t:T) ts:jD (.lst (t::ts)) (.int 0)=.ok t:=by have h:qx (t::ts) ((0:Nat):Int)=some t:=rD rfl;unfold jD;show (match qx (t::ts) ((0:Nat):Int) with|some t=>M.ok t|none=>.bad)=_;rw[h]
def GB{cut ys:LI}{p D:Nat}(h:yy cut cut p ys):FW D ys=false:=by
 obtain⟨a,b,j,g,e⟩:=h.ex;have z:∀i,vc ys i=0:=λi=>by
  have:=e i;have w:Wv cut cut p (sk p i)=0:=by unfold Wv;rw[<-uf];grind
  rw[w,fv]at this;rcases fw.mp this with q|q
  .lia
  .exact q
 unfold FW;refine bH.mpr λx d=>?_;have d:=dB d;obtain⟨i,f,rfl⟩:=dC.mp d;rw[<-jZ ys i f,z i];decide
def UT{D:Nat}{one:LI}(d:one.length=D+1):decide (one.dropLast=List.replicate D (0:Int))=!FW D one:=by
 have e:one.dropLast=one.take D:=by rw[eM,d];rfl
 rw[e];cases h:FW D one with
 |true=>refine aB λq=>?_;unfold FW at h;rw[q]at h;obtain⟨x,a,b⟩:=fN.mp h;rw[(List.mem_replicate.mp a).2]at b;exact absurd b (by decide)
 |false=>refine aC (fM.mpr ⟨by rw[bQ,d];lia,λx a=>?_⟩);have:=bH.mp h x a;simpa using this
def sY(d:Nat)(L a:List Vc):Prop:=∀F:List Vc,nK d (F++L)=nK d (F++a)/\∀m,wD d m (F++L)=wD d m (F++a)
section
variable {d:Nat}{L L' L'':List Vc}{x y:Vc}
def sY.refl(L:List Vc):sY d L L:=λ_=>⟨rfl,λ_=>rfl⟩
def sY.trans(h:sY d L L')(h':sY d L' L''):sY d L L'':=λF=>⟨(h F).1.trans (h' F).1,λm=>((h F).2 m).trans ((h' F).2 m)⟩
def sY.symm(h:sY d L L'):sY d L' L:=λF=>⟨(h F).1.symm,λm=>((h F).2 m).symm⟩
def sY.cons(x:Vc)(h:sY d L L'):sY d (x::L) (x::L'):=λF=>by have:=h (F++[x]);simp only[bZ,gz]at this;exact this
def sY.perm(h:L.Perm L'):sY d L L':=λF=>⟨mx (h.append_left F),λm=>oo (h.append_left F)⟩
def sY.dup{k l:Int}(b:k≠0)(e:∀i,l*y i=k*x i)(f:x∈L):sY d (y::L) L:=λF=>by have p:(F++y::L).Perm (y::(F++L)):=cU;have a:x∈F++L:=bF _ f;exact⟨(mx p).trans (Kl b e a),λm=>(oo p).trans (Rw b e a)⟩
def sY.no(h:∀i,i<d->y i=0)(a:y d≠0):sY d (y::L) L:=λF=>by have p:(F++y::L).Perm (y::(F++L)):=cU;exact⟨(mx p).trans (Fu h a _),λm=>(oo p).trans (FC h a _)⟩
def sY.prop{k l:Int}(b:k≠0)(a:l≠0)(e:∀i,l*y i=k*x i):sY d (y::L) (x::L):=(sY.dup (y:=x) (x:=y) (L:=y::L) (k:=l) (l:=k) a (λi=>(e i).symm) (by simp)).symm.trans ((sY.perm (List.Perm.swap y x L)).trans (sY.dup b e (by simp)))
end
def zF{a b:LI}{p:Nat}(m:a.length=b.length)(e:p<a.length)(h:ke a b=true):∀i,vc a p*vc b i=vc b p*vc a i:=λi=>by
 have d:∀k j,k<a.length->j<k->vc a k*vc b j=vc a j*vc b k:=λk j l g=>by unfold ke at h;have:=cH.mp (cH.mp h k (aT.mpr l)) j (aT.mpr g);simpa using this
 by_cases f:i<a.length
 .rcases gG i p with q|q|q
  .have:=d p i e q;grind
  .rw[q];grind
  .have:=d i p f q;grind
 .rw[jm b i (by lia),jm a i (by lia)];lia
def vU{a b:LI}{p:Nat}(d:vc a p≠0)(h:∀i,vc a p*vc b i=vc b p*vc a i):ke a b=true:=by
 unfold ke;refine cH.mpr λk f=>cH.mpr λj e=>?_;have f:=h k;have e:=h j;have:vc a p*(vc a k*vc b j-vc a j*vc b k)=0:=by grind
 have:=(fw.mp this).resolve_left d;simp;lia
theorem Mu{D B B':Nat}{d:LL}{k p:Nat}{o:Nat->LI}(Q:uk (D+1) B d)(C:k<d.length)(hp:p<=D)(R:vc (d.getD k []) p≠0)
  (w:∀j,j<d.length->yy (d.getD k []) (d.getD j []) p (o j)/\∀y∈o j,Bn B' y):∀n,n<=d.length->sY D ((((List.range n).filter (· != k)).reverse).map λj=>sA (vc (d.getD k [])) p (vc (d.getD j []))) ((oI D o n).1.map vc):=by
 have U:∀j,j<d.length->(d.getD j []).length=D+1+1:=λj h=>(Q.gc _ (kQ d j h)).gl.1;have u:∀j,j<d.length->(o j).length=D+1:=λj h=>by have h1:=(w j h).1.len;have h2:=U j h;lia
 have run:=Aw (D:=D) (o:=o) u (λj h=>(w j h).2);have prop:∀j,j<d.length->∃a b:Int,a≠0/\b≠0/\∀i,b*sA (vc (d.getD k [])) p (vc (d.getD j [])) i=a*vc (o j) i:=λj h=>by
  obtain⟨a,b,N,F,e⟩:=(w j h).1.ex;have J:wX (vc (d.getD k []) p)≠0:=λz=>by have:=uf (vc (d.getD k []) p);rw[z,eY]at this;lia
  refine⟨a,b*wX (vc (d.getD k []) p),by lia,λz=>(fw.mp z).elim (by lia) J,λi=>?_⟩;rw[e i];unfold Wv sA;rw[<-uf];grind
 intro n;induction n with
 |zero=>exact λ_=>sY.refl _
 |succ n A=>
  intro hn;have A:=A (by lia);have I:=run n (by lia);have T1:(oI D o (n+1))=oy D (oI D o n) n (o n):=rfl;rw[fZ,f6,dz,T1];by_cases g:n=k
  .have X:[n].filter (· != k)=[]:=by simp[g]
   have sn:=(w n (by lia)).1;have:FW D (o n)=false:=GB (cut:=d.getD k []) (p:=p) (by rw[g]at sn ⊢;exact sn);rw[X,List.reverse_nil,cj];unfold oy;rw[this];exact A
  .have X:[n].filter (· != k)=[n]:=by simp[g]
   rw[X,List.reverse_singleton,gz,bJ];obtain⟨a,b,N,F,e⟩:=prop n (by lia);refine (sY.cons _ A).trans ?_;unfold oy;cases hc:FW D (o n) with
   |false=>
    have z:∀i,i<D->vc (o n) i=0:=λi Z=>by
     have:=bH.mp hc (vc (o n) i) (by rw[jZ (o n) i (by rw[u n (by lia)];lia)];exact au (i:=i) (by rw[List.getElem?_take,aR Z,ag (by rw[u n (by lia)];lia)]))
     simpa using this
    have zt:∀i,i<D->sA (vc (d.getD k [])) p (vc (d.getD n [])) i=0:=λi Z=>by have:=e i;rw[z i Z,fv]at this;exact (fw.mp this).resolve_left F
    refine sY.no zt λzd=>?_;have all:∀i,vc (d.getD k []) p*vc (d.getD n []) i=vc (d.getD n []) p*vc (d.getD k []) i:=λi=>by
     by_cases Y:i=p
     .rw[Y];grind
     .obtain⟨m,hi'⟩:∃m,sk p m=i:=by
       by_cases q:i<p
       .exact⟨i,by unfold sk;rw[aR q]⟩
       .exact⟨i-1,by unfold sk;rw[aS (by lia)];lia⟩
      have t0:sA (vc (d.getD k [])) p (vc (d.getD n [])) m=0:=by
       rcases gG m D with q|q|q
       .exact zt m q
       .rw[q];exact zd
       .unfold sA;have:D+2<=sk p m:=by unfold sk;split<;>lia
        rw[jm (d.getD n []) (sk p m) (by rw[U n (by lia)];exact this),jm (d.getD k []) (sk p m) (by rw[U k C];exact this)];lia
      unfold sA at t0;rw[hi']at t0;lia
    have s1:=vU R all;have E:=Q.pw;rw[du]at E;have gk:d.getD k []=d[k]:=by rw[af,ag C];rfl
    have gn:d.getD n []=d[n]'(by lia):=by rw[af,ag (by lia)];rfl
    rw[gk,gn]at s1 all;rcases gH g with q|q
    .have f:=E n k (by lia) C q;obtain⟨t,L,s⟩:=(Q.gc (d[n]'(by lia)) (aW _)).re;rw[gk]at R;have np:vc (d[n]'(by lia)) p≠0:=λz=>by have:=all t;rw[z,eY]at this;exact (fw.mp this).elim R s
     rw[vU np λi=>(all i).symm]at f;cases f
    .have f:=E k n C (by lia) q;rw[s1]at f;cases f
   |true=>
    simp only[if_true];cases S:G3 (oI D o n).1 (o n) with
    |nil=>refine (sY.prop N F e).trans (sY.perm ?_);show (vc (o n)::(oI D o n).1.map vc).Perm (((oI D o n).1++[o n]).map vc);rw[a9];exact (List.perm_append_singleton (vc (o n)) ((oI D o n).1.map vc)).symm
    |cons i0 r=>
     have mem:i0∈G3 (oI D o n).1 (o n):=by rw[S];simp
     obtain⟨m1,m2⟩:=aV.mp mem;have v:=aT.mp m1;have K:=I.gc _ (kQ (oI D o n).1 i0 v);obtain⟨t,L,s⟩:=K.re;have sp:=zF (a:=(oI D o n).1.getD i0 []) (b:=o n) (p:=t) (by rw[K.gl.1,u n (by lia)]) (by rw[K.gl.1];lia) m2;have H:=PV (u n (by lia)) (w n (by lia)).2 hc;obtain⟨q2,hq2,P⟩:=H.re;have bp:vc (o n) t≠0:=λz=>by have:=sp q2;rw[z,eY]at this;exact (fw.mp this).elim s P
     refine sY.dup (x:=vc ((oI D o n).1.getD i0 [])) (k:=a*vc (o n) t) (l:=b*vc ((oI D o n).1.getD i0 []) t) (λz=>(fw.mp z).elim N bp) (λi=>?_) (aE.mpr ⟨_,kQ _ i0 v,rfl⟩);have h1:=e i;have h2:=sp i;grind
def E4{n k:Nat}(a:k<n):(List.range n).Perm (k::((List.range n).filter (· != k)).reverse):=by
 refine (List.perm_ext_iff_of_nodup gJ (bO.mpr ⟨λh=>?_,(gM _).symm.nodup (gJ.filter _)⟩)).mpr λx=>?_
 .have:=List.mem_reverse.mp h;have:=(aV.mp this).2;simp at this
 .rw[aG,List.mem_reverse,aV,aT];by_cases e:x=k
  .subst e;simp[a]
  .simp[e]
def M7{n k:Nat}(j:k<n):((List.range n).filter (· != k)).reverse.Perm (List.range k++(List.range n).drop (k+1)):=by
 refine (gM _).trans ?_;have e:List.range n=List.range k++k::(List.range n).drop (k+1):=by
  have d:(List.range n).take k=List.range k:=by rw[List.take_range,dJ (by lia)]
  have h:(List.range n).drop k=k::(List.range n).drop (k+1):=by rw[cS (by rw[dP];exact j),gw]
  rw[<-d,<-h,dF]
 have nd:(List.range k++k::(List.range n).drop (k+1)).Nodup:=by rw[<-e];exact gJ
 have f:(List.range n).filter (· != k)=List.range k++(List.range n).drop (k+1):=by
  rw[e];have a:=eR.mp nd;rw[f6,gh];simp only[bne_self_eq_false,cu,if_false];have g:(List.range k).filter (· != k)=List.range k:=gN.mpr λx b=>by have:=aT.mp b;simp;lia
  have i:((List.range n).drop (k+1)).filter (· != k)=(List.range n).drop (k+1):=gN.mpr λx b=>by have:=(bO.mp a.2.1).1;simp only[bne_iff_ne,ne_eq];intro z;exact this (z▸b)
  rw[g,i];congr 1;rw[<-e]
 rw[f]
def NV{c:Cs}{D B n:Nat}{a:LL}{k p:Nat}{o:Nat->LI}(s:uk (D+1) B a)(g:k<a.length)(b:p<=D)(d:vc (a.getD k []) p≠0)
  (q:∀j,j<a.length->yy (a.getD k []) (a.getD j []) p (o j)/\∀y∈o j,Bn n y) :
  nK (D+1) (a.map vc)=nK (D+1) ((a.take k++a.drop (k+1)).map vc)+nK D ((oI D o a.length).1.map vc)/\
  ∀m,wD (D+1) m (a.map vc)=wD (D+1) m ((a.take k++a.drop (k+1)).map vc)-wD D m ((oI D o a.length).1.map vc):=by
 let F:List Nat:=((List.range a.length).filter (· != k)).reverse;let R:List Vc:=F.map λz=>vc (a.getD z []);have i:(a.map vc).Perm (vc (a.getD k [])::R):=by rw[<-qG];exact (E4 g).map _
 have h:R.Perm ((a.take k++a.drop (k+1)).map vc):=by
  have e:(List.range k++(List.range a.length).drop (k+1)).map (λz=>vc (a.getD z []))=(a.take k++a.drop (k+1)).map vc:=by rw[a9,a9,eF,qG,<-eF];congr 1;have:=congrArg (List.take k) (qG a);rw[<-eE,<-eE,List.take_range,dJ (by lia)]at this;exact this
  rw[<-e];exact (M7 g).map _
 have r:=Mu s g b d q a.length (aL _);have l:R.map (sA (vc (a.getD k [])) p)=F.map λj=>sA (vc (a.getD k [])) p (vc (a.getD j [])):=by show (F.map _).map _=_;rw[aJ];rfl
 have f:=r [];rw[cj,cj]at f;constructor
 .rw[mx i,zR b d,l,f.1,mx h]
 .intro m;rw[oo i,BF b d,l,oo h];rw[f.2 m]
def uk.sub{a us:LL}(h:uk d B a)(s:us.Sublist a):uk d B us:=⟨λf b=>h.gc f (s.subset b),aO s.length_le h.few,h.pw.sublist s⟩
abbrev MM(cs:LL)(k:Nat):LL:=cs.take k++cs.drop (k+1)
def Gu cs k:(MM cs k).Sublist cs:=by rw[show MM cs k=cs.eraseIdx k from (List.eraseIdx_eq_take_drop_succ cs k).symm];exact List.eraseIdx_sublist cs k
def NI{a:LL}(h:k<a.length):(MM a k).length+1=a.length:=by simp;lia
def Qc{b:LL}(h:k<b.length) i:(MM b k).getD i []=b.getD (sk k i) []:=by
 unfold MM sk;rw[af,af];by_cases a:i<k
 .rw[aR a,List.getElem?_append_left (by simp;lia),List.getElem?_take_of_lt a]
 .rw[aS a,List.getElem?_append_right (by simp;lia),bQ,dJ (by lia),List.getElem?_drop];congr 2;lia
def Qe{d B:Nat}{a:LL}(k:uk d B a){i j:Nat}(b:i<a.length)(e:j<a.length)(ne:i≠j):ke (a.getD i []) (a.getD j [])=false:=by
 have h:=k.pw;rw[du]at h;have g:∀i (b:i<a.length),a.getD i []=a[i]:=λi b=>by rw[af,ag b];rfl
 rw[g i b,g j e];rcases gH ne with q|q
 .exact h i j b e q
 .have f:=h j i e b q;refine dE.mpr λz=>?_;have l:=k.gc _ (aW b);have n:=k.gc _ (aW e);obtain⟨p,u,s⟩:=l.re;have m:=zF (p:=p) (by rw[l.gl.1,n.gl.1]) (by rw[l.gl.1];lia) z;obtain⟨r,hr,o⟩:=n.re;have t:vc a[j] p≠0:=λy=>by have:=m r;rw[y,eY]at this;exact (fw.mp this).elim s o
  rw[vU t λi=>(m i).symm]at f;cases f
def KM{a:LL}{k:Nat}(b:k<a.length):a.Perm (a.getD k []::MM a k):=by
 have e:a=a.take k++a.getD k []::a.drop (k+1):=by rw[af,ag b,Option.getD_some,<-cS b,dF]
 have p:(a.take k++a.getD k []::a.drop (k+1)).Perm (a.getD k []::(a.take k++a.drop (k+1))):=cU;rw[<-e]at p;exact p
def Fj{d:Nat}{m:Int}(h:(d:Int)<m)(us:List Vc):wD d m us=0:=by
 unfold wD;rw[iP (g:=λ_=>0) λB _=>?_,lW];have:bD d m B=0:=by unfold bD;rw[aS];rintro⟨_,r,_,e⟩;lia
 rw[this,eY]
theorem FP(D:Nat)(o:Nat->LI):∀n,(oI D o n).1.length<=n
 |0=>aL 0
 |n+1=>by
  have a:=FP D o n;show (oy D (oI D o n) n (o n)).1.length<=n+1;unfold oy;split
  .split
   .rw[aU,cf];lia
   .exact aO a (by lia)
  .lia
def LM(a b:Int)(h:a=b):iM false (.int a) (.int b)=.ok (.bl true):=by rw[iT,h];simp
def RM(a b:Int)(h:a=b):iM true (.int a) (.int b)=.ok (.bl false):=by rw[qQ,h];simp
theorem HD{D B:Nat}{b:LL}(hD:1<=D/\D<=2)(hB:B<=61)(hg:uk (D+1) B b)(k:Nat)(hk:k<b.length):∃(p:Nat) (S:Ry),
  (p<D+1/\vc (b.getD k []) p≠0/\∀q,q<p->vc (b.getD k []) q=0)/\(∃o:Nat->LI,S=oI D o b.length/\∀j,j<b.length->yy (b.getD k []) (b.getD j []) p (o j)/\∀y∈o j,Bn (B+B+1) y)/\uk D (B+B+1) S.1/\
  ki c [.int ((D+1:Nat):Int),.lst (b.map tI),.int (k:Int)]=.ok (.tup [.lst (S.1.map tI),.lst (S.2.map λl=>T.lst (nT l))]):=by
 have sz:1000<sizeLine:=by decide
 have h7:=hg.few;have X:∀j,j<b.length->GC (D+1) B (b.getD j []):=λj v=>hg.gc _ (kQ b j v);have s:=X k hk;obtain⟨q0,hq0,hq1⟩:=s.re;obtain⟨p,hpq,K,w⟩:=QA (P:=λi=>vc (b.getD k []) i≠0) q0 hq1;have w:∀q,q<p->vc (b.getD k []) q=0:=λq hq=>aP λz=>w q hq z;obtain⟨o,R⟩:=rF (P:=λ(j:Nat) (ys:LI)=>yZ c [tI (b.getD k []),tI (b.getD j [])]=.ok (tI ys)/\mR c [tI (b.getD j []),tI (b.getD k []),.int (p:Int)]=.ok (tI ys)/\yy (b.getD k []) (b.getD j []) p ys/\∀y∈ys,Bn (B+B+1) y) (List.range b.length) λj v=>by have gj:=X j (aT.mp v);obtain⟨ys,e1,s1,L⟩:=Pf (c:=c) (n:=D+2) hB s.gl.1 gj.gl.1 (by lia) (by lia) s.gl.2 gj.gl.2 K w;obtain⟨zs,e2,s2⟩:=GR (c:=c) (n:=D+2) hB s.gl.1 gj.gl.1 (by lia) (by lia) s.gl.2 gj.gl.2 K;exact⟨ys,e1,by rw[s1.uniq s2];exact e2,s1,L⟩
 have R:∀j,j<b.length->_:=λj v=>R j (aT.mpr v);have ol:∀j,j<b.length->(o j).length=D+1:=λj v=>by have h1:=(R j v).2.2.1.len;have h2:=(X j v).gl.1;lia
 have ob:∀j,j<b.length->∀x∈o j,Bn (B+B+1) x:=λj v=>(R j v).2.2.2;have run:=Aw (D:=D) (o:=o) ol ob;let S (i:Nat):Ry:=oI D o i;have Y:=run b.length (aL _);have gS:uk D (B+B+1) (S b.length).1:=⟨Y.gc,aO Y.len h7,Y.pw⟩;have U:∀j,j<b.length->jD (.lst (b.map tI)) (.int (j:Int))=.ok (tI (b.getD j [])):=λj v=>by have:qx (b.map tI) (j:Int)=some (tI (b.getD j [])):=rD (by rw[aw,af,ag v];rfl);simp only[jD,this]
 have alt:∀i,i<b.length->∀x∈G3 (S i).1 (o i),x<(S i).1.length:=λi _ x E=>aT.mp (aV.mp E).1;have st0:∀i,FW D (o i)=false->S (i+1)=S i:=λi h=>by show oy D (S i) i (o i)=_;unfold oy;rw[h];rfl
 have st1:∀i,FW D (o i)=true->G3 (S i).1 (o i)=[]->S (i+1)=((S i).1++[o i],(S i).2++[[i]]):=λi h h'=>by show oy D (S i) i (o i)=_;unfold oy;rw[h,h'];rfl
 have st2:∀i d r,FW D (o i)=true->G3 (S i).1 (o i)=d::r->S (i+1)=((S i).1,(S i).2.set d ((S i).2.getD d []++[i])):=λi d r h h'=>by show oy D (S i) i (o i)=_;unfold oy;rw[h,h'];rfl
 have nset:∀i d,((S i).2.set d ((S i).2.getD d []++[i])).map nT=((S i).2.map nT).set d (nT ((S i).2.getD d [])++[T.int (i:Int)]):=λi d=>by rw[fK];simp[nT]
 have nget:∀i d,i<b.length->d<(S i).1.length->((S i).2.map nT)[d]? = some (nT ((S i).2.getD d []))/\(nT ((S i).2.getD d [])).length<sizeLine:=λi d hi h=>by have I:=run i (by lia);obtain⟨j0,r,a,_,_,f⟩:=I.wh d _ (ag h);have a':(S i).2[d]? = some (j0::r):=a;rw[aw,af,a'];refine⟨rfl,?_⟩;show (nT (j0::r)).length<sizeLine;unfold nT;rw[ax];lia
 have slen:∀i,i<b.length->(S i).1.length<=7/\((S i).2.map nT).length<=7:=λi hi=>by have I:=run i (by lia);have h1:=I.len;have h2:=I.whl;have h1':(S i).1.length<=i:=h1;have h2':(S i).2.length=(S i).1.length:=h2;rw[ax];lia
 let Q (sn:LL) (x6 x7 x8:Option W):En:=[some (.p (.int ((D+1:Nat):Int))),some (.p (.lst (b.map tI))),some (.p (.int (k:Int))),some (.p (.int (p:Int))),some (.o (sn.map tI)),none,x6,x7,x8];obtain⟨F,tss2,e2,⟨z6,z7,z8,rfl⟩,rfl⟩:=zE (j:=5) (m:=ot 6) (g:=pP c) (λ(i:Nat)=>T.int (i:Int))
  (λi ρ tss=>(∃x6 x7 x8,ρ=Q (S i).1 x6 x7 x8)/\tss=(S i).2.map nT) (List.range b.length) 0 (Q [] none none none) [] ⟨⟨_,_,_,rfl⟩,rfl⟩ (by
   rintro i q ρ tss hi ⟨⟨x6,x7,x8,rfl⟩,rfl⟩;rw[aH]at *;obtain⟨C,ik⟩:=aa.mp hi;rw[gw]at ik;subst ik;rw[dP]at C;obtain⟨_,es,sn,_⟩:=R i C;obtain⟨l1,l2⟩:=slen i C;let A:List T:=(G3 (S i).1 (o i)).map λ(x:Nat)=>T.int (x:Int);let H:=Q (S i).1 (some (.p (.int (i:Int)))) x7 x8;let F:=Q (S i).1 (some (.p (.int (i:Int)))) (some (.p (tI (o i)))) x8;let u:=Q (S i).1 (some (.p (.int (i:Int)))) (some (.p (tI (o i)))) (some (.p (.lst A)));have a1:qJ 5 (setO 7 (kn (hZ (gQ (ig jD (gR 1) (gR 6)) (gQ (ig jD (gR 1) (gR 2)) (gQ (gR 3) gW))) (mR c)))) H ((S i).2.map nT)=.nx F ((S i).2.map nT):=By (iw (mV (gZ rfl rfl (U i C)) (gZ rfl rfl (U k hk)) rfl es) rfl) rfl;have ea:lB [none,some 7,some 4] (kC (gQ (kv kZ (gQ (gR 4) gW)) gW)) (ku 0) (jl (hZ (gQ (ig jD (gR 2) (gR 0)) (gQ (gR 1) gW)) (jJ c))) (qc c) (vw F)=.ok A:=
    sH (List.range (S i).1.length) (λ(x:Nat)=>T.int (x:Int)) (λ(x:Nat)=>T.int (x:Int)) (λx=>ke ((S i).1.getD x []) (o i)) (pK (S i).1.length (by lia) (lY (t:=.lst ((S i).1.map tI)) rfl (by simp))) (by rw[dP];lia) (λx E=>by
     have E:=aT.mp E;have gx:=(run i (by lia)).gc _ (kQ (S i).1 x E);have ix:jD (.lst ((S i).1.map tI)) (.int (x:Int))=.ok (tI ((S i).1.getD x [])):=by have:qx ((S i).1.map tI) (x:Int)=some (tI ((S i).1.getD x [])):=rD (by rw[aw,af,ag E];rfl);simp only[jD,this]
     exact⟨_,rfl,iN (lE (gZ rfl rfl ix) rfl (uZ (D+1) (B+B+1) _ _ gx.gl.1 (ol i C) (by lia) (by lia) gx.gl.2 (ob i C))),λ_=>rfl⟩) rfl
   have a2:qJ 5 (zv 8 (uA (lB [none,some 7,some 4] (kC (gQ (kv kZ (gQ (gR 4) gW)) gW)) (ku 0) (jl (hZ (gQ (ig jD (gR 2) (gR 0)) (gQ (gR 1) gW)) (jJ c))) (qc c)))) F ((S i).2.map nT)=.nx u ((S i).2.map nT):=By (Fk ea (by
    show Ew ((G3 (S i).1 (o i)).map λ(x:Nat)=>T.int (x:Int))=true;generalize G3 (S i).1 (o i)=l;induction l with
    |nil=>rfl
    |cons x l ih=>simp only[bJ,Ew,lf,ih];rfl) rfl) rfl
   have b2:jl (ig (iM false) (kR (gR 7) (λ_=>.ok none) (ju (xV (λi=>.int (-i)) (cM (.int 1))))) (C2 (oY (gQ (cM (.int 0)) gW)) (ig qh (gR 0) (cM (.int 1))))) (vw u)=.ok (!FW D (o i)):=by
    have hne:(o i).map T.int≠[]:=λz=>by have:=congrArg List.length z;rw[ax,ol i C]at this;simp at this
    refine iN (gZ (x:=.tup ((o i).dropLast.map T.int)) (y:=.tup ((List.replicate D (0:Int)).map T.int)) ?_ (Te D (by lia) (gZ rfl rfl (by rw[nV];congr 2;lia))) ?_)
    .rw[LG (ts:=(o i).map T.int) rfl hne,gO]
    .rw[R7,aS (by decide),UT (ol i C)]
   have L:jl (ig (iM false) (gR 6) (gR 2)) (vw u)=.ok (decide (i=k)):=by refine iN (gZ (x:=.int (i:Int)) (y:=.int (k:Int)) rfl rfl ?_);rw[iT];congr 2;rw[Bool.eq_iff_iff];simp;lia
   cases N:FW D (o i) with
   |false=>
    have tt:L3.Bo (jl (ig (iM false) (gR 6) (gR 2))) (jl (ig (iM false) (kR (gR 7) (λ_=>.ok none) (ju (xV (λi=>.int (-i)) (cM (.int 1))))) (C2 (oY (gQ (cM (.int 0)) gW)) (ig qh (gR 0) (cM (.int 1)))))) (vw u)=.ok true:=by
     by_cases J:i=k
     .rw[aC J]at L;exact Si L
     .rw[aB J]at L;rw[N]at b2;exact zW L b2
    exact⟨H,u,(S i).2.map nT,rfl,rfl,.inr (m7 a1 (m7 a2 (Nh (FG tt rfl)))),⟨_,_,_,by rw[st0 i N]⟩,by rw[st0 i N]⟩
   |true=>
    have J:i≠k:=λz=>by subst z;rw[GB sn]at N;cases N
    rw[aB J]at L;rw[N]at b2;have ff:=zW L b2;cases Z:G3 (S i).1 (o i) with
    |nil=>
     have t1:jl (ig (iM false) (gR 8) (jy (lstM gW))) (vw u)=.ok true:=by show jl (ig (iM false) (gR 8) (jy (lstM gW))) (vw (Q _ _ _ (some (.p (.lst ((G3 (S i).1 (o i)).map λ(x:Nat)=>T.int (x:Int)))))))=_;rw[Z];rfl
     have e:=st1 i N Z;refine⟨H,Q ((S i).1++[o i]) (some (.p (.int (i:Int)))) (some (.p (tI (o i)))) (some (.p (.lst A))),(S i).2.map nT++[[.int (i:Int)]],rfl,rfl,.inl (m7 a1 (m7 a2 (m7 (Dy ff rfl) (FG t1 (m7 (By (sr (us:=(S i).1.map tI) rfl rfl (by rw[ax];lia) ?_) rfl) (NJ rfl (by lia))))))),⟨_,_,_,by rw[e]⟩,by rw[e];simp[nT]⟩;show Q _ _ _ _=[_,_,_,_,some (.o ((S i).1.map tI++[tI (o i)])),_,_,_,_];simp[Q]
    |cons d r=>
     have hi0:d<(S i).1.length:=alt i C d (by rw[Z];simp);obtain⟨g1,g2⟩:=nget i d C hi0;have t1:jl (ig (iM false) (gR 8) (jy (lstM gW))) (vw u)=.ok false:=by refine iN (gZ (x:=.lst (((d:Int)::r.map λ(x:Nat)=>(x:Int)).map T.int)) (y:=.lst (([]:LI).map T.int)) ?_ rfl (by rw[DP];rfl));show M.ok (T.lst ((G3 (S i).1 (o i)).map λ(x:Nat)=>T.int (x:Int)))=_;rw[Z];simp
     have t2:ig jD (gR 8) (cM (.int 0)) (kP u)=.ok (.int (d:Int)):=by show ig jD (gR 8) (cM (.int 0)) (kP (Q _ _ _ (some (.p (.lst ((G3 (S i).1 (o i)).map λ(x:Nat)=>T.int (x:Int)))))))=_;rw[Z];exact gZ rfl rfl (TR _ _)
     have e:=st2 i d r N Z;exact⟨H,u,_,rfl,rfl,.inl (m7 a1 (m7 a2 (m7 (Dy ff rfl) (Dy t1 (OR t2 g1 rfl g2))))),⟨_,_,_,by rw[e]⟩,by rw[e];exact (nset i d).symm⟩)
 rw[aH,dP]at e2;have lawt:ki c [.int ((D+1:Nat):Int),.lst (b.map tI),.int (k:Int)]=.ok (.tup [.lst ((S b.length).1.map tI),.lst ((S b.length).2.map λl=>T.lst (nT l))]):=by
  let Q0 (x3 x4 x5:Option W):En:=[some (.p (.int ((D+1:Nat):Int))),some (.p (.lst (b.map tI))),some (.p (.int (k:Int))),x3,x4,x5,none,none,none];obtain⟨r,hr⟩:=C3 (f:=λi=>!(vc (b.getD k []) i==0)) (n:=D+1) (i:=p) (by lia) (by simpa using K) (λq hq=>by simpa using w q hq);have ep:lB [none,some 1,some 2] (kC (gQ (gR 0) gW)) (ku 0) (jl (ig (iM true) (ig jD (ig jD (gR 1) (gR 2)) (gR 0)) (cM (.int 0)))) (tK c) (kP (Q0 none none none))=.ok ((p::r).map λ(x:Nat)=>T.int (x:Int)):=sH (List.range (D+1)) (λ(x:Nat)=>T.int (x:Int)) (λ(x:Nat)=>T.int (x:Int)) (λi=>!(vc (b.getD k []) i==0)) (pK (D+1) (by lia) rfl) (by rw[dP];lia) (λx E=>by have E:=aT.mp E;exact⟨_,rfl,iN (gZ (gZ (gZ rfl rfl (U k hk)) rfl (kK _ x (by rw[s.gl.1];lia))) rfl (qQ _ _)),λ_=>rfl⟩) (by rw[hr])
  have f0:zI (kC (gQ (kv kZ (gQ (gR 1) gW)) gW)) 5 (ot 6) (pP c) (Q0 (some (.p (.int (p:Int)))) (some (.o [])) (some (.o [])))=.nx ((Q (S b.length).1 z6 z7 z8).set 5 (some (.o (((S b.length).2.map nT).map T.lst)))):=by unfold zI;show O.of (kC (gQ (kv kZ (gQ (gR 1) gW)) gW) (kP (Q0 _ _ _))) _=_;rw[pK b.length (by lia) (lY (t:=.lst (b.map tI)) rfl (by simp)),O.of_ok];show Pz 5 (qR _ _ 5 _ (Q [] none none none) [])=_;rw[e2];rfl
  refine iU rfl (gY (ρ':=Q0 (some (.p (.int (p:Int)))) none none) (iw (gZ (jo ep) rfl (TR _ _)) rfl) (gY (nC rfl rfl) (gY (nC rfl rfl) (gY f0 (iE (GU rfl ?_))))));show M.ok (T.lst (((S b.length).2.map nT).map T.lst))=_;rw[aJ];rfl
 exact⟨p,S b.length,⟨by lia,K,w⟩,⟨o,rfl,λj v=>⟨(R j v).2.2.1,(R j v).2.2.2⟩⟩,gS,lawt⟩
def sG(d:Nat)(m:Int):wD d m []=if m=d then 1 else 0:=by
 show bD d m []*nr ([]:List Vc)=_;have b:¬mh d []:=λh=>absurd (h (λ_=>1) λr hr=>absurd hr fY) (by decide);have f:AB (d+1) [] 0:=⟨[],⟨λp a=>absurd a fY,.nil⟩,rfl,λv=>⟨λ_ p a=>absurd a fY,λ_ p a=>absurd a fY⟩⟩;rw[GE b f,show nr ([]:List Vc)=1 from rfl,bC];by_cases e:m=d
 .rw[aR e,aR (by lia)]
 .rw[aS e,aS (by lia)]
theorem Vs{m:Int}:∀l:List Vc,(∀x∈l,x 0≠0)->wD 0 m l=wD 0 m []
 |[],_=>rfl
 |x::l,h=>by rw[FC (λi b=>absurd b (dM i)) (h x (by simp)),Vs l λy a=>h y (by simp[a])]
def Jj{B k:Nat}{a:LL}{m:Int}(g:uk 1 B a)(b:k<a.length):wD 1 m (a.map vc)=wD 1 m ((MM a k).map vc)-wD 0 m []:=by
 have j:=g.gc _ (MX b);obtain⟨p,s,n⟩:=j.re;have h:p=0:=by lia
 subst h;rw[oo ((KM b).map vc),bJ,BF (d:=0) (p:=0) (aL 0) n,Vs];intro x o;obtain⟨y,q,rfl⟩:=aE.mp o;obtain⟨w,hw,rfl⟩:=aE.mp q;obtain⟨i,r,f⟩:=fT hw;have e:w=a.getD (sk k i) []:=by rw[<-Qc b,af,ag r,f];rfl
 have t:=NI b;have l:sk k i<a.length/\k≠sk k i:=by unfold sk;split<;>lia
 have u:=Qe g b l.1 l.2;rw[<-e]at u;have v:=(g.gc w ((Gu a k).subset hw)).gl.1;intro z;have z:vc (a.getD k []) 0*vc w 1-vc w 0*vc (a.getD k []) 1=0:=z;refine absurd (vU n λi=>?_) (by rw[u];decide);match i with
 |0=>grind
 |1=>lia
 |i+2=>rw[jm w (i+2) (by lia),jm (a.getD k []) (i+2) (by have:=j.gl.1;lia)];lia
theorem Bi{B:Nat}{m:Int}:∀a:LL,uk 1 B a->wD 1 m (a.map vc)=wD 1 m []-a.length*wD 0 m []
 |[],_=>by simp
 |u::us,hg=>by
  have hw:=hg.sub (Gu (u::us) 0);have e:MM (u::us) 0=us:=by unfold MM;simp
  rw[e]at hw;rw[Jj hg (k:=0) (by simp),e,Bi us hw,az];grind
def NK(l:LL):iM false (.lst (l.map tI)) (.lst [])=.ok (.bl (decide (l=[]))):=by
 have a:rM (.lst (l.map tI))=true:=Kg l;have e:=wY l;have b:EO (.lst (l.map tI))<=100:=by rw[OS];lia
 have d:Dt (.lst (l.map tI)) (.lst [])=decide (l=[]):=by
  cases l with
  |nil=>rfl
  |cons u l=>rfl
 unfold iM;rw[a,d,aC b];rfl
def wL(d:Nat)(a:LL):List T:=(List.range (d+1)).map λ(m:Nat)=>T.int (wD d (m:Int) (a.map vc))
theorem w9:∀(f d B:Nat) (e:LL),1<=d/\d<=3->uk d B e->(d=3->B<=30)->(d=2->B<=61)->e.length+d<=f->jH c f [.int (d:Int),.lst (e.map tI)]=.ok (.lst (wL d e))
 |0,d,_,e,hd,_,_,_,h=>by lia
 |f+1,d,B,e,hd,hg,b3,b2,h=>by
  have sz:1000<sizeLine:=by decide
  have h7:=hg.few;let R (Z:Option W):En:=[some (.p (.int (d:Int))),some (.p (.lst (e.map tI))),Z];have k:jl (ig (iM false) (gR 1) (jy (lstM gW))) (vw (R none))=.ok (decide (e=[])):=iN (gZ rfl rfl (NK e));refine iU rfl ?_;show xi c (jH c f) (R none)=_;by_cases j:e=[]
  .subst j;refine k9 (jF k (iE (KZ (Qp d (by lia) (.int 0) rfl) (a:=_) (b:=[.int 1]) rfl (by simp;lia)))) ?_;congr 2;unfold wL;rw[fZ,a9,gP,cm,sG,aR rfl];congr 1;refine (fM.mpr ⟨by simp,λx A=>?_⟩).symm;obtain⟨m,u,rfl⟩:=aE.mp A;have:=aT.mp u;rw[sG,aS (by lia)]
  .rw[aB j]at k;refine gY (jM k rfl) ?_;have n:jl (ig (iM false) (gR 0) (cM (.int 1))) (vw (R none))=.ok (decide (d=1)):=iN (gZ rfl rfl (by
    rw[iT];by_cases q:d=1
    .subst q;rfl
    .rw[aB q,show ((d:Int)==1)=false by simp;lia]))
   by_cases s:d=1
   .subst s;refine k9 (jF n (iE (jo (QJ (xs:=[.int (-(e.length:Int)),.int 1]) ?_ (by show 2<=_;lia))))) ?_
    .show M.ok [T.int (-(((e.map tI).length:Nat):Int)),T.int 1]=_;rw[ax]
    .show O.rt (.lst [T.int (-(e.length:Int)),T.int 1])=O.rt (.lst [T.int (wD 1 ((0:Nat):Int) (e.map vc)),T.int (wD 1 ((1:Nat):Int) (e.map vc))]);rw[Bi e hg,Bi e hg,sG,sG,sG,sG,aS (by decide),aR (by decide),aR (by decide),aS (by decide)];congr 3;lia
   .rw[aB s]at n;refine gY (jM n rfl) ?_;obtain⟨D,rfl⟩:∃D,d=D+1:=⟨d-1,by lia⟩;have hl:0<e.length:=fJ.mpr j;have y:B<=61:=by
     by_cases q:D=2
     .have:=b3 (by lia);lia
     .exact b2 (by lia)
    obtain⟨p,S,⟨hp,X,-⟩,⟨o,v,I⟩,K,C⟩:=HD (c:=c) (by lia) y hg (e.length-1) (by lia);obtain⟨-,w⟩:=NV (c:=c) hg (show e.length-1<e.length by lia) (by lia) X I;have N:e.take (e.length-1)++e.drop (e.length-1+1)=e.dropLast:=by rw[dg (by lia),bM,eM]
    rw[N,<-v]at w;have Y:uk (D+1) B e.dropLast:=hg.sub (List.dropLast_sublist _);have sl:S.1.length<=e.length:=by rw[v];exact FP D o e.length
    have E:=w9 f (D+1) B e.dropLast hd Y b3 b2 (by rw[List.length_dropLast];lia);have J:=w9 f D (B+B+1) S.1 (by lia) K (λq=>by lia) (λq=>by have:=b3 (by lia);lia) (by lia);let R2:En:=R (some (.p (.lst (S.1.map tI))));have L:kR (gR 1) (λ_=>.ok none) (ju (xV (λi=>.int (-i)) (cM (.int 1)))) (kP R2)=.ok (.lst (e.dropLast.map tI)):=by show M.ok (T.lst (pG (e.map tI) none (some (-1))))=_;rw[zO,<-gO]
    have U:ig jD (hZ (gQ (gR 0) (gQ (gR 1) (gQ (ig qh (kv kZ (gQ (gR 1) gW)) (cM (.int 1))) gW))) (ki c)) (cM (.int 0)) (kP (R none))=.ok (.lst (S.1.map tI)):=by
     have z:ig qh (kv kZ (gQ (gR 1) gW)) (cM (.int 1)) (kP (R none))=.ok (.int ((e.length-1:Nat):Int)):=by refine gZ (x:=.int (e.length:Int)) (lY (t:=.lst (e.map tI)) rfl (by simp)) rfl ?_;rw[nV];congr 2;lia
     exact gZ (mV rfl rfl z C) rfl rfl
    refine gY (ρ':=R2) (iw U rfl) ?_;have F:ig qh (gR 0) (cM (.int 1)) (kP R2)=.ok (.int (D:Int)):=gZ rfl rfl (by rw[nV];congr 2;lia);have r:jy (wa (hZ (gQ (ig qh (gR 0) (cM (.int 1))) (gQ (gR 2) gW)) (jH c f)) (jy (lstM (gQ (cM (.int 0)) gW)))) (kP R2)=.ok (.lst (wL D S.1++[.int 0])):=KZ (lE F rfl J) rfl (by simp[wL];lia);have H:hZ (gQ (gR 0) (gQ (kR (gR 1) (λ_=>.ok none) (ju (xV (λi=>.int (-i)) (cM (.int 1))))) gW)) (jH c f) (kP R2)=.ok (.lst (wL (D+1) e.dropLast)):=lE rfl L E;have Q:wL D S.1++[T.int 0]=(List.range (D+1+1)).map λ(m:Nat)=>T.int (wD D (m:Int) (S.1.map vc)):=by rw[fZ,a9,gP,Fj (by lia)];rfl
    rw[Q]at r;refine iE (jo (jX (List.range (D+1+1)) (λ(m:Nat)=>T.tup [.int (wD (D+1) (m:Int) (e.dropLast.map vc)),.int (wD D (m:Int) (S.1.map vc))]) (λ(m:Nat)=>T.int (wD (D+1) (m:Int) (e.map vc))) ?_ (by simp;lia) (λm u=>⟨_,rfl,rfl,?_⟩) rfl))
    .have P:∀(f g:Nat->T) (l:List Nat),(l.zip l).map (λx=>T.tup [f x.1,g x.2])=l.map λm=>T.tup [f m,g m]:=λf g l=>by
      induction l with
      |nil=>rfl
      |cons x l ih=>rw[cR,bJ,bJ,ih]
     exact (uV (l:=List.range (D+1+1)) (m:=List.range (D+1+1)) H rfl r rfl).trans (congrArg M.ok (P (λ(m:Nat)=>T.int (wD (D+1) (m:Int) (e.dropLast.map vc))) (λ(m:Nat)=>T.int (wD D (m:Int) (S.1.map vc))) _))
    .refine gZ rfl rfl ?_;rw[nV,w m]
noncomputable def tS:Nat->(Nat->Int)->Int
 |0,_=>0
 |n+1,f=>tS n f+f n
theorem mO{f g:Nat->Int}:∀n,(∀m,m<n->f m=g m)->tS n f=tS n g
 |0,_=>rfl
 |n+1,h=>by show tS n f+f n=tS n g+g n;rw[mO n λm a=>h m (by lia),h n (by lia)]
theorem IE(f g:Nat->Int):∀n,tS n (λm=>f m+g m)=tS n f+tS n g
 |0=>rfl
 |n+1=>by show tS n _+(f n+g n)=tS n f+f n+(tS n g+g n);rw[IE f g n];lia
theorem AF:∀n,tS n (λ_=>0)=0
 |0=>rfl
 |n+1=>by show tS n _+0=0;rw[AF n];rfl
def Ke(k:Nat):Int:=if k % 2=0 then 1 else -1
def KJ(k:Nat):Ke (k+1) = -Ke k:=by
 unfold Ke;by_cases h:k % 2=0
 .rw[aR h,aS (by lia)]
 .rw[aS h,aR (by lia)];rfl
def GA{d:Nat}{m:Int}{u:Vc}(h:∀i,i<d+1->u i=0)(us:List Vc):wD d m (u::us)=0:=by
 show iR us (λB=>bD d m B*nr B)+iR us (λB=>bD d m (u::B)*nr (u::B))=0;have a:∀v,jC (d+1) u v=0:=λv=>by unfold jC;rw[iI (d+1) _ (λ_=>0) λi b=>by rw[h i b,eY]];exact kl _
 have e:∀B,bD d m (u::B)=bD d m B:=λB=>Aq λv=>⟨λq r hr=>q r (bx _ hr),λq r hr=>by
  rcases aG.mp hr with rfl|hr
  .exact a v
  .exact q r hr⟩
 rw[iP (f:=λB=>bD d m (u::B)*nr (u::B)) (g:=λB=>(-1)*(bD d m B*nr B)) λB _=>by rw[e B,oM];lia,l7];lia
theorem ud:∀(n:Nat) (us:List Vc),us.length=n->∀d,(∀m,m<=d->0<=Ke (d-m)*wD d (m:Int) us)/\nK d us=tS (d+1) λm=>Ke (d-m)*wD d (m:Int) us
 |0,us,hn,d=>by
  cases us with
  |cons _ _=>cases hn
  |nil=>
   have e:∀m:Nat,m<=d->Ke (d-m)*wD d (m:Int) []=if m=d then 1 else 0:=λm a=>by
    rw[sG];by_cases q:m=d
    .subst q;rw[aR rfl,aR rfl,c7];rfl
    .rw[aS (by lia),aS q,fv]
   refine⟨λm a=>by rw[e m a];split<;>decide,?_⟩;show pH d []=tS d _+Ke (d-d)*wD d (d:Int) [];rw[NC,e d (aL _),aR rfl,mO (g:=λ_=>0) d λm a=>by rw[e m (by lia),aS (by lia)],AF];rfl
 |n+1,us,hn,d=>by
  cases us with
  |nil=>cases hn
  |cons u us=>
   have j:us.length=n:=by simpa using hn
   by_cases b:∃p,p<d/\u p≠0
   .obtain⟨p,t,l⟩:=b;obtain⟨D,rfl⟩:∃D,d=D+1:=⟨d-1,by lia⟩;obtain⟨h,k⟩:=ud n us j (D+1);obtain⟨s,r⟩:=ud n (us.map (sA u p)) (by simpa using j) D;have e:∀m:Nat,m<=D+1->Ke (D+1-m)*wD (D+1) (m:Int) (u::us)=Ke (D+1-m)*wD (D+1) (m:Int) us+(if m<=D then Ke (D-m)*wD D (m:Int) (us.map (sA u p)) else 0):=λm a=>by
     rw[BF (by lia) l];by_cases q:m<=D
     .rw[aR q,show D+1-m=(D-m)+1 by lia,KJ];grind
     .rw[aS q,Fj (d:=D) (by lia)];grind
    refine⟨λm a=>?_,?_⟩
    .rw[e m a];have:=h m a;split
     .have:=s m (by assumption);lia
     .lia
    .rw[zR (by lia) l,k,r,mO (D+1+1) λm a=>e m (by lia),IE];congr 1;show _=tS (D+1) _+(if D+1<=D then _ else 0);rw[aS (by lia),fg];exact mO _ λm a=>by rw[aR (by lia)]
   .have b:∀i,i<d->u i=0:=λi o=>aP λz=>b ⟨i,o,z⟩;obtain⟨h,k⟩:=ud n us j d;by_cases f:u d=0
    .have z:∀i,i<d+1->u i=0:=λi o=>by
      by_cases q:i=d
      .rw[q];exact f
      .exact b i (by lia)
     refine⟨λm _=>by rw[GA z,fv];exact Int.le_refl _,?_⟩;rw[HX z (u::us) (by simp),mO (g:=λ_=>0) _ λm _=>by rw[GA z,fv],AF]
    .refine⟨λm a=>by rw[FC b f];exact h m a,?_⟩;rw[Fu b f,k];exact mO _ λm _=>by rw[FC b f]
def Mr(d:Nat)(us:List Vc):nK d us=tS (d+1) λm=>((wD d (m:Int) us).natAbs:Int):=by
 obtain⟨a,b⟩:=ud _ us rfl d;rw[b];refine mO _ λm e=>?_;have:=a m (by lia);unfold Ke at this ⊢;split at this<;>rename_i q
 .rw[aR q];lia
 .rw[aS q];lia
variable {c:Cs}{d:Nat}{cs:LL}
theorem GD{k v:Int}:∀n:Nat,0<=k->tS n (λm=>if k=(m:Int) then v else 0)=if k<n then v else 0
 |0,h=>by show (0:Int)=_;rw[aS (by lia)]
 |n+1,h=>by
  show tS n (λm=>if k=(m:Int) then v else 0)+(if k=(n:Int) then v else 0)=_;rw[GD n h];by_cases q:k=n
  .rw[aS (by lia),aR q,aR (by lia)];lia
  .rw[aS q];by_cases r:k<n
   .rw[aR r,aR (by lia)];lia
   .rw[aS r,aS (by lia)];rfl
theorem Py(D:List lH)(F:lH->Nat->Int):∀n,sD D (λg=>tS n (F g))=tS n λm=>sD D λg=>F g m
 |0=>ng λ_ _=>rfl
 |n+1=>by show sD D (λg=>tS n (F g)+F g n)=tS n _+sD D λg=>F g n;rw[Ak,Py D F n]
def NT(V:Vz d cs)(a:cs.length<=7){D:List lH}(M:Du d cs D):sD D (λg=>g.2)=tS (d+1) λm=>wD d (m:Int) (cs.map vc):=by rw[<-mO (d+1) λm _=>(KS V a M (m:Int)).trans (JE V a _),<-Py D (λg m=>if g.1.1=(m:Int) then g.2 else 0)];refine pC λg b=>?_;obtain⟨f,_,ok,_,e,_⟩:=M.mf g b;have:=qO V ok e;rw[GD _ this.1,aR (by lia)]
def DY(V:Vz d cs)(b:cs.length<=7){r:Nat}(hr:sP c [.lst (cs.map tI),.int (d:Int)]=.ok (.int (r:Int))):jI c [m6 c d cs]=.ok (.int (if r<d then 0 else ((tS (d+1) λm=>wD d (m:Int) (cs.map vc)).natAbs:Int))):=by
 have sz:1000<sizeLine:=by decide
 obtain⟨l,e,f⟩:=Cv (c:=c) V b;have a:jl (ig PB (hZ (gQ (jy (sV c.Cutting "cuts" (gR 0) gW (jb c))) (gQ (qP c.Cutting "dims" (gR 0) gW (iH c)) gW)) (sP c)) (qP c.Cutting "dims" (gR 0) gW (iH c))) (vw (iW 1 [m6 c d cs]))=.ok (decide (r<d)):=iN (gZ (lE (jo (FK d cs rfl)) (vI d cs rfl) hr) (vI d cs rfl) (by rw[Ft];congr 2;simp))
 refine iU rfl ?_;by_cases h:r<d
 .rw[aC h]at a;rw[aR h];exact k9 (jF a (iE rfl)) rfl
 .rw[aB h]at a;rw[aS h];refine gY (jM a rfl) (iE (lY (t:=.int (sD (qk (jv l)) λg=>g.2)) (lY (jo (sS rfl f)) ?_) ?_))
  .show vF [.lst (Ds (qk (jv l)))]=_;have:Ds (qk (jv l))=((qk (jv l)).map λg=>g.2).map T.int:=by unfold Ds;rw[aJ];rfl
   rw[this,xG];rfl
  .rw[NT V b (Ey V b e)];simp[CQ]
def Bx(i:Int):lh c [.int i]=.ok (.bl true):=rfl
theorem EA(f:Nat->Int):∀n,((List.range n).map f).sum=tS n f
 |0=>rfl
 |n+1=>by rw[fZ,a9,List.sum_append,EA f n];show _=tS n f+f n;simp
def IY(n:1<=d/\d<=3)(f:uk d 30 cs):l8 c [.int (d:Int),.lst (cs.map tI)]=.ok (.bl true):=by
 have sz:1000<sizeLine:=by decide
 have q:=f.few;have V:Vz d cs:=⟨n,f.up62⟩;let a:LI:=(List.range (d+1)).map λ(m:Nat)=>wD d (m:Int) (cs.map vc);have wl:a.length=d+1:=by simp[a]
 have N:wL d cs=a.map T.int:=by unfold wL;rw[aJ];rfl
 have Z:=MY (c:=c) d 30 cs n (by decide) f;have B:=w9 (c:=c) 10 d 30 cs n f (λ_=>by decide) (λ_=>by decide) (by lia);have z:mB c [m6 c d cs]=.ok (wL d cs):=by rw[CH V q];congr 1;exact dS λm _=>by rw[JE V q]
 rw[N]at B z;have C:=yq (c:=c) V q;obtain⟨pv,rs,J,D,-⟩:=Gp (c:=c) cs d 62 (by lia) (by lia) (λu k=>(f.up62.gc u k).gl) (Jk n);have hr:sP c [.lst (cs.map tI),.int (d:Int)]=.ok (.int (pv.length:Int)):=iU rfl (iE (lY (gZ (lE rfl rfl J) rfl rfl) (by simp)));have I:=DY V q hr;obtain⟨ah,A,K⟩:=BN (c:=c) d (cs.map (·.take d)) (by lia) (by simp;lia) λv Y=>by obtain⟨u,k,rfl⟩:=aE.mp Y;have w:=(f.gc u k).gl;exact⟨by rw[bQ,w.1];lia,λx H=>(w.2 x (dB H)).mono (by decide)⟩
 rw[xo D K]at A;let s:Int:=tS (d+1) λm=>wD d (m:Int) (cs.map vc);have S:a.sum=s:=EA _ _;let i:Int:=if pv.length<d then 0 else (s.natAbs:Int)
 let R (X F L U x6:Option W):En:=[some (.p (.int (d:Int))),some (.p (.lst (cs.map tI))),X,F,L,U,x6];let b:Option W:=some (.p (m6 c d cs));let e:Option W:=some (.p (.lst (a.map T.int)));let j:Option W:=some (.p (.int (nK d (cs.map vc))));let r:Option W:=some (.p (.int i));have E:kv xr (gQ (jy (lB [none] (jK (gR 4)) (ku 0) (λ_=>.ok true) (rV c))) gW) (vw (R b e (some (.o (a.map T.int))) none none))=.ok (.bl true):=by refine qq (jX a T.int (λ_=>T.bl true) rfl (by lia) (λg _=>⟨_,rfl,rfl,qe rfl (Bx g)⟩) rfl) ?_;have:=rj (a.map λ_=>true);rw[aJ]at this;refine this.trans ?_;simp
 have Q:kv vF (gQ (jy (lB [none] (jK (gR 3)) (ku 0) (λ_=>.ok true) (rN c))) gW) (vw (R b e (some (.o ((a++[1]).map T.int))) j r))=.ok (.int (nK d (cs.map vc))):=by refine qq (jX a T.int (λx=>T.int (x.natAbs:Int)) rfl (by lia) (λx _=>⟨_,rfl,rfl,lY (t:=.int x) rfl (by simp[CQ])⟩) (ts:=(a.map λx=>(x.natAbs:Int)).map T.int) (by first|exact aJ|exact aJ.symm)) ?_;rw[xG,Mr,<-EA];congr 3;rw[aJ];rfl
 have P:hZ (gQ (jy (lB [none,some 0] (jK (gR 1)) (ku 0) (λ_=>.ok true) (oB c))) gW) (kq c) (vw (R b e (some (.o ((a++[1]).map T.int))) j r))=.ok (.int (pv.length:Int)):=by refine qe (jo (jX cs tI (λu=>tI (u.take d)) rfl (by lia) (λu k=>⟨_,rfl,rfl,?_⟩) (ts:=(cs.map (·.take d)).map tI) (by rw[aJ];rfl))) A;have w:=(f.gc u k).gl.1;refine (tP (ts:=u.map T.int) (d:=d) rfl rfl (by rw[ax];lia)).trans ?_;rw[<-eE];rfl
 have l:jl (ig PB (hZ (gQ (jy (lB [none,some 0] (jK (gR 1)) (ku 0) (λ_=>.ok true) (oB c))) gW) (kq c)) (gR 0)) (vw (R b e (some (.o ((a++[1]).map T.int))) j r))=.ok (decide (pv.length<d)):=iN (gZ P rfl (by rw[Ft];congr 2;simp));refine iU rfl (gY (ρ':=R b none none none none) (iw (lE rfl (jo (ts:=cs.map tI) rfl) Z) rfl) (gY (ρ':=R b e none none none) (iw (lE rfl rfl B) rfl) (gY (ρ':=R b e (some (.o (a.map T.int))) none none) (nC (sS rfl z) rfl) (gY (jM (zW rfl (zW (iN (gZ (x:=.lst (a.map T.int)) (y:=.lst (a.map T.int)) rfl rfl (by rw[DP];simp))) (sR (iN E) rfl))) rfl) (gY (ρ':=R b e (some (.o ((a++[1]).map T.int))) none none) (sr (us:=a.map T.int) rfl rfl (by rw[ax];lia) (by simp[R])) (gY (ρ':=R b e (some (.o ((a++[1]).map T.int))) j none) (iw (qe rfl C) rfl) (gY (ρ':=R b e (some (.o ((a++[1]).map T.int))) j r) (iw (qe rfl I) rfl) (gY (jM (zW (sR (iN (qe rfl (Bx _))) rfl) (zW (sR (iN (qe rfl (Bx _))) rfl) (iN (gZ rfl Q (RM _ _ rfl))))) rfl) ?_))))))));by_cases h:pv.length<d
 .rw[aC h]at l;refine k9 (jF l (iE (gZ rfl rfl (LM _ _ ?_)))) rfl;show i=0;simp only[i];rw[aR h]
 .rw[aB h]at l;refine gY (jM l rfl) (iE (gZ rfl (lY (t:=.int s) (lY (t:=.lst (a.map T.int)) rfl (show vF [.lst (a.map T.int)]=.ok (.int s) by rw[xG,S])) (show uS [.int s]=.ok (.int (s.natAbs:Int)) by simp[CQ])) (LM _ _ ?_)));show i=_;simp only[i];rw[aS h]
def GM(e:LI):ua c [.scr e]=.ok (.bl true):=by
 have sz:1000<sizeLine:=by decide
 let b:Nat×LL->T:=λx=>.tup [.int (x.1:Int),.lst (x.2.map tI)];obtain⟨X,l⟩:=rF (P:=λ(k:Nat) (x:Nat×LL)=>(∃a,jG c [.scr e,.int (k:Int)]=.ok (.int a)/\kG c [.int a,.int ((6+k % 2:Nat):Int)]=.ok (b x))/\(1<=x.1/\x.1<=3)/\uk x.1 30 x.2) [0,1] λk _=>by obtain⟨a,g,-⟩:=EY (c:=c) e k;obtain⟨d,cs,h,i,j,o⟩:=ES (c:=c) a (6+k % 2) (by lia);exact⟨(d,cs),⟨a,g,h⟩,i,j⟩
 have n:lB [none,some 0] (kC (gQ (cM (.int 2)) gW)) (ku 0) (λ_=>.ok true) (yV c) (kP (iW 2 [.scr e]))=.ok ([0,1].map λk=>b (X k)):=
  jX [0,1] (λ(k:Nat)=>T.int (k:Int)) (λk=>b (X k)) (pK 2 (by decide) rfl) (by decide) (λk f=>by
   obtain⟨⟨a,g,h⟩,-⟩:=l k f;refine⟨_,rfl,rfl,lE (lE rfl rfl g) (gZ (x:=.int 6) (y:=.int ((k % 2:Nat):Int)) rfl ?_ (by rw[jj];rfl)) h⟩;have:k=0\/k=1:=by simpa using f
   rcases this with rfl|rfl<;>rfl) rfl
 have m:lB [none,none] (jK (ig jw (gR 1) (kR (gR 1) (λ_=>.ok none) (ju (cM (.int 1)))))) (oT 2 (je (ku 0) (je (ku 1) oR))) (λ_=>.ok true) (zm c) (vw [some (.p (.scr e)),some (.p (.lst ([0,1].map λk=>b (X k))))])=.ok (([true,true,true]:List Bool).map T.bl):=jX [0,1,0] (λk=>b (X k)) (λ_=>T.bl true) rfl (by decide) (λk f=>by obtain⟨-,i,j⟩:=l k (by simp at f ⊢;lia);exact⟨_,rfl,rfl,lE rfl rfl (IY i j)⟩) rfl
 exact iU rfl (gY (iw (jo n) rfl) (iE (qq m (rj _))))
end CL
namespace K44
open PySem L2 L3 CL
def j4(i:Nat):Stmt:=PySem.Challenge.pw_cutlands_k44_lands_by_counting.main.body.getD i (.Pass ⟨0,0,0,0⟩)
structure Er(c:Cs)(K:W.Frag)(mg:Str->Option Value):Prop where
 here:True
 cl_Cutting:zV K c.Cutting
 na_Cutting_own_cuts:md K c.Cutting "own_cuts"
 na_Cutting_own_dims:md K c.Cutting "own_dims"
 mk_Cutting:W.makesIn K c.Cutting=true
 kp_Cutting:W.keepIn K (.ref c.Cutting)=true
 mg_Cutting:mg "Cutting" = some (.ref c.Cutting)
 k_MOST_CUTS:∃t,mg "MOST_CUTS" = some (.int 7 t)
 k_MOST_DIMS:∃t,mg "MOST_DIMS" = some (.int 3 t)
def S9{K:W.Frag}{h:Heap}{mg:Str->Option Value}{aCutting:Addr}{tMOST_CUTS tMOST_DIMS:_}(X:K.In h)(G:h.Ns mainGlobals mg)(e:W.nsIn K mainGlobals "Cutting" = some (some (.ref aCutting)))(g:W.plainGet K aCutting Str.empty=true)(b:W.hasDictIn K aCutting=true)(a:W.plainOver K aCutting=true)(f:W.findIn K (.ref aCutting) "__setattr__" = some (some (.builtin "object.__setattr__")))(own_cuts:W.findIn K (.ref aCutting) "own_cuts" = some none)(own_dims:W.findIn K (.ref aCutting) "own_dims" = some none)(c:W.makesIn K aCutting=true)(d:W.keepIn K (.ref aCutting)=true)(uMOST_CUTS:W.nsIn K mainGlobals "MOST_CUTS" = some (some (.int 7 tMOST_CUTS)))(uMOST_DIMS:W.nsIn K mainGlobals "MOST_DIMS" = some (some (.int 3 tMOST_DIMS))):Er ⟨aCutting,0,0,0,0,0,0,0,0,0,0,0,0⟩ K mg:=⟨trivial,⟨g,b,a,f⟩,own_cuts,own_dims,c,d,W.mg_of X G e,⟨_,W.mg_of X G uMOST_CUTS⟩,⟨_,W.mg_of X G uMOST_DIMS⟩⟩
def Uo{K:W.Frag}{a g:Addr}{m q:Str}{st:Stmt}{k kV d i b n:Value}{h o:Option Addr}{c:Array (Option Value)}(j:W.findIn K (.ref a) m=some (some (.ref g)))(p:W.isFn K (.ref g)=true)(l:K.lookup g=some ⟨k,h,.func (W.fnOf m q (jU st) (iQ st) (g9 st) .none kV d i o b n),c⟩)(f:W.codeIn K b q=true)(e:W.keepIn K (.ref g)=true):mm K a m q st:=⟨_,_,EF l f e,j,p,e⟩
set_option hygiene false in
local macro_rules|`('x')=>`(by repeat' first|(refine' gX ?_ ?_)|(refine' hW ?_)|(exact iX)|(refine' jA _ nd ?_)|(refine' jN ?_ ?_ ?_)|(refine' iZ ?_)|(refine' IR _ nd ?_)|(refine' wA ?_)|(refine' ps_dropm ?_)|(exact Gy)|(refine' Ct _ nd ?_)|(exact ie _)|(exact jO)|(refine' hV ?_ ?_)|(exact iJ)|(refine' zl ?_ ?_)|(refine' ml (by assumption) hr ?_)|(refine' IX ?_ ?_)|(refine' ve ?_)|(refine' Dx hr ?_ ?_)|(refine' Ez hr ?_ ?_)|(refine' pO ?_)|(refine' Dl ?_)|(refine' pN ?_ ?_)|(refine' p9 ?_)|(refine' FF ?_ ?_)|(refine' Cm ?_)|(refine' ip (i7 (K:=K)) lj (by rfl) B.len lg ?_)|(refine' jQ Dk Dr ?_ ?_)|(refine' jQ CS BX ?_ ?_)|(refine' jQ Js JX ?_ ?_)|(refine' jQ Kp KU ?_ ?_)|(refine' jQ op_notN mr_notN ?_ ?_)|(refine' jQ op_isN mr_isN ?_ ?_)|(exact S8)|(exact Q3)|(exact pm_str)|(refine' KP ?_)|(refine' Q1 ?_ ?_)|(refine' Av ?_ ?_)|(refine' EJ ?_)|(refine' Qz ?_ ?_)|(refine' Gb ?_ ?_)|(refine' Df ?_ ?_ ?_)|(exact Ll)|(refine' JR ?_)|(refine' nR "tuple" (by decide) B.isinstance B.tuple lJ ?_)|(refine' nR "list" (by decide) B.isinstance B.list ou ?_)|(refine' nR "int" (by decide) B.isinstance B.int wH ?_)|(refine' nR "bool" (by decide) B.isinstance B.bool Ax ?_)|(refine' kH (kj (K:=K)) lU (by rfl) B.tuple lJ ?_)|(refine' kH zC FD (by rfl) B.int wH ?_)|(refine' ip mn pT (by rfl) B.abs pY ?_)|(refine' ip (nj (K:=K) rfl) uz (by rfl) B.all uB ?_)|(refine' jR ?_)|(refine' ON (by assumption) hr ?_)|(refine' oZ (nA (K:=K)) qu (by rfl) B.list ou ?_)|(refine' ET ?_)|(refine' Br ?_ ?_)|(refine' Lh ?_ ?_)|(refine' Bh ?_ ?_)|(refine' AD ?_)|(refine' Al ?_))
section
variable {P:Program}{w:World}{K:W.Frag}{mg:Str->Option Value}{base:Heap}{c:Cs}(Z:Zx P w K mg base)(B:Bs mg)(ER:Er c K mg)
include Z B ER
theorem o0(D:iu K mg "is_whole" (j4 5)):CP Z "is_whole" 1 (kW c):=lX Z 0 (kW c) ["thing"] ["thing"] rfl D λnd hX hr=>⟨_,(hW (iZ (Bh (nR "int" (by decide) B.isinstance B.int wH (ie 0)) (AD (Al (nR "bool" (by decide) B.isinstance B.bool Ax (ie 0)))))))⟩
theorem o1(D:iu K mg "sign_of" (j4 6)):CP Z "sign_of" 1 (pE c):=lX Z 0 (pE c) ["number"] ["number"] rfl D λnd hX hr=>⟨_,(gX (jN (jQ CS BX (ie 0) jO) 'x' iX) (gX (jN (jQ Dk Dr (ie 0) jO) 'x' iX) 'x'))⟩
theorem o2(D:iu K mg "common_divisor" (j4 7)):CP Z "common_divisor" 1 (jr c):=lX Z 0 (jr c) ["one","other","rest"] ["one","other"] rfl D λnd hX hr=>⟨_,(gX (EX (λρ=>match ρ with|_::some (.p (.int j))::_=>j.natAbs+1|_=>0) PassesOwn.never 'x' 'x') (hW (iZ (ip mn pT (by rfl) B.abs pY 'x'))))⟩
theorem o3(D:iu K mg "first_place" (j4 15)):CP Z "first_place" 1 (jW c):=lX Z 0 (jW c) ["cut","place"] ["cut"] rfl D λnd hX hr=>⟨_,(gX (jA 1 nd jO) (gX (EX (λρ=>match ρ with|some (.p (.tup ts))::_=>ts.length+1|_=>0) PassesOwn.never 'x' 'x') 'x'))⟩
theorem o4(D:mm K c.Cutting "dims" "Cutting.dims" (rH (j4 19) 1)):lP P w K mg base c.Cutting "dims" 1 (xU K (iH c)):=SV Z 0 (iH c) ["self"] ["self"] rfl ER.cl_Cutting D λnd hX hr=>⟨_,(hW (iZ (Kx rfl ER.cl_Cutting ER.na_Cutting_own_dims (ie 0))))⟩
theorem o5(D:mm K c.Cutting "cuts" "Cutting.cuts" (rH (j4 19) 2)):lP P w K mg base c.Cutting "cuts" 1 (Cq K (jb c)):=Qk Z 0 (jb c) ["self"] ["self"] rfl ER.cl_Cutting D λnd hX hr=>⟨_,(hW (wA (oZ (nA (K:=K)) qu (by rfl) B.list ou (hV (Kx rfl ER.cl_Cutting ER.na_Cutting_own_cuts (ie 0)) iJ))))⟩
theorem o6(D:iu K mg "lies_in" (j4 28)):CP Z "lies_in" 1 (nt c):=lX Z 0 (nt c) ["flat","other"] ["flat","other"] rfl D λnd hX hr=>⟨_,(hW (iZ (ip (nj (K:=K) rfl) uz (by rfl) B.all uB (hV (jR (kf ["k","flat"] [none,some 0] hX (jh 'x') (λnd hX=>⟨(jc 0 nd),iV,(Aa (QX (K:=K)) (Ui false) (ie 0) 'x' (by rfl))⟩))) iJ))))⟩
theorem o7(D:iu K mg "_law_cell_at" (j4 36)):CP Z "_law_cell_at" 1 (jG c):=lX Z 0 (jG c) ["_law_script","_law_k"] ["_law_script","_law_k"] rfl D λnd hX hr=>⟨_,(gX (jN (jQ Dk Dr (ie 1) (ip (i7 (K:=K)) lj (by rfl) B.len lg 'x')) 'x' iX) 'x')⟩
theorem o8(D:iu K mg "_law_draw" (j4 37)):CP Z "_law_draw" 1 (iK c):=lX Z 0 (iK c) ["_law_cell","_law_k","_law_bound","_law_left","_law_j","_law_stir"] ["_law_cell","_law_k","_law_bound"] rfl D λnd hX hr=>⟨_,(gX (jN (jQ Js JX (ie 0) (Rl jO jO)) (gX 'x' (gX (tW PassesOwn.never rfl (lO B.range 'x') (kX 4 nd) 'x') 'x')) iX) 'x')⟩
theorem o9(D:iu K mg "_law_whole" (j4 38)):CP Z "_law_whole" 1 (lh c):=lX Z 0 (lh c) ["_law_found"] ["_law_found"] rfl D λnd hX hr=>⟨_,(hW (iZ (Bh (nR "int" (by decide) B.isinstance B.int wH (ie 0)) (AD (Al (nR "bool" (by decide) B.isinstance B.bool Ax (ie 0)))))))⟩
theorem VR(D:iu K mg "_law_common" (j4 39)):CP Z "_law_common" 1 (l6 c):=lX Z 0 (l6 c) ["_law_one","_law_other"] ["_law_one","_law_other"] rfl D λnd b hr=>⟨_,(gX (jA 0 nd (ip mn pT (by rfl) B.abs pY 'x')) (gX (jA 1 nd (ip mn pT (by rfl) B.abs pY 'x')) (gX (EX (λa=>match a with|_::some (.p (.int j))::_=>j.natAbs+1|_=>0) PassesOwn.never (jQ CS BX (ie 1) jO) (hW (Nv (i:=0) (j:=1) rfl nd rfl rfl (by decide) rfl rfl 'x' (by rfl)))) 'x')))⟩
theorem Wb(D:iu K mg "_law_same" (j4 40)):CP Z "_law_same" 1 (jJ c):=lX Z 0 (jJ c) ["_law_one","_law_other","_law_k","_law_j"] ["_law_one","_law_other"] rfl D λnd a hr=>⟨_,(gX (tW PassesOwn.never rfl (lO B.range (hV (ip (i7 (K:=K)) lj (by rfl) B.len lg 'x') iJ)) (kX 2 nd) (hW (tW PassesOwn.never rfl (lO B.range 'x') (kX 3 nd) 'x'))) 'x')⟩
theorem We(D:iu K mg "_law_rank" (j4 43)):CP Z "_law_rank" 1 (kq c):=lX Z 0 (kq c) ["_law_rows","_law_ahead","_law_row","_law_here","_law_at","_law_other","_law_by","_law_left"] ["_law_rows"] rfl D λnd a hr=>⟨_,(gX 'x' (gX (n8 PassesOwn.never rfl (jh (ie 0)) (kX 2 nd) (gX (jA 3 nd (jR (oZ (nA (K:=K)) qu (by rfl) B.list ou 'x'))) (gX (Mb 1 (pv 1) PassesOwn.never rfl (Et 2 rfl (nq (kX 4 nd) (nq (kX 5 nd) v7))) (gX 'x' (hW (jA 3 nd (jR (kf ["_law_one","_law_two","_law_by","_law_other","_law_at"] [none,none,some 6,some 5,some 4] a (og B.zip 'x') (λnd a=>⟨(oA 2 rfl (iS (jc 0 nd) (iS (jc 1 nd) lM))),iV, 'x'⟩))))))) (gX (pX ["_law_k","_law_here"] [none,some 3] 7 nd a (tq.pim (lO B.range (hV (ip (i7 (K:=K)) lj (by rfl) B.len lg 'x') iJ))) (λnd a=>⟨(jc 0 nd),(nJ 'x'),(ie 0)⟩) qm) (hW (jN 'x' (hW (nv 1 (pv 1) 'x')) iX)))))) (hW (iZ (ip (i7 (K:=K)) lj (by rfl) B.len lg 'x')))))⟩
theorem VN(D:iu K mg "lowest" (j4 8))(b:CP Z "common_divisor" 1 (jr c)):CP Z "lowest" 2 (nW c):=lX Z 1 (nW c) ["row","divisor","number"] ["row"] rfl D λnd a hr=>⟨_,(gX (jA 1 nd jO) (gX (n8 PassesOwn.never rfl (jh (ie 0)) (kX 2 nd) 'x') (gX 'x' (hW (iZ (kH (kj (K:=K)) lU (by rfl) B.tuple lJ (hV (jR (kf ["number","divisor"] [none,some 1] a (jh (ie 0)) (λnd a=>⟨(jc 0 nd),iV, 'x'⟩))) iJ)))))))⟩
theorem Wj(D:iu K mg "is_dims" (j4 13))(a:CP Z "is_whole" 1 (kW c)):CP Z "is_dims" 2 (nh c):=lX Z 1 (nh c) ["thing"] ["thing"] rfl D λnd b hr=>⟨_,(hW (iZ (Bh 'x' (AD (Jh Kp KU Kp KU jO (ie 0) (Di 3 ER.k_MOST_DIMS))))))⟩
theorem VL(D:iu K mg "is_cut" (j4 14))(b:CP Z "is_whole" 1 (kW c)):CP Z "is_cut" 2 (oJ c):=lX Z 1 (oJ c) ["dims","thing"] ["dims","thing"] rfl D λnd a hr=>⟨_,(gX (jN (Dl (pN (pO (ve (nR "tuple" (by decide) B.isinstance B.tuple lJ (ie 1)))) (p9 (Dx hr (ip (i7 (K:=K)) lj (by rfl) B.len lg 'x') 'x')))) 'x' iX) (gX (jN (pO (ve (ip (nj (K:=K) rfl) uz (by rfl) B.all uB (hV (jR (kf ["number"] [none] a (jh (ie 1)) (λnd a=>⟨(jc 0 nd),iV, 'x'⟩))) iJ)))) 'x' iX) (hW (iZ (ip (oU (K:=K) rfl) xR (by rfl) B.any wM (hV (jR (kf ["number"] [none] a (jh 'x') (λnd a=>⟨(jc 0 nd),iV,(T7 hr (ie 0) jO)⟩))) iJ))))))⟩
theorem VU(D:iu K mg "same_spots" (j4 16))(b:CP Z "first_place" 1 (jW c)):CP Z "same_spots" 2 (l0 c):=lX Z 1 (l0 c) ["one","other","place"] ["one","other"] rfl D λnd a hr=>⟨_,(gX 'x' (hW (iZ (ip (nj (K:=K) rfl) uz (by rfl) B.all uB (hV (jR (kf ["mine","theirs","other","place","one"] [none,none,some 1,some 2,some 0] a (og B.zip 'x') (λnd a=>⟨(oA 2 rfl (iS (jc 0 nd) (iS (jc 1 nd) lM))),iV,(IT hr 'x' 'x')⟩))) iJ)))))⟩
theorem Wd(D:iu K mg "numbers_in_order" (j4 29))(b:CP Z "lies_in" 1 (nt c)):CF Z "numbers_in_order" 2 (iL c):=Gd Z 1 (iL c) ["told","numbers","flat","around"] ["told"] rfl D λnd a hr=>⟨_,(gX 'x' (gX (n8 PassesOwn.never rfl (jh 'x') (kX 2 nd) (gX (pX ["other","number","flat"] [none,none,some 2] 3 nd a (og B.zip 'x') (λnd a=>⟨(oA 2 rfl (iS (jc 0 nd) (iS (jc 1 nd) lM))),(nJ 'x'),(ie 1)⟩) Dg) (hW (nv 1 (pv 1) (EJ (ip (pB (K:=K) rfl) xq (by rfl) B.sum wc 'x')))))) (hW (BI 1 (pv 1)))))⟩
theorem VE(D:iu K mg "_law_cut" (j4 41))(b:CP Z "_law_draw" 1 (iK c)):CP Z "_law_cut" 2 (kY c):=lX Z 1 (kY c) ["_law_cell","_law_k","_law_dims","_law_found","_law_wide","_law_cut_here","_law_way","_law_other","_law_by"] ["_law_cell","_law_k","_law_dims","_law_found"] rfl D λnd a hr=>⟨_,(gX 'x' (gX (pX ["_law_j","_law_wide","_law_cell","_law_k"] [none,some 4,some 0,some 1] 5 nd a (tq.pim (lO B.range 'x')) (λnd a=>⟨(jc 0 nd),iV, 'x'⟩) AW) (gX 'x' (gX (jN 'x' (hW (J6 5 nd (Br (jR (oZ (nA (K:=K)) qu (by rfl) B.list ou (hV (Df (zl (ie 3) (ml b hr (hV (ie 0) (hV 'x' (hV (ip (i7 (K:=K)) lj (by rfl) B.len lg 'x') iJ))))) Ll (JR (ie 2))) iJ))) 'x'))) iX) (gX (jN 'x' (hW (Bw 5 (pv 5) (ie 2) jO)) iX) (gX (jN (Dl (FF 'x' (Cm (jQ CS BX (ip (i7 (K:=K)) lj (by rfl) B.len lg 'x') jO)))) (gX (jA 7 nd (zl (ie 3) (ml b hr (hV (ie 0) (hV 'x' (hV (Av (ip (i7 (K:=K)) lj (by rfl) B.len lg 'x') jO) iJ)))))) (gX 'x' (hW (pX ["_law_one","_law_two","_law_by"] [none,none,some 8] 5 nd a (og B.zip 'x') (λnd a=>⟨(oA 2 rfl (iS (jc 0 nd) (iS (jc 1 nd) lM))),iV, 'x'⟩) AW)))) iX) (gX (jN 'x' (hW (Bw 5 (pv 5) 'x' jO)) iX) (hW (iZ (kH (kj (K:=K)) lU (by rfl) B.tuple lJ 'x'))))))))))⟩
theorem VS(D:iu K mg "_law_on" (j4 44))(b:CP Z "_law_common" 1 (l6 c)):CP Z "_law_on" 2 (mR c):=lX Z 1 (mR c) ["_law_cut_here","_law_own","_law_at","_law_turn","_law_found","_law_share","_law_number"] ["_law_cut_here","_law_own","_law_at"] rfl D λnd a hr=>⟨_,(gX (jA 3 nd (zl 'x' (kH zC FD (by rfl) B.int wH (hV (Aa CS BX 'x' jO) iJ)))) (gX (pX ["_law_number","_law_mine","_law_turn","_law_own","_law_at","_law_cut_here"] [none,none,some 3,some 1,some 2,some 0] 4 nd a (og B.zip 'x') (λnd a=>⟨(oA 2 rfl (iS (jc 0 nd) (iS (jc 1 nd) lM))),iV, 'x'⟩) qm) (gX 'x' (gX (jA 5 nd jO) (gX (n8 PassesOwn.never rfl (jh (ie 4)) (kX 6 nd) 'x') (hW (iZ (kH (kj (K:=K)) lU (by rfl) B.tuple lJ (hV (jR (kf ["_law_number","_law_share"] [none,some 5] a (jh (ie 4)) (λnd a=>⟨(jc 0 nd),iV,(Gb (ie 0) (ip (GW rfl) N7 (by rfl) B.max Qj 'x'))⟩))) iJ)))))))))⟩
theorem VQ(D:iu K mg "cleared" (j4 9))(a:CP Z "lowest" 2 (nW c))(d:CP Z "sign_of" 1 (pE c)):CP Z "cleared" 3 (kJ c):=lX Z 2 (kJ c) ["row","other","place","often","other_often"] ["row","other","place"] rfl D λnd b hr=>⟨_,(gX 'x' (gX (jA 3 nd (ip mn pT (by rfl) B.abs pY 'x')) (gX 'x' (hW (iZ (ml a hr (hV (kH (kj (K:=K)) lU (by rfl) B.tuple lJ (hV (jR (kf ["mine","theirs","often","other_often"] [none,none,some 3,some 4] b (og B.zip 'x') (λnd b=>⟨(oA 2 rfl (iS (jc 0 nd) (iS (jc 1 nd) lM))),iV, 'x'⟩))) iJ)) iJ)))))))⟩
theorem V6(D:iu K mg "can_stand" (j4 17))(b:CP Z "is_cut" 2 (oJ c))(d:CP Z "same_spots" 2 (l0 c)):CP Z "can_stand" 3 (lV c):=lX Z 2 (lV c) ["dims","ahead","thing"] ["dims","ahead","thing"] rfl D λnd a hr=>⟨_,(gX (jN (Dl (pN (jQ Js JX (ip (i7 (K:=K)) lj (by rfl) B.len lg 'x') (Di 7 ER.k_MOST_CUTS)) (p9 'x'))) 'x' iX) (hW (iZ (Al (ip (oU (K:=K) rfl) xR (by rfl) B.any wM (hV (jR (kf ["cut","thing"] [none,some 2] a (jh (ie 1)) (λnd a=>⟨(jc 0 nd),iV, 'x'⟩))) iJ))))))⟩
theorem VY(D:iu K mg "_law_cutting" (j4 42))(e:CP Z "_law_draw" 1 (iK c))(d:CP Z "_law_cut" 2 (kY c))(b:CP Z "_law_same" 1 (jJ c)):CP Z "_law_cutting" 3 (kG c):=lX Z 2 (kG c) ["_law_cell","_law_most","_law_dims","_law_found","_law_k","_law_cut_here"] ["_law_cell","_law_most"] rfl D λnd a hr=>⟨_,(gX 'x' (gX 'x' (gX (tW PassesOwn.never rfl (lO B.range 'x') (kX 4 nd) (gX 'x' (hW (jN (Ez hr (jR (kf ["_law_one","_law_cut_here"] [none,some 5] a (jh (ie 3)) (λnd a=>⟨(jc 0 nd),(nJ 'x'),(ie 0)⟩))) (jR (ET iJ))) (hW (nv 3 (pv 3) (ie 5))) iX)))) 'x')))⟩
theorem Wh(D:iu K mg "_law_trace" (j4 45))(d:CP Z "_law_on" 2 (mR c))(b:CP Z "_law_same" 1 (jJ c)):CP Z "_law_trace" 3 (ki c):=lX Z 2 (ki c) ["_law_dims","_law_cuts","_law_k","_law_at","_law_found","_law_whence","_law_j","_law_seen","_law_alike"] ["_law_dims","_law_cuts","_law_k"] rfl D λnd a hr=>⟨_,(gX (jA 3 nd (zl (jR (kf ["_law_place","_law_cuts","_law_k"] [none,some 1,some 2] a (tq.pim (lO B.range 'x')) (λnd a=>⟨(jc 0 nd),(nJ 'x'),(ie 0)⟩))) jO)) (gX 'x' (gX 'x' (gX (Il 5 PassesOwn.never rfl (tq.im (lO B.range (hV (ip (i7 (K:=K)) lj (by rfl) B.len lg 'x') iJ))) (kX 6 nd) (qS (tE 5 'x') (qS (tE 5 (pX ["_law_place","_law_seen","_law_found"] [none,some 7,some 4] 8 nd a (tq.pim (lO B.range (hV (ip (i7 (K:=K)) lj (by rfl) B.len lg 'x') iJ))) (λnd a=>⟨(jc 0 nd),(nJ 'x'),(ie 0)⟩) Dg)) (qS (Lr (Dl (pN 'x' (p9 (Ez hr 'x' (OK 'x' 'x'))))) (tF (tE 5 Q6)) (Md 5)) (tF (Lr 'x' (qS (tE 5 (nv 4 (pv 4) (ie 7))) (tF (J3 5 (pv 5) 'x'))) (tF (L7 5 (pv 5) 'x' (ie 6))))))))) 'x'))))⟩
theorem Wg(D:iu K mg "checked_cuts" (j4 18))(b:CP Z "is_dims" 2 (nh c))(a:CP Z "can_stand" 3 (lV c)):CP Z "checked_cuts" 4 (j9 c):=lX Z 3 (j9 c) ["dims","things","ahead","thing"] ["dims","things"] rfl D λnd d hr=>⟨_,(gX (jN (Dl (pN 'x' (p9 (pO (ve (nR "list" (by decide) B.isinstance B.list ou (ie 1))))))) (hW Gy) iX) (gX 'x' (gX (n8 PassesOwn.never rfl (jh (ie 1)) (kX 3 nd) (gX 'x' (hW (nv 2 (pv 2) (kH (kj (K:=K)) lU (by rfl) B.tuple lJ 'x'))))) (hW (iZ (kH (kj (K:=K)) lU (by rfl) B.tuple lJ 'x'))))))⟩
theorem VH(D:iu K mg "settled" (j4 21))(a:CP Z "cleared" 3 (kJ c)):CP Z "settled" 4 (kD c):=lX Z 3 (kD c) ["row","pivots","place","pivot"] ["row","pivots"] rfl D λnd b hr=>⟨_,(gX (n8 PassesOwn.never rfl (jh (ie 1)) (Et 2 rfl (nq (kX 2 nd) (nq (kX 3 nd) v7))) 'x') 'x')⟩
theorem Wc(D:iu K mg "with_pivot" (j4 22))(b:CP Z "cleared" 3 (kJ c)):CF Z "with_pivot" 4 (lx c):=Gd Z 3 (lx c) ["pivots","row","place"] ["pivots","row","place"] rfl D λnd a hr=>⟨_,(hW (wA (Br (jR (kf ["other_place","pivot","row","place"] [none,none,some 1,some 2] a (jh (ie 0)) (λnd a=>⟨(oA 2 rfl (iS (jc 0 nd) (iS (jc 1 nd) lM))),iV, 'x'⟩))) 'x')))⟩
theorem VM(D:mm K c.Cutting "__init__" "Cutting.__init__" (rH (j4 19) 0))(a:CP Z "checked_cuts" 4 (j9 c)):HK P w K mg base "Cutting" c.Cutting 5 (Ec K c.Cutting (j8 c)):=U1 Z 4 (j8 c) ["self","dims","cuts"] rfl ER.cl_Cutting ER.na_Cutting_own_cuts ER.na_Cutting_own_dims ER.mk_Cutting ER.kp_Cutting ER.mg_Cutting D λhr=>Vk rfl (pv 0) (ml a hr (hV (ie 1) (hV (ie 2) iJ))) (pv 0) (ie 1)
theorem V0(D:iu K mg "pivots_and_rests" (j4 23))(d:CP Z "settled" 4 (kD c))(b:CF Z "with_pivot" 4 (lx c)):CP Z "pivots_and_rests" 5 (i5 c):=lX Z 4 (i5 c) ["rows","dims","pivots","rests","row","left","places"] ["rows","dims"] rfl D λnd a hr=>⟨_,(gX 'x' (gX 'x' (gX (n8 PassesOwn.never rfl (jh (ie 0)) (kX 4 nd) (gX 'x' (gX (pX ["place","left"] [none,some 5] 6 nd a (tq.pim (lO B.range 'x')) (λnd a=>⟨(jc 0 nd),(nJ 'x'),(ie 0)⟩) qm) (hW (jN 'x' (hW (nv 3 (pv 3) (ie 5))) 'x'))))) 'x')))⟩
theorem VT(D:iu K mg "rank" (j4 24))(a:CP Z "pivots_and_rests" 5 (i5 c)):CP Z "rank" 6 (sP c):=lX Z 5 (sP c) ["rows","dims"] ["rows","dims"] rfl D λnd b hr=>⟨_,(hW (iZ (ip (i7 (K:=K)) lj (by rfl) B.len lg 'x')))⟩
theorem VG(D:iu K mg "flat_on" (j4 26))(b:CP Z "pivots_and_rests" 5 (i5 c))(d:CP Z "settled" 4 (kD c)):CP Z "flat_on" 6 (j6 c):=lX Z 5 (j6 c) ["cuts","dims","some","found","pivots","around"] ["cuts","dims","some"] rfl D λnd a hr=>⟨_,(gX (jA 3 nd (ml b hr (hV (jR (kf ["k","cuts"] [none,some 0] a (jh (ie 2)) (λnd a=>⟨(jc 0 nd),iV, 'x'⟩))) 'x'))) (gX (jN (ve (ip (oU (K:=K) rfl) xR (by rfl) B.any wM (hV (jR (kf ["rest"] [none] a (jh 'x') (λnd a=>⟨(jc 0 nd),iV,(ip (oU (K:=K) rfl) xR (by rfl) B.any wM 'x')⟩))) iJ))) 'x' iX) (gX 'x' (gX (pX ["k","cut","pivots"] [none,none,some 4] 5 nd a (OI B.enumerate 'x') (λnd a=>⟨(oA 2 rfl (iS (jc 0 nd) (iS (jc 1 nd) lM))),(nJ (pO (ve (ip (oU (K:=K) rfl) xR (by rfl) B.any wM 'x')))),(ie 0)⟩) qm) (hW (iZ (KP (hV (Av (ie 1) (ip (i7 (K:=K)) lj (by rfl) B.len lg 'x')) (hV (kH (kj (K:=K)) lU (by rfl) B.tuple lJ 'x') iJ)))))))))⟩
theorem VF(D:iu K mg "flats" (j4 27))(a:Ha K mg base "flats")(b:lP P w K mg base c.Cutting "cuts" 1 (Cq K (jb c)))(d:lP P w K mg base c.Cutting "dims" 1 (xU K (iH c)))(e:CP Z "flat_on" 6 (j6 c)):CF Z "flats" 7 (pM c):=R9 Z 6 (pM c) ["cutting","cuts","dims","found","k","flat","smaller"] ["cutting"] rfl D a λf nd g hr=>⟨_,(gX (jA 1 nd (jR (Kw b hr (ie 0)))) (gX (jA 2 nd (Ad d hr (ie 0))) (Pg (N:=7) 3 4 5 6 nd PassesOwn.never hr f B.list B.sorted 'x' (tq.im (lO B.range (hV (ip (i7 (K:=K)) lj (by rfl) B.len lg 'x') iJ))) 'x')))⟩
theorem Wa(D:iu K mg "flat_numbers" (j4 30))(a:CF Z "numbers_in_order" 2 (iL c))(b:CF Z "flats" 7 (pM c)):CF Z "flat_numbers" 8 (jz c):=Gd Z 7 (jz c) ["cutting"] ["cutting"] rfl D λnd d hr=>⟨_, 'x'⟩
theorem Wf(D:iu K mg "dim_sums" (j4 32))(b:CF Z "flats" 7 (pM c))(a:CF Z "numbers_in_order" 2 (iL c))(d:lP P w K mg base c.Cutting "dims" 1 (xU K (iH c))):CF Z "dim_sums" 8 (mB c):=Gd Z 7 (mB c) ["cutting","sums","told","flat","number"] ["cutting"] rfl D λnd e hr=>⟨_,(gX (Ct 1 nd (Lh 'x' (IX (Ad d hr (ie 0)) jO))) (gX 'x' (gX (n8 PassesOwn.never rfl (og B.zip 'x') (Et 2 rfl (nq (kX 3 nd) (nq (kX 4 nd) v7))) (hW (Bw 1 (pv 1) 'x' 'x'))) (hW (BI 1 (pv 1))))))⟩
theorem VI(D:iu K mg "how_many_lands" (j4 33))(b:CF Z "flat_numbers" 8 (jz c)):CP Z "how_many_lands" 9 (j7 c):=lX Z 8 (j7 c) ["cutting"] ["cutting"] rfl D λnd a hr=>⟨_,(hW (iZ (ip (pB (K:=K) rfl) xq (by rfl) B.sum wc (hV (jR (kf ["number"] [none] a (jh 'x') (λnd a=>⟨(jc 0 nd),iV,(ip mn pT (by rfl) B.abs pY 'x')⟩))) iJ))))⟩
theorem V7(D:iu K mg "how_many_bounded" (j4 34))(a:CP Z "rank" 6 (sP c))(b:lP P w K mg base c.Cutting "dims" 1 (xU K (iH c)))(e:lP P w K mg base c.Cutting "cuts" 1 (Cq K (jb c)))(d:CF Z "flat_numbers" 8 (jz c)):CP Z "how_many_bounded" 9 (jI c):=lX Z 8 (jI c) ["cutting"] ["cutting"] rfl D λnd f hr=>⟨_,(gX (jN (jQ Dk Dr (ml a hr (hV (jR (Kw e hr (ie 0))) (hV (Ad b hr (ie 0)) iJ))) (Ad b hr (ie 0))) 'x' iX) (hW (iZ (ip mn pT (by rfl) B.abs pY (hV (ip (pB (K:=K) rfl) xq (by rfl) B.sum wc 'x') iJ)))))⟩
theorem V1{k m:Nat}(D:iu K mg "_law_sums" (j4 46))(b:CP Z "_law_trace" k (ki c))(a:CP Z "_law_sums" k (jH c m)):CP Z "_law_sums" (k+1) (jH c (m+1)):=lX Z k (jH c (m+1)) ["_law_dims","_law_cuts","_law_seen"] ["_law_dims","_law_cuts"] rfl D λnd d hr=>⟨_,(gX 'x' (gX (jN 'x' (hW (iZ (jR (ET (hV (EJ (ip (i7 (K:=K)) lj (by rfl) B.len lg 'x')) 'x'))))) iX) (gX (jA 2 nd (zl (ml b hr (hV (ie 0) (hV (ie 1) (hV (Av (ip (i7 (K:=K)) lj (by rfl) B.len lg 'x') jO) iJ))) (aL _)) jO)) (hW (iZ (jR (kf ["_law_one","_law_two"] [none,none] d (og B.zip (hV (ml a hr 'x' (aL _)) (hV (jR (Br (ml a hr 'x' (aL _)) 'x')) iJ))) (λnd d=>⟨(oA 2 rfl (iS (jc 0 nd) (iS (jc 1 nd) lM))),iV, 'x'⟩))))))))⟩
theorem oS(D:iu K mg "_law_sums" (j4 46))(a:CP Z "_law_trace" 3 (ki c)):∀m:Nat,CP Z "_law_sums" (3+m) (jH c m)
 |0=>Td (k:=2) ["_law_dims","_law_cuts","_law_seen"] ["_law_dims","_law_cuts"] rfl D
 |m+1=>by have b:=oS D a m;exact V1 Z B ER (k:=3+m) D (a.mono (by omega)) b
theorem V5(D:iu K mg "_law_told" (j4 47))(b:HK P w K mg base "Cutting" c.Cutting 5 (Ec K c.Cutting (j8 c)))(h:CP Z "_law_sums" 13 (jH c 10))(e:CF Z "dim_sums" 8 (mB c))(f:CP Z "how_many_lands" 9 (j7 c))(g:CP Z "how_many_bounded" 9 (jI c))(d:CP Z "_law_rank" 1 (kq c))(i:CP Z "_law_whole" 1 (lh c)):CP Z "_law_told" 14 (l8 c):=lX Z 13 (l8 c) ["_law_dims","_law_cuts","_law_cutting_here","_law_due","_law_found","_law_many","_law_bounded"] ["_law_dims","_law_cuts"] rfl D λnd a hr=>⟨_,(gX (jA 2 nd (Tv b hr (hV (ie 0) (hV (jR (oZ (nA (K:=K)) qu (by rfl) B.list ou 'x')) iJ)))) (gX 'x' (gX 'x' (gX (jN (Dl (pN (pO (ve (nR "list" (by decide) B.isinstance B.list ou (ie 4)))) (pN 'x' (p9 (pO (ve (ip (nj (K:=K) rfl) uz (by rfl) B.all uB (hV (jR (kf ["_law_one"] [none] a (jh (ie 4)) (λnd a=>⟨(jc 0 nd),iV, 'x'⟩))) iJ)))))))) 'x' iX) (gX (nv 4 (pv 4) jO) (gX 'x' (gX 'x' (gX (jN (Dl (pN 'x' (pN 'x' (p9 (Dx hr (ie 5) (ip (pB (K:=K) rfl) xq (by rfl) B.sum wc (hV (jR (kf ["_law_one"] [none] a (jh (ie 3)) (λnd a=>⟨(jc 0 nd),iV,(ip mn pT (by rfl) B.abs pY 'x')⟩))) iJ))))))) 'x' iX) (gX (jN (jQ Dk Dr (ml d hr (hV (jR (kf ["_law_cut_here","_law_dims"] [none,some 0] a (jh (ie 1)) (λnd a=>⟨(jc 0 nd),iV, 'x'⟩))) iJ)) (ie 0)) (hW (iZ (IT hr (ie 6) jO))) iX) (hW (iZ (IT hr (ie 6) (ip mn pT (by rfl) B.abs pY (hV (ip (pB (K:=K) rfl) xq (by rfl) B.sum wc 'x') iJ))))))))))))))⟩
theorem oL{b:Addr}{fd:FuncData}(D:Mn K "law" "law" (j4 48) b fd)(e:CP Z "_law_cutting" 3 (kG c))(f:CP Z "_law_cell_at" 1 (jG c))(d:CP Z "_law_told" 14 (l8 c)):nM P w K mg base sh 15 b fd ["_law_script"] (xU K (ua c)):=TZ Z 14 (ua c) ["_law_script","_law_asked"] ["_law_script"] rfl D λnd a hr=>⟨_,(gX (pX ["_law_k","_law_script"] [none,some 0] 1 nd a (tq.pim (lO B.range 'x')) (λnd a=>⟨(jc 0 nd),iV, 'x'⟩) qm) (hW (iZ (ip (nj (K:=K) rfl) uz (by rfl) B.all uB (hV (jR (kf ["_law_dims","_law_cuts"] [none,none] a (jh 'x') (λnd a=>⟨(oA 2 rfl (iS (jc 0 nd) (iS (jc 1 nd) lM))),iV, 'x'⟩))) iJ)))))⟩
end
def Sv{l:W.OpenLaw}{w:World}{K:W.Frag}{h:Heap}{mg:Str->Option Value}{c:Cs}{fa f:Addr}{oc kV p pm d ct:Value}{od an:Option Addr}{R:Array (Option Value)}(X:K.In h)(G:h.Ns mainGlobals mg)(r:mg "law" = some (.ref fa))
  (a:W.nsIn K mainGlobals "law" = some (some (.ref f))) (lk:K.lookup f=some ⟨oc,od,.func (W.fnOf "law" "law" (jU (j4 48)) (iQ (j4 48)) (g9 (j4 48)) .none kV p pm an d ct),R⟩) (cc:W.codeIn K d "law" = true) (kk:W.keepIn K (.ref f)=true)
  (B:Bs mg) (ER:Er c K mg) (LF:∀ns:LI,(ua c) [.scr ns]=.ok (.bl true)) (D0:iu K mg "is_whole" (j4 5)) (D1:iu K mg "sign_of" (j4 6)) (D2:iu K mg "common_divisor" (j4 7)) (D3:iu K mg "first_place" (j4 15)) (D4:iu K mg "lies_in" (j4 28)) (D5:iu K mg "_law_cell_at" (j4 36)) (D6:iu K mg "_law_draw" (j4 37)) (D7:iu K mg "_law_whole" (j4 38)) (D8:iu K mg "_law_common" (j4 39)) (D9:iu K mg "_law_same" (j4 40)) (I:iu K mg "_law_rank" (j4 43)) (D11:iu K mg "lowest" (j4 8)) (D12:iu K mg "is_dims" (j4 13)) (D13:iu K mg "is_cut" (j4 14)) (H:iu K mg "same_spots" (j4 16)) (D15:iu K mg "numbers_in_order" (j4 29)) (t:iu K mg "_law_cut" (j4 41)) (D17:iu K mg "_law_on" (j4 44)) (D18:iu K mg "cleared" (j4 9)) (D19:iu K mg "can_stand" (j4 17)) (U:iu K mg "_law_cutting" (j4 42)) (u:iu K mg "_law_trace" (j4 45)) (C:iu K mg "checked_cuts" (j4 18)) (L:iu K mg "settled" (j4 21)) (D24:iu K mg "with_pivot" (j4 22)) (x:iu K mg "pivots_and_rests" (j4 23)) (N:iu K mg "rank" (j4 24)) (A:iu K mg "flat_on" (j4 26)) (D28:iu K mg "flats" (j4 27)) (E:iu K mg "flat_numbers" (j4 30)) (D30:iu K mg "dim_sums" (j4 32)) (P:iu K mg "how_many_lands" (j4 33)) (D32:iu K mg "how_many_bounded" (j4 34)) (D33:iu K mg "_law_sums" (j4 46)) (Y:iu K mg "_law_told" (j4 47)) (M0:mm K c.Cutting "dims" "Cutting.dims" (rH (j4 19) 1)) (M1:mm K c.Cutting "cuts" "Cutting.cuts" (rH (j4 19) 2)) (M2:mm K c.Cutting "__init__" "Cutting.__init__" (rH (j4 19) 0)) :
  ∃fd:FuncData,(∀(s:Shared) (v:Value),BindsTo s fd ⟨[v],[]⟩ [("_law_script",v)])/\∀b:Heap,K.In b->b.Ns mainGlobals mg->(∀y∈(["flats"]:List Str),Ha K mg b y)->nM l.prog w K mg b sh 15 fa fd ["_law_script"] (LZ K):=by
 have e:=r.symm.trans (W.mg_of X G a);cases e;refine⟨W.fnOf "law" "law" (jU (j4 48)) (iQ (j4 48)) (g9 (j4 48)) .none kV p pm an d ct,?bnd,λb _ _ LL=>?main⟩
 case main=>have Z:Zx l.prog w K mg b:=⟨trivial⟩;have O0:=o0 Z B ER D0;have O1:=o1 Z B ER D1;have O2:=o2 Z B ER D2;have O3:=o3 Z B ER D3;have O4:=o4 Z B ER M0;have O5:=o5 Z B ER M1;have O6:=o6 Z B ER D4;have O7:=o7 Z B ER D5;have O8:=o8 Z B ER D6;have O9:=o9 Z B ER D7;have S:=VR Z B ER D8;have m:=Wb Z B ER D9;have O12:=We Z B ER I;have J:=VN Z B ER D11 O2;have O14:=Wj Z B ER D12 O0;have O15:=VL Z B ER D13 O0;have O16:=VU Z B ER H O3;have k:=Wd Z B ER D15 O6;have O18:=VE Z B ER t O8;have O19:=VS Z B ER D17 S;have i:=VQ Z B ER D18 J O1;have O21:=V6 Z B ER D19 O15 O16;have O22:=VY Z B ER U O8 O18 m;have O23:=Wh Z B ER u O19 m;have q:=Wg Z B ER C O14 O21;have j:=VH Z B ER L i;have F:=Wc Z B ER D24 i;have O27:=VM Z B ER M2 q;have n:=V0 Z B ER x j F;have O29:=VT Z B ER N n;have D:=VG Z B ER A n j;have g:=VF Z B ER D28 (LL "flats" (by decide)) O5 O4 D;have o:=Wa Z B ER E k g;have O33:=Wf Z B ER D30 g k O4;have O34:=VI Z B ER P o;have Q:=V7 Z B ER D32 O29 O4 O5 o;have O36:=oS Z B ER D33 (O23.mono (by decide)) 10;have z:=V5 Z B ER Y O27 O36 O33 O34 Q O12 O9;exact (oL Z B ER (EF (st:=j4 48) lk cc kk) O22 O7 z).imp (IV λns _ _=>LF ns)
 case bnd=>exact λs v=>.of_eq rfl
end K44
namespace PySem.Challenge.cw_cutlands_k44_lands_by_counting_holds
def tw3378535155952629635:0=0:=rfl
def tw4721988028657601917:0=0:=rfl
def tw13406799514336908662:0=0:=rfl
def tw1822383694440332685:0=0:=rfl
def tw3760664498098423055:0=0:=rfl
def tw3893003891326151072:0=0:=rfl
def tw17655547740554905892:0=0:=rfl
def tw12210549671752614023:0=0:=rfl
def tw1183077200694919120:0=0:=rfl
def tw15312088667165564039:0=0:=rfl
def tw16695338192683954268:0=0:=rfl
def tw8451208129046491885:0=0:=rfl
def tw9478208088568539579:0=0:=rfl
def tw14108464173586734205:0=0:=rfl
def tw15913719351869998164:0=0:=rfl
def tw17627348743515694947:0=0:=rfl
def tw13296607638052598288:0=0:=rfl
def tw17685393743046241170:0=0:=rfl
def tw5857143842664837835:0=0:=rfl
def tw17950727015632599259:0=0:=rfl
def tw1489677935549310250:0=0:=rfl
def tw16978847391525067068:0=0:=rfl
def tw17238092169903713412:0=0:=rfl
def tw11875759948576635229:0=0:=rfl
def tw8141915756779356903:0=0:=rfl
def tw4517407153618883304:0=0:=rfl
def tw7927269035973830519:0=0:=rfl
def tw8771880331896594115:0=0:=rfl
def tw9839010154976228941:0=0:=rfl
def tw4183929377340946382:0=0:=rfl
def tw16723769883682803045:0=0:=rfl
def tw12040400142222590204:0=0:=rfl
def tw429499985239702750:0=0:=rfl
def tw8192147845772064089:0=0:=rfl
def tw6870706514032449364:0=0:=rfl
def tw3305206776952479975:0=0:=rfl
def tw17181527499902526422:0=0:=rfl
def tw3083940373829180785:0=0:=rfl
def tw17984971195335586207:0=0:=rfl
def tw7913041875833656812:0=0:=rfl
def tw10950470029442142843:0=0:=rfl
def tw2793017217921900589:0=0:=rfl
def tw6351306724280625239:0=0:=rfl
def tw3192134116751199278:0=0:=rfl
def tw14108725035420221716:0=0:=rfl
def tw5683366153383802525:0=0:=rfl
def tw356981579860135432:0=0:=rfl
def tw2255047039922968064:0=0:=rfl
def tw1013390197784346689:0=0:=rfl
def tw15253420297625429961:0=0:=rfl
def tw5884934740423501252:0=0:=rfl
def tw8172138269820720409:0=0:=rfl
def tw1115825007500269919:0=0:=rfl
def tw11006316749250310235:0=0:=rfl
def tw13319502698342933014:0=0:=rfl
def tw9464996323701851998:0=0:=rfl
def tw5092721362774006265:0=0:=rfl
def tw10190810106706895702:0=0:=rfl
def tw13729892896859814731:0=0:=rfl
def tw17921410570703453038:0=0:=rfl
def tw2235668798608838962:0=0:=rfl
def tw16808762168433012281:0=0:=rfl
def tw7164324891897440295:0=0:=rfl
def tw13178358872891785302:0=0:=rfl
def tw14755339233330740892:0=0:=rfl
def tw2581917986082161863:0=0:=rfl
def tw197321646970938124:0=0:=rfl
def tw13323423031721898529:0=0:=rfl
def tw9772190231502457979:0=0:=rfl
def tw16171445013767531690:0=0:=rfl
def tw38347163758022069:0=0:=rfl
def tw15687689724321609815:0=0:=rfl
def tw8831303425853807708:0=0:=rfl
def tw7881715826521311780:0=0:=rfl
def tw15541530045014561721:0=0:=rfl
def tw16456946051562722969:0=0:=rfl
def tw16390191340008283264:0=0:=rfl
def tw3671917936755046441:0=0:=rfl
def tw3028456433483695256:0=0:=rfl
def tw2719533177114056664:0=0:=rfl
def tw2267176203647734963:0=0:=rfl
def tw9132754779509431453:0=0:=rfl
def tw863611019711821579:0=0:=rfl
def tw12064517304498839797:0=0:=rfl
def tw9240873160143359362:0=0:=rfl
def tw9047809894021138326:0=0:=rfl
def tw18099799068248181839:0=0:=rfl
def tw14781640276747576244:0=0:=rfl
def tw14910297769589565841:0=0:=rfl
def tw15690014426102860207:0=0:=rfl
def tw3455991180965659803:0=0:=rfl
def tw14493554851970170694:0=0:=rfl
def tw14263111306260982896:0=0:=rfl
def tw15073527847623778654:0=0:=rfl
def tw2740152425744752109:0=0:=rfl
def tw5970715013096941586:0=0:=rfl
def tw2954534085748797417:0=0:=rfl
def tw8836048109435097971:0=0:=rfl
def tw14723569791186675339:0=0:=rfl
def tw17061266640729377601:0=0:=rfl
def tw7370999389748843930:0=0:=rfl
def tw18054961743444513755:0=0:=rfl
def tw7234644103738110326:0=0:=rfl
end PySem.Challenge.cw_cutlands_k44_lands_by_counting_holds
open PySem PySem.W PyProof.Rows
set_option Elab.async true
theorem PySem.Challenge.cw_cutlands_k44_lands_by_counting_holds : PySem.Challenge.rw_cutlands_k44_lands_by_counting.Holds := by
 w_on;o_law;k_head;(case hw=>w_witness2);k_fill;refine L3.Qw (l:=PySem.Challenge.rw_cutlands_k44_lands_by_counting) (k:=15) (x:= "_law_script") ["flats"] rfl ⟨rfl,by decide,by decide⟩ rfl (λw h Y=>PySem.W.km_in_of Y) ?X ?G ?F
 case X=>exact List.forall_mem_cons.mpr ⟨⟨_,rfl⟩,λ_ h=>nomatch h⟩
 case G=>intro w;kernel_rfl
 case F=>intro w mg fa h KX G hmg;refine' K44.Sv KX G hmg ?a ?l ?c ?k ?B ?E (λns=>CL.GM ns) ?_ ?_ ?_ ?_ ?_ ?_ ?_ ?_ ?_ ?_ ?_ ?_ ?_ ?_ ?_ ?_ ?_ ?_ ?_ ?_ ?_ ?_ ?_ ?_ ?_ ?_ ?_ ?_ ?_ ?_ ?_ ?_ ?_ ?_ ?_ ?_ ?_ ?_;(case a=>k_is);(case l=>k_is);(case c=>k_is);(case k=>k_is);(case B=>constructor<;>(apply mg_none_of KX G;k_is));(case E=>apply K44.S9 KX G<;>first | k_is | k_exc | decide);all_goals first | (apply L2.RC KX G<;>k_is) | (apply K44.Uo<;>first | k_is | k_exc | decide)
