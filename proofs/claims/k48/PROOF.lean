import PyProof.Rows.All
import Wide.All
import OpenK.AllK
import Wide.FinOn
import Lean
import PyProof.EqAt
import PyProof.EqKinds
import PyProof.TupleCall
import PyProof.P3Eq
import PyProof.NeData
import PyProof.ConsumeWalk
import PyProof.Rows.SumAny
import PyProof.ZipIter
import PyProof.Rows.ZipGen
import PyProof.Rows.SeqMore
import PyProof.FactsAll.tuple
import PyProof.WalksMore
import PyProof.EnumMake
import PyProof.EnumFor
import PyProof.Rows.MinMaxN
import KE.KDictList
import KE.KRevIter
import KE.KItemsList
import PyProof.Rows.SortWalk
import PyProof.Rows.SetFrom
import PyProof.SetRoads
import PyProof.AttrMissHeap
import KE.KDictOf
import PyProof.ExcInit
import PyProof.ExcClass3
import PyProof.InstStoreFacts
import PyProof.Rows.ChunkEnd
import KE.KSortTup
import KE.KLam
import PySem.Challenge.RW_cutlands_k48_whole_no_more_lands
set_option bootstrap.genMatcherCode false
set_option maxRecDepth 100000
set_option maxHeartbeats 0
set_option linter.all false
noncomputable section
set_option compiler.extract_closed false
set_option hygiene false
abbrev Vq:=PySem.Value
abbrev Sq:=PySem.Shared
abbrev LI:=List Int
abbrev LL:=List LI
section
open PySem
def aa:=@List.getElem?_eq_some_iff
def ae:=@Heap.get?_push_of_some
def af:=@List.getD_eq_getElem?_getD
def ag:=@List.getElem?_eq_getElem
def ai:=@List.mem_append
def aj:=@List.mem_singleton
def ao:=@wpAny_pure
def aq:=@wpAny_bind
def ar:=@List.getElem?_set_ne
def au:=@Heap.get?_push_size
def aw:=@List.mem_of_getElem?
def ax:=@List.getElem?_map
def ay:=@List.length_map
def az:=@List.mem_append_left
def aA:=@List.length_cons
def aC:=@decide_eq_false
def aD:=@decide_eq_true
def aE:=@List.mem_map
def aF:=@Nat.lt_of_lt_of_le
def aG:=@List.mem_cons
def aH:=@Nat.zero_add
def aI:=@Bool.false_ne_true
def aJ:=@List.map_map
def aL:=@Nat.le_refl
def aM:=@Heap.lt_size
def aN:=@Nat.ne_of_lt
def aO:=@Nat.le_trans
def aP:=@Classical.byContradiction
def aR:=@if_pos
def aS:=@if_neg
def aT:=@List.mem_range
def aU:=@List.length_append
def aV:=@List.mem_filter
def aW:=@List.getElem_mem
def aX:=@List.of_mem_zip
def aZ:=@Int.natAbs_mul
def a9:=@List.map_append
def bc:=@Nat.lt_irrefl
def bg:=@Nat.le_of_lt
def bh:=@List.filterMap_cons
def bj:=@List.mem_cons_self
def bp:=@List.mem_cons_of_mem
def bq:=@Array.append_assoc
def br:=@Array.length_toList
def bt:=@Nat.ne_of_gt
def bu:=@List.mem_filterMap
def bx:=@List.mem_append_right
def bz:=@Int.natCast_nonneg
def bA:=@List.size_toArray
def bB:=@List.any_eq_false
def bC:=@List.map_cons
def bE:=@Nat.lt_succ_self
def bF:=@Nat.zero_le
def bG:=@List.append_nil
def bH:=@Nat.le_succ
def bI:=@List.nodup_cons
def bJ:=@Option.isSome_iff_exists
def bK:=@List.length_take
def bL:=@Int.toNat_natCast
def bM:=@List.length_drop
def bN:=@Bool.and_eq_true
def bO:=@List.length_set
def bP:=@List.all_cons
def bQ:=@List.any_cons
def bR:=@List.replicate_succ
def bS:=@List.flatten_cons
def bT:=@List.append_assoc
def bU:=@List.length_singleton
def bV:=@Nat.succ_mul
def bW:=@List.map_nil
def bX:=@Nat.le_of_not_lt
def bY:=@List.forIn_cons
def bZ:=@Bool.false_eq_true
def b9:=@List.lookup_cons
def cf:=@Nat.le_of_succ_le
def cg:=@Nat.lt_succ_of_lt
def cj:=@List.forIn_nil
def ck:=@Nat.le_add_right
def cm:=@Nat.le_succ_of_le
def cn:=@Nat.not_lt
def cq:=@List.range_succ_eq_map
def cu:=@List.all_map
def cw:=@List.any_map
def cx:=@List.take_of_length_le
def cy:=@List.all_eq_true
def cz:=@Int.lt_of_le_of_lt
def cA:=@Array.getD_eq_getD_getElem?
def cB:=@List.ext_getElem
def cC:=@Array.forIn_toList
def cD:=@Bool.not_true
def cE:=@Bool.not_false
def cF:=@Nat.lt_of_le_of_lt
def cG:=@List.zip_cons_cons
def cH:=@List.map_inj_right
def cI:=@Option.map_eq_some_iff
def cJ:=@List.take_add_one
def cK:=@List.pairwise_singleton
def cL:=@List.map_congr_left
def cN:=@List.pairwise_map
def cO:=@List.pairwise_iff_getElem
def cQ:=@Int.gcd_dvd_left
def cR:=@Int.gcd_dvd_right
def cS:=@Int.dvd_mul_of_dvd_left
def cT:=@Int.fmod_nonneg_of_pos
def cU:=@Int.fmod_lt_of_pos
def cV:=@Int.mul_assoc
def cW:=@Int.mul_comm
def cX:=@List.mem_of_find?_eq_some
def cY:=@List.lookup_cons_self
def cZ:=@List.drop_eq_getElem_cons
def c5:=@List.mem_nil_iff
def c6:=@List.map_take
def c7:=@List.map_drop
def c8:=@Nat.not_lt_zero
def c9:=@Nat.pow_le_pow_right
def dc:=@Nat.pow_succ
def de:=@Int.natAbs_add_le
def dg:=@Int.sub_eq_add_neg
def dh:=@List.drop_of_length_le
def dm:=@List.pairwise_cons
def dq:=@Bool.not_eq_true'
def du:=@List.mergeSort_perm
def dw:=@List.pairwise_mergeSort
def dy:=@Int.mul_fdiv_cancel_left
def dz:=@List.cons_append
def dA:=@Nat.two_pow_pos
def dB:=@List.length_nil
def dC:=@Int.one_mul
def dD:=@Int.zero_mul
def dE:=@Int.add_zero
def dF:=@Int.zero_add
def dG:=@Int.mul_ne_zero
def dH:=@Int.mul_add
def dI:=@Int.mul_zero
def dJ:=@Int.mul_eq_zero
def dM:=@Int.neg_mul
def dN:=@List.pairwise_append
def dO:=@List.take_length
def dP:=@List.getElem_map
def dQ:=@List.length_erase_of_mem
def dR:=@List.mem_of_mem_erase
def dS:=@List.mem_of_mem_take
def dU:=@List.length_zip
def dW:=@List.any_eq_true
def dX:=@List.take_append_drop
def dY:=@List.length_range
def dZ:=@List.getElem_range
def d6:=@List.length_eq_zero_iff
def d7:=@List.eq_nil_or_concat
def d8:=@List.concat_eq_append
def d9:=@Nat.le_antisymm
def ee:=@Bool.eq_iff_iff
def eh:=@Int.ofNat_inj
def ei:=@List.filter_congr
def eA:=@List.length_filter_le
def eB:=@Nat.not_succ_le_self
def eC:=@List.not_mem_nil
def eE:=@List.nodup_append
def eF:=@List.length_filterMap_le
def eG:=@Int.le_refl
def eI:=@List.append_of_mem
def eJ:=@List.filter_eq_nil_iff
def eK:=@List.sublist_map_iff
def eL:=@List.sublist_cons_iff
end
set_option Elab.async false
namespace L2
open PySem PySem.Spec PyProof.Rows
abbrev mG:=Sum Int Str
noncomputable def vH:mG->Value->Bool
 |.inl k,v=>Value.isInt k v
 |.inr x,v=>Value.isStrOf x v
def Q2(w:World):mG->Int
 |.inl k=>hashInt k
 |.inr x=>hashStr w x
theorem iA:∀{k} {v},vH k v=true->(∃i t,k=Sum.inl i/\v=Value.int i t)\/(∃x t,k=Sum.inr x/\v=Value.str x t)
 |.inl i,v,h=>by obtain⟨t,e⟩:=Value.isInt_shape h;exact .inl ⟨i,t,rfl,e⟩
 |.inr x,v,h=>by obtain⟨t,e⟩:=Value.isStrOf_shape h;exact .inr ⟨x,t,rfl,e⟩
def Ee i t:vH (.inl i) (.int i t)=true:=by simp[vH,Value.isInt]
def Dm x t:vH (.inr x) (.str x t)=true:=by simp[vH,Value.isStrOf]
def M3 a b:decide ((Sum.inl a:mG)=Sum.inl b)=(a==b):=by
 by_cases e:a=b
 .subst e;simp
 .have h:¬(Sum.inl a:mG)=Sum.inl b:=λq=>e (Sum.inl.inj q);rw[aC h];exact (beq_eq_false_iff_ne.mpr e).symm
def Me a b:decide ((Sum.inr a:mG)=Sum.inr b)=decide (a=b):=by
 by_cases e:a=b
 .subst e;simp
 .have h:¬(Sum.inr a:mG)=Sum.inr b:=λq=>e (Sum.inr.inj q);rw[aC h,aC e]
def Nz a b:decide ((Sum.inl a:mG)=Sum.inr b)=false:=aC (λq=>nomatch q)
def Mw a b:decide ((Sum.inr a:mG)=Sum.inl b)=false:=aC (λq=>nomatch q)
noncomputable def jX(prog:Program)(w:World):PySem.KeyKind prog w mG where
 is:=vH
 hash:=Q2 w
 inj:=λv a b l f=>by
  rcases iA l with⟨i,t,rfl,rfl⟩|⟨x,t,rfl,rfl⟩
  .rcases iA f with⟨j,u,rfl,e⟩|⟨y,u,rfl,e⟩
   .injection e with c _;rw[c]
   .exact nomatch e
  .rcases iA f with⟨j,u,rfl,e⟩|⟨y,u,rfl,e⟩
   .exact nomatch e
   .injection e with c _;rw[c]
 byValue:=λk v h=>by rcases iA h with⟨i,t,rfl,rfl⟩|⟨x,t,rfl,rfl⟩<;>rfl
 pyHash:=λd h=>by
  rcases iA d with⟨i,t,rfl,rfl⟩|⟨x,t,rfl,rfl⟩
  .exact wpAny_pyHash_int h
  .exact wpAny_pyHash_str h
 eqBool:=λg d h=>by
  rcases iA g with⟨i,t,rfl,rfl⟩|⟨x,t,rfl,rfl⟩
  .rcases iA d with⟨j,u,rfl,rfl⟩|⟨y,u,rfl,rfl⟩
   .rw[M3]at h;exact wpAny_eqBool_int h
   .rw[Nz]at h;exact SeqAt.EqAt.int_str i t y u _ _ _ _ h
  .rcases iA d with⟨j,u,rfl,rfl⟩|⟨y,u,rfl,rfl⟩
   .rw[Mw]at h;exact SeqAt.EqAt.str_int x t j u _ _ _ _ h
   .rw[Me]at h;exact wpAny_eqBool_str h
 «strs»:=λk x t v h=>by
  rcases iA h with⟨i,u,rfl,e⟩|⟨y,u,rfl,e⟩
  .exact nomatch e
  .injection e with c _;subst c;cases v<;>rfl
def yZ prog w i t:(jX prog w).is (.inl i) (.int i t)=true:=Ee i t
def zx prog w x t:(jX prog w).is (.inr x) (.str x t)=true:=Dm x t
end L2
namespace L2
open PySem PySem.Spec PyProof.Rows
inductive V where
 |non|bl (b:Bool)|int (i:Int)|str (x:Str)|byt (b:Array UInt8)|flt (b:UInt64)|ref (a:Addr)|ty (n:String)
 deriving DecidableEq
def gh:V->Value->Prop
 |.non,u=>u=Value.none
 |.bl b,u=>u=Value.bool b
 |.int i,u=>∃t,u=Value.int i t
 |.str x,u=>∃t,u=Value.str x t
 |.byt b,u=>∃t,u=Value.bytes b t
 |.flt b,u=>∃t,u=Value.float b t
 |.ref a,u=>u=Value.ref a
 |.ty n,u=>u=Value.type n
abbrev fP:List V->List Value->Prop:=Paired gh
def fP.length(r:fP xs us):xs.length=us.length:=Paired.length r
theorem fP.get:∀{a:List V} {us:List Vq} {i:Nat} {x:V},fP a us->a[i]? = some x->∃u,us[i]? = some u/\gh x u
 |_,_,_,_,.nil,e=>by simp at e
 |_,_,0,_,.cons r _,e=>by simp at e;subst e;exact⟨_,rfl,r⟩
 |_,_,i+1,x,.cons _ t,e=>by obtain⟨u,c,b⟩:=fP.get t (by simpa using e);exact⟨u,by simpa using c,b⟩
theorem fP.set(r:gh x u):∀{xs} {us} i,fP xs us->fP (xs.set i x) (us.set i u)
 |_,_,_,.nil=>.nil
 |_,_,0,.cons _ t=>.cons r t
 |_,_,i+1,.cons q t=>.cons q (fP.set r i t)
theorem fP.append:∀{xs ys} {us ws},fP xs us->fP ys ws->fP (xs++ys) (us++ws)
 |_,_,_,_,.nil,s=>s
 |_,_,_,_,.cons r t,s=>.cons r (fP.append t s)
theorem fP.take:∀{xs} {us} n,fP xs us->fP (xs.take n) (us.take n)
 |_,_,0,_=>.nil
 |_,_,_+1,.nil=>.nil
 |_,_,n+1,.cons r t=>.cons r (fP.take n t)
theorem fP.drop:∀{xs} {us} n,fP xs us->fP (xs.drop n) (us.drop n)
 |_,_,0,r=>r
 |_,_,_+1,.nil=>.nil
 |_,_,n+1,.cons _ t=>fP.drop n t
def xQ:Option V->Option Value->Prop
 |some v,some u=>gh v u
 |none,none=>True
 |_,_=>False
def KV{a:Type}:List (a×V)->List (a×Value)->Prop:=Paired λ(p:a×V) (q:a×Value)=>p.1=q.1/\gh p.2 q.2
def kV:mG->V
 |.inl i=>.int i
 |.inr x=>.str x
inductive HO where
 |lst (xs:List V)
 |tup (xs:List V)
 |dK (kvs:List (mG×V))|dT (kvs:List (List mG×V))
 |set (S:Int->Bool) (n:Nat)
 |ins (C dx:Addr) (fs:List (Str×V))
 |own (x:Addr)
 |xd (fs:List (Str×V))
 |met (f x:Addr)
 |rng (lo hi:Int)
 |frz (o:Obj) (u:HO)
 |tbl (q:Str) (ps:Array Vq)
 |ext (φ:Heap->Prop)
abbrev Hp:=Addr->Option HO
noncomputable def gy(H:Hp)(a:Addr)(o:HO):Hp:=λb=>if b=a then some o else H b
def eW:gy H a o a=some o:=by unfold gy;rw[aR rfl]
def fu(h:b≠a):gy H a o b=H b:=by unfold gy;rw[aS h]
def fF{H:Hp}(h:H a=some o)(h':H b=none):a≠b:=by intro e;subst e;rw[h]at h';cases h'
section
variable (P:Program)(w:World)
def xP(h:Heap)(a:Addr)(b:Array Vq):Prop:=∃o,h.get? a=some o/\o.cls=.type "tuple" /\∃n,o.data=.seq b n/\o.dict=none
def xP.tup(x:xP h a items):IsTup h a items:=let ⟨o,e,c,n,d,_⟩:=x;⟨o,e,c,n,d⟩
def xP.new(h:Heap) items:xP (h.push {cls:=.type "tuple",data:=.seq items}) h.objs.size items:=⟨_,au _ rfl,rfl,_,rfl,rfl⟩
def jY:List Vq->List Value
 |_::_::c::r=>c::jY r
 |_=>[]
def ib(H:Hp)(h:Heap)(a:Addr):HO->Prop
 |.lst c=>c.length<=sizeLine/\∃(its:List Vq) (n:Nat),fP c its/\h.get? a=some {cls:=.type "list",data:=.seq its.toArray n}
 |.tup c=>c.length<=sizeLine/\∃its:List Vq,fP c its/\xP h a its.toArray
 |.dK kvs=>kvs.length<=sizeLine/\(a==sysModules)=false/\∃vs,KV kvs vs/\h.DictOf (jX P w) a vs
 |.dT kvs=>kvs.length<=sizeLine/\(a==sysModules)=false/\∃c:List (List mG×Addr×Value),
   Paired (λ(p:List mG×V) (q:List mG×Addr×Value)=>p.1=q.1/\H q.2.1=some (.tup (p.1.map kV))/\gh p.2 q.2.2) kvs c/\
   ∃o e j,h.get? a=some o/\o.ExactDict/\o.data=.dict e j/\e.toList=c.map (entryOfKey (tupleKind (jX P w)))/\(c.map (·.1)).Nodup
 |.set S n=>h.SetOf (intKind P w) a S n
 |.ins C dx fs=>H dx=some (.own a)/\fs.length<=1000/\dx≠a/\h.get? a=some (W.instObj C dx)/\
   ∃d,h.Ns1 dx d/\(∀f,xQ (fs.lookup f) (d f))/\PySem.Within d (fs.map (·.1))
 |.own _=>∃o,h.get? a=some o
 |.xd fs=>∃d,h.Ns1 a d/\∀f,xQ (fs.lookup f) (d f)
 |.rng lo hi=>∃t u v,h.get? a=some {cls:=.type "range",data:=.fields #[.int lo t,.int hi u,.int 1 v]}
 |.frz o u=>h.get? a=some o/\ib H h a u
 |.tbl q ps=>h.get? a=some {cls:=.none,data:=.fields ps}/\TriplesOk ps.toList/\∀v∈jY ps.toList,∃b,v=.ref b/\H b=some (.own a)/\h.CodeRec (.ref b) q
 |.met f x=>h.get? a=some (W.methodObj (.ref f) (.ref x))
 |.ext φ=>φ h/\(∃o,h.get? a=some o)/\∀g i:Heap,φ g->(∀o,g.get? a=some o->i.get? a=some o)->φ i
def oT(H:Hp)(h:Heap):Prop:=∀a o,H a=some o->ib P w H h a o
end
section
variable {P:Program}{w:World}{H H':Hp}{h h':Heap}{a:Addr}{o:HO}
def ib.lt(x:ib P w H h a o):a<h.objs.size:=by
 cases o with
 |lst xs=>obtain⟨_,_,_,_,e⟩:=x;exact aM e
 |tup xs=>obtain⟨_,_,_,p⟩:=x;exact (xP.tup p).lt
 |dK kvs=>obtain⟨_,_,_,_,o,_,_,e,_⟩:=x;exact aM e
 |dT kvs=>obtain⟨_,_,_,_,o,_,_,e,_⟩:=x;exact aM e
 |set S n=>obtain⟨o,_,_,_,e,_⟩:=x;exact aM e
 |ins C dx fs=>obtain⟨_,_,_,e,_⟩:=x;exact aM e
 |own y=>obtain⟨_,e⟩:=x;exact aM e
 |xd fs=>obtain⟨_,⟨_,_,_,e,_⟩,_⟩:=x;exact aM e
 |rng lo hi=>obtain⟨_,_,_,e⟩:=x;exact aM e
 |frz ob u=>obtain⟨e,_⟩:=x;exact aM e
 |tbl q ps=>exact aM x.1
 |met f y=>exact aM (x)
 |ext φ=>obtain⟨_,⟨_,e⟩,_⟩:=x;exact aM e
theorem Paired.mapP{F G:α->β->Prop}:∀{l₁} {l₂},Paired F l₁ l₂->(∀a b,F a b->G a b)->Paired G l₁ l₂
 |_,_,.nil,_=>.nil
 |_,_,.cons r t,f=>.cons (f _ _ r) (Paired.mapP t f)
def Paired.imp'{F G:α->β->Prop}(f:∀a b,F a b->G a b){c:List α}{l₂:List β}(r:Paired F c l₂):Paired G c l₂:=Paired.mapP r f
theorem ib.stay(x:ib P w H h a o)(k:∀b u,(b=a\/H b=some (.own a))->h.get? b=some u->h'.get? b=some u)
  (E:∀b,H b=some (.own a)->H' b=some (.own a)) (N:∀b m,H b=some (.tup m)->H' b=some (.tup m)):ib P w H' h' a o:=by
 induction o with
 |lst m=>obtain⟨z,l,n,r,e⟩:=x;exact⟨z,l,n,r,k _ _ (.inl rfl) e⟩
 |tup m=>obtain⟨z,l,r,g,e,c⟩:=x;exact⟨z,l,r,g,k _ _ (.inl rfl) e,c⟩
 |dK kvs=>obtain⟨z,y,s,r,g,j,i,e,c⟩:=x;exact⟨z,y,s,r,g,j,i,k _ _ (.inl rfl) e,c⟩
 |dT kvs=>obtain⟨z,y,m,r,g,j,i,e,c⟩:=x;exact⟨z,y,m,Paired.mapP r λp q z=>⟨z.1,N _ _ z.2.1,z.2.2⟩,g,j,i,k _ _ (.inl rfl) e,c⟩
 |set S n=>obtain⟨g,j,i,t,e,c⟩:=x;exact⟨g,j,i,t,k _ _ (.inl rfl) e,c⟩
 |ins C dx fs=>obtain⟨d,z,ne,e,A,⟨D,j,i,B,c⟩,r⟩:=x;exact⟨E _ d,z,ne,k _ _ (.inl rfl) e,A,⟨D,j,i,k _ _ (.inr d) B,c⟩,r⟩
 |own y=>obtain⟨g,e⟩:=x;exact⟨g,k _ _ (.inl rfl) e⟩
 |xd fs=>obtain⟨A,⟨D,j,i,e,c⟩,r⟩:=x;exact⟨A,⟨D,j,i,k _ _ (.inl rfl) e,c⟩,r⟩
 |rng lo hi=>obtain⟨t,u,v,e⟩:=x;exact⟨t,u,v,k _ _ (.inl rfl) e⟩
 |frz g u ih=>obtain⟨e,q⟩:=x;exact⟨k _ _ (.inl rfl) e,ih q⟩
 |tbl q ps=>obtain⟨e,t,U⟩:=x;refine⟨k a _ (.inl rfl) e,t,λv R=>?_⟩;obtain⟨b,L,I,c,o,s,Q,J,B,K⟩:=U v R;cases J;exact⟨_,L,E _ I,_,o,s,Q,rfl,k _ _ (.inr I) B,K⟩
 |met f y=>have e:=x;exact k a _ (.inl rfl) e
 |ext φ=>obtain⟨p,⟨o,e⟩,F⟩:=x;exact⟨F _ _ p λo q=>k _ _ (.inl rfl) q,⟨o,k _ _ (.inl rfl) e⟩,F⟩
def oT.lt(x:oT P w H h)(e:H a=some o):a<h.objs.size:=(x a o e).lt
def oT.fresh(x:oT P w H h)(e:h.objs.size<=a):H a=none:=by
 cases q:H a with
 |none=>rfl
 |some u=>exact absurd (aF (x.lt q) e) (bc _)
def oT.kept(x:oT P w H h)(k:∀b u,h.get? b=some u->h'.get? b=some u):oT P w H h':=λa o e=>(x a o e).stay (λb u _ q=>k b u q) (λ_ q=>q) λ_ _ q=>q
def oT.laid(x:oT P w H h)(k:∀b u,h.get? b=some u->h'.get? b=some u)(g:h.objs.size<=a)(new:ib P w (gy H a o) h' a o):oT P w (gy H a o) h':=λb u e=>by
 have f:=x.fresh g;by_cases d:b=a
 .subst d;rw[eW]at e;cases e;exact new
 .rw[fu d]at e;exact (x b u e).stay (λc v _ q=>k c v q) (λc q=>by rw[fu (fF q f)];exact q) λc i q=>by rw[fu (fF q f)];exact q
end
def Rd(H:Hp)(a:Addr)(u:HO):Prop:=H a=some u\/∃o,H a=some (.frz o u)
def Rd.ok(r:Rd H a u)(x:oT P w H h):ib P w H h a u:=by
 rcases r with r|⟨o,r⟩
 .exact x a u r
 .obtain⟨_,q⟩:=x a _ r;exact q
def PB:Option HO->Prop
 |some (.lst _)=>True
 |some (.dK _)=>True
 |some (.dT _)=>True
 |some (.set _ _)=>True
 |some (.ins _ _ _)=>True
 |some (.ext _)=>True
 |_=>False
section
variable {P:Program}{w:World}{H:Hp}{h h':Heap}{x e:Addr}{o':HO}
def oT.write(ok:oT P w H h)(i:PB (H x))(n:e=x\/H e=some (.own x))(k:∀b u,b≠e->h.get? b=some u->h'.get? b=some u)(m:∃u,h'.get? e=some u)
  (new:ib P w (gy H x o') h' x o'):oT P w (gy H x o') h':=λb u q=>by
 have d:∀c y,H c=some (.own y)->c≠x:=λc y r z=>by subst z;rw[r]at i;exact i
 have f:∀c j,H c=some (.tup j)->c≠x:=λc j r z=>by subst z;rw[r]at i;exact i
 by_cases l:b=x
 .subst l;rw[eW]at q;cases q;exact new
 .rw[fu l]at q;by_cases a:b=e
  .have o:H b=some (.own x):=by
    rcases n with z|z
    .exact absurd (a.trans z) l
    .rw[a];exact z
   rw[q]at o;cases o;obtain⟨v,p⟩:=m;exact⟨v,by rw[a];exact p⟩
  .refine (ok b u q).stay (λc v g r=>k c v ?_ r) (λc r=>by rw[fu (d c b r)];exact r) λc j r=>by rw[fu (f c j r)];exact r
   rcases g with rfl|g
   .exact a
   .rintro rfl;rcases n with z|z
    .exact d c b g z
    .rw[g]at z;cases z;exact l rfl
end
structure Un(fs ex:List Addr)(H H':Hp)(h h':Heap):Prop where
 keep:∀b o,h.get? b=some o->H b=none->b∉fs->b∉ex->h'.get? b=some o
 slot:∀b o,h.get? b=some o->H b=none->b∈fs->b∉ex->∃sl,h'.get? b=some {o with slots:=sl}
 free:∀b o,h.get? b=some o->H b=none->b∉ex->H' b=none
 there:∀b o,h.get? b=some o->b∉ex->∃o',h'.get? b=some o'
 tups:∀b xs,H b=some (.tup xs)->H' b=some (.tup xs)
 frzs:∀b o u,H b=some (.frz o u)->H' b=some (.frz o u)
 tbls:∀b q ps,H b=some (.tbl q ps)->∃more,H' b=some (.tbl q (ps++more))
section
variable {fs fs' ex ex':List Addr}{H H1 H2:Hp}{h h1 h2 h':Heap}{a x e:Addr}{o:HO}
def Un.any(u:Un fs ex H H1 h h1)(q:h.get? b=some ob)(n:H b=none)(c:b∉ex):∃f,h1.get? b=some {ob with slots:=f}:=by
 by_cases d:b∈fs
 .exact u.slot b ob q n d c
 .exact⟨ob.slots,u.keep b ob q n d c⟩
def Un.kept(k:∀b u,h.get? b=some u->h'.get? b=some u):Un fs ex H H h h':=⟨λb c q _ _ _=>k b c q,λb c q _ _ _=>⟨c.slots,k b c q⟩,λ_ _ _ n _=>n,λb c q _=>⟨c,k b c q⟩,λ_ _ q=>q,λ_ _ _ q=>q,λ_ _ d q=>⟨#[],by rw[q];simp⟩⟩
def Un.refl:Un fs ex H H h h:=Un.kept λ_ _ q=>q
def Un.laid(k:∀b u,h.get? b=some u->h'.get? b=some u)(d:h.objs.size<=a)(c:H a=none):Un fs ex H (gy H a o) h h' where
 keep:=λb u q _ _ _=>k b u q
 slot:=λb u q _ _ _=>⟨u.slots,k b u q⟩
 free:=λb u q n _=>by rw[fu (aN (aF (aM q) d))];exact n
 there:=λb u q _=>⟨u,k b u q⟩
 tups:=λb f q=>by rw[fu (fF q c)];exact q
 frzs:=λb u f q=>by rw[fu (fF q c)];exact q
 tbls:=λb _ g q=>⟨#[],by rw[fu (fF q c),q];simp⟩
def Un.write(d:PB (H x))(p:e=x\/H e=some (.own x))(k:∀b u,b≠e->h.get? b=some u->h'.get? b=some u)(g:∃u,h'.get? e=some u):Un fs ex H (gy H x o) h h':=by
 have i:∀b,H b=none->b≠x:=λb n z=>by subst z;rw[n]at d;exact d
 have j:∀b,H b=none->b≠e:=λb n z=>by
  subst z;rcases p with r|r
  .exact i b n r
  .rw[n]at r;cases r
 have f:∀b u,H b=some u->¬PB (some u)->b≠x:=λb u q l z=>by subst z;rw[q]at d;exact l d
 refine⟨λb u q n _ _=>k b u (j b n) q,λb u q n _ _=>⟨u.slots,k b u (j b n) q⟩,λb u q n _=>by rw[fu (i b n)];exact n,λb u q _=>?_,
  λb m q=>by rw[fu (f b _ q λz=>z)];exact q,λb u m q=>by rw[fu (f b _ q λz=>z)];exact q,λb _ s q=>⟨#[],by rw[fu (f b _ q λz=>z),q];simp⟩⟩
 by_cases c:b=e
 .subst c;exact g
 .exact⟨u,k b u c q⟩
end
noncomputable def Qi(h:Heap)(H:Hp):List Addr:=(List.range h.objs.size).filter λa=>(H a).isSome
def Gp(h:Heap)(H:Hp):Heap:=W.hideAll h (Qi h H)
def Dg h H:(Gp h H).objs.size=h.objs.size:=W.hideAll_size _ _
def FF(e:h.get? b=some o)(n:H b=none):(Gp h H).get? b=some o:=W.hideAll_get _ e λa=>by have q:=(aV.mp a).2;rw[n]at q;simp at q
def JQ(e:(Gp h H).get? b=some o):h.get? b=some o/\H b=none:=by
 have a:=W.of_hideAll (Qi h H) e;refine⟨a,?_⟩;cases q:H b with
 |none=>rfl
 |some x=>have c:b∈Qi h H:=aV.mpr ⟨aT.mpr (aM a),by simp[q]⟩;have z:(Gp h H).get? b=none:=W.hideAll_none (Qi h H) c;rw[z]at e;cases e
end L2
namespace L2
open PySem PySem.Spec PyProof.Rows
structure Mod(K:W.Frag)(mg:Str->Option Value)(base:Heap):Prop where
 kin:K.In base
 glob:base.Ns mainGlobals mg
 blt:∃mb,base.Ns builtinsNs mb/\∀x:Str,x≠ "__name__" ->mb x=bootBuiltins x
 nolimit:base.NoLimit
def BW(a:Heap)(H:Hp):Prop:=∀c P b,(c,P)∈a.life.ids->a.CodeRec (.ref c) b->∃d,H P=some (.tbl (b++ ".<locals>.<lambda>") d)
structure Cx where
 prog:Program
 w:World
 K:W.Frag
 mg:Str->Option Value
 base:Heap
 A:Around
 N:List Str
 s₀:Sq
 H₀:Hp
 env:Env
 outer:List Env
 stack:List Env
 ex:List Addr
 fn:Str->Bool
 calm:Bool
 pn:List (Addr×Obj)
 xe:Vq->Shared->Prop
noncomputable def CY(l:List Env):List Addr:=l.filterMap (·.frame)
abbrev Cx.fs(X:Cx):List Addr:=CY X.outer
def OH(a:Scope)(x:Str):Prop:=a.names.lookup x=some .local\/a.names.lookup x=some .cell\/a.names.lookup x=some .free
def DI(a:Scope)(x:Str):Prop:=a.names.lookup x=some .local\/a.names.lookup x=some .cell
def Q9(a:Env)(h:Heap)(m:Str->Option Value)(x:Str)(u:Vq):Prop:=(a.kindOf x=some .local/\m x=some u)\/((a.kindOf x=some .cell\/a.kindOf x=some .free)/\∃c,a.cells.lookup x=some c/\h.IsCell c (some u))
structure Cx.Ok(X:Cx):Prop where
 mod:Mod X.K X.mg X.base
 kind:X.env.scope.kind=.function
 glob:X.env.globals=mainGlobals
 blt:X.env.builtins=builtinsNs
 above:X.s₀.heap.objs.size<=X.env.locals
 inj:∀x y c,X.env.cells.lookup x=some c->X.env.cells.lookup y=some c->x=y
 has:∀x,(X.env.kindOf x=some .cell\/X.env.kindOf x=some .free)->∃c,X.env.cells.lookup x=some c
 cab:∀x c,X.fn x=true->X.env.cells.lookup x=some c->X.s₀.heap.objs.size<=c
 hd:X.calm=true->X.A.handled=none
 frames:X.A.frames=some X.stack
 stk:X.stack=X.outer\/(X.stack=X.env::X.outer/\X.env.frame=some X.env.locals)
 exf:∀b∈X.ex,b≠X.env.locals/\∀x c,X.env.cells.lookup x=some c->c≠b
 bs:∀b o,X.base.get? b=some o->X.s₀.heap.get? b=some o/\X.H₀ b=none
 bsz:X.base.objs.size<=X.s₀.heap.objs.size
 noex:∀b o,X.base.get? b=some o->b∉X.ex
 exfs:∀b∈X.ex,b∉X.fs
 funs:X.s₀.heap.FunFrames X.base X.outer
 frf:∀b∈X.fs,X.H₀ b=none
 tab:BW X.base X.H₀
structure fB(X:Cx)(eO:List (Addr×Obj))(σ:List (Option V))(H:Hp)(s:Sq):Prop where
 ok:X.Ok
 os:s.os=X.s₀.os
 bare:AllBare s.gens
 base:Un X.fs X.ex X.H₀ H X.s₀.heap s.heap
 loc:∃m,s.heap.Ns X.env.locals m/\∀(i:Nat) (x:Str) (v:V),X.N[i]? = some x->σ[i]? = some (some v)->OH X.env.scope x->∃u,gh v u/\Q9 X.env s.heap m x u
 cell:∀x c,X.env.cells.lookup x=some c->∃v,s.heap.IsCell c v
 free:H X.env.locals=none
 freeC:∀x c,X.env.cells.lookup x=some c->H c=none
 pin:∀p∈X.pn++eO,s.heap.get? p.1=some p.2/\H p.1=none/\p.1≠X.env.locals/\p.1∉X.fs/\∀v,p.2.data≠.cell v
 hok:oT X.prog X.w H s.heap
 len:σ.length=X.N.length
section
variable {X:Cx}{eO:List (Addr×Obj)}{σ:List (Option V)}{H H':Hp}{s:Sq}{h':Heap}
def Cx.Ok.nofr(ok:X.Ok)(e:X.base.get? b=some o):b∉X.fs:=λa=>by have:=(ok.funs.mem a).1;rw[e]at this;cases this
def fB.bs(I:fB X eO σ H s):∀b o,X.base.get? b=some o->s.heap.get? b=some o/\H b=none:=λb o e=>⟨I.base.keep b o (I.ok.bs b o e).1 (I.ok.bs b o e).2 (I.ok.nofr e) (I.ok.noex b o e),I.base.free b o (I.ok.bs b o e).1 (I.ok.bs b o e).2 (I.ok.noex b o e)⟩
def fB.tab(I:fB X eO σ H s):BW X.base H:=λc P d a b=>let ⟨ps,e⟩:=I.ok.tab c P d a b;let ⟨more,q⟩:=I.base.tbls _ _ ps e;⟨ps++more,q⟩
def fB.bk(I:fB X eO σ H s):∀b o,X.base.get? b=some o->s.heap.get? b=some o:=λb o e=>(I.bs b o e).1
def fB.mod(I:fB X eO σ H s):Mod X.K X.mg X.base:=I.ok.mod
def fB.kIn(I:fB X eO σ H s):X.K.In s.heap:=I.ok.mod.kin.keeps I.bk
def fB.lt(I:fB X eO σ H s):X.env.locals<s.heap.objs.size:=let ⟨_,hn,_⟩:=I.loc;hn.lt
def fB.sz(I:fB X eO σ H s):X.s₀.heap.objs.size<=s.heap.objs.size:=aO I.ok.above (bg I.lt)
def fB.nofs(I:fB X eO σ H s)(h:s.heap.objs.size<=a):a∉X.fs:=λc=>by obtain⟨_,o,b,_⟩:=I.ok.funs.mem c;exact absurd (aF (aM b) (aO I.sz h)) (bc _)
def fB.cne(I:fB X eO σ H s):∀x c,X.env.cells.lookup x=some c->c≠X.env.locals:=λx c e z=>by obtain⟨v,o,d,f⟩:=I.cell x c e;obtain⟨m,⟨h,g,i,a,b,_⟩,_⟩:=I.loc;rw[z,a]at d;cases d;rw[b]at f;cases f
def fB.funs(I:fB X eO σ H s):s.heap.FunFrames X.base X.outer:=by
 have all:∀(l:List Env),(∀b∈CY l,b∈X.fs)->X.s₀.heap.FunFrames X.base l->s.heap.FunFrames X.base l:=by
  intro l;induction l with
  |nil=>intro _ _;trivial
  |cons env r ih=>intro f j;obtain⟨i,⟨L,o,c,h,g,k⟩,hr⟩:=j;have a:=f L (by unfold CY;rw[bh,c];exact bj);obtain⟨m,e⟩:=I.base.slot L o g (I.ok.frf L a) a λz=>I.ok.exfs L z a;exact⟨i,⟨L,_,c,h,e,k⟩,ih (λb d=>f b (by unfold CY;rw[bh,c];exact bp _ d)) hr⟩
 exact all X.outer (λ_ d=>d) I.ok.funs
def fB.stack(I:fB X eO σ H s):s.heap.FunFrames X.base X.stack:=by
 rcases I.ok.stk with e|⟨e,b⟩
 .rw[e];exact I.funs
 .rw[e];obtain⟨m,a,_⟩:=I.loc;refine .cons (by rw[I.ok.kind];decide) b a ?_ I.funs;exact Heap.get?_none_of_le (aO I.ok.bsz I.ok.above)
def fB.stkSub(I:fB X eO σ H s):∀b∈CY X.stack,b∈X.env.locals::X.fs:=λb a=>by
 rcases I.ok.stk with e|⟨e,c⟩
 .rw[e]at a;exact bp _ a
 .rw[e]at a;unfold CY at a;rw[bh,c]at a;exact a
def fB.stkFree(I:fB X eO σ H s):∀b∈CY X.stack,H b=none:=λb a=>by
 rcases aG.mp (I.stkSub b a) with e|a
 .rw[e];exact I.free
 .obtain⟨_,o,c,_⟩:=I.ok.funs.mem a;exact I.base.free b o c (I.ok.frf b a) λz=>I.ok.exfs b z a
def fB.step{ch:List Addr}(I:fB X eO σ H s)
  (h:∀b∈ch,(b∈X.ex\/X.s₀.heap.objs.size<=b)/\b≠X.env.locals/\(∀x c,X.env.cells.lookup x=some c->c≠b)/\∀p∈X.pn++eO,p.1≠b)
  (j:∀b o,b≠X.env.locals->b∉X.fs->b∉ch->s.heap.get? b=some o->H b=none->h'.get? b=some o)
  (A:∀b o,b≠X.env.locals->b∈X.fs->b∉ch->s.heap.get? b=some o->H b=none->∃Y,h'.get? b=some {o with slots:=Y}) (free:∀b o,b∉ch->s.heap.get? b=some o->H b=none->H' b=none)
  (C:∀b o,b∉ch->s.heap.get? b=some o->∃K,h'.get? b=some K)
  (F:∀b B,H b=some (.tup B)->H' b=some (.tup B)) (N:∀b o u,H b=some (.frz o u)->H' b=some (.frz o u)) (L:∀b q R,H b=some (.tbl q R)->∃P,H' b=some (.tbl q (R++P)))
  (ns:∀m,s.heap.Ns X.env.locals m->h'.Ns X.env.locals m) (S:oT X.prog X.w H' h') (hg:AllBare g') :
  fB X eO σ H' {s with heap:=h',gens:=g',drawn:=d',toks:=t'}:=by
 have J:∀b o,X.s₀.heap.get? b=some o->b≠X.env.locals:=λb o e=>aN (aF (aM e) I.ok.above);have y:∀b o,X.s₀.heap.get? b=some o->b∉X.ex->b∉ch:=λb o e a D=>by
  rcases (h b D).1 with z|z
  .exact a z
  .exact absurd (aF (aM e) z) (bc _)
 have g:∀x c,X.env.cells.lookup x=some c->∀v,s.heap.IsCell c v->h'.IsCell c v:=λx c e v ⟨o,E,U⟩=>by
  have f:c∉ch:=λz=>(h c z).2.2.1 x c e rfl;by_cases hc:c∈X.fs
  .obtain⟨Y,q⟩:=A c o (I.cne x c e) hc f E (I.freeC x c e);exact⟨_,q,U⟩
  .exact⟨o,j c o (I.cne x c e) hc f E (I.freeC x c e),U⟩
 refine⟨I.ok,I.os,hg,⟨λb o e n D a=>?_,λb o e n D a=>?_,λb o e n a=>?_,λb o e a=>?_,λb B e=>F b B (I.base.tups b B e),λb o B e=>N b o B (I.base.frzs b o B e),λb _ R e=>?_⟩,?_,λx c e=>?_,?_,λx c e=>?_,λp hp=>?_,S,I.len⟩
 .exact j b o (J b o e) D (y b o e a) (I.base.keep b o e n D a) (I.base.free b o e n a)
 .obtain⟨Y,t⟩:=I.base.slot b o e n D a;obtain⟨Z,Q⟩:=A b _ (J b o e) D (y b o e a) t (I.base.free b o e n a);exact⟨Z,Q⟩
 .obtain⟨K,t⟩:=I.base.there b o e a;exact free b K (y b o e a) t (I.base.free b o e n a)
 .obtain⟨K,t⟩:=I.base.there b o e a;exact C b K (y b o e a) t
 .obtain⟨m1,t⟩:=I.base.tbls b _ R e;obtain⟨m2,Q⟩:=L b _ _ t;exact⟨m1++m2,by rw[Q,bq]⟩
 .obtain⟨m,hn,hl⟩:=I.loc;refine⟨m,ns m hn,λi x v t Q e3=>?_⟩;obtain⟨u,r,l⟩:=hl i x v t Q e3;refine⟨u,r,?_⟩;rcases l with l|⟨k,c,e,z⟩
  .exact .inl l
  .exact .inr ⟨k,c,e,g x c e _ z⟩
 .obtain⟨v,z⟩:=I.cell x c e;exact⟨v,g x c e v z⟩
 .obtain⟨m,⟨o,_,_,E,_⟩,_⟩:=I.loc;exact free _ o (λz=>(h _ z).2.1 rfl) E I.free
 .obtain⟨v,o,E,U⟩:=I.cell x c e;exact free c o (λz=>(h c z).2.2.1 x c e rfl) E (I.freeC x c e)
 .obtain⟨e,n,ne,nf,d⟩:=I.pin p hp;have f:p.1∉ch:=λz=>(h p.1 z).2.2.2 p hp rfl;exact⟨j p.1 p.2 ne nf f e n,free p.1 p.2 f e n,ne,nf,d⟩
def fB.un(I:fB X eO σ H s)(u:Un X.fs [] H H' s.heap h')(c:oT X.prog X.w H' h'):fB X eO σ H' {s with heap:=h',toks:=t'}:=by obtain⟨m,⟨o,p,l,h,r⟩,_⟩:=id I.loc;obtain⟨t,i⟩:=u.any h I.free (by simp);exact I.step (ch:=[]) (λ_ z=>nomatch z) (λb o _ g _ e n=>u.keep b o e n g (by simp)) (λb o _ g _ e n=>u.slot b o e n g (by simp)) (λb o _ e n=>u.free b o e n (by simp)) (λb o _ e=>u.there b o e (by simp)) u.tups u.frzs u.tbls (λv k=>by obtain⟨q,d,f,a,j⟩:=k;rw[h]at a;cases a;exact⟨_,d,f,i,j⟩) c I.bare
def fB.call(I:fB X eO σ H s)(u:Un (CY X.stack) ch H H' s.heap h')(g:oT X.prog X.w H' h')(t:AllBare g')
  (f:∀b∈ch,(b∈X.ex\/X.s₀.heap.objs.size<=b)/\b≠X.env.locals/\(∀x c,X.env.cells.lookup x=some c->c≠b)/\∀p∈X.pn++eO,p.1≠b) :
  fB X eO σ H' {s with heap:=h',gens:=g',drawn:=d',toks:=t'}:=by
 obtain⟨m,⟨o,A,y,k,r⟩,_⟩:=id I.loc;obtain⟨C,h⟩:=u.any k I.free λz=>(f _ z).2.1 rfl;exact I.step f (λb o h v a e n=>u.keep b o e n (λz=>(aG.mp (I.stkSub b z)).elim h v) a) (λb o _ _ a e n=>u.any e n a) (λb o a e n=>u.free b o e n a) (λb o a e=>u.there b o e a) u.tups u.frzs u.tbls (λD q=>by obtain⟨B,i,j,d,l⟩:=q;rw[k]at d;cases d;exact⟨_,i,j,h,l⟩) g t
def fB.turned(I:fB X eO σ H s)(k:∀b o,b≠it->s.heap.get? b=some o->h'.get? b=some o)(j:H it=none)(f:it≠X.env.locals)
  (l:it∈X.ex\/X.s₀.heap.objs.size<=it) (y:∀x c,X.env.cells.lookup x=some c->c≠it) (A:∀p∈X.pn++eO,p.1≠it):fB X eO σ H {s with heap:=h',toks:=t'}:=by
 have d:∀b u,H b=some u->b≠it:=λb u e z=>by rw[z,j]at e;cases e
 refine I.step (ch:=[it]) (λb w=>?_) (λb o _ _ a e _=>k b o (λz=>a (by simp[z])) e) (λb o _ _ a e _=>⟨o.slots,k b o (λz=>a (by simp[z])) e⟩) (λ_ _ _ _ n=>n)
  (λb o a e=>⟨o,k b o (λz=>a (by simp[z])) e⟩) (λ_ _ e=>e) (λ_ _ _ e=>e) (λb _ B e=>⟨#[],by rw[e];simp⟩) (λm t=>?_) (λb u e=>?_) I.bare
 .have e:b=it:=by simpa using w
  subst e;exact⟨l,f,y,A⟩
 .obtain⟨o,i,h,g,r⟩:=t;exact⟨o,i,h,k _ o (Ne.symm f) g,r⟩
 .refine (I.hok b u e).stay (λc v a q=>k c v ?_ q) (λ_ q=>q) λ_ _ q=>q;rcases a with z|z
  .rw[z];exact d b u e
  .exact d c _ z
def fB.tok(I:fB X eO σ H s) t:fB X eO σ H {s with toks:=t}:=I.un Un.refl I.hok
def fB.kept(I:fB X eO σ H s)(k:∀b u,s.heap.get? b=some u->h'.get? b=some u):fB X eO σ H {s with heap:=h',toks:=t'}:=I.un (Un.kept k) (I.hok.kept k)
def fB.laid(I:fB X eO σ H s)(k:∀b u,s.heap.get? b=some u->h'.get? b=some u)(c:s.heap.objs.size<=a)(new:ib X.prog X.w (gy H a o) h' a o) :
  fB X eO σ (gy H a o) {s with heap:=h',toks:=t'}:=I.un (Un.laid k c (I.hok.fresh c)) (I.hok.laid k c new)
def fB.write(I:fB X eO σ H s)(d:PB (H x))(c:e=x\/H e=some (.own x))(k:∀b u,b≠e->s.heap.get? b=some u->h'.get? b=some u)(a:∃u,h'.get? e=some u)
  (new:ib X.prog X.w (gy H x o) h' x o):fB X eO σ (gy H x o) {s with heap:=h',toks:=t'}:=I.un (Un.write d c k a) (I.hok.write d c k a new)
def fB.weak(I:fB X eO σ H s)(d:σ'.length=σ.length)(w:∀(i:Nat) v,σ'[i]? = some (some v)->σ[i]? = some (some v)):fB X eO σ' H s:=⟨I.ok,I.os,I.bare,I.base,let ⟨m,hn,hl'⟩:=I.loc;⟨m,hn,λi x v a c b=>hl' i x v a (w i v c) b⟩,I.cell,I.free,I.freeC,I.pin,I.hok,d.trans I.len⟩
def fB.pins_of(I:fB X eO σ H s)(h:∀p∈pins',s.heap.get? p.1=some p.2/\H p.1=none/\p.1≠X.env.locals/\p.1∉X.fs/\∀v,p.2.data≠.cell v):fB X pins' σ H s:=⟨I.ok,I.os,I.bare,I.base,I.loc,I.cell,I.free,I.freeC,λp a=>(ai.mp a).elim (λz=>I.pin p (az _ z)) (h p),I.hok,I.len⟩
def Ah{N:List Str}(c:N.Nodup){i j:Nat}(a:N[i]? = some x)(b:N[j]? = some x):i=j:=by obtain⟨g,d⟩:=aa.mp a;obtain⟨f,e⟩:=aa.mp b;exact (List.getElem_inj c).mp (d.trans e.symm)
def wJ{M:Model}{A:Around}{E:Vq->Shared->Prop}{i:Nat}{x:Str}{v:V}{u:Vq}{Q:Unit->Shared->Prop}(I:fB X eO σ H s)(hN:X.N.Nodup)(S:X.N[i]? = some x)(t:DI X.env.scope x)(r:gh v u)
  (h:∀s',fB X eO (σ.set i (some v)) H s'->(∃a,Heap.SameBut a s.heap s'.heap/\(a=X.env.locals\/X.env.cells.lookup x=some a))->Q () s') (hf:X.fn x=true\/X.env.scope.names.lookup x=some .local:=by first|exact .inl rfl|exact .inr rfl|assumption):wpAny M A (storeName X.env x u) Q E s:=by
 obtain⟨m,hn,hl⟩:=id I.loc;have Z:(X.env.scope.kind==.class||(X.env.scope.kind==.module&&X.env.locals != X.env.globals))=false:=by rw[I.ok.kind];rfl
 have D:i<σ.length:=by rw[I.len];exact (aa.mp S).1
 have cne:=I.cne;have tracked:∀{a:Addr} {h':Heap},(∃o,s.heap.get? a=some o/\H a=none)->Heap.SameBut a s.heap h'->oT X.prog X.w H h':=λ{a h'} ha f b ob e=>by
  obtain⟨_,_,B⟩:=ha;refine (I.hok b ob e).stay (λc w' l q=>(f.2 c ?_).trans q) (λ_ q=>q) λ_ _ q=>q;rintro rfl;rcases l with rfl|l
  .rw[B]at e;cases e
  .rw[B]at l;cases l
 rcases t with F|F
 .refine wpAny_storeName_local F hn (λh' hn' f=>?_) Z;obtain⟨oL,_,_,hoL,_⟩:=id hn;refine h _ ⟨I.ok,I.os,I.bare,⟨λb o e n K t=>?_,λb o e n K t=>?_,I.base.free,λb o e t=>?_,I.base.tups,I.base.frzs,I.base.tbls⟩,⟨_,hn',λj y v' g C e3=>?_⟩,λy c e=>?_,I.free,I.freeC,λp hp=>?_,tracked ⟨oL,hoL,I.free⟩ f,by simpa using I.len⟩ ⟨_,f,.inl rfl⟩
  .exact (f.2 b (aN (aF (aM e) I.ok.above))).trans (I.base.keep b o e n K t)
  .obtain⟨sl,g⟩:=I.base.slot b o e n K t;exact⟨sl,(f.2 b (aN (aF (aM e) I.ok.above))).trans g⟩
  .obtain⟨o',g⟩:=I.base.there b o e t;exact⟨o',(f.2 b (aN (aF (aM e) I.ok.above))).trans g⟩
  .by_cases L:j=i
   .subst L;rw[S]at g;cases g;rw[List.getElem?_set_self D]at C;cases C;exact⟨u,r,.inl ⟨F,by simp⟩⟩
   .rw[ar (Ne.symm L)]at C;obtain⟨u',r',q⟩:=hl j y v' g C e3;refine⟨u',r',?_⟩;rcases q with⟨k,e⟩|⟨k,c,e,z⟩
    .refine .inl ⟨k,?_⟩;have:y≠x:=λe=>L (Ah hN g (e▸S));simp[this,e]
    .exact .inr ⟨k,c,e,z.sameBut f (cne y c e)⟩
  .obtain⟨w',z⟩:=I.cell y c e;exact⟨w',z.sameBut f (cne y c e)⟩
  .obtain⟨e,n,ne,nf,d⟩:=I.pin p hp;exact⟨(f.2 p.1 ne).trans e,n,ne,nf,d⟩
 .have J:X.fn x=true:=by
   rcases hf with z|z
   .exact z
   .rw[z]at F;cases F
  obtain⟨c,l⟩:=I.ok.has x (.inl F);obtain⟨w',z⟩:=I.cell x c l;refine wpAny_storeName_cell I.ok.kind F l z (λh' R f=>?_);obtain⟨oc,P,U⟩:=id z;refine h {s with heap:=h'} ⟨I.ok,I.os,I.bare,⟨λb o e n K t=>?_,λb o e n K t=>?_,I.base.free,λb o e t=>?_,I.base.tups,I.base.frzs,I.base.tbls⟩,⟨m,hn.sameBut f (Ne.symm (cne x c l)),λj y v' g C e3=>?_⟩,λy c' e=>?_,I.free,I.freeC,λp hp=>?_,tracked ⟨oc,P,I.freeC x c l⟩ f,by simpa using I.len⟩ ⟨c,f,.inr l⟩
  .exact (f.2 b (aN (aF (aM e) (I.ok.cab x c J l)))).trans (I.base.keep b o e n K t)
  .obtain⟨sl,g⟩:=I.base.slot b o e n K t;exact⟨sl,(f.2 b (aN (aF (aM e) (I.ok.cab x c J l)))).trans g⟩
  .obtain⟨o',g⟩:=I.base.there b o e t;exact⟨o',(f.2 b (aN (aF (aM e) (I.ok.cab x c J l)))).trans g⟩
  .by_cases L:j=i
   .subst L;rw[S]at g;cases g;rw[List.getElem?_set_self D]at C;cases C;exact⟨u,r,.inr ⟨.inl F,c,l,R⟩⟩
   .rw[ar (Ne.symm L)]at C;obtain⟨u',r',q⟩:=hl j y v' g C e3;refine⟨u',r',?_⟩;rcases q with q|⟨k,c',e,z'⟩
    .exact .inl q
    .refine .inr ⟨k,c',e,z'.sameBut f ?_⟩;rintro rfl;exact L (Ah hN g (I.ok.inj _ _ _ e l▸S))
  .by_cases Y:c'=c
   .subst Y;exact⟨_,R⟩
   .obtain⟨w2,z2⟩:=I.cell y c' e;exact⟨w2,z2.sameBut f Y⟩
  .obtain⟨e,n,ne,nf,d⟩:=I.pin p hp;refine⟨(f.2 p.1 ?_).trans e,n,ne,nf,d⟩;intro q;rw[q,P]at e;have q':=Option.some.inj e;exact d w' (by rw[<-q'];exact U)
def zE{M:Model}{A:Around}{E:Vq->Shared->Prop}{i:Nat}{x:Str}{v:V}{u:Vq}{Q:Unit->Shared->Prop}(I:fB X eO σ H s)(b:X.N.Nodup)(f:X.N[i]? = some x)(c:DI X.env.scope x)(r:gh v u)
  (h:∀a,fB X eO (σ.set i (some v)) H a->Q () a) (e:X.fn x=true\/X.env.scope.names.lookup x=some .local:=by first|exact .inl rfl|exact .inr rfl|assumption):wpAny M A (storeName X.env x u) Q E s:=
 wJ I b f c r (λa d _=>h a d) e
def fB.call'(I:fB X eO σ H s)(f:s'.os=s.os)(u:Un (CY X.stack) ch H H' s.heap s'.heap)(a:oT X.prog X.w H' s'.heap)(g:AllBare s'.gens)
  (d:∀b∈ch,(b∈X.ex\/X.s₀.heap.objs.size<=b)/\b≠X.env.locals/\(∀x c,X.env.cells.lookup x=some c->c≠b)/\∀p∈X.pn++eO,p.1≠b):fB X eO σ H' s':=by
 obtain⟨h',i,j,h,k⟩:=s';have e:=f;subst e;exact I.call u a g d
end
abbrev XK:=Value->Option Addr->Hp->Prop
abbrev St:=List (Option V)
abbrev VK:=V->Hp->Prop
abbrev TE:=St->Hp->VK->Prop
abbrev TT:=St->Hp->(Bool->Hp->Prop)->Prop
abbrev TA:=St->Hp->(List V->Hp->Prop)->Prop
structure qp where
 nx:St->Hp->Prop
 rt:VK
 bk:St->Hp->Prop:=λ_ _=>False
 ct:St->Hp->Prop:=λ_ _=>False
abbrev TS:=qp->St->Hp->Prop
def EP(X:Cx)(b:List (Addr×Obj))(c:St)(Q:VK)(u:Vq)(d:Sq):Prop:=∃v a,fB X b c a d/\gh v u/\Q v a
def TP(X:Cx)(c:List (Addr×Obj))(d:St)(Q:Bool->Hp->Prop)(b:Bool)(e:Sq):Prop:=∃a,fB X c d a e/\Q b a
def AP(X:Cx)(c:List (Addr×Obj))(d:St)(Q:List V->Hp->Prop)(us:List Vq)(e:Sq):Prop:=∃a b,fB X c d b e/\fP a us/\Q a b
def SP(X:Cx)(c:List (Addr×Obj))(D:qp)(f:Flow)(d:Sq):Prop:=
 match f with
 |.next=>∃a b,fB X c a b d/\D.nx a b
 |.brk=>∃a b,fB X c a b d/\D.bk a b
 |.cont=>∃a b,fB X c a b d/\D.ct a b
 |.ret u=>∃v a b,fB X c a b d/\gh v u/\D.rt v b
def PE(X:Cx)(e:Expr)(t:TE):Prop:=∀(b:List (Addr×Obj)) (s:Sq) (a:St) (H:Hp) (Q:VK),fB X b a H s->t a H Q->wpAny (model X.prog X.w) X.A (eval e X.env) (EP X b a Q) X.xe s
def PT(X:Cx)(e:Expr)(t:TT):Prop:=∀(b:List (Addr×Obj)) (s:Sq) (a:St) (H:Hp) (Q:Bool->Hp->Prop),fB X b a H s->t a H Q->wpAny (model X.prog X.w) X.A (isTrue e X.env (eval e X.env)) (TP X b a Q) X.xe s
def PW(X:Cx)(e:Expr)(t:TT):Prop:=∀(a:Sem Vq) (c:List (Addr×Obj)) (s:Sq) (b:St) (H:Hp) (Q:Bool->Hp->Prop),fB X c b H s->t b H Q->wpAny (model X.prog X.w) X.A (isTrue e X.env a) (TP X c b Q) X.xe s
def PW.pt(h:PW X e t):PT X e t:=h _
def PA(X:Cx)(d:List Expr)(t:TA):Prop:=∀(a:Pos) (c:List (Addr×Obj)) (s:Sq) (b:St) (H:Hp) (Q:List V->Hp->Prop),fB X c b H s->t b H Q->wpAny (model X.prog X.w) X.A (spliced (backTo a (starEach d X.env))) (AP X c b Q) X.xe s
def PS(X:Cx)(st:Stmt)(t:TS):Prop:=∀(a:List (Addr×Obj)) (s:Sq) (b:St) (H:Hp) (D:qp),fB X a b H s->t D b H->wpAny (model X.prog X.w) X.A (exec st X.env) (SP X a D) X.xe s
def yF(X:Cx)(st:List Stmt)(t:TS):Prop:=∀(a:List (Addr×Obj)) (s:Sq) (b:St) (H:Hp) (D:qp),fB X a b H s->t D b H->wpAny (model X.prog X.w) X.A (execs st X.env) (SP X a D) X.xe s
def iG{c:Type}{t:Sem c}{Q b:c->Shared->Prop}{M:Model}{A:Around}{E:Vq->Shared->Prop}{s:Sq}(h:wpAny M A t Q E s)(d:∀a s,Q a s->b a s):wpAny M A t b E s:=wpAny_mono h d λ_ _ x=>x
end L2
namespace L2
open PySem PySem.Spec PyProof.Rows
section
variable {X:Cx}
def j7(i:Nat):TE:=λa H Q=>∃v,a[i]? = some (some v)/\Q v H
def tC(v:V):TE:=λ_ H Q=>Q v H
def ug(o:X.N[i]? = some x)(q:OH X.env.scope x)(g:(x==("__debug__" : Str))=false:=by decide)(f:(x==("__classdict__" : Str))=false:=by decide):PE X (.Name x pos) (j7 i):=by
 intro k s t H Q I h;obtain⟨v,e,h⟩:=h;obtain⟨m,n,w⟩:=I.loc;obtain⟨u,r,l⟩:=w i x v o e q;have d:EP X k t Q u s:=⟨v,H,I,r,h⟩;rcases l with⟨b,p⟩|⟨b,c,j,a⟩
 .exact wpAny_Name (wpAny_loadName_local I.ok.kind b n p d) g
 .rcases b with b|b
  .exact wpAny_Name (wpAny_loadName_cell I.ok.kind b j a d) g
  .exact wpAny_Name (wpAny_loadName_free I.ok.kind b j a d f) g
def Aq{i j pos}:PE X (.Constant (.int i) j pos) (tC (.int i)):=λ_ _ _ H _ I h=>wpAny_Constant_int ⟨.int i,H,I.tok _,⟨_,rfl⟩,h⟩
def Ir{b j pos}:PE X (.Constant (.bool b) j pos) (tC (.bl b)):=λ_ _ _ H _ I h=>Constant_bool ⟨.bl b,H,I,rfl,h⟩
def Ny{j pos}:PE X (.Constant .none j pos) (tC .non):=λ_ _ _ H _ I h=>Constant_none ⟨.non,H,I,rfl,h⟩
def Gl(X:Cx)(x:Str):Prop:=X.env.kindOf x=some .globalImplicit
def xD(I:fB X eO σ H s)(b:Gl X x)(a:X.mg x=some u)(h:Q u s)
  (c:(x==("__debug__" : Str))=false:=by decide):wpAny (model X.prog X.w) X.A (eval (.Name x pos) X.env) Q E s:=
 Calls.Name_function_global I.ok.kind b (Calls.loadGlobal_global (by rw[I.ok.glob];exact I.mod.glob.keeps I.bk) a h) c
def nZ(I:fB X eO σ H s)(g:Gl X x)(a:X.mg x=none)(c:bootBuiltins x=some u)(h:Q u s)
  (d:x≠ "__name__" :=by decide) (f:(x==("__debug__" : Str))=false:=by decide):wpAny (model X.prog X.w) X.A (eval (.Name x pos) X.env) Q E s:=by
 obtain⟨i,b,e⟩:=I.mod.blt;exact Calls.Name_function_global I.ok.kind g (Calls.loadGlobal_builtin (by rw[I.ok.glob];exact I.mod.glob.keeps I.bk) a (by rw[I.ok.blt];exact b.keeps I.bk) ((e x d).trans c) h) f
def Kt(b:Gl X x)(a:X.mg x=some u)(r:gh v u)(c:(x==("__debug__" : Str))=false:=by decide):PE X (.Name x pos) (tC v):=λ_ _ _ H _ I h=>xD I b a ⟨v,H,I,r,h⟩ c
def JL(e:Gl X x)(a:X.mg x=none)(b:bootBuiltins x=some u)(r:gh v u)(c:x≠ "__name__" :=by decide)(d:(x==("__debug__" : Str))=false:=by decide):PE X (.Name x pos) (tC v):=λ_ _ _ H _ I h=>nZ I e a b ⟨v,H,I,r,h⟩ c d
variable {a b:Expr}{ta tb:TE}{pos:Pos}
def PC(X:Cx)(op:CmpOp)(a b:Expr)(t:TE):Prop:=
 ∀(f:List (Addr×Obj)) (s:Sq) (e:St) (H:Hp) (Q:VK),fB X f e H s->t e H Q->
  wpAny (model X.prog X.w) X.A (eval a X.env) (λv d=>wpAny (model X.prog X.w) X.A (eval b X.env) (λu c=>wpAny (model X.prog X.w) X.A (compareOp op v u) (EP X f e Q) X.xe c) X.xe d) X.xe s
def Hm b (h:op≠.In) (d:op≠.NotIn):behindInMarks op b=false:=by
 have e:(op==CmpOp.In)=false:=by cases op<;>first|rfl|exact absurd rfl h
 have c:(op==CmpOp.NotIn)=false:=by cases op<;>first|rfl|exact absurd rfl d
 cases b<;>simp[behindInMarks,e,c]
def L8(ta:TE):TE:=λc H Q=>ta c H λx d=>Q (.bl (!decide (x=.non))) d
def gh.none_iff(r:gh x v):(v==Value.none)=decide (x=.non):=by
 cases x with
 |non=>cases r;rfl
 |bl _=>cases r;rfl
 |int _=>obtain⟨t,rfl⟩:=r;rfl
 |str _=>obtain⟨t,rfl⟩:=r;rfl
 |byt _=>obtain⟨t,rfl⟩:=r;rfl
 |flt _=>obtain⟨t,rfl⟩:=r;rfl
 |ref _=>cases r;rfl
 |ty _=>cases r;rfl
def J9{j pos'}(e:PE X a ta):PC X .IsNot a (.Constant .none j pos') (L8 ta):=by intro c s d H Q I h;refine iG (e c s d H _ I h) λv s1 ⟨x,H1,I1,r1,q1⟩=>?_;exact Constant_none (isnot_none_gen ⟨.bl _,H1,I1,by rw[r1.none_iff];rfl,q1⟩)
def tB(t:TE):TT:=λd H Q=>t d H λx e=>∃c,x=.bl c/\Q c e
def Nt(h:PC X op a b t)(e:behindInMarks op b=false:=by first|exact Hm _ (by decide) (by decide)|rfl):PT X (.Compare a [op] [b] pos) (tB t):=by intro f s g H Q I hw;refine wpAny_isTrue_Compare1 (iG (h f s g H _ I hw) λv j e=>iG e λu k i=>iG i λc s3 ⟨x,H1,I1,r1,q1⟩=>?_) e;obtain⟨d,rfl,q⟩:=q1;cases r1;exact wpAny_truthy_bool ⟨H1,I1,q⟩
def M7(h:PE X e t)(i:∀c,isTrue e X.env c=(do let v <-c;standAt e.pos;holding [v] (truthy v)):=by intro _;rfl):PT X e (tB t):=by intro f s g H Q I hw;refine isTrue_plain (iG (h f s g H _ I hw) λv s1 ⟨x,H1,I1,r1,q1⟩=>?_) (i _);obtain⟨d,rfl,q⟩:=q1;cases r1;exact wpAny_truthy_bool ⟨H1,I1,q⟩
variable {tA tB':TT}{kQ:List Expr}
def NR(t u:TT):TT:=λd H Q=>t d H λc e=>if c=true then u d e Q else Q false e
def QM(t u:TT):TT:=λd H Q=>t d H λc e=>if c=true then Q true e else u d e Q
def N1(t:TT):TT:=λd H Q=>t d H λc e=>Q (!c) e
def JP(g:PT X a tA):PW X (.BoolOp .And [a] pos) tA:=by
 intro j d s f H Q I h;refine isTrue_and (iG (g d s f H Q I h) λc i e=>?_);cases c with
 |true=>exact isTrue_and_nil e
 |false=>exact e
def Nw(g:PT X a tA):PW X (.BoolOp .Or [a] pos) tA:=by
 intro j d s f H Q I h;refine isTrue_or (iG (g d s f H Q I h) λc i e=>?_);cases c with
 |false=>exact isTrue_or_nil e
 |true=>exact e
def Oq(i:PT X a tA)(f:PW X (.BoolOp .And (b::kQ) pos) tB'):PW X (.BoolOp .And (a::b::kQ) pos) (NR tA tB'):=by
 intro g d s e H Q I h;refine isTrue_and (iG (i d s e H _ I h) λc s1 ⟨H1,I1,q1⟩=>?_);cases c with
 |true=>exact f g d s1 e H1 Q I1 q1
 |false=>exact⟨H1,I1,q1⟩
def PX(i:PT X a tA)(f:PW X (.BoolOp .Or (b::kQ) pos) tB'):PW X (.BoolOp .Or (a::b::kQ) pos) (QM tA tB'):=by
 intro g d s e H Q I h;refine isTrue_or (iG (i d s e H _ I h) λc s1 ⟨H1,I1,q1⟩=>?_);cases c with
 |true=>exact⟨H1,I1,q1⟩
 |false=>exact f g d s1 e H1 Q I1 q1
def MV(f:PT X a tA):PT X (.UnaryOp .Not a pos) (N1 tA):=by intro d s e H Q I h;exact isTrue_not (f d s e H (λc g=>Q (!c) g) I h)
def EX(ta tb:TE):TE:=λd H Q=>ta d H λx e=>∃c,x=.bl c/\if c=true then tb d e Q else Q (.bl false) e
def Gn(ta:TE):TE:=λd H Q=>ta d H λx e=>∃c,x=.bl c/\Q (.bl (!c)) e
def Nn{op}(h:PE X a t):PE X (.BoolOp op [a] pos) t:=λc s d H Q I hw=>BoolOp_one (h c s d H Q I hw)
def Mt(i:PE X a ta)(g:PE X (.BoolOp .And (b::kQ) pos) tb):PE X (.BoolOp .And (a::b::kQ) pos) (EX ta tb):=by
 intro e s f H Q I h;refine BoolOp_and (iG (i e s f H _ I h) λv s1 ⟨x,H1,I1,r1,d⟩=>?_);obtain⟨c,rfl,d⟩:=d;cases r1;refine wpAny_truthy_bool ?_;cases c with
 |true=>exact g e s1 f H1 Q I1 d
 |false=>exact⟨.bl false,H1,I1,rfl,d⟩
def NL(g:PE X a ta):PE X (.UnaryOp .Not a pos) (Gn ta):=by intro e s f H Q I h;refine UnaryOp_ (iG (g e s f H _ I h) λv s1 ⟨x,H1,I1,r1,d⟩=>?_);obtain⟨c,rfl,d⟩:=d;cases r1;exact not_of (wpAny_truthy_bool ⟨.bl (!c),H1,I1,rfl,d⟩)
end
end L2
namespace L2
open PySem PySem.Spec PyProof.Rows
def jQ(K:W.Frag)(H:Hp)(a:Addr)(c:List V):Prop:=
 Rd H a (.lst c)\/
  ∃(o:Obj) (b:Array Vq) (n:Nat),K.lookup a=some o/\o.cls=.type "list" /\o.dict=none/\o.data=.seq b n/\b.size<=sizeLine/\fP c b.toList
def kP(K:W.Frag)(H:Hp)(a:Addr)(c:List V):Prop:=
 Rd H a (.tup c)\/
  ∃(o:Obj) (b:Array Vq) (n:Nat),K.lookup a=some o/\o.cls=.type "tuple" /\o.data=.seq b n/\b.size<=sizeLine/\fP c b.toList
def QT:Vq->Option V
 |.none=>some .non
 |.bool b=>some (.bl b)
 |.int i _=>some (.int i)
 |.str x _=>some (.str x)
 |.bytes b _=>some (.byt b)
 |.float b _=>some (.flt b)
 |.ref a=>some (.ref a)
 |.type n=>some (.ty n)
 |_=>none
def gh.abs(r:gh x u):QT u=some x:=by
 cases x with
 |non=>cases r;rfl
 |bl _=>cases r;rfl
 |int _=>obtain⟨t,rfl⟩:=r;rfl
 |str _=>obtain⟨t,rfl⟩:=r;rfl
 |byt _=>obtain⟨t,rfl⟩:=r;rfl
 |flt _=>obtain⟨t,rfl⟩:=r;rfl
 |ref _=>cases r;rfl
 |ty _=>cases r;rfl
def gh.inj(r:gh x u)(q:gh y u):x=y:=Option.some.inj (r.abs.symm.trans q.abs)
theorem fP.inj:∀{xs ys} {us},fP xs us->fP ys us->xs=ys
 |_,_,_,.nil,.nil=>rfl
 |_,_,_,.cons r t,.cons r' t'=>by rw[r.inj r',fP.inj t t']
section
variable {X:Cx}{eO:List (Addr×Obj)}{σ:St}{H:Hp}{s:Sq}{a:Addr}{xs ys:List V}
def jQ.of{K:W.Frag}(h:H a=some (.lst xs)):jQ K H a xs:=.inl (.inl h)
def kP.of{K:W.Frag}(h:H a=some (.tup xs)):kP K H a xs:=.inl (.inl h)
def fB.list(I:fB X eO σ H s)(h:jQ X.K H a xs):∃its:List Vq,fP xs its/\PlainL s.heap a its.toArray/\xs.length<=sizeLine:=by
 rcases h with h|⟨o,its,n,d,b,f,c,g,r⟩
 .obtain⟨z,its,n,r,e⟩:=h.ok I.hok;exact⟨its,r,⟨_,n,e,rfl,rfl,rfl⟩,z⟩
 .refine⟨its.toList,r,⟨o,n,I.kIn a o d,b,f,by simpa using c⟩,?_⟩;have e:=r.length;simp only[br]at e;omega
def fB.tuple(I:fB X eO σ H s)(h:kP X.K H a xs):∃its:List Vq,fP xs its/\IsTup s.heap a its.toArray/\xs.length<=sizeLine:=by
 rcases h with h|⟨o,its,n,d,b,c,f,r⟩
 .obtain⟨z,its,r,p⟩:=h.ok I.hok;exact⟨its,r,p.tup,z⟩
 .refine⟨its.toList,r,⟨o,I.kIn a o d,b,n,by simpa using c⟩,?_⟩;have e:=r.length;simp only[br]at e;omega
def fB.list_inj(I:fB X eO σ H s)(h:jQ X.K H a xs)(h':jQ X.K H a ys):xs=ys:=by
 obtain⟨c,r,⟨o,n,e,_,_,d⟩,_⟩:=I.list h;obtain⟨b,j,⟨l,k,f,_,_,g⟩,_⟩:=I.list h';rw[e]at f;cases f;rw[d]at g;injection g with i _;have:c=b:=by simpa using congrArg Array.toList i
 subst this;exact r.inj j
def fB.tuple_inj(I:fB X eO σ H s)(h:kP X.K H a xs)(h':kP X.K H a ys):xs=ys:=by
 obtain⟨c,r,⟨o,e,_,n,d⟩,_⟩:=I.tuple h;obtain⟨b,j,⟨l,f,_,k,g⟩,_⟩:=I.tuple h';rw[e]at f;cases f;rw[d]at g;injection g with i _;have:c=b:=by simpa using congrArg Array.toList i
 subst this;exact r.inj j
end
noncomputable abbrev Cx.wish(X:Cx)(E:Vq->Shared->Prop):Cx:={X with xe:=E}
abbrev Cx.nox(X:Cx):Cx:=X.wish λ_ _=>False
def Cx.Ok.wish{X:Cx}(ok:X.Ok) E:(X.wish E).Ok:=⟨ok.mod,ok.kind,ok.glob,ok.blt,ok.above,ok.inj,ok.has,ok.cab,ok.hd,ok.frames,ok.stk,ok.exf,ok.bs,ok.bsz,ok.noex,ok.exfs,ok.funs,ok.frf,ok.tab⟩
def Cx.Ok.unwish{X:Cx}(ok:(X.wish E).Ok):X.Ok:=⟨ok.mod,ok.kind,ok.glob,ok.blt,ok.above,ok.inj,ok.has,ok.cab,ok.hd,ok.frames,ok.stk,ok.exf,ok.bs,ok.bsz,ok.noex,ok.exfs,ok.funs,ok.frf,ok.tab⟩
section
variable {X:Cx}{eO:List (Addr×Obj)}{σ:St}{H:Hp}{s:Sq}{E:Vq->Shared->Prop}
def fB.wish(I:fB X eO σ H s) E:fB (X.wish E) eO σ H s:=⟨I.ok.wish E,I.os,I.bare,I.base,I.loc,I.cell,I.free,I.freeC,I.pin,I.hok,I.len⟩
def fB.unwish(I:fB (X.wish E) eO σ H s):fB X eO σ H s:=⟨I.ok.unwish,I.os,I.bare,I.base,I.loc,I.cell,I.free,I.freeC,I.pin,I.hok,I.len⟩
def SP.unwish(h:SP (X.wish E) eO D f s'):SP X eO D f s':=by
 cases f with
 |next=>obtain⟨a,b,I,q⟩:=h;exact⟨a,b,I.unwish,q⟩
 |brk=>obtain⟨a,b,I,q⟩:=h;exact⟨a,b,I.unwish,q⟩
 |cont=>obtain⟨a,b,I,q⟩:=h;exact⟨a,b,I.unwish,q⟩
 |ret u=>obtain⟨v,a,b,I,r,q⟩:=h;exact⟨v,a,b,I.unwish,r,q⟩
def yF.nox{st:List Stmt}(h:yF X.nox st t):yF X st t:=λeO s σ H D I hw=>wpAny_mono (h eO s σ H D (I.wish _) hw) (λ_ _ q=>q.unwish) λ_ _ z=>False.elim z
end
section
variable {X:Cx}{st:Stmt}{kQ:List Stmt}{t u:TS}{e:Expr}{te:TE}{pos:Pos}
def BV:TS:=λD a H=>D.nx a H
def AK(t u:TS):TS:=λD a H=>t {D with nx:=u D} a H
def C6:yF X [] BV:=λ_ _ a H _ I h=>wpAny_execs_nil ⟨a,H,I,h⟩
def nW(k:PS X st t)(j:yF X kQ u):yF X (st::kQ) (AK t u):=by
 intro b s g H D I h;refine wpAny_execs_cons (iG (k b s g H {D with nx:=u D} I h) λf c q=>?_);cases f with
 |next=>obtain⟨a,d,i,q⟩:=q;exact j b c a d D i q
 |ret v=>exact q
 |brk=>exact q
 |cont=>exact q
def oO(c:PS X st t):yF X [st] t:=by
 intro a s b H D I h;refine wpAny_execs_cons (iG (c a s b H D I h) λf d q=>?_);cases f with
 |next=>exact wpAny_execs_nil q
 |ret v=>exact q
 |brk=>exact q
 |cont=>exact q
def fB.quiet(I:fB X eO σ H s):interactive X.env=false:=by simp[interactive,I.ok.kind]
def tZ(te:TE):TS:=λD a H=>te a H λ_ b=>D.nx a b
def wW(d:PE X e te)(c:swapsWith e none pos.line X.env=pure false:=by rfl):PS X (.Expr e pos) (tZ te):=by intro b s a H D I h;exact wpAny_Expr_any (iG (d b s a H _ I h) λv s1 ⟨x,H1,I1,r1,q1⟩=>⟨a,H1,I1,q1⟩) I.quiet c
def Ad(te:TE):TS:=λD a H=>te a H D.rt
def xS(c:PE X e te):PS X (.Return (some e) pos) (Ad te):=by intro b s a H D I h;exact wpAny_Return_some (iG (c b s a H _ I h) λv s1 ⟨x,H1,I1,r1,q1⟩=>⟨x,a,H1,I1,r1,q1⟩)
def K9(c:TT)(t u:TS):TS:=λD a H=>c a H λb d=>if b=true then t D a d else u D a d
def LV(i:PT X c tc)(k:yF X a t)(j:yF X b u):PS X (.If c a b pos) (K9 tc t u):=by
 intro f s g H D I h;refine wpAny_If (iG (i f s g H _ I h) λd s1 ⟨H1,I1,q1⟩=>?_);cases d with
 |true=>exact k f s1 g H1 D I1 q1
 |false=>exact j f s1 g H1 D I1 q1
def AL:TS:=λ_ _ _=>False
def Gj:PS X st AL:=λ_ _ _ _ _ _ h=>h.elim
end
abbrev TG:=V->St->Hp->(St->Hp->Prop)->Prop
abbrev IS:=List V->St->Hp->(St->Hp->Prop)->Prop
def PG(X:Cx)(target:Expr)(t:TG):Prop:=
 ∀(b:List (Addr×Obj)) (s:Sq) (d:St) (H:Hp) (v:V) (u:Vq) (Q:St->Hp->Prop),fB X b d H s->gh v u->t v d H Q->
  wpAny (model X.prog X.w) X.A (assign target X.env u) (λ_ e=>∃a c,fB X b a c e/\Q a c) X.xe s
def OE(X:Cx)(ts:List Expr)(t:IS):Prop:=
 ∀(b:List (Addr×Obj)) (s:Sq) (d:St) (H:Hp) (e:List V) (f:List Vq) (Q:St->Hp->Prop),fB X b d H s->fP e f->t e d H Q->
  wpAny (model X.prog X.w) X.A (assignInOrder ((assignEach ts X.env).map (·.2)) f) (λ_ g=>∃a c,fB X b a c g/\Q a c) X.xe s
abbrev P1:=V->V->V->Hp->(Hp->Prop)->Prop
def Pi(X:Cx)(t:P1):Prop:=
 ∀(a:List (Addr×Obj)) (s:Sq) (b:St) (H:Hp) (o i v:V) (d c u:Vq) (Q:Hp->Prop),fB X a b H s->gh o d->gh i c->gh v u->t o i v H Q->
  wpAny (model X.prog X.w) X.A (setItem d c u) (λ_ f=>∃e,fB X a b e f/\Q e) X.xe s
section
variable {X:Cx}{pos:Pos}
def iw(i:Nat):TG:=λv a H Q=>Q (a.set i (some v)) H
def sZ(a:X.N.Nodup)(e:X.N[i]? = some x)(b:DI X.env.scope x)(d:X.fn x=true\/X.env.scope.names.lookup x=some .local:=by first|exact .inl rfl|exact .inr rfl|assumption):PG X (.Name x pos) (iw i):=by intro f s g H v u Q I r h;exact wpAny_assign_Name (zE I a e b r (λj c=>⟨_,H,c,h⟩) d)
def DK:IS:=λb a H Q=>b=[]/\Q a H
def t6(t:TG)(u:IS):IS:=λd c H Q=>∃v r,d=v::r/\t v c H λa b=>u r a b Q
def B7:OE X [] DK:=by intro b s a H c d Q I r h;obtain⟨e,h⟩:=h;subst e;cases r;exact assignInOrder_nil ⟨a,H,I,h⟩
theorem yU(g:PG X e t)(f:OE X es u)
  (c:(assignEach (e::es) X.env).map (·.2)=assign e X.env::(assignEach es X.env).map (·.2):=by rfl):OE X (e::es) (t6 t u):=by
 intro a s d H j k Q I r h;obtain⟨v,i,b,h⟩:=h;subst b;cases r with
 |cons r rr=>rw[c];refine assignInOrder_cons (iG (g a s d H _ _ _ I r h) λ_ s1 ⟨σ1,H1,I1,q1⟩=>?_);exact f a s1 σ1 H1 _ _ Q I1 rr q1
def Ez(K:W.Frag)(n:Nat)(t:IS):TG:=λv c H Q=>∃a b,v=.ref a/\kP K H a b/\b.length=n/\t b c H Q
def Gs(j:X.calm=true)(h:OE X es t)
  (m:(assignEach es X.env).length=n:=by rfl) (c:(assignEach es X.env).findIdx? (·.1)=none:=by rfl):PG X (.Tuple es k pos) (Ez X.K n t):=by
 intro f s q H v u Q I r hw;obtain⟨a,x,i,y,z,hw⟩:=hw;subst i;cases r;obtain⟨w,d,p,B⟩:=I.tuple y;refine assign_Tuple_tuple (I.ok.hd j) p (by simp[m,<-z,d.length]) c λA g=>?_;have l:=I.kept (t':=s.toks) λb o e=>g b o (aN (aM e)) e;exact h f _ q H x _ Q l (by simpa using d) hw
def MQ(to b:TE)(t:P1):TG:=λv a H Q=>to a H λo e=>b a e λi c=>t o i v c λd=>Q a d
def MM(c:PE X o to)(e:PE X i ti)(d:Pi X t)
  (f:∀v,assign (.Subscript o i pos) X.env v=(do
   let ov <-holding [v] (eval o X.env)
   let iv <-holding [v,ov] (eval i X.env)
   standAt pos
   holding [v,ov,iv] (setItem ov iv v)
   release [v,ov,iv] []):=by intro _;rfl):PG X (.Subscript o i pos) (MQ to ti t):=by
 intro b s a H v u Q I r h;rw[f];refine aq (wpAny_holding (iG (c b s a H _ I h) λov s1 ⟨x,H1,I1,r1,q1⟩=>?_));refine aq (wpAny_holding (iG (e b s1 a H1 _ I1 q1) λiv s2 ⟨y,H2,I2,r2,q2⟩=>?_));refine aq (wpAny_standAt (aq (wpAny_holding (iG (d b s2 a H2 x y v ov iv u _ I2 r1 r2 r q2) λ_ s3 ⟨H3,I3,q3⟩=>?_))));exact wpAny_release ⟨a,H3,I3,q3⟩
def lB(b:TE)(g:TG):TS:=λD a H=>b a H λx c=>g x a c D.nx
def GF(d:PE X e te)(i:PG X tg g)(c:swapsWithSole [tg] e pos.line X.env=pure false:=by rfl)(hw:swappedStores [tg] e X.env=pure none:=by rfl)
  (f:(assignEach [tg] X.env).map (·.2)=[assign tg X.env]:=by rfl):PS X (.Assign [tg] e pos) (lB te g):=by
 intro a s b H D I h;refine wpAny_Assign_stores (iG (d a s b H _ I h) λv s1 ⟨x,H1,I1,r1,q1⟩=>?_) c hw;rw[f];exact iG (i a s1 b H1 x v _ I1 r1 q1) λ_ j q=>q
def rK(a:X.N.Nodup)(k:X.N[i]? = some x)(c:DI X.env.scope x)(g:PE X e te)(d:swapsWith e (some (.Name x pos')) pos.line X.env=pure false:=by rfl)(j:X.fn x=true\/X.env.scope.names.lookup x=some .local:=by first|exact .inl rfl|exact .inr rfl|assumption) :
  PS X (.Assign [.Name x pos'] e pos) (lB te (iw i)):=by
 intro b s f H D I h;refine wpAny_Assign_Name (iG (g b s f H _ I h) λv s1 ⟨y,H1,I1,r1,q1⟩=>?_) d;exact zE I1 a k c r1 (λm l=>⟨_,H1,l,q1⟩) j
end
section
variable {X:Cx}{pos:Pos}
def AH(c:TT)(h:TS):TS:=λD a H=>∃W:Nat->St->Hp->Prop,(∃m,W m a H)/\∀m a H,W m a H->
 c a H λb g=>if b=true then ∃N:St->Hp->Prop,(∀d e,N d e->∃f,f<m/\W f d e)/\h {D with nx:=N,ct:=N,bk:=D.nx} a g else D.nx a g
def HQ(r:PassesOwn (model X.prog X.w) X.A X.env X.xe)(z:PT X c tc)(K:yF X body tb):PS X (.While c body [] pos) (AH tc tb):=by
 intro k s F H D I h;obtain⟨W,⟨J,L⟩,turn⟩:=h;refine wpAny_While (codeAny_whileLoop (λn y=>∃g t,fB X k g t y/\W n g t) ?_ J ⟨F,H,I,L⟩);rintro n E ⟨d,x,B,C⟩;refine wpAny_passesOwn r (iG (z k E d x _ B (turn n d x C)) λb s2 ⟨H2,I2,i⟩=>?_);cases b with
 |true=>
  obtain⟨N,u,i⟩:=i;rw[aR rfl];refine wpAny_passesOwn r (iG (K k s2 d H2 _ I2 i) λf P j=>?_);cases f with
  |next=>obtain⟨a,e,l,q⟩:=j;obtain⟨o,m,p⟩:=u a e q;exact⟨o,m,a,e,l,p⟩
  |cont=>obtain⟨a,e,l,q⟩:=j;obtain⟨o,m,p⟩:=u a e q;exact⟨o,m,a,e,l,p⟩
  |brk=>exact j
  |ret v=>exact j
 |false=>rw[aS aI];exact wpAny_execs_nil ⟨d,H2,I2,i⟩
end
structure It where
 go:Nat->Hp->Prop
 yld:Nat->Hp->V->Hp->Prop
 stop:Nat->Hp->Prop
def sI(X:Cx)(a:List (Addr×Obj))(H:Hp)(b:Addr):Prop:=H b=none/\b≠X.env.locals/\b∉X.fs/\(b∈X.ex\/X.s₀.heap.objs.size<=b)/\(∀x c,X.env.cells.lookup x=some c->c≠b)/\∀p∈X.pn++a,p.1≠b
def fB.fpOk(I:fB X eO σ H s)(a:s.heap.objs.size<=b)(f:H' b=none):sI X eO H' b:=by
 refine⟨f,bt (aF I.lt a),I.nofs a,.inr (aO I.sz a),λx c e z=>?_,λp d z=>?_⟩
 .obtain⟨v,q⟩:=I.cell x c e;exact absurd (aF q.lt (by rw[z];exact a)) (bc _)
 .exact absurd (aF (aM (I.pin p d).1) (by rw[z];exact a)) (bc _)
structure Be(P:Program)(w:World)(K:W.Frag)(tg:Expr)(J:It)(fp:List Addr)(it:Addr)(tn:Nat->Heap->Prop):Prop where
 mem:it∈fp
 obj:∀i h,tn i h->∀b∈fp,∃o,h.get? b=some o/\∀v,o.data≠.cell v
 keep:∀i h h',tn i h->(∀b∈fp,∀o,h.get? b=some o->h'.get? b=some o)->tn i h'
 item:∀(X:Cx),X.prog=P->X.w=w->X.K=K->X.calm=true->∀(i:Nat) (eO:List (Addr×Obj)) (s:Sq) (σ:St) (H:Hp) (E:Vq->Shared->Prop),fB X eO σ H s->(∀b∈fp,sI X eO H b)->tn i s.heap->J.go i H->
  wpAny (model P w) X.A (pyNext (.ref it)) (λr s1=>∃u,r=some u/\
   wpAny (model P w) X.A (letOwnedTupleGo tg (.ref it) u) (λ_ s2=>∃x H',fB X eO σ H' s2/\gh x u/\J.yld i H x H'/\tn (i+1) s2.heap/\∀b∈fp,H' b=none) E s1) E s
 done:∀(X:Cx),X.prog=P->X.w=w->X.K=K->X.calm=true->∀(i:Nat) (eO:List (Addr×Obj)) (s:Sq) (σ:St) (H:Hp) (E:Vq->Shared->Prop),fB X eO σ H s->(∀b∈fp,sI X eO H b)->tn i s.heap->J.stop i H->
  wpAny (model P w) X.A (pyNext (.ref it)) (λr s1=>r=none/\fB X eO σ H s1) E s
 self:∀(A:Around) (i:Nat) (s:Sq) (Q:Vq->Shared->Prop) (E:Vq->Shared->Prop),tn i s.heap->Q (.ref it) s->wpAny (model P w) A (pyIter (.ref it)) Q E s
abbrev TI:=St->Hp->(It->Hp->Prop)->Prop
def Ri(X:Cx)(d:List (Addr×Obj))(h:St)(i:Expr)(R:It->Hp->Prop)(c:Vq)(f:Sq):Prop:=∃(it:Addr) (g:List Addr) (e:Nat->Heap->Prop) (J:It) (a:Hp),c=.ref it/\fB X d h a f/\Be X.prog X.w X.K i J g it e/\e 0 f.heap/\(∀b∈g,sI X d a b)/\R J a
def PI(X:Cx)(f a:Expr)(e:TI):Prop:=
 ∀(c:List (Addr×Obj)) (s:Sq) (b:St) (H:Hp) (R:It->Hp->Prop),fB X c b H s->e b H R->
  wpAny (model X.prog X.w) X.A (eval a X.env) (λv d=>wpAny (model X.prog X.w) X.A (pyIter v) (Ri X c b f R) X.xe d) X.xe s
theorem Hu{M:Model}{A:Around}{E:Vq->Shared->Prop}{s:Sq}{b:Expr}{it:Addr}{u:Vq}{o:Obj}{n:String}{vs:Array Vq}{Q:Unit->Shared->Prop}(c:s.heap.get? it=some o)(e:o.cls=.type n)(f:o.data=.fields vs)
    (d:["enumerate", "zip", "dict_itemiterator", "dict_reverseitemiterator", "odict_iterator", "itertools.zip_longest", "itertools.pairwise"].contains n=false) (a:Q () s):wpAny M A (letOwnedTupleGo b (.ref it) u) Q E s:=by
  unfold letOwnedTupleGo;cases b<;>first
    |exact ao a
    | (cases u<;>first
        |exact ao a
        | (refine aq (wpAny_load c ?_)
           rw[e,f]
           show wpAny M A (if (["enumerate", "zip", "dict_itemiterator", "dict_reverseitemiterator", "odict_iterator", "itertools.zip_longest", "itertools.pairwise"].contains n&&vs[0]? == some (rawInt _))=true then _ else _) Q E s
           rw[aS (by intro h;rw[d,Bool.false_and]at h;cases h)]
           exact ao a))
noncomputable def Qp(K:W.Frag)(a:Addr):It:=⟨λi H=>∃b x,jQ K H a b/\b[i]? = some x,λi H x c=>c=H/\∀b,jQ K H a b->b[i]? = some x,λi H=>∃b,jQ K H a b/\b.length<=i⟩
noncomputable def QF(K:W.Frag)(a:Addr):It:=⟨λi H=>∃b x,kP K H a b/\b[i]? = some x,λi H x c=>c=H/\∀b,kP K H a b->b[i]? = some x,λi H=>∃b,kP K H a b/\b.length<=i⟩
noncomputable def OL(a:Int)(n:Nat):It:=⟨λi _=>i<n,λi H x b=>b=H/\x=.int (a+i),λi _=>n<=i⟩
def Ej{K:W.Frag} a it:Be P w K tg (Qp K a) [it] it (λi h=>h.IsListIter it a i) where
 mem:=by simp
 obj:=λi h f b g=>by
  have e:b=it:=by simpa using g
  subst e;obtain⟨o,e,c,d⟩:=f;exact⟨o,e,λv z=>by rw[d]at z;cases z⟩
 keep:=λi h N f k=>f.at λo e=>k it (by simp) o e
 item:=by intro X r hw C L i R s σ H E I l f A;subst r hw C;obtain⟨xs,x,m,q⟩:=A;obtain⟨y,t,p,hz⟩:=I.list m;obtain⟨u,S,ru⟩:=t.get q;obtain⟨n,D,f2,F,J,B⟩:=l it (by simp);refine wpAny_pyNext_list_item f p.isList (by simpa using S) λN j Y=>?_;have Z:=I.turned (t':=s.toks) (λb o g e=>(Y.2 b g).trans e) n D F J B;obtain⟨o,e,c,d⟩:=id j;exact⟨u,rfl,Hu e c d (by decide) ⟨x,H,Z,ru,⟨rfl,λys Q=>by rw[I.list_inj Q m];exact q⟩,j,λb g=>(l b g).1⟩⟩
 done:=by intro X r hw C L i R s σ H E I l f A;subst r hw C;obtain⟨xs,m,q⟩:=A;obtain⟨y,t,p,hz⟩:=I.list m;obtain⟨n,D,f2,F,J,B⟩:=l it (by simp);have hl:=t.length;exact wpAny_pyNext_list_end (I.ok.hd L) f p.isList (by simp;omega) λN U=>⟨rfl,I.turned (λb o g e=>U b o g e) n D F J B⟩
 self:=λ_ _ _ _ _ f h=>wpAny_pyIter_listiter f h
def Bw{K:W.Frag} a it:Be P w K tg (QF K a) [it] it (λi h=>h.IsTupleIter it a i) where
 mem:=by simp
 obj:=λi h f b g=>by
  have e:b=it:=by simpa using g
  subst e;obtain⟨o,e,c,d⟩:=f;exact⟨o,e,λv z=>by rw[d]at z;cases z⟩
 keep:=λi h N f k=>f.at λo e=>k it (by simp) o e
 item:=by intro X r hw C L i R s σ H E I l f A;subst r hw C;obtain⟨xs,x,m,q⟩:=A;obtain⟨y,t,p,hz⟩:=I.tuple m;obtain⟨u,S,ru⟩:=t.get q;obtain⟨n,D,f2,F,J,B⟩:=l it (by simp);refine wpAny_pyNext_tuple_item f (p) (by simpa using S) λN j Y=>?_;have Z:=I.turned (t':=s.toks) (λb o g e=>(Y.2 b g).trans e) n D F J B;obtain⟨o,e,c,d⟩:=id j;exact⟨u,rfl,Hu e c d (by decide) ⟨x,H,Z,ru,⟨rfl,λys Q=>by rw[I.tuple_inj Q m];exact q⟩,j,λb g=>(l b g).1⟩⟩
 done:=by intro X r hw C L i R s σ H E I l f A;subst r hw C;obtain⟨xs,m,q⟩:=A;obtain⟨y,t,p,hz⟩:=I.tuple m;obtain⟨n,D,f2,F,J,B⟩:=l it (by simp);have hl:=t.length;exact wpAny_pyNext_tuple_end (I.ok.hd L) f (p) (by simp;omega) λN U=>⟨rfl,I.turned (λb o g e=>U b o g e) n D F J B⟩
 self:=λ_ _ _ _ _ f h=>wpAny_pyIter_tupleiter f h
def A9{K:W.Frag} it lo n:Be P w K tg (OL lo n) [it] it (λi h=>IsRangeIter h it (lo+(i:Nat)*1) ((n:Int)-(i:Nat)) 1) where
 mem:=by simp
 obj:=λi h a b c=>by
  have e:b=it:=by simpa using c
  subst e;exact⟨_,a,λv z=>by have F:=z;cases F⟩
 keep:=λi h m a k=>k it (by simp) _ a
 item:=by intro X j hw r l i A s B H E I f a p;subst j hw r;obtain⟨g,u,Q,x,y,q⟩:=f it (by simp);have W:=Walks.range (prog:=X.prog) (w:=X.w) (I.ok.hd l) it lo 1 n;refine W.item i s _ _ p a λv m C N d L=>?_;obtain⟨t,rfl⟩:=N;have J:fB X A B H {s with heap:=m,toks:=C}:=I.turned (λb o c e=>L b o (by simpa using c) e) g u x y q;refine⟨_,rfl,Hu d rfl rfl (by decide) ⟨.int (lo+i),H,J,⟨t,?_⟩,⟨rfl,rfl⟩,d,λb c=>(f b c).1⟩⟩;rw[Int.mul_one]
 done:=by intro X j hw r l i A s B H E I f a p;subst j hw r;obtain⟨g,u,Q,x,y,q⟩:=f it (by simp);exact wpAny_pyNext_range_end (I.ok.hd l) a (by have:n<=i:=p;omega) λm D=>⟨rfl,I.turned (λb o c e=>D b o c e) g u x y q⟩
 self:=λ_ _ _ _ _ a h=>wpAny_pyIter_rangeiter a h
end L2
namespace L2
open PySem PySem.Spec PyProof.Rows
section
variable {X:Cx}{tg:Expr}
def zq(K:W.Frag)(e:TE):TI:=λd H R=>e d H λx b=>∃a,x=.ref a/\(∃c,jQ K b a c)/\R (Qp K a) b
def NP(K:W.Frag)(e:TE):TI:=λd H R=>e d H λx b=>∃a,x=.ref a/\(∃c,kP K b a c)/\R (QF K a) b
def yg(j:PE X l tl):PI X tg l (zq X.K tl):=by
 intro c s d H R I h;refine iG (j c s d H _ I h) λv s1 ⟨x,H1,I1,r1,q1⟩=>?_;obtain⟨a,e,⟨n,i⟩,q⟩:=q1;subst e;cases r1;obtain⟨f,k,p,m⟩:=I1.list i;refine wpAny_pyIter_list p.isList ?_;refine⟨s1.heap.objs.size,[s1.heap.objs.size],_,_,H1,rfl,I1.kept λb o e=>ae _ e,Ej a _,⟨_,au _ rfl,rfl,rfl⟩,λb g=>?_,q⟩;have e:b=s1.heap.objs.size:=by simpa using g
 subst e;exact I1.fpOk (aL _) (I1.hok.fresh (aL _))
def NQ(j:PE X l tl):PI X tg l (NP X.K tl):=by
 intro c s d H R I h;refine iG (j c s d H _ I h) λv s1 ⟨x,H1,I1,r1,q1⟩=>?_;obtain⟨a,e,⟨n,i⟩,q⟩:=q1;subst e;cases r1;obtain⟨f,k,p,m⟩:=I1.tuple i;refine wpAny_pyIter_tuple (p) ?_;refine⟨s1.heap.objs.size,[s1.heap.objs.size],_,_,H1,rfl,I1.kept λb o e=>ae _ e,Bw a _,⟨_,au _ rfl,rfl,rfl⟩,λb g=>?_,q⟩;have e:b=s1.heap.objs.size:=by simpa using g
 subst e;exact I1.fpOk (aL _) (I1.hok.fresh (aL _))
def zp{a c:Int}(I:fB X eO σ H s)(f:-(2 ^ 62)<=a)(k:a<2 ^ 62)(l:-(2 ^ 62)<=c)(i:c<2 ^ 62)
  (q:R (OL a (c-a).toNat) H):wpAny (model X.prog X.w) X.A (pyIter (.ref s.heap.objs.size)) (Ri X eO σ tg R) E {s with heap:=s.heap.push {cls:=.type "range",data:=.fields #[.int a t,.int c u,.int 1 v]},toks:=tk}:=by
 refine wpAny_pyIter_range (IsRange.new ..) (small_one f k l i) ?_;have d:fB X eO σ H {s with heap:=s.heap.push {cls:=.type "range",data:=.fields #[.int a t,.int c u,.int 1 v]},toks:=tk}:=I.kept λb o e=>ae _ e;refine⟨(s.heap.push {cls:=.type "range",data:=.fields #[.int a t,.int c u,.int 1 v]}).objs.size,[(s.heap.push {cls:=.type "range",data:=.fields #[.int a t,.int c u,.int 1 v]}).objs.size],_,_,H,rfl,
  d.kept λb o e=>ae _ e,A9 _ a (c-a).toNat,?_,λb h=>?_,q⟩
 .have g:a+((0:Nat):Int)*1=a:=by simp
  have j:(((c-a).toNat:Nat):Int)-((0:Nat):Int)=Builtin.Range.rangeSize a c 1:=by rw[rangeSize_one];split<;>omega
  rw[g,j];exact au _ rfl
 .have e:b=(s.heap.push {cls:=.type "range",data:=.fields #[.int a t,.int c u,.int 1 v]}).objs.size:=by simpa using h
  subst e;exact d.fpOk (aL _) (d.hok.fresh (aL _))
def HP(a:TA):TI:=λb H R=>a b H λd c=>∃j:Int,d=[.int j]/\-(2 ^ 62)<=j/\j<2 ^ 62/\R (OL 0 j.toNat) c
def H9(a:TA):TI:=λb H R=>a b H λd c=>∃i j:Int,d=[.int i,.int j]/\(-(2 ^ 62)<=i/\i<2 ^ 62/\-(2 ^ 62)<=j/\j<2 ^ 62)/\R (OL i (j-i).toNat) c
def EE(l:Gl X "range")(c:X.mg "range" = none)(k:PA X [a] ta)(g:starEach [a] X.env=[(false,eval a X.env)]:=by rfl):PI X tg (.Call (.Name "range" p) [a] [] pos) (HP ta):=by
 intro d s i H R I h;refine Call_ (nZ I l c boot_range (PyProof.Rows.callWith_type1 (iG (k pos d s i H _ I h) λus s1 ⟨vs,H1,I1,r1,b⟩=>?_) g rfl));obtain⟨j,e,b,f,q⟩:=b;subst e;cases r1 with
 |cons r rr=>cases rr;obtain⟨t,rfl⟩:=r;exact call_range_1 (zp I1 (by omega) (by omega) b f (by simpa using q))
def Ed(v:Gl X "range")(l:X.mg "range" = none)(u:PA X [a,b] ta)(n:starEach [a,b] X.env=[(false,eval a X.env),(false,eval b X.env)]:=by rfl)(c:starEach [b] X.env=[(false,eval b X.env)]:=by rfl) :
  PI X tg (.Call (.Name "range" p) [a,b] [] pos) (H9 ta):=by
 intro f s o H R I h;refine Call_ (nZ I v l boot_range (PyProof.Rows.callWith_type1 (iG (u pos f s o H _ I h) λus s1 ⟨vs,H1,I1,r1,d⟩=>?_) (by rw[n,c]) (by rw[c];rfl)));obtain⟨i,j,e,⟨d,m,k,g⟩,q⟩:=d;subst e;cases r1 with
 |cons r rr=>
  cases rr with
  |cons r' rr=>cases rr;obtain⟨t,rfl⟩:=r;obtain⟨w,rfl⟩:=r';exact call_range_2 (zp I1 d m k g q)
def yr(j:TI)(g:TG)(f:TS):TS:=λD a H=>j a H λJ k=>∃W:Nat->Nat->St->Hp->Prop,(∃m,W 0 m a k)/\∀i m a H,W i m a H->
 (J.stop i H/\D.nx a H)\/(J.go i H/\∃N:St->Hp->Prop,(∀c b,N c b->∃e,e<m/\W (i+1) e c b)/\∀x b,J.yld i H x b->g x a b λd h=>f {D with nx:=N,ct:=N,bk:=D.nx} d h)
noncomputable def uK(a:List Addr)(h:Heap):List (Addr×Obj):=a.filterMap λb=>(h.get? b).map λo=>(b,o)
def nc(a:b∈fp)(e:h.get? b=some o):(b,o)∈uK fp h:=bu.mpr ⟨b,a,by rw[e];rfl⟩
def DY(a:p∈uK fp h):p.1∈fp/\h.get? p.1=some p.2:=by
 obtain⟨b,d,e⟩:=bu.mp a;cases q:h.get? b with
 |none=>rw[q]at e;cases e
 |some o=>rw[q]at e;have c:=Option.some.inj e;subst c;exact⟨d,q⟩
def fB.pinned(I:fB X eO σ H s)(k:∀b∈fp,sI X eO H b)(f:∀b∈fp,∃o,s.heap.get? b=some o/\∀v,o.data≠.cell v):fB X (eO++uK fp s.heap) σ H s:=I.pins_of λp g=>(ai.mp g).elim (λz=>I.pin p (bx _ z)) λz=>by obtain⟨c,e⟩:=DY z;obtain⟨h,i,j,_⟩:=k p.1 c;obtain⟨o,a,d⟩:=f p.1 c;rw[e]at a;cases a;exact⟨e,h,i,j,d⟩
def fB.unpinned(I:fB X (eO++pl) σ H s):fB X eO σ H s:=I.pins_of λp a=>I.pin p (bx _ (az _ a))
theorem uA(C:PassesOwn (model X.prog X.w) X.A X.env X.xe)(hc:X.calm=true)(hi:PI X tg iter wi)(hg:PG X tg g)(q:yF X body tb)
  (hs:∀x,foldedSetIterable iter X.env x=pure x:=by intro _;rfl):PS X (.For tg iter body [] pos) (yr wi g tb):=by
 intro B s σ H D I h;refine wpAny_For (iG (hi B s σ H _ I h) λv s1 h1=>iG h1 λitv s2 h2=>?_) hs;obtain⟨it,P,tn,J,H2,e,I2,T,U,f2,W,⟨m0,w0⟩,turn⟩:=h2;subst e;have j:∀{y:Hp},(∀b∈P,y b=none)->∀b∈P,sI X B y b:=λhn b q=>⟨hn b q,(f2 b q).2⟩;refine codeAny_forLoop_any (λn s'=>∃i k y,fB X B k y s'/\tn i s'.heap/\(∀b∈P,y b=none)/\W i n k y) ?_ m0 ⟨0,σ,H2,I2,U,λb q=>(f2 b q).1,w0⟩;rintro n Z ⟨i,l,Q,Y,L,K,w3⟩;rcases turn i n l Q w3 with⟨E,qn⟩|⟨go,N,hN,step⟩
 .refine wpAny_passesOwn C (iG (T.done X rfl rfl rfl hc i B Z l Q X.xe Y (j K) L E) λr s4 ⟨hr,I4⟩=>?_);subst hr;exact wpAny_execs_nil ⟨l,Q,I4,qn⟩
 .refine wpAny_passesOwn C (iG (T.item X rfl rfl rfl hc i B Z l Q X.xe Y (j K) L go) λr s4 ⟨u,hr,h4⟩=>?_);subst hr;refine wpAny_passesOwn C (iG h4 λ_ s5 ⟨x,H5,I5,r5,y5,st5,fr5⟩=>?_);have S:=I5.pinned (j fr5) (T.obj _ _ st5);refine wpAny_passesOwn C (iG (hg _ s5 l H5 x u _ S r5 (step x H5 y5)) λ_ s6 ⟨σ6,H6,I6,q6⟩=>?_);refine wpAny_passesOwn C (iG (q _ s6 σ6 H6 _ I6 q6) λf R z=>?_);have c:∀{a:St} {t:Hp},fB X (B++uK P s5.heap) a t R->N a t->∃m,m<n/\∃i k y,fB X B k y R/\tn i R.heap/\(∀b∈P,y b=none)/\W i m k y:=λ{a t} p F=>by obtain⟨m',hm,w7⟩:=hN a t F;refine⟨m',hm,i+1,a,t,p.unpinned,T.keep _ _ _ st5 λb q o e=>(p.pin (b,o) (bx _ (bx _ (nc q e)))).1,λb q=>?_,w7⟩;obtain⟨o,e,d⟩:=T.obj _ _ st5 b q;exact (p.pin (b,o) (bx _ (bx _ (nc q e)))).2.1
  cases f with
  |next=>obtain⟨a,t,p,F⟩:=z;exact c p F
  |cont=>obtain⟨a,t,p,F⟩:=z;exact c p F
  |brk=>obtain⟨a,t,p,z⟩:=z;exact⟨a,t,p.unpinned,z⟩
  |ret v=>obtain⟨x7,a,t,p,r7,z⟩:=z;exact⟨x7,a,t,p.unpinned,r7,z⟩
end
end L2
namespace L2
open PySem PySem.Spec PyProof.Rows
abbrev R2:=V->V->Hp->VK->Prop
def nL(X:Cx)(f:Vq->Value->Sem Value)(r:R2):Prop:=
 ∀(a:List (Addr×Obj)) (s:Sq) (b:St) (H:Hp) (x y:V) (v u:Vq) (Q:VK),fB X a b H s->gh x v->gh y u->r x y H Q->
  wpAny (model X.prog X.w) X.A (f v u) (EP X a b Q) X.xe s
def QG(X:Cx)(f:Vq->Sem Value)(r:V->Hp->VK->Prop):Prop:=
 ∀(a:List (Addr×Obj)) (s:Sq) (b:St) (H:Hp) (x:V) (v:Vq) (Q:VK),fB X a b H s->gh x v->r x H Q->
  wpAny (model X.prog X.w) X.A (f v) (EP X a b Q) X.xe s
def jA(X:Cx)(f:Vq)(r:List V->Hp->VK->Prop):Prop:=
 ∀(a:List (Addr×Obj)) (s:Sq) (c:St) (H:Hp) (b:List V) (d:List Vq) (Q:VK),fB X a c H s->fP b d->r b H Q->
  wpAny (model X.prog X.w) X.A (call f d) (EP X a c Q) X.xe s
def sT(r:R2)(c d:TE):TE:=λa H Q=>c a H λx e=>d a e λy b=>r x y b Q
def Ra(r:V->Hp->VK->Prop)(a:TE):TE:=λb H Q=>a b H λx c=>r x c Q
def rI(C:Int->Int->Prop)(g:Int->Int->V):R2:=λx y H Q=>∃i j,x=.int i/\y=.int j/\C i j/\Q (g i j) H
def zF(g:Int->Int->V):R2:=λx y H Q=>∃i j,x=.int i/\y=.int j/\Q (g i j) H
def rU(g:Int->V):V->Hp->VK->Prop:=λx H Q=>∃i,x=.int i/\Q (g i) H
section
variable {X:Cx}{a b c:Expr}{ta tb tc:TE}{pos:Pos}
def Of(m:PE X a ta)(k:PE X b tb){R:V->V->Hp->Prop}(I:fB X eO σ H s)
  (h:ta σ H λx j=>tb σ j λy d=>R x y d) {f:Vq->Value->Sem Value}
  (l:∀v u i x y d,fB X eO σ d i->gh x v->gh y u->R x y d->wpAny (model X.prog X.w) X.A (f v u) Q X.xe i) :
  wpAny (model X.prog X.w) X.A (eval a X.env) (λv g=>wpAny (model X.prog X.w) X.A (eval b X.env) (λu e=>wpAny (model X.prog X.w) X.A (f v u) Q X.xe e) X.xe g) X.xe s:=by
 refine iG (m eO s σ H _ I h) λv s1 ⟨x,j,I1,r1,q1⟩=>?_;refine iG (k eO s1 σ j _ I1 q1) λu i ⟨y,d,I2,r2,q2⟩=>?_;exact l v u i x y d I2 r1 r2 q2
def G6(d:nL X (binaryOp op) r)(k:PE X a ta)(l:PE X b tb):PE X (.BinOp a op b pos) (sT r ta tb):=by intro e s i H Q I h;exact wpAny_BinOp (Of k l I h λv u m x y g n j f q=>d e m i g x y v u Q n j f q)
def LX(f:QG X (unaryOp op) r)(g:PE X a ta):PE X (.UnaryOp op a pos) (Ra r ta):=by intro d s e H Q I h;exact UnaryOp_ (iG (g d s e H _ I h) λv s1 ⟨x,H1,I1,r1,q1⟩=>f d s1 e H1 x v Q I1 r1 q1)
def ON{g:Int->Int->Int}
  (d:∀i j t u s Q E,C i j->Q (.int (g i j) s.toks) {s with toks:=s.toks+1}->wpAny (model X.prog X.w) X.A (f (.int i t) (.int j u)) Q E s) :
  nL X f (rI C λi j=>.int (g i j)):=by
 intro n s o H x y v u Q I l k h;obtain⟨i,j,rfl,rfl,e,q⟩:=h;obtain⟨t,rfl⟩:=l;obtain⟨m,rfl⟩:=k;exact d i j t m s _ _ e ⟨.int (g i j),H,I.tok _,⟨_,rfl⟩,q⟩
def NJ{g:Int->Int->Int}
  (d:∀i j t u s Q E,Q (.int (g i j) s.toks) {s with toks:=s.toks+1}->wpAny (model X.prog X.w) X.A (f (.int i t) (.int j u)) Q E s) :
  nL X f (zF λi j=>.int (g i j)):=by
 intro m s n H x y v u Q I k e h;obtain⟨i,j,rfl,rfl,q⟩:=h;obtain⟨t,rfl⟩:=k;obtain⟨l,rfl⟩:=e;exact d i j t l s _ _ ⟨.int (g i j),H,I.tok _,⟨_,rfl⟩,q⟩
def JN{g:Int->Int->Bool}
  (d:∀(i j:Int) (t u:Tok) (s:Sq) (Q:Vq->Shared->Prop) (E:Vq->Shared->Prop),Q (.bool (g i j)) s->wpAny (model X.prog X.w) X.A (f (.int i t) (.int j u)) Q E s) :
  nL X f (zF λi j=>.bl (g i j)):=by
 intro m s n H x y v u Q I k e h;obtain⟨i,j,rfl,rfl,q⟩:=h;obtain⟨t,rfl⟩:=k;obtain⟨l,rfl⟩:=e;exact d i j t l s _ _ ⟨.bl (g i j),H,I,rfl,q⟩
def Kz(i j:Int):Prop:=0<=j/\j<=1000000/\i.natAbs<2 ^ 64
def BG k:(0:Int)<=2 ^ k:=by rw[two_pow_cast];exact bz _
def MD:nL X (binaryOp .Add) (zF λi j=>.int (i+j)):=NJ λ_ _ _ _ _ _ _ q=>add_int q
def Mu:nL X (binaryOp .Sub) (zF λi j=>.int (i-j)):=NJ λ_ _ _ _ _ _ _ q=>sub_int q
def JW:nL X (binaryOp .Mod) (rI (λ_ j=>j≠0) λi j=>.int (i.fmod j)):=ON λ_ _ _ _ _ _ _ d q=>mod_int' d q
def Nx:nL X (binaryOp .Pow) (rI Kz λi j=>.int (i ^ j.toNat)):=ON λ_ _ _ _ _ _ _ d q=>pow_int_small d.1 d.2.1 d.2.2 q
def Oj:nL X (binaryOp .LShift) (rI Kz λi j=>.int (i*2 ^ j.toNat)):=ON λ_ _ _ _ _ _ _ d q=>lshift_int_small d.1 d.2.1 d.2.2 q
def Oa:nL X (binaryOp .RShift) (rI (λ_ j=>0<=j) λi j=>.int (i / 2 ^ j.toNat)):=ON λi j _ _ _ _ _ d q=>rshift_int d (by rw[Int.fdiv_eq_ediv_of_nonneg i (BG _)];exact q)
def MU:nL X (binaryOp .BitAnd) (zF λi j=>.int (Builtin.bitAnd i j)):=NJ λ_ _ _ _ _ _ _ q=>and_int q
def RK{g:Int->Int}
  (d:∀i t s Q E,Q (.int (g i) s.toks) {s with toks:=s.toks+1}->wpAny (model X.prog X.w) X.A (f (.int i t)) Q E s) :
  QG X f (rU λi=>.int (g i)):=by
 intro j s k H x v Q I e h;obtain⟨i,rfl,q⟩:=h;obtain⟨t,rfl⟩:=e;exact d i t s _ _ ⟨.int (g i),H,I.tok _,⟨_,rfl⟩,q⟩
def FO:QG X (unaryOp .USub) (rU λi=>.int (-i)):=RK λ_ _ _ _ _ q=>neg_int q
end
section
variable {X:Cx}{a b c:Expr}{ta tb tc:TE}{pos:Pos}
def Hk(I:fB X eO σ H s)(q:Q (.bl k) H)(e:k=k'):EP X eO σ Q (.bool k') s:=by subst e;exact⟨.bl k,H,I,rfl,q⟩
def Fy:nL X (compareOp .Lt) (zF λi j=>.bl (decide (i<j))):=JN λ_ _ _ _ _ _ _ q=>lt_int q
def zB:nL X (compareOp .LtE) (zF λi j=>.bl (decide (i<=j))):=JN λ_ _ _ _ _ _ _ q=>le_int q
def CW:nL X (compareOp .Gt) (zF λi j=>.bl (decide (j<i))):=JN λ_ _ _ _ _ _ _ q=>gt_int q
def Fm:nL X (compareOp .GtE) (zF λi j=>.bl (decide (j<=i))):=JN λ_ _ _ _ _ _ _ q=>ge_int q
def Fx:nL X (compareOp .Is) (λx y H Q=>y=.non/\Q (.bl (decide (x=.non))) H):=by
 intro f s g H x y v u Q I d e h;obtain⟨rfl,q⟩:=h;cases e;refine is_none_gen (Hk I q ?_);cases x<;>first
  | (cases d;rfl)
  | (obtain⟨t,rfl⟩:=d;rfl)
def Dd:nL X (compareOp .IsNot) (λx y H Q=>y=.non/\Q (.bl (!decide (x=.non))) H):=by
 intro f s g H x y v u Q I d e h;obtain⟨rfl,q⟩:=h;cases e;refine isnot_none_gen (Hk I q ?_);cases x<;>first
  | (cases d;rfl)
  | (obtain⟨t,rfl⟩:=d;rfl)
def q0 b (h:op≠.In:=by decide) (h2:op≠.NotIn:=by decide):behindInMarks op b=false:=by
 have e1:(op==CmpOp.In)=false:=by cases op<;>first|rfl|exact absurd rfl h
 have e2:(op==CmpOp.NotIn)=false:=by cases op<;>first|rfl|exact absurd rfl h2
 cases b<;>simp[behindInMarks,e1,e2]
def KS(d:nL X (compareOp op) r)(l:PE X a ta)(m:PE X b tb)(i:behindInMarks op b=false):PE X (.Compare a [op] [b] pos) (sT r ta tb):=by intro e s j H Q I h;exact wpAny_Compare1 (Of l m I h λv u n x y g o k f q=>d e n j g x y v u Q o k f q) i
def zl(t:TE):TT:=λd H Q=>t d H λx e=>∃k,x=.bl k/\Q k e
def KO(g:nL X (compareOp op) r)(l:PE X a ta)(j:PE X b tb)(i:behindInMarks op b=false):PT X (.Compare a [op] [b] pos) (zl (sT r ta tb)):=by
 intro d s f H Q I h;refine wpAny_isTrue_Compare1 (iG (l d s f H _ I h) λv s1 ⟨x,H1,I1,r1,q1⟩=>iG (j d s1 f H1 _ I1 q1) λu s2 ⟨y,H2,I2,r2,q2⟩=>iG (g d s2 f H2 x y v u _ I2 r1 r2 q2) λc s3 ⟨z,H3,I3,r3,k,e,q3⟩=>?_) i
 subst e;cases r3;exact wpAny_truthy_bool ⟨H3,I3,q3⟩
def A3(r j:R2)(ta tb tc:TE):TE:=λd H Q=>ta d H λx h=>tb d h λy g=>r x y g λz e=>∃k,z=.bl k/\
 (if k=true then tc d e λf i=>j y f i Q else Q (.bl false) e)
theorem GU(l:nL X (compareOp op) r)(i:nL X (compareOp op') r')(o:PE X a ta)(n:PE X b tb)(j:PE X c tc)
  (m:lastMarks [op,op'] [b,c]=false:=by with_unfolding_all rfl):PE X (.Compare a [op,op'] [b,c] pos) (A3 r r' ta tb tc):=by
 intro f s g H Q I h;refine Compare_chain (iG (o f s g H _ I h) λv s1 ⟨x,H1,I1,r1,q1⟩=>chain_link (iG (n f s1 g H1 _ I1 q1) λu s2 ⟨y,H2,I2,r2,q2⟩=>iG (l f s2 g H2 x y v u _ I2 r1 r2 q2) λd s3 ⟨z,H3,I3,r3,k,e,q3⟩=>?_)) m
 subst e;cases r3;refine wpAny_truthy_bool ?_;cases k with
 |false=>exact ite_ff ⟨.bl false,H3,I3,rfl,q3⟩
 |true=>exact ite_tt (chain_last (iG (j f s3 g H3 _ I3 q3) λw' s4 ⟨z',H4,I4,r4,q4⟩=>i f s4 g H4 y z' u w' Q I4 r2 r4 q4))
def wY:(sizeLine:Nat)<2 ^ 63:=by rw[sizeLine_eq];decide
def Bm:nL X (binaryOp .Add) (λx y H Q=>∃i j,x=.str i/\y=.str j/\i.length+j.length<=sizeLine/\Q (.str (i++j)) H):=by intro k s m H x y v u Q I e d h;obtain⟨i,j,rfl,rfl,f,q⟩:=h;obtain⟨t,rfl⟩:=e;obtain⟨g,rfl⟩:=d;exact add_str (λg l=>⟨.str (i++j),H,I.tok _,⟨_,rfl⟩,q⟩) f
def qM(r:fP [x] us):∃u,us=[u]/\gh x u:=by
 cases r with
 |cons r1 r2=>cases r2;exact⟨_,rfl,r1⟩
def L6(r:fP [x,y] us):∃u d,us=[u,d]/\gh x u/\gh y d:=by
 cases r with
 |cons r1 r2=>
  cases r2 with
  |cons r3 r4=>cases r4;exact⟨_,_,rfl,r1,r3⟩
def qb:jA X (.builtin "abs") (λd H Q=>∃i,d=[.int i]/\Q (.int (if i<0 then -i else i)) H):=by intro e s g H d j Q I r h;obtain⟨i,rfl,q⟩:=h;obtain⟨u,rfl,t,rfl⟩:=qM r;exact call_abs_int λu f=>⟨.int (if i<0 then -i else i),H,I.tok _,⟨_,rfl⟩,q⟩
def DW(f:X.calm=true):jA X (.builtin "max") (λe H Q=>∃i j,e=[.int i,.int j]/\Q (.int (if j>i then j else i)) H):=by
 intro l s p H e o Q I r h;obtain⟨i,j,rfl,q⟩:=h;obtain⟨u,g,rfl,⟨t,rfl⟩,⟨v,rfl⟩⟩:=L6 r;refine max_two_ints (I.ok.hd f) λn m k=>⟨_,H,I.kept k,?_,q⟩;by_cases d:j>i
 .rw[aR d,aR d];exact⟨_,rfl⟩
 .rw[aS d,aS d];exact⟨_,rfl⟩
def Ni(K:W.Frag)(x:V)(H:Hp)(n:Nat):Prop:=
 match x with
 |.str y=>y.length<=sizeLine/\n=y.length
 |.byt y=>y.size<=sizeLine/\n=y.size
 |.ref p=>(∃d,jQ K H p d/\n=d.length)\/∃d,kP K H p d/\n=d.length
 |_=>False
def Fv:jA X (.builtin "len") (λf H Q=>∃x n,f=[x]/\Ni X.K x H n/\Q (.int n) H):=by
 intro v s A H f w Q I r h;obtain⟨x,n,rfl,e,q⟩:=h;obtain⟨u,rfl,l⟩:=qM r;have z:=sizeLine_eq;cases x with
 |str y=>obtain⟨t,rfl⟩:=l;obtain⟨hy,d⟩:y.length<=sizeLine/\n=y.length:=e;subst d;exact len_str (by omega) ⟨.int _,H,I.tok _,⟨_,rfl⟩,q⟩
 |byt y=>obtain⟨t,rfl⟩:=l;obtain⟨hy,d⟩:y.size<=sizeLine/\n=y.size:=e;subst d;exact W.len_bytes (by omega) ⟨.int _,H,I.tok _,⟨_,rfl⟩,q⟩
 |ref p=>
  cases l;have d:=e;rcases d with⟨f,g,d⟩|⟨f,g,d⟩
  .subst d;obtain⟨m,i,j,o⟩:=I.list g;have k:=i.length;exact Calls.call_len_list j.isList (by simp only[bA];omega) ⟨.int f.length,H,I.tok _,⟨_,by simp only[bA];rw[k]⟩,q⟩
  .subst d;obtain⟨m,i,j,o⟩:=I.tuple g;have k:=i.length;exact len_tuple j (by simp only[bA];omega) ⟨.int f.length,H,I.tok _,⟨_,by simp only[bA];rw[k]⟩,q⟩
 |_=>exact (e).elim
end
end L2
namespace L2
open PySem PySem.Spec PyProof.Rows
structure BD(h:Heap)(x dx C:Addr)(mA:Str->Option Value):Prop where
 obj:h.get? x=some (W.instObj C dx)
 ns:h.Ns1 dx mA
 ne:dx≠x
def DX{h:Heap}(n:h.Ns1 dx mA):∃f,h.get? dx=some f/\∀b,W.lookIn b f=some (mA b):=by
 obtain⟨o,d,p,i,m,j,_,k⟩:=n;refine⟨o,i,λb=>?_⟩;have e:=k b;unfold nsFind findBy at e;rw[<-Array.find?_toList]at e;unfold W.lookIn;rw[m];dsimp only;split
 .rename_i y q;rw[q]at e;exact congrArg some e
 .rename_i q;rw[q]at e;have a:d.toList.any (·.refKey)=false:=by rw[bB];intro y g;obtain⟨z,t,c⟩:=j y (Array.mem_toList_iff.mp g);simp[DictEntry.refKey,c]
  have l:¬d.toList.any (·.refKey)=true:=by rw[a];exact aI
  rw[aS l];exact congrArg some e
def BD.look(I:BD h x dx C mA):∃b,W.InstAt h x (W.instObj C dx) C (some b)/\∀a,W.lookIn a b=some (mA a):=
 let ⟨b,ho,hl⟩:=DX I.ns
 ⟨b,⟨I.obj,rfl,rfl,ho⟩,hl⟩
section
variable {prog:Program}{w:World}{A:Around}{E:Vq->Shared->Prop}{s:Sq}{K:W.Frag}{x dx C f:Addr}{mA:Str->Option Value}{name:Str}{v:Vq}
def J3(X:K.In s.heap)(I:BD s.heap x dx C mA)(g:W.plainGet K C name=true)(b:W.hasDictIn K C=true)
  (e:W.findIn K (.ref C) name=some none) (d:mA name=some v) (a:W.handedIn v=true) (h:Q v {s with toks:=s.toks+1}) :
  wpAny (model prog w) A (getAttr (.ref x) name expr) Q E s:=by
 obtain⟨i,J,c⟩:=I.look;exact W.get_value X J (W.plainGet_of g).1 (W.findObj_own b e rfl (by rw[c,d])) a h
def G8(X:K.In s.heap)(I:BD s.heap x dx C mA)(a:W.plainGet K C name=true)
  (e:W.findIn K (.ref C) name=some (some (.ref f))) (g:W.isFn K (.ref f)=true) (c:mA name=none) (h:Q (.ref f,[.ref x]) s) :
  wpAny (model prog w) A (getMethod (.ref x) name pl) Q E s:=by
 obtain⟨d,J,b⟩:=I.look;exact W.method_fn X J (W.plainGet_of a).1 (W.plainGet_of a).2 e (beq_iff_eq.mp g) (by show (W.lookIn name d).map (·.isSome)=some false;rw[b,c];rfl) h
def J5(X:K.In s.heap)(I:BD s.heap x dx C mA)
  (p:W.findIn K (.ref C) "__setattr__" = some (some (.builtin "object.__setattr__"))) (j:W.plainOver K C=true) (o:W.takerIn K C name=some none) (n:W.hasDictIn K C=true)
  (hw:PySem.Within mA ns) (hsz:ns.length<=sizeLine)
  (h:∀h',BD h' x dx C (λy=>if y=name then some v else mA y)->Heap.SameBut dx s.heap h'->Q () {s with heap:=h',toks:=s.toks+2}) :
  wpAny (model prog w) A (setAttr (.ref x) name v) Q E s:=by
 obtain⟨u,J,z⟩:=I.look;refine W.set_plain X J p (W.osa_open X J j o λb=>?_);obtain⟨t,m,d⟩:=W.any_some n;have k:=I.obj;refine aq (ao (aq (aq (wpAny_loadPart k (aq (W.Looks.here (W.looks_clsIn X m) ?_))))));rw[d];refine ao (aq (ao (aq ?_)));refine wpAny_nsSet1 I.ns λh' a c=>?_;obtain⟨r,l,q,e,i,g⟩:=a.count (PySem.Within.cons name v hw);refine aq (wpAny_lookBehind e (by rw[i];exact pastItsLine_dict (aO g (by rw[aA];omega))) ?_);exact ao (h _ ⟨(c.2 _ (Ne.symm I.ne)).trans I.obj,a,I.ne⟩ c)
def ID(X:K.In s.heap)(b:W.makesIn K C=true)
  (e:W.findIn K (.ref C) "__init__" = some (some (.ref f))) (c:W.typeIn K (.ref f)=some (.type "function"))
  (h:codeAny (model prog w) (A.under (.builtin "type.__call__" ⟨.ref C::vs,kw⟩)) (.call (.ref f) ⟨.ref (s.heap.objs.size+1)::vs,kw⟩) (W.InitBack (s.heap.objs.size+1) R)
   {s with heap:=(s.heap.push W.emptyDict).push (W.instObj C s.heap.objs.size)}) :
  codeAny (model prog w) A (.call (.ref C) ⟨vs,kw⟩) R s:=by
 obtain⟨i,g,d,t,j⟩:=s;exact W.make_core (W.makes_of X b) (W.looks_findIn X e) (λa=>W.bind_fn X a c) (.inl rfl) h
end
def nK(f:Str)(v:V):List (Str×V)->List (Str×V)
 |[]=>[(f,v)]
 | (g,x)::r=>if g=f then (g,v)::r else (g,x)::nK f v r
theorem sE f g v:∀fs:List (Str×V),(nK f v fs).lookup g=if g=f then some v else fs.lookup g
 |[]=>by
  show List.lookup g [(f,v)]=_;by_cases h:g=f
  .have a:=beq_iff_eq.mpr h;simp only[List.lookup,a,aR h]
  .have a:=beq_eq_false_iff_ne.mpr h;simp only[List.lookup,a,aS h]
 | (k,x)::r=>by
  have c:=sE f g v r;rw[show nK f v ((k,x)::r)=(if k=f then (k,v)::r else (k,x)::nK f v r) from rfl];by_cases b:k=f
  .rw[aR b];by_cases h:g=k
   .have a:=beq_iff_eq.mpr h;simp only[List.lookup,a,aR (h.trans b)]
   .have a:=beq_eq_false_iff_ne.mpr h;simp only[List.lookup,a,aS (λe:g=f=>h (e.trans b.symm))]
  .rw[aS b];by_cases h:g=k
   .have a:=beq_iff_eq.mpr h;simp only[List.lookup,a,aS (λe:g=f=>b (h.symm.trans e))]
   .have a:=beq_eq_false_iff_ne.mpr h;simp only[List.lookup,a];exact c
theorem rV f v:∀fs:List (Str×V),f∈(nK f v fs).map (·.1)/\∀g,g∈fs.map (·.1)->g∈(nK f v fs).map (·.1)
 |[]=>⟨by simp[nK],λg h=>by simp at h⟩
 | (k,x)::r=>by
  obtain⟨b,c⟩:=rV f v r;rw[show nK f v ((k,x)::r)=(if k=f then (k,v)::r else (k,x)::nK f v r) from rfl];by_cases a:k=f
  .rw[aR a];subst a;exact⟨by simp,λg h=>by simpa using h⟩
  .rw[aS a];refine⟨?_,λg h=>?_⟩
   .rw[bC];exact bp _ b
   .rw[bC]at h ⊢;rcases aG.mp h with e|e
    .exact aG.mpr (.inl e)
    .exact bp _ (c g e)
theorem sv f v:∀fs:List (Str×V),(nK f v fs).length<=fs.length+1
 |[]=>by simp[nK]
 | (k,x)::r=>by
  have b:=sv f v r;rw[show nK f v ((k,x)::r)=(if k=f then (k,v)::r else (k,x)::nK f v r) from rfl];by_cases a:k=f
  .rw[aR a,aA,aA];omega
  .rw[aS a,aA,aA];omega
def xQ.some_of(r:xQ (some v) o):∃u,o=some u/\gh v u:=by
 cases o with
 |none=>exact (r).elim
 |some u=>exact⟨u,rfl,r⟩
def xQ.none_of(r:xQ none o):o=none:=by
 cases o with
 |none=>rfl
 |some u=>exact (r).elim
def Ec(r:gh v u):W.handedIn u=true:=by
 cases v with
 |non=>cases (r);rfl
 |bl b=>cases (r);rfl
 |int i=>obtain⟨t,e⟩:=(r);cases e;rfl
 |str x=>obtain⟨t,e⟩:=(r);cases e;rfl
 |byt b=>obtain⟨t,e⟩:=(r);cases e;rfl
 |flt b=>obtain⟨t,e⟩:=(r);cases e;rfl
 |ref a=>cases (r);rfl
 |ty n=>cases (r);rfl
section
variable {P:Program}{w:World}{H H':Hp}{h h':Heap}{a C dx:Addr}{fs fs':List (Str×V)}
def sY(c:oT P w H h)(e:H a=some (.ins C dx fs)):∃b,BD h a dx C b/\(∀f,xQ (fs.lookup f) (b f))/\PySem.Within b (fs.map (·.1))/\fs.length<=1000/\H dx=some (.own a):=by obtain⟨d,z,ne,g,b,n,r,q⟩:=(c a _ e);exact⟨b,⟨g,n,ne⟩,r,q,z,d⟩
end
structure vS(K:W.Frag)(C:Addr):Prop where
 pg:W.plainGet K C Str.empty=true
 hd:W.hasDictIn K C=true
 po:W.plainOver K C=true
 sa:W.findIn K (.ref C) "__setattr__" = some (some (.builtin "object.__setattr__"))
def vS.get{K:W.Frag}(c:vS K C) f:W.plainGet K C f=true:=c.pg
def jT(K:W.Frag)(C:Addr)(f:Str):Prop:=W.findIn K (.ref C) f=some none
def jT.taker{K:W.Frag}(n:jT K C f):W.takerIn K C f=some none:=by unfold W.takerIn;rw[show W.findIn K (.ref C) f=some none from n];rfl
structure Jv(K:W.Frag)(C:Addr)(m:Str)(f:Addr):Prop where
 at_:W.findIn K (.ref C) m=some (some (.ref f))
 fn:W.isFn K (.ref f)=true
 kp:W.keepIn K (.ref f)=true
section
variable {X:Cx}{eO:List (Addr×Obj)}{σ:St}{H:Hp}{s:Sq}{a C dx:Addr}{fs:List (Str×V)}{f:Str}{v:V}{A:Around}{E:Vq->Shared->Prop}
def By(I:fB X eO σ H s)(e:H a=some (.ins C dx fs))(c:vS X.K C)(n:jT X.K C f)(l:fs.lookup f=some v)
  (h:∀u d,fB X eO σ H d->gh v u->Q u d):wpAny (model X.prog X.w) A (getAttr (.ref a) f b) Q E s:=by
 obtain⟨j,O,r,_,_,_⟩:=sY I.hok e;obtain⟨u,i,g⟩:=xQ.some_of (by rw[<-l];exact r f);exact J3 I.kIn O (c.get f) c.hd n i (Ec g) (h u _ (I.tok _) g)
def BH(I:fB X eO σ H s)(e:H a=some (.ins C dx fs))(c:vS X.K C)(k:Jv X.K C m g)(l:fs.lookup m=none)
  (h:Q (.ref g,[.ref a]) s):wpAny (model X.prog X.w) A (getMethod (.ref a) m pl) Q E s:=by
 obtain⟨d,O,r,_,_,_⟩:=sY I.hok e;have b:=xQ.none_of (by rw[<-l];exact r m);exact G8 I.kIn O (c.get m) k.at_ k.fn b h
def Ax(I:fB X eO σ H s)(e:H a=some (.ins C dx fs))(c:vS X.K C)(n:jT X.K C f)(J:fs.length<1000)(m:gh y u)
  (h:∀j,fB X eO σ (gy H a (.ins C dx (nK f y fs))) j->Q () j):wpAny (model X.prog X.w) A (setAttr (.ref a) f u) Q E s:=by
 obtain⟨l,O,r,k,_,i⟩:=sY I.hok e;have B:(fs.map (·.1)).length<=sizeLine:=by rw[ay,sizeLine_eq];omega
 refine J5 I.kIn O c.sa c.po n.taker c.hd k B λt d p=>h _ ?_;have x:∃o,t.get? dx=some o:=let ⟨o,_,_,e',_⟩:=d.ns;⟨o,e'⟩;refine I.write (by rw[e];exact True.intro) (.inr i) (λb q F z=>(p.2 b F).trans z) x ?_;refine⟨by rw[fu O.ne];exact i,?_,O.ne,d.obj,_,d.ns,λg=>?_,λg D=>?_⟩
 .have:=sv f y fs;omega
 .rw[sE];by_cases q:g=f
  .rw[aR q,aR q];exact m
  .rw[aS q,aS q];exact r g
 .by_cases q:g=f
  .rw[q];exact (rV f y fs).1
  .refine (rV f y fs).2 g (k g λz=>D ?_);show (if g=f then some u else l g)=none;rw[aS q];exact z
def fB.made(I:fB X eO σ H s):fB X eO σ (gy (gy H s.heap.objs.size (.own (s.heap.objs.size+1))) (s.heap.objs.size+1) (.ins C s.heap.objs.size []))
  {s with heap:=(s.heap.push W.emptyDict).push (W.instObj C s.heap.objs.size)}:=by
 have c:(s.heap.push W.emptyDict).get? s.heap.objs.size=some W.emptyDict:=au s.heap rfl;have j:((s.heap.push W.emptyDict).push (W.instObj C s.heap.objs.size)).get? (s.heap.objs.size+1)=some (W.instObj C s.heap.objs.size):=by have:=au (s.heap.push W.emptyDict) (o:=W.instObj C s.heap.objs.size) rfl;rwa [Heap.size_push]at this
 have g:(s.heap.push W.emptyDict).Ns s.heap.objs.size (λ_=>none):=⟨W.emptyDict,#[],_,c,rfl,(λe i=>absurd i (by simp)),λ_=>rfl⟩;have h:=I.laid (o:=.own (s.heap.objs.size+1)) (t':=s.toks) (λb u q=>ae _ q) (aL _) ⟨_,c⟩;refine h.laid (λb u q=>ae _ q) (Nat.le_of_eq (Heap.size_push _ _)) ?_;have ne:s.heap.objs.size≠s.heap.objs.size+1:=aN (bE _);refine⟨by rw[fu ne,eW],bF _,ne,j,λ_=>none,(Heap.Ns1.of_empty g).at λo q=>ae _ q,λ_=>True.intro,λy d=>absurd rfl d⟩
def Kk(c:attributeBase e f env (eval e env)=eval e env)
  (h:wpAny (model prog w) A (eval e env) (λo b=>wpAny (model prog w) A (getAttr o f true) Q E b) E s):wpAny (model prog w) A (eval (.Attribute e f pos) env) Q E s:=
 Attribute_any_ h (by rw[arm_eval_Attribute,c])
end
def Np(K:W.Frag)(d:TE)(f:Str):TE:=λe H Q=>d e H λx b=>∃a C c fs v,x=.ref a/\b a=some (.ins C c fs)/\vS K C/\jT K C f/\fs.lookup f=some v/\Q v b
def N4(K:W.Frag)(e g:TE)(f:Str):TS:=λD b H=>g b H λy h=>e b h λx d=>∃a C c fs,x=.ref a/\d a=some (.ins C c fs)/\vS K C/\jT K C f/\fs.length<1000/\
 D.nx b (gy d a (.ins C c (nK f y fs)))
section
variable {X:Cx}{o e value:Expr}{f:Str}{pos pos' tpos:Pos}{ta tv:TE}
def OA(i:PE X e ta)(d:attributeBase e f X.env (eval e X.env)=eval e X.env):PE X (.Attribute e f pos) (Np X.K ta f):=by intro b s g H Q I h;refine Kk d (iG (i b s g H _ I h) λu s1 ⟨x,H1,I1,rx,a,C,dx,fs,v,ex,ea,c,n,l,q⟩=>?_);subst ex;obtain rfl:u=Value.ref a:=rx;exact By I1 ea c n l λp m k j=>⟨v,H1,k,j,q⟩
def IC(k:PE X o ta)(g:PE X value tv)(j:swapsWith value (some (.Attribute o f pos')) pos.line X.env=pure false):PS X (.Assign [.Attribute o f pos'] value pos) (N4 X.K ta tv f):=by intro d s b H D I h;refine plainObj_wpAny_Assign_Attribute (iG (g d s b H _ I h) λu s1 ⟨y,H1,I1,ry,q⟩=>iG (k d s1 b H1 _ I1 q) λov s2 ⟨x,H2,I2,rx,a,C,dx,fs,ex,ea,c,n,l,q2⟩=>?_) j;subst ex;obtain rfl:ov=Value.ref a:=rx;exact Ax I2 ea c n l ry λm i=>⟨b,_,i,q2⟩
end
section
variable {X:Cx}{eO:List (Addr×Obj)}{σ:St}{H:Hp}{s:Sq}{A:Around}{E:Vq->Shared->Prop}{Q:Vq->Shared->Prop}{c:Vq}{b:Bool}
inductive nU(K:W.Frag)(H:Hp):V->Value->Prop where
 |non:nU K H .non (.type "NoneType")
 |bl (x:Bool):nU K H (.bl x) (.type "bool")
 |int (i:Int):nU K H (.int i) (.type "int")
 |str (x:Str):nU K H (.str x) (.type "str")
 |flt (x:UInt64):nU K H (.flt x) (.type "float")
 |lst {a:Addr} {xs:List V} (e:H a=some (.lst xs)):nU K H (.ref a) (.type "list")
 |frz {a:Addr} {o:Obj} {xs:List V} (e:H a=some (.frz o (.lst xs))):nU K H (.ref a) (.type "list")
 |tup {a:Addr} {xs:List V} (e:H a=some (.tup xs)):nU K H (.ref a) (.type "tuple")
 |dK {a:Addr} {kvs:List (mG×V)} (e:H a=some (.dK kvs)):nU K H (.ref a) (.type "dict")
 |dT {a:Addr} {kvs:List (List mG×V)} (e:H a=some (.dT kvs)):nU K H (.ref a) (.type "dict")
 |ins {a C dx:Addr} {fs:List (Str×V)} (e:H a=some (.ins C dx fs)) (cl:vS K C) (ha:W.findIn K (.ref C) "__class__" = some (some (.builtin "object.__class__")))
   (hn:W.specialIn K (.builtin "object.__class__") "__get__" = some (some (.builtin "getset_descriptor.__get__"))) (htk:W.takesIn K (.builtin "object.__class__")=some true)
   (hm:W.mroIn K C (.type "object")=some true):nU K H (.ref a) (.ref C)
def EJ(I:fB X eO σ H s)(d:gh x u)(ty:nU X.K H x t)(e:W.kitOne X.K t c=some b)(h:∀k,Q (.bool b) {s with toks:=k}) :
  wpAny (model X.prog X.w) A (call (.builtin "isinstance") [u,c]) Q E s:=by
 cases ty with
 |non=>cases (d);exact W.kia_one W.kitx_none I.kIn True.intro e (λz=>nomatch z) h
 |bl y=>cases (d);exact W.kia_one W.kitx_bool I.kIn True.intro e (λz=>nomatch z) h
 |int i=>obtain⟨t,q⟩:=(d);cases q;exact W.kia_one W.kitx_int I.kIn True.intro e (λz=>nomatch z) h
 |str y=>obtain⟨t,q⟩:=(d);cases q;exact W.kia_one W.kitx_str I.kIn True.intro e (λz=>nomatch z) h
 |flt y=>obtain⟨t,q⟩:=(d);cases q;exact W.kia_one W.kitx_float I.kIn True.intro e (λz=>nomatch z) h
 |@lst a j ea=>cases (d);obtain⟨_,_,n,_,f⟩:=(I.hok a _ ea);exact W.kia_one W.kitx_list I.kIn ⟨_,f,rfl⟩ e (λz=>nomatch z) h
 |@frz a ob j ea=>cases (d);obtain⟨_,_,_,n,_,f⟩:=(I.hok a _ ea);exact W.kia_one W.kitx_list I.kIn ⟨_,f,rfl⟩ e (λz=>nomatch z) h
 |@tup a j ea=>cases (d);obtain⟨_,_,_,p⟩:=(I.hok a _ ea);obtain⟨o,f,g,_⟩:=p;exact W.kia_one W.kitx_tuple I.kIn ⟨o,f,g⟩ e (λz=>nomatch z) h
 |@dK a kvs ea=>cases (d);obtain⟨_,_,r,_,p⟩:=(I.hok a _ ea);obtain⟨o,m,l,f,g,_⟩:=p;exact W.kia_one W.kitx_dict I.kIn ⟨o,f,g.1⟩ e (λz=>nomatch z) h
 |@dT a kvs ea=>cases (d);obtain⟨_,_,j,_,o,m,l,f,g,_⟩:=(I.hok a _ ea);exact W.kia_one W.kitx_dict I.kIn ⟨o,f,g.1⟩ e (λz=>nomatch z) h
 |@ins a C dx fs ea cl ha hn htk hm=>cases (d);obtain⟨v,O,_⟩:=sY I.hok ea;obtain⟨B,J,_⟩:=O.look;exact W.kia_one (W.kitx_own (cl.get _) cl.hd ha hn htk hm) I.kIn J e (λz=>nomatch z) h
end
end L2
namespace L2
open PySem PySem.Spec PyProof.Rows
structure gB(k:Nat)(A:Around):Prop where
 hd:A.handled=none
 dp:A.depth+3*k+5<recursionLimit
 un:A.units+16*k+200<cLine
def gB.mono(r:gB k A)(h:j<=k):gB j A:=⟨r.hd,by have:=r.dp;omega,by have:=r.un;omega⟩
def gB.deeper(r:gB (k+1) A) env:gB k (A.deeper env):=⟨r.hd,by have:=r.dp;show A.depth+1+3*k+5<_;omega,by have:=r.un;show A.units+3+16*k+200<_;omega⟩
def gB.in1(r:gB (k+1) A):gB k A.in1:=⟨r.hd,by have:=r.dp;show A.depth+3*k+5<_;omega,by have:=r.un;show A.units+1+16*k+200<_;omega⟩
def Av{A:Around}:(A.under (.builtin "type.__call__" ⟨.ref C::us,kw⟩)).depth=A.depth+1:=by first|rfl|simp[Around.under,Code.weight,Code.isCreation,Code.isGuard,Code.isCaller,Code.frames,Code.isFrame,guardIds]
def BE{A:Around}:(A.under (.builtin "type.__call__" ⟨.ref C::us,kw⟩)).units=A.units+1:=by first|rfl|simp[Around.under,Code.cUnits,Code.frames,Code.isFrame]
def gB.make(r:gB (k+1) A) C us kw:gB k (A.under (.builtin "type.__call__" ⟨.ref C::us,kw⟩)):=⟨r.hd,by have:=r.dp;rw[Av];omega,by have:=r.un;rw[BE];omega⟩
def gB.depth(r:gB k A):A.depth<recursionLimit:=by have:=r.dp;omega
def gB.units(r:gB k A):A.units+64<cLine:=by have:=r.un;omega
def sH:TA:=λ_ H Q=>Q [] H
def oA(c:TE)(b:TA):TA:=λa H Q=>c a H λx f=>b a f λd e=>Q (x::d) e
section
variable {X:Cx}{e:Expr}{es:List Expr}{te:TE}{t:TA}{pos:Pos}
def pM:PA X [] sH:=λ_ _ _ _ H Q I h=>Calls.spliced_nil ⟨[],H,I,.nil,h⟩
def kj(d:PE X e te)(hr:PA X es t)(c:starEach (e::es) X.env=(false,eval e X.env)::starEach es X.env:=by rfl):PA X (e::es) (oA te t):=by intro pos a s b H Q I h;rw[c];refine Calls.spliced_cons (iG (d a s b H _ I h) λu s1 ⟨x,H1,I1,r1,q1⟩=>?_);exact iG (hr pos a s1 b H1 _ I1 q1) λus s2 ⟨xs,H2,I2,r2,q2⟩=>⟨x::xs,H2,I2,.cons r1 r2,q2⟩
def Nc(t:TA):TE:=λc H Q=>t c H λa b=>a.length<=sizeLine/\∀p,b p=none->Q (.ref p) (gy b p (.tup a))
def N7(t:TA):TE:=λc H Q=>t c H λa b=>a.length<=sizeLine/\∀p,b p=none->Q (.ref p) (gy b p (.lst a))
def IP{x1}(h:PA X es t):PE X (.Tuple es x1 pos) (Nc t):=by intro a s c H Q I d;refine wpAny_Tuple_spliced (iG (h pos a s c H _ I d) λus s1 ⟨xs,H1,I1,r,z,q⟩=>⟨by rw[<-r.length];exact z,?_⟩);have f:=I1.hok.fresh (aL _);refine⟨.ref s1.heap.objs.size,gy H1 s1.heap.objs.size (.tup xs),I1.laid (λb u e=>ae _ e) (aL _) ?_,rfl,q _ f⟩;exact⟨z,us,r,⟨_,au _ rfl,rfl,_,rfl,rfl⟩⟩
def Oh(h:PA X es t):PE X (.List es pos) (N7 t):=by intro a s c H Q I d;refine wpAny_List_spliced (iG (h pos a s c H _ I d) λus s1 ⟨xs,H1,I1,r,z,q⟩=>⟨by rw[<-r.length];exact z,?_⟩);have f:=I1.hok.fresh (aL _);refine⟨.ref s1.heap.objs.size,gy H1 s1.heap.objs.size (.lst xs),I1.laid (λb u e=>ae _ e) (aL _) ?_,rfl,q _ f⟩;exact⟨z,us,0,r,au _ rfl⟩
end
abbrev Sp:=List V->Hp->VK->XK->Prop
abbrev LK:=List Env->Hp->Shared->XK->Value->Shared->Prop
structure t7(P:Program)(w:World)(K:W.Frag)(mg:Str->Option Value)(base:Heap)(A:Around)(outer:List Env)(s:Sq)(H:Hp):Prop where
 frames:A.frames=some outer
 mod:Mod K mg base
 bs:∀b o,base.get? b=some o->s.heap.get? b=some o/\H b=none
 bsz:base.objs.size<=s.heap.objs.size
 funs:s.heap.FunFrames base outer
 frf:∀b∈CY outer,H b=none
 hok:oT P w H s.heap
 bare:AllBare s.gens
 tab:BW base H
def CE(a:List Env)(P:Program)(w:World)(H:Hp)(s:Sq)(Q:VK)(u:Vq)(b:Sq):Prop:=∃v c,b.os=s.os/\AllBare b.gens/\Un (CY a) [] H c s.heap b.heap/\oT P w c b.heap/\gh v u/\Q v c
def CR(c:LK)(a:List Env)(P:Program)(w:World)(H:Hp)(s:Sq)(Q:VK)(E:XK)(r:Result)(b:Sq):Prop:=
 match r with
 |.ok (.ret u)=>CE a P w H s Q u b
 |.ok _=>False
 |.error e=>c a H s E e b
structure lA(P:Program)(w:World)(K:W.Frag)(mg:Str->Option Value)(base:Heap)(CX:LK)(k:Nat)(f:Addr)(fd:FuncData)(ps:List Str)(sp:Sp):Prop where
 len:∀vs H Q E,sp vs H Q E->vs.length=ps.length
 run:∀(A:Around) (outer:List Env) (s:Sq) (H:Hp) (args:Args) (us:List Vq) (vs:List V) (Q:VK) (E:XK),gB k A->t7 P w K mg base A outer s H->BindsTo s fd args (ps.zip us)->fP vs us->sp vs H Q E->
  codeAny (model P w) A (.call (.ref f) args) (CR CX outer P w H s Q E) s
def lA.mono{K:W.Frag}(F:lA P w K mg base CX j f fd ps sp)(h:j<=k) :
  lA P w K mg base CX k f fd ps sp:=⟨F.len,λA a s H b d c Q E hr=>F.run A a s H b d c Q E (hr.mono h)⟩
def lA.imp{K:W.Frag}(F:lA P w K mg base CX k f fd ps sp)
  (h:∀vs H Q E,sp' vs H Q E->sp vs H Q E):lA P w K mg base CX k f fd ps sp':=
 ⟨λvs H Q E q=>F.len vs H Q E (h _ _ _ _ q),λA a s H b i vs Q E hr g d c e=>F.run A a s H b i vs Q E hr g d c (h _ _ _ _ e)⟩
def t7.make{K:W.Frag}(e:t7 P w K mg base A outer s H) C us kw :
  t7 P w K mg base (A.under (.builtin "type.__call__" ⟨.ref C::us,kw⟩)) outer s H:=⟨by first|exact e.frames|(simpa[Around.under,Code.envs,Code.isFrame,pushEnvs] using e.frames),e.mod,e.bs,e.bsz,e.funs,e.frf,e.hok,e.bare,e.tab⟩
def t7.in1{K:W.Frag}(e:t7 P w K mg base A outer s H) :
  t7 P w K mg base A.in1 outer s H:=⟨e.frames,e.mod,e.bs,e.bsz,e.funs,e.frf,e.hok,e.bare,e.tab⟩
section
variable {X:Cx}{eO:List (Addr×Obj)}{σ:St}{H:Hp}{s s':Sq}
def fB.env0(I:fB X eO σ H s):t7 X.prog X.w X.K X.mg X.base X.A X.stack s H:=⟨I.ok.frames,I.ok.mod,I.bs,aO I.ok.bsz I.sz,I.stack,I.stkFree,I.hok,I.bare,I.tab⟩
def fB.after(I:fB X eO σ H s)(h:CE X.stack X.prog X.w H s Q u s'):EP X eO σ Q u s':=by obtain⟨v,i,f,a,un,c,r,q⟩:=h;obtain⟨j,g,d,t,e⟩:=s';obtain rfl:e=s.os:=f;exact⟨v,i,I.call un c a (λb z=>absurd z (by simp)),r,q⟩
end
def wt(c:Sp)(a:List V)(E:XK)(t:TA):TE:=λb H Q=>t b H λd e=>c (d++a) e Q E
def wC(C:Addr)(m:Str)(h:Sp)(b:List V)(E:XK)(f:TE)(t:TA):TE:=λc H Q=>f c H λx d=>∃a e fs,x=.ref a/\d a=some (.ins C e fs)/\fs.lookup m=none/\
 t c d λi g=>h (x::(i++b)) g Q E
def CD(C:Addr)(f:Sp)(b:List V)(E:XK)(t:TA):TE:=λe H Q=>t e H λg c=>∀x a,c x=none->c a=none->a≠x->
 f (.ref x::(g++b)) (gy (gy c a (.own x)) x (.ins C a [])) (λv d=>v=.non/\Q (.ref x) d) E
def n5(K:W.Frag)(fd:FuncData)(ps:List Str)(ds:List Vq):Prop:=∀(s:Sq) (us:List Vq),K.In s.heap->(us++ds).length=ps.length->BindsTo s fd ⟨us,[]⟩ (ps.zip (us++ds))
def n5.all{K:W.Frag}(h:∀us:List Vq,us.length=ps.length->bindArgs fd ⟨us,[]⟩=pure (ps.zip us)):n5 K fd ps []:=λs us _ hl=>by rw[bG]at hl ⊢;exact .of_eq (h us hl)
def rH(b:LK)(X:Cx)(E:XK):Prop:=∀(c:List (Addr×Obj)) (d:St) (H:Hp) (s:Sq) (e:Vq) (a:Sq),fB X c d H s->b X.stack H s E e a->X.xe e a
section
variable {X:Cx}{CX:LK}{k:Nat}{f C:Addr}{fd:FuncData}{ps:List Str}{sp:Sp}{dvs:List V}{ds:List Vq}{E:XK}{x m:Str}{p pos apos:Pos}{e o:Expr}{es:List Expr}{ta:TE}{t:TA}
theorem FZ(F:lA X.prog X.w X.K X.mg X.base CX k f fd ps sp)(hr:gB k X.A)(g:n5 X.K fd ps ds)(j:fP dvs ds)(c:rH CX X E)
  (I:fB X eO σ H s) (r:fP vs us) (h:sp (vs++dvs) H Q E):wpAny (model X.prog X.w) X.A (call (.ref f) us) (EP X eO σ Q) X.xe s:=by
 have b:=r.append j;have d:(us++ds).length=ps.length:=by rw[<-b.length];exact F.len _ _ _ _ h
 refine wpAny_call (codeAny_mono (F.run X.A X.stack s H ⟨us,[]⟩ (us++ds) (vs++dvs) Q E hr I.env0 (g s us I.kIn d) b h) λr i a=>?_);cases r with
 |error e=>exact c eO σ H s e i I a
 |ok fl=>
  cases fl with
  |ret u=>exact I.after a
  |next=>exact False.elim a
  |brk=>exact False.elim a
  |cont=>exact False.elim a
def La(F:lA X.prog X.w X.K X.mg X.base CX k f fd ps sp)(hr:gB k X.A)(u:Gl X x)(j:X.mg x=some (.ref f))(i:W.keepIn X.K (.ref f)=true)(v:n5 X.K fd ps ds)(y:fP dvs ds)(d:rH CX X E)
  (n:PA X (e::es) t) (b:(x==("__debug__" : Str))=false:=by decide) (g:starEach (e::es) X.env=(false,eval e X.env)::starEach es X.env:=by rfl) (a:(backTo pos (starEach es X.env)).any (·.1)=false:=by rfl) :
  PE X (.Call (.Name x p) (e::es) [] pos) (wt sp dvs E t):=by
 intro c s l H Q I h;refine wpAny_Call_Name_kw (xD I u j ?_ b);refine W.callWith_K I.ok.mod.kin i (iG (n pos c s l H _ I h) λus s1 ⟨vs,H1,I1,r,q⟩=>⟨I1.kIn,?_⟩) g a;exact FZ F hr v y d I1 r q
def Ij(n:PE X o ta)(c:vS X.K C)(b:Jv X.K C m f)(F:lA X.prog X.w X.K X.mg X.base CX k f fd ps sp)(hr:gB k X.A)(i:n5 X.K fd ps ds)(v:fP dvs ds)(g:rH CX X E)
  (r:eval (.Call (.Attribute o m apos) [] [] pos) X.env=(do
   let ov <-eval o X.env
   standAt apos.atName
   let (f,first) <-holding [ov] (getMethod ov m pl)
   callWith pos f first (backTo pos (starEach [] X.env)) (backToKw pos (keywordEach [] X.env))):=by rfl) :
  PE X (.Call (.Attribute o m apos) [] [] pos) (wC C m sp dvs E ta sH):=by
 intro d s j H Q I h;refine W.methodCall_KW (iG (n d s j H _ I h) λu s1 ⟨x,H1,I1,rx,a,dx,fs,ex,ea,l,q⟩=>?_) r;subst ex;obtain rfl:u=Value.ref a:=rx;refine BH I1 ea c b l ?_;exact W.callWith_K0 I1.kIn b.kp (FZ (vs:=[.ref a]) F hr i v g I1 (.cons rfl .nil) q)
structure Mk(K:W.Frag)(C f:Addr):Prop where
 makes:W.makesIn K C=true
 init:W.findIn K (.ref C) "__init__" = some (some (.ref f))
 fn:W.isFn K (.ref f)=true
 kp:W.keepIn K (.ref C)=true
theorem Hv(M:Mk X.K C f)(F:lA X.prog X.w X.K X.mg X.base CX k f fd ps sp)(hr:gB (k+1) X.A)(B:n5 X.K fd ps ds)(q:fP dvs ds)
  (g:rH CX X E) (I:fB X eO σ H s) (r:fP vs us)
  (h:∀x dx,H x=none->H dx=none->dx≠x->sp (.ref x::(vs++dvs)) (gy (gy H dx (.own x)) x (.ins C dx [])) (λv l=>v=.non/\Q (.ref x) l) E) :
  wpAny (model X.prog X.w) X.A (call (.ref C) us) (EP X eO σ Q) X.xe s:=by
 have d:=h (s.heap.objs.size+1) s.heap.objs.size (I.hok.fresh (bH _)) (I.hok.fresh (aL _)) (aN (bE _));have b:=fB.made (C:=C) I;have c:fP (V.ref (s.heap.objs.size+1)::(vs++dvs)) (Value.ref (s.heap.objs.size+1)::(us++ds)):=.cons rfl (r.append q);have J:(Value.ref (s.heap.objs.size+1)::us++ds).length=ps.length:=by have e:=c.length;rw[F.len _ _ _ _ d]at e;exact e.symm
 refine wpAny_call (ID I.kIn M.makes M.init (beq_iff_eq.mp M.fn) (codeAny_mono (F.run _ X.stack _ _ ⟨Value.ref (s.heap.objs.size+1)::us,[]⟩ (Value.ref (s.heap.objs.size+1)::(us++ds)) _ _ E (hr.make C us [])
  (b.env0.make C us []) (B _ (Value.ref (s.heap.objs.size+1)::us) b.kIn J) c d) λr j a=>?_))
 cases r with
 |error e=>exact g eO σ _ _ e j b a
 |ok fl=>
  cases fl with
  |ret u=>obtain⟨v,z,i,n,D,y⟩:=b.after a;subst D;exact⟨n,⟨V.ref (s.heap.objs.size+1),z,i,rfl,y⟩⟩
  |next=>exact False.elim a
  |brk=>exact False.elim a
  |cont=>exact False.elim a
def Ku(M:Mk X.K C f)(F:lA X.prog X.w X.K X.mg X.base CX k f fd ps sp)(hr:gB (k+1) X.A)(n:Gl X x)(i:X.mg x=some (.ref C))(u:n5 X.K fd ps ds)(v:fP dvs ds)(d:rH CX X E)
  (l:PA X (e::es) t) (b:(x==("__debug__" : Str))=false:=by decide) (g:starEach (e::es) X.env=(false,eval e X.env)::starEach es X.env:=by rfl) (a:(backTo pos (starEach es X.env)).any (·.1)=false:=by rfl) :
  PE X (.Call (.Name x p) (e::es) [] pos) (CD C sp dvs E t):=by
 intro c s j H Q I h;refine wpAny_Call_Name_kw (xD I n i ?_ b);refine W.callWith_K I.ok.mod.kin M.kp (iG (l pos c s j H _ I h) λus s1 ⟨vs,H1,I1,r,q⟩=>⟨I1.kIn,?_⟩) g a;exact Hv M F hr u v d I1 r q
end
structure gq(N P:List Str)(sc:Scope):Prop where
 kind:sc.kind=.function
 co:sc.isCoroutine=false
 gen:sc.isGenerator=false
 nd:N.Nodup
 pre:N.take P.length=P
 par:∀x∈P,sc.names.lookup x=some .local\/sc.names.lookup x=some .cell
 nofree:∀y∈sc.names,y.2≠.free
theorem we{kindOf:Str->Option NameKind}:∀{binds} {m},(∀v,(x,v)∉binds)->bindL kindOf binds m x=m x
 |[],_,_=>rfl
 | (n,v)::r,m,h=>by
  unfold bindL;rw[we λw hw=>h w (bp _ hw)];split
  .have:x≠n:=by rintro rfl;exact h v bj
   simp[this]
  .rfl
theorem wN{kindOf:Str->Option NameKind}:∀{binds} {m},(∀v,(x,v)∉binds)->bindC kindOf binds m x=m x
 |[],_,_=>rfl
 | (n,v)::r,m,h=>by
  unfold bindC;rw[wN λw hw=>h w (bp _ hw)];split
  .rfl
  .have:x≠n:=by rintro rfl;exact h v bj
   simp[this]
theorem vG{kindOf:Str->Option NameKind}:∀{P:List Str} {vs:List Vq} {i:Nat} {m:Str->Option Value},P.Nodup->P[i]? = some x->vs[i]? = some v->kindOf x=some .local->
  bindL kindOf (P.zip vs) m x=some v
 |[],_,_,_,_,h,_,_=>by simp at h
 |_::_,[],_,_,_,_,h,_=>by simp at h
 |p::P,w::vs,0,m,nd,h1,h2,hk=>by simp at h1 h2;subst h1;subst h2;show bindL kindOf ((p,w)::P.zip vs) m p=_;unfold bindL;rw[we λv a=>(bI.mp nd).1 (aX a).1,aR hk];simp
 |p::P,w::vs,i+1,m,nd,h1,h2,hk=>by unfold bindL;exact vG (bI.mp nd).2 (by simpa using h1) (by simpa using h2) hk
theorem wa{kindOf:Str->Option NameKind}:∀{P:List Str} {vs:List Vq} {i:Nat} {m:Str->Option Value},P.Nodup->P[i]? = some x->vs[i]? = some v->kindOf x≠some .local->
  bindC kindOf (P.zip vs) m x=some v
 |[],_,_,_,_,h,_,_=>by simp at h
 |_::_,[],_,_,_,_,h,_=>by simp at h
 |p::P,w::vs,0,m,nd,h1,h2,hk=>by simp at h1 h2;subst h1;subst h2;show bindC kindOf ((p,w)::P.zip vs) m p=_;unfold bindC;rw[wN λv a=>(bI.mp nd).1 (aX a).1,aS hk];simp
 |p::P,w::vs,i+1,m,nd,h1,h2,hk=>by unfold bindC;exact wa (bI.mp nd).2 (by simpa using h1) (by simpa using h2) hk
noncomputable def jD(N:List Str)(vs:List V):St:=vs.map some++List.replicate (N.length-vs.length) none
noncomputable def lK(g:LK)(P:Program)(w:World)(K:W.Frag)(mg:Str->Option Value)(base:Heap)(N:List Str)(b:Str)(a:Scope)(f:Addr)(d:Vq)(A:Around)(outer:List Env)(s:Sq)(H:Hp)(E:XK):Cx where
 prog:=P
 w:=w
 K:=K
 mg:=mg
 base:=base
 A:=A.deeper (envOfC b a s.heap.objs.size f d)
 N:=N
 s₀:=s
 H₀:=H
 env:=envOfC b a s.heap.objs.size f d
 outer:=outer
 stack:=envOfC b a s.heap.objs.size f d::outer
 ex:=[]
 calm:=true
 fn:=λ_=>true
 pn:=[]
 xe:=λe h=>wpAny (model P w) (A.deeper (envOfC b a s.heap.objs.size f d)) (leaving (envOfC b a s.heap.objs.size f d) e) (λ_ c=>g outer H s E e c) (λi c=>g outer H s E i c) h
def kv{a:Scope}(h:a.names.lookup x=some .cell):∃c,(cellsFrom n a.names []).lookup x=some c:=by have q:=W.cellsFrom_some a.names n [] (.inl h);exact bJ.mp q
theorem wz{K:W.Frag}
  (S:gq N ps scope) (J:A.handled=none) (g:t7 P w K mg base A outer s H) (Q:vs.length=ps.length) (r:fP vs us)
  (x:InCallC s s.heap.objs.size (bindL (envOfC qual scope s.heap.objs.size f cd).kindOf (ps.zip us) λ_=>none) (cellsFrom (s.heap.objs.size+1) scope.names []) (bindC (envOfC qual scope s.heap.objs.size f cd).kindOf (ps.zip us) λ_=>none) s1) :
  fB (lK CX P w K mg base N qual scope f cd A outer s H E) [] (jD N vs) H s1:=by
 have D:ps.length<=N.length:=by have:=congrArg List.length S.pre;rw[bK]at this;omega
 obtain⟨t,L,rfl,C⟩:=x.done;have l:∀b:Addr,b∉(lK CX P w K mg base N qual scope f cd A outer s H E).ex:=λb z=>absurd (show b∈([]) from z) (by simp);refine⟨⟨g.mod,S.kind,rfl,rfl,aL _,λy z c t d=>?_,λy j=>?_,λy c _ h=>?_,λ_=>J,Around.frames_deeper g.frames,.inr ⟨rfl,rfl⟩,λb z=>absurd z (l b),g.bs,g.bsz,λb _ _=>l b,λb z=>absurd z (l b),g.funs,g.frf,g.tab⟩,
  rfl,g.bare,Un.kept C,⟨_,x.toInCall.ns,λi y v t d R=>?_⟩,λy c h=>⟨_,x.cell y c h⟩,g.hok.fresh (aL _),λy c h=>?_,λp m=>absurd (show p∈([]) from m) (by simp),g.hok.kept C,?_⟩
 .exact name_of_addr x.apart (PySem.mem_of_lookup t) (PySem.mem_of_lookup d)
 .have j:=j;rcases j with j|j
  .exact kv j
  .exact absurd rfl (S.nofree _ (PySem.mem_of_lookup j))
 .exact bg (x.above y c (PySem.mem_of_lookup h))
 .have o:i<vs.length:=by
   unfold jD at d;by_cases o:i<vs.length
   .exact o
   .rw[List.getElem?_append_right (by simpa using o)]at d;rw[List.getElem?_replicate]at d;split at d<;>cases d
  have I:vs[i]? = some v:=by
   unfold jD at d;rw[List.getElem?_append_left (by simpa using o),ax]at d;cases e:vs[i]? with
   |none=>rw[e]at d;cases d
   |some a=>rw[e]at d;cases d;rfl
  obtain⟨u,B,F⟩:=r.get I;have m:ps[i]? = some y:=by rw[<-S.pre,List.getElem?_take_of_lt (by omega)];exact t
  have n:ps.Nodup:=by rw[<-S.pre];exact S.nd.sublist (List.take_sublist _ _)
  refine⟨u,F,?_⟩;rcases S.par y (aw m) with k|k
  .exact .inl ⟨k,vG n m B k⟩
  .obtain⟨c,e⟩:=kv k;refine .inr ⟨.inl k,c,e,?_⟩;have q:=x.cell y c e;rw[wa n m B (by show scope.names.lookup y≠_;rw[k];decide)]at q;exact q
 .exact g.hok.fresh (bg (x.above y c (PySem.mem_of_lookup h)))
 .unfold jD;show _=N.length;rw[aU,ay,List.length_replicate];omega
theorem LJ{K:W.Frag}{Z kV B R c Y oc:Vq}(lk:K.lookup f=some ⟨oc,od,.func (W.fnOf name qual params body scope Z kV B R an c Y),osl⟩)(F:W.codeIn K c qual=true)(S:gq N ps scope)
  (m:∀vs H Q E,sp vs H Q E->vs.length=ps.length)
  (i:∀A a s H vs Q E,gB k (A.deeper (envOfC qual scope s.heap.objs.size f c))->sp vs H Q E->
   ∃t,yF (lK CX P w K mg base N qual scope f c A a s H E) body t/\t {nx:=λ_ g=>Q .non g,rt:=Q} (jD N vs) H) :
  lA P w K mg base CX (k+1) f (W.fnOf name qual params body scope Z kV B R an c Y) ps sp:=by
 refine⟨m,λA a s H X us vs Q E hr p hb r l=>?_⟩;have hl:=m _ _ _ _ l;have KX:=p.mod.kin.keeps λb o e=>(p.bs b o e).1;have D:=p.mod.nolimit.keeps λb o e=>(p.bs b o e).1;have h:∀y∈ps.zip us,scope.names.lookup y.1=some .local\/(scope.names.lookup y.1=some .cell/\((cellsFrom (s.heap.objs.size+1) scope.names []).lookup y.1).isSome=true):=λ⟨n,v⟩ hy=>by
  rcases S.par n (aX hy).1 with q|q
  .exact .inl q
  .exact .inr ⟨q,W.cellsFrom_some _ _ _ (.inl q)⟩
 refine codeAny_call_function hr.depth (KX _ _ lk) rfl S.co S.gen rfl (W.codeRec_of KX F) (hb _ _ _ _ ?_);refine wpAny_newFunctionEnv_cells S.kind h λenv he U x=>?_;subst he;refine⟨D.keeps x.toInCall.keep,codeAny_func ?_⟩;obtain⟨t,ht,hq⟩:=i A a s H vs Q E (hr.deeper _) l;have I:fB (lK CX P w K mg base N qual scope f c A a s H E) [] (jD N vs) H U:=wz S hr.hd p hl r x;refine wpAny_mono (ht [] U (jD N vs) H _ I hq) (λfl C j=>?_) λe C j=>j;have z:∀{d:St} {g:Hp} {v:V} {u:Vq},fB (lK CX P w K mg base N qual scope f c A a s H E) [] d g C->gh v u->Q v g->CE a P w H s Q u C:=λ{d g v u} J L q=>⟨v,g,J.os,J.bare,J.base,J.hok,L,q⟩
 cases fl with
 |ret u=>obtain⟨v,d,g,J,L,q⟩:=j;exact z J L q
 |next=>obtain⟨d,g,J,q⟩:=j;exact z (v:=V.non) J rfl q
 |brk=>obtain⟨_,_,_,q⟩:=j;exact False.elim q
 |cont=>obtain⟨_,_,_,q⟩:=j;exact False.elim q
end L2
namespace L2
open PySem PySem.Spec PyProof.Rows
section
variable {X:Cx}{x:Str}{p pos:Pos}{e:Expr}{es:List Expr}{t:TA}{id T:String}{r:List V->Hp->VK->Prop}
def IU(r:List V->Hp->VK->Prop)(t:TA):TE:=λa H Q=>t a H λb c=>r b c Q
def za(l:jA X (.builtin id) r)(m:Gl X x)(f:X.mg x=none)(g:bootBuiltins x=some (.builtin id))(i:PA X (e::es) t)(k:x≠ "__name__" :=by decide)(a:(x==("__debug__" : Str))=false:=by decide)
  (j:starEach (e::es) X.env=(false,eval e X.env)::starEach es X.env:=by rfl) (b:(backTo pos (starEach es X.env)).any (·.1)=false:=by rfl):PE X (.Call (.Name x p) (e::es) [] pos) (IU r t):=by
 intro c s d H Q I h;refine wpAny_Call_Name_kw (nZ I m f g ?_ k a);exact PyProof.Rows.callWith_builtin1 (iG (i pos c s d H _ I h) λus s1 ⟨vs,H1,I1,r1,q1⟩=>l c s1 d H1 vs us Q I1 r1 q1) j b
def rB(l:jA X (.type T) r)(m:Gl X x)(f:X.mg x=none)(g:bootBuiltins x=some (.type T))(i:PA X (e::es) t)(k:x≠ "__name__" :=by decide)(a:(x==("__debug__" : Str))=false:=by decide)
  (j:starEach (e::es) X.env=(false,eval e X.env)::starEach es X.env:=by rfl) (b:(backTo pos (starEach es X.env)).any (·.1)=false:=by rfl):PE X (.Call (.Name x p) (e::es) [] pos) (IU r t):=by
 intro c s d H Q I h;refine wpAny_Call_Name_kw (nZ I m f g ?_ k a);exact PyProof.Rows.callWith_type1 (iG (i pos c s d H _ I h) λus s1 ⟨vs,H1,I1,r1,q1⟩=>l c s1 d H1 vs us Q I1 r1 q1) j b
end
end L2
namespace HT
open PySem PyProof.Rows
section
variable {prog:Program}{w:World}{A:Around}{E:Vq->Shared->Prop}{s:Sq}
def cat_tup(u:IsTup s.heap t vs.toArray)(v:IsTup s.heap b ws.toArray)(l:vs≠[])
  (r:ws=[]->Q (.ref t) s) (x:ws≠[]->Q (.ref s.heap.objs.size) {s with heap:=s.heap.push {cls:=.type "tuple",data:=.seq (vs++ws).toArray}})
  (hsz:vs.length+ws.length<=sizeLine):wpAny (model prog w) A (binaryOp .Add (.ref t) (.ref b)) Q E s:=by
 obtain⟨⟨cls,k,data,m⟩,h,j,n,q⟩:=id u;obtain⟨⟨p,c,i,d⟩,a,f,o,g⟩:=id v;simp only at j q f g;subst j q f g;have e:vs.toArray++ws.toArray=(vs++ws).toArray:=by simp
 by_cases hw:ws=[]
 .exact concat_meets ⟨_,h,rfl⟩ ⟨_,a,rfl⟩ noFill_tuple_add seq_tuple_add PySem.F.slot_tuple_add PySem.F.entry_tuple_add (PySem.F.args_tuple_add_2 _ _)
   (tuple_addW1 t b vs.toArray ws.toArray n o k c m d (by simpa using l) (by simp[hw])) ⟨h,a,r hw⟩
 .refine concat_meets ⟨_,h,rfl⟩ ⟨_,a,rfl⟩ noFill_tuple_add seq_tuple_add PySem.F.slot_tuple_add PySem.F.entry_tuple_add (PySem.F.args_tuple_add_2 _ _)
   (tuple_addW2 t b vs.toArray ws.toArray n o k c m d (by simpa using l) (by simpa using hw) (by rw[bA,bA];exact hsz)) ⟨h,a,?_⟩
  rw[e];exact x hw
noncomputable def sIx(n d:Nat):Option Int->Nat
 |none=>d
 |some v=>if v<0 then (v+(n:Int)).toNat else min v.toNat n
def sIx_none n d:sIx n d none=d:=rfl
def sIx_nat(n d k:Nat):sIx n d (some (k:Int))=min k n:=by show (if k<0 then (k+(n:Int)).toNat else min (k:Int).toNat n)=min k n;rw[aS (by omega),bL]
def CQ v (n d:Nat):(if v<0 then max (v+(n:Int)) 0 else min v (n:Int))=((sIx n d (some v):Nat):Int):=by
 show (if v<0 then max (v+n) 0 else min v n)=(((if v<0 then (v+n).toNat else min v.toNat n):Nat):Int);by_cases a:v<0
 .simp only[aR a];omega
 .simp only[aS a];omega
def BP lo a (n:Nat):Builtin.Slice.sliceAdjust lo a 1 (n:Int)=(((sIx n 0 lo:Nat):Int),((sIx n n a:Nat):Int)):=by
 have b:¬(1<0):=by omega
 unfold Builtin.Slice.sliceAdjust;simp only[b,if_false];refine Prod.ext ?_ ?_
 .cases lo with
  |none=>rfl
  |some v=>exact CQ v n 0
 .cases a with
  |none=>rfl
  |some v=>exact CQ v n n
def BR(i j:Nat):Builtin.Slice.slicePlaces (i:Int) (j:Int) 1=j-i:=by
 unfold Builtin.Slice.slicePlaces;have a:1>0:=by omega
 simp only[a,if_true,Int.ediv_one];split<;>omega
def tO(p:IsPart v o)(h:Q o s):wpAny (model prog w) A (Builtin.Slice.slicePartIndex v) Q E s:=by
 cases p with
 |none=>exact slicePart_none h
 |int i t=>exact slicePart_int h
def mJ{a d:Option Int}{n:Nat}(f:s.heap.IsSliceOf sl vl vu .none)(g:IsPart vl a)(i:IsPart vu d)
  (h:Q (((sIx n 0 a:Nat):Int),1,sIx n n d-sIx n 0 a) s):wpAny (model prog w) A (Builtin.Slice.sliceApplied (.ref sl) (pure (n:Int))) Q E s:=by
 obtain⟨j,c,e,b⟩:=id f;unfold Builtin.Slice.sliceApplied Builtin.Slice.sliceFields;refine aq (aq (wpAny_field c b rfl (aq (wpAny_field c b rfl (aq (wpAny_field c b rfl (ao ?_)))))));refine aq (slicePart_none ?_);rw[aS (by decide)];refine aq (tO g (aq (tO i (aq (ao ?_)))));show wpAny _ _ (match Builtin.Slice.sliceAdjust a d 1 n with|(a,d)=>pure (a,(1:Int),Builtin.Slice.slicePlaces a d 1)) _ _ s;rw[BP a d n];show wpAny _ _ (pure (((sIx n 0 a):Int),1,Builtin.Slice.slicePlaces ((sIx n 0 a):Int) ((sIx n n d):Int) 1)) _ _ s;rw[BR];exact ao h
def GO(a:Array Vq)(i k:Nat):((List.range k).filterMap λ(m:Nat)=>a[((i:Int)+(m:Int)*1).toNat]?).toArray=((a.toList.drop i).take k).toArray:=by
 have e:(λ(m:Nat)=>a[(i+(m:Int)*1).toNat]?)=λm=>a[i+m]?:=by
  funext m;have:(i+(m:Int)*1).toNat=i+m:=by omega
  rw[this]
 rw[e];have:=pick_run a i k;rw[List.filterMap_map]at this;have b:((λx=>a[x]?) ∘ λx=>i+x)=λm=>a[i+m]?:=rfl;rw[b]at this;rw[this]
theorem getItem_tuple_cut{a b:Option Int}(c:IsTup s.heap t items)(j:s.heap.IsSliceOf sl vl vu .none)(l:IsPart vl a)(n:IsPart vu b)
  (hw:¬(sIx items.size 0 a=0/\sIx items.size items.size b=items.size))
  (h:Q (.ref s.heap.objs.size) {s with heap:=s.heap.push {cls:=.type "tuple",data:=.seq ((items.toList.drop (sIx items.size 0 a)).take (sIx items.size items.size b-sIx items.size 0 a)).toArray}})
  (hsz:items.size<=sizeLine):wpAny (model prog w) A (getItem (.ref t) (.ref sl)) Q E s:=by
 have d:sizeOk (.seq ((items.toList.drop (sIx items.size 0 a)).take (sIx items.size items.size b-sIx items.size 0 a)).toArray):=by show ((items.toList.drop (sIx items.size 0 a)).take (sIx items.size items.size b-sIx items.size 0 a)).toArray.size<=sizeLine;rw[bA,bK,bM,br];omega
 obtain⟨m,e,f,k⟩:=id j;have i:s.TypeIs (.ref sl) "slice" :=⟨m,e,f⟩;unfold getItem;try with_reducible refine wpAny_holding ?_;first|refine aq (ao ?_)|skip
 refine aq (wpAny_sequenceKey c.typeIs (by decide) ?_);refine aq (wpAny_callSpecial?_slot c.typeIs PyProof.Rows.slot_tuple_getitem
  (wpAny_call_entry PyProof.Rows.slot_tuple_getitem c.typeIs entry_tuple_getitem ?_ (args_tuple_getitem _ _)))
 show wpAny _ _ (Builtin.Tuple.tupleItemsOf (.ref t) >>= _) _ _ s;refine aq (tupleItemsOf_ c ?_);refine aq (wpAny_typeOf i ?_);rw[aR (by decide)];refine aq (mJ j l n ?_);have g:¬((((sIx items.size 0 a):Int)==0&&(1:Int)==1&&(sIx items.size items.size b-sIx items.size 0 a)==items.size)=true):=by intro q;rw[bN,bN]at q;have p:=eq_of_beq q.1.1;have o:=eq_of_beq q.2;exact hw ⟨by omega,by omega⟩
 show wpAny _ _ (if (((sIx items.size 0 a):Int)==0&&1==1&&(sIx items.size items.size b-sIx items.size 0 a)==items.size)=true then _ else _) _ _ s;rw[aS g,GO];first
  |exact aq (wpAny_newObj_type (ao ⟨_,rfl,ao h⟩) d)
  |exact aq (wpAny_newObj_type (aq (ao (ao ⟨_,rfl,ao h⟩))) d)
  |exact aq (aq (wpAny_newObj_type (ao (ao ⟨_,rfl,ao h⟩)) d))
  |exact aq (aq (wpAny_newObj_type (ao ⟨_,rfl,ao h⟩) d))
end
end HT
namespace L2
open PySem PySem.Spec PyProof.Rows
abbrev TO:=St->Hp->(Option Int->Hp->Prop)->Prop
def PO(X:Cx)(e:Option Expr)(t:TO):Prop:=
 ∀(b:List (Addr×Obj)) (s:Sq) (a:St) (H:Hp) (Q:Option Int->Hp->Prop),fB X b a H s->t a H Q->
  wpAny (model X.prog X.w) X.A (evalPart e X.env) (λu d=>∃o c,fB X b a c d/\IsPart u o/\Q o c) X.xe s
def Cc:TO:=λ_ H Q=>Q none H
def LH(t:TE):TO:=λa H Q=>t a H λx b=>∃i,x=.int i/\Q (some i) b
section
variable {X:Cx}{e:Expr}{te:TE}{lo hi:Option Expr}{tl th:TO}{pos p2:Pos}
def Kp:PO X none Cc:=by intro a s b H Q I h;rw[evalPart_none];exact ao ⟨none,H,I,.none,h⟩
def JM(h:PE X e te):PO X (some e) (LH te):=by intro a s b H Q I hw;rw[evalPart_some];refine iG (h a s b H _ I hw) λu s1 ⟨x,H1,I1,r1,q1⟩=>?_;obtain⟨i,rfl,q⟩:=q1;obtain⟨t,rfl⟩:=r1;exact⟨some i,H1,I1,.int i t,q⟩
def LG(X:Cx)(r:V->Option Int->Option Int->Hp->VK->Prop):Prop:=
 ∀(a:List (Addr×Obj)) (s:Sq) (c:St) (H:Hp) (x:V) (v d f:Vq) (lo hi:Option Int) (b:Addr) (Q:VK),fB X a c H s->gh x v->s.heap.IsSliceOf b d f .none->IsPart d lo->IsPart f hi->r x lo hi H Q->
  ∃T id,typeLookup (.type T) "__getitem__" = pure (some (.builtin id))/\s.TypeIs v T/\wpAny (model X.prog X.w) X.A (getItem v (.ref b)) (EP X a c Q) X.xe s
def LG.or(h:LG X r)(h':LG X r'):LG X (λx lo hi H Q=>r x lo hi H Q\/r' x lo hi H Q):=by
 intro a s f H x v j k lo hi c Q I g d b i q;rcases q with q|q
 .exact h a s f H x v j k lo hi c Q I g d b i q
 .exact h' a s f H x v j k lo hi c Q I g d b i q
def Rk(r:V->Option Int->Option Int->Hp->VK->Prop)(te:TE)(tl th:TO):TE:=λa H Q=>te a H λx d=>tl a d λl b=>th a b λu c=>r x l u c Q
def Gx(hr:LG X r)(f:PE X e te)(m:PO X lo tl)(d:PO X hi th):PE X (.Subscript e (.Slice lo hi none p2) pos) (Rk r te tl th):=by intro a s c H Q I h;refine Subscript_ (iG (f a s c H _ I h) λv s1 ⟨x,H1,I1,r1,q1⟩=>?_);refine wpAny_Slice (iG (m a s1 c H1 _ I1 q1) λvl s2 ⟨l,H2,I2,pl,q2⟩=>iG (d a s2 c H2 _ I2 q2) λvu s3 ⟨u,H3,I3,pu,q3⟩=>?_);rw[evalPart_none];refine ao ?_;have g:fB X a c H3 {s3 with heap:=s3.heap.push {cls:=.type "slice",data:=.fields #[vl,vu,.none]}}:=I3.kept λb n q=>ae _ q;obtain⟨T,id,k,i,j⟩:=hr a {s3 with heap:=s3.heap.push {cls:=.type "slice",data:=.fields #[vl,vu,.none]}} c H3 x v vl vu l u s3.heap.objs.size Q g r1 (Heap.IsSliceOf.new ..) pl pu q3;exact tail_any i k j (by with_unfolding_all rfl)
noncomputable def IF(a:List V)(lo hi:Option Int):List V:=(a.drop (HT.sIx a.length 0 lo)).take (HT.sIx a.length a.length hi-HT.sIx a.length 0 lo)
def sd xs lo hi:(IF xs lo hi).length<=xs.length:=by unfold IF;rw[bK,bM];omega
def OS(K:W.Frag):V->Option Int->Option Int->Hp->VK->Prop:=λx lo hi H Q=>∃a b,x=.ref a/\kP K H a b/\
 ¬(HT.sIx b.length 0 lo=0/\HT.sIx b.length b.length hi=b.length)/\∀p,H p=none->Q (.ref p) (gy H p (.tup (IF b lo hi)))
def NG:LG X (OS X.K):=by
 intro o s u H x v w y lo hi t Q I m l k n h;obtain⟨a,c,rfl,j,hw,q⟩:=h;cases m;obtain⟨f,r,g,i⟩:=I.tuple j;have d:f.toArray.size=c.length:=by rw[bA];exact r.length.symm
 refine⟨"tuple",_,PyProof.Rows.slot_tuple_getitem.lookup,g.typeIs,?_⟩;refine HT.getItem_tuple_cut g l k n (by rw[d];exact hw) ?_ (by rw[d];exact i);rw[d];refine⟨.ref s.heap.objs.size,_,I.laid (λb p q=>ae _ q) (aL _) ?_,rfl,q _ (I.hok.fresh (aL _))⟩;exact⟨aO (sd c lo hi) i,_,(r.drop (HT.sIx c.length 0 lo)).take (HT.sIx c.length c.length hi-HT.sIx c.length 0 lo),xP.new _ _⟩
def Qe(K:W.Frag):R2:=λx y H Q=>∃a b d c,x=.ref a/\y=.ref b/\kP K H a d/\kP K H b c/\d≠[]/\d.length+c.length<=sizeLine/\
 (c=[]->Q (.ref a) H)/\(c≠[]->∀p,H p=none->Q (.ref p) (gy H p (.tup (d++c))))
def fP.nil_iff(r:fP xs us):us=[]↔xs=[]:=by
 cases r with
 |nil=>simp
 |cons _ _=>simp
def Le:nL X (binaryOp .Add) (Qe X.K):=by intro t s C H x y v u Q I m k h;obtain⟨a,b,D,B,rfl,rfl,o,p,i,f,r,l⟩:=h;cases m;cases k;obtain⟨n,d,j,_⟩:=I.tuple o;obtain⟨g,c,p2,_⟩:=I.tuple p;refine HT.cat_tup j p2 (λz=>i (d.nil_iff.mp z)) (λz=>⟨.ref a,H,I,rfl,r (c.nil_iff.mp z)⟩) (λz=>?_) (by rw[<-d.length,<-c.length];exact f);refine⟨.ref s.heap.objs.size,_,I.laid (λb A q=>ae _ q) (aL _) ?_,rfl,l (λw=>z (c.nil_iff.mpr w)) _ (I.hok.fresh (aL _))⟩;exact⟨by rw[aU];exact f,_,d.append c,xP.new _ _⟩
end
end L2
namespace L2
open PySem PySem.Spec PyProof.Rows
noncomputable def xF(n:Nat)(i:Int):Option Nat:=if 0<=i then (if i<n then some i.toNat else none) else if -(n:Int)<=i then some (i+n).toNat else none
noncomputable def pW{b:Type}(a:List b)(i:Int):Option b:=(xF a.length i).bind λj=>a[j]?
def B3(h:xF n i=some j):seqIndex? i n=some j/\j<n/\-(n:Int)<=i/\i<n:=by
 unfold xF at h;by_cases b:0<=i
 .rw[aR b]at h;by_cases a:i<n
  .rw[aR a]at h;have e:=Option.some.inj h;exact⟨by rw[seqIndex_of b a,e],by omega,by omega,a⟩
  .rw[aS a]at h;cases h
 .rw[aS b]at h;by_cases a:-n<=i
  .rw[aR a]at h;have e:=Option.some.inj h;exact⟨by rw[seqIndex_neg (by omega) a,e],by omega,a,by omega⟩
  .rw[aS a]at h;cases h
def xK{a:List α}{v:α}(h:pW a i=some v):∃j,seqIndex? i a.length=some j/\a[j]? = some v/\j<a.length/\-(a.length:Int)<=i/\i<a.length:=by
 unfold pW at h;cases e:xF a.length i with
 |none=>rw[e]at h;cases h
 |some j=>rw[e]at h;obtain⟨b,d,f,c⟩:=B3 e;exact⟨j,b,h,d,f,c⟩
def w6{a:List α}{j:Nat}{v:α}(h:a[j]? = some v):pW a (j:Int)=some v:=by
 have b:=(aa.mp h).1;have e:xF a.length j=some j:=by unfold xF;rw[aR (by omega),aR (by omega)];simp
 unfold pW;rw[e];exact h
def G5 xs (v:α):pW (xs++[v]) (-1)=some v:=by
 have a:(xs++[v]).length=xs.length+1:=by simp
 have e:xF (xs++[v]).length (-1)=some xs.length:=by unfold xF;rw[a,aS (by decide),aR (by omega)];congr 1;omega
 unfold pW;rw[e];simp
def B0(b:Expr):Prop:=∀o i,subscripted b false o i=operate [o,i] (getItem o i)
def Kd(X:Cx)(r:R2):Prop:=
 ∀(b a:Expr) (c:List (Addr×Obj)) (s:Sq) (d:St) (H:Hp) (x y:V) (v u:Vq) (Q:VK),fB X c d H s->gh x v->gh y u->r x y H Q->
  subscripted a false v u=operate [v,u] (getItem v u)->wpAny (model X.prog X.w) X.A (subscriptTail b a v u) (EP X c d Q) X.xe s
def RI(X:Cx)(id:String)(r:V->List V->Hp->VK->Prop):Prop:=
 ∀(a:List (Addr×Obj)) (s:Sq) (c:St) (H:Hp) (x:V) (b:List V) (v:Vq) (d:List Vq) (Q:VK),fB X a c H s->gh x v->fP b d->r x b H Q->
  wpAny (model X.prog X.w) X.A (call (.builtin id) (v::d)) (EP X a c Q) X.xe s
section
variable {X:Cx}{a b:Expr}{ta tb:TE}{pos:Pos}
def Kd.or(h:Kd X r)(h':Kd X r'):Kd X (λx y H Q=>r x y H Q\/r' x y H Q):=by
 intro c d e s g H x y v u Q I i j q f;rcases q with q|q
 .exact h c d e s g H x y v u Q I i j q f
 .exact h' c d e s g H x y v u Q I i j q f
def Gb(hr:Kd X r)(j:PE X a ta)(k:PE X b tb)(f:B0 b):PE X (.Subscript a b pos) (sT r ta tb):=by intro c s g H Q I h;exact Subscript_ (Of j k I h λv u l x y e m i d q=>hr a b c l g e x y v u Q m i d q (f _ _))
def Pn(K:W.Frag):R2:=λx y H Q=>∃p c i v,x=.ref p/\y=.int i/\jQ K H p c/\pW c i=some v/\Q v H
def Pp(K:W.Frag):R2:=λx y H Q=>∃p c i v,x=.ref p/\y=.int i/\kP K H p c/\pW c i=some v/\Q v H
def P8:R2:=λx y H Q=>∃z i c,x=.str z/\y=.int i/\z.length<=sizeLine/\pW z.cps.toList i=some c/\Q (.str ⟨#[c]⟩) H
def qB:Kd X (Pn X.K):=by
 intro l g B s J H x y v u Q I L D h A;obtain⟨p,Y,i,z,rfl,rfl,N,E,q⟩:=h;cases L;obtain⟨t,rfl⟩:=D;obtain⟨k,r,e,U⟩:=I.list N;obtain⟨j,d,P,Z,F,C⟩:=xK E;obtain⟨w,o,f⟩:=r.get P;have R:=r.length;have S:=wY;have c:EP X B J Q w s:=⟨z,H,I,f,q⟩;by_cases n:0<=i
 .have m:i.toNat=j:=by rw[seqIndex_of n C]at d;exact Option.some.inj d
  exact item_listR e.isList n (by omega) (by rw[m];simpa using o) c A
 .have m:(i+k.toArray.size).toNat=j:=by rw[seqIndex_neg (by omega) F]at d;rw[bA,<-R];exact Option.some.inj d
  exact subscriptTail_builtinR e.isList.typeIs slot_list_getitem.lookup
   (wpAny_getItem_list_neg e.isList (by omega) (by rw[bA]<;>omega) (by omega) (by rw[m];simpa using o) ⟨rfl,c⟩) A
def jH:Kd X (Pp X.K):=by
 intro e d k s B H x y v u Q I C l h A;obtain⟨p,S,i,z,rfl,rfl,E,n,q⟩:=h;cases C;obtain⟨t,rfl⟩:=l;obtain⟨D,r,g,R⟩:=I.tuple E;obtain⟨j,o,F,U,N,L⟩:=xK n;obtain⟨w,m,c⟩:=r.get F;have J:=r.length;have P:=wY;have f:EP X k B Q w s:=⟨z,H,I,c,q⟩;exact subscriptTail_builtinR g.typeIs slot_tuple_getitem.lookup
  (getItem_tuple g (by omega) (by omega) (by rw[bA,<-J];exact o) (by simpa using m) ⟨rfl,f⟩) A
def Mp:Kd X P8:=by
 intro e d B s D H x y v u Q I p l h o;obtain⟨z,i,c,rfl,rfl,E,m,q⟩:=h;obtain⟨t,rfl⟩:=p;obtain⟨F,rfl⟩:=l;obtain⟨j,f,w,J,n,k⟩:=xK m;have A:z.cps.toList.length=z.length:=by simp[Str.length]
 rw[A]at f n k;have C:=wY;exact tail_any (typeIs_str s z t) slot_str_getitem.lookup (getItem_str (by have g:decide (i < -(2 ^ 63))=false:=aC (by omega);have r:decide (i >= 2 ^ 63)=false:=aC (by omega);rw[g,r,Bool.or_false]) (by rw[f];simpa using w) ⟨.str ⟨#[c]⟩,H,I.tok _,⟨_,rfl⟩,q⟩) o
def QL(K:W.Frag):R2:=λx y H Q=>Pn K x y H Q\/Pp K x y H Q\/P8 x y H Q
def ML:Kd X (QL X.K):=qB.or (jH.or Mp)
def Ay(its:List Vq) n j u:Obj.mapSeq (·.setIfInBounds j u) {cls:=.type "list",data:=.seq its.toArray n}={cls:=.type "list",data:=.seq (its.set j u).toArray n}:=by simp[Obj.mapSeq]
def fB.lst(I:fB X eO σ H s)(h:H p=some (.lst xs)) :
  ∃its n,fP xs its/\s.heap.get? p=some {cls:=.type "list",data:=.seq its.toArray n}/\xs.length<=sizeLine:=by
 obtain⟨z,its,n,r,e⟩:=I.hok p _ h;exact⟨its,n,r,e,z⟩
def fB.lstUpd{its its':List Vq}(I:fB X eO σ H s)(h:H p=some (.lst xs))
  (d:s.heap.get? p=some {cls:=.type "list",data:=.seq its.toArray n}) (c:f {cls:=.type "list",data:=.seq its.toArray n}={cls:=.type "list",data:=.seq its'.toArray n'}) (r:fP ys its') (i:ys.length<=sizeLine) t :
  fB X eO σ (gy H p (.lst ys)) {s with heap:=s.heap.update p f,toks:=t}:=by
 have e:(s.heap.update p f).get? p=some {cls:=.type "list",data:=.seq its'.toArray n'}:=by rw[Heap.get?_update_self f d (by rw[c]<;>rfl),c]
 refine I.write (by rw[h];trivial) (.inl rfl) (λb u g q=>(Heap.get?_update_other _ _ (Ne.symm g)).trans q) ⟨_,e⟩ ?_;exact⟨i,its',n',r,e⟩
def Cz:V->V->V->Hp->(Hp->Prop)->Prop:=λo i v H Q=>∃p c k j,o=.ref p/\i=.int k/\H p=some (.lst c)/\xF c.length k=some j/\Q (gy H p (.lst (c.set j v)))
def Hi:Pi X Cz:=by
 intro z s B H o i v L N u Q I J C A h;obtain⟨p,E,k,j,rfl,rfl,l,F,q⟩:=h;cases J;obtain⟨t,rfl⟩:=C;obtain⟨c,n,r,e,D⟩:=I.lst l;obtain⟨d,P,x,w⟩:=B3 F;have g:=r.length;have K:=wY;have y:fB X z B (gy H p (.lst (E.set j v))) {s with heap:=s.heap.update p (Obj.mapSeq (·.setIfInBounds j u))}:=I.lstUpd l e (Ay c n j u) (r.set A j) (by rw[bO];exact D) s.toks
 by_cases m:0<=k
 .have f:k.toNat=j:=by rw[seqIndex_of m w]at d;exact Option.some.inj d
  exact W.ki_setAt e m (by omega) (by rw[bA,<-g];exact w) (by rw[f];exact⟨_,y,q⟩)
 .have f:(k+c.toArray.size).toNat=j:=by rw[seqIndex_neg (by omega) x]at d;rw[bA,<-g];exact Option.some.inj d
  exact W.ki_setBack e (by omega) (by rw[bA,<-g];exact x) (by omega) (by rw[f];exact⟨_,y,q⟩)
def xA lo hi n:(sliceBounds lo hi none n).1=((HT.sIx n 0 lo:Nat):Int)/\(sliceBounds lo hi none n).2.1=((HT.sIx n n hi:Nat):Int)/\(sliceBounds lo hi none n).2.2=1:=by
 refine⟨?_,?_,rfl⟩
 .cases lo with
  |none=>simp[sliceBounds,HT.sIx]
  |some i=>
   simp only[sliceBounds,HT.sIx,Option.getD_none,show 1>0 by decide,if_true];by_cases h:i<0
   .simp only[h,if_true]<;>omega
   .simp only[h,if_false]<;>omega
 .cases hi with
  |none=>simp[sliceBounds,HT.sIx]
  |some i=>
   simp only[sliceBounds,HT.sIx,Option.getD_none,show 1>0 by decide,if_true];by_cases h:i<0
   .simp only[h,if_true]<;>omega
   .simp only[h,if_false]<;>omega
def uU(its:List Vq) lo hi:slicePick its.toArray lo hi none=((its.drop (HT.sIx its.length 0 lo)).take (HT.sIx its.length its.length hi-HT.sIx its.length 0 lo)).toArray:=by obtain⟨c,e,d⟩:=xA lo hi its.toArray.size;unfold slicePick;rw[c,e,d];simp only[sliceRange_one,pick_run,bA]<;>rfl
def Qb(K:W.Frag):V->Option Int->Option Int->Hp->VK->Prop:=λx d e H Q=>∃a c,x=.ref a/\jQ K H a c/\∀p,H p=none->Q (.ref p) (gy H p (.lst (IF c d e)))
def JO:LG X (Qb X.K):=by intro p s w H x v y z d e u Q I l j i o h;obtain⟨a,c,rfl,g,q⟩:=h;cases l;obtain⟨m,r,f,n⟩:=I.list g;have k:=r.length;refine⟨"list",_,slot_list_getitem.lookup,f.isList.typeIs,?_⟩;refine wpAny_getItem_list_slice f.isList j i o .none (by simp) ?_ (by rw[bA]<;>omega);rw[uU,<-k];refine⟨.ref s.heap.objs.size,_,I.laid (λb t q=>ae _ q) (aL _) ?_,rfl,q _ (I.hok.fresh (aL _))⟩;exact⟨aO (sd c d e) n,_,0,(r.drop (HT.sIx c.length 0 d)).take (HT.sIx c.length c.length e-HT.sIx c.length 0 d),au _ rfl⟩
noncomputable def j4:V->Bool
 |.non=>true
 |.bl _=>true
 |.int _=>true
 |.str _=>true
 |_=>false
noncomputable def IW:V->V->Bool
 |.non,.non=>true
 |.bl a,.bl b=>a==b
 |.bl a,.int b=>(if a then 1 else 0)==b
 |.int a,.bl b=>a==(if b then 1 else 0)
 |.int a,.int b=>a==b
 |.str a,.str b=>a==b
 |_,_=>false
def NV(f:gh y u)(c:gh x v)(g:j4 y=true)(e:j4 x=true):SeqAt.EqAt A s u v (IW y x):=by
 cases y with
 |non=>
  cases f;cases x with
  |non=>cases c;exact SeqAt.EqAt.same _
  |bl b=>cases c;exact SeqAt.EqAt.none_bool b
  |int b=>obtain⟨t,rfl⟩:=c;exact SeqAt.EqAt.none_int b t
  |str b=>obtain⟨t,rfl⟩:=c;exact SeqAt.EqAt.none_str b t
  |_=>exact absurd (e) aI
 |bl a=>
  cases f;cases x with
  |non=>cases c;exact SeqAt.EqAt.bool_none a
  |bl b=>cases c;exact SeqAt.EqAt.bool_bool a b
  |int b=>obtain⟨t,rfl⟩:=c;exact SeqAt.EqAt.bool_int a b t
  |str b=>obtain⟨t,rfl⟩:=c;exact SeqAt.EqAt.bool_str a b t
  |_=>exact absurd (e) aI
 |int a=>
  obtain⟨d,rfl⟩:=f;cases x with
  |non=>cases c;exact SeqAt.EqAt.int_none a d
  |bl b=>cases c;exact SeqAt.EqAt.int_bool a d b
  |int b=>obtain⟨t,rfl⟩:=c;exact SeqAt.EqAt.int_int a d b t
  |str b=>obtain⟨t,rfl⟩:=c;exact SeqAt.EqAt.int_str a d b t
  |_=>exact absurd (e) aI
 |str a=>
  obtain⟨d,rfl⟩:=f;cases x with
  |non=>cases c;exact SeqAt.EqAt.str_none a d
  |bl b=>cases c;exact SeqAt.EqAt.str_bool a d b
  |int b=>obtain⟨t,rfl⟩:=c;exact SeqAt.EqAt.str_int a d b t
  |str b=>obtain⟨t,rfl⟩:=c;exact SeqAt.EqAt.str_str a d b t
  |_=>exact absurd (e) aI
 |_=>exact absurd (g) aI
noncomputable def JX(x:V)(u:Vq):Bool:=match u with
 |.none=>IW .non x
 |.bool b=>IW (.bl b) x
 |.int i _=>IW (.int i) x
 |.str z _=>IW (.str z) x
 |_=>false
def HN(r:gh y u)(f:j4 y=true):JX x u=IW y x:=by
 cases y with
 |non=>cases r;rfl
 |bl b=>cases r;rfl
 |int i=>obtain⟨t,rfl⟩:=r;rfl
 |str z=>obtain⟨t,rfl⟩:=r;rfl
 |_=>exact absurd (f) aI
theorem yA:∀{xs} {us},fP xs us->xs.all j4=true->us.any (JX x)=xs.any λy=>IW y x
 |_,_,.nil,_=>rfl
 |y::xs,u::us,.cons r t,f=>by rw[bP,bN]at f;rw[bQ,bQ,HN r f.1,yA t f.2]
theorem uM(e:gh x v)(d:j4 x=true):∀{xs} {us},fP xs us->xs.all j4=true->∀u∈us,SeqAt.EqAt A s u v (JX x u)
 |_,_,.nil,_=>λu c=>by cases c
 |y::xs,u::us,.cons r t,f=>λg c=>by
  rw[bP,bN]at f;rcases aG.mp c with rfl|c
  .rw[HN r f.1];exact NV r e f.1 d
  .exact uM e d t f.2 g c
noncomputable def Qv(x:V)(c:List V):Bool:=c.any λy=>IW y x
def QD(K:W.Frag)(neg:Bool):R2:=λx y H Q=>∃p c,y=.ref p/\(jQ K H p c\/kP K H p c)/\j4 x=true/\c.all j4=true/\Q (.bl (if neg then !Qv x c else Qv x c)) H
def Du:nL X (compareOp .In) (QD X.K false):=by
 intro k s l H x y v u Q I g i h;obtain⟨p,m,rfl,d,f,fs,q⟩:=h;cases i;rcases d with d|d
 .obtain⟨c,r,e,j⟩:=I.list d;refine SeqAt.in_listAt (JX x) e.isList (λw hw=>uM g f r fs w (by simpa using hw)) ⟨.bl _,H,I,rfl,?_⟩;rw[show c.toArray.any (JX x)=c.any (JX x) by simp,yA r fs];exact q
 .obtain⟨c,r,e,j⟩:=I.tuple d;refine SeqAt.in_tupleAt (JX x) e (λw hw=>uM g f r fs w (by simpa using hw)) ⟨.bl _,H,I,rfl,?_⟩;rw[show c.toArray.any (JX x)=c.any (JX x) by simp,yA r fs];exact q
def yB:jA X (.type "list") (λB H Q=>∃p g,B=[.ref p]/\(jQ X.K H p g\/kP X.K H p g)/\∀l,H l=none->Q (.ref l) (gy H l (.lst g))):=by
 intro C s D H B J Q I r h;obtain⟨p,g,rfl,t,q⟩:=h;obtain⟨u,rfl,F⟩:=qM r;cases F;have m:∀(c:List Vq),fP g c->g.length<=sizeLine->∀(d:Heap) (i:Nat),(∀b A,s.heap.get? b=some A->d.get? b=some A)->
   d.get? s.heap.objs.size=some {cls:=.type "list",dict:=none,data:=.seq c.toArray i,slots:=#[]}->EP X C D Q (.ref s.heap.objs.size) {s with heap:=d}:=λc f k d i j e=>
  ⟨.ref s.heap.objs.size,_,I.laid j (aL _) (show ib X.prog X.w _ d _ (.lst g) from ⟨k,c,i,f,e⟩),rfl,q _ (I.hok.fresh (aL _))⟩
 rcases t with t|t
 .obtain⟨c,f,y,k⟩:=I.list t;have E:=f.length;obtain⟨o,v,x,n,z⟩:=y.isList;exact call_list_seq p (.inl rfl) v x z (λd i j e=>m c f k d i j e) (by simp only[bA]<;>omega)
 .obtain⟨c,f,y,k⟩:=I.tuple t;have E:=f.length;obtain⟨o,v,x,n,z⟩:=y;exact call_list_seq p (.inr rfl) v x z (λd i j e=>m c f k d i j e) (by simp only[bA]<;>omega)
def vm:jA X (.type "tuple") (λn H Q=>∃p d,n=[.ref p]/\((jQ X.K H p d/\∀l,H l=none->Q (.ref l) (gy H l (.tup d)))\/(kP X.K H p d/\Q (.ref p) H))):=by
 intro t s w H n z Q I r h;obtain⟨p,d,rfl,h⟩:=h;obtain⟨u,rfl,x⟩:=qM r;cases x;rcases h with⟨j,q⟩|⟨j,q⟩
 .obtain⟨c,f,g,m⟩:=I.list j;have A:=f.length;refine call_tuple_list g.isList (λi v=>?_) (by simp only[bA]<;>omega);have k:=I.kept (t':=s.toks) v;have y:fB X t w (gy H i.objs.size (.tup d)) {s with heap:=i.push {cls:=.type "tuple",data:=.seq c.toArray}}:=
   k.laid (λb o e=>ae _ e) (aL _) (⟨m,c,f,xP.new _ _⟩)
  exact⟨.ref i.objs.size,_,y,rfl,q _ (k.hok.fresh (aL _))⟩
 .obtain⟨c,f,g,m⟩:=I.tuple j;exact call_tuple_same g ⟨.ref p,H,I,rfl,q⟩
def OQ(K:W.Frag)(T:String)(x:V)(H:Hp):Prop:=match x with
 |.str _=>T = "str"
 |.int _=>T = "int"
 |.ref p=>(T = "list" /\∃d,jQ K H p d)\/(T = "tuple" /\∃o,K.lookup p=some o/\o.cls=.type "tuple" /\o.dict=none)\/
   (T = "dict" /\((∃c,H p=some (.dK c))\/∃c,H p=some (.dT c)))\/(T = "set" /\∃S n,H p=some (.set S n))
 |_=>False
theorem MB{m:List (Addr×Obj)}{u:St}{H:Hp}{s:Sq}{T:String}{x:V}{v:Vq}(I:fB X m u H s)(r:gh x v)(ty:OQ X.K T x H) :
  s.TypeIs v T/\∀a,v=.ref a->∃k,s.heap.get? a=some k/\k.dict=none:=by
 cases x with
 |str z=>obtain⟨t,rfl⟩:=r;cases (ty);exact⟨typeIs_str s z t,λ_ e=>nomatch e⟩
 |int i=>obtain⟨t,rfl⟩:=r;cases (ty);exact⟨typeIs_int s i t,λ_ e=>nomatch e⟩
 |ref p=>
  cases r;rcases ty with⟨rfl,A,y⟩|⟨rfl,o,d,q,j⟩|⟨rfl,d⟩|⟨rfl,S,n,d⟩
  .obtain⟨w,_,l,_⟩:=I.list y;refine⟨l.isList.typeIs,λa e=>?_⟩;cases e;obtain⟨o,n,e,c,j,_⟩:=l;exact⟨o,e,j⟩
  .refine⟨⟨o,I.kIn p o d,q⟩,λa e=>?_⟩;cases e;exact⟨o,I.kIn _ o d,j⟩
  .have z:∃o,s.heap.get? p=some o/\o.ExactDict:=by
    rcases d with⟨g,d⟩|⟨g,d⟩
    .obtain⟨_,_,_,_,o,_,_,e,f,_⟩:=I.hok p _ d;exact⟨o,e,f⟩
    .obtain⟨_,_,_,_,o,_,_,e,f,_⟩:=I.hok p _ d;exact⟨o,e,f⟩
   obtain⟨o,e,f⟩:=z;refine⟨⟨o,e,f.1⟩,λa h=>?_⟩;cases h;exact⟨o,e,f.2.1⟩
  .obtain⟨o,_,_,_,e,f,_⟩:=I.hok p _ d;refine⟨⟨o,e,f.1⟩,λa h=>?_⟩;cases h;exact⟨o,e,f.2.1⟩
 |_=>exact False.elim ty
def QZ(K:W.Frag)(T:String)(r:V->List V->Hp->VK->Prop)(to:TE)(t:TA):TE:=λd H Q=>to d H λx c=>OQ K T x c/\t d c λe f=>r x e f Q
variable {o e:Expr}{es:List Expr}{to:TE}{t:TA}{name:Str}{apos cpos:Pos}{T id:String}{r:V->List V->Hp->VK->Prop}
def FS(w:PlainAttrs T)(f:Slot T name id)(k:typeOf (.builtin id)=pure (.type "method_descriptor"))(p:RI X id r)(m:PE X o to)(u:PA X (e::es) t)
  (c:attributeBase o name X.env (eval o X.env)=eval o X.env:=by rfl)
  (g:((backTo cpos (starEach (e::es) X.env)).all (λx=>!x.1)&&(backToKw cpos (keywordEach [] X.env)).all (λx=>x.1.isSome)
   && decide ((e::es).length+([]:List Keyword).length+(if ([]:List Keyword).isEmpty then 0 else 1)<30))=true:=by rfl)
  (d:(apos.endLine==cpos.line)=true:=by rfl) (q:starEach (e::es) X.env=(false,eval e X.env)::starEach es X.env:=by rfl) (hplain:(backTo cpos (starEach es X.env)).any (·.1)=false:=by rfl) :
  PE X (.Call (.Attribute o name apos) (e::es) [] cpos) (QZ X.K T r to t):=by
 intro i s j H Q I h;refine wpAny_Call_method_late c g d rfl (iG (m i s j H _ I h) λv s1 ⟨x,H1,I1,r1,ty,q1⟩=>?_);obtain⟨n,y⟩:=MB I1 r1 ty;refine⟨T,id,w,f,k,n,y,?_⟩;have l:=u cpos i s1 j H1 _ I1 q1;rw[q]at l ⊢;refine Calls.callWith_builtin (by show (false||(backTo cpos (starEach es X.env)).any (·.1))=false;rw[hplain]<;>rfl) (Calls.evalArgs_plain ?_);exact iG l λus s2 ⟨vs,H2,I2,r2,q2⟩=>p i s2 j H2 x vs v us Q I2 r1 r2 q2
end
end L2
namespace L2
open PySem PySem.Spec PyProof.Rows
def Rl(X:Cx)(id:String)(r:V->List V->Hp->VK->Prop):Prop:=
 ∀(a:List (Addr×Obj)) (s:Sq) (c:St) (H:Hp) (x:V) (b:List V) (v:Vq) (d:List Vq) (Q:VK),fB X a c H s->gh x v->fP b d->r x b H Q->
  wpAny (model X.prog X.w) X.A (call (.builtin id) (v::d)) (EP X a c Q) X.xe s
theorem fP.one:∀{x} {us},fP [x] us->∃u,us=[u]/\gh x u
 |_,_,.cons r .nil=>⟨_,rfl,r⟩
theorem fP.two:∀{x y} {us},fP [x,y] us->∃u v,us=[u,v]/\gh x u/\gh y v
 |_,_,_,.cons r (.cons q .nil)=>⟨_,_,rfl,r,q⟩
theorem fP.rep(h:fP xs us):∀k:Nat,fP (List.replicate k xs).flatten (List.replicate k us).flatten
 |0=>.nil
 |k+1=>by rw[bR,bR,bS,bS];exact fP.append h (fP.rep h k)
theorem wk(its:List Vq):∀k a,
  List.foldl (λb d=>b++d) a.toArray (List.replicate k its.toArray)=(a++(List.replicate k its).flatten).toArray
 |0,a=>by simp
 |k+1,a=>by
  have e:a.toArray++its.toArray=(a++its).toArray:=by simp
  have c:(a++its)++(List.replicate k its).flatten=a++(List.replicate (k+1) its).flatten:=by rw[bR,bS,bT]
  rw[<-c,<-wk its k (a++its),<-e,bR,List.foldl_cons]
section
variable {X:Cx}{eO:List (Addr×Obj)}{σ:St}{H:Hp}{s:Sq}{l b:Addr}{xs ys zs:List V}
def fB.lset{its its':List Vq}(I:fB X eO σ H s)(a:H l=some (.lst xs))
  (e:s.heap.get? l=some {cls:=.type "list",data:=.seq its.toArray n}) (h:f its.toArray=its'.toArray) (c:fP ys its') (i:ys.length<=sizeLine) :
  fB X eO σ (gy H l (.lst ys)) {s with heap:=s.heap.update l (Obj.mapSeq f),toks:=t'}:=by
 have q:=PySem.IsL.update e f;rw[h]at q;refine I.write (by rw[a];exact trivial) (.inl rfl) (λj u d g=>(Heap.get?_update_other s.heap (Obj.mapSeq f) (Ne.symm d)).trans g) ⟨_,q⟩ ?_;exact⟨i,its',_,c,q⟩
def fB.lnew(I:fB X eO σ H s)(a:fP ys its)(c:ys.length<=sizeLine) :
  fB X eO σ (gy H s.heap.objs.size (.lst ys)) {s with heap:=s.heap.push {cls:=.type "list",data:=.seq its.toArray},toks:=t'}:=
 I.laid (λ_ _ q=>ae _ q) (aL _) ⟨c,its,0,a,au _ rfl⟩
def fB.fresh(I:fB X eO σ H s):H s.heap.objs.size=none:=I.hok.fresh (aL _)
def fB.lstM(I:fB X eO σ H s)(a:H l=some (.lst xs)):xs.length<=sizeLine/\∃its n,fP xs its/\xs.length=its.length/\s.heap.get? l=some {cls:=.type "list",data:=.seq its.toArray n}:=by obtain⟨z,its,n,r,e⟩:=I.hok l _ a;exact⟨z,its,n,r,r.length,e⟩
def GG(h:n<=sizeLine):Builtin.List.listTooLong n=false:=by unfold Builtin.List.listTooLong;exact aC (by omega)
end
section
variable {X:Cx}
def xC:V->List V->Hp->VK->Prop:=λx b H Q=>∃l a y,x=.ref l/\b=[y]/\H l=some (.lst a)/\a.length<sizeLine/\Q .non (gy H l (.lst (a++[y])))
def wx:Rl X "list.append" xC:=by intro g s k H x i v j Q I f c h;obtain⟨l,o,y,rfl,rfl,b,m,q⟩:=h;cases f;obtain⟨u,rfl,d⟩:=c.one;obtain⟨z,a,n,r,p,e⟩:=I.lstM b;refine call_meets F.slot_list_append ⟨_,e,rfl⟩ F.entry_list_append (F.args_list_append_2 _ _) (PySem.list_append l a.toArray n u (by rw[bA];omega)) ⟨e,?_⟩;refine⟨.non,_,I.lset b e (by simp) (r.append (.cons d .nil)) ?_,rfl,q⟩;rw[aU,bU];omega
def Nq:R2:=λx y H Q=>∃l b a c,x=.ref l/\y=.ref b/\H l=some (.lst a)/\H b=some (.lst c)/\a.length+c.length<=sizeLine/\∀p,H p=none->Q (.ref p) (gy H p (.lst (a++c)))
def Io:nL X (binaryOp .Add) Nq:=by
 intro p s w H x y v u Q I i f h;obtain⟨l,b,D,B,rfl,rfl,g,o,C,q⟩:=h;cases i;cases f;obtain⟨z,c,n,r,E,e⟩:=I.lstM g;obtain⟨t,a,A,d,k,j⟩:=I.lstM o;refine PySem.P.add_list e j ?_ (by rw[bA,bA];omega);have m:c.toArray++a.toArray=(c++a).toArray:=by simp
 rw[m];exact⟨.ref _,_,I.lnew (r.append d) (by rw[aU];omega),rfl,q _ I.fresh⟩
def PF:R2:=λx y H Q=>∃l k a,x=.ref l/\y=.int k/\H l=some (.lst a)/\-(2 ^ 63)<=k/\k<2 ^ 63/\a.length*k.toNat<=sizeLine/\
 ∀p,H p=none->Q (.ref p) (gy H p (.lst (List.replicate k.toNat a).flatten))
def JB{b:Type}(a:List b) k:(List.replicate k a).flatten.length=k*a.length:=by
 induction k with
 |zero=>simp
 |succ k ih=>rw[bR,bS,aU,ih,bV,Nat.add_comm]
def NW:nL X (binaryOp .Mult) PF:=by
 intro L s N H x y v u Q I E A h;obtain⟨l,k,P,rfl,rfl,B,C,J,o,q⟩:=h;cases E;obtain⟨t,rfl⟩:=A;obtain⟨z,b,n,r,K,e⟩:=I.lstM B;have D:b.toArray.size*k.toNat<=sizeLine:=by rw[bA,<-K];exact o
 have g:¬b.toArray.size*k.toNat>(2 ^ 63-1) / 8:=by
  have:sizeLine<=(2 ^ 63-1) / 8:=by decide
  omega
 have f:¬(!Builtin.List.listFitsIndex k)=true:=by rw[fitsIndex_both C J];exact aI
 have c:¬Builtin.List.listTooLong (b.toArray.size*k.toNat)=true:=by rw[GG D];exact aI
 have d:List.foldl (λj i=>j++i) #[] (List.replicate (if b.toArray.isEmpty=true then 0 else k.toNat) b.toArray)=(List.replicate k.toNat b).flatten.toArray:=by
  have p:∀m:Nat,List.foldl (λj i=>j++i) #[] (List.replicate m b.toArray)=(List.replicate m b).flatten.toArray:=λm=>by have:=wk b m [];rw[List.nil_append]at this;exact this
  rw[p];cases b with
  |nil=>simp
  |cons a r'=>rw[aS (by simp)]
 refine wpAny_binaryOp_repeat_ref (by decide) ⟨_,e,rfl⟩ (λw=>typeIs_int w k t) noFill_list_mul F.fills_int_mul F.slot_int_rmul repeat_list F.slot_int_index.lookup
  (call_meets F.slot_int_rmul (typeIs_int s k t) F.entry_int_rmul (F.args_int_rmul_2 _ _) (int___rmul___int_list k t l b.toArray n)
   ⟨e,rfl,⟨_,e,rfl⟩,call_meets F.slot_list_mul ⟨_,e,rfl⟩ F.entry_list_mul (F.args_list_mul_2 _ _) (AutoListH.list___mul___list_int_3 l b.toArray n k t f g c) ⟨e,?_⟩⟩)
 rw[d];exact⟨.ref _,_,I.lnew (r.rep k.toNat) (by rw[JB,Nat.mul_comm];exact o),rfl,q _ I.fresh⟩
end
end L2
namespace Att
open PySem PySem.W PySem.Calls PyProof.Rows
def sL:∀c vs,WellAll P h vs (c.map WData.int)->IntsAre vs c:=by
 intro c;induction c with
 |nil=>intro vs w;rw[bW]at w;cases w;exact .nil
 |cons n c ih=>
  intro vs w;rw[bC]at w;cases w with
  |cons a b=>cases a;exact .cons _ _ (ih _ b)
theorem script_of{l:OpenLaw}(k:l.most=some n)
  (b:l.row.toRowW.claim.pre args=true) (i:WellAll P h vals args) :
  ∃a vs c,vals=[Value.ref a]/\args=[WData.list (c.map WData.int)]/\h.get? a=some {cls:=.type "list",data:=.seq vs.toArray}/\IntsAre vs c/\c.length<=n:=by
 have g:=(pre_splitW b).1;have j:l.pre.holds [] {args:=args}=true:=(pre_splitW b).2;obtain⟨d,r,rfl,m,s⟩:=hasAllW_cons g;obtain rfl:=hasAllW_nil s;obtain⟨t,rfl,p⟩:=hasW_list m;obtain⟨c,rfl⟩:=items_int p;have o:c.length<=n:=by
  unfold OpenLaw.pre at j;have f:(WTm.not (.lt (.lit (.int n)) (.len (.arg 0)))).holds [] {args:=[.list (c.map .int)]}=true:=by have f:=(holds_andW j).1;rw[k]at f;exact f
  have e:=condW_of f (w_not (w_lt w_lit (w_len_list (w_arg rfl))));rw[ay]at e;refine bX λq=>?_;first
   | (rw[aD q']at e;exact absurd e (by decide))
   | (simp at e;omega)
 cases i with
 |cons w1 w2=>
  cases w2;cases w1 with
  |list ho vD=>exact⟨_,_,c,rfl,rfl,ho,sL c _ vD,o⟩
def post_true(l:OpenLaw) args:l.row.toRowW.claim.post args (.bool true) args=true:=
 postW_of
  (show WShape.has [] (.bool true) .bool=true by first|rfl|decide|simp[WShape.has,WShape.arms,WShape.armsAll])
  (w_eq_bool (w_res rfl) w_lit) rfl
end Att
namespace L2
open PySem PySem.Spec PyProof.Rows
theorem vJ:∀{vs} {ns},IntsAre vs ns->fP (ns.map V.int) vs
 |_,_,.nil=>.nil
 |_,_,.cons n t h=>.cons ⟨t,rfl⟩ (vJ h)
def nV(h:Heap)(H:Hp)(a:List (Addr×Addr)):Heap:=⟨(Gp h H).objs,{ids:=a}⟩
end L2
namespace L2
open PySem PySem.Spec PyProof.Rows
noncomputable def oR(s:Stmt)(j:Nat):Stmt:=match s with
 |.ClassDef _ _ _ body _ _ _ _ _ _ _=>body.getD j (.Pass ⟨0,0,0,0⟩)
 |_=>.Pass ⟨0,0,0,0⟩
noncomputable def iu(s:Stmt):Arguments:=match s with
 |.FunctionDef _ a _ _ _ _ _ _ _ _=>a
 |_=>{posonlyargs:=[],args:=[],vararg:=none,kwonlyargs:=[],kw_defaults:=[],kwarg:=none,defaults:=[]}
noncomputable def fR(s:Stmt):List Stmt:=match s with
 |.FunctionDef _ _ b _ _ _ _ _ _ _=>b
 |_=>[]
noncomputable def eU(s:Stmt):Scope:=match s with
 |.FunctionDef _ _ _ _ _ _ sc _ _ _=>sc
 |_=>{kind:=.function,names:=[],isGenerator:=false,isCoroutine:=false}
abbrev oZ:LK:=λ_ _ _ _ _ _=>False
abbrev E0:XK:=λ_ _ _=>False
def GQ:rH oZ X E0:=λ_ _ _ _ _ _ _ h=>h.elim
structure IT(K:W.Frag)(x qual:Str)(st:Stmt)(f:Addr)(fd:FuncData):Prop where
 ex:∃(oc:Vq) (od:Option Addr) (kV doc pm:Vq) (an:Option Addr) (cdv ct:Vq) (osl:Array (Option Value)),
  fd=W.fnOf x qual (iu st) (fR st) (eU st) .none kV doc pm an cdv ct/\K.lookup f=some ⟨oc,od,.func fd,osl⟩/\W.codeIn K cdv qual=true
 kp:W.keepIn K (.ref f)=true
section
variable {P:Program}{w:World}{K:W.Frag}{mg:Str->Option Value}{base:Heap}
def IT.ok{st:Stmt}(F:IT K x qual st f fd)(S:gq N ps (eU st))(g:∀vs H Q E,sp vs H Q E->vs.length=ps.length)
  (c:∀b A a s H vs Q E,gB k (A.deeper (envOfC qual (eU st) s.heap.objs.size f b))->sp vs H Q E->
   ∃t,yF (lK oZ P w K mg base N qual (eU st) f b A a s H E).nox (fR st) t/\t {nx:=λ_ j=>Q .non j,rt:=Q} (jD N vs) H):lA P w K mg base oZ (k+1) f fd ps sp:=by
 obtain⟨o,u,kV,l,p,n,b,r,i,rfl,m,d⟩:=F.ex;refine LJ m d S g λA a s H vs Q E hr e=>?_;obtain⟨t,h,q⟩:=c b A a s H vs Q E hr e;exact⟨t,h.nox,q⟩
def IT.binds{st:Stmt}(F:IT K x qual st f fd)
  (h:∀(kV b d:Vq) (c:Option Addr) (a e:Vq) (us:List Vq),us.length=ps.length->bindArgs (W.fnOf x qual (iu st) (fR st) (eU st) .none kV b d c a e) ⟨us,[]⟩=pure (ps.zip us)):n5 K fd ps []:=by
 obtain⟨j,l,kV,b,d,c,a,e,g,rfl,k,i⟩:=F.ex;exact .all (h kV b d c a e)
def AU{st:Stmt}{kV b d a e:Vq}(l:K.lookup f=some ⟨oc,od,.func (W.fnOf x qual (iu st) (fR st) (eU st) .none kV b d an a e),osl⟩)
  (c:W.codeIn K a qual=true) (k:W.keepIn K (.ref f)=true):IT K x qual st f (W.fnOf x qual (iu st) (fR st) (eU st) .none kV b d an a e):=⟨⟨oc,od,kV,b,d,an,a,e,osl,rfl,l,c⟩,k⟩
end
section
variable {X:Cx}
def pv i (c:X.N[i]? = some x:=by rfl) (b:OH X.env.scope x:=by first|exact Or.inl rfl|exact Or.inr (Or.inl rfl)|exact Or.inr (Or.inr rfl)) (d:(x==("__debug__" : Str))=false:=by decide)
  (a:(x==("__classdict__" : Str))=false:=by decide):PE X (.Name x pos) (j7 i):=ug c b d a
end
def QP{A B:Prop}(h:B):if false=true then A else B:=by rw[aS aI];exact h
def QX{A B:Prop}(h:A):if true=true then A else B:=by rw[aR rfl];exact h
def EN(o:HO)(x:Option HO):Prop:=match o with
 |.tbl q ps=>∃a,x=some (.tbl q (ps++a))
 |o=>x=some o
def EN.of(h:x=some o):EN o x:=by
 cases o with
 |tbl q ps=>exact⟨#[],by rw[h];simp⟩
 |_=>exact h
def EN.ne(h:EN o x):x≠none:=by
 cases o with
 |tbl q ps=>obtain⟨m,e⟩:=h;rw[e];exact λz=>nomatch z
 |_=>have e:x=some _:=h;rw[e];exact λz=>nomatch z
def fw(H a:Hp):Prop:=∀b o,H b=some o->EN o (a b)
def fw.refl H:fw H H:=λ_ _ h=>.of h
def fw.trans(a:fw H H1)(b:fw H1 H2):fw H H2:=λc o h=>by
 have q:=a c o h;cases o with
 |tbl q ps=>obtain⟨m,e⟩:=q;obtain⟨f,d⟩:=b c _ e;exact⟨m++f,by rw[d,bq]⟩
 |_=>exact b c _ q
def fw.free(e:fw H H')(h:H' l=Option.none):H l=Option.none:=by
 cases q:H l with
 |none=>rfl
 |some o=>exact absurd h (e l o q).ne
def fw.seq{K:W.Frag}(e:fw H H')(h:jQ K H a xs):jQ K H' a xs:=by
 rcases h with (h|⟨o,h⟩)|h
 .exact .inl (.inl (e _ _ h))
 .exact .inl (.inr ⟨o,e _ _ h⟩)
 .exact .inr h
end L2
namespace L2
open PySem PySem.Spec PyProof.Rows
section
variable {P:Program}{w:World}{H:Hp}{h:Heap}{a:Addr}{o:HO}
def oT.track(ok:oT P w H h)(f:H a=none)(new:ib P w (gy H a o) h a o):oT P w (gy H a o) h:=λb u e=>by
 by_cases d:b=a
 .subst d;rw[eW]at e;cases e;exact new
 .rw[fu d]at e;refine (ok b u e).stay (λ_ _ _ q=>q) (λc q=>?_) λc g q=>?_
  .rw[fu (fF q f)];exact q
  .rw[fu (fF q f)];exact q
end
def fB.track(I:fB X eO σ H s)(d:H a=none)(h:a∈X.ex\/X.s₀.heap.objs.size<=a)
  (g:a≠X.env.locals) (i:∀x c,X.env.cells.lookup x=some c->c≠a) (j:∀p∈X.pn++eO,p.1≠a) (new:ib X.prog X.w (gy H a o) s.heap a o):fB X eO σ (gy H a o) s:=by
 have J:=I.step (t':=s.toks) (d':=s.drawn) (ch:=[a])
  (λb f=>by
   have e:b=a:=by simpa using f
   subst e;exact⟨h,g,i,j⟩)
  (λ_ _ _ _ _ e _=>e) (λ_ u _ _ _ e _=>⟨u.slots,e⟩)
  (λb u f _ n=>by rw[fu (by simpa using f)];exact n)
  (λ_ u _ e=>⟨u,e⟩)
  (λb l q=>by rw[fu (fF q d)];exact q)
  (λb u v q=>by rw[fu (fF q d)];exact q)
  (λb _ k q=>⟨#[],by rw[fu (fF q d),q];simp⟩)
  (λ_ q=>q) (I.hok.track d new) I.bare
 exact J
noncomputable def ku(a:Env):List (Str×NameKind)->List (Str×Addr)->List (Str×Addr)
 |[],acc=>acc
 | (n,k)::r,acc=>if k==NameKind.free then (match a.cells.lookup n with
  |some c=>ku a r ((n,c)::acc)
  |none=>ku a r acc) else ku a r acc
def pD(h:∀y∈scope.names,y.2=.free->∃c,env.cells.lookup y.1=some c):closureFor scope env=pure (ku env scope.names []):=by
 have all:∀(l:List (Str×NameKind)) b,(∀y∈l,y.2=.free->∃c,env.cells.lookup y.1=some c)->
   (forIn l b λx m=>(if (x.2==NameKind.free)=true then (do
    let a <-cellOf env x.1
    pure (ForInStep.yield ((x.1,a)::m))) else pure (ForInStep.yield m):Sem _))=pure (ku env l b):=by
  intro l;induction l with
  |nil=>intro b _;rfl
  |cons y r ih=>
   intro b j;obtain⟨n,k⟩:=y;rw[bY];by_cases f:(k==NameKind.free)=true
   .obtain⟨c,o⟩:=j (n,k) bj (by simpa using f);have d:=o;have e:cellOf env n=pure c:=by unfold cellOf;rw[d]
    simp only[f,if_true,e,pure_bind];rw[ih _ λy g=>j y (bp _ g)];show pure (ku env r ((n,c)::b))=pure (if (k==NameKind.free)=true then (match env.cells.lookup n with
     |some c=>ku env r ((n,c)::b)
     |none=>ku env r b) else ku env r b)
    rw[aR f,d]
   .have i:(k==NameKind.free)=false:=by simpa using f
    simp only[i,bZ,if_false,pure_bind];rw[ih _ λy g=>j y (bp _ g)];show pure (ku env r b)=pure (if (k==NameKind.free)=true then (match env.cells.lookup n with
     |some c=>ku env r ((n,c)::b)
     |none=>ku env r b) else ku env r b)
    rw[aS f]
 have:=all scope.names [] h;unfold closureFor;simp only[pure_bind,bind_pure]at this ⊢;exact this
theorem kc:∀{l} {acc},(∀y d,acc.lookup y=some d->env.cells.lookup y=some d)->(ku env l acc).lookup x=some c->env.cells.lookup x=some c
 |[],acc,ha,h=>ha x c h
 | (n,k)::r,acc,ha,h=>by
  unfold ku at h;by_cases b:(k==NameKind.free)=true
  .rw[aR b]at h;cases e:env.cells.lookup n with
   |none=>rw[e]at h;exact kc ha h
   |some d=>
    rw[e]at h;refine kc (λy d' a=>?_) h;rw[b9]at a;cases q:y==n with
    |true=>rw[q]at a;cases a;rw[beq_iff_eq.mp q];exact e
    |false=>rw[q]at a;exact ha y d' a
  .rw[aS b]at h;exact kc ha h
theorem oQ:∀{l} {acc},(∃c,acc.lookup x=some c)->∃c,(ku env l acc).lookup x=some c
 |[],_,h=>h
 | (n,k)::r,acc,h=>by
  unfold ku;by_cases a:(k==NameKind.free)=true
  .rw[aR a];cases e:env.cells.lookup n with
   |none=>exact oQ h
   |some d=>
    refine oQ ?_;rw[b9];cases q:x==n with
    |true=>exact⟨d,rfl⟩
    |false=>exact h
  .rw[aS a];exact oQ h
theorem mF:∀{l} {acc},(x,NameKind.free)∈l->(∃c,env.cells.lookup x=some c)->∃c,(ku env l acc).lookup x=some c
 | (n,k)::r,acc,b,a=>by
  rcases aG.mp b with e|b
  .cases e;obtain⟨c,a⟩:=a;unfold ku;rw[aR (by rfl),a];refine oQ ⟨c,?_⟩;rw[b9,beq_self_eq_true]
  .unfold ku;by_cases f:(k==NameKind.free)=true
   .rw[aR f];cases env.cells.lookup n with
    |none=>exact mF b a
    |some d=>exact mF b a
   .rw[aS f];exact mF b a
def qS(h:(relabel scope env).names.lookup x=some .cell\/(relabel scope env).names.lookup x=some .free):(x,NameKind.free)∈scope.names\/scope.names.lookup x=some .cell:=by
 have all:∀(l:List (Str×NameKind)),∀k,(k=NameKind.cell\/k=NameKind.free)->
   (l.map λ(n,k)=>if (k==NameKind.free&&env.scope.kind==.function&&env.kindOf n==some .cell) then (n,NameKind.cell) else (n,k)).lookup x=some k->(x,NameKind.free)∈l\/l.lookup x=some .cell:=by
  intro l;induction l with
  |nil=>intro k _ h;simp at h
  |cons y r ih=>
   intro k c h;obtain⟨n,b⟩:=y;rw[bC]at h;by_cases a:(b==NameKind.free&&env.scope.kind==.function&&env.kindOf n==some .cell)=true
   .have d:b=.free:=by simp only[bN,beq_iff_eq]at a;exact a.1.1
    simp only[a,if_true]at h;rw[b9]at h;cases q:x==n with
    |true=>rw[d,beq_iff_eq.mp q];exact .inl bj
    |false=>
     rw[q]at h;rcases ih k c h with z|z
     .exact .inl (bp _ z)
     .exact .inr (by rw[b9,q];exact z)
   .simp only[a,bZ,if_false]at h;rw[b9]at h;cases q:x==n with
    |true=>
     rw[q]at h;have e:b=k:=by simpa using h
     rcases c with rfl|rfl
     .exact .inr (by rw[b9,q,e])
     .rw[e,beq_iff_eq.mp q];exact .inl bj
    |false=>
     rw[q]at h;rcases ih k c h with z|z
     .exact .inl (bp _ z)
     .exact .inr (by rw[b9,q];exact z)
 rcases h with h|h
 .exact all scope.names _ (.inl rfl) h
 .exact all scope.names _ (.inr rfl) h
def xR(h:scope.names.lookup x=some .free):(relabel scope env).names.lookup x=some .cell\/(relabel scope env).names.lookup x=some .free:=by
 have all:∀(l:List (Str×NameKind)),l.lookup x=some .free->
   (l.map λ(n,k)=>if (k==NameKind.free&&env.scope.kind==.function&&env.kindOf n==some .cell) then (n,NameKind.cell) else (n,k)).lookup x=some .cell\/
   (l.map λ(n,k)=>if (k==NameKind.free&&env.scope.kind==.function&&env.kindOf n==some .cell) then (n,NameKind.cell) else (n,k)).lookup x=some .free:=by
  intro l;induction l with
  |nil=>intro h;simp at h
  |cons y r ih=>
   intro h;obtain⟨n,k⟩:=y;rw[bC];rw[b9]at h;cases q:x==n with
   |true=>
    rw[q]at h;have b:k=.free:=by simpa using h
    by_cases a:(k==NameKind.free&&env.scope.kind==.function&&env.kindOf n==some .cell)=true
    .refine .inl ?_;simp only[a,if_true];rw[b9,q]
    .refine .inr ?_;simp only[a,bZ,if_false];rw[b9,q,b]
   |false=>
    rw[q]at h;by_cases a:(k==NameKind.free&&env.scope.kind==.function&&env.kindOf n==some .cell)=true
    .simp only[a,if_true];rw[b9,q];exact ih h
    .simp only[a,bZ,if_false];rw[b9,q];exact ih h
 exact all scope.names h
def EC(X:Cx)(b:List Expr)(t:TT):Prop:=
 ∀(d:List (Addr×Obj)) (s:Sq) (a:St) (H:Hp) (Q:Bool->Hp->Prop),fB X d a H s->t a H Q->
  wpAny (model X.prog X.w) X.A (forIn b true λc r=>if r=true then do let ok <-isTrue c X.env (eval c X.env);pure (ForInStep.yield ok) else pure (ForInStep.yield r)) (TP X d a Q) X.xe s
def NH:TT:=λ_ H Q=>Q true H
def KJ:EC X [] NH:=λ_ _ _ H _ I h=>wpAny_tests_nil ⟨H,I,h⟩
def Jp(d:PT X c t):EC X [c] t:=λa s b H Q I h=>wpAny_tests_one (d a s b H Q I h)
theorem lF:∀a k b,(cellsFrom k a b).lookup x=some c->b.lookup x=some c\/(k<=c/\(x,NameKind.cell)∈a)
 |[],_,_,h=>.inl h
 | (n,kd)::r,k,b,h=>by
  unfold cellsFrom at h;split at h
  .rename_i e;rcases lF r _ _ h with q|⟨q,m⟩
   .rw[b9]at q;cases d:x==n with
    |true=>rw[d]at q;cases q;refine .inr ⟨aL _,?_⟩;rw[beq_iff_eq.mp d,beq_iff_eq.mp e];exact bj
    |false=>rw[d]at q;exact .inl q
   .exact .inr ⟨cf q,bp _ m⟩
  .rcases lF r _ _ h with q|⟨q,m⟩
   .exact .inl q
   .exact .inr ⟨q,bp _ m⟩
theorem ki:∀a k b,(x,NameKind.cell)∉a->(cellsFrom k a b).lookup x=b.lookup x
 |[],_,_,_=>rfl
 | (n,kd)::r,k,b,h=>by
  unfold cellsFrom;have hr:(x,NameKind.cell)∉r:=λz=>h (bp _ z);split
  .rename_i d;rw[ki r _ _ hr,b9];cases c:x==n with
   |true=>exact absurd (by rw[beq_iff_eq.mp c,beq_iff_eq.mp d];exact bj) h
   |false=>rfl
  .exact ki r _ _ hr
theorem mB:∀a k b,(x,NameKind.cell)∈a->(cellsFrom k a b).lookup x=some c->k<=c
 |[],_,_,h,_=>nomatch h
 | (n,kd)::r,k,b,h,e=>by
  unfold cellsFrom at e;by_cases hr:(x,NameKind.cell)∈r
  .split at e
   .exact cf (mB r _ _ hr e)
   .exact mB r _ _ hr e
  .rcases aG.mp h with q|q
   .cases q;rw[aR (by rfl),ki r _ _ hr,b9,beq_self_eq_true]at e;cases e;exact aL _
   .exact absurd q hr
theorem mh:∀d k a,(∀x y c,a.lookup x=some c->a.lookup y=some c->x=y)->(∀x c,a.lookup x=some c->c<k)->
  ∀x y c,(cellsFrom k d a).lookup x=some c->(cellsFrom k d a).lookup y=some c->x=y
 |[],_,_,h,_=>h
 | (n,kd)::r,k,a,h,hl=>by
  unfold cellsFrom;split
  .refine mh r (k+1) ((n,k)::a) (λx y c b e=>?_) λx c b=>?_
   .rw[b9]at b e;cases f:x==n with
    |true=>
     cases g:y==n with
     |true=>rw[beq_iff_eq.mp f,beq_iff_eq.mp g]
     |false=>rw[f]at b;rw[g]at e;cases b;exact absurd (hl _ _ e) (bc _)
    |false=>
     rw[f]at b;cases g:y==n with
     |true=>rw[g]at e;cases e;exact absurd (hl _ _ b) (bc _)
     |false=>rw[g]at e;exact h x y c b e
   .rw[b9]at b;cases f:x==n with
    |true=>rw[f]at b;cases b;exact bE _
    |false=>rw[f]at b;exact cg (hl x c b)
  .exact mh r k a h hl
theorem lO:∀a h b,(cellsFrom h.objs.size a b).lookup x=some c->b.lookup x=some c\/(h.objs.size<=c/\(pushCells h a).IsCell c none)
 |[],_,_,e=>.inl e
 | (n,kd)::r,h,b,e=>by
  unfold cellsFrom at e;unfold pushCells;split at e
  .rename_i d;rw[aR d];have g:(cellsFrom (h.push {cls:=.type "cell",data:=.cell none}).objs.size r ((n,h.objs.size)::b)).lookup x=some c:=by rw[Heap.size_push];exact e
   rcases lO r _ _ g with q|⟨q,m⟩
   .rw[b9]at q;cases f:x==n with
    |true=>rw[f]at q;cases q;exact .inr ⟨aL _,_,pushCells_keeps r _ _ _ (au _ rfl),rfl⟩
    |false=>rw[f]at q;exact .inl q
   .rw[Heap.size_push]at q;exact .inr ⟨cf q,m⟩
  .rename_i d;rw[aS d];exact lO r _ _ e
def rj{M:Model}{A:Around}{E:Vq->Shared->Prop}{s:Sq}{a:Scope}{globals:Addr}{closure:List (Str×Addr)}{d:Str}{e:Option Addr}{c:Vq}{b:Env}{builtins:Addr}{Q:Env->Shared->Prop}
  (j:Q (newEnv a s.heap.objs.size globals (cellsFrom (s.heap.objs.size+1) a.names closure) d e c (some b) builtins) {s with heap:=pushCells (s.heap.push {cls:=.type "dict",data:=.dict #[]}) a.names}) :
  wpAny M A (newFunctionEnv a globals closure [] d e c (some b) builtins) Q E s:=by
 simp only[newFunctionEnv,Option.isSome_some,if_true];refine aq (wpAny_alloc ?_);refine aq (wpAny_layCells _ (λi f h=>by cases g:f==NameKind.cell<;>simp[g]) _ _ _ _ ?_);rw[show ({s with heap:=s.heap.push {cls:=.type "dict",data:=.dict #[]}}:Sq).heap.objs.size=s.heap.objs.size+1 from Heap.size_push ..];rw[cj];exact aq (ao (ao j))
noncomputable def lg(X:Cx)(N:List Str)(a:Scope)(C:Addr)(b:Sq)(H:Hp)(ex:List Addr)(pn:List (Addr×Obj)):Cx:={X with N:=N,s₀:=b,H₀:=H,env:=compEnvC a (cellsFrom (C+1) a.names (ku X.env a.names [])) C X.env,outer:=X.stack,ex:=ex,fn:=λx=>a.names.lookup x==some .cell,pn:=pn,xe:=λ_ _=>False}
noncomputable def pull(a:List (Option Nat))(b:St):St:=a.map fun
 |none=>none
 |some j=>(b[j]?).getD none
def Rf(J:It)(j:List (Option Nat))(g:TG)(l:TT)(k:TE)(n:St)(p:Hp)(Q:VK):Prop:=∃W:Nat->Nat->List V->Hp->Prop,(∃m,W 0 m [] p)/\∀i m a H,W i m a H->
 (J.stop i H/\∀D,H D=none->Q (.ref D) (gy H D (.lst a)))\/
 (J.go i H/\a.length<sizeLine/\∀x f,J.yld i H x f->g x (pull j n) f λc h=>l c h λb e=>if b=true then k c e λy o=>∃d,d<m/\W (i+1) d (a++[y]) o else ∃d,d<m/\W (i+1) d a e)
def IE(e:List (Option Nat))(d:TI)(g:TG)(c:TT)(b:TE):TE:=λa H Q=>d a H λJ f=>Rf J e g c b a f Q
end L2
namespace L2
open PySem PySem.Spec PyProof.Rows
section
variable {prog:Program}{w:World}{A:Around}{R:Result->Shared->Prop}{s:Sq}
theorem yl{t E o:Expr}{q:List Expr}{e:Scope}{D:Pos}{it p:Vq}{a:Env}(J:Nat->Shared->Prop)
  (turn:∀n s,J n s->wpAny (model prog w) A (pyNext it) (λr b=>match r with
   |none=>R (.ok .next) b
   |some v=>wpAny (model prog w) A (letOwnedTupleGo E it v) (λ_ i=>wpAny (model prog w) A (assign E a v) (λ_ j=>
     wpAny (model prog w) A (forIn q true λc r=>if r=true then do let ok <-isTrue c a (eval c a);pure (ForInStep.yield ok) else pure (ForInStep.yield r)) (λok d=>
      if ok=true then wpAny (model prog w) A (eval t a) (λx g=>wpAny (model prog w) A (call (.builtin "list.append") [p,x]) (λ_ l=>∃m,m<n/\J m l) (λ_ _=>False) g) (λ_ _=>False) d
      else ∃m,m<n/\J m d) (λ_ _=>False) j) (λ_ _=>False) i) (λ_ _=>False) b) (λ_ _=>False) s)
  (n:Nat) (h:J n s):codeAny (model prog w) A (.compLoop (.ListComp t [⟨E,o,q,0⟩] e D) 0 it p a) R s:=by
 refine codeAny_loop rfl J (λn s F=>?_) n h;show wpAny _ A ((compTurn (.ListComp t [⟨E,o,q,0⟩] e D) 0 it p a).onRaise (λx=>do noteFrame x a;theTreesLotGoes x)) _ _ s;refine wpAny_noted ?_;rw[compTurn_list];refine aq (wpAny_standAt (aq (wpAny_mono (turn n s F) (λr b k=>?_) λ_ _ z=>z.elim)));cases r with
 |none=>exact ao k
 |some v=>
  refine aq (wpAny_mono k (λ_ i y=>?_) λ_ _ z=>z.elim);refine aq (wpAny_mono y (λ_ j B=>aq (wpAny_mono B (λok d f=>?_) λ_ _ z=>z.elim)) λ_ _ z=>z.elim);cases ok with
  |false=>exact ao ⟨rfl,f⟩
  |true=>exact aq (aq (wpAny_mono f (λx g C=>aq (wpAny_mono C (λ_ l u=>ao (ao ⟨rfl,u⟩)) λ_ _ z=>z.elim)) λ_ _ z=>z.elim))
end
def m8(d:List (Option Nat))(g:TG):Prop:=∀x a H Q,g x a H Q->g x a H λb c=>(∀i j:Nat,d[i]? = some (some j)->b[i]? = a[i]?)/\Q b c
def uh(b:ix[k]? = some none):m8 ix (iw k):=λx a H Q h=>by
 refine⟨λi j e=>?_,h⟩;have:k≠i:=by rintro rfl;rw[b]at e;cases e
 rw[ar this]
abbrev vy(us:List Vq):Obj:={cls:=.type "list",data:=.seq us.toArray us.length}
section
variable {X:Cx}{tg elt iter:Expr}{ifs:List Expr}{scope:Scope}{pos:Pos}{N:List Str}{ix:List (Option Nat)}{wi:TI}{g:TG}{tt:TT}{te:TE}
structure zu(X:Cx)(scope:Scope)(N:List Str)(ix:List (Option Nat)):Prop where
 kind:scope.kind=.function
 sep:∀y∈scope.names,y.2=.cell->scope.names.lookup y.1=some .cell
 names:∀y∈scope.names,y.2=.local->scope.names.lookup y.1=some .local
 fre:∀y∈scope.names,y.2=.free->∃c,X.env.cells.lookup y.1=some c
 len:N.length=ix.length
 ix:∀(i j:Nat) (x:Str),N[i]? = some x->ix[i]? = some (some j)->X.N[j]? = some x/\scope.names.lookup x=some .free/\OH X.env.scope x/\X.env.kindOf x≠some .local
def P9(L:zu X scope N ix)(I:fB X eO σ H s)(f:∀b∈fp,sI X eO H b)(j:∀b∈fp,b<s.heap.objs.size) o :
  (lg X N scope (s.heap.objs.size+1) {s with heap:=s.heap.push o} H (s.heap.objs.size::fp) (X.pn++eO)).Ok:=by
 have t:fB X eO σ H {s with heap:=s.heap.push o}:=I.kept λb u e=>ae _ e;have sound0:∀x c,(ku X.env scope.names []).lookup x=some c->X.env.cells.lookup x=some c:=λx c e=>kc (λy d z=>by simp at z) e;have cellLt:∀x c,X.env.cells.lookup x=some c->c<s.heap.objs.size:=λx c e=>let ⟨_,q⟩:=I.cell x c e;q.lt;have h:∀x c,(cellsFrom (s.heap.objs.size+1+1) scope.names (ku X.env scope.names [])).lookup x=some c->X.env.cells.lookup x=some c\/s.heap.objs.size+1+1<=c:=λx c e=>by
  rcases lF _ _ _ e with q|⟨q,_⟩
  .exact .inl (sound0 x c q)
  .exact .inr q
 refine⟨I.ok.mod,L.kind,I.ok.glob,I.ok.blt,?_,mh _ _ _ (λx y c i n=>I.ok.inj x y c (sound0 x c i) (sound0 y c n)) (λx c i=>cg (cg (cellLt x c (sound0 x c i)))),λx r=>?_,λx c i n=>?_,I.ok.hd,I.ok.frames,.inl rfl,λb a=>?_,λb u e=>?_,?_,λb u e a=>?_,λb a=>?_,t.stack,I.stkFree,I.tab⟩
 .show (s.heap.push o).objs.size<=s.heap.objs.size+1;rw[Heap.size_push];exact aL _
 .refine bJ.mp (W.cellsFrom_some _ _ _ ?_);rcases qS r with k|k
  .exact .inr (bJ.mpr (mF k (L.fre _ k rfl)))
  .exact .inl k
 .have l:(scope.names.lookup x==some .cell)=true:=i;have v:scope.names.lookup x=some .cell:=by simpa using l
  show (s.heap.push o).objs.size<=c;rw[Heap.size_push];exact cf (mB _ _ _ (PySem.mem_of_lookup v) n)
 .rcases aG.mp a with rfl|a
  .refine⟨aN (bE _),λx c e z=>?_⟩;rcases h x c e with q|q
   .exact absurd (cellLt x c q) (by rw[z];exact bc _)
   .rw[z]at q;omega
  .refine⟨aN (cg (j b a)),λx c e=>?_⟩;rcases h x c e with q|q
   .exact (f b a).2.2.2.2.1 x c q
   .intro z;rw[z]at q;exact absurd (aO (ck _ 2) q) (Nat.not_le.mpr (j b a))
 .exact⟨ae _ (I.bs b u e).1,(I.bs b u e).2⟩
 .show X.base.objs.size<=(s.heap.push o).objs.size;rw[Heap.size_push];exact cm (aO I.ok.bsz I.sz)
 .have m:=aM (I.bs b u e).1;rcases aG.mp a with rfl|a
  .exact bc _ m
  .rcases (f b a).2.2.2.1 with z|z
   .exact I.ok.noex b u e z
   .exact absurd (aF (aM e) (aO I.ok.bsz z)) (bc _)
 .intro z;have p:=I.stkSub b z;rcases aG.mp a with rfl|a
  .rcases aG.mp p with q|q
   .exact absurd I.lt (by rw[<-q];exact bc _)
   .exact I.nofs (aL _) q
  .rcases aG.mp p with q|q
   .exact (f b a).2.1 q
   .exact (f b a).2.2.1 q
end
end L2
namespace L2
open PySem PySem.Spec PyProof.Rows
section
variable {X:Cx}{tg elt iter:Expr}{ifs:List Expr}{scope:Scope}{pos:Pos}{N:List Str}{ix:List (Option Nat)}{wi:TI}{g:TG}{tt:TT}{te:TE}
def yX{i:Nat}(h:(pull ix σ)[i]? = some (some v)):∃j,ix[i]? = some (some j)/\σ[j]? = some (some v):=by
 unfold pull at h;rw[ax]at h;cases e:ix[i]? with
 |none=>rw[e]at h;cases h
 |some k=>
  rw[e]at h;cases k with
  |none=>cases h
  |some j=>
   refine⟨j,rfl,?_⟩;have a:(σ[j]?).getD none=some v:=by simpa using h
   cases q:σ[j]? with
   |none=>rw[q]at a;cases a
   |some z=>rw[q]at a;simpa using a
theorem BY{RR:Vq->Addr->Result->Shared->Prop}{Q:VK}{W:Nat->Nat->List V->Hp->Prop}
  (hc:X.calm=true) (L:zu X scope N ix) (hgk:m8 ix g)
  (blk:∀C F H ex pn,PG (lg X N scope C F H ex pn) tg g/\EC (lg X N scope C F H ex pn) ifs tt/\PE (lg X N scope C F H ex pn) elt te)
  (l:fB X eO σ H2 s2) (T:Be X.prog X.w X.K tg J fp it tn) (st2:tn 0 s2.heap) (f2:∀b∈fp,sI X eO H2 b) (w0:W 0 m0 [] H2)
  (turn:∀i m Y H,W i m Y H->(J.stop i H/\∀D,H D=none->Q (.ref D) (gy H D (.lst Y)))\/
   (J.go i H/\Y.length<sizeLine/\∀x s,J.yld i H x s->g x (pull ix σ) s λσ2 H2=>tt σ2 H2 λb H3=>if b=true then te σ2 H3 λy H4=>∃m',m'<m/\W (i+1) m' (Y++[y]) H4 else ∃m',m'<m/\W (i+1) m' Y H3))
  (fin:∀D C m s S,S.heap.Ns C m->sI X eO s C->fB X eO σ s S->Q (.ref D) s->RR (.ref D) C (.ok .next) S) :
  wpAny (model X.prog X.w) X.A (newList []) (λacc F=>wpAny (model X.prog X.w) X.A (newFunctionEnv scope X.env.globals (ku X.env scope.names []) [] X.env.qual none .none (some X.env)) (λcenv s₄=>codeAny (model X.prog X.w) X.A (.compStart (.ListComp elt [⟨tg,iter,ifs,0⟩] scope pos) 0 (.ref it) acc {cenv with scope:=relabel scope X.env}) (RR acc cenv.locals) s₄) E F) E s2:=by
 refine wpAny_newObj_type (rj ?_);have hCs:(s2.heap.push {cls:=.type "list",dict:=none,data:=.seq ([]).toArray}).objs.size=s2.heap.objs.size+1:=Heap.size_push ..;generalize R:pushCells ((s2.heap.push {cls:=.type "list",dict:=none,data:=.seq ([]).toArray}).push {cls:=.type "dict",data:=.dict #[]}) scope.names=h₁;rw[hCs];have hns₁:h₁.Ns (s2.heap.objs.size+1) (λ_=>none):=by rw[<-R,<-hCs];exact (Heap.Ns.new _ _).keeps (pushCells_keeps _ _)
 have U:∀x c,(cellsFrom (s2.heap.objs.size+1+1) scope.names (ku X.env scope.names [])).lookup x=some c->X.env.cells.lookup x=some c\/(s2.heap.objs.size+1+1<=c/\h₁.IsCell c none):=λx c e=>by
  have hs3:((s2.heap.push {cls:=.type "list",dict:=none,data:=.seq ([]).toArray}).push {cls:=.type "dict",data:=.dict #[]}).objs.size=s2.heap.objs.size+1+1:=by rw[Heap.size_push,hCs]
  rw[<-hs3]at e;rcases lO _ _ _ e with q|⟨q,m⟩
  .exact .inl (kc (λy d z=>by simp at z) q)
  .rw[hs3]at q;rw[R]at m;exact .inr ⟨q,m⟩
 have fpObj:=T.obj 0 _ st2;have hlt:∀b∈fp,b<s2.heap.objs.size:=λb h=>let ⟨_,e,_⟩:=fpObj b h;aM e;have ok:=P9 L l f2 hlt {cls:=.type "list",dict:=none,data:=.seq ([]).toArray};have DC:s2.heap.objs.size≠s2.heap.objs.size+1:=aN (bE _);have hold:∀b o,(s2.heap.push {cls:=.type "list",dict:=none,data:=.seq ([]).toArray}).get? b=some o->h₁.get? b=some o:=λb o e=>by rw[<-R];exact pushCells_keeps _ _ _ _ (ae _ e)
 have old:∀b o,s2.heap.get? b=some o->h₁.get? b=some o:=λb o e=>hold b o (ae _ e);have sound:∀x c,(ku X.env scope.names []).lookup x=some c->X.env.cells.lookup x=some c:=λx c e=>kc (λy d z=>by simp at z) e;have cellLt:∀x c,X.env.cells.lookup x=some c->c<s2.heap.objs.size:=λx c e=>let ⟨_,q⟩:=l.cell x c e;q.lt;have hDn:=l.hok.fresh (aL _);have hCn:=l.hok.fresh (bH _);have t:∀p∈X.pn++eO,p.1<s2.heap.objs.size:=λp f=>aM (l.pin p f).1;have hDfs:s2.heap.objs.size∉CY X.stack:=λz=>by
  rcases aG.mp (l.stkSub _ z) with q|q
  .exact absurd l.lt (by rw[<-q];exact bc _)
  .exact l.nofs (aL _) q
 have I':fB (lg X N scope (s2.heap.objs.size+1) {s2 with heap:=s2.heap.push {cls:=.type "list",dict:=none,data:=.seq ([]).toArray}} H2 (s2.heap.objs.size::fp) (X.pn++eO))
   [(s2.heap.objs.size,vy [])] (pull ix σ) H2 {s2 with heap:=h₁,toks:=s2.toks}:=by
  refine⟨ok,rfl,l.bare,Un.kept hold,⟨_,hns₁,λi x v h1 h2 h3=>?_⟩,λx c e=>?_,hCn,λx c e=>?_,λp f=>?_,l.hok.kept old,?_⟩
  .obtain⟨j,ej,es⟩:=yX h2;obtain⟨q1,q2,q3,q4⟩:=L.ix i j x h1 ej;obtain⟨m,_,hl⟩:=l.loc;obtain⟨u,r,lk⟩:=hl j x v q1 es q3;refine⟨u,r,?_⟩;rcases lk with⟨k,_⟩|⟨k,c,hcl,hv⟩
   .exact absurd k q4
   .obtain⟨c',hc'⟩:=mF (PySem.mem_of_lookup q2) ⟨c,hcl⟩;have:=sound x c' hc';rw[hcl]at this;cases this;have hnc:(x,NameKind.cell)∉scope.names:=λz=>by have:=L.sep _ z rfl;rw[q2]at this;cases this
    refine .inr ⟨?_,c,(ki _ _ _ hnc).trans hc',let ⟨ob,ho,hd⟩:=hv;⟨ob,old c ob ho,hd⟩⟩;exact xR q2
  .rcases U x c e with q|⟨_,q⟩
   .obtain⟨v,ob,ho,hd⟩:=l.cell x c q;exact⟨v,ob,old c ob ho,hd⟩
   .exact⟨none,q⟩
  .rcases U x c e with q|⟨q,_⟩
   .exact l.freeC x c q
   .exact l.hok.fresh (aO (ck _ 2) q)
  .rcases ai.mp f with f|f
   .obtain⟨e,n,ne,nf,d⟩:=l.pin p f;refine⟨old _ _ e,n,aN (cg (t p f)),λz=>?_,d⟩;rcases aG.mp (l.stkSub _ z) with q|q
    .exact ne q
    .exact nf q
   .have e:p=(s2.heap.objs.size,vy []):=by simpa using f
    subst e;exact⟨hold _ _ (au _ rfl),hDn,DC,hDfs,λv z=>by cases z⟩
  .unfold pull;rw[ay];exact L.len.symm
 generalize a:lg X N scope (s2.heap.objs.size+1) {s2 with heap:=s2.heap.push {cls:=.type "list",dict:=none,data:=.seq ([]).toArray}} H2 (s2.heap.objs.size::fp) (X.pn++eO)=X' at I';obtain⟨hg,hif,he⟩:=blk (s2.heap.objs.size+1) {s2 with heap:=s2.heap.push {cls:=.type "list",dict:=none,data:=.seq ([]).toArray}} H2 (s2.heap.objs.size::fp) (X.pn++eO);rw[a]at hg hif he;have stat:∀{s:Hp} {P:List Vq},(∀b∈fp,s b=none)->∀b∈fp,sI X' [(s2.heap.objs.size,vy P)] s b:=λ{s P} hn b h=>by
  subst a;obtain⟨_,f1,f2',f3,f4,f5⟩:=f2 b h;refine⟨hn b h,aN (cg (hlt b h)),λz=>?_,.inl (bp _ h),λx c e=>?_,λp f=>?_⟩
  .rcases aG.mp (l.stkSub _ z) with q|q
   .exact f1 q
   .exact f2' q
  .rcases U x c e with q|⟨q,_⟩
   .exact f4 x c q
   .intro z;rw[z]at q;exact absurd (aO (ck _ 2) q) (Nat.not_le.mpr (hlt b h))
  .rcases ai.mp f with f|f
   .exact f5 p f
   .have e:p=(s2.heap.objs.size,vy P):=by simpa using f
    subst e;exact Ne.symm (aN (hlt b h))
 have loop:codeAny (model X.prog X.w) X.A (.compLoop (.ListComp elt [⟨tg,iter,ifs,0⟩] scope pos) 0 (.ref it) (.ref s2.heap.objs.size) X'.env) (RR (.ref s2.heap.objs.size) (s2.heap.objs.size+1))
   {s2 with heap:=h₁,toks:=s2.toks}:=by
  refine yl (λn S=>∃i Y P s,fB X' [(s2.heap.objs.size,vy P)] (pull ix σ) s S/\fP Y P/\Y.length<=sizeLine/\tn i S.heap/\(∀b∈fp,s b=none)/\W i n Y s) ?_ m0
   ⟨0,[],[],H2,I',.nil,bF _,T.keep _ _ _ st2 λb _ o e=>old b o e,λb h=>(f2 b h).1,w0⟩
  rintro n s3 ⟨i,Y,P,H3,I3,rv,hz,st3,fr3,w3⟩;have hcX:X'.calm=true:=by subst a;exact hc
  have hA:X'.A=X.A:=by subst a;rfl
  rcases turn i n Y H3 w3 with⟨stop,qn⟩|⟨go,kh,step⟩
  .have hd:=T.done X' (by subst a;rfl) (by subst a;rfl) (by subst a;rfl) hcX i _ s3 _ H3 (λ_ _=>False) I3 (stat fr3) st3 stop;rw[hA]at hd;refine iG hd λr s4 ⟨hr,I4⟩=>?_;subst hr;subst a;obtain⟨m,hn,_⟩:=I4.loc;have hD3:=I4.pin (s2.heap.objs.size,vy P) (bx _ bj);have u1:Un (CY X.stack) fp H2 H3 s2.heap s4.heap:=by
    have B:=I4.base;have nD:∀b o,s2.heap.get? b=some o->b∉fp->b∉s2.heap.objs.size::fp:=λb o e h z=>by
     rcases aG.mp z with q|q
     .exact absurd (aM e) (by rw[q];exact bc _)
     .exact h q
    exact⟨λb o e n h hx=>B.keep b o (ae _ e) n h (nD b o e hx),λb o e n h hx=>B.slot b o (ae _ e) n h (nD b o e hx),
     λb o e n hx=>B.free b o (ae _ e) n (nD b o e hx),λb o e hx=>B.there b o (ae _ e) (nD b o e hx),B.tups,B.frzs,B.tbls⟩
   have I5:=l.call' I4.os u1 I4.hok I4.bare λb h=>let ⟨_,f1,_,f3,f4,f5⟩:=f2 b h;⟨f3,f1,f4,f5⟩;have I6:fB X eO σ (gy H3 s2.heap.objs.size (.lst Y)) s4:=I5.track hD3.2.1 (.inr l.sz) (Ne.symm (aN l.lt)) (λx c e z=>absurd (cellLt x c e) (by rw[z];exact bc _))
    (λp f=>aN (t p f)) ⟨hz,P,P.length,rv,hD3.1⟩
   refine fin _ _ m _ s4 hn ⟨?_,?_,?_,.inr (cm l.sz),λx c e z=>?_,λp f=>?_⟩ I6 (qn _ hD3.2.1)
   .rw[fu (Ne.symm DC)];exact I4.free
   .exact Ne.symm (aN (cg l.lt))
   .exact l.nofs (bH _)
   .exact absurd (cellLt x c e) (by rw[z];exact cn.mpr (bH _))
   .exact aN (cg (t p f))
  .have hd:=T.item X' (by subst a;rfl) (by subst a;rfl) (by subst a;rfl) hcX i _ s3 _ H3 (λ_ _=>False) I3 (stat fr3) st3 go;rw[hA]at hd;refine iG hd λr s4 ⟨u,hr,h4⟩=>?_;subst hr;refine iG h4 λ_ s5 ⟨x,H5,I5,r5,y5,st5,fr5⟩=>?_;have I5':=I5.pinned (stat fr5) (T.obj _ _ st5);have hM:model X'.prog X'.w=model X.prog X.w:=by subst a;rfl
   have hE:X'.xe=λ_ _=>False:=by subst a;rfl
   have a6:=hg _ s5 _ H5 x u _ I5' r5 (hgk x _ H5 _ (step x H5 y5));rw[hM,hA,hE]at a6;refine iG a6 λ_ s6 ⟨σ6,H6,I6,agr,q6⟩=>?_;have a7:=hif _ s6 σ6 H6 _ I6 q6;rw[hM,hA,hE]at a7;refine iG a7 λok s7 ⟨H7,I7,q7⟩=>?_;have back:∀{S:Sq} {s:Hp} {pl:List (Addr×Obj)},fB X' pl σ6 s S->fB X' pl (pull ix σ) s S:=λ{S s pl} I=>by
    refine I.weak ?_ λk v e=>?_
    .have e1:=I.len;have e2:=I3.len;rw[e1,e2]
    .obtain⟨j,ej,_⟩:=yX e;rw[agr k j ej];exact e
   have held:∀{S:Sq} {s:Hp},fB X' ([(s2.heap.objs.size,vy P)]++uK fp s5.heap) σ6 s S->tn (i+1) S.heap/\∀b∈fp,s b=none:=λ{S s} I=>by refine⟨T.keep _ _ _ st5 λb h o e=>(I.pin (b,o) (bx _ (bx _ (nc h e)))).1,λb h=>?_⟩;obtain⟨o,e,_⟩:=T.obj _ _ st5 b h;exact (I.pin (b,o) (bx _ (bx _ (nc h e)))).2.1
   cases ok with
   |false=>rw[aS aI]at q7 ⊢;obtain⟨m',hm,w7⟩:=q7;obtain⟨k1,k2⟩:=held I7;exact⟨m',hm,i+1,Y,P,H7,(back I7).unpinned,rv,hz,k1,k2,w7⟩
   |true=>
    rw[aR rfl]at q7 ⊢;have a8:=he _ s7 σ6 H7 _ I7 q7;rw[hM,hA,hE]at a8;refine iG a8 λy s8 ⟨yv,H8,I8,r8,m',hm,w8⟩=>?_;obtain⟨k1,k2⟩:=held I8;have Z:=I8.pin (s2.heap.objs.size,vy P) (bx _ (az _ bj));have hl:=rv.length;refine append_at Z.1 λh9 sb hD9=>?_;have I9:fB X' [] (pull ix σ) H8 s8:=(back I8).pins_of λp f=>by simp at f
    have I10:=I9.turned (t':=s8.toks) (λb o h e=>sb.extBut b o h e) Z.2.1 Z.2.2.1 (.inl (by subst a;exact bj))
     (λx c e z=>by
      subst a;rcases U x c e with q|⟨q,_⟩
      .exact absurd (cellLt x c q) (by rw[z];exact bc _)
      .rw[z]at q;omega) (λp f z=>by
      subst a;rcases ai.mp f with f|f
      .exact absurd (t p f) (by rw[z];exact bc _)
      .simp at f)
    have e9:h9.get? s2.heap.objs.size=some (vy (P++[y])):=by rw[hD9];simp
    refine⟨m',hm,i+1,Y++[yv],P++[y],H8,I10.pins_of λp f=>?_,rv.append (.cons r8 .nil),by rw[aU,bU];omega,?_,k2,w8⟩
    .have e:p=(s2.heap.objs.size,vy (P++[y])):=by simpa using f
     subst e;exact⟨e9,Z.2.1,Z.2.2.1,Z.2.2.2.1,λv z=>by cases z⟩
    .exact T.keep _ _ _ k1 λb h o e=>sb.extBut b o (aN (hlt b h)) e
 have loop':=loop;subst a;exact codeAny_compStart_list loop (T.self X.A 0 _ _ _ (T.keep _ _ _ st2 λb _ o e=>old b o e) loop')
def PN(p:X.calm=true)(n:PI X tg iter wi)(L:zu X scope N ix)(k:m8 ix g)
  (j:∀C a H i d,PG (lg X N scope C a H i d) tg g/\EC (lg X N scope C a H i d) ifs tt/\PE (lg X N scope C a H i d) elt te)
  (y:∀x,foldedSetIterable iter X.env x=pure x:=by intro _;rfl):PE X (.ListComp elt [⟨tg,iter,ifs,0⟩] scope pos) (IE ix wi g tt te):=by
 intro l s z H Q I h;rw[eval_ListComp];refine wpAny_comprehension_free rfl y (pD L.fre) L.kind L.names (iG (n l s z H _ I h) λv s1 u=>iG u λA s2 P=>?_);obtain⟨it,fp,Z,J,U,e,R,T,c,F,W,⟨m0,K⟩,turn⟩:=P;subst e;refine BY p L k j R T c F K turn λD C m w S t f E q=>?_;refine⟨m,t,λY r=>⟨.ref D,w,E.turned (λb o B e=>r.extBut b o B e) f.1 f.2.1 f.2.2.2.1 f.2.2.2.2.1 f.2.2.2.2.2,rfl,q⟩⟩
end
end L2
namespace L2
open PySem PySem.Spec PyProof.Rows
structure fC(K:W.Frag)(mg:Str->Option Value)(x:Str)(st:Stmt):Prop where
 ex:∃f fd,IT K x x st f fd/\mg x=some (.ref f)
def Oc{K:W.Frag}{st:Stmt}{kV d e b g:Vq}(X:K.In h)(G:h.Ns mainGlobals mg)
  (a:W.nsIn K mainGlobals x=some (some (.ref f)))
  (l:K.lookup f=some ⟨oc,od,.func (W.fnOf x x (iu st) (fR st) (eU st) .none kV d e an b g),osl⟩)
  (c:W.codeIn K b x=true) (k:W.keepIn K (.ref f)=true):fC K mg x st:=⟨f,_,AU l c k,W.mg_of X G a⟩
structure jK(P:Program)(w:World)(K:W.Frag)(mg:Str->Option Value)(base:Heap)(x:Str)(k:Nat)(sp:Sp):Prop where
 ex:∃f fd ps,lA P w K mg base oZ k f fd ps sp/\mg x=some (.ref f)/\W.keepIn K (.ref f)=true/\n5 K fd ps []
def jK.mono{K:W.Frag}(h:jK P w K mg base x j sp)(d:j<=k):jK P w K mg base x k sp:=
 let ⟨f,fd,ps,F,a,b,c⟩:=h.ex
 ⟨f,fd,ps,F.mono d,a,b,c⟩
def CV{K:W.Frag}{st:Stmt}(D:fC K mg x st)(S:gq N ps (eU st))
  (l:∀(kV e h:Vq) (g:Option Addr) (a j:Vq) (us:List Vq),us.length=ps.length->bindArgs (W.fnOf x x (iu st) (fR st) (eU st) .none kV e h g a j) ⟨us,[]⟩=pure (ps.zip us))
  (d:∀vs H Q E,sp vs H Q E->vs.length=ps.length)
  (b:∀f a A c s H vs Q E,gB k (A.deeper (envOfC x (eU st) s.heap.objs.size f a))->sp vs H Q E->
   ∃t,yF (lK oZ P w K mg base N x (eU st) f a A c s H E).nox (fR st) t/\t {nx:=λ_ i=>Q .non i,rt:=Q} (jD N vs) H):jK P w K mg base x (k+1) sp:=by
 obtain⟨f,n,F,m⟩:=D.ex;exact⟨f,n,ps,F.ok S d (b f),m,F.kp,F.binds l⟩
section
variable {X:Cx}{x:Str}{k:Nat}{sp:Sp}{e:Expr}{es:List Expr}{t:TA}{p pos:Pos}
def zv(h:jK X.prog X.w X.K X.mg X.base x k sp)(hr:gB k X.A)(i:PA X (e::es) t)(l:Gl X x:=by rfl)
  (d:(x==("__debug__" : Str))=false:=by decide) (j:starEach (e::es) X.env=(false,eval e X.env)::starEach es X.env:=by rfl) (g:(backTo pos (starEach es X.env)).any (·.1)=false:=by rfl) :
  PE X (.Call (.Name x p) (e::es) [] pos) (wt sp [] E0 t):=by
 obtain⟨f,m,n,F,a,b,c⟩:=h.ex;exact La F hr l a b c .nil GQ i d j g
end
def Kl:nL X (binaryOp .Mult) (rI (λi j=>PySem.IntMulOk i j) λi j=>.int (i*j)):=ON λ_ _ _ _ _ _ _ a q=>mul_int q a
def FJ:nL X (binaryOp .FloorDiv) (rI (λi j=>j≠0/\Builtin.divisionGoesByPylong i j=false) λi j=>.int (i.fdiv j)):=ON λ_ _ _ _ _ _ _ a q=>floordiv_int a.1 q (.inl a.2)
end L2
namespace L2
open PySem PySem.Spec PyProof.Rows PySem.W PySem.Calls
theorem vQ:∀{a:List Addr} {us:List Vq},fP (a.map V.ref) us->us=a.map Value.ref
 |[],_,.nil=>rfl
 |d::a,u::us,.cons r t=>by have e:=r;rw[e,vQ t];rfl
end L2
namespace L2
open PySem PySem.Spec PyProof.Rows PySem.W
mutual
inductive DV(K:Frag)(H:Hp):V->PyData->Prop
 |non:DV K H .non .none
 |bl (b:Bool):DV K H (.bl b) (.bool b)
 |int (i:Int):DV K H (.int i) (.int i)
 |str (x:Str):DV K H (.str x) (.str x)
 |lst {a:Addr} {xs:List V} {ds:List PyData} (h:jQ K H a xs) (hs:zO K H xs ds):DV K H (.ref a) (.list ds)
 |tup {a:Addr} {xs:List V} {ds:List PyData} (h:kP K H a xs) (hs:zO K H xs ds):DV K H (.ref a) (.tuple ds)
inductive zO(K:Frag)(H:Hp):List V->List PyData->Prop
 |nil:zO K H [] []
 |cons {v:V} {d:PyData} {vs:List V} {ds:List PyData} (h:DV K H v d) (hs:zO K H vs ds):zO K H (v::vs) (d::ds)
end
section
variable {X:Cx}{eO:List (Addr×Obj)}{σ:St}{H:Hp}{s:Sq}
mutual
theorem DV.reads(I:fB X eO σ H s):∀{v} {d} {u},DV X.K H v d->gh v u->∃as,Reads s.heap u d as
 |_,_,_,.non,r=>by cases r;exact⟨_,.none⟩
 |_,_,_,.bl b,r=>by cases r;exact⟨_,.bool b⟩
 |_,_,_,.int i,r=>by obtain⟨t,rfl⟩:=r;exact⟨_,.int i t⟩
 |_,_,_,.str x,r=>by obtain⟨t,rfl⟩:=r;exact⟨_,.str x t⟩
 |_,_,_,.lst h hs,r=>by cases r;obtain⟨g,f,⟨o,n,e,j,k,a⟩,_⟩:=I.list h;obtain⟨as,c⟩:=zO.reads I hs f;exact⟨_,.list e j a (by simpa using c)⟩
 |_,_,_,.tup h hs,r=>by cases r;obtain⟨g,f,⟨o,e,j,n,a⟩,_⟩:=I.tuple h;obtain⟨as,c⟩:=zO.reads I hs f;exact⟨_,.tuple e j a (by simpa using c)⟩
theorem zO.reads(I:fB X eO σ H s):∀{vs} {ds} {us},zO X.K H vs ds->fP vs us->∃as,ReadsAll s.heap us ds as
 |_,_,_,.nil,r=>by cases r;exact⟨_,.nil⟩
 |_,_,_,.cons h hs,r=>by
  cases r with
  |cons r1 r2=>obtain⟨as,a⟩:=DV.reads I h r1;obtain⟨bs,b⟩:=zO.reads I hs r2;exact⟨_,.cons a b⟩
end
def AD(K:Frag)(neg:Bool):R2:=λx y H Q=>∃a b,DV K H x a/\DV K H y b/\(a.canLay0=true/\b.canLay0=true/\a.depth<=100)/\Q (.bl (if neg then !PyData.eqv a b else PyData.eqv a b)) H
def FK(k:X.A.units+200<cLine):nL X (compareOp .Eq) (AD X.K false):=by intro j s m H x y v u Q I f d h;obtain⟨l,n,b,a,⟨g,e,o⟩,q⟩:=h;obtain⟨as,c⟩:=b.reads I f;obtain⟨bs,i⟩:=a.reads I d;exact SeqAt.eqOverData _ _ _ _ _ _ _ _ _ _ _ _ c i g e (by omega) ⟨.bl _,H,I,rfl,q⟩
def Ha(k:X.A.units+200<cLine):nL X (compareOp .NotEq) (AD X.K true):=by intro j s m H x y v u Q I f d h;obtain⟨l,n,b,a,⟨g,e,o⟩,q⟩:=h;obtain⟨as,c⟩:=b.reads I f;obtain⟨bs,i⟩:=a.reads I d;exact SeqAt.neOverData _ _ _ _ _ _ _ _ _ _ _ _ c i g e (by omega) ⟨.bl _,H,I,rfl,q⟩
def Qo(hr:gB k A):A.units+200<cLine:=by have:=hr.un;omega
end
end L2
namespace L2
open PySem PySem.Spec PyProof.Rows
theorem zV:∀{bs:List Bool} {us:List Vq},fP (bs.map V.bl) us->us=bs.map Value.bool
 |[],_,.nil=>rfl
 |b::bs,u::us,.cons r t=>by have e:=r;rw[e,zV t];rfl
theorem pS:∀{ns} {us},fP (ns.map V.int) us->IntsAre us ns
 |[],_,.nil=>.nil
 |n::ns,u::us,.cons r t=>by obtain⟨a,e⟩:=(r);rw[e];exact .cons n a (pS t)
def Dq{bs:List Bool}:(List.range bs.length).all (λi=>bs.getD i false)=bs.all id:=by
 induction bs with
 |nil=>rfl
 |cons b bs ih=>rw[aA,cq,bP,cu,bP,<-ih];rfl
def wH{bs:List Bool}:(List.range bs.length).any (λi=>bs.getD i false)=bs.any id:=by
 induction bs with
 |nil=>rfl
 |cons b bs ih=>rw[aA,cq,bQ,cw,bQ,<-ih];rfl
section
variable {X:Cx}
def DQ{bs:List Bool}:TruthOf prog w A (λi v=>(bs.map Value.bool).toArray[i]? = some v) (λi=>bs.getD i false):=λi v s Q E d c=>by
 have e:(bs.map Value.bool)[i]? = some v:=by simpa using d
 rw[ax]at e;cases a:bs[i]? with
 |none=>rw[a]at e;cases e
 |some b=>
  rw[a]at e;cases e;have:bs.getD i false=b:=by rw[af,a];rfl
  dsimp only at c;rw[this]at c;exact ao c
def FQ(f:X.calm=true):jA X (.builtin "all") (λd H Q=>∃(p:Addr) (bs:List Bool),d=[.ref p]/\jQ X.K H p (bs.map V.bl)/\Q (.bl (bs.all id)) H):=by
 intro t s y H d x Q I r h;obtain⟨p,bs,rfl,n,q⟩:=h;obtain⟨u,rfl,l⟩:=qM r;cases l;obtain⟨m,g,a,B⟩:=I.list n;have e:=zV g;subst e;have c:p<s.heap.objs.size:=by obtain⟨_,e,_⟩:=a.isList;exact aM e
 refine call_all_walk (wpAny_pyIter_list a.isList ⟨s.heap.objs.size,_,_,_,_,_,λi=>bs.getD i false,rfl,Walks.list (A:=X.A.in1) (I.ok.hd f) _ p (aN c) _,⟨⟨_,au _ rfl,rfl,rfl⟩,a.isList.push _⟩,DQ,λw v j=>?_⟩);refine⟨.bl _,H,I.kept (λb o e=>j b o ?_ (ae _ e)),rfl,?_⟩
 .intro k;have:=aM e;have z:b=s.heap.objs.size:=by simpa using k
  rw[z]at this;exact bc _ this
 .rw[<-Dq]at q;simpa using q
def FN(g:X.calm=true):jA X (.builtin "sum") (λc H Q=>∃(p:Addr) (b:LI),c=[.ref p]/\jQ X.K H p (b.map V.int)/\Q (.int b.sum) H):=by intro o s x H c w Q I r h;obtain⟨p,b,rfl,n,q⟩:=h;obtain⟨u,rfl,l⟩:=qM r;cases l;obtain⟨a,j,i,y⟩:=I.list n;have d:=pS j;obtain⟨c,e⟩:=d.allInts.items;have f:=i.isList;rw[e]at f;refine sum_intListG (I.ok.hd g) f λv t m k=>⟨.int b.sum,H,I.kept k,⟨m,?_⟩,q⟩;rw[preSum_eq,cx (by simp),<-nums_intItems,<-e,show a.toArray.toList=a from rfl,d.numsOf]
def xw:bootBuiltins "all" = some (.builtin "all"):=by decide +kernel
def uD:bootBuiltins "any" = some (.builtin "any"):=by decide +kernel
def Bx:bootBuiltins "sum" = some (.builtin "sum"):=by decide +kernel
end
end L2
namespace L2
open PySem PySem.Spec PyProof.Rows
def iE(b:Bool)(h:Heap)(l:Addr)(a:Array Vq):Prop:=if b=true then h.IsTuple l a else h.IsList l a
def j6(b:Bool)(h:Heap)(it l:Addr)(k:Nat):Prop:=if b=true then h.IsTupleIter it l k else h.IsListIter it l k
noncomputable def uL(b:Bool):String:=if b=true then "tuple_iterator" else "list_iterator"
def j6.look(x:j6 b h it l k):∃o,h.get? it=some o/\o.cls=.type (uL b)/\o.data=.fields #[.ref l,.int k 0]:=by
 cases b with
 |true=>exact (x)
 |false=>exact (x)
def j6.of{k:Nat}(x:∃o,h.get? it=some o/\o.cls=.type (uL b)/\o.data=.fields #[.ref l,.int k 0]):j6 b h it l k:=by
 cases b with
 |true=>exact x
 |false=>exact x
def j6.to(x:j6 b h it l k)(e:∀o,h.get? it=some o->h'.get? it=some o):j6 b h' it l k:=by obtain⟨o,a,q⟩:=x.look;exact .of ⟨o,e o a,q⟩
def iE.look(x:iE b h l xs):∃o n,h.get? l=some o/\o.data=.seq xs n:=by
 cases b with
 |true=>obtain⟨o,a,_,n,c⟩:=(x);exact⟨o,n,a,c⟩
 |false=>obtain⟨o,a,_,n,c⟩:=(x);exact⟨o,n,a,c⟩
def iE.to(x:iE b h l xs)(e:∀o,h.get? l=some o->h'.get? l=some o):iE b h' l xs:=by
 cases b with
 |true=>obtain⟨o,a,q⟩:=(x);exact⟨o,e o a,q⟩
 |false=>obtain⟨o,a,q⟩:=(x);exact⟨o,e o a,q⟩
section
variable {prog:Program}{w:World}{A:Around}{E:Vq->Shared->Prop}{s:Sq}
theorem Lc(d:s.heap.IsTupleIter it l k)(p:s.heap.IsTuple l xs)
  (i:∀x h',xs[k]? = some x->h'.IsTupleIter it l (k+1)->Heap.SameBut it s.heap h'->Q x {s with heap:=h'})
  (f:xs[k]? = none->A.handled=none/\∀h' e,Heap.ExtBut it s.heap h'->(∃o,h'.get? e=some o/\o.cls=.type "StopIteration")->E (.ref e) {s with heap:=h'}) :
  wpAny (model prog w) A (Builtin.SmallTypes.nextOf (.ref it)) Q E s:=by
 obtain⟨q,b,m,a⟩:=id d;obtain⟨r,h,_,n,j⟩:=p;unfold Builtin.SmallTypes.nextOf;refine aq (wpAny_callSpecial?_slot d.typeIs F.slot_tuple_iterator_next (wpAny_call_entry F.slot_tuple_iterator_next d.typeIs F.entry_tuple_iterator_next ?_ (F.args_tuple_iterator_next_1 _)));show wpAny _ _ (field (.ref it) 0 >>= _) _ _ s;refine aq (wpAny_field b a rfl ?_);have ne:(Value.ref l==Value.none)=false:=rfl;simp only[ne,bZ,if_false];refine aq (wpAny_field b a rfl (aq (wpAny_seqItems h j ?_)));cases c:xs[k]? with
 |some x=>simp only[bL,c];refine aq (wpAny_setField b a (by simp) (ao ⟨x,rfl,ao (i x _ c ?_ (Heap.SameBut.update ..))⟩));refine⟨_,Heap.get?_update_self _ b (Obj.isFreed_of_fields (Obj.data_mapFields a _)),(Obj.cls_mapFields ..).trans m,?_⟩;rw[Obj.data_mapFields a];simp[rawInt]
 |none=>obtain⟨g,f⟩:=f c;simp only[bL,c];refine aq (wpAny_rule (aq (wpAny_setField b a (by simp) ?_)));show wpAny _ _ (newExc (.type "StopIteration") [] >>= _) _ _ _;simp only[newExc,newTuple];refine aq (aq (wpAny_newObj_type (aq (wpAny_of_eq (by first|rfl|(simp only[firstArgMember];rfl)) (wpAny_newObj_type ?_ (by size_fits)))) (by size_fits)));simp only[raiseNew];refine aq (wpAny_handled ?_);rw[show A.in1.handled=none from g];refine aq (ao (wpAny_throw ?_));exact f _ _ (((Heap.SameBut.update ..).extBut.push _).push _) ⟨_,au _ rfl,rfl⟩
theorem ui(i:j6 b s.heap it l k)(j:iE b s.heap l xs)
  (h:∀x h',xs[k]? = some x->j6 b h' it l (k+1)->Heap.SameBut it s.heap h'->Q x {s with heap:=h'})
  (g:xs[k]? = none->A.handled=none/\∀h' e,Heap.ExtBut it s.heap h'->(∃o,h'.get? e=some o/\o.cls=.type "StopIteration")->E (.ref e) {s with heap:=h'}) :
  wpAny (model prog w) A (Builtin.SmallTypes.nextOf (.ref it)) Q E s:=by
 cases b with
 |true=>exact Lc i j h g
 |false=>
  have d:=i;have c:=j;cases f:xs[k]? with
  |some x=>exact wpAny_nextOf_list_item d c f λh' a b=>h x h' f a b
  |none=>obtain⟨m,g⟩:=g f;exact wpAny_nextOf_list_end m d c f g
def Hc{z TI TO n F P R:Addr}{Q:Vq->Shared->Prop}(D:ZipApart z TI TO n F P R)
  (K:IsZip s.heap z TI TO .none) (hTI:IsPair s.heap TI (.ref n) (.ref F)) (hTO:IsPair s.heap TO a b)
  (h1:j6 b1 s.heap n P k) (h2:j6 b2 s.heap F R k) (hl1:iE b1 s.heap P xs) (hl2:iE b2 s.heap R ys)
  (X:∀x y h',xs[k]? = some x->ys[k]? = some y->IsZip h' z TI TO (rawInt s.heap.objs.size)->IsPair h' TO x y->j6 b1 h' n P (k+1)->j6 b2 h' F R (k+1)->IsPair h' s.heap.objs.size x y->h'.objs.size=s.heap.objs.size+1->
   (∀c o,c≠z->c≠TO->c≠n->c≠F->s.heap.get? c=some o->h'.get? c=some o)->Q (.ref s.heap.objs.size) {s with heap:=h'})
  (N:xs[k]? = none\/ys[k]? = none->A.handled=none/\∀h' e,(∀c o,c≠z->c≠TO->c≠n->c≠F->s.heap.get? c=some o->h'.get? c=some o)->(∃o,h'.get? e=some o/\o.cls=.type "StopIteration")->E (.ref e) {s with heap:=h'}) :
  wpAny (model prog w) A (Builtin.«zip.__next__» ⟨[.ref z],[]⟩) (λfin s'=>∃v,fin=.done (.ret v)/\Q v s') E s:=by
 have t:∀{h:Heap} {e:Addr} {H:Obj} {f:Vq},IsZip h z TI TO f->h.get? e=some H->H.cls=.type "StopIteration" ->e≠z:=λ{h e H f} q ge ce u=>by subst u;rw[q]at ge;cases ge;simp at ce
 show wpAny _ _ (field (.ref z) 2 >>= λ_=>_) _ _ _;refine aq (wpAny_field K rfl rfl ?_);refine aq (wpAny_field K rfl rfl (aq (wpAny_seqItems hTI rfl ?_)));unfold Builtin.SmallTypes.ownedTupleIsFree;refine aq (aq (wpAny_field K rfl rfl (ao ?_)));simp only[if_true];refine aq (wpAny_rule (aq (wpAny_field K rfl rfl (aq (wpAny_setField_rec K (by simp) λg1 y1 I=>?_)))));have Y:=y1;simp only[List.zipIdx_cons,List.zipIdx_nil,bY,cj];refine aq (aq (aq (wpAny_onRaise ?_)));refine aq (ui (h1.to λo e=>I.extBut _ _ D.i1z e) (hl1.to λo e=>I.extBut _ _ D.l1z e) (λx g2 U t2 m=>ao ?_) (λU=>⟨(N (.inl U)).1,λg2 e m ⟨H,ge,ce⟩=>?_⟩))
 .have p2:=m.extBut _ _ D.TOi1 (I.extBut _ _ D.TOz hTO);refine aq (wpAny_seqItems p2 rfl (aq (wpAny_updateSeq_pair p2 λZ q3 r=>?_)));have p3:=q3;refine aq (wpAny_letGo (ao (aq (aq (wpAny_onRaise ?_)))));have l:∀c o,c≠z->c≠n->c≠TO->s.heap.get? c=some o->Z.get? c=some o:=λc o d g j e=>r.extBut _ _ j (m.extBut _ _ g (I.extBut _ _ d e));refine aq (ui (h2.to λo e=>l _ o D.i2z D.i12.symm D.TOi2.symm e) (hl2.to λo e=>l _ o D.l2z D.l2i1 D.l2TO e) (λy g4 L t4 p=>ao ?_) (λL=>⟨(N (.inr L)).1,λg4 e p ⟨H,ge,ce⟩=>?_⟩))
  .have p4:=p.extBut _ _ D.TOi2 p3;refine aq (wpAny_seqItems p4 rfl (aq (wpAny_updateSeq_pair p4 λC q5 B=>?_)));have p5:IsPair C TO x y:=q5;refine aq (wpAny_letGo (ao (ao (aq (wpAny_seqItems p5 rfl (aq (wpAny_newTuple ?_)))))));have sz:C.objs.size=s.heap.objs.size:=by rw[B.1,p.1,r.1,m.1,I.1]
   have z5:=B.extBut _ _ D.TOz.symm (p.extBut _ _ D.i2z.symm (r.extBut _ _ D.TOz.symm (m.extBut _ _ D.i1z.symm Y)));have to5:∀c o,c≠z->c≠TO->c≠n->c≠F->s.heap.get? c=some o->C.get? c=some o:=λc o d g j J e=>B.extBut _ _ g (p.extBut _ _ J (l c o d j g e));unfold Builtin.SmallTypes.ownedTupleHandOut;refine aq (aq (wpAny_setField_rec (ae _ z5) (by simp) λg7 y7 k7=>?_));have z7:=y7;refine wpAny_setField_rec z7 (by simp) λS y8 k8=>?_;have z8:=y8;have up:∀c o,c≠z->(C.push {cls:=.type "tuple",data:=.seq #[x,y]}).get? c=some o->S.get? c=some o:=λc o d e=>k8.extBut _ _ d (k7.extBut _ _ d e);have i:∀c o,c≠z->C.get? c=some o->S.get? c=some o:=λc o d e=>up c o d (ae _ e);have p8:=up _ _ (bt (aM z5)) (au _ rfl);have s8:S.objs.size=C.objs.size+1:=by rw[k8.1,k7.1,Heap.size_push]
   rw[sz]at z8 p8 s8;refine ao ⟨_,rfl,?_⟩;rw[sz];have e1:=t2.to λo e=>i _ o D.i1z (B.extBut _ _ D.TOi1.symm (p.extBut _ _ D.i12 (r.extBut _ _ D.TOi1.symm e)));have e2:=t4.to λo e=>i _ o D.i2z (B.extBut _ _ D.TOi2.symm e);exact X x y S U L z8 (i _ _ D.TOz p5) e1 e2 p8 s8 λc o d g j J e=>i c o d (to5 c o d g j J e)
  .have z4:=p _ _ D.i2z.symm (r.extBut _ _ D.TOz.symm (m.extBut _ _ D.i1z.symm Y));refine wpAny_setField_rec z4 (by simp) λC _ B=>(N (.inr L)).2 C e (λc o d g j J q=>B.extBut _ _ d (p _ _ J (l c o d j g q))) ⟨H,B.extBut _ _ (t z4 ge ce) ge,ce⟩
 .have z2:=m _ _ D.i1z.symm Y;refine wpAny_setField_rec z2 (by simp) λZ _ r=>(N (.inl U)).2 Z e (λc o d g j J q=>r.extBut _ _ d (m _ _ j (I.extBut _ _ d q))) ⟨H,r.extBut _ _ (t z2 ge ce) ge,ce⟩
def yI{z TI TO d f h g:Addr}(D:ZipApart z TI TO d f h g)
  (r:IsZip s.heap z TI TO .none) (n:IsPair s.heap TI (.ref d) (.ref f)) (i:IsPair s.heap TO a b)
  (v:j6 b1 s.heap d h k) (N:j6 b2 s.heap f g k) (j:iE b1 s.heap h xs) (m:iE b2 s.heap g ys)
  (l:∀x y h',xs[k]? = some x->ys[k]? = some y->IsZip h' z TI TO (rawInt s.heap.objs.size)->IsPair h' TO x y->j6 b1 h' d h (k+1)->j6 b2 h' f g (k+1)->IsPair h' s.heap.objs.size x y->h'.objs.size=s.heap.objs.size+1->
   (∀c o,c≠z->c≠TO->c≠d->c≠f->s.heap.get? c=some o->h'.get? c=some o)->Q (some (.ref s.heap.objs.size)) {s with heap:=h'})
  (p:xs[k]? = none\/ys[k]? = none->A.handled=none/\∀h',(∀c o,c≠z->c≠TO->c≠d->c≠f->s.heap.get? c=some o->h'.get? c=some o)->Q none {s with heap:=h'}) :
  wpAny (model prog w) A (pyNext (.ref z)) Q E s:=by
 have ty:s.TypeIs (.ref z) "zip" :=⟨_,r,rfl⟩;unfold pyNext;refine aq (wpAny_attempt (wpAny_callSpecial?_slot ty F.slot_zip_next (wpAny_call_entry F.slot_zip_next ty F.entry_zip_next
  (Hc D r n i v N j m (λx y h' I C t H J K u L B=>ao (l x y h' I C t H J K u L B)) λq=>⟨(p q).1,λh' e hk ⟨o,ho,hc⟩=>?_⟩) (F.args_zip_next_1 _))))
 exact aq (wpAny_isInstance ⟨o,ho,hc⟩ isSubtype_stop (ao ((p q).2 h' hk)))
theorem mN(a:iE b s.heap l xs)
  (h:Q (.ref s.heap.objs.size) {s with heap:=s.heap.push {cls:=.type (uL b),data:=.fields #[.ref l,.int 0 0]}}):wpAny (model prog w) A (pyIter (.ref l)) Q E s:=by
 cases b with
 |true=>exact wpAny_pyIter_tuple (a) h
 |false=>exact wpAny_pyIter_list (a) h
end
noncomputable abbrev zo(b:Bool)(l:Addr):Obj:={cls:=.type (uL b),data:=.fields #[.ref l,.int 0 0]}
abbrev zt(x y:Vq):Obj:={cls:=.type "tuple",data:=.seq #[x,y]}
abbrev zz(p q:Addr):Obj:={cls:=.type "zip",data:=.fields #[.none,.bool false,.bool false,.ref p,.ref q]}
noncomputable abbrev yn(b1 b2:Bool)(h:Heap)(l1 l2:Addr):Heap:=
 ((((h.push (zo b1 l1)).push (zo b2 l2)).push (zt (.ref h.objs.size) (.ref (h.push (zo b1 l1)).objs.size))).push (zt .none .none)).push
  (zz ((h.push (zo b1 l1)).push (zo b2 l2)).objs.size (((h.push (zo b1 l1)).push (zo b2 l2)).push (zt (.ref h.objs.size) (.ref (h.push (zo b1 l1)).objs.size))).objs.size)
section
variable {prog:Program}{w:World}{A:Around}{E:Vq->Shared->Prop}{s:Sq}
def Di b1 b2 l1 l2 xs ys:Meets (Builtin.«zip.__new__» ⟨[.type "zip",.ref l1,.ref l2],[]⟩) (λ_ R s=>iE b1 s.heap l1 xs/\iE b2 s.heap l2 ys/\
  R (.ok (.ret (.ref ((((s.heap.push (zo b1 l1)).push (zo b2 l2)).push (zt (.ref s.heap.objs.size) (.ref (s.heap.push (zo b1 l1)).objs.size))).push (zt .none .none)).objs.size))) {s with heap:=yn b1 b2 s.heap l1 l2}):=by
 refine .of_wp λprog w A R s h=>?_;obtain⟨a,g,d,b,i⟩:=s;obtain⟨l,f,j⟩:=h;have sz:=sub_zip;have k:=l;have c:iE b2 (Shared.heap ⟨a.push (zo b1 l1),g,d,b,i⟩) l2 ys:=f.to λo e=>ae _ e;wp_walk using mN k,mN c;exact⟨_,rfl,j⟩
def Ic(d:iE b1 s.heap l1 xs)(j:iE b2 s.heap l2 ys)
  (h:∀h',IsZip h' (s.heap.objs.size+4) (s.heap.objs.size+2) (s.heap.objs.size+3) .none->IsPair h' (s.heap.objs.size+2) (.ref s.heap.objs.size) (.ref (s.heap.objs.size+1))->IsPair h' (s.heap.objs.size+3) .none .none->
   j6 b1 h' s.heap.objs.size l1 0->j6 b2 h' (s.heap.objs.size+1) l2 0->h'.objs.size=s.heap.objs.size+5->(∀c o,s.heap.get? c=some o->h'.get? c=some o)->Q (.ref (s.heap.objs.size+4)) {s with heap:=h'}) :
  wpAny (model prog w) A (call (.type "zip") [.ref l1,.ref l2]) Q E s:=by
 refine callType_new F.called_zip (by decide) (F.typeCall_zip_2 _ _) (F.newCall_zip_2 _ _) (λf=>F.args_object_init_3 f _ _) F.entry_zip_new (Di b1 b2 l1 l2 xs ys) ⟨d,j,?_⟩;generalize g:s.heap.objs.size=n at *;have b:(s.heap.push (zo b1 l1)).objs.size=n+1:=by rw[Heap.size_push,g]
 have i:((s.heap.push (zo b1 l1)).push (zo b2 l2)).objs.size=n+2:=by rw[Heap.size_push,b]
 generalize a:(s.heap.push (zo b1 l1)).push (zo b2 l2)=g2 at *;have p:∀c o,s.heap.get? c=some o->g2.get? c=some o:=λc o e=>by rw[<-a];exact ae _ (ae _ e)
 have t:g2.get? n=some (zo b1 l1):=by rw[<-a,<-g];exact ae _ (au _ rfl)
 have r:g2.get? (n+1)=some (zo b2 l2):=by rw[<-a,<-b];exact au _ rfl
 have k:(g2.push (zt (.ref n) (.ref (n+1)))).objs.size=n+3:=by rw[Heap.size_push,i]
 have l:((g2.push (zt (.ref n) (.ref (n+1)))).push (zt .none .none)).objs.size=n+4:=by rw[Heap.size_push,k]
 have u:yn b1 b2 s.heap l1 l2=((g2.push (zt (.ref n) (.ref (n+1)))).push (zt .none .none)).push (zz (n+2) (n+3)):=by unfold yn;rw[g,b,a,i,k]
 rw[u,b,l];have v:(g2.push (zt (.ref n) (.ref (n+1)))).get? (n+2)=some (zt (.ref n) (.ref (n+1))):=by rw[<-i];exact au _ rfl
 have q:((g2.push (zt (.ref n) (.ref (n+1)))).push (zt .none .none)).get? (n+3)=some (zt .none .none):=by rw[<-k];exact au _ rfl
 have m:(((g2.push (zt (.ref n) (.ref (n+1)))).push (zt .none .none)).push (zz (n+2) (n+3))).get? (n+4)=some (zz (n+2) (n+3)):=by rw[<-l];exact au _ rfl
 have up:∀c o,g2.get? c=some o->(((g2.push (zt (.ref n) (.ref (n+1)))).push (zt .none .none)).push (zz (n+2) (n+3))).get? c=some o:=λc o e=>ae _ (ae _ (ae _ e));exact⟨⟨_,m,rfl⟩,h _ m (ae _ (ae _ v)) (ae _ q) (.of ⟨_,up _ _ t,rfl,rfl⟩) (.of ⟨_,up _ _ r,rfl,rfl⟩) (by rw[Heap.size_push,l]) λc o e=>up c o (p c o e)⟩
end
end L2
namespace L2
open PySem PySem.Spec PyProof.Rows
def fB.turnedL{ch:List Addr}(I:fB X eO σ H s)(k:∀b o,b∉ch->s.heap.get? b=some o->h'.get? b=some o)(f:∀b∈ch,sI X eO H b) :
  fB X eO σ H {s with heap:=h',toks:=t'}:=by
 have d:∀b u,H b=some u->b∉ch:=λb u e z=>by rw[(f b z).1]at e;cases e
 refine I.step (λb l=>let ⟨_,f1,_,f3,f4,f5⟩:=f b l;⟨f3,f1,f4,f5⟩) (λb o _ _ a e _=>k b o a e) (λb o _ _ a e _=>⟨o.slots,k b o a e⟩) (λ_ _ _ _ n=>n)
  (λb o a e=>⟨o,k b o a e⟩) (λ_ _ e=>e) (λ_ _ _ e=>e) (λb _ p e=>⟨#[],by rw[e];simp⟩) (λm j=>?_) (λb u e=>?_) I.bare
 .obtain⟨o,i,h,g,r⟩:=j;exact⟨o,i,h,k _ o (λz=>(f _ z).2.1 rfl) g,r⟩
 .refine (I.hok b u e).stay (λc v a q=>k c v ?_ q) (λ_ q=>q) λ_ _ q=>q;rcases a with z|z
  .rw[z];exact d b u e
  .exact d c _ z
def uP(K:W.Frag)(H:Hp)(b:Bool)(a:Addr)(c:List V):Prop:=if b=true then kP K H a c else jQ K H a c
def fB.seqB(I:fB X eO σ H s)(h:uP X.K H b a xs):∃its:List Vq,fP xs its/\iE b s.heap a its.toArray/\xs.length<=sizeLine:=by
 cases b with
 |true=>obtain⟨its,r,p,z⟩:=I.tuple (h);exact⟨its,r,p,z⟩
 |false=>obtain⟨its,r,p,z⟩:=I.list (h);exact⟨its,r,p.isList,z⟩
def fB.seqB_inj(I:fB X eO σ H s)(h:uP X.K H b a xs)(h':uP X.K H b a ys):xs=ys:=by
 cases b with
 |true=>exact I.tuple_inj h h'
 |false=>exact I.list_inj h h'
noncomputable def QS(K:W.Frag)(c d:Bool)(e f:Addr):It:=
  ⟨λi H=>∃a b x y,uP K H c e a/\uP K H d f b/\a[i]? = some x/\b[i]? = some y,
   λi H v g=>∃p x y,v=.ref p/\H p=none/\g=gy H p (.tup [x,y])/\(∀a,uP K H c e a->a[i]? = some x)/\∀b,uP K H d f b->b[i]? = some y,
   λi H=>∃a b,uP K H c e a/\uP K H d f b/\(a.length<=i\/b.length<=i)⟩
def ET{K:W.Frag}{x1}{z TI TO l m l1 l2:Addr}(D:ZipApart z TI TO l m l1 l2) :
  Be P w K (.Tuple elts x1 pos) (QS K b1 b2 l1 l2) [z,TI,TO,l,m] z (λi h=>IsZip h z TI TO .none/\IsPair h TI (.ref l) (.ref m)/\(∃a b,IsPair h TO a b)/\j6 b1 h l l1 i/\j6 b2 h m l2 i) where
 mem:=by simp
 obj:=λi h n b f=>by
  obtain⟨p,g,⟨a,c,j⟩,t,r⟩:=n;have mem:b=z\/b=TI\/b=TO\/b=l\/b=m:=by simpa using f
  rcases mem with rfl|rfl|rfl|rfl|rfl
  .exact⟨_,p,λv q=>by cases q⟩
  .exact⟨_,g,λv q=>by cases q⟩
  .exact⟨_,j,λv q=>by cases q⟩
  .obtain⟨o,e,_,d⟩:=t.look;exact⟨o,e,λv q=>by rw[d]at q;cases q⟩
  .obtain⟨o,e,_,d⟩:=r.look;exact⟨o,e,λv q=>by rw[d]at q;cases q⟩
 keep:=λi h h' n k=>by obtain⟨p,g,⟨a,c,j⟩,t,r⟩:=n;exact⟨k z (by simp) _ p,k TI (by simp) _ g,⟨a,c,k TO (by simp) _ j⟩,t.to λo e=>k l (by simp) o e,r.to λo e=>k m (by simp) o e⟩
 item:=by
  intro X hP hw hK hc i eO s σ H E I hf n hg;subst hP hw hK;obtain⟨p,g,⟨a,c,j⟩,t,r⟩:=n;obtain⟨xs,ys,x,y,q1,Z,e1,e2⟩:=hg;obtain⟨S,r1,p1,z1⟩:=I.seqB q1;obtain⟨R,r2,p2,z2⟩:=I.seqB Z;obtain⟨u,gu,ru⟩:=r1.get e1;obtain⟨v,gv,rv⟩:=r2.get e2;have C:=I.fpOk (aL _) (I.hok.fresh (aL _));refine yI D p g j t r p1 p2 (λL U h' B A a1 a2 a3 a4 a5 a6 J=>?_) λq=>?_
  .have eu:L=u:=by
    have:S[i]? = some L:=by simpa using B
    rw[gu]at this;cases this;rfl
   have ev:U=v:=by
    have:R[i]? = some U:=by simpa using A
    rw[gv]at this;cases this;rfl
   subst eu;subst ev;refine⟨_,rfl,wpAny_letOwnedTupleGo_zip a1 λQ N sb=>?_⟩;have zT:=bt (aM p);have I1:=I.turnedL (t':=s.toks) (ch:=[z,TO,l,m]) (λb o f e=>sb.extBut _ _ (λq=>f (by simp[q])) (J b o (λq=>f (by simp[q])) (λq=>f (by simp[q])) (λq=>f (by simp[q])) (λq=>f (by simp[q])) e))
    (λb f=>hf b (by
     have mem:b=z\/b=TO\/b=l\/b=m:=by simpa using f
     rcases mem with rfl|rfl|rfl|rfl<;>simp))
   have gT:=sb.extBut _ _ zT a5;have I2:fB X eO σ (gy H s.heap.objs.size (.tup [x,y])) {s with heap:=Q}:=I1.track C.1 C.2.2.2.1 C.2.1 C.2.2.2.2.1 C.2.2.2.2.2
    ⟨by show 2<=sizeLine;decide,[L,U],.cons ru (.cons rv .nil),⟨_,gT,rfl,_,rfl,rfl⟩⟩
   have lt:∀{b o},s.heap.get? b=some o->gy H s.heap.objs.size (.tup [x,y]) b=H b:=λ{b o} e=>fu (aN (aM e));refine⟨.ref s.heap.objs.size,_,I2,rfl,⟨_,x,y,rfl,C.1,rfl,λxs' h=>by rw[I.seqB_inj h q1];exact e1,λys' h=>by rw[I.seqB_inj h Z];exact e2⟩,?_,λb f=>?_⟩
   .have Y:∀c o,c≠z->h'.get? c=some o->Q.get? c=some o:=λc o c1 e=>sb.extBut _ _ c1 e;exact⟨N,Y _ _ D.TIz (J _ _ D.TIz D.TITO D.TIi1 D.TIi2 g),⟨_,_,Y _ _ D.TOz a2⟩,a3.to λo e=>Y _ o D.i1z e,a4.to λo e=>Y _ o D.i2z e⟩
   .have mem:b=z\/b=TI\/b=TO\/b=l\/b=m:=by simpa using f
    have F:=(hf b f).1;obtain⟨o1,g1,_⟩:=t.look;obtain⟨o2,g2,_⟩:=r.look;rcases mem with rfl|rfl|rfl|rfl|rfl
    .rw[lt p];exact F
    .rw[lt g];exact F
    .rw[lt j];exact F
    .rw[lt g1];exact F
    .rw[lt g2];exact F
  .exfalso;have m1:S.toArray[i]? = some u:=by simpa using gu
   have m2:R.toArray[i]? = some v:=by simpa using gv
   rcases q with q|q
   .rw[m1]at q;cases q
   .rw[m2]at q;cases q
 done:=by
  intro X hP hw hK hc i eO s σ H E I hf n hg;subst hP hw hK;obtain⟨p,g,⟨a,c,j⟩,t,r⟩:=n;obtain⟨xs,ys,q1,Z,hl⟩:=hg;obtain⟨S,r1,p1,z1⟩:=I.seqB q1;obtain⟨R,r2,p2,z2⟩:=I.seqB Z;have n1:=r1.length;have n2:=r2.length;have fpc:∀b∈[z,TO,l,m],sI X eO H b:=λb f=>hf b (by
   have mem:b=z\/b=TO\/b=l\/b=m:=by simpa using f
   rcases mem with rfl|rfl|rfl|rfl<;>simp)
  refine yI D p g j t r p1 p2 (λL U h' B A a1 a2 a3 a4 a5 a6 J=>?_) λq=>⟨I.ok.hd hc,λh' J=>⟨rfl,I.turnedL (λb o f e=>J b o (λq=>f (by simp[q])) (λq=>f (by simp[q])) (λq=>f (by simp[q])) (λq=>f (by simp[q])) e) fpc⟩⟩;exfalso;have m1:i<S.length:=by
   have:S[i]? = some L:=by simpa using B
   exact (aa.mp this).1
  have m2:i<R.length:=by
   have:R[i]? = some U:=by simpa using A
   exact (aa.mp this).1
  omega
 self:=λ_ _ _ _ _ n h=>wpAny_pyIter_zip n.1 h
def Nk:bootBuiltins "zip" = some (.type "zip"):=by decide +kernel
section
variable {X:Cx}
def Nm(K:W.Frag)(d e:Bool)(g:TA):TI:=λh H R=>g h H λj c=>∃b a,j=[.ref b,.ref a]/\(∃f,uP K c d b f)/\(∃i,uP K c e a i)/\R (QS K d e b a) c
def Mq{x1}(P:Gl X "zip")(B:X.mg "zip" = none)(N:PA X [a,b] ta)(E:starEach [a,b] X.env=[(false,eval a X.env),(false,eval b X.env)]:=by rfl)
  (c:starEach [b] X.env=[(false,eval b X.env)]:=by rfl):PI X (.Tuple elts x1 tpos) (.Call (.Name "zip" p) [a,b] [] pos) (Nm X.K b1 b2 ta):=by
 intro u s F H R I h;refine Call_ (nZ I P B Nk (PyProof.Rows.callWith_type1 (iG (N pos u s F H _ I h) λx s1 ⟨vs,H1,I1,r1,j⟩=>?_) (by rw[E,c]) (by rw[c];rfl)));obtain⟨A,w,rfl,⟨xs,j⟩,⟨Z,D⟩,q⟩:=j;obtain⟨u1,u2,rfl,v,J⟩:=L6 r1;cases v;cases J;obtain⟨x,y,r,_⟩:=I1.seqB j;obtain⟨Y,U,l,_⟩:=I1.seqB D;have d:A<s1.heap.objs.size:=by obtain⟨o,n,e,_⟩:=r.look;exact aM e
 have i:w<s1.heap.objs.size:=by obtain⟨o,n,e,_⟩:=l.look;exact aM e
 refine Ic r l λh' t k f C L S z=>?_;refine wpAny_pyIter_zip t ?_;refine⟨_,_,_,_,H1,rfl,I1.kept z,ET (zipApart_new d i),⟨t,k,⟨_,_,f⟩,C,L⟩,λb Q=>?_,q⟩;have g:b=s1.heap.objs.size+4\/b=s1.heap.objs.size+2\/b=s1.heap.objs.size+3\/b=s1.heap.objs.size\/b=s1.heap.objs.size+1:=by simpa using Q
 have m:s1.heap.objs.size<=b:=by rcases g with rfl|rfl|rfl|rfl|rfl<;>omega
 exact I1.fpOk m (I1.hok.fresh m)
end
end L2
namespace L2
open PySem PySem.Spec PyProof.Rows
def rN(h:H p=none):fw H (gy H p o):=λb u e=>by rw[fu (fF e h)];exact .of e
def fw.seqT{K:W.Frag}(e:fw H H')(h:kP K H a xs):kP K H' a xs:=by
 rcases h with (h|⟨o,h⟩)|h
 .exact .inl (.inl (e _ _ h))
 .exact .inl (.inr ⟨o,e _ _ h⟩)
 .exact .inr h
noncomputable def w9(d:List Str)(b a:Scope)(N:List Str)(c:List (Option Nat)):Bool:=
 a.kind==.function&&a.names.all (λy=>!(y.2==NameKind.cell)||a.names.lookup y.1==some .cell)&&a.names.all (λy=>!(y.2==NameKind.local)||a.names.lookup y.1==some .local) &&
 a.names.all (λy=>!(y.2==NameKind.free)||b.names.lookup y.1==some .cell)&&N.length==c.length &&
 (List.range N.length).all (λi=>match c[i]?,N[i]? with
  |some (some j),some x=>d[j]? == some x&&a.names.lookup x==some .free&&b.names.lookup x==some .cell
  |_,_=>true)
def Ph(k:∀x,X.env.scope.names.lookup x=some .cell->∃c,X.env.cells.lookup x=some c)(h:w9 X.N X.env.scope scope N ix=true):zu X scope N ix:=by
 unfold w9 at h;simp only[bN]at h;obtain⟨⟨⟨⟨⟨p,r⟩,s⟩,o⟩,l⟩,n⟩:=h;refine⟨by simpa using p,λy d e=>?_,λy d e=>?_,λy d e=>?_,by simpa using l,λi j x f q=>?_⟩
 .have:=cy.mp r y d;rw[e]at this;simpa using this
 .have:=cy.mp s y d;rw[e]at this;simpa using this
 .have:=cy.mp o y d;rw[e]at this;exact k _ (by simpa using this)
 .have m:=(aa.mp f).1;have:=cy.mp n i (aT.mpr m);rw[f,q]at this;simp only[bN,beq_iff_eq]at this;obtain⟨⟨a,b⟩,c⟩:=this;exact⟨a,b,.inr (.inl c),λz=>by have g:X.env.scope.names.lookup x=some .local:=z;rw[c]at g;cases g⟩
def GX(L:zu X scope N ix):∀x,(lg X N scope C s₃ H ex pn).env.scope.names.lookup x=some .cell->∃c,(lg X N scope C s₃ H ex pn).env.cells.lookup x=some c:=λx b=>by
 refine bJ.mp (W.cellsFrom_some _ _ _ ?_);rcases qS (.inl b) with a|a
 .exact .inr (bJ.mpr (mF a (L.fre _ a rfl)))
 .exact .inl a
def tH{K:W.Frag}(n:ix[k]? = some none)(w:ix[l]? = some none):m8 ix (Ez K 2 (t6 (iw k) (t6 (iw l) DK))):=by
 rintro x m H Q ⟨a,t,b,u,h,v,r,s,f,d,c,o,q⟩;refine⟨a,t,b,u,h,v,r,s,f,d,c,o,λi j e=>?_,q⟩;have g:k≠i:=by rintro rfl;rw[n]at e;cases e
 have p:l≠i:=by rintro rfl;rw[w]at e;cases e
 rw[ar p,ar g]
end L2
namespace L2
open PySem PySem.Spec PyProof.Rows
structure jS(K:W.Frag)(C:Addr)(m qual:Str)(st:Stmt):Prop where
 ex:∃f fd,IT K m qual st f fd/\Jv K C m f
structure j9(P:Program)(w:World)(K:W.Frag)(mg:Str->Option Value)(base:Heap)(C:Addr)(m:Str)(k:Nat)(sp:Sp):Prop where
 cl:vS K C
 ex:∃f fd ps,lA P w K mg base oZ k f fd ps sp/\Jv K C m f/\n5 K fd ps []
def CU{K:W.Frag}{st:Stmt}(l:vS K C)(D:jS K C m qual st)(S:gq N ps (eU st))
  (n:∀(kV e h:Vq) (g:Option Addr) (a j:Vq) (us:List Vq),us.length=ps.length->bindArgs (W.fnOf m qual (iu st) (fR st) (eU st) .none kV e h g a j) ⟨us,[]⟩=pure (ps.zip us))
  (d:∀vs H Q E,sp vs H Q E->vs.length=ps.length)
  (b:∀f a A c s H vs Q E,gB k (A.deeper (envOfC qual (eU st) s.heap.objs.size f a))->sp vs H Q E->
   ∃t,yF (lK oZ P w K mg base N qual (eU st) f a A c s H E).nox (fR st) t/\t {nx:=λ_ i=>Q .non i,rt:=Q} (jD N vs) H):j9 P w K mg base C m (k+1) sp:=by
 obtain⟨f,o,F,m⟩:=D.ex;exact⟨l,f,o,ps,F.ok S d (b f),m,F.binds n⟩
structure Eo(P:Program)(w:World)(K:W.Frag)(mg:Str->Option Value)(base:Heap)(x:Str)(C:Addr)(k:Nat)(sp:Sp):Prop where
 ex:∃f fd ps,lA P w K mg base oZ k f fd ps sp/\Mk K C f/\n5 K fd ps []
 mgx:mg x=some (.ref C)
section
variable {X:Cx}{x m:Str}{C:Addr}{k:Nat}{sp:Sp}{e o:Expr}{es:List Expr}{t:TA}{ta:TE}{p pos apos:Pos}
def Pb(h:Eo X.prog X.w X.K X.mg X.base x C k sp)(hr:gB (k+1) X.A)(g:PA X (e::es) t)(j:Gl X x:=by rfl)
  (c:(x==("__debug__" : Str))=false:=by decide) (i:starEach (e::es) X.env=(false,eval e X.env)::starEach es X.env:=by rfl) (d:(backTo pos (starEach es X.env)).any (·.1)=false:=by rfl) :
  PE X (.Call (.Name x p) (e::es) [] pos) (CD C sp [] E0 t):=by
 obtain⟨f,l,n,F,a,b⟩:=h.ex;exact Ku a F hr j h.mgx b .nil GQ g c i d
def Hz(h:j9 X.prog X.w X.K X.mg X.base C m k sp)(hr:gB k X.A)(c:PE X o ta)
  (d:eval (.Call (.Attribute o m apos) [] [] pos) X.env=(do
   let ov <-eval o X.env
   standAt apos.atName
   let (f,first) <-holding [ov] (getMethod ov m pl)
   callWith pos f first (backTo pos (starEach [] X.env)) (backToKw pos (keywordEach [] X.env))):=by rfl) :
  PE X (.Call (.Attribute o m apos) [] [] pos) (wC C m sp [] E0 ta sH):=by
 obtain⟨f,g,i,F,a,b⟩:=h.ex;exact Ij c h.cl a F hr b .nil GQ d
end
end L2
namespace L2
open PySem PySem.Spec PyProof.Rows
def GY(hN:X.N.Nodup)(A:X.N[i]? = some y)(E:DI X.env.scope y)
  (P:X.calm=true) (R:PI X tg iter wi) (L:zu X scope N ix) (t:m8 ix g)
  (n:∀C c H l k,PG (lg X N scope C c H l k) tg g/\EC (lg X N scope C c H l k) ifs tt/\PE (lg X N scope C c H l k) elt te)
  (Y:X.fn y=true\/X.env.scope.names.lookup y=some .local:=by first|exact .inl rfl|exact .inr rfl)
  (r:swapsWith (.ListComp elt [⟨tg,iter,ifs,0⟩] scope pos) (some (.Name y py)) spos.line X.env=pure true:=by rfl)
  (hs:∀x,foldedSetIterable iter X.env x=pure x:=by intro _;rfl):PS X (.Assign [.Name y py] (.ListComp elt [⟨tg,iter,ifs,0⟩] scope pos) spos) (lB (IE ix wi g tt te) (iw i)):=by
 intro B s u H D I h;rw[exec_Assign_Name_used _ _ _ _ r];refine aq (wpAny_standAt (aq ?_));rw[arm_evalThenUse_ListComp];refine aq (iG (wpAny_comprehension_free rfl hs (pD L.fre) L.kind L.names (iG (R B s u H _ I h) λv s1 Z=>iG Z λitv s2 h2=>?_)) λ_ K q=>ao (ao q));obtain⟨it,fp,tn,J,H2,e,I2,T,j,f2,W,⟨m0,w0⟩,turn⟩:=h2;subst e;refine BY (Q:=λx H1=>iw i x u H1 D.nx) P L t n I2 T j f2 w0 turn λE0 C m H' K U f I' q=>?_;refine wpAny_assign_Name (wJ (v:=.ref E0) I' hN A E rfl (λs3 F p=>?_) Y);obtain⟨a,S,ha⟩:=p;have ne:C≠a:=by
  rcases ha with z|z
  .rw[z];exact f.2.1
  .exact λw=>f.2.2.2.2.1 y a z w.symm
 exact⟨m,U.sameBut S ne,λh' d=>⟨_,H',F.turned (λb o hb e=>d.extBut b o hb e) f.1 f.2.1 f.2.2.2.1 f.2.2.2.2.1 f.2.2.2.2.2,q⟩⟩
end L2
namespace L2
open PySem PySem.Spec PyProof.Rows
def L9(r:gh (kV k) u):(jX P w).is k u=true:=by
 cases k with
 |inl i=>obtain⟨t,e⟩:=(show ∃t,u=Value.int i t from r);subst e;exact yZ P w i t
 |inr x=>obtain⟨t,e⟩:=(show ∃t,u=Value.str x t from r);subst e;exact zx P w x t
theorem vY:∀{ks} {us},fP (ks.map kV) us->ItemsAre (jX P w) ks us
 |[],_,r=>by rw[bW]at r;cases r;exact .nil
 |k::ks,_,r=>by
  rw[bC]at r;cases r with
  |cons h t=>exact .cons (L9 h) (vY t)
section
variable {P:Program}{w:World}{H:Hp}{h:Heap}{a:Addr}
def AM(ok:oT P w H h)(e:H a=some (.tup (ks.map kV))):(tupleKind (jX P w)).is h ks a:=by obtain⟨_,b,r,o,d,c,n,f,_⟩:=(show ib P w H h a (.tup (ks.map kV)) from ok a _ e);exact⟨o,b.toArray,n,d,c,f,by simpa using vY r⟩
end
section
variable {X:Cx}{eO:List (Addr×Obj)}{σ:St}{H:Hp}{s:Sq}{a:Addr}{y v:V}{u r:Vq}{o:Option V}{A:Around}{E:Vq->Shared->Prop}
def fB.big(I:fB X eO σ H s):sysModules<s.heap.objs.size:=by have h:mainGlobals<s.heap.objs.size:=(I.mod.glob.keeps I.bk).lt;exact Nat.lt_trans (by decide) h
def Cm(I:fB X eO σ H s)(g:PB (H a))(c:Heap.SameBut a s.heap h')(f:∃q,h'.get? a=some q)(new:ib X.prog X.w (gy H a ob) h' a ob) :
  fB X eO σ (gy H a ob) {s with heap:=h',toks:=t'}:=
 I.write (x:=a) (e:=a) g (.inl rfl) (λb q d z=>(c.2 b d).trans z) f new
end
end L2
namespace L2
open PySem PySem.Spec PyProof.Rows Builtin
section
variable {X:Cx}
def zS:V->Option Bool
 |.bl b=>some b
 |.int i=>some (i != 0)
 |_=>none
def kC:List V->Option (List Bool)
 |[]=>some []
 |v::vs=>(zS v).bind λb=>(kC vs).bind λr=>some (b::r)
theorem wM:∀{vs} {bs} {us} {i} {u},kC vs=some bs->fP vs us->us[i]? = some u->∃v,gh v u/\zS v=some (bs.getD i false)
 |[],_,_,_,_,_,.nil,e=>by simp at e
 |v::vs,bs,_,i,u,h,.cons r t,e=>by
  cases c:zS v with
  |none=>simp[kC,c]at h
  |some b=>
   cases hr:kC vs with
   |none=>simp[kC,c,hr]at h
   |some r'=>
    simp[kC,c,hr]at h;subst h;cases i with
    |zero=>simp at e;subst e;exact⟨v,r,by simpa using c⟩
    |succ i=>obtain⟨f,a,d⟩:=wM hr t (by simpa using e);exact⟨f,a,by simpa using d⟩
theorem wq:∀{vs} {bs},kC vs=some bs->vs.length=bs.length
 |[],_,h=>by cases h;rfl
 |v::vs,bs,h=>by
  cases a:zS v with
  |none=>simp[kC,a]at h
  |some b=>
   cases hr:kC vs with
   |none=>simp[kC,a,hr]at h
   |some r'=>simp[kC,a,hr]at h;subst h;simp[wq hr]
def tE(h:kC vs=some bs)(r:fP vs us):TruthOf prog w A (λi v=>us.toArray[i]? = some v) (λi=>bs.getD i false):=λi u s Q E e a=>by
 obtain⟨v,d,c⟩:=wM h r (by simpa using e);dsimp only at a;cases v with
 |bl b=>
  cases d;have:b=bs.getD i false:=by simpa[zS] using c
  rw[<-this]at a;exact wpAny_truthy_bool a
 |int n=>
  obtain⟨t,rfl⟩:=d;have:(n != 0)=bs.getD i false:=by simpa[zS] using c
  rw[<-this]at a;exact PyProof.Rows.truthy_int a
 |_=>simp[zS]at c
def DN(m:X.calm=true):jA X (.builtin "any") (λn H Q=>∃p vs bs,n=[.ref p]/\(jQ X.K H p vs\/kP X.K H p vs)/\kC vs=some bs/\Q (.bl (bs.any id)) H):=by
 intro C s E H n D Q I r h;obtain⟨p,vs,bs,rfl,j,a,q⟩:=h;obtain⟨u,rfl,y⟩:=qM r;cases y;have t:=wq a;rcases j with j|j
 .obtain⟨d,g,f,B⟩:=I.list j;have w:=g.length;have c:p<s.heap.objs.size:=by obtain⟨_,e,_⟩:=f.isList;exact aM e
  refine call_any_walk (wpAny_pyIter_list f.isList ⟨s.heap.objs.size,_,_,_,_,_,λi=>bs.getD i false,rfl,Walks.list (A:=X.A.in1) (I.ok.hd m) _ p (aN c) _,⟨⟨_,au _ rfl,rfl,rfl⟩,f.isList.push _⟩,tE a g,λx v k=>?_⟩);refine⟨.bl _,H,I.kept (λb o e=>k b o (λl=>?_) (ae _ e)),rfl,?_⟩
  .have lt:=aM e;have z:b=s.heap.objs.size:=by simpa using l
   rw[z]at lt;exact bc _ lt
  .rw[<-wH]at q;have:d.toArray.size=bs.length:=by rw[bA];omega
   rw[this];exact q
 .obtain⟨d,g,f,B⟩:=I.tuple j;have w:=g.length;have c:p<s.heap.objs.size:=by obtain⟨_,e,_⟩:=f;exact aM e
  have pt:=f;refine call_any_walk (wpAny_pyIter_tuple pt ⟨s.heap.objs.size,_,_,_,_,_,λi=>bs.getD i false,rfl,Walks.tuple (A:=X.A.in1) (I.ok.hd m) _ p (aN c) _,⟨⟨_,au _ rfl,rfl,rfl⟩,pt.push _⟩,tE a g,λx v k=>?_⟩);refine⟨.bl _,H,I.kept (λb o e=>k b o (λl=>?_) (ae _ e)),rfl,?_⟩
  .have lt:=aM e;have z:b=s.heap.objs.size:=by simpa using l
   rw[z]at lt;exact bc _ lt
  .rw[<-wH]at q;have:d.toArray.size=bs.length:=by rw[bA];omega
   rw[this];exact q
end
end L2
namespace L2
open PySem PySem.Spec PyProof.Rows
section
variable {prog:Program}{w:World}{A:Around}{E:Vq->Shared->Prop}{s:Sq}
def DP{i:Nat}{Q:Vq->Shared->Prop}(y:IsEnum s.heap e it i old)(hi:j6 b s.heap it l i)(hl:iE b s.heap l xs)(h:e≠it)
  (z:∀x h',xs[i]? = some x->IsEnumOut h' e it ((i:Int)+1) x s.heap.objs.size->j6 b h' it l (i+1)->h'.get? s.heap.objs.size=some {cls:=.type "tuple",data:=.seq #[.int i s.toks,x]}->h'.objs.size=s.heap.objs.size+1->
   (∀c o,c≠e->c≠it->s.heap.get? c=some o->h'.get? c=some o)->Q (.ref s.heap.objs.size) {s with heap:=h',toks:=s.toks+1})
  (no:xs[i]? = none->A.handled=none/\∀h' x,Heap.ExtBut it s.heap h'->(∃o,h'.get? x=some o/\o.cls=.type "StopIteration")->E (.ref x) {s with heap:=h'}) :
  wpAny (model prog w) A (Builtin.«enumerate.__next__» ⟨[.ref e],[]⟩) (λD X=>∃v,D=.done (.ret v)/\Q v X) E s:=by
 obtain⟨H,g,d,K,os⟩:=s;show wpAny _ _ (field (.ref e) 2 >>= λ_=>_) _ _ _;refine aq (wpAny_field y rfl rfl (aq (ui hi hl (λx g1 S t1 k1=>?_) no)));have j:=k1;have p:=(j.2 e h).trans y;refine aq (wpAny_field p rfl rfl ?_);refine aq (wpAny_field p rfl rfl ?_);refine aq (wpAny_mkInt (aq (wpAny_setField_rec p (by simp) λg2 y2 r=>?_)));have z2:=y2;refine aq (wpAny_setField_rec z2 (by simp) λk Y C=>?_);have z3:=Y;refine aq (wpAny_newTuple ?_);have sz:k.objs.size=H.objs.size:=by have a:=C.1;have c:=r.1;have u:=j.1;dsimp only at a c u;omega
 have t:IsEnum (k.push {cls:=.type "tuple",data:=.seq #[.int i K,x]}) e it (i+1) old:=ae _ z3;have el:=aM y;have F:∀c o,c≠e->c≠it->H.get? c=some o->k.get? c=some o:=λc o f B q=>C.extBut c o f (r.extBut c o f (j.extBut c o B q));unfold Builtin.SmallTypes.ownedTupleIsFree;refine aq (aq (wpAny_field t rfl rfl (ao ?_)));simp only[if_true];refine aq (wpAny_rule (aq (wpAny_field t rfl rfl (aq (wpAny_setField_rec t (by simp) λg5 Z P=>?_)))));have U:=Z;unfold Builtin.SmallTypes.ownedTupleHandOut;refine aq (aq (wpAny_setField_rec U (by simp) λg6 y6 N=>?_));have z6:=y6;refine wpAny_setField_rec z6 (by simp) λn y7 J=>?_;have R:=y7;have up:∀c o,c≠e->(k.push {cls:=.type "tuple",data:=.seq #[.int i K,x]}).get? c=some o->n.get? c=some o:=λc o f q=>J.extBut c o f (N.extBut c o f (P.extBut c o f q));have m:∀c o,c≠e->k.get? c=some o->n.get? c=some o:=λc o f q=>up c o f (ae _ q);have L:=up _ _ (by rw[sz];exact bt el) (au _ rfl);have I:n.objs.size=k.objs.size+1:=by have a:=J.1;have c:=N.1;have u:=P.1;dsimp only at a c u;rw[Heap.size_push]at u;omega
 refine aq (wpAny_letGo (ao ⟨_,rfl,?_⟩));rw[sz]at R L I ⊢;exact z x n S R (t1.to λo q=>m it o (Ne.symm h) (C.extBut it o (Ne.symm h) (r.extBut it o (Ne.symm h) q))) L I λc o f B q=>m c o f (F c o f B q)
def wG{i:Nat}(f:IsEnum s.heap e it i old)(j:j6 b s.heap it l i)(t:iE b s.heap l xs)(d:e≠it)
  (a:∀x h',xs[i]? = some x->IsEnumOut h' e it ((i:Int)+1) x s.heap.objs.size->j6 b h' it l (i+1)->h'.get? s.heap.objs.size=some {cls:=.type "tuple",data:=.seq #[.int i s.toks,x]}->h'.objs.size=s.heap.objs.size+1->
   (∀c o,c≠e->c≠it->s.heap.get? c=some o->h'.get? c=some o)->Q (some (.ref s.heap.objs.size)) {s with heap:=h',toks:=s.toks+1})
  (g:xs[i]? = none->A.handled=none/\∀h',Heap.ExtBut it s.heap h'->Q none {s with heap:=h'}):wpAny (model prog w) A (pyNext (.ref e)) Q E s:=by
 have ty:s.TypeIs (.ref e) "enumerate" :=⟨_,f,rfl⟩;unfold pyNext;refine aq (wpAny_attempt (wpAny_callSpecial?_slot ty F.slot_enumerate_next (wpAny_call_entry F.slot_enumerate_next ty F.entry_enumerate_next
  (DP f j t d (λx h' n k h m p r=>ao (a x h' n k h m p r)) λq=>⟨(g q).1,λh' x hk ⟨o,ho,hc⟩=>?_⟩) (F.args_enumerate_next_1 _))))
 exact aq (wpAny_isInstance ⟨o,ho,hc⟩ isSubtype_stop (ao ((g q).2 h' hk)))
noncomputable abbrev eo(b:Bool)(l:Addr):Obj:={cls:=.type (uL b),data:=.fields #[.ref l,.int 0 0]}
abbrev en(p:Addr):Obj:={cls:=.type "enumerate",data:=.fields #[.none,.bool false,.ref p,rawInt 0,.none,.none]}
def Bu b l xs:Meets (Builtin.«enumerate.__new__» ⟨[.type "enumerate",.ref l],[]⟩) (λ_ R s=>iE b s.heap l xs/\
  R (.ok (.ret (.ref (s.heap.push (eo b l)).objs.size))) {s with heap:=(s.heap.push (eo b l)).push (en s.heap.objs.size)}):=by
 refine .of_wp λprog w A R s h=>?_;obtain⟨j,g,d,m,q⟩:=s;obtain⟨i,e⟩:=h;have f:=sub_enumerate;have a:=i;obtain⟨o,n,k,r⟩:=a.look;wp_walk using mN a;refine wpAny_stack_any λp=>ao ?_;split
 .rename_i c _ _ _ _ _;cases (c==Value.type "enumerate")
  .wp_walk using mN a;exact⟨_,rfl,e⟩
  .wp_walk using mN a;exact⟨_,rfl,e⟩
 .wp_walk using mN a;exact⟨_,rfl,e⟩
def EH(f:iE b s.heap l xs)
  (h:∀h',IsEnum h' (s.heap.objs.size+1) s.heap.objs.size 0 .none->j6 b h' s.heap.objs.size l 0->h'.objs.size=s.heap.objs.size+2->(∀c o,s.heap.get? c=some o->h'.get? c=some o)->Q (.ref (s.heap.objs.size+1)) {s with heap:=h'}) :
  wpAny (model prog w) A (call (.type "enumerate") [.ref l]) Q E s:=by
 refine callType_new F.called_enumerate (by decide) (F.typeCall_enumerate_1 _) (F.newCall_enumerate_1 _) (λd=>F.args_object_init_2 d _) F.entry_enumerate_new (Bu b l xs) ⟨f,?_⟩;have e:(s.heap.push (eo b l)).objs.size=s.heap.objs.size+1:=Heap.size_push ..;have a:=au (s.heap.push (eo b l)) (o:=en s.heap.objs.size) rfl;rw[e]at a;rw[e];exact⟨⟨_,a,rfl⟩,h _ a (.of ⟨_,ae _ (au _ rfl),rfl,rfl⟩) (by rw[Heap.size_push,e]) λc o q=>ae _ (ae _ q)⟩
end
noncomputable def Q7(K:W.Frag)(b:Bool)(l:Addr):It:=
  ⟨λi H=>∃a x,uP K H b l a/\a[i]? = some x,
   λi H v c=>∃p x,v=.ref p/\H p=none/\c=gy H p (.tup [.int i,x])/\∀a,uP K H b l a->a[i]? = some x,
   λi H=>∃a,uP K H b l a/\a.length<=i⟩
def Dp{K:W.Frag}{x1}(p:e≠it) :
  Be P w K (.Tuple elts x1 pos) (Q7 K b l) [e,it] e (λi h=>(∃a,IsEnum h e it i a)/\j6 b h it l i) where
 mem:=by simp
 obj:=λi h j c C=>by
  obtain⟨⟨a,g⟩,m⟩:=j;have mem:c=e\/c=it:=by simpa using C
  rcases mem with rfl|rfl
  .exact⟨_,g,λv q=>by cases q⟩
  .obtain⟨o,q,_,d⟩:=m.look;exact⟨o,q,λv q'=>by rw[d]at q';cases q'⟩
 keep:=λi h Q j k=>by obtain⟨⟨a,g⟩,m⟩:=j;exact⟨⟨a,k e (by simp) _ g⟩,m.to λo q=>k it (by simp) o q⟩
 item:=by
  intro X L hw Y C i Z s σ H E I D j S;subst L hw Y;obtain⟨⟨a,g⟩,m⟩:=j;obtain⟨xs,x,J,e1⟩:=S;obtain⟨A,R,N,z1⟩:=I.seqB J;obtain⟨u,gu,ru⟩:=R.get e1;have t:=I.fpOk (aL _) (I.hok.fresh (aL _));refine wG g m N p (λB Q r a1 a2 a3 a4 F=>?_) λq=>?_
  .have eu:B=u:=by
    have:A[i]? = some B:=by simpa using r
    rw[gu]at this;cases this;rfl
   subst eu;refine⟨_,rfl,wpAny_letOwnedTupleGo_enum a1 λU y sb=>?_⟩;have n:=sb;have zT:=bt (aM g);have I1:=I.turnedL (t':=s.toks+1) (λb o f q=>n.extBut _ _ (λz=>f (by simp[z])) (F b o (λz=>f (by simp[z])) (λz=>f (by simp[z])) q)) (λb f=>D b f);have gT:=n.extBut _ _ zT a3;have I2:fB X Z σ (gy H s.heap.objs.size (.tup [.int i,x])) {s with heap:=U,toks:=s.toks+1}:=I1.track t.1 t.2.2.2.1 t.2.1 t.2.2.2.2.1 t.2.2.2.2.2
    ⟨by show 2<=sizeLine;decide,[.int i s.toks,B],.cons ⟨_,rfl⟩ (.cons ru .nil),⟨_,gT,rfl,_,rfl,rfl⟩⟩
   have lt:∀{b o},s.heap.get? b=some o->gy H s.heap.objs.size (.tup [.int i,x]) b=H b:=λ{b o} q=>fu (aN (aM q));refine⟨.ref s.heap.objs.size,_,I2,rfl,⟨_,x,rfl,t.1,rfl,λxs' h=>by rw[I.seqB_inj h J];exact e1⟩,?_,λb f=>?_⟩
   .exact⟨⟨_,y⟩,a2.to λo q=>n.extBut _ o (Ne.symm p) q⟩
   .have mem:b=e\/b=it:=by simpa using f
    have hn:=(D b f).1;obtain⟨o1,g1,_⟩:=m.look;rcases mem with rfl|rfl
    .rw[lt g];exact hn
    .rw[lt g1];exact hn
  .exfalso;have m1:A.toArray[i]? = some u:=by simpa using gu
   rw[m1]at q;cases q
 done:=by
  intro X L hw Y C i Z s σ H E I D j S;subst L hw Y;obtain⟨⟨a,g⟩,m⟩:=j;obtain⟨xs,J,hl⟩:=S;obtain⟨A,R,N,z1⟩:=I.seqB J;have n1:=R.length;refine wG g m N p (λB Q r a1 a2 a3 a4 F=>?_) λq=>⟨I.ok.hd C,λQ F=>⟨rfl,I.turnedL (ch:=[it]) (λb o f q=>F b o (λz=>f (by simp[z])) q) λb f=>D b (by
   have:b=it:=by simpa using f
   simp[this])⟩⟩
  exfalso;have m1:i<A.length:=by
   have:A[i]? = some B:=by simpa using r
   exact (aa.mp this).1
  omega
 self:=λ_ _ _ _ _ j h=>by obtain⟨⟨a,g⟩,_⟩:=j;exact wpAny_pyIter_enum g h
section
variable {X:Cx}
def Fw(K:W.Frag)(b:Bool)(d:TA):TI:=λe H R=>d e H λf a=>∃l,f=[.ref l]/\(∃c,uP K a b l c)/\R (Q7 K b l) a
def GI{x1}(x:Gl X "enumerate")(o:X.mg "enumerate" = none)(w:PA X [a] ta)(r:starEach [a] X.env=[(false,eval a X.env)]:=by rfl) :
  PI X (.Tuple elts x1 tpos) (.Call (.Name "enumerate" p) [a] [] pos) (Fw X.K b ta):=by
 intro g s t H R I h;refine Call_ (nZ I x o boot_enumerate (PyProof.Rows.callWith_type1 (iG (w pos g s t H _ I h) λk s1 ⟨vs,H1,I1,r1,d⟩=>?_) r rfl));obtain⟨l,rfl,⟨B,d⟩,q⟩:=d;obtain⟨u,rfl,v⟩:=qM r1;cases v;obtain⟨k,m,i,_⟩:=I1.seqB d;refine EH i λA f j z n=>?_;refine wpAny_pyIter_enum f ?_;refine⟨_,_,_,_,H1,rfl,I1.kept n,Dp (Nat.succ_ne_self _),⟨⟨_,f⟩,j⟩,λb y=>?_,q⟩;have c:b=s1.heap.objs.size+1\/b=s1.heap.objs.size:=by simpa using y
 have e:s1.heap.objs.size<=b:=by rcases c with rfl|rfl<;>omega
 exact I1.fpOk e (I1.hok.fresh e)
end
end L2
namespace HT
open PySem PySem.Spec PyProof.Rows
section
variable {prog:Program}{w:World}{A:Around}{E:Vq->Shared->Prop}{s:Sq}
def getItem_tuple_all{a d:Option Int}(b:IsTup s.heap t items)(i:s.heap.IsSliceOf sl vl vu .none)(k:IsPart vl a)(l:IsPart vu d)
  (hw:sIx items.size 0 a=0/\sIx items.size items.size d=items.size) (h:Q (.ref t) s):wpAny (model prog w) A (getItem (.ref t) (.ref sl)) Q E s:=by
 obtain⟨m,g,e,j⟩:=id i;have f:s.TypeIs (.ref sl) "slice" :=⟨m,g,e⟩;unfold getItem;try with_reducible refine wpAny_holding ?_;first|refine aq (ao ?_)|skip
 refine aq (wpAny_sequenceKey b.typeIs (by decide) ?_);refine aq (wpAny_callSpecial?_slot b.typeIs PyProof.Rows.slot_tuple_getitem
  (wpAny_call_entry PyProof.Rows.slot_tuple_getitem b.typeIs entry_tuple_getitem ?_ (args_tuple_getitem _ _)))
 show wpAny _ _ (Builtin.Tuple.tupleItemsOf (.ref t) >>= _) _ _ s;refine aq (tupleItemsOf_ b ?_);refine aq (wpAny_typeOf f ?_);rw[aR (by decide)];refine aq (mJ i k l ?_);have c:(((sIx items.size 0 a):Int)==0&&(1:Int)==1&&(sIx items.size items.size d-sIx items.size 0 a)==items.size)=true:=by rw[hw.1,hw.2];simp
 show wpAny _ _ (if (((sIx items.size 0 a):Int)==0&&1==1&&(sIx items.size items.size d-sIx items.size 0 a)==items.size)=true then _ else _) _ _ s;rw[aR c];refine aq (aq (wpAny_typeOf b.typeIs (ao ?_)));rw[aR (by decide)];refine aq (wpAny_rule ?_);exact ao ⟨_,rfl,ao h⟩
end
end HT
namespace L2
open PySem PySem.Spec PyProof.Rows
section
variable {X:Cx}
def Pu(K:W.Frag):V->Option Int->Option Int->Hp->VK->Prop:=λx c d H Q=>∃a b,x=.ref a/\kP K H a b/\(HT.sIx b.length 0 c=0/\HT.sIx b.length b.length d=b.length)/\Q (.ref a) H
def Ji:LG X (Pu X.K):=by
 intro l s p H x v u w m n o Q I i f e k h;obtain⟨a,j,rfl,d,hw,q⟩:=h;cases i;obtain⟨b,r,c,t⟩:=I.tuple d;have g:b.toArray.size=j.length:=by rw[bA];exact r.length.symm
 refine⟨"tuple",_,PyProof.Rows.slot_tuple_getitem.lookup,c.typeIs,?_⟩;exact HT.getItem_tuple_all c f e k (by rw[g];exact hw) ⟨.ref a,H,I,rfl,q⟩
end
end L2
namespace L2
open PySem PySem.Spec PyProof.Rows
section
variable {prog:Program}{w:World}{A:Around}{E:Vq->Shared->Prop}{s:Sq}{d it:Addr}{es:Array DictEntry}{ep i:Nat}
def rF(h:Heap)(d:Addr)(es:Array DictEntry)(ep:Nat):Prop:=∃o,h.get? d=some o/\o.ExactDict/\o.data=.dict es ep
def rF.to(x:rF h d es ep)(k:∀o,h.get? d=some o->h'.get? d=some o):rF h' d es ep:=let ⟨o,a,r⟩:=x;⟨o,k o a,r⟩
def rF.lt(x:rF h d es ep):d<h.objs.size:=let ⟨_,a,_⟩:=x;aM a
def rF.ty(x:rF s.heap d es ep):s.TypeIs (.ref d) "dict" :=let ⟨o,a,c,_⟩:=x;⟨o,a,c.1⟩
def FA(e:(d==sysModules)=false)(x:rF s.heap d es ep)
  (q:Q (.ref s.heap.objs.size) {s with heap:=s.heap.push {cls:=.type "dict_keyiterator",data:=.fields #[.ref d,.int 0 0,.int es.size 0,.int ep 0]}}):wpAny (model prog w) A (pyIter (.ref d)) Q E s:=by
 obtain⟨o,a,c,b⟩:=id x;refine wpAny_pyIter_slot x.ty F.slot_dict_iter (wpAny_call_entry F.slot_dict_iter x.ty F.entry_dict_iter ?_ (F.args_dict_iter_1 _));unfold Builtin.«dict.__iter__»;refine aq ?_;unfold Builtin.Dict.dictSlotNone;refine aq (wpAny_notOrdered_dict x.ty ?_);show wpAny _ _ (pure (Value.ref d)) _ _ s;refine ao ?_;show wpAny _ _ (Builtin.Dict.showsAll d >>= λ_=>_) _ _ s;unfold Builtin.Dict.showsAll;rw[aS (by rw[e];exact λz=>nomatch z)];refine aq (ao (aq (wpAny_dictEntries a b (aq (wpAny_dictEpoch a b ?_)))));refine aq (wpAny_newObj_type (ao ⟨_,rfl, "dict_keyiterator",_,⟨_,au _ rfl,rfl⟩,F.slot_dict_keyiterator_next.lookup,?_⟩));simpa[rawInt] using q
def Nb(j:s.heap.IsKeyIter it d i es.size ep)(x:rF s.heap d es ep) hi
  (q:∀h',h'.IsKeyIter it d (i+1) es.size ep->Heap.SameBut it s.heap h'->Q (some es[i].key) {s with heap:=h'}):wpAny (model prog w) A (pyNext (.ref it)) Q E s:=by
 obtain⟨o,a,c,b⟩:=id j;obtain⟨l,g,k,h⟩:=id x;have e:Builtin.Dict_items.ownsTuple "dict_keyiterator" = false:=by decide
 unfold pyNext;refine aq (wpAny_attempt (wpAny_callSpecial?_slot j.typeIs F.slot_dict_keyiterator_next (wpAny_call_entry F.slot_dict_keyiterator_next j.typeIs F.entry_dict_keyiterator_next ?_ (F.args_dict_keyiterator_next_1 _))));refine aq (ao (aq (aq ?_)));first|refine aq (wpAny_typeNameOfWhole_keyiter j.typeIs (ao (aq (wpAny_fieldsOf a b ?_))))|refine aq (wpAny_typeNameOf_keyiter j.typeIs (ao (aq (wpAny_fieldsOf a b ?_))))
 simp only[e,bZ,if_false];show wpAny _ _ (if (Value.ref d==Value.none)=true then _ else _) _ _ s;rw[aS (λz=>nomatch z)];refine aq (ao (aq (wpAny_dictEntries g h ?_)));rw[aS (by simp)];refine aq (ao (aq (wpAny_dictEpoch g h ?_)));rw[aS (by simp)];refine ao ?_;simp only[show ¬(i<0) from by omega,if_false,bL,Array.getElem?_eq_getElem hi];refine aq ?_;first|refine aq (wpAny_typeNameOfWhole_keyiter j.typeIs (ao (aq (wpAny_isOneOf_keyiter j.typeIs ?_))))|refine aq (wpAny_typeNameOf_keyiter j.typeIs (ao (aq (wpAny_isOneOf_keyiter j.typeIs ?_))))
 show wpAny _ _ (setField (.ref it) 1 (rawInt (i+1)) >>= λ_=>_) _ _ s;refine aq (wpAny_setField a b (by simp) ?_);have f:(s.heap.update it (Obj.mapFields (·.setIfInBounds 1 (rawInt (i+1))))).IsKeyIter it d (i+1) es.size ep:=⟨_,Heap.get?_update_self _ a (Obj.isFreed_of_fields (Obj.data_mapFields b _)),(Obj.cls_mapFields ..).trans c,by rw[Obj.data_mapFields b];simp[rawInt]⟩
 refine aq (wpAny_holding (aq (wpAny_isOneOf_keyiter f.typeIs ?_)));exact ao (ao ⟨_,rfl,ao (q _ f (Heap.SameBut.update ..))⟩)
def Ki(h:A.handled=none)(j:s.heap.IsKeyIter it d es.size es.size ep)(x:rF s.heap d es ep)(q:∀h',Heap.ExtBut it s.heap h'->Q none {s with heap:=h'}) :
  wpAny (model prog w) A (pyNext (.ref it)) Q E s:=by
 obtain⟨o,a,c,e⟩:=id j;obtain⟨l,f,k,g⟩:=id x;have b:Builtin.Dict_items.ownsTuple "dict_keyiterator" = false:=by decide
 unfold pyNext;refine aq (wpAny_attempt (wpAny_callSpecial?_slot j.typeIs F.slot_dict_keyiterator_next (wpAny_call_entry F.slot_dict_keyiterator_next j.typeIs F.entry_dict_keyiterator_next ?_ (F.args_dict_keyiterator_next_1 _))));refine aq (ao (aq (aq ?_)));first|refine aq (wpAny_typeNameOfWhole_keyiter j.typeIs (ao (aq (wpAny_fieldsOf a e ?_))))|refine aq (wpAny_typeNameOf_keyiter j.typeIs (ao (aq (wpAny_fieldsOf a e ?_))))
 simp only[b,bZ,if_false];show wpAny _ _ (if (Value.ref d==Value.none)=true then _ else _) _ _ s;rw[aS (λz=>nomatch z)];refine aq (ao (aq (wpAny_dictEntries f g ?_)));rw[aS (by simp)];refine aq (ao (aq (wpAny_dictEpoch f g ?_)));rw[aS (by simp)];refine ao ?_;simp only[show ¬(es.size<0) from by omega,if_false,bL,Array.getElem?_eq_none (aL es.size)];refine aq ?_;first|refine aq (wpAny_typeNameOfWhole_keyiter j.typeIs (ao ?_))|refine aq (wpAny_typeNameOf_keyiter j.typeIs (ao ?_))
 show wpAny _ _ (setField (.ref it) 0 .none >>= λ_=>_) _ _ s;refine aq (wpAny_setField a e (by simp) ?_);refine aq ?_;simp only[newExc,newTuple];refine aq (wpAny_newObj_type ?_ (by size_fits));refine aq (wpAny_of_eq (by first|rfl|(simp only[firstArgMember];rfl)) ?_);refine wpAny_newObj_type ?_ (by size_fits);simp only[raiseNew];refine aq (wpAny_handled ?_);rw[show A.in1.handled=none from h];refine aq (ao (wpAny_throw ?_));refine aq (wpAny_isInstance ⟨_,au _ rfl,rfl⟩ isSubtype_stop ?_);exact ao (q _ (((Heap.SameBut.update ..).extBut.push _).push _))
def DD(g:A.handled=none) I d (ne:d≠I) es ep :
  Walks prog w A I [I,d] [I] es.size (λi v=>∃e,es[i]? = some e/\v=e.key) (λi h=>h.IsKeyIter I d i es.size ep/\rF h d es ep) where
 sub:=λb a=>by simp at a;simp[a]
 frame:=λ_ _ _ x k=>⟨x.1.at λo e=>k I (by simp) o e,x.2.to λo e=>k d (by simp) o e⟩
 item:=λi s Q E f x q=>Nb x.1 x.2 f λc j k=>q _ c s.toks ⟨es[i],by simp[f],rfl⟩ ⟨j,x.2.to λo e=>k.extBut d o ne e⟩ λb o a e=>k.extBut b o (λz=>a (by simp[z])) e
 done:=λs Q E x q=>Ki g x.1 x.2 λc k=>q c s.toks λb o a e=>k b o (λz=>a (by simp[z])) e
 self:=λ_ _ _ _ x q=>wpAny_pyIter_keyiter x.1 q
def JD(b:(d==sysModules)=false):W.KdlSrc prog w "dict" d d es.size (λi v=>∃e,es[i]? = some e/\v=e.key) (λh=>rF h d es ep) where
 type:=λ_ x=>x.ty
 there:=λ_ x=>⟨x.lt,x.lt⟩
 keep:=λ_ _ x k=>x.to λo e=>k d (.inl rfl) o e
 notList:=by decide
 notTuple:=by decide
 hint:=λ_ _ _ _ x q=>W.kdl_hint_dict x.ty q
 iter:=λ_ _ a x=>⟨_,_,(λ_ _ q=>FA b x q),DD a _ d (aN x.lt) es ep,⟨⟨_,au _ rfl,rfl,rfl⟩,x.to λo e=>ae _ e⟩⟩
end
theorem si:∀{xs} {us},xs.length=us.length->(∀(i:Nat) v,us[i]? = some v->∃x,xs[i]? = some x/\gh x v)->fP xs us
 |[],[],_,_=>.nil
 |x::xs,u::us,hl,h=>by obtain⟨b,e,r⟩:=h 0 u rfl;simp at e;subst e;exact .cons r (si (by simpa using hl) λi v a=>by simpa using h (i+1) v (by simpa using a))
theorem mH{F:α->β->Prop}:∀{l:List α} {m:List β} {i:Nat} {a:α},Paired F l m->l[i]? = some a->∃b,m[i]? = some b/\F a b
 |_::_,_::_,0,_,.cons h _,e=>by simp at e;subst e;exact⟨_,rfl,h⟩
 |_::_,_::_,i+1,_,.cons _ r,e=>by simpa using mH r (by simpa using e)
end L2
namespace L2
open PySem PySem.Spec PyProof.Rows
section
variable {X:Cx}
def xb:V->List V->Hp->VK->Prop:=λx b H Q=>∃l a y,∃(k:Nat) (j:Int),x=.ref l/\b=[.int j,y]/\j=(k:Int)/\H l=some (.lst a)/\k<=a.length/\a.length<sizeLine/\Q .non (gy H l (.lst (a.take k++y::a.drop k)))
def M8(its:List Vq)(w:Vq){k:Nat}{j:Int}(c:j=(k:Int))(d:k<=its.length):(λa:Array Vq=>have k:=if j<0 then (j+(a.size:Int)).toNat else min j.toNat a.size;(a.extract 0 k).push w++a.extract k) its.toArray=(its.take k++w::its.drop k).toArray:=by
 have b:¬(j<0):=by omega
 have e:min j.toNat its.length=k:=by omega
 simp only[aS b,bA,e];apply Array.toList_inj.mp;simp[cx]
def Dr:Rl X "list.insert" xb:=by
 intro J s N H x K v L Q I B p h;obtain⟨l,P,y,k,j,rfl,rfl,f,g,i,C,q⟩:=h;cases B;obtain⟨u,w,rfl,⟨t,rfl⟩,c⟩:=p.two;obtain⟨z,a,n,r,m,e⟩:=I.lstM g;have b:¬(!Builtin.List.listFitsIndex j)=true:=by
  have:Builtin.List.listFitsIndex j=true:=by
   unfold Builtin.List.listFitsIndex;have o:(sizeLine:Int)<2 ^ 63:=by decide
   have E:(-(2 ^ 63:Int))<=0:=by decide
   have A:(-(2 ^ 63:Int))<=j:=Int.le_trans E (by rw[f];exact bz k);have D:j<2 ^ 63:=cz (by rw[f];exact Int.ofNat_le.mpr (aO i (bg C))) o;rw[aD A,aD D];rfl
  rw[this];decide
 have d:a.toArray.size<=sizeLine:=by rw[bA,<-m];exact z
 refine call_meets F.slot_list_insert ⟨_,e,rfl⟩ F.entry_list_insert (F.args_list_insert_3 _ _ _) (AutoSeq1.list_insert_list_int_val_1 l a.toArray n j t w b d) ⟨e,?_⟩;refine⟨.non,_,I.lset (its':=a.take k++w::a.drop k) g e (M8 a w f (by rw[<-m];exact i)) ((r.take k).append (.cons c (r.drop k))) ?_,rfl,q⟩;rw[aU,bK,aA,bM];generalize sizeLine=Z at *;omega
end
end L2
namespace L2
open PySem PySem.W PyProof.Rows
section
variable {lt:Nat->Nat->Bool}{n:Nat}{α β:Type}
def rh(lt:Nat->Nat->Bool)(n:Nat):KasT α->(α->Prop)->Prop
 |.ret a,Q=>Q a
 |.ask i j k,Q=>i<n/\j<n/\rh lt n (k (lt i j)) Q
theorem lh{f:α->KasT β}{Q:β->Prop}:∀{t:KasT α},rh lt n t (λa=>rh lt n (f a) Q)->rh lt n (t.bind f) Q
 |.ret _,h=>h
 |.ask i j k,h=>⟨h.1,h.2.1,lh (t:=k (lt i j)) h.2.2⟩
theorem C8{s:Sq}{b:Nat->Nat->(Bool->Shared->Prop)->Shared->Prop}(c:∀i j C,i<n->j<n->C (lt i j) s->b i j C s){Q:α->Shared->Prop}:∀{t:KasT α},rh lt n t (λa=>Q a s)->t.kasWp b Q s
 |.ret _,h=>h
 |.ask i j k,h=>c i j _ h.1 h.2.1 (C8 c (t:=k (lt i j)) h.2.2)
structure uq(lt:Nat->Nat->Bool):Prop where
 tr:∀{a b c},lt b a=false->lt c b=false->lt c a=false
 as:∀{a b},lt a b=true->lt b a=false
def uq.ir(o:uq lt)(a:Nat):lt a a=false:=by
 cases h:lt a a with
 |false=>rfl
 |true=>have:=o.as h;rw[h]at this;exact this
abbrev wy(n:Nat)(p:Array Nat):Prop:=p.Perm (List.range n).toArray
def ly{p:Array Nat}(h:wy n p):p.size=n:=by rw[h.size_eq];simp
def mw{p:Array Nat}(h:wy n p)(a:0<n)(i:Nat):p.getD i 0<n:=by
 rw[cA];cases e:p[i]? with
 |none=>exact a
 |some v=>have:v∈(List.range n).toArray:=h.mem_iff.mp (Array.mem_of_getElem? e);simpa using this
def qs{p:Array Nat}{i j:Nat}(a:j<=p.size)(k:Nat):(kas_rev p i j).getD k 0=if i<=k/\k<j then p.getD (i+j-1-k) 0 else p.getD k 0:=by unfold kas_rev;rw[cA,getElem?_mirror_all a];split<;>rw[cA]
def Ga{p:Array Nat}{k l:Nat}(c:k<p.size)(d:l<=k)(i:Nat):(bubble p k (k-l)).getD i 0=if i=l then p.getD k 0 else if l<i/\i<=k then p.getD (i-1) 0 else p.getD i 0:=by
 rw[cA,getElem?_bubble c _ (by omega),show k-(k-l)=l by omega];by_cases a:i=l
 .rw[aR a,aR a,cA]
 .rw[aS a,aS a];by_cases b:l<i/\i<=k
  .rw[aR b,aR b,cA]
  .rw[aS b,aS b,cA]
def ud{p:Array Nat}(h:wy n p)(i j:Nat):wy n (kas_rev p i j):=(mirror_perm _ _ _ _).trans h
def Ia(lt:Nat->Nat->Bool)(p:Array Nat)(m:Nat):Prop:=∀i j,i<j->j<m->lt (p.getD j 0) (p.getD i 0)=false
def Qm(lt:Nat->Nat->Bool)(p:Array Nat)(m:Nat):Prop:=∀i j,i<j->j<m->lt (p.getD i 0) (p.getD j 0)=false
def QY(lt:Nat->Nat->Bool)(p:Array Nat)(m q:Nat):Prop:=∀i j,m<=i+(q+1)->i<m->m<=j+(q+1)->j<m->lt (p.getD i 0) (p.getD j 0)=false
theorem xy(o:uq lt)(l:0<n){p:Array Nat}(k:wy n p){Q:Nat->Prop}:∀f m,1<=m->Ia lt p m->(∀g,m<=g->g<=m+f->Ia lt p g->(g<m+f->lt (p.getD g 0) (p.getD (g-1) 0)=true)->Q g)->rh lt n (kas_asc p f m) Q
 |0,m,_,hu,q=>q m (aL _) (aL _) hu λh=>absurd h (bc _)
 |f+1,m,h1,hu,q=>by
  refine⟨mw k l _,mw k l _,?_⟩;cases e:lt (p.getD m 0) (p.getD (m-1) 0) with
  |true=>exact q m (aL _) (ck _ _) hu λ_=>e
  |false=>
   refine xy o l k f (m+1) (by omega) (λi j r u=>?_) λg a b c d=>q g (by omega) (by omega) c λh=>d (by omega);by_cases t:j<m
   .exact hu i j r t
   .obtain rfl:j=m:=by omega
    by_cases s:i=j-1
    .rw[s];exact e
    .exact o.tr (hu i (j-1) (by omega) (by omega)) e
theorem qG(o:uq lt)(t:0<n){Q:Array Nat×Nat×Nat->Prop}:∀f p m q,wy n p->1<=m->m+f<=n->q<m->Qm lt p m->QY lt p m q->
  (∀k l s,wy n k->m<=l->l<=m+f->s<l->Qm lt k l->QY lt k l s->Q (k,l,s))->rh lt n (kas_desc f p m q) Q
 |0,p,m,q,hp,_,_,hq,hd,he,w=>w p m q hp (aL _) (aL _) hq hd he
 |f+1,p,m,q,hp,h1,hf,hq,hd,he,w=>by
  have one:∀k:Array Nat,QY lt k (m+1) 0:=λk i j a b c d=>by
   obtain rfl:i=m:=by omega
   obtain rfl:j=i:=by omega
   exact o.ir _
  have r:∀i,i<m->lt (p.getD (m-1) 0) (p.getD m 0)=false->lt (p.getD i 0) (p.getD m 0)=false:=λi z e=>by
   by_cases h:i=m-1
   .rw[h];exact e
   .exact o.tr e (hd i (m-1) (by omega) (by omega))
  refine⟨mw hp t _,mw hp t _,?_⟩;cases e:lt (p.getD m 0) (p.getD (m-1) 0) with
  |true=>
   have y:=o.as e;simp only[if_true];by_cases x:q>0
   .rw[aR x];have hr:=qs (p:=p) (i:=m-(q+1)) (j:=m) (by rw[ly hp];omega);refine qG o t f _ (m+1) 0 (ud hp _ _) (by omega) (by omega) (by omega) (λi j g u=>?_) (one _) λk l s a b c d=>w k l s a (by omega) (by omega) d;rw[hr i,hr j];by_cases v:j=m
    .rw[aS (c:=_/\j<m) (by omega),v];split
     .exact r _ (by omega) y
     .exact r _ (by omega) y
    .split
     .rw[aR (by omega)];exact he _ _ (by omega) (by omega) (by omega) (by omega)
     .split
      .exact hd _ _ (by omega) (by omega)
      .exact hd _ _ (by omega) (by omega)
   .rw[aS x];refine qG o t f p (m+1) 0 hp (by omega) (by omega) (by omega) (λi j g u=>?_) (one _) λk l s a b c d=>w k l s a (by omega) (by omega) d;by_cases v:j=m
    .subst v;exact r i g y
    .exact hd i j g (by omega)
  |false=>
   simp only[bZ,if_false];refine⟨mw hp t _,mw hp t _,?_⟩;cases A:lt (p.getD (m-1) 0) (p.getD m 0) with
   |true=>exact w p m q hp (aL _) (by omega) hq hd he
   |false=>
    simp only[bZ,if_false];refine qG o t f p (m+1) (q+1) hp (by omega) (by omega) (by omega) (λi j g u=>?_) (λi j a b c d=>?_) λk l s a b c d=>w k l s a (by omega) (by omega) d
    .by_cases v:j=m
     .subst v;exact r i g A
     .exact hd i j g (by omega)
    .by_cases z:i=m
     .subst z;by_cases u:j=i
      .subst u;exact o.ir _
      .exact o.tr (he (i-1) j (by omega) (by omega) (by omega) (by omega)) e
     .by_cases u:j=m
      .subst u;exact o.tr A (he i (j-1) (by omega) (by omega) (by omega) (by omega))
      .exact he i j (by omega) (by omega) (by omega) (by omega)
def zc(o:uq lt)(g:0<n){p:Array Nat}{m:Nat}(e:wy n p)(k:1<=m)(q:m<=n)(l:Qm lt p m){Q:Nat×Array Nat->Prop}(w:∀d f,wy n f->1<=d->d<=n->Ia lt f d->Q (d,f)):rh lt n (kas_tail3 m n p) Q:=by refine lh (xy o g (ud e 0 m) _ m k (λi j h r=>?_) λd a b c _=>w d _ (ud e 0 m) (by omega) (by omega) c);have hr:=qs (p:=p) (i:=0) (j:=m) (by rw[ly e];omega);rw[hr i,hr j,aR (by omega),aR (by omega)];exact l _ _ (by omega) (by omega)
def wB(o:uq lt){p:Array Nat}{m:Nat}(l:wy n p)(t:1<=m)(u:m+1<=n)(s:Qm lt p (m+1)){Q:Nat×Array Nat->Prop}(w:∀g h,wy n h->1<=g->g<=n->Ia lt h g->Q (g,h)):rh lt n (kas_descPart m n p) Q:=by
 have k:0<n:=by omega
 refine lh (qG o k _ p (m+1) 0 l (by omega) (by omega) (by omega) s (λi j a b c d=>?_) λh g r a b c d e f=>?_)
 .obtain rfl:i=m:=by omega
  obtain rfl:j=i:=by omega
  exact o.ir _
 .dsimp only;split
  .have hr:=qs (p:=h) (i:=g-(r+1)) (j:=g) (by rw[ly a];omega);refine zc o k (ud a _ _) (by omega) (by omega) (λi j q v=>?_) w;rw[hr i,hr j];split
   .rw[aR (by omega)];exact f _ _ (by omega) (by omega) (by omega) (by omega)
   .split
    .exact e _ _ (by omega) (by omega)
    .exact e _ _ (by omega) (by omega)
  .exact zc o k a (by omega) (by omega) e w
def Ea(o:uq lt)(q:0<n){p:Array Nat}(f:wy n p){Q:Nat×Array Nat->Prop}(w:∀l s,wy n s->1<=l->l<=n->Ia lt s l->Q (l,s)):rh lt n (kas_count n p) Q:=by
 refine lh (xy o q f _ 1 (aL _) (λi j g k=>by omega) λm a b c d=>?_);split
 .exact w m p f a (by omega) c
 .rename_i r;have h:m<n:=by have:m≠n:=λz=>r (by rw[z];exact beq_self_eq_true _);omega
  have e:=o.as (d (by omega));split
  .refine⟨mw f q _,mw f q _,?_⟩;cases u:lt (p.getD 0 0) (p.getD (m-1) 0) with
   |true=>exact w m p f a (by omega) c
   |false=>
    have up:∀i j,i<=j->j<m->lt (p.getD j 0) (p.getD i 0)=false:=λi j g k=>by
     by_cases z:i=j
     .rw[z];exact o.ir _
     .exact c i j (by omega) k
    have all:∀i j,i<m->j<m->lt (p.getD i 0) (p.getD j 0)=false:=λi j t k=>o.tr (o.tr (up j (m-1) (by omega) (by omega)) u) (up 0 i (by omega) t);have hr:=qs (p:=p) (i:=0) (j:=m) (by rw[ly f];omega);refine wB o (ud f 0 m) a h (λi j g k=>?_) w;rw[hr i,hr j,aR (c:=0<=i/\i<m) (by omega)];by_cases z:j=m
    .rw[aS (by omega),z];exact o.tr e (all _ _ (by omega) (by omega))
    .rw[aR (by omega)];exact all _ _ (by omega) (by omega)
  .refine wB o f a h (λi j g k=>?_) w;obtain rfl:m=1:=by omega
   obtain rfl:i=0:=by omega
   obtain rfl:j=1:=by omega
   exact e
theorem qZ(o:uq lt)(h:0<n){p:Array Nat}(d:wy n p){k:Nat}(g:Ia lt p k){Q:Nat->Prop}(w:∀l,l<=k->(∀i,i<l->lt (p.getD k 0) (p.getD i 0)=false)->(∀i,l<=i->i<k->lt (p.getD k 0) (p.getD i 0)=true)->Q l) :
  ∀f l r,l<=r->r<=k->r<=l+f->(∀i,i<l->lt (p.getD k 0) (p.getD i 0)=false)->(∀i,r<=i->i<k->lt (p.getD k 0) (p.getD i 0)=true)->rh lt n (kas_place p k f l r) Q
 |0,l,r,h1,h2,h3,a,b=>w l (by omega) a λi j c=>b i (by omega) c
 |f+1,l,r,h1,h2,h3,a,b=>by
  unfold kas_place;split
  .exact w l (by omega) a λi j c=>b i (by omega) c
  .refine⟨mw d h _,mw d h _,?_⟩;cases e:lt (p.getD k 0) (p.getD ((l+r) / 2) 0) with
   |true=>
    refine qZ o h d g w f l ((l+r) / 2) (by omega) (by omega) (by omega) a λi j c=>?_;by_cases z:i=(l+r) / 2
    .rw[z];exact e
    .cases y:lt (p.getD k 0) (p.getD i 0) with
     |true=>rfl
     |false=>rw[o.tr (g ((l+r) / 2) i (by omega) c) y]at e;cases e
   |false=>
    refine qZ o h d g w f ((l+r) / 2+1) r (by omega) h2 (by omega) (λi j=>?_) b;by_cases z:i=(l+r) / 2
    .rw[z];exact e
    .exact o.tr (g i ((l+r) / 2) (by omega) (by omega)) e
theorem B6(o:uq lt)(m:0<n){Q:Array Nat->Prop}(w:∀h,wy n h->Ia lt h n->Q h):∀f p k,wy n p->k+f=n->Ia lt p k->rh lt n (kas_bin f p k) Q
 |0,p,k,hp,g,hu=>w p hp (by rw[<-g];exact hu)
 |f+1,p,k,hp,g,hu=>by
  refine lh (qZ o m hp hu (λl s a b=>?_) k 0 k (bF _) (aL _) (by omega) (λi e=>by omega) λi e g=>by omega);have q:=Ga (p:=p) (k:=k) (l:=l) (by rw[ly hp];omega) s;refine B6 o m w f _ (k+1) ((bubble_perm _ _ _).trans hp) (by omega) λi j r u=>?_;rw[q i,q j];by_cases e:i=l
  .rw[aR e,aS (by omega),aR (by omega)];exact o.as (b _ (by omega) (by omega))
  .rw[aS e];by_cases d:j=l
   .rw[aR d,aS (by omega)];exact a _ (by omega)
   .rw[aS d];by_cases t:l<i
    .rw[aR (c:=l<j/\j<=k) (by omega),aR (c:=l<i/\i<=k) (by omega)];exact hu _ _ (by omega) (by omega)
    .rw[aS (c:=l<i/\i<=k) (by omega)];split
     .exact hu _ _ (by omega) (by omega)
     .exact hu _ _ (by omega) (by omega)
def GA(o:uq lt)(c:0<n){Q:Array Nat->Prop}(w:∀p,wy n p->Ia lt p n->Q p):rh lt n (kas_sort n) Q:=by
 refine lh (Ea o c (Array.Perm.refl _) λm p a d e b=>?_);dsimp only;split
 .exact B6 o c w _ p _ a (by omega) (by rw[Nat.max_eq_left d];exact b)
 .refine w p a ?_;obtain rfl:m=n:=by omega
  exact b
end
end L2
namespace L2
open PySem PySem.Spec PySem.W PyProof.Rows
def tN{a:Type}(l:List a)(d:a):(List.range l.length).map (λi=>l.getD i d)=l:=by refine cB (by simp) λi c b=>?_;simp[b]
def Am{a c:Type}{F:a->c->Prop}{l:List a}{m:List c}(h:Paired F l m)(f:a)(g:c){i:Nat}(d:i<l.length):F (l.getD i f) (m.getD i g):=by obtain⟨b,e,q⟩:=mH h (ag d);rw[af,ag d,af,e];exact q
theorem uc{b c a:Type}{F:b->c->Prop}(f:a->b)(g:a->c):∀(l:List a),(∀x∈l,F (f x) (g x))->Paired F (l.map f) (l.map g)
 |[],_=>.nil
 |x::l,h=>.cons (h x bj) (uc f g l λy d=>h y (bp _ d))
end L2
namespace L2
open PySem PySem.Spec PyProof.Rows
section
variable {prog:Program}{w:World}{K:Type}[DecidableEq K]{knd:KeyKind prog w K}
def gG(knd:KeyKind prog w K)(h:Heap)(k:K×List K)(a:Addr):Prop:=∃o v b n,h.get? a=some o/\o.cls=.type "tuple" /\o.data=.seq #[v,.ref b] n/\knd.is k.1 v=true/\IsTupleKey knd h k.2 b
def gG.typeIs{s:Sq}{k:K×List K}{a:Addr}(x:gG knd s.heap k a):s.TypeIs (.ref a) "tuple" :=let ⟨o,_,_,_,ho,hc,_⟩:=x;⟨o,ho,hc⟩
def gG.inj{h:Heap}{a:Addr}{x y:K×List K}(k:gG knd h x a)(i:gG knd h y a):x=y:=by obtain⟨o,v,b,n,j,_,z,m,s⟩:=k;obtain⟨q,p,t,A,e,_,c,f,g⟩:=i;obtain rfl:o=q:=Option.some.inj (j.symm.trans e);rw[z]at c;injection c with r _;have u:[v,Value.ref b]=[p,.ref t]:=congrArg Array.toList r;injection u with l d;injection d with d _;injection d with d;subst l d;exact Prod.ext (knd.inj _ _ _ m f) (s.inj g)
def gG.keeps{h h':Heap}{k:K×List K}{a d:Addr}{o:Obj}{es ep}(x:gG knd h k a)(g:h.get? d=some o)(l:o.data=.dict es ep)(j:Heap.SameBut d h h'):gG knd h' k a:=by
 obtain⟨i,v,b,n,e,m,c,p,q⟩:=x;have f:a≠d:=by rintro rfl;obtain rfl:i=o:=Option.some.inj (e.symm.trans g);rw[l]at c;exact nomatch c
 exact⟨i,v,b,n,(j.2 a f).trans e,m,c,p,q.keeps g l j⟩
def tJ(knd:KeyKind prog w K)(k:K×List K):Int:=reduceHash (Builtin.Tuple.tupleHashOf [knd.hash k.1,tupleKeyHash knd k.2])
variable {A:Around}{E:Vq->Shared->Prop}{s:Sq}
def yH{k:K×List K}{a:Addr}{Q:Int->Shared->Prop}(g:A.units+1<cLine)(e:gG knd s.heap k a)(h:Q (tJ knd k) {s with toks:=s.toks+(k.2.length+3)}):wpAny (model prog w) A (pyHash (.ref a)) Q E s:=by
 have c:=e.typeIs;obtain⟨o,v,b,n,f,_,j,i,d⟩:=e;unfold pyHash;first|unfold pyHashByItsType|skip
 first|refine aq (wpAny_cRoomFor_or (.inr (by omega)) ?_)|skip
 refine aq (wpAny_specialOf c F.slot_tuple_hash.lookup ?_);show wpAny _ _ (if (some (Value.builtin "tuple.__hash__")==some Value.none)=true then _ else _) Q E s;rw[aS (by rw[beq_builtin_none];exact aI)];refine aq (wpAny_specialOf c F.slot_tuple_hash.lookup ?_);show wpAny _ _ (callSpecialIfBoundUnlessNone? (.ref a) "__hash__" _ >>= _) Q E s;refine aq (wpAny_callSpecialIfBoundUnlessNone?_slot c F.slot_tuple_hash (wpAny_call_entry F.slot_tuple_hash c F.entry_tuple_hash ?_ (F.args_tuple_hash_1 _)));show wpAny _ _ (Builtin.Tuple.tupleItemsOf (.ref a) >>= _) _ _ s;refine aq (wpAny_tupleItemsOf f j ?_);refine aq ?_;rw[<-cC];show wpAny _ _ (forIn [v,Value.ref b] _ _) _ _ s;rw[bY];refine aq (aq (knd.pyHash i ?_));refine ao ?_;dsimp only;rw[bY];refine aq (aq (wpAny_pyHash_tuple (knd:=knd) (show A.units+1<cLine from g) d ?_));refine ao ?_;dsimp only;rw[cj];refine ao ?_;show wpAny _ _ (retInt (Builtin.Tuple.tupleHashOf [knd.hash k.1,tupleKeyHash knd k.2])) _ _ _;refine wpAny_ret_mkInt ?_;unfold tJ reduceHash at h;show wpAny _ _ (if (decide (-(2:Int) ^ 63<=Builtin.Tuple.tupleHashOf [knd.hash k.1,tupleKeyHash knd k.2])&&decide (Builtin.Tuple.tupleHashOf [knd.hash k.1,tupleKeyHash knd k.2]<2 ^ 63))=true then _ else _) Q E _;have d:s.toks+1+(k.2.length+1)+1=s.toks+(k.2.length+3):=by omega
 by_cases hr:(decide (-(2:Int) ^ 63<=Builtin.Tuple.tupleHashOf [knd.hash k.1,tupleKeyHash knd k.2])&&decide (Builtin.Tuple.tupleHashOf [knd.hash k.1,tupleKeyHash knd k.2]<2 ^ 63))=true
 .rw[aR hr];rw[aR hr]at h;refine ao ?_;dsimp only;rw[d];exact h
 .rw[aS hr];rw[aS hr]at h;refine aq (wpAny_rule (ao ?_));dsimp only;rw[d];exact h
def yx{x y:K×List K}{a b:Addr}{P:Fin->Shared->Prop}(u:A.units<cLine)(t:gG knd s.heap x a)(p:gG knd s.heap y b)(h:P (.done (.ret (.bool (decide (x=y))))) s) :
  wpAny (model prog w) A (Builtin.«tuple.__eq__» ⟨[.ref a,.ref b],[]⟩) P E s:=by
 have g:=p.typeIs;obtain⟨H,v,c,J,i,_,e,m,l⟩:=t;obtain⟨I,B,C,L,f,_,k,n,d⟩:=p;obtain⟨r,D⟩:=x;obtain⟨q,F⟩:=y;show wpAny _ _ (isInstance (.ref b) (.type "tuple") >>= _) _ _ s;refine aq (wpAny_isInstance g isSubtype_tuple_tuple ?_);simp only[cD,bZ,if_false];refine aq (wpAny_tupleItemsOf i e ?_);refine aq (wpAny_tupleItemsOf f k ?_);refine aq ?_;show wpAny _ _ (forIn [(v,B),(Value.ref c,Value.ref C)] _ _) _ _ s;rw[bY];refine aq (aq (knd.eqBool (a:=r) (b:=q) m n ?_));by_cases j:r=q
 .subst j;rw[aD rfl];simp only[cD,bZ,if_false];refine ao ?_;dsimp only;rw[bY];refine aq (aq (wpAny_eqBool_tuple (knd:=knd) u l d ?_));by_cases o:D=F
  .subst o;rw[aD rfl];simp only[cD,bZ,if_false];refine ao ?_;dsimp only;rw[cj];refine ao (ao ?_);rw[aD rfl]at h;exact h
  .rw[aC o];simp only[cE,if_true];rw[aC (λz=>o (congrArg Prod.snd z))]at h;exact aq (ao (ao (ao (ao h))))
 .rw[aC j];simp only[cE,if_true];rw[aC (λz=>j (congrArg Prod.fst z))]at h;exact aq (ao (ao (ao (ao h))))
def yP{x y:K×List K}{a b:Addr}{Q:Bool->Shared->Prop}(g:A.units+1<cLine)(d:gG knd s.heap x a)(f:gG knd s.heap y b)(h:Q (decide (x=y)) s) :
  wpAny (model prog w) A (eqBool (.ref a) (.ref b)) Q E s:=by
 unfold eqBool;try with_reducible refine wpAny_holding ?_;show wpAny _ _ (if (Value.ref a==Value.ref b)=true then _ else _) Q E s;by_cases c:(Value.ref a==Value.ref b)=true
 .rw[aR c];have e:a=b:=by have:=eq_of_beq c;injection this
  subst e;obtain rfl:=d.inj f;exact aq (wpAny_rule (ao (by simpa using h)))
 .rw[aS c];exact aq (wpAny_richCompare_same_room (op:=.Eq) d.typeIs f.typeIs F.slot_tuple_eq
   (wpAny_call_entry F.slot_tuple_eq d.typeIs F.entry_tuple_eq (yx (show A.units+1<cLine from g) d f ⟨_,rfl,(λe=>nomatch e),wpAny_truthy_bool h⟩) (F.args_tuple_eq_2 _ _)) (by omega))
def zI{m:Nat}{ks:List K}{a:Addr}{Q:Bool->Shared->Prop}(e:IsTupleKey knd s.heap ks a)(h:Q true s):wpAny (model prog w) A (eqIsQuiet (m+1) (.ref a)) Q E s:=by
 have i:=e.typeIs;obtain⟨o,b,n,j,_,l,k⟩:=e;unfold eqIsQuiet;refine aq (wpAny_specialOf i F.slot_tuple_eq.lookup ?_);show wpAny _ _ (isInstance (.ref a) (.type "tuple") >>= _) _ _ s;refine aq (wpAny_isInstance i isSubtype_tuple_tuple ?_);simp only[cD,bZ,if_false];refine aq (wpAny_seqItems j l ?_);refine aq ?_;show wpAny _ _ (forIn b _ _) _ _ s;rw[<-cC];refine wpAny_forIn_list _ (λg r c=>r.1=none/\c=s/\∀v∈g,carriedByValue v=true) _ ?_ ?_ _ _ ⟨rfl,rfl,k.byValue⟩
 .rintro v g r c ⟨hr,rfl,f⟩;rw[eqIsQuiet_byValue _ (f v bj)];refine aq (ao ?_);simp only[cD,bZ,if_false];exact ao ⟨rfl,rfl,λu d=>f u (bp _ d)⟩
 .rintro⟨q,p⟩ c ⟨hr,rfl,_⟩;simp only at hr;subst hr;exact ao h
def AQ{k:K×List K}{a:Addr}{Q:Bool->Shared->Prop}(d:gG knd s.heap k a)(h:Q true s):wpAny (model prog w) A (eqIsQuiet 8 (.ref a)) Q E s:=by have c:=d.typeIs;obtain⟨o,v,b,n,e,_,i,f,g⟩:=d;unfold eqIsQuiet;refine aq (wpAny_specialOf c F.slot_tuple_eq.lookup ?_);show wpAny _ _ (isInstance (.ref a) (.type "tuple") >>= _) _ _ s;refine aq (wpAny_isInstance c isSubtype_tuple_tuple ?_);simp only[cD,bZ,if_false];refine aq (wpAny_seqItems e i ?_);refine aq ?_;rw[<-cC];show wpAny _ _ (forIn [v,Value.ref b] _ _) _ _ s;rw[bY,eqIsQuiet_byValue _ (knd.byValue _ _ f)];refine aq (aq (ao ?_));simp only[cD,bZ,if_false];refine ao ?_;dsimp only;rw[bY];refine aq (aq (zI (knd:=knd) g ?_));simp only[cD,bZ,if_false];refine ao ?_;dsimp only;rw[cj];exact ao (ao h)
end
def t8{prog:Program}{w:World}{K:Type}[DecidableEq K](knd:KeyKind prog w K):HeapKind prog w (K×List K) where
 is:=gG knd
 hash:=tJ knd
 draws:=λk=>k.2.length+3
 room:=λA=>A.units+1<cLine
 inj:=λb a=>b.inj a
 keeps:=λx e g f=>x.keeps e g f
 pyHash:=λc d h=>yH c d h
 eqBool:=λc b a h=>yP c b a h
 quiet:=λd h=>AQ d h
end L2
namespace L2
open PySem PySem.Spec PyProof.Rows
abbrev FE:=(mG×List mG)×Addr×Value
def QO(P:Program)(w:World)(a:Addr)(b:List FE)(h:Heap):Prop:=(a==sysModules)=false/\b.length<=sizeLine/\∃o c d,h.get? a=some o/\o.ExactDict/\o.data=.dict c d/\c.toList=b.map (entryOfKey (t8 (jX P w)))/\(b.map (·.1)).Nodup
def wc(P:Program)(w:World)(a:Addr)(b:List FE):HO:=.ext (QO P w a b)
def x9(H:Hp)(k:mG×List mG)(b:Addr):Prop:=∃a,H b=some (.tup [kV k.1,.ref a])/\H a=some (.tup (k.2.map kV))
section
variable {P:Program}{w:World}{H H':Hp}{h h':Heap}{a b:Addr}{xs:List FE}{k:mG×List mG}
def FP(x:QO P w a xs h):ib P w H h a (wc P w a xs):=by
 refine⟨x,?_,λj i y q=>?_⟩
 .obtain⟨_,_,o,_,_,e,_⟩:=x;exact⟨o,e⟩
 .obtain⟨g,d,o,c,f,e,r⟩:=y;exact⟨g,d,o,c,f,q o e,r⟩
def GK(ok:oT P w H h)(x:x9 H k b):(t8 (jX P w)).is h k b:=by
 obtain⟨c,f,g⟩:=x;obtain⟨_,d,r,o,e,i,n,j,_⟩:=(show ib P w H h b (.tup [kV k.1,.ref c]) from ok b _ f);have:=AM ok g;cases r with
 |cons r1 r2=>
  cases r2 with
  |cons r3 r4=>cases r4;cases (show _=Value.ref c from r3);exact⟨o,_,c,n,e,i,j,L9 r1,this⟩
def CK(ok:oT P w H h)(e:H a=some (wc P w a xs))(n:∀x∈xs,x9 H x.1 x.2.1):QO P w a xs h/\h.DictOfH (t8 (jX P w)) a xs:=by obtain⟨x,_,_⟩:=(show ib P w H h a (wc P w a xs) from ok a _ e);refine⟨x,?_⟩;obtain⟨_,_,o,g,m,i,l,j,d,c⟩:=x;exact⟨o,g,m,i,l,j,d,λx f=>GK ok (n x f),c⟩
end
section
variable {X:Cx}{eO:List (Addr×Obj)}{σ:St}{H:Hp}{s:Sq}{a b:Addr}{xs:List FE}{k:mG×List mG}{r:Vq}{A:Around}{E:Vq->Shared->Prop}
def Nf{Q:Unit->Shared->Prop}(v:A.units+2<cLine)(I:fB X eO σ H s)(e:H a=some (wc X.prog X.w a xs))(o:∀x∈xs,x9 H x.1 x.2.1)(j:x9 H k b)(z:xs.length<sizeLine)
  (h:∀d,fB X eO σ (gy H a (wc X.prog X.w a (storedH xs k b r))) d->Q () d):wpAny (model X.prog X.w) A (setItem (.ref a) (.ref b) r) Q E s:=by
 obtain⟨x,n⟩:=CK I.hok e o;refine wpAny_setItem_heap (hsz:=by omega) (show A.units+1+1<cLine by omega) (GK I.hok j) n λy c p=>h _ ?_;obtain⟨q,l,i,f,t,u,m,_,g⟩:=c;refine Cm I (by rw[e];exact True.intro) p ⟨q,f⟩ (FP ⟨x.1,?_,q,l,i,f,t,u,m,g⟩);unfold storedH;split
 .rw[ay];omega
 .rw[aU,bU];omega
def BB(K:X.calm=true):jA X (.type "list") (λt H Q=>∃a xs,t=[.ref a]/\H a=some (wc X.prog X.w a xs)/\∀l:Addr,H l=none->Q (.ref l) (gy H l (.lst (xs.map λx=>.ref x.2.1)))):=by
 intro eO s σ H t us Q I r h;obtain⟨a,xs,rfl,e,q⟩:=h;obtain⟨u,rfl,S⟩:=qM r;cases S;obtain⟨⟨C,z,o,j,J,B,P,Z,p,nd⟩,_,_⟩:=(show ib X.prog X.w H s.heap a (wc X.prog X.w a xs) from I.hok a _ e);have sz:j.size=xs.length:=by rw[<-br,p,ay]
 refine W.kdl_call (JD C) (I.ok.hd K) (⟨o,B,P,Z⟩:rF s.heap a j J) (by rw[sz];exact z) λN tk c L F hl d=>?_;have g:∀(i:Nat) v,c[i]? = some v->∃y,xs[i]? = some y/\v=.ref y.2.1:=λi v m=>by
  obtain⟨en,R,h2⟩:=d.2 i v m;have f:j.toList[i]? = some en:=by simpa using R
  rw[p,ax]at f;cases n:xs[i]? with
  |none=>rw[n]at f;cases f
  |some y=>rw[n]at f;cases f;exact⟨y,rfl,h2⟩
 have al:c.size=xs.length:=by rw[<-sz];exact d.1
 have Y:fP (xs.map λx=>V.ref x.2.1) c.toList:=by refine si (by simp[al]) λi v m=>?_;obtain⟨y,D,U⟩:=g i v (by simpa using m);exact⟨.ref y.2.1,by simp[D],by rw[U];rfl⟩
 exact⟨.ref s.heap.objs.size,_,I.laid F (aL _) (show ib X.prog X.w _ N _ (.lst (xs.map λx=>V.ref x.2.1)) from ⟨by rw[ay];exact z,c.toList,L,Y,by simpa using hl⟩),rfl,q _ (I.hok.fresh (aL _))⟩
end
end L2
namespace L2
open PySem PySem.Spec PySem.W PyProof.Rows
def rm(m:List Vq)(l:List Vq)(h:TriplesOk l):jY (l++m)=jY l++jY m:=by
 fun_induction TriplesOk l with
 |case1=>rfl
 |case2 a b c d v r ih=>show v::jY (r++m)=v::(jY r++jY m);rw[ih h]
 |case3=>exact h.elim
def zU(m:List Vq)(e:TriplesOk m)(l:List Vq)(h:TriplesOk l):TriplesOk (l++m):=by
 fun_induction TriplesOk l with
 |case1=>exact e
 |case2 a b c d v r ih=>exact ih h
 |case3=>exact h.elim
def vT{a:Pos}{v:Vq}(l:List Vq)(h:codeAmong a l=some v):v∈jY l:=by
 fun_induction codeAmong a l with
 |case1=>cases h;exact bj
 |case2 _ _ _ _ _ _ _ ih=>exact bp _ (ih h)
 |case3=>cases h
def pH(H:Hp)(P:Addr)(q:Str)(b:Addr):Prop:=∃a,H P=some (.tbl q a)/\Value.ref b∈jY a.toList
section
variable {X:Cx}{eO:List (Addr×Obj)}{σ:St}{H H':Hp}{s:Sq}{P c':Addr}{q:Str}
def pH.rec'{prog:Program}{w:World}{h:Heap}(t:pH H P q c')(ok:oT prog w H h):h.CodeRec (.ref c') q:=by obtain⟨a,e,m⟩:=t;obtain⟨b,c,_,r⟩:=((show ib prog w H h P (.tbl q a) from ok P _ e)).2.2 _ m;cases c;exact r
def pH.grow{prog:Program}{w:World}{h:Heap}(t:pH H P q c')(ok:oT prog w H h)(g:∀b,H P=some (.tbl q b)->∃a,H' P=some (.tbl q (b++a))):pH H' P q c':=by obtain⟨b,e,m⟩:=t;obtain⟨a,c⟩:=g b e;refine⟨_,c,?_⟩;rw[Array.toList_append,rm _ _ ((show ib prog w H h P (.tbl q b) from ok P _ e)).2.1];exact az _ m
end
section
variable {P:Program}{w:World}{mg:Str->Option Value}{base:Heap}{k:Nat}{f:Addr}{N ps:List Str}{name qual:Str}{params:Arguments}{body:Expr}{scope:Scope}{A:Around}{outer:List Env}{s:Sq}{H:Hp}{args:Args}{us:List Vq}{vs:List V}{Q:VK}
def K2{K:W.Frag}{l g:Vq}{d:Addr}(p:s.heap.get? f=some (kla_obj name qual params body scope [] l d g))(i:s.heap.CodeRec (.ref d) qual)(S:gq N ps scope)
  (R:vs.length=ps.length) (hr:gB (k+1) A) (j:t7 P w K mg base A outer s H) (F:BindsTo s (kla_fn name qual params body scope [] l (.ref d) g) args (ps.zip us)) (r:fP vs us)
  (c:∃t,PE (lK oZ P w K mg base N qual scope f (.ref d) A outer s H E0).nox body t/\t (jD N vs) H Q) :
  codeAny (model P w) A (.call (.ref f) args) (CR oZ outer P w H s Q E0) s:=by
 have h:=j.mod.nolimit.keeps λb o e=>(j.bs b o e).1;have a:∀y∈ps.zip us,scope.names.lookup y.1=some .local\/(scope.names.lookup y.1=some .cell/\((cellsFrom (s.heap.objs.size+1) scope.names []).lookup y.1).isSome=true):=λ⟨n,v⟩ hy=>by
  rcases S.par n (aX hy).1 with q|q
  .exact .inl q
  .exact .inr ⟨q,W.cellsFrom_some _ _ _ (.inl q)⟩
 refine kla_callFunE hr.depth p rfl S.co S.gen rfl i (F _ _ _ _ ?_);refine wpAny_newFunctionEnv_cells S.kind a λE B m x=>?_;subst B;refine⟨h.keeps x.toInCall.keep,kla_codeExpr ?_⟩;obtain⟨t,C,L⟩:=c;have I:fB (lK oZ P w K mg base N qual scope f (.ref d) A outer s H E0) [] (jD N vs) H m:=wz S hr.hd j R r x;exact wpAny_mono (C [] m (jD N vs) H _ (I.wish _) L) (λu z ⟨v,H',J,rv,q⟩=>⟨v,H',J.os,J.bare,J.base,J.hok,rv,q⟩) λe z D=>D.elim
end
section
variable {X:Cx}{eO:List (Addr×Obj)}{σ:St}{H:Hp}{s:Sq}{c P:Addr}{qn:Str}{params:Arguments}{body:Expr}{scope:Scope}{pos:Pos}{A:Around}{E:Vq->Shared->Prop}{Q:Vq->Shared->Prop}
theorem Ge(I:fB X eO σ H s)(p:X.env.code=.ref c)(C:CodeHd X.base c P)(kD:(c,P)∈X.base.life.ids)(hrc:X.base.CodeRec (.ref c) qn)(hb:X.base.BuiltinsAt X.mg P)
  (hq:qn++ ".<locals>.<lambda>" = X.env.qual++ "<lambda>") (U:closureFor scope X.env=pure []) (hdef:defaultsOf params X.env=([],[]))
  (h:∀f a g pm H' s',fB X eO σ H' s'->fw H H'->(∀b,H b=none->b<s.heap.objs.size->H' b=none)->s.heap.objs.size<=f->H' f=none->pH H' P (X.env.qual++ "<lambda>") a->
   s'.heap.get? f=some (kla_obj "<lambda>" (X.env.qual++ "<lambda>") params body scope [] pm a g)->Q (.ref f) s') :
  wpAny (model X.prog X.w) A (eval (.Lambda params body scope pos) X.env) Q E s:=by
 obtain⟨m,k⟩:=I.tab c P qn kD hrc;rw[hq]at k;obtain⟨oP,tri,B⟩:=(show ib X.prog X.w H s.heap P (.tbl _ m) from I.hok P _ k);have G:s.heap.Ns mainGlobals X.mg:=let ⟨o,es,ep,e,r⟩:=I.ok.mod.glob;⟨o,es,ep,I.bk _ _ e,r⟩;have hgP:mainGlobals≠P:=λz=>by obtain⟨o,es,ep,e,r⟩:=I.ok.mod.glob;have:=(I.bs _ _ e).2;rw[z,k]at this;cases this
 have C':CodeHd s.heap c P:=C.keeps I.bk;have hb':s.heap.BuiltinsAt X.mg P:=let ⟨bm,o,h1,h2,h3,h4,h5,r⟩:=hb;⟨bm,o,h1,h2,h3,h4,I.bk _ _ h5,r⟩;refine kla_eval hdef ?_;cases hc:codeAmong pos m.toList with
 |some cv=>obtain⟨b,rfl,hbo,hbr⟩:=B cv (vT _ hc);refine kla_makeFunctionHit (mg:=X.mg) U I.ok.glob G p C' oP tri hc hb' λg L tk J Y=>?_;have I':fB X eO σ H {s with heap:=L.push {cls:=.type "function",data:=.func (kla_fn "<lambda>" (X.env.qual++ "<lambda>") params body scope [] ((X.mg "__name__").getD .none) (.ref b) g)},toks:=tk}:=I.kept λb o e=>ae _ (J b o e);exact h _ b g _ H _ I' (.refl _) (λ_ e _=>e) Y (I.hok.fresh Y) ⟨m,k,vT _ hc⟩ (au _ rfl)
 |none=>
  refine kla_makeFunction (mg:=X.mg) U I.ok.glob G p C' oP tri hc hgP hb' λa g L tk hx j K D S=>?_;have hc0:H a=none:=I.hok.fresh j;have cP:a≠P:=λz=>by rw[z]at j;exact absurd (I.hok.lt k) (cn.mpr j)
  have tri':TriplesOk [rawInt pos.line,rawInt pos.col,.ref a]:=by simp[TriplesOk,rawInt]
  have al:(m++#[rawInt pos.line,rawInt pos.col,Value.ref a]).toList=m.toList++[rawInt pos.line,rawInt pos.col,.ref a]:=by simp
  have i:∀b,b≠P->b≠a->gy (gy H a (.own P)) P (.tbl (X.env.qual++ "<lambda>") (m++#[rawInt pos.line,rawInt pos.col,.ref a])) b=H b:=λb h1 h2=>by rw[fu h1,fu h2]
  have Z:gy (gy H a (.own P)) P (.tbl (X.env.qual++ "<lambda>") (m++#[rawInt pos.line,rawInt pos.col,.ref a])) a=some (.own P):=by rw[fu cP,eW]
  have x:∀b u,H b=some u->b≠a:=λb u e=>fF e hc0;have J:∀b o,b≠P->s.heap.get? b=some o->(L.push (kla_obj "<lambda>" (X.env.qual++ "<lambda>") params body scope [] ((X.mg "__name__").getD .none) a g)).get? b=some o:=λb o hb e=>ae _ (hx b o hb e);have nP:∀b,H b=none->b≠P:=λb e z=>by rw[z,k]at e;cases e
  have fre:∀b,H b=none->b<s.heap.objs.size->gy (gy H a (.own P)) P (.tbl (X.env.qual++ "<lambda>") (m++#[rawInt pos.line,rawInt pos.col,.ref a])) b=none:=λb e l=>by rw[i b (nP b e) (aN (aF l j))];exact e
  have sm:fw H (gy (gy H a (.own P)) P (.tbl (X.env.qual++ "<lambda>") (m++#[rawInt pos.line,rawInt pos.col,.ref a]))):=λb u e=>by
   by_cases z:b=P
   .subst z;rw[k]at e;cases e;rw[eW];exact⟨_,rfl⟩
   .rw[i b z (x b u e)];exact .of e
  have hok:oT X.prog X.w (gy (gy H a (.own P)) P (.tbl (X.env.qual++ "<lambda>") (m++#[rawInt pos.line,rawInt pos.col,.ref a]))) (L.push (kla_obj "<lambda>" (X.env.qual++ "<lambda>") params body scope [] ((X.mg "__name__").getD .none) a g)):=λb u e=>by
   by_cases z:b=P
   .subst z;rw[eW]at e;cases e;refine⟨ae _ S,by rw[al];exact zU _ tri' _ tri,λv N=>?_⟩;rw[al,rm _ _ tri]at N;rcases ai.mp N with N|N
    .obtain⟨d,rfl,t,hr⟩:=B v N;obtain⟨d',R,vs,tt,e1,e2,e3⟩:=hr;cases e1;exact⟨d,rfl,by rw[i d (λz=>by rw[z,k]at t;cases t) (x d _ t)];exact t,d,R,vs,tt,rfl,J d R (λz=>by rw[z,k]at t;cases t) e2,e3⟩
    .have:v=.ref a:=by simpa[jY] using N
     subst this;obtain⟨d',R,vs,tt,e1,e2,e3⟩:=D;cases e1;exact⟨a,rfl,Z,a,R,vs,tt,rfl,ae _ e2,e3⟩
   .by_cases y:b=a
    .subst y;rw[Z]at e;cases e;obtain⟨d',R,vs,tt,e1,e2,e3⟩:=D;cases e1;exact⟨R,ae _ e2⟩
    .rw[i b z y]at e;have F:∀d,H d=some (.own b)->d≠P:=λd r w=>by rw[w,k]at r;cases r
     refine (I.hok b u e).stay (λd v t r=>J d v ?_ r) (λd r=>by rw[i d (F d r) (x d _ r)];exact r) λd xs r=>by rw[i d (λw=>by rw[w,k]at r;cases r) (x d _ r)];exact r
     rcases t with rfl|t
     .exact z
     .exact F d t
  have un:Un X.fs [] H (gy (gy H a (.own P)) P (.tbl (X.env.qual++ "<lambda>") (m++#[rawInt pos.line,rawInt pos.col,.ref a]))) s.heap (L.push (kla_obj "<lambda>" (X.env.qual++ "<lambda>") params body scope [] ((X.mg "__name__").getD .none) a g)):=
   ⟨λb o e n _ _=>J b o (nP b n) e,λb o e n _ _=>⟨o.slots,J b o (nP b n) e⟩,λb o e n _=>fre b n (aM e),λb o e _=>by
    by_cases z:b=P
    .subst z;exact⟨_,ae _ S⟩
    .exact⟨o,J b o z e⟩,λb xs e=>sm b _ e,λb o u e=>sm b _ e,λb q m e=>sm b _ e⟩
  refine h _ a g _ _ _ (I.un un hok) sm fre (bg (cF j K)) ?_ ⟨_,eW,?_⟩ (au _ rfl)
  .have hf:s.heap.objs.size<=L.objs.size:=bg (cF j K);rw[i _ (λz=>by rw[z]at hf;exact absurd (I.hok.lt k) (cn.mpr hf)) (bt K)];exact I.hok.fresh hf
  .rw[al,rm _ _ tri];exact bx _ bj
end
end L2
namespace L2
open PySem PySem.Spec PySem.W PyProof.Rows
def Ld:LI->LI->Option Bool
 |x::a,y::b=>if x=y then Ld a b else some (decide (x<y))
 |_,_=>none
def oo(a b:LI):Bool:=(Ld a b).getD (decide (a.length<b.length))
def qR(b:LI):oo [] b=decide (0<b.length):=by cases b<;>rfl
def rG(a:LI):oo a []=false:=by cases a<;>simp[oo,Ld]
def oM(x y:Int)(a b:LI):oo (x::a) (y::b)=if x=y then oo a b else decide (x<y):=by
 unfold oo;rw[Ld];by_cases h:x=y
 .rw[aR h,aR h];simp
 .rw[aS h,aS h];rfl
theorem CS:∀{a b:LI},oo a b=true->oo b a=false
 |[],b,h=>rG b
 |a::l,[],h=>by rw[rG]at h;cases h
 |x::a,y::b,h=>by
  rw[oM]at h ⊢;by_cases e:x=y
  .rw[aR e]at h;rw[aR e.symm];exact CS h
  .rw[aS e]at h;rw[aS (λz=>e z.symm)];have:=of_decide_eq_true h;exact aC (by omega)
theorem B2:∀{a b c:LI},oo b a=false->oo c b=false->oo c a=false
 |[],b,c,_,_=>rG c
 |x::a,[],c,h,_=>by rw[qR]at h;simp at h
 |x::a,y::b,[],_,h=>by rw[qR]at h;simp at h
 |x::a,y::b,z::c,e,d=>by
  rw[oM]at e d ⊢;by_cases g:y=x
  .rw[aR g]at e;by_cases f:z=y
   .rw[aR f]at d;rw[aR (f.trans g)];exact B2 e d
   .rw[aS f]at d;rw[aS (by omega),<-g];exact d
  .rw[aS g]at e;have e:=of_decide_eq_false e;by_cases f:z=y
   .rw[aS (by omega)];exact aC (by omega)
   .rw[aS f]at d;have d:=of_decide_eq_false d;rw[aS (by omega)];exact aC (by omega)
theorem v7:∀a:LI,oo a a=false
 |[]=>rfl
 |x::a=>by rw[oM,aR rfl];exact v7 a
theorem zZ:∀{a b:LI},oo a b=false->oo b a=false->a=b
 |[],[],_,_=>rfl
 |[],y::b,h,_=>by rw[qR]at h;simp at h
 |x::a,[],_,h=>by rw[qR]at h;simp at h
 |x::a,y::b,h1,h2=>by
  rw[oM]at h1 h2;by_cases e:x=y
  .rw[aR e]at h1;rw[aR e.symm]at h2;rw[e,zZ h1 h2]
  .rw[aS e]at h1;rw[aS (λz=>e z.symm)]at h2;have:=of_decide_eq_false h1;have:=of_decide_eq_false h2;omega
abbrev Ky:=Int×LI
def sU(f g:Ky):Bool:=if f.1=g.1 then oo f.2 g.2 else decide (f.1<g.1)
def Fo{f g:Ky}(h:sU f g=true):sU g f=false:=by
 unfold sU at h ⊢;by_cases e:f.1=g.1
 .rw[aR e]at h;rw[aR e.symm];exact CS h
 .rw[aS e]at h;rw[aS (λz=>e z.symm)];have:=of_decide_eq_true h;exact aC (by omega)
def FH{a b c:Ky}(e:sU b a=false)(d:sU c b=false):sU c a=false:=by
 unfold sU at e d ⊢;by_cases g:b.1=a.1
 .rw[aR g]at e;by_cases f:c.1=b.1
  .rw[aR f]at d;rw[aR (f.trans g)];exact B2 e d
  .rw[aS f]at d;rw[aS (by omega),<-g];exact d
 .rw[aS g]at e;have e:=of_decide_eq_false e;by_cases f:c.1=b.1
  .rw[aS (by omega)];exact aC (by omega)
  .rw[aS f]at d;have d:=of_decide_eq_false d;rw[aS (by omega)];exact aC (by omega)
def Jb(fs:List Ky)(d:Ky):uq λi j=>sU (fs.getD i d) (fs.getD j d):=⟨λp q=>FH p q,λp=>Fo p⟩
section
variable {prog:Program}{w:World}{A:Around}{E:Vq->Shared->Prop}{s:Sq}
theorem Dc{R:Option Fin×Unit->Shared->Prop}{a:Vq×Value->Option Fin×Unit->Sem (ForInStep (Option Fin×Unit))}
  (g:∀(n m:Int) (t u:Tok) (b:ForInStep (Option Fin×Unit)->Shared->Prop),(n=m->b (.yield (none,())) s)->(n≠m->b (.done (some (.done (.ret (.bool (decide (n<m))))),())) s)->wpAny (model prog w) A (a (.int n t,.int m u) (none,())) b E s)
  : ∀{f i:List Vq} {j d:LI},IntsAre f j->IntsAre i d->(∀o,Ld j d=o->R (o.map λc=>Fin.done (.ret (.bool c)),()) s)->wpAny (model prog w) A (forIn (f.zip i) (none,()) a) R E s
 |_,_,_,_,.nil,_,h=>by rw[List.zip_nil_left,cj];exact ao (h none (by simp[Ld]))
 |_,_,_,_,.cons _ _ _,.nil,h=>by rw[List.zip_nil_right,cj];exact ao (h none (by simp[Ld]))
 |_,_,_,_,.cons n t hx,.cons m u hy,h=>by
  rw[cG,bY];refine aq (g n m t u _ (λe=>?_) λe=>?_)
  .exact Dc g hx hy λo k=>h o (by rw[Ld,aR e];exact k)
  .exact ao (h (some (decide (n<m))) (by rw[Ld,aS e]))
theorem vv{a b:Addr}{y f:Obj}{r k:Array Vq}{C I:Nat}{l q:LI}{P:Fin->Shared->Prop}(j:s.heap.get? a=some y)(g:y.data=.seq r C)(d:s.heap.get? b=some f)(i:f.cls=.type "tuple")(p:f.data=.seq k I)
  (x:IntsAre r.toList l) (v:IntsAre k.toList q) (h:P (.done (.ret (.bool (oo l q)))) s) :
  wpAny (model prog w) A (Builtin.«tuple.__lt__» ⟨[.ref a,.ref b],[]⟩) P E s:=by
 show wpAny _ _ (isInstance (.ref b) (.type "tuple") >>= _) _ _ s;refine aq (wpAny_isInstance ⟨f,d,i⟩ isSubtype_tuple_tuple ?_);simp only[cD,bZ,if_false];refine aq (wpAny_tupleItemsOf j g ?_);refine aq (wpAny_tupleItemsOf d p ?_);refine aq (Dc (s:=s) (λn m t u J D H=>?_) x v λo z=>?_)
 .refine aq (wpAny_eqBool_int ?_);by_cases e:n=m
  .rw[show (n==m)=true from beq_iff_eq.mpr e];simp only[cD,bZ,if_false];exact ao (D e)
  .rw[show (n==m)=false from beq_eq_false_iff_ne.mpr e];simp only[cE,if_true];refine aq (wpAny_rule ?_);refine aq (wpAny_lt_int ?_);exact aq (ao (ao (H e)))
 .have F:r.size=l.length:=by rw[<-br,x.length]
  have B:k.size=q.length:=by rw[<-br,v.length]
  unfold oo at h;rw[z]at h;cases o with
  |none=>refine ao ?_;rw[F,B];exact h
  |some c=>exact ao h
end
end L2
namespace L2
open PySem PySem.Spec PySem.W PyProof.Rows
structure Ow(X:Cx)(eO:List (Addr×Obj))(a:Addr):Prop where
 l:a≠X.env.locals
 f:a∉X.fs
 z:X.s₀.heap.objs.size<=a
 c:∀x c,X.env.cells.lookup x=some c->c≠a
 p:∀q∈X.pn++eO,q.1≠a
section
variable {X:Cx}{eO:List (Addr×Obj)}{σ:St}{H:Hp}{s:Sq}{a:Addr}
def fB.ow(I:fB X eO σ H s)(h:s.heap.objs.size<=a):Ow X eO a where
 l:=bt (aF I.lt h)
 f:=I.nofs h
 z:=aO I.sz h
 c:=λx c e q=>by obtain⟨v,o,b,_⟩:=I.cell x c e;subst q;exact absurd (aM b) (cn.mpr h)
 p:=λq d e=>by have:=aM (I.pin q d).1;rw[e]at this;exact absurd this (cn.mpr h)
def Ow.turn{h':Heap}{t':Nat}(o:Ow X eO a)(I:fB X eO σ H s)(d:H a=none)(k:∀b u,b≠a->s.heap.get? b=some u->h'.get? b=some u):fB X eO σ H {s with heap:=h',toks:=t'}:=I.turned k d o.l (.inr o.z) o.c o.p
def Ow.stk(o:Ow X eO a)(I:fB X eO σ H s):a∉CY X.stack:=λz=>by
 rcases aG.mp (I.stkSub a z) with e|e
 .exact o.l e
 .exact o.f e
end
def uQ(H:Hp)(b:Addr)(f:Ky):Prop:=∃a,H b=some (.tup [.int f.1,.ref a])/\H a=some (.tup (f.2.map V.int))
def BI(H:Hp)(v:Vq)(f:Ky):Prop:=∃a,v=.ref a/\uQ H a f
def uQ.mono{H a:Hp}{b:Addr}{f:Ky}(x:uQ H b f)(h:fw H a):uQ a b f:=let ⟨b2,e1,e2⟩:=x;⟨b2,h _ _ e1,h _ _ e2⟩
def ky(f:Ky):Ky:=(-f.1,f.2)
section
variable {X:Cx}{eO:List (Addr×Obj)}{σ:St}{H:Hp}{s:Sq}{A:Around}{E:Vq->Shared->Prop}
def yz(I:fB X eO σ H s){a:Addr}{f:Ky}(x:uQ H a f):∃o t b n o2 its d,s.heap.get? a=some o/\o.cls=.type "tuple" /\o.data=.seq #[.int f.1 t,.ref b] n/\s.heap.get? b=some o2/\o2.cls=.type "tuple" /\o2.data=.seq its d/\IntsAre its.toList f.2/\H b=some (.tup (f.2.map V.int)):=by
 obtain⟨b,k,i⟩:=x;obtain⟨_,its,r,o,j,m,n,p,_⟩:=(show ib X.prog X.w H s.heap a (.tup _) from I.hok a _ k);obtain⟨_,c,l,o2,e,g,d,h,_⟩:=(show ib X.prog X.w H s.heap b (.tup _) from I.hok b _ i);cases r with
 |cons r1 r'=>
  cases r' with
  |cons r3 r4=>cases r4;obtain⟨t,rfl⟩:=r1;cases (show _=Value.ref b from r3);exact⟨o,t,b,n,o2,c.toArray,d,j,m,p,e,g,h,by simpa using pS l,i⟩
def Jl(hu:A.units+2<cLine)(I:fB X eO σ H s){ks:List Vq}{fs:List Ky}(P:Paired (BI H) ks fs)(d:Ky){i j:Nat}{C:Bool->Shared->Prop}(N:i<ks.length)(R:j<ks.length)(h:C (sU (fs.getD i d) (fs.getD j d)) s) :
  kas_ask X.prog X.w A (tuples' (Value.type "int" != Value.type "tuple")) ks i j C s:=by
 obtain⟨f,S,a,e2,U⟩:=mH P (ag N);obtain⟨g,B,a',J,l⟩:=mH P (ag R);rw[show fs.getD i d=f by rw[af,S];rfl,show fs.getD j d=g by rw[af,B];rfl]at h;obtain⟨o,t,b2,n,o2,its,n2,h1,h2,h3,p,L,Y,h7,h8⟩:=yz I U;obtain⟨o',t',r,n',k,Q,n2',v,h2',K,c,b,m,u,D⟩:=yz I l;unfold kas_ask;rw[af,ag N,af,ag R];show wpAny _ A (keyLt' _ ks[i] ks[j]) C _ _;rw[e2,J];refine kat_lt h1 h3 v K ?_;show KatLex _ _ _ _ false _ [(.int f.1 t,.int g.1 t'),(.ref b2,.ref r)] 0 _;unfold sU at h;refine kat_cons (wpAny_eqBool_int ?_);by_cases e:f.1=g.1
 .rw[aR e]at h;rw[show (f.1==g.1)=true from beq_iff_eq.mpr e];refine kat_yes (kat_cons (wpAny_eqBool_tuple (knd:=jX X.prog X.w) (x:=f.2.map Sum.inl) (y:=g.2.map Sum.inl) (by omega) (AM I.hok (by rw[aJ];exact h8)) (AM I.hok (by rw[aJ];exact D)) ?_));by_cases z:f.2=g.2
  .rw[aD (show f.2.map (Sum.inl:Int->mG)=g.2.map Sum.inl by rw[z])];rw[z,v7]at h;exact kat_yes (kat_nil h)
  .have Z:f.2.map (Sum.inl:Int->mG)≠g.2.map Sum.inl:=λq=>z ((cH λ_ _ w=>Sum.inl.inj w).mp q);rw[aC Z];refine kat_no ?_;refine kat_one _ _ ?_;refine wpAny_richCompare_same_room (op:=.Lt) ⟨o2,p,L⟩ ⟨k,c,b⟩ F.slot_tuple_lt (wpAny_call_entry F.slot_tuple_lt ⟨o2,p,L⟩ F.entry_tuple_lt (vv p Y c b m h7 u ⟨_,rfl,(λq=>nomatch q),h⟩) (F.args_tuple_lt_2 _ _)) (by omega)
 .rw[aS e]at h;rw[show (f.1==g.1)=false from beq_eq_false_iff_ne.mpr e];refine kat_no ?_;exact oneLt_int h
theorem HA(I:fB X eO σ H s){ks:List Vq}{fs:List Ky}(l:Paired (BI H) ks fs)(g:1<=ks.length){Q:SortKind->Shared->Prop}(h:Q (tuples' (Value.type "int" != Value.type "tuple")) s) :
  wpAny (model X.prog X.w) A (keyKind' ks.toArray) Q E s:=by
 have go:∀{ks:List Vq} {fs:List Ky},Paired (BI H) ks fs->∃b,KatTups s.heap ks b/\b.length=ks.length/\∀f∈b,∃i t,f=Value.int i t:=λ{ks fs} p=>by
  induction p with
  |nil=>exact⟨[],trivial,rfl,λ_ z=>nomatch z⟩
  |cons x r ih=>
   obtain⟨b,e,j,d⟩:=ih;obtain⟨a,rfl,k⟩:=x;obtain⟨o,t,B,n,o2,m,y,g,u,q,_⟩:=yz I k;refine⟨_::b,KatTups.cons g u q rfl e,by simp[j],λf c=>?_⟩;rcases aG.mp c with rfl|c
   .exact⟨_,_,rfl⟩
   .exact d f c
 obtain⟨b,e,j,d⟩:=go l;refine kat_kind e (by omega) (T:=.type "int") (λf c=>?_) (by decide) h;obtain⟨i,v,rfl⟩:=d f c;exact Looks.of_pure rfl
def PR(X:Cx)(eO:List (Addr×Obj))(σ:St)(H0:Hp)(D a f P:Addr)(b:Obj)(q:Str)(d c:Nat)(ks:List Vq)(fs:List Ky)(s:Sq):Prop:=∃H e,fB X eO σ H s/\fw H0 H/\H D=none/\H a=none/\H f=none/\s.heap.get? D=some (seqObj "list" #[] c)/\s.heap.get? a=some (seqObj "list" ks.toArray e)/\s.heap.get? f=some b/\pH H P q d/\Paired (BI H) ks fs
def FV(X:Cx)(eO:List (Addr×Obj))(σ:St)(f P:Addr)(c:Obj)(q:Str)(d:Nat):Prop:=∀(s:Sq) (H:Hp) (b:Addr) (g:Ky),fB X eO σ H s->s.heap.get? f=some c->pH H P q d->uQ H b g->
 codeAny (model X.prog X.w) X.A.in1.in1 (.call (.ref f) ⟨[.ref b],[]⟩) (CR oZ X.stack X.prog X.w H s (λv e=>∃p,v=.ref p/\H p=none/\∃a,H b=some (.tup [.int g.1,.ref a])/\e=gy H p (.tup [.int (-g.1),.ref a])) E0) s
theorem FR{D J f P:Addr}{K:Obj}{q:Str}{S e1:Nat}{ks:List Vq}{fs:List Ky}{H0:Hp}{b:Addr}{g:Ky}(oD:Ow X eO D)(oS:Ow X eO J)(oF:Ow X eO f)(hL:FV X eO σ f P K q S)(hg:uQ H0 b g)
  (hx:PR X eO σ H0 D J f P K q S e1 ks fs s) {Q:Vq->Shared->Prop} (hQ:∀k j H e,fB X eO σ H j->fw H0 H->H D=none->H J=none->H f=none->j.heap.get? D=some (seqObj "list" #[] e1)->j.heap.get? J=some (seqObj "list" ks.toArray e)->j.heap.get? f=some K->pH H P q S->Paired (BI H) (ks++[k]) (fs++[ky g])->Q k j) :
  wpAny (model X.prog X.w) X.A.in1.in1 (call (.ref f) [.ref b]) Q E s:=by
 obtain⟨H,e,I,sm,Z,nS,nF,gD,gS,L,tb,pr⟩:=hx;refine wpAny_call (codeAny_mono (hL s H b g I L tb (hg.mono sm)) λr j F=>?_);cases r with
 |error e=>exact F.elim
 |ok fl=>
  cases fl with
  |next=>exact False.elim F
  |brk=>exact False.elim F
  |cont=>exact False.elim F
  |ret u=>
   obtain⟨v,H',os,y,un,N,rv,p,rfl,hp,C,Y,rfl⟩:=F;cases (show u=Value.ref p from rv);obtain⟨hh,gg,d,t,R⟩:=j;obtain rfl:R=s.os:=os;have I':=I.call (t':=t) (d':=d) un N y (λb z=>absurd z (by simp));have i:fw H (gy H p (.tup [.int (-g.1),.ref C])):=λc o B=>by rw[fu (fF B hp)];exact .of B
   have x:∀{c:Addr} {o:Obj},Ow X eO c->H c=none->s.heap.get? c=some o->hh.get? c=some o/\gy H p (.tup [.int (-g.1),.ref C]) c=none:=λ{c o} ow n B=>⟨un.keep c o B n (ow.stk I) (by simp),un.free c o B n (by simp)⟩;obtain⟨U,x1,x2⟩:=hg.mono sm;rw[Y]at x1;have:C=U:=by cases x1;rfl
   subst this;refine hQ _ _ _ e I' (sm.trans i) (x oD Z gD).2 (x oS nS gS).2 (x oF nF L).2 (x oD Z gD).1 (x oS nS gS).1 (x oF nF L).1 (tb.grow I.hok λps ep=>?_) ?_
   .exact i _ _ ep
   .have ap:∀{l:List Vq} {m:List Ky},Paired (BI H) l m->Paired (BI (gy H p (.tup [.int (-g.1),.ref C]))) (l++[.ref p]) (m++[ky g]):=λ{l m} z=>by
     induction z with
     |nil=>exact .cons ⟨p,rfl,C,eW,i _ _ x2⟩ .nil
     |cons h t ih=>exact .cons (let ⟨a,ea,xa⟩:=h;⟨a,ea,xa.mono i⟩) ih
    exact ap pr
end
section
variable {X:Cx}{eO:List (Addr×Obj)}{σ:St}{H:Hp}{s:Sq}{E:Vq->Shared->Prop}
def EB{a:Type}{p:Array Nat}{l:List a}(d:a)(b:wy l.length p):(p.toList.map λi=>l.getD i d).Perm l:=by
 have c:p.toList.Perm (List.range l.length):=by simpa using b.toList
 have:=c.map λi=>l.getD i d;rwa [tN]at this
theorem Bc{D f P:Addr}{fo:Obj}{q:Str}{c' n:Nat}{bs:List Addr}{fl:List Ky}{Q:Fin->Shared->Prop}(hu:X.A.units+8<cLine)(I:fB X eO σ H s)(U:Ow X eO D)(oF:Ow X eO f)(nD:H D=none)(nF:H f=none)(hDf:D≠f)(gD:s.heap.get? D=some (seqObj "list" (bs.map Value.ref).toArray n))(gF:s.heap.get? f=some fo)(tb:pH H P q c')
  (hL:FV X eO σ f P fo q c') (hf:Paired (uQ H) bs fl) (h64:fl.length<64)
  (h:∀K t d r,fB X eO σ K t->fw H K->K D=some (.lst (d.map V.ref))->(∀R:Addr->Ky->Prop,Paired R bs fl->Paired R d r)->r.Perm fl->r.Pairwise (λa b=>sU (ky b) (ky a)=false)->Q (.done (.ret .none)) t) :
  wpAny (model X.prog X.w) X.A.in1.in1 (ksk_tree D (.ref f) false) Q E s:=by
 have N:bs.length=fl.length:=Paired.length hf;have sl:64<=sizeLine:=by decide
 have hz:(bs.map Value.ref).toArray.size=fl.length:=by simp[N]
 unfold ksk_tree;refine aq (listItems_at gD rfl ?_);refine aq (listUpdate_at gD rfl ?_ (by rw[hz];omega) (bF _));obtain⟨e1,gD1⟩:∃e1,(s.heap.update D (Obj.mapSeq λ_=>(#[]:Array Vq))).get? D=some (seqObj "list" #[] e1):=⟨_,get?_update_seq gD λ_=>#[]⟩;have I1:fB X eO σ H {s with heap:=s.heap.update D (Obj.mapSeq λ_=>(#[]:Array Vq))}:=U.turn (t':=s.toks) I nD λb u F e=>by rw[Heap.get?_update_ne _ _ _ _ F];exact e
 have gF1:(s.heap.update D (Obj.mapSeq λ_=>(#[]:Array Vq))).get? f=some fo:=by rw[Heap.get?_update_ne _ _ _ _ (Ne.symm hDf)];exact gF
 refine aq (seqEpoch_at gD1 rfl ?_);refine aq (wpAny_newTuple ?_ (by simp[N];omega));have I2:=I1.kept (t':=s.toks) λb u e=>ae (seqObj "tuple" (bs.map Value.ref).toArray.toList.toArray 0) e;refine aq (wpAny_newList ?_ (bF _));have I3:=I2.kept (t':=s.toks) λb u e=>ae (seqObj "list" [].toArray 0) e;refine wpAny_holding ?_;dsimp only at I2 I3 ⊢;generalize hh:(s.heap.update D (Obj.mapSeq λ_=>(#[]:Array Vq))).push (seqObj "tuple" (bs.map Value.ref).toArray.toList.toArray 0)=h2 at I2 I3 ⊢;have gD3:(h2.push (seqObj "list" [].toArray 0)).get? D=some (seqObj "list" #[] e1):=ae _ (by rw[<-hh];exact ae _ gD1);have gF3:(h2.push (seqObj "list" [].toArray 0)).get? f=some fo:=ae _ (by rw[<-hh];exact ae _ gF1);have oS:Ow X eO h2.objs.size:=I2.ow (aL _);have nS:H h2.objs.size=none:=I2.hok.fresh (aL _);have neD:D≠h2.objs.size:=λz=>by have:=aM (show h2.get? D=some _ by rw[<-hh];exact ae _ gD1);rw[z]at this;exact absurd this (bc _)
 have neF:f≠h2.objs.size:=λz=>by have:=aM (show h2.get? f=some _ by rw[<-hh];exact ae _ gF1);rw[z]at this;exact absurd this (bc _)
 unfold ksk_rest;refine aq (wpAny_rule ?_);rw[List.forIn_toArray];refine aq (ksk_fold (λi t=>∃ks,ks.length=i/\PR X eO σ H D h2.objs.size f P fo q c' e1 ks ((fl.take i).map ky) t) (bs.map Value.ref) 0 _ ⟨[],rfl,H,0,I3,.refl _,nD,nS,nF,gD3,au _ rfl,gF3,tb,.nil⟩ (λj x t hx hI=>?_) λt hI=>?_)
 .obtain⟨ks,m,hS⟩:=hI;rw[aH]at hS m;rw[ax]at hx;obtain⟨b,F,rfl⟩:=cI.mp hx;obtain⟨g,hg,xg⟩:=mH hf F;have hj:j<fl.length:=(aa.mp hg).1;refine aq (wpAny_attempt (FR U oS oF hL xg hS λk o K e J sm n1 n2 n3 g1 g2 g3 tb' Z=>?_));dsimp only;have J':fB X eO σ K {o with heap:=o.heap.update h2.objs.size (Obj.mapSeq (·.push k))}:=oS.turn (t':=o.toks) J n2 λb u F e=>by rw[Heap.get?_update_ne _ _ _ _ F];exact e
  refine aq (listUpdate_at g2 rfl ?_ (by rw[bA,m];omega) (by show (ks.toArray.push k).size<=_;rw[Array.size_push,bA,m];omega));obtain⟨e2,ge2⟩:∃e2,(o.heap.update h2.objs.size (Obj.mapSeq (·.push k))).get? h2.objs.size=some (seqObj "list" (ks++[k]).toArray e2):=⟨_,by rw[show (ks++[k]).toArray=ks.toArray.push k by simp];exact get?_update_seq g2 (·.push k)⟩;refine ao ⟨rfl,ks++[k],by simp[m],K,e2,J',sm,n1,n2,n3,?_,?_,?_,tb',?_⟩
  .rw[Heap.get?_update_ne _ _ _ _ neD];exact g1
  .exact ge2
  .rw[Heap.get?_update_ne _ _ _ _ neF];exact g3
  .rw[aH,cJ,hg];simpa using Z
 .obtain⟨ks,m,K,e,J,sm,n1,n2,n3,g1,g2,g3,tb',Z⟩:=hI;rw[aH,ay]at m Z;rw[cx (by omega)]at Z;refine aq (listItems_at g2 rfl ?_);have fin:∀(d:List Addr) (r:List Ky) (st:SortSt),(arrOf st).map (·.2)=(d.map Value.ref).toArray->failedOf st=none->d.length=bs.length->(∀R:Addr->Ky->Prop,Paired R bs fl->Paired R d r)->r.Perm fl->r.Pairwise (λa b=>sU (ky b) (ky a)=false)->
    wpAny (model X.prog X.w) X.A.in1.in1 (ksk_tail D false e1 (.ref h2.objs.size) st) Q E t:=λd r st ho S kh pf pm pw=>by
   unfold ksk_tail;dsimp only;refine aq (listUpdate_at g2 rfl ?_ (by rw[bA,m];omega) (bF _));refine aq (wpAny_letGo ?_);have J1:fB X eO σ K {t with heap:=t.heap.update h2.objs.size (Obj.mapSeq λ_=>#[])}:=oS.turn (t':=t.toks) J n2 λb u F e=>by rw[Heap.get?_update_ne _ _ _ _ F];exact e
   have Y:(t.heap.update h2.objs.size (Obj.mapSeq λ_=>#[])).get? D=some (seqObj "list" #[] e1):=by rw[Heap.get?_update_ne _ _ _ _ neD];exact g1
   refine aq (seqEpoch_at Y rfl ?_);simp only[bZ,if_false];rw[ho];have hsz:(d.map Value.ref).toArray.size=fl.length:=by simp[kh,N]
   refine aq (listUpdate_at Y rfl ?_ (bF _) (by rw[hsz];omega));rw[S];simp only[bne_self_eq_false,bZ,if_false];have J2:=U.turn (h':=(t.heap.update h2.objs.size (Obj.mapSeq λ_=>#[])).update D (Obj.mapSeq λ_=>(d.map Value.ref).toArray)) (t':=t.toks) J1 n1 λb u F e=>by rw[Heap.get?_update_ne _ _ _ _ F];exact e
   obtain⟨e3,g4⟩:∃e3,((t.heap.update h2.objs.size (Obj.mapSeq λ_=>#[])).update D (Obj.mapSeq λ_=>(d.map Value.ref).toArray)).get? D=some (seqObj "list" (d.map Value.ref).toArray e3):=⟨_,get?_update_seq Y λ_=>(d.map Value.ref).toArray⟩;have vr:∀l:List Addr,fP (l.map V.ref) (l.map Value.ref):=λl=>by
    induction l with
    |nil=>exact .nil
    |cons b l ih=>exact .cons rfl ih
   refine ao (h (gy K D (.lst (d.map V.ref))) _ d r (J2.track n1 (.inr U.z) U.l U.c U.p (show ib X.prog X.w _ _ _ (.lst _) from ⟨by rw[ay,kh,N];omega,d.map Value.ref,e3,vr d,g4⟩)) (sm.trans λb u e=>by rw[fu (fF e n1)];exact .of e) eW pf pm pw)
  have kz:ks.toArray.zip (bs.map Value.ref).toArray=ks.toArray.zip (bs.map Value.ref).toArray:=rfl;unfold ksk_end;dsimp only;simp only[bZ,if_false];by_cases v:(bs.map Value.ref).toArray.size<2
  .rw[aR v,aR v];refine aq (ao ?_);rw[StateT.run_pure];refine aq (ao ?_);refine fin bs fl (SortSt.mk' general' (ks.toArray.zip (bs.map Value.ref).toArray) #[] 7 none) ?_ rfl rfl (λ_ z=>z) (List.Perm.refl _) ?_
   .show (ks.toArray.zip (bs.map Value.ref).toArray).map (·.2)=_;apply Array.toList_inj.mp;simp[List.map_snd_zip,m]
   .rw[hz]at v;match fl,v with
    |[],_=>exact .nil
    |[_],_=>exact cK _ _
  .rw[aS v,aS v];rw[hz]at v;refine aq (HA J Z (by omega) ?_);refine aq (wpAny_mono (kat_run (ks:=ks) (vs:=bs.map Value.ref) (Q:=λy o=>∃p:Array Nat,wy fl.length p/\Ia (λi j=>sU ((fl.map ky).getD i (0,[])) ((fl.map ky).getD j (0,[]))) p fl.length/\arrOf y=p.map (kas_item (ks.toArray.zip (bs.map Value.ref).toArray))/\failedOf y=none/\o=t)
    (G:=λp o=>wy fl.length p/\Ia (λi j=>sU ((fl.map ky).getD i (0,[])) ((fl.map ky).getD j (0,[]))) p fl.length/\o=t)
    (by rw[m,ay]) (by rw[ay];omega) (by rw[ay];omega) (λp y o a1 a2 a3 a4=>⟨p,a4.1,a4.2.1,a2,a3,a4.2.2⟩)
    (C8 (lt:=λi j=>sU ((fl.map ky).getD i (0,[])) ((fl.map ky).getD j (0,[]))) (n:=fl.length) (λi j C L hj hC=>Jl (by show X.A.units+1+1+2<_;omega) J Z (0,[]) (by omega) (by omega) hC) (by rw[ay,N];exact GA (Jb _ _) (by omega) λp hp hu=>⟨hp,hu,rfl⟩))) ?_ λ_ _ z=>z)
   rintro⟨⟨⟩,y⟩ o ⟨p,hp,hup,har,S,rfl⟩;have B:∀i∈p.toList,i<fl.length:=λi L=>by have:i∈(List.range fl.length).toArray:=hp.mem_iff.mp (by simpa using L);simpa using this
   refine fin (p.toList.map λi=>bs.getD i 0) (p.toList.map λi=>fl.getD i (0,[])) y ?_ S (by rw[ay,br,ly hp,N]) (λR z=>uc _ _ _ λi L=>Am z 0 (0,[]) (by rw[N];exact B i L)) (EB _ hp) ?_
   .rw[kat_snds (by rw[m,ay]) har,aJ];congr 1;refine cL λi L=>?_;have:=B i L;simp[N,this]
   .rw[cN,cO];intro i j L hj hij;have hs:p.size=fl.length:=ly hp;have hj':j<p.size:=by simpa using hj
    have hi':i<p.size:=by simpa using L
    have:=hup i j hij (by omega);rw[cA,cA,Array.getElem?_eq_getElem hj',Array.getElem?_eq_getElem hi']at this;have gm:∀k,k<fl.length->(fl.map ky).getD k (0,[])=ky (fl.getD k (0,[])):=λk hk=>by simp[hk]
    simp only[Option.getD_some]at this;rw[gm _ (B _ (by simp)),gm _ (B _ (by simp))]at this;simpa using this
end
end L2
namespace L2
open PySem PySem.Spec PySem.W PyProof.Rows
section
variable {X:Cx}
abbrev m9(x:Str)(p1 p2 p3 p4 p5 p6 p7 p8:Pos)(j1 j2 j3:Nat):Expr:=.Tuple [.UnaryOp .USub (.Subscript (.Name x p1) (.Constant (.int 0) j1 p2) p3) p4,.Subscript (.Name x p5) (.Constant (.int 1) j2 p6) p7] j3 p8
def Mr{x:Str}{p1 p2 p3 p4 p5 p6 p7 p8:Pos}{j1 j2 j3:Nat}(g:X.N[0]? = some x)(i:OH X.env.scope x)(k:(x==("__debug__" : Str))=false)(a:(x==("__classdict__" : Str))=false) :
  ∃t,PE X (m9 x p1 p2 p3 p4 p5 p6 p7 p8 j1 j2 j3) t/\∀(c:St) (H:Hp) (Q:VK) (b f:Addr) (d:Int),c[0]? = some (some (.ref b))->H b=some (.tup [.int d,.ref f])->(∀p,H p=none->Q (.ref p) (gy H p (.tup [.int (-d),.ref f])))->t c H Q:=by
 refine⟨_,IP (kj (LX FO (Gb jH (ug g i k a) Aq λ_ _=>rfl)) (kj (Gb jH (ug g i k a) Aq λ_ _=>rfl) pM)),λc H Q b f d e h q=>?_⟩;exact⟨_,e,b,_,_,_,rfl,rfl,kP.of h,w6 (j:=0) rfl,_,rfl,_,e,b,_,_,_,rfl,rfl,kP.of h,w6 (j:=1) rfl,(by show 2<=sizeLine;decide),λp l=>q p l⟩
def MY{m:List (Addr×Obj)}{y:St}{f P:Addr}{q x:Str}{params:Arguments}{a:Scope}{i c:Vq}{d k:Nat}{p1 p2 p3 p4 p5 p6 p7 p8:Pos}{j1 j2 j3:Nat}(hr:gB (k+3) X.A)(S:gq [x] [x] a)(o:a.names.lookup x=some .local)
  (D:(x==("__debug__" : Str))=false) (e:(x==("__classdict__" : Str))=false)
  (B:∀u:Vq,bindArgs (kla_fn "<lambda>" q params (m9 x p1 p2 p3 p4 p5 p6 p7 p8 j1 j2 j3) a [] i (.ref d) c) ⟨[u],[]⟩=pure [(x,u)]) :
  FV X m y f P (kla_obj "<lambda>" q params (m9 x p1 p2 p3 p4 p5 p6 p7 p8 j1 j2 j3) a [] i d c) q d:=by
 intro s H b g I n r z;obtain⟨j,h,E⟩:=z;obtain⟨t,v,C⟩:=Mr (X:=(lK oZ X.prog X.w X.K X.mg X.base [x] q a f (.ref d) X.A.in1.in1 X.stack s H E0).nox) (p1:=p1) (p2:=p2) (p3:=p3) (p4:=p4) (p5:=p5) (p6:=p6) (p7:=p7) (p8:=p8) (j1:=j1) (j2:=j2) (j3:=j3) (x:=x) rfl (.inl o) D e;refine K2 (k:=k) (vs:=[.ref b]) (us:=[.ref b]) n (r.rec' I.hok) S rfl hr.in1.in1 I.env0.in1.in1 (.of_eq (B (.ref b))) (.cons rfl .nil) ⟨t,v,C _ _ _ b j g.1 rfl h λp l=>⟨p,rfl,l,j,h,rfl⟩⟩
end
def FC(a:Heap)(mg:Str->Option Value)(x:Str)(b:Vq):Prop:=∃c P,b=.ref c/\CodeHd a c P/\(c,P)∈a.life.ids/\a.CodeRec (.ref c) x/\a.BuiltinsAt mg P
def El(K:W.Frag)(mg:Str->Option Value)(a:Heap)(x:Str):Prop:=∀f d e c b,mg x=some (.ref f)->K.lookup f=some ⟨d,e,.func c,b⟩->FC a mg x c.code
def F8{P:Program}{w:World}{mg:Str->Option Value}{c:Heap}{x:Str}{N e:List Str}{k:Nat}{n:Sp}{K:W.Frag}{st:Stmt}(D:fC K mg x st)(L:El K mg c x)(S:gq N e (eU st))
  (C:∀(kV g p:Vq) (o:Option Addr) (b r:Vq) (us:List Vq),us.length=e.length->bindArgs (W.fnOf x x (iu st) (fR st) (eU st) .none kV g p o b r) ⟨us,[]⟩=pure (e.zip us))
  (l:∀vs H Q E,n vs H Q E->vs.length=e.length)
  (d:∀f b A a s H vs Q E,FC c mg x b->gB k (A.deeper (envOfC x (eU st) s.heap.objs.size f b))->n vs H Q E->
   ∃t,yF (lK oZ P w K mg c N x (eU st) f b A a s H E).nox (fR st) t/\t {nx:=λ_ B=>Q .non B,rt:=Q} (jD N vs) H):jK P w K mg c x (k+1) n:=by
 obtain⟨f,R,F,m⟩:=D.ex;have y:=F.kp;have v:=F.binds C;obtain⟨I,J,kV,g,p,o,b,r,z,rfl,u,i⟩:=F.ex;refine⟨f,_,e,LJ u i S l λA a s H vs Q E hr j=>?_,m,y,v⟩;obtain⟨t,h,q⟩:=d f b A a s H vs Q E (L f _ _ _ _ m u) hr j;exact⟨t,h.nox,q⟩
def PL(X:Cx)(src:V->Hp->List Addr->Prop):Prop:=(∀x H a bs,fw H a->src x H bs->src x a bs)/\∀(d:List (Addr×Obj)) (s:Sq) (e:St) (H:Hp) (x:V) (u:Vq) (bs:List Addr) (E:Vq->Shared->Prop) (Q:List Vq->Shared->Prop),fB X d e H s->src x H bs->gh x u->
 (∀c f,(∀b o,s.heap.get? b=some o->c.get? b=some o)->Q (bs.map Value.ref) {s with heap:=c,toks:=f})->wpAny (model X.prog X.w) X.A.in1 (collect u) Q E s
def Nr(K:W.Frag):V->Hp->List Addr->Prop:=λx H bs=>∃p,x=.ref p/\H p=some (.lst (bs.map V.ref))
section
variable {X:Cx}
def Fq:PL X (Nr X.K):=by refine⟨λx H H' bs h ⟨p,e1,e2⟩=>⟨p,e1,h _ _ e2⟩,λi s j H x u bs E Q I h r q=>?_⟩;obtain⟨p,rfl,e⟩:=h;cases r;obtain⟨f,d,c,a⟩:=I.list (jQ.of e);have g:=vQ d;subst g;refine collect_list c.isList (q _ s.toks λb o e=>?_) (by rw[ay]at a ⊢;exact a);rw[Heap.get?_update_ne _ _ _ _ (aN (aM e)),Heap.get?_push_ne _ _ _ (aN (aM e))];exact e
def GR(src:V->Hp->List Addr->Prop)(h:TE):TE:=λi H Q=>h i H λx f=>∃bs e,src x f bs/\Paired (uQ f) bs e/\e.length<64/\
 ∀D g d c,fw f g->f D=none->g D=some (.lst (d.map V.ref))->(∀R:Addr->Ky->Prop,Paired R bs e->Paired R d c)->c.Perm e->c.Pairwise (λa b=>sU (ky b) (ky a)=false)->Q (.ref D) g
def HR{k:Nat}{qn x:Str}{e:Expr}{te:TE}{src:V->Hp->List Addr->Prop}{params:Arguments}{a:Scope}{p y t r p1 p2 p3 p4 p5 p6 p7 p8:Pos}{j1 j2 j3:Nat}(hr:gB (k+3) X.A)(L:FC X.base X.mg qn X.env.code)(hq:qn++ ".<locals>.<lambda>" = X.env.qual++ "<lambda>")
  (S:gq [x] [x] a) (hx:a.names.lookup x=some .local) (hb:∀(q:Str) (pm n:Vq) (c':Addr) (u:Vq),bindArgs (kla_fn "<lambda>" q params (m9 x p1 p2 p3 p4 p5 p6 p7 p8 j1 j2 j3) a [] pm (.ref c') n) ⟨[u],[]⟩=pure [(x,u)])
  (Z:closureFor a X.env=pure []) (v:defaultsOf params X.env=([],[])) (d:PL X src) (he:PE X e te) (hg:Gl X "sorted") (hm:X.mg "sorted" = none)
  (i:backTo y (starEach [e] X.env)=[(false,eval e X.env)]/\starEach [e] X.env=[(false,eval e X.env)]) (hd:(x==("__debug__" : Str))=false:=by decide) (U:(x==("__classdict__" : Str))=false:=by decide) :
  PE X (.Call (.Name "sorted" p) [e] [⟨some "key",.Lambda params (m9 x p1 p2 p3 p4 p5 p6 p7 p8 j1 j2 j3) a t,r⟩] y) (GR src te):=by
 intro B s E H Q I h;obtain⟨c,P,g,C,kD,hrc,hbm⟩:=L;refine wpAny_Call_Name_kw (nZ (u:=.builtin "sorted") I hg hm (by rfl) ?_);refine callWith_kw ?_ (by rw[i.1];rfl) (by rw[i.1];rfl) rfl rfl;rw[i.1];refine Calls.spliced_cons (iG (he B s E H _ I h) λu s1 ⟨xv,H1,I1,r1,bs,fl,hs,pf,h64,q⟩=>?_);refine Calls.spliced_nil ?_;refine kws_cons (Ge I1 g C kD hrc hbm hq Z v λf c' n pm D F I2 sm fr hf nf tb gf=>?_);refine kws_nil ?_;show wpAny _ X.A (call (.builtin "sorted") [u] [(Str.ofString "key",.ref f)]) _ _ F;refine call_function_entry_kw kind_sorted plain_sorted entry_sorted (ksk_s1 _ _) ?_;unfold Builtin.«sorted»;refine aq (m:=checkCount "sorted" 1 1 _) (ao ?_);refine aq (d.2 B F E D xv u bs _ _ I2 (d.1 _ _ _ _ sm hs) r1 λj l k3=>?_);have lb:bs.length=fl.length:=Paired.length pf;have sl:64<=sizeLine:=by decide
 refine aq (wpAny_newList ?_ (by rw[ay,lb];omega));have I3:fB X B E D {F with heap:=j,toks:=l}:=I2.kept k3;have I4:fB X B E D {F with heap:=j.push (seqObj "list" (bs.map Value.ref).toArray 0),toks:=l}:=I3.kept λb o e=>ae _ e;have N:f<j.objs.size:=aM (k3 _ _ gf);have n4:D j.objs.size=none:=I3.hok.fresh (aL _);refine aq (wpAny_holding (wpAny_call_entry_kw slot_list_sort ⟨_,au _ rfl,rfl⟩ entry_list_sort ?_ (ksk_l1 _ _)));show wpAny (model X.prog X.w) X.A.in1.in1 (Builtin.«list.sort» ⟨[.ref j.objs.size],[(Str.ofString "key",.ref f)]⟩) _ _ _;rw[ksk_t1];refine Bc (bs:=bs) (fl:=fl) (by have:=hr.units;omega) I4 (I3.ow (aL _)) (I1.ow hf) n4 nf (bt N) (au _ rfl) (ae _ (k3 _ _ gf)) tb (MY hr S hx hd U (hb _ _ _ _)) (Paired.mapP pf λ_ _ z=>z.mono sm) h64 λH' s' R K J sm' e5 pf' Y pw=>?_;refine⟨_,rfl,ao ⟨_,rfl,.ref j.objs.size,H',J,rfl,q _ H' R K (sm.trans sm') (sm.free n4) e5 pf' Y pw⟩⟩
end
end L2
namespace L2
open PySem PySem.Spec PySem.W PyProof.Rows
def Fi{H:Hp}{b:Addr}{g:Ky}(x:uQ H b g):x9 H (.inl g.1,g.2.map .inl) b:=let ⟨b2,e1,e2⟩:=x;⟨b2,e1,by rw[aJ];exact e2⟩
section
variable {X:Cx}{pos pos':Pos}
def IH(P:Program)(w:World)(H:Hp)(h:Heap)(a:sysModules<h.objs.size):ib P w H (h.push {cls:=.type "dict",data:=.dict #[]}) h.objs.size (wc P w h.objs.size []):=FP ⟨beq_eq_false_iff_ne.mpr (Ne.symm (aN a)),bF _,_,#[],0,au _ rfl,⟨rfl,rfl,rfl⟩,rfl,rfl,List.nodup_nil⟩
def E6(P:Program)(w:World)(d e:TE):TE:=λc H Q=>∀p,H p=none->d c (gy H p (wc P w p [])) λx f=>e c f λy a=>a p=some (wc P w p [])/\∃k b,x=.ref b/\x9 a k b/\∀r,gh y r->Q (.ref p) (gy a p (wc P w p [(k,b,r)]))
def Gd{k v:Expr}{g i:TE}(R:X.A.units+2<cLine)(F:PE X k g)(J:PE X v i):PE X (.Dict [some k] [v] pos) (E6 X.prog X.w g i):=by intro d s l H Q I h;have D:=I.hok.fresh (aL s.heap.objs.size);have C:=I.laid (a:=s.heap.objs.size) (o:=wc X.prog X.w s.heap.objs.size []) (h':=s.heap.push {cls:=.type "dict",data:=.dict #[]}) (t':=s.toks) (λ_ _ q=>ae _ q) (aL _) (IH _ _ _ s.heap I.big);refine wpAny_Dict_any rfl rfl (λz=>nomatch z) (show 1<=15 by decide) (pairTrees_cons_walk (iG (F d _ l _ _ C (h _ D)) λu s1 ⟨x,H1,J1,rx,q1⟩=>iG (J d s1 l H1 _ J1 q1) λr s2 ⟨y,H2,J2,ry,e,k',b,ex,fk,q2⟩=>pairTrees_nil_walk ?_));subst ex;cases (show u=Value.ref b from rx);show wpAny _ _ (forIn [(Value.ref b,r)] PUnit.unit _) _ _ s2;rw[bY];obtain⟨L,E⟩:=CK J2.hok e (λx n=>nomatch n);refine aq (aq (wpAny_dictSet_heap (show X.A.units+1<cLine by omega) (GK J2.hok fk) E (λh' c K=>?_) (bF _)));refine ao ?_;dsimp only;rw[cj];obtain⟨q,B,t,m,N,P,j,_,f⟩:=c;have p:storedH ([]:List FE) k' b r=[(k',b,r)]:=rfl;rw[p]at j f;exact ao ⟨.ref s.heap.objs.size,_,Cm J2 (by rw[e];exact True.intro) K ⟨q,m⟩ (FP ⟨L.1,by show 1<=sizeLine;decide,q,B,t,m,N,P,j,f⟩),rfl,q2 r ry⟩
def LN(P:Program)(w:World)(f ty h:TE):TS:=λD d H=>h d H λv i=>f d i λx g=>ty d g λy c=>∃a b e k,x=.ref a/\y=.ref b/\c a=some (wc P w a e)/\(∀x∈e,x9 c x.1 x.2.1)/\x9 c k b/\e.length<sizeLine/\∀r,gh v r->D.nx d (gy c a (wc P w a (storedH e k b r)))
def KA{o i c:Expr}{g ty j:TE}(n:X.A.units+2<cLine)(m:PE X o g)(p:PE X i ty)(t:PE X c j)(z:swapsWith c (some (.Subscript o i pos')) pos.line X.env=pure false) :
  PS X (.Assign [.Subscript o i pos'] c pos) (LN X.prog X.w g ty j):=by
 intro f s d H D I h;refine wpAny_Assign_Subscript (iG (t f s d H _ I h) λr s1 ⟨v,H1,I1,rv,q1⟩=>iG (m f s1 d H1 _ I1 q1) λu s2 ⟨x,H2,I2,rx,q2⟩=>iG (p f s2 d H2 _ I2 q2) λiv s3 ⟨y,H3,I3,ry,a,b,xs,k,ex,ey,e,fk,fb,l,q3⟩=>?_) z;subst ex;subst ey;cases (show u=Value.ref a from rx);cases (show iv=Value.ref b from ry);exact Nf n I3 e fk fb l λB q=>⟨d,_,q,q3 r rv⟩
end
def KF(P:Program)(w:World)(F H:Hp)(a:Addr)(bs:List Addr)(fl:List Ky):Prop:=∃b:List FE,H a=some (wc P w a b)/\bs=b.map (·.2.1)/\Paired (λ(x:FE) (f:Ky)=>x.1=(.inl f.1,f.2.map .inl)/\uQ F x.2.1 f) b fl
def uE(fl:List Ky)(g:Ky):List Ky:=if g∈fl then fl else fl++[g]
section
variable {P:Program}{w:World}{F F' H H':Hp}{a b:Addr}{bs:List Addr}{fl:List Ky}{g:Ky}
def KF.mono(x:KF P w F H a bs fl)(d:fw F F')(c:fw H H'):KF P w F' H' a bs fl:=let ⟨xs,e,h,p⟩:=x;⟨xs,c _ _ e,h,Paired.mapP p λ_ _ z=>⟨z.1,z.2.mono d⟩⟩
def JG{d:List FE}{fl:List Ky}(p:Paired (λ(x:FE) (f:Ky)=>x.1=(.inl f.1,f.2.map .inl)/\uQ F x.2.1 f) d fl)(s:fw F H):∀x∈d,x9 H x.1 x.2.1:=by
 induction p with
 |nil=>exact λx c=>nomatch c
 |cons h t ih=>
  intro x c;rcases aG.mp c with rfl|c
  .rw[h.1];exact Fi (h.2.mono s)
  .exact ih x c
def KF.flr(x:KF P w F H a bs fl):Paired (uQ F) bs fl:=by
 obtain⟨c,e,rfl,p⟩:=x;clear e;induction p with
 |nil=>exact .nil
 |cons h t ih=>exact .cons h.2 ih
def IZ{f g:Ky}(h:((Sum.inl f.1,f.2.map Sum.inl):mG×List mG)=(.inl g.1,g.2.map .inl)):f=g:=by obtain⟨a,b⟩:=f;obtain⟨c,d⟩:=g;have e:=Prod.mk.inj h;have i:a=c:=Sum.inl.inj e.1;have j:b=d:=(cH λ_ _ w=>Sum.inl.inj w).mp e.2;rw[i,j]
def Ou{c:List FE}{fl:List Ky}(p:Paired (λ(x:FE) (f:Ky)=>x.1=(.inl f.1,f.2.map .inl)/\uQ F x.2.1 f) c fl)(g:Ky):(atKey c (.inl g.1,g.2.map .inl)).isSome=decide (g∈fl):=by
 induction p with
 |nil=>simp[atKey]
 |@cons x f c fl h t ih=>
  unfold atKey at ih ⊢;rw[List.find?_cons];by_cases e:f=g
  .subst e;rw[show decide (x.1=((Sum.inl f.1,f.2.map Sum.inl):mG×List mG))=true from aD h.1];simp
  .rw[show decide (x.1=((Sum.inl g.1,g.2.map Sum.inl):mG×List mG))=false from aC λz=>e (IZ (h.1.symm.trans z))];have:decide (g∈f::fl)=decide (g∈fl):=by simp[Ne.symm e]
   rw[this];exact ih
def M4{d:List FE}{r:Vq}(p:Paired (λ(x:FE) (f:Ky)=>x.1=(.inl f.1,f.2.map .inl)/\uQ F x.2.1 f) d fl)(i:uQ F b g):∃c,KF P w F (gy H a (wc P w a (storedH d (.inl g.1,g.2.map .inl) b r))) a c (uE fl g):=by
 refine⟨_,_,eW,rfl,?_⟩;unfold storedH uE;rw[Ou p g];by_cases e:g∈fl
 .rw[aR (aD e),aR e];clear e;induction p with
  |nil=>exact .nil
  |@cons x f d fl h t ih=>
   refine .cons ?_ ih;unfold putAt;split
   .exact⟨h.1,h.2⟩
   .exact h
 .rw[aS (by simpa using e),aS e];clear e;induction p with
  |nil=>exact .cons ⟨rfl,i⟩ .nil
  |cons h t ih=>exact .cons h ih
end
end L2
namespace Cu
noncomputable def G(a b:Int):Int:=(Int.gcd a b:Nat)
def N3 a b:G b (Int.fmod a b)=G a b:=by
 unfold G;have e:=Int.fmod_def a b;rw[e];congr 1;apply Nat.dvd_antisymm
 .apply Int.dvd_gcd
  .have h:=cQ b (a-b*Int.fdiv a b);have g:=cR b (a-b*Int.fdiv a b);have d:=Int.dvd_add g (cS (c:=Int.fdiv a b) h);have f:a-b*Int.fdiv a b+b*Int.fdiv a b=a:=by omega
   rw[f]at d;exact d
  .exact cQ b _
 .apply Int.dvd_gcd
  .exact cR a b
  .exact Int.dvd_sub (cQ a b) (cS (cR a b))
def Dj a b (h:b≠0):(Int.fmod a b).natAbs<b.natAbs:=by
 rcases Int.lt_or_gt_of_ne h with c|c
 .have e:=cT (-a) (show 0 < -b by omega);have d:=cU (-a) (show 0 < -b by omega);rw[Int.neg_fmod_neg]at e d;omega
 .have e:=cT a c;have d:=cU a c;omega
def HE a:G a 0=(a.natAbs:Int):=by unfold G;rw[Int.gcd_zero_right]
def tW a b:0<=G a b:=bz _
def AY a b:G a b ∣ a:=cQ a b
def sx a b:G a b ∣ b:=cR a b
def Q3 a b (h:b≠0):G a b<=(b.natAbs:Int):=by have:=Int.natAbs_dvd_natAbs.mpr (sx a b);have c:=Nat.le_of_dvd (by omega) this;have:=tW a b;omega
end Cu
namespace Cu
open PySem PyProof.Rows
open PySem.Builtin.Int (intBits)
def noPy(h:intBits y<=m)(c:m<=8000):PySem.Builtin.divisionGoesByPylong x y=false:=by
 refine PyProof.noPylong_of_log2 ?_;rcases Nat.eq_zero_or_pos y.natAbs with b|a
 .rw[b];decide
 .refine (Nat.log2_lt (bt a)).mpr ?_;exact lt_pow_of_bits h (by omega)
end Cu
namespace L2
open PySem PySem.Spec PyProof.Rows
def Hj:jA X (.builtin "isinstance") (λa H Q=>∃x T t b,a=[x,.ty T]/\nU X.K H x t/\W.kitOne X.K t (.type T)=some b/\Q (.bl b) H):=by
 intro d s g H a f Q I r h;obtain⟨x,T,t,b,rfl,ty,e,q⟩:=h;cases r with
 |cons r1 r2=>
  cases r2 with
  |cons r3 r4=>cases r4;cases (r3);exact EJ I r1 ty e λc=>⟨.bl b,H,I.tok c,rfl,q⟩
def MH:bootBuiltins "isinstance" = some (.builtin "isinstance"):=by decide +kernel
def ye:bootBuiltins "abs" = some (.builtin "abs"):=by decide +kernel
def A2:bootBuiltins "int" = some (.type "int"):=by decide +kernel
def C9:bootBuiltins "bool" = some (.type "bool"):=by decide +kernel
def jb:bootBuiltins "tuple" = some (.type "tuple"):=by decide +kernel
def ip:bootBuiltins "len" = some (.builtin "len"):=by decide +kernel
end L2
namespace C4
def RQ(c e:LI):Prop:=∀i j,i<c.length->j<c.length->c.getD i 0*e.getD j 0=c.getD j 0*e.getD i 0
def par_of_place(a:c.getD p 0≠0)(h:∀i,i<c.length->c.getD i 0*e.getD p 0=e.getD i 0*c.getD p 0):RQ c e:=λi j k f=>by have b:=h i k;have l:=h j f;refine Int.eq_of_mul_eq_mul_right a ?_;have d:c.getD i 0*e.getD j 0*c.getD p 0=c.getD i 0*(e.getD j 0*c.getD p 0):=cV _ _ _;have g:c.getD j 0*e.getD i 0*c.getD p 0=c.getD j 0*(e.getD i 0*c.getD p 0):=cV _ _ _;rw[d,g,<-b,<-l,<-cV,<-cV,cW (c.getD i 0) (c.getD j 0)]
end C4
namespace L2
open PySem PySem.W PySem.Spec PyProof.Rows
def ub(K:W.Frag)(a:List Str):Bool:=a.all (λx=>match tabIn K x with
  |some (c,P)=>(K.lookup P).isNone&&codeIn K (.ref c) x
  |none=>false)&&decide ((a.map λx=>(tabIn K x).map (·.2)).Nodup)
def qX(H0:Hp)(a:List (Addr×Addr×Str)):Hp:=λb=>match a.find? (λq=>q.2.1==b) with
 |some q=>some (.tbl (q.2.2++ ".<locals>.<lambda>") #[])
 |none=>H0 b
def Cn{H0:Hp}{a:List (Addr×Addr×Str)}(b:∀q∈a,∀r∈a,q.2.1=r.2.1->q=r){q:Addr×Addr×Str}(c:q∈a):qX H0 a q.2.1=some (.tbl (q.2.2++ ".<locals>.<lambda>") #[]):=by
 unfold qX;cases e:a.find? (λr=>r.2.1==q.2.1) with
 |none=>exact absurd (List.find?_eq_none.mp e q c) (by simp)
 |some r=>have f:=cX e;have d:=List.find?_some e;obtain rfl:=b r f q c (by simpa using d);rfl
def Lp{H0:Hp}{a:List (Addr×Addr×Str)}{b:Addr}{u:HO}(h:qX H0 a b=some u):(∃q∈a,q.2.1=b/\u=.tbl (q.2.2++ ".<locals>.<lambda>") #[])\/((∀q∈a,q.2.1≠b)/\H0 b=some u):=by
 unfold qX at h;cases e:a.find? (λr=>r.2.1==b) with
 |none=>rw[e]at h;exact .inr ⟨λq c z=>List.find?_eq_none.mp e q c (by simpa using z),h⟩
 |some r=>rw[e]at h;cases h;exact .inl ⟨r,cX e,by simpa using List.find?_some e,rfl⟩
def Hx{H0:Hp}{a:List (Addr×Addr×Str)}{b:Addr}(h:∀q∈a,q.2.1≠b):qX H0 a b=H0 b:=by unfold qX;rw[List.find?_eq_none.mpr λq c=>by simpa using h q c]
theorem Ey{K:W.Frag}{P:Program}{w:World}{g:Sq}{mg mb:Str->Option Value}{a fa:Addr}{vs:List Vq}{Y:LI}{k:Nat}{fd:FuncData}{x:Str}{sp:Sp}(f:List (Addr×Addr×Str))
  (KX:K.In g.heap) (hns:g.heap.Ns mainGlobals mg) (A:g.heap.Ns builtinsNs mb) (hbb:∀x:Str,x≠ "__name__" ->mb x=bootBuiltins x) (hlim:g.heap.NoLimit) (hg:g.gens = #[])
  (ha:g.heap.get? a=some {cls:=.type "list",data:=.seq vs.toArray}) (hi:IntsAre vs Y) (hl:Y.length<=sizeLine) (hr:gB k callerA)
  (J:∀q∈f,CodeHd g.heap q.1 q.2.1/\g.heap.get? q.2.1=some (tabObj #[])/\K.lookup q.2.1=none/\g.heap.CodeRec (.ref q.1) q.2.2/\g.heap.BuiltinsAt mg q.2.1) (hnd:∀q∈f,∀r∈f,q.2.1=r.2.1->q=r)
  (F:∀j:Heap,K.In j->j.Ns mainGlobals mg->(∀q∈f,CodeHd j q.1 q.2.1/\(q.1,q.2.1)∈j.life.ids/\j.CodeRec (.ref q.1) q.2.2/\j.BuiltinsAt mg q.2.1)->lA P w K mg j oZ k fa fd [x] sp) (S:∀(s:Sq) (u:Vq),BindsTo s fd ⟨[u],[]⟩ [(x,u)])
  (hsp:∀H:Hp,jQ K H a (Y.map V.int)->sp [.ref a] H (λv _=>v=.bl true) λ_ _ _=>False) :
  codeAny (model P w) callerA (.call (.ref fa) ⟨[.ref a],[]⟩) (λr p=>r=.ok (.ret (.bool true))/\OldK g.heap p.heap/\p.os=g.os/\AllBare p.gens) g:=by
 have rv:=vJ hi;have lenV:=hi.length;have tne:∀q∈f,q.2.1≠a:=λq i z=>by have:=(J q i).2.1;rw[z,ha]at this;cases this
 have I:∀H0:Hp,(∀b u,H0 b=some u->b=a/\∃o xs,u=.frz o (.lst xs))->jQ K H0 a (Y.map V.int)->oT P w H0 g.heap->(H0 a≠none->K.lookup a=none)->
   codeAny (model P w) callerA (.call (.ref fa) ⟨[.ref a],[]⟩) (λr p=>r=.ok (.ret (.bool true))/\OldK g.heap p.heap/\p.os=g.os/\AllBare p.gens) g:=by
  intro H0 hO hS hok hK;have cases3:∀b u,qX H0 f b=some u->(∃q∈f,q.2.1=b/\u=.tbl (q.2.2++ ".<locals>.<lambda>") #[])\/(b=a/\H0 b=some u):=λb u h=>by
   rcases Lp h with z|⟨_,z⟩
   .exact .inl z
   .exact .inr ⟨(hO b u z).1,z⟩
  have free:∀{b:Addr} {o:Obj},g.heap.get? b=some o->(∀c,o.data≠.seq vs.toArray c)->(o≠tabObj #[])->qX H0 f b=none:=λ{b o} e d t=>by
   cases q:qX H0 f b with
   |none=>rfl
   |some u=>
    rcases cases3 b u q with⟨r,hr,z,_⟩|⟨z,_⟩
    .subst z;rw[(J r hr).2.1]at e;cases e;exact absurd rfl t
    .subst z;rw[ha]at e;cases e;exact absurd rfl (d 0)
  have baseOf:∀{b:Addr} {o:Obj},g.heap.get? b=some o->qX H0 f b=none->(nV g.heap (qX H0 f) (f.map λq=>(q.1,q.2.1))).get? b=some o:=λe n=>FF e n;have E:∀{b:Addr} {m:Str->Option Value},g.heap.Ns b m->(nV g.heap (qX H0 f) (f.map λq=>(q.1,q.2.1))).Ns b m:=λ{b m} ⟨o,es,ep,e,d,r⟩=>⟨o,es,ep,baseOf e (free e (λc z=>by rw[d]at z;cases z) λz=>by rw[z]at d;cases d),d,r⟩;have hKb:K.In (nV g.heap (qX H0 f) (f.map λq=>(q.1,q.2.1))):=λb o e=>baseOf (KX b o e) (by
   cases q:qX H0 f b with
   |none=>rfl
   |some u=>
    rcases cases3 b u q with⟨r,hr,z,_⟩|⟨z,y⟩
    .subst z;rw[(J r hr).2.2.1]at e;cases e
    .subst z;rw[hK (by rw[y];exact λw=>nomatch w)]at e;cases e)
  have hM:Mod K mg (nV g.heap (qX H0 f) (f.map λq=>(q.1,q.2.1))):=⟨hKb,E hns,⟨mb,E A,hbb⟩,let ⟨mc,Z,h2⟩:=hlim;⟨mc,E Z,h2⟩⟩;have crec:∀{c:Addr} {n:Str},g.heap.CodeRec (.ref c) n->(∃P,CodeHd g.heap c P)->(nV g.heap (qX H0 f) (f.map λq=>(q.1,q.2.1))).CodeRec (.ref c) n:=λ{c n} ⟨c',o,fs,t,D,l,Q,e4⟩ ⟨P,o',vs',_,_,_,_,_,_,_,f1,f2,_⟩=>by cases D;rw[l]at f1;cases f1;exact⟨c,o,fs,t,rfl,baseOf l (free l (λc z=>by rw[Q]at z;cases z) λz=>by rw[z]at f2;cases f2),Q,e4⟩
  have C:∀q∈f,CodeHd (nV g.heap (qX H0 f) (f.map λq=>(q.1,q.2.1))) q.1 q.2.1/\(q.1,q.2.1)∈(nV g.heap (qX H0 f) (f.map λq=>(q.1,q.2.1))).life.ids/\(nV g.heap (qX H0 f) (f.map λq=>(q.1,q.2.1))).CodeRec (.ref q.1) q.2.2/\(nV g.heap (qX H0 f) (f.map λq=>(q.1,q.2.1))).BuiltinsAt mg q.2.1:=λq i=>by
   obtain⟨Z,h2,h3,h4,h5⟩:=J q i;refine⟨?_,aE.mpr ⟨q,i,rfl⟩,crec h4 ⟨_,Z⟩,?_⟩
   .obtain⟨o,fs,file,tf,U,tg,inF,text,tt,D,l,Q,r⟩:=Z;exact⟨o,fs,file,tf,U,tg,inF,text,tt,baseOf D (free D (λc z=>by rw[Q]at z;cases z) λz=>by rw[z]at l;cases l),l,Q,r⟩
   .obtain⟨bm,o,b1,b2,b3,b4,b5,b6,b7,b8⟩:=h5;exact⟨bm,o,b1,b2,b3,b4,baseOf b5 (free b5 (λc z=>by rw[b8]at z;cases z) λz=>by rw[z]at b6;cases b6),b6,b7,b8⟩
  have hokT:oT P w (qX H0 f) g.heap:=λb u e=>by
   rcases cases3 b u e with⟨q,i,z,rfl⟩|⟨z,y⟩
   .subst z;exact⟨(J q i).2.1,True.intro,λv hv=>nomatch hv⟩
   .obtain⟨_,o,xs,rfl⟩:=hO b u y;have:=hok b _ y;obtain⟨Z,h2⟩:=this;exact⟨Z,h2⟩
  have tabF:BW (nV g.heap (qX H0 f) (f.map λq=>(q.1,q.2.1))) (qX H0 f):=λc P qn hm hc=>by obtain⟨q,i,e⟩:=aE.mp (show (c,P)∈f.map λq=>(q.1,q.2.1) from hm);cases e;obtain⟨c1,o1,v1,t1,D,l,Q,e4⟩:=hc;obtain⟨c2,o2,v2,t2,f1,f2,f3,f4⟩:=(C q i).2.2.1;cases D;cases f1;rw[l]at f2;cases f2;rw[Q]at f3;cases f3;rw[e4]at f4;cases f4;exact⟨#[],Cn hnd i⟩
  have e0:t7 P w K mg (nV g.heap (qX H0 f) (f.map λq=>(q.1,q.2.1))) callerA [] g (qX H0 f):=⟨rfl,hM,λb o e=>JQ e,Nat.le_of_eq (Dg _ _),trivial,λb A=>absurd (show b∈([]) from A) (by simp),hokT,.of_eq hg,tabF⟩;have hS':jQ K (qX H0 f) a (Y.map V.int):=by
   rcases hS with (h|⟨o,h⟩)|h
   .exact .inl (.inl (by rw[Hx tne];exact h))
   .exact .inl (.inr ⟨o,by rw[Hx tne];exact h⟩)
   .exact .inr h
  refine codeAny_mono ((F _ hKb (E hns) C).run callerA [] g (qX H0 f) ⟨[.ref a],[]⟩ [.ref a] [.ref a] _ _ hr e0 (S g (.ref a)) (.cons rfl .nil) (hsp _ hS')) λr p h=>?_;cases r with
  |error e=>exact h.elim
  |ok fl=>
   cases fl with
   |next=>exact False.elim h
   |brk=>exact False.elim h
   |cont=>exact False.elim h
   |ret u=>
    obtain⟨v,H',os,bare,un,N,r',q⟩:=h;have q':=q;subst q';obtain rfl:u=Value.bool true:=r';have L:∀b o,g.heap.get? b=some o->(∀q∈f,q.2.1≠b)->p.heap.get? b=some o:=λb o e n=>by
     cases q:qX H0 f b with
     |none=>exact un.keep b o e q (by intro z;exact absurd (show b∈([]) from z) (by simp)) (by simp)
     |some u=>
      rcases cases3 b u q with⟨r,hr,z,_⟩|⟨z,y⟩
      .exact absurd z (n r hr)
      .obtain⟨_,ob,xs,rfl⟩:=hO b u y;have z2:=un.frzs b ob _ q;obtain⟨D,_⟩:=hok b _ y;obtain⟨l,_⟩:=N b _ z2;rw[e]at D;cases D;exact l
    have B:∀q∈f,∃ps,p.heap.get? q.2.1=some (tabObj ps):=λq i=>by obtain⟨more,e⟩:=un.tbls _ _ _ (Cn (H0:=H0) hnd i);exact⟨_,(show ib P w H' p.heap q.2.1 (.tbl _ _) from N _ _ e).1⟩
    refine⟨rfl,⟨λb o e=>?_,λb o e=>?_⟩,os,bare⟩
    .by_cases i:∃q∈f,q.2.1=b
     .obtain⟨q,i,rfl⟩:=i;obtain⟨ps,hp⟩:=B q i;have l:=(J q i).2.1;rw[e]at l;cases l;exact .inr (.inl ⟨((J q i).1.tab (J q i).2.1).isCodeTable,rfl,#[],ps,rfl,by rw[Array.empty_append];exact hp⟩)
     .exact .inl (L b o e λq X z=>i ⟨q,X,z⟩)
    .by_cases i:∃q∈f,q.2.1=b
     .obtain⟨q,i,rfl⟩:=i;obtain⟨ps,hp⟩:=B q i;exact⟨_,hp⟩
     .exact⟨o,L b o e λq X z=>i ⟨q,X,z⟩⟩
 cases hk:K.lookup a with
 |some o=>have e:=KX a o hk;rw[ha]at e;cases e;exact I (λ_=>none) (λb u z=>nomatch z) (.inr ⟨_,vs.toArray,_,hk,rfl,rfl,rfl,by rw[bA,lenV];exact hl,by simpa using rv⟩) (λb u z=>nomatch z) λz=>absurd rfl z
 |none=>
  refine I (λb=>if b=a then some (.frz {cls:=.type "list",data:=.seq vs.toArray} (.lst (Y.map V.int))) else none) (λb u z=>?_) (.inl (.inr ⟨{cls:=.type "list",data:=.seq vs.toArray},aR rfl⟩)) (λb u z=>?_) λ_=>hk
  .by_cases A:b=a
   .have R:=(aR A).symm.trans z;cases R;exact⟨A,_,_,rfl⟩
   .have R:=(aS A).symm.trans z;cases R
  .by_cases A:b=a
   .have R:=(aR A).symm.trans z;cases R;subst A;exact⟨ha,by rw[ay];exact hl,vs,_,rv,ha⟩
   .have R:=(aS A).symm.trans z;cases R
theorem HM{l:W.OpenLaw}{n k:Nat}{q:Program}{D:List Str}{XP:(Str->Option Value)->Heap->Prop}{YP:World->Heap->Prop}{d:DefRec}{K:Params->W.Frag}{sp:W.Frag->Sp}{x:Str}(p:List Str)
  (hn:l.most=some n) (hn2:n<=sizeLine) (hdf:d.params.defaults=[]) (hr:gB k callerA)
  (hY:∀(w:World) (h:Heap),YP w h->(K w.params).In h) (hx:∀x∈p,∃d',(recsOf q).find? (λe=>e.name==x)=some d') (S:∀w:World,ub (K w.params) p=true)
  (F:∀(w:World) (mg:Str->Option Value) (fa:Addr) (h:Heap),(K w.params).In h->h.Ns mainGlobals mg->mg d.name=some (.ref fa)->
   ∃fd:FuncData,(∀(s:Sq) (u:Vq),BindsTo s fd ⟨[u],[]⟩ [(x,u)])/\
    ∀i:Heap,(K w.params).In i->i.Ns mainGlobals mg->(∀y∈p,El (K w.params) mg i y)->lA l.prog w (K w.params) mg i oZ k fa fd [x] (sp (K w.params)))
  (hsp:∀(K:W.Frag) (H:Hp) (a:Addr) (N:LI),N.length<=n->(∀z∈N,PySem.Builtin.Int.intBits z<=2 ^ 20)->jQ K H a (N.map V.int)->sp K [.ref a] H (λv _=>v=.bl true) λ_ _ _=>False) :
  W.WalkO q D XP YP l.row.toRowW d [] (λf vs=>PySem.call f vs):=by
 intro w s₀ s₁ mg mb G Y fa o pm cd doc dV kV ho hd hcd hD hmg hg args vals as R X hrd hwl hlo;obtain rfl:dV=.none:=Dflts.none hD hdf;obtain rfl:kV=.none:=Dflts.noKw hD;obtain⟨a,vs,N,rfl,rfl,hobj,A,kh⟩:=Att.script_of hn R hwl;have hb:∀z∈N,PySem.Builtin.Int.intBits z<=2 ^ 20:=λz hz=>by have h1:=(layW_cons X).1;have J:=layableW_item h1 (WData.int z) (aE.mpr ⟨z,hz,rfl⟩);exact PyData.bits_of_layable (layable_int J)
 have KX:=hY w _ Y;obtain⟨fd,hbd,hF⟩:=F w mg fa _ KX G.T.g hmg;have S:=S w;unfold ub at S;rw[bN]at S;obtain⟨hk1,E⟩:=S;have E:=of_decide_eq_true E;have one:∀y∈p,∃c P,tabIn (K w.params) y=some (c,P)/\(K w.params).lookup P=none/\codeIn (K w.params) (.ref c) y=true:=λy j=>by
  have:=cy.mp hk1 y j;split at this
  .rename_i c P e;rw[bN]at this;exact⟨c,P,e,by simpa using this.1,this.2⟩
  .cases this
 obtain⟨bm,ob,b1,b2,Z,b4,b5,b6⟩:=G.T.bmain;have hbG:bm≠mainGlobals:=λz=>by obtain⟨o,es,ep,e,hd,_⟩:=G.T.g;rw[z,e]at Z;cases Z;rw[hd]at b6;cases b6
 have I:∀t∈p.filterMap (λy=>(tabIn (K w.params) y).map λr=>(r.1,r.2,y)),t.2.2∈p/\tabIn (K w.params) t.2.2=some (t.1,t.2.1):=λt U=>by obtain⟨y,j,e⟩:=bu.mp U;obtain⟨r,m,rfl⟩:=cI.mp e;exact⟨j,m⟩
 have inj:∀{L:List Str},(L.map λx=>(tabIn (K w.params) x).map (·.2)).Nodup->∀y∈L,∀z∈L,(tabIn (K w.params) y).map (·.2)=(tabIn (K w.params) z).map (·.2)->y=z:=λ{L} nd=>by
  induction L with
  |nil=>exact λy j=>nomatch j
  |cons u L ih=>
   rw[bC,bI]at nd;intro y j z hz e;rcases aG.mp j with m|hy1
   .rcases aG.mp hz with Q|B
    .exact m.trans Q.symm
    .exact absurd (aE.mpr ⟨z,B,by rw[<-m];exact e.symm⟩) nd.1
   .rcases aG.mp hz with Q|B
    .exact absurd (aE.mpr ⟨y,hy1,by rw[<-Q];exact e⟩) nd.1
    .exact ih nd.2 y hy1 z B e
 refine enter_call (codeAny_mono (Ey (p.filterMap λy=>(tabIn (K w.params) y).map λr=>(r.1,r.2,y)) KX G.T.g G.T.b G.T.builtins G.T.nolimit hg hobj A (aO kh hn2) hr (λt U=>?_) (λt U t' ht' e=>?_) (λi h1 J h3=>hF i h1 J λy j=>?_) hbd (λH hS=>hsp _ H a N kh hb hS)) λr s' hq=>?_)
 .obtain⟨j,e⟩:=I t U;obtain⟨d',hd'⟩:=hx _ j;obtain⟨C,hP⟩:=tab_of G.T KX hd' e;obtain⟨c,P,e',hl,hc⟩:=one _ j;rw[e]at e';obtain⟨t1,t2,t3⟩:=t;cases e';exact⟨C,hP,hl,codeRec_of KX hc,bm,ob,b1,b2,hbG,(λz=>by rw[z,hP]at Z;cases Z;cases b4),Z,b4,b5,b6⟩
 .obtain⟨j,m⟩:=I t U;obtain⟨hy',Q⟩:=I t' ht';have:t.2.2=t'.2.2:=inj E _ j _ hy' (by rw[m,Q];simp[e]);rw[this,Q]at m;obtain⟨t1,t2,t3⟩:=t;obtain⟨t1',t2',t3'⟩:=t';cases m;cases this;rfl
 .intro f oc od fd' osl hm hlk;obtain⟨c,P,e,hl,hc⟩:=one y j;obtain⟨f1,f2,f3,f4⟩:=h3 (c,P,y) (bu.mpr ⟨y,j,by rw[e];rfl⟩);exact⟨c,P,law_code h1 J e hm (h1 _ _ hlk) rfl,f1,f2,f3,f4⟩
 obtain⟨rfl,J,h3,h4⟩:=hq;exact⟨.inl ⟨.bool true,.bool true,[],rfl,λ_=>rfl,.bool true,Att.post_true l _,λ_=>⟨List.Pairwise.nil,λ_ hm=>(nomatch hm)⟩⟩,J,h3,h4⟩
end L2
namespace L3
open PySem L2
inductive T where
 |non|bl (b:Bool)|int (i:Int)|str (x:Str)
 |tup (ts:List T)|lst (ts:List T)|scr (ns:LI)
 |obj (C:Addr) (fs:List (Str×T))|emp
 |dic (kvs:List (LI×T))
inductive M(α:Type) where
 |bad|ok (a:α)|er (C:Addr) (n:Option Int)
namespace M
noncomputable def bind{c b:Type}(m:M c)(k:c->M b):M b:=match m with
 |.bad=>.bad
 |.ok a=>k a
 |.er C n=>.er C n
instance:Monad M where
 pure:=.ok
 bind:=M.bind
noncomputable def res{b:Type}(m:M b)(P:b->Prop)(E:Addr->Option Int->Prop):Prop:=match m with
 |.bad=>False
 |.ok a=>P a
 |.er C n=>E C n
def res.unb{m:M α}{k:α->M β}{P:β->Prop}(h:res (m.bind k) P E):res m (λa=>res (k a) P E) E:=by cases m<;>exact h
def res.mono{m:M α}{P b:α->Prop}(h:res m P E)(c:∀a,P a->b a)(d:∀C n,E C n->E' C n):res m b E':=by
 cases m with
 |bad=>exact h
 |ok a=>exact c a h
 |er C n=>exact d C n h
noncomputable def noEr{a:Type}(m:M a):M a:=match m with
 |.er _ _=>.bad
 |m=>m
def res.noEr{m:M α}{P:α->Prop}(h:res m.noEr P E):res m P E':=by
 cases m with
 |bad=>exact h
 |ok a=>exact h
 |er C n=>exact h.elim
@[simp] theorem bind_ok a (k:α->M β):M.bind (.ok a) k=k a:=rfl
@[simp] theorem Pg(k:α->M β):M.bind (.bad:M α) k=.bad:=rfl
@[simp] theorem Ql C n (k:α->M β):M.bind (.er C n:M α) k=.er C n:=rfl
noncomputable def NoE{a:Type}(m:M a):Prop:=∀C n,m≠.er C n
def res.ne{m:M α}{P:α->Prop}(h:res m P E)(ne:NoE m):res m P E':=by
 cases m with
 |bad=>exact h
 |ok a=>exact h
 |er C n=>exact absurd rfl (ne C n)
@[simp] theorem noEr_ok(a:α):noEr (.ok a)=.ok a:=rfl
end M
mutual
inductive i7(K:W.Frag)(F:Hp):V->T->Prop
 |non:i7 K F .non .non
 |bl (b:Bool):i7 K F (.bl b) (.bl b)
 |int (i:Int):i7 K F (.int i) (.int i)
 |str (x:Str):i7 K F (.str x) (.str x)
 |tup {a:Addr} {xs:List V} {ts:List T} (h:F a=some (.tup xs)) (r:fE K F xs ts):i7 K F (.ref a) (.tup ts)
 |lst {a:Addr} {xs:List V} {ts:List T} (h:F a=some (.lst xs)) (r:fE K F xs ts):i7 K F (.ref a) (.lst ts)
 |scr {a:Addr} {ns:LI} (h:jQ K F a (ns.map V.int)):i7 K F (.ref a) (.scr ns)
 |obj {a C dx:Addr} {fs:List (Str×V)} {ts:List (Str×T)} (h:F a=some (.ins C dx fs)) (r:mQ K F fs ts):i7 K F (.ref a) (.obj C ts)
 |emp {a:Addr} (h:F a=some (.dK [])):i7 K F (.ref a) .emp
 |dic {a:Addr} {xs:List (List mG×V)} {kvs:List (LI×T)} (h:F a=some (.dT xs)) (r:xo K F xs kvs):i7 K F (.ref a) (.dic kvs)
inductive fE(K:W.Frag)(F:Hp):List V->List T->Prop
 |nil:fE K F [] []
 |cons {v:V} {t:T} {vs:List V} {ts:List T} (h:i7 K F v t) (r:fE K F vs ts):fE K F (v::vs) (t::ts)
inductive mQ(K:W.Frag)(F:Hp):List (Str×V)->List (Str×T)->Prop
 |nil:mQ K F [] []
 |cons {x:Str} {v:V} {t:T} {vs:List (Str×V)} {ts:List (Str×T)} (h:i7 K F v t) (r:mQ K F vs ts):mQ K F ((x,v)::vs) ((x,t)::ts)
inductive xo(K:W.Frag)(F:Hp):List (List mG×V)->List (LI×T)->Prop
 |nil:xo K F [] []
 |cons {k:LI} {v:V} {t:T} {vs:List (List mG×V)} {ts:List (LI×T)} (h:i7 K F v t) (r:xo K F vs ts):xo K F ((k.map Sum.inl,v)::vs) ((k,t)::ts)
end
section
variable {K:W.Frag}{F F':Hp}
mutual
theorem i7.mono(s:fw F F'):∀{v} {t},i7 K F v t->i7 K F' v t
 |_,_,.non=>.non
 |_,_,.bl b=>.bl b
 |_,_,.int i=>.int i
 |_,_,.str x=>.str x
 |_,_,.tup h r=>.tup (s _ _ h) (fE.mono s r)
 |_,_,.lst h r=>.lst (s _ _ h) (fE.mono s r)
 |_,_,.scr h=>.scr (s.seq h)
 |_,_,.obj h r=>.obj (s _ _ h) (mQ.mono s r)
 |_,_,.emp h=>.emp (s _ _ h)
 |_,_,.dic h r=>.dic (s _ _ h) (xo.mono s r)
theorem fE.mono(s:fw F F'):∀{vs} {ts},fE K F vs ts->fE K F' vs ts
 |_,_,.nil=>.nil
 |_,_,.cons h r=>.cons (i7.mono s h) (fE.mono s r)
theorem mQ.mono(s:fw F F'):∀{vs} {ts},mQ K F vs ts->mQ K F' vs ts
 |_,_,.nil=>.nil
 |_,_,.cons h r=>.cons (i7.mono s h) (mQ.mono s r)
theorem xo.mono(s:fw F F'):∀{vs} {ts},xo K F vs ts->xo K F' vs ts
 |_,_,.nil=>.nil
 |_,_,.cons h r=>.cons (i7.mono s h) (xo.mono s r)
end
theorem fE.length:∀{vs} {ts},fE K F vs ts->vs.length=ts.length
 |_,_,.nil=>rfl
 |_,_,.cons _ r=>by rw[aA,aA,fE.length r]
theorem fE.get:∀{vs:List V} {ts:List T} {i:Nat} {t:T},fE K F vs ts->ts[i]? = some t->∃v,vs[i]? = some v/\i7 K F v t
 |_,_,_,_,.nil,e=>by simp at e
 |_,_,0,_,.cons h _,e=>by simp at e;subst e;exact⟨_,rfl,h⟩
 |_,_,i+1,_,.cons _ r,e=>by obtain⟨v,a,h⟩:=fE.get r (by simpa using e);exact⟨v,by simpa using a,h⟩
def fE.at_{i:Nat}(r:fE K F vs ts)(e:vs[i]? = some v):∃t,ts[i]? = some t/\i7 K F v t:=by
 have b:i<ts.length:=by rw[<-r.length];exact (aa.mp e).1
 obtain⟨c,a,h⟩:=r.get (ag b);rw[e]at a;cases a;exact⟨_,ag b,h⟩
theorem fE.append:∀{vs us} {ts ss},fE K F vs ts->fE K F us ss->fE K F (vs++us) (ts++ss)
 |_,_,_,_,.nil,q=>q
 |_,_,_,_,.cons h r,q=>.cons h (fE.append r q)
theorem fE.set(q:i7 K F v t):∀{vs} {ts} i,fE K F vs ts->fE K F (vs.set i v) (ts.set i t)
 |_,_,_,.nil=>.nil
 |_,_,0,.cons _ r=>.cons q r
 |_,_,i+1,.cons h r=>.cons h (fE.set q i r)
theorem fE.take:∀{vs} {ts} n,fE K F vs ts->fE K F (vs.take n) (ts.take n)
 |_,_,0,_=>.nil
 |_,_,_+1,.nil=>.nil
 |_,_,n+1,.cons h r=>.cons h (fE.take n r)
theorem fE.drop:∀{vs} {ts} n,fE K F vs ts->fE K F (vs.drop n) (ts.drop n)
 |_,_,0,r=>r
 |_,_,_+1,.nil=>.nil
 |_,_,n+1,.cons _ r=>fE.drop n r
theorem fE.rep:∀{vs} {ts} n,fE K F vs ts->fE K F (List.replicate n vs).flatten (List.replicate n ts).flatten
 |_,_,0,_=>.nil
 |_,_,n+1,r=>by rw[bR,bR,bS,bS];exact r.append (fE.rep n r)
theorem fE.ints:∀{vs:List V} {a:LI},fE K F vs (a.map T.int)->vs=a.map V.int
 |_,[],.nil=>rfl
 |_,_::_,.cons h r=>by cases h;rw[fE.ints r];rfl
theorem fE.bls:∀{vs:List V} {a:List Bool},fE K F vs (a.map T.bl)->vs=a.map V.bl
 |_,[],.nil=>rfl
 |_,_::_,.cons h r=>by cases h;rw[fE.bls r];rfl
theorem fE.of_ints:∀(a:LI),fE K F (a.map V.int) (a.map T.int)
 |[]=>.nil
 |n::a=>.cons (.int n) (fE.of_ints a)
theorem mQ.look:∀{fs} {ts},mQ K F fs ts->ts.lookup f=some t->∃v,fs.lookup f=some v/\i7 K F v t
 |_,_,.nil,e=>by cases e
 |_,_,.cons (x:=x) h r,e=>by
  by_cases a:f=x
  .subst a;rw[cY]at e;cases e;exact⟨_,cY,h⟩
  .have b:(f==x)=false:=by simpa using a
   rw[b9,b]at e;obtain⟨v,c,d⟩:=mQ.look r e;exact⟨v,by rw[b9,b];exact c,d⟩
theorem mQ.none_:∀{fs} {ts},mQ K F fs ts->ts.lookup f=none->fs.lookup f=none
 |_,_,.nil,e=>rfl
 |_,_,.cons (x:=x) h r,e=>by
  by_cases a:f=x
  .subst a;rw[cY]at e;cases e
  .have b:(f==x)=false:=by simpa using a
   rw[b9,b]at e ⊢;exact mQ.none_ r e
end
def vZ(h:EN o (some u))(b:∀q a,u≠.tbl q a):o=u:=by
 cases o with
 |tbl q a=>obtain⟨m,e⟩:=h;exact absurd (Option.some.inj e) (b _ _)
 |_=>exact (Option.some.inj h).symm
def LA{x y:Option HO}(h:EN o x)(k:∀a,x=some a->EN a y):EN o y:=by
 cases o with
 |tbl q ps=>obtain⟨m,e⟩:=h;obtain⟨c,b⟩:=k _ e;exact⟨m++c,by rw[b,bq]⟩
 |_=>exact k _ h
def tQ{H:Hp}(h:EN u (H b))(h':H p=none):b≠p:=λz=>h.ne (by rw[z];exact h')
structure Gr(F H F' H':Hp):Prop where
 ff:fw F F'
 fh:fw F' H'
 hh:fw H H'
 nw:∀a,F' a≠none->F a≠none\/H a=none\/∃xs,H a=some (.tup xs)
def Gr.refl(h:fw F H):Gr F H F H:=⟨.refl _,h,.refl _,λ_ h=>.inl h⟩
def fG(h:fw H H')(e:H' a=none):H a=none:=by
 cases q:H a with
 |none=>rfl
 |some o=>exact absurd e (h a o q).ne
def Gr.trans(g:Gr F H F' H')(b:Gr F' H' F'' H''):Gr F H F'' H'':=
 ⟨g.ff.trans b.ff,b.fh,g.hh.trans b.hh,λa d=>by
  rcases b.nw a d with q|q|⟨c,q⟩
  .exact g.nw a q
  .exact .inr (.inl (fG g.hh q))
  .cases z:H a with
   |none=>exact .inr (.inl rfl)
   |some o=>exact .inr (.inr ⟨c,by have k:=g.hh a o z;rw[q]at k;rw[vZ k λ_ _ y=>nomatch y]⟩)⟩
def Gr.new(s:fw F H)(h:H p=none):Gr F H (gy F p o) (gy H p o):=by
 have c:=fG s h;refine⟨λb u e=>?_,λb u e=>?_,λb u e=>?_,λb a=>?_⟩
 .rw[fu (fF e c)];exact .of e
 .by_cases q:b=p
  .subst q;rw[eW]at e ⊢;exact .of e
  .rw[fu q]at e ⊢;exact s b u e
 .rw[fu (fF e h)];exact .of e
 .by_cases q:b=p
  .subst q;exact .inr (.inl h)
  .rw[fu q]at a;exact .inl a
def Gr.new'(s:fw F H)(h:H p=none):Gr F H F (gy H p o):=by
 refine⟨.refl _,λb u e=>?_,λb u e=>?_,λb a=>.inl a⟩
 .rw[fu (tQ (s b u e) h)];exact s b u e
 .rw[fu (fF e h)];exact .of e
def Gr.take(g:Gr F0 H0 F H)(h:H p=some o)(c:F p=none)(d:H0 p=none):Gr F0 H0 (gy F p o) H:=by
 refine⟨λb u e=>?_,λb u e=>?_,g.hh,λb a=>?_⟩
 .rw[fu (tQ (g.ff b u e) c)];exact g.ff b u e
 .by_cases q:b=p
  .subst q;rw[eW]at e;cases e;exact .of h
  .rw[fu q]at e;exact g.fh b u e
 .by_cases q:b=p
  .subst q;exact .inr (.inl d)
  .rw[fu q]at a;exact g.nw b a
def iF(a:F p=none):fw F (gy F p o):=λb u e=>by rw[fu (fF e a)];exact .of e
abbrev Pe:=List (Option T)
section
variable (K:W.Frag)
def jL(F:Hp)(a:St)(ρ:Pe):Prop:=∀(i:Nat) (t:T),ρ[i]? = some (some t)->∃v,a[i]? = some (some v)/\i7 K F v t
def jL.mono{K:W.Frag}(h:jL K F σ ρ)(s:fw F F'):jL K F' σ ρ:=λi t e=>let ⟨v,a,b⟩:=h i t e;⟨v,a,b.mono s⟩
def RN(E:XK)(C:Addr)(n:Option Int)(F H:Hp):Prop:=match n with
 |none=>E (.ref C) none H
 |some i=>∀a,F a=some (.xd [("at",.int i)])->E (.ref C) (some a) H
def kE(E:XK)(F H:Hp)(C:Addr)(n:Option Int):Prop:=∀a b,Gr F H a b->RN E C n a b
def kE.go(h:kE E F H C n)(g:Gr F H F1 H1):kE E F1 H1 C n:=λc a b=>h c a (g.trans b)
def kV(F H:Hp)(Q:VK)(t:T):Prop:=∀v b a,Gr F H b a->i7 K b v t->Q v a
def kB(F H:Hp)(Q:Bool->Hp->Prop)(b:Bool):Prop:=∀c a,Gr F H c a->Q b a
def kA(F H:Hp)(Q:List V->Hp->Prop)(ts:List T):Prop:=∀b c a,Gr F H c a->fE K c b ts->Q b a
def kF(F H:Hp)(Q:VK)(ts:List T):Prop:=∀l c b a,Gr F H b a->H l=none->b l=none->a l=some (.lst c)->fE K b c ts->Q (.ref l) a
noncomputable def ME(E:XK)(t:TE)(f:Pe->M T):Prop:=∀F H a b Q,fw F H->jL K F a b->(f b).res (kV K F H Q) (kE E F H)->t a H Q
noncomputable def MT(E:XK)(t:TT)(f:Pe->M Bool):Prop:=∀F H a b Q,fw F H->jL K F a b->(f b).res (kB F H Q) (kE E F H)->t a H Q
noncomputable def MA(E:XK)(t:TA)(f:Pe->M (List T)):Prop:=∀F H a b Q,fw F H->jL K F a b->(f b).res (kA K F H Q) (kE E F H)->t a H Q
noncomputable def MF(E:XK)(t:TE)(f:Pe->M (List T)):Prop:=∀F H a b Q,fw F H->jL K F a b->(f b).res (kF K F H Q) (kE E F H)->t a H Q
end
section
variable {K:W.Frag}{E:XK}{t u ta tb:TE}{f g fa fb:Pe->M T}
def kV.go{t:T}(h:kV K F H Q t)(g:Gr F H F1 H1):kV K F1 H1 Q t:=λv c a b r=>h v c a (g.trans b) r
def kB.go{t:Bool}(h:kB F H Q t)(g:Gr F H F1 H1):kB F1 H1 Q t:=λc a b=>h c a (g.trans b)
def kF.go{t:List T}(h:kF K F H Q t)(g:Gr F H F1 H1):kF K F1 H1 Q t:=λl j k e i a b c d=>h l j k e (g.trans i) (fG g.hh a) b c d
def kV.now{t:T}(h:kV K F H Q t)(s:fw F H)(r:i7 K F v t):Q v H:=h v F H (.refl s) r
def kF.of(h:kV K F H Q (.lst ts)):kF K F H Q ts:=λl d e c g i b a r=>h (.ref l) (gy e l (.lst d)) c (g.take a b i) (.lst eW (r.mono (iF b)))
def MF.me{f:Pe->M (List T)}(h:MF K E t f):ME K E t (λρ=>(f ρ).bind λts=>.ok (.lst ts)):=λF H a ρ Q s V r=>h F H a ρ Q s V ((M.res.unb r).mono (λts q=>kF.of q) λ_ _ z=>z)
def ME.run{k:T->M α}{P:α->Prop}(h:ME K E t f)(s:fw F H)(v:jL K F σ ρ)(r:((f ρ).bind k).res P (kE E F H))
  (d:∀x w b a,Gr F H b a->i7 K b w x->(k x).res P (kE E b a)->Q w a):t σ H Q:=
 h F H σ ρ Q s v ((M.res.unb r).mono (λx q w b a g c=>d x w b a g c (q.mono (λ_ z=>z) λ_ _ z=>z.go g)) λ_ _ z=>z)
def MT.run{t:TT}{f:Pe->M Bool}{k:Bool->M α}{P:α->Prop}(h:MT K E t f)(s:fw F H)(v:jL K F σ ρ)(r:((f ρ).bind k).res P (kE E F H))
  (c:∀x b a,Gr F H b a->(k x).res P (kE E b a)->Q x a):t σ H Q:=
 h F H σ ρ Q s v ((M.res.unb r).mono (λx q b a g=>c x b a g (q.mono (λ_ z=>z) λ_ _ z=>z.go g)) λ_ _ z=>z)
def MA.run{t:TA}{f:Pe->M (List T)}{k:List T->M α}{P:α->Prop}(h:MA K E t f)(s:fw F H)(v:jL K F σ ρ)(r:((f ρ).bind k).res P (kE E F H))
  (d:∀x w b a,Gr F H b a->fE K b w x->(k x).res P (kE E b a)->Q w a):t σ H Q:=
 h F H σ ρ Q s v ((M.res.unb r).mono (λx q w b a g c=>d x w b a g c (q.mono (λ_ z=>z) λ_ _ z=>z.go g)) λ_ _ z=>z)
@[simp] noncomputable def eN(i:Nat):Pe->M T:=λa=>match a[i]? with
 |some (some t)=>.ok t
 |_=>.bad
def MP:ME K E (j7 i) (eN i):=λF H b c Q s V r=>by
 unfold eN at r;split at r
 .rename_i t e;obtain⟨v,a,h⟩:=V i t e;exact⟨v,a,r.now s h⟩
 .exact r.elim
@[simp] noncomputable def cM(t:T):Pe->M T:=λ_=>.ok t
def JZ{t:T}(h:∀F,i7 K F v t):ME K E (tC v) (cM t):=λF H a b Q s V r=>kV.now r s (h F)
@[simp] noncomputable def eV(o:T->T->M T)(fa fb:Pe->M T):Pe->M T:=λa=>(fa a).bind λx=>(fb a).bind λy=>o x y
structure MR(K:W.Frag)(r:R2)(o:T->T->M T):Prop where
 ne:∀x y,M.NoE (o x y)
 ok:∀F H v w x y Q,fw F H->i7 K F v x->i7 K F w y->(o x y).res (kV K F H Q) (λ_ _=>False)->r v w H Q
def C1(hr:MR K r o)(j:ME K E ta fa)(k:ME K E tb fb):ME K E (sT r ta tb) (eV o fa fb):=λF H p n Q s V q=>by refine j.run s V q λx v m A a e l=>?_;refine k.run a.fh (V.mono a.ff) l λy w h d b c i=>?_;exact hr.ok h d v w x y Q b.fh (e.mono b.ff) c ((i.ne (hr.ne x y)).mono (λ_ z=>z.go (a.trans b)) λ_ _ z=>z)
noncomputable def iW(C:Int->Int->Bool)(g:Int->Int->T):T->T->M T
 |.int i,.int j=>if C i j then .ok (g i j) else .bad
 |_,_=>.bad
def zK{g:Int->Int->T} x y:M.NoE (iW C g x y):=λa n=>by
 unfold iW;split
 .split<;>exact λz=>nomatch z
 .exact λz=>nomatch z
def i7.int_inv(h:i7 K F v (.int i)):v=.int i:=by cases h;rfl
def i7.lst_inv(h:i7 K F v (.lst ts)):∃a b,v=.ref a/\F a=some (.lst b)/\fE K F b ts:=by cases h;exact⟨_,_,rfl,‹_›,‹_›⟩
def i7.tup_inv(h:i7 K F v (.tup ts)):∃a b,v=.ref a/\F a=some (.tup b)/\fE K F b ts:=by cases h;exact⟨_,_,rfl,‹_›,‹_›⟩
def fE.two(h:fE K F vs [.int i,.int j]):vs=[.int i,.int j]:=by
 cases h with
 |cons h t=>
  cases t with
  |cons h2 t=>cases t;rw[h.int_inv,h2.int_inv]
def rX{g:Int->Int->V}(c:∀i j,Cb i j=true->C i j)(d:∀F i j,i7 K F (g i j) (gt i j)):MR K (rI C g) (iW Cb gt):=⟨zK,λF H v w x y Q s a b q=>by
 unfold iW at q;split at q
 .rename_i i j;rw[a.int_inv,b.int_inv];by_cases h:Cb i j=true
  .rw[aR h]at q;exact⟨i,j,rfl,rfl,c i j h,kV.now q s (d F i j)⟩
  .rw[aS h]at q;exact q.elim
 .exact q.elim⟩
def oH{g:Int->Int->V}(c:∀F i j,i7 K F (g i j) (gt i j)):MR K (zF g) (iW (λ_ _=>true) gt):=⟨zK,λF H v w x y Q s a b q=>by
 unfold iW at q;split at q
 .rw[a.int_inv,b.int_inv];exact⟨_,_,rfl,rfl,kV.now q s (c F _ _)⟩
 .exact q.elim⟩
@[simp] noncomputable def yE(o:Int->T)(fa:Pe->M T):Pe->M T:=λa=>(fa a).bind λx=>match x with
 |.int i=>.ok (o i)
 |_=>.bad
def Qd{g:Int->V}(h:∀F i,i7 K F (g i) (gt i))(e:ME K E ta fa):ME K E (Ra (rU g) ta) (yE gt fa):=λF H l k Q s V q=>by
 refine e.run s V q λx v a j c d b=>?_;cases d<;>first
  |exact b.elim
  |exact⟨_,rfl,b _ a j c (h a _)⟩
@[simp] noncomputable def gd(fa:Pe->M T):Pe->M Bool:=λa=>(fa a).bind λx=>match x with
 |.bl b=>.ok b
 |_=>.bad
def Jk(e:ME K E ta fa):MT K E (tB ta) (gd fa):=λF H i j Q s V q=>by
 refine e.run s V q λx v b h c d a=>?_;cases d<;>first
  |exact a.elim
  |exact⟨_,rfl,a b h c⟩
def I0(a:ME K E ta fa):MT K E (zl ta) (gd fa):=Jk a
section
variable {c d:TT}{fc fd:Pe->M Bool}
@[simp] noncomputable def nr(fc fd:Pe->M Bool):Pe->M Bool:=λa=>(fc a).bind λb=>if b then fd a else .ok false
@[simp] noncomputable def EM(fc fd:Pe->M Bool):Pe->M Bool:=λa=>(fc a).bind λb=>if b then .ok true else fd a
@[simp] noncomputable def oW(fc:Pe->M Bool):Pe->M Bool:=λa=>(fc a).bind λb=>.ok (!b)
def MW(m:MT K E c fc)(l:MT K E d fd):MT K E (NR c d) (nr fc fd):=λF H j k Q s V q=>by
 refine m.run s V q λb e i a h=>?_;cases b with
 |true=>rw[aR rfl];exact l e i j k Q a.fh (V.mono a.ff) (h.mono (λ_ z=>z.go a) λ_ _ z=>z)
 |false=>rw[aS aI];exact h e i a
def PZ(m:MT K E c fc)(l:MT K E d fd):MT K E (QM c d) (EM fc fd):=λF H j k Q s V q=>by
 refine m.run s V q λb e i a h=>?_;cases b with
 |true=>rw[aR rfl];exact h e i a
 |false=>rw[aS aI];exact l e i j k Q a.fh (V.mono a.ff) (h.mono (λ_ z=>z.go a) λ_ _ z=>z)
def M6(i:MT K E c fc):MT K E (N1 c) (oW fc):=λF H k l Q s V q=>by refine i.run s V q λb a j h e=>?_;exact e a j h
end
@[simp] noncomputable def JR(fa fb:Pe->M T):Pe->M T:=λa=>(gd fa a).bind λb=>if b then fb a else .ok (.bl false)
@[simp] noncomputable def Gg(fa:Pe->M T):Pe->M T:=λa=>(gd fa a).bind λb=>.ok (.bl (!b))
def JJ(k:ME K E ta fa)(h:ME K E tb fb):ME K E (EX ta tb) (JR fa fb):=λF H i j Q s V q=>by
 refine (Jk k).run s V q λb c e a d=>?_;cases b with
 |true=>rw[aR rfl];exact h c e i j Q a.fh (V.mono a.ff) (d.mono (λ_ z=>z.go a) λ_ _ z=>z)
 |false=>rw[aS aI];exact d _ c e a (.bl _)
def Lh(e:ME K E ta fa):ME K E (Gn ta) (Gg fa):=λF H i j Q s V q=>by refine (Jk e).run s V q λb a h d c=>?_;exact c _ a h d (.bl _)
@[simp] noncomputable def eM(fa:Pe->M T)(b:Pe->M (List T)):Pe->M (List T):=λa=>(fa a).bind λx=>(b a).bind λc=>.ok (x::c)
@[simp] noncomputable def eP:Pe->M (List T):=λ_=>.ok []
def Bj:MA K E sH eP:=λF H a b Q s V q=>q [] F H (.refl s) .nil
def Kx{c:TA}{b:Pe->M (List T)}(m:ME K E ta fa)(hr:MA K E c b):MA K E (oA ta c) (eM fa b):=λF H r p Q s V q=>by refine m.run s V q λx v o y a j n=>?_;refine hr.run a.fh (V.mono a.ff) n λw h k i d e l=>?_;exact l (v::h) k i (a.trans d) (.cons (j.mono d.ff) e)
@[simp] noncomputable def yL(ts:List T):M (List T):=if ts.length<=sizeLine then .ok ts else .bad
@[simp] noncomputable def nv(b:Pe->M (List T)):Pe->M T:=λc=>(b c).bind λa=>(yL a).bind λa=>.ok (.tup a)
@[simp] noncomputable def lstM(a:Pe->M (List T)):Pe->M (List T):=λb=>(a b).bind yL
def Ng{e:TA}{d:Pe->M (List T)}(hr:MA K E e d):ME K E (Nc e) (nv d):=λF H n l Q s V q=>by
 refine hr.run s V q λj m k o b i a=>?_;unfold yL at a;by_cases h:j.length<=sizeLine
 .rw[aR h]at a;refine⟨by rw[i.length];exact h,λp c=>?_⟩;exact a (.ref p) _ _ (b.trans (.new b.fh c)) (.tup eW (i.mono (Gr.new b.fh c).ff))
 .rw[aS h]at a;exact a.elim
def Ox{e:TA}{d:Pe->M (List T)}(hr:MA K E e d):MF K E (N7 e) (lstM d):=λF H n m Q s V q=>by
 refine hr.run s V q λl k j o b i a=>?_;unfold yL at a;by_cases h:l.length<=sizeLine
 .rw[aR h]at a;refine⟨by rw[i.length];exact h,λp c=>?_⟩;exact a p k j _ (b.trans (.new' b.fh c)) (fG b.hh c) (fG b.fh c) eW i
 .rw[aS h]at a;exact a.elim
end
end L3
namespace L3
open PySem L2
inductive W where
 |p (t:T)|o (ts:List T)|d (kvs:List (LI×T))
abbrev En:=List (Option W)
@[simp] def QQ:Option W->Option T
 |some (.p t)=>some t
 |_=>none
@[simp] def Ro:Option W->Option T
 |some (.p t)=>some t
 |some (.o ts)=>some (.lst ts)
 |_=>none
@[simp] noncomputable def kD(ρ:En):Pe:=ρ.map QQ
@[simp] noncomputable def vw(ρ:En):Pe:=ρ.map Ro
mutual
@[simp] noncomputable def lf:T->Bool
 |.lst _=>false
 |.scr _=>false
 |.dic _=>false
 |.tup ts=>DL ts
 |.obj _ fs=>QA fs
 |_=>true
@[simp] noncomputable def DL:List T->Bool
 |[]=>true
 |t::ts=>lf t&&DL ts
noncomputable def QA:List (Str×T)->Bool
 |[]=>true
 |t::ts=>lf t.2&&QA ts
end
structure Fz where
 hp:Hp
 lt:List (Nat×Addr×List V)
instance:Coe Fz Hp:=⟨Fz.hp⟩
structure Lv(H0 F H:Hp)(σ:St)(ρ:En)(e:Nat×Addr×List V):Prop where
 h:H e.2.1=some (.lst e.2.2)
 f:F e.2.1=none
 z:H0 e.2.1=none
 d:∀(i:Nat) (ts:List T),ρ[i]? = some (some (.o ts))->σ[i]?≠some (some (.ref e.2.1))
def DR(K:W.Frag)(F:Hp)(b:List (List mG×V))(a:List (LI×T)):Prop:=Paired (λ(p:List mG×V) (q:LI×T)=>p.1=q.1.map Sum.inl/\i7 K F p.2 q.2) b a
def DR.mono(s:fw F F')(h:DR K F xs kvs):DR K F' xs kvs:=Paired.imp' (λ_ _ q=>⟨q.1,q.2.mono s⟩) h
structure Dv(K:W.Frag)(H0 F H:Hp)(σ:St)(ρ:En):Prop where
 at_:∀(i:Nat) kvs,ρ[i]? = some (some (.d kvs))->∃a,σ[i]? = some (some (.ref a))/\F a=none/\H0 a=none/\∃xs,H a=some (.dT xs)/\DR K F xs kvs
 dj:∀(i j:Nat) kvs kvs',ρ[i]? = some (some (.d kvs))->ρ[j]? = some (some (.d kvs'))->i≠j->σ[i]?≠σ[j]?
def Dl{a:Type}{l:List a}{x y:a}(h:(l.set i x)[i]? = some y):y=x:=by
 rw[List.getElem?_set]at h;simp only[if_true]at h;split at h
 .exact (Option.some.inj h).symm
 .cases h
def EF{a:Type}{l:List a}{x y:a}(h:(l.set i x)[j]? = some y):(j=i/\y=x)\/(j≠i/\l[j]? = some y):=by
 by_cases e:j=i
 .subst e;exact .inl ⟨rfl,Dl h⟩
 .rw[ar (λz=>e z.symm)]at h;exact .inr ⟨e,h⟩
def Dv.heap(d:Dv K H0 F H σ ρ)(s:fw F F')(h:∀a b,H a=some (.dT b)->F a=none->F' a=none/\H' a=some (.dT b)):Dv K H0 F' H' σ ρ:=⟨λi c e=>let ⟨a,e1,e2,e3,b,e4,e5⟩:=d.at_ i c e;let ⟨h1,h2⟩:=h a b e4 e2;⟨a,e1,h1,e3,b,h2,e5.mono s⟩,d.dj⟩
def Dv.set(d:Dv K H0 F H σ ρ)(hw:∀b,w≠some (.d b)):Dv K H0 F H (σ.set i v) (ρ.set i w):=by
 refine⟨λj b e=>?_,λj k b c e l f=>?_⟩
 .rcases EF e with⟨rfl,q⟩|⟨g,q⟩
  .exact absurd q.symm (hw b)
  .obtain⟨a,m,r⟩:=d.at_ j b q;exact⟨a,by rw[ar (λz=>g z.symm)];exact m,r⟩
 .rcases EF e with⟨rfl,q⟩|⟨g,q⟩
  .exact absurd q.symm (hw b)
  .rcases EF l with⟨rfl,h⟩|⟨n,h⟩
   .exact absurd h.symm (hw c)
   .rw[ar (λz=>g z.symm),ar (λz=>n z.symm)];exact d.dj j k b c q h f
def Dv.setR(d:Dv K H0 F H σ ρ)(hw:∀a,w≠some (.d a)):Dv K H0 F H σ (ρ.set i w):=by
 refine⟨λj a e=>?_,λj k a b e g c=>?_⟩
 .rcases EF e with⟨rfl,q⟩|⟨h,q⟩
  .exact absurd q.symm (hw a)
  .exact d.at_ j a q
 .rcases EF e with⟨rfl,q⟩|⟨h,q⟩
  .exact absurd q.symm (hw a)
  .rcases EF g with⟨rfl,f⟩|⟨l,f⟩
   .exact absurd f.symm (hw b)
   .exact d.dj j k a b q f c
structure Sr(K:W.Frag)(F0:Fz)(H0 F H:Hp)(σ:St)(ρ:En):Prop where
 gr:Gr F0.hp H0 F H
 len:σ.length=ρ.length
 pv:∀(i:Nat) (t:T),ρ[i]? = some (some (.p t))->∃v,σ[i]? = some (some v)/\i7 K F v t
 ov:∃ad:Nat->Addr,(∀(i:Nat) (ts:List T),ρ[i]? = some (some (.o ts))->σ[i]? = some (some (.ref (ad i)))/\F (ad i)=none/\H0 (ad i)=none/\∃vs,H (ad i)=some (.lst vs)/\fE K F vs ts)/\
  ∀(i j:Nat) (ts us:List T),ρ[i]? = some (some (.o ts))->ρ[j]? = some (some (.o us))->i≠j->ad i≠ad j
 lv:∀e∈F0.lt,Lv H0 F H σ ρ e
 sl:∀(j:Nat) (l:Addr) (vs:List V),F0.lt.lookup j=some (l,vs)->ρ[j]? = some none->σ[j]? = some (some (.ref l))
 dv:Dv K H0 F H σ ρ
section
variable {K:W.Frag}{F0:Fz}{H0 F H F' H':Hp}{σ:St}{ρ:En}
def Sr.vars(r:Sr K F0 H0 F H σ ρ):jL K F σ (kD ρ):=λi t e=>by
 unfold kD at e;rw[ax]at e;cases q:ρ[i]? with
 |none=>rw[q]at e;cases e
 |some w=>
  rw[q]at e;cases w with
  |none=>cases e
  |some w=>
   cases w with
   |p t'=>cases e;exact r.pv i _ q
   |o ts=>cases e
   |d kvs=>cases e
def Sr.grow(r:Sr K F0 H0 F H σ ρ)(g:Gr F H F' H'):Sr K F0 H0 F' H' σ ρ:=by
 obtain⟨k,p,s⟩:=r.ov;refine⟨r.gr.trans g,r.len,λi t e=>?_,⟨k,λi l e=>?_,s⟩,λe n=>?_,r.sl,r.dv.heap g.ff λa x j o=>⟨?_,g.hh _ _ j⟩⟩
 .obtain⟨v,a,b⟩:=r.pv i t e;exact⟨v,a,b.mono g.ff⟩
 .obtain⟨a,b,c,m,d,q⟩:=p i l e;refine⟨a,?_,c,m,g.hh _ _ d,q.mono g.ff⟩;cases z:F' (k i) with
  |none=>rfl
  |some u=>
   rcases g.nw (k i) (by rw[z];exact λw=>nomatch w) with y|y|⟨_,y⟩
   .exact absurd b y
   .rw[d]at y;cases y
   .rw[d]at y;cases y
 .have L:=r.lv e n;refine⟨g.hh _ _ L.h,?_,L.z,L.d⟩;cases z:F' e.2.1 with
  |none=>rfl
  |some u=>
   rcases g.nw e.2.1 (by rw[z];exact λw=>nomatch w) with y|y|⟨_,y⟩
   .exact absurd L.f y
   .rw[L.h]at y;cases y
   .rw[L.h]at y;cases y
 .cases z:F' a with
  |none=>rfl
  |some u=>
   rcases g.nw a (by rw[z];exact λw=>nomatch w) with y|y|⟨_,y⟩
   .exact absurd o y
   .rw[j]at y;cases y
   .rw[j]at y;cases y
theorem Sr.lend(r:Sr K F0 H0 F H σ ρ):∃l,fw F l/\Gr F0.hp H0 l H/\jL K l σ (vw ρ)/\
  (∀F' H',Gr l H F' H'->∃j,Gr F H j H'/\fw F j/\fw j F'/\(∀a,F' a≠none->j a=none->∃I,F' a=some (.lst I))/\(∀a,F' a≠none->j a=none->H a≠none)):=by
 classical
 obtain⟨E,m,L⟩:=r.ov;let f:Addr->Prop:=λa=>∃i h,ρ[i]? = some (some (.o h))/\E i=a;let l:Hp:=λa=>if f a then H a else F a
 have s:fw F l:=λa o e=>by
  have:¬f a:=by rintro⟨i,h,q,rfl⟩;obtain⟨_,b,_⟩:=m i h q;rw[b]at e;cases e
  show EN o (if f a then H a else F a);rw[aS this];exact .of e
 have J:fw l H:=λa o e=>by
  by_cases q:f a
  .have u:(if f a then H a else F a)=some o:=e;rw[aR q]at u;exact .of u
  .have u:(if f a then H a else F a)=some o:=e;rw[aS q]at u;exact r.gr.fh a o u
 have ow:∀a,f a->l a=H a:=λa q=>aR q;have B:∀a,¬f a->l a=F a:=λa q=>aS q;refine⟨l,s,⟨r.gr.ff.trans s,J,r.gr.hh,λa k=>?_⟩,λi t e=>?_,λF' H' g=>?_⟩
 .by_cases q:f a
  .obtain⟨i,h,e,rfl⟩:=q;exact .inr (.inl (m i h e).2.2.1)
  .rw[B a q]at k;exact r.gr.nw a k
 .unfold vw at e;rw[ax]at e;cases q:ρ[i]? with
  |none=>rw[q]at e;cases e
  |some w=>
   rw[q]at e;cases w with
   |none=>cases e
   |some w=>
    cases w with
    |p t'=>cases e;obtain⟨v,a,b⟩:=r.pv i _ q;exact⟨v,a,b.mono s⟩
    |o h=>cases e;obtain⟨a,b,c,y,d,z⟩:=m i h q;exact⟨_,a,.lst (by rw[ow _ ⟨i,h,q,rfl⟩];exact d) (z.mono s)⟩
    |d kvs=>cases e
 .let j:Hp:=λa=>if f a then none else F' a
  have n:∀a,¬f a->j a=F' a:=λa q=>aS q;have A:∀a,f a->j a=none:=λa q=>aR q;have C:fw F j:=λa o e=>by
   have:¬f a:=by rintro⟨i,h,q,rfl⟩;obtain⟨_,b,_⟩:=m i h q;rw[b]at e;cases e
   rw[n a this];exact (s.trans g.ff) _ _ e
  have D:fw j F':=λa o e=>by
   by_cases q:f a
   .rw[A a q]at e;cases e
   .rw[n a q]at e;exact .of e
  refine⟨j,⟨C,D.trans g.fh,g.hh,λa k=>?_⟩,C,D,λa k x=>?_,λa k x=>?_⟩
  .by_cases q:f a
   .exact absurd (A a q) k
   .rw[n a q]at k;rcases g.nw a k with z|z
    .rw[B a q]at z;exact .inl z
    .exact .inr z
  .by_cases q:f a
   .obtain⟨i,h,e,rfl⟩:=id q;obtain⟨_,_,_,y,d,_⟩:=m i h e;exact⟨y,g.ff _ (.lst y) (by rw[ow _ q];exact d)⟩
   .rw[n a q]at x;exact absurd x k
  .by_cases q:f a
   .obtain⟨i,h,e,rfl⟩:=id q;obtain⟨_,_,_,y,d,_⟩:=m i h e;rw[d];exact λz=>nomatch z
   .rw[n a q]at x;exact absurd x k
mutual
theorem i7.less(c:fw Fb F)(h:∀a,F a≠none->Fb a=none->∃d,F a=some (.lst d)):∀{v} {t},i7 K F v t->lf t=true->i7 K Fb v t
 |_,_,.non,_=>.non
 |_,_,.bl b,_=>.bl b
 |_,_,.int i,_=>.int i
 |_,_,.str x,_=>.str x
 |_,_,.tup (a:=a) e r,l=>by
  refine .tup ?_ (fE.less c h r (by simpa[lf] using l));cases q:Fb a with
  |none=>obtain⟨d,z⟩:=h a (by rw[e];exact λz=>nomatch z) q;rw[e]at z;cases z
  |some u=>have k:=c a u q;rw[e]at k;rw[vZ k λ_ _ y=>nomatch y]
 |_,_,.lst _ _,l=>by simp[lf]at l
 |_,_,.scr _,l=>by simp[lf]at l
 |_,_,.obj (a:=a) (dx:=dx) e r,l=>by
  refine .obj (dx:=dx) ?_ (mQ.less c h r (by simpa[lf] using l));cases q:Fb a with
  |none=>obtain⟨d,z⟩:=h a (by rw[e];exact λz=>nomatch z) q;rw[e]at z;cases z
  |some u=>have k:=c a u q;rw[e]at k;rw[vZ k λ_ _ y=>nomatch y]
 |_,_,.dic _ _,l=>by simp[lf]at l
 |_,_,.emp (a:=a) e,l=>by
  refine .emp ?_;cases q:Fb a with
  |none=>obtain⟨d,z⟩:=h a (by rw[e];exact λz=>nomatch z) q;rw[e]at z;cases z
  |some u=>have k:=c a u q;rw[e]at k;rw[vZ k λ_ _ y=>nomatch y]
theorem fE.less(b:fw Fb F)(h:∀a,F a≠none->Fb a=none->∃c,F a=some (.lst c)):∀{vs} {ts},fE K F vs ts->DL ts=true->fE K Fb vs ts
 |_,_,.nil,_=>.nil
 |_,_,.cons q r,l=>by rw[DL,bN]at l;exact .cons (i7.less b h q l.1) (fE.less b h r l.2)
theorem mQ.less(b:fw Fb F)(h:∀a,F a≠none->Fb a=none->∃c,F a=some (.lst c)):∀{vs} {ts},mQ K F vs ts->QA ts=true->mQ K Fb vs ts
 |_,_,.nil,_=>.nil
 |_,_,.cons q r,l=>by rw[QA,bN]at l;exact .cons (i7.less b h q l.1) (mQ.less b h r l.2)
end
end
end L3
namespace L3
open PySem L2
def kT(K:W.Frag)(F H:Hp)(Q:VK)(ts us:List T):Prop:=∀p l d c a b,Gr F H a b->H l=none->a l=none->H p=none->a p=none->p≠l->b l=some (.lst c)->b p=some (.tup (d++[.ref l]))->fE K a d ts->fE K a c us->Q (.ref p) b
def kT.of(h:kV K F H Q (.tup (ts++[.lst us]))):kT K F H Q ts us:=λp l t k j u g a b c d e f i r s=>by
 have q:=g.take f b a;have n:gy j l (.lst k) p=none:=by rw[fu e];exact d
 have o:fw j (gy j l (.lst k)):=iF b;have m:fw (gy j l (.lst k)) (gy (gy j l (.lst k)) p (.tup (t++[.ref l]))):=iF n;exact h (.ref p) _ u (q.take i n c) (.tup eW ((r.mono (o.trans m)).append (.cons (.lst (m _ _ eW) (s.mono (o.trans m))) .nil)))
inductive O where
 |bad|nx (ρ:En)|rt (t:T)|rf (ts:List T)|rn (ts us:List T)|bk (ρ:En)|ct (ρ:En)|er (C:Addr) (n:Option Int)
section
variable (K:W.Frag)(E:XK)
def kN(d:Fz)(H0 F:Hp)(D:St->Hp->Prop)(ρ:En):Prop:=∀c b a,fw F c->Sr K d H0 c b a ρ->D a b
noncomputable def O.res(o:O)(a:Fz)(H0 F:Hp)(D:qp):Prop:=match o with
 |.bad=>False
 |.nx ρ=>kN K a H0 F D.nx ρ
 |.rt t=>kV K a.hp H0 D.rt t
 |.rf ts=>kF K a.hp H0 D.rt ts
 |.rn ts us=>kT K a.hp H0 D.rt ts us
 |.bk ρ=>kN K a H0 F D.bk ρ
 |.ct ρ=>kN K a H0 F D.ct ρ
 |.er C n=>kE E a.hp H0 C n
noncomputable def MS(t:TS)(g:En->O):Prop:=∀a b F H c d D,Sr K a b F H c d->(g d).res K E a b F D->t D c H
end
section
variable {K:W.Frag}{E:XK}{t u ta tb:TE}{f fa fb:Pe->M T}{F0:Fz}{H0 F H F1 H1:Hp}{σ:St}{ρ:En}{D:qp}
def kN.go(h:kN K F0 H0 F N ρ)(s:fw F F1):kN K F0 H0 F1 N ρ:=λd b a c r=>h d b a (s.trans c) r
def O.res.go{o:O}(h:o.res K E F0 H0 F D)(s:fw F F1):o.res K E F0 H0 F1 D:=by
 cases o with
 |bad=>exact h
 |nx ρ=>exact kN.go h s
 |rt t=>exact h
 |rf ts=>exact h
 |rn ts us=>exact h
 |bk ρ=>exact kN.go h s
 |ct ρ=>exact kN.go h s
 |er C n=>exact h
noncomputable def O.of{b:Type}(m:M b)(k:b->O):O:=match m with
 |.bad=>.bad
 |.ok a=>k a
 |.er C n=>.er C n
@[simp] theorem O.of_ok(a:α) k:O.of (.ok a) k=k a:=rfl
@[simp] theorem O.of_bad k:O.of (.bad:M α) k=.bad:=rfl
@[simp] theorem O.of_er C n k:O.of (.er C n:M α) k=.er C n:=rfl
def O.res_of{m:M α}{k:α->O}(h:(O.of m k).res K E F0 H0 F D):m.res (λa=>(k a).res K E F0 H0 F D) (kE E F0.hp H0):=by cases m<;>exact h
@[simp] noncomputable def fq(a b:En->O):En->O:=λρ=>match a ρ with
 |.nx ρ'=>b ρ'
 |o=>o
def NT{t u:TS}(g:MS K E t a)(i:MS K E u b):MS K E (AK t u) (fq a b):=λF0 H0 F H σ ρ D r q=>by
 refine g F0 H0 F H σ ρ _ r ?_;unfold fq at q;cases e:a ρ with
 |nx ρ'=>rw[e]at q;intro j h c s d;exact i F0 H0 j h c ρ' D d (q.go s)
 |bad=>rw[e]at q;exact q
 |rt t=>rw[e]at q;exact q
 |rf ts=>rw[e]at q;exact q
 |rn ts us=>rw[e]at q;exact q
 |bk ρ=>rw[e]at q;exact q
 |ct ρ=>rw[e]at q;exact q
 |er C n=>rw[e]at q;exact q
@[simp] noncomputable def f7:En->O:=λρ=>.nx ρ
def J0:MS K E BV f7:=λF0 H0 F H σ ρ D r q=>q F H σ (.refl _) r
def Hy:MS K E AL (λ_=>.bad):=λ_ _ _ _ _ _ _ _ q=>q
def MT.inS(l:MT K E c fc)(r:Sr K F0 H0 F H σ ρ)(q:(O.of (fc (vw ρ)) k).res K E F0 H0 F D)
  (m:∀b e a,fw F e->Sr K F0 H0 e a σ ρ->(k b).res K E F0 H0 e D->Q b a):c σ H Q:=by
 obtain⟨p,s,h,V,d⟩:=r.lend;refine l p H σ (vw ρ) Q h.fh V ((O.res_of q).mono (λb z e a g=>?_) λC n z=>z.go h);obtain⟨o,j,i,_⟩:=d e a g;exact m b o a i (r.grow j) (z.go i)
@[simp] noncomputable def lJ(d:Pe->M Bool)(a b:En->O):En->O:=λρ=>.of (d (vw ρ)) λc=>if c then a ρ else b ρ
def P6{t u:TS}(g:MT K E c fc)(h:MS K E t a)(i:MS K E u b):MS K E (K9 c t u) (lJ fc a b):=λF0 H0 F H σ ρ D r q=>by
 refine g.inS r q λc k j s d e=>?_;cases c with
 |true=>rw[aR rfl];exact h _ _ _ _ _ _ _ d e
 |false=>rw[aS aI];exact i _ _ _ _ _ _ _ d e
@[simp] noncomputable def gA(f:Pe->M T):En->O:=λρ=>.of (f (vw ρ)) λt=>.rt t
def N5(h:ME K E t f):MS K E (Ad t) (gA f):=λF0 H0 F H σ ρ D r q=>by obtain⟨d,e,a,V,c⟩:=r.lend;exact h d H σ (vw ρ) _ a.fh V ((O.res_of q).mono (λb z=>kV.go z a) λC n z=>z.go a)
@[simp] noncomputable def uB(f:Pe->M (List T)):En->O:=λρ=>.of (f (vw ρ)) λt=>.rf t
def Ka{f:Pe->M (List T)}(h:MF K E t f):MS K E (Ad t) (uB f):=λF0 H0 F H σ ρ D r q=>by obtain⟨d,e,a,V,c⟩:=r.lend;exact h d H σ (vw ρ) _ a.fh V ((O.res_of q).mono (λb z=>kF.go z a) λC n z=>z.go a)
@[simp] noncomputable def oJ(i:Nat):En->O:=λρ=>match ρ[i]? with
 |some (some (.o ts))=>.rf ts
 |_=>.bad
def EA:MS K E (Ad (j7 i)) (oJ i):=λF0 H0 F H σ ρ D r q=>by
 unfold oJ at q;split at q
 .rename_i g e;obtain⟨k,j,l⟩:=r.ov;obtain⟨a,b,c,h,d,z⟩:=j i g e;exact⟨_,a,q (k i) h F H r.gr c b d z⟩
 .exact q.elim
def qT{a:Type}{l:List a}{x y:a}(h:(l.set i x)[i]? = some y):y=x:=by
 rw[List.getElem?_set]at h;simp only[if_true]at h;split at h
 .exact (Option.some.inj h).symm
 .cases h
def fK{a:Type}{l:List a}{x y:a}(h:(l.set i x)[j]? = some y):(j=i/\y=x)\/(j≠i/\l[j]? = some y):=by
 by_cases e:j=i
 .subst e;exact .inl ⟨rfl,qT h⟩
 .rw[ar (λz=>e z.symm)]at h;exact .inr ⟨e,h⟩
def wX{a:Type}{l:List a}{x:a}(h:i<l.length):(l.set i x)[i]? = some x:=by rw[List.getElem?_set_self h]
def Sr.setP(r:Sr K F0 H0 F H σ ρ)(h:i7 K F v x):Sr K F0 H0 F H (σ.set i (some v)) (ρ.set i (some (.p x))):=by
 obtain⟨C,B,J⟩:=r.ov;refine⟨r.gr,by simp[r.len],λj t e=>?_,⟨C,λj m e=>?_,λj k m A e I=>?_⟩,λe y=>?_,λj l s o q=>?_,r.dv.set λ_ z=>nomatch z⟩
 .have N:j<ρ.length:=by simpa using (aa.mp e).1
  rcases fK e with⟨rfl,q⟩|⟨c,q⟩
  .cases q;exact⟨v,wX (by rw[r.len];exact N),h⟩
  .obtain⟨w,a,b⟩:=r.pv j t q;exact⟨w,by rw[ar (λz=>c z.symm)];exact a,b⟩
 .rcases fK e with⟨rfl,q⟩|⟨c,q⟩
  .cases q
  .obtain⟨a,b⟩:=B j m q;exact⟨by rw[ar (λz=>c z.symm)];exact a,b⟩
 .rcases fK e with⟨rfl,q⟩|⟨c,q⟩
  .cases q
  .rcases fK I with⟨rfl,n⟩|⟨P,n⟩
   .cases n
   .exact J j k m A q n
 .have L:=r.lv e y;refine⟨L.h,L.f,L.z,λj m q=>?_⟩;rcases fK q with⟨rfl,g⟩|⟨c,g⟩
  .cases g
  .rw[ar (λz=>c z.symm)];exact L.d j m g
 .rcases fK q with⟨rfl,g⟩|⟨c,g⟩
  .cases g
  .rw[ar (λz=>c z.symm)];exact r.sl j l s o g
def Sr.setO(r:Sr K F0 H0 F H σ ρ)(g:Gr F H F1 H1)(x:H l=none)(hf:F1 l=none)(hv:H1 l=some (.lst vs))(hr:fE K F1 vs ts) :
  Sr K F0 H0 F1 H1 (σ.set i (some (.ref l))) (ρ.set i (some (.o ts))):=by
 have s:=r.grow g;obtain⟨I,N,_⟩:=r.ov;obtain⟨C,U,h2⟩:=s.ov;have P:∀j m,ρ[j]? = some (some (.o m))->C j≠l:=λj m e z=>by
  obtain⟨a,_⟩:=U j m e;obtain⟨R,_,_,Z,X,_⟩:=N j m e;rw[a]at R;have:C j=I j:=by simpa using R
  rw[<-this,z,x]at X;cases X
 refine⟨s.gr,by simp[r.len],λj t e=>?_,⟨λj=>if j=i then l else C j,λj m e=>?_,λj k m Q e Y v=>?_⟩,λe S=>?_,λj l' B A q=>?_,s.dv.set λ_ z=>nomatch z⟩
 .rcases fK e with⟨rfl,q⟩|⟨c,q⟩
  .cases q
  .obtain⟨w,a,b⟩:=s.pv j t q;exact⟨w,by rw[ar (λz=>c z.symm)];exact a,b⟩
 .have J:j<ρ.length:=by simpa using (aa.mp e).1
  rcases fK e with⟨rfl,q⟩|⟨c,q⟩
  .cases q;dsimp only;rw[aR rfl];exact⟨wX (by rw[r.len];exact J),hf,fG r.gr.hh x,vs,hv,hr⟩
  .dsimp only;rw[aS c];obtain⟨a,b⟩:=U j m q;exact⟨by rw[ar (λz=>c z.symm)];exact a,b⟩
 .rcases fK e with⟨rfl,q⟩|⟨c,q⟩
  .rcases fK Y with⟨rfl,p⟩|⟨y,p⟩
   .exact absurd rfl v
   .dsimp only;rw[aR rfl,aS y];exact λz=>P k Q p z.symm
  .rcases fK Y with⟨rfl,p⟩|⟨y,p⟩
   .dsimp only;rw[aS c,aR rfl];exact P j m q
   .dsimp only;rw[aS c,aS y];exact h2 j k m Q q p v
 .have L:=s.lv e S;have L0:=r.lv e S;refine⟨L.h,L.f,L.z,λj ts q=>?_⟩;rcases fK q with⟨rfl,n⟩|⟨c,n⟩
  .intro z;have z':=qT z;have:e.2.1=l:=by simpa using z'
   rw[<-this,L0.h]at x;cases x
  .rw[ar (λz=>c z.symm)];exact L.d j ts n
 .rcases fK q with⟨rfl,n⟩|⟨c,n⟩
  .cases n
  .rw[ar (λz=>c z.symm)];exact r.sl j l' B A n
@[simp] noncomputable def iC(f:Pe->M T)(ρ:En):M T:=f (kD ρ)
@[simp] noncomputable def mD(f:Pe->M T)(ρ:En):M T:=(f (vw ρ)).bind λt=>if lf t then .ok t else .bad
def ME.inH(h:ME K E t f)(r:Sr K F0 H0 F H σ ρ)(q:(O.of (iC f ρ) k).res K E F0 H0 F D)
  (d:∀x v a b,Gr F H a b->i7 K a v x->Sr K F0 H0 a b σ ρ->(k x).res K E F0 H0 a D->Q v b):t σ H Q:=
 h F H σ (kD ρ) Q r.gr.fh r.vars ((O.res_of q).mono (λx z v a b g c=>d x v a b g c (r.grow g) (z.go g.ff)) λC n z=>z.go r.gr)
def ME.inB(h:ME K E t f)(r:Sr K F0 H0 F H σ ρ)(q:(O.of (mD f ρ) k).res K E F0 H0 F D)
  (o:∀x v b a,Gr F H b a->i7 K b v x->Sr K F0 H0 b a σ ρ->(k x).res K E F0 H0 b D->Q v a):t σ H Q:=by
 obtain⟨s,y,l,V,d⟩:=r.lend;refine h s H σ (vw ρ) Q l.fh V ((M.res.unb (O.res_of q)).mono (λx z v b a g w=>?_) λC n z=>z.go l);obtain⟨p,j,m,e,c,_⟩:=d b a g;by_cases i:lf x=true
 .rw[aR i]at z;exact o x v p a j (w.less e c i) (r.grow j) (O.res.go z m)
 .rw[aS i]at z;exact z.elim
@[simp] noncomputable def setO(i:Nat)(f:En->M T):En->O:=λρ=>.of (f ρ) λt=>.nx (ρ.set i (some (.p t)))
def Cq(h:ME K E t f):MS K E (lB t (iw i)) (setO i (iC f)):=λF0 H0 F H σ ρ D r q=>h.inH r q λx v d a g b e c=>c d a _ (.refl _) (e.setP b)
def Kf(h:ME K E t f):MS K E (lB t (iw i)) (setO i (mD f)):=λF0 H0 F H σ ρ D r q=>h.inB r q λx v d a g b e c=>c d a _ (.refl _) (e.setP b)
@[simp] noncomputable def l6(f:Pe->M (List T))(ρ:En):M (List T):=f (kD ρ)
@[simp] noncomputable def sN(f:Pe->M (List T))(ρ:En):M (List T):=(f (vw ρ)).bind λa=>if DL a then .ok a else .bad
def MF.inH{f:Pe->M (List T)}(h:MF K E t f)(r:Sr K F0 H0 F H σ ρ)(q:(O.of (l6 f ρ) k).res K E F0 H0 F D)
  (j:∀ts l vs e i,Gr F H e i->H l=none->e l=none->i l=some (.lst vs)->fE K e vs ts->(k ts).res K E F0 H0 e D->Q (.ref l) i):t σ H Q:=
 h F H σ (kD ρ) Q r.gr.fh r.vars ((O.res_of q).mono (λts z l vs e i g a b c d=>j ts l vs e i g a b c d (z.go g.ff)) λC n z=>z.go r.gr)
def MF.inB{f:Pe->M (List T)}(h:MF K E t f)(r:Sr K F0 H0 F H σ ρ)(q:(O.of (sN f ρ) k).res K E F0 H0 F D)
  (x:∀ts l vs i e,Gr F H i e->H l=none->i l=none->e l=some (.lst vs)->fE K i vs ts->(k ts).res K E F0 H0 i D->Q (.ref l) e):t σ H Q:=by
 obtain⟨A,B,s,V,o⟩:=r.lend;refine h A H σ (vw ρ) Q s.fh V ((M.res.unb (O.res_of q)).mono (λts z l vs i e g a b c d=>?_) λC n z=>z.go s);obtain⟨y,v,w,m,j,_⟩:=o i e g;by_cases p:DL ts=true
 .rw[aR p]at z;exact x ts l vs y e v a (fG m b) c (d.less m j p) (O.res.go z w)
 .rw[aS p]at z;exact z.elim
@[simp] noncomputable def j8(i:Nat)(f:En->M (List T)):En->O:=λρ=>.of (f ρ) λa=>.nx (ρ.set i (some (.o a)))
@[simp] noncomputable def BZ(i:Nat)(f:En->M (List T)):En->O:=λρ=>.of (f ρ) λa=>.nx (ρ.set i (some (.p (.lst a))))
def sR{f:Pe->M (List T)}(h:MF K E t f):MS K E (lB t (iw i)) (j8 i (l6 f)):=λF0 H0 F H σ ρ D r q=>h.inH r q λm l n k j g a b c d e=>e k j _ (.refl _) (r.setO g a b c d)
def Jh{f:Pe->M (List T)}(h:MF K E t f):MS K E (lB t (iw i)) (j8 i (sN f)):=λF0 H0 F H σ ρ D r q=>h.inB r q λm l n k j g a b c d e=>e k j _ (.refl _) (r.setO g a b c d)
def GE{f:Pe->M (List T)}(h:MF K E t f):MS K E (lB t (iw i)) (BZ i (sN f)):=λF0 H0 F H σ ρ D r q=>h.inB r q λo l j n m g a b c d k=>by have e:=g.take c b a;exact k (gy n l (.lst j)) m _ (iF b) ((r.grow e).setP (.lst eW (d.mono (iF b))))
def Sr.change(r:Sr K F0 H0 F H σ ρ)(e:ρ[i]? = some (some (.o ts)))(hw:fE K F ws us) :
  ∃l vs,σ[i]? = some (some (.ref l))/\H l=some (.lst vs)/\fE K F vs ts/\Sr K F0 H0 F (gy H l (.lst ws)) σ (ρ.set i (some (.o us))):=by
 obtain⟨J,P,A⟩:=r.ov;obtain⟨a,b,c,vs,d,z⟩:=P i ts e;refine⟨J i,vs,a,d,z,⟨r.gr.ff,λp u q=>?_,λp u q=>?_,r.gr.nw⟩,by simp[r.len],λj t q=>?_,⟨J,λj s q=>?_,λj k s y q N m=>?_⟩,λQ S=>?_,λj Y n C q=>?_,(r.dv.heap (.refl _) λp xs B _=>⟨by assumption,by rw[fu (λz=>by rw[z,d]at B;cases B)];exact B⟩).setR λ_ z=>nomatch z⟩
 .rw[fu (fF q b)];exact r.gr.fh p u q
 .rw[fu (fF q c)];exact r.gr.hh p u q
 .rcases fK q with⟨rfl,g⟩|⟨x,g⟩
  .cases g
  .exact r.pv j t g
 .rcases fK q with⟨rfl,g⟩|⟨x,g⟩
  .cases g;exact⟨a,b,c,ws,eW,hw⟩
  .obtain⟨a',b',U,n,Z,R⟩:=P j s g;exact⟨a',b',U,n,by rw[fu (A j i s ts g e x)];exact Z,R⟩
 .rcases fK q with⟨rfl,g⟩|⟨x,g⟩
  .rcases fK N with⟨rfl,v⟩|⟨X,v⟩
   .exact absurd rfl m
   .exact A j k ts y e v m
  .rcases fK N with⟨rfl,v⟩|⟨X,v⟩
   .exact A j k s ts g e m
   .exact A j k s y g v m
 .have L:=r.lv Q S;have I:Q.2.1≠J i:=λw=>L.d i ts e (by rw[w];exact a);refine⟨by rw[fu I];exact L.h,L.f,L.z,λj s q=>?_⟩;rcases fK q with⟨rfl,g⟩|⟨x,g⟩
  .exact L.d _ ts e
  .exact L.d j s g
 .rcases fK q with⟨rfl,g⟩|⟨x,g⟩
  .cases g
  .exact r.sl j Y n C g
@[simp] noncomputable def kW(ρ:En)(i:Nat):M (List T):=match ρ[i]? with
 |some (some (.o ts))=>.ok ts
 |_=>.bad
def qV(h:kW ρ i=.ok ts):ρ[i]? = some (some (.o ts)):=by
 unfold kW at h;split at h
 .rename_i a e;cases h;exact e
 .cases h
@[simp] noncomputable def ng(i:Nat)(f:En->M T):En->O:=λρ=>.of (kW ρ i) λa=>.of (f ρ) λt=>if a.length<sizeLine then .nx (ρ.set i (some (.o (a++[t])))) else .bad
def Af(r:Sr K F0 H0 F H σ ρ)(e:ρ[i]? = some (some (.o ts)))(p:i7 K F v x)
  (q:(if ts.length<sizeLine then O.nx (ρ.set i (some (.o (ts++[x])))) else .bad).res K E F0 H0 F D):∃l,σ[i]? = some (some (.ref l))/\xC (.ref l) [v] H λ_ H1=>D.nx σ H1:=by
 by_cases g:ts.length<sizeLine
 .rw[aR g]at q;obtain⟨n,h,_⟩:=r.ov;obtain⟨_,_,_,k,d,z⟩:=h i ts e;obtain⟨l,b,j,c,s,m⟩:=r.change e (z.append (.cons p .nil));have:b=k:=by
   have a:=(h i ts e).1;rw[j]at a;have:l=n i:=by simpa using a
   rw[this,d]at c;cases c;rfl
  subst this;exact⟨l,j,l,b,v,rfl,rfl,c,by rw[z.length];exact g,q F _ _ (.refl _) m⟩
 .rw[aS g]at q;exact q.elim
def Jo(K:W.Frag)(i:Nat)(a:TE):TE:=QZ K "list" xC (j7 i) (oA a sH)
def KW(p:∀l s H,H l=some (.lst s)->OQ K "list" (.ref l) H)(h:ME K E t f):MS K E (tZ (Jo K i t)) (ng i (iC f)):=λF0 H0 F H σ ρ D r q=>by
 unfold ng at q;cases e:kW ρ i with
 |bad=>rw[e]at q;exact q.elim
 |er C n=>unfold kW at e;split at e<;>cases e
 |ok ts=>rw[e]at q;have c:=qV e;obtain⟨A,o,_⟩:=r.ov;obtain⟨a,_,_,y,d,_⟩:=o i ts c;refine⟨_,a,p _ _ _ d,?_⟩;refine h.inH r q λx v B z g w k m=>?_;obtain⟨l,j,b⟩:=Af k c w m;rw[a]at j;cases j;exact b
def Lm(p:∀l s H,H l=some (.lst s)->OQ K "list" (.ref l) H)(h:ME K E t f):MS K E (tZ (Jo K i t)) (ng i (mD f)):=λF0 H0 F H σ ρ D r q=>by
 unfold ng at q;cases e:kW ρ i with
 |bad=>rw[e]at q;exact q.elim
 |er C n=>unfold kW at e;split at e<;>cases e
 |ok ts=>rw[e]at q;have c:=qV e;obtain⟨A,o,_⟩:=r.ov;obtain⟨a,_,_,y,d,_⟩:=o i ts c;refine⟨_,a,p _ _ _ d,?_⟩;refine h.inB r q λx v B z g w k m=>?_;obtain⟨l,j,b⟩:=Af k c w m;rw[a]at j;cases j;exact b
@[simp] noncomputable def sO(i:Nat)(b:En->M T)(f:En->M T):En->O:=λρ=>.of (kW ρ i) λa=>.of (f ρ) λt=>.of (b ρ) λk=>match k with
 |.int k=>match xF a.length k with
  |some j=>.nx (ρ.set i (some (.o (a.set j t))))
  |none=>.bad
 |_=>.bad
theorem E5{i:Nat}{ts:List T}{x y:T}{v w:V}{l:Addr}(n:Sr K F0 H0 F H σ ρ)(m:ρ[i]? = some (some (.o ts)))(r:σ[i]? = some (some (.ref l)))(I:i7 K F v x)(g:i7 K F w y)
  (b:(match y with
   |.int k=>match xF ts.length k with
    |some j=>O.nx (ρ.set i (some (.o (ts.set j x))))
    |none=>.bad
   |_=>.bad).res K E F0 H0 F D):Cz (.ref l) w v H λB=>D.nx σ B:=by
 cases g with
 |int k=>
  dsimp only at b;cases e:xF ts.length k with
  |none=>rw[e]at b;exact b.elim
  |some j=>
   rw[e]at b;obtain⟨C,p,_⟩:=n.ov;obtain⟨_,_,_,s,d,z⟩:=p i ts m;obtain⟨L,c,q,h,J,A⟩:=n.change m (z.set I j);rw[r]at q;cases q;have:c=s:=by
    have a:=(p i ts m).1;rw[r]at a;have:l=C i:=by simpa using a
    rw[this,d]at h;cases h;rfl
   subst this;exact⟨l,c,k,j,rfl,rfl,h,by rw[z.length];exact e,b F _ _ (.refl _) A⟩
 |_=>exact b.elim
def Oy(h:ME K E t f)(l:ME K E tk fk):MS K E (lB t (MQ (j7 i) tk Cz)) (sO i (mD fk) (mD f)):=λF0 H0 F H σ ρ D r q=>by
 unfold sO at q;cases e:kW ρ i with
 |bad=>rw[e]at q;exact q.elim
 |er C n=>unfold kW at e;split at e<;>cases e
 |ok ts=>rw[e]at q;have c:=qV e;obtain⟨I,m,_⟩:=r.ov;have a:=(m i ts c).1;refine h.inB r q λx v J A g s j k=>⟨_,a,?_⟩;exact l.inB j k λy w B z p b d o=>E5 d c a (s.mono p.ff) b o
end
end L3
namespace L3
open PySem L2
section
variable {K:W.Frag}{E:XK}{t u ta tb:TE}{f fa fb:Pe->M T}{F0:Fz}{H0 F H F1 H1:Hp}{σ:St}{ρ:En}{D:qp}
structure vt(K:W.Frag)(J:It)(its:List T)(F1:Hp):Prop where
 go:∀i H,fw F1 H->i<its.length->J.go i H
 stop:∀H,fw F1 H->J.stop its.length H
 yld:∀(i:Nat) t F H x H',fw F1 F->fw F H->its[i]? = some t->J.yld i H x H'->∃F',Gr F H F' H'/\i7 K F' x t
def kI(K:W.Frag)(F H:Hp)(R:It->Hp->Prop)(its:List T):Prop:=∀J b a,Gr F H b a->vt K J its b->R J a
noncomputable def MI(K:W.Frag)(E:XK)(w:TI)(f:Pe->M (List T)):Prop:=∀F H σ ρ R,fw F H->jL K F σ ρ->(f ρ).res (kI K F H R) (kE E F H)->w σ H R
def Ry(K:W.Frag)(F H:Hp)(R:It->Hp->Prop)(its:List T):Prop:=∀J b a,Gr F H b a->(∀F1,vt K J its F1)->R J a
noncomputable def OJ(K:W.Frag)(E:XK)(w:TI)(f:Pe->M (List T)):Prop:=∀F H σ ρ R,fw F H->jL K F σ ρ->(f ρ).res (Ry K F H R) (kE E F H)->w σ H R
def OJ.mi{f:Pe->M (List T)}(h:OJ K E w f):MI K E w f:=λF H σ ρ R s V q=>h F H σ ρ R s V (q.mono (λc z J a b g i=>z J a b g (i a)) λ_ _ z=>z)
@[simp] noncomputable def Qr(fa:Pe->M T):Pe->M (List T):=λρ=>(fa ρ).bind λx=>match x with
 |.lst ts=>.ok ts
 |.scr ns=>.ok (ns.map T.int)
 |_=>.bad
@[simp] noncomputable def Rb(fa:Pe->M T):Pe->M (List T):=λρ=>(fa ρ).bind λx=>match x with
 |.tup ts=>.ok ts
 |_=>.bad
def xV(c:jQ K F a xs)(r:fE K F xs ts):vt K (Qp K a) ts F where
 go:=λi H s j=>by have e:xs[i]? = some (xs[i]'(by rw[r.length];exact j)):=ag _;exact⟨xs,_,s.seq c,e⟩
 stop:=λH s=>⟨xs,s.seq c,by rw[r.length];exact aL _⟩
 yld:=λi t m H x n d g e y=>by obtain⟨rfl,h⟩:=y;have k:=h xs ((d.trans g).seq c);obtain⟨o,b,l⟩:=r.at_ k;rw[e]at b;cases b;exact⟨m,.refl g,l.mono d⟩
def rM(s:fw F H)(h:F a=some (.tup xs)):kP K H a xs:=kP.of (s _ _ h)
def MJ(c:F a=some (.tup xs))(r:fE K F xs ts):vt K (QF K a) ts F where
 go:=λi H s j=>by have e:xs[i]? = some (xs[i]'(by rw[r.length];exact j)):=ag _;exact⟨xs,_,rM s c,e⟩
 stop:=λH s=>⟨xs,rM s c,by rw[r.length];exact aL _⟩
 yld:=λi t m H x n d g e y=>by obtain⟨rfl,h⟩:=y;have k:=h xs (rM (d.trans g) c);obtain⟨o,b,l⟩:=r.at_ k;rw[e]at b;cases b;exact⟨m,.refl g,l.mono d⟩
def xW(d:ME K E ta fa):MI K E (zq K ta) (Qr fa):=λF H σ ρ R s V q=>by
  refine d.run s V q λx v F1 H1 a c b=>?_;cases c<;>first
    |exact b.elim
    | (rename_i h r
       exact⟨_,rfl,⟨_,jQ.of (a.fh _ _ h)⟩,b _ F1 H1 a (xV (jQ.of h) r)⟩)
    | (rename_i h
       exact⟨_,rfl,⟨_,a.fh.seq h⟩,b _ F1 H1 a (xV h (fE.of_ints _))⟩)
def On(d:ME K E ta fa):MI K E (NP K ta) (Rb fa):=λF H σ ρ R s V q=>by
  refine d.run s V q λx v F1 H1 b c a=>?_;cases c<;>first
    |exact a.elim
    | (rename_i h r
       exact⟨_,rfl,⟨_,kP.of (b.fh _ _ h)⟩,a _ F1 H1 b (MJ h r)⟩)
def QJ:(2:Int) ^ 62=4611686018427387904:=by decide +kernel
def Re:(2:Int) ^ 63=9223372036854775808:=by decide +kernel
noncomputable def C0(j:Int):Bool:=decide (j.natAbs<4611686018427387904)
def lW(h:C0 j=true):-(2 ^ 62)<=j/\j<2 ^ 62:=by rw[QJ];have:=of_decide_eq_true h;omega
def lr(h:j.natAbs<=1000000):C0 j=true:=aD (by omega)
noncomputable def vg(a:Int)(n:Nat):List T:=(List.range n).map λ(i:Nat)=>T.int (a+(i:Int))
def GS F:vt K (OL lo n) (vg lo n) F where
 go:=λi H s a=>by show i<n;simpa[vg] using a
 stop:=λH s=>by simp[vg,OL]
 yld:=λi t c H x d g b e y=>by
  obtain⟨rfl,rfl⟩:=y;have a:i<n:=by simpa[vg] using (aa.mp e).1
  have:t=.int (lo+i):=by unfold vg at e;rw[ax,List.getElem?_range a]at e;cases e;rfl
  rw[this];exact⟨c,.refl b,.int _⟩
@[simp] noncomputable def ig(fa:Pe->M (List T)):Pe->M (List T):=λρ=>(fa ρ).bind λa=>match a with
 |[.int j]=>if C0 j then .ok (vg 0 j.toNat) else .bad
 |_=>.bad
@[simp] noncomputable def Hw(fa:Pe->M (List T)):Pe->M (List T):=λρ=>(fa ρ).bind λa=>match a with
 |[.int i,.int j]=>if C0 i&&C0 j then .ok (vg i (j-i).toNat) else .bad
 |_=>.bad
def Jz{ta:TA}{fa:Pe->M (List T)}(h:MA K E ta fa):OJ K E (HP ta) (ig fa):=λF H σ ρ R s V q=>by
 refine h.run s V q λk i F1 H1 e g c=>?_;split at c
 .rename_i j;split at c
  .rename_i d;cases g with
   |cons a b=>cases a;cases b;exact⟨j,rfl,(lW d).1,(lW d).2,c _ F1 H1 e GS⟩
  .exact c.elim
 .exact c.elim
def Ja{ta:TA}{fa:Pe->M (List T)}(k:MA K E ta fa):OJ K E (H9 ta) (Hw fa):=λF H σ ρ R s V q=>by
 refine k.run s V q λm l F1 H1 g h d=>?_;split at d
 .rename_i i j;split at d
  .rename_i e;cases h with
   |cons a b=>
    cases b with
    |cons b c=>cases a;cases b;cases c;rw[bN]at e;exact⟨i,j,rfl,⟨(lW e.1).1,(lW e.1).2,(lW e.2).1,(lW e.2).2⟩,d _ F1 H1 g GS⟩
  .exact d.elim
 .exact d.elim
noncomputable def seqB(b:Bool):T->M (List T)
 |.tup ts=>if b then .ok ts else .bad
 |.lst ts=>if b then .bad else .ok ts
 |.scr ns=>if b then .bad else .ok (ns.map T.int)
 |_=>.bad
def yD(r:i7 K F v x)(e:seqB b x=.ok ts):∃a c,v=.ref a/\(∀H,fw F H->uP K H b a c)/\fE K F c ts:=by
 cases r<;>try (cases e)
 .rename_i a c g h r;cases b with
  |true=>cases e;exact⟨a,c,rfl,λH s=>by unfold uP;rw[aR rfl];exact kP.of (s _ _ h),r⟩
  |false=>cases e
 .rename_i a c g h r;cases b with
  |true=>cases e
  |false=>cases e;exact⟨a,c,rfl,λH s=>by unfold uP;rw[aS aI];exact jQ.of (s _ _ h),r⟩
 .rename_i a d h;cases b with
  |true=>cases e
  |false=>cases e;exact⟨a,_,rfl,λH s=>by unfold uP;rw[aS aI];exact s.seq h,fE.of_ints d⟩
noncomputable def pX(a b:List T):List T:=(a.zip b).map λp=>T.tup [p.1,p.2]
def Mj(j:∀H,fw F H->uP K H b1 l1 xs)(h:fE K F xs ts)(m:∀H,fw F H->uP K H b2 l2 ys)(d:fE K F ys us):vt K (QS K b1 b2 l1 l2) (pX ts us) F where
 go:=λi H s v=>by
  have a:i<ts.length/\i<us.length:=by simp[pX]at v;omega
  have c:xs[i]? = some (xs[i]'(by rw[h.length];exact a.1)):=ag _;have k:ys[i]? = some (ys[i]'(by rw[d.length];exact a.2)):=ag _;exact⟨xs,ys,_,_,j H s,m H s,c,k⟩
 stop:=λH s=>⟨xs,ys,j H s,m H s,by simp[pX,h.length,d.length];omega⟩
 yld:=λi t N H x L b l e y=>by
  obtain⟨p,J,w,rfl,r,rfl,c,k⟩:=y;obtain⟨q,C,B⟩:=h.at_ (c xs (j H (b.trans l)));obtain⟨n,I,A⟩:=d.at_ (k ys (m H (b.trans l)));have:t=.tup [q,n]:=by unfold pX at e;rw[ax,(List.getElem?_zip_eq_some (z:=(q,n))).mpr ⟨C,I⟩]at e;cases e;rfl
  rw[this];have g:=Gr.new (o:=.tup [J,w]) l r;exact⟨_,g,.tup eW (.cons ((B.mono b).mono g.ff) (.cons ((A.mono b).mono g.ff) .nil))⟩
noncomputable def NK(c e:Bool)(fa:Pe->M (List T)):Pe->M (List T):=λρ=>(fa ρ).bind λb=>match b with
 |[x,y]=>(seqB c x).bind λa=>(seqB e y).bind λd=>.ok (pX a d)
 |_=>.bad
def yj:seqB b x≠.er C n:=by cases x<;>cases b<;>exact λz=>nomatch z
def Gk{ta:TA}{fa:Pe->M (List T)}(r:MA K E ta fa):MI K E (Nm K b1 b2 ta) (NK b1 b2 fa):=λF H σ ρ R s V q=>by
 refine r.run s V q λA z F1 H1 h m d=>?_;split at d
 .rename_i x y;cases m with
  |cons a b=>
   cases b with
   |cons b c=>
    cases c;cases e:seqB b1 x with
    |bad=>rw[e]at d;exact d.elim
    |er C n=>exact absurd e yj
    |ok ts=>
     rw[e]at d;cases g:seqB b2 y with
     |bad=>simp only[g,M.bind_ok]at d;exact d.elim
     |er C n=>exact absurd g yj
     |ok us=>simp only[g,M.bind_ok]at d;obtain⟨v,w,rfl,i,l⟩:=yD a e;obtain⟨p,o,rfl,j,k⟩:=yD b g;exact⟨v,p,rfl,⟨w,i _ h.fh⟩,⟨o,j _ h.fh⟩,d _ F1 H1 h (Mj i l j k)⟩
 .exact d.elim
def MG(K:W.Frag)(g:TG)(m:T->Pe->Option Pe):Prop:=∀F H σ (ρ:Pe) x t ρ' Q,fw F H->σ.length=ρ.length->jL K F σ ρ->i7 K F x t->m t ρ=some ρ'->(∀a,a.length=ρ'.length->jL K F a ρ'->Q a H)->g x σ H Q
def Qh(K:W.Frag)(g:IS)(m:List T->Pe->Option Pe):Prop:=∀F H σ (ρ:Pe) xs ts ρ' Q,fw F H->σ.length=ρ.length->jL K F σ ρ->fE K F xs ts->m ts ρ=some ρ'->(∀a,a.length=ρ'.length->jL K F a ρ'->Q a H)->g xs σ H Q
@[simp] def iM(i:Nat):T->Pe->Option Pe:=λt ρ=>some (ρ.set i (some t))
def jL.set{ρ:Pe}(V:jL K F σ ρ)(d:σ.length=ρ.length)(h:i7 K F v x):jL K F (σ.set i (some v)) (ρ.set i (some x)):=λj t e=>by
 have c:j<ρ.length:=by simpa using (aa.mp e).1
 rcases fK e with⟨rfl,q⟩|⟨c,q⟩
 .cases q;exact⟨v,wX (by rw[d];exact c),h⟩
 .obtain⟨w,a,b⟩:=V j t q;exact⟨w,by rw[ar (λz=>c z.symm)];exact a,b⟩
def KP:MG K (iw i) (iM i):=λF H σ ρ x t b Q s a V r e k=>by cases e;exact k _ (by simp[a]) (V.set a r)
@[simp] noncomputable def nI:List T->Pe->Option Pe
 |[],ρ=>some ρ
 |_::_,_=>none
@[simp] def gI(m:T->Pe->Option Pe)(n:List T->Pe->Option Pe):List T->Pe->Option Pe
 |[],_=>none
 |t::ts,ρ=>(m t ρ).bind (n ts)
def KL:Qh K DK nI:=λF H σ ρ h g d Q s c V r e k=>by
 cases r with
 |nil=>cases e;exact⟨rfl,k σ c V⟩
 |cons a b=>cases e
def Gq(l:MG K g m)(p:Qh K gs n):Qh K (t6 g gs) (gI m n):=λF H σ ρ y x d Q s w V r e k=>by
 cases r with
 |nil=>cases e
 |cons a b=>
  rename_i v t j c;have e:(m t ρ).bind (n c)=some d:=e;cases q:m t ρ with
  |none=>rw[q]at e;cases e
  |some ρ1=>rw[q]at e;refine⟨v,j,rfl,l F H σ ρ v t ρ1 _ s w V a q λh i o=>?_⟩;exact p F H h ρ1 j c d Q s i o b e k
@[simp] noncomputable def nG(k:Nat)(m:List T->Pe->Option Pe):T->Pe->Option Pe
 |.tup ts,ρ=>if ts.length=k then m ts ρ else none
 |_,_=>none
def Ol(h:Qh K g m):MG K (Ez K k g) (nG k m):=λF H σ ρ x t b Q s i V r e q=>by
 cases r with
 |tup hx rs=>
  rename_i a j c;have e:(if c.length=k then m c ρ else none)=some b:=e;by_cases d:c.length=k
  .rw[aR d]at e;exact⟨_,_,rfl,kP.of (s _ _ hx),by rw[rs.length];exact d,h F H σ ρ _ _ b Q s i V rs e q⟩
  .rw[aS d]at e;cases e
 |_=>cases e
noncomputable def IY(K:W.Frag)(g:TG)(m:T->En->Option En):Prop:=∀F0 H0 F H σ ρ x t a Q,Sr K F0 H0 F H σ ρ->i7 K F x t->m t ρ=some a->(∀b,Sr K F0 H0 F H b a->Q b H)->g x σ H Q
noncomputable def Gc(K:W.Frag)(g:IS)(m:List T->En->Option En):Prop:=∀F0 H0 F H σ ρ d c a Q,Sr K F0 H0 F H σ ρ->fE K F d c->m c ρ=some a->(∀b,Sr K F0 H0 F H b a->Q b H)->g d σ H Q
@[simp] noncomputable def ko(i:Nat):T->En->Option En:=λt ρ=>some (ρ.set i (some (.p t)))
def HY:IY K (iw i) (ko i):=λF0 H0 F H σ ρ x t a Q s r e k=>by cases e;exact k _ (s.setP r)
@[simp] noncomputable def mW:List T->En->Option En
 |[],ρ=>some ρ
 |_::_,_=>none
@[simp] noncomputable def gU(m:T->En->Option En)(n:List T->En->Option En):List T->En->Option En
 |[],_=>none
 |t::ts,ρ=>(m t ρ).bind (n ts)
def Hf:Gc K DK mW:=λF0 H0 F H σ ρ g d c Q s r e k=>by
 cases r with
 |nil=>cases e;exact⟨rfl,k σ s⟩
 |cons a b=>cases e
def DO(l:IY K g m)(o:Gc K gs n):Gc K (t6 g gs) (gU m n):=λF0 H0 F H σ ρ w p d Q s r e k=>by
 cases r with
 |nil=>cases e
 |cons a b=>
  rename_i v t i c;have e:(m t ρ).bind (n c)=some d:=e;cases q:m t ρ with
  |none=>rw[q]at e;cases e
  |some ρ1=>rw[q]at e;refine⟨v,i,rfl,l F0 H0 F H σ ρ v t ρ1 _ s a q λh j=>?_⟩;exact o F0 H0 F H h ρ1 i c d Q j b e k
@[simp] noncomputable def m3(k:Nat)(m:List T->En->Option En):T->En->Option En
 |.tup ts,ρ=>if ts.length=k then m ts ρ else none
 |_,_=>none
def Jg(h:Gc K g m):IY K (Ez K k g) (m3 k m):=λF0 H0 F H σ ρ x t b Q s r e q=>by
 cases r with
 |tup hx rs=>
  rename_i a i c;have e:(if c.length=k then m c ρ else none)=some b:=e;by_cases d:c.length=k
  .rw[aR d]at e;exact⟨_,_,rfl,kP.of (s.gr.fh _ _ hx),by rw[rs.length];exact d,h F0 H0 F H σ ρ _ _ b Q s rs e q⟩
  .rw[aS d]at e;cases e
 |_=>cases e
noncomputable def ia(m:T->En->Option En)(g:En->O):List T->En->O
 |[],ρ=>.nx ρ
 |t::ts,ρ=>match m t ρ with
  |none=>.bad
  |some ρ1=>match g ρ1 with
   |.nx ρ2=>ia m g ts ρ2
   |.ct ρ2=>ia m g ts ρ2
   |.bk ρ2=>.nx ρ2
   |o=>o
theorem uy{tb:TS}{J:It}(hg:IY K g m)(hb:MS K E tb gb){G:Hp->Hp->Prop}(P:∀i F H,G F H->i<its.length->J.go i H)(X:∀F H,G F H->J.stop its.length H)(U:∀(i:Nat) t F H x c,G F H->its[i]? = some t->J.yld i H x c->∃d,Gr F H d c/\i7 K d x t)
  (Q:∀d c b ρ',fw F1 d->Sr K F0 H0 d c b ρ'->G d c) (r:Sr K F0 H0 F H σ ρ) (s1:fw F1 F)
  (q:(ia m gb its ρ).res K E F0 H0 F D):∃W:Nat->Nat->St->Hp->Prop,(∃m,W 0 m σ H)/\∀i m σ H,W i m σ H->
 (J.stop i H/\D.nx σ H)\/(J.go i H/\∃N:St->Hp->Prop,(∀b c,N b c->∃m',m'<m/\W (i+1) m' b c)/\∀x c,J.yld i H x c->g x σ c λS H2=>tb {D with nx:=N,ct:=N,bk:=D.nx} S H2):=by
 refine⟨λi k b c=>i<=its.length/\k=its.length-i/\∃d ρ',fw F1 d/\Sr K F0 H0 d c b ρ'/\(ia m gb (its.drop i) ρ').res K E F0 H0 d D,⟨_,bF _,rfl,F,ρ,s1,r,by simpa using q⟩,?_⟩
 rintro i k w L ⟨hi,rfl,I,B,A,p,a⟩
 by_cases h:i<its.length
 .right;refine⟨P i I L (Q _ _ _ _ A p) h,λb c=>∃d ρ',fw F1 d/\Sr K F0 H0 d c b ρ'/\(ia m gb (its.drop (i+1)) ρ').res K E F0 H0 d D,λb c z=>⟨its.length-(i+1),by omega,h,rfl,z⟩,λx c y=>?_⟩;have et:=ag h;obtain⟨Z,o,rp⟩:=U i _ I L x c (Q _ _ _ _ A p) et y;rw[cZ h]at a;unfold ia at a;cases R:m its[i] B with
  |none=>rw[R]at a;exact a.elim
  |some ρ3=>
   rw[R]at a;refine hg F0 H0 Z c w B x _ ρ3 _ (p.grow o) rp R λb r'=>?_;refine hb F0 H0 Z c b ρ3 _ r' ?_;dsimp only at a;cases j:gb ρ3 with
   |bad=>rw[j]at a;exact a.elim
   |nx ρ4=>rw[j]at a;exact λd Y v s l=>⟨d,ρ4,(A.trans o.ff).trans s,l,O.res.go a (o.ff.trans s)⟩
   |ct ρ4=>rw[j]at a;exact λd Y v s l=>⟨d,ρ4,(A.trans o.ff).trans s,l,O.res.go a (o.ff.trans s)⟩
   |bk ρ4=>rw[j]at a;exact kN.go a o.ff
   |rt t=>rw[j]at a;exact a
   |rf ts=>rw[j]at a;exact a
   |rn ts us=>rw[j]at a;exact a
   |er C n=>rw[j]at a;exact a
 .left;have e:i=its.length:=by omega
  subst e;refine⟨X I L (Q _ _ _ _ A p),?_⟩;rw[List.drop_length]at a;exact a I L w (.refl _) p
def v8{tb:TS}(n:IY K g m)(o:MS K E tb gb)(b:vt K J its F1)(r:Sr K F0 H0 F H σ ρ)(l:fw F1 F)
  (q:(ia m gb its ρ).res K E F0 H0 F D):∃W:Nat->Nat->St->Hp->Prop,(∃m,W 0 m σ H)/\∀i m σ H,W i m σ H->
 (J.stop i H/\D.nx σ H)\/(J.go i H/\∃N:St->Hp->Prop,(∀c a,N c a->∃h,h<m/\W (i+1) h c a)/\∀x a,J.yld i H x a->g x σ a λd k=>tb {D with nx:=N,ct:=N,bk:=D.nx} d k):=
 uy (G:=λF H=>fw F1 F/\fw F H) n o (λi F H q j=>b.go i H (q.1.trans q.2) j) (λF H q=>b.stop H (q.1.trans q.2)) (λi t F H x a q e y=>b.yld i t F H x a q.1 q.2 e y) (λ_ _ _ _ s r=>⟨s,r.gr.fh⟩) r l q
@[simp] noncomputable def CB(j:Nat)(ts:List T):O->O
 |.nx ρ=>match ρ[j]? with
  |some none=>.nx (ρ.set j (some (.o ts)))
  |_=>.bad
 |.rt t=>.rt t
 |.rf ts=>.rf ts
 |.rn ts us=>.rn ts us
 |.er C n=>.er C n
 |_=>.bad
@[simp] noncomputable def nH(j:Nat)(m:T->En->Option En)(g:En->O):En->O:=λρ=>match ρ[j]? with
 |some (some (.o ts))=>CB j ts (ia m g ts (ρ.set j none))
 |_=>.bad
def Sr.hide(r:Sr K F0 H0 F H σ ρ)(e:ρ[j]? = some (some (.o ts))):∃l vs,σ[j]? = some (some (.ref l))/\H l=some (.lst vs)/\fE K F vs ts/\(∀v∈F0.lt,v.2.1≠l)/\Sr K ⟨F0.hp,(j,l,vs)::F0.lt⟩ H0 F H σ (ρ.set j none):=by
 obtain⟨x,y,J⟩:=r.ov;obtain⟨a,b,c,vs,d,z⟩:=y j ts e;refine⟨x j,vs,a,d,z,λv s w=>(r.lv v s).d j ts e (by rw[w];exact a),r.gr,by simp[r.len],λi t q=>?_,⟨x,λi n q=>?_,λi k n I q N B=>?_⟩,λv s=>?_,λi l C m q=>?_,r.dv.setR λ_ z=>nomatch z⟩
 .rcases fK q with⟨rfl,g⟩|⟨p,g⟩
  .cases g
  .exact r.pv i t g
 .rcases fK q with⟨rfl,g⟩|⟨p,g⟩
  .cases g
  .exact y i n g
 .rcases fK q with⟨rfl,g⟩|⟨p,g⟩
  .cases g
  .rcases fK N with⟨rfl,A⟩|⟨Q,A⟩
   .cases A
   .exact J i k n I g A B
 .rcases aG.mp s with rfl|s
  .refine⟨d,b,c,λi n q w=>?_⟩;rcases fK q with⟨rfl,g⟩|⟨p,g⟩
   .cases g
   .obtain⟨P,_⟩:=y i n g;rw[P]at w;have:x i=x j:=by simpa using w
    exact J i j n ts g e p this
  .have L:=r.lv v s;refine⟨L.h,L.f,L.z,λi n q=>?_⟩;rcases fK q with⟨rfl,g⟩|⟨p,g⟩
   .cases g
   .exact L.d i n g
 .rw[b9]at m;rcases fK q with⟨rfl,g⟩|⟨p,g⟩
  .rw[beq_self_eq_true]at m;cases m;exact a
  .rw[beq_eq_false_iff_ne.mpr p]at m;exact r.sl i l C m g
def Sr.unhide(r:Sr K ⟨F0.hp,(j,l,vs)::F0.lt⟩ H0 F H σ ρ)(e:ρ[j]? = some none)(hr:fE K F vs ts)(Q:∀v∈F0.lt,v.2.1≠l):Sr K F0 H0 F H σ (ρ.set j (some (.o ts))):=by
 obtain⟨P,J,S⟩:=r.ov;have L:=r.lv (j,l,vs) (bj ..);have N:=r.sl j l vs (by rw[b9,beq_self_eq_true]) e;have B:∀i s,ρ[i]? = some (some (.o s))->P i≠l:=λi s q w=>L.d i s q (by rw[(J i s q).1,w]);refine⟨r.gr,by simp[r.len],λi t q=>?_,⟨λi=>if i=j then l else P i,λi c q=>?_,λi k c n q C m=>?_⟩,λv I=>?_,λi R A y q=>?_,r.dv.setR λ_ z=>nomatch z⟩
 .rcases fK q with⟨rfl,a⟩|⟨b,a⟩
  .cases a
  .exact r.pv i t a
 .rcases fK q with⟨rfl,a⟩|⟨b,a⟩
  .cases a;dsimp only;rw[aR rfl];exact⟨N,L.f,L.z,vs,L.h,hr⟩
  .dsimp only;rw[aS b];exact J i c a
 .rcases fK q with⟨rfl,a⟩|⟨b,a⟩
  .rcases fK C with⟨rfl,g⟩|⟨x,g⟩
   .exact absurd rfl m
   .dsimp only;rw[aR rfl,aS x];exact λw=>B k n g w.symm
  .rcases fK C with⟨rfl,g⟩|⟨x,g⟩
   .dsimp only;rw[aS b,aR rfl];exact B i c a
   .dsimp only;rw[aS b,aS x];exact S i k c n a g m
 .have p:=r.lv v (bp _ I);refine⟨p.h,p.f,p.z,λi c q=>?_⟩;rcases fK q with⟨rfl,a⟩|⟨b,a⟩
  .rw[N];intro w;exact Q v I (by simpa using w.symm)
  .exact p.d i c a
 .rcases fK q with⟨rfl,a⟩|⟨b,a⟩
  .cases a
  .exact r.sl i R A (by rw[b9,beq_eq_false_iff_ne.mpr b];exact y) a
theorem Em{tb:TS}(hw:∀σ H R l vs,σ[j]? = some (some (.ref l))->H l=some (.lst vs)->R (Qp K l) H->w σ H R)(X:IY K g m)(Y:MS K E tb gb) :
  MS K E (yr w g tb) (nH j m gb):=λF0 H0 F H σ ρ D r q=>by
 unfold nH at q;split at q
 .rename_i A e;obtain⟨l,vs,a,d,z,B,N⟩:=r.hide e;refine hw σ H _ l vs a d ?_;have P:(ia m gb A (ρ.set j none)).res K E ⟨F0.hp,(j,l,vs)::F0.lt⟩ H0 F D:=by
   cases eo:ia m gb A (ρ.set j none) with
   |bad=>rw[eo]at q;exact q.elim
   |nx ρ2=>
    rw[eo]at q;unfold CB at q;dsimp only at q;split at q
    .rename_i S;exact λb c p s v=>q b c p s (v.unhide S (z.mono s) B)
    .exact q.elim
   |rt t=>rw[eo]at q;exact q
   |rf us=>rw[eo]at q;exact q
   |rn A us=>rw[eo]at q;exact q
   |bk ρ2=>rw[eo]at q;exact q.elim
   |ct ρ2=>rw[eo]at q;exact q.elim
   |er C n=>rw[eo]at q;exact q
  refine uy (G:=λb c=>fw F b/\fw b c/\c l=some (.lst vs)) X Y (λi b c k J=>?_) (λb c k=>?_) (λi t b c x H'' k L y=>?_) (λb c p U s v=>⟨s,v.gr.fh,(v.lv (j,l,vs) (bj ..)).h⟩) N (.refl _) P
  .have Q:vs[i]? = some (vs[i]'(by rw[z.length];exact J)):=ag _;exact⟨vs,_,jQ.of k.2.2,Q⟩
  .exact⟨vs,jQ.of k.2.2,by rw[z.length];exact aL _⟩
  .obtain⟨rfl,I⟩:=y;obtain⟨t',o,Z⟩:=z.at_ (I vs (jQ.of k.2.2));rw[L]at o;cases o;exact⟨b,.refl k.2.1,Z.mono k.1⟩
 .exact q.elim
@[simp] noncomputable def rA(b:Pe->M (List T))(m:T->En->Option En)(g:En->O):En->O:=λρ=>.of (b (kD ρ)) λa=>ia m g a ρ
def NY{tb:TS}(c:MI K E w fi)(e:IY K g m)(h:MS K E tb gb):MS K E (yr w g tb) (rA fi m gb):=λF0 H0 F H σ ρ D r q=>c F H σ (kD ρ) _ r.gr.fh r.vars ((O.res_of q).mono (λd z J j i b a=>v8 e h a (r.grow b) (.refl _) (z.go b.ff)) λC n z=>z.go r.gr)
@[simp] noncomputable def lU(b:Pe->M (List T))(m:T->En->Option En)(g:En->O):En->O:=λρ=>.of (b (vw ρ)) λa=>ia m g a ρ
def KN{tb:TS}(e:OJ K E w fi)(o:IY K g m)(s:MS K E tb gb):MS K E (yr w g tb) (lU fi m gb):=λF0 H0 F H σ ρ D r q=>by obtain⟨p,x,d,V,a⟩:=r.lend;refine e p H σ (vw ρ) _ d.fh V ((O.res_of q).mono (λk z J v j l c=>?_) λC n z=>z.go d);obtain⟨i,b,h,_⟩:=a v j l;exact v8 o s (c i) (r.grow b) (.refl _) (z.go h)
noncomputable def kG(c:Pe->M Bool)(g:En->O):Nat->En->O
 |0,_=>.bad
 |n+1,ρ=>.of (c (vw ρ)) λb=>if b then (match g ρ with
   |.nx ρ2=>kG c g n ρ2
   |.ct ρ2=>kG c g n ρ2
   |.bk ρ2=>.nx ρ2
   |o=>o) else .nx ρ
def Ik{tb:TS}(i:En->Nat)(J:MT K E c fc)(L:MS K E tb gb):MS K E (AH c tb) (λρ=>kG fc gb (i ρ) ρ):=λF0 H0 F H σ ρ D r q=>by
 refine⟨λn g o=>∃e d,fw F e/\Sr K F0 H0 e o g d/\(kG fc gb n d).res K E F0 H0 e D,⟨i ρ,F,ρ,.refl _,r,q⟩,?_⟩;rintro n l P ⟨N,m,B,I,p⟩;cases n with
 |zero=>exact p.elim
 |succ n=>
  unfold kG at p;refine J.inS I p λb A y w x a=>?_;cases b with
  |true=>
   rw[aR rfl]at a ⊢;refine⟨λg o=>∃e d,fw F e/\Sr K F0 H0 e o g d/\(kG fc gb n d).res K E F0 H0 e D,λg o z=>⟨n,bE n,z⟩,?_⟩;refine L F0 H0 A y l m _ x ?_;cases h:gb m with
   |bad=>rw[h]at a;exact a.elim
   |nx ρ4=>rw[h]at a;exact λe v k s j=>⟨e,ρ4,(B.trans w).trans s,j,O.res.go a s⟩
   |ct ρ4=>rw[h]at a;exact λe v k s j=>⟨e,ρ4,(B.trans w).trans s,j,O.res.go a s⟩
   |bk ρ4=>rw[h]at a;exact a
   |rt t=>rw[h]at a;exact a
   |rf ts=>rw[h]at a;exact a
   |rn ts us=>rw[h]at a;exact a
   |er C n=>rw[h]at a;exact a
  |false=>rw[aS aI]at a ⊢;exact a A y l (.refl _) x
@[simp] noncomputable def l0(a:List (Option Nat))(ρ:Pe):Pe:=a.map fun
 |none=>none
 |some j=>(ρ[j]?).getD none
def jL.pull{ρ:Pe}(V:jL K F σ ρ) ix:jL K F (L2.pull ix σ) (l0 ix ρ):=λi t e=>by
 unfold l0 at e;rw[ax]at e;cases q:ix[i]? with
 |none=>rw[q]at e;cases e
 |some w=>
  rw[q]at e;cases w with
  |none=>cases e
  |some j=>
   have c:(ρ[j]?).getD none=some t:=by simpa using e
   cases z:ρ[j]? with
   |none=>rw[z]at c;cases c
   |some y=>rw[z]at c;have:y=some t:=c;rw[this]at z;obtain⟨v,a,b⟩:=V j t z;refine⟨v,?_,b⟩;unfold L2.pull;rw[ax,q];simp[a]
@[simp] noncomputable def qw(m:T->Pe->Option Pe)(c:Pe->M Bool)(a:Pe->M T)(ρ:Pe)(t:T):M (Option T):=match m t ρ with
 |none=>.bad
 |some ρ1=>(c ρ1).bind λb=>if b then (a ρ1).bind λx=>.ok (some x) else .ok none
noncomputable def oy(k:T->M (Option T)):List T->M (List T)
 |[]=>.ok []
 |t::ts=>(k t).bind λo=>(oy k ts).bind λr=>.ok (match o with
  |some x=>x::r
  |none=>r)
def IX:XK:=λ_ _ _=>False
def Mh:MT K E NH (λ_=>.ok true):=λF H σ ρ Q s V q=>q F H (.refl s)
theorem Gm{ρ:Pe}(hg:MG K g m)(ht:MT K IX tt ft)(he:ME K IX te fe)(V:jL K F1 σ ρ)
  (j:vt K J its F1) (s:fw F1 H1) (hl:its.length<sizeLine) (q:(oy (qw m ft fe (l0 ix ρ)) its).res (kF K F1 H1 Q) (λ_ _=>False)):Rf J ix g tt te σ H1 Q:=by
 refine⟨λi k I H=>i<=its.length/\k=its.length-i/\∃F' d,Gr F1 H1 F' H/\fE K F' I d/\d.length<=i/\(oy (qw m ft fe (l0 ix ρ)) (its.drop i)).res (λU=>kF K F1 H1 Q (d++U)) (λ_ _=>False),
  ⟨_,bF _,rfl,F1,[],.refl s,.nil,bF _,by simpa using q⟩,?_⟩
 rintro i k I P ⟨hi,rfl,Y,d,c,A,tl,p⟩;by_cases a:i<its.length
 .right;refine⟨j.go i P (c.ff.trans c.fh) a,by rw[A.length];omega,λx N y=>?_⟩;have et:=ag a;obtain⟨X,o,rp⟩:=j.yld i _ Y P x N c.ff c.fh et y;rw[cZ a]at p;unfold oy at p;have l:=M.res.unb p;unfold qw at l;cases L:m its[i] (l0 ix ρ) with
  |none=>rw[L]at l;exact l.elim
  |some ρ3=>
   rw[L]at l;have h:=c.trans o;have V3:=(V.mono h.ff).pull ix;refine hg X N _ _ x _ ρ3 _ o.fh (by simp[L2.pull,l0]) V3 rp L λr hl' V'=>?_;have q4:=M.res.unb l;refine ht X N r ρ3 _ o.fh V' (q4.mono (λb z Z H4 n=>?_) λ_ _ z=>z.elim);cases b with
   |true=>rw[aR rfl]at z ⊢;have q5:=M.res.unb z;refine he Z H4 r ρ3 _ n.fh (V'.mono n.ff) (q5.mono (λx' z' v F5 H5 S B=>?_) λ_ _ z=>z.elim);refine⟨its.length-(i+1),by omega,a,rfl,F5,d++[x'],(h.trans n).trans S,(A.mono (o.ff.trans (n.ff.trans S.ff))).append (.cons B .nil),by simp;omega,?_⟩;have R:=M.res.unb z';exact R.mono (λU w=>by rw[bT];exact w) λ_ _ w=>w
   |false=>rw[aS aI]at z ⊢;refine⟨its.length-(i+1),by omega,a,rfl,Z,d,h.trans n,A.mono (o.ff.trans n.ff),by omega,?_⟩;exact M.res.unb z
 .left;have e:i=its.length:=by omega
  subst e;rw[List.drop_length]at p;refine⟨j.stop P (c.ff.trans c.fh),λD C=>?_⟩;have l:kF K F1 H1 Q d:=by simpa[oy,M.res] using p
  exact l D I Y _ (c.trans (.new' c.fh C)) (fG c.hh C) (fG c.fh C) eW A
def LQ(c:MI K E w fi)(i:MG K g m)(e:MT K IX tt ft)(d:ME K IX te fe) :
  MF K E (IE ix w g tt te) (λρ=>(fi ρ).bind λits=>(if its.length<sizeLine then oy (qw m ft fe (l0 ix ρ)) its else .bad).noEr):=λF H σ ρ Q s V q=>by
 refine c F H σ ρ _ s V ((M.res.unb q).mono (λits z J k j a b=>?_) λ_ _ z=>z);split at z
 .rename_i h;exact Gm i e d (V.mono a.ff) b a.fh h (z.noEr.mono (λ_ w=>w.go a) λ_ _ w=>w)
 .exact z.elim
end
end L3
namespace L3
open PySem L2
section
variable {K:W.Frag}{E:XK}{t u ta tb:TE}{f fa fb:Pe->M T}{F0:Fz}{H0 F H F1 H1:Hp}{σ:St}{ρ:En}{D:qp}
noncomputable def wA(K:W.Frag)(F:List T->M T):Sp:=λb H Q E=>∃a F0,fw F0 H/\fE K F0 b a/\(F a).res (kV K F0 H Q) (kE E F0 H)
noncomputable def Ao(K:W.Frag)(F:List T->M (List T)):Sp:=λb H Q E=>∃a F0,fw F0 H/\fE K F0 b a/\(F a).res (kF K F0 H Q) (kE E F0 H)
@[simp] noncomputable def eY(fa:Pe->M (List T))(F:List T->M T):Pe->M T:=λρ=>(fa ρ).bind λa=>(F a).noEr
@[simp] noncomputable def iq(fa:Pe->M (List T))(F:List T->M (List T)):Pe->M (List T):=λρ=>(fa ρ).bind λa=>(F a).noEr
section
variable {tr:TA}{fr:Pe->M (List T)}{Fn:List T->M T}{Ff:List T->M (List T)}{E':XK}
def HH(e:MA K E tr fr):ME K E (wt (wA K Fn) [] E' tr) (eY fr Fn):=λF H σ ρ Q s V q=>by refine e.run s V q λb g F1 H1 a d c=>?_;exact⟨b,F1,a.fh,by rw[bG];exact d,(c.mono (λ_ z=>kV.go z a) λ_ _ z=>z).noEr⟩
def Iv(e:MA K E tr fr):MF K E (wt (Ao K Ff) [] E' tr) (iq fr Ff):=λF H σ ρ Q s V q=>by refine e.run s V q λb g F1 H1 a d c=>?_;exact⟨b,F1,a.fh,by rw[bG];exact d,(c.mono (λ_ z=>kF.go z a) λ_ _ z=>z).noEr⟩
@[simp] noncomputable def tY(C:Addr)(m:Str)(x:T):M Unit:=match x with
 |.obj C' fs=>if C'=C/\fs.lookup m=none then .ok () else .bad
 |_=>.bad
@[simp] noncomputable def uJ(C:Addr)(m:Str)(a:Pe->M T)(fr:Pe->M (List T))(F:List T->M T):Pe->M T:=λρ=>(a ρ).bind λx=>(tY C m x).bind λ_=>(fr ρ).bind λb=>(F (x::b)).noEr
@[simp] noncomputable def t9(C:Addr)(m:Str)(a:Pe->M T)(fr:Pe->M (List T))(F:List T->M (List T)):Pe->M (List T):=λρ=>(a ρ).bind λx=>(tY C m x).bind λ_=>(fr ρ).bind λb=>(F (x::b)).noEr
def Cf(r:i7 K F v x)(e:tY C m x=.ok ()):∃a dx fs,v=.ref a/\F a=some (.ins C dx fs)/\fs.lookup m=none:=by
 cases r with
 |obj h rs=>
  rename_i a c dx fs b;have e:(if c=C/\List.lookup m b=none then M.ok () else M.bad)=.ok ():=e;by_cases d:c=C/\List.lookup m b=none
  .obtain⟨rfl,g⟩:=d;exact⟨a,dx,fs,rfl,h,rs.none_ g⟩
  .rw[aS d]at e;cases e
 |_=>cases e
def B8:tY C m x≠.er C' n:=by
 unfold tY;split
 .split<;>exact λz=>nomatch z
 .exact λz=>nomatch z
def Fe(i:ME K E ta fa)(hr:MA K E tr fr):ME K E (wC C m (wA K Fn) [] E' ta tr) (uJ C m fa fr Fn):=λF H σ ρ Q s V q=>by
 refine i.run s V q λx v F1 H1 b g c=>?_;cases e:tY C m x with
 |bad=>rw[e]at c;exact c.elim
 |er C n=>exact absurd e B8
 |ok u=>rw[e]at c;obtain⟨a,o,fs,rfl,h,l⟩:=Cf g e;refine⟨a,o,fs,rfl,b.fh _ _ h,l,?_⟩;refine hr.run b.fh (V.mono b.ff) c λj w p y d k r=>?_;exact⟨x::j,p,d.fh,by rw[bG];exact .cons (g.mono d.ff) k,(r.mono (λ_ z=>kV.go z (b.trans d)) λ_ _ z=>z).noEr⟩
def Fu(i:ME K E ta fa)(hr:MA K E tr fr):MF K E (wC C m (Ao K Ff) [] E' ta tr) (t9 C m fa fr Ff):=λF H σ ρ Q s V q=>by
 refine i.run s V q λx v F1 H1 b g c=>?_;cases e:tY C m x with
 |bad=>rw[e]at c;exact c.elim
 |er C n=>exact absurd e B8
 |ok u=>rw[e]at c;obtain⟨a,o,fs,rfl,h,l⟩:=Cf g e;refine⟨a,o,fs,rfl,b.fh _ _ h,l,?_⟩;refine hr.run b.fh (V.mono b.ff) c λj w p y d k r=>?_;exact⟨x::j,p,d.fh,by rw[bG];exact .cons (g.mono d.ff) k,(r.mono (λ_ z=>kF.go z (b.trans d)) λ_ _ z=>z).noEr⟩
end
@[simp] noncomputable def Q6:O->M T
 |.nx _=>.ok .non
 |.rt t=>.ok t
 |.rf ts=>.ok (.lst ts)
 |.rn ts us=>.ok (.tup (ts++[.lst us]))
 |.er C n=>.er C n
 |_=>.bad
@[simp] noncomputable def QR:O->M (List T)
 |.rf ts=>.ok ts
 |.er C n=>.er C n
 |_=>.bad
@[simp] noncomputable def f9(n:Nat)(ts:List T):En:=ts.map (λt=>some (W.p t))++List.replicate (n-ts.length) none
@[simp] noncomputable def lQ(k n:Nat)(g:En->O):List T->M T:=λa=>if a.length=k then Q6 (g (f9 n a)) else .bad
@[simp] noncomputable def wO(k n:Nat)(g:En->O):List T->M (List T):=λa=>if a.length=k then QR (g (f9 n a)) else .bad
def wb{n i:Nat}(e:(f9 n ts)[i]? = some (some (.d kvs))):False:=by
 unfold f9 at e;rw[List.getElem?_append]at e;split at e
 .rw[ax]at e;cases q:ts[i]? with
  |none=>rw[q]at e;cases e
  |some x=>rw[q]at e;cases e
 .rw[List.getElem?_replicate]at e;split at e<;>cases e
def yJ(s:fw F H)(r:fE K F vs ts):Sr K ⟨F,[]⟩ H F H (jD N vs) (f9 N.length ts):=by
 refine⟨.refl s,?_,λi t e=>?_,⟨λ_=>0,λi k e=>?_,λi j k m e=>?_⟩,λ_ g=>(nomatch g),λ_ _ _ h=>(by cases h),⟨λi c e=>(wb e).elim,λi j c d e=>(wb e).elim⟩⟩
 .simp[L2.jD,f9,r.length]
 .unfold f9 at e;rw[List.getElem?_append]at e;split at e
  .rename_i l;rw[ax]at e;cases q:ts[i]? with
   |none=>rw[q]at e;cases e
   |some x=>rw[q]at e;cases e;obtain⟨v,a,b⟩:=r.get q;refine⟨v,?_,b⟩;unfold L2.jD;rw[List.getElem?_append_left (by simpa[r.length] using l),ax,a];rfl
  .rw[List.getElem?_replicate]at e;split at e<;>cases e
 .exfalso;unfold f9 at e;rw[List.getElem?_append]at e;split at e
  .rw[ax]at e;cases q:ts[i]? with
   |none=>rw[q]at e;cases e
   |some x=>rw[q]at e;cases e
  .rw[List.getElem?_replicate]at e;split at e<;>cases e
 .exfalso;unfold f9 at e;rw[List.getElem?_append]at e;split at e
  .rw[ax]at e;cases q:ts[i]? with
   |none=>rw[q]at e;cases e
   |some x=>rw[q]at e;cases e
  .rw[List.getElem?_replicate]at e;split at e<;>cases e
def AX(h:wA K (lQ k n g) vs H Q E):vs.length=k:=by
 obtain⟨b,F0,s,r,q⟩:=h;unfold lQ at q;by_cases a:b.length=k
 .rw[r.length];exact a
 .rw[aS a]at q;exact q.elim
def wV{t:TS}(i:MS K E t g)(h:wA K (lQ k N.length g) vs H Q E):t {nx:=λ_ b=>Q .non b,rt:=Q} (jD N vs) H:=by
 obtain⟨a,F0,s,r,q⟩:=h;unfold lQ at q;by_cases c:a.length=k
 .rw[aR c]at q;refine i ⟨F0,[]⟩ H F0 H _ _ _ (yJ s r) ?_;cases e:g (f9 N.length a) with
  |bad=>rw[e]at q;exact q
  |nx ρ=>rw[e]at q;exact λj b d _ l=>q .non j b l.gr .non
  |rt t=>rw[e]at q;exact q
  |rf a=>rw[e]at q;exact kF.of q
  |rn a us=>rw[e]at q;exact kT.of q
  |bk ρ=>rw[e]at q;exact q.elim
  |ct ρ=>rw[e]at q;exact q.elim
  |er C n=>rw[e]at q;exact q
 .rw[aS c]at q;exact q.elim
def yu(h:Ao K (wO k n g) vs H Q E):vs.length=k:=by
 obtain⟨b,F0,s,r,q⟩:=h;unfold wO at q;by_cases a:b.length=k
 .rw[r.length];exact a
 .rw[aS a]at q;exact q.elim
def tT{t:TS}(c:MS K E t g)(h:Ao K (wO k N.length g) vs H Q E):t {nx:=λ_ d=>Q .non d,rt:=Q} (jD N vs) H:=by
 obtain⟨a,F0,s,r,q⟩:=h;unfold wO at q;by_cases b:a.length=k
 .rw[aR b]at q;refine c ⟨F0,[]⟩ H F0 H _ _ _ (yJ s r) ?_;cases e:g (f9 N.length a) with
  |bad=>rw[e]at q;exact q
  |nx ρ=>rw[e]at q;exact q.elim
  |rt t=>rw[e]at q;exact q.elim
  |rf a=>rw[e]at q;exact q
  |rn a us=>rw[e]at q;exact q.elim
  |bk ρ=>rw[e]at q;exact q.elim
  |ct ρ=>rw[e]at q;exact q.elim
  |er C n=>rw[e]at q;exact q
 .rw[aS b]at q;exact q.elim
@[simp] noncomputable def BK(C:Addr)(x:Str)(fa:Pe->M T):Pe->M T:=λρ=>(fa ρ).bind λo=>match o with
 |.obj C' fs=>if C'=C then (match fs.lookup x with
  |some t=>.ok t
  |none=>.bad) else .bad
 |_=>.bad
def NZ(r:vS K C)(k:jT K C x)(n:ME K E ta fa):ME K E (Np K ta x) (BK C x fa):=λF H σ ρ Q s V q=>by
 refine n.run s V q λo v F1 H1 c l b=>?_;cases l with
 |obj h rs=>
  rename_i a g m fs i;dsimp only at b;by_cases d:g=C
  .subst d;rw[aR rfl]at b;cases e:List.lookup x i with
   |none=>rw[e]at b;exact b.elim
   |some y=>rw[e]at b;obtain⟨w,p,j⟩:=rs.look e;exact⟨a,g,m,fs,w,rfl,c.fh _ _ h,r,k,p,b w F1 H1 c j⟩
  .rw[aS d]at b;exact b.elim
 |_=>exact b.elim
end
end L3
namespace L3
open PySem L2 PySem.Spec PyProof.Rows
structure Pm(K:W.Frag)(E:XK)(X:Cx)(e:Expr)(t:TE)(f:Pe->M T):Prop where
 pe:PE X e t
 me:ME K E t f
structure EO(K:W.Frag)(E:XK)(X:Cx)(e:Expr)(t:TE)(f:Pe->M (List T)):Prop where
 pe:PE X e t
 mf:MF K E t f
structure Cv(K:W.Frag)(E:XK)(X:Cx)(e:Expr)(t:TT)(f:Pe->M Bool):Prop where
 pt:PT X e t
 mt:MT K E t f
structure Md(K:W.Frag)(E:XK)(X:Cx)(e:Expr)(t:TT)(f:Pe->M Bool):Prop where
 pw:PW X e t
 mt:MT K E t f
structure BM(K:W.Frag)(E:XK)(X:Cx)(es:List Expr)(t:TA)(f:Pe->M (List T)):Prop where
 pa:PA X es t
 ma:MA K E t f
structure Gz(K:W.Frag)(E:XK)(X:Cx)(tg it:Expr)(w:TI)(f:Pe->M (List T)):Prop where
 pi:PI X tg it w
 mi:MI K E w f
structure qo(K:W.Frag)(E:XK)(X:Cx)(tg it:Expr)(w:TI)(f:Pe->M (List T)):Prop where
 pi:PI X tg it w
 mi:OJ K E w f
structure OP(K:W.Frag)(X:Cx)(tg:Expr)(g:TG)(m:T->Pe->Option Pe):Prop where
 pg:PG X tg g
 mg:MG K g m
structure Li(K:W.Frag)(X:Cx)(tg:List Expr)(g:IS)(m:List T->Pe->Option Pe):Prop where
 pg:OE X tg g
 mg:Qh K g m
structure Oz(K:W.Frag)(X:Cx)(tg:Expr)(g:TG)(m:T->En->Option En):Prop where
 pg:PG X tg g
 mg:IY K g m
structure JK(K:W.Frag)(X:Cx)(tg:List Expr)(g:IS)(m:List T->En->Option En):Prop where
 pg:OE X tg g
 mg:Gc K g m
structure uR(K:W.Frag)(E:XK)(X:Cx)(st:Stmt)(t:TS)(g:En->O):Prop where
 ps:PS X st t
 ms:MS K E t g
structure nM(K:W.Frag)(E:XK)(X:Cx)(sts:List Stmt)(t:TS)(g:En->O):Prop where
 ps:yF X sts t
 ms:MS K E t g
noncomputable def MO(K:W.Frag)(E:XK)(t:TO)(f:Pe->M (Option Int)):Prop:=∀F H b c Q,fw F H->jL K F b c->(f c).res (λo=>∀d a,Gr F H d a->Q o a) (kE E F H)->t b H Q
structure Qk(K:W.Frag)(E:XK)(X:Cx)(e:Option Expr)(t:TO)(f:Pe->M (Option Int)):Prop where
 po:PO X e t
 mo:MO K E t f
structure EZ(K:W.Frag)(E:XK)(X:Cx)(es:List Expr)(t:TT)(f:Pe->M Bool):Prop where
 pf:EC X es t
 mt:MT K E t f
section
variable {K:W.Frag}{E:XK}{X:Cx}{a b c e o:Expr}{es:List Expr}{ta tb tc te to:TE}{fa fb fc fe fo:Pe->M T}{tr:TA}{fr:Pe->M (List T)}{pos p p2 apos:Pos}
def e7 i (g:X.N[i]? = some x:=by rfl) (f:OH X.env.scope x:=by first|exact Or.inl rfl|exact Or.inr (Or.inl rfl)|exact Or.inr (Or.inr rfl)) (h:(x==("__debug__" : Str))=false:=by decide)
  (d:(x==("__classdict__" : Str))=false:=by decide):Pm K E X (.Name x pos) (j7 i) (eN i):=⟨pv i g f h d,MP⟩
def iR{j pos}:Pm K E X (.Constant (.int i) j pos) (tC (.int i)) (cM (.int i)):=⟨Aq,JZ λ_=>.int i⟩
def Pw{b:Bool}{j pos}:Pm K E X (.Constant (.bool b) j pos) (tC (.bl b)) (cM (.bl b)):=⟨Ir,JZ λ_=>.bl b⟩
def Bd{j pos}:Pm K E X (.Constant .none j pos) (tC .non) (cM .non):=⟨Ny,JZ λ_=>.non⟩
def yO i (d:∃t,X.mg x=some (.int i t)) (f:Gl X x:=by rfl) (g:(x==("__debug__" : Str))=false:=by decide):Pm K E X (.Name x pos) (tC (.int i)) (cM (.int i)):=let ⟨t,h⟩:=d;⟨Kt f h ⟨t,rfl⟩ g,JZ λ_=>.int i⟩
def iV(h:EO K E X e te f):Pm K E X e te (λρ=>(f ρ).bind λts=>.ok (.lst ts)):=⟨h.pe,h.mf.me⟩
def qm(g:nL X (binaryOp op) r)(hr:MR K r m)(d:Pm K E X a ta fa)(f:Pm K E X b tb fb):Pm K E X (.BinOp a op b pos) (sT r ta tb) (eV m fa fb):=⟨G6 g d.pe f.pe,C1 hr d.me f.me⟩
def Fg(K:W.Frag):R2:=λx y H Q=>(zF λi j=>.int (i+j)) x y H Q\/(∃i j,x=.str i/\y=.str j/\i.length+j.length<=sizeLine/\Q (.str (i++j)) H)\/Nq x y H Q\/
 ∃a b d f,x=.ref a/\y=.ref b/\H a=some (.tup d)/\H b=some (.tup f)/\d.length+f.length<=sizeLine/\(d=[]->Q (.ref b) H)/\(d≠[]->f=[]->Q (.ref a) H)/\(d≠[]->f≠[]->∀p,H p=none->Q (.ref p) (gy H p (.tup (d++f))))
def JI(hK:X.K=K:=by rfl):nL X (binaryOp .Add) (Fg K):=by
 subst hK;intro g s j H x y v u Q I f d h;rcases h with h|h|h|h
 .exact MD g s j H x y v u Q I f d h
 .exact Bm g s j H x y v u Q I f d h
 .exact Io g s j H x y v u Q I f d h
 .obtain⟨a,b,r,L,rfl,rfl,n,t,hz,q1,U,P⟩:=h;by_cases i:r=[]
  .subst i;cases f;cases d;obtain⟨Z,N,C,_⟩:=I.tuple (kP.of n);obtain⟨w,r2,p2,_⟩:=I.tuple (kP.of t);cases N;obtain⟨⟨c1,A,e1,S⟩,m,D,J,k⟩:=id C;obtain⟨⟨c2,R,e2,s2⟩,q,B,Y,l⟩:=id p2;subst D k B l;exact concat_meets ⟨_,m,rfl⟩ ⟨_,q,rfl⟩ noFill_tuple_add seq_tuple_add PySem.F.slot_tuple_add PySem.F.entry_tuple_add (PySem.F.args_tuple_add_2 _ _) (tuple_addW0 a b _ _ J Y A R S s2 (by simp)) ⟨m,q,⟨.ref b,H,I,rfl,q1 rfl⟩⟩
  .exact Le g s j H _ _ v u Q I f d ⟨a,b,r,L,rfl,rfl,kP.of n,kP.of t,i,hz,λe=>U i e,λe p z=>P i e p z⟩
noncomputable def fY:T->T->M T
 |.int i,.int j=>.ok (.int (i+j))
 |.str i,.str j=>if i.length+j.length<=sizeLine then .ok (.str (i++j)) else .bad
 |.lst a,.lst b=>if a.length+b.length<=sizeLine then .ok (.lst (a++b)) else .bad
 |.tup a,.tup b=>if a.length+b.length<=sizeLine then .ok (.tup (a++b)) else .bad
 |_,_=>.bad
def Kc x y:M.NoE (fY x y):=λC n=>by unfold fY;split<;>first|(intro z;cases z;done)|(split<;>intro z<;>cases z)
def Jr:MR K (Fg K) fY:=⟨Kc,λF H v w x y Q s r l q=>by
 cases r with
 |int i=>
  cases l with
  |int j=>exact .inl ⟨i,j,rfl,rfl,kV.now q s (.int _)⟩
  |_=>exact q.elim
 |str i=>
  cases l with
  |str j=>
   have d:(if i.length+j.length<=sizeLine then M.ok (T.str (i++j)) else M.bad).res (kV K F H Q) (λ_ _=>False):=q;by_cases h:i.length+j.length<=sizeLine
   .rw[aR h]at d;exact .inr (.inl ⟨i,j,rfl,rfl,h,kV.now d s (.str _)⟩)
   .rw[aS h]at d;exact d.elim
  |_=>exact q.elim
 |lst h1 r1=>
  cases l with
  |lst h2 r2=>
   rename_i a n f b m g;have d:(if f.length+g.length<=sizeLine then M.ok (T.lst (f++g)) else M.bad).res (kV K F H Q) (λ_ _=>False):=q;by_cases h:f.length+g.length<=sizeLine
   .rw[aR h]at d;refine .inr (.inr (.inl ⟨a,b,n,m,rfl,rfl,s _ _ h1,s _ _ h2,by rw[r1.length,r2.length];exact h,λp k=>?_⟩));exact d (.ref p) _ _ (.new s k) (.lst eW ((r1.append r2).mono (Gr.new s k).ff))
   .rw[aS h]at d;exact d.elim
  |_=>exact q.elim
 |tup h1 r1=>
  cases l with
  |tup h2 r2=>
   rename_i a n f b m g;have d:(if f.length+g.length<=sizeLine then M.ok (T.tup (f++g)) else M.bad).res (kV K F H Q) (λ_ _=>False):=q;by_cases h:f.length+g.length<=sizeLine
   .rw[aR h]at d;refine .inr (.inr (.inr ⟨a,b,n,m,rfl,rfl,s _ _ h1,s _ _ h2,by rw[r1.length,r2.length];exact h,λe=>?_,λ_ e=>?_,λ_ _ p k=>?_⟩))
    .subst e;cases r1;exact kV.now d s (.tup h2 r2)
    .subst e;cases r2;exact kV.now d s (.tup h1 (by rw[bG];exact r1))
    .exact d (.ref p) _ _ (.new s k) (.tup eW ((r1.append r2).mono (Gr.new s k).ff))
   .rw[aS h]at d;exact d.elim
  |_=>exact q.elim
 |_=>exact q.elim⟩
def xI(f:Pm K E X a ta fa)(g:Pm K E X b tb fb)(d:X.K=K:=by rfl):Pm K E X (.BinOp a .Add b pos) (sT (Fg K) ta tb) (eV fY fa fb):=qm (JI d) Jr f g
@[simp] noncomputable def uW(fa fb:Pe->M T):Pe->M (List T):=λd=>(fa d).bind λx=>(fb d).bind λy=>match x,y with
 |.lst a,.lst b=>if a.length+b.length<=sizeLine then .ok (a++b) else .bad
 |_,_=>.bad
def xG(r:Pm K E X a ta fa)(t:Pm K E X b tb fb):EO K E X (.BinOp a .Add b pos) (sT Nq ta tb) (uW fa fb):=by
 refine⟨G6 Io r.pe t.pe,λF H L J Q s V q=>?_⟩;refine r.me.run s V q λx v I N k B D=>?_;refine t.me.run k.fh (V.mono k.ff) D λy w n z d u m=>?_;cases B with
 |lst h1 t1=>
  cases u with
  |lst h2 t2=>
   rename_i a C j b A l;have g:(if j.length+l.length<=sizeLine then M.ok (j++l) else M.bad).res (kF K F H Q) (kE E n z):=m;by_cases h:j.length+l.length<=sizeLine
   .rw[aR h]at g;refine⟨a,b,C,A,rfl,rfl,d.fh _ _ (d.ff _ _ h1),d.fh _ _ h2,by rw[t1.length,t2.length];exact h,λp i=>?_⟩;have f:=k.trans d;exact g p _ n _ (f.trans (.new' d.fh i)) (fG f.hh i) (fG d.fh i) eW ((t1.mono d.ff).append t2)
   .rw[aS h]at g;exact g.elim
  |_=>exact m.elim
 |_=>exact m.elim
noncomputable def oV:T->T->M T:=iW (λ_ _=>true) λi j=>.int (i-j)
def yf(f:Pm K E X a ta fa)(d:Pm K E X b tb fb):Pm K E X (.BinOp a .Sub b pos) (sT (zF λi j=>.int (i-j)) ta tb) (eV oV fa fb):=qm Mu (oH λ_ _ _=>.int _) f d
instance {i j:Int}:Decidable (PySem.IntMulOk i j):=inferInstanceAs (Decidable (¬_))
noncomputable def ju:T->T->M T:=iW (λi j=>decide (PySem.IntMulOk i j)) λi j=>.int (i*j)
def Mb(f:Pm K E X a ta fa)(d:Pm K E X b tb fb):Pm K E X (.BinOp a .Mult b pos) (sT (rI (λi j=>PySem.IntMulOk i j) λi j=>.int (i*j)) ta tb) (eV ju fa fb):=qm Kl (rX (λi j h=>of_decide_eq_true h) λ_ _ _=>.int _) f d
noncomputable def sr:T->T->M T:=iW (λi j=>decide (j≠0)&&!Builtin.divisionGoesByPylong i j) λi j=>.int (i.fdiv j)
def Kr(f:Pm K E X a ta fa)(d:Pm K E X b tb fb):Pm K E X (.BinOp a .FloorDiv b pos) (sT (rI (λi j=>j≠0/\Builtin.divisionGoesByPylong i j=false) λi j=>.int (i.fdiv j)) ta tb) (eV sr fa fb):=qm FJ (rX (λi j h=>by simpa using h) λ_ _ _=>.int _) f d
noncomputable def uC:T->T->M T:=iW (λ_ j=>decide (j≠0)) λi j=>.int (i.fmod j)
def Ot(f:Pm K E X a ta fa)(d:Pm K E X b tb fb):Pm K E X (.BinOp a .Mod b pos) (sT (rI (λ_ j=>j≠0) λi j=>.int (i.fmod j)) ta tb) (eV uC fa fb):=qm JW (rX (λi j h=>by simpa using h) λ_ _ _=>.int _) f d
noncomputable def KR:T->T->M T:=iW (λi j=>decide (0<=j)&&decide (j<=1000000)&&decide (i.natAbs<18446744073709551616)) λi j=>.int (i ^ j.toNat)
def NF(f:Pm K E X a ta fa)(d:Pm K E X b tb fb):Pm K E X (.BinOp a .Pow b pos) (sT (rI Kz λi j=>.int (i ^ j.toNat)) ta tb) (eV KR fa fb):=qm Nx (rX (λi j h=>by simp only[bN,decide_eq_true_eq]at h;exact⟨h.1.1,h.1.2,h.2⟩) λ_ _ _=>.int _) f d
def E9(d:Pm K E X a ta fa):Pm K E X (.UnaryOp .USub a pos) (Ra (rU λi=>.int (-i)) ta) (yE (λi=>.int (-i)) fa):=⟨LX FO d.pe,Qd (λ_ _=>.int _) d.me⟩
@[simp] noncomputable def AS(fa fb:Pe->M T):Pe->M (List T):=λd=>(fa d).bind λx=>(fb d).bind λy=>match x,y with
 |.lst a,.int k=>if C0 k=true/\a.length*k.toNat<=sizeLine then .ok (List.replicate k.toNat a).flatten else .bad
 |_,_=>.bad
def GH(r:Pm K E X a ta fa)(t:Pm K E X b tb fb):EO K E X (.BinOp a .Mult b pos) (sT PF ta tb) (AS fa fb):=by
 refine⟨G6 NW r.pe t.pe,λF H J I Q s V q=>?_⟩;refine r.me.run s V q λx v D L l A C=>?_;refine t.me.run l.fh (V.mono l.ff) C λy w n z d u m=>?_;cases A with
 |lst h1 t1=>
  cases u with
  |int k=>
   rename_i a B j;have g:(if C0 k=true/\j.length*k.toNat<=sizeLine then M.ok (List.replicate k.toNat j).flatten else M.bad).res (kF K F H Q) (kE E n z):=m;by_cases h:C0 k=true/\j.length*k.toNat<=sizeLine
   .rw[aR h]at g;refine⟨a,k,B,rfl,rfl,d.fh _ _ (d.ff _ _ h1),by have:=lW h.1;rw[QJ]at this;rw[Re];omega,by have:=lW h.1;rw[QJ]at this;rw[Re];omega,by rw[t1.length];exact h.2,λp i=>?_⟩;have f:=l.trans d;exact g p _ n _ (f.trans (.new' d.fh i)) (fG f.hh i) (fG d.fh i) eW ((t1.mono d.ff).rep k.toNat)
   .rw[aS h]at g;exact g.elim
  |_=>exact m.elim
 |_=>exact m.elim
def vX(h:Pm K E X e te fe)(f:∀d,isTrue e X.env d=(do let v <-d;standAt e.pos;holding [v] (truthy v)):=by intro _;rfl):Cv K E X e (tB te) (gd fe):=⟨M7 h.pe f,Jk h.me⟩
section
variable {tA tD:TT}{fA fD:Pe->M Bool}{kQ:List Expr}
def qQ(h:Cv K E X a tA fA):Cv K E X (.UnaryOp .Not a pos) (N1 tA) (oW fA):=⟨MV h.pt,M6 h.mt⟩
def yt(h:Md K E X a tA fA):Cv K E X a tA fA:=⟨PW.pt h.pw,h.mt⟩
def oq(h:Cv K E X a tA fA):Md K E X (.BoolOp .And [a] pos) tA fA:=⟨JP h.pt,h.mt⟩
def qk(h:Cv K E X a tA fA):Md K E X (.BoolOp .Or [a] pos) tA fA:=⟨Nw h.pt,h.mt⟩
def pY(h:Cv K E X a tA fA)(h':Md K E X (.BoolOp .And (b::kQ) pos) tD fD):Md K E X (.BoolOp .And (a::b::kQ) pos) (NR tA tD) (nr fA fD):=⟨Oq h.pt h'.pw,MW h.mt h'.mt⟩
def ux(h:Cv K E X a tA fA)(h':Md K E X (.BoolOp .Or (b::kQ) pos) tD fD):Md K E X (.BoolOp .Or (a::b::kQ) pos) (QM tA tD) (EM fA fD):=⟨PX h.pt h'.pw,PZ h.mt h'.mt⟩
def Br{op}(h:Pm K E X a ta fa):Pm K E X (.BoolOp op [a] pos) ta fa:=⟨Nn h.pe,h.me⟩
def A4(h:Pm K E X a ta fa)(h':Pm K E X (.BoolOp .And (b::kQ) pos) tb fb):Pm K E X (.BoolOp .And (a::b::kQ) pos) (EX ta tb) (JR fa fb):=⟨Mt h.pe h'.pe,JJ h.me h'.me⟩
def Bh(h:Pm K E X a ta fa):Pm K E X (.UnaryOp .Not a pos) (Gn ta) (Gg fa):=⟨NL h.pe,Lh h.me⟩
end
def A0(g:nL X (compareOp op) r)(hr:MR K r m)(f:Pm K E X a ta fa)(d:Pm K E X b tb fb)(h:behindInMarks op b=false:=by exact q0 _):Pm K E X (.Compare a [op] [b] pos) (sT r ta tb) (eV m fa fb):=⟨KS g f.pe d.pe h,C1 hr f.me d.me⟩
def gW(g:nL X (compareOp op) r)(hr:MR K r m)(f:Pm K E X a ta fa)(d:Pm K E X b tb fb)(h:behindInMarks op b=false:=by exact q0 _):Cv K E X (.Compare a [op] [b] pos) (zl (sT r ta tb)) (gd (eV m fa fb)):=⟨KO g f.pe d.pe h,I0 (C1 hr f.me d.me)⟩
noncomputable def Qq:T->T->M T:=iW (λ_ _=>true) λi j=>.bl (decide (i<j))
noncomputable def Mo:T->T->M T:=iW (λ_ _=>true) λi j=>.bl (decide (i<=j))
noncomputable def JC:T->T->M T:=iW (λ_ _=>true) λi j=>.bl (decide (j<i))
noncomputable def OU:T->T->M T:=iW (λ_ _=>true) λi j=>.bl (decide (j<=i))
def Hl:MR K (zF λi j=>.bl (decide (i<j))) Qq:=oH λ_ _ _=>.bl _
def zh:MR K (zF λi j=>.bl (decide (i<=j))) Mo:=oH λ_ _ _=>.bl _
def C3:MR K (zF λi j=>.bl (decide (j<i))) JC:=oH λ_ _ _=>.bl _
def Hs:MR K (zF λi j=>.bl (decide (j<=i))) OU:=oH λ_ _ _=>.bl _
@[simp] noncomputable def Q4(m f:T->T->M T)(fa fb fc:Pe->M T):Pe->M T:=λd=>(fa d).bind λx=>(fb d).bind λy=>(m x y).bind λz=>match z with
 |.bl true=>(fc d).bind λw=>f y w
 |.bl false=>.ok (.bl false)
 |_=>.bad
def IM(hr:MR K r m)(f:MR K r' m')(Y:ME K E ta fa)(Z:ME K E tb fb)(C:ME K E tc fc):ME K E (A3 r r' ta tb tc) (Q4 m m' fa fb fc):=λF H σ ρ Q s V q=>by
 refine Y.run s V q λx v F1 H1 h L q1=>?_;refine Z.run h.fh (V.mono h.ff) q1 λy w R D j t S=>?_;refine hr.ok R D v w x y _ j.fh (L.mono j.ff) t (((M.res.unb S).ne (hr.ne x y)).mono (λz i v3 P J g A=>?_) λ_ _ z=>z);have d:=(h.trans j).trans g;cases A with
 |bl k=>
  refine⟨k,rfl,?_⟩;cases k with
  |true=>rw[aR rfl];have n:=i.mono (λ_ z=>z) λ_ _ z=>z.go g;refine C.run g.fh (V.mono d.ff) n λu I U H4 l B N=>?_;exact f.ok U H4 w I y u Q l.fh (t.mono (g.ff.trans l.ff)) B ((N.ne (f.ne y u)).mono (λ_ z=>z.go (d.trans l)) λ_ _ z=>z)
  |false=>rw[aS aI];exact i _ P J d (.bl _)
 |_=>exact i.elim
def HL(j:nL X (compareOp op) r)(hr:MR K r m)(f:nL X (compareOp op') r')(d:MR K r' m')(i:Pm K E X a ta fa)(h:Pm K E X b tb fb)(g:Pm K E X c tc fc)
  (k:lastMarks [op,op'] [b,c]=false:=by with_unfolding_all rfl):Pm K E X (.Compare a [op,op'] [b,c] pos) (A3 r r' ta tb tc) (Q4 m m' fa fb fc):=⟨GU j f i.pe h.pe g.pe k,IM hr d i.me h.me g.me⟩
mutual
noncomputable def rR:T->Bool
 |.str x=>PyData.canLay0 (.str x)
 |.lst ts=>pU ts
 |.tup ts=>pU ts
 |.scr _=>false
 |.obj _ _=>false
 |.emp=>false
 |.dic _=>false
 |_=>true
noncomputable def pU:List T->Bool
 |[]=>true
 |t::ts=>rR t&&pU ts
end
mutual
def BL:T->PyData
 |.non=>.none
 |.bl b=>.bool b
 |.int i=>.int i
 |.str x=>.str x
 |.lst ts=>.list (sQ ts)
 |.tup ts=>.tuple (sQ ts)
 |.scr _=>.none
 |.obj _ _=>.none
 |.emp=>.none
 |.dic _=>.none
def sQ:List T->List PyData
 |[]=>[]
 |t::ts=>BL t::sQ ts
end
mutual
theorem G9{F:Hp}:∀{v:V} {t:T},i7 K F v t->rR t=true->DV K F v (BL t)
 |_,_,.non,_=>.non
 |_,_,.bl b,_=>.bl b
 |_,_,.int i,_=>.int i
 |_,_,.str x,_=>.str x
 |_,_,.lst h r,l=>.lst (jQ.of h) (Bi r (by simpa[rR] using l))
 |_,_,.tup h r,l=>.tup (kP.of h) (Bi r (by simpa[rR] using l))
 |_,_,.scr _,l=>by simp[rR]at l
 |_,_,.obj _ _,l=>by simp[rR]at l
 |_,_,.emp _,l=>by simp[rR]at l
 |_,_,.dic _ _,l=>by simp[rR]at l
theorem Bi{F:Hp}:∀{vs:List V} {ts:List T},fE K F vs ts->pU ts=true->zO K F vs (sQ ts)
 |_,_,.nil,_=>.nil
 |_,_,.cons h r,l=>by rw[pU,bN]at l;exact .cons (G9 h l.1) (Bi r l.2)
end
mutual
theorem xB:∀t,rR t=true->(BL t).canLay0=true
 |.non,_=>rfl
 |.bl b,_=>rfl
 |.int i,_=>rfl
 |.str x,h=>by simpa[rR,BL] using h
 |.lst ts,h=>by rw[BL,PyData.canLay0];exact tP ts (by simpa[rR] using h)
 |.tup ts,h=>by rw[BL,PyData.canLay0];exact tP ts (by simpa[rR] using h)
 |.scr _,h=>by simp[rR]at h
 |.obj _ _,h=>by simp[rR]at h
 |.emp,h=>by simp[rR]at h
 |.dic _,h=>by simp[rR]at h
theorem tP:∀ts,pU ts=true->PyData.canLayAll0 (sQ ts)=true
 |[],_=>rfl
 |t::ts,h=>by rw[pU,bN]at h;rw[sQ,PyData.canLayAll0,xB t h.1,tP ts h.2];rfl
end
noncomputable def DB(x y:T):Bool:=(BL x).eqv (BL y)
noncomputable def xj(a b:List T):Bool:=PyData.eqvAll (sQ a) (sQ b)
noncomputable def B4(t:T):Nat:=(BL t).depth
noncomputable def qt(ts:List T):Nat:=PyData.depthAll (sQ ts)
@[simp] theorem Qy i:B4 (.int i)=0:=rfl
@[simp] theorem Q1 i:B4 (.bl i)=0:=rfl
@[simp] theorem Qz i:B4 (.str i)=0:=rfl
@[simp] theorem Qj:B4 .non=0:=rfl
@[simp] theorem Qu ts:B4 (.lst ts)=qt ts+1:=by unfold B4 qt;rw[BL,PyData.depth]
@[simp] theorem KQ ts:B4 (.tup ts)=qt ts+1:=by unfold B4 qt;rw[BL,PyData.depth]
@[simp] theorem Pa:qt []=0:=rfl
@[simp] theorem DA t ts:qt (t::ts)=max (B4 t) (qt ts):=by unfold B4 qt;rw[sQ,PyData.depthAll]
@[simp] theorem JS i j:DB (.int i) (.int j)=(i==j):=rfl
@[simp] theorem Qx i j:DB (.str i) (.str j)=(i==j):=rfl
def CC xs ys:DB (.lst xs) (.lst ys)=xj xs ys:=by unfold DB xj;rw[BL,BL,PyData.eqv]
def rC x xs y ys:xj (x::xs) (y::ys)=(DB x y&&xj xs ys):=by unfold DB xj;rw[sQ,sQ,PyData.eqvAll]
noncomputable def fM(neg:Bool):T->T->M T:=λx y=>if rR x&&rR y&&decide (B4 x<=100) then .ok (.bl (if neg then !DB x y else DB x y)) else .bad
mutual
theorem DV.same{F H:Hp}(s:fw F H):∀{v:V} {d:PyData},DV K F v d->DV K H v d
 |_,_,.non=>.non
 |_,_,.bl b=>.bl b
 |_,_,.int i=>.int i
 |_,_,.str x=>.str x
 |_,_,.lst h r=>.lst (s.seq h) (zO.same s r)
 |_,_,.tup h r=>.tup (s.seqT h) (zO.same s r)
theorem zO.same{F H:Hp}(s:fw F H):∀{v:List V} {d:List PyData},zO K F v d->zO K H v d
 |_,_,.nil=>.nil
 |_,_,.cons h r=>.cons (DV.same s h) (zO.same s r)
end
def Ke x y:M.NoE (fM neg x y):=λC n=>by unfold fM;split<;>exact λz=>nomatch z
def Da(neg:Bool):MR K (AD K neg) (fM neg):=⟨Ke,λF H v w x y Q s b a q=>by
 unfold fM at q;by_cases h:(rR x&&rR y&&decide (B4 x<=100))=true
 .rw[aR h]at q;simp only[bN,decide_eq_true_eq]at h;refine⟨BL x,BL y,DV.same s (G9 b h.1.1),DV.same s (G9 a h.1.2),⟨xB x h.1.1,xB y h.1.2,by exact h.2⟩,?_⟩;exact kV.now q s (.bl _)
 .rw[aS h]at q;exact q.elim⟩
def Lw{k:Nat}(hr:gB k X.A)(f:Pm K E X a ta fa)(e:Pm K E X b tb fb)(d:X.K=K:=by rfl)(c:behindInMarks .Eq b=false:=by exact q0 _):Pm K E X (.Compare a [.Eq] [b] pos) (sT (AD K false) ta tb) (eV (fM false) fa fb):=A0 (d▸FK (Qo hr)) (Da false) f e c
def PY{k:Nat}(hr:gB k X.A)(f:Pm K E X a ta fa)(e:Pm K E X b tb fb)(d:X.K=K:=by rfl)(c:behindInMarks .NotEq b=false:=by exact q0 _):Pm K E X (.Compare a [.NotEq] [b] pos) (sT (AD K true) ta tb) (eV (fM true) fa fb):=A0 (d▸Ha (Qo hr)) (Da true) f e c
def tK{k:Nat}(hr:gB k X.A)(f:Pm K E X a ta fa)(e:Pm K E X b tb fb)(d:X.K=K:=by rfl)(c:behindInMarks .Eq b=false:=by exact q0 _):Cv K E X (.Compare a [.Eq] [b] pos) (zl (sT (AD K false) ta tb)) (gd (eV (fM false) fa fb)):=gW (d▸FK (Qo hr)) (Da false) f e c
def rW{k:Nat}(hr:gB k X.A)(f:Pm K E X a ta fa)(e:Pm K E X b tb fb)(d:X.K=K:=by rfl)(c:behindInMarks .NotEq b=false:=by exact q0 _):Cv K E X (.Compare a [.NotEq] [b] pos) (zl (sT (AD K true) ta tb)) (gd (eV (fM true) fa fb)):=gW (d▸Ha (Qo hr)) (Da true) f e c
@[simp] noncomputable def qO(neg:Bool):T->T->M T:=λx y=>match y with
 |.non=>.ok (.bl (match x with|.non=>!neg|_=>neg))
 |_=>.bad
def Cw x y:M.NoE (qO neg x y):=λC n=>by cases y<;>exact λz=>nomatch z
def HB:MR K (λx y H Q=>y=.non/\Q (.bl (decide (x=.non))) H) (qO false):=⟨Cw,λF H v w x y Q s b a q=>by
 cases a with
 |non=>refine⟨rfl,?_⟩;cases b<;>exact kV.now q s (.bl _)
 |_=>exact q.elim⟩
def Cp:MR K (λx y H Q=>y=.non/\Q (.bl (!decide (x=.non))) H) (qO true):=⟨Cw,λF H v w x y Q s b a q=>by
 cases a with
 |non=>refine⟨rfl,?_⟩;cases b<;>exact kV.now q s (.bl _)
 |_=>exact q.elim⟩
noncomputable def jw:T->Bool
 |.non=>true
 |.bl _=>true
 |.int _=>true
 |.str _=>true
 |_=>false
noncomputable def sJ(x:T)(ts:List T):Bool:=ts.any λy=>DB y x
def i7.flat{F:Hp}{v:V}{x:T}(r:i7 K F v x)(h:jw x=true):j4 v=true:=by cases r<;>first|rfl|(simp[jw]at h;done)
theorem fE.flat{F:Hp}:∀{vs:List V} {a:List T},fE K F vs a->a.all jw=true->vs.all j4=true
 |_,_,.nil,_=>rfl
 |_,_,.cons h r,q=>by rw[bP,bN]at q ⊢;exact⟨h.flat q.1,fE.flat r q.2⟩
def PH{F:Hp}{v w:V}{x y:T}(r:i7 K F v x)(a:i7 K F w y)(h:jw x=true)(h':jw y=true):IW v w=DB x y:=by cases r<;>first|(exfalso;simp[jw]at h;done)|(cases a<;>first|(exfalso;simp[jw]at h';done)|rfl|simp[IW])
theorem GV{F:Hp}{v:V}{x:T}(r:i7 K F v x)(h:jw x=true):∀{vs:List V} {a:List T},fE K F vs a->a.all jw=true->Qv v vs=sJ x a
 |_,_,.nil,_=>rfl
 |_,_,.cons q rs,l=>by rw[bP,bN]at l;have b:=GV r h rs l.2;unfold Qv sJ at b ⊢;rw[bQ,bQ,b,PH q r l.1 h]
noncomputable def Eh(neg:Bool):T->T->M T:=λx y=>match y with
 |.lst ts=>if jw x&&ts.all jw then .ok (.bl (if neg then !sJ x ts else sJ x ts)) else .bad
 |.tup ts=>if jw x&&ts.all jw then .ok (.bl (if neg then !sJ x ts else sJ x ts)) else .bad
 |_=>.bad
def Jc x y:M.NoE (Eh neg x y):=λC n=>by unfold Eh;split<;>first|(intro z;cases z;done)|(split<;>intro z<;>cases z)
def Qf(neg:Bool):MR K (QD K neg) (Eh neg):=⟨Jc,λF H v w x y Q s e g q=>by
 cases g with
 |lst h r=>
  rename_i a f c;have d:(if jw x&&c.all jw then M.ok (T.bl (if neg then !sJ x c else sJ x c)) else M.bad).res (kV K F H Q) (λ_ _=>False):=q;by_cases b:(jw x&&c.all jw)=true
  .rw[aR b]at d;rw[bN]at b;exact⟨a,f,rfl,.inl (jQ.of (s _ _ h)),e.flat b.1,r.flat b.2,by rw[GV e b.1 r b.2];exact kV.now d s (.bl _)⟩
  .rw[aS b]at d;exact d.elim
 |tup h r=>
  rename_i a f c;have d:(if jw x&&c.all jw then M.ok (T.bl (if neg then !sJ x c else sJ x c)) else M.bad).res (kV K F H Q) (λ_ _=>False):=q;by_cases b:(jw x&&c.all jw)=true
  .rw[aR b]at d;rw[bN]at b;exact⟨a,f,rfl,.inr (kP.of (s _ _ h)),e.flat b.1,r.flat b.2,by rw[GV e b.1 r b.2];exact kV.now d s (.bl _)⟩
  .rw[aS b]at d;exact d.elim
 |_=>exact q.elim⟩
end
end L3
namespace L3
open PySem L2 PySem.Spec PyProof.Rows
section
variable {K:W.Frag}{E:XK}{X:Cx}{a b c e o tg it:Expr}{es:List Expr}{ta tb tc te to:TE}{fa fb fc fe fo:Pe->M T}{tr:TA}{fr:Pe->M (List T)}{pos p p2 apos:Pos}
def fN:BM K E X [] sH eP:=⟨pM,Bj⟩
def e6(d:Pm K E X e te fe)(hr:BM K E X es tr fr)(f:starEach (e::es) X.env=(false,eval e X.env)::starEach es X.env:=by rfl):BM K E X (e::es) (oA te tr) (eM fe fr):=⟨kj d.pe hr.pa f,Kx d.me hr.ma⟩
def Bb{x1}(h:BM K E X es tr fr):Pm K E X (.Tuple es x1 pos) (Nc tr) (nv fr):=⟨IP h.pa,Ng h.ma⟩
def E7(h:BM K E X es tr fr):EO K E X (.List es pos) (N7 tr) (lstM fr):=⟨Oh h.pa,Ox h.ma⟩
structure MC(K:W.Frag)(r:List V->Hp->VK->Prop)(o:List T->M T):Prop where
 ne:∀xs,M.NoE (o xs)
 ok:∀F H vs xs Q,fw F H->fE K F vs xs->(o xs).res (kV K F H Q) (λ_ _=>False)->r vs H Q
structure QN(K:W.Frag)(r:List V->Hp->VK->Prop)(o:List T->M (List T)):Prop where
 ne:∀xs,M.NoE (o xs)
 ok:∀F H vs xs Q,fw F H->fE K F vs xs->(o xs).res (kF K F H Q) (λ_ _=>False)->r vs H Q
@[simp] noncomputable def iN(o:List T->M T)(fr:Pe->M (List T)):Pe->M T:=λd=>(fr d).bind o
@[simp] noncomputable def Hq(o:List T->M (List T))(fr:Pe->M (List T)):Pe->M (List T):=λd=>(fr d).bind o
def L1{o:List T->M T}(f:MC K r o)(k:MA K E tr fr):ME K E (IU r tr) (iN o fr):=λF H t n Q s V q=>by refine k.run s V q λg i h m d j l=>?_;exact f.ok h m i g Q d.fh j ((l.ne (f.ne g)).mono (λ_ z=>z.go d) λ_ _ z=>z)
def Qc{o:List T->M (List T)}(f:QN K r o)(k:MA K E tr fr):MF K E (IU r tr) (Hq o fr):=λF H t n Q s V q=>by refine k.run s V q λg i h m d j l=>?_;exact f.ok h m i g Q d.fh j ((l.ne (f.ne g)).mono (λ_ z=>z.go d) λ_ _ z=>z)
section
variable {x:Str}{id T':String}{r:List V->Hp->VK->Prop}{m:List T->M T}{mf:List T->M (List T)}
def fv(n:jA X (.builtin id) r)(d:MC K r m)(q:Gl X x)(i:X.mg x=none)(j:bootBuiltins x=some (.builtin id))(h:BM K E X (e::es) tr fr)(l:x≠ "__name__" :=by decide)(f:(x==("__debug__" : Str))=false:=by decide)
  (k:starEach (e::es) X.env=(false,eval e X.env)::starEach es X.env:=by rfl) (g:(backTo pos (starEach es X.env)).any (·.1)=false:=by rfl):Pm K E X (.Call (.Name x p) (e::es) [] pos) (IU r tr) (iN m fr):=⟨za n q i j h.pa l f k g,L1 d h.ma⟩
def i5(n:jA X (.type T') r)(d:MC K r m)(q:Gl X x)(i:X.mg x=none)(j:bootBuiltins x=some (.type T'))(h:BM K E X (e::es) tr fr)(l:x≠ "__name__" :=by decide)(f:(x==("__debug__" : Str))=false:=by decide)
  (k:starEach (e::es) X.env=(false,eval e X.env)::starEach es X.env:=by rfl) (g:(backTo pos (starEach es X.env)).any (·.1)=false:=by rfl):Pm K E X (.Call (.Name x p) (e::es) [] pos) (IU r tr) (iN m fr):=⟨rB n q i j h.pa l f k g,L1 d h.ma⟩
def mP(n:jA X (.type T') r)(d:QN K r mf)(q:Gl X x)(i:X.mg x=none)(j:bootBuiltins x=some (.type T'))(h:BM K E X (e::es) tr fr)(l:x≠ "__name__" :=by decide)(f:(x==("__debug__" : Str))=false:=by decide)
  (k:starEach (e::es) X.env=(false,eval e X.env)::starEach es X.env:=by rfl) (g:(backTo pos (starEach es X.env)).any (·.1)=false:=by rfl):EO K E X (.Call (.Name x p) (e::es) [] pos) (IU r tr) (Hq mf fr):=⟨rB n q i j h.pa l f k g,Qc d h.ma⟩
end
@[simp] noncomputable def gZ:List T->M T
 |[.lst ts]=>.ok (.int ts.length)
 |[.tup ts]=>.ok (.int ts.length)
 |[.scr ns]=>.ok (.int ns.length)
 |[.str z]=>if z.length<=sizeLine then .ok (.int z.length) else .bad
 |_=>.bad
def JU xs:M.NoE (gZ xs):=λC n=>by unfold gZ;split<;>first|(intro z;cases z;done)|(split<;>first|(intro z;cases z;done)|(split<;>intro z<;>cases z))
def ij:MC K (λg H Q=>∃x n,g=[x]/\Ni K x H n/\Q (.int n) H) gZ:=⟨JU,λF H i g Q s r q=>by
 cases r with
 |nil=>exact q.elim
 |cons h t=>
  cases t with
  |cons _ _=>cases h<;>exact q.elim
  |nil=>
   cases h with
   |lst h r=>exact⟨_,_,rfl,.inl ⟨_,jQ.of (s _ _ h),rfl⟩,by rw[r.length];exact kV.now q s (.int _)⟩
   |tup h r=>exact⟨_,_,rfl,.inr ⟨_,kP.of (s _ _ h),rfl⟩,by rw[r.length];exact kV.now q s (.int _)⟩
   |scr h=>exact⟨_,_,rfl,.inl ⟨_,s.seq h,rfl⟩,by rw[ay];exact kV.now q s (.int _)⟩
   |str z=>
    have d:(if z.length<=sizeLine then M.ok (T.int z.length) else M.bad).res (kV K F H Q) (λ_ _=>False):=q;by_cases f:z.length<=sizeLine
    .rw[aR f]at d;exact⟨_,z.length,rfl,⟨f,rfl⟩,kV.now d s (.int _)⟩
    .rw[aS f]at d;exact d.elim
   |_=>exact q.elim⟩
@[simp] noncomputable def BS:List T->M T
 |[.int i]=>.ok (.int (if i<0 then -i else i))
 |_=>.bad
def J4 xs:M.NoE (BS xs):=λC n=>by unfold BS;split<;>first|(intro z;cases z;done)|(split<;>first|(intro z;cases z;done)|(split<;>intro z<;>cases z))
def yC:MC K (λd H Q=>∃i,d=[.int i]/\Q (.int (if i<0 then -i else i)) H) BS:=⟨J4,λF H f d Q s r q=>by
 cases r with
 |nil=>exact q.elim
 |cons h t=>
  cases t with
  |cons _ _=>cases h<;>exact q.elim
  |nil=>
   cases h with
   |int i=>exact⟨i,rfl,kV.now q s (.int _)⟩
   |_=>exact q.elim⟩
@[simp] noncomputable def zf:List T->M T
 |[.int i,.int j]=>.ok (.int (if j>i then j else i))
 |_=>.bad
def EY xs:M.NoE (zf xs):=λC n=>by unfold zf;split<;>first|(intro z;cases z;done)|(split<;>first|(intro z;cases z;done)|(split<;>intro z<;>cases z))
def KG:MC K (λd H Q=>∃i j,d=[.int i,.int j]/\Q (.int (if j>i then j else i)) H) zf:=⟨EY,λF H f d Q s r q=>by
 unfold zf at q;split at q
 .exact⟨_,_,r.two,kV.now q s (.int _)⟩
 .exact q.elim⟩
@[simp] noncomputable def i8:List T->M T
 |[.lst ts]=>.ok (.tup ts)
 |[.tup ts]=>.ok (.tup ts)
 |[.scr ns]=>.ok (.tup (ns.map T.int))
 |_=>.bad
def A6 xs:M.NoE (i8 xs):=λC n=>by unfold i8;split<;>first|(intro z;cases z;done)|(split<;>first|(intro z;cases z;done)|(split<;>intro z<;>cases z))
def jl:MC K (λg H Q=>∃p f,g=[.ref p]/\((jQ K H p f/\∀l,H l=none->Q (.ref l) (gy H l (.tup f)))\/(kP K H p f/\Q (.ref p) H))) i8:=⟨A6,λF H i g Q s r q=>by
 cases r with
 |nil=>exact q.elim
 |cons h t=>
  cases t with
  |cons _ _=>cases h<;>exact q.elim
  |nil=>
   cases h with
   |lst h r=>exact⟨_,_,rfl,.inl ⟨jQ.of (s _ _ h),λl d=>q (.ref l) _ _ (.new s d) (.tup eW (r.mono (Gr.new s d).ff))⟩⟩
   |scr h=>exact⟨_,_,rfl,.inl ⟨s.seq h,λl d=>q (.ref l) _ _ (.new s d) (.tup eW (fE.of_ints _))⟩⟩
   |tup h r=>exact⟨_,_,rfl,.inr ⟨kP.of (s _ _ h),kV.now q s (.tup h r)⟩⟩
   |_=>exact q.elim⟩
@[simp] noncomputable def ml:List T->M (List T)
 |[.lst ts]=>.ok ts
 |[.tup ts]=>.ok ts
 |[.scr ns]=>.ok (ns.map T.int)
 |_=>.bad
def Eu xs:M.NoE (ml xs):=λC n=>by unfold ml;split<;>first|(intro z;cases z;done)|(split<;>first|(intro z;cases z;done)|(split<;>intro z<;>cases z))
def n9:QN K (λxs H Q=>∃p ys,xs=[.ref p]/\(jQ K H p ys\/kP K H p ys)/\∀l,H l=none->Q (.ref l) (gy H l (.lst ys))) ml:=⟨Eu,λF H vs xs Q s r q=>by
 cases r with
 |nil=>exact q.elim
 |cons h t=>
  cases t with
  |cons _ _=>cases h<;>exact q.elim
  |nil=>
   cases h with
   |lst h r=>exact⟨_,_,rfl,.inl (jQ.of (s _ _ h)),λl hl=>q l _ F _ (.new' s hl) hl (fG s hl) eW r⟩
   |scr h=>exact⟨_,_,rfl,.inl (s.seq h),λl hl=>q l _ F _ (.new' s hl) hl (fG s hl) eW (fE.of_ints _)⟩
   |tup h r=>exact⟨_,_,rfl,.inr (kP.of (s _ _ h)),λl hl=>q l _ F _ (.new' s hl) hl (fG s hl) eW r⟩
   |_=>exact q.elim⟩
def ke:List T->Option (LI)
 |[]=>some []
 |.int i::ts=>(ke ts).bind λr=>some (i::r)
 |_::_=>none
theorem uu:∀{ts} {ns},ke ts=some ns->ts=ns.map T.int
 |[],_,e=>by cases e;rfl
 |t::ts,ns,e=>by
  cases t with
  |int i=>
   cases q:ke ts with
   |none=>simp[ke,q]at e
   |some r=>simp[ke,q]at e;subst e;rw[uu q];rfl
  |_=>cases e
@[simp] theorem OI ns:ke (ns.map T.int)=some ns:=by
 induction ns with
 |nil=>rfl
 |cons n ns ih=>simp[ke,ih]
def pA:List T->Option (List Bool)
 |[]=>some []
 |.bl i::ts=>(pA ts).bind λr=>some (i::r)
 |_::_=>none
theorem vR:∀{ts} {ns},pA ts=some ns->ts=ns.map T.bl
 |[],_,e=>by cases e;rfl
 |t::ts,ns,e=>by
  cases t with
  |bl i=>
   cases q:pA ts with
   |none=>simp[pA,q]at e
   |some r=>simp[pA,q]at e;subst e;rw[vR q];rfl
  |_=>cases e
@[simp] theorem PM ns:pA (ns.map T.bl)=some ns:=by
 induction ns with
 |nil=>rfl
 |cons n ns ih=>simp[pA,ih]
@[simp] noncomputable def AG:List T->M T
 |[.lst ts]=>match ke ts with
  |some ns=>.ok (.int ns.sum)
  |none=>.bad
 |_=>.bad
def KD xs:M.NoE (AG xs):=λC n=>by unfold AG;split<;>first|(intro z;cases z;done)|(split<;>first|(intro z;cases z;done)|(split<;>intro z<;>cases z))
def AW:MC K (λg H Q=>∃(p:Addr) (d:LI),g=[.ref p]/\jQ K H p (d.map V.int)/\Q (.int d.sum) H) AG:=⟨KD,λF H j g Q s r q=>by
 cases r with
 |nil=>exact q.elim
 |cons h t=>
  cases t with
  |cons _ _=>cases h<;>exact q.elim
  |nil=>
   cases h with
   |lst h r=>
    rename_i a g i;have f:(match ke i with|some d=>M.ok (T.int d.sum)|none=>M.bad).res (kV K F H Q) (λ_ _=>False):=q;cases e:ke i with
    |none=>rw[e]at f;exact f.elim
    |some d=>rw[e]at f;rw[uu e]at r;have:=r.ints;subst this;exact⟨a,d,rfl,jQ.of (s _ _ h),kV.now f s (.int _)⟩
   |_=>exact q.elim⟩
@[simp] noncomputable def yQ:List T->M T
 |[.lst ts]=>match pA ts with
  |some ns=>.ok (.bl (ns.all id))
  |none=>.bad
 |_=>.bad
def Jx xs:M.NoE (yQ xs):=λC n=>by unfold yQ;split<;>first|(intro z;cases z;done)|(split<;>first|(intro z;cases z;done)|(split<;>intro z<;>cases z))
def xt:MC K (λf H Q=>∃(p:Addr) (bs:List Bool),f=[.ref p]/\jQ K H p (bs.map V.bl)/\Q (.bl (bs.all id)) H) yQ:=⟨Jx,λF H i f Q s r q=>by
 cases r with
 |nil=>exact q.elim
 |cons h t=>
  cases t with
  |cons _ _=>cases h<;>exact q.elim
  |nil=>
   cases h with
   |lst h r=>
    rename_i a f g;have d:(match pA g with|some ns=>M.ok (T.bl (ns.all id))|none=>M.bad).res (kV K F H Q) (λ_ _=>False):=q;cases e:pA g with
    |none=>rw[e]at d;exact d.elim
    |some ns=>rw[e]at d;rw[vR e]at r;have:=r.bls;subst this;exact⟨a,ns,rfl,jQ.of (s _ _ h),kV.now d s (.bl _)⟩
   |_=>exact q.elim⟩
@[simp] noncomputable def OG:T->String
 |.non=> "NoneType"
 |.bl _=> "bool"
 |.int _=> "int"
 |.str _=> "str"
 |.tup _=> "tuple"
 |.lst _=> "list"
 |.scr _=> "script"
 |.obj _ _=> "object"
 |.emp=> "dict"
 |.dic _=> "table"
@[simp] noncomputable def M5(n:String)(x:T):M T:=match x with
 |.scr _=>.bad
 |.obj _ _=>.bad
 |.dic _=>.bad
 |x=>.ok (.bl (OG x==n||(n == "int" && OG x == "bool")))
def OZ(r:i7 K F v x)(s:fw F H)(g:∀f,x≠.scr f)(d:∀C fs,x≠.obj C fs)(j:∀ks,x≠.dic ks):nU K H v (.type (OG x)):=by
 cases r with
 |non=>exact .non
 |bl b=>exact .bl b
 |int i=>exact .int i
 |str x=>exact .str x
 |tup h r=>exact .tup (s _ _ h)
 |lst h r=>exact .lst (s _ _ h)
 |scr h=>exact absurd rfl (g _)
 |obj h r=>exact absurd rfl (d _ _)
 |emp h=>exact .dK (s _ _ h)
 |dic h r=>exact absurd rfl (j _)
@[simp] noncomputable def xu(n:String)(fe:Pe->M T):Pe->M T:=λd=>(fe d).bind λx=>M5 n x
theorem Mn(y:∀t∈["NoneType", "bool", "int", "str", "tuple", "list", "dict"],W.kitOne K (.type t) (.type n)=some (t==n||(n == "int" && t == "bool")))(A:ME K E te fe) :
  ME K E (IU (λB H Q=>∃x T t b,B=[x,.ty T]/\nU K H x t/\W.kitOne K t (.type T)=some b/\Q (.bl b) H) (oA te (oA (tC (.ty n)) sH))) (xu n fe):=λF H J I Q s V q=>by
 refine A.run s V q λx v u j k w g=>?_;have d:∀b,M5 n x=.ok (.bl b)->(∀h,x≠.scr h)->(∀C fs,x≠.obj C fs)->(∀i,x≠.dic i)->b=(OG x==n||(n == "int" && OG x == "bool"))->∃f T t b,[v,L2.V.ty n]=[f,.ty T]/\nU K j f t/\W.kitOne K t (.type T)=some b/\Q (.bl b) j:=by
  intro b e l m r D;rw[e]at g;refine⟨v,n,_,b,rfl,OZ w k.fh l m r,?_,g _ u j k (.bl _)⟩;rw[D];refine y _ ?_;cases x with
  |scr h=>exact absurd rfl (l h)
  |obj C fs=>exact absurd rfl (m C fs)
  |dic i=>exact absurd rfl (r i)
  |_=>simp[OG]
 cases x with
 |scr h=>exact g.elim
 |obj C fs=>exact g.elim
 |dic i=>exact g.elim
 |non=>exact d _ rfl (λ_ z=>nomatch z) (λ_ _ z=>nomatch z) (λ_ z=>nomatch z) rfl
 |bl _=>exact d _ rfl (λ_ z=>nomatch z) (λ_ _ z=>nomatch z) (λ_ z=>nomatch z) rfl
 |int _=>exact d _ rfl (λ_ z=>nomatch z) (λ_ _ z=>nomatch z) (λ_ z=>nomatch z) rfl
 |str _=>exact d _ rfl (λ_ z=>nomatch z) (λ_ _ z=>nomatch z) (λ_ z=>nomatch z) rfl
 |tup _=>exact d _ rfl (λ_ z=>nomatch z) (λ_ _ z=>nomatch z) (λ_ z=>nomatch z) rfl
 |lst _=>exact d _ rfl (λ_ z=>nomatch z) (λ_ _ z=>nomatch z) (λ_ z=>nomatch z) rfl
 |emp=>exact d _ rfl (λ_ z=>nomatch z) (λ_ _ z=>nomatch z) (λ_ z=>nomatch z) rfl
def Kn K:∀n∈["int", "bool", "str", "tuple", "list"],∀t∈["NoneType", "bool", "int", "str", "tuple", "list", "dict"],W.kitOne K (.type t) (.type n)=some (t==n||(n == "int" && t == "bool")):=by intro n d t f;simp only[aG,c5,or_false]at d f;rcases d with rfl|rfl|rfl|rfl|rfl<;>rcases f with rfl|rfl|rfl|rfl|rfl|rfl|rfl<;>rfl
def oB n (k:n∈["int", "bool", "str", "tuple", "list"]) (d:X.mg "isinstance" = none) (l:X.mg x=none) (q:bootBuiltins x=some (.type n)) (s:Pm K E X e te fe) (u:X.K=K:=by rfl) (f:Gl X "isinstance" :=by rfl) (h:Gl X x:=by rfl)
  (j:x≠ "__name__" :=by decide) (m:(x==("__debug__" : Str))=false:=by decide)
  (r:starEach [e,.Name x p3] X.env=(false,eval e X.env)::starEach [.Name x p3] X.env:=by rfl) (i:starEach [.Name x p3] X.env=(false,eval (.Name x p3) X.env)::starEach [] X.env:=by rfl) (g:(backTo pos (starEach [.Name x p3] X.env)).any (·.1)=false:=by rfl) :
  Pm K E X (.Call (.Name "isinstance" p) [e,.Name x p3] [] pos) (IU (λv H Q=>∃x T t b,v=[x,.ty T]/\nU K H x t/\W.kitOne K t (.type T)=some b/\Q (.bl b) H) (oA te (oA (tC (.ty n)) sH))) (xu n fe):=by
 subst u;exact⟨za Hj f d MH (kj s.pe (kj (JL h l q rfl j m) pM i) r) (by decide) (by decide) r g,Mn (Kn X.K n k) s.me⟩
@[simp] noncomputable def gN:T->T->M T
 |.lst ts,.int i=>match pW ts i with
  |some t=>.ok t
  |none=>.bad
 |.tup ts,.int i=>match pW ts i with
  |some t=>.ok t
  |none=>.bad
 |.scr ns,.int i=>match pW ns i with
  |some t=>.ok (.int t)
  |none=>.bad
 |.str z,.int i=>if z.length<=sizeLine then (match pW z.cps.toList i with
  |some c=>.ok (.str ⟨#[c]⟩)
  |none=>.bad) else .bad
 |_,_=>.bad
def Co(r:fE K F vs ts)(h:pW ts i=some t):∃v,pW vs i=some v/\i7 K F v t:=by
 unfold pW at h ⊢;rw[r.length];cases e:xF ts.length i with
 |none=>rw[e]at h;cases h
 |some j=>rw[e]at h;exact r.get h
def ny(f:α->β) l i:pW (l.map f) i=(pW l i).map f:=by
 unfold pW;rw[ay];cases xF l.length i with
 |none=>rfl
 |some j=>simp
def MK x y:M.NoE (gN x y):=λC n=>by unfold gN;split<;>first|(intro z;cases z;done)|(split<;>first|(intro z;cases z;done)|(split<;>intro z<;>cases z))
def P5:MR K (QL K) gN:=⟨MK,λF H v w x y Q s d f q=>by
 unfold gN at q;split at q
 .rename_i l i;rw[f.int_inv];obtain⟨a,k,rfl,h,r⟩:=d.lst_inv;split at q
  .rename_i t e;obtain⟨v,j,g⟩:=Co r e;exact .inl ⟨a,k,i,v,rfl,rfl,jQ.of (s _ _ h),j,kV.now q s g⟩
  .exact q.elim
 .rename_i l i;rw[f.int_inv];obtain⟨a,k,rfl,h,r⟩:=d.tup_inv;split at q
  .rename_i t e;obtain⟨v,j,g⟩:=Co r e;exact .inr (.inl ⟨a,k,i,v,rfl,rfl,kP.of (s _ _ h),j,kV.now q s g⟩)
  .exact q.elim
 .rename_i n i;rw[f.int_inv];cases d with
  |scr h=>
   split at q
   .rename_i t e;exact .inl ⟨_,_,i,.int t,rfl,rfl,s.seq h,by rw[ny,e];rfl,kV.now q s (.int _)⟩
   .exact q.elim
 .rename_i z i;rw[f.int_inv];cases d with
  |str z=>
   split at q
   .rename_i m;split at q
    .rename_i c e;exact .inr (.inr ⟨z,i,c,rfl,rfl,m,e,kV.now q s (.str _)⟩)
    .exact q.elim
   .exact q.elim
 .exact q.elim⟩
def IJ(f:Pm K E X a ta fa)(d:Pm K E X b tb fb)(h:B0 b:=by intro _ _;rfl)(g:X.K=K:=by rfl):Pm K E X (.Subscript a b pos) (sT (QL K) ta tb) (eV gN fa fb):=⟨Gb (g▸ML) f.pe d.pe h,C1 P5 f.me d.me⟩
def Ih:Qk K E X none Cc (λ_=>.ok none):=⟨Kp,λF H d f Q s V q=>q F H (.refl s)⟩
@[simp] noncomputable def iU(fe:Pe->M T):Pe->M (Option Int):=λd=>(fe d).bind λx=>match x with
 |.int i=>.ok (some i)
 |_=>.bad
def FW(h:Pm K E X e te fe):Qk K E X (some e) (LH te) (iU fe):=⟨JM h.pe,λF H l m Q s V q=>by
 refine h.me.run s V q λx v f k g j d=>?_;cases j with
 |int i=>exact⟨i,rfl,d f k g⟩
 |_=>exact d.elim⟩
noncomputable def n6{α:Type}(xs:List α)(lo hi:Option Int):List α:=(xs.drop (HT.sIx xs.length 0 lo)).take (HT.sIx xs.length xs.length hi-HT.sIx xs.length 0 lo)
def N9 xs lo hi:IF xs lo hi=n6 xs lo hi:=rfl
def fE.cut(r:fE K F vs ts) lo hi:fE K F (n6 vs lo hi) (n6 ts lo hi):=by unfold n6;rw[r.length];exact (r.drop _).take _
def Gw(f:α->β) l lo hi:n6 (l.map f) lo hi=(n6 l lo hi).map f:=by unfold n6;rw[ay,c6,c7]
section
variable {lo hi:Option Expr}{tl th:TO}{fl fh:Pe->M (Option Int)}
def MO.run{k:Option Int->M α}{P:α->Prop}(h:MO K E t f)(s:fw F H)(v:jL K F σ ρ)(r:((f ρ).bind k).res P (kE E F H))
  (j:∀x i d,Gr F H i d->(k x).res P (kE E i d)->Q x d):t σ H Q:=
 h F H σ ρ Q s v ((M.res.unb r).mono (λx q i d g=>j x i d g (q.mono (λ_ z=>z) λ_ _ z=>z.go g)) λ_ _ z=>z)
@[simp] noncomputable def kM(fe:Pe->M T)(fl fh:Pe->M (Option Int)):Pe->M T:=λd=>(fe d).bind λx=>(fl d).bind λl=>(fh d).bind λh=>match x with
 |.tup ts=>.ok (.tup (n6 ts l h))
 |.lst ts=>.ok (.lst (n6 ts l h))
 |.scr ns=>.ok (.lst ((n6 ns l h).map T.int))
 |_=>.bad
def zP(w:Pm K E X e te fe)(A:Qk K E X lo tl fl)(t:Qk K E X hi th fh)(J:X.K=K:=by rfl):Pm K E X (.Subscript e (.Slice lo hi none p2) pos) (Rk (λx lo hi H Q=>Qb K x lo hi H Q\/(OS K x lo hi H Q\/Pu K x lo hi H Q)) te tl th) (kM fe fl fh):=by
 subst J;refine⟨Gx (JO.or (NG.or Ji)) w.pe A.po t.po,λF H U P Q s V q=>?_⟩;refine w.me.run s V q λx v N Z j D L=>?_;refine A.mo.run j.fh (V.mono j.ff) L λl S R k I=>?_;refine t.mo.run k.fh ((V.mono j.ff).mono k.ff) I λu z y d m=>?_;have g:=(j.trans k).trans d;have B:=D.mono (k.ff.trans d.ff);cases B with
 |lst h r=>exact .inl ⟨_,_,rfl,jQ.of (d.fh _ _ h),λp f=>m (.ref p) _ _ (g.trans (.new d.fh f)) (.lst eW ((r.cut l u).mono (Gr.new d.fh f).ff))⟩
 |scr h=>exact .inl ⟨_,_,rfl,d.fh.seq h,λp f=>m (.ref p) _ _ (g.trans (.new d.fh f)) (.lst eW (by rw[N9,Gw];exact fE.of_ints _))⟩
 |tup h r=>
  rename_i a Y i;have n:(M.ok (T.tup (n6 i l u))).res (kV X.K F H Q) (kE E z y):=m;by_cases hw:HT.sIx i.length 0 l=0/\HT.sIx i.length i.length u=i.length
  .have C:n6 i l u=i:=by unfold n6;rw[hw.1,hw.2];simp
   rw[C]at n;exact .inr (.inr ⟨_,_,rfl,kP.of (d.fh _ _ h),by rw[r.length];exact hw,n _ z y g (.tup h r)⟩)
  .exact .inr (.inl ⟨_,_,rfl,kP.of (d.fh _ _ h),by rw[r.length];exact hw,λp f=>n (.ref p) _ _ (g.trans (.new d.fh f)) (.tup eW ((r.cut l u).mono (Gr.new d.fh f).ff))⟩)
 |_=>exact m.elim
end
section
variable {x:Str}{k:Nat}{Fn:List T->M T}{Ff:List T->M (List T)}
def jZ(h:jK X.prog X.w X.K X.mg X.base x j (wA K Fn))(hr:gB k X.A)(g:BM K E X (e::es) tr fr)(i:j<=k:=by decide)(m:Gl X x:=by rfl)
  (d:(x==("__debug__" : Str))=false:=by decide) (l:starEach (e::es) X.env=(false,eval e X.env)::starEach es X.env:=by rfl) (f:(backTo pos (starEach es X.env)).any (·.1)=false:=by rfl) :
  Pm K E X (.Call (.Name x p) (e::es) [] pos) (wt (wA K Fn) [] E0 tr) (eY fr Fn):=⟨zv (h.mono i) hr g.pa m d l f,HH g.ma⟩
def Ce(h:jK X.prog X.w X.K X.mg X.base x j (Ao K Ff))(hr:gB k X.A)(g:BM K E X (e::es) tr fr)(i:j<=k:=by decide)(m:Gl X x:=by rfl)
  (d:(x==("__debug__" : Str))=false:=by decide) (l:starEach (e::es) X.env=(false,eval e X.env)::starEach es X.env:=by rfl) (f:(backTo pos (starEach es X.env)).any (·.1)=false:=by rfl) :
  EO K E X (.Call (.Name x p) (e::es) [] pos) (wt (Ao K Ff) [] E0 tr) (iq fr Ff):=⟨zv (h.mono i) hr g.pa m d l f,Iv g.ma⟩
end
def Pf(K:W.Frag)(t:TE):TI:=λd H R=>zq K t d H R\/NP K t d H R
@[simp] noncomputable def gR(fa:Pe->M T):Pe->M (List T):=λd=>(fa d).bind λx=>match x with
 |.lst ts=>.ok ts
 |.scr ns=>.ok (ns.map T.int)
 |.tup ts=>.ok ts
 |_=>.bad
def NS(g:ME K E ta fa):MI K E (Pf K ta) (gR fa):=λF H f d R s V q=>by
 unfold gR at q;cases e:fa d with
 |bad=>rw[e]at q;exact q.elim
 |er C n=>rw[e]at q;exact .inl (xW g F H f d R s V (by unfold Qr;rw[e];exact q))
 |ok x=>
  rw[e]at q;cases x with
  |lst ts=>exact .inl (xW g F H f d R s V (by unfold Qr;rw[e];exact q))
  |scr ns=>exact .inl (xW g F H f d R s V (by unfold Qr;rw[e];exact q))
  |tup ts=>exact .inr (On g F H f d R s V (by unfold Rb;rw[e];exact q))
  |_=>exact q.elim
def gJ(d:Pm K E X a ta fa)(i:X.K=K:=by rfl):Gz K E X tg a (Pf K ta) (gR fa):=by
 subst i;refine⟨λf s g H R I h=>?_,NS d.me⟩;rcases h with h|h
 .exact yg d.pe f s g H R I h
 .exact NQ d.pe f s g H R I h
def LP(K:W.Frag)(ta:TA):TI:=λd H R=>∃f g,Nm K f g ta d H R
@[simp] noncomputable def seqT:T->M (List T)
 |.lst ts=>.ok ts
 |.scr ns=>.ok (ns.map T.int)
 |.tup ts=>.ok ts
 |_=>.bad
@[simp] noncomputable def lu(fa:Pe->M (List T)):Pe->M (List T):=λg=>(fa g).bind λf=>match f with
 |[x,y]=>(seqT x).bind λd=>(seqT y).bind λh=>.ok (pX d h)
 |_=>.bad
noncomputable def qE:T->Bool
 |.tup _=>true
 |_=>false
def Ba x:seqT x=seqB (qE x) x:=by cases x<;>rfl
def Jn(h:MA K E tr fr):MI K E (LP K tr) (lu fr):=λF H f d R s V q=>by
 unfold lu at q;cases e:fr d with
 |bad=>rw[e]at q;exact q.elim
 |er C n=>rw[e]at q;exact⟨true,true,Gk h F H f d R s V (by unfold NK;rw[e];exact q)⟩
 |ok xs=>
  rw[e]at q;match xs,e,q with
  |[],_,q=>exact q.elim
  |[_],_,q=>exact q.elim
  |[x,y],e,q=>refine⟨qE x,qE y,Gk h F H f d R s V ?_⟩;unfold NK;rw[e];have g:((seqT x).bind λi=>(seqT y).bind λj=>M.ok (pX i j)).res (kI K F H R) (kE E F H):=q;rw[Ba x,Ba y]at g;exact g
  |_::_::_::_,_,q=>exact q.elim
def nj{x1}(g:X.mg "zip" = none)(f:BM K E X [a,b] tr fr)(j:X.K=K:=by rfl)(m:Gl X "zip" :=by rfl)(k:starEach [a,b] X.env=[(false,eval a X.env),(false,eval b X.env)]:=by rfl)
  (d:starEach [b] X.env=[(false,eval b X.env)]:=by rfl):Gz K E X (.Tuple elts x1 tpos) (.Call (.Name "zip" p) [a,b] [] pos) (LP K tr) (lu fr):=by
 subst j;refine⟨λi s l H R I h=>?_,Jn f.ma⟩;obtain⟨n,q,h⟩:=h;exact Mq m g f.pa k d i s l H R I h
def jq(g:X.mg "range" = none)(d:BM K E X [a] tr fr)(h:Gl X "range" :=by rfl)(f:starEach [a] X.env=[(false,eval a X.env)]:=by rfl):qo K E X tg (.Call (.Name "range" p) [a] [] pos) (HP tr) (ig fr):=⟨EE h g d.pa f,Jz d.ma⟩
def Kj(g:X.mg "range" = none)(f:BM K E X [a,b] tr fr)(i:Gl X "range" :=by rfl)(h:starEach [a,b] X.env=[(false,eval a X.env),(false,eval b X.env)]:=by rfl)(d:starEach [b] X.env=[(false,eval b X.env)]:=by rfl) :
  qo K E X tg (.Call (.Name "range" p) [a,b] [] pos) (H9 tr) (Hw fr):=⟨Ed i g f.pa h d,Ja f.ma⟩
def qo.pim(h:qo K E X tg it w f):Gz K E X tg it w f:=⟨h.pi,h.mi.mi⟩
section
variable {x:Str}{g:TG}{gs:IS}{m:T->Pe->Option Pe}{ms:List T->Pe->Option Pe}{mo:T->En->Option En}{mos:List T->En->Option En}{n:Nat}
def gK i (f:X.N.Nodup) (j:DI X.env.scope x:=by first|exact Or.inl rfl|exact Or.inr rfl) (d:X.N[i]? = some x:=by rfl) (h:X.fn x=true\/X.env.scope.names.lookup x=some .local:=by first|exact .inl rfl|exact .inr rfl|assumption):OP K X (.Name x pos) (iw i) (iM i):=⟨sZ f d j h,KP⟩
def iB i (f:X.N.Nodup) (j:DI X.env.scope x:=by first|exact Or.inl rfl|exact Or.inr rfl) (d:X.N[i]? = some x:=by rfl) (h:X.fn x=true\/X.env.scope.names.lookup x=some .local:=by first|exact .inl rfl|exact .inr rfl|assumption):Oz K X (.Name x pos) (iw i) (ko i):=⟨sZ f d j h,HY⟩
def kn:Li K X [] DK nI:=⟨B7,KL⟩
def qL:JK K X [] DK mW:=⟨B7,Hf⟩
def gx(d:OP K X e g m)(f:Li K X es gs ms)(h:(assignEach (e::es) X.env).map (·.2)=assign e X.env::(assignEach es X.env).map (·.2):=by rfl):Li K X (e::es) (t6 g gs) (gI m ms):=⟨yU d.pg f.pg h,Gq d.mg f.mg⟩
def jO(d:Oz K X e g mo)(f:JK K X es gs mos)(h:(assignEach (e::es) X.env).map (·.2)=assign e X.env::(assignEach es X.env).map (·.2):=by rfl):JK K X (e::es) (t6 g gs) (gU mo mos):=⟨yU d.pg f.pg h,DO d.mg f.mg⟩
def oz n (j:X.calm=true) (h:Li K X es gs ms) (f:X.K=K:=by rfl) (i:(assignEach es X.env).length=n:=by rfl) (d:(assignEach es X.env).findIdx? (·.1)=none:=by rfl):OP K X (.Tuple es k pos) (Ez K n gs) (nG n ms):=by subst f;exact⟨Gs j h.pg i d,Ol h.mg⟩
def xN n (j:X.calm=true) (h:JK K X es gs mos) (f:X.K=K:=by rfl) (i:(assignEach es X.env).length=n:=by rfl) (d:(assignEach es X.env).findIdx? (·.1)=none:=by rfl):Oz K X (.Tuple es k pos) (Ez K n gs) (m3 n mos):=by subst f;exact⟨Gs j h.pg i d,Jg h.mg⟩
end
section
variable {elt iter:Expr}{ifs:List Expr}{scope:Scope}{N:List Str}{ix:List (Option Nat)}{wi:TI}{g:TG}{tt:TT}{fi:Pe->M (List T)}{m:T->Pe->Option Pe}{ft:Pe->M Bool}
def f6:EZ K E X [] NH (λ_=>.ok true):=⟨KJ,Mh⟩
def lI(h:Cv K E X c t f):EZ K E X [c] t f:=⟨Jp h.pt,h.mt⟩
@[simp] noncomputable def i9(ix:List (Option Nat))(fi:Pe->M (List T))(m:T->Pe->Option Pe)(ft:Pe->M Bool)(fe:Pe->M T):Pe->M (List T):=λf=>(fi f).bind λd=>(if d.length<sizeLine then oy (qw m ft fe (l0 ix f)) d else .bad).noEr
def Pk(r:X.calm=true)(k:Gz K E X tg iter wi fi)(L:zu X scope N ix)(j:m8 ix g)
  (f:∀C d H i h,OP K (lg X N scope C d H i h) tg g m/\EZ K IX (lg X N scope C d H i h) ifs tt ft/\Pm K IX (lg X N scope C d H i h) elt te fe)
  (l:∀x,foldedSetIterable iter X.env x=pure x:=by intro _;rfl):EO K E X (.ListComp elt [⟨tg,iter,ifs,0⟩] scope pos) (IE ix wi g tt te) (i9 ix fi m ft fe):=by
 obtain⟨n,s,q⟩:=f 0 X.s₀ X.H₀ [] [];exact⟨PN r k.pi L j (λC d H i h=>⟨(f C d H i h).1.pg,(f C d H i h).2.1.pf,(f C d H i h).2.2.pe⟩) l,LQ k.mi n.mg s.mt q.me⟩
end
end
end L3
namespace L3
open PySem L2 PySem.Spec PyProof.Rows
section
variable {K:W.Frag}{E:XK}{X:Cx}{a b c e o tg it:Expr}{es:List Expr}{ta tb tc te to:TE}{fa fb fc fe fo:Pe->M T}{tr:TA}{fr:Pe->M (List T)}{pos pos' p p2 apos:Pos}{st:Stmt}{kQ:List Stmt}{t u:TS}{g g':En->O}{ff:Pe->M (List T)}{x:Str}
def fT:nM K E X [] BV f7:=⟨C6,J0⟩
def fj(h:uR K E X st t g):nM K E X [st] t g:=⟨oO h.ps,h.ms⟩
def eQ(h:uR K E X st t g)(h':nM K E X kQ u g'):nM K E X (st::kQ) (AK t u) (fq g g'):=⟨nW h.ps h'.ps,NT h.ms h'.ms⟩
def Ct:uR K E X st AL (λ_=>.bad):=⟨Gj,Hy⟩
def iy(h:Pm K E X e te fe):uR K E X (.Return (some e) pos) (Ad te) (gA fe):=⟨xS h.pe,N5 h.me⟩
def uf(h:EO K E X e te ff):uR K E X (.Return (some e) pos) (Ad te) (uB ff):=⟨xS h.pe,Ka h.mf⟩
def uz i (h:PE X (.Name x p) (j7 i)):uR K E X (.Return (some (.Name x p)) pos) (Ad (j7 i)) (oJ i):=⟨xS h,EA⟩
def g9{tc:TT}{fc:Pe->M Bool}(d:Cv K E X c tc fc)(h:nM K E X A t g)(h':nM K E X B u g'):uR K E X (.If c A B pos) (K9 tc t u) (lJ fc g g'):=⟨LV d.pt h.ps h'.ps,P6 d.mt h.ms h'.ms⟩
def Ie{tc:TT}{fc:Pe->M Bool}(d:En->Nat)(i:PassesOwn (model X.prog X.w) X.A X.env X.xe)(f:Cv K E X c tc fc)(h:nM K E X A t g):uR K E X (.While c A [] pos) (AH tc t) (λρ=>kG fc g (d ρ) ρ):=⟨HQ i f.pt h.ps,Ik d f.mt h.ms⟩
section
variable {w:TI}{fi:Pe->M (List T)}{gt:TG}{m:T->En->Option En}{A:List Stmt}
def l4(i:PassesOwn (model X.prog X.w) X.A X.env X.xe)(k:X.calm=true)(f:Gz K E X tg it w fi)(h:Oz K X tg gt m)(d:nM K E X A t g)(j:∀x,foldedSetIterable it X.env x=pure x:=by intro _;rfl):uR K E X (.For tg it A [] pos) (yr w gt t) (rA fi m g):=⟨uA i k f.pi h.pg d.ps j,NY f.mi h.mg d.ms⟩
def Gi j (k:PE X (.Name x p) (j7 j)) (i:PassesOwn (model X.prog X.w) X.A X.env X.xe) (s:X.calm=true) (f:Oz K X tg gt m) (d:nM K E X A t g) (n:X.K=K:=by rfl) (q:∀z,foldedSetIterable (.Name x p) X.env z=pure z:=by intro _;rfl):uR K E X (.For tg (.Name x p) A [] pos) (yr (zq K (j7 j)) gt t) (nH j m g):=by subst n;exact⟨uA i s (yg k) f.pg d.ps q,Em (λv H R l y e h r=>⟨_,e,l,rfl,⟨_,jQ.of h⟩,r⟩) f.mg d.ms⟩
def lz(i:PassesOwn (model X.prog X.w) X.A X.env X.xe)(k:X.calm=true)(f:qo K E X tg it w fi)(h:Oz K X tg gt m)(d:nM K E X A t g)(j:∀x,foldedSetIterable it X.env x=pure x:=by intro _;rfl):uR K E X (.For tg it A [] pos) (yr w gt t) (lU fi m g):=⟨uA i k f.pi h.pg d.ps j,KN f.mi h.mg d.ms⟩
end
def Na i (y:X.N.Nodup) (r:DI X.env.scope x)
  (s:X.calm=true) (n:Gz K E X tg iter wi fi) (L:zu X scope N ix) (l:m8 ix gt)
  (f:∀C d H j h,OP K (lg X N scope C d H j h) tg gt m/\EZ K IX (lg X N scope C d H j h) ifs tt ft/\Pm K IX (lg X N scope C d H j h) elt te fe)
  (z:MF K E (IE ix wi gt tt te) (i9 ix fi m ft fe)->MS K E (lB (IE ix wi gt tt te) (iw i)) gm)
  (q:X.N[i]? = some x:=by rfl) (w:X.fn x=true\/X.env.scope.names.lookup x=some .local:=by first|exact .inl rfl|exact .inr rfl)
  (k:swapsWith (.ListComp elt [⟨tg,iter,ifs,0⟩] scope pos) (some (.Name x py)) spos.line X.env=pure true:=by rfl)
  (A:∀x,foldedSetIterable iter X.env x=pure x:=by intro _;rfl):uR K E X (.Assign [.Name x py] (.ListComp elt [⟨tg,iter,ifs,0⟩] scope pos) spos) (lB (IE ix wi gt tt te) (iw i)) gm:=by
 obtain⟨v,B,D⟩:=f 0 X.s₀ X.H₀ [] [];exact⟨GY y q r s n.pi L l (λC d H j h=>⟨(f C d H j h).1.pg,(f C d H j h).2.1.pf,(f C d H j h).2.2.pe⟩) w k A,z (LQ n.mi v.mg B.mt D.me)⟩
def hU i (d:X.N.Nodup) (h:Pm K E X e te fe) (f:DI X.env.scope x:=by first|exact Or.inl rfl|exact Or.inr rfl) (l:X.N[i]? = some x:=by rfl) (j:swapsWith e (some (.Name x pos')) pos.line X.env=pure false:=by rfl) (k:X.fn x=true\/X.env.scope.names.lookup x=some .local:=by first|exact .inl rfl|exact .inr rfl|assumption) :
  uR K E X (.Assign [.Name x pos'] e pos) (lB te (iw i)) (setO i (iC fe)):=⟨rK d l f h.pe j k,Cq h.me⟩
def Ab i (d:X.N.Nodup) (h:Pm K E X e te fe) (f:DI X.env.scope x:=by first|exact Or.inl rfl|exact Or.inr rfl) (l:X.N[i]? = some x:=by rfl) (j:swapsWith e (some (.Name x pos')) pos.line X.env=pure false:=by rfl) (k:X.fn x=true\/X.env.scope.names.lookup x=some .local:=by first|exact .inl rfl|exact .inr rfl|assumption) :
  uR K E X (.Assign [.Name x pos'] e pos) (lB te (iw i)) (setO i (mD fe)):=⟨rK d l f h.pe j k,Kf h.me⟩
def Al i (d:X.N.Nodup) (h:EO K E X e te ff) (f:DI X.env.scope x:=by first|exact Or.inl rfl|exact Or.inr rfl) (l:X.N[i]? = some x:=by rfl) (j:swapsWith e (some (.Name x pos')) pos.line X.env=pure false:=by rfl) (k:X.fn x=true\/X.env.scope.names.lookup x=some .local:=by first|exact .inl rfl|exact .inr rfl|assumption) :
  uR K E X (.Assign [.Name x pos'] e pos) (lB te (iw i)) (j8 i (l6 ff)):=⟨rK d l f h.pe j k,sR h.mf⟩
def Gu i (d:X.N.Nodup) (h:EO K E X e te ff) (f:DI X.env.scope x:=by first|exact Or.inl rfl|exact Or.inr rfl) (l:X.N[i]? = some x:=by rfl) (j:swapsWith e (some (.Name x pos')) pos.line X.env=pure false:=by rfl) (k:X.fn x=true\/X.env.scope.names.lookup x=some .local:=by first|exact .inl rfl|exact .inr rfl|assumption) :
  uR K E X (.Assign [.Name x pos'] e pos) (lB te (iw i)) (j8 i (sN ff)):=⟨rK d l f h.pe j k,Jh h.mf⟩
def mM(h:MF K E te ff):MS K E (lB te (iw i)) (setO i (iC λρ=>(ff ρ).bind λts=>.ok (.lst ts))):=Cq h.me
def Bz(h:H l=some (.lst xs)):OQ K "list" (.ref l) H:=.inl ⟨rfl,_,jQ.of h⟩
def mO i (q:PE X (.Name x p) (j7 i)) (n:Pm K E X e te fe) (m:starEach [e] X.env=(false,eval e X.env)::starEach [] X.env:=by rfl) (r:X.K=K:=by rfl)
  (d:attributeBase (.Name x p) "append" X.env (eval (.Name x p) X.env)=eval (.Name x p) X.env:=by rfl)
  (j:((backTo pos (starEach [e] X.env)).all (λx=>!x.1)&&(backToKw pos (keywordEach [] X.env)).all (λx=>x.1.isSome)&&decide (([e]:List Expr).length+([]:List Keyword).length+(if ([]:List Keyword).isEmpty then 0 else 1)<30))=true:=by rfl)
  (f:(apos.endLine==pos.line)=true:=by rfl) (hplain:(backTo pos (starEach [] X.env)).any (·.1)=false:=by rfl) (k:swapsWith (.Call (.Attribute (.Name x p) "append" apos) [e] [] pos) none pos'.line X.env=pure false:=by rfl) :
  uR K E X (.Expr (.Call (.Attribute (.Name x p) "append" apos) [e] [] pos) pos') (tZ (Jo K i te)) (ng i (iC fe)):=by
 subst r;exact⟨wW (FS PySem.F.plainAttrs_list PySem.F.slot_list_append PySem.F.type_list_append wx q (kj n.pe pM m) d j f m hplain) k,KW (λl s H h=>Bz h) n.me⟩
def FM i (q:PE X (.Name x p) (j7 i)) (n:Pm K E X e te fe) (m:starEach [e] X.env=(false,eval e X.env)::starEach [] X.env:=by rfl) (r:X.K=K:=by rfl)
  (d:attributeBase (.Name x p) "append" X.env (eval (.Name x p) X.env)=eval (.Name x p) X.env:=by rfl)
  (j:((backTo pos (starEach [e] X.env)).all (λx=>!x.1)&&(backToKw pos (keywordEach [] X.env)).all (λx=>x.1.isSome)&&decide (([e]:List Expr).length+([]:List Keyword).length+(if ([]:List Keyword).isEmpty then 0 else 1)<30))=true:=by rfl)
  (f:(apos.endLine==pos.line)=true:=by rfl) (hplain:(backTo pos (starEach [] X.env)).any (·.1)=false:=by rfl) (k:swapsWith (.Call (.Attribute (.Name x p) "append" apos) [e] [] pos) none pos'.line X.env=pure false:=by rfl) :
  uR K E X (.Expr (.Call (.Attribute (.Name x p) "append" apos) [e] [] pos) pos') (tZ (Jo K i te)) (ng i (mD fe)):=by
 subst r;exact⟨wW (FS PySem.F.plainAttrs_list PySem.F.slot_list_append PySem.F.type_list_append wx q (kj n.pe pM m) d j f m hplain) k,Lm (λl s H h=>Bz h) n.me⟩
def xM i (j:PE X (.Name x p) (j7 i)) (d:Pm K E X b tb fb) (h:Pm K E X e te fe)
  (k:∀v,assign (.Subscript (.Name x p) b p2) X.env v=(do
   let ov <-holding [v] (eval (.Name x p) X.env)
   let iv <-holding [v,ov] (eval b X.env)
   standAt p2
   holding [v,ov,iv] (setItem ov iv v)
   release [v,ov,iv] []):=by intro _;rfl)
  (l:swapsWithSole [.Subscript (.Name x p) b p2] e pos.line X.env=pure false:=by rfl) (hw:swappedStores [.Subscript (.Name x p) b p2] e X.env=pure none:=by rfl)
  (f:(assignEach [.Subscript (.Name x p) b p2] X.env).map (·.2)=[assign (.Subscript (.Name x p) b p2) X.env]:=by rfl) :
  uR K E X (.Assign [.Subscript (.Name x p) b p2] e pos) (lB te (MQ (j7 i) tb Cz)) (sO i (mD fb) (mD fe)):=⟨GF h.pe (MM j d.pe Hi k) l hw f,Oy h.me d.me⟩
end
section
variable {P:Program}{w:World}{K:W.Frag}{mg:Str->Option Value}{base:Heap}{x:Str}{st:Stmt}{N ps:List Str}{k:Nat}{g:En->O}
def Q5(D:fC K mg x st)(S:gq N ps (eU st))
  (l:∀(kV c i:Vq) (d:Option Addr) (b j:Vq) (us:List Vq),us.length=ps.length->bindArgs (W.fnOf x x (iu st) (fR st) (eU st) .none kV c i d b j) ⟨us,[]⟩=pure (ps.zip us))
  (m:∀(f:Addr) (b:Vq) (A:Around) (a:List Env) (s:Sq) (H:Hp) (E:XK),gB k (A.deeper (envOfC x (eU st) s.heap.objs.size f b))->∃t,nM K E (lK oZ P w K mg base N x (eU st) f b A a s H E).nox (fR st) t g) :
  jK P w K mg base x (k+1) (wA K (lQ ps.length N.length g)):=
 CV D S l (λe H Q E h=>AX h) λf b A a s H e Q E hr h=>let ⟨t,hp⟩:=m f b A a s H E hr;⟨t,hp.ps,wV hp.ms h⟩
def QV(D:fC K mg x st)(S:gq N ps (eU st))
  (l:∀(kV c i:Vq) (d:Option Addr) (b j:Vq) (us:List Vq),us.length=ps.length->bindArgs (W.fnOf x x (iu st) (fR st) (eU st) .none kV c i d b j) ⟨us,[]⟩=pure (ps.zip us))
  (m:∀(f:Addr) (b:Vq) (A:Around) (a:List Env) (s:Sq) (H:Hp) (E:XK),gB k (A.deeper (envOfC x (eU st) s.heap.objs.size f b))->∃t,nM K E (lK oZ P w K mg base N x (eU st) f b A a s H E).nox (fR st) t g) :
  jK P w K mg base x (k+1) (Ao K (wO ps.length N.length g)):=
 CV D S l (λe H Q E h=>yu h) λf b A a s H e Q E hr h=>let ⟨t,hp⟩:=m f b A a s H E hr;⟨t,hp.ps,tT hp.ms h⟩
end
end L3
namespace L3
open PySem L2 PySem.Spec PyProof.Rows
section
variable {K:W.Frag}{E:XK}{X:Cx}{a b c e o tg it:Expr}{es:List Expr}{ta tb tc te to:TE}{fa fb fc fe fo:Pe->M T}{tr:TA}{fr:Pe->M (List T)}{pos p p2 apos:Pos}
@[simp] noncomputable def gH(f:Pe->M (List T)):Pe->M T:=λg=>(f g).bind λd=>.ok (.lst d)
def fQ(d:X.K=K:=by rfl):jA X (.builtin "len") (λf H Q=>∃x n,f=[x]/\Ni K x H n/\Q (.int n) H):=d▸Fv
def rE(h:X.calm=true)(f:X.K=K:=by rfl):jA X (.builtin "sum") (λg H Q=>∃(p:Addr) (d:LI),g=[.ref p]/\jQ K H p (d.map V.int)/\Q (.int d.sum) H):=f▸FN h
def oG(g:X.calm=true)(d:X.K=K:=by rfl):jA X (.builtin "all") (λf H Q=>∃(p:Addr) (bs:List Bool),f=[.ref p]/\jQ K H p (bs.map V.bl)/\Q (.bl (bs.all id)) H):=d▸FQ g
def mR(g:X.calm=true)(d:X.K=K:=by rfl):jA X (.builtin "any") (λf H Q=>∃p vs bs,f=[.ref p]/\(jQ K H p vs\/kP K H p vs)/\kC vs=some bs/\Q (.bl (bs.any id)) H):=d▸DN g
def iz(f:X.K=K:=by rfl):jA X (.type "tuple") (λg H Q=>∃p d,g=[.ref p]/\((jQ K H p d/\∀l,H l=none->Q (.ref l) (gy H l (.tup d)))\/(kP K H p d/\Q (.ref p) H))):=f▸vm
def lN(f:X.K=K:=by rfl):jA X (.type "list") (λg H Q=>∃p d,g=[.ref p]/\(jQ K H p d\/kP K H p d)/\∀l,H l=none->Q (.ref l) (gy H l (.lst d))):=f▸yB
def NO(d:X.K=K:=by rfl):nL X (compareOp .In) (QD K false):=d▸Du
def K7:T->Option Bool
 |.bl b=>some b
 |.int i=>some (i != 0)
 |_=>none
def pE:List T->Option (List Bool)
 |[]=>some []
 |v::vs=>(K7 v).bind λb=>(pE vs).bind λr=>some (b::r)
theorem xr:∀{vs} {ts},fE K F vs ts->kC vs=pE ts
 |_,_,.nil=>rfl
 |v::vs,t::ts,.cons h r=>by
  have e:zS v=K7 t:=by cases h<;>rfl
  rw[kC,pE,xr r,e]
@[simp] theorem AJ(d:LI):pE (d.map T.int)=some (d.map λn=>n != 0):=by
 induction d with
 |nil=>rfl
 |cons n d ih=>simp[pE,K7,ih]
@[simp] theorem OM ns:pE (ns.map T.bl)=some ns:=by
 induction ns with
 |nil=>rfl
 |cons n ns ih=>simp[pE,K7,ih]
@[simp] noncomputable def qH(ts:List T):M T:=match pE ts with
 |some bs=>.ok (.bl (bs.any id))
 |none=>.bad
@[simp] noncomputable def qu:List T->M T
 |[.lst ts]=>qH ts
 |[.tup ts]=>qH ts
 |_=>.bad
def He ts:M.NoE (qH ts):=λC n=>by unfold qH;split<;>intro z<;>cases z
def Kh xs:M.NoE (qu xs):=λC n=>by unfold qu;split<;>first|exact He _ C n|(intro z;cases z)
def tF:MC K (λf H Q=>∃p vs bs,f=[.ref p]/\(jQ K H p vs\/kP K H p vs)/\kC vs=some bs/\Q (.bl (bs.any id)) H) qu:=⟨Kh,λF H vs f Q s r q=>by
 cases r with
 |nil=>exact q.elim
 |cons h t=>
  cases t with
  |cons _ _=>cases h<;>exact q.elim
  |nil=>
   cases h with
   |lst h r=>
    rename_i a f g;have d:(qH g).res (kV K F H Q) (λ_ _=>False):=q;unfold qH at d;cases e:pE g with
    |none=>rw[e]at d;exact d.elim
    |some bs=>rw[e]at d;exact⟨a,f,bs,rfl,.inl (jQ.of (s _ _ h)),by rw[xr r];exact e,kV.now d s (.bl _)⟩
   |tup h r=>
    rename_i a f g;have d:(qH g).res (kV K F H Q) (λ_ _=>False):=q;unfold qH at d;cases e:pE g with
    |none=>rw[e]at d;exact d.elim
    |some bs=>rw[e]at d;exact⟨a,f,bs,rfl,.inr (kP.of (s _ _ h)),by rw[xr r];exact e,kV.now d s (.bl _)⟩
   |_=>exact q.elim⟩
noncomputable def pG(d:List T):List T:=(d.zipIdx).map λp=>T.tup [.int (p.2:Int),p.1]
def Ii(K:W.Frag)(ta:TA):TI:=λd H R=>∃b,Fw K b ta d H R
@[simp] noncomputable def uO(fa:Pe->M (List T)):Pe->M (List T):=λg=>(fa g).bind λd=>match d with
 |[x]=>(seqT x).bind λf=>.ok (pG f)
 |_=>.bad
def JA{b:Bool}(h:∀H,fw F H->uP K H b l xs)(f:fE K F xs ts):vt K (Q7 K b l) (pG ts) F where
 go:=λi H s q=>by
  have j:i<ts.length:=by simpa[pG] using q
  have d:xs[i]? = some (xs[i]'(by rw[f.length];exact j)):=ag _;exact⟨xs,_,h H s,d⟩
 stop:=λH s=>⟨xs,h H s,by simp[pG,f.length]⟩
 yld:=λi t A H x z k m e y=>by
  obtain⟨p,w,rfl,n,rfl,d⟩:=y;obtain⟨r,v,u⟩:=f.at_ (d xs (h H (k.trans m)));have:t=.tup [.int i,r]:=by unfold pG at e;rw[ax,List.getElem?_zipIdx,v]at e;simp at e;exact e.symm
  rw[this];have g:=Gr.new (o:=.tup [.int i,w]) m n;exact⟨_,g,.tup eW (.cons (.int _) (.cons ((u.mono k).mono g.ff) .nil))⟩
noncomputable def AO(b:Bool)(fa:Pe->M (List T)):Pe->M (List T):=λg=>(fa g).bind λf=>match f with
 |[x]=>(seqB b x).bind λd=>.ok (pG d)
 |_=>.bad
def zm{b:Bool}(l:MA K E tr fr):MI K E (Fw K b tr) (AO b fr):=λF H w v R s V q=>by
 refine l.run s V q λy u i t g k d=>?_;split at d
 .rename_i x;cases k with
  |cons a c=>
   cases c;cases f:seqB b x with
   |bad=>rw[f]at d;exact d.elim
   |er C n=>exact absurd f yj
   |ok ts=>rw[f]at d;obtain⟨m,r,rfl,h,j⟩:=yD a f;exact⟨m,rfl,⟨r,h _ g.fh⟩,d _ i t g (JA h j)⟩
 .exact d.elim
def Jf(h:MA K E tr fr):MI K E (Ii K tr) (uO fr):=λF H f d R s V q=>by
 unfold uO at q;cases e:fr d with
 |bad=>rw[e]at q;exact q.elim
 |er C n=>rw[e]at q;exact⟨true,zm h F H f d R s V (by unfold AO;rw[e];exact q)⟩
 |ok xs=>
  rw[e]at q;match xs,e,q with
  |[],_,q=>exact q.elim
  |[x],e,q=>refine⟨qE x,zm h F H f d R s V ?_⟩;unfold AO;rw[e];have g:((seqT x).bind λi=>M.ok (pG i)).res (kI K F H R) (kE E F H):=q;rw[Ba x]at g;exact g
  |_::_::_,_,q=>exact q.elim
def JE{x1}(f:X.mg "enumerate" = none)(d:BM K E X [a] tr fr)(i:X.K=K:=by rfl)(l:Gl X "enumerate" :=by rfl)(j:starEach [a] X.env=[(false,eval a X.env)]:=by rfl) :
  Gz K E X (.Tuple elts x1 tpos) (.Call (.Name "enumerate" p) [a] [] pos) (Ii K tr) (uO fr):=by
 subst i;refine⟨λg s k H R I h=>?_,Jf d.ma⟩;obtain⟨b,h⟩:=h;exact GI l f d.pa j g s k H R I h
end
structure Bs(mg:Str->Option Value):Prop where
 abs:mg "abs" = none
 isinstance:mg "isinstance" = none
 int:mg "int" = none
 bool:mg "bool" = none
 len:mg "len" = none
 range:mg "range" = none
 tuple:mg "tuple" = none
 list:mg "list" = none
 str:mg "str" = none
 all:mg "all" = none
 any:mg "any" = none
 sum:mg "sum" = none
 zip:mg "zip" = none
 max:mg "max" = none
 min:mg "min" = none
 enumerate:mg "enumerate" = none
 reversed:mg "reversed" = none
 set:mg "set" = none
 dict:mg "dict" = none
 sorted:mg "sorted" = none
def nh:bootBuiltins "list" = some (.type "list"):=by decide +kernel
def OB:bootBuiltins "max" = some (.builtin "max"):=by decide +kernel
end L3
namespace L3
open PySem L2
section
variable {α:Type}
theorem wj enc f:∀(l:List α),(∀a∈l,k (enc a)=.ok (some (f a)))->oy k (l.map enc)=.ok (l.map f)
 |[],_=>rfl
 |a::l,h=>by rw[bC,oy,h a (by simp),M.bind_ok,wj enc f l λb c=>h b (by simp[c])];rfl
theorem qN enc f p:∀(l:List α),(∀a∈l,k (enc a)=.ok (if p a then some (f a) else none))->oy k (l.map enc)=.ok ((l.filter p).map f)
 |[],_=>rfl
 |a::l,h=>by
  rw[bC,oy,h a (by simp),M.bind_ok,qN enc f p l λb d=>h b (by simp[d])];by_cases c:p a=true
  .simp[c]
  .simp[c]
theorem jr enc (P:Nat->En->Prop):∀(l:List α) (k:Nat) (ρ:En),P k ρ->
  (∀i a ρ,l[i]? = some a->P (k+i) ρ->∃d c,m (enc a) ρ=some d/\(g d=.nx c\/g d=.ct c)/\P (k+i+1) c)->∃ρ',ia m g (l.map enc) ρ=.nx ρ'/\P (k+l.length) ρ'
 |[],k,ρ,h,_=>⟨ρ,rfl,h⟩
 |a::l,k,ρ,h,st=>by
  obtain⟨d,c,j,f,p⟩:=st 0 a ρ rfl h;obtain⟨ρ',e,q⟩:=jr enc P l (k+1) c p λi b ρ n o=>by have:=st (i+1) b ρ (by simpa using n) (by rw[show k+(i+1)=k+1+i by omega];exact o);rw[show k+1+i+1=k+(i+1)+1 by omega];exact this
  refine⟨ρ',?_,by rw[aA,show k+(l.length+1)=k+1+l.length by omega];exact q⟩;rw[bC,ia,j];rcases f with f|f<;>(dsimp only;rw[f];exact e)
theorem v9 enc (P:En->Prop):∀(l:List α) (ρ:En),P ρ->
  (∀a∈l,∀ρ,P ρ->∃d c,m (enc a) ρ=some d/\(g d=.nx c\/g d=.ct c)/\P c)->∃ρ',ia m g (l.map enc) ρ=.nx ρ'/\P ρ'
 |[],ρ,h,_=>⟨ρ,rfl,h⟩
 |a::l,ρ,h,st=>by obtain⟨d,c,i,f,n⟩:=st a (by simp) ρ h;obtain⟨ρ',e,o⟩:=v9 enc P l c n λb j ρ k=>st b (by simp[j]) ρ k;refine⟨ρ',?_,o⟩;rw[bC,ia,i];rcases f with f|f<;>(dsimp only;rw[f];exact e)
theorem pP(P:En->Prop)(b:En->Nat)(R:En->Prop)(st:∀ρ,P ρ->(c (vw ρ)=.ok false/\R ρ)\/(c (vw ρ)=.ok true/\∃a,(g ρ=.nx a\/g ρ=.ct a)/\P a/\b a<b ρ)) :
  ∀n ρ,P ρ->b ρ<n->∃ρ',kG c g n ρ=.nx ρ'/\R ρ'
 |0,ρ,_,h=>absurd h (c8 _)
 |n+1,ρ,hP,hn=>by
  rcases st ρ hP with⟨e,r⟩|⟨e,a,d,f,j⟩
  .exact⟨ρ,by rw[kG,e];rfl,r⟩
  .obtain⟨ρ',i,r⟩:=pP P b R st n a f (by omega);refine⟨ρ',?_,r⟩;rw[kG,e,O.of_ok,aR rfl];rcases d with d|d<;>(rw[d];exact i)
end
def yp{i:Type}(l:List i) enc f (j:fi ρ=.ok (l.map enc)) (o:l.length<sizeLine)
  (n:∀a∈l,∃b,m (enc a) (l0 ix ρ)=some b/\ft b=.ok true/\fe b=.ok (f a)):i9 ix fi m ft fe ρ=.ok (l.map f):=by
 have h:=wj (k:=qw m ft fe (l0 ix ρ)) enc f l λa d=>by obtain⟨b,c,g,e⟩:=n a d;unfold qw;rw[c];dsimp only;rw[g,M.bind_ok,aR rfl,e];rfl
 unfold i9;rw[j,M.bind_ok,ay,aR o,h];rfl
theorem Bo{j:Type}(l:List j) enc f p (n:fi ρ=.ok (l.map enc)) (q:l.length<sizeLine)
  (o:∀a∈l,∃b,m (enc a) (l0 ix ρ)=some b/\ft b=.ok (p a)/\(p a=true->fe b=.ok (f a))):i9 ix fi m ft fe ρ=.ok ((l.filter p).map f):=by
 have h:=qN (k:=qw m ft fe (l0 ix ρ)) enc f p l λa e=>by
  obtain⟨b,d,i,g⟩:=o a e;unfold qw;rw[d];dsimp only;rw[i,M.bind_ok];cases c:p a with
  |true=>rw[aR rfl,aR rfl,g c];rfl
  |false=>rw[aS aI,aS aI]
 unfold i9;rw[n,M.bind_ok,ay,aR q,h];rfl
def jx{c:Type}(l:List c) enc f (d:fi ρ=.ok (l.map enc)) (g:l.length<sizeLine)
  (e:∀a∈l,∃b,m (enc a) (l0 ix ρ)=some b/\ft b=.ok true/\fe b=.ok (f a)) (hr:l.map f=ts):i9 ix fi m ft fe ρ=.ok ts:=by rw[<-hr];exact yp l enc f d g e
def pQ{c:Type}(l:List c) enc f p (d:fi ρ=.ok (l.map enc)) (g:l.length<sizeLine)
  (e:∀a∈l,∃b,m (enc a) (l0 ix ρ)=some b/\ft b=.ok (p a)/\(p a=true->fe b=.ok (f a))) (hr:(l.filter p).map f=ts):i9 ix fi m ft fe ρ=.ok ts:=by rw[<-hr];exact Bo l enc f p d g e
def OT lo n:vg lo n=(List.range n).map λ(i:Nat)=>T.int (lo+(i:Int)):=rfl
noncomputable def tI(a:LI):T:=.tup (a.map T.int)
def tL(a:LI):T:=.lst (a.map T.int)
def xq(l:List α)(i:Int)(d:0<=i)(b:i<l.length):∃a,pW l i=some a/\a∈l:=by
 unfold pW xF;rw[aR d,aR b];have c:i.toNat<l.length:=by omega
 exact⟨l[i.toNat],by simp[c],aW _⟩
def jV(h:PySem.IntMulOk i j):ju (.int i) (.int j)=.ok (.int (i*j)):=by simp[ju,iW,h]
def uo(h:j≠0)(a:Builtin.divisionGoesByPylong i j=false):sr (.int i) (.int j)=.ok (.int (i.fdiv j)):=by simp[sr,iW,h,a]
def qq(h:j≠0):uC (.int i) (.int j)=.ok (.int (i.fmod j)):=by simp[uC,iW,h]
@[simp] theorem fZ i j:fY (.int i) (.int j)=.ok (.int (i+j)):=rfl
@[simp] theorem mU i j:oV (.int i) (.int j)=.ok (.int (i-j)):=rfl
@[simp] theorem Qw i j:Qq (.int i) (.int j)=.ok (.bl (decide (i<j))):=rfl
@[simp] theorem Qn i j:Mo (.int i) (.int j)=.ok (.bl (decide (i<=j))):=rfl
@[simp] theorem Qt i j:JC (.int i) (.int j)=.ok (.bl (decide (j<i))):=rfl
@[simp] theorem Ko i j:OU (.int i) (.int j)=.ok (.bl (decide (j<=i))):=rfl
@[simp] theorem gC i j:fM false (.int i) (.int j)=.ok (.bl (i==j)):=by simp[fM,rR]
@[simp] theorem mZ i j:fM true (.int i) (.int j)=.ok (.bl (!(i==j))):=by simp[fM,rR]
def EK(h:i.natAbs<2 ^ 64):PySem.IntMulOk i j:=IntMulOk.of_left (PyProof.Rows.intBits_le h)
def Bn(n:Nat)(x:Int):Prop:=x.natAbs<2 ^ n
def Bn.mono(h:Bn m x)(a:m<=n):Bn n x:=aF h (c9 (by decide) a)
def Bn.mul(h:Bn m x)(h':Bn n y):Bn (m+n) (x*y):=by unfold Bn at *;rw[aZ,Nat.pow_add];exact Nat.mul_lt_mul'' h h'
def Bn.add(h:Bn m x)(h':Bn n y):Bn (max m n+1) (x+y):=by have a:Bn (max m n) x:=h.mono (Nat.le_max_left _ _);have b:Bn (max m n) y:=h'.mono (Nat.le_max_right _ _);unfold Bn at *;rw[dc];have:=de x y;omega
def Bn.neg(h:Bn m x):Bn m (-x):=by unfold Bn at *;rw[Int.natAbs_neg];exact h
def Bn.sub(h:Bn m x)(h':Bn n y):Bn (max m n+1) (x-y):=by rw[dg];exact h.add h'.neg
def Bn.ok(h:Bn m x)(h':Bn n y)(a:m<=2 ^ 20)(b:n<=2 ^ 20):PySem.IntMulOk x y:=IntMulOk.of_bits (aO (PyProof.Rows.intBits_le h) a) (aO (PyProof.Rows.intBits_le h') b)
def Bn.noPy(h:Bn n y)(a:n<=8000):Builtin.divisionGoesByPylong x y=false:=Cu.noPy (PyProof.Rows.intBits_le h) a
section
variable {a b g:En->O}{ρ ρ':En}{r:O}{fc:Pe->M Bool}{f:Pe->M T}{ff:Pe->M (List T)}{t:T}{ts:List T}{k n i:Nat}
def eR(c:a ρ=.nx ρ')(d:b ρ'=r):fq a b ρ=r:=by unfold fq;rw[c];exact d
def jG(c:a ρ=.rt t)(hr:.rt t=r):fq a b ρ=r:=by unfold fq;rw[c];exact hr
def hV(h:fc (vw ρ)=.ok true)(c:a ρ=r):lJ fc a b ρ=r:=by unfold lJ;rw[h];exact c
def gj(h:fc (vw ρ)=.ok false)(c:b ρ=r):lJ fc a b ρ=r:=by unfold lJ;rw[h];exact c
def fH(h:f (kD ρ)=.ok t)(hr:ρ'=ρ.set i (some (.p t))):setO i (iC f) ρ=.nx ρ':=by unfold setO iC;rw[h,hr];rfl
def KY(h:f (vw ρ)=.ok t)(c:lf t=true)(hr:ρ'=ρ.set i (some (.p t))):setO i (mD f) ρ=.nx ρ':=by unfold setO mD;rw[h,hr];simp[c]
def l9(h:ff (kD ρ)=.ok ts)(hr:ρ'=ρ.set i (some (.o ts))):j8 i (l6 ff) ρ=.nx ρ':=by unfold j8 l6;rw[h,hr];rfl
def Lb(h:ff (vw ρ)=.ok ts)(c:DL ts=true)(hr:ρ'=ρ.set i (some (.o ts))):j8 i (sN ff) ρ=.nx ρ':=by unfold j8 sN;rw[h,hr];simp[c]
def KB(h:ff (vw ρ)=.ok ts)(c:DL ts=true)(hr:ρ'=ρ.set i (some (.p (.lst ts)))):BZ i (sN ff) ρ=.nx ρ':=by unfold BZ sN;rw[h,hr];simp[c]
def rY(d:ρ[i]? = some (some (.o us)))(h:f (kD ρ)=.ok t)(c:us.length<sizeLine)(hr:ρ'=ρ.set i (some (.o (us++[t])))):ng i (iC f) ρ=.nx ρ':=by unfold ng iC kW;rw[d,h,hr];simp[c]
def BC(c:ρ[i]? = some (some (.o us)))(h:f (vw ρ)=.ok t)(l:lf t=true)(e:fk (vw ρ)=.ok (.int j))(d:xF us.length j=some m)(hr:ρ'=ρ.set i (some (.o (us.set m t)))):sO i (mD fk) (mD f) ρ=.nx ρ':=by unfold sO mD kW;rw[c,h,e,hr];simp[l,d]
def fO(h:f (vw ρ)=.ok t):gA f ρ=.rt t:=by unfold gA;rw[h];rfl
def yb(h:ff (vw ρ)=.ok ts):uB ff ρ=.rf ts:=by unfold uB;rw[h];rfl
def md(h:fi (kD ρ)=.ok its)(c:ia m g its ρ=r):rA fi m g ρ=r:=by unfold rA;rw[h];exact c
def kY(h:fi (vw ρ)=.ok its)(c:ia m g its ρ=r):lU fi m g ρ=r:=by unfold lU;rw[h];exact c
def ED(e:ρ[j]? = some (some (.o us)))(h:CB j us (ia m g us (ρ.set j none))=r):nH j m g ρ=r:=by unfold nH;rw[e];exact h
def gP(c:ts.length=k)(h:g (f9 n ts)=.rt t):lQ k n g ts=.ok t:=by unfold lQ;rw[aR c,h];rfl
def Fc(c:ts.length=k)(h:g (f9 n ts)=.rf us):wO k n g ts=.ok us:=by unfold wO;rw[aR c,h];rfl
end
def Jt n:vg 0 n=(List.range n).map λ(i:Nat)=>T.int (i:Int):=by simp[vg]
theorem oC{d:Type} f:∀(l:List d),(∀a∈l,rR (f a)=true)->pU (l.map f)=true
 |[],_=>rfl
 |a::l,h=>by rw[bC,pU,h a (by simp),oC f l λb c=>h b (by simp[c])];rfl
theorem ot{d:Type} f n:∀(l:List d),(∀a∈l,B4 (f a)<=n)->qt (l.map f)<=n
 |[],_=>bF _
 |a::l,h=>by rw[bC,DA];have e:=h a (by simp);have g:=ot f n l λb c=>h b (by simp[c]);omega
@[simp] theorem OC(a:LI):pU (a.map T.int)=true:=oC _ _ λ_ _=>rfl
def wo(a:LI):qt (a.map T.int)<=0:=ot _ _ _ λ_ _=>aL _
@[simp] theorem NM ns:rR (tI ns)=true:=by simp[tI,rR]
def Od ns:B4 (tI ns)<=1:=by unfold tI;rw[KQ];have:=wo ns;omega
@[simp] theorem P4(l:LL):pU (l.map tI)=true:=oC _ _ λ_ _=>NM _
def zJ(l:LL):qt (l.map tI)<=1:=ot _ _ _ λ_ _=>Od _
@[simp] theorem Iw l:xj l []=l.isEmpty:=by cases l<;>rfl
theorem zR{d:Type} f (c:∀a b,DB (f a) (f b)=true↔a=b):∀(l m:List d),xj (l.map f) (m.map f)=true↔l=m
 |[],[]=>by simp[rC]
 |[],b::m=>⟨λz=>(nomatch (show false=true from z)),λz=>nomatch z⟩
 |a::l,[]=>by simp[rC]
 |a::l,b::m=>by rw[bC,bC,rC,bN,c a b,zR f c l m];simp
def Ef(l m:LI):xj (l.map T.int) (m.map T.int)=decide (l=m):=by
 have h:=zR T.int (λa b=>by simp) l m;by_cases e:l=m
 .rw[aD e];exact h.mpr e
 .rw[aC e];cases c:xj (l.map T.int) (m.map T.int) with
  |false=>rfl
  |true=>exact absurd (h.mp c) e
def FX neg (l m:LI):fM neg (.lst (l.map T.int)) (.lst (m.map T.int))=.ok (.bl (if neg then !decide (l=m) else decide (l=m))):=by have h:=wo l;unfold fM;rw[aR (by simp[rR];omega),CC,Ef]
def tu neg ts (h:pU ts=true) (a:qt ts<=90):fM neg (.lst ts) (.lst [])=.ok (.bl (if neg then !ts.isEmpty else ts.isEmpty)):=by unfold fM;rw[aR (by simp[rR,h,pU];omega),CC,Iw]
def Ig{a b:Type} f (g:b->T) (l:List a) m:pX (l.map f) (m.map g)=(l.zip m).map λp=>T.tup [f p.1,g p.2]:=by unfold pX;rw[List.zip_map,aJ];rfl
theorem CJ{d:Type} f:∀(l:List d),(∀a∈l,lf (f a)=true)->DL (l.map f)=true
 |[],_=>rfl
 |a::l,h=>by rw[bC,DL,h a (by simp),CJ f l λb c=>h b (by simp[c])];rfl
@[simp] theorem tM(a:LI):DL (a.map T.int)=true:=CJ _ _ λ_ _=>rfl
@[simp] theorem Lx ns:lf (tI ns)=true:=by simp[tI]
section
variable {α:Type}{fe fd fl:Pe->M T}{ρ:Pe}{ts:List T}{d k:Nat}
def wI(l:List α)(d:Nat):n6 l none (some (d:Int))=l.take d:=by
 unfold n6;rw[HT.sIx_none,HT.sIx_nat,List.drop_zero,Nat.sub_zero];by_cases h:d<=l.length
 .rw[Nat.min_eq_left h]
 .rw[Nat.min_eq_right (by omega),cx (aL _),cx (by omega)]
def Dh(l:List α)(d:Nat):n6 l (some (d:Int)) none=l.drop d:=by
 unfold n6;rw[HT.sIx_none,HT.sIx_nat];by_cases h:d<=l.length
 .rw[Nat.min_eq_left h,cx (by simp)]
 .rw[Nat.min_eq_right (by omega),dh (aL _),dh (by omega),List.take_nil]
def qg(h:fe ρ=.ok (.tup ts))(a:fd ρ=.ok (.int (d:Int)))(b:d<=ts.length):kM fe (λ_=>.ok none) (iU fd) ρ=.ok (.tup (ts.take d)):=by simp only[kM,iU,h,a,M.bind_ok,wI]
def Df(h:fe ρ=.ok (.lst ts))(a:fd ρ=.ok (.int (d:Int))):kM fe (λ_=>.ok none) (iU fd) ρ=.ok (.lst (ts.take d)):=by simp only[kM,iU,h,a,M.bind_ok,wI]
def vL(h:fe ρ=.ok (.lst ts))(a:fd ρ=.ok (.int (d:Int))):kM fe (iU fd) (λ_=>.ok none) ρ=.ok (.lst (ts.drop d)):=by simp only[kM,iU,h,a,M.bind_ok,Dh]
def qc(h:lc ρ=.ok ts)(hr:o [.lst ts]=r):iN o (eM (gH lc) eP) ρ=r:=by simp only[iN,eM,eP,gH,h,M.bind_ok];exact hr
def kx(h:f ρ=.ok t)(hr:o [t]=r):iN o (eM f eP) ρ=r:=by simp only[iN,eM,eP,h,M.bind_ok];exact hr
def gz(h:lc ρ=.ok ts):gH lc ρ=.ok (.lst ts):=by simp only[gH,h,M.bind_ok]
def HJ(h:fe ρ=.ok (.tup ts)):gR fe ρ=.ok ts:=by simp only[gR,h,M.bind_ok]
def qx(h:fe ρ=.ok (.lst ts)):gR fe ρ=.ok ts:=by simp only[gR,h,M.bind_ok]
def fV(h:fe ρ=.ok (.bl b)):gd fe ρ=.ok b:=by simp only[gd,h,M.bind_ok]
def wR(h:fc ρ=.ok b)(hr:(!b)=r):L3.oW fc ρ=.ok r:=by simp only[L3.oW,h,M.bind_ok,hr]
def eT(a:fa ρ=.ok x)(b:fb ρ=.ok y)(hr:o x y=r):eV o fa fb ρ=r:=by simp only[eV,a,b,M.bind_ok];exact hr
def sq(h:f ρ=.ok x)(hr:F [x]=.ok t):eY (eM f eP) F ρ=.ok t:=by simp only[eY,eM,eP,h,hr,M.bind_ok];rfl
def lx(h:f ρ=.ok x)(a:g ρ=.ok y)(hr:F [x,y]=.ok t):eY (eM f (eM g eP)) F ρ=.ok t:=by simp only[eY,eM,eP,h,a,hr,M.bind_ok];rfl
def j5{f g k:Pe->M T}(h:f ρ=.ok x)(a:g ρ=.ok y)(b:k ρ=.ok z)(hr:F [x,y,z]=.ok t):eY (eM f (eM g (eM k eP))) F ρ=.ok t:=by simp only[eY,eM,eP,h,a,b,hr,M.bind_ok];rfl
def OW{f g k l:Pe->M T}(h:f ρ=.ok x)(b:g ρ=.ok y)(c:k ρ=.ok z)(a:l ρ=.ok u)(hr:F [x,y,z,u]=.ok t):eY (eM f (eM g (eM k (eM l eP)))) F ρ=.ok t:=by simp only[eY,eM,eP,h,b,c,a,hr,M.bind_ok];rfl
end
section
variable {ρ:Pe}{ts:List T}{F:List T->M (List T)}{f g k l:Pe->M T}{x y z u:T}
def pV(h:f ρ=.ok x)(hr:F [x]=.ok ts):iq (eM f eP) F ρ=.ok ts:=by simp only[iq,eM,eP,h,hr,M.bind_ok];rfl
def E2(h:f ρ=.ok x)(b:g ρ=.ok y)(a:k ρ=.ok z)(hr:F [x,y,z]=.ok ts):iq (eM f (eM g (eM k eP))) F ρ=.ok ts:=by simp only[iq,eM,eP,h,b,a,hr,M.bind_ok];rfl
end
def uG{a b:Type}{l:List a}{m:List b}{f:a->T}{g:b->T}(e:fa ρ=.ok x)(d:seqT x=.ok (l.map f))(h:fb ρ=.ok y)(c:seqT y=.ok (m.map g)) :
  lu (eM fa (eM fb eP)) ρ=.ok ((l.zip m).map λp=>T.tup [f p.1,g p.2]):=by
 rw[<-Ig];simp only[lu,eM,eP,e,h,M.bind_ok,d,c]
end L3
namespace L3
open PySem L2 PySem.Spec PyProof.Rows
section
variable {K:W.Frag}{E:XK}{X:Cx}{a b c e o tg it:Expr}{es:List Expr}{ta tb tc te to:TE}{fa fb fc fe fo:Pe->M T}{tr:TA}{fr:Pe->M (List T)}{pos p p2 apos:Pos}
noncomputable def Gf:T->T->M T:=iW (λi j=>decide (0<=j)&&decide (j<=1000000)&&decide (i.natAbs<18446744073709551616)) λi j=>.int (i*2 ^ j.toNat)
def Nl(f:Pm K E X a ta fa)(d:Pm K E X b tb fb):Pm K E X (.BinOp a .LShift b pos) (sT (rI Kz λi j=>.int (i*2 ^ j.toNat)) ta tb) (eV Gf fa fb):=qm Oj (rX (λi j h=>by simp only[bN,decide_eq_true_eq]at h;exact⟨h.1.1,h.1.2,h.2⟩) λ_ _ _=>.int _) f d
noncomputable def GZ:T->T->M T:=iW (λ_ j=>decide (0<=j)) λi j=>.int (i / 2 ^ j.toNat)
def Mg(f:Pm K E X a ta fa)(d:Pm K E X b tb fb):Pm K E X (.BinOp a .RShift b pos) (sT (rI (λ_ j=>0<=j) λi j=>.int (i / 2 ^ j.toNat)) ta tb) (eV GZ fa fb):=qm Oa (rX (λi j h=>by simpa using h) λ_ _ _=>.int _) f d
noncomputable def Aj:T->T->M T:=iW (λ_ _=>true) λi j=>.int (Builtin.bitAnd i j)
def Lk(f:Pm K E X a ta fa)(d:Pm K E X b tb fb):Pm K E X (.BinOp a .BitAnd b pos) (sT (zF λi j=>.int (Builtin.bitAnd i j)) ta tb) (eV Aj fa fb):=qm MU (oH λ_ _ _=>.int _) f d
end
def HG(K:W.Frag):Sp:=λc H Q _=>∃(a:Addr) (b:LI),c=[.ref a]/\jQ K H a (b.map V.int)/\b.length<=63/\(∀z∈b,Builtin.Int.intBits z<=2 ^ 20)/\∀d,Q (.bl true) d
def FY{K:W.Frag}(h:∀b:LI,b.length<=63->(∀z∈b,Builtin.Int.intBits z<=2 ^ 20)->F [.scr b]=.ok (.bl true)) vs H Q E (z:HG K vs H Q E):wA K F vs H Q E:=by obtain⟨a,b,rfl,e,f,c,d⟩:=z;refine⟨[.scr b],H,.refl _,.cons (.scr e) .nil,?_⟩;rw[h b f c];intro v j i g r;cases r;exact d _
def QH{K:W.Frag}{st:Stmt}(F:IT K x x st f fd)(S:gq N ps (eU st))
  (d:∀(f:Addr) (b:Vq) (A:Around) (a:List Env) (s:Sq) (H:Hp) (E:XK),gB k (A.deeper (envOfC x (eU st) s.heap.objs.size f b))->∃t,nM K E (lK oZ P w K mg base N x (eU st) f b A a s H E).nox (fR st) t g) :
  lA P w K mg base oZ (k+1) f fd ps (wA K (lQ ps.length N.length g)):=
 F.ok S (λc H Q E h=>AX h) λb A a s H c Q E hr h=>let ⟨t,hp⟩:=d f b A a s H E hr;⟨t,hp.ps,wV hp.ms h⟩
end L3
namespace L3
open PySem L2 PySem.Spec PyProof.Rows
section
variable {K:W.Frag}{E:XK}{t:TE}{f:Pe->M T}
def kO(K:W.Frag)(F H:Hp)(x:Addr)(Q:VK)(t:T):Prop:=∀b c,fw F b->fw b c->(∀a o,a≠x->H a=some o->EN o (c a))->(∀a,b a≠none->F a≠none\/H a=none\/a=x\/∃d,H a=some (.tup d))->i7 K b (.ref x) t->Q .non c
noncomputable def BF(K:W.Frag)(C:Addr)(e:List T->M T):Sp:=λg H Q _=>∃x d c b a,g=.ref x::c/\H x=some (.ins C d [])/\a x=none/\fw a H/\fE K a c b/\(e b).noEr.res (kO K a H x Q) (λ_ _=>False)
def IK{I:Pe->M (List T)}(X:MA K E tr I):ME K E (CD C (BF K C Fn) [] E' tr) (eY I Fn):=λF H σ ρ Q s V q=>by
 refine X.run s V q λD N L B g R i=>?_;intro x m j u v;have w:gy B m (.own x) x=none:=by rw[fu (λz=>v z.symm)];exact j
 have l:fw B (gy (gy B m (.own x)) x (.ins C m [])):=(rN u).trans (rN w);refine⟨x,m,N,D,L,by rw[bG],eW,fG g.fh j,g.fh.trans l,R,?_⟩;cases e:Fn D with
 |bad=>rw[e]at i;exact i.elim
 |er C n=>rw[e]at i;exact i.elim
 |ok t=>
  rw[e]at i;intro Z U a b c d r;refine⟨rfl,i (.ref x) Z U ⟨g.ff.trans a,b,λp o h=>?_,λp J=>?_⟩ r⟩
  .have S:=g.hh p o h;have A:p≠x:=tQ S j;exact LA (g.hh.trans l p o h) λP e=>c p P A e
  .rcases d p J with z|z|z|⟨Y,z⟩
   .exact g.nw p z
   .exact .inr (.inl (fG g.hh (fG l z)))
   .rw[z];exact .inr (.inl (fG g.hh j))
   .cases y:H p with
    |none=>exact .inr (.inl rfl)
    |some o=>exact .inr (.inr ⟨Y,by have k:=g.hh.trans l p o y;rw[z]at k;rw[vZ k λ_ _ y=>nomatch y]⟩)
noncomputable def vF(C:Addr)(n:Nat)(g e:Str)(h d:Pe->M T):List T->M T:=λc=>if c.length=n then (h (none::c.map some)).bind λa=>(d (none::c.map some)).bind λb=>.ok (.obj C [(g,a),(e,b)]) else .bad
structure QK(K:W.Frag)(E:XK)(X:Cx)(body:List Stmt)(f1 f2:Str)(g1 g2:Pe->M T):Prop where
 ex:∃(t1 t2:TE),yF X body (AK (N4 K (j7 0) t1 f1) (N4 K (j7 0) t2 f2))/\ME K E t1 g1/\ME K E t2 g2
def QE(h:X.K=K)(a:PE X o1 (j7 0))(g:Pm K E X a1 t1 g1)(c:PE X o2 (j7 0))(e:Pm K E X a2 t2 g2)
  (d:swapsWith a1 (some (.Attribute o1 f1 p1)) q1.line X.env=pure false:=by rfl) (b:swapsWith a2 (some (.Attribute o2 f2 p2)) q2.line X.env=pure false:=by rfl) :
  QK K E X [.Assign [.Attribute o1 f1 p1] a1 q1,.Assign [.Attribute o2 f2 p2] a2 q2] f1 f2 g1 g2:=by
 subst h;exact⟨t1,t2,nW (IC a g.pe d) (oO (IC c e.pe b)),g.me,e.me⟩
theorem NB{st:Stmt}(cl:vS K C)(n1:jT K C f1)(n2:jT K C f2)(ne:f1≠f2)(D:jS K C "__init__" qual st)(S:gq N N (eU st))
  (mk:W.makesIn K C=true) (kp:W.keepIn K (.ref C)=true) (hm:mg x=some (.ref C)) (hN:N.length=n+1)
  (hb:∀(kV doc pm:Vq) (an:Option Addr) (j ct:Vq) (us:List Vq),us.length=N.length->bindArgs (W.fnOf "__init__" qual (iu st) (fR st) (eU st) .none kV doc pm an j ct) ⟨us,[]⟩=pure (N.zip us))
  (hT:∀(f:Addr) (j:Vq) (A:Around) (g:List Env) (s:Sq) (H:Hp) (E:XK),gB k (A.deeper (envOfC qual (eU st) s.heap.objs.size f j))->QK K E (lK oZ P w K mg base N qual (eU st) f j A g s H E).nox (fR st) f1 f2 g1 g2) :
  Eo P w K mg base x C (k+1) (BF K C (vF C n f1 f2 g1 g2)):=by
 obtain⟨fi,fd,F,Mm⟩:=D.ex;refine⟨⟨fi,fd,N,F.ok S (λvs H Q E h=>?_) (λj A g s H vs Q E hr h=>?_),⟨mk,Mm.at_,Mm.fn,kp⟩,F.binds hb⟩,hm⟩
 .obtain⟨x,B,us,u,F0,rfl,U,fx,s,r,q⟩:=h;unfold vF at q;by_cases J:u.length=n
  .rw[aA,r.length,J,hN]
  .rw[aS J]at q;exact q.elim
 .obtain⟨x,B,us,u,F0,rfl,U,fx,s0,r,q⟩:=h;obtain⟨t1,t2,ps,m1,m2⟩:=(hT fi j A g s H E hr).ex;refine⟨_,ps,?_⟩;unfold vF at q;by_cases J:u.length=n
  .rw[aR J]at q;have V:jL K F0 (jD N (.ref x::us)) (none::u.map some):=λi t e=>by
    cases i with
    |zero=>cases e
    |succ i=>
     rw[List.getElem?_cons_succ,ax]at e;cases hq:u[i]? with
     |none=>rw[hq]at e;cases e
     |some y=>rw[hq]at e;cases e;obtain⟨v,a,b⟩:=r.get hq;refine⟨v,?_,b⟩;unfold L2.jD;rw[List.getElem?_append_left (by rw[ay,aA];exact Nat.succ_lt_succ (aa.mp a).1),ax,List.getElem?_cons_succ,a];rfl
   cases X:g1 (none::u.map some) with
   |bad=>rw[X]at q;exact q.elim
   |er C n=>rw[X]at q;exact q.elim
   |ok a=>
    rw[X,L3.M.bind_ok]at q;cases Z:g2 (none::u.map some) with
    |bad=>rw[Z]at q;exact q.elim
    |er C n=>rw[Z]at q;exact q.elim
    |ok b=>
     rw[Z,L3.M.bind_ok]at q;refine m1 F0 H _ _ _ s0 V ?_;rw[X];intro v Y H1 c r1;have hx1:=c.hh _ _ U;have L:Y x=none:=by
      cases z:Y x with
      |none=>rfl
      |some o=>
       rcases c.nw x (by rw[z];exact λy=>nomatch y) with y|y|⟨_,y⟩
       .exact absurd fx y
       .rw[U]at y;cases y
       .rw[U]at y;cases y
     refine⟨.ref x,rfl,x,C,B,[],rfl,hx1,cl,n1,by decide,?_⟩;have s1:fw Y (gy H1 x (.ins C B (nK f1 v []))):=λp o h=>by
      have l:p≠x:=λz=>by rw[z,L]at h;cases h
      rw[fu l];exact c.fh p o h
     refine m2 Y _ _ _ _ s1 (V.mono c.ff) ?_;rw[Z];intro R I H3 d r2;have hx3:=d.hh x _ eW;have fx2:I x=none:=by
      cases z:I x with
      |none=>rfl
      |some o=>
       rcases d.nw x (by rw[z];exact λy=>nomatch y) with y|y|⟨_,y⟩
       .exact absurd L y
       .rw[eW]at y;cases y
       .rw[eW]at y;cases y
     refine⟨.ref x,rfl,x,C,B,_,rfl,hx3,cl,n2,by show 1<1000;decide,?_⟩;have ep:nK f2 R (nK f1 v [])=[(f1,v),(f2,R)]:=by show (if f1=f2 then _ else _)=_;rw[aS ne];rfl
     have sF:fw I (gy I x (.ins C B [(f1,v),(f2,R)])):=rN fx2;refine q (gy I x (.ins C B [(f1,v),(f2,R)])) _ ((c.ff.trans d.ff).trans sF) (λp o h=>?_) (λp o l h=>?_) (λp l=>?_) (.obj eW (.cons (r1.mono (d.ff.trans sF)) (.cons (r2.mono sF) .nil)))
     .by_cases l:p=x
      .subst l;rw[eW]at h;rw[eW,ep];exact .of h
      .rw[fu l]at h ⊢;exact d.fh p o h
     .rw[fu l];exact LA (c.hh p o h) λo' e=>d.hh p o' (by rw[fu l];exact e)
     .by_cases m:p=x
      .exact .inr (.inr (.inl m))
      .rw[fu m]at l;rcases d.nw p l with z|z|⟨xs,z⟩
       .rcases c.nw p z with y|y|y
        .exact .inl y
        .exact .inr (.inl y)
        .exact .inr (.inr (.inr y))
       .rw[fu m]at z;exact .inr (.inl (fG c.hh z))
       .rw[fu m]at z;cases y:H p with
        |none=>exact .inr (.inl rfl)
        |some o=>exact .inr (.inr (.inr ⟨xs,by have k:=c.hh p o y;rw[z]at k;rw[vZ k λ_ _ y=>nomatch y]⟩))
  .rw[aS J]at q;exact q.elim
end
section
variable {X:Cx}{K:W.Frag}{E:XK}{x m:Str}{C:Addr}{k:Nat}{Fn:List T->M T}{Ff:List T->M (List T)}{e o:Expr}{es:List Expr}{tr:TA}{fr:Pe->M (List T)}{ta:TE}{fa:Pe->M T}{p pos apos:Pos}
def LB(h:Eo X.prog X.w X.K X.mg X.base x C j (BF K C Fn))(hr:gB k X.A)(c:BM K E X (e::es) tr fr)(d:j+1<=k:=by decide)(g:Gl X x:=by rfl)
  (a:(x==("__debug__" : Str))=false:=by decide) (f:starEach (e::es) X.env=(false,eval e X.env)::starEach es X.env:=by rfl) (b:(backTo pos (starEach es X.env)).any (·.1)=false:=by rfl) :
  Pm K E X (.Call (.Name x p) (e::es) [] pos) (CD C (BF K C Fn) [] E0 tr) (eY fr Fn):=⟨Pb h (hr.mono d) c.pa g a f b,IK c.ma⟩
def FI(h:j9 X.prog X.w X.K X.mg X.base C m j (wA K Fn))(hr:gB k X.A)(a:Pm K E X o ta fa)(b:j<=k:=by decide)
  (c:eval (.Call (.Attribute o m apos) [] [] pos) X.env=(do
   let ov <-eval o X.env
   standAt apos.atName
   let (f,first) <-holding [ov] (getMethod ov m pl)
   callWith pos f first (backTo pos (starEach [] X.env)) (backToKw pos (keywordEach [] X.env))):=by rfl) :
  Pm K E X (.Call (.Attribute o m apos) [] [] pos) (wC C m (wA K Fn) [] E0 ta sH) (uJ C m fa eP Fn):=⟨Hz h (hr.mono b) a.pe c,Fe a.me Bj⟩
def Mx(h:j9 X.prog X.w X.K X.mg X.base C m j (Ao K Ff))(hr:gB k X.A)(a:Pm K E X o ta fa)(b:j<=k:=by decide)
  (c:eval (.Call (.Attribute o m apos) [] [] pos) X.env=(do
   let ov <-eval o X.env
   standAt apos.atName
   let (f,first) <-holding [ov] (getMethod ov m pl)
   callWith pos f first (backTo pos (starEach [] X.env)) (backToKw pos (keywordEach [] X.env))):=by rfl) :
  EO K E X (.Call (.Attribute o m apos) [] [] pos) (wC C m (Ao K Ff) [] E0 ta sH) (t9 C m fa eP Ff):=⟨Hz h (hr.mono b) a.pe c,Fu a.me Bj⟩
def FB(b:X.K=K)(c:vS K C)(a:jT K C f)(h:Pm K E X e ta fa)(d:attributeBase e f X.env (eval e X.env)=eval e X.env:=by rfl):Pm K E X (.Attribute e f pos) (Np X.K ta f) (BK C f fa):=by subst b;exact⟨OA h.pe d,NZ c a h.me⟩
@[simp] noncomputable def HV(f:Pe->M T)(m:T->En->Option En):En->O:=λa=>O.of (iC f a) λt=>match m t a with
 |some ρ'=>.nx ρ'
 |none=>.bad
def MX{m:T->En->Option En}(h:ME K E t f)(s:IY K g m):MS K E (lB t g) (HV f m):=λu w F H l b D r q=>
 h.inH r q λx v d c z y j a=>by
  cases e:m x b with
  |none=>rw[e]at a;exact a.elim
  |some ρ'=>rw[e]at a;exact s u w d c l b v x ρ' _ j y e λn i=>a d c _ (.refl _) i
def Km{m:T->En->Option En}(a:Pm K E X e t f)(b:Oz K X tg g m)(c:swapsWithSole [tg] e pos.line X.env=pure false:=by rfl)(hw:swappedStores [tg] e X.env=pure none:=by rfl)
  (d:(assignEach [tg] X.env).map (·.2)=[assign tg X.env]:=by rfl):uR K E X (.Assign [tg] e pos) (lB t g) (HV f m):=⟨GF a.pe b.pg c hw d,MX a.me b.mg⟩
def N2{m:T->En->Option En}(h:f (kD ρ)=.ok t)(a:m t ρ=some ρ'):HV f m ρ=.nx ρ':=by unfold HV iC;rw[h];simp[a]
end
section
variable {P:Program}{w:World}{K:W.Frag}{mg:Str->Option Value}{base:Heap}{C:Addr}{m qual:Str}{st:Stmt}{N ps:List Str}{k:Nat}{g:En->O}
def Px(l:vS K C)(D:jS K C m qual st)(S:gq N ps (eU st))
  (n:∀(kV c i:Vq) (d:Option Addr) (b j:Vq) (us:List Vq),us.length=ps.length->bindArgs (W.fnOf m qual (iu st) (fR st) (eU st) .none kV c i d b j) ⟨us,[]⟩=pure (ps.zip us))
  (o:∀(f:Addr) (b:Vq) (A:Around) (a:List Env) (s:Sq) (H:Hp) (E:XK),gB k (A.deeper (envOfC qual (eU st) s.heap.objs.size f b))->∃t,nM K E (lK oZ P w K mg base N qual (eU st) f b A a s H E).nox (fR st) t g) :
  j9 P w K mg base C m (k+1) (wA K (lQ ps.length N.length g)):=
 CU l D S n (λe H Q E h=>AX h) λf b A a s H e Q E hr h=>let ⟨t,hp⟩:=o f b A a s H E hr;⟨t,hp.ps,wV hp.ms h⟩
def Pz(l:vS K C)(D:jS K C m qual st)(S:gq N ps (eU st))
  (n:∀(kV c i:Vq) (d:Option Addr) (b j:Vq) (us:List Vq),us.length=ps.length->bindArgs (W.fnOf m qual (iu st) (fR st) (eU st) .none kV c i d b j) ⟨us,[]⟩=pure (ps.zip us))
  (o:∀(f:Addr) (b:Vq) (A:Around) (a:List Env) (s:Sq) (H:Hp) (E:XK),gB k (A.deeper (envOfC qual (eU st) s.heap.objs.size f b))->∃t,nM K E (lK oZ P w K mg base N qual (eU st) f b A a s H E).nox (fR st) t g) :
  j9 P w K mg base C m (k+1) (Ao K (wO ps.length N.length g)):=
 CU l D S n (λe H Q E h=>yu h) λf b A a s H e Q E hr h=>let ⟨t,hp⟩:=o f b A a s H E hr;⟨t,hp.ps,tT hp.ms h⟩
end
end L3
namespace L3
open PySem L2 PySem.Spec PyProof.Rows
def MN:Nat->(List Value->Prop)->Prop
 |0,P=>P []
 |k+1,P=>∀v,MN k λus=>P (v::us)
theorem m7:∀{k} {P},MN k P->∀us:List Vq,us.length=k->P us
 |0,_,h,[],_=>h
 |k+1,_,h,v::us,e=>m7 (h v) us (by simpa using e)
def Pv(X:Cx):Prop:=∀x,X.env.scope.names.lookup x=some .cell->∃c,X.env.cells.lookup x=some c
structure Zx(P:Program)(w:World)(K:W.Frag)(mg:Str->Option Value)(base:Heap):Prop where
 here:True
section
variable {P:Program}{w:World}{K:W.Frag}{mg:Str->Option Value}{base:Heap}
noncomputable abbrev CP(_:Zx P w K mg base)(x:Str)(k:Nat)(F:List T->M T):Prop:=jK P w K mg base x k (wA K F)
noncomputable abbrev CF(_:Zx P w K mg base)(x:Str)(k:Nat)(F:List T->M (List T)):Prop:=jK P w K mg base x k (Ao K F)
end
section
variable {P:Program}{w:World}{K:W.Frag}{mg:Str->Option Value}{base:Heap}{x m qual:Str}{C:Addr}{st:Stmt}{g:En->O}
noncomputable abbrev Pd(P:Program)(w:World)(K:W.Frag)(mg:Str->Option Value)(base:Heap)(k:Nat)(qual:Str)(st:Stmt)(N:List Str)(g:En->O):Prop:=∀{f:Addr} {cdv:Vq} {A:Around} {outer:List Env} {s:Sq} {H:Hp} {E:XK},N.Nodup->Pv (lK oZ P w K mg base N qual (eU st) f cdv A outer s H E).nox->gB k (A.deeper (envOfC qual (eU st) s.heap.objs.size f cdv))->∃t,nM K E (lK oZ P w K mg base N qual (eU st) f cdv A outer s H E).nox (fR st) t g
abbrev OD(x qual:Str)(st:Stmt)(ps:List Str):Prop:=∀(kV doc pm:Vq) (an:Option Addr) (cdv ct:Vq),MN ps.length λus=>bindArgs (W.fnOf x qual (iu st) (fR st) (eU st) .none kV doc pm an cdv ct) ⟨us,[]⟩=pure (ps.zip us)
def kK(_:Zx P w K mg base) k F N ps (e:F=lQ ps.length N.length g) (D:fC K mg x st) (l:Pd P w K mg base k x st N g) (S:gq N ps (eU st):=by constructor<;>first|rfl|decide +kernel)
  (i:OD x x st ps:=by first|exact λ_ _ _ _ _ _ _ _=>rfl|exact λ_ _ _ _ _ _ _=>rfl|exact λ_ _ _ _ _ _ _ _ _=>rfl|exact λ_ _ _ _ _ _ _ _ _ _=>rfl|exact λ_ _ _ _ _ _ _ _ _ _ _=>rfl|exact λ_ _ _ _ _ _=>rfl) :
  jK P w K mg base x (k+1) (wA K F):=e▸Q5 D S (λa b c d e f j n=>m7 (i a b c d e f) j n) λ_ _ _ _ _ _ _ r=>l S.nd (λ_ h=>kv h) r
def zd(_:Zx P w K mg base) k F N ps (e:F=wO ps.length N.length g) (D:fC K mg x st) (l:Pd P w K mg base k x st N g) (S:gq N ps (eU st):=by constructor<;>first|rfl|decide +kernel)
  (i:OD x x st ps:=by first|exact λ_ _ _ _ _ _ _ _=>rfl|exact λ_ _ _ _ _ _ _=>rfl|exact λ_ _ _ _ _ _ _ _ _=>rfl|exact λ_ _ _ _ _ _ _ _ _ _=>rfl|exact λ_ _ _ _ _ _ _ _ _ _ _=>rfl|exact λ_ _ _ _ _ _=>rfl) :
  jK P w K mg base x (k+1) (Ao K F):=e▸QV D S (λa b c d e f j n=>m7 (i a b c d e f) j n) λ_ _ _ _ _ _ _ r=>l S.nd (λ_ h=>kv h) r
def PJ(_:Zx P w K mg base) k F N ps (e:F=lQ ps.length N.length g) (i:vS K C) (D:jS K C m qual st) (n:Pd P w K mg base k qual st N g) (S:gq N ps (eU st):=by constructor<;>first|rfl|decide +kernel)
  (j:OD m qual st ps:=by first|exact λ_ _ _ _ _ _ _=>rfl|exact λ_ _ _ _ _ _ _ _=>rfl|exact λ_ _ _ _ _ _ _ _ _=>rfl) :
  j9 P w K mg base C m (k+1) (wA K F):=e▸Px i D S (λa b c d e f l o=>m7 (j a b c d e f) l o) λ_ _ _ _ _ _ _ r=>n S.nd (λ_ h=>kv h) r
def Oo(_:Zx P w K mg base) k F N ps (e:F=wO ps.length N.length g) (i:vS K C) (D:jS K C m qual st) (n:Pd P w K mg base k qual st N g) (S:gq N ps (eU st):=by constructor<;>first|rfl|decide +kernel)
  (j:OD m qual st ps:=by first|exact λ_ _ _ _ _ _ _=>rfl|exact λ_ _ _ _ _ _ _ _=>rfl|exact λ_ _ _ _ _ _ _ _ _=>rfl) :
  j9 P w K mg base C m (k+1) (Ao K F):=e▸Pz i D S (λa b c d e f l o=>m7 (j a b c d e f) l o) λ_ _ _ _ _ _ _ r=>n S.nd (λ_ h=>kv h) r
def PU(_:Zx P w K mg base) k F N ps (e:F=lQ ps.length N.length g) (D:IT K x x st f fd) (a:Pd P w K mg base k x st N g) (S:gq N ps (eU st):=by constructor<;>first|rfl|decide +kernel) :
  lA P w K mg base oZ (k+1) f fd ps (wA K F):=e▸QH D S λ_ _ _ _ _ _ _ r=>a S.nd (λ_ h=>kv h) r
def QW(_:Zx P w K mg base) k F N (e:F=vF C n f1 f2 g1 g2) (v:vS K C) (o:jT K C f1) (u:jT K C f2) (j:W.makesIn K C=true) (l:W.keepIn K (.ref C)=true) (q:mg x=some (.ref C)) (D:jS K C "__init__" qual st)
  (z:∀{f:Addr} {i:Vq} {A:Around} {h:List Env} {s:Sq} {H:Hp} {E:XK},gB k (A.deeper (envOfC qual (eU st) s.heap.objs.size f i))->QK K E (lK oZ P w K mg base N qual (eU st) f i A h s H E).nox (fR st) f1 f2 g1 g2)
  (S:gq N N (eU st):=by constructor<;>first|rfl|decide +kernel) (y:OD "__init__" qual st N:=by exact λ_ _ _ _ _ _ _ _ _=>rfl) (ne:f1≠f2:=by decide) (t:N.length=n+1:=by rfl) :
  Eo P w K mg base x C (k+1) (BF K C F):=e▸NB v o u ne D S j l q t (λa b c d e f p B=>m7 (y a b c d e f) p B) λ_ _ _ _ _ _ _ r=>z r
end
section
variable {K:W.Frag}{E:XK}{X:Cx}{tg elt iter:Expr}{ifs:List Expr}{scope:Scope}{wi:TI}{g:TG}{tt:TT}{te:TE}{fe:Pe->M T}{fi:Pe->M (List T)}{m:T->Pe->Option Pe}{ft:Pe->M Bool}{pos:Pos}{x:Str}
noncomputable abbrev Rm(K:W.Frag)(X:Cx)(scope:Scope)(N:List Str)(tg elt:Expr)(ifs:List Expr)(g:TG)(tt:TT)(te:TE)(m:T->Pe->Option Pe)(ft:Pe->M Bool)(fe:Pe->M T):Prop:=∀{C s₃ H ex pn},N.Nodup->Pv (lg X N scope C s₃ H ex pn)->OP K (lg X N scope C s₃ H ex pn) tg g m/\EZ K IX (lg X N scope C s₃ H ex pn) ifs tt ft/\Pm K IX (lg X N scope C s₃ H ex pn) elt te fe
def jh N ix (d:Pv X) (f:Gz K E X tg iter wi fi) (a:Rm K X scope N tg elt ifs g tt te m ft fe) (h:w9 X.N X.env.scope scope N ix=true:=by rfl) (b:m8 ix g:=by first|exact uh rfl|exact tH rfl rfl) (nd:N.Nodup:=by decide) (c:X.calm=true:=by rfl)
  (e:∀x,foldedSetIterable iter X.env x=pure x:=by intro _;rfl):EO K E X (.ListComp elt [⟨tg,iter,ifs,0⟩] scope pos) (IE ix wi g tt te) (i9 ix fi m ft fe):=
 let L:=Ph d h
 Pk c f L b (λ_ _ _ _ _=>a nd (GX L)) e
def my N ix i (e:X.N.Nodup) (h:Pv X) (o:Gz K E X tg iter wi fi) (a:Rm K X scope N tg elt ifs g tt te m ft fe)
  (f:MF K E (IE ix wi g tt te) (i9 ix fi m ft fe)->MS K E (lB (IE ix wi g tt te) (iw i)) gm) (p:w9 X.N X.env.scope scope N ix=true:=by rfl) (c:m8 ix g:=by first|exact uh rfl|exact tH rfl rfl) (nd:N.Nodup:=by decide) (j:DI X.env.scope x:=by first|exact Or.inl rfl|exact Or.inr rfl) (d:X.calm=true:=by rfl)
  (k:X.N[i]? = some x:=by rfl) (n:X.fn x=true\/X.env.scope.names.lookup x=some .local:=by first|exact .inl rfl|exact .inr rfl)
  (b:swapsWith (.ListComp elt [⟨tg,iter,ifs,0⟩] scope pos) (some (.Name x py)) spos.line X.env=pure true:=by rfl)
  (l:∀x,foldedSetIterable iter X.env x=pure x:=by intro _;rfl):uR K E X (.Assign [.Name x py] (.ListComp elt [⟨tg,iter,ifs,0⟩] scope pos) spos) (lB (IE ix wi g tt te) (iw i)) gm:=
 let L:=Ph h p
 Na i e j d o L c (λ_ _ _ _ _=>a nd (GX L)) f k n b l
end
end L3
namespace L3
open PySem L2
def kH(f:Ky):T:=.tup [.int f.1,.tup (f.2.map T.int)]
def zH:List T->Option (LI)
 |[]=>some []
 |.int i::r=>(zH r).map (i :: ·)
 |_=>none
def uT:T->Option Ky
 |.tup [.int d,.tup ts]=>(zH ts).map λl=>(d,l)
 |_=>none
theorem vW:∀l:LI,zH (l.map T.int)=some l
 |[]=>rfl
 |i::l=>by simp[zH,vW l]
def qP(f:Ky):uT (kH f)=some f:=by simp[uT,kH,vW]
theorem vP{K:W.Frag}{F:Hp}:∀{vs:List V} {ts:List T} {l:LI},fE K F vs ts->zH ts=some l->vs=l.map V.int
 |_,_,_,.nil,h=>by cases h;rfl
 |_,_,_,.cons (t:=t) r rs,h=>by
  cases t with
  |int i=>obtain⟨a,e,rfl⟩:=cI.mp h;rw[r.int_inv,vP rs e];rfl
  |_=>cases h
def vE{K:W.Frag}{F:Hp}{v:V}{t:T}{g:Ky}(r:i7 K F v t)(h:uT t=some g):∃b,v=.ref b/\uQ F b g:=by
 unfold uT at h;split at h
 .rename_i d m;obtain⟨l,e,rfl⟩:=cI.mp h;obtain⟨a,o,rfl,i,c⟩:=r.tup_inv;cases c with
  |cons r1 c=>
   cases c with
   |cons r2 c=>cases c;obtain⟨j,n,rfl,k,f⟩:=r2.tup_inv;rw[r1.int_inv]at i;exact⟨a,rfl,j,i,by rw[k,vP f e]⟩
 .cases h
theorem v5{K:W.Frag}{F:Hp}:∀l:LI,fE K F (l.map V.int) (l.map T.int)
 |[]=>.nil
 |i::l=>.cons (.int i) (v5 l)
def DM{K:W.Frag}{F:Hp}{b:Addr}{g:Ky}(x:uQ F b g):i7 K F (.ref b) (kH g):=let ⟨b2,e1,e2⟩:=x;.tup e1 (.cons (.int _) (.cons (.tup e2 (v5 _)) .nil))
def tR{K:W.Frag}{F:Hp}{bs:List Addr}{fl:List Ky}(p:Paired (uQ F) bs fl):fE K F (bs.map V.ref) (fl.map kH):=by
 induction p with
 |nil=>exact .nil
 |cons h t ih=>exact .cons (DM h) ih
noncomputable def HX(a:List Ky)(t:T):M (List Ky):=match t with
 |.non=>.ok a
 |t=>match uT t with
  |some g=>.ok (uE a g)
  |none=>.bad
noncomputable def nQ(st:T->List Ky->M (List Ky)):List T->List Ky->M (List Ky)
 |[],acc=>.ok acc
 |t::r,acc=>(st t acc).bind (nQ st r)
def wg(a b:Ky):Bool:=!sU (ky b) (ky a)
def gX(l:List Ky):List Ky:=l.mergeSort wg
theorem sj{g:Type}{r:g->g->Prop}(c:∀a b,r a b->r b a->a=b):∀{l m:List g},l.Perm m->l.Pairwise r->m.Pairwise r->l=m
 |[],m,p,_,_=>(List.Perm.eq_nil p.symm).symm
 |a::l,[],p,_,_=>by have:=p.length_eq;simp at this
 |a::l,b::m,p,h1,h2=>by
  have e:a=b:=by
   have d:a∈b::m:=p.mem_iff.mp bj;have f:b∈a::l:=p.mem_iff.mpr bj;rcases aG.mp d with e|d
   .exact e
   .rcases aG.mp f with e|f
    .exact e.symm
    .exact c a b ((dm.mp h1).1 b f) ((dm.mp h2).1 a d)
  subst e;rw[sj c (List.Perm.cons_inv p) (dm.mp h1).2 (dm.mp h2).2]
def J7{f g:Ky}(b:sU f g=false)(a:sU g f=false):f=g:=by
 unfold sU at b a;by_cases e:f.1=g.1
 .rw[aR e]at b;rw[aR e.symm]at a;exact Prod.ext e (zZ b a)
 .rw[aS e]at b;rw[aS (Ne.symm e)]at a;have:=of_decide_eq_false b;have:=of_decide_eq_false a;omega
def HI(a b:Ky)(d:wg a b=true)(c:wg b a=true):a=b:=by unfold wg at d c;simp only[dq]at d c;have:=J7 c d;have e:(ky a).1=(ky b).1:=congrArg Prod.fst this;have f:(ky a).2=(ky b).2:=congrArg Prod.snd this;have g:-a.1 = -b.1:=e;exact Prod.ext (by omega) f
def Ft(a b c:Ky)(e:wg a b=true)(d:wg b c=true):wg a c=true:=by unfold wg at e d ⊢;simp only[dq]at e d ⊢;exact FH e d
def Cg(a b:Ky):(wg a b||wg b a)=true:=by
 unfold wg;cases h:sU (ky b) (ky a) with
 |false=>rfl
 |true=>rw[Fo h];rfl
def Ht{l m:List Ky}(p:m.Perm l)(h:m.Pairwise (λa b=>sU (ky b) (ky a)=false)):m=gX l:=by refine sj (r:=λa b=>wg a b=true) HI (p.trans (du l wg).symm) (h.imp λ{a b} z=>by unfold wg;rw[z];rfl) ?_;exact dw Ft Cg l
section
variable {P:Program}{w:World}{K:W.Frag}{E:XK}{Fb Hb F H F' H':Hp}{ρ:Pe}{jd:Nat}{a:Addr}{σ:St}{fl:List Ky}{D:qp}
structure Bk(P:Program)(w:World)(K:W.Frag)(Fb Hb:Hp)(jd:Nat)(a:Addr)(n:Nat)(ρ:Pe)(F H:Hp)(σ:St)(fl:List Ky):Prop where
 gr:Gr Fb Hb F H
 vars:jL K F σ ρ
 len:σ.length=n
 d:σ[jd]? = some (some (.ref a))
 fa:F a=none
 ha:Hb a=none
 fd:∃bs,KF P w F H a bs fl
def Bk.grow{n:Nat}(b:Bk P w K Fb Hb jd a n ρ F H σ fl)(g:Gr F H F' H'):Bk P w K Fb Hb jd a n ρ F' H' σ fl:=by
 obtain⟨bs,c,e,f,p⟩:=id b.fd;refine⟨b.gr.trans g,b.vars.mono g.ff,b.len,b.d,?_,b.ha,bs,KF.mono ⟨c,e,f,p⟩ g.ff g.hh⟩;cases z:F' a with
 |none=>rfl
 |some u=>
  rcases g.nw a (by rw[z];exact λw=>nomatch w) with y|y|⟨_,y⟩
  .exact absurd b.fa y
  .rw[e]at y;cases y
  .rw[e]at y;cases y
def Bk.setN{n j:Nat}{v:V}(b:Bk P w K Fb Hb jd a n ρ F H σ fl)(c:∀t,ρ[j]?≠some (some t))(k:j≠jd):Bk P w K Fb Hb jd a n ρ F H (σ.set j (some v)) fl:=
 ⟨b.gr,λi t e=>by
  have:i≠j:=λz=>by subst z;exact c t e
  obtain⟨h,g,f⟩:=b.vars i t e;exact⟨h,by rw[ar (Ne.symm this)];exact g,f⟩,by rw[bO];exact b.len,by rw[ar k];exact b.d,b.fa,b.ha,b.fd⟩
def Bk.setP{n j:Nat}{v:V}{t:T}(b:Bk P w K Fb Hb jd a n ρ F H σ fl)(f:j<n)(l:j≠jd)(r:i7 K F v t):Bk P w K Fb Hb jd a n (ρ.set j (some t)) F H (σ.set j (some v)) fl:=
 ⟨b.gr,λi u e=>by
  by_cases z:i=j
  .subst z;have c:i<σ.length:=by rw[b.len];exact f
   rw[List.getElem?_set]at e;simp only[if_true]at e;split at e
   .cases e;exact⟨v,by rw[List.getElem?_set_self c],r⟩
   .cases e
  .rw[ar (Ne.symm z)]at e;obtain⟨k,h,g⟩:=b.vars i u e;exact⟨k,by rw[ar (Ne.symm z)];exact h,g⟩,by rw[bO];exact b.len,by rw[ar l];exact b.d,b.fa,b.ha,b.fd⟩
def Bk.less{n:Nat}{ρ':Pe}(b:Bk P w K Fb Hb jd a n ρ F H σ fl)(h:∀(i:Nat) t,ρ'[i]? = some (some t)->ρ[i]? = some (some t)):Bk P w K Fb Hb jd a n ρ' F H σ fl:=⟨b.gr,λi t e=>b.vars i t (h i t e),b.len,b.d,b.fa,b.ha,b.fd⟩
def LW(P:Program)(w:World)(c:TE)(b jd:Nat):TS:=AK (lB c (iw b)) (K9 (tB (L8 (j7 b))) (LN P w (j7 jd) (j7 b) (tC (.bl true))) BV)
def P0{u:TE}{fe:Pe->M T}{n j:Nat}(B:ME K E u fe)(b:Bk P w K Fb Hb jd a n ρ F H σ fl)(S:∀t,ρ[j]?≠some (some t))(L:j≠jd)(I:j<n)(hl:fl.length<1000)
  (q:((fe ρ).bind (HX fl)).res (λi=>∀F' H' h,fw F F'->Bk P w K Fb Hb jd a n ρ F' H' h i->D.nx h H') (kE E Fb Hb)):LW P w u j jd D σ H:=by
 refine B F H σ ρ _ b.gr.fh b.vars ((M.res.unb q).mono (λt z v F' H' g r=>?_) λC n z=>z.go b.gr);have f:=(b.grow g).setN (v:=v) S L;have x:(σ.set j (some v))[j]? = some (some v):=List.getElem?_set_self (by rw[b.len];exact I);refine⟨v,x,!decide (v=.non),rfl,?_⟩;by_cases s:v=.non
 .rw[aD s];subst s;cases r;exact QP (z F' H' _ g.ff f)
 .rw[aC s];refine QX ?_;have A:∃m,uT t=some m/\(M.ok (uE fl m)).res (λi=>∀F' H' h,fw F F'->Bk P w K Fb Hb jd a n ρ F' H' h i->D.nx h H') (kE E Fb Hb):=by
   unfold HX at z;split at z
   .cases r;exact absurd rfl s
   .split at z
    .rename_i m e;exact⟨m,e,z⟩
    .exact z.elim
  obtain⟨m,Q,J⟩:=A;obtain⟨N,rfl,l⟩:=vE r Q;obtain⟨bs,R,e,Z,p⟩:=f.fd;have Y:1000<sizeLine:=by decide
  refine⟨_,f.d,_,x,a,N,R,_,rfl,rfl,e,JG p f.gr.fh,Fi (l.mono f.gr.fh),by rw[Paired.length p];omega,λy X=>?_⟩;have U:=M4 (P:=P) (w:=w) (H:=H') (a:=a) (r:=y) p l;refine J F' _ _ g.ff ⟨⟨f.gr.ff,λc o k=>?_,λc o k=>?_,f.gr.nw⟩,f.vars,f.len,f.d,f.fa,f.ha,U⟩
  .rw[fu (fF k f.fa)];exact f.gr.fh c o k
  .rw[fu (fF k f.ha)];exact f.gr.hh c o k
def E3(fl:List Ky)(g:Ky):(uE fl g).length<=fl.length+1:=by unfold uE;split<;>simp
def C7{J:It}{its:List T}{s:Hp}{n:Nat}{g:TG}{X:TS}{st:T->List Ky->M (List Ky)}(r:vt K J its s)
  (Q:∀t x F H σ f (D:qp),t∈its->fw s F->Bk P w K Fb Hb jd a n ρ F H σ f->i7 K F x t->(st t f).res (λc=>∀F' H' d,fw F F'->Bk P w K Fb Hb jd a n ρ F' H' d c->D.nx d H') (kE E Fb Hb)->g x σ H λp L=>X D p L)
  (s1:fw s F) (b:Bk P w K Fb Hb jd a n ρ F H σ fl) (q:(nQ st its fl).res (λc=>∀F' H' d,fw F F'->Bk P w K Fb Hb jd a n ρ F' H' d c->D.nx d H') (kE E Fb Hb)) :
  ∃W:Nat->Nat->St->Hp->Prop,(∃m,W 0 m σ H)/\∀i m σ H,W i m σ H->
 (J.stop i H/\D.nx σ H)\/(J.go i H/\∃N:St->Hp->Prop,(∀d H',N d H'->∃Z,Z<m/\W (i+1) Z d H')/\∀x H',J.yld i H x H'->g x σ H' λp L=>X {D with nx:=N,ct:=N,bk:=D.nx} p L):=by
 refine⟨λi k d H'=>i<=its.length/\k=its.length-i/\∃F' f,fw s F'/\Bk P w K Fb Hb jd a n ρ F' H' d f/\(nQ st (its.drop i) f).res (λc=>∀l o h,fw F' l->Bk P w K Fb Hb jd a n ρ l o h c->D.nx h o) (kE E Fb Hb),⟨_,bF _,rfl,F,fl,s1,b,by simpa using q⟩,?_⟩
 rintro i k u I ⟨hi,rfl,Y,f,B,A,v⟩
 by_cases j:i<its.length
 .right;refine⟨r.go i I (B.trans A.gr.fh) j,λd H'=>∃F' f,fw s F'/\Bk P w K Fb Hb jd a n ρ F' H' d f/\(nQ st (its.drop (i+1)) f).res (λc=>∀l o h,fw F' l->Bk P w K Fb Hb jd a n ρ l o h c->D.nx h o) (kE E Fb Hb),λd H' z=>⟨its.length-(i+1),by omega,j,rfl,z⟩,λx H' y=>?_⟩;have et:=ag j;obtain⟨F3,C,rp⟩:=r.yld i _ Y I x H' B A.gr.fh et y;rw[cZ j]at v;unfold nQ at v;refine Q _ x F3 H' u f _ (aW j) (B.trans C.ff) (A.grow C) rp ((M.res.unb v).mono (λc z=>?_) λ_ _ z=>z);intro F4 H4 σ4 U b4;exact⟨F4,c,(B.trans C.ff).trans U,b4,z.mono (λR y F5 H5 S s5 b5=>y F5 H5 S ((C.ff.trans U).trans s5) b5) λ_ _ z=>z⟩
 .have e:i=its.length:=by omega
  subst e;rw[dh (aL _)]at v;exact .inl ⟨r.stop I (B.trans A.gr.fh),v Y I u (.refl _) A⟩
abbrev RA(P:Program)(w:World):List V->Hp->VK->Prop:=λzs H Q=>∃a xs,zs=[.ref a]/\H a=some (wc P w a xs)/\∀l:Addr,H l=none->Q (.ref l) (gy H l (.lst (xs.map λx=>.ref x.2.1)))
abbrev QC(P:Program)(w:World)(jd:Nat):TE:=IU (RA P w) (oA (j7 jd) sH)
def Lz{n:Nat}{Q:VK}(b:Bk P w K Fb Hb jd a n ρ F H σ fl)(q:∀l bs,H l=none->Paired (uQ F) bs fl->Bk P w K Fb Hb jd a n ρ (gy F l (.lst (bs.map V.ref))) (gy H l (.lst (bs.map V.ref))) σ fl->Q (.ref l) (gy H l (.lst (bs.map V.ref)))):QC P w jd σ H Q:=by
 obtain⟨bs,c,e,f,p⟩:=id b.fd;have i:=KF.flr (P:=P) (w:=w) (H:=H) (a:=a) ⟨c,e,f,p⟩;refine⟨_,b.d,a,c,rfl,e,λl h=>?_⟩;have j:(c.map λx:FE=>V.ref x.2.1)=bs.map V.ref:=by rw[f,aJ];rfl
 rw[j];have g:Gr F H (gy F l (.lst (bs.map V.ref))) (gy H l (.lst (bs.map V.ref))):=Gr.new b.gr.fh h;exact q l bs h i (b.grow g)
def KH{n:Nat}{ts:List T}(b:Bk P w K Fb Hb jd a n ρ F H σ fl)(g:fl.length<64)(k:kF K Fb Hb D.rt ((gX fl).map kH)){src:V->Hp->List Addr->Prop}{x:V}{bs:List Addr}(o:src x H bs)(h:Paired (uQ F) bs fl) :
  ∃bs fl,src x H bs/\Paired (uQ H) bs fl/\fl.length<64/\∀f H' c d,fw H H'->H f=none->H' f=some (.lst (c.map V.ref))->(∀R:Addr->Ky->Prop,Paired R bs fl->Paired R c d)->d.Perm fl->d.Pairwise (λa b=>sU (ky b) (ky a)=false)->D.rt (.ref f) H':=by
 refine⟨bs,fl,o,Paired.mapP h λ_ _ z=>z.mono b.gr.fh,g,λf H' c d sm i m q j p=>?_⟩;have e:=Ht j p;have l:F f=none:=fG b.gr.fh i;refine k f (c.map V.ref) F H' ⟨b.gr.ff,b.gr.fh.trans sm,b.gr.hh.trans sm,b.gr.nw⟩ (fG b.gr.hh i) l m ?_;rw[<-e];exact tR (q _ h)
def OR(P:Program)(w:World)(K:W.Frag)(e b:TE)(d:TI)(jd f c g:Nat):TS:=AK (lB (E6 P w e (tC (.bl true))) (iw jd)) (AK (yr d (iw f) (yr (zq K (QC P w jd)) (iw c) (LW P w b g jd))) (Ad (GR (Nr K) (QC P w jd))))
noncomputable def Pc(fe:Pe->M T)(c:Nat)(ρ:Pe):T->List Ky->M (List Ky):=λt b=>if b.length<1000 then (fe (ρ.set c (some t))).bind (HX b) else .bad
noncomputable def DT(fe:Pe->M T)(d c:Nat)(ρ:Pe):T->List Ky->M (List Ky):=λt b=>nQ (Pc fe c (ρ.set d (some t))) (b.map kH) b
noncomputable def P3(m:M (List Ky)):O:=O.of m λl=>if l.length<64 then .rf ((gX l).map kH) else .bad
noncomputable def Dk(f fe:Pe->M T)(h:Pe->M (List T))(jd d b e:Nat):En->O:=λρ=>.of (f (kD ρ)) λi=>match uT i with
 |none=>.bad
 |some g=>.of (h (((((kD ρ).set jd none).set e none).set d none).set b none)) λc=>P3 (nQ (DT fe d b (((((kD ρ).set jd none).set e none).set d none).set b none)) c [g])
def jz{ρ:Pe}{i j:Nat}{t:T}(h:(ρ.set j none)[i]? = some (some t)):i≠j/\ρ[i]? = some (some t):=by
 by_cases e:i=j
 .subst e;rw[List.getElem?_set]at h;simp only[if_true]at h;split at h<;>cases h
 .rw[ar (Ne.symm e)]at h;exact⟨e,h⟩
def EW{F:Hp}{σ:St}{ρ:Pe}{j:Nat}{v:V}(h:jL K F σ ρ):jL K F (σ.set j (some v)) (ρ.set j none):=λi t e=>by obtain⟨c,e⟩:=jz e;obtain⟨f,b,d⟩:=h i t e;exact⟨f,by rw[ar (Ne.symm c)];exact b,d⟩
def wU{ρ:Pe}{i j:Nat}{x:Option T}{t:T}(b:i≠j)(h:∀t,ρ[j]?≠some (some t)):(ρ.set i x)[j]?≠some (some t):=by rw[ar b];exact h t
def My{t0 te:TE}{f0 fe:Pe->M T}{wi:TI}{fi:Pe->M (List T)}{jd d f g:Nat}(h0:ME K E t0 f0)(he:ME K E te fe)(hi:MI K E wi fi)(h:d≠jd/\f≠jd/\g≠jd/\d≠f/\d≠g/\f≠g){N:Nat}(hN:d<N/\f<N/\g<N/\jd<N):MS K E (OR P w K t0 te wi jd d f g) (λρ=>if ρ.length=N then Dk f0 fe fi jd d f g ρ else .bad):=λF0 H0 F H σ ρ D r q=>by
 dsimp only at q;by_cases m:ρ.length=N
 case neg=>rw[aS m]at q;exact q.elim
 rw[aR m]at q;have L:σ.length=N:=r.len.trans m;intro p hp;have gp:Gr F H F (gy H p (wc P w p [])):=Gr.new' r.gr.fh hp;have fp0:F p=none:=fG r.gr.fh hp;refine h0 F _ σ (kD ρ) _ gp.fh r.vars ((O.res_of q).mono (λt0 z v F1 H1 R r1=>?_) λC n z=>z.go (r.gr.trans gp));cases ea:uT t0 with
 |none=>rw[ea]at z;exact z.elim
 |some g0=>
  rw[ea]at z;obtain⟨b0,rfl,I⟩:=vE r1 ea;have hp1:H1 p=some (wc P w p []):=R.hh _ _ eW;refine⟨hp1,(.inl g0.1,g0.2.map .inl),b0,rfl,Fi (I.mono R.fh),λrv hrv=>?_⟩;have Q:F1 p=none:=by
   cases y:F1 p with
   |none=>rfl
   |some u=>
    rcases R.nw p (by rw[y];exact λw=>nomatch w) with k|k|⟨_,k⟩
    .exact absurd fp0 k
    .rw[eW]at k;cases k
    .rw[eW]at k;cases k
  have G0:=(r.gr.trans gp).trans R;have S:H0 p=none:=fG r.gr.hh hp;have hd':jd<σ.length:=by rw[L];exact hN.2.2.2
  have b:Bk P w K F0.hp H0 jd p N (((((kD ρ).set jd none).set g none).set d none).set f none) F1 (gy H1 p (wc P w p [((.inl g0.1,g0.2.map .inl),b0,rv)])) (σ.set jd (some (.ref p))) [g0]:=by
   refine⟨⟨G0.ff,λc o U=>?_,λc o U=>?_,G0.nw⟩,λi t e=>?_,by rw[bO];exact L,List.getElem?_set_self hd',Q,S,[b0],_,eW,rfl,.cons ⟨rfl,I⟩ .nil⟩
   .rw[fu (fF U Q)];exact G0.fh c o U
   .rw[fu (fF U S)];exact G0.hh c o U
   .obtain⟨_,e⟩:=jz e;obtain⟨_,e⟩:=jz e;obtain⟨_,e⟩:=jz e;exact (EW (r.vars.mono R.ff)) i t e
  refine hi F1 _ _ _ _ b.gr.fh b.vars ((O.res_of z).mono (λits z J F2 H2 g2 iok=>?_) λC n z=>z.go (b.gr));refine C7 (st:=DT fe d f (((((kD ρ).set jd none).set g none).set d none).set f none)) iok (λt x F3 H3 σ3 Y D3 ht s3 b3 rx q3=>?_) (.refl _) (b.grow g2) ((O.res_of z).mono (λY z F4 H4 σ4 s4 b4=>?_) λ_ _ z=>z)
  .have nk:∀t,(((((kD ρ).set jd none).set g none).set d none).set f none)[f]?≠some (some t):=λt e=>(jz e).1 rfl;have ns:∀t,(((((kD ρ).set jd none).set g none).set d none).set f none)[g]?≠some (some t):=λt e=>(jz (jz (jz e).2).2).1 rfl;have nkk:∀t,(((((kD ρ).set jd none).set g none).set d none).set f none)[d]?≠some (some t):=λt e=>(jz (jz e).2).1 rfl;have b4:=b3.setP hN.1 h.1 rx;refine Lz b4 λl bs m pl b5=>⟨l,rfl,⟨_,jQ.of eW⟩,?_⟩;have sl:fw F3 (gy F3 l (.lst (bs.map V.ref))):=iF (fG b3.gr.fh m);have rps:=tR (K:=K) (Paired.mapP pl λ_ _ z=>z.mono sl);refine C7 (st:=Pc fe f ((((((kD ρ).set jd none).set g none).set d none).set f none).set d (some t))) (xV (jQ.of eW) rps) (λt' x' F6 H6 σ6 X D6 ht' s6 b6 rx' Z=>?_) (.refl _) b5 (q3.mono (λB y F7 H7 j s7 b7=>?_) λ_ _ z=>z)
   .unfold Pc at Z;by_cases A:X.length<1000
    .rw[aR A]at Z;have b8:=b6.setP hN.2.1 h.2.1 rx';refine P0 he b8 (λt2=>wU h.2.2.2.2.2 λt3=>wU h.2.2.2.2.1 ns) h.2.2.1 hN.2.2.1 A (Z.mono (λB y F7 H7 j s7 b7=>y F7 H7 j s7 (b7.less λi t2 e=>?_)) λ_ _ z=>z);rw[ar]
     .exact e
     .intro z;subst z;exact wU h.2.2.2.1 nk e
    .rw[aS A]at Z;exact Z.elim
   .refine y F7 H7 j (sl.trans s7) (b7.less λi t2 e=>?_);rw[ar]
    .exact e
    .intro z;subst z;exact nkk t2 e
  .by_cases s:Y.length<64
   .rw[aR s]at z;refine Lz b4 λl bs m pl b5=>?_;have sl:fw F4 (gy F4 l (.lst (bs.map V.ref))):=iF (fG b4.gr.fh m);exact KH (ts:=[]) b5 s z (src:=Nr K) ⟨l,rfl,eW⟩ (Paired.mapP pl λ_ _ z=>z.mono sl)
   .rw[aS s]at z;exact z.elim
end
section
open PySem.W
variable {K:W.Frag}{E:XK}{X:Cx}
def qo.im{a it:Expr}{w:TI}{f:Pe->M (List T)}(h:qo K E X a it w f):Gz K E X a it w f:=⟨h.pi,h.mi.mi⟩
structure Q0(X:Cx)(x:Str)(params:Arguments)(scope:Scope)(body:Expr):Prop where
 S:gq [x] [x] scope
 hx:scope.names.lookup x=some .local
 hb:∀(q:Str) (pm ctv:Vq) (c':Addr) (u:Vq),bindArgs (kla_fn "<lambda>" q params body scope [] pm (.ref c') ctv) ⟨[u],[]⟩=pure [(x,u)]
 cl:closureFor scope X.env=pure []
 df:defaultsOf params X.env=([],[])
def Lf{k:Nat}{qn n d q y g:Str}{B e it:Expr}{t0 F:TE}{f0 fe:Pe->M T}{wi:TI}{fi:Pe->M (List T)}{params:Arguments}{f:Scope}{p1 p2 p3 p4 p5 p6 p7 p8 q1 I q3 q4 q5 q6 q7 q8 q9 Z C r3 r4 r5 r6 r7 r8 r9 P J u3 u4 u5 u6 u7 u8 u9 p p' u:Pos}{j1 j2 j3 H i2 i3:Nat}
  (h j l i:Nat) (nd:X.N.Nodup) (hp:PassesOwn (model X.prog X.w) X.A X.env X.xe) (hr:gB (k+3) X.A) (L:FC X.base X.mg qn X.env.code) (mL:X.mg "list" = none) (mS:X.mg "sorted" = none) (Y:Pm K E X B t0 f0) (hi:Gz K E X (.Name q q3) it wi fi) (D:Pm K E X e F fe)
  (hq:qn++ ".<locals>.<lambda>" = X.env.qual++ "<lambda>" :=by rfl) (o:Q0 X n params f (m9 n p1 p2 p3 p4 p5 p6 p7 p8 j1 j2 j3):=by exact⟨by constructor<;>first|rfl|decide +kernel,rfl,λ_ _ _ _ _=>rfl,rfl,rfl⟩) (v:X.K=K:=by rfl) (t:X.calm=true:=by rfl)
  (hd:X.N[h]? = some d:=by rfl) (hk:X.N[j]? = some q:=by rfl) (hf:X.N[l]? = some y:=by rfl) (hs:X.N[i]? = some g:=by rfl) (r:X.env.scope.names.lookup d=some .local:=by rfl) (Q:X.env.scope.names.lookup q=some .local:=by rfl) (lf:X.env.scope.names.lookup y=some .local:=by rfl) (s:X.env.scope.names.lookup g=some .local:=by rfl)
  (m:(d==("__debug__" : Str))=false/\(d==("__classdict__" : Str))=false/\(g==("__debug__" : Str))=false/\(g==("__classdict__" : Str))=false/\(n==("__debug__" : Str))=false/\(n==("__classdict__" : Str))=false:=by decide) (gL:Gl X "list" :=by rfl) (gS:Gl X "sorted" :=by rfl) (x:j≠h/\l≠h/\i≠h/\j≠l/\j≠i/\l≠i:=by decide)
  (s1:swapsWith (.Dict [some B] [.Constant (.bool true) H q1] I) (some (.Name d P)) J.line X.env=pure false:=by rfl) (s2:swapsWith e (some (.Name g Z)) C.line X.env=pure false:=by rfl) (fs:∀z,foldedSetIterable it X.env z=pure z:=by intro _;rfl) {N:Nat} (hN:j<N/\l<N/\i<N/\h<N:=by decide) :
  nM K E X [.Assign [.Name d P] (.Dict [some B] [.Constant (.bool true) H q1] I) J,
   .For (.Name q q3) it [.For (.Name y q4) (.Call (.Name "list" q5) [.Name d q6] [] q7) [.Assign [.Name g Z] e C,.If (.Compare (.Name g r3) [.IsNot] [.Constant .none i2 r4] r5) [.Assign [.Subscript (.Name d r6) (.Name g r7) r8] (.Constant (.bool true) i3 r9) u3] [] u4] [] u5] [] u6,
   .Return (some (.Call (.Name "sorted" u7) [.Call (.Name "list" u8) [.Name d u9] [] q8] [⟨some "key",.Lambda params (m9 n p1 p2 p3 p4 p5 p6 p7 p8 j1 j2 j3) f q9,p⟩] p')) u] (OR X.prog X.w K t0 F wi h j l i) (λρ=>if ρ.length=N then Dk f0 fe fi h j l i ρ else .bad):=by
 subst v;have R:X.A.units+2<cLine:=by have:=hr.units;omega
 have vd:∀{pos},PE X (.Name d pos) (j7 h):=λ{pos}=>ug hd (.inl r) m.1 m.2.1;have vs:∀{pos},PE X (.Name g pos) (j7 i):=λ{pos}=>ug hs (.inl s) m.2.2.1 m.2.2.2.1;have U:∀{a b c},PE X (.Call (.Name "list" a) [.Name d b] [] c) (QC X.prog X.w h):=λ{a b c}=>rB (BB t) gL mL (by rfl) (kj vd pM);refine⟨nW (rK nd hd (.inl r) (Gd R Y.pe Ir) s1 (.inr r)) (nW (uA hp t hi.pi (sZ nd hk (.inl Q) (.inr Q)) (oO (uA hp t (yg U) (sZ nd hf (.inl lf) (.inr lf)) (nW (rK nd hs (.inl s) D.pe s2 (.inr s)) (oO (LV (Nt (J9 vs)) (oO (KA R vd vs Ir rfl)) C6))))) fs) (oO (xS (HR hr L hq o.S o.hx o.hb o.cl o.df Fq U gS mS ⟨rfl,rfl⟩ m.2.2.2.2.1 m.2.2.2.2.2)))),My Y.me D.me hi.mi x hN⟩
noncomputable abbrev QI(P:Program)(w:World)(K:W.Frag)(mg:Str->Option Value)(base:Heap)(k:Nat)(qual:Str)(st:Stmt)(N:List Str)(g:En->O):Prop:=∀{f:Addr} {cdv:Vq} {A:Around} {outer:List Env} {s:Sq} {H:Hp} {E:XK},FC base mg qual cdv->N.Nodup->Pv (lK oZ P w K mg base N qual (eU st) f cdv A outer s H E).nox->gB k (A.deeper (PyProof.Rows.envOfC qual (eU st) s.heap.objs.size f cdv))->∃t,nM K E (lK oZ P w K mg base N qual (eU st) f cdv A outer s H E).nox (fR st) t g
def NC{P:Program}{w:World}{mg:Str->Option Value}{i:Heap}{x:Str}{st:Stmt}{g:En->O}(_:Zx P w K mg i) k F N ps (e:F=wO ps.length N.length g) (D:fC K mg x st) (L:El K mg i x) (q:QI P w K mg i k x st N g) (S:gq N ps (eU st):=by constructor<;>first|rfl|decide +kernel)
  (p:OD x x st ps:=by first|exact λ_ _ _ _ _ _ _ _=>rfl|exact λ_ _ _ _ _ _ _=>rfl|exact λ_ _ _ _ _ _ _ _ _=>rfl) :
  jK P w K mg i x (k+1) (Ao K F):=e▸F8 D L S (λa b c d e f n r=>m7 (p a b c d e f) n r) (λl H Q E h=>yu h) λf o A j s H l Q E m hr h=>let ⟨t,hp⟩:=q m S.nd (λ_ h=>kv h) hr;⟨t,hp.ps,tT hp.ms h⟩
end
def Ov{l:W.OpenLaw}{q:Program}{k:Nat}{x:Str}{c:List Str}{p:(Str->Option Value)->Heap->Prop}{m:World->Heap->Prop}{d:DefRec}{K:Params->W.Frag}(g:List Str)(r:l.most=some 63)(hr:gB k callerA)(i:d.params.defaults=[])
  (o:∀(w:World) (h:Heap),m w h->(K w.params).In h) (n:∀x∈g,∃d',(PyProof.Rows.recsOf q).find? (λe=>e.name==x)=some d') (v:∀w:World,ub (K w.params) g=true)
  (F:∀(w:World) (mg:Str->Option Value) (j:Addr) (h:Heap),(K w.params).In h->h.Ns mainGlobals mg->mg d.name=some (.ref j)->
   ∃fd:FuncData,(∀(s:Sq) (u:Vq),BindsTo s fd ⟨[u],[]⟩ [(x,u)])/\∀b:Heap,(K w.params).In b->b.Ns mainGlobals mg->(∀y∈g,El (K w.params) mg b y)->lA l.prog w (K w.params) mg b oZ k j fd [x] (HG (K w.params))) :
  W.WalkO q c p m l.row.toRowW d [] (λf vs=>PySem.call f vs):=
 L2.HM g r (by decide) i hr o n v F λ_ _ a t B z A=>⟨a,t,rfl,A,B,z,λ_=>rfl⟩
end L3
namespace L3
open PySem L2
section
variable {K:W.Frag}{E:XK}{X:Cx}
@[simp] noncomputable def wm(i:Nat)(c:En->M T)(f:En->M T):En->O:=λb=>.of (kW b i) λa=>.of (c b) λk=>.of (f b) λt=>match k with
 |.int j=>if 0<=j/\j.toNat<=a.length/\a.length<sizeLine then .nx (b.set i (some (.o (a.take j.toNat++t::a.drop j.toNat)))) else .bad
 |_=>.bad
theorem Iq{i:Nat}{ts:List T}{x y:T}{v w:V}(r:Sr K F0 H0 F H σ ρ)(e:ρ[i]? = some (some (.o ts)))(k:i7 K F w y)(s:i7 K F v x)
  (q:(match y with
   |.int j=>if 0<=j/\j.toNat<=ts.length/\ts.length<sizeLine then O.nx (ρ.set i (some (.o (ts.take j.toNat++x::ts.drop j.toNat)))) else .bad
   |_=>.bad).res K E F0 H0 F D):∃l,σ[i]? = some (some (.ref l))/\xb (.ref l) [w,v] H λ_ t=>D.nx σ t:=by
 cases k with
 |int j=>
  dsimp only at q;by_cases c:0<=j/\j.toNat<=ts.length/\ts.length<sizeLine
  .rw[aR c]at q;obtain⟨p,g,_⟩:=r.ov;obtain⟨_,_,_,m,d,z⟩:=g i ts e;obtain⟨l,b,h,f,u,n⟩:=r.change e ((z.take j.toNat).append (.cons s (z.drop j.toNat)));have:b=m:=by
    have a:=(g i ts e).1;rw[h]at a;have:l=p i:=by simpa using a
    rw[this,d]at f;cases f;rfl
   subst this;exact⟨l,h,l,b,v,j.toNat,j,rfl,rfl,by omega,f,by rw[z.length];exact c.2.1,by rw[z.length];exact c.2.2,q F _ _ (.refl _) n⟩
  .rw[aS c]at q;exact q.elim
 |_=>exact q.elim
def PV(K:W.Frag)(i:Nat)(b a:TE):TE:=QZ K "list" xb (j7 i) (oA b (oA a sH))
def NX(A:∀l B H,H l=some (.lst B)->OQ K "list" (.ref l) H)(u:ME K E tk fk)(h:ME K E t f):MS K E (tZ (PV K i tk t)) (wm i (mD fk) (mD f)):=λU Y F H R m D r q=>by
 unfold wm at q;cases e:kW m i with
 |bad=>rw[e]at q;exact q.elim
 |er C n=>unfold kW at e;split at e<;>cases e
 |ok ts=>rw[e]at q;have c:=qV e;obtain⟨S,z,_⟩:=r.ov;obtain⟨a,_,_,N,d,_⟩:=z i ts c;refine⟨_,a,A _ _ _ d,?_⟩;refine u.inB r q λy w L H1 P k s J=>?_;refine h.inB s J λx v Z Q g I o p=>?_;obtain⟨l,j,b⟩:=Iq o c (k.mono g.ff) I p;rw[a]at j;cases j;exact b
def HU i (n:PE X (.Name x p) (j7 i)) (m:Pm K E X b tb fb) (j:Pm K E X e te fe) (k:starEach [b,e] X.env=(false,eval b X.env)::starEach [e] X.env:=by rfl) (f:starEach [e] X.env=(false,eval e X.env)::starEach [] X.env:=by rfl) (o:X.K=K:=by rfl)
  (a:attributeBase (.Name x p) "insert" X.env (eval (.Name x p) X.env)=eval (.Name x p) X.env:=by rfl)
  (d:((backTo pos (starEach [b,e] X.env)).all (λx=>!x.1)&&(backToKw pos (keywordEach [] X.env)).all (λx=>x.1.isSome)&&decide (([b,e]:List Expr).length+([]:List Keyword).length+(if ([]:List Keyword).isEmpty then 0 else 1)<30))=true:=by rfl)
  (c:(apos.endLine==pos.line)=true:=by rfl) (hplain:(backTo pos (starEach [e] X.env)).any (·.1)=false:=by rfl) (g:swapsWith (.Call (.Attribute (.Name x p) "insert" apos) [b,e] [] pos) none pos'.line X.env=pure false:=by rfl) :
  uR K E X (.Expr (.Call (.Attribute (.Name x p) "insert" apos) [b,e] [] pos) pos') (tZ (PV K i tb te)) (wm i (mD fb) (mD fe)):=by
 subst o;exact⟨wW (FS PySem.F.plainAttrs_list PySem.F.slot_list_insert PySem.F.type_list_insert Dr n (kj m.pe (kj j.pe pM f) k) a d c k hplain) g,NX (λl q H h=>Bz h) m.me j.me⟩
def K6{ρ ρ':En}{us:List T}{t:T}{j:Nat}{a f:Pe->M T}(b:ρ[i]? = some (some (.o us)))(e:a (vw ρ)=.ok (.int (j:Int)))(h:f (vw ρ)=.ok t)(g:lf t=true)(c:j<=us.length)(d:us.length<sizeLine)(hr:ρ'=ρ.set i (some (.o (us.take j++t::us.drop j)))):wm i (mD a) (mD f) ρ=.nx ρ':=by unfold wm mD kW;rw[b,h,e,hr];simp[d,g,c,lf]
end
end L3
namespace CL
open PySem L2 L3
structure Cs where
 Cutting:Addr
 Desk:Addr
 CutError:Addr
 NoCutting:Addr
 NoTable:Addr
 NoFraction:Addr
 NoSpot:Addr
 NoSigns:Addr
 NoLand:Addr
 NoFace:Addr
 NoNumber:Addr
 NoText:Addr
 NoDeed:Addr
def pZ(c:Cs):En->O:=(fq (setO 2 (iC (eV uC (eN 0) (eN 1))))
  (fq (setO 0 (iC (eN 1)))
  (setO 1 (iC (eN 2)))))
def rJ(c:Cs):En->O:=(fq (λa=>kG (gd (eV (fM true) (eN 1) (cM (.int 0)))) (pZ c) ((λa=>match a with|_::some (.p (.int j))::_=>j.natAbs+1|_=>0) a) a)
  (gA (iN BS (eM (eN 0) eP))))
def gY(c:Cs):List T->M T:=lQ 2 3 (rJ c)
def mq(c:Cs):En->O:=(fq (lJ (gd (eV Qq (eN 1) (iN gZ (eM (eN 0) eP)))) (gA (eV gN (eN 0) (eN 1))) f7)
  (gA (cM (.int 0))))
def iD(c:Cs):List T->M T:=lQ 2 2 (mq c)
def A8(c:Cs):En->O:=(gA (JR (xu "int" (eN 0)) (Gg (xu "bool" (eN 0)))))
def jc(c:Cs):List T->M T:=lQ 1 1 (A8 c)
def Ek(c:Cs):En->O:=(fq (lJ (gd (eV JC (eN 0) (cM (.int 0)))) (gA (cM (.int 1))) f7)
  (fq (lJ (gd (eV Qq (eN 0) (cM (.int 0)))) (gA (yE (λi=>.int (-i)) (cM (.int 1)))) f7)
  (gA (cM (.int 0)))))
def mK(c:Cs):List T->M T:=lQ 1 1 (Ek c)
def DU(c:Cs):En->O:=(gA (JR (eY (eM (eN 0) eP) (jc c)) (Q4 Mo Mo (cM (.int 1)) (eN 0) (cM (.int 3)))))
def lp(c:Cs):List T->M T:=lQ 1 1 (DU c)
def rP(c:Cs):Pe->M T:=(eY (eM (eN 0) eP) (jc c))
def rD(c:Cs):Pe->M T:=(eV (fM true) (eN 0) (cM (.int 0)))
def G4(c:Cs):En->O:=(fq (lJ (EM (oW (gd (xu "tuple" (eN 1)))) (gd (eV (fM true) (iN gZ (eM (eN 1) eP)) (eV fY (eN 0) (cM (.int 1)))))) (gA (cM (.bl false))) f7)
  (fq (lJ (oW (gd (iN yQ (eM (gH (i9 [none] (gR (eN 1)) (iM 0) (λ_=>.ok true) (rP c))) eP)))) (gA (cM (.bl false))) f7)
  (gA (iN qu (eM (gH (i9 [none] (gR (kM (eN 1) (λ_=>.ok none) (iU (eN 0)))) (iM 0) (λ_=>.ok true) (rD c))) eP)))))
def mE(c:Cs):List T->M T:=lQ 2 2 (G4 c)
def nO(c:Cs):En->O:=(setO 1 (iC (eV fY (eN 1) (cM (.int 1)))))
def vh(c:Cs):En->O:=(fq (setO 1 (iC (cM (.int 0))))
  (fq (λa=>kG (gd (eV (fM false) (eV gN (eN 0) (eN 1)) (cM (.int 0)))) (nO c) ((λa=>match a with|some (.p (.tup ts))::_=>ts.length+1|_=>0) a) a)
  (gA (eN 1))))
def jB(c:Cs):List T->M T:=lQ 1 2 (vh c)
def pF(c:Cs):Pe->M T:=(eV (fM false) (eV ju (eN 0) (eV gN (eN 2) (eN 3))) (eV ju (eN 1) (eV gN (eN 4) (eN 3))))
def xU(c:Cs):En->O:=(fq (setO 2 (iC (eY (eM (eN 0) eP) (jB c))))
  (gA (iN yQ (eM (gH (i9 [none,none,some 1,some 2,some 0] (lu (eM (eN 0) (eM (eN 1) eP))) (nG 2 (gI (iM 0) (gI (iM 1) nI))) (λ_=>.ok true) (pF c))) eP))))
def jR(c:Cs):List T->M T:=lQ 2 3 (xU c)
def nq(c:Cs):Pe->M T:=(eY (eM (eN 0) (eM (eN 1) eP)) (jR c))
def zw(c:Cs):En->O:=(fq (lJ (EM (gd (eV OU (iN gZ (eM (eN 1) eP)) (cM (.int 7)))) (oW (gd (eY (eM (eN 0) (eM (eN 2) eP)) (mE c))))) (gA (cM (.bl false))) f7)
  (gA (Gg (iN qu (eM (gH (i9 [none,some 2] (gR (eN 1)) (iM 0) (λ_=>.ok true) (nq c))) eP)))))
def jN(c:Cs):List T->M T:=lQ 3 3 (zw c)
def nJ(c:Cs):En->O:=(fq (lJ (oW (gd (eY (eM (eN 0) (eM (eN 2) (eM (eN 3) eP))) (jN c)))) (λ_=>.bad) f7)
  (ng 2 (iC (iN i8 (eM (eN 3) eP)))))
def uH(c:Cs):En->O:=(fq (lJ (EM (oW (gd (eY (eM (eN 0) eP) (lp c)))) (oW (gd (xu "list" (eN 1))))) (λ_=>.bad) f7)
  (fq (j8 2 (l6 (lstM eP)))
  (fq (rA (gR (eN 1)) (ko 3) (nJ c))
  (gA (iN i8 (eM (eN 2) eP))))))
def iH(c:Cs):List T->M T:=lQ 2 4 (uH c)
def gO(c:Cs):List T->M T:=vF c.Cutting 2 "own_cuts" "own_dims" (eY (eM (eN 1) (eM (eN 2) eP)) (iH c)) (eN 1)
def uI(c:Cs):En->O:=(gA (BK c.Cutting "own_dims" (eN 0)))
def gw(c:Cs):List T->M T:=lQ 1 1 (uI c)
def tV(c:Cs):En->O:=(uB (Hq ml (eM (BK c.Cutting "own_cuts" (eN 0)) eP)))
def iK(c:Cs):List T->M (List T):=wO 1 1 (tV c)
def zk(c:Cs):En->O:=(setO 3 (iC (eV sr (eN 3) (eN 2))))
def BJ(c:Cs):En->O:=(fq (lJ (gd (eV OU (eN 0) (eV KR (cM (.int 10)) (cM (.int 18))))) (fq (setO 3 (iC (eN 0)))
  (fq (lU (ig (eM (eN 1) eP)) (ko 4) (zk c))
  (gA (eV uC (eN 3) (eN 2))))) f7)
  (fq (setO 5 (iC (eV uC (eV ju (eV fY (eV fY (eV uC (eN 0) (cM (.int 1000000007))) (eV ju (cM (.int 1009)) (eN 1))) (cM (.int 17))) (cM (.int 69621))) (cM (.int 2147483647)))))
  (fq (setO 5 (iC (eV uC (eV fY (eV fY (eV ju (eN 5) (eN 5)) (eV ju (cM (.int 40503)) (eN 1))) (cM (.int 5))) (cM (.int 2147483629)))))
  (gA (eV uC (eV sr (eV uC (eV ju (eN 5) (cM (.int 48271))) (cM (.int 2147483647))) (cM (.int 32))) (eN 2))))))
def eX(c:Cs):List T->M T:=lQ 3 6 (BJ c)
def sf(c:Cs):En->O:=(lJ (gd (eV (fM true) (eV ju (eV gN (eN 0) (eN 2)) (eV gN (eN 1) (eN 3))) (eV ju (eV gN (eN 0) (eN 3)) (eV gN (eN 1) (eN 2))))) (gA (cM (.bl false))) f7)
def zD(c:Cs):En->O:=(lU (ig (eM (eN 2) eP)) (ko 3) (sf c))
def AE(c:Cs):En->O:=(fq (lU (ig (eM (iN gZ (eM (eN 0) eP)) eP)) (ko 2) (zD c))
  (gA (cM (.bl true))))
def nt(c:Cs):List T->M T:=lQ 2 4 (AE c)
def wF(c:Cs):En->O:=(fq (setO 1 (iC (eY (eM (eN 1) (eM (eN 2) eP)) (gY c))))
  (lJ (gd (eV (fM false) (eN 1) (cM (.int 1)))) (gA (eN 0)) f7))
def DZ(c:Cs):Pe->M T:=(eV sr (eN 0) (eN 1))
def GW(c:Cs):En->O:=(fq (setO 1 (iC (cM (.int 0))))
  (fq (rA (gR (eN 0)) (ko 2) (wF c))
  (fq (lJ (gd (eV (fM false) (eN 1) (cM (.int 0)))) (gA (eN 0)) f7)
  (gA (iN i8 (eM (gH (i9 [none,some 1] (gR (eN 0)) (iM 0) (λ_=>.ok true) (DZ c))) eP))))))
def n8(c:Cs):List T->M T:=lQ 1 3 (GW c)
def BN(c:Cs):Pe->M T:=(eV fY (eV ju (eN 2) (eN 0)) (eV ju (eN 3) (eN 1)))
def Ep(c:Cs):En->O:=(fq (lJ (gd (eV (fM false) (eV gN (eN 0) (eN 2)) (cM (.int 0)))) (gA (eN 0)) f7)
  (fq (setO 3 (iC (iN BS (eM (eV gN (eN 1) (eN 2)) eP))))
  (fq (setO 4 (iC (eV ju (yE (λi=>.int (-i)) (eV gN (eN 0) (eN 2))) (eY (eM (eV gN (eN 1) (eN 2)) eP) (mK c)))))
  (gA (eY (eM (iN i8 (eM (gH (i9 [none,none,some 3,some 4] (lu (eM (eN 0) (eM (eN 1) eP))) (nG 2 (gI (iM 0) (gI (iM 1) nI))) (λ_=>.ok true) (BN c))) eP)) eP) (n8 c))))))
def jm(c:Cs):List T->M T:=lQ 3 5 (Ep c)
def pI(c:Cs):En->O:=(setO 0 (iC (eY (eM (eN 0) (eM (eN 3) (eM (eN 2) eP))) (jm c))))
def Dn(c:Cs):En->O:=(fq (rA (gR (eN 1)) (m3 2 (gU (ko 2) (gU (ko 3) mW))) (pI c))
  (gA (eN 0)))
def iY(c:Cs):List T->M T:=lQ 2 4 (Dn c)
def pb(c:Cs):Pe->M T:=(nv (eM (eN 0) (eM (eY (eM (eN 1) (eM (eN 2) (eM (eN 3) eP))) (jm c)) eP)))
def yd(c:Cs):En->O:=(uB (uW (gH (i9 [none,none,some 1,some 2] (gR (eN 0)) (nG 2 (gI (iM 0) (gI (iM 1) nI))) (λ_=>.ok true) (pb c))) (gH (lstM (eM (nv (eM (eN 2) (eM (eN 1) eP))) eP)))))
def jv(c:Cs):List T->M (List T):=wO 3 3 (yd c)
def kU(c:Cs):Pe->M T:=(eN 0)
def jy(c:Cs):En->O:=(fq (setO 5 (iC (eY (eM (eN 4) (eM (eN 2) eP)) (iY c))))
  (fq (setO 6 (iC (gH (i9 [none,some 5] (ig (eM (eN 1) eP)) (iM 0) (gd (eV (fM true) (eV gN (eN 1) (eN 0)) (cM (.int 0)))) (kU c)))))
  (lJ (gd (eV (fM false) (eN 6) (gH (lstM eP)))) (ng 3 (iC (eN 5))) (setO 2 (iC (gH (iq (eM (eN 2) (eM (eN 5) (eM (eV gN (eN 6) (cM (.int 0))) eP))) (jv c))))))))
def pO(c:Cs):En->O:=(fq (setO 2 (iC (gH (lstM eP))))
  (fq (j8 3 (l6 (lstM eP)))
  (fq (rA (gR (eN 0)) (ko 4) (jy c))
  (gA (nv (eM (eN 2) (eM (eN 3) eP)))))))
def hW(c:Cs):List T->M T:=lQ 2 7 (pO c)
def BQ(c:Cs):Pe->M T:=(eV gN (eN 1) (eN 0))
def t5(c:Cs):Pe->M T:=(iN qu (eM (eN 0) eP))
def ur(c:Cs):Pe->M T:=(eN 0)
def DE(c:Cs):En->O:=(fq (setO 3 (iC (eY (eM (gH (i9 [none,some 0] (gR (eN 2)) (iM 0) (λ_=>.ok true) (BQ c))) (eM (eN 1) eP)) (hW c))))
  (fq (lJ (gd (iN qu (eM (gH (i9 [none] (gR (eV gN (eN 3) (cM (.int 1)))) (iM 0) (λ_=>.ok true) (t5 c))) eP))) (gA (cM .non)) f7)
  (fq (setO 4 (iC (eV gN (eN 3) (cM (.int 0)))))
  (fq (setO 5 (iC (gH (i9 [none,none,some 4] (uO (eM (eN 0) eP)) (nG 2 (gI (iM 0) (gI (iM 1) nI))) (oW (gd (iN qu (eM (eY (eM (eN 1) (eM (eN 2) eP)) (iY c)) eP)))) (ur c)))))
  (gA (nv (eM (eV oV (eN 1) (iN gZ (eM (eN 4) eP))) (eM (iN i8 (eM (eN 5) eP)) eP))))))))
def iL(c:Cs):List T->M T:=lQ 3 6 (DE c)
def Lq(c:Cs):En->O:=(fq (setO 1 (iC (gH (t9 c.Cutting "cuts" (eN 0) eP (iK c)))))
  (fq (setO 2 (iC (uJ c.Cutting "dims" (eN 0) eP (gw c))))
  (λa=>if a.length=7 then Dk (eY (eM (eN 1) (eM (eN 2) (eM (gH (lstM eP)) eP))) (iL c)) (eY (eM (eN 1) (eM (eN 2) (eM (eV fY (eV gN (eN 5) (cM (.int 1))) (nv (eM (eN 4) eP))) eP))) (iL c)) (ig (eM (iN gZ (eM (eN 1) eP)) eP)) 3 4 5 6 a else .bad)))
def nE(c:Cs):List T->M (List T):=wO 1 7 (Lq c)
def qC(c:Cs):Pe->M T:=(eV oV (eY (eM (eN 2) (eM (eV fY (eV fY (cM (.int 4)) (eV ju (cM (.int 4)) (eN 3))) (eN 0)) (eM (eV fY (eV ju (cM (.int 2)) (eN 1)) (cM (.int 1))) eP))) (eX c)) (eN 1))
def qI(c:Cs):Pe->M T:=(eV fY (eN 0) (eV ju (eN 2) (eN 1)))
def Aa(c:Cs):En->O:=(fq (setO 4 (iC (eV gN (gH (lstM (eM (cM (.int 1)) (eM (cM (.int 2)) (eM (cM (.int 3)) (eM (cM (.int 5)) (eM (cM (.int 1000)) eP))))))) (eY (eM (eN 0) (eM (cM (.int 2)) (eM (cM (.int 5)) eP))) (eX c)))))
  (fq (j8 5 (l6 (i9 [none,some 4,some 0,some 1] (ig (eM (eV fY (eN 2) (cM (.int 1))) eP)) (iM 0) (λ_=>.ok true) (qC c))))
  (fq (setO 6 (iC (eY (eM (eN 0) (eM (eV fY (cM (.int 40)) (eN 1)) (eM (cM (.int 6)) eP))) (eX c))))
  (fq (lJ (nr (gd (eV (fM false) (eN 6) (cM (.int 1)))) (gd (eV (fM true) (eN 3) (gH (lstM eP))))) (j8 5 (sN (uW (gH (Hq ml (eM (kM (eV gN (eN 3) (eY (eM (eN 0) (eM (eV fY (cM (.int 50)) (eN 1)) (eM (iN gZ (eM (eN 3) eP)) eP))) (eX c))) (λ_=>.ok none) (iU (eN 2))) eP))) (kM (eN 5) (iU (eN 2)) (λ_=>.ok none))))) f7)
  (fq (lJ (gd (eV (fM false) (eN 6) (cM (.int 2)))) (sO 5 (mD (eN 2)) (mD (cM (.int 0)))) f7)
  (fq (lJ (nr (gd (eV (fM false) (eN 6) (cM (.int 3)))) (gd (eV JC (iN gZ (eM (eN 3) eP)) (cM (.int 1))))) (fq (setO 7 (iC (eV gN (eN 3) (eY (eM (eN 0) (eM (eV fY (cM (.int 50)) (eN 1)) (eM (eV oV (iN gZ (eM (eN 3) eP)) (cM (.int 1))) eP))) (eX c)))))
  (fq (setO 8 (iC (eV fY (cM (.int 1)) (eY (eM (eN 0) (eM (eV fY (cM (.int 60)) (eN 1)) (eM (cM (.int 3)) eP))) (eX c)))))
  (j8 5 (l6 (i9 [none,none,some 8] (lu (eM (eV gN (eN 3) (yE (λi=>.int (-i)) (cM (.int 1)))) (eM (eN 7) eP))) (nG 2 (gI (iM 0) (gI (iM 1) nI))) (λ_=>.ok true) (qI c)))))) f7)
  (fq (lJ (gd (eV (fM false) (kM (eN 5) (λ_=>.ok none) (iU (eN 2))) (gH (AS (gH (lstM (eM (cM (.int 0)) eP))) (eN 2))))) (sO 5 (mD (eY (eM (eN 0) (eM (eV fY (cM (.int 60)) (eN 1)) (eM (eN 2) eP))) (eX c))) (mD (cM (.int 1)))) f7)
  (gA (iN i8 (eM (eN 5) eP))))))))))
def lY(c:Cs):List T->M T:=lQ 4 9 (Aa c)
def lH(c:Cs):Pe->M T:=(eN 0)
def oh(c:Cs):En->O:=(fq (setO 5 (mD (eY (eM (eN 0) (eM (eN 4) (eM (eN 2) (eM (eN 3) eP)))) (lY c))))
  (lJ (gd (eV (fM false) (gH (i9 [none,some 5] (gR (eN 3)) (iM 0) (gd (eY (eM (eN 0) (eM (eN 1) eP)) (nt c))) (lH c))) (gH (lstM eP)))) (ng 3 (iC (eN 5))) f7))
def vn(c:Cs):En->O:=(fq (setO 2 (iC (eV gN (gH (lstM (eM (cM (.int 1)) (eM (cM (.int 2)) (eM (cM (.int 2)) (eM (cM (.int 3)) (eM (cM (.int 3)) eP))))))) (eY (eM (eN 0) (eM (cM (.int 0)) (eM (cM (.int 5)) eP))) (eX c)))))
  (fq (j8 3 (l6 (lstM eP)))
  (fq (lU (ig (eM (eY (eM (eN 0) (eM (cM (.int 1)) (eM (eV fY (eN 1) (cM (.int 1))) eP))) (eX c)) eP)) (ko 4) (oh c))
  (gA (nv (eM (eN 2) (eM (eN 3) eP)))))))
def vj(c:Cs):List T->M T:=lQ 2 6 (vn c)
def ph(c:Cs):Pe->M T:=(eV oV (eV ju (eV gN (eN 3) (eN 4)) (eN 0)) (eV ju (eN 2) (eN 1)))
def kl(c:Cs):En->O:=(fq (setO 6 (iC (eV gN (eN 3) (eN 4))))
  (setO 3 (iC (gH (i9 [none,none,some 6,some 5,some 4] (lu (eM (eN 3) (eM (eN 5) eP))) (nG 2 (gI (iM 0) (gI (iM 1) nI))) (λ_=>.ok true) (ph c))))))
def pk(c:Cs):Pe->M T:=(eN 0)
def mn(c:Cs):En->O:=(fq (setO 3 (iC (gH (Hq ml (eM (eN 2) eP)))))
  (fq (nH 1 (m3 2 (gU (ko 4) (gU (ko 5) mW))) (kl c))
  (fq (setO 7 (iC (gH (i9 [none,some 3] (ig (eM (iN gZ (eM (eN 3) eP)) eP)) (iM 0) (gd (eV (fM true) (eV gN (eN 1) (eN 0)) (cM (.int 0)))) (pk c)))))
  (lJ (gd (eV (fM true) (eN 7) (gH (lstM eP)))) (ng 1 (iC (nv (eM (eV gN (eN 7) (cM (.int 0))) (eM (eN 3) eP))))) f7))))
def w5(c:Cs):En->O:=(fq (j8 1 (l6 (lstM eP)))
  (fq (rA (gR (eN 0)) (ko 2) (mn c))
  (gA (iN gZ (eM (eN 1) eP)))))
def iQ(c:Cs):List T->M T:=lQ 1 8 (w5 c)
def zr(c:Cs):Pe->M T:=(eV gN (eN 1) (eN 0))
def nY(c:Cs):Pe->M T:=(kM (eV gN (eN 1) (eN 0)) (λ_=>.ok none) (iU (eN 2)))
def sy(c:Cs):Pe->M T:=(eV gN (eN 1) (eN 0))
def sA(c:Cs):Pe->M T:=(eN 0)
def AB(c:Cs):En->O:=(fq (setO 3 (iC (eY (eM (gH (i9 [none,some 1] (gR (eN 2)) (iM 0) (λ_=>.ok true) (zr c))) eP) (iQ c))))
  (fq (lJ (gd (eV (fM true) (eY (eM (gH (i9 [none,some 1,some 0] (gR (eN 2)) (iM 0) (λ_=>.ok true) (nY c))) eP) (iQ c)) (eN 3))) (gA (cM .non)) f7)
  (fq (setO 4 (iC (gH (i9 [none,some 3,some 1,some 2] (ig (eM (iN gZ (eM (eN 1) eP)) eP)) (iM 0) (gd (eV (fM false) (eY (eM (gH (uW (gH (i9 [none,some 2] (gR (eN 3)) (iM 0) (λ_=>.ok true) (sy c))) (gH (lstM (eM (eV gN (eN 2) (eN 0)) eP))))) eP) (iQ c)) (eN 1))) (sA c)))))
  (gA (nv (eM (eV oV (eN 0) (eN 3)) (eM (iN i8 (eM (eN 4) eP)) eP)))))))
def pT(c:Cs):List T->M T:=lQ 3 5 (AB c)
def A1(c:Cs):Pe->M T:=(eV (Eh false) (eN 0) (eV gN (eN 1) (cM (.int 1))))
def Dy(c:Cs):En->O:=(gA (iN yQ (eM (gH (i9 [none,some 0] (gR (eV gN (eN 1) (cM (.int 1)))) (iM 0) (λ_=>.ok true) (A1 c))) eP)))
def lj(c:Cs):List T->M T:=lQ 2 2 (Dy c)
def kR(c:Cs):Pe->M T:=(eN 1)
def kX(c:Cs):En->O:=(fq (BZ 3 (sN (i9 [none,none,some 2] (lu (eM (eN 0) (eM (eN 1) eP))) (nG 2 (gI (iM 0) (gI (iM 1) nI))) (gd (eY (eM (eN 2) (eM (eN 0) eP)) (lj c))) (kR c))))
  (ng 1 (iC (yE (λi=>.int (-i)) (iN AG (eM (eN 3) eP))))))
def pJ(c:Cs):En->O:=(fq (j8 1 (l6 (lstM (eM (cM (.int 1)) eP))))
  (fq (rA (gR (kM (eN 0) (iU (cM (.int 1))) (λ_=>.ok none))) (ko 2) (kX c))
  (oJ 1)))
def fL(c:Cs):List T->M (List T):=wO 1 4 (pJ c)
def tX(c:Cs):En->O:=(uB (iq (eM (gH (iq (eM (eN 0) eP) (nE c))) eP) (fL c)))
def iI(c:Cs):List T->M (List T):=wO 1 1 (tX c)
def se(c:Cs):En->O:=(sO 1 (mD (eV gN (eN 3) (cM (.int 0)))) (mD (eV fY (eV gN (eN 1) (eV gN (eN 3) (cM (.int 0)))) (eN 4))))
def Bq(c:Cs):En->O:=(fq (j8 1 (l6 (AS (gH (lstM (eM (cM (.int 0)) eP))) (eV fY (uJ c.Cutting "dims" (eN 0) eP (gw c)) (cM (.int 1))))))
  (fq (setO 2 (iC (gH (iq (eM (eN 0) eP) (nE c)))))
  (fq (rA (lu (eM (eN 2) (eM (gH (iq (eM (eN 2) eP) (fL c))) eP))) (m3 2 (gU (ko 3) (gU (ko 4) mW))) (se c))
  (oJ 1))))
def je(c:Cs):List T->M (List T):=wO 1 5 (Bq c)
def lV(c:Cs):Pe->M T:=(iN BS (eM (eN 0) eP))
def rQ(c:Cs):En->O:=(gA (iN AG (eM (gH (i9 [none] (gR (gH (iq (eM (eN 0) eP) (iI c)))) (iM 0) (λ_=>.ok true) (lV c))) eP)))
def iJ(c:Cs):List T->M T:=lQ 1 1 (rQ c)
def vB(c:Cs):En->O:=(lJ (gd (eV (fM true) (eV ju (eV gN (eN 0) (eN 2)) (eV gN (eN 1) (eN 3))) (eV ju (eV gN (eN 0) (eN 3)) (eV gN (eN 1) (eN 2))))) (gA (cM (.bl false))) f7)
def uS(c:Cs):En->O:=(lU (ig (eM (eN 2) eP)) (ko 3) (vB c))
def xi(c:Cs):En->O:=(fq (lU (ig (eM (iN gZ (eM (eN 0) eP)) eP)) (ko 2) (uS c))
  (gA (cM (.bl true))))
def k9(c:Cs):List T->M T:=lQ 2 4 (xi c)
def yq(c:Cs):Pe->M T:=(eV oV (eY (eM (eN 2) (eM (eV fY (eV fY (cM (.int 4)) (eV ju (cM (.int 4)) (eN 3))) (eN 0)) (eM (eV fY (eV ju (cM (.int 2)) (eN 1)) (cM (.int 1))) eP))) (eX c)) (eN 1))
def yc(c:Cs):Pe->M T:=(eV fY (eN 0) (eV ju (eN 2) (eN 1)))
def zW(c:Cs):En->O:=(fq (setO 4 (iC (eV gN (gH (lstM (eM (cM (.int 1)) (eM (cM (.int 2)) (eM (cM (.int 3)) (eM (cM (.int 5)) (eM (cM (.int 1000)) eP))))))) (eY (eM (eN 0) (eM (cM (.int 2)) (eM (cM (.int 5)) eP))) (eX c)))))
  (fq (j8 5 (l6 (i9 [none,some 4,some 0,some 1] (ig (eM (eV fY (eN 2) (cM (.int 1))) eP)) (iM 0) (λ_=>.ok true) (yq c))))
  (fq (setO 6 (iC (eY (eM (eN 0) (eM (eV fY (cM (.int 40)) (eN 1)) (eM (cM (.int 6)) eP))) (eX c))))
  (fq (lJ (nr (gd (eV (fM false) (eN 6) (cM (.int 1)))) (gd (eV (fM true) (eN 3) (gH (lstM eP))))) (j8 5 (sN (uW (gH (Hq ml (eM (kM (eV gN (eN 3) (eY (eM (eN 0) (eM (eV fY (cM (.int 50)) (eN 1)) (eM (iN gZ (eM (eN 3) eP)) eP))) (eX c))) (λ_=>.ok none) (iU (eN 2))) eP))) (kM (eN 5) (iU (eN 2)) (λ_=>.ok none))))) f7)
  (fq (lJ (gd (eV (fM false) (eN 6) (cM (.int 2)))) (sO 5 (mD (eN 2)) (mD (cM (.int 0)))) f7)
  (fq (lJ (nr (gd (eV (fM false) (eN 6) (cM (.int 3)))) (gd (eV JC (iN gZ (eM (eN 3) eP)) (cM (.int 1))))) (fq (setO 7 (iC (eV gN (eN 3) (eY (eM (eN 0) (eM (eV fY (cM (.int 50)) (eN 1)) (eM (eV oV (iN gZ (eM (eN 3) eP)) (cM (.int 1))) eP))) (eX c)))))
  (fq (setO 8 (iC (eV fY (cM (.int 1)) (eY (eM (eN 0) (eM (eV fY (cM (.int 60)) (eN 1)) (eM (cM (.int 3)) eP))) (eX c)))))
  (j8 5 (l6 (i9 [none,none,some 8] (lu (eM (eV gN (eN 3) (yE (λi=>.int (-i)) (cM (.int 1)))) (eM (eN 7) eP))) (nG 2 (gI (iM 0) (gI (iM 1) nI))) (λ_=>.ok true) (yc c)))))) f7)
  (fq (lJ (gd (eV (fM false) (kM (eN 5) (λ_=>.ok none) (iU (eN 2))) (gH (AS (gH (lstM (eM (cM (.int 0)) eP))) (eN 2))))) (sO 5 (mD (eY (eM (eN 0) (eM (eV fY (cM (.int 60)) (eN 1)) (eM (eN 2) eP))) (eX c))) (mD (cM (.int 1)))) f7)
  (gA (iN i8 (eM (eN 5) eP))))))))))
def lT(c:Cs):List T->M T:=lQ 4 9 (zW c)
def rT(c:Cs):Pe->M T:=(eN 0)
def rS(c:Cs):En->O:=(fq (setO 5 (mD (eY (eM (eN 0) (eM (eN 4) (eM (eN 2) (eM (eN 3) eP)))) (lT c))))
  (lJ (gd (eV (fM false) (gH (i9 [none,some 5] (gR (eN 3)) (iM 0) (gd (eY (eM (eN 0) (eM (eN 1) eP)) (k9 c))) (rT c))) (gH (lstM eP)))) (ng 3 (iC (eN 5))) f7))
def sP(c:Cs):En->O:=(fq (setO 2 (iC (eV gN (gH (lstM (eM (cM (.int 1)) (eM (cM (.int 2)) (eM (cM (.int 2)) (eM (cM (.int 3)) (eM (cM (.int 3)) eP))))))) (eY (eM (eN 0) (eM (cM (.int 0)) (eM (cM (.int 5)) eP))) (eX c)))))
  (fq (j8 3 (l6 (lstM eP)))
  (fq (lU (ig (eM (eY (eM (eN 0) (eM (cM (.int 1)) (eM (eV fY (eN 1) (cM (.int 1))) eP))) (eX c)) eP)) (ko 4) (rS c))
  (gA (nv (eM (eN 2) (eM (eN 3) eP)))))))
def iX(c:Cs):List T->M T:=lQ 2 6 (sP c)
def uY(c:Cs):Pe->M T:=(eV oV (eV ju (eV gN (eN 3) (eN 4)) (eN 0)) (eV ju (eN 2) (eN 1)))
def u0(c:Cs):En->O:=(fq (setO 6 (iC (eV gN (eN 3) (eN 4))))
  (setO 3 (iC (gH (i9 [none,none,some 6,some 5,some 4] (lu (eM (eN 3) (eM (eN 5) eP))) (nG 2 (gI (iM 0) (gI (iM 1) nI))) (λ_=>.ok true) (uY c))))))
def vo(c:Cs):Pe->M T:=(eN 0)
def vC(c:Cs):En->O:=(fq (setO 3 (iC (gH (Hq ml (eM (eN 2) eP)))))
  (fq (nH 1 (m3 2 (gU (ko 4) (gU (ko 5) mW))) (u0 c))
  (fq (setO 7 (iC (gH (i9 [none,some 3] (ig (eM (iN gZ (eM (eN 3) eP)) eP)) (iM 0) (gd (eV (fM true) (eV gN (eN 1) (eN 0)) (cM (.int 0)))) (vo c)))))
  (lJ (gd (eV (fM true) (eN 7) (gH (lstM eP)))) (ng 1 (iC (nv (eM (eV gN (eN 7) (cM (.int 0))) (eM (eN 3) eP))))) f7))))
def xX(c:Cs):En->O:=(fq (j8 1 (l6 (lstM eP)))
  (fq (rA (gR (eN 0)) (ko 2) (vC c))
  (gA (iN gZ (eM (eN 1) eP)))))
def jt(c:Cs):List T->M T:=lQ 1 8 (xX c)
def uZ(c:Cs):Pe->M T:=(eV gN (eN 1) (eN 0))
def uV(c:Cs):Pe->M T:=(kM (eV gN (eN 1) (eN 0)) (λ_=>.ok none) (iU (eN 2)))
def uX(c:Cs):Pe->M T:=(eV gN (eN 1) (eN 0))
def vb(c:Cs):Pe->M T:=(eN 0)
def xJ(c:Cs):En->O:=(fq (setO 3 (iC (eY (eM (gH (i9 [none,some 1] (gR (eN 2)) (iM 0) (λ_=>.ok true) (uZ c))) eP) (jt c))))
  (fq (lJ (gd (eV (fM true) (eY (eM (gH (i9 [none,some 1,some 0] (gR (eN 2)) (iM 0) (λ_=>.ok true) (uV c))) eP) (jt c)) (eN 3))) (gA (cM .non)) f7)
  (fq (setO 4 (iC (gH (i9 [none,some 3,some 1,some 2] (ig (eM (iN gZ (eM (eN 1) eP)) eP)) (iM 0) (gd (eV (fM false) (eY (eM (gH (uW (gH (i9 [none,some 2] (gR (eN 3)) (iM 0) (λ_=>.ok true) (uX c))) (gH (lstM (eM (eV gN (eN 2) (eN 0)) eP))))) eP) (jt c)) (eN 1))) (vb c)))))
  (gA (nv (eM (eV oV (eN 0) (eN 3)) (eM (iN i8 (eM (eN 4) eP)) eP)))))))
def jW(c:Cs):List T->M T:=lQ 3 5 (xJ c)
def uF(c:Cs):En->O:=(fq (ng 3 (mD (eV sr (eV ju (eV gN (eN 3) (yE (λi=>.int (-i)) (cM (.int 1)))) (eV fY (eV oV (eN 0) (eN 4)) (cM (.int 1)))) (eN 4))))
  (setO 2 (mD (eV fY (eN 2) (iN zf (eM (cM (.int 0)) (eM (eV gN (eN 3) (yE (λi=>.int (-i)) (cM (.int 1)))) eP)))))))
def vi(c:Cs):En->O:=(fq (setO 2 (iC (cM (.int 1))))
  (fq (j8 3 (l6 (lstM (eM (cM (.int 1)) eP))))
  (fq (lU (Hw (eM (cM (.int 1)) (eM (eV fY (eN 1) (cM (.int 1))) eP))) (ko 4) (uF c))
  (gA (eN 2)))))
def jC(c:Cs):List T->M T:=lQ 2 5 (vi c)
def qJ(c:Cs):Pe->M T:=(eN 0)
def nC(c:Cs):En->O:=(fq (setO 3 (iC (gH (i9 [none,some 2] (ig (eM (iN gZ (eM (eN 1) eP)) eP)) (iM 0) (gd (eV (fM false) (eV Aj (eV GZ (eN 1) (eN 0)) (cM (.int 1))) (cM (.int 1)))) (qJ c)))))
  (fq (setO 4 (iC (eY (eM (eN 0) (eM (eN 1) (eM (eN 3) eP))) (jW c))))
  (fq (lJ (nr (gd (eV Mo (iN gZ (eM (eN 3) eP)) (eN 0))) (gd (eV (qO false) (eN 4) (cM .non)))) (gA (cM (.bl false))) f7)
  (fq (lJ (nr (gd (eV Mo (iN gZ (eM (eN 3) eP)) (eN 0))) (gd (eV (fM true) (eV gN (eN 4) (cM (.int 0))) (eV oV (eN 0) (iN gZ (eM (eN 3) eP)))))) (gA (cM (.bl false))) f7)
  (lJ (nr (gd (eV (fM false) (iN gZ (eM (eN 3) eP)) (eV fY (eN 0) (cM (.int 1))))) (gd (eV (qO true) (eN 4) (cM .non)))) (gA (cM (.bl false))) f7)))))
def yN(c:Cs):En->O:=(fq (lU (ig (eM (eV Gf (cM (.int 1)) (iN gZ (eM (eN 1) eP))) eP)) (ko 2) (nC c))
  (gA (cM (.bl true))))
def jM(c:Cs):List T->M T:=lQ 2 5 (yN c)
def qr(c:Cs):Pe->M T:=(eV oV (eY (eM (eN 1) (eM (eV fY (cM (.int 90)) (eN 0)) (eM (cM (.int 7)) eP))) (eX c)) (cM (.int 3)))
def qU(c:Cs):Pe->M T:=(eV ju (eN 0) (eN 1))
def qa(c:Cs):Pe->M T:=(eV ju (eN 1) (eN 0))
def ql(c:Cs):En->O:=(fq (setO 6 (iC (eV gN (gH (lstM (eM (cM (.int 1)) (eM (yE (λi=>.int (-i)) (cM (.int 1))) (eM (cM (.int 2)) (eM (yE (λi=>.int (-i)) (cM (.int 3))) eP)))))) (eY (eM (eN 0) (eM (eV fY (cM (.int 100)) (eN 5)) (eM (cM (.int 4)) eP))) (eX c)))))
  (fq (setO 7 (iC (iN AG (eM (gH (i9 [none,none] (lu (eM (eV gN (eN 2) (eN 5)) (eM (eN 3) eP))) (nG 2 (gI (iM 0) (gI (iM 1) nI))) (λ_=>.ok true) (qU c))) eP))))
  (fq (j8 8 (l6 (i9 [none,some 6] (gR (kM (eV gN (eN 2) (eN 5)) (λ_=>.ok none) (iU (eN 1)))) (iM 0) (λ_=>.ok true) (qa c))))
  (fq (ng 8 (iC (eV ju (eN 6) (eV fY (eV gN (eV gN (eN 2) (eN 5)) (eN 1)) (eN 7)))))
  (wm 4 (mD (eY (eM (eN 0) (eM (eV fY (cM (.int 110)) (eN 5)) (eM (eV fY (iN gZ (eM (eN 4) eP)) (cM (.int 1))) eP))) (eX c))) (mD (iN i8 (eM (eN 8) eP))))))))
def Ag(c:Cs):En->O:=(fq (setO 3 (iC (gH (i9 [none,some 0] (ig (eM (eN 1) eP)) (iM 0) (λ_=>.ok true) (qr c)))))
  (fq (j8 4 (l6 (lstM eP)))
  (fq (lU (ig (eM (iN gZ (eM (eN 2) eP)) eP)) (ko 5) (ql c))
  (oJ 4))))
def jP(c:Cs):List T->M (List T):=wO 3 9 (Ag c)
def wd(c:Cs):En->O:=(fq (setO 2 (iC (eY (eM (eN 0) (eM (eN 1) eP)) (iD c))))
  (fq (HV (eY (eM (eN 2) (eM (cM (.int 6)) eP)) (iX c)) (m3 2 (gU (ko 3) (gU (ko 4) mW))))
  (fq (setO 5 (iC (eY (eM (eN 3) (eM (gH (Hq ml (eM (eN 4) eP))) eP)) (gO c))))
  (fq (setO 6 (iC (eY (eM (eN 5) eP) (iJ c))))
  (fq (setO 7 (iC (eY (eM (iN gZ (eM (eN 4) eP)) (eM (eN 3) eP)) (jC c))))
  (fq (lJ (EM (gd (eV JC (eN 6) (eN 7))) (gd (eV (fM true) (eV (fM false) (eN 6) (eN 7)) (eY (eM (eN 3) (eM (eN 4) eP)) (jM c))))) (gA (cM (.bl false))) f7)
  (lJ (gd (eV (fM true) (gH (iq (eM (eY (eM (eN 3) (eM (gH (iq (eM (eN 2) (eM (eN 3) (eM (eN 4) eP))) (jP c))) eP)) (gO c)) eP) (je c))) (gH (iq (eM (eN 5) eP) (je c))))) (gA (cM (.bl false))) f7)))))))
def GD(c:Cs):En->O:=(fq (rA (gR (gH (lstM (eM (cM (.int 0)) (eM (cM (.int 1)) (eM (cM (.int 0)) eP)))))) (ko 1) (wd c))
  (gA (cM (.bl true))))
def qD(c:Cs):List T->M T:=lQ 1 8 (GD c)
variable {c:Cs}
def Ap ns (k:Nat):∃v,iD c [.scr ns,.int k]=.ok (.int v)/\(v=0\/v∈ns):=by
 by_cases h:(k:Int)<ns.length
 .obtain⟨a,e,b⟩:=xq ns k (by omega) h;exact⟨a,by simp[iD,mq,h,e],.inr b⟩
 .exact⟨0,by simp[iD,mq,h],.inl rfl⟩
def i6(h:i.natAbs<2 ^ 64):ju (.int i) (.int j)=.ok (.int (i*j)):=jV (EK h)
def KU cell (k:Nat) b (B:0<b) (E:b<2 ^ 62) (I:k<=1000000):∃d,eX c [.int cell,.int (k:Int),.int b]=.ok (.int d)/\0<=d/\d<b:=by
 have f:b≠0:=by omega
 have A:∀x:Int,0<=x.fmod b/\x.fmod b<b:=λx=>⟨cT x B,cU x B⟩;have l:KR (.int 10) (.int 18)=.ok (.int 1000000000000000000):=by simp[KR,iW]
 by_cases h:(1000000000000000000:Int)<=cell
 .obtain⟨o,e,v,w,rfl⟩:=jr (m:=ko 4) (g:=setO 3 (iC (eV sr (eN 3) (eN 2)))) (λ(i:Nat)=>T.int (i:Int)) (λ_ o=>∃v w,o=[some (.p (.int cell)),some (.p (.int k)),some (.p (.int b)),some (.p (.int v)),w,none])
   (List.range k) 0 [some (.p (.int cell)),some (.p (.int k)),some (.p (.int b)),some (.p (.int cell)),none,none] ⟨_,_,rfl⟩ (by rintro i a o J ⟨v,w,rfl⟩;have H:Builtin.divisionGoesByPylong v b=false:=Bn.noPy (n:=62) (by unfold Bn;omega) (by decide);exact⟨_,_,rfl,.inl (fH (by simp[uo f H];rfl) rfl),_,_,rfl⟩)
  refine⟨v.fmod b,gP rfl ?_,A v⟩;have s:C0 (k:Int)=true:=lr (by omega);refine jG (hV (by simp[l,h]) (eR (fH (by simp) rfl) (eR (kY (by simp[s,Jt]) e) (fO (by simp[qq f]))))) rfl
 .have r:∀x y:Int,0<y->0<=x.fmod y/\x.fmod y<y:=λx y z=>⟨cT x z,cU x z⟩;have K:=r cell 1000000007 (by decide);have F:=r ((cell.fmod 1000000007+1009*k+17)*69621) 2147483647 (by decide);generalize u:((cell.fmod 1000000007+1009*k+17)*69621).fmod 2147483647=s1 at F;have D:=r (s1*s1+40503*k+5) 2147483629 (by decide);generalize q:(s1*s1+40503*k+5).fmod 2147483629=s2 at D;have C:Builtin.divisionGoesByPylong ((s2*48271).fmod 2147483647) 32=false:=Bn.noPy (n:=62) (by unfold Bn;decide) (by decide);refine⟨(((s2*48271).fmod 2147483647).fdiv 32).fmod b,gP rfl ?_,A _⟩;refine eR (gj (by simp[l,h]) rfl) (eR (fH (t:=.int s1) ?_ rfl) (eR (fH (t:=.int s2) ?_ rfl) (fO ?_)))
  .rw[<-u];simp[qq,i6 (i:=1009) (j:=k) (by decide),i6 (i:=cell.fmod 1000000007+1009*k+17) (j:=69621) (by omega)]
  .rw[<-q];simp[qq,i6 (i:=40503) (j:=k) (by decide),i6 (i:=s1) (j:=s1) (by omega)]
  .simp[qq,f,uo (j:=32) (by decide) C,i6 (i:=s2) (j:=48271) (by omega)]
def dr(c:Cs)(a k b:Int):Int:=match eX c [.int a,.int k,.int b] with
 |.ok (.int d)=>d
 |_=>0
def iT cell k b (g:0<b) (a:b<2 ^ 62) (i:0<=k) (j:k<=1000000):eX c [.int cell,.int k,.int b]=.ok (.int (dr c cell k b))/\0<=dr c cell k b/\dr c cell k b<b:=by
 obtain⟨d,e,f,h⟩:=KU cell k.toNat b g a (by omega);rw[Int.toNat_of_nonneg i]at e;have:dr c cell k b=d:=by unfold dr;rw[e]
 rw[this];exact⟨e,f,h⟩
def xh(l:LI)(i:Int)(f:0<=i)(d:i<l.length):∃w,gN (.lst (l.map T.int)) (.int i)=.ok (.int w)/\w∈l:=by obtain⟨a,e,b⟩:=xq l i f d;exact⟨a,by simp[ny,e],b⟩
def Os i:(if i<0 then -i else i)=(i.natAbs:Int):=by split<;>omega
def qf a b:gY c [.int a,.int b]=.ok (.int (Cu.G a b)):=by
 obtain⟨d,e,x,w,rfl,i⟩:=pP (c:=gd (eV (fM true) (eN 1) (cM (.int 0)))) (g:=fq (setO 2 (iC (eV uC (eN 0) (eN 1)))) (fq (setO 0 (iC (eN 1))) (setO 1 (iC (eN 2)))))
  (λd=>∃x y w,d=[some (.p (.int x)),some (.p (.int y)),w]/\Cu.G x y=Cu.G a b) (λd=>match d with|_::some (.p (.int j))::_=>j.natAbs|_=>0)
  (λd=>∃x w,d=[some (.p (.int x)),some (.p (.int 0)),w]/\Cu.G x 0=Cu.G a b) (by
   rintro d ⟨x,y,w,rfl,h⟩;by_cases f:y=0
   .subst f;exact .inl ⟨by simp,_,_,rfl,h⟩
   .refine .inr ⟨by simp[f],_,.inl (eR (fH (t:=.int (x.fmod y)) (by simp[qq f]) rfl) (eR (fH (by simp) rfl) (fH (by simp) rfl))),⟨y,x.fmod y,_,rfl,?_⟩,?_⟩
    .rw[<-h];exact Cu.N3 x y
    .exact Cu.Dj x y f)
  (b.natAbs+1) [some (.p (.int a)),some (.p (.int b)),none] ⟨a,b,none,rfl,rfl⟩ (bE _)
 refine gP rfl (eR e (fO ?_));rw[Cu.HE]at i;simp[Os,i]
def Kg{t g:Int}(b:g ∣ t)(a:g≠0):(t.fdiv g).natAbs<=t.natAbs:=by obtain⟨k,rfl⟩:=b;rw[dy k a,aZ];exact Nat.le_mul_of_pos_left _ (by omega)
noncomputable def OK:T->Bool
 |.scr _=>false
 |.obj _ _=>false
 |.dic _=>false
 |_=>true
noncomputable def isInt:T->Bool
 |.int _=>true
 |_=>false
def zb x (h:OK x=true):jc c [x]=.ok (.bl (isInt x)):=by cases x<;>first|(simp[OK]at h;done)|rfl
def Kv x (h:OK x=true):M5 "tuple" x=.ok (.bl (qE x)):=by cases x<;>first|(simp[OK]at h;done)|rfl
noncomputable def DF(x:Int):Int:=if 0<x then 1 else if x<0 then -1 else 0
def DJ x:-1<=DF x/\DF x<=1:=by unfold DF;split<;>(try split)<;>lia
def AI x:mK c [.int x]=.ok (.int (DF x)):=by
 unfold DF;by_cases h:0<x
 .rw[aR h];exact gP rfl (jG (hV (by simp[h]) (fO (by simp))) rfl)
 .rw[aS h];by_cases a:x<0
  .rw[aR a];exact gP rfl (eR (gj (by simp[h]) rfl) (jG (hV (by simp[a]) (fO (by simp))) rfl))
  .rw[aS a];exact gP rfl (eR (gj (by simp[h]) rfl) (eR (gj (by simp[a]) rfl) (fO (by simp))))
def tm(bs:List Bool):yQ [.lst (bs.map T.bl)]=.ok (.bl (bs.all id)):=by simp
def xE(bs:List Bool):qu [.lst (bs.map T.bl)]=.ok (.bl (bs.any id)):=by simp
noncomputable def pC(d:Nat):T->Bool
 |.tup ts=>decide (ts.length=d+1)&&ts.all isInt&&(match ke ts with|some ns=>(ns.take d).any (· != 0)|none=>false)
 |_=>false
theorem zX:∀ts,ts.all isInt=true->∃a:LI,ts=a.map T.int
 |[],_=>⟨[],rfl⟩
 |t::ts,h=>by
  rw[bP,bN]at h;obtain⟨a,e⟩:=zX ts h.2;cases t with
  |int i=>exact⟨i::a,by rw[e];rfl⟩
  |_=>simp[isInt]at h
def DS(d:Nat)(q:d<=10) x (k:OK x=true) (o:∀ts,x=.tup ts->ts.length<1000/\∀t∈ts,OK t=true):mE c [.int d,x]=.ok (.bl (pC d x)):=by
 have sz:1000<sizeLine:=by decide
 by_cases e:qE x=true
 .cases x with
  |tup ts=>
   obtain⟨r,m⟩:=o ts rfl;by_cases g:ts.length=d+1
   .have i:i9 [none] (gR (eN 1)) (iM 0) (λ_=>.ok true) (rP c) (vw (f9 2 [.int d,.tup ts]))=.ok ((ts.map isInt).map T.bl):=by rw[yp ts id (λt=>T.bl (isInt t)) (by simp) (by lia) λt e=>⟨_,rfl,rfl,by simp[rP,zb t (m t e)]⟩];simp
    have j:(L3.EM (L3.oW (gd (xu "tuple" (eN 1)))) (gd (eV (fM true) (iN gZ (eM (eN 1) eP)) (eV fY (eN 0) (cM (.int 1)))))) (vw (f9 2 [.int d,.tup ts]))=.ok false:=by simp[g]
    by_cases f:ts.all isInt=true
    .obtain⟨b,rfl⟩:=zX ts f;have h:b.length=d+1:=by simpa using g
     have a:pC d (.tup (b.map T.int))=(b.take d).any (· != 0):=by simp[pC,h,f]
     rw[a];have p:i9 [none] (gR (kM (eN 1) (λ_=>.ok none) (iU (eN 0)))) (iM 0) (λ_=>.ok true) (rD c) (vw (f9 2 [.int d,.tup (b.map T.int)]))=.ok (((b.take d).map λn=>n != 0).map T.bl):=by rw[yp (b.take d) T.int (λn=>T.bl (n != 0)) (HJ (by rw[c6];exact qg rfl rfl (by simp;lia))) (by simp;lia) λn g=>⟨_,rfl,rfl,by simp[rD,bne]⟩];rw[aJ];rfl
     refine gP rfl (eR (gj j rfl) (eR (gj (wR (fV (qc i (tm _))) ?_) rfl) (fO (qc p ?_))))
     .rw[cu];simpa using f
     .rw[xE,cw];rfl
    .have a:pC d (.tup ts)=false:=by simp[pC,f]
     rw[a];refine gP rfl (eR (gj j rfl) (jG (hV (wR (fV (qc i (tm _))) ?_) (fO rfl)) rfl));rw[cu];simpa using f
   .have a:pC d (.tup ts)=false:=by simp[pC,g]
    rw[a];refine gP rfl (jG (hV ?_ (fO rfl)) rfl);have:¬(ts.length=(d:Int)+1):=by lia
    simp[this]
  |_=>simp[qE]at e
 .have a:pC d x=false:=by cases x<;>first|rfl|(simp[qE]at e;done)
  rw[a];refine gP rfl (jG (hV ?_ (fO rfl)) rfl);have l:qE x=false:=by simpa using e
  have:=Kv x k;rw[l]at this;simp only[L3.EM,L3.oW,gd,xu,eN,vw,f9,bC,bW,dz,List.nil_append,List.getElem?_cons_succ,List.getElem?_cons_zero,Ro,M.bind_ok,this];rfl
def Mi(l:List α)(h:l≠[]):pW l (-1)=l.getLast?:=by obtain⟨m,a,rfl⟩:∃m a,l=m++[a]:=⟨l.dropLast,l.getLast h,(List.dropLast_concat_getLast h).symm⟩;rw[L2.G5];simp
def Az(d:Nat)(h:1<=d/\d<=3):lp c [.int d]=.ok (.bl true):=by
 have w:jc c [.int d]=.ok (.bl true):=rfl;have a:(1:Int)<=d:=by lia
 have b:(d:Int)<=3:=by lia
 exact gP rfl (fO (by simp[w,a,b]))
def Q8 n:(List.replicate n [T.int 0]).flatten=(List.replicate n (0:Int)).map T.int:=by
 induction n with
 |zero=>rfl
 |succ n ih=>rw[bR,bS,ih,bR];rfl
def Lu(n:Nat)(d:n<=1000)(h:f ρ=.ok (.int (n:Int))):gH (AS (gH (lstM (eM (cM (.int 0)) eP))) f) ρ=.ok (.lst ((List.replicate n (0:Int)).map T.int)):=by
 have sz:1000<sizeLine:=by decide
 have hr:C0 n=true:=lr (by lia);have a:1<=sizeLine:=by decide
 have b:n<=sizeLine:=by lia
 simp[h,hr,a,b,Q8]
end CL
namespace L3
open PySem L2
theorem nu{r:Type} enc (P:En->Prop) p t:∀(l:List r) (ρ:En),P ρ->
  (∀a∈l,∀ρ,P ρ->∃c,m (enc a) ρ=some c/\(p a=true->∃d,g c=.nx d/\P d)/\(p a=false->g c=.rt t))->
  (l.all p=true->∃ρ',ia m g (l.map enc) ρ=.nx ρ'/\P ρ')/\(l.all p=false->ia m g (l.map enc) ρ=.rt t)
 |[],ρ,h,_=>⟨λ_=>⟨ρ,rfl,h⟩,λh=>by simp at h⟩
 |a::l,ρ,h,st=>by
  obtain⟨c,i,k,s⟩:=st a (by simp) ρ h;rw[bC,ia,i];dsimp only;cases e:p a with
  |true=>obtain⟨d,o,n⟩:=k e;rw[o];have f:=nu enc P p t l d n λb q ρ j=>st b (by simp[q]) ρ j;rw[bP,e,Bool.true_and];exact f
  |false=>rw[s e,bP,e,Bool.false_and];exact⟨λz=>(by cases z),λ_=>rfl⟩
end L3
namespace CL
open PySem L2 L3
variable {c:Cs}
def Mz:Bn (n+1) 1:=by unfold Bn;rw[dc];have:=dA n;lia
def zL ns:ke (ns.map T.int)=some ns:=by simp
def Ar(a:LI):AG [.lst (a.map T.int)]=.ok (.int a.sum):=by simp
end CL
namespace L3
open PySem L2
theorem zN{q:Type} enc (P:Nat->En->Prop) (R:T->Prop):∀(l:List q) (k:Nat) (ρ:En),P k ρ->
  (∀i a ρ,l[i]? = some a->P (k+i) ρ->∃c,m (enc a) ρ=some c/\((∃d,g c=.nx d/\P (k+i+1) d)\/∃t,g c=.rt t/\R t))->
  (∃ρ',ia m g (l.map enc) ρ=.nx ρ'/\P (k+l.length) ρ')\/∃t,ia m g (l.map enc) ρ=.rt t/\R t
 |[],k,ρ,h,_=>.inl ⟨ρ,rfl,h⟩
 |a::l,k,ρ,h,st=>by
  obtain⟨c,j,o⟩:=st 0 a ρ rfl h;rw[bC,ia,j];dsimp only;rcases o with⟨d,e,f⟩|⟨t,e,f⟩
  .rw[e];rw[aA,show k+(l.length+1)=k+1+l.length by lia];exact zN enc P R l (k+1) d f λi b ρ p n=>by have:=st (i+1) b ρ (by simpa using p) (by rw[show k+(i+1)=k+1+i by lia];exact n);rw[show k+1+i+1=k+(i+1)+1 by lia];exact this
  .rw[e];exact .inr ⟨t,rfl,f⟩
end L3
namespace CL
open PySem L2 L3
variable {c:Cs}
def BO(l:List α)(k:Nat) h:pW l (k:Int)=some l[k]:=by unfold pW xF;rw[aR (by lia),aR (by lia)];simp[h]
def CG(l:LI) k (h:k<l.length):pW l (k:Int)=some (l.getD k 0):=by rw[BO l k h,af,ag h];rfl
def getD_mem(l:LI) k (h:k<l.length):l.getD k 0∈l:=by rw[af,ag h];exact aW h
def qB(l:LI) k (h:k<l.length):gN (.lst (l.map T.int)) (.int (k:Int))=.ok (.int (l.getD k 0)):=by simp[ny,CG l k h]
def jH l (k:Nat) (h:k<l.length):gN (tI l) (.int (k:Int))=.ok (.int (l.getD k 0)):=by simp[tI,ny,CG l k h]
def LO x xs:gN (.lst (x::xs)) (.int 0)=.ok x:=by have h:=BO (x::xs) 0 (by simp);have a:pW (x::xs) 0=some x:=h;show (match pW (x::xs) 0 with|some t=>M.ok t|none=>.bad)=_;rw[a]
def z9(a:Nat)(d b:LI):LI:=(b.zip d).map λp=>d.getD a 0*p.1-b.getD a 0*p.2
def qe a row here (h:row.length=here.length):(z9 a row here).length=here.length:=by simp[z9,h]
def Nv a row here (i:a<row.length) (k:row.length=here.length) (hr:∀x∈row,Bn m x) (b:∀x∈here,Bn n x):∀x∈z9 a row here,Bn (m+n+1) x:=λx e=>by obtain⟨p,d,rfl⟩:=aE.mp e;have f:=hr _ (getD_mem row a i);have h:=b _ (getD_mem here a (by lia));have j:=b _ (aX d).1;have g:=hr _ (aX d).2;exact ((f.mul j).sub (h.mul g)).mono (by lia)
def qj(p:Nat×LI):T:=.tup [.int (p.1:Int),.lst (p.2.map T.int)]
def Bk(j:Nat):Nat:=51*2 ^ j-1
def Jm j:Bk j+Bk j+1=Bk (j+1):=by unfold Bk;rw[dc];have:=dA j;lia
def P7(h:j<=k):Bk j<=Bk k:=by unfold Bk;have:=c9 (show 0<2 by decide) h;lia
def G7(m L:Nat)(a:List (Nat×LI)):Prop:=∀(j:Nat) (p:Nat×LI),a[j]? = some p->p.1<m/\p.2.length=L/\∀x∈p.2,Bn (Bk j) x
def oX(b:List (Nat×LI))(a:LI):LI:=b.foldl (λh p=>z9 p.1 p.2 h) a
def Kq a (k:Nat):GZ (.int a) (.int (k:Int))=.ok (.int (a / 2 ^ k)):=by simp[GZ,iW]
def Iz a b:Aj (.int a) (.int b)=.ok (.int (Builtin.bitAnd a b)):=by simp[Aj,iW]
def Po(f:f1 ρ=.ok a1)(d:f2 ρ=.ok a2)(g:f3 ρ=.ok a3)(b:f4 ρ=.ok a4)(a:f5 ρ=.ok a5):gH (lstM (eM f1 (eM f2 (eM f3 (eM f4 (eM f5 eP)))))) ρ=.ok (.lst [a1,a2,a3,a4,a5]):=by
 have e:5<=sizeLine:=by decide
 simp only[gH,lstM,eM,eP,f,d,g,b,a,M.bind_ok,yL,aA,dB,e,if_true]
def Rj n (x:T):(List.replicate n [x]).flatten=List.replicate n x:=by
 induction n with
 |zero=>rfl
 |succ n ih=>rw[bR,bS,ih,bR];rfl
end CL
namespace CL
abbrev Vc:=Nat->Int
inductive Qs(P:Vc->Prop):Vc->Prop
 |of {x:Vc}:P x->Qs P x
 |zero:Qs P λ_=>0
 |lin {x y z:Vc} {s a b:Int}:Qs P x->Qs P y->s≠0->(∀i,s*z i=a*x i+b*y i)->Qs P z
def Qs.sub(h:∀x,P x->Qs P' x)(q:Qs P z):Qs P' z:=by
 induction q with
 |of p=>exact h _ p
 |zero=>exact .zero
 |lin _ _ s e i1 i2=>exact .lin i1 i2 s e
def Qs.mono(h:∀x,P x->P' x)(q:Qs P z):Qs P' z:=q.sub λx p=>.of (h x p)
def Qs.comb a b (d:Qs P x) (c:Qs P y):Qs P λi=>a*x i+b*y i:=.lin (s:=1) d c (by decide) λi=>by rw[dC]
def PQ(P:Vc->Prop)(r:Vc):Vc->Prop:=λx=>P x\/x=r
def Qs.split(q:Qs (PQ P r) z):∃s a y,s≠0/\Qs P y/\∀i,s*z i=y i+a*r i:=by
 induction q with
 |of p=>
  rename_i x;rcases p with p|rfl
  .exact⟨1,0,x,by decide,.of p,λi=>by rw[dC,dD,dE]⟩
  .exact⟨1,1,λ_=>0,by decide,.zero,λi=>by rw[dF]⟩
 |zero=>exact⟨1,0,λ_=>0,by decide,.zero,λi=>by simp⟩
 |lin _ _ hs e i1 i2=>
  rename_i x y z s a b _ _;obtain⟨c,g,h,l,o,k⟩:=i1;obtain⟨d,f,j,t,m,n⟩:=i2;refine⟨s*(c*d),a*d*g+b*c*f,_,dG hs (dG l t),o.comb (a*d) (b*c) m,λi=>?_⟩;calc s*(c*d)*z i=c*d*(s*z i):=by ac_rfl
   _=c*d*(a*x i+b*y i):=by rw[e]
   _=a*d*(c*x i)+b*c*(d*y i):=by rw[dH];ac_rfl
   _=a*d*(h i+g*r i)+b*c*(j i+f*r i):=by rw[k,n]
   _=a*d*h i+b*c*j i+(a*d*g+b*c*f)*r i:=by simp only[dH,Int.add_mul];ac_rfl
def Nd(P:Vc->Prop)(a:List Nat):Prop:=∀z,Qs P z->(∀p∈a,z p=0)->∀i,z i=0
def Nd.nil:Nd (λ_=>False) []:=λz q _=>by
 induction q with
 |of p=>exact p.elim
 |zero=>exact λ_=>rfl
 |lin _ _ hs e i1 i2=>
  intro i;have:=e i;rw[i1 (λp a=>nomatch a) i,i2 (λp a=>nomatch a) i,dI,dI,dE]at this;rcases dJ.mp this with z|z
  .exact absurd z hs
  .exact z
def Nd.step(h:Nd P pl)(n:∀q∈pl,r q=0)(j:r p≠0):Nd (PQ P r) (pl++[p]):=λz q f i=>by
 obtain⟨s,a,y,l,m,e⟩:=q.split;have g:∀q∈pl,y q=0:=λq d=>by have:=e q;rw[f q (az _ d),n q d,dI,dI,dE]at this;exact this.symm
 have c:=h y m g;have b:=e p;rw[f p (bx _ (aj.mpr rfl)),c p,dI,dF]at b;have k:a=0:=by
  rcases dJ.mp b.symm with z|z
  .exact z
  .exact absurd z j
 have:=e i;rw[c i,k,dD,dE]at this;rcases dJ.mp this with z|z
 .exact absurd z l
 .exact z
def Nd.less(h:Nd P pl)(a:∀x,P' x->Qs P x):Nd P' pl:=λz q=>h z (q.sub a)
def Fs{v r y:Vc}(f:Nd P pl)(d:s≠0)(c:Qs P y)(e:∀i,r i=s*v i+a*y i)(g:∀p∈pl,r p=0):(∀i,r i=0)↔Qs P v:=by
 constructor
 .intro h;refine .lin (a:=-a) (b:=0) c .zero d λi=>?_;have:=e i;rw[h i]at this;rw[dI,dE,dM];lia
 .intro h;refine f r ?_ g;have:=funext e;rw[this];exact h.comb s a c
end CL
namespace CL
open PySem L2 L3
variable {c:Cs}
noncomputable def vc(l:LI):Vc:=λi=>l.getD i 0
def ja l i (h:l.length<=i):vc l i=0:=by unfold vc;rw[af,List.getElem?_eq_none h];rfl
def lR l i h:vc l i=l[i]:=by unfold vc;rw[af,ag h];rfl
def MZ a row here (h:row.length=here.length) i:vc (z9 a row here) i=vc row a*vc here i-vc here a*vc row i:=by
 by_cases b:i<here.length
 .rw[lR (z9 a row here) i (by rw[qe a row here h];exact b),lR here i b,lR row i (by lia)];simp[z9,vc]
 .rw[ja _ i (by rw[qe a row here h];lia),ja here i (by lia),ja row i (by lia),dI,dI];rfl
def ve(a:List (Nat×LI)):Vc->Prop:=λx=>∃p∈a,x=vc p.2
def VP(vs:LL):Vc->Prop:=λx=>∃v∈vs,x=vc v
theorem vN m P:∀f b,(∀p∈f,p.2.length=m/\P (vc p.2)/\vc p.2 p.1≠0)->b.length=m->f.Pairwise (λp q=>vc q.2 p.1=0)->
  ∃s y,s≠0/\Qs P y/\(∀i,vc (oX f b) i=s*vc b i+1*y i)/\(∀k,vc b k=0->(∀p∈f,vc p.2 k=0)->vc (oX f b) k=0)/\∀p∈f,vc (oX f b) p.1=0
 |[],b,_,_,_=>⟨1,λ_=>0,by decide,.zero,λi=>by show vc b i=1*vc b i+1*0;lia,λk h _=>h,λp d=>nomatch d⟩
 | (a,row)::f,b,hA,hl,hw=>by
  obtain⟨A,x,z⟩:=hA (a,row) (bj ..);obtain⟨t,v⟩:=dm.mp hw;have j:(z9 a row b).length=m:=by rw[qe a row b (by lia),hl]
  have l:=MZ a row b (by lia);obtain⟨s,y,u,o,e,n,r⟩:=vN m P f (z9 a row b) (λp d=>hA p (bp _ d)) j v;refine⟨s*vc row a,_,dG u z,(o.comb 1 (-(s*vc b a)) (.of x)),λi=>?_,λk h d=>?_,λp d=>?_⟩
  .show vc (oX f (z9 a row b)) i=_;rw[e i,l i,Int.mul_sub,dg,dM,cV,cV,dC,dC];lia
  .refine n k ?_ λp g=>d p (bp _ g);have:=d (a,row) (bj ..);rw[l k,h,this,dI,dI];rfl
  .rcases aG.mp d with rfl|d
   .refine n _ ?_ λq w=>t q w;rw[l a,cW];lia
   .exact r p d
theorem BU x0 x1 x2 m (w:m<=20):∀d j b k l h f,j+d.length<=8->b.length=m->(∀x∈b,Bn (Bk j) x)->
  (∀i p,d[i]? = some p->p.1<m/\p.2.length=m/\∀x∈p.2,Bn (Bk (j+i)) x)->
  ∃t o r,ia (m3 2 (gU (ko 4) (gU (ko 5) mW))) (kl c) (d.map qj) [x0,x1,x2,some (.p (.lst (b.map T.int))),k,l,h,f]=.nx [x0,x1,x2,some (.p (.lst ((oX d b).map T.int))),t,o,r,f]/\
   (oX d b).length=m/\∀x∈oX d b,Bn (Bk (j+d.length)) x
 |[],j,b,k,l,h,f,_,hl,hb,_=>⟨k,l,h,rfl,hl,hb⟩
 | (a,row)::d,j,b,k,l,h,f,hj,hl,hb,hA=>by
  obtain⟨J,z,g⟩:=hA 0 (a,row) rfl;rw[Nat.add_zero]at g;simp only[aA]at hj;have sz:1000<sizeLine:=by decide
  have I:Bk j<=20000:=aO (P7 (show j<=8 by lia)) (by decide);have s:(z9 a row b).length=m:=by rw[qe a row b (by lia),hl]
  have q:∀x∈z9 a row b,Bn (Bk (j+1)) x:=λx u=>(Nv a row b (by lia) (by lia) g hb x u).mono (by rw[Jm];exact aL _);obtain⟨t,o,r,e,B,H⟩:=BU x0 x1 x2 m w d (j+1) (z9 a row b) (some (.p (.int a))) (some (.p (.lst (row.map T.int)))) (some (.p (.int (b.getD a 0)))) f (by lia) s q λi p n=>by have:=hA (i+1) p (by simpa using n);rw[show j+1+i=j+(i+1) by lia];exact this
  refine⟨t,o,r,?_,B,by rw[aA,show j+(d.length+1)=j+1+d.length by lia];exact H⟩;rw[bC,ia];have C:(m3 2 (gU (ko 4) (gU (ko 5) mW))) (qj (a,row)) [x0,x1,x2,some (.p (.lst (b.map T.int))),k,l,h,f]=some [x0,x1,x2,some (.p (.lst (b.map T.int))),some (.p (.int a)),some (.p (.lst (row.map T.int))),h,f]:=rfl;rw[C];have D:i9 [none,none,some 6,some 5,some 4] (lu (eM (eN 3) (eM (eN 5) eP))) (nG 2 (gI (iM 0) (gI (iM 1) nI))) (λ_=>.ok true) (ph c) (kD [x0,x1,x2,some (.p (.lst (b.map T.int))),some (.p (.int a)),some (.p (.lst (row.map T.int))),some (.p (.int (b.getD a 0))),f])=.ok ((z9 a row b).map T.int):=jx (b.zip row) (λp=>T.tup [.int p.1,.int p.2]) (λp=>T.int (row.getD a 0*p.1-b.getD a 0*p.2)) (uG rfl rfl rfl rfl) (by simp;lia) (λp n=>⟨_,rfl,rfl,by have E:=hb _ (aX n).1;have A:=g _ (aX n).2;have v:=g _ (getD_mem row a (by lia));have y:=hb _ (getD_mem b a (by lia));exact eT (eT (eT rfl rfl (qB row a (by lia))) rfl (jV (v.ok E (by lia) (by lia)))) (eT rfl rfl (jV (y.ok A (by lia) (by lia)))) (mU _ _)⟩) (by unfold z9;rw[aJ];rfl)
  have F:kl c [x0,x1,x2,some (.p (.lst (b.map T.int))),some (.p (.int a)),some (.p (.lst (row.map T.int))),h,f]=.nx [x0,x1,x2,some (.p (.lst ((z9 a row b).map T.int))),some (.p (.int a)),some (.p (.lst (row.map T.int))),some (.p (.int (b.getD a 0))),f]:=eR (fH (eT rfl rfl (qB b a (by lia))) rfl) (fH (gz D) rfl)
  dsimp only;rw[F];exact e
def QB(vs:LL)(j:Nat):Prop:=Qs (VP (vs.take j)) (vc (vs.getD j []))
structure tq(vs:LL)(m k:Nat)(ah:List (Nat×LI)):Prop where
 bd:∀p∈ah,p.1<m/\p.2.length=m
 nz:∀p∈ah,vc p.2 p.1≠0
 tri:ah.Pairwise (λp q=>vc q.2 p.1=0)
 nd:Nd (ve ah) (ah.map Prod.fst)
 sp:∀v∈vs.take k,Qs (ve ah) (vc v)
 ps:∀p∈ah,Qs (VP (vs.take k)) (vc p.2)
 le:ah.length<=k
 eq:ah.length=k↔∀j,j<k->¬QB vs j
def ji{a:Type}(l:List a) k v (h:l[k]? = some v):l.take (k+1)=l.take k++[v]:=by rw[List.take_succ,h];rfl
def K0{a:Type}(l:List a) k v w (h:l[k]? = some v):l.getD k w=v:=by rw[af,h];rfl
def VP.succ{vs:LL}(h:vs[k]? = some v) x (q:Qs (VP (vs.take k)) x):Qs (VP (vs.take (k+1))) x:=q.mono λz ⟨w,hw,e⟩=>⟨w,by rw[ji vs k v h];exact az _ hw,e⟩
def A5{m L j:Nat}{R:LI}(h:G7 m L ah)(d:j<m)(f:R.length=L)(b:∀x∈R,Bn (Bk ah.length) x):G7 m L (ah++[(j,R)]):=λi p a=>by
 rw[List.getElem?_append]at a;split at a
 .exact h i p a
 .have e:i=ah.length:=by have:=(aa.mp a).1;simp at this;lia
  subst e;simp at a;subst a;exact⟨d,f,b⟩
theorem zC{m:Nat}:∀(a:List (Nat×LI)) (v:LI),(∀p∈a,p.2.length=m)->v.length=m->(oX a v).length=m
 |[],v,_,h=>h
 |p::a,v,hp,h=>zC a (z9 p.1 p.2 v) (λq b=>hp q (by simp[b])) (by rw[qe _ _ _ (by rw[hp p (by simp),h]),h])
def vM vs m k ah v (h:tq vs m k ah) (g:vs[k]? = some v) (L:v.length=m) (u:(oX ah v).length=m) :
  ((∀i,vc (oX ah v) i=0)->tq vs m (k+1) ah)/\∀j,j<m->vc (oX ah v) j≠0->tq vs m (k+1) (ah++[(j,oX ah v)]):=by
 obtain⟨s,y,D,t,e,N,B⟩:=vN m (ve ah) ah v (λp d=>⟨(h.bd p d).2,⟨p,d,rfl⟩,h.nz p d⟩) L h.tri;have o:∀q∈ah.map Prod.fst,vc (oX ah v) q=0:=λq n=>by obtain⟨p,d,rfl⟩:=aE.mp n;exact B p d
 have f:=Fs h.nd D t e o;have C:QB vs k↔Qs (ve ah) (vc v):=by unfold QB;rw[K0 vs k v [] g];exact⟨λq=>q.sub λx ⟨w,hw,ex⟩=>by rw[ex];exact h.sp w hw,λq=>q.sub λx ⟨p,d,ex⟩=>by rw[ex];exact h.ps p d⟩
 generalize oX ah v=R at *;constructor
 .intro F;have n:=f.mp F;refine⟨h.bd,h.nz,h.tri,h.nd,λw hw=>?_,λp d=>VP.succ g _ (h.ps p d),by have:=h.le;lia,?_⟩
  .rw[ji vs k v g]at hw;rcases ai.mp hw with q|q
   .exact h.sp w q
   .rw[aj.mp q];exact n
  .constructor
   .intro z;have:=h.le;lia
   .intro z;exact absurd (C.mpr n) (z k (by lia))
 .intro j K l;have r:¬QB vs k:=λz=>l (f.mpr (C.mp z) j);have up:∀x,Qs (ve ah) x->Qs (ve (ah++[(j,R)])) x:=λx q=>q.mono λz ⟨p,d,ez⟩=>⟨p,az _ d,ez⟩;have I:Qs (ve (ah++[(j,R)])) (vc R):=.of ⟨(j,R),bx _ (aj.mpr rfl),rfl⟩;refine⟨λp d=>?_,λp d=>?_,?_,?_,λw hw=>?_,λp d=>?_,?_,?_⟩
  .rcases ai.mp d with q|q
   .exact h.bd p q
   .rw[aj.mp q];exact⟨K,u⟩
  .rcases ai.mp d with q|q
   .exact h.nz p q
   .rw[aj.mp q];exact l
  .refine dN.mpr ⟨h.tri,cK _ _,λp d q n=>?_⟩;rw[aj.mp n];exact B p d
  .rw[a9];refine (Nd.step h.nd o l).less λx ⟨p,d,ex⟩=>?_;rcases ai.mp d with q|q
   .exact .of (.inl ⟨p,q,ex⟩)
   .rw[aj.mp q]at ex;exact .of (.inr ex)
  .rw[ji vs k v g]at hw;rcases ai.mp hw with q|q
   .exact up _ (h.sp w q)
   .rw[aj.mp q];exact .lin (a:=1) (b:=-1) I (up _ t) D λi=>by rw[e i];lia
  .rcases ai.mp d with q|q
   .exact VP.succ g _ (h.ps p q)
   .rw[aj.mp q];have J:Qs (VP (vs.take (k+1))) (vc v):=.of ⟨v,by rw[ji vs k v g];exact bx _ (aj.mpr rfl),rfl⟩;have H:=t.sub λx ⟨p,d,ex⟩=>by rw[ex];exact VP.succ g _ (h.ps p d)
    exact .lin (s:=1) J H (by decide) λi=>by rw[dC];exact e i
  .have:=h.le;simp;lia
  .rw[aU,bU];constructor
   .intro z i E;by_cases A:i=k
    .rw[A];exact r
    .exact h.eq.mp (by lia) i (by lia)
   .intro z;rw[h.eq.mpr λi E=>z i (by lia)]
theorem HZ{m:Nat}(vs:LL)(e:∀v∈vs,v.length=m):∀k,k<=vs.length->∃b,tq vs m k b
 |0,_=>⟨[],(λp a=>nomatch a),(λp a=>nomatch a),List.Pairwise.nil,(λz q=>Nd.nil z (q.mono λx ⟨p,a,_⟩=>nomatch a)),(λv e=>by simp at e),(λp a=>nomatch a),aL _,⟨λ_ j o=>absurd o (c8 _),λ_=>rfl⟩⟩
 |k+1,h=>by
  obtain⟨b,I⟩:=HZ vs e k (by lia);have r:=ag (l:=vs) (i:=k) (by lia);have d:=e _ (aW (l:=vs) (n:=k) (by lia));have g:=zC b (vs[k]'(by lia)) (λp a=>(I.bd p a).2) d;obtain⟨t,u⟩:=vM vs m k b (vs[k]'(by lia)) I r d g;by_cases z:∃j,j<m/\vc (oX b (vs[k]'(by lia))) j≠0
  .obtain⟨j,o,s⟩:=z;exact⟨_,u j o s⟩
  .refine⟨_,t λi=>?_⟩;by_cases f:i<m
   .exact aP λw=>z ⟨i,f,w⟩
   .exact ja _ i (by lia)
theorem og m vs (hm:m<=4) (hn:vs.length<=8) (hv:∀v∈vs,v.length=m/\∀x∈v,Bn 50 x) :
  ∃a:List (Nat×LI),iQ c [.lst (vs.map tI)]=.ok (.int (a.length:Int))/\tq vs m vs.length a:=by
 have sz:1000<sizeLine:=by decide
 obtain⟨X,e,a,x2,S,D,I,B,l,rfl,H,-⟩:=jr (m:=ko 2) (g:=mn c) tI
  (λk X=>∃(a:List (Nat×LI)) (x2 S D I B l:Option W),X=[some (.p (.lst (vs.map tI))),some (.o (a.map qj)),x2,S,D,I,B,l]/\tq vs m k a/\G7 m m a)
  vs 0 _ ⟨[],none,none,none,none,none,none,rfl,⟨(λp d=>nomatch d),(λp d=>nomatch d),List.Pairwise.nil,(λz q=>Nd.nil z (q.mono λx ⟨p,d,_⟩=>nomatch d)),(λv hv=>by simp at hv),(λp d=>nomatch d),aL _,⟨λ_ j hj=>absurd hj (c8 _),λ_=>rfl⟩⟩,λj p d=>by simp at d⟩ (by
   rintro k v X Y ⟨a,x2,S,D,I,B,l,rfl,H,hA⟩;rw[aH]at H ⊢;have hil:=(aa.mp Y).1;obtain⟨N,hvb⟩:=hv v (aw Y);have b:=H.le;have hrm:C0 (m:Int)=true:=lr (by lia);obtain⟨F,C,E,e3,h,s⟩:=BU (c:=c) (some (.p (.lst (vs.map tI)))) none (some (.p (tI v))) m (by lia) a 0 v D I B l (by lia) N (λx hx=>hvb x hx) λi p d=>by rw[aH];exact hA i p d
   rw[aH]at s;obtain⟨J,K⟩:=vM vs m k a v H Y N h;generalize hR:oX a v=R at e3 h s J K;let left:List Nat:=(List.range m).filter λj=>R.getD j 0 != 0;have e4:i9 [none,some 3] (ig (eM (iN gZ (eM (eN 3) eP)) eP)) (iM 0) (gd (eV (fM true) (eV gN (eN 1) (eN 0)) (cM (.int 0)))) (pk c) (kD [some (.p (.lst (vs.map tI))),some (.o (a.map qj)),some (.p (tI v)),some (.p (.lst (R.map T.int))),F,C,E,l])=.ok (left.map λ(j:Nat)=>T.int (j:Int)):=pQ (List.range m) (λ(j:Nat)=>T.int (j:Int)) (λ(j:Nat)=>T.int (j:Int)) (λj=>R.getD j 0 != 0) (by simp[h,hrm,Jt]) (by simp;lia) (λj hj=>⟨_,rfl,fV (eT (eT rfl rfl (qB R j (by have:=aT.mp hj;lia))) rfl (mZ _ _)),λ_=>rfl⟩) rfl
   have A:pU (left.map λ(j:Nat)=>T.int (j:Int))=true:=oC _ _ λ_ _=>rfl;have u:qt (left.map λ(j:Nat)=>T.int (j:Int))<=90:=aO (ot _ 0 _ λ_ _=>aL _) (by decide);have f:gd (eV (fM true) (eN 7) (gH (lstM eP))) (vw [some (.p (.lst (vs.map tI))),some (.o (a.map qj)),some (.p (tI v)),some (.p (.lst (R.map T.int))),F,C,E,some (.p (.lst (left.map λ(j:Nat)=>T.int (j:Int))))])=.ok (!left.isEmpty):=by refine fV (eT (x:=.lst (left.map λ(j:Nat)=>T.int (j:Int))) (y:=.lst []) rfl (by simp) ?_);rw[tu true _ A u];simp
   have P:∀r,(lJ (gd (eV (fM true) (eN 7) (gH (lstM eP)))) (ng 1 (iC (nv (eM (eV gN (eN 7) (cM (.int 0))) (eM (eN 3) eP))))) f7) [some (.p (.lst (vs.map tI))),some (.o (a.map qj)),some (.p (tI v)),some (.p (.lst (R.map T.int))),F,C,E,some (.p (.lst (left.map λ(j:Nat)=>T.int (j:Int))))]=r->
     mn c [some (.p (.lst (vs.map tI))),some (.o (a.map qj)),some (.p (tI v)),S,D,I,B,l]=r:=λr hr=>by
    refine eR (fH (t:=.lst (v.map T.int)) rfl rfl) (eR (ρ':=[some (.p (.lst (vs.map tI))),some (.o (a.map qj)),some (.p (tI v)),some (.p (.lst (R.map T.int))),F,C,E,l]) (ED (us:=a.map qj) rfl ?_) (eR (fH (t:=.lst (left.map λ(j:Nat)=>T.int (j:Int))) (gz e4) rfl) hr));show CB 1 (a.map qj) (ia (m3 2 (gU (ko 4) (gU (ko 5) mW))) (kl c) (a.map qj) [some (.p (.lst (vs.map tI))),none,some (.p (tI v)),some (.p (.lst (v.map T.int))),D,I,B,l])=_;rw[e3];rfl
   cases b:left with
   |nil=>
    refine⟨_,_,rfl,.inl (P _ (gj (by rw[f,b];rfl) rfl)),a,_,_,_,_,_,_,rfl,J (λi=>?_),hA⟩;by_cases Z:i<m
    .refine aP λhc=>?_;have:i∈left:=aV.mpr ⟨aT.mpr Z,by simpa[vc] using hc⟩;rw[b]at this;exact nomatch this
    .exact ja R i (by lia)
   |cons w js=>
    have Q:w∈left:=by rw[b];exact bj ..
    have n:w<m:=aT.mp (aV.mp Q).1;have L:vc R w≠0:=by have:=(aV.mp Q).2;simpa[vc] using this
    have U:2<=sizeLine:=by decide
    have i0:eV gN (eN 7) (cM (.int 0)) (kD [some (.p (.lst (vs.map tI))),some (.o (a.map qj)),some (.p (tI v)),some (.p (.lst (R.map T.int))),F,C,E,some (.p (.lst (left.map λ(j:Nat)=>T.int (j:Int))))])=.ok (.int (w:Int)):=eT rfl rfl (by rw[b];exact LO _ _);have i4:eN 3 (kD [some (.p (.lst (vs.map tI))),some (.o (a.map qj)),some (.p (tI v)),some (.p (.lst (R.map T.int))),F,C,E,some (.p (.lst (left.map λ(j:Nat)=>T.int (j:Int))))])=.ok (.lst (R.map T.int)):=rfl;refine⟨_,_,rfl,.inl (P _ (hV (by rw[f,b];rfl) (rY (t:=qj (w,R)) rfl ?_ (by simp;lia) rfl))),a++[(w,R)],_,_,_,_,_,_,by rw[a9];rfl,K w n L,A5 hA n h s⟩;simp only[nv,eM,eP,i0,i4,M.bind_ok,yL,aA,dB,U,if_true];rfl)
 rw[aH]at H;refine⟨a,gP rfl (eR (l9 (ts:=[]) (by simp) rfl) (eR (md rfl e) (fO (kx rfl ?_)))),H⟩;simp
def NN(h:f ρ=.ok (.int i)):yE (λi=>.int (-i)) f ρ=.ok (.int (-i)):=by simp only[yE,h,M.bind_ok]
def sV:Bn n 0:=by unfold Bn;exact dA _
def Dt N (D:N<=8000) row (J:row.length<1000) (o:∀x∈row,Bn N x):∃g n,0<g/\n8 c [tI row]=.ok (tI n)/\n.length=row.length/\(∀i,vc row i=g*vc n i)/\∀y∈n,Bn N y:=by
 have sz:1000<sizeLine:=by decide
 have main:=zN (m:=ko 2) (g:=wF c) T.int
  (λk w=>∃(a:Int) (r:Option W),w=[some (.p (tI row)),some (.p (.int a)),r]/\0<=a/\Bn N a/\∀x∈row.take k,a ∣ x)
  (λt=>t=tI row) row 0 _ ⟨0,none,rfl,by decide,sV,λx f=>by simp at f⟩ (by
   rintro i x w b ⟨a,r,rfl,C,u,d⟩;rw[aH]at d ⊢;have s:=aw b;refine⟨_,rfl,?_⟩;have v:setO 1 (iC (eY (eM (eN 1) (eM (eN 2) eP)) (gY c))) [some (.p (tI row)),some (.p (.int a)),some (.p (.int x))]=.nx [some (.p (tI row)),some (.p (.int (Cu.G a x))),some (.p (.int x))]:=fH (lx rfl rfl (qf a x)) rfl;by_cases h:Cu.G a x=1
   .right;exact⟨_,eR v (hV (fV (eT rfl rfl (by rw[gC,h];rfl))) (fO rfl)),rfl⟩
   .left;refine⟨_,eR v (gj (fV (eT rfl rfl (by rw[gC];simp[h]))) rfl),_,_,rfl,Cu.tW _ _,?_,λz A=>?_⟩
    .by_cases l:x=0
     .rw[l,Cu.HE];exact cF (by lia) u
     .have I:=Cu.Q3 a x l;have H:=Cu.tW a x;exact cF (by lia) (o x s)
    .rw[ji row i x b]at A;rcases ai.mp A with q|q
     .exact Int.dvd_trans (Cu.AY a x) (d z q)
     .rw[aj.mp q];exact Cu.sx a x)
 rcases main with⟨E,e,a,r,rfl,C,u,d⟩|⟨t,e,rfl⟩
 .rw[aH,dO]at d;by_cases j:a=0
  .exact⟨1,row,by decide,gP rfl (eR (fH rfl rfl) (eR (md rfl e) (jG (hV (fV (eT rfl rfl (by rw[gC,j];rfl))) (fO rfl)) rfl))),rfl,λi=>by rw[dC],o⟩
  .refine⟨a,row.map (λx=>x.fdiv a),by lia,gP rfl (eR (fH rfl rfl) (eR (md rfl e) (eR (gj (fV (eT rfl rfl (by rw[gC];simp[j]))) rfl) (fO ?_)))),by simp,λi=>?_,λy B=>?_⟩
   .exact kx (gz (jx row T.int (λx=>T.int (x.fdiv a)) rfl (by lia) (λx f=>⟨_,rfl,rfl,eT rfl rfl (uo j (u.noPy D))⟩) (by rw[aJ];rfl))) rfl
   .by_cases b:i<row.length
    .rw[lR row i b,lR _ i (by simpa using b),dP];obtain⟨q,F⟩:=d _ (aW b);rw[F,dy q j]
    .rw[ja row i (by lia),ja _ i (by simp;lia),dI]
   .obtain⟨x,f,rfl⟩:=aE.mp B;exact cF (Kg (d x f) j) (o x f)
 .exact⟨1,row,by decide,gP rfl (eR (fH rfl rfl) (jG (md rfl e) rfl)),rfl,λi=>by rw[dC],o⟩
def Dx{g x:Int}(a:g≠0)(h:g*x=0):x=0:=by
 rcases dJ.mp h with z|z
 .exact absurd z a
 .exact z
def K5 o:DF o*o=(o.natAbs:Int):=by
 unfold DF;split
 .rw[dC];lia
 .split
  .rw[dM,dC];lia
  .rw[dD];lia
def lP(p:Nat×LI):T:=.tup [.int (p.1:Int),tI p.2]
noncomputable def sm:Nat->(Nat->Int)->Int
 |0,_=>0
 |n+1,f=>f 0+sm n λi=>f (i+1)
theorem fJ:∀n f g,(∀i,i<n->f i=g i)->sm n f=sm n g
 |0,_,_,_=>rfl
 |n+1,f,g,h=>by rw[sm,sm,h 0 (by lia),fJ n _ _ λi a=>h (i+1) (by lia)]
theorem yo a b:∀n f g,sm n (λi=>a*f i+b*g i)=a*sm n f+b*sm n g
 |0,_,_=>by simp[sm]
 |n+1,f,g=>by rw[sm,sm,sm,yo a b n (λi=>f (i+1)) λi=>g (i+1),dH,dH];lia
theorem lC a:∀n f,sm n (λi=>a*f i)=a*sm n f
 |0,_=>by simp[sm]
 |n+1,f=>by rw[sm,sm,lC a n λi=>f (i+1),dH]
theorem iS:∀n:Nat,sm n (λ_=>0)=0
 |0=>rfl
 |n+1=>by rw[sm,iS n];rfl
theorem xp:∀(n k:Nat) (f:Nat->Int),k<n->sm n (λi=>(if i=k then 1 else 0)*f i)=f k
 |0,k,f,h=>absurd h (c8 _)
 |n+1,0,f,h=>by rw[sm,aR rfl,dC,fJ n _ (λ_=>0) (λi _=>by rw[aS (by lia),dD]),iS,dE]
 |n+1,k+1,f,h=>by rw[sm,aS (by lia),dD,dF,fJ n _ (λi=>(if i=k then 1 else 0)*f (i+1)) (λi _=>by simp),xp n k (λi=>f (i+1)) (by lia)]
theorem ue:∀(m:Nat) (l:List Nat),l.Nodup->(∀x∈l,x<m)->l.length<=m
 |0,[],_,_=>aL _
 |0,x::l,_,h=>absurd (h x (bj ..)) (c8 _)
 |m+1,l,hn,h=>by
  have b:=ue m (l.erase m) (hn.erase m) λx d=>by have q:=(hn.mem_erase_iff).mp d;have:=h x q.2;have:=q.1;lia
  by_cases a:m∈l
  .rw[dQ a]at b;lia
  .rw[List.erase_of_not_mem a]at b;lia
def xO(e:fa ρ=.ok (.lst a))(f:fb ρ=.ok (.lst b))(d:a.length+b.length<=sizeLine):uW fa fb ρ=.ok (a++b):=by simp only[uW,e,f,M.bind_ok];rw[aR d]
def Qa(h:f ρ=.ok a):gH (lstM (eM f eP)) ρ=.ok (.lst [a]):=by
 have b:1<=sizeLine:=by decide
 simp only[gH,lstM,eM,eP,h,M.bind_ok,yL,aA,dB,b,if_true]
def Do(h:f ρ=.ok a)(e:g ρ=.ok b):nv (eM f (eM g eP)) ρ=.ok (.tup [a,b]):=by
 have d:2<=sizeLine:=by decide
 simp only[nv,eM,eP,h,e,M.bind_ok,yL,aA,dB,d,if_true]
def vA(pv:List (Nat×LI)) left (a:Nat) (f:Nat×LI->LI) (g:pv.length<=100) (e:∀p∈pv,jm c [tI p.2,tI left,.int (a:Int)]=.ok (tI (f p))) :
  jv c [.lst (pv.map lP),tI left,.int (a:Int)]=.ok ((pv.map (λp=>(p.1,f p))++[(a,left)]).map lP):=by
 have sz:1000<sizeLine:=by decide
 have d:i9 [none,none,some 1,some 2] (gR (eN 0)) (nG 2 (gI (iM 0) (gI (iM 1) nI))) (λ_=>.ok true) (pb c) (vw (f9 3 [.lst (pv.map lP),tI left,.int a]))=.ok ((pv.map (λp=>(p.1,f p))).map lP):=jx pv lP (λp=>lP (p.1,f p)) rfl (by lia) (λp b=>⟨_,rfl,rfl,Do rfl (j5 rfl rfl rfl (e p b))⟩) (by rw[aJ];rfl)
 refine Fc rfl (yb ?_);rw[a9];exact xO (gz d) (Qa (Do rfl rfl)) (by simp;lia)
def r0{d e:Type}[Inhabited e]{P:d->e->Prop}(l:List d)(h:∀a∈l,∃b,P a b):∃f:d->e,∀a∈l,P a (f a):=⟨λa=>Classical.epsilon λb=>P a b,λa g=>Classical.epsilon_spec (h a g)⟩
end CL
namespace CL
def Mv:∀n f g,sm n (λi=>f i+g i)=sm n f+sm n g:=λn f g=>by have:=yo 1 1 n f g;simpa using this
noncomputable def gE(m:Nat)(A u:Vc):Int:=sm m λi=>A i*u i
def Ck(h:∀i,s*z i=a*x i+b*y i):s*gE m A z=a*gE m A x+b*gE m A y:=by
 unfold gE;rw[<-lC,<-yo];refine fJ m _ _ λi _=>?_;have:=h i;calc s*(A i*z i)=A i*(s*z i):=by rw[Int.mul_left_comm]
  _=A i*(a*x i+b*y i):=by rw[this]
  _=a*(A i*x i)+b*(A i*y i):=by grind
theorem mV m:∀(f:List Vc) (T:List Nat),T.Nodup->(∀t∈T,t<m)->f.length<T.length->∃v:Vc,(∃i,v i≠0)/\(∀i,i∉T->v i=0)/\∀A∈f,gE m A v=0
 |[],T,nd,ht,hl=>by
  cases T with
  |nil=>cases hl
  |cons t T=>refine⟨λi=>if i=t then 1 else 0,⟨t,by simp⟩,λi g=>?_,λA l=>nomatch l⟩;have:i≠t:=λz=>g (by simp[z]);simp[this]
 |A::f,T,nd,ht,hl=>by
  cases T with
  |nil=>cases hl
  |cons t T=>
   obtain⟨C,q⟩:=bI.mp nd;have h:f.length<T.length:=by simp at hl;exact hl
   obtain⟨e,⟨j,w⟩,o1,D⟩:=mV m f T q (λx n=>ht x (by simp[n])) h;have o:j∈T:=aP λz=>w (o1 j z);have r:f.length<((t::T).erase j).length:=by have F:j∈t::T:=bp _ o;rw[dQ F,aA];exact h
   obtain⟨c,⟨k,E⟩,o2,u⟩:=mV m f ((t::T).erase j) (nd.erase j) (λx n=>ht x (dR n)) r;have p:c j=0:=o2 j (λz=>by rw[List.Nodup.mem_erase_iff nd]at z;exact z.1 rfl);by_cases l:gE m A c=0
   .exact⟨c,⟨k,E⟩,λi g=>o2 i (λz=>g (dR z)),λB d=>by
     rcases aG.mp d with rfl|d
     .exact l
     .exact u B d⟩
   .refine⟨λi=>gE m A c*e i-gE m A e*c i,⟨j,?_⟩,λi g=>?_,λB d=>?_⟩
    .dsimp only;rw[p];simp[l,w]
    .show gE m A c*e i-gE m A e*c i=0;rw[o1 i (λz=>g (by simp[z])),o2 i (λz=>g (dR z))];simp
    .have:=Ck (m:=m) (A:=B) (x:=e) (y:=c) (z:=λi=>gE m A c*e i-gE m A e*c i) (s:=1) (a:=gE m A c) (b:=-gE m A e) (λi=>by grind);rcases aG.mp d with rfl|d
     .rw[dC]at this;rw[this];grind
     .rw[D B d,u B d]at this;simpa using this
end CL
namespace CL
open PySem L2 L3
variable {c:Cs}
def m5(h:fc ρ=.ok false):nr fc fd ρ=.ok false:=by simp only[L3.nr,h,M.bind_ok];rfl
def mC(h:fc ρ=.ok true)(a:fd ρ=.ok b):nr fc fd ρ=.ok b:=by simp only[L3.nr,h,a,M.bind_ok];rfl
def zM N M row other a (D:a<row.length) (Z:other.length=row.length) (hs:row.length<1000) (L:N+M+1<=8000) (k:∀x∈row,Bn N x) (l:∀x∈other,Bn M x) (P:vc other a≠0) :
  ∃r,jm c [tI row,tI other,.int (a:Int)]=.ok (tI r)/\r.length=row.length/\(∀x∈r,Bn (N+M+1) x)/\vc r a=0/\∃g s b:Int,0<g/\0<s/\(∀i,g*vc r i=s*vc row i+b*vc other i)/\(vc row a≠0->s=((vc other a).natAbs:Int)/\b = -vc row a*DF (vc other a)):=by
 have sz:1000<sizeLine:=by decide
 have q:gN (tI row) (.int (a:Int))=.ok (.int (vc row a)):=jH row a D;have C:gN (tI other) (.int (a:Int))=.ok (.int (vc other a)):=jH other a (by lia);have A:Bn N (vc row a):=k _ (getD_mem row a D);have S:Bn M (vc other a):=l _ (getD_mem other a (by lia));by_cases j:vc row a=0
 .exact⟨row,gP rfl (jG (hV (fV (eT (eT rfl rfl q) rfl (by rw[gC,j];rfl))) (fO rfl)) rfl),rfl,λx F=>(k x F).mono (by lia),j,1,1,0,by decide,by decide,λi=>by lia,λz=>absurd j z⟩
 .generalize X:vc other a=o at *;generalize H:vc row a=x0 at *;have R:BS [.int o]=.ok (.int (o.natAbs:Int)):=by simp[Os]
  let w:Int:=-x0*DF o;have K:=DJ o;have B:Bn N w:=by
   refine cF ?_ A;show (-x0*DF o).natAbs<=_;rw[aZ,Int.natAbs_neg];have:(DF o).natAbs<=1:=by lia
   exact aO (Nat.mul_le_mul_left _ this) (by lia)
  have v:Bn M (o.natAbs:Int):=cF (by lia) S;let d:LI:=(row.zip other).map λp=>(o.natAbs:Int)*p.1+w*p.2;have Q:d.length=row.length:=by simp[d,Z]
  have m:∀y∈d,Bn (N+M+1) y:=λy E=>by obtain⟨p,e,rfl⟩:=aE.mp E;exact ((v.mul (k _ (aX e).1)).add (B.mul (l _ (aX e).2))).mono (by lia)
  have h:∀i,vc d i=(o.natAbs:Int)*vc row i+w*vc other i:=λi=>by
   by_cases I:i<row.length
   .rw[lR d i (by lia),lR row i I,lR other i (by lia)];simp[d]
   .rw[ja d i (by lia),ja row i (by lia),ja other i (by lia),dI,dI];rfl
  obtain⟨g,r,U,Y,J,f,u⟩:=Dt (c:=c) (N+M+1) L d (by lia) m;refine⟨r,gP rfl (eR (gj (fV (eT (eT rfl rfl q) rfl (by rw[gC];simp[j]))) rfl) (eR (fH (t:=.int (o.natAbs:Int)) (kx (eT rfl rfl C) R) rfl) (eR (fH (t:=.int w) ?_ rfl) (fO (sq (x:=tI d) ?_ Y))))),by lia,u,?_,g,(o.natAbs:Int),w,U,by lia,λi=>by rw[<-f i,h i],λ_=>⟨rfl,rfl⟩⟩
  .refine eT (x:=.int (-x0)) (y:=.int (DF o)) ?_ (sq (eT rfl rfl C) (AI o)) (jV ((A.neg).ok (n:=2) ?_ (by lia) (by decide)))
   .exact NN (eT rfl rfl q)
   .unfold Bn;show _<4;lia
  .refine kx (t:=.lst (d.map T.int)) (gz (jx (row.zip other) (λp=>T.tup [.int p.1,.int p.2]) (λp=>T.int ((o.natAbs:Int)*p.1+w*p.2)) (uG rfl rfl rfl rfl) (by simp;lia) (λp e=>⟨_,rfl,rfl,?_⟩) (by rw[aJ];rfl))) rfl;exact eT (eT rfl rfl (jV (v.ok (k _ (aX e).1) (by lia) (by lia)))) (eT rfl rfl (jV (B.ok (l _ (aX e).2) (by lia) (by lia)))) (fZ _ _)
  .refine Dx (g:=g) (by lia) ?_;rw[<-f a,h a,X,H];show _ + -x0*DF o*o=_;rw[cV,K5,dM,cW x0];lia
theorem pj P x1 L M (S:L<1000):∀(pv:List (Nat×LI)) (b:LI) (N:Nat) (h j:Option W),N+pv.length*(M+1)<=8000->b.length=L->(∀x∈b,Bn N x)->(∀p∈pv,p.1<L/\p.2.length=L/\vc p.2 p.1≠0/\(∀x∈p.2,Bn M x)/\P (vc p.2))->pv.Pairwise (λp q=>vc q.2 p.1=0)->
  ∃r F n,ia (m3 2 (gU (ko 2) (gU (ko 3) mW))) (pI c) (pv.map lP) [some (.p (tI b)),x1,h,j]=.nx [some (.p (tI r)),x1,F,n]/\r.length=L/\(∀x∈r,Bn (N+pv.length*(M+1)) x)/\
   (∃g s y,0<g/\0<s/\Qs P y/\∀i,g*vc r i=s*vc b i+1*y i)/\(∀k,vc b k=0->(∀p∈pv,vc p.2 k=0)->vc r k=0)/\∀p∈pv,vc r p.1=0
 |[],b,N,h,j,_,hl,hb,_,_=>⟨b,h,j,rfl,hl,λx m=>(hb x m).mono (by lia),⟨1,1,λ_=>0,by decide,by decide,.zero,λi=>by lia⟩,λk z _=>z,λp d=>nomatch d⟩
 | (a,prow)::pv,b,N,h,j,hN,hl,hb,hA,hw=>by
  obtain⟨h1,h2,h3,X,K⟩:=hA (a,prow) (bj ..);obtain⟨Z,w2⟩:=dm.mp hw;rw[aA,bV]at hN;obtain⟨w,Q,R,U,z0,f,B,q1,u,D,I,_⟩:=zM N M b prow a (by lia) (by lia) (by lia) (by lia) hb X h3;obtain⟨r,F,n,e,o,C,⟨E,l,y,v,A,J,v2⟩,H,Y⟩:=pj P x1 L M S pv w (N+M+1) (some (.p (.int a))) (some (.p (tI prow))) (by lia) (by rw[R,hl]) U (λp d=>hA p (bp _ d)) w2;refine⟨r,F,n,?_,o,λx m=>(C x m).mono (by rw[aA,bV];lia),⟨f*E,l*B,_,Int.mul_pos u v,Int.mul_pos A D,Qs.comb (l*q1) f (.of K) J,λi=>?_⟩,λk z d=>?_,λp d=>?_⟩
  .rw[bC,ia];have B:(m3 2 (gU (ko 2) (gU (ko 3) mW))) (lP (a,prow)) [some (.p (tI b)),x1,h,j]=some [some (.p (tI b)),x1,some (.p (.int a)),some (.p (tI prow))]:=rfl;rw[B];have l:pI c [some (.p (tI b)),x1,some (.p (.int a)),some (.p (tI prow))]=.nx [some (.p (tI w)),x1,some (.p (.int a)),some (.p (tI prow))]:=fH (j5 rfl rfl rfl Q) rfl;dsimp only;rw[l];exact e
  .calc f*E*vc r i=f*(E*vc r i):=by ac_rfl
    _=l*(f*vc w i)+f*y i:=by rw[v2 i,dC,dH];congr 1;ac_rfl
    _=_:=by rw[I i,dH];simp only[dC,cV,Int.add_assoc]
  .refine H k (Dx (g:=f) (by lia) ?_) λp t=>d p (bp _ t);have:=d (a,prow) (bj ..);dsimp only at this;rw[I k,z,this,dI,dI];rfl
  .rcases aG.mp d with rfl|d
   .exact H _ z0 λq hq=>Z q hq
   .exact Y p d
def Ak P L M N (b:L<1000) (pv:List (Nat×LI)) row (h:N+pv.length*(M+1)<=8000) (m:row.length=L) (j:∀x∈row,Bn N x) (a:∀p∈pv,p.1<L/\p.2.length=L/\vc p.2 p.1≠0/\(∀x∈p.2,Bn M x)/\P (vc p.2)) (hw:pv.Pairwise (λp q=>vc q.2 p.1=0)) :
  ∃r:LI,iY c [tI row,.lst (pv.map lP)]=.ok (tI r)/\r.length=L/\(∀x∈r,Bn (N+pv.length*(M+1)) x)/\
   (∃g s y,0<g/\0<s/\Qs P y/\∀i,g*vc r i=s*vc row i+1*y i)/\∀p∈pv,vc r p.1=0:=by
 obtain⟨r,o,n,e,f,k,l,-,d⟩:=pj P (some (.p (.lst (pv.map lP)))) L M b pv row N none none h m j a hw;exact⟨r,gP rfl (eR (md rfl e) (fO rfl)),f,k,l,d⟩
noncomputable def Pq(B:Nat):Nat->Nat
 |0=>0
 |k+1=>Pq B k+(B+k*(Pq B k+1))+1
def Jw B k:Pq B k<=Pq B (k+1):=by show _<=Pq B k+(B+k*(Pq B k+1))+1;lia
def L4(h:k<=d):Pq B k<=Pq B d:=by
 induction h with
 |refl=>exact aL _
 |step _ ih=>exact aO ih (Jw B _)
structure Rh(d B:Nat):Prop where
 b1:1<=B
 le:∀k,k<=d->B+k*(Pq B k+1)<=8000
 pq:Pq B d<=8000
structure PP(d B:Nat)(rows:LL)(pv:List (Nat×LI))(rs:LL):Prop where
 pl:∀p∈pv,p.1<d/\p.2.length=d+1/\vc p.2 p.1≠0/\(∀x∈p.2,Bn (Pq B pv.length) x)/\Qs (VP rows) (vc p.2)
 pw:pv.Pairwise λp q=>p.1≠q.1/\vc q.2 p.1=0/\vc p.2 q.1=0
 rr:∀r∈rs,r.length=d+1/\(∀k,k<d->vc r k=0)/\Qs (VP rows) (vc r)
 sp:∀r∈rows,Qs (λx=>(∃p∈pv,x=vc p.2)\/∃r∈rs,x=vc r) (vc r)
section
variable {d B:Nat}{rows rs:LL}{pv:List (Nat×LI)}{row left:LI}{g s:Int}{y:Vc}
def PP.short(h:PP d B rows pv rs):pv.length<=d:=by
 have:=ue d (pv.map Prod.fst) (cN.mpr (h.pw.imp λq=>q.1)) λx b=>by obtain⟨p,a,rfl⟩:=aE.mp b;exact (h.pl p a).1
 simpa using this
def oN{x:Vc}(q:Qs (VP rows) x):Qs (VP (rows++[row])) x:=q.mono λz ⟨w,hw,e⟩=>⟨w,az _ hw,e⟩
def sW(h:PP d B rows pv rs)(b:0<g)(a:Qs (ve pv) y)(e:∀i,g*vc left i=s*vc row i+1*y i):Qs (VP (rows++[row])) (vc left):=.lin (.of ⟨row,bx _ (aj.mpr rfl),rfl⟩) (a.sub λx ⟨p,hp,ex⟩=>by rw[ex];exact oN (h.pl p hp).2.2.2.2) (by lia) e
def K4(h:PP d B rows pv rs)(t:0<g)(v:0<s)(j:Qs (ve pv) y)(e:∀i,g*vc left i=s*vc row i+1*y i)(u:left.length=d+1)(l:∀k,k<d->vc left k=0):PP d B (rows++[row]) pv (rs++[left]):=by
 have up:∀{x:Vc},Qs (λx=>(∃p∈pv,x=vc p.2)\/∃r∈rs,x=vc r) x->Qs (λx=>(∃p∈pv,x=vc p.2)\/∃r∈rs++[left],x=vc r) x:=λq=>q.mono λz o=>o.imp id λ⟨r,hr,ez⟩=>⟨r,az _ hr,ez⟩;refine⟨λp f=>?_,h.pw,λr hr=>?_,λr hr=>?_⟩
 .obtain⟨a,b,m,n,q⟩:=h.pl p f;exact⟨a,b,m,n,oN q⟩
 .rcases ai.mp hr with q|q
  .obtain⟨a,b,q⟩:=h.rr r q;exact⟨a,b,oN q⟩
  .rw[aj.mp q];exact⟨u,l,sW h t j e⟩
 .rcases ai.mp hr with q|q
  .exact up (h.sp r q)
  .rw[aj.mp q];exact .lin (a:=g) (b:=-1) (.of (.inr ⟨left,bx _ (aj.mpr rfl),rfl⟩)) (j.mono λx ⟨p,f,ex⟩=>.inl ⟨p,f,ex⟩) (show s≠0 by lia) λi=>by rw[e i];lia
def GN(h:PP d B rows pv rs)(L:0<g)(Z:0<s)(D:Qs (ve pv) y)(e:∀i,g*vc left i=s*vc row i+1*y i)(X:left.length=d+1)(A:∀p∈pv,vc left p.1=0)(Q:∀x∈left,Bn (B+pv.length*(Pq B pv.length+1)) x){j:Nat}(U:j<d)(K:vc left j≠0)
  (f:Nat×LI->LI) (C:∀p∈pv,(f p).length=p.2.length/\(∀x∈f p,Bn (Pq B (pv.length+1)) x)/\vc (f p) j=0/\∃g s b:Int,0<g/\0<s/\∀i,g*vc (f p) i=s*vc p.2 i+b*vc left i):PP d B (rows++[row]) (pv.map (λp=>(p.1,f p))++[(j,left)]) rs:=by
 have P:(pv.map (λp=>(p.1,f p))++[(j,left)]).length=pv.length+1:=by simp
 have at_:∀p∈pv,∀q∈pv,vc p.2 q.1=0->vc (f p) q.1=0:=λp k q t z=>by obtain⟨_,_,_,v,F,I,J,H,o⟩:=C p k;have:=o q.1;rw[z,A q t,dI,dI,dE]at this;exact Dx (Int.ne_of_gt J) this
 have n:Qs (λx=>(∃p∈pv.map (λp=>(p.1,f p))++[(j,left)],x=vc p.2)\/∃r∈rs,x=vc r) (vc left):=.of (.inl ⟨(j,left),bx _ (aj.mpr rfl),rfl⟩);have m:∀p∈pv,Qs (λx=>(∃p∈pv.map (λp=>(p.1,f p))++[(j,left)],x=vc p.2)\/∃r∈rs,x=vc r) (vc p.2):=λp k=>by obtain⟨_,_,_,v,F,I,J,H,o⟩:=C p k;exact .lin (a:=v) (b:=-I) (.of (.inl ⟨(p.1,f p),az _ (aE.mpr ⟨p,k,rfl⟩),rfl⟩)) n (show F≠0 by lia) λi=>by rw[o i];lia
 refine⟨λp k=>?_,?_,λr hr=>?_,λr hr=>?_⟩
 .rw[P];rcases ai.mp k with q|q
  .obtain⟨p,l,rfl⟩:=aE.mp q;obtain⟨a,b,N,Y,q⟩:=h.pl p l;obtain⟨R,S,_,v,F,I,J,H,o⟩:=C p l;refine⟨a,R.trans b,λz=>?_,S,.lin (oN q) (sW h L D e) (show v≠0 by lia) o⟩;have:=o p.1;rw[show vc (f p) p.1=0 from z,A p l,dI,dI,dE]at this;exact N (Dx (Int.ne_of_gt H) this.symm)
  .rw[aj.mp q];exact⟨U,X,K,λx E=>(Q x E).mono (by show _<=Pq B pv.length+(B+pv.length*(Pq B pv.length+1))+1;lia),sW h L D e⟩
 .refine dN.mpr ⟨cN.mpr (h.pw.imp_of_mem λ{p q} k t w=>⟨w.1,at_ q t p k w.2.1,at_ p k q t w.2.2⟩),cK _ _,λp k q t=>?_⟩;rw[aj.mp t];obtain⟨p,l,rfl⟩:=aE.mp k;exact⟨λz=>K ((show p.1=j from z)▸A p l),A p l,(C p l).2.2.1⟩
 .obtain⟨a,b,q⟩:=h.rr r hr;exact⟨a,b,oN q⟩
 .rcases ai.mp hr with q|q
  .exact (h.sp r q).sub λx E=>by
    rcases E with⟨p,k,u⟩|⟨r,hr,u⟩
    .rw[u];exact m p k
    .exact .of (.inr ⟨r,hr,u⟩)
  .rw[aj.mp q];exact .lin (a:=g) (b:=-1) n (D.sub λx ⟨p,k,u⟩=>by rw[u];exact m p k) (show s≠0 by lia) λi=>by rw[e i];lia
end
theorem JF(a:LL)(d B:Nat)(hd:d<=4)(hzl:a.length<=8)(hz:∀u∈a,u.length=d+1/\∀x∈u,Bn B x)(hB:Rh d B) :
  ∃pv n,hW c [.lst (a.map tI),.int (d:Int)]=.ok (.tup [.lst (pv.map lP),.lst (n.map tI)])/\PP d B a pv n/\n.length<=8:=by
 have sz:1000<sizeLine:=by decide
 have hrm:C0 (d:Int)=true:=lr (by lia);obtain⟨ρ,e,pv,n,x4,Z,U,rfl,v,L⟩:=jr (m:=ko 4) (g:=jy c) tI
  (λk ρ=>∃(pv:List (Nat×LI)) (n:LL) (x4 Z U:Option W),ρ=[some (.p (.lst (a.map tI))),some (.p (.int (d:Int))),some (.p (.lst (pv.map lP))),some (.o (n.map tI)),x4,Z,U]/\PP d B (a.take k) pv n/\n.length<=k)
  a 0 _ ⟨[],[],none,none,none,rfl,⟨(λp l=>nomatch l),List.Pairwise.nil,(λp l=>nomatch l),(λz hz=>by simp at hz)⟩,aL _⟩ (by
   rintro k z ρ hi ⟨pv,n,x4,Z,U,rfl,v,L⟩;rw[aH]at v L ⊢;have X:=hz z (aw hi);have hkl:=(aa.mp hi).1;have I:=v.short;have hbb:=hB.le pv.length I;obtain⟨left,el,S,N,⟨g,s,y,hg,hs,hy,ey⟩,h0⟩:=Ak (c:=c) (ve pv) (d+1) (Pq B pv.length) B (by lia) pv z hbb X.1 X.2 (λp l=>by obtain⟨q1,q2,q3,q4,_⟩:=v.pl p l;exact⟨by lia,q2,q3,q4,p,l,rfl⟩) (v.pw.imp λh=>h.2.1)
   let C:List Nat:=(List.range d).filter λj=>left.getD j 0 != 0;let R:En:=[some (.p (.lst (a.map tI))),some (.p (.int (d:Int))),some (.p (.lst (pv.map lP))),some (.o (n.map tI)),some (.p (tI z)),some (.p (tI left)),some (.p (.lst (C.map λ(j:Nat)=>T.int (j:Int))))];have e4:i9 [none,some 5] (ig (eM (eN 1) eP)) (iM 0) (gd (eV (fM true) (eV gN (eN 1) (eN 0)) (cM (.int 0)))) (kU c) (kD [some (.p (.lst (a.map tI))),some (.p (.int (d:Int))),some (.p (.lst (pv.map lP))),some (.o (n.map tI)),some (.p (tI z)),some (.p (tI left)),U])=.ok (C.map λ(j:Nat)=>T.int (j:Int)):=pQ (List.range d) (λ(j:Nat)=>T.int (j:Int)) (λ(j:Nat)=>T.int (j:Int)) (λj=>left.getD j 0 != 0) (by simp[hrm,Jt]) (by simp;lia) (λj hj=>⟨_,rfl,fV (eT (eT rfl rfl (jH left j (by have:=aT.mp hj;lia))) rfl (mZ _ _)),λ_=>rfl⟩) rfl
   have J:pU (C.map λ(j:Nat)=>T.int (j:Int))=true:=oC _ _ λ_ _=>rfl;have H:qt (C.map λ(j:Nat)=>T.int (j:Int))<=90:=aO (ot _ 0 _ λ_ _=>aL _) (by decide);have A:gd (eV (fM false) (eN 6) (gH (lstM eP))) (vw R)=.ok C.isEmpty:=by refine fV (eT (x:=.lst (C.map λ(j:Nat)=>T.int (j:Int))) (y:=.lst []) rfl (by simp) ?_);rw[tu false _ J H];simp
   have Y:∀r,(lJ (gd (eV (fM false) (eN 6) (gH (lstM eP)))) (ng 3 (iC (eN 5))) (setO 2 (iC (gH (iq (eM (eN 2) (eM (eN 5) (eM (eV gN (eN 6) (cM (.int 0))) eP))) (jv c)))))) R=r->
     jy c [some (.p (.lst (a.map tI))),some (.p (.int (d:Int))),some (.p (.lst (pv.map lP))),some (.o (n.map tI)),some (.p (tI z)),Z,U]=r:=λr hr=>
    eR (fH (t:=tI left) (lx rfl rfl el) rfl) (eR (fH (t:=.lst (C.map λ(j:Nat)=>T.int (j:Int))) (gz e4) rfl) hr)
   have mono:B+pv.length*(Pq B pv.length+1)<=B+d*(Pq B d+1):=Nat.add_le_add_left (Nat.mul_le_mul I (Nat.add_le_add_right (L4 I) 1)) _;have tk:a.take (k+1)=a.take k++[z]:=ji a k z hi;cases D:C with
   |nil=>refine⟨_,_,rfl,.inl (Y _ (hV (by rw[A,D];rfl) (rY (t:=tI left) rfl rfl (by simp;lia) rfl))),pv,n++[left],_,_,_,by rw[a9];rfl,?_,by simp;lia⟩;rw[tk];refine K4 v hg hs hy ey S λi him=>?_;refine aP λhc=>?_;have:i∈C:=aV.mpr ⟨aT.mpr him,by simpa[vc] using hc⟩;rw[D]at this;exact nomatch this
   |cons E js=>
    have Q:E∈C:=by rw[D];exact bj ..
    have F:E<d:=aT.mp (aV.mp Q).1;have w:vc left E≠0:=by have:=(aV.mp Q).2;simpa[vc] using this
    have K:pv.length+1<=d:=by
     have nd:(E::pv.map Prod.fst).Nodup:=bI.mpr ⟨λhm=>by obtain⟨p,l,ep⟩:=aE.mp hm;exact w (ep▸h0 p l),cN.mpr (v.pw.imp λq=>q.1)⟩
     have:=ue d _ nd λx hx=>by
      rcases aG.mp hx with rfl|hx
      .exact F
      .obtain⟨p,l,rfl⟩:=aE.mp hx;exact (v.pl p l).1
     simpa using this
    have hP:Pq B (pv.length+1)<=8000:=aO (L4 K) hB.pq;obtain⟨f,hf⟩:=r0 (P:=λ(p:Nat×LI) (r:LI)=>jm c [tI p.2,tI left,.int (E:Int)]=.ok (tI r)/\r.length=p.2.length/\(∀x∈r,Bn (Pq B (pv.length+1)) x)/\vc r E=0/\∃g s b:Int,0<g/\0<s/\∀i,g*vc r i=s*vc p.2 i+b*vc left i) pv λp l=>by obtain⟨q1,q2,q3,q4,_⟩:=v.pl p l;obtain⟨r,a1,a2,a3,a4,g,s,b,a5,a6,a7,_⟩:=zM (c:=c) (Pq B pv.length) (B+pv.length*(Pq B pv.length+1)) p.2 left E (by lia) (by lia) (by lia) hP q4 N w;exact⟨r,a1,a2,a3,a4,g,s,b,a5,a6,a7⟩
    have i0:eV gN (eN 6) (cM (.int 0)) (kD R)=.ok (.int (E:Int)):=eT (x:=.lst (C.map λ(j:Nat)=>T.int (j:Int))) rfl rfl (by rw[D];exact LO _ _);have e5:=vA (c:=c) pv left E f (by lia) λp l=>(hf p l).1;refine⟨_,_,rfl,.inl (Y _ (gj (by rw[A,D];rfl) (fH (gz (E2 rfl rfl i0 e5)) rfl))),_,n,_,_,_,rfl,?_,by lia⟩;rw[tk];exact GN v hg hs hy ey S h0 N F w f λp l=>(hf p l).2)
 rw[aH,dO]at v;rw[aH]at L;refine⟨pv,n,gP rfl (eR (fH (t:=.lst []) (by simp) rfl) (eR (l9 (ts:=[]) (by simp) rfl) (eR (md rfl e) (fO (Do rfl rfl))))),v,by lia⟩
def Jq(h:f ρ=.ok (tI r)):gR f ρ=.ok (r.map T.int):=by unfold gR;rw[h];rfl
end CL
namespace CL
open PySem L2 L3
variable {c:Cs}
noncomputable def Au:Nat->(Nat->Rat)->Rat
 |0,_=>0
 |n+1,f=>f 0+Au n λi=>f (i+1)
theorem wQ:∀n f g,(∀i,i<n->f i=g i)->Au n f=Au n g
 |0,_,_,_=>rfl
 |n+1,f,g,h=>by unfold Au;rw[h 0 (by lia),wQ n _ _ λi a=>h (i+1) (by lia)]
def PD(h:fc ρ=.ok false)(a:fd ρ=.ok b):L3.EM fc fd ρ=.ok b:=by simp only[L3.EM,h,a,M.bind_ok];rfl
def mT row s i:vc (row.map λx=>s*x) i=s*vc row i:=by unfold vc;rw[af,af,ax];cases row[i]?<;>simp
def GL(d B:Nat)(a:LI):Prop:=a.length=d+1/\∀x∈a,Bn B x
structure GC(d B:Nat)(ns:LI):Prop where
 gl:GL d B ns
 re:∃p,p<d/\vc ns p≠0
def GL.mono(h:GL d B ns)(a:B<=B'):GL d B' ns:=⟨h.1,λx b=>(h.2 x b).mono a⟩
def GL.set(h:GL d B ns) k (b:Bn B v):GL d B (ns.set k v):=⟨by rw[bO];exact h.1,λx a=>by
 rcases List.mem_or_eq_of_mem_set a with q|q
 .exact h.2 x q
 .rw[q];exact b⟩
def Mc ns k v i (a:k<ns.length):vc (ns.set k v) i=if k=i then v else vc ns i:=by
 unfold vc;rw[af,List.getElem?_set];by_cases h:k=i
 .subst h;rw[aR rfl,aR rfl,aR a];rfl
 .rw[aS h,aS h,<-af]
def xm n k (h:k<n):xF n (k:Int)=some k:=by unfold xF;rw[aR (by lia),aR (by lia)];simp
def mx(n:Nat)(h:n<=1000)(a:f ρ=.ok (.int (n:Int))):ig (eM f eP) ρ=.ok ((List.range n).map λ(i:Nat)=>T.int (i:Int)):=by have hr:C0 n=true:=lr (by lia);rw[<-Jt];simp[a,hr]
def Ln cell (k d B:Nat) (fs:LL) (hk:k<=10) (hd:1<=d/\d<=3) (hB:10<=B) (hB2:B<=1000) (hf:∀f∈fs,GL d B f) (hfl:fs.length<=10) :
  ∃ns,lY c [.int cell,.int k,.int d,.lst (fs.map tI)]=.ok (tI ns)/\GC d (B+2) ns:=by
 have sz:1000<sizeLine:=by decide
 have hrd:C0 ((d+1:Nat):Int)=true:=lr (by lia);obtain⟨d1,d1a,d1b⟩:=iT (c:=c) cell 2 5 (by decide) (by decide) (by decide) (by decide);obtain⟨h,ew,hw⟩:=xh [1,2,3,5,1000] (dr c cell 2 5) d1a (by simpa using d1b);have hw':1<=h/\h<=1000:=by simp only[aG,c5,or_false]at hw;lia
 let s:LI:=(List.range (d+1)).map λ(j:Nat)=>dr c cell (4+4*k+j) (2*h+1)-h;have g0:GL d (B+2) s:=⟨by simp[s],λx X=>by obtain⟨j,hj,rfl⟩:=aE.mp X;have hj':=aT.mp hj;obtain⟨_,a1,a2⟩:=iT (c:=c) cell (4+4*k+j) (2*h+1) (by lia) (by lia) (by lia) (by lia);refine Bn.mono (m:=10) ?_ (by lia);unfold Bn;show _<1024;lia⟩
 obtain⟨d2,d2a,d2b⟩:=iT (c:=c) cell (40+k) 6 (by decide) (by decide) (by lia) (by lia);let r:=dr c cell (40+k) 6;let St:LI->Option W->Option W->En:=λns E D=>[some (.p (.int cell)),some (.p (.int k)),some (.p (.int d)),some (.p (.lst (fs.map tI))),some (.p (.int h)),some (.o (ns.map T.int)),some (.p (.int r)),E,D];have e0:i9 [none,some 4,some 0,some 1] (ig (eM (eV fY (eN 2) (cM (.int 1))) eP)) (iM 0) (λ_=>.ok true) (qC c) (kD [some (.p (.int cell)),some (.p (.int k)),some (.p (.int d)),some (.p (.lst (fs.map tI))),some (.p (.int h)),none,none,none,none])=.ok (s.map T.int):=by
  refine jx (List.range (d+1)) (λ(j:Nat)=>T.int (j:Int)) (λ(j:Nat)=>T.int (dr c cell (4+4*k+j) (2*h+1)-h)) ?_ (by simp;lia) (λj hj=>⟨_,rfl,rfl,?_⟩) (by rw[aJ];rfl)
  .exact mx (d+1) (by lia) (eT rfl rfl (by rw[fZ];simp))
  .have hj':=aT.mp hj;obtain⟨e,_,_⟩:=iT (c:=c) cell (4+4*k+j) (2*h+1) (by lia) (by lia) (by lia) (by lia);exact eT (j5 (y:=.int (4+4*(k:Int)+(j:Int))) (z:=.int (2*h+1)) rfl (eT (eT rfl (eT rfl rfl (i6 (by decide))) (fZ _ _)) rfl (fZ _ _)) (eT (eT rfl rfl (i6 (by decide))) rfl (fZ _ _)) e) rfl (mU _ _)
 have Z:∀neg,fM neg (.lst (fs.map tI)) (.lst [])=.ok (.bl (if neg then !fs.isEmpty else fs.isEmpty)):=λneg=>by rw[tu neg (fs.map tI) (by simp) (aO (zJ fs) (by decide))];simp
 obtain⟨w,e1,g1⟩:∃w,(lJ (nr (gd (eV (fM false) (eN 6) (cM (.int 1)))) (gd (eV (fM true) (eN 3) (gH (lstM eP))))) (j8 5 (sN (uW (gH (Hq ml (eM (kM (eV gN (eN 3) (eY (eM (eN 0) (eM (eV fY (cM (.int 50)) (eN 1)) (eM (iN gZ (eM (eN 3) eP)) eP))) (eX c))) (λ_=>.ok none) (iU (eN 2))) eP))) (kM (eN 5) (iU (eN 2)) (λ_=>.ok none))))) f7) (St s none none)=.nx (St w none none)/\GL d (B+2) w:=by
  by_cases F:r=1/\fs≠[]
  .obtain⟨L,A⟩:=F;have hlp:=List.length_pos_iff.mpr A;obtain⟨d3,I,Y⟩:=iT (c:=c) cell (50+k) fs.length (by lia) (by lia) (by lia) (by lia);obtain⟨f,ef,J⟩:=xq fs (dr c cell (50+k) fs.length) I Y;have H:=hf f J;refine⟨f.take d++s.drop d,hV ?_ (Lb (ts:=(f.take d++s.drop d).map T.int) ?_ (tM _) rfl),⟨?_,λx X=>?_⟩⟩
   .have N:gd (eV (fM false) (eN 6) (cM (.int 1))) (vw (St s none none))=.ok true:=fV (eT (x:=.int r) rfl rfl (by rw[gC,L];rfl));have K:gd (eV (fM true) (eN 3) (gH (lstM eP))) (vw (St s none none))=.ok true:=fV (eT (x:=.lst (fs.map tI)) (y:=.lst []) rfl (by simp) (by rw[Z];simp[A]));simp only[L3.nr,N,K,M.bind_ok];rfl
   .rw[a9];refine xO (a:=(f.take d).map T.int) (b:=(s.drop d).map T.int) ?_ ?_ (by simp;have:=g0.1;lia)
    .refine gz ?_;have:=qg (fe:=eV gN (eN 3) (eY (eM (eN 0) (eM (eV fY (cM (.int 50)) (eN 1)) (eM (iN gZ (eM (eN 3) eP)) eP))) (eX c))) (fd:=eN 2) (d:=d) (ts:=f.map T.int) (ρ:=vw (St s none none)) (eT (x:=.lst (fs.map tI)) (y:=.int (dr c cell (50+k) fs.length)) rfl (j5 (y:=.int (50+(k:Int))) (z:=.int (fs.length:Int)) rfl (eT rfl rfl (fZ _ _)) (kx rfl (by simp)) d3) (by simp[ny,ef,tI])) rfl (by rw[ay,H.1];lia);simp only[Hq,eM,eP,this,M.bind_ok];rw[c6];rfl
    .rw[c7];exact vL (ts:=s.map T.int) rfl rfl
   .rw[aU,bK,bM,H.1,g0.1];lia
   .rcases ai.mp X with q|q
    .exact (H.2 x (dS q)).mono (by lia)
    .exact g0.2 x (List.mem_of_mem_drop q)
  .refine⟨s,gj ?_ rfl,g0⟩;have N:gd (eV (fM false) (eN 6) (cM (.int 1))) (vw (St s none none))=.ok (r==1):=fV (eT (x:=.int r) rfl rfl (gC _ _));have K:gd (eV (fM true) (eN 3) (gH (lstM eP))) (vw (St s none none))=.ok (!fs.isEmpty):=fV (eT (x:=.lst (fs.map tI)) (y:=.lst []) rfl (by simp) (by rw[Z];rfl));simp only[L3.nr,N,K,M.bind_ok];by_cases L:r=1
   .have hn:fs=[]:=by
     by_cases hn:fs=[]
     .exact hn
     .exact absurd ⟨L,hn⟩ F
    rw[L,hn];rfl
   .have:(r==1)=false:=by simpa using L
    rw[this];rfl
 obtain⟨C,e2,g2⟩:∃C,(lJ (gd (eV (fM false) (eN 6) (cM (.int 2)))) (sO 5 (mD (eN 2)) (mD (cM (.int 0)))) f7) (St w none none)=.nx (St C none none)/\GL d (B+2) C:=by
  by_cases h2:r=2
  .refine⟨w.set d 0,hV (fV (eT (x:=.int r) rfl rfl (by rw[gC,h2];rfl))) (BC (us:=w.map T.int) (t:=.int 0) (j:=(d:Int)) (m:=d) rfl rfl rfl rfl (xm _ _ (by rw[ay,g1.1];lia)) ?_),g1.set d sV⟩;show St (w.set d 0) none none=_;simp only[St,List.map_set];rfl
  .exact⟨w,gj (fV (eT (x:=.int r) rfl rfl (by rw[gC];simp[h2]))) rfl,g1⟩
 obtain⟨u,E,D,e3,g3⟩:∃u E D,(lJ (nr (gd (eV (fM false) (eN 6) (cM (.int 3)))) (gd (eV JC (iN gZ (eM (eN 3) eP)) (cM (.int 1))))) (fq (setO 7 (iC (eV gN (eN 3) (eY (eM (eN 0) (eM (eV fY (cM (.int 50)) (eN 1)) (eM (eV oV (iN gZ (eM (eN 3) eP)) (cM (.int 1))) eP))) (eX c)))))
  (fq (setO 8 (iC (eV fY (cM (.int 1)) (eY (eM (eN 0) (eM (eV fY (cM (.int 60)) (eN 1)) (eM (cM (.int 3)) eP))) (eX c)))))
  (j8 5 (l6 (i9 [none,none,some 8] (lu (eM (eV gN (eN 3) (yE (λi=>.int (-i)) (cM (.int 1)))) (eM (eN 7) eP))) (nG 2 (gI (iM 0) (gI (iM 1) nI))) (λ_=>.ok true) (qI c)))))) f7) (St C none none)=.nx (St u E D)/\GL d (B+2) u:=by
  have N:gd (eV (fM false) (eN 6) (cM (.int 3))) (vw (St C none none))=.ok (r==3):=fV (eT (x:=.int r) rfl rfl (gC _ _))
  have K:gd (eV JC (iN gZ (eM (eN 3) eP)) (cM (.int 1))) (vw (St C none none))=.ok (decide (1<(fs.length:Int))):=fV (eT (x:=.int (fs.length:Int)) (kx rfl (by simp)) rfl rfl)
  by_cases F:r=3/\1<fs.length
  .obtain⟨Q,R⟩:=F;have A:fs≠[]:=by intro z;rw[z]at R;simp at R
   obtain⟨d3,I,Y⟩:=iT (c:=c) cell (50+k) (fs.length-1) (by lia) (by lia) (by lia) (by lia);obtain⟨f,ef,J⟩:=xq fs (dr c cell (50+k) (fs.length-1)) I (by lia);obtain⟨d4,d4a,d4b⟩:=iT (c:=c) cell (60+k) 3 (by decide) (by decide) (by lia) (by lia);have Ma:pW fs (-1)=some (fs.getLast A):=by rw[Mi _ A,List.getLast?_eq_getLast A]
   have gl:=hf _ (List.getLast_mem A);have H:=hf f J;generalize fs.getLast A=la at Ma gl;let v:Int:=1+dr c cell (60+k) 3;have hby:1<=v/\v<=3:=by show 1<=1+_/\1+_<=(3:Int);lia
   refine⟨(la.zip f).map λp=>p.1+v*p.2,some (.p (tI f)),some (.p (.int v)),hV ?_ (eR (fH (t:=tI f) (eT (x:=.lst (fs.map tI)) (y:=.int (dr c cell (50+k) (fs.length-1))) rfl (j5 (y:=.int (50+(k:Int))) (z:=.int ((fs.length:Int)-1)) rfl (eT rfl rfl (fZ _ _)) (eT (x:=.int (fs.length:Int)) (kx rfl (by simp)) rfl (mU _ _)) d3) (by simp[ny,ef])) rfl) (eR (fH (t:=.int v) (eT rfl (j5 (y:=.int (60+(k:Int))) rfl (eT rfl rfl (fZ _ _)) rfl d4) (fZ _ _)) rfl) (l9 (ts:=((la.zip f).map λp=>p.1+v*p.2).map T.int) ?_ rfl))),⟨by rw[ay,dU,gl.1,H.1];lia,λx X=>?_⟩⟩
   .simp only[L3.nr,N,K,M.bind_ok];have:(r==3)=true:=by simpa using Q
    rw[this];simp only[if_true];have:decide (1<(fs.length:Int))=true:=aD (by lia);rw[this]
   .refine jx (la.zip f) (λp=>T.tup [.int p.1,.int p.2]) (λp=>T.int (p.1+v*p.2)) (uG (l:=la) (m:=f) (f:=T.int) (g:=T.int) (x:=tI la) (eT (x:=.lst (fs.map tI)) (y:=.int (-1)) rfl rfl (by simp[ny,Ma])) rfl rfl rfl) (by rw[dU,gl.1,H.1];lia) (λp U=>⟨_,rfl,rfl,eT rfl (eT rfl rfl (i6 ?_)) (fZ _ _)⟩) (by rw[aJ];rfl);show v.natAbs<_;lia
   .obtain⟨p,U,rfl⟩:=aE.mp X;have L:=gl.2 _ (aX U).1;have h2:=H.2 _ (aX U).2;unfold Bn at *;rw[Nat.pow_add];have a1:=de p.1 (v*p.2);have a2:(v*p.2).natAbs<=3*p.2.natAbs:=by rw[aZ];exact Nat.mul_le_mul_right _ (by lia)
    lia
  .refine⟨C,none,none,gj ?_ rfl,g2⟩;simp only[L3.nr,N,K,M.bind_ok];by_cases Q:r=3
   .have:(r==3)=true:=by simpa using Q
    rw[this];have:decide (1<(fs.length:Int))=false:=aC (by intro z;exact F ⟨Q,by lia⟩);rw[this];rfl
   .have:(r==3)=false:=by simpa using Q
    rw[this];rfl
 have S:gd (eV (fM false) (kM (eN 5) (λ_=>.ok none) (iU (eN 2))) (gH (AS (gH (lstM (eM (cM (.int 0)) eP))) (eN 2)))) (vw (St u E D))=.ok (decide (u.take d=List.replicate d 0)):=by refine fV (eT (x:=.lst ((u.take d).map T.int)) (y:=.lst ((List.replicate d (0:Int)).map T.int)) ?_ (Lu d (by lia) rfl) (by rw[FX];rfl));rw[c6];exact Df (ts:=u.map T.int) rfl rfl
 have head:∀t,fq (lJ (gd (eV (fM false) (kM (eN 5) (λ_=>.ok none) (iU (eN 2))) (gH (AS (gH (lstM (eM (cM (.int 0)) eP))) (eN 2))))) (sO 5 (mD (eY (eM (eN 0) (eM (eV fY (cM (.int 60)) (eN 1)) (eM (eN 2) eP))) (eX c))) (mD (cM (.int 1)))) f7) (gA (iN i8 (eM (eN 5) eP))) (St u E D)=.rt t->lY c [.int cell,.int k,.int d,.lst (fs.map tI)]=.ok t:=λt ht=>by refine gP rfl (eR (fH (t:=.int h) (eT (x:=.lst ([1,2,3,5,1000].map T.int)) (y:=.int (dr c cell 2 5)) (Po rfl rfl rfl rfl rfl) (j5 rfl rfl rfl d1) ew) rfl) (eR (l9 (ts:=s.map T.int) e0 rfl) (eR (fH (t:=.int r) (j5 (y:=.int (40+(k:Int))) rfl (eT rfl rfl (fZ _ _)) rfl d2) rfl) (eR e1 (eR e2 (eR e3 ht))))))
 by_cases hz:u.take d=List.replicate d 0
 .obtain⟨d5,d5a,d5b⟩:=iT (c:=c) cell (60+k) d (by lia) (by lia) (by lia) (by lia);obtain⟨p,U⟩:∃p:Nat,dr c cell (60+k) d=(p:Int):=⟨(dr c cell (60+k) d).toNat,by lia⟩;rw[U]at d5 d5b;refine⟨u.set p 1,head _ (eR (ρ':=St (u.set p 1) E D) (hV (by rw[S,aD hz]) (BC (us:=u.map T.int) (t:=.int 1) (j:=(p:Int)) (m:=p) rfl rfl rfl (j5 (y:=.int (60+(k:Int))) rfl (eT rfl rfl (fZ _ _)) rfl d5) (xm _ _ (by rw[ay,g3.1];lia)) ?_)) (fO rfl)),⟨g3.set p (by have:=hB;exact (Mz (n:=0)).mono (by lia)),p,by lia,?_⟩⟩
  .simp only[St,List.map_set];rfl
  .rw[Mc _ _ _ _ (by rw[g3.1];lia),aR rfl];decide
 .refine⟨u,head _ (eR (ρ':=St u E D) (gj (by rw[S,aC hz]) rfl) (fO rfl)),⟨g3,?_⟩⟩;refine aP λF=>hz (List.eq_replicate_iff.mpr ⟨by rw[bK,g3.1];lia,λb hb=>?_⟩);obtain⟨i,hi⟩:=List.getElem?_of_mem hb;have P:i<d:=by have:=(aa.mp hi).1;rw[bK]at this;lia
  refine aP λhb0=>F ⟨i,P,?_⟩;rw[List.getElem?_take]at hi;rw[aR P]at hi;unfold vc;rw[af,hi];exact hb0
noncomputable def ie(a b:LI):Bool:=(List.range a.length).all λk=>(List.range k).all λj=>vc a k*vc b j==vc a j*vc b k
def yT n B a b (v:a.length=n) (P:b.length=n) (L:n<=10) (N:B<=1000) (s:∀x∈a,Bn B x) (w:∀x∈b,Bn B x):nt c [tI a,tI b]=.ok (.bl (ie a b)):=by
 have sz:1000<sizeLine:=by decide
 have i:=nu (m:=ko 2) (λ(k:Nat)=>T.int (k:Int)) (λρ=>∃o d,ρ=[some (.p (tI a)),some (.p (tI b)),o,d]) (λk=>(List.range k).all λj=>vc a k*vc b j==vc a j*vc b k) (.bl false) (List.range n) [some (.p (tI a)),some (.p (tI b)),none,none] ⟨none,none,rfl⟩ (by
  rintro k A ρ ⟨o,d,rfl⟩;have z:=aT.mp A;refine⟨_,rfl,?_⟩;have l:=nu (m:=ko 3) (g:=sf c) (λ(j:Nat)=>T.int (j:Int)) (λρ=>∃d,ρ=[some (.p (tI a)),some (.p (tI b)),some (.p (.int (k:Int))),d]) (λj=>vc a k*vc b j==vc a j*vc b k) (.bl false) (List.range k) [some (.p (tI a)),some (.p (tI b)),some (.p (.int (k:Int))),d] ⟨d,rfl⟩ (by
   rintro j J ρ ⟨d,rfl⟩;have D:=aT.mp J;have C:=jH a k (by lia);have E:=jH b j (by lia);have H:=jH a j (by lia);have K:=jH b k (by lia);have F:=jV ((s _ (getD_mem a k (by lia))).ok (w _ (getD_mem b j (by lia))) (by lia) (by lia));have I:=jV ((s _ (getD_mem a j (by lia))).ok (w _ (getD_mem b k (by lia))) (by lia) (by lia));have r:gd (eV (fM true) (eV ju (eV gN (eN 0) (eN 2)) (eV gN (eN 1) (eN 3))) (eV ju (eV gN (eN 0) (eN 3)) (eV gN (eN 1) (eN 2)))) (vw [some (.p (tI a)),some (.p (tI b)),some (.p (.int (k:Int))),some (.p (.int (j:Int)))])=.ok (!(vc a k*vc b j==vc a j*vc b k)):=fV (eT (eT (eT rfl rfl C) (eT rfl rfl E) F) (eT (eT rfl rfl H) (eT rfl rfl K) I) (mZ _ _))
   refine⟨_,rfl,λh=>⟨_,gj (r.trans (by rw[h];rfl)) rfl,_,rfl⟩,λh=>hV (r.trans (by rw[h];rfl)) (fO rfl)⟩)
  have hr:=mx (f:=eN 2) (ρ:=vw [some (.p (tI a)),some (.p (tI b)),some (.p (.int (k:Int))),d]) k (by lia) rfl;refine⟨λh=>?_,λh=>kY hr (l.2 h)⟩;obtain⟨q,e,y,rfl⟩:=l.1 h;exact⟨_,kY hr e,_,_,rfl⟩)
 have hr:=mx (f:=iN gZ (eM (eN 0) eP)) (ρ:=vw (f9 4 [tI a,tI b])) n (by lia) (kx (t:=tI a) rfl (by simp[tI,v]));have u:ie a b=((List.range n).all λk=>(List.range k).all λj=>vc a k*vc b j==vc a j*vc b k):=by unfold ie;rw[v]
 cases h:ie a b with
 |true=>obtain⟨q,e,o,d,rfl⟩:=i.1 (by rw[<-u];exact h);exact gP rfl (eR (kY hr e) (fO rfl))
 |false=>exact gP rfl (jG (kY hr (i.2 (by rw[<-u];exact h))) rfl)
def GC.mono(h:GC d B ns)(a:B<=B'):GC d B' ns:=⟨h.gl.mono a,h.re⟩
def uw a (r:a.length<=100) (h:∃p,p<a.length/\vc a p≠0):∃p:Nat,jB c [tI a]=.ok (.int (p:Int))/\p<a.length/\vc a p≠0:=by
 obtain⟨q,o,i⟩:=h;obtain⟨b,e,p,rfl,f,l⟩:=pP (c:=gd (eV (fM false) (eV gN (eN 0) (eN 1)) (cM (.int 0)))) (g:=nO c)
  (λb=>∃k:Nat,b=[some (.p (tI a)),some (.p (.int (k:Int)))]/\k<=q) (λb=>match b with|_::some (.p (.int j))::_=>q-j.toNat|_=>0)
  (λb=>∃k:Nat,b=[some (.p (tI a)),some (.p (.int (k:Int)))]/\k<a.length/\vc a k≠0) (by
   rintro b ⟨k,rfl,hk⟩;have m:gN (tI a) (.int (k:Int))=.ok (.int (vc a k)):=jH a k (by lia);by_cases d:vc a k=0
   .have n:k≠q:=λz=>i (by rw[<-z];exact d);refine .inr ⟨fV (eT (eT rfl rfl m) rfl (by rw[gC,d];rfl)),_,.inl (fH (eT rfl rfl (by rw[fZ];simp)) rfl),⟨k+1,rfl,by lia⟩,?_⟩;show q-(((k+1:Nat):Int)).toNat<q-((k:Int)).toNat;lia
   .exact .inl ⟨fV (eT (eT rfl rfl m) rfl (by rw[gC];simp[d])),k,rfl,by lia,d⟩)
  ((a.map T.int).length+1) [some (.p (tI a)),some (.p (.int ((0:Nat):Int)))] ⟨0,rfl,by lia⟩ (by rw[ay];lia)
 exact⟨p,gP rfl (eR (fH rfl rfl) (eR e (fO rfl))),f,l⟩
def vk d B a b (Q:d<=3) (N:B<=1000) (f:GC d B a) (g:GL d B b) (h:ie a b=false):jR c [tI a,tI b]=.ok (.bl false):=by
 have sz:1000<sizeLine:=by decide
 have I:=f.gl.1;have u:=g.1;obtain⟨q,P,m⟩:=f.re;obtain⟨p,w,o,l⟩:=uw a (by lia) ⟨q,by lia,m⟩;have E:=jH b p (by lia);have F:=jH a p o;have v:i9 [none,none,some 1,some 2,some 0] (lu (eM (eN 0) (eM (eN 1) eP))) (nG 2 (gI (iM 0) (gI (iM 1) nI))) (λ_=>.ok true) (pF c) (vw [some (.p (tI a)),some (.p (tI b)),some (.p (.int p))])=.ok (((a.zip b).map λx=>x.1*vc b p==x.2*vc a p).map T.bl):=jx (a.zip b) (λx=>T.tup [.int x.1,.int x.2]) (λx=>T.bl (x.1*vc b p==x.2*vc a p)) (uG rfl rfl rfl rfl) (by rw[dU];lia) (λx r=>⟨_,rfl,rfl,by have D:=f.gl.2 _ (aX r).1;have K:=g.2 _ (aX r).2;have L:=g.2 _ (getD_mem b p (by lia));have z:=f.gl.2 _ (getD_mem a p o);exact eT (eT rfl (eT rfl rfl E) (jV (D.ok L (by lia) (by lia)))) (eT rfl (eT rfl rfl F) (jV (K.ok z (by lia) (by lia)))) (gC _ _)⟩) (by rw[aJ];rfl)
 refine gP rfl (eR (fH (sq rfl w) rfl) (fO (qc v ?_)));rw[tm];congr 2;cases t:((a.zip b).map λx=>x.1*vc b p==x.2*vc a p).all id with
 |false=>rfl
 |true=>
  exfalso;rw[cy]at t;have e:=C4.par_of_place l λi s=>by
   have H:(a.zip b)[i]? = some (a[i],b[i]'(by lia)):=by rw[List.getElem?_zip_eq_some];exact⟨ag s,ag (by lia)⟩
   have:=t _ (aE.mpr ⟨_,aw H,rfl⟩);have A:a[i]*vc b p=(b[i]'(by lia))*vc a p:=by simpa using this
   show vc a i*vc b p=vc b i*vc a p;rw[lR a i s,lR b i (by lia)];exact A
  have:ie a b=true:=by unfold ie;refine cy.mpr λk C=>cy.mpr λj J=>?_;have n:=aT.mp C;have y:=aT.mp J;have:=e k j n (by lia);simpa[vc] using this
  rw[h]at this;cases this
structure pN(d B:Nat)(cs:LL):Prop where
 gc:∀f∈cs,GC d B f
 few:cs.length<=7
 pw:cs.Pairwise λa b=>ie a b=false
def G1(h:GC d B ns):pC d (tI ns)=true:=by
 obtain⟨p,b,a⟩:=h.re;have j:=h.gl.1;unfold tI pC;have f:(ns.map T.int).length=d+1:=by simp[j]
 have g:(ns.map T.int).all isInt=true:=cy.mpr λx e=>by obtain⟨y,-,rfl⟩:=aE.mp e;rfl
 show (decide ((ns.map T.int).length=d+1)&&(ns.map T.int).all isInt&&(match ke (ns.map T.int) with|some ns=>(ns.take d).any (· != 0)|none=>false))=true;rw[aD f,g,zL];refine dW.mpr ⟨vc ns p,?_,by simpa using a⟩;rw[lR ns p (by lia)];refine aw (i:=p) ?_;rw[List.getElem?_take,aR b,ag (by lia)]
def xZ d B (b:LL) ns (m:1<=d/\d<=3) (r:B<=1000) (w:b.length<7) (q:∀f∈b,GC d B f) (g:GC d B ns) (p:∀f∈b,ie f ns=false):jN c [.int d,.lst (b.map tI),tI ns]=.ok (.bl true):=by
 have sz:1000<sizeLine:=by decide
 have h:=DS (c:=c) d (by lia) (tI ns) rfl λv e=>by cases e;refine⟨by rw[ay,g.gl.1];lia,λt n=>by obtain⟨y,-,rfl⟩:=aE.mp n;rfl⟩
 rw[G1 g]at h;have j:i9 [none,some 2] (gR (eN 1)) (iM 0) (λ_=>.ok true) (nq c) (vw (f9 3 [.int d,.lst (b.map tI),tI ns]))=.ok ((b.map λ_=>false).map T.bl):=jx b tI (λ_=>T.bl false) rfl (by lia) (λf i=>⟨_,rfl,rfl,lx rfl rfl (vk d B f ns m.2 r (q f i) g.gl (p f i))⟩) (by rw[aJ];rfl)
 have s:gd (eV OU (iN gZ (eM (eN 1) eP)) (cM (.int 7))) (vw (f9 3 [.int d,.lst (b.map tI),tI ns]))=.ok false:=fV (eT (x:=.int (b.length:Int)) (kx (t:=.lst (b.map tI)) rfl (by simp)) rfl (by rw[Ko];congr 2;exact aC (by lia)))
 have o:gd (eY (eM (eN 0) (eM (eN 2) eP)) (mE c)) (vw (f9 3 [.int d,.lst (b.map tI),tI ns]))=.ok true:=fV (lx rfl rfl h);refine gP rfl (eR (gj ?_ rfl) (fO ?_))
 .simp only[L3.EM,L3.oW,s,o,M.bind_ok];rfl
 .have u:iN qu (eM (gH (i9 [none,some 2] (gR (eN 1)) (iM 0) (λ_=>.ok true) (nq c))) eP) (vw (f9 3 [.int d,.lst (b.map tI),tI ns]))=.ok (.bl false):=by
   refine qc j ?_;rw[xE];congr 2;induction b with
   |nil=>rfl
   |cons a l ih=>simp
  have k:=fV u;simp only[Gg,k,M.bind_ok];rfl
def AA d B cs (u:1<=d/\d<=3) (w:B<=1000) (h:pN d B cs):iH c [.int d,.lst (cs.map tI)]=.ok (.tup (cs.map tI)):=by
 have sz:1000<sizeLine:=by decide
 have j:=h.few;obtain⟨l,e,r,rfl⟩:=jr (m:=ko 3) (g:=nJ c) tI
  (λk l=>∃r:Option W,l=[some (.p (.int d)),some (.p (.lst (cs.map tI))),some (.o ((cs.take k).map tI)),r])
  cs 0 _ ⟨none,rfl⟩ (by
   rintro k a l b ⟨r,rfl⟩;rw[aH];have A:=(aa.mp b).1;have n:=xZ (c:=c) d B (cs.take k) a u w (by rw[bK];lia) (λf j=>h.gc f (dS j)) (h.gc a (aw b)) λf j=>by have s:=h.pw;rw[<-dX k cs,dN]at s;refine s.2.2 f j a ?_;refine aw (i:=0) ?_;rw[List.getElem?_drop,Nat.add_zero];exact b
   have q:gd (eY (eM (eN 0) (eM (eN 2) (eM (eN 3) eP))) (jN c)) (vw [some (.p (.int d)),some (.p (.lst (cs.map tI))),some (.o ((cs.take k).map tI)),some (.p (tI a))])=.ok true:=fV (j5 (y:=.lst ((cs.take k).map tI)) (z:=tI a) rfl rfl rfl n);refine⟨_,_,rfl,.inl (eR (gj (wR q rfl) rfl) (rY (us:=(cs.take k).map tI) (t:=tI a) rfl (kx (t:=tI a) rfl rfl) (by rw[ay,bK];lia) rfl)),some (.p (tI a)),?_⟩;rw[ji cs k a b,a9];rfl)
 rw[aH,dO]at e;have x:gd (eY (eM (eN 0) eP) (lp c)) (vw (f9 4 [.int d,.lst (cs.map tI)]))=.ok true:=fV (sq rfl (Az d u));have v:gd (xu "list" (eN 1)) (vw (f9 4 [.int d,.lst (cs.map tI)]))=.ok true:=rfl;refine gP rfl (eR (gj ?_ rfl) (eR (l9 (ts:=[]) (by simp) rfl) (eR (md rfl e) (fO rfl))));simp only[L3.EM,L3.oW,x,v,M.bind_ok];rfl
noncomputable def mm(c:Cs)(d:Nat)(cs:LL):T:=.obj c.Cutting [("own_cuts",.tup (cs.map tI)),("own_dims",.int d)]
def Cj d B cs (b:1<=d/\d<=3) (a:B<=1000) (h:pN d B cs):gO c [.int d,.lst (cs.map tI)]=.ok (mm c d cs):=by have e:=AA (c:=c) d B cs b a h;have q:eY (eM (eN 1) (eM (eN 2) eP)) (iH c) (none::[T.int d,.lst (cs.map tI)].map some)=.ok (.tup (cs.map tI)):=lx rfl rfl e;unfold gO vF;rw[aR (show [T.int d,T.lst (cs.map tI)].length=2 from rfl),q];rfl
def Iu(h:f ρ=.ok (.obj C fs))(a:fs.lookup x=some t):BK C x f ρ=.ok t:=by unfold BK;rw[h,M.bind_ok];show (if C=C then (match fs.lookup x with|some t=>M.ok t|none=>.bad) else .bad)=_;rw[aR rfl,a]
def C2(d:Nat)(cs:LL){f:Pe->M T}{ρ:Pe}(a:f ρ=.ok (mm c d cs)):uJ c.Cutting "dims" f eP (gw c) ρ=.ok (.int d):=by
 have e:tY c.Cutting "dims" (mm c d cs)=.ok ():=by unfold tY mm;exact aR ⟨rfl,rfl⟩
 have b:gw c [mm c d cs]=.ok (.int d):=gP rfl (fO (Iu rfl rfl));simp only[uJ,a,M.bind_ok,e,eP,b,M.noEr_ok]
def KC d cs (a:f ρ=.ok (mm c d cs)):t9 c.Cutting "cuts" f eP (iK c) ρ=.ok (cs.map tI):=by
 have e:tY c.Cutting "cuts" (mm c d cs)=.ok ():=by unfold tY mm;exact aR ⟨rfl,rfl⟩
 have b:iK c [mm c d cs]=.ok (cs.map tI):=Fc rfl (yb (by have:BK c.Cutting "own_cuts" (eN 0) (vw (f9 1 [mm c d cs]))=.ok (.tup (cs.map tI)):=Iu rfl rfl;simp only[Hq,eM,eP,this,M.bind_ok];rfl))
 simp only[t9,a,M.bind_ok,e,eP,b,M.noEr_ok]
def Bf cell (h:Nat) (K:h<=7):∃(d:Nat) (cs:LL),vj c [.int cell,.int (h:Int)]=.ok (.tup [.int d,.lst (cs.map tI)])/\(1<=d/\d<=3)/\pN d 30 cs/\cs.length<=h:=by
 have sz:1000<sizeLine:=by decide
 obtain⟨d1,N,B⟩:=iT cell 0 5 (by decide) (by decide) (by decide) (by decide);obtain⟨S,ed,u⟩:=xh [1,2,2,3,3] (dr c cell 0 5) N (by simpa using B);obtain⟨d,rfl⟩:∃d:Nat,S=(d:Int):=⟨S.toNat,by simp only[aG,c5,or_false]at u;lia⟩;have Y:1<=d/\d<=3:=by simp only[aG,c5,or_false]at u;lia
 obtain⟨U,d2a,D⟩:=iT (c:=c) cell 1 ((h+1:Nat):Int) (by lia) (by lia) (by decide) (by decide);obtain⟨n,hn⟩:∃n:Nat,dr c cell 1 ((h+1:Nat):Int)=(n:Int):=⟨(dr c cell 1 ((h+1:Nat):Int)).toNat,by lia⟩;rw[hn]at U D;obtain⟨C,e,cs,F,w,rfl,I,s,v⟩:=jr (m:=ko 4) (g:=oh c) (λ(i:Nat)=>T.int (i:Int))
  (λk C=>∃(cs:LL) (F w:Option W),C=[some (.p (.int cell)),some (.p (.int (h:Int))),some (.p (.int d)),some (.o (cs.map tI)),F,w]/\cs.length<=k/\(∀f∈cs,GC d (10+2*k) f)/\cs.Pairwise λa b=>ie a b=false)
  (List.range n) 0 _ ⟨[],none,none,rfl,aL _,(λf j=>nomatch j),List.Pairwise.nil⟩ (by
   rintro i k C E ⟨cs,F,w,rfl,I,s,v⟩;rw[aH]at I s ⊢;have L:i<n:=by simpa using (aa.mp E).1
   have A:k=i:=by rw[List.getElem?_range L]at E;cases E;rfl
   subst A;obtain⟨r,en,J⟩:=Ln (c:=c) cell k d (10+2*k) cs (by lia) Y (by lia) (by lia) (λf j=>(s f j).gl) (by lia);let R:En:=[some (.p (.int cell)),some (.p (.int (h:Int))),some (.p (.int d)),some (.o (cs.map tI)),some (.p (.int (k:Int))),some (.p (tI r))];have e1:i9 [none,some 5] (gR (eN 3)) (iM 0) (gd (eY (eM (eN 0) (eM (eN 1) eP)) (nt c))) (lH c) (vw R)=.ok ((cs.filter λf=>ie f r).map tI):=pQ cs tI tI (λf=>ie f r) rfl (by lia) (λf j=>⟨_,rfl,fV (lx rfl rfl (yT (c:=c) (d+1) (10+2*k+2) f r (s f j).gl.1 J.gl.1 (by lia) (by lia) (λx Z=>((s f j).gl.2 x Z).mono (by lia)) J.gl.2)),λ_=>rfl⟩) rfl
   have Q:gd (eV (fM false) (gH (i9 [none,some 5] (gR (eN 3)) (iM 0) (gd (eY (eM (eN 0) (eM (eN 1) eP)) (nt c))) (lH c))) (gH (lstM eP))) (vw R)=.ok (cs.filter λf=>ie f r).isEmpty:=by refine fV (eT (x:=.lst ((cs.filter λf=>ie f r).map tI)) (y:=.lst []) (gz e1) (by simp) ?_);rw[tu false _ (by simp) (aO (zJ _) (by decide))];simp
   have X:setO 5 (mD (eY (eM (eN 0) (eM (eN 4) (eM (eN 2) (eM (eN 3) eP)))) (lY c))) [some (.p (.int cell)),some (.p (.int (h:Int))),some (.p (.int d)),some (.o (cs.map tI)),some (.p (.int (k:Int))),w]=.nx R:=KY (t:=tI r) (OW rfl rfl rfl rfl en) (Lx r) rfl;by_cases H:(cs.filter λf=>ie f r)=[]
   .refine⟨_,_,rfl,.inl (eR X (hV (Q.trans (by rw[H];rfl)) (rY (us:=cs.map tI) (t:=tI r) rfl rfl (by simp;lia) rfl))),cs++[r],_,_,by rw[a9];rfl,by simp;lia,λf j=>?_,dN.mpr ⟨v,cK _ _,λf j g P=>?_⟩⟩
    .rcases ai.mp j with q|q
     .exact (s f q).mono (by lia)
     .rw[aj.mp q];exact J.mono (by lia)
    .rw[aj.mp P];cases hs:ie f r with
     |false=>rfl
     |true=>have:f∈cs.filter λf=>ie f r:=aV.mpr ⟨j,hs⟩;rw[H]at this;exact nomatch this
   .refine⟨_,_,rfl,.inl (eR X (gj (Q.trans (by
     cases hq:(cs.filter λf=>ie f r) with
     |nil=>exact absurd hq H
     |cons a l=>rfl)) rfl)),cs,_,_,rfl,by lia,λf j=>(s f j).mono (by lia),v⟩)
 rw[aH,dY]at I s;refine⟨d,cs,gP rfl (eR (fH (t:=.int d) (eT (x:=.lst ([1,2,2,3,3].map T.int)) (y:=.int (dr c cell 0 5)) (Po rfl rfl rfl rfl rfl) (j5 rfl rfl rfl d1) ed) rfl) (eR (l9 (ts:=[]) (by simp) rfl) (eR (kY (mx n (by lia) (j5 (z:=.int ((h+1:Nat):Int)) rfl rfl (eT rfl rfl rfl) U)) e) (fO (Do rfl rfl))))),Y,⟨λf j=>(s f j).mono (by lia),by lia,v⟩,by lia⟩
def Aw(h:a.length=b.length):ie a b=ie b a:=by
 unfold ie;rw[h];congr 1;funext k;congr 1;funext j;rw[cW (vc a k),cW (vc a j)];by_cases q:vc b j*vc a k=vc b k*vc a j
 .rw[beq_iff_eq.mpr q,beq_iff_eq.mpr q.symm]
 .rw[beq_eq_false_iff_ne.mpr q,beq_eq_false_iff_ne.mpr λz=>q z.symm]
end CL
namespace CL
open PySem L2 L3
variable {c:Cs}
def sS{a:Type}[Inhabited a](l:List a) f k w (h:k<l.length):gN (.lst (l.map f)) (.int (k:Int))=.ok (f (l.getD k w)):=by have e:=BO (l.map f) k (by rw[ay];exact h);rw[dP]at e;show (match pW (l.map f) k with|some t=>M.ok t|none=>.bad)=_;rw[e,af,ag h];rfl
def QU(a:f1 ρ=.ok a1)(e:f2 ρ=.ok a2)(d:f3 ρ=.ok a3)(b:f4 ρ=.ok a4):lstM (eM f1 (eM f2 (eM f3 (eM f4 eP)))) ρ=.ok [a1,a2,a3,a4]:=by simp only[lstM,eM,eP,a,e,d,b,M.bind_ok];rfl
def qh m A u:gE m A u=gE m u A:=by unfold gE;exact fJ _ _ _ λi _=>cW _ _
def NI n k f (b:k<n) (h:∀i,i<n->i≠k->f i=0):sm n f=f k:=by
 rw[<-xp n k f b];exact fJ _ _ _ λi a=>by
  by_cases e:i=k
  .rw[aR e];simp
  .rw[aS e,h i a e];simp
def IA(k:Nat->Int)(us:LL):LL:=(List.range us.length).map λi=>(us.getD i []).map λx=>k i*x
def Ip a b (g:k≠0) (d:m≠0):ie (a.map λx=>k*x) (b.map λx=>m*x)=ie a b:=by
 unfold ie;rw[ay];congr 1;funext i;congr 1;funext j;rw[mT,mT,mT,mT];have e:k*vc a i*(m*vc b j)=(k*m)*(vc a i*vc b j):=by grind
 have f:k*vc a j*(m*vc b i)=(k*m)*(vc a j*vc b i):=by grind
 rw[e,f];have h:=dG g d;by_cases q:vc a i*vc b j=vc a j*vc b i
 .rw[q,beq_self_eq_true,beq_self_eq_true]
 .rw[beq_eq_false_iff_ne.mpr q,beq_eq_false_iff_ne.mpr λz=>q (Int.eq_of_mul_eq_mul_left h z)]
def Om(h:pN d B us) k (l:∀i,i<us.length->k i≠0/\(k i).natAbs<8):pN d (B+3) (IA k us):=by
 refine⟨λf v=>?_,by unfold IA;rw[ay,dY];exact h.few,?_⟩
 .obtain⟨i,a,rfl⟩:=aE.mp v;have o:=aT.mp a;obtain⟨A,z⟩:=l i o;have u:us.getD i []=us[i]:=by rw[af,ag o];rfl
  rw[u];have g:=h.gc _ (aW o);refine⟨⟨by rw[ay];exact g.gl.1,λx s=>?_⟩,?_⟩
  .obtain⟨y,q,rfl⟩:=aE.mp s;exact (Bn.mul (m:=3) (by unfold Bn;exact z) (g.gl.2 y q)).mono (by lia)
  .obtain⟨p,r,n⟩:=g.re;exact⟨p,r,by rw[mT];exact dG A n⟩
 .rw[cO];intro i j a b e;unfold IA at a b ⊢;rw[ay,dY]at a b;rw[dP,dP,dZ,dZ,Ip _ _ (l i a).1 (l j b).1];have t:us.getD i []=us[i]:=by rw[af,ag a];rfl
  have w:us.getD j []=us[j]:=by rw[af,ag b];rfl
  rw[t,w];exact cO.mp h.pw i j a b e
def pN.mono(h:pN d B us)(b:B<=B'):pN d B' us:=⟨λf a=>(h.gc f a).mono b,h.few,h.pw⟩
def uN(d:Nat)(st u:LI):LI:=u.take d++[vc u d+((u.zip st).map λp=>p.1*p.2).sum]
theorem AZ:∀st u,st.length<=u.length->((u.zip st).map λp=>p.1*p.2).sum=sm st.length λi=>vc u i*vc st i
 |[],u,_=>by simp[sm]
 |s::st,x::u,h=>by have:=AZ st u (by simpa using h);show x*s+((u.zip st).map λp=>p.1*p.2).sum=vc (x::u) 0*vc (s::st) 0+sm st.length λi=>vc (x::u) (i+1)*vc (s::st) (i+1);rw[this];rfl
 |s::st,[],h=>by simp at h
def Cr(g:u.length=d+1)(e:st.length=d) k:vc (uN d st u) k=if k<d then vc u k else if k=d then vc u d+gE d (vc u) (vc st) else 0:=by
 unfold uN;rw[AZ st u (by omega),e];have f:(u.take d).length=d:=by rw[bK];omega
 unfold vc;by_cases b:k<d
 .rw[aR b,af,List.getElem?_append_left (by omega),List.getElem?_take_of_lt b,<-af]
 .rw[aS b,af,List.getElem?_append_right (by omega),f];by_cases a:k=d
  .rw[aR a,a,Nat.sub_self];rfl
  .rw[aS a,List.getElem?_eq_none (by simp;omega)];rfl
def vK(b:u.length=d+1)(a:st.length=d)(h:k<d):vc (uN d st u) k=vc u k:=by rw[Cr b a,aR h]
def P2(b:u.length=d+1)(a:st.length=d):vc (uN d st u) d=vc u d+gE d (vc u) (vc st):=by rw[Cr b a,aS (bc _),aR rfl]
theorem xY:∀n f,((sm n f:Int):Rat)=Au n λi=>(f i:Rat)
 |0,_=>rfl
 |n+1,f=>by unfold sm Au;rw[<-xY n λi=>f (i+1)];simp
theorem LM:∀n f,(∀i,i<n->Bn N (f i))->Bn (N+n) (sm n f)
 |0,f,_=>sV
 |n+1,f,h=>by have:=LM n (λi=>f (i+1)) λi a=>h (i+1) (by omega);exact ((h 0 (by omega)).add this).mono (by omega)
def Il(h:∀x∈u,Bn B x) k:Bn B (vc u k):=by
 by_cases a:k<u.length
 .rw[lR u k a];exact h _ (aW _)
 .rw[ja u k (by omega)];exact sV
def yS(d:a.length=n):ie a b=true↔∀k,k<n->∀j,j<k->vc a k*vc b j=vc a j*vc b k:=by unfold ie;simp only[cy,aT,beq_iff_eq,d]
def JV(l:a.length=d+1)(m:b.length=d+1)(f:st.length=d)(h:ie a b=false):ie (uN d st a) (uN d st b)=false:=by
 have s:(uN d st a).length=d+1:=by unfold uN;rw[aU,bK];simp;omega
 cases q:ie (uN d st a) (uN d st b) with
 |false=>rfl
 |true=>
  exfalso;have q:=(yS s).mp q;have:=(yS l).mpr λk o j g=>by
   have n:∀k,k<d->∀j,j<k->vc a k*vc b j=vc a j*vc b k:=λk o j g=>by have:=q k (by omega) j g;rw[vK l f o,vK m f o,vK l f (by omega),vK m f (by omega)]at this;exact this
   by_cases p:k<d
   .exact n k p j g
   .have e:k=d:=by omega
    subst e;have:=q k (by omega) j g;rw[P2 l f,P2 m f,vK l f g,vK m f g]at this;have t:gE k (vc a) (vc st)*vc b j=vc a j*gE k (vc b) (vc st):=by
     unfold gE;rw[cW,<-lC,<-lC];refine fJ _ _ _ λi r=>?_;have:vc a i*vc b j=vc a j*vc b i:=by
      rcases Nat.lt_trichotomy i j with z|z|z
      .exact (n j g i z).symm
      .rw[z]
      .exact n i r j z
     calc vc b j*(vc a i*vc st i)=(vc a i*vc b j)*vc st i:=by ac_rfl
      _=(vc a j*vc b i)*vc st i:=by rw[this]
      _=vc a j*(vc b i*vc st i):=by ac_rfl
    grind
  rw[h]at this;cases this
def Nu{cs:LL}(h:pN d B cs)(s:d<=3)(k:st.length=d)(j:∀x∈st,x.natAbs<16):pN d (B+8) (cs.map (uN d st)):=by
 refine⟨λf r=>?_,by rw[ay];exact h.few,?_⟩
 .obtain⟨u,n,rfl⟩:=aE.mp r;have g:=h.gc u n;refine⟨⟨by unfold uN;rw[aU,bK,g.gl.1];simp,λx e=>?_⟩,?_⟩
  .unfold uN at e;rcases ai.mp e with q|q
   .exact (g.gl.2 x (dS q)).mono (by omega)
   .rw[aj.mp q,AZ st u (by rw[g.gl.1];omega),k];have o:=LM d _ λi _=>(Il g.gl.2 i).mul (Il (B:=4) (λx e=>by unfold Bn;exact j x e) i);exact ((Il g.gl.2 d).add o).mono (by omega)
  .obtain⟨p,m,l⟩:=g.re;exact⟨p,m,by rw[Cr g.gl.1 k,aR m];exact l⟩
 .rw[cN];exact h.pw.imp_of_mem λ{a b} ha hb q=>JV (h.gc a ha).gl.1 (h.gc b hb).gl.1 k q
def y9{d:Nat}{v:Vc}:∀(os:List (Nat×LI)),(∀p∈os,p.1<d/\vc p.2 p.1≠0)->os.Pairwise (λp q=>vc q.2 p.1=0)->(∀p∈os,gE d (vc p.2) v=0)->(∀i,i∉os.map Prod.fst->v i=0)->∀p∈os,v p.1=0:=λos=>by
 induction h:os.length generalizing os v with
 |zero=>have:os=[]:=d6.mp h;subst this;intro _ _ _ _ p a;cases a
 |succ n ih=>
  intro f g o m;rcases d7 os with e|⟨l,x,e⟩
  .subst e;cases h
  .rw[d8]at e;subst e;rw[dN]at g;have b:x∈l++[x]:=by simp
   have k:v x.1=0:=by
    have e:=o x b;unfold gE at e;rw[NI d x.1 _ (f x b).1 λi j ne=>by
     by_cases q:i∈(l++[x]).map Prod.fst
     .rw[a9,ai]at q;rcases q with q|q
      .obtain⟨p,a,rfl⟩:=aE.mp q;rw[g.2.2 p a x (by simp)];exact dD _
      .simp at q;exact absurd q ne
     .rw[m i q];exact dI _]at e
    exact Dx (f x b).2 e
   have r:=ih (v:=v) l (by simpa using h) (λp a=>f p (by simp[a])) g.1 (λp a=>o p (by simp[a])) (λi j=>by
    by_cases q:i=x.1
    .rw[q];exact k
    .refine m i λz=>?_;rw[a9,ai]at z;rcases z with z|z
     .exact j z
     .simp at z;exact q z)
   intro p a;rcases ai.mp a with q|q
   .exact r p q
   .rw[aj.mp q];exact k
def gQ{P:Vc->Prop}{z v:Vc}{m:Nat}(q:Qs P z)(h:∀x,P x->gE m x v=0):gE m z v=0:=by
 induction q with
 |of p=>exact h _ p
 |zero=>rw[qh];unfold gE;rw[fJ m _ (λ_=>0) λi _=>dI _];exact iS m
 |lin _ _ hs e i1 i2=>have:=Ck (m:=m) (A:=v) e;rw[qh m v,qh m v,qh m v,i1,i2,dI,dI]at this;exact Dx hs (by lia)
def Oe{vs:LL}(h:tq vs m n ah):(ah.map Prod.fst).Nodup:=by rw[List.Nodup,cN];refine h.tri.imp_of_mem λ{p q} _ hq e z=>h.nz q hq ?_;rw[<-z];exact e
def ou{vs:LL}(h:tq vs m vs.length ah)(f:List Vc)(k:∀v:Vc,(∀A∈f,gE m A v=0)->∀r∈vs,gE m (vc r) v=0):ah.length<=f.length:=by
 refine bX λd=>?_;have lt:∀p∈ah,p.1<m/\vc p.2 p.1≠0:=λp a=>⟨(h.bd p a).1,h.nz p a⟩;obtain⟨v,⟨j,g⟩,b,i⟩:=mV m f (ah.map Prod.fst) (Oe h) (λt l=>by obtain⟨p,a,rfl⟩:=aE.mp l;exact (lt p a).1) (by rw[ay];exact d)
 have z:=y9 ah lt h.tri (λp a=>gQ (h.ps p a) λx ⟨w,hw,ex⟩=>by rw[ex];exact k v i w (dS hw)) b;have e:j∈ah.map Prod.fst:=aP λz=>g (b j z);obtain⟨p,a,rfl⟩:=aE.mp e;exact g (z p a)
def nN{vs b:LL}(h:tq vs m vs.length d)(h':tq b m b.length a)(e:∀v:Vc,(∀r∈vs,gE m (vc r) v=0)↔∀r∈b,gE m (vc r) v=0):d.length=a.length:=by
 have go:∀{vs b:LL} {d a:List (Nat×LI)},tq vs m vs.length d->tq b m b.length a->(∀v:Vc,(∀r∈b,gE m (vc r) v=0)->∀r∈vs,gE m (vc r) v=0)->d.length<=a.length:=λ{vs b d a} h h' e=>by
  have:=ou h (a.map λp=>vc p.2) λv f=>e v λr hr=>gQ (h'.sp r (by rw[dO];exact hr)) λx ⟨p,hp,ex⟩=>by rw[ex];exact f _ (aE.mpr ⟨p,hp,rfl⟩)
  rw[ay]at this;exact this
 exact d9 (go h h' λv=>(e v).mpr) (go h' h λv=>(e v).mp)
def qd(d:Nat)(u:LI)(v:Vc):gE d (vc (u.take d)) v=gE d (vc u) v:=fJ _ _ _ λi a=>by unfold vc;rw[af,List.getElem?_take_of_lt a,<-af]
def HK{m:Nat}{os:List (Nat×LI)}(lt:∀p∈os,p.1<m/\vc p.2 p.1≠0)(tri:os.Pairwise λp q=>vc q.2 p.1=0)(g:List Vc)(l:∀v:Vc,(∀A∈g,gE m A v=0)->∀p∈os,gE m (vc p.2) v=0):os.length<=g.length:=by
 refine bX λd=>?_;have nd:(os.map Prod.fst).Nodup:=by rw[List.Nodup,cN];exact tri.imp_of_mem λ{p q} _ hq e z=>(lt q hq).2 (by rw[<-z];exact e)
 obtain⟨v,⟨j,h⟩,a,i⟩:=mV m g (os.map Prod.fst) nd (λt k=>by obtain⟨p,b,rfl⟩:=aE.mp k;exact (lt p b).1) (by rw[ay];exact d)
 have z:=y9 os lt tri (l v i) a;have f:j∈os.map Prod.fst:=aP λz=>h (a j z);obtain⟨p,b,rfl⟩:=aE.mp f;exact h (z p b)
def jj{vs:LL}{m:Nat}{a os:List (Nat×LI)}(h:tq vs m vs.length a)(lt:∀p∈os,p.1<m/\vc p.2 p.1≠0)(tri:os.Pairwise λp q=>vc q.2 p.1=0)(b:∀v:Vc,(∀r∈vs,gE m (vc r) v=0)->∀p∈os,gE m (vc p.2) v=0):os.length<=a.length:=by
 have:=HK lt tri (a.map λp=>vc p.2) λv d=>b v λr hr=>gQ (h.sp r (by rw[dO];exact hr)) λx ⟨p,hp,ex⟩=>by rw[ex];exact d _ (aE.mpr ⟨p,hp,rfl⟩)
 rw[ay]at this;exact this
section
variable {d B:Nat}{rows rs:LL}{pv ah ah0:List (Nat×LI)}
def PP.tri(h:PP d B rows pv rs):pv.Pairwise λp q=>vc q.2 p.1=0:=h.pw.imp λq=>q.2.1
def uk(h:PP d B rows pv rs)(j:tq (rows.map (·.take d)) d (rows.map (·.take d)).length ah0):ah0.length=pv.length:=by
 refine d9 ?_ ?_
 .have:=ou j (pv.map λp=>vc p.2) λv e r hr=>by
   obtain⟨r,g,rfl⟩:=aE.mp hr;rw[qd];refine gQ (h.sp r g) λx k=>?_;rcases k with⟨p,a,b⟩|⟨m,f,b⟩
   .rw[b];exact e _ (aE.mpr ⟨p,a,rfl⟩)
   .rw[b];unfold gE;rw[fJ d _ (λ_=>0) λi l=>by rw[(h.rr m f).2.1 i l,dD]];exact iS d
  rw[ay]at this;exact this
 .exact jj j (λp a=>⟨(h.pl p a).1,(h.pl p a).2.2.1⟩) h.tri λv e p a=>gQ (h.pl p a).2.2.2.2 λx ⟨r,hr,b⟩=>by rw[b,<-qd];exact e _ (aE.mpr ⟨r,hr,rfl⟩)
def kq(h:PP d B rows pv rs)(l:∀r∈rs,vc r d=0)(j:tq rows (d+1) rows.length ah):ah.length=pv.length:=by
 refine d9 ?_ (jj j (λp a=>⟨by have:=(h.pl p a).1;lia,(h.pl p a).2.2.1⟩) h.tri λv f p a=>gQ (h.pl p a).2.2.2.2 λx ⟨r,hr,e⟩=>by rw[e];exact f r hr);have:=ou j (pv.map λp=>vc p.2) λv f r hr=>gQ (h.sp r hr) λx k=>by
  rcases k with⟨p,a,e⟩|⟨g,b,e⟩
  .rw[e];exact f _ (aE.mpr ⟨p,a,rfl⟩)
  .rw[e];unfold gE;rw[fJ (d+1) _ (λ_=>0) λi m=>by
    have:vc g i=0:=by
     by_cases z:i<d
     .exact (h.rr g b).2.1 i z
     .rw[show i=d by lia];exact l g b
    rw[this,dD]];exact iS _
 rw[ay]at this;exact this
def vO(h:PP d B rows pv rs){r:LI}(hr:r∈rs)(g:vc r d≠0)(e:tq rows (d+1) rows.length ah):pv.length<ah.length:=by
 have:=jj (os:=pv++[(d,r)]) e (λp a=>by
  rcases ai.mp a with q|q
  .exact⟨by have:=(h.pl p q).1;lia,(h.pl p q).2.2.1⟩
  .rw[aj.mp q];exact⟨by lia,g⟩) (dN.mpr ⟨h.tri,cK _ _,λp a q f=>by rw[aj.mp f];exact (h.rr r hr).2.1 _ (h.pl p a).1⟩) λv b p a=>by
  rcases ai.mp a with q|q
  .exact gQ (h.pl p q).2.2.2.2 λx ⟨r,hr,ex⟩=>by rw[ex];exact b r hr
  .rw[aj.mp q];exact gQ (h.rr r hr).2.2 λx ⟨r,hr,ex⟩=>by rw[ex];exact b r hr
 simp at this;lia
def nT(h:PP d B rows pv rs)(J:∀r∈rs,vc r d=0){u left:LI}{g s:Int}{y:Vc}(K:0<g)(P:0<s)(o:Qs (ve pv) y)(e:∀i,g*vc left i=s*vc u i+1*y i)(I:∀p∈pv,vc left p.1=0)(Q:left.length=d+1)
  (C:tq (rows++[u]) (d+1) (rows++[u]).length ah):ah.length=pv.length↔∀i,vc left i=0:=by
 have H:∀p∈pv,Qs (VP (rows++[u])) (vc p.2):=λp f=>oN (h.pl p f).2.2.2.2;have l:∀{x:Vc} {v:Vc},Qs (VP (rows++[u])) x->(∀r∈rows++[u],gE (d+1) (vc r) v=0)->gE (d+1) x v=0:=λq j=>gQ q λx ⟨r,hr,m⟩=>by rw[m];exact j r hr
 have w:=jj C (λp f=>⟨by have:=(h.pl p f).1;lia,(h.pl p f).2.2.1⟩) h.tri λv j p f=>l (H p f) j;constructor
 .intro N i;refine aP λF=>?_;have D:i<d+1:=aP λz=>F (ja left i (by lia));have:=jj (os:=pv++[(i,left)]) C (λp f=>by
   rcases ai.mp f with q|q
   .exact⟨by have:=(h.pl p q).1;lia,(h.pl p q).2.2.1⟩
   .rw[aj.mp q];exact⟨D,F⟩) (dN.mpr ⟨h.tri,cK _ _,λp f q L=>by rw[aj.mp L];exact I p f⟩) λv j p f=>by
   rcases ai.mp f with q|q
   .exact l (H p q) j
   .rw[aj.mp q];exact l (sW h K o e) j
  simp at this;lia
 .intro k;refine d9 ?_ w;have:=ou C (pv.map λp=>vc p.2) λv j r hr=>by
   have E:∀x,ve pv x->gE (d+1) x v=0:=λx ⟨p,f,m⟩=>by rw[m];exact j _ (aE.mpr ⟨p,f,rfl⟩)
   rcases ai.mp hr with q|q
   .refine gQ (h.sp r q) λx t=>?_;rcases t with t|⟨A,n,m⟩
    .exact E x t
    .rw[m];unfold gE;rw[fJ (d+1) _ (λ_=>0) λi D=>by
      have:vc A i=0:=by
       by_cases z:i<d
       .exact (h.rr A n).2.1 i z
       .rw[show i=d by lia];exact J A n
      rw[this,dD]];exact iS _
   .rw[aj.mp q];refine gQ (.lin (s:=s) (a:=-1) (b:=0) (z:=vc u) o o (by lia) λi=>?_) E;have:=e i;rw[k i]at this;lia
  rw[ay]at this;exact this
end
theorem m4:∀n f,sm (n+1) f=sm n f+f n
 |0,f=>by rw[sm,sm,sm];lia
 |n+1,f=>by rw[sm,m4 n λi=>f (i+1),sm];lia
noncomputable def sk(p i:Nat):Nat:=if i<p then i else i+1
def Jd p i:sk (p+1) (i+1)=sk p i+1:=by unfold sk;split<;>split<;>lia
theorem FD:∀d p f,p<=d->Au (d+1) f=Au d (λi=>f (sk p i))+f p
 |0,0,f,_=>by unfold Au Au;grind
 |d+1,0,f,_=>by
  rw[Au];have:(λi=>f (sk 0 i))=λi=>f (i+1):=funext λi=>by simp[sk]
  rw[this];grind
 |d+1,p+1,f,h=>by
  rw[Au,FD d p (λi=>f (i+1)) (by lia)];have:Au (d+1) (λi=>f (sk (p+1) i))=f 0+Au d (λi=>f (sk p i+1)):=by rw[Au];congr 1;exact wQ d _ _ λi _=>by rw[Jd]
  rw[this];grind
def LR d p f (h:p<=d):sm (d+1) f=sm d (λi=>f (sk p i))+f p:=by have:=FD d p (λi=>(f i)) h;rw[<-xY,<-xY]at this;exact_mod_cast this
def OV(h:p<=d):sk p d=d+1:=by unfold sk;rw[aS (by lia)]
def Eg(h:f ρ=.ok (.lst ts)):uO (eM f eP) ρ=.ok (pG ts):=by simp only[uO,eM,eP,h,M.bind_ok];rfl
def HS ns:qu [tI ns]=.ok (.bl (ns.any λx=>x != 0)):=by simp only[tI,qu,qH,AJ];rw[cw];rfl
abbrev mI(k:Nat):T:=.int (k:Int)
def fU(cs:LL)(a:List Nat):LL:=a.map λz=>cs.getD z []
def jo(l:LL)(k:Nat)(h:k<l.length):l.getD k []∈l:=by rw[af,ag h];exact aW h
def Ly{d:Nat}(e:1<=d/\d<=3):Rh d 62:=by
 have a:d=1\/d=2\/d=3:=by lia
 refine⟨by decide,λk b=>?_,?_⟩
 .have:k=0\/k=1\/k=2\/k=3:=by lia
  rcases this with rfl|rfl|rfl|rfl<;>decide
 .rcases a with rfl|rfl|rfl<;>decide
def m6{d B:Nat}{cs:LL}{a:List Nat}(g:pN d B cs)(b:∀z∈a,z<cs.length):∀u∈fU cs a,u.length=d+1/\∀x∈u,Bn B x:=λu f=>by obtain⟨z,h,rfl⟩:=aE.mp f;have e:=jo cs z (b z h);exact (g.gc _ e).gl
def BA{cs:LL}{a:List Nat}(g:∀z∈a,z<cs.length)(k:a.length<=8){b:Pe->M (List T)}{ρ:Pe}{j:Nat}{e:Pe->M T}(d:e=eV gN (eN 1) (eN 0))(i:b ρ=.ok (a.map mI))(f:ρ[j]? = some (some (.lst (cs.map tI)))) :
  i9 [none,some j] b (iM 0) (λ_=>.ok true) e ρ=.ok ((fU cs a).map tI):=by
 have sz:1000<sizeLine:=by decide
 subst d;exact jx a mI (λz=>tI (cs.getD z [])) i (by lia) (λz h=>⟨[some (mI z),some (.lst (cs.map tI))],by simp[f],rfl,eT rfl rfl (sS cs tI z [] (g z h))⟩) (by simp[fU])
def J6{d:Nat}{cs j:LL}{v:List Nat}{pv:List (Nat×LI)}(x:1<=d/\d<=3)(w:pN d 62 cs)(h:PP d 62 (fU cs v) pv j):∃f:LI->LI,∀u∈cs,iY c [tI u,.lst (pv.map lP)]=.ok (tI (f u))/\(f u).length=d+1/\(∃g s y,0<g/\0<s/\Qs (ve pv) y/\∀i,g*vc (f u) i=s*vc u i+1*y i)/\∀p∈pv,vc (f u) p.1=0:=by
 refine r0 (P:=λ(u r:LI)=>iY c [tI u,.lst (pv.map lP)]=.ok (tI r)/\r.length=d+1/\(∃g s y,0<g/\0<s/\Qs (ve pv) y/\∀i,g*vc r i=s*vc u i+1*y i)/\∀p∈pv,vc r p.1=0) cs λu l=>?_;have a:=(w.gc u l).gl;obtain⟨r,e,q,_,k,m⟩:=Ak (c:=c) (ve pv) (d+1) (Pq 62 pv.length) 62 (by lia) pv u ((Ly x).le _ h.short) a.1 a.2 (λp b=>by obtain⟨z,t,o,n,_⟩:=h.pl p b;exact⟨by lia,t,o,n,p,b,rfl⟩) h.tri
 exact⟨r,e,q,k,m⟩
noncomputable def j4(d:Nat)(cs:LL)(pv:List (Nat×LI))(f:LI->LI):T:=.tup [.int ((d:Int)-(pv.length:Int)),.tup (((List.range cs.length).filter λk=>!(f (cs.getD k [])).any (· != 0)).map mI)]
theorem A7{d:Nat}{cs:LL}{b:List Nat}(o:1<=d/\d<=3)(e:pN d 62 cs)(n:∀z∈b,z<cs.length)(H:b.length<=7){S:T}(v:seqT S=.ok (b.map mI)):∃pv a f,PP d 62 (fU cs b) pv a/\
  (∀u∈cs,(f u).length=d+1/\(∃g s y,0<g/\0<s/\Qs (ve pv) y/\∀i,g*vc (f u) i=s*vc u i+1*y i)/\∀p∈pv,vc (f u) p.1=0)/\
  iL c [.lst (cs.map tI),.int d,S]=.ok (if a.any (λr=>r.any (· != 0)) then .non else j4 d cs pv f):=by
 have sz:1000<sizeLine:=by decide
 have L:=e.few;obtain⟨pv,a,w,h,C⟩:=JF (c:=c) (fU cs b) d 62 (by lia) (by simp[fU];lia) (m6 e n) (Ly o);obtain⟨f,m⟩:=J6 (c:=c) o e h;refine⟨pv,a,f,h,λu q=>(m u q).2,?_⟩;have B:=h.short;let F:T:=.tup [.lst (pv.map lP),.lst (a.map tI)];let R (D K:Option W):En:=[some (.p (.lst (cs.map tI))),some (.p (.int (d:Int))),some (.p S),some (.p F),D,K];have j:gd (iN qu (eM (gH (i9 [none] (gR (eV gN (eN 3) (cM (.int 1)))) (iM 0) (λ_=>.ok true) (t5 c))) eP)) (vw (R none none))=.ok (a.any λr=>r.any (· != 0)):=by refine fV (qc (ts:=(a.map λr=>r.any (· != 0)).map T.bl) (jx a tI (λr=>T.bl (r.any (· != 0))) (qx (eT rfl rfl rfl)) (by lia) (λr hr=>⟨_,rfl,rfl,kx rfl (HS r)⟩) (by simp)) ?_);rw[xE,cw];rfl
 have I:i9 [none,none,some 4] (uO (eM (eN 0) eP)) (nG 2 (gI (iM 0) (gI (iM 1) nI))) (L3.oW (gd (iN qu (eM (eY (eM (eN 1) (eM (eN 2) eP)) (iY c)) eP)))) (ur c) (kD (R (some (.p (.lst (pv.map lP)))) none))=.ok (((List.range cs.length).filter λk=>!(f (cs.getD k [])).any (· != 0)).map mI):=by
  refine pQ (List.range cs.length) (λk=>T.tup [mI k,tI (cs.getD k [])]) mI (λk=>!(f (cs.getD k [])).any (· != 0)) ?_ (by simp;lia) (λk E=>⟨[some (mI k),some (tI (cs.getD k [])),some (.lst (pv.map lP))],rfl,wR (fV (kx (lx rfl rfl (m _ (jo cs k (aT.mp E))).1) (HS _))) rfl,λ_=>rfl⟩) rfl;rw[Eg (ts:=cs.map tI) rfl];congr 1;refine cB (by simp[pG]) λi N J=>?_;have A:i<cs.length:=by simpa using J
  simp[pG,A]
 refine gP rfl (eR (ρ':=R none none) (fH (lx (gz (BA n (by lia) rfl (by show gR (eN 2) _=_;simp only[gR];exact v) rfl)) rfl w) rfl) ?_);cases l:a.any λr=>r.any (· != 0) with
 |true=>exact jG (hV (by rw[j,l]) (fO rfl)) rfl
 |false=>refine eR (gj (by rw[j,l]) rfl) (eR (ρ':=R (some (.p (.lst (pv.map lP)))) none) (fH (eT rfl rfl rfl) rfl) (eR (fH (gz I) rfl) (fO ?_)));exact Do (eT (x:=.int (d:Int)) (y:=.int (pv.length:Int)) rfl (kx (t:=.lst (pv.map lP)) rfl (by simp)) rfl) (kx rfl rfl)
def jI{l:LI}:(l.any (· != 0))=false↔∀i,vc l i=0:=by
 constructor
 .intro h i;by_cases a:i<l.length
  .rw[lR l i a];have:=bB.mp h l[i] (aW a);simpa using this
  .exact ja l i (by lia)
 .intro h;refine bB.mpr λx b=>?_;obtain⟨i,a,rfl⟩:=List.getElem_of_mem b;have:=h i;rw[lR l i a]at this;simp[this]
def pN.up62{d:Nat}{cs:LL}(h:pN d 30 cs):pN d 62 cs:=⟨λf a=>(h.gc f a).mono (by decide),h.few,h.pw⟩
theorem zG{d:Nat}{cs J:LL}{e:List Nat}{pv:List (Nat×LI)}{f:LI->LI}(hd:1<=d/\d<=3)(U:pN d 30 cs)(E:∀z∈e,z<cs.length)(hzl:e.length<=7){S:T}(hS:seqT S=.ok (e.map mI))(h:PP d 62 (fU cs e) pv J)
  (hf:∀u∈cs,(f u).length=d+1/\(∃g s y,0<g/\0<s/\Qs (ve pv) y/\∀i,g*vc (f u) i=s*vc u i+1*y i)/\∀p∈pv,vc (f u) p.1=0) :
  pT c [.int d,.lst (cs.map tI),S]=.ok (if J.any (λr=>r.any (· != 0)) then .non else j4 d cs pv f):=by
 have sz:1000<sizeLine:=by decide
 have hn:=U.few;have l:=m6 U E;have I:(fU cs e).length=e.length:=by simp[fU]
 have Ds:∀{u:LI} {m:Nat},u.length=m/\(∀x∈u,Bn 30 x)->u.length=m/\∀x∈u,Bn 50 x:=λq=>⟨q.1,λx A=>(q.2 x A).mono (by decide)⟩;have w:∀k,k<cs.length->(cs.getD k []).length=d+1/\∀x∈cs.getD k [],Bn 30 x:=λk B=>(U.gc _ (jo cs k B)).gl;obtain⟨j,ea,ka⟩:=og (c:=c) (d+1) (fU cs e) (by lia) (by lia) λv D=>Ds (l v D);obtain⟨ah0,e0,k0⟩:=og (c:=c) d ((fU cs e).map (·.take d)) (by lia) (by rw[ay];lia) λv D=>by obtain⟨u,hu,rfl⟩:=aE.mp D;have q:=l u hu;exact Ds ⟨by rw[bK,q.1];lia,λx A=>q.2 x (dS A)⟩
 have Q:=uk h k0;let R (x3 x4:Option W):En:=[some (.p (.int (d:Int))),some (.p (.lst (cs.map tI))),some (.p S),x3,x4];have n:∀{g:Pe->M T} {ρ:Pe},g ρ=.ok S->gR g ρ=.ok (e.map mI):=λ{g ρ} q=>by have:gR g ρ=(g ρ).bind seqT:=rfl;rw[this,q];exact hS
 have er:i9 [none,some 1,some 0] (gR (eN 2)) (iM 0) (λ_=>.ok true) (nY c) (vw (R (some (.p (.int (j.length:Int)))) none))=.ok (((fU cs e).map (·.take d)).map tI):=jx e mI (λz=>tI ((cs.getD z []).take d)) (n rfl) (by lia) (λz F=>⟨[some (mI z),some (.lst (cs.map tI)),some (.int (d:Int))],rfl,rfl,by have q:=w z (E z F);have:=qg (ρ:=[some (mI z),some (.lst (cs.map tI)),some (.int (d:Int))]) (fe:=eV gN (eN 1) (eN 0)) (fd:=eN 2) (ts:=(cs.getD z []).map T.int) (d:=d) (eT rfl rfl (sS cs tI z [] (E z F))) rfl (by rw[ay,q.1];lia);rw[<-c6]at this;exact this⟩) (by simp[fU])
 have c1:gd (eV (fM true) (eY (eM (gH (i9 [none,some 1,some 0] (gR (eN 2)) (iM 0) (λ_=>.ok true) (nY c))) eP) (iQ c)) (eN 3)) (vw (R (some (.p (.int (j.length:Int)))) none))=.ok (!((pv.length:Int)==(j.length:Int))):=by refine fV (eT (x:=.int (pv.length:Int)) (y:=.int (j.length:Int)) (sq (gz er) (by rw[e0,Q])) rfl ?_);rw[mZ]
 refine gP rfl (eR (ρ':=R (some (.p (.int (j.length:Int)))) none) (fH (sq (gz (BA E (by lia) rfl (n rfl) rfl)) ea) rfl) ?_);cases hc:J.any λr=>r.any (· != 0) with
 |true=>
  obtain⟨r,hr,ha⟩:=dW.mp hc;have P:vc r d≠0:=λz=>by
   have:(r.any (· != 0))=false:=jI.mpr λi=>by
    by_cases hi:i<d
    .exact (h.rr r hr).2.1 i hi
    .by_cases hi':i=d
     .rw[hi'];exact z
     .exact ja r i (by rw[(h.rr r hr).1];lia)
   rw[this]at ha;cases ha
  have m:=vO h hr P ka;have Y:((pv.length:Int)==(j.length:Int))=false:=beq_eq_false_iff_ne.mpr (by lia);exact jG (hV (by rw[c1,Y];rfl) (fO rfl)) rfl
 |false=>
  have H:∀r∈J,vc r d=0:=λr hr=>by have:=bB.mp hc r hr;exact jI.mp (by simpa using this) d
  have al:=kq h H ka;have X:((pv.length:Int)==(j.length:Int))=true:=beq_iff_eq.mpr (by lia);have ek:∀k,k<cs.length->∃K:Nat,iQ c [.lst ((fU cs e++[cs.getD k []]).map tI)]=.ok (.int (K:Int))/\decide (K=j.length)=!(f (cs.getD k [])).any (· != 0):=λk B=>by
   obtain⟨ak,L,k1⟩:=og (c:=c) (d+1) (fU cs e++[cs.getD k []]) (by lia) (by rw[aU,bU];lia) λv D=>by
    rcases ai.mp D with q|q
    .exact Ds (l v q)
    .rw[aj.mp q];exact Ds (w k B)
   obtain⟨fl,⟨g,s,y,N,Z,hy,ey⟩,fz⟩:=hf _ (jo cs k B);have o:=nT h H N Z hy ey fz fl k1;refine⟨ak.length,L,?_⟩;rw[al];cases A:(f (cs.getD k [])).any (· != 0) with
   |false=>exact aD (o.mpr (jI.mp A))
   |true=>exact aC λz=>by rw[jI.mpr (o.mp z)]at A;cases A
  have e4:i9 [none,some 3,some 1,some 2] (ig (eM (iN gZ (eM (eN 1) eP)) eP)) (iM 0) (gd (eV (fM false) (eY (eM (gH (uW (gH (i9 [none,some 2] (gR (eN 3)) (iM 0) (λ_=>.ok true) (sy c))) (gH (lstM (eM (eV gN (eN 2) (eN 0)) eP))))) eP) (iQ c)) (eN 1))) (sA c) (kD (R (some (.p (.int (j.length:Int)))) none))=.ok (((List.range cs.length).filter λk=>!(f (cs.getD k [])).any (· != 0)).map mI):=by refine pQ (List.range cs.length) mI mI (λk=>!(f (cs.getD k [])).any (· != 0)) (mx cs.length (by lia) (kx (t:=.lst (cs.map tI)) rfl (by simp))) (by simp;lia) (λk B=>⟨[some (mI k),some (.int (j.length:Int)),some (.lst (cs.map tI)),some S],rfl,?_,λ_=>rfl⟩) rfl;have C:=aT.mp B;obtain⟨K,L,e2⟩:=ek k C;refine fV (eT (x:=.int (K:Int)) (y:=.int (j.length:Int)) (sq (gz (xO (a:=(fU cs e).map tI) (b:=[tI (cs.getD k [])]) (gz (BA E (by lia) rfl (n rfl) rfl)) (Qa (eT rfl rfl (sS cs tI k [] C))) (by simp[I];lia))) (by rw[a9]at L;exact L)) rfl ?_);rw[gC,<-e2];congr 2;rw[ee];simp;exact eh
  refine eR (gj (by rw[c1,X];rfl) rfl) (eR (fH (gz e4) rfl) (fO ?_));exact Do (eT (x:=.int (d:Int)) (y:=.int (j.length:Int)) rfl rfl (by rw[al];rfl)) (kx rfl rfl)
def s9(m:Nat)(a:LL)(v:Vc):Prop:=∀r∈a,gE m (vc r) v=0
def B1{d:Nat}{x v:Vc}:gE (d+1) x (λi=>if i<d then v i else 0)=gE d x v:=by unfold gE;rw[m4];dsimp only;rw[aS (bc _),dI,dE];exact fJ _ _ _ λi a=>by rw[aR a]
def zA{m:Nat}{a:LL}(e:m<=4)(f:a.length<=8)(hr:∀v∈a,v.length=m/\∀x∈v,Bn 62 x):∃d,tq a m a.length d:=HZ a (λv b=>(hr v b).1) _ (aL _)
section
variable {d:Nat}{cs rs rs':LL}{zs zs':List Nat}{pv pv':List (Nat×LI)}{f f':LI->LI}
theorem Ex(hd:1<=d/\d<=3)(X:pN d 62 cs)(l:∀z∈zs,z<cs.length)(A:∀z∈zs',z<cs.length)(C:zs.length<=7)(t:zs'.length<=7)(h:PP d 62 (fU cs zs) pv rs)(h':PP d 62 (fU cs zs') pv' rs')
  (hf:∀u∈cs,(f u).length=d+1/\(∃g s y,0<g/\0<s/\Qs (ve pv) y/\∀i,g*vc (f u) i=s*vc u i+1*y i)/\∀p∈pv,vc (f u) p.1=0)
  (hf':∀u∈cs,(f' u).length=d+1/\(∃g s y,0<g/\0<s/\Qs (ve pv') y/\∀i,g*vc (f' u) i=s*vc u i+1*y i)/\∀p∈pv',vc (f' u) p.1=0)
  (U:∀v,s9 (d+1) (fU cs zs) v↔s9 (d+1) (fU cs zs') v) :
  (if rs.any (λr=>r.any (· != 0)) then T.non else j4 d cs pv f)=(if rs'.any (λr=>r.any (· != 0)) then T.non else j4 d cs pv' f'):=by
 have Ds:∀{u:LI} {m:Nat},u.length=m/\(∀x∈u,Bn 62 x)->u.length=m/\∀x∈u,Bn 62 x:=λq=>⟨q.1,λx B=>(q.2 x B).mono (by decide)⟩;have D:∀{zs:List Nat},(∀z∈zs,z<cs.length)->zs.length<=7->∃R,tq (fU cs zs) (d+1) (fU cs zs).length R:=λ{zs} l C=>zA (by lia) (by simp[fU];lia) λv I=>Ds (m6 X l v I);have K:∀{zs:List Nat},(∀z∈zs,z<cs.length)->zs.length<=7->∃R,tq ((fU cs zs).map (·.take d)) d ((fU cs zs).map (·.take d)).length R:=λ{zs} l C=>zA (by lia) (by simp[fU];lia) λv I=>by obtain⟨u,j,rfl⟩:=aE.mp I;have q:=m6 X l u j;exact Ds ⟨by rw[bK,q.1];lia,λx B=>q.2 x (dS B)⟩
 have Q:∀{zs:List Nat},(∀z∈zs,z<cs.length)->zs.length<=7->∀u∈cs,∃R,tq (fU cs zs++[u]) (d+1) (fU cs zs++[u]).length R:=λ{zs} l C u j=>zA (by lia) (by simp[fU];lia) λv I=>by
  rcases ai.mp I with q|q
  .exact Ds (m6 X l v q)
  .rw[aj.mp q];exact Ds (X.gc u j).gl
 obtain⟨a1,k1⟩:=D l C;obtain⟨a1',L⟩:=D A t;obtain⟨a0,k0⟩:=K l C;obtain⟨a0',F⟩:=K A t;have s1:=nN k1 L U;have E:∀{zs:List Nat} {v:Vc},(∀r∈(fU cs zs).map (·.take d),gE d (vc r) v=0)↔s9 (d+1) (fU cs zs) λi=>if i<d then v i else 0:=λ{zs v}=>⟨λq r hr=>by rw[B1,<-qd];exact q _ (aE.mpr ⟨r,hr,rfl⟩),λq r hr=>by obtain⟨u,j,rfl⟩:=aE.mp hr;rw[qd,<-B1];exact q u j⟩
 have s0:=nN k0 F λv=>E.trans ((U _).trans E.symm);have e0:=uk h k0;have e0':=uk h' F;have J:pv.length=pv'.length:=by lia
 have left:∀{zs:List Nat} {rs:LL} {pv a:List (Nat×LI)},PP d 62 (fU cs zs) pv rs->tq (fU cs zs) (d+1) (fU cs zs).length a->((rs.any λr=>r.any (· != 0))=false↔a.length=pv.length):=λ{zs rs pv a} h k=>by
  constructor
  .intro H;exact kq h (λr hr=>jI.mp (by simpa using bB.mp H r hr) d) k
  .intro e;refine bB.mpr λr hr z=>?_;have hn:vc r d≠0:=λw=>by
    have:(r.any (· != 0))=false:=jI.mpr λi=>by
     by_cases hi:i<d
     .exact (h.rr r hr).2.1 i hi
     .by_cases hi':i=d
      .rw[hi'];exact w
      .exact ja r i (by rw[(h.rr r hr).1];lia)
    rw[this]at z;cases z
   have:=vO h hr hn k;lia
 have l1:=left h k1;have l2:=left h' L;cases H:rs.any λr=>r.any (· != 0) with
 |true=>
  cases n:rs'.any λr=>r.any (· != 0) with
  |true=>rfl
  |false=>have:=l2.mp n;have:(rs.any λr=>r.any (· != 0))=false:=l1.mpr (by lia);rw[H]at this;cases this
 |false=>
  have q1:=l1.mp H;have n:(rs'.any λr=>r.any (· != 0))=false:=l2.mpr (by lia);rw[n];have z1:∀r∈rs,vc r d=0:=λr hr=>jI.mp (by simpa using bB.mp H r hr) d;have z2:∀r∈rs',vc r d=0:=λr hr=>jI.mp (by simpa using bB.mp n r hr) d;have j:∀u∈cs,(f u).any (· != 0)=(f' u).any (· != 0):=λu j=>by
   obtain⟨b,kb⟩:=Q l C u j;obtain⟨b',P⟩:=Q A t u j;have sb:=nN kb P λv=>by
    constructor
    .intro q r hr;rcases ai.mp hr with w|w
     .exact (U v).mp (λr hr=>q r (az _ hr)) r w
     .exact q r (bx _ w)
    .intro q r hr;rcases ai.mp hr with w|w
     .exact (U v).mpr (λr hr=>q r (az _ hr)) r w
     .exact q r (bx _ w)
   obtain⟨fl,⟨g,s,y,Z,hs0,Y,ey⟩,fz⟩:=hf u j;obtain⟨fl',⟨g',s',y',S,N,hy',ey'⟩,fz'⟩:=hf' u j;have o:=nT h z1 Z hs0 Y ey fz fl kb;have o':=nT h' z2 S N hy' ey' fz' fl' P;have:(f u).any (· != 0)=false↔(f' u).any (· != 0)=false:=by rw[jI,jI,<-o,<-o',sb,J]
   cases B:(f u).any (· != 0) with
   |false=>exact (this.mp B).symm
   |true=>
    cases Y:(f' u).any (· != 0) with
    |true=>rfl
    |false=>rw[this.mpr Y]at B;cases B
  simp only[bZ,if_false];unfold j4;rw[J];congr 4;congr 1;refine ei λk hk=>?_;rw[j _ (jo cs k (aT.mp hk))]
end
def IR(d:Nat)(cs:LL)(pv:List (Nat×LI))(f:LI->LI):Ky:=((d:Int)-(pv.length:Int),((List.range cs.length).filter λk=>!(f (cs.getD k [])).any (· != 0)).map λ(k:Nat)=>(k:Int))
def II(d:Nat)(cs:LL)(pv:List (Nat×LI))(f:LI->LI):Prop:=∀u∈cs,(f u).length=d+1/\(∃g s y,0<g/\0<s/\Qs (ve pv) y/\∀i,g*vc (f u) i=s*vc u i+1*y i)/\∀p∈pv,vc (f u) p.1=0
def Ob(d:Nat)(cs:LL)(b:List Nat)(o:Option Ky):Prop:=∃pv a f,PP d 62 (fU cs b) pv a/\II d cs pv f/\o=if a.any (λr=>r.any (· != 0)) then none else some (IR d cs pv f)
def vU:Option Ky->T
 |none=>.non
 |some g=>kH g
def p9(d:Nat)(cs:LL)(pv:List (Nat×LI))(f:LI->LI):j4 d cs pv f=kH (IR d cs pv f):=by unfold j4 kH IR;rw[aJ];rfl
def yh(b:Bool)(g:Ky):(if b then T.non else kH g)=vU (if b then none else some g):=by cases b<;>rfl
def JT{f g:Ky}(h:kH f=kH g):f=g:=by have:=congrArg uT h;rw[qP,qP]at this;exact Option.some.inj this
def Lo{o a:Option Ky}(h:vU o=vU a):o=a:=by
 cases o with
 |none=>
  cases a with
  |none=>rfl
  |some g=>cases h
 |some f=>
  cases a with
  |none=>cases h
  |some g=>rw[JT h]
def FL(d:Nat)(cs:LL)(a:List Nat):Option Ky:=Classical.epsilon (Ob d cs a)
structure Vz(d:Nat)(cs:LL):Prop where
 hd:1<=d/\d<=3
 hg:pN d 62 cs
def lq(cs:LL)(a:List Nat):Prop:=(∀z∈a,z<cs.length)/\a.length<=7
section
variable {d:Nat}{cs:LL}{zs zs':List Nat}{k:Nat}{g:Ky}
def yM{o b:Option Ky}(V:Vz d cs)(e:lq cs zs)(a:lq cs zs')(h:Ob d cs zs o)(h':Ob d cs zs' b)(n:∀v,s9 (d+1) (fU cs zs) v↔s9 (d+1) (fU cs zs') v):o=b:=by obtain⟨pv,r,f,p,l,rfl⟩:=h;obtain⟨q,i,s,m,j,rfl⟩:=h';have:=Ex V.hd V.hg e.1 a.1 e.2 a.2 p m l j n;rw[p9,p9,yh,yh]at this;exact Lo this
def FG(V:Vz d cs)(a:lq cs zs){S:T}(h:seqT S=.ok (zs.map mI)):∃o,Ob d cs zs o/\iL c [.lst (cs.map tI),.int d,S]=.ok (vU o):=by obtain⟨pv,b,f,p,l,e⟩:=A7 (c:=c) V.hd V.hg a.1 a.2 h;rw[p9,yh]at e;exact⟨_,⟨pv,b,f,p,l,rfl⟩,e⟩
def KZ(V:Vz d cs)(i:pN d 30 cs)(b:lq cs zs){S:T}(e:seqT S=.ok (zs.map mI)){o:Option Ky}(h:Ob d cs zs o):pT c [.int d,.lst (cs.map tI),S]=.ok (vU o):=by obtain⟨pv,j,f,p,l,rfl⟩:=h;have a:=zG (c:=c) V.hd i b.1 b.2 e p l;rw[p9,yh]at a;exact a
def vI(V:Vz d cs)(a:lq cs zs):Ob d cs zs (FL d cs zs):=by obtain⟨o,h,_⟩:=FG (c:=⟨0,0,0,0,0,0,0,0,0,0,0,0,0⟩) V a (S:=.lst (zs.map mI)) rfl;exact Classical.epsilon_spec (p:=Ob d cs zs) ⟨o,h⟩
def LC(V:Vz d cs)(a:lq cs zs){S:T}(b:seqT S=.ok (zs.map mI)):iL c [.lst (cs.map tI),.int d,S]=.ok (vU (FL d cs zs)):=by obtain⟨o,h,e⟩:=FG (c:=c) V a b;rw[yM V a a h (vI V a) λ_=>Iff.rfl]at e;exact e
def M9(V:Vz d cs)(e:pN d 30 cs)(a:lq cs zs){S:T}(b:seqT S=.ok (zs.map mI)):pT c [.int d,.lst (cs.map tI),S]=.ok (vU (FL d cs zs)):=KZ V e a b (vI V a)
def oI(V:Vz d cs)(b:lq cs zs)(a:lq cs zs')(e:∀v,s9 (d+1) (fU cs zs) v↔s9 (d+1) (fU cs zs') v):FL d cs zs=FL d cs zs':=yM V b a (vI V b) (vI V a) e
def Ds{u:LI}{m:Nat}(q:u.length=m/\∀x∈u,Bn 62 x):u.length=m/\∀x∈u,Bn 62 x:=⟨q.1,λx a=>(q.2 x a).mono (by decide)⟩
def OO(V:Vz d cs)(a:lq cs zs):∃e,tq (fU cs zs) (d+1) (fU cs zs).length e:=zA (by have:=V.hd;lia) (by have:=a.2;simp[fU];lia) λv b=>Ds (m6 V.hg a.1 v b)
def Rg(V:Vz d cs)(a:lq cs zs){u:LI}(e:u∈cs):∃f,tq (fU cs zs++[u]) (d+1) (fU cs zs++[u]).length f:=zA (by have:=V.hd;lia) (by have:=a.2;simp[fU];lia) λv b=>by
 rcases ai.mp b with q|q
 .exact Ds (m6 V.hg a.1 v q)
 .rw[aj.mp q];exact Ds (V.hg.gc u e).gl
def K3{a:LL}(h:(a.any λr=>r.any (· != 0))=false):∀r∈a,vc r d=0:=λr hr=>jI.mp (by simpa using bB.mp h r hr) d
def J8{b:LL}{pv:List (Nat×LI)}{a:LL}(p:PP d 62 a pv b)(h:(b.any λr=>r.any (· != 0))=true):∃r∈b,vc r d≠0:=by
 obtain⟨r,hr,f⟩:=dW.mp h;refine⟨r,hr,λz=>?_⟩;have:(r.any (· != 0))=false:=jI.mpr λi=>by
  by_cases j:i<d
  .exact (p.rr r hr).2.1 i j
  .by_cases e:i=d
   .rw[e];exact z
   .exact ja r i (by rw[(p.rr r hr).1];lia)
 rw[this]at f;cases f
def jE(V:Vz d cs)(i:lq cs zs)(h:FL d cs zs=some g):∃pv a f,PP d 62 (fU cs zs) pv a/\II d cs pv f/\(∀r∈a,vc r d=0)/\g=IR d cs pv f:=by
 obtain⟨pv,a,f,p,l,e⟩:=vI V i;rw[h]at e;cases b:a.any λr=>r.any (· != 0) with
 |true=>rw[b]at e;cases e
 |false=>rw[b]at e;exact⟨pv,a,f,p,l,K3 b,Option.some.inj e⟩
def tj(V:Vz d cs)(i:lq cs zs)(h:FL d cs zs=none):∃pv a,PP d 62 (fU cs zs) pv a/\∃r∈a,vc r d≠0:=by
 obtain⟨pv,a,f,p,l,e⟩:=vI V i;rw[h]at e;cases b:a.any λr=>r.any (· != 0) with
 |false=>rw[b]at e;cases e
 |true=>exact⟨pv,a,p,J8 p b⟩
def xH(V:Vz d cs)(C:lq cs zs){pv:List (Nat×LI)}{m:LL}{f:LI->LI}(p:PP d 62 (fU cs zs) pv m)(l:II d cs pv f)(z:∀r∈m,vc r d=0){u:LI}(o:u∈cs) :
  (f u).any (· != 0)=false↔∀v,s9 (d+1) (fU cs zs) v->gE (d+1) (vc u) v=0:=by
 obtain⟨I,⟨g,s,y,e,j,n,t⟩,K⟩:=l u o;constructor
 .intro h v H;have E:=jI.mp h;have a:gE (d+1) y v=0:=gQ n λx ⟨q,hq,ex⟩=>by rw[ex];exact gQ (p.pl q hq).2.2.2.2 λx ⟨r,hr,ex⟩=>by rw[ex];exact H r hr
  have D:∀i,s*vc u i = -(y i):=λi=>by have:=t i;rw[E i]at this;lia
  have J:s*gE (d+1) (vc u) v=0:=by
   have:s*gE (d+1) (vc u) v = -1*gE (d+1) y v:=by unfold gE;rw[<-lC,<-lC];exact fJ _ _ _ λi L=>by have:=D i;grind
   rw[this,a];rfl
  rcases dJ.mp J with w|w
  .lia
  .exact w
 .intro h;obtain⟨N,B⟩:=OO V C;obtain⟨b,A⟩:=Rg V C o;have F:=nN A B λv=>by
   constructor
   .exact λq r hr=>q r (az _ hr)
   .intro q r hr;rcases ai.mp hr with w|w
    .exact q r w
    .rw[aj.mp w];exact h v q
  exact jI.mpr ((nT p z e j n t K I A).mp (by rw[F];exact kq p z B))
def kL(V:Vz d cs)(b:lq cs zs)(h:FL d cs zs=some g):∃ks:List Nat,g.2=ks.map (λ(k:Nat)=>(k:Int))/\(∀k,k∈ks↔k<cs.length/\∀v,s9 (d+1) (fU cs zs) v->gE (d+1) (vc (cs.getD k [])) v=0)/\ks.length<=cs.length/\ks.Pairwise (· < ·):=by
 obtain⟨pv,i,f,p,l,z,rfl⟩:=jE V b h;refine⟨_,rfl,λk=>?_,?_,?_⟩
 .rw[aV,aT];constructor
  .rintro⟨a,e⟩;exact⟨a,(xH V b p l z (jo cs k a)).mp (by simpa using e)⟩
  .rintro⟨a,e⟩;exact⟨a,by simpa using (xH V b p l z (jo cs k a)).mpr e⟩
 .have:=eA (λk=>!(f (cs.getD k [])).any (· != 0)) (List.range cs.length);rwa [dY]at this
 .exact List.pairwise_lt_range.filter _
def fg{r:LI}:r∈fU cs zs↔∃z∈zs,r=cs.getD z []:=by unfold fU;rw[aE];exact⟨λ⟨z,h,e⟩=>⟨z,h,e.symm⟩,λ⟨z,h,e⟩=>⟨z,h,e.symm⟩⟩
def jU{v:Vc}:s9 (d+1) (fU cs (zs++[k])) v↔s9 (d+1) (fU cs zs) v/\gE (d+1) (vc (cs.getD k [])) v=0:=by
 constructor
 .intro h;exact⟨λr hr=>h r (by obtain⟨z,a,e⟩:=fg.mp hr;exact fg.mpr ⟨z,az _ a,e⟩),h _ (fg.mpr ⟨k,by simp,rfl⟩)⟩
 .rintro⟨b,f⟩ r hr;obtain⟨z,a,rfl⟩:=fg.mp hr;rcases ai.mp a with q|q
  .exact b _ (fg.mpr ⟨z,q,rfl⟩)
  .rw[aj.mp q];exact f
def lq.snoc(a:lq cs (zs++[k])):lq cs zs:=⟨λz h=>a.1 z (az _ h),by have:=a.2;simp at this;lia⟩
def zY{a b:List Nat}(h:a.map (λ(k:Nat)=>(k:Int))=b.map λ(k:Nat)=>(k:Int)):a=b:=(cH (f:=λ(k:Nat)=>(k:Int)) λx y w=>eh.mp w).mp h
def GT(V:Vz d cs)(f:lq cs (zs++[k])){ks:List Nat}(l:lq cs (ks++[k]))(h:FL d cs zs=some g)(j:g.2=ks.map (λ(k:Nat)=>(k:Int))):FL d cs (ks++[k])=FL d cs (zs++[k]):=by
 obtain⟨b,e,m,_⟩:=kL V f.snoc h;have:ks=b:=zY (j.symm.trans e);subst this;refine oI V l f λv=>?_;rw[jU,jU];refine and_congr_left λ_=>⟨λh r hr=>?_,λh r hr=>?_⟩
 .obtain⟨z,a,rfl⟩:=fg.mp hr;exact h _ (fg.mpr ⟨z,(m z).mpr ⟨f.1 z (az _ a),λv i=>i _ hr⟩,rfl⟩)
 .obtain⟨z,a,rfl⟩:=fg.mp hr;exact ((m z).mp a).2 v h
def CZ(V:Vz d cs)(f:lq cs (zs++[k]))(h:FL d cs zs=none):FL d cs (zs++[k])=none:=by
 obtain⟨pv,t,p,r,hr,o⟩:=tj V f.snoc h;cases e:FL d cs (zs++[k]) with
 |none=>rfl
 |some g=>
  obtain⟨i,s,u,a,A,n,rfl⟩:=jE V f e;obtain⟨z,l⟩:=OO V f;have:=jj (os:=i++[(d,r)]) l (λq b=>by
   rcases ai.mp b with w|w
   .exact⟨by have:=(a.pl q w).1;lia,(a.pl q w).2.2.1⟩
   .rw[aj.mp w];exact⟨bE d,o⟩) (dN.mpr ⟨a.tri,cK _ _,λq b y j=>by rw[aj.mp j];exact (p.rr r hr).2.1 _ (a.pl q b).1⟩) λv m q b=>by
   rcases ai.mp b with w|w
   .exact gQ (a.pl q w).2.2.2.2 λx ⟨r,hr,ex⟩=>by rw[ex];exact m r hr
   .rw[aj.mp w];exact gQ (p.rr r hr).2.2 λx ⟨r,hr,ex⟩=>by rw[ex];exact (jU.mp m).1 r hr
  rw[kq a n l]at this;simp at this;exact absurd this (eB _)
def AN(V:Vz d cs):∃g,FL d cs []=some g:=by
 cases e:FL d cs [] with
 |some g=>exact⟨g,rfl⟩
 |none=>
  obtain⟨pv,b,p,r,hr,a⟩:=tj V ⟨λ_ h=>absurd h eC,bF _⟩ e;have:=gQ (m:=d+1) (v:=λi=>if i=d then 1 else 0) (p.rr r hr).2.2 λx ⟨r,hr,_⟩=>by simp[fU]at hr
  refine absurd ?_ a;unfold gE at this;rw[m4]at this;rw[fJ d _ (λ_=>0) λi f=>by dsimp only;rw[aS (by lia),dI],iS]at this;simpa using this
def pR(V:Vz d cs)(a:lq cs zs)(h:FL d cs zs=some g):0<=g.1/\g.1<=d:=by obtain⟨pv,b,f,p,l,z,rfl⟩:=jE V a h;have:=p.short;unfold IR;dsimp only;lia
def CI{A:Ky}(V:Vz d cs)(j:lq cs (zs++[k]))(h:FL d cs zs=some g)(h':FL d cs (zs++[k])=some A)(J:(k:Int)∉g.2):A.1<g.1:=by
 obtain⟨R,e,m,_⟩:=kL V j.snoc h;have i:k<cs.length:=j.1 k (by simp);have E:k∉R:=λw=>J (by rw[e];exact aE.mpr ⟨k,w,rfl⟩);obtain⟨pv,S,f,p,l,z,rfl⟩:=jE V j.snoc h;obtain⟨Q,I,X,N,Z,H,rfl⟩:=jE V j h';obtain⟨a,B⟩:=OO V j;obtain⟨b,o⟩:=Rg V j.snoc (jo cs k i);have ab:a.length=b.length:=nN B o λv=>by
  constructor
  .intro q r hr;rcases ai.mp hr with w|w
   .exact (jU.mp q).1 r w
   .rw[aj.mp w];exact (jU.mp q).2
  .intro q;exact jU.mpr ⟨λr hr=>q r (az _ hr),q _ (by simp)⟩
 have U:=kq N H B;have D:=jj o (λq n=>⟨by have:=(p.pl q n).1;lia,(p.pl q n).2.2.1⟩) p.tri λv K q n=>gQ (p.pl q n).2.2.2.2 λx ⟨r,hr,ex⟩=>by rw[ex];exact K r (az _ hr)
 obtain⟨L,⟨Y,s,y,t,u,C,F⟩,P⟩:=l _ (jo cs k i);have ne:b.length≠pv.length:=λw=>E ((m k).mpr ⟨i,(xH V j.snoc p l z (jo cs k i)).mp (jI.mpr ((nT p z t u C F P L o).mp w))⟩);unfold IR;dsimp only;lia
end
def jg(n:Nat)(p:Nat->Bool):List Nat:=(List.range n).filter p
def yw{n:Nat}{p:Nat->Bool}:∀z∈jg n p,z<n:=λz h=>aT.mp (aV.mp h).1
def Ai(n:Nat)(p:Nat->Bool):(jg n p).length<=n:=by have:=eA p (List.range n);rwa [dY]at this
def rg(n:Nat)(p:Nat->Bool):jg (n+1) p=jg n p++(if p n then [n] else []):=by unfold jg;rw[List.range_succ,List.filter_append];congr 1;cases h:p n<;>simp[h]
def lG{n:Nat}{p q:Nat->Bool}(h:∀k,k<n->p k=q k):jg n p=jg n q:=ei λk a=>h k (aT.mp a)
def tG(a:List Ky):Option Ky->List Ky
 |none=>a
 |some g=>uE a g
def Kw(a:List Ky)(o:Option Ky):HX a (vU o)=.ok (tG a o):=by
 cases o with
 |none=>rfl
 |some g=>unfold vU HX tG;have:uT (kH g)=some g:=qP g;unfold kH at this ⊢;simp only[this]
def Hr{a:List Ky}{g x:Ky}:x∈uE a g↔x∈a\/x=g:=by
 unfold uE;split
 .rename_i h;exact⟨.inl,λb=>b.elim id λe=>e▸h⟩
 .simp
def Fh{a:List Ky}{o:Option Ky}{x:Ky}:x∈tG a o↔x∈a\/o=some x:=by
 cases o with
 |none=>simp[tG]
 |some g=>unfold tG;rw[Hr];exact or_congr_right ⟨λh=>by rw[h],λh=>(Option.some.inj h).symm⟩
def AF{d:List Ky}(o:Option Ky)(h:d.Nodup):(tG d o).Nodup:=by
 cases o with
 |none=>exact h
 |some g=>
  show (uE d g).Nodup;unfold uE;split
  .exact h
  .rename_i i;exact eE.mpr ⟨h,by simp,λa j b f e=>by rw[aj.mp f]at e;exact i (e▸j)⟩
def E4(a:List Ky)(o:Option Ky):(tG a o).length<=a.length+1:=by
 cases o with
 |none=>exact bH _
 |some g=>exact E3 a g
section
variable {α:Type}{φ:α->Option Ky}
def wu(φ:α->Option Ky)(l:List α)(b:List Ky):List Ky:=l.foldl (λa x=>tG a (φ x)) b
theorem wK{x:Ky}:∀{l:List α} {a:List Ky},x∈wu φ l a↔x∈a\/∃y∈l,φ y=some x
 |[],a=>by simp[wu]
 |y::l,a=>by show x∈wu φ l (tG a (φ y))↔_;rw[wK,Fh];simp only[aG,exists_eq_or_imp,or_assoc]
theorem sG:∀{l:List α} {a:List Ky},a.Nodup->(wu φ l a).Nodup
 |[],_,h=>h
 |y::l,_,h=>sG (l:=l) (AF (φ y) h)
theorem Ae{st:T->List Ky->M (List Ky)}{enc:α->T}{N:Nat}:∀(l:List α) (b:List Ky),b.length+l.length<=N->(∀x∈l,∀a:List Ky,a.length<N->st (enc x) a=.ok (tG a (φ x)))->nQ st (l.map enc) b=.ok (wu φ l b)
 |[],_,_,_=>rfl
 |y::l,b,h,hs=>by rw[aA]at h;show (st (enc y) b).bind (nQ st (l.map enc))=_;rw[hs y bj b (by lia)];have:=E4 b (φ y);exact Ae l _ (by lia) λx d=>hs x (bp _ d)
end
theorem yV:∀(n:Nat) (p:Nat->Bool),∃b:Nat,b<2 ^ n/\∀k,k<n->(Builtin.bitAnd ((b:Int) / 2 ^ k) 1==1)=p k
 |0,_=>⟨0,by decide,λk a=>absurd a (c8 _)⟩
 |n+1,p=>by
  obtain⟨b,d,h⟩:=yV n λk=>p (k+1);refine⟨2*b+(if p 0 then 1 else 0),?_,λk a=>?_⟩
  .rw[dc];split<;>lia
  .rw[PyProof.Rows.bitAnd_m1];cases k with
   |zero=>
    rw[Int.pow_zero,Int.ediv_one];cases p 0
    .simp
    .simp_all
   |succ k=>
    rw[<-h k (by lia),PyProof.Rows.bitAnd_m1,Int.pow_succ,cW,<-Int.ediv_ediv_of_nonneg (by decide)];have:((2*b+(if p 0 then 1 else 0):Nat):Int) / 2=b:=by split<;>lia
    rw[this]
def oY(b:Nat):Nat->Bool:=λk=>Builtin.bitAnd ((b:Int) / 2 ^ k) 1==1
section
variable {d:Nat}{cs:LL}
def kZ(b:cs.length<=7){n:Nat}(a:n<=cs.length)(p:Nat->Bool):lq cs (jg n p):=⟨λz h=>aF (yw z h) a,aO (Ai n p) (by lia)⟩
def yR(b:cs.length<=7){k:Nat}(a:k<cs.length)(p:Nat->Bool):lq cs (jg k p++[k]):=by
 refine⟨λz h=>?_,?_⟩
 .rcases ai.mp h with q|q
  .have:=yw z q;lia
  .rw[aj.mp q];exact a
 .have:=Ai k p;simp;lia
def vz(d:Nat)(cs:LL)(k:Nat)(a:List Ky):Prop:=a.Nodup/\∀g,g∈a↔∃p,FL d cs (jg k p)=some g
def Eb(l:LI):List Nat:=l.map Int.toNat
def oU(ks:List Nat):Eb (ks.map λ(k:Nat)=>(k:Int))=ks:=by unfold Eb;rw[aJ];exact (cL λk _=>by simp).trans (List.map_id ks)
def GM(d:Nat)(cs:LL)(k:Nat)(a:List Ky):List Ky:=wu (λf:Ky=>FL d cs (Eb f.2++[k])) a a
def Et(V:Vz d cs)(v:cs.length<=6){k:Nat}(i:k<cs.length){a:List Ky}(h:vz d cs k a):vz d cs (k+1) (GM d cs k a):=by
 refine⟨sG h.1,λg=>?_⟩;unfold GM;rw[wK];have o:∀(p:Nat->Bool) (f:Ky),FL d cs (jg k p)=some f->FL d cs (Eb f.2++[k])=FL d cs (jg k p++[k]):=λp f e=>by
  obtain⟨x,n,m,w,_⟩:=kL V (kZ (by lia) (by lia) p) e;rw[n,oU];exact GT V (yR (by lia) i p) ⟨λz t=>by
   rcases ai.mp t with q|q
   .exact ((m z).mp q).1
   .rw[aj.mp q];exact i,by simp;lia⟩ e n
 constructor
 .rintro (u|⟨f,s,e⟩)
  .obtain⟨p,e⟩:=(h.2 g).mp u;refine⟨λj=>p j&&decide (j<k),?_⟩;rw[rg,show (p k&&decide (k<k))=false by simp,aS (by decide),bG];rw[lG (q:=p) λj r=>by simp[r]];exact e
  .obtain⟨p,b⟩:=(h.2 f).mp s;rw[o p f b]at e;refine⟨λj=>if j=k then true else p j,?_⟩;rw[rg,aR (by simp),lG (q:=p) λj r=>by rw[aS (by lia)]];exact e
 .rintro⟨p,e⟩;rw[rg]at e;cases l:p k with
  |false=>rw[l]at e;simp only[bZ,if_false,bG]at e;exact .inl ((h.2 g).mpr ⟨p,e⟩)
  |true=>
   rw[l]at e;simp only[if_true]at e;cases b:FL d cs (jg k p) with
   |none=>rw[CZ V (yR (by lia) i p) b]at e;cases e
   |some f=>exact .inr ⟨f,(h.2 f).mpr ⟨p,b⟩,by rw[o p f b];exact e⟩
def zg{k:Nat}{a:List Ky}(h:vz d cs k a):a.length<=2 ^ k:=by
 have:=List.Nodup.length_le_of_subset (l₂:=(List.range (2 ^ k)).filterMap λb=>FL d cs (jg k (oY b))) h.1 λg j=>by obtain⟨p,e⟩:=(h.2 g).mp j;obtain⟨b,i,f⟩:=yV k p;exact bu.mpr ⟨b,aT.mpr i,by rw[show jg _ (oY b)=jg _ p from lG f];exact e⟩
 have l:=eF (λb=>FL d cs (jg k (oY b))) (List.range (2 ^ k));rw[dY]at l;lia
theorem sh(V:Vz d cs)(f:cs.length<=6):∀n,n<=cs.length->FL d cs (List.range n)=none\/(∃j,j<n/\∃g,FL d cs (List.range j)=some g/\(j:Int)∈g.2)\/∃g,FL d cs (List.range n)=some g/\g.1<=(d:Int)-n
 |0,_=>by obtain⟨g,e⟩:=AN V;exact .inr (.inr ⟨g,e,by have:=(pR V ⟨λ_ h=>absurd h eC,bF _⟩ e).2;lia⟩)
 |n+1,hn=>by
  have b:lq cs (List.range n++[n]):=⟨λz h=>by
   rcases ai.mp h with q|q
   .have:=aT.mp q;lia
   .rw[aj.mp q];lia,by simp;lia⟩
  rw[List.range_succ];cases e:FL d cs (List.range n++[n]) with
  |none=>exact .inl rfl
  |some g'=>
   rcases sh V f n (by lia) with q|⟨j,i,q⟩|⟨g,q,k⟩
   .rw[CZ V b q]at e;cases e
   .exact .inr (.inl ⟨j,by lia,q⟩)
   .by_cases a:(n:Int)∈g.2
    .exact .inr (.inl ⟨n,by lia,g,q,a⟩)
    .have:=CI V b q e a;exact .inr (.inr ⟨g',rfl,by lia⟩)
def sX(V:Vz d cs)(L:cs.length<=6){f:List Ky}(h:vz d cs cs.length f):f.length<64:=by
 by_cases t:cs.length<=5
 .have:=zg h;have Y:2 ^ cs.length<=2 ^ 5:=c9 (by decide) t;lia
 have t:cs.length=6:=by lia
 obtain⟨l,u,w⟩:=yV cs.length λ_=>true;have sub:∀g∈f,g∈((List.range (2 ^ cs.length)).filter λb=>b != l).filterMap λb=>FL d cs (jg cs.length (oY b)):=λg R=>by
  have go:∀p:Nat->Bool,FL d cs (jg cs.length p)=some g->(∃j,j<cs.length/\p j=false)->g∈((List.range (2 ^ cs.length)).filter λb=>b != l).filterMap λb=>FL d cs (jg cs.length (oY b)):=λp e ⟨j,a,hpj⟩=>by
   obtain⟨b,U,A⟩:=yV cs.length p;refine bu.mpr ⟨b,aV.mpr ⟨aT.mpr U,?_⟩,by rw[show jg _ (oY b)=jg _ p from lG A];exact e⟩;have:b≠l:=λz=>by have B:=A j a;have H:=w j a;rw[z]at B;rw[B,hpj]at H;cases H
   simpa using this
  obtain⟨p,e⟩:=(h.2 g).mp R;by_cases C:∃j,j<cs.length/\p j=false
  .exact go p e C
  .have pt:∀j,j<cs.length->p j=true:=λj a=>by
    cases q:p j with
    |true=>rfl
    |false=>exact absurd ⟨j,a,q⟩ C
   have F:jg cs.length p=List.range cs.length:=List.filter_eq_self.mpr λj a=>pt j (aT.mp a);rcases sh V L cs.length (aL _) with q|⟨j,a,I,q,E⟩|⟨I,q,J⟩
   .rw[F,q]at e;cases e
   .refine go (λi=>decide (i≠j)) ?_ ⟨j,a,by simp⟩;rw[<-e,F];have X:lq cs (List.range j):=⟨λz h=>by have:=aT.mp h;lia,by simp;lia⟩;obtain⟨Z,K,m,_⟩:=kL V X q;have Q:=(m j).mp (by rw[K]at E;obtain⟨z,k,S⟩:=aE.mp E;rw[<-eh.mp S];exact k)
    refine oI V (kZ (by lia) (aL _) _) ⟨λz h=>aT.mp h,by simp;lia⟩ λv=>⟨λn r hr=>?_,λn r hr=>?_⟩
    .obtain⟨z,k,rfl⟩:=fg.mp hr;have k:=aT.mp k;by_cases x:z=j
     .subst x;exact Q.2 v λr hr=>by obtain⟨y,o,rfl⟩:=fg.mp hr;have o:=aT.mp o;exact n _ (fg.mpr ⟨y,aV.mpr ⟨aT.mpr (by lia),by simpa using aN o⟩,rfl⟩)
     .exact n _ (fg.mpr ⟨z,aV.mpr ⟨aT.mpr k,by simpa using x⟩,rfl⟩)
    .obtain⟨z,k,rfl⟩:=fg.mp hr;exact n _ (fg.mpr ⟨z,aT.mpr (yw z k),rfl⟩)
   .have:=(pR V ⟨λz h=>aT.mp h,by simp;lia⟩ q).1;have:=V.hd.2;lia
 have P:=List.Nodup.length_le_of_subset h.1 sub;have N:=eF (λb=>FL d cs (jg cs.length (oY b))) ((List.range (2 ^ cs.length)).filter λb=>b != l);have D:((List.range (2 ^ cs.length)).filter λb=>b != l).length<(List.range (2 ^ cs.length)).length:=List.length_filter_lt_length_iff_exists.mpr ⟨l,aT.mpr u,by simp⟩;rw[dY]at D;have s:2 ^ cs.length=64:=by rw[t]
 rw[s]at P N D;lia
end
section
variable {d:Nat}{cs:LL}
def Jj{i fe:Pe->M T}{j:Pe->M (List T)}{e b a f:Nat}{ρ:En}{g:Ky}{its:List T}{l:List Ky}(k:i (kD ρ)=.ok (kH g))(n:j (((((kD ρ).set e none).set f none).set b none).set a none)=.ok its)
  (m:nQ (DT fe b a (((((kD ρ).set e none).set f none).set b none).set a none)) its [g]=.ok l) (h:l.length<64):Dk i fe j e b a f ρ=.rf ((gX l).map kH):=by
 unfold Dk;rw[k,O.of_ok,qP];dsimp only;rw[n,O.of_ok,m];unfold P3;rw[O.of_ok,aR h]
def Nh{fe:Pe->M T}{b:Nat}{ρ:Pe}{t:T}{a:List Ky}{o:Option Ky}(e:a.length<1000)(h:fe (ρ.set b (some t))=.ok (vU o)):Pc fe b ρ t a=.ok (tG a o):=by unfold Pc;rw[aR e,h,M.bind_ok,Kw]
def um{k n:Nat}{g:En->O}{ts us:List T}(a:ts.length=k)(h:g (f9 n ts)=.rf us):wO k n g ts=.ok us:=by unfold wO;rw[aR a,h];rfl
theorem yK(V:Vz d cs)(n:cs.length<=6){fe:Pe->M T}{ρ:Pe}(g:∀(k:Nat) (f:Ky) (p:Nat->Bool),k<cs.length->FL d cs (jg k p)=some f->fe ((ρ.set 4 (some (.int (k:Int)))).set 5 (some (kH f)))=.ok (vU (FL d cs (Eb f.2++[k])))) :
  ∀(m k:Nat) (b:List Ky),k+m=cs.length->vz d cs k b->∃l,nQ (DT fe 4 5 ρ) ((List.range' k m).map λ(i:Nat)=>T.int (i:Int)) b=.ok l/\vz d cs cs.length l
 |0,k,b,h,ha=>⟨b,rfl,by rw[<-h];exact ha⟩
 |m+1,k,b,h,ha=>by
  have t:=zg ha;have s:2 ^ k<=2 ^ 6:=c9 (by decide) (by lia);have e:DT fe 4 5 ρ (.int (k:Int)) b=.ok (GM d cs k b):=Ae (N:=1000) (enc:=kH) b b (by lia) λf q a j=>by obtain⟨p,e⟩:=(ha.2 f).mp q;exact Nh j (g k f p (by lia) e)
  obtain⟨l,o,r⟩:=yK V n g m (k+1) _ (by lia) (Et V n (by lia) ha);refine⟨l,?_,r⟩;rw[List.range'_succ,bC];show (DT fe 4 5 ρ (.int (k:Int)) b).bind _=_;rw[e];exact o
def yY(V:Vz d cs)(j:cs.length<=6):∃l,vz d cs cs.length l/\nE c [mm c d cs]=.ok ((gX l).map kH):=by
 have sz:1000<sizeLine:=by decide
 obtain⟨b,i⟩:=AN V;have w:vz d cs 0 [b]:=⟨by simp,λg=>⟨λh=>⟨λ_=>false,by rw[aj.mp h];exact i⟩,λ⟨p,h⟩=>by have n:FL d cs []=some g:=h;rw[i]at n;rw[Option.some.inj n];simp⟩⟩
 have D:lq cs []:=⟨λ_ h=>absurd h eC,bF _⟩;obtain⟨l,u,r⟩:=yK V j (fe:=eY (eM (eN 1) (eM (eN 2) (eM (eV fY (eV gN (eN 5) (cM (.int 1))) (nv (eM (eN 4) eP))) eP))) (iL c)) (ρ:=[some (mm c d cs),some (.lst (cs.map tI)),some (.int (d:Int)),none,none,none,none]) (λk f p B e=>by
   obtain⟨a,o,m,E,_⟩:=kL V (kZ (by lia) (by lia) p) e;have ok:lq cs (a++[k]):=⟨λz C=>by
    rcases ai.mp C with q|q
    .exact ((m z).mp q).1
    .rw[aj.mp q];exact B,by simp;lia⟩
   have v:seqT (.tup (a.map mI++[.int (k:Int)]))=.ok ((a++[k]).map mI):=by simp[seqT]
   rw[o,oU];have s:f.2.map T.int=a.map mI:=by rw[o,aJ];rfl
   refine j5 rfl rfl (eT (x:=.tup (a.map mI)) (y:=.tup [.int (k:Int)]) (eT (x:=kH f) rfl rfl (by unfold kH;rw[s];rfl)) rfl ?_) (LC V ok v);simp[fY];lia) cs.length 0 [b] (by lia) w
 refine⟨l,r,um rfl ?_⟩;have A:(λρ=>if ρ.length=7 then Dk (eY (eM (eN 1) (eM (eN 2) (eM (gH (lstM eP)) eP))) (iL c)) (eY (eM (eN 1) (eM (eN 2) (eM (eV fY (eV gN (eN 5) (cM (.int 1))) (nv (eM (eN 4) eP))) eP))) (iL c)) (ig (eM (iN gZ (eM (eN 1) eP)) eP)) 3 4 5 6 ρ else .bad:En->O)
   [some (.p (mm c d cs)),some (.p (.lst (cs.map tI))),some (.p (.int (d:Int))),none,none,none,none]=.rf ((gX l).map kH):=by
  refine (aR rfl).trans (Jj (g:=b) ?_ (mx cs.length (by lia) (kx (t:=.lst (cs.map tI)) rfl (by simp))) ?_ (sX V j r))
  .refine j5 rfl rfl (z:=.lst []) rfl ?_;rw[LC V D (S:=.lst []) rfl,i];rfl
  .rw[List.range_eq_range'];exact u
 exact eR (fH (gz (KC d cs rfl)) rfl) (eR (fH (C2 d cs rfl) rfl) A)
end
def ES(a b:Ky):Prop:=∀k∈a.2,k∈b.2
section
variable {d:Nat}{cs:LL}
def Mf(d:Nat)(cs:LL)(y:Ky):Prop:=∃a:List Nat,y.2=a.map (λ(k:Nat)=>(k:Int))/\lq cs a/\a.Pairwise (· < ·)/\FL d cs a=some y/\∀k,k∈a↔k<cs.length/\∀v,s9 (d+1) (fU cs a) v->gE (d+1) (vc (cs.getD k [])) v=0
def Cd(V:Vz d cs){i:List Nat}(f:lq cs i){y:Ky}(h:FL d cs i=some y):Mf d cs y:=by
 obtain⟨j,e,m,n,l⟩:=kL V f h;have ok:lq cs j:=⟨λz f=>((m z).mp f).1,by have:=V.hg.few;lia⟩;have g:∀v,s9 (d+1) (fU cs i) v↔s9 (d+1) (fU cs j) v:=λv=>by
  constructor
  .intro a r hr;obtain⟨z,b,rfl⟩:=fg.mp hr;exact ((m z).mp b).2 v a
  .intro a r hr;obtain⟨z,b,rfl⟩:=fg.mp hr;exact a _ (fg.mpr ⟨z,(m z).mpr ⟨f.1 z b,λv a=>a _ hr⟩,rfl⟩)
 refine⟨j,e,ok,l,by rw[<-oI V f ok g];exact h,λk=>?_⟩;rw[m k];exact and_congr_right λ_=>⟨λq v a=>q v ((g v).mpr a),λq v a=>q v ((g v).mp a)⟩
def zi(V:Vz d cs){j a:List Nat}(u:lq cs j)(f:lq cs a)(y:∀v,s9 (d+1) (fU cs a) v->s9 (d+1) (fU cs j) v)(h:FL d cs j=none):FL d cs a=none:=by
 obtain⟨pv,z,p,r,hr,s⟩:=tj V u h;cases e:FL d cs a with
 |none=>rfl
 |some g=>
  obtain⟨k,t,A,b,D,o,rfl⟩:=jE V f e;obtain⟨C,m⟩:=OO V f;have:=jj (os:=k++[(d,r)]) m (λq i=>by
   rcases ai.mp i with w|w
   .exact⟨by have:=(b.pl q w).1;lia,(b.pl q w).2.2.1⟩
   .rw[aj.mp w];exact⟨bE d,s⟩) (dN.mpr ⟨b.tri,cK _ _,λq i B l=>by rw[aj.mp l];exact (p.rr r hr).2.1 _ (b.pl q i).1⟩) λv n q i=>by
   rcases ai.mp i with w|w
   .exact gQ (b.pl q w).2.2.2.2 λx ⟨r,hr,ex⟩=>by rw[ex];exact n r hr
   .rw[aj.mp w];exact gQ (p.rr r hr).2.2 λx ⟨r,hr,ex⟩=>by rw[ex];exact y v n r hr
  rw[kq b o m]at this;simp at this;exact absurd this (eB _)
def Lj(V:Vz d cs){i a:List Nat}(u:lq cs i)(b:lq cs a){g j:Ky}(h:FL d cs i=some g)(h':FL d cs a=some j)(t:∀v,s9 (d+1) (fU cs a) v->s9 (d+1) (fU cs i) v):j.1<=g.1:=by
 obtain⟨pv,y,f,p,l,z,rfl⟩:=jE V u h;obtain⟨w,n,A,s,C,m,rfl⟩:=jE V b h';obtain⟨B,k⟩:=OO V b;have:=jj k (λq e=>⟨by have:=(p.pl q e).1;lia,(p.pl q e).2.2.1⟩) p.tri λv o q e=>gQ (p.pl q e).2.2.2.2 λx ⟨r,hr,ex⟩=>by rw[ex];exact t v o r hr
 rw[kq s m k]at this;unfold IR;dsimp only;lia
def NA(V:Vz d cs){j:List Nat}{k:Nat}(m:lq cs (j++[k])){g o:Ky}(h:FL d cs j=some g)(h':FL d cs (j++[k])=some o):g.1<=o.1+1:=by
 obtain⟨pv,H,f,p,l,z,rfl⟩:=jE V m.snoc h;obtain⟨F,D,J,E,L,B,rfl⟩:=jE V m h';obtain⟨K,s⟩:=OO V m;have:=ou s ((pv.map λq=>vc q.2)++[vc (cs.getD k [])]) λv t r hr=>by
  have C:∀q∈pv,gE (d+1) (vc q.2) v=0:=λq n=>t _ (az _ (aE.mpr ⟨q,n,rfl⟩));obtain⟨y,u,rfl⟩:=fg.mp hr;rcases ai.mp u with w|w
  .refine gQ (p.sp _ (fg.mpr ⟨y,w,rfl⟩)) λx A=>?_;rcases A with⟨q,n,e⟩|⟨b,a,e⟩
   .rw[e];exact C q n
   .rw[e];unfold gE;rw[fJ (d+1) _ (λ_=>0) λi I=>by
     have:vc b i=0:=by
      by_cases q:i<d
      .exact (p.rr b a).2.1 i q
      .rw[show i=d by lia];exact z b a
     rw[this,dD]];exact iS _
  .rw[aj.mp w];exact t _ (by simp)
 rw[kq E B s]at this;simp at this;unfold IR;dsimp only;lia
def jn(d:Nat)(cs:LL)(y:Ky)(k:Nat):Option Ky:=FL d cs (Eb y.2++[k])
structure Rt(d:Nat)(cs:LL)(y:Ky)(k:Nat)(z:Ky):Prop where
 mf:Mf d cs z
 le:ES y z
 kin:(k:Int)∈z.2
 one:(k:Int)∉y.2->z.1=y.1-1
 same:(k:Int)∈y.2->z=y
 least:∀t,Mf d cs t->ES y t->(k:Int)∈t.2->ES z t
def fW{ks:List Nat}{k:Nat}:(k:Int)∈ks.map (λ(k:Nat)=>(k:Int))↔k∈ks:=by rw[aE];exact⟨λ⟨z,hz,e⟩=>by rw[<-eh.mp e];exact hz,λh=>⟨k,h,rfl⟩⟩
def CA(V:Vz d cs)(g:cs.length<=6){ks:List Nat}(e:lq cs ks)(f:ks.Pairwise (· < ·)){k:Nat}(h:k<cs.length):lq cs (ks++[k]):=by
 have nd:ks.Nodup:=f.imp λa=>aN a;have:=List.Nodup.length_le_of_subset (l₂:=List.range cs.length) nd λz b=>aT.mpr (e.1 z b);rw[dY]at this;refine⟨λz b=>?_,by simp;lia⟩;rcases ai.mp b with q|q
 .exact e.1 z q
 .rw[aj.mp q];exact h
def ua(V:Vz d cs)(D:cs.length<=6){y z:Ky}(B:Mf d cs y){k:Nat}(A:k<cs.length)(h:jn d cs y k=some z):Rt d cs y k z:=by
 obtain⟨u,e,ok,C,p,m⟩:=B;unfold jn at h;rw[e,oU]at h;have a:=CA V D ok C A;obtain⟨E,s,n,_⟩:=kL V a h;have sub:∀j∈u,j∈E:=λj f=>(n j).mpr ⟨ok.1 j f,λv g=>g _ (fg.mpr ⟨j,az _ f,rfl⟩)⟩;refine⟨Cd V a h,λj f=>?_,?_,λF=>?_,λb=>?_,λt H x l j f=>?_⟩
 .rw[e]at f;rw[s];obtain⟨i,b,rfl⟩:=aE.mp f;exact fW.mpr (sub i b)
 .rw[s];exact fW.mpr ((n k).mpr ⟨A,λv g=>g _ (fg.mpr ⟨k,by simp,rfl⟩)⟩)
 .have L:=CI V a p h F;have P:=NA V a p h;lia
 .rw[e]at b;have b:=fW.mp b;have:FL d cs (u++[k])=FL d cs u:=oI V a ok λv=>by rw[jU];exact⟨λq=>q.1,λq=>⟨q,q _ (fg.mpr ⟨k,b,rfl⟩)⟩⟩
  rw[this,p]at h;exact (Option.some.inj h).symm
 .obtain⟨N,o,K,_,I,J⟩:=H;rw[s]at f;obtain⟨i,b,rfl⟩:=aE.mp f;rw[o];refine fW.mpr ((J i).mpr ⟨((n i).mp b).1,λv g=>((n i).mp b).2 v (jU.mpr ⟨λr hr=>?_,?_⟩)⟩)
  .obtain⟨w,hw,rfl⟩:=fg.mp hr;have:=x w (by rw[e];exact fW.mpr hw);rw[o]at this;exact g _ (fg.mpr ⟨w,fW.mp this,rfl⟩)
  .rw[o]at l;exact g _ (fg.mpr ⟨k,fW.mp l,rfl⟩)
def yW(V:Vz d cs)(o:cs.length<=6){y t:Ky}(l:Mf d cs y)(q:Mf d cs t)(g:ES y t){k:Nat}(p:k<cs.length)(b:(k:Int)∈t.2):∃z,jn d cs y k=some z:=by
 obtain⟨s,e,ok,n,x,m⟩:=l;obtain⟨A,i,f,_,a,u⟩:=q;unfold jn;rw[e,oU];cases h:FL d cs (s++[k]) with
 |some z=>exact⟨z,rfl⟩
 |none=>
  rw[zi V (CA V o ok n p) f (λv j=>jU.mpr ⟨λr hr=>?_,?_⟩) h]at a
  .cases a
  .obtain⟨w,hw,rfl⟩:=fg.mp hr;have:=g w (by rw[e];exact fW.mpr hw);rw[i]at this;exact j _ (fg.mpr ⟨w,fW.mp this,rfl⟩)
  .rw[i]at b;exact j _ (fg.mpr ⟨k,fW.mp b,rfl⟩)
def lX(V:Vz d cs)(C:cs.length<=6){a b:Ky}(t:Mf d cs a)(x:Mf d cs b)(h:ES a b)(ne:a≠b):b.1<a.1:=by
 obtain⟨y,D,B,N,A,Q⟩:=id t;obtain⟨o,n,e,E,i,U⟩:=id x;have u:∃k∈o,k∉y:=by
  refine aP λF=>ne ?_;have I:∀k∈o,k∈y:=λk H=>aP λq=>F ⟨k,H,q⟩;have:FL d cs y=FL d cs o:=oI V B e λv=>by
   constructor
   .intro j r hr;obtain⟨w,hw,rfl⟩:=fg.mp hr;exact j _ (fg.mpr ⟨w,I w hw,rfl⟩)
   .intro j r hr;obtain⟨w,hw,rfl⟩:=fg.mp hr;have:=h w (by rw[D];exact fW.mpr hw);rw[n]at this;exact j _ (fg.mpr ⟨w,fW.mp this,rfl⟩)
  rw[A,i]at this;exact Option.some.inj this
 obtain⟨k,l,p⟩:=u;have f:k<cs.length:=e.1 k l;have m:(k:Int)∈b.2:=by rw[n];exact fW.mpr l
 obtain⟨z,K⟩:=yW V C t x h f m;have J:=ua V C t f K;have S:=J.one (by rw[D];exact λq=>p (fW.mp q));obtain⟨R,L,g,_,s,P⟩:=J.mf;have X:=Lj V g e s i λv j r hr=>by obtain⟨w,hw,rfl⟩:=fg.mp hr;have:=J.least b x h m w (by rw[L];exact fW.mpr hw);rw[n]at this;exact j _ (fg.mpr ⟨w,fW.mp this,rfl⟩)
 lia
def qK(V:Vz d cs):∃y,FL d cs []=some y/\y.2=[]/\y.1=d/\Mf d cs y:=by
 obtain⟨y,e⟩:=AN V;have o:lq cs []:=⟨λ_ h=>absurd h eC,bF _⟩;have s:∀v,s9 (d+1) (fU cs []) v:=λv r hr=>by obtain⟨z,g,_⟩:=fg.mp hr;exact absurd g eC
 obtain⟨B,t,m,_⟩:=kL V o e;refine⟨y,e,?_,?_,Cd V o e⟩
 .have:B=[]:=List.eq_nil_iff_forall_not_mem.mpr λk w=>by
   obtain⟨a,A⟩:=(m k).mp w;obtain⟨p,E,n⟩:=(V.hg.gc _ (jo cs k a)).re;have:=A (λi=>if i=p then 1 else 0) (s _);unfold gE at this;have b:sm (d+1) (λj=>vc (cs.getD k []) j*if j=p then 1 else 0)=vc (cs.getD k []) p:=by rw[<-xp (d+1) p (λj=>vc (cs.getD k []) j) (by lia)];exact fJ _ _ _ λj _=>cW _ _
   rw[b]at this;exact n this
  rw[t,this];rfl
 .obtain⟨pv,D,f,p,l,z,rfl⟩:=jE V o e;have:pv=[]:=by
   cases pv with
   |nil=>rfl
   |cons q pv=>
    obtain⟨F,_,C,_,u⟩:=p.pl q bj;have:=gQ (m:=d+1) (v:=λi=>if i=q.1 then 1 else 0) u λx ⟨r,hr,_⟩=>by obtain⟨z,g,_⟩:=fg.mp hr;exact absurd g eC
    unfold gE at this;have b:sm (d+1) (λj=>vc q.2 j*if j=q.1 then 1 else 0)=vc q.2 q.1:=by rw[<-xp (d+1) q.1 (λj=>vc q.2 j) (by lia)];exact fJ _ _ _ λj _=>cW _ _
    rw[b]at this;exact absurd this C
  unfold IR;rw[this];simp
end
def qY(a b:Ky):Bool:=a.2.all λk=>decide (k∈b.2)
def iP{a b:Ky}:qY a b=true↔ES a b:=by unfold qY ES;simp
abbrev jF:=Ky×Int
def sD(D:List jF)(f:jF->Int):Int:=(D.map f).sum
def iO(x:jF)(D:List jF)(f:jF->Int):sD (x::D) f=f x+sD D f:=by simp[sD]
def rL(A B:List jF)(f:jF->Int):sD (A++B) f=sD A f+sD B f:=by simp[sD]
def lZ{D:List jF}{f:jF->Int}(h:∀x∈D,f x=0):sD D f=0:=by
 induction D with
 |nil=>rfl
 |cons x D ih=>rw[iO,h x bj,ih λy a=>h y (bp _ a)];rfl
def nR{D:List jF}{f g:jF->Int}(h:∀x∈D,f x=g x):sD D f=sD D g:=by unfold sD;rw[cL h]
def Bt(D:List jF)(f g:jF->Int):sD D (λx=>f x+g x)=sD D f+sD D g:=by
 induction D with
 |nil=>rfl
 |cons x D ih=>rw[iO,iO,iO,ih];lia
def IL(D:List jF)(s:Int)(f:jF->Int):sD D (λx=>s*f x)=s*sD D f:=by
 induction D with
 |nil=>simp[sD]
 |cons x D ih=>rw[iO,iO,ih,dH]
def LY{D:List jF}{f:jF->Int}(h:∀x∈D,f x<=0):sD D f<=0:=by
 induction D with
 |nil=>exact eG _
 |cons x D ih=>rw[iO];have:=h x bj;have:=ih λy a=>h y (bp _ a);lia
def Py{D:List jF}{f:jF->Int}(h:∀x∈D,f x<=0){x:jF}(b:x∈D)(d:f x<0):sD D f<0:=by obtain⟨A,B,rfl⟩:=eI b;rw[rL,iO];have:=LY (D:=A) (f:=f) λy a=>h y (by simp[a]);have:=LY (D:=B) (f:=f) λy a=>h y (by simp[a]);lia
def pK{D:List jF}(nd:(D.map (·.1)).Nodup){t:jF}(g:t∈D){f:jF->Int}(h:∀x∈D,x.1≠t.1->f x=0):sD D f=f t:=by obtain⟨A,B,rfl⟩:=eI g;rw[a9,bC,eE]at nd;obtain⟨i,b,d⟩:=nd;rw[bI]at b;rw[rL,iO,lZ λx a=>h x (by simp[a]) λe=>d _ (aE.mpr ⟨x,a,rfl⟩) _ bj e,lZ λx a=>h x (by simp[a]) λe=>b.1 (e▸aE.mpr ⟨x,a,rfl⟩)];lia
theorem Pt{D:List jF}(nd:(D.map (·.1)).Nodup)(P:Ky->Bool)(J:Ky->Option Ky):∀E:List jF,sD D (λw=>if P w.1 then sD E (λg=>if J g.1=some w.1 then g.2 else 0) else 0)=sD E (λg=>if (∃w∈D,J g.1=some w.1/\P w.1=true) then g.2 else 0)
 |[]=>lZ λw _=>by simp[sD]
 |g::E=>by
  rw[iO,<-Pt nd P J E];have:sD D (λw=>if P w.1 then sD (g::E) (λg=>if J g.1=some w.1 then g.2 else 0) else 0)=sD D (λw=>(if P w.1=true/\J g.1=some w.1 then g.2 else 0)+(if P w.1 then sD E (λg=>if J g.1=some w.1 then g.2 else 0) else 0)):=nR λw _=>by rw[iO];cases P w.1<;>simp
  rw[this,Bt];congr 1;by_cases h:∃w∈D,J g.1=some w.1/\P w.1=true
  .rw[aR h];obtain⟨w,hw,a,b⟩:=h;rw[pK nd hw λx _ ne=>aS λq=>ne (by rw[a]at q;exact (Option.some.inj q.2).symm),aR ⟨b,a⟩]
  .rw[aS h];exact lZ λw hw=>aS λq=>h ⟨w,hw,q.2,q.1⟩
section
variable {d:Nat}{cs:LL}
structure Bv(d:Nat)(cs:LL)(D:List jF):Prop where
 mf:∀x∈D,Mf d cs x.1
 all:∀y,Mf d cs y->∃m,(y,m)∈D
 nd:(D.map (·.1)).Nodup
 first:∀t B,D=t::B->t.2=1
 next:∀A t B,D=A++t::B->A≠[]->t.2 = -sD A (λg=>if qY g.1 t.1 then g.2 else 0)
 ord:D.Pairwise λx y=>y.1.1<=x.1.1
def Bv.after(V:Vz d cs)(f:cs.length<=6){D:List jF}(M:Bv d cs D){A B:List jF}{t:jF}(e:D=A++t::B):∀g∈B,¬ES g.1 t.1:=λg b h=>by have nd:=M.nd;have a:=M.ord;rw[e,a9,bC,eE,bI]at nd;rw[e]at a;have o:=(dm.mp (dN.mp a).2.1).1 g b;have ne:g.1≠t.1:=λq=>nd.2.1.1 (q▸aE.mpr ⟨g,b,rfl⟩);have:=lX V f (M.mf g (by rw[e];simp[b])) (M.mf t (by rw[e];simp)) h ne;lia
def Bv.head(V:Vz d cs)(f:cs.length<=6){D:List jF}(M:Bv d cs D){t:jF}(b:t∈D)(g:t.1.2=[]):t.2=1:=by
 obtain⟨A,B,e⟩:=eI b;cases A with
 |nil=>exact M.first t B e
 |cons h A=>exact absurd (λk a=>by rw[g]at a;cases a) (M.after V f (A:=[]) (t:=h) (B:=A++t::B) e t (by simp))
def Bv.sum(V:Vz d cs)(f:cs.length<=6){D:List jF}(M:Bv d cs D){t:jF}(o:t∈D)(h:t.1.2≠[]):sD D (λg=>if qY g.1 t.1 then g.2 else 0)=0:=by
 obtain⟨A,B,e⟩:=eI o;have l:A≠[]:=λz=>by
  subst z;obtain⟨y,_,j,_,p⟩:=qK V;obtain⟨m,i⟩:=M.all y p;rw[e]at i;rcases aG.mp i with q|q
  .rw[<-q]at h;exact h j
  .exact M.after V f (A:=[]) e (y,m) q λk b=>by have a:k∈y.2:=b;rw[j]at a;cases a
 have n:=M.next A t B e l;rw[e,rL,iO,lZ (D:=B) λg r=>aS λq=>M.after V f e g r (iP.mp q)];rw[aR (iP.mpr λk b=>b),n];lia
def Sj(d:Nat)(cs:LL)(D:List jF)(a:Nat)(t:Ky):Int:=sD D (λg=>if jn d cs g.1 a=some t then g.2 else 0)
theorem CH(V:Vz d cs)(b:cs.length<=6){D:List jF}(M:Bv d cs D){a:Nat}(f:a<cs.length):∀(N:Nat) (t:jF),t∈D->(a:Int)∈t.1.2->(d:Int)-t.1.1<N->Sj d cs D a t.1=0
 |0,t,ht,_,hN=>by obtain⟨ks,_,ok,_,fl,_⟩:=M.mf t ht;have:=(pR V ok fl).2;lia
 |N+1,t,ht,hat,hN=>by
  have j:=M.mf t ht;have n:=Pt M.nd (λw=>decide ((a:Int)∈w.2)&&qY w t.1) (λg=>jn d cs g a) D;have s:sD D (λg=>if (∃w∈D,jn d cs g.1 a=some w.1/\(decide ((a:Int)∈w.1.2)&&qY w.1 t.1)=true) then g.2 else 0)=sD D (λg=>if qY g.1 t.1 then g.2 else 0):=nR λg u=>by
   have l:=M.mf g u;by_cases h:ES g.1 t.1
   .obtain⟨z,o⟩:=yW V b l j h f hat;have J:=ua V b l f o;obtain⟨m,r⟩:=M.all z J.mf;rw[aR (iP.mpr h),aR ⟨(z,m),r,o,by rw[bN];exact⟨aD J.kin,iP.mpr (J.least t.1 j h hat)⟩⟩]
   .rw[aS λq=>h (iP.mp q),aS];rintro⟨w,hw,e,q⟩;rw[bN]at q;exact h λk i=>iP.mp q.2 k ((ua V b l f e).le k i)
  rw[s,M.sum V b ht (λz=>by rw[z]at hat;cases hat)]at n;have p:sD D (λw=>if (decide ((a:Int)∈w.1.2)&&qY w.1 t.1) then Sj d cs D a w.1 else 0)=Sj d cs D a t.1:=by
   rw[pK M.nd ht λw hw ne=>?_]
   .rw[aR (by rw[bN];exact⟨aD hat,iP.mpr λk i=>i⟩)]
   .by_cases q:(decide ((a:Int)∈w.1.2)&&qY w.1 t.1)=true
    .rw[aR q];rw[bN]at q;have:=lX V b (M.mf w hw) j (iP.mp q.2) ne;exact CH V b M f N w hw (of_decide_eq_true q.1) (by lia)
    .rw[aS q]
  rw[<-p];exact n
theorem L7(V:Vz d cs)(b:cs.length<=6){t:Ky}(f:Mf d cs t){a:Nat}(r:a<cs.length)(h:(a:Int)∈t.2):∀(K:Nat) (g:Ky),Mf d cs g->ES g t->(a:Int)∉g.2->g.1<K->∃o,Mf d cs o/\(a:Int)∉o.2/\jn d cs o a=some t
 |0,g,mg,_,_,hK=>by obtain⟨ks,_,ok,_,fl,_⟩:=mg;have:=(pR V ok fl).1;lia
 |K+1,g,mg,hgt,hag,hK=>by
  obtain⟨z,x⟩:=yW V b mg f hgt r h;have J:=ua V b mg r x;by_cases e:z=t
  .exact⟨g,mg,hag,by rw[x,e]⟩
  .have zt:=J.least t f hgt h;have s:∃k:Nat,k<cs.length/\(k:Int)∈t.2/\(k:Int)∉z.2:=by
    refine aP λC=>?_;obtain⟨H,w,u,_⟩:=id f;have D:ES t z:=λk l=>by rw[w]at l;obtain⟨i,v,rfl⟩:=aE.mp l;exact aP λq=>C ⟨i,u.1 i v,by rw[w];exact fW.mpr v,q⟩
    have F:=lX V b J.mf f zt e;have I:=lX V b f J.mf D (Ne.symm e);lia
   obtain⟨k,l,n,m⟩:=s;obtain⟨y,A⟩:=yW V b mg f hgt l n;have Y:=ua V b mg l A;have p:(k:Int)∉g.2:=λq=>m (J.le _ q);have L:=Y.one p;by_cases j:(a:Int)∈y.2
   .have B:=J.least y Y.mf Y.le j;have E:=J.one hag;have:z=y:=aP λne=>by have:=lX V b J.mf Y.mf B ne;lia
    exact absurd (this▸Y.kin) m
   .exact L7 V b f r h K y Y.mf (Y.least t f hgt n) j (by lia)
def sg(d:Nat)(t:Ky):Int:=if ((d:Int)-t.1) % 2=0 then 1 else -1
theorem yG(V:Vz d cs)(h:cs.length<=6){D:List jF}(M:Bv d cs D):∀(N:Nat) (t:jF),t∈D->(d:Int)-t.1.1<N->0<sg d t.1*t.2
 |0,t,ht,hN=>by obtain⟨ks,_,ok,_,fl,_⟩:=M.mf t ht;have:=(pR V ok fl).2;lia
 |N+1,t,ht,hN=>by
  have l:=M.mf t ht;obtain⟨U,e0,K,S,Y⟩:=qK V;obtain⟨R,H,F,_,j,_⟩:=id l;cases R with
  |nil=>rw[M.head V h ht H];rw[e0]at j;unfold sg;rw[<-Option.some.inj j,S];simp
  |cons a R=>
   have m:a<cs.length:=F.1 a bj;have b:(a:Int)∈t.1.2:=by rw[H];simp
   have Z:=CH V h M m (N+1) t ht b hN;have X:jn d cs t.1 a=some t.1:=by obtain⟨z,L⟩:=yW V h l l (λk r=>r) m b;rw[L,(ua V h l m L).same b]
   have neg:∀g∈D,g.1≠t.1->jn d cs g.1 a=some t.1->sg d t.1*g.2<0:=λg P ne e=>by
    have J:=ua V h (M.mf g P) m e;have y:(a:Int)∉g.1.2:=λq=>ne (J.same q).symm;have C:=J.one y;have ih:=yG V h M N g P (by lia);have:sg d t.1 = -sg d g.1:=by
     unfold sg;rw[C];by_cases q:((d:Int)-g.1.1) % 2=0
     .rw[aR q,aS (by lia)]
     .rw[aS q,aR (by lia)];rfl
    rw[this,dM];lia
   obtain⟨s,v,p,Q⟩:=L7 V h l m b (d+1) U Y (λk r=>by rw[K]at r;cases r) (λq=>by rw[K]at q;cases q) (by lia);obtain⟨m',n⟩:=M.all s v;have i:s≠t.1:=λq=>p (q▸b);obtain⟨A,B,e⟩:=eI ht;have nd:=M.nd;rw[e,a9,bC,eE,bI]at nd;have o:∀x∈A++B,x∈D/\x.1≠t.1:=λx u=>by
    rcases ai.mp u with q|q
    .exact⟨by rw[e];simp[q],λz=>nd.2.2 _ (aE.mpr ⟨x,q,rfl⟩) _ bj z⟩
    .exact⟨by rw[e];simp[q],λz=>nd.2.1.1 (z▸aE.mpr ⟨x,q,rfl⟩)⟩
   have E:∀x∈A++B,sg d t.1*(if jn d cs x.1 a=some t.1 then x.2 else 0)<=0:=λx u=>by
    obtain⟨C,h2⟩:=o x u;split
    .rename_i q;exact Int.le_of_lt (neg x C h2 q)
    .simp
   have f:(s,m')∈A++B:=by
    rw[e]at n;rcases ai.mp n with q|q
    .exact az _ q
    .rcases aG.mp q with w|w
     .exact absurd (congrArg Prod.fst w) i
     .exact bx _ w
   have lt:=Py E f (by rw[aR Q];exact neg _ (o _ f).1 i Q);have I:sg d t.1*Sj d cs D a t.1=0:=by rw[Z];simp
   unfold Sj at I;rw[<-IL,e,rL,iO,aR X]at I;rw[rL]at lt;lia
end
def NU i (a:LI):Eh false (.int i) (.tup (a.map T.int))=.ok (.bl (decide (i∈a))):=by
 have f:(a.map T.int).all jw=true:=cy.mpr λx b=>by obtain⟨y,-,rfl⟩:=aE.mp b;rfl
 have g:sJ (.int i) (a.map T.int)=decide (i∈a):=by
  unfold sJ;rw[cw,ee,dW,decide_eq_true_iff];constructor
  .rintro⟨x,b,e⟩;have d:DB (T.int x) (T.int i)=true:=e;rw[JS]at d;rw[<-eq_of_beq d];exact b
  .intro h;exact⟨i,h,by show DB (T.int i) (T.int i)=true;simp⟩
 unfold Eh;dsimp only;rw[f,g];rfl
def JH(g t:Ky):yQ [.lst (g.2.map λk=>T.bl (decide (k∈t.2)))]=.ok (.bl (qY g t)):=by have:=tm (g.2.map λk=>decide (k∈t.2));rw[aJ,cu]at this;exact this
def Kb(t g:Ky)(a:g.2.length<1000):lj c [kH t,kH g]=.ok (.bl (qY g t)):=by
 have sz:1000<sizeLine:=by decide
 exact gP rfl (fO (qc (ts:=g.2.map λk=>T.bl (decide (k∈t.2))) (jx g.2 T.int (λk=>T.bl (decide (k∈t.2))) rfl (by lia) (λk _=>⟨_,rfl,rfl,eT rfl rfl (NU k t.2)⟩) rfl) (JH g t)))
def lE(D:List jF)(t:Ky):List jF:=D++[(t,-sD D (λg=>if qY g.1 t then g.2 else 0))]
def qi:List Ky->List jF
 |[]=>[]
 |t::r=>r.foldl lE [(t,1)]
theorem rO:∀(r:List Ky) (D:List jF),(r.foldl lE D).map (·.1)=D.map (·.1)++r
 |[],D=>by simp
 |t::r,D=>by rw[List.foldl_cons,rO r];simp[lE]
def mY(Z:List Ky):(qi Z).map (·.1)=Z:=by
 cases Z with
 |nil=>rfl
 |cons t r=>unfold qi;rw[rO];rfl
def Fp(D:List jF):Prop:=(∀t B,D=t::B->t.2=1)/\∀A t B,D=A++t::B->A≠[]->t.2 = -sD A (λg=>if qY g.1 t.1 then g.2 else 0)
def Ew{D:List jF}(h:Fp D)(j:D≠[])(t:Ky):Fp (lE D t):=by
 unfold lE;refine⟨λu B e=>?_,λA u B e f=>?_⟩
 .cases D with
  |nil=>exact absurd rfl j
  |cons x D=>rw[dz]at e;rw[<-(List.cons.inj e).1];exact h.1 x D rfl
 .rcases d7 B with rfl|⟨d,b,rfl⟩
  .have a:=List.append_inj' e rfl;have i:(t,-sD D (λg=>if qY g.1 t then g.2 else 0))=u:=(List.cons.inj a.2).1;rw[<-i,<-a.1]
  .have a:D++[(t,-sD D (λg=>if qY g.1 t then g.2 else 0))]=(A++u::d)++[b]:=by rw[e];simp
   exact h.2 A u d (List.append_inj' a rfl).1 f
theorem vV:∀(r:List Ky) (D:List jF),Fp D->D≠[]->Fp (r.foldl lE D)
 |[],_,h,_=>h
 |t::r,D,h,hD=>vV r _ (Ew h hD t) (by simp[lE])
def zQ(Z:List Ky):Fp (qi Z):=by
 cases Z with
 |nil=>exact⟨λt B e=>(nomatch e),λA t B e _=>by simp[qi]at e⟩
 |cons t r=>
  refine vV r _ ⟨λu B e=>?_,λA u B e a=>?_⟩ (by simp)
  .rw[<-(List.cons.inj e).1]
  .cases A with
   |nil=>exact absurd rfl a
   |cons x A=>have:=congrArg List.length e;simp at this
def AC(D:List jF)(p:jF->Bool):((D.filter p).map (·.2)).sum=sD D (λg=>if p g then g.2 else 0):=by
 induction D with
 |nil=>rfl
 |cons x D ih=>rw[iO,<-ih,List.filter_cons];cases p x<;>simp
theorem wZ:∀(D:List jF) (R:List Ky),pX ((D.map (·.1)++R).map kH) (D.map λx=>T.int x.2)=D.map λx=>T.tup [kH x.1,.int x.2]
 |[],R=>by simp[pX]
 |x::D,R=>by have:=wZ D R;unfold pX at this ⊢;simp only[bC,dz,cG];rw[this]
def tM(l:LI):DL (l.map T.int)=true:=by
 induction l with
 |nil=>rfl
 |cons x l ih=>simp only[bC,DL,lf,ih];rfl
def Nj{f:Int->T}{a:Pe->M T}{ρ:Pe}{i:Int}(h:a ρ=.ok (.int i)):yE f a ρ=.ok (f i):=by unfold yE;rw[h];rfl
def Dz(D:List jF):List T:=D.map λx=>T.int x.2
def E8(D:List jF)(t:Ky):Dz (lE D t)=Dz D++[.int (-((D.filter λx=>qY x.1 t).map (·.2)).sum)]:=by unfold Dz lE;rw[AC];simp
def C5(a:Ky)(r:List Ky)(hr:r.length<100)(y:∀g∈a::r,g.2.length<1000):fL c [.lst ((a::r).map kH)]=.ok (Dz (qi (a::r))):=by
 have sz:1000<sizeLine:=by decide
 let R (D:List jF) (f b:Option W):En:=[some (.p (.lst ((a::r).map kH))),some (.o (Dz D)),f,b];obtain⟨h,e,f,b,rfl⟩:=jr (m:=ko 2) (g:=kX c) kH (λk h=>∃f b,h=R ((r.take k).foldl lE [(a,1)]) f b) r 0 (R [(a,1)] none none) ⟨none,none,rfl⟩ (by
  rintro i t h u ⟨f,b,rfl⟩;rw[aH]at *;let D:=(r.take i).foldl lE [(a,1)];have l:D.map (·.1)=a::r.take i:=by show ((r.take i).foldl lE [(a,1)]).map (·.1)=_;rw[rO];rfl
  have z:D.length<=r.length+1:=by have:=congrArg List.length l;rw[ay,aA,bK]at this;lia
  have j:(a::r)=D.map (·.1)++r.drop i:=by rw[l,dz,dX]
  have w:lu (eM (eN 0) (eM (eN 1) eP)) (vw (R D (some (.p (kH t))) b))=.ok (D.map λx=>T.tup [kH x.1,.int x.2]):=by have q:lu (eM (eN 0) (eM (eN 1) eP)) (vw (R D (some (.p (kH t))) b))=.ok (pX ((a::r).map kH) (Dz D)):=rfl;rw[q];congr 1;rw[j];exact wZ D _
  have s:i9 [none,none,some 2] (lu (eM (eN 0) (eM (eN 1) eP))) (nG 2 (gI (iM 0) (gI (iM 1) nI))) (gd (eY (eM (eN 2) (eM (eN 0) eP)) (lj c))) (kR c) (vw (R D (some (.p (kH t))) b))=.ok (((D.filter λx=>qY x.1 t).map (·.2)).map T.int):=pQ D (λx=>T.tup [kH x.1,.int x.2]) (λx=>T.int x.2) (λx=>qY x.1 t) w (by lia) (λx n=>⟨[some (kH x.1),some (.int x.2),some (kH t)],rfl,fV (lx rfl rfl (Kb t x.1 (y _ (by rw[j];exact az _ (aE.mpr ⟨x,n,rfl⟩))))),λ_=>rfl⟩) (by rw[aJ];rfl)
  have v:(r.take (i+1)).foldl lE [(a,1)]=lE D t:=by rw[cJ,u];simp[D]
  refine⟨_,_,rfl,.inl (eR (KB s (tM _) rfl) (rY (us:=Dz D) (t:=.int (-((D.filter λx=>qY x.1 t).map (·.2)).sum)) rfl ?_ (by unfold Dz;rw[ay];lia) rfl)),some (.p (kH t)),some (.p (.lst (((D.filter λx=>qY x.1 t).map (·.2)).map T.int))),?_⟩
  .exact Nj (kx rfl (Ar _))
  .rw[v];show _=[_,some (W.o (Dz (lE D t))),_,_];rw[E8];rfl)
 rw[aH,dO]at e;refine um rfl (eR (ρ':=R [(a,1)] none none) (l9 rfl rfl) (eR (md (its:=r.map kH) ?_ e) rfl));rw[qx (vL (ts:=(a::r).map kH) (d:=1) rfl rfl)];rfl
section
variable {d:Nat}{cs:LL}
def Lg{a b:Ky}(h:wg a b=true):b.1<=a.1:=by
 unfold wg sU ky at h;by_cases e:a.1=b.1
 .lia
 .rw[aS (by simp;lia)]at h;simp at h;lia
def Im{Z:List Ky}{x:jF}(h:x∈qi Z):x.1∈Z:=by rw[<-mY Z];exact aE.mpr ⟨x,h,rfl⟩
def EU(V:Vz d cs)(t:cs.length<=6){l:List Ky}(n:vz d cs cs.length l):Bv d cs (qi (gX l)):=by
 have g:(gX l).Perm l:=du l wg;refine⟨λx f=>?_,λy q=>?_,?_,(zQ _).1,(zQ _).2,?_⟩
 .obtain⟨p,e⟩:=(n.2 x.1).mp (g.mem_iff.mp (Im f));exact Cd V (kZ (by lia) (aL _) p) e
 .obtain⟨j,_,ok,_,s,_⟩:=q;have:y∈(qi (gX l)).map (·.1):=by
   rw[mY];refine g.mem_iff.mpr ((n.2 y).mpr ⟨λk=>decide (k∈j),?_⟩);rw[<-s];refine oI V (kZ (by lia) (aL _) _) ok λv=>?_;have m:∀z,z∈jg cs.length (λk=>decide (k∈j))↔z∈j:=λz=>by unfold jg;rw[aV,aT,decide_eq_true_iff];exact⟨λh=>h.2,λh=>⟨ok.1 z h,h⟩⟩
   unfold s9;constructor
   .intro h r hr;obtain⟨z,i,e⟩:=fg.mp hr;exact h r (fg.mpr ⟨z,(m z).mpr i,e⟩)
   .intro h r hr;obtain⟨z,i,e⟩:=fg.mp hr;exact h r (fg.mpr ⟨z,(m z).mp i,e⟩)
  obtain⟨x,f,e⟩:=aE.mp this;exact⟨x.2,by rw[<-e];exact f⟩
 .rw[mY];exact g.symm.nodup n.1
 .have h:=dw Ft Cg l;have o:(gX l).Pairwise λa b=>b.1<=a.1:=h.imp Lg;rw[<-mY (gX l),cN]at o;exact o
def GB(D:List jF):pX ((D.map (·.1)).map kH) (Dz D)=D.map λx=>T.tup [kH x.1,.int x.2]:=by have:=wZ D [];rw[bG]at this;exact this
end
def Pj(b:Bool):fM true (.bl b) (.bl b)=.ok (.bl false):=by cases b<;>rfl
def Gy{d:Nat}{cs:LL}(V:Vz d cs)(m:cs.length<=6):∃l,vz d cs cs.length l/\iI c [mm c d cs]=.ok (Dz (qi (gX l))):=by
 obtain⟨l,f,k⟩:=yY (c:=c) V m;have h:(gX l).Perm l:=du l wg;have b:∀g∈gX l,g.2.length<1000:=λg q=>by obtain⟨p,e⟩:=(f.2 g).mp (h.mem_iff.mp q);obtain⟨u,n,_,s,_⟩:=kL V (kZ (by lia) (aL _) p) e;rw[n,ay];lia
 have a:(gX l).length<64:=by rw[h.length_eq];exact sX V m f
 obtain⟨y,o,_⟩:=qK V;have j:y∈gX l:=h.mem_iff.mpr ((f.2 y).mpr ⟨λ_=>false,by
  have:jg cs.length (λ_=>false)=[]:=eJ.mpr λ_ _=>by simp
  rw[this];exact o⟩)
 cases i:gX l with
 |nil=>rw[i]at j;cases j
 |cons t r=>rw[i]at b a k;rw[aA]at a;refine⟨l,f,?_⟩;rw[i];exact um rfl (yb (pV (gz (pV rfl k)) (C5 t r (by lia) b)))
def fX{a:Type}:List a->(List a->Int)->Int
 |[],f=>f []
 |x::l,f=>fX l f+fX l λB=>f (x::B)
section
variable {α:Type}
theorem fS:∀{l:List α} {f g:List α->Int},(∀B,B.Sublist l->f B=g B)->fX l f=fX l g
 |[],f,g,h=>h [] (List.Sublist.refl _)
 |x::l,f,g,h=>by unfold fX;rw[fS λB a=>h B (a.cons x),fS (f:=λB=>f (x::B)) (g:=λB=>g (x::B)) λB a=>h (x::B) (a.cons₂ x)]
theorem kf:∀(l:List α),fX l (λ_=>0)=0
 |[]=>rfl
 |x::l=>by unfold fX;rw[kf l];rfl
theorem lM(s:Int):∀(l:List α) (f:List α->Int),fX l (λB=>s*f B)=s*fX l f
 |[],f=>rfl
 |x::l,f=>by unfold fX;rw[lM s l f,lM s l λB=>f (x::B),dH]
def l5(B:List α):Int:=if B.length % 2=0 then 1 else -1
def tw(x:α)(B:List α):l5 (x::B) = -l5 B:=by
 unfold l5;rw[aA];by_cases h:B.length % 2=0
 .rw[aR h,aS (by lia)]
 .rw[aS h,aR (by lia)];rfl
theorem BX{P:α->Bool}:∀{l:List α},(∃x∈l,P x=true)->fX l (λB=>if B.all P then l5 B else 0)=0
 |[],⟨_,h,_⟩=>(nomatch h)
 |y::l,⟨x,hx,px⟩=>by
  unfold fX;by_cases a:P y=true
  .have:fX l (λB=>if (y::B).all P then l5 (y::B) else 0)=fX l (λB=>(-1)*(if B.all P then l5 B else 0)):=fS λB _=>by rw[bP,a,Bool.true_and,tw];split<;>lia
   rw[this,lM];lia
  .have:fX l (λB=>if (y::B).all P then l5 (y::B) else 0)=0:=(fS λB _=>aS (by rw[bP];simp[a])).trans (kf l);rw[this];rcases aG.mp hx with q|q
   .subst q;exact absurd px a
   .rw[BX ⟨x,q,px⟩];rfl
theorem qA(D:List jF):∀(l:List α) (F:jF->List α->Int),sD D (λg=>fX l (F g))=fX l (λB=>sD D λg=>F g B)
 |[],F=>rfl
 |x::l,F=>by unfold fX;rw[Bt,qA D l F,qA D l λg B=>F g (x::B)]
end
section
variable {d:Nat}{cs:LL}
def qW(e:cs.length<=6){B:List Nat}(a:B.Sublist (List.range cs.length)):lq cs B:=⟨λz b=>aT.mp (a.subset b),by have:=a.length_le;rw[dY]at this;lia⟩
def DH(d:Nat)(cs:LL)(X:Ky):Int:=fX (List.range cs.length) λB=>if FL d cs B=some X then l5 B else 0
def Ci{b a:List Nat}{v:Vc}(h:∀z∈b,z∈a)(f:s9 (d+1) (fU cs a) v):s9 (d+1) (fU cs b) v:=λr hr=>by obtain⟨z,g,e⟩:=fg.mp hr;exact f r (fg.mpr ⟨z,h z g,e⟩)
def EL(V:Vz d cs)(q:cs.length<=6){X:Ky}(p:Mf d cs X){B:List Nat}(u:B.Sublist (List.range cs.length)):(∃g,FL d cs B=some g/\ES g X)↔B.all (λz=>decide ((z:Int)∈X.2))=true:=by
 obtain⟨w,l,ok,_,o,r⟩:=p;have IQ:=qW q u;rw[cy];constructor
 .rintro⟨g,e,t⟩ z f;obtain⟨s,i,m,_⟩:=kL V IQ e;refine aD (t _ ?_);rw[i];exact fW.mpr ((m z).mpr ⟨IQ.1 z f,λv a=>a _ (fg.mpr ⟨z,f,rfl⟩)⟩)
 .intro h;have sub:∀z∈B,z∈w:=λz f=>by have:=of_decide_eq_true (h z f);rw[l]at this;exact fW.mp this
  cases e:FL d cs B with
  |none=>rw[zi V IQ ok (λv a=>Ci sub a) e]at o;cases o
  |some g=>refine⟨g,rfl,λk n=>?_⟩;obtain⟨s,i,m,_⟩:=kL V IQ e;rw[i]at n;obtain⟨j,b,rfl⟩:=aE.mp n;rw[l];refine fW.mpr ((r j).mpr ⟨((m j).mp b).1,λv a=>((m j).mp b).2 v (Ci sub a)⟩)
def Bv.at_{D:List jF}(M:Bv d cs D)(V:Vz d cs)(a:cs.length<=6){B:List Nat}(b:B.Sublist (List.range cs.length)){g:Ky}(e:FL d cs B=some g):∃m,(g,m)∈D:=M.all g (Cd V (qW a b) e)
def HW(V:Vz d cs)(f:cs.length<=6){D:List jF}(M:Bv d cs D){X:Ky}(j:Mf d cs X):sD D (λg=>if qY g.1 X then DH d cs g.1 else 0)=fX (List.range cs.length) (λB=>if B.all (λz=>decide ((z:Int)∈X.2)) then l5 B else 0):=by
 have i:sD D (λg=>if qY g.1 X then DH d cs g.1 else 0)=sD D (λg=>fX (List.range cs.length) λB=>if qY g.1 X then (if FL d cs B=some g.1 then l5 B else 0) else 0):=nR λg _=>by
  unfold DH;cases qY g.1 X
  .simp only[bZ,if_false];exact (kf _).symm
  .rfl
 rw[i,qA];refine fS λB h=>?_;have b:=EL V f j h;cases e:FL d cs B with
 |none=>rw[aS (λz=>by obtain⟨g,q,_⟩:=b.mpr z;rw[e]at q;cases q)];exact lZ λg _=>by simp
 |some g=>
  obtain⟨m,k⟩:=M.at_ V f h e;rw[pK M.nd k λx _ ne=>by rw[aS (show ¬some g=some x.1 from λz=>ne (Option.some.inj z).symm)];simp]
  dsimp only;rw[aR rfl];by_cases a:qY g X=true
  .rw[aR a,aR (b.mp ⟨g,e,iP.mp a⟩)]
  .rw[aS a,aS (λz=>a (by obtain⟨n,q,l⟩:=b.mpr z;rw[e]at q;rw[Option.some.inj q];exact iP.mpr l))]
theorem ya(V:Vz d cs)(b:cs.length<=6){D:List jF}(M:Bv d cs D):∀(N:Nat) (t:jF),t∈D->(d:Int)-t.1.1<N->t.2=DH d cs t.1
 |0,t,ht,hN=>by obtain⟨ks,_,ok,_,fl,_⟩:=M.mf t ht;have:=(pR V ok fl).2;lia
 |N+1,t,ht,hN=>by
  have j:=M.mf t ht;have m:=HW V b M j;by_cases f:t.1.2=[]
  .have one:fX (List.range cs.length) (λB=>if B.all (λz=>decide ((z:Int)∈t.1.2)) then l5 B else 0)=1:=by
    rw[f];generalize List.range cs.length=l;induction l with
    |nil=>rfl
    |cons x l ih=>unfold fX;rw[ih];have:fX l (λB=>if (x::B).all (λz=>decide ((z:Int)∈([]:LI))) then l5 (x::B) else 0)=0:=(fS λB _=>aS (by simp)).trans (kf l);rw[this];rfl
   rw[one]at m;rw[M.head V b ht f,<-m];rw[pK M.nd ht λx h ne=>aS λz=>by
    have p:=iP.mp z;have:x.1≠t.1:=ne;have:=lX V b (M.mf x h) j p this;have v:x.1.2=[]:=by
     cases e:x.1.2 with
     |nil=>rfl
     |cons k r=>have:=p k (by rw[e];simp);rw[f]at this;cases this
    have u:=lX V b j (M.mf x h) (λk a=>by rw[f]at a;cases a) (Ne.symm ne);lia]
   rw[aR (iP.mpr λk a=>a)]
  .have q:=M.sum V b ht f;have s:fX (List.range cs.length) (λB=>if B.all (λz=>decide ((z:Int)∈t.1.2)) then l5 B else 0)=0:=by
    obtain⟨ks,o,ok,_,_,_⟩:=j;cases ks with
    |nil=>rw[o]at f;exact absurd rfl f
    |cons k r=>refine BX ⟨k,aT.mpr (ok.1 k (by simp)),aD ?_⟩;rw[o];exact fW.mpr (by simp)
   rw[s]at m;have n:sD D (λg=>(if qY g.1 t.1 then g.2 else 0)+(-1)*(if qY g.1 t.1 then DH d cs g.1 else 0))=0:=by rw[Bt,IL,q,m];rfl
   rw[pK M.nd ht λx h ne=>by
    by_cases i:qY x.1 t.1=true
    .have:=lX V b (M.mf x h) j (iP.mp i) ne;rw[aR i,aR i,ya V b M N x h (by lia)];lia
    .rw[aS i,aS i];rfl]at n
   rw[aR (iP.mpr λk a=>a),aR (iP.mpr λk a=>a)]at n;lia
end
def JY{f:Pe->M (List T)}{ρ:Pe}{ts:List T}(h:gH f ρ=.ok (.lst ts)):f ρ=.ok ts:=by
 unfold gH at h;cases e:f ρ with
 |bad=>rw[e]at h;cases h
 |er C n=>rw[e]at h;cases h
 |ok us=>rw[e]at h;cases h;rfl
section
variable {d:Nat}{cs:LL}
def IV(d:Nat)(cs:LL)(m:Int):Int:=fX (List.range cs.length) λB=>if (FL d cs B).map (·.1)=some m then l5 B else 0
def Oi(V:Vz d cs)(a:cs.length<=6){D:List jF}(M:Bv d cs D)(m:Int):sD D (λg=>if g.1.1=m then g.2 else 0)=IV d cs m:=by
 have b:sD D (λg=>if g.1.1=m then g.2 else 0)=sD D (λg=>fX (List.range cs.length) λB=>if g.1.1=m then (if FL d cs B=some g.1 then l5 B else 0) else 0):=nR λg j=>by
  have w:=ya V a M (((d:Int)-g.1.1).toNat+1) g j (by lia);by_cases h:g.1.1=m
  .simp only[aR h];rw[w];rfl
  .simp only[aS h];exact (kf _).symm
 rw[b,qA];unfold IV;refine fS λB i=>?_;cases e:FL d cs B with
 |none=>exact lZ λg _=>by simp
 |some g=>
  obtain⟨n,f⟩:=M.at_ V a i e;rw[pK M.nd f λx _ ne=>by rw[aS (show ¬some g=some x.1 from λz=>ne (Option.some.inj z).symm)];simp]
  dsimp only;rw[aR rfl];simp
def sC(V:Vz d cs)(w:cs.length<=6):je c [mm c d cs]=.ok ((List.range (d+1)).map λ(m:Nat)=>T.int (IV d cs (m:Int))):=by
 have sz:1000<sizeLine:=by decide
 have hd:=V.hd;obtain⟨l,B,Q⟩:=yY (c:=c) V w;have F:(gX l).Perm l:=du l wg;have s:∀g∈gX l,g.2.length<1000:=λg hg=>by obtain⟨p,e⟩:=(B.2 g).mp (F.mem_iff.mp hg);obtain⟨ks,S,_,hl,_⟩:=kL V (kZ (by lia) (aL _) p) e;rw[S,ay];lia
 have h:(gX l).length<64:=by rw[F.length_eq];exact sX V w B
 have M:=EU V w B;obtain⟨y,U,_⟩:=qK V;have K:y∈gX l:=F.mem_iff.mpr ((B.2 y).mpr ⟨λ_=>false,by
  have:jg cs.length (λ_=>false)=[]:=eJ.mpr λ_ _=>by simp
  rw[this];exact U⟩)
 have e2:fL c [.lst ((gX l).map kH)]=.ok (Dz (qi (gX l))):=by
  cases N:gX l with
  |nil=>rw[N]at K;cases K
  |cons t r=>rw[N]at s h;rw[aA]at h;exact C5 t r (by lia) s
 let D:=qi (gX l);have fD:D.map (·.1)=gX l:=mY _;have b:∀x∈D,0<=x.1.1/\x.1.1<=(d:Int):=λx P=>by obtain⟨ks,_,ok,_,Z,_⟩:=M.mf x P;exact pR V ok Z
 let a (A:List jF):List T:=(List.range (d+1)).map λ(m:Nat)=>T.int (sD A λg=>if g.1.1=(m:Int) then g.2 else 0);let R (A:List jF) (u n:Option W):En:=[some (.p (mm c d cs)),some (.o (a A)),some (.p (.lst ((gX l).map kH))),u,n];obtain⟨E,e,u,n,rfl⟩:=jr (m:=m3 2 (gU (ko 3) (gU (ko 4) mW))) (g:=se c) (λ(x:jF)=>T.tup [kH x.1,.int x.2]) (λk E=>∃u n,E=R (D.take k) u n) D 0 (R [] none none) ⟨none,none,rfl⟩ (by
  rintro i x E L ⟨u,n,rfl⟩;rw[aH]at *;obtain⟨b1,b2⟩:=b x (aw L);obtain⟨m,hm⟩:∃m:Nat,x.1.1=(m:Int):=⟨x.1.1.toNat,by lia⟩;have f:m<d+1:=by lia
  let v:Int:=sD (D.take i) λg=>if g.1.1=(m:Int) then g.2 else 0
  have X:gN (.lst (a (D.take i))) (.int x.1.1)=.ok (.int v):=by rw[hm];have:pW (a (D.take i)) (m:Int)=some (.int v):=w6 (by simp[a,f];rfl);simp only[gN,this]
  refine⟨R (D.take i) (some (.p (kH x.1))) (some (.p (.int x.2))),R (D.take (i+1)) (some (.p (kH x.1))) (some (.p (.int x.2))),rfl,.inl (BC (us:=a (D.take i)) (t:=.int (v+x.2)) (j:=x.1.1) (m:=m) rfl (eT (eT rfl rfl X) rfl rfl) rfl rfl (by rw[hm];exact xm _ m (by simp[a];exact f)) ?_),_,_,rfl⟩;show R _ _ _=[_,some (.o ((a (D.take i)).set m (.int (v+x.2)))),_,_,_];have:a (D.take (i+1))=(a (D.take i)).set m (.int (v+x.2)):=by
   refine cB (by simp[a]) λq Y h2=>?_;rw[List.getElem_set];simp only[a,dP,dZ];rw[ji D i x L,rL];have I:sD [x] (λg=>if g.1.1=(q:Int) then g.2 else 0)=if x.1.1=(q:Int) then x.2 else 0:=by rw[iO];simp[sD]
   rw[I];by_cases J:m=q
   .rw[aR J,aR (by lia),<-J]
   .rw[aS J,aS (by lia),dE]
  simp only[R];rw[this])
 rw[aH,dO]at e;have z:lu (eM (eN 2) (eM (gH (iq (eM (eN 2) eP) (fL c))) eP)) (kD (R [] none none))=.ok (D.map λx=>T.tup [kH x.1,.int x.2]):=by rw[<-GB,fD];have:gH (iq (eM (eN 2) eP) (fL c)) (kD (R [] none none))=.ok (.lst (Dz D)):=gz (pV rfl e2);simp only[lu,eM,eP,this,L3.M.bind_ok];rfl
 have I:a D=(List.range (d+1)).map λ(m:Nat)=>T.int (IV d cs (m:Int)):=cL λm _=>by rw[Oi V w M]
 rw[<-I];have H:(List.replicate (d+1) (0:Int)).map T.int=a []:=by refine cB (by simp[a]) λq Y h2=>?_;simp[a,sD]
 refine um rfl (eR (ρ':=[some (.p (mm c d cs)),some (.o (a [])),none,none,none]) (l9 ?_ rfl) (eR (ρ':=R [] none none) (fH (gz (pV rfl Q)) rfl) (eR (md z e) rfl)));rw[<-H];have C:eV fY (uJ c.Cutting "dims" (eN 0) eP (gw c)) (cM (.int 1)) (kD (f9 5 [mm c d cs]))=.ok (.int ((d+1:Nat):Int)):=eT (C2 d cs rfl) rfl (by rw[fZ];simp);have:=Lu (d+1) (by lia) C;exact JY this
end
def EG{m k:Nat}{f:Nat->Int}(a:k<m)(h:∀i,i≠k->f i=0):sm m f=f k:=by obtain⟨e,rfl⟩:∃e,m=e+1:=⟨m-1,by lia⟩;rw[LR e k f (by lia)];have:sm e (λi=>f (sk k i))=0:=(fJ _ _ (λ_=>0) λi _=>h _ (by unfold sk;split<;>lia)).trans (iS e);lia
def uj(m:Nat)(a:List Vc)(v:Vc):Prop:=∀r∈a,gE m r v=0
structure Fj(m:Nat)(os:List (Nat×Vc)):Prop where
 lt:∀p∈os,p.1<m/\p.2 p.1≠0
 tri:os.Pairwise λp q=>q.2 p.1=0
theorem N6{m:Nat}{v:Vc}:∀(n:Nat) (os:List (Nat×Vc)),os.length=n->Fj m os->(∀p∈os,gE m p.2 v=0)->(∀i,i∉os.map Prod.fst->v i=0)->∀p∈os,v p.1=0
 |0,os,hn,_,_,_=>λp a=>by have:os=[]:=d6.mp hn;subst this;cases a
 |n+1,os,hn,T,ha,out=>by
  rcases d7 os with rfl|⟨d,q,k⟩
  .cases hn
  .rw[d8]at k;subst k;have g:=dN.mp T.tri;have l:=T.lt q (by simp);have h:v q.1=0:=by
    have e:=ha q (by simp);unfold gE at e;rw[EG l.1 λi f=>by
     by_cases j:i∈d.map Prod.fst
     .obtain⟨p,a,rfl⟩:=aE.mp j;rw[g.2.2 p a q (by simp),dD]
     .rw[out i (by simp only[a9,bC,bW,ai,aj];exact λz=>z.elim j f),dI]]at e
    rcases dJ.mp e with z|z
    .exact absurd z l.2
    .exact z
   have o:=N6 n d (by simpa using hn) ⟨λp a=>T.lt p (by simp[a]),g.1⟩ (λp a=>ha p (by simp[a])) λi f=>by
    by_cases b:i=q.1
    .rw[b];exact h
    .exact out i (by simp only[a9,bC,bW,ai,aj];exact λz=>z.elim f b)
   intro p a;rcases ai.mp a with z|z
   .exact o p z
   .rw[aj.mp z];exact h
def Dw{m:Nat}{os:List (Nat×Vc)}(T:Fj m os)(g:List Vc)(l:∀v:Vc,(∀A∈g,gE m A v=0)->∀p∈os,gE m p.2 v=0):os.length<=g.length:=by
 refine bX λd=>?_;have nd:(os.map Prod.fst).Nodup:=by rw[List.Nodup,cN];exact T.tri.imp_of_mem λ{p q} _ hq e z=>(T.lt q hq).2 (by rw[<-z];exact e)
 obtain⟨v,⟨j,h⟩,a,i⟩:=mV m g (os.map Prod.fst) nd (λt k=>by obtain⟨p,b,rfl⟩:=aE.mp k;exact (T.lt p b).1) (by rw[ay];exact d)
 have z:=N6 os.length os rfl T (l v i) a;have f:j∈os.map Prod.fst:=aP λz=>h (a j z);obtain⟨p,b,rfl⟩:=aE.mp f;exact h (z p b)
def uv(m:Nat)(b:List Vc)(r:Nat):Prop:=∃a,Fj m a/\a.length=r/\∀v,uj m b v↔∀p∈a,gE m p.2 v=0
def uv.uniq{m:Nat}{i d:List Vc}{r j:Nat}(h:uv m i r)(h':uv m d j)(e:∀v,uj m i v↔uj m d v):r=j:=by
 obtain⟨g,T,rfl,a⟩:=h;obtain⟨b,o,rfl,l⟩:=h';have k:∀{g b:List (Nat×Vc)},Fj m g->(∀v,(∀p∈b,gE m p.2 v=0)->∀p∈g,gE m p.2 v=0)->g.length<=b.length:=λ{g b} T h=>by have:=Dw T (b.map Prod.snd) λv f=>h v λp n=>f _ (aE.mpr ⟨p,n,rfl⟩);rwa [ay]at this
 exact d9 (k T λv f=>(a v).mp ((e v).mpr ((l v).mpr f))) (k o λv f=>(l v).mp ((e v).mp ((a v).mpr f)))
def pB(u:Vc)(p:Nat)(r:Vc):Vc:=λi=>u p*r (sk p i)-r p*u (sk p i)
section
variable {d p:Nat}{u:Vc}
def rZ(a:p<=d)(x v:Vc):gE (d+1) x v=gE d (λi=>x (sk p i)) (λi=>v (sk p i))+x p*v p:=by unfold gE;rw[LR d p _ a]
def IG(a:p<=d)(r v:Vc):gE d (pB u p r) (λi=>v (sk p i))=u p*gE (d+1) r v-r p*gE (d+1) u v:=by
 rw[rZ a r v,rZ a u v];have:gE d (pB u p r) (λi=>v (sk p i))=u p*gE d (λi=>r (sk p i)) (λi=>v (sk p i))+(-(r p))*gE d (λi=>u (sk p i)) (λi=>v (sk p i)):=by unfold gE;rw[<-yo];exact fJ _ _ _ λi _=>by unfold pB;grind
 rw[this];grind
def yi(e:p<=d)(f:u p≠0)(B:List Vc)(v:Vc):uj (d+1) (u::B) v↔gE (d+1) u v=0/\uj d (B.map (pB u p)) (λi=>v (sk p i)):=by
 constructor
 .intro h;have a:=h u (by simp);refine⟨a,λr hr=>?_⟩;obtain⟨g,b,rfl⟩:=aE.mp hr;rw[IG e,a,h g (by simp[b])];lia
 .rintro⟨a,h⟩ r hr;rcases aG.mp hr with rfl|hr
  .exact a
  .have:=h _ (aE.mpr ⟨r,hr,rfl⟩);rw[IG e,a,dI,Int.sub_zero]at this;rcases dJ.mp this with z|z
   .exact absurd z f
   .exact z
def GP(p:Nat)(x:Vc):Vc:=λi=>if i=p then 0 else x (if i<p then i else i-1)
def yk(x:Vc)(i:Nat):GP p x (sk p i)=x i:=by
 unfold GP sk;by_cases h:i<p
 .rw[aR h,aS (by lia),aR h]
 .rw[aS h,aS (by lia),aS (by lia)];rfl
def L5(x:Vc):GP p x p=0:=aR rfl
def Hn(a:p<=d)(x v:Vc):gE (d+1) (GP p x) v=gE d x (λi=>v (sk p i)):=by rw[rZ a,L5,dD,dE];unfold gE;exact fJ _ _ _ λi _=>by dsimp only;rw[yk]
def qF(g:p<=d)(i:u p≠0){B:List Vc}{r:Nat}(h:uv d (B.map (pB u p)) r):uv (d+1) (u::B) (r+1):=by
 obtain⟨k,T,rfl,a⟩:=h;refine⟨(p,u)::k.map λq=>(sk p q.1,GP p q.2),⟨λq b=>?_,dm.mpr ⟨λq b=>?_,cN.mpr (T.tri.imp λ{x y} e=>?_)⟩⟩,by simp,λv=>?_⟩
 .rcases aG.mp b with rfl|b
  .exact⟨by lia,i⟩
  .obtain⟨q,f,rfl⟩:=aE.mp b;have:=T.lt q f;refine⟨?_,?_⟩
   .show sk p q.1<d+1;unfold sk;split<;>lia
   .show GP p q.2 (sk p q.1)≠0;rw[yk];exact this.2
 .obtain⟨q,b,rfl⟩:=aE.mp b;exact L5 _
 .show GP p y.2 (sk p x.1)=0;rw[yk];exact e
 .rw[yi g i,a];constructor
  .rintro⟨j,h⟩ q b;rcases aG.mp b with rfl|b
   .exact j
   .obtain⟨q,f,rfl⟩:=aE.mp b;show gE (d+1) (GP p q.2) v=0;rw[Hn g];exact h q f
  .intro h;refine⟨h (p,u) (by simp),λq b=>?_⟩;rw[<-Hn g];exact h (sk p q.1,GP p q.2) (bp _ (aE.mpr ⟨q,b,rfl⟩))
end
def nB{m:Nat}{u:Vc}(h:∀i,i<m->u i=0)(B:List Vc)(v:Vc):uj m (u::B) v↔uj m B v:=by
 have z:gE m u v=0:=(fJ _ _ (λ_=>0) λi a=>by rw[h i a,dD]).trans (iS m);exact⟨λq r hr=>q r (by simp[hr]),λq r hr=>by
  rcases aG.mp hr with rfl|hr
  .exact z
  .exact q r hr⟩
theorem kJ:∀(n m:Nat) (B:List Vc),B.length=n->∃r,r<=n/\uv m B r
 |0,m,B,hn=>by have:B=[]:=d6.mp hn;subst this;exact⟨0,aL _,[],⟨λ_ h=>(nomatch h),.nil⟩,rfl,λv=>⟨λ_ _ h=>(nomatch h),λ_ _ h=>(nomatch h)⟩⟩
 |n+1,m,B,hn=>by
  cases B with
  |nil=>cases hn
  |cons u B=>
   have b:B.length=n:=by simpa using hn
   by_cases h:∃p,p<m/\u p≠0
   .obtain⟨p,l,g⟩:=h;obtain⟨d,rfl⟩:∃d,m=d+1:=⟨m-1,by lia⟩;obtain⟨r,hr,k⟩:=kJ n d (B.map (pB u p)) (by simpa using b);exact⟨r+1,by lia,qF (by lia) g k⟩
   .obtain⟨r,hr,j,T,e,a⟩:=kJ n m B b;exact⟨r,by lia,j,T,e,λv=>(nB (λi f=>aP λz=>h ⟨i,f,z⟩) B v).trans (a v)⟩
def jJ(d:Nat)(B:List Vc):Prop:=∀v,uj (d+1) B v->v d=0
def om{d p:Nat}{u:Vc}(f:p<=d)(b:u p≠0)(B:List Vc):jJ (d+1) (u::B)↔jJ d (B.map (pB u p)):=by
 constructor
 .intro h w hw;let v:Vc:=λi=>if i=p then -(gE (d+1) (λi=>u (sk p i)) w) else u p*GP p w i
  have a:∀i,v (sk p i)=u p*w i:=λi=>by show (if sk p i=p then _ else u p*GP p w (sk p i))=_;rw[aS (by unfold sk;split<;>lia),yk]
  have j:v p = -(gE (d+1) (λi=>u (sk p i)) w):=aR rfl;have g:gE (d+1+1) u v=0:=by
   rw[rZ (show p<=d+1 by lia),j];have:gE (d+1) (λi=>u (sk p i)) (λi=>v (sk p i))=u p*gE (d+1) (λi=>u (sk p i)) w:=by unfold gE;rw[<-lC];exact fJ _ _ _ λi _=>by dsimp only;rw[a];grind
   rw[this];grind
  have:=h v ((yi (d:=d+1) (by lia) b B v).mpr ⟨g,λr hr=>by
   have e:gE (d+1) r (λi=>v (sk p i))=u p*gE (d+1) r w:=by unfold gE;rw[<-lC];exact fJ _ _ _ λi _=>by dsimp only;rw[a];grind
   rw[e,hw r hr,dI]⟩)
  rw[<-OV f,a]at this;rcases dJ.mp this with z|z
  .exact absurd z b
  .exact z
 .intro h v k;have:=h _ ((yi (d:=d+1) (by lia) b B v).mp k).2;rw[OV f]at this;exact this
def oK(d:Nat)(B:List Vc):Int:=@ite _ (jJ d B) (Classical.propDecidable _) 0 (@ite _ (∃r,uv (d+1) B r/\(B.length+r) % 2=0) (Classical.propDecidable _) 1 (-1))
def mr{d r:Nat}{B:List Vc}(h:¬jJ d B)(k:uv (d+1) B r):oK d B=if (B.length+r) % 2=0 then 1 else -1:=by
 unfold oK;rw[aS h];by_cases e:(B.length+r) % 2=0
 .rw[aR e,aR ⟨r,k,e⟩]
 .rw[aS e,aS];rintro⟨f,a,b⟩;rw[k.uniq a λ_=>Iff.rfl]at e;exact e b
def lS{d:Nat}{B:List Vc}(h:jJ d B):oK d B=0:=by unfold oK;rw[aR h]
def G2{d p:Nat}{u:Vc}(b:p<=d)(a:u p≠0)(B:List Vc):oK (d+1) (u::B)=oK d (B.map (pB u p)):=by
 by_cases h:jJ d (B.map (pB u p))
 .rw[lS h,lS ((om b a B).mpr h)]
 .obtain⟨r,_,k⟩:=kJ _ (d+1) (B.map (pB u p)) rfl;rw[mr h k,mr (λz=>h ((om b a B).mp z)) (qF (d:=d+1) (by lia) a k),aA,ay];have:(B.length+1+(r+1)) % 2=(B.length+r) % 2:=by lia
  rw[this]
def Ib{d:Nat}{u:Vc}(h:∀i,i<d+1->u i=0)(B:List Vc):oK d (u::B) = -oK d B:=by
 have f:jJ d (u::B)↔jJ d B:=⟨λq v b=>q v ((nB h B v).mpr b),λq v b=>q v ((nB h B v).mp b)⟩;by_cases z:jJ d B
 .rw[lS z,lS (f.mpr z)];rfl
 .obtain⟨r,_,g,T,e,a⟩:=kJ _ (d+1) B rfl;rw[mr z ⟨g,T,e,a⟩,mr (λq=>z (f.mp q)) ⟨g,T,e,λv=>(nB h B v).trans (a v)⟩,aA];by_cases q:(B.length+r) % 2=0
  .rw[aR q,aS (by lia)]
  .rw[aS q,aR (by lia)];rfl
def N8{d:Nat}{u:Vc}(h:∀i,i<d->u i=0)(f:u d≠0)(B:List Vc):oK d (u::B)=0:=lS λv a=>by
 have:=a u (by simp);unfold gE at this;have e:sm (d+1) (λi=>u i*v i)=u d*v d:=by rw[m4,(fJ _ _ (λ_=>0) λi b=>by rw[h i b,dD]),iS];lia
 rw[e]at this;rcases dJ.mp this with z|z
 .exact absurd z f
 .exact z
def IB{d:Nat}{B b:List Vc}(j:B.length=b.length)(e:∀v,uj (d+1) B v↔uj (d+1) b v):oK d B=oK d b:=by
 have h:jJ d B↔jJ d b:=⟨λq v f=>q v ((e v).mpr f),λq v f=>q v ((e v).mp f)⟩;by_cases z:jJ d B
 .rw[lS z,lS (h.mp z)]
 .obtain⟨r,_,i,T,g,a⟩:=kJ _ (d+1) B rfl;rw[mr z ⟨i,T,g,a⟩,mr (λq=>z (h.mpr q)) ⟨i,T,g,λv=>(e v).symm.trans (a v)⟩,j]
def nX(d:Nat)(us:List Vc):Int:=fX us (oK d)
theorem kr{a b:Type}(t:a->b):∀(l:List a) (F:List b->Int),fX l (λB=>F (B.map t))=fX (l.map t) F
 |[],F=>rfl
 |x::l,F=>by rw[bC];unfold fX;rw[kr t l F,<-kr t l λB=>F (t x::B)];rfl
def EI{d p:Nat}{u:Vc}(a:p<=d)(b:u p≠0)(us:List Vc):nX (d+1) (u::us)=nX (d+1) us+nX d (us.map (pB u p)):=by show fX us (oK (d+1))+fX us (λB=>oK (d+1) (u::B))=_;rw[fS (f:=λB=>oK (d+1) (u::B)) λB _=>G2 a b B,kr (pB u p) us (oK d)];rfl
def Ju{d:Nat}{u:Vc}(h:∀i,i<d->u i=0)(a:u d≠0)(us:List Vc):nX d (u::us)=nX d us:=by show fX us (oK d)+fX us (λB=>oK d (u::B))=_;rw[fS (f:=λB=>oK d (u::B)) (g:=λ_=>0) λB _=>N8 h a B,kf];exact dE _
theorem DG{d:Nat}{u:Vc}(h:∀i,i<d+1->u i=0):∀us:List Vc,u∈us->nX d us=0
 |us,hu=>by
  have a:∀(A C:List Vc),fX (A++u::C) (oK d)=0:=λA C=>by
   have b:∀(A:List Vc) (P:List Vc),fX (A++u::C) (λB=>oK d (P++B))=0:=by
    intro A;induction A with
    |nil=>
     intro P;show fX C (λB=>oK d (P++B))+fX C (λB=>oK d (P++u::B))=0;have:fX C (λB=>oK d (P++u::B))=fX C (λB=>(-1)*oK d (P++B)):=fS λB _=>by
      have e:oK d (P++u::B)=oK d (u::(P++B)):=IB (by simp;lia) λv=>by
       unfold uj;constructor
       .intro q r hr;exact q r (by simp at hr ⊢;rcases hr with z|z|z<;>simp[z])
       .intro q r hr;exact q r (by simp at hr ⊢;rcases hr with z|z|z<;>simp[z])
      rw[e,Ib h];lia
     rw[this,lM];lia
    |cons x A ih=>intro P;show fX (A++u::C) (λB=>oK d (P++B))+fX (A++u::C) (λB=>oK d (P++x::B))=0;rw[ih P];have:=ih (P++[x]);simp only[bT,List.singleton_append]at this;rw[this];rfl
   exact b A []
  obtain⟨A,C,rfl⟩:=eI hu;exact a A C
section
variable {d:Nat}{cs:LL}{B:List Nat}
def sM(cs:LL)(B:List Nat):List Vc:=B.map λz=>vc (cs.getD z [])
def Ho{m:Nat}{v:Vc}:uj m (sM cs B) v↔s9 m (fU cs B) v:=by
 unfold uj s9 sM fU;constructor
 .intro h r hr;obtain⟨z,a,rfl⟩:=aE.mp hr;exact h _ (aE.mpr ⟨z,a,rfl⟩)
 .intro h r hr;obtain⟨z,a,rfl⟩:=aE.mp hr;exact h _ (aE.mpr ⟨z,a,rfl⟩)
def tU(V:Vz d cs)(k:lq cs B)(h:FL d cs B=none):oK d (sM cs B)=0:=by
 obtain⟨pv,m,P,r,hr,b⟩:=tj V k h;refine lS λv j=>?_;have l:=Ho.mp j;obtain⟨n,g,f⟩:=P.rr r hr;have e:gE (d+1) (vc r) v=0:=gQ f λx ⟨r',hr',ex⟩=>by rw[ex];exact l r' hr'
 unfold gE at e;rw[m4,(fJ _ _ (λ_=>0) λi a=>by rw[g i a,dD]),iS,dF]at e;rcases dJ.mp e with z|z
 .exact absurd z b
 .exact z
def EV(V:Vz d cs)(S:lq cs B){g:Ky}(h:FL d cs B=some g):∃r:Nat,uv (d+1) (sM cs B) r/\¬jJ d (sM cs B)/\(r:Int)=(d:Int)-g.1:=by
 obtain⟨pv,K,f,P,_,Y,rfl⟩:=jE V S h;have E:∀r∈K,∀v:Vc,gE (d+1) (vc r) v=0:=λr hr v=>by obtain⟨rl,E,Z⟩:=P.rr r hr;unfold gE;rw[m4,(fJ _ _ (λ_=>0) λi C=>by rw[E i C,dD]),iS,Y r hr];lia
 have T:Fj (d+1) (pv.map λp=>(p.1,vc p.2)):=⟨λq w=>by obtain⟨p,l,rfl⟩:=aE.mp w;exact⟨by have:=(P.pl p l).1;lia,(P.pl p l).2.2.1⟩,cN.mpr (P.pw.imp λq=>q.2.1)⟩
 have A:∀v,uj (d+1) (sM cs B) v↔∀p∈pv.map (λp=>(p.1,vc p.2)),gE (d+1) p.2 v=0:=λv=>by
  rw[Ho];constructor
  .intro u q w;obtain⟨p,l,rfl⟩:=aE.mp w;exact gQ (P.pl p l).2.2.2.2 λx ⟨D,m,s⟩=>by rw[s];exact u D m
  .intro u r hr;refine gQ (P.sp r hr) λx L=>?_;rcases L with⟨p,l,s⟩|⟨D,m,s⟩
   .rw[s];exact u (p.1,vc p.2) (aE.mpr ⟨p,l,rfl⟩)
   .rw[s];exact E D m v
 have k:uv (d+1) (sM cs B) pv.length:=⟨_,T,by simp,A⟩;have Q:¬jJ d (sM cs B):=λC=>by
  have nd:((pv.map Prod.fst)++[d]).Nodup:=by
   refine eE.mpr ⟨?_,by simp,λa u b X e=>?_⟩
   .rw[List.Nodup,cN];exact P.pw.imp λq=>q.1
   .obtain⟨p,l,rfl⟩:=aE.mp u;rw[aj.mp X]at e;have:=(P.pl p l).1;lia
  obtain⟨v,⟨j,y⟩,n,N⟩:=mV (d+1) (pv.map λp=>vc p.2) ((pv.map Prod.fst)++[d]) nd (λt R=>by
   rcases ai.mp R with q|q
   .obtain⟨p,l,rfl⟩:=aE.mp q;have:=(P.pl p l).1;lia
   .rw[aj.mp q];lia) (by simp)
  have J:uj (d+1) (sM cs B) v:=(A v).mpr λq w=>by obtain⟨p,l,rfl⟩:=aE.mp w;exact N _ (aE.mpr ⟨p,l,rfl⟩)
  have I:=C v J;have U:=N6 _ (pv.map λp=>(p.1,vc p.2)) rfl T ((A v).mp J) λi H=>by
   by_cases kD:i=d
   .rw[kD];exact I
   .refine n i λq=>?_;rcases ai.mp q with q|q
    .refine H ?_;rw[aJ];exact q
    .exact kD (aj.mp q)
  by_cases o:j=d
  .rw[o]at y;exact y I
  .have F:j∈pv.map Prod.fst:=aP λz=>y (n j λq=>by
    rcases ai.mp q with q|q
    .exact z q
    .exact o (aj.mp q))
   obtain⟨p,l,rfl⟩:=aE.mp F;exact y (U (p.1,vc p.2) (aE.mpr ⟨p,l,rfl⟩))
 exact⟨pv.length,k,Q,by unfold IR;dsimp only;lia⟩
def LU(V:Vz d cs)(b:lq cs B){g:Ky}(h:FL d cs B=some g):∃(k:uv (d+1) (sM cs B) ((d:Int)-g.1).toNat),¬jJ d (sM cs B)/\((((d:Int)-g.1).toNat:Nat):Int)=(d:Int)-g.1:=by
 obtain⟨r,k,a,e⟩:=EV V b h;have:((d:Int)-g.1).toNat=r:=by lia
 rw[this];exact⟨k,a,e⟩
def Gv(V:Vz d cs)(l:lq cs B){g:Ky}(h:FL d cs B=some g):oK d (sM cs B)=sg d g*l5 B:=by
 obtain⟨r,k,i,e⟩:=EV V l h;rw[mr i k];have j:(sM cs B).length=B.length:=by simp[sM]
 rw[j];unfold sg l5;have f:((d:Int)-g.1) % 2=0↔r % 2=0:=by lia
 by_cases a:r % 2=0
 .rw[aR (f.mpr a)];by_cases b:B.length % 2=0
  .rw[aR b,aR (by lia)];rfl
  .rw[aS b,aS (by lia)];rfl
 .rw[aS λz=>a (f.mp z)];by_cases b:B.length % 2=0
  .rw[aR b,aS (by lia)];rfl
  .rw[aS b,aR (by lia)];rfl
def oE(cs:LL):(List.range cs.length).map (λz=>vc (cs.getD z []))=cs.map vc:=by
 refine cB (by simp) λi e a=>?_;have b:i<cs.length:=by simpa using a
 simp only[dP,dZ];rw[af,ag b];rfl
def Ks(V:Vz d cs)(a:cs.length<=6){D:List jF}(M:Bv d cs D):sD D (λg=>(g.2.natAbs:Int))=nX d (cs.map vc):=by
 have i:sD D (λg=>(g.2.natAbs:Int))=sD D (λg=>fX (List.range cs.length) λB=>sg d g.1*(if FL d cs B=some g.1 then l5 B else 0)):=nR λg f=>by
  have w:=ya V a M (((d:Int)-g.1.1).toNat+1) g f (by lia);have s:=yG V a M (((d:Int)-g.1.1).toNat+1) g f (by lia);rw[lM];show _=sg d g.1*DH d cs g.1;rw[<-w];unfold sg at s ⊢;split at s
  .rename_i h;rw[aR h];lia
  .rename_i h;rw[aS h];lia
 rw[i,qA];unfold nX;rw[<-oE,<-kr];refine fS λB b=>?_;have ok:=qW a b;cases e:FL d cs B with
 |none=>show _=oK d (sM cs B);rw[tU V ok e];exact lZ λg _=>by simp
 |some g=>
  show _=oK d (sM cs B);rw[Gv V ok e];obtain⟨n,j⟩:=M.at_ V a b e;rw[pK M.nd j λx _ ne=>by rw[aS (show ¬some g=some x.1 from λz=>ne (Option.some.inj z).symm)];lia]
  dsimp only;rw[aR rfl]
end
def vf{d:Nat}{cs:LL}(V:Vz d cs)(a:cs.length<=6):iJ c [mm c d cs]=.ok (.int (nX d (cs.map vc))):=by
 have sz:1000<sizeLine:=by decide
 obtain⟨l,b,f⟩:=Gy (c:=c) V a;have i:(gX l).Perm l:=du l wg;have e:(qi (gX l)).length<64:=by have:=congrArg List.length (mY (gX l));rw[ay,i.length_eq]at this;rw[this];exact sX V a b
 have h:i9 [none] (gR (gH (iq (eM (eN 0) eP) (iI c)))) (iM 0) (λ_=>.ok true) (lV c) (vw (f9 1 [mm c d cs]))=.ok (((qi (gX l)).map λg=>(g.2.natAbs:Int)).map T.int):=jx (qi (gX l)) (λg=>T.int g.2) (λg=>T.int (g.2.natAbs:Int)) (qx (gz (pV rfl f))) (by lia) (λg j=>⟨_,rfl,rfl,kx (t:=.int g.2) rfl (by simp[Os])⟩) (by rw[aJ];rfl)
 refine gP rfl (fO (qc h ?_));rw[Ar];congr 2;exact Ks V a (EU V a b)
def KI(d:Nat):oK d []=1:=by
 obtain⟨r,hr,k⟩:=kJ 0 (d+1) [] rfl;have a:¬jJ d []:=λh=>by have:=h (λ_=>1) λr hr=>nomatch hr;exact absurd this (by decide)
 rw[mr a k,aR (by simp;lia)]
def Es{e:Type}{l d:List e}(h:l.Perm d):∀{f:List e->Int},(∀B b,B.Perm b->f B=f b)->fX l f=fX d f:=by
 induction h with
 |nil=>exact λ_=>rfl
 |cons x _ ih=>intro f a;unfold fX;rw[ih a,ih (f:=λB=>f (x::B)) λB b i=>a _ _ (i.cons x)]
 |swap x y l=>intro f a;show (fX l f+fX l λB=>f (x::B))+(fX l (λB=>f (y::B))+fX l λB=>f (y::x::B))=(fX l f+fX l λB=>f (y::B))+(fX l (λB=>f (x::B))+fX l λB=>f (x::y::B));rw[fS (f:=λB=>f (y::x::B)) (g:=λB=>f (x::y::B)) λB _=>a _ _ (List.Perm.swap x y B)];lia
 |trans _ _ ih1 ih2=>intro f a;rw[ih1 a,ih2 a]
def Jy{m:Nat}{B a:List Vc}(h:B.Perm a)(v:Vc):uj m B v↔uj m a v:=⟨λq r hr=>q r (h.mem_iff.mpr hr),λq r hr=>q r (h.mem_iff.mp hr)⟩
def Hg{b:Type}{B a:List b}(h:B.Perm a):l5 B=l5 a:=by unfold l5;rw[h.length_eq]
def bD(d:Nat)(m:Int)(B:List Vc):Int:=@ite _ (¬jJ d B/\∃r:Nat,uv (d+1) B r/\(r:Int)=(d:Int)-m) (Classical.propDecidable _) 1 0
def Iy{d:Nat}{B b:List Vc}(e:∀v,uj (d+1) B v↔uj (d+1) b v):jJ d B↔jJ d b:=⟨λq v a=>q v ((e v).mpr a),λq v a=>q v ((e v).mp a)⟩
def B5{m r:Nat}{B b:List Vc}(e:∀v,uj m B v↔uj m b v)(k:uv m B r):uv m b r:=by obtain⟨f,T,d,a⟩:=k;exact⟨f,T,d,λv=>(e v).symm.trans (a v)⟩
def xT{d:Nat}{m:Int}{B a:List Vc}(e:∀v,uj (d+1) B v↔uj (d+1) a v):bD d m B=bD d m a:=by
 unfold bD;have:(¬jJ d B/\∃r:Nat,uv (d+1) B r/\(r:Int)=(d:Int)-m)↔(¬jJ d a/\∃r:Nat,uv (d+1) a r/\(r:Int)=(d:Int)-m):=by rw[Iy e];exact and_congr_right λ_=>⟨λ⟨r,k,h⟩=>⟨r,B5 e k,h⟩,λ⟨r,k,h⟩=>⟨r,B5 (λv=>(e v).symm) k,h⟩⟩
 by_cases h:¬jJ d B/\∃r:Nat,uv (d+1) B r/\(r:Int)=(d:Int)-m
 .rw[aR h,aR (this.mp h)]
 .rw[aS h,aS λz=>h (this.mpr z)]
def Gh{d r:Nat}{m:Int}{B:List Vc}(h:¬jJ d B)(k:uv (d+1) B r):bD d m B=if (r:Int)=(d:Int)-m then 1 else 0:=by
 unfold bD;by_cases e:(r:Int)=(d:Int)-m
 .rw[aR e,aR ⟨h,r,k,e⟩]
 .rw[aS e,aS];rintro⟨_,f,a,b⟩;rw[k.uniq a λ_=>Iff.rfl]at e;exact e b
def yy{d:Nat}{m:Int}{B:List Vc}(h:jJ d B):bD d m B=0:=by unfold bD;rw[aS λz=>z.1 h]
def K1{d p:Nat}{m:Int}{u:Vc}(b:p<=d)(a:u p≠0)(B:List Vc):bD (d+1) m (u::B)=bD d m (B.map (pB u p)):=by
 by_cases h:jJ d (B.map (pB u p))
 .rw[yy h,yy ((om b a B).mpr h)]
 .obtain⟨r,_,k⟩:=kJ _ (d+1) (B.map (pB u p)) rfl;rw[Gh h k,Gh (λz=>h ((om b a B).mp z)) (qF (d:=d+1) (by lia) a k)];by_cases e:(r:Int)=(d:Int)-m
  .rw[aR e,aR (by lia)]
  .rw[aS e,aS (by lia)]
def wD(d:Nat)(m:Int)(us:List Vc):Int:=fX us λB=>bD d m B*l5 B
def K8{d:Nat}{m:Int}{us a:List Vc}(h:us.Perm a):wD d m us=wD d m a:=Es h λ_ _ b=>by rw[xT (Jy b),Hg b]
def B9{d p:Nat}{m:Int}{u:Vc}(a:p<=d)(b:u p≠0)(us:List Vc):wD (d+1) m (u::us)=wD (d+1) m us-wD d m (us.map (pB u p)):=by
 show fX us (λB=>bD (d+1) m B*l5 B)+fX us (λB=>bD (d+1) m (u::B)*l5 (u::B))=_;have:fX us (λB=>bD (d+1) m (u::B)*l5 (u::B))=fX us (λB=>(-1)*(bD d m (B.map (pB u p))*l5 (B.map (pB u p)))):=fS λB _=>by
  have e:l5 (B.map (pB u p))=l5 B:=by unfold l5;rw[ay]
  rw[K1 a b,tw,e];lia
 rw[this,lM,kr (pB u p) us λB=>bD d m B*l5 B];unfold wD;lia
def AR{d:Nat}{u:Vc}(h:∀i,i<d->u i=0)(f:u d≠0)(B:List Vc):jJ d (u::B):=λv a=>by
 have:=a u (by simp);unfold gE at this;have e:sm (d+1) (λi=>u i*v i)=u d*v d:=by rw[m4,(fJ _ _ (λ_=>0) λi b=>by rw[h i b,dD]),iS];lia
 rw[e]at this;rcases dJ.mp this with z|z
 .exact absurd z f
 .exact z
def LZ{d:Nat}{m:Int}{u:Vc}(h:∀i,i<d->u i=0)(a:u d≠0)(us:List Vc):wD d m (u::us)=wD d m us:=by show fX us (λB=>bD d m B*l5 B)+fX us (λB=>bD d m (u::B)*l5 (u::B))=_;rw[fS (f:=λB=>bD d m (u::B)*l5 (u::B)) (g:=λ_=>0) λB _=>by rw[yy (AR h a B),dD],kf];exact dE _
section
variable {d:Nat}{cs:LL}
def FU(V:Vz d cs)(j:cs.length<=6)(m:Int):IV d cs m=wD d m (cs.map vc):=by
 unfold IV wD;rw[<-oE,<-kr];refine fS λB l=>?_;have ok:=qW j l;have f:l5 (B.map λz=>vc (cs.getD z []))=l5 B:=by unfold l5;rw[ay]
 rw[f];show _=bD d m (sM cs B)*l5 B;cases e:FL d cs B with
 |none=>
  rw[aS (λz=>nomatch z)];have a:=tU V ok e;have i:jJ d (sM cs B):=aP λz=>by obtain⟨r,_,k⟩:=kJ _ (d+1) (sM cs B) rfl;rw[mr z k]at a;split at a<;>cases a
  rw[yy i,dD]
 |some g=>
  obtain⟨k,b,n⟩:=LU V ok e;rw[Gh b k];by_cases h:g.1=m
  .rw[aR (by simp[h]),aR (by lia),dC]
  .rw[aS (by simp[h]),aS (by lia),dD]
end
def Ch:Nat->Nat->Nat
 |0,_=>1
 |_+1,0=>1
 |n+1,d+1=>Ch n (d+1)+Ch n d
theorem AV:∀n d,1<=Ch n d
 |0,_=>aL 1
 |_+1,0=>aL 1
 |n+1,d+1=>aO (AV n (d+1)) (ck _ _)
theorem Je:∀n,Ch n 0=1
 |0=>rfl
 |_+1=>rfl
def IQ(d:Nat)(B:List Vc):Prop:=(B.length<=d->¬jJ d B/\uv (d+1) B B.length)/\(B.length=d+1->jJ d B)
def Pl(d:Nat)(us:List Vc):Prop:=∀B,B.Sublist us->IQ d B
section
variable {d p:Nat}{u:Vc}{us:List Vc}
def An(i:p<=d)(f:u p≠0)(B:List Vc):IQ (d+1) (u::B)↔IQ d (B.map (pB u p)):=by
 have j:uv (d+1+1) (u::B) (B.length+1)↔uv (d+1) (B.map (pB u p)) B.length:=by
  constructor
  .intro k;obtain⟨r,_,g⟩:=kJ _ (d+1) (B.map (pB u p)) rfl;have e:=k.uniq (qF (d:=d+1) (by lia) f g) λ_=>Iff.rfl;rw[show B.length=r by lia];exact g
  .intro k;exact qF (d:=d+1) (by lia) f k
 unfold IQ;rw[aA,ay,om i f,j];constructor
 .rintro⟨a,b⟩;exact⟨λh=>a (by lia),λh=>b (by lia)⟩
 .rintro⟨a,b⟩;exact⟨λh=>a (by lia),λh=>b (by lia)⟩
def Lr(e:p<=d)(f:u p≠0):Pl (d+1) (u::us)↔Pl (d+1) us/\Pl d (us.map (pB u p)):=by
 constructor
 .intro h;refine⟨λB a=>h B (a.cons u),λB a=>?_⟩;obtain⟨C,b,rfl⟩:=eK.mp a;exact (An e f C).mp (h _ (b.cons₂ u))
 .rintro⟨g,i⟩ B a;rcases eL.mp a with h|⟨C,rfl,b⟩
  .exact g B h
  .exact (An e f C).mpr (i _ (b.map _))
def Js{m:Nat}(h:∀i,i<m->u i=0):¬uv m [u] 1:=λk=>by obtain⟨r,hr,a⟩:=kJ 0 m [] rfl;have:=k.uniq a (nB h []);lia
def HC(h:∀i,i<d+1->u i=0):¬jJ d [u]:=λa=>by have:=a (λ_=>1) ((nB h [] _).mpr λr hr=>nomatch hr);exact absurd this (by decide)
end
theorem xn:∀(n d:Nat) (us:List Vc),us.length=n->0<=nX d us/\nX d us<=(Ch n d:Int)/\(nX d us=(Ch n d:Int)↔Pl d us)
 |0,d,us,a=>by
  have:us=[]:=d6.mp a;subst this;have e:nX d []=1:=KI d;rw[e];refine⟨by decide,eG _,λ_ B b=>?_,λ_=>rfl⟩;have:B=[]:=List.sublist_nil.mp b;subst this;obtain⟨r,hr,k⟩:=kJ 0 (d+1) [] rfl;have hr:r=0:=by lia
  subst hr;exact⟨λ_=>⟨λf=>absurd (f (λ_=>1) λr hr=>nomatch hr) (by decide),k⟩,λh=>by simp at h⟩
 |n+1,d,us,a=>by
  cases us with
  |nil=>cases a
  |cons u us=>
   have a:us.length=n:=by simpa using a
   by_cases s:∃p,p<d/\u p≠0
   .obtain⟨p,A,t⟩:=s;obtain⟨e,rfl⟩:∃e,d=e+1:=⟨d-1,by lia⟩;obtain⟨m,v,l⟩:=xn n (e+1) us a;obtain⟨E,F,x⟩:=xn n e (us.map (pB u p)) (by simpa using a);rw[EI (by lia) t,Lr (by lia) t,<-l,<-x];show _/\_<=((Ch n (e+1)+Ch n e:Nat):Int)/\(_=((Ch n (e+1)+Ch n e:Nat):Int)↔_);lia
   .have g:∀i,i<d->u i=0:=λi f=>aP λz=>s ⟨i,f,z⟩;have w:=AV (n+1) d;by_cases j:u d=0
    .have z:∀i,i<d+1->u i=0:=λi f=>by
      by_cases e:i=d
      .rw[e];exact j
      .exact g i (by lia)
     rw[DG z _ (bj ..)];refine⟨eG 0,by lia,λh=>by lia,λh=>?_⟩;have o:=h [u] ((List.nil_sublist us).cons₂ u);cases d with
     |zero=>exact absurd (o.2 rfl) (HC z)
     |succ e=>exact absurd (o.1 (by simp)).2 (Js z)
    .obtain⟨m,v,l⟩:=xn n d us a;rw[Ju g j];cases d with
     |zero=>
      rw[Je]at *;refine⟨m,v,l.trans ⟨λh B b=>?_,λh B b=>h B (b.cons u)⟩⟩;rcases eL.mp b with q|⟨C,rfl,D⟩
      .exact h B q
      .exact⟨λq=>by simp at q,λ_=>AR g j C⟩
     |succ e=>have y:=AV n e;show _/\_<=((Ch n (e+1)+Ch n e:Nat):Int)/\(_=((Ch n (e+1)+Ch n e:Nat):Int)↔_);refine⟨m,by lia,λh=>by lia,λh=>?_⟩;exact absurd (AR g j []) ((h [u] ((List.nil_sublist us).cons₂ u)).1 (by simp)).1
def Ac(d:Nat)(t:Nat->Int)(w:Vc):Vc:=λi=>if i=d then w d+sm d (λj=>w j*t j) else w i
def nA{d i:Nat}{t:Nat->Int}{w:Vc}(h:i≠d):Ac d t w i=w i:=aS h
def CT{d:Nat}{t:Nat->Int}{w:Vc}:Ac d t w d=w d+sm d (λj=>w j*t j):=aR rfl
def OY{e p:Nat}{t:Nat->Int}{u:Vc}(b:p<=e)(w:Vc):pB (Ac (e+1) t u) p (Ac (e+1) t w)=Ac e (λi=>t (sk p i)) (pB u p w):=by
 funext i;have d:p≠e+1:=by lia
 show Ac (e+1) t u p*Ac (e+1) t w (sk p i)-Ac (e+1) t w p*Ac (e+1) t u (sk p i)=_;rw[nA d,nA d];by_cases f:i=e
 .subst f;have a:sk p i=i+1:=by unfold sk;rw[aS (by lia)]
  rw[a,CT,CT,CT];have g:=rZ b w t;have h:=rZ b u t;have k:sm i (λj=>pB u p w j*t (sk p j))=u p*sm i (λj=>w (sk p j)*t (sk p j))-w p*sm i (λj=>u (sk p j)*t (sk p j)):=by
   have:sm i (λj=>pB u p w j*t (sk p j))+w p*sm i (λj=>u (sk p j)*t (sk p j))=u p*sm i (λj=>w (sk p j)*t (sk p j)):=by rw[<-lC,<-lC,<-Mv];exact fJ _ _ _ λj _=>by unfold pB;grind
   lia
  unfold gE at g h;rw[g,h,k];unfold pB;rw[a];grind
 .have a:sk p i≠e+1:=by unfold sk;split<;>lia
  rw[nA a,nA a,nA f];rfl
def Cy{d:Nat}{m:Int}{u:Vc}(h:∀i,i<d+1->u i=0)(us:List Vc):wD d m (u::us)=0:=by show fX us (λB=>bD d m B*l5 B)+fX us (λB=>bD d m (u::B)*l5 (u::B))=0;rw[fS (f:=λB=>bD d m (u::B)*l5 (u::B)) (g:=λB=>(-1)*(bD d m B*l5 B)) λB _=>by rw[xT (nB h B),tw];lia,lM];lia
theorem Fk{m:Int}:∀(n d:Nat) (t:Nat->Int) (us:List Vc),us.length=n->wD d m (us.map (Ac d t))=wD d m us
 |0,d,t,us,a=>by have:us=[]:=d6.mp a;subst this;rfl
 |n+1,d,t,us,a=>by
  cases us with
  |nil=>cases a
  |cons u us=>
   have a:us.length=n:=by simpa using a
   have k:=Fk (m:=m) n d t us a;rw[bC];by_cases l:∃p,p<d/\u p≠0
   .obtain⟨p,v,o⟩:=l;obtain⟨e,rfl⟩:∃e,d=e+1:=⟨d-1,by lia⟩;have j:Ac (e+1) t u p≠0:=by rw[nA (by lia)];exact o
    have h:=Fk (m:=m) n e (λi=>t (sk p i)) (us.map (pB u p)) (by simpa using a);rw[B9 (by lia) o,B9 (by lia) j,k,<-h,aJ,aJ];congr 2;exact cL λw _=>OY (by lia) w
   .have f:∀i,i<d->u i=0:=λi b=>aP λz=>l ⟨i,b,z⟩;have r:∀i,i<d->Ac d t u i=0:=λi b=>by rw[nA (by lia)];exact f i b
    have s:Ac d t u d=u d:=by rw[CT,(fJ _ _ (λ_=>0) λi b=>by rw[f i b,dD]),iS];lia
    by_cases g:u d=0
    .have q:∀{x:Vc},(∀i,i<d->x i=0)->x d=0->∀i,i<d+1->x i=0:=λ{x} h1 h2 i b=>by
      by_cases e:i=d
      .rw[e];exact h2
      .exact h1 i (by lia)
     rw[Cy (q f g),Cy (q r (by rw[s];exact g))]
    .rw[LZ f g,LZ r (by rw[s];exact g),k]
def KM{g:Type}{d:Nat}{m:Int}(l:List g)(a b:g->Vc)(h:∀w∈l,∃k:Int,k≠0/\∀i,a w i=k*b w i):wD d m (l.map a)=wD d m (l.map b):=by
 unfold wD;rw[<-kr,<-kr];refine fS λB o=>?_;have j:l5 (B.map a)=l5 (B.map b):=by unfold l5;rw[ay,ay]
 rw[j];congr 1;refine xT λv=>?_;have f:∀w∈B,(gE (d+1) (a w) v=0↔gE (d+1) (b w) v=0):=λw hw=>by
  obtain⟨k,n,e⟩:=h w (o.subset hw);have:gE (d+1) (a w) v=k*gE (d+1) (b w) v:=by unfold gE;rw[<-lC];exact fJ _ _ _ λi _=>by rw[e i,cV]
  rw[this];exact⟨λz=>(dJ.mp z).resolve_left n,λz=>by rw[z,dI]⟩
 constructor
 .intro q r hr;obtain⟨w,hw,rfl⟩:=aE.mp hr;exact (f w hw).mp (q _ (aE.mpr ⟨w,hw,rfl⟩))
 .intro q r hr;obtain⟨w,hw,rfl⟩:=aE.mp hr;exact (f w hw).mpr (q _ (aE.mpr ⟨w,hw,rfl⟩))
def Ms(a b:Int)(h:a=b):fM true (.int a) (.int b)=.ok (.bl false):=by rw[mZ,h];simp
def Bg(n d:Nat)(e:n<=6)(f:1<=d/\d<=3):jC c [.int (n:Int),.int (d:Int)]=.ok (.int (Ch n d:Int)):=by
 have b:d=1\/d=2\/d=3:=by lia
 have a:n=0\/n=1\/n=2\/n=3\/n=4\/n=5\/n=6:=by lia
 rcases a with rfl|rfl|rfl|rfl|rfl|rfl|rfl<;>rcases b with rfl|rfl|rfl<;>rfl
def OF(d:Nat)(a:List Nat)(o:Option Ky):Bool:=(!decide (a.length<=d)||(match o with|some g=>decide (g.1=(d:Int)-a.length)|none=>false))&&(!decide (a.length=d+1)||o.isNone)
section
variable {d:Nat}{cs:LL}
def GJ(V:Vz d cs){B:List Nat}(ok:lq cs B)(e:FL d cs B=none):jJ d (sM cs B):=aP λz=>by have a:=tU V ok e;obtain⟨r,_,k⟩:=kJ _ (d+1) (sM cs B) rfl;rw[mr z k]at a;split at a<;>cases a
def HF(V:Vz d cs){B:List Nat}(ok:lq cs B):OF d B (FL d cs B)=true↔IQ d (sM cs B):=by
 have l:(sM cs B).length=B.length:=by simp[sM]
 unfold OF IQ;rw[l];cases e:FL d cs B with
 |none=>have j:=GJ V ok e;simp[j]
 |some g=>
  obtain⟨k,f,n⟩:=LU V ok e;have i:uv (d+1) (sM cs B) B.length↔g.1=(d:Int)-B.length:=by
   constructor
   .intro m;have:=m.uniq k λ_=>Iff.rfl;lia
   .intro h;have:B.length=((d:Int)-g.1).toNat:=by lia
    rw[this];exact k
  rw[i];simp only[f,not_false_eq_true,true_and,Option.isNone_some,Bool.or_false,bN,Bool.or_eq_true,dq,decide_eq_false_iff_not,decide_eq_true_eq];constructor
  .rintro⟨a,b⟩;exact⟨λh=>a.resolve_left λz=>z h,λh=>absurd h b⟩
  .rintro⟨a,b⟩;refine⟨?_,λh=>b h⟩;by_cases h:B.length<=d
   .exact .inr (a h)
   .exact .inl h
def Bp{f:Type}[DecidableEq f]{B l:List f}(h:B.Sublist l):l.Nodup->B=l.filter λz=>decide (z∈B):=by
 induction h with
 |slnil=>exact λ_=>rfl
 |@cons l₁ l₂ a h ih=>intro nd;obtain⟨b,e⟩:=bI.mp nd;rw[List.filter_cons_of_neg (by simpa using λz=>b (h.subset z))];exact ih e
 |@cons_cons l₁ l₂ a h ih=>
  intro nd;obtain⟨b,e⟩:=bI.mp nd;rw[List.filter_cons_of_pos (by simp)];congr 1;rw[ei (q:=λz=>decide (z∈l₁)) λx g=>by have:x≠a:=λz=>b (z▸g);simp[this]]
  exact ih e
def ND(V:Vz d cs)(j:cs.length<=6):((List.range (2 ^ cs.length)).all λb=>OF d (jg cs.length (oY b)) (FL d cs (jg cs.length (oY b))))=true↔Pl d (cs.map vc):=by
 rw[cy];constructor
 .intro h B f;rw[<-oE]at f;obtain⟨Z,a,rfl⟩:=eK.mp f;obtain⟨b,i,g⟩:=yV cs.length λz=>decide (z∈Z);have e:jg cs.length (oY b)=Z:=(lG g).trans (Bp a List.nodup_range).symm;have:=h b (aT.mpr i);rw[e]at this;exact (HF V (qW j a)).mp this
 .intro h b _;have ok:=kZ (cs:=cs) (by lia) (aL _) (oY b);refine (HF V ok).mpr (h _ ?_);rw[<-oE];exact (List.filter_sublist (l:=List.range cs.length)).map _
def HD(V:Vz d cs)(C:pN d 30 cs)(N:cs.length<=6):∃b:Bool,jM c [.int (d:Int),.lst (cs.map tI)]=.ok (.bl b)/\(b=true↔Pl d (cs.map vc)):=by
 have sz:1000<sizeLine:=by decide
 have Y:2 ^ cs.length<=2 ^ 6:=c9 (by decide) N;have J:Gf (.int 1) (.int (cs.length:Int))=.ok (.int ((2 ^ cs.length:Nat):Int)):=by
  have n:(cs.length:Int)<=1000000:=by lia
  simp[Gf,iW,n]
 let R (E B w:Option W):En:=[some (.p (.int (d:Int))),some (.p (.lst (cs.map tI))),E,B,w];let P (b:Nat):Bool:=OF d (jg cs.length (oY b)) (FL d cs (jg cs.length (oY b)));obtain⟨X,s2⟩:=nu (m:=ko 2) (g:=nC c) (λ(b:Nat)=>T.int (b:Int)) (λK=>∃E B w,K=R E B w) P (.bl false) (List.range (2 ^ cs.length)) (R none none none) ⟨_,_,_,rfl⟩ (by
  rintro b-K ⟨E,B,w,rfl⟩;let a:=jg cs.length (oY b);have ok:lq cs a:=kZ (by lia) (aL _) (oY b);let o:=FL d cs a;have H:jW c [.int (d:Int),.lst (cs.map tI),.lst (a.map mI)]=.ok (vU o):=M9 (c:=c) V C ok rfl;let v:=R (some (.p (.int (b:Int)))) B w;let I:=R (some (.p (.int (b:Int)))) (some (.p (.lst (a.map mI)))) w;let j:=R (some (.p (.int (b:Int)))) (some (.p (.lst (a.map mI)))) (some (.p (vU o)));have S:i9 [none,some 2] (ig (eM (iN gZ (eM (eN 1) eP)) eP)) (iM 0) (gd (eV (fM false) (eV Aj (eV GZ (eN 1) (eN 0)) (cM (.int 1))) (cM (.int 1)))) (qJ c) (kD v)=.ok (a.map mI):=pQ (List.range cs.length) mI mI (oY b) (mx cs.length (by lia) (kx (t:=.lst (cs.map tI)) rfl (by simp))) (by simp;lia) (λk hk=>⟨_,rfl,fV (eT (eT (eT rfl rfl (Kq (b:Int) k)) rfl (Iz _ _)) rfl (gC _ _)),λ_=>rfl⟩) rfl
  have D:iN gZ (eM (eN 3) eP) (vw j)=.ok (.int (a.length:Int)):=kx (t:=.lst (a.map mI)) rfl (by simp);have l:gd (eV Mo (iN gZ (eM (eN 3) eP)) (eN 0)) (vw j)=.ok (decide (a.length<=d)):=by refine fV (eT D rfl ?_);show M.ok (T.bl (decide ((a.length:Int)<=(d:Int))))=_;congr 2;exact decide_eq_decide.mpr (by lia)
  have q:gd (eV (fM false) (iN gZ (eM (eN 3) eP)) (eV fY (eN 0) (cM (.int 1)))) (vw j)=.ok (decide (a.length=d+1)):=by refine fV (eT D (eT rfl rfl (fZ _ _)) ?_);rw[gC];congr 2;rw[ee];simp;lia
  have go:∀{r:O},_=r->nC c v=r:=λ{r} h=>eR (ρ':=I) (fH (gz S) rfl) (eR (ρ':=j) (fH (j5 rfl rfl rfl H) rfl) h);refine⟨v,rfl,λf=>⟨j,?_,_,_,_,rfl⟩,λf=>?_⟩;all_goals
   replace f:OF d a o=_:=f
   unfold OF at f
   refine go ?_
  .cases eo:o with
   |none=>
    rw[eo]at f;have n:¬a.length<=d:=λz=>by simp[z]at f
    rw[aC n]at l;refine eR (gj (m5 l) rfl) (eR (gj (m5 l) rfl) (gj ?_ rfl));have i:gd (eV (qO true) (eN 4) (cM .non)) (vw j)=.ok false:=by show gd (eV (qO true) (eN 4) (cM .non)) (vw (R _ _ (some (.p (vU o)))))=_;rw[eo];rfl
    cases u:decide (a.length=d+1) with
    |true=>rw[u]at q;exact mC q i
    |false=>rw[u]at q;exact m5 q
   |some g=>
    rw[eo]at f;have F:gd (eV (qO false) (eN 4) (cM .non)) (vw j)=.ok false:=by show gd (eV (qO false) (eN 4) (cM .non)) (vw (R _ _ (some (.p (vU o)))))=_;rw[eo];rfl
    have A:decide (a.length=d+1)=false:=by
     cases u:decide (a.length=d+1) with
     |true=>rw[u]at f;simp at f
     |false=>rfl
    rw[A]at q;cases n:decide (a.length<=d) with
    |false=>rw[n]at l;exact eR (gj (m5 l) rfl) (eR (gj (m5 l) rfl) (gj (m5 q) rfl))
    |true=>
     rw[n]at l f;have Z:g.1=(d:Int)-a.length:=by simpa[A] using f
     refine eR (gj (mC l F) rfl) (eR (gj (mC l (fV (eT (x:=.int g.1) ?_ (eT rfl D (mU _ _)) (Ms _ _ Z)))) rfl) (gj (m5 q) rfl));refine eT (x:=kH g) (y:=.int 0) ?_ rfl rfl;show eN 4 (vw (R _ _ (some (.p (vU o)))))=_;rw[eo];rfl
  .cases eo:o with
   |none=>
    rw[eo]at f;cases n:decide (a.length<=d) with
    |true=>rw[n]at l;refine jG (hV (mC l ?_) (fO rfl)) rfl;show gd (eV (qO false) (eN 4) (cM .non)) (vw (R _ _ (some (.p (vU o)))))=_;rw[eo];rfl
    |false=>rw[n]at f;simp at f
   |some g=>
    rw[eo]at f;have F:gd (eV (qO false) (eN 4) (cM .non)) (vw j)=.ok false:=by show gd (eV (qO false) (eN 4) (cM .non)) (vw (R _ _ (some (.p (vU o)))))=_;rw[eo];rfl
    have Q:gd (eV (qO true) (eN 4) (cM .non)) (vw j)=.ok true:=by show gd (eV (qO true) (eN 4) (cM .non)) (vw (R _ _ (some (.p (vU o)))))=_;rw[eo];rfl
    have U:eV gN (eN 4) (cM (.int 0)) (vw j)=.ok (.int g.1):=by refine eT (x:=kH g) (y:=.int 0) ?_ rfl rfl;show eN 4 (vw (R _ _ (some (.p (vU o)))))=_;rw[eo];rfl
    have s:gd (eV (fM true) (eV gN (eN 4) (cM (.int 0))) (eV oV (eN 0) (iN gZ (eM (eN 3) eP)))) (vw j)=.ok (!decide (g.1=(d:Int)-a.length)):=by refine fV (eT U (eT rfl D (mU _ _)) ?_);rw[mZ];congr 3
    cases n:decide (a.length<=d) with
    |true=>
     rw[n]at l f;cases u:decide (g.1=(d:Int)-a.length) with
     |false=>rw[u]at s;exact eR (gj (mC l F) rfl) (jG (hV (mC l s) (fO rfl)) rfl)
     |true=>
      rw[u]at s;dsimp only at f;rw[u]at f;have A:decide (a.length=d+1)=true:=by
       cases C:decide (a.length=d+1) with
       |true=>rfl
       |false=>rw[C]at f;simp at f
      rw[A]at q;exact eR (gj (mC l F) rfl) (eR (gj (mC l s) rfl) (hV (mC q Q) (fO rfl)))
    |false=>
     rw[n]at l f;have A:decide (a.length=d+1)=true:=by
      cases C:decide (a.length=d+1) with
      |true=>rfl
      |false=>rw[C]at f;simp at f
     rw[A]at q;exact eR (gj (m5 l) rfl) (eR (gj (m5 l) rfl) (hV (mC q Q) (fO rfl))))
 refine⟨(List.range (2 ^ cs.length)).all P,?_,ND V N⟩;have L:ig (eM (eV Gf (cM (.int 1)) (iN gZ (eM (eN 1) eP))) eP) (vw (R none none none))=.ok ((List.range (2 ^ cs.length)).map λ(b:Nat)=>T.int (b:Int)):=mx (2 ^ cs.length) (by lia) (eT (y:=.int (cs.length:Int)) rfl (kx (t:=.lst (cs.map tI)) rfl (by simp)) J);cases h:(List.range (2 ^ cs.length)).all P with
 |true=>obtain⟨ρ',e,_⟩:=X h;exact gP rfl (eR (kY L e) (fO rfl))
 |false=>exact gP rfl (jG (kY L (s2 h)) rfl)
end
def pN.perm{d B:Nat}{us vs:LL}(h:pN d B us)(p:us.Perm vs):pN d B vs:=by refine⟨λf e=>h.gc f (p.mem_iff.mpr e),by rw[<-p.length_eq];exact h.few,?_⟩;have q:us.Pairwise λa b=>a.length=b.length/\ie a b=false:=h.pw.imp_of_mem λ{a b} ha hb z=>⟨by rw[(h.gc a ha).gl.1,(h.gc b hb).gl.1],z⟩;exact (p.pairwise q λ{a b} z=>⟨z.1.symm,by rw[<-Aw z.1];exact z.2⟩).imp λz=>z.2
def F9{d:Type}{l a:List d}{x:d}(k:Nat)(h:l.Perm a):(l.take k++x::l.drop k).Perm (a++[x]):=by have b:(l.take k++x::l.drop k).Perm (x::(l.take k++l.drop k)):=List.perm_middle;rw[dX]at b;exact (b.trans (h.cons x)).trans (List.perm_append_singleton x a).symm
section
variable {d:Nat}{cs:LL}
def E1{st:LI}(o:pN d 30 cs)(k:st.length=d){of:Nat->Int}(n:∀i,i<cs.length->of i≠0)(m:Int):wD d m ((IA of (cs.map (uN d st))).map vc)=wD d m (cs.map vc):=by
 have f:(IA of (cs.map (uN d st))).map vc=(List.range cs.length).map λi=>vc (((cs.map (uN d st)).getD i []).map λx=>of i*x):=by unfold IA;rw[ay,aJ];rfl
 have g:∀i,i<cs.length->(cs.map (uN d st)).getD i []=uN d st (cs.getD i []):=λi a=>by rw[af,ax,ag a,af,ag a];rfl
 rw[f,KM (List.range cs.length) _ (λi=>Ac d (vc st) (vc (cs.getD i []))) λi a=>?_]
 .have h:(List.range cs.length).map (λi=>Ac d (vc st) (vc (cs.getD i [])))=(cs.map vc).map (Ac d (vc st)):=by rw[<-oE,aJ];rfl
  rw[h,Fk _ d (vc st) _ rfl]
 .have a:=aT.mp a;refine⟨of i,n i a,λj=>?_⟩;have l:=(o.gc _ (jo cs i a)).gl.1;rw[g i a,mT,Cr l k];congr 1;unfold Ac gE;by_cases e:j<d
  .rw[aR e,aS (by lia)]
  .rw[aS e];by_cases b:j=d
   .rw[aR b,aR b]
   .rw[aS b,aS b,ja _ j (by lia)]
def G3(f:Int)(hd:1<=d/\d<=3)(S:pN d 30 cs):∃L:LL,jP c [.int f,.int (d:Int),.lst (cs.map tI)]=.ok (L.map tI)/\pN d 41 L/\L.length=cs.length/\∀m,wD d m (L.map vc)=wD d m (cs.map vc):=by
 have sz:10000<sizeLine:=by decide
 have h7:=S.few;obtain⟨of,K⟩:=r0 (P:=λ(k:Nat) (w:Int)=>gN (.lst ([1,-1,2,-3].map T.int)) (.int (dr c f (100+(k:Int)) 4))=.ok (.int w)/\w∈[1,-1,2,-3]) (List.range cs.length) λk I=>by have:=aT.mp I;obtain⟨e,a,b⟩:=iT (c:=c) f (100+(k:Int)) 4 (by decide) (by decide) (by lia) (by lia);exact xh _ _ a (by simpa using b)
 have y:∀k,k<cs.length->of k≠0/\(of k).natAbs<8:=λk I=>by have:=(K k (aT.mpr I)).2;simp at this;lia
 let n:LI:=(List.range d).map λ(j:Nat)=>dr c f (90+(j:Int)) 7-3;have N:n.length=d:=by simp[n]
 have J:∀x∈n,x.natAbs<16:=λx hx=>by obtain⟨j,Z,rfl⟩:=aE.mp hx;have:=aT.mp Z;obtain⟨e,a,b⟩:=iT (c:=c) f (90+(j:Int)) 7 (by decide) (by decide) (by lia) (by lia);lia
 let M:LL:=IA of (cs.map (uN d n));have gM:pN d 41 M:=Om (Nu S hd.2 N J) of (by rw[ay];exact y);have Ml:M.length=cs.length:=by show (IA _ _).length=_;unfold IA;simp
 let v (i:Nat):LI:=(uN d n (cs.getD i [])).map λx=>of i*x;have X:∀i,i<cs.length->M[i]? = some (v i):=λi B=>by show (IA of (cs.map (uN d n)))[i]? = _;unfold IA;rw[ay,ax,List.getElem?_range B];simp only[Option.map_some,v];rw[af,ax,ag B,af,ag B];rfl
 let R (L:LL) (H F z s:Option W):En:=[some (.p (.int f)),some (.p (.int (d:Int))),some (.p (.lst (cs.map tI))),some (.p (tL n)),some (.o (L.map tI)),H,F,z,s];obtain⟨U,e,L,H,F,z,s,rfl,D⟩:=jr (m:=ko 5) (g:=ql c) (λ(k:Nat)=>T.int (k:Int)) (λi U=>∃(L:LL) (H F z s:Option W),U=R L H F z s/\L.Perm (M.take i)) (List.range cs.length) 0 (R [] none none none none) ⟨[],_,_,_,_,rfl,List.Perm.refl _⟩ (by
  rintro i k U B ⟨L,H,F,z,s,rfl,D⟩;rw[aH]at *;obtain⟨E,ik⟩:=aa.mp B;rw[dZ]at ik;subst ik;rw[dY]at E;let u:=cs.getD i [];have gu:=(S.gc u (jo cs i E)).gl;have Y:gN (.lst (cs.map tI)) (.int (i:Int))=.ok (tI u):=sS cs tI i [] E;have Ll:L.length=i:=by rw[D.length_eq,bK];lia
  obtain⟨e4,a4,b4⟩:=iT (c:=c) f (100+(i:Int)) 4 (by decide) (by decide) (by lia) (by lia);obtain⟨e5,a5,b5⟩:=iT (c:=c) f (110+(i:Int)) ((L.length:Int)+1) (by lia) (cz (b:=8) (by lia) (by decide)) (by lia) (by lia);obtain⟨j,Z⟩:∃j:Nat,dr c f (110+(i:Int)) ((L.length:Int)+1)=(j:Int):=⟨(dr c f (110+(i:Int)) ((L.length:Int)+1)).toNat,by lia⟩;rw[Z]at e5;let A:Option W:=some (.p (.int (i:Int)));let C:Option W:=some (.p (.int (of i)));let q:Int:=((u.zip n).map λp=>p.1*p.2).sum;let Q:Option W:=some (.p (.int q));have s6:eV gN (gH (lstM (eM (cM (.int 1)) (eM (yE (λi=>.int (-i)) (cM (.int 1))) (eM (cM (.int 2)) (eM (yE (λi=>.int (-i)) (cM (.int 3))) eP)))))) (eY (eM (eN 0) (eM (eV fY (cM (.int 100)) (eN 5)) (eM (cM (.int 4)) eP))) (eX c)) (kD (R L A F z s))=.ok (.int (of i)):=eT (x:=.lst ([1,-1,2,-3].map T.int)) (gz (QU rfl rfl rfl rfl)) (j5 rfl (eT rfl rfl (fZ _ _)) rfl e4) (K i (aT.mpr E)).1
  have l7:i9 [none,none] (lu (eM (eV gN (eN 2) (eN 5)) (eM (eN 3) eP))) (nG 2 (gI (iM 0) (gI (iM 1) nI))) (λ_=>.ok true) (qU c) (kD (R L A C z s))=.ok (((u.zip n).map λp=>p.1*p.2).map T.int):=jx (u.zip n) (λp=>T.tup [.int p.1,.int p.2]) (λp=>T.int (p.1*p.2)) (uG (eT rfl rfl Y) rfl rfl rfl) (by rw[dU];lia) (λp hp=>⟨_,rfl,rfl,eT rfl rfl (jV ((gu.2 _ (aX hp).1).ok (show Bn 4 p.2 by unfold Bn;exact J _ (aX hp).2) (by decide) (by decide)))⟩) (by rw[aJ];rfl)
  have sl:kM (eV gN (eN 2) (eN 5)) (λ_=>.ok none) (iU (eN 1)) (kD (R L A C Q s))=.ok (.tup ((u.map T.int).take d)):=qg (eT rfl rfl Y) rfl (by rw[ay,gu.1];lia);have l8:i9 [none,some 6] (gR (kM (eV gN (eN 2) (eN 5)) (λ_=>.ok none) (iU (eN 1)))) (iM 0) (λ_=>.ok true) (qa c) (kD (R L A C Q s))=.ok (((u.take d).map λx=>of i*x).map T.int):=jx (u.take d) T.int (λx=>T.int (of i*x)) (Jq (by rw[sl,<-c6];rfl)) (by rw[bK];lia) (λx hx=>⟨_,rfl,rfl,eT rfl rfl (i6 (by have:=(y i E).2;lia))⟩) (by rw[aJ];rfl)
  let h:List T:=((u.take d).map λx=>of i*x).map T.int;have e8:h++[T.int (of i*(u.getD d 0+q))]=(v i).map T.int:=by show _=((uN d n u).map λx=>of i*x).map T.int;unfold uN;rw[a9,a9];rfl
  let R8 (l:List T):En:=R L A C Q (some (.o l));refine⟨_,R (L.take j++v i::L.drop j) A C Q (some (.o ((v i).map T.int))),rfl,.inl (eR (ρ':=R L A C z s) (fH s6 rfl) (eR (ρ':=R L A C Q s) (fH (qc l7 (Ar _)) rfl) (eR (ρ':=R8 h) (l9 l8 rfl) (eR (ρ':=R8 ((v i).map T.int)) (rY (us:=h) (t:=.int (of i*(u.getD d 0+q))) rfl (eT rfl (eT (eT (eT rfl rfl Y) rfl (jH u d (by rw[gu.1];lia))) rfl (fZ _ _)) (i6 (by have:=(y i E).2;lia))) (by simp[h];lia) (by rw[e8];rfl)) (K6 (us:=L.map tI) (t:=tI (v i)) (j:=j) rfl (j5 rfl (eT rfl rfl (fZ _ _)) (eT (kx (t:=.lst (L.map tI)) (r:=.ok (.int (L.length:Int))) rfl (by simp)) rfl (fZ _ _)) e5) (kx (t:=.lst ((v i).map T.int)) rfl rfl) (Lx _) (by rw[ay];lia) (by rw[ay];lia) ?_))))),_,_,_,_,_,rfl,?_⟩
  .show R _ _ _ _ _=[_,_,_,_,some (.o ((L.map tI).take j++tI (v i)::(L.map tI).drop j)),_,_,_,_];simp[R,c6,c7]
  .rw[ji M i (v i) (X i E)];exact F9 j D)
 rw[aH,dY,<-Ml,dO]at D;have e1:i9 [none,some 0] (ig (eM (eN 1) eP)) (iM 0) (λ_=>.ok true) (qr c) (kD (f9 9 [.int f,.int (d:Int),.lst (cs.map tI)]))=.ok (n.map T.int):=jx (List.range d) (λ(k:Nat)=>T.int (k:Int)) (λ(k:Nat)=>T.int (dr c f (90+(k:Int)) 7-3)) (mx d (by lia) rfl) (by simp;lia) (λk I=>⟨_,rfl,rfl,by have:=aT.mp I;obtain⟨e,a,b⟩:=iT (c:=c) f (90+(k:Int)) 7 (by decide) (by decide) (by lia) (by lia);exact eT (j5 rfl (eT rfl rfl (fZ _ _)) rfl e) rfl (mU _ _)⟩) (by rw[aJ];rfl)
 refine⟨L,um rfl (eR (ρ':=[some (.p (.int f)),some (.p (.int (d:Int))),some (.p (.lst (cs.map tI))),some (.p (tL n)),none,none,none,none,none]) (fH (gz e1) rfl) (eR (ρ':=R [] none none none none) (l9 rfl rfl) (eR (kY (mx cs.length (by lia) (kx (t:=.lst (cs.map tI)) rfl (by simp))) e) rfl))),gM.perm D.symm,by rw[D.length_eq,Ml],λm=>?_⟩;rw[K8 (D.map vc)];exact E1 S N (λi B=>(y i B).1) m
end
def Ei ns:qD c [.scr ns]=.ok (.bl true):=by
 have sz:1000<sizeLine:=by decide
 let R (B w u q l i h:Option W):En:=[some (.p (.scr ns)),B,w,u,q,l,i,h];obtain⟨Z,N,_⟩:=v9 (m:=ko 1) (g:=wd c) (λ(k:Nat)=>T.int (k:Int)) (λF=>∃B w u q l i h,F=R B w u q l i h) [0,1,0] (R none none none none none none none) ⟨_,_,_,_,_,_,_,rfl⟩ (by
  rintro k-F ⟨B,w,u,q,l,i,h,rfl⟩;obtain⟨e,ec,-⟩:=Ap (c:=c) ns k;obtain⟨d,a,E,j,A,n⟩:=Bf (c:=c) e 6 (by decide);have E:iX c [.int e,.int 6]=.ok (.tup [.int d,.lst (a.map tI)]):=E;have V:Vz d a:=⟨j,A.up62⟩;have i0:=Cj (c:=c) d 30 a j (by decide) A;have m0:=vf (c:=c) V n;have c0:=Bg (c:=c) a.length d n j;obtain⟨b,p0,hb⟩:=HD (c:=c) V A n;obtain⟨r1,r2,Q⟩:=xn a.length d (a.map vc) (by simp);obtain⟨L,o0,J,lL,S⟩:=G3 (c:=c) e j A;have K:Vz d L:=⟨j,J.mono (by decide)⟩;have i1:=Cj (c:=c) d 41 L j (by decide) J;have Y:=sC (c:=c) V n;have I:=sC (c:=c) K (by lia);have eS:(List.range (d+1)).map (λ(m:Nat)=>T.int (IV d L (m:Int)))=(List.range (d+1)).map λ(m:Nat)=>T.int (IV d a (m:Int)):=cL λm _=>by rw[FU K (by lia),FU V n,S]
  rw[eS]at I;let o:Option W:=some (.p (.int (k:Int)));let s:Option W:=some (.p (.int e));let v:Option W:=some (.p (.int (d:Int)));let z:Option W:=some (.p (.lst (a.map tI)));let C:Option W:=some (.p (mm c d a));let H:Option W:=some (.p (.int (nX d (a.map vc))));let y7:Option W:=some (.p (.int (Ch a.length d:Int)));let f:=R o s v z C H y7;have X:gd (eV JC (eN 6) (eN 7)) (vw f)=.ok false:=by refine fV (eT (x:=.int (nX d (a.map vc))) (y:=.int (Ch a.length d:Int)) rfl rfl ?_);show M.ok (T.bl (decide ((Ch a.length d:Int)<nX d (a.map vc))))=_;congr 2;exact aC (by lia)
  have U:gd (eV (fM true) (eV (fM false) (eN 6) (eN 7)) (eY (eM (eN 3) (eM (eN 4) eP)) (jM c))) (vw f)=.ok false:=by
   have D:(nX d (a.map vc)==(Ch a.length d:Int))=b:=by rw[ee,hb,<-Q];simp
   refine fV (eT (x:=.bl b) (y:=.bl b) (eT rfl rfl (by rw[gC,D])) (lx rfl rfl p0) (Pj b))
  have P:gd (eV (fM true) (gH (iq (eM (eY (eM (eN 3) (eM (gH (iq (eM (eN 2) (eM (eN 3) (eM (eN 4) eP))) (jP c))) eP)) (gO c)) eP) (je c))) (gH (iq (eM (eN 5) eP) (je c)))) (vw f)=.ok false:=by refine fV (eT (gz (pV (lx rfl (gz (E2 rfl rfl rfl o0)) i1) I)) (gz (pV rfl Y)) ?_);have:=FX true ((List.range (d+1)).map λ(m:Nat)=>IV d a (m:Int)) ((List.range (d+1)).map λ(m:Nat)=>IV d a (m:Int));rw[aJ]at this;refine this.trans ?_;simp
  exact⟨_,f,rfl,.inl (eR (ρ':=R o s u q l i h) (fH (lx rfl rfl ec) rfl) (eR (ρ':=R o s v z l i h) (N2 (lx rfl rfl E) rfl) (eR (ρ':=R o s v z C i h) (fH (lx rfl (gz (ts:=a.map tI) rfl) i0) rfl) (eR (ρ':=R o s v z C H h) (fH (sq rfl m0) rfl) (eR (ρ':=f) (fH (lx (kx (t:=.lst (a.map tI)) (r:=.ok (.int (a.length:Int))) rfl (by simp)) rfl c0) rfl) (eR (gj (PD X U) rfl) (gj P rfl))))))),_,_,_,_,_,_,_,rfl⟩)
 exact gP rfl (eR (md (qx rfl) N) (fO rfl))
end CL
namespace K48
open PySem L2 L3 CL
def iZ(i:Nat):Stmt:=PySem.Challenge.pw_cutlands_k48_whole_no_more_lands.main.body.getD i (.Pass ⟨0,0,0,0⟩)
structure Er(c:Cs)(K:W.Frag)(mg:Str->Option Value):Prop where
 here:True
 cl_Cutting:vS K c.Cutting
 na_Cutting_own_cuts:jT K c.Cutting "own_cuts"
 na_Cutting_own_dims:jT K c.Cutting "own_dims"
 mk_Cutting:W.makesIn K c.Cutting=true
 kp_Cutting:W.keepIn K (.ref c.Cutting)=true
 mg_Cutting:mg "Cutting" = some (.ref c.Cutting)
 k_MOST_CUTS:∃t,mg "MOST_CUTS" = some (.int 7 t)
 k_MOST_DIMS:∃t,mg "MOST_DIMS" = some (.int 3 t)
def Qg{K:W.Frag}{h:Heap}{mg:Str->Option Value}{aCutting:Addr}{tMOST_CUTS tMOST_DIMS:_}(X:K.In h)(G:h.Ns mainGlobals mg)(e:W.nsIn K mainGlobals "Cutting" = some (some (.ref aCutting)))(f:W.plainGet K aCutting Str.empty=true)(g:W.hasDictIn K aCutting=true)(c:W.plainOver K aCutting=true)(d:W.findIn K (.ref aCutting) "__setattr__" = some (some (.builtin "object.__setattr__")))(own_cuts:W.findIn K (.ref aCutting) "own_cuts" = some none)(own_dims:W.findIn K (.ref aCutting) "own_dims" = some none)(a:W.makesIn K aCutting=true)(b:W.keepIn K (.ref aCutting)=true)(uMOST_CUTS:W.nsIn K mainGlobals "MOST_CUTS" = some (some (.int 7 tMOST_CUTS)))(uMOST_DIMS:W.nsIn K mainGlobals "MOST_DIMS" = some (some (.int 3 tMOST_DIMS))):Er ⟨aCutting,0,0,0,0,0,0,0,0,0,0,0,0⟩ K mg:=⟨trivial,⟨f,g,c,d⟩,own_cuts,own_dims,a,b,W.mg_of X G e,⟨_,W.mg_of X G uMOST_CUTS⟩,⟨_,W.mg_of X G uMOST_DIMS⟩⟩
def OX{K:W.Frag}{a g:Addr}{m q:Str}{st:Stmt}{h kV d k b o:Vq}{p f:Option Addr}{c:Array (Option Value)}(i:W.findIn K (.ref a) m=some (some (.ref g)))(j:W.isFn K (.ref g)=true)(l:K.lookup g=some ⟨h,p,.func (W.fnOf m q (iu st) (fR st) (eU st) .none kV d k f b o),c⟩)(n:W.codeIn K b q=true)(e:W.keepIn K (.ref g)=true):jS K a m q st:=⟨_,_,AU l n e,i,j,e⟩
set_option hygiene false in
local macro_rules|`('x')=>`(by repeat' first|(refine' eQ ?_ ?_)|(refine' fj ?_)|(exact fT)|(refine' hU _ nd ?_)|(refine' g9 ?_ ?_ ?_)|(refine' iy ?_)|(refine' Ab _ nd ?_)|(refine' uf ?_)|(refine' ps_dropm ?_)|(exact Ct)|(refine' Al _ nd ?_)|(exact e7 _)|(exact iR)|(refine' e6 ?_ ?_)|(exact fN)|(refine' IJ ?_ ?_)|(refine' jZ (by assumption) hr ?_)|(refine' xI ?_ ?_)|(refine' vX ?_)|(refine' rW hr ?_ ?_)|(refine' tK hr ?_ ?_)|(refine' qQ ?_)|(refine' yt ?_)|(refine' ux ?_ ?_)|(refine' qk ?_)|(refine' pY ?_ ?_)|(refine' oq ?_)|(refine' fv (fQ (K:=K)) ij (by rfl) B.len ip ?_)|(refine' gW Fy Hl ?_ ?_)|(refine' gW CW C3 ?_ ?_)|(refine' gW Fm Hs ?_ ?_)|(refine' gW zB zh ?_ ?_)|(refine' gW Dd Cp ?_ ?_)|(refine' gW Fx HB ?_ ?_)|(exact Pw)|(exact Bd)|(exact pm_str)|(refine' Bb ?_)|(refine' Mb ?_ ?_)|(refine' yf ?_ ?_)|(refine' E9 ?_)|(refine' Ot ?_ ?_)|(refine' Kr ?_ ?_)|(refine' zP ?_ ?_ ?_)|(exact Ih)|(refine' FW ?_)|(refine' oB "tuple" (by decide) B.isinstance B.tuple jb ?_)|(refine' oB "list" (by decide) B.isinstance B.list nh ?_)|(refine' oB "int" (by decide) B.isinstance B.int A2 ?_)|(refine' oB "bool" (by decide) B.isinstance B.bool C9 ?_)|(refine' i5 (iz (K:=K)) jl (by rfl) B.tuple jb ?_)|(refine' i5 call_int1 mc_int1 (by rfl) B.int A2 ?_)|(refine' fv qb yC (by rfl) B.abs ye ?_)|(refine' fv (oG (K:=K) rfl) xt (by rfl) B.all xw ?_)|(refine' iV ?_)|(refine' Ce (by assumption) hr ?_)|(refine' mP (lN (K:=K)) n9 (by rfl) B.list nh ?_)|(refine' E7 ?_)|(refine' xG ?_ ?_)|(refine' GH ?_ ?_)|(refine' A4 ?_ ?_)|(refine' Br ?_)|(refine' Bh ?_))
section
variable {P:Program}{w:World}{K:W.Frag}{mg:Str->Option Value}{base:Heap}{c:Cs}(Z:Zx P w K mg base)(B:Bs mg)(ER:Er c K mg)
include Z B ER
theorem o0(D:fC K mg "is_whole" (iZ 5)):CP Z "is_whole" 1 (jc c):=kK Z 0 (jc c) ["thing"] ["thing"] rfl D λnd hX hr=>⟨_,(fj (iy (A4 (oB "int" (by decide) B.isinstance B.int A2 (e7 0)) (Br (Bh (oB "bool" (by decide) B.isinstance B.bool C9 (e7 0)))))))⟩
theorem o1(D:fC K mg "sign_of" (iZ 6)):CP Z "sign_of" 1 (mK c):=kK Z 0 (mK c) ["number"] ["number"] rfl D λnd hX hr=>⟨_,(eQ (g9 (gW CW C3 (e7 0) iR) 'x' fT) (eQ (g9 (gW Fy Hl (e7 0) iR) 'x' fT) 'x'))⟩
theorem o2(D:fC K mg "common_divisor" (iZ 7)):CP Z "common_divisor" 1 (gY c):=kK Z 0 (gY c) ["one","other","rest"] ["one","other"] rfl D λnd hX hr=>⟨_,(eQ (Ie (λρ=>match ρ with|_::some (.p (.int j))::_=>j.natAbs+1|_=>0) PassesOwn.never 'x' 'x') (fj (iy (fv qb yC (by rfl) B.abs ye 'x'))))⟩
theorem o3(D:fC K mg "first_place" (iZ 15)):CP Z "first_place" 1 (jB c):=kK Z 0 (jB c) ["cut","place"] ["cut"] rfl D λnd hX hr=>⟨_,(eQ (hU 1 nd iR) (eQ (Ie (λρ=>match ρ with|some (.p (.tup ts))::_=>ts.length+1|_=>0) PassesOwn.never 'x' 'x') 'x'))⟩
theorem o4(D:jS K c.Cutting "dims" "Cutting.dims" (oR (iZ 19) 1)):j9 P w K mg base c.Cutting "dims" 1 (wA K (gw c)):=PJ Z 0 (gw c) ["self"] ["self"] rfl ER.cl_Cutting D λnd hX hr=>⟨_,(fj (iy (FB rfl ER.cl_Cutting ER.na_Cutting_own_dims (e7 0))))⟩
theorem o5(D:jS K c.Cutting "cuts" "Cutting.cuts" (oR (iZ 19) 2)):j9 P w K mg base c.Cutting "cuts" 1 (Ao K (iK c)):=Oo Z 0 (iK c) ["self"] ["self"] rfl ER.cl_Cutting D λnd hX hr=>⟨_,(fj (uf (mP (lN (K:=K)) n9 (by rfl) B.list nh (e6 (FB rfl ER.cl_Cutting ER.na_Cutting_own_cuts (e7 0)) fN))))⟩
theorem o6(D:fC K mg "lies_in" (iZ 27)):CP Z "lies_in" 1 (lj c):=kK Z 0 (lj c) ["flat","other"] ["flat","other"] rfl D λnd hX hr=>⟨_,(fj (iy (fv (oG (K:=K) rfl) xt (by rfl) B.all xw (e6 (iV (jh ["k","flat"] [none,some 0] hX (gJ 'x') (λnd hX=>⟨(gK 0 nd),f6,(A0 (NO (K:=K)) (Qf false) (e7 0) 'x' (by rfl))⟩))) fN))))⟩
theorem o7(D:fC K mg "_law_cell_at" (iZ 34)):CP Z "_law_cell_at" 1 (iD c):=kK Z 0 (iD c) ["_law_script","_law_k"] ["_law_script","_law_k"] rfl D λnd hX hr=>⟨_,(eQ (g9 (gW Fy Hl (e7 1) (fv (fQ (K:=K)) ij (by rfl) B.len ip 'x')) 'x' fT) 'x')⟩
theorem o8(D:fC K mg "_law_draw" (iZ 35)):CP Z "_law_draw" 1 (eX c):=kK Z 0 (eX c) ["_law_cell","_law_k","_law_bound","_law_left","_law_j","_law_stir"] ["_law_cell","_law_k","_law_bound"] rfl D λnd hX hr=>⟨_,(eQ (g9 (gW Fm Hs (e7 0) (NF iR iR)) (eQ 'x' (eQ (lz PassesOwn.never rfl (jq B.range 'x') (iB 4 nd) 'x') 'x')) fT) 'x')⟩
theorem o9(D:fC K mg "_law_same" (iZ 36)):CP Z "_law_same" 1 (k9 c):=kK Z 0 (k9 c) ["_law_one","_law_other_here","_law_k","_law_j"] ["_law_one","_law_other_here"] rfl D λnd hX hr=>⟨_,(eQ (lz PassesOwn.never rfl (jq B.range (e6 (fv (fQ (K:=K)) ij (by rfl) B.len ip 'x') fN)) (iB 2 nd) (fj (lz PassesOwn.never rfl (jq B.range 'x') (iB 3 nd) 'x'))) 'x')⟩
theorem RS(D:fC K mg "_law_rank" (iZ 39)):CP Z "_law_rank" 1 (jt c):=kK Z 0 (jt c) ["_law_rows","_law_ahead","_law_row","_law_here","_law_at","_law_other_here","_law_by","_law_left"] ["_law_rows"] rfl D λnd a hr=>⟨_,(eQ 'x' (eQ (l4 PassesOwn.never rfl (gJ (e7 0)) (iB 2 nd) (eQ (hU 3 nd (iV (mP (lN (K:=K)) n9 (by rfl) B.list nh 'x'))) (eQ (Gi 1 (pv 1) PassesOwn.never rfl (xN 2 rfl (jO (iB 4 nd) (jO (iB 5 nd) qL))) (eQ 'x' (fj (hU 3 nd (iV (jh ["_law_one","_law_two","_law_by","_law_other_here","_law_at"] [none,none,some 6,some 5,some 4] a (nj B.zip 'x') (λnd a=>⟨(oz 2 rfl (gx (gK 0 nd) (gx (gK 1 nd) kn))),f6, 'x'⟩))))))) (eQ (my ["_law_k","_law_here"] [none,some 3] 7 nd a (qo.pim (jq B.range (e6 (fv (fQ (K:=K)) ij (by rfl) B.len ip 'x') fN))) (λnd a=>⟨(gK 0 nd),(lI 'x'),(e7 0)⟩) mM) (fj (g9 'x' (fj (mO 1 (pv 1) 'x')) fT)))))) (fj (iy (fv (fQ (K:=K)) ij (by rfl) B.len ip 'x')))))⟩
theorem RE(D:fC K mg "_law_choices" (iZ 41)):CP Z "_law_choices" 1 (jC c):=kK Z 0 (jC c) ["_law_many","_law_most","_law_found","_law_row","_law_k"] ["_law_many","_law_most"] rfl D λnd a hr=>⟨_,(eQ (hU 2 nd iR) (eQ 'x' (eQ (lz PassesOwn.never rfl (Kj B.range 'x') (iB 4 nd) (eQ (FM 3 (pv 3) 'x') (fj (Ab 2 nd (xI (e7 2) (fv (DW rfl) KG (by rfl) B.max OB 'x')))))) 'x')))⟩
theorem RJ(D:fC K mg "lowest" (iZ 8))(b:CP Z "common_divisor" 1 (gY c)):CP Z "lowest" 2 (n8 c):=kK Z 1 (n8 c) ["row","divisor","number"] ["row"] rfl D λnd a hr=>⟨_,(eQ (hU 1 nd iR) (eQ (l4 PassesOwn.never rfl (gJ (e7 0)) (iB 2 nd) 'x') (eQ 'x' (fj (iy (i5 (iz (K:=K)) jl (by rfl) B.tuple jb (e6 (iV (jh ["number","divisor"] [none,some 1] a (gJ (e7 0)) (λnd a=>⟨(gK 0 nd),f6, 'x'⟩))) fN)))))))⟩
theorem RG(D:fC K mg "is_dims" (iZ 13))(b:CP Z "is_whole" 1 (jc c)):CP Z "is_dims" 2 (lp c):=kK Z 1 (lp c) ["thing"] ["thing"] rfl D λnd a hr=>⟨_,(fj (iy (A4 'x' (Br (HL zB zh zB zh iR (e7 0) (yO 3 ER.k_MOST_DIMS))))))⟩
theorem RL(D:fC K mg "is_cut" (iZ 14))(b:CP Z "is_whole" 1 (jc c)):CP Z "is_cut" 2 (mE c):=kK Z 1 (mE c) ["dims","thing"] ["dims","thing"] rfl D λnd a hr=>⟨_,(eQ (g9 (yt (ux (qQ (vX (oB "tuple" (by decide) B.isinstance B.tuple jb (e7 1)))) (qk (rW hr (fv (fQ (K:=K)) ij (by rfl) B.len ip 'x') 'x')))) 'x' fT) (eQ (g9 (qQ (vX (fv (oG (K:=K) rfl) xt (by rfl) B.all xw (e6 (iV (jh ["number"] [none] a (gJ (e7 1)) (λnd a=>⟨(gK 0 nd),f6, 'x'⟩))) fN)))) 'x' fT) (fj (iy (fv (mR (K:=K) rfl) tF (by rfl) B.any uD (e6 (iV (jh ["number"] [none] a (gJ 'x') (λnd a=>⟨(gK 0 nd),f6,(PY hr (e7 0) iR)⟩))) fN))))))⟩
theorem Rp(D:fC K mg "same_spots" (iZ 16))(b:CP Z "first_place" 1 (jB c)):CP Z "same_spots" 2 (jR c):=kK Z 1 (jR c) ["one","other","place"] ["one","other"] rfl D λnd a hr=>⟨_,(eQ 'x' (fj (iy (fv (oG (K:=K) rfl) xt (by rfl) B.all xw (e6 (iV (jh ["mine","theirs","other","place","one"] [none,none,some 1,some 2,some 0] a (nj B.zip 'x') (λnd a=>⟨(oz 2 rfl (gx (gK 0 nd) (gx (gK 1 nd) kn))),f6,(Lw hr 'x' 'x')⟩))) fN)))))⟩
theorem RC(D:fC K mg "numbers_in_order" (iZ 28))(b:CP Z "lies_in" 1 (lj c)):CF Z "numbers_in_order" 2 (fL c):=zd Z 1 (fL c) ["told","numbers","flat","around"] ["told"] rfl D λnd a hr=>⟨_,(eQ 'x' (eQ (l4 PassesOwn.never rfl (gJ 'x') (iB 2 nd) (eQ (my ["other","number","flat"] [none,none,some 2] 3 nd a (nj B.zip 'x') (λnd a=>⟨(oz 2 rfl (gx (gK 0 nd) (gx (gK 1 nd) kn))),(lI 'x'),(e7 1)⟩) GE) (fj (mO 1 (pv 1) (E9 (fv (rE (K:=K) rfl) AW (by rfl) B.sum Bx 'x')))))) (fj (uz 1 (pv 1)))))⟩
theorem RB(D:fC K mg "_law_cut" (iZ 37))(b:CP Z "_law_draw" 1 (eX c)):CP Z "_law_cut" 2 (lT c):=kK Z 1 (lT c) ["_law_cell","_law_k","_law_dims","_law_found","_law_wide","_law_cut_here","_law_way","_law_other_here","_law_by"] ["_law_cell","_law_k","_law_dims","_law_found"] rfl D λnd a hr=>⟨_,(eQ 'x' (eQ (my ["_law_j","_law_wide","_law_cell","_law_k"] [none,some 4,some 0,some 1] 5 nd a (qo.pim (jq B.range 'x')) (λnd a=>⟨(gK 0 nd),f6, 'x'⟩) sR) (eQ 'x' (eQ (g9 'x' (fj (Gu 5 nd (xG (iV (mP (lN (K:=K)) n9 (by rfl) B.list nh (e6 (zP (IJ (e7 3) (jZ b hr (e6 (e7 0) (e6 'x' (e6 (fv (fQ (K:=K)) ij (by rfl) B.len ip 'x') fN))))) Ih (FW (e7 2))) fN))) 'x'))) fT) (eQ (g9 'x' (fj (xM 5 (pv 5) (e7 2) iR)) fT) (eQ (g9 (yt (pY 'x' (oq (gW CW C3 (fv (fQ (K:=K)) ij (by rfl) B.len ip 'x') iR)))) (eQ (hU 7 nd (IJ (e7 3) (jZ b hr (e6 (e7 0) (e6 'x' (e6 (yf (fv (fQ (K:=K)) ij (by rfl) B.len ip 'x') iR) fN)))))) (eQ 'x' (fj (my ["_law_one","_law_two","_law_by"] [none,none,some 8] 5 nd a (nj B.zip 'x') (λnd a=>⟨(oz 2 rfl (gx (gK 0 nd) (gx (gK 1 nd) kn))),f6, 'x'⟩) sR)))) fT) (eQ (g9 'x' (fj (xM 5 (pv 5) 'x' iR)) fT) (fj (iy (i5 (iz (K:=K)) jl (by rfl) B.tuple jb 'x'))))))))))⟩
theorem RU(D:fC K mg "_law_flat" (iZ 40))(b:CP Z "_law_rank" 1 (jt c)):CP Z "_law_flat" 2 (jW c):=kK Z 1 (jW c) ["_law_dims","_law_cuts","_law_some","_law_rank_here","_law_inside"] ["_law_dims","_law_cuts","_law_some"] rfl D λnd a hr=>⟨_,(eQ (hU 3 nd (jZ b hr (e6 (iV (jh ["_law_k","_law_cuts"] [none,some 1] a (gJ (e7 2)) (λnd a=>⟨(gK 0 nd),f6, 'x'⟩))) fN))) (eQ (g9 (rW hr (jZ b hr (e6 (iV (jh ["_law_k","_law_cuts","_law_dims"] [none,some 1,some 0] a (gJ (e7 2)) (λnd a=>⟨(gK 0 nd),f6, 'x'⟩))) fN)) (e7 3)) 'x' fT) (eQ (my ["_law_k","_law_rank_here","_law_cuts","_law_some"] [none,some 3,some 1,some 2] 4 nd a (qo.pim (jq B.range (e6 (fv (fQ (K:=K)) ij (by rfl) B.len ip 'x') fN))) (λnd a=>⟨(gK 0 nd),(lI (tK hr (jZ b hr (e6 (iV (xG (iV (jh ["_law_j","_law_cuts"] [none,some 2] a (gJ (e7 3)) (λnd a=>⟨(gK 0 nd),f6, 'x'⟩))) 'x')) fN)) (e7 1))),(e7 0)⟩) mM) (fj (iy (Bb (e6 'x' (e6 (i5 (iz (K:=K)) jl (by rfl) B.tuple jb 'x') fN))))))))⟩
theorem Ru(D:fC K mg "_law_other" (iZ 43))(b:CP Z "_law_draw" 1 (eX c)):CF Z "_law_other" 2 (jP c):=zd Z 1 (jP c) ["_law_cell","_law_dims","_law_cuts","_law_steps","_law_found","_law_k","_law_by","_law_more","_law_cut_here"] ["_law_cell","_law_dims","_law_cuts"] rfl D λnd a hr=>⟨_,(eQ (my ["_law_j","_law_cell"] [none,some 0] 3 nd a (qo.pim (jq B.range 'x')) (λnd a=>⟨(gK 0 nd),f6, 'x'⟩) mM) (eQ 'x' (eQ (lz PassesOwn.never rfl (jq B.range (e6 (fv (fQ (K:=K)) ij (by rfl) B.len ip 'x') fN)) (iB 5 nd) (eQ 'x' (eQ (hU 7 nd (fv (rE (K:=K) rfl) AW (by rfl) B.sum Bx (e6 (iV (jh ["_law_number","_law_step"] [none,none] a (nj B.zip 'x') (λnd a=>⟨(oz 2 rfl (gx (gK 0 nd) (gx (gK 1 nd) kn))),f6, 'x'⟩))) fN))) (eQ (my ["_law_number","_law_by"] [none,some 6] 8 nd a (gJ 'x') (λnd a=>⟨(gK 0 nd),f6, 'x'⟩) sR) (eQ (mO 8 (pv 8) 'x') (fj (HU 4 (pv 4) (jZ b hr (e6 (e7 0) (e6 'x' (e6 (xI (fv (fQ (K:=K)) ij (by rfl) B.len ip 'x') iR) fN)))) (i5 (iz (K:=K)) jl (by rfl) B.tuple jb 'x')))))))) (fj (uz 4 (pv 4))))))⟩
theorem Rx(D:fC K mg "cleared" (iZ 9))(a:CP Z "lowest" 2 (n8 c))(d:CP Z "sign_of" 1 (mK c)):CP Z "cleared" 3 (jm c):=kK Z 2 (jm c) ["row","other","place","often","other_often"] ["row","other","place"] rfl D λnd b hr=>⟨_,(eQ 'x' (eQ (hU 3 nd (fv qb yC (by rfl) B.abs ye 'x')) (eQ 'x' (fj (iy (jZ a hr (e6 (i5 (iz (K:=K)) jl (by rfl) B.tuple jb (e6 (iV (jh ["mine","theirs","often","other_often"] [none,none,some 3,some 4] b (nj B.zip 'x') (λnd b=>⟨(oz 2 rfl (gx (gK 0 nd) (gx (gK 1 nd) kn))),f6, 'x'⟩))) fN)) fN)))))))⟩
theorem RH(D:fC K mg "can_stand" (iZ 17))(b:CP Z "is_cut" 2 (mE c))(d:CP Z "same_spots" 2 (jR c)):CP Z "can_stand" 3 (jN c):=kK Z 2 (jN c) ["dims","ahead","thing"] ["dims","ahead","thing"] rfl D λnd a hr=>⟨_,(eQ (g9 (yt (ux (gW Fm Hs (fv (fQ (K:=K)) ij (by rfl) B.len ip 'x') (yO 7 ER.k_MOST_CUTS)) (qk 'x'))) 'x' fT) (fj (iy (Bh (fv (mR (K:=K) rfl) tF (by rfl) B.any uD (e6 (iV (jh ["cut","thing"] [none,some 2] a (gJ (e7 1)) (λnd a=>⟨(gK 0 nd),f6, 'x'⟩))) fN))))))⟩
theorem Rr(D:fC K mg "_law_cutting" (iZ 38))(d:CP Z "_law_draw" 1 (eX c))(b:CP Z "_law_cut" 2 (lT c))(e:CP Z "_law_same" 1 (k9 c)):CP Z "_law_cutting" 3 (iX c):=kK Z 2 (iX c) ["_law_cell","_law_most","_law_dims","_law_found","_law_k","_law_cut_here"] ["_law_cell","_law_most"] rfl D λnd a hr=>⟨_,(eQ 'x' (eQ 'x' (eQ (lz PassesOwn.never rfl (jq B.range 'x') (iB 4 nd) (eQ 'x' (fj (g9 (tK hr (iV (jh ["_law_one","_law_cut_here"] [none,some 5] a (gJ (e7 3)) (λnd a=>⟨(gK 0 nd),(lI 'x'),(e7 0)⟩))) (iV (E7 fN))) (fj (mO 3 (pv 3) (e7 5))) fT)))) 'x')))⟩
theorem Rq(D:fC K mg "_law_plain" (iZ 42))(b:CP Z "_law_flat" 2 (jW c)):CP Z "_law_plain" 3 (jM c):=kK Z 2 (jM c) ["_law_dims","_law_cuts","_law_bits","_law_some","_law_flat_here"] ["_law_dims","_law_cuts"] rfl D λnd a hr=>⟨_,(eQ (lz PassesOwn.never rfl (jq B.range (e6 (Nl iR (fv (fQ (K:=K)) ij (by rfl) B.len ip 'x')) fN)) (iB 2 nd) (eQ (my ["_law_k","_law_bits"] [none,some 2] 3 nd a (qo.pim (jq B.range (e6 (fv (fQ (K:=K)) ij (by rfl) B.len ip 'x') fN))) (λnd a=>⟨(gK 0 nd),(lI (tK hr (Lk (Mg (e7 1) (e7 0)) iR) iR)),(e7 0)⟩) mM) (eQ 'x' (eQ (g9 (yt (pY (gW zB zh (fv (fQ (K:=K)) ij (by rfl) B.len ip 'x') (e7 0)) (oq (gW Fx HB (e7 4) Bd)))) 'x' fT) (eQ (g9 (yt (pY (gW zB zh (fv (fQ (K:=K)) ij (by rfl) B.len ip 'x') (e7 0)) (oq (rW hr 'x' (yf (e7 0) (fv (fQ (K:=K)) ij (by rfl) B.len ip 'x')))))) 'x' fT) (fj (g9 (yt (pY (tK hr (fv (fQ (K:=K)) ij (by rfl) B.len ip 'x') 'x') (oq (gW Dd Cp (e7 4) Bd)))) 'x' fT))))))) 'x')⟩
theorem RP(D:fC K mg "checked_cuts" (iZ 18))(b:CP Z "is_dims" 2 (lp c))(a:CP Z "can_stand" 3 (jN c)):CP Z "checked_cuts" 4 (iH c):=kK Z 3 (iH c) ["dims","things","ahead","thing"] ["dims","things"] rfl D λnd d hr=>⟨_,(eQ (g9 (yt (ux 'x' (qk (qQ (vX (oB "list" (by decide) B.isinstance B.list nh (e7 1))))))) (fj Ct) fT) (eQ 'x' (eQ (l4 PassesOwn.never rfl (gJ (e7 1)) (iB 3 nd) (eQ 'x' (fj (mO 2 (pv 2) (i5 (iz (K:=K)) jl (by rfl) B.tuple jb 'x'))))) (fj (iy (i5 (iz (K:=K)) jl (by rfl) B.tuple jb 'x'))))))⟩
theorem RD(D:fC K mg "settled" (iZ 21))(a:CP Z "cleared" 3 (jm c)):CP Z "settled" 4 (iY c):=kK Z 3 (iY c) ["row","pivots","place","pivot"] ["row","pivots"] rfl D λnd b hr=>⟨_,(eQ (l4 PassesOwn.never rfl (gJ (e7 1)) (xN 2 rfl (jO (iB 2 nd) (jO (iB 3 nd) qL))) 'x') 'x')⟩
theorem RT(D:fC K mg "with_pivot" (iZ 22))(b:CP Z "cleared" 3 (jm c)):CF Z "with_pivot" 4 (jv c):=zd Z 3 (jv c) ["pivots","row","place"] ["pivots","row","place"] rfl D λnd a hr=>⟨_,(fj (uf (xG (iV (jh ["other_place","pivot","row","place"] [none,none,some 1,some 2] a (gJ (e7 0)) (λnd a=>⟨(oz 2 rfl (gx (gK 0 nd) (gx (gK 1 nd) kn))),f6, 'x'⟩))) 'x')))⟩
theorem RF(D:jS K c.Cutting "__init__" "Cutting.__init__" (oR (iZ 19) 0))(a:CP Z "checked_cuts" 4 (iH c)):Eo P w K mg base "Cutting" c.Cutting 5 (BF K c.Cutting (gO c)):=QW Z 4 (gO c) ["self","dims","cuts"] rfl ER.cl_Cutting ER.na_Cutting_own_cuts ER.na_Cutting_own_dims ER.mk_Cutting ER.kp_Cutting ER.mg_Cutting D λhr=>QE rfl (pv 0) (jZ a hr (e6 (e7 1) (e6 (e7 2) fN))) (pv 0) (e7 1)
theorem RM(D:fC K mg "pivots_and_rests" (iZ 23))(d:CP Z "settled" 4 (iY c))(b:CF Z "with_pivot" 4 (jv c)):CP Z "pivots_and_rests" 5 (hW c):=kK Z 4 (hW c) ["rows","dims","pivots","rests","row","left","places"] ["rows","dims"] rfl D λnd a hr=>⟨_,(eQ 'x' (eQ 'x' (eQ (l4 PassesOwn.never rfl (gJ (e7 0)) (iB 4 nd) (eQ 'x' (eQ (my ["place","left"] [none,some 5] 6 nd a (qo.pim (jq B.range 'x')) (λnd a=>⟨(gK 0 nd),(lI 'x'),(e7 0)⟩) mM) (fj (g9 'x' (fj (mO 3 (pv 3) (e7 5))) 'x'))))) 'x')))⟩
theorem Rv(D:fC K mg "flat_on" (iZ 25))(b:CP Z "pivots_and_rests" 5 (hW c))(d:CP Z "settled" 4 (iY c)):CP Z "flat_on" 6 (iL c):=kK Z 5 (iL c) ["cuts","dims","some","found","pivots","around"] ["cuts","dims","some"] rfl D λnd a hr=>⟨_,(eQ (hU 3 nd (jZ b hr (e6 (iV (jh ["k","cuts"] [none,some 0] a (gJ (e7 2)) (λnd a=>⟨(gK 0 nd),f6, 'x'⟩))) 'x'))) (eQ (g9 (vX (fv (mR (K:=K) rfl) tF (by rfl) B.any uD (e6 (iV (jh ["rest"] [none] a (gJ 'x') (λnd a=>⟨(gK 0 nd),f6,(fv (mR (K:=K) rfl) tF (by rfl) B.any uD 'x')⟩))) fN))) 'x' fT) (eQ 'x' (eQ (my ["k","cut","pivots"] [none,none,some 4] 5 nd a (JE B.enumerate 'x') (λnd a=>⟨(oz 2 rfl (gx (gK 0 nd) (gx (gK 1 nd) kn))),(lI (qQ (vX (fv (mR (K:=K) rfl) tF (by rfl) B.any uD 'x')))),(e7 0)⟩) mM) (fj (iy (Bb (e6 (yf (e7 1) (fv (fQ (K:=K)) ij (by rfl) B.len ip 'x')) (e6 (i5 (iz (K:=K)) jl (by rfl) B.tuple jb 'x') fN)))))))))⟩
theorem RO(D:fC K mg "flats" (iZ 26))(f:El K mg base "flats")(e:j9 P w K mg base c.Cutting "cuts" 1 (Ao K (iK c)))(a:j9 P w K mg base c.Cutting "dims" 1 (wA K (gw c)))(d:CP Z "flat_on" 6 (iL c)):CF Z "flats" 7 (nE c):=NC Z 6 (nE c) ["cutting","cuts","dims","found","k","flat","smaller"] ["cutting"] rfl D f λb nd g hr=>⟨_,(eQ (hU 1 nd (iV (Mx e hr (e7 0)))) (eQ (hU 2 nd (FI a hr (e7 0))) (Lf (N:=7) 3 4 5 6 nd PassesOwn.never hr b B.list B.sorted 'x' (qo.im (jq B.range (e6 (fv (fQ (K:=K)) ij (by rfl) B.len ip 'x') fN))) 'x')))⟩
theorem Rz(D:fC K mg "flat_numbers" (iZ 29))(b:CF Z "numbers_in_order" 2 (fL c))(a:CF Z "flats" 7 (nE c)):CF Z "flat_numbers" 8 (iI c):=zd Z 7 (iI c) ["cutting"] ["cutting"] rfl D λnd d hr=>⟨_, 'x'⟩
theorem Rw(D:fC K mg "dim_sums" (iZ 31))(b:CF Z "flats" 7 (nE c))(d:CF Z "numbers_in_order" 2 (fL c))(a:j9 P w K mg base c.Cutting "dims" 1 (wA K (gw c))):CF Z "dim_sums" 8 (je c):=zd Z 7 (je c) ["cutting","sums","told","flat","number"] ["cutting"] rfl D λnd e hr=>⟨_,(eQ (Al 1 nd (GH 'x' (xI (FI a hr (e7 0)) iR))) (eQ 'x' (eQ (l4 PassesOwn.never rfl (nj B.zip 'x') (xN 2 rfl (jO (iB 3 nd) (jO (iB 4 nd) qL))) (fj (xM 1 (pv 1) 'x' 'x'))) (fj (uz 1 (pv 1))))))⟩
theorem RV(D:fC K mg "how_many_lands" (iZ 32))(b:CF Z "flat_numbers" 8 (iI c)):CP Z "how_many_lands" 9 (iJ c):=kK Z 8 (iJ c) ["cutting"] ["cutting"] rfl D λnd a hr=>⟨_,(fj (iy (fv (rE (K:=K) rfl) AW (by rfl) B.sum Bx (e6 (iV (jh ["number"] [none] a (gJ 'x') (λnd a=>⟨(gK 0 nd),f6,(fv qb yC (by rfl) B.abs ye 'x')⟩))) fN))))⟩
theorem oL{e:Addr}{fd:FuncData}(D:IT K "law" "law" (iZ 44) e fd)(k:CP Z "_law_cell_at" 1 (iD c))(f:CP Z "_law_cutting" 3 (iX c))(a:Eo P w K mg base "Cutting" c.Cutting 5 (BF K c.Cutting (gO c)))(g:CP Z "how_many_lands" 9 (iJ c))(d:CP Z "_law_choices" 1 (jC c))(b:CF Z "dim_sums" 8 (je c))(i:CP Z "_law_plain" 3 (jM c))(h:CF Z "_law_other" 2 (jP c)):lA P w K mg base oZ 10 e fd ["_law_script"] (wA K (qD c)):=PU Z 9 (qD c) ["_law_script","_law_k","_law_cell","_law_dims","_law_cuts","_law_cutting_here","_law_many","_law_most"] ["_law_script"] rfl D λnd j hr=>⟨_,(eQ (l4 PassesOwn.never rfl (gJ 'x') (iB 1 nd) (eQ 'x' (eQ (Km 'x' (xN 2 rfl (jO (iB 3 nd) (jO (iB 4 nd) qL)))) (eQ (hU 5 nd (LB a hr (e6 (e7 3) (e6 (iV (mP (lN (K:=K)) n9 (by rfl) B.list nh 'x')) fN)))) (eQ 'x' (eQ (hU 7 nd (jZ d hr (e6 (fv (fQ (K:=K)) ij (by rfl) B.len ip 'x') 'x'))) (eQ (g9 (yt (ux (gW CW C3 (e7 6) (e7 7)) (qk (rW hr (Lw hr (e7 6) (e7 7)) 'x')))) 'x' fT) (fj (g9 (rW hr (iV (Ce b hr (e6 (LB a hr 'x') fN))) 'x') 'x' fT))))))))) 'x')⟩
end
def Og{l:W.OpenLaw}{w:World}{K:W.Frag}{h:Heap}{mg:Str->Option Value}{c:Cs}{fa f:Addr}{oc kV g pm d ct:Vq}{od an:Option Addr}{osl:Array (Option Value)}(X:K.In h)(G:h.Ns mainGlobals mg)(R:mg "law" = some (.ref fa))
  (a:W.nsIn K mainGlobals "law" = some (some (.ref f))) (lk:K.lookup f=some ⟨oc,od,.func (W.fnOf "law" "law" (iu (iZ 44)) (fR (iZ 44)) (eU (iZ 44)) .none kV g pm an d ct),osl⟩) (cc:W.codeIn K d "law" = true) (kk:W.keepIn K (.ref f)=true)
  (B:Bs mg) (ER:Er c K mg) (LF:∀ns:LI,(qD c) [.scr ns]=.ok (.bl true)) (D0:fC K mg "is_whole" (iZ 5)) (D1:fC K mg "sign_of" (iZ 6)) (D2:fC K mg "common_divisor" (iZ 7)) (D3:fC K mg "first_place" (iZ 15)) (D4:fC K mg "lies_in" (iZ 27)) (D5:fC K mg "_law_cell_at" (iZ 34)) (D6:fC K mg "_law_draw" (iZ 35)) (D7:fC K mg "_law_same" (iZ 36)) (D8:fC K mg "_law_rank" (iZ 39)) (D9:fC K mg "_law_choices" (iZ 41)) (J:fC K mg "lowest" (iZ 8)) (D11:fC K mg "is_dims" (iZ 13)) (D:fC K mg "is_cut" (iZ 14)) (u:fC K mg "same_spots" (iZ 16)) (D14:fC K mg "numbers_in_order" (iZ 28)) (A:fC K mg "_law_cut" (iZ 37)) (D16:fC K mg "_law_flat" (iZ 40)) (U:fC K mg "_law_other" (iZ 43)) (I:fC K mg "cleared" (iZ 9)) (Y:fC K mg "can_stand" (iZ 17)) (o:fC K mg "_law_cutting" (iZ 38)) (D21:fC K mg "_law_plain" (iZ 42)) (r:fC K mg "checked_cuts" (iZ 18)) (H:fC K mg "settled" (iZ 21)) (n:fC K mg "with_pivot" (iZ 22)) (t:fC K mg "pivots_and_rests" (iZ 23)) (C:fC K mg "flat_on" (iZ 25)) (q:fC K mg "flats" (iZ 26)) (D28:fC K mg "flat_numbers" (iZ 29)) (S:fC K mg "dim_sums" (iZ 31)) (z:fC K mg "how_many_lands" (iZ 32)) (M0:jS K c.Cutting "dims" "Cutting.dims" (oR (iZ 19) 1)) (M1:jS K c.Cutting "cuts" "Cutting.cuts" (oR (iZ 19) 2)) (M2:jS K c.Cutting "__init__" "Cutting.__init__" (oR (iZ 19) 0)) :
  ∃fd:FuncData,(∀(s:Sq) (v:Vq),BindsTo s fd ⟨[v],[]⟩ [("_law_script",v)])/\∀b:Heap,K.In b->b.Ns mainGlobals mg->(∀y∈(["flats"]:List Str),El K mg b y)->lA l.prog w K mg b oZ 10 fa fd ["_law_script"] (HG K):=by
 have e:=R.symm.trans (W.mg_of X G a);cases e;refine⟨W.fnOf "law" "law" (iu (iZ 44)) (fR (iZ 44)) (eU (iZ 44)) .none kV g pm an d ct,?bnd,λb _ _ LL=>?main⟩
 case main=>have Z:Zx l.prog w K mg b:=⟨trivial⟩;have O0:=o0 Z B ER D0;have O1:=o1 Z B ER D1;have O2:=o2 Z B ER D2;have O3:=o3 Z B ER D3;have O4:=o4 Z B ER M0;have O5:=o5 Z B ER M1;have O6:=o6 Z B ER D4;have O7:=o7 Z B ER D5;have P:=o8 Z B ER D6;have O9:=o9 Z B ER D7;have O10:=RS Z B ER D8;have Q:=RE Z B ER D9;have N:=RJ Z B ER J O2;have O13:=RG Z B ER D11 O0;have O14:=RL Z B ER D O0;have O15:=Rp Z B ER u O3;have k:=RC Z B ER D14 O6;have O17:=RB Z B ER A P;have O18:=RU Z B ER D16 O10;have O19:=Ru Z B ER U P;have j:=Rx Z B ER I N O1;have O21:=RH Z B ER Y O14 O15;have p:=Rr Z B ER o P O17 O9;have E:=Rq Z B ER D21 O18;have L:=RP Z B ER r O13 O21;have m:=RD Z B ER H j;have O26:=RT Z B ER n j;have O27:=RF Z B ER M2 L;have O28:=RM Z B ER t m O26;have O29:=Rv Z B ER C O28 m;have i:=RO Z B ER q (LL "flats" (by decide)) O5 O4 O29;have O31:=Rz Z B ER D28 k i;have x:=Rw Z B ER S i k O4;have F:=RV Z B ER z O31;exact (oL Z B ER (AU (st:=iZ 44) lk cc kk) O7 p O27 F Q x E O19).imp (FY λns _ _=>LF ns)
 case bnd=>exact λs v=>.of_eq rfl
end K48
namespace PySem.Challenge.cw_cutlands_k48_whole_no_more_lands_holds
def tw11161821519018643959:0=0:=rfl
def tw4556707843221738532:0=0:=rfl
def tw9208022842333975611:0=0:=rfl
def tw15893084710946430566:0=0:=rfl
def tw15216854013753854975:0=0:=rfl
def tw2042078994670335870:0=0:=rfl
def tw6694786516823968997:0=0:=rfl
def tw5946403055401084488:0=0:=rfl
def tw303874556974464281:0=0:=rfl
def tw5500434800143456131:0=0:=rfl
def tw4244749308310071721:0=0:=rfl
def tw9446194384176736968:0=0:=rfl
def tw5640887745291382039:0=0:=rfl
def tw10113535624755560900:0=0:=rfl
def tw10444995103217656304:0=0:=rfl
def tw2875915551392964178:0=0:=rfl
def tw12695829994437962033:0=0:=rfl
def tw11683123828803367895:0=0:=rfl
def tw17648987368190396360:0=0:=rfl
def tw14923354712480865269:0=0:=rfl
def tw10440987640335799012:0=0:=rfl
def tw6702099375233437122:0=0:=rfl
def tw17072912060934488138:0=0:=rfl
def tw8095238929640367832:0=0:=rfl
def tw954590712825254637:0=0:=rfl
def tw12792322288443131619:0=0:=rfl
def tw12068401350553363546:0=0:=rfl
def tw15760256464277508771:0=0:=rfl
def tw9096447890176841027:0=0:=rfl
def tw15488288747544990473:0=0:=rfl
def tw14938641903792138445:0=0:=rfl
def tw976254226586775850:0=0:=rfl
def tw1256952751488576643:0=0:=rfl
def tw2295571228573643476:0=0:=rfl
def tw4387687997863693071:0=0:=rfl
def tw7195203032329249196:0=0:=rfl
def tw2173097832449745238:0=0:=rfl
def tw7958364629140638580:0=0:=rfl
def tw12286158385912945382:0=0:=rfl
def tw14836101055850019626:0=0:=rfl
def tw4939452283690458869:0=0:=rfl
def tw6663489350599090772:0=0:=rfl
def tw9084523125870405897:0=0:=rfl
def tw1454504108656199186:0=0:=rfl
def tw13734124132406895209:0=0:=rfl
def tw12564848912186093758:0=0:=rfl
def tw7586762830610309659:0=0:=rfl
def tw7937745967098191842:0=0:=rfl
def tw16815373197846923877:0=0:=rfl
def tw17153226618185020518:0=0:=rfl
def tw18036976799929348016:0=0:=rfl
def tw7270688402707098480:0=0:=rfl
def tw13007015960852935121:0=0:=rfl
def tw15091889101351307626:0=0:=rfl
def tw10286228526976019284:0=0:=rfl
def tw9110884193610270633:0=0:=rfl
def tw8703775534480732230:0=0:=rfl
def tw9766802980246458075:0=0:=rfl
def tw2827841387981878799:0=0:=rfl
def tw13000009657033171031:0=0:=rfl
def tw4723606224516575405:0=0:=rfl
def tw15896115996020226758:0=0:=rfl
def tw15165360317721905975:0=0:=rfl
def tw47714690228695826:0=0:=rfl
def tw4208521501852120000:0=0:=rfl
def tw1233882766406521398:0=0:=rfl
def tw17770239584721997470:0=0:=rfl
def tw12840321757388206333:0=0:=rfl
def tw3909616688802644004:0=0:=rfl
def tw15684829644280446479:0=0:=rfl
def tw14261256871284501441:0=0:=rfl
def tw7442406363495342306:0=0:=rfl
def tw13857749702148981011:0=0:=rfl
def tw5375321840394414455:0=0:=rfl
def tw10370677563857094951:0=0:=rfl
def tw10512464558658658274:0=0:=rfl
def tw535113922048517479:0=0:=rfl
def tw8534821353912842909:0=0:=rfl
def tw1154691168117841326:0=0:=rfl
def tw17812380672118950614:0=0:=rfl
def tw7218753433854288673:0=0:=rfl
def tw18422519030029114800:0=0:=rfl
def tw8406054693267398963:0=0:=rfl
def tw12364581814852993816:0=0:=rfl
def tw17653581520347317217:0=0:=rfl
def tw14296973763817802428:0=0:=rfl
def tw12547782583104450377:0=0:=rfl
def tw5378136456266326638:0=0:=rfl
def tw13904449593351079335:0=0:=rfl
def tw17431668122824738333:0=0:=rfl
def tw2676475804434735346:0=0:=rfl
def tw7920483457245090178:0=0:=rfl
def tw18060959036082466763:0=0:=rfl
end PySem.Challenge.cw_cutlands_k48_whole_no_more_lands_holds
open PySem PySem.W PyProof.Rows
set_option Elab.async true
theorem PySem.Challenge.cw_cutlands_k48_whole_no_more_lands_holds : PySem.Challenge.rw_cutlands_k48_whole_no_more_lands.Holds := by
 w_on;o_law;k_head;(case hw=>w_witness2);k_fill;refine L3.Ov (l:=PySem.Challenge.rw_cutlands_k48_whole_no_more_lands) (k:=10) (x:= "_law_script") ["flats"] rfl ⟨rfl,by decide,by decide⟩ rfl (λw h Y=>PySem.W.km_in_of Y) ?X ?G ?F
 case X=>exact List.forall_mem_cons.mpr ⟨⟨_,rfl⟩,λ_ h=>nomatch h⟩
 case G=>intro w;kernel_rfl
 case F=>intro w mg fa h KX G hmg;refine' K48.Og KX G hmg ?a ?l ?c ?k ?B ?E (λns=>CL.Ei ns) ?_ ?_ ?_ ?_ ?_ ?_ ?_ ?_ ?_ ?_ ?_ ?_ ?_ ?_ ?_ ?_ ?_ ?_ ?_ ?_ ?_ ?_ ?_ ?_ ?_ ?_ ?_ ?_ ?_ ?_ ?_ ?_ ?_ ?_;(case a=>k_is);(case l=>k_is);(case c=>k_is);(case k=>k_is);(case B=>constructor<;>(apply mg_none_of KX G;k_is));(case E=>apply K48.Qg KX G<;>first | k_is | k_exc | decide);all_goals first | (apply L2.Oc KX G<;>k_is) | (apply K48.OX<;>first | k_is | k_exc | decide)
