import PyProof.Rows.All
import Wide.All
import OpenK.AllK
import Wide.FinOn
import Lean
import PyProof.EqAt
import PyProof.EqKinds
import PyProof.TupleCall
import PyProof.P3Eq
import PyProof.NeData
import PyProof.ConsumeWalk
import PyProof.Rows.SumAny
import PyProof.ZipIter
import PyProof.Rows.ZipGen
import PyProof.Rows.SeqMore
import PyProof.FactsAll.tuple
import PyProof.WalksMore
import PyProof.EnumMake
import PyProof.EnumFor
import PyProof.Rows.MinMaxN
import KE.KDictList
import KE.KRevIter
import KE.KItemsList
import PyProof.Rows.SortWalk
import PyProof.Rows.SetFrom
import PyProof.SetRoads
import PyProof.AttrMissHeap
import KE.KDictOf
import PyProof.ExcInit
import PyProof.ExcClass3
import PyProof.InstStoreFacts
import PyProof.Rows.ChunkEnd
import KE.KSortTup
import KE.KLam
import PySem.Challenge.RW_cutlands_k43_numbers_of_flats
set_option bootstrap.genMatcherCode false
set_option maxRecDepth 100000
set_option maxHeartbeats 0
set_option linter.all false
noncomputable section
set_option compiler.extract_closed false
set_option hygiene false
abbrev Oq:=@Option
abbrev Vq:=PySem.Value
abbrev Sq:=PySem.Shared
abbrev LI:=List Int
abbrev LL:=List LI
section
open PySem
def aa:=@List.getElem?_eq_some_iff
def ae:=@Heap.get?_push_of_some
def af:=@List.getD_eq_getElem?_getD
def ag:=@List.getElem?_eq_getElem
def ai:=@List.mem_append
def aj:=@List.mem_singleton
def ao:=@wpAny_pure
def aq:=@wpAny_bind
def ar:=@List.getElem?_set_ne
def au:=@Heap.get?_push_size
def av:=@List.mem_of_getElem?
def aw:=@List.getElem?_map
def ax:=@List.length_map
def ay:=@List.mem_append_left
def az:=@List.length_cons
def aB:=@decide_eq_false
def aC:=@decide_eq_true
def aD:=@List.mem_map
def aE:=@Nat.lt_of_lt_of_le
def aF:=@List.mem_cons
def aG:=@Nat.zero_add
def aH:=@Bool.false_ne_true
def aI:=@List.map_map
def aK:=@Nat.le_refl
def aL:=@Heap.lt_size
def aM:=@Nat.ne_of_lt
def aN:=@Nat.le_trans
def aO:=@Classical.byContradiction
def aQ:=@if_pos
def aR:=@if_neg
def aS:=@List.mem_range
def aT:=@List.length_append
def aU:=@List.mem_filter
def aV:=@List.getElem_mem
def aW:=@List.of_mem_zip
def aY:=@Int.natAbs_mul
def aZ:=@List.map_append
def a9:=@Nat.lt_irrefl
def bf:=@Nat.le_of_lt
def bg:=@List.filterMap_cons
def bh:=@List.mem_cons_self
def bj:=@List.mem_cons_of_mem
def bp:=@Array.append_assoc
def bq:=@Array.length_toList
def br:=@Nat.ne_of_gt
def bt:=@List.mem_filterMap
def bu:=@List.mem_append_right
def bx:=@Int.natCast_nonneg
def bz:=@List.size_toArray
def bA:=@List.any_eq_false
def bB:=@List.map_cons
def bC:=@Nat.lt_succ_self
def bD:=@Nat.zero_le
def bE:=@List.append_nil
def bF:=@Nat.le_succ
def bG:=@List.nodup_cons
def bH:=@Option.isSome_iff_exists
def bI:=@List.length_take
def bJ:=@Int.toNat_natCast
def bK:=@List.length_drop
def bL:=@Bool.and_eq_true
def bM:=@List.length_set
def bN:=@List.all_cons
def bO:=@List.any_cons
def bP:=@List.replicate_succ
def bQ:=@List.flatten_cons
def bR:=@List.append_assoc
def bS:=@List.length_singleton
def bT:=@Nat.succ_mul
def bU:=@List.map_nil
def bV:=@Nat.le_of_not_lt
def bW:=@List.forIn_cons
def bX:=@Bool.false_eq_true
def bY:=@List.lookup_cons
def bZ:=@Nat.le_of_succ_le
def b9:=@Nat.lt_succ_of_lt
def cf:=@List.forIn_nil
def cg:=@Nat.le_add_right
def cj:=@Nat.le_succ_of_le
def ck:=@Nat.not_lt
def cm:=@List.range_succ_eq_map
def cn:=@List.all_map
def cq:=@List.any_map
def cu:=@List.take_of_length_le
def cw:=@List.all_eq_true
def cx:=@Array.getD_eq_getD_getElem?
def cy:=@Array.forIn_toList
def cz:=@Bool.not_true
def cA:=@Bool.not_false
def cB:=@Nat.lt_of_le_of_lt
def cC:=@List.zip_cons_cons
def cD:=@List.map_inj_right
def cE:=@Option.map_eq_some_iff
def cF:=@List.take_add_one
def cG:=@List.pairwise_singleton
def cH:=@List.map_congr_left
def cI:=@List.pairwise_map
def cJ:=@Int.gcd_dvd_left
def cK:=@Int.gcd_dvd_right
def cL:=@Int.dvd_mul_of_dvd_left
def cN:=@Int.fmod_nonneg_of_pos
def cO:=@Int.fmod_lt_of_pos
def cQ:=@Int.mul_assoc
def cR:=@Int.mul_comm
def cS:=@List.mem_of_find?_eq_some
def cT:=@List.lookup_cons_self
def cU:=@List.drop_eq_getElem_cons
def cV:=@List.mem_nil_iff
def cW:=@List.map_take
def cX:=@Nat.not_lt_zero
def cY:=@Nat.pow_le_pow_right
def cZ:=@Nat.pow_succ
def c0:=@Int.natAbs_add_le
def c5:=@Int.sub_eq_add_neg
def c6:=@List.drop_of_length_le
def c7:=@List.pairwise_cons
def c8:=@Bool.not_eq_true'
def c9:=@List.mergeSort_perm
def dc:=@List.pairwise_mergeSort
def de:=@Int.mul_fdiv_cancel_left
def dg:=@List.cons_append
def dh:=@Nat.two_pow_pos
def dm:=@List.length_nil
def dq:=@Int.one_mul
def du:=@Int.zero_mul
def dw:=@Int.add_zero
def dy:=@Int.zero_add
def dz:=@Int.mul_ne_zero
def dA:=@Int.mul_add
def dB:=@Int.mul_zero
def dC:=@Int.mul_eq_zero
def dD:=@Int.neg_mul
def dE:=@List.pairwise_append
def dF:=@List.take_length
def dG:=@List.length_erase_of_mem
def dH:=@List.mem_of_mem_erase
def dI:=@List.mem_of_mem_take
def dJ:=@List.length_zip
def dM:=@List.any_eq_true
def dN:=@List.take_append_drop
def dO:=@List.length_range
def dP:=@List.eq_nil_or_concat
def dQ:=@Nat.le_antisymm
def dR:=@Int.ofNat_inj
def dS:=@List.filter_congr
def dU:=@List.length_filter_le
def dW:=@Nat.not_succ_le_self
def dX:=@List.not_mem_nil
def dY:=@List.nodup_append
def dZ:=@List.length_filterMap_le
def d6:=@List.append_of_mem
def d7:=@List.forall_mem_cons
end
set_option Elab.async false
namespace L2
open PySem PySem.Spec PyProof.Rows
abbrev lB:=Sum Int Str
noncomputable def uE:lB->Value->Bool
 |.inl k,v=>Value.isInt k v
 |.inr x,v=>Value.isStrOf x v
def M8(w:World):lB->Int
 |.inl k=>hashInt k
 |.inr x=>hashStr w x
theorem gM:∀{k} {v},uE k v=true->(∃i t,k=Sum.inl i/\v=Value.int i t)\/(∃x t,k=Sum.inr x/\v=Value.str x t)
 |.inl i,v,h=>by obtain⟨t,e⟩:=Value.isInt_shape h;exact .inl ⟨i,t,rfl,e⟩
 |.inr x,v,h=>by obtain⟨t,e⟩:=Value.isStrOf_shape h;exact .inr ⟨x,t,rfl,e⟩
def AR i t:uE (.inl i) (.int i t)=true:=by simp[uE,Value.isInt]
def Bc x t:uE (.inr x) (.str x t)=true:=by simp[uE,Value.isStrOf]
def IU a b:decide ((Sum.inl a:lB)=Sum.inl b)=(a==b):=by
 by_cases e:a=b
 .subst e;simp
 .have h:¬(Sum.inl a:lB)=Sum.inl b:=λq=>e (Sum.inl.inj q);rw[aB h];exact (beq_eq_false_iff_ne.mpr e).symm
def Kl a b:decide ((Sum.inr a:lB)=Sum.inr b)=decide (a=b):=by
 by_cases e:a=b
 .subst e;simp
 .have h:¬(Sum.inr a:lB)=Sum.inr b:=λq=>e (Sum.inr.inj q);rw[aB h,aB e]
def IC a b:decide ((Sum.inl a:lB)=Sum.inr b)=false:=aB (λq=>nomatch q)
def JW a b:decide ((Sum.inr a:lB)=Sum.inl b)=false:=aB (λq=>nomatch q)
noncomputable def jh(prog:Program)(w:World):PySem.KeyKind prog w lB where
 is:=uE
 hash:=M8 w
 inj:=λv a b l f=>by
  rcases gM l with⟨i,t,rfl,rfl⟩|⟨x,t,rfl,rfl⟩
  .rcases gM f with⟨j,u,rfl,e⟩|⟨y,u,rfl,e⟩
   .injection e with c _;rw[c]
   .exact nomatch e
  .rcases gM f with⟨j,u,rfl,e⟩|⟨y,u,rfl,e⟩
   .exact nomatch e
   .injection e with c _;rw[c]
 byValue:=λk v h=>by rcases gM h with⟨i,t,rfl,rfl⟩|⟨x,t,rfl,rfl⟩<;>rfl
 pyHash:=λd h=>by
  rcases gM d with⟨i,t,rfl,rfl⟩|⟨x,t,rfl,rfl⟩
  .exact wpAny_pyHash_int h
  .exact wpAny_pyHash_str h
 eqBool:=λg d h=>by
  rcases gM g with⟨i,t,rfl,rfl⟩|⟨x,t,rfl,rfl⟩
  .rcases gM d with⟨j,u,rfl,rfl⟩|⟨y,u,rfl,rfl⟩
   .rw[IU]at h;exact wpAny_eqBool_int h
   .rw[IC]at h;exact SeqAt.EqAt.int_str i t y u _ _ _ _ h
  .rcases gM d with⟨j,u,rfl,rfl⟩|⟨y,u,rfl,rfl⟩
   .rw[JW]at h;exact SeqAt.EqAt.str_int x t j u _ _ _ _ h
   .rw[Kl]at h;exact wpAny_eqBool_str h
 «strs»:=λk x t v h=>by
  rcases gM h with⟨i,u,rfl,e⟩|⟨y,u,rfl,e⟩
  .exact nomatch e
  .injection e with c _;subst c;cases v<;>rfl
def wU prog w i t:(jh prog w).is (.inl i) (.int i t)=true:=AR i t
def xb prog w x t:(jh prog w).is (.inr x) (.str x t)=true:=Bc x t
end L2
namespace L2
open PySem PySem.Spec PyProof.Rows
inductive V where
 |non|bl (b:Bool)|int (i:Int)|str (x:Str)|byt (b:Array UInt8)|flt (b:UInt64)|ref (a:Addr)|ty (n:String)
 deriving DecidableEq
def fO:V->Value->Prop
 |.non,u=>u=Value.none
 |.bl b,u=>u=Value.bool b
 |.int i,u=>∃t,u=Value.int i t
 |.str x,u=>∃t,u=Value.str x t
 |.byt b,u=>∃t,u=Value.bytes b t
 |.flt b,u=>∃t,u=Value.float b t
 |.ref a,u=>u=Value.ref a
 |.ty n,u=>u=Value.type n
abbrev fu:List V->List Value->Prop:=Paired fO
def fu.length(r:fu xs us):xs.length=us.length:=Paired.length r
theorem fu.get:∀{a:List V} {us:List Vq} {i:Nat} {x:V},fu a us->a[i]? = some x->∃u,us[i]? = some u/\fO x u
 |_,_,_,_,.nil,e=>by simp at e
 |_,_,0,_,.cons r _,e=>by simp at e;subst e;exact⟨_,rfl,r⟩
 |_,_,i+1,x,.cons _ t,e=>by obtain⟨u,b,c⟩:=fu.get t (by simpa using e);exact⟨u,by simpa using b,c⟩
theorem fu.set(r:fO x u):∀{xs} {us} i,fu xs us->fu (xs.set i x) (us.set i u)
 |_,_,_,.nil=>.nil
 |_,_,0,.cons _ t=>.cons r t
 |_,_,i+1,.cons q t=>.cons q (fu.set r i t)
theorem fu.append:∀{xs ys} {us ws},fu xs us->fu ys ws->fu (xs++ys) (us++ws)
 |_,_,_,_,.nil,s=>s
 |_,_,_,_,.cons r t,s=>.cons r (fu.append t s)
theorem fu.take:∀{xs} {us} n,fu xs us->fu (xs.take n) (us.take n)
 |_,_,0,_=>.nil
 |_,_,_+1,.nil=>.nil
 |_,_,n+1,.cons r t=>.cons r (fu.take n t)
theorem fu.drop:∀{xs} {us} n,fu xs us->fu (xs.drop n) (us.drop n)
 |_,_,0,r=>r
 |_,_,_+1,.nil=>.nil
 |_,_,n+1,.cons _ t=>fu.drop n t
def vL:Oq V->Option Value->Prop
 |some v,some u=>fO v u
 |none,none=>True
 |_,_=>False
def KV{a:Type}:List (a×V)->List (a×Value)->Prop:=Paired λ(p:a×V) (q:a×Value)=>p.1=q.1/\fO p.2 q.2
def kV:lB->V
 |.inl i=>.int i
 |.inr x=>.str x
inductive HO where
 |lst (xs:List V)
 |tup (xs:List V)
 |dK (kvs:List (lB×V))|dT (kvs:List (List lB×V))
 |set (S:Int->Bool) (n:Nat)
 |ins (C dx:Addr) (fs:List (Str×V))
 |own (x:Addr)
 |xd (fs:List (Str×V))
 |met (f x:Addr)
 |rng (lo hi:Int)
 |frz (o:Obj) (u:HO)
 |tbl (q:Str) (ps:Array Vq)
 |ext (φ:Heap->Prop)
abbrev Hp:=Addr->Option HO
noncomputable def fN(H:Hp)(a:Addr)(o:HO):Hp:=λb=>if b=a then some o else H b
def eJ:fN H a o a=some o:=by unfold fN;rw[aQ rfl]
def eM(h:b≠a):fN H a o b=H b:=by unfold fN;rw[aR h]
def eV{H:Hp}(h:H a=some o)(h':H b=none):a≠b:=by intro e;subst e;rw[h]at h';cases h'
section
variable (P:Program)(w:World)
def vp(h:Heap)(a:Addr)(b:Array Vq):Prop:=∃o,h.get? a=some o/\o.cls=.type "tuple" /\∃n,o.data=.seq b n/\o.dict=none
def vp.tup(x:vp h a items):IsTup h a items:=let ⟨o,e,c,n,d,_⟩:=x;⟨o,e,c,n,d⟩
def vp.new(h:Heap) items:vp (h.push {cls:=.type "tuple",data:=.seq items}) h.objs.size items:=⟨_,au _ rfl,rfl,_,rfl,rfl⟩
def jc:List Vq->List Value
 |_::_::c::r=>c::jc r
 |_=>[]
def gq(H:Hp)(h:Heap)(a:Addr):HO->Prop
 |.lst c=>c.length<=sizeLine/\∃(its:List Vq) (n:Nat),fu c its/\h.get? a=some {cls:=.type "list",data:=.seq its.toArray n}
 |.tup c=>c.length<=sizeLine/\∃its:List Vq,fu c its/\vp h a its.toArray
 |.dK kvs=>kvs.length<=sizeLine/\(a==sysModules)=false/\∃vs,KV kvs vs/\h.DictOf (jh P w) a vs
 |.dT kvs=>kvs.length<=sizeLine/\(a==sysModules)=false/\∃c:List (List lB×Addr×Value),
   Paired (λ(p:List lB×V) (q:List lB×Addr×Value)=>p.1=q.1/\H q.2.1=some (.tup (p.1.map kV))/\fO p.2 q.2.2) kvs c/\
   ∃o g j,h.get? a=some o/\o.ExactDict/\o.data=.dict g j/\g.toList=c.map (entryOfKey (tupleKind (jh P w)))/\(c.map (·.1)).Nodup
 |.set S n=>h.SetOf (intKind P w) a S n
 |.ins C dx fs=>H dx=some (.own a)/\fs.length<=1000/\dx≠a/\h.get? a=some (W.instObj C dx)/\
   ∃d,h.Ns1 dx d/\(∀f,vL (fs.lookup f) (d f))/\PySem.Within d (fs.map (·.1))
 |.own _=>∃o,h.get? a=some o
 |.xd fs=>∃d,h.Ns1 a d/\∀f,vL (fs.lookup f) (d f)
 |.rng lo hi=>∃t u v,h.get? a=some {cls:=.type "range",data:=.fields #[.int lo t,.int hi u,.int 1 v]}
 |.frz o u=>h.get? a=some o/\gq H h a u
 |.tbl q ps=>h.get? a=some {cls:=.none,data:=.fields ps}/\TriplesOk ps.toList/\∀v∈jc ps.toList,∃b,v=.ref b/\H b=some (.own a)/\h.CodeRec (.ref b) q
 |.met f x=>h.get? a=some (W.methodObj (.ref f) (.ref x))
 |.ext φ=>φ h/\(∃o,h.get? a=some o)/\∀e i:Heap,φ e->(∀o,e.get? a=some o->i.get? a=some o)->φ i
def nv(H:Hp)(h:Heap):Prop:=∀a o,H a=some o->gq P w H h a o
end
section
variable {P:Program}{w:World}{H H':Hp}{h h':Heap}{a:Addr}{o:HO}
def gq.lt(x:gq P w H h a o):a<h.objs.size:=by
 cases o with
 |lst xs=>obtain⟨_,_,_,_,e⟩:=x;exact aL e
 |tup xs=>obtain⟨_,_,_,p⟩:=x;exact (vp.tup p).lt
 |dK kvs=>obtain⟨_,_,_,_,o,_,_,e,_⟩:=x;exact aL e
 |dT kvs=>obtain⟨_,_,_,_,o,_,_,e,_⟩:=x;exact aL e
 |set S n=>obtain⟨o,_,_,_,e,_⟩:=x;exact aL e
 |ins C dx fs=>obtain⟨_,_,_,e,_⟩:=x;exact aL e
 |own y=>obtain⟨_,e⟩:=x;exact aL e
 |xd fs=>obtain⟨_,⟨_,_,_,e,_⟩,_⟩:=x;exact aL e
 |rng lo hi=>obtain⟨_,_,_,e⟩:=x;exact aL e
 |frz ob u=>obtain⟨e,_⟩:=x;exact aL e
 |tbl q ps=>exact aL x.1
 |met f y=>exact aL (x)
 |ext φ=>obtain⟨_,⟨_,e⟩,_⟩:=x;exact aL e
theorem Paired.mapP{F G:α->β->Prop}:∀{l₁} {l₂},Paired F l₁ l₂->(∀a b,F a b->G a b)->Paired G l₁ l₂
 |_,_,.nil,_=>.nil
 |_,_,.cons r t,f=>.cons (f _ _ r) (Paired.mapP t f)
def Paired.imp'{F G:α->β->Prop}(f:∀a b,F a b->G a b){c:List α}{l₂:List β}(r:Paired F c l₂):Paired G c l₂:=Paired.mapP r f
theorem gq.stay(x:gq P w H h a o)(k:∀b u,(b=a\/H b=some (.own a))->h.get? b=some u->h'.get? b=some u)
  (I:∀b,H b=some (.own a)->H' b=some (.own a)) (K:∀b m,H b=some (.tup m)->H' b=some (.tup m)):gq P w H' h' a o:=by
 induction o with
 |lst m=>obtain⟨z,l,n,r,e⟩:=x;exact⟨z,l,n,r,k _ _ (.inl rfl) e⟩
 |tup m=>obtain⟨z,l,r,g,e,c⟩:=x;exact⟨z,l,r,g,k _ _ (.inl rfl) e,c⟩
 |dK kvs=>obtain⟨z,y,B,r,g,i,j,e,c⟩:=x;exact⟨z,y,B,r,g,i,j,k _ _ (.inl rfl) e,c⟩
 |dT kvs=>obtain⟨z,y,m,r,g,i,j,e,c⟩:=x;exact⟨z,y,m,Paired.mapP r λp q z=>⟨z.1,K _ _ z.2.1,z.2.2⟩,g,i,j,k _ _ (.inl rfl) e,c⟩
 |set S n=>obtain⟨g,i,j,t,e,c⟩:=x;exact⟨g,i,j,t,k _ _ (.inl rfl) e,c⟩
 |ins C dx fs=>obtain⟨d,z,ne,e,s,⟨A,i,j,D,c⟩,r⟩:=x;exact⟨I _ d,z,ne,k _ _ (.inl rfl) e,s,⟨A,i,j,k _ _ (.inr d) D,c⟩,r⟩
 |own y=>obtain⟨g,e⟩:=x;exact⟨g,k _ _ (.inl rfl) e⟩
 |xd fs=>obtain⟨s,⟨A,i,j,e,c⟩,r⟩:=x;exact⟨s,⟨A,i,j,k _ _ (.inl rfl) e,c⟩,r⟩
 |rng lo hi=>obtain⟨t,u,v,e⟩:=x;exact⟨t,u,v,k _ _ (.inl rfl) e⟩
 |frz g u ih=>obtain⟨e,q⟩:=x;exact⟨k _ _ (.inl rfl) e,ih q⟩
 |tbl q ps=>obtain⟨e,t,R⟩:=x;refine⟨k a _ (.inl rfl) e,t,λv U=>?_⟩;obtain⟨b,N,F,c,o,B,J,Q,D,L⟩:=R v U;cases Q;exact⟨_,N,I _ F,_,o,B,J,rfl,k _ _ (.inr F) D,L⟩
 |met f y=>have e:=x;exact k a _ (.inl rfl) e
 |ext φ=>obtain⟨p,⟨o,e⟩,E⟩:=x;exact⟨E _ _ p λo q=>k _ _ (.inl rfl) q,⟨o,k _ _ (.inl rfl) e⟩,E⟩
def nv.lt(x:nv P w H h)(e:H a=some o):a<h.objs.size:=(x a o e).lt
def nv.fresh(x:nv P w H h)(e:h.objs.size<=a):H a=none:=by
 cases q:H a with
 |none=>rfl
 |some u=>exact absurd (aE (x.lt q) e) (a9 _)
def nv.kept(x:nv P w H h)(k:∀b u,h.get? b=some u->h'.get? b=some u):nv P w H h':=λa o e=>(x a o e).stay (λb u _ q=>k b u q) (λ_ q=>q) λ_ _ q=>q
def nv.laid(x:nv P w H h)(k:∀b u,h.get? b=some u->h'.get? b=some u)(g:h.objs.size<=a)(new:gq P w (fN H a o) h' a o):nv P w (fN H a o) h':=λb u e=>by
 have f:=x.fresh g;by_cases d:b=a
 .subst d;rw[eJ]at e;cases e;exact new
 .rw[eM d]at e;exact (x b u e).stay (λc v _ q=>k c v q) (λc q=>by rw[eM (eV q f)];exact q) λc i q=>by rw[eM (eV q f)];exact q
end
def Rd(H:Hp)(a:Addr)(u:HO):Prop:=H a=some u\/∃o,H a=some (.frz o u)
def Rd.ok(r:Rd H a u)(x:nv P w H h):gq P w H h a u:=by
 rcases r with r|⟨o,r⟩
 .exact x a u r
 .obtain⟨_,q⟩:=x a _ r;exact q
def Ls:Oq HO->Prop
 |some (.lst _)=>True
 |some (.dK _)=>True
 |some (.dT _)=>True
 |some (.set _ _)=>True
 |some (.ins _ _ _)=>True
 |some (.ext _)=>True
 |_=>False
section
variable {P:Program}{w:World}{H:Hp}{h h':Heap}{x e:Addr}{o':HO}
def nv.write(ok:nv P w H h)(i:Ls (H x))(n:e=x\/H e=some (.own x))(k:∀b u,b≠e->h.get? b=some u->h'.get? b=some u)(m:∃u,h'.get? e=some u)
  (new:gq P w (fN H x o') h' x o'):nv P w (fN H x o') h':=λb u q=>by
 have d:∀c y,H c=some (.own y)->c≠x:=λc y r z=>by subst z;rw[r]at i;exact i
 have f:∀c j,H c=some (.tup j)->c≠x:=λc j r z=>by subst z;rw[r]at i;exact i
 by_cases l:b=x
 .subst l;rw[eJ]at q;cases q;exact new
 .rw[eM l]at q;by_cases a:b=e
  .have o:H b=some (.own x):=by
    rcases n with z|z
    .exact absurd (a.trans z) l
    .rw[a];exact z
   rw[q]at o;cases o;obtain⟨v,p⟩:=m;exact⟨v,by rw[a];exact p⟩
  .refine (ok b u q).stay (λc v g r=>k c v ?_ r) (λc r=>by rw[eM (d c b r)];exact r) λc j r=>by rw[eM (f c j r)];exact r
   rcases g with rfl|g
   .exact a
   .rintro rfl;rcases n with z|z
    .exact d c b g z
    .rw[g]at z;cases z;exact l rfl
end
structure Un(fs ex:List Addr)(H H':Hp)(h h':Heap):Prop where
 keep:∀b o,h.get? b=some o->H b=none->b∉fs->b∉ex->h'.get? b=some o
 slot:∀b o,h.get? b=some o->H b=none->b∈fs->b∉ex->∃sl,h'.get? b=some {o with slots:=sl}
 free:∀b o,h.get? b=some o->H b=none->b∉ex->H' b=none
 there:∀b o,h.get? b=some o->b∉ex->∃o',h'.get? b=some o'
 tups:∀b xs,H b=some (.tup xs)->H' b=some (.tup xs)
 frzs:∀b o u,H b=some (.frz o u)->H' b=some (.frz o u)
 tbls:∀b q ps,H b=some (.tbl q ps)->∃more,H' b=some (.tbl q (ps++more))
section
variable {fs fs' ex ex':List Addr}{H H1 H2:Hp}{h h1 h2 h':Heap}{a x e:Addr}{o:HO}
def Un.any(u:Un fs ex H H1 h h1)(q:h.get? b=some ob)(n:H b=none)(d:b∉ex):∃f,h1.get? b=some {ob with slots:=f}:=by
 by_cases c:b∈fs
 .exact u.slot b ob q n c d
 .exact⟨ob.slots,u.keep b ob q n c d⟩
def Un.kept(k:∀b u,h.get? b=some u->h'.get? b=some u):Un fs ex H H h h':=⟨λb c q _ _ _=>k b c q,λb c q _ _ _=>⟨c.slots,k b c q⟩,λ_ _ _ n _=>n,λb c q _=>⟨c,k b c q⟩,λ_ _ q=>q,λ_ _ _ q=>q,λ_ _ d q=>⟨#[],by rw[q];simp⟩⟩
def Un.refl:Un fs ex H H h h:=Un.kept λ_ _ q=>q
def Un.laid(k:∀b u,h.get? b=some u->h'.get? b=some u)(f:h.objs.size<=a)(c:H a=none):Un fs ex H (fN H a o) h h' where
 keep:=λb u q _ _ _=>k b u q
 slot:=λb u q _ _ _=>⟨u.slots,k b u q⟩
 free:=λb u q n _=>by rw[eM (aM (aE (aL q) f))];exact n
 there:=λb u q _=>⟨u,k b u q⟩
 tups:=λb d q=>by rw[eM (eV q c)];exact q
 frzs:=λb u d q=>by rw[eM (eV q c)];exact q
 tbls:=λb _ g q=>⟨#[],by rw[eM (eV q c),q];simp⟩
def Un.write(d:Ls (H x))(l:e=x\/H e=some (.own x))(k:∀b u,b≠e->h.get? b=some u->h'.get? b=some u)(g:∃u,h'.get? e=some u):Un fs ex H (fN H x o) h h':=by
 have j:∀b,H b=none->b≠x:=λb n z=>by subst z;rw[n]at d;exact d
 have i:∀b,H b=none->b≠e:=λb n z=>by
  subst z;rcases l with r|r
  .exact j b n r
  .rw[n]at r;cases r
 have f:∀b u,H b=some u->¬Ls (some u)->b≠x:=λb u q m z=>by subst z;rw[q]at d;exact m d
 refine⟨λb u q n _ _=>k b u (i b n) q,λb u q n _ _=>⟨u.slots,k b u (i b n) q⟩,λb u q n _=>by rw[eM (j b n)];exact n,λb u q _=>?_,
  λb p q=>by rw[eM (f b _ q λz=>z)];exact q,λb u p q=>by rw[eM (f b _ q λz=>z)];exact q,λb _ s q=>⟨#[],by rw[eM (f b _ q λz=>z),q];simp⟩⟩
 by_cases c:b=e
 .subst c;exact g
 .exact⟨u,k b u c q⟩
end
noncomputable def L4(h:Heap)(H:Hp):List Addr:=(List.range h.objs.size).filter λa=>(H a).isSome
def DG(h:Heap)(H:Hp):Heap:=W.hideAll h (L4 h H)
def AG h H:(DG h H).objs.size=h.objs.size:=W.hideAll_size _ _
def CD(e:h.get? b=some o)(n:H b=none):(DG h H).get? b=some o:=W.hideAll_get _ e λa=>by have q:=(aU.mp a).2;rw[n]at q;simp at q
def Hx(e:(DG h H).get? b=some o):h.get? b=some o/\H b=none:=by
 have a:=W.of_hideAll (L4 h H) e;refine⟨a,?_⟩;cases q:H b with
 |none=>rfl
 |some x=>have c:b∈L4 h H:=aU.mpr ⟨aS.mpr (aL a),by simp[q]⟩;have z:(DG h H).get? b=none:=W.hideAll_none (L4 h H) c;rw[z]at e;cases e
end L2
namespace L2
open PySem PySem.Spec PyProof.Rows
structure Mod(K:W.Frag)(mg:Str->Option Value)(base:Heap):Prop where
 kin:K.In base
 glob:base.Ns mainGlobals mg
 blt:∃mb,base.Ns builtinsNs mb/\∀x:Str,x≠ "__name__" ->mb x=bootBuiltins x
 nolimit:base.NoLimit
def zL(a:Heap)(H:Hp):Prop:=∀c P b,(c,P)∈a.life.ids->a.CodeRec (.ref c) b->∃d,H P=some (.tbl (b++ ".<locals>.<lambda>") d)
structure Cx where
 prog:Program
 w:World
 K:W.Frag
 mg:Str->Option Value
 base:Heap
 A:Around
 N:List Str
 s₀:Sq
 H₀:Hp
 env:Env
 outer:List Env
 stack:List Env
 ex:List Addr
 fn:Str->Bool
 calm:Bool
 pn:List (Addr×Obj)
 xe:Vq->Shared->Prop
noncomputable def Ab(l:List Env):List Addr:=l.filterMap (·.frame)
abbrev Cx.fs(X:Cx):List Addr:=Ab X.outer
def KD(a:Scope)(x:Str):Prop:=a.names.lookup x=some .local\/a.names.lookup x=some .cell\/a.names.lookup x=some .free
def Bi(a:Scope)(x:Str):Prop:=a.names.lookup x=some .local\/a.names.lookup x=some .cell
def ML(a:Env)(h:Heap)(m:Str->Option Value)(x:Str)(u:Vq):Prop:=(a.kindOf x=some .local/\m x=some u)\/((a.kindOf x=some .cell\/a.kindOf x=some .free)/\∃c,a.cells.lookup x=some c/\h.IsCell c (some u))
structure Cx.Ok(X:Cx):Prop where
 mod:Mod X.K X.mg X.base
 kind:X.env.scope.kind=.function
 glob:X.env.globals=mainGlobals
 blt:X.env.builtins=builtinsNs
 above:X.s₀.heap.objs.size<=X.env.locals
 inj:∀x y c,X.env.cells.lookup x=some c->X.env.cells.lookup y=some c->x=y
 has:∀x,(X.env.kindOf x=some .cell\/X.env.kindOf x=some .free)->∃c,X.env.cells.lookup x=some c
 cab:∀x c,X.fn x=true->X.env.cells.lookup x=some c->X.s₀.heap.objs.size<=c
 hd:X.calm=true->X.A.handled=none
 frames:X.A.frames=some X.stack
 stk:X.stack=X.outer\/(X.stack=X.env::X.outer/\X.env.frame=some X.env.locals)
 exf:∀b∈X.ex,b≠X.env.locals/\∀x c,X.env.cells.lookup x=some c->c≠b
 bs:∀b o,X.base.get? b=some o->X.s₀.heap.get? b=some o/\X.H₀ b=none
 bsz:X.base.objs.size<=X.s₀.heap.objs.size
 noex:∀b o,X.base.get? b=some o->b∉X.ex
 exfs:∀b∈X.ex,b∉X.fs
 funs:X.s₀.heap.FunFrames X.base X.outer
 frf:∀b∈X.fs,X.H₀ b=none
 tab:zL X.base X.H₀
structure eO(X:Cx)(eh:List (Addr×Obj))(σ:List (Option V))(H:Hp)(s:Sq):Prop where
 ok:X.Ok
 os:s.os=X.s₀.os
 bare:AllBare s.gens
 base:Un X.fs X.ex X.H₀ H X.s₀.heap s.heap
 loc:∃m,s.heap.Ns X.env.locals m/\∀(i:Nat) (x:Str) (v:V),X.N[i]? = some x->σ[i]? = some (some v)->KD X.env.scope x->∃u,fO v u/\ML X.env s.heap m x u
 cell:∀x c,X.env.cells.lookup x=some c->∃v,s.heap.IsCell c v
 free:H X.env.locals=none
 freeC:∀x c,X.env.cells.lookup x=some c->H c=none
 pin:∀p∈X.pn++eh,s.heap.get? p.1=some p.2/\H p.1=none/\p.1≠X.env.locals/\p.1∉X.fs/\∀v,p.2.data≠.cell v
 hok:nv X.prog X.w H s.heap
 len:σ.length=X.N.length
section
variable {X:Cx}{eh:List (Addr×Obj)}{σ:List (Option V)}{H H':Hp}{s:Sq}{h':Heap}
def Cx.Ok.nofr(ok:X.Ok)(e:X.base.get? b=some o):b∉X.fs:=λa=>by have:=(ok.funs.mem a).1;rw[e]at this;cases this
def eO.bs(I:eO X eh σ H s):∀b o,X.base.get? b=some o->s.heap.get? b=some o/\H b=none:=λb o e=>⟨I.base.keep b o (I.ok.bs b o e).1 (I.ok.bs b o e).2 (I.ok.nofr e) (I.ok.noex b o e),I.base.free b o (I.ok.bs b o e).1 (I.ok.bs b o e).2 (I.ok.noex b o e)⟩
def eO.tab(I:eO X eh σ H s):zL X.base H:=λc P d a b=>let ⟨ps,e⟩:=I.ok.tab c P d a b;let ⟨more,q⟩:=I.base.tbls _ _ ps e;⟨ps++more,q⟩
def eO.bk(I:eO X eh σ H s):∀b o,X.base.get? b=some o->s.heap.get? b=some o:=λb o e=>(I.bs b o e).1
def eO.mod(I:eO X eh σ H s):Mod X.K X.mg X.base:=I.ok.mod
def eO.kIn(I:eO X eh σ H s):X.K.In s.heap:=I.ok.mod.kin.keeps I.bk
def eO.lt(I:eO X eh σ H s):X.env.locals<s.heap.objs.size:=let ⟨_,hn,_⟩:=I.loc;hn.lt
def eO.sz(I:eO X eh σ H s):X.s₀.heap.objs.size<=s.heap.objs.size:=aN I.ok.above (bf I.lt)
def eO.nofs(I:eO X eh σ H s)(h:s.heap.objs.size<=a):a∉X.fs:=λb=>by obtain⟨_,o,c,_⟩:=I.ok.funs.mem b;exact absurd (aE (aL c) (aN I.sz h)) (a9 _)
def eO.cne(I:eO X eh σ H s):∀x c,X.env.cells.lookup x=some c->c≠X.env.locals:=λx c e z=>by obtain⟨v,o,d,f⟩:=I.cell x c e;obtain⟨m,⟨i,g,h,b,a,_⟩,_⟩:=I.loc;rw[z,b]at d;cases d;rw[a]at f;cases f
def eO.funs(I:eO X eh σ H s):s.heap.FunFrames X.base X.outer:=by
 have all:∀(l:List Env),(∀b∈Ab l,b∈X.fs)->X.s₀.heap.FunFrames X.base l->s.heap.FunFrames X.base l:=by
  intro l;induction l with
  |nil=>intro _ _;trivial
  |cons env r ih=>intro f h;obtain⟨m,⟨L,o,a,k,j,i⟩,g⟩:=h;have c:=f L (by unfold Ab;rw[bg,a];exact bh);obtain⟨n,e⟩:=I.base.slot L o j (I.ok.frf L c) c λz=>I.ok.exfs L z c;exact⟨m,⟨L,_,a,k,e,i⟩,ih (λb d=>f b (by unfold Ab;rw[bg,a];exact bj _ d)) g⟩
 exact all X.outer (λ_ d=>d) I.ok.funs
def eO.stack(I:eO X eh σ H s):s.heap.FunFrames X.base X.stack:=by
 rcases I.ok.stk with e|⟨e,a⟩
 .rw[e];exact I.funs
 .rw[e];obtain⟨m,b,_⟩:=I.loc;refine .cons (by rw[I.ok.kind];decide) a b ?_ I.funs;exact Heap.get?_none_of_le (aN I.ok.bsz I.ok.above)
def eO.stkSub(I:eO X eh σ H s):∀b∈Ab X.stack,b∈X.env.locals::X.fs:=λb a=>by
 rcases I.ok.stk with e|⟨e,c⟩
 .rw[e]at a;exact bj _ a
 .rw[e]at a;unfold Ab at a;rw[bg,c]at a;exact a
def eO.stkFree(I:eO X eh σ H s):∀b∈Ab X.stack,H b=none:=λb a=>by
 rcases aF.mp (I.stkSub b a) with e|a
 .rw[e];exact I.free
 .obtain⟨_,o,c,_⟩:=I.ok.funs.mem a;exact I.base.free b o c (I.ok.frf b a) λz=>I.ok.exfs b z a
def eO.step{ch:List Addr}(I:eO X eh σ H s)
  (j:∀b∈ch,(b∈X.ex\/X.s₀.heap.objs.size<=b)/\b≠X.env.locals/\(∀x c,X.env.cells.lookup x=some c->c≠b)/\∀p∈X.pn++eh,p.1≠b)
  (h:∀b o,b≠X.env.locals->b∉X.fs->b∉ch->s.heap.get? b=some o->H b=none->h'.get? b=some o)
  (B:∀b o,b≠X.env.locals->b∈X.fs->b∉ch->s.heap.get? b=some o->H b=none->∃U,h'.get? b=some {o with slots:=U}) (free:∀b o,b∉ch->s.heap.get? b=some o->H b=none->H' b=none)
  (D:∀b o,b∉ch->s.heap.get? b=some o->∃F,h'.get? b=some F)
  (Q:∀b A,H b=some (.tup A)->H' b=some (.tup A)) (P:∀b o u,H b=some (.frz o u)->H' b=some (.frz o u)) (L:∀b q R,H b=some (.tbl q R)->∃N,H' b=some (.tbl q (R++N)))
  (ns:∀m,s.heap.Ns X.env.locals m->h'.Ns X.env.locals m) (Z:nv X.prog X.w H' h') (hg:AllBare g') :
  eO X eh σ H' {s with heap:=h',gens:=g',drawn:=d',toks:=t'}:=by
 have J:∀b o,X.s₀.heap.get? b=some o->b≠X.env.locals:=λb o e=>aM (aE (aL e) I.ok.above);have t:∀b o,X.s₀.heap.get? b=some o->b∉X.ex->b∉ch:=λb o e a C=>by
  rcases (j b C).1 with z|z
  .exact a z
  .exact absurd (aE (aL e) z) (a9 _)
 have g:∀x c,X.env.cells.lookup x=some c->∀v,s.heap.IsCell c v->h'.IsCell c v:=λx c e v ⟨o,E,Y⟩=>by
  have f:c∉ch:=λz=>(j c z).2.2.1 x c e rfl;by_cases hc:c∈X.fs
  .obtain⟨U,q⟩:=B c o (I.cne x c e) hc f E (I.freeC x c e);exact⟨_,q,Y⟩
  .exact⟨o,h c o (I.cne x c e) hc f E (I.freeC x c e),Y⟩
 refine⟨I.ok,I.os,hg,⟨λb o e n C a=>?_,λb o e n C a=>?_,λb o e n a=>?_,λb o e a=>?_,λb A e=>Q b A (I.base.tups b A e),λb o A e=>P b o A (I.base.frzs b o A e),λb _ R e=>?_⟩,?_,λx c e=>?_,?_,λx c e=>?_,λp hp=>?_,Z,I.len⟩
 .exact h b o (J b o e) C (t b o e a) (I.base.keep b o e n C a) (I.base.free b o e n a)
 .obtain⟨U,y⟩:=I.base.slot b o e n C a;obtain⟨S,K⟩:=B b _ (J b o e) C (t b o e a) y (I.base.free b o e n a);exact⟨S,K⟩
 .obtain⟨F,y⟩:=I.base.there b o e a;exact free b F (t b o e a) y (I.base.free b o e n a)
 .obtain⟨F,y⟩:=I.base.there b o e a;exact D b F (t b o e a) y
 .obtain⟨m1,y⟩:=I.base.tbls b _ R e;obtain⟨m2,K⟩:=L b _ _ y;exact⟨m1++m2,by rw[K,bp]⟩
 .obtain⟨m,hn,hl⟩:=I.loc;refine⟨m,ns m hn,λi x v y K e3=>?_⟩;obtain⟨u,r,l⟩:=hl i x v y K e3;refine⟨u,r,?_⟩;rcases l with l|⟨k,c,e,z⟩
  .exact .inl l
  .exact .inr ⟨k,c,e,g x c e _ z⟩
 .obtain⟨v,z⟩:=I.cell x c e;exact⟨v,g x c e v z⟩
 .obtain⟨m,⟨o,_,_,E,_⟩,_⟩:=I.loc;exact free _ o (λz=>(j _ z).2.1 rfl) E I.free
 .obtain⟨v,o,E,Y⟩:=I.cell x c e;exact free c o (λz=>(j c z).2.2.1 x c e rfl) E (I.freeC x c e)
 .obtain⟨e,n,ne,nf,d⟩:=I.pin p hp;have f:p.1∉ch:=λz=>(j p.1 z).2.2.2 p hp rfl;exact⟨h p.1 p.2 ne nf f e n,free p.1 p.2 f e n,ne,nf,d⟩
def eO.un(I:eO X eh σ H s)(u:Un X.fs [] H H' s.heap h')(f:nv X.prog X.w H' h'):eO X eh σ H' {s with heap:=h',toks:=t'}:=by obtain⟨m,⟨o,l,q,h,r⟩,_⟩:=id I.loc;obtain⟨t,j⟩:=u.any h I.free (by simp);exact I.step (ch:=[]) (λ_ z=>nomatch z) (λb o _ d _ e n=>u.keep b o e n d (by simp)) (λb o _ d _ e n=>u.slot b o e n d (by simp)) (λb o _ e n=>u.free b o e n (by simp)) (λb o _ e=>u.there b o e (by simp)) u.tups u.frzs u.tbls (λv k=>by obtain⟨p,c,g,a,i⟩:=k;rw[h]at a;cases a;exact⟨_,c,g,j,i⟩) f I.bare
def eO.call(I:eO X eh σ H s)(u:Un (Ab X.stack) ch H H' s.heap h')(i:nv X.prog X.w H' h')(v:AllBare g')
  (f:∀b∈ch,(b∈X.ex\/X.s₀.heap.objs.size<=b)/\b≠X.env.locals/\(∀x c,X.env.cells.lookup x=some c->c≠b)/\∀p∈X.pn++eh,p.1≠b) :
  eO X eh σ H' {s with heap:=h',gens:=g',drawn:=d',toks:=t'}:=by
 obtain⟨m,⟨o,y,B,k,r⟩,_⟩:=id I.loc;obtain⟨C,g⟩:=u.any k I.free λz=>(f _ z).2.1 rfl;exact I.step f (λb o g q a e n=>u.keep b o e n (λz=>(aF.mp (I.stkSub b z)).elim g q) a) (λb o _ _ a e n=>u.any e n a) (λb o a e n=>u.free b o e n a) (λb o a e=>u.there b o e a) u.tups u.frzs u.tbls (λD t=>by obtain⟨A,h,j,d,l⟩:=t;rw[k]at d;cases d;exact⟨_,h,j,g,l⟩) i v
def eO.turned(I:eO X eh σ H s)(k:∀b o,b≠it->s.heap.get? b=some o->h'.get? b=some o)(A:H it=none)(f:it≠X.env.locals)
  (g:it∈X.ex\/X.s₀.heap.objs.size<=it) (j:∀x c,X.env.cells.lookup x=some c->c≠it) (i:∀p∈X.pn++eh,p.1≠it):eO X eh σ H {s with heap:=h',toks:=t'}:=by
 have d:∀b u,H b=some u->b≠it:=λb u e z=>by rw[z,A]at e;cases e
 refine I.step (ch:=[it]) (λb t=>?_) (λb o _ _ a e _=>k b o (λz=>a (by simp[z])) e) (λb o _ _ a e _=>⟨o.slots,k b o (λz=>a (by simp[z])) e⟩) (λ_ _ _ _ n=>n)
  (λb o a e=>⟨o,k b o (λz=>a (by simp[z])) e⟩) (λ_ _ e=>e) (λ_ _ _ e=>e) (λb _ B e=>⟨#[],by rw[e];simp⟩) (λm w=>?_) (λb u e=>?_) I.bare
 .have e:b=it:=by simpa using t
  subst e;exact⟨g,f,j,i⟩
 .obtain⟨o,h,l,y,r⟩:=w;exact⟨o,h,l,k _ o (Ne.symm f) y,r⟩
 .refine (I.hok b u e).stay (λc v a q=>k c v ?_ q) (λ_ q=>q) λ_ _ q=>q;rcases a with z|z
  .rw[z];exact d b u e
  .exact d c _ z
def eO.tok(I:eO X eh σ H s) t:eO X eh σ H {s with toks:=t}:=I.un Un.refl I.hok
def eO.kept(I:eO X eh σ H s)(k:∀b u,s.heap.get? b=some u->h'.get? b=some u):eO X eh σ H {s with heap:=h',toks:=t'}:=I.un (Un.kept k) (I.hok.kept k)
def eO.laid(I:eO X eh σ H s)(k:∀b u,s.heap.get? b=some u->h'.get? b=some u)(c:s.heap.objs.size<=a)(new:gq X.prog X.w (fN H a o) h' a o) :
  eO X eh σ (fN H a o) {s with heap:=h',toks:=t'}:=I.un (Un.laid k c (I.hok.fresh c)) (I.hok.laid k c new)
def eO.write(I:eO X eh σ H s)(d:Ls (H x))(c:e=x\/H e=some (.own x))(k:∀b u,b≠e->s.heap.get? b=some u->h'.get? b=some u)(a:∃u,h'.get? e=some u)
  (new:gq X.prog X.w (fN H x o) h' x o):eO X eh σ (fN H x o) {s with heap:=h',toks:=t'}:=I.un (Un.write d c k a) (I.hok.write d c k a new)
def eO.weak(I:eO X eh σ H s)(c:σ'.length=σ.length)(w:∀(i:Nat) v,σ'[i]? = some (some v)->σ[i]? = some (some v)):eO X eh σ' H s:=⟨I.ok,I.os,I.bare,I.base,let ⟨m,hn,hl'⟩:=I.loc;⟨m,hn,λi x v d a b=>hl' i x v d (w i v a) b⟩,I.cell,I.free,I.freeC,I.pin,I.hok,c.trans I.len⟩
def eO.pins_of(I:eO X eh σ H s)(h:∀p∈pins',s.heap.get? p.1=some p.2/\H p.1=none/\p.1≠X.env.locals/\p.1∉X.fs/\∀v,p.2.data≠.cell v):eO X pins' σ H s:=⟨I.ok,I.os,I.bare,I.base,I.loc,I.cell,I.free,I.freeC,λp a=>(ai.mp a).elim (λz=>I.pin p (ay _ z)) (h p),I.hok,I.len⟩
def xw{N:List Str}(d:N.Nodup){i j:Nat}(a:N[i]? = some x)(b:N[j]? = some x):i=j:=by obtain⟨f,e⟩:=aa.mp a;obtain⟨g,c⟩:=aa.mp b;exact (List.getElem_inj d).mp (e.trans c.symm)
def tU{M:Model}{A:Around}{E:Vq->Shared->Prop}{i:Nat}{x:Str}{v:V}{u:Vq}{Q:Unit->Shared->Prop}(I:eO X eh σ H s)(hN:X.N.Nodup)(Z:X.N[i]? = some x)(t:Bi X.env.scope x)(r:fO v u)
  (h:∀s',eO X eh (σ.set i (some v)) H s'->(∃a,Heap.SameBut a s.heap s'.heap/\(a=X.env.locals\/X.env.cells.lookup x=some a))->Q () s') (hf:X.fn x=true\/X.env.scope.names.lookup x=some .local:=by first|exact .inl rfl|exact .inr rfl|assumption):wpAny M A (storeName X.env x u) Q E s:=by
 obtain⟨m,hn,hl⟩:=id I.loc;have Y:(X.env.scope.kind==.class||(X.env.scope.kind==.module&&X.env.locals != X.env.globals))=false:=by rw[I.ok.kind];rfl
 have D:i<σ.length:=by rw[I.len];exact (aa.mp Z).1
 have cne:=I.cne;have tracked:∀{a:Addr} {h':Heap},(∃o,s.heap.get? a=some o/\H a=none)->Heap.SameBut a s.heap h'->nv X.prog X.w H h':=λ{a h'} ha f b ob e=>by
  obtain⟨_,_,B⟩:=ha;refine (I.hok b ob e).stay (λc w' l q=>(f.2 c ?_).trans q) (λ_ q=>q) λ_ _ q=>q;rintro rfl;rcases l with rfl|l
  .rw[B]at e;cases e
  .rw[B]at l;cases l
 rcases t with F|F
 .refine wpAny_storeName_local F hn (λh' hn' f=>?_) Y;obtain⟨oL,_,_,hoL,_⟩:=id hn;refine h _ ⟨I.ok,I.os,I.bare,⟨λb o e n L t=>?_,λb o e n L t=>?_,I.base.free,λb o e t=>?_,I.base.tups,I.base.frzs,I.base.tbls⟩,⟨_,hn',λj y v' g C e3=>?_⟩,λy c e=>?_,I.free,I.freeC,λp hp=>?_,tracked ⟨oL,hoL,I.free⟩ f,by simpa using I.len⟩ ⟨_,f,.inl rfl⟩
  .exact (f.2 b (aM (aE (aL e) I.ok.above))).trans (I.base.keep b o e n L t)
  .obtain⟨sl,g⟩:=I.base.slot b o e n L t;exact⟨sl,(f.2 b (aM (aE (aL e) I.ok.above))).trans g⟩
  .obtain⟨o',g⟩:=I.base.there b o e t;exact⟨o',(f.2 b (aM (aE (aL e) I.ok.above))).trans g⟩
  .by_cases K:j=i
   .subst K;rw[Z]at g;cases g;rw[List.getElem?_set_self D]at C;cases C;exact⟨u,r,.inl ⟨F,by simp⟩⟩
   .rw[ar (Ne.symm K)]at C;obtain⟨u',r',q⟩:=hl j y v' g C e3;refine⟨u',r',?_⟩;rcases q with⟨k,e⟩|⟨k,c,e,z⟩
    .refine .inl ⟨k,?_⟩;have:y≠x:=λe=>K (xw hN g (e▸Z));simp[this,e]
    .exact .inr ⟨k,c,e,z.sameBut f (cne y c e)⟩
  .obtain⟨w',z⟩:=I.cell y c e;exact⟨w',z.sameBut f (cne y c e)⟩
  .obtain⟨e,n,ne,nf,d⟩:=I.pin p hp;exact⟨(f.2 p.1 ne).trans e,n,ne,nf,d⟩
 .have J:X.fn x=true:=by
   rcases hf with z|z
   .exact z
   .rw[z]at F;cases F
  obtain⟨c,l⟩:=I.ok.has x (.inl F);obtain⟨w',z⟩:=I.cell x c l;refine wpAny_storeName_cell I.ok.kind F l z (λh' R f=>?_);obtain⟨oc,U,P⟩:=id z;refine h {s with heap:=h'} ⟨I.ok,I.os,I.bare,⟨λb o e n L t=>?_,λb o e n L t=>?_,I.base.free,λb o e t=>?_,I.base.tups,I.base.frzs,I.base.tbls⟩,⟨m,hn.sameBut f (Ne.symm (cne x c l)),λj y v' g C e3=>?_⟩,λy c' e=>?_,I.free,I.freeC,λp hp=>?_,tracked ⟨oc,U,I.freeC x c l⟩ f,by simpa using I.len⟩ ⟨c,f,.inr l⟩
  .exact (f.2 b (aM (aE (aL e) (I.ok.cab x c J l)))).trans (I.base.keep b o e n L t)
  .obtain⟨sl,g⟩:=I.base.slot b o e n L t;exact⟨sl,(f.2 b (aM (aE (aL e) (I.ok.cab x c J l)))).trans g⟩
  .obtain⟨o',g⟩:=I.base.there b o e t;exact⟨o',(f.2 b (aM (aE (aL e) (I.ok.cab x c J l)))).trans g⟩
  .by_cases K:j=i
   .subst K;rw[Z]at g;cases g;rw[List.getElem?_set_self D]at C;cases C;exact⟨u,r,.inr ⟨.inl F,c,l,R⟩⟩
   .rw[ar (Ne.symm K)]at C;obtain⟨u',r',q⟩:=hl j y v' g C e3;refine⟨u',r',?_⟩;rcases q with q|⟨k,c',e,z'⟩
    .exact .inl q
    .refine .inr ⟨k,c',e,z'.sameBut f ?_⟩;rintro rfl;exact K (xw hN g (I.ok.inj _ _ _ e l▸Z))
  .by_cases S:c'=c
   .subst S;exact⟨_,R⟩
   .obtain⟨w2,z2⟩:=I.cell y c' e;exact⟨w2,z2.sameBut f S⟩
  .obtain⟨e,n,ne,nf,d⟩:=I.pin p hp;refine⟨(f.2 p.1 ?_).trans e,n,ne,nf,d⟩;intro q;rw[q,U]at e;have q':=Option.some.inj e;exact d w' (by rw[<-q'];exact P)
def wX{M:Model}{A:Around}{E:Vq->Shared->Prop}{i:Nat}{x:Str}{v:V}{u:Vq}{Q:Unit->Shared->Prop}(I:eO X eh σ H s)(d:X.N.Nodup)(f:X.N[i]? = some x)(c:Bi X.env.scope x)(r:fO v u)
  (h:∀a,eO X eh (σ.set i (some v)) H a->Q () a) (b:X.fn x=true\/X.env.scope.names.lookup x=some .local:=by first|exact .inl rfl|exact .inr rfl|assumption):wpAny M A (storeName X.env x u) Q E s:=
 tU I d f c r (λa e _=>h a e) b
def eO.call'(I:eO X eh σ H s)(g:s'.os=s.os)(u:Un (Ab X.stack) ch H H' s.heap s'.heap)(d:nv X.prog X.w H' s'.heap)(f:AllBare s'.gens)
  (a:∀b∈ch,(b∈X.ex\/X.s₀.heap.objs.size<=b)/\b≠X.env.locals/\(∀x c,X.env.cells.lookup x=some c->c≠b)/\∀p∈X.pn++eh,p.1≠b):eO X eh σ H' s':=by
 obtain⟨h',h,i,j,k⟩:=s';have e:=g;subst e;exact I.call u d f a
end
abbrev XK:=Value->Option Addr->Hp->Prop
abbrev St:=List (Option V)
abbrev VK:=V->Hp->Prop
abbrev TE:=St->Hp->VK->Prop
abbrev TT:=St->Hp->(Bool->Hp->Prop)->Prop
abbrev TA:=St->Hp->(List V->Hp->Prop)->Prop
structure qp where
 nx:St->Hp->Prop
 rt:VK
 bk:St->Hp->Prop:=λ_ _=>False
 ct:St->Hp->Prop:=λ_ _=>False
abbrev TS:=qp->St->Hp->Prop
def EP(X:Cx)(c:List (Addr×Obj))(b:St)(Q:VK)(u:Vq)(d:Sq):Prop:=∃v a,eO X c b a d/\fO v u/\Q v a
def TP(X:Cx)(d:List (Addr×Obj))(c:St)(Q:Bool->Hp->Prop)(b:Bool)(e:Sq):Prop:=∃a,eO X d c a e/\Q b a
def AP(X:Cx)(d:List (Addr×Obj))(c:St)(Q:List V->Hp->Prop)(us:List Vq)(e:Sq):Prop:=∃b a,eO X d c a e/\fu b us/\Q b a
def SP(X:Cx)(c:List (Addr×Obj))(D:qp)(f:Flow)(d:Sq):Prop:=
 match f with
 |.next=>∃a b,eO X c a b d/\D.nx a b
 |.brk=>∃a b,eO X c a b d/\D.bk a b
 |.cont=>∃a b,eO X c a b d/\D.ct a b
 |.ret u=>∃v a b,eO X c a b d/\fO v u/\D.rt v b
def PE(X:Cx)(e:Expr)(t:TE):Prop:=∀(b:List (Addr×Obj)) (s:Sq) (a:St) (H:Hp) (Q:VK),eO X b a H s->t a H Q->wpAny (model X.prog X.w) X.A (eval e X.env) (EP X b a Q) X.xe s
def PT(X:Cx)(e:Expr)(t:TT):Prop:=∀(b:List (Addr×Obj)) (s:Sq) (a:St) (H:Hp) (Q:Bool->Hp->Prop),eO X b a H s->t a H Q->wpAny (model X.prog X.w) X.A (isTrue e X.env (eval e X.env)) (TP X b a Q) X.xe s
def PW(X:Cx)(e:Expr)(t:TT):Prop:=∀(a:Sem Vq) (c:List (Addr×Obj)) (s:Sq) (b:St) (H:Hp) (Q:Bool->Hp->Prop),eO X c b H s->t b H Q->wpAny (model X.prog X.w) X.A (isTrue e X.env a) (TP X c b Q) X.xe s
def PW.pt(h:PW X e t):PT X e t:=h _
def PA(X:Cx)(d:List Expr)(t:TA):Prop:=∀(b:Pos) (c:List (Addr×Obj)) (s:Sq) (a:St) (H:Hp) (Q:List V->Hp->Prop),eO X c a H s->t a H Q->wpAny (model X.prog X.w) X.A (spliced (backTo b (starEach d X.env))) (AP X c a Q) X.xe s
def PS(X:Cx)(st:Stmt)(t:TS):Prop:=∀(b:List (Addr×Obj)) (s:Sq) (a:St) (H:Hp) (D:qp),eO X b a H s->t D a H->wpAny (model X.prog X.w) X.A (exec st X.env) (SP X b D) X.xe s
def v9(X:Cx)(st:List Stmt)(t:TS):Prop:=∀(b:List (Addr×Obj)) (s:Sq) (a:St) (H:Hp) (D:qp),eO X b a H s->t D a H->wpAny (model X.prog X.w) X.A (execs st X.env) (SP X b D) X.xe s
def gZ{b:Type}{t:Sem b}{Q c:b->Shared->Prop}{M:Model}{A:Around}{E:Vq->Shared->Prop}{s:Sq}(h:wpAny M A t Q E s)(d:∀a s,Q a s->c a s):wpAny M A t c E s:=wpAny_mono h d λ_ _ x=>x
end L2
namespace L2
open PySem PySem.Spec PyProof.Rows
section
variable {X:Cx}
def ja(i:Nat):TE:=λa H Q=>∃v,a[i]? = some (some v)/\Q v H
def tC(v:V):TE:=λ_ H Q=>Q v H
def nV(k:X.N[i]? = some x)(w:KD X.env.scope x)(g:(x==("__debug__" : Str))=false:=by decide)(f:(x==("__classdict__" : Str))=false:=by decide):PE X (.Name x pos) (ja i):=by
 intro o s n H Q I h;obtain⟨v,e,h⟩:=h;obtain⟨m,t,p⟩:=I.loc;obtain⟨u,r,l⟩:=p i x v k e w;have b:EP X o n Q u s:=⟨v,H,I,r,h⟩;rcases l with⟨d,q⟩|⟨d,c,j,a⟩
 .exact wpAny_Name (wpAny_loadName_local I.ok.kind d t q b) g
 .rcases d with d|d
  .exact wpAny_Name (wpAny_loadName_cell I.ok.kind d j a b) g
  .exact wpAny_Name (wpAny_loadName_free I.ok.kind d j a b f) g
def yP{i j pos}:PE X (.Constant (.int i) j pos) (tC (.int i)):=λ_ _ _ H _ I h=>wpAny_Constant_int ⟨.int i,H,I.tok _,⟨_,rfl⟩,h⟩
def zP{b j pos}:PE X (.Constant (.bool b) j pos) (tC (.bl b)):=λ_ _ _ H _ I h=>Constant_bool ⟨.bl b,H,I,rfl,h⟩
def Kr{j pos}:PE X (.Constant .none j pos) (tC .non):=λ_ _ _ H _ I h=>Constant_none ⟨.non,H,I,rfl,h⟩
def Gl(X:Cx)(x:Str):Prop:=X.env.kindOf x=some .globalImplicit
def v8(I:eO X eh σ H s)(c:Gl X x)(a:X.mg x=some u)(h:Q u s)
  (b:(x==("__debug__" : Str))=false:=by decide):wpAny (model X.prog X.w) X.A (eval (.Name x pos) X.env) Q E s:=
 Calls.Name_function_global I.ok.kind c (Calls.loadGlobal_global (by rw[I.ok.glob];exact I.mod.glob.keeps I.bk) a h) b
def n0(I:eO X eh σ H s)(hg:Gl X x)(hm:X.mg x=none)(hv:bootBuiltins x=some u)(h:Q u s)
  (hn:x≠ "__name__" :=by decide) (hd:(x==("__debug__" : Str))=false:=by decide):wpAny (model X.prog X.w) X.A (eval (.Name x pos) X.env) Q E s:=by
 obtain⟨mb,h1,h2⟩:=I.mod.blt;exact Calls.Name_function_global I.ok.kind hg (Calls.loadGlobal_builtin (by rw[I.ok.glob];exact I.mod.glob.keeps I.bk) hm (by rw[I.ok.blt];exact h1.keeps I.bk) ((h2 x hn).trans hv) h) hd
def GW(c:Gl X x)(a:X.mg x=some u)(r:fO v u)(b:(x==("__debug__" : Str))=false:=by decide):PE X (.Name x pos) (tC v):=λ_ _ _ H _ I h=>v8 I c a ⟨v,H,I,r,h⟩ b
def FA(e:Gl X x)(b:X.mg x=none)(c:bootBuiltins x=some u)(r:fO v u)(a:x≠ "__name__" :=by decide)(d:(x==("__debug__" : Str))=false:=by decide):PE X (.Name x pos) (tC v):=λ_ _ _ H _ I h=>n0 I e b c ⟨v,H,I,r,h⟩ a d
variable {a b:Expr}{ta tb:TE}{pos:Pos}
def PC(X:Cx)(op:CmpOp)(a b:Expr)(t:TE):Prop:=
 ∀(f:List (Addr×Obj)) (s:Sq) (e:St) (H:Hp) (Q:VK),eO X f e H s->t e H Q->
  wpAny (model X.prog X.w) X.A (eval a X.env) (λv c=>wpAny (model X.prog X.w) X.A (eval b X.env) (λu d=>wpAny (model X.prog X.w) X.A (compareOp op v u) (EP X f e Q) X.xe d) X.xe c) X.xe s
def Fg b (h:op≠.In) (d:op≠.NotIn):behindInMarks op b=false:=by
 have e:(op==CmpOp.In)=false:=by cases op<;>first|rfl|exact absurd rfl h
 have c:(op==CmpOp.NotIn)=false:=by cases op<;>first|rfl|exact absurd rfl d
 cases b<;>simp[behindInMarks,e,c]
def HN(ta:TE):TE:=λc H Q=>ta c H λx d=>Q (.bl (!decide (x=.non))) d
def fO.none_iff(r:fO x v):(v==Value.none)=decide (x=.non):=by
 cases x with
 |non=>cases r;rfl
 |bl _=>cases r;rfl
 |int _=>obtain⟨t,rfl⟩:=r;rfl
 |str _=>obtain⟨t,rfl⟩:=r;rfl
 |byt _=>obtain⟨t,rfl⟩:=r;rfl
 |flt _=>obtain⟨t,rfl⟩:=r;rfl
 |ref _=>cases r;rfl
 |ty _=>cases r;rfl
def Al{j pos'}(e:PE X a ta):PC X .IsNot a (.Constant .none j pos') (HN ta):=by intro d s c H Q I h;refine gZ (e d s c H _ I h) λv s1 ⟨x,H1,I1,r1,q1⟩=>?_;exact Constant_none (isnot_none_gen ⟨.bl _,H1,I1,by rw[r1.none_iff];rfl,q1⟩)
def tB(t:TE):TT:=λd H Q=>t d H λx e=>∃c,x=.bl c/\Q c e
def Dj(h:PC X op a b t)(e:behindInMarks op b=false:=by first|exact Fg _ (by decide) (by decide)|rfl):PT X (.Compare a [op] [b] pos) (tB t):=by intro g s f H Q I hw;refine wpAny_isTrue_Compare1 (gZ (h g s f H _ I hw) λv k e=>gZ e λu j i=>gZ i λc s3 ⟨x,H1,I1,r1,q1⟩=>?_) e;obtain⟨d,rfl,q⟩:=q1;cases r1;exact wpAny_truthy_bool ⟨H1,I1,q⟩
def Jx(h:PE X e t)(f:∀c,isTrue e X.env c=(do let v <-c;standAt e.pos;holding [v] (truthy v)):=by intro _;rfl):PT X e (tB t):=by intro i s g H Q I hw;refine isTrue_plain (gZ (h i s g H _ I hw) λv s1 ⟨x,H1,I1,r1,q1⟩=>?_) (f _);obtain⟨d,rfl,q⟩:=q1;cases r1;exact wpAny_truthy_bool ⟨H1,I1,q⟩
variable {tA tB':TT}{kh:List Expr}
def Jm(t u:TT):TT:=λd H Q=>t d H λc e=>if c=true then u d e Q else Q false e
def MH(t u:TT):TT:=λd H Q=>t d H λc e=>if c=true then Q true e else u d e Q
def JM(t:TT):TT:=λd H Q=>t d H λc e=>Q (!c) e
def FY(g:PT X a tA):PW X (.BoolOp .And [a] pos) tA:=by
 intro j f s d H Q I h;refine isTrue_and (gZ (g f s d H Q I h) λc i e=>?_);cases c with
 |true=>exact isTrue_and_nil e
 |false=>exact e
def JC(g:PT X a tA):PW X (.BoolOp .Or [a] pos) tA:=by
 intro j f s d H Q I h;refine isTrue_or (gZ (g f s d H Q I h) λc i e=>?_);cases c with
 |false=>exact isTrue_or_nil e
 |true=>exact e
def JZ(i:PT X a tA)(f:PW X (.BoolOp .And (b::kh) pos) tB'):PW X (.BoolOp .And (a::b::kh) pos) (Jm tA tB'):=by
 intro g e s d H Q I h;refine isTrue_and (gZ (i e s d H _ I h) λc s1 ⟨H1,I1,q1⟩=>?_);cases c with
 |true=>exact f g e s1 d H1 Q I1 q1
 |false=>exact⟨H1,I1,q1⟩
def KY(i:PT X a tA)(f:PW X (.BoolOp .Or (b::kh) pos) tB'):PW X (.BoolOp .Or (a::b::kh) pos) (MH tA tB'):=by
 intro g e s d H Q I h;refine isTrue_or (gZ (i e s d H _ I h) λc s1 ⟨H1,I1,q1⟩=>?_);cases c with
 |true=>exact⟨H1,I1,q1⟩
 |false=>exact f g e s1 d H1 Q I1 q1
def JL(g:PT X a tA):PT X (.UnaryOp .Not a pos) (JM tA):=by intro e s d H Q I h;exact isTrue_not (g e s d H (λc f=>Q (!c) f) I h)
def Ep(ta tb:TE):TE:=λd H Q=>ta d H λx e=>∃c,x=.bl c/\if c=true then tb d e Q else Q (.bl false) e
def CV(ta:TE):TE:=λd H Q=>ta d H λx e=>∃c,x=.bl c/\Q (.bl (!c)) e
def Ji{op}(h:PE X a t):PE X (.BoolOp op [a] pos) t:=λd s c H Q I hw=>BoolOp_one (h d s c H Q I hw)
def Ks(i:PE X a ta)(g:PE X (.BoolOp .And (b::kh) pos) tb):PE X (.BoolOp .And (a::b::kh) pos) (Ep ta tb):=by
 intro f s e H Q I h;refine BoolOp_and (gZ (i f s e H _ I h) λv s1 ⟨x,H1,I1,r1,d⟩=>?_);obtain⟨c,rfl,d⟩:=d;cases r1;refine wpAny_truthy_bool ?_;cases c with
 |true=>exact g f s1 e H1 Q I1 d
 |false=>exact⟨.bl false,H1,I1,rfl,d⟩
def Js(g:PE X a ta):PE X (.UnaryOp .Not a pos) (CV ta):=by intro f s e H Q I h;refine UnaryOp_ (gZ (g f s e H _ I h) λv s1 ⟨x,H1,I1,r1,d⟩=>?_);obtain⟨c,rfl,d⟩:=d;cases r1;exact not_of (wpAny_truthy_bool ⟨.bl (!c),H1,I1,rfl,d⟩)
end
end L2
namespace L2
open PySem PySem.Spec PyProof.Rows
def iJ(K:W.Frag)(H:Hp)(a:Addr)(c:List V):Prop:=
 Rd H a (.lst c)\/
  ∃(o:Obj) (b:Array Vq) (n:Nat),K.lookup a=some o/\o.cls=.type "list" /\o.dict=none/\o.data=.seq b n/\b.size<=sizeLine/\fu c b.toList
def jV(K:W.Frag)(H:Hp)(a:Addr)(c:List V):Prop:=
 Rd H a (.tup c)\/
  ∃(o:Obj) (b:Array Vq) (n:Nat),K.lookup a=some o/\o.cls=.type "tuple" /\o.data=.seq b n/\b.size<=sizeLine/\fu c b.toList
def M4:Vq->Option V
 |.none=>some .non
 |.bool b=>some (.bl b)
 |.int i _=>some (.int i)
 |.str x _=>some (.str x)
 |.bytes b _=>some (.byt b)
 |.float b _=>some (.flt b)
 |.ref a=>some (.ref a)
 |.type n=>some (.ty n)
 |_=>none
def fO.abs(r:fO x u):M4 u=some x:=by
 cases x with
 |non=>cases r;rfl
 |bl _=>cases r;rfl
 |int _=>obtain⟨t,rfl⟩:=r;rfl
 |str _=>obtain⟨t,rfl⟩:=r;rfl
 |byt _=>obtain⟨t,rfl⟩:=r;rfl
 |flt _=>obtain⟨t,rfl⟩:=r;rfl
 |ref _=>cases r;rfl
 |ty _=>cases r;rfl
def fO.inj(r:fO x u)(q:fO y u):x=y:=Option.some.inj (r.abs.symm.trans q.abs)
theorem fu.inj:∀{xs ys} {us},fu xs us->fu ys us->xs=ys
 |_,_,_,.nil,.nil=>rfl
 |_,_,_,.cons r t,.cons r' t'=>by rw[r.inj r',fu.inj t t']
section
variable {X:Cx}{eh:List (Addr×Obj)}{σ:St}{H:Hp}{s:Sq}{a:Addr}{xs ys:List V}
def iJ.of{K:W.Frag}(h:H a=some (.lst xs)):iJ K H a xs:=.inl (.inl h)
def jV.of{K:W.Frag}(h:H a=some (.tup xs)):jV K H a xs:=.inl (.inl h)
def eO.list(I:eO X eh σ H s)(h:iJ X.K H a xs):∃its:List Vq,fu xs its/\PlainL s.heap a its.toArray/\xs.length<=sizeLine:=by
 rcases h with h|⟨o,its,n,d,b,f,c,g,r⟩
 .obtain⟨z,its,n,r,e⟩:=h.ok I.hok;exact⟨its,r,⟨_,n,e,rfl,rfl,rfl⟩,z⟩
 .refine⟨its.toList,r,⟨o,n,I.kIn a o d,b,f,by simpa using c⟩,?_⟩;have e:=r.length;simp only[bq]at e;omega
def eO.tuple(I:eO X eh σ H s)(h:jV X.K H a xs):∃its:List Vq,fu xs its/\IsTup s.heap a its.toArray/\xs.length<=sizeLine:=by
 rcases h with h|⟨o,its,n,d,b,c,f,r⟩
 .obtain⟨z,its,r,p⟩:=h.ok I.hok;exact⟨its,r,p.tup,z⟩
 .refine⟨its.toList,r,⟨o,I.kIn a o d,b,n,by simpa using c⟩,?_⟩;have e:=r.length;simp only[bq]at e;omega
def eO.list_inj(I:eO X eh σ H s)(h:iJ X.K H a xs)(h':iJ X.K H a ys):xs=ys:=by
 obtain⟨c,r,⟨o,n,e,_,_,d⟩,_⟩:=I.list h;obtain⟨b,i,⟨l,k,f,_,_,g⟩,_⟩:=I.list h';rw[e]at f;cases f;rw[d]at g;injection g with j _;have:c=b:=by simpa using congrArg Array.toList j
 subst this;exact r.inj i
def eO.tuple_inj(I:eO X eh σ H s)(h:jV X.K H a xs)(h':jV X.K H a ys):xs=ys:=by
 obtain⟨c,r,⟨o,e,_,n,d⟩,_⟩:=I.tuple h;obtain⟨b,i,⟨l,f,_,k,g⟩,_⟩:=I.tuple h';rw[e]at f;cases f;rw[d]at g;injection g with j _;have:c=b:=by simpa using congrArg Array.toList j
 subst this;exact r.inj i
end
noncomputable abbrev Cx.wish(X:Cx)(E:Vq->Shared->Prop):Cx:={X with xe:=E}
abbrev Cx.nox(X:Cx):Cx:=X.wish λ_ _=>False
def Cx.Ok.wish{X:Cx}(ok:X.Ok) E:(X.wish E).Ok:=⟨ok.mod,ok.kind,ok.glob,ok.blt,ok.above,ok.inj,ok.has,ok.cab,ok.hd,ok.frames,ok.stk,ok.exf,ok.bs,ok.bsz,ok.noex,ok.exfs,ok.funs,ok.frf,ok.tab⟩
def Cx.Ok.unwish{X:Cx}(ok:(X.wish E).Ok):X.Ok:=⟨ok.mod,ok.kind,ok.glob,ok.blt,ok.above,ok.inj,ok.has,ok.cab,ok.hd,ok.frames,ok.stk,ok.exf,ok.bs,ok.bsz,ok.noex,ok.exfs,ok.funs,ok.frf,ok.tab⟩
section
variable {X:Cx}{eh:List (Addr×Obj)}{σ:St}{H:Hp}{s:Sq}{E:Vq->Shared->Prop}
def eO.wish(I:eO X eh σ H s) E:eO (X.wish E) eh σ H s:=⟨I.ok.wish E,I.os,I.bare,I.base,I.loc,I.cell,I.free,I.freeC,I.pin,I.hok,I.len⟩
def eO.unwish(I:eO (X.wish E) eh σ H s):eO X eh σ H s:=⟨I.ok.unwish,I.os,I.bare,I.base,I.loc,I.cell,I.free,I.freeC,I.pin,I.hok,I.len⟩
def SP.unwish(h:SP (X.wish E) eh D f s'):SP X eh D f s':=by
 cases f with
 |next=>obtain⟨a,b,I,q⟩:=h;exact⟨a,b,I.unwish,q⟩
 |brk=>obtain⟨a,b,I,q⟩:=h;exact⟨a,b,I.unwish,q⟩
 |cont=>obtain⟨a,b,I,q⟩:=h;exact⟨a,b,I.unwish,q⟩
 |ret u=>obtain⟨v,a,b,I,r,q⟩:=h;exact⟨v,a,b,I.unwish,r,q⟩
def v9.nox{st:List Stmt}(h:v9 X.nox st t):v9 X st t:=λeh s σ H D I hw=>wpAny_mono (h eh s σ H D (I.wish _) hw) (λ_ _ q=>q.unwish) λ_ _ z=>False.elim z
end
section
variable {X:Cx}{st:Stmt}{kh:List Stmt}{t u:TS}{e:Expr}{te:TE}{pos:Pos}
def Ap:TS:=λD a H=>D.nx a H
def uS(t u:TS):TS:=λD a H=>t {D with nx:=u D} a H
def vy:v9 X [] Ap:=λ_ _ a H _ I h=>wpAny_execs_nil ⟨a,H,I,h⟩
def jU(c:PS X st t)(g:v9 X kh u):v9 X (st::kh) (uS t u):=by
 intro b s d H D I h;refine wpAny_execs_cons (gZ (c b s d H {D with nx:=u D} I h) λf i q=>?_);cases f with
 |next=>obtain⟨a,j,k,q⟩:=q;exact g b i a j D k q
 |ret v=>exact q
 |brk=>exact q
 |cont=>exact q
def ke(a:PS X st t):v9 X [st] t:=by
 intro c s b H D I h;refine wpAny_execs_cons (gZ (a c s b H D I h) λf d q=>?_);cases f with
 |next=>exact wpAny_execs_nil q
 |ret v=>exact q
 |brk=>exact q
 |cont=>exact q
def eO.quiet(I:eO X eh σ H s):interactive X.env=false:=by simp[interactive,I.ok.kind]
def EW(te:TE):TS:=λD a H=>te a H λ_ b=>D.nx a b
def GB(b:PE X e te)(c:swapsWith e none pos.line X.env=pure false:=by rfl):PS X (.Expr e pos) (EW te):=by intro d s a H D I h;exact wpAny_Expr_any (gZ (b d s a H _ I h) λv s1 ⟨x,H1,I1,r1,q1⟩=>⟨a,H1,I1,q1⟩) I.quiet c
def vE(te:TE):TS:=λD a H=>te a H D.rt
def sX(b:PE X e te):PS X (.Return (some e) pos) (vE te):=by intro c s a H D I h;exact wpAny_Return_some (gZ (b c s a H _ I h) λv s1 ⟨x,H1,I1,r1,q1⟩=>⟨x,a,H1,I1,r1,q1⟩)
def GU(c:TT)(t u:TS):TS:=λD a H=>c a H λb d=>if b=true then t D a d else u D a d
def CW(j:PT X c tc)(k:v9 X a t)(i:v9 X b u):PS X (.If c a b pos) (GU tc t u):=by
 intro g s f H D I h;refine wpAny_If (gZ (j g s f H _ I h) λd s1 ⟨H1,I1,q1⟩=>?_);cases d with
 |true=>exact k g s1 f H1 D I1 q1
 |false=>exact i g s1 f H1 D I1 q1
def yH:TS:=λ_ _ _=>False
def EV:PS X st yH:=λ_ _ _ _ _ _ h=>h.elim
end
abbrev TG:=V->St->Hp->(St->Hp->Prop)->Prop
abbrev Fm:=List V->St->Hp->(St->Hp->Prop)->Prop
def PG(X:Cx)(target:Expr)(t:TG):Prop:=
 ∀(c:List (Addr×Obj)) (s:Sq) (b:St) (H:Hp) (v:V) (u:Vq) (Q:St->Hp->Prop),eO X c b H s->fO v u->t v b H Q->
  wpAny (model X.prog X.w) X.A (assign target X.env u) (λ_ e=>∃a d,eO X c a d e/\Q a d) X.xe s
def KC(X:Cx)(ts:List Expr)(t:Fm):Prop:=
 ∀(c:List (Addr×Obj)) (s:Sq) (b:St) (H:Hp) (f:List V) (e:List Vq) (Q:St->Hp->Prop),eO X c b H s->fu f e->t f b H Q->
  wpAny (model X.prog X.w) X.A (assignInOrder ((assignEach ts X.env).map (·.2)) e) (λ_ g=>∃a d,eO X c a d g/\Q a d) X.xe s
abbrev KU:=V->V->V->Hp->(Hp->Prop)->Prop
def K2(X:Cx)(t:KU):Prop:=
 ∀(d:List (Addr×Obj)) (s:Sq) (a:St) (H:Hp) (o i v:V) (b c u:Vq) (Q:Hp->Prop),eO X d a H s->fO o b->fO i c->fO v u->t o i v H Q->
  wpAny (model X.prog X.w) X.A (setItem b c u) (λ_ f=>∃e,eO X d a e f/\Q e) X.xe s
section
variable {X:Cx}{pos:Pos}
def gC(i:Nat):TG:=λv a H Q=>Q (a.set i (some v)) H
def pk(c:X.N.Nodup)(d:X.N[i]? = some x)(b:Bi X.env.scope x)(a:X.fn x=true\/X.env.scope.names.lookup x=some .local:=by first|exact .inl rfl|exact .inr rfl|assumption):PG X (.Name x pos) (gC i):=by intro j s f H v u Q I r h;exact wpAny_assign_Name (wX I c d b r (λg e=>⟨_,H,e,h⟩) a)
def AO:Fm:=λb a H Q=>b=[]/\Q a H
def sC(t:TG)(u:Fm):Fm:=λd b H Q=>∃v r,d=v::r/\t v b H λa c=>u r a c Q
def zE:KC X [] AO:=by intro b s a H d c Q I r h;obtain⟨e,h⟩:=h;subst e;cases r;exact assignInOrder_nil ⟨a,H,I,h⟩
theorem xU(b:PG X e t)(g:KC X es u)
  (d:(assignEach (e::es) X.env).map (·.2)=assign e X.env::(assignEach es X.env).map (·.2):=by rfl):KC X (e::es) (sC t u):=by
 intro a s c H k j Q I r h;obtain⟨v,i,f,h⟩:=h;subst f;cases r with
 |cons r rr=>rw[d];refine assignInOrder_cons (gZ (b a s c H _ _ _ I r h) λ_ s1 ⟨σ1,H1,I1,q1⟩=>?_);exact g a s1 σ1 H1 _ _ Q I1 rr q1
def Be(K:W.Frag)(n:Nat)(t:Fm):TG:=λv c H Q=>∃a b,v=.ref a/\jV K H a b/\b.length=n/\t b c H Q
def DK(f:X.calm=true)(h:KC X es t)
  (y:(assignEach es X.env).length=n:=by rfl) (c:(assignEach es X.env).findIdx? (·.1)=none:=by rfl):PG X (.Tuple es k pos) (Be X.K n t):=by
 intro j s i H v u Q I r hw;obtain⟨a,l,z,p,q,hw⟩:=hw;subst z;cases r;obtain⟨m,d,x,A⟩:=I.tuple p;refine assign_Tuple_tuple (I.ok.hd f) x (by simp[y,<-q,d.length]) c λB g=>?_;have w:=I.kept (t':=s.toks) λb o e=>g b o (aM (aL e)) e;exact h j _ i H l _ Q w (by simpa using d) hw
def J6(to b:TE)(t:KU):TG:=λv a H Q=>to a H λo e=>b a e λi c=>t o i v c λd=>Q a d
def Jp(e:PE X o to)(d:PE X i ti)(c:K2 X t)
  (f:∀v,assign (.Subscript o i pos) X.env v=(do
   let ov <-holding [v] (eval o X.env)
   let iv <-holding [v,ov] (eval i X.env)
   standAt pos
   holding [v,ov,iv] (setItem ov iv v)
   release [v,ov,iv] []):=by intro _;rfl):PG X (.Subscript o i pos) (J6 to ti t):=by
 intro b s a H v u Q I r h;rw[f];refine aq (wpAny_holding (gZ (e b s a H _ I h) λov s1 ⟨x,H1,I1,r1,q1⟩=>?_));refine aq (wpAny_holding (gZ (d b s1 a H1 _ I1 q1) λiv s2 ⟨y,H2,I2,r2,q2⟩=>?_));refine aq (wpAny_standAt (aq (wpAny_holding (gZ (c b s2 a H2 x y v ov iv u _ I2 r1 r2 r q2) λ_ s3 ⟨H3,I3,q3⟩=>?_))));exact wpAny_release ⟨a,H3,I3,q3⟩
def kP(b:TE)(g:TG):TS:=λD a H=>b a H λx c=>g x a c D.nx
def Jk(c:PE X e te)(i:PG X tg g)(f:swapsWithSole [tg] e pos.line X.env=pure false:=by rfl)(hw:swappedStores [tg] e X.env=pure none:=by rfl)
  (d:(assignEach [tg] X.env).map (·.2)=[assign tg X.env]:=by rfl):PS X (.Assign [tg] e pos) (kP te g):=by
 intro b s a H D I h;refine wpAny_Assign_stores (gZ (c b s a H _ I h) λv s1 ⟨x,H1,I1,r1,q1⟩=>?_) f hw;rw[d];exact gZ (i b s1 a H1 x v _ I1 r1 q1) λ_ j q=>q
def mD(j:X.N.Nodup)(l:X.N[i]? = some x)(d:Bi X.env.scope x)(b:PE X e te)(f:swapsWith e (some (.Name x pos')) pos.line X.env=pure false:=by rfl)(a:X.fn x=true\/X.env.scope.names.lookup x=some .local:=by first|exact .inl rfl|exact .inr rfl|assumption) :
  PS X (.Assign [.Name x pos'] e pos) (kP te (gC i)):=by
 intro g s c H D I h;refine wpAny_Assign_Name (gZ (b g s c H _ I h) λv s1 ⟨y,H1,I1,r1,q1⟩=>?_) f;exact wX I1 j l d r1 (λm k=>⟨_,H1,k,q1⟩) a
end
section
variable {X:Cx}{pos:Pos}
def yc(c:TT)(h:TS):TS:=λD a H=>∃W:Nat->St->Hp->Prop,(∃m,W m a H)/\∀m a H,W m a H->
 c a H λb g=>if b=true then ∃N:St->Hp->Prop,(∀d e,N d e->∃f,f<m/\W f d e)/\h {D with nx:=N,ct:=N,bk:=D.nx} a g else D.nx a g
def EK(t:PassesOwn (model X.prog X.w) X.A X.env X.xe)(y:PT X c tc)(C:v9 X body tb):PS X (.While c body [] pos) (yc tc tb):=by
 intro k s B H D I h;obtain⟨W,⟨F,z⟩,turn⟩:=h;refine wpAny_While (codeAny_whileLoop (λn E=>∃e x,eO X k e x E/\W n e x) ?_ F ⟨B,H,I,z⟩);rintro n J ⟨d,u,K,L⟩;refine wpAny_passesOwn t (gZ (y k J d u _ K (turn n d u L)) λb s2 ⟨H2,I2,i⟩=>?_);cases b with
 |true=>
  obtain⟨N,r,i⟩:=i;rw[aQ rfl];refine wpAny_passesOwn t (gZ (C k s2 d H2 _ I2 i) λf P j=>?_);cases f with
  |next=>obtain⟨a,g,o,q⟩:=j;obtain⟨p,l,m⟩:=r a g q;exact⟨p,l,a,g,o,m⟩
  |cont=>obtain⟨a,g,o,q⟩:=j;obtain⟨p,l,m⟩:=r a g q;exact⟨p,l,a,g,o,m⟩
  |brk=>exact j
  |ret v=>exact j
 |false=>rw[aR aH];exact wpAny_execs_nil ⟨d,H2,I2,i⟩
end
structure It where
 go:Nat->Hp->Prop
 yld:Nat->Hp->V->Hp->Prop
 stop:Nat->Hp->Prop
def qH(X:Cx)(a:List (Addr×Obj))(H:Hp)(b:Addr):Prop:=H b=none/\b≠X.env.locals/\b∉X.fs/\(b∈X.ex\/X.s₀.heap.objs.size<=b)/\(∀x c,X.env.cells.lookup x=some c->c≠b)/\∀p∈X.pn++a,p.1≠b
def eO.fpOk(I:eO X eh σ H s)(a:s.heap.objs.size<=b)(d:H' b=none):qH X eh H' b:=by
 refine⟨d,br (aE I.lt a),I.nofs a,.inr (aN I.sz a),λx c e z=>?_,λp f z=>?_⟩
 .obtain⟨v,q⟩:=I.cell x c e;exact absurd (aE q.lt (by rw[z];exact a)) (a9 _)
 .exact absurd (aE (aL (I.pin p f).1) (by rw[z];exact a)) (a9 _)
structure zu(P:Program)(w:World)(K:W.Frag)(tg:Expr)(J:It)(fp:List Addr)(it:Addr)(tn:Nat->Heap->Prop):Prop where
 mem:it∈fp
 obj:∀i h,tn i h->∀b∈fp,∃o,h.get? b=some o/\∀v,o.data≠.cell v
 keep:∀i h h',tn i h->(∀b∈fp,∀o,h.get? b=some o->h'.get? b=some o)->tn i h'
 item:∀(X:Cx),X.prog=P->X.w=w->X.K=K->X.calm=true->∀(i:Nat) (eh:List (Addr×Obj)) (s:Sq) (σ:St) (H:Hp) (E:Vq->Shared->Prop),eO X eh σ H s->(∀b∈fp,qH X eh H b)->tn i s.heap->J.go i H->
  wpAny (model P w) X.A (pyNext (.ref it)) (λr s1=>∃u,r=some u/\
   wpAny (model P w) X.A (letOwnedTupleGo tg (.ref it) u) (λ_ s2=>∃x H',eO X eh σ H' s2/\fO x u/\J.yld i H x H'/\tn (i+1) s2.heap/\∀b∈fp,H' b=none) E s1) E s
 done:∀(X:Cx),X.prog=P->X.w=w->X.K=K->X.calm=true->∀(i:Nat) (eh:List (Addr×Obj)) (s:Sq) (σ:St) (H:Hp) (E:Vq->Shared->Prop),eO X eh σ H s->(∀b∈fp,qH X eh H b)->tn i s.heap->J.stop i H->
  wpAny (model P w) X.A (pyNext (.ref it)) (λr s1=>r=none/\eO X eh σ H s1) E s
 self:∀(A:Around) (i:Nat) (s:Sq) (Q:Vq->Shared->Prop) (E:Vq->Shared->Prop),tn i s.heap->Q (.ref it) s->wpAny (model P w) A (pyIter (.ref it)) Q E s
abbrev TI:=St->Hp->(It->Hp->Prop)->Prop
def Nl(X:Cx)(e:List (Addr×Obj))(h:St)(i:Expr)(R:It->Hp->Prop)(c:Vq)(d:Sq):Prop:=∃(it:Addr) (g:List Addr) (f:Nat->Heap->Prop) (J:It) (a:Hp),c=.ref it/\eO X e h a d/\zu X.prog X.w X.K i J g it f/\f 0 d.heap/\(∀b∈g,qH X e a b)/\R J a
def PI(X:Cx)(f a:Expr)(d:TI):Prop:=
 ∀(c:List (Addr×Obj)) (s:Sq) (b:St) (H:Hp) (R:It->Hp->Prop),eO X c b H s->d b H R->
  wpAny (model X.prog X.w) X.A (eval a X.env) (λv e=>wpAny (model X.prog X.w) X.A (pyIter v) (Nl X c b f R) X.xe e) X.xe s
theorem Ey{M:Model}{A:Around}{E:Vq->Shared->Prop}{s:Sq}{b:Expr}{it:Addr}{u:Vq}{o:Obj}{n:String}{vs:Array Vq}{Q:Unit->Shared->Prop}(e:s.heap.get? it=some o)(d:o.cls=.type n)(f:o.data=.fields vs)
    (c:["enumerate", "zip", "dict_itemiterator", "dict_reverseitemiterator", "odict_iterator", "itertools.zip_longest", "itertools.pairwise"].contains n=false) (a:Q () s):wpAny M A (letOwnedTupleGo b (.ref it) u) Q E s:=by
  unfold letOwnedTupleGo;cases b<;>first
    |exact ao a
    | (cases u<;>first
        |exact ao a
        | (refine aq (wpAny_load e ?_)
           rw[d,f]
           show wpAny M A (if (["enumerate", "zip", "dict_itemiterator", "dict_reverseitemiterator", "odict_iterator", "itertools.zip_longest", "itertools.pairwise"].contains n&&vs[0]? == some (rawInt _))=true then _ else _) Q E s
           rw[aR (by intro h;rw[c,Bool.false_and]at h;cases h)]
           exact ao a))
noncomputable def Md(K:W.Frag)(a:Addr):It:=⟨λi H=>∃b x,iJ K H a b/\b[i]? = some x,λi H x c=>c=H/\∀b,iJ K H a b->b[i]? = some x,λi H=>∃b,iJ K H a b/\b.length<=i⟩
noncomputable def Na(K:W.Frag)(a:Addr):It:=⟨λi H=>∃b x,jV K H a b/\b[i]? = some x,λi H x c=>c=H/\∀b,jV K H a b->b[i]? = some x,λi H=>∃b,jV K H a b/\b.length<=i⟩
noncomputable def K3(a:Int)(n:Nat):It:=⟨λi _=>i<n,λi H x b=>b=H/\x=.int (a+i),λi _=>n<=i⟩
def AM{K:W.Frag} a it:zu P w K tg (Md K a) [it] it (λi h=>h.IsListIter it a i) where
 mem:=by simp
 obj:=λi h f b g=>by
  have e:b=it:=by simpa using g
  subst e;obtain⟨o,e,c,d⟩:=f;exact⟨o,e,λv z=>by rw[d]at z;cases z⟩
 keep:=λi h N f k=>f.at λo e=>k it (by simp) o e
 item:=by intro X t hw r L i U s S H E I l f F;subst t hw r;obtain⟨Y,x,m,n⟩:=F;obtain⟨y,B,p,hz⟩:=I.list m;obtain⟨u,hu,Z⟩:=B.get n;obtain⟨C,q,R,A,D,J⟩:=l it (by simp);refine wpAny_pyNext_list_item f p.isList (by simpa using hu) λN j Q=>?_;have I1:=I.turned (t':=s.toks) (λb o g e=>(Q.2 b g).trans e) C q A D J;obtain⟨o,e,c,d⟩:=id j;exact⟨u,rfl,Ey e c d (by decide) ⟨x,H,I1,Z,⟨rfl,λys hy=>by rw[I.list_inj hy m];exact n⟩,j,λb g=>(l b g).1⟩⟩
 done:=by intro X t hw r L i U s S H E I l f F;subst t hw r;obtain⟨Y,m,n⟩:=F;obtain⟨y,B,p,hz⟩:=I.list m;obtain⟨C,q,R,A,D,J⟩:=l it (by simp);have hl:=B.length;exact wpAny_pyNext_list_end (I.ok.hd L) f p.isList (by simp;omega) λN eb=>⟨rfl,I.turned (λb o g e=>eb b o g e) C q A D J⟩
 self:=λ_ _ _ _ _ f h=>wpAny_pyIter_listiter f h
def yu{K:W.Frag} a it:zu P w K tg (Na K a) [it] it (λi h=>h.IsTupleIter it a i) where
 mem:=by simp
 obj:=λi h f b g=>by
  have e:b=it:=by simpa using g
  subst e;obtain⟨o,e,c,d⟩:=f;exact⟨o,e,λv z=>by rw[d]at z;cases z⟩
 keep:=λi h N f k=>f.at λo e=>k it (by simp) o e
 item:=by intro X t hw r L i U s S H E I l f F;subst t hw r;obtain⟨Y,x,m,n⟩:=F;obtain⟨y,B,p,hz⟩:=I.tuple m;obtain⟨u,hu,Z⟩:=B.get n;obtain⟨C,q,R,A,D,J⟩:=l it (by simp);refine wpAny_pyNext_tuple_item f (p) (by simpa using hu) λN j Q=>?_;have I1:=I.turned (t':=s.toks) (λb o g e=>(Q.2 b g).trans e) C q A D J;obtain⟨o,e,c,d⟩:=id j;exact⟨u,rfl,Ey e c d (by decide) ⟨x,H,I1,Z,⟨rfl,λys hy=>by rw[I.tuple_inj hy m];exact n⟩,j,λb g=>(l b g).1⟩⟩
 done:=by intro X t hw r L i U s S H E I l f F;subst t hw r;obtain⟨Y,m,n⟩:=F;obtain⟨y,B,p,hz⟩:=I.tuple m;obtain⟨C,q,R,A,D,J⟩:=l it (by simp);have hl:=B.length;exact wpAny_pyNext_tuple_end (I.ok.hd L) f (p) (by simp;omega) λN eb=>⟨rfl,I.turned (λb o g e=>eb b o g e) C q A D J⟩
 self:=λ_ _ _ _ _ f h=>wpAny_pyIter_tupleiter f h
def yX{K:W.Frag} it lo n:zu P w K tg (K3 lo n) [it] it (λi h=>IsRangeIter h it (lo+(i:Nat)*1) ((n:Int)-(i:Nat)) 1) where
 mem:=by simp
 obj:=λi h a b c=>by
  have e:b=it:=by simpa using c
  subst e;exact⟨_,a,λv z=>by have F:=z;cases F⟩
 keep:=λi h y a k=>k it (by simp) _ a
 item:=by intro X m hw l g i B s A H E I f a u;subst m hw l;obtain⟨q,j,D,p,r,x⟩:=f it (by simp);have W:=Walks.range (prog:=X.prog) (w:=X.w) (I.ok.hd g) it lo 1 n;refine W.item i s _ _ u a λv y C Q d J=>?_;obtain⟨t,rfl⟩:=Q;have L:eO X B A H {s with heap:=y,toks:=C}:=I.turned (λb o c e=>J b o (by simpa using c) e) q j p r x;refine⟨_,rfl,Ey d rfl rfl (by decide) ⟨.int (lo+i),H,L,⟨t,?_⟩,⟨rfl,rfl⟩,d,λb c=>(f b c).1⟩⟩;rw[Int.mul_one]
 done:=by intro X m hw l g i B s A H E I f a u;subst m hw l;obtain⟨q,j,D,p,r,x⟩:=f it (by simp);exact wpAny_pyNext_range_end (I.ok.hd g) a (by have:n<=i:=u;omega) λy N=>⟨rfl,I.turned (λb o c e=>N b o c e) q j p r x⟩
 self:=λ_ _ _ _ _ a h=>wpAny_pyIter_rangeiter a h
end L2
namespace L2
open PySem PySem.Spec PyProof.Rows
section
variable {X:Cx}{tg:Expr}
def xR(K:W.Frag)(d:TE):TI:=λc H R=>d c H λx b=>∃a,x=.ref a/\(∃e,iJ K b a e)/\R (Md K a) b
def Kv(K:W.Frag)(d:TE):TI:=λc H R=>d c H λx b=>∃a,x=.ref a/\(∃e,jV K b a e)/\R (Na K a) b
def vT(j:PE X l tl):PI X tg l (xR X.K tl):=by
 intro d s c H R I h;refine gZ (j d s c H _ I h) λv s1 ⟨x,H1,I1,r1,q1⟩=>?_;obtain⟨a,e,⟨k,i⟩,q⟩:=q1;subst e;cases r1;obtain⟨f,m,p,n⟩:=I1.list i;refine wpAny_pyIter_list p.isList ?_;refine⟨s1.heap.objs.size,[s1.heap.objs.size],_,_,H1,rfl,I1.kept λb o e=>ae _ e,AM a _,⟨_,au _ rfl,rfl,rfl⟩,λb g=>?_,q⟩;have e:b=s1.heap.objs.size:=by simpa using g
 subst e;exact I1.fpOk (aK _) (I1.hok.fresh (aK _))
def Kf(j:PE X l tl):PI X tg l (Kv X.K tl):=by
 intro d s c H R I h;refine gZ (j d s c H _ I h) λv s1 ⟨x,H1,I1,r1,q1⟩=>?_;obtain⟨a,e,⟨k,i⟩,q⟩:=q1;subst e;cases r1;obtain⟨f,m,p,n⟩:=I1.tuple i;refine wpAny_pyIter_tuple (p) ?_;refine⟨s1.heap.objs.size,[s1.heap.objs.size],_,_,H1,rfl,I1.kept λb o e=>ae _ e,yu a _,⟨_,au _ rfl,rfl,rfl⟩,λb g=>?_,q⟩;have e:b=s1.heap.objs.size:=by simpa using g
 subst e;exact I1.fpOk (aK _) (I1.hok.fresh (aK _))
def B7{a c:Int}(I:eO X eh σ H s)(g:-(2 ^ 62)<=a)(l:a<2 ^ 62)(k:-(2 ^ 62)<=c)(i:c<2 ^ 62)
  (q:R (K3 a (c-a).toNat) H):wpAny (model X.prog X.w) X.A (pyIter (.ref s.heap.objs.size)) (Nl X eh σ tg R) E {s with heap:=s.heap.push {cls:=.type "range",data:=.fields #[.int a t,.int c u,.int 1 v]},toks:=tk}:=by
 refine wpAny_pyIter_range (IsRange.new ..) (small_one g l k i) ?_;have d:eO X eh σ H {s with heap:=s.heap.push {cls:=.type "range",data:=.fields #[.int a t,.int c u,.int 1 v]},toks:=tk}:=I.kept λb o e=>ae _ e;refine⟨(s.heap.push {cls:=.type "range",data:=.fields #[.int a t,.int c u,.int 1 v]}).objs.size,[(s.heap.push {cls:=.type "range",data:=.fields #[.int a t,.int c u,.int 1 v]}).objs.size],_,_,H,rfl,
  d.kept λb o e=>ae _ e,yX _ a (c-a).toNat,?_,λb f=>?_,q⟩
 .have j:a+((0:Nat):Int)*1=a:=by simp
  have h:(((c-a).toNat:Nat):Int)-((0:Nat):Int)=Builtin.Range.rangeSize a c 1:=by rw[rangeSize_one];split<;>omega
  rw[j,h];exact au _ rfl
 .have e:b=(s.heap.push {cls:=.type "range",data:=.fields #[.int a t,.int c u,.int 1 v]}).objs.size:=by simpa using f
  subst e;exact d.fpOk (aK _) (d.hok.fresh (aK _))
def DE(b:TA):TI:=λa H R=>b a H λc d=>∃j:Int,c=[.int j]/\-(2 ^ 62)<=j/\j<2 ^ 62/\R (K3 0 j.toNat) d
def Bp(k:Gl X "range")(f:X.mg "range" = none)(l:PA X [a] ta)(g:starEach [a] X.env=[(false,eval a X.env)]:=by rfl):PI X tg (.Call (.Name "range" p) [a] [] pos) (DE ta):=by
 intro i s d H R I h;refine Call_ (n0 I k f boot_range (PyProof.Rows.callWith_type1 (gZ (l pos i s d H _ I h) λus s1 ⟨vs,H1,I1,r1,b⟩=>?_) g rfl));obtain⟨j,e,b,c,q⟩:=b;subst e;cases r1 with
 |cons r rr=>cases rr;obtain⟨t,rfl⟩:=r;exact call_range_1 (B7 I1 (by omega) (by omega) b c (by simpa using q))
def qI(h:TI)(g:TG)(f:TS):TS:=λD a H=>h a H λJ k=>∃W:Nat->Nat->St->Hp->Prop,(∃m,W 0 m a k)/\∀i m a H,W i m a H->
 (J.stop i H/\D.nx a H)\/(J.go i H/\∃N:St->Hp->Prop,(∀b c,N b c->∃e,e<m/\W (i+1) e b c)/\∀x c,J.yld i H x c->g x a c λd j=>f {D with nx:=N,ct:=N,bk:=D.nx} d j)
noncomputable def rX(a:List Addr)(h:Heap):List (Addr×Obj):=a.filterMap λb=>(h.get? b).map λo=>(b,o)
def l7(a:b∈fp)(e:h.get? b=some o):(b,o)∈rX fp h:=bt.mpr ⟨b,a,by rw[e];rfl⟩
def BE(d:p∈rX fp h):p.1∈fp/\h.get? p.1=some p.2:=by
 obtain⟨b,a,e⟩:=bt.mp d;cases q:h.get? b with
 |none=>rw[q]at e;cases e
 |some o=>rw[q]at e;have c:=Option.some.inj e;subst c;exact⟨a,q⟩
def eO.pinned(I:eO X eh σ H s)(f:∀b∈fp,qH X eh H b)(j:∀b∈fp,∃o,s.heap.get? b=some o/\∀v,o.data≠.cell v):eO X (eh++rX fp s.heap) σ H s:=I.pins_of λp k=>(ai.mp k).elim (λz=>I.pin p (bu _ z)) λz=>by obtain⟨a,e⟩:=BE z;obtain⟨i,h,g,_⟩:=f p.1 a;obtain⟨o,c,d⟩:=j p.1 a;rw[e]at c;cases c;exact⟨e,i,h,g,d⟩
def eO.unpinned(I:eO X (eh++pl) σ H s):eO X eh σ H s:=I.pins_of λp a=>I.pin p (bu _ (ay _ a))
theorem oq(F:PassesOwn (model X.prog X.w) X.A X.env X.xe)(Y:X.calm=true)(hi:PI X tg iter wi)(hg:PG X tg g)(p:v9 X body tb)
  (hs:∀x,foldedSetIterable iter X.env x=pure x:=by intro _;rfl):PS X (.For tg iter body [] pos) (qI wi g tb):=by
 intro B s σ H D I h;refine wpAny_For (gZ (hi B s σ H _ I h) λv s1 h1=>gZ h1 λitv s2 h2=>?_) hs;obtain⟨it,E,Z,J,H2,e,I2,T,S,f2,W,⟨m0,w0⟩,turn⟩:=h2;subst e;have j:∀{y:Hp},(∀b∈E,y b=none)->∀b∈E,qH X B y b:=λhn b p=>⟨hn b p,(f2 b p).2⟩;refine codeAny_forLoop_any (λn s'=>∃i q y,eO X B q y s'/\Z i s'.heap/\(∀b∈E,y b=none)/\W i n q y) ?_ m0 ⟨0,σ,H2,I2,S,λb p=>(f2 b p).1,w0⟩;rintro n s3 ⟨i,t,Q,I3,C,L,w3⟩;rcases turn i n t Q w3 with⟨P,qn⟩|⟨go,N,hN,step⟩
 .refine wpAny_passesOwn F (gZ (T.done X rfl rfl rfl Y i B s3 t Q X.xe I3 (j L) C P) λr s4 ⟨hr,I4⟩=>?_);subst hr;exact wpAny_execs_nil ⟨t,Q,I4,qn⟩
 .refine wpAny_passesOwn F (gZ (T.item X rfl rfl rfl Y i B s3 t Q X.xe I3 (j L) C go) λr s4 ⟨u,hr,h4⟩=>?_);subst hr;refine wpAny_passesOwn F (gZ h4 λ_ s5 ⟨x,H5,I5,r5,y5,st5,fr5⟩=>?_);have U:=I5.pinned (j fr5) (T.obj _ _ st5);refine wpAny_passesOwn F (gZ (hg _ s5 t H5 x u _ U r5 (step x H5 y5)) λ_ s6 ⟨σ6,H6,I6,q6⟩=>?_);refine wpAny_passesOwn F (gZ (p _ s6 σ6 H6 _ I6 q6) λf R z=>?_);have l:∀{a:St} {k:Hp},eO X (B++rX E s5.heap) a k R->N a k->∃m,m<n/\∃i q y,eO X B q y R/\Z i R.heap/\(∀b∈E,y b=none)/\W i m q y:=λ{a k} c K=>by obtain⟨m',hm,w7⟩:=hN a k K;refine⟨m',hm,i+1,a,k,c.unpinned,T.keep _ _ _ st5 λb p o e=>(c.pin (b,o) (bu _ (bu _ (l7 p e)))).1,λb p=>?_,w7⟩;obtain⟨o,e,d⟩:=T.obj _ _ st5 b p;exact (c.pin (b,o) (bu _ (bu _ (l7 p e)))).2.1
  cases f with
  |next=>obtain⟨a,k,c,K⟩:=z;exact l c K
  |cont=>obtain⟨a,k,c,K⟩:=z;exact l c K
  |brk=>obtain⟨a,k,c,z⟩:=z;exact⟨a,k,c.unpinned,z⟩
  |ret v=>obtain⟨x7,a,k,c,r7,z⟩:=z;exact⟨x7,a,k,c.unpinned,r7,z⟩
end
end L2
namespace L2
open PySem PySem.Spec PyProof.Rows
abbrev R2:=V->V->Hp->VK->Prop
def mJ(X:Cx)(f:Vq->Value->Sem Value)(r:R2):Prop:=
 ∀(b:List (Addr×Obj)) (s:Sq) (a:St) (H:Hp) (x y:V) (v u:Vq) (Q:VK),eO X b a H s->fO x v->fO y u->r x y H Q->
  wpAny (model X.prog X.w) X.A (f v u) (EP X b a Q) X.xe s
def Mw(X:Cx)(f:Vq->Sem Value)(r:V->Hp->VK->Prop):Prop:=
 ∀(b:List (Addr×Obj)) (s:Sq) (a:St) (H:Hp) (x:V) (v:Vq) (Q:VK),eO X b a H s->fO x v->r x H Q->
  wpAny (model X.prog X.w) X.A (f v) (EP X b a Q) X.xe s
def i7(X:Cx)(f:Vq)(r:List V->Hp->VK->Prop):Prop:=
 ∀(b:List (Addr×Obj)) (s:Sq) (a:St) (H:Hp) (c:List V) (d:List Vq) (Q:VK),eO X b a H s->fu c d->r c H Q->
  wpAny (model X.prog X.w) X.A (call f d) (EP X b a Q) X.xe s
def qQ(r:R2)(b d:TE):TE:=λa H Q=>b a H λx e=>d a e λy c=>r x y c Q
def MK(r:V->Hp->VK->Prop)(b:TE):TE:=λa H Q=>b a H λx c=>r x c Q
def rI(C:Int->Int->Prop)(g:Int->Int->V):R2:=λx y H Q=>∃i j,x=.int i/\y=.int j/\C i j/\Q (g i j) H
def wH(g:Int->Int->V):R2:=λx y H Q=>∃i j,x=.int i/\y=.int j/\Q (g i j) H
def rU(g:Int->V):V->Hp->VK->Prop:=λx H Q=>∃i,x=.int i/\Q (g i) H
section
variable {X:Cx}{a b c:Expr}{ta tb tc:TE}{pos:Pos}
def Jf(m:PE X a ta)(l:PE X b tb){R:V->V->Hp->Prop}(I:eO X eh σ H s)
  (h:ta σ H λx j=>tb σ j λy d=>R x y d) {f:Vq->Value->Sem Value}
  (k:∀v u i x y d,eO X eh σ d i->fO x v->fO y u->R x y d->wpAny (model X.prog X.w) X.A (f v u) Q X.xe i) :
  wpAny (model X.prog X.w) X.A (eval a X.env) (λv e=>wpAny (model X.prog X.w) X.A (eval b X.env) (λu g=>wpAny (model X.prog X.w) X.A (f v u) Q X.xe g) X.xe e) X.xe s:=by
 refine gZ (m eh s σ H _ I h) λv s1 ⟨x,j,I1,r1,q1⟩=>?_;refine gZ (l eh s1 σ j _ I1 q1) λu i ⟨y,d,I2,r2,q2⟩=>?_;exact k v u i x y d I2 r1 r2 q2
def Fk(l:mJ X (binaryOp op) r)(m:PE X a ta)(j:PE X b tb):PE X (.BinOp a op b pos) (qQ r ta tb):=by intro f s e H Q I h;exact wpAny_BinOp (Jf m j I h λv u n x y i d k g q=>l f n e i x y v u Q d k g q)
def HZ(f:Mw X (unaryOp op) r)(g:PE X a ta):PE X (.UnaryOp op a pos) (MK r ta):=by intro e s d H Q I h;exact UnaryOp_ (gZ (g e s d H _ I h) λv s1 ⟨x,H1,I1,r1,q1⟩=>f e s1 d H1 x v Q I1 r1 q1)
def KO{g:Int->Int->Int}
  (d:∀i j t u s Q E,C i j->Q (.int (g i j) s.toks) {s with toks:=s.toks+1}->wpAny (model X.prog X.w) X.A (f (.int i t) (.int j u)) Q E s) :
  mJ X f (rI C λi j=>.int (g i j)):=by
 intro o s n H x y v u Q I l k h;obtain⟨i,j,rfl,rfl,e,q⟩:=h;obtain⟨t,rfl⟩:=l;obtain⟨m,rfl⟩:=k;exact d i j t m s _ _ e ⟨.int (g i j),H,I.tok _,⟨_,rfl⟩,q⟩
def IB{g:Int->Int->Int}
  (d:∀i j t u s Q E,Q (.int (g i j) s.toks) {s with toks:=s.toks+1}->wpAny (model X.prog X.w) X.A (f (.int i t) (.int j u)) Q E s) :
  mJ X f (wH λi j=>.int (g i j)):=by
 intro n s m H x y v u Q I k e h;obtain⟨i,j,rfl,rfl,q⟩:=h;obtain⟨t,rfl⟩:=k;obtain⟨l,rfl⟩:=e;exact d i j t l s _ _ ⟨.int (g i j),H,I.tok _,⟨_,rfl⟩,q⟩
def Fv{g:Int->Int->Bool}
  (d:∀(i j:Int) (t u:Tok) (s:Sq) (Q:Vq->Shared->Prop) (E:Vq->Shared->Prop),Q (.bool (g i j)) s->wpAny (model X.prog X.w) X.A (f (.int i t) (.int j u)) Q E s) :
  mJ X f (wH λi j=>.bl (g i j)):=by
 intro n s m H x y v u Q I k e h;obtain⟨i,j,rfl,rfl,q⟩:=h;obtain⟨t,rfl⟩:=k;obtain⟨l,rfl⟩:=e;exact d i j t l s _ _ ⟨.bl (g i j),H,I,rfl,q⟩
def GE(i j:Int):Prop:=0<=j/\j<=1000000/\i.natAbs<2 ^ 64
def yk k:(0:Int)<=2 ^ k:=by rw[two_pow_cast];exact bx _
def Kk:mJ X (binaryOp .Add) (wH λi j=>.int (i+j)):=IB λ_ _ _ _ _ _ _ q=>add_int q
def IK:mJ X (binaryOp .Sub) (wH λi j=>.int (i-j)):=IB λ_ _ _ _ _ _ _ q=>sub_int q
def Hs:mJ X (binaryOp .Mod) (rI (λ_ j=>j≠0) λi j=>.int (i.fmod j)):=KO λ_ _ _ _ _ _ _ d q=>mod_int' d q
def Kp:mJ X (binaryOp .Pow) (rI GE λi j=>.int (i ^ j.toNat)):=KO λ_ _ _ _ _ _ _ d q=>pow_int_small d.1 d.2.1 d.2.2 q
def JE:mJ X (binaryOp .LShift) (rI GE λi j=>.int (i*2 ^ j.toNat)):=KO λ_ _ _ _ _ _ _ d q=>lshift_int_small d.1 d.2.1 d.2.2 q
def Kg:mJ X (binaryOp .RShift) (rI (λ_ j=>0<=j) λi j=>.int (i / 2 ^ j.toNat)):=KO λi j _ _ _ _ _ d q=>rshift_int d (by rw[Int.fdiv_eq_ediv_of_nonneg i (yk _)];exact q)
def Kd:mJ X (binaryOp .BitAnd) (wH λi j=>.int (Builtin.bitAnd i j)):=IB λ_ _ _ _ _ _ _ q=>and_int q
def ND{g:Int->Int}
  (d:∀i t s Q E,Q (.int (g i) s.toks) {s with toks:=s.toks+1}->wpAny (model X.prog X.w) X.A (f (.int i t)) Q E s) :
  Mw X f (rU λi=>.int (g i)):=by
 intro k s j H x v Q I e h;obtain⟨i,rfl,q⟩:=h;obtain⟨t,rfl⟩:=e;exact d i t s _ _ ⟨.int (g i),H,I.tok _,⟨_,rfl⟩,q⟩
def DN:Mw X (unaryOp .USub) (rU λi=>.int (-i)):=ND λ_ _ _ _ _ q=>neg_int q
end
section
variable {X:Cx}{a b c:Expr}{ta tb tc:TE}{pos:Pos}
def Ii:mJ X (compareOp .Lt) (wH λi j=>.bl (decide (i<j))):=Fv λ_ _ _ _ _ _ _ q=>lt_int q
def HS:mJ X (compareOp .LtE) (wH λi j=>.bl (decide (i<=j))):=Fv λ_ _ _ _ _ _ _ q=>le_int q
def CS:mJ X (compareOp .Gt) (wH λi j=>.bl (decide (j<i))):=Fv λ_ _ _ _ _ _ _ q=>gt_int q
def Ic:mJ X (compareOp .GtE) (wH λi j=>.bl (decide (j<=i))):=Fv λ_ _ _ _ _ _ _ q=>ge_int q
def pV b (h:op≠.In:=by decide) (e:op≠.NotIn:=by decide):behindInMarks op b=false:=by
 have f:(op==CmpOp.In)=false:=by cases op<;>first|rfl|exact absurd rfl h
 have d:(op==CmpOp.NotIn)=false:=by cases op<;>first|rfl|exact absurd rfl e
 cases b<;>simp[behindInMarks,f,d]
def GP(m:mJ X (compareOp op) r)(n:PE X a ta)(j:PE X b tb)(k:behindInMarks op b=false):PE X (.Compare a [op] [b] pos) (qQ r ta tb):=by intro f s e H Q I h;exact wpAny_Compare1 (Jf n j I h λv u o x y i d l g q=>m f o e i x y v u Q d l g q) k
def xG(t:TE):TT:=λd H Q=>t d H λx e=>∃k,x=.bl k/\Q k e
def Gb(j:mJ X (compareOp op) r)(l:PE X a ta)(g:PE X b tb)(i:behindInMarks op b=false):PT X (.Compare a [op] [b] pos) (xG (qQ r ta tb)):=by
 intro f s d H Q I h;refine wpAny_isTrue_Compare1 (gZ (l f s d H _ I h) λv s1 ⟨x,H1,I1,r1,q1⟩=>gZ (g f s1 d H1 _ I1 q1) λu s2 ⟨y,H2,I2,r2,q2⟩=>gZ (j f s2 d H2 x y v u _ I2 r1 r2 q2) λc s3 ⟨z,H3,I3,r3,k,e,q3⟩=>?_) i
 subst e;cases r3;exact wpAny_truthy_bool ⟨H3,I3,q3⟩
def yM(r g:R2)(ta tb tc:TE):TE:=λd H Q=>ta d H λx j=>tb d j λy h=>r x y h λz e=>∃k,z=.bl k/\
 (if k=true then tc d e λi f=>g y i f Q else Q (.bl false) e)
theorem B5(n:mJ X (compareOp op) r)(i:mJ X (compareOp op') r')(o:PE X a ta)(j:PE X b tb)(l:PE X c tc)
  (m:lastMarks [op,op'] [b,c]=false:=by with_unfolding_all rfl):PE X (.Compare a [op,op'] [b,c] pos) (yM r r' ta tb tc):=by
 intro g s f H Q I h;refine Compare_chain (gZ (o g s f H _ I h) λv s1 ⟨x,H1,I1,r1,q1⟩=>chain_link (gZ (j g s1 f H1 _ I1 q1) λu s2 ⟨y,H2,I2,r2,q2⟩=>gZ (n g s2 f H2 x y v u _ I2 r1 r2 q2) λd s3 ⟨z,H3,I3,r3,k,e,q3⟩=>?_)) m
 subst e;cases r3;refine wpAny_truthy_bool ?_;cases k with
 |false=>exact ite_ff ⟨.bl false,H3,I3,rfl,q3⟩
 |true=>exact ite_tt (chain_last (gZ (l g s3 f H3 _ I3 q3) λw' s4 ⟨z',H4,I4,r4,q4⟩=>i g s4 f H4 y z' u w' Q I4 r2 r4 q4))
def vX:(sizeLine:Nat)<2 ^ 63:=by rw[sizeLine_eq];decide
def yS:mJ X (binaryOp .Add) (λx y H Q=>∃i j,x=.str i/\y=.str j/\i.length+j.length<=sizeLine/\Q (.str (i++j)) H):=by intro m s l H x y v u Q I e d h;obtain⟨i,j,rfl,rfl,g,q⟩:=h;obtain⟨t,rfl⟩:=e;obtain⟨f,rfl⟩:=d;exact add_str (λf k=>⟨.str (i++j),H,I.tok _,⟨_,rfl⟩,q⟩) g
def oK(r:fu [x] us):∃u,us=[u]/\fO x u:=by
 cases r with
 |cons r1 r2=>cases r2;exact⟨_,rfl,r1⟩
def K6(r:fu [x,y] us):∃u d,us=[u,d]/\fO x u/\fO y d:=by
 cases r with
 |cons r1 r2=>
  cases r2 with
  |cons r3 r4=>cases r4;exact⟨_,_,rfl,r1,r3⟩
def xi:i7 X (.builtin "abs") (λd H Q=>∃i,d=[.int i]/\Q (.int (if i<0 then -i else i)) H):=by intro g s f H d j Q I r h;obtain⟨i,rfl,q⟩:=h;obtain⟨u,rfl,t,rfl⟩:=oK r;exact call_abs_int λu e=>⟨.int (if i<0 then -i else i),H,I.tok _,⟨_,rfl⟩,q⟩
def J0(K:W.Frag)(x:V)(H:Hp)(n:Nat):Prop:=
 match x with
 |.str y=>y.length<=sizeLine/\n=y.length
 |.byt y=>y.size<=sizeLine/\n=y.size
 |.ref p=>(∃d,iJ K H p d/\n=d.length)\/∃d,jV K H p d/\n=d.length
 |_=>False
def DZ:i7 X (.builtin "len") (λf H Q=>∃x n,f=[x]/\J0 X.K x H n/\Q (.int n) H):=by
 intro z s v H f A Q I r h;obtain⟨x,n,rfl,e,q⟩:=h;obtain⟨u,rfl,m⟩:=oK r;have w:=sizeLine_eq;cases x with
 |str y=>obtain⟨t,rfl⟩:=m;obtain⟨hy,d⟩:y.length<=sizeLine/\n=y.length:=e;subst d;exact len_str (by omega) ⟨.int _,H,I.tok _,⟨_,rfl⟩,q⟩
 |byt y=>obtain⟨t,rfl⟩:=m;obtain⟨hy,d⟩:y.size<=sizeLine/\n=y.size:=e;subst d;exact W.len_bytes (by omega) ⟨.int _,H,I.tok _,⟨_,rfl⟩,q⟩
 |ref p=>
  cases m;have d:=e;rcases d with⟨f,g,d⟩|⟨f,g,d⟩
  .subst d;obtain⟨k,i,j,o⟩:=I.list g;have l:=i.length;exact Calls.call_len_list j.isList (by simp only[bz];omega) ⟨.int f.length,H,I.tok _,⟨_,by simp only[bz];rw[l]⟩,q⟩
  .subst d;obtain⟨k,i,j,o⟩:=I.tuple g;have l:=i.length;exact len_tuple j (by simp only[bz];omega) ⟨.int f.length,H,I.tok _,⟨_,by simp only[bz];rw[l]⟩,q⟩
 |_=>exact (e).elim
end
end L2
namespace L2
open PySem PySem.Spec PyProof.Rows
structure yo(h:Heap)(x dx C:Addr)(mA:Str->Option Value):Prop where
 obj:h.get? x=some (W.instObj C dx)
 ns:h.Ns1 dx mA
 ne:dx≠x
def BC{h:Heap}(n:h.Ns1 dx mA):∃f,h.get? dx=some f/\∀b,W.lookIn b f=some (mA b):=by
 obtain⟨o,d,p,k,j,m,_,g⟩:=n;refine⟨o,k,λb=>?_⟩;have e:=g b;unfold nsFind findBy at e;rw[<-Array.find?_toList]at e;unfold W.lookIn;rw[j];dsimp only;split
 .rename_i y q;rw[q]at e;exact congrArg some e
 .rename_i q;rw[q]at e;have a:d.toList.any (·.refKey)=false:=by rw[bA];intro y l;obtain⟨z,t,c⟩:=m y (Array.mem_toList_iff.mp l);simp[DictEntry.refKey,c]
  have i:¬d.toList.any (·.refKey)=true:=by rw[a];exact aH
  rw[aR i];exact congrArg some e
def yo.look(I:yo h x dx C mA):∃b,W.InstAt h x (W.instObj C dx) C (some b)/\∀a,W.lookIn a b=some (mA a):=
 let ⟨b,ho,hl⟩:=BC I.ns
 ⟨b,⟨I.obj,rfl,rfl,ho⟩,hl⟩
section
variable {prog:Program}{w:World}{A:Around}{E:Vq->Shared->Prop}{s:Sq}{K:W.Frag}{x dx C f:Addr}{mA:Str->Option Value}{name:Str}{v:Vq}
def Hl(X:K.In s.heap)(I:yo s.heap x dx C mA)(e:W.plainGet K C name=true)(c:W.hasDictIn K C=true)
  (g:W.findIn K (.ref C) name=some none) (d:mA name=some v) (a:W.handedIn v=true) (h:Q v {s with toks:=s.toks+1}) :
  wpAny (model prog w) A (getAttr (.ref x) name expr) Q E s:=by
 obtain⟨i,J,b⟩:=I.look;exact W.get_value X J (W.plainGet_of e).1 (W.findObj_own c g rfl (by rw[b,d])) a h
def DJ(X:K.In s.heap)(I:yo s.heap x dx C mA)(a:W.plainGet K C name=true)
  (b:W.findIn K (.ref C) name=some (some (.ref f))) (g:W.isFn K (.ref f)=true) (e:mA name=none) (h:Q (.ref f,[.ref x]) s) :
  wpAny (model prog w) A (getMethod (.ref x) name pl) Q E s:=by
 obtain⟨d,J,c⟩:=I.look;exact W.method_fn X J (W.plainGet_of a).1 (W.plainGet_of a).2 b (beq_iff_eq.mp g) (by show (W.lookIn name d).map (·.isSome)=some false;rw[c,e];rfl) h
def Gv(X:K.In s.heap)(I:yo s.heap x dx C mA)
  (m:W.findIn K (.ref C) "__setattr__" = some (some (.builtin "object.__setattr__"))) (o:W.plainOver K C=true) (q:W.takerIn K C name=some none) (n:W.hasDictIn K C=true)
  (hw:PySem.Within mA ns) (hsz:ns.length<=sizeLine)
  (h:∀h',yo h' x dx C (λy=>if y=name then some v else mA y)->Heap.SameBut dx s.heap h'->Q () {s with heap:=h',toks:=s.toks+2}) :
  wpAny (model prog w) A (setAttr (.ref x) name v) Q E s:=by
 obtain⟨r,J,u⟩:=I.look;refine W.set_plain X J m (W.osa_open X J o q λb=>?_);obtain⟨t,j,g⟩:=W.any_some n;have k:=I.obj;refine aq (ao (aq (aq (wpAny_loadPart k (aq (W.Looks.here (W.looks_clsIn X j) ?_))))));rw[g];refine ao (aq (ao (aq ?_)));refine wpAny_nsSet1 I.ns λh' a c=>?_;obtain⟨z,p,l,i,d,e⟩:=a.count (PySem.Within.cons name v hw);refine aq (wpAny_lookBehind i (by rw[d];exact pastItsLine_dict (aN e (by rw[az];omega))) ?_);exact ao (h _ ⟨(c.2 _ (Ne.symm I.ne)).trans I.obj,a,I.ne⟩ c)
def EF(X:K.In s.heap)(c:W.makesIn K C=true)
  (e:W.findIn K (.ref C) "__init__" = some (some (.ref f))) (b:W.typeIn K (.ref f)=some (.type "function"))
  (h:codeAny (model prog w) (A.under (.builtin "type.__call__" ⟨.ref C::vs,kw⟩)) (.call (.ref f) ⟨.ref (s.heap.objs.size+1)::vs,kw⟩) (W.InitBack (s.heap.objs.size+1) R)
   {s with heap:=(s.heap.push W.emptyDict).push (W.instObj C s.heap.objs.size)}) :
  codeAny (model prog w) A (.call (.ref C) ⟨vs,kw⟩) R s:=by
 obtain⟨j,g,d,t,i⟩:=s;exact W.make_core (W.makes_of X c) (W.looks_findIn X e) (λa=>W.bind_fn X a b) (.inl rfl) h
end
def mh(f:Str)(v:V):List (Str×V)->List (Str×V)
 |[]=>[(f,v)]
 | (g,x)::r=>if g=f then (g,v)::r else (g,x)::mh f v r
theorem qu f g v:∀fs:List (Str×V),(mh f v fs).lookup g=if g=f then some v else fs.lookup g
 |[]=>by
  show List.lookup g [(f,v)]=_;by_cases h:g=f
  .have a:=beq_iff_eq.mpr h;simp only[List.lookup,a,aQ h]
  .have a:=beq_eq_false_iff_ne.mpr h;simp only[List.lookup,a,aR h]
 | (k,x)::r=>by
  have c:=qu f g v r;rw[show mh f v ((k,x)::r)=(if k=f then (k,v)::r else (k,x)::mh f v r) from rfl];by_cases b:k=f
  .rw[aQ b];by_cases h:g=k
   .have a:=beq_iff_eq.mpr h;simp only[List.lookup,a,aQ (h.trans b)]
   .have a:=beq_eq_false_iff_ne.mpr h;simp only[List.lookup,a,aR (λe:g=f=>h (e.trans b.symm))]
  .rw[aR b];by_cases h:g=k
   .have a:=beq_iff_eq.mpr h;simp only[List.lookup,a,aR (λe:g=f=>b (h.symm.trans e))]
   .have a:=beq_eq_false_iff_ne.mpr h;simp only[List.lookup,a];exact c
theorem qh f v:∀fs:List (Str×V),f∈(mh f v fs).map (·.1)/\∀g,g∈fs.map (·.1)->g∈(mh f v fs).map (·.1)
 |[]=>⟨by simp[mh],λg h=>by simp at h⟩
 | (k,x)::r=>by
  obtain⟨b,c⟩:=qh f v r;rw[show mh f v ((k,x)::r)=(if k=f then (k,v)::r else (k,x)::mh f v r) from rfl];by_cases a:k=f
  .rw[aQ a];subst a;exact⟨by simp,λg h=>by simpa using h⟩
  .rw[aR a];refine⟨?_,λg h=>?_⟩
   .rw[bB];exact bj _ b
   .rw[bB]at h ⊢;rcases aF.mp h with e|e
    .exact aF.mpr (.inl e)
    .exact bj _ (c g e)
theorem qr f v:∀fs:List (Str×V),(mh f v fs).length<=fs.length+1
 |[]=>by simp[mh]
 | (k,x)::r=>by
  have b:=qr f v r;rw[show mh f v ((k,x)::r)=(if k=f then (k,v)::r else (k,x)::mh f v r) from rfl];by_cases a:k=f
  .rw[aQ a,az,az];omega
  .rw[aR a,az,az];omega
def vL.some_of(r:vL (some v) o):∃u,o=some u/\fO v u:=by
 cases o with
 |none=>exact (r).elim
 |some u=>exact⟨u,rfl,r⟩
def vL.none_of(r:vL none o):o=none:=by
 cases o with
 |none=>rfl
 |some u=>exact (r).elim
def Bh(r:fO v u):W.handedIn u=true:=by
 cases v with
 |non=>cases (r);rfl
 |bl b=>cases (r);rfl
 |int i=>obtain⟨t,e⟩:=(r);cases e;rfl
 |str x=>obtain⟨t,e⟩:=(r);cases e;rfl
 |byt b=>obtain⟨t,e⟩:=(r);cases e;rfl
 |flt b=>obtain⟨t,e⟩:=(r);cases e;rfl
 |ref a=>cases (r);rfl
 |ty n=>cases (r);rfl
section
variable {P:Program}{w:World}{H H':Hp}{h h':Heap}{a C dx:Addr}{fs fs':List (Str×V)}
def qV(c:nv P w H h)(e:H a=some (.ins C dx fs)):∃b,yo h a dx C b/\(∀f,vL (fs.lookup f) (b f))/\PySem.Within b (fs.map (·.1))/\fs.length<=1000/\H dx=some (.own a):=by obtain⟨d,z,ne,g,b,n,r,q⟩:=(c a _ e);exact⟨b,⟨g,n,ne⟩,r,q,z,d⟩
end
structure uj(K:W.Frag)(C:Addr):Prop where
 pg:W.plainGet K C Str.empty=true
 hd:W.hasDictIn K C=true
 po:W.plainOver K C=true
 sa:W.findIn K (.ref C) "__setattr__" = some (some (.builtin "object.__setattr__"))
def uj.get{K:W.Frag}(c:uj K C) f:W.plainGet K C f=true:=c.pg
def jb(K:W.Frag)(C:Addr)(f:Str):Prop:=W.findIn K (.ref C) f=some none
def jb.taker{K:W.Frag}(n:jb K C f):W.takerIn K C f=some none:=by unfold W.takerIn;rw[show W.findIn K (.ref C) f=some none from n];rfl
structure G4(K:W.Frag)(C:Addr)(m:Str)(f:Addr):Prop where
 at_:W.findIn K (.ref C) m=some (some (.ref f))
 fn:W.isFn K (.ref f)=true
 kp:W.keepIn K (.ref f)=true
section
variable {X:Cx}{eh:List (Addr×Obj)}{σ:St}{H:Hp}{s:Sq}{a C dx:Addr}{fs:List (Str×V)}{f:Str}{v:V}{A:Around}{E:Vq->Shared->Prop}
def zi(I:eO X eh σ H s)(e:H a=some (.ins C dx fs))(c:uj X.K C)(n:jb X.K C f)(l:fs.lookup f=some v)
  (h:∀u d,eO X eh σ H d->fO v u->Q u d):wpAny (model X.prog X.w) A (getAttr (.ref a) f b) Q E s:=by
 obtain⟨j,O,r,_,_,_⟩:=qV I.hok e;obtain⟨u,i,g⟩:=vL.some_of (by rw[<-l];exact r f);exact Hl I.kIn O (c.get f) c.hd n i (Bh g) (h u _ (I.tok _) g)
def x9(I:eO X eh σ H s)(e:H a=some (.ins C dx fs))(c:uj X.K C)(k:G4 X.K C m g)(l:fs.lookup m=none)
  (h:Q (.ref g,[.ref a]) s):wpAny (model X.prog X.w) A (getMethod (.ref a) m pl) Q E s:=by
 obtain⟨d,O,r,_,_,_⟩:=qV I.hok e;have b:=vL.none_of (by rw[<-l];exact r m);exact DJ I.kIn O (c.get m) k.at_ k.fn b h
def yO(I:eO X eh σ H s)(e:H a=some (.ins C dx fs))(c:uj X.K C)(n:jb X.K C f)(J:fs.length<1000)(p:fO y u)
  (h:∀j,eO X eh σ (fN H a (.ins C dx (mh f y fs))) j->Q () j):wpAny (model X.prog X.w) A (setAttr (.ref a) f u) Q E s:=by
 obtain⟨l,O,r,i,_,k⟩:=qV I.hok e;have B:(fs.map (·.1)).length<=sizeLine:=by rw[ax,sizeLine_eq];omega
 refine Gv I.kIn O c.sa c.po n.taker c.hd i B λF d m=>h _ ?_;have x:∃o,F.get? dx=some o:=let ⟨o,_,_,e',_⟩:=d.ns;⟨o,e'⟩;refine I.write (by rw[e];exact True.intro) (.inr k) (λb q t z=>(m.2 b t).trans z) x ?_;refine⟨by rw[eM O.ne];exact k,?_,O.ne,d.obj,_,d.ns,λg=>?_,λg D=>?_⟩
 .have:=qr f y fs;omega
 .rw[qu];by_cases q:g=f
  .rw[aQ q,aQ q];exact p
  .rw[aR q,aR q];exact r g
 .by_cases q:g=f
  .rw[q];exact (qh f y fs).1
  .refine (qh f y fs).2 g (i g λz=>D ?_);show (if g=f then some u else l g)=none;rw[aR q];exact z
def eO.made(I:eO X eh σ H s):eO X eh σ (fN (fN H s.heap.objs.size (.own (s.heap.objs.size+1))) (s.heap.objs.size+1) (.ins C s.heap.objs.size []))
  {s with heap:=(s.heap.push W.emptyDict).push (W.instObj C s.heap.objs.size)}:=by
 have c:(s.heap.push W.emptyDict).get? s.heap.objs.size=some W.emptyDict:=au s.heap rfl;have g:((s.heap.push W.emptyDict).push (W.instObj C s.heap.objs.size)).get? (s.heap.objs.size+1)=some (W.instObj C s.heap.objs.size):=by have:=au (s.heap.push W.emptyDict) (o:=W.instObj C s.heap.objs.size) rfl;rwa [Heap.size_push]at this
 have h:(s.heap.push W.emptyDict).Ns s.heap.objs.size (λ_=>none):=⟨W.emptyDict,#[],_,c,rfl,(λe d=>absurd d (by simp)),λ_=>rfl⟩;have i:=I.laid (o:=.own (s.heap.objs.size+1)) (t':=s.toks) (λb u q=>ae _ q) (aK _) ⟨_,c⟩;refine i.laid (λb u q=>ae _ q) (Nat.le_of_eq (Heap.size_push _ _)) ?_;have ne:s.heap.objs.size≠s.heap.objs.size+1:=aM (bC _);refine⟨by rw[eM ne,eJ],bD _,ne,g,λ_=>none,(Heap.Ns1.of_empty h).at λo q=>ae _ q,λ_=>True.intro,λy j=>absurd rfl j⟩
def Hc(c:attributeBase e f env (eval e env)=eval e env)
  (h:wpAny (model prog w) A (eval e env) (λo b=>wpAny (model prog w) A (getAttr o f true) Q E b) E s):wpAny (model prog w) A (eval (.Attribute e f pos) env) Q E s:=
 Attribute_any_ h (by rw[arm_eval_Attribute,c])
end
def Ki(K:W.Frag)(d:TE)(f:Str):TE:=λc H Q=>d c H λx b=>∃a C e fs v,x=.ref a/\b a=some (.ins C e fs)/\uj K C/\jb K C f/\fs.lookup f=some v/\Q v b
def ID(K:W.Frag)(e g:TE)(f:Str):TS:=λD b H=>g b H λy h=>e b h λx c=>∃a C d fs,x=.ref a/\c a=some (.ins C d fs)/\uj K C/\jb K C f/\fs.length<1000/\
 D.nx b (fN c a (.ins C d (mh f y fs)))
section
variable {X:Cx}{o e value:Expr}{f:Str}{pos pos' tpos:Pos}{ta tv:TE}
def JO(b:PE X e ta)(d:attributeBase e f X.env (eval e X.env)=eval e X.env):PE X (.Attribute e f pos) (Ki X.K ta f):=by intro i s g H Q I h;refine Hc d (gZ (b i s g H _ I h) λu s1 ⟨x,H1,I1,rx,a,C,dx,fs,v,ex,ea,c,n,l,q⟩=>?_);subst ex;obtain rfl:u=Value.ref a:=rx;exact zi I1 ea c n l λm p j k=>⟨v,H1,j,k,q⟩
def C7(k:PE X o ta)(i:PE X value tv)(g:swapsWith value (some (.Attribute o f pos')) pos.line X.env=pure false):PS X (.Assign [.Attribute o f pos'] value pos) (ID X.K ta tv f):=by intro d s b H D I h;refine plainObj_wpAny_Assign_Attribute (gZ (i d s b H _ I h) λu s1 ⟨y,H1,I1,ry,q⟩=>gZ (k d s1 b H1 _ I1 q) λov s2 ⟨x,H2,I2,rx,a,C,dx,fs,ex,ea,c,n,l,q2⟩=>?_) g;subst ex;obtain rfl:ov=Value.ref a:=rx;exact yO I2 ea c n l ry λm j=>⟨b,_,j,q2⟩
end
section
variable {X:Cx}{eh:List (Addr×Obj)}{σ:St}{H:Hp}{s:Sq}{A:Around}{E:Vq->Shared->Prop}{Q:Vq->Shared->Prop}{c:Vq}{b:Bool}
inductive mF(K:W.Frag)(H:Hp):V->Value->Prop where
 |non:mF K H .non (.type "NoneType")
 |bl (x:Bool):mF K H (.bl x) (.type "bool")
 |int (i:Int):mF K H (.int i) (.type "int")
 |str (x:Str):mF K H (.str x) (.type "str")
 |flt (x:UInt64):mF K H (.flt x) (.type "float")
 |lst {a:Addr} {xs:List V} (e:H a=some (.lst xs)):mF K H (.ref a) (.type "list")
 |frz {a:Addr} {o:Obj} {xs:List V} (e:H a=some (.frz o (.lst xs))):mF K H (.ref a) (.type "list")
 |tup {a:Addr} {xs:List V} (e:H a=some (.tup xs)):mF K H (.ref a) (.type "tuple")
 |dK {a:Addr} {kvs:List (lB×V)} (e:H a=some (.dK kvs)):mF K H (.ref a) (.type "dict")
 |dT {a:Addr} {kvs:List (List lB×V)} (e:H a=some (.dT kvs)):mF K H (.ref a) (.type "dict")
 |ins {a C dx:Addr} {fs:List (Str×V)} (e:H a=some (.ins C dx fs)) (cl:uj K C) (ha:W.findIn K (.ref C) "__class__" = some (some (.builtin "object.__class__")))
   (hn:W.specialIn K (.builtin "object.__class__") "__get__" = some (some (.builtin "getset_descriptor.__get__"))) (htk:W.takesIn K (.builtin "object.__class__")=some true)
   (hm:W.mroIn K C (.type "object")=some true):mF K H (.ref a) (.ref C)
def A7(I:eO X eh σ H s)(d:fO x u)(ty:mF X.K H x t)(e:W.kitOne X.K t c=some b)(h:∀l,Q (.bool b) {s with toks:=l}) :
  wpAny (model X.prog X.w) A (call (.builtin "isinstance") [u,c]) Q E s:=by
 cases ty with
 |non=>cases (d);exact W.kia_one W.kitx_none I.kIn True.intro e (λz=>nomatch z) h
 |bl y=>cases (d);exact W.kia_one W.kitx_bool I.kIn True.intro e (λz=>nomatch z) h
 |int i=>obtain⟨t,q⟩:=(d);cases q;exact W.kia_one W.kitx_int I.kIn True.intro e (λz=>nomatch z) h
 |str y=>obtain⟨t,q⟩:=(d);cases q;exact W.kia_one W.kitx_str I.kIn True.intro e (λz=>nomatch z) h
 |flt y=>obtain⟨t,q⟩:=(d);cases q;exact W.kia_one W.kitx_float I.kIn True.intro e (λz=>nomatch z) h
 |@lst a j ea=>cases (d);obtain⟨_,_,n,_,f⟩:=(I.hok a _ ea);exact W.kia_one W.kitx_list I.kIn ⟨_,f,rfl⟩ e (λz=>nomatch z) h
 |@frz a ob j ea=>cases (d);obtain⟨_,_,_,n,_,f⟩:=(I.hok a _ ea);exact W.kia_one W.kitx_list I.kIn ⟨_,f,rfl⟩ e (λz=>nomatch z) h
 |@tup a j ea=>cases (d);obtain⟨_,_,_,p⟩:=(I.hok a _ ea);obtain⟨o,f,g,_⟩:=p;exact W.kia_one W.kitx_tuple I.kIn ⟨o,f,g⟩ e (λz=>nomatch z) h
 |@dK a kvs ea=>cases (d);obtain⟨_,_,B,_,p⟩:=(I.hok a _ ea);obtain⟨o,k,m,f,g,_⟩:=p;exact W.kia_one W.kitx_dict I.kIn ⟨o,f,g.1⟩ e (λz=>nomatch z) h
 |@dT a kvs ea=>cases (d);obtain⟨_,_,j,_,o,k,m,f,g,_⟩:=(I.hok a _ ea);exact W.kia_one W.kitx_dict I.kIn ⟨o,f,g.1⟩ e (λz=>nomatch z) h
 |@ins a C dx fs ea cl ha hn htk hm=>cases (d);obtain⟨r,O,_⟩:=qV I.hok ea;obtain⟨v,J,_⟩:=O.look;exact W.kia_one (W.kitx_own (cl.get _) cl.hd ha hn htk hm) I.kIn J e (λz=>nomatch z) h
end
end L2
namespace L2
open PySem PySem.Spec PyProof.Rows
structure fP(k:Nat)(A:Around):Prop where
 hd:A.handled=none
 dp:A.depth+3*k+5<recursionLimit
 un:A.units+16*k+200<cLine
def fP.mono(r:fP k A)(h:j<=k):fP j A:=⟨r.hd,by have:=r.dp;omega,by have:=r.un;omega⟩
def fP.deeper(r:fP (k+1) A) env:fP k (A.deeper env):=⟨r.hd,by have:=r.dp;show A.depth+1+3*k+5<_;omega,by have:=r.un;show A.units+3+16*k+200<_;omega⟩
def fP.in1(r:fP (k+1) A):fP k A.in1:=⟨r.hd,by have:=r.dp;show A.depth+3*k+5<_;omega,by have:=r.un;show A.units+1+16*k+200<_;omega⟩
def yV{A:Around}:(A.under (.builtin "type.__call__" ⟨.ref C::us,kw⟩)).depth=A.depth+1:=by first|rfl|simp[Around.under,Code.weight,Code.isCreation,Code.isGuard,Code.isCaller,Code.frames,Code.isFrame,guardIds]
def yA{A:Around}:(A.under (.builtin "type.__call__" ⟨.ref C::us,kw⟩)).units=A.units+1:=by first|rfl|simp[Around.under,Code.cUnits,Code.frames,Code.isFrame]
def fP.make(r:fP (k+1) A) C us kw:fP k (A.under (.builtin "type.__call__" ⟨.ref C::us,kw⟩)):=⟨r.hd,by have:=r.dp;rw[yV];omega,by have:=r.un;rw[yA];omega⟩
def fP.depth(r:fP k A):A.depth<recursionLimit:=by have:=r.dp;omega
def fP.units(r:fP k A):A.units+64<cLine:=by have:=r.un;omega
def qe:TA:=λ_ H Q=>Q [] H
def lN(b:TE)(c:TA):TA:=λa H Q=>b a H λx f=>c a f λd e=>Q (x::d) e
section
variable {X:Cx}{e:Expr}{es:List Expr}{te:TE}{t:TA}{pos:Pos}
def pT:PA X [] qe:=λ_ _ _ _ H Q I h=>Calls.spliced_nil ⟨[],H,I,.nil,h⟩
def kc(f:PE X e te)(d:PA X es t)(c:starEach (e::es) X.env=(false,eval e X.env)::starEach es X.env:=by rfl):PA X (e::es) (lN te t):=by intro pos b s a H Q I h;rw[c];refine Calls.spliced_cons (gZ (f b s a H _ I h) λu s1 ⟨x,H1,I1,r1,q1⟩=>?_);exact gZ (d pos b s1 a H1 _ I1 q1) λus s2 ⟨xs,H2,I2,r2,q2⟩=>⟨x::xs,H2,I2,.cons r1 r2,q2⟩
def IX(t:TA):TE:=λc H Q=>t c H λa b=>a.length<=sizeLine/\∀p,b p=none->Q (.ref p) (fN b p (.tup a))
def J9(t:TA):TE:=λc H Q=>t c H λa b=>a.length<=sizeLine/\∀p,b p=none->Q (.ref p) (fN b p (.lst a))
def DU{x1}(h:PA X es t):PE X (.Tuple es x1 pos) (IX t):=by intro f s d H Q I c;refine wpAny_Tuple_spliced (gZ (h pos f s d H _ I c) λus s1 ⟨xs,H1,I1,r,z,q⟩=>⟨by rw[<-r.length];exact z,?_⟩);have a:=I1.hok.fresh (aK _);refine⟨.ref s1.heap.objs.size,fN H1 s1.heap.objs.size (.tup xs),I1.laid (λb u e=>ae _ e) (aK _) ?_,rfl,q _ a⟩;exact⟨z,us,r,⟨_,au _ rfl,rfl,_,rfl,rfl⟩⟩
def Iy(h:PA X es t):PE X (.List es pos) (J9 t):=by intro f s d H Q I c;refine wpAny_List_spliced (gZ (h pos f s d H _ I c) λus s1 ⟨xs,H1,I1,r,z,q⟩=>⟨by rw[<-r.length];exact z,?_⟩);have a:=I1.hok.fresh (aK _);refine⟨.ref s1.heap.objs.size,fN H1 s1.heap.objs.size (.lst xs),I1.laid (λb u e=>ae _ e) (aK _) ?_,rfl,q _ a⟩;exact⟨z,us,0,r,au _ rfl⟩
end
abbrev Sp:=List V->Hp->VK->XK->Prop
abbrev HP:=List Env->Hp->Shared->XK->Value->Shared->Prop
structure rY(P:Program)(w:World)(K:W.Frag)(mg:Str->Option Value)(base:Heap)(A:Around)(outer:List Env)(s:Sq)(H:Hp):Prop where
 frames:A.frames=some outer
 mod:Mod K mg base
 bs:∀b o,base.get? b=some o->s.heap.get? b=some o/\H b=none
 bsz:base.objs.size<=s.heap.objs.size
 funs:s.heap.FunFrames base outer
 frf:∀b∈Ab outer,H b=none
 hok:nv P w H s.heap
 bare:AllBare s.gens
 tab:zL base H
def CE(a:List Env)(P:Program)(w:World)(H:Hp)(s:Sq)(Q:VK)(u:Vq)(b:Sq):Prop:=∃v c,b.os=s.os/\AllBare b.gens/\Un (Ab a) [] H c s.heap b.heap/\nv P w c b.heap/\fO v u/\Q v c
def CR(c:HP)(a:List Env)(P:Program)(w:World)(H:Hp)(s:Sq)(Q:VK)(E:XK)(r:Result)(b:Sq):Prop:=
 match r with
 |.ok (.ret u)=>CE a P w H s Q u b
 |.ok _=>False
 |.error e=>c a H s E e b
structure ku(P:Program)(w:World)(K:W.Frag)(mg:Str->Option Value)(base:Heap)(CX:HP)(k:Nat)(f:Addr)(fd:FuncData)(ps:List Str)(sp:Sp):Prop where
 len:∀vs H Q E,sp vs H Q E->vs.length=ps.length
 run:∀(A:Around) (outer:List Env) (s:Sq) (H:Hp) (args:Args) (us:List Vq) (vs:List V) (Q:VK) (E:XK),fP k A->rY P w K mg base A outer s H->BindsTo s fd args (ps.zip us)->fu vs us->sp vs H Q E->
  codeAny (model P w) A (.call (.ref f) args) (CR CX outer P w H s Q E) s
def ku.mono{K:W.Frag}(F:ku P w K mg base CX j f fd ps sp)(h:j<=k) :
  ku P w K mg base CX k f fd ps sp:=⟨F.len,λA a s H b c d Q E e=>F.run A a s H b c d Q E (e.mono h)⟩
def ku.imp{K:W.Frag}(F:ku P w K mg base CX k f fd ps sp)
  (h:∀vs H Q E,sp' vs H Q E->sp vs H Q E):ku P w K mg base CX k f fd ps sp':=
 ⟨λvs H Q E q=>F.len vs H Q E (h _ _ _ _ q),λA a s H b g vs Q E i c d j e=>F.run A a s H b g vs Q E i c d j (h _ _ _ _ e)⟩
def rY.make{K:W.Frag}(e:rY P w K mg base A outer s H) C us kw :
  rY P w K mg base (A.under (.builtin "type.__call__" ⟨.ref C::us,kw⟩)) outer s H:=⟨by first|exact e.frames|(simpa[Around.under,Code.envs,Code.isFrame,pushEnvs] using e.frames),e.mod,e.bs,e.bsz,e.funs,e.frf,e.hok,e.bare,e.tab⟩
def rY.in1{K:W.Frag}(e:rY P w K mg base A outer s H) :
  rY P w K mg base A.in1 outer s H:=⟨e.frames,e.mod,e.bs,e.bsz,e.funs,e.frf,e.hok,e.bare,e.tab⟩
section
variable {X:Cx}{eh:List (Addr×Obj)}{σ:St}{H:Hp}{s s':Sq}
def eO.env0(I:eO X eh σ H s):rY X.prog X.w X.K X.mg X.base X.A X.stack s H:=⟨I.ok.frames,I.ok.mod,I.bs,aN I.ok.bsz I.sz,I.stack,I.stkFree,I.hok,I.bare,I.tab⟩
def eO.after(I:eO X eh σ H s)(h:CE X.stack X.prog X.w H s Q u s'):EP X eh σ Q u s':=by obtain⟨v,i,f,a,un,e,r,q⟩:=h;obtain⟨j,g,d,t,c⟩:=s';obtain rfl:c=s.os:=f;exact⟨v,i,I.call un e a (λb z=>absurd z (by simp)),r,q⟩
end
def uF(b:Sp)(a:List V)(E:XK)(t:TA):TE:=λc H Q=>t c H λd e=>b (d++a) e Q E
def uM(C:Addr)(m:Str)(e:Sp)(b:List V)(E:XK)(f:TE)(t:TA):TE:=λc H Q=>f c H λx d=>∃a h fs,x=.ref a/\d a=some (.ins C h fs)/\fs.lookup m=none/\
 t c d λi g=>e (x::(i++b)) g Q E
def zC(C:Addr)(d:Sp)(b:List V)(E:XK)(t:TA):TE:=λe H Q=>t e H λg c=>∀x a,c x=none->c a=none->a≠x->
 d (.ref x::(g++b)) (fN (fN c a (.own x)) x (.ins C a [])) (λv f=>v=.non/\Q (.ref x) f) E
def mG(K:W.Frag)(fd:FuncData)(c:List Str)(b:List Vq):Prop:=∀(s:Sq) (a:List Vq),K.In s.heap->(a++b).length=c.length->BindsTo s fd ⟨a,[]⟩ (c.zip (a++b))
def mG.all{K:W.Frag}(h:∀us:List Vq,us.length=ps.length->bindArgs fd ⟨us,[]⟩=pure (ps.zip us)):mG K fd ps []:=λs us _ a=>by rw[bE]at a ⊢;exact .of_eq (h us a)
def qo(d:HP)(X:Cx)(E:XK):Prop:=∀(c:List (Addr×Obj)) (b:St) (H:Hp) (s:Sq) (e:Vq) (a:Sq),eO X c b H s->d X.stack H s E e a->X.xe e a
section
variable {X:Cx}{CX:HP}{k:Nat}{f C:Addr}{fd:FuncData}{ps:List Str}{sp:Sp}{dvs:List V}{ds:List Vq}{E:XK}{x m:Str}{p pos apos:Pos}{e o:Expr}{es:List Expr}{ta:TE}{t:TA}
theorem Do(F:ku X.prog X.w X.K X.mg X.base CX k f fd ps sp)(l:fP k X.A)(c:mG X.K fd ps ds)(j:fu dvs ds)(g:qo CX X E)
  (I:eO X eh σ H s) (r:fu vs us) (h:sp (vs++dvs) H Q E):wpAny (model X.prog X.w) X.A (call (.ref f) us) (EP X eh σ Q) X.xe s:=by
 have b:=r.append j;have d:(us++ds).length=ps.length:=by rw[<-b.length];exact F.len _ _ _ _ h
 refine wpAny_call (codeAny_mono (F.run X.A X.stack s H ⟨us,[]⟩ (us++ds) (vs++dvs) Q E l I.env0 (c s us I.kIn d) b h) λr i a=>?_);cases r with
 |error e=>exact g eh σ H s e i I a
 |ok fl=>
  cases fl with
  |ret u=>exact I.after a
  |next=>exact False.elim a
  |brk=>exact False.elim a
  |cont=>exact False.elim a
def Gg(F:ku X.prog X.w X.K X.mg X.base CX k f fd ps sp)(d:fP k X.A)(z:Gl X x)(n:X.mg x=some (.ref f))(y:W.keepIn X.K (.ref f)=true)(j:mG X.K fd ps ds)(u:fu dvs ds)(c:qo CX X E)
  (v:PA X (e::es) t) (a:(x==("__debug__" : Str))=false:=by decide) (l:starEach (e::es) X.env=(false,eval e X.env)::starEach es X.env:=by rfl) (b:(backTo pos (starEach es X.env)).any (·.1)=false:=by rfl) :
  PE X (.Call (.Name x p) (e::es) [] pos) (uF sp dvs E t):=by
 intro i s g H Q I h;refine wpAny_Call_Name_kw (v8 I z n ?_ a);refine W.callWith_K I.ok.mod.kin y (gZ (v pos i s g H _ I h) λus s1 ⟨vs,H1,I1,r,q⟩=>⟨I1.kIn,?_⟩) l b;exact Do F d j u c I1 r q
def B4(d:PE X o ta)(c:uj X.K C)(b:G4 X.K C m f)(F:ku X.prog X.w X.K X.mg X.base CX k f fd ps sp)(v:fP k X.A)(g:mG X.K fd ps ds)(y:fu dvs ds)(j:qo CX X E)
  (r:eval (.Call (.Attribute o m apos) [] [] pos) X.env=(do
   let ov <-eval o X.env
   standAt apos.atName
   let (f,first) <-holding [ov] (getMethod ov m pl)
   callWith pos f first (backTo pos (starEach [] X.env)) (backToKw pos (keywordEach [] X.env))):=by rfl) :
  PE X (.Call (.Attribute o m apos) [] [] pos) (uM C m sp dvs E ta qe):=by
 intro n s i H Q I h;refine W.methodCall_KW (gZ (d n s i H _ I h) λu s1 ⟨x,H1,I1,rx,a,dx,fs,ex,ea,l,q⟩=>?_) r;subst ex;obtain rfl:u=Value.ref a:=rx;refine x9 I1 ea c b l ?_;exact W.callWith_K0 I1.kIn b.kp (Do (vs:=[.ref a]) F v g y j I1 (.cons rfl .nil) q)
structure Mk(K:W.Frag)(C f:Addr):Prop where
 makes:W.makesIn K C=true
 init:W.findIn K (.ref C) "__init__" = some (some (.ref f))
 fn:W.isFn K (.ref f)=true
 kp:W.keepIn K (.ref C)=true
theorem ET(M:Mk X.K C f)(F:ku X.prog X.w X.K X.mg X.base CX k f fd ps sp)(i:fP (k+1) X.A)(l:mG X.K fd ps ds)(B:fu dvs ds)
  (g:qo CX X E) (I:eO X eh σ H s) (r:fu vs us)
  (h:∀x dx,H x=none->H dx=none->dx≠x->sp (.ref x::(vs++dvs)) (fN (fN H dx (.own x)) x (.ins C dx [])) (λv j=>v=.non/\Q (.ref x) j) E) :
  wpAny (model X.prog X.w) X.A (call (.ref C) us) (EP X eh σ Q) X.xe s:=by
 have d:=h (s.heap.objs.size+1) s.heap.objs.size (I.hok.fresh (bF _)) (I.hok.fresh (aK _)) (aM (bC _));have b:=eO.made (C:=C) I;have c:fu (V.ref (s.heap.objs.size+1)::(vs++dvs)) (Value.ref (s.heap.objs.size+1)::(us++ds)):=.cons rfl (r.append B);have n:(Value.ref (s.heap.objs.size+1)::us++ds).length=ps.length:=by have e:=c.length;rw[F.len _ _ _ _ d]at e;exact e.symm
 refine wpAny_call (EF I.kIn M.makes M.init (beq_iff_eq.mp M.fn) (codeAny_mono (F.run _ X.stack _ _ ⟨Value.ref (s.heap.objs.size+1)::us,[]⟩ (Value.ref (s.heap.objs.size+1)::(us++ds)) _ _ E (i.make C us [])
  (b.env0.make C us []) (l _ (Value.ref (s.heap.objs.size+1)::us) b.kIn n) c d) λr q a=>?_))
 cases r with
 |error e=>exact g eh σ _ _ e q b a
 |ok fl=>
  cases fl with
  |ret u=>obtain⟨v,L,D,z,J,y⟩:=b.after a;subst J;exact⟨z,⟨V.ref (s.heap.objs.size+1),L,D,rfl,y⟩⟩
  |next=>exact False.elim a
  |brk=>exact False.elim a
  |cont=>exact False.elim a
def FI(M:Mk X.K C f)(F:ku X.prog X.w X.K X.mg X.base CX k f fd ps sp)(d:fP (k+1) X.A)(y:Gl X x)(n:X.mg x=some (.ref C))(j:mG X.K fd ps ds)(u:fu dvs ds)(c:qo CX X E)
  (v:PA X (e::es) t) (a:(x==("__debug__" : Str))=false:=by decide) (l:starEach (e::es) X.env=(false,eval e X.env)::starEach es X.env:=by rfl) (b:(backTo pos (starEach es X.env)).any (·.1)=false:=by rfl) :
  PE X (.Call (.Name x p) (e::es) [] pos) (zC C sp dvs E t):=by
 intro i s g H Q I h;refine wpAny_Call_Name_kw (v8 I y n ?_ a);refine W.callWith_K I.ok.mod.kin M.kp (gZ (v pos i s g H _ I h) λus s1 ⟨vs,H1,I1,r,q⟩=>⟨I1.kIn,?_⟩) l b;exact ET M F d j u c I1 r q
end
structure fK(N P:List Str)(sc:Scope):Prop where
 kind:sc.kind=.function
 co:sc.isCoroutine=false
 gen:sc.isGenerator=false
 nd:N.Nodup
 pre:N.take P.length=P
 par:∀x∈P,sc.names.lookup x=some .local\/sc.names.lookup x=some .cell
 nofree:∀y∈sc.names,y.2≠.free
theorem uA{kindOf:Str->Option NameKind}:∀{binds} {m},(∀v,(x,v)∉binds)->bindL kindOf binds m x=m x
 |[],_,_=>rfl
 | (n,v)::r,m,h=>by
  unfold bindL;rw[uA λw hw=>h w (bj _ hw)];split
  .have:x≠n:=by rintro rfl;exact h v bh
   simp[this]
  .rfl
theorem uI{kindOf:Str->Option NameKind}:∀{binds} {m},(∀v,(x,v)∉binds)->bindC kindOf binds m x=m x
 |[],_,_=>rfl
 | (n,v)::r,m,h=>by
  unfold bindC;rw[uI λw hw=>h w (bj _ hw)];split
  .rfl
  .have:x≠n:=by rintro rfl;exact h v bh
   simp[this]
theorem ue{kindOf:Str->Option NameKind}:∀{P:List Str} {vs:List Vq} {i:Nat} {m:Str->Option Value},P.Nodup->P[i]? = some x->vs[i]? = some v->kindOf x=some .local->
  bindL kindOf (P.zip vs) m x=some v
 |[],_,_,_,_,h,_,_=>by simp at h
 |_::_,[],_,_,_,_,h,_=>by simp at h
 |p::P,w::vs,0,m,nd,h1,h2,hk=>by simp at h1 h2;subst h1;subst h2;show bindL kindOf ((p,w)::P.zip vs) m p=_;unfold bindL;rw[uA λv a=>(bG.mp nd).1 (aW a).1,aQ hk];simp
 |p::P,w::vs,i+1,m,nd,h1,h2,hk=>by unfold bindL;exact ue (bG.mp nd).2 (by simpa using h1) (by simpa using h2) hk
theorem tW{kindOf:Str->Option NameKind}:∀{P:List Str} {vs:List Vq} {i:Nat} {m:Str->Option Value},P.Nodup->P[i]? = some x->vs[i]? = some v->kindOf x≠some .local->
  bindC kindOf (P.zip vs) m x=some v
 |[],_,_,_,_,h,_,_=>by simp at h
 |_::_,[],_,_,_,_,h,_=>by simp at h
 |p::P,w::vs,0,m,nd,h1,h2,hk=>by simp at h1 h2;subst h1;subst h2;show bindC kindOf ((p,w)::P.zip vs) m p=_;unfold bindC;rw[uI λv a=>(bG.mp nd).1 (aW a).1,aR hk];simp
 |p::P,w::vs,i+1,m,nd,h1,h2,hk=>by unfold bindC;exact tW (bG.mp nd).2 (by simpa using h1) (by simpa using h2) hk
noncomputable def iM(N:List Str)(vs:List V):St:=vs.map some++List.replicate (N.length-vs.length) none
noncomputable def kx(g:HP)(P:Program)(w:World)(K:W.Frag)(mg:Str->Option Value)(base:Heap)(N:List Str)(b:Str)(a:Scope)(f:Addr)(d:Vq)(A:Around)(outer:List Env)(s:Sq)(H:Hp)(E:XK):Cx where
 prog:=P
 w:=w
 K:=K
 mg:=mg
 base:=base
 A:=A.deeper (envOfC b a s.heap.objs.size f d)
 N:=N
 s₀:=s
 H₀:=H
 env:=envOfC b a s.heap.objs.size f d
 outer:=outer
 stack:=envOfC b a s.heap.objs.size f d::outer
 ex:=[]
 calm:=true
 fn:=λ_=>true
 pn:=[]
 xe:=λe i=>wpAny (model P w) (A.deeper (envOfC b a s.heap.objs.size f d)) (leaving (envOfC b a s.heap.objs.size f d) e) (λ_ c=>g outer H s E e c) (λh c=>g outer H s E h c) i
def jO{a:Scope}(h:a.names.lookup x=some .cell):∃c,(cellsFrom n a.names []).lookup x=some c:=by have q:=W.cellsFrom_some a.names n [] (.inl h);exact bH.mp q
theorem ua{K:W.Frag}
  (S:fK N ps scope) (F:A.handled=none) (g:rY P w K mg base A outer s H) (R:vs.length=ps.length) (r:fu vs us)
  (x:InCallC s s.heap.objs.size (bindL (envOfC qual scope s.heap.objs.size f cd).kindOf (ps.zip us) λ_=>none) (cellsFrom (s.heap.objs.size+1) scope.names []) (bindC (envOfC qual scope s.heap.objs.size f cd).kindOf (ps.zip us) λ_=>none) s1) :
  eO (kx CX P w K mg base N qual scope f cd A outer s H E) [] (iM N vs) H s1:=by
 have J:ps.length<=N.length:=by have:=congrArg List.length S.pre;rw[bI]at this;omega
 obtain⟨o,Q,rfl,C⟩:=x.done;have j:∀b:Addr,b∉(kx CX P w K mg base N qual scope f cd A outer s H E).ex:=λb z=>absurd (show b∈([]) from z) (by simp);refine⟨⟨g.mod,S.kind,rfl,rfl,aK _,λy z c o d=>?_,λy l=>?_,λy c _ h=>?_,λ_=>F,Around.frames_deeper g.frames,.inr ⟨rfl,rfl⟩,λb z=>absurd z (j b),g.bs,g.bsz,λb _ _=>j b,λb z=>absurd z (j b),g.funs,g.frf,g.tab⟩,
  rfl,g.bare,Un.kept C,⟨_,x.toInCall.ns,λi y v o d L=>?_⟩,λy c h=>⟨_,x.cell y c h⟩,g.hok.fresh (aK _),λy c h=>?_,λp m=>absurd (show p∈([]) from m) (by simp),g.hok.kept C,?_⟩
 .exact name_of_addr x.apart (PySem.mem_of_lookup o) (PySem.mem_of_lookup d)
 .have l:=l;rcases l with l|l
  .exact jO l
  .exact absurd rfl (S.nofree _ (PySem.mem_of_lookup l))
 .exact bf (x.above y c (PySem.mem_of_lookup h))
 .have t:i<vs.length:=by
   unfold iM at d;by_cases t:i<vs.length
   .exact t
   .rw[List.getElem?_append_right (by simpa using t)]at d;rw[List.getElem?_replicate]at d;split at d<;>cases d
  have I:vs[i]? = some v:=by
   unfold iM at d;rw[List.getElem?_append_left (by simpa using t),aw]at d;cases e:vs[i]? with
   |none=>rw[e]at d;cases d
   |some a=>rw[e]at d;cases d;rfl
  obtain⟨u,B,D⟩:=r.get I;have m:ps[i]? = some y:=by rw[<-S.pre,List.getElem?_take_of_lt (by omega)];exact o
  have n:ps.Nodup:=by rw[<-S.pre];exact S.nd.sublist (List.take_sublist _ _)
  refine⟨u,D,?_⟩;rcases S.par y (av m) with k|k
  .exact .inl ⟨k,ue n m B k⟩
  .obtain⟨c,e⟩:=jO k;refine .inr ⟨.inl k,c,e,?_⟩;have q:=x.cell y c e;rw[tW n m B (by show scope.names.lookup y≠_;rw[k];decide)]at q;exact q
 .exact g.hok.fresh (bf (x.above y c (PySem.mem_of_lookup h)))
 .unfold iM;show _=N.length;rw[aT,ax,List.length_replicate];omega
theorem Ig{K:W.Frag}{Y kV m Z c X oc:Vq}(lk:K.lookup f=some ⟨oc,od,.func (W.fnOf name qual params body scope Y kV m Z an c X),osl⟩)(F:W.codeIn K c qual=true)(S:fK N ps scope)
  (p:∀vs H Q E,sp vs H Q E->vs.length=ps.length)
  (i:∀A a s H vs Q E,fP k (A.deeper (envOfC qual scope s.heap.objs.size f c))->sp vs H Q E->
   ∃t,v9 (kx CX P w K mg base N qual scope f c A a s H E) body t/\t {nx:=λ_ g=>Q .non g,rt:=Q} (iM N vs) H) :
  ku P w K mg base CX (k+1) f (W.fnOf name qual params body scope Y kV m Z an c X) ps sp:=by
 refine⟨p,λA a s H U us vs Q E D l hb r B=>?_⟩;have hl:=p _ _ _ _ B;have KX:=l.mod.kin.keeps λb o e=>(l.bs b o e).1;have C:=l.mod.nolimit.keeps λb o e=>(l.bs b o e).1;have h:∀y∈ps.zip us,scope.names.lookup y.1=some .local\/(scope.names.lookup y.1=some .cell/\((cellsFrom (s.heap.objs.size+1) scope.names []).lookup y.1).isSome=true):=λ⟨n,v⟩ hy=>by
  rcases S.par n (aW hy).1 with q|q
  .exact .inl q
  .exact .inr ⟨q,W.cellsFrom_some _ _ _ (.inl q)⟩
 refine codeAny_call_function D.depth (KX _ _ lk) rfl S.co S.gen rfl (W.codeRec_of KX F) (hb _ _ _ _ ?_);refine wpAny_newFunctionEnv_cells S.kind h λenv he s1 x=>?_;subst he;refine⟨C.keeps x.toInCall.keep,codeAny_func ?_⟩;obtain⟨t,ht,hq⟩:=i A a s H vs Q E (D.deeper _) B;have I:eO (kx CX P w K mg base N qual scope f c A a s H E) [] (iM N vs) H s1:=ua S D.hd l hl r x;refine wpAny_mono (ht [] s1 (iM N vs) H _ I hq) (λfl L j=>?_) λe L j=>j;have z:∀{d:St} {g:Hp} {v:V} {u:Vq},eO (kx CX P w K mg base N qual scope f c A a s H E) [] d g L->fO v u->Q v g->CE a P w H s Q u L:=λ{d g v u} J R q=>⟨v,g,J.os,J.bare,J.base,J.hok,R,q⟩
 cases fl with
 |ret u=>obtain⟨v,d,g,J,R,q⟩:=j;exact z J R q
 |next=>obtain⟨d,g,J,q⟩:=j;exact z (v:=V.non) J rfl q
 |brk=>obtain⟨_,_,_,q⟩:=j;exact False.elim q
 |cont=>obtain⟨_,_,_,q⟩:=j;exact False.elim q
end L2
namespace L2
open PySem PySem.Spec PyProof.Rows
section
variable {X:Cx}{x:Str}{p pos:Pos}{e:Expr}{es:List Expr}{t:TA}{id T:String}{r:List V->Hp->VK->Prop}
def Fq(r:List V->Hp->VK->Prop)(t:TA):TE:=λa H Q=>t a H λb c=>r b c Q
def xA(i:i7 X (.builtin id) r)(l:Gl X x)(j:X.mg x=none)(k:bootBuiltins x=some (.builtin id))(m:PA X (e::es) t)(g:x≠ "__name__" :=by decide)(b:(x==("__debug__" : Str))=false:=by decide)
  (f:starEach (e::es) X.env=(false,eval e X.env)::starEach es X.env:=by rfl) (a:(backTo pos (starEach es X.env)).any (·.1)=false:=by rfl):PE X (.Call (.Name x p) (e::es) [] pos) (Fq r t):=by
 intro d s c H Q I h;refine wpAny_Call_Name_kw (n0 I l j k ?_ g b);exact PyProof.Rows.callWith_builtin1 (gZ (m pos d s c H _ I h) λus s1 ⟨vs,H1,I1,r1,q1⟩=>i d s1 c H1 vs us Q I1 r1 q1) f a
def qa(i:i7 X (.type T) r)(l:Gl X x)(j:X.mg x=none)(k:bootBuiltins x=some (.type T))(m:PA X (e::es) t)(g:x≠ "__name__" :=by decide)(b:(x==("__debug__" : Str))=false:=by decide)
  (f:starEach (e::es) X.env=(false,eval e X.env)::starEach es X.env:=by rfl) (a:(backTo pos (starEach es X.env)).any (·.1)=false:=by rfl):PE X (.Call (.Name x p) (e::es) [] pos) (Fq r t):=by
 intro d s c H Q I h;refine wpAny_Call_Name_kw (n0 I l j k ?_ g b);exact PyProof.Rows.callWith_type1 (gZ (m pos d s c H _ I h) λus s1 ⟨vs,H1,I1,r1,q1⟩=>i d s1 c H1 vs us Q I1 r1 q1) f a
end
end L2
namespace HT
open PySem PyProof.Rows
section
variable {prog:Program}{w:World}{A:Around}{E:Vq->Shared->Prop}{s:Sq}
def cat_tup(x:IsTup s.heap t vs.toArray)(v:IsTup s.heap b ws.toArray)(q:vs≠[])
  (r:ws=[]->Q (.ref t) s) (u:ws≠[]->Q (.ref s.heap.objs.size) {s with heap:=s.heap.push {cls:=.type "tuple",data:=.seq (vs++ws).toArray}})
  (hsz:vs.length+ws.length<=sizeLine):wpAny (model prog w) A (binaryOp .Add (.ref t) (.ref b)) Q E s:=by
 obtain⟨⟨cls,k,data,m⟩,h,j,n,o⟩:=id x;obtain⟨⟨p,c,i,f⟩,a,g,l,d⟩:=id v;simp only at j o g d;subst j o g d;have e:vs.toArray++ws.toArray=(vs++ws).toArray:=by simp
 by_cases hw:ws=[]
 .exact concat_meets ⟨_,h,rfl⟩ ⟨_,a,rfl⟩ noFill_tuple_add seq_tuple_add PySem.F.slot_tuple_add PySem.F.entry_tuple_add (PySem.F.args_tuple_add_2 _ _)
   (tuple_addW1 t b vs.toArray ws.toArray n l k c m f (by simpa using q) (by simp[hw])) ⟨h,a,r hw⟩
 .refine concat_meets ⟨_,h,rfl⟩ ⟨_,a,rfl⟩ noFill_tuple_add seq_tuple_add PySem.F.slot_tuple_add PySem.F.entry_tuple_add (PySem.F.args_tuple_add_2 _ _)
   (tuple_addW2 t b vs.toArray ws.toArray n l k c m f (by simpa using q) (by simpa using hw) (by rw[bz,bz];exact hsz)) ⟨h,a,?_⟩
  rw[e];exact u hw
noncomputable def sIx(n d:Nat):Oq Int->Nat
 |none=>d
 |some v=>if v<0 then (v+(n:Int)).toNat else min v.toNat n
def sIx_none n d:sIx n d none=d:=rfl
def sIx_nat(n d k:Nat):sIx n d (some (k:Int))=min k n:=by show (if k<0 then (k+(n:Int)).toNat else min (k:Int).toNat n)=min k n;rw[aR (by omega),bJ]
def zO v (n d:Nat):(if v<0 then max (v+(n:Int)) 0 else min v (n:Int))=((sIx n d (some v):Nat):Int):=by
 show (if v<0 then max (v+n) 0 else min v n)=(((if v<0 then (v+n).toNat else min v.toNat n):Nat):Int);by_cases a:v<0
 .simp only[aQ a];omega
 .simp only[aR a];omega
def yd lo a (n:Nat):Builtin.Slice.sliceAdjust lo a 1 (n:Int)=(((sIx n 0 lo:Nat):Int),((sIx n n a:Nat):Int)):=by
 have b:¬(1<0):=by omega
 unfold Builtin.Slice.sliceAdjust;simp only[b,if_false];refine Prod.ext ?_ ?_
 .cases lo with
  |none=>rfl
  |some v=>exact zO v n 0
 .cases a with
  |none=>rfl
  |some v=>exact zO v n n
def zl(i j:Nat):Builtin.Slice.slicePlaces (i:Int) (j:Int) 1=j-i:=by
 unfold Builtin.Slice.slicePlaces;have a:1>0:=by omega
 simp only[a,if_true,Int.ediv_one];split<;>omega
def sM(p:IsPart v o)(h:Q o s):wpAny (model prog w) A (Builtin.Slice.slicePartIndex v) Q E s:=by
 cases p with
 |none=>exact slicePart_none h
 |int i t=>exact slicePart_int h
def lA{a d:Oq Int}{n:Nat}(f:s.heap.IsSliceOf sl vl vu .none)(e:IsPart vl a)(i:IsPart vu d)
  (h:Q (((sIx n 0 a:Nat):Int),1,sIx n n d-sIx n 0 a) s):wpAny (model prog w) A (Builtin.Slice.sliceApplied (.ref sl) (pure (n:Int))) Q E s:=by
 obtain⟨j,b,g,c⟩:=id f;unfold Builtin.Slice.sliceApplied Builtin.Slice.sliceFields;refine aq (aq (wpAny_field b c rfl (aq (wpAny_field b c rfl (aq (wpAny_field b c rfl (ao ?_)))))));refine aq (slicePart_none ?_);rw[aR (by decide)];refine aq (sM e (aq (sM i (aq (ao ?_)))));show wpAny _ _ (match Builtin.Slice.sliceAdjust a d 1 n with|(a,d)=>pure (a,(1:Int),Builtin.Slice.slicePlaces a d 1)) _ _ s;rw[yd a d n];show wpAny _ _ (pure (((sIx n 0 a):Int),1,Builtin.Slice.slicePlaces ((sIx n 0 a):Int) ((sIx n n d):Int) 1)) _ _ s;rw[zl];exact ao h
def Eh(a:Array Vq)(i k:Nat):((List.range k).filterMap λ(m:Nat)=>a[((i:Int)+(m:Int)*1).toNat]?).toArray=((a.toList.drop i).take k).toArray:=by
 have e:(λ(m:Nat)=>a[(i+(m:Int)*1).toNat]?)=λm=>a[i+m]?:=by
  funext m;have:(i+(m:Int)*1).toNat=i+m:=by omega
  rw[this]
 rw[e];have:=pick_run a i k;rw[List.filterMap_map]at this;have b:((λx=>a[x]?) ∘ λx=>i+x)=λm=>a[i+m]?:=rfl;rw[b]at this;rw[this]
theorem getItem_tuple_cut{a b:Oq Int}(d:IsTup s.heap t items)(j:s.heap.IsSliceOf sl vl vu .none)(m:IsPart vl a)(n:IsPart vu b)
  (hw:¬(sIx items.size 0 a=0/\sIx items.size items.size b=items.size))
  (h:Q (.ref s.heap.objs.size) {s with heap:=s.heap.push {cls:=.type "tuple",data:=.seq ((items.toList.drop (sIx items.size 0 a)).take (sIx items.size items.size b-sIx items.size 0 a)).toArray}})
  (hsz:items.size<=sizeLine):wpAny (model prog w) A (getItem (.ref t) (.ref sl)) Q E s:=by
 have c:sizeOk (.seq ((items.toList.drop (sIx items.size 0 a)).take (sIx items.size items.size b-sIx items.size 0 a)).toArray):=by show ((items.toList.drop (sIx items.size 0 a)).take (sIx items.size items.size b-sIx items.size 0 a)).toArray.size<=sizeLine;rw[bz,bI,bK,bq];omega
 obtain⟨k,g,e,l⟩:=id j;have f:s.TypeIs (.ref sl) "slice" :=⟨k,g,e⟩;unfold getItem;try with_reducible refine wpAny_holding ?_;first|refine aq (ao ?_)|skip
 refine aq (wpAny_sequenceKey d.typeIs (by decide) ?_);refine aq (wpAny_callSpecial?_slot d.typeIs PyProof.Rows.slot_tuple_getitem
  (wpAny_call_entry PyProof.Rows.slot_tuple_getitem d.typeIs entry_tuple_getitem ?_ (args_tuple_getitem _ _)))
 show wpAny _ _ (Builtin.Tuple.tupleItemsOf (.ref t) >>= _) _ _ s;refine aq (tupleItemsOf_ d ?_);refine aq (wpAny_typeOf f ?_);rw[aQ (by decide)];refine aq (lA j m n ?_);have i:¬((((sIx items.size 0 a):Int)==0&&(1:Int)==1&&(sIx items.size items.size b-sIx items.size 0 a)==items.size)=true):=by intro q;rw[bL,bL]at q;have o:=eq_of_beq q.1.1;have p:=eq_of_beq q.2;exact hw ⟨by omega,by omega⟩
 show wpAny _ _ (if (((sIx items.size 0 a):Int)==0&&1==1&&(sIx items.size items.size b-sIx items.size 0 a)==items.size)=true then _ else _) _ _ s;rw[aR i,Eh];first
  |exact aq (wpAny_newObj_type (ao ⟨_,rfl,ao h⟩) c)
  |exact aq (wpAny_newObj_type (aq (ao (ao ⟨_,rfl,ao h⟩))) c)
  |exact aq (aq (wpAny_newObj_type (ao (ao ⟨_,rfl,ao h⟩)) c))
  |exact aq (aq (wpAny_newObj_type (ao ⟨_,rfl,ao h⟩) c))
end
end HT
namespace L2
open PySem PySem.Spec PyProof.Rows
abbrev TO:=St->Hp->(Option Int->Hp->Prop)->Prop
def PO(X:Cx)(e:Oq Expr)(t:TO):Prop:=
 ∀(b:List (Addr×Obj)) (s:Sq) (a:St) (H:Hp) (Q:Oq Int->Hp->Prop),eO X b a H s->t a H Q->
  wpAny (model X.prog X.w) X.A (evalPart e X.env) (λu d=>∃o c,eO X b a c d/\IsPart u o/\Q o c) X.xe s
def Az:TO:=λ_ H Q=>Q none H
def HY(t:TE):TO:=λa H Q=>t a H λx b=>∃i,x=.int i/\Q (some i) b
section
variable {X:Cx}{e:Expr}{te:TE}{lo hi:Oq Expr}{tl th:TO}{pos p2:Pos}
def Hn:PO X none Az:=by intro b s a H Q I h;rw[evalPart_none];exact ao ⟨none,H,I,.none,h⟩
def Gx(h:PE X e te):PO X (some e) (HY te):=by intro b s a H Q I hw;rw[evalPart_some];refine gZ (h b s a H _ I hw) λu s1 ⟨x,H1,I1,r1,q1⟩=>?_;obtain⟨i,rfl,q⟩:=q1;obtain⟨t,rfl⟩:=r1;exact⟨some i,H1,I1,.int i t,q⟩
def HR(X:Cx)(r:V->Option Int->Option Int->Hp->VK->Prop):Prop:=
 ∀(c:List (Addr×Obj)) (s:Sq) (b:St) (H:Hp) (x:V) (v f a:Vq) (lo hi:Oq Int) (d:Addr) (Q:VK),eO X c b H s->fO x v->s.heap.IsSliceOf d f a .none->IsPart f lo->IsPart a hi->r x lo hi H Q->
  ∃T id,typeLookup (.type T) "__getitem__" = pure (some (.builtin id))/\s.TypeIs v T/\wpAny (model X.prog X.w) X.A (getItem v (.ref d)) (EP X c b Q) X.xe s
def HR.or(h:HR X r)(h':HR X r'):HR X (λx lo hi H Q=>r x lo hi H Q\/r' x lo hi H Q):=by
 intro f s c H x v k b lo hi j Q I i d a g q;rcases q with q|q
 .exact h f s c H x v k b lo hi j Q I i d a g q
 .exact h' f s c H x v k b lo hi j Q I i d a g q
def Ng(r:V->Option Int->Option Int->Hp->VK->Prop)(te:TE)(tl th:TO):TE:=λa H Q=>te a H λx d=>tl a d λl b=>th a b λu c=>r x l u c Q
def B2(d:HR X r)(i:PE X e te)(j:PO X lo tl)(g:PO X hi th):PE X (.Subscript e (.Slice lo hi none p2) pos) (Ng r te tl th):=by intro c s a H Q I h;refine Subscript_ (gZ (i c s a H _ I h) λv s1 ⟨x,H1,I1,r1,q1⟩=>?_);refine wpAny_Slice (gZ (j c s1 a H1 _ I1 q1) λvl s2 ⟨l,H2,I2,pl,q2⟩=>gZ (g c s2 a H2 _ I2 q2) λvu s3 ⟨u,H3,I3,pu,q3⟩=>?_);rw[evalPart_none];refine ao ?_;have f:eO X c a H3 {s3 with heap:=s3.heap.push {cls:=.type "slice",data:=.fields #[vl,vu,.none]}}:=I3.kept λb o q=>ae _ q;obtain⟨T,id,m,k,n⟩:=d c {s3 with heap:=s3.heap.push {cls:=.type "slice",data:=.fields #[vl,vu,.none]}} a H3 x v vl vu l u s3.heap.objs.size Q f r1 (Heap.IsSliceOf.new ..) pl pu q3;exact tail_any k m n (by with_unfolding_all rfl)
noncomputable def EE(a:List V)(lo hi:Oq Int):List V:=(a.drop (HT.sIx a.length 0 lo)).take (HT.sIx a.length a.length hi-HT.sIx a.length 0 lo)
def qF xs lo hi:(EE xs lo hi).length<=xs.length:=by unfold EE;rw[bI,bK];omega
def KS(K:W.Frag):V->Option Int->Option Int->Hp->VK->Prop:=λx lo hi H Q=>∃a b,x=.ref a/\jV K H a b/\
 ¬(HT.sIx b.length 0 lo=0/\HT.sIx b.length b.length hi=b.length)/\∀p,H p=none->Q (.ref p) (fN H p (.tup (EE b lo hi)))
def Ju:HR X (KS X.K):=by
 intro t s p H x v y o lo hi w Q I n l k m h;obtain⟨a,c,rfl,j,hw,q⟩:=h;cases n;obtain⟨d,r,g,i⟩:=I.tuple j;have f:d.toArray.size=c.length:=by rw[bz];exact r.length.symm
 refine⟨"tuple",_,PyProof.Rows.slot_tuple_getitem.lookup,g.typeIs,?_⟩;refine HT.getItem_tuple_cut g l k m (by rw[f];exact hw) ?_ (by rw[f];exact i);rw[f];refine⟨.ref s.heap.objs.size,_,I.laid (λb u q=>ae _ q) (aK _) ?_,rfl,q _ (I.hok.fresh (aK _))⟩;exact⟨aN (qF c lo hi) i,_,(r.drop (HT.sIx c.length 0 lo)).take (HT.sIx c.length c.length hi-HT.sIx c.length 0 lo),vp.new _ _⟩
def K7(K:W.Frag):R2:=λx y H Q=>∃a b d c,x=.ref a/\y=.ref b/\jV K H a d/\jV K H b c/\d≠[]/\d.length+c.length<=sizeLine/\
 (c=[]->Q (.ref a) H)/\(c≠[]->∀p,H p=none->Q (.ref p) (fN H p (.tup (d++c))))
def fu.nil_iff(r:fu xs us):us=[]↔xs=[]:=by
 cases r with
 |nil=>simp
 |cons _ _=>simp
def Ho:mJ X (binaryOp .Add) (K7 X.K):=by intro A s t H x y v u Q I p m h;obtain⟨a,b,C,B,rfl,rfl,r,o,j,g,i,l⟩:=h;cases p;cases m;obtain⟨n,d,k,_⟩:=I.tuple r;obtain⟨f,c,p2,_⟩:=I.tuple o;refine HT.cat_tup k p2 (λz=>j (d.nil_iff.mp z)) (λz=>⟨.ref a,H,I,rfl,i (c.nil_iff.mp z)⟩) (λz=>?_) (by rw[<-d.length,<-c.length];exact g);refine⟨.ref s.heap.objs.size,_,I.laid (λb D q=>ae _ q) (aK _) ?_,rfl,l (λw=>z (c.nil_iff.mpr w)) _ (I.hok.fresh (aK _))⟩;exact⟨by rw[aT];exact g,_,d.append c,vp.new _ _⟩
end
end L2
namespace L2
open PySem PySem.Spec PyProof.Rows
noncomputable def vM(n:Nat)(i:Int):Oq Nat:=if 0<=i then (if i<n then some i.toNat else none) else if -(n:Int)<=i then some (i+n).toNat else none
noncomputable def ou{a:Type}(b:List a)(i:Int):Oq a:=(vM b.length i).bind λj=>b[j]?
def zV(h:vM n i=some j):seqIndex? i n=some j/\j<n/\-(n:Int)<=i/\i<n:=by
 unfold vM at h;by_cases b:0<=i
 .rw[aQ b]at h;by_cases a:i<n
  .rw[aQ a]at h;have e:=Option.some.inj h;exact⟨by rw[seqIndex_of b a,e],by omega,by omega,a⟩
  .rw[aR a]at h;cases h
 .rw[aR b]at h;by_cases a:-n<=i
  .rw[aQ a]at h;have e:=Option.some.inj h;exact⟨by rw[seqIndex_neg (by omega) a,e],by omega,a,by omega⟩
  .rw[aR a]at h;cases h
def v7{a:List α}{v:α}(h:ou a i=some v):∃j,seqIndex? i a.length=some j/\a[j]? = some v/\j<a.length/\-(a.length:Int)<=i/\i<a.length:=by
 unfold ou at h;cases e:vM a.length i with
 |none=>rw[e]at h;cases h
 |some j=>rw[e]at h;obtain⟨b,f,d,c⟩:=zV e;exact⟨j,b,h,f,d,c⟩
def zU{a:List α}{j:Nat}{v:α}(h:a[j]? = some v):ou a (j:Int)=some v:=by
 have b:=(aa.mp h).1;have e:vM a.length j=some j:=by unfold vM;rw[aQ (by omega),aQ (by omega)];simp
 unfold ou;rw[e];exact h
def DP xs (v:α):ou (xs++[v]) (-1)=some v:=by
 have a:(xs++[v]).length=xs.length+1:=by simp
 have e:vM (xs++[v]).length (-1)=some xs.length:=by unfold vM;rw[a,aR (by decide),aQ (by omega)];congr 1;omega
 unfold ou;rw[e];simp
def zX(b:Expr):Prop:=∀o i,subscripted b false o i=operate [o,i] (getItem o i)
def Gm(X:Cx)(r:R2):Prop:=
 ∀(b a:Expr) (d:List (Addr×Obj)) (s:Sq) (c:St) (H:Hp) (x y:V) (v u:Vq) (Q:VK),eO X d c H s->fO x v->fO y u->r x y H Q->
  subscripted a false v u=operate [v,u] (getItem v u)->wpAny (model X.prog X.w) X.A (subscriptTail b a v u) (EP X d c Q) X.xe s
def NK(X:Cx)(id:String)(r:V->List V->Hp->VK->Prop):Prop:=
 ∀(b:List (Addr×Obj)) (s:Sq) (a:St) (H:Hp) (x:V) (c:List V) (v:Vq) (d:List Vq) (Q:VK),eO X b a H s->fO x v->fu c d->r x c H Q->
  wpAny (model X.prog X.w) X.A (call (.builtin id) (v::d)) (EP X b a Q) X.xe s
section
variable {X:Cx}{a b:Expr}{ta tb:TE}{pos:Pos}
def Gm.or(h:Gm X r)(h':Gm X r'):Gm X (λx y H Q=>r x y H Q\/r' x y H Q):=by
 intro c d g s e H x y v u Q I j i q f;rcases q with q|q
 .exact h c d g s e H x y v u Q I j i q f
 .exact h' c d g s e H x y v u Q I j i q f
def EA(d:Gm X r)(m:PE X a ta)(k:PE X b tb)(f:zX b):PE X (.Subscript a b pos) (qQ r ta tb):=by intro g s e H Q I h;exact Subscript_ (Jf m k I h λv u n x y j c l i q=>d a b g n e j x y v u Q c l i q (f _ _))
def LO(K:W.Frag):R2:=λx y H Q=>∃p c i v,x=.ref p/\y=.int i/\iJ K H p c/\ou c i=some v/\Q v H
def Lk(K:W.Frag):R2:=λx y H Q=>∃p c i v,x=.ref p/\y=.int i/\jV K H p c/\ou c i=some v/\Q v H
def K8:R2:=λx y H Q=>∃z i c,x=.str z/\y=.int i/\z.length<=sizeLine/\ou z.cps.toList i=some c/\Q (.str ⟨#[c]⟩) H
def oO:Gm X (LO X.K):=by
 intro g m C s B H x y v u Q I P E h o;obtain⟨p,U,i,z,rfl,rfl,J,L,q⟩:=h;cases P;obtain⟨t,rfl⟩:=E;obtain⟨l,r,e,Z⟩:=I.list J;obtain⟨j,d,F,S,D,R⟩:=v7 L;obtain⟨w,n,f⟩:=r.get F;have N:=r.length;have Y:=vX;have c:EP X C B Q w s:=⟨z,H,I,f,q⟩;by_cases A:0<=i
 .have k:i.toNat=j:=by rw[seqIndex_of A R]at d;exact Option.some.inj d
  exact item_listR e.isList A (by omega) (by rw[k];simpa using n) c o
 .have k:(i+l.toArray.size).toNat=j:=by rw[seqIndex_neg (by omega) D]at d;rw[bz,<-N];exact Option.some.inj d
  exact subscriptTail_builtinR e.isList.typeIs slot_list_getitem.lookup
   (wpAny_getItem_list_neg e.isList (by omega) (by rw[bz]<;>omega) (by omega) (by rw[k];simpa using n) ⟨rfl,c⟩) o
def je:Gm X (Lk X.K):=by
 intro d f o s m H x y v u Q I J A h n;obtain⟨p,N,i,z,rfl,rfl,D,E,q⟩:=h;cases J;obtain⟨t,rfl⟩:=A;obtain⟨C,r,g,U⟩:=I.tuple D;obtain⟨j,k,B,L,P,S⟩:=v7 E;obtain⟨w,l,c⟩:=r.get B;have F:=r.length;have R:=vX;have e:EP X o m Q w s:=⟨z,H,I,c,q⟩;exact subscriptTail_builtinR g.typeIs slot_tuple_getitem.lookup
  (getItem_tuple g (by omega) (by omega) (by rw[bz,<-F];exact k) (by simpa using l) ⟨rfl,e⟩) n
def Kq:Gm X K8:=by
 intro d e D s C H x y v u Q I r m h k;obtain⟨z,i,c,rfl,rfl,J,o,q⟩:=h;obtain⟨t,rfl⟩:=r;obtain⟨F,rfl⟩:=m;obtain⟨j,f,n,B,l,w⟩:=v7 o;have p:z.cps.toList.length=z.length:=by simp[Str.length]
 rw[p]at f l w;have E:=vX;exact tail_any (typeIs_str s z t) slot_str_getitem.lookup (getItem_str (by have A:decide (i < -(2 ^ 63))=false:=aB (by omega);have g:decide (i >= 2 ^ 63)=false:=aB (by omega);rw[A,g,Bool.or_false]) (by rw[f];simpa using n) ⟨.str ⟨#[c]⟩,H,I.tok _,⟨_,rfl⟩,q⟩) k
def Mt(K:W.Frag):R2:=λx y H Q=>LO K x y H Q\/Lk K x y H Q\/K8 x y H Q
def Kb:Gm X (Mt X.K):=oO.or (je.or Kq)
def xZ(its:List Vq) n j u:Obj.mapSeq (·.setIfInBounds j u) {cls:=.type "list",data:=.seq its.toArray n}={cls:=.type "list",data:=.seq (its.set j u).toArray n}:=by simp[Obj.mapSeq]
def eO.lst(I:eO X eh σ H s)(h:H p=some (.lst xs)) :
  ∃its n,fu xs its/\s.heap.get? p=some {cls:=.type "list",data:=.seq its.toArray n}/\xs.length<=sizeLine:=by
 obtain⟨z,its,n,r,e⟩:=I.hok p _ h;exact⟨its,n,r,e,z⟩
def eO.lstUpd{its c:List Vq}(I:eO X eh σ H s)(h:H p=some (.lst xs))
  (j:s.heap.get? p=some {cls:=.type "list",data:=.seq its.toArray n}) (d:f {cls:=.type "list",data:=.seq its.toArray n}={cls:=.type "list",data:=.seq c.toArray n'}) (r:fu ys c) (i:ys.length<=sizeLine) t :
  eO X eh σ (fN H p (.lst ys)) {s with heap:=s.heap.update p f,toks:=t}:=by
 have e:(s.heap.update p f).get? p=some {cls:=.type "list",data:=.seq c.toArray n'}:=by rw[Heap.get?_update_self f j (by rw[d]<;>rfl),d]
 refine I.write (by rw[h];trivial) (.inl rfl) (λb u g q=>(Heap.get?_update_other _ _ (Ne.symm g)).trans q) ⟨_,e⟩ ?_;exact⟨i,c,n',r,e⟩
def zW:V->V->V->Hp->(Hp->Prop)->Prop:=λo i v H Q=>∃p c k j,o=.ref p/\i=.int k/\H p=some (.lst c)/\vM c.length k=some j/\Q (fN H p (.lst (c.set j v)))
def Cd:K2 X zW:=by
 intro B s A H o i v L K u Q I z J E h;obtain⟨p,C,k,j,rfl,rfl,x,D,q⟩:=h;cases z;obtain⟨t,rfl⟩:=J;obtain⟨c,n,r,f,F⟩:=I.lst x;obtain⟨d,N,l,m⟩:=zV D;have e:=r.length;have P:=vX;have w:eO X B A (fN H p (.lst (C.set j v))) {s with heap:=s.heap.update p (Obj.mapSeq (·.setIfInBounds j u))}:=I.lstUpd x f (xZ c n j u) (r.set E j) (by rw[bM];exact F) s.toks
 by_cases y:0<=k
 .have g:k.toNat=j:=by rw[seqIndex_of y m]at d;exact Option.some.inj d
  exact W.ki_setAt f y (by omega) (by rw[bz,<-e];exact m) (by rw[g];exact⟨_,w,q⟩)
 .have g:(k+c.toArray.size).toNat=j:=by rw[seqIndex_neg (by omega) l]at d;rw[bz,<-e];exact Option.some.inj d
  exact W.ki_setBack f (by omega) (by rw[bz,<-e];exact l) (by omega) (by rw[g];exact⟨_,w,q⟩)
def vg lo hi n:(sliceBounds lo hi none n).1=((HT.sIx n 0 lo:Nat):Int)/\(sliceBounds lo hi none n).2.1=((HT.sIx n n hi:Nat):Int)/\(sliceBounds lo hi none n).2.2=1:=by
 refine⟨?_,?_,rfl⟩
 .cases lo with
  |none=>simp[sliceBounds,HT.sIx]
  |some i=>
   simp only[sliceBounds,HT.sIx,Option.getD_none,show 1>0 by decide,if_true];by_cases h:i<0
   .simp only[h,if_true]<;>omega
   .simp only[h,if_false]<;>omega
 .cases hi with
  |none=>simp[sliceBounds,HT.sIx]
  |some i=>
   simp only[sliceBounds,HT.sIx,Option.getD_none,show 1>0 by decide,if_true];by_cases h:i<0
   .simp only[h,if_true]<;>omega
   .simp only[h,if_false]<;>omega
def tN(its:List Vq) lo hi:slicePick its.toArray lo hi none=((its.drop (HT.sIx its.length 0 lo)).take (HT.sIx its.length its.length hi-HT.sIx its.length 0 lo)).toArray:=by obtain⟨e,c,d⟩:=vg lo hi its.toArray.size;unfold slicePick;rw[e,c,d];simp only[sliceRange_one,pick_run,bz]<;>rfl
def LX(K:W.Frag):V->Option Int->Option Int->Hp->VK->Prop:=λx d e H Q=>∃a c,x=.ref a/\iJ K H a c/\∀p,H p=none->Q (.ref p) (fN H p (.lst (EE c d e)))
def HF:HR X (LX X.K):=by intro u s t H x v z p d f y Q I n j i k h;obtain⟨a,c,rfl,g,q⟩:=h;cases n;obtain⟨l,r,e,o⟩:=I.list g;have m:=r.length;refine⟨"list",_,slot_list_getitem.lookup,e.isList.typeIs,?_⟩;refine wpAny_getItem_list_slice e.isList j i k .none (by simp) ?_ (by rw[bz]<;>omega);rw[tN,<-m];refine⟨.ref s.heap.objs.size,_,I.laid (λb w q=>ae _ q) (aK _) ?_,rfl,q _ (I.hok.fresh (aK _))⟩;exact⟨aN (qF c d f) o,_,0,(r.drop (HT.sIx c.length 0 d)).take (HT.sIx c.length c.length f-HT.sIx c.length 0 d),au _ rfl⟩
noncomputable def jy:V->Bool
 |.non=>true
 |.bl _=>true
 |.int _=>true
 |.str _=>true
 |_=>false
noncomputable def Fp:V->V->Bool
 |.non,.non=>true
 |.bl a,.bl b=>a==b
 |.bl a,.int b=>(if a then 1 else 0)==b
 |.int a,.bl b=>a==(if b then 1 else 0)
 |.int a,.int b=>a==b
 |.str a,.str b=>a==b
 |_,_=>false
def J4(f:fO y u)(c:fO x v)(g:jy y=true)(e:jy x=true):SeqAt.EqAt A s u v (Fp y x):=by
 cases y with
 |non=>
  cases f;cases x with
  |non=>cases c;exact SeqAt.EqAt.same _
  |bl b=>cases c;exact SeqAt.EqAt.none_bool b
  |int b=>obtain⟨t,rfl⟩:=c;exact SeqAt.EqAt.none_int b t
  |str b=>obtain⟨t,rfl⟩:=c;exact SeqAt.EqAt.none_str b t
  |_=>exact absurd (e) aH
 |bl a=>
  cases f;cases x with
  |non=>cases c;exact SeqAt.EqAt.bool_none a
  |bl b=>cases c;exact SeqAt.EqAt.bool_bool a b
  |int b=>obtain⟨t,rfl⟩:=c;exact SeqAt.EqAt.bool_int a b t
  |str b=>obtain⟨t,rfl⟩:=c;exact SeqAt.EqAt.bool_str a b t
  |_=>exact absurd (e) aH
 |int a=>
  obtain⟨d,rfl⟩:=f;cases x with
  |non=>cases c;exact SeqAt.EqAt.int_none a d
  |bl b=>cases c;exact SeqAt.EqAt.int_bool a d b
  |int b=>obtain⟨t,rfl⟩:=c;exact SeqAt.EqAt.int_int a d b t
  |str b=>obtain⟨t,rfl⟩:=c;exact SeqAt.EqAt.int_str a d b t
  |_=>exact absurd (e) aH
 |str a=>
  obtain⟨d,rfl⟩:=f;cases x with
  |non=>cases c;exact SeqAt.EqAt.str_none a d
  |bl b=>cases c;exact SeqAt.EqAt.str_bool a d b
  |int b=>obtain⟨t,rfl⟩:=c;exact SeqAt.EqAt.str_int a d b t
  |str b=>obtain⟨t,rfl⟩:=c;exact SeqAt.EqAt.str_str a d b t
  |_=>exact absurd (e) aH
 |_=>exact absurd (g) aH
noncomputable def FX(x:V)(u:Vq):Bool:=match u with
 |.none=>Fp .non x
 |.bool b=>Fp (.bl b) x
 |.int i _=>Fp (.int i) x
 |.str z _=>Fp (.str z) x
 |_=>false
def DF(r:fO y u)(f:jy y=true):FX x u=Fp y x:=by
 cases y with
 |non=>cases r;rfl
 |bl b=>cases r;rfl
 |int i=>obtain⟨t,rfl⟩:=r;rfl
 |str z=>obtain⟨t,rfl⟩:=r;rfl
 |_=>exact absurd (f) aH
theorem uT:∀{xs} {us},fu xs us->xs.all jy=true->us.any (FX x)=xs.any λy=>Fp y x
 |_,_,.nil,_=>rfl
 |y::xs,u::us,.cons r t,f=>by rw[bN,bL]at f;rw[bO,bO,DF r f.1,uT t f.2]
theorem rW(e:fO x v)(d:jy x=true):∀{xs} {us},fu xs us->xs.all jy=true->∀u∈us,SeqAt.EqAt A s u v (FX x u)
 |_,_,.nil,_=>λu c=>by cases c
 |y::xs,u::us,.cons r t,f=>λg c=>by
  rw[bN,bL]at f;rcases aF.mp c with rfl|c
  .rw[DF r f.1];exact J4 r e f.1 d
  .exact rW e d t f.2 g c
noncomputable def L6(x:V)(c:List V):Bool:=c.any λy=>Fp y x
def M6(K:W.Frag)(neg:Bool):R2:=λx y H Q=>∃p c,y=.ref p/\(iJ K H p c\/jV K H p c)/\jy x=true/\c.all jy=true/\Q (.bl (if neg then !L6 x c else L6 x c)) H
def Bv:mJ X (compareOp .In) (M6 X.K false):=by
 intro l s k H x y v u Q I g i h;obtain⟨p,m,rfl,d,f,fs,q⟩:=h;cases i;rcases d with d|d
 .obtain⟨c,r,e,j⟩:=I.list d;refine SeqAt.in_listAt (FX x) e.isList (λw hw=>rW g f r fs w (by simpa using hw)) ⟨.bl _,H,I,rfl,?_⟩;rw[show c.toArray.any (FX x)=c.any (FX x) by simp,uT r fs];exact q
 .obtain⟨c,r,e,j⟩:=I.tuple d;refine SeqAt.in_tupleAt (FX x) e (λw hw=>rW g f r fs w (by simpa using hw)) ⟨.bl _,H,I,rfl,?_⟩;rw[show c.toArray.any (FX x)=c.any (FX x) by simp,uT r fs];exact q
def vb:i7 X (.type "list") (λB H Q=>∃p g,B=[.ref p]/\(iJ X.K H p g\/jV X.K H p g)/\∀l,H l=none->Q (.ref l) (fN H l (.lst g))):=by
 intro D s C H B J Q I r h;obtain⟨p,g,rfl,j,q⟩:=h;obtain⟨u,rfl,F⟩:=oK r;cases F;have k:∀(c:List Vq),fu g c->g.length<=sizeLine->∀(d:Heap) (i:Nat),(∀b A,s.heap.get? b=some A->d.get? b=some A)->
   d.get? s.heap.objs.size=some {cls:=.type "list",dict:=none,data:=.seq c.toArray i,slots:=#[]}->EP X D C Q (.ref s.heap.objs.size) {s with heap:=d}:=λc f t d i m e=>
  ⟨.ref s.heap.objs.size,_,I.laid m (aK _) (show gq X.prog X.w _ d _ (.lst g) from ⟨t,c,i,f,e⟩),rfl,q _ (I.hok.fresh (aK _))⟩
 rcases j with j|j
 .obtain⟨c,f,x,t⟩:=I.list j;have E:=f.length;obtain⟨o,z,v,n,y⟩:=x.isList;exact call_list_seq p (.inl rfl) z v y (λd i m e=>k c f t d i m e) (by simp only[bz]<;>omega)
 .obtain⟨c,f,x,t⟩:=I.tuple j;have E:=f.length;obtain⟨o,z,v,n,y⟩:=x;exact call_list_seq p (.inr rfl) z v y (λd i m e=>k c f t d i m e) (by simp only[bz]<;>omega)
def tG:i7 X (.type "tuple") (λk H Q=>∃p d,k=[.ref p]/\((iJ X.K H p d/\∀l,H l=none->Q (.ref l) (fN H l (.tup d)))\/(jV X.K H p d/\Q (.ref p) H))):=by
 intro w s v H k z Q I r h;obtain⟨p,d,rfl,h⟩:=h;obtain⟨u,rfl,x⟩:=oK r;cases x;rcases h with⟨i,q⟩|⟨i,q⟩
 .obtain⟨c,f,g,n⟩:=I.list i;have A:=f.length;refine call_tuple_list g.isList (λj y=>?_) (by simp only[bz]<;>omega);have m:=I.kept (t':=s.toks) y;have t:eO X w v (fN H j.objs.size (.tup d)) {s with heap:=j.push {cls:=.type "tuple",data:=.seq c.toArray}}:=
   m.laid (λb o e=>ae _ e) (aK _) (⟨n,c,f,vp.new _ _⟩)
  exact⟨.ref j.objs.size,_,t,rfl,q _ (m.hok.fresh (aK _))⟩
 .obtain⟨c,f,g,n⟩:=I.tuple i;exact call_tuple_same g ⟨.ref p,H,I,rfl,q⟩
def Mn(K:W.Frag)(T:String)(x:V)(H:Hp):Prop:=match x with
 |.str _=>T = "str"
 |.int _=>T = "int"
 |.ref p=>(T = "list" /\∃d,iJ K H p d)\/(T = "tuple" /\∃o,K.lookup p=some o/\o.cls=.type "tuple" /\o.dict=none)\/
   (T = "dict" /\((∃c,H p=some (.dK c))\/∃c,H p=some (.dT c)))\/(T = "set" /\∃S n,H p=some (.set S n))
 |_=>False
theorem KA{u:List (Addr×Obj)}{q:St}{H:Hp}{s:Sq}{T:String}{x:V}{v:Vq}(I:eO X u q H s)(r:fO x v)(ty:Mn X.K T x H) :
  s.TypeIs v T/\∀a,v=.ref a->∃l,s.heap.get? a=some l/\l.dict=none:=by
 cases x with
 |str z=>obtain⟨t,rfl⟩:=r;cases (ty);exact⟨typeIs_str s z t,λ_ e=>nomatch e⟩
 |int i=>obtain⟨t,rfl⟩:=r;cases (ty);exact⟨typeIs_int s i t,λ_ e=>nomatch e⟩
 |ref p=>
  cases r;rcases ty with⟨rfl,A,y⟩|⟨rfl,o,d,m,j⟩|⟨rfl,d⟩|⟨rfl,S,n,d⟩
  .obtain⟨w,_,k,_⟩:=I.list y;refine⟨k.isList.typeIs,λa e=>?_⟩;cases e;obtain⟨o,n,e,c,j,_⟩:=k;exact⟨o,e,j⟩
  .refine⟨⟨o,I.kIn p o d,m⟩,λa e=>?_⟩;cases e;exact⟨o,I.kIn _ o d,j⟩
  .have z:∃o,s.heap.get? p=some o/\o.ExactDict:=by
    rcases d with⟨g,d⟩|⟨g,d⟩
    .obtain⟨_,_,_,_,o,_,_,e,f,_⟩:=I.hok p _ d;exact⟨o,e,f⟩
    .obtain⟨_,_,_,_,o,_,_,e,f,_⟩:=I.hok p _ d;exact⟨o,e,f⟩
   obtain⟨o,e,f⟩:=z;refine⟨⟨o,e,f.1⟩,λa h=>?_⟩;cases h;exact⟨o,e,f.2.1⟩
  .obtain⟨o,_,_,_,e,f,_⟩:=I.hok p _ d;refine⟨⟨o,e,f.1⟩,λa h=>?_⟩;cases h;exact⟨o,e,f.2.1⟩
 |_=>exact False.elim ty
def Nh(K:W.Frag)(T:String)(r:V->List V->Hp->VK->Prop)(to:TE)(t:TA):TE:=λc H Q=>to c H λx d=>Mn K T x d/\t c d λe f=>r x e f Q
variable {o e:Expr}{es:List Expr}{to:TE}{t:TA}{name:Str}{apos cpos:Pos}{T id:String}{r:V->List V->Hp->VK->Prop}
def KR(q:PlainAttrs T)(g:Slot T name id)(i:typeOf (.builtin id)=pure (.type "method_descriptor"))(u:NK X id r)(w:PE X o to)(y:PA X (e::es) t)
  (d:attributeBase o name X.env (eval o X.env)=eval o X.env:=by rfl)
  (f:((backTo cpos (starEach (e::es) X.env)).all (λx=>!x.1)&&(backToKw cpos (keywordEach [] X.env)).all (λx=>x.1.isSome)
   && decide ((e::es).length+([]:List Keyword).length+(if ([]:List Keyword).isEmpty then 0 else 1)<30))=true:=by rfl)
  (c:(apos.endLine==cpos.line)=true:=by rfl) (n:starEach (e::es) X.env=(false,eval e X.env)::starEach es X.env:=by rfl) (hplain:(backTo cpos (starEach es X.env)).any (·.1)=false:=by rfl) :
  PE X (.Call (.Attribute o name apos) (e::es) [] cpos) (Nh X.K T r to t):=by
 intro k s j H Q I h;refine wpAny_Call_method_late d f c rfl (gZ (w k s j H _ I h) λv s1 ⟨x,H1,I1,r1,ty,q1⟩=>?_);obtain⟨m,p⟩:=KA I1 r1 ty;refine⟨T,id,q,g,i,m,p,?_⟩;have l:=y cpos k s1 j H1 _ I1 q1;rw[n]at l ⊢;refine Calls.callWith_builtin (by show (false||(backTo cpos (starEach es X.env)).any (·.1))=false;rw[hplain]<;>rfl) (Calls.evalArgs_plain ?_);exact gZ l λus s2 ⟨vs,H2,I2,r2,q2⟩=>u k s2 j H2 x vs v us Q I2 r1 r2 q2
end
end L2
namespace L2
open PySem PySem.Spec PyProof.Rows
def Ny(X:Cx)(id:String)(r:V->List V->Hp->VK->Prop):Prop:=
 ∀(b:List (Addr×Obj)) (s:Sq) (a:St) (H:Hp) (x:V) (c:List V) (v:Vq) (d:List Vq) (Q:VK),eO X b a H s->fO x v->fu c d->r x c H Q->
  wpAny (model X.prog X.w) X.A (call (.builtin id) (v::d)) (EP X b a Q) X.xe s
theorem fu.one:∀{x} {us},fu [x] us->∃u,us=[u]/\fO x u
 |_,_,.cons r .nil=>⟨_,rfl,r⟩
theorem fu.rep(h:fu xs us):∀k:Nat,fu (List.replicate k xs).flatten (List.replicate k us).flatten
 |0=>.nil
 |k+1=>by rw[bP,bP,bQ,bQ];exact fu.append h (fu.rep h k)
theorem um(its:List Vq):∀k a,
  List.foldl (λc d=>c++d) a.toArray (List.replicate k its.toArray)=(a++(List.replicate k its).flatten).toArray
 |0,a=>by simp
 |k+1,a=>by
  have e:a.toArray++its.toArray=(a++its).toArray:=by simp
  have b:(a++its)++(List.replicate k its).flatten=a++(List.replicate (k+1) its).flatten:=by rw[bP,bQ,bR]
  rw[<-b,<-um its k (a++its),<-e,bP,List.foldl_cons]
section
variable {X:Cx}{eh:List (Addr×Obj)}{σ:St}{H:Hp}{s:Sq}{l b:Addr}{xs ys zs:List V}
def eO.lset{its a:List Vq}(I:eO X eh σ H s)(h:H l=some (.lst xs))
  (e:s.heap.get? l=some {cls:=.type "list",data:=.seq its.toArray n}) (c:f its.toArray=a.toArray) (i:fu ys a) (j:ys.length<=sizeLine) :
  eO X eh σ (fN H l (.lst ys)) {s with heap:=s.heap.update l (Obj.mapSeq f),toks:=t'}:=by
 have q:=PySem.IsL.update e f;rw[c]at q;refine I.write (by rw[h];exact trivial) (.inl rfl) (λk u d g=>(Heap.get?_update_other s.heap (Obj.mapSeq f) (Ne.symm d)).trans g) ⟨_,q⟩ ?_;exact⟨j,a,_,i,q⟩
def eO.lnew(I:eO X eh σ H s)(c:fu ys its)(a:ys.length<=sizeLine) :
  eO X eh σ (fN H s.heap.objs.size (.lst ys)) {s with heap:=s.heap.push {cls:=.type "list",data:=.seq its.toArray},toks:=t'}:=
 I.laid (λ_ _ q=>ae _ q) (aK _) ⟨a,its,0,c,au _ rfl⟩
def eO.fresh(I:eO X eh σ H s):H s.heap.objs.size=none:=I.hok.fresh (aK _)
def eO.lstM(I:eO X eh σ H s)(a:H l=some (.lst xs)):xs.length<=sizeLine/\∃its n,fu xs its/\xs.length=its.length/\s.heap.get? l=some {cls:=.type "list",data:=.seq its.toArray n}:=by obtain⟨z,its,n,r,e⟩:=I.hok l _ a;exact⟨z,its,n,r,r.length,e⟩
def ES(h:n<=sizeLine):Builtin.List.listTooLong n=false:=by unfold Builtin.List.listTooLong;exact aB (by omega)
end
section
variable {X:Cx}
def uX:V->List V->Hp->VK->Prop:=λx b H Q=>∃l a y,x=.ref l/\b=[y]/\H l=some (.lst a)/\a.length<sizeLine/\Q .non (fN H l (.lst (a++[y])))
def Bt:Ny X "list.append" uX:=by intro j s i H x g v m Q I d f h;obtain⟨l,k,y,rfl,rfl,b,p,q⟩:=h;cases d;obtain⟨u,rfl,c⟩:=f.one;obtain⟨z,a,n,r,o,e⟩:=I.lstM b;refine call_meets F.slot_list_append ⟨_,e,rfl⟩ F.entry_list_append (F.args_list_append_2 _ _) (PySem.list_append l a.toArray n u (by rw[bz];omega)) ⟨e,?_⟩;refine⟨.non,_,I.lset b e (by simp) (r.append (.cons c .nil)) ?_,rfl,q⟩;rw[aT,bS];omega
def Kn:R2:=λx y H Q=>∃l b c a,x=.ref l/\y=.ref b/\H l=some (.lst c)/\H b=some (.lst a)/\c.length+a.length<=sizeLine/\∀p,H p=none->Q (.ref p) (fN H p (.lst (c++a)))
def B8:mJ X (binaryOp .Add) Kn:=by
 intro w s p H x y v u Q I m j h;obtain⟨l,b,A,t,rfl,rfl,k,f,E,q⟩:=h;cases m;cases j;obtain⟨z,c,n,r,C,e⟩:=I.lstM k;obtain⟨D,a,B,i,o,g⟩:=I.lstM f;refine PySem.P.add_list e g ?_ (by rw[bz,bz];omega);have d:c.toArray++a.toArray=(c++a).toArray:=by simp
 rw[d];exact⟨.ref _,_,I.lnew (r.append i) (by rw[aT];omega),rfl,q _ I.fresh⟩
def LQ:R2:=λx y H Q=>∃l k a,x=.ref l/\y=.int k/\H l=some (.lst a)/\-(2 ^ 63)<=k/\k<2 ^ 63/\a.length*k.toNat<=sizeLine/\
 ∀p,H p=none->Q (.ref p) (fN H p (.lst (List.replicate k.toNat a).flatten))
def Ge{b:Type}(a:List b) k:(List.replicate k a).flatten.length=k*a.length:=by
 induction k with
 |zero=>simp
 |succ k ih=>rw[bP,bQ,aT,ih,bT,Nat.add_comm]
def JP:mJ X (binaryOp .Mult) LQ:=by
 intro N s L H x y v u Q I J w h;obtain⟨l,k,P,rfl,rfl,A,p,B,o,q⟩:=h;cases J;obtain⟨t,rfl⟩:=w;obtain⟨z,b,n,r,D,e⟩:=I.lstM A;have C:b.toArray.size*k.toNat<=sizeLine:=by rw[bz,<-D];exact o
 have f:¬b.toArray.size*k.toNat>(2 ^ 63-1) / 8:=by
  have:sizeLine<=(2 ^ 63-1) / 8:=by decide
  omega
 have g:¬(!Builtin.List.listFitsIndex k)=true:=by rw[fitsIndex_both p B];exact aH
 have c:¬Builtin.List.listTooLong (b.toArray.size*k.toNat)=true:=by rw[ES C];exact aH
 have d:List.foldl (λi j=>i++j) #[] (List.replicate (if b.toArray.isEmpty=true then 0 else k.toNat) b.toArray)=(List.replicate k.toNat b).flatten.toArray:=by
  have K:∀m:Nat,List.foldl (λi j=>i++j) #[] (List.replicate m b.toArray)=(List.replicate m b).flatten.toArray:=λm=>by have:=um b m [];rw[List.nil_append]at this;exact this
  rw[K];cases b with
  |nil=>simp
  |cons a r'=>rw[aR (by simp)]
 refine wpAny_binaryOp_repeat_ref (by decide) ⟨_,e,rfl⟩ (λE=>typeIs_int E k t) noFill_list_mul F.fills_int_mul F.slot_int_rmul repeat_list F.slot_int_index.lookup
  (call_meets F.slot_int_rmul (typeIs_int s k t) F.entry_int_rmul (F.args_int_rmul_2 _ _) (int___rmul___int_list k t l b.toArray n)
   ⟨e,rfl,⟨_,e,rfl⟩,call_meets F.slot_list_mul ⟨_,e,rfl⟩ F.entry_list_mul (F.args_list_mul_2 _ _) (AutoListH.list___mul___list_int_3 l b.toArray n k t g f c) ⟨e,?_⟩⟩)
 rw[d];exact⟨.ref _,_,I.lnew (r.rep k.toNat) (by rw[Ge,Nat.mul_comm];exact o),rfl,q _ I.fresh⟩
end
end L2
namespace Att
open PySem PySem.W PySem.Calls PyProof.Rows
def qN:∀c vs,WellAll P h vs (c.map WData.int)->IntsAre vs c:=by
 intro c;induction c with
 |nil=>intro vs w;rw[bU]at w;cases w;exact .nil
 |cons n c ih=>
  intro vs w;rw[bB]at w;cases w with
  |cons a b=>cases a;exact .cons _ _ (ih _ b)
theorem script_of{l:OpenLaw}(s:l.most=some n)
  (c:l.row.toRowW.claim.pre args=true) (g:WellAll P h vals args) :
  ∃a vs b,vals=[Value.ref a]/\args=[WData.list (b.map WData.int)]/\h.get? a=some {cls:=.type "list",data:=.seq vs.toArray}/\IntsAre vs b/\b.length<=n:=by
 have i:=(pre_splitW c).1;have j:l.pre.holds [] {args:=args}=true:=(pre_splitW c).2;obtain⟨d,r,rfl,k,o⟩:=hasAllW_cons i;obtain rfl:=hasAllW_nil o;obtain⟨t,rfl,m⟩:=hasW_list k;obtain⟨b,rfl⟩:=items_int m;have p:b.length<=n:=by
  unfold OpenLaw.pre at j;have e:(WTm.not (.lt (.lit (.int n)) (.len (.arg 0)))).holds [] {args:=[.list (b.map .int)]}=true:=by have e:=(holds_andW j).1;rw[s]at e;exact e
  have f:=condW_of e (w_not (w_lt w_lit (w_len_list (w_arg rfl))));rw[ax]at f;refine bV λq=>?_;first
   | (rw[aC q']at f;exact absurd f (by decide))
   | (simp at f;omega)
 cases g with
 |cons w1 w2=>
  cases w2;cases w1 with
  |list ho tR=>exact⟨_,_,b,rfl,rfl,ho,qN b _ tR,p⟩
def post_true(l:OpenLaw) args:l.row.toRowW.claim.post args (.bool true) args=true:=
 postW_of
  (show WShape.has [] (.bool true) .bool=true by first|rfl|decide|simp[WShape.has,WShape.arms,WShape.armsAll])
  (w_eq_bool (w_res rfl) w_lit) rfl
end Att
namespace L2
open PySem PySem.Spec PyProof.Rows
theorem uu:∀{vs} {ns},IntsAre vs ns->fu (ns.map V.int) vs
 |_,_,.nil=>.nil
 |_,_,.cons n t h=>.cons ⟨t,rfl⟩ (uu h)
def mv(h:Heap)(H:Hp)(a:List (Addr×Addr)):Heap:=⟨(DG h H).objs,{ids:=a}⟩
end L2
namespace L2
open PySem PySem.Spec PyProof.Rows
noncomputable def m9(s:Stmt)(j:Nat):Stmt:=match s with
 |.ClassDef _ _ _ body _ _ _ _ _ _ _=>body.getD j (.Pass ⟨0,0,0,0⟩)
 |_=>.Pass ⟨0,0,0,0⟩
noncomputable def gK(s:Stmt):Arguments:=match s with
 |.FunctionDef _ a _ _ _ _ _ _ _ _=>a
 |_=>{posonlyargs:=[],args:=[],vararg:=none,kwonlyargs:=[],kw_defaults:=[],kwarg:=none,defaults:=[]}
noncomputable def fw(s:Stmt):List Stmt:=match s with
 |.FunctionDef _ _ b _ _ _ _ _ _ _=>b
 |_=>[]
noncomputable def eG(s:Stmt):Scope:=match s with
 |.FunctionDef _ _ _ _ _ _ sc _ _ _=>sc
 |_=>{kind:=.function,names:=[],isGenerator:=false,isCoroutine:=false}
abbrev nH:HP:=λ_ _ _ _ _ _=>False
abbrev E0:XK:=λ_ _ _=>False
def Ek:qo nH X E0:=λ_ _ _ _ _ _ _ h=>h.elim
structure Fu(K:W.Frag)(x qual:Str)(st:Stmt)(f:Addr)(fd:FuncData):Prop where
 ex:∃(oc:Vq) (od:Oq Addr) (kV doc pm:Vq) (an:Oq Addr) (cdv ct:Vq) (osl:Array (Option Value)),
  fd=W.fnOf x qual (gK st) (fw st) (eG st) .none kV doc pm an cdv ct/\K.lookup f=some ⟨oc,od,.func fd,osl⟩/\W.codeIn K cdv qual=true
 kp:W.keepIn K (.ref f)=true
section
variable {P:Program}{w:World}{K:W.Frag}{mg:Str->Option Value}{base:Heap}
def Fu.ok{st:Stmt}(F:Fu K x qual st f fd)(S:fK N ps (eG st))(e:∀vs H Q E,sp vs H Q E->vs.length=ps.length)
  (c:∀b A a s H vs Q E,fP k (A.deeper (envOfC qual (eG st) s.heap.objs.size f b))->sp vs H Q E->
   ∃t,v9 (kx nH P w K mg base N qual (eG st) f b A a s H E).nox (fw st) t/\t {nx:=λ_ n=>Q .non n,rt:=Q} (iM N vs) H):ku P w K mg base nH (k+1) f fd ps sp:=by
 obtain⟨r,p,kV,l,u,v,b,o,j,rfl,m,d⟩:=F.ex;refine Ig m d S e λA a s H vs Q E i g=>?_;obtain⟨t,h,q⟩:=c b A a s H vs Q E i g;exact⟨t,h.nox,q⟩
def Fu.binds{st:Stmt}(F:Fu K x qual st f fd)
  (h:∀(kV a e:Vq) (c:Oq Addr) (b d:Vq) (us:List Vq),us.length=ps.length->bindArgs (W.fnOf x qual (gK st) (fw st) (eG st) .none kV a e c b d) ⟨us,[]⟩=pure (ps.zip us)):mG K fd ps []:=by
 obtain⟨k,l,kV,a,e,c,b,d,g,rfl,j,i⟩:=F.ex;exact .all (h kV a e c b d)
def yn{st:Stmt}{kV b e a d:Vq}(l:K.lookup f=some ⟨oc,od,.func (W.fnOf x qual (gK st) (fw st) (eG st) .none kV b e an a d),osl⟩)
  (c:W.codeIn K a qual=true) (k:W.keepIn K (.ref f)=true):Fu K x qual st f (W.fnOf x qual (gK st) (fw st) (eG st) .none kV b e an a d):=⟨⟨oc,od,kV,b,e,an,a,d,osl,rfl,l,c⟩,k⟩
end
section
variable {X:Cx}
def pv i (d:X.N[i]? = some x:=by rfl) (c:KD X.env.scope x:=by first|exact Or.inl rfl|exact Or.inr (Or.inl rfl)|exact Or.inr (Or.inr rfl)) (b:(x==("__debug__" : Str))=false:=by decide)
  (a:(x==("__classdict__" : Str))=false:=by decide):PE X (.Name x pos) (ja i):=nV d c b a
end
def M3{A B:Prop}(h:B):if false=true then A else B:=by rw[aR aH];exact h
def MN{A B:Prop}(h:A):if true=true then A else B:=by rw[aQ rfl];exact h
def BY(o:HO)(x:Oq HO):Prop:=match o with
 |.tbl q ps=>∃a,x=some (.tbl q (ps++a))
 |o=>x=some o
def BY.of(h:x=some o):BY o x:=by
 cases o with
 |tbl q ps=>exact⟨#[],by rw[h];simp⟩
 |_=>exact h
def BY.ne(h:BY o x):x≠none:=by
 cases o with
 |tbl q ps=>obtain⟨m,e⟩:=h;rw[e];exact λz=>nomatch z
 |_=>have e:x=some _:=h;rw[e];exact λz=>nomatch z
def eN(H a:Hp):Prop:=∀b o,H b=some o->BY o (a b)
def eN.refl H:eN H H:=λ_ _ h=>.of h
def eN.trans(a:eN H H1)(b:eN H1 H2):eN H H2:=λc o h=>by
 have q:=a c o h;cases o with
 |tbl q ps=>obtain⟨m,e⟩:=q;obtain⟨f,d⟩:=b c _ e;exact⟨m++f,by rw[d,bp]⟩
 |_=>exact b c _ q
def eN.free(e:eN H H')(h:H' l=Option.none):H l=Option.none:=by
 cases q:H l with
 |none=>rfl
 |some o=>exact absurd h (e l o q).ne
def eN.seq{K:W.Frag}(e:eN H H')(h:iJ K H a xs):iJ K H' a xs:=by
 rcases h with (h|⟨o,h⟩)|h
 .exact .inl (.inl (e _ _ h))
 .exact .inl (.inr ⟨o,e _ _ h⟩)
 .exact .inr h
end L2
namespace L2
open PySem PySem.Spec PyProof.Rows
section
variable {P:Program}{w:World}{H:Hp}{h:Heap}{a:Addr}{o:HO}
def nv.track(ok:nv P w H h)(f:H a=none)(new:gq P w (fN H a o) h a o):nv P w (fN H a o) h:=λb u e=>by
 by_cases d:b=a
 .subst d;rw[eJ]at e;cases e;exact new
 .rw[eM d]at e;refine (ok b u e).stay (λ_ _ _ q=>q) (λc q=>?_) λc g q=>?_
  .rw[eM (eV q f)];exact q
  .rw[eM (eV q f)];exact q
end
def eO.track(I:eO X eh σ H s)(d:H a=none)(g:a∈X.ex\/X.s₀.heap.objs.size<=a)
  (i:a≠X.env.locals) (j:∀x c,X.env.cells.lookup x=some c->c≠a) (h:∀p∈X.pn++eh,p.1≠a) (new:gq X.prog X.w (fN H a o) s.heap a o):eO X eh σ (fN H a o) s:=by
 have J:=I.step (t':=s.toks) (d':=s.drawn) (ch:=[a])
  (λb f=>by
   have e:b=a:=by simpa using f
   subst e;exact⟨g,i,j,h⟩)
  (λ_ _ _ _ _ e _=>e) (λ_ u _ _ _ e _=>⟨u.slots,e⟩)
  (λb u f _ n=>by rw[eM (by simpa using f)];exact n)
  (λ_ u _ e=>⟨u,e⟩)
  (λb k q=>by rw[eM (eV q d)];exact q)
  (λb u v q=>by rw[eM (eV q d)];exact q)
  (λb _ l q=>⟨#[],by rw[eM (eV q d),q];simp⟩)
  (λ_ q=>q) (I.hok.track d new) I.bare
 exact J
noncomputable def jP(a:Env):List (Str×NameKind)->List (Str×Addr)->List (Str×Addr)
 |[],acc=>acc
 | (n,k)::r,acc=>if k==NameKind.free then (match a.cells.lookup n with
  |some c=>jP a r ((n,c)::acc)
  |none=>jP a r acc) else jP a r acc
def nC(h:∀y∈scope.names,y.2=.free->∃c,env.cells.lookup y.1=some c):closureFor scope env=pure (jP env scope.names []):=by
 have all:∀(l:List (Str×NameKind)) b,(∀y∈l,y.2=.free->∃c,env.cells.lookup y.1=some c)->
   (forIn l b λx m=>(if (x.2==NameKind.free)=true then (do
    let a <-cellOf env x.1
    pure (ForInStep.yield ((x.1,a)::m))) else pure (ForInStep.yield m):Sem _))=pure (jP env l b):=by
  intro l;induction l with
  |nil=>intro b _;rfl
  |cons y r ih=>
   intro b g;obtain⟨n,k⟩:=y;rw[bW];by_cases f:(k==NameKind.free)=true
   .obtain⟨c,o⟩:=g (n,k) bh (by simpa using f);have d:=o;have e:cellOf env n=pure c:=by unfold cellOf;rw[d]
    simp only[f,if_true,e,pure_bind];rw[ih _ λy j=>g y (bj _ j)];show pure (jP env r ((n,c)::b))=pure (if (k==NameKind.free)=true then (match env.cells.lookup n with
     |some c=>jP env r ((n,c)::b)
     |none=>jP env r b) else jP env r b)
    rw[aQ f,d]
   .have i:(k==NameKind.free)=false:=by simpa using f
    simp only[i,bX,if_false,pure_bind];rw[ih _ λy j=>g y (bj _ j)];show pure (jP env r b)=pure (if (k==NameKind.free)=true then (match env.cells.lookup n with
     |some c=>jP env r ((n,c)::b)
     |none=>jP env r b) else jP env r b)
    rw[aR f]
 have:=all scope.names [] h;unfold closureFor;simp only[pure_bind,bind_pure]at this ⊢;exact this
theorem jE:∀{l} {acc},(∀y d,acc.lookup y=some d->env.cells.lookup y=some d)->(jP env l acc).lookup x=some c->env.cells.lookup x=some c
 |[],acc,ha,h=>ha x c h
 | (n,k)::r,acc,ha,h=>by
  unfold jP at h;by_cases b:(k==NameKind.free)=true
  .rw[aQ b]at h;cases e:env.cells.lookup n with
   |none=>rw[e]at h;exact jE ha h
   |some d=>
    rw[e]at h;refine jE (λy d' a=>?_) h;rw[bY]at a;cases q:y==n with
    |true=>rw[q]at a;cases a;rw[beq_iff_eq.mp q];exact e
    |false=>rw[q]at a;exact ha y d' a
  .rw[aR b]at h;exact jE ha h
theorem m8:∀{l} {acc},(∃c,acc.lookup x=some c)->∃c,(jP env l acc).lookup x=some c
 |[],_,h=>h
 | (n,k)::r,acc,h=>by
  unfold jP;by_cases a:(k==NameKind.free)=true
  .rw[aQ a];cases e:env.cells.lookup n with
   |none=>exact m8 h
   |some d=>
    refine m8 ?_;rw[bY];cases q:x==n with
    |true=>exact⟨d,rfl⟩
    |false=>exact h
  .rw[aR a];exact m8 h
theorem lO:∀{l} {acc},(x,NameKind.free)∈l->(∃c,env.cells.lookup x=some c)->∃c,(jP env l acc).lookup x=some c
 | (n,k)::r,acc,b,a=>by
  rcases aF.mp b with e|b
  .cases e;obtain⟨c,a⟩:=a;unfold jP;rw[aQ (by rfl),a];refine m8 ⟨c,?_⟩;rw[bY,beq_self_eq_true]
  .unfold jP;by_cases f:(k==NameKind.free)=true
   .rw[aQ f];cases env.cells.lookup n with
    |none=>exact lO b a
    |some d=>exact lO b a
   .rw[aR f];exact lO b a
def pJ(h:(relabel scope env).names.lookup x=some .cell\/(relabel scope env).names.lookup x=some .free):(x,NameKind.free)∈scope.names\/scope.names.lookup x=some .cell:=by
 have all:∀(l:List (Str×NameKind)),∀k,(k=NameKind.cell\/k=NameKind.free)->
   (l.map λ(n,k)=>if (k==NameKind.free&&env.scope.kind==.function&&env.kindOf n==some .cell) then (n,NameKind.cell) else (n,k)).lookup x=some k->(x,NameKind.free)∈l\/l.lookup x=some .cell:=by
  intro l;induction l with
  |nil=>intro k _ h;simp at h
  |cons y r ih=>
   intro k c h;obtain⟨n,b⟩:=y;rw[bB]at h;by_cases a:(b==NameKind.free&&env.scope.kind==.function&&env.kindOf n==some .cell)=true
   .have d:b=.free:=by simp only[bL,beq_iff_eq]at a;exact a.1.1
    simp only[a,if_true]at h;rw[bY]at h;cases q:x==n with
    |true=>rw[d,beq_iff_eq.mp q];exact .inl bh
    |false=>
     rw[q]at h;rcases ih k c h with z|z
     .exact .inl (bj _ z)
     .exact .inr (by rw[bY,q];exact z)
   .simp only[a,bX,if_false]at h;rw[bY]at h;cases q:x==n with
    |true=>
     rw[q]at h;have e:b=k:=by simpa using h
     rcases c with rfl|rfl
     .exact .inr (by rw[bY,q,e])
     .rw[e,beq_iff_eq.mp q];exact .inl bh
    |false=>
     rw[q]at h;rcases ih k c h with z|z
     .exact .inl (bj _ z)
     .exact .inr (by rw[bY,q];exact z)
 rcases h with h|h
 .exact all scope.names _ (.inl rfl) h
 .exact all scope.names _ (.inr rfl) h
def vj(h:scope.names.lookup x=some .free):(relabel scope env).names.lookup x=some .cell\/(relabel scope env).names.lookup x=some .free:=by
 have all:∀(l:List (Str×NameKind)),l.lookup x=some .free->
   (l.map λ(n,k)=>if (k==NameKind.free&&env.scope.kind==.function&&env.kindOf n==some .cell) then (n,NameKind.cell) else (n,k)).lookup x=some .cell\/
   (l.map λ(n,k)=>if (k==NameKind.free&&env.scope.kind==.function&&env.kindOf n==some .cell) then (n,NameKind.cell) else (n,k)).lookup x=some .free:=by
  intro l;induction l with
  |nil=>intro h;simp at h
  |cons y r ih=>
   intro h;obtain⟨n,k⟩:=y;rw[bB];rw[bY]at h;cases q:x==n with
   |true=>
    rw[q]at h;have b:k=.free:=by simpa using h
    by_cases a:(k==NameKind.free&&env.scope.kind==.function&&env.kindOf n==some .cell)=true
    .refine .inl ?_;simp only[a,if_true];rw[bY,q]
    .refine .inr ?_;simp only[a,bX,if_false];rw[bY,q,b]
   |false=>
    rw[q]at h;by_cases a:(k==NameKind.free&&env.scope.kind==.function&&env.kindOf n==some .cell)=true
    .simp only[a,if_true];rw[bY,q];exact ih h
    .simp only[a,bX,if_false];rw[bY,q];exact ih h
 exact all scope.names h
def BM(X:Cx)(b:List Expr)(t:TT):Prop:=
 ∀(d:List (Addr×Obj)) (s:Sq) (a:St) (H:Hp) (Q:Bool->Hp->Prop),eO X d a H s->t a H Q->
  wpAny (model X.prog X.w) X.A (forIn b true λc r=>if r=true then do let ok <-isTrue c X.env (eval c X.env);pure (ForInStep.yield ok) else pure (ForInStep.yield r)) (TP X d a Q) X.xe s
def Jq:TT:=λ_ H Q=>Q true H
def GJ:BM X [] Jq:=λ_ _ _ H _ I h=>wpAny_tests_nil ⟨H,I,h⟩
def GA(a:PT X c t):BM X [c] t:=λd s b H Q I h=>wpAny_tests_one (a d s b H Q I h)
theorem kD:∀a k b,(cellsFrom k a b).lookup x=some c->b.lookup x=some c\/(k<=c/\(x,NameKind.cell)∈a)
 |[],_,_,h=>.inl h
 | (n,kd)::r,k,b,h=>by
  unfold cellsFrom at h;split at h
  .rename_i e;rcases kD r _ _ h with q|⟨q,m⟩
   .rw[bY]at q;cases d:x==n with
    |true=>rw[d]at q;cases q;refine .inr ⟨aK _,?_⟩;rw[beq_iff_eq.mp d,beq_iff_eq.mp e];exact bh
    |false=>rw[d]at q;exact .inl q
   .exact .inr ⟨bZ q,bj _ m⟩
  .rcases kD r _ _ h with q|⟨q,m⟩
   .exact .inl q
   .exact .inr ⟨q,bj _ m⟩
theorem jK:∀a k b,(x,NameKind.cell)∉a->(cellsFrom k a b).lookup x=b.lookup x
 |[],_,_,_=>rfl
 | (n,kd)::r,k,b,h=>by
  unfold cellsFrom;have c:(x,NameKind.cell)∉r:=λz=>h (bj _ z);split
  .rename_i e;rw[jK r _ _ c,bY];cases d:x==n with
   |true=>exact absurd (by rw[beq_iff_eq.mp d,beq_iff_eq.mp e];exact bh) h
   |false=>rfl
  .exact jK r _ _ c
theorem lj:∀a k b,(x,NameKind.cell)∈a->(cellsFrom k a b).lookup x=some c->k<=c
 |[],_,_,h,_=>nomatch h
 | (n,kd)::r,k,b,h,e=>by
  unfold cellsFrom at e;by_cases d:(x,NameKind.cell)∈r
  .split at e
   .exact bZ (lj r _ _ d e)
   .exact lj r _ _ d e
  .rcases aF.mp h with q|q
   .cases q;rw[aQ (by rfl),jK r _ _ d,bY,beq_self_eq_true]at e;cases e;exact aK _
   .exact absurd q d
theorem lu:∀d k a,(∀x y c,a.lookup x=some c->a.lookup y=some c->x=y)->(∀x c,a.lookup x=some c->c<k)->
  ∀x y c,(cellsFrom k d a).lookup x=some c->(cellsFrom k d a).lookup y=some c->x=y
 |[],_,_,h,_=>h
 | (n,kd)::r,k,a,h,hl=>by
  unfold cellsFrom;split
  .refine lu r (k+1) ((n,k)::a) (λx y c b e=>?_) λx c b=>?_
   .rw[bY]at b e;cases f:x==n with
    |true=>
     cases g:y==n with
     |true=>rw[beq_iff_eq.mp f,beq_iff_eq.mp g]
     |false=>rw[f]at b;rw[g]at e;cases b;exact absurd (hl _ _ e) (a9 _)
    |false=>
     rw[f]at b;cases g:y==n with
     |true=>rw[g]at e;cases e;exact absurd (hl _ _ b) (a9 _)
     |false=>rw[g]at e;exact h x y c b e
   .rw[bY]at b;cases f:x==n with
    |true=>rw[f]at b;cases b;exact bC _
    |false=>rw[f]at b;exact b9 (hl x c b)
  .exact lu r k a h hl
theorem ko:∀a h b,(cellsFrom h.objs.size a b).lookup x=some c->b.lookup x=some c\/(h.objs.size<=c/\(pushCells h a).IsCell c none)
 |[],_,_,e=>.inl e
 | (n,kd)::r,h,b,e=>by
  unfold cellsFrom at e;unfold pushCells;split at e
  .rename_i d;rw[aQ d];have g:(cellsFrom (h.push {cls:=.type "cell",data:=.cell none}).objs.size r ((n,h.objs.size)::b)).lookup x=some c:=by rw[Heap.size_push];exact e
   rcases ko r _ _ g with q|⟨q,m⟩
   .rw[bY]at q;cases f:x==n with
    |true=>rw[f]at q;cases q;exact .inr ⟨aK _,_,pushCells_keeps r _ _ _ (au _ rfl),rfl⟩
    |false=>rw[f]at q;exact .inl q
   .rw[Heap.size_push]at q;exact .inr ⟨bZ q,m⟩
  .rename_i d;rw[aR d];exact ko r _ _ e
def pU{M:Model}{A:Around}{E:Vq->Shared->Prop}{s:Sq}{a:Scope}{globals:Addr}{closure:List (Str×Addr)}{e:Str}{c:Oq Addr}{d:Vq}{b:Env}{builtins:Addr}{Q:Env->Shared->Prop}
  (j:Q (newEnv a s.heap.objs.size globals (cellsFrom (s.heap.objs.size+1) a.names closure) e c d (some b) builtins) {s with heap:=pushCells (s.heap.push {cls:=.type "dict",data:=.dict #[]}) a.names}) :
  wpAny M A (newFunctionEnv a globals closure [] e c d (some b) builtins) Q E s:=by
 simp only[newFunctionEnv,Option.isSome_some,if_true];refine aq (wpAny_alloc ?_);refine aq (wpAny_layCells _ (λi f h=>by cases g:f==NameKind.cell<;>simp[g]) _ _ _ _ ?_);rw[show ({s with heap:=s.heap.push {cls:=.type "dict",data:=.dict #[]}}:Sq).heap.objs.size=s.heap.objs.size+1 from Heap.size_push ..];rw[cf];exact aq (ao (ao j))
noncomputable def j9(X:Cx)(N:List Str)(a:Scope)(C:Addr)(b:Sq)(H:Hp)(ex:List Addr)(pn:List (Addr×Obj)):Cx:={X with N:=N,s₀:=b,H₀:=H,env:=compEnvC a (cellsFrom (C+1) a.names (jP X.env a.names [])) C X.env,outer:=X.stack,ex:=ex,fn:=λx=>a.names.lookup x==some .cell,pn:=pn,xe:=λ_ _=>False}
noncomputable def pull(a:List (Option Nat))(b:St):St:=a.map fun
 |none=>none
 |some j=>(b[j]?).getD none
def Nk(J:It)(k:List (Option Nat))(g:TG)(j:TT)(h:TE)(l:St)(o:Hp)(Q:VK):Prop:=∃W:Nat->Nat->List V->Hp->Prop,(∃m,W 0 m [] o)/\∀i m c H,W i m c H->
 (J.stop i H/\∀D,H D=none->Q (.ref D) (fN H D (.lst c)))\/
 (J.go i H/\c.length<sizeLine/\∀x e,J.yld i H x e->g x (pull k l) e λa n=>j a n λb f=>if b=true then h a f λy p=>∃d,d<m/\W (i+1) d (c++[y]) p else ∃d,d<m/\W (i+1) d c f)
def Cc(e:List (Option Nat))(c:TI)(g:TG)(d:TT)(b:TE):TE:=λa H Q=>c a H λJ f=>Nk J e g d b a f Q
end L2
namespace L2
open PySem PySem.Spec PyProof.Rows
section
variable {prog:Program}{w:World}{A:Around}{R:Result->Shared->Prop}{s:Sq}
theorem vi{p E i:Expr}{q:List Expr}{d:Scope}{C:Pos}{it t:Vq}{a:Env}(J:Nat->Shared->Prop)
  (turn:∀n s,J n s->wpAny (model prog w) A (pyNext it) (λr b=>match r with
   |none=>R (.ok .next) b
   |some v=>wpAny (model prog w) A (letOwnedTupleGo E it v) (λ_ j=>wpAny (model prog w) A (assign E a v) (λ_ k=>
     wpAny (model prog w) A (forIn q true λc r=>if r=true then do let ok <-isTrue c a (eval c a);pure (ForInStep.yield ok) else pure (ForInStep.yield r)) (λok e=>
      if ok=true then wpAny (model prog w) A (eval p a) (λx f=>wpAny (model prog w) A (call (.builtin "list.append") [t,x]) (λ_ o=>∃m,m<n/\J m o) (λ_ _=>False) f) (λ_ _=>False) e
      else ∃m,m<n/\J m e) (λ_ _=>False) k) (λ_ _=>False) j) (λ_ _=>False) b) (λ_ _=>False) s)
  (n:Nat) (h:J n s):codeAny (model prog w) A (.compLoop (.ListComp p [⟨E,i,q,0⟩] d C) 0 it t a) R s:=by
 refine codeAny_loop rfl J (λn s F=>?_) n h;show wpAny _ A ((compTurn (.ListComp p [⟨E,i,q,0⟩] d C) 0 it t a).onRaise (λx=>do noteFrame x a;theTreesLotGoes x)) _ _ s;refine wpAny_noted ?_;rw[compTurn_list];refine aq (wpAny_standAt (aq (wpAny_mono (turn n s F) (λr b l=>?_) λ_ _ z=>z.elim)));cases r with
 |none=>exact ao l
 |some v=>
  refine aq (wpAny_mono l (λ_ j D=>?_) λ_ _ z=>z.elim);refine aq (wpAny_mono D (λ_ k B=>aq (wpAny_mono B (λok e g=>?_) λ_ _ z=>z.elim)) λ_ _ z=>z.elim);cases ok with
  |false=>exact ao ⟨rfl,g⟩
  |true=>exact aq (aq (wpAny_mono g (λx f y=>aq (wpAny_mono y (λ_ o u=>ao (ao ⟨rfl,u⟩)) λ_ _ z=>z.elim)) λ_ _ z=>z.elim))
end
def lX(d:List (Option Nat))(g:TG):Prop:=∀x a H Q,g x a H Q->g x a H λb c=>(∀i j:Nat,d[i]? = some (some j)->b[i]? = a[i]?)/\Q b c
def rZ(b:ix[k]? = some none):lX ix (gC k):=λx a H Q h=>by
 refine⟨λi j e=>?_,h⟩;have:k≠i:=by rintro rfl;rw[b]at e;cases e
 rw[ar this]
abbrev tw(us:List Vq):Obj:={cls:=.type "list",data:=.seq us.toArray us.length}
section
variable {X:Cx}{tg elt iter:Expr}{ifs:List Expr}{scope:Scope}{pos:Pos}{N:List Str}{ix:List (Option Nat)}{wi:TI}{g:TG}{tt:TT}{te:TE}
structure wG(X:Cx)(scope:Scope)(N:List Str)(ix:List (Option Nat)):Prop where
 kind:scope.kind=.function
 sep:∀y∈scope.names,y.2=.cell->scope.names.lookup y.1=some .cell
 names:∀y∈scope.names,y.2=.local->scope.names.lookup y.1=some .local
 fre:∀y∈scope.names,y.2=.free->∃c,X.env.cells.lookup y.1=some c
 len:N.length=ix.length
 ix:∀(i j:Nat) (x:Str),N[i]? = some x->ix[i]? = some (some j)->X.N[j]? = some x/\scope.names.lookup x=some .free/\KD X.env.scope x/\X.env.kindOf x≠some .local
def K1(L:wG X scope N ix)(I:eO X eh σ H s)(f:∀b∈fp,qH X eh H b)(j:∀b∈fp,b<s.heap.objs.size) o :
  (j9 X N scope (s.heap.objs.size+1) {s with heap:=s.heap.push o} H (s.heap.objs.size::fp) (X.pn++eh)).Ok:=by
 have v:eO X eh σ H {s with heap:=s.heap.push o}:=I.kept λb u e=>ae _ e;have sound0:∀x c,(jP X.env scope.names []).lookup x=some c->X.env.cells.lookup x=some c:=λx c e=>jE (λy d z=>by simp at z) e;have cellLt:∀x c,X.env.cells.lookup x=some c->c<s.heap.objs.size:=λx c e=>let ⟨_,q⟩:=I.cell x c e;q.lt;have h:∀x c,(cellsFrom (s.heap.objs.size+1+1) scope.names (jP X.env scope.names [])).lookup x=some c->X.env.cells.lookup x=some c\/s.heap.objs.size+1+1<=c:=λx c e=>by
  rcases kD _ _ _ e with q|⟨q,_⟩
  .exact .inl (sound0 x c q)
  .exact .inr q
 refine⟨I.ok.mod,L.kind,I.ok.glob,I.ok.blt,?_,lu _ _ _ (λx y c i n=>I.ok.inj x y c (sound0 x c i) (sound0 y c n)) (λx c i=>b9 (b9 (cellLt x c (sound0 x c i)))),λx r=>?_,λx c i n=>?_,I.ok.hd,I.ok.frames,.inl rfl,λb a=>?_,λb u e=>?_,?_,λb u e a=>?_,λb a=>?_,v.stack,I.stkFree,I.tab⟩
 .show (s.heap.push o).objs.size<=s.heap.objs.size+1;rw[Heap.size_push];exact aK _
 .refine bH.mp (W.cellsFrom_some _ _ _ ?_);rcases pJ r with k|k
  .exact .inr (bH.mpr (lO k (L.fre _ k rfl)))
  .exact .inl k
 .have l:(scope.names.lookup x==some .cell)=true:=i;have t:scope.names.lookup x=some .cell:=by simpa using l
  show (s.heap.push o).objs.size<=c;rw[Heap.size_push];exact bZ (lj _ _ _ (PySem.mem_of_lookup t) n)
 .rcases aF.mp a with rfl|a
  .refine⟨aM (bC _),λx c e z=>?_⟩;rcases h x c e with q|q
   .exact absurd (cellLt x c q) (by rw[z];exact a9 _)
   .rw[z]at q;omega
  .refine⟨aM (b9 (j b a)),λx c e=>?_⟩;rcases h x c e with q|q
   .exact (f b a).2.2.2.2.1 x c q
   .intro z;rw[z]at q;exact absurd (aN (cg _ 2) q) (Nat.not_le.mpr (j b a))
 .exact⟨ae _ (I.bs b u e).1,(I.bs b u e).2⟩
 .show X.base.objs.size<=(s.heap.push o).objs.size;rw[Heap.size_push];exact cj (aN I.ok.bsz I.sz)
 .have m:=aL (I.bs b u e).1;rcases aF.mp a with rfl|a
  .exact a9 _ m
  .rcases (f b a).2.2.2.1 with z|z
   .exact I.ok.noex b u e z
   .exact absurd (aE (aL e) (aN I.ok.bsz z)) (a9 _)
 .intro z;have p:=I.stkSub b z;rcases aF.mp a with rfl|a
  .rcases aF.mp p with q|q
   .exact absurd I.lt (by rw[<-q];exact a9 _)
   .exact I.nofs (aK _) q
  .rcases aF.mp p with q|q
   .exact (f b a).2.1 q
   .exact (f b a).2.2.1 q
end
end L2
namespace L2
open PySem PySem.Spec PyProof.Rows
section
variable {X:Cx}{tg elt iter:Expr}{ifs:List Expr}{scope:Scope}{pos:Pos}{N:List Str}{ix:List (Option Nat)}{wi:TI}{g:TG}{tt:TT}{te:TE}
def xu{i:Nat}(h:(pull ix σ)[i]? = some (some v)):∃j,ix[i]? = some (some j)/\σ[j]? = some (some v):=by
 unfold pull at h;rw[aw]at h;cases e:ix[i]? with
 |none=>rw[e]at h;cases h
 |some k=>
  rw[e]at h;cases k with
  |none=>cases h
  |some j=>
   refine⟨j,rfl,?_⟩;have a:(σ[j]?).getD none=some v:=by simpa using h
   cases q:σ[j]? with
   |none=>rw[q]at a;cases a
   |some z=>rw[q]at a;simpa using a
theorem AB{RR:Vq->Addr->Result->Shared->Prop}{Q:VK}{W:Nat->Nat->List V->Hp->Prop}
  (hc:X.calm=true) (L:wG X scope N ix) (hgk:lX ix g)
  (blk:∀C F H ex pn,PG (j9 X N scope C F H ex pn) tg g/\BM (j9 X N scope C F H ex pn) ifs tt/\PE (j9 X N scope C F H ex pn) elt te)
  (l:eO X eh σ H2 s2) (T:zu X.prog X.w X.K tg J fp it tn) (st2:tn 0 s2.heap) (f2:∀b∈fp,qH X eh H2 b) (w0:W 0 m0 [] H2)
  (turn:∀i m S H,W i m S H->(J.stop i H/\∀D,H D=none->Q (.ref D) (fN H D (.lst S)))\/
   (J.go i H/\S.length<sizeLine/\∀x s,J.yld i H x s->g x (pull ix σ) s λσ2 H2=>tt σ2 H2 λb H3=>if b=true then te σ2 H3 λy H4=>∃m',m'<m/\W (i+1) m' (S++[y]) H4 else ∃m',m'<m/\W (i+1) m' S H3))
  (fin:∀D C m s U,U.heap.Ns C m->qH X eh s C->eO X eh σ s U->Q (.ref D) s->RR (.ref D) C (.ok .next) U) :
  wpAny (model X.prog X.w) X.A (newList []) (λacc F=>wpAny (model X.prog X.w) X.A (newFunctionEnv scope X.env.globals (jP X.env scope.names []) [] X.env.qual none .none (some X.env)) (λcenv s₄=>codeAny (model X.prog X.w) X.A (.compStart (.ListComp elt [⟨tg,iter,ifs,0⟩] scope pos) 0 (.ref it) acc {cenv with scope:=relabel scope X.env}) (RR acc cenv.locals) s₄) E F) E s2:=by
 refine wpAny_newObj_type (pU ?_);have hCs:(s2.heap.push {cls:=.type "list",dict:=none,data:=.seq ([]).toArray}).objs.size=s2.heap.objs.size+1:=Heap.size_push ..;generalize R:pushCells ((s2.heap.push {cls:=.type "list",dict:=none,data:=.seq ([]).toArray}).push {cls:=.type "dict",data:=.dict #[]}) scope.names=h₁;rw[hCs];have hns₁:h₁.Ns (s2.heap.objs.size+1) (λ_=>none):=by rw[<-R,<-hCs];exact (Heap.Ns.new _ _).keeps (pushCells_keeps _ _)
 have Y:∀x c,(cellsFrom (s2.heap.objs.size+1+1) scope.names (jP X.env scope.names [])).lookup x=some c->X.env.cells.lookup x=some c\/(s2.heap.objs.size+1+1<=c/\h₁.IsCell c none):=λx c e=>by
  have hs3:((s2.heap.push {cls:=.type "list",dict:=none,data:=.seq ([]).toArray}).push {cls:=.type "dict",data:=.dict #[]}).objs.size=s2.heap.objs.size+1+1:=by rw[Heap.size_push,hCs]
  rw[<-hs3]at e;rcases ko _ _ _ e with q|⟨q,m⟩
  .exact .inl (jE (λy d z=>by simp at z) q)
  .rw[hs3]at q;rw[R]at m;exact .inr ⟨q,m⟩
 have fpObj:=T.obj 0 _ st2;have hlt:∀b∈fp,b<s2.heap.objs.size:=λb h=>let ⟨_,e,_⟩:=fpObj b h;aL e;have ok:=K1 L l f2 hlt {cls:=.type "list",dict:=none,data:=.seq ([]).toArray};have DC:s2.heap.objs.size≠s2.heap.objs.size+1:=aM (bC _);have hold:∀b o,(s2.heap.push {cls:=.type "list",dict:=none,data:=.seq ([]).toArray}).get? b=some o->h₁.get? b=some o:=λb o e=>by rw[<-R];exact pushCells_keeps _ _ _ _ (ae _ e)
 have old:∀b o,s2.heap.get? b=some o->h₁.get? b=some o:=λb o e=>hold b o (ae _ e);have sound:∀x c,(jP X.env scope.names []).lookup x=some c->X.env.cells.lookup x=some c:=λx c e=>jE (λy d z=>by simp at z) e;have cellLt:∀x c,X.env.cells.lookup x=some c->c<s2.heap.objs.size:=λx c e=>let ⟨_,q⟩:=l.cell x c e;q.lt;have hDn:=l.hok.fresh (aK _);have hCn:=l.hok.fresh (bF _);have t:∀p∈X.pn++eh,p.1<s2.heap.objs.size:=λp f=>aL (l.pin p f).1;have hDfs:s2.heap.objs.size∉Ab X.stack:=λz=>by
  rcases aF.mp (l.stkSub _ z) with q|q
  .exact absurd l.lt (by rw[<-q];exact a9 _)
  .exact l.nofs (aK _) q
 have I':eO (j9 X N scope (s2.heap.objs.size+1) {s2 with heap:=s2.heap.push {cls:=.type "list",dict:=none,data:=.seq ([]).toArray}} H2 (s2.heap.objs.size::fp) (X.pn++eh))
   [(s2.heap.objs.size,tw [])] (pull ix σ) H2 {s2 with heap:=h₁,toks:=s2.toks}:=by
  refine⟨ok,rfl,l.bare,Un.kept hold,⟨_,hns₁,λi x v h1 h2 h3=>?_⟩,λx c e=>?_,hCn,λx c e=>?_,λp f=>?_,l.hok.kept old,?_⟩
  .obtain⟨j,ej,es⟩:=xu h2;obtain⟨q1,q2,q3,q4⟩:=L.ix i j x h1 ej;obtain⟨m,_,hl⟩:=l.loc;obtain⟨u,r,lk⟩:=hl j x v q1 es q3;refine⟨u,r,?_⟩;rcases lk with⟨k,_⟩|⟨k,c,hcl,hv⟩
   .exact absurd k q4
   .obtain⟨c',hc'⟩:=lO (PySem.mem_of_lookup q2) ⟨c,hcl⟩;have:=sound x c' hc';rw[hcl]at this;cases this;have hnc:(x,NameKind.cell)∉scope.names:=λz=>by have:=L.sep _ z rfl;rw[q2]at this;cases this
    refine .inr ⟨?_,c,(jK _ _ _ hnc).trans hc',let ⟨ob,ho,hd⟩:=hv;⟨ob,old c ob ho,hd⟩⟩;exact vj q2
  .rcases Y x c e with q|⟨_,q⟩
   .obtain⟨v,ob,ho,hd⟩:=l.cell x c q;exact⟨v,ob,old c ob ho,hd⟩
   .exact⟨none,q⟩
  .rcases Y x c e with q|⟨q,_⟩
   .exact l.freeC x c q
   .exact l.hok.fresh (aN (cg _ 2) q)
  .rcases ai.mp f with f|f
   .obtain⟨e,n,ne,nf,d⟩:=l.pin p f;refine⟨old _ _ e,n,aM (b9 (t p f)),λz=>?_,d⟩;rcases aF.mp (l.stkSub _ z) with q|q
    .exact ne q
    .exact nf q
   .have e:p=(s2.heap.objs.size,tw []):=by simpa using f
    subst e;exact⟨hold _ _ (au _ rfl),hDn,DC,hDfs,λv z=>by cases z⟩
  .unfold pull;rw[ax];exact L.len.symm
 generalize a:j9 X N scope (s2.heap.objs.size+1) {s2 with heap:=s2.heap.push {cls:=.type "list",dict:=none,data:=.seq ([]).toArray}} H2 (s2.heap.objs.size::fp) (X.pn++eh)=X' at I';obtain⟨hg,hif,he⟩:=blk (s2.heap.objs.size+1) {s2 with heap:=s2.heap.push {cls:=.type "list",dict:=none,data:=.seq ([]).toArray}} H2 (s2.heap.objs.size::fp) (X.pn++eh);rw[a]at hg hif he;have stat:∀{s:Hp} {P:List Vq},(∀b∈fp,s b=none)->∀b∈fp,qH X' [(s2.heap.objs.size,tw P)] s b:=λ{s P} hn b h=>by
  subst a;obtain⟨_,f1,f2',f3,f4,f5⟩:=f2 b h;refine⟨hn b h,aM (b9 (hlt b h)),λz=>?_,.inl (bj _ h),λx c e=>?_,λp f=>?_⟩
  .rcases aF.mp (l.stkSub _ z) with q|q
   .exact f1 q
   .exact f2' q
  .rcases Y x c e with q|⟨q,_⟩
   .exact f4 x c q
   .intro z;rw[z]at q;exact absurd (aN (cg _ 2) q) (Nat.not_le.mpr (hlt b h))
  .rcases ai.mp f with f|f
   .exact f5 p f
   .have e:p=(s2.heap.objs.size,tw P):=by simpa using f
    subst e;exact Ne.symm (aM (hlt b h))
 have loop:codeAny (model X.prog X.w) X.A (.compLoop (.ListComp elt [⟨tg,iter,ifs,0⟩] scope pos) 0 (.ref it) (.ref s2.heap.objs.size) X'.env) (RR (.ref s2.heap.objs.size) (s2.heap.objs.size+1))
   {s2 with heap:=h₁,toks:=s2.toks}:=by
  refine vi (λn U=>∃i S P s,eO X' [(s2.heap.objs.size,tw P)] (pull ix σ) s U/\fu S P/\S.length<=sizeLine/\tn i U.heap/\(∀b∈fp,s b=none)/\W i n S s) ?_ m0
   ⟨0,[],[],H2,I',.nil,bD _,T.keep _ _ _ st2 λb _ o e=>old b o e,λb h=>(f2 b h).1,w0⟩
  rintro n s3 ⟨i,S,P,H3,I3,rv,hz,st3,fr3,w3⟩;have hcX:X'.calm=true:=by subst a;exact hc
  have hA:X'.A=X.A:=by subst a;rfl
  rcases turn i n S H3 w3 with⟨stop,qn⟩|⟨go,jH,step⟩
  .have hd:=T.done X' (by subst a;rfl) (by subst a;rfl) (by subst a;rfl) hcX i _ s3 _ H3 (λ_ _=>False) I3 (stat fr3) st3 stop;rw[hA]at hd;refine gZ hd λr s4 ⟨hr,I4⟩=>?_;subst hr;subst a;obtain⟨m,hn,_⟩:=I4.loc;have hD3:=I4.pin (s2.heap.objs.size,tw P) (bu _ bh);have u1:Un (Ab X.stack) fp H2 H3 s2.heap s4.heap:=by
    have B:=I4.base;have nD:∀b o,s2.heap.get? b=some o->b∉fp->b∉s2.heap.objs.size::fp:=λb o e h z=>by
     rcases aF.mp z with q|q
     .exact absurd (aL e) (by rw[q];exact a9 _)
     .exact h q
    exact⟨λb o e n h hx=>B.keep b o (ae _ e) n h (nD b o e hx),λb o e n h hx=>B.slot b o (ae _ e) n h (nD b o e hx),
     λb o e n hx=>B.free b o (ae _ e) n (nD b o e hx),λb o e hx=>B.there b o (ae _ e) (nD b o e hx),B.tups,B.frzs,B.tbls⟩
   have I5:=l.call' I4.os u1 I4.hok I4.bare λb h=>let ⟨_,f1,_,f3,f4,f5⟩:=f2 b h;⟨f3,f1,f4,f5⟩;have I6:eO X eh σ (fN H3 s2.heap.objs.size (.lst S)) s4:=I5.track hD3.2.1 (.inr l.sz) (Ne.symm (aM l.lt)) (λx c e z=>absurd (cellLt x c e) (by rw[z];exact a9 _))
    (λp f=>aM (t p f)) ⟨hz,P,P.length,rv,hD3.1⟩
   refine fin _ _ m _ s4 hn ⟨?_,?_,?_,.inr (cj l.sz),λx c e z=>?_,λp f=>?_⟩ I6 (qn _ hD3.2.1)
   .rw[eM (Ne.symm DC)];exact I4.free
   .exact Ne.symm (aM (b9 l.lt))
   .exact l.nofs (bF _)
   .exact absurd (cellLt x c e) (by rw[z];exact ck.mpr (bF _))
   .exact aM (b9 (t p f))
  .have hd:=T.item X' (by subst a;rfl) (by subst a;rfl) (by subst a;rfl) hcX i _ s3 _ H3 (λ_ _=>False) I3 (stat fr3) st3 go;rw[hA]at hd;refine gZ hd λr s4 ⟨u,hr,h4⟩=>?_;subst hr;refine gZ h4 λ_ s5 ⟨x,H5,I5,r5,y5,st5,fr5⟩=>?_;have I5':=I5.pinned (stat fr5) (T.obj _ _ st5);have hM:model X'.prog X'.w=model X.prog X.w:=by subst a;rfl
   have hE:X'.xe=λ_ _=>False:=by subst a;rfl
   have a6:=hg _ s5 _ H5 x u _ I5' r5 (hgk x _ H5 _ (step x H5 y5));rw[hM,hA,hE]at a6;refine gZ a6 λ_ s6 ⟨σ6,H6,I6,agr,q6⟩=>?_;have a7:=hif _ s6 σ6 H6 _ I6 q6;rw[hM,hA,hE]at a7;refine gZ a7 λok s7 ⟨H7,I7,q7⟩=>?_;have back:∀{U:Sq} {s:Hp} {pl:List (Addr×Obj)},eO X' pl σ6 s U->eO X' pl (pull ix σ) s U:=λ{U s pl} I=>by
    refine I.weak ?_ λk v e=>?_
    .have e1:=I.len;have e2:=I3.len;rw[e1,e2]
    .obtain⟨j,ej,_⟩:=xu e;rw[agr k j ej];exact e
   have held:∀{U:Sq} {s:Hp},eO X' ([(s2.heap.objs.size,tw P)]++rX fp s5.heap) σ6 s U->tn (i+1) U.heap/\∀b∈fp,s b=none:=λ{U s} I=>by refine⟨T.keep _ _ _ st5 λb h o e=>(I.pin (b,o) (bu _ (bu _ (l7 h e)))).1,λb h=>?_⟩;obtain⟨o,e,_⟩:=T.obj _ _ st5 b h;exact (I.pin (b,o) (bu _ (bu _ (l7 h e)))).2.1
   cases ok with
   |false=>rw[aR aH]at q7 ⊢;obtain⟨m',hm,w7⟩:=q7;obtain⟨k1,k2⟩:=held I7;exact⟨m',hm,i+1,S,P,H7,(back I7).unpinned,rv,hz,k1,k2,w7⟩
   |true=>
    rw[aQ rfl]at q7 ⊢;have a8:=he _ s7 σ6 H7 _ I7 q7;rw[hM,hA,hE]at a8;refine gZ a8 λy s8 ⟨yv,H8,I8,r8,m',hm,w8⟩=>?_;obtain⟨k1,k2⟩:=held I8;have Z:=I8.pin (s2.heap.objs.size,tw P) (bu _ (ay _ bh));have hl:=rv.length;refine append_at Z.1 λh9 sb hD9=>?_;have I9:eO X' [] (pull ix σ) H8 s8:=(back I8).pins_of λp f=>by simp at f
    have I10:=I9.turned (t':=s8.toks) (λb o h e=>sb.extBut b o h e) Z.2.1 Z.2.2.1 (.inl (by subst a;exact bh))
     (λx c e z=>by
      subst a;rcases Y x c e with q|⟨q,_⟩
      .exact absurd (cellLt x c q) (by rw[z];exact a9 _)
      .rw[z]at q;omega) (λp f z=>by
      subst a;rcases ai.mp f with f|f
      .exact absurd (t p f) (by rw[z];exact a9 _)
      .simp at f)
    have e9:h9.get? s2.heap.objs.size=some (tw (P++[y])):=by rw[hD9];simp
    refine⟨m',hm,i+1,S++[yv],P++[y],H8,I10.pins_of λp f=>?_,rv.append (.cons r8 .nil),by rw[aT,bS];omega,?_,k2,w8⟩
    .have e:p=(s2.heap.objs.size,tw (P++[y])):=by simpa using f
     subst e;exact⟨e9,Z.2.1,Z.2.2.1,Z.2.2.2.1,λv z=>by cases z⟩
    .exact T.keep _ _ _ k1 λb h o e=>sb.extBut b o (aM (hlt b h)) e
 have loop':=loop;subst a;exact codeAny_compStart_list loop (T.self X.A 0 _ _ _ (T.keep _ _ _ st2 λb _ o e=>old b o e) loop')
def K4(n:X.calm=true)(R:PI X tg iter wi)(L:wG X scope N ix)(j:lX ix g)
  (c:∀C a H d k,PG (j9 X N scope C a H d k) tg g/\BM (j9 X N scope C a H d k) ifs tt/\PE (j9 X N scope C a H d k) elt te)
  (y:∀x,foldedSetIterable iter X.env x=pure x:=by intro _;rfl):PE X (.ListComp elt [⟨tg,iter,ifs,0⟩] scope pos) (Cc ix wi g tt te):=by
 intro z s w H Q I h;rw[eval_ListComp];refine wpAny_comprehension_free rfl y (nC L.fre) L.kind L.names (gZ (R z s w H _ I h) λv s1 l=>gZ l λE s2 A=>?_);obtain⟨it,Y,S,J,U,e,r,T,i,u,W,⟨m0,p⟩,turn⟩:=A;subst e;refine AB n L j c r T i u p turn λD C m P Z K f B q=>?_;refine⟨m,K,λh' t=>⟨.ref D,P,B.turned (λb o F e=>t.extBut b o F e) f.1 f.2.1 f.2.2.2.1 f.2.2.2.2.1 f.2.2.2.2.2,rfl,q⟩⟩
end
end L2
namespace L2
open PySem PySem.Spec PyProof.Rows
structure eU(K:W.Frag)(mg:Str->Option Value)(x:Str)(st:Stmt):Prop where
 ex:∃f fd,Fu K x x st f fd/\mg x=some (.ref f)
def Ku{K:W.Frag}{st:Stmt}{kV d g b e:Vq}(X:K.In h)(G:h.Ns mainGlobals mg)
  (a:W.nsIn K mainGlobals x=some (some (.ref f)))
  (l:K.lookup f=some ⟨oc,od,.func (W.fnOf x x (gK st) (fw st) (eG st) .none kV d g an b e),osl⟩)
  (c:W.codeIn K b x=true) (k:W.keepIn K (.ref f)=true):eU K mg x st:=⟨f,_,yn l c k,W.mg_of X G a⟩
structure iS(P:Program)(w:World)(K:W.Frag)(mg:Str->Option Value)(base:Heap)(x:Str)(k:Nat)(sp:Sp):Prop where
 ex:∃f fd ps,ku P w K mg base nH k f fd ps sp/\mg x=some (.ref f)/\W.keepIn K (.ref f)=true/\mG K fd ps []
def iS.mono{K:W.Frag}(h:iS P w K mg base x j sp)(d:j<=k):iS P w K mg base x k sp:=
 let ⟨f,fd,ps,F,a,b,c⟩:=h.ex
 ⟨f,fd,ps,F.mono d,a,b,c⟩
def zH{K:W.Frag}{st:Stmt}(D:eU K mg x st)(S:fK N ps (eG st))
  (i:∀(kV d j:Vq) (l:Oq Addr) (a g:Vq) (us:List Vq),us.length=ps.length->bindArgs (W.fnOf x x (gK st) (fw st) (eG st) .none kV d j l a g) ⟨us,[]⟩=pure (ps.zip us))
  (e:∀vs H Q E,sp vs H Q E->vs.length=ps.length)
  (b:∀f a A c s H vs Q E,fP k (A.deeper (envOfC x (eG st) s.heap.objs.size f a))->sp vs H Q E->
   ∃t,v9 (kx nH P w K mg base N x (eG st) f a A c s H E).nox (fw st) t/\t {nx:=λ_ n=>Q .non n,rt:=Q} (iM N vs) H):iS P w K mg base x (k+1) sp:=by
 obtain⟨f,h,F,m⟩:=D.ex;exact⟨f,h,ps,F.ok S e (b f),m,F.kp,F.binds i⟩
section
variable {X:Cx}{x:Str}{k:Nat}{sp:Sp}{e:Expr}{es:List Expr}{t:TA}{p pos:Pos}
def we(h:iS X.prog X.w X.K X.mg X.base x k sp)(j:fP k X.A)(m:PA X (e::es) t)(l:Gl X x:=by rfl)
  (g:(x==("__debug__" : Str))=false:=by decide) (i:starEach (e::es) X.env=(false,eval e X.env)::starEach es X.env:=by rfl) (d:(backTo pos (starEach es X.env)).any (·.1)=false:=by rfl) :
  PE X (.Call (.Name x p) (e::es) [] pos) (uF sp [] E0 t):=by
 obtain⟨f,n,o,F,a,b,c⟩:=h.ex;exact Gg F j l a b c .nil Ek m g i d
end
def GF:mJ X (binaryOp .Mult) (rI (λi j=>PySem.IntMulOk i j) λi j=>.int (i*j)):=KO λ_ _ _ _ _ _ _ a q=>mul_int q a
def Ct:mJ X (binaryOp .FloorDiv) (rI (λi j=>j≠0/\Builtin.divisionGoesByPylong i j=false) λi j=>.int (i.fdiv j)):=KO λ_ _ _ _ _ _ _ a q=>floordiv_int a.1 q (.inl a.2)
end L2
namespace L2
open PySem PySem.Spec PyProof.Rows PySem.W PySem.Calls
theorem tZ:∀{a:List Addr} {us:List Vq},fu (a.map V.ref) us->us=a.map Value.ref
 |[],_,.nil=>rfl
 |d::a,u::us,.cons r t=>by have e:=r;rw[e,tZ t];rfl
end L2
namespace L2
open PySem PySem.Spec PyProof.Rows PySem.W
mutual
inductive DV(K:Frag)(H:Hp):V->PyData->Prop
 |non:DV K H .non .none
 |bl (b:Bool):DV K H (.bl b) (.bool b)
 |int (i:Int):DV K H (.int i) (.int i)
 |str (x:Str):DV K H (.str x) (.str x)
 |lst {a:Addr} {xs:List V} {ds:List PyData} (h:iJ K H a xs) (hs:wY K H xs ds):DV K H (.ref a) (.list ds)
 |tup {a:Addr} {xs:List V} {ds:List PyData} (h:jV K H a xs) (hs:wY K H xs ds):DV K H (.ref a) (.tuple ds)
inductive wY(K:Frag)(H:Hp):List V->List PyData->Prop
 |nil:wY K H [] []
 |cons {v:V} {d:PyData} {vs:List V} {ds:List PyData} (h:DV K H v d) (hs:wY K H vs ds):wY K H (v::vs) (d::ds)
end
section
variable {X:Cx}{eh:List (Addr×Obj)}{σ:St}{H:Hp}{s:Sq}
mutual
theorem DV.reads(I:eO X eh σ H s):∀{v} {d} {u},DV X.K H v d->fO v u->∃as,Reads s.heap u d as
 |_,_,_,.non,r=>by cases r;exact⟨_,.none⟩
 |_,_,_,.bl b,r=>by cases r;exact⟨_,.bool b⟩
 |_,_,_,.int i,r=>by obtain⟨t,rfl⟩:=r;exact⟨_,.int i t⟩
 |_,_,_,.str x,r=>by obtain⟨t,rfl⟩:=r;exact⟨_,.str x t⟩
 |_,_,_,.lst h hs,r=>by cases r;obtain⟨j,g,⟨o,n,e,c,k,a⟩,_⟩:=I.list h;obtain⟨as,f⟩:=wY.reads I hs g;exact⟨_,.list e c a (by simpa using f)⟩
 |_,_,_,.tup h hs,r=>by cases r;obtain⟨j,g,⟨o,e,c,n,a⟩,_⟩:=I.tuple h;obtain⟨as,f⟩:=wY.reads I hs g;exact⟨_,.tuple e c a (by simpa using f)⟩
theorem wY.reads(I:eO X eh σ H s):∀{vs} {ds} {us},wY X.K H vs ds->fu vs us->∃as,ReadsAll s.heap us ds as
 |_,_,_,.nil,r=>by cases r;exact⟨_,.nil⟩
 |_,_,_,.cons h hs,r=>by
  cases r with
  |cons r1 r2=>obtain⟨as,b⟩:=DV.reads I h r1;obtain⟨bs,a⟩:=wY.reads I hs r2;exact⟨_,.cons b a⟩
end
def yq(K:Frag)(neg:Bool):R2:=λx y H Q=>∃a b,DV K H x a/\DV K H y b/\(a.canLay0=true/\b.canLay0=true/\a.depth<=100)/\Q (.bl (if neg then !PyData.eqv a b else PyData.eqv a b)) H
def C8(n:X.A.units+200<cLine):mJ X (compareOp .Eq) (yq X.K false):=by intro l s k H x y v u Q I g e h;obtain⟨m,j,c,i,⟨b,d,o⟩,q⟩:=h;obtain⟨as,f⟩:=c.reads I g;obtain⟨bs,a⟩:=i.reads I e;exact SeqAt.eqOverData _ _ _ _ _ _ _ _ _ _ _ _ f a b d (by omega) ⟨.bl _,H,I,rfl,q⟩
def Eu(n:X.A.units+200<cLine):mJ X (compareOp .NotEq) (yq X.K true):=by intro l s k H x y v u Q I g e h;obtain⟨m,j,c,i,⟨b,d,o⟩,q⟩:=h;obtain⟨as,f⟩:=c.reads I g;obtain⟨bs,a⟩:=i.reads I e;exact SeqAt.neOverData _ _ _ _ _ _ _ _ _ _ _ _ f a b d (by omega) ⟨.bl _,H,I,rfl,q⟩
def L7(a:fP k A):A.units+200<cLine:=by have:=a.un;omega
end
end L2
namespace L2
open PySem PySem.Spec PyProof.Rows
theorem wa:∀{bs:List Bool} {us:List Vq},fu (bs.map V.bl) us->us=bs.map Value.bool
 |[],_,.nil=>rfl
 |b::bs,u::us,.cons r t=>by have e:=r;rw[e,wa t];rfl
theorem oo:∀{ns} {us},fu (ns.map V.int) us->IntsAre us ns
 |[],_,.nil=>.nil
 |n::ns,u::us,.cons r t=>by obtain⟨a,e⟩:=(r);rw[e];exact .cons n a (oo t)
def AU{bs:List Bool}:(List.range bs.length).all (λi=>bs.getD i false)=bs.all id:=by
 induction bs with
 |nil=>rfl
 |cons b bs ih=>rw[az,cm,bN,cn,bN,<-ih];rfl
def uy{bs:List Bool}:(List.range bs.length).any (λi=>bs.getD i false)=bs.any id:=by
 induction bs with
 |nil=>rfl
 |cons b bs ih=>rw[az,cm,bO,cq,bO,<-ih];rfl
section
variable {X:Cx}
def A0{bs:List Bool}:TruthOf prog w A (λi v=>(bs.map Value.bool).toArray[i]? = some v) (λi=>bs.getD i false):=λi v s Q E d c=>by
 have e:(bs.map Value.bool)[i]? = some v:=by simpa using d
 rw[aw]at e;cases a:bs[i]? with
 |none=>rw[a]at e;cases e
 |some b=>
  rw[a]at e;cases e;have:bs.getD i false=b:=by rw[af,a];rfl
  dsimp only at c;rw[this]at c;exact ao c
def DB(f:X.calm=true):i7 X (.builtin "all") (λd H Q=>∃(p:Addr) (bs:List Bool),d=[.ref p]/\iJ X.K H p (bs.map V.bl)/\Q (.bl (bs.all id)) H):=by
 intro w s v H d x Q I r h;obtain⟨p,bs,rfl,g,q⟩:=h;obtain⟨u,rfl,l⟩:=oK r;cases l;obtain⟨j,m,a,y⟩:=I.list g;have e:=wa m;subst e;have c:p<s.heap.objs.size:=by obtain⟨_,e,_⟩:=a.isList;exact aL e
 refine call_all_walk (wpAny_pyIter_list a.isList ⟨s.heap.objs.size,_,_,_,_,_,λi=>bs.getD i false,rfl,Walks.list (A:=X.A.in1) (I.ok.hd f) _ p (aM c) _,⟨⟨_,au _ rfl,rfl,rfl⟩,a.isList.push _⟩,A0,λB t n=>?_⟩);refine⟨.bl _,H,I.kept (λb o e=>n b o ?_ (ae _ e)),rfl,?_⟩
 .intro k;have:=aL e;have z:b=s.heap.objs.size:=by simpa using k
  rw[z]at this;exact a9 _ this
 .rw[<-AU]at q;simpa using q
def Cj(g:X.calm=true):i7 X (.builtin "sum") (λc H Q=>∃(p:Addr) (b:LI),c=[.ref p]/\iJ X.K H p (b.map V.int)/\Q (.int b.sum) H):=by intro v s t H c w Q I r h;obtain⟨p,b,rfl,i,q⟩:=h;obtain⟨u,rfl,k⟩:=oK r;cases k;obtain⟨a,l,j,x⟩:=I.list i;have f:=oo l;obtain⟨c,e⟩:=f.allInts.items;have d:=j.isList;rw[e]at d;refine sum_intListG (I.ok.hd g) d λy o n m=>⟨.int b.sum,H,I.kept m,⟨n,?_⟩,q⟩;rw[preSum_eq,cu (by simp),<-nums_intItems,<-e,show a.toArray.toList=a from rfl,f.numsOf]
def sq:bootBuiltins "all" = some (.builtin "all"):=by decide +kernel
def sA:bootBuiltins "any" = some (.builtin "any"):=by decide +kernel
def Ee:bootBuiltins "sum" = some (.builtin "sum"):=by decide +kernel
end
end L2
namespace L2
open PySem PySem.Spec PyProof.Rows
def gN(b:Bool)(h:Heap)(l:Addr)(a:Array Vq):Prop:=if b=true then h.IsTuple l a else h.IsList l a
def jD(b:Bool)(h:Heap)(it l:Addr)(k:Nat):Prop:=if b=true then h.IsTupleIter it l k else h.IsListIter it l k
noncomputable def rR(b:Bool):String:=if b=true then "tuple_iterator" else "list_iterator"
def jD.look(x:jD b h it l k):∃o,h.get? it=some o/\o.cls=.type (rR b)/\o.data=.fields #[.ref l,.int k 0]:=by
 cases b with
 |true=>exact (x)
 |false=>exact (x)
def jD.of{k:Nat}(x:∃o,h.get? it=some o/\o.cls=.type (rR b)/\o.data=.fields #[.ref l,.int k 0]):jD b h it l k:=by
 cases b with
 |true=>exact x
 |false=>exact x
def jD.to(x:jD b h it l k)(e:∀o,h.get? it=some o->h'.get? it=some o):jD b h' it l k:=by obtain⟨o,a,q⟩:=x.look;exact .of ⟨o,e o a,q⟩
def gN.look(x:gN b h l xs):∃o n,h.get? l=some o/\o.data=.seq xs n:=by
 cases b with
 |true=>obtain⟨o,a,_,n,c⟩:=(x);exact⟨o,n,a,c⟩
 |false=>obtain⟨o,a,_,n,c⟩:=(x);exact⟨o,n,a,c⟩
def gN.to(x:gN b h l xs)(e:∀o,h.get? l=some o->h'.get? l=some o):gN b h' l xs:=by
 cases b with
 |true=>obtain⟨o,a,q⟩:=(x);exact⟨o,e o a,q⟩
 |false=>obtain⟨o,a,q⟩:=(x);exact⟨o,e o a,q⟩
section
variable {prog:Program}{w:World}{A:Around}{E:Vq->Shared->Prop}{s:Sq}
theorem Ha(f:s.heap.IsTupleIter it l k)(j:s.heap.IsTuple l xs)
  (g:∀x h',xs[k]? = some x->h'.IsTupleIter it l (k+1)->Heap.SameBut it s.heap h'->Q x {s with heap:=h'})
  (d:xs[k]? = none->A.handled=none/\∀h' e,Heap.ExtBut it s.heap h'->(∃o,h'.get? e=some o/\o.cls=.type "StopIteration")->E (.ref e) {s with heap:=h'}) :
  wpAny (model prog w) A (Builtin.SmallTypes.nextOf (.ref it)) Q E s:=by
 obtain⟨r,b,m,a⟩:=id f;obtain⟨q,i,_,n,p⟩:=j;unfold Builtin.SmallTypes.nextOf;refine aq (wpAny_callSpecial?_slot f.typeIs F.slot_tuple_iterator_next (wpAny_call_entry F.slot_tuple_iterator_next f.typeIs F.entry_tuple_iterator_next ?_ (F.args_tuple_iterator_next_1 _)));show wpAny _ _ (field (.ref it) 0 >>= _) _ _ s;refine aq (wpAny_field b a rfl ?_);have ne:(Value.ref l==Value.none)=false:=rfl;simp only[ne,bX,if_false];refine aq (wpAny_field b a rfl (aq (wpAny_seqItems i p ?_)));cases c:xs[k]? with
 |some x=>simp only[bJ,c];refine aq (wpAny_setField b a (by simp) (ao ⟨x,rfl,ao (g x _ c ?_ (Heap.SameBut.update ..))⟩));refine⟨_,Heap.get?_update_self _ b (Obj.isFreed_of_fields (Obj.data_mapFields a _)),(Obj.cls_mapFields ..).trans m,?_⟩;rw[Obj.data_mapFields a];simp[rawInt]
 |none=>obtain⟨h,d⟩:=d c;simp only[bJ,c];refine aq (wpAny_rule (aq (wpAny_setField b a (by simp) ?_)));show wpAny _ _ (newExc (.type "StopIteration") [] >>= _) _ _ _;simp only[newExc,newTuple];refine aq (aq (wpAny_newObj_type (aq (wpAny_of_eq (by first|rfl|(simp only[firstArgMember];rfl)) (wpAny_newObj_type ?_ (by size_fits)))) (by size_fits)));simp only[raiseNew];refine aq (wpAny_handled ?_);rw[show A.in1.handled=none from h];refine aq (ao (wpAny_throw ?_));exact d _ _ (((Heap.SameBut.update ..).extBut.push _).push _) ⟨_,au _ rfl,rfl⟩
theorem sP(j:jD b s.heap it l k)(i:gN b s.heap l xs)
  (h:∀x h',xs[k]? = some x->jD b h' it l (k+1)->Heap.SameBut it s.heap h'->Q x {s with heap:=h'})
  (g:xs[k]? = none->A.handled=none/\∀h' e,Heap.ExtBut it s.heap h'->(∃o,h'.get? e=some o/\o.cls=.type "StopIteration")->E (.ref e) {s with heap:=h'}) :
  wpAny (model prog w) A (Builtin.SmallTypes.nextOf (.ref it)) Q E s:=by
 cases b with
 |true=>exact Ha j i h g
 |false=>
  have d:=j;have c:=i;cases f:xs[k]? with
  |some x=>exact wpAny_nextOf_list_item d c f λh' a b=>h x h' f a b
  |none=>obtain⟨m,g⟩:=g f;exact wpAny_nextOf_list_end m d c f g
def DM{z TI TO B H U S:Addr}{Q:Vq->Shared->Prop}(D:ZipApart z TI TO B H U S)
  (K:IsZip s.heap z TI TO .none) (hTI:IsPair s.heap TI (.ref B) (.ref H)) (hTO:IsPair s.heap TO a b)
  (h1:jD b1 s.heap B U k) (h2:jD b2 s.heap H S k) (Z:gN b1 s.heap U xs) (X:gN b2 s.heap S ys)
  (yes:∀x y h',xs[k]? = some x->ys[k]? = some y->IsZip h' z TI TO (rawInt s.heap.objs.size)->IsPair h' TO x y->jD b1 h' B U (k+1)->jD b2 h' H S (k+1)->IsPair h' s.heap.objs.size x y->h'.objs.size=s.heap.objs.size+1->
   (∀c o,c≠z->c≠TO->c≠B->c≠H->s.heap.get? c=some o->h'.get? c=some o)->Q (.ref s.heap.objs.size) {s with heap:=h'})
  (L:xs[k]? = none\/ys[k]? = none->A.handled=none/\∀h' e,(∀c o,c≠z->c≠TO->c≠B->c≠H->s.heap.get? c=some o->h'.get? c=some o)->(∃o,h'.get? e=some o/\o.cls=.type "StopIteration")->E (.ref e) {s with heap:=h'}) :
  wpAny (model prog w) A (Builtin.«zip.__next__» ⟨[.ref z],[]⟩) (λfin s'=>∃v,fin=.done (.ret v)/\Q v s') E s:=by
 have t:∀{h:Heap} {e:Addr} {F:Obj} {f:Vq},IsZip h z TI TO f->h.get? e=some F->F.cls=.type "StopIteration" ->e≠z:=λ{h e F f} q ge ce u=>by subst u;rw[q]at ge;cases ge;simp at ce
 show wpAny _ _ (field (.ref z) 2 >>= λ_=>_) _ _ _;refine aq (wpAny_field K rfl rfl ?_);refine aq (wpAny_field K rfl rfl (aq (wpAny_seqItems hTI rfl ?_)));unfold Builtin.SmallTypes.ownedTupleIsFree;refine aq (aq (wpAny_field K rfl rfl (ao ?_)));simp only[if_true];refine aq (wpAny_rule (aq (wpAny_field K rfl rfl (aq (wpAny_setField_rec K (by simp) λg1 y1 J=>?_)))));have Y:=y1;simp only[List.zipIdx_cons,List.zipIdx_nil,bW,cf];refine aq (aq (aq (wpAny_onRaise ?_)));refine aq (sP (h1.to λo e=>J.extBut _ _ D.i1z e) (Z.to λo e=>J.extBut _ _ D.l1z e) (λx g2 R t2 C=>ao ?_) (λR=>⟨(L (.inl R)).1,λg2 e C ⟨F,ge,ce⟩=>?_⟩))
 .have p2:=C.extBut _ _ D.TOi1 (J.extBut _ _ D.TOz hTO);refine aq (wpAny_seqItems p2 rfl (aq (wpAny_updateSeq_pair p2 λg3 q3 m=>?_)));have p3:=q3;refine aq (wpAny_letGo (ao (aq (aq (wpAny_onRaise ?_)))));have j:∀c o,c≠z->c≠B->c≠TO->s.heap.get? c=some o->g3.get? c=some o:=λc o d i g e=>m.extBut _ _ g (C.extBut _ _ i (J.extBut _ _ d e));refine aq (sP (h2.to λo e=>j _ o D.i2z D.i12.symm D.TOi2.symm e) (X.to λo e=>j _ o D.l2z D.l2i1 D.l2TO e) (λy g4 P t4 r=>ao ?_) (λP=>⟨(L (.inr P)).1,λg4 e r ⟨F,ge,ce⟩=>?_⟩))
  .have p4:=r.extBut _ _ D.TOi2 p3;refine aq (wpAny_seqItems p4 rfl (aq (wpAny_updateSeq_pair p4 λn q5 p=>?_)));have p5:IsPair n TO x y:=q5;refine aq (wpAny_letGo (ao (ao (aq (wpAny_seqItems p5 rfl (aq (wpAny_newTuple ?_)))))));have sz:n.objs.size=s.heap.objs.size:=by rw[p.1,r.1,m.1,C.1,J.1]
   have z5:=p.extBut _ _ D.TOz.symm (r.extBut _ _ D.i2z.symm (m.extBut _ _ D.TOz.symm (C.extBut _ _ D.i1z.symm Y)));have to5:∀c o,c≠z->c≠TO->c≠B->c≠H->s.heap.get? c=some o->n.get? c=some o:=λc o d i g I e=>p.extBut _ _ i (r.extBut _ _ I (j c o d g i e));unfold Builtin.SmallTypes.ownedTupleHandOut;refine aq (aq (wpAny_setField_rec (ae _ z5) (by simp) λg7 y7 k7=>?_));have z7:=y7;refine wpAny_setField_rec z7 (by simp) λN y8 k8=>?_;have z8:=y8;have up:∀c o,c≠z->(n.push {cls:=.type "tuple",data:=.seq #[x,y]}).get? c=some o->N.get? c=some o:=λc o d e=>k8.extBut _ _ d (k7.extBut _ _ d e);have l:∀c o,c≠z->n.get? c=some o->N.get? c=some o:=λc o d e=>up c o d (ae _ e);have p8:=up _ _ (br (aL z5)) (au _ rfl);have s8:N.objs.size=n.objs.size+1:=by rw[k8.1,k7.1,Heap.size_push]
   rw[sz]at z8 p8 s8;refine ao ⟨_,rfl,?_⟩;rw[sz];have e1:=t2.to λo e=>l _ o D.i1z (p.extBut _ _ D.TOi1.symm (r.extBut _ _ D.i12 (m.extBut _ _ D.TOi1.symm e)));have e2:=t4.to λo e=>l _ o D.i2z (p.extBut _ _ D.TOi2.symm e);exact yes x y N R P z8 (l _ _ D.TOz p5) e1 e2 p8 s8 λc o d i g I e=>l c o d (to5 c o d i g I e)
  .have z4:=r _ _ D.i2z.symm (m.extBut _ _ D.TOz.symm (C.extBut _ _ D.i1z.symm Y));refine wpAny_setField_rec z4 (by simp) λn _ p=>(L (.inr P)).2 n e (λc o d i g I q=>p.extBut _ _ d (r _ _ I (j c o d g i q))) ⟨F,p.extBut _ _ (t z4 ge ce) ge,ce⟩
 .have z2:=C _ _ D.i1z.symm Y;refine wpAny_setField_rec z2 (by simp) λg3 _ m=>(L (.inl R)).2 g3 e (λc o d i g I q=>m.extBut _ _ d (C _ _ g (J.extBut _ _ d q))) ⟨F,m.extBut _ _ (t z2 ge ce) ge,ce⟩
def wj{z TI TO d f g h:Addr}(D:ZipApart z TI TO d f g h)
  (r:IsZip s.heap z TI TO .none) (j:IsPair s.heap TI (.ref d) (.ref f)) (i:IsPair s.heap TO a b)
  (t:jD b1 s.heap d g k) (C:jD b2 s.heap f h k) (m:gN b1 s.heap g xs) (l:gN b2 s.heap h ys)
  (n:∀x y h',xs[k]? = some x->ys[k]? = some y->IsZip h' z TI TO (rawInt s.heap.objs.size)->IsPair h' TO x y->jD b1 h' d g (k+1)->jD b2 h' f h (k+1)->IsPair h' s.heap.objs.size x y->h'.objs.size=s.heap.objs.size+1->
   (∀c o,c≠z->c≠TO->c≠d->c≠f->s.heap.get? c=some o->h'.get? c=some o)->Q (some (.ref s.heap.objs.size)) {s with heap:=h'})
  (p:xs[k]? = none\/ys[k]? = none->A.handled=none/\∀h',(∀c o,c≠z->c≠TO->c≠d->c≠f->s.heap.get? c=some o->h'.get? c=some o)->Q none {s with heap:=h'}) :
  wpAny (model prog w) A (pyNext (.ref z)) Q E s:=by
 have ty:s.TypeIs (.ref z) "zip" :=⟨_,r,rfl⟩;unfold pyNext;refine aq (wpAny_attempt (wpAny_callSpecial?_slot ty F.slot_zip_next (wpAny_call_entry F.slot_zip_next ty F.entry_zip_next
  (DM D r j i t C m l (λx y h' K u v J N L H B I=>ao (n x y h' K u v J N L H B I)) λq=>⟨(p q).1,λh' e hk ⟨o,ho,hc⟩=>?_⟩) (F.args_zip_next_1 _))))
 exact aq (wpAny_isInstance ⟨o,ho,hc⟩ isSubtype_stop (ao ((p q).2 h' hk)))
theorem lL(a:gN b s.heap l xs)
  (h:Q (.ref s.heap.objs.size) {s with heap:=s.heap.push {cls:=.type (rR b),data:=.fields #[.ref l,.int 0 0]}}):wpAny (model prog w) A (pyIter (.ref l)) Q E s:=by
 cases b with
 |true=>exact wpAny_pyIter_tuple (a) h
 |false=>exact wpAny_pyIter_list (a) h
end
noncomputable abbrev zo(b:Bool)(l:Addr):Obj:={cls:=.type (rR b),data:=.fields #[.ref l,.int 0 0]}
abbrev zt(x y:Vq):Obj:={cls:=.type "tuple",data:=.seq #[x,y]}
abbrev zz(p q:Addr):Obj:={cls:=.type "zip",data:=.fields #[.none,.bool false,.bool false,.ref p,.ref q]}
noncomputable abbrev vC(b1 b2:Bool)(h:Heap)(l1 l2:Addr):Heap:=
 ((((h.push (zo b1 l1)).push (zo b2 l2)).push (zt (.ref h.objs.size) (.ref (h.push (zo b1 l1)).objs.size))).push (zt .none .none)).push
  (zz ((h.push (zo b1 l1)).push (zo b2 l2)).objs.size (((h.push (zo b1 l1)).push (zo b2 l2)).push (zt (.ref h.objs.size) (.ref (h.push (zo b1 l1)).objs.size))).objs.size)
section
variable {prog:Program}{w:World}{A:Around}{E:Vq->Shared->Prop}{s:Sq}
def A8 b1 b2 l1 l2 xs ys:Meets (Builtin.«zip.__new__» ⟨[.type "zip",.ref l1,.ref l2],[]⟩) (λ_ R s=>gN b1 s.heap l1 xs/\gN b2 s.heap l2 ys/\
  R (.ok (.ret (.ref ((((s.heap.push (zo b1 l1)).push (zo b2 l2)).push (zt (.ref s.heap.objs.size) (.ref (s.heap.push (zo b1 l1)).objs.size))).push (zt .none .none)).objs.size))) {s with heap:=vC b1 b2 s.heap l1 l2}):=by
 refine .of_wp λprog w A R s h=>?_;obtain⟨l,g,d,j,c⟩:=s;obtain⟨f,a,k⟩:=h;have sz:=sub_zip;have b:=f;have i:gN b2 (Shared.heap ⟨l.push (zo b1 l1),g,d,j,c⟩) l2 ys:=a.to λo e=>ae _ e;wp_walk using lL b,lL i;exact⟨_,rfl,k⟩
def EN(k:gN b1 s.heap l1 xs)(i:gN b2 s.heap l2 ys)
  (h:∀h',IsZip h' (s.heap.objs.size+4) (s.heap.objs.size+2) (s.heap.objs.size+3) .none->IsPair h' (s.heap.objs.size+2) (.ref s.heap.objs.size) (.ref (s.heap.objs.size+1))->IsPair h' (s.heap.objs.size+3) .none .none->
   jD b1 h' s.heap.objs.size l1 0->jD b2 h' (s.heap.objs.size+1) l2 0->h'.objs.size=s.heap.objs.size+5->(∀c o,s.heap.get? c=some o->h'.get? c=some o)->Q (.ref (s.heap.objs.size+4)) {s with heap:=h'}) :
  wpAny (model prog w) A (call (.type "zip") [.ref l1,.ref l2]) Q E s:=by
 refine callType_new F.called_zip (by decide) (F.typeCall_zip_2 _ _) (F.newCall_zip_2 _ _) (λd=>F.args_object_init_3 d _ _) F.entry_zip_new (A8 b1 b2 l1 l2 xs ys) ⟨k,i,?_⟩;generalize j:s.heap.objs.size=n at *;have b:(s.heap.push (zo b1 l1)).objs.size=n+1:=by rw[Heap.size_push,j]
 have f:((s.heap.push (zo b1 l1)).push (zo b2 l2)).objs.size=n+2:=by rw[Heap.size_push,b]
 generalize a:(s.heap.push (zo b1 l1)).push (zo b2 l2)=g2 at *;have t:∀c o,s.heap.get? c=some o->g2.get? c=some o:=λc o e=>by rw[<-a];exact ae _ (ae _ e)
 have p:g2.get? n=some (zo b1 l1):=by rw[<-a,<-j];exact ae _ (au _ rfl)
 have r:g2.get? (n+1)=some (zo b2 l2):=by rw[<-a,<-b];exact au _ rfl
 have l:(g2.push (zt (.ref n) (.ref (n+1)))).objs.size=n+3:=by rw[Heap.size_push,f]
 have g:((g2.push (zt (.ref n) (.ref (n+1)))).push (zt .none .none)).objs.size=n+4:=by rw[Heap.size_push,l]
 have u:vC b1 b2 s.heap l1 l2=((g2.push (zt (.ref n) (.ref (n+1)))).push (zt .none .none)).push (zz (n+2) (n+3)):=by unfold vC;rw[j,b,a,f,l]
 rw[u,b,g];have v:(g2.push (zt (.ref n) (.ref (n+1)))).get? (n+2)=some (zt (.ref n) (.ref (n+1))):=by rw[<-f];exact au _ rfl
 have q:((g2.push (zt (.ref n) (.ref (n+1)))).push (zt .none .none)).get? (n+3)=some (zt .none .none):=by rw[<-l];exact au _ rfl
 have m:(((g2.push (zt (.ref n) (.ref (n+1)))).push (zt .none .none)).push (zz (n+2) (n+3))).get? (n+4)=some (zz (n+2) (n+3)):=by rw[<-g];exact au _ rfl
 have up:∀c o,g2.get? c=some o->(((g2.push (zt (.ref n) (.ref (n+1)))).push (zt .none .none)).push (zz (n+2) (n+3))).get? c=some o:=λc o e=>ae _ (ae _ (ae _ e));exact⟨⟨_,m,rfl⟩,h _ m (ae _ (ae _ v)) (ae _ q) (.of ⟨_,up _ _ p,rfl,rfl⟩) (.of ⟨_,up _ _ r,rfl,rfl⟩) (by rw[Heap.size_push,g]) λc o e=>up c o (t c o e)⟩
end
end L2
namespace L2
open PySem PySem.Spec PyProof.Rows
def eO.turnedL{ch:List Addr}(I:eO X eh σ H s)(k:∀b o,b∉ch->s.heap.get? b=some o->h'.get? b=some o)(f:∀b∈ch,qH X eh H b) :
  eO X eh σ H {s with heap:=h',toks:=t'}:=by
 have d:∀b u,H b=some u->b∉ch:=λb u e z=>by rw[(f b z).1]at e;cases e
 refine I.step (λb i=>let ⟨_,f1,_,f3,f4,f5⟩:=f b i;⟨f3,f1,f4,f5⟩) (λb o _ _ a e _=>k b o a e) (λb o _ _ a e _=>⟨o.slots,k b o a e⟩) (λ_ _ _ _ n=>n)
  (λb o a e=>⟨o,k b o a e⟩) (λ_ _ e=>e) (λ_ _ _ e=>e) (λb _ p e=>⟨#[],by rw[e];simp⟩) (λm j=>?_) (λb u e=>?_) I.bare
 .obtain⟨o,g,h,l,r⟩:=j;exact⟨o,g,h,k _ o (λz=>(f _ z).2.1 rfl) l,r⟩
 .refine (I.hok b u e).stay (λc v a q=>k c v ?_ q) (λ_ q=>q) λ_ _ q=>q;rcases a with z|z
  .rw[z];exact d b u e
  .exact d c _ z
def tj(K:W.Frag)(H:Hp)(b:Bool)(a:Addr)(c:List V):Prop:=if b=true then jV K H a c else iJ K H a c
def eO.seqB(I:eO X eh σ H s)(h:tj X.K H b a xs):∃its:List Vq,fu xs its/\gN b s.heap a its.toArray/\xs.length<=sizeLine:=by
 cases b with
 |true=>obtain⟨its,r,p,z⟩:=I.tuple (h);exact⟨its,r,p,z⟩
 |false=>obtain⟨its,r,p,z⟩:=I.list (h);exact⟨its,r,p.isList,z⟩
def eO.seqB_inj(I:eO X eh σ H s)(h:tj X.K H b a xs)(h':tj X.K H b a ys):xs=ys:=by
 cases b with
 |true=>exact I.tuple_inj h h'
 |false=>exact I.list_inj h h'
noncomputable def MD(K:W.Frag)(d e:Bool)(f c:Addr):It:=
  ⟨λi H=>∃b a x y,tj K H d f b/\tj K H e c a/\b[i]? = some x/\a[i]? = some y,
   λi H v g=>∃p x y,v=.ref p/\H p=none/\g=fN H p (.tup [x,y])/\(∀b,tj K H d f b->b[i]? = some x)/\∀a,tj K H e c a->a[i]? = some y,
   λi H=>∃b a,tj K H d f b/\tj K H e c a/\(b.length<=i\/a.length<=i)⟩
def DO{K:W.Frag}{x1}{z TI TO m l l1 l2:Addr}(D:ZipApart z TI TO m l l1 l2) :
  zu P w K (.Tuple elts x1 pos) (MD K b1 b2 l1 l2) [z,TI,TO,m,l] z (λi h=>IsZip h z TI TO .none/\IsPair h TI (.ref m) (.ref l)/\(∃a b,IsPair h TO a b)/\jD b1 h m l1 i/\jD b2 h l l2 i) where
 mem:=by simp
 obj:=λi h p b f=>by
  obtain⟨n,g,⟨a,c,j⟩,t,r⟩:=p;have mem:b=z\/b=TI\/b=TO\/b=m\/b=l:=by simpa using f
  rcases mem with rfl|rfl|rfl|rfl|rfl
  .exact⟨_,n,λv q=>by cases q⟩
  .exact⟨_,g,λv q=>by cases q⟩
  .exact⟨_,j,λv q=>by cases q⟩
  .obtain⟨o,e,_,d⟩:=t.look;exact⟨o,e,λv q=>by rw[d]at q;cases q⟩
  .obtain⟨o,e,_,d⟩:=r.look;exact⟨o,e,λv q=>by rw[d]at q;cases q⟩
 keep:=λi h Z p k=>by obtain⟨n,g,⟨a,c,j⟩,t,r⟩:=p;exact⟨k z (by simp) _ n,k TI (by simp) _ g,⟨a,c,k TO (by simp) _ j⟩,t.to λo e=>k m (by simp) o e,r.to λo e=>k l (by simp) o e⟩
 item:=by
  intro X hP hw hK hc i eh s σ H E I hf p hg;subst hP hw hK;obtain⟨n,g,⟨a,c,j⟩,t,r⟩:=p;obtain⟨xs,ys,x,y,q1,Y,e1,e2⟩:=hg;obtain⟨U,r1,p1,z1⟩:=I.seqB q1;obtain⟨S,r2,p2,z2⟩:=I.seqB Y;obtain⟨u,gu,ru⟩:=r1.get e1;obtain⟨v,gv,rv⟩:=r2.get e2;have C:=I.fpOk (aK _) (I.hok.fresh (aK _));refine wj D n g j t r p1 p2 (λL R Z A B a1 a2 a3 a4 a5 a6 Q=>?_) λq=>?_
  .have eu:L=u:=by
    have:U[i]? = some L:=by simpa using A
    rw[gu]at this;cases this;rfl
   have ev:R=v:=by
    have:S[i]? = some R:=by simpa using B
    rw[gv]at this;cases this;rfl
   subst eu;subst ev;refine⟨_,rfl,wpAny_letOwnedTupleGo_zip a1 λJ F sb=>?_⟩;have zT:=br (aL n);have I1:=I.turnedL (t':=s.toks) (ch:=[z,TO,m,l]) (λb o f e=>sb.extBut _ _ (λq=>f (by simp[q])) (Q b o (λq=>f (by simp[q])) (λq=>f (by simp[q])) (λq=>f (by simp[q])) (λq=>f (by simp[q])) e))
    (λb f=>hf b (by
     have mem:b=z\/b=TO\/b=m\/b=l:=by simpa using f
     rcases mem with rfl|rfl|rfl|rfl<;>simp))
   have gT:=sb.extBut _ _ zT a5;have I2:eO X eh σ (fN H s.heap.objs.size (.tup [x,y])) {s with heap:=J}:=I1.track C.1 C.2.2.2.1 C.2.1 C.2.2.2.2.1 C.2.2.2.2.2
    ⟨by show 2<=sizeLine;decide,[L,R],.cons ru (.cons rv .nil),⟨_,gT,rfl,_,rfl,rfl⟩⟩
   have lt:∀{b o},s.heap.get? b=some o->fN H s.heap.objs.size (.tup [x,y]) b=H b:=λ{b o} e=>eM (aM (aL e));refine⟨.ref s.heap.objs.size,_,I2,rfl,⟨_,x,y,rfl,C.1,rfl,λxs' h=>by rw[I.seqB_inj h q1];exact e1,λys' h=>by rw[I.seqB_inj h Y];exact e2⟩,?_,λb f=>?_⟩
   .have k2:∀c o,c≠z->Z.get? c=some o->J.get? c=some o:=λc o c1 e=>sb.extBut _ _ c1 e;exact⟨F,k2 _ _ D.TIz (Q _ _ D.TIz D.TITO D.TIi1 D.TIi2 g),⟨_,_,k2 _ _ D.TOz a2⟩,a3.to λo e=>k2 _ o D.i1z e,a4.to λo e=>k2 _ o D.i2z e⟩
   .have mem:b=z\/b=TI\/b=TO\/b=m\/b=l:=by simpa using f
    have N:=(hf b f).1;obtain⟨o1,g1,_⟩:=t.look;obtain⟨o2,g2,_⟩:=r.look;rcases mem with rfl|rfl|rfl|rfl|rfl
    .rw[lt n];exact N
    .rw[lt g];exact N
    .rw[lt j];exact N
    .rw[lt g1];exact N
    .rw[lt g2];exact N
  .exfalso;have m1:U.toArray[i]? = some u:=by simpa using gu
   have m2:S.toArray[i]? = some v:=by simpa using gv
   rcases q with q|q
   .rw[m1]at q;cases q
   .rw[m2]at q;cases q
 done:=by
  intro X hP hw hK hc i eh s σ H E I hf p hg;subst hP hw hK;obtain⟨n,g,⟨a,c,j⟩,t,r⟩:=p;obtain⟨xs,ys,q1,Y,hl⟩:=hg;obtain⟨U,r1,p1,z1⟩:=I.seqB q1;obtain⟨S,r2,p2,z2⟩:=I.seqB Y;have n1:=r1.length;have n2:=r2.length;have fpc:∀b∈[z,TO,m,l],qH X eh H b:=λb f=>hf b (by
   have mem:b=z\/b=TO\/b=m\/b=l:=by simpa using f
   rcases mem with rfl|rfl|rfl|rfl<;>simp)
  refine wj D n g j t r p1 p2 (λL R Z A B a1 a2 a3 a4 a5 a6 Q=>?_) λq=>⟨I.ok.hd hc,λZ Q=>⟨rfl,I.turnedL (λb o f e=>Q b o (λq=>f (by simp[q])) (λq=>f (by simp[q])) (λq=>f (by simp[q])) (λq=>f (by simp[q])) e) fpc⟩⟩;exfalso;have m1:i<U.length:=by
   have:U[i]? = some L:=by simpa using A
   exact (aa.mp this).1
  have m2:i<S.length:=by
   have:S[i]? = some R:=by simpa using B
   exact (aa.mp this).1
  omega
 self:=λ_ _ _ _ _ p h=>wpAny_pyIter_zip p.1 h
def JD:bootBuiltins "zip" = some (.type "zip"):=by decide +kernel
section
variable {X:Cx}
def Jo(K:W.Frag)(d e:Bool)(f:TA):TI:=λg H R=>f g H λj c=>∃b a,j=[.ref b,.ref a]/\(∃i,tj K c d b i)/\(∃h,tj K c e a h)/\R (MD K d e b a) c
def EY{x1}(S:Gl X "zip")(F:X.mg "zip" = none)(L:PA X [a,b] ta)(A:starEach [a,b] X.env=[(false,eval a X.env),(false,eval b X.env)]:=by rfl)
  (c:starEach [b] X.env=[(false,eval b X.env)]:=by rfl):PI X (.Tuple elts x1 tpos) (.Call (.Name "zip" p) [a,b] [] pos) (Jo X.K b1 b2 ta):=by
 intro B s z H R I h;refine Call_ (n0 I S F JD (PyProof.Rows.callWith_type1 (gZ (L pos B s z H _ I h) λC s1 ⟨vs,H1,I1,r1,d⟩=>?_) (by rw[A,c]) (by rw[c];rfl)));obtain⟨v,N,rfl,⟨xs,d⟩,⟨Z,w⟩,q⟩:=d;obtain⟨u1,Y,rfl,P,y⟩:=K6 r1;cases P;cases y;obtain⟨C,u,l,_⟩:=I1.seqB d;obtain⟨ws,D,m,_⟩:=I1.seqB w;have j:v<s1.heap.objs.size:=by obtain⟨o,n,e,_⟩:=l.look;exact aL e
 have g:N<s1.heap.objs.size:=by obtain⟨o,n,e,_⟩:=m.look;exact aL e
 refine EN l m λh' t i f J U x Q=>?_;refine wpAny_pyIter_zip t ?_;refine⟨_,_,_,_,H1,rfl,I1.kept Q,DO (zipApart_new j g),⟨t,i,⟨_,_,f⟩,J,U⟩,λb E=>?_,q⟩;have k:b=s1.heap.objs.size+4\/b=s1.heap.objs.size+2\/b=s1.heap.objs.size+3\/b=s1.heap.objs.size\/b=s1.heap.objs.size+1:=by simpa using E
 have r:s1.heap.objs.size<=b:=by rcases k with rfl|rfl|rfl|rfl|rfl<;>omega
 exact I1.fpOk r (I1.hok.fresh r)
end
end L2
namespace L2
open PySem PySem.Spec PyProof.Rows
def p0(h:H p=none):eN H (fN H p o):=λb u e=>by rw[eM (eV e h)];exact .of e
def eN.seqT{K:W.Frag}(e:eN H H')(h:jV K H a xs):jV K H' a xs:=by
 rcases h with (h|⟨o,h⟩)|h
 .exact .inl (.inl (e _ _ h))
 .exact .inl (.inr ⟨o,e _ _ h⟩)
 .exact .inr h
noncomputable def vm(d:List Str)(b a:Scope)(N:List Str)(c:List (Option Nat)):Bool:=
 a.kind==.function&&a.names.all (λy=>!(y.2==NameKind.cell)||a.names.lookup y.1==some .cell)&&a.names.all (λy=>!(y.2==NameKind.local)||a.names.lookup y.1==some .local) &&
 a.names.all (λy=>!(y.2==NameKind.free)||b.names.lookup y.1==some .cell)&&N.length==c.length &&
 (List.range N.length).all (λi=>match c[i]?,N[i]? with
  |some (some j),some x=>d[j]? == some x&&a.names.lookup x==some .free&&b.names.lookup x==some .cell
  |_,_=>true)
def Lq(k:∀x,X.env.scope.names.lookup x=some .cell->∃c,X.env.cells.lookup x=some c)(h:vm X.N X.env.scope scope N ix=true):wG X scope N ix:=by
 unfold vm at h;simp only[bL]at h;obtain⟨⟨⟨⟨⟨l,p⟩,m⟩,o⟩,q⟩,s⟩:=h;refine⟨by simpa using l,λy d e=>?_,λy d e=>?_,λy d e=>?_,by simpa using q,λi j x g n=>?_⟩
 .have:=cw.mp p y d;rw[e]at this;simpa using this
 .have:=cw.mp m y d;rw[e]at this;simpa using this
 .have:=cw.mp o y d;rw[e]at this;exact k _ (by simpa using this)
 .have r:=(aa.mp g).1;have:=cw.mp s i (aS.mpr r);rw[g,n]at this;simp only[bL,beq_iff_eq]at this;obtain⟨⟨a,b⟩,c⟩:=this;exact⟨a,b,.inr (.inl c),λz=>by have f:X.env.scope.names.lookup x=some .local:=z;rw[c]at f;cases f⟩
def CZ(L:wG X scope N ix):∀x,(j9 X N scope C s₃ H ex pn).env.scope.names.lookup x=some .cell->∃c,(j9 X N scope C s₃ H ex pn).env.cells.lookup x=some c:=λx b=>by
 refine bH.mp (W.cellsFrom_some _ _ _ ?_);rcases pJ (.inl b) with a|a
 .exact .inr (bH.mpr (lO a (L.fre _ a rfl)))
 .exact .inl a
def sU{K:W.Frag}(w:ix[k]? = some none)(o:ix[l]? = some none):lX ix (Be K 2 (sC (gC k) (sC (gC l) AO))):=by
 rintro x n H Q ⟨a,g,u,m,t,v,r,d,c,b,s,f,q⟩;refine⟨a,g,u,m,t,v,r,d,c,b,s,f,λi j e=>?_,q⟩;have p:k≠i:=by rintro rfl;rw[w]at e;cases e
 have h:l≠i:=by rintro rfl;rw[o]at e;cases e
 rw[ar h,ar p]
end L2
namespace L2
open PySem PySem.Spec PyProof.Rows
structure jr(K:W.Frag)(C:Addr)(m qual:Str)(st:Stmt):Prop where
 ex:∃f fd,Fu K m qual st f fd/\G4 K C m f
structure jZ(P:Program)(w:World)(K:W.Frag)(mg:Str->Option Value)(base:Heap)(C:Addr)(m:Str)(k:Nat)(sp:Sp):Prop where
 cl:uj K C
 ex:∃f fd ps,ku P w K mg base nH k f fd ps sp/\G4 K C m f/\mG K fd ps []
def zF{K:W.Frag}{st:Stmt}(i:uj K C)(D:jr K C m qual st)(S:fK N ps (eG st))
  (j:∀(kV d l:Vq) (n:Oq Addr) (a g:Vq) (us:List Vq),us.length=ps.length->bindArgs (W.fnOf m qual (gK st) (fw st) (eG st) .none kV d l n a g) ⟨us,[]⟩=pure (ps.zip us))
  (e:∀vs H Q E,sp vs H Q E->vs.length=ps.length)
  (b:∀f a A c s H vs Q E,fP k (A.deeper (envOfC qual (eG st) s.heap.objs.size f a))->sp vs H Q E->
   ∃t,v9 (kx nH P w K mg base N qual (eG st) f a A c s H E).nox (fw st) t/\t {nx:=λ_ o=>Q .non o,rt:=Q} (iM N vs) H):jZ P w K mg base C m (k+1) sp:=by
 obtain⟨f,h,F,m⟩:=D.ex;exact⟨i,f,h,ps,F.ok S e (b f),m,F.binds j⟩
structure BG(P:Program)(w:World)(K:W.Frag)(mg:Str->Option Value)(base:Heap)(x:Str)(C:Addr)(k:Nat)(sp:Sp):Prop where
 ex:∃f fd ps,ku P w K mg base nH k f fd ps sp/\Mk K C f/\mG K fd ps []
 mgx:mg x=some (.ref C)
section
variable {X:Cx}{x m:Str}{C:Addr}{k:Nat}{sp:Sp}{e o:Expr}{es:List Expr}{t:TA}{ta:TE}{p pos apos:Pos}
def Lg(h:BG X.prog X.w X.K X.mg X.base x C k sp)(i:fP (k+1) X.A)(l:PA X (e::es) t)(j:Gl X x:=by rfl)
  (d:(x==("__debug__" : Str))=false:=by decide) (g:starEach (e::es) X.env=(false,eval e X.env)::starEach es X.env:=by rfl) (c:(backTo pos (starEach es X.env)).any (·.1)=false:=by rfl) :
  PE X (.Call (.Name x p) (e::es) [] pos) (zC C sp [] E0 t):=by
 obtain⟨f,n,q,F,a,b⟩:=h.ex;exact FI a F i j h.mgx b .nil Ek l d g c
def B1(h:jZ X.prog X.w X.K X.mg X.base C m k sp)(c:fP k X.A)(d:PE X o ta)
  (g:eval (.Call (.Attribute o m apos) [] [] pos) X.env=(do
   let ov <-eval o X.env
   standAt apos.atName
   let (f,first) <-holding [ov] (getMethod ov m pl)
   callWith pos f first (backTo pos (starEach [] X.env)) (backToKw pos (keywordEach [] X.env))):=by rfl) :
  PE X (.Call (.Attribute o m apos) [] [] pos) (uM C m sp [] E0 ta qe):=by
 obtain⟨f,i,j,F,a,b⟩:=h.ex;exact B4 d h.cl a F c b .nil Ek g
end
end L2
namespace L2
open PySem PySem.Spec PyProof.Rows
def E3(P:X.N.Nodup)(hy:X.N[i]? = some y)(F:Bi X.env.scope y)
  (E:X.calm=true) (hi:PI X tg iter wi) (L:wG X scope N ix) (p:lX ix g)
  (j:∀C c H k r,PG (j9 X N scope C c H k r) tg g/\BM (j9 X N scope C c H k r) ifs tt/\PE (j9 X N scope C c H k r) elt te)
  (A:X.fn y=true\/X.env.scope.names.lookup y=some .local:=by first|exact .inl rfl|exact .inr rfl)
  (n:swapsWith (.ListComp elt [⟨tg,iter,ifs,0⟩] scope pos) (some (.Name y py)) spos.line X.env=pure true:=by rfl)
  (Y:∀x,foldedSetIterable iter X.env x=pure x:=by intro _;rfl):PS X (.Assign [.Name y py] (.ListComp elt [⟨tg,iter,ifs,0⟩] scope pos) spos) (kP (Cc ix wi g tt te) (gC i)):=by
 intro Z s u H D I h;rw[exec_Assign_Name_used _ _ _ _ n];refine aq (wpAny_standAt (aq ?_));rw[arm_evalThenUse_ListComp];refine aq (gZ (wpAny_comprehension_free rfl Y (nC L.fre) L.kind L.names (gZ (hi Z s u H _ I h) λv s1 B=>gZ B λitv s2 h2=>?_)) λ_ s' q=>ao (ao q));obtain⟨it,fp,tn,J,H2,e,R,T,l,U,W,⟨m0,K⟩,turn⟩:=h2;subst e;refine AB (Q:=λx H1=>gC i x u H1 D.nx) E L p j R T l U K turn λE0 C m H' s' hn f I' q=>?_;refine wpAny_assign_Name (tU (v:=.ref E0) I' P hy F rfl (λs3 I3 t=>?_) A);obtain⟨a,S,ha⟩:=t;have ne:C≠a:=by
  rcases ha with z|z
  .rw[z];exact f.2.1
  .exact λw=>f.2.2.2.2.1 y a z w.symm
 exact⟨m,hn.sameBut S ne,λh' d=>⟨_,H',I3.turned (λb o hb e=>d.extBut b o hb e) f.1 f.2.1 f.2.2.2.1 f.2.2.2.2.1 f.2.2.2.2.2,q⟩⟩
end L2
namespace L2
open PySem PySem.Spec PyProof.Rows
def Ib(r:fO (kV k) u):(jh P w).is k u=true:=by
 cases k with
 |inl i=>obtain⟨t,e⟩:=(show ∃t,u=Value.int i t from r);subst e;exact wU P w i t
 |inr x=>obtain⟨t,e⟩:=(show ∃t,u=Value.str x t from r);subst e;exact xb P w x t
theorem uB:∀{ks} {us},fu (ks.map kV) us->ItemsAre (jh P w) ks us
 |[],_,r=>by rw[bU]at r;cases r;exact .nil
 |k::ks,_,r=>by
  rw[bB]at r;cases r with
  |cons h t=>exact .cons (Ib h) (uB t)
section
variable {P:Program}{w:World}{H:Hp}{h:Heap}{a:Addr}
def zk(ok:nv P w H h)(e:H a=some (.tup (ks.map kV))):(tupleKind (jh P w)).is h ks a:=by obtain⟨_,b,r,o,c,f,n,d,_⟩:=(show gq P w H h a (.tup (ks.map kV)) from ok a _ e);exact⟨o,b.toArray,n,c,f,d,by simpa using uB r⟩
end
section
variable {X:Cx}{eh:List (Addr×Obj)}{σ:St}{H:Hp}{s:Sq}{a:Addr}{y v:V}{u r:Vq}{o:Oq V}{A:Around}{E:Vq->Shared->Prop}
def eO.big(I:eO X eh σ H s):sysModules<s.heap.objs.size:=by have h:mainGlobals<s.heap.objs.size:=(I.mod.glob.keeps I.bk).lt;exact Nat.lt_trans (by decide) h
def zv(I:eO X eh σ H s)(g:Ls (H a))(f:Heap.SameBut a s.heap h')(c:∃q,h'.get? a=some q)(new:gq X.prog X.w (fN H a ob) h' a ob) :
  eO X eh σ (fN H a ob) {s with heap:=h',toks:=t'}:=
 I.write (x:=a) (e:=a) g (.inl rfl) (λb q d z=>(f.2 b d).trans z) c new
end
end L2
namespace L2
open PySem PySem.Spec PyProof.Rows Builtin
section
variable {X:Cx}
def wd:V->Option Bool
 |.bl b=>some b
 |.int i=>some (i != 0)
 |_=>none
def jM:List V->Option (List Bool)
 |[]=>some []
 |v::vs=>(wd v).bind λb=>(jM vs).bind λr=>some (b::r)
theorem uf:∀{vs} {bs} {us} {i} {u},jM vs=some bs->fu vs us->us[i]? = some u->∃v,fO v u/\wd v=some (bs.getD i false)
 |[],_,_,_,_,_,.nil,e=>by simp at e
 |v::vs,bs,_,i,u,h,.cons r t,e=>by
  cases c:wd v with
  |none=>simp[jM,c]at h
  |some b=>
   cases d:jM vs with
   |none=>simp[jM,c,d]at h
   |some r'=>
    simp[jM,c,d]at h;subst h;cases i with
    |zero=>simp at e;subst e;exact⟨v,r,by simpa using c⟩
    |succ i=>obtain⟨g,a,f⟩:=uf d t (by simpa using e);exact⟨g,a,by simpa using f⟩
theorem uK:∀{vs} {bs},jM vs=some bs->vs.length=bs.length
 |[],_,h=>by cases h;rfl
 |v::vs,bs,h=>by
  cases a:wd v with
  |none=>simp[jM,a]at h
  |some b=>
   cases c:jM vs with
   |none=>simp[jM,a,c]at h
   |some r'=>simp[jM,a,c]at h;subst h;simp[uK c]
def rL(h:jM vs=some bs)(r:fu vs us):TruthOf prog w A (λi v=>us.toArray[i]? = some v) (λi=>bs.getD i false):=λi u s Q E e a=>by
 obtain⟨v,d,c⟩:=uf h r (by simpa using e);dsimp only at a;cases v with
 |bl b=>
  cases d;have:b=bs.getD i false:=by simpa[wd] using c
  rw[<-this]at a;exact wpAny_truthy_bool a
 |int n=>
  obtain⟨t,rfl⟩:=d;have:(n != 0)=bs.getD i false:=by simpa[wd] using c
  rw[<-this]at a;exact PyProof.Rows.truthy_int a
 |_=>simp[wd]at c
def BA(m:X.calm=true):i7 X (.builtin "any") (λn H Q=>∃p vs bs,n=[.ref p]/\(iJ X.K H p vs\/jV X.K H p vs)/\jM vs=some bs/\Q (.bl (bs.any id)) H):=by
 intro D s C H n E Q I r h;obtain⟨p,vs,bs,rfl,g,c,q⟩:=h;obtain⟨u,rfl,v⟩:=oK r;cases v;have w:=uK c;rcases g with g|g
 .obtain⟨a,j,f,y⟩:=I.list g;have x:=j.length;have d:p<s.heap.objs.size:=by obtain⟨_,e,_⟩:=f.isList;exact aL e
  refine call_any_walk (wpAny_pyIter_list f.isList ⟨s.heap.objs.size,_,_,_,_,_,λi=>bs.getD i false,rfl,Walks.list (A:=X.A.in1) (I.ok.hd m) _ p (aM d) _,⟨⟨_,au _ rfl,rfl,rfl⟩,f.isList.push _⟩,rL c j,λB t l=>?_⟩);refine⟨.bl _,H,I.kept (λb o e=>l b o (λk=>?_) (ae _ e)),rfl,?_⟩
  .have lt:=aL e;have z:b=s.heap.objs.size:=by simpa using k
   rw[z]at lt;exact a9 _ lt
  .rw[<-uy]at q;have:a.toArray.size=bs.length:=by rw[bz];omega
   rw[this];exact q
 .obtain⟨a,j,f,y⟩:=I.tuple g;have x:=j.length;have d:p<s.heap.objs.size:=by obtain⟨_,e,_⟩:=f;exact aL e
  have pt:=f;refine call_any_walk (wpAny_pyIter_tuple pt ⟨s.heap.objs.size,_,_,_,_,_,λi=>bs.getD i false,rfl,Walks.tuple (A:=X.A.in1) (I.ok.hd m) _ p (aM d) _,⟨⟨_,au _ rfl,rfl,rfl⟩,pt.push _⟩,rL c j,λB t l=>?_⟩);refine⟨.bl _,H,I.kept (λb o e=>l b o (λk=>?_) (ae _ e)),rfl,?_⟩
  .have lt:=aL e;have z:b=s.heap.objs.size:=by simpa using k
   rw[z]at lt;exact a9 _ lt
  .rw[<-uy]at q;have:a.toArray.size=bs.length:=by rw[bz];omega
   rw[this];exact q
end
end L2
namespace L2
open PySem PySem.Spec PyProof.Rows
section
variable {prog:Program}{w:World}{A:Around}{E:Vq->Shared->Prop}{s:Sq}
def Bo{i:Nat}{Q:Vq->Shared->Prop}(y:IsEnum s.heap e it i old)(hi:jD b s.heap it l i)(hl:gN b s.heap l xs)(h:e≠it)
  (D:∀x h',xs[i]? = some x->IsEnumOut h' e it ((i:Int)+1) x s.heap.objs.size->jD b h' it l (i+1)->h'.get? s.heap.objs.size=some {cls:=.type "tuple",data:=.seq #[.int i s.toks,x]}->h'.objs.size=s.heap.objs.size+1->
   (∀c o,c≠e->c≠it->s.heap.get? c=some o->h'.get? c=some o)->Q (.ref s.heap.objs.size) {s with heap:=h',toks:=s.toks+1})
  (no:xs[i]? = none->A.handled=none/\∀h' x,Heap.ExtBut it s.heap h'->(∃o,h'.get? x=some o/\o.cls=.type "StopIteration")->E (.ref x) {s with heap:=h'}) :
  wpAny (model prog w) A (Builtin.«enumerate.__next__» ⟨[.ref e],[]⟩) (λz s'=>∃v,z=.done (.ret v)/\Q v s') E s:=by
 obtain⟨P,g,d,I,os⟩:=s;show wpAny _ _ (field (.ref e) 2 >>= λ_=>_) _ _ _;refine aq (wpAny_field y rfl rfl (aq (sP hi hl (λx g1 X S k1=>?_) no)));have j:=k1;have C:=(j.2 e h).trans y;refine aq (wpAny_field C rfl rfl ?_);refine aq (wpAny_field C rfl rfl ?_);refine aq (wpAny_mkInt (aq (wpAny_setField_rec C (by simp) λg2 y2 F=>?_)));have z2:=y2;refine aq (wpAny_setField_rec z2 (by simp) λk y3 p=>?_);have Y:=y3;refine aq (wpAny_newTuple ?_);have sz:k.objs.size=P.objs.size:=by have a:=p.1;have c:=F.1;have u:=j.1;dsimp only at a c u;omega
 have B:IsEnum (k.push {cls:=.type "tuple",data:=.seq #[.int i I,x]}) e it (i+1) old:=ae _ Y;have el:=aL y;have t:∀c o,c≠e->c≠it->P.get? c=some o->k.get? c=some o:=λc o f r q=>p.extBut c o f (F.extBut c o f (j.extBut c o r q));unfold Builtin.SmallTypes.ownedTupleIsFree;refine aq (aq (wpAny_field B rfl rfl (ao ?_)));simp only[if_true];refine aq (wpAny_rule (aq (wpAny_field B rfl rfl (aq (wpAny_setField_rec B (by simp) λg5 y5 H=>?_)))));have Z:=y5;unfold Builtin.SmallTypes.ownedTupleHandOut;refine aq (aq (wpAny_setField_rec Z (by simp) λg6 y6 N=>?_));have z6:=y6;refine wpAny_setField_rec z6 (by simp) λn U R=>?_;have J:=U;have up:∀c o,c≠e->(k.push {cls:=.type "tuple",data:=.seq #[.int i I,x]}).get? c=some o->n.get? c=some o:=λc o f q=>R.extBut c o f (N.extBut c o f (H.extBut c o f q));have m:∀c o,c≠e->k.get? c=some o->n.get? c=some o:=λc o f q=>up c o f (ae _ q);have K:=up _ _ (by rw[sz];exact br el) (au _ rfl);have L:n.objs.size=k.objs.size+1:=by have a:=R.1;have c:=N.1;have u:=H.1;dsimp only at a c u;rw[Heap.size_push]at u;omega
 refine aq (wpAny_letGo (ao ⟨_,rfl,?_⟩));rw[sz]at J K L ⊢;exact D x n X J (S.to λo q=>m it o (Ne.symm h) (p.extBut it o (Ne.symm h) (F.extBut it o (Ne.symm h) q))) K L λc o f r q=>m c o f (t c o f r q)
def ur{i:Nat}(f:IsEnum s.heap e it i old)(t:jD b s.heap it l i)(k:gN b s.heap l xs)(a:e≠it)
  (d:∀x h',xs[i]? = some x->IsEnumOut h' e it ((i:Int)+1) x s.heap.objs.size->jD b h' it l (i+1)->h'.get? s.heap.objs.size=some {cls:=.type "tuple",data:=.seq #[.int i s.toks,x]}->h'.objs.size=s.heap.objs.size+1->
   (∀c o,c≠e->c≠it->s.heap.get? c=some o->h'.get? c=some o)->Q (some (.ref s.heap.objs.size)) {s with heap:=h',toks:=s.toks+1})
  (g:xs[i]? = none->A.handled=none/\∀h',Heap.ExtBut it s.heap h'->Q none {s with heap:=h'}):wpAny (model prog w) A (pyNext (.ref e)) Q E s:=by
 have ty:s.TypeIs (.ref e) "enumerate" :=⟨_,f,rfl⟩;unfold pyNext;refine aq (wpAny_attempt (wpAny_callSpecial?_slot ty F.slot_enumerate_next (wpAny_call_entry F.slot_enumerate_next ty F.entry_enumerate_next
  (Bo f t k a (λx h' n h j m r p=>ao (d x h' n h j m r p)) λq=>⟨(g q).1,λh' x hk ⟨o,ho,hc⟩=>?_⟩) (F.args_enumerate_next_1 _))))
 exact aq (wpAny_isInstance ⟨o,ho,hc⟩ isSubtype_stop (ao ((g q).2 h' hk)))
noncomputable abbrev eo(b:Bool)(l:Addr):Obj:={cls:=.type (rR b),data:=.fields #[.ref l,.int 0 0]}
abbrev en(p:Addr):Obj:={cls:=.type "enumerate",data:=.fields #[.none,.bool false,.ref p,rawInt 0,.none,.none]}
def yC b l xs:Meets (Builtin.«enumerate.__new__» ⟨[.type "enumerate",.ref l],[]⟩) (λ_ R s=>gN b s.heap l xs/\
  R (.ok (.ret (.ref (s.heap.push (eo b l)).objs.size))) {s with heap:=(s.heap.push (eo b l)).push (en s.heap.objs.size)}):=by
 refine .of_wp λprog w A R s h=>?_;obtain⟨p,g,d,m,k⟩:=s;obtain⟨i,e⟩:=h;have f:=sub_enumerate;have a:=i;obtain⟨o,n,r,q⟩:=a.look;wp_walk using lL a;refine wpAny_stack_any λj=>ao ?_;split
 .rename_i c _ _ _ _ _;cases (c==Value.type "enumerate")
  .wp_walk using lL a;exact⟨_,rfl,e⟩
  .wp_walk using lL a;exact⟨_,rfl,e⟩
 .wp_walk using lL a;exact⟨_,rfl,e⟩
def BF(f:gN b s.heap l xs)
  (h:∀h',IsEnum h' (s.heap.objs.size+1) s.heap.objs.size 0 .none->jD b h' s.heap.objs.size l 0->h'.objs.size=s.heap.objs.size+2->(∀c o,s.heap.get? c=some o->h'.get? c=some o)->Q (.ref (s.heap.objs.size+1)) {s with heap:=h'}) :
  wpAny (model prog w) A (call (.type "enumerate") [.ref l]) Q E s:=by
 refine callType_new F.called_enumerate (by decide) (F.typeCall_enumerate_1 _) (F.newCall_enumerate_1 _) (λd=>F.args_object_init_2 d _) F.entry_enumerate_new (yC b l xs) ⟨f,?_⟩;have e:(s.heap.push (eo b l)).objs.size=s.heap.objs.size+1:=Heap.size_push ..;have a:=au (s.heap.push (eo b l)) (o:=en s.heap.objs.size) rfl;rw[e]at a;rw[e];exact⟨⟨_,a,rfl⟩,h _ a (.of ⟨_,ae _ (au _ rfl),rfl,rfl⟩) (by rw[Heap.size_push,e]) λc o q=>ae _ (ae _ q)⟩
end
noncomputable def MM(K:W.Frag)(b:Bool)(l:Addr):It:=
  ⟨λi H=>∃a x,tj K H b l a/\a[i]? = some x,
   λi H v c=>∃p x,v=.ref p/\H p=none/\c=fN H p (.tup [.int i,x])/\∀a,tj K H b l a->a[i]? = some x,
   λi H=>∃a,tj K H b l a/\a.length<=i⟩
def AY{K:W.Frag}{x1}(p:e≠it) :
  zu P w K (.Tuple elts x1 pos) (MM K b l) [e,it] e (λi h=>(∃a,IsEnum h e it i a)/\jD b h it l i) where
 mem:=by simp
 obj:=λi h j c F=>by
  obtain⟨⟨a,g⟩,m⟩:=j;have mem:c=e\/c=it:=by simpa using F
  rcases mem with rfl|rfl
  .exact⟨_,g,λv q=>by cases q⟩
  .obtain⟨o,q,_,d⟩:=m.look;exact⟨o,q,λv q'=>by rw[d]at q';cases q'⟩
 keep:=λi h Y j k=>by obtain⟨⟨a,g⟩,m⟩:=j;exact⟨⟨a,k e (by simp) _ g⟩,m.to λo q=>k it (by simp) o q⟩
 item:=by
  intro X Q hw L F i eh s σ H E I C j U;subst Q hw L;obtain⟨⟨a,g⟩,m⟩:=j;obtain⟨xs,x,D,e1⟩:=U;obtain⟨A,S,N,z1⟩:=I.seqB D;obtain⟨u,gu,ru⟩:=S.get e1;have t:=I.fpOk (aK _) (I.hok.fresh (aK _));refine ur g m N p (λB Y r a1 Z a3 a4 J=>?_) λq=>?_
  .have eu:B=u:=by
    have:A[i]? = some B:=by simpa using r
    rw[gu]at this;cases this;rfl
   subst eu;refine⟨_,rfl,wpAny_letOwnedTupleGo_enum a1 λR y sb=>?_⟩;have n:=sb;have zT:=br (aL g);have I1:=I.turnedL (t':=s.toks+1) (λb o f q=>n.extBut _ _ (λz=>f (by simp[z])) (J b o (λz=>f (by simp[z])) (λz=>f (by simp[z])) q)) (λb f=>C b f);have gT:=n.extBut _ _ zT a3;have I2:eO X eh σ (fN H s.heap.objs.size (.tup [.int i,x])) {s with heap:=R,toks:=s.toks+1}:=I1.track t.1 t.2.2.2.1 t.2.1 t.2.2.2.2.1 t.2.2.2.2.2
    ⟨by show 2<=sizeLine;decide,[.int i s.toks,B],.cons ⟨_,rfl⟩ (.cons ru .nil),⟨_,gT,rfl,_,rfl,rfl⟩⟩
   have lt:∀{b o},s.heap.get? b=some o->fN H s.heap.objs.size (.tup [.int i,x]) b=H b:=λ{b o} q=>eM (aM (aL q));refine⟨.ref s.heap.objs.size,_,I2,rfl,⟨_,x,rfl,t.1,rfl,λxs' h=>by rw[I.seqB_inj h D];exact e1⟩,?_,λb f=>?_⟩
   .exact⟨⟨_,y⟩,Z.to λo q=>n.extBut _ o (Ne.symm p) q⟩
   .have mem:b=e\/b=it:=by simpa using f
    have hn:=(C b f).1;obtain⟨o1,g1,_⟩:=m.look;rcases mem with rfl|rfl
    .rw[lt g];exact hn
    .rw[lt g1];exact hn
  .exfalso;have m1:A.toArray[i]? = some u:=by simpa using gu
   rw[m1]at q;cases q
 done:=by
  intro X Q hw L F i eh s σ H E I C j U;subst Q hw L;obtain⟨⟨a,g⟩,m⟩:=j;obtain⟨xs,D,hl⟩:=U;obtain⟨A,S,N,z1⟩:=I.seqB D;have n1:=S.length;refine ur g m N p (λB Y r a1 Z a3 a4 J=>?_) λq=>⟨I.ok.hd F,λY J=>⟨rfl,I.turnedL (ch:=[it]) (λb o f q=>J b o (λz=>f (by simp[z])) q) λb f=>C b (by
   have:b=it:=by simpa using f
   simp[this])⟩⟩
  exfalso;have m1:i<A.length:=by
   have:A[i]? = some B:=by simpa using r
   exact (aa.mp this).1
  omega
 self:=λ_ _ _ _ _ j h=>by obtain⟨⟨a,g⟩,_⟩:=j;exact wpAny_pyIter_enum g h
section
variable {X:Cx}
def Fe(K:W.Frag)(b:Bool)(d:TA):TI:=λc H R=>d c H λf a=>∃l,f=[.ref l]/\(∃e,tj K a b l e)/\R (MM K b l) a
def E6{x1}(y:Gl X "enumerate")(t:X.mg "enumerate" = none)(w:PA X [a] ta)(m:starEach [a] X.env=[(false,eval a X.env)]:=by rfl) :
  PI X (.Tuple elts x1 tpos) (.Call (.Name "enumerate" p) [a] [] pos) (Fe X.K b ta):=by
 intro n s k H R I h;refine Call_ (n0 I y t boot_enumerate (PyProof.Rows.callWith_type1 (gZ (w pos n s k H _ I h) λo s1 ⟨vs,H1,I1,r1,c⟩=>?_) m rfl));obtain⟨l,rfl,⟨A,c⟩,q⟩:=c;obtain⟨u,rfl,v⟩:=oK r1;cases v;obtain⟨o,g,i,_⟩:=I1.seqB c;refine BF i λB e z j x=>?_;refine wpAny_pyIter_enum e ?_;refine⟨_,_,_,_,H1,rfl,I1.kept x,AY (Nat.succ_ne_self _),⟨⟨_,e⟩,z⟩,λb r=>?_,q⟩;have d:b=s1.heap.objs.size+1\/b=s1.heap.objs.size:=by simpa using r
 have f:s1.heap.objs.size<=b:=by rcases d with rfl|rfl<;>omega
 exact I1.fpOk f (I1.hok.fresh f)
end
end L2
namespace HT
open PySem PySem.Spec PyProof.Rows
section
variable {prog:Program}{w:World}{A:Around}{E:Vq->Shared->Prop}{s:Sq}
def getItem_tuple_all{a d:Oq Int}(c:IsTup s.heap t items)(i:s.heap.IsSliceOf sl vl vu .none)(j:IsPart vl a)(m:IsPart vu d)
  (hw:sIx items.size 0 a=0/\sIx items.size items.size d=items.size) (h:Q (.ref t) s):wpAny (model prog w) A (getItem (.ref t) (.ref sl)) Q E s:=by
 obtain⟨k,e,f,l⟩:=id i;have g:s.TypeIs (.ref sl) "slice" :=⟨k,e,f⟩;unfold getItem;try with_reducible refine wpAny_holding ?_;first|refine aq (ao ?_)|skip
 refine aq (wpAny_sequenceKey c.typeIs (by decide) ?_);refine aq (wpAny_callSpecial?_slot c.typeIs PyProof.Rows.slot_tuple_getitem
  (wpAny_call_entry PyProof.Rows.slot_tuple_getitem c.typeIs entry_tuple_getitem ?_ (args_tuple_getitem _ _)))
 show wpAny _ _ (Builtin.Tuple.tupleItemsOf (.ref t) >>= _) _ _ s;refine aq (tupleItemsOf_ c ?_);refine aq (wpAny_typeOf g ?_);rw[aQ (by decide)];refine aq (lA i j m ?_);have b:(((sIx items.size 0 a):Int)==0&&(1:Int)==1&&(sIx items.size items.size d-sIx items.size 0 a)==items.size)=true:=by rw[hw.1,hw.2];simp
 show wpAny _ _ (if (((sIx items.size 0 a):Int)==0&&1==1&&(sIx items.size items.size d-sIx items.size 0 a)==items.size)=true then _ else _) _ _ s;rw[aQ b];refine aq (aq (wpAny_typeOf c.typeIs (ao ?_)));rw[aQ (by decide)];refine aq (wpAny_rule ?_);exact ao ⟨_,rfl,ao h⟩
end
end HT
namespace L2
open PySem PySem.Spec PyProof.Rows
section
variable {X:Cx}
def LR(K:W.Frag):V->Option Int->Option Int->Hp->VK->Prop:=λx c d H Q=>∃a b,x=.ref a/\jV K H a b/\(HT.sIx b.length 0 c=0/\HT.sIx b.length b.length d=b.length)/\Q (.ref a) H
def F9:HR X (LR X.K):=by
 intro n s m H x v t l o w p Q I k f e i h;obtain⟨a,g,rfl,d,hw,q⟩:=h;cases k;obtain⟨b,r,c,u⟩:=I.tuple d;have j:b.toArray.size=g.length:=by rw[bz];exact r.length.symm
 refine⟨"tuple",_,PyProof.Rows.slot_tuple_getitem.lookup,c.typeIs,?_⟩;exact HT.getItem_tuple_all c f e i (by rw[j];exact hw) ⟨.ref a,H,I,rfl,q⟩
end
end L2
namespace L2
open PySem PySem.Spec PyProof.Rows
section
variable {prog:Program}{w:World}{A:Around}{E:Vq->Shared->Prop}{s:Sq}{d it:Addr}{es:Array DictEntry}{ep i:Nat}
def oH(h:Heap)(d:Addr)(es:Array DictEntry)(ep:Nat):Prop:=∃o,h.get? d=some o/\o.ExactDict/\o.data=.dict es ep
def oH.to(x:oH h d es ep)(k:∀o,h.get? d=some o->h'.get? d=some o):oH h' d es ep:=let ⟨o,a,r⟩:=x;⟨o,k o a,r⟩
def oH.lt(x:oH h d es ep):d<h.objs.size:=let ⟨_,a,_⟩:=x;aL a
def oH.ty(x:oH s.heap d es ep):s.TypeIs (.ref d) "dict" :=let ⟨o,a,c,_⟩:=x;⟨o,a,c.1⟩
def Df(e:(d==sysModules)=false)(x:oH s.heap d es ep)
  (q:Q (.ref s.heap.objs.size) {s with heap:=s.heap.push {cls:=.type "dict_keyiterator",data:=.fields #[.ref d,.int 0 0,.int es.size 0,.int ep 0]}}):wpAny (model prog w) A (pyIter (.ref d)) Q E s:=by
 obtain⟨o,a,c,b⟩:=id x;refine wpAny_pyIter_slot x.ty F.slot_dict_iter (wpAny_call_entry F.slot_dict_iter x.ty F.entry_dict_iter ?_ (F.args_dict_iter_1 _));unfold Builtin.«dict.__iter__»;refine aq ?_;unfold Builtin.Dict.dictSlotNone;refine aq (wpAny_notOrdered_dict x.ty ?_);show wpAny _ _ (pure (Value.ref d)) _ _ s;refine ao ?_;show wpAny _ _ (Builtin.Dict.showsAll d >>= λ_=>_) _ _ s;unfold Builtin.Dict.showsAll;rw[aR (by rw[e];exact λz=>nomatch z)];refine aq (ao (aq (wpAny_dictEntries a b (aq (wpAny_dictEpoch a b ?_)))));refine aq (wpAny_newObj_type (ao ⟨_,rfl, "dict_keyiterator",_,⟨_,au _ rfl,rfl⟩,F.slot_dict_keyiterator_next.lookup,?_⟩));simpa[rawInt] using q
def Kc(j:s.heap.IsKeyIter it d i es.size ep)(x:oH s.heap d es ep) hi
  (q:∀h',h'.IsKeyIter it d (i+1) es.size ep->Heap.SameBut it s.heap h'->Q (some es[i].key) {s with heap:=h'}):wpAny (model prog w) A (pyNext (.ref it)) Q E s:=by
 obtain⟨o,a,c,b⟩:=id j;obtain⟨k,f,l,h⟩:=id x;have e:Builtin.Dict_items.ownsTuple "dict_keyiterator" = false:=by decide
 unfold pyNext;refine aq (wpAny_attempt (wpAny_callSpecial?_slot j.typeIs F.slot_dict_keyiterator_next (wpAny_call_entry F.slot_dict_keyiterator_next j.typeIs F.entry_dict_keyiterator_next ?_ (F.args_dict_keyiterator_next_1 _))));refine aq (ao (aq (aq ?_)));first|refine aq (wpAny_typeNameOfWhole_keyiter j.typeIs (ao (aq (wpAny_fieldsOf a b ?_))))|refine aq (wpAny_typeNameOf_keyiter j.typeIs (ao (aq (wpAny_fieldsOf a b ?_))))
 simp only[e,bX,if_false];show wpAny _ _ (if (Value.ref d==Value.none)=true then _ else _) _ _ s;rw[aR (λz=>nomatch z)];refine aq (ao (aq (wpAny_dictEntries f h ?_)));rw[aR (by simp)];refine aq (ao (aq (wpAny_dictEpoch f h ?_)));rw[aR (by simp)];refine ao ?_;simp only[show ¬(i<0) from by omega,if_false,bJ,Array.getElem?_eq_getElem hi];refine aq ?_;first|refine aq (wpAny_typeNameOfWhole_keyiter j.typeIs (ao (aq (wpAny_isOneOf_keyiter j.typeIs ?_))))|refine aq (wpAny_typeNameOf_keyiter j.typeIs (ao (aq (wpAny_isOneOf_keyiter j.typeIs ?_))))
 show wpAny _ _ (setField (.ref it) 1 (rawInt (i+1)) >>= λ_=>_) _ _ s;refine aq (wpAny_setField a b (by simp) ?_);have g:(s.heap.update it (Obj.mapFields (·.setIfInBounds 1 (rawInt (i+1))))).IsKeyIter it d (i+1) es.size ep:=⟨_,Heap.get?_update_self _ a (Obj.isFreed_of_fields (Obj.data_mapFields b _)),(Obj.cls_mapFields ..).trans c,by rw[Obj.data_mapFields b];simp[rawInt]⟩
 refine aq (wpAny_holding (aq (wpAny_isOneOf_keyiter g.typeIs ?_)));exact ao (ao ⟨_,rfl,ao (q _ g (Heap.SameBut.update ..))⟩)
def Gn(h:A.handled=none)(j:s.heap.IsKeyIter it d es.size es.size ep)(x:oH s.heap d es ep)(q:∀h',Heap.ExtBut it s.heap h'->Q none {s with heap:=h'}) :
  wpAny (model prog w) A (pyNext (.ref it)) Q E s:=by
 obtain⟨o,a,c,e⟩:=id j;obtain⟨k,f,l,g⟩:=id x;have b:Builtin.Dict_items.ownsTuple "dict_keyiterator" = false:=by decide
 unfold pyNext;refine aq (wpAny_attempt (wpAny_callSpecial?_slot j.typeIs F.slot_dict_keyiterator_next (wpAny_call_entry F.slot_dict_keyiterator_next j.typeIs F.entry_dict_keyiterator_next ?_ (F.args_dict_keyiterator_next_1 _))));refine aq (ao (aq (aq ?_)));first|refine aq (wpAny_typeNameOfWhole_keyiter j.typeIs (ao (aq (wpAny_fieldsOf a e ?_))))|refine aq (wpAny_typeNameOf_keyiter j.typeIs (ao (aq (wpAny_fieldsOf a e ?_))))
 simp only[b,bX,if_false];show wpAny _ _ (if (Value.ref d==Value.none)=true then _ else _) _ _ s;rw[aR (λz=>nomatch z)];refine aq (ao (aq (wpAny_dictEntries f g ?_)));rw[aR (by simp)];refine aq (ao (aq (wpAny_dictEpoch f g ?_)));rw[aR (by simp)];refine ao ?_;simp only[show ¬(es.size<0) from by omega,if_false,bJ,Array.getElem?_eq_none (aK es.size)];refine aq ?_;first|refine aq (wpAny_typeNameOfWhole_keyiter j.typeIs (ao ?_))|refine aq (wpAny_typeNameOf_keyiter j.typeIs (ao ?_))
 show wpAny _ _ (setField (.ref it) 0 .none >>= λ_=>_) _ _ s;refine aq (wpAny_setField a e (by simp) ?_);refine aq ?_;simp only[newExc,newTuple];refine aq (wpAny_newObj_type ?_ (by size_fits));refine aq (wpAny_of_eq (by first|rfl|(simp only[firstArgMember];rfl)) ?_);refine wpAny_newObj_type ?_ (by size_fits);simp only[raiseNew];refine aq (wpAny_handled ?_);rw[show A.in1.handled=none from h];refine aq (ao (wpAny_throw ?_));refine aq (wpAny_isInstance ⟨_,au _ rfl,rfl⟩ isSubtype_stop ?_);exact ao (q _ (((Heap.SameBut.update ..).extBut.push _).push _))
def Bb(g:A.handled=none) I d (ne:d≠I) es ep :
  Walks prog w A I [I,d] [I] es.size (λi v=>∃e,es[i]? = some e/\v=e.key) (λi h=>h.IsKeyIter I d i es.size ep/\oH h d es ep) where
 sub:=λb a=>by simp at a;simp[a]
 frame:=λ_ _ _ x k=>⟨x.1.at λo e=>k I (by simp) o e,x.2.to λo e=>k d (by simp) o e⟩
 item:=λi s Q E f x q=>Kc x.1 x.2 f λc j k=>q _ c s.toks ⟨es[i],by simp[f],rfl⟩ ⟨j,x.2.to λo e=>k.extBut d o ne e⟩ λb o a e=>k.extBut b o (λz=>a (by simp[z])) e
 done:=λs Q E x q=>Gn g x.1 x.2 λc k=>q c s.toks λb o a e=>k b o (λz=>a (by simp[z])) e
 self:=λ_ _ _ _ x q=>wpAny_pyIter_keyiter x.1 q
def Ao(a:(d==sysModules)=false):W.KdlSrc prog w "dict" d d es.size (λi v=>∃e,es[i]? = some e/\v=e.key) (λh=>oH h d es ep) where
 type:=λ_ x=>x.ty
 there:=λ_ x=>⟨x.lt,x.lt⟩
 keep:=λ_ _ x k=>x.to λo e=>k d (.inl rfl) o e
 notList:=by decide
 notTuple:=by decide
 hint:=λ_ _ _ _ x q=>W.kdl_hint_dict x.ty q
 iter:=λ_ _ b x=>⟨_,_,(λ_ _ q=>Df a x q),Bb b _ d (aM x.lt) es ep,⟨⟨_,au _ rfl,rfl,rfl⟩,x.to λo e=>ae _ e⟩⟩
end
theorem qw:∀{xs} {us},xs.length=us.length->(∀(i:Nat) v,us[i]? = some v->∃x,xs[i]? = some x/\fO x v)->fu xs us
 |[],[],_,_=>.nil
 |x::xs,u::us,hl,h=>by obtain⟨b,e,r⟩:=h 0 u rfl;simp at e;subst e;exact .cons r (qw (by simpa using hl) λi v a=>by simpa using h (i+1) v (by simpa using a))
theorem lE{F:α->β->Prop}:∀{l:List α} {m:List β} {i:Nat} {a:α},Paired F l m->l[i]? = some a->∃b,m[i]? = some b/\F a b
 |_::_,_::_,0,_,.cons h _,e=>by simp at e;subst e;exact⟨_,rfl,h⟩
 |_::_,_::_,i+1,_,.cons _ r,e=>by simpa using lE r (by simpa using e)
end L2
namespace L2
open PySem PySem.W PyProof.Rows
section
variable {lt:Nat->Nat->Bool}{n:Nat}{α β:Type}
def qc(lt:Nat->Nat->Bool)(n:Nat):KasT α->(α->Prop)->Prop
 |.ret a,Q=>Q a
 |.ask i j k,Q=>i<n/\j<n/\qc lt n (k (lt i j)) Q
theorem ki{f:α->KasT β}{Q:β->Prop}:∀{t:KasT α},qc lt n t (λa=>qc lt n (f a) Q)->qc lt n (t.bind f) Q
 |.ret _,h=>h
 |.ask i j k,h=>⟨h.1,h.2.1,ki (t:=k (lt i j)) h.2.2⟩
theorem Ad{s:Sq}{b:Nat->Nat->(Bool->Shared->Prop)->Shared->Prop}(c:∀i j C,i<n->j<n->C (lt i j) s->b i j C s){Q:α->Shared->Prop}:∀{t:KasT α},qc lt n t (λa=>Q a s)->t.kasWp b Q s
 |.ret _,h=>h
 |.ask i j k,h=>c i j _ h.1 h.2.1 (Ad c (t:=k (lt i j)) h.2.2)
structure rG(lt:Nat->Nat->Bool):Prop where
 tr:∀{a b c},lt b a=false->lt c b=false->lt c a=false
 as:∀{a b},lt a b=true->lt b a=false
def rG.ir(o:rG lt)(a:Nat):lt a a=false:=by
 cases h:lt a a with
 |false=>rfl
 |true=>have:=o.as h;rw[h]at this;exact this
abbrev ux(n:Nat)(p:Array Nat):Prop:=p.Perm (List.range n).toArray
def kK{p:Array Nat}(h:ux n p):p.size=n:=by rw[h.size_eq];simp
def lg{p:Array Nat}(h:ux n p)(a:0<n)(i:Nat):p.getD i 0<n:=by
 rw[cx];cases e:p[i]? with
 |none=>exact a
 |some v=>have:v∈(List.range n).toArray:=h.mem_iff.mp (Array.mem_of_getElem? e);simpa using this
def ph{p:Array Nat}{i j:Nat}(a:j<=p.size)(k:Nat):(kas_rev p i j).getD k 0=if i<=k/\k<j then p.getD (i+j-1-k) 0 else p.getD k 0:=by unfold kas_rev;rw[cx,getElem?_mirror_all a];split<;>rw[cx]
def EC{p:Array Nat}{k l:Nat}(c:k<p.size)(d:l<=k)(i:Nat):(bubble p k (k-l)).getD i 0=if i=l then p.getD k 0 else if l<i/\i<=k then p.getD (i-1) 0 else p.getD i 0:=by
 rw[cx,getElem?_bubble c _ (by omega),show k-(k-l)=l by omega];by_cases a:i=l
 .rw[aQ a,aQ a,cx]
 .rw[aR a,aR a];by_cases b:l<i/\i<=k
  .rw[aQ b,aQ b,cx]
  .rw[aR b,aR b,cx]
def rj{p:Array Nat}(h:ux n p)(i j:Nat):ux n (kas_rev p i j):=(mirror_perm _ _ _ _).trans h
def DX(lt:Nat->Nat->Bool)(p:Array Nat)(m:Nat):Prop:=∀i j,i<j->j<m->lt (p.getD j 0) (p.getD i 0)=false
def Me(lt:Nat->Nat->Bool)(p:Array Nat)(m:Nat):Prop:=∀i j,i<j->j<m->lt (p.getD i 0) (p.getD j 0)=false
def MX(lt:Nat->Nat->Bool)(p:Array Nat)(m q:Nat):Prop:=∀i j,m<=i+(q+1)->i<m->m<=j+(q+1)->j<m->lt (p.getD i 0) (p.getD j 0)=false
theorem vF(o:rG lt)(r:0<n){p:Array Nat}(l:ux n p){Q:Nat->Prop}:∀f m,1<=m->DX lt p m->(∀g,m<=g->g<=m+f->DX lt p g->(g<m+f->lt (p.getD g 0) (p.getD (g-1) 0)=true)->Q g)->qc lt n (kas_asc p f m) Q
 |0,m,_,hu,q=>q m (aK _) (aK _) hu λh=>absurd h (a9 _)
 |f+1,m,h1,hu,q=>by
  refine⟨lg l r _,lg l r _,?_⟩;cases e:lt (p.getD m 0) (p.getD (m-1) 0) with
  |true=>exact q m (aK _) (cg _ _) hu λ_=>e
  |false=>
   refine vF o r l f (m+1) (by omega) (λi j k u=>?_) λg a b c d=>q g (by omega) (by omega) c λh=>d (by omega);by_cases s:j<m
   .exact hu i j k s
   .obtain rfl:j=m:=by omega
    by_cases t:i=j-1
    .rw[t];exact e
    .exact o.tr (hu i (j-1) (by omega) (by omega)) e
theorem pE(o:rG lt)(t:0<n){Q:Array Nat×Nat×Nat->Prop}:∀f p m q,ux n p->1<=m->m+f<=n->q<m->Me lt p m->MX lt p m q->
  (∀k l r,ux n k->m<=l->l<=m+f->r<l->Me lt k l->MX lt k l r->Q (k,l,r))->qc lt n (kas_desc f p m q) Q
 |0,p,m,q,hp,_,_,hq,hd,he,w=>w p m q hp (aK _) (aK _) hq hd he
 |f+1,p,m,q,hp,h1,hf,hq,hd,he,w=>by
  have one:∀k:Array Nat,MX lt k (m+1) 0:=λk i j a b c d=>by
   obtain rfl:i=m:=by omega
   obtain rfl:j=i:=by omega
   exact o.ir _
  have s:∀i,i<m->lt (p.getD (m-1) 0) (p.getD m 0)=false->lt (p.getD i 0) (p.getD m 0)=false:=λi B e=>by
   by_cases h:i=m-1
   .rw[h];exact e
   .exact o.tr e (hd i (m-1) (by omega) (by omega))
  refine⟨lg hp t _,lg hp t _,?_⟩;cases e:lt (p.getD m 0) (p.getD (m-1) 0) with
  |true=>
   have y:=o.as e;simp only[if_true];by_cases v:q>0
   .rw[aQ v];have z:=ph (p:=p) (i:=m-(q+1)) (j:=m) (by rw[kK hp];omega);refine pE o t f _ (m+1) 0 (rj hp _ _) (by omega) (by omega) (by omega) (λi j g u=>?_) (one _) λk l r a b c d=>w k l r a (by omega) (by omega) d;rw[z i,z j];by_cases x:j=m
    .rw[aR (c:=_/\j<m) (by omega),x];split
     .exact s _ (by omega) y
     .exact s _ (by omega) y
    .split
     .rw[aQ (by omega)];exact he _ _ (by omega) (by omega) (by omega) (by omega)
     .split
      .exact hd _ _ (by omega) (by omega)
      .exact hd _ _ (by omega) (by omega)
   .rw[aR v];refine pE o t f p (m+1) 0 hp (by omega) (by omega) (by omega) (λi j g u=>?_) (one _) λk l r a b c d=>w k l r a (by omega) (by omega) d;by_cases x:j=m
    .subst x;exact s i g y
    .exact hd i j g (by omega)
  |false=>
   simp only[bX,if_false];refine⟨lg hp t _,lg hp t _,?_⟩;cases A:lt (p.getD (m-1) 0) (p.getD m 0) with
   |true=>exact w p m q hp (aK _) (by omega) hq hd he
   |false=>
    simp only[bX,if_false];refine pE o t f p (m+1) (q+1) hp (by omega) (by omega) (by omega) (λi j g u=>?_) (λi j a b c d=>?_) λk l r a b c d=>w k l r a (by omega) (by omega) d
    .by_cases x:j=m
     .subst x;exact s i g A
     .exact hd i j g (by omega)
    .by_cases B:i=m
     .subst B;by_cases u:j=i
      .subst u;exact o.ir _
      .exact o.tr (he (i-1) j (by omega) (by omega) (by omega) (by omega)) e
     .by_cases u:j=m
      .subst u;exact o.tr A (he i (j-1) (by omega) (by omega) (by omega) (by omega))
      .exact he i j (by omega) (by omega) (by omega) (by omega)
def xI(o:rG lt)(l:0<n){p:Array Nat}{m:Nat}(f:ux n p)(h:1<=m)(s:m<=n)(q:Me lt p m){Q:Nat×Array Nat->Prop}(w:∀d e,ux n e->1<=d->d<=n->DX lt e d->Q (d,e)):qc lt n (kas_tail3 m n p) Q:=by refine ki (vF o l (rj f 0 m) _ m h (λi j k r=>?_) λd a b c _=>w d _ (rj f 0 m) (by omega) (by omega) c);have g:=ph (p:=p) (i:=0) (j:=m) (by rw[kK f];omega);rw[g i,g j,aQ (by omega),aQ (by omega)];exact q _ _ (by omega) (by omega)
def uw(o:rG lt){p:Array Nat}{m:Nat}(r:ux n p)(u:1<=m)(x:m+1<=n)(t:Me lt p (m+1)){Q:Nat×Array Nat->Prop}(w:∀g h,ux n h->1<=g->g<=n->DX lt h g->Q (g,h)):qc lt n (kas_descPart m n p) Q:=by
 have k:0<n:=by omega
 refine ki (pE o k _ p (m+1) 0 r (by omega) (by omega) (by omega) t (λi j a b c d=>?_) λh g s a b c d e f=>?_)
 .obtain rfl:i=m:=by omega
  obtain rfl:j=i:=by omega
  exact o.ir _
 .dsimp only;split
  .have l:=ph (p:=h) (i:=g-(s+1)) (j:=g) (by rw[kK a];omega);refine xI o k (rj a _ _) (by omega) (by omega) (λi j q v=>?_) w;rw[l i,l j];split
   .rw[aQ (by omega)];exact f _ _ (by omega) (by omega) (by omega) (by omega)
   .split
    .exact e _ _ (by omega) (by omega)
    .exact e _ _ (by omega) (by omega)
  .exact xI o k a (by omega) (by omega) e w
def AK(o:rG lt)(r:0<n){p:Array Nat}(f:ux n p){Q:Nat×Array Nat->Prop}(w:∀l q,ux n q->1<=l->l<=n->DX lt q l->Q (l,q)):qc lt n (kas_count n p) Q:=by
 refine ki (vF o r f _ 1 (aK _) (λi j g h=>by omega) λm a b c d=>?_);split
 .exact w m p f a (by omega) c
 .rename_i s;have k:m<n:=by have:m≠n:=λz=>s (by rw[z];exact beq_self_eq_true _);omega
  have e:=o.as (d (by omega));split
  .refine⟨lg f r _,lg f r _,?_⟩;cases u:lt (p.getD 0 0) (p.getD (m-1) 0) with
   |true=>exact w m p f a (by omega) c
   |false=>
    have up:∀i j,i<=j->j<m->lt (p.getD j 0) (p.getD i 0)=false:=λi j g h=>by
     by_cases z:i=j
     .rw[z];exact o.ir _
     .exact c i j (by omega) h
    have all:∀i j,i<m->j<m->lt (p.getD i 0) (p.getD j 0)=false:=λi j v h=>o.tr (o.tr (up j (m-1) (by omega) (by omega)) u) (up 0 i (by omega) v);have t:=ph (p:=p) (i:=0) (j:=m) (by rw[kK f];omega);refine uw o (rj f 0 m) a k (λi j g h=>?_) w;rw[t i,t j,aQ (c:=0<=i/\i<m) (by omega)];by_cases z:j=m
    .rw[aR (by omega),z];exact o.tr e (all _ _ (by omega) (by omega))
    .rw[aQ (by omega)];exact all _ _ (by omega) (by omega)
  .refine uw o f a k (λi j g h=>?_) w;obtain rfl:m=1:=by omega
   obtain rfl:i=0:=by omega
   obtain rfl:j=1:=by omega
   exact e
theorem qb(o:rG lt)(h:0<n){p:Array Nat}(d:ux n p){k:Nat}(g:DX lt p k){Q:Nat->Prop}(w:∀l,l<=k->(∀i,i<l->lt (p.getD k 0) (p.getD i 0)=false)->(∀i,l<=i->i<k->lt (p.getD k 0) (p.getD i 0)=true)->Q l) :
  ∀f l r,l<=r->r<=k->r<=l+f->(∀i,i<l->lt (p.getD k 0) (p.getD i 0)=false)->(∀i,r<=i->i<k->lt (p.getD k 0) (p.getD i 0)=true)->qc lt n (kas_place p k f l r) Q
 |0,l,r,h1,h2,h3,a,b=>w l (by omega) a λi j c=>b i (by omega) c
 |f+1,l,r,h1,h2,h3,a,b=>by
  unfold kas_place;split
  .exact w l (by omega) a λi j c=>b i (by omega) c
  .refine⟨lg d h _,lg d h _,?_⟩;cases e:lt (p.getD k 0) (p.getD ((l+r) / 2) 0) with
   |true=>
    refine qb o h d g w f l ((l+r) / 2) (by omega) (by omega) (by omega) a λi j c=>?_;by_cases z:i=(l+r) / 2
    .rw[z];exact e
    .cases y:lt (p.getD k 0) (p.getD i 0) with
     |true=>rfl
     |false=>rw[o.tr (g ((l+r) / 2) i (by omega) c) y]at e;cases e
   |false=>
    refine qb o h d g w f ((l+r) / 2+1) r (by omega) h2 (by omega) (λi j=>?_) b;by_cases z:i=(l+r) / 2
    .rw[z];exact e
    .exact o.tr (g i ((l+r) / 2) (by omega) (by omega)) e
theorem AC(o:rG lt)(q:0<n){Q:Array Nat->Prop}(w:∀g,ux n g->DX lt g n->Q g):∀f p k,ux n p->k+f=n->DX lt p k->qc lt n (kas_bin f p k) Q
 |0,p,k,hp,h,hu=>w p hp (by rw[<-h];exact hu)
 |f+1,p,k,hp,h,hu=>by
  refine ki (qb o q hp hu (λl s a b=>?_) k 0 k (bD _) (aK _) (by omega) (λi e=>by omega) λi e h=>by omega);have m:=EC (p:=p) (k:=k) (l:=l) (by rw[kK hp];omega) s;refine AC o q w f _ (k+1) ((bubble_perm _ _ _).trans hp) (by omega) λi j r u=>?_;rw[m i,m j];by_cases e:i=l
  .rw[aQ e,aR (by omega),aQ (by omega)];exact o.as (b _ (by omega) (by omega))
  .rw[aR e];by_cases d:j=l
   .rw[aQ d,aR (by omega)];exact a _ (by omega)
   .rw[aR d];by_cases t:l<i
    .rw[aQ (c:=l<j/\j<=k) (by omega),aQ (c:=l<i/\i<=k) (by omega)];exact hu _ _ (by omega) (by omega)
    .rw[aR (c:=l<i/\i<=k) (by omega)];split
     .exact hu _ _ (by omega) (by omega)
     .exact hu _ _ (by omega) (by omega)
def Fi(o:rG lt)(b:0<n){Q:Array Nat->Prop}(w:∀p,ux n p->DX lt p n->Q p):qc lt n (kas_sort n) Q:=by
 refine ki (AK o b (Array.Perm.refl _) λm p c d e a=>?_);dsimp only;split
 .exact AC o b w _ p _ c (by omega) (by rw[Nat.max_eq_left d];exact a)
 .refine w p c ?_;obtain rfl:m=n:=by omega
  exact a
end
end L2
namespace L2
open PySem PySem.Spec PySem.W PyProof.Rows
def sH{a:Type}(l:List a)(d:a):(List.range l.length).map (λi=>l.getD i d)=l:=by refine List.ext_getElem (by simp) λi c b=>?_;simp[b]
def wt{a c:Type}{F:a->c->Prop}{l:List a}{m:List c}(h:Paired F l m)(g:a)(f:c){i:Nat}(d:i<l.length):F (l.getD i g) (m.getD i f):=by obtain⟨b,e,q⟩:=lE h (ag d);rw[af,ag d,af,e];exact q
theorem rl{b c a:Type}{F:b->c->Prop}(f:a->b)(g:a->c):∀(l:List a),(∀x∈l,F (f x) (g x))->Paired F (l.map f) (l.map g)
 |[],_=>.nil
 |x::l,h=>.cons (h x bh) (rl f g l λy d=>h y (bj _ d))
end L2
namespace L2
open PySem PySem.Spec PyProof.Rows
section
variable {prog:Program}{w:World}{K:Type}[DecidableEq K]{knd:KeyKind prog w K}
def fT(knd:KeyKind prog w K)(h:Heap)(k:K×List K)(a:Addr):Prop:=∃o v b n,h.get? a=some o/\o.cls=.type "tuple" /\o.data=.seq #[v,.ref b] n/\knd.is k.1 v=true/\IsTupleKey knd h k.2 b
def fT.typeIs{s:Sq}{k:K×List K}{a:Addr}(x:fT knd s.heap k a):s.TypeIs (.ref a) "tuple" :=let ⟨o,_,_,_,ho,hc,_⟩:=x;⟨o,ho,hc⟩
def fT.inj{h:Heap}{a:Addr}{x y:K×List K}(j:fT knd h x a)(r:fT knd h y a):x=y:=by obtain⟨o,v,b,n,q,_,p,z,s⟩:=j;obtain⟨l,k,t,A,f,_,d,g,e⟩:=r;obtain rfl:o=l:=Option.some.inj (q.symm.trans f);rw[p]at d;injection d with i _;have m:[v,Value.ref b]=[k,.ref t]:=congrArg Array.toList i;injection m with u c;injection c with c _;injection c with c;subst u c;exact Prod.ext (knd.inj _ _ _ z g) (s.inj e)
def fT.keeps{h h':Heap}{k:K×List K}{a d:Addr}{o:Obj}{es ep}(x:fT knd h k a)(l:h.get? d=some o)(j:o.data=.dict es ep)(i:Heap.SameBut d h h'):fT knd h' k a:=by
 obtain⟨g,v,b,n,e,m,c,q,p⟩:=x;have f:a≠d:=by rintro rfl;obtain rfl:g=o:=Option.some.inj (e.symm.trans l);rw[j]at c;exact nomatch c
 exact⟨g,v,b,n,(i.2 a f).trans e,m,c,q,p.keeps l j i⟩
def sO(knd:KeyKind prog w K)(k:K×List K):Int:=reduceHash (Builtin.Tuple.tupleHashOf [knd.hash k.1,tupleKeyHash knd k.2])
variable {A:Around}{E:Vq->Shared->Prop}{s:Sq}
def xj{k:K×List K}{a:Addr}{Q:Int->Shared->Prop}(g:A.units+1<cLine)(f:fT knd s.heap k a)(h:Q (sO knd k) {s with toks:=s.toks+(k.2.length+3)}):wpAny (model prog w) A (pyHash (.ref a)) Q E s:=by
 have c:=f.typeIs;obtain⟨o,v,b,n,l,_,i,j,e⟩:=f;unfold pyHash;first|unfold pyHashByItsType|skip
 first|refine aq (wpAny_cRoomFor_or (.inr (by omega)) ?_)|skip
 refine aq (wpAny_specialOf c F.slot_tuple_hash.lookup ?_);show wpAny _ _ (if (some (Value.builtin "tuple.__hash__")==some Value.none)=true then _ else _) Q E s;rw[aR (by rw[beq_builtin_none];exact aH)];refine aq (wpAny_specialOf c F.slot_tuple_hash.lookup ?_);show wpAny _ _ (callSpecialIfBoundUnlessNone? (.ref a) "__hash__" _ >>= _) Q E s;refine aq (wpAny_callSpecialIfBoundUnlessNone?_slot c F.slot_tuple_hash (wpAny_call_entry F.slot_tuple_hash c F.entry_tuple_hash ?_ (F.args_tuple_hash_1 _)));show wpAny _ _ (Builtin.Tuple.tupleItemsOf (.ref a) >>= _) _ _ s;refine aq (wpAny_tupleItemsOf l i ?_);refine aq ?_;rw[<-cy];show wpAny _ _ (forIn [v,Value.ref b] _ _) _ _ s;rw[bW];refine aq (aq (knd.pyHash j ?_));refine ao ?_;dsimp only;rw[bW];refine aq (aq (wpAny_pyHash_tuple (knd:=knd) (show A.units+1<cLine from g) e ?_));refine ao ?_;dsimp only;rw[cf];refine ao ?_;show wpAny _ _ (retInt (Builtin.Tuple.tupleHashOf [knd.hash k.1,tupleKeyHash knd k.2])) _ _ _;refine wpAny_ret_mkInt ?_;unfold sO reduceHash at h;show wpAny _ _ (if (decide (-(2:Int) ^ 63<=Builtin.Tuple.tupleHashOf [knd.hash k.1,tupleKeyHash knd k.2])&&decide (Builtin.Tuple.tupleHashOf [knd.hash k.1,tupleKeyHash knd k.2]<2 ^ 63))=true then _ else _) Q E _;have e:s.toks+1+(k.2.length+1)+1=s.toks+(k.2.length+3):=by omega
 by_cases d:(decide (-(2:Int) ^ 63<=Builtin.Tuple.tupleHashOf [knd.hash k.1,tupleKeyHash knd k.2])&&decide (Builtin.Tuple.tupleHashOf [knd.hash k.1,tupleKeyHash knd k.2]<2 ^ 63))=true
 .rw[aQ d];rw[aQ d]at h;refine ao ?_;dsimp only;rw[e];exact h
 .rw[aR d];rw[aR d]at h;refine aq (wpAny_rule (ao ?_));dsimp only;rw[e];exact h
def vH{x y:K×List K}{a b:Addr}{P:Fin->Shared->Prop}(B:A.units<cLine)(t:fT knd s.heap x a)(r:fT knd s.heap y b)(h:P (.done (.ret (.bool (decide (x=y))))) s) :
  wpAny (model prog w) A (Builtin.«tuple.__eq__» ⟨[.ref a,.ref b],[]⟩) P E s:=by
 have o:=r.typeIs;obtain⟨H,v,c,J,g,_,i,l,j⟩:=t;obtain⟨I,u,F,L,m,_,n,d,f⟩:=r;obtain⟨p,D⟩:=x;obtain⟨q,C⟩:=y;show wpAny _ _ (isInstance (.ref b) (.type "tuple") >>= _) _ _ s;refine aq (wpAny_isInstance o isSubtype_tuple_tuple ?_);simp only[cz,bX,if_false];refine aq (wpAny_tupleItemsOf g i ?_);refine aq (wpAny_tupleItemsOf m n ?_);refine aq ?_;show wpAny _ _ (forIn [(v,u),(Value.ref c,Value.ref F)] _ _) _ _ s;rw[bW];refine aq (aq (knd.eqBool (a:=p) (b:=q) l d ?_));by_cases e:p=q
 .subst e;rw[aC rfl];simp only[cz,bX,if_false];refine ao ?_;dsimp only;rw[bW];refine aq (aq (wpAny_eqBool_tuple (knd:=knd) B j f ?_));by_cases k:D=C
  .subst k;rw[aC rfl];simp only[cz,bX,if_false];refine ao ?_;dsimp only;rw[cf];refine ao (ao ?_);rw[aC rfl]at h;exact h
  .rw[aB k];simp only[cA,if_true];rw[aB (λz=>k (congrArg Prod.snd z))]at h;exact aq (ao (ao (ao (ao h))))
 .rw[aB e];simp only[cA,if_true];rw[aB (λz=>e (congrArg Prod.fst z))]at h;exact aq (ao (ao (ao (ao h))))
def xo{x y:K×List K}{a b:Addr}{Q:Bool->Shared->Prop}(g:A.units+1<cLine)(d:fT knd s.heap x a)(f:fT knd s.heap y b)(h:Q (decide (x=y)) s) :
  wpAny (model prog w) A (eqBool (.ref a) (.ref b)) Q E s:=by
 unfold eqBool;try with_reducible refine wpAny_holding ?_;show wpAny _ _ (if (Value.ref a==Value.ref b)=true then _ else _) Q E s;by_cases c:(Value.ref a==Value.ref b)=true
 .rw[aQ c];have e:a=b:=by have:=eq_of_beq c;injection this
  subst e;obtain rfl:=d.inj f;exact aq (wpAny_rule (ao (by simpa using h)))
 .rw[aR c];exact aq (wpAny_richCompare_same_room (op:=.Eq) d.typeIs f.typeIs F.slot_tuple_eq
   (wpAny_call_entry F.slot_tuple_eq d.typeIs F.entry_tuple_eq (vH (show A.units+1<cLine from g) d f ⟨_,rfl,(λe=>nomatch e),wpAny_truthy_bool h⟩) (F.args_tuple_eq_2 _ _)) (by omega))
def wN{m:Nat}{ks:List K}{a:Addr}{Q:Bool->Shared->Prop}(j:IsTupleKey knd s.heap ks a)(h:Q true s):wpAny (model prog w) A (eqIsQuiet (m+1) (.ref a)) Q E s:=by
 have g:=j.typeIs;obtain⟨o,b,n,l,_,k,p⟩:=j;unfold eqIsQuiet;refine aq (wpAny_specialOf g F.slot_tuple_eq.lookup ?_);show wpAny _ _ (isInstance (.ref a) (.type "tuple") >>= _) _ _ s;refine aq (wpAny_isInstance g isSubtype_tuple_tuple ?_);simp only[cz,bX,if_false];refine aq (wpAny_seqItems l k ?_);refine aq ?_;show wpAny _ _ (forIn b _ _) _ _ s;rw[<-cy];refine wpAny_forIn_list _ (λf r e=>r.1=none/\e=s/\∀v∈f,carriedByValue v=true) _ ?_ ?_ _ _ ⟨rfl,rfl,p.byValue⟩
 .rintro v f r e ⟨d,rfl,i⟩;rw[eqIsQuiet_byValue _ (i v bh)];refine aq (ao ?_);simp only[cz,bX,if_false];exact ao ⟨rfl,rfl,λu c=>i u (bj _ c)⟩
 .rintro⟨t,q⟩ e ⟨d,rfl,_⟩;simp only at d;subst d;exact ao h
def yr{k:K×List K}{a:Addr}{Q:Bool->Shared->Prop}(d:fT knd s.heap k a)(h:Q true s):wpAny (model prog w) A (eqIsQuiet 8 (.ref a)) Q E s:=by have c:=d.typeIs;obtain⟨o,v,b,n,i,_,f,e,g⟩:=d;unfold eqIsQuiet;refine aq (wpAny_specialOf c F.slot_tuple_eq.lookup ?_);show wpAny _ _ (isInstance (.ref a) (.type "tuple") >>= _) _ _ s;refine aq (wpAny_isInstance c isSubtype_tuple_tuple ?_);simp only[cz,bX,if_false];refine aq (wpAny_seqItems i f ?_);refine aq ?_;rw[<-cy];show wpAny _ _ (forIn [v,Value.ref b] _ _) _ _ s;rw[bW,eqIsQuiet_byValue _ (knd.byValue _ _ e)];refine aq (aq (ao ?_));simp only[cz,bX,if_false];refine ao ?_;dsimp only;rw[bW];refine aq (aq (wN (knd:=knd) g ?_));simp only[cz,bX,if_false];refine ao ?_;dsimp only;rw[cf];exact ao (ao h)
end
def sJ{prog:Program}{w:World}{K:Type}[DecidableEq K](knd:KeyKind prog w K):HeapKind prog w (K×List K) where
 is:=fT knd
 hash:=sO knd
 draws:=λk=>k.2.length+3
 room:=λA=>A.units+1<cLine
 inj:=λb c=>b.inj c
 keeps:=λx g e f=>x.keeps g e f
 pyHash:=λa d h=>xj a d h
 eqBool:=λa b c h=>xo a b c h
 quiet:=λd h=>yr d h
end L2
namespace L2
open PySem PySem.Spec PyProof.Rows
abbrev FE:=(lB×List lB)×Addr×Value
def MV(P:Program)(w:World)(a:Addr)(b:List FE)(h:Heap):Prop:=(a==sysModules)=false/\b.length<=sizeLine/\∃o c d,h.get? a=some o/\o.ExactDict/\o.data=.dict c d/\c.toList=b.map (entryOfKey (sJ (jh P w)))/\(b.map (·.1)).Nodup
def qq(P:Program)(w:World)(a:Addr)(b:List FE):HO:=.ext (MV P w a b)
def vR(H:Hp)(k:lB×List lB)(b:Addr):Prop:=∃a,H b=some (.tup [kV k.1,.ref a])/\H a=some (.tup (k.2.map kV))
section
variable {P:Program}{w:World}{H H':Hp}{h h':Heap}{a b:Addr}{xs:List FE}{k:lB×List lB}
def Eg(x:MV P w a xs h):gq P w H h a (qq P w a xs):=by
 refine⟨x,?_,λi j y q=>?_⟩
 .obtain⟨_,_,o,_,_,e,_⟩:=x;exact⟨o,e⟩
 .obtain⟨g,c,o,d,f,e,r⟩:=y;exact⟨g,c,o,d,f,q o e,r⟩
def B9(ok:nv P w H h)(x:vR H k b):(sJ (jh P w)).is h k b:=by
 obtain⟨c,g,d⟩:=x;obtain⟨_,j,r,o,i,e,n,f,_⟩:=(show gq P w H h b (.tup [kV k.1,.ref c]) from ok b _ g);have:=zk ok d;cases r with
 |cons r1 r2=>
  cases r2 with
  |cons r3 r4=>cases r4;cases (show _=Value.ref c from r3);exact⟨o,_,c,n,i,e,f,Ib r1,this⟩
def zx(ok:nv P w H h)(e:H a=some (qq P w a xs))(n:∀x∈xs,vR H x.1 x.2.1):MV P w a xs h/\h.DictOfH (sJ (jh P w)) a xs:=by obtain⟨x,_,_⟩:=(show gq P w H h a (qq P w a xs) from ok a _ e);refine⟨x,?_⟩;obtain⟨_,_,o,i,m,j,c,d,f,l⟩:=x;exact⟨o,i,m,j,c,d,f,λx g=>B9 ok (n x g),l⟩
end
section
variable {X:Cx}{eh:List (Addr×Obj)}{σ:St}{H:Hp}{s:Sq}{a b:Addr}{xs:List FE}{k:lB×List lB}{r:Vq}{A:Around}{E:Vq->Shared->Prop}
def I0{Q:Unit->Shared->Prop}(v:A.units+2<cLine)(I:eO X eh σ H s)(e:H a=some (qq X.prog X.w a xs))(u:∀x∈xs,vR H x.1 x.2.1)(p:vR H k b)(y:xs.length<sizeLine)
  (h:∀f,eO X eh σ (fN H a (qq X.prog X.w a (storedH xs k b r))) f->Q () f):wpAny (model X.prog X.w) A (setItem (.ref a) (.ref b) r) Q E s:=by
 obtain⟨x,j⟩:=zx I.hok e u;refine wpAny_setItem_heap (hsz:=by omega) (show A.units+1+1<cLine by omega) (B9 I.hok p) j λz c l=>h _ ?_;obtain⟨q,g,n,d,o,i,m,_,t⟩:=c;refine zv I (by rw[e];exact True.intro) l ⟨q,d⟩ (Eg ⟨x.1,?_,q,g,n,d,o,i,m,t⟩);unfold storedH;split
 .rw[ax];omega
 .rw[aT,bS];omega
def yp(C:X.calm=true):i7 X (.type "list") (λn H Q=>∃a xs,n=[.ref a]/\H a=some (qq X.prog X.w a xs)/\∀l:Addr,H l=none->Q (.ref l) (fN H l (.lst (xs.map λx=>.ref x.2.1)))):=by
 intro eh s σ H n us Q I r h;obtain⟨a,xs,rfl,e,q⟩:=h;obtain⟨u,rfl,U⟩:=oK r;cases U;obtain⟨⟨R,z,o,g,J,Y,F,K,p,nd⟩,_,_⟩:=(show gq X.prog X.w H s.heap a (qq X.prog X.w a xs) from I.hok a _ e);have sz:g.size=xs.length:=by rw[<-bq,p,ax]
 refine W.kdl_call (Ao R) (I.ok.hd C) (⟨o,Y,F,K⟩:oH s.heap a g J) (by rw[sz];exact z) λh' tk c c' Z N d=>?_;have j:∀(i:Nat) v,c[i]? = some v->∃y,xs[i]? = some y/\v=.ref y.2.1:=λi v m=>by
  obtain⟨en,B,L⟩:=d.2 i v m;have f:g.toList[i]? = some en:=by simpa using B
  rw[p,aw]at f;cases t:xs[i]? with
  |none=>rw[t]at f;cases f
  |some y=>rw[t]at f;cases f;exact⟨y,rfl,L⟩
 have S:c.size=xs.length:=by rw[<-sz];exact d.1
 have P:fu (xs.map λx=>V.ref x.2.1) c.toList:=by refine qw (by simp[S]) λi v m=>?_;obtain⟨y,e1,D⟩:=j i v (by simpa using m);exact⟨.ref y.2.1,by simp[e1],by rw[D];rfl⟩
 exact⟨.ref s.heap.objs.size,_,I.laid Z (aK _) (show gq X.prog X.w _ h' _ (.lst (xs.map λx=>V.ref x.2.1)) from ⟨by rw[ax];exact z,c.toList,c',P,by simpa using N⟩),rfl,q _ (I.hok.fresh (aK _))⟩
end
end L2
namespace L2
open PySem PySem.Spec PySem.W PyProof.Rows
def qi(m:List Vq)(l:List Vq)(h:TriplesOk l):jc (l++m)=jc l++jc m:=by
 fun_induction TriplesOk l with
 |case1=>rfl
 |case2 a b c d v r ih=>show v::jc (r++m)=v::(jc r++jc m);rw[ih h]
 |case3=>exact h.elim
def xn(m:List Vq)(e:TriplesOk m)(l:List Vq)(h:TriplesOk l):TriplesOk (l++m):=by
 fun_induction TriplesOk l with
 |case1=>exact e
 |case2 a b c d v r ih=>exact ih h
 |case3=>exact h.elim
def ui{a:Pos}{v:Vq}(l:List Vq)(h:codeAmong a l=some v):v∈jc l:=by
 fun_induction codeAmong a l with
 |case1=>cases h;exact bh
 |case2 _ _ _ _ _ _ _ ih=>exact bj _ (ih h)
 |case3=>cases h
def nT(H:Hp)(P:Addr)(q:Str)(b:Addr):Prop:=∃a,H P=some (.tbl q a)/\Value.ref b∈jc a.toList
section
variable {X:Cx}{eh:List (Addr×Obj)}{σ:St}{H H':Hp}{s:Sq}{P c':Addr}{q:Str}
def nT.rec'{prog:Program}{w:World}{h:Heap}(t:nT H P q c')(ok:nv prog w H h):h.CodeRec (.ref c') q:=by obtain⟨c,e,m⟩:=t;obtain⟨b,a,_,r⟩:=((show gq prog w H h P (.tbl q c) from ok P _ e)).2.2 _ m;cases a;exact r
def nT.grow{prog:Program}{w:World}{h:Heap}(t:nT H P q c')(ok:nv prog w H h)(g:∀b,H P=some (.tbl q b)->∃a,H' P=some (.tbl q (b++a))):nT H' P q c':=by obtain⟨b,e,m⟩:=t;obtain⟨a,c⟩:=g b e;refine⟨_,c,?_⟩;rw[Array.toList_append,qi _ _ ((show gq prog w H h P (.tbl q b) from ok P _ e)).2.1];exact ay _ m
end
section
variable {P:Program}{w:World}{mg:Str->Option Value}{base:Heap}{k:Nat}{f:Addr}{N ps:List Str}{name qual:Str}{params:Arguments}{body:Expr}{scope:Scope}{A:Around}{outer:List Env}{s:Sq}{H:Hp}{args:Args}{us:List Vq}{vs:List V}{Q:VK}
def FP{K:W.Frag}{m d:Vq}{g:Addr}(L:s.heap.get? f=some (kla_obj name qual params body scope [] m g d))(j:s.heap.CodeRec (.ref g) qual)(S:fK N ps scope)
  (D:vs.length=ps.length) (l:fP (k+1) A) (i:rY P w K mg base A outer s H) (B:BindsTo s (kla_fn name qual params body scope [] m (.ref g) d) args (ps.zip us)) (r:fu vs us)
  (c:∃t,PE (kx nH P w K mg base N qual scope f (.ref g) A outer s H E0).nox body t/\t (iM N vs) H Q) :
  codeAny (model P w) A (.call (.ref f) args) (CR nH outer P w H s Q E0) s:=by
 have h:=i.mod.nolimit.keeps λb o e=>(i.bs b o e).1;have a:∀y∈ps.zip us,scope.names.lookup y.1=some .local\/(scope.names.lookup y.1=some .cell/\((cellsFrom (s.heap.objs.size+1) scope.names []).lookup y.1).isSome=true):=λ⟨n,v⟩ hy=>by
  rcases S.par n (aW hy).1 with q|q
  .exact .inl q
  .exact .inr ⟨q,W.cellsFrom_some _ _ _ (.inl q)⟩
 refine kla_callFunE l.depth L rfl S.co S.gen rfl j (B _ _ _ _ ?_);refine wpAny_newFunctionEnv_cells S.kind a λU C p x=>?_;subst C;refine⟨h.keeps x.toInCall.keep,kla_codeExpr ?_⟩;obtain⟨t,R,E⟩:=c;have I:eO (kx nH P w K mg base N qual scope f (.ref g) A outer s H E0) [] (iM N vs) H p:=ua S l.hd i D r x;exact wpAny_mono (R [] p (iM N vs) H _ (I.wish _) E) (λu F ⟨v,H',J,rv,q⟩=>⟨v,H',J.os,J.bare,J.base,J.hok,rv,q⟩) λe F z=>z.elim
end
section
variable {X:Cx}{eh:List (Addr×Obj)}{σ:St}{H:Hp}{s:Sq}{c P:Addr}{qn:Str}{params:Arguments}{body:Expr}{scope:Scope}{pos:Pos}{A:Around}{E:Vq->Shared->Prop}{Q:Vq->Shared->Prop}
theorem Dg(I:eO X eh σ H s)(p:X.env.code=.ref c)(C:CodeHd X.base c P)(jW:(c,P)∈X.base.life.ids)(hrc:X.base.CodeRec (.ref c) qn)(hb:X.base.BuiltinsAt X.mg P)
  (hq:qn++ ".<locals>.<lambda>" = X.env.qual++ "<lambda>") (U:closureFor scope X.env=pure []) (hdef:defaultsOf params X.env=([],[]))
  (h:∀f a g pm H' s',eO X eh σ H' s'->eN H H'->(∀b,H b=none->b<s.heap.objs.size->H' b=none)->s.heap.objs.size<=f->H' f=none->nT H' P (X.env.qual++ "<lambda>") a->
   s'.heap.get? f=some (kla_obj "<lambda>" (X.env.qual++ "<lambda>") params body scope [] pm a g)->Q (.ref f) s') :
  wpAny (model X.prog X.w) A (eval (.Lambda params body scope pos) X.env) Q E s:=by
 obtain⟨k,m⟩:=I.tab c P qn jW hrc;rw[hq]at m;obtain⟨oP,tri,F⟩:=(show gq X.prog X.w H s.heap P (.tbl _ k) from I.hok P _ m);have G:s.heap.Ns mainGlobals X.mg:=let ⟨o,es,ep,e,r⟩:=I.ok.mod.glob;⟨o,es,ep,I.bk _ _ e,r⟩;have hgP:mainGlobals≠P:=λz=>by obtain⟨o,es,ep,e,r⟩:=I.ok.mod.glob;have:=(I.bs _ _ e).2;rw[z,m]at this;cases this
 have C':CodeHd s.heap c P:=C.keeps I.bk;have hb':s.heap.BuiltinsAt X.mg P:=let ⟨bm,o,h1,h2,h3,h4,h5,r⟩:=hb;⟨bm,o,h1,h2,h3,h4,I.bk _ _ h5,r⟩;refine kla_eval hdef ?_;cases hc:codeAmong pos k.toList with
 |some cv=>obtain⟨b,rfl,hbo,hbr⟩:=F cv (ui _ hc);refine kla_makeFunctionHit (mg:=X.mg) U I.ok.glob G p C' oP tri hc hb' λg L tk K hsz=>?_;have I':eO X eh σ H {s with heap:=L.push {cls:=.type "function",data:=.func (kla_fn "<lambda>" (X.env.qual++ "<lambda>") params body scope [] ((X.mg "__name__").getD .none) (.ref b) g)},toks:=tk}:=I.kept λb o e=>ae _ (K b o e);exact h _ b g _ H _ I' (.refl _) (λ_ e _=>e) hsz (I.hok.fresh hsz) ⟨k,m,ui _ hc⟩ (au _ rfl)
 |none=>
  refine kla_makeFunction (mg:=X.mg) U I.ok.glob G p C' oP tri hc hgP hb' λa g L tk hx j J D Z=>?_;have hc0:H a=none:=I.hok.fresh j;have cP:a≠P:=λz=>by rw[z]at j;exact absurd (I.hok.lt m) (ck.mpr j)
  have tri':TriplesOk [rawInt pos.line,rawInt pos.col,.ref a]:=by simp[TriplesOk,rawInt]
  have al:(k++#[rawInt pos.line,rawInt pos.col,Value.ref a]).toList=k.toList++[rawInt pos.line,rawInt pos.col,.ref a]:=by simp
  have i:∀b,b≠P->b≠a->fN (fN H a (.own P)) P (.tbl (X.env.qual++ "<lambda>") (k++#[rawInt pos.line,rawInt pos.col,.ref a])) b=H b:=λb h1 h2=>by rw[eM h1,eM h2]
  have S:fN (fN H a (.own P)) P (.tbl (X.env.qual++ "<lambda>") (k++#[rawInt pos.line,rawInt pos.col,.ref a])) a=some (.own P):=by rw[eM cP,eJ]
  have x:∀b u,H b=some u->b≠a:=λb u e=>eV e hc0;have K:∀b o,b≠P->s.heap.get? b=some o->(L.push (kla_obj "<lambda>" (X.env.qual++ "<lambda>") params body scope [] ((X.mg "__name__").getD .none) a g)).get? b=some o:=λb o hb e=>ae _ (hx b o hb e);have nP:∀b,H b=none->b≠P:=λb e z=>by rw[z,m]at e;cases e
  have fre:∀b,H b=none->b<s.heap.objs.size->fN (fN H a (.own P)) P (.tbl (X.env.qual++ "<lambda>") (k++#[rawInt pos.line,rawInt pos.col,.ref a])) b=none:=λb e l=>by rw[i b (nP b e) (aM (aE l j))];exact e
  have sm:eN H (fN (fN H a (.own P)) P (.tbl (X.env.qual++ "<lambda>") (k++#[rawInt pos.line,rawInt pos.col,.ref a]))):=λb u e=>by
   by_cases z:b=P
   .subst z;rw[m]at e;cases e;rw[eJ];exact⟨_,rfl⟩
   .rw[i b z (x b u e)];exact .of e
  have hok:nv X.prog X.w (fN (fN H a (.own P)) P (.tbl (X.env.qual++ "<lambda>") (k++#[rawInt pos.line,rawInt pos.col,.ref a]))) (L.push (kla_obj "<lambda>" (X.env.qual++ "<lambda>") params body scope [] ((X.mg "__name__").getD .none) a g)):=λb u e=>by
   by_cases z:b=P
   .subst z;rw[eJ]at e;cases e;refine⟨ae _ Z,by rw[al];exact xn _ tri' _ tri,λv R=>?_⟩;rw[al,qi _ _ tri]at R;rcases ai.mp R with R|R
    .obtain⟨d,rfl,t,hr⟩:=F v R;obtain⟨d',N,vs,tt,Y,e2,e3⟩:=hr;cases Y;exact⟨d,rfl,by rw[i d (λz=>by rw[z,m]at t;cases t) (x d _ t)];exact t,d,N,vs,tt,rfl,K d N (λz=>by rw[z,m]at t;cases t) e2,e3⟩
    .have:v=.ref a:=by simpa[jc] using R
     subst this;obtain⟨d',N,vs,tt,Y,e2,e3⟩:=D;cases Y;exact⟨a,rfl,S,a,N,vs,tt,rfl,ae _ e2,e3⟩
   .by_cases y:b=a
    .subst y;rw[S]at e;cases e;obtain⟨d',N,vs,tt,Y,e2,e3⟩:=D;cases Y;exact⟨N,ae _ e2⟩
    .rw[i b z y]at e;have B:∀d,H d=some (.own b)->d≠P:=λd r w=>by rw[w,m]at r;cases r
     refine (I.hok b u e).stay (λd v t r=>K d v ?_ r) (λd r=>by rw[i d (B d r) (x d _ r)];exact r) λd xs r=>by rw[i d (λw=>by rw[w,m]at r;cases r) (x d _ r)];exact r
     rcases t with rfl|t
     .exact z
     .exact B d t
  have un:Un X.fs [] H (fN (fN H a (.own P)) P (.tbl (X.env.qual++ "<lambda>") (k++#[rawInt pos.line,rawInt pos.col,.ref a]))) s.heap (L.push (kla_obj "<lambda>" (X.env.qual++ "<lambda>") params body scope [] ((X.mg "__name__").getD .none) a g)):=
   ⟨λb o e n _ _=>K b o (nP b n) e,λb o e n _ _=>⟨o.slots,K b o (nP b n) e⟩,λb o e n _=>fre b n (aL e),λb o e _=>by
    by_cases z:b=P
    .subst z;exact⟨_,ae _ Z⟩
    .exact⟨o,K b o z e⟩,λb xs e=>sm b _ e,λb o u e=>sm b _ e,λb q k e=>sm b _ e⟩
  refine h _ a g _ _ _ (I.un un hok) sm fre (bf (cB j J)) ?_ ⟨_,eJ,?_⟩ (au _ rfl)
  .have hf:s.heap.objs.size<=L.objs.size:=bf (cB j J);rw[i _ (λz=>by rw[z]at hf;exact absurd (I.hok.lt m) (ck.mpr hf)) (br J)];exact I.hok.fresh hf
  .rw[al,qi _ _ tri];exact bu _ bh
end
end L2
namespace L2
open PySem PySem.Spec PySem.W PyProof.Rows
def GT:LI->LI->Option Bool
 |x::a,y::b=>if x=y then GT a b else some (decide (x<y))
 |_,_=>none
def mr(a b:LI):Bool:=(GT a b).getD (decide (a.length<b.length))
def oC(b:LI):mr [] b=decide (0<b.length):=by cases b<;>rfl
def pP(a:LI):mr a []=false:=by cases a<;>simp[mr,GT]
def m7(x y:Int)(a b:LI):mr (x::a) (y::b)=if x=y then mr a b else decide (x<y):=by
 unfold mr;rw[GT];by_cases h:x=y
 .rw[aQ h,aQ h];simp
 .rw[aR h,aR h];rfl
theorem zD:∀{a b:LI},mr a b=true->mr b a=false
 |[],b,h=>pP b
 |a::l,[],h=>by rw[pP]at h;cases h
 |x::a,y::b,h=>by
  rw[m7]at h ⊢;by_cases e:x=y
  .rw[aQ e]at h;rw[aQ e.symm];exact zD h
  .rw[aR e]at h;rw[aR (λz=>e z.symm)];have:=of_decide_eq_true h;exact aB (by omega)
theorem Af:∀{a b c:LI},mr b a=false->mr c b=false->mr c a=false
 |[],b,c,_,_=>pP c
 |x::a,[],c,h,_=>by rw[oC]at h;simp at h
 |x::a,y::b,[],_,h=>by rw[oC]at h;simp at h
 |x::a,y::b,z::c,e,d=>by
  rw[m7]at e d ⊢;by_cases g:y=x
  .rw[aQ g]at e;by_cases f:z=y
   .rw[aQ f]at d;rw[aQ (f.trans g)];exact Af e d
   .rw[aR f]at d;rw[aR (by omega),<-g];exact d
  .rw[aR g]at e;have e:=of_decide_eq_false e;by_cases f:z=y
   .rw[aR (by omega)];exact aB (by omega)
   .rw[aR f]at d;have d:=of_decide_eq_false d;rw[aR (by omega)];exact aB (by omega)
theorem uG:∀a:LI,mr a a=false
 |[]=>rfl
 |x::a=>by rw[m7,aQ rfl];exact uG a
theorem xO:∀{a b:LI},mr a b=false->mr b a=false->a=b
 |[],[],_,_=>rfl
 |[],y::b,h,_=>by rw[oC]at h;simp at h
 |x::a,[],_,h=>by rw[oC]at h;simp at h
 |x::a,y::b,h1,h2=>by
  rw[m7]at h1 h2;by_cases e:x=y
  .rw[aQ e]at h1;rw[aQ e.symm]at h2;rw[e,xO h1 h2]
  .rw[aR e]at h1;rw[aR (λz=>e z.symm)]at h2;have:=of_decide_eq_false h1;have:=of_decide_eq_false h2;omega
abbrev Ky:=Int×LI
def qT(f g:Ky):Bool:=if f.1=g.1 then mr f.2 g.2 else decide (f.1<g.1)
def Dm{f g:Ky}(h:qT f g=true):qT g f=false:=by
 unfold qT at h ⊢;by_cases e:f.1=g.1
 .rw[aQ e]at h;rw[aQ e.symm];exact zD h
 .rw[aR e]at h;rw[aR (λz=>e z.symm)];have:=of_decide_eq_true h;exact aB (by omega)
def EX{a b c:Ky}(e:qT b a=false)(d:qT c b=false):qT c a=false:=by
 unfold qT at e d ⊢;by_cases g:b.1=a.1
 .rw[aQ g]at e;by_cases f:c.1=b.1
  .rw[aQ f]at d;rw[aQ (f.trans g)];exact Af e d
  .rw[aR f]at d;rw[aR (by omega),<-g];exact d
 .rw[aR g]at e;have e:=of_decide_eq_false e;by_cases f:c.1=b.1
  .rw[aR (by omega)];exact aB (by omega)
  .rw[aR f]at d;have d:=of_decide_eq_false d;rw[aR (by omega)];exact aB (by omega)
def G2(fs:List Ky)(d:Ky):rG λi j=>qT (fs.getD i d) (fs.getD j d):=⟨λp q=>EX p q,λp=>Dm p⟩
section
variable {prog:Program}{w:World}{A:Around}{E:Vq->Shared->Prop}{s:Sq}
theorem Am{R:Oq Fin×Unit->Shared->Prop}{a:Vq×Value->Option Fin×Unit->Sem (ForInStep (Option Fin×Unit))}
  (d:∀(n m:Int) (t u:Tok) (b:ForInStep (Option Fin×Unit)->Shared->Prop),(n=m->b (.yield (none,())) s)->(n≠m->b (.done (some (.done (.ret (.bool (decide (n<m))))),())) s)->wpAny (model prog w) A (a (.int n t,.int m u) (none,())) b E s)
  : ∀{g f:List Vq} {i j:LI},IntsAre g i->IntsAre f j->(∀o,GT i j=o->R (o.map λc=>Fin.done (.ret (.bool c)),()) s)->wpAny (model prog w) A (forIn (g.zip f) (none,()) a) R E s
 |_,_,_,_,.nil,_,h=>by rw[List.zip_nil_left,cf];exact ao (h none (by simp[GT]))
 |_,_,_,_,.cons _ _ _,.nil,h=>by rw[List.zip_nil_right,cf];exact ao (h none (by simp[GT]))
 |_,_,_,_,.cons n t hx,.cons m u hy,h=>by
  rw[cC,bW];refine aq (d n m t u _ (λe=>?_) λe=>?_)
  .exact Am d hx hy λo k=>h o (by rw[GT,aQ e];exact k)
  .exact ao (h (some (decide (n<m))) (by rw[GT,aR e]))
theorem tK{a b:Addr}{x f:Obj}{k j:Array Vq}{D I:Nat}{l p:LI}{P:Fin->Shared->Prop}(g:s.heap.get? a=some x)(i:x.data=.seq k D)(d:s.heap.get? b=some f)(r:f.cls=.type "tuple")(q:f.data=.seq j I)
  (v:IntsAre k.toList l) (y:IntsAre j.toList p) (h:P (.done (.ret (.bool (mr l p)))) s) :
  wpAny (model prog w) A (Builtin.«tuple.__lt__» ⟨[.ref a,.ref b],[]⟩) P E s:=by
 show wpAny _ _ (isInstance (.ref b) (.type "tuple") >>= _) _ _ s;refine aq (wpAny_isInstance ⟨f,d,r⟩ isSubtype_tuple_tuple ?_);simp only[cz,bX,if_false];refine aq (wpAny_tupleItemsOf g i ?_);refine aq (wpAny_tupleItemsOf d q ?_);refine aq (Am (s:=s) (λn m t u J z C=>?_) v y λo F=>?_)
 .refine aq (wpAny_eqBool_int ?_);by_cases e:n=m
  .rw[show (n==m)=true from beq_iff_eq.mpr e];simp only[cz,bX,if_false];exact ao (z e)
  .rw[show (n==m)=false from beq_eq_false_iff_ne.mpr e];simp only[cA,if_true];refine aq (wpAny_rule ?_);refine aq (wpAny_lt_int ?_);exact aq (ao (ao (C e)))
 .have B:k.size=l.length:=by rw[<-bq,v.length]
  have H:j.size=p.length:=by rw[<-bq,y.length]
  unfold mr at h;rw[F]at h;cases o with
  |none=>refine ao ?_;rw[B,H];exact h
  |some c=>exact ao h
end
end L2
namespace L2
open PySem PySem.Spec PySem.W PyProof.Rows
structure Ow(X:Cx)(eh:List (Addr×Obj))(a:Addr):Prop where
 l:a≠X.env.locals
 f:a∉X.fs
 z:X.s₀.heap.objs.size<=a
 c:∀x c,X.env.cells.lookup x=some c->c≠a
 p:∀q∈X.pn++eh,q.1≠a
section
variable {X:Cx}{eh:List (Addr×Obj)}{σ:St}{H:Hp}{s:Sq}{a:Addr}
def eO.ow(I:eO X eh σ H s)(h:s.heap.objs.size<=a):Ow X eh a where
 l:=br (aE I.lt h)
 f:=I.nofs h
 z:=aN I.sz h
 c:=λx c e q=>by obtain⟨v,o,d,_⟩:=I.cell x c e;subst q;exact absurd (aL d) (ck.mpr h)
 p:=λq b e=>by have:=aL (I.pin q b).1;rw[e]at this;exact absurd this (ck.mpr h)
def Ow.turn{h':Heap}{t':Nat}(o:Ow X eh a)(I:eO X eh σ H s)(d:H a=none)(k:∀b u,b≠a->s.heap.get? b=some u->h'.get? b=some u):eO X eh σ H {s with heap:=h',toks:=t'}:=I.turned k d o.l (.inr o.z) o.c o.p
def Ow.stk(o:Ow X eh a)(I:eO X eh σ H s):a∉Ab X.stack:=λz=>by
 rcases aF.mp (I.stkSub a z) with e|e
 .exact o.l e
 .exact o.f e
end
def tm(H:Hp)(b:Addr)(f:Ky):Prop:=∃a,H b=some (.tup [.int f.1,.ref a])/\H a=some (.tup (f.2.map V.int))
def zg(H:Hp)(v:Vq)(f:Ky):Prop:=∃a,v=.ref a/\tm H a f
def tm.mono{H a:Hp}{b:Addr}{f:Ky}(x:tm H b f)(h:eN H a):tm a b f:=let ⟨b2,e1,e2⟩:=x;⟨b2,h _ _ e1,h _ _ e2⟩
def ky(f:Ky):Ky:=(-f.1,f.2)
section
variable {X:Cx}{eh:List (Addr×Obj)}{σ:St}{H:Hp}{s:Sq}{A:Around}{E:Vq->Shared->Prop}
def ve(I:eO X eh σ H s){a:Addr}{f:Ky}(x:tm H a f):∃o t b n o2 its d,s.heap.get? a=some o/\o.cls=.type "tuple" /\o.data=.seq #[.int f.1 t,.ref b] n/\s.heap.get? b=some o2/\o2.cls=.type "tuple" /\o2.data=.seq its d/\IntsAre its.toList f.2/\H b=some (.tup (f.2.map V.int)):=by
 obtain⟨b,p,i⟩:=x;obtain⟨_,its,r,o,m,j,n,l,_⟩:=(show gq X.prog X.w H s.heap a (.tup _) from I.hok a _ p);obtain⟨_,c,k,o2,h,g,d,e,_⟩:=(show gq X.prog X.w H s.heap b (.tup _) from I.hok b _ i);cases r with
 |cons r1 r'=>
  cases r' with
  |cons r3 r4=>cases r4;obtain⟨t,rfl⟩:=r1;cases (show _=Value.ref b from r3);exact⟨o,t,b,n,o2,c.toArray,d,m,j,l,h,g,e,by simpa using oo k,i⟩
def Hg(hu:A.units+2<cLine)(I:eO X eh σ H s){ks:List Vq}{fs:List Ky}(R:Paired (zg H) ks fs)(d:Ky){i j:Nat}{C:Bool->Shared->Prop}(N:i<ks.length)(L:j<ks.length)(h:C (qT (fs.getD i d) (fs.getD j d)) s) :
  kas_ask X.prog X.w A (tuples' (Value.type "int" != Value.type "tuple")) ks i j C s:=by
 obtain⟨f,e1,a,e2,xa⟩:=lE R (ag N);obtain⟨g,l,a',m,p⟩:=lE R (ag L);rw[show fs.getD i d=f by rw[af,e1];rfl,show fs.getD j d=g by rw[af,l];rfl]at h;obtain⟨o,t,Z,n,o2,its,n2,S,h2,Y,u,Q,h6,h7,h8⟩:=ve I xa;obtain⟨o',t',J,n',v,P,n2',r,h2',k,c,b,K,B,D⟩:=ve I p;unfold kas_ask;rw[af,ag N,af,ag L];show wpAny _ A (keyLt' _ ks[i] ks[j]) C _ _;rw[e2,m];refine kat_lt S Y r k ?_;show KatLex _ _ _ _ false _ [(.int f.1 t,.int g.1 t'),(.ref Z,.ref J)] 0 _;unfold qT at h;refine kat_cons (wpAny_eqBool_int ?_);by_cases e:f.1=g.1
 .rw[aQ e]at h;rw[show (f.1==g.1)=true from beq_iff_eq.mpr e];refine kat_yes (kat_cons (wpAny_eqBool_tuple (knd:=jh X.prog X.w) (x:=f.2.map Sum.inl) (y:=g.2.map Sum.inl) (by omega) (zk I.hok (by rw[aI];exact h8)) (zk I.hok (by rw[aI];exact D)) ?_));by_cases z:f.2=g.2
  .rw[aC (show f.2.map (Sum.inl:Int->lB)=g.2.map Sum.inl by rw[z])];rw[z,uG]at h;exact kat_yes (kat_nil h)
  .have U:f.2.map (Sum.inl:Int->lB)≠g.2.map Sum.inl:=λq=>z ((cD λ_ _ w=>Sum.inl.inj w).mp q);rw[aB U];refine kat_no ?_;refine kat_one _ _ ?_;refine wpAny_richCompare_same_room (op:=.Lt) ⟨o2,u,Q⟩ ⟨v,c,b⟩ F.slot_tuple_lt (wpAny_call_entry F.slot_tuple_lt ⟨o2,u,Q⟩ F.entry_tuple_lt (tK u h6 c b K h7 B ⟨_,rfl,(λq=>nomatch q),h⟩) (F.args_tuple_lt_2 _ _)) (by omega)
 .rw[aR e]at h;rw[show (f.1==g.1)=false from beq_eq_false_iff_ne.mpr e];refine kat_no ?_;exact oneLt_int h
theorem Dd(I:eO X eh σ H s){ks:List Vq}{fs:List Ky}(u:Paired (zg H) ks fs)(j:1<=ks.length){Q:SortKind->Shared->Prop}(h:Q (tuples' (Value.type "int" != Value.type "tuple")) s) :
  wpAny (model X.prog X.w) A (keyKind' ks.toArray) Q E s:=by
 have go:∀{ks:List Vq} {fs:List Ky},Paired (zg H) ks fs->∃b,KatTups s.heap ks b/\b.length=ks.length/\∀f∈b,∃i t,f=Value.int i t:=λ{ks fs} p=>by
  induction p with
  |nil=>exact⟨[],trivial,rfl,λ_ z=>nomatch z⟩
  |cons x r ih=>
   obtain⟨b,d,g,e⟩:=ih;obtain⟨a,rfl,q⟩:=x;obtain⟨o,t,v,n,o2,m,B,j,l,k,_⟩:=ve I q;refine⟨_::b,KatTups.cons j l k rfl d,by simp[g],λf c=>?_⟩;rcases aF.mp c with rfl|c
   .exact⟨_,_,rfl⟩
   .exact e f c
 obtain⟨b,d,g,e⟩:=go u;refine kat_kind d (by omega) (T:=.type "int") (λf c=>?_) (by decide) h;obtain⟨i,y,rfl⟩:=e f c;exact Looks.of_pure rfl
def Lj(X:Cx)(eh:List (Addr×Obj))(σ:St)(H0:Hp)(D a f P:Addr)(b:Obj)(q:Str)(d c:Nat)(ks:List Vq)(fs:List Ky)(s:Sq):Prop:=∃H e,eO X eh σ H s/\eN H0 H/\H D=none/\H a=none/\H f=none/\s.heap.get? D=some (seqObj "list" #[] c)/\s.heap.get? a=some (seqObj "list" ks.toArray e)/\s.heap.get? f=some b/\nT H P q d/\Paired (zg H) ks fs
def E9(X:Cx)(eh:List (Addr×Obj))(σ:St)(f P:Addr)(c:Obj)(q:Str)(d:Nat):Prop:=∀(s:Sq) (H:Hp) (b:Addr) (g:Ky),eO X eh σ H s->s.heap.get? f=some c->nT H P q d->tm H b g->
 codeAny (model X.prog X.w) X.A.in1.in1 (.call (.ref f) ⟨[.ref b],[]⟩) (CR nH X.stack X.prog X.w H s (λv e=>∃p,v=.ref p/\H p=none/\∃a,H b=some (.tup [.int g.1,.ref a])/\e=fN H p (.tup [.int (-g.1),.ref a])) E0) s
theorem Di{D J f P:Addr}{L:Obj}{q:Str}{S e1:Nat}{ks:List Vq}{fs:List Ky}{H0:Hp}{b:Addr}{g:Ky}(oD:Ow X eh D)(oS:Ow X eh J)(oF:Ow X eh f)(hL:E9 X eh σ f P L q S)(hg:tm H0 b g)
  (hx:Lj X eh σ H0 D J f P L q S e1 ks fs s) {Q:Vq->Shared->Prop} (hQ:∀k j H e,eO X eh σ H j->eN H0 H->H D=none->H J=none->H f=none->j.heap.get? D=some (seqObj "list" #[] e1)->j.heap.get? J=some (seqObj "list" ks.toArray e)->j.heap.get? f=some L->nT H P q S->Paired (zg H) (ks++[k]) (fs++[ky g])->Q k j) :
  wpAny (model X.prog X.w) X.A.in1.in1 (call (.ref f) [.ref b]) Q E s:=by
 obtain⟨H,e,I,sm,nD,nS,nF,gD,gS,Y,Z,pr⟩:=hx;refine wpAny_call (codeAny_mono (hL s H b g I Y Z (hg.mono sm)) λr j C=>?_);cases r with
 |error e=>exact C.elim
 |ok fl=>
  cases fl with
  |next=>exact False.elim C
  |brk=>exact False.elim C
  |cont=>exact False.elim C
  |ret u=>
   obtain⟨v,H',os,F,un,R,rv,p,rfl,hp,B,K,rfl⟩:=C;cases (show u=Value.ref p from rv);obtain⟨hh,gg,d,t,N⟩:=j;obtain rfl:N=s.os:=os;have I':=I.call (t':=t) (d':=d) un R F (λb z=>absurd z (by simp));have i:eN H (fN H p (.tup [.int (-g.1),.ref B])):=λc o y=>by rw[eM (eV y hp)];exact .of y
   have x:∀{c:Addr} {o:Obj},Ow X eh c->H c=none->s.heap.get? c=some o->hh.get? c=some o/\fN H p (.tup [.int (-g.1),.ref B]) c=none:=λ{c o} ow n y=>⟨un.keep c o y n (ow.stk I) (by simp),un.free c o y n (by simp)⟩;obtain⟨U,x1,x2⟩:=hg.mono sm;rw[K]at x1;have:B=U:=by cases x1;rfl
   subst this;refine hQ _ _ _ e I' (sm.trans i) (x oD nD gD).2 (x oS nS gS).2 (x oF nF Y).2 (x oD nD gD).1 (x oS nS gS).1 (x oF nF Y).1 (Z.grow I.hok λps ep=>?_) ?_
   .exact i _ _ ep
   .have ap:∀{l:List Vq} {m:List Ky},Paired (zg H) l m->Paired (zg (fN H p (.tup [.int (-g.1),.ref B]))) (l++[.ref p]) (m++[ky g]):=λ{l m} z=>by
     induction z with
     |nil=>exact .cons ⟨p,rfl,B,eJ,i _ _ x2⟩ .nil
     |cons h t ih=>exact .cons (let ⟨a,ea,xa⟩:=h;⟨a,ea,xa.mono i⟩) ih
    exact ap pr
end
section
variable {X:Cx}{eh:List (Addr×Obj)}{σ:St}{H:Hp}{s:Sq}{E:Vq->Shared->Prop}
def BO{a:Type}{p:Array Nat}{l:List a}(d:a)(c:ux l.length p):(p.toList.map λi=>l.getD i d).Perm l:=by
 have b:p.toList.Perm (List.range l.length):=by simpa using c.toList
 have:=b.map λi=>l.getD i d;rwa [sH]at this
theorem yQ{D f P:Addr}{fo:Obj}{q:Str}{c' n:Nat}{bs:List Addr}{fl:List Ky}{Q:Fin->Shared->Prop}(hu:X.A.units+8<cLine)(I:eO X eh σ H s)(Y:Ow X eh D)(oF:Ow X eh f)(nD:H D=none)(nF:H f=none)(hDf:D≠f)(gD:s.heap.get? D=some (seqObj "list" (bs.map Value.ref).toArray n))(gF:s.heap.get? f=some fo)(tb:nT H P q c')
  (hL:E9 X eh σ f P fo q c') (hf:Paired (tm H) bs fl) (h64:fl.length<64)
  (h:∀K t d r,eO X eh σ K t->eN H K->K D=some (.lst (d.map V.ref))->(∀R:Addr->Ky->Prop,Paired R bs fl->Paired R d r)->r.Perm fl->r.Pairwise (λa b=>qT (ky b) (ky a)=false)->Q (.done (.ret .none)) t) :
  wpAny (model X.prog X.w) X.A.in1.in1 (ksk_tree D (.ref f) false) Q E s:=by
 have L:bs.length=fl.length:=Paired.length hf;have sl:64<=sizeLine:=by decide
 have hz:(bs.map Value.ref).toArray.size=fl.length:=by simp[L]
 unfold ksk_tree;refine aq (listItems_at gD rfl ?_);refine aq (listUpdate_at gD rfl ?_ (by rw[hz];omega) (bD _));obtain⟨e1,gD1⟩:∃e1,(s.heap.update D (Obj.mapSeq λ_=>(#[]:Array Vq))).get? D=some (seqObj "list" #[] e1):=⟨_,get?_update_seq gD λ_=>#[]⟩;have I1:eO X eh σ H {s with heap:=s.heap.update D (Obj.mapSeq λ_=>(#[]:Array Vq))}:=Y.turn (t':=s.toks) I nD λb u F e=>by rw[Heap.get?_update_ne _ _ _ _ F];exact e
 have gF1:(s.heap.update D (Obj.mapSeq λ_=>(#[]:Array Vq))).get? f=some fo:=by rw[Heap.get?_update_ne _ _ _ _ (Ne.symm hDf)];exact gF
 refine aq (seqEpoch_at gD1 rfl ?_);refine aq (wpAny_newTuple ?_ (by simp[L];omega));have I2:=I1.kept (t':=s.toks) λb u e=>ae (seqObj "tuple" (bs.map Value.ref).toArray.toList.toArray 0) e;refine aq (wpAny_newList ?_ (bD _));have I3:=I2.kept (t':=s.toks) λb u e=>ae (seqObj "list" [].toArray 0) e;refine wpAny_holding ?_;dsimp only at I2 I3 ⊢;generalize hh:(s.heap.update D (Obj.mapSeq λ_=>(#[]:Array Vq))).push (seqObj "tuple" (bs.map Value.ref).toArray.toList.toArray 0)=h2 at I2 I3 ⊢;have gD3:(h2.push (seqObj "list" [].toArray 0)).get? D=some (seqObj "list" #[] e1):=ae _ (by rw[<-hh];exact ae _ gD1);have gF3:(h2.push (seqObj "list" [].toArray 0)).get? f=some fo:=ae _ (by rw[<-hh];exact ae _ gF1);have oS:Ow X eh h2.objs.size:=I2.ow (aK _);have nS:H h2.objs.size=none:=I2.hok.fresh (aK _);have neD:D≠h2.objs.size:=λz=>by have:=aL (show h2.get? D=some _ by rw[<-hh];exact ae _ gD1);rw[z]at this;exact absurd this (a9 _)
 have neF:f≠h2.objs.size:=λz=>by have:=aL (show h2.get? f=some _ by rw[<-hh];exact ae _ gF1);rw[z]at this;exact absurd this (a9 _)
 unfold ksk_rest;refine aq (wpAny_rule ?_);rw[List.forIn_toArray];refine aq (ksk_fold (λi t=>∃ks,ks.length=i/\Lj X eh σ H D h2.objs.size f P fo q c' e1 ks ((fl.take i).map ky) t) (bs.map Value.ref) 0 _ ⟨[],rfl,H,0,I3,.refl _,nD,nS,nF,gD3,au _ rfl,gF3,tb,.nil⟩ (λj x t hx hI=>?_) λt hI=>?_)
 .obtain⟨ks,o,hS⟩:=hI;rw[aG]at hS o;rw[aw]at hx;obtain⟨b,F,rfl⟩:=cE.mp hx;obtain⟨g,hg,xg⟩:=lE hf F;have hj:j<fl.length:=(aa.mp hg).1;refine aq (wpAny_attempt (Di Y oS oF hL xg hS λk m K e J sm n1 n2 n3 g1 g2 g3 tb' Z=>?_));dsimp only;have J':eO X eh σ K {m with heap:=m.heap.update h2.objs.size (Obj.mapSeq (·.push k))}:=oS.turn (t':=m.toks) J n2 λb u F e=>by rw[Heap.get?_update_ne _ _ _ _ F];exact e
  refine aq (listUpdate_at g2 rfl ?_ (by rw[bz,o];omega) (by show (ks.toArray.push k).size<=_;rw[Array.size_push,bz,o];omega));obtain⟨e2,ge2⟩:∃e2,(m.heap.update h2.objs.size (Obj.mapSeq (·.push k))).get? h2.objs.size=some (seqObj "list" (ks++[k]).toArray e2):=⟨_,by rw[show (ks++[k]).toArray=ks.toArray.push k by simp];exact get?_update_seq g2 (·.push k)⟩;refine ao ⟨rfl,ks++[k],by simp[o],K,e2,J',sm,n1,n2,n3,?_,?_,?_,tb',?_⟩
  .rw[Heap.get?_update_ne _ _ _ _ neD];exact g1
  .exact ge2
  .rw[Heap.get?_update_ne _ _ _ _ neF];exact g3
  .rw[aG,cF,hg];simpa using Z
 .obtain⟨ks,o,K,e,J,sm,n1,n2,n3,g1,g2,g3,tb',Z⟩:=hI;rw[aG,ax]at o Z;rw[cu (by omega)]at Z;refine aq (listItems_at g2 rfl ?_);have fin:∀(d:List Addr) (r:List Ky) (st:SortSt),(arrOf st).map (·.2)=(d.map Value.ref).toArray->failedOf st=none->d.length=bs.length->(∀R:Addr->Ky->Prop,Paired R bs fl->Paired R d r)->r.Perm fl->r.Pairwise (λa b=>qT (ky b) (ky a)=false)->
    wpAny (model X.prog X.w) X.A.in1.in1 (ksk_tail D false e1 (.ref h2.objs.size) st) Q E t:=λd r st ho U jH pf pm pw=>by
   unfold ksk_tail;dsimp only;refine aq (listUpdate_at g2 rfl ?_ (by rw[bz,o];omega) (bD _));refine aq (wpAny_letGo ?_);have J1:eO X eh σ K {t with heap:=t.heap.update h2.objs.size (Obj.mapSeq λ_=>#[])}:=oS.turn (t':=t.toks) J n2 λb u F e=>by rw[Heap.get?_update_ne _ _ _ _ F];exact e
   have S:(t.heap.update h2.objs.size (Obj.mapSeq λ_=>#[])).get? D=some (seqObj "list" #[] e1):=by rw[Heap.get?_update_ne _ _ _ _ neD];exact g1
   refine aq (seqEpoch_at S rfl ?_);simp only[bX,if_false];rw[ho];have hsz:(d.map Value.ref).toArray.size=fl.length:=by simp[jH,L]
   refine aq (listUpdate_at S rfl ?_ (bD _) (by rw[hsz];omega));rw[U];simp only[bne_self_eq_false,bX,if_false];have J2:=Y.turn (h':=(t.heap.update h2.objs.size (Obj.mapSeq λ_=>#[])).update D (Obj.mapSeq λ_=>(d.map Value.ref).toArray)) (t':=t.toks) J1 n1 λb u F e=>by rw[Heap.get?_update_ne _ _ _ _ F];exact e
   obtain⟨e3,g4⟩:∃e3,((t.heap.update h2.objs.size (Obj.mapSeq λ_=>#[])).update D (Obj.mapSeq λ_=>(d.map Value.ref).toArray)).get? D=some (seqObj "list" (d.map Value.ref).toArray e3):=⟨_,get?_update_seq S λ_=>(d.map Value.ref).toArray⟩;have vr:∀l:List Addr,fu (l.map V.ref) (l.map Value.ref):=λl=>by
    induction l with
    |nil=>exact .nil
    |cons b l ih=>exact .cons rfl ih
   refine ao (h (fN K D (.lst (d.map V.ref))) _ d r (J2.track n1 (.inr Y.z) Y.l Y.c Y.p (show gq X.prog X.w _ _ _ (.lst _) from ⟨by rw[ax,jH,L];omega,d.map Value.ref,e3,vr d,g4⟩)) (sm.trans λb u e=>by rw[eM (eV e n1)];exact .of e) eJ pf pm pw)
  have kz:ks.toArray.zip (bs.map Value.ref).toArray=ks.toArray.zip (bs.map Value.ref).toArray:=rfl;unfold ksk_end;dsimp only;simp only[bX,if_false];by_cases v:(bs.map Value.ref).toArray.size<2
  .rw[aQ v,aQ v];refine aq (ao ?_);rw[StateT.run_pure];refine aq (ao ?_);refine fin bs fl (SortSt.mk' general' (ks.toArray.zip (bs.map Value.ref).toArray) #[] 7 none) ?_ rfl rfl (λ_ z=>z) (List.Perm.refl _) ?_
   .show (ks.toArray.zip (bs.map Value.ref).toArray).map (·.2)=_;apply Array.toList_inj.mp;simp[List.map_snd_zip,o]
   .rw[hz]at v;match fl,v with
    |[],_=>exact .nil
    |[_],_=>exact cG _ _
  .rw[aR v,aR v];rw[hz]at v;refine aq (Dd J Z (by omega) ?_);refine aq (wpAny_mono (kat_run (ks:=ks) (vs:=bs.map Value.ref) (Q:=λy m=>∃p:Array Nat,ux fl.length p/\DX (λi j=>qT ((fl.map ky).getD i (0,[])) ((fl.map ky).getD j (0,[]))) p fl.length/\arrOf y=p.map (kas_item (ks.toArray.zip (bs.map Value.ref).toArray))/\failedOf y=none/\m=t)
    (G:=λp m=>ux fl.length p/\DX (λi j=>qT ((fl.map ky).getD i (0,[])) ((fl.map ky).getD j (0,[]))) p fl.length/\m=t)
    (by rw[o,ax]) (by rw[ax];omega) (by rw[ax];omega) (λp y m a1 a2 a3 a4=>⟨p,a4.1,a4.2.1,a2,a3,a4.2.2⟩)
    (Ad (lt:=λi j=>qT ((fl.map ky).getD i (0,[])) ((fl.map ky).getD j (0,[]))) (n:=fl.length) (λi j C N hj hC=>Hg (by show X.A.units+1+1+2<_;omega) J Z (0,[]) (by omega) (by omega) hC) (by rw[ax,L];exact Fi (G2 _ _) (by omega) λp hp hu=>⟨hp,hu,rfl⟩))) ?_ λ_ _ z=>z)
   rintro⟨⟨⟩,y⟩ m ⟨p,hp,hup,har,U,rfl⟩;have B:∀i∈p.toList,i<fl.length:=λi N=>by have:i∈(List.range fl.length).toArray:=hp.mem_iff.mp (by simpa using N);simpa using this
   refine fin (p.toList.map λi=>bs.getD i 0) (p.toList.map λi=>fl.getD i (0,[])) y ?_ U (by rw[ax,bq,kK hp,L]) (λR z=>rl _ _ _ λi N=>wt z 0 (0,[]) (by rw[L];exact B i N)) (BO _ hp) ?_
   .rw[kat_snds (by rw[o,ax]) har,aI];congr 1;refine cH λi N=>?_;have:=B i N;simp[L,this]
   .rw[cI,List.pairwise_iff_getElem];intro i j N hj hij;have hs:p.size=fl.length:=kK hp;have hj':j<p.size:=by simpa using hj
    have hi':i<p.size:=by simpa using N
    have:=hup i j hij (by omega);rw[cx,cx,Array.getElem?_eq_getElem hj',Array.getElem?_eq_getElem hi']at this;have gm:∀k,k<fl.length->(fl.map ky).getD k (0,[])=ky (fl.getD k (0,[])):=λk hk=>by simp[hk]
    simp only[Option.getD_some]at this;rw[gm _ (B _ (by simp)),gm _ (B _ (by simp))]at this;simpa using this
end
end L2
namespace L2
open PySem PySem.Spec PySem.W PyProof.Rows
section
variable {X:Cx}
abbrev kf(x:Str)(p1 p2 p3 p4 p5 p6 p7 p8:Pos)(j1 j2 j3:Nat):Expr:=.Tuple [.UnaryOp .USub (.Subscript (.Name x p1) (.Constant (.int 0) j1 p2) p3) p4,.Subscript (.Name x p5) (.Constant (.int 1) j2 p6) p7] j3 p8
def JB{x:Str}{p1 p2 p3 p4 p5 p6 p7 p8:Pos}{j1 j2 j3:Nat}(g:X.N[0]? = some x)(k:KD X.env.scope x)(i:(x==("__debug__" : Str))=false)(a:(x==("__classdict__" : Str))=false) :
  ∃t,PE X (kf x p1 p2 p3 p4 p5 p6 p7 p8 j1 j2 j3) t/\∀(f:St) (H:Hp) (Q:VK) (b c:Addr) (d:Int),f[0]? = some (some (.ref b))->H b=some (.tup [.int d,.ref c])->(∀p,H p=none->Q (.ref p) (fN H p (.tup [.int (-d),.ref c])))->t f H Q:=by
 refine⟨_,DU (kc (HZ DN (EA je (nV g k i a) yP λ_ _=>rfl)) (kc (EA je (nV g k i a) yP λ_ _=>rfl) pT)),λf H Q b c d e h q=>?_⟩;exact⟨_,e,b,_,_,_,rfl,rfl,jV.of h,zU (j:=0) rfl,_,rfl,_,e,b,_,_,_,rfl,rfl,jV.of h,zU (j:=1) rfl,(by show 2<=sizeLine;decide),λp l=>q p l⟩
def Ko{r:List (Addr×Obj)}{o:St}{f P:Addr}{q x:Str}{params:Arguments}{a:Scope}{i c:Vq}{d k:Nat}{p1 p2 p3 p4 p5 p6 p7 p8:Pos}{j1 j2 j3:Nat}(m:fP (k+3) X.A)(S:fK [x] [x] a)(l:a.names.lookup x=some .local)
  (B:(x==("__debug__" : Str))=false) (e:(x==("__classdict__" : Str))=false)
  (y:∀u:Vq,bindArgs (kla_fn "<lambda>" q params (kf x p1 p2 p3 p4 p5 p6 p7 p8 j1 j2 j3) a [] i (.ref d) c) ⟨[u],[]⟩=pure [(x,u)]) :
  E9 X r o f P (kla_obj "<lambda>" q params (kf x p1 p2 p3 p4 p5 p6 p7 p8 j1 j2 j3) a [] i d c) q d:=by
 intro s H b g I C n E;obtain⟨h,j,F⟩:=E;obtain⟨t,D,z⟩:=JB (X:=(kx nH X.prog X.w X.K X.mg X.base [x] q a f (.ref d) X.A.in1.in1 X.stack s H E0).nox) (p1:=p1) (p2:=p2) (p3:=p3) (p4:=p4) (p5:=p5) (p6:=p6) (p7:=p7) (p8:=p8) (j1:=j1) (j2:=j2) (j3:=j3) (x:=x) rfl (.inl l) B e;refine FP (k:=k) (vs:=[.ref b]) (us:=[.ref b]) C (n.rec' I.hok) S rfl m.in1.in1 I.env0.in1.in1 (.of_eq (y (.ref b))) (.cons rfl .nil) ⟨t,D,z _ _ _ b h g.1 rfl j λp v=>⟨p,rfl,v,h,j,rfl⟩⟩
end
def AW(a:Heap)(mg:Str->Option Value)(x:Str)(b:Vq):Prop:=∃c P,b=.ref c/\CodeHd a c P/\(c,P)∈a.life.ids/\a.CodeRec (.ref c) x/\a.BuiltinsAt mg P
def ya(K:W.Frag)(mg:Str->Option Value)(a:Heap)(x:Str):Prop:=∀f d e c b,mg x=some (.ref f)->K.lookup f=some ⟨d,e,.func c,b⟩->AW a mg x c.code
def Co{P:Program}{w:World}{mg:Str->Option Value}{c:Heap}{x:Str}{N g:List Str}{k:Nat}{j:Sp}{K:W.Frag}{st:Stmt}(D:eU K mg x st)(L:ya K mg c x)(S:fK N g (eG st))
  (B:∀(kV e p:Vq) (u:Oq Addr) (a o:Vq) (us:List Vq),us.length=g.length->bindArgs (W.fnOf x x (gK st) (fw st) (eG st) .none kV e p u a o) ⟨us,[]⟩=pure (g.zip us))
  (l:∀vs H Q E,j vs H Q E->vs.length=g.length)
  (d:∀f a A b s H vs Q E,AW c mg x a->fP k (A.deeper (envOfC x (eG st) s.heap.objs.size f a))->j vs H Q E->
   ∃t,v9 (kx nH P w K mg c N x (eG st) f a A b s H E).nox (fw st) t/\t {nx:=λ_ I=>Q .non I,rt:=Q} (iM N vs) H):iS P w K mg c x (k+1) j:=by
 obtain⟨f,J,F,m⟩:=D.ex;have C:=F.kp;have z:=F.binds B;obtain⟨U,R,kV,e,p,u,a,o,y,rfl,r,i⟩:=F.ex;refine⟨f,_,g,Ig r i S l λA b s H vs Q E v n=>?_,m,C,z⟩;obtain⟨t,h,q⟩:=d f a A b s H vs Q E (L f _ _ _ _ m r) v n;exact⟨t,h.nox,q⟩
def Jz(X:Cx)(src:V->Hp->List Addr->Prop):Prop:=(∀x H a bs,eN H a->src x H bs->src x a bs)/\∀(f:List (Addr×Obj)) (s:Sq) (e:St) (H:Hp) (x:V) (u:Vq) (bs:List Addr) (E:Vq->Shared->Prop) (Q:List Vq->Shared->Prop),eO X f e H s->src x H bs->fO x u->
 (∀c d,(∀b o,s.heap.get? b=some o->c.get? b=some o)->Q (bs.map Value.ref) {s with heap:=c,toks:=d})->wpAny (model X.prog X.w) X.A.in1 (collect u) Q E s
def Jr(K:W.Frag):V->Hp->List Addr->Prop:=λx H bs=>∃p,x=.ref p/\H p=some (.lst (bs.map V.ref))
def Jh(P:Program)(w:World):V->Hp->List Addr->Prop:=λx H bs=>∃a b,x=.ref a/\H a=some (qq P w a b)/\bs=b.map (·.2.1)
section
variable {X:Cx}
def DA:Jz X (Jr X.K):=by refine⟨λx H H' bs h ⟨p,e1,e2⟩=>⟨p,e1,h _ _ e2⟩,λj s i H x u bs E Q I h r q=>?_⟩;obtain⟨p,rfl,e⟩:=h;cases r;obtain⟨f,g,c,a⟩:=I.list (iJ.of e);have d:=tZ g;subst d;refine collect_list c.isList (q _ s.toks λb o e=>?_) (by rw[ax]at a ⊢;exact a);rw[Heap.get?_update_ne _ _ _ _ (aM (aL e)),Heap.get?_push_ne _ _ _ (aM (aL e))];exact e
theorem xE{prog:Program}{w:World}{A:Around}{E:Vq->Shared->Prop}{s:Sq}{T:String}{r d:Addr}{n:Nat}{P:Nat->Value->Prop}{l:Heap->Prop}{Q:List Vq->Shared->Prop}(K:KdlSrc prog w T r d n P l)(p:A.handled=none)(i:l s.heap)(q:n<=sizeLine)
  (h:∀h' j c,(∀b o,s.heap.get? b=some o->h'.get? b=some o)->ItemsOf P c n->Q c.toList {s with heap:=h',toks:=j}):wpAny (model prog w) A (collect (.ref r)) Q E s:=by
 unfold collect;refine aq (wpAny_runValue (codeAny_builtin entry_proto_collect' ?_));show wpAny _ _ (do again (.builtin "list.__iadd__" ⟨[<-newList [],.ref r],[]⟩)) _ _ s;have g:=K.there _ i;refine aq (wpAny_newList (ao ⟨Code.quiet_builtin _ (by decide +kernel),codeAny_builtin entry_list_iadd' ?_⟩));rw[Around.under_plain (by first|rfl|decide +kernel) (by first|rfl|decide +kernel)];refine kdl_extend (s:={s with heap:=s.heap.push {cls:=.type "list",data:=.seq #[]}}) (R:=λr m=>match r with
   |Except.ok (Flow.ret v)=>wpAny (model prog w) A (match v with
     |Value.ref a=>do
      let o <-load a
      match o.data with
       |Data.seq xs epoch=>pure xs.toList
       |x=>unsupported "internal:collect"
     |x=>unsupported "internal:collect") Q E m
   |Except.ok a=>False
   |Except.error e=>E e m) K p (K.keep _ _ i λb _ o e=>ae _ e) s.heap.objs.size (br g.1) (br g.2) (.ref s.heap.objs.size) 0 (au _ rfl) (λh' j c u t k f=>?_) q
 refine aq (wpAny_load k ?_);exact ao (h h' j c (λb o e=>t b o (aM (aL e)) (ae _ e)) f)
def IW(n:X.calm=true):Jz X (Jh X.prog X.w):=by
 refine⟨λx H H' bs h ⟨a,d,e1,e2,e3⟩=>⟨a,d,e1,h _ _ e2,e3⟩,λN s L H x u bs E Q I h r q=>?_⟩;obtain⟨a,d,rfl,e,rfl⟩:=h;cases r;obtain⟨⟨C,z,o,g,v,F,t,y,k,P⟩,_,_⟩:=(show gq X.prog X.w H s.heap a (qq X.prog X.w a d) from I.hok a _ e);have sz:g.size=d.length:=by rw[<-bq,k,ax]
 refine xE (Ao C) (I.ok.hd n) (⟨o,F,t,y⟩:oH s.heap a g v) (by rw[sz];exact z) λK p b J c=>?_;have:b.toList=(d.map (·.2.1)).map Value.ref:=by
  have D:b.size=d.length:=by rw[<-sz];exact c.1
  refine List.ext_getElem? λi=>?_;by_cases f:i<d.length
  .have l:b[i]? = some b[i]:=Array.getElem?_eq_getElem (by omega);obtain⟨en,m,A⟩:=c.2 i _ l;have j:g.toList[i]? = some en:=by simpa using m
   rw[k,aw,ag f]at j;cases j;rw[Array.getElem?_toList,l,A];simp[f];rfl
  .rw[List.getElem?_eq_none (by simpa[D] using f),List.getElem?_eq_none (by simpa using f)]
 have B:=q K p J;rw[this];exact B
def yU(src:V->Hp->List Addr->Prop)(h:TE):TE:=λi H Q=>h i H λx f=>∃bs e,src x f bs/\Paired (tm f) bs e/\e.length<64/\
 ∀D g d c,eN f g->f D=none->g D=some (.lst (d.map V.ref))->(∀R:Addr->Ky->Prop,Paired R bs e->Paired R d c)->c.Perm e->c.Pairwise (λa b=>qT (ky b) (ky a)=false)->Q (.ref D) g
def wF{k:Nat}{qn x:Str}{e:Expr}{te:TE}{src:V->Hp->List Addr->Prop}{params:Arguments}{a:Scope}{p v y n p1 p2 p3 p4 p5 p6 p7 p8:Pos}{j1 j2 j3:Nat}(hr:fP (k+3) X.A)(L:AW X.base X.mg qn X.env.code)(hq:qn++ ".<locals>.<lambda>" = X.env.qual++ "<lambda>")
  (S:fK [x] [x] a) (hx:a.names.lookup x=some .local) (hb:∀(q:Str) (pm t:Vq) (c':Addr) (u:Vq),bindArgs (kla_fn "<lambda>" q params (kf x p1 p2 p3 p4 p5 p6 p7 p8 j1 j2 j3) a [] pm (.ref c') t) ⟨[u],[]⟩=pure [(x,u)])
  (hcl:closureFor a X.env=pure []) (r:defaultsOf params X.env=([],[])) (d:Jz X src) (he:PE X e te) (hg:Gl X "sorted") (hm:X.mg "sorted" = none)
  (i:backTo v (starEach [e] X.env)=[(false,eval e X.env)]/\starEach [e] X.env=[(false,eval e X.env)]) (hd:(x==("__debug__" : Str))=false:=by decide) (K:(x==("__classdict__" : Str))=false:=by decide) :
  PE X (.Call (.Name "sorted" p) [e] [⟨some "key",.Lambda params (kf x p1 p2 p3 p4 p5 p6 p7 p8 j1 j2 j3) a y,n⟩] v) (yU src te):=by
 intro B s E H Q I h;obtain⟨c,P,g,C,jW,hrc,Z⟩:=L;refine wpAny_Call_Name_kw (n0 (u:=.builtin "sorted") I hg hm (by rfl) ?_);refine callWith_kw ?_ (by rw[i.1];rfl) (by rw[i.1];rfl) rfl rfl;rw[i.1];refine Calls.spliced_cons (gZ (he B s E H _ I h) λu s1 ⟨xv,H1,I1,r1,bs,fl,hs,pf,h64,q⟩=>?_);refine Calls.spliced_nil ?_;refine kws_cons (Dg I1 g C jW hrc Z hq hcl r λf c' t pm D F I2 sm fr hf nf tb gf=>?_);refine kws_nil ?_;show wpAny _ X.A (call (.builtin "sorted") [u] [(Str.ofString "key",.ref f)]) _ _ F;refine call_function_entry_kw kind_sorted plain_sorted entry_sorted (ksk_s1 _ _) ?_;unfold Builtin.«sorted»;refine aq (m:=checkCount "sorted" 1 1 _) (ao ?_);refine aq (d.2 B F E D xv u bs _ _ I2 (d.1 _ _ _ _ sm hs) r1 λj l R=>?_);have lb:bs.length=fl.length:=Paired.length pf;have sl:64<=sizeLine:=by decide
 refine aq (wpAny_newList ?_ (by rw[ax,lb];omega));have N:eO X B E D {F with heap:=j,toks:=l}:=I2.kept R;have I4:eO X B E D {F with heap:=j.push (seqObj "list" (bs.map Value.ref).toArray 0),toks:=l}:=N.kept λb o e=>ae _ e;have hlf:f<j.objs.size:=aL (R _ _ gf);have n4:D j.objs.size=none:=N.hok.fresh (aK _);refine aq (wpAny_holding (wpAny_call_entry_kw slot_list_sort ⟨_,au _ rfl,rfl⟩ entry_list_sort ?_ (ksk_l1 _ _)));show wpAny (model X.prog X.w) X.A.in1.in1 (Builtin.«list.sort» ⟨[.ref j.objs.size],[(Str.ofString "key",.ref f)]⟩) _ _ _;rw[ksk_t1];refine yQ (bs:=bs) (fl:=fl) (by have:=hr.units;omega) I4 (N.ow (aK _)) (I1.ow hf) n4 nf (br hlf) (au _ rfl) (ae _ (R _ _ gf)) tb (Ko hr S hx hd K (hb _ _ _ _)) (Paired.mapP pf λ_ _ z=>z.mono sm) h64 λH' s' Y fl' J sm' e5 pf' U pw=>?_;refine⟨_,rfl,ao ⟨_,rfl,.ref j.objs.size,H',J,rfl,q _ H' Y fl' (sm.trans sm') (sm.free n4) e5 pf' U pw⟩⟩
end
end L2
namespace L2
open PySem PySem.Spec PySem.W PyProof.Rows
def C3{H:Hp}{b:Addr}{g:Ky}(x:tm H b g):vR H (.inl g.1,g.2.map .inl) b:=let ⟨b2,e1,e2⟩:=x;⟨b2,e1,by rw[aI];exact e2⟩
section
variable {X:Cx}{pos pos':Pos}
def wD(P:Program)(w:World)(H:Hp)(h:Heap)(a:sysModules<h.objs.size):gq P w H (h.push {cls:=.type "dict",data:=.dict #[]}) h.objs.size (qq P w h.objs.size []):=Eg ⟨beq_eq_false_iff_ne.mpr (Ne.symm (aM a)),bD _,_,#[],0,au _ rfl,⟨rfl,rfl,rfl⟩,rfl,rfl,List.nodup_nil⟩
def Ez(P:Program)(w:World):TE:=λ_ H Q=>∀p,H p=none->Q (.ref p) (fN H p (qq P w p []))
def C9:PE X (.Dict [] [] pos) (Ez X.prog X.w):=λc s b H Q I h=>wpAny_Dict_empty ⟨.ref s.heap.objs.size,_,I.laid (a:=s.heap.objs.size) (o:=qq X.prog X.w s.heap.objs.size []) (t':=s.toks) (λ_ _ q=>ae _ q) (aK _) (wD _ _ _ s.heap I.big),rfl,h _ (I.hok.fresh (aK _))⟩
def CH(P:Program)(w:World)(d e:TE):TE:=λc H Q=>∀p,H p=none->d c (fN H p (qq P w p [])) λx f=>e c f λy a=>a p=some (qq P w p [])/\∃k b,x=.ref b/\vR a k b/\∀r,fO y r->Q (.ref p) (fN a p (qq P w p [(k,b,r)]))
def Et{k v:Expr}{d l:TE}(R:X.A.units+2<cLine)(L:PE X k d)(N:PE X v l):PE X (.Dict [some k] [v] pos) (CH X.prog X.w d l):=by intro g s f H Q I h;have J:=I.hok.fresh (aK s.heap.objs.size);have P:=I.laid (a:=s.heap.objs.size) (o:=qq X.prog X.w s.heap.objs.size []) (h':=s.heap.push {cls:=.type "dict",data:=.dict #[]}) (t':=s.toks) (λ_ _ q=>ae _ q) (aK _) (wD _ _ _ s.heap I.big);refine wpAny_Dict_any rfl rfl (λz=>nomatch z) (show 1<=15 by decide) (pairTrees_cons_walk (gZ (L g _ f _ _ P (h _ J)) λu s1 ⟨x,H1,J1,rx,q1⟩=>gZ (N g s1 f H1 _ J1 q1) λr s2 ⟨y,H2,J2,ry,e,k',b,ex,fk,q2⟩=>pairTrees_nil_walk ?_));subst ex;cases (show u=Value.ref b from rx);show wpAny _ _ (forIn [(Value.ref b,r)] PUnit.unit _) _ _ s2;rw[bW];obtain⟨n,C⟩:=zx J2.hok e (λx p=>nomatch p);refine aq (aq (wpAny_dictSet_heap (show X.A.units+1<cLine by omega) (B9 J2.hok fk) C (λh' c D=>?_) (bD _)));refine ao ?_;dsimp only;rw[cf];obtain⟨q,t,E,j,F,B,i,_,m⟩:=c;have K:storedH ([]:List FE) k' b r=[(k',b,r)]:=rfl;rw[K]at i m;exact ao ⟨.ref s.heap.objs.size,_,zv J2 (by rw[e];exact True.intro) D ⟨q,j⟩ (Eg ⟨n.1,by show 1<=sizeLine;decide,q,t,E,j,F,B,i,m⟩),rfl,q2 r ry⟩
def Ij(P:Program)(w:World)(f ty h:TE):TS:=λD c H=>h c H λv i=>f c i λx g=>ty c g λy e=>∃a b d k,x=.ref a/\y=.ref b/\e a=some (qq P w a d)/\(∀x∈d,vR e x.1 x.2.1)/\vR e k b/\d.length<sizeLine/\∀r,fO v r->D.nx c (fN e a (qq P w a (storedH d k b r)))
def Ai{o i c:Expr}{g ty j:TE}(p:X.A.units+2<cLine)(q:PE X o g)(z:PE X i ty)(t:PE X c j)(m:swapsWith c (some (.Subscript o i pos')) pos.line X.env=pure false) :
  PS X (.Assign [.Subscript o i pos'] c pos) (Ij X.prog X.w g ty j):=by
 intro f s d H D I h;refine wpAny_Assign_Subscript (gZ (t f s d H _ I h) λr s1 ⟨v,H1,I1,rv,q1⟩=>gZ (q f s1 d H1 _ I1 q1) λu s2 ⟨x,H2,I2,rx,q2⟩=>gZ (z f s2 d H2 _ I2 q2) λiv s3 ⟨y,H3,I3,ry,a,b,xs,k,ex,ey,e,fk,fb,l,q3⟩=>?_) m;subst ex;subst ey;cases (show u=Value.ref a from rx);cases (show iv=Value.ref b from ry);exact I0 p I3 e fk fb l λB n=>⟨d,_,n,q3 r rv⟩
end
def Fs(P:Program)(w:World)(F H:Hp)(a:Addr)(bs:List Addr)(fl:List Ky):Prop:=∃b:List FE,H a=some (qq P w a b)/\bs=b.map (·.2.1)/\Paired (λ(x:FE) (f:Ky)=>x.1=(.inl f.1,f.2.map .inl)/\tm F x.2.1 f) b fl
def rF(fl:List Ky)(g:Ky):List Ky:=if g∈fl then fl else fl++[g]
section
variable {P:Program}{w:World}{F F' H H':Hp}{a b:Addr}{bs:List Addr}{fl:List Ky}{g:Ky}
def Fs.mono(x:Fs P w F H a bs fl)(c:eN F F')(d:eN H H'):Fs P w F' H' a bs fl:=let ⟨xs,e,h,p⟩:=x;⟨xs,d _ _ e,h,Paired.mapP p λ_ _ z=>⟨z.1,z.2.mono c⟩⟩
def G6{d:List FE}{fl:List Ky}(p:Paired (λ(x:FE) (f:Ky)=>x.1=(.inl f.1,f.2.map .inl)/\tm F x.2.1 f) d fl)(s:eN F H):∀x∈d,vR H x.1 x.2.1:=by
 induction p with
 |nil=>exact λx c=>nomatch c
 |cons h t ih=>
  intro x c;rcases aF.mp c with rfl|c
  .rw[h.1];exact C3 (h.2.mono s)
  .exact ih x c
def Fs.flr(x:Fs P w F H a bs fl):Paired (tm F) bs fl:=by
 obtain⟨c,e,rfl,p⟩:=x;clear e;induction p with
 |nil=>exact .nil
 |cons h t ih=>exact .cons h.2 ih
def GX{f g:Ky}(h:((Sum.inl f.1,f.2.map Sum.inl):lB×List lB)=(.inl g.1,g.2.map .inl)):f=g:=by obtain⟨a,b⟩:=f;obtain⟨c,d⟩:=g;have e:=Prod.mk.inj h;have j:a=c:=Sum.inl.inj e.1;have i:b=d:=(cD λ_ _ w=>Sum.inl.inj w).mp e.2;rw[j,i]
def IG{c:List FE}{fl:List Ky}(p:Paired (λ(x:FE) (f:Ky)=>x.1=(.inl f.1,f.2.map .inl)/\tm F x.2.1 f) c fl)(g:Ky):(atKey c (.inl g.1,g.2.map .inl)).isSome=decide (g∈fl):=by
 induction p with
 |nil=>simp[atKey]
 |@cons x f c fl h t ih=>
  unfold atKey at ih ⊢;rw[List.find?_cons];by_cases e:f=g
  .subst e;rw[show decide (x.1=((Sum.inl f.1,f.2.map Sum.inl):lB×List lB))=true from aC h.1];simp
  .rw[show decide (x.1=((Sum.inl g.1,g.2.map Sum.inl):lB×List lB))=false from aB λz=>e (GX (h.1.symm.trans z))];have:decide (g∈f::fl)=decide (g∈fl):=by simp[Ne.symm e]
   rw[this];exact ih
def Iz{d:List FE}{r:Vq}(p:Paired (λ(x:FE) (f:Ky)=>x.1=(.inl f.1,f.2.map .inl)/\tm F x.2.1 f) d fl)(i:tm F b g):∃c,Fs P w F (fN H a (qq P w a (storedH d (.inl g.1,g.2.map .inl) b r))) a c (rF fl g):=by
 refine⟨_,_,eJ,rfl,?_⟩;unfold storedH rF;rw[IG p g];by_cases e:g∈fl
 .rw[aQ (aC e),aQ e];clear e;induction p with
  |nil=>exact .nil
  |@cons x f d fl h t ih=>
   refine .cons ?_ ih;unfold putAt;split
   .exact⟨h.1,h.2⟩
   .exact h
 .rw[aR (by simpa using e),aR e];clear e;induction p with
  |nil=>exact .cons ⟨rfl,i⟩ .nil
  |cons h t ih=>exact .cons h ih
end
end L2
namespace Cu
noncomputable def G(a b:Int):Int:=(Int.gcd a b:Nat)
def IL a b:G b (Int.fmod a b)=G a b:=by
 unfold G;have e:=Int.fmod_def a b;rw[e];congr 1;apply Nat.dvd_antisymm
 .apply Int.dvd_gcd
  .have f:=cJ b (a-b*Int.fdiv a b);have h:=cK b (a-b*Int.fdiv a b);have d:=Int.dvd_add h (cL (c:=Int.fdiv a b) f);have g:a-b*Int.fdiv a b+b*Int.fdiv a b=a:=by omega
   rw[g]at d;exact d
  .exact cJ b _
 .apply Int.dvd_gcd
  .exact cK a b
  .exact Int.dvd_sub (cJ a b) (cL (cK a b))
def AL a b (h:b≠0):(Int.fmod a b).natAbs<b.natAbs:=by
 rcases Int.lt_or_gt_of_ne h with c|c
 .have d:=cN (-a) (show 0 < -b by omega);have e:=cO (-a) (show 0 < -b by omega);rw[Int.neg_fmod_neg]at d e;omega
 .have d:=cN a c;have e:=cO a c;omega
def Cw a:G a 0=(a.natAbs:Int):=by unfold G;rw[Int.gcd_zero_right]
def sZ a b:0<=G a b:=bx _
def yK a b:G a b ∣ a:=cJ a b
def qC a b:G a b ∣ b:=cK a b
def Mu a b (h:b≠0):G a b<=(b.natAbs:Int):=by have:=Int.natAbs_dvd_natAbs.mpr (qC a b);have c:=Nat.le_of_dvd (by omega) this;have:=sZ a b;omega
end Cu
namespace Cu
open PySem PyProof.Rows
open PySem.Builtin.Int (intBits)
def noPy(h:intBits y<=m)(c:m<=8000):PySem.Builtin.divisionGoesByPylong x y=false:=by
 refine PyProof.noPylong_of_log2 ?_;rcases Nat.eq_zero_or_pos y.natAbs with a|b
 .rw[a];decide
 .refine (Nat.log2_lt (br b)).mpr ?_;exact lt_pow_of_bits h (by omega)
end Cu
namespace L2
open PySem PySem.Spec PyProof.Rows
def Cz:i7 X (.builtin "isinstance") (λa H Q=>∃x T t b,a=[x,.ty T]/\mF X.K H x t/\W.kitOne X.K t (.type T)=some b/\Q (.bl b) H):=by
 intro f s d H a g Q I r h;obtain⟨x,T,t,b,rfl,ty,e,q⟩:=h;cases r with
 |cons r1 r2=>
  cases r2 with
  |cons r3 r4=>cases r4;cases (r3);exact A7 I r1 ty e λc=>⟨.bl b,H,I.tok c,rfl,q⟩
def Jc:bootBuiltins "isinstance" = some (.builtin "isinstance"):=by decide +kernel
def Dt:bootBuiltins "abs" = some (.builtin "abs"):=by decide +kernel
def CU:bootBuiltins "int" = some (.type "int"):=by decide +kernel
def Ag:bootBuiltins "bool" = some (.type "bool"):=by decide +kernel
def jS:bootBuiltins "tuple" = some (.type "tuple"):=by decide +kernel
def jl:bootBuiltins "len" = some (.builtin "len"):=by decide +kernel
end L2
namespace C4
def NP(c e:LI):Prop:=∀i j,i<c.length->j<c.length->c.getD i 0*e.getD j 0=c.getD j 0*e.getD i 0
def par_of_place(a:c.getD p 0≠0)(h:∀i,i<c.length->c.getD i 0*e.getD p 0=e.getD i 0*c.getD p 0):NP c e:=λi j l g=>by have d:=h i l;have f:=h j g;refine Int.eq_of_mul_eq_mul_right a ?_;have k:c.getD i 0*e.getD j 0*c.getD p 0=c.getD i 0*(e.getD j 0*c.getD p 0):=cQ _ _ _;have b:c.getD j 0*e.getD i 0*c.getD p 0=c.getD j 0*(e.getD i 0*c.getD p 0):=cQ _ _ _;rw[k,b,<-d,<-f,<-cQ,<-cQ,cR (c.getD i 0) (c.getD j 0)]
end C4
namespace L2
open PySem PySem.W PySem.Spec PyProof.Rows
def rM(K:W.Frag)(a:List Str):Bool:=a.all (λx=>match tabIn K x with
  |some (c,P)=>(K.lookup P).isNone&&codeIn K (.ref c) x
  |none=>false)&&decide ((a.map λx=>(tabIn K x).map (·.2)).Nodup)
def pN(H0:Hp)(a:List (Addr×Addr×Str)):Hp:=λb=>match a.find? (λq=>q.2.1==b) with
 |some q=>some (.tbl (q.2.2++ ".<locals>.<lambda>") #[])
 |none=>H0 b
def zB{H0:Hp}{a:List (Addr×Addr×Str)}(b:∀q∈a,∀r∈a,q.2.1=r.2.1->q=r){q:Addr×Addr×Str}(c:q∈a):pN H0 a q.2.1=some (.tbl (q.2.2++ ".<locals>.<lambda>") #[]):=by
 unfold pN;cases e:a.find? (λr=>r.2.1==q.2.1) with
 |none=>exact absurd (List.find?_eq_none.mp e q c) (by simp)
 |some r=>have d:=cS e;have f:=List.find?_some e;obtain rfl:=b r d q c (by simpa using f);rfl
def GK{H0:Hp}{a:List (Addr×Addr×Str)}{b:Addr}{u:HO}(h:pN H0 a b=some u):(∃q∈a,q.2.1=b/\u=.tbl (q.2.2++ ".<locals>.<lambda>") #[])\/((∀q∈a,q.2.1≠b)/\H0 b=some u):=by
 unfold pN at h;cases e:a.find? (λr=>r.2.1==b) with
 |none=>rw[e]at h;exact .inr ⟨λq c z=>List.find?_eq_none.mp e q c (by simpa using z),h⟩
 |some r=>rw[e]at h;cases h;exact .inl ⟨r,cS e,by simpa using List.find?_some e,rfl⟩
def E4{H0:Hp}{a:List (Addr×Addr×Str)}{b:Addr}(h:∀q∈a,q.2.1≠b):pN H0 a b=H0 b:=by unfold pN;rw[List.find?_eq_none.mpr λq c=>by simpa using h q c]
theorem AF{K:W.Frag}{P:Program}{w:World}{g:Sq}{mg mb:Str->Option Value}{a fa:Addr}{vs:List Vq}{ns:LI}{k:Nat}{fd:FuncData}{x:Str}{sp:Sp}(f:List (Addr×Addr×Str))
  (KX:K.In g.heap) (hns:g.heap.Ns mainGlobals mg) (p:g.heap.Ns builtinsNs mb) (hbb:∀x:Str,x≠ "__name__" ->mb x=bootBuiltins x) (hlim:g.heap.NoLimit) (hg:g.gens = #[])
  (ha:g.heap.get? a=some {cls:=.type "list",data:=.seq vs.toArray}) (hi:IntsAre vs ns) (hl:ns.length<=sizeLine) (R:fP k callerA)
  (L:∀q∈f,CodeHd g.heap q.1 q.2.1/\g.heap.get? q.2.1=some (tabObj #[])/\K.lookup q.2.1=none/\g.heap.CodeRec (.ref q.1) q.2.2/\g.heap.BuiltinsAt mg q.2.1) (hnd:∀q∈f,∀r∈f,q.2.1=r.2.1->q=r)
  (F:∀j:Heap,K.In j->j.Ns mainGlobals mg->(∀q∈f,CodeHd j q.1 q.2.1/\(q.1,q.2.1)∈j.life.ids/\j.CodeRec (.ref q.1) q.2.2/\j.BuiltinsAt mg q.2.1)->ku P w K mg j nH k fa fd [x] sp) (S:∀(s:Sq) (u:Vq),BindsTo s fd ⟨[u],[]⟩ [(x,u)])
  (hsp:∀H:Hp,iJ K H a (ns.map V.int)->sp [.ref a] H (λv _=>v=.bl true) λ_ _ _=>False) :
  codeAny (model P w) callerA (.call (.ref fa) ⟨[.ref a],[]⟩) (λr C=>r=.ok (.ret (.bool true))/\OldK g.heap C.heap/\C.os=g.os/\AllBare C.gens) g:=by
 have rv:=uu hi;have lenV:=hi.length;have tne:∀q∈f,q.2.1≠a:=λq i z=>by have:=(L q i).2.1;rw[z,ha]at this;cases this
 have N:∀H0:Hp,(∀b u,H0 b=some u->b=a/\∃o xs,u=.frz o (.lst xs))->iJ K H0 a (ns.map V.int)->nv P w H0 g.heap->(H0 a≠none->K.lookup a=none)->
   codeAny (model P w) callerA (.call (.ref fa) ⟨[.ref a],[]⟩) (λr C=>r=.ok (.ret (.bool true))/\OldK g.heap C.heap/\C.os=g.os/\AllBare C.gens) g:=by
  intro H0 hO hS hok hK;have cases3:∀b u,pN H0 f b=some u->(∃q∈f,q.2.1=b/\u=.tbl (q.2.2++ ".<locals>.<lambda>") #[])\/(b=a/\H0 b=some u):=λb u h=>by
   rcases GK h with z|⟨_,z⟩
   .exact .inl z
   .exact .inr ⟨(hO b u z).1,z⟩
  have free:∀{b:Addr} {o:Obj},g.heap.get? b=some o->(∀c,o.data≠.seq vs.toArray c)->(o≠tabObj #[])->pN H0 f b=none:=λ{b o} e d t=>by
   cases q:pN H0 f b with
   |none=>rfl
   |some u=>
    rcases cases3 b u q with⟨r,R,z,_⟩|⟨z,_⟩
    .subst z;rw[(L r R).2.1]at e;cases e;exact absurd rfl t
    .subst z;rw[ha]at e;cases e;exact absurd rfl (d 0)
  have baseOf:∀{b:Addr} {o:Obj},g.heap.get? b=some o->pN H0 f b=none->(mv g.heap (pN H0 f) (f.map λq=>(q.1,q.2.1))).get? b=some o:=λe n=>CD e n;have E:∀{b:Addr} {m:Str->Option Value},g.heap.Ns b m->(mv g.heap (pN H0 f) (f.map λq=>(q.1,q.2.1))).Ns b m:=λ{b m} ⟨o,es,ep,e,d,r⟩=>⟨o,es,ep,baseOf e (free e (λc z=>by rw[d]at z;cases z) λz=>by rw[z]at d;cases d),d,r⟩;have hKb:K.In (mv g.heap (pN H0 f) (f.map λq=>(q.1,q.2.1))):=λb o e=>baseOf (KX b o e) (by
   cases q:pN H0 f b with
   |none=>rfl
   |some u=>
    rcases cases3 b u q with⟨r,R,z,_⟩|⟨z,y⟩
    .subst z;rw[(L r R).2.2.1]at e;cases e
    .subst z;rw[hK (by rw[y];exact λw=>nomatch w)]at e;cases e)
  have hM:Mod K mg (mv g.heap (pN H0 f) (f.map λq=>(q.1,q.2.1))):=⟨hKb,E hns,⟨mb,E p,hbb⟩,let ⟨mc,Z,h2⟩:=hlim;⟨mc,E Z,h2⟩⟩;have crec:∀{c:Addr} {n:Str},g.heap.CodeRec (.ref c) n->(∃P,CodeHd g.heap c P)->(mv g.heap (pN H0 f) (f.map λq=>(q.1,q.2.1))).CodeRec (.ref c) n:=λ{c n} ⟨c',o,fs,t,D,l,Y,e4⟩ ⟨P,o',vs',_,_,_,_,_,_,_,f1,f2,_⟩=>by cases D;rw[l]at f1;cases f1;exact⟨c,o,fs,t,rfl,baseOf l (free l (λc z=>by rw[Y]at z;cases z) λz=>by rw[z]at f2;cases f2),Y,e4⟩
  have B:∀q∈f,CodeHd (mv g.heap (pN H0 f) (f.map λq=>(q.1,q.2.1))) q.1 q.2.1/\(q.1,q.2.1)∈(mv g.heap (pN H0 f) (f.map λq=>(q.1,q.2.1))).life.ids/\(mv g.heap (pN H0 f) (f.map λq=>(q.1,q.2.1))).CodeRec (.ref q.1) q.2.2/\(mv g.heap (pN H0 f) (f.map λq=>(q.1,q.2.1))).BuiltinsAt mg q.2.1:=λq i=>by
   obtain⟨Z,h2,h3,h4,h5⟩:=L q i;refine⟨?_,aD.mpr ⟨q,i,rfl⟩,crec h4 ⟨_,Z⟩,?_⟩
   .obtain⟨o,fs,file,tf,Q,tg,inF,text,tt,D,l,Y,r⟩:=Z;exact⟨o,fs,file,tf,Q,tg,inF,text,tt,baseOf D (free D (λc z=>by rw[Y]at z;cases z) λz=>by rw[z]at l;cases l),l,Y,r⟩
   .obtain⟨bm,o,b1,b2,b3,b4,b5,b6,b7,b8⟩:=h5;exact⟨bm,o,b1,b2,b3,b4,baseOf b5 (free b5 (λc z=>by rw[b8]at z;cases z) λz=>by rw[z]at b6;cases b6),b6,b7,b8⟩
  have hokT:nv P w (pN H0 f) g.heap:=λb u e=>by
   rcases cases3 b u e with⟨q,i,z,rfl⟩|⟨z,y⟩
   .subst z;exact⟨(L q i).2.1,True.intro,λv hv=>nomatch hv⟩
   .obtain⟨_,o,xs,rfl⟩:=hO b u y;have:=hok b _ y;obtain⟨Z,h2⟩:=this;exact⟨Z,h2⟩
  have tabF:zL (mv g.heap (pN H0 f) (f.map λq=>(q.1,q.2.1))) (pN H0 f):=λc P qn hm hc=>by obtain⟨q,i,e⟩:=aD.mp (show (c,P)∈f.map λq=>(q.1,q.2.1) from hm);cases e;obtain⟨c1,o1,v1,t1,D,l,Y,e4⟩:=hc;obtain⟨c2,o2,v2,t2,f1,f2,f3,f4⟩:=(B q i).2.2.1;cases D;cases f1;rw[l]at f2;cases f2;rw[Y]at f3;cases f3;rw[e4]at f4;cases f4;exact⟨#[],zB hnd i⟩
  have e0:rY P w K mg (mv g.heap (pN H0 f) (f.map λq=>(q.1,q.2.1))) callerA [] g (pN H0 f):=⟨rfl,hM,λb o e=>Hx e,Nat.le_of_eq (AG _ _),trivial,λb p=>absurd (show b∈([]) from p) (by simp),hokT,.of_eq hg,tabF⟩;have hS':iJ K (pN H0 f) a (ns.map V.int):=by
   rcases hS with (h|⟨o,h⟩)|h
   .exact .inl (.inl (by rw[E4 tne];exact h))
   .exact .inl (.inr ⟨o,by rw[E4 tne];exact h⟩)
   .exact .inr h
  refine codeAny_mono ((F _ hKb (E hns) B).run callerA [] g (pN H0 f) ⟨[.ref a],[]⟩ [.ref a] [.ref a] _ _ R e0 (S g (.ref a)) (.cons rfl .nil) (hsp _ hS')) λr C h=>?_;cases r with
  |error e=>exact h.elim
  |ok fl=>
   cases fl with
   |next=>exact False.elim h
   |brk=>exact False.elim h
   |cont=>exact False.elim h
   |ret u=>
    obtain⟨v,H',os,bare,un,I,r',q⟩:=h;have q':=q;subst q';obtain rfl:u=Value.bool true:=r';have J:∀b o,g.heap.get? b=some o->(∀q∈f,q.2.1≠b)->C.heap.get? b=some o:=λb o e n=>by
     cases q:pN H0 f b with
     |none=>exact un.keep b o e q (by intro z;exact absurd (show b∈([]) from z) (by simp)) (by simp)
     |some u=>
      rcases cases3 b u q with⟨r,R,z,_⟩|⟨z,y⟩
      .exact absurd z (n r R)
      .obtain⟨_,ob,xs,rfl⟩:=hO b u y;have z2:=un.frzs b ob _ q;obtain⟨D,_⟩:=hok b _ y;obtain⟨l,_⟩:=I b _ z2;rw[e]at D;cases D;exact l
    have A:∀q∈f,∃ps,C.heap.get? q.2.1=some (tabObj ps):=λq i=>by obtain⟨more,e⟩:=un.tbls _ _ _ (zB (H0:=H0) hnd i);exact⟨_,(show gq P w H' C.heap q.2.1 (.tbl _ _) from I _ _ e).1⟩
    refine⟨rfl,⟨λb o e=>?_,λb o e=>?_⟩,os,bare⟩
    .by_cases i:∃q∈f,q.2.1=b
     .obtain⟨q,i,rfl⟩:=i;obtain⟨ps,hp⟩:=A q i;have l:=(L q i).2.1;rw[e]at l;cases l;exact .inr (.inl ⟨((L q i).1.tab (L q i).2.1).isCodeTable,rfl,#[],ps,rfl,by rw[Array.empty_append];exact hp⟩)
     .exact .inl (J b o e λq U z=>i ⟨q,U,z⟩)
    .by_cases i:∃q∈f,q.2.1=b
     .obtain⟨q,i,rfl⟩:=i;obtain⟨ps,hp⟩:=A q i;exact⟨_,hp⟩
     .exact⟨o,J b o e λq U z=>i ⟨q,U,z⟩⟩
 cases hk:K.lookup a with
 |some o=>have e:=KX a o hk;rw[ha]at e;cases e;exact N (λ_=>none) (λb u z=>nomatch z) (.inr ⟨_,vs.toArray,_,hk,rfl,rfl,rfl,by rw[bz,lenV];exact hl,by simpa using rv⟩) (λb u z=>nomatch z) λz=>absurd rfl z
 |none=>
  refine N (λb=>if b=a then some (.frz {cls:=.type "list",data:=.seq vs.toArray} (.lst (ns.map V.int))) else none) (λb u z=>?_) (.inl (.inr ⟨{cls:=.type "list",data:=.seq vs.toArray},aQ rfl⟩)) (λb u z=>?_) λ_=>hk
  .by_cases p:b=a
   .have X:=(aQ p).symm.trans z;cases X;exact⟨p,_,_,rfl⟩
   .have X:=(aR p).symm.trans z;cases X
  .by_cases p:b=a
   .have X:=(aQ p).symm.trans z;cases X;subst p;exact⟨ha,by rw[ax];exact hl,vs,_,rv,ha⟩
   .have X:=(aR p).symm.trans z;cases X
theorem DH{l:W.OpenLaw}{n k:Nat}{q:Program}{E:List Str}{XP:(Str->Option Value)->Heap->Prop}{YP:World->Heap->Prop}{d:DefRec}{K:Params->W.Frag}{sp:W.Frag->Sp}{x:Str}(p:List Str)
  (hn:l.most=some n) (hn2:n<=sizeLine) (hdf:d.params.defaults=[]) (hr:fP k callerA)
  (hY:∀(w:World) (h:Heap),YP w h->(K w.params).In h) (hx:∀x∈p,∃d',(recsOf q).find? (λe=>e.name==x)=some d') (X:∀w:World,rM (K w.params) p=true)
  (F:∀(w:World) (mg:Str->Option Value) (fa:Addr) (h:Heap),(K w.params).In h->h.Ns mainGlobals mg->mg d.name=some (.ref fa)->
   ∃fd:FuncData,(∀(s:Sq) (u:Vq),BindsTo s fd ⟨[u],[]⟩ [(x,u)])/\
    ∀i:Heap,(K w.params).In i->i.Ns mainGlobals mg->(∀y∈p,ya (K w.params) mg i y)->ku l.prog w (K w.params) mg i nH k fa fd [x] (sp (K w.params)))
  (hsp:∀(K:W.Frag) (H:Hp) (a:Addr) (Q:LI),Q.length<=n->(∀z∈Q,PySem.Builtin.Int.intBits z<=2 ^ 20)->iJ K H a (Q.map V.int)->sp K [.ref a] H (λv _=>v=.bl true) λ_ _ _=>False) :
  W.WalkO q E XP YP l.row.toRowW d [] (λf vs=>PySem.call f vs):=by
 intro w s₀ s₁ mg mb G Y fa o pm cd doc dV kV ho hd hcd hD hmg hg args vals as hpre R hrd hwl hlo;obtain rfl:dV=.none:=Dflts.none hD hdf;obtain rfl:kV=.none:=Dflts.noKw hD;obtain⟨a,vs,Q,rfl,rfl,U,D,jH⟩:=Att.script_of hn hpre hwl;have hb:∀z∈Q,PySem.Builtin.Int.intBits z<=2 ^ 20:=λz hz=>by have S:=(layW_cons R).1;have J:=layableW_item S (WData.int z) (aD.mpr ⟨z,hz,rfl⟩);exact PyData.bits_of_layable (layable_int J)
 have KX:=hY w _ Y;obtain⟨fd,hbd,hF⟩:=F w mg fa _ KX G.T.g hmg;have X:=X w;unfold rM at X;rw[bL]at X;obtain⟨hk1,B⟩:=X;have B:=of_decide_eq_true B;have one:∀y∈p,∃c P,tabIn (K w.params) y=some (c,P)/\(K w.params).lookup P=none/\codeIn (K w.params) (.ref c) y=true:=λy j=>by
  have:=cw.mp hk1 y j;split at this
  .rename_i c P e;rw[bL]at this;exact⟨c,P,e,by simpa using this.1,this.2⟩
  .cases this
 obtain⟨bm,ob,b1,b2,b3,b4,b5,b6⟩:=G.T.bmain;have hbG:bm≠mainGlobals:=λz=>by obtain⟨o,es,ep,e,hd,_⟩:=G.T.g;rw[z,e]at b3;cases b3;rw[hd]at b6;cases b6
 have A:∀t∈p.filterMap (λy=>(tabIn (K w.params) y).map λr=>(r.1,r.2,y)),t.2.2∈p/\tabIn (K w.params) t.2.2=some (t.1,t.2.1):=λt ht=>by obtain⟨y,j,e⟩:=bt.mp ht;obtain⟨r,m,rfl⟩:=cE.mp e;exact⟨j,m⟩
 have inj:∀{N:List Str},(N.map λx=>(tabIn (K w.params) x).map (·.2)).Nodup->∀y∈N,∀z∈N,(tabIn (K w.params) y).map (·.2)=(tabIn (K w.params) z).map (·.2)->y=z:=λ{N} nd=>by
  induction N with
  |nil=>exact λy j=>nomatch j
  |cons u N ih=>
   rw[bB,bG]at nd;intro y j z hz e;rcases aF.mp j with m|Z
   .rcases aF.mp hz with L|I
    .exact m.trans L.symm
    .exact absurd (aD.mpr ⟨z,I,by rw[<-m];exact e.symm⟩) nd.1
   .rcases aF.mp hz with L|I
    .exact absurd (aD.mpr ⟨y,Z,by rw[<-L];exact e⟩) nd.1
    .exact ih nd.2 y Z z I e
 refine enter_call (codeAny_mono (AF (p.filterMap λy=>(tabIn (K w.params) y).map λr=>(r.1,r.2,y)) KX G.T.g G.T.b G.T.builtins G.T.nolimit hg U D (aN jH hn2) hr (λt ht=>?_) (λt ht t' ht' e=>?_) (λi S J h3=>hF i S J λy j=>?_) hbd (λH hS=>hsp _ H a Q jH hb hS)) λr s' hq=>?_)
 .obtain⟨j,e⟩:=A t ht;obtain⟨d',hd'⟩:=hx _ j;obtain⟨C,hP⟩:=tab_of G.T KX hd' e;obtain⟨c,P,e',hl,hc⟩:=one _ j;rw[e]at e';obtain⟨t1,t2,t3⟩:=t;cases e';exact⟨C,hP,hl,codeRec_of KX hc,bm,ob,b1,b2,hbG,(λz=>by rw[z,hP]at b3;cases b3;cases b4),b3,b4,b5,b6⟩
 .obtain⟨j,m⟩:=A t ht;obtain⟨hy',L⟩:=A t' ht';have:t.2.2=t'.2.2:=inj B _ j _ hy' (by rw[m,L];simp[e]);rw[this,L]at m;obtain⟨t1,t2,t3⟩:=t;obtain⟨t1',t2',t3'⟩:=t';cases m;cases this;rfl
 .intro f oc od fd' osl hm hlk;obtain⟨c,P,e,hl,hc⟩:=one y j;obtain⟨f1,f2,f3,f4⟩:=h3 (c,P,y) (bt.mpr ⟨y,j,by rw[e];rfl⟩);exact⟨c,P,law_code S J e hm (S _ _ hlk) rfl,f1,f2,f3,f4⟩
 obtain⟨rfl,J,h3,h4⟩:=hq;exact⟨.inl ⟨.bool true,.bool true,[],rfl,λ_=>rfl,.bool true,Att.post_true l _,λ_=>⟨List.Pairwise.nil,λ_ hm=>(nomatch hm)⟩⟩,J,h3,h4⟩
end L2
namespace L3
open PySem L2
inductive T where
 |non|bl (b:Bool)|int (i:Int)|str (x:Str)
 |tup (ts:List T)|lst (ts:List T)|scr (ns:LI)
 |obj (C:Addr) (fs:List (Str×T))|emp
 |dic (kvs:List (LI×T))
inductive M(α:Type) where
 |bad|ok (a:α)|er (C:Addr) (n:Oq Int)
namespace M
noncomputable def bind{b c:Type}(m:M b)(k:b->M c):M c:=match m with
 |.bad=>.bad
 |.ok a=>k a
 |.er C n=>.er C n
instance:Monad M where
 pure:=.ok
 bind:=M.bind
noncomputable def res{b:Type}(m:M b)(P:b->Prop)(E:Addr->Option Int->Prop):Prop:=match m with
 |.bad=>False
 |.ok a=>P a
 |.er C n=>E C n
def res.unb{m:M α}{k:α->M β}{P:β->Prop}(h:res (m.bind k) P E):res m (λa=>res (k a) P E) E:=by cases m<;>exact h
def res.mono{m:M α}{P b:α->Prop}(h:res m P E)(c:∀a,P a->b a)(d:∀C n,E C n->E' C n):res m b E':=by
 cases m with
 |bad=>exact h
 |ok a=>exact c a h
 |er C n=>exact d C n h
noncomputable def noEr{a:Type}(m:M a):M a:=match m with
 |.er _ _=>.bad
 |m=>m
def res.noEr{m:M α}{P:α->Prop}(h:res m.noEr P E):res m P E':=by
 cases m with
 |bad=>exact h
 |ok a=>exact h
 |er C n=>exact h.elim
@[simp] theorem bind_ok a (k:α->M β):M.bind (.ok a) k=k a:=rfl
@[simp] theorem Ly(k:α->M β):M.bind (.bad:M α) k=.bad:=rfl
@[simp] theorem Mj C n (k:α->M β):M.bind (.er C n:M α) k=.er C n:=rfl
noncomputable def NoE{a:Type}(m:M a):Prop:=∀C n,m≠.er C n
def res.ne{m:M α}{P:α->Prop}(h:res m P E)(ne:NoE m):res m P E':=by
 cases m with
 |bad=>exact h
 |ok a=>exact h
 |er C n=>exact absurd rfl (ne C n)
@[simp] theorem noEr_ok(a:α):noEr (.ok a)=.ok a:=rfl
end M
mutual
inductive iq(K:W.Frag)(F:Hp):V->T->Prop
 |non:iq K F .non .non
 |bl (b:Bool):iq K F (.bl b) (.bl b)
 |int (i:Int):iq K F (.int i) (.int i)
 |str (x:Str):iq K F (.str x) (.str x)
 |tup {a:Addr} {xs:List V} {ts:List T} (h:F a=some (.tup xs)) (r:eT K F xs ts):iq K F (.ref a) (.tup ts)
 |lst {a:Addr} {xs:List V} {ts:List T} (h:F a=some (.lst xs)) (r:eT K F xs ts):iq K F (.ref a) (.lst ts)
 |scr {a:Addr} {ns:LI} (h:iJ K F a (ns.map V.int)):iq K F (.ref a) (.scr ns)
 |obj {a C dx:Addr} {fs:List (Str×V)} {ts:List (Str×T)} (h:F a=some (.ins C dx fs)) (r:lC K F fs ts):iq K F (.ref a) (.obj C ts)
 |emp {a:Addr} (h:F a=some (.dK [])):iq K F (.ref a) .emp
 |dic {a:Addr} {xs:List (List lB×V)} {kvs:List (LI×T)} (h:F a=some (.dT xs)) (r:vQ K F xs kvs):iq K F (.ref a) (.dic kvs)
inductive eT(K:W.Frag)(F:Hp):List V->List T->Prop
 |nil:eT K F [] []
 |cons {v:V} {t:T} {vs:List V} {ts:List T} (h:iq K F v t) (r:eT K F vs ts):eT K F (v::vs) (t::ts)
inductive lC(K:W.Frag)(F:Hp):List (Str×V)->List (Str×T)->Prop
 |nil:lC K F [] []
 |cons {x:Str} {v:V} {t:T} {vs:List (Str×V)} {ts:List (Str×T)} (h:iq K F v t) (r:lC K F vs ts):lC K F ((x,v)::vs) ((x,t)::ts)
inductive vQ(K:W.Frag)(F:Hp):List (List lB×V)->List (LI×T)->Prop
 |nil:vQ K F [] []
 |cons {k:LI} {v:V} {t:T} {vs:List (List lB×V)} {ts:List (LI×T)} (h:iq K F v t) (r:vQ K F vs ts):vQ K F ((k.map Sum.inl,v)::vs) ((k,t)::ts)
end
section
variable {K:W.Frag}{F F':Hp}
mutual
theorem iq.mono(s:eN F F'):∀{v} {t},iq K F v t->iq K F' v t
 |_,_,.non=>.non
 |_,_,.bl b=>.bl b
 |_,_,.int i=>.int i
 |_,_,.str x=>.str x
 |_,_,.tup h r=>.tup (s _ _ h) (eT.mono s r)
 |_,_,.lst h r=>.lst (s _ _ h) (eT.mono s r)
 |_,_,.scr h=>.scr (s.seq h)
 |_,_,.obj h r=>.obj (s _ _ h) (lC.mono s r)
 |_,_,.emp h=>.emp (s _ _ h)
 |_,_,.dic h r=>.dic (s _ _ h) (vQ.mono s r)
theorem eT.mono(s:eN F F'):∀{vs} {ts},eT K F vs ts->eT K F' vs ts
 |_,_,.nil=>.nil
 |_,_,.cons h r=>.cons (iq.mono s h) (eT.mono s r)
theorem lC.mono(s:eN F F'):∀{vs} {ts},lC K F vs ts->lC K F' vs ts
 |_,_,.nil=>.nil
 |_,_,.cons h r=>.cons (iq.mono s h) (lC.mono s r)
theorem vQ.mono(s:eN F F'):∀{vs} {ts},vQ K F vs ts->vQ K F' vs ts
 |_,_,.nil=>.nil
 |_,_,.cons h r=>.cons (iq.mono s h) (vQ.mono s r)
end
theorem eT.length:∀{vs} {ts},eT K F vs ts->vs.length=ts.length
 |_,_,.nil=>rfl
 |_,_,.cons _ r=>by rw[az,az,eT.length r]
theorem eT.get:∀{vs:List V} {ts:List T} {i:Nat} {t:T},eT K F vs ts->ts[i]? = some t->∃v,vs[i]? = some v/\iq K F v t
 |_,_,_,_,.nil,e=>by simp at e
 |_,_,0,_,.cons h _,e=>by simp at e;subst e;exact⟨_,rfl,h⟩
 |_,_,i+1,_,.cons _ r,e=>by obtain⟨v,a,h⟩:=eT.get r (by simpa using e);exact⟨v,by simpa using a,h⟩
def eT.at_{i:Nat}(r:eT K F vs ts)(e:vs[i]? = some v):∃t,ts[i]? = some t/\iq K F v t:=by
 have a:i<ts.length:=by rw[<-r.length];exact (aa.mp e).1
 obtain⟨c,b,h⟩:=r.get (ag a);rw[e]at b;cases b;exact⟨_,ag a,h⟩
theorem eT.append:∀{vs us} {ts ss},eT K F vs ts->eT K F us ss->eT K F (vs++us) (ts++ss)
 |_,_,_,_,.nil,q=>q
 |_,_,_,_,.cons h r,q=>.cons h (eT.append r q)
theorem eT.set(q:iq K F v t):∀{vs} {ts} i,eT K F vs ts->eT K F (vs.set i v) (ts.set i t)
 |_,_,_,.nil=>.nil
 |_,_,0,.cons _ r=>.cons q r
 |_,_,i+1,.cons h r=>.cons h (eT.set q i r)
theorem eT.take:∀{vs} {ts} n,eT K F vs ts->eT K F (vs.take n) (ts.take n)
 |_,_,0,_=>.nil
 |_,_,_+1,.nil=>.nil
 |_,_,n+1,.cons h r=>.cons h (eT.take n r)
theorem eT.drop:∀{vs} {ts} n,eT K F vs ts->eT K F (vs.drop n) (ts.drop n)
 |_,_,0,r=>r
 |_,_,_+1,.nil=>.nil
 |_,_,n+1,.cons _ r=>eT.drop n r
theorem eT.rep:∀{vs} {ts} n,eT K F vs ts->eT K F (List.replicate n vs).flatten (List.replicate n ts).flatten
 |_,_,0,_=>.nil
 |_,_,n+1,r=>by rw[bP,bP,bQ,bQ];exact r.append (eT.rep n r)
theorem eT.ints:∀{vs:List V} {a:LI},eT K F vs (a.map T.int)->vs=a.map V.int
 |_,[],.nil=>rfl
 |_,_::_,.cons h r=>by cases h;rw[eT.ints r];rfl
theorem eT.bls:∀{vs:List V} {a:List Bool},eT K F vs (a.map T.bl)->vs=a.map V.bl
 |_,[],.nil=>rfl
 |_,_::_,.cons h r=>by cases h;rw[eT.bls r];rfl
theorem eT.of_ints:∀(a:LI),eT K F (a.map V.int) (a.map T.int)
 |[]=>.nil
 |n::a=>.cons (.int n) (eT.of_ints a)
theorem lC.look:∀{fs} {ts},lC K F fs ts->ts.lookup f=some t->∃v,fs.lookup f=some v/\iq K F v t
 |_,_,.nil,e=>by cases e
 |_,_,.cons (x:=x) h r,e=>by
  by_cases b:f=x
  .subst b;rw[cT]at e;cases e;exact⟨_,cT,h⟩
  .have a:(f==x)=false:=by simpa using b
   rw[bY,a]at e;obtain⟨v,d,c⟩:=lC.look r e;exact⟨v,by rw[bY,a];exact d,c⟩
theorem lC.none_:∀{fs} {ts},lC K F fs ts->ts.lookup f=none->fs.lookup f=none
 |_,_,.nil,e=>rfl
 |_,_,.cons (x:=x) h r,e=>by
  by_cases a:f=x
  .subst a;rw[cT]at e;cases e
  .have b:(f==x)=false:=by simpa using a
   rw[bY,b]at e ⊢;exact lC.none_ r e
end
def uz(h:BY o (some u))(b:∀q a,u≠.tbl q a):o=u:=by
 cases o with
 |tbl q a=>obtain⟨m,e⟩:=h;exact absurd (Option.some.inj e) (b _ _)
 |_=>exact (Option.some.inj h).symm
def Il{x y:Oq HO}(h:BY o x)(k:∀a,x=some a->BY a y):BY o y:=by
 cases o with
 |tbl q ps=>obtain⟨m,e⟩:=h;obtain⟨b,c⟩:=k _ e;exact⟨m++b,by rw[c,bp]⟩
 |_=>exact k _ h
def rK{H:Hp}(h:BY u (H b))(h':H p=none):b≠p:=λz=>h.ne (by rw[z];exact h')
structure Gr(F H F' H':Hp):Prop where
 ff:eN F F'
 fh:eN F' H'
 hh:eN H H'
 nw:∀a,F' a≠none->F a≠none\/H a=none\/∃xs,H a=some (.tup xs)
def Gr.refl(h:eN F H):Gr F H F H:=⟨.refl _,h,.refl _,λ_ h=>.inl h⟩
def eR(h:eN H H')(e:H' a=none):H a=none:=by
 cases q:H a with
 |none=>rfl
 |some o=>exact absurd e (h a o q).ne
def Gr.trans(g:Gr F H F' H')(b:Gr F' H' F'' H''):Gr F H F'' H'':=
 ⟨g.ff.trans b.ff,b.fh,g.hh.trans b.hh,λa d=>by
  rcases b.nw a d with q|q|⟨c,q⟩
  .exact g.nw a q
  .exact .inr (.inl (eR g.hh q))
  .cases z:H a with
   |none=>exact .inr (.inl rfl)
   |some o=>exact .inr (.inr ⟨c,by have k:=g.hh a o z;rw[q]at k;rw[uz k λ_ _ y=>nomatch y]⟩)⟩
def Gr.new(s:eN F H)(h:H p=none):Gr F H (fN F p o) (fN H p o):=by
 have c:=eR s h;refine⟨λb u e=>?_,λb u e=>?_,λb u e=>?_,λb a=>?_⟩
 .rw[eM (eV e c)];exact .of e
 .by_cases q:b=p
  .subst q;rw[eJ]at e ⊢;exact .of e
  .rw[eM q]at e ⊢;exact s b u e
 .rw[eM (eV e h)];exact .of e
 .by_cases q:b=p
  .subst q;exact .inr (.inl h)
  .rw[eM q]at a;exact .inl a
def Gr.new'(s:eN F H)(h:H p=none):Gr F H F (fN H p o):=by
 refine⟨.refl _,λb u e=>?_,λb u e=>?_,λb a=>.inl a⟩
 .rw[eM (rK (s b u e) h)];exact s b u e
 .rw[eM (eV e h)];exact .of e
def Gr.take(g:Gr F0 H0 F H)(h:H p=some o)(c:F p=none)(d:H0 p=none):Gr F0 H0 (fN F p o) H:=by
 refine⟨λb u e=>?_,λb u e=>?_,g.hh,λb a=>?_⟩
 .rw[eM (rK (g.ff b u e) c)];exact g.ff b u e
 .by_cases q:b=p
  .subst q;rw[eJ]at e;cases e;exact .of h
  .rw[eM q]at e;exact g.fh b u e
 .by_cases q:b=p
  .subst q;exact .inr (.inl d)
  .rw[eM q]at a;exact g.nw b a
def gO(a:F p=none):eN F (fN F p o):=λb u e=>by rw[eM (eV e a)];exact .of e
abbrev Pe:=List (Option T)
section
variable (K:W.Frag)
def iW(F:Hp)(a:St)(ρ:Pe):Prop:=∀(i:Nat) (t:T),ρ[i]? = some (some t)->∃v,a[i]? = some (some v)/\iq K F v t
def iW.mono{K:W.Frag}(h:iW K F σ ρ)(s:eN F F'):iW K F' σ ρ:=λi t e=>let ⟨v,a,b⟩:=h i t e;⟨v,a,b.mono s⟩
def Nu(E:XK)(C:Addr)(n:Oq Int)(F H:Hp):Prop:=match n with
 |none=>E (.ref C) none H
 |some i=>∀a,F a=some (.xd [("at",.int i)])->E (.ref C) (some a) H
def kE(E:XK)(F H:Hp)(C:Addr)(n:Oq Int):Prop:=∀a b,Gr F H a b->Nu E C n a b
def kE.go(h:kE E F H C n)(g:Gr F H F1 H1):kE E F1 H1 C n:=λa b c=>h a b (g.trans c)
def kV(F H:Hp)(Q:VK)(t:T):Prop:=∀v a b,Gr F H a b->iq K a v t->Q v b
def kB(F H:Hp)(Q:Bool->Hp->Prop)(b:Bool):Prop:=∀c a,Gr F H c a->Q b a
def kA(F H:Hp)(Q:List V->Hp->Prop)(ts:List T):Prop:=∀c a b,Gr F H a b->eT K a c ts->Q c b
def kF(F H:Hp)(Q:VK)(ts:List T):Prop:=∀l c a b,Gr F H a b->H l=none->a l=none->b l=some (.lst c)->eT K a c ts->Q (.ref l) b
noncomputable def ME(E:XK)(t:TE)(f:Pe->M T):Prop:=∀F H a b Q,eN F H->iW K F a b->(f b).res (kV K F H Q) (kE E F H)->t a H Q
noncomputable def MT(E:XK)(t:TT)(f:Pe->M Bool):Prop:=∀F H a b Q,eN F H->iW K F a b->(f b).res (kB F H Q) (kE E F H)->t a H Q
noncomputable def MA(E:XK)(t:TA)(f:Pe->M (List T)):Prop:=∀F H a b Q,eN F H->iW K F a b->(f b).res (kA K F H Q) (kE E F H)->t a H Q
noncomputable def MF(E:XK)(t:TE)(f:Pe->M (List T)):Prop:=∀F H a b Q,eN F H->iW K F a b->(f b).res (kF K F H Q) (kE E F H)->t a H Q
end
section
variable {K:W.Frag}{E:XK}{t u ta tb:TE}{f g fa fb:Pe->M T}
def kV.go{t:T}(h:kV K F H Q t)(g:Gr F H F1 H1):kV K F1 H1 Q t:=λv a b c r=>h v a b (g.trans c) r
def kB.go{t:Bool}(h:kB F H Q t)(g:Gr F H F1 H1):kB F1 H1 Q t:=λa b c=>h a b (g.trans c)
def kF.go{t:List T}(h:kF K F H Q t)(g:Gr F H F1 H1):kF K F1 H1 Q t:=λl j e i k a b c d=>h l j e i (g.trans k) (eR g.hh a) b c d
def kV.now{t:T}(h:kV K F H Q t)(s:eN F H)(r:iq K F v t):Q v H:=h v F H (.refl s) r
def kF.of(h:kV K F H Q (.lst ts)):kF K F H Q ts:=λl i d e g c b a r=>h (.ref l) (fN d l (.lst i)) e (g.take a b c) (.lst eJ (r.mono (gO b)))
def MF.me{f:Pe->M (List T)}(h:MF K E t f):ME K E t (λρ=>(f ρ).bind λts=>.ok (.lst ts)):=λF H a ρ Q s V r=>h F H a ρ Q s V ((M.res.unb r).mono (λts q=>kF.of q) λ_ _ z=>z)
def ME.run{k:T->M α}{P:α->Prop}(h:ME K E t f)(s:eN F H)(v:iW K F σ ρ)(r:((f ρ).bind k).res P (kE E F H))
  (d:∀x w a b,Gr F H a b->iq K a w x->(k x).res P (kE E a b)->Q w b):t σ H Q:=
 h F H σ ρ Q s v ((M.res.unb r).mono (λx q w a b g c=>d x w a b g c (q.mono (λ_ z=>z) λ_ _ z=>z.go g)) λ_ _ z=>z)
def MT.run{t:TT}{f:Pe->M Bool}{k:Bool->M α}{P:α->Prop}(h:MT K E t f)(s:eN F H)(v:iW K F σ ρ)(r:((f ρ).bind k).res P (kE E F H))
  (c:∀x b a,Gr F H b a->(k x).res P (kE E b a)->Q x a):t σ H Q:=
 h F H σ ρ Q s v ((M.res.unb r).mono (λx q b a g=>c x b a g (q.mono (λ_ z=>z) λ_ _ z=>z.go g)) λ_ _ z=>z)
def MA.run{t:TA}{f:Pe->M (List T)}{k:List T->M α}{P:α->Prop}(h:MA K E t f)(s:eN F H)(v:iW K F σ ρ)(r:((f ρ).bind k).res P (kE E F H))
  (d:∀x w a b,Gr F H a b->eT K a w x->(k x).res P (kE E a b)->Q w b):t σ H Q:=
 h F H σ ρ Q s v ((M.res.unb r).mono (λx q w a b g c=>d x w a b g c (q.mono (λ_ z=>z) λ_ _ z=>z.go g)) λ_ _ z=>z)
@[simp] noncomputable def ei(i:Nat):Pe->M T:=λa=>match a[i]? with
 |some (some t)=>.ok t
 |_=>.bad
def II:ME K E (ja i) (ei i):=λF H b c Q s V r=>by
 unfold ei at r;split at r
 .rename_i t e;obtain⟨v,a,h⟩:=V i t e;exact⟨v,a,r.now s h⟩
 .exact r.elim
@[simp] noncomputable def cM(t:T):Pe->M T:=λ_=>.ok t
def HA{t:T}(h:∀F,iq K F v t):ME K E (tC v) (cM t):=λF H a b Q s V r=>kV.now r s (h F)
@[simp] noncomputable def eP(o:T->T->M T)(fa fb:Pe->M T):Pe->M T:=λa=>(fa a).bind λx=>(fb a).bind λy=>o x y
structure MR(K:W.Frag)(r:R2)(o:T->T->M T):Prop where
 ne:∀x y,M.NoE (o x y)
 ok:∀F H v w x y Q,eN F H->iq K F v x->iq K F w y->(o x y).res (kV K F H Q) (λ_ _=>False)->r v w H Q
def zA(c:MR K r o)(l:ME K E ta fa)(k:ME K E tb fb):ME K E (qQ r ta tb) (eP o fa fb):=λF H n p Q s V q=>by refine l.run s V q λx v B A b m d=>?_;refine k.run b.fh (V.mono b.ff) d λy w j i a h e=>?_;exact c.ok j i v w x y Q a.fh (m.mono a.ff) h ((e.ne (c.ne x y)).mono (λ_ z=>z.go (b.trans a)) λ_ _ z=>z)
noncomputable def hZ(C:Int->Int->Bool)(g:Int->Int->T):T->T->M T
 |.int i,.int j=>if C i j then .ok (g i j) else .bad
 |_,_=>.bad
def xt{g:Int->Int->T} x y:M.NoE (hZ C g x y):=λa n=>by
 unfold hZ;split
 .split<;>exact λz=>nomatch z
 .exact λz=>nomatch z
def iq.int_inv(h:iq K F v (.int i)):v=.int i:=by cases h;rfl
def iq.lst_inv(h:iq K F v (.lst ts)):∃a b,v=.ref a/\F a=some (.lst b)/\eT K F b ts:=by cases h;exact⟨_,_,rfl,‹_›,‹_›⟩
def iq.tup_inv(h:iq K F v (.tup ts)):∃a b,v=.ref a/\F a=some (.tup b)/\eT K F b ts:=by cases h;exact⟨_,_,rfl,‹_›,‹_›⟩
def p9{g:Int->Int->V}(c:∀i j,Cb i j=true->C i j)(d:∀F i j,iq K F (g i j) (gt i j)):MR K (rI C g) (hZ Cb gt):=⟨xt,λF H v w x y Q s a b q=>by
 unfold hZ at q;split at q
 .rename_i i j;rw[a.int_inv,b.int_inv];by_cases h:Cb i j=true
  .rw[aQ h]at q;exact⟨i,j,rfl,rfl,c i j h,kV.now q s (d F i j)⟩
  .rw[aR h]at q;exact q.elim
 .exact q.elim⟩
def nr{g:Int->Int->V}(c:∀F i j,iq K F (g i j) (gt i j)):MR K (wH g) (hZ (λ_ _=>true) gt):=⟨xt,λF H v w x y Q s a b q=>by
 unfold hZ at q;split at q
 .rw[a.int_inv,b.int_inv];exact⟨_,_,rfl,rfl,kV.now q s (c F _ _)⟩
 .exact q.elim⟩
@[simp] noncomputable def BZ(o:Int->T)(fa:Pe->M T):Pe->M T:=λa=>(fa a).bind λx=>match x with
 |.int i=>.ok (o i)
 |_=>.bad
def Lm{g:Int->V}(h:∀F i,iq K F (g i) (gt i))(d:ME K E ta fa):ME K E (MK (rU g) ta) (BZ gt fa):=λF H k l Q s V q=>by
 refine d.run s V q λx v b c j e a=>?_;cases e<;>first
  |exact a.elim
  |exact⟨_,rfl,a _ b c j (h b _)⟩
@[simp] noncomputable def gG(fa:Pe->M T):Pe->M Bool:=λa=>(fa a).bind λx=>match x with
 |.bl b=>.ok b
 |_=>.bad
def Hw(e:ME K E ta fa):MT K E (tB ta) (gG fa):=λF H i j Q s V q=>by
 refine e.run s V q λx v c d h b a=>?_;cases b<;>first
  |exact a.elim
  |exact⟨_,rfl,a c d h⟩
def Gh(a:ME K E ta fa):MT K E (xG ta) (gG fa):=Hw a
section
variable {c d:TT}{fc fd:Pe->M Bool}
@[simp] noncomputable def tq(fc fd:Pe->M Bool):Pe->M Bool:=λa=>(fc a).bind λb=>if b then fd a else .ok false
@[simp] noncomputable def BB(fc fd:Pe->M Bool):Pe->M Bool:=λa=>(fc a).bind λb=>if b then .ok true else fd a
@[simp] noncomputable def mn(fc:Pe->M Bool):Pe->M Bool:=λa=>(fc a).bind λb=>.ok (!b)
def IJ(j:MT K E c fc)(m:MT K E d fd):MT K E (Jm c d) (tq fc fd):=λF H k l Q s V q=>by
 refine j.run s V q λb h i a e=>?_;cases b with
 |true=>rw[aQ rfl];exact m h i k l Q a.fh (V.mono a.ff) (e.mono (λ_ z=>z.go a) λ_ _ z=>z)
 |false=>rw[aR aH];exact e h i a
def LP(j:MT K E c fc)(m:MT K E d fd):MT K E (MH c d) (BB fc fd):=λF H k l Q s V q=>by
 refine j.run s V q λb h i a e=>?_;cases b with
 |true=>rw[aQ rfl];exact e h i a
 |false=>rw[aR aH];exact m h i k l Q a.fh (V.mono a.ff) (e.mono (λ_ z=>z.go a) λ_ _ z=>z)
def Jt(a:MT K E c fc):MT K E (JM c) (mn fc):=λF H k l Q s V q=>by refine a.run s V q λb h i j e=>?_;exact e h i j
end
@[simp] noncomputable def EI(fa fb:Pe->M T):Pe->M T:=λa=>(gG fa a).bind λb=>if b then fb a else .ok (.bl false)
@[simp] noncomputable def BP(fa:Pe->M T):Pe->M T:=λa=>(gG fa a).bind λb=>.ok (.bl (!b))
def HC(k:ME K E ta fa)(h:ME K E tb fb):ME K E (Ep ta tb) (EI fa fb):=λF H i j Q s V q=>by
 refine (Hw k).run s V q λb d e a c=>?_;cases b with
 |true=>rw[aQ rfl];exact h d e i j Q a.fh (V.mono a.ff) (c.mono (λ_ z=>z.go a) λ_ _ z=>z)
 |false=>rw[aR aH];exact c _ d e a (.bl _)
def Gk(e:ME K E ta fa):ME K E (CV ta) (BP fa):=λF H i j Q s V q=>by refine (Hw e).run s V q λb c d h a=>?_;exact a _ c d h (.bl _)
@[simp] noncomputable def ee(fa:Pe->M T)(b:Pe->M (List T)):Pe->M (List T):=λa=>(fa a).bind λx=>(b a).bind λc=>.ok (x::c)
@[simp] noncomputable def eC:Pe->M (List T):=λ_=>.ok []
def yb:MA K E qe eC:=λF H a b Q s V q=>q [] F H (.refl s) .nil
def Gy{c:TA}{b:Pe->M (List T)}(m:ME K E ta fa)(h:MA K E c b):MA K E (lN ta c) (ee fa b):=λF H p w Q s V q=>by refine m.run s V q λx v z y a n e=>?_;refine h.run a.fh (V.mono a.ff) e λr o l k d j i=>?_;exact i (v::o) l k (a.trans d) (.cons (n.mono d.ff) j)
@[simp] noncomputable def wx(ts:List T):M (List T):=if ts.length<=sizeLine then .ok ts else .bad
@[simp] noncomputable def nB(c:Pe->M (List T)):Pe->M T:=λb=>(c b).bind λa=>(wx a).bind λa=>.ok (.tup a)
@[simp] noncomputable def lstM(b:Pe->M (List T)):Pe->M (List T):=λa=>(b a).bind wx
def Jd{d:TA}{c:Pe->M (List T)}(j:MA K E d c):ME K E (IX d) (nB c):=λF H l m Q s V q=>by
 refine j.run s V q λk o r n b i a=>?_;unfold wx at a;by_cases h:k.length<=sizeLine
 .rw[aQ h]at a;refine⟨by rw[i.length];exact h,λp e=>?_⟩;exact a (.ref p) _ _ (b.trans (.new b.fh e)) (.tup eJ (i.mono (Gr.new b.fh e).ff))
 .rw[aR h]at a;exact a.elim
def IP{e:TA}{d:Pe->M (List T)}(j:MA K E e d):MF K E (J9 e) (lstM d):=λF H n o Q s V q=>by
 refine j.run s V q λk l m r b i a=>?_;unfold wx at a;by_cases h:k.length<=sizeLine
 .rw[aQ h]at a;refine⟨by rw[i.length];exact h,λp c=>?_⟩;exact a p l m _ (b.trans (.new' b.fh c)) (eR b.hh c) (eR b.fh c) eJ i
 .rw[aR h]at a;exact a.elim
end
end L3
namespace L3
open PySem L2
inductive W where
 |p (t:T)|o (ts:List T)|d (kvs:List (LI×T))
abbrev En:=List (Option W)
@[simp] def Mx:Oq W->Option T
 |some (.p t)=>some t
 |_=>none
@[simp] def Nn:Oq W->Option T
 |some (.p t)=>some t
 |some (.o ts)=>some (.lst ts)
 |_=>none
@[simp] noncomputable def jW(ρ:En):Pe:=ρ.map Mx
@[simp] noncomputable def vw(ρ:En):Pe:=ρ.map Nn
mutual
@[simp] noncomputable def lf:T->Bool
 |.lst _=>false
 |.scr _=>false
 |.dic _=>false
 |.tup ts=>A6 ts
 |.obj _ fs=>Mh fs
 |_=>true
@[simp] noncomputable def A6:List T->Bool
 |[]=>true
 |t::ts=>lf t&&A6 ts
noncomputable def Mh:List (Str×T)->Bool
 |[]=>true
 |t::ts=>lf t.2&&Mh ts
end
structure Fz where
 hp:Hp
 lt:List (Nat×Addr×List V)
instance:Coe Fz Hp:=⟨Fz.hp⟩
structure Lv(H0 F H:Hp)(σ:St)(ρ:En)(e:Nat×Addr×List V):Prop where
 h:H e.2.1=some (.lst e.2.2)
 f:F e.2.1=none
 z:H0 e.2.1=none
 d:∀(i:Nat) (ts:List T),ρ[i]? = some (some (.o ts))->σ[i]?≠some (some (.ref e.2.1))
def DR(K:W.Frag)(F:Hp)(b:List (List lB×V))(a:List (LI×T)):Prop:=Paired (λ(p:List lB×V) (q:LI×T)=>p.1=q.1.map Sum.inl/\iq K F p.2 q.2) b a
def DR.mono(s:eN F F')(h:DR K F xs kvs):DR K F' xs kvs:=Paired.imp' (λ_ _ q=>⟨q.1,q.2.mono s⟩) h
structure Dv(K:W.Frag)(H0 F H:Hp)(σ:St)(ρ:En):Prop where
 at_:∀(i:Nat) kvs,ρ[i]? = some (some (.d kvs))->∃a,σ[i]? = some (some (.ref a))/\F a=none/\H0 a=none/\∃xs,H a=some (.dT xs)/\DR K F xs kvs
 dj:∀(i j:Nat) kvs kvs',ρ[i]? = some (some (.d kvs))->ρ[j]? = some (some (.d kvs'))->i≠j->σ[i]?≠σ[j]?
def Bx{a:Type}{l:List a}{x y:a}(h:(l.set i x)[i]? = some y):y=x:=by
 rw[List.getElem?_set]at h;simp only[if_true]at h;split at h
 .exact (Option.some.inj h).symm
 .cases h
def BL{a:Type}{l:List a}{x y:a}(h:(l.set i x)[j]? = some y):(j=i/\y=x)\/(j≠i/\l[j]? = some y):=by
 by_cases e:j=i
 .subst e;exact .inl ⟨rfl,Bx h⟩
 .rw[ar (λz=>e z.symm)]at h;exact .inr ⟨e,h⟩
def Dv.heap(d:Dv K H0 F H σ ρ)(s:eN F F')(h:∀a b,H a=some (.dT b)->F a=none->F' a=none/\H' a=some (.dT b)):Dv K H0 F' H' σ ρ:=⟨λi c e=>let ⟨a,e1,e2,e3,b,e4,e5⟩:=d.at_ i c e;let ⟨h1,h2⟩:=h a b e4 e2;⟨a,e1,h1,e3,b,h2,e5.mono s⟩,d.dj⟩
def Dv.set(d:Dv K H0 F H σ ρ)(hw:∀b,w≠some (.d b)):Dv K H0 F H (σ.set i v) (ρ.set i w):=by
 refine⟨λj b e=>?_,λj k b c e n g=>?_⟩
 .rcases BL e with⟨rfl,q⟩|⟨h,q⟩
  .exact absurd q.symm (hw b)
  .obtain⟨a,l,r⟩:=d.at_ j b q;exact⟨a,by rw[ar (λz=>h z.symm)];exact l,r⟩
 .rcases BL e with⟨rfl,q⟩|⟨h,q⟩
  .exact absurd q.symm (hw b)
  .rcases BL n with⟨rfl,f⟩|⟨m,f⟩
   .exact absurd f.symm (hw c)
   .rw[ar (λz=>h z.symm),ar (λz=>m z.symm)];exact d.dj j k b c q f g
def Dv.setR(d:Dv K H0 F H σ ρ)(hw:∀a,w≠some (.d a)):Dv K H0 F H σ (ρ.set i w):=by
 refine⟨λj a e=>?_,λj k a b e h f=>?_⟩
 .rcases BL e with⟨rfl,q⟩|⟨g,q⟩
  .exact absurd q.symm (hw a)
  .exact d.at_ j a q
 .rcases BL e with⟨rfl,q⟩|⟨g,q⟩
  .exact absurd q.symm (hw a)
  .rcases BL h with⟨rfl,c⟩|⟨l,c⟩
   .exact absurd c.symm (hw b)
   .exact d.dj j k a b q c f
structure Sr(K:W.Frag)(F0:Fz)(H0 F H:Hp)(σ:St)(ρ:En):Prop where
 gr:Gr F0.hp H0 F H
 len:σ.length=ρ.length
 pv:∀(i:Nat) (t:T),ρ[i]? = some (some (.p t))->∃v,σ[i]? = some (some v)/\iq K F v t
 ov:∃ad:Nat->Addr,(∀(i:Nat) (ts:List T),ρ[i]? = some (some (.o ts))->σ[i]? = some (some (.ref (ad i)))/\F (ad i)=none/\H0 (ad i)=none/\∃vs,H (ad i)=some (.lst vs)/\eT K F vs ts)/\
  ∀(i j:Nat) (ts us:List T),ρ[i]? = some (some (.o ts))->ρ[j]? = some (some (.o us))->i≠j->ad i≠ad j
 lv:∀e∈F0.lt,Lv H0 F H σ ρ e
 sl:∀(j:Nat) (l:Addr) (vs:List V),F0.lt.lookup j=some (l,vs)->ρ[j]? = some none->σ[j]? = some (some (.ref l))
 dv:Dv K H0 F H σ ρ
section
variable {K:W.Frag}{F0:Fz}{H0 F H F' H':Hp}{σ:St}{ρ:En}
def Sr.vars(r:Sr K F0 H0 F H σ ρ):iW K F σ (jW ρ):=λi t e=>by
 unfold jW at e;rw[aw]at e;cases q:ρ[i]? with
 |none=>rw[q]at e;cases e
 |some w=>
  rw[q]at e;cases w with
  |none=>cases e
  |some w=>
   cases w with
   |p t'=>cases e;exact r.pv i _ q
   |o ts=>cases e
   |d kvs=>cases e
def Sr.grow(r:Sr K F0 H0 F H σ ρ)(g:Gr F H F' H'):Sr K F0 H0 F' H' σ ρ:=by
 obtain⟨j,l,o⟩:=r.ov;refine⟨r.gr.trans g,r.len,λi t e=>?_,⟨j,λi s e=>?_,o⟩,λe p=>?_,r.sl,r.dv.heap g.ff λa x k m=>⟨?_,g.hh _ _ k⟩⟩
 .obtain⟨v,a,b⟩:=r.pv i t e;exact⟨v,a,b.mono g.ff⟩
 .obtain⟨a,b,c,n,d,q⟩:=l i s e;refine⟨a,?_,c,n,g.hh _ _ d,q.mono g.ff⟩;cases z:F' (j i) with
  |none=>rfl
  |some u=>
   rcases g.nw (j i) (by rw[z];exact λw=>nomatch w) with y|y|⟨_,y⟩
   .exact absurd b y
   .rw[d]at y;cases y
   .rw[d]at y;cases y
 .have L:=r.lv e p;refine⟨g.hh _ _ L.h,?_,L.z,L.d⟩;cases z:F' e.2.1 with
  |none=>rfl
  |some u=>
   rcases g.nw e.2.1 (by rw[z];exact λw=>nomatch w) with y|y|⟨_,y⟩
   .exact absurd L.f y
   .rw[L.h]at y;cases y
   .rw[L.h]at y;cases y
 .cases z:F' a with
  |none=>rfl
  |some u=>
   rcases g.nw a (by rw[z];exact λw=>nomatch w) with y|y|⟨_,y⟩
   .exact absurd m y
   .rw[k]at y;cases y
   .rw[k]at y;cases y
theorem Sr.lend(r:Sr K F0 H0 F H σ ρ):∃l,eN F l/\Gr F0.hp H0 l H/\iW K l σ (vw ρ)/\
  (∀F' H',Gr l H F' H'->∃j,Gr F H j H'/\eN F j/\eN j F'/\(∀a,F' a≠none->j a=none->∃I,F' a=some (.lst I))/\(∀a,F' a≠none->j a=none->H a≠none)):=by
 classical
 obtain⟨E,m,L⟩:=r.ov;let f:Addr->Prop:=λa=>∃i h,ρ[i]? = some (some (.o h))/\E i=a;let l:Hp:=λa=>if f a then H a else F a
 have n:eN F l:=λa o e=>by
  have:¬f a:=by rintro⟨i,h,q,rfl⟩;obtain⟨_,b,_⟩:=m i h q;rw[b]at e;cases e
  show BY o (if f a then H a else F a);rw[aR this];exact .of e
 have J:eN l H:=λa o e=>by
  by_cases q:f a
  .have x:(if f a then H a else F a)=some o:=e;rw[aQ q]at x;exact .of x
  .have x:(if f a then H a else F a)=some o:=e;rw[aR q]at x;exact r.gr.fh a o x
 have ow:∀a,f a->l a=H a:=λa q=>aQ q;have A:∀a,¬f a->l a=F a:=λa q=>aR q;refine⟨l,n,⟨r.gr.ff.trans n,J,r.gr.hh,λa k=>?_⟩,λi t e=>?_,λF' H' g=>?_⟩
 .by_cases q:f a
  .obtain⟨i,h,e,rfl⟩:=q;exact .inr (.inl (m i h e).2.2.1)
  .rw[A a q]at k;exact r.gr.nw a k
 .unfold vw at e;rw[aw]at e;cases q:ρ[i]? with
  |none=>rw[q]at e;cases e
  |some w=>
   rw[q]at e;cases w with
   |none=>cases e
   |some w=>
    cases w with
    |p t'=>cases e;obtain⟨v,a,b⟩:=r.pv i _ q;exact⟨v,a,b.mono n⟩
    |o h=>cases e;obtain⟨a,b,c,y,d,z⟩:=m i h q;exact⟨_,a,.lst (by rw[ow _ ⟨i,h,q,rfl⟩];exact d) (z.mono n)⟩
    |d kvs=>cases e
 .let j:Hp:=λa=>if f a then none else F' a
  have u:∀a,¬f a->j a=F' a:=λa q=>aR q;have B:∀a,f a->j a=none:=λa q=>aQ q;have D:eN F j:=λa o e=>by
   have:¬f a:=by rintro⟨i,h,q,rfl⟩;obtain⟨_,b,_⟩:=m i h q;rw[b]at e;cases e
   rw[u a this];exact (n.trans g.ff) _ _ e
  have C:eN j F':=λa o e=>by
   by_cases q:f a
   .rw[B a q]at e;cases e
   .rw[u a q]at e;exact .of e
  refine⟨j,⟨D,C.trans g.fh,g.hh,λa k=>?_⟩,D,C,λa k s=>?_,λa k s=>?_⟩
  .by_cases q:f a
   .exact absurd (B a q) k
   .rw[u a q]at k;rcases g.nw a k with z|z
    .rw[A a q]at z;exact .inl z
    .exact .inr z
  .by_cases q:f a
   .obtain⟨i,h,e,rfl⟩:=id q;obtain⟨_,_,_,y,d,_⟩:=m i h e;exact⟨y,g.ff _ (.lst y) (by rw[ow _ q];exact d)⟩
   .rw[u a q]at s;exact absurd s k
  .by_cases q:f a
   .obtain⟨i,h,e,rfl⟩:=id q;obtain⟨_,_,_,y,d,_⟩:=m i h e;rw[d];exact λz=>nomatch z
   .rw[u a q]at s;exact absurd s k
mutual
theorem iq.less(c:eN Fb F)(h:∀a,F a≠none->Fb a=none->∃d,F a=some (.lst d)):∀{v} {t},iq K F v t->lf t=true->iq K Fb v t
 |_,_,.non,_=>.non
 |_,_,.bl b,_=>.bl b
 |_,_,.int i,_=>.int i
 |_,_,.str x,_=>.str x
 |_,_,.tup (a:=a) e r,l=>by
  refine .tup ?_ (eT.less c h r (by simpa[lf] using l));cases q:Fb a with
  |none=>obtain⟨d,z⟩:=h a (by rw[e];exact λz=>nomatch z) q;rw[e]at z;cases z
  |some u=>have k:=c a u q;rw[e]at k;rw[uz k λ_ _ y=>nomatch y]
 |_,_,.lst _ _,l=>by simp[lf]at l
 |_,_,.scr _,l=>by simp[lf]at l
 |_,_,.obj (a:=a) (dx:=dx) e r,l=>by
  refine .obj (dx:=dx) ?_ (lC.less c h r (by simpa[lf] using l));cases q:Fb a with
  |none=>obtain⟨d,z⟩:=h a (by rw[e];exact λz=>nomatch z) q;rw[e]at z;cases z
  |some u=>have k:=c a u q;rw[e]at k;rw[uz k λ_ _ y=>nomatch y]
 |_,_,.dic _ _,l=>by simp[lf]at l
 |_,_,.emp (a:=a) e,l=>by
  refine .emp ?_;cases q:Fb a with
  |none=>obtain⟨d,z⟩:=h a (by rw[e];exact λz=>nomatch z) q;rw[e]at z;cases z
  |some u=>have k:=c a u q;rw[e]at k;rw[uz k λ_ _ y=>nomatch y]
theorem eT.less(b:eN Fb F)(h:∀a,F a≠none->Fb a=none->∃c,F a=some (.lst c)):∀{vs} {ts},eT K F vs ts->A6 ts=true->eT K Fb vs ts
 |_,_,.nil,_=>.nil
 |_,_,.cons q r,l=>by rw[A6,bL]at l;exact .cons (iq.less b h q l.1) (eT.less b h r l.2)
theorem lC.less(b:eN Fb F)(h:∀a,F a≠none->Fb a=none->∃c,F a=some (.lst c)):∀{vs} {ts},lC K F vs ts->Mh ts=true->lC K Fb vs ts
 |_,_,.nil,_=>.nil
 |_,_,.cons q r,l=>by rw[Mh,bL]at l;exact .cons (iq.less b h q l.1) (lC.less b h r l.2)
end
end
end L3
namespace L3
open PySem L2
def kT(K:W.Frag)(F H:Hp)(Q:VK)(ts us:List T):Prop:=∀p l c d a b,Gr F H a b->H l=none->a l=none->H p=none->a p=none->p≠l->b l=some (.lst d)->b p=some (.tup (c++[.ref l]))->eT K a c ts->eT K a d us->Q (.ref p) b
def kT.of(h:kV K F H Q (.tup (ts++[.lst us]))):kT K F H Q ts us:=λp l s k j t g a b c d e f i r q=>by
 have u:=g.take f b a;have n:fN j l (.lst k) p=none:=by rw[eM e];exact d
 have o:eN j (fN j l (.lst k)):=gO b;have m:eN (fN j l (.lst k)) (fN (fN j l (.lst k)) p (.tup (s++[.ref l]))):=gO n;exact h (.ref p) _ t (u.take i n c) (.tup eJ ((r.mono (o.trans m)).append (.cons (.lst (m _ _ eJ) (q.mono (o.trans m))) .nil)))
inductive O where
 |bad|nx (ρ:En)|rt (t:T)|rf (ts:List T)|rn (ts us:List T)|bk (ρ:En)|ct (ρ:En)|er (C:Addr) (n:Oq Int)
section
variable (K:W.Frag)(E:XK)
def kN(d:Fz)(H0 F:Hp)(D:St->Hp->Prop)(ρ:En):Prop:=∀b c a,eN F b->Sr K d H0 b c a ρ->D a c
noncomputable def O.res(o:O)(a:Fz)(H0 F:Hp)(D:qp):Prop:=match o with
 |.bad=>False
 |.nx ρ=>kN K a H0 F D.nx ρ
 |.rt t=>kV K a.hp H0 D.rt t
 |.rf ts=>kF K a.hp H0 D.rt ts
 |.rn ts us=>kT K a.hp H0 D.rt ts us
 |.bk ρ=>kN K a H0 F D.bk ρ
 |.ct ρ=>kN K a H0 F D.ct ρ
 |.er C n=>kE E a.hp H0 C n
noncomputable def MS(t:TS)(g:En->O):Prop:=∀b d F H a c D,Sr K b d F H a c->(g c).res K E b d F D->t D a H
end
section
variable {K:W.Frag}{E:XK}{t u ta tb:TE}{f fa fb:Pe->M T}{F0:Fz}{H0 F H F1 H1:Hp}{σ:St}{ρ:En}{D:qp}
def kN.go(h:kN K F0 H0 F N ρ)(s:eN F F1):kN K F0 H0 F1 N ρ:=λc d a b r=>h c d a (s.trans b) r
def O.res.go{o:O}(h:o.res K E F0 H0 F D)(s:eN F F1):o.res K E F0 H0 F1 D:=by
 cases o with
 |bad=>exact h
 |nx ρ=>exact kN.go h s
 |rt t=>exact h
 |rf ts=>exact h
 |rn ts us=>exact h
 |bk ρ=>exact kN.go h s
 |ct ρ=>exact kN.go h s
 |er C n=>exact h
noncomputable def O.of{b:Type}(m:M b)(k:b->O):O:=match m with
 |.bad=>.bad
 |.ok a=>k a
 |.er C n=>.er C n
@[simp] theorem O.of_ok(a:α) k:O.of (.ok a) k=k a:=rfl
@[simp] theorem O.of_bad k:O.of (.bad:M α) k=.bad:=rfl
@[simp] theorem O.of_er C n k:O.of (.er C n:M α) k=.er C n:=rfl
def O.res_of{m:M α}{k:α->O}(h:(O.of m k).res K E F0 H0 F D):m.res (λa=>(k a).res K E F0 H0 F D) (kE E F0.hp H0):=by cases m<;>exact h
@[simp] noncomputable def fg(a b:En->O):En->O:=λρ=>match a ρ with
 |.nx ρ'=>b ρ'
 |o=>o
def JJ{t u:TS}(d:MS K E t a)(i:MS K E u b):MS K E (uS t u) (fg a b):=λF0 H0 F H σ ρ D r q=>by
 refine d F0 H0 F H σ ρ _ r ?_;unfold fg at q;cases e:a ρ with
 |nx ρ'=>rw[e]at q;intro h j c s g;exact i F0 H0 h j c ρ' D g (q.go s)
 |bad=>rw[e]at q;exact q
 |rt t=>rw[e]at q;exact q
 |rf ts=>rw[e]at q;exact q
 |rn ts us=>rw[e]at q;exact q
 |bk ρ=>rw[e]at q;exact q
 |ct ρ=>rw[e]at q;exact q
 |er C n=>rw[e]at q;exact q
@[simp] noncomputable def gx:En->O:=λρ=>.nx ρ
def Hm:MS K E Ap gx:=λF0 H0 F H σ ρ D r q=>q F H σ (.refl _) r
def Eb:MS K E yH (λ_=>.bad):=λ_ _ _ _ _ _ _ _ q=>q
def MT.inS(j:MT K E c fc)(r:Sr K F0 H0 F H σ ρ)(q:(O.of (fc (vw ρ)) k).res K E F0 H0 F D)
  (o:∀b d e,eN F d->Sr K F0 H0 d e σ ρ->(k b).res K E F0 H0 d D->Q b e):c σ H Q:=by
 obtain⟨p,s,h,V,a⟩:=r.lend;refine j p H σ (vw ρ) Q h.fh V ((O.res_of q).mono (λb z d e g=>?_) λC n z=>z.go h);obtain⟨l,m,i,_⟩:=a d e g;exact o b l e i (r.grow m) (z.go i)
@[simp] noncomputable def ml(d:Pe->M Bool)(a b:En->O):En->O:=λρ=>.of (d (vw ρ)) λc=>if c then a ρ else b ρ
def La{t u:TS}(h:MT K E c fc)(g:MS K E t a)(i:MS K E u b):MS K E (GU c t u) (ml fc a b):=λF0 H0 F H σ ρ D r q=>by
 refine h.inS r q λc j k s d e=>?_;cases c with
 |true=>rw[aQ rfl];exact g _ _ _ _ _ _ _ d e
 |false=>rw[aR aH];exact i _ _ _ _ _ _ _ d e
@[simp] noncomputable def gH(f:Pe->M T):En->O:=λρ=>.of (f (vw ρ)) λt=>.rt t
def Je(h:ME K E t f):MS K E (vE t) (gH f):=λF0 H0 F H σ ρ D r q=>by obtain⟨d,e,a,V,c⟩:=r.lend;exact h d H σ (vw ρ) _ a.fh V ((O.res_of q).mono (λb z=>kV.go z a) λC n z=>z.go a)
@[simp] noncomputable def sR(f:Pe->M (List T)):En->O:=λρ=>.of (f (vw ρ)) λt=>.rf t
def HM{f:Pe->M (List T)}(h:MF K E t f):MS K E (vE t) (sR f):=λF0 H0 F H σ ρ D r q=>by obtain⟨d,e,a,V,c⟩:=r.lend;exact h d H σ (vw ρ) _ a.fh V ((O.res_of q).mono (λb z=>kF.go z a) λC n z=>z.go a)
@[simp] noncomputable def oY(i:Nat):En->O:=λρ=>match ρ[i]? with
 |some (some (.o ts))=>.rf ts
 |_=>.bad
def Bj:MS K E (vE (ja i)) (oY i):=λF0 H0 F H σ ρ D r q=>by
 unfold oY at q;split at q
 .rename_i k e;obtain⟨j,g,l⟩:=r.ov;obtain⟨a,b,c,h,d,z⟩:=g i k e;exact⟨_,a,q (j i) h F H r.gr c b d z⟩
 .exact q.elim
def pM{a:Type}{l:List a}{x y:a}(h:(l.set i x)[i]? = some y):y=x:=by
 rw[List.getElem?_set]at h;simp only[if_true]at h;split at h
 .exact (Option.some.inj h).symm
 .cases h
def eY{a:Type}{l:List a}{x y:a}(h:(l.set i x)[j]? = some y):(j=i/\y=x)\/(j≠i/\l[j]? = some y):=by
 by_cases e:j=i
 .subst e;exact .inl ⟨rfl,pM h⟩
 .rw[ar (λz=>e z.symm)]at h;exact .inr ⟨e,h⟩
def uV{a:Type}{l:List a}{x:a}(h:i<l.length):(l.set i x)[i]? = some x:=by rw[List.getElem?_set_self h]
def Sr.setP(r:Sr K F0 H0 F H σ ρ)(h:iq K F v x):Sr K F0 H0 F H (σ.set i (some v)) (ρ.set i (some (.p x))):=by
 obtain⟨A,s,B⟩:=r.ov;refine⟨r.gr,by simp[r.len],λj t e=>?_,⟨A,λj m e=>?_,λj k m C e N=>?_⟩,λe I=>?_,λj l y o q=>?_,r.dv.set λ_ z=>nomatch z⟩
 .have J:j<ρ.length:=by simpa using (aa.mp e).1
  rcases eY e with⟨rfl,q⟩|⟨c,q⟩
  .cases q;exact⟨v,uV (by rw[r.len];exact J),h⟩
  .obtain⟨w,a,b⟩:=r.pv j t q;exact⟨w,by rw[ar (λz=>c z.symm)];exact a,b⟩
 .rcases eY e with⟨rfl,q⟩|⟨c,q⟩
  .cases q
  .obtain⟨a,b⟩:=s j m q;exact⟨by rw[ar (λz=>c z.symm)];exact a,b⟩
 .rcases eY e with⟨rfl,q⟩|⟨c,q⟩
  .cases q
  .rcases eY N with⟨rfl,n⟩|⟨P,n⟩
   .cases n
   .exact B j k m C q n
 .have L:=r.lv e I;refine⟨L.h,L.f,L.z,λj m q=>?_⟩;rcases eY q with⟨rfl,g⟩|⟨c,g⟩
  .cases g
  .rw[ar (λz=>c z.symm)];exact L.d j m g
 .rcases eY q with⟨rfl,g⟩|⟨c,g⟩
  .cases g
  .rw[ar (λz=>c z.symm)];exact r.sl j l y o g
def Sr.setO(r:Sr K F0 H0 F H σ ρ)(g:Gr F H F1 H1)(x:H l=none)(Z:F1 l=none)(hv:H1 l=some (.lst vs))(hr:eT K F1 vs ts) :
  Sr K F0 H0 F1 H1 (σ.set i (some (.ref l))) (ρ.set i (some (.o ts))):=by
 have v:=r.grow g;obtain⟨y,I,_⟩:=r.ov;obtain⟨A,P,h2⟩:=v.ov;have R:∀j m,ρ[j]? = some (some (.o m))->A j≠l:=λj m e z=>by
  obtain⟨a,_⟩:=P j m e;obtain⟨S,_,_,vs0,Q,_⟩:=I j m e;rw[a]at S;have:A j=y j:=by simpa using S
  rw[<-this,z,x]at Q;cases Q
 refine⟨v.gr,by simp[r.len],λj t e=>?_,⟨λj=>if j=i then l else A j,λj m e=>?_,λj k m X e Y p=>?_⟩,λe U=>?_,λj l' C J q=>?_,v.dv.set λ_ z=>nomatch z⟩
 .rcases eY e with⟨rfl,q⟩|⟨c,q⟩
  .cases q
  .obtain⟨w,a,b⟩:=v.pv j t q;exact⟨w,by rw[ar (λz=>c z.symm)];exact a,b⟩
 .have B:j<ρ.length:=by simpa using (aa.mp e).1
  rcases eY e with⟨rfl,q⟩|⟨c,q⟩
  .cases q;dsimp only;rw[aQ rfl];exact⟨uV (by rw[r.len];exact B),Z,eR r.gr.hh x,vs,hv,hr⟩
  .dsimp only;rw[aR c];obtain⟨a,b⟩:=P j m q;exact⟨by rw[ar (λz=>c z.symm)];exact a,b⟩
 .rcases eY e with⟨rfl,q⟩|⟨c,q⟩
  .rcases eY Y with⟨rfl,s⟩|⟨N,s⟩
   .exact absurd rfl p
   .dsimp only;rw[aQ rfl,aR N];exact λz=>R k X s z.symm
  .rcases eY Y with⟨rfl,s⟩|⟨N,s⟩
   .dsimp only;rw[aR c,aQ rfl];exact R j m q
   .dsimp only;rw[aR c,aR N];exact h2 j k m X q s p
 .have L:=v.lv e U;have L0:=r.lv e U;refine⟨L.h,L.f,L.z,λj ts q=>?_⟩;rcases eY q with⟨rfl,n⟩|⟨c,n⟩
  .intro z;have z':=pM z;have:e.2.1=l:=by simpa using z'
   rw[<-this,L0.h]at x;cases x
  .rw[ar (λz=>c z.symm)];exact L.d j ts n
 .rcases eY q with⟨rfl,n⟩|⟨c,n⟩
  .cases n
  .rw[ar (λz=>c z.symm)];exact r.sl j l' C J n
@[simp] noncomputable def iQ(f:Pe->M T)(ρ:En):M T:=f (jW ρ)
@[simp] noncomputable def s9(f:Pe->M T)(ρ:En):M T:=(f (vw ρ)).bind λt=>if lf t then .ok t else .bad
def ME.inH(h:ME K E t f)(r:Sr K F0 H0 F H σ ρ)(q:(O.of (iQ f ρ) k).res K E F0 H0 F D)
  (d:∀x v a b,Gr F H a b->iq K a v x->Sr K F0 H0 a b σ ρ->(k x).res K E F0 H0 a D->Q v b):t σ H Q:=
 h F H σ (jW ρ) Q r.gr.fh r.vars ((O.res_of q).mono (λx z v a b g c=>d x v a b g c (r.grow g) (z.go g.ff)) λC n z=>z.go r.gr)
def ME.inB(h:ME K E t f)(r:Sr K F0 H0 F H σ ρ)(q:(O.of (s9 f ρ) k).res K E F0 H0 F D)
  (s:∀x v a b,Gr F H a b->iq K a v x->Sr K F0 H0 a b σ ρ->(k x).res K E F0 H0 a D->Q v b):t σ H Q:=by
 obtain⟨w,y,j,V,c⟩:=r.lend;refine h w H σ (vw ρ) Q j.fh V ((M.res.unb (O.res_of q)).mono (λx z v a b g p=>?_) λC n z=>z.go j);obtain⟨m,l,o,e,d,_⟩:=c a b g;by_cases i:lf x=true
 .rw[aQ i]at z;exact s x v m b l (p.less e d i) (r.grow l) (O.res.go z o)
 .rw[aR i]at z;exact z.elim
@[simp] noncomputable def setO(i:Nat)(f:En->M T):En->O:=λρ=>.of (f ρ) λt=>.nx (ρ.set i (some (.p t)))
def zR(h:ME K E t f):MS K E (kP t (gC i)) (setO i (iQ f)):=λF0 H0 F H σ ρ D r q=>h.inH r q λx v d e g a c b=>b d e _ (.refl _) (c.setP a)
def FG(h:ME K E t f):MS K E (kP t (gC i)) (setO i (s9 f)):=λF0 H0 F H σ ρ D r q=>h.inB r q λx v d e g a c b=>b d e _ (.refl _) (c.setP a)
@[simp] noncomputable def n5(f:Pe->M (List T))(ρ:En):M (List T):=f (jW ρ)
@[simp] noncomputable def qP(f:Pe->M (List T))(ρ:En):M (List T):=(f (vw ρ)).bind λa=>if A6 a then .ok a else .bad
def MF.inH{f:Pe->M (List T)}(h:MF K E t f)(r:Sr K F0 H0 F H σ ρ)(q:(O.of (n5 f ρ) k).res K E F0 H0 F D)
  (j:∀ts l vs e i,Gr F H e i->H l=none->e l=none->i l=some (.lst vs)->eT K e vs ts->(k ts).res K E F0 H0 e D->Q (.ref l) i):t σ H Q:=
 h F H σ (jW ρ) Q r.gr.fh r.vars ((O.res_of q).mono (λts z l vs e i g a b c d=>j ts l vs e i g a b c d (z.go g.ff)) λC n z=>z.go r.gr)
def MF.inB{f:Pe->M (List T)}(h:MF K E t f)(r:Sr K F0 H0 F H σ ρ)(q:(O.of (qP f ρ) k).res K E F0 H0 F D)
  (y:∀ts l vs e i,Gr F H e i->H l=none->e l=none->i l=some (.lst vs)->eT K e vs ts->(k ts).res K E F0 H0 e D->Q (.ref l) i):t σ H Q:=by
 obtain⟨A,B,s,V,j⟩:=r.lend;refine h A H σ (vw ρ) Q s.fh V ((M.res.unb (O.res_of q)).mono (λts z l vs e i g a b c d=>?_) λC n z=>z.go s);obtain⟨v,x,w,m,o,_⟩:=j e i g;by_cases p:A6 ts=true
 .rw[aQ p]at z;exact y ts l vs v i x a (eR m b) c (d.less m o p) (O.res.go z w)
 .rw[aR p]at z;exact z.elim
@[simp] noncomputable def lK(i:Nat)(f:En->M (List T)):En->O:=λρ=>.of (f ρ) λa=>.nx (ρ.set i (some (.o a)))
@[simp] noncomputable def xq(i:Nat)(f:En->M (List T)):En->O:=λρ=>.of (f ρ) λa=>.nx (ρ.set i (some (.p (.lst a))))
def vS{f:Pe->M (List T)}(h:MF K E t f):MS K E (kP t (gC i)) (lK i (n5 f)):=λF0 H0 F H σ ρ D r q=>h.inH r q λn l m e k g a b c d j=>j e k _ (.refl _) (r.setO g a b c d)
def GR{f:Pe->M (List T)}(h:MF K E t f):MS K E (kP t (gC i)) (lK i (qP f)):=λF0 H0 F H σ ρ D r q=>h.inB r q λn l m e k g a b c d j=>j e k _ (.refl _) (r.setO g a b c d)
def wu{f:Pe->M (List T)}(h:MF K E t f):MS K E (kP t (gC i)) (xq i (qP f)):=λF0 H0 F H σ ρ D r q=>h.inB r q λo l e j m g a b c d k=>by have n:=g.take c b a;exact k (fN j l (.lst e)) m _ (gO b) ((r.grow n).setP (.lst eJ (d.mono (gO b))))
def Sr.change(r:Sr K F0 H0 F H σ ρ)(e:ρ[i]? = some (some (.o ts)))(hw:eT K F ws us) :
  ∃l vs,σ[i]? = some (some (.ref l))/\H l=some (.lst vs)/\eT K F vs ts/\Sr K F0 H0 F (fN H l (.lst ws)) σ (ρ.set i (some (.o us))):=by
 obtain⟨B,N,A⟩:=r.ov;obtain⟨a,b,c,vs,d,z⟩:=N i ts e;refine⟨B i,vs,a,d,z,⟨r.gr.ff,λp u q=>?_,λp u q=>?_,r.gr.nw⟩,by simp[r.len],λj t q=>?_,⟨B,λj s q=>?_,λj k s y q P m=>?_⟩,λQ U=>?_,λj S n J q=>?_,(r.dv.heap (.refl _) λp xs C _=>⟨by assumption,by rw[eM (λz=>by rw[z,d]at C;cases C)];exact C⟩).setR λ_ z=>nomatch z⟩
 .rw[eM (eV q b)];exact r.gr.fh p u q
 .rw[eM (eV q c)];exact r.gr.hh p u q
 .rcases eY q with⟨rfl,g⟩|⟨x,g⟩
  .cases g
  .exact r.pv j t g
 .rcases eY q with⟨rfl,g⟩|⟨x,g⟩
  .cases g;exact⟨a,b,c,ws,eJ,hw⟩
  .obtain⟨Y,Z,c',n,X,R⟩:=N j s g;exact⟨Y,Z,c',n,by rw[eM (A j i s ts g e x)];exact X,R⟩
 .rcases eY q with⟨rfl,g⟩|⟨x,g⟩
  .rcases eY P with⟨rfl,v⟩|⟨hk,v⟩
   .exact absurd rfl m
   .exact A j k ts y e v m
  .rcases eY P with⟨rfl,v⟩|⟨hk,v⟩
   .exact A j k s ts g e m
   .exact A j k s y g v m
 .have L:=r.lv Q U;have I:Q.2.1≠B i:=λw=>L.d i ts e (by rw[w];exact a);refine⟨by rw[eM I];exact L.h,L.f,L.z,λj s q=>?_⟩;rcases eY q with⟨rfl,g⟩|⟨x,g⟩
  .exact L.d _ ts e
  .exact L.d j s g
 .rcases eY q with⟨rfl,g⟩|⟨x,g⟩
  .cases g
  .exact r.sl j S n J g
@[simp] noncomputable def nJ(ρ:En)(i:Nat):M (List T):=match ρ[i]? with
 |some (some (.o ts))=>.ok ts
 |_=>.bad
def wb(h:nJ ρ i=.ok ts):ρ[i]? = some (some (.o ts)):=by
 unfold nJ at h;split at h
 .rename_i a e;cases h;exact e
 .cases h
@[simp] noncomputable def pH(i:Nat)(f:En->M T):En->O:=λρ=>.of (nJ ρ i) λa=>.of (f ρ) λt=>if a.length<sizeLine then .nx (ρ.set i (some (.o (a++[t])))) else .bad
def Ck(r:Sr K F0 H0 F H σ ρ)(e:ρ[i]? = some (some (.o ts)))(p:iq K F v x)
  (q:(if ts.length<sizeLine then O.nx (ρ.set i (some (.o (ts++[x])))) else .bad).res K E F0 H0 F D):∃l,σ[i]? = some (some (.ref l))/\uX (.ref l) [v] H λ_ H1=>D.nx σ H1:=by
 by_cases c:ts.length<sizeLine
 .rw[aQ c]at q;obtain⟨n,h,_⟩:=r.ov;obtain⟨_,_,_,m,d,z⟩:=h i ts e;obtain⟨l,b,j,g,s,k⟩:=r.change e (z.append (.cons p .nil));have:b=m:=by
   have a:=(h i ts e).1;rw[j]at a;have:l=n i:=by simpa using a
   rw[this,d]at g;cases g;rfl
  subst this;exact⟨l,j,l,b,v,rfl,rfl,g,by rw[z.length];exact c,q F _ _ (.refl _) k⟩
 .rw[aR c]at q;exact q.elim
def K5(K:W.Frag)(i:Nat)(a:TE):TE:=Nh K "list" uX (ja i) (lN a qe)
def G5(s:∀l o H,H l=some (.lst o)->Mn K "list" (.ref l) H)(h:ME K E t f):MS K E (EW (K5 K i t)) (pH i (iQ f)):=λF0 H0 F H σ ρ D r q=>by
 unfold pH at q;cases e:nJ ρ i with
 |bad=>rw[e]at q;exact q.elim
 |er C n=>unfold nJ at e;split at e<;>cases e
 |ok ts=>rw[e]at q;have j:=wb e;obtain⟨z,k,_⟩:=r.ov;obtain⟨a,_,_,y,d,_⟩:=k i ts j;refine⟨_,a,s _ _ _ d,?_⟩;refine h.inH r q λx v A B g w m p=>?_;obtain⟨l,c,b⟩:=Ck m j w p;rw[a]at c;cases c;exact b
@[simp] noncomputable def vk(i:Nat)(b:En->M T)(f:En->M T):En->O:=λρ=>.of (nJ ρ i) λa=>.of (f ρ) λt=>.of (b ρ) λk=>match k with
 |.int k=>match vM a.length k with
  |some j=>.nx (ρ.set i (some (.o (a.set j t))))
  |none=>.bad
 |_=>.bad
theorem Ed{i:Nat}{ts:List T}{x y:T}{v w:V}{l:Addr}(p:Sr K F0 H0 F H σ ρ)(m:ρ[i]? = some (some (.o ts)))(q:σ[i]? = some (some (.ref l)))(C:iq K F v x)(h:iq K F w y)
  (b:(match y with
   |.int k=>match vM ts.length k with
    |some j=>O.nx (ρ.set i (some (.o (ts.set j x))))
    |none=>.bad
   |_=>.bad).res K E F0 H0 F D):zW (.ref l) w v H λI=>D.nx σ I:=by
 cases h with
 |int k=>
  dsimp only at b;cases e:vM ts.length k with
  |none=>rw[e]at b;exact b.elim
  |some j=>
   rw[e]at b;obtain⟨B,n,_⟩:=p.ov;obtain⟨_,_,_,A,d,z⟩:=n i ts m;obtain⟨L,c,r,g,J,s⟩:=p.change m (z.set C j);rw[q]at r;cases r;have:c=A:=by
    have a:=(n i ts m).1;rw[q]at a;have:l=B i:=by simpa using a
    rw[this,d]at g;cases g;rfl
   subst this;exact⟨l,c,k,j,rfl,rfl,g,by rw[z.length];exact e,b F _ _ (.refl _) s⟩
 |_=>exact b.elim
def JV(h:ME K E t f)(s:ME K E tk fk):MS K E (kP t (J6 (ja i) tk zW)) (vk i (s9 fk) (s9 f)):=λF0 H0 F H σ ρ D r q=>by
 unfold vk at q;cases e:nJ ρ i with
 |bad=>rw[e]at q;exact q.elim
 |er C n=>unfold nJ at e;split at e<;>cases e
 |ok ts=>rw[e]at q;have c:=wb e;obtain⟨z,d,_⟩:=r.ov;have a:=(d i ts c).1;refine h.inB r q λx v A J g p j o=>⟨_,a,?_⟩;exact s.inB j o λy w I B m b l k=>Ed l c a (p.mono m.ff) b k
end
end L3
namespace L3
open PySem L2
section
variable {K:W.Frag}{E:XK}{t u ta tb:TE}{f fa fb:Pe->M T}{F0:Fz}{H0 F H F1 H1:Hp}{σ:St}{ρ:En}{D:qp}
structure tO(K:W.Frag)(J:It)(its:List T)(F1:Hp):Prop where
 go:∀i H,eN F1 H->i<its.length->J.go i H
 stop:∀H,eN F1 H->J.stop its.length H
 yld:∀(i:Nat) t F H x H',eN F1 F->eN F H->its[i]? = some t->J.yld i H x H'->∃F',Gr F H F' H'/\iq K F' x t
def kI(K:W.Frag)(F H:Hp)(R:It->Hp->Prop)(its:List T):Prop:=∀J a b,Gr F H a b->tO K J its a->R J b
noncomputable def MI(K:W.Frag)(E:XK)(w:TI)(f:Pe->M (List T)):Prop:=∀F H σ ρ R,eN F H->iW K F σ ρ->(f ρ).res (kI K F H R) (kE E F H)->w σ H R
def Nt(K:W.Frag)(F H:Hp)(R:It->Hp->Prop)(its:List T):Prop:=∀J b a,Gr F H b a->(∀F1,tO K J its F1)->R J a
noncomputable def Lh(K:W.Frag)(E:XK)(w:TI)(f:Pe->M (List T)):Prop:=∀F H σ ρ R,eN F H->iW K F σ ρ->(f ρ).res (Nt K F H R) (kE E F H)->w σ H R
def Lh.mi{f:Pe->M (List T)}(h:Lh K E w f):MI K E w f:=λF H σ ρ R s V q=>h F H σ ρ R s V (q.mono (λc z J a b g i=>z J a b g (i a)) λ_ _ z=>z)
@[simp] noncomputable def Mi(fa:Pe->M T):Pe->M (List T):=λρ=>(fa ρ).bind λx=>match x with
 |.lst ts=>.ok ts
 |.scr ns=>.ok (ns.map T.int)
 |_=>.bad
@[simp] noncomputable def Ni(fa:Pe->M T):Pe->M (List T):=λρ=>(fa ρ).bind λx=>match x with
 |.tup ts=>.ok ts
 |_=>.bad
def uQ(c:iJ K F a xs)(r:eT K F xs ts):tO K (Md K a) ts F where
 go:=λi H s k=>by have e:xs[i]? = some (xs[i]'(by rw[r.length];exact k)):=ag _;exact⟨xs,_,s.seq c,e⟩
 stop:=λH s=>⟨xs,s.seq c,by rw[r.length];exact aK _⟩
 yld:=λi t j H x n g d e y=>by obtain⟨rfl,h⟩:=y;have m:=h xs ((g.trans d).seq c);obtain⟨o,b,l⟩:=r.at_ m;rw[e]at b;cases b;exact⟨j,.refl d,l.mono g⟩
def qj(s:eN F H)(h:F a=some (.tup xs)):jV K H a xs:=jV.of (s _ _ h)
def J8(c:F a=some (.tup xs))(r:eT K F xs ts):tO K (Na K a) ts F where
 go:=λi H s k=>by have e:xs[i]? = some (xs[i]'(by rw[r.length];exact k)):=ag _;exact⟨xs,_,qj s c,e⟩
 stop:=λH s=>⟨xs,qj s c,by rw[r.length];exact aK _⟩
 yld:=λi t j H x n g d e y=>by obtain⟨rfl,h⟩:=y;have m:=h xs (qj (g.trans d) c);obtain⟨o,b,l⟩:=r.at_ m;rw[e]at b;cases b;exact⟨j,.refl d,l.mono g⟩
def vA(d:ME K E ta fa):MI K E (xR K ta) (Mi fa):=λF H σ ρ R s V q=>by
  refine d.run s V q λx v F1 H1 a c b=>?_;cases c<;>first
    |exact b.elim
    | (rename_i h r
       exact⟨_,rfl,⟨_,iJ.of (a.fh _ _ h)⟩,b _ F1 H1 a (uQ (iJ.of h) r)⟩)
    | (rename_i h
       exact⟨_,rfl,⟨_,a.fh.seq h⟩,b _ F1 H1 a (uQ h (eT.of_ints _))⟩)
def Jj(d:ME K E ta fa):MI K E (Kv K ta) (Ni fa):=λF H σ ρ R s V q=>by
  refine d.run s V q λx v F1 H1 b c a=>?_;cases c<;>first
    |exact a.elim
    | (rename_i h r
       exact⟨_,rfl,⟨_,jV.of (b.fh _ _ h)⟩,a _ F1 H1 b (J8 h r)⟩)
def MY:(2:Int) ^ 62=4611686018427387904:=by decide +kernel
def Nm:(2:Int) ^ 63=9223372036854775808:=by decide +kernel
noncomputable def BW(j:Int):Bool:=decide (j.natAbs<4611686018427387904)
def rg(h:BW j=true):-(2 ^ 62)<=j/\j<2 ^ 62:=by rw[MY];have:=of_decide_eq_true h;omega
def kn(h:j.natAbs<=1000000):BW j=true:=aC (by omega)
noncomputable def vo(a:Int)(n:Nat):List T:=(List.range n).map λ(i:Nat)=>T.int (a+(i:Int))
def J5 F:tO K (K3 lo n) (vo lo n) F where
 go:=λi H s a=>by show i<n;simpa[vo] using a
 stop:=λH s=>by simp[vo,K3]
 yld:=λi t c H x d g b e y=>by
  obtain⟨rfl,rfl⟩:=y;have a:i<n:=by simpa[vo] using (aa.mp e).1
  have:t=.int (lo+i):=by unfold vo at e;rw[aw,List.getElem?_range a]at e;cases e;rfl
  rw[this];exact⟨c,.refl b,.int _⟩
@[simp] noncomputable def iG(fa:Pe->M (List T)):Pe->M (List T):=λρ=>(fa ρ).bind λa=>match a with
 |[.int j]=>if BW j then .ok (vo 0 j.toNat) else .bad
 |_=>.bad
def Gd{ta:TA}{fa:Pe->M (List T)}(e:MA K E ta fa):Lh K E (DE ta) (iG fa):=λF H σ ρ R s V q=>by
 refine e.run s V q λk i F1 H1 h g c=>?_;split at c
 .rename_i j;split at c
  .rename_i d;cases g with
   |cons a b=>cases a;cases b;exact⟨j,rfl,(rg d).1,(rg d).2,c _ F1 H1 h J5⟩
  .exact c.elim
 .exact c.elim
noncomputable def seqB(b:Bool):T->M (List T)
 |.tup ts=>if b then .ok ts else .bad
 |.lst ts=>if b then .bad else .ok ts
 |.scr ns=>if b then .bad else .ok (ns.map T.int)
 |_=>.bad
def q0(r:iq K F v x)(e:seqB b x=.ok ts):∃a xs,v=.ref a/\(∀H,eN F H->tj K H b a xs)/\eT K F xs ts:=by
 cases r<;>try (cases e)
 .rename_i a xs ss h r;cases b with
  |true=>cases e;exact⟨a,xs,rfl,λH s=>by unfold tj;rw[aQ rfl];exact jV.of (s _ _ h),r⟩
  |false=>cases e
 .rename_i a xs ss h r;cases b with
  |true=>cases e
  |false=>cases e;exact⟨a,xs,rfl,λH s=>by unfold tj;rw[aR aH];exact iJ.of (s _ _ h),r⟩
 .rename_i a ns h;cases b with
  |true=>cases e
  |false=>cases e;exact⟨a,_,rfl,λH s=>by unfold tj;rw[aR aH];exact s.seq h,eT.of_ints ns⟩
noncomputable def kG(b a:List T):List T:=(b.zip a).map λp=>T.tup [p.1,p.2]
def Jg(c:∀H,eN F H->tj K H b1 l1 xs)(k:eT K F xs ts)(j:∀H,eN F H->tj K H b2 l2 ys)(h:eT K F ys us):tO K (MD K b1 b2 l1 l2) (kG ts us) F where
 go:=λi H s I=>by
  have a:i<ts.length/\i<us.length:=by simp[kG]at I;omega
  have m:xs[i]? = some (xs[i]'(by rw[k.length];exact a.1)):=ag _;have d:ys[i]? = some (ys[i]'(by rw[h.length];exact a.2)):=ag _;exact⟨xs,ys,_,_,c H s,j H s,m,d⟩
 stop:=λH s=>⟨xs,ys,c H s,j H s,by simp[kG,k.length,h.length];omega⟩
 yld:=λi t L H x N b l e y=>by
  obtain⟨p,B,J,rfl,C,rfl,m,d⟩:=y;obtain⟨n,v,r⟩:=k.at_ (m xs (c H (b.trans l)));obtain⟨q,A,w⟩:=h.at_ (d ys (j H (b.trans l)));have:t=.tup [n,q]:=by unfold kG at e;rw[aw,(List.getElem?_zip_eq_some (z:=(n,q))).mpr ⟨v,A⟩]at e;cases e;rfl
  rw[this];have g:=Gr.new (o:=.tup [B,J]) l C;exact⟨_,g,.tup eJ (.cons ((r.mono b).mono g.ff) (.cons ((w.mono b).mono g.ff) .nil))⟩
noncomputable def JQ(c d:Bool)(fa:Pe->M (List T)):Pe->M (List T):=λρ=>(fa ρ).bind λa=>match a with
 |[x,y]=>(seqB c x).bind λb=>(seqB d y).bind λe=>.ok (kG b e)
 |_=>.bad
def vK:seqB b x≠.er C n:=by cases x<;>cases b<;>exact λz=>nomatch z
def Dh{ta:TA}{fa:Pe->M (List T)}(r:MA K E ta fa):MI K E (Jo K b1 b2 ta) (JQ b1 b2 fa):=λF H σ ρ R s V q=>by
 refine r.run s V q λA z F1 H1 h v d=>?_;split at d
 .rename_i x y;cases v with
  |cons a b=>
   cases b with
   |cons b c=>
    cases c;cases g:seqB b1 x with
    |bad=>rw[g]at d;exact d.elim
    |er C n=>exact absurd g vK
    |ok ts=>
     rw[g]at d;cases e:seqB b2 y with
     |bad=>simp only[e,M.bind_ok]at d;exact d.elim
     |er C n=>exact absurd e vK
     |ok us=>simp only[e,M.bind_ok]at d;obtain⟨m,o,rfl,j,l⟩:=q0 a g;obtain⟨k,w,rfl,i,p⟩:=q0 b e;exact⟨m,k,rfl,⟨o,j _ h.fh⟩,⟨w,i _ h.fh⟩,d _ F1 H1 h (Jg j l i p)⟩
 .exact d.elim
def MG(K:W.Frag)(g:TG)(m:T->Pe->Option Pe):Prop:=∀F H σ (ρ:Pe) x t ρ' Q,eN F H->σ.length=ρ.length->iW K F σ ρ->iq K F x t->m t ρ=some ρ'->(∀a,a.length=ρ'.length->iW K F a ρ'->Q a H)->g x σ H Q
def LY(K:W.Frag)(g:Fm)(m:List T->Pe->Option Pe):Prop:=∀F H σ (ρ:Pe) xs ts ρ' Q,eN F H->σ.length=ρ.length->iW K F σ ρ->eT K F xs ts->m ts ρ=some ρ'->(∀a,a.length=ρ'.length->iW K F a ρ'->Q a H)->g xs σ H Q
@[simp] def iC(i:Nat):T->Pe->Option Pe:=λt ρ=>some (ρ.set i (some t))
def iW.set{ρ:Pe}(V:iW K F σ ρ)(d:σ.length=ρ.length)(h:iq K F v x):iW K F (σ.set i (some v)) (ρ.set i (some x)):=λj t e=>by
 have c:j<ρ.length:=by simpa using (aa.mp e).1
 rcases eY e with⟨rfl,q⟩|⟨c,q⟩
 .cases q;exact⟨v,uV (by rw[d];exact c),h⟩
 .obtain⟨w,a,b⟩:=V j t q;exact⟨w,by rw[ar (λz=>c z.symm)];exact a,b⟩
def Ga:MG K (gC i) (iC i):=λF H σ ρ x t b Q s a V r e k=>by cases e;exact k _ (by simp[a]) (V.set a r)
@[simp] noncomputable def mX:List T->Pe->Option Pe
 |[],ρ=>some ρ
 |_::_,_=>none
@[simp] def f9(m:T->Pe->Option Pe)(n:List T->Pe->Option Pe):List T->Pe->Option Pe
 |[],_=>none
 |t::ts,ρ=>(m t ρ).bind (n ts)
def Fw:LY K AO mX:=λF H σ ρ g h d Q s c V r e k=>by
 cases r with
 |nil=>cases e;exact⟨rfl,k σ c V⟩
 |cons a b=>cases e
def Dr(l:MG K g m)(o:LY K gs n):LY K (sC g gs) (f9 m n):=λF H σ ρ x y d Q s p V r e k=>by
 cases r with
 |nil=>cases e
 |cons a b=>
  rename_i v t j c;have e:(m t ρ).bind (n c)=some d:=e;cases q:m t ρ with
  |none=>rw[q]at e;cases e
  |some ρ1=>rw[q]at e;refine⟨v,j,rfl,l F H σ ρ v t ρ1 _ s p V a q λh i w=>?_⟩;exact o F H h ρ1 j c d Q s i w b e k
@[simp] noncomputable def mW(k:Nat)(m:List T->Pe->Option Pe):T->Pe->Option Pe
 |.tup ts,ρ=>if ts.length=k then m ts ρ else none
 |_,_=>none
def Kt(h:LY K g m):MG K (Be K k g) (mW k m):=λF H σ ρ x t b Q s i V r e q=>by
 cases r with
 |tup hx rs=>
  rename_i a j c;have e:(if c.length=k then m c ρ else none)=some b:=e;by_cases d:c.length=k
  .rw[aQ d]at e;exact⟨_,_,rfl,jV.of (s _ _ hx),by rw[rs.length];exact d,h F H σ ρ _ _ b Q s i V rs e q⟩
  .rw[aR d]at e;cases e
 |_=>cases e
noncomputable def Ft(K:W.Frag)(g:TG)(m:T->En->Option En):Prop:=∀F0 H0 F H σ ρ x t b Q,Sr K F0 H0 F H σ ρ->iq K F x t->m t ρ=some b->(∀a,Sr K F0 H0 F H a b->Q a H)->g x σ H Q
noncomputable def DD(K:W.Frag)(g:Fm)(m:List T->En->Option En):Prop:=∀F0 H0 F H σ ρ c d b Q,Sr K F0 H0 F H σ ρ->eT K F c d->m d ρ=some b->(∀a,Sr K F0 H0 F H a b->Q a H)->g c σ H Q
@[simp] noncomputable def km(i:Nat):T->En->Option En:=λt ρ=>some (ρ.set i (some (.p t)))
def CY:Ft K (gC i) (km i):=λF0 H0 F H σ ρ x t a Q s r e k=>by cases e;exact k _ (s.setP r)
@[simp] noncomputable def j7:List T->En->Option En
 |[],ρ=>some ρ
 |_::_,_=>none
@[simp] noncomputable def fH(m:T->En->Option En)(n:List T->En->Option En):List T->En->Option En
 |[],_=>none
 |t::ts,ρ=>(m t ρ).bind (n ts)
def CC:DD K AO j7:=λF0 H0 F H σ ρ d g c Q s r e k=>by
 cases r with
 |nil=>cases e;exact⟨rfl,k σ s⟩
 |cons a b=>cases e
def A2(j:Ft K g m)(l:DD K gs n):DD K (sC g gs) (fH m n):=λF0 H0 F H σ ρ p w d Q s r e k=>by
 cases r with
 |nil=>cases e
 |cons a b=>
  rename_i v t i c;have e:(m t ρ).bind (n c)=some d:=e;cases q:m t ρ with
  |none=>rw[q]at e;cases e
  |some ρ1=>rw[q]at e;refine⟨v,i,rfl,j F0 H0 F H σ ρ v t ρ1 _ s a q λh o=>?_⟩;exact l F0 H0 F H h ρ1 i c d Q o b e k
@[simp] noncomputable def j8(k:Nat)(m:List T->En->Option En):T->En->Option En
 |.tup ts,ρ=>if ts.length=k then m ts ρ else none
 |_,_=>none
def Hq(h:DD K g m):Ft K (Be K k g) (j8 k m):=λF0 H0 F H σ ρ x t b Q s r e q=>by
 cases r with
 |tup hx rs=>
  rename_i a i c;have e:(if c.length=k then m c ρ else none)=some b:=e;by_cases d:c.length=k
  .rw[aQ d]at e;exact⟨_,_,rfl,jV.of (s.gr.fh _ _ hx),by rw[rs.length];exact d,h F0 H0 F H σ ρ _ _ b Q s rs e q⟩
  .rw[aR d]at e;cases e
 |_=>cases e
noncomputable def f6(m:T->En->Option En)(g:En->O):List T->En->O
 |[],ρ=>.nx ρ
 |t::ts,ρ=>match m t ρ with
  |none=>.bad
  |some ρ1=>match g ρ1 with
   |.nx ρ2=>f6 m g ts ρ2
   |.ct ρ2=>f6 m g ts ρ2
   |.bk ρ2=>.nx ρ2
   |o=>o
theorem nZ{tb:TS}{J:It}(hg:Ft K g m)(hb:MS K E tb gb){G:Hp->Hp->Prop}(X:∀i F H,G F H->i<its.length->J.go i H)(Y:∀F H,G F H->J.stop its.length H)(R:∀(i:Nat) t F H x c,G F H->its[i]? = some t->J.yld i H x c->∃d,Gr F H d c/\iq K d x t)
  (U:∀d c b ρ',eN F1 d->Sr K F0 H0 d c b ρ'->G d c) (r:Sr K F0 H0 F H σ ρ) (s1:eN F1 F)
  (q:(f6 m gb its ρ).res K E F0 H0 F D):∃W:Nat->Nat->St->Hp->Prop,(∃m,W 0 m σ H)/\∀i m σ H,W i m σ H->
 (J.stop i H/\D.nx σ H)\/(J.go i H/\∃N:St->Hp->Prop,(∀b c,N b c->∃m',m'<m/\W (i+1) m' b c)/\∀x c,J.yld i H x c->g x σ c λQ H2=>tb {D with nx:=N,ct:=N,bk:=D.nx} Q H2):=by
 refine⟨λi k b c=>i<=its.length/\k=its.length-i/\∃d ρ',eN F1 d/\Sr K F0 H0 d c b ρ'/\(f6 m gb (its.drop i) ρ').res K E F0 H0 d D,⟨_,bD _,rfl,F,ρ,s1,r,by simpa using q⟩,?_⟩
 rintro i k A L ⟨hi,rfl,I,w,B,v,a⟩
 by_cases h:i<its.length
 .right;refine⟨X i I L (U _ _ _ _ B v) h,λb c=>∃d ρ',eN F1 d/\Sr K F0 H0 d c b ρ'/\(f6 m gb (its.drop (i+1)) ρ').res K E F0 H0 d D,λb c z=>⟨its.length-(i+1),by omega,h,rfl,z⟩,λx c y=>?_⟩;have et:=ag h;obtain⟨Z,o,rp⟩:=R i _ I L x c (U _ _ _ _ B v) et y;rw[cU h]at a;unfold f6 at a;cases P:m its[i] w with
  |none=>rw[P]at a;exact a.elim
  |some ρ3=>
   rw[P]at a;refine hg F0 H0 Z c A w x _ ρ3 _ (v.grow o) rp P λb r'=>?_;refine hb F0 H0 Z c b ρ3 _ r' ?_;dsimp only at a;cases j:gb ρ3 with
   |bad=>rw[j]at a;exact a.elim
   |nx ρ4=>rw[j]at a;exact λd S p s l=>⟨d,ρ4,(B.trans o.ff).trans s,l,O.res.go a (o.ff.trans s)⟩
   |ct ρ4=>rw[j]at a;exact λd S p s l=>⟨d,ρ4,(B.trans o.ff).trans s,l,O.res.go a (o.ff.trans s)⟩
   |bk ρ4=>rw[j]at a;exact kN.go a o.ff
   |rt t=>rw[j]at a;exact a
   |rf ts=>rw[j]at a;exact a
   |rn ts us=>rw[j]at a;exact a
   |er C n=>rw[j]at a;exact a
 .left;have e:i=its.length:=by omega
  subst e;refine⟨Y I L (U _ _ _ _ B v),?_⟩;rw[List.drop_length]at a;exact a I L A (.refl _) v
def uD{tb:TS}(o:Ft K g m)(k:MS K E tb gb)(a:tO K J its F1)(r:Sr K F0 H0 F H σ ρ)(n:eN F1 F)
  (q:(f6 m gb its ρ).res K E F0 H0 F D):∃W:Nat->Nat->St->Hp->Prop,(∃m,W 0 m σ H)/\∀i m σ H,W i m σ H->
 (J.stop i H/\D.nx σ H)\/(J.go i H/\∃N:St->Hp->Prop,(∀c b,N c b->∃h,h<m/\W (i+1) h c b)/\∀x b,J.yld i H x b->g x σ b λd j=>tb {D with nx:=N,ct:=N,bk:=D.nx} d j):=
 nZ (G:=λF H=>eN F1 F/\eN F H) o k (λi F H q l=>a.go i H (q.1.trans q.2) l) (λF H q=>a.stop H (q.1.trans q.2)) (λi t F H x b q e y=>a.yld i t F H x b q.1 q.2 e y) (λ_ _ _ _ s r=>⟨s,r.gr.fh⟩) r n q
@[simp] noncomputable def rJ(j:Nat)(ts:List T):O->O
 |.nx ρ=>match ρ[j]? with
  |some none=>.nx (ρ.set j (some (.o ts)))
  |_=>.bad
 |.rt t=>.rt t
 |.rf ts=>.rf ts
 |.rn ts us=>.rn ts us
 |.er C n=>.er C n
 |_=>.bad
@[simp] noncomputable def ng(j:Nat)(m:T->En->Option En)(g:En->O):En->O:=λρ=>match ρ[j]? with
 |some (some (.o ts))=>rJ j ts (f6 m g ts (ρ.set j none))
 |_=>.bad
def Sr.hide(r:Sr K F0 H0 F H σ ρ)(e:ρ[j]? = some (some (.o ts))):∃l vs,σ[j]? = some (some (.ref l))/\H l=some (.lst vs)/\eT K F vs ts/\(∀v∈F0.lt,v.2.1≠l)/\Sr K ⟨F0.hp,(j,l,vs)::F0.lt⟩ H0 F H σ (ρ.set j none):=by
 obtain⟨x,y,J⟩:=r.ov;obtain⟨a,b,c,vs,d,z⟩:=y j ts e;refine⟨x j,vs,a,d,z,λv s w=>(r.lv v s).d j ts e (by rw[w];exact a),r.gr,by simp[r.len],λi t q=>?_,⟨x,λi n q=>?_,λi k n B q N I=>?_⟩,λv s=>?_,λi l C m q=>?_,r.dv.setR λ_ z=>nomatch z⟩
 .rcases eY q with⟨rfl,g⟩|⟨p,g⟩
  .cases g
  .exact r.pv i t g
 .rcases eY q with⟨rfl,g⟩|⟨p,g⟩
  .cases g
  .exact y i n g
 .rcases eY q with⟨rfl,g⟩|⟨p,g⟩
  .cases g
  .rcases eY N with⟨rfl,A⟩|⟨Q,A⟩
   .cases A
   .exact J i k n B g A I
 .rcases aF.mp s with rfl|s
  .refine⟨d,b,c,λi n q w=>?_⟩;rcases eY q with⟨rfl,g⟩|⟨p,g⟩
   .cases g
   .obtain⟨P,_⟩:=y i n g;rw[P]at w;have:x i=x j:=by simpa using w
    exact J i j n ts g e p this
  .have L:=r.lv v s;refine⟨L.h,L.f,L.z,λi n q=>?_⟩;rcases eY q with⟨rfl,g⟩|⟨p,g⟩
   .cases g
   .exact L.d i n g
 .rw[bY]at m;rcases eY q with⟨rfl,g⟩|⟨p,g⟩
  .rw[beq_self_eq_true]at m;cases m;exact a
  .rw[beq_eq_false_iff_ne.mpr p]at m;exact r.sl i l C m g
def Sr.unhide(r:Sr K ⟨F0.hp,(j,l,vs)::F0.lt⟩ H0 F H σ ρ)(e:ρ[j]? = some none)(Q:eT K F vs ts)(U:∀v∈F0.lt,v.2.1≠l):Sr K F0 H0 F H σ (ρ.set j (some (.o ts))):=by
 obtain⟨C,B,S⟩:=r.ov;have L:=r.lv (j,l,vs) (bh ..);have I:=r.sl j l vs (by rw[bY,beq_self_eq_true]) e;have J:∀i p,ρ[i]? = some (some (.o p))->C i≠l:=λi p q w=>L.d i p q (by rw[(B i p q).1,w]);refine⟨r.gr,by simp[r.len],λi t q=>?_,⟨λi=>if i=j then l else C i,λi c q=>?_,λi k c m q P n=>?_⟩,λv N=>?_,λi R x y q=>?_,r.dv.setR λ_ z=>nomatch z⟩
 .rcases eY q with⟨rfl,a⟩|⟨b,a⟩
  .cases a
  .exact r.pv i t a
 .rcases eY q with⟨rfl,a⟩|⟨b,a⟩
  .cases a;dsimp only;rw[aQ rfl];exact⟨I,L.f,L.z,vs,L.h,Q⟩
  .dsimp only;rw[aR b];exact B i c a
 .rcases eY q with⟨rfl,a⟩|⟨b,a⟩
  .rcases eY P with⟨rfl,g⟩|⟨A,g⟩
   .exact absurd rfl n
   .dsimp only;rw[aQ rfl,aR A];exact λw=>J k m g w.symm
  .rcases eY P with⟨rfl,g⟩|⟨A,g⟩
   .dsimp only;rw[aR b,aQ rfl];exact J i c a
   .dsimp only;rw[aR b,aR A];exact S i k c m a g n
 .have s:=r.lv v (bj _ N);refine⟨s.h,s.f,s.z,λi c q=>?_⟩;rcases eY q with⟨rfl,a⟩|⟨b,a⟩
  .rw[I];intro w;exact U v N (by simpa using w.symm)
  .exact s.d i c a
 .rcases eY q with⟨rfl,a⟩|⟨b,a⟩
  .cases a
  .exact r.sl i R x (by rw[bY,beq_eq_false_iff_ne.mpr b];exact y) a
theorem AX{tb:TS}(hw:∀σ H R l vs,σ[j]? = some (some (.ref l))->H l=some (.lst vs)->R (Md K l) H->w σ H R)(Z:Ft K g m)(U:MS K E tb gb) :
  MS K E (qI w g tb) (ng j m gb):=λF0 H0 F H σ ρ D r q=>by
 unfold ng at q;split at q
 .rename_i A e;obtain⟨l,vs,a,d,z,S,J⟩:=r.hide e;refine hw σ H _ l vs a d ?_;have X:(f6 m gb A (ρ.set j none)).res K E ⟨F0.hp,(j,l,vs)::F0.lt⟩ H0 F D:=by
   cases eo:f6 m gb A (ρ.set j none) with
   |bad=>rw[eo]at q;exact q.elim
   |nx ρ2=>
    rw[eo]at q;unfold rJ at q;dsimp only at q;split at q
    .rename_i L;exact λb c o s v=>q b c o s (v.unhide L (z.mono s) S)
    .exact q.elim
   |rt t=>rw[eo]at q;exact q
   |rf us=>rw[eo]at q;exact q
   |rn A us=>rw[eo]at q;exact q
   |bk ρ2=>rw[eo]at q;exact q.elim
   |ct ρ2=>rw[eo]at q;exact q.elim
   |er C n=>rw[eo]at q;exact q
  refine nZ (G:=λb c=>eN F b/\eN b c/\c l=some (.lst vs)) Z U (λi b c k hi=>?_) (λb c k=>?_) (λi t b c x P k B y=>?_) (λb c o Q s v=>⟨s,v.gr.fh,(v.lv (j,l,vs) (bh ..)).h⟩) J (.refl _) X
  .have N:vs[i]? = some (vs[i]'(by rw[z.length];exact hi)):=ag _;exact⟨vs,_,iJ.of k.2.2,N⟩
  .exact⟨vs,iJ.of k.2.2,by rw[z.length];exact aK _⟩
  .obtain⟨rfl,I⟩:=y;obtain⟨t',p,Y⟩:=z.at_ (I vs (iJ.of k.2.2));rw[B]at p;cases p;exact⟨b,.refl k.2.1,Y.mono k.1⟩
 .exact q.elim
@[simp] noncomputable def qO(b:Pe->M (List T))(m:T->En->Option En)(g:En->O):En->O:=λρ=>.of (b (jW ρ)) λa=>f6 m g a ρ
def JR{tb:TS}(h:MI K E w fi)(e:Ft K g m)(d:MS K E tb gb):MS K E (qI w g tb) (qO fi m gb):=λF0 H0 F H σ ρ D r q=>h F H σ (jW ρ) _ r.gr.fh r.vars ((O.res_of q).mono (λc z J i j b a=>uD e d a (r.grow b) (.refl _) (z.go b.ff)) λC n z=>z.go r.gr)
@[simp] noncomputable def qx(b:Pe->M (List T))(m:T->En->Option En)(g:En->O):En->O:=λρ=>.of (b (vw ρ)) λa=>f6 m g a ρ
def Gc{tb:TS}(v:Lh K E w fi)(s:Ft K g m)(l:MS K E tb gb):MS K E (qI w g tb) (qx fi m gb):=λF0 H0 F H σ ρ D r q=>by obtain⟨p,x,d,V,a⟩:=r.lend;refine v p H σ (vw ρ) _ d.fh V ((O.res_of q).mono (λk z J j o h c=>?_) λC n z=>z.go d);obtain⟨e,b,i,_⟩:=a j o h;exact uD s l (c e) (r.grow b) (.refl _) (z.go i)
noncomputable def jY(c:Pe->M Bool)(g:En->O):Nat->En->O
 |0,_=>.bad
 |n+1,ρ=>.of (c (vw ρ)) λb=>if b then (match g ρ with
   |.nx ρ2=>jY c g n ρ2
   |.ct ρ2=>jY c g n ρ2
   |.bk ρ2=>.nx ρ2
   |o=>o) else .nx ρ
def Ea{tb:TS}(i:En->Nat)(I:MT K E c fc)(L:MS K E tb gb):MS K E (yc c tb) (λρ=>jY fc gb (i ρ) ρ):=λF0 H0 F H σ ρ D r q=>by
 refine⟨λn g o=>∃d e,eN F d/\Sr K F0 H0 d o g e/\(jY fc gb n e).res K E F0 H0 d D,⟨i ρ,F,ρ,.refl _,r,q⟩,?_⟩;rintro n l P ⟨N,k,y,J,p⟩;cases n with
 |zero=>exact p.elim
 |succ n=>
  unfold jY at p;refine I.inS J p λb x A B w a=>?_;cases b with
  |true=>
   rw[aQ rfl]at a ⊢;refine⟨λg o=>∃d e,eN F d/\Sr K F0 H0 d o g e/\(jY fc gb n e).res K E F0 H0 d D,λg o z=>⟨n,bC n,z⟩,?_⟩;refine L F0 H0 x A l k _ w ?_;cases h:gb k with
   |bad=>rw[h]at a;exact a.elim
   |nx ρ4=>rw[h]at a;exact λd v m s j=>⟨d,ρ4,(y.trans B).trans s,j,O.res.go a s⟩
   |ct ρ4=>rw[h]at a;exact λd v m s j=>⟨d,ρ4,(y.trans B).trans s,j,O.res.go a s⟩
   |bk ρ4=>rw[h]at a;exact a
   |rt t=>rw[h]at a;exact a
   |rf ts=>rw[h]at a;exact a
   |rn ts us=>rw[h]at a;exact a
   |er C n=>rw[h]at a;exact a
  |false=>rw[aR aH]at a ⊢;exact a x A l (.refl _) w
@[simp] noncomputable def kQ(a:List (Option Nat))(ρ:Pe):Pe:=a.map fun
 |none=>none
 |some j=>(ρ[j]?).getD none
def iW.pull{ρ:Pe}(V:iW K F σ ρ) ix:iW K F (L2.pull ix σ) (kQ ix ρ):=λi t e=>by
 unfold kQ at e;rw[aw]at e;cases q:ix[i]? with
 |none=>rw[q]at e;cases e
 |some w=>
  rw[q]at e;cases w with
  |none=>cases e
  |some j=>
   have c:(ρ[j]?).getD none=some t:=by simpa using e
   cases z:ρ[j]? with
   |none=>rw[z]at c;cases c
   |some y=>rw[z]at c;have:y=some t:=c;rw[this]at z;obtain⟨v,a,b⟩:=V j t z;refine⟨v,?_,b⟩;unfold L2.pull;rw[aw,q];simp[a]
@[simp] noncomputable def pD(m:T->Pe->Option Pe)(c:Pe->M Bool)(a:Pe->M T)(ρ:Pe)(t:T):M (Option T):=match m t ρ with
 |none=>.bad
 |some ρ1=>(c ρ1).bind λb=>if b then (a ρ1).bind λx=>.ok (some x) else .ok none
noncomputable def mT(k:T->M (Option T)):List T->M (List T)
 |[]=>.ok []
 |t::ts=>(k t).bind λo=>(mT k ts).bind λr=>.ok (match o with
  |some x=>x::r
  |none=>r)
def Fo:XK:=λ_ _ _=>False
def JF:MT K E Jq (λ_=>.ok true):=λF H σ ρ Q s V q=>q F H (.refl s)
theorem Dn{ρ:Pe}(hg:MG K g m)(ht:MT K Fo tt ft)(he:ME K Fo te fe)(V:iW K F1 σ ρ)
  (j:tO K J its F1) (s:eN F1 H1) (hl:its.length<sizeLine) (q:(mT (pD m ft fe (kQ ix ρ)) its).res (kF K F1 H1 Q) (λ_ _=>False)):Nk J ix g tt te σ H1 Q:=by
 refine⟨λi k C H=>i<=its.length/\k=its.length-i/\∃U l,Gr F1 H1 U H/\eT K U C l/\l.length<=i/\(mT (pD m ft fe (kQ ix ρ)) (its.drop i)).res (λX=>kF K F1 H1 Q (l++X)) (λ_ _=>False),
  ⟨_,bD _,rfl,F1,[],.refl s,.nil,bD _,by simpa using q⟩,?_⟩
 rintro i k C L ⟨hi,rfl,Z,l,a,A,tl,o⟩;by_cases c:i<its.length
 .right;refine⟨j.go i L (a.ff.trans a.fh) c,by rw[A.length];omega,λx P y=>?_⟩;have et:=ag c;obtain⟨S,p,rp⟩:=j.yld i _ Z L x P a.ff a.fh et y;rw[cU c]at o;unfold mT at o;have h:=M.res.unb o;unfold pD at h;cases B:m its[i] (kQ ix ρ) with
  |none=>rw[B]at h;exact h.elim
  |some ρ3=>
   rw[B]at h;have d:=a.trans p;have V3:=(V.mono d.ff).pull ix;refine hg S P _ _ x _ ρ3 _ p.fh (by simp[L2.pull,kQ]) V3 rp B λr hl' V'=>?_;have q4:=M.res.unb h;refine ht S P r ρ3 _ p.fh V' (q4.mono (λb z Y H4 n=>?_) λ_ _ z=>z.elim);cases b with
   |true=>rw[aQ rfl]at z ⊢;have q5:=M.res.unb z;refine he Y H4 r ρ3 _ n.fh (V'.mono n.ff) (q5.mono (λx' z' v F5 H5 g5 I=>?_) λ_ _ z=>z.elim);refine⟨its.length-(i+1),by omega,c,rfl,F5,l++[x'],(d.trans n).trans g5,(A.mono (p.ff.trans (n.ff.trans g5.ff))).append (.cons I .nil),by simp;omega,?_⟩;have R:=M.res.unb z';exact R.mono (λX w=>by rw[bR];exact w) λ_ _ w=>w
   |false=>rw[aR aH]at z ⊢;refine⟨its.length-(i+1),by omega,c,rfl,Y,l,d.trans n,A.mono (p.ff.trans n.ff),by omega,?_⟩;exact M.res.unb z
 .left;have e:i=its.length:=by omega
  subst e;rw[List.drop_length]at o;refine⟨j.stop L (a.ff.trans a.fh),λD N=>?_⟩;have h:kF K F1 H1 Q l:=by simpa[mT,M.res] using o
  exact h D C Z _ (a.trans (.new' a.fh N)) (eR a.hh N) (eR a.fh N) eJ A
def Iv(i:MI K E w fi)(h:MG K g m)(e:MT K Fo tt ft)(c:ME K Fo te fe) :
  MF K E (Cc ix w g tt te) (λρ=>(fi ρ).bind λits=>(if its.length<sizeLine then mT (pD m ft fe (kQ ix ρ)) its else .bad).noEr):=λF H σ ρ Q s V q=>by
 refine i F H σ ρ _ s V ((M.res.unb q).mono (λits z J j k a b=>?_) λ_ _ z=>z);split at z
 .rename_i d;exact Dn h e c (V.mono a.ff) b a.fh d (z.noEr.mono (λ_ w=>w.go a) λ_ _ w=>w)
 .exact z.elim
end
end L3
namespace L3
open PySem L2
section
variable {K:W.Frag}{E:XK}{t u ta tb:TE}{f fa fb:Pe->M T}{F0:Fz}{H0 F H F1 H1:Hp}{σ:St}{ρ:En}{D:qp}
noncomputable def vt(K:W.Frag)(F:List T->M T):Sp:=λb H Q E=>∃a F0,eN F0 H/\eT K F0 b a/\(F a).res (kV K F0 H Q) (kE E F0 H)
noncomputable def xY(K:W.Frag)(F:List T->M (List T)):Sp:=λb H Q E=>∃a F0,eN F0 H/\eT K F0 b a/\(F a).res (kF K F0 H Q) (kE E F0 H)
@[simp] noncomputable def eQ(fa:Pe->M (List T))(F:List T->M T):Pe->M T:=λρ=>(fa ρ).bind λa=>(F a).noEr
@[simp] noncomputable def iY(fa:Pe->M (List T))(F:List T->M (List T)):Pe->M (List T):=λρ=>(fa ρ).bind λa=>(F a).noEr
section
variable {tr:TA}{fr:Pe->M (List T)}{Fn:List T->M T}{Ff:List T->M (List T)}{E':XK}
def Fc(e:MA K E tr fr):ME K E (uF (vt K Fn) [] E' tr) (eQ fr Fn):=λF H σ ρ Q s V q=>by refine e.run s V q λd g F1 H1 a c b=>?_;exact⟨d,F1,a.fh,by rw[bE];exact c,(b.mono (λ_ z=>kV.go z a) λ_ _ z=>z).noEr⟩
def Dk(e:MA K E tr fr):MF K E (uF (xY K Ff) [] E' tr) (iY fr Ff):=λF H σ ρ Q s V q=>by refine e.run s V q λd g F1 H1 a c b=>?_;exact⟨d,F1,a.fh,by rw[bE];exact c,(b.mono (λ_ z=>kF.go z a) λ_ _ z=>z).noEr⟩
@[simp] noncomputable def rB(C:Addr)(m:Str)(x:T):M Unit:=match x with
 |.obj C' fs=>if C'=C/\fs.lookup m=none then .ok () else .bad
 |_=>.bad
@[simp] noncomputable def xM(C:Addr)(m:Str)(a:Pe->M T)(fr:Pe->M (List T))(F:List T->M T):Pe->M T:=λρ=>(a ρ).bind λx=>(rB C m x).bind λ_=>(fr ρ).bind λb=>(F (x::b)).noEr
@[simp] noncomputable def r0(C:Addr)(m:Str)(a:Pe->M T)(fr:Pe->M (List T))(F:List T->M (List T)):Pe->M (List T):=λρ=>(a ρ).bind λx=>(rB C m x).bind λ_=>(fr ρ).bind λb=>(F (x::b)).noEr
def Aa(r:iq K F v x)(e:rB C m x=.ok ()):∃a dx fs,v=.ref a/\F a=some (.ins C dx fs)/\fs.lookup m=none:=by
 cases r with
 |obj h rs=>
  rename_i a c dx fs d;have e:(if c=C/\List.lookup m d=none then M.ok () else M.bad)=.ok ():=e;by_cases b:c=C/\List.lookup m d=none
  .obtain⟨rfl,g⟩:=b;exact⟨a,dx,fs,rfl,h,rs.none_ g⟩
  .rw[aR b]at e;cases e
 |_=>cases e
def Ah:rB C m x≠.er C' n:=by
 unfold rB;split
 .split<;>exact λz=>nomatch z
 .exact λz=>nomatch z
def Cm(r:ME K E ta fa)(j:MA K E tr fr):ME K E (uM C m (vt K Fn) [] E' ta tr) (xM C m fa fr Fn):=λF H σ ρ Q s V q=>by
 refine r.run s V q λx v F1 H1 c g b=>?_;cases e:rB C m x with
 |bad=>rw[e]at b;exact b.elim
 |er C n=>exact absurd e Ah
 |ok u=>rw[e]at b;obtain⟨a,i,fs,rfl,h,p⟩:=Aa g e;refine⟨a,i,fs,rfl,c.fh _ _ h,p,?_⟩;refine j.run c.fh (V.mono c.ff) b λw y o A d l k=>?_;exact⟨x::w,o,d.fh,by rw[bE];exact .cons (g.mono d.ff) l,(k.mono (λ_ z=>kV.go z (c.trans d)) λ_ _ z=>z).noEr⟩
def Ec(r:ME K E ta fa)(j:MA K E tr fr):MF K E (uM C m (xY K Ff) [] E' ta tr) (r0 C m fa fr Ff):=λF H σ ρ Q s V q=>by
 refine r.run s V q λx v F1 H1 c g b=>?_;cases e:rB C m x with
 |bad=>rw[e]at b;exact b.elim
 |er C n=>exact absurd e Ah
 |ok u=>rw[e]at b;obtain⟨a,i,fs,rfl,h,p⟩:=Aa g e;refine⟨a,i,fs,rfl,c.fh _ _ h,p,?_⟩;refine j.run c.fh (V.mono c.ff) b λw y o A d l k=>?_;exact⟨x::w,o,d.fh,by rw[bE];exact .cons (g.mono d.ff) l,(k.mono (λ_ z=>kF.go z (c.trans d)) λ_ _ z=>z).noEr⟩
end
@[simp] noncomputable def Mv:O->M T
 |.nx _=>.ok .non
 |.rt t=>.ok t
 |.rf ts=>.ok (.lst ts)
 |.rn ts us=>.ok (.tup (ts++[.lst us]))
 |.er C n=>.er C n
 |_=>.bad
@[simp] noncomputable def MB:O->M (List T)
 |.rf ts=>.ok ts
 |.er C n=>.er C n
 |_=>.bad
@[simp] noncomputable def fQ(n:Nat)(ts:List T):En:=ts.map (λt=>some (W.p t))++List.replicate (n-ts.length) none
@[simp] noncomputable def mm(k n:Nat)(g:En->O):List T->M T:=λa=>if a.length=k then Mv (g (fQ n a)) else .bad
@[simp] noncomputable def uc(k n:Nat)(g:En->O):List T->M (List T):=λa=>if a.length=k then MB (g (fQ n a)) else .bad
def t5{n i:Nat}(e:(fQ n ts)[i]? = some (some (.d kvs))):False:=by
 unfold fQ at e;rw[List.getElem?_append]at e;split at e
 .rw[aw]at e;cases q:ts[i]? with
  |none=>rw[q]at e;cases e
  |some x=>rw[q]at e;cases e
 .rw[List.getElem?_replicate]at e;split at e<;>cases e
def xH(s:eN F H)(r:eT K F vs ts):Sr K ⟨F,[]⟩ H F H (iM N vs) (fQ N.length ts):=by
 refine⟨.refl s,?_,λi t e=>?_,⟨λ_=>0,λi l e=>?_,λi j l m e=>?_⟩,λ_ g=>(nomatch g),λ_ _ _ h=>(by cases h),⟨λi c e=>(t5 e).elim,λi j c d e=>(t5 e).elim⟩⟩
 .simp[L2.iM,fQ,r.length]
 .unfold fQ at e;rw[List.getElem?_append]at e;split at e
  .rename_i k;rw[aw]at e;cases q:ts[i]? with
   |none=>rw[q]at e;cases e
   |some x=>rw[q]at e;cases e;obtain⟨v,a,b⟩:=r.get q;refine⟨v,?_,b⟩;unfold L2.iM;rw[List.getElem?_append_left (by simpa[r.length] using k),aw,a];rfl
  .rw[List.getElem?_replicate]at e;split at e<;>cases e
 .exfalso;unfold fQ at e;rw[List.getElem?_append]at e;split at e
  .rw[aw]at e;cases q:ts[i]? with
   |none=>rw[q]at e;cases e
   |some x=>rw[q]at e;cases e
  .rw[List.getElem?_replicate]at e;split at e<;>cases e
 .exfalso;unfold fQ at e;rw[List.getElem?_append]at e;split at e
  .rw[aw]at e;cases q:ts[i]? with
   |none=>rw[q]at e;cases e
   |some x=>rw[q]at e;cases e
  .rw[List.getElem?_replicate]at e;split at e<;>cases e
def yw(h:vt K (mm k n g) vs H Q E):vs.length=k:=by
 obtain⟨b,F0,s,r,q⟩:=h;unfold mm at q;by_cases a:b.length=k
 .rw[r.length];exact a
 .rw[aR a]at q;exact q.elim
def vJ{t:TS}(d:MS K E t g)(h:vt K (mm k N.length g) vs H Q E):t {nx:=λ_ b=>Q .non b,rt:=Q} (iM N vs) H:=by
 obtain⟨a,F0,s,r,q⟩:=h;unfold mm at q;by_cases c:a.length=k
 .rw[aQ c]at q;refine d ⟨F0,[]⟩ H F0 H _ _ _ (xH s r) ?_;cases e:g (fQ N.length a) with
  |bad=>rw[e]at q;exact q
  |nx ρ=>rw[e]at q;exact λj b l _ i=>q .non j b i.gr .non
  |rt t=>rw[e]at q;exact q
  |rf a=>rw[e]at q;exact kF.of q
  |rn a us=>rw[e]at q;exact kT.of q
  |bk ρ=>rw[e]at q;exact q.elim
  |ct ρ=>rw[e]at q;exact q.elim
  |er C n=>rw[e]at q;exact q
 .rw[aR c]at q;exact q.elim
def vW(h:xY K (uc k n g) vs H Q E):vs.length=k:=by
 obtain⟨b,F0,s,r,q⟩:=h;unfold uc at q;by_cases a:b.length=k
 .rw[r.length];exact a
 .rw[aR a]at q;exact q.elim
def rP{t:TS}(c:MS K E t g)(h:xY K (uc k N.length g) vs H Q E):t {nx:=λ_ d=>Q .non d,rt:=Q} (iM N vs) H:=by
 obtain⟨a,F0,s,r,q⟩:=h;unfold uc at q;by_cases b:a.length=k
 .rw[aQ b]at q;refine c ⟨F0,[]⟩ H F0 H _ _ _ (xH s r) ?_;cases e:g (fQ N.length a) with
  |bad=>rw[e]at q;exact q
  |nx ρ=>rw[e]at q;exact q.elim
  |rt t=>rw[e]at q;exact q.elim
  |rf a=>rw[e]at q;exact q
  |rn a us=>rw[e]at q;exact q.elim
  |bk ρ=>rw[e]at q;exact q.elim
  |ct ρ=>rw[e]at q;exact q.elim
  |er C n=>rw[e]at q;exact q
 .rw[aR b]at q;exact q.elim
@[simp] noncomputable def yt(C:Addr)(x:Str)(fa:Pe->M T):Pe->M T:=λρ=>(fa ρ).bind λo=>match o with
 |.obj C' fs=>if C'=C then (match fs.lookup x with
  |some t=>.ok t
  |none=>.bad) else .bad
 |_=>.bad
def IE(i:uj K C)(l:jb K C x)(m:ME K E ta fa):ME K E (Ki K ta x) (yt C x fa):=λF H σ ρ Q s V q=>by
 refine m.run s V q λo v F1 H1 g n b=>?_;cases n with
 |obj h rs=>
  rename_i a d k fs p;dsimp only at b;by_cases c:d=C
  .subst c;rw[aQ rfl]at b;cases e:List.lookup x p with
   |none=>rw[e]at b;exact b.elim
   |some y=>rw[e]at b;obtain⟨w,r,j⟩:=rs.look e;exact⟨a,d,k,fs,w,rfl,g.fh _ _ h,i,l,r,b w F1 H1 g j⟩
  .rw[aR c]at b;exact b.elim
 |_=>exact b.elim
end
end L3
namespace L3
open PySem L2 PySem.Spec PyProof.Rows
structure Pm(K:W.Frag)(E:XK)(X:Cx)(e:Expr)(t:TE)(f:Pe->M T):Prop where
 pe:PE X e t
 me:ME K E t f
structure BX(K:W.Frag)(E:XK)(X:Cx)(e:Expr)(t:TE)(f:Pe->M (List T)):Prop where
 pe:PE X e t
 mf:MF K E t f
structure Au(K:W.Frag)(E:XK)(X:Cx)(e:Expr)(t:TT)(f:Pe->M Bool):Prop where
 pt:PT X e t
 mt:MT K E t f
structure Kj(K:W.Frag)(E:XK)(X:Cx)(e:Expr)(t:TT)(f:Pe->M Bool):Prop where
 pw:PW X e t
 mt:MT K E t f
structure zS(K:W.Frag)(E:XK)(X:Cx)(es:List Expr)(t:TA)(f:Pe->M (List T)):Prop where
 pa:PA X es t
 ma:MA K E t f
structure B0(K:W.Frag)(E:XK)(X:Cx)(tg it:Expr)(w:TI)(f:Pe->M (List T)):Prop where
 pi:PI X tg it w
 mi:MI K E w f
structure oE(K:W.Frag)(E:XK)(X:Cx)(tg it:Expr)(w:TI)(f:Pe->M (List T)):Prop where
 pi:PI X tg it w
 mi:Lh K E w f
structure KI(K:W.Frag)(X:Cx)(tg:Expr)(g:TG)(m:T->Pe->Option Pe):Prop where
 pg:PG X tg g
 mg:MG K g m
structure Hr(K:W.Frag)(X:Cx)(tg:List Expr)(g:Fm)(m:List T->Pe->Option Pe):Prop where
 pg:KC X tg g
 mg:LY K g m
structure Jb(K:W.Frag)(X:Cx)(tg:Expr)(g:TG)(m:T->En->Option En):Prop where
 pg:PG X tg g
 mg:Ft K g m
structure HD(K:W.Frag)(X:Cx)(tg:List Expr)(g:Fm)(m:List T->En->Option En):Prop where
 pg:KC X tg g
 mg:DD K g m
structure uL(K:W.Frag)(E:XK)(X:Cx)(st:Stmt)(t:TS)(g:En->O):Prop where
 ps:PS X st t
 ms:MS K E t g
structure ly(K:W.Frag)(E:XK)(X:Cx)(sts:List Stmt)(t:TS)(g:En->O):Prop where
 ps:v9 X sts t
 ms:MS K E t g
noncomputable def MO(K:W.Frag)(E:XK)(t:TO)(f:Pe->M (Option Int)):Prop:=∀F H a b Q,eN F H->iW K F a b->(f b).res (λo=>∀d c,Gr F H d c->Q o c) (kE E F H)->t a H Q
structure Ml(K:W.Frag)(E:XK)(X:Cx)(e:Oq Expr)(t:TO)(f:Pe->M (Option Int)):Prop where
 po:PO X e t
 mo:MO K E t f
structure EM(K:W.Frag)(E:XK)(X:Cx)(es:List Expr)(t:TT)(f:Pe->M Bool):Prop where
 pf:BM X es t
 mt:MT K E t f
section
variable {K:W.Frag}{E:XK}{X:Cx}{a b c e o:Expr}{es:List Expr}{ta tb tc te to:TE}{fa fb fc fe fo:Pe->M T}{tr:TA}{fr:Pe->M (List T)}{pos p p2 apos:Pos}
def d8 i (h:X.N[i]? = some x:=by rfl) (g:KD X.env.scope x:=by first|exact Or.inl rfl|exact Or.inr (Or.inl rfl)|exact Or.inr (Or.inr rfl)) (f:(x==("__debug__" : Str))=false:=by decide)
  (d:(x==("__classdict__" : Str))=false:=by decide):Pm K E X (.Name x pos) (ja i) (ei i):=⟨pv i h g f d,II⟩
def eF{j pos}:Pm K E X (.Constant (.int i) j pos) (tC (.int i)) (cM (.int i)):=⟨yP,HA λ_=>.int i⟩
def pL{b:Bool}{j pos}:Pm K E X (.Constant (.bool b) j pos) (tC (.bl b)) (cM (.bl b)):=⟨zP,HA λ_=>.bl b⟩
def Cq{j pos}:Pm K E X (.Constant .none j pos) (tC .non) (cM .non):=⟨Kr,HA λ_=>.non⟩
def wW i (d:∃t,X.mg x=some (.int i t)) (g:Gl X x:=by rfl) (f:(x==("__debug__" : Str))=false:=by decide):Pm K E X (.Name x pos) (tC (.int i)) (cM (.int i)):=let ⟨t,h⟩:=d;⟨GW g h ⟨t,rfl⟩ f,HA λ_=>.int i⟩
def fL(h:BX K E X e te f):Pm K E X e te (λρ=>(f ρ).bind λts=>.ok (.lst ts)):=⟨h.pe,h.mf.me⟩
def oz(g:mJ X (binaryOp op) r)(h:MR K r m)(f:Pm K E X a ta fa)(d:Pm K E X b tb fb):Pm K E X (.BinOp a op b pos) (qQ r ta tb) (eP m fa fb):=⟨Fk g f.pe d.pe,zA h f.me d.me⟩
def Dl(K:W.Frag):R2:=λx y H Q=>(wH λi j=>.int (i+j)) x y H Q\/(∃i j,x=.str i/\y=.str j/\i.length+j.length<=sizeLine/\Q (.str (i++j)) H)\/Kn x y H Q\/
 ∃a b d f,x=.ref a/\y=.ref b/\H a=some (.tup d)/\H b=some (.tup f)/\d.length+f.length<=sizeLine/\(d=[]->Q (.ref b) H)/\(d≠[]->f=[]->Q (.ref a) H)/\(d≠[]->f≠[]->∀p,H p=none->Q (.ref p) (fN H p (.tup (d++f))))
def F8(A:X.K=K:=by rfl):mJ X (binaryOp .Add) (Dl K):=by
 subst A;intro j s i H x y v u Q I f d h;rcases h with h|h|h|h
 .exact Kk j s i H x y v u Q I f d h
 .exact yS j s i H x y v u Q I f d h
 .exact B8 j s i H x y v u Q I f d h
 .obtain⟨a,b,n,D,rfl,rfl,t,r,hz,z,C,S⟩:=h;by_cases g:n=[]
  .subst g;cases f;cases d;obtain⟨J,Y,B,_⟩:=I.tuple (jV.of t);obtain⟨m,r2,p2,_⟩:=I.tuple (jV.of r);cases Y;obtain⟨⟨c1,U,e1,s1⟩,w,P,R,k⟩:=id B;obtain⟨⟨c2,d2,e2,Z⟩,q,k2,L,l⟩:=id p2;subst P k k2 l;exact concat_meets ⟨_,w,rfl⟩ ⟨_,q,rfl⟩ noFill_tuple_add seq_tuple_add PySem.F.slot_tuple_add PySem.F.entry_tuple_add (PySem.F.args_tuple_add_2 _ _) (tuple_addW0 a b _ _ R L U d2 s1 Z (by simp)) ⟨w,q,⟨.ref b,H,I,rfl,z rfl⟩⟩
  .exact Ho j s i H _ _ v u Q I f d ⟨a,b,n,D,rfl,rfl,jV.of t,jV.of r,g,hz,λe=>C g e,λe p N=>S g e p N⟩
noncomputable def ig:T->T->M T
 |.int i,.int j=>.ok (.int (i+j))
 |.str i,.str j=>if i.length+j.length<=sizeLine then .ok (.str (i++j)) else .bad
 |.lst a,.lst b=>if a.length+b.length<=sizeLine then .ok (.lst (a++b)) else .bad
 |.tup a,.tup b=>if a.length+b.length<=sizeLine then .ok (.tup (a++b)) else .bad
 |_,_=>.bad
def Gi x y:M.NoE (ig x y):=λC n=>by unfold ig;split<;>first|(intro z;cases z;done)|(split<;>intro z<;>cases z)
def G7:MR K (Dl K) ig:=⟨Gi,λF H v w x y Q s r l q=>by
 cases r with
 |int i=>
  cases l with
  |int j=>exact .inl ⟨i,j,rfl,rfl,kV.now q s (.int _)⟩
  |_=>exact q.elim
 |str i=>
  cases l with
  |str j=>
   have d:(if i.length+j.length<=sizeLine then M.ok (T.str (i++j)) else M.bad).res (kV K F H Q) (λ_ _=>False):=q;by_cases h:i.length+j.length<=sizeLine
   .rw[aQ h]at d;exact .inr (.inl ⟨i,j,rfl,rfl,h,kV.now d s (.str _)⟩)
   .rw[aR h]at d;exact d.elim
  |_=>exact q.elim
 |lst h1 r1=>
  cases l with
  |lst h2 r2=>
   rename_i a n g b m f;have d:(if g.length+f.length<=sizeLine then M.ok (T.lst (g++f)) else M.bad).res (kV K F H Q) (λ_ _=>False):=q;by_cases h:g.length+f.length<=sizeLine
   .rw[aQ h]at d;refine .inr (.inr (.inl ⟨a,b,n,m,rfl,rfl,s _ _ h1,s _ _ h2,by rw[r1.length,r2.length];exact h,λp k=>?_⟩));exact d (.ref p) _ _ (.new s k) (.lst eJ ((r1.append r2).mono (Gr.new s k).ff))
   .rw[aR h]at d;exact d.elim
  |_=>exact q.elim
 |tup h1 r1=>
  cases l with
  |tup h2 r2=>
   rename_i a n g b m f;have d:(if g.length+f.length<=sizeLine then M.ok (T.tup (g++f)) else M.bad).res (kV K F H Q) (λ_ _=>False):=q;by_cases h:g.length+f.length<=sizeLine
   .rw[aQ h]at d;refine .inr (.inr (.inr ⟨a,b,n,m,rfl,rfl,s _ _ h1,s _ _ h2,by rw[r1.length,r2.length];exact h,λe=>?_,λ_ e=>?_,λ_ _ p k=>?_⟩))
    .subst e;cases r1;exact kV.now d s (.tup h2 r2)
    .subst e;cases r2;exact kV.now d s (.tup h1 (by rw[bE];exact r1))
    .exact d (.ref p) _ _ (.new s k) (.tup eJ ((r1.append r2).mono (Gr.new s k).ff))
   .rw[aR h]at d;exact d.elim
  |_=>exact q.elim
 |_=>exact q.elim⟩
def gP(f:Pm K E X a ta fa)(d:Pm K E X b tb fb)(g:X.K=K:=by rfl):Pm K E X (.BinOp a .Add b pos) (qQ (Dl K) ta tb) (eP ig fa fb):=oz (F8 g) G7 f d
@[simp] noncomputable def wC(fa fb:Pe->M T):Pe->M (List T):=λd=>(fa d).bind λx=>(fb d).bind λy=>match x,y with
 |.lst a,.lst b=>if a.length+b.length<=sizeLine then .ok (a++b) else .bad
 |_,_=>.bad
def yg(t:Pm K E X a ta fa)(r:Pm K E X b tb fb):BX K E X (.BinOp a .Add b pos) (qQ Kn ta tb) (wC fa fb):=by
 refine⟨Fk B8 t.pe r.pe,λF H I J Q s V q=>?_⟩;refine t.me.run s V q λx v N L m D u=>?_;refine r.me.run m.fh (V.mono m.ff) u λy w n C d z i=>?_;cases D with
 |lst h1 t1=>
  cases z with
  |lst h2 t2=>
   rename_i a B l b A j;have g:(if l.length+j.length<=sizeLine then M.ok (l++j) else M.bad).res (kF K F H Q) (kE E n C):=i;by_cases h:l.length+j.length<=sizeLine
   .rw[aQ h]at g;refine⟨a,b,B,A,rfl,rfl,d.fh _ _ (d.ff _ _ h1),d.fh _ _ h2,by rw[t1.length,t2.length];exact h,λp k=>?_⟩;have f:=m.trans d;exact g p _ n _ (f.trans (.new' d.fh k)) (eR f.hh k) (eR d.fh k) eJ ((t1.mono d.ff).append t2)
   .rw[aR h]at g;exact g.elim
  |_=>exact i.elim
 |_=>exact i.elim
noncomputable def tF:T->T->M T:=hZ (λ_ _=>true) λi j=>.int (i-j)
def pY(f:Pm K E X a ta fa)(d:Pm K E X b tb fb):Pm K E X (.BinOp a .Sub b pos) (qQ (wH λi j=>.int (i-j)) ta tb) (eP tF fa fb):=oz IK (nr λ_ _ _=>.int _) f d
instance {i j:Int}:Decidable (PySem.IntMulOk i j):=inferInstanceAs (Decidable (¬_))
noncomputable def kC:T->T->M T:=hZ (λi j=>decide (PySem.IntMulOk i j)) λi j=>.int (i*j)
def iu(f:Pm K E X a ta fa)(d:Pm K E X b tb fb):Pm K E X (.BinOp a .Mult b pos) (qQ (rI (λi j=>PySem.IntMulOk i j) λi j=>.int (i*j)) ta tb) (eP kC fa fb):=oz GF (p9 (λi j h=>of_decide_eq_true h) λ_ _ _=>.int _) f d
noncomputable def se:T->T->M T:=hZ (λi j=>decide (j≠0)&&!Builtin.divisionGoesByPylong i j) λi j=>.int (i.fdiv j)
def vU(f:Pm K E X a ta fa)(d:Pm K E X b tb fb):Pm K E X (.BinOp a .FloorDiv b pos) (qQ (rI (λi j=>j≠0/\Builtin.divisionGoesByPylong i j=false) λi j=>.int (i.fdiv j)) ta tb) (eP se fa fb):=oz Ct (p9 (λi j h=>by simpa using h) λ_ _ _=>.int _) f d
noncomputable def qk:T->T->M T:=hZ (λ_ j=>decide (j≠0)) λi j=>.int (i.fmod j)
def mO(f:Pm K E X a ta fa)(d:Pm K E X b tb fb):Pm K E X (.BinOp a .Mod b pos) (qQ (rI (λ_ j=>j≠0) λi j=>.int (i.fmod j)) ta tb) (eP qk fa fb):=oz Hs (p9 (λi j h=>by simpa using h) λ_ _ _=>.int _) f d
noncomputable def GY:T->T->M T:=hZ (λi j=>decide (0<=j)&&decide (j<=1000000)&&decide (i.natAbs<18446744073709551616)) λi j=>.int (i ^ j.toNat)
def Ke(f:Pm K E X a ta fa)(d:Pm K E X b tb fb):Pm K E X (.BinOp a .Pow b pos) (qQ (rI GE λi j=>.int (i ^ j.toNat)) ta tb) (eP GY fa fb):=oz Kp (p9 (λi j h=>by simp only[bL,decide_eq_true_eq]at h;exact⟨h.1.1,h.1.2,h.2⟩) λ_ _ _=>.int _) f d
def sS(d:Pm K E X a ta fa):Pm K E X (.UnaryOp .USub a pos) (MK (rU λi=>.int (-i)) ta) (BZ (λi=>.int (-i)) fa):=⟨HZ DN d.pe,Lm (λ_ _=>.int _) d.me⟩
@[simp] noncomputable def Dy(fa fb:Pe->M T):Pe->M (List T):=λd=>(fa d).bind λx=>(fb d).bind λy=>match x,y with
 |.lst a,.int k=>if BW k=true/\a.length*k.toNat<=sizeLine then .ok (List.replicate k.toNat a).flatten else .bad
 |_,_=>.bad
def JT(t:Pm K E X a ta fa)(r:Pm K E X b tb fb):BX K E X (.BinOp a .Mult b pos) (qQ LQ ta tb) (Dy fa fb):=by
 refine⟨Fk JP t.pe r.pe,λF H D I Q s V q=>?_⟩;refine t.me.run s V q λx v L J m C u=>?_;refine r.me.run m.fh (V.mono m.ff) u λy w n B d z i=>?_;cases C with
 |lst h1 t1=>
  cases z with
  |int k=>
   rename_i a A l;have g:(if BW k=true/\l.length*k.toNat<=sizeLine then M.ok (List.replicate k.toNat l).flatten else M.bad).res (kF K F H Q) (kE E n B):=i;by_cases h:BW k=true/\l.length*k.toNat<=sizeLine
   .rw[aQ h]at g;refine⟨a,k,A,rfl,rfl,d.fh _ _ (d.ff _ _ h1),by have:=rg h.1;rw[MY]at this;rw[Nm];omega,by have:=rg h.1;rw[MY]at this;rw[Nm];omega,by rw[t1.length];exact h.2,λp j=>?_⟩;have f:=m.trans d;exact g p _ n _ (f.trans (.new' d.fh j)) (eR f.hh j) (eR d.fh j) eJ ((t1.mono d.ff).rep k.toNat)
   .rw[aR h]at g;exact g.elim
  |_=>exact i.elim
 |_=>exact i.elim
def lS(h:Pm K E X e te fe)(f:∀d,isTrue e X.env d=(do let v <-d;standAt e.pos;holding [v] (truthy v)):=by intro _;rfl):Au K E X e (tB te) (gG fe):=⟨Jx h.pe f,Hw h.me⟩
section
variable {tA tD:TT}{fA fD:Pe->M Bool}{kh:List Expr}
def kg(h:Au K E X a tA fA):Au K E X (.UnaryOp .Not a pos) (JM tA) (mn fA):=⟨JL h.pt,Jt h.mt⟩
def zb(h:Kj K E X a tA fA):Au K E X a tA fA:=⟨PW.pt h.pw,h.mt⟩
def wK(h:Au K E X a tA fA):Kj K E X (.BoolOp .And [a] pos) tA fA:=⟨FY h.pt,h.mt⟩
def oI(h:Au K E X a tA fA):Kj K E X (.BoolOp .Or [a] pos) tA fA:=⟨JC h.pt,h.mt⟩
def Ak(h:Au K E X a tA fA)(h':Kj K E X (.BoolOp .And (b::kh) pos) tD fD):Kj K E X (.BoolOp .And (a::b::kh) pos) (Jm tA tD) (tq fA fD):=⟨JZ h.pt h'.pw,IJ h.mt h'.mt⟩
def sv(h:Au K E X a tA fA)(h':Kj K E X (.BoolOp .Or (b::kh) pos) tD fD):Kj K E X (.BoolOp .Or (a::b::kh) pos) (MH tA tD) (BB fA fD):=⟨KY h.pt h'.pw,LP h.mt h'.mt⟩
def yT{op}(h:Pm K E X a ta fa):Pm K E X (.BoolOp op [a] pos) ta fa:=⟨Ji h.pe,h.me⟩
def yz(h:Pm K E X a ta fa)(h':Pm K E X (.BoolOp .And (b::kh) pos) tb fb):Pm K E X (.BoolOp .And (a::b::kh) pos) (Ep ta tb) (EI fa fb):=⟨Ks h.pe h'.pe,HC h.me h'.me⟩
def yR(h:Pm K E X a ta fa):Pm K E X (.UnaryOp .Not a pos) (CV ta) (BP fa):=⟨Js h.pe,Gk h.me⟩
end
def rV(i:mJ X (compareOp op) r)(h:MR K r m)(f:Pm K E X a ta fa)(d:Pm K E X b tb fb)(g:behindInMarks op b=false:=by exact pV _):Pm K E X (.Compare a [op] [b] pos) (qQ r ta tb) (eP m fa fb):=⟨GP i f.pe d.pe g,zA h f.me d.me⟩
def kY(i:mJ X (compareOp op) r)(h:MR K r m)(f:Pm K E X a ta fa)(d:Pm K E X b tb fb)(g:behindInMarks op b=false:=by exact pV _):Au K E X (.Compare a [op] [b] pos) (xG (qQ r ta tb)) (gG (eP m fa fb)):=⟨Gb i f.pe d.pe g,Gh (zA h f.me d.me)⟩
noncomputable def L9:T->T->M T:=hZ (λ_ _=>true) λi j=>.bl (decide (i<j))
noncomputable def Mr:T->T->M T:=hZ (λ_ _=>true) λi j=>.bl (decide (i<=j))
noncomputable def Ik:T->T->M T:=hZ (λ_ _=>true) λi j=>.bl (decide (j<i))
noncomputable def KP:T->T->M T:=hZ (λ_ _=>true) λi j=>.bl (decide (j<=i))
def Ip:MR K (wH λi j=>.bl (decide (i<j))) L9:=nr λ_ _ _=>.bl _
def Ih:MR K (wH λi j=>.bl (decide (i<=j))) Mr:=nr λ_ _ _=>.bl _
def DI:MR K (wH λi j=>.bl (decide (j<i))) Ik:=nr λ_ _ _=>.bl _
def Ir:MR K (wH λi j=>.bl (decide (j<=i))) KP:=nr λ_ _ _=>.bl _
@[simp] noncomputable def MQ(m f:T->T->M T)(fa fb fc:Pe->M T):Pe->M T:=λd=>(fa d).bind λx=>(fb d).bind λy=>(m x y).bind λz=>match z with
 |.bl true=>(fc d).bind λw=>f y w
 |.bl false=>.ok (.bl false)
 |_=>.bad
def DY(t:MR K r m)(f:MR K r' m')(Y:ME K E ta fa)(S:ME K E tb fb)(B:ME K E tc fc):ME K E (yM r r' ta tb tc) (MQ m m' fa fb fc):=λF H σ ρ Q s V q=>by
 refine Y.run s V q λx v F1 H1 n r1 C=>?_;refine S.run n.fh (V.mono n.ff) C λy w P N i u L=>?_;refine t.ok P N v w x y _ i.fh (r1.mono i.ff) u (((M.res.unb L).ne (t.ne x y)).mono (λz j v3 J H3 g D=>?_) λ_ _ z=>z);have d:=(n.trans i).trans g;cases D with
 |bl k=>
  refine⟨k,rfl,?_⟩;cases k with
  |true=>rw[aQ rfl];have l:=j.mono (λ_ z=>z) λ_ _ z=>z.go g;refine B.run g.fh (V.mono d.ff) l λA U R H4 h Z I=>?_;exact f.ok R H4 w U y A Q h.fh (u.mono (g.ff.trans h.ff)) Z ((I.ne (f.ne y A)).mono (λ_ z=>z.go (d.trans h)) λ_ _ z=>z)
  |false=>rw[aR aH];exact j _ J H3 d (.bl _)
 |_=>exact j.elim
def Cy(l:mJ X (compareOp op) r)(k:MR K r m)(d:mJ X (compareOp op') r')(f:MR K r' m')(g:Pm K E X a ta fa)(h:Pm K E X b tb fb)(i:Pm K E X c tc fc)
  (j:lastMarks [op,op'] [b,c]=false:=by with_unfolding_all rfl):Pm K E X (.Compare a [op,op'] [b,c] pos) (yM r r' ta tb tc) (MQ m m' fa fb fc):=⟨B5 l d g.pe h.pe i.pe j,DY k f g.me h.me i.me⟩
mutual
noncomputable def pS:T->Bool
 |.str x=>PyData.canLay0 (.str x)
 |.lst ts=>og ts
 |.tup ts=>og ts
 |.scr _=>false
 |.obj _ _=>false
 |.emp=>false
 |.dic _=>false
 |_=>true
noncomputable def og:List T->Bool
 |[]=>true
 |t::ts=>pS t&&og ts
end
mutual
def ye:T->PyData
 |.non=>.none
 |.bl b=>.bool b
 |.int i=>.int i
 |.str x=>.str x
 |.lst ts=>.list (qJ ts)
 |.tup ts=>.tuple (qJ ts)
 |.scr _=>.none
 |.obj _ _=>.none
 |.emp=>.none
 |.dic _=>.none
def qJ:List T->List PyData
 |[]=>[]
 |t::ts=>ye t::qJ ts
end
mutual
theorem B3{F:Hp}:∀{v:V} {t:T},iq K F v t->pS t=true->DV K F v (ye t)
 |_,_,.non,_=>.non
 |_,_,.bl b,_=>.bl b
 |_,_,.int i,_=>.int i
 |_,_,.str x,_=>.str x
 |_,_,.lst h r,l=>.lst (iJ.of h) (yf r (by simpa[pS] using l))
 |_,_,.tup h r,l=>.tup (jV.of h) (yf r (by simpa[pS] using l))
 |_,_,.scr _,l=>by simp[pS]at l
 |_,_,.obj _ _,l=>by simp[pS]at l
 |_,_,.emp _,l=>by simp[pS]at l
 |_,_,.dic _ _,l=>by simp[pS]at l
theorem yf{F:Hp}:∀{vs:List V} {ts:List T},eT K F vs ts->og ts=true->wY K F vs (qJ ts)
 |_,_,.nil,_=>.nil
 |_,_,.cons h r,l=>by rw[og,bL]at l;exact .cons (B3 h l.1) (yf r l.2)
end
mutual
theorem vZ:∀t,pS t=true->(ye t).canLay0=true
 |.non,_=>rfl
 |.bl b,_=>rfl
 |.int i,_=>rfl
 |.str x,h=>by simpa[pS,ye] using h
 |.lst ts,h=>by rw[ye,PyData.canLay0];exact rq ts (by simpa[pS] using h)
 |.tup ts,h=>by rw[ye,PyData.canLay0];exact rq ts (by simpa[pS] using h)
 |.scr _,h=>by simp[pS]at h
 |.obj _ _,h=>by simp[pS]at h
 |.emp,h=>by simp[pS]at h
 |.dic _,h=>by simp[pS]at h
theorem rq:∀ts,og ts=true->PyData.canLayAll0 (qJ ts)=true
 |[],_=>rfl
 |t::ts,h=>by rw[og,bL]at h;rw[qJ,PyData.canLayAll0,vZ t h.1,rq ts h.2];rfl
end
noncomputable def AS(x y:T):Bool:=(ye x).eqv (ye y)
noncomputable def uU(b a:List T):Bool:=PyData.eqvAll (qJ b) (qJ a)
noncomputable def zM(t:T):Nat:=(ye t).depth
noncomputable def oW(ts:List T):Nat:=PyData.depthAll (qJ ts)
@[simp] theorem Mo i:zM (.int i)=0:=rfl
@[simp] theorem MZ i:zM (.bl i)=0:=rfl
@[simp] theorem L5 i:zM (.str i)=0:=rfl
@[simp] theorem L8:zM .non=0:=rfl
@[simp] theorem Mg ts:zM (.lst ts)=oW ts+1:=by unfold zM oW;rw[ye,PyData.depth]
@[simp] theorem HK ts:zM (.tup ts)=oW ts+1:=by unfold zM oW;rw[ye,PyData.depth]
@[simp] theorem LZ:oW []=0:=rfl
@[simp] theorem AV t ts:oW (t::ts)=max (zM t) (oW ts):=by unfold zM oW;rw[qJ,PyData.depthAll]
@[simp] theorem GZ i j:AS (.int i) (.int j)=(i==j):=rfl
@[simp] theorem Ms i j:AS (.str i) (.str j)=(i==j):=rfl
def zZ xs ys:AS (.lst xs) (.lst ys)=uU xs ys:=by unfold AS uU;rw[ye,ye,PyData.eqv]
def qf x xs y ys:uU (x::xs) (y::ys)=(AS x y&&uU xs ys):=by unfold AS uU;rw[qJ,qJ,PyData.eqvAll]
noncomputable def fC(neg:Bool):T->T->M T:=λx y=>if pS x&&pS y&&decide (zM x<=100) then .ok (.bl (if neg then !AS x y else AS x y)) else .bad
mutual
theorem DV.same{F H:Hp}(s:eN F H):∀{v:V} {d:PyData},DV K F v d->DV K H v d
 |_,_,.non=>.non
 |_,_,.bl b=>.bl b
 |_,_,.int i=>.int i
 |_,_,.str x=>.str x
 |_,_,.lst h r=>.lst (s.seq h) (wY.same s r)
 |_,_,.tup h r=>.tup (s.seqT h) (wY.same s r)
theorem wY.same{F H:Hp}(s:eN F H):∀{v:List V} {d:List PyData},wY K F v d->wY K H v d
 |_,_,.nil=>.nil
 |_,_,.cons h r=>.cons (DV.same s h) (wY.same s r)
end
def Hj x y:M.NoE (fC neg x y):=λC n=>by unfold fC;split<;>exact λz=>nomatch z
def AD(neg:Bool):MR K (yq K neg) (fC neg):=⟨Hj,λF H v w x y Q s b a q=>by
 unfold fC at q;by_cases h:(pS x&&pS y&&decide (zM x<=100))=true
 .rw[aQ h]at q;simp only[bL,decide_eq_true_eq]at h;refine⟨ye x,ye y,DV.same s (B3 b h.1.1),DV.same s (B3 a h.1.2),⟨vZ x h.1.1,vZ y h.1.2,by exact h.2⟩,?_⟩;exact kV.now q s (.bl _)
 .rw[aR h]at q;exact q.elim⟩
def Iq{k:Nat}(f:fP k X.A)(g:Pm K E X a ta fa)(c:Pm K E X b tb fb)(e:X.K=K:=by rfl)(d:behindInMarks .Eq b=false:=by exact pV _):Pm K E X (.Compare a [.Eq] [b] pos) (qQ (yq K false) ta tb) (eP (fC false) fa fb):=rV (e▸C8 (L7 f)) (AD false) g c d
def Lz{k:Nat}(f:fP k X.A)(g:Pm K E X a ta fa)(c:Pm K E X b tb fb)(e:X.K=K:=by rfl)(d:behindInMarks .NotEq b=false:=by exact pV _):Pm K E X (.Compare a [.NotEq] [b] pos) (qQ (yq K true) ta tb) (eP (fC true) fa fb):=rV (e▸Eu (L7 f)) (AD true) g c d
def jG{k:Nat}(f:fP k X.A)(g:Pm K E X a ta fa)(c:Pm K E X b tb fb)(e:X.K=K:=by rfl)(d:behindInMarks .Eq b=false:=by exact pV _):Au K E X (.Compare a [.Eq] [b] pos) (xG (qQ (yq K false) ta tb)) (gG (eP (fC false) fa fb)):=kY (e▸C8 (L7 f)) (AD false) g c d
def lp{k:Nat}(f:fP k X.A)(g:Pm K E X a ta fa)(c:Pm K E X b tb fb)(e:X.K=K:=by rfl)(d:behindInMarks .NotEq b=false:=by exact pV _):Au K E X (.Compare a [.NotEq] [b] pos) (xG (qQ (yq K true) ta tb)) (gG (eP (fC true) fa fb)):=kY (e▸Eu (L7 f)) (AD true) g c d
noncomputable def iH:T->Bool
 |.non=>true
 |.bl _=>true
 |.int _=>true
 |.str _=>true
 |_=>false
noncomputable def qL(x:T)(ts:List T):Bool:=ts.any λy=>AS y x
def iq.flat{F:Hp}{v:V}{x:T}(r:iq K F v x)(h:iH x=true):jy v=true:=by cases r<;>first|rfl|(simp[iH]at h;done)
theorem eT.flat{F:Hp}:∀{vs:List V} {a:List T},eT K F vs a->a.all iH=true->vs.all jy=true
 |_,_,.nil,_=>rfl
 |_,_,.cons h r,q=>by rw[bN,bL]at q ⊢;exact⟨h.flat q.1,eT.flat r q.2⟩
def KQ{F:Hp}{v w:V}{x y:T}(r:iq K F v x)(a:iq K F w y)(h:iH x=true)(h':iH y=true):Fp v w=AS x y:=by cases r<;>first|(exfalso;simp[iH]at h;done)|(cases a<;>first|(exfalso;simp[iH]at h';done)|rfl|simp[Fp])
theorem CQ{F:Hp}{v:V}{x:T}(r:iq K F v x)(h:iH x=true):∀{vs:List V} {a:List T},eT K F vs a->a.all iH=true->L6 v vs=qL x a
 |_,_,.nil,_=>rfl
 |_,_,.cons q rs,l=>by rw[bN,bL]at l;have b:=CQ r h rs l.2;unfold L6 qL at b ⊢;rw[bO,bO,b,KQ q r l.1 h]
noncomputable def yB(neg:Bool):T->T->M T:=λx y=>match y with
 |.lst ts=>if iH x&&ts.all iH then .ok (.bl (if neg then !qL x ts else qL x ts)) else .bad
 |.tup ts=>if iH x&&ts.all iH then .ok (.bl (if neg then !qL x ts else qL x ts)) else .bad
 |_=>.bad
def FU x y:M.NoE (yB neg x y):=λC n=>by unfold yB;split<;>first|(intro z;cases z;done)|(split<;>intro z<;>cases z)
def HX(neg:Bool):MR K (M6 K neg) (yB neg):=⟨FU,λF H v w x y Q s e g q=>by
 cases g with
 |lst h r=>
  rename_i a f d;have c:(if iH x&&d.all iH then M.ok (T.bl (if neg then !qL x d else qL x d)) else M.bad).res (kV K F H Q) (λ_ _=>False):=q;by_cases b:(iH x&&d.all iH)=true
  .rw[aQ b]at c;rw[bL]at b;exact⟨a,f,rfl,.inl (iJ.of (s _ _ h)),e.flat b.1,r.flat b.2,by rw[CQ e b.1 r b.2];exact kV.now c s (.bl _)⟩
  .rw[aR b]at c;exact c.elim
 |tup h r=>
  rename_i a f d;have c:(if iH x&&d.all iH then M.ok (T.bl (if neg then !qL x d else qL x d)) else M.bad).res (kV K F H Q) (λ_ _=>False):=q;by_cases b:(iH x&&d.all iH)=true
  .rw[aQ b]at c;rw[bL]at b;exact⟨a,f,rfl,.inr (jV.of (s _ _ h)),e.flat b.1,r.flat b.2,by rw[CQ e b.1 r b.2];exact kV.now c s (.bl _)⟩
  .rw[aR b]at c;exact c.elim
 |_=>exact q.elim⟩
end
end L3
namespace L3
open PySem L2 PySem.Spec PyProof.Rows
section
variable {K:W.Frag}{E:XK}{X:Cx}{a b c e o tg it:Expr}{es:List Expr}{ta tb tc te to:TE}{fa fb fc fe fo:Pe->M T}{tr:TA}{fr:Pe->M (List T)}{pos p p2 apos:Pos}
def eA:zS K E X [] qe eC:=⟨pT,yb⟩
def d9(d:Pm K E X e te fe)(f:zS K E X es tr fr)(g:starEach (e::es) X.env=(false,eval e X.env)::starEach es X.env:=by rfl):zS K E X (e::es) (lN te tr) (ee fe fr):=⟨kc d.pe f.pa g,Gy d.me f.ma⟩
def m4{x1}(h:zS K E X es tr fr):Pm K E X (.Tuple es x1 pos) (IX tr) (nB fr):=⟨DU h.pa,Jd h.ma⟩
def iB(h:zS K E X es tr fr):BX K E X (.List es pos) (J9 tr) (lstM fr):=⟨Iy h.pa,IP h.ma⟩
structure MC(K:W.Frag)(r:List V->Hp->VK->Prop)(o:List T->M T):Prop where
 ne:∀xs,M.NoE (o xs)
 ok:∀F H vs xs Q,eN F H->eT K F vs xs->(o xs).res (kV K F H Q) (λ_ _=>False)->r vs H Q
structure MW(K:W.Frag)(r:List V->Hp->VK->Prop)(o:List T->M (List T)):Prop where
 ne:∀xs,M.NoE (o xs)
 ok:∀F H vs xs Q,eN F H->eT K F vs xs->(o xs).res (kF K F H Q) (λ_ _=>False)->r vs H Q
@[simp] noncomputable def jq(o:List T->M T)(fr:Pe->M (List T)):Pe->M T:=λd=>(fr d).bind o
@[simp] noncomputable def FF(o:List T->M (List T))(fr:Pe->M (List T)):Pe->M (List T):=λd=>(fr d).bind o
def Io{o:List T->M T}(d:MC K r o)(k:MA K E tr fr):ME K E (Fq r tr) (jq o fr):=λF H n t Q s V q=>by refine k.run s V q λf i m j g l h=>?_;exact d.ok m j i f Q g.fh l ((h.ne (d.ne f)).mono (λ_ z=>z.go g) λ_ _ z=>z)
def Lw{o:List T->M (List T)}(d:MW K r o)(k:MA K E tr fr):MF K E (Fq r tr) (FF o fr):=λF H n t Q s V q=>by refine k.run s V q λf i m j g l h=>?_;exact d.ok m j i f Q g.fh l ((h.ne (d.ne f)).mono (λ_ z=>z.go g) λ_ _ z=>z)
section
variable {x:Str}{id T':String}{r:List V->Hp->VK->Prop}{m:List T->M T}{mf:List T->M (List T)}
def fq(k:i7 X (.builtin id) r)(d:MC K r m)(q:Gl X x)(l:X.mg x=none)(n:bootBuiltins x=some (.builtin id))(h:zS K E X (e::es) tr fr)(i:x≠ "__name__" :=by decide)(g:(x==("__debug__" : Str))=false:=by decide)
  (j:starEach (e::es) X.env=(false,eval e X.env)::starEach es X.env:=by rfl) (f:(backTo pos (starEach es X.env)).any (·.1)=false:=by rfl):Pm K E X (.Call (.Name x p) (e::es) [] pos) (Fq r tr) (jq m fr):=⟨xA k q l n h.pa i g j f,Io d h.ma⟩
def jB(k:i7 X (.type T') r)(d:MC K r m)(q:Gl X x)(l:X.mg x=none)(n:bootBuiltins x=some (.type T'))(h:zS K E X (e::es) tr fr)(i:x≠ "__name__" :=by decide)(g:(x==("__debug__" : Str))=false:=by decide)
  (j:starEach (e::es) X.env=(false,eval e X.env)::starEach es X.env:=by rfl) (f:(backTo pos (starEach es X.env)).any (·.1)=false:=by rfl):Pm K E X (.Call (.Name x p) (e::es) [] pos) (Fq r tr) (jq m fr):=⟨qa k q l n h.pa i g j f,Io d h.ma⟩
def nu(k:i7 X (.type T') r)(d:MW K r mf)(q:Gl X x)(l:X.mg x=none)(n:bootBuiltins x=some (.type T'))(h:zS K E X (e::es) tr fr)(i:x≠ "__name__" :=by decide)(g:(x==("__debug__" : Str))=false:=by decide)
  (j:starEach (e::es) X.env=(false,eval e X.env)::starEach es X.env:=by rfl) (f:(backTo pos (starEach es X.env)).any (·.1)=false:=by rfl):BX K E X (.Call (.Name x p) (e::es) [] pos) (Fq r tr) (FF mf fr):=⟨qa k q l n h.pa i g j f,Lw d h.ma⟩
end
@[simp] noncomputable def ji:List T->M T
 |[.lst ts]=>.ok (.int ts.length)
 |[.tup ts]=>.ok (.int ts.length)
 |[.scr ns]=>.ok (.int ns.length)
 |[.str z]=>if z.length<=sizeLine then .ok (.int z.length) else .bad
 |_=>.bad
def Hk xs:M.NoE (ji xs):=λC n=>by unfold ji;split<;>first|(intro z;cases z;done)|(split<;>first|(intro z;cases z;done)|(split<;>intro z<;>cases z))
def jo:MC K (λg H Q=>∃x n,g=[x]/\J0 K x H n/\Q (.int n) H) ji:=⟨Hk,λF H i g Q s r q=>by
 cases r with
 |nil=>exact q.elim
 |cons h t=>
  cases t with
  |cons _ _=>cases h<;>exact q.elim
  |nil=>
   cases h with
   |lst h r=>exact⟨_,_,rfl,.inl ⟨_,iJ.of (s _ _ h),rfl⟩,by rw[r.length];exact kV.now q s (.int _)⟩
   |tup h r=>exact⟨_,_,rfl,.inr ⟨_,jV.of (s _ _ h),rfl⟩,by rw[r.length];exact kV.now q s (.int _)⟩
   |scr h=>exact⟨_,_,rfl,.inl ⟨_,s.seq h,rfl⟩,by rw[ax];exact kV.now q s (.int _)⟩
   |str z=>
    have d:(if z.length<=sizeLine then M.ok (T.int z.length) else M.bad).res (kV K F H Q) (λ_ _=>False):=q;by_cases f:z.length<=sizeLine
    .rw[aQ f]at d;exact⟨_,z.length,rfl,⟨f,rfl⟩,kV.now d s (.int _)⟩
    .rw[aR f]at d;exact d.elim
   |_=>exact q.elim⟩
@[simp] noncomputable def BN:List T->M T
 |[.int i]=>.ok (.int (if i<0 then -i else i))
 |_=>.bad
def G8 xs:M.NoE (BN xs):=λC n=>by unfold BN;split<;>first|(intro z;cases z;done)|(split<;>first|(intro z;cases z;done)|(split<;>intro z<;>cases z))
def Dz:MC K (λd H Q=>∃i,d=[.int i]/\Q (.int (if i<0 then -i else i)) H) BN:=⟨G8,λF H f d Q s r q=>by
 cases r with
 |nil=>exact q.elim
 |cons h t=>
  cases t with
  |cons _ _=>cases h<;>exact q.elim
  |nil=>
   cases h with
   |int i=>exact⟨i,rfl,kV.now q s (.int _)⟩
   |_=>exact q.elim⟩
@[simp] noncomputable def jj:List T->M T
 |[.lst ts]=>.ok (.tup ts)
 |[.tup ts]=>.ok (.tup ts)
 |[.scr ns]=>.ok (.tup (ns.map T.int))
 |_=>.bad
def zd xs:M.NoE (jj xs):=λC n=>by unfold jj;split<;>first|(intro z;cases z;done)|(split<;>first|(intro z;cases z;done)|(split<;>intro z<;>cases z))
def jF:MC K (λg H Q=>∃p f,g=[.ref p]/\((iJ K H p f/\∀l,H l=none->Q (.ref l) (fN H l (.tup f)))\/(jV K H p f/\Q (.ref p) H))) jj:=⟨zd,λF H i g Q s r q=>by
 cases r with
 |nil=>exact q.elim
 |cons h t=>
  cases t with
  |cons _ _=>cases h<;>exact q.elim
  |nil=>
   cases h with
   |lst h r=>exact⟨_,_,rfl,.inl ⟨iJ.of (s _ _ h),λl d=>q (.ref l) _ _ (.new s d) (.tup eJ (r.mono (Gr.new s d).ff))⟩⟩
   |scr h=>exact⟨_,_,rfl,.inl ⟨s.seq h,λl d=>q (.ref l) _ _ (.new s d) (.tup eJ (eT.of_ints _))⟩⟩
   |tup h r=>exact⟨_,_,rfl,.inr ⟨jV.of (s _ _ h),kV.now q s (.tup h r)⟩⟩
   |_=>exact q.elim⟩
@[simp] noncomputable def mE:List T->M (List T)
 |[.lst ts]=>.ok ts
 |[.tup ts]=>.ok ts
 |[.scr ns]=>.ok (ns.map T.int)
 |_=>.bad
def Bw xs:M.NoE (mE xs):=λC n=>by unfold mE;split<;>first|(intro z;cases z;done)|(split<;>first|(intro z;cases z;done)|(split<;>intro z<;>cases z))
def px:MW K (λg H Q=>∃p f,g=[.ref p]/\(iJ K H p f\/jV K H p f)/\∀l,H l=none->Q (.ref l) (fN H l (.lst f))) mE:=⟨Bw,λF H i g Q s r q=>by
 cases r with
 |nil=>exact q.elim
 |cons h t=>
  cases t with
  |cons _ _=>cases h<;>exact q.elim
  |nil=>
   cases h with
   |lst h r=>exact⟨_,_,rfl,.inl (iJ.of (s _ _ h)),λl d=>q l _ F _ (.new' s d) d (eR s d) eJ r⟩
   |scr h=>exact⟨_,_,rfl,.inl (s.seq h),λl d=>q l _ F _ (.new' s d) d (eR s d) eJ (eT.of_ints _)⟩
   |tup h r=>exact⟨_,_,rfl,.inr (jV.of (s _ _ h)),λl d=>q l _ F _ (.new' s d) d (eR s d) eJ r⟩
   |_=>exact q.elim⟩
def jC:List T->Option (LI)
 |[]=>some []
 |.int i::ts=>(jC ts).bind λr=>some (i::r)
 |_::_=>none
theorem sI:∀{ts} {ns},jC ts=some ns->ts=ns.map T.int
 |[],_,e=>by cases e;rfl
 |t::ts,ns,e=>by
  cases t with
  |int i=>
   cases q:jC ts with
   |none=>simp[jC,q]at e
   |some r=>simp[jC,q]at e;subst e;rw[sI q];rfl
  |_=>cases e
@[simp] theorem KH ns:jC (ns.map T.int)=some ns:=by
 induction ns with
 |nil=>rfl
 |cons n ns ih=>simp[jC,ih]
def nO:List T->Option (List Bool)
 |[]=>some []
 |.bl i::ts=>(nO ts).bind λr=>some (i::r)
 |_::_=>none
theorem uh:∀{ts} {ns},nO ts=some ns->ts=ns.map T.bl
 |[],_,e=>by cases e;rfl
 |t::ts,ns,e=>by
  cases t with
  |bl i=>
   cases q:nO ts with
   |none=>simp[nO,q]at e
   |some r=>simp[nO,q]at e;subst e;rw[uh q];rfl
  |_=>cases e
@[simp] theorem LW ns:nO (ns.map T.bl)=some ns:=by
 induction ns with
 |nil=>rfl
 |cons n ns ih=>simp[nO,ih]
@[simp] noncomputable def BV:List T->M T
 |[.lst ts]=>match jC ts with
  |some ns=>.ok (.int ns.sum)
  |none=>.bad
 |_=>.bad
def FB xs:M.NoE (BV xs):=λC n=>by unfold BV;split<;>first|(intro z;cases z;done)|(split<;>first|(intro z;cases z;done)|(split<;>intro z<;>cases z))
def Dx:MC K (λg H Q=>∃(p:Addr) (d:LI),g=[.ref p]/\iJ K H p (d.map V.int)/\Q (.int d.sum) H) BV:=⟨FB,λF H j g Q s r q=>by
 cases r with
 |nil=>exact q.elim
 |cons h t=>
  cases t with
  |cons _ _=>cases h<;>exact q.elim
  |nil=>
   cases h with
   |lst h r=>
    rename_i a g i;have f:(match jC i with|some d=>M.ok (T.int d.sum)|none=>M.bad).res (kV K F H Q) (λ_ _=>False):=q;cases e:jC i with
    |none=>rw[e]at f;exact f.elim
    |some d=>rw[e]at f;rw[sI e]at r;have:=r.ints;subst this;exact⟨a,d,rfl,iJ.of (s _ _ h),kV.now f s (.int _)⟩
   |_=>exact q.elim⟩
@[simp] noncomputable def qM:List T->M T
 |[.lst ts]=>match nO ts with
  |some ns=>.ok (.bl (ns.all id))
  |none=>.bad
 |_=>.bad
def GV xs:M.NoE (qM xs):=λC n=>by unfold qM;split<;>first|(intro z;cases z;done)|(split<;>first|(intro z;cases z;done)|(split<;>intro z<;>cases z))
def rN:MC K (λf H Q=>∃(p:Addr) (bs:List Bool),f=[.ref p]/\iJ K H p (bs.map V.bl)/\Q (.bl (bs.all id)) H) qM:=⟨GV,λF H i f Q s r q=>by
 cases r with
 |nil=>exact q.elim
 |cons h t=>
  cases t with
  |cons _ _=>cases h<;>exact q.elim
  |nil=>
   cases h with
   |lst h r=>
    rename_i a f g;have d:(match nO g with|some ns=>M.ok (T.bl (ns.all id))|none=>M.bad).res (kV K F H Q) (λ_ _=>False):=q;cases e:nO g with
    |none=>rw[e]at d;exact d.elim
    |some ns=>rw[e]at d;rw[uh e]at r;have:=r.bls;subst this;exact⟨a,ns,rfl,iJ.of (s _ _ h),kV.now d s (.bl _)⟩
   |_=>exact q.elim⟩
@[simp] noncomputable def KJ:T->String
 |.non=> "NoneType"
 |.bl _=> "bool"
 |.int _=> "int"
 |.str _=> "str"
 |.tup _=> "tuple"
 |.lst _=> "list"
 |.scr _=> "script"
 |.obj _ _=> "object"
 |.emp=> "dict"
 |.dic _=> "table"
@[simp] noncomputable def Jy(n:String)(x:T):M T:=match x with
 |.scr _=>.bad
 |.obj _ _=>.bad
 |.dic _=>.bad
 |x=>.ok (.bl (KJ x==n||(n == "int" && KJ x == "bool")))
def LN(r:iq K F v x)(s:eN F H)(d:∀f,x≠.scr f)(j:∀C fs,x≠.obj C fs)(g:∀ks,x≠.dic ks):mF K H v (.type (KJ x)):=by
 cases r with
 |non=>exact .non
 |bl b=>exact .bl b
 |int i=>exact .int i
 |str x=>exact .str x
 |tup h r=>exact .tup (s _ _ h)
 |lst h r=>exact .lst (s _ _ h)
 |scr h=>exact absurd rfl (d _)
 |obj h r=>exact absurd rfl (j _ _)
 |emp h=>exact .dK (s _ _ h)
 |dic h r=>exact absurd rfl (g _)
@[simp] noncomputable def qG(n:String)(fe:Pe->M T):Pe->M T:=λd=>(fe d).bind λx=>Jy n x
theorem JG(D:∀t∈["NoneType", "bool", "int", "str", "tuple", "list", "dict"],W.kitOne K (.type t) (.type n)=some (t==n||(n == "int" && t == "bool")))(y:ME K E te fe) :
  ME K E (Fq (λu H Q=>∃x T t b,u=[x,.ty T]/\mF K H x t/\W.kitOne K t (.type T)=some b/\Q (.bl b) H) (lN te (lN (tC (.ty n)) qe))) (qG n fe):=λF H I J Q s V q=>by
 refine y.run s V q λx v B j r A f=>?_;have d:∀b,Jy n x=.ok (.bl b)->(∀i,x≠.scr i)->(∀C fs,x≠.obj C fs)->(∀h,x≠.dic h)->b=(KJ x==n||(n == "int" && KJ x == "bool"))->∃g T t b,[v,L2.V.ty n]=[g,.ty T]/\mF K j g t/\W.kitOne K t (.type T)=some b/\Q (.bl b) j:=by
  intro b e k m l w;rw[e]at f;refine⟨v,n,_,b,rfl,LN A r.fh k m l,?_,f _ B j r (.bl _)⟩;rw[w];refine D _ ?_;cases x with
  |scr i=>exact absurd rfl (k i)
  |obj C fs=>exact absurd rfl (m C fs)
  |dic h=>exact absurd rfl (l h)
  |_=>simp[KJ]
 cases x with
 |scr i=>exact f.elim
 |obj C fs=>exact f.elim
 |dic h=>exact f.elim
 |non=>exact d _ rfl (λ_ z=>nomatch z) (λ_ _ z=>nomatch z) (λ_ z=>nomatch z) rfl
 |bl _=>exact d _ rfl (λ_ z=>nomatch z) (λ_ _ z=>nomatch z) (λ_ z=>nomatch z) rfl
 |int _=>exact d _ rfl (λ_ z=>nomatch z) (λ_ _ z=>nomatch z) (λ_ z=>nomatch z) rfl
 |str _=>exact d _ rfl (λ_ z=>nomatch z) (λ_ _ z=>nomatch z) (λ_ z=>nomatch z) rfl
 |tup _=>exact d _ rfl (λ_ z=>nomatch z) (λ_ _ z=>nomatch z) (λ_ z=>nomatch z) rfl
 |lst _=>exact d _ rfl (λ_ z=>nomatch z) (λ_ _ z=>nomatch z) (λ_ z=>nomatch z) rfl
 |emp=>exact d _ rfl (λ_ z=>nomatch z) (λ_ _ z=>nomatch z) (λ_ z=>nomatch z) rfl
def GD K:∀n∈["int", "bool", "str", "tuple", "list"],∀t∈["NoneType", "bool", "int", "str", "tuple", "list", "dict"],W.kitOne K (.type t) (.type n)=some (t==n||(n == "int" && t == "bool")):=by intro n d t f;simp only[aF,cV,or_false]at d f;rcases d with rfl|rfl|rfl|rfl|rfl<;>rcases f with rfl|rfl|rfl|rfl|rfl|rfl|rfl<;>rfl
def n9 n (hn':n∈["int", "bool", "str", "tuple", "list"]) (hmi:X.mg "isinstance" = none) (hmx:X.mg x=none) (hvx:bootBuiltins x=some (.type n)) (ha:Pm K E X e te fe) (hK:X.K=K:=by rfl) (hgi:Gl X "isinstance" :=by rfl) (hgx:Gl X x:=by rfl)
  (hxn:x≠ "__name__" :=by decide) (hxd:(x==("__debug__" : Str))=false:=by decide)
  (he:starEach [e,.Name x p3] X.env=(false,eval e X.env)::starEach [.Name x p3] X.env:=by rfl) (he2:starEach [.Name x p3] X.env=(false,eval (.Name x p3) X.env)::starEach [] X.env:=by rfl) (hpl:(backTo pos (starEach [.Name x p3] X.env)).any (·.1)=false:=by rfl) :
  Pm K E X (.Call (.Name "isinstance" p) [e,.Name x p3] [] pos) (Fq (λxs H Q=>∃x T t b,xs=[x,.ty T]/\mF K H x t/\W.kitOne K t (.type T)=some b/\Q (.bl b) H) (lN te (lN (tC (.ty n)) qe))) (qG n fe):=by
 subst hK;exact⟨xA Cz hgi hmi Jc (kc ha.pe (kc (FA hgx hmx hvx rfl hxn hxd) pT he2) he) (by decide) (by decide) he hpl,JG (GD X.K n hn') ha.me⟩
@[simp] noncomputable def il:T->T->M T
 |.lst ts,.int i=>match ou ts i with
  |some t=>.ok t
  |none=>.bad
 |.tup ts,.int i=>match ou ts i with
  |some t=>.ok t
  |none=>.bad
 |.scr ns,.int i=>match ou ns i with
  |some t=>.ok (.int t)
  |none=>.bad
 |.str z,.int i=>if z.length<=sizeLine then (match ou z.cps.toList i with
  |some c=>.ok (.str ⟨#[c]⟩)
  |none=>.bad) else .bad
 |_,_=>.bad
def Ax(r:eT K F vs ts)(h:ou ts i=some t):∃v,ou vs i=some v/\iq K F v t:=by
 unfold ou at h ⊢;rw[r.length];cases e:vM ts.length i with
 |none=>rw[e]at h;cases h
 |some j=>rw[e]at h;exact r.get h
def lY(f:α->β) l i:ou (l.map f) i=(ou l i).map f:=by
 unfold ou;rw[ax];cases vM l.length i with
 |none=>rfl
 |some j=>simp
def Jl x y:M.NoE (il x y):=λC n=>by unfold il;split<;>first|(intro z;cases z;done)|(split<;>first|(intro z;cases z;done)|(split<;>intro z<;>cases z))
def LV:MR K (Mt K) il:=⟨Jl,λF H v w x y Q s f d q=>by
 unfold il at q;split at q
 .rename_i l i;rw[d.int_inv];obtain⟨a,g,rfl,h,r⟩:=f.lst_inv;split at q
  .rename_i t e;obtain⟨v,k,j⟩:=Ax r e;exact .inl ⟨a,g,i,v,rfl,rfl,iJ.of (s _ _ h),k,kV.now q s j⟩
  .exact q.elim
 .rename_i l i;rw[d.int_inv];obtain⟨a,g,rfl,h,r⟩:=f.tup_inv;split at q
  .rename_i t e;obtain⟨v,k,j⟩:=Ax r e;exact .inr (.inl ⟨a,g,i,v,rfl,rfl,jV.of (s _ _ h),k,kV.now q s j⟩)
  .exact q.elim
 .rename_i n i;rw[d.int_inv];cases f with
  |scr h=>
   split at q
   .rename_i t e;exact .inl ⟨_,_,i,.int t,rfl,rfl,s.seq h,by rw[lY,e];rfl,kV.now q s (.int _)⟩
   .exact q.elim
 .rename_i z i;rw[d.int_inv];cases f with
  |str z=>
   split at q
   .rename_i m;split at q
    .rename_i c e;exact .inr (.inr ⟨z,i,c,rfl,rfl,m,e,kV.now q s (.str _)⟩)
    .exact q.elim
   .exact q.elim
 .exact q.elim⟩
def fW(f:Pm K E X a ta fa)(d:Pm K E X b tb fb)(g:zX b:=by intro _ _;rfl)(h:X.K=K:=by rfl):Pm K E X (.Subscript a b pos) (qQ (Mt K) ta tb) (eP il fa fb):=⟨EA (h▸Kb) f.pe d.pe g,zA LV f.me d.me⟩
def mR:Ml K E X none Az (λ_=>.ok none):=⟨Hn,λF H d f Q s V q=>q F H (.refl s)⟩
@[simp] noncomputable def iZ(fe:Pe->M T):Pe->M (Option Int):=λd=>(fe d).bind λx=>match x with
 |.int i=>.ok (some i)
 |_=>.bad
def mN(h:Pm K E X e te fe):Ml K E X (some e) (HY te) (iZ fe):=⟨Gx h.pe,λF H l m Q s V q=>by
 refine h.me.run s V q λx v g j k f d=>?_;cases f with
 |int i=>exact⟨i,rfl,d g j k⟩
 |_=>exact d.elim⟩
noncomputable def mZ{f:Type}(d:List f)(g h:Oq Int):List f:=(d.drop (HT.sIx d.length 0 g)).take (HT.sIx d.length d.length h-HT.sIx d.length 0 g)
def Kw xs lo hi:EE xs lo hi=mZ xs lo hi:=rfl
def eT.cut(r:eT K F vs ts) lo hi:eT K F (mZ vs lo hi) (mZ ts lo hi):=by unfold mZ;rw[r.length];exact (r.drop _).take _
def Dc(f:α->β) l lo hi:mZ (l.map f) lo hi=(mZ l lo hi).map f:=by unfold mZ;rw[ax,cW,List.map_drop]
section
variable {lo hi:Oq Expr}{tl th:TO}{fl fh:Pe->M (Option Int)}
def MO.run{k:Oq Int->M α}{P:α->Prop}(h:MO K E t f)(s:eN F H)(v:iW K F σ ρ)(r:((f ρ).bind k).res P (kE E F H))
  (j:∀x i d,Gr F H i d->(k x).res P (kE E i d)->Q x d):t σ H Q:=
 h F H σ ρ Q s v ((M.res.unb r).mono (λx q i d g=>j x i d g (q.mono (λ_ z=>z) λ_ _ z=>z.go g)) λ_ _ z=>z)
@[simp] noncomputable def lI(fe:Pe->M T)(fl fh:Pe->M (Option Int)):Pe->M T:=λd=>(fe d).bind λx=>(fl d).bind λl=>(fh d).bind λh=>match x with
 |.tup ts=>.ok (.tup (mZ ts l h))
 |.lst ts=>.ok (.lst (mZ ts l h))
 |.scr ns=>.ok (.lst ((mZ ns l h).map T.int))
 |_=>.bad
def jT(y:Pm K E X e te fe)(z:Ml K E X lo tl fl)(w:Ml K E X hi th fh)(I:X.K=K:=by rfl):Pm K E X (.Subscript e (.Slice lo hi none p2) pos) (Ng (λx lo hi H Q=>LX K x lo hi H Q\/(KS K x lo hi H Q\/LR K x lo hi H Q)) te tl th) (lI fe fl fh):=by
 subst I;refine⟨B2 (HF.or (Ju.or F9)) y.pe z.po w.po,λF H N U Q s V q=>?_⟩;refine y.me.run s V q λx v Z Y m L B=>?_;refine z.mo.run m.fh (V.mono m.ff) B λl S R j J=>?_;refine w.mo.run j.fh ((V.mono m.ff).mono j.ff) J λu t A d k=>?_;have g:=(m.trans j).trans d;have D:=L.mono (j.ff.trans d.ff);cases D with
 |lst h r=>exact .inl ⟨_,_,rfl,iJ.of (d.fh _ _ h),λp f=>k (.ref p) _ _ (g.trans (.new d.fh f)) (.lst eJ ((r.cut l u).mono (Gr.new d.fh f).ff))⟩
 |scr h=>exact .inl ⟨_,_,rfl,d.fh.seq h,λp f=>k (.ref p) _ _ (g.trans (.new d.fh f)) (.lst eJ (by rw[Kw,Dc];exact eT.of_ints _))⟩
 |tup h r=>
  rename_i a P i;have n:(M.ok (T.tup (mZ i l u))).res (kV X.K F H Q) (kE E t A):=k;by_cases hw:HT.sIx i.length 0 l=0/\HT.sIx i.length i.length u=i.length
  .have C:mZ i l u=i:=by unfold mZ;rw[hw.1,hw.2];simp
   rw[C]at n;exact .inr (.inr ⟨_,_,rfl,jV.of (d.fh _ _ h),by rw[r.length];exact hw,n _ t A g (.tup h r)⟩)
  .exact .inr (.inl ⟨_,_,rfl,jV.of (d.fh _ _ h),by rw[r.length];exact hw,λp f=>n (.ref p) _ _ (g.trans (.new d.fh f)) (.tup eJ ((r.cut l u).mono (Gr.new d.fh f).ff))⟩)
 |_=>exact k.elim
end
section
variable {x:Str}{k:Nat}{Fn:List T->M T}{Ff:List T->M (List T)}
def eX(h:iS X.prog X.w X.K X.mg X.base x j (vt K Fn))(m:fP k X.A)(g:zS K E X (e::es) tr fr)(l:j<=k:=by decide)(n:Gl X x:=by rfl)
  (f:(x==("__debug__" : Str))=false:=by decide) (i:starEach (e::es) X.env=(false,eval e X.env)::starEach es X.env:=by rfl) (d:(backTo pos (starEach es X.env)).any (·.1)=false:=by rfl) :
  Pm K E X (.Call (.Name x p) (e::es) [] pos) (uF (vt K Fn) [] E0 tr) (eQ fr Fn):=⟨we (h.mono l) m g.pa n f i d,Fc g.ma⟩
def ny(h:iS X.prog X.w X.K X.mg X.base x j (xY K Ff))(m:fP k X.A)(g:zS K E X (e::es) tr fr)(l:j<=k:=by decide)(n:Gl X x:=by rfl)
  (f:(x==("__debug__" : Str))=false:=by decide) (i:starEach (e::es) X.env=(false,eval e X.env)::starEach es X.env:=by rfl) (d:(backTo pos (starEach es X.env)).any (·.1)=false:=by rfl) :
  BX K E X (.Call (.Name x p) (e::es) [] pos) (uF (xY K Ff) [] E0 tr) (iY fr Ff):=⟨we (h.mono l) m g.pa n f i d,Dk g.ma⟩
end
def Ld(K:W.Frag)(t:TE):TI:=λd H R=>xR K t d H R\/Kv K t d H R
@[simp] noncomputable def gI(fa:Pe->M T):Pe->M (List T):=λd=>(fa d).bind λx=>match x with
 |.lst ts=>.ok ts
 |.scr ns=>.ok (ns.map T.int)
 |.tup ts=>.ok ts
 |_=>.bad
def Kx(g:ME K E ta fa):MI K E (Ld K ta) (gI fa):=λF H f d R s V q=>by
 unfold gI at q;cases e:fa d with
 |bad=>rw[e]at q;exact q.elim
 |er C n=>rw[e]at q;exact .inl (vA g F H f d R s V (by unfold Mi;rw[e];exact q))
 |ok x=>
  rw[e]at q;cases x with
  |lst ts=>exact .inl (vA g F H f d R s V (by unfold Mi;rw[e];exact q))
  |scr ns=>exact .inl (vA g F H f d R s V (by unfold Mi;rw[e];exact q))
  |tup ts=>exact .inr (Jj g F H f d R s V (by unfold Ni;rw[e];exact q))
  |_=>exact q.elim
def fR(d:Pm K E X a ta fa)(i:X.K=K:=by rfl):B0 K E X tg a (Ld K ta) (gI fa):=by
 subst i;refine⟨λg s f H R I h=>?_,Kx d.me⟩;rcases h with h|h
 .exact vT d.pe g s f H R I h
 .exact Kf d.pe g s f H R I h
def Aj(K:W.Frag)(ta:TA):TI:=λd H R=>∃f g,Jo K f g ta d H R
@[simp] noncomputable def seqT:T->M (List T)
 |.lst ts=>.ok ts
 |.scr ns=>.ok (ns.map T.int)
 |.tup ts=>.ok ts
 |_=>.bad
@[simp] noncomputable def lG(fa:Pe->M (List T)):Pe->M (List T):=λd=>(fa d).bind λg=>match g with
 |[x,y]=>(seqT x).bind λf=>(seqT y).bind λh=>.ok (kG f h)
 |_=>.bad
noncomputable def nQ:T->Bool
 |.tup _=>true
 |_=>false
def vY x:seqT x=seqB (nQ x) x:=by cases x<;>rfl
def Gq(h:MA K E tr fr):MI K E (Aj K tr) (lG fr):=λF H g d R s V q=>by
 unfold lG at q;cases e:fr d with
 |bad=>rw[e]at q;exact q.elim
 |er C n=>rw[e]at q;exact⟨true,true,Dh h F H g d R s V (by unfold JQ;rw[e];exact q)⟩
 |ok xs=>
  rw[e]at q;match xs,e,q with
  |[],_,q=>exact q.elim
  |[_],_,q=>exact q.elim
  |[x,y],e,q=>refine⟨nQ x,nQ y,Dh h F H g d R s V ?_⟩;unfold JQ;rw[e];have f:((seqT x).bind λi=>(seqT y).bind λj=>M.ok (kG i j)).res (kI K F H R) (kE E F H):=q;rw[vY x,vY y]at f;exact f
  |_::_::_::_,_,q=>exact q.elim
def nt{x1}(i:X.mg "zip" = none)(f:zS K E X [a,b] tr fr)(l:X.K=K:=by rfl)(m:Gl X "zip" :=by rfl)(j:starEach [a,b] X.env=[(false,eval a X.env),(false,eval b X.env)]:=by rfl)
  (d:starEach [b] X.env=[(false,eval b X.env)]:=by rfl):B0 K E X (.Tuple elts x1 tpos) (.Call (.Name "zip" p) [a,b] [] pos) (Aj K tr) (lG fr):=by
 subst l;refine⟨λk s g H R I h=>?_,Gq f.ma⟩;obtain⟨n,q,h⟩:=h;exact EY m i f.pa j d k s g H R I h
def iO(h:X.mg "range" = none)(d:zS K E X [a] tr fr)(f:Gl X "range" :=by rfl)(g:starEach [a] X.env=[(false,eval a X.env)]:=by rfl):oE K E X tg (.Call (.Name "range" p) [a] [] pos) (DE tr) (iG fr):=⟨Bp f h d.pa g,Gd d.ma⟩
def oE.pim(h:oE K E X tg it w f):B0 K E X tg it w f:=⟨h.pi,h.mi.mi⟩
section
variable {x:Str}{g:TG}{gs:Fm}{m:T->Pe->Option Pe}{ms:List T->Pe->Option Pe}{mo:T->En->Option En}{mos:List T->En->Option En}{n:Nat}
def fY i (j:X.N.Nodup) (f:Bi X.env.scope x:=by first|exact Or.inl rfl|exact Or.inr rfl) (h:X.N[i]? = some x:=by rfl) (d:X.fn x=true\/X.env.scope.names.lookup x=some .local:=by first|exact .inl rfl|exact .inr rfl|assumption):KI K X (.Name x pos) (gC i) (iC i):=⟨pk j h f d,Ga⟩
def hV i (j:X.N.Nodup) (f:Bi X.env.scope x:=by first|exact Or.inl rfl|exact Or.inr rfl) (h:X.N[i]? = some x:=by rfl) (d:X.fn x=true\/X.env.scope.names.lookup x=some .local:=by first|exact .inl rfl|exact .inr rfl|assumption):Jb K X (.Name x pos) (gC i) (km i):=⟨pk j h f d,CY⟩
def jN:Hr K X [] AO mX:=⟨zE,Fw⟩
def mP:HD K X [] AO j7:=⟨zE,CC⟩
def fM(d:KI K X e g m)(f:Hr K X es gs ms)(h:(assignEach (e::es) X.env).map (·.2)=assign e X.env::(assignEach es X.env).map (·.2):=by rfl):Hr K X (e::es) (sC g gs) (f9 m ms):=⟨xU d.pg f.pg h,Dr d.mg f.mg⟩
def ie(d:Jb K X e g mo)(f:HD K X es gs mos)(h:(assignEach (e::es) X.env).map (·.2)=assign e X.env::(assignEach es X.env).map (·.2):=by rfl):HD K X (e::es) (sC g gs) (fH mo mos):=⟨xU d.pg f.pg h,A2 d.mg f.mg⟩
def my n (i:X.calm=true) (h:Hr K X es gs ms) (j:X.K=K:=by rfl) (f:(assignEach es X.env).length=n:=by rfl) (d:(assignEach es X.env).findIdx? (·.1)=none:=by rfl):KI K X (.Tuple es k pos) (Be K n gs) (mW n ms):=by subst j;exact⟨DK i h.pg f d,Kt h.mg⟩
def sE n (i:X.calm=true) (h:HD K X es gs mos) (j:X.K=K:=by rfl) (f:(assignEach es X.env).length=n:=by rfl) (d:(assignEach es X.env).findIdx? (·.1)=none:=by rfl):Jb K X (.Tuple es k pos) (Be K n gs) (j8 n mos):=by subst j;exact⟨DK i h.pg f d,Hq h.mg⟩
end
section
variable {elt iter:Expr}{ifs:List Expr}{scope:Scope}{N:List Str}{ix:List (Option Nat)}{wi:TI}{g:TG}{tt:TT}{fi:Pe->M (List T)}{m:T->Pe->Option Pe}{ft:Pe->M Bool}
def fJ:EM K E X [] Jq (λ_=>.ok true):=⟨GJ,JF⟩
def jR(h:Au K E X c t f):EM K E X [c] t f:=⟨GA h.pt,h.mt⟩
@[simp] noncomputable def iR(ix:List (Option Nat))(fi:Pe->M (List T))(m:T->Pe->Option Pe)(ft:Pe->M Bool)(fe:Pe->M T):Pe->M (List T):=λf=>(fi f).bind λd=>(if d.length<sizeLine then mT (pD m ft fe (kQ ix f)) d else .bad).noEr
def LB(n:X.calm=true)(k:B0 K E X tg iter wi fi)(L:wG X scope N ix)(j:lX ix g)
  (f:∀C d H h i,KI K (j9 X N scope C d H h i) tg g m/\EM K Fo (j9 X N scope C d H h i) ifs tt ft/\Pm K Fo (j9 X N scope C d H h i) elt te fe)
  (q:∀x,foldedSetIterable iter X.env x=pure x:=by intro _;rfl):BX K E X (.ListComp elt [⟨tg,iter,ifs,0⟩] scope pos) (Cc ix wi g tt te) (iR ix fi m ft fe):=by
 obtain⟨r,s,l⟩:=f 0 X.s₀ X.H₀ [] [];exact⟨K4 n k.pi L j (λC d H h i=>⟨(f C d H h i).1.pg,(f C d H h i).2.1.pf,(f C d H h i).2.2.pe⟩) q,Iv k.mi r.mg s.mt l.me⟩
end
end
end L3
namespace L3
open PySem L2 PySem.Spec PyProof.Rows
section
variable {K:W.Frag}{E:XK}{X:Cx}{a b c e o tg it:Expr}{es:List Expr}{ta tb tc te to:TE}{fa fb fc fe fo:Pe->M T}{tr:TA}{fr:Pe->M (List T)}{pos pos' p p2 apos:Pos}{st:Stmt}{kh:List Stmt}{t u:TS}{g g':En->O}{ff:Pe->M (List T)}{x:Str}
def fB:ly K E X [] Ap gx:=⟨vy,Hm⟩
def eE(h:uL K E X st t g):ly K E X [st] t g:=⟨ke h.ps,h.ms⟩
def eB(h:uL K E X st t g)(h':ly K E X kh u g'):ly K E X (st::kh) (uS t u) (fg g g'):=⟨jU h.ps h'.ps,JJ h.ms h'.ms⟩
def zJ:uL K E X st yH (λ_=>.bad):=⟨EV,Eb⟩
def eS(h:Pm K E X e te fe):uL K E X (.Return (some e) pos) (vE te) (gH fe):=⟨sX h.pe,Je h.me⟩
def sW(h:BX K E X e te ff):uL K E X (.Return (some e) pos) (vE te) (sR ff):=⟨sX h.pe,HM h.mf⟩
def wo i (h:PE X (.Name x p) (ja i)):uL K E X (.Return (some (.Name x p)) pos) (vE (ja i)) (oY i):=⟨sX h,Bj⟩
def f7{tc:TT}{fc:Pe->M Bool}(d:Au K E X c tc fc)(h:ly K E X A t g)(h':ly K E X B u g'):uL K E X (.If c A B pos) (GU tc t u) (ml fc g g'):=⟨CW d.pt h.ps h'.ps,La d.mt h.ms h'.ms⟩
def Ei{tc:TT}{fc:Pe->M Bool}(d:En->Nat)(i:PassesOwn (model X.prog X.w) X.A X.env X.xe)(f:Au K E X c tc fc)(h:ly K E X A t g):uL K E X (.While c A [] pos) (yc tc t) (λρ=>jY fc g (d ρ) ρ):=⟨EK i f.pt h.ps,Ea d f.mt h.ms⟩
section
variable {w:TI}{fi:Pe->M (List T)}{gt:TG}{m:T->En->Option En}{A:List Stmt}
def kW(k:PassesOwn (model X.prog X.w) X.A X.env X.xe)(i:X.calm=true)(h:B0 K E X tg it w fi)(f:Jb K X tg gt m)(d:ly K E X A t g)(j:∀x,foldedSetIterable it X.env x=pure x:=by intro _;rfl):uL K E X (.For tg it A [] pos) (qI w gt t) (qO fi m g):=⟨oq k i h.pi f.pg d.ps j,JR h.mi f.mg d.ms⟩
def Ce j (n:PE X (.Name x p) (ja j)) (s:PassesOwn (model X.prog X.w) X.A X.env X.xe) (i:X.calm=true) (f:Jb K X tg gt m) (d:ly K E X A t g) (q:X.K=K:=by rfl) (k:∀z,foldedSetIterable (.Name x p) X.env z=pure z:=by intro _;rfl):uL K E X (.For tg (.Name x p) A [] pos) (qI (xR K (ja j)) gt t) (ng j m g):=by subst q;exact⟨oq s i (vT n) f.pg d.ps k,AX (λv H R l y e h r=>⟨_,e,l,rfl,⟨_,iJ.of h⟩,r⟩) f.mg d.ms⟩
def oy(k:PassesOwn (model X.prog X.w) X.A X.env X.xe)(i:X.calm=true)(h:oE K E X tg it w fi)(f:Jb K X tg gt m)(d:ly K E X A t g)(j:∀x,foldedSetIterable it X.env x=pure x:=by intro _;rfl):uL K E X (.For tg it A [] pos) (qI w gt t) (qx fi m g):=⟨oq k i h.pi f.pg d.ps j,Gc h.mi f.mg d.ms⟩
end
def Ja i (v:X.N.Nodup) (s:Bi X.env.scope x)
  (r:X.calm=true) (n:B0 K E X tg iter wi fi) (L:wG X scope N ix) (l:lX ix gt)
  (f:∀C d H h j,KI K (j9 X N scope C d H h j) tg gt m/\EM K Fo (j9 X N scope C d H h j) ifs tt ft/\Pm K Fo (j9 X N scope C d H h j) elt te fe)
  (z:MF K E (Cc ix wi gt tt te) (iR ix fi m ft fe)->MS K E (kP (Cc ix wi gt tt te) (gC i)) gm)
  (B:X.N[i]? = some x:=by rfl) (q:X.fn x=true\/X.env.scope.names.lookup x=some .local:=by first|exact .inl rfl|exact .inr rfl)
  (k:swapsWith (.ListComp elt [⟨tg,iter,ifs,0⟩] scope pos) (some (.Name x py)) spos.line X.env=pure true:=by rfl)
  (y:∀x,foldedSetIterable iter X.env x=pure x:=by intro _;rfl):uL K E X (.Assign [.Name x py] (.ListComp elt [⟨tg,iter,ifs,0⟩] scope pos) spos) (kP (Cc ix wi gt tt te) (gC i)) gm:=by
 obtain⟨D,w,A⟩:=f 0 X.s₀ X.H₀ [] [];exact⟨E3 v B s r n.pi L l (λC d H h j=>⟨(f C d H h j).1.pg,(f C d H h j).2.1.pf,(f C d H h j).2.2.pe⟩) q k y,z (Iv n.mi D.mg w.mt A.me)⟩
def eW i (k:X.N.Nodup) (h:Pm K E X e te fe) (f:Bi X.env.scope x:=by first|exact Or.inl rfl|exact Or.inr rfl) (l:X.N[i]? = some x:=by rfl) (j:swapsWith e (some (.Name x pos')) pos.line X.env=pure false:=by rfl) (d:X.fn x=true\/X.env.scope.names.lookup x=some .local:=by first|exact .inl rfl|exact .inr rfl|assumption) :
  uL K E X (.Assign [.Name x pos'] e pos) (kP te (gC i)) (setO i (iQ fe)):=⟨mD k l f h.pe j d,zR h.me⟩
def C5 i (k:X.N.Nodup) (h:Pm K E X e te fe) (f:Bi X.env.scope x:=by first|exact Or.inl rfl|exact Or.inr rfl) (l:X.N[i]? = some x:=by rfl) (j:swapsWith e (some (.Name x pos')) pos.line X.env=pure false:=by rfl) (d:X.fn x=true\/X.env.scope.names.lookup x=some .local:=by first|exact .inl rfl|exact .inr rfl|assumption) :
  uL K E X (.Assign [.Name x pos'] e pos) (kP te (gC i)) (setO i (s9 fe)):=⟨mD k l f h.pe j d,FG h.me⟩
def kv i (k:X.N.Nodup) (h:BX K E X e te ff) (f:Bi X.env.scope x:=by first|exact Or.inl rfl|exact Or.inr rfl) (l:X.N[i]? = some x:=by rfl) (j:swapsWith e (some (.Name x pos')) pos.line X.env=pure false:=by rfl) (d:X.fn x=true\/X.env.scope.names.lookup x=some .local:=by first|exact .inl rfl|exact .inr rfl|assumption) :
  uL K E X (.Assign [.Name x pos'] e pos) (kP te (gC i)) (lK i (n5 ff)):=⟨mD k l f h.pe j d,vS h.mf⟩
def Fj i (k:X.N.Nodup) (h:BX K E X e te ff) (f:Bi X.env.scope x:=by first|exact Or.inl rfl|exact Or.inr rfl) (l:X.N[i]? = some x:=by rfl) (j:swapsWith e (some (.Name x pos')) pos.line X.env=pure false:=by rfl) (d:X.fn x=true\/X.env.scope.names.lookup x=some .local:=by first|exact .inl rfl|exact .inr rfl|assumption) :
  uL K E X (.Assign [.Name x pos'] e pos) (kP te (gC i)) (lK i (qP ff)):=⟨mD k l f h.pe j d,GR h.mf⟩
def mC(h:MF K E te ff):MS K E (kP te (gC i)) (setO i (iQ λρ=>(ff ρ).bind λts=>.ok (.lst ts))):=zR h.me
def IA(h:H l=some (.lst xs)):Mn K "list" (.ref l) H:=.inl ⟨rfl,_,iJ.of h⟩
def kL i (q:PE X (.Name x p) (ja i)) (n:Pm K E X e te fe) (m:starEach [e] X.env=(false,eval e X.env)::starEach [] X.env:=by rfl) (r:X.K=K:=by rfl)
  (f:attributeBase (.Name x p) "append" X.env (eval (.Name x p) X.env)=eval (.Name x p) X.env:=by rfl)
  (j:((backTo pos (starEach [e] X.env)).all (λx=>!x.1)&&(backToKw pos (keywordEach [] X.env)).all (λx=>x.1.isSome)&&decide (([e]:List Expr).length+([]:List Keyword).length+(if ([]:List Keyword).isEmpty then 0 else 1)<30))=true:=by rfl)
  (d:(apos.endLine==pos.line)=true:=by rfl) (hplain:(backTo pos (starEach [] X.env)).any (·.1)=false:=by rfl) (k:swapsWith (.Call (.Attribute (.Name x p) "append" apos) [e] [] pos) none pos'.line X.env=pure false:=by rfl) :
  uL K E X (.Expr (.Call (.Attribute (.Name x p) "append" apos) [e] [] pos) pos') (EW (K5 K i te)) (pH i (iQ fe)):=by
 subst r;exact⟨GB (KR PySem.F.plainAttrs_list PySem.F.slot_list_append PySem.F.type_list_append Bt q (kc n.pe pT m) f j d m hplain) k,G5 (λl s H h=>IA h) n.me⟩
def Ay i (k:PE X (.Name x p) (ja i)) (d:Pm K E X b tb fb) (h:Pm K E X e te fe)
  (l:∀v,assign (.Subscript (.Name x p) b p2) X.env v=(do
   let ov <-holding [v] (eval (.Name x p) X.env)
   let iv <-holding [v,ov] (eval b X.env)
   standAt p2
   holding [v,ov,iv] (setItem ov iv v)
   release [v,ov,iv] []):=by intro _;rfl)
  (j:swapsWithSole [.Subscript (.Name x p) b p2] e pos.line X.env=pure false:=by rfl) (hw:swappedStores [.Subscript (.Name x p) b p2] e X.env=pure none:=by rfl)
  (f:(assignEach [.Subscript (.Name x p) b p2] X.env).map (·.2)=[assign (.Subscript (.Name x p) b p2) X.env]:=by rfl) :
  uL K E X (.Assign [.Subscript (.Name x p) b p2] e pos) (kP te (J6 (ja i) tb zW)) (vk i (s9 fb) (s9 fe)):=⟨Jk h.pe (Jp k d.pe Cd l) j hw f,JV h.me d.me⟩
end
section
variable {P:Program}{w:World}{K:W.Frag}{mg:Str->Option Value}{base:Heap}{x:Str}{st:Stmt}{N ps:List Str}{k:Nat}{g:En->O}
def MU(D:eU K mg x st)(S:fK N ps (eG st))
  (j:∀(kV c l:Vq) (m:Oq Addr) (b d:Vq) (us:List Vq),us.length=ps.length->bindArgs (W.fnOf x x (gK st) (fw st) (eG st) .none kV c l m b d) ⟨us,[]⟩=pure (ps.zip us))
  (n:∀(f:Addr) (b:Vq) (A:Around) (a:List Env) (s:Sq) (H:Hp) (E:XK),fP k (A.deeper (envOfC x (eG st) s.heap.objs.size f b))->∃t,ly K E (kx nH P w K mg base N x (eG st) f b A a s H E).nox (fw st) t g) :
  iS P w K mg base x (k+1) (vt K (mm ps.length N.length g)):=
 zH D S j (λe H Q E h=>yw h) λf b A a s H e Q E i h=>let ⟨t,hp⟩:=n f b A a s H E i;⟨t,hp.ps,vJ hp.ms h⟩
def M9(D:eU K mg x st)(S:fK N ps (eG st))
  (j:∀(kV c l:Vq) (m:Oq Addr) (b d:Vq) (us:List Vq),us.length=ps.length->bindArgs (W.fnOf x x (gK st) (fw st) (eG st) .none kV c l m b d) ⟨us,[]⟩=pure (ps.zip us))
  (n:∀(f:Addr) (b:Vq) (A:Around) (a:List Env) (s:Sq) (H:Hp) (E:XK),fP k (A.deeper (envOfC x (eG st) s.heap.objs.size f b))->∃t,ly K E (kx nH P w K mg base N x (eG st) f b A a s H E).nox (fw st) t g) :
  iS P w K mg base x (k+1) (xY K (uc ps.length N.length g)):=
 zH D S j (λe H Q E h=>vW h) λf b A a s H e Q E i h=>let ⟨t,hp⟩:=n f b A a s H E i;⟨t,hp.ps,rP hp.ms h⟩
end
end L3
namespace L3
open PySem L2 PySem.Spec PyProof.Rows
section
variable {K:W.Frag}{E:XK}{X:Cx}{a b c e o tg it:Expr}{es:List Expr}{ta tb tc te to:TE}{fa fb fc fe fo:Pe->M T}{tr:TA}{fr:Pe->M (List T)}{pos p p2 apos:Pos}
@[simp] noncomputable def hW(f:Pe->M (List T)):Pe->M T:=λd=>(f d).bind λg=>.ok (.lst g)
def fZ(f:X.K=K:=by rfl):i7 X (.builtin "len") (λd H Q=>∃x n,d=[x]/\J0 K x H n/\Q (.int n) H):=f▸DZ
def t7(f:X.calm=true)(h:X.K=K:=by rfl):i7 X (.builtin "sum") (λg H Q=>∃(p:Addr) (d:LI),g=[.ref p]/\iJ K H p (d.map V.int)/\Q (.int d.sum) H):=h▸Cj f
def lQ(d:X.calm=true)(g:X.K=K:=by rfl):i7 X (.builtin "all") (λf H Q=>∃(p:Addr) (bs:List Bool),f=[.ref p]/\iJ K H p (bs.map V.bl)/\Q (.bl (bs.all id)) H):=g▸DB d
def lx(d:X.calm=true)(g:X.K=K:=by rfl):i7 X (.builtin "any") (λf H Q=>∃p vs bs,f=[.ref p]/\(iJ K H p vs\/jV K H p vs)/\jM vs=some bs/\Q (.bl (bs.any id)) H):=g▸BA d
def iw(g:X.K=K:=by rfl):i7 X (.type "tuple") (λf H Q=>∃p d,f=[.ref p]/\((iJ K H p d/\∀l,H l=none->Q (.ref l) (fN H l (.tup d)))\/(jV K H p d/\Q (.ref p) H))):=g▸tG
def l6(g:X.K=K:=by rfl):i7 X (.type "list") (λf H Q=>∃p d,f=[.ref p]/\(iJ K H p d\/jV K H p d)/\∀l,H l=none->Q (.ref l) (fN H l (.lst d))):=g▸vb
def Du(d:X.K=K:=by rfl):mJ X (compareOp .In) (M6 K false):=d▸Bv
def GN:T->Option Bool
 |.bl b=>some b
 |.int i=>some (i != 0)
 |_=>none
def nK:List T->Option (List Bool)
 |[]=>some []
 |v::vs=>(GN v).bind λb=>(nK vs).bind λr=>some (b::r)
theorem vz:∀{vs} {ts},eT K F vs ts->jM vs=nK ts
 |_,_,.nil=>rfl
 |v::vs,t::ts,.cons h r=>by
  have e:wd v=GN t:=by cases h<;>rfl
  rw[jM,nK,vz r,e]
@[simp] theorem yG(d:LI):nK (d.map T.int)=some (d.map λn=>n != 0):=by
 induction d with
 |nil=>rfl
 |cons n d ih=>simp[nK,GN,ih]
@[simp] theorem KL ns:nK (ns.map T.bl)=some ns:=by
 induction ns with
 |nil=>rfl
 |cons n ns ih=>simp[nK,GN,ih]
@[simp] noncomputable def oQ(ts:List T):M T:=match nK ts with
 |some bs=>.ok (.bl (bs.any id))
 |none=>.bad
@[simp] noncomputable def oZ:List T->M T
 |[.lst ts]=>oQ ts
 |[.tup ts]=>oQ ts
 |_=>.bad
def ED ts:M.NoE (oQ ts):=λC n=>by unfold oQ;split<;>intro z<;>cases z
def Gf xs:M.NoE (oZ xs):=λC n=>by unfold oZ;split<;>first|exact ED _ C n|(intro z;cases z)
def rC:MC K (λf H Q=>∃p vs bs,f=[.ref p]/\(iJ K H p vs\/jV K H p vs)/\jM vs=some bs/\Q (.bl (bs.any id)) H) oZ:=⟨Gf,λF H vs f Q s r q=>by
 cases r with
 |nil=>exact q.elim
 |cons h t=>
  cases t with
  |cons _ _=>cases h<;>exact q.elim
  |nil=>
   cases h with
   |lst h r=>
    rename_i a f g;have d:(oQ g).res (kV K F H Q) (λ_ _=>False):=q;unfold oQ at d;cases e:nK g with
    |none=>rw[e]at d;exact d.elim
    |some bs=>rw[e]at d;exact⟨a,f,bs,rfl,.inl (iJ.of (s _ _ h)),by rw[vz r];exact e,kV.now d s (.bl _)⟩
   |tup h r=>
    rename_i a f g;have d:(oQ g).res (kV K F H Q) (λ_ _=>False):=q;unfold oQ at d;cases e:nK g with
    |none=>rw[e]at d;exact d.elim
    |some bs=>rw[e]at d;exact⟨a,f,bs,rfl,.inr (jV.of (s _ _ h)),by rw[vz r];exact e,kV.now d s (.bl _)⟩
   |_=>exact q.elim⟩
noncomputable def nI(d:List T):List T:=(d.zipIdx).map λp=>T.tup [.int (p.2:Int),p.1]
def Cf(K:W.Frag)(ta:TA):TI:=λd H R=>∃b,Fe K b ta d H R
@[simp] noncomputable def rT(fa:Pe->M (List T)):Pe->M (List T):=λd=>(fa d).bind λg=>match g with
 |[x]=>(seqT x).bind λf=>.ok (nI f)
 |_=>.bad
def Gj{b:Bool}(d:∀H,eN F H->tj K H b l xs)(f:eT K F xs ts):tO K (MM K b l) (nI ts) F where
 go:=λi H s w=>by
  have j:i<ts.length:=by simpa[nI] using w
  have h:xs[i]? = some (xs[i]'(by rw[f.length];exact j)):=ag _;exact⟨xs,_,d H s,h⟩
 stop:=λH s=>⟨xs,d H s,by simp[nI,f.length]⟩
 yld:=λi t z H x A m k e y=>by
  obtain⟨p,u,rfl,v,rfl,h⟩:=y;obtain⟨q,r,n⟩:=f.at_ (h xs (d H (m.trans k)));have:t=.tup [.int i,q]:=by unfold nI at e;rw[aw,List.getElem?_zipIdx,r]at e;simp at e;exact e.symm
  rw[this];have g:=Gr.new (o:=.tup [.int i,u]) k v;exact⟨_,g,.tup eJ (.cons (.int _) (.cons ((n.mono m).mono g.ff) .nil))⟩
noncomputable def zr(b:Bool)(fa:Pe->M (List T)):Pe->M (List T):=λd=>(fa d).bind λg=>match g with
 |[x]=>(seqB b x).bind λf=>.ok (nI f)
 |_=>.bad
def xC{b:Bool}(m:MA K E tr fr):MI K E (Fe K b tr) (zr b fr):=λF H v y R s V q=>by
 refine m.run s V q λw u t l h r d=>?_;split at d
 .rename_i x;cases r with
  |cons a c=>
   cases c;cases f:seqB b x with
   |bad=>rw[f]at d;exact d.elim
   |er C n=>exact absurd f vK
   |ok ts=>rw[f]at d;obtain⟨j,k,rfl,g,i⟩:=q0 a f;exact⟨j,rfl,⟨k,g _ h.fh⟩,d _ t l h (Gj g i)⟩
 .exact d.elim
def He(h:MA K E tr fr):MI K E (Cf K tr) (rT fr):=λF H g d R s V q=>by
 unfold rT at q;cases e:fr d with
 |bad=>rw[e]at q;exact q.elim
 |er C n=>rw[e]at q;exact⟨true,xC h F H g d R s V (by unfold zr;rw[e];exact q)⟩
 |ok xs=>
  rw[e]at q;match xs,e,q with
  |[],_,q=>exact q.elim
  |[x],e,q=>refine⟨nQ x,xC h F H g d R s V ?_⟩;unfold zr;rw[e];have f:((seqT x).bind λi=>M.ok (nI i)).res (kI K F H R) (kE E F H):=q;rw[vY x]at f;exact f
  |_::_::_,_,q=>exact q.elim
def GQ{x1}(g:X.mg "enumerate" = none)(d:zS K E X [a] tr fr)(k:X.K=K:=by rfl)(l:Gl X "enumerate" :=by rfl)(i:starEach [a] X.env=[(false,eval a X.env)]:=by rfl) :
  B0 K E X (.Tuple elts x1 tpos) (.Call (.Name "enumerate" p) [a] [] pos) (Cf K tr) (rT fr):=by
 subst k;refine⟨λj s f H R I h=>?_,He d.ma⟩;obtain⟨b,h⟩:=h;exact E6 l g d.pa i j s f H R I h
end
structure Bs(mg:Str->Option Value):Prop where
 abs:mg "abs" = none
 isinstance:mg "isinstance" = none
 int:mg "int" = none
 bool:mg "bool" = none
 len:mg "len" = none
 range:mg "range" = none
 tuple:mg "tuple" = none
 list:mg "list" = none
 str:mg "str" = none
 all:mg "all" = none
 any:mg "any" = none
 sum:mg "sum" = none
 zip:mg "zip" = none
 max:mg "max" = none
 min:mg "min" = none
 enumerate:mg "enumerate" = none
 reversed:mg "reversed" = none
 set:mg "set" = none
 dict:mg "dict" = none
 sorted:mg "sorted" = none
def nh:bootBuiltins "list" = some (.type "list"):=by decide +kernel
end L3
namespace L3
open PySem L2
section
variable {α:Type}
theorem tX enc f:∀(l:List α),(∀a∈l,k (enc a)=.ok (some (f a)))->mT k (l.map enc)=.ok (l.map f)
 |[],_=>rfl
 |a::l,h=>by rw[bB,mT,h a (by simp),M.bind_ok,tX enc f l λb c=>h b (by simp[c])];rfl
theorem oN enc f p:∀(l:List α),(∀a∈l,k (enc a)=.ok (if p a then some (f a) else none))->mT k (l.map enc)=.ok ((l.filter p).map f)
 |[],_=>rfl
 |a::l,h=>by
  rw[bB,mT,h a (by simp),M.bind_ok,oN enc f p l λb d=>h b (by simp[d])];by_cases c:p a=true
  .simp[c]
  .simp[c]
theorem i8 enc (P:Nat->En->Prop):∀(l:List α) (k:Nat) (ρ:En),P k ρ->
  (∀i a ρ,l[i]? = some a->P (k+i) ρ->∃d c,m (enc a) ρ=some d/\(g d=.nx c\/g d=.ct c)/\P (k+i+1) c)->∃ρ',f6 m g (l.map enc) ρ=.nx ρ'/\P (k+l.length) ρ'
 |[],k,ρ,h,_=>⟨ρ,rfl,h⟩
 |a::l,k,ρ,h,st=>by
  obtain⟨d,c,o,f,p⟩:=st 0 a ρ rfl h;obtain⟨ρ',e,q⟩:=i8 enc P l (k+1) c p λi b ρ j n=>by have:=st (i+1) b ρ (by simpa using j) (by rw[show k+(i+1)=k+1+i by omega];exact n);rw[show k+1+i+1=k+(i+1)+1 by omega];exact this
  refine⟨ρ',?_,by rw[az,show k+(l.length+1)=k+1+l.length by omega];exact q⟩;rw[bB,f6,o];rcases f with f|f<;>(dsimp only;rw[f];exact e)
theorem pQ enc (P:En->Prop):∀(l:List α) (ρ:En),P ρ->
  (∀a∈l,∀ρ,P ρ->∃d c,m (enc a) ρ=some d/\(g d=.nx c\/g d=.ct c)/\P c)->∃ρ',f6 m g (l.map enc) ρ=.nx ρ'/\P ρ'
 |[],ρ,h,_=>⟨ρ,rfl,h⟩
 |a::l,ρ,h,st=>by obtain⟨d,c,k,f,n⟩:=st a (by simp) ρ h;obtain⟨ρ',e,o⟩:=pQ enc P l c n λb i ρ j=>st b (by simp[i]) ρ j;refine⟨ρ',?_,o⟩;rw[bB,f6,k];rcases f with f|f<;>(dsimp only;rw[f];exact e)
theorem n8(P:En->Prop)(μ:En->Nat)(R:En->Prop)(st:∀ρ,P ρ->(c (vw ρ)=.ok false/\R ρ)\/(c (vw ρ)=.ok true/\∃ρ2,(g ρ=.nx ρ2\/g ρ=.ct ρ2)/\P ρ2/\μ ρ2<μ ρ)) :
  ∀n ρ,P ρ->μ ρ<n->∃ρ',jY c g n ρ=.nx ρ'/\R ρ'
 |0,ρ,_,h=>absurd h (cX _)
 |n+1,ρ,hP,hn=>by
  rcases st ρ hP with⟨e,r⟩|⟨e,ρ2,e2,hP2,hm⟩
  .exact⟨ρ,by rw[jY,e];rfl,r⟩
  .obtain⟨ρ',e',r⟩:=n8 P μ R st n ρ2 hP2 (by omega);refine⟨ρ',?_,r⟩;rw[jY,e,O.of_ok,aQ rfl];rcases e2 with e2|e2<;>(rw[e2];exact e')
end
def vV{c:Type}(l:List c) enc f (j:fi ρ=.ok (l.map enc)) (e:l.length<sizeLine)
  (o:∀a∈l,∃b,m (enc a) (kQ ix ρ)=some b/\ft b=.ok true/\fe b=.ok (f a)):iR ix fi m ft fe ρ=.ok (l.map f):=by
 have h:=tX (k:=pD m ft fe (kQ ix ρ)) enc f l λa n=>by obtain⟨b,i,d,g⟩:=o a n;unfold pD;rw[i];dsimp only;rw[d,M.bind_ok,aQ rfl,g];rfl
 unfold iR;rw[j,M.bind_ok,ax,aQ e,h];rfl
theorem zf{d:Type}(l:List d) enc f p (n:fi ρ=.ok (l.map enc)) (g:l.length<sizeLine)
  (q:∀a∈l,∃b,m (enc a) (kQ ix ρ)=some b/\ft b=.ok (p a)/\(p a=true->fe b=.ok (f a))):iR ix fi m ft fe ρ=.ok ((l.filter p).map f):=by
 have h:=oN (k:=pD m ft fe (kQ ix ρ)) enc f p l λa o=>by
  obtain⟨b,j,e,i⟩:=q a o;unfold pD;rw[j];dsimp only;rw[e,M.bind_ok];cases c:p a with
  |true=>rw[aQ rfl,aQ rfl,i c];rfl
  |false=>rw[aR aH,aR aH]
 unfold iR;rw[n,M.bind_ok,ax,aQ g,h];rfl
def iX{c:Type}(l:List c) enc f (g:fi ρ=.ok (l.map enc)) (d:l.length<sizeLine)
  (h:∀a∈l,∃b,m (enc a) (kQ ix ρ)=some b/\ft b=.ok true/\fe b=.ok (f a)) (e:l.map f=ts):iR ix fi m ft fe ρ=.ok ts:=by rw[<-e];exact vV l enc f g d h
def mY{c:Type}(l:List c) enc f p (g:fi ρ=.ok (l.map enc)) (d:l.length<sizeLine)
  (h:∀a∈l,∃b,m (enc a) (kQ ix ρ)=some b/\ft b=.ok (p a)/\(p a=true->fe b=.ok (f a))) (e:(l.filter p).map f=ts):iR ix fi m ft fe ρ=.ok ts:=by rw[<-e];exact zf l enc f p g d h
def Le lo n:vo lo n=(List.range n).map λ(i:Nat)=>T.int (lo+(i:Int)):=rfl
noncomputable def tI(a:LI):T:=.tup (a.map T.int)
def vn(l:List α)(i:Int)(d:0<=i)(b:i<l.length):∃a,ou l i=some a/\a∈l:=by
 unfold ou vM;rw[aQ d,aQ b];have c:i.toNat<l.length:=by omega
 exact⟨l[i.toNat],by simp[c],aV _⟩
def jL(h:PySem.IntMulOk i j):kC (.int i) (.int j)=.ok (.int (i*j)):=by simp[kC,hZ,h]
def rO(h:j≠0)(a:Builtin.divisionGoesByPylong i j=false):se (.int i) (.int j)=.ok (.int (i.fdiv j)):=by simp[se,hZ,h,a]
def nj(h:j≠0):qk (.int i) (.int j)=.ok (.int (i.fmod j)):=by simp[qk,hZ,h]
@[simp] theorem gX i j:ig (.int i) (.int j)=.ok (.int (i+j)):=rfl
@[simp] theorem rH i j:tF (.int i) (.int j)=.ok (.int (i-j)):=rfl
@[simp] theorem Mc i j:L9 (.int i) (.int j)=.ok (.bl (decide (i<j))):=rfl
@[simp] theorem Mp i j:Mr (.int i) (.int j)=.ok (.bl (decide (i<=j))):=rfl
@[simp] theorem Mq i j:Ik (.int i) (.int j)=.ok (.bl (decide (j<i))):=rfl
@[simp] theorem HJ i j:KP (.int i) (.int j)=.ok (.bl (decide (j<=i))):=rfl
@[simp] theorem fS i j:fC false (.int i) (.int j)=.ok (.bl (i==j)):=by simp[fC,pS]
@[simp] theorem oB i j:fC true (.int i) (.int j)=.ok (.bl (!(i==j))):=by simp[fC,pS]
def BR(h:i.natAbs<2 ^ 64):PySem.IntMulOk i j:=IntMulOk.of_left (PyProof.Rows.intBits_le h)
def Bn(n:Nat)(x:Int):Prop:=x.natAbs<2 ^ n
def Bn.mono(h:Bn m x)(a:m<=n):Bn n x:=aE h (cY (by decide) a)
def Bn.mul(h:Bn m x)(h':Bn n y):Bn (m+n) (x*y):=by unfold Bn at *;rw[aY,Nat.pow_add];exact Nat.mul_lt_mul'' h h'
def Bn.add(h:Bn m x)(h':Bn n y):Bn (max m n+1) (x+y):=by have a:Bn (max m n) x:=h.mono (Nat.le_max_left _ _);have b:Bn (max m n) y:=h'.mono (Nat.le_max_right _ _);unfold Bn at *;rw[cZ];have:=c0 x y;omega
def Bn.neg(h:Bn m x):Bn m (-x):=by unfold Bn at *;rw[Int.natAbs_neg];exact h
def Bn.sub(h:Bn m x)(h':Bn n y):Bn (max m n+1) (x-y):=by rw[c5];exact h.add h'.neg
def Bn.ok(h:Bn m x)(h':Bn n y)(b:m<=2 ^ 20)(a:n<=2 ^ 20):PySem.IntMulOk x y:=IntMulOk.of_bits (aN (PyProof.Rows.intBits_le h) b) (aN (PyProof.Rows.intBits_le h') a)
def Bn.noPy(h:Bn n y)(a:n<=8000):Builtin.divisionGoesByPylong x y=false:=Cu.noPy (PyProof.Rows.intBits_le h) a
section
variable {a b g:En->O}{ρ ρ':En}{r:O}{fc:Pe->M Bool}{f:Pe->M T}{ff:Pe->M (List T)}{t:T}{ts:List T}{k n i:Nat}
def eI(c:a ρ=.nx ρ')(d:b ρ'=r):fg a b ρ=r:=by unfold fg;rw[c];exact d
def jX(c:a ρ=.rt t)(d:.rt t=r):fg a b ρ=r:=by unfold fg;rw[c];exact d
def hU(h:fc (vw ρ)=.ok true)(c:a ρ=r):ml fc a b ρ=r:=by unfold ml;rw[h];exact c
def g9(h:fc (vw ρ)=.ok false)(c:b ρ=r):ml fc a b ρ=r:=by unfold ml;rw[h];exact c
def fv(h:f (jW ρ)=.ok t)(c:ρ'=ρ.set i (some (.p t))):setO i (iQ f) ρ=.nx ρ':=by unfold setO iQ;rw[h,c];rfl
def FJ(h:f (vw ρ)=.ok t)(c:lf t=true)(d:ρ'=ρ.set i (some (.p t))):setO i (s9 f) ρ=.nx ρ':=by unfold setO s9;rw[h,d];simp[c]
def l5(h:ff (jW ρ)=.ok ts)(c:ρ'=ρ.set i (some (.o ts))):lK i (n5 ff) ρ=.nx ρ':=by unfold lK n5;rw[h,c];rfl
def FC(h:ff (vw ρ)=.ok ts)(c:A6 ts=true)(d:ρ'=ρ.set i (some (.o ts))):lK i (qP ff) ρ=.nx ρ':=by unfold lK qP;rw[h,d];simp[c]
def zw(h:ff (vw ρ)=.ok ts)(c:A6 ts=true)(d:ρ'=ρ.set i (some (.p (.lst ts)))):xq i (qP ff) ρ=.nx ρ':=by unfold xq qP;rw[h,d];simp[c]
def n6(ho:ρ[i]? = some (some (.o us)))(h:f (jW ρ)=.ok t)(hz:us.length<sizeLine)(hr:ρ'=ρ.set i (some (.o (us++[t])))):pH i (iQ f) ρ=.nx ρ':=by unfold pH iQ nJ;rw[ho,h,hr];simp[hz]
def CT(l:ρ[i]? = some (some (.o us)))(h:f (vw ρ)=.ok t)(c:lf t=true)(d:fk (vw ρ)=.ok (.int j))(e:vM us.length j=some m)(p:ρ'=ρ.set i (some (.o (us.set m t)))):vk i (s9 fk) (s9 f) ρ=.nx ρ':=by unfold vk s9 nJ;rw[l,h,d,p];simp[c,e]
def fE(h:f (vw ρ)=.ok t):gH f ρ=.rt t:=by unfold gH;rw[h];rfl
def uO(h:ff (vw ρ)=.ok ts):sR ff ρ=.rf ts:=by unfold sR;rw[h];rfl
def lr(h:fi (jW ρ)=.ok its)(c:f6 m g its ρ=r):qO fi m g ρ=r:=by unfold qO;rw[h];exact c
def nc(h:fi (vw ρ)=.ok its)(c:f6 m g its ρ=r):qx fi m g ρ=r:=by unfold qx;rw[h];exact c
def Ba(e:ρ[j]? = some (some (.o us)))(h:rJ j us (f6 m g us (ρ.set j none))=r):ng j m g ρ=r:=by unfold ng;rw[e];exact h
def gd(c:ts.length=k)(h:g (fQ n ts)=.rt t):mm k n g ts=.ok t:=by unfold mm;rw[aQ c,h];rfl
def Cv(c:ts.length=k)(h:g (fQ n ts)=.rf us):uc k n g ts=.ok us:=by unfold uc;rw[aQ c,h];rfl
end
def HB n:vo 0 n=(List.range n).map λ(i:Nat)=>T.int (i:Int):=by simp[vo]
theorem mV{c:Type} f:∀(l:List c),(∀a∈l,pS (f a)=true)->og (l.map f)=true
 |[],_=>rfl
 |a::l,h=>by rw[bB,og,h a (by simp),mV f l λb d=>h b (by simp[d])];rfl
theorem mM{c:Type} f n:∀(l:List c),(∀a∈l,zM (f a)<=n)->oW (l.map f)<=n
 |[],_=>bD _
 |a::l,h=>by rw[bB,AV];have e:=h a (by simp);have g:=mM f n l λb d=>h b (by simp[d]);omega
@[simp] theorem KM(a:LI):og (a.map T.int)=true:=mV _ _ λ_ _=>rfl
def uq(a:LI):oW (a.map T.int)<=0:=mM _ _ _ λ_ _=>aK _
@[simp] theorem JA ns:pS (tI ns)=true:=by simp[tI,pS]
def IS ns:zM (tI ns)<=1:=by unfold tI;rw[HK];have:=uq ns;omega
@[simp] theorem KZ(l:LL):og (l.map tI)=true:=mV _ _ λ_ _=>JA _
def xS(l:LL):oW (l.map tI)<=1:=mM _ _ _ λ_ _=>IS _
@[simp] theorem CK l:uU l []=l.isEmpty:=by cases l<;>rfl
theorem wJ{d:Type} f (c:∀a b,AS (f a) (f b)=true↔a=b):∀(l m:List d),uU (l.map f) (m.map f)=true↔l=m
 |[],[]=>by simp[qf]
 |[],b::m=>⟨λz=>(nomatch (show false=true from z)),λz=>nomatch z⟩
 |a::l,[]=>by simp[qf]
 |a::l,b::m=>by rw[bB,bB,qf,bL,c a b,wJ f c l m];simp
def BI(l m:LI):uU (l.map T.int) (m.map T.int)=decide (l=m):=by
 have h:=wJ T.int (λa b=>by simp) l m;by_cases e:l=m
 .rw[aC e];exact h.mpr e
 .rw[aB e];cases c:uU (l.map T.int) (m.map T.int) with
  |false=>rfl
  |true=>exact absurd (h.mp c) e
def EH neg (l m:LI):fC neg (.lst (l.map T.int)) (.lst (m.map T.int))=.ok (.bl (if neg then !decide (l=m) else decide (l=m))):=by have h:=uq l;unfold fC;rw[aQ (by simp[pS];omega),zZ,BI]
def qU neg ts (h:og ts=true) (a:oW ts<=90):fC neg (.lst ts) (.lst [])=.ok (.bl (if neg then !ts.isEmpty else ts.isEmpty)):=by unfold fC;rw[aQ (by simp[pS,h,og];omega),zZ,CK]
def E5{a b:Type} f (g:b->T) (l:List a) m:kG (l.map f) (m.map g)=(l.zip m).map λp=>T.tup [f p.1,g p.2]:=by unfold kG;rw[List.zip_map,aI];rfl
theorem zK{c:Type} f:∀(l:List c),(∀a∈l,lf (f a)=true)->A6 (l.map f)=true
 |[],_=>rfl
 |a::l,h=>by rw[bB,A6,h a (by simp),zK f l λb d=>h b (by simp[d])];rfl
@[simp] theorem pB(a:LI):A6 (a.map T.int)=true:=zK _ _ λ_ _=>rfl
@[simp] theorem L1 ns:lf (tI ns)=true:=by simp[tI]
section
variable {α:Type}{fe fd fl:Pe->M T}{ρ:Pe}{ts:List T}{d k:Nat}
def t8(l:List α)(d:Nat):mZ l none (some (d:Int))=l.take d:=by
 unfold mZ;rw[HT.sIx_none,HT.sIx_nat,List.drop_zero,Nat.sub_zero];by_cases h:d<=l.length
 .rw[Nat.min_eq_left h]
 .rw[Nat.min_eq_right (by omega),cu (aK _),cu (by omega)]
def Br(l:List α)(d:Nat):mZ l (some (d:Int)) none=l.drop d:=by
 unfold mZ;rw[HT.sIx_none,HT.sIx_nat];by_cases h:d<=l.length
 .rw[Nat.min_eq_left h,cu (by simp)]
 .rw[Nat.min_eq_right (by omega),c6 (aK _),c6 (by omega),List.take_nil]
def sr(h:fe ρ=.ok (.tup ts))(a:fd ρ=.ok (.int (d:Int)))(b:d<=ts.length):lI fe (λ_=>.ok none) (iZ fd) ρ=.ok (.tup (ts.take d)):=by simp only[lI,iZ,h,a,M.bind_ok,t8]
def Bm(h:fe ρ=.ok (.lst ts))(a:fd ρ=.ok (.int (d:Int))):lI fe (λ_=>.ok none) (iZ fd) ρ=.ok (.lst (ts.take d)):=by simp only[lI,iZ,h,a,M.bind_ok,t8]
def pW(h:fe ρ=.ok (.lst ts))(a:fd ρ=.ok (.int (d:Int))):lI fe (iZ fd) (λ_=>.ok none) ρ=.ok (.lst (ts.drop d)):=by simp only[lI,iZ,h,a,M.bind_ok,Br]
def pF(h:lc ρ=.ok ts)(a:o [.lst ts]=r):jq o (ee (hW lc) eC) ρ=r:=by simp only[jq,ee,eC,hW,h,M.bind_ok];exact a
def lh(h:f ρ=.ok t)(a:o [t]=r):jq o (ee f eC) ρ=r:=by simp only[jq,ee,eC,h,M.bind_ok];exact a
def gB(h:lc ρ=.ok ts):hW lc ρ=.ok (.lst ts):=by simp only[hW,h,M.bind_ok]
def C6(h:fe ρ=.ok (.tup ts)):gI fe ρ=.ok ts:=by simp only[gI,h,M.bind_ok]
def sh(h:fe ρ=.ok (.lst ts)):gI fe ρ=.ok ts:=by simp only[gI,h,M.bind_ok]
def fG(h:fe ρ=.ok (.bl b)):gG fe ρ=.ok b:=by simp only[gG,h,M.bind_ok]
def sj(h:fc ρ=.ok b)(a:(!b)=r):L3.mn fc ρ=.ok r:=by simp only[L3.mn,h,M.bind_ok,a]
def eK(b:fa ρ=.ok x)(a:fb ρ=.ok y)(c:o x y=r):eP o fa fb ρ=r:=by simp only[eP,b,a,M.bind_ok];exact c
def qs(h:f ρ=.ok x)(a:F [x]=.ok t):eQ (ee f eC) F ρ=.ok t:=by simp only[eQ,ee,eC,h,a,M.bind_ok];rfl
def l9(h:f ρ=.ok x)(a:g ρ=.ok y)(b:F [x,y]=.ok t):eQ (ee f (ee g eC)) F ρ=.ok t:=by simp only[eQ,ee,eC,h,a,b,M.bind_ok];rfl
def kJ{f g k:Pe->M T}(h:f ρ=.ok x)(a:g ρ=.ok y)(b:k ρ=.ok z)(c:F [x,y,z]=.ok t):eQ (ee f (ee g (ee k eC))) F ρ=.ok t:=by simp only[eQ,ee,eC,h,a,b,c,M.bind_ok];rfl
def Ln{f g k l:Pe->M T}(h:f ρ=.ok x)(b:g ρ=.ok y)(c:k ρ=.ok z)(a:l ρ=.ok u)(e:F [x,y,z,u]=.ok t):eQ (ee f (ee g (ee k (ee l eC)))) F ρ=.ok t:=by simp only[eQ,ee,eC,h,b,c,a,e,M.bind_ok];rfl
end
section
variable {ρ:Pe}{ts:List T}{F:List T->M (List T)}{f g k l:Pe->M T}{x y z u:T}
def vP(h:f ρ=.ok x)(a:F [x]=.ok ts):iY (ee f eC) F ρ=.ok ts:=by simp only[iY,ee,eC,h,a,M.bind_ok];rfl
def IQ(h:f ρ=.ok x)(a:g ρ=.ok y)(b:F [x,y]=.ok ts):iY (ee f (ee g eC)) F ρ=.ok ts:=by simp only[iY,ee,eC,h,a,b,M.bind_ok];rfl
def IM(h:f ρ=.ok x)(b:g ρ=.ok y)(a:k ρ=.ok z)(c:F [x,y,z]=.ok ts):iY (ee f (ee g (ee k eC))) F ρ=.ok ts:=by simp only[iY,ee,eC,h,b,a,c,M.bind_ok];rfl
end
def vq{a b:Type}{l:List a}{m:List b}{f:a->T}{g:b->T}(h:fa ρ=.ok x)(d:seqT x=.ok (l.map f))(c:fb ρ=.ok y)(e:seqT y=.ok (m.map g)) :
  lG (ee fa (ee fb eC)) ρ=.ok ((l.zip m).map λp=>T.tup [f p.1,g p.2]):=by
 rw[<-E5];simp only[lG,ee,eC,h,c,M.bind_ok,d,e]
end L3
namespace L3
open PySem L2 PySem.Spec PyProof.Rows
section
variable {K:W.Frag}{E:XK}{X:Cx}{a b c e o tg it:Expr}{es:List Expr}{ta tb tc te to:TE}{fa fb fc fe fo:Pe->M T}{tr:TA}{fr:Pe->M (List T)}{pos p p2 apos:Pos}
noncomputable def Gp:T->T->M T:=hZ (λi j=>decide (0<=j)&&decide (j<=1000000)&&decide (i.natAbs<18446744073709551616)) λi j=>.int (i*2 ^ j.toNat)
def IR(f:Pm K E X a ta fa)(d:Pm K E X b tb fb):Pm K E X (.BinOp a .LShift b pos) (qQ (rI GE λi j=>.int (i*2 ^ j.toNat)) ta tb) (eP Gp fa fb):=oz JE (p9 (λi j h=>by simp only[bL,decide_eq_true_eq]at h;exact⟨h.1.1,h.1.2,h.2⟩) λ_ _ _=>.int _) f d
noncomputable def Dp:T->T->M T:=hZ (λ_ j=>decide (0<=j)) λi j=>.int (i / 2 ^ j.toNat)
def JN(f:Pm K E X a ta fa)(d:Pm K E X b tb fb):Pm K E X (.BinOp a .RShift b pos) (qQ (rI (λ_ j=>0<=j) λi j=>.int (i / 2 ^ j.toNat)) ta tb) (eP Dp fa fb):=oz Kg (p9 (λi j h=>by simpa using h) λ_ _ _=>.int _) f d
noncomputable def wm:T->T->M T:=hZ (λ_ _=>true) λi j=>.int (Builtin.bitAnd i j)
def FZ(f:Pm K E X a ta fa)(d:Pm K E X b tb fb):Pm K E X (.BinOp a .BitAnd b pos) (qQ (wH λi j=>.int (Builtin.bitAnd i j)) ta tb) (eP wm fa fb):=oz Kd (nr λ_ _ _=>.int _) f d
end
def Da(K:W.Frag):Sp:=λd H Q _=>∃(a:Addr) (b:LI),d=[.ref a]/\iJ K H a (b.map V.int)/\b.length<=63/\(∀z∈b,Builtin.Int.intBits z<=2 ^ 20)/\∀c,Q (.bl true) c
def CI{K:W.Frag}(h:∀b:LI,b.length<=63->(∀z∈b,Builtin.Int.intBits z<=2 ^ 20)->F [.scr b]=.ok (.bl true)) vs H Q E (z:Da K vs H Q E):vt K F vs H Q E:=by obtain⟨a,b,rfl,f,e,c,d⟩:=z;refine⟨[.scr b],H,.refl _,.cons (.scr f) .nil,?_⟩;rw[h b e c];intro v i j g r;cases r;exact d _
def My{K:W.Frag}{st:Stmt}(F:Fu K x x st f fd)(S:fK N ps (eG st))
  (c:∀(f:Addr) (b:Vq) (A:Around) (a:List Env) (s:Sq) (H:Hp) (E:XK),fP k (A.deeper (envOfC x (eG st) s.heap.objs.size f b))->∃t,ly K E (kx nH P w K mg base N x (eG st) f b A a s H E).nox (fw st) t g) :
  ku P w K mg base nH (k+1) f fd ps (vt K (mm ps.length N.length g)):=
 F.ok S (λd H Q E h=>yw h) λb A a s H d Q E e h=>let ⟨t,hp⟩:=c f b A a s H E e;⟨t,hp.ps,vJ hp.ms h⟩
end L3
namespace L3
open PySem L2 PySem.Spec PyProof.Rows
section
variable {K:W.Frag}{E:XK}{t:TE}{f:Pe->M T}
def kO(K:W.Frag)(F H:Hp)(x:Addr)(Q:VK)(t:T):Prop:=∀b c,eN F b->eN b c->(∀a o,a≠x->H a=some o->BY o (c a))->(∀a,b a≠none->F a≠none\/H a=none\/a=x\/∃d,H a=some (.tup d))->iq K b (.ref x) t->Q .non c
noncomputable def yF(K:W.Frag)(C:Addr)(d:List T->M T):Sp:=λg H Q _=>∃x e c b a,g=.ref x::c/\H x=some (.ins C e [])/\a x=none/\eN a H/\eT K a c b/\(d b).noEr.res (kO K a H x Q) (λ_ _=>False)
def CA{D:Pe->M (List T)}(U:MA K E tr D):ME K E (zC C (yF K C Fn) [] E' tr) (eQ D Fn):=λF H σ ρ Q s V q=>by
 refine U.run s V q λI N Y B g X i=>?_;intro x l j v A;have u:fN B l (.own x) x=none:=by rw[eM (λz=>A z.symm)];exact j
 have m:eN B (fN (fN B l (.own x)) x (.ins C l [])):=(p0 v).trans (p0 u);refine⟨x,l,N,I,Y,by rw[bE],eJ,eR g.fh j,g.fh.trans m,X,?_⟩;cases e:Fn I with
 |bad=>rw[e]at i;exact i.elim
 |er C n=>rw[e]at i;exact i.elim
 |ok t=>
  rw[e]at i;intro R Z a b c d r;refine⟨rfl,i (.ref x) R Z ⟨g.ff.trans a,b,λp o h=>?_,λp S=>?_⟩ r⟩
  .have J:=g.hh p o h;have w:p≠x:=rK J j;exact Il (g.hh.trans m p o h) λL e=>c p L w e
  .rcases d p S with z|z|z|⟨P,z⟩
   .exact g.nw p z
   .exact .inr (.inl (eR g.hh (eR m z)))
   .rw[z];exact .inr (.inl (eR g.hh j))
   .cases y:H p with
    |none=>exact .inr (.inl rfl)
    |some o=>exact .inr (.inr ⟨P,by have k:=g.hh.trans m p o y;rw[z]at k;rw[uz k λ_ _ y=>nomatch y]⟩)
noncomputable def tY(C:Addr)(n:Nat)(e d:Str)(h g:Pe->M T):List T->M T:=λc=>if c.length=n then (h (none::c.map some)).bind λa=>(g (none::c.map some)).bind λb=>.ok (.obj C [(e,a),(d,b)]) else .bad
structure M5(K:W.Frag)(E:XK)(X:Cx)(body:List Stmt)(f1 f2:Str)(g1 g2:Pe->M T):Prop where
 ex:∃(t1 t2:TE),v9 X body (uS (ID K (ja 0) t1 f1) (ID K (ja 0) t2 f2))/\ME K E t1 g1/\ME K E t2 g2
def M7(h:X.K=K)(a:PE X o1 (ja 0))(e:Pm K E X a1 t1 g1)(c:PE X o2 (ja 0))(g:Pm K E X a2 t2 g2)
  (b:swapsWith a1 (some (.Attribute o1 f1 p1)) q1.line X.env=pure false:=by rfl) (d:swapsWith a2 (some (.Attribute o2 f2 p2)) q2.line X.env=pure false:=by rfl) :
  M5 K E X [.Assign [.Attribute o1 f1 p1] a1 q1,.Assign [.Attribute o2 f2 p2] a2 q2] f1 f2 g1 g2:=by
 subst h;exact⟨t1,t2,jU (C7 a e.pe b) (ke (C7 c g.pe d)),e.me,g.me⟩
theorem JY{st:Stmt}(cl:uj K C)(n1:jb K C f1)(n2:jb K C f2)(ne:f1≠f2)(D:jr K C "__init__" qual st)(S:fK N N (eG st))
  (mk:W.makesIn K C=true) (kp:W.keepIn K (.ref C)=true) (hm:mg x=some (.ref C)) (hN:N.length=n+1)
  (hb:∀(kV doc pm:Vq) (an:Oq Addr) (j ct:Vq) (us:List Vq),us.length=N.length->bindArgs (W.fnOf "__init__" qual (gK st) (fw st) (eG st) .none kV doc pm an j ct) ⟨us,[]⟩=pure (N.zip us))
  (hT:∀(f:Addr) (j:Vq) (A:Around) (g:List Env) (s:Sq) (H:Hp) (E:XK),fP k (A.deeper (envOfC qual (eG st) s.heap.objs.size f j))->M5 K E (kx nH P w K mg base N qual (eG st) f j A g s H E).nox (fw st) f1 f2 g1 g2) :
  BG P w K mg base x C (k+1) (yF K C (tY C n f1 f2 g1 g2)):=by
 obtain⟨fi,fd,F,Mm⟩:=D.ex;refine⟨⟨fi,fd,N,F.ok S (λvs H Q E h=>?_) (λj A g s H vs Q E hr h=>?_),⟨mk,Mm.at_,Mm.fn,kp⟩,F.binds hb⟩,hm⟩
 .obtain⟨x,B,us,u,F0,rfl,X,fx,s,r,q⟩:=h;unfold tY at q;by_cases J:u.length=n
  .rw[az,r.length,J,hN]
  .rw[aR J]at q;exact q.elim
 .obtain⟨x,B,us,u,F0,rfl,X,fx,s0,r,q⟩:=h;obtain⟨t1,t2,ps,m1,m2⟩:=(hT fi j A g s H E hr).ex;refine⟨_,ps,?_⟩;unfold tY at q;by_cases J:u.length=n
  .rw[aQ J]at q;have V:iW K F0 (iM N (.ref x::us)) (none::u.map some):=λi t e=>by
    cases i with
    |zero=>cases e
    |succ i=>
     rw[List.getElem?_cons_succ,aw]at e;cases hq:u[i]? with
     |none=>rw[hq]at e;cases e
     |some y=>rw[hq]at e;cases e;obtain⟨v,a,b⟩:=r.get hq;refine⟨v,?_,b⟩;unfold L2.iM;rw[List.getElem?_append_left (by rw[ax,az];exact Nat.succ_lt_succ (aa.mp a).1),aw,List.getElem?_cons_succ,a];rfl
   cases U:g1 (none::u.map some) with
   |bad=>rw[U]at q;exact q.elim
   |er C n=>rw[U]at q;exact q.elim
   |ok a=>
    rw[U,L3.M.bind_ok]at q;cases Y:g2 (none::u.map some) with
    |bad=>rw[Y]at q;exact q.elim
    |er C n=>rw[Y]at q;exact q.elim
    |ok b=>
     rw[Y,L3.M.bind_ok]at q;refine m1 F0 H _ _ _ s0 V ?_;rw[U];intro v Z H1 c r1;have hx1:=c.hh _ _ X;have I:Z x=none:=by
      cases z:Z x with
      |none=>rfl
      |some o=>
       rcases c.nw x (by rw[z];exact λy=>nomatch y) with y|y|⟨_,y⟩
       .exact absurd fx y
       .rw[X]at y;cases y
       .rw[X]at y;cases y
     refine⟨.ref x,rfl,x,C,B,[],rfl,hx1,cl,n1,by decide,?_⟩;have s1:eN Z (fN H1 x (.ins C B (mh f1 v []))):=λp o h=>by
      have l:p≠x:=λz=>by rw[z,I]at h;cases h
      rw[eM l];exact c.fh p o h
     refine m2 Z _ _ _ _ s1 (V.mono c.ff) ?_;rw[Y];intro R L H3 d r2;have hx3:=d.hh x _ eJ;have fx2:L x=none:=by
      cases z:L x with
      |none=>rfl
      |some o=>
       rcases d.nw x (by rw[z];exact λy=>nomatch y) with y|y|⟨_,y⟩
       .exact absurd I y
       .rw[eJ]at y;cases y
       .rw[eJ]at y;cases y
     refine⟨.ref x,rfl,x,C,B,_,rfl,hx3,cl,n2,by show 1<1000;decide,?_⟩;have ep:mh f2 R (mh f1 v [])=[(f1,v),(f2,R)]:=by show (if f1=f2 then _ else _)=_;rw[aR ne];rfl
     have sF:eN L (fN L x (.ins C B [(f1,v),(f2,R)])):=p0 fx2;refine q (fN L x (.ins C B [(f1,v),(f2,R)])) _ ((c.ff.trans d.ff).trans sF) (λp o h=>?_) (λp o l h=>?_) (λp l=>?_) (.obj eJ (.cons (r1.mono (d.ff.trans sF)) (.cons (r2.mono sF) .nil)))
     .by_cases l:p=x
      .subst l;rw[eJ]at h;rw[eJ,ep];exact .of h
      .rw[eM l]at h ⊢;exact d.fh p o h
     .rw[eM l];exact Il (c.hh p o h) λo' e=>d.hh p o' (by rw[eM l];exact e)
     .by_cases m:p=x
      .exact .inr (.inr (.inl m))
      .rw[eM m]at l;rcases d.nw p l with z|z|⟨xs,z⟩
       .rcases c.nw p z with y|y|y
        .exact .inl y
        .exact .inr (.inl y)
        .exact .inr (.inr (.inr y))
       .rw[eM m]at z;exact .inr (.inl (eR c.hh z))
       .rw[eM m]at z;cases y:H p with
        |none=>exact .inr (.inl rfl)
        |some o=>exact .inr (.inr (.inr ⟨xs,by have k:=c.hh p o y;rw[z]at k;rw[uz k λ_ _ y=>nomatch y]⟩))
  .rw[aR J]at q;exact q.elim
end
section
variable {X:Cx}{K:W.Frag}{E:XK}{x m:Str}{C:Addr}{k:Nat}{Fn:List T->M T}{Ff:List T->M (List T)}{e o:Expr}{es:List Expr}{tr:TA}{fr:Pe->M (List T)}{ta:TE}{fa:Pe->M T}{p pos apos:Pos}
def K9(h:BG X.prog X.w X.K X.mg X.base x C j (yF K C Fn))(g:fP k X.A)(c:zS K E X (e::es) tr fr)(f:j+1<=k:=by decide)(i:Gl X x:=by rfl)
  (b:(x==("__debug__" : Str))=false:=by decide) (d:starEach (e::es) X.env=(false,eval e X.env)::starEach es X.env:=by rfl) (a:(backTo pos (starEach es X.env)).any (·.1)=false:=by rfl) :
  Pm K E X (.Call (.Name x p) (e::es) [] pos) (zC C (yF K C Fn) [] E0 tr) (eQ fr Fn):=⟨Lg h (g.mono f) c.pa i b d a,CA c.ma⟩
def Ka(h:jZ X.prog X.w X.K X.mg X.base C m j (vt K Fn))(c:fP k X.A)(a:Pm K E X o ta fa)(b:j<=k:=by decide)
  (d:eval (.Call (.Attribute o m apos) [] [] pos) X.env=(do
   let ov <-eval o X.env
   standAt apos.atName
   let (f,first) <-holding [ov] (getMethod ov m pl)
   callWith pos f first (backTo pos (starEach [] X.env)) (backToKw pos (keywordEach [] X.env))):=by rfl) :
  Pm K E X (.Call (.Attribute o m apos) [] [] pos) (uM C m (vt K Fn) [] E0 ta qe) (xM C m fa eC Fn):=⟨B1 h (c.mono b) a.pe d,Cm a.me yb⟩
def J7(h:jZ X.prog X.w X.K X.mg X.base C m j (xY K Ff))(c:fP k X.A)(a:Pm K E X o ta fa)(b:j<=k:=by decide)
  (d:eval (.Call (.Attribute o m apos) [] [] pos) X.env=(do
   let ov <-eval o X.env
   standAt apos.atName
   let (f,first) <-holding [ov] (getMethod ov m pl)
   callWith pos f first (backTo pos (starEach [] X.env)) (backToKw pos (keywordEach [] X.env))):=by rfl) :
  BX K E X (.Call (.Attribute o m apos) [] [] pos) (uM C m (xY K Ff) [] E0 ta qe) (r0 C m fa eC Ff):=⟨B1 h (c.mono b) a.pe d,Ec a.me yb⟩
def B6(d:X.K=K)(c:uj K C)(b:jb K C f)(h:Pm K E X e ta fa)(a:attributeBase e f X.env (eval e X.env)=eval e X.env:=by rfl):Pm K E X (.Attribute e f pos) (Ki X.K ta f) (yt C f fa):=by subst d;exact⟨JO h.pe a,IE c b h.me⟩
end
section
variable {P:Program}{w:World}{K:W.Frag}{mg:Str->Option Value}{base:Heap}{C:Addr}{m qual:Str}{st:Stmt}{N ps:List Str}{k:Nat}{g:En->O}
def Lr(e:uj K C)(D:jr K C m qual st)(S:fK N ps (eG st))
  (l:∀(kV c n:Vq) (o:Oq Addr) (b d:Vq) (us:List Vq),us.length=ps.length->bindArgs (W.fnOf m qual (gK st) (fw st) (eG st) .none kV c n o b d) ⟨us,[]⟩=pure (ps.zip us))
  (p:∀(f:Addr) (b:Vq) (A:Around) (a:List Env) (s:Sq) (H:Hp) (E:XK),fP k (A.deeper (envOfC qual (eG st) s.heap.objs.size f b))->∃t,ly K E (kx nH P w K mg base N qual (eG st) f b A a s H E).nox (fw st) t g) :
  jZ P w K mg base C m (k+1) (vt K (mm ps.length N.length g)):=
 zF e D S l (λi H Q E h=>yw h) λf b A a s H i Q E j h=>let ⟨t,hp⟩:=p f b A a s H E j;⟨t,hp.ps,vJ hp.ms h⟩
def Lx(e:uj K C)(D:jr K C m qual st)(S:fK N ps (eG st))
  (l:∀(kV c n:Vq) (o:Oq Addr) (b d:Vq) (us:List Vq),us.length=ps.length->bindArgs (W.fnOf m qual (gK st) (fw st) (eG st) .none kV c n o b d) ⟨us,[]⟩=pure (ps.zip us))
  (p:∀(f:Addr) (b:Vq) (A:Around) (a:List Env) (s:Sq) (H:Hp) (E:XK),fP k (A.deeper (envOfC qual (eG st) s.heap.objs.size f b))->∃t,ly K E (kx nH P w K mg base N qual (eG st) f b A a s H E).nox (fw st) t g) :
  jZ P w K mg base C m (k+1) (xY K (uc ps.length N.length g)):=
 zF e D S l (λi H Q E h=>vW h) λf b A a s H i Q E j h=>let ⟨t,hp⟩:=p f b A a s H E j;⟨t,hp.ps,rP hp.ms h⟩
end
end L3
namespace L3
open PySem L2 PySem.Spec PyProof.Rows
def Jn:Nat->(List Value->Prop)->Prop
 |0,P=>P []
 |k+1,P=>∀v,Jn k λus=>P (v::us)
theorem lW:∀{k} {P},Jn k P->∀us:List Vq,us.length=k->P us
 |0,_,h,[],_=>h
 |k+1,_,h,v::us,e=>lW (h v) us (by simpa using e)
def Li(X:Cx):Prop:=∀x,X.env.scope.names.lookup x=some .cell->∃c,X.env.cells.lookup x=some c
structure Zx(P:Program)(w:World)(K:W.Frag)(mg:Str->Option Value)(base:Heap):Prop where
 here:True
section
variable {P:Program}{w:World}{K:W.Frag}{mg:Str->Option Value}{base:Heap}
noncomputable abbrev CP(_:Zx P w K mg base)(x:Str)(k:Nat)(F:List T->M T):Prop:=iS P w K mg base x k (vt K F)
noncomputable abbrev CF(_:Zx P w K mg base)(x:Str)(k:Nat)(F:List T->M (List T)):Prop:=iS P w K mg base x k (xY K F)
end
section
variable {P:Program}{w:World}{K:W.Frag}{mg:Str->Option Value}{base:Heap}{x m qual:Str}{C:Addr}{st:Stmt}{g:En->O}
noncomputable abbrev KW(P:Program)(w:World)(K:W.Frag)(mg:Str->Option Value)(base:Heap)(k:Nat)(qual:Str)(st:Stmt)(N:List Str)(g:En->O):Prop:=∀{f:Addr} {cdv:Vq} {A:Around} {outer:List Env} {s:Sq} {H:Hp} {E:XK},N.Nodup->Li (kx nH P w K mg base N qual (eG st) f cdv A outer s H E).nox->fP k (A.deeper (envOfC qual (eG st) s.heap.objs.size f cdv))->∃t,ly K E (kx nH P w K mg base N qual (eG st) f cdv A outer s H E).nox (fw st) t g
abbrev KF(x qual:Str)(st:Stmt)(ps:List Str):Prop:=∀(kV doc pm:Vq) (an:Oq Addr) (cdv ct:Vq),Jn ps.length λus=>bindArgs (W.fnOf x qual (gK st) (fw st) (eG st) .none kV doc pm an cdv ct) ⟨us,[]⟩=pure (ps.zip us)
def kq(_:Zx P w K mg base) k F N ps (e:F=mm ps.length N.length g) (D:eU K mg x st) (l:KW P w K mg base k x st N g) (S:fK N ps (eG st):=by constructor<;>first|rfl|decide +kernel)
  (i:KF x x st ps:=by first|exact λ_ _ _ _ _ _ _ _=>rfl|exact λ_ _ _ _ _ _ _=>rfl|exact λ_ _ _ _ _ _ _ _ _=>rfl|exact λ_ _ _ _ _ _ _ _ _ _=>rfl|exact λ_ _ _ _ _ _ _ _ _ _ _=>rfl|exact λ_ _ _ _ _ _=>rfl) :
  iS P w K mg base x (k+1) (vt K F):=e▸MU D S (λa b c d e f n j=>lW (i a b c d e f) n j) λ_ _ _ _ _ _ _ r=>l S.nd (λ_ h=>jO h) r
def zG(_:Zx P w K mg base) k F N ps (e:F=uc ps.length N.length g) (D:eU K mg x st) (l:KW P w K mg base k x st N g) (S:fK N ps (eG st):=by constructor<;>first|rfl|decide +kernel)
  (i:KF x x st ps:=by first|exact λ_ _ _ _ _ _ _ _=>rfl|exact λ_ _ _ _ _ _ _=>rfl|exact λ_ _ _ _ _ _ _ _ _=>rfl|exact λ_ _ _ _ _ _ _ _ _ _=>rfl|exact λ_ _ _ _ _ _ _ _ _ _ _=>rfl|exact λ_ _ _ _ _ _=>rfl) :
  iS P w K mg base x (k+1) (xY K F):=e▸M9 D S (λa b c d e f n j=>lW (i a b c d e f) n j) λ_ _ _ _ _ _ _ r=>l S.nd (λ_ h=>jO h) r
def LM(_:Zx P w K mg base) k F N ps (e:F=mm ps.length N.length g) (n:uj K C) (D:jr K C m qual st) (l:KW P w K mg base k qual st N g) (S:fK N ps (eG st):=by constructor<;>first|rfl|decide +kernel)
  (i:KF m qual st ps:=by first|exact λ_ _ _ _ _ _ _=>rfl|exact λ_ _ _ _ _ _ _ _=>rfl|exact λ_ _ _ _ _ _ _ _ _=>rfl) :
  jZ P w K mg base C m (k+1) (vt K F):=e▸Lr n D S (λa b c d e f o j=>lW (i a b c d e f) o j) λ_ _ _ _ _ _ _ r=>l S.nd (λ_ h=>jO h) r
def IZ(_:Zx P w K mg base) k F N ps (e:F=uc ps.length N.length g) (n:uj K C) (D:jr K C m qual st) (l:KW P w K mg base k qual st N g) (S:fK N ps (eG st):=by constructor<;>first|rfl|decide +kernel)
  (i:KF m qual st ps:=by first|exact λ_ _ _ _ _ _ _=>rfl|exact λ_ _ _ _ _ _ _ _=>rfl|exact λ_ _ _ _ _ _ _ _ _=>rfl) :
  jZ P w K mg base C m (k+1) (xY K F):=e▸Lx n D S (λa b c d e f o j=>lW (i a b c d e f) o j) λ_ _ _ _ _ _ _ r=>l S.nd (λ_ h=>jO h) r
def K0(_:Zx P w K mg base) k F N ps (e:F=mm ps.length N.length g) (D:Fu K x x st f fd) (a:KW P w K mg base k x st N g) (S:fK N ps (eG st):=by constructor<;>first|rfl|decide +kernel) :
  ku P w K mg base nH (k+1) f fd ps (vt K F):=e▸My D S λ_ _ _ _ _ _ _ r=>a S.nd (λ_ h=>jO h) r
def Mz(_:Zx P w K mg base) k F N (e:F=tY C n f1 f2 g1 g2) (j:uj K C) (v:jb K C f1) (p:jb K C f2) (y:W.makesIn K C=true) (z:W.keepIn K (.ref C)=true) (u:mg x=some (.ref C)) (D:jr K C "__init__" qual st)
  (B:∀{f:Addr} {i:Vq} {A:Around} {h:List Env} {s:Sq} {H:Hp} {E:XK},fP k (A.deeper (envOfC qual (eG st) s.heap.objs.size f i))->M5 K E (kx nH P w K mg base N qual (eG st) f i A h s H E).nox (fw st) f1 f2 g1 g2)
  (S:fK N N (eG st):=by constructor<;>first|rfl|decide +kernel) (q:KF "__init__" qual st N:=by exact λ_ _ _ _ _ _ _ _ _=>rfl) (ne:f1≠f2:=by decide) (l:N.length=n+1:=by rfl) :
  BG P w K mg base x C (k+1) (yF K C F):=e▸JY j v p ne D S y z u l (λa b c d e f o t=>lW (q a b c d e f) o t) λ_ _ _ _ _ _ _ r=>B r
end
section
variable {K:W.Frag}{E:XK}{X:Cx}{tg elt iter:Expr}{ifs:List Expr}{scope:Scope}{wi:TI}{g:TG}{tt:TT}{te:TE}{fe:Pe->M T}{fi:Pe->M (List T)}{m:T->Pe->Option Pe}{ft:Pe->M Bool}{pos:Pos}{x:Str}
noncomputable abbrev Nb(K:W.Frag)(X:Cx)(scope:Scope)(N:List Str)(tg elt:Expr)(ifs:List Expr)(g:TG)(tt:TT)(te:TE)(m:T->Pe->Option Pe)(ft:Pe->M Bool)(fe:Pe->M T):Prop:=∀{C s₃ H ex pn},N.Nodup->Li (j9 X N scope C s₃ H ex pn)->KI K (j9 X N scope C s₃ H ex pn) tg g m/\EM K Fo (j9 X N scope C s₃ H ex pn) ifs tt ft/\Pm K Fo (j9 X N scope C s₃ H ex pn) elt te fe
def ij N ix (d:Li X) (i:B0 K E X tg iter wi fi) (b:Nb K X scope N tg elt ifs g tt te m ft fe) (e:vm X.N X.env.scope scope N ix=true:=by rfl) (a:lX ix g:=by first|exact rZ rfl|exact sU rfl rfl) (c:N.Nodup:=by decide) (f:X.calm=true:=by rfl)
  (h:∀x,foldedSetIterable iter X.env x=pure x:=by intro _;rfl):BX K E X (.ListComp elt [⟨tg,iter,ifs,0⟩] scope pos) (Cc ix wi g tt te) (iR ix fi m ft fe):=
 let L:=Lq d e
 LB f i L a (λ_ _ _ _ _=>b c (CZ L)) h
def lZ N ix i (o:X.N.Nodup) (e:Li X) (p:B0 K E X tg iter wi fi) (b:Nb K X scope N tg elt ifs g tt te m ft fe)
  (k:MF K E (Cc ix wi g tt te) (iR ix fi m ft fe)->MS K E (kP (Cc ix wi g tt te) (gC i)) gm) (f:vm X.N X.env.scope scope N ix=true:=by rfl) (a:lX ix g:=by first|exact rZ rfl|exact sU rfl rfl) (d:N.Nodup:=by decide) (l:Bi X.env.scope x:=by first|exact Or.inl rfl|exact Or.inr rfl) (h:X.calm=true:=by rfl)
  (q:X.N[i]? = some x:=by rfl) (j:X.fn x=true\/X.env.scope.names.lookup x=some .local:=by first|exact .inl rfl|exact .inr rfl)
  (c:swapsWith (.ListComp elt [⟨tg,iter,ifs,0⟩] scope pos) (some (.Name x py)) spos.line X.env=pure true:=by rfl)
  (n:∀x,foldedSetIterable iter X.env x=pure x:=by intro _;rfl):uL K E X (.Assign [.Name x py] (.ListComp elt [⟨tg,iter,ifs,0⟩] scope pos) spos) (kP (Cc ix wi g tt te) (gC i)) gm:=
 let L:=Lq e f
 Ja i o l h p L a (λ_ _ _ _ _=>b d (CZ L)) k q j c n
end
end L3
namespace L3
open PySem L2
def iP(f:Ky):T:=.tup [.int f.1,.tup (f.2.map T.int)]
def wQ:List T->Option (LI)
 |[]=>some []
 |.int i::r=>(wQ r).map (i :: ·)
 |_=>none
def tu:T->Option Ky
 |.tup [.int d,.tup ts]=>(wQ ts).map λl=>(d,l)
 |_=>none
theorem uJ:∀l:LI,wQ (l.map T.int)=some l
 |[]=>rfl
 |i::l=>by simp[wQ,uJ l]
def oA(f:Ky):tu (iP f)=some f:=by simp[tu,iP,uJ]
theorem ug{K:W.Frag}{F:Hp}:∀{vs:List V} {ts:List T} {l:LI},eT K F vs ts->wQ ts=some l->vs=l.map V.int
 |_,_,_,.nil,h=>by cases h;rfl
 |_,_,_,.cons (t:=t) r rs,h=>by
  cases t with
  |int i=>obtain⟨a,e,rfl⟩:=cE.mp h;rw[r.int_inv,ug rs e];rfl
  |_=>cases h
def tT{K:W.Frag}{F:Hp}{v:V}{t:T}{g:Ky}(r:iq K F v t)(h:tu t=some g):∃b,v=.ref b/\tm F b g:=by
 unfold tu at h;split at h
 .rename_i d o;obtain⟨l,e,rfl⟩:=cE.mp h;obtain⟨a,n,rfl,i,c⟩:=r.tup_inv;cases c with
  |cons r1 c=>
   cases c with
   |cons r2 c=>cases c;obtain⟨j,m,rfl,k,f⟩:=r2.tup_inv;rw[r1.int_inv]at i;exact⟨a,rfl,j,i,by rw[k,ug f e]⟩
 .cases h
theorem tV{K:W.Frag}{F:Hp}:∀l:LI,eT K F (l.map V.int) (l.map T.int)
 |[]=>.nil
 |i::l=>.cons (.int i) (tV l)
def AZ{K:W.Frag}{F:Hp}{b:Addr}{g:Ky}(x:tm F b g):iq K F (.ref b) (iP g):=let ⟨b2,e1,e2⟩:=x;.tup e1 (.cons (.int _) (.cons (.tup e2 (tV _)) .nil))
def sy{K:W.Frag}{F:Hp}{bs:List Addr}{fl:List Ky}(p:Paired (tm F) bs fl):eT K F (bs.map V.ref) (fl.map iP):=by
 induction p with
 |nil=>exact .nil
 |cons h t ih=>exact .cons (AZ h) ih
noncomputable def EJ(a:List Ky)(t:T):M (List Ky):=match t with
 |.non=>.ok a
 |t=>match tu t with
  |some g=>.ok (rF a g)
  |none=>.bad
noncomputable def lF(st:T->List Ky->M (List Ky)):List T->List Ky->M (List Ky)
 |[],acc=>.ok acc
 |t::r,acc=>(st t acc).bind (lF st r)
def tH(a b:Ky):Bool:=!qT (ky b) (ky a)
def gE(l:List Ky):List Ky:=l.mergeSort tH
theorem qt{d:Type}{r:d->d->Prop}(c:∀a b,r a b->r b a->a=b):∀{l m:List d},l.Perm m->l.Pairwise r->m.Pairwise r->l=m
 |[],m,p,_,_=>(List.Perm.eq_nil p.symm).symm
 |a::l,[],p,_,_=>by have:=p.length_eq;simp at this
 |a::l,b::m,p,h1,h2=>by
  have e:a=b:=by
   have g:a∈b::m:=p.mem_iff.mp bh;have f:b∈a::l:=p.mem_iff.mpr bh;rcases aF.mp g with e|g
   .exact e
   .rcases aF.mp f with e|f
    .exact e.symm
    .exact c a b ((c7.mp h1).1 b f) ((c7.mp h2).1 a g)
  subst e;rw[qt c (List.Perm.cons_inv p) (c7.mp h1).2 (c7.mp h2).2]
def Hu{f g:Ky}(a:qT f g=false)(b:qT g f=false):f=g:=by
 unfold qT at a b;by_cases e:f.1=g.1
 .rw[aQ e]at a;rw[aQ e.symm]at b;exact Prod.ext e (xO a b)
 .rw[aR e]at a;rw[aR (Ne.symm e)]at b;have:=of_decide_eq_false a;have:=of_decide_eq_false b;omega
def CB(a b:Ky)(c:tH a b=true)(d:tH b a=true):a=b:=by unfold tH at c d;simp only[c8]at c d;have:=Hu d c;have f:(ky a).1=(ky b).1:=congrArg Prod.fst this;have e:(ky a).2=(ky b).2:=congrArg Prod.snd this;have g:-a.1 = -b.1:=f;exact Prod.ext (by omega) e
def yZ(a b c:Ky)(d:tH a b=true)(e:tH b c=true):tH a c=true:=by unfold tH at d e ⊢;simp only[c8]at d e ⊢;exact EX d e
def u0(a b:Ky):(tH a b||tH b a)=true:=by
 unfold tH;cases h:qT (ky b) (ky a) with
 |false=>rfl
 |true=>rw[Dm h];rfl
def xh{l m:List Ky}(p:m.Perm l)(h:m.Pairwise (λa b=>qT (ky b) (ky a)=false)):m=gE l:=by refine qt (r:=λa b=>tH a b=true) CB (p.trans (c9 l tH).symm) (h.imp λ{a b} z=>by unfold tH;rw[z];rfl) ?_;exact dc yZ u0 l
section
variable {P:Program}{w:World}{K:W.Frag}{E:XK}{Fb Hb F H F' H':Hp}{ρ:Pe}{jd:Nat}{a:Addr}{σ:St}{fl:List Ky}{D:qp}
structure Bk(P:Program)(w:World)(K:W.Frag)(Fb Hb:Hp)(jd:Nat)(a:Addr)(n:Nat)(ρ:Pe)(F H:Hp)(σ:St)(fl:List Ky):Prop where
 gr:Gr Fb Hb F H
 vars:iW K F σ ρ
 len:σ.length=n
 d:σ[jd]? = some (some (.ref a))
 fa:F a=none
 ha:Hb a=none
 fd:∃bs,Fs P w F H a bs fl
def Bk.grow{n:Nat}(b:Bk P w K Fb Hb jd a n ρ F H σ fl)(g:Gr F H F' H'):Bk P w K Fb Hb jd a n ρ F' H' σ fl:=by
 obtain⟨bs,f,e,c,p⟩:=id b.fd;refine⟨b.gr.trans g,b.vars.mono g.ff,b.len,b.d,?_,b.ha,bs,Fs.mono ⟨f,e,c,p⟩ g.ff g.hh⟩;cases z:F' a with
 |none=>rfl
 |some u=>
  rcases g.nw a (by rw[z];exact λw=>nomatch w) with y|y|⟨_,y⟩
  .exact absurd b.fa y
  .rw[e]at y;cases y
  .rw[e]at y;cases y
def Bk.setN{n j:Nat}{v:V}(b:Bk P w K Fb Hb jd a n ρ F H σ fl)(k:∀t,ρ[j]?≠some (some t))(f:j≠jd):Bk P w K Fb Hb jd a n ρ F H (σ.set j (some v)) fl:=
 ⟨b.gr,λi t e=>by
  have:i≠j:=λz=>by subst z;exact k t e
  obtain⟨g,c,h⟩:=b.vars i t e;exact⟨g,by rw[ar (Ne.symm this)];exact c,h⟩,by rw[bM];exact b.len,by rw[ar f];exact b.d,b.fa,b.ha,b.fd⟩
def Bk.setP{n j:Nat}{v:V}{t:T}(b:Bk P w K Fb Hb jd a n ρ F H σ fl)(c:j<n)(l:j≠jd)(r:iq K F v t):Bk P w K Fb Hb jd a n (ρ.set j (some t)) F H (σ.set j (some v)) fl:=
 ⟨b.gr,λi u e=>by
  by_cases z:i=j
  .subst z;have f:i<σ.length:=by rw[b.len];exact c
   rw[List.getElem?_set]at e;simp only[if_true]at e;split at e
   .cases e;exact⟨v,by rw[List.getElem?_set_self f],r⟩
   .cases e
  .rw[ar (Ne.symm z)]at e;obtain⟨h,g,k⟩:=b.vars i u e;exact⟨h,by rw[ar (Ne.symm z)];exact g,k⟩,by rw[bM];exact b.len,by rw[ar l];exact b.d,b.fa,b.ha,b.fd⟩
def Bk.less{n:Nat}{ρ':Pe}(b:Bk P w K Fb Hb jd a n ρ F H σ fl)(h:∀(i:Nat) t,ρ'[i]? = some (some t)->ρ[i]? = some (some t)):Bk P w K Fb Hb jd a n ρ' F H σ fl:=⟨b.gr,λi t e=>b.vars i t (h i t e),b.len,b.d,b.fa,b.ha,b.fd⟩
def Dw(P:Program)(w:World)(c:TE)(b jd:Nat):TS:=uS (kP c (gC b)) (GU (tB (HN (ja b))) (Ij P w (ja jd) (ja b) (tC (.bl true))) Ap)
def Ie{u:TE}{fe:Pe->M T}{n j:Nat}(N:ME K E u fe)(b:Bk P w K Fb Hb jd a n ρ F H σ fl)(J:∀t,ρ[j]?≠some (some t))(Q:j≠jd)(U:j<n)(Y:fl.length<1000)
  (q:((fe ρ).bind (EJ fl)).res (λi=>∀F' H' h,eN F F'->Bk P w K Fb Hb jd a n ρ F' H' h i->D.nx h H') (kE E Fb Hb)):Dw P w u j jd D σ H:=by
 refine N F H σ ρ _ b.gr.fh b.vars ((M.res.unb q).mono (λt z v F' H' g r=>?_) λC n z=>z.go b.gr);have f:=(b.grow g).setN (v:=v) J Q;have x:(σ.set j (some v))[j]? = some (some v):=List.getElem?_set_self (by rw[b.len];exact U);refine⟨v,x,!decide (v=.non),rfl,?_⟩;by_cases s:v=.non
 .rw[aC s];subst s;cases r;exact M3 (z F' H' _ g.ff f)
 .rw[aB s];refine MN ?_;have A:∃l,tu t=some l/\(M.ok (rF fl l)).res (λi=>∀F' H' h,eN F F'->Bk P w K Fb Hb jd a n ρ F' H' h i->D.nx h H') (kE E Fb Hb):=by
   unfold EJ at z;split at z
   .cases r;exact absurd rfl s
   .split at z
    .rename_i l e;exact⟨l,e,z⟩
    .exact z.elim
  obtain⟨l,S,R⟩:=A;obtain⟨L,rfl,m⟩:=tT r S;obtain⟨bs,B,e,X,p⟩:=f.fd;have sl:1000<sizeLine:=by decide
  refine⟨_,f.d,_,x,a,L,B,_,rfl,rfl,e,G6 p f.gr.fh,C3 (m.mono f.gr.fh),by rw[Paired.length p];omega,λy Z=>?_⟩;have I:=Iz (P:=P) (w:=w) (H:=H') (a:=a) (r:=y) p m;refine R F' _ _ g.ff ⟨⟨f.gr.ff,λc o k=>?_,λc o k=>?_,f.gr.nw⟩,f.vars,f.len,f.d,f.fa,f.ha,I⟩
  .rw[eM (eV k f.fa)];exact f.gr.fh c o k
  .rw[eM (eV k f.ha)];exact f.gr.hh c o k
def Es(fl:List Ky)(g:Ky):(rF fl g).length<=fl.length+1:=by unfold rF;split<;>simp
def uP{J:It}{its:List T}{B:Hp}{n:Nat}{g:TG}{U:TS}{st:T->List Ky->M (List Ky)}(r:tO K J its B)
  (S:∀t x F H σ f (D:qp),t∈its->eN B F->Bk P w K Fb Hb jd a n ρ F H σ f->iq K F x t->(st t f).res (λc=>∀F' H' d,eN F F'->Bk P w K Fb Hb jd a n ρ F' H' d c->D.nx d H') (kE E Fb Hb)->g x σ H λp Q=>U D p Q)
  (s1:eN B F) (b:Bk P w K Fb Hb jd a n ρ F H σ fl) (q:(lF st its fl).res (λc=>∀F' H' d,eN F F'->Bk P w K Fb Hb jd a n ρ F' H' d c->D.nx d H') (kE E Fb Hb)) :
  ∃W:Nat->Nat->St->Hp->Prop,(∃m,W 0 m σ H)/\∀i m σ H,W i m σ H->
 (J.stop i H/\D.nx σ H)\/(J.go i H/\∃N:St->Hp->Prop,(∀d H',N d H'->∃Y,Y<m/\W (i+1) Y d H')/\∀x H',J.yld i H x H'->g x σ H' λp Q=>U {D with nx:=N,ct:=N,bk:=D.nx} p Q):=by
 refine⟨λi k d H'=>i<=its.length/\k=its.length-i/\∃F' f,eN B F'/\Bk P w K Fb Hb jd a n ρ F' H' d f/\(lF st (its.drop i) f).res (λc=>∀l j h,eN F' l->Bk P w K Fb Hb jd a n ρ l j h c->D.nx h j) (kE E Fb Hb),⟨_,bD _,rfl,F,fl,s1,b,by simpa using q⟩,?_⟩
 rintro i k v I ⟨hi,rfl,X,f,A,s,u⟩
 by_cases o:i<its.length
 .right;refine⟨r.go i I (A.trans s.gr.fh) o,λd H'=>∃F' f,eN B F'/\Bk P w K Fb Hb jd a n ρ F' H' d f/\(lF st (its.drop (i+1)) f).res (λc=>∀l j h,eN F' l->Bk P w K Fb Hb jd a n ρ l j h c->D.nx h j) (kE E Fb Hb),λd H' z=>⟨its.length-(i+1),by omega,o,rfl,z⟩,λx H' y=>?_⟩;have et:=ag o;obtain⟨F3,C,rp⟩:=r.yld i _ X I x H' A s.gr.fh et y;rw[cU o]at u;unfold lF at u;refine S _ x F3 H' v f _ (aV o) (A.trans C.ff) (s.grow C) rp ((M.res.unb u).mono (λc z=>?_) λ_ _ z=>z);intro F4 H4 σ4 Z b4;exact⟨F4,c,(A.trans C.ff).trans Z,b4,z.mono (λL y F5 H5 R s5 b5=>y F5 H5 R ((C.ff.trans Z).trans s5) b5) λ_ _ z=>z⟩
 .have e:i=its.length:=by omega
  subst e;rw[c6 (aK _)]at u;exact .inl ⟨r.stop I (A.trans s.gr.fh),u X I v (.refl _) s⟩
abbrev NR(P:Program)(w:World):List V->Hp->VK->Prop:=λzs H Q=>∃a xs,zs=[.ref a]/\H a=some (qq P w a xs)/\∀l:Addr,H l=none->Q (.ref l) (fN H l (.lst (xs.map λx=>.ref x.2.1)))
abbrev Mb(P:Program)(w:World)(jd:Nat):TE:=Fq (NR P w) (lN (ja jd) qe)
def Im{n:Nat}{Q:VK}(b:Bk P w K Fb Hb jd a n ρ F H σ fl)(q:∀l bs,H l=none->Paired (tm F) bs fl->Bk P w K Fb Hb jd a n ρ (fN F l (.lst (bs.map V.ref))) (fN H l (.lst (bs.map V.ref))) σ fl->Q (.ref l) (fN H l (.lst (bs.map V.ref)))):Mb P w jd σ H Q:=by
 obtain⟨bs,c,e,h,p⟩:=id b.fd;have i:=Fs.flr (P:=P) (w:=w) (H:=H) (a:=a) ⟨c,e,h,p⟩;refine⟨_,b.d,a,c,rfl,e,λl f=>?_⟩;have j:(c.map λx:FE=>V.ref x.2.1)=bs.map V.ref:=by rw[h,aI];rfl
 rw[j];have g:Gr F H (fN F l (.lst (bs.map V.ref))) (fN H l (.lst (bs.map V.ref))):=Gr.new b.gr.fh f;exact q l bs f i (b.grow g)
def An{n:Nat}{ts:List T}(b:Bk P w K Fb Hb jd a n ρ F H σ fl)(g:fl.length<64)(k:kF K Fb Hb D.rt ((gE fl).map iP)){src:V->Hp->List Addr->Prop}{x:V}{bs:List Addr}(l:src x H bs)(h:Paired (tm F) bs fl) :
  ∃bs fl,src x H bs/\Paired (tm H) bs fl/\fl.length<64/\∀f H' c d,eN H H'->H f=none->H' f=some (.lst (c.map V.ref))->(∀R:Addr->Ky->Prop,Paired R bs fl->Paired R c d)->d.Perm fl->d.Pairwise (λa b=>qT (ky b) (ky a)=false)->D.rt (.ref f) H':=by
 refine⟨bs,fl,l,Paired.mapP h λ_ _ z=>z.mono b.gr.fh,g,λf H' c d sm i q m p o=>?_⟩;have e:=xh p o;have j:F f=none:=eR b.gr.fh i;refine k f (c.map V.ref) F H' ⟨b.gr.ff,b.gr.fh.trans sm,b.gr.hh.trans sm,b.gr.nw⟩ (eR b.gr.hh i) j q ?_;rw[<-e];exact sy (m _ h)
def Lb(P:Program)(w:World)(K:W.Frag)(f b:TE)(c:TI)(jd e g d:Nat):TS:=uS (kP (CH P w f (tC (.bl true))) (gC jd)) (uS (qI c (gC e) (qI (xR K (Mb P w jd)) (gC g) (Dw P w b d jd))) (vE (yU (Jr K) (Mb P w jd))))
noncomputable def Fx(fe:Pe->M T)(c:Nat)(ρ:Pe):T->List Ky->M (List Ky):=λt b=>if b.length<1000 then (fe (ρ.set c (some t))).bind (EJ b) else .bad
noncomputable def Bq(fe:Pe->M T)(c d:Nat)(ρ:Pe):T->List Ky->M (List Ky):=λt b=>lF (Fx fe d (ρ.set c (some t))) (b.map iP) b
noncomputable def Hf(m:M (List Ky)):O:=O.of m λl=>if l.length<64 then .rf ((gE l).map iP) else .bad
noncomputable def BS(h fe:Pe->M T)(f:Pe->M (List T))(jd b d e:Nat):En->O:=λρ=>.of (h (jW ρ)) λi=>match tu i with
 |none=>.bad
 |some g=>.of (f (((((jW ρ).set jd none).set e none).set b none).set d none)) λc=>Hf (lF (Bq fe b d (((((jW ρ).set jd none).set e none).set b none).set d none)) c [g])
def gA{ρ:Pe}{i j:Nat}{t:T}(h:(ρ.set j none)[i]? = some (some t)):i≠j/\ρ[i]? = some (some t):=by
 by_cases e:i=j
 .subst e;rw[List.getElem?_set]at h;simp only[if_true]at h;split at h<;>cases h
 .rw[ar (Ne.symm e)]at h;exact⟨e,h⟩
def wB{F:Hp}{σ:St}{ρ:Pe}{j:Nat}{v:V}(h:iW K F σ ρ):iW K F (σ.set j (some v)) (ρ.set j none):=λi t e=>by obtain⟨c,e⟩:=gA e;obtain⟨d,b,f⟩:=h i t e;exact⟨d,by rw[ar (Ne.symm c)];exact b,f⟩
def qX{ρ:Pe}{i j:Nat}{x:Oq T}{t:T}(b:i≠j)(h:∀t,ρ[j]?≠some (some t)):(ρ.set i x)[j]?≠some (some t):=by rw[ar b];exact h t
def Kz{t0 te:TE}{f0 fe:Pe->M T}{wi:TI}{fi:Pe->M (List T)}{jd d f g:Nat}(h0:ME K E t0 f0)(he:ME K E te fe)(hi:MI K E wi fi)(h:d≠jd/\f≠jd/\g≠jd/\d≠f/\d≠g/\f≠g){N:Nat}(hN:d<N/\f<N/\g<N/\jd<N):MS K E (Lb P w K t0 te wi jd d f g) (λρ=>if ρ.length=N then BS f0 fe fi jd d f g ρ else .bad):=λF0 H0 F H σ ρ D r q=>by
 dsimp only at q;by_cases s:ρ.length=N
 case neg=>rw[aR s]at q;exact q.elim
 rw[aQ s]at q;have Y:σ.length=N:=r.len.trans s;intro p hp;have gp:Gr F H F (fN H p (qq P w p [])):=Gr.new' r.gr.fh hp;have fp0:F p=none:=eR r.gr.fh hp;refine h0 F _ σ (jW ρ) _ gp.fh r.vars ((O.res_of q).mono (λt0 z v F1 H1 R r1=>?_) λC n z=>z.go (r.gr.trans gp));cases ea:tu t0 with
 |none=>rw[ea]at z;exact z.elim
 |some g0=>
  rw[ea]at z;obtain⟨b0,rfl,I⟩:=tT r1 ea;have hp1:H1 p=some (qq P w p []):=R.hh _ _ eJ;refine⟨hp1,(.inl g0.1,g0.2.map .inl),b0,rfl,C3 (I.mono R.fh),λrv hrv=>?_⟩;have U:F1 p=none:=by
   cases y:F1 p with
   |none=>rfl
   |some u=>
    rcases R.nw p (by rw[y];exact λw=>nomatch w) with k|k|⟨_,k⟩
    .exact absurd fp0 k
    .rw[eJ]at k;cases k
    .rw[eJ]at k;cases k
  have G0:=(r.gr.trans gp).trans R;have S:H0 p=none:=eR r.gr.hh hp;have hd':jd<σ.length:=by rw[Y];exact hN.2.2.2
  have b:Bk P w K F0.hp H0 jd p N (((((jW ρ).set jd none).set g none).set d none).set f none) F1 (fN H1 p (qq P w p [((.inl g0.1,g0.2.map .inl),b0,rv)])) (σ.set jd (some (.ref p))) [g0]:=by
   refine⟨⟨G0.ff,λc o B=>?_,λc o B=>?_,G0.nw⟩,λi t e=>?_,by rw[bM];exact Y,List.getElem?_set_self hd',U,S,[b0],_,eJ,rfl,.cons ⟨rfl,I⟩ .nil⟩
   .rw[eM (eV B U)];exact G0.fh c o B
   .rw[eM (eV B S)];exact G0.hh c o B
   .obtain⟨_,e⟩:=gA e;obtain⟨_,e⟩:=gA e;obtain⟨_,e⟩:=gA e;exact (wB (r.vars.mono R.ff)) i t e
  refine hi F1 _ _ _ _ b.gr.fh b.vars ((O.res_of z).mono (λits z J F2 H2 g2 iok=>?_) λC n z=>z.go (b.gr));refine uP (st:=Bq fe d f (((((jW ρ).set jd none).set g none).set d none).set f none)) iok (λt x F3 H3 σ3 L D3 ht s3 b3 rx q3=>?_) (.refl _) (b.grow g2) ((O.res_of z).mono (λL z F4 H4 σ4 s4 b4=>?_) λ_ _ z=>z)
  .have nk:∀t,(((((jW ρ).set jd none).set g none).set d none).set f none)[f]?≠some (some t):=λt e=>(gA e).1 rfl;have ns:∀t,(((((jW ρ).set jd none).set g none).set d none).set f none)[g]?≠some (some t):=λt e=>(gA (gA (gA e).2).2).1 rfl;have nkk:∀t,(((((jW ρ).set jd none).set g none).set d none).set f none)[d]?≠some (some t):=λt e=>(gA (gA e).2).1 rfl;have b4:=b3.setP hN.1 h.1 rx;refine Im b4 λl bs s pl b5=>⟨l,rfl,⟨_,iJ.of eJ⟩,?_⟩;have sl:eN F3 (fN F3 l (.lst (bs.map V.ref))):=gO (eR b3.gr.fh s);have rps:=sy (K:=K) (Paired.mapP pl λ_ _ z=>z.mono sl);refine uP (st:=Fx fe f ((((((jW ρ).set jd none).set g none).set d none).set f none).set d (some t))) (uQ (iJ.of eJ) rps) (λt' x' F6 H6 σ6 Q D6 ht' s6 b6 rx' X=>?_) (.refl _) b5 (q3.mono (λZ y F7 H7 m s7 b7=>?_) λ_ _ z=>z)
   .unfold Fx at X;by_cases A:Q.length<1000
    .rw[aQ A]at X;have b8:=b6.setP hN.2.1 h.2.1 rx';refine Ie he b8 (λt2=>qX h.2.2.2.2.2 λt3=>qX h.2.2.2.2.1 ns) h.2.2.1 hN.2.2.1 A (X.mono (λZ y F7 H7 m s7 b7=>y F7 H7 m s7 (b7.less λi t2 e=>?_)) λ_ _ z=>z);rw[ar]
     .exact e
     .intro z;subst z;exact qX h.2.2.2.1 nk e
    .rw[aR A]at X;exact X.elim
   .refine y F7 H7 m (sl.trans s7) (b7.less λi t2 e=>?_);rw[ar]
    .exact e
    .intro z;subst z;exact nkk t2 e
  .by_cases j:L.length<64
   .rw[aQ j]at z;refine Im b4 λl bs s pl b5=>?_;have sl:eN F4 (fN F4 l (.lst (bs.map V.ref))):=gO (eR b4.gr.fh s);exact An (ts:=[]) b5 j z (src:=Jr K) ⟨l,rfl,eJ⟩ (Paired.mapP pl λ_ _ z=>z.mono sl)
   .rw[aR j]at z;exact z.elim
def LG(P:Program)(w:World)(b:TE)(c:TI)(jd e d:Nat):TS:=uS (kP (Ez P w) (gC jd)) (uS (qI c (gC e) (Dw P w b d jd)) (vE (yU (Jh P w) (ja jd))))
noncomputable def EO(fe:Pe->M T)(e:Pe->M (List T))(jd b d:Nat):En->O:=λρ=>.of (e ((((jW ρ).set jd none).set d none).set b none)) λc=>Hf (lF (Fx fe b ((((jW ρ).set jd none).set d none).set b none)) c [])
def IT{L:TE}{fe:Pe->M T}{S:TI}{Q:Pe->M (List T)}{jd c f:Nat}(he:ME K E L fe)(hi:MI K E S Q)(j:c≠jd/\f≠jd/\c≠f){N:Nat}(o:c<N/\f<N/\jd<N) :
  MS K E (LG P w L S jd c f) (λρ=>if ρ.length=N then EO fe Q jd c f ρ else .bad):=λF0 H0 F H σ ρ D r q=>by
 dsimp only at q;by_cases A:ρ.length=N
 case neg=>rw[aR A]at q;exact q.elim
 rw[aQ A]at q;have m:σ.length=N:=r.len.trans A;intro p v;have gp:Gr F H F (fN H p (qq P w p [])):=Gr.new' r.gr.fh v;have I:jd<σ.length:=by rw[m];exact o.2.2
 have G0:=r.gr.trans gp;have b:Bk P w K F0.hp H0 jd p N ((((jW ρ).set jd none).set f none).set c none) F (fN H p (qq P w p [])) (σ.set jd (some (.ref p))) []:=by refine⟨G0,λi t e=>?_,by rw[bM];exact m,List.getElem?_set_self I,eR r.gr.fh v,eR r.gr.hh v,[],_,eJ,rfl,.nil⟩;obtain⟨_,e⟩:=gA e;obtain⟨_,e⟩:=gA e;exact (wB r.vars) i t e
 refine hi F _ _ _ _ b.gr.fh b.vars ((O.res_of q).mono (λits z J F2 H2 g2 B=>?_) λC n z=>z.go b.gr);refine uP (st:=Fx fe c ((((jW ρ).set jd none).set f none).set c none)) B (λt x F3 H3 σ3 k D3 ht s3 b3 rx l=>?_) (.refl _) (b.grow g2) ((O.res_of z).mono (λk z F4 H4 σ4 s4 s=>?_) λ_ _ z=>z)
 .have ns:∀t,((((jW ρ).set jd none).set f none).set c none)[f]?≠some (some t):=λt e=>(gA (gA e).2).1 rfl;have Z:∀t,((((jW ρ).set jd none).set f none).set c none)[c]?≠some (some t):=λt e=>(gA e).1 rfl;unfold Fx at l;by_cases g:k.length<1000
  .rw[aQ g]at l;have b8:=b3.setP o.1 j.1 rx;refine Ie he b8 (λU=>qX j.2.2 ns) j.2.1 o.2.1 g (l.mono (λY y F7 H7 u s7 b7=>y F7 H7 u s7 (b7.less λi U e=>?_)) λ_ _ z=>z);rw[ar]
   .exact e
   .intro z;subst z;exact Z U e
  .rw[aR g]at l;exact l.elim
 .by_cases h:k.length<64
  .rw[aQ h]at z;obtain⟨bs,X,e,R,pp⟩:=id s.fd;exact⟨_,s.d,An (ts:=[]) s h z (src:=Jh P w) ⟨p,X,rfl,e,R⟩ (Fs.flr (P:=P) (w:=w) (H:=H4) (a:=p) ⟨X,e,R,pp⟩)⟩
  .rw[aR h]at z;exact z.elim
end
section
open PySem.W
variable {K:W.Frag}{E:XK}{X:Cx}
def oE.im{a it:Expr}{w:TI}{f:Pe->M (List T)}(h:oE K E X a it w f):B0 K E X a it w f:=⟨h.pi,h.mi.mi⟩
structure LA(X:Cx)(x:Str)(params:Arguments)(scope:Scope)(body:Expr):Prop where
 S:fK [x] [x] scope
 hx:scope.names.lookup x=some .local
 hb:∀(q:Str) (pm ctv:Vq) (c':Addr) (u:Vq),bindArgs (kla_fn "<lambda>" q params body scope [] pm (.ref c') ctv) ⟨[u],[]⟩=pure [(x,u)]
 cl:closureFor scope X.env=pure []
 df:defaultsOf params X.env=([],[])
def Hy{k:Nat}{qn o f r u g:Str}{v e it:Expr}{t0 U:TE}{Q fe:Pe->M T}{F:TI}{fi:Pe->M (List T)}{params:Arguments}{d:Scope}{p1 p2 p3 p4 p5 p6 p7 p8 q1 D q3 q4 q5 q6 q7 q8 q9 r1 Z r3 r4 r5 r6 r7 r8 r9 u1 P u3 u4 u5 u6 u7 u8 u9 p p' s:Pos}{j1 j2 j3 i1 i2 i3:Nat}
  (h j l i:Nat) (q:X.N.Nodup) (hp:PassesOwn (model X.prog X.w) X.A X.env X.xe) (Y:fP (k+3) X.A) (L:AW X.base X.mg qn X.env.code) (mL:X.mg "list" = none) (mS:X.mg "sorted" = none) (I:Pm K E X v t0 Q) (R:B0 K E X (.Name r q3) it F fi) (he:Pm K E X e U fe)
  (hq:qn++ ".<locals>.<lambda>" = X.env.qual++ "<lambda>" :=by rfl) (n:LA X o params d (kf o p1 p2 p3 p4 p5 p6 p7 p8 j1 j2 j3):=by exact⟨by constructor<;>first|rfl|decide +kernel,rfl,λ_ _ _ _ _=>rfl,rfl,rfl⟩) (t:X.K=K:=by rfl) (y:X.calm=true:=by rfl)
  (hd:X.N[h]? = some f:=by rfl) (hk:X.N[j]? = some r:=by rfl) (hf:X.N[l]? = some u:=by rfl) (hs:X.N[i]? = some g:=by rfl) (x:X.env.scope.names.lookup f=some .local:=by rfl) (lk:X.env.scope.names.lookup r=some .local:=by rfl) (lf:X.env.scope.names.lookup u=some .local:=by rfl) (B:X.env.scope.names.lookup g=some .local:=by rfl)
  (m:(f==("__debug__" : Str))=false/\(f==("__classdict__" : Str))=false/\(g==("__debug__" : Str))=false/\(g==("__classdict__" : Str))=false/\(o==("__debug__" : Str))=false/\(o==("__classdict__" : Str))=false:=by decide) (gL:Gl X "list" :=by rfl) (gS:Gl X "sorted" :=by rfl) (C:j≠h/\l≠h/\i≠h/\j≠l/\j≠i/\l≠i:=by decide)
  (s1:swapsWith (.Dict [some v] [.Constant (.bool true) i1 q1] D) (some (.Name f u1)) P.line X.env=pure false:=by rfl) (s2:swapsWith e (some (.Name g r1)) Z.line X.env=pure false:=by rfl) (fs:∀z,foldedSetIterable it X.env z=pure z:=by intro _;rfl) {N:Nat} (hN:j<N/\l<N/\i<N/\h<N:=by decide) :
  ly K E X [.Assign [.Name f u1] (.Dict [some v] [.Constant (.bool true) i1 q1] D) P,
   .For (.Name r q3) it [.For (.Name u q4) (.Call (.Name "list" q5) [.Name f q6] [] q7) [.Assign [.Name g r1] e Z,.If (.Compare (.Name g r3) [.IsNot] [.Constant .none i2 r4] r5) [.Assign [.Subscript (.Name f r6) (.Name g r7) r8] (.Constant (.bool true) i3 r9) u3] [] u4] [] u5] [] u6,
   .Return (some (.Call (.Name "sorted" u7) [.Call (.Name "list" u8) [.Name f u9] [] q8] [⟨some "key",.Lambda params (kf o p1 p2 p3 p4 p5 p6 p7 p8 j1 j2 j3) d q9,p⟩] p')) s] (Lb X.prog X.w K t0 U F h j l i) (λρ=>if ρ.length=N then BS Q fe fi h j l i ρ else .bad):=by
 subst t;have H:X.A.units+2<cLine:=by have:=Y.units;omega
 have vd:∀{pos},PE X (.Name f pos) (ja h):=λ{pos}=>nV hd (.inl x) m.1 m.2.1;have vs:∀{pos},PE X (.Name g pos) (ja i):=λ{pos}=>nV hs (.inl B) m.2.2.1 m.2.2.2.1;have J:∀{a b c},PE X (.Call (.Name "list" a) [.Name f b] [] c) (Mb X.prog X.w h):=λ{a b c}=>qa (yp y) gL mL (by rfl) (kc vd pT);refine⟨jU (mD q hd (.inl x) (Et H I.pe zP) s1 (.inr x)) (jU (oq hp y R.pi (pk q hk (.inl lk) (.inr lk)) (ke (oq hp y (vT J) (pk q hf (.inl lf) (.inr lf)) (jU (mD q hs (.inl B) he.pe s2 (.inr B)) (ke (CW (Dj (Al vs)) (ke (Ai H vd vs zP rfl)) vy))))) fs) (ke (sX (wF Y L hq n.S n.hx n.hb n.cl n.df DA J gS mS ⟨rfl,rfl⟩ m.2.2.2.2.1 m.2.2.2.2.2)))),Kz I.me he.me R.mi C hN⟩
def GS{k:Nat}{Q l c g b:Str}{e it:Expr}{y:TE}{fe:Pe->M T}{u:TI}{P:Pe->M (List T)}{params:Arguments}{a:Scope}{p p' m p1 p2 p3 p4 p5 p6 p7 p8 t F J D r3 r4 r5 r6 r7 r8 r9 H v u3 u4 u6 u7 u9 q9:Pos}{j1 j2 j3 i2 i3:Nat}
  (d h f:Nat) (n:X.N.Nodup) (hp:PassesOwn (model X.prog X.w) X.A X.env X.xe) (C:fP (k+3) X.A) (L:AW X.base X.mg Q X.env.code) (mS:X.mg "sorted" = none) (x:B0 K E X (.Name g F) it u P) (Y:Pm K E X e y fe)
  (hq:Q++ ".<locals>.<lambda>" = X.env.qual++ "<lambda>" :=by rfl) (j:LA X l params a (kf l p1 p2 p3 p4 p5 p6 p7 p8 j1 j2 j3):=by exact⟨by constructor<;>first|rfl|decide +kernel,rfl,λ_ _ _ _ _=>rfl,rfl,rfl⟩) (o:X.K=K:=by rfl) (B:X.calm=true:=by rfl)
  (I:X.N[d]? = some c:=by rfl) (hk:X.N[h]? = some g:=by rfl) (U:X.N[f]? = some b:=by rfl) (q:X.env.scope.names.lookup c=some .local:=by rfl) (lk:X.env.scope.names.lookup g=some .local\/X.env.scope.names.lookup g=some .cell:=by first|exact .inl rfl|exact .inr rfl) (r:X.env.scope.names.lookup b=some .local:=by rfl) (fk:X.fn g=true\/X.env.scope.names.lookup g=some .local:=by first|exact .inl rfl|exact .inr rfl)
  (i:(c==("__debug__" : Str))=false/\(c==("__classdict__" : Str))=false/\(b==("__debug__" : Str))=false/\(b==("__classdict__" : Str))=false/\(l==("__debug__" : Str))=false/\(l==("__classdict__" : Str))=false:=by decide) (gS:Gl X "sorted" :=by rfl) (s:h≠d/\f≠d/\h≠f:=by decide)
  (s1:swapsWith (.Dict [] [] t) (some (.Name c H)) v.line X.env=pure false:=by rfl) (s2:swapsWith e (some (.Name b J)) D.line X.env=pure false:=by rfl) (fs:∀z,foldedSetIterable it X.env z=pure z:=by intro _;rfl) {N:Nat} (hN:h<N/\f<N/\d<N:=by decide) :
  ly K E X [.Assign [.Name c H] (.Dict [] [] t) v,
   .For (.Name g F) it [.Assign [.Name b J] e D,.If (.Compare (.Name b r3) [.IsNot] [.Constant .none i2 r4] r5) [.Assign [.Subscript (.Name c r6) (.Name b r7) r8] (.Constant (.bool true) i3 r9) u3] [] u4] [] u6,
   .Return (some (.Call (.Name "sorted" u7) [.Name c u9] [⟨some "key",.Lambda params (kf l p1 p2 p3 p4 p5 p6 p7 p8 j1 j2 j3) a q9,p⟩] p')) m] (LG X.prog X.w y u d h f) (λρ=>if ρ.length=N then EO fe P d h f ρ else .bad):=by
 subst o;have hu:X.A.units+2<cLine:=by have:=C.units;omega
 have Z:∀{pos},PE X (.Name c pos) (ja d):=λ{pos}=>nV I (.inl q) i.1 i.2.1;have R:∀{pos},PE X (.Name b pos) (ja f):=λ{pos}=>nV U (.inl r) i.2.2.1 i.2.2.2.1;refine⟨jU (mD n I (.inl q) C9 s1 (.inr q)) (jU (oq hp B x.pi (pk n hk lk fk) (jU (mD n U (.inl r) Y.pe s2 (.inr r)) (ke (CW (Dj (Al R)) (ke (Ai hu Z R zP rfl)) vy))) fs) (ke (sX (wF C L hq j.S j.hx j.hb j.cl j.df (IW B) Z gS mS ⟨rfl,rfl⟩ i.2.2.2.2.1 i.2.2.2.2.2)))),IT Y.me x.mi s hN⟩
noncomputable abbrev MJ(P:Program)(w:World)(K:W.Frag)(mg:Str->Option Value)(base:Heap)(k:Nat)(qual:Str)(st:Stmt)(N:List Str)(g:En->O):Prop:=∀{f:Addr} {cdv:Vq} {A:Around} {outer:List Env} {s:Sq} {H:Hp} {E:XK},AW base mg qual cdv->N.Nodup->Li (kx nH P w K mg base N qual (eG st) f cdv A outer s H E).nox->fP k (A.deeper (PyProof.Rows.envOfC qual (eG st) s.heap.objs.size f cdv))->∃t,ly K E (kx nH P w K mg base N qual (eG st) f cdv A outer s H E).nox (fw st) t g
def E8{P:Program}{w:World}{mg:Str->Option Value}{i:Heap}{x:Str}{st:Stmt}{g:En->O}(_:Zx P w K mg i) k F N ps (e:F=uc ps.length N.length g) (D:eU K mg x st) (L:ya K mg i x) (u:MJ P w K mg i k x st N g) (S:fK N ps (eG st):=by constructor<;>first|rfl|decide +kernel)
  (q:KF x x st ps:=by first|exact λ_ _ _ _ _ _ _ _=>rfl|exact λ_ _ _ _ _ _ _=>rfl|exact λ_ _ _ _ _ _ _ _ _=>rfl) :
  iS P w K mg i x (k+1) (xY K F):=e▸Co D L S (λa b c d e f o r=>lW (q a b c d e f) o r) (λl H Q E h=>vW h) λf p A j s H l Q E n m h=>let ⟨t,hp⟩:=u n S.nd (λ_ h=>jO h) m;⟨t,hp.ps,rP hp.ms h⟩
end
def JS{l:W.OpenLaw}{q:Program}{k:Nat}{x:Str}{c:List Str}{t:(Str->Option Value)->Heap->Prop}{m:World->Heap->Prop}{d:DefRec}{K:Params->W.Frag}(g:List Str)(B:l.most=some 63)(p:fP k callerA)(i:d.params.defaults=[])
  (A:∀(w:World) (h:Heap),m w h->(K w.params).In h) (n:∀x∈g,∃d',(PyProof.Rows.recsOf q).find? (λe=>e.name==x)=some d') (C:∀w:World,rM (K w.params) g=true)
  (F:∀(w:World) (mg:Str->Option Value) (j:Addr) (h:Heap),(K w.params).In h->h.Ns mainGlobals mg->mg d.name=some (.ref j)->
   ∃fd:FuncData,(∀(s:Sq) (u:Vq),BindsTo s fd ⟨[u],[]⟩ [(x,u)])/\∀b:Heap,(K w.params).In b->b.Ns mainGlobals mg->(∀y∈g,ya (K w.params) mg b y)->ku l.prog w (K w.params) mg b nH k j fd [x] (Da (K w.params))) :
  W.WalkO q c t m l.row.toRowW d [] (λf vs=>PySem.call f vs):=
 L2.DH g B (by decide) i p A n C F λ_ _ a r z v o=>⟨a,r,rfl,o,z,v,λ_=>rfl⟩
end L3
namespace L3
open PySem L2
section
variable {K:W.Frag}{E:XK}{g:TG}{m:T->En->Option En}{gb:En->O}{j:Nat}
@[simp] noncomputable def wc(b:Pe->M T)(j:Nat)(m:T->En->Option En)(g:En->O):En->O:=λa=>match a[j]? with
 |some (some (.o ts))=>.of (b (jW a)) λx=>.of (seqT x) λc=>rJ j ts (f6 m g (kG c ts) (a.set j none))
 |_=>.bad
def FD{tb:TS}{ta:TE}{X:Pe->M T}(ha:ME K E ta X)(hg:Ft K g m)(hb:MS K E tb gb):MS K E (qI (Aj K (lN ta (lN (ja j) qe))) g tb) (wc X j m gb):=λF0 H0 F H σ B D r q=>by
 unfold wc at q;split at q
 .rename_i Q e;cases J:X (jW B) with
  |bad=>rw[J]at q;exact q.elim
  |er C n=>rw[J]at q;exact⟨true,true,ha F H σ (jW B) _ r.gr.fh r.vars (by rw[J];exact kE.go q r.gr)⟩
  |ok x=>
   rw[J,O.of_ok]at q;cases w:seqT x with
   |bad=>rw[w]at q;exact q.elim
   |er C n=>cases x<;>cases w
   |ok us=>
    rw[w,O.of_ok]at q;obtain⟨l,f,a,d,z,hp,r'⟩:=r.hide e;refine⟨nQ x,false,ha F H σ (jW B) _ r.gr.fh r.vars (by
     rw[J];intro v F1 H1 N rx;rw[vY]at w;obtain⟨l1,u,rfl,R,S⟩:=q0 rx w;refine⟨_,a,l1,l,rfl,⟨u,R _ N.fh⟩,⟨f,iJ.of (N.hh _ _ d)⟩,?_⟩;have q':(f6 m gb (kG us Q) (B.set j none)).res K E ⟨F0.hp,(j,l,f)::F0.lt⟩ H0 F D:=by
      cases eo:f6 m gb (kG us Q) (B.set j none) with
      |bad=>rw[eo]at q;exact q.elim
      |nx ρ2=>
       rw[eo]at q;unfold rJ at q;dsimp only at q;split at q
       .rename_i A;exact λk c I s P=>q k c I s (P.unhide A (z.mono s) hp)
       .exact q.elim
      |rt t=>rw[eo]at q;exact q
      |rf us=>rw[eo]at q;exact q
      |rn Q us=>rw[eo]at q;exact q
      |bk ρ2=>rw[eo]at q;exact q.elim
      |ct ρ2=>rw[eo]at q;exact q.elim
      |er C n=>rw[eo]at q;exact q
     refine nZ (G:=λk c=>eN F1 k/\eN k c/\c l=some (.lst f)) hg hb (λi k c b hi=>?_) (λk c b=>?_) (λi t k c y H'' b U yy=>?_) (λk c I ρ' s P=>⟨s,P.gr.fh,(P.lv (j,l,f) (bh ..)).h⟩) (r'.grow N) (.refl _) (q'.go N.ff)
     .have L:i<us.length/\i<Q.length:=by simp[kG]at hi;omega
      have Z:u[i]? = some (u[i]'(by rw[S.length];exact L.1)):=ag _;have A:f[i]? = some (f[i]'(by rw[z.length];exact L.2)):=ag _;exact⟨u,f,_,_,R c (b.1.trans b.2.1),iJ.of b.2.2,Z,A⟩
     .exact⟨u,f,R c (b.1.trans b.2.1),iJ.of b.2.2,by simp[kG,S.length,z.length];omega⟩
     .obtain⟨p,x1,x2,rfl,Y,rfl,Z,A⟩:=yy;obtain⟨u1,f1,q1⟩:=S.at_ (Z u (R c (b.1.trans b.2.1)));obtain⟨u2,f2,q2⟩:=z.at_ (A f (iJ.of b.2.2));have:t=.tup [u1,u2]:=by unfold kG at U;rw[aw,(List.getElem?_zip_eq_some (z:=(u1,u2))).mpr ⟨f1,f2⟩]at U;cases U;rfl
      rw[this];have g:=Gr.new (o:=.tup [x1,x2]) b.2.1 Y;exact⟨_,g,.tup eJ (.cons ((q1.mono b.1).mono g.ff) (.cons (((q2.mono N.ff).mono b.1).mono g.ff) .nil))⟩)⟩
 .exact q.elim
end
section
variable {K:W.Frag}{E:XK}{X:Cx}{elts:List Expr}{a:Expr}{ta:TE}{fa:Pe->M T}{g:TG}{m:T->En->Option En}{A:List Stmt}{t:TS}{gb:En->O}{x:Str}{p p2 tpos pos pos':Pos}{x1:Nat}
def DS j (u:X.mg "zip" = none) (v:PE X (.Name x p2) (ja j)) (f:Pm K E X a ta fa) (r:PassesOwn (model X.prog X.w) X.A X.env X.xe) (k:X.calm=true) (i:Jb K X (.Tuple elts x1 tpos) g m) (e:ly K E X A t gb) (l:X.K=K:=by rfl) (d:Gl X "zip" :=by rfl) (b:starEach [a,.Name x p2] X.env=[(false,eval a X.env),(false,eval (.Name x p2) X.env)]:=by rfl)
  (c:starEach [.Name x p2] X.env=[(false,eval (.Name x p2) X.env)]:=by rfl) (o:∀z,foldedSetIterable (.Call (.Name "zip" p) [a,.Name x p2] [] pos) X.env z=pure z:=by intro _;rfl) :
  uL K E X (.For (.Tuple elts x1 tpos) (.Call (.Name "zip" p) [a,.Name x p2] [] pos) A [] pos') (qI (Aj K (lN ta (lN (ja j) qe))) g t) (wc fa j m gb):=by
 subst l;refine⟨oq r k (λq s n H R I h=>?_) i.pg e.ps o,FD f.me i.mg e.ms⟩;obtain⟨B,y,h⟩:=h;exact EY d u (kc f.pe (kc v pT c) b) b c q s n H R I h
end
end L3
namespace CL
open PySem L2 L3
structure Cs where
 Cutting:Addr
 Desk:Addr
 CutError:Addr
 NoCutting:Addr
 NoTable:Addr
 NoFraction:Addr
 NoSpot:Addr
 NoSigns:Addr
 NoLand:Addr
 NoFace:Addr
 NoNumber:Addr
 NoText:Addr
 NoDeed:Addr
def oM(c:Cs):En->O:=(fg (setO 2 (iQ (eP qk (ei 0) (ei 1))))
  (fg (setO 0 (iQ (ei 1)))
  (setO 1 (iQ (ei 2)))))
def pO(c:Cs):En->O:=(fg (λa=>jY (gG (eP (fC true) (ei 1) (cM (.int 0)))) (oM c) ((λa=>match a with|_::some (.p (.int j))::_=>j.natAbs+1|_=>0) a) a)
  (gH (jq BN (ee (ei 0) eC))))
def gj(c:Cs):List T->M T:=mm 2 3 (pO c)
def k9(c:Cs):En->O:=(fg (ml (gG (eP L9 (ei 1) (jq ji (ee (ei 0) eC)))) (gH (eP il (ei 0) (ei 1))) gx)
  (gH (cM (.int 0))))
def gh(c:Cs):List T->M T:=mm 2 2 (k9 c)
def xB(c:Cs):En->O:=(gH (EI (qG "int" (ei 0)) (BP (qG "bool" (ei 0)))))
def kU(c:Cs):List T->M T:=mm 1 1 (xB c)
def yh(c:Cs):En->O:=(gH (EI (qG "int" (ei 0)) (BP (qG "bool" (ei 0)))))
def iz(c:Cs):List T->M T:=mm 1 1 (yh c)
def AI(c:Cs):En->O:=(fg (ml (gG (eP Ik (ei 0) (cM (.int 0)))) (gH (cM (.int 1))) gx)
  (fg (ml (gG (eP L9 (ei 0) (cM (.int 0)))) (gH (BZ (λi=>.int (-i)) (cM (.int 1)))) gx)
  (gH (cM (.int 0)))))
def lH(c:Cs):List T->M T:=mm 1 1 (AI c)
def By(c:Cs):En->O:=(gH (EI (eQ (ee (ei 0) eC) (iz c)) (MQ Mr Mr (cM (.int 1)) (ei 0) (cM (.int 3)))))
def kj(c:Cs):List T->M T:=mm 1 1 (By c)
def pX(c:Cs):Pe->M T:=(eQ (ee (ei 0) eC) (iz c))
def ql(c:Cs):Pe->M T:=(eP (fC true) (ei 0) (cM (.int 0)))
def Cg(c:Cs):En->O:=(fg (ml (BB (mn (gG (qG "tuple" (ei 1)))) (gG (eP (fC true) (jq ji (ee (ei 1) eC)) (eP ig (ei 0) (cM (.int 1)))))) (gH (cM (.bl false))) gx)
  (fg (ml (mn (gG (jq qM (ee (hW (iR [none] (gI (ei 1)) (iC 0) (λ_=>.ok true) (pX c))) eC)))) (gH (cM (.bl false))) gx)
  (gH (jq oZ (ee (hW (iR [none] (gI (lI (ei 1) (λ_=>.ok none) (iZ (ei 0)))) (iC 0) (λ_=>.ok true) (ql c))) eC)))))
def lz(c:Cs):List T->M T:=mm 2 2 (Cg c)
def mU(c:Cs):En->O:=(setO 1 (iQ (eP ig (ei 1) (cM (.int 1)))))
def tP(c:Cs):En->O:=(fg (setO 1 (iQ (cM (.int 0))))
  (fg (λa=>jY (gG (eP (fC false) (eP il (ei 0) (ei 1)) (cM (.int 0)))) (mU c) ((λa=>match a with|some (.p (.tup ts))::_=>ts.length+1|_=>0) a) a)
  (gH (ei 1))))
def iL(c:Cs):List T->M T:=mm 1 2 (tP c)
def nR(c:Cs):Pe->M T:=(eP (fC false) (eP kC (ei 0) (eP il (ei 2) (ei 3))) (eP kC (ei 1) (eP il (ei 4) (ei 3))))
def uR(c:Cs):En->O:=(fg (setO 2 (iQ (eQ (ee (ei 0) eC) (iL c))))
  (gH (jq qM (ee (hW (iR [none,none,some 1,some 2,some 0] (lG (ee (ei 0) (ee (ei 1) eC))) (mW 2 (f9 (iC 0) (f9 (iC 1) mX))) (λ_=>.ok true) (nR c))) eC))))
def jw(c:Cs):List T->M T:=mm 2 3 (uR c)
def l4(c:Cs):Pe->M T:=(eQ (ee (ei 0) (ee (ei 1) eC)) (jw c))
def xN(c:Cs):En->O:=(fg (ml (BB (gG (eP KP (jq ji (ee (ei 1) eC)) (cM (.int 7)))) (mn (gG (eQ (ee (ei 0) (ee (ei 2) eC)) (lz c))))) (gH (cM (.bl false))) gx)
  (gH (BP (jq oZ (ee (hW (iR [none,some 2] (gI (ei 1)) (iC 0) (λ_=>.ok true) (l4 c))) eC)))))
def i9(c:Cs):List T->M T:=mm 3 3 (xN c)
def md(c:Cs):En->O:=(fg (ml (mn (gG (eQ (ee (ei 0) (ee (ei 2) (ee (ei 3) eC))) (i9 c)))) (λ_=>.bad) gx)
  (pH 2 (iQ (jq jj (ee (ei 3) eC)))))
def sd(c:Cs):En->O:=(fg (ml (BB (mn (gG (eQ (ee (ei 0) eC) (kj c)))) (mn (gG (qG "list" (ei 1))))) (λ_=>.bad) gx)
  (fg (lK 2 (n5 (lstM eC)))
  (fg (qO (gI (ei 1)) (km 3) (md c))
  (gH (jq jj (ee (ei 2) eC))))))
def gU(c:Cs):List T->M T:=mm 2 4 (sd c)
def gR(c:Cs):List T->M T:=tY c.Cutting 2 "own_cuts" "own_dims" (eQ (ee (ei 1) (ee (ei 2) eC)) (gU c)) (ei 1)
def sf(c:Cs):En->O:=(gH (yt c.Cutting "own_dims" (ei 0)))
def gW(c:Cs):List T->M T:=mm 1 1 (sf c)
def sx(c:Cs):En->O:=(sR (FF mE (ee (yt c.Cutting "own_cuts" (ei 0)) eC)))
def gY(c:Cs):List T->M (List T):=uc 1 1 (sx c)
def xr(c:Cs):En->O:=(setO 3 (iQ (eP se (ei 3) (ei 2))))
def yx(c:Cs):En->O:=(fg (ml (gG (eP KP (ei 0) (eP GY (cM (.int 10)) (cM (.int 18))))) (fg (setO 3 (iQ (ei 0)))
  (fg (qx (iG (ee (ei 1) eC)) (km 4) (xr c))
  (gH (eP qk (ei 3) (ei 2))))) gx)
  (fg (setO 5 (iQ (eP qk (eP kC (eP ig (eP ig (eP qk (ei 0) (cM (.int 1000000007))) (eP kC (cM (.int 1009)) (ei 1))) (cM (.int 17))) (cM (.int 69621))) (cM (.int 2147483647)))))
  (fg (setO 5 (iQ (eP qk (eP ig (eP ig (eP kC (ei 5) (ei 5)) (eP kC (cM (.int 40503)) (ei 1))) (cM (.int 5))) (cM (.int 2147483629)))))
  (gH (eP qk (eP se (eP qk (eP kC (ei 5) (cM (.int 48271))) (cM (.int 2147483647))) (cM (.int 32))) (ei 2))))))
def fj(c:Cs):List T->M T:=mm 3 6 (yx c)
def qD(c:Cs):En->O:=(ml (gG (eP (fC true) (eP kC (eP il (ei 0) (ei 2)) (eP il (ei 1) (ei 3))) (eP kC (eP il (ei 0) (ei 3)) (eP il (ei 1) (ei 2))))) (gH (cM (.bl false))) gx)
def wV(c:Cs):En->O:=(qx (iG (ee (ei 2) eC)) (km 3) (qD c))
def yE(c:Cs):En->O:=(fg (qx (iG (ee (jq ji (ee (ei 0) eC)) eC)) (km 2) (wV c))
  (gH (cM (.bl true))))
def iU(c:Cs):List T->M T:=mm 2 4 (yE c)
def uk(c:Cs):En->O:=(fg (setO 1 (iQ (eQ (ee (ei 1) (ee (ei 2) eC)) (gj c))))
  (ml (gG (eP (fC false) (ei 1) (cM (.int 1)))) (gH (ei 0)) gx))
def AH(c:Cs):Pe->M T:=(eP se (ei 0) (ei 1))
def E7(c:Cs):En->O:=(fg (setO 1 (iQ (cM (.int 0))))
  (fg (qO (gI (ei 0)) (km 2) (uk c))
  (fg (ml (gG (eP (fC false) (ei 1) (cM (.int 0)))) (gH (ei 0)) gx)
  (gH (jq jj (ee (hW (iR [none,some 1] (gI (ei 0)) (iC 0) (λ_=>.ok true) (AH c))) eC))))))
def mx(c:Cs):List T->M T:=mm 1 3 (E7 c)
def yY(c:Cs):Pe->M T:=(eP ig (eP kC (ei 2) (ei 0)) (eP kC (ei 3) (ei 1)))
def A9(c:Cs):En->O:=(fg (ml (gG (eP (fC false) (eP il (ei 0) (ei 2)) (cM (.int 0)))) (gH (ei 0)) gx)
  (fg (setO 3 (iQ (jq BN (ee (eP il (ei 1) (ei 2)) eC))))
  (fg (setO 4 (iQ (eP kC (BZ (λi=>.int (-i)) (eP il (ei 0) (ei 2))) (eQ (ee (eP il (ei 1) (ei 2)) eC) (lH c)))))
  (gH (eQ (ee (jq jj (ee (hW (iR [none,none,some 3,some 4] (lG (ee (ei 0) (ee (ei 1) eC))) (mW 2 (f9 (iC 0) (f9 (iC 1) mX))) (λ_=>.ok true) (yY c))) eC)) eC) (mx c))))))
def iD(c:Cs):List T->M T:=mm 3 5 (A9 c)
def oh(c:Cs):En->O:=(setO 0 (iQ (eQ (ee (ei 0) (ee (ei 3) (ee (ei 2) eC))) (iD c))))
def BD(c:Cs):En->O:=(fg (qO (gI (ei 1)) (j8 2 (fH (km 2) (fH (km 3) j7))) (oh c))
  (gH (ei 0)))
def ia(c:Cs):List T->M T:=mm 2 4 (BD c)
def nG(c:Cs):Pe->M T:=(nB (ee (ei 0) (ee (eQ (ee (ei 1) (ee (ei 2) (ee (ei 3) eC))) (iD c)) eC)))
def vO(c:Cs):En->O:=(sR (wC (hW (iR [none,none,some 1,some 2] (gI (ei 0)) (mW 2 (f9 (iC 0) (f9 (iC 1) mX))) (λ_=>.ok true) (nG c))) (hW (lstM (ee (nB (ee (ei 2) (ee (ei 1) eC))) eC)))))
def iE(c:Cs):List T->M (List T):=uc 3 3 (vO c)
def j4(c:Cs):Pe->M T:=(ei 0)
def iI(c:Cs):En->O:=(fg (setO 5 (iQ (eQ (ee (ei 4) (ee (ei 2) eC)) (ia c))))
  (fg (setO 6 (iQ (hW (iR [none,some 5] (iG (ee (ei 1) eC)) (iC 0) (gG (eP (fC true) (eP il (ei 1) (ei 0)) (cM (.int 0)))) (j4 c)))))
  (ml (gG (eP (fC false) (ei 6) (hW (lstM eC)))) (pH 3 (iQ (ei 5))) (setO 2 (iQ (hW (iY (ee (ei 2) (ee (ei 5) (ee (eP il (ei 6) (cM (.int 0))) eC))) (iE c))))))))
def nY(c:Cs):En->O:=(fg (setO 2 (iQ (hW (lstM eC))))
  (fg (lK 3 (n5 (lstM eC)))
  (fg (qO (gI (ei 0)) (km 4) (iI c))
  (gH (nB (ee (ei 2) (ee (ei 3) eC)))))))
def gy(c:Cs):List T->M T:=mm 2 7 (nY c)
def yD(c:Cs):Pe->M T:=(eP il (ei 1) (ei 0))
def sT(c:Cs):Pe->M T:=(jq oZ (ee (ei 0) eC))
def sN(c:Cs):Pe->M T:=(ei 0)
def A3(c:Cs):En->O:=(fg (setO 3 (iQ (eQ (ee (hW (iR [none,some 0] (gI (ei 2)) (iC 0) (λ_=>.ok true) (yD c))) (ee (ei 1) eC)) (gy c))))
  (fg (ml (gG (jq oZ (ee (hW (iR [none] (gI (eP il (ei 3) (cM (.int 1)))) (iC 0) (λ_=>.ok true) (sT c))) eC))) (gH (cM .non)) gx)
  (fg (setO 4 (iQ (eP il (ei 3) (cM (.int 0)))))
  (fg (setO 5 (iQ (hW (iR [none,none,some 4] (rT (ee (ei 0) eC)) (mW 2 (f9 (iC 0) (f9 (iC 1) mX))) (mn (gG (jq oZ (ee (eQ (ee (ei 1) (ee (ei 2) eC)) (ia c)) eC)))) (sN c)))))
  (gH (nB (ee (eP tF (ei 1) (jq ji (ee (ei 4) eC))) (ee (jq jj (ee (ei 5) eC)) eC))))))))
def gQ(c:Cs):List T->M T:=mm 3 6 (A3 c)
def Ht(c:Cs):En->O:=(fg (setO 1 (iQ (hW (r0 c.Cutting "cuts" (ei 0) eC (gY c)))))
  (fg (setO 2 (iQ (xM c.Cutting "dims" (ei 0) eC (gW c))))
  (λa=>if a.length=7 then BS (eQ (ee (ei 1) (ee (ei 2) (ee (hW (lstM eC)) eC))) (gQ c)) (eQ (ee (ei 1) (ee (ei 2) (ee (eP ig (eP il (ei 5) (cM (.int 1))) (nB (ee (ei 4) eC))) eC))) (gQ c)) (iG (ee (jq ji (ee (ei 1) eC)) eC)) 3 4 5 6 a else .bad)))
def oX(c:Cs):List T->M (List T):=uc 1 7 (Ht c)
def oG(c:Cs):Pe->M T:=(eP tF (eQ (ee (ei 2) (ee (eP ig (eP ig (cM (.int 4)) (eP kC (cM (.int 4)) (ei 3))) (ei 0)) (ee (eP ig (eP kC (cM (.int 2)) (ei 1)) (cM (.int 1))) eC))) (fj c)) (ei 1))
def pI(c:Cs):Pe->M T:=(eP ig (ei 0) (eP kC (ei 2) (ei 1)))
def xP(c:Cs):En->O:=(fg (setO 4 (iQ (eP il (hW (lstM (ee (cM (.int 1)) (ee (cM (.int 2)) (ee (cM (.int 3)) (ee (cM (.int 5)) (ee (cM (.int 1000)) eC))))))) (eQ (ee (ei 0) (ee (cM (.int 2)) (ee (cM (.int 5)) eC))) (fj c)))))
  (fg (lK 5 (n5 (iR [none,some 4,some 0,some 1] (iG (ee (eP ig (ei 2) (cM (.int 1))) eC)) (iC 0) (λ_=>.ok true) (oG c))))
  (fg (setO 6 (iQ (eQ (ee (ei 0) (ee (eP ig (cM (.int 40)) (ei 1)) (ee (cM (.int 6)) eC))) (fj c))))
  (fg (ml (tq (gG (eP (fC false) (ei 6) (cM (.int 1)))) (gG (eP (fC true) (ei 3) (hW (lstM eC))))) (lK 5 (qP (wC (hW (FF mE (ee (lI (eP il (ei 3) (eQ (ee (ei 0) (ee (eP ig (cM (.int 50)) (ei 1)) (ee (jq ji (ee (ei 3) eC)) eC))) (fj c))) (λ_=>.ok none) (iZ (ei 2))) eC))) (lI (ei 5) (iZ (ei 2)) (λ_=>.ok none))))) gx)
  (fg (ml (gG (eP (fC false) (ei 6) (cM (.int 2)))) (vk 5 (s9 (ei 2)) (s9 (cM (.int 0)))) gx)
  (fg (ml (tq (gG (eP (fC false) (ei 6) (cM (.int 3)))) (gG (eP Ik (jq ji (ee (ei 3) eC)) (cM (.int 1))))) (fg (setO 7 (iQ (eP il (ei 3) (eQ (ee (ei 0) (ee (eP ig (cM (.int 50)) (ei 1)) (ee (eP tF (jq ji (ee (ei 3) eC)) (cM (.int 1))) eC))) (fj c)))))
  (fg (setO 8 (iQ (eP ig (cM (.int 1)) (eQ (ee (ei 0) (ee (eP ig (cM (.int 60)) (ei 1)) (ee (cM (.int 3)) eC))) (fj c)))))
  (lK 5 (n5 (iR [none,none,some 8] (lG (ee (eP il (ei 3) (BZ (λi=>.int (-i)) (cM (.int 1)))) (ee (ei 7) eC))) (mW 2 (f9 (iC 0) (f9 (iC 1) mX))) (λ_=>.ok true) (pI c)))))) gx)
  (fg (ml (gG (eP (fC false) (lI (ei 5) (λ_=>.ok none) (iZ (ei 2))) (hW (Dy (hW (lstM (ee (cM (.int 0)) eC))) (ei 2))))) (vk 5 (s9 (eQ (ee (ei 0) (ee (eP ig (cM (.int 60)) (ei 1)) (ee (ei 2) eC))) (fj c))) (s9 (cM (.int 1)))) gx)
  (gH (jq jj (ee (ei 5) eC))))))))))
def iy(c:Cs):List T->M T:=mm 4 9 (xP c)
def kH(c:Cs):Pe->M T:=(ei 0)
def mw(c:Cs):En->O:=(fg (setO 5 (s9 (eQ (ee (ei 0) (ee (ei 4) (ee (ei 2) (ee (ei 3) eC)))) (iy c))))
  (ml (gG (eP (fC false) (hW (iR [none,some 5] (gI (ei 3)) (iC 0) (gG (eQ (ee (ei 0) (ee (ei 1) eC)) (iU c))) (kH c))) (hW (lstM eC)))) (pH 3 (iQ (ei 5))) gx))
def tE(c:Cs):En->O:=(fg (setO 2 (iQ (eP il (hW (lstM (ee (cM (.int 1)) (ee (cM (.int 2)) (ee (cM (.int 2)) (ee (cM (.int 3)) (ee (cM (.int 3)) eC))))))) (eQ (ee (ei 0) (ee (cM (.int 0)) (ee (cM (.int 5)) eC))) (fj c)))))
  (fg (lK 3 (n5 (lstM eC)))
  (fg (qx (iG (ee (eQ (ee (ei 0) (ee (cM (.int 1)) (ee (eP ig (ei 1) (cM (.int 1))) eC))) (fj c)) eC)) (km 4) (mw c))
  (gH (nB (ee (ei 2) (ee (ei 3) eC)))))))
def ib(c:Cs):List T->M T:=mm 2 6 (tE c)
def nN(c:Cs):Pe->M T:=(eP tF (eP kC (eP il (ei 3) (ei 4)) (ei 0)) (eP kC (ei 2) (ei 1)))
def jJ(c:Cs):En->O:=(fg (setO 6 (iQ (eP il (ei 3) (ei 4))))
  (setO 3 (iQ (hW (iR [none,none,some 6,some 5,some 4] (lG (ee (ei 3) (ee (ei 5) eC))) (mW 2 (f9 (iC 0) (f9 (iC 1) mX))) (λ_=>.ok true) (nN c))))))
def nE(c:Cs):Pe->M T:=(ei 0)
def lq(c:Cs):En->O:=(fg (setO 3 (iQ (hW (FF mE (ee (ei 2) eC)))))
  (fg (ng 1 (j8 2 (fH (km 4) (fH (km 5) j7))) (jJ c))
  (fg (setO 7 (iQ (hW (iR [none,some 3] (iG (ee (jq ji (ee (ei 3) eC)) eC)) (iC 0) (gG (eP (fC true) (eP il (ei 1) (ei 0)) (cM (.int 0)))) (nE c)))))
  (ml (gG (eP (fC true) (ei 7) (hW (lstM eC)))) (pH 1 (iQ (nB (ee (eP il (ei 7) (cM (.int 0))) (ee (ei 3) eC))))) gx))))
def uY(c:Cs):En->O:=(fg (lK 1 (n5 (lstM eC)))
  (fg (qO (gI (ei 0)) (km 2) (lq c))
  (gH (jq ji (ee (ei 1) eC)))))
def fU(c:Cs):List T->M T:=mm 1 8 (uY c)
def xK(c:Cs):Pe->M T:=(eP il (ei 1) (ei 0))
def mH(c:Cs):Pe->M T:=(lI (eP il (ei 1) (ei 0)) (λ_=>.ok none) (iZ (ei 2)))
def qA(c:Cs):Pe->M T:=(eP il (ei 1) (ei 0))
def qB(c:Cs):Pe->M T:=(ei 0)
def yj(c:Cs):En->O:=(fg (setO 3 (iQ (eQ (ee (hW (iR [none,some 1] (gI (ei 2)) (iC 0) (λ_=>.ok true) (xK c))) eC) (fU c))))
  (fg (ml (gG (eP (fC true) (eQ (ee (hW (iR [none,some 1,some 0] (gI (ei 2)) (iC 0) (λ_=>.ok true) (mH c))) eC) (fU c)) (ei 3))) (gH (cM .non)) gx)
  (fg (setO 4 (iQ (hW (iR [none,some 3,some 1,some 2] (iG (ee (jq ji (ee (ei 1) eC)) eC)) (iC 0) (gG (eP (fC false) (eQ (ee (hW (wC (hW (iR [none,some 2] (gI (ei 3)) (iC 0) (λ_=>.ok true) (qA c))) (hW (lstM (ee (eP il (ei 2) (ei 0)) eC))))) eC) (fU c)) (ei 1))) (qB c)))))
  (gH (nB (ee (eP tF (ei 0) (ei 3)) (ee (jq jj (ee (ei 4) eC)) eC)))))))
def iT(c:Cs):List T->M T:=mm 3 5 (yj c)
def pG(c:Cs):Pe->M T:=(ei 0)
def xQ(c:Cs):En->O:=(λa=>if a.length=5 then EO (eQ (ee (ei 0) (ee (ei 1) (ee (hW (iR [none,some 3] (iG (ee (jq ji (ee (ei 1) eC)) eC)) (iC 0) (gG (eP (fC false) (eP wm (eP Dp (ei 1) (ei 0)) (cM (.int 1))) (cM (.int 1)))) (pG c))) eC))) (iT c)) (iG (ee (eP Gp (cM (.int 1)) (jq ji (ee (ei 1) eC))) eC)) 2 3 4 a else .bad)
def i6(c:Cs):List T->M (List T):=uc 2 5 (xQ c)
def zq(c:Cs):Pe->M T:=(eP (yB false) (ei 0) (eP il (ei 1) (cM (.int 1))))
def A5(c:Cs):En->O:=(gH (jq qM (ee (hW (iR [none,some 0] (gI (eP il (ei 1) (cM (.int 1)))) (iC 0) (λ_=>.ok true) (zq c))) eC)))
def kl(c:Cs):List T->M T:=mm 2 2 (A5 c)
def j5(c:Cs):Pe->M T:=(ei 1)
def j6(c:Cs):En->O:=(fg (xq 3 (qP (iR [none,none,some 2] (lG (ee (ei 0) (ee (ei 1) eC))) (mW 2 (f9 (iC 0) (f9 (iC 1) mX))) (gG (eQ (ee (ei 2) (ee (ei 0) eC)) (kl c))) (j5 c))))
  (pH 1 (iQ (BZ (λi=>.int (-i)) (jq BV (ee (ei 3) eC))))))
def nU(c:Cs):En->O:=(fg (lK 1 (n5 (lstM (ee (cM (.int 1)) eC))))
  (fg (qO (gI (lI (ei 0) (iZ (cM (.int 1))) (λ_=>.ok none))) (km 2) (j6 c))
  (oY 1)))
def gw(c:Cs):List T->M (List T):=uc 1 4 (nU c)
def rE(c:Cs):En->O:=(sR (iY (ee (hW (iY (ee (ei 0) eC) (oX c))) eC) (gw c)))
def iA(c:Cs):List T->M (List T):=uc 1 1 (rE c)
def lR(c:Cs):Pe->M T:=(eP (yB false) (ei 0) (ei 1))
def lM(c:Cs):Pe->M T:=(ei 1)
def lJ(c:Cs):En->O:=(fg (xq 4 (qP (iR [none,none,some 3] (lG (ee (ei 0) (ee (ei 1) eC))) (mW 2 (f9 (iC 0) (f9 (iC 1) mX))) (gG (jq qM (ee (hW (iR [none,some 2] (gI (eP il (ei 0) (cM (.int 1)))) (iC 0) (λ_=>.ok true) (lR c))) eC))) (lM c))))
  (pH 1 (iQ (BZ (λi=>.int (-i)) (jq BV (ee (ei 4) eC))))))
def qK(c:Cs):En->O:=(fg (lK 1 (n5 (lstM (ee (cM (.int 1)) eC))))
  (fg (qO (gI (lI (ei 0) (iZ (cM (.int 1))) (λ_=>.ok none))) (j8 2 (fH (km 2) (fH (km 3) j7))) (lJ c))
  (oY 1)))
def gJ(c:Cs):List T->M (List T):=uc 1 5 (qK c)
def ub(c:Cs):Pe->M T:=(eQ (ee (eQ (ee (ei 1) (ee (ei 0) eC)) (gh c)) (ee (cM (.int 6)) eC)) (ib c))
def uC(c:Cs):Pe->M T:=(eQ (ee (ei 0) eC) (kU c))
def qg(c:Cs):En->O:=(ml (BB (gG (eP (fC false) (ei 7) (cM (.int 0)))) (gG (eP (fC true) (eP Ik (ei 7) (cM (.int 0))) (eP (fC false) (eP qk (eP tF (ei 2) (eP il (ei 6) (cM (.int 0)))) (cM (.int 2))) (cM (.int 0)))))) (gH (cM (.bl false))) gx)
def t9(c:Cs):En->O:=(fg (lK 4 (n5 (iY (ee (eQ (ee (ei 2) (ee (hW (FF mE (ee (ei 3) eC))) eC)) (gR c)) eC) (iA c))))
  (fg (setO 5 (iQ (hW (iY (ee (ei 2) (ee (ei 3) eC)) (i6 c)))))
  (fg (ml (BB (mn (gG (qG "list" (ei 4)))) (gG (eP (fC true) (ei 4) (hW (iY (ee (ei 5) eC) (gJ c)))))) (gH (cM (.bl false))) gx)
  (fg (ml (mn (gG (jq qM (ee (hW (iR [none] (gI (ei 4)) (iC 0) (λ_=>.ok true) (uC c))) eC)))) (gH (cM (.bl false))) gx)
  (fg (wc (ei 5) 4 (j8 2 (fH (km 6) (fH (km 7) j7))) (qg c))
  (pH 4 (iQ (cM (.int 0)))))))))
def DQ(c:Cs):En->O:=(fg (setO 1 (iQ (hW (iR [none,some 0] (iG (ee (cM (.int 2)) eC)) (iC 0) (λ_=>.ok true) (ub c)))))
  (fg (qO (gI (eP ig (ei 1) (lI (ei 1) (λ_=>.ok none) (iZ (cM (.int 1)))))) (j8 2 (fH (km 2) (fH (km 3) j7))) (t9 c))
  (gH (cM (.bl true)))))
def oV(c:Cs):List T->M T:=mm 1 8 (DQ c)
variable {c:Cs}
def ze ns (k:Nat):∃v,gh c [.scr ns,.int k]=.ok (.int v)/\(v=0\/v∈ns):=by
 by_cases h:(k:Int)<ns.length
 .obtain⟨a,e,b⟩:=vn ns k (by omega) h;exact⟨a,by simp[gh,k9,h,e],.inr b⟩
 .exact⟨0,by simp[gh,k9,h],.inl rfl⟩
def i5(h:i.natAbs<2 ^ 64):kC (.int i) (.int j)=.ok (.int (i*j)):=jL (BR h)
def Gu cell (k:Nat) b (A:0<b) (D:b<2 ^ 62) (K:k<=1000000):∃d,fj c [.int cell,.int (k:Int),.int b]=.ok (.int d)/\0<=d/\d<b:=by
 have f:b≠0:=by omega
 have z:∀x:Int,0<=x.fmod b/\x.fmod b<b:=λx=>⟨cN x A,cO x A⟩;have l:GY (.int 10) (.int 18)=.ok (.int 1000000000000000000):=by simp[GY,hZ]
 by_cases h:(1000000000000000000:Int)<=cell
 .obtain⟨s,e,v,w,rfl⟩:=i8 (m:=km 4) (g:=setO 3 (iQ (eP se (ei 3) (ei 2)))) (λ(i:Nat)=>T.int (i:Int)) (λ_ s=>∃v w,s=[some (.p (.int cell)),some (.p (.int k)),some (.p (.int b)),some (.p (.int v)),w,none])
   (List.range k) 0 [some (.p (.int cell)),some (.p (.int k)),some (.p (.int b)),some (.p (.int cell)),none,none] ⟨_,_,rfl⟩ (by rintro i a s J ⟨v,w,rfl⟩;have F:Builtin.divisionGoesByPylong v b=false:=Bn.noPy (n:=62) (by unfold Bn;omega) (by decide);exact⟨_,_,rfl,.inl (fv (by simp[rO f F];rfl) rfl),_,_,rfl⟩)
  refine⟨v.fmod b,gd rfl ?_,z v⟩;have o:BW (k:Int)=true:=kn (by omega);refine jX (hU (by simp[l,h]) (eI (fv (by simp) rfl) (eI (nc (by simp[o,HB]) e) (fE (by simp[nj f]))))) rfl
 .have r:∀x y:Int,0<y->0<=x.fmod y/\x.fmod y<y:=λx y B=>⟨cN x B,cO x B⟩;have I:=r cell 1000000007 (by decide);have C:=r ((cell.fmod 1000000007+1009*k+17)*69621) 2147483647 (by decide);generalize q:((cell.fmod 1000000007+1009*k+17)*69621).fmod 2147483647=s1 at C;have H:=r (s1*s1+40503*k+5) 2147483629 (by decide);generalize u:(s1*s1+40503*k+5).fmod 2147483629=s2 at H;have E:Builtin.divisionGoesByPylong ((s2*48271).fmod 2147483647) 32=false:=Bn.noPy (n:=62) (by unfold Bn;decide) (by decide);refine⟨(((s2*48271).fmod 2147483647).fdiv 32).fmod b,gd rfl ?_,z _⟩;refine eI (g9 (by simp[l,h]) rfl) (eI (fv (t:=.int s1) ?_ rfl) (eI (fv (t:=.int s2) ?_ rfl) (fE ?_)))
  .rw[<-q];simp[nj,i5 (i:=1009) (j:=k) (by decide),i5 (i:=cell.fmod 1000000007+1009*k+17) (j:=69621) (by omega)]
  .rw[<-u];simp[nj,i5 (i:=40503) (j:=k) (by decide),i5 (i:=s1) (j:=s1) (by omega)]
  .simp[nj,f,rO (j:=32) (by decide) E,i5 (i:=s2) (j:=48271) (by omega)]
def dr(c:Cs)(a k b:Int):Int:=match fj c [.int a,.int k,.int b] with
 |.ok (.int d)=>d
 |_=>0
def jI cell k b (f:0<b) (a:b<2 ^ 62) (h:0<=k) (j:k<=1000000):fj c [.int cell,.int k,.int b]=.ok (.int (dr c cell k b))/\0<=dr c cell k b/\dr c cell k b<b:=by
 obtain⟨d,e,g,i⟩:=Gu cell k.toNat b f a (by omega);rw[Int.toNat_of_nonneg h]at e;have:dr c cell k b=d:=by unfold dr;rw[e]
 rw[this];exact⟨e,g,i⟩
def Aw(l:LI)(i:Int)(f:0<=i)(b:i<l.length):∃w,il (.lst (l.map T.int)) (.int i)=.ok (.int w)/\w∈l:=by obtain⟨a,e,d⟩:=vn l i f b;exact⟨a,by simp[lY,e],d⟩
def Lf i:(if i<0 then -i else i)=(i.natAbs:Int):=by split<;>omega
def oU a b:gj c [.int a,.int b]=.ok (.int (Cu.G a b)):=by
 obtain⟨d,e,x,w,rfl,i⟩:=n8 (c:=gG (eP (fC true) (ei 1) (cM (.int 0)))) (g:=fg (setO 2 (iQ (eP qk (ei 0) (ei 1)))) (fg (setO 0 (iQ (ei 1))) (setO 1 (iQ (ei 2)))))
  (λd=>∃x y w,d=[some (.p (.int x)),some (.p (.int y)),w]/\Cu.G x y=Cu.G a b) (λd=>match d with|_::some (.p (.int j))::_=>j.natAbs|_=>0)
  (λd=>∃x w,d=[some (.p (.int x)),some (.p (.int 0)),w]/\Cu.G x 0=Cu.G a b) (by
   rintro d ⟨x,y,w,rfl,h⟩;by_cases f:y=0
   .subst f;exact .inl ⟨by simp,_,_,rfl,h⟩
   .refine .inr ⟨by simp[f],_,.inl (eI (fv (t:=.int (x.fmod y)) (by simp[nj f]) rfl) (eI (fv (by simp) rfl) (fv (by simp) rfl))),⟨y,x.fmod y,_,rfl,?_⟩,?_⟩
    .rw[<-h];exact Cu.IL x y
    .exact Cu.AL x y f)
  (b.natAbs+1) [some (.p (.int a)),some (.p (.int b)),none] ⟨a,b,none,rfl,rfl⟩ (bC _)
 refine gd rfl (eI e (fE ?_));rw[Cu.Cw]at i;simp[Lf,i]
def HL{t g:Int}(b:g ∣ t)(a:g≠0):(t.fdiv g).natAbs<=t.natAbs:=by obtain⟨k,rfl⟩:=b;rw[de k a,aY];exact Nat.le_mul_of_pos_left _ (by omega)
noncomputable def KG:T->Bool
 |.scr _=>false
 |.obj _ _=>false
 |.dic _=>false
 |_=>true
noncomputable def isInt:T->Bool
 |.int _=>true
 |_=>false
def xF x (h:KG x=true):iz c [x]=.ok (.bl (isInt x)):=by cases x<;>first|(simp[KG]at h;done)|rfl
def FN x (h:KG x=true):Jy "tuple" x=.ok (.bl (nQ x)):=by cases x<;>first|(simp[KG]at h;done)|rfl
noncomputable def Bu(x:Int):Int:=if 0<x then 1 else if x<0 then -1 else 0
def Bd x:-1<=Bu x/\Bu x<=1:=by unfold Bu;split<;>(try split)<;>lia
def yN x:lH c [.int x]=.ok (.int (Bu x)):=by
 unfold Bu;by_cases h:0<x
 .rw[aQ h];exact gd rfl (jX (hU (by simp[h]) (fE (by simp))) rfl)
 .rw[aR h];by_cases a:x<0
  .rw[aQ a];exact gd rfl (eI (g9 (by simp[h]) rfl) (jX (hU (by simp[a]) (fE (by simp))) rfl))
  .rw[aR a];exact gd rfl (eI (g9 (by simp[h]) rfl) (eI (g9 (by simp[a]) rfl) (fE (by simp))))
def pK(bs:List Bool):qM [.lst (bs.map T.bl)]=.ok (.bl (bs.all id)):=by simp
def vf(bs:List Bool):oZ [.lst (bs.map T.bl)]=.ok (.bl (bs.any id)):=by simp
noncomputable def nM(d:Nat):T->Bool
 |.tup ts=>decide (ts.length=d+1)&&ts.all isInt&&(match jC ts with|some ns=>(ns.take d).any (· != 0)|none=>false)
 |_=>false
theorem xT:∀ts,ts.all isInt=true->∃a:LI,ts=a.map T.int
 |[],_=>⟨[],rfl⟩
 |t::ts,h=>by
  rw[bN,bL]at h;obtain⟨a,e⟩:=xT ts h.2;cases t with
  |int i=>exact⟨i::a,by rw[e];rfl⟩
  |_=>simp[isInt]at h
def A4(d:Nat)(r:d<=10) x (l:KG x=true) (o:∀ts,x=.tup ts->ts.length<1000/\∀t∈ts,KG t=true):lz c [.int d,x]=.ok (.bl (nM d x)):=by
 have sz:1000<sizeLine:=by decide
 by_cases f:nQ x=true
 .cases x with
  |tup ts=>
   obtain⟨q,p⟩:=o ts rfl;by_cases g:ts.length=d+1
   .have j:iR [none] (gI (ei 1)) (iC 0) (λ_=>.ok true) (pX c) (vw (fQ 2 [.int d,.tup ts]))=.ok ((ts.map isInt).map T.bl):=by rw[vV ts id (λt=>T.bl (isInt t)) (by simp) (by lia) λt f=>⟨_,rfl,rfl,by simp[pX,xF t (p t f)]⟩];simp
    have i:(L3.BB (L3.mn (gG (qG "tuple" (ei 1)))) (gG (eP (fC true) (jq ji (ee (ei 1) eC)) (eP ig (ei 0) (cM (.int 1)))))) (vw (fQ 2 [.int d,.tup ts]))=.ok false:=by simp[g]
    by_cases e:ts.all isInt=true
    .obtain⟨b,rfl⟩:=xT ts e;have h:b.length=d+1:=by simpa using g
     have a:nM d (.tup (b.map T.int))=(b.take d).any (· != 0):=by simp[nM,h,e]
     rw[a];have m:iR [none] (gI (lI (ei 1) (λ_=>.ok none) (iZ (ei 0)))) (iC 0) (λ_=>.ok true) (ql c) (vw (fQ 2 [.int d,.tup (b.map T.int)]))=.ok (((b.take d).map λn=>n != 0).map T.bl):=by rw[vV (b.take d) T.int (λn=>T.bl (n != 0)) (C6 (by rw[cW];exact sr rfl rfl (by simp;lia))) (by simp;lia) λn g=>⟨_,rfl,rfl,by simp[ql,bne]⟩];rw[aI];rfl
     refine gd rfl (eI (g9 i rfl) (eI (g9 (sj (fG (pF j (pK _))) ?_) rfl) (fE (pF m ?_))))
     .rw[cn];simpa using e
     .rw[vf,cq];rfl
    .have a:nM d (.tup ts)=false:=by simp[nM,e]
     rw[a];refine gd rfl (eI (g9 i rfl) (jX (hU (sj (fG (pF j (pK _))) ?_) (fE rfl)) rfl));rw[cn];simpa using e
   .have a:nM d (.tup ts)=false:=by simp[nM,g]
    rw[a];refine gd rfl (jX (hU ?_ (fE rfl)) rfl);have:¬(ts.length=(d:Int)+1):=by lia
    simp[this]
  |_=>simp[nQ]at f
 .have a:nM d x=false:=by cases x<;>first|rfl|(simp[nQ]at f;done)
  rw[a];refine gd rfl (jX (hU ?_ (fE rfl)) rfl);have k:nQ x=false:=by simpa using f
  have:=FN x l;rw[k]at this;simp only[L3.BB,L3.mn,gG,qG,ei,vw,fQ,bB,bU,dg,List.nil_append,List.getElem?_cons_succ,List.getElem?_cons_zero,Nn,M.bind_ok,this];rfl
def Jw(l:List α)(h:l≠[]):ou l (-1)=l.getLast?:=by obtain⟨m,a,rfl⟩:∃m a,l=m++[a]:=⟨l.dropLast,l.getLast h,(List.dropLast_concat_getLast h).symm⟩;rw[L2.DP];simp
def zm(d:Nat)(h:1<=d/\d<=3):kj c [.int d]=.ok (.bl true):=by
 have w:iz c [.int d]=.ok (.bl true):=rfl;have a:(1:Int)<=d:=by lia
 have b:(d:Int)<=3:=by lia
 exact gd rfl (fE (by simp[w,a,b]))
def MP n:(List.replicate n [T.int 0]).flatten=(List.replicate n (0:Int)).map T.int:=by
 induction n with
 |zero=>rfl
 |succ n ih=>rw[bP,bQ,ih,bP];rfl
def LK(n:Nat)(e:n<=1000)(h:f ρ=.ok (.int (n:Int))):hW (Dy (hW (lstM (ee (cM (.int 0)) eC))) f) ρ=.ok (.lst ((List.replicate n (0:Int)).map T.int)):=by
 have sz:1000<sizeLine:=by decide
 have d:BW n=true:=kn (by lia);have a:1<=sizeLine:=by decide
 have b:n<=sizeLine:=by lia
 simp[h,d,a,b,MP]
end CL
namespace L3
open PySem L2
theorem nX{j:Type} enc (P:En->Prop) p t:∀(l:List j) (ρ:En),P ρ->
  (∀a∈l,∀ρ,P ρ->∃d,m (enc a) ρ=some d/\(p a=true->∃c,g d=.nx c/\P c)/\(p a=false->g d=.rt t))->
  (l.all p=true->∃ρ',f6 m g (l.map enc) ρ=.nx ρ'/\P ρ')/\(l.all p=false->f6 m g (l.map enc) ρ=.rt t)
 |[],ρ,h,_=>⟨λ_=>⟨ρ,rfl,h⟩,λh=>by simp at h⟩
 |a::l,ρ,h,st=>by
  obtain⟨d,r,f,o⟩:=st a (by simp) ρ h;rw[bB,f6,r];dsimp only;cases e:p a with
  |true=>obtain⟨c,k,i⟩:=f e;rw[k];have s:=nX enc P p t l c i λb q ρ n=>st b (by simp[q]) ρ n;rw[bN,e,Bool.true_and];exact s
  |false=>rw[o e,bN,e,Bool.false_and];exact⟨λz=>(by cases z),λ_=>rfl⟩
end L3
namespace CL
open PySem L2 L3
variable {c:Cs}
def JH:Bn (n+1) 1:=by unfold Bn;rw[cZ];have:=dh n;lia
def xp ns:jC (ns.map T.int)=some ns:=by simp
def C0(a:LI):BV [.lst (a.map T.int)]=.ok (.int a.sum):=by simp
end CL
namespace L3
open PySem L2
theorem xV{n:Type} enc (P:Nat->En->Prop) (R:T->Prop):∀(l:List n) (k:Nat) (ρ:En),P k ρ->
  (∀i a ρ,l[i]? = some a->P (k+i) ρ->∃d,m (enc a) ρ=some d/\((∃c,g d=.nx c/\P (k+i+1) c)\/∃t,g d=.rt t/\R t))->
  (∃ρ',f6 m g (l.map enc) ρ=.nx ρ'/\P (k+l.length) ρ')\/∃t,f6 m g (l.map enc) ρ=.rt t/\R t
 |[],k,ρ,h,_=>.inl ⟨ρ,rfl,h⟩
 |a::l,k,ρ,h,st=>by
  obtain⟨d,q,j⟩:=st 0 a ρ rfl h;rw[bB,f6,q];dsimp only;rcases j with⟨c,e,f⟩|⟨t,e,f⟩
  .rw[e];rw[az,show k+(l.length+1)=k+1+l.length by lia];exact xV enc P R l (k+1) c f λi b ρ p o=>by have:=st (i+1) b ρ (by simpa using p) (by rw[show k+(i+1)=k+1+i by lia];exact o);rw[show k+1+i+1=k+(i+1)+1 by lia];exact this
  .rw[e];exact .inr ⟨t,rfl,f⟩
end L3
namespace CL
open PySem L2 L3
variable {c:Cs}
def zp(l:List α)(k:Nat) h:ou l (k:Int)=some l[k]:=by unfold ou vM;rw[aQ (by lia),aQ (by lia)];simp[h]
def zY(l:LI) k (h:k<l.length):ou l (k:Int)=some (l.getD k 0):=by rw[zp l k h,af,ag h];rfl
def getD_mem(l:LI) k (h:k<l.length):l.getD k 0∈l:=by rw[af,ag h];exact aV h
def oO(l:LI) k (h:k<l.length):il (.lst (l.map T.int)) (.int (k:Int))=.ok (.int (l.getD k 0)):=by simp[lY,zY l k h]
def je l (k:Nat) (h:k<l.length):il (tI l) (.int (k:Int))=.ok (.int (l.getD k 0)):=by simp[tI,lY,zY l k h]
def HQ x xs:il (.lst (x::xs)) (.int 0)=.ok x:=by have h:=zp (x::xs) 0 (by simp);have a:ou (x::xs) 0=some x:=h;show (match ou (x::xs) 0 with|some t=>M.ok t|none=>.bad)=_;rw[a]
def xX(a:Nat)(d b:LI):LI:=(b.zip d).map λp=>d.getD a 0*p.1-b.getD a 0*p.2
def qS a row here (h:row.length=here.length):(xX a row here).length=here.length:=by simp[xX,h]
def IH a row here (k:a<row.length) (l:row.length=here.length) (e:∀x∈row,Bn m x) (d:∀x∈here,Bn n x):∀x∈xX a row here,Bn (m+n+1) x:=λx g=>by obtain⟨p,b,rfl⟩:=aD.mp g;have f:=e _ (getD_mem row a k);have j:=d _ (getD_mem here a (by lia));have i:=d _ (aW b).1;have h:=e _ (aW b).2;exact ((f.mul i).sub (j.mul h)).mono (by lia)
def oR(p:Nat×LI):T:=.tup [.int (p.1:Int),.lst (p.2.map T.int)]
def Bk(j:Nat):Nat:=51*2 ^ j-1
def Hi j:Bk j+Bk j+1=Bk (j+1):=by unfold Bk;rw[cZ];have:=dh j;lia
def LJ(h:j<=k):Bk j<=Bk k:=by unfold Bk;have:=cY (show 0<2 by decide) h;lia
def HV(m L:Nat)(a:List (Nat×LI)):Prop:=∀(j:Nat) (p:Nat×LI),a[j]? = some p->p.1<m/\p.2.length=L/\∀x∈p.2,Bn (Bk j) x
def nW(b:List (Nat×LI))(a:LI):LI:=b.foldl (λh p=>xX p.1 p.2 h) a
def Gw a (k:Nat):Dp (.int a) (.int (k:Int))=.ok (.int (a / 2 ^ k)):=by simp[Dp,hZ]
def CJ a b:wm (.int a) (.int b)=.ok (.int (Builtin.bitAnd a b)):=by simp[wm,hZ]
def Lp(a:f1 ρ=.ok a1)(f:f2 ρ=.ok a2)(e:f3 ρ=.ok a3)(d:f4 ρ=.ok a4)(b:f5 ρ=.ok a5):hW (lstM (ee f1 (ee f2 (ee f3 (ee f4 (ee f5 eC)))))) ρ=.ok (.lst [a1,a2,a3,a4,a5]):=by
 have g:5<=sizeLine:=by decide
 simp only[hW,lstM,ee,eC,a,f,e,d,b,M.bind_ok,wx,az,dm,g,if_true]
def Nj n (x:T):(List.replicate n [x]).flatten=List.replicate n x:=by
 induction n with
 |zero=>rfl
 |succ n ih=>rw[bP,bQ,ih,bP];rfl
end CL
namespace CL
abbrev Vc:=Nat->Int
inductive Qs(P:Vc->Prop):Vc->Prop
 |of {x:Vc}:P x->Qs P x
 |zero:Qs P λ_=>0
 |lin {x y z:Vc} {s a b:Int}:Qs P x->Qs P y->s≠0->(∀i,s*z i=a*x i+b*y i)->Qs P z
def Qs.sub(h:∀x,P x->Qs P' x)(q:Qs P z):Qs P' z:=by
 induction q with
 |of p=>exact h _ p
 |zero=>exact .zero
 |lin _ _ s e i1 i2=>exact .lin i1 i2 s e
def Qs.mono(h:∀x,P x->P' x)(q:Qs P z):Qs P' z:=q.sub λx p=>.of (h x p)
def Qs.comb a b (c:Qs P x) (d:Qs P y):Qs P λi=>a*x i+b*y i:=.lin (s:=1) c d (by decide) λi=>by rw[dq]
def Lu(P:Vc->Prop)(r:Vc):Vc->Prop:=λx=>P x\/x=r
def Qs.split(q:Qs (Lu P r) z):∃s a y,s≠0/\Qs P y/\∀i,s*z i=y i+a*r i:=by
 induction q with
 |of p=>
  rename_i x;rcases p with p|rfl
  .exact⟨1,0,x,by decide,.of p,λi=>by rw[dq,du,dw]⟩
  .exact⟨1,1,λ_=>0,by decide,.zero,λi=>by rw[dy]⟩
 |zero=>exact⟨1,0,λ_=>0,by decide,.zero,λi=>by simp⟩
 |lin _ _ hs e i1 i2=>
  rename_i x y z s a b _ _;obtain⟨d,g,h,l,k,t⟩:=i1;obtain⟨c,f,j,o,m,n⟩:=i2;refine⟨s*(d*c),a*c*g+b*d*f,_,dz hs (dz l o),k.comb (a*c) (b*d) m,λi=>?_⟩;calc s*(d*c)*z i=d*c*(s*z i):=by ac_rfl
   _=d*c*(a*x i+b*y i):=by rw[e]
   _=a*c*(d*x i)+b*d*(c*y i):=by rw[dA];ac_rfl
   _=a*c*(h i+g*r i)+b*d*(j i+f*r i):=by rw[t,n]
   _=a*c*h i+b*d*j i+(a*c*g+b*d*f)*r i:=by simp only[dA,Int.add_mul];ac_rfl
def Nd(P:Vc->Prop)(a:List Nat):Prop:=∀z,Qs P z->(∀p∈a,z p=0)->∀i,z i=0
def Nd.nil:Nd (λ_=>False) []:=λz q _=>by
 induction q with
 |of p=>exact p.elim
 |zero=>exact λ_=>rfl
 |lin _ _ hs e i1 i2=>
  intro i;have:=e i;rw[i1 (λp a=>nomatch a) i,i2 (λp a=>nomatch a) i,dB,dB,dw]at this;rcases dC.mp this with z|z
  .exact absurd z hs
  .exact z
def Nd.step(h:Nd P pl)(k:∀q∈pl,r q=0)(g:r p≠0):Nd (Lu P r) (pl++[p]):=λz q f i=>by
 obtain⟨s,a,y,l,m,e⟩:=q.split;have n:∀q∈pl,y q=0:=λq c=>by have:=e q;rw[f q (ay _ c),k q c,dB,dB,dw]at this;exact this.symm
 have d:=h y m n;have b:=e p;rw[f p (bu _ (aj.mpr rfl)),d p,dB,dy]at b;have j:a=0:=by
  rcases dC.mp b.symm with z|z
  .exact z
  .exact absurd z g
 have:=e i;rw[d i,j,du,dw]at this;rcases dC.mp this with z|z
 .exact absurd z l
 .exact z
def Nd.less(h:Nd P pl)(a:∀x,P' x->Qs P x):Nd P' pl:=λz q=>h z (q.sub a)
def DT{v r y:Vc}(d:Nd P pl)(g:s≠0)(c:Qs P y)(e:∀i,r i=s*v i+a*y i)(f:∀p∈pl,r p=0):(∀i,r i=0)↔Qs P v:=by
 constructor
 .intro h;refine .lin (a:=-a) (b:=0) c .zero g λi=>?_;have:=e i;rw[h i]at this;rw[dB,dw,dD];lia
 .intro h;refine d r ?_ f;have:=funext e;rw[this];exact h.comb s a c
end CL
namespace CL
open PySem L2 L3
variable {c:Cs}
noncomputable def vc(l:LI):Vc:=λi=>l.getD i 0
def jv l i (h:l.length<=i):vc l i=0:=by unfold vc;rw[af,List.getElem?_eq_none h];rfl
def lP l i h:vc l i=l[i]:=by unfold vc;rw[af,ag h];rfl
def IV a row here (h:row.length=here.length) i:vc (xX a row here) i=vc row a*vc here i-vc here a*vc row i:=by
 by_cases b:i<here.length
 .rw[lP (xX a row here) i (by rw[qS a row here h];exact b),lP here i b,lP row i (by lia)];simp[xX,vc]
 .rw[jv _ i (by rw[qS a row here h];lia),jv here i (by lia),jv row i (by lia),dB,dB];rfl
def tJ(a:List (Nat×LI)):Vc->Prop:=λx=>∃p∈a,x=vc p.2
def VP(vs:LL):Vc->Prop:=λx=>∃v∈vs,x=vc v
theorem t6 m P:∀d b,(∀p∈d,p.2.length=m/\P (vc p.2)/\vc p.2 p.1≠0)->b.length=m->d.Pairwise (λp q=>vc q.2 p.1=0)->
  ∃s y,s≠0/\Qs P y/\(∀i,vc (nW d b) i=s*vc b i+1*y i)/\(∀k,vc b k=0->(∀p∈d,vc p.2 k=0)->vc (nW d b) k=0)/\∀p∈d,vc (nW d b) p.1=0
 |[],b,_,_,_=>⟨1,λ_=>0,by decide,.zero,λi=>by show vc b i=1*vc b i+1*0;lia,λk j _=>j,λp f=>nomatch f⟩
 | (a,row)::d,b,hA,hl,hw=>by
  obtain⟨A,u,r⟩:=hA (a,row) (bh ..);obtain⟨z,o⟩:=c7.mp hw;have h:(xX a row b).length=m:=by rw[qS a row b (by lia),hl]
  have l:=IV a row b (by lia);obtain⟨s,y,t,x,e,n,w⟩:=t6 m P d (xX a row b) (λp f=>hA p (bj _ f)) h o;refine⟨s*vc row a,_,dz t r,(x.comb 1 (-(s*vc b a)) (.of u)),λi=>?_,λk j f=>?_,λp f=>?_⟩
  .show vc (nW d (xX a row b)) i=_;rw[e i,l i,Int.mul_sub,c5,dD,cQ,cQ,dq,dq];lia
  .refine n k ?_ λp g=>f p (bj _ g);have:=f (a,row) (bh ..);rw[l k,j,this,dB,dB];rfl
  .rcases aF.mp f with rfl|f
   .refine n _ ?_ λq v=>z q v;rw[l a,cR];lia
   .exact w p f
theorem zQ x0 x1 x2 m (z:m<=20):∀d j b l k h f,j+d.length<=8->b.length=m->(∀x∈b,Bn (Bk j) x)->
  (∀i p,d[i]? = some p->p.1<m/\p.2.length=m/\∀x∈p.2,Bn (Bk (j+i)) x)->
  ∃r o s,f6 (j8 2 (fH (km 4) (fH (km 5) j7))) (jJ c) (d.map oR) [x0,x1,x2,some (.p (.lst (b.map T.int))),l,k,h,f]=.nx [x0,x1,x2,some (.p (.lst ((nW d b).map T.int))),r,o,s,f]/\
   (nW d b).length=m/\∀x∈nW d b,Bn (Bk (j+d.length)) x
 |[],j,b,l,k,h,f,_,hl,hb,_=>⟨l,k,h,rfl,hl,hb⟩
 | (a,row)::d,j,b,l,k,h,f,hj,hl,hb,hA=>by
  obtain⟨I,A,g⟩:=hA 0 (a,row) rfl;rw[Nat.add_zero]at g;simp only[az]at hj;have sz:1000<sizeLine:=by decide
  have J:Bk j<=20000:=aN (LJ (show j<=8 by lia)) (by decide);have t:(xX a row b).length=m:=by rw[qS a row b (by lia),hl]
  have q:∀x∈xX a row b,Bn (Bk (j+1)) x:=λx v=>(IH a row b (by lia) (by lia) g hb x v).mono (by rw[Hi];exact aK _);obtain⟨r,o,s,e,u,C⟩:=zQ x0 x1 x2 m z d (j+1) (xX a row b) (some (.p (.int a))) (some (.p (.lst (row.map T.int)))) (some (.p (.int (b.getD a 0)))) f (by lia) t q λi p n=>by have:=hA (i+1) p (by simpa using n);rw[show j+1+i=j+(i+1) by lia];exact this
  refine⟨r,o,s,?_,u,by rw[az,show j+(d.length+1)=j+1+d.length by lia];exact C⟩;rw[bB,f6];have F:(j8 2 (fH (km 4) (fH (km 5) j7))) (oR (a,row)) [x0,x1,x2,some (.p (.lst (b.map T.int))),l,k,h,f]=some [x0,x1,x2,some (.p (.lst (b.map T.int))),some (.p (.int a)),some (.p (.lst (row.map T.int))),h,f]:=rfl;rw[F];have y:iR [none,none,some 6,some 5,some 4] (lG (ee (ei 3) (ee (ei 5) eC))) (mW 2 (f9 (iC 0) (f9 (iC 1) mX))) (λ_=>.ok true) (nN c) (jW [x0,x1,x2,some (.p (.lst (b.map T.int))),some (.p (.int a)),some (.p (.lst (row.map T.int))),some (.p (.int (b.getD a 0))),f])=.ok ((xX a row b).map T.int):=iX (b.zip row) (λp=>T.tup [.int p.1,.int p.2]) (λp=>T.int (row.getD a 0*p.1-b.getD a 0*p.2)) (vq rfl rfl rfl rfl) (by simp;lia) (λp n=>⟨_,rfl,rfl,by have w:=hb _ (aW n).1;have B:=g _ (aW n).2;have E:=g _ (getD_mem row a (by lia));have H:=hb _ (getD_mem b a (by lia));exact eK (eK (eK rfl rfl (oO row a (by lia))) rfl (jL (E.ok w (by lia) (by lia)))) (eK rfl rfl (jL (H.ok B (by lia) (by lia)))) (rH _ _)⟩) (by unfold xX;rw[aI];rfl)
  have D:jJ c [x0,x1,x2,some (.p (.lst (b.map T.int))),some (.p (.int a)),some (.p (.lst (row.map T.int))),h,f]=.nx [x0,x1,x2,some (.p (.lst ((xX a row b).map T.int))),some (.p (.int a)),some (.p (.lst (row.map T.int))),some (.p (.int (b.getD a 0))),f]:=eI (fv (eK rfl rfl (oO b a (by lia))) rfl) (fv (gB y) rfl)
  dsimp only;rw[D];exact e
def Ma(vs:LL)(j:Nat):Prop:=Qs (VP (vs.take j)) (vc (vs.getD j []))
structure sG(vs:LL)(m k:Nat)(ah:List (Nat×LI)):Prop where
 bd:HV m m ah
 nz:∀p∈ah,vc p.2 p.1≠0
 tri:ah.Pairwise (λp q=>vc q.2 p.1=0)
 nd:Nd (tJ ah) (ah.map Prod.fst)
 sp:∀v∈vs.take k,Qs (tJ ah) (vc v)
 ps:∀p∈ah,Qs (VP (vs.take k)) (vc p.2)
 le:ah.length<=k
 eq:ah.length=k↔∀j,j<k->¬Ma vs j
def jA{a:Type}(l:List a) k v (h:l[k]? = some v):l.take (k+1)=l.take k++[v]:=by rw[List.take_succ,h];rfl
def HI{a:Type}(l:List a) k v w (h:l[k]? = some v):l.getD k w=v:=by rw[af,h];rfl
def VP.succ{vs:LL}(h:vs[k]? = some v) x (q:Qs (VP (vs.take k)) x):Qs (VP (vs.take (k+1))) x:=q.mono λz ⟨w,hw,e⟩=>⟨w,by rw[jA vs k v h];exact ay _ hw,e⟩
def uv(h:HV m L ah)(b:p∈ah):p.1<m/\p.2.length=L:=by obtain⟨j,a⟩:=List.getElem?_of_mem b;exact⟨(h j p a).1,(h j p a).2.1⟩
def Bg vs m k ah v (h:sG vs m k ah) (l:vs[k]? = some v) (L:v.length=m) (K:∀x∈nW ah v,Bn (Bk ah.length) x) (u:(nW ah v).length=m) :
  ((∀i,vc (nW ah v) i=0)->sG vs m (k+1) ah)/\∀j,j<m->vc (nW ah v) j≠0->sG vs m (k+1) (ah++[(j,nW ah v)]):=by
 obtain⟨s,y,C,t,e,P,D⟩:=t6 m (tJ ah) ah v (λp d=>⟨(uv h.bd d).2,⟨p,d,rfl⟩,h.nz p d⟩) L h.tri;have o:∀q∈ah.map Prod.fst,vc (nW ah v) q=0:=λq n=>by obtain⟨p,d,rfl⟩:=aD.mp n;exact D p d
 have f:=DT h.nd C t e o;have E:Ma vs k↔Qs (tJ ah) (vc v):=by unfold Ma;rw[HI vs k v [] l];exact⟨λq=>q.sub λx ⟨w,hw,ex⟩=>by rw[ex];exact h.sp w hw,λq=>q.sub λx ⟨p,d,ex⟩=>by rw[ex];exact h.ps p d⟩
 generalize nW ah v=R at *;constructor
 .intro N;have n:=f.mp N;refine⟨h.bd,h.nz,h.tri,h.nd,λw hw=>?_,λp d=>VP.succ l _ (h.ps p d),by have:=h.le;lia,?_⟩
  .rw[jA vs k v l]at hw;rcases ai.mp hw with q|q
   .exact h.sp w q
   .rw[aj.mp q];exact n
  .constructor
   .intro z;have:=h.le;lia
   .intro z;exact absurd (E.mpr n) (z k (by lia))
 .intro j J g;have r:¬Ma vs k:=λz=>g (f.mpr (E.mp z) j);have up:∀x,Qs (tJ ah) x->Qs (tJ (ah++[(j,R)])) x:=λx q=>q.mono λz ⟨p,d,ez⟩=>⟨p,ay _ d,ez⟩;have I:Qs (tJ (ah++[(j,R)])) (vc R):=.of ⟨(j,R),bu _ (aj.mpr rfl),rfl⟩;refine⟨λi p d=>?_,λp d=>?_,?_,?_,λw hw=>?_,λp d=>?_,?_,?_⟩
  .rw[List.getElem?_append]at d;split at d
   .exact h.bd i p d
   .have B:i=ah.length:=by have:=(aa.mp d).1;simp at this;lia
    subst B;simp at d;subst d;exact⟨J,u,K⟩
  .rcases ai.mp d with q|q
   .exact h.nz p q
   .rw[aj.mp q];exact g
  .refine dE.mpr ⟨h.tri,cG _ _,λp d q n=>?_⟩;rw[aj.mp n];exact D p d
  .rw[aZ];refine (Nd.step h.nd o g).less λx ⟨p,d,ex⟩=>?_;rcases ai.mp d with q|q
   .exact .of (.inl ⟨p,q,ex⟩)
   .rw[aj.mp q]at ex;exact .of (.inr ex)
  .rw[jA vs k v l]at hw;rcases ai.mp hw with q|q
   .exact up _ (h.sp w q)
   .rw[aj.mp q];exact .lin (a:=1) (b:=-1) I (up _ t) C λi=>by rw[e i];lia
  .rcases ai.mp d with q|q
   .exact VP.succ l _ (h.ps p q)
   .rw[aj.mp q];have F:Qs (VP (vs.take (k+1))) (vc v):=.of ⟨v,by rw[jA vs k v l];exact bu _ (aj.mpr rfl),rfl⟩;have H:=t.sub λx ⟨p,d,ex⟩=>by rw[ex];exact VP.succ l _ (h.ps p d)
    exact .lin (s:=1) F H (by decide) λi=>by rw[dq];exact e i
  .have:=h.le;simp;lia
  .rw[aT,bS];constructor
   .intro z i B;by_cases A:i=k
    .rw[A];exact r
    .exact h.eq.mp (by lia) i (by lia)
   .intro z;rw[h.eq.mpr λi B=>z i (by lia)]
theorem kX m vs (hm:m<=4) (hn:vs.length<=8) (hv:∀v∈vs,v.length=m/\∀x∈v,Bn 50 x) :
  ∃a:List (Nat×LI),fU c [.lst (vs.map tI)]=.ok (.int (a.length:Int))/\sG vs m vs.length a:=by
 have sz:1000<sizeLine:=by decide
 obtain⟨ρ,e,a,x2,S,D,C,E,h,rfl,u⟩:=i8 (m:=km 2) (g:=lq c) tI
  (λk ρ=>∃(a:List (Nat×LI)) (x2 S D C E h:Oq W),ρ=[some (.p (.lst (vs.map tI))),some (.o (a.map oR)),x2,S,D,C,E,h]/\sG vs m k a)
  vs 0 _ ⟨[],none,none,none,none,none,none,rfl,(λj p f=>by simp at f),(λp f=>nomatch f),List.Pairwise.nil,(λz q=>Nd.nil z (q.mono λx ⟨p,f,_⟩=>nomatch f)),(λv hv=>by simp at hv),(λp f=>nomatch f),aK _,⟨λ_ j Z=>absurd Z (cX _),λ_=>rfl⟩⟩ (by
   rintro k v ρ hi ⟨a,x2,S,D,C,E,h,rfl,u⟩;rw[aG]at u ⊢;have hil:=(aa.mp hi).1;obtain⟨J,Y⟩:=hv v (av hi);have b:=u.le;have X:BW (m:Int)=true:=kn (by lia);obtain⟨F,B,H,e3,A,w⟩:=zQ (c:=c) (some (.p (.lst (vs.map tI)))) none (some (.p (tI v))) m (by lia) a 0 v D C E h (by lia) J (λx hx=>Y x hx) λi p f=>by rw[aG];exact u.bd i p f
   rw[aG]at w;obtain⟨L,N⟩:=Bg vs m k a v u hi J w A;generalize hR:nW a v=R at e3 A w L N;let left:List Nat:=(List.range m).filter λj=>R.getD j 0 != 0;have e4:iR [none,some 3] (iG (ee (jq ji (ee (ei 3) eC)) eC)) (iC 0) (gG (eP (fC true) (eP il (ei 1) (ei 0)) (cM (.int 0)))) (nE c) (jW [some (.p (.lst (vs.map tI))),some (.o (a.map oR)),some (.p (tI v)),some (.p (.lst (R.map T.int))),F,B,H,h])=.ok (left.map λ(j:Nat)=>T.int (j:Int)):=mY (List.range m) (λ(j:Nat)=>T.int (j:Int)) (λ(j:Nat)=>T.int (j:Int)) (λj=>R.getD j 0 != 0) (by simp[A,X,HB]) (by simp;lia) (λj Z=>⟨_,rfl,fG (eK (eK rfl rfl (oO R j (by have:=aS.mp Z;lia))) rfl (oB _ _)),λ_=>rfl⟩) rfl
   have s:og (left.map λ(j:Nat)=>T.int (j:Int))=true:=mV _ _ λ_ _=>rfl;have n:oW (left.map λ(j:Nat)=>T.int (j:Int))<=90:=aN (mM _ 0 _ λ_ _=>aK _) (by decide);have d:gG (eP (fC true) (ei 7) (hW (lstM eC))) (vw [some (.p (.lst (vs.map tI))),some (.o (a.map oR)),some (.p (tI v)),some (.p (.lst (R.map T.int))),F,B,H,some (.p (.lst (left.map λ(j:Nat)=>T.int (j:Int))))])=.ok (!left.isEmpty):=by refine fG (eK (x:=.lst (left.map λ(j:Nat)=>T.int (j:Int))) (y:=.lst []) rfl (by simp) ?_);rw[qU true _ s n];simp
   have P:∀r,(ml (gG (eP (fC true) (ei 7) (hW (lstM eC)))) (pH 1 (iQ (nB (ee (eP il (ei 7) (cM (.int 0))) (ee (ei 3) eC))))) gx) [some (.p (.lst (vs.map tI))),some (.o (a.map oR)),some (.p (tI v)),some (.p (.lst (R.map T.int))),F,B,H,some (.p (.lst (left.map λ(j:Nat)=>T.int (j:Int))))]=r->
     lq c [some (.p (.lst (vs.map tI))),some (.o (a.map oR)),some (.p (tI v)),S,D,C,E,h]=r:=λr hr=>by
    refine eI (fv (t:=.lst (v.map T.int)) rfl rfl) (eI (ρ':=[some (.p (.lst (vs.map tI))),some (.o (a.map oR)),some (.p (tI v)),some (.p (.lst (R.map T.int))),F,B,H,h]) (Ba (us:=a.map oR) rfl ?_) (eI (fv (t:=.lst (left.map λ(j:Nat)=>T.int (j:Int))) (gB e4) rfl) hr));show rJ 1 (a.map oR) (f6 (j8 2 (fH (km 4) (fH (km 5) j7))) (jJ c) (a.map oR) [some (.p (.lst (vs.map tI))),none,some (.p (tI v)),some (.p (.lst (v.map T.int))),D,C,E,h])=_;rw[e3];rfl
   cases b:left with
   |nil=>
    refine⟨_,_,rfl,.inl (P _ (g9 (by rw[d,b];rfl) rfl)),a,_,_,_,_,_,_,rfl,L λi=>?_⟩;by_cases U:i<m
    .refine aO λhc=>?_;have:i∈left:=aU.mpr ⟨aS.mpr U,by simpa[vc] using hc⟩;rw[b]at this;exact nomatch this
    .exact jv R i (by lia)
   |cons l js=>
    have I:l∈left:=by rw[b];exact bh ..
    have Q:l<m:=aS.mp (aU.mp I).1;have K:vc R l≠0:=by have:=(aU.mp I).2;simpa[vc] using this
    have h2z:2<=sizeLine:=by decide
    have i0:eP il (ei 7) (cM (.int 0)) (jW [some (.p (.lst (vs.map tI))),some (.o (a.map oR)),some (.p (tI v)),some (.p (.lst (R.map T.int))),F,B,H,some (.p (.lst (left.map λ(j:Nat)=>T.int (j:Int))))])=.ok (.int (l:Int)):=eK rfl rfl (by rw[b];exact HQ _ _);have i4:ei 3 (jW [some (.p (.lst (vs.map tI))),some (.o (a.map oR)),some (.p (tI v)),some (.p (.lst (R.map T.int))),F,B,H,some (.p (.lst (left.map λ(j:Nat)=>T.int (j:Int))))])=.ok (.lst (R.map T.int)):=rfl;refine⟨_,_,rfl,.inl (P _ (hU (by rw[d,b];rfl) (n6 (t:=oR (l,R)) rfl ?_ (by simp;lia) rfl))),a++[(l,R)],_,_,_,_,_,_,by rw[aZ];rfl,N l Q K⟩;simp only[nB,ee,eC,i0,i4,M.bind_ok,wx,az,dm,h2z,if_true];rfl)
 rw[aG]at u;refine⟨a,gd rfl (eI (l5 (ts:=[]) (by simp) rfl) (eI (lr rfl e) (fE (lh rfl ?_)))),u⟩;simp
def JX(h:f ρ=.ok (.int i)):BZ (λi=>.int (-i)) f ρ=.ok (.int (-i)):=by simp only[BZ,h,M.bind_ok]
def zI:Bn n 0:=by unfold Bn;exact dh _
def BJ N (C:N<=8000) row (J:row.length<1000) (o:∀x∈row,Bn N x):∃g n,0<g/\mx c [tI row]=.ok (tI n)/\n.length=row.length/\(∀i,vc row i=g*vc n i)/\∀y∈n,Bn N y:=by
 have sz:1000<sizeLine:=by decide
 have main:=xV (m:=km 2) (g:=uk c) T.int
  (λk v=>∃(a:Int) (u:Oq W),v=[some (.p (tI row)),some (.p (.int a)),u]/\0<=a/\Bn N a/\∀x∈row.take k,a ∣ x)
  (λt=>t=tI row) row 0 _ ⟨0,none,rfl,by decide,zI,λx f=>by simp at f⟩ (by
   rintro i x v d ⟨a,u,rfl,B,r,b⟩;rw[aG]at b ⊢;have s:=av d;refine⟨_,rfl,?_⟩;have w:setO 1 (iQ (eQ (ee (ei 1) (ee (ei 2) eC)) (gj c))) [some (.p (tI row)),some (.p (.int a)),some (.p (.int x))]=.nx [some (.p (tI row)),some (.p (.int (Cu.G a x))),some (.p (.int x))]:=fv (l9 rfl rfl (oU a x)) rfl;by_cases h:Cu.G a x=1
   .right;exact⟨_,eI w (hU (fG (eK rfl rfl (by rw[fS,h];rfl))) (fE rfl)),rfl⟩
   .left;refine⟨_,eI w (g9 (fG (eK rfl rfl (by rw[fS];simp[h]))) rfl),_,_,rfl,Cu.sZ _ _,?_,λz A=>?_⟩
    .by_cases j:x=0
     .rw[j,Cu.Cw];exact cB (by lia) r
     .have H:=Cu.Mu a x j;have I:=Cu.sZ a x;exact cB (by lia) (o x s)
    .rw[jA row i x d]at A;rcases ai.mp A with q|q
     .exact Int.dvd_trans (Cu.yK a x) (b z q)
     .rw[aj.mp q];exact Cu.qC a x)
 rcases main with⟨D,e,a,u,rfl,B,r,b⟩|⟨t,e,rfl⟩
 .rw[aG,dF]at b;by_cases l:a=0
  .exact⟨1,row,by decide,gd rfl (eI (fv rfl rfl) (eI (lr rfl e) (jX (hU (fG (eK rfl rfl (by rw[fS,l];rfl))) (fE rfl)) rfl))),rfl,λi=>by rw[dq],o⟩
  .refine⟨a,row.map (λx=>x.fdiv a),by lia,gd rfl (eI (fv rfl rfl) (eI (lr rfl e) (eI (g9 (fG (eK rfl rfl (by rw[fS];simp[l]))) rfl) (fE ?_)))),by simp,λi=>?_,λy F=>?_⟩
   .exact lh (gB (iX row T.int (λx=>T.int (x.fdiv a)) rfl (by lia) (λx f=>⟨_,rfl,rfl,eK rfl rfl (rO l (r.noPy C))⟩) (by rw[aI];rfl))) rfl
   .by_cases d:i<row.length
    .rw[lP row i d,lP _ i (by simpa using d),List.getElem_map];obtain⟨q,E⟩:=b _ (aV d);rw[E,de q l]
    .rw[jv row i (by lia),jv _ i (by simp;lia),dB]
   .obtain⟨x,f,rfl⟩:=aD.mp F;exact cB (HL (b x f) l) (o x f)
 .exact⟨1,row,by decide,gd rfl (eI (fv rfl rfl) (jX (lr rfl e) rfl)),rfl,λi=>by rw[dq],o⟩
def Bz{g x:Int}(a:g≠0)(h:g*x=0):x=0:=by
 rcases dC.mp h with z|z
 .exact absurd z a
 .exact z
def Fy o:Bu o*o=(o.natAbs:Int):=by
 unfold Bu;split
 .rw[dq];lia
 .split
  .rw[dD,dq];lia
  .rw[du];lia
def kM(p:Nat×LI):T:=.tup [.int (p.1:Int),tI p.2]
noncomputable def sm:Nat->(Nat->Int)->Int
 |0,_=>0
 |n+1,f=>f 0+sm n λi=>f (i+1)
theorem fX:∀n f g,(∀i,i<n->f i=g i)->sm n f=sm n g
 |0,_,_,_=>rfl
 |n+1,f,g,h=>by rw[sm,sm,h 0 (by lia),fX n _ _ λi a=>h (i+1) (by lia)]
theorem EG a b:∀n f g,sm n (λi=>a*f i+b*g i)=a*sm n f+b*sm n g
 |0,_,_=>by simp[sm]
 |n+1,f,g=>by rw[sm,sm,sm,EG a b n (λi=>f (i+1)) λi=>g (i+1),dA,dA];lia
theorem vD a:∀n f,sm n (λi=>a*f i)=a*sm n f
 |0,_=>by simp[sm]
 |n+1,f=>by rw[sm,sm,vD a n λi=>f (i+1),dA]
theorem kR:∀n:Nat,sm n (λ_=>0)=0
 |0=>rfl
 |n+1=>by rw[sm,kR n];rfl
theorem vB:∀(n k:Nat) (f:Nat->Int),k<n->sm n (λi=>(if i=k then 1 else 0)*f i)=f k
 |0,k,f,h=>absurd h (cX _)
 |n+1,0,f,h=>by rw[sm,aQ rfl,dq,fX n _ (λ_=>0) (λi _=>by rw[aR (by lia),du]),kR,dw]
 |n+1,k+1,f,h=>by rw[sm,aR (by lia),du,dy,fX n _ (λi=>(if i=k then 1 else 0)*f (i+1)) (λi _=>by simp),vB n k (λi=>f (i+1)) (by lia)]
theorem sV:∀(m:Nat) (l:List Nat),l.Nodup->(∀x∈l,x<m)->l.length<=m
 |0,[],_,_=>aK _
 |0,x::l,_,h=>absurd (h x (bh ..)) (cX _)
 |m+1,l,hn,h=>by
  have a:=sV m (l.erase m) (hn.erase m) λx d=>by have q:=(hn.mem_erase_iff).mp d;have:=h x q.2;have:=q.1;lia
  by_cases b:m∈l
  .rw[dG b]at a;lia
  .rw[List.erase_of_not_mem b]at a;lia
def vh(f:fa ρ=.ok (.lst a))(d:fb ρ=.ok (.lst b))(e:a.length+b.length<=sizeLine):wC fa fb ρ=.ok (a++b):=by simp only[wC,f,d,M.bind_ok];rw[aQ e]
def Lo(h:f ρ=.ok a):hW (lstM (ee f eC)) ρ=.ok (.lst [a]):=by
 have b:1<=sizeLine:=by decide
 simp only[hW,lstM,ee,eC,h,M.bind_ok,wx,az,dm,b,if_true]
def A1(h:f ρ=.ok a)(d:g ρ=.ok b):nB (ee f (ee g eC)) ρ=.ok (.tup [a,b]):=by
 have e:2<=sizeLine:=by decide
 simp only[nB,ee,eC,h,d,M.bind_ok,wx,az,dm,e,if_true]
def tQ(pv:List (Nat×LI)) left (a:Nat) (f:Nat×LI->LI) (g:pv.length<=100) (b:∀p∈pv,iD c [tI p.2,tI left,.int (a:Int)]=.ok (tI (f p))) :
  iE c [.lst (pv.map kM),tI left,.int (a:Int)]=.ok ((pv.map (λp=>(p.1,f p))++[(a,left)]).map kM):=by
 have sz:1000<sizeLine:=by decide
 have d:iR [none,none,some 1,some 2] (gI (ei 0)) (mW 2 (f9 (iC 0) (f9 (iC 1) mX))) (λ_=>.ok true) (nG c) (vw (fQ 3 [.lst (pv.map kM),tI left,.int a]))=.ok ((pv.map (λp=>(p.1,f p))).map kM):=iX pv kM (λp=>kM (p.1,f p)) rfl (by lia) (λp e=>⟨_,rfl,rfl,A1 rfl (kJ rfl rfl rfl (b p e))⟩) (by rw[aI];rfl)
 refine Cv rfl (uO ?_);rw[aZ];exact vh (gB d) (Lo (A1 rfl rfl)) (by simp;lia)
def qm{d e:Type}[Inhabited e]{P:d->e->Prop}(l:List d)(h:∀a∈l,∃b,P a b):∃f:d->e,∀a∈l,P a (f a):=⟨λa=>Classical.epsilon λb=>P a b,λa g=>Classical.epsilon_spec (h a g)⟩
end CL
namespace CL
noncomputable def jm(m:Nat)(A u:Vc):Int:=sm m λi=>A i*u i
def Ae(h:∀i,s*z i=a*x i+b*y i):s*jm m A z=a*jm m A x+b*jm m A y:=by
 unfold jm;rw[<-vD,<-EG];refine fX m _ _ λi _=>?_;have:=h i;calc s*(A i*z i)=A i*(s*z i):=by rw[Int.mul_left_comm]
  _=A i*(a*x i+b*y i):=by rw[this]
  _=a*(A i*x i)+b*(A i*y i):=by grind
theorem pC m:∀(f:List Vc) (T:List Nat),T.Nodup->(∀t∈T,t<m)->f.length<T.length->∃v:Vc,(∃i,v i≠0)/\(∀i,i∉T->v i=0)/\∀A∈f,jm m A v=0
 |[],T,nd,ht,hl=>by
  cases T with
  |nil=>cases hl
  |cons t T=>refine⟨λi=>if i=t then 1 else 0,⟨t,by simp⟩,λi g=>?_,λA l=>nomatch l⟩;have:i≠t:=λz=>g (by simp[z]);simp[this]
 |A::f,T,nd,ht,hl=>by
  cases T with
  |nil=>cases hl
  |cons t T=>
   obtain⟨D,q⟩:=bG.mp nd;have h:f.length<T.length:=by simp at hl;exact hl
   obtain⟨d,⟨j,w⟩,o1,E⟩:=pC m f T q (λx n=>ht x (by simp[n])) h;have o:j∈T:=aO λz=>w (o1 j z);have p:f.length<((t::T).erase j).length:=by have C:j∈t::T:=bj _ o;rw[dG C,az];exact h
   obtain⟨c,⟨k,F⟩,o2,u⟩:=pC m f ((t::T).erase j) (nd.erase j) (λx n=>ht x (dH n)) p;have r:c j=0:=o2 j (λz=>by rw[List.Nodup.mem_erase_iff nd]at z;exact z.1 rfl);by_cases l:jm m A c=0
   .exact⟨c,⟨k,F⟩,λi g=>o2 i (λz=>g (dH z)),λB e=>by
     rcases aF.mp e with rfl|e
     .exact l
     .exact u B e⟩
   .refine⟨λi=>jm m A c*d i-jm m A d*c i,⟨j,?_⟩,λi g=>?_,λB e=>?_⟩
    .dsimp only;rw[r];simp[l,w]
    .show jm m A c*d i-jm m A d*c i=0;rw[o1 i (λz=>g (by simp[z])),o2 i (λz=>g (dH z))];simp
    .have:=Ae (m:=m) (A:=B) (x:=d) (y:=c) (z:=λi=>jm m A c*d i-jm m A d*c i) (s:=1) (a:=jm m A c) (b:=-jm m A d) (λi=>by grind);rcases aF.mp e with rfl|e
     .rw[dq]at this;rw[this];grind
     .rw[E B e,u B e]at this;simpa using this
end CL
namespace CL
open PySem L2 L3
variable {c:Cs}
def wM N M row other a (A:a<row.length) (S:other.length=row.length) (hs:row.length<1000) (J:N+M+1<=8000) (j:∀x∈row,Bn N x) (u:∀x∈other,Bn M x) (U:vc other a≠0) :
  ∃r,iD c [tI row,tI other,.int (a:Int)]=.ok (tI r)/\r.length=row.length/\(∀x∈r,Bn (N+M+1) x)/\vc r a=0/\∃g s b:Int,0<g/\0<s/\(∀i,g*vc r i=s*vc row i+b*vc other i)/\(vc row a≠0->s=((vc other a).natAbs:Int)/\b = -vc row a*Bu (vc other a)):=by
 have sz:1000<sizeLine:=by decide
 have m:il (tI row) (.int (a:Int))=.ok (.int (vc row a)):=je row a A;have C:il (tI other) (.int (a:Int))=.ok (.int (vc other a)):=je other a (by lia);have D:Bn N (vc row a):=j _ (getD_mem row a A);have L:Bn M (vc other a):=u _ (getD_mem other a (by lia));by_cases k:vc row a=0
 .exact⟨row,gd rfl (jX (hU (fG (eK (eK rfl rfl m) rfl (by rw[fS,k];rfl))) (fE rfl)) rfl),rfl,λx H=>(j x H).mono (by lia),k,1,1,0,by decide,by decide,λi=>by lia,λz=>absurd k z⟩
 .generalize F:vc other a=o at *;generalize E:vc row a=x0 at *;have I:BN [.int o]=.ok (.int (o.natAbs:Int)):=by simp[Lf]
  let w:Int:=-x0*Bu o;have K:=Bd o;have v:Bn N w:=by
   refine cB ?_ D;show (-x0*Bu o).natAbs<=_;rw[aY,Int.natAbs_neg];have:(Bu o).natAbs<=1:=by lia
   exact aN (Nat.mul_le_mul_left _ this) (by lia)
  have B:Bn M (o.natAbs:Int):=cB (by lia) L;let d:LI:=(row.zip other).map λp=>(o.natAbs:Int)*p.1+w*p.2;have R:d.length=row.length:=by simp[d,S]
  have q:∀y∈d,Bn (N+M+1) y:=λy X=>by obtain⟨p,e,rfl⟩:=aD.mp X;exact ((B.mul (j _ (aW e).1)).add (v.mul (u _ (aW e).2))).mono (by lia)
  have h:∀i,vc d i=(o.natAbs:Int)*vc row i+w*vc other i:=λi=>by
   by_cases Z:i<row.length
   .rw[lP d i (by lia),lP row i Z,lP other i (by lia)];simp[d]
   .rw[jv d i (by lia),jv row i (by lia),jv other i (by lia),dB,dB];rfl
  obtain⟨g,r,Y,P,Q,f,l⟩:=BJ (c:=c) (N+M+1) J d (by lia) q;refine⟨r,gd rfl (eI (g9 (fG (eK (eK rfl rfl m) rfl (by rw[fS];simp[k]))) rfl) (eI (fv (t:=.int (o.natAbs:Int)) (lh (eK rfl rfl C) I) rfl) (eI (fv (t:=.int w) ?_ rfl) (fE (qs (x:=tI d) ?_ P))))),by lia,l,?_,g,(o.natAbs:Int),w,Y,by lia,λi=>by rw[<-f i,h i],λ_=>⟨rfl,rfl⟩⟩
  .refine eK (x:=.int (-x0)) (y:=.int (Bu o)) ?_ (qs (eK rfl rfl C) (yN o)) (jL ((D.neg).ok (n:=2) ?_ (by lia) (by decide)))
   .exact JX (eK rfl rfl m)
   .unfold Bn;show _<4;lia
  .refine lh (t:=.lst (d.map T.int)) (gB (iX (row.zip other) (λp=>T.tup [.int p.1,.int p.2]) (λp=>T.int ((o.natAbs:Int)*p.1+w*p.2)) (vq rfl rfl rfl rfl) (by simp;lia) (λp e=>⟨_,rfl,rfl,?_⟩) (by rw[aI];rfl))) rfl;exact eK (eK rfl rfl (jL (B.ok (j _ (aW e).1) (by lia) (by lia)))) (eK rfl rfl (jL (v.ok (u _ (aW e).2) (by lia) (by lia)))) (gX _ _)
  .refine Bz (g:=g) (by lia) ?_;rw[<-f a,h a,F,E];show _ + -x0*Bu o*o=_;rw[cQ,Fy,dD,cR x0];lia
theorem nL P x1 L M (S:L<1000):∀(pv:List (Nat×LI)) (b:LI) (N:Nat) (j l:Oq W),N+pv.length*(M+1)<=8000->b.length=L->(∀x∈b,Bn N x)->(∀p∈pv,p.1<L/\p.2.length=L/\vc p.2 p.1≠0/\(∀x∈p.2,Bn M x)/\P (vc p.2))->pv.Pairwise (λp q=>vc q.2 p.1=0)->
  ∃r B F,f6 (j8 2 (fH (km 2) (fH (km 3) j7))) (oh c) (pv.map kM) [some (.p (tI b)),x1,j,l]=.nx [some (.p (tI r)),x1,B,F]/\r.length=L/\(∀x∈r,Bn (N+pv.length*(M+1)) x)/\
   (∃g s y,0<g/\0<s/\Qs P y/\∀i,g*vc r i=s*vc b i+1*y i)/\(∀k,vc b k=0->(∀p∈pv,vc p.2 k=0)->vc r k=0)/\∀p∈pv,vc r p.1=0
 |[],b,N,j,l,_,hl,hb,_,_=>⟨b,j,l,rfl,hl,λx m=>(hb x m).mono (by lia),⟨1,1,λ_=>0,by decide,by decide,.zero,λi=>by lia⟩,λk D _=>D,λp d=>nomatch d⟩
 | (a,prow)::pv,b,N,j,l,hN,hl,hb,hA,hw=>by
  obtain⟨h1,h2,Q,U,h5⟩:=hA (a,prow) (bh ..);obtain⟨w1,K⟩:=c7.mp hw;rw[az,bT]at hN;obtain⟨C,e1,Y,b1,Z,f,E,J,w,v,H,_⟩:=wM N M b prow a (by lia) (by lia) (by lia) (by lia) hb U Q;obtain⟨r,B,F,e,o,t,⟨u,h,y,n,A,hy,R⟩,I,z2⟩:=nL P x1 L M S pv C (N+M+1) (some (.p (.int a))) (some (.p (tI prow))) (by lia) (by rw[Y,hl]) b1 (λp d=>hA p (bj _ d)) K;refine⟨r,B,F,?_,o,λx m=>(t x m).mono (by rw[az,bT];lia),⟨f*u,h*E,_,Int.mul_pos w n,Int.mul_pos A v,Qs.comb (h*J) f (.of h5) hy,λi=>?_⟩,λk D d=>?_,λp d=>?_⟩
  .rw[bB,f6];have E:(j8 2 (fH (km 2) (fH (km 3) j7))) (kM (a,prow)) [some (.p (tI b)),x1,j,l]=some [some (.p (tI b)),x1,some (.p (.int a)),some (.p (tI prow))]:=rfl;rw[E];have h:oh c [some (.p (tI b)),x1,some (.p (.int a)),some (.p (tI prow))]=.nx [some (.p (tI C)),x1,some (.p (.int a)),some (.p (tI prow))]:=fv (kJ rfl rfl rfl e1) rfl;dsimp only;rw[h];exact e
  .calc f*u*vc r i=f*(u*vc r i):=by ac_rfl
    _=h*(f*vc C i)+f*y i:=by rw[R i,dq,dA];congr 1;ac_rfl
    _=_:=by rw[H i,dA];simp only[dq,cQ,Int.add_assoc]
  .refine I k (Bz (g:=f) (by lia) ?_) λp z=>d p (bj _ z);have:=d (a,prow) (bh ..);dsimp only at this;rw[H k,D,this,dB,dB];rfl
  .rcases aF.mp d with rfl|d
   .exact I _ Z λq X=>w1 q X
   .exact z2 p d
def wz P L M N (f:L<1000) (pv:List (Nat×LI)) row (b:N+pv.length*(M+1)<=8000) (m:row.length=L) (l:∀x∈row,Bn N x) (k:∀p∈pv,p.1<L/\p.2.length=L/\vc p.2 p.1≠0/\(∀x∈p.2,Bn M x)/\P (vc p.2)) (hw:pv.Pairwise (λp q=>vc q.2 p.1=0)) :
  ∃r:LI,ia c [tI row,.lst (pv.map kM)]=.ok (tI r)/\r.length=L/\(∀x∈r,Bn (N+pv.length*(M+1)) x)/\
   (∃g s y,0<g/\0<s/\Qs P y/\∀i,g*vc r i=s*vc row i+1*y i)/\∀p∈pv,vc r p.1=0:=by
 obtain⟨r,n,o,e,a,j,d,-,h⟩:=nL P (some (.p (.lst (pv.map kM)))) L M f pv row N none none b m l k hw;exact⟨r,gd rfl (eI (lr rfl e) (fE rfl)),a,j,d,h⟩
noncomputable def Pq(B:Nat):Nat->Nat
 |0=>0
 |k+1=>Pq B k+(B+k*(Pq B k+1))+1
def Hv B k:Pq B k<=Pq B (k+1):=by show _<=Pq B k+(B+k*(Pq B k+1))+1;lia
def Iu(h:k<=d):Pq B k<=Pq B d:=by
 induction h with
 |refl=>exact aK _
 |step _ ih=>exact aN ih (Hv B _)
structure Np(d B:Nat):Prop where
 b1:1<=B
 le:∀k,k<=d->B+k*(Pq B k+1)<=8000
 pq:Pq B d<=8000
structure PP(d B:Nat)(rows:LL)(pv:List (Nat×LI))(rs:LL):Prop where
 pl:∀p∈pv,p.1<d/\p.2.length=d+1/\vc p.2 p.1≠0/\(∀x∈p.2,Bn (Pq B pv.length) x)/\Qs (VP rows) (vc p.2)
 pw:pv.Pairwise λp q=>p.1≠q.1/\vc q.2 p.1=0/\vc p.2 q.1=0
 rr:∀r∈rs,r.length=d+1/\(∀k,k<d->vc r k=0)/\Qs (VP rows) (vc r)
 sp:∀r∈rows,Qs (λx=>(∃p∈pv,x=vc p.2)\/∃r∈rs,x=vc r) (vc r)
section
variable {d B:Nat}{rows rs:LL}{pv:List (Nat×LI)}{row left:LI}{g s:Int}{y:Vc}
def PP.short(h:PP d B rows pv rs):pv.length<=d:=by
 have:=sV d (pv.map Prod.fst) (cI.mpr (h.pw.imp λq=>q.1)) λx a=>by obtain⟨p,b,rfl⟩:=aD.mp a;exact (h.pl p b).1
 simpa using this
def m5{x:Vc}(q:Qs (VP rows) x):Qs (VP (rows++[row])) x:=q.mono λz ⟨w,hw,e⟩=>⟨w,ay _ hw,e⟩
def qW(h:PP d B rows pv rs)(b:0<g)(a:Qs (tJ pv) y)(e:∀i,g*vc left i=s*vc row i+1*y i):Qs (VP (rows++[row])) (vc left):=.lin (.of ⟨row,bu _ (aj.mpr rfl),rfl⟩) (a.sub λx ⟨p,hp,ex⟩=>by rw[ex];exact m5 (h.pl p hp).2.2.2.2) (by lia) e
def HH(h:PP d B rows pv rs)(v:0<g)(w:0<s)(l:Qs (tJ pv) y)(e:∀i,g*vc left i=s*vc row i+1*y i)(m:left.length=d+1)(n:∀k,k<d->vc left k=0):PP d B (rows++[row]) pv (rs++[left]):=by
 have up:∀{x:Vc},Qs (λx=>(∃p∈pv,x=vc p.2)\/∃r∈rs,x=vc r) x->Qs (λx=>(∃p∈pv,x=vc p.2)\/∃r∈rs++[left],x=vc r) x:=λq=>q.mono λz u=>u.imp id λ⟨r,f,ez⟩=>⟨r,ay _ f,ez⟩;refine⟨λp j=>?_,h.pw,λr f=>?_,λr f=>?_⟩
 .obtain⟨a,b,t,o,q⟩:=h.pl p j;exact⟨a,b,t,o,m5 q⟩
 .rcases ai.mp f with q|q
  .obtain⟨a,b,q⟩:=h.rr r q;exact⟨a,b,m5 q⟩
  .rw[aj.mp q];exact⟨m,n,qW h v l e⟩
 .rcases ai.mp f with q|q
  .exact up (h.sp r q)
  .rw[aj.mp q];exact .lin (a:=g) (b:=-1) (.of (.inr ⟨left,bu _ (aj.mpr rfl),rfl⟩)) (l.mono λx ⟨p,j,ex⟩=>.inl ⟨p,j,ex⟩) (show s≠0 by lia) λi=>by rw[e i];lia
def Ej(h:PP d B rows pv rs)(N:0<g)(Z:0<s)(J:Qs (tJ pv) y)(e:∀i,g*vc left i=s*vc row i+1*y i)(U:left.length=d+1)(C:∀p∈pv,vc left p.1=0)(S:∀x∈left,Bn (B+pv.length*(Pq B pv.length+1)) x){j:Nat}(R:j<d)(L:vc left j≠0)
  (f:Nat×LI->LI) (A:∀p∈pv,(f p).length=p.2.length/\(∀x∈f p,Bn (Pq B (pv.length+1)) x)/\vc (f p) j=0/\∃g s b:Int,0<g/\0<s/\∀i,g*vc (f p) i=s*vc p.2 i+b*vc left i):PP d B (rows++[row]) (pv.map (λp=>(p.1,f p))++[(j,left)]) rs:=by
 have X:(pv.map (λp=>(p.1,f p))++[(j,left)]).length=pv.length+1:=by simp
 have at_:∀p∈pv,∀q∈pv,vc p.2 q.1=0->vc (f p) q.1=0:=λp k q o z=>by obtain⟨_,_,_,D,I,K,H,E,t⟩:=A p k;have:=t q.1;rw[z,C q o,dB,dB,dw]at this;exact Bz (Int.ne_of_gt H) this
 have m:Qs (λx=>(∃p∈pv.map (λp=>(p.1,f p))++[(j,left)],x=vc p.2)\/∃r∈rs,x=vc r) (vc left):=.of (.inl ⟨(j,left),bu _ (aj.mpr rfl),rfl⟩);have n:∀p∈pv,Qs (λx=>(∃p∈pv.map (λp=>(p.1,f p))++[(j,left)],x=vc p.2)\/∃r∈rs,x=vc r) (vc p.2):=λp k=>by obtain⟨_,_,_,D,I,K,H,E,t⟩:=A p k;exact .lin (a:=D) (b:=-K) (.of (.inl ⟨(p.1,f p),ay _ (aD.mpr ⟨p,k,rfl⟩),rfl⟩)) m (show I≠0 by lia) λi=>by rw[t i];lia
 refine⟨λp k=>?_,?_,λr u=>?_,λr u=>?_⟩
 .rw[X];rcases ai.mp k with q|q
  .obtain⟨p,l,rfl⟩:=aD.mp q;obtain⟨a,b,Y,d',q⟩:=h.pl p l;obtain⟨P,Q,_,D,I,K,H,E,t⟩:=A p l;refine⟨a,P.trans b,λz=>?_,Q,.lin (m5 q) (qW h N J e) (show D≠0 by lia) t⟩;have:=t p.1;rw[show vc (f p) p.1=0 from z,C p l,dB,dB,dw]at this;exact Y (Bz (Int.ne_of_gt E) this.symm)
  .rw[aj.mp q];exact⟨R,U,L,λx F=>(S x F).mono (by show _<=Pq B pv.length+(B+pv.length*(Pq B pv.length+1))+1;lia),qW h N J e⟩
 .refine dE.mpr ⟨cI.mpr (h.pw.imp_of_mem λ{p q} k o w=>⟨w.1,at_ q o p k w.2.1,at_ p k q o w.2.2⟩),cG _ _,λp k q o=>?_⟩;rw[aj.mp o];obtain⟨p,l,rfl⟩:=aD.mp k;exact⟨λz=>L ((show p.1=j from z)▸C p l),C p l,(A p l).2.2.1⟩
 .obtain⟨a,b,q⟩:=h.rr r u;exact⟨a,b,m5 q⟩
 .rcases ai.mp u with q|q
  .exact (h.sp r q).sub λx F=>by
    rcases F with⟨p,k,v⟩|⟨r,u,v⟩
    .rw[v];exact n p k
    .exact .of (.inr ⟨r,u,v⟩)
  .rw[aj.mp q];exact .lin (a:=g) (b:=-1) m (J.sub λx ⟨p,k,v⟩=>by rw[v];exact n p k) (show s≠0 by lia) λi=>by rw[e i];lia
end
theorem FV(a:LL)(d B:Nat)(hd:d<=4)(hzl:a.length<=8)(hz:∀u∈a,u.length=d+1/\∀x∈u,Bn B x)(hB:Np d B) :
  ∃pv n,gy c [.lst (a.map tI),.int (d:Int)]=.ok (.tup [.lst (pv.map kM),.lst (n.map tI)])/\PP d B a pv n/\n.length<=8:=by
 have sz:1000<sizeLine:=by decide
 have hrm:BW (d:Int)=true:=kn (by lia);obtain⟨ρ,e,pv,n,x4,Z,U,rfl,v,K⟩:=i8 (m:=km 4) (g:=iI c) tI
  (λk ρ=>∃(pv:List (Nat×LI)) (n:LL) (x4 Z U:Oq W),ρ=[some (.p (.lst (a.map tI))),some (.p (.int (d:Int))),some (.p (.lst (pv.map kM))),some (.o (n.map tI)),x4,Z,U]/\PP d B (a.take k) pv n/\n.length<=k)
  a 0 _ ⟨[],[],none,none,none,rfl,⟨(λp l=>nomatch l),List.Pairwise.nil,(λp l=>nomatch l),(λz hz=>by simp at hz)⟩,aK _⟩ (by
   rintro k z ρ hi ⟨pv,n,x4,Z,U,rfl,v,K⟩;rw[aG]at v K ⊢;have X:=hz z (av hi);have hkl:=(aa.mp hi).1;have H:=v.short;have hbb:=hB.le pv.length H;obtain⟨left,el,S,N,⟨g,s,y,hg,hs,hy,ey⟩,h0⟩:=wz (c:=c) (tJ pv) (d+1) (Pq B pv.length) B (by lia) pv z hbb X.1 X.2 (λp l=>by obtain⟨q1,q2,q3,q4,_⟩:=v.pl p l;exact⟨by lia,q2,q3,q4,p,l,rfl⟩) (v.pw.imp λh=>h.2.1)
   let C:List Nat:=(List.range d).filter λj=>left.getD j 0 != 0;let R:En:=[some (.p (.lst (a.map tI))),some (.p (.int (d:Int))),some (.p (.lst (pv.map kM))),some (.o (n.map tI)),some (.p (tI z)),some (.p (tI left)),some (.p (.lst (C.map λ(j:Nat)=>T.int (j:Int))))];have e4:iR [none,some 5] (iG (ee (ei 1) eC)) (iC 0) (gG (eP (fC true) (eP il (ei 1) (ei 0)) (cM (.int 0)))) (j4 c) (jW [some (.p (.lst (a.map tI))),some (.p (.int (d:Int))),some (.p (.lst (pv.map kM))),some (.o (n.map tI)),some (.p (tI z)),some (.p (tI left)),U])=.ok (C.map λ(j:Nat)=>T.int (j:Int)):=mY (List.range d) (λ(j:Nat)=>T.int (j:Int)) (λ(j:Nat)=>T.int (j:Int)) (λj=>left.getD j 0 != 0) (by simp[hrm,HB]) (by simp;lia) (λj hj=>⟨_,rfl,fG (eK (eK rfl rfl (je left j (by have:=aS.mp hj;lia))) rfl (oB _ _)),λ_=>rfl⟩) rfl
   have J:og (C.map λ(j:Nat)=>T.int (j:Int))=true:=mV _ _ λ_ _=>rfl;have I:oW (C.map λ(j:Nat)=>T.int (j:Int))<=90:=aN (mM _ 0 _ λ_ _=>aK _) (by decide);have A:gG (eP (fC false) (ei 6) (hW (lstM eC))) (vw R)=.ok C.isEmpty:=by refine fG (eK (x:=.lst (C.map λ(j:Nat)=>T.int (j:Int))) (y:=.lst []) rfl (by simp) ?_);rw[qU false _ J I];simp
   have Q:∀r,(ml (gG (eP (fC false) (ei 6) (hW (lstM eC)))) (pH 3 (iQ (ei 5))) (setO 2 (iQ (hW (iY (ee (ei 2) (ee (ei 5) (ee (eP il (ei 6) (cM (.int 0))) eC))) (iE c)))))) R=r->
     iI c [some (.p (.lst (a.map tI))),some (.p (.int (d:Int))),some (.p (.lst (pv.map kM))),some (.o (n.map tI)),some (.p (tI z)),Z,U]=r:=λr hr=>
    eI (fv (t:=tI left) (l9 rfl rfl el) rfl) (eI (fv (t:=.lst (C.map λ(j:Nat)=>T.int (j:Int))) (gB e4) rfl) hr)
   have mono:B+pv.length*(Pq B pv.length+1)<=B+d*(Pq B d+1):=Nat.add_le_add_left (Nat.mul_le_mul H (Nat.add_le_add_right (Iu H) 1)) _;have tk:a.take (k+1)=a.take k++[z]:=jA a k z hi;cases D:C with
   |nil=>refine⟨_,_,rfl,.inl (Q _ (hU (by rw[A,D];rfl) (n6 (t:=tI left) rfl rfl (by simp;lia) rfl))),pv,n++[left],_,_,_,by rw[aZ];rfl,?_,by simp;lia⟩;rw[tk];refine HH v hg hs hy ey S λi him=>?_;refine aO λhc=>?_;have:i∈C:=aU.mpr ⟨aS.mpr him,by simpa[vc] using hc⟩;rw[D]at this;exact nomatch this
   |cons E js=>
    have Y:E∈C:=by rw[D];exact bh ..
    have F:E<d:=aS.mp (aU.mp Y).1;have w:vc left E≠0:=by have:=(aU.mp Y).2;simpa[vc] using this
    have L:pv.length+1<=d:=by
     have nd:(E::pv.map Prod.fst).Nodup:=bG.mpr ⟨λhm=>by obtain⟨p,l,ep⟩:=aD.mp hm;exact w (ep▸h0 p l),cI.mpr (v.pw.imp λq=>q.1)⟩
     have:=sV d _ nd λx hx=>by
      rcases aF.mp hx with rfl|hx
      .exact F
      .obtain⟨p,l,rfl⟩:=aD.mp hx;exact (v.pl p l).1
     simpa using this
    have hP:Pq B (pv.length+1)<=8000:=aN (Iu L) hB.pq;obtain⟨f,hf⟩:=qm (P:=λ(p:Nat×LI) (r:LI)=>iD c [tI p.2,tI left,.int (E:Int)]=.ok (tI r)/\r.length=p.2.length/\(∀x∈r,Bn (Pq B (pv.length+1)) x)/\vc r E=0/\∃g s b:Int,0<g/\0<s/\∀i,g*vc r i=s*vc p.2 i+b*vc left i) pv λp l=>by obtain⟨q1,q2,q3,q4,_⟩:=v.pl p l;obtain⟨r,a1,a2,a3,a4,g,s,b,a5,a6,a7,_⟩:=wM (c:=c) (Pq B pv.length) (B+pv.length*(Pq B pv.length+1)) p.2 left E (by lia) (by lia) (by lia) hP q4 N w;exact⟨r,a1,a2,a3,a4,g,s,b,a5,a6,a7⟩
    have i0:eP il (ei 6) (cM (.int 0)) (jW R)=.ok (.int (E:Int)):=eK (x:=.lst (C.map λ(j:Nat)=>T.int (j:Int))) rfl rfl (by rw[D];exact HQ _ _);have e5:=tQ (c:=c) pv left E f (by lia) λp l=>(hf p l).1;refine⟨_,_,rfl,.inl (Q _ (g9 (by rw[A,D];rfl) (fv (gB (IM rfl rfl i0 e5)) rfl))),_,n,_,_,_,rfl,?_,by lia⟩;rw[tk];exact Ej v hg hs hy ey S h0 N F w f λp l=>(hf p l).2)
 rw[aG,dF]at v;rw[aG]at K;refine⟨pv,n,gd rfl (eI (fv (t:=.lst []) (by simp) rfl) (eI (l5 (ts:=[]) (by simp) rfl) (eI (lr rfl e) (fE (A1 rfl rfl))))),v,by lia⟩
end CL
namespace CL
open PySem L2 L3
variable {c:Cs}
def Ia(h:fc ρ=.ok false)(a:fd ρ=.ok b):L3.BB fc fd ρ=.ok b:=by simp only[L3.BB,h,a,M.bind_ok];rfl
def GL(d B:Nat)(a:LI):Prop:=a.length=d+1/\∀x∈a,Bn B x
structure GC(d B:Nat)(ns:LI):Prop where
 gl:GL d B ns
 re:∃p,p<d/\vc ns p≠0
def GL.mono(h:GL d B ns)(b:B<=B'):GL d B' ns:=⟨h.1,λx a=>(h.2 x a).mono b⟩
def GL.set(h:GL d B ns) k (b:Bn B v):GL d B (ns.set k v):=⟨by rw[bM];exact h.1,λx a=>by
 rcases List.mem_or_eq_of_mem_set a with q|q
 .exact h.2 x q
 .rw[q];exact b⟩
def Km ns k v i (a:k<ns.length):vc (ns.set k v) i=if k=i then v else vc ns i:=by
 unfold vc;rw[af,List.getElem?_set];by_cases h:k=i
 .subst h;rw[aQ rfl,aQ rfl,aQ a];rfl
 .rw[aR h,aR h,<-af]
def Av n k (h:k<n):vM n (k:Int)=some k:=by unfold vM;rw[aQ (by lia),aQ (by lia)];simp
def l0(n:Nat)(h:n<=1000)(a:f ρ=.ok (.int (n:Int))):iG (ee f eC) ρ=.ok ((List.range n).map λ(i:Nat)=>T.int (i:Int)):=by have b:BW n=true:=kn (by lia);rw[<-HB];simp[a,b]
def GG cell (k d B:Nat) (fs:LL) (hk:k<=10) (hd:1<=d/\d<=3) (hB:10<=B) (hB2:B<=1000) (hf:∀f∈fs,GL d B f) (hfl:fs.length<=10) :
  ∃ns,iy c [.int cell,.int k,.int d,.lst (fs.map tI)]=.ok (tI ns)/\GC d (B+2) ns:=by
 have sz:1000<sizeLine:=by decide
 have hrd:BW ((d+1:Nat):Int)=true:=kn (by lia);obtain⟨d1,d1a,d1b⟩:=jI (c:=c) cell 2 5 (by decide) (by decide) (by decide) (by decide);obtain⟨h,ew,hw⟩:=Aw [1,2,3,5,1000] (dr c cell 2 5) d1a (by simpa using d1b);have hw':1<=h/\h<=1000:=by simp only[aF,cV,or_false]at hw;lia
 let s:LI:=(List.range (d+1)).map λ(j:Nat)=>dr c cell (4+4*k+j) (2*h+1)-h;have g0:GL d (B+2) s:=⟨by simp[s],λx U=>by obtain⟨j,hj,rfl⟩:=aD.mp U;have hj':=aS.mp hj;obtain⟨_,a1,a2⟩:=jI (c:=c) cell (4+4*k+j) (2*h+1) (by lia) (by lia) (by lia) (by lia);refine Bn.mono (m:=10) ?_ (by lia);unfold Bn;show _<1024;lia⟩
 obtain⟨d2,d2a,d2b⟩:=jI (c:=c) cell (40+k) 6 (by decide) (by decide) (by lia) (by lia);let r:=dr c cell (40+k) 6;let St:LI->Option W->Option W->En:=λns D E=>[some (.p (.int cell)),some (.p (.int k)),some (.p (.int d)),some (.p (.lst (fs.map tI))),some (.p (.int h)),some (.o (ns.map T.int)),some (.p (.int r)),D,E];have e0:iR [none,some 4,some 0,some 1] (iG (ee (eP ig (ei 2) (cM (.int 1))) eC)) (iC 0) (λ_=>.ok true) (oG c) (jW [some (.p (.int cell)),some (.p (.int k)),some (.p (.int d)),some (.p (.lst (fs.map tI))),some (.p (.int h)),none,none,none,none])=.ok (s.map T.int):=by
  refine iX (List.range (d+1)) (λ(j:Nat)=>T.int (j:Int)) (λ(j:Nat)=>T.int (dr c cell (4+4*k+j) (2*h+1)-h)) ?_ (by simp;lia) (λj hj=>⟨_,rfl,rfl,?_⟩) (by rw[aI];rfl)
  .exact l0 (d+1) (by lia) (eK rfl rfl (by rw[gX];simp))
  .have hj':=aS.mp hj;obtain⟨e,_,_⟩:=jI (c:=c) cell (4+4*k+j) (2*h+1) (by lia) (by lia) (by lia) (by lia);exact eK (kJ (y:=.int (4+4*(k:Int)+(j:Int))) (z:=.int (2*h+1)) rfl (eK (eK rfl (eK rfl rfl (i5 (by decide))) (gX _ _)) rfl (gX _ _)) (eK (eK rfl rfl (i5 (by decide))) rfl (gX _ _)) e) rfl (rH _ _)
 have Q:∀neg,fC neg (.lst (fs.map tI)) (.lst [])=.ok (.bl (if neg then !fs.isEmpty else fs.isEmpty)):=λneg=>by rw[qU neg (fs.map tI) (by simp) (aN (xS fs) (by decide))];simp
 obtain⟨w,e1,g1⟩:∃w,(ml (tq (gG (eP (fC false) (ei 6) (cM (.int 1)))) (gG (eP (fC true) (ei 3) (hW (lstM eC))))) (lK 5 (qP (wC (hW (FF mE (ee (lI (eP il (ei 3) (eQ (ee (ei 0) (ee (eP ig (cM (.int 50)) (ei 1)) (ee (jq ji (ee (ei 3) eC)) eC))) (fj c))) (λ_=>.ok none) (iZ (ei 2))) eC))) (lI (ei 5) (iZ (ei 2)) (λ_=>.ok none))))) gx) (St s none none)=.nx (St w none none)/\GL d (B+2) w:=by
  by_cases H:r=1/\fs≠[]
  .obtain⟨L,A⟩:=H;have hlp:=List.length_pos_iff.mpr A;obtain⟨d3,I,S⟩:=jI (c:=c) cell (50+k) fs.length (by lia) (by lia) (by lia) (by lia);obtain⟨f,ef,F⟩:=vn fs (dr c cell (50+k) fs.length) I S;have J:=hf f F;refine⟨f.take d++s.drop d,hU ?_ (FC (ts:=(f.take d++s.drop d).map T.int) ?_ (pB _) rfl),⟨?_,λx U=>?_⟩⟩
   .have N:gG (eP (fC false) (ei 6) (cM (.int 1))) (vw (St s none none))=.ok true:=fG (eK (x:=.int r) rfl rfl (by rw[fS,L];rfl));have K:gG (eP (fC true) (ei 3) (hW (lstM eC))) (vw (St s none none))=.ok true:=fG (eK (x:=.lst (fs.map tI)) (y:=.lst []) rfl (by simp) (by rw[Q];simp[A]));simp only[L3.tq,N,K,M.bind_ok];rfl
   .rw[aZ];refine vh (a:=(f.take d).map T.int) (b:=(s.drop d).map T.int) ?_ ?_ (by simp;have:=g0.1;lia)
    .refine gB ?_;have:=sr (fe:=eP il (ei 3) (eQ (ee (ei 0) (ee (eP ig (cM (.int 50)) (ei 1)) (ee (jq ji (ee (ei 3) eC)) eC))) (fj c))) (fd:=ei 2) (d:=d) (ts:=f.map T.int) (ρ:=vw (St s none none)) (eK (x:=.lst (fs.map tI)) (y:=.int (dr c cell (50+k) fs.length)) rfl (kJ (y:=.int (50+(k:Int))) (z:=.int (fs.length:Int)) rfl (eK rfl rfl (gX _ _)) (lh rfl (by simp)) d3) (by simp[lY,ef,tI])) rfl (by rw[ax,J.1];lia);simp only[FF,ee,eC,this,M.bind_ok];rw[cW];rfl
    .rw[List.map_drop];exact pW (ts:=s.map T.int) rfl rfl
   .rw[aT,bI,bK,J.1,g0.1];lia
   .rcases ai.mp U with q|q
    .exact (J.2 x (dI q)).mono (by lia)
    .exact g0.2 x (List.mem_of_mem_drop q)
  .refine⟨s,g9 ?_ rfl,g0⟩;have N:gG (eP (fC false) (ei 6) (cM (.int 1))) (vw (St s none none))=.ok (r==1):=fG (eK (x:=.int r) rfl rfl (fS _ _));have K:gG (eP (fC true) (ei 3) (hW (lstM eC))) (vw (St s none none))=.ok (!fs.isEmpty):=fG (eK (x:=.lst (fs.map tI)) (y:=.lst []) rfl (by simp) (by rw[Q];rfl));simp only[L3.tq,N,K,M.bind_ok];by_cases L:r=1
   .have hn:fs=[]:=by
     by_cases hn:fs=[]
     .exact hn
     .exact absurd ⟨L,hn⟩ H
    rw[L,hn];rfl
   .have:(r==1)=false:=by simpa using L
    rw[this];rfl
 obtain⟨C,e2,g2⟩:∃C,(ml (gG (eP (fC false) (ei 6) (cM (.int 2)))) (vk 5 (s9 (ei 2)) (s9 (cM (.int 0)))) gx) (St w none none)=.nx (St C none none)/\GL d (B+2) C:=by
  by_cases h2:r=2
  .refine⟨w.set d 0,hU (fG (eK (x:=.int r) rfl rfl (by rw[fS,h2];rfl))) (CT (us:=w.map T.int) (t:=.int 0) (j:=(d:Int)) (m:=d) rfl rfl rfl rfl (Av _ _ (by rw[ax,g1.1];lia)) ?_),g1.set d zI⟩;show St (w.set d 0) none none=_;simp only[St,List.map_set];rfl
  .exact⟨w,g9 (fG (eK (x:=.int r) rfl rfl (by rw[fS];simp[h2]))) rfl,g1⟩
 obtain⟨u,D,E,e3,g3⟩:∃u D E,(ml (tq (gG (eP (fC false) (ei 6) (cM (.int 3)))) (gG (eP Ik (jq ji (ee (ei 3) eC)) (cM (.int 1))))) (fg (setO 7 (iQ (eP il (ei 3) (eQ (ee (ei 0) (ee (eP ig (cM (.int 50)) (ei 1)) (ee (eP tF (jq ji (ee (ei 3) eC)) (cM (.int 1))) eC))) (fj c)))))
  (fg (setO 8 (iQ (eP ig (cM (.int 1)) (eQ (ee (ei 0) (ee (eP ig (cM (.int 60)) (ei 1)) (ee (cM (.int 3)) eC))) (fj c)))))
  (lK 5 (n5 (iR [none,none,some 8] (lG (ee (eP il (ei 3) (BZ (λi=>.int (-i)) (cM (.int 1)))) (ee (ei 7) eC))) (mW 2 (f9 (iC 0) (f9 (iC 1) mX))) (λ_=>.ok true) (pI c)))))) gx) (St C none none)=.nx (St u D E)/\GL d (B+2) u:=by
  have N:gG (eP (fC false) (ei 6) (cM (.int 3))) (vw (St C none none))=.ok (r==3):=fG (eK (x:=.int r) rfl rfl (fS _ _))
  have K:gG (eP Ik (jq ji (ee (ei 3) eC)) (cM (.int 1))) (vw (St C none none))=.ok (decide (1<(fs.length:Int))):=fG (eK (x:=.int (fs.length:Int)) (lh rfl (by simp)) rfl rfl)
  by_cases H:r=3/\1<fs.length
  .obtain⟨P,R⟩:=H;have A:fs≠[]:=by intro z;rw[z]at R;simp at R
   obtain⟨d3,I,S⟩:=jI (c:=c) cell (50+k) (fs.length-1) (by lia) (by lia) (by lia) (by lia);obtain⟨f,ef,F⟩:=vn fs (dr c cell (50+k) (fs.length-1)) I (by lia);obtain⟨d4,d4a,d4b⟩:=jI (c:=c) cell (60+k) 3 (by decide) (by decide) (by lia) (by lia);have Iw:ou fs (-1)=some (fs.getLast A):=by rw[Jw _ A,List.getLast?_eq_getLast A]
   have gl:=hf _ (List.getLast_mem A);have J:=hf f F;generalize fs.getLast A=la at Iw gl;let v:Int:=1+dr c cell (60+k) 3;have hby:1<=v/\v<=3:=by show 1<=1+_/\1+_<=(3:Int);lia
   refine⟨(la.zip f).map λp=>p.1+v*p.2,some (.p (tI f)),some (.p (.int v)),hU ?_ (eI (fv (t:=tI f) (eK (x:=.lst (fs.map tI)) (y:=.int (dr c cell (50+k) (fs.length-1))) rfl (kJ (y:=.int (50+(k:Int))) (z:=.int ((fs.length:Int)-1)) rfl (eK rfl rfl (gX _ _)) (eK (x:=.int (fs.length:Int)) (lh rfl (by simp)) rfl (rH _ _)) d3) (by simp[lY,ef])) rfl) (eI (fv (t:=.int v) (eK rfl (kJ (y:=.int (60+(k:Int))) rfl (eK rfl rfl (gX _ _)) rfl d4) (gX _ _)) rfl) (l5 (ts:=((la.zip f).map λp=>p.1+v*p.2).map T.int) ?_ rfl))),⟨by rw[ax,dJ,gl.1,J.1];lia,λx U=>?_⟩⟩
   .simp only[L3.tq,N,K,M.bind_ok];have:(r==3)=true:=by simpa using P
    rw[this];simp only[if_true];have:decide (1<(fs.length:Int))=true:=aC (by lia);rw[this]
   .refine iX (la.zip f) (λp=>T.tup [.int p.1,.int p.2]) (λp=>T.int (p.1+v*p.2)) (vq (l:=la) (m:=f) (f:=T.int) (g:=T.int) (x:=tI la) (eK (x:=.lst (fs.map tI)) (y:=.int (-1)) rfl rfl (by simp[lY,Iw])) rfl rfl rfl) (by rw[dJ,gl.1,J.1];lia) (λp X=>⟨_,rfl,rfl,eK rfl (eK rfl rfl (i5 ?_)) (gX _ _)⟩) (by rw[aI];rfl);show v.natAbs<_;lia
   .obtain⟨p,X,rfl⟩:=aD.mp U;have L:=gl.2 _ (aW X).1;have h2:=J.2 _ (aW X).2;unfold Bn at *;rw[Nat.pow_add];have a1:=c0 p.1 (v*p.2);have a2:(v*p.2).natAbs<=3*p.2.natAbs:=by rw[aY];exact Nat.mul_le_mul_right _ (by lia)
    lia
  .refine⟨C,none,none,g9 ?_ rfl,g2⟩;simp only[L3.tq,N,K,M.bind_ok];by_cases P:r=3
   .have:(r==3)=true:=by simpa using P
    rw[this];have:decide (1<(fs.length:Int))=false:=aB (by intro z;exact H ⟨P,by lia⟩);rw[this];rfl
   .have:(r==3)=false:=by simpa using P
    rw[this];rfl
 have Y:gG (eP (fC false) (lI (ei 5) (λ_=>.ok none) (iZ (ei 2))) (hW (Dy (hW (lstM (ee (cM (.int 0)) eC))) (ei 2)))) (vw (St u D E))=.ok (decide (u.take d=List.replicate d 0)):=by refine fG (eK (x:=.lst ((u.take d).map T.int)) (y:=.lst ((List.replicate d (0:Int)).map T.int)) ?_ (LK d (by lia) rfl) (by rw[EH];rfl));rw[cW];exact Bm (ts:=u.map T.int) rfl rfl
 have head:∀t,fg (ml (gG (eP (fC false) (lI (ei 5) (λ_=>.ok none) (iZ (ei 2))) (hW (Dy (hW (lstM (ee (cM (.int 0)) eC))) (ei 2))))) (vk 5 (s9 (eQ (ee (ei 0) (ee (eP ig (cM (.int 60)) (ei 1)) (ee (ei 2) eC))) (fj c))) (s9 (cM (.int 1)))) gx) (gH (jq jj (ee (ei 5) eC))) (St u D E)=.rt t->iy c [.int cell,.int k,.int d,.lst (fs.map tI)]=.ok t:=λt ht=>by refine gd rfl (eI (fv (t:=.int h) (eK (x:=.lst ([1,2,3,5,1000].map T.int)) (y:=.int (dr c cell 2 5)) (Lp rfl rfl rfl rfl rfl) (kJ rfl rfl rfl d1) ew) rfl) (eI (l5 (ts:=s.map T.int) e0 rfl) (eI (fv (t:=.int r) (kJ (y:=.int (40+(k:Int))) rfl (eK rfl rfl (gX _ _)) rfl d2) rfl) (eI e1 (eI e2 (eI e3 ht))))))
 by_cases hz:u.take d=List.replicate d 0
 .obtain⟨d5,d5a,d5b⟩:=jI (c:=c) cell (60+k) d (by lia) (by lia) (by lia) (by lia);obtain⟨p,X⟩:∃p:Nat,dr c cell (60+k) d=(p:Int):=⟨(dr c cell (60+k) d).toNat,by lia⟩;rw[X]at d5 d5b;refine⟨u.set p 1,head _ (eI (ρ':=St (u.set p 1) D E) (hU (by rw[Y,aC hz]) (CT (us:=u.map T.int) (t:=.int 1) (j:=(p:Int)) (m:=p) rfl rfl rfl (kJ (y:=.int (60+(k:Int))) rfl (eK rfl rfl (gX _ _)) rfl d5) (Av _ _ (by rw[ax,g3.1];lia)) ?_)) (fE rfl)),⟨g3.set p (by have:=hB;exact (JH (n:=0)).mono (by lia)),p,by lia,?_⟩⟩
  .simp only[St,List.map_set];rfl
  .rw[Km _ _ _ _ (by rw[g3.1];lia),aQ rfl];decide
 .refine⟨u,head _ (eI (ρ':=St u D E) (g9 (by rw[Y,aB hz]) rfl) (fE rfl)),⟨g3,?_⟩⟩;refine aO λH=>hz (List.eq_replicate_iff.mpr ⟨by rw[bI,g3.1];lia,λb hb=>?_⟩);obtain⟨i,hi⟩:=List.getElem?_of_mem hb;have Z:i<d:=by have:=(aa.mp hi).1;rw[bI]at this;lia
  refine aO λhb0=>H ⟨i,Z,?_⟩;rw[List.getElem?_take]at hi;rw[aQ Z]at hi;unfold vc;rw[af,hi];exact hb0
noncomputable def jz(a b:LI):Bool:=(List.range a.length).all λk=>(List.range k).all λj=>vc a k*vc b j==vc a j*vc b k
def xJ n B a b (y:a.length=n) (P:b.length=n) (Q:n<=10) (N:B<=1000) (w:∀x∈a,Bn B x) (u:∀x∈b,Bn B x):iU c [tI a,tI b]=.ok (.bl (jz a b)):=by
 have sz:1000<sizeLine:=by decide
 have i:=nX (m:=km 2) (λ(k:Nat)=>T.int (k:Int)) (λρ=>∃r d,ρ=[some (.p (tI a)),some (.p (tI b)),r,d]) (λk=>(List.range k).all λj=>vc a k*vc b j==vc a j*vc b k) (.bl false) (List.range n) [some (.p (tI a)),some (.p (tI b)),none,none] ⟨none,none,rfl⟩ (by
  rintro k J ρ ⟨r,d,rfl⟩;have A:=aS.mp J;refine⟨_,rfl,?_⟩;have o:=nX (m:=km 3) (g:=qD c) (λ(j:Nat)=>T.int (j:Int)) (λρ=>∃d,ρ=[some (.p (tI a)),some (.p (tI b)),some (.p (.int (k:Int))),d]) (λj=>vc a k*vc b j==vc a j*vc b k) (.bl false) (List.range k) [some (.p (tI a)),some (.p (tI b)),some (.p (.int (k:Int))),d] ⟨d,rfl⟩ (by
   rintro j D ρ ⟨d,rfl⟩;have z:=aS.mp D;have H:=je a k (by lia);have K:=je b j (by lia);have I:=je a j (by lia);have C:=je b k (by lia);have F:=jL ((w _ (getD_mem a k (by lia))).ok (u _ (getD_mem b j (by lia))) (by lia) (by lia));have L:=jL ((w _ (getD_mem a j (by lia))).ok (u _ (getD_mem b k (by lia))) (by lia) (by lia));have s:gG (eP (fC true) (eP kC (eP il (ei 0) (ei 2)) (eP il (ei 1) (ei 3))) (eP kC (eP il (ei 0) (ei 3)) (eP il (ei 1) (ei 2)))) (vw [some (.p (tI a)),some (.p (tI b)),some (.p (.int (k:Int))),some (.p (.int (j:Int)))])=.ok (!(vc a k*vc b j==vc a j*vc b k)):=fG (eK (eK (eK rfl rfl H) (eK rfl rfl K) F) (eK (eK rfl rfl I) (eK rfl rfl C) L) (oB _ _))
   refine⟨_,rfl,λh=>⟨_,g9 (s.trans (by rw[h];rfl)) rfl,_,rfl⟩,λh=>hU (s.trans (by rw[h];rfl)) (fE rfl)⟩)
  have l:=l0 (f:=ei 2) (ρ:=vw [some (.p (tI a)),some (.p (tI b)),some (.p (.int (k:Int))),d]) k (by lia) rfl;refine⟨λh=>?_,λh=>nc l (o.2 h)⟩;obtain⟨q,e,E,rfl⟩:=o.1 h;exact⟨_,nc l e,_,_,rfl⟩)
 have l:=l0 (f:=jq ji (ee (ei 0) eC)) (ρ:=vw (fQ 4 [tI a,tI b])) n (by lia) (lh (t:=tI a) rfl (by simp[tI,y]));have v:jz a b=((List.range n).all λk=>(List.range k).all λj=>vc a k*vc b j==vc a j*vc b k):=by unfold jz;rw[y]
 cases h:jz a b with
 |true=>obtain⟨q,e,r,d,rfl⟩:=i.1 (by rw[<-v];exact h);exact gd rfl (eI (nc l e) (fE rfl))
 |false=>exact gd rfl (jX (nc l (i.2 (by rw[<-v];exact h))) rfl)
def GC.mono(h:GC d B ns)(a:B<=B'):GC d B' ns:=⟨h.gl.mono a,h.re⟩
def si a (r:a.length<=100) (h:∃p,p<a.length/\vc a p≠0):∃p:Nat,iL c [tI a]=.ok (.int (p:Int))/\p<a.length/\vc a p≠0:=by
 obtain⟨q,o,f⟩:=h;obtain⟨b,e,p,rfl,i,l⟩:=n8 (c:=gG (eP (fC false) (eP il (ei 0) (ei 1)) (cM (.int 0)))) (g:=mU c)
  (λb=>∃k:Nat,b=[some (.p (tI a)),some (.p (.int (k:Int)))]/\k<=q) (λb=>match b with|_::some (.p (.int j))::_=>q-j.toNat|_=>0)
  (λb=>∃k:Nat,b=[some (.p (tI a)),some (.p (.int (k:Int)))]/\k<a.length/\vc a k≠0) (by
   rintro b ⟨k,rfl,hk⟩;have m:il (tI a) (.int (k:Int))=.ok (.int (vc a k)):=je a k (by lia);by_cases d:vc a k=0
   .have n:k≠q:=λz=>f (by rw[<-z];exact d);refine .inr ⟨fG (eK (eK rfl rfl m) rfl (by rw[fS,d];rfl)),_,.inl (fv (eK rfl rfl (by rw[gX];simp)) rfl),⟨k+1,rfl,by lia⟩,?_⟩;show q-(((k+1:Nat):Int)).toNat<q-((k:Int)).toNat;lia
   .exact .inl ⟨fG (eK (eK rfl rfl m) rfl (by rw[fS];simp[d])),k,rfl,by lia,d⟩)
  ((a.map T.int).length+1) [some (.p (tI a)),some (.p (.int ((0:Nat):Int)))] ⟨0,rfl,by lia⟩ (by rw[ax];lia)
 exact⟨p,gd rfl (eI (fv rfl rfl) (eI e (fE rfl))),i,l⟩
def tM d B a b (Q:d<=3) (N:B<=1000) (f:GC d B a) (m:GL d B b) (h:jz a b=false):jw c [tI a,tI b]=.ok (.bl false):=by
 have sz:1000<sizeLine:=by decide
 have u:=f.gl.1;have F:=m.1;obtain⟨q,P,l⟩:=f.re;obtain⟨p,C,r,n⟩:=si a (by lia) ⟨q,by lia,l⟩;have E:=je b p (by lia);have K:=je a p r;have H:iR [none,none,some 1,some 2,some 0] (lG (ee (ei 0) (ee (ei 1) eC))) (mW 2 (f9 (iC 0) (f9 (iC 1) mX))) (λ_=>.ok true) (nR c) (vw [some (.p (tI a)),some (.p (tI b)),some (.p (.int p))])=.ok (((a.zip b).map λx=>x.1*vc b p==x.2*vc a p).map T.bl):=iX (a.zip b) (λx=>T.tup [.int x.1,.int x.2]) (λx=>T.bl (x.1*vc b p==x.2*vc a p)) (vq rfl rfl rfl rfl) (by rw[dJ];lia) (λx o=>⟨_,rfl,rfl,by have v:=f.gl.2 _ (aW o).1;have A:=m.2 _ (aW o).2;have w:=m.2 _ (getD_mem b p (by lia));have z:=f.gl.2 _ (getD_mem a p r);exact eK (eK rfl (eK rfl rfl E) (jL (v.ok w (by lia) (by lia)))) (eK rfl (eK rfl rfl K) (jL (A.ok z (by lia) (by lia)))) (fS _ _)⟩) (by rw[aI];rfl)
 refine gd rfl (eI (fv (qs rfl C) rfl) (fE (pF H ?_)));rw[pK];congr 2;cases s:((a.zip b).map λx=>x.1*vc b p==x.2*vc a p).all id with
 |false=>rfl
 |true=>
  exfalso;rw[cw]at s;have e:=C4.par_of_place n λi t=>by
   have J:(a.zip b)[i]? = some (a[i],b[i]'(by lia)):=by rw[List.getElem?_zip_eq_some];exact⟨ag t,ag (by lia)⟩
   have:=s _ (aD.mpr ⟨_,av J,rfl⟩);have L:a[i]*vc b p=(b[i]'(by lia))*vc a p:=by simpa using this
   show vc a i*vc b p=vc b i*vc a p;rw[lP a i t,lP b i (by lia)];exact L
  have:jz a b=true:=by unfold jz;refine cw.mpr λk I=>cw.mpr λj D=>?_;have g:=aS.mp I;have y:=aS.mp D;have:=e k j g (by lia);simpa[vc] using this
  rw[h]at this;cases this
structure HE(d B:Nat)(cs:LL):Prop where
 gc:∀f∈cs,GC d B f
 few:cs.length<=7
 pw:cs.Pairwise λa b=>jz a b=false
def Dq(h:GC d B ns):nM d (tI ns)=true:=by
 obtain⟨p,b,a⟩:=h.re;have f:=h.gl.1;unfold tI nM;have e:(ns.map T.int).length=d+1:=by simp[f]
 have j:(ns.map T.int).all isInt=true:=cw.mpr λx g=>by obtain⟨y,-,rfl⟩:=aD.mp g;rfl
 show (decide ((ns.map T.int).length=d+1)&&(ns.map T.int).all isInt&&(match jC (ns.map T.int) with|some ns=>(ns.take d).any (· != 0)|none=>false))=true;rw[aC e,j,xp];refine dM.mpr ⟨vc ns p,?_,by simpa using a⟩;rw[lP ns p (by lia)];refine av (i:=p) ?_;rw[List.getElem?_take,aQ b,ag (by lia)]
def uW d B (b:LL) ns (q:1<=d/\d<=3) (k:B<=1000) (v:b.length<7) (r:∀f∈b,GC d B f) (g:GC d B ns) (o:∀f∈b,jz f ns=false):i9 c [.int d,.lst (b.map tI),tI ns]=.ok (.bl true):=by
 have sz:1000<sizeLine:=by decide
 have i:=A4 (c:=c) d (by lia) (tI ns) rfl λw e=>by cases e;refine⟨by rw[ax,g.gl.1];lia,λt s=>by obtain⟨y,-,rfl⟩:=aD.mp s;rfl⟩
 rw[Dq g]at i;have u:iR [none,some 2] (gI (ei 1)) (iC 0) (λ_=>.ok true) (l4 c) (vw (fQ 3 [.int d,.lst (b.map tI),tI ns]))=.ok ((b.map λ_=>false).map T.bl):=iX b tI (λ_=>T.bl false) rfl (by lia) (λf h=>⟨_,rfl,rfl,l9 rfl rfl (tM d B f ns q.2 k (r f h) g.gl (o f h))⟩) (by rw[aI];rfl)
 have j:gG (eP KP (jq ji (ee (ei 1) eC)) (cM (.int 7))) (vw (fQ 3 [.int d,.lst (b.map tI),tI ns]))=.ok false:=fG (eK (x:=.int (b.length:Int)) (lh (t:=.lst (b.map tI)) rfl (by simp)) rfl (by rw[HJ];congr 2;exact aB (by lia)))
 have n:gG (eQ (ee (ei 0) (ee (ei 2) eC)) (lz c)) (vw (fQ 3 [.int d,.lst (b.map tI),tI ns]))=.ok true:=fG (l9 rfl rfl i);refine gd rfl (eI (g9 ?_ rfl) (fE ?_))
 .simp only[L3.BB,L3.mn,j,n,M.bind_ok];rfl
 .have p:jq oZ (ee (hW (iR [none,some 2] (gI (ei 1)) (iC 0) (λ_=>.ok true) (l4 c))) eC) (vw (fQ 3 [.int d,.lst (b.map tI),tI ns]))=.ok (.bl false):=by
   refine pF u ?_;rw[vf];congr 2;induction b with
   |nil=>rfl
   |cons a l ih=>simp
  have m:=fG p;simp only[BP,m,M.bind_ok];rfl
def yW d B cs (u:1<=d/\d<=3) (w:B<=1000) (h:HE d B cs):gU c [.int d,.lst (cs.map tI)]=.ok (.tup (cs.map tI)):=by
 have sz:1000<sizeLine:=by decide
 have b:=h.few;obtain⟨l,e,r,rfl⟩:=i8 (m:=km 3) (g:=md c) tI
  (λk l=>∃r:Oq W,l=[some (.p (.int d)),some (.p (.lst (cs.map tI))),some (.o ((cs.take k).map tI)),r])
  cs 0 _ ⟨none,rfl⟩ (by
   rintro k a l j ⟨r,rfl⟩;rw[aG];have A:=(aa.mp j).1;have n:=uW (c:=c) d B (cs.take k) a u w (by rw[bI];lia) (λf b=>h.gc f (dI b)) (h.gc a (av j)) λf b=>by have s:=h.pw;rw[<-dN k cs,dE]at s;refine s.2.2 f b a ?_;refine av (i:=0) ?_;rw[List.getElem?_drop,Nat.add_zero];exact j
   have q:gG (eQ (ee (ei 0) (ee (ei 2) (ee (ei 3) eC))) (i9 c)) (vw [some (.p (.int d)),some (.p (.lst (cs.map tI))),some (.o ((cs.take k).map tI)),some (.p (tI a))])=.ok true:=fG (kJ (y:=.lst ((cs.take k).map tI)) (z:=tI a) rfl rfl rfl n);refine⟨_,_,rfl,.inl (eI (g9 (sj q rfl) rfl) (n6 (us:=(cs.take k).map tI) (t:=tI a) rfl (lh (t:=tI a) rfl rfl) (by rw[ax,bI];lia) rfl)),some (.p (tI a)),?_⟩;rw[jA cs k a j,aZ];rfl)
 rw[aG,dF]at e;have v:gG (eQ (ee (ei 0) eC) (kj c)) (vw (fQ 4 [.int d,.lst (cs.map tI)]))=.ok true:=fG (qs rfl (zm d u));have x:gG (qG "list" (ei 1)) (vw (fQ 4 [.int d,.lst (cs.map tI)]))=.ok true:=rfl;refine gd rfl (eI (g9 ?_ rfl) (eI (l5 (ts:=[]) (by simp) rfl) (eI (lr rfl e) (fE rfl))));simp only[L3.BB,L3.mn,v,x,M.bind_ok];rfl
noncomputable def oJ(c:Cs)(d:Nat)(a:LL):T:=.obj c.Cutting [("own_cuts",.tup (a.map tI)),("own_dims",.int d)]
def GH d B cs (b:1<=d/\d<=3) (a:B<=1000) (h:HE d B cs):gR c [.int d,.lst (cs.map tI)]=.ok (oJ c d cs):=by have e:=yW (c:=c) d B cs b a h;have q:eQ (ee (ei 1) (ee (ei 2) eC)) (gU c) (none::[T.int d,.lst (cs.map tI)].map some)=.ok (.tup (cs.map tI)):=l9 rfl rfl e;unfold gR tY;rw[aQ (show [T.int d,T.lst (cs.map tI)].length=2 from rfl),q];rfl
def DL(h:f ρ=.ok (.obj C fs))(a:fs.lookup x=some t):yt C x f ρ=.ok t:=by unfold yt;rw[h,M.bind_ok];show (if C=C then (match fs.lookup x with|some t=>M.ok t|none=>.bad) else .bad)=_;rw[aQ rfl,a]
def Gz(d:Nat)(a:LL){f:Pe->M T}{ρ:Pe}(b:f ρ=.ok (oJ c d a)):xM c.Cutting "dims" f eC (gW c) ρ=.ok (.int d):=by
 have e:rB c.Cutting "dims" (oJ c d a)=.ok ():=by unfold rB oJ;exact aQ ⟨rfl,rfl⟩
 have g:gW c [oJ c d a]=.ok (.int d):=gd rfl (fE (DL rfl rfl));simp only[xM,b,M.bind_ok,e,eC,g,M.noEr_ok]
def FR d cs (a:f ρ=.ok (oJ c d cs)):r0 c.Cutting "cuts" f eC (gY c) ρ=.ok (cs.map tI):=by
 have b:rB c.Cutting "cuts" (oJ c d cs)=.ok ():=by unfold rB oJ;exact aQ ⟨rfl,rfl⟩
 have e:gY c [oJ c d cs]=.ok (cs.map tI):=Cv rfl (uO (by have:yt c.Cutting "own_cuts" (ei 0) (vw (fQ 1 [oJ c d cs]))=.ok (.tup (cs.map tI)):=DL rfl rfl;simp only[FF,ee,eC,this,M.bind_ok];rfl))
 simp only[r0,a,M.bind_ok,b,eC,e,M.noEr_ok]
def yl cell (h:Nat) (P:h<=7):∃(d:Nat) (j:LL),ib c [.int cell,.int (h:Int)]=.ok (.tup [.int d,.lst (j.map tI)])/\(1<=d/\d<=3)/\HE d 30 j/\j.length<=h:=by
 have sz:1000<sizeLine:=by decide
 obtain⟨d1,E,B⟩:=jI cell 0 5 (by decide) (by decide) (by decide) (by decide);obtain⟨U,ed,v⟩:=Aw [1,2,2,3,3] (dr c cell 0 5) E (by simpa using B);obtain⟨d,rfl⟩:∃d:Nat,U=(d:Int):=⟨U.toNat,by simp only[aF,cV,or_false]at v;lia⟩;have X:1<=d/\d<=3:=by simp only[aF,cV,or_false]at v;lia
 obtain⟨Z,d2a,C⟩:=jI (c:=c) cell 1 ((h+1:Nat):Int) (by lia) (by lia) (by decide) (by decide);obtain⟨n,hn⟩:∃n:Nat,dr c cell 1 ((h+1:Nat):Int)=(n:Int):=⟨(dr c cell 1 ((h+1:Nat):Int)).toNat,by lia⟩;rw[hn]at Z C;obtain⟨K,e,j,J,w,rfl,I,u,A⟩:=i8 (m:=km 4) (g:=mw c) (λ(i:Nat)=>T.int (i:Int))
  (λk K=>∃(j:LL) (J w:Oq W),K=[some (.p (.int cell)),some (.p (.int (h:Int))),some (.p (.int d)),some (.o (j.map tI)),J,w]/\j.length<=k/\(∀f∈j,GC d (10+2*k) f)/\j.Pairwise λa b=>jz a b=false)
  (List.range n) 0 _ ⟨[],none,none,rfl,aK _,(λf r=>nomatch r),List.Pairwise.nil⟩ (by
   rintro i k K N ⟨j,J,w,rfl,I,u,A⟩;rw[aG]at I u ⊢;have L:i<n:=by simpa using (aa.mp N).1
   have D:k=i:=by rw[List.getElem?_range L]at N;cases N;rfl
   subst D;obtain⟨s,en,F⟩:=GG (c:=c) cell k d (10+2*k) j (by lia) X (by lia) (by lia) (λf r=>(u f r).gl) (by lia);let R:En:=[some (.p (.int cell)),some (.p (.int (h:Int))),some (.p (.int d)),some (.o (j.map tI)),some (.p (.int (k:Int))),some (.p (tI s))];have e1:iR [none,some 5] (gI (ei 3)) (iC 0) (gG (eQ (ee (ei 0) (ee (ei 1) eC)) (iU c))) (kH c) (vw R)=.ok ((j.filter λf=>jz f s).map tI):=mY j tI tI (λf=>jz f s) rfl (by lia) (λf r=>⟨_,rfl,fG (l9 rfl rfl (xJ (c:=c) (d+1) (10+2*k+2) f s (u f r).gl.1 F.gl.1 (by lia) (by lia) (λx hx=>((u f r).gl.2 x hx).mono (by lia)) F.gl.2)),λ_=>rfl⟩) rfl
   have S:gG (eP (fC false) (hW (iR [none,some 5] (gI (ei 3)) (iC 0) (gG (eQ (ee (ei 0) (ee (ei 1) eC)) (iU c))) (kH c))) (hW (lstM eC))) (vw R)=.ok (j.filter λf=>jz f s).isEmpty:=by refine fG (eK (x:=.lst ((j.filter λf=>jz f s).map tI)) (y:=.lst []) (gB e1) (by simp) ?_);rw[qU false _ (by simp) (aN (xS _) (by decide))];simp
   have Y:setO 5 (s9 (eQ (ee (ei 0) (ee (ei 4) (ee (ei 2) (ee (ei 3) eC)))) (iy c))) [some (.p (.int cell)),some (.p (.int (h:Int))),some (.p (.int d)),some (.o (j.map tI)),some (.p (.int (k:Int))),w]=.nx R:=FJ (t:=tI s) (Ln rfl rfl rfl rfl en) (L1 s) rfl;by_cases H:(j.filter λf=>jz f s)=[]
   .refine⟨_,_,rfl,.inl (eI Y (hU (S.trans (by rw[H];rfl)) (n6 (us:=j.map tI) (t:=tI s) rfl rfl (by simp;lia) rfl))),j++[s],_,_,by rw[aZ];rfl,by simp;lia,λf r=>?_,dE.mpr ⟨A,cG _ _,λf r g Q=>?_⟩⟩
    .rcases ai.mp r with q|q
     .exact (u f q).mono (by lia)
     .rw[aj.mp q];exact F.mono (by lia)
    .rw[aj.mp Q];cases hs:jz f s with
     |false=>rfl
     |true=>have:f∈j.filter λf=>jz f s:=aU.mpr ⟨r,hs⟩;rw[H]at this;exact nomatch this
   .refine⟨_,_,rfl,.inl (eI Y (g9 (S.trans (by
     cases hq:(j.filter λf=>jz f s) with
     |nil=>exact absurd hq H
     |cons a l=>rfl)) rfl)),j,_,_,rfl,by lia,λf r=>(u f r).mono (by lia),A⟩)
 rw[aG,dO]at I u;refine⟨d,j,gd rfl (eI (fv (t:=.int d) (eK (x:=.lst ([1,2,2,3,3].map T.int)) (y:=.int (dr c cell 0 5)) (Lp rfl rfl rfl rfl rfl) (kJ rfl rfl rfl d1) ed) rfl) (eI (l5 (ts:=[]) (by simp) rfl) (eI (nc (l0 n (by lia) (kJ (z:=.int ((h+1:Nat):Int)) rfl rfl (eK rfl rfl rfl) Z)) e) (fE (A1 rfl rfl))))),X,⟨λf r=>(u f r).mono (by lia),by lia,A⟩,by lia⟩
end CL
namespace CL
open PySem L2 L3
variable {c:Cs}
def vG{a:Type}[Inhabited a](l:List a) f k w (h:k<l.length):il (.lst (l.map f)) (.int (k:Int))=.ok (f (l.getD k w)):=by have e:=zp (l.map f) k (by rw[ax];exact h);rw[List.getElem_map]at e;show (match ou (l.map f) k with|some t=>M.ok t|none=>.bad)=_;rw[e,af,ag h];rfl
def pA m A u:jm m A u=jm m u A:=by unfold jm;exact fX _ _ _ λi _=>cR _ _
def Kh n k f (b:k<n) (h:∀i,i<n->i≠k->f i=0):sm n f=f k:=by
 rw[<-vB n k f b];exact fX _ _ _ λi a=>by
  by_cases e:i=k
  .rw[aQ e];simp
  .rw[aR e,h i a e];simp
def wy{d:Nat}{v:Vc}:∀(os:List (Nat×LI)),(∀p∈os,p.1<d/\vc p.2 p.1≠0)->os.Pairwise (λp q=>vc q.2 p.1=0)->(∀p∈os,jm d (vc p.2) v=0)->(∀i,i∉os.map Prod.fst->v i=0)->∀p∈os,v p.1=0:=λos=>by
 induction h:os.length generalizing os v with
 |zero=>have:os=[]:=List.length_eq_zero_iff.mp h;subst this;intro _ _ _ _ p a;cases a
 |succ n ih=>
  intro b g j m;rcases dP os with e|⟨l,x,e⟩
  .subst e;cases h
  .rw[List.concat_eq_append]at e;subst e;rw[dE]at g;have f:x∈l++[x]:=by simp
   have k:v x.1=0:=by
    have e:=j x f;unfold jm at e;rw[Kh d x.1 _ (b x f).1 λi o ne=>by
     by_cases q:i∈(l++[x]).map Prod.fst
     .rw[aZ,ai]at q;rcases q with q|q
      .obtain⟨p,a,rfl⟩:=aD.mp q;rw[g.2.2 p a x (by simp)];exact du _
      .simp at q;exact absurd q ne
     .rw[m i q];exact dB _]at e
    exact Bz (b x f).2 e
   have r:=ih (v:=v) l (by simpa using h) (λp a=>b p (by simp[a])) g.1 (λp a=>j p (by simp[a])) (λi o=>by
    by_cases q:i=x.1
    .rw[q];exact k
    .refine m i λz=>?_;rw[aZ,ai]at z;rcases z with z|z
     .exact o z
     .simp at z;exact q z)
   intro p a;rcases ai.mp a with q|q
   .exact r p q
   .rw[aj.mp q];exact k
def gz{P:Vc->Prop}{z v:Vc}{m:Nat}(q:Qs P z)(h:∀x,P x->jm m x v=0):jm m z v=0:=by
 induction q with
 |of p=>exact h _ p
 |zero=>rw[pA];unfold jm;rw[fX m _ (λ_=>0) λi _=>dB _];exact kR m
 |lin _ _ hs e i1 i2=>have:=Ae (m:=m) (A:=v) e;rw[pA m v,pA m v,pA m v,i1,i2,dB,dB]at this;exact Bz hs (by lia)
def Jv{vs:LL}(h:sG vs m n ah):(ah.map Prod.fst).Nodup:=by rw[List.Nodup,cI];refine h.tri.imp_of_mem λ{p q} _ hq e z=>h.nz q hq ?_;rw[<-z];exact e
def mB{vs:LL}(h:sG vs m vs.length ah)(f:List Vc)(k:∀v:Vc,(∀A∈f,jm m A v=0)->∀r∈vs,jm m (vc r) v=0):ah.length<=f.length:=by
 refine bV λe=>?_;have lt:∀p∈ah,p.1<m/\vc p.2 p.1≠0:=λp a=>⟨(uv h.bd a).1,h.nz p a⟩;obtain⟨v,⟨j,g⟩,b,i⟩:=pC m f (ah.map Prod.fst) (Jv h) (λt l=>by obtain⟨p,a,rfl⟩:=aD.mp l;exact (lt p a).1) (by rw[ax];exact e)
 have z:=wy ah lt h.tri (λp a=>gz (h.ps p a) λx ⟨w,hw,ex⟩=>by rw[ex];exact k v i w (dI hw)) b;have d:j∈ah.map Prod.fst:=aO λz=>g (b j z);obtain⟨p,a,rfl⟩:=aD.mp d;exact g (z p a)
def mq{vs b:LL}(h:sG vs m vs.length d)(h':sG b m b.length a)(e:∀v:Vc,(∀r∈vs,jm m (vc r) v=0)↔∀r∈b,jm m (vc r) v=0):d.length=a.length:=by
 have go:∀{vs b:LL} {d a:List (Nat×LI)},sG vs m vs.length d->sG b m b.length a->(∀v:Vc,(∀r∈b,jm m (vc r) v=0)->∀r∈vs,jm m (vc r) v=0)->d.length<=a.length:=λ{vs b d a} h h' e=>by
  have:=mB h (a.map λp=>vc p.2) λv g=>e v λr f=>gz (h'.sp r (by rw[dF];exact f)) λx ⟨p,hp,ex⟩=>by rw[ex];exact g _ (aD.mpr ⟨p,hp,rfl⟩)
  rw[ax]at this;exact this
 exact dQ (go h h' λv=>(e v).mpr) (go h' h λv=>(e v).mp)
def pb(d:Nat)(u:LI)(v:Vc):jm d (vc (u.take d)) v=jm d (vc u) v:=fX _ _ _ λi a=>by unfold vc;rw[af,List.getElem?_take_of_lt a,<-af]
def CG{m:Nat}{os:List (Nat×LI)}(lt:∀p∈os,p.1<m/\vc p.2 p.1≠0)(tri:os.Pairwise λp q=>vc q.2 p.1=0)(g:List Vc)(l:∀v:Vc,(∀A∈g,jm m A v=0)->∀p∈os,jm m (vc p.2) v=0):os.length<=g.length:=by
 refine bV λf=>?_;have k:(os.map Prod.fst).Nodup:=by rw[List.Nodup,cI];exact tri.imp_of_mem λ{p q} _ hq e z=>(lt q hq).2 (by rw[<-z];exact e)
 obtain⟨v,⟨j,h⟩,a,i⟩:=pC m g (os.map Prod.fst) k (λt n=>by obtain⟨p,b,rfl⟩:=aD.mp n;exact (lt p b).1) (by rw[ax];exact f)
 have z:=wy os lt tri (l v i) a;have d:j∈os.map Prod.fst:=aO λz=>h (a j z);obtain⟨p,b,rfl⟩:=aD.mp d;exact h (z p b)
def iF{vs:LL}{m:Nat}{a os:List (Nat×LI)}(h:sG vs m vs.length a)(lt:∀p∈os,p.1<m/\vc p.2 p.1≠0)(tri:os.Pairwise λp q=>vc q.2 p.1=0)(e:∀v:Vc,(∀r∈vs,jm m (vc r) v=0)->∀p∈os,jm m (vc p.2) v=0):os.length<=a.length:=by
 have:=CG lt tri (a.map λp=>vc p.2) λv d=>e v λr b=>gz (h.sp r (by rw[dF];exact b)) λx ⟨p,hp,ex⟩=>by rw[ex];exact d _ (aD.mpr ⟨p,hp,rfl⟩)
 rw[ax]at this;exact this
section
variable {d B:Nat}{rows rs:LL}{pv ah ah0:List (Nat×LI)}
def PP.tri(h:PP d B rows pv rs):pv.Pairwise λp q=>vc q.2 p.1=0:=h.pw.imp λq=>q.2.1
def sQ(h:PP d B rows pv rs)(k:sG (rows.map (·.take d)) d (rows.map (·.take d)).length ah0):ah0.length=pv.length:=by
 refine dQ ?_ ?_
 .have:=mB k (pv.map λp=>vc p.2) λv g r j=>by
   obtain⟨r,e,rfl⟩:=aD.mp j;rw[pb];refine gz (h.sp r e) λx l=>?_;rcases l with⟨p,a,b⟩|⟨m,f,b⟩
   .rw[b];exact g _ (aD.mpr ⟨p,a,rfl⟩)
   .rw[b];unfold jm;rw[fX d _ (λ_=>0) λi n=>by rw[(h.rr m f).2.1 i n,du]];exact kR d
  rw[ax]at this;exact this
 .exact iF k (λp a=>⟨(h.pl p a).1,(h.pl p a).2.2.1⟩) h.tri λv g p a=>gz (h.pl p a).2.2.2.2 λx ⟨r,j,b⟩=>by rw[b,<-pb];exact g _ (aD.mpr ⟨r,j,rfl⟩)
def jQ(h:PP d B rows pv rs)(m:∀r∈rs,vc r d=0)(k:sG rows (d+1) rows.length ah):ah.length=pv.length:=by
 refine dQ ?_ (iF k (λp a=>⟨by have:=(h.pl p a).1;lia,(h.pl p a).2.2.1⟩) h.tri λv g p a=>gz (h.pl p a).2.2.2.2 λx ⟨r,j,b⟩=>by rw[b];exact g r j);have:=mB k (pv.map λp=>vc p.2) λv g r j=>gz (h.sp r j) λx l=>by
  rcases l with⟨p,a,b⟩|⟨f,e,b⟩
  .rw[b];exact g _ (aD.mpr ⟨p,a,rfl⟩)
  .rw[b];unfold jm;rw[fX (d+1) _ (λ_=>0) λi n=>by
    have:vc f i=0:=by
     by_cases z:i<d
     .exact (h.rr f e).2.1 i z
     .rw[show i=d by lia];exact m f e
    rw[this,du]];exact kR _
 rw[ax]at this;exact this
def uo(h:PP d B rows pv rs){r:LI}(a:r∈rs)(i:vc r d≠0)(g:sG rows (d+1) rows.length ah):pv.length<ah.length:=by
 have:=iF (os:=pv++[(d,r)]) g (λp b=>by
  rcases ai.mp b with q|q
  .exact⟨by have:=(h.pl p q).1;lia,(h.pl p q).2.2.1⟩
  .rw[aj.mp q];exact⟨by lia,i⟩) (dE.mpr ⟨h.tri,cG _ _,λp b q f=>by rw[aj.mp f];exact (h.rr r a).2.1 _ (h.pl p b).1⟩) λv e p b=>by
  rcases ai.mp b with q|q
  .exact gz (h.pl p q).2.2.2.2 λx ⟨r,a,ex⟩=>by rw[ex];exact e r a
  .rw[aj.mp q];exact gz (h.rr r a).2.2 λx ⟨r,a,ex⟩=>by rw[ex];exact e r a
 simp at this;lia
def mQ(h:PP d B rows pv rs)(L:∀r∈rs,vc r d=0){u left:LI}{g s:Int}{y:Vc}(N:0<g)(P:0<s)(C:Qs (tJ pv) y)(e:∀i,g*vc left i=s*vc u i+1*y i)(K:∀p∈pv,vc left p.1=0)(R:left.length=d+1)
  (o:sG (rows++[u]) (d+1) (rows++[u]).length ah):ah.length=pv.length↔∀i,vc left i=0:=by
 have E:∀p∈pv,Qs (VP (rows++[u])) (vc p.2):=λp f=>m5 (h.pl p f).2.2.2.2;have k:∀{x:Vc} {v:Vc},Qs (VP (rows++[u])) x->(∀r∈rows++[u],jm (d+1) (vc r) v=0)->jm (d+1) x v=0:=λq j=>gz q λx ⟨r,A,n⟩=>by rw[n];exact j r A
 have D:=iF o (λp f=>⟨by have:=(h.pl p f).1;lia,(h.pl p f).2.2.1⟩) h.tri λv j p f=>k (E p f) j;constructor
 .intro Q i;refine aO λI=>?_;have H:i<d+1:=aO λz=>I (jv left i (by lia));have:=iF (os:=pv++[(i,left)]) o (λp f=>by
   rcases ai.mp f with q|q
   .exact⟨by have:=(h.pl p q).1;lia,(h.pl p q).2.2.1⟩
   .rw[aj.mp q];exact⟨H,I⟩) (dE.mpr ⟨h.tri,cG _ _,λp f q J=>by rw[aj.mp J];exact K p f⟩) λv j p f=>by
   rcases ai.mp f with q|q
   .exact k (E p q) j
   .rw[aj.mp q];exact k (qW h N C e) j
  simp at this;lia
 .intro l;refine dQ ?_ D;have:=mB o (pv.map λp=>vc p.2) λv j r A=>by
   have F:∀x,tJ pv x->jm (d+1) x v=0:=λx ⟨p,f,n⟩=>by rw[n];exact j _ (aD.mpr ⟨p,f,rfl⟩)
   rcases ai.mp A with q|q
   .refine gz (h.sp r q) λx t=>?_;rcases t with t|⟨w,m,n⟩
    .exact F x t
    .rw[n];unfold jm;rw[fX (d+1) _ (λ_=>0) λi H=>by
      have:vc w i=0:=by
       by_cases z:i<d
       .exact (h.rr w m).2.1 i z
       .rw[show i=d by lia];exact L w m
      rw[this,du]];exact kR _
   .rw[aj.mp q];refine gz (.lin (s:=s) (a:=-1) (b:=0) (z:=vc u) C C (by lia) λi=>?_) F;have:=e i;rw[l i]at this;lia
  rw[ax]at this;exact this
end
theorem uZ:∀n f,sm (n+1) f=sm n f+f n
 |0,f=>by rw[sm,sm,sm];lia
 |n+1,f=>by rw[sm,uZ n λi=>f (i+1),sm];lia
def BQ(h:f ρ=.ok (.lst ts)):rT (ee f eC) ρ=.ok (nI ts):=by simp only[rT,ee,eC,h,M.bind_ok];rfl
def E1 ns:oZ [tI ns]=.ok (.bl (ns.any λx=>x != 0)):=by simp only[tI,oZ,oQ,yG];rw[cq];rfl
abbrev mI(k:Nat):T:=.int (k:Int)
def fF(b:LL)(a:List Nat):LL:=a.map λz=>b.getD z []
def jt(l:LL)(k:Nat)(h:k<l.length):l.getD k []∈l:=by rw[af,ag h];exact aV h
def H9{d:Nat}(e:1<=d/\d<=3):Np d 30:=by
 have a:d=1\/d=2\/d=3:=by lia
 refine⟨by decide,λk b=>?_,?_⟩
 .have:k=0\/k=1\/k=2\/k=3:=by lia
  rcases this with rfl|rfl|rfl|rfl<;>decide
 .rcases a with rfl|rfl|rfl<;>decide
def lV{d:Nat}{a:LL}{b:List Nat}(i:HE d 30 a)(g:∀z∈b,z<a.length):∀u∈fF a b,u.length=d+1/\∀x∈u,Bn 30 x:=λu e=>by obtain⟨z,h,rfl⟩:=aD.mp e;have f:=jt a z (g z h);exact (i.gc _ f).gl
def yL{a:LL}{b:List Nat}(i:∀z∈b,z<a.length)(l:b.length<=8){d:Pe->M (List T)}{ρ:Pe}{j:Nat}{e:Pe->M T}(f:e=eP il (ei 1) (ei 0))(g:d ρ=.ok (b.map mI))(k:ρ[j]? = some (some (.lst (a.map tI)))) :
  iR [none,some j] d (iC 0) (λ_=>.ok true) e ρ=.ok ((fF a b).map tI):=by
 have sz:1000<sizeLine:=by decide
 subst f;exact iX b mI (λz=>tI (a.getD z [])) g (by lia) (λz h=>⟨[some (mI z),some (.lst (a.map tI))],by simp[k],rfl,eK rfl rfl (vG a tI z [] (i z h))⟩) (by simp[fF])
def FK{d:Nat}{b v:LL}{m:List Nat}{pv:List (Nat×LI)}(w:1<=d/\d<=3)(z:HE d 30 b)(h:PP d 30 (fF b m) pv v):∃f:LI->LI,∀u∈b,ia c [tI u,.lst (pv.map kM)]=.ok (tI (f u))/\(f u).length=d+1/\(∃g s y,0<g/\0<s/\Qs (tJ pv) y/\∀i,g*vc (f u) i=s*vc u i+1*y i)/\∀p∈pv,vc (f u) p.1=0:=by
 refine qm (P:=λ(u r:LI)=>ia c [tI u,.lst (pv.map kM)]=.ok (tI r)/\r.length=d+1/\(∃g s y,0<g/\0<s/\Qs (tJ pv) y/\∀i,g*vc r i=s*vc u i+1*y i)/\∀p∈pv,vc r p.1=0) b λu n=>?_;have a:=(z.gc u n).gl;obtain⟨r,e,o,_,x,q⟩:=wz (c:=c) (tJ pv) (d+1) (Pq 30 pv.length) 30 (by lia) pv u ((H9 w).le _ h.short) a.1 a.2 (λp j=>by obtain⟨A,l,t,k,_⟩:=h.pl p j;exact⟨by lia,l,t,k,p,j,rfl⟩) h.tri
 exact⟨r,e,o,x,q⟩
noncomputable def jy(d:Nat)(a:LL)(pv:List (Nat×LI))(f:LI->LI):T:=.tup [.int ((d:Int)-(pv.length:Int)),.tup (((List.range a.length).filter λk=>!(f (a.getD k [])).any (· != 0)).map mI)]
theorem yJ{d:Nat}{a:LL}{e:List Nat}(o:1<=d/\d<=3)(j:HE d 30 a)(q:∀z∈e,z<a.length)(E:e.length<=7){S:T}(w:seqT S=.ok (e.map mI)):∃pv b f,PP d 30 (fF a e) pv b/\
  (∀u∈a,(f u).length=d+1/\(∃g s y,0<g/\0<s/\Qs (tJ pv) y/\∀i,g*vc (f u) i=s*vc u i+1*y i)/\∀p∈pv,vc (f u) p.1=0)/\
  gQ c [.lst (a.map tI),.int d,S]=.ok (if b.any (λr=>r.any (· != 0)) then .non else jy d a pv f):=by
 have sz:1000<sizeLine:=by decide
 have Q:=j.few;obtain⟨pv,b,D,h,B⟩:=FV (c:=c) (fF a e) d 30 (by lia) (by simp[fF];lia) (lV j q) (H9 o);obtain⟨f,l⟩:=FK (c:=c) o j h;refine⟨pv,b,f,h,λu F=>(l u F).2,?_⟩;have J:=h.short;let v:T:=.tup [.lst (pv.map kM),.lst (b.map tI)];let R (H A:Oq W):En:=[some (.p (.lst (a.map tI))),some (.p (.int (d:Int))),some (.p S),some (.p v),H,A];have n:gG (jq oZ (ee (hW (iR [none] (gI (eP il (ei 3) (cM (.int 1)))) (iC 0) (λ_=>.ok true) (sT c))) eC)) (vw (R none none))=.ok (b.any λr=>r.any (· != 0)):=by refine fG (pF (ts:=(b.map λr=>r.any (· != 0)).map T.bl) (iX b tI (λr=>T.bl (r.any (· != 0))) (sh (eK rfl rfl rfl)) (by lia) (λr P=>⟨_,rfl,rfl,lh rfl (E1 r)⟩) (by simp)) ?_);rw[vf,cq];rfl
 have I:iR [none,none,some 4] (rT (ee (ei 0) eC)) (mW 2 (f9 (iC 0) (f9 (iC 1) mX))) (L3.mn (gG (jq oZ (ee (eQ (ee (ei 1) (ee (ei 2) eC)) (ia c)) eC)))) (sN c) (jW (R (some (.p (.lst (pv.map kM)))) none))=.ok (((List.range a.length).filter λk=>!(f (a.getD k [])).any (· != 0)).map mI):=by
  refine mY (List.range a.length) (λk=>T.tup [mI k,tI (a.getD k [])]) mI (λk=>!(f (a.getD k [])).any (· != 0)) ?_ (by simp;lia) (λk K=>⟨[some (mI k),some (tI (a.getD k [])),some (.lst (pv.map kM))],rfl,sj (fG (lh (l9 rfl rfl (l _ (jt a k (aS.mp K))).1) (E1 _))) rfl,λ_=>rfl⟩) rfl;rw[BQ (ts:=a.map tI) rfl];congr 1;refine List.ext_getElem (by simp[nI]) λi N C=>?_;have L:i<a.length:=by simpa using C
  simp[nI,L]
 refine gd rfl (eI (ρ':=R none none) (fv (l9 (gB (yL q (by lia) rfl (by show gI (ei 2) _=_;simp only[gI];exact w) rfl)) rfl D) rfl) ?_);cases m:b.any λr=>r.any (· != 0) with
 |true=>exact jX (hU (by rw[n,m]) (fE rfl)) rfl
 |false=>refine eI (g9 (by rw[n,m]) rfl) (eI (ρ':=R (some (.p (.lst (pv.map kM)))) none) (fv (eK rfl rfl rfl) rfl) (eI (fv (gB I) rfl) (fE ?_)));exact A1 (eK (x:=.int (d:Int)) (y:=.int (pv.length:Int)) rfl (lh (t:=.lst (pv.map kM)) rfl (by simp)) rfl) (lh rfl rfl)
def iV{l:LI}:(l.any (· != 0))=false↔∀i,vc l i=0:=by
 constructor
 .intro h i;by_cases a:i<l.length
  .rw[lP l i a];have:=bA.mp h l[i] (aV a);simpa using this
  .exact jv l i (by lia)
 .intro h;refine bA.mpr λx b=>?_;obtain⟨i,a,rfl⟩:=List.getElem_of_mem b;have:=h i;rw[lP l i a]at this;simp[this]
theorem xD{d:Nat}{e P:LL}{j:List Nat}{pv:List (Nat×LI)}{f:LI->LI}(hd:1<=d/\d<=3)(X:HE d 30 e)(E:∀z∈j,z<e.length)(hzl:j.length<=7){S:T}(hS:seqT S=.ok (j.map mI))(h:PP d 30 (fF e j) pv P)
  (hf:∀u∈e,(f u).length=d+1/\(∃g s y,0<g/\0<s/\Qs (tJ pv) y/\∀i,g*vc (f u) i=s*vc u i+1*y i)/\∀p∈pv,vc (f u) p.1=0) :
  iT c [.int d,.lst (e.map tI),S]=.ok (if P.any (λr=>r.any (· != 0)) then .non else jy d e pv f):=by
 have sz:1000<sizeLine:=by decide
 have hn:=X.few;have w:=lV X E;have H:(fF e j).length=j.length:=by simp[fF]
 have Bf:∀{u:LI} {m:Nat},u.length=m/\(∀x∈u,Bn 30 x)->u.length=m/\∀x∈u,Bn 50 x:=λq=>⟨q.1,λx B=>(q.2 x B).mono (by decide)⟩;have A:∀k,k<e.length->(e.getD k []).length=d+1/\∀x∈e.getD k [],Bn 30 x:=λk C=>(X.gc _ (jt e k C)).gl;obtain⟨l,ea,ka⟩:=kX (c:=c) (d+1) (fF e j) (by lia) (by lia) λv K=>Bf (w v K);obtain⟨ah0,e0,k0⟩:=kX (c:=c) d ((fF e j).map (·.take d)) (by lia) (by rw[ax];lia) λv K=>by obtain⟨u,hu,rfl⟩:=aD.mp K;have q:=w u hu;exact Bf ⟨by rw[bI,q.1];lia,λx B=>q.2 x (dI B)⟩
 have U:=sQ h k0;let R (x3 x4:Oq W):En:=[some (.p (.int (d:Int))),some (.p (.lst (e.map tI))),some (.p S),x3,x4];have n:∀{g:Pe->M T} {ρ:Pe},g ρ=.ok S->gI g ρ=.ok (j.map mI):=λ{g ρ} q=>by have:gI g ρ=(g ρ).bind seqT:=rfl;rw[this,q];exact hS
 have er:iR [none,some 1,some 0] (gI (ei 2)) (iC 0) (λ_=>.ok true) (mH c) (vw (R (some (.p (.int (l.length:Int)))) none))=.ok (((fF e j).map (·.take d)).map tI):=iX j mI (λz=>tI ((e.getD z []).take d)) (n rfl) (by lia) (λz D=>⟨[some (mI z),some (.lst (e.map tI)),some (.int (d:Int))],rfl,rfl,by have q:=A z (E z D);have:=sr (ρ:=[some (mI z),some (.lst (e.map tI)),some (.int (d:Int))]) (fe:=eP il (ei 1) (ei 0)) (fd:=ei 2) (ts:=(e.getD z []).map T.int) (d:=d) (eK rfl rfl (vG e tI z [] (E z D))) rfl (by rw[ax,q.1];lia);rw[<-cW]at this;exact this⟩) (by simp[fF])
 have c1:gG (eP (fC true) (eQ (ee (hW (iR [none,some 1,some 0] (gI (ei 2)) (iC 0) (λ_=>.ok true) (mH c))) eC) (fU c)) (ei 3)) (vw (R (some (.p (.int (l.length:Int)))) none))=.ok (!((pv.length:Int)==(l.length:Int))):=by refine fG (eK (x:=.int (pv.length:Int)) (y:=.int (l.length:Int)) (qs (gB er) (by rw[e0,U])) rfl ?_);rw[oB]
 refine gd rfl (eI (ρ':=R (some (.p (.int (l.length:Int)))) none) (fv (qs (gB (yL E (by lia) rfl (n rfl) rfl)) ea) rfl) ?_);cases hc:P.any λr=>r.any (· != 0) with
 |true=>
  obtain⟨r,I,ha⟩:=dM.mp hc;have Y:vc r d≠0:=λz=>by
   have:(r.any (· != 0))=false:=iV.mpr λi=>by
    by_cases hi:i<d
    .exact (h.rr r I).2.1 i hi
    .by_cases Z:i=d
     .rw[Z];exact z
     .exact jv r i (by rw[(h.rr r I).1];lia)
   rw[this]at ha;cases ha
  have m:=uo h I Y ka;have hne:((pv.length:Int)==(l.length:Int))=false:=beq_eq_false_iff_ne.mpr (by lia);exact jX (hU (by rw[c1,hne];rfl) (fE rfl)) rfl
 |false=>
  have J:∀r∈P,vc r d=0:=λr I=>by have:=bA.mp hc r I;exact iV.mp (by simpa using this) d
  have al:=jQ h J ka;have heq:((pv.length:Int)==(l.length:Int))=true:=beq_iff_eq.mpr (by lia);have ek:∀k,k<e.length->∃L:Nat,fU c [.lst ((fF e j++[e.getD k []]).map tI)]=.ok (.int (L:Int))/\decide (L=l.length)=!(f (e.getD k [])).any (· != 0):=λk C=>by
   obtain⟨ak,N,k1⟩:=kX (c:=c) (d+1) (fF e j++[e.getD k []]) (by lia) (by rw[aT,bS];lia) λv K=>by
    rcases ai.mp K with q|q
    .exact Bf (w v q)
    .rw[aj.mp q];exact Bf (A k C)
   obtain⟨fl,⟨g,s,y,hg0,Q,hy,ey⟩,fz⟩:=hf _ (jt e k C);have o:=mQ h J hg0 Q hy ey fz fl k1;refine⟨ak.length,N,?_⟩;rw[al];cases B:(f (e.getD k [])).any (· != 0) with
   |false=>exact aC (o.mpr (iV.mp B))
   |true=>exact aB λz=>by rw[iV.mpr (o.mp z)]at B;cases B
  have e4:iR [none,some 3,some 1,some 2] (iG (ee (jq ji (ee (ei 1) eC)) eC)) (iC 0) (gG (eP (fC false) (eQ (ee (hW (wC (hW (iR [none,some 2] (gI (ei 3)) (iC 0) (λ_=>.ok true) (qA c))) (hW (lstM (ee (eP il (ei 2) (ei 0)) eC))))) eC) (fU c)) (ei 1))) (qB c) (jW (R (some (.p (.int (l.length:Int)))) none))=.ok (((List.range e.length).filter λk=>!(f (e.getD k [])).any (· != 0)).map mI):=by refine mY (List.range e.length) mI mI (λk=>!(f (e.getD k [])).any (· != 0)) (l0 e.length (by lia) (lh (t:=.lst (e.map tI)) rfl (by simp))) (by simp;lia) (λk C=>⟨[some (mI k),some (.int (l.length:Int)),some (.lst (e.map tI)),some S],rfl,?_,λ_=>rfl⟩) rfl;have F:=aS.mp C;obtain⟨L,N,e2⟩:=ek k F;refine fG (eK (x:=.int (L:Int)) (y:=.int (l.length:Int)) (qs (gB (vh (a:=(fF e j).map tI) (b:=[tI (e.getD k [])]) (gB (yL E (by lia) rfl (n rfl) rfl)) (Lo (eK rfl rfl (vG e tI k [] F))) (by simp[H];lia))) (by rw[aZ]at N;exact N)) rfl ?_);rw[fS,<-e2];congr 2;rw[Bool.eq_iff_iff];simp;exact dR
  refine eI (g9 (by rw[c1,heq];rfl) rfl) (eI (fv (gB e4) rfl) (fE ?_));exact A1 (eK (x:=.int (d:Int)) (y:=.int (l.length:Int)) rfl rfl (by rw[al];rfl)) (lh rfl rfl)
def uN(m:Nat)(a:LL)(v:Vc):Prop:=∀r∈a,jm m (vc r) v=0
def zN{d:Nat}{x v:Vc}:jm (d+1) x (λi=>if i<d then v i else 0)=jm d x v:=by unfold jm;rw[uZ];dsimp only;rw[aR (a9 _),dB,dw];exact fX _ _ _ λi a=>by rw[aQ a]
def wq{m:Nat}{a:LL}(e:m<=4)(d:a.length<=8)(f:∀v∈a,v.length=m/\∀x∈v,Bn 50 x):∃b,sG a m a.length b:=by obtain⟨b,_,k⟩:=kX (c:=⟨0,0,0,0,0,0,0,0,0,0,0,0,0⟩) m a e d f;exact⟨b,k⟩
section
variable {d:Nat}{cs rs rs':LL}{zs zs':List Nat}{pv pv':List (Nat×LI)}{f f':LI->LI}
theorem AQ(hd:1<=d/\d<=3)(X:HE d 30 cs)(n:∀z∈zs,z<cs.length)(B:∀z∈zs',z<cs.length)(D:zs.length<=7)(A:zs'.length<=7)(h:PP d 30 (fF cs zs) pv rs)(h':PP d 30 (fF cs zs') pv' rs')
  (hf:∀u∈cs,(f u).length=d+1/\(∃g s y,0<g/\0<s/\Qs (tJ pv) y/\∀i,g*vc (f u) i=s*vc u i+1*y i)/\∀p∈pv,vc (f u) p.1=0)
  (hf':∀u∈cs,(f' u).length=d+1/\(∃g s y,0<g/\0<s/\Qs (tJ pv') y/\∀i,g*vc (f' u) i=s*vc u i+1*y i)/\∀p∈pv',vc (f' u) p.1=0)
  (Y:∀v,uN (d+1) (fF cs zs) v↔uN (d+1) (fF cs zs') v) :
  (if rs.any (λr=>r.any (· != 0)) then T.non else jy d cs pv f)=(if rs'.any (λr=>r.any (· != 0)) then T.non else jy d cs pv' f'):=by
 have Bf:∀{u:LI} {m:Nat},u.length=m/\(∀x∈u,Bn 30 x)->u.length=m/\∀x∈u,Bn 50 x:=λq=>⟨q.1,λx C=>(q.2 x C).mono (by decide)⟩;have P:∀{zs:List Nat},(∀z∈zs,z<cs.length)->zs.length<=7->∃N,sG (fF cs zs) (d+1) (fF cs zs).length N:=λ{zs} n D=>wq (by lia) (by simp[fF];lia) λv S=>Bf (lV X n v S);have H:∀{zs:List Nat},(∀z∈zs,z<cs.length)->zs.length<=7->∃N,sG ((fF cs zs).map (·.take d)) d ((fF cs zs).map (·.take d)).length N:=λ{zs} n D=>wq (by lia) (by simp[fF];lia) λv S=>by obtain⟨u,l,rfl⟩:=aD.mp S;have q:=lV X n u l;exact Bf ⟨by rw[bI,q.1];lia,λx C=>q.2 x (dI C)⟩
 have E:∀{zs:List Nat},(∀z∈zs,z<cs.length)->zs.length<=7->∀u∈cs,∃N,sG (fF cs zs++[u]) (d+1) (fF cs zs++[u]).length N:=λ{zs} n D u l=>wq (by lia) (by simp[fF];lia) λv S=>by
  rcases ai.mp S with q|q
  .exact Bf (lV X n v q)
  .rw[aj.mp q];exact Bf (X.gc u l).gl
 obtain⟨a1,k1⟩:=P n D;obtain⟨a1',K⟩:=P B A;obtain⟨a0,k0⟩:=H n D;obtain⟨a0',F⟩:=H B A;have s1:=mq k1 K Y;have J:∀{zs:List Nat} {v:Vc},(∀r∈(fF cs zs).map (·.take d),jm d (vc r) v=0)↔uN (d+1) (fF cs zs) λi=>if i<d then v i else 0:=λ{zs v}=>⟨λq r j=>by rw[zN,<-pb];exact q _ (aD.mpr ⟨r,j,rfl⟩),λq r j=>by obtain⟨u,l,rfl⟩:=aD.mp j;rw[pb,<-zN];exact q u l⟩
 have s0:=mq k0 F λv=>J.trans ((Y _).trans J.symm);have e0:=sQ h k0;have e0':=sQ h' F;have R:pv.length=pv'.length:=by lia
 have left:∀{zs:List Nat} {rs:LL} {pv a:List (Nat×LI)},PP d 30 (fF cs zs) pv rs->sG (fF cs zs) (d+1) (fF cs zs).length a->((rs.any λr=>r.any (· != 0))=false↔a.length=pv.length):=λ{zs rs pv a} h k=>by
  constructor
  .intro Q;exact jQ h (λr j=>iV.mp (by simpa using bA.mp Q r j) d) k
  .intro e;refine bA.mpr λr j z=>?_;have hn:vc r d≠0:=λw=>by
    have:(r.any (· != 0))=false:=iV.mpr λi=>by
     by_cases hi:i<d
     .exact (h.rr r j).2.1 i hi
     .by_cases hi':i=d
      .rw[hi'];exact w
      .exact jv r i (by rw[(h.rr r j).1];lia)
    rw[this]at z;cases z
   have:=uo h j hn k;lia
 have l1:=left h k1;have l2:=left h' K;cases Q:rs.any λr=>r.any (· != 0) with
 |true=>
  cases t:rs'.any λr=>r.any (· != 0) with
  |true=>rfl
  |false=>have:=l2.mp t;have:(rs.any λr=>r.any (· != 0))=false:=l1.mpr (by lia);rw[Q]at this;cases this
 |false=>
  have q1:=l1.mp Q;have t:(rs'.any λr=>r.any (· != 0))=false:=l2.mpr (by lia);rw[t];have z1:∀r∈rs,vc r d=0:=λr j=>iV.mp (by simpa using bA.mp Q r j) d;have z2:∀r∈rs',vc r d=0:=λr j=>iV.mp (by simpa using bA.mp t r j) d;have l:∀u∈cs,(f u).any (· != 0)=(f' u).any (· != 0):=λu l=>by
   obtain⟨b,kb⟩:=E n D u l;obtain⟨b',U⟩:=E B A u l;have sb:=mq kb U λv=>by
    constructor
    .intro q r j;rcases ai.mp j with w|w
     .exact (Y v).mp (λr j=>q r (ay _ j)) r w
     .exact q r (bu _ w)
    .intro q r j;rcases ai.mp j with w|w
     .exact (Y v).mpr (λr j=>q r (ay _ j)) r w
     .exact q r (bu _ w)
   obtain⟨fl,⟨g,s,y,hg0,hs0,hy,ey⟩,fz⟩:=hf u l;obtain⟨fl',⟨g',s',y',I,L,hy',ey'⟩,Z⟩:=hf' u l;have o:=mQ h z1 hg0 hs0 hy ey fz fl kb;have o':=mQ h' z2 I L hy' ey' Z fl' U;have:(f u).any (· != 0)=false↔(f' u).any (· != 0)=false:=by rw[iV,iV,<-o,<-o',sb,R]
   cases C:(f u).any (· != 0) with
   |false=>exact (this.mp C).symm
   |true=>
    cases hy:(f' u).any (· != 0) with
    |true=>rfl
    |false=>rw[this.mpr hy]at C;cases C
  simp only[bX,if_false];unfold jy;rw[R];congr 4;congr 1;refine dS λk hk=>?_;rw[l _ (jt cs k (aS.mp hk))]
end
def GI(d:Nat)(a:LL)(pv:List (Nat×LI))(f:LI->LI):Ky:=((d:Int)-(pv.length:Int),((List.range a.length).filter λk=>!(f (a.getD k [])).any (· != 0)).map λ(k:Nat)=>(k:Int))
def DW(d:Nat)(a:LL)(pv:List (Nat×LI))(f:LI->LI):Prop:=∀u∈a,(f u).length=d+1/\(∃g s y,0<g/\0<s/\Qs (tJ pv) y/\∀i,g*vc (f u) i=s*vc u i+1*y i)/\∀p∈pv,vc (f u) p.1=0
def KB(d:Nat)(a:LL)(e:List Nat)(o:Oq Ky):Prop:=∃pv b f,PP d 30 (fF a e) pv b/\DW d a pv f/\o=if b.any (λr=>r.any (· != 0)) then none else some (GI d a pv f)
def Fh:Oq Ky->T
 |none=>.non
 |some g=>iP g
def sY(d:Nat)(a:LL)(pv:List (Nat×LI))(f:LI->LI):jy d a pv f=iP (GI d a pv f):=by unfold jy iP GI;rw[aI];rfl
def za(b:Bool)(g:Ky):(if b then T.non else iP g)=Fh (if b then none else some g):=by cases b<;>rfl
def HG{f g:Ky}(h:iP f=iP g):f=g:=by have:=congrArg tu h;rw[oA,oA]at this;exact Option.some.inj this
def Hz{o a:Oq Ky}(h:Fh o=Fh a):o=a:=by
 cases o with
 |none=>
  cases a with
  |none=>rfl
  |some g=>cases h
 |some f=>
  cases a with
  |none=>cases h
  |some g=>rw[HG h]
def FL(d:Nat)(b:LL)(a:List Nat):Oq Ky:=Classical.epsilon (KB d b a)
structure Vz(d:Nat)(cs:LL):Prop where
 hd:1<=d/\d<=3
 hg:HE d 30 cs
def l8(b:LL)(a:List Nat):Prop:=(∀z∈a,z<b.length)/\a.length<=7
section
variable {d:Nat}{cs:LL}{zs zs':List Nat}{k:Nat}{g:Ky}
def xm{o b:Oq Ky}(V:Vz d cs)(e:l8 cs zs)(a:l8 cs zs')(h:KB d cs zs o)(h':KB d cs zs' b)(n:∀v,uN (d+1) (fF cs zs) v↔uN (d+1) (fF cs zs') v):o=b:=by obtain⟨pv,r,f,p,l,rfl⟩:=h;obtain⟨q,i,s,j,m,rfl⟩:=h';have:=AQ V.hd V.hg e.1 a.1 e.2 a.2 p j l m n;rw[sY,sY,za,za]at this;exact Hz this
def C2(V:Vz d cs)(a:l8 cs zs){S:T}(h:seqT S=.ok (zs.map mI)):∃o,KB d cs zs o/\gQ c [.lst (cs.map tI),.int d,S]=.ok (Fh o)/\iT c [.int d,.lst (cs.map tI),S]=.ok (Fh o):=by obtain⟨pv,i,f,p,l,e⟩:=yJ (c:=c) V.hd V.hg a.1 a.2 h;have b:=xD (c:=c) V.hd V.hg a.1 a.2 h p l;rw[sY,za]at e b;exact⟨_,⟨pv,i,f,p,l,rfl⟩,e,b⟩
def wk(V:Vz d cs)(a:l8 cs zs):KB d cs zs (FL d cs zs):=by obtain⟨o,h,_⟩:=C2 (c:=⟨0,0,0,0,0,0,0,0,0,0,0,0,0⟩) V a (S:=.lst (zs.map mI)) rfl;exact Classical.epsilon_spec (p:=KB d cs zs) ⟨o,h⟩
def Cp(V:Vz d cs)(a:l8 cs zs){S:T}(b:seqT S=.ok (zs.map mI)):gQ c [.lst (cs.map tI),.int d,S]=.ok (Fh (FL d cs zs))/\iT c [.int d,.lst (cs.map tI),S]=.ok (Fh (FL d cs zs)):=by obtain⟨o,h,e⟩:=C2 (c:=c) V a b;rw[xm V a a h (wk V a) λ_=>Iff.rfl]at e;exact e
def nq(V:Vz d cs)(b:l8 cs zs)(a:l8 cs zs')(e:∀v,uN (d+1) (fF cs zs) v↔uN (d+1) (fF cs zs') v):FL d cs zs=FL d cs zs':=xm V b a (wk V b) (wk V a) e
def Bf{u:LI}{m:Nat}(q:u.length=m/\∀x∈u,Bn 30 x):u.length=m/\∀x∈u,Bn 50 x:=⟨q.1,λx a=>(q.2 x a).mono (by decide)⟩
def KN(V:Vz d cs)(a:l8 cs zs):∃b,sG (fF cs zs) (d+1) (fF cs zs).length b:=wq (by have:=V.hd;lia) (by have:=a.2;simp[fF];lia) λv e=>Bf (lV V.hg a.1 v e)
def Nq(V:Vz d cs)(a:l8 cs zs){u:LI}(b:u∈cs):∃e,sG (fF cs zs++[u]) (d+1) (fF cs zs++[u]).length e:=wq (by have:=V.hd;lia) (by have:=a.2;simp[fF];lia) λv f=>by
 rcases ai.mp f with q|q
 .exact Bf (lV V.hg a.1 v q)
 .rw[aj.mp q];exact Bf (V.hg.gc u b).gl
def G1{a:LL}(h:(a.any λr=>r.any (· != 0))=false):∀r∈a,vc r d=0:=λr b=>iV.mp (by simpa using bA.mp h r b) d
def GO{b:LL}{pv:List (Nat×LI)}{a:LL}(p:PP d 30 a pv b)(h:(b.any λr=>r.any (· != 0))=true):∃r∈b,vc r d≠0:=by
 obtain⟨r,f,j⟩:=dM.mp h;refine⟨r,f,λz=>?_⟩;have:(r.any (· != 0))=false:=iV.mpr λi=>by
  by_cases l:i<d
  .exact (p.rr r f).2.1 i l
  .by_cases e:i=d
   .rw[e];exact z
   .exact jv r i (by rw[(p.rr r f).1];lia)
 rw[this]at j;cases j
def jg(V:Vz d cs)(i:l8 cs zs)(h:FL d cs zs=some g):∃pv a f,PP d 30 (fF cs zs) pv a/\DW d cs pv f/\(∀r∈a,vc r d=0)/\g=GI d cs pv f:=by
 obtain⟨pv,a,f,p,l,e⟩:=wk V i;rw[h]at e;cases b:a.any λr=>r.any (· != 0) with
 |true=>rw[b]at e;cases e
 |false=>rw[b]at e;exact⟨pv,a,f,p,l,G1 b,Option.some.inj e⟩
def vv(V:Vz d cs)(i:l8 cs zs)(h:FL d cs zs=none):∃pv a,PP d 30 (fF cs zs) pv a/\∃r∈a,vc r d≠0:=by
 obtain⟨pv,a,f,p,l,e⟩:=wk V i;rw[h]at e;cases b:a.any λr=>r.any (· != 0) with
 |false=>rw[b]at e;cases e
 |true=>exact⟨pv,a,p,GO p b⟩
def v5(V:Vz d cs)(D:l8 cs zs){pv:List (Nat×LI)}{A:LL}{f:LI->LI}(p:PP d 30 (fF cs zs) pv A)(l:DW d cs pv f)(z:∀r∈A,vc r d=0){u:LI}(o:u∈cs) :
  (f u).any (· != 0)=false↔∀v,uN (d+1) (fF cs zs) v->jm (d+1) (vc u) v=0:=by
 obtain⟨F,⟨g,s,y,j,m,B,C⟩,E⟩:=l u o;constructor
 .intro h v L;have J:=iV.mp h;have e:jm (d+1) y v=0:=gz B λx ⟨q,hq,ex⟩=>by rw[ex];exact gz (p.pl q hq).2.2.2.2 λx ⟨r,a,ex⟩=>by rw[ex];exact L r a
  have K:∀i,s*vc u i = -(y i):=λi=>by have:=C i;rw[J i]at this;lia
  have I:s*jm (d+1) (vc u) v=0:=by
   have:s*jm (d+1) (vc u) v = -1*jm (d+1) y v:=by unfold jm;rw[<-vD,<-vD];exact fX _ _ _ λi P=>by have:=K i;grind
   rw[this,e];rfl
  rcases dC.mp I with w|w
  .lia
  .exact w
 .intro h;obtain⟨N,t⟩:=KN V D;obtain⟨b,n⟩:=Nq V D o;have H:=mq n t λv=>by
   constructor
   .exact λq r a=>q r (ay _ a)
   .intro q r a;rcases ai.mp a with w|w
    .exact q r w
    .rw[aj.mp w];exact h v q
  exact iV.mpr ((mQ p z j m B C E F n).mp (by rw[H];exact jQ p z t))
def lU(V:Vz d cs)(b:l8 cs zs)(h:FL d cs zs=some g):∃ks:List Nat,g.2=ks.map (λ(k:Nat)=>(k:Int))/\(∀k,k∈ks↔k<cs.length/\∀v,uN (d+1) (fF cs zs) v->jm (d+1) (vc (cs.getD k [])) v=0)/\ks.length<=cs.length/\ks.Pairwise (· < ·):=by
 obtain⟨pv,i,f,p,l,z,rfl⟩:=jg V b h;refine⟨_,rfl,λk=>?_,?_,?_⟩
 .rw[aU,aS];constructor
  .rintro⟨a,e⟩;exact⟨a,(v5 V b p l z (jt cs k a)).mp (by simpa using e)⟩
  .rintro⟨a,e⟩;exact⟨a,by simpa using (v5 V b p l z (jt cs k a)).mpr e⟩
 .have:=dU (λk=>!(f (cs.getD k [])).any (· != 0)) (List.range cs.length);rwa [dO]at this
 .exact List.pairwise_lt_range.filter _
def eL{r:LI}:r∈fF cs zs↔∃z∈zs,r=cs.getD z []:=by unfold fF;rw[aD];exact⟨λ⟨z,h,e⟩=>⟨z,h,e.symm⟩,λ⟨z,h,e⟩=>⟨z,h,e.symm⟩⟩
def ju{v:Vc}:uN (d+1) (fF cs (zs++[k])) v↔uN (d+1) (fF cs zs) v/\jm (d+1) (vc (cs.getD k [])) v=0:=by
 constructor
 .intro h;exact⟨λr b=>h r (by obtain⟨z,a,e⟩:=eL.mp b;exact eL.mpr ⟨z,ay _ a,e⟩),h _ (eL.mpr ⟨k,by simp,rfl⟩)⟩
 .rintro⟨f,i⟩ r b;obtain⟨z,a,rfl⟩:=eL.mp b;rcases ai.mp a with q|q
  .exact f _ (eL.mpr ⟨z,q,rfl⟩)
  .rw[aj.mp q];exact i
def l8.snoc(a:l8 cs (zs++[k])):l8 cs zs:=⟨λz h=>a.1 z (ay _ h),by have:=a.2;simp at this;lia⟩
def wA{a b:List Nat}(h:a.map (λ(k:Nat)=>(k:Int))=b.map λ(k:Nat)=>(k:Int)):a=b:=(cD (f:=λ(k:Nat)=>(k:Int)) λx y w=>dR.mp w).mp h
def Cn(V:Vz d cs)(i:l8 cs (zs++[k])){ks:List Nat}(j:l8 cs (ks++[k]))(h:FL d cs zs=some g)(l:g.2=ks.map (λ(k:Nat)=>(k:Int))):FL d cs (ks++[k])=FL d cs (zs++[k]):=by
 obtain⟨f,e,m,_⟩:=lU V i.snoc h;have:ks=f:=wA (l.symm.trans e);subst this;refine nq V j i λv=>?_;rw[ju,ju];refine and_congr_left λ_=>⟨λh r b=>?_,λh r b=>?_⟩
 .obtain⟨z,a,rfl⟩:=eL.mp b;exact h _ (eL.mpr ⟨z,(m z).mpr ⟨i.1 z (ay _ a),λv n=>n _ b⟩,rfl⟩)
 .obtain⟨z,a,rfl⟩:=eL.mp b;exact ((m z).mp a).2 v h
def Aq(V:Vz d cs)(j:l8 cs (zs++[k]))(h:FL d cs zs=none):FL d cs (zs++[k])=none:=by
 obtain⟨pv,A,p,r,a,t⟩:=vv V j.snoc h;cases e:FL d cs (zs++[k]) with
 |none=>rfl
 |some g=>
  obtain⟨l,s,B,b,y,o,rfl⟩:=jg V j e;obtain⟨u,m⟩:=KN V j;have:=iF (os:=l++[(d,r)]) m (λq f=>by
   rcases ai.mp f with w|w
   .exact⟨by have:=(b.pl q w).1;lia,(b.pl q w).2.2.1⟩
   .rw[aj.mp w];exact⟨bC d,t⟩) (dE.mpr ⟨b.tri,cG _ _,λq f z i=>by rw[aj.mp i];exact (p.rr r a).2.1 _ (b.pl q f).1⟩) λv n q f=>by
   rcases ai.mp f with w|w
   .exact gz (b.pl q w).2.2.2.2 λx ⟨r,a,ex⟩=>by rw[ex];exact n r a
   .rw[aj.mp w];exact gz (p.rr r a).2.2 λx ⟨r,a,ex⟩=>by rw[ex];exact (ju.mp n).1 r a
  rw[jQ b o m]at this;simp at this;exact absurd this (dW _)
def zc(V:Vz d cs):∃g,FL d cs []=some g:=by
 cases e:FL d cs [] with
 |some g=>exact⟨g,rfl⟩
 |none=>
  obtain⟨pv,f,p,r,a,b⟩:=vv V ⟨λ_ h=>absurd h dX,bD _⟩ e;have:=gz (m:=d+1) (v:=λi=>if i=d then 1 else 0) (p.rr r a).2.2 λx ⟨r,a,_⟩=>by simp[fF]at a
  refine absurd ?_ b;unfold jm at this;rw[uZ]at this;rw[fX d _ (λ_=>0) λi j=>by dsimp only;rw[aR (by lia),dB],kR]at this;simpa using this
def rA(V:Vz d cs)(a:l8 cs zs)(h:FL d cs zs=some g):0<=g.1/\g.1<=d:=by obtain⟨pv,b,f,p,l,z,rfl⟩:=jg V a h;have:=p.short;unfold GI;dsimp only;lia
def AA{C:Ky}(V:Vz d cs)(j:l8 cs (zs++[k]))(h:FL d cs zs=some g)(h':FL d cs (zs++[k])=some C)(Q:(k:Int)∉g.2):C.1<g.1:=by
 obtain⟨E,e,m,_⟩:=lU V j.snoc h;have i:k<cs.length:=j.1 k (by simp);have H:k∉E:=λw=>Q (by rw[e];exact aD.mpr ⟨k,w,rfl⟩);obtain⟨pv,rs,f,p,l,z,rfl⟩:=jg V j.snoc h;obtain⟨S,J,f',K,Y,I,rfl⟩:=jg V j h';obtain⟨a,B⟩:=KN V j;obtain⟨b,u⟩:=Nq V j.snoc (jt cs k i);have X:a.length=b.length:=mq B u λv=>by
  constructor
  .intro q r n;rcases ai.mp n with w|w
   .exact (ju.mp q).1 r w
   .rw[aj.mp w];exact (ju.mp q).2
  .intro q;exact ju.mpr ⟨λr n=>q r (ay _ n),q _ (by simp)⟩
 have Z:=jQ K I B;have L:=iF u (λq o=>⟨by have:=(p.pl q o).1;lia,(p.pl q o).2.2.1⟩) p.tri λv R q o=>gz (p.pl q o).2.2.2.2 λx ⟨r,n,ex⟩=>by rw[ex];exact R r (ay _ n)
 obtain⟨F,⟨U,s,y,t,A,N,P⟩,D⟩:=l _ (jt cs k i);have ne:b.length≠pv.length:=λw=>H ((m k).mpr ⟨i,(v5 V j.snoc p l z (jt cs k i)).mp (iV.mpr ((mQ p z t A N P D F u).mp w))⟩);unfold GI;dsimp only;lia
end
def iK(n:Nat)(p:Nat->Bool):List Nat:=(List.range n).filter p
def vN{n:Nat}{p:Nat->Bool}:∀z∈iK n p,z<n:=λz h=>aS.mp (aU.mp h).1
def wI(n:Nat)(p:Nat->Bool):(iK n p).length<=n:=by have:=dU p (List.range n);rwa [dO]at this
def pZ(n:Nat)(p:Nat->Bool):iK (n+1) p=iK n p++(if p n then [n] else []):=by unfold iK;rw[List.range_succ,List.filter_append];congr 1;cases h:p n<;>simp[h]
def kr{n:Nat}{p q:Nat->Bool}(h:∀k,k<n->p k=q k):iK n p=iK n q:=dS λk a=>h k (aS.mp a)
def rz(a:List Ky):Oq Ky->List Ky
 |none=>a
 |some g=>rF a g
def FM(a:List Ky)(o:Oq Ky):EJ a (Fh o)=.ok (rz a o):=by
 cases o with
 |none=>rfl
 |some g=>unfold Fh EJ rz;have:tu (iP g)=some g:=oA g;unfold iP at this ⊢;simp only[this]
def Ex{a:List Ky}{g x:Ky}:x∈rF a g↔x∈a\/x=g:=by
 unfold rF;split
 .rename_i h;exact⟨.inl,λb=>b.elim id λe=>e▸h⟩
 .simp
def EB{a:List Ky}{o:Oq Ky}{x:Ky}:x∈rz a o↔x∈a\/o=some x:=by
 cases o with
 |none=>simp[rz]
 |some g=>unfold rz;rw[Ex];exact or_congr_right ⟨λh=>by rw[h],λh=>(Option.some.inj h).symm⟩
def yi{d:List Ky}(o:Oq Ky)(h:d.Nodup):(rz d o).Nodup:=by
 cases o with
 |none=>exact h
 |some g=>
  show (rF d g).Nodup;unfold rF;split
  .exact h
  .rename_i i;exact dY.mpr ⟨h,by simp,λa j b f e=>by rw[aj.mp f]at e;exact i (e▸j)⟩
def Cr(a:List Ky)(o:Oq Ky):(rz a o).length<=a.length+1:=by
 cases o with
 |none=>exact bF _
 |some g=>exact Es a g
section
variable {α:Type}{φ:α->Option Ky}
def rS(φ:α->Option Ky)(l:List α)(b:List Ky):List Ky:=l.foldl (λa x=>rz a (φ x)) b
theorem qd{x:Ky}:∀{l:List α} {a:List Ky},x∈rS φ l a↔x∈a\/∃y∈l,φ y=some x
 |[],a=>by simp[rS]
 |y::l,a=>by show x∈rS φ l (rz a (φ y))↔_;rw[qd,EB];simp only[aF,exists_eq_or_imp,or_assoc]
theorem m3:∀{l:List α} {a:List Ky},a.Nodup->(rS φ l a).Nodup
 |[],_,h=>h
 |y::l,_,h=>m3 (l:=l) (yi (φ y) h)
theorem sk{st:T->List Ky->M (List Ky)}{enc:α->T}{N:Nat}:∀(l:List α) (b:List Ky),b.length+l.length<=N->(∀x∈l,∀a:List Ky,a.length<N->st (enc x) a=.ok (rz a (φ x)))->lF st (l.map enc) b=.ok (rS φ l b)
 |[],_,_,_=>rfl
 |y::l,b,h,hs=>by rw[az]at h;show (st (enc y) b).bind (lF st (l.map enc))=_;rw[hs y bh b (by lia)];have:=Cr b (φ y);exact sk l _ (by lia) λx d=>hs x (bj _ d)
end
def yI{l m:List Ky}(h:l.Perm m):gE l=gE m:=by refine xh ((c9 l tH).trans h) ?_;refine (dc yZ u0 l).imp λ{a b} z=>?_;unfold tH at z;simpa using z
theorem wL:∀(n:Nat) (p:Nat->Bool),∃b:Nat,b<2 ^ n/\∀k,k<n->(Builtin.bitAnd ((b:Int) / 2 ^ k) 1==1)=p k
 |0,_=>⟨0,by decide,λk a=>absurd a (cX _)⟩
 |n+1,p=>by
  obtain⟨b,d,h⟩:=wL n λk=>p (k+1);refine⟨2*b+(if p 0 then 1 else 0),?_,λk a=>?_⟩
  .rw[cZ];split<;>lia
  .rw[PyProof.Rows.bitAnd_m1];cases k with
   |zero=>
    rw[Int.pow_zero,Int.ediv_one];cases p 0
    .simp
    .simp_all
   |succ k=>
    rw[<-h k (by lia),PyProof.Rows.bitAnd_m1,Int.pow_succ,cR,<-Int.ediv_ediv_of_nonneg (by decide)];have:((2*b+(if p 0 then 1 else 0):Nat):Int) / 2=b:=by split<;>lia
    rw[this]
def rm(b:Nat):Nat->Bool:=λk=>Builtin.bitAnd ((b:Int) / 2 ^ k) 1==1
section
variable {d:Nat}{cs:LL}
def lT(b:cs.length<=7){n:Nat}(a:n<=cs.length)(p:Nat->Bool):l8 cs (iK n p):=⟨λz h=>aE (vN z h) a,aN (wI n p) (by lia)⟩
def w5(b:cs.length<=7){k:Nat}(a:k<cs.length)(p:Nat->Bool):l8 cs (iK k p++[k]):=by
 refine⟨λz h=>?_,?_⟩
 .rcases ai.mp h with q|q
  .have:=vN z q;lia
  .rw[aj.mp q];exact a
 .have:=wI k p;simp;lia
def om(d:Nat)(cs:LL)(k:Nat)(a:List Ky):Prop:=a.Nodup/\∀g,g∈a↔∃p,FL d cs (iK k p)=some g
def BH(l:LI):List Nat:=l.map Int.toNat
def nA(ks:List Nat):BH (ks.map λ(k:Nat)=>(k:Int))=ks:=by unfold BH;rw[aI];exact (cH λk _=>by simp).trans (List.map_id ks)
def De(d:Nat)(cs:LL)(k:Nat)(a:List Ky):List Ky:=rS (λf:Ky=>FL d cs (BH f.2++[k])) a a
def BK(V:Vz d cs)(x:cs.length<=6){k:Nat}(i:k<cs.length){a:List Ky}(h:om d cs k a):om d cs (k+1) (De d cs k a):=by
 refine⟨m3 h.1,λg=>?_⟩;unfold De;rw[qd];have l:∀(p:Nat->Bool) (f:Ky),FL d cs (iK k p)=some f->FL d cs (BH f.2++[k])=FL d cs (iK k p++[k]):=λp f e=>by
  obtain⟨v,r,m,w,_⟩:=lU V (lT (by lia) (by lia) p) e;rw[r,nA];exact Cn V (w5 (by lia) i p) ⟨λz t=>by
   rcases ai.mp t with q|q
   .exact ((m z).mp q).1
   .rw[aj.mp q];exact i,by simp;lia⟩ e r
 constructor
 .rintro (u|⟨f,s,e⟩)
  .obtain⟨p,e⟩:=(h.2 g).mp u;refine⟨λj=>p j&&decide (j<k),?_⟩;rw[pZ,show (p k&&decide (k<k))=false by simp,aR (by decide),bE];rw[kr (q:=p) λj n=>by simp[n]];exact e
  .obtain⟨p,b⟩:=(h.2 f).mp s;rw[l p f b]at e;refine⟨λj=>if j=k then true else p j,?_⟩;rw[pZ,aQ (by simp),kr (q:=p) λj n=>by rw[aR (by lia)]];exact e
 .rintro⟨p,e⟩;rw[pZ]at e;cases o:p k with
  |false=>rw[o]at e;simp only[bX,if_false,bE]at e;exact .inl ((h.2 g).mpr ⟨p,e⟩)
  |true=>
   rw[o]at e;simp only[if_true]at e;cases b:FL d cs (iK k p) with
   |none=>rw[Aq V (w5 (by lia) i p) b]at e;cases e
   |some f=>exact .inr ⟨f,(h.2 f).mpr ⟨p,b⟩,by rw[l p f b];exact e⟩
def xy{k:Nat}{a:List Ky}(h:om d cs k a):a.length<=2 ^ k:=by
 have:=List.Nodup.length_le_of_subset (l₂:=(List.range (2 ^ k)).filterMap λb=>FL d cs (iK k (rm b))) h.1 λg j=>by obtain⟨p,e⟩:=(h.2 g).mp j;obtain⟨b,i,f⟩:=wL k p;exact bt.mpr ⟨b,aS.mpr i,by rw[show iK _ (rm b)=iK _ p from kr f];exact e⟩
 have l:=dZ (λb=>FL d cs (iK k (rm b))) (List.range (2 ^ k));rw[dO]at l;lia
def AJ{k:Nat}{l m:List Ky}(h:om d cs k l)(h':om d cs k m):l.Perm m:=(List.perm_ext_iff_of_nodup h.1 h'.1).mpr λg=>(h.2 g).trans (h'.2 g).symm
def uH(k:Nat):om d cs k (rS (λb=>FL d cs (iK k (rm b))) (List.range (2 ^ k)) []):=by
 refine⟨m3 List.nodup_nil,λg=>?_⟩;rw[qd];constructor
 .rintro (h|⟨b,_,e⟩)
  .cases h
  .exact⟨_,e⟩
 .rintro⟨p,e⟩;obtain⟨b,f,a⟩:=wL k p;exact .inr ⟨b,aS.mpr f,by rw[show iK _ (rm b)=iK _ p from kr a];exact e⟩
theorem qE(V:Vz d cs)(f:cs.length<=6):∀n,n<=cs.length->FL d cs (List.range n)=none\/(∃j,j<n/\∃g,FL d cs (List.range j)=some g/\(j:Int)∈g.2)\/∃g,FL d cs (List.range n)=some g/\g.1<=(d:Int)-n
 |0,_=>by obtain⟨g,e⟩:=zc V;exact .inr (.inr ⟨g,e,by have:=(rA V ⟨λ_ h=>absurd h dX,bD _⟩ e).2;lia⟩)
 |n+1,hn=>by
  have b:l8 cs (List.range n++[n]):=⟨λz h=>by
   rcases ai.mp h with q|q
   .have:=aS.mp q;lia
   .rw[aj.mp q];lia,by simp;lia⟩
  rw[List.range_succ];cases e:FL d cs (List.range n++[n]) with
  |none=>exact .inl rfl
  |some g'=>
   rcases qE V f n (by lia) with q|⟨j,k,q⟩|⟨g,q,i⟩
   .rw[Aq V b q]at e;cases e
   .exact .inr (.inl ⟨j,by lia,q⟩)
   .by_cases a:(n:Int)∈g.2
    .exact .inr (.inl ⟨n,by lia,g,q,a⟩)
    .have:=AA V b q e a;exact .inr (.inr ⟨g',rfl,by lia⟩)
def qR(V:Vz d cs)(Y:cs.length<=6){f:List Ky}(h:om d cs cs.length f):f.length<64:=by
 by_cases x:cs.length<=5
 .have:=xy h;have h5:2 ^ cs.length<=2 ^ 5:=cY (by decide) x;lia
 have x:cs.length=6:=by lia
 obtain⟨l,t,s⟩:=wL cs.length λ_=>true;have sub:∀g∈f,g∈((List.range (2 ^ cs.length)).filter λb=>b != l).filterMap λb=>FL d cs (iK cs.length (rm b)):=λg U=>by
  have go:∀p:Nat->Bool,FL d cs (iK cs.length p)=some g->(∃j,j<cs.length/\p j=false)->g∈((List.range (2 ^ cs.length)).filter λb=>b != l).filterMap λb=>FL d cs (iK cs.length (rm b)):=λp e ⟨j,a,hpj⟩=>by
   obtain⟨b,N,E⟩:=wL cs.length p;refine bt.mpr ⟨b,aU.mpr ⟨aS.mpr N,?_⟩,by rw[show iK _ (rm b)=iK _ p from kr E];exact e⟩;have:b≠l:=λz=>by have A:=E j a;have D:=s j a;rw[z]at A;rw[A,hpj]at D;cases D
   simpa using this
  obtain⟨p,e⟩:=(h.2 g).mp U;by_cases I:∃j,j<cs.length/\p j=false
  .exact go p e I
  .have pt:∀j,j<cs.length->p j=true:=λj a=>by
    cases q:p j with
    |true=>rfl
    |false=>exact absurd ⟨j,a,q⟩ I
   have B:iK cs.length p=List.range cs.length:=List.filter_eq_self.mpr λj a=>pt j (aS.mp a);rcases qE V Y cs.length (aK _) with q|⟨j,a,X,q,F⟩|⟨X,q,L⟩
   .rw[B,q]at e;cases e
   .refine go (λi=>decide (i≠j)) ?_ ⟨j,a,by simp⟩;rw[<-e,B];have P:l8 cs (List.range j):=⟨λz h=>by have:=aS.mp h;lia,by simp;lia⟩;obtain⟨Z,R,m,_⟩:=lU V P q;have S:=(m j).mp (by rw[R]at F;obtain⟨z,k,K⟩:=aD.mp F;rw[<-dR.mp K];exact k)
    refine nq V (lT (by lia) (aK _) _) ⟨λz h=>aS.mp h,by simp;lia⟩ λv=>⟨λo r n=>?_,λo r n=>?_⟩
    .obtain⟨z,k,rfl⟩:=eL.mp n;have k:=aS.mp k;by_cases H:z=j
     .subst H;exact S.2 v λr n=>by obtain⟨y,w,rfl⟩:=eL.mp n;have w:=aS.mp w;exact o _ (eL.mpr ⟨y,aU.mpr ⟨aS.mpr (by lia),by simpa using aM w⟩,rfl⟩)
     .exact o _ (eL.mpr ⟨z,aU.mpr ⟨aS.mpr k,by simpa using H⟩,rfl⟩)
    .obtain⟨z,k,rfl⟩:=eL.mp n;exact o _ (eL.mpr ⟨z,aS.mpr (vN z k),rfl⟩)
   .have:=(rA V ⟨λz h=>aS.mp h,by simp;lia⟩ q).1;have:=V.hd.2;lia
 have J:=List.Nodup.length_le_of_subset h.1 sub;have Q:=dZ (λb=>FL d cs (iK cs.length (rm b))) ((List.range (2 ^ cs.length)).filter λb=>b != l);have C:((List.range (2 ^ cs.length)).filter λb=>b != l).length<(List.range (2 ^ cs.length)).length:=List.length_filter_lt_length_iff_exists.mpr ⟨l,aS.mpr t,by simp⟩;rw[dO]at C;have u:2 ^ cs.length=64:=by rw[x]
 rw[u]at J Q C;lia
end
section
variable {d:Nat}{cs:LL}
def Gs{j fe:Pe->M T}{i:Pe->M (List T)}{f a b e:Nat}{ρ:En}{g:Ky}{its:List T}{l:List Ky}(m:j (jW ρ)=.ok (iP g))(n:i (((((jW ρ).set f none).set e none).set a none).set b none)=.ok its)
  (k:lF (Bq fe a b (((((jW ρ).set f none).set e none).set a none).set b none)) its [g]=.ok l) (h:l.length<64):BS j fe i f a b e ρ=.rf ((gE l).map iP):=by
 unfold BS;rw[m,O.of_ok,oA];dsimp only;rw[n,O.of_ok,k];unfold Hf;rw[O.of_ok,aQ h]
def G9{fe:Pe->M T}{g:Pe->M (List T)}{e a b:Nat}{ρ:En}{its:List T}{l:List Ky}(i:g ((((jW ρ).set e none).set b none).set a none)=.ok its)
  (h:lF (Fx fe a ((((jW ρ).set e none).set b none).set a none)) its []=.ok l) (f:l.length<64):EO fe g e a b ρ=.rf ((gE l).map iP):=by
 unfold EO;rw[i,O.of_ok,h];unfold Hf;rw[O.of_ok,aQ f]
def C1{fe:Pe->M T}{b:Nat}{ρ:Pe}{t:T}{a:List Ky}{o:Oq Ky}(e:a.length<1000)(h:fe (ρ.set b (some t))=.ok (Fh o)):Fx fe b ρ t a=.ok (rz a o):=by unfold Fx;rw[aQ e,h,M.bind_ok,FM]
def rh{k n:Nat}{g:En->O}{ts us:List T}(a:ts.length=k)(h:g (fQ n ts)=.rf us):uc k n g ts=.ok us:=by unfold uc;rw[aQ a,h];rfl
theorem wZ(V:Vz d cs)(n:cs.length<=6){fe:Pe->M T}{ρ:Pe}(g:∀(k:Nat) (f:Ky) (p:Nat->Bool),k<cs.length->FL d cs (iK k p)=some f->fe ((ρ.set 4 (some (.int (k:Int)))).set 5 (some (iP f)))=.ok (Fh (FL d cs (BH f.2++[k])))) :
  ∀(m k:Nat) (b:List Ky),k+m=cs.length->om d cs k b->∃l,lF (Bq fe 4 5 ρ) ((List.range' k m).map λ(i:Nat)=>T.int (i:Int)) b=.ok l/\om d cs cs.length l
 |0,k,b,h,ha=>⟨b,rfl,by rw[<-h];exact ha⟩
 |m+1,k,b,h,ha=>by
  have t:=xy ha;have q:2 ^ k<=2 ^ 6:=cY (by decide) (by lia);have e:Bq fe 4 5 ρ (.int (k:Int)) b=.ok (De d cs k b):=sk (N:=1000) (enc:=iP) b b (by lia) λf o a j=>by obtain⟨p,e⟩:=(ha.2 f).mp o;exact C1 j (g k f p (by lia) e)
  obtain⟨l,s,r⟩:=wZ V n g m (k+1) _ (by lia) (BK V n (by lia) ha);refine⟨l,?_,r⟩;rw[List.range'_succ,bB];show (Bq fe 4 5 ρ (.int (k:Int)) b).bind _=_;rw[e];exact s
def El(V:Vz d cs)(r:cs.length<=6):∃l,om d cs cs.length l/\oX c [oJ c d cs]=.ok ((gE l).map iP):=by
 have sz:1000<sizeLine:=by decide
 obtain⟨b,i⟩:=zc V;have v:om d cs 0 [b]:=⟨by simp,λg=>⟨λh=>⟨λ_=>false,by rw[aj.mp h];exact i⟩,λ⟨p,h⟩=>by have o:FL d cs []=some g:=h;rw[i]at o;rw[Option.some.inj o];simp⟩⟩
 have w:l8 cs []:=⟨λ_ h=>absurd h dX,bD _⟩;obtain⟨l,B,n⟩:=wZ V r (fe:=eQ (ee (ei 1) (ee (ei 2) (ee (eP ig (eP il (ei 5) (cM (.int 1))) (nB (ee (ei 4) eC))) eC))) (gQ c)) (ρ:=[some (oJ c d cs),some (.lst (cs.map tI)),some (.int (d:Int)),none,none,none,none]) (λk f p C e=>by
   obtain⟨a,j,m,E,_⟩:=lU V (lT (by lia) (by lia) p) e;have ok:l8 cs (a++[k]):=⟨λz D=>by
    rcases ai.mp D with q|q
    .exact ((m z).mp q).1
    .rw[aj.mp q];exact C,by simp;lia⟩
   have s:seqT (.tup (a.map mI++[.int (k:Int)]))=.ok ((a++[k]).map mI):=by simp[seqT]
   rw[j,nA];have A:f.2.map T.int=a.map mI:=by rw[j,aI];rfl
   refine kJ rfl rfl (eK (x:=.tup (a.map mI)) (y:=.tup [.int (k:Int)]) (eK (x:=iP f) rfl rfl (by unfold iP;rw[A];rfl)) rfl ?_) (Cp V ok s).1;simp[ig];lia) cs.length 0 [b] (by lia) v
 refine⟨l,n,rh rfl ?_⟩;have u:(λρ=>if ρ.length=7 then BS (eQ (ee (ei 1) (ee (ei 2) (ee (hW (lstM eC)) eC))) (gQ c)) (eQ (ee (ei 1) (ee (ei 2) (ee (eP ig (eP il (ei 5) (cM (.int 1))) (nB (ee (ei 4) eC))) eC))) (gQ c)) (iG (ee (jq ji (ee (ei 1) eC)) eC)) 3 4 5 6 ρ else .bad:En->O)
   [some (.p (oJ c d cs)),some (.p (.lst (cs.map tI))),some (.p (.int (d:Int))),none,none,none,none]=.rf ((gE l).map iP):=by
  refine (aQ rfl).trans (Gs (g:=b) ?_ (l0 cs.length (by lia) (lh (t:=.lst (cs.map tI)) rfl (by simp))) ?_ (qR V r n))
  .refine kJ rfl rfl (z:=.lst []) rfl ?_;rw[(Cp V w (S:=.lst []) rfl).1,i];rfl
  .rw[List.range_eq_range'];exact B
 exact eI (fv (gB (FR d cs rfl)) rfl) (eI (fv (Gz d cs rfl) rfl) u)
def vI(V:Vz d cs)(g:cs.length<=6):∃l,om d cs cs.length l/\i6 c [.int d,.lst (cs.map tI)]=.ok ((gE l).map iP):=by
 have sz:1000<sizeLine:=by decide
 refine⟨_,uH cs.length,rh rfl ?_⟩;have j:2 ^ cs.length<=2 ^ 6:=cY (by decide) g;have f:Gp (.int 1) (.int (cs.length:Int))=.ok (.int ((2 ^ cs.length:Nat):Int)):=by
  have h:(cs.length:Int)<=1000000:=by lia
  simp[Gp,hZ,h]
 refine (aQ rfl).trans (G9 (l0 (2 ^ cs.length) (by lia) (eK (y:=.int (cs.length:Int)) rfl (lh (t:=.lst (cs.map tI)) rfl (by simp)) f)) ?_ (qR V g (uH cs.length)));refine sk (N:=1000) (enc:=λ(b:Nat)=>T.int (b:Int)) _ _ (by simp;lia) λb m a e=>C1 e ?_;have i:iR [none,some 3] (iG (ee (jq ji (ee (ei 1) eC)) eC)) (iC 0) (gG (eP (fC false) (eP wm (eP Dp (ei 1) (ei 0)) (cM (.int 1))) (cM (.int 1)))) (pG c) [some (.int (d:Int)),some (.lst (cs.map tI)),none,some (.int (b:Int)),none]=.ok ((iK cs.length (rm b)).map mI):=mY (List.range cs.length) mI mI (rm b) (l0 cs.length (by lia) (lh (t:=.lst (cs.map tI)) rfl (by simp))) (by simp;lia) (λk n=>⟨_,rfl,fG (eK (eK (eK rfl rfl (Gw (b:Int) k)) rfl (CJ _ _)) rfl (fS _ _)),λ_=>rfl⟩) rfl
 exact kJ rfl rfl (gB i) (Cp V (lT (by lia) (aK _) _) rfl).2
end
def Ef(a b:Ky):Prop:=∀k∈a.2,k∈b.2
section
variable {d:Nat}{cs:LL}
def Mf(d:Nat)(cs:LL)(y:Ky):Prop:=∃a:List Nat,y.2=a.map (λ(k:Nat)=>(k:Int))/\l8 cs a/\a.Pairwise (· < ·)/\FL d cs a=some y/\∀k,k∈a↔k<cs.length/\∀v,uN (d+1) (fF cs a) v->jm (d+1) (vc (cs.getD k [])) v=0
def Eo(V:Vz d cs){j:List Nat}(f:l8 cs j){y:Ky}(h:FL d cs j=some y):Mf d cs y:=by
 obtain⟨i,e,m,o,n⟩:=lU V f h;have ok:l8 cs i:=⟨λz f=>((m z).mp f).1,by have:=V.hg.few;lia⟩;have l:∀v,uN (d+1) (fF cs j) v↔uN (d+1) (fF cs i) v:=λv=>by
  constructor
  .intro a r g;obtain⟨z,b,rfl⟩:=eL.mp g;exact ((m z).mp b).2 v a
  .intro a r g;obtain⟨z,b,rfl⟩:=eL.mp g;exact a _ (eL.mpr ⟨z,(m z).mpr ⟨f.1 z b,λv a=>a _ g⟩,rfl⟩)
 refine⟨i,e,ok,n,by rw[<-nq V f ok l];exact h,λk=>?_⟩;rw[m k];exact and_congr_right λ_=>⟨λq v a=>q v ((l v).mpr a),λq v a=>q v ((l v).mp a)⟩
def Ds(V:Vz d cs){k a:List Nat}(z:l8 cs k)(j:l8 cs a)(u:∀v,uN (d+1) (fF cs a) v->uN (d+1) (fF cs k) v)(h:FL d cs k=none):FL d cs a=none:=by
 obtain⟨pv,D,p,r,b,y⟩:=vv V z h;cases e:FL d cs a with
 |none=>rfl
 |some g=>
  obtain⟨m,t,E,f,B,s,rfl⟩:=jg V j e;obtain⟨A,n⟩:=KN V j;have:=iF (os:=m++[(d,r)]) n (λq i=>by
   rcases ai.mp i with w|w
   .exact⟨by have:=(f.pl q w).1;lia,(f.pl q w).2.2.1⟩
   .rw[aj.mp w];exact⟨bC d,y⟩) (dE.mpr ⟨f.tri,cG _ _,λq i C l=>by rw[aj.mp l];exact (p.rr r b).2.1 _ (f.pl q i).1⟩) λv o q i=>by
   rcases ai.mp i with w|w
   .exact gz (f.pl q w).2.2.2.2 λx ⟨r,b,ex⟩=>by rw[ex];exact o r b
   .rw[aj.mp w];exact gz (p.rr r b).2.2 λx ⟨r,b,ex⟩=>by rw[ex];exact u v o r b
  rw[jQ f s n]at this;simp at this;exact absurd this (dW _)
def FS(V:Vz d cs){i a:List Nat}(t:l8 cs i)(b:l8 cs a){g k:Ky}(h:FL d cs i=some g)(h':FL d cs a=some k)(s:∀v,uN (d+1) (fF cs a) v->uN (d+1) (fF cs i) v):k.1<=g.1:=by
 obtain⟨pv,B,f,p,l,z,rfl⟩:=jg V t h;obtain⟨w,n,C,o,A,m,rfl⟩:=jg V b h';obtain⟨y,j⟩:=KN V b;have:=iF j (λq e=>⟨by have:=(p.pl q e).1;lia,(p.pl q e).2.2.1⟩) p.tri λv u q e=>gz (p.pl q e).2.2.2.2 λx ⟨r,hr,ex⟩=>by rw[ex];exact s v u r hr
 rw[jQ o m j]at this;unfold GI;dsimp only;lia
def JI(V:Vz d cs){j:List Nat}{k:Nat}(n:l8 cs (j++[k])){g s:Ky}(h:FL d cs j=some g)(h':FL d cs (j++[k])=some s):g.1<=s.1+1:=by
 obtain⟨pv,K,f,p,l,z,rfl⟩:=jg V n.snoc h;obtain⟨H,C,L,D,J,B,rfl⟩:=jg V n h';obtain⟨I,o⟩:=KN V n;have:=mB o ((pv.map λq=>vc q.2)++[vc (cs.getD k [])]) λv t r A=>by
  have E:∀q∈pv,jm (d+1) (vc q.2) v=0:=λq m=>t _ (ay _ (aD.mpr ⟨q,m,rfl⟩));obtain⟨y,F,rfl⟩:=eL.mp A;rcases ai.mp F with w|w
  .refine gz (p.sp _ (eL.mpr ⟨y,w,rfl⟩)) λx u=>?_;rcases u with⟨q,m,e⟩|⟨b,a,e⟩
   .rw[e];exact E q m
   .rw[e];unfold jm;rw[fX (d+1) _ (λ_=>0) λi N=>by
     have:vc b i=0:=by
      by_cases q:i<d
      .exact (p.rr b a).2.1 i q
      .rw[show i=d by lia];exact z b a
     rw[this,du]];exact kR _
  .rw[aj.mp w];exact t _ (by simp)
 rw[jQ D B o]at this;simp at this;unfold GI;dsimp only;lia
def jn(d:Nat)(cs:LL)(y:Ky)(k:Nat):Oq Ky:=FL d cs (BH y.2++[k])
structure NB(d:Nat)(cs:LL)(y:Ky)(k:Nat)(z:Ky):Prop where
 mf:Mf d cs z
 le:Ef y z
 kin:(k:Int)∈z.2
 one:(k:Int)∉y.2->z.1=y.1-1
 same:(k:Int)∈y.2->z=y
 least:∀t,Mf d cs t->Ef y t->(k:Int)∈t.2->Ef z t
def fV{ks:List Nat}{k:Nat}:(k:Int)∈ks.map (λ(k:Nat)=>(k:Int))↔k∈ks:=by rw[aD];exact⟨λ⟨z,hz,e⟩=>by rw[<-dR.mp e];exact hz,λh=>⟨k,h,rfl⟩⟩
def z9(V:Vz d cs)(i:cs.length<=6){ks:List Nat}(e:l8 cs ks)(g:ks.Pairwise (· < ·)){k:Nat}(h:k<cs.length):l8 cs (ks++[k]):=by
 have f:ks.Nodup:=g.imp λa=>aM a;have:=List.Nodup.length_le_of_subset (l₂:=List.range cs.length) f λz b=>aS.mpr (e.1 z b);rw[dO]at this;refine⟨λz b=>?_,by simp;lia⟩;rcases ai.mp b with q|q
 .exact e.1 z q
 .rw[aj.mp q];exact h
def rD(V:Vz d cs)(L:cs.length<=6){y z:Ky}(I:Mf d cs y){k:Nat}(A:k<cs.length)(h:jn d cs y k=some z):NB d cs y k z:=by
 obtain⟨o,e,ok,F,s,m⟩:=I;unfold jn at h;rw[e,nA]at h;have a:=z9 V L ok F A;obtain⟨E,u,n,_⟩:=lU V a h;have sub:∀j∈o,j∈E:=λj f=>(n j).mpr ⟨ok.1 j f,λv g=>g _ (eL.mpr ⟨j,ay _ f,rfl⟩)⟩;refine⟨Eo V a h,λj f=>?_,?_,λK=>?_,λb=>?_,λt J x l j f=>?_⟩
 .rw[e]at f;rw[u];obtain⟨i,b,rfl⟩:=aD.mp f;exact fV.mpr (sub i b)
 .rw[u];exact fV.mpr ((n k).mpr ⟨A,λv g=>g _ (eL.mpr ⟨k,by simp,rfl⟩)⟩)
 .have N:=AA V a s h K;have Q:=JI V a s h;lia
 .rw[e]at b;have b:=fV.mp b;have:FL d cs (o++[k])=FL d cs o:=nq V a ok λv=>by rw[ju];exact⟨λq=>q.1,λq=>⟨q,q _ (eL.mpr ⟨k,b,rfl⟩)⟩⟩
  rw[this,s]at h;exact (Option.some.inj h).symm
 .obtain⟨P,p,H,_,D,C⟩:=J;rw[u]at f;obtain⟨i,b,rfl⟩:=aD.mp f;rw[p];refine fV.mpr ((C i).mpr ⟨((n i).mp b).1,λv g=>((n i).mp b).2 v (ju.mpr ⟨λr B=>?_,?_⟩)⟩)
  .obtain⟨w,hw,rfl⟩:=eL.mp B;have:=x w (by rw[e];exact fV.mpr hw);rw[p]at this;exact g _ (eL.mpr ⟨w,fV.mp this,rfl⟩)
  .rw[p]at l;exact g _ (eL.mpr ⟨k,fV.mp l,rfl⟩)
def wg(V:Vz d cs)(u:cs.length<=6){y t:Ky}(p:Mf d cs y)(q:Mf d cs t)(g:Ef y t){k:Nat}(s:k<cs.length)(a:(k:Int)∈t.2):∃z,jn d cs y k=some z:=by
 obtain⟨l,e,ok,o,x,m⟩:=p;obtain⟨B,i,f,_,b,A⟩:=q;unfold jn;rw[e,nA];cases h:FL d cs (l++[k]) with
 |some z=>exact⟨z,rfl⟩
 |none=>
  rw[Ds V (z9 V u ok o s) f (λv j=>ju.mpr ⟨λr n=>?_,?_⟩) h]at b
  .cases b
  .obtain⟨w,hw,rfl⟩:=eL.mp n;have:=g w (by rw[e];exact fV.mpr hw);rw[i]at this;exact j _ (eL.mpr ⟨w,fV.mp this,rfl⟩)
  .rw[i]at a;exact j _ (eL.mpr ⟨k,fV.mp a,rfl⟩)
def pj(V:Vz d cs)(E:cs.length<=6){a b:Ky}(A:Mf d cs a)(x:Mf d cs b)(h:Ef a b)(ne:a≠b):b.1<a.1:=by
 obtain⟨y,D,s,P,u,Y⟩:=id A;obtain⟨t,B,e,F,i,X⟩:=id x;have C:∃k∈t,k∉y:=by
  refine aO λK=>ne ?_;have I:∀k∈t,k∈y:=λk L=>aO λq=>K ⟨k,L,q⟩;have:FL d cs y=FL d cs t:=nq V s e λv=>by
   constructor
   .intro n r j;obtain⟨w,hw,rfl⟩:=eL.mp j;exact n _ (eL.mpr ⟨w,I w hw,rfl⟩)
   .intro n r j;obtain⟨w,hw,rfl⟩:=eL.mp j;have:=h w (by rw[D];exact fV.mpr hw);rw[B]at this;exact n _ (eL.mpr ⟨w,fV.mp this,rfl⟩)
  rw[u,i]at this;exact Option.some.inj this
 obtain⟨k,m,o⟩:=C;have g:k<cs.length:=e.1 k m;have f:(k:Int)∈b.2:=by rw[B];exact fV.mpr m
 obtain⟨z,N⟩:=wg V E A x h g f;have J:=rD V E A g N;have Q:=J.one (by rw[D];exact λq=>o (fV.mp q));obtain⟨U,H,l,_,p,R⟩:=J.mf;have S:=FS V l e p i λv n r j=>by obtain⟨w,hw,rfl⟩:=eL.mp j;have:=J.least b x h f w (by rw[H];exact fV.mpr hw);rw[B]at this;exact n _ (eL.mpr ⟨w,fV.mp this,rfl⟩)
 lia
def rQ(V:Vz d cs):∃y,FL d cs []=some y/\y.2=[]/\y.1=d/\Mf d cs y:=by
 obtain⟨y,e⟩:=zc V;have o:l8 cs []:=⟨λ_ h=>absurd h dX,bD _⟩;have w:∀v,uN (d+1) (fF cs []) v:=λv r b=>by obtain⟨z,s,_⟩:=eL.mp b;exact absurd s dX
 obtain⟨t,B,m,_⟩:=lU V o e;refine⟨y,e,?_,?_,Eo V o e⟩
 .have:t=[]:=List.eq_nil_iff_forall_not_mem.mpr λk C=>by
   obtain⟨a,D⟩:=(m k).mp C;obtain⟨p,F,n⟩:=(V.hg.gc _ (jt cs k a)).re;have:=D (λi=>if i=p then 1 else 0) (w _);unfold jm at this;have g:sm (d+1) (λj=>vc (cs.getD k []) j*if j=p then 1 else 0)=vc (cs.getD k []) p:=by rw[<-vB (d+1) p (λj=>vc (cs.getD k []) j) (by lia)];exact fX _ _ _ λj _=>cR _ _
   rw[g]at this;exact n this
  rw[B,this];rfl
 .obtain⟨pv,H,f,p,l,z,rfl⟩:=jg V o e;have:pv=[]:=by
   cases pv with
   |nil=>rfl
   |cons q pv=>
    obtain⟨E,_,u,_,A⟩:=p.pl q bh;have:=gz (m:=d+1) (v:=λi=>if i=q.1 then 1 else 0) A λx ⟨r,b,_⟩=>by obtain⟨z,s,_⟩:=eL.mp b;exact absurd s dX
    unfold jm at this;have g:sm (d+1) (λj=>vc q.2 j*if j=q.1 then 1 else 0)=vc q.2 q.1:=by rw[<-vB (d+1) q.1 (λj=>vc q.2 j) (by lia)];exact fX _ _ _ λj _=>cR _ _
    rw[g]at this;exact absurd this u
  unfold GI;rw[this];simp
end
def qZ(a b:Ky):Bool:=a.2.all λk=>decide (k∈b.2)
def kZ{a b:Ky}:qZ a b=true↔Ef a b:=by unfold qZ Ef;simp
abbrev jx:=Ky×Int
def sD(D:List jx)(f:jx->Int):Int:=(D.map f).sum
def ik(x:jx)(D:List jx)(f:jx->Int):sD (x::D) f=f x+sD D f:=by simp[sD]
def sL(A B:List jx)(f:jx->Int):sD (A++B) f=sD A f+sD B f:=by simp[sD]
def oT{D:List jx}{f:jx->Int}(h:∀x∈D,f x=0):sD D f=0:=by
 induction D with
 |nil=>rfl
 |cons x D ih=>rw[ik,h x bh,ih λy a=>h y (bj _ a)];rfl
def xW{D:List jx}{f g:jx->Int}(h:∀x∈D,f x=g x):sD D f=sD D g:=by unfold sD;rw[cH h]
def JK(D:List jx)(f g:jx->Int):sD D (λx=>f x+g x)=sD D f+sD D g:=by
 induction D with
 |nil=>rfl
 |cons x D ih=>rw[ik,ik,ik,ih];lia
def IY(D:List jx)(s:Int)(f:jx->Int):sD D (λx=>s*f x)=s*sD D f:=by
 induction D with
 |nil=>simp[sD]
 |cons x D ih=>rw[ik,ik,ih,dA]
def HU{D:List jx}{f:jx->Int}(h:∀x∈D,f x<=0):sD D f<=0:=by
 induction D with
 |nil=>exact Int.le_refl _
 |cons x D ih=>rw[ik];have:=h x bh;have:=ih λy a=>h y (bj _ a);lia
def LH{D:List jx}{f:jx->Int}(h:∀x∈D,f x<=0){x:jx}(b:x∈D)(d:f x<0):sD D f<0:=by obtain⟨A,B,rfl⟩:=d6 b;rw[sL,ik];have:=HU (D:=A) (f:=f) λy a=>h y (by simp[a]);have:=HU (D:=B) (f:=f) λy a=>h y (by simp[a]);lia
def Ew{D:List jx}(b:(D.map (·.1)).Nodup){t:jx}(i:t∈D){f:jx->Int}(h:∀x∈D,x.1≠t.1->f x=0):sD D f=f t:=by obtain⟨A,B,rfl⟩:=d6 i;rw[aZ,bB,dY]at b;obtain⟨j,d,g⟩:=b;rw[bG]at d;rw[sL,ik,oT λx a=>h x (by simp[a]) λe=>g _ (aD.mpr ⟨x,a,rfl⟩) _ bh e,oT λx a=>h x (by simp[a]) λe=>d.1 (e▸aD.mpr ⟨x,a,rfl⟩)];lia
theorem LU{D:List jx}(a:(D.map (·.1)).Nodup)(P:Ky->Bool)(J:Ky->Option Ky):∀E:List jx,sD D (λw=>if P w.1 then sD E (λg=>if J g.1=some w.1 then g.2 else 0) else 0)=sD E (λg=>if (∃w∈D,J g.1=some w.1/\P w.1=true) then g.2 else 0)
 |[]=>oT λw _=>by simp[sD]
 |g::E=>by
  rw[ik,<-LU a P J E];have:sD D (λw=>if P w.1 then sD (g::E) (λg=>if J g.1=some w.1 then g.2 else 0) else 0)=sD D (λw=>(if P w.1=true/\J g.1=some w.1 then g.2 else 0)+(if P w.1 then sD E (λg=>if J g.1=some w.1 then g.2 else 0) else 0)):=xW λw _=>by rw[ik];cases P w.1<;>simp
  rw[this,JK];congr 1;by_cases h:∃w∈D,J g.1=some w.1/\P w.1=true
  .rw[aQ h];obtain⟨w,hw,b,d⟩:=h;rw[Ew a hw λx _ ne=>aR λq=>ne (by rw[b]at q;exact (Option.some.inj q.2).symm),aQ ⟨d,b⟩]
  .rw[aR h];exact oT λw hw=>aR λq=>h ⟨w,hw,q.2,q.1⟩
section
variable {d:Nat}{cs:LL}
structure FO(d:Nat)(cs:LL)(D:List jx):Prop where
 mf:∀x∈D,Mf d cs x.1
 all:∀y,Mf d cs y->∃m,(y,m)∈D
 nd:(D.map (·.1)).Nodup
 first:∀t B,D=t::B->t.2=1
 next:∀A t B,D=A++t::B->A≠[]->t.2 = -sD A (λg=>if qZ g.1 t.1 then g.2 else 0)
 ord:D.Pairwise λx y=>y.1.1<=x.1.1
def FO.after(V:Vz d cs)(i:cs.length<=6){D:List jx}(M:FO d cs D){A B:List jx}{t:jx}(e:D=A++t::B):∀g∈B,¬Ef g.1 t.1:=λg b h=>by have f:=M.nd;have a:=M.ord;rw[e,aZ,bB,dY,bG]at f;rw[e]at a;have o:=(c7.mp (dE.mp a).2.1).1 g b;have ne:g.1≠t.1:=λq=>f.2.1.1 (q▸aD.mpr ⟨g,b,rfl⟩);have:=pj V i (M.mf g (by rw[e];simp[b])) (M.mf t (by rw[e];simp)) h ne;lia
def FO.head(V:Vz d cs)(f:cs.length<=6){D:List jx}(M:FO d cs D){t:jx}(g:t∈D)(b:t.1.2=[]):t.2=1:=by
 obtain⟨A,B,e⟩:=d6 g;cases A with
 |nil=>exact M.first t B e
 |cons h A=>exact absurd (λk a=>by rw[b]at a;cases a) (M.after V f (A:=[]) (t:=h) (B:=A++t::B) e t (by simp))
def FO.sum(V:Vz d cs)(j:cs.length<=6){D:List jx}(M:FO d cs D){t:jx}(p:t∈D)(h:t.1.2≠[]):sD D (λg=>if qZ g.1 t.1 then g.2 else 0)=0:=by
 obtain⟨A,B,e⟩:=d6 p;have l:A≠[]:=λz=>by
  subst z;obtain⟨y,_,i,_,o⟩:=rQ V;obtain⟨m,f⟩:=M.all y o;rw[e]at f;rcases aF.mp f with q|q
  .rw[<-q]at h;exact h i
  .exact M.after V j (A:=[]) e (y,m) q λk b=>by have a:k∈y.2:=b;rw[i]at a;cases a
 have n:=M.next A t B e l;rw[e,sL,ik,oT (D:=B) λg r=>aR λq=>M.after V j e g r (kZ.mp q)];rw[aQ (kZ.mpr λk b=>b),n];lia
def Sj(d:Nat)(cs:LL)(D:List jx)(a:Nat)(t:Ky):Int:=sD D (λg=>if jn d cs g.1 a=some t then g.2 else 0)
theorem Ac(V:Vz d cs)(b:cs.length<=6){D:List jx}(M:FO d cs D){a:Nat}(f:a<cs.length):∀(N:Nat) (t:jx),t∈D->(a:Int)∈t.1.2->(d:Int)-t.1.1<N->Sj d cs D a t.1=0
 |0,t,ht,_,hN=>by obtain⟨ks,_,ok,_,fl,_⟩:=M.mf t ht;have:=(rA V ok fl).2;lia
 |N+1,t,ht,hat,hN=>by
  have j:=M.mf t ht;have n:=LU M.nd (λw=>decide ((a:Int)∈w.2)&&qZ w t.1) (λg=>jn d cs g a) D;have p:sD D (λg=>if (∃w∈D,jn d cs g.1 a=some w.1/\(decide ((a:Int)∈w.1.2)&&qZ w.1 t.1)=true) then g.2 else 0)=sD D (λg=>if qZ g.1 t.1 then g.2 else 0):=xW λg u=>by
   have i:=M.mf g u;by_cases h:Ef g.1 t.1
   .obtain⟨z,o⟩:=wg V b i j h f hat;have J:=rD V b i f o;obtain⟨m,r⟩:=M.all z J.mf;rw[aQ (kZ.mpr h),aQ ⟨(z,m),r,o,by rw[bL];exact⟨aC J.kin,kZ.mpr (J.least t.1 j h hat)⟩⟩]
   .rw[aR λq=>h (kZ.mp q),aR];rintro⟨w,hw,e,q⟩;rw[bL]at q;exact h λk l=>kZ.mp q.2 k ((rD V b i f e).le k l)
  rw[p,M.sum V b ht (λz=>by rw[z]at hat;cases hat)]at n;have s:sD D (λw=>if (decide ((a:Int)∈w.1.2)&&qZ w.1 t.1) then Sj d cs D a w.1 else 0)=Sj d cs D a t.1:=by
   rw[Ew M.nd ht λw hw ne=>?_]
   .rw[aQ (by rw[bL];exact⟨aC hat,kZ.mpr λk l=>l⟩)]
   .by_cases q:(decide ((a:Int)∈w.1.2)&&qZ w.1 t.1)=true
    .rw[aQ q];rw[bL]at q;have:=pj V b (M.mf w hw) j (kZ.mp q.2) ne;exact Ac V b M f N w hw (of_decide_eq_true q.1) (by lia)
    .rw[aR q]
  rw[<-s];exact n
theorem HW(V:Vz d cs)(f:cs.length<=6){t:Ky}(b:Mf d cs t){a:Nat}(r:a<cs.length)(h:(a:Int)∈t.2):∀(K:Nat) (g:Ky),Mf d cs g->Ef g t->(a:Int)∉g.2->g.1<K->∃u,Mf d cs u/\(a:Int)∉u.2/\jn d cs u a=some t
 |0,g,mg,_,_,hK=>by obtain⟨ks,_,ok,_,fl,_⟩:=mg;have:=(rA V ok fl).1;lia
 |K+1,g,mg,hgt,hag,hK=>by
  obtain⟨z,x⟩:=wg V f mg b hgt r h;have J:=rD V f mg r x;by_cases e:z=t
  .exact⟨g,mg,hag,by rw[x,e]⟩
  .have zt:=J.least t b hgt h;have s:∃k:Nat,k<cs.length/\(k:Int)∈t.2/\(k:Int)∉z.2:=by
    refine aO λD=>?_;obtain⟨F,v,p,_⟩:=id b;have B:Ef t z:=λk n=>by rw[v]at n;obtain⟨i,w,rfl⟩:=aD.mp n;exact aO λq=>D ⟨i,p.1 i w,by rw[v];exact fV.mpr w,q⟩
    have E:=pj V f J.mf b zt e;have H:=pj V f b J.mf B (Ne.symm e);lia
   obtain⟨k,n,j,m⟩:=s;obtain⟨y,C⟩:=wg V f mg b hgt n j;have Y:=rD V f mg n C;have o:(k:Int)∉g.2:=λq=>m (J.le _ q);have I:=Y.one o;by_cases l:(a:Int)∈y.2
   .have A:=J.least y Y.mf Y.le l;have L:=J.one hag;have:z=y:=aO λne=>by have:=pj V f J.mf Y.mf A ne;lia
    exact absurd (this▸Y.kin) m
   .exact HW V f b r h K y Y.mf (Y.least t b hgt j) l (by lia)
def sg(d:Nat)(t:Ky):Int:=if ((d:Int)-t.1) % 2=0 then 1 else -1
theorem wO(V:Vz d cs)(h:cs.length<=6){D:List jx}(M:FO d cs D):∀(N:Nat) (t:jx),t∈D->(d:Int)-t.1.1<N->0<sg d t.1*t.2
 |0,t,ht,hN=>by obtain⟨ks,_,ok,_,fl,_⟩:=M.mf t ht;have:=(rA V ok fl).2;lia
 |N+1,t,ht,hN=>by
  have i:=M.mf t ht;obtain⟨U,e0,P,y1,Y⟩:=rQ V;obtain⟨L,K,E,_,j,_⟩:=id i;cases L with
  |nil=>rw[M.head V h ht K];rw[e0]at j;unfold sg;rw[<-Option.some.inj j,y1];simp
  |cons a L=>
   have n:a<cs.length:=E.1 a bh;have b:(a:Int)∈t.1.2:=by rw[K];simp
   have Z:=Ac V h M n (N+1) t ht b hN;have X:jn d cs t.1 a=some t.1:=by obtain⟨z,R⟩:=wg V h i i (λk r=>r) n b;rw[R,(rD V h i n R).same b]
   have neg:∀g∈D,g.1≠t.1->jn d cs g.1 a=some t.1->sg d t.1*g.2<0:=λg S ne e=>by
    have J:=rD V h (M.mf g S) n e;have F:(a:Int)∉g.1.2:=λq=>ne (J.same q).symm;have s:=J.one F;have ih:=wO V h M N g S (by lia);have:sg d t.1 = -sg d g.1:=by
     unfold sg;rw[s];by_cases q:((d:Int)-g.1.1) % 2=0
     .rw[aQ q,aR (by lia)]
     .rw[aR q,aQ (by lia)];rfl
    rw[this,dD];lia
   obtain⟨H,v,p,I⟩:=HW V h i n b (d+1) U Y (λk r=>by rw[P]at r;cases r) (λq=>by rw[P]at q;cases q) (by lia);obtain⟨m',o⟩:=M.all H v;have l:H≠t.1:=λq=>p (q▸b);obtain⟨A,B,e⟩:=d6 ht;have C:=M.nd;rw[e,aZ,bB,dY,bG]at C;have m:∀x∈A++B,x∈D/\x.1≠t.1:=λx u=>by
    rcases ai.mp u with q|q
    .exact⟨by rw[e];simp[q],λz=>C.2.2 _ (aD.mpr ⟨x,q,rfl⟩) _ bh z⟩
    .exact⟨by rw[e];simp[q],λz=>C.2.1.1 (z▸aD.mpr ⟨x,q,rfl⟩)⟩
   have y:∀x∈A++B,sg d t.1*(if jn d cs x.1 a=some t.1 then x.2 else 0)<=0:=λx u=>by
    obtain⟨s,h2⟩:=m x u;split
    .rename_i q;exact Int.le_of_lt (neg x s h2 q)
    .simp
   have f:(H,m')∈A++B:=by
    rw[e]at o;rcases ai.mp o with q|q
    .exact ay _ q
    .rcases aF.mp q with w|w
     .exact absurd (congrArg Prod.fst w) l
     .exact bu _ w
   have lt:=LH y f (by rw[aQ I];exact neg _ (m _ f).1 l I);have Q:sg d t.1*Sj d cs D a t.1=0:=by rw[Z];simp
   unfold Sj at Q;rw[<-IY,e,sL,ik,aQ X]at Q;rw[sL]at lt;lia
end
def Ci i (a:LI):yB false (.int i) (.tup (a.map T.int))=.ok (.bl (decide (i∈a))):=by
 have f:(a.map T.int).all iH=true:=cw.mpr λx b=>by obtain⟨y,-,rfl⟩:=aD.mp b;rfl
 have g:qL (.int i) (a.map T.int)=decide (i∈a):=by
  unfold qL;rw[cq,Bool.eq_iff_iff,dM,decide_eq_true_iff];constructor
  .rintro⟨x,b,e⟩;have d:AS (T.int x) (T.int i)=true:=e;rw[GZ]at d;rw[<-eq_of_beq d];exact b
  .intro h;exact⟨i,h,by show AS (T.int i) (T.int i)=true;simp⟩
 unfold yB;dsimp only;rw[f,g];rfl
def Ar(g t:Ky):qM [.lst (g.2.map λk=>T.bl (decide (k∈t.2)))]=.ok (.bl (qZ g t)):=by have:=pK (g.2.map λk=>decide (k∈t.2));rw[aI,cn]at this;exact this
def FW(t g:Ky)(a:g.2.length<1000):kl c [iP t,iP g]=.ok (.bl (qZ g t)):=by
 have sz:1000<sizeLine:=by decide
 exact gd rfl (fE (pF (ts:=g.2.map λk=>T.bl (decide (k∈t.2))) (iX g.2 T.int (λk=>T.bl (decide (k∈t.2))) rfl (by lia) (λk _=>⟨_,rfl,rfl,eK rfl rfl (Ci k t.2)⟩) rfl) (Ar g t)))
def iN(D:List jx)(t:Ky):List jx:=D++[(t,-sD D (λg=>if qZ g.1 t then g.2 else 0))]
def pR:List Ky->List jx
 |[]=>[]
 |t::r=>r.foldl iN [(t,1)]
theorem m6:∀(r:List Ky) (D:List jx),(r.foldl iN D).map (·.1)=D.map (·.1)++r
 |[],D=>by simp
 |t::r,D=>by rw[List.foldl_cons,m6 r];simp[iN]
def mK(Z:List Ky):(pR Z).map (·.1)=Z:=by
 cases Z with
 |nil=>rfl
 |cons t r=>unfold pR;rw[m6];rfl
def E2(D:List jx):Prop:=(∀t B,D=t::B->t.2=1)/\∀A t B,D=A++t::B->A≠[]->t.2 = -sD A (λg=>if qZ g.1 t.1 then g.2 else 0)
def BU{D:List jx}(h:E2 D)(j:D≠[])(t:Ky):E2 (iN D t):=by
 unfold iN;refine⟨λu B e=>?_,λA u B e i=>?_⟩
 .cases D with
  |nil=>exact absurd rfl j
  |cons x D=>rw[dg]at e;rw[<-(List.cons.inj e).1];exact h.1 x D rfl
 .rcases dP B with rfl|⟨d,b,rfl⟩
  .have a:=List.append_inj' e rfl;have f:(t,-sD D (λg=>if qZ g.1 t then g.2 else 0))=u:=(List.cons.inj a.2).1;rw[<-f,<-a.1]
  .have a:D++[(t,-sD D (λg=>if qZ g.1 t then g.2 else 0))]=(A++u::d)++[b]:=by rw[e];simp
   exact h.2 A u d (List.append_inj' a rfl).1 i
theorem ud:∀(r:List Ky) (D:List jx),E2 D->D≠[]->E2 (r.foldl iN D)
 |[],_,h,_=>h
 |t::r,D,h,hD=>ud r _ (BU h hD t) (by simp[iN])
def w9(Z:List Ky):E2 (pR Z):=by
 cases Z with
 |nil=>exact⟨λt B e=>(nomatch e),λA t B e _=>by simp[pR]at e⟩
 |cons t r=>
  refine ud r _ ⟨λu B e=>?_,λA u B e a=>?_⟩ (by simp)
  .rw[<-(List.cons.inj e).1]
  .cases A with
   |nil=>exact absurd rfl a
   |cons x A=>have:=congrArg List.length e;simp at this
def zh(D:List jx)(p:jx->Bool):((D.filter p).map (·.2)).sum=sD D (λg=>if p g then g.2 else 0):=by
 induction D with
 |nil=>rfl
 |cons x D ih=>rw[ik,<-ih,List.filter_cons];cases p x<;>simp
theorem qY:∀(D:List jx) (R:List Ky),kG ((D.map (·.1)++R).map iP) (D.map λx=>T.int x.2)=D.map λx=>T.tup [iP x.1,.int x.2]
 |[],R=>by simp[kG]
 |x::D,R=>by have:=qY D R;unfold kG at this ⊢;simp only[bB,dg,cC];rw[this]
def pB(l:LI):A6 (l.map T.int)=true:=by
 induction l with
 |nil=>rfl
 |cons x l ih=>simp only[bB,A6,lf,ih];rfl
def EU{f:Int->T}{a:Pe->M T}{ρ:Pe}{i:Int}(h:a ρ=.ok (.int i)):BZ f a ρ=.ok (f i):=by unfold BZ;rw[h];rfl
def ot(D:List jx):List T:=D.map λx=>T.int x.2
def wR(D:List jx)(t:Ky):ot (iN D t)=ot D++[.int (-((D.filter λx=>qZ x.1 t).map (·.2)).sum)]:=by unfold ot iN;rw[zh];simp
def G3(a:Ky)(r:List Ky)(A:r.length<100)(s:∀g∈a::r,g.2.length<1000):gw c [.lst ((a::r).map iP)]=.ok (ot (pR (a::r))):=by
 have sz:1000<sizeLine:=by decide
 let R (D:List jx) (f b:Oq W):En:=[some (.p (.lst ((a::r).map iP))),some (.o (ot D)),f,b];obtain⟨h,e,f,b,rfl⟩:=i8 (m:=km 2) (g:=j6 c) iP (λk h=>∃f b,h=R ((r.take k).foldl iN [(a,1)]) f b) r 0 (R [(a,1)] none none) ⟨none,none,rfl⟩ (by
  rintro i t h u ⟨f,b,rfl⟩;rw[aG]at *;let D:=(r.take i).foldl iN [(a,1)];have j:D.map (·.1)=a::r.take i:=by show ((r.take i).foldl iN [(a,1)]).map (·.1)=_;rw[m6];rfl
  have z:D.length<=r.length+1:=by have:=congrArg List.length j;rw[ax,az,bI]at this;lia
  have l:(a::r)=D.map (·.1)++r.drop i:=by rw[j,dg,dN]
  have q:lG (ee (ei 0) (ee (ei 1) eC)) (vw (R D (some (.p (iP t))) b))=.ok (D.map λx=>T.tup [iP x.1,.int x.2]):=by have y:lG (ee (ei 0) (ee (ei 1) eC)) (vw (R D (some (.p (iP t))) b))=.ok (kG ((a::r).map iP) (ot D)):=rfl;rw[y];congr 1;rw[l];exact qY D _
  have v:iR [none,none,some 2] (lG (ee (ei 0) (ee (ei 1) eC))) (mW 2 (f9 (iC 0) (f9 (iC 1) mX))) (gG (eQ (ee (ei 2) (ee (ei 0) eC)) (kl c))) (j5 c) (vw (R D (some (.p (iP t))) b))=.ok (((D.filter λx=>qZ x.1 t).map (·.2)).map T.int):=mY D (λx=>T.tup [iP x.1,.int x.2]) (λx=>T.int x.2) (λx=>qZ x.1 t) q (by lia) (λx n=>⟨[some (iP x.1),some (.int x.2),some (iP t)],rfl,fG (l9 rfl rfl (FW t x.1 (s _ (by rw[l];exact ay _ (aD.mpr ⟨x,n,rfl⟩))))),λ_=>rfl⟩) (by rw[aI];rfl)
  have w:(r.take (i+1)).foldl iN [(a,1)]=iN D t:=by rw[cF,u];simp[D]
  refine⟨_,_,rfl,.inl (eI (zw v (pB _) rfl) (n6 (us:=ot D) (t:=.int (-((D.filter λx=>qZ x.1 t).map (·.2)).sum)) rfl ?_ (by unfold ot;rw[ax];lia) rfl)),some (.p (iP t)),some (.p (.lst (((D.filter λx=>qZ x.1 t).map (·.2)).map T.int))),?_⟩
  .exact EU (lh rfl (C0 _))
  .rw[w];show _=[_,some (W.o (ot (iN D t))),_,_];rw[wR];rfl)
 rw[aG,dF]at e;refine rh rfl (eI (ρ':=R [(a,1)] none none) (l5 rfl rfl) (eI (lr (its:=r.map iP) ?_ e) rfl));rw[sh (pW (ts:=(a::r).map iP) (d:=1) rfl rfl)];rfl
def y9(a:Ky)(r:List Ky)(B:r.length<100)(u:∀g∈a::r,g.2.length<1000):gJ c [.lst ((a::r).map iP)]=.ok (ot (pR (a::r))):=by
 have sz:1000<sizeLine:=by decide
 let R (D:List jx) (f h b:Oq W):En:=[some (.p (.lst ((a::r).map iP))),some (.o (ot D)),f,h,b];obtain⟨j,e,f,h,b,rfl⟩:=i8 (m:=j8 2 (fH (km 2) (fH (km 3) j7))) (g:=lJ c) iP (λk j=>∃f h b,j=R ((r.take k).foldl iN [(a,1)]) f h b) r 0 (R [(a,1)] none none none) ⟨none,none,none,rfl⟩ (by
  rintro i t j v ⟨f,h,b,rfl⟩;rw[aG]at *;let D:=(r.take i).foldl iN [(a,1)];have l:D.map (·.1)=a::r.take i:=by show ((r.take i).foldl iN [(a,1)]).map (·.1)=_;rw[m6];rfl
  have A:D.length<=r.length+1:=by have:=congrArg List.length l;rw[ax,az,bI]at this;lia
  have n:(a::r)=D.map (·.1)++r.drop i:=by rw[l,dg,dN]
  have s:lG (ee (ei 0) (ee (ei 1) eC)) (vw (R D (some (.p (.int t.1))) (some (.p (.tup (t.2.map T.int)))) b))=.ok (D.map λx=>T.tup [iP x.1,.int x.2]):=by have z:lG (ee (ei 0) (ee (ei 1) eC)) (vw (R D (some (.p (.int t.1))) (some (.p (.tup (t.2.map T.int)))) b))=.ok (kG ((a::r).map iP) (ot D)):=rfl;rw[z];congr 1;rw[n];exact qY D _
  have w:iR [none,none,some 3] (lG (ee (ei 0) (ee (ei 1) eC))) (mW 2 (f9 (iC 0) (f9 (iC 1) mX))) (gG (jq qM (ee (hW (iR [none,some 2] (gI (eP il (ei 0) (cM (.int 1)))) (iC 0) (λ_=>.ok true) (lR c))) eC))) (lM c) (vw (R D (some (.p (.int t.1))) (some (.p (.tup (t.2.map T.int)))) b))=.ok (((D.filter λx=>qZ x.1 t).map (·.2)).map T.int):=mY D (λx=>T.tup [iP x.1,.int x.2]) (λx=>T.int x.2) (λx=>qZ x.1 t) s (by lia) (λx q=>⟨[some (iP x.1),some (.int x.2),some (.tup (t.2.map T.int))],rfl,fG (pF (ts:=x.1.2.map λk=>T.bl (decide (k∈t.2))) (iX x.1.2 T.int (λk=>T.bl (decide (k∈t.2))) rfl (by have:=u x.1 (by rw[n];exact ay _ (aD.mpr ⟨x,q,rfl⟩));lia) (λk _=>⟨_,rfl,rfl,eK rfl rfl (Ci k t.2)⟩) rfl) (Ar x.1 t)),λ_=>rfl⟩) (by rw[aI];rfl)
  have y:(r.take (i+1)).foldl iN [(a,1)]=iN D t:=by rw[cF,v];simp[D]
  refine⟨_,_,rfl,.inl (eI (zw w (pB _) rfl) (n6 (us:=ot D) (t:=.int (-((D.filter λx=>qZ x.1 t).map (·.2)).sum)) rfl ?_ (by unfold ot;rw[ax];lia) rfl)),some (.p (.int t.1)),some (.p (.tup (t.2.map T.int))),some (.p (.lst (((D.filter λx=>qZ x.1 t).map (·.2)).map T.int))),?_⟩
  .exact EU (lh rfl (C0 _))
  .rw[y];show _=[_,some (W.o (ot (iN D t))),_,_,_];rw[wR];rfl)
 rw[aG,dF]at e;refine rh rfl (eI (ρ':=R [(a,1)] none none none) (l5 rfl rfl) (eI (lr (its:=r.map iP) ?_ e) rfl));rw[sh (pW (ts:=(a::r).map iP) (d:=1) rfl rfl)];rfl
section
variable {d:Nat}{cs:LL}
def GM{a b:Ky}(h:tH a b=true):b.1<=a.1:=by
 unfold tH qT ky at h;by_cases e:a.1=b.1
 .lia
 .rw[aR (by simp;lia)]at h;simp at h;lia
def EZ{Z:List Ky}{x:jx}(h:x∈pR Z):x.1∈Z:=by rw[<-mK Z];exact aD.mpr ⟨x,h,rfl⟩
def JU(V:Vz d cs)(u:cs.length<=6){l:List Ky}(j:om d cs cs.length l):FO d cs (pR (gE l)):=by
 have n:(gE l).Perm l:=c9 l tH;refine⟨λx f=>?_,λy t=>?_,?_,(w9 _).1,(w9 _).2,?_⟩
 .obtain⟨p,e⟩:=(j.2 x.1).mp (n.mem_iff.mp (EZ f));exact Eo V (lT (by lia) (aK _) p) e
 .obtain⟨g,_,ok,_,s,_⟩:=t;have:y∈(pR (gE l)).map (·.1):=by
   rw[mK];refine n.mem_iff.mpr ((j.2 y).mpr ⟨λk=>decide (k∈g),?_⟩);rw[<-s];refine nq V (lT (by lia) (aK _) _) ok λv=>?_;have m:∀z,z∈iK cs.length (λk=>decide (k∈g))↔z∈g:=λz=>by unfold iK;rw[aU,aS,decide_eq_true_iff];exact⟨λh=>h.2,λh=>⟨ok.1 z h,h⟩⟩
   unfold uN;constructor
   .intro h r i;obtain⟨z,o,e⟩:=eL.mp i;exact h r (eL.mpr ⟨z,(m z).mpr o,e⟩)
   .intro h r i;obtain⟨z,o,e⟩:=eL.mp i;exact h r (eL.mpr ⟨z,(m z).mp o,e⟩)
  obtain⟨x,f,e⟩:=aD.mp this;exact⟨x.2,by rw[<-e];exact f⟩
 .rw[mK];exact n.symm.nodup j.1
 .have h:=dc yZ u0 l;have q:(gE l).Pairwise λa b=>b.1<=a.1:=h.imp GM;rw[<-mK (gE l),cI]at q;exact q
def FQ(V:Vz d cs)(a:cs.length<=6){l:List Ky}(e:om d cs cs.length l){x:jx}(b:x∈pR (gE l)):x.2≠0/\(decide (0<x.2)=decide (((d:Int)-x.1.1) % 2=0)):=by
 have:=wO V a (JU V a e) (((d:Int)-x.1.1).toNat+1) x b (by lia);unfold sg at this;split at this
 .rename_i h;rw[aC h];exact⟨by lia,aC (by lia)⟩
 .rename_i h;rw[aB h];exact⟨by lia,aB (by lia)⟩
def Em(D:List jx):kG ((D.map (·.1)).map iP) (ot D)=D.map λx=>T.tup [iP x.1,.int x.2]:=by have:=qY D [];rw[bE]at this;exact this
def FH(D:List jx):(ot D).length=D.length:=by unfold ot;rw[ax]
end
def IF(D:List jx):fC true (.lst (ot D)) (.lst (ot D))=.ok (.bl false):=by
 have:ot D=(D.map (·.2)).map T.int:=by unfold ot;rw[aI];rfl
 rw[this];have:=EH true (D.map (·.2)) (D.map (·.2));rw[this];simp
def Lc(b:Bool):fC true (.bl b) (.bl b)=.ok (.bl false):=by cases b<;>rfl
def EL{d:Nat}{b:LL}(V:Vz d b)(n:b.length<=6):∃l,om d b b.length l/\iA c [oJ c d b]=.ok (ot (pR (gE l)))/\i6 c [.int d,.lst (b.map tI)]=.ok ((gE l).map iP)/\gJ c [.lst ((gE l).map iP)]=.ok (ot (pR (gE l))):=by
 obtain⟨l,h,q⟩:=El (c:=c) V n;obtain⟨m,v,j⟩:=vI (c:=c) V n;rw[<-yI (AJ h v)]at j;have k:(gE l).Perm l:=c9 l tH;have a:∀g∈gE l,g.2.length<1000:=λg w=>by obtain⟨p,e⟩:=(h.2 g).mp (k.mem_iff.mp w);obtain⟨x,u,_,z,_⟩:=lU V (lT (by lia) (aK _) p) e;rw[u,ax];lia
 have f:(gE l).length<64:=by rw[k.length_eq];exact qR V n h
 obtain⟨y,s,_⟩:=rQ V;have o:y∈gE l:=k.mem_iff.mpr ((h.2 y).mpr ⟨λ_=>false,by
  have:iK b.length (λ_=>false)=[]:=List.filter_eq_nil_iff.mpr λ_ _=>by simp
  rw[this];exact s⟩)
 cases i:gE l with
 |nil=>rw[i]at o;cases o
 |cons t r=>
  rw[i]at a f q j;rw[az]at f;refine⟨l,h,?_,?_,?_⟩
  .rw[i];exact rh rfl (uO (vP (gB (vP rfl q)) (G3 t r (by lia) a)))
  .rw[i];exact j
  .rw[i];exact y9 t r (by lia) a
def AN ns:oV c [.scr ns]=.ok (.bl true):=by
 have sz:1000<sizeLine:=by decide
 let h:Nat×LL->T:=λx=>.tup [.int (x.1:Int),.lst (x.2.map tI)];obtain⟨X,C⟩:=qm (P:=λ(k:Nat) (x:Nat×LL)=>(∃a,gh c [.scr ns,.int (k:Int)]=.ok (.int a)/\ib c [.int a,.int 6]=.ok (h x))/\Vz x.1 x.2/\x.2.length<=6) [0,1] λk _=>by obtain⟨a,v,-⟩:=ze (c:=c) ns k;obtain⟨d,cs,z,hd,H,U⟩:=yl (c:=c) a 6 (by decide);exact⟨(d,cs),⟨a,v,z⟩,⟨hd,H⟩,U⟩
 let R (s u r n f b:Oq W):En:=[some (.p (.scr ns)),some (.p (.lst ([0,1].map λk=>h (X k)))),s,u,r,n,f,b];obtain⟨q,e,y2,y3,y4,y5,y6,y7,rfl⟩:=pQ (m:=j8 2 (fH (km 2) (fH (km 3) j7))) (g:=t9 c) (λ(k:Nat)=>h (X k)) (λq=>∃s u r n f b,q=R s u r n f b) [0,1,0] (R none none none none none none) ⟨_,_,_,_,_,_,rfl⟩ (by
  rintro k B q ⟨s,u,r,n,f,b,rfl⟩;obtain⟨-,V,w⟩:=C k (by simp at B ⊢;lia);have Y:=GH (c:=c) (X k).1 30 (X k).2 V.hd (by decide) V.hg;obtain⟨l,F,A,L,e5⟩:=EL (c:=c) V w;let D:=pR (gE l);have pm:(gE l).Perm l:=c9 l tH;have E:D.map (·.1)=gE l:=mK _;have Z:D.length<64:=by have:=congrArg List.length E;rw[ax,pm.length_eq]at this;rw[this];exact qR V w F
  let i (r n f b:Oq W):En:=R (some (.p (.int ((X k).1:Int)))) (some (.p (.lst ((X k).2.map tI)))) r n f b;let o4:Oq W:=some (.o (ot D));let j:Oq W:=some (.p (.lst ((gE l).map iP)));have e3:iR [none] (gI (ei 4)) (iC 0) (λ_=>.ok true) (uC c) (vw (i o4 j f b))=.ok (D.map λ_=>T.bl true):=iX D (λx=>T.int x.2) (λ_=>T.bl true) rfl (by lia) (λg H=>⟨_,rfl,rfl,qs rfl rfl⟩) rfl
  have N:qM [.lst (D.map λ_=>T.bl true)]=.ok (.bl true):=by have:=pK (D.map λ_=>true);rw[aI]at this;refine this.trans ?_;simp
  obtain⟨q,e6,z6,z7,rfl⟩:=pQ (m:=j8 2 (fH (km 6) (fH (km 7) j7))) (g:=qg c) (λ(x:jx)=>T.tup [iP x.1,.int x.2]) (λq=>∃f b,q=i none j f b) D (i none j f b) ⟨_,_,rfl⟩ (by
   rintro x K q ⟨w6,w7,rfl⟩;obtain⟨s1,s2⟩:=FQ V w F K;have J:gG (eP (fC false) (ei 7) (cM (.int 0))) (vw (i none j (some (.p (iP x.1))) (some (.p (.int x.2)))))=.ok false:=by refine fG (eK (x:=.int x.2) (y:=.int 0) rfl rfl ?_);rw[fS];simp[s1]
   have Q:gG (eP (fC true) (eP Ik (ei 7) (cM (.int 0))) (eP (fC false) (eP qk (eP tF (ei 2) (eP il (ei 6) (cM (.int 0)))) (cM (.int 2))) (cM (.int 0)))) (vw (i none j (some (.p (iP x.1))) (some (.p (.int x.2)))))=.ok false:=by
    refine fG (eK (x:=.bl (decide (0<x.2))) (y:=.bl (decide ((((X k).1:Int)-x.1.1) % 2=0))) rfl (eK (x:=.int ((((X k).1:Int)-x.1.1) % 2)) (y:=.int 0) (eK (x:=.int (((X k).1:Int)-x.1.1)) (y:=.int 2) rfl rfl ?_) rfl ?_) ?_)
    .rw[nj (by decide),Int.fmod_eq_emod_of_nonneg _ (by decide)]
    .rw[fS];congr 2
    .rw[s2];exact Lc _
   exact⟨i none j (some (.p (iP x.1))) (some (.p (.int x.2))),_,rfl,.inl (g9 (Ia J Q) rfl),_,_,rfl⟩)
  have S:wc (ei 5) 4 (j8 2 (fH (km 6) (fH (km 7) j7))) (qg c) (i o4 j f b)=.nx (i o4 j z6 z7):=by
   have I:kG ((gE l).map iP) (ot D)=D.map λx=>T.tup [iP x.1,.int x.2]:=by rw[<-E];exact Em D
   show rJ 4 (ot D) (f6 _ _ (kG ((gE l).map iP) (ot D)) (i none j f b))=_;rw[I,e6];rfl
  exact⟨_,_,rfl,.inl (eI (ρ':=i o4 n f b) (l5 (vP (l9 rfl (gB (ts:=(X k).2.map tI) rfl) Y) A) rfl) (eI (ρ':=i o4 j f b) (fv (gB (IQ rfl rfl L)) rfl) (eI (g9 (Ia rfl (fG (eK (x:=.lst (ot D)) rfl (gB (vP rfl e5)) (IF D)))) rfl) (eI (g9 (sj (fG (pF e3 N)) rfl) rfl) (eI S (n6 (us:=ot D) (t:=.int 0) rfl rfl (by rw[FH];lia) rfl)))))),_,_,_,_,_,_,rfl⟩)
 have A:iR [none,some 0] (iG (ee (cM (.int 2)) eC)) (iC 0) (λ_=>.ok true) (ub c) (jW (fQ 8 [.scr ns]))=.ok ([0,1].map λk=>h (X k)):=iX [0,1] (λ(k:Nat)=>T.int (k:Int)) (λk=>h (X k)) (l0 2 (by decide) rfl) (by decide) (λk B=>by obtain⟨⟨a,v,z⟩,-⟩:=C k B;exact⟨_,rfl,rfl,l9 (l9 rfl rfl v) rfl z⟩) rfl
 exact gd rfl (eI (ρ':=R none none none none none none) (fv (gB A) rfl) (eI (lr rfl e) (fE rfl)))
end CL
namespace K43
open PySem L2 L3 CL
def ip(i:Nat):Stmt:=PySem.Challenge.pw_cutlands_k43_numbers_of_flats.main.body.getD i (.Pass ⟨0,0,0,0⟩)
structure Er(c:Cs)(K:W.Frag)(mg:Str->Option Value):Prop where
 here:True
 cl_Cutting:uj K c.Cutting
 na_Cutting_own_cuts:jb K c.Cutting "own_cuts"
 na_Cutting_own_dims:jb K c.Cutting "own_dims"
 mk_Cutting:W.makesIn K c.Cutting=true
 kp_Cutting:W.keepIn K (.ref c.Cutting)=true
 mg_Cutting:mg "Cutting" = some (.ref c.Cutting)
 k_MOST_CUTS:∃t,mg "MOST_CUTS" = some (.int 7 t)
 k_MOST_DIMS:∃t,mg "MOST_DIMS" = some (.int 3 t)
def LC{K:W.Frag}{h:Heap}{mg:Str->Option Value}{aCutting:Addr}{tMOST_CUTS tMOST_DIMS:_}(X:K.In h)(G:h.Ns mainGlobals mg)(e:W.nsIn K mainGlobals "Cutting" = some (some (.ref aCutting)))(a:W.plainGet K aCutting Str.empty=true)(b:W.hasDictIn K aCutting=true)(g:W.plainOver K aCutting=true)(f:W.findIn K (.ref aCutting) "__setattr__" = some (some (.builtin "object.__setattr__")))(own_cuts:W.findIn K (.ref aCutting) "own_cuts" = some none)(own_dims:W.findIn K (.ref aCutting) "own_dims" = some none)(c:W.makesIn K aCutting=true)(d:W.keepIn K (.ref aCutting)=true)(uMOST_CUTS:W.nsIn K mainGlobals "MOST_CUTS" = some (some (.int 7 tMOST_CUTS)))(uMOST_DIMS:W.nsIn K mainGlobals "MOST_DIMS" = some (some (.int 3 tMOST_DIMS))):Er ⟨aCutting,0,0,0,0,0,0,0,0,0,0,0,0⟩ K mg:=⟨trivial,⟨a,b,g,f⟩,own_cuts,own_dims,c,d,W.mg_of X G e,⟨_,W.mg_of X G uMOST_CUTS⟩,⟨_,W.mg_of X G uMOST_DIMS⟩⟩
def Ll{K:W.Frag}{a g:Addr}{m q:Str}{st:Stmt}{j kV d o b f:Vq}{h p:Oq Addr}{c:Array (Option Value)}(i:W.findIn K (.ref a) m=some (some (.ref g)))(k:W.isFn K (.ref g)=true)(l:K.lookup g=some ⟨j,h,.func (W.fnOf m q (gK st) (fw st) (eG st) .none kV d o p b f),c⟩)(n:W.codeIn K b q=true)(e:W.keepIn K (.ref g)=true):jr K a m q st:=⟨_,_,yn l n e,i,k,e⟩
section
variable {P:Program}{w:World}{K:W.Frag}{mg:Str->Option Value}{base:Heap}{c:Cs}(Z:Zx P w K mg base)(B:Bs mg)(ER:Er c K mg)
include Z B ER
theorem o0(D:eU K mg "is_whole" (ip 5)):CP Z "is_whole" 1 (iz c):=kq Z 0 (iz c) ["thing"] ["thing"] rfl D λnd hX hr=>⟨_,(eE (eS (yz (n9 "int" (by decide) B.isinstance B.int CU (d8 0)) (yT (yR (n9 "bool" (by decide) B.isinstance B.bool Ag (d8 0)))))))⟩
theorem o1(D:eU K mg "sign_of" (ip 6)):CP Z "sign_of" 1 (lH c):=kq Z 0 (lH c) ["number"] ["number"] rfl D λnd hX hr=>⟨_,(eB (f7 (kY CS DI (d8 0) eF) (eE (eS eF)) fB)
  (eB (f7 (kY Ii Ip (d8 0) eF) (eE (eS (sS eF))) fB)
  (eE (eS eF))))⟩
theorem o2(D:eU K mg "common_divisor" (ip 7)):CP Z "common_divisor" 1 (gj c):=kq Z 0 (gj c) ["one","other","rest"] ["one","other"] rfl D λnd hX hr=>⟨_,(eB (Ei (λρ=>match ρ with|_::some (.p (.int j))::_=>j.natAbs+1|_=>0) PassesOwn.never (lp hr (d8 1) eF) (eB (eW 2 nd (mO (d8 0) (d8 1)))
  (eB (eW 0 nd (d8 1))
  (eE (eW 1 nd (d8 2))))))
  (eE (eS (fq xi Dz (by rfl) B.abs Dt (d9 (d8 0) eA)))))⟩
theorem o3(D:eU K mg "lies_in" (ip 17)):CP Z "lies_in" 1 (kl c):=kq Z 0 (kl c) ["flat","other"] ["flat","other"] rfl D λnd hX hr=>⟨_,(eE (eS (fq (lQ (K:=K) rfl) rN (by rfl) B.all sq (d9 (fL (ij ["k","flat"] [none,some 0] hX (fR (fW (d8 1) eF)) (λnd hX=>⟨(fY 0 nd),fJ,(rV (Du (K:=K)) (HX false) (d8 0) (fW (d8 1) eF) (by rfl))⟩))) eA))))⟩
theorem o4(D:eU K mg "first_place" (ip 25)):CP Z "first_place" 1 (iL c):=kq Z 0 (iL c) ["cut","place"] ["cut"] rfl D λnd hX hr=>⟨_,(eB (eW 1 nd eF)
  (eB (Ei (λρ=>match ρ with|some (.p (.tup ts))::_=>ts.length+1|_=>0) PassesOwn.never (jG hr (fW (d8 0) (d8 1)) eF) (eE (eW 1 nd (gP (d8 1) eF))))
  (eE (eS (d8 1)))))⟩
theorem o5(D:jr K c.Cutting "dims" "Cutting.dims" (m9 (ip 29) 1)):jZ P w K mg base c.Cutting "dims" 1 (vt K (gW c)):=LM Z 0 (gW c) ["self"] ["self"] rfl ER.cl_Cutting D λnd hX hr=>⟨_,(eE (eS (B6 rfl ER.cl_Cutting ER.na_Cutting_own_dims (d8 0))))⟩
theorem o6(D:jr K c.Cutting "cuts" "Cutting.cuts" (m9 (ip 29) 2)):jZ P w K mg base c.Cutting "cuts" 1 (xY K (gY c)):=IZ Z 0 (gY c) ["self"] ["self"] rfl ER.cl_Cutting D λnd hX hr=>⟨_,(eE (sW (nu (l6 (K:=K)) px (by rfl) B.list nh (d9 (B6 rfl ER.cl_Cutting ER.na_Cutting_own_cuts (d8 0)) eA))))⟩
theorem o7(D:eU K mg "_law_cell_at" (ip 31)):CP Z "_law_cell_at" 1 (gh c):=kq Z 0 (gh c) ["_law_script","_law_k"] ["_law_script","_law_k"] rfl D λnd hX hr=>⟨_,(eB (f7 (kY Ii Ip (d8 1) (fq (fZ (K:=K)) jo (by rfl) B.len jl (d9 (d8 0) eA))) (eE (eS (fW (d8 0) (d8 1)))) fB)
  (eE (eS eF)))⟩
theorem o8(D:eU K mg "_law_draw" (ip 32)):CP Z "_law_draw" 1 (fj c):=kq Z 0 (fj c) ["_law_cell","_law_k","_law_bound","_law_left","_law_j","_law_stir"] ["_law_cell","_law_k","_law_bound"] rfl D λnd hX hr=>⟨_,(eB (f7 (kY Ic Ir (d8 0) (Ke eF eF)) (eB (eW 3 nd (d8 0))
  (eB (oy PassesOwn.never rfl (iO B.range (d9 (d8 1) eA)) (hV 4 nd) (eE (eW 3 nd (vU (d8 3) (d8 2)))))
  (eE (eS (mO (d8 3) (d8 2)))))) fB)
  (eB (eW 5 nd (mO (iu (gP (gP (mO (d8 0) eF) (iu eF (d8 1))) eF) eF) eF))
  (eB (eW 5 nd (mO (gP (gP (iu (d8 5) (d8 5)) (iu eF (d8 1))) eF) eF))
  (eE (eS (mO (vU (mO (iu (d8 5) eF) eF) eF) (d8 2)))))))⟩
theorem o9(D:eU K mg "_law_whole" (ip 33)):CP Z "_law_whole" 1 (kU c):=kq Z 0 (kU c) ["_law_found"] ["_law_found"] rfl D λnd hX hr=>⟨_,(eE (eS (yz (n9 "int" (by decide) B.isinstance B.int CU (d8 0)) (yT (yR (n9 "bool" (by decide) B.isinstance B.bool Ag (d8 0)))))))⟩
theorem Nz(D:eU K mg "_law_same" (ip 34)):CP Z "_law_same" 1 (iU c):=kq Z 0 (iU c) ["_law_one","_law_other","_law_k","_law_j"] ["_law_one","_law_other"] rfl D λa d b=>⟨_,(eB (oy PassesOwn.never rfl (iO B.range (d9 (fq (fZ (K:=K)) jo (by rfl) B.len jl (d9 (d8 0) eA)) eA)) (hV 2 a) (eE (oy PassesOwn.never rfl (iO B.range (d9 (d8 2) eA)) (hV 3 a) (eE (f7 (lp b (iu (fW (d8 0) (d8 2)) (fW (d8 1) (d8 3))) (iu (fW (d8 0) (d8 3)) (fW (d8 1) (d8 2)))) (eE (eS pL)) fB)))))
  (eE (eS pL)))⟩
theorem NQ(D:eU K mg "_law_rank" (ip 37)):CP Z "_law_rank" 1 (fU c):=kq Z 0 (fU c) ["_law_rows","_law_ahead","_law_row","_law_here","_law_at","_law_other","_law_by","_law_left"] ["_law_rows"] rfl D λa b d=>⟨_,(eB (kv 1 a (iB eA))
  (eB (kW PassesOwn.never rfl (fR (d8 0)) (hV 2 a) (eB (eW 3 a (fL (nu (l6 (K:=K)) px (by rfl) B.list nh (d9 (d8 2) eA))))
  (eB (Ce 1 (pv 1) PassesOwn.never rfl (sE 2 rfl (ie (hV 4 a) (ie (hV 5 a) mP))) (eB (eW 6 a (fW (d8 3) (d8 4)))
  (eE (eW 3 a (fL (ij ["_law_one","_law_two","_law_by","_law_other","_law_at"] [none,none,some 6,some 5,some 4] b (nt B.zip (d9 (d8 3) (d9 (d8 5) eA))) (λa b=>⟨(my 2 rfl (fM (fY 0 a) (fM (fY 1 a) jN))),fJ,(pY (iu (fW (d8 3) (d8 4)) (d8 0)) (iu (d8 2) (d8 1)))⟩)))))))
  (eB (lZ ["_law_k","_law_here"] [none,some 3] 7 a b (oE.pim (iO B.range (d9 (fq (fZ (K:=K)) jo (by rfl) B.len jl (d9 (d8 3) eA)) eA))) (λa b=>⟨(fY 0 a),(jR (lp d (fW (d8 1) (d8 0)) eF)),(d8 0)⟩) mC)
  (eE (f7 (lp d (d8 7) (fL (iB eA))) (eE (kL 1 (pv 1) (m4 (d9 (fW (d8 7) eF) (d9 (d8 3) eA))))) fB))))))
  (eE (eS (fq (fZ (K:=K)) jo (by rfl) B.len jl (d9 (d8 1) eA))))))⟩
theorem NI(D:eU K mg "_law_numbers" (ip 40)):CF Z "_law_numbers" 1 (gJ c):=zG Z 0 (gJ c) ["_law_some","_law_numbers_here","_law_wide","_law_inside","_law_ahead"] ["_law_some"] rfl D λa b d=>⟨_,(eB (kv 1 a (iB (d9 eF eA)))
  (eB (kW PassesOwn.never rfl (fR (jT (d8 0) (mN eF) mR)) (sE 2 rfl (ie (hV 2 a) (ie (hV 3 a) mP))) (eB (lZ ["_law_flat_here","_law_number","_law_inside"] [none,none,some 3] 4 a b (nt B.zip (d9 (d8 0) (d9 (d8 1) eA))) (λa b=>⟨(my 2 rfl (fM (fY 0 a) (fM (fY 1 a) jN))),(jR (lS (fq (lQ (K:=K) rfl) rN (by rfl) B.all sq (d9 (fL (ij ["_law_k","_law_inside"] [none,some 2] b (fR (fW (d8 0) eF)) (λa b=>⟨(fY 0 a),fJ,(rV (Du (K:=K)) (HX false) (d8 0) (d8 1) (by rfl))⟩))) eA)))),(d8 1)⟩) wu)
  (eE (kL 1 (pv 1) (sS (fq (t7 (K:=K) rfl) Dx (by rfl) B.sum Ee (d9 (d8 4) eA)))))))
  (eE (wo 1 (pv 1)))))⟩
theorem NL(D:eU K mg "lowest" (ip 8))(e:CP Z "common_divisor" 1 (gj c)):CP Z "lowest" 2 (mx c):=kq Z 1 (mx c) ["row","divisor","number"] ["row"] rfl D λa d b=>⟨_,(eB (eW 1 a eF)
  (eB (kW PassesOwn.never rfl (fR (d8 0)) (hV 2 a) (eB (eW 1 a (eX e b (d9 (d8 1) (d9 (d8 2) eA))))
  (eE (f7 (jG b (d8 1) eF) (eE (eS (d8 0))) fB))))
  (eB (f7 (jG b (d8 1) eF) (eE (eS (d8 0))) fB)
  (eE (eS (jB (iw (K:=K)) jF (by rfl) B.tuple jS (d9 (fL (ij ["number","divisor"] [none,some 1] d (fR (d8 0)) (λa d=>⟨(fY 0 a),fJ,(vU (d8 0) (d8 1))⟩))) eA)))))))⟩
theorem Nv(D:eU K mg "numbers_in_order" (ip 18))(d:CP Z "lies_in" 1 (kl c)):CF Z "numbers_in_order" 2 (gw c):=zG Z 1 (gw c) ["told","numbers","flat","around"] ["told"] rfl D λa b e=>⟨_,(eB (kv 1 a (iB (d9 eF eA)))
  (eB (kW PassesOwn.never rfl (fR (jT (d8 0) (mN eF) mR)) (hV 2 a) (eB (lZ ["other","number","flat"] [none,none,some 2] 3 a b (nt B.zip (d9 (d8 0) (d9 (d8 1) eA))) (λa b=>⟨(my 2 rfl (fM (fY 0 a) (fM (fY 1 a) jN))),(jR (lS (eX d e (d9 (d8 2) (d9 (d8 0) eA))))),(d8 1)⟩) wu)
  (eE (kL 1 (pv 1) (sS (fq (t7 (K:=K) rfl) Dx (by rfl) B.sum Ee (d9 (d8 3) eA)))))))
  (eE (wo 1 (pv 1)))))⟩
theorem Nx(D:eU K mg "is_dims" (ip 23))(a:CP Z "is_whole" 1 (iz c)):CP Z "is_dims" 2 (kj c):=kq Z 1 (kj c) ["thing"] ["thing"] rfl D λd e b=>⟨_,(eE (eS (yz (eX a b (d9 (d8 0) eA)) (yT (Cy HS Ih HS Ih eF (d8 0) (wW 3 ER.k_MOST_DIMS))))))⟩
theorem NV(D:eU K mg "is_cut" (ip 24))(e:CP Z "is_whole" 1 (iz c)):CP Z "is_cut" 2 (lz c):=kq Z 1 (lz c) ["dims","thing"] ["dims","thing"] rfl D λa b d=>⟨_,(eB (f7 (zb (sv (kg (lS (n9 "tuple" (by decide) B.isinstance B.tuple jS (d8 1)))) (oI (lp d (fq (fZ (K:=K)) jo (by rfl) B.len jl (d9 (d8 1) eA)) (gP (d8 0) eF))))) (eE (eS pL)) fB)
  (eB (f7 (kg (lS (fq (lQ (K:=K) rfl) rN (by rfl) B.all sq (d9 (fL (ij ["number"] [none] b (fR (d8 1)) (λa b=>⟨(fY 0 a),fJ,(eX e d (d9 (d8 0) eA))⟩))) eA)))) (eE (eS pL)) fB)
  (eE (eS (fq (lx (K:=K) rfl) rC (by rfl) B.any sA (d9 (fL (ij ["number"] [none] b (fR (jT (d8 1) mR (mN (d8 0)))) (λa b=>⟨(fY 0 a),fJ,(Lz d (d8 0) eF)⟩))) eA))))))⟩
theorem NJ(D:eU K mg "same_spots" (ip 26))(e:CP Z "first_place" 1 (iL c)):CP Z "same_spots" 2 (jw c):=kq Z 1 (jw c) ["one","other","place"] ["one","other"] rfl D λa b d=>⟨_,(eB (eW 2 a (eX e d (d9 (d8 0) eA)))
  (eE (eS (fq (lQ (K:=K) rfl) rN (by rfl) B.all sq (d9 (fL (ij ["mine","theirs","other","place","one"] [none,none,some 1,some 2,some 0] b (nt B.zip (d9 (d8 0) (d9 (d8 1) eA))) (λa b=>⟨(my 2 rfl (fM (fY 0 a) (fM (fY 1 a) jN))),fJ,(Iq d (iu (d8 0) (fW (d8 2) (d8 3))) (iu (d8 1) (fW (d8 4) (d8 3))))⟩))) eA)))))⟩
theorem NC(D:eU K mg "_law_cut" (ip 35))(d:CP Z "_law_draw" 1 (fj c)):CP Z "_law_cut" 2 (iy c):=kq Z 1 (iy c) ["_law_cell","_law_k","_law_dims","_law_found","_law_wide","_law_cut_here","_law_way","_law_other","_law_by"] ["_law_cell","_law_k","_law_dims","_law_found"] rfl D λa e b=>⟨_,(eB (eW 4 a (fW (fL (iB (d9 eF (d9 eF (d9 eF (d9 eF (d9 eF eA))))))) (eX d b (d9 (d8 0) (d9 eF (d9 eF eA))))))
  (eB (lZ ["_law_j","_law_wide","_law_cell","_law_k"] [none,some 4,some 0,some 1] 5 a e (oE.pim (iO B.range (d9 (gP (d8 2) eF) eA))) (λa e=>⟨(fY 0 a),fJ,(pY (eX d b (d9 (d8 2) (d9 (gP (gP eF (iu eF (d8 3))) (d8 0)) (d9 (gP (iu eF (d8 1)) eF) eA)))) (d8 1))⟩) vS)
  (eB (eW 6 a (eX d b (d9 (d8 0) (d9 (gP eF (d8 1)) (d9 eF eA)))))
  (eB (f7 (zb (Ak (jG b (d8 6) eF) (wK (lp b (d8 3) (fL (iB eA)))))) (eE (Fj 5 a (yg (fL (nu (l6 (K:=K)) px (by rfl) B.list nh (d9 (jT (fW (d8 3) (eX d b (d9 (d8 0) (d9 (gP eF (d8 1)) (d9 (fq (fZ (K:=K)) jo (by rfl) B.len jl (d9 (d8 3) eA)) eA))))) mR (mN (d8 2))) eA))) (jT (d8 5) (mN (d8 2)) mR)))) fB)
  (eB (f7 (jG b (d8 6) eF) (eE (Ay 5 (pv 5) (d8 2) eF)) fB)
  (eB (f7 (zb (Ak (jG b (d8 6) eF) (wK (kY CS DI (fq (fZ (K:=K)) jo (by rfl) B.len jl (d9 (d8 3) eA)) eF)))) (eB (eW 7 a (fW (d8 3) (eX d b (d9 (d8 0) (d9 (gP eF (d8 1)) (d9 (pY (fq (fZ (K:=K)) jo (by rfl) B.len jl (d9 (d8 3) eA)) eF) eA))))))
  (eB (eW 8 a (gP eF (eX d b (d9 (d8 0) (d9 (gP eF (d8 1)) (d9 eF eA))))))
  (eE (lZ ["_law_one","_law_two","_law_by"] [none,none,some 8] 5 a e (nt B.zip (d9 (fW (d8 3) (sS eF)) (d9 (d8 7) eA))) (λa e=>⟨(my 2 rfl (fM (fY 0 a) (fM (fY 1 a) jN))),fJ,(gP (d8 0) (iu (d8 2) (d8 1)))⟩) vS)))) fB)
  (eB (f7 (jG b (jT (d8 5) mR (mN (d8 2))) (fL (JT (fL (iB (d9 eF eA))) (d8 2)))) (eE (Ay 5 (pv 5) (eX d b (d9 (d8 0) (d9 (gP eF (d8 1)) (d9 (d8 2) eA)))) eF)) fB)
  (eE (eS (jB (iw (K:=K)) jF (by rfl) B.tuple jS (d9 (d8 5) eA)))))))))))⟩
theorem NH(D:eU K mg "_law_flat" (ip 38))(d:CP Z "_law_rank" 1 (fU c)):CP Z "_law_flat" 2 (iT c):=kq Z 1 (iT c) ["_law_dims","_law_cuts","_law_some","_law_rank_here","_law_inside"] ["_law_dims","_law_cuts","_law_some"] rfl D λa b e=>⟨_,(eB (eW 3 a (eX d e (d9 (fL (ij ["_law_k","_law_cuts"] [none,some 1] b (fR (d8 2)) (λa b=>⟨(fY 0 a),fJ,(fW (d8 1) (d8 0))⟩))) eA)))
  (eB (f7 (lp e (eX d e (d9 (fL (ij ["_law_k","_law_cuts","_law_dims"] [none,some 1,some 0] b (fR (d8 2)) (λa b=>⟨(fY 0 a),fJ,(jT (fW (d8 1) (d8 0)) mR (mN (d8 2)))⟩))) eA)) (d8 3)) (eE (eS Cq)) fB)
  (eB (lZ ["_law_k","_law_rank_here","_law_cuts","_law_some"] [none,some 3,some 1,some 2] 4 a b (oE.pim (iO B.range (d9 (fq (fZ (K:=K)) jo (by rfl) B.len jl (d9 (d8 1) eA)) eA))) (λa b=>⟨(fY 0 a),(jR (jG e (eX d e (d9 (fL (yg (fL (ij ["_law_j","_law_cuts"] [none,some 2] b (fR (d8 3)) (λa b=>⟨(fY 0 a),fJ,(fW (d8 1) (d8 0))⟩))) (fL (iB (d9 (fW (d8 2) (d8 0)) eA))))) eA)) (d8 1))),(d8 0)⟩) mC)
  (eE (eS (m4 (d9 (pY (d8 0) (d8 3)) (d9 (jB (iw (K:=K)) jF (by rfl) B.tuple jS (d9 (d8 4) eA)) eA))))))))⟩
theorem NU(D:eU K mg "cleared" (ip 9))(d:CP Z "lowest" 2 (mx c))(f:CP Z "sign_of" 1 (lH c)):CP Z "cleared" 3 (iD c):=kq Z 2 (iD c) ["row","other","place","often","other_often"] ["row","other","place"] rfl D λa e b=>⟨_,(eB (f7 (jG b (fW (d8 0) (d8 2)) eF) (eE (eS (d8 0))) fB)
  (eB (eW 3 a (fq xi Dz (by rfl) B.abs Dt (d9 (fW (d8 1) (d8 2)) eA)))
  (eB (eW 4 a (iu (sS (fW (d8 0) (d8 2))) (eX f b (d9 (fW (d8 1) (d8 2)) eA))))
  (eE (eS (eX d b (d9 (jB (iw (K:=K)) jF (by rfl) B.tuple jS (d9 (fL (ij ["mine","theirs","often","other_often"] [none,none,some 3,some 4] e (nt B.zip (d9 (d8 0) (d9 (d8 1) eA))) (λa e=>⟨(my 2 rfl (fM (fY 0 a) (fM (fY 1 a) jN))),fJ,(gP (iu (d8 2) (d8 0)) (iu (d8 3) (d8 1)))⟩))) eA)) eA)))))))⟩
theorem NG(D:eU K mg "can_stand" (ip 27))(a:CP Z "is_cut" 2 (lz c))(b:CP Z "same_spots" 2 (jw c)):CP Z "can_stand" 3 (i9 c):=kq Z 2 (i9 c) ["dims","ahead","thing"] ["dims","ahead","thing"] rfl D λe d f=>⟨_,(eB (f7 (zb (sv (kY Ic Ir (fq (fZ (K:=K)) jo (by rfl) B.len jl (d9 (d8 1) eA)) (wW 7 ER.k_MOST_CUTS)) (oI (kg (lS (eX a f (d9 (d8 0) (d9 (d8 2) eA)))))))) (eE (eS pL)) fB)
  (eE (eS (yR (fq (lx (K:=K) rfl) rC (by rfl) B.any sA (d9 (fL (ij ["cut","thing"] [none,some 2] d (fR (d8 1)) (λe d=>⟨(fY 0 e),fJ,(eX b f (d9 (d8 0) (d9 (d8 1) eA)))⟩))) eA))))))⟩
theorem NM(D:eU K mg "_law_cutting" (ip 36))(g:CP Z "_law_draw" 1 (fj c))(e:CP Z "_law_cut" 2 (iy c))(d:CP Z "_law_same" 1 (iU c)):CP Z "_law_cutting" 3 (ib c):=kq Z 2 (ib c) ["_law_cell","_law_most","_law_dims","_law_found","_law_k","_law_cut_here"] ["_law_cell","_law_most"] rfl D λa f b=>⟨_,(eB (eW 2 a (fW (fL (iB (d9 eF (d9 eF (d9 eF (d9 eF (d9 eF eA))))))) (eX g b (d9 (d8 0) (d9 eF (d9 eF eA))))))
  (eB (kv 3 a (iB eA))
  (eB (oy PassesOwn.never rfl (iO B.range (d9 (eX g b (d9 (d8 0) (d9 eF (d9 (gP (d8 1) eF) eA)))) eA)) (hV 4 a) (eB (C5 5 a (eX e b (d9 (d8 0) (d9 (d8 4) (d9 (d8 2) (d9 (d8 3) eA))))))
  (eE (f7 (jG b (fL (ij ["_law_one","_law_cut_here"] [none,some 5] f (fR (d8 3)) (λa f=>⟨(fY 0 a),(jR (lS (eX d b (d9 (d8 0) (d9 (d8 1) eA))))),(d8 0)⟩))) (fL (iB eA))) (eE (kL 3 (pv 3) (d8 5))) fB))))
  (eE (eS (m4 (d9 (d8 2) (d9 (d8 3) eA))))))))⟩
theorem NF(D:eU K mg "settled" (ip 11))(b:CP Z "cleared" 3 (iD c)):CP Z "settled" 4 (ia c):=kq Z 3 (ia c) ["row","pivots","place","pivot"] ["row","pivots"] rfl D λa e d=>⟨_,(eB (kW PassesOwn.never rfl (fR (d8 1)) (sE 2 rfl (ie (hV 2 a) (ie (hV 3 a) mP))) (eE (eW 0 a (eX b d (d9 (d8 0) (d9 (d8 3) (d9 (d8 2) eA)))))))
  (eE (eS (d8 0))))⟩
theorem NT(D:eU K mg "with_pivot" (ip 12))(b:CP Z "cleared" 3 (iD c)):CF Z "with_pivot" 4 (iE c):=zG Z 3 (iE c) ["pivots","row","place"] ["pivots","row","place"] rfl D λa d e=>⟨_,(eE (sW (yg (fL (ij ["other_place","pivot","row","place"] [none,none,some 1,some 2] d (fR (d8 0)) (λa d=>⟨(my 2 rfl (fM (fY 0 a) (fM (fY 1 a) jN))),fJ,(m4 (d9 (d8 0) (d9 (eX b e (d9 (d8 1) (d9 (d8 2) (d9 (d8 3) eA)))) eA)))⟩))) (fL (iB (d9 (m4 (d9 (d8 2) (d9 (d8 1) eA))) eA))))))⟩
theorem NO(D:eU K mg "checked_cuts" (ip 28))(b:CP Z "is_dims" 2 (kj c))(a:CP Z "can_stand" 3 (i9 c)):CP Z "checked_cuts" 4 (gU c):=kq Z 3 (gU c) ["dims","things","ahead","thing"] ["dims","things"] rfl D λd f e=>⟨_,(eB (f7 (zb (sv (kg (lS (eX b e (d9 (d8 0) eA)))) (oI (kg (lS (n9 "list" (by decide) B.isinstance B.list nh (d8 1))))))) (eE zJ) fB)
  (eB (kv 2 d (iB eA))
  (eB (kW PassesOwn.never rfl (fR (d8 1)) (hV 3 d) (eB (f7 (kg (lS (eX a e (d9 (d8 0) (d9 (d8 2) (d9 (d8 3) eA)))))) (eE zJ) fB)
  (eE (kL 2 (pv 2) (jB (iw (K:=K)) jF (by rfl) B.tuple jS (d9 (d8 3) eA))))))
  (eE (eS (jB (iw (K:=K)) jF (by rfl) B.tuple jS (d9 (d8 2) eA)))))))⟩
theorem NA(D:eU K mg "pivots_and_rests" (ip 13))(d:CP Z "settled" 4 (ia c))(e:CF Z "with_pivot" 4 (iE c)):CP Z "pivots_and_rests" 5 (gy c):=kq Z 4 (gy c) ["rows","dims","pivots","rests","row","left","places"] ["rows","dims"] rfl D λa f b=>⟨_,(eB (eW 2 a (fL (iB eA)))
  (eB (kv 3 a (iB eA))
  (eB (kW PassesOwn.never rfl (fR (d8 0)) (hV 4 a) (eB (eW 5 a (eX d b (d9 (d8 4) (d9 (d8 2) eA))))
  (eB (lZ ["place","left"] [none,some 5] 6 a f (oE.pim (iO B.range (d9 (d8 1) eA))) (λa f=>⟨(fY 0 a),(jR (lp b (fW (d8 1) (d8 0)) eF)),(d8 0)⟩) mC)
  (eE (f7 (jG b (d8 6) (fL (iB eA))) (eE (kL 3 (pv 3) (d8 5))) (eE (eW 2 a (fL (ny e b (d9 (d8 2) (d9 (d8 5) (d9 (fW (d8 6) eF) eA))))))))))))
  (eE (eS (m4 (d9 (d8 2) (d9 (d8 3) eA))))))))⟩
theorem NW(D:jr K c.Cutting "__init__" "Cutting.__init__" (m9 (ip 29) 0))(a:CP Z "checked_cuts" 4 (gU c)):BG P w K mg base "Cutting" c.Cutting 5 (yF K c.Cutting (gR c)):=Mz Z 4 (gR c) ["self","dims","cuts"] rfl ER.cl_Cutting ER.na_Cutting_own_cuts ER.na_Cutting_own_dims ER.mk_Cutting ER.kp_Cutting ER.mg_Cutting D λb=>M7 rfl (pv 0) (eX a b (d9 (d8 1) (d9 (d8 2) eA))) (pv 0) (d8 1)
theorem Nw(D:eU K mg "_law_flats" (ip 39))(g:ya K mg base "_law_flats")(d:CP Z "_law_flat" 2 (iT c)):CF Z "_law_flats" 5 (i6 c):=E8 Z 4 (i6 c) ["_law_dims","_law_cuts","_law_known","_law_bits","_law_flat_here"] ["_law_dims","_law_cuts"] rfl D g λf a e b=>⟨_,(GS (N:=5) 2 3 4 a PassesOwn.never b f B.sorted (oE.im (iO B.range (d9 (IR eF (fq (fZ (K:=K)) jo (by rfl) B.len jl (d9 (d8 1) eA))) eA)))
  (eX d b (d9 (d8 0) (d9 (d8 1) (d9 (fL (ij ["_law_k","_law_bits"] [none,some 3] e (oE.pim (iO B.range (d9 (fq (fZ (K:=K)) jo (by rfl) B.len jl (d9 (d8 1) eA)) eA))) (λa e=>⟨(fY 0 a),(jR (jG b (FZ (JN (d8 1) (d8 0)) eF) eF)),(d8 0)⟩))) eA)))))⟩
theorem Nr(D:eU K mg "flat_on" (ip 15))(e:CP Z "pivots_and_rests" 5 (gy c))(d:CP Z "settled" 4 (ia c)):CP Z "flat_on" 6 (gQ c):=kq Z 5 (gQ c) ["cuts","dims","some","found","pivots","around"] ["cuts","dims","some"] rfl D λa b f=>⟨_,(eB (eW 3 a (eX e f (d9 (fL (ij ["k","cuts"] [none,some 0] b (fR (d8 2)) (λa b=>⟨(fY 0 a),fJ,(fW (d8 1) (d8 0))⟩))) (d9 (d8 1) eA))))
  (eB (f7 (lS (fq (lx (K:=K) rfl) rC (by rfl) B.any sA (d9 (fL (ij ["rest"] [none] b (fR (fW (d8 3) eF)) (λa b=>⟨(fY 0 a),fJ,(fq (lx (K:=K) rfl) rC (by rfl) B.any sA (d9 (d8 0) eA))⟩))) eA))) (eE (eS Cq)) fB)
  (eB (eW 4 a (fW (d8 3) eF))
  (eB (lZ ["k","cut","pivots"] [none,none,some 4] 5 a b (GQ B.enumerate (d9 (d8 0) eA)) (λa b=>⟨(my 2 rfl (fM (fY 0 a) (fM (fY 1 a) jN))),(jR (kg (lS (fq (lx (K:=K) rfl) rC (by rfl) B.any sA (d9 (eX d f (d9 (d8 1) (d9 (d8 2) eA))) eA))))),(d8 0)⟩) mC)
  (eE (eS (m4 (d9 (pY (d8 1) (fq (fZ (K:=K)) jo (by rfl) B.len jl (d9 (d8 4) eA))) (d9 (jB (iw (K:=K)) jF (by rfl) B.tuple jS (d9 (d8 5) eA)) eA)))))))))⟩
theorem NS(D:eU K mg "flats" (ip 16))(g:ya K mg base "flats")(h:jZ P w K mg base c.Cutting "cuts" 1 (xY K (gY c)))(f:jZ P w K mg base c.Cutting "dims" 1 (vt K (gW c)))(a:CP Z "flat_on" 6 (gQ c)):CF Z "flats" 7 (oX c):=E8 Z 6 (oX c) ["cutting","cuts","dims","found","k","flat","smaller"] ["cutting"] rfl D g λe d i b=>⟨_,(eB (eW 1 d (fL (J7 h b (d8 0))))
  (eB (eW 2 d (Ka f b (d8 0)))
  (Hy (N:=7) 3 4 5 6 d PassesOwn.never b e B.list B.sorted (eX a b (d9 (d8 1) (d9 (d8 2) (d9 (fL (iB eA)) eA)))) (oE.im (iO B.range (d9 (fq (fZ (K:=K)) jo (by rfl) B.len jl (d9 (d8 1) eA)) eA)))
  (eX a b (d9 (d8 1) (d9 (d8 2) (d9 (gP (fW (d8 5) eF) (m4 (d9 (d8 4) eA))) eA)))))))⟩
theorem NN(D:eU K mg "flat_numbers" (ip 19))(a:CF Z "numbers_in_order" 2 (gw c))(b:CF Z "flats" 7 (oX c)):CF Z "flat_numbers" 8 (iA c):=zG Z 7 (iA c) ["cutting"] ["cutting"] rfl D λe f d=>⟨_,(eE (sW (ny a d (d9 (fL (ny b d (d9 (d8 0) eA))) eA))))⟩
theorem oL{j:Addr}{fd:FuncData}(D:Fu K "law" "law" (ip 41) j fd)(f:CP Z "_law_cutting" 3 (ib c))(h:CF Z "flat_numbers" 8 (iA c))(g:CF Z "_law_flats" 5 (i6 c))(l:CP Z "_law_cell_at" 1 (gh c))(e:BG P w K mg base "Cutting" c.Cutting 5 (yF K c.Cutting (gR c)))(i:CF Z "_law_numbers" 1 (gJ c))(k:CP Z "_law_whole" 1 (kU c)):ku P w K mg base nH 9 j fd ["_law_script"] (vt K (oV c)):=K0 Z 8 (oV c) ["_law_script","_law_asked","_law_dims","_law_cuts","_law_found","_law_some","_law_flat_here","_law_number"] ["_law_script"] rfl D λa d b=>⟨_,(eB (lZ ["_law_k","_law_script"] [none,some 0] 1 a d (oE.pim (iO B.range (d9 eF eA))) (λa d=>⟨(fY 0 a),fJ,(eX f b (d9 (eX l b (d9 (d8 1) (d9 (d8 0) eA))) (d9 eF eA)))⟩) mC)
  (eB (kW PassesOwn.never rfl (fR (gP (d8 1) (jT (d8 1) mR (mN eF)))) (sE 2 rfl (ie (hV 2 a) (ie (hV 3 a) mP))) (eB (kv 4 a (ny h b (d9 (K9 e b (d9 (d8 2) (d9 (fL (nu (l6 (K:=K)) px (by rfl) B.list nh (d9 (d8 3) eA))) eA))) eA)))
  (eB (eW 5 a (fL (ny g b (d9 (d8 2) (d9 (d8 3) eA)))))
  (eB (f7 (zb (sv (kg (lS (n9 "list" (by decide) B.isinstance B.list nh (d8 4)))) (oI (lp b (d8 4) (fL (ny i b (d9 (d8 5) eA))))))) (eE (eS pL)) fB)
  (eB (f7 (kg (lS (fq (lQ (K:=K) rfl) rN (by rfl) B.all sq (d9 (fL (ij ["_law_number"] [none] d (fR (d8 4)) (λa d=>⟨(fY 0 a),fJ,(eX k b (d9 (d8 0) eA))⟩))) eA)))) (eE (eS pL)) fB)
  (eB (DS 4 B.zip (pv 4) (d8 5) PassesOwn.never rfl (sE 2 rfl (ie (hV 6 a) (ie (hV 7 a) mP))) (eE (f7 (zb (sv (jG b (d8 7) eF) (oI (lp b (rV CS DI (d8 7) eF) (Iq b (mO (pY (d8 2) (fW (d8 6) eF)) eF) eF))))) (eE (eS pL)) fB)))
  (eE (kL 4 (pv 4) eF))))))))
  (eE (eS pL))))⟩
end
def J3{l:W.OpenLaw}{w:World}{K:W.Frag}{h:Heap}{mg:Str->Option Value}{c:Cs}{fa f:Addr}{oc kV j pm d ct:Vq}{od an:Oq Addr}{k:Array (Option Value)}(X:K.In h)(G:h.Ns mainGlobals mg)(p:mg "law" = some (.ref fa))
  (a:W.nsIn K mainGlobals "law" = some (some (.ref f))) (lk:K.lookup f=some ⟨oc,od,.func (W.fnOf "law" "law" (gK (ip 41)) (fw (ip 41)) (eG (ip 41)) .none kV j pm an d ct),k⟩) (cc:W.codeIn K d "law" = true) (kk:W.keepIn K (.ref f)=true)
  (B:Bs mg) (ER:Er c K mg) (LF:∀ns:LI,(oV c) [.scr ns]=.ok (.bl true)) (D0:eU K mg "is_whole" (ip 5)) (D1:eU K mg "sign_of" (ip 6)) (D2:eU K mg "common_divisor" (ip 7)) (D3:eU K mg "lies_in" (ip 17)) (D4:eU K mg "first_place" (ip 25)) (D5:eU K mg "_law_cell_at" (ip 31)) (D6:eU K mg "_law_draw" (ip 32)) (D7:eU K mg "_law_whole" (ip 33)) (D8:eU K mg "_law_same" (ip 34)) (D9:eU K mg "_law_rank" (ip 37)) (U:eU K mg "_law_numbers" (ip 40)) (N:eU K mg "lowest" (ip 8)) (L:eU K mg "numbers_in_order" (ip 18)) (t:eU K mg "is_dims" (ip 23)) (D14:eU K mg "is_cut" (ip 24)) (D15:eU K mg "same_spots" (ip 26)) (C:eU K mg "_law_cut" (ip 35)) (D17:eU K mg "_law_flat" (ip 38)) (D18:eU K mg "cleared" (ip 9)) (D19:eU K mg "can_stand" (ip 27)) (I:eU K mg "_law_cutting" (ip 36)) (Q:eU K mg "settled" (ip 11)) (J:eU K mg "with_pivot" (ip 12)) (m:eU K mg "checked_cuts" (ip 28)) (D24:eU K mg "pivots_and_rests" (ip 13)) (R:eU K mg "_law_flats" (ip 39)) (D26:eU K mg "flat_on" (ip 15)) (D27:eU K mg "flats" (ip 16)) (x:eU K mg "flat_numbers" (ip 19)) (M0:jr K c.Cutting "dims" "Cutting.dims" (m9 (ip 29) 1)) (M1:jr K c.Cutting "cuts" "Cutting.cuts" (m9 (ip 29) 2)) (M2:jr K c.Cutting "__init__" "Cutting.__init__" (m9 (ip 29) 0)) :
  ∃fd:FuncData,(∀(s:Sq) (v:Vq),BindsTo s fd ⟨[v],[]⟩ [("_law_script",v)])/\∀b:Heap,K.In b->b.Ns mainGlobals mg->(∀y∈(["_law_flats", "flats"]:List Str),ya K mg b y)->ku l.prog w K mg b nH 9 fa fd ["_law_script"] (Da K):=by
 have e:=p.symm.trans (W.mg_of X G a);cases e;refine⟨W.fnOf "law" "law" (gK (ip 41)) (fw (ip 41)) (eG (ip 41)) .none kV j pm an d ct,?bnd,λb _ _ LL=>?main⟩
 case main=>have Z:Zx l.prog w K mg b:=⟨trivial⟩;have O0:=o0 Z B ER D0;have O1:=o1 Z B ER D1;have O2:=o2 Z B ER D2;have O3:=o3 Z B ER D3;have O4:=o4 Z B ER D4;have O5:=o5 Z B ER M0;have O6:=o6 Z B ER M1;have O7:=o7 Z B ER D5;have O8:=o8 Z B ER D6;have O9:=o9 Z B ER D7;have P:=Nz Z B ER D8;have H:=NQ Z B ER D9;have O12:=NI Z B ER U;have O13:=NL Z B ER N O2;have r:=Nv Z B ER L O3;have o:=Nx Z B ER t O0;have O16:=NV Z B ER D14 O0;have q:=NJ Z B ER D15 O4;have Y:=NC Z B ER C O8;have z:=NH Z B ER D17 H;have i:=NU Z B ER D18 O13 O1;have u:=NG Z B ER D19 O16 q;have O22:=NM Z B ER I O8 Y P;have g:=NF Z B ER Q i;have S:=NT Z B ER J i;have F:=NO Z B ER m o u;have n:=NA Z B ER D24 g S;have D:=NW Z B ER M2 F;have O28:=Nw Z B ER R (LL "_law_flats" (by decide)) z;have E:=Nr Z B ER D26 n g;have A:=NS Z B ER D27 (LL "flats" (by decide)) O6 O5 E;have O31:=NN Z B ER x r A;exact (oL Z B ER (yn (st:=ip 41) lk cc kk) O22 O31 O28 O7 D O12 O9).imp (CI λns _ _=>LF ns)
 case bnd=>exact λs v=>.of_eq rfl
end K43
namespace PySem.Challenge.cw_cutlands_k43_numbers_of_flats_holds
def tw9989431405871537703:0=0:=rfl
def tw10596010501993566449:0=0:=rfl
def tw4094897336363773086:0=0:=rfl
def tw6156179464140249008:0=0:=rfl
def tw15653170429533688554:0=0:=rfl
def tw6857575713253870826:0=0:=rfl
def tw15736735755318981747:0=0:=rfl
def tw10671742557042626795:0=0:=rfl
def tw289893770189116065:0=0:=rfl
def tw12889516031499100494:0=0:=rfl
def tw17787623105274851596:0=0:=rfl
def tw16127650223547983813:0=0:=rfl
def tw10244612877087771978:0=0:=rfl
def tw2057556669313448168:0=0:=rfl
def tw2838884793511573076:0=0:=rfl
def tw15034626573880979032:0=0:=rfl
def tw3806841282245514843:0=0:=rfl
def tw6621726612071563597:0=0:=rfl
def tw14932491186897857137:0=0:=rfl
def tw734037234248607962:0=0:=rfl
def tw10437644206612119964:0=0:=rfl
def tw8512264445318045100:0=0:=rfl
def tw11068270718667746961:0=0:=rfl
def tw9170712664724302434:0=0:=rfl
def tw15738859479472560379:0=0:=rfl
def tw5926181985790428146:0=0:=rfl
def tw13491125900301477560:0=0:=rfl
def tw165619540852798435:0=0:=rfl
def tw18028486491068606836:0=0:=rfl
def tw2076277082825712277:0=0:=rfl
def tw10415679415467172423:0=0:=rfl
def tw2427617071425680785:0=0:=rfl
def tw12294979875224324567:0=0:=rfl
def tw17159249107117808401:0=0:=rfl
def tw11832744393024043237:0=0:=rfl
def tw2289917240530978631:0=0:=rfl
def tw6451683989182010377:0=0:=rfl
def tw17309733980655053950:0=0:=rfl
def tw15641099136028465233:0=0:=rfl
def tw8686723002178438219:0=0:=rfl
def tw14679745399313494074:0=0:=rfl
def tw6451993337494706921:0=0:=rfl
def tw43621606109404997:0=0:=rfl
def tw18232339486550430081:0=0:=rfl
def tw17218694988508993428:0=0:=rfl
def tw8657033194464100329:0=0:=rfl
def tw3999211413231985661:0=0:=rfl
def tw11387703907099245024:0=0:=rfl
def tw15226041322404542113:0=0:=rfl
def tw623966085212029369:0=0:=rfl
def tw9993068963934496538:0=0:=rfl
def tw4835294879419508717:0=0:=rfl
def tw18188162924380240767:0=0:=rfl
def tw6654419523797457696:0=0:=rfl
def tw11777578863599454065:0=0:=rfl
def tw13303112306677505091:0=0:=rfl
def tw11468206653211500958:0=0:=rfl
def tw17549325251422961453:0=0:=rfl
def tw15099344045332702298:0=0:=rfl
def tw14630319336907716028:0=0:=rfl
def tw720229389251716162:0=0:=rfl
def tw8168427928636715525:0=0:=rfl
def tw9636061394476841912:0=0:=rfl
def tw9949788641663499505:0=0:=rfl
def tw17578168728267699751:0=0:=rfl
def tw15615106931434443240:0=0:=rfl
def tw9982940477750940616:0=0:=rfl
def tw18064367864340358419:0=0:=rfl
def tw6872542243775511870:0=0:=rfl
def tw15635839427450365694:0=0:=rfl
def tw9543417520315895505:0=0:=rfl
def tw354976112297146456:0=0:=rfl
def tw48091812595031364:0=0:=rfl
def tw3381722713814528000:0=0:=rfl
def tw6043351608210753311:0=0:=rfl
def tw14647182879008367704:0=0:=rfl
def tw15645369068445473924:0=0:=rfl
def tw10525984160430839722:0=0:=rfl
def tw1573162012966323342:0=0:=rfl
def tw12457064858556439622:0=0:=rfl
def tw18180673534682116948:0=0:=rfl
def tw8814265105482713113:0=0:=rfl
def tw10620913532307464755:0=0:=rfl
def tw1341311682784572635:0=0:=rfl
def tw15673323003280632855:0=0:=rfl
def tw2187995537565527282:0=0:=rfl
def tw4479954925340100196:0=0:=rfl
def tw15644815107375294675:0=0:=rfl
def tw2148663650956458035:0=0:=rfl
def tw17997699854583137080:0=0:=rfl
def tw1935662864051268441:0=0:=rfl
def tw131207011808539349:0=0:=rfl
end PySem.Challenge.cw_cutlands_k43_numbers_of_flats_holds
open PySem PySem.W PyProof.Rows
set_option Elab.async true
theorem PySem.Challenge.cw_cutlands_k43_numbers_of_flats_holds : PySem.Challenge.rw_cutlands_k43_numbers_of_flats.Holds := by
 w_on;o_law;k_head;(case hw=>w_witness2);k_fill;refine L3.JS (l:=PySem.Challenge.rw_cutlands_k43_numbers_of_flats) (k:=9) (x:= "_law_script") ["_law_flats", "flats"] rfl ⟨rfl,by decide,by decide⟩ rfl (λw h Y=>PySem.W.km_in_of Y) ?X ?G ?F
 case X=>exact d7.mpr ⟨⟨_,rfl⟩,d7.mpr ⟨⟨_,rfl⟩,λ_ h=>nomatch h⟩⟩
 case G=>intro w;kernel_rfl
 case F=>intro w mg fa h KX G hmg;refine' K43.J3 KX G hmg ?a ?l ?c ?k ?B ?E (λns=>CL.AN ns) ?_ ?_ ?_ ?_ ?_ ?_ ?_ ?_ ?_ ?_ ?_ ?_ ?_ ?_ ?_ ?_ ?_ ?_ ?_ ?_ ?_ ?_ ?_ ?_ ?_ ?_ ?_ ?_ ?_ ?_ ?_ ?_;(case a=>k_is);(case l=>k_is);(case c=>k_is);(case k=>k_is);(case B=>constructor<;>(apply mg_none_of KX G;k_is));(case E=>apply K43.LC KX G<;>first | k_is | k_exc | decide);all_goals first | (apply L2.Ku KX G<;>k_is) | (apply K43.Ll<;>first | k_is | k_exc | decide)
