import PyProof.Rows.All
import Wide.All
import OpenK.AllK
import Wide.FinOn
import Lean
import PyProof.EqAt
import PyProof.EqKinds
import PyProof.TupleCall
import PyProof.P3Eq
import PyProof.NeData
import PyProof.ConsumeWalk
import PyProof.Rows.SumAny
import PyProof.ZipIter
import PyProof.Rows.ZipGen
import PyProof.Rows.SeqMore
import PyProof.FactsAll.tuple
import PyProof.WalksMore
import PyProof.EnumMake
import PyProof.EnumFor
import PyProof.Rows.MinMaxN
import KE.KDictList
import KE.KRevIter
import KE.KItemsList
import PyProof.Rows.SortWalk
import PyProof.Rows.SetFrom
import PyProof.SetRoads
import PyProof.AttrMissHeap
import KE.KDictOf
import PyProof.ExcInit
import PyProof.ExcClass3
import PyProof.InstStoreFacts
import PyProof.Rows.ChunkEnd
import KE.KSortTup
import KE.KLam
import PySem.Challenge.RW_cutlands_k41_flats_told
set_option bootstrap.genMatcherCode false
set_option maxRecDepth 100000
set_option maxHeartbeats 0
set_option linter.all false
noncomputable section
set_option compiler.extract_closed false
set_option hygiene false
abbrev Oq:=@Option
abbrev Vq:=PySem.Value
abbrev Sq:=PySem.Shared
abbrev LI:=List Int
abbrev LL:=List LI
section
open PySem
def aa:=@List.getElem?_eq_some_iff
def ae:=@Heap.get?_push_of_some
def af:=@List.getD_eq_getElem?_getD
def ag:=@List.getElem?_eq_getElem
def ai:=@List.mem_append
def aj:=@List.mem_singleton
def ao:=@wpAny_pure
def aq:=@wpAny_bind
def ar:=@List.getElem?_set_ne
def au:=@Heap.get?_push_size
def av:=@List.mem_of_getElem?
def aw:=@List.getElem?_map
def ax:=@List.length_map
def ay:=@List.mem_append_left
def az:=@List.length_cons
def aB:=@decide_eq_false
def aC:=@decide_eq_true
def aD:=@List.mem_map
def aE:=@Nat.lt_of_lt_of_le
def aF:=@List.mem_cons
def aG:=@Nat.zero_add
def aH:=@Bool.false_ne_true
def aI:=@List.map_map
def aK:=@Nat.le_refl
def aL:=@Heap.lt_size
def aM:=@Nat.ne_of_lt
def aN:=@Nat.le_trans
def aO:=@Classical.byContradiction
def aQ:=@if_pos
def aR:=@if_neg
def aS:=@List.mem_range
def aT:=@List.length_append
def aU:=@List.mem_filter
def aV:=@List.getElem_mem
def aW:=@List.of_mem_zip
def aY:=@Int.natAbs_mul
def aZ:=@List.map_append
def a9:=@Nat.lt_irrefl
def bf:=@Nat.le_of_lt
def bg:=@List.filterMap_cons
def bh:=@List.mem_cons_self
def bj:=@List.mem_cons_of_mem
def bp:=@Array.append_assoc
def bq:=@Array.length_toList
def br:=@Nat.ne_of_gt
def bt:=@List.mem_filterMap
def bu:=@List.mem_append_right
def bx:=@Int.natCast_nonneg
def bz:=@List.size_toArray
def bA:=@List.any_eq_false
def bB:=@List.map_cons
def bC:=@Nat.lt_succ_self
def bD:=@Nat.zero_le
def bE:=@List.append_nil
def bF:=@Nat.le_succ
def bG:=@List.nodup_cons
def bH:=@Option.isSome_iff_exists
def bI:=@List.length_take
def bJ:=@Int.toNat_natCast
def bK:=@List.length_drop
def bL:=@Bool.and_eq_true
def bM:=@List.length_set
def bN:=@List.replicate_succ
def bO:=@List.flatten_cons
def bP:=@List.append_assoc
def bQ:=@List.length_singleton
def bR:=@Nat.succ_mul
def bS:=@List.map_nil
def bT:=@Nat.le_of_not_lt
def bU:=@List.forIn_cons
def bV:=@Bool.false_eq_true
def bW:=@List.lookup_cons
def bX:=@Nat.le_of_succ_le
def bY:=@Nat.lt_succ_of_lt
def bZ:=@List.forIn_nil
def b9:=@Nat.le_add_right
def cf:=@Nat.le_succ_of_le
def cg:=@Nat.not_lt
def cj:=@List.range_succ_eq_map
def ck:=@List.all_cons
def cm:=@List.all_map
def cn:=@List.any_map
def cq:=@List.all_eq_true
def cu:=@Array.getD_eq_getD_getElem?
def cw:=@Array.forIn_toList
def cx:=@Bool.not_true
def cy:=@Bool.not_false
def cz:=@Nat.lt_of_le_of_lt
def cA:=@List.map_inj_right
def cB:=@Option.map_eq_some_iff
def cC:=@List.take_of_length_le
def cD:=@List.pairwise_singleton
def cE:=@List.map_congr_left
def cF:=@List.pairwise_map
def cG:=@Int.gcd_dvd_left
def cH:=@Int.gcd_dvd_right
def cI:=@Int.dvd_mul_of_dvd_left
def cJ:=@Int.fmod_nonneg_of_pos
def cK:=@Int.fmod_lt_of_pos
def cL:=@Int.mul_assoc
def cN:=@Int.mul_comm
def cO:=@List.mem_of_find?_eq_some
def cQ:=@List.lookup_cons_self
def cR:=@List.drop_eq_getElem_cons
def cS:=@List.mem_nil_iff
def cT:=@List.map_take
def cU:=@Nat.not_lt_zero
def cV:=@Nat.pow_le_pow_right
def cW:=@Nat.pow_succ
def cX:=@Int.natAbs_add_le
def cY:=@Int.sub_eq_add_neg
def cZ:=@List.drop_of_length_le
def c0:=@List.pairwise_cons
def c5:=@Bool.not_eq_true'
def c6:=@List.mergeSort_perm
def c7:=@List.pairwise_mergeSort
def c8:=@Int.mul_fdiv_cancel_left
def c9:=@Nat.two_pow_pos
def dc:=@List.length_nil
def de:=@Int.one_mul
def dg:=@Int.zero_mul
def dh:=@Int.add_zero
def dm:=@Int.zero_add
def dq:=@Int.mul_ne_zero
def du:=@Int.mul_add
def dw:=@Int.mul_zero
def dy:=@Int.mul_eq_zero
def dz:=@Int.neg_mul
def dA:=@List.pairwise_append
def dB:=@List.take_length
def dC:=@List.length_erase_of_mem
def dD:=@List.mem_of_mem_erase
def dE:=@List.mem_of_mem_take
def dF:=@List.length_zip
def dG:=@List.any_eq_true
def dH:=@List.length_range
def dI:=@Nat.le_antisymm
def dJ:=@Int.ofNat_inj
def dM:=@List.filter_congr
def dN:=@List.length_filter_le
def dO:=@List.not_mem_nil
def dP:=@List.length_filterMap_le
def dQ:=@List.forall_mem_cons
end
set_option Elab.async false
namespace L2
open PySem PySem.Spec PyProof.Rows
abbrev kg:=Sum Int Str
noncomputable def sM:kg->Value->Bool
 |.inl k,v=>Value.isInt k v
 |.inr x,v=>Value.isStrOf x v
def KW(w:World):kg->Int
 |.inl k=>hashInt k
 |.inr x=>hashStr w x
theorem fW:∀{k} {v},sM k v=true->(∃i t,k=Sum.inl i/\v=Value.int i t)\/(∃x t,k=Sum.inr x/\v=Value.str x t)
 |.inl i,v,h=>by obtain⟨t,e⟩:=Value.isInt_shape h;exact .inl ⟨i,t,rfl,e⟩
 |.inr x,v,h=>by obtain⟨t,e⟩:=Value.isStrOf_shape h;exact .inr ⟨x,t,rfl,e⟩
def zp i t:sM (.inl i) (.int i t)=true:=by simp[sM,Value.isInt]
def zS x t:sM (.inr x) (.str x t)=true:=by simp[sM,Value.isStrOf]
def HY a b:decide ((Sum.inl a:kg)=Sum.inl b)=(a==b):=by
 by_cases e:a=b
 .subst e;simp
 .have h:¬(Sum.inl a:kg)=Sum.inl b:=λq=>e (Sum.inl.inj q);rw[aB h];exact (beq_eq_false_iff_ne.mpr e).symm
def Gq a b:decide ((Sum.inr a:kg)=Sum.inr b)=decide (a=b):=by
 by_cases e:a=b
 .subst e;simp
 .have h:¬(Sum.inr a:kg)=Sum.inr b:=λq=>e (Sum.inr.inj q);rw[aB h,aB e]
def HA a b:decide ((Sum.inl a:kg)=Sum.inr b)=false:=aB (λq=>nomatch q)
def Ig a b:decide ((Sum.inr a:kg)=Sum.inl b)=false:=aB (λq=>nomatch q)
noncomputable def iC(prog:Program)(w:World):PySem.KeyKind prog w kg where
 is:=sM
 hash:=KW w
 inj:=λv a b l f=>by
  rcases fW l with⟨i,t,rfl,rfl⟩|⟨x,t,rfl,rfl⟩
  .rcases fW f with⟨j,u,rfl,e⟩|⟨y,u,rfl,e⟩
   .injection e with c _;rw[c]
   .exact nomatch e
  .rcases fW f with⟨j,u,rfl,e⟩|⟨y,u,rfl,e⟩
   .exact nomatch e
   .injection e with c _;rw[c]
 byValue:=λk v h=>by rcases fW h with⟨i,t,rfl,rfl⟩|⟨x,t,rfl,rfl⟩<;>rfl
 pyHash:=λd h=>by
  rcases fW d with⟨i,t,rfl,rfl⟩|⟨x,t,rfl,rfl⟩
  .exact wpAny_pyHash_int h
  .exact wpAny_pyHash_str h
 eqBool:=λg d h=>by
  rcases fW g with⟨i,t,rfl,rfl⟩|⟨x,t,rfl,rfl⟩
  .rcases fW d with⟨j,u,rfl,rfl⟩|⟨y,u,rfl,rfl⟩
   .rw[HY]at h;exact wpAny_eqBool_int h
   .rw[HA]at h;exact SeqAt.EqAt.int_str i t y u _ _ _ _ h
  .rcases fW d with⟨j,u,rfl,rfl⟩|⟨y,u,rfl,rfl⟩
   .rw[Ig]at h;exact SeqAt.EqAt.str_int x t j u _ _ _ _ h
   .rw[Gq]at h;exact wpAny_eqBool_str h
 «strs»:=λk x t v h=>by
  rcases fW h with⟨i,u,rfl,e⟩|⟨y,u,rfl,e⟩
  .exact nomatch e
  .injection e with c _;subst c;cases v<;>rfl
def v8 prog w i t:(iC prog w).is (.inl i) (.int i t)=true:=zp i t
def uM prog w x t:(iC prog w).is (.inr x) (.str x t)=true:=zS x t
end L2
namespace L2
open PySem PySem.Spec PyProof.Rows
inductive V where
 |non|bl (b:Bool)|int (i:Int)|str (x:Str)|byt (b:Array UInt8)|flt (b:UInt64)|ref (a:Addr)|ty (n:String)
 deriving DecidableEq
def fw:V->Value->Prop
 |.non,u=>u=Value.none
 |.bl b,u=>u=Value.bool b
 |.int i,u=>∃t,u=Value.int i t
 |.str x,u=>∃t,u=Value.str x t
 |.byt b,u=>∃t,u=Value.bytes b t
 |.flt b,u=>∃t,u=Value.float b t
 |.ref a,u=>u=Value.ref a
 |.ty n,u=>u=Value.type n
abbrev eS:List V->List Value->Prop:=Paired fw
def eS.length(r:eS xs us):xs.length=us.length:=Paired.length r
theorem eS.get:∀{a:List V} {us:List Vq} {i:Nat} {x:V},eS a us->a[i]? = some x->∃u,us[i]? = some u/\fw x u
 |_,_,_,_,.nil,e=>by simp at e
 |_,_,0,_,.cons r _,e=>by simp at e;subst e;exact⟨_,rfl,r⟩
 |_,_,i+1,x,.cons _ t,e=>by obtain⟨u,b,c⟩:=eS.get t (by simpa using e);exact⟨u,by simpa using b,c⟩
theorem eS.set(r:fw x u):∀{xs} {us} i,eS xs us->eS (xs.set i x) (us.set i u)
 |_,_,_,.nil=>.nil
 |_,_,0,.cons _ t=>.cons r t
 |_,_,i+1,.cons q t=>.cons q (eS.set r i t)
theorem eS.append:∀{xs ys} {us ws},eS xs us->eS ys ws->eS (xs++ys) (us++ws)
 |_,_,_,_,.nil,s=>s
 |_,_,_,_,.cons r t,s=>.cons r (eS.append t s)
theorem eS.take:∀{xs} {us} n,eS xs us->eS (xs.take n) (us.take n)
 |_,_,0,_=>.nil
 |_,_,_+1,.nil=>.nil
 |_,_,n+1,.cons r t=>.cons r (eS.take n t)
theorem eS.drop:∀{xs} {us} n,eS xs us->eS (xs.drop n) (us.drop n)
 |_,_,0,r=>r
 |_,_,_+1,.nil=>.nil
 |_,_,n+1,.cons _ t=>eS.drop n t
def uH:Oq V->Option Value->Prop
 |some v,some u=>fw v u
 |none,none=>True
 |_,_=>False
def KV{a:Type}:List (a×V)->List (a×Value)->Prop:=Paired λ(p:a×V) (q:a×Value)=>p.1=q.1/\fw p.2 q.2
def kV:kg->V
 |.inl i=>.int i
 |.inr x=>.str x
inductive HO where
 |lst (xs:List V)
 |tup (xs:List V)
 |dK (kvs:List (kg×V))|dT (kvs:List (List kg×V))
 |set (S:Int->Bool) (n:Nat)
 |ins (C dx:Addr) (fs:List (Str×V))
 |own (x:Addr)
 |xd (fs:List (Str×V))
 |met (f x:Addr)
 |rng (lo hi:Int)
 |frz (o:Obj) (u:HO)
 |tbl (q:Str) (ps:Array Vq)
 |ext (φ:Heap->Prop)
abbrev Hp:=Addr->Option HO
noncomputable def e6(H:Hp)(a:Addr)(o:HO):Hp:=λb=>if b=a then some o else H b
def eh:e6 H a o a=some o:=by unfold e6;rw[aQ rfl]
def eA(h:b≠a):e6 H a o b=H b:=by unfold e6;rw[aR h]
def eJ{H:Hp}(h:H a=some o)(h':H b=none):a≠b:=by intro e;subst e;rw[h]at h';cases h'
section
variable (P:Program)(w:World)
def ug(h:Heap)(a:Addr)(b:Array Vq):Prop:=∃o,h.get? a=some o/\o.cls=.type "tuple" /\∃n,o.data=.seq b n/\o.dict=none
def ug.tup(x:ug h a items):IsTup h a items:=let ⟨o,e,c,n,d,_⟩:=x;⟨o,e,c,n,d⟩
def ug.new(h:Heap) items:ug (h.push {cls:=.type "tuple",data:=.seq items}) h.objs.size items:=⟨_,au _ rfl,rfl,_,rfl,rfl⟩
def iE:List Vq->List Value
 |_::_::c::r=>c::iE r
 |_=>[]
def fK(H:Hp)(h:Heap)(a:Addr):HO->Prop
 |.lst d=>d.length<=sizeLine/\∃(c:List Vq) (n:Nat),eS d c/\h.get? a=some {cls:=.type "list",data:=.seq c.toArray n}
 |.tup d=>d.length<=sizeLine/\∃c:List Vq,eS d c/\ug h a c.toArray
 |.dK kvs=>kvs.length<=sizeLine/\(a==sysModules)=false/\∃vs,KV kvs vs/\h.DictOf (iC P w) a vs
 |.dT kvs=>kvs.length<=sizeLine/\(a==sysModules)=false/\∃d:List (List kg×Addr×Value),
   Paired (λ(p:List kg×V) (q:List kg×Addr×Value)=>p.1=q.1/\H q.2.1=some (.tup (p.1.map kV))/\fw p.2 q.2.2) kvs d/\
   ∃o j k,h.get? a=some o/\o.ExactDict/\o.data=.dict j k/\j.toList=d.map (entryOfKey (tupleKind (iC P w)))/\(d.map (·.1)).Nodup
 |.set S n=>h.SetOf (intKind P w) a S n
 |.ins C dx fs=>H dx=some (.own a)/\fs.length<=1000/\dx≠a/\h.get? a=some (W.instObj C dx)/\
   ∃e,h.Ns1 dx e/\(∀f,uH (fs.lookup f) (e f))/\PySem.Within e (fs.map (·.1))
 |.own _=>∃o,h.get? a=some o
 |.xd fs=>∃e,h.Ns1 a e/\∀f,uH (fs.lookup f) (e f)
 |.rng lo hi=>∃t u v,h.get? a=some {cls:=.type "range",data:=.fields #[.int lo t,.int hi u,.int 1 v]}
 |.frz o u=>h.get? a=some o/\fK H h a u
 |.tbl q ps=>h.get? a=some {cls:=.none,data:=.fields ps}/\TriplesOk ps.toList/\∀v∈iE ps.toList,∃b,v=.ref b/\H b=some (.own a)/\h.CodeRec (.ref b) q
 |.met f x=>h.get? a=some (W.methodObj (.ref f) (.ref x))
 |.ext φ=>φ h/\(∃o,h.get? a=some o)/\∀i g:Heap,φ i->(∀o,i.get? a=some o->g.get? a=some o)->φ g
def l5(H:Hp)(h:Heap):Prop:=∀a o,H a=some o->fK P w H h a o
end
section
variable {P:Program}{w:World}{H H':Hp}{h h':Heap}{a:Addr}{o:HO}
def fK.lt(x:fK P w H h a o):a<h.objs.size:=by
 cases o with
 |lst xs=>obtain⟨_,_,_,_,e⟩:=x;exact aL e
 |tup xs=>obtain⟨_,_,_,p⟩:=x;exact (ug.tup p).lt
 |dK kvs=>obtain⟨_,_,_,_,o,_,_,e,_⟩:=x;exact aL e
 |dT kvs=>obtain⟨_,_,_,_,o,_,_,e,_⟩:=x;exact aL e
 |set S n=>obtain⟨o,_,_,_,e,_⟩:=x;exact aL e
 |ins C dx fs=>obtain⟨_,_,_,e,_⟩:=x;exact aL e
 |own y=>obtain⟨_,e⟩:=x;exact aL e
 |xd fs=>obtain⟨_,⟨_,_,_,e,_⟩,_⟩:=x;exact aL e
 |rng lo hi=>obtain⟨_,_,_,e⟩:=x;exact aL e
 |frz ob u=>obtain⟨e,_⟩:=x;exact aL e
 |tbl q ps=>exact aL x.1
 |met f y=>exact aL (x)
 |ext φ=>obtain⟨_,⟨_,e⟩,_⟩:=x;exact aL e
theorem Paired.mapP{F G:α->β->Prop}:∀{l₁} {l₂},Paired F l₁ l₂->(∀a b,F a b->G a b)->Paired G l₁ l₂
 |_,_,.nil,_=>.nil
 |_,_,.cons r t,f=>.cons (f _ _ r) (Paired.mapP t f)
def Paired.imp'{F G:α->β->Prop}(f:∀a b,F a b->G a b){c:List α}{l₂:List β}(r:Paired F c l₂):Paired G c l₂:=Paired.mapP r f
theorem fK.stay(x:fK P w H h a o)(k:∀b u,(b=a\/H b=some (.own a))->h.get? b=some u->h'.get? b=some u)
  (I:∀b,H b=some (.own a)->H' b=some (.own a)) (Q:∀b m,H b=some (.tup m)->H' b=some (.tup m)):fK P w H' h' a o:=by
 induction o with
 |lst m=>obtain⟨z,l,n,r,e⟩:=x;exact⟨z,l,n,r,k _ _ (.inl rfl) e⟩
 |tup m=>obtain⟨z,l,r,g,e,c⟩:=x;exact⟨z,l,r,g,k _ _ (.inl rfl) e,c⟩
 |dK kvs=>obtain⟨z,y,A,r,g,j,i,e,c⟩:=x;exact⟨z,y,A,r,g,j,i,k _ _ (.inl rfl) e,c⟩
 |dT kvs=>obtain⟨z,y,m,r,g,j,i,e,c⟩:=x;exact⟨z,y,m,Paired.mapP r λp q z=>⟨z.1,Q _ _ z.2.1,z.2.2⟩,g,j,i,k _ _ (.inl rfl) e,c⟩
 |set S n=>obtain⟨g,j,i,t,e,c⟩:=x;exact⟨g,j,i,t,k _ _ (.inl rfl) e,c⟩
 |ins C dx fs=>obtain⟨d,z,ne,e,s,⟨B,j,i,D,c⟩,r⟩:=x;exact⟨I _ d,z,ne,k _ _ (.inl rfl) e,s,⟨B,j,i,k _ _ (.inr d) D,c⟩,r⟩
 |own y=>obtain⟨g,e⟩:=x;exact⟨g,k _ _ (.inl rfl) e⟩
 |xd fs=>obtain⟨s,⟨B,j,i,e,c⟩,r⟩:=x;exact⟨s,⟨B,j,i,k _ _ (.inl rfl) e,c⟩,r⟩
 |rng lo hi=>obtain⟨t,u,v,e⟩:=x;exact⟨t,u,v,k _ _ (.inl rfl) e⟩
 |frz g u ih=>obtain⟨e,q⟩:=x;exact⟨k _ _ (.inl rfl) e,ih q⟩
 |tbl q ps=>obtain⟨e,t,R⟩:=x;refine⟨k a _ (.inl rfl) e,t,λv K=>?_⟩;obtain⟨b,N,E,c,o,A,L,J,D,U⟩:=R v K;cases J;exact⟨_,N,I _ E,_,o,A,L,rfl,k _ _ (.inr E) D,U⟩
 |met f y=>have e:=x;exact k a _ (.inl rfl) e
 |ext φ=>obtain⟨p,⟨o,e⟩,F⟩:=x;exact⟨F _ _ p λo q=>k _ _ (.inl rfl) q,⟨o,k _ _ (.inl rfl) e⟩,F⟩
def l5.lt(x:l5 P w H h)(e:H a=some o):a<h.objs.size:=(x a o e).lt
def l5.fresh(x:l5 P w H h)(e:h.objs.size<=a):H a=none:=by
 cases q:H a with
 |none=>rfl
 |some u=>exact absurd (aE (x.lt q) e) (a9 _)
def l5.kept(x:l5 P w H h)(k:∀b u,h.get? b=some u->h'.get? b=some u):l5 P w H h':=λa o e=>(x a o e).stay (λb u _ q=>k b u q) (λ_ q=>q) λ_ _ q=>q
def l5.laid(x:l5 P w H h)(k:∀b u,h.get? b=some u->h'.get? b=some u)(g:h.objs.size<=a)(new:fK P w (e6 H a o) h' a o):l5 P w (e6 H a o) h':=λb u e=>by
 have f:=x.fresh g;by_cases d:b=a
 .subst d;rw[eh]at e;cases e;exact new
 .rw[eA d]at e;exact (x b u e).stay (λc v _ q=>k c v q) (λc q=>by rw[eA (eJ q f)];exact q) λc i q=>by rw[eA (eJ q f)];exact q
end
def Rd(H:Hp)(a:Addr)(u:HO):Prop:=H a=some u\/∃o,H a=some (.frz o u)
def Rd.ok(r:Rd H a u)(x:l5 P w H h):fK P w H h a u:=by
 rcases r with r|⟨o,r⟩
 .exact x a u r
 .obtain⟨_,q⟩:=x a _ r;exact q
def Js:Oq HO->Prop
 |some (.lst _)=>True
 |some (.dK _)=>True
 |some (.dT _)=>True
 |some (.set _ _)=>True
 |some (.ins _ _ _)=>True
 |some (.ext _)=>True
 |_=>False
section
variable {P:Program}{w:World}{H:Hp}{h h':Heap}{x e:Addr}{o':HO}
def l5.write(ok:l5 P w H h)(j:Js (H x))(o:e=x\/H e=some (.own x))(k:∀b u,b≠e->h.get? b=some u->h'.get? b=some u)(m:∃u,h'.get? e=some u)
  (new:fK P w (e6 H x o') h' x o'):l5 P w (e6 H x o') h':=λb u q=>by
 have d:∀c y,H c=some (.own y)->c≠x:=λc y r z=>by subst z;rw[r]at j;exact j
 have f:∀c i,H c=some (.tup i)->c≠x:=λc i r z=>by subst z;rw[r]at j;exact j
 by_cases g:b=x
 .subst g;rw[eh]at q;cases q;exact new
 .rw[eA g]at q;by_cases a:b=e
  .have n:H b=some (.own x):=by
    rcases o with z|z
    .exact absurd (a.trans z) g
    .rw[a];exact z
   rw[q]at n;cases n;obtain⟨v,p⟩:=m;exact⟨v,by rw[a];exact p⟩
  .refine (ok b u q).stay (λc v l r=>k c v ?_ r) (λc r=>by rw[eA (d c b r)];exact r) λc i r=>by rw[eA (f c i r)];exact r
   rcases l with rfl|l
   .exact a
   .rintro rfl;rcases o with z|z
    .exact d c b l z
    .rw[l]at z;cases z;exact g rfl
end
structure Un(fs ex:List Addr)(H H':Hp)(h h':Heap):Prop where
 keep:∀b o,h.get? b=some o->H b=none->b∉fs->b∉ex->h'.get? b=some o
 slot:∀b o,h.get? b=some o->H b=none->b∈fs->b∉ex->∃sl,h'.get? b=some {o with slots:=sl}
 free:∀b o,h.get? b=some o->H b=none->b∉ex->H' b=none
 there:∀b o,h.get? b=some o->b∉ex->∃o',h'.get? b=some o'
 tups:∀b xs,H b=some (.tup xs)->H' b=some (.tup xs)
 frzs:∀b o u,H b=some (.frz o u)->H' b=some (.frz o u)
 tbls:∀b q ps,H b=some (.tbl q ps)->∃more,H' b=some (.tbl q (ps++more))
section
variable {fs fs' ex ex':List Addr}{H H1 H2:Hp}{h h1 h2 h':Heap}{a x e:Addr}{o:HO}
def Un.any(u:Un fs ex H H1 h h1)(q:h.get? b=some ob)(n:H b=none)(d:b∉ex):∃f,h1.get? b=some {ob with slots:=f}:=by
 by_cases c:b∈fs
 .exact u.slot b ob q n c d
 .exact⟨ob.slots,u.keep b ob q n c d⟩
def Un.kept(k:∀b u,h.get? b=some u->h'.get? b=some u):Un fs ex H H h h':=⟨λb c q _ _ _=>k b c q,λb c q _ _ _=>⟨c.slots,k b c q⟩,λ_ _ _ n _=>n,λb c q _=>⟨c,k b c q⟩,λ_ _ q=>q,λ_ _ _ q=>q,λ_ _ d q=>⟨#[],by rw[q];simp⟩⟩
def Un.refl:Un fs ex H H h h:=Un.kept λ_ _ q=>q
def Un.laid(k:∀b u,h.get? b=some u->h'.get? b=some u)(f:h.objs.size<=a)(c:H a=none):Un fs ex H (e6 H a o) h h' where
 keep:=λb u q _ _ _=>k b u q
 slot:=λb u q _ _ _=>⟨u.slots,k b u q⟩
 free:=λb u q n _=>by rw[eA (aM (aE (aL q) f))];exact n
 there:=λb u q _=>⟨u,k b u q⟩
 tups:=λb d q=>by rw[eA (eJ q c)];exact q
 frzs:=λb u d q=>by rw[eA (eJ q c)];exact q
 tbls:=λb _ g q=>⟨#[],by rw[eA (eJ q c),q];simp⟩
def Un.write(d:Js (H x))(p:e=x\/H e=some (.own x))(k:∀b u,b≠e->h.get? b=some u->h'.get? b=some u)(g:∃u,h'.get? e=some u):Un fs ex H (e6 H x o) h h':=by
 have j:∀b,H b=none->b≠x:=λb n z=>by subst z;rw[n]at d;exact d
 have i:∀b,H b=none->b≠e:=λb n z=>by
  subst z;rcases p with r|r
  .exact j b n r
  .rw[n]at r;cases r
 have f:∀b u,H b=some u->¬Js (some u)->b≠x:=λb u q m z=>by subst z;rw[q]at d;exact m d
 refine⟨λb u q n _ _=>k b u (i b n) q,λb u q n _ _=>⟨u.slots,k b u (i b n) q⟩,λb u q n _=>by rw[eA (j b n)];exact n,λb u q _=>?_,
  λb l q=>by rw[eA (f b _ q λz=>z)];exact q,λb u l q=>by rw[eA (f b _ q λz=>z)];exact q,λb _ s q=>⟨#[],by rw[eA (f b _ q λz=>z),q];simp⟩⟩
 by_cases c:b=e
 .subst c;exact g
 .exact⟨u,k b u c q⟩
end
noncomputable def Ka(h:Heap)(H:Hp):List Addr:=(List.range h.objs.size).filter λa=>(H a).isSome
def C8(h:Heap)(H:Hp):Heap:=W.hideAll h (Ka h H)
def zi h H:(C8 h H).objs.size=h.objs.size:=W.hideAll_size _ _
def C1(e:h.get? b=some o)(n:H b=none):(C8 h H).get? b=some o:=W.hideAll_get _ e λa=>by have q:=(aU.mp a).2;rw[n]at q;simp at q
def Fu(e:(C8 h H).get? b=some o):h.get? b=some o/\H b=none:=by
 have a:=W.of_hideAll (Ka h H) e;refine⟨a,?_⟩;cases q:H b with
 |none=>rfl
 |some x=>have c:b∈Ka h H:=aU.mpr ⟨aS.mpr (aL a),by simp[q]⟩;have z:(C8 h H).get? b=none:=W.hideAll_none (Ka h H) c;rw[z]at e;cases e
end L2
namespace L2
open PySem PySem.Spec PyProof.Rows
structure Mod(K:W.Frag)(mg:Str->Option Value)(base:Heap):Prop where
 kin:K.In base
 glob:base.Ns mainGlobals mg
 blt:∃mb,base.Ns builtinsNs mb/\∀x:Str,x≠ "__name__" ->mb x=bootBuiltins x
 nolimit:base.NoLimit
def yp(a:Heap)(H:Hp):Prop:=∀c P b,(c,P)∈a.life.ids->a.CodeRec (.ref c) b->∃d,H P=some (.tbl (b++ ".<locals>.<lambda>") d)
structure Cx where
 prog:Program
 w:World
 K:W.Frag
 mg:Str->Option Value
 base:Heap
 A:Around
 N:List Str
 s₀:Sq
 H₀:Hp
 env:Env
 outer:List Env
 stack:List Env
 ex:List Addr
 fn:Str->Bool
 calm:Bool
 pn:List (Addr×Obj)
 xe:Vq->Shared->Prop
noncomputable def yd(l:List Env):List Addr:=l.filterMap (·.frame)
abbrev Cx.fs(X:Cx):List Addr:=yd X.outer
def IR(a:Scope)(x:Str):Prop:=a.names.lookup x=some .local\/a.names.lookup x=some .cell\/a.names.lookup x=some .free
def zI(a:Scope)(x:Str):Prop:=a.names.lookup x=some .local\/a.names.lookup x=some .cell
def Ks(a:Env)(h:Heap)(m:Str->Option Value)(x:Str)(u:Vq):Prop:=(a.kindOf x=some .local/\m x=some u)\/((a.kindOf x=some .cell\/a.kindOf x=some .free)/\∃c,a.cells.lookup x=some c/\h.IsCell c (some u))
structure Cx.Ok(X:Cx):Prop where
 mod:Mod X.K X.mg X.base
 kind:X.env.scope.kind=.function
 glob:X.env.globals=mainGlobals
 blt:X.env.builtins=builtinsNs
 above:X.s₀.heap.objs.size<=X.env.locals
 inj:∀x y c,X.env.cells.lookup x=some c->X.env.cells.lookup y=some c->x=y
 has:∀x,(X.env.kindOf x=some .cell\/X.env.kindOf x=some .free)->∃c,X.env.cells.lookup x=some c
 cab:∀x c,X.fn x=true->X.env.cells.lookup x=some c->X.s₀.heap.objs.size<=c
 hd:X.calm=true->X.A.handled=none
 frames:X.A.frames=some X.stack
 stk:X.stack=X.outer\/(X.stack=X.env::X.outer/\X.env.frame=some X.env.locals)
 exf:∀b∈X.ex,b≠X.env.locals/\∀x c,X.env.cells.lookup x=some c->c≠b
 bs:∀b o,X.base.get? b=some o->X.s₀.heap.get? b=some o/\X.H₀ b=none
 bsz:X.base.objs.size<=X.s₀.heap.objs.size
 noex:∀b o,X.base.get? b=some o->b∉X.ex
 exfs:∀b∈X.ex,b∉X.fs
 funs:X.s₀.heap.FunFrames X.base X.outer
 frf:∀b∈X.fs,X.H₀ b=none
 tab:yp X.base X.H₀
structure eC(X:Cx)(dU:List (Addr×Obj))(σ:List (Option V))(H:Hp)(s:Sq):Prop where
 ok:X.Ok
 os:s.os=X.s₀.os
 bare:AllBare s.gens
 base:Un X.fs X.ex X.H₀ H X.s₀.heap s.heap
 loc:∃m,s.heap.Ns X.env.locals m/\∀(i:Nat) (x:Str) (v:V),X.N[i]? = some x->σ[i]? = some (some v)->IR X.env.scope x->∃u,fw v u/\Ks X.env s.heap m x u
 cell:∀x c,X.env.cells.lookup x=some c->∃v,s.heap.IsCell c v
 free:H X.env.locals=none
 freeC:∀x c,X.env.cells.lookup x=some c->H c=none
 pin:∀p∈X.pn++dU,s.heap.get? p.1=some p.2/\H p.1=none/\p.1≠X.env.locals/\p.1∉X.fs/\∀v,p.2.data≠.cell v
 hok:l5 X.prog X.w H s.heap
 len:σ.length=X.N.length
section
variable {X:Cx}{dU:List (Addr×Obj)}{σ:List (Option V)}{H H':Hp}{s:Sq}{h':Heap}
def Cx.Ok.nofr(ok:X.Ok)(e:X.base.get? b=some o):b∉X.fs:=λa=>by have:=(ok.funs.mem a).1;rw[e]at this;cases this
def eC.bs(I:eC X dU σ H s):∀b o,X.base.get? b=some o->s.heap.get? b=some o/\H b=none:=λb o e=>⟨I.base.keep b o (I.ok.bs b o e).1 (I.ok.bs b o e).2 (I.ok.nofr e) (I.ok.noex b o e),I.base.free b o (I.ok.bs b o e).1 (I.ok.bs b o e).2 (I.ok.noex b o e)⟩
def eC.tab(I:eC X dU σ H s):yp X.base H:=λc P d a b=>let ⟨ps,e⟩:=I.ok.tab c P d a b;let ⟨more,q⟩:=I.base.tbls _ _ ps e;⟨ps++more,q⟩
def eC.bk(I:eC X dU σ H s):∀b o,X.base.get? b=some o->s.heap.get? b=some o:=λb o e=>(I.bs b o e).1
def eC.mod(I:eC X dU σ H s):Mod X.K X.mg X.base:=I.ok.mod
def eC.kIn(I:eC X dU σ H s):X.K.In s.heap:=I.ok.mod.kin.keeps I.bk
def eC.lt(I:eC X dU σ H s):X.env.locals<s.heap.objs.size:=let ⟨_,hn,_⟩:=I.loc;hn.lt
def eC.sz(I:eC X dU σ H s):X.s₀.heap.objs.size<=s.heap.objs.size:=aN I.ok.above (bf I.lt)
def eC.nofs(I:eC X dU σ H s)(h:s.heap.objs.size<=a):a∉X.fs:=λb=>by obtain⟨_,o,c,_⟩:=I.ok.funs.mem b;exact absurd (aE (aL c) (aN I.sz h)) (a9 _)
def eC.cne(I:eC X dU σ H s):∀x c,X.env.cells.lookup x=some c->c≠X.env.locals:=λx c e z=>by obtain⟨v,o,f,d⟩:=I.cell x c e;obtain⟨m,⟨h,i,g,b,a,_⟩,_⟩:=I.loc;rw[z,b]at f;cases f;rw[a]at d;cases d
def eC.funs(I:eC X dU σ H s):s.heap.FunFrames X.base X.outer:=by
 have all:∀(l:List Env),(∀b∈yd l,b∈X.fs)->X.s₀.heap.FunFrames X.base l->s.heap.FunFrames X.base l:=by
  intro l;induction l with
  |nil=>intro _ _;trivial
  |cons env r ih=>intro f m;obtain⟨g,⟨L,o,c,j,i,k⟩,h⟩:=m;have d:=f L (by unfold yd;rw[bg,c];exact bh);obtain⟨n,e⟩:=I.base.slot L o i (I.ok.frf L d) d λz=>I.ok.exfs L z d;exact⟨g,⟨L,_,c,j,e,k⟩,ih (λb a=>f b (by unfold yd;rw[bg,c];exact bj _ a)) h⟩
 exact all X.outer (λ_ a=>a) I.ok.funs
def eC.stack(I:eC X dU σ H s):s.heap.FunFrames X.base X.stack:=by
 rcases I.ok.stk with e|⟨e,a⟩
 .rw[e];exact I.funs
 .rw[e];obtain⟨m,b,_⟩:=I.loc;refine .cons (by rw[I.ok.kind];decide) a b ?_ I.funs;exact Heap.get?_none_of_le (aN I.ok.bsz I.ok.above)
def eC.stkSub(I:eC X dU σ H s):∀b∈yd X.stack,b∈X.env.locals::X.fs:=λb a=>by
 rcases I.ok.stk with e|⟨e,c⟩
 .rw[e]at a;exact bj _ a
 .rw[e]at a;unfold yd at a;rw[bg,c]at a;exact a
def eC.stkFree(I:eC X dU σ H s):∀b∈yd X.stack,H b=none:=λb a=>by
 rcases aF.mp (I.stkSub b a) with e|a
 .rw[e];exact I.free
 .obtain⟨_,o,c,_⟩:=I.ok.funs.mem a;exact I.base.free b o c (I.ok.frf b a) λz=>I.ok.exfs b z a
def eC.step{ch:List Addr}(I:eC X dU σ H s)
  (g:∀b∈ch,(b∈X.ex\/X.s₀.heap.objs.size<=b)/\b≠X.env.locals/\(∀x c,X.env.cells.lookup x=some c->c≠b)/\∀p∈X.pn++dU,p.1≠b)
  (f:∀b o,b≠X.env.locals->b∉X.fs->b∉ch->s.heap.get? b=some o->H b=none->h'.get? b=some o)
  (B:∀b o,b≠X.env.locals->b∈X.fs->b∉ch->s.heap.get? b=some o->H b=none->∃S,h'.get? b=some {o with slots:=S}) (free:∀b o,b∉ch->s.heap.get? b=some o->H b=none->H' b=none)
  (D:∀b o,b∉ch->s.heap.get? b=some o->∃N,h'.get? b=some N)
  (F:∀b A,H b=some (.tup A)->H' b=some (.tup A)) (P:∀b o u,H b=some (.frz o u)->H' b=some (.frz o u)) (L:∀b q R,H b=some (.tbl q R)->∃K,H' b=some (.tbl q (R++K)))
  (ns:∀m,s.heap.Ns X.env.locals m->h'.Ns X.env.locals m) (U:l5 X.prog X.w H' h') (hg:AllBare g') :
  eC X dU σ H' {s with heap:=h',gens:=g',drawn:=d',toks:=t'}:=by
 have J:∀b o,X.s₀.heap.get? b=some o->b≠X.env.locals:=λb o e=>aM (aE (aL e) I.ok.above);have y:∀b o,X.s₀.heap.get? b=some o->b∉X.ex->b∉ch:=λb o e a C=>by
  rcases (g b C).1 with z|z
  .exact a z
  .exact absurd (aE (aL e) z) (a9 _)
 have h:∀x c,X.env.cells.lookup x=some c->∀v,s.heap.IsCell c v->h'.IsCell c v:=λx c e v ⟨o,E,Z⟩=>by
  have j:c∉ch:=λz=>(g c z).2.2.1 x c e rfl;by_cases hc:c∈X.fs
  .obtain⟨S,q⟩:=B c o (I.cne x c e) hc j E (I.freeC x c e);exact⟨_,q,Z⟩
  .exact⟨o,f c o (I.cne x c e) hc j E (I.freeC x c e),Z⟩
 refine⟨I.ok,I.os,hg,⟨λb o e n C a=>?_,λb o e n C a=>?_,λb o e n a=>?_,λb o e a=>?_,λb A e=>F b A (I.base.tups b A e),λb o A e=>P b o A (I.base.frzs b o A e),λb _ R e=>?_⟩,?_,λx c e=>?_,?_,λx c e=>?_,λp hp=>?_,U,I.len⟩
 .exact f b o (J b o e) C (y b o e a) (I.base.keep b o e n C a) (I.base.free b o e n a)
 .obtain⟨S,t⟩:=I.base.slot b o e n C a;obtain⟨Y,Q⟩:=B b _ (J b o e) C (y b o e a) t (I.base.free b o e n a);exact⟨Y,Q⟩
 .obtain⟨N,t⟩:=I.base.there b o e a;exact free b N (y b o e a) t (I.base.free b o e n a)
 .obtain⟨N,t⟩:=I.base.there b o e a;exact D b N (y b o e a) t
 .obtain⟨m1,t⟩:=I.base.tbls b _ R e;obtain⟨m2,Q⟩:=L b _ _ t;exact⟨m1++m2,by rw[Q,bp]⟩
 .obtain⟨m,hn,hl⟩:=I.loc;refine⟨m,ns m hn,λi x v t Q e3=>?_⟩;obtain⟨u,r,l⟩:=hl i x v t Q e3;refine⟨u,r,?_⟩;rcases l with l|⟨k,c,e,z⟩
  .exact .inl l
  .exact .inr ⟨k,c,e,h x c e _ z⟩
 .obtain⟨v,z⟩:=I.cell x c e;exact⟨v,h x c e v z⟩
 .obtain⟨m,⟨o,_,_,E,_⟩,_⟩:=I.loc;exact free _ o (λz=>(g _ z).2.1 rfl) E I.free
 .obtain⟨v,o,E,Z⟩:=I.cell x c e;exact free c o (λz=>(g c z).2.2.1 x c e rfl) E (I.freeC x c e)
 .obtain⟨e,n,ne,nf,d⟩:=I.pin p hp;have j:p.1∉ch:=λz=>(g p.1 z).2.2.2 p hp rfl;exact⟨f p.1 p.2 ne nf j e n,free p.1 p.2 j e n,ne,nf,d⟩
def eC.un(I:eC X dU σ H s)(u:Un X.fs [] H H' s.heap h')(f:l5 X.prog X.w H' h'):eC X dU σ H' {s with heap:=h',toks:=t'}:=by obtain⟨m,⟨o,v,p,h,r⟩,_⟩:=id I.loc;obtain⟨l,j⟩:=u.any h I.free (by simp);exact I.step (ch:=[]) (λ_ z=>nomatch z) (λb o _ c _ e n=>u.keep b o e n c (by simp)) (λb o _ c _ e n=>u.slot b o e n c (by simp)) (λb o _ e n=>u.free b o e n (by simp)) (λb o _ e=>u.there b o e (by simp)) u.tups u.frzs u.tbls (λt k=>by obtain⟨q,g,d,a,i⟩:=k;rw[h]at a;cases a;exact⟨_,g,d,j,i⟩) f I.bare
def eC.call(I:eC X dU σ H s)(u:Un (yd X.stack) ch H H' s.heap h')(h:l5 X.prog X.w H' h')(q:AllBare g')
  (f:∀b∈ch,(b∈X.ex\/X.s₀.heap.objs.size<=b)/\b≠X.env.locals/\(∀x c,X.env.cells.lookup x=some c->c≠b)/\∀p∈X.pn++dU,p.1≠b) :
  eC X dU σ H' {s with heap:=h',gens:=g',drawn:=d',toks:=t'}:=by
 obtain⟨m,⟨o,D,A,k,r⟩,_⟩:=id I.loc;obtain⟨y,j⟩:=u.any k I.free λz=>(f _ z).2.1 rfl;exact I.step f (λb o j l a e n=>u.keep b o e n (λz=>(aF.mp (I.stkSub b z)).elim j l) a) (λb o _ _ a e n=>u.any e n a) (λb o a e n=>u.free b o e n a) (λb o a e=>u.there b o e a) u.tups u.frzs u.tbls (λC v=>by obtain⟨B,i,g,d,t⟩:=v;rw[k]at d;cases d;exact⟨_,i,g,j,t⟩) h q
def eC.turned(I:eC X dU σ H s)(k:∀b o,b≠it->s.heap.get? b=some o->h'.get? b=some o)(w:H it=none)(f:it≠X.env.locals)
  (l:it∈X.ex\/X.s₀.heap.objs.size<=it) (i:∀x c,X.env.cells.lookup x=some c->c≠it) (g:∀p∈X.pn++dU,p.1≠it):eC X dU σ H {s with heap:=h',toks:=t'}:=by
 have d:∀b u,H b=some u->b≠it:=λb u e z=>by rw[z,w]at e;cases e
 refine I.step (ch:=[it]) (λb h=>?_) (λb o _ _ a e _=>k b o (λz=>a (by simp[z])) e) (λb o _ _ a e _=>⟨o.slots,k b o (λz=>a (by simp[z])) e⟩) (λ_ _ _ _ n=>n)
  (λb o a e=>⟨o,k b o (λz=>a (by simp[z])) e⟩) (λ_ _ e=>e) (λ_ _ _ e=>e) (λb _ B e=>⟨#[],by rw[e];simp⟩) (λm A=>?_) (λb u e=>?_) I.bare
 .have e:b=it:=by simpa using h
  subst e;exact⟨l,f,i,g⟩
 .obtain⟨o,y,j,t,r⟩:=A;exact⟨o,y,j,k _ o (Ne.symm f) t,r⟩
 .refine (I.hok b u e).stay (λc v a q=>k c v ?_ q) (λ_ q=>q) λ_ _ q=>q;rcases a with z|z
  .rw[z];exact d b u e
  .exact d c _ z
def eC.tok(I:eC X dU σ H s) t:eC X dU σ H {s with toks:=t}:=I.un Un.refl I.hok
def eC.kept(I:eC X dU σ H s)(k:∀b u,s.heap.get? b=some u->h'.get? b=some u):eC X dU σ H {s with heap:=h',toks:=t'}:=I.un (Un.kept k) (I.hok.kept k)
def eC.laid(I:eC X dU σ H s)(k:∀b u,s.heap.get? b=some u->h'.get? b=some u)(c:s.heap.objs.size<=a)(new:fK X.prog X.w (e6 H a o) h' a o) :
  eC X dU σ (e6 H a o) {s with heap:=h',toks:=t'}:=I.un (Un.laid k c (I.hok.fresh c)) (I.hok.laid k c new)
def eC.write(I:eC X dU σ H s)(c:Js (H x))(d:e=x\/H e=some (.own x))(k:∀b u,b≠e->s.heap.get? b=some u->h'.get? b=some u)(a:∃u,h'.get? e=some u)
  (new:fK X.prog X.w (e6 H x o) h' x o):eC X dU σ (e6 H x o) {s with heap:=h',toks:=t'}:=I.un (Un.write c d k a) (I.hok.write c d k a new)
def eC.weak(I:eC X dU σ H s)(d:σ'.length=σ.length)(w:∀(i:Nat) v,σ'[i]? = some (some v)->σ[i]? = some (some v)):eC X dU σ' H s:=⟨I.ok,I.os,I.bare,I.base,let ⟨m,hn,hl'⟩:=I.loc;⟨m,hn,λi x v c a b=>hl' i x v c (w i v a) b⟩,I.cell,I.free,I.freeC,I.pin,I.hok,d.trans I.len⟩
def eC.pins_of(I:eC X dU σ H s)(h:∀p∈pins',s.heap.get? p.1=some p.2/\H p.1=none/\p.1≠X.env.locals/\p.1∉X.fs/\∀v,p.2.data≠.cell v):eC X pins' σ H s:=⟨I.ok,I.os,I.bare,I.base,I.loc,I.cell,I.free,I.freeC,λp a=>(ai.mp a).elim (λz=>I.pin p (ay _ z)) (h p),I.hok,I.len⟩
def vQ{N:List Str}(e:N.Nodup){i j:Nat}(a:N[i]? = some x)(b:N[j]? = some x):i=j:=by obtain⟨f,d⟩:=aa.mp a;obtain⟨g,c⟩:=aa.mp b;exact (List.getElem_inj e).mp (d.trans c.symm)
def sR{M:Model}{A:Around}{E:Vq->Shared->Prop}{i:Nat}{x:Str}{v:V}{u:Vq}{Q:Unit->Shared->Prop}(I:eC X dU σ H s)(hN:X.N.Nodup)(U:X.N[i]? = some x)(t:zI X.env.scope x)(r:fw v u)
  (h:∀s',eC X dU (σ.set i (some v)) H s'->(∃a,Heap.SameBut a s.heap s'.heap/\(a=X.env.locals\/X.env.cells.lookup x=some a))->Q () s') (hf:X.fn x=true\/X.env.scope.names.lookup x=some .local:=by first|exact .inl rfl|exact .inr rfl|assumption):wpAny M A (storeName X.env x u) Q E s:=by
 obtain⟨m,hn,hl⟩:=id I.loc;have R:(X.env.scope.kind==.class||(X.env.scope.kind==.module&&X.env.locals != X.env.globals))=false:=by rw[I.ok.kind];rfl
 have F:i<σ.length:=by rw[I.len];exact (aa.mp U).1
 have cne:=I.cne;have tracked:∀{a:Addr} {h':Heap},(∃o,s.heap.get? a=some o/\H a=none)->Heap.SameBut a s.heap h'->l5 X.prog X.w H h':=λ{a h'} ha f b ob e=>by
  obtain⟨_,_,B⟩:=ha;refine (I.hok b ob e).stay (λc w' l q=>(f.2 c ?_).trans q) (λ_ q=>q) λ_ _ q=>q;rintro rfl;rcases l with rfl|l
  .rw[B]at e;cases e
  .rw[B]at l;cases l
 rcases t with D|D
 .refine wpAny_storeName_local D hn (λh' hn' f=>?_) R;obtain⟨oL,_,_,hoL,_⟩:=id hn;refine h _ ⟨I.ok,I.os,I.bare,⟨λb o e n J t=>?_,λb o e n J t=>?_,I.base.free,λb o e t=>?_,I.base.tups,I.base.frzs,I.base.tbls⟩,⟨_,hn',λj y v' g C e3=>?_⟩,λy c e=>?_,I.free,I.freeC,λp hp=>?_,tracked ⟨oL,hoL,I.free⟩ f,by simpa using I.len⟩ ⟨_,f,.inl rfl⟩
  .exact (f.2 b (aM (aE (aL e) I.ok.above))).trans (I.base.keep b o e n J t)
  .obtain⟨sl,g⟩:=I.base.slot b o e n J t;exact⟨sl,(f.2 b (aM (aE (aL e) I.ok.above))).trans g⟩
  .obtain⟨o',g⟩:=I.base.there b o e t;exact⟨o',(f.2 b (aM (aE (aL e) I.ok.above))).trans g⟩
  .by_cases L:j=i
   .subst L;rw[U]at g;cases g;rw[List.getElem?_set_self F]at C;cases C;exact⟨u,r,.inl ⟨D,by simp⟩⟩
   .rw[ar (Ne.symm L)]at C;obtain⟨u',r',q⟩:=hl j y v' g C e3;refine⟨u',r',?_⟩;rcases q with⟨k,e⟩|⟨k,c,e,z⟩
    .refine .inl ⟨k,?_⟩;have:y≠x:=λe=>L (vQ hN g (e▸U));simp[this,e]
    .exact .inr ⟨k,c,e,z.sameBut f (cne y c e)⟩
  .obtain⟨w',z⟩:=I.cell y c e;exact⟨w',z.sameBut f (cne y c e)⟩
  .obtain⟨e,n,ne,nf,d⟩:=I.pin p hp;exact⟨(f.2 p.1 ne).trans e,n,ne,nf,d⟩
 .have K:X.fn x=true:=by
   rcases hf with z|z
   .exact z
   .rw[z]at D;cases D
  obtain⟨c,l⟩:=I.ok.has x (.inl D);obtain⟨w',z⟩:=I.cell x c l;refine wpAny_storeName_cell I.ok.kind D l z (λh' Y f=>?_);obtain⟨oc,P,Z⟩:=id z;refine h {s with heap:=h'} ⟨I.ok,I.os,I.bare,⟨λb o e n J t=>?_,λb o e n J t=>?_,I.base.free,λb o e t=>?_,I.base.tups,I.base.frzs,I.base.tbls⟩,⟨m,hn.sameBut f (Ne.symm (cne x c l)),λj y v' g C e3=>?_⟩,λy c' e=>?_,I.free,I.freeC,λp hp=>?_,tracked ⟨oc,P,I.freeC x c l⟩ f,by simpa using I.len⟩ ⟨c,f,.inr l⟩
  .exact (f.2 b (aM (aE (aL e) (I.ok.cab x c K l)))).trans (I.base.keep b o e n J t)
  .obtain⟨sl,g⟩:=I.base.slot b o e n J t;exact⟨sl,(f.2 b (aM (aE (aL e) (I.ok.cab x c K l)))).trans g⟩
  .obtain⟨o',g⟩:=I.base.there b o e t;exact⟨o',(f.2 b (aM (aE (aL e) (I.ok.cab x c K l)))).trans g⟩
  .by_cases L:j=i
   .subst L;rw[U]at g;cases g;rw[List.getElem?_set_self F]at C;cases C;exact⟨u,r,.inr ⟨.inl D,c,l,Y⟩⟩
   .rw[ar (Ne.symm L)]at C;obtain⟨u',r',q⟩:=hl j y v' g C e3;refine⟨u',r',?_⟩;rcases q with q|⟨k,c',e,z'⟩
    .exact .inl q
    .refine .inr ⟨k,c',e,z'.sameBut f ?_⟩;rintro rfl;exact L (vQ hN g (I.ok.inj _ _ _ e l▸U))
  .by_cases S:c'=c
   .subst S;exact⟨_,Y⟩
   .obtain⟨w2,z2⟩:=I.cell y c' e;exact⟨w2,z2.sameBut f S⟩
  .obtain⟨e,n,ne,nf,d⟩:=I.pin p hp;refine⟨(f.2 p.1 ?_).trans e,n,ne,nf,d⟩;intro q;rw[q,P]at e;have q':=Option.some.inj e;exact d w' (by rw[<-q'];exact Z)
def uX{M:Model}{A:Around}{E:Vq->Shared->Prop}{i:Nat}{x:Str}{v:V}{u:Vq}{Q:Unit->Shared->Prop}(I:eC X dU σ H s)(e:X.N.Nodup)(d:X.N[i]? = some x)(f:zI X.env.scope x)(r:fw v u)
  (h:∀a,eC X dU (σ.set i (some v)) H a->Q () a) (b:X.fn x=true\/X.env.scope.names.lookup x=some .local:=by first|exact .inl rfl|exact .inr rfl|assumption):wpAny M A (storeName X.env x u) Q E s:=
 sR I e d f r (λa c _=>h a c) b
def eC.call'(I:eC X dU σ H s)(f:s'.os=s.os)(u:Un (yd X.stack) ch H H' s.heap s'.heap)(a:l5 X.prog X.w H' s'.heap)(g:AllBare s'.gens)
  (d:∀b∈ch,(b∈X.ex\/X.s₀.heap.objs.size<=b)/\b≠X.env.locals/\(∀x c,X.env.cells.lookup x=some c->c≠b)/\∀p∈X.pn++dU,p.1≠b):eC X dU σ H' s':=by
 obtain⟨h',j,i,h,k⟩:=s';have e:=f;subst e;exact I.call u a g d
end
abbrev XK:=Value->Option Addr->Hp->Prop
abbrev St:=List (Option V)
abbrev VK:=V->Hp->Prop
abbrev TE:=St->Hp->VK->Prop
abbrev TT:=St->Hp->(Bool->Hp->Prop)->Prop
abbrev TA:=St->Hp->(List V->Hp->Prop)->Prop
structure oG where
 nx:St->Hp->Prop
 rt:VK
 bk:St->Hp->Prop:=λ_ _=>False
 ct:St->Hp->Prop:=λ_ _=>False
abbrev TS:=oG->St->Hp->Prop
def EP(X:Cx)(d:List (Addr×Obj))(b:St)(Q:VK)(u:Vq)(c:Sq):Prop:=∃v a,eC X d b a c/\fw v u/\Q v a
def TP(X:Cx)(e:List (Addr×Obj))(c:St)(Q:Bool->Hp->Prop)(b:Bool)(d:Sq):Prop:=∃a,eC X e c a d/\Q b a
def AP(X:Cx)(e:List (Addr×Obj))(c:St)(Q:List V->Hp->Prop)(us:List Vq)(d:Sq):Prop:=∃a b,eC X e c b d/\eS a us/\Q a b
def SP(X:Cx)(d:List (Addr×Obj))(D:oG)(f:Flow)(c:Sq):Prop:=
 match f with
 |.next=>∃a b,eC X d a b c/\D.nx a b
 |.brk=>∃a b,eC X d a b c/\D.bk a b
 |.cont=>∃a b,eC X d a b c/\D.ct a b
 |.ret u=>∃v a b,eC X d a b c/\fw v u/\D.rt v b
def PE(X:Cx)(e:Expr)(t:TE):Prop:=∀(b:List (Addr×Obj)) (s:Sq) (a:St) (H:Hp) (Q:VK),eC X b a H s->t a H Q->wpAny (model X.prog X.w) X.A (eval e X.env) (EP X b a Q) X.xe s
def PT(X:Cx)(e:Expr)(t:TT):Prop:=∀(b:List (Addr×Obj)) (s:Sq) (a:St) (H:Hp) (Q:Bool->Hp->Prop),eC X b a H s->t a H Q->wpAny (model X.prog X.w) X.A (isTrue e X.env (eval e X.env)) (TP X b a Q) X.xe s
def PW(X:Cx)(e:Expr)(t:TT):Prop:=∀(a:Sem Vq) (c:List (Addr×Obj)) (s:Sq) (b:St) (H:Hp) (Q:Bool->Hp->Prop),eC X c b H s->t b H Q->wpAny (model X.prog X.w) X.A (isTrue e X.env a) (TP X c b Q) X.xe s
def PW.pt(h:PW X e t):PT X e t:=h _
def PA(X:Cx)(d:List Expr)(t:TA):Prop:=∀(a:Pos) (c:List (Addr×Obj)) (s:Sq) (b:St) (H:Hp) (Q:List V->Hp->Prop),eC X c b H s->t b H Q->wpAny (model X.prog X.w) X.A (spliced (backTo a (starEach d X.env))) (AP X c b Q) X.xe s
def PS(X:Cx)(st:Stmt)(t:TS):Prop:=∀(b:List (Addr×Obj)) (s:Sq) (a:St) (H:Hp) (D:oG),eC X b a H s->t D a H->wpAny (model X.prog X.w) X.A (exec st X.env) (SP X b D) X.xe s
def uI(X:Cx)(st:List Stmt)(t:TS):Prop:=∀(b:List (Addr×Obj)) (s:Sq) (a:St) (H:Hp) (D:oG),eC X b a H s->t D a H->wpAny (model X.prog X.w) X.A (execs st X.env) (SP X b D) X.xe s
def gj{c:Type}{t:Sem c}{Q b:c->Shared->Prop}{M:Model}{A:Around}{E:Vq->Shared->Prop}{s:Sq}(h:wpAny M A t Q E s)(d:∀a s,Q a s->b a s):wpAny M A t b E s:=wpAny_mono h d λ_ _ x=>x
end L2
namespace L2
open PySem PySem.Spec PyProof.Rows
section
variable {X:Cx}
def je(i:Nat):TE:=λa H Q=>∃v,a[i]? = some (some v)/\Q v H
def tC(v:V):TE:=λ_ H Q=>Q v H
def mG(q:X.N[i]? = some x)(k:IR X.env.scope x)(g:(x==("__debug__" : Str))=false:=by decide)(f:(x==("__classdict__" : Str))=false:=by decide):PE X (.Name x pos) (je i):=by
 intro p s o H Q I h;obtain⟨v,e,h⟩:=h;obtain⟨m,n,w⟩:=I.loc;obtain⟨u,r,l⟩:=w i x v q e k;have d:EP X p o Q u s:=⟨v,H,I,r,h⟩;rcases l with⟨b,t⟩|⟨b,c,j,a⟩
 .exact wpAny_Name (wpAny_loadName_local I.ok.kind b n t d) g
 .rcases b with b|b
  .exact wpAny_Name (wpAny_loadName_cell I.ok.kind b j a d) g
  .exact wpAny_Name (wpAny_loadName_free I.ok.kind b j a d f) g
def wO{i j pos}:PE X (.Constant (.int i) j pos) (tC (.int i)):=λ_ _ _ H _ I h=>wpAny_Constant_int ⟨.int i,H,I.tok _,⟨_,rfl⟩,h⟩
def yi{b j pos}:PE X (.Constant (.bool b) j pos) (tC (.bl b)):=λ_ _ _ H _ I h=>Constant_bool ⟨.bl b,H,I,rfl,h⟩
def GA{j pos}:PE X (.Constant .none j pos) (tC .non):=λ_ _ _ H _ I h=>Constant_none ⟨.non,H,I,rfl,h⟩
def Gl(X:Cx)(x:Str):Prop:=X.env.kindOf x=some .globalImplicit
def tQ(I:eC X dU σ H s)(b:Gl X x)(c:X.mg x=some u)(h:Q u s)
  (a:(x==("__debug__" : Str))=false:=by decide):wpAny (model X.prog X.w) X.A (eval (.Name x pos) X.env) Q E s:=
 Calls.Name_function_global I.ok.kind b (Calls.loadGlobal_global (by rw[I.ok.glob];exact I.mod.glob.keeps I.bk) c h) a
def mP(I:eC X dU σ H s)(d:Gl X x)(g:X.mg x=none)(a:bootBuiltins x=some u)(h:Q u s)
  (e:x≠ "__name__" :=by decide) (b:(x==("__debug__" : Str))=false:=by decide):wpAny (model X.prog X.w) X.A (eval (.Name x pos) X.env) Q E s:=by
 obtain⟨i,c,f⟩:=I.mod.blt;exact Calls.Name_function_global I.ok.kind d (Calls.loadGlobal_builtin (by rw[I.ok.glob];exact I.mod.glob.keeps I.bk) g (by rw[I.ok.blt];exact c.keeps I.bk) ((f x e).trans a) h) b
def Fh(b:Gl X x)(c:X.mg x=some u)(r:fw v u)(a:(x==("__debug__" : Str))=false:=by decide):PE X (.Name x pos) (tC v):=λ_ _ _ H _ I h=>tQ I b c ⟨v,H,I,r,h⟩ a
def DA(d:Gl X x)(e:X.mg x=none)(a:bootBuiltins x=some u)(r:fw v u)(c:x≠ "__name__" :=by decide)(b:(x==("__debug__" : Str))=false:=by decide):PE X (.Name x pos) (tC v):=λ_ _ _ H _ I h=>mP I d e a ⟨v,H,I,r,h⟩ c b
variable {a b:Expr}{ta tb:TE}{pos:Pos}
def PC(X:Cx)(op:CmpOp)(a b:Expr)(t:TE):Prop:=
 ∀(f:List (Addr×Obj)) (s:Sq) (e:St) (H:Hp) (Q:VK),eC X f e H s->t e H Q->
  wpAny (model X.prog X.w) X.A (eval a X.env) (λv d=>wpAny (model X.prog X.w) X.A (eval b X.env) (λu c=>wpAny (model X.prog X.w) X.A (compareOp op v u) (EP X f e Q) X.xe c) X.xe d) X.xe s
def BG b (h:op≠.In) (c:op≠.NotIn):behindInMarks op b=false:=by
 have e:(op==CmpOp.In)=false:=by cases op<;>first|rfl|exact absurd rfl h
 have d:(op==CmpOp.NotIn)=false:=by cases op<;>first|rfl|exact absurd rfl c
 cases b<;>simp[behindInMarks,e,d]
def F8(ta:TE):TE:=λc H Q=>ta c H λx d=>Q (.bl (!decide (x=.non))) d
def fw.none_iff(r:fw x v):(v==Value.none)=decide (x=.non):=by
 cases x with
 |non=>cases r;rfl
 |bl _=>cases r;rfl
 |int _=>obtain⟨t,rfl⟩:=r;rfl
 |str _=>obtain⟨t,rfl⟩:=r;rfl
 |byt _=>obtain⟨t,rfl⟩:=r;rfl
 |flt _=>obtain⟨t,rfl⟩:=r;rfl
 |ref _=>cases r;rfl
 |ty _=>cases r;rfl
def yH{j pos'}(e:PE X a ta):PC X .IsNot a (.Constant .none j pos') (F8 ta):=by intro d s c H Q I h;refine gj (e d s c H _ I h) λv s1 ⟨x,H1,I1,r1,q1⟩=>?_;exact Constant_none (isnot_none_gen ⟨.bl _,H1,I1,by rw[r1.none_iff];rfl,q1⟩)
def tB(t:TE):TT:=λd H Q=>t d H λx e=>∃c,x=.bl c/\Q c e
def C5(h:PC X op a b t)(e:behindInMarks op b=false:=by first|exact BG _ (by decide) (by decide)|rfl):PT X (.Compare a [op] [b] pos) (tB t):=by intro g s f H Q I hw;refine wpAny_isTrue_Compare1 (gj (h g s f H _ I hw) λv j e=>gj e λu k i=>gj i λc s3 ⟨x,H1,I1,r1,q1⟩=>?_) e;obtain⟨d,rfl,q⟩:=q1;cases r1;exact wpAny_truthy_bool ⟨H1,I1,q⟩
def G2(h:PE X e t)(g:∀c,isTrue e X.env c=(do let v <-c;standAt e.pos;holding [v] (truthy v)):=by intro _;rfl):PT X e (tB t):=by intro i s f H Q I hw;refine isTrue_plain (gj (h i s f H _ I hw) λv s1 ⟨x,H1,I1,r1,q1⟩=>?_) (g _);obtain⟨d,rfl,q⟩:=q1;cases r1;exact wpAny_truthy_bool ⟨H1,I1,q⟩
variable {tA tB':TT}{jy:List Expr}
def Ip(t u:TT):TT:=λd H Q=>t d H λc e=>if c=true then u d e Q else Q false e
def KR(t u:TT):TT:=λd H Q=>t d H λc e=>if c=true then Q true e else u d e Q
def Gp(t:TT):TT:=λd H Q=>t d H λc e=>Q (!c) e
def FA(g:PT X a tA):PW X (.BoolOp .And [a] pos) tA:=by
 intro j f s d H Q I h;refine isTrue_and (gj (g f s d H Q I h) λc i e=>?_);cases c with
 |true=>exact isTrue_and_nil e
 |false=>exact e
def Hf(g:PT X a tA):PW X (.BoolOp .Or [a] pos) tA:=by
 intro j f s d H Q I h;refine isTrue_or (gj (g f s d H Q I h) λc i e=>?_);cases c with
 |false=>exact isTrue_or_nil e
 |true=>exact e
def GW(i:PT X a tA)(f:PW X (.BoolOp .And (b::jy) pos) tB'):PW X (.BoolOp .And (a::b::jy) pos) (Ip tA tB'):=by
 intro g e s d H Q I h;refine isTrue_and (gj (i e s d H _ I h) λc s1 ⟨H1,I1,q1⟩=>?_);cases c with
 |true=>exact f g e s1 d H1 Q I1 q1
 |false=>exact⟨H1,I1,q1⟩
def Ji(i:PT X a tA)(f:PW X (.BoolOp .Or (b::jy) pos) tB'):PW X (.BoolOp .Or (a::b::jy) pos) (KR tA tB'):=by
 intro g e s d H Q I h;refine isTrue_or (gj (i e s d H _ I h) λc s1 ⟨H1,I1,q1⟩=>?_);cases c with
 |true=>exact⟨H1,I1,q1⟩
 |false=>exact f g e s1 d H1 Q I1 q1
def HC(g:PT X a tA):PT X (.UnaryOp .Not a pos) (Gp tA):=by intro e s d H Q I h;exact isTrue_not (g e s d H (λc f=>Q (!c) f) I h)
def Bc(ta tb:TE):TE:=λd H Q=>ta d H λx e=>∃c,x=.bl c/\if c=true then tb d e Q else Q (.bl false) e
def BK(ta:TE):TE:=λd H Q=>ta d H λx e=>∃c,x=.bl c/\Q (.bl (!c)) e
def GE{op}(h:PE X a t):PE X (.BoolOp op [a] pos) t:=λd s c H Q I hw=>BoolOp_one (h d s c H Q I hw)
def Gw(i:PE X a ta)(g:PE X (.BoolOp .And (b::jy) pos) tb):PE X (.BoolOp .And (a::b::jy) pos) (Bc ta tb):=by
 intro f s e H Q I h;refine BoolOp_and (gj (i f s e H _ I h) λv s1 ⟨x,H1,I1,r1,d⟩=>?_);obtain⟨c,rfl,d⟩:=d;cases r1;refine wpAny_truthy_bool ?_;cases c with
 |true=>exact g f s1 e H1 Q I1 d
 |false=>exact⟨.bl false,H1,I1,rfl,d⟩
def HW(g:PE X a ta):PE X (.UnaryOp .Not a pos) (BK ta):=by intro f s e H Q I h;refine UnaryOp_ (gj (g f s e H _ I h) λv s1 ⟨x,H1,I1,r1,d⟩=>?_);obtain⟨c,rfl,d⟩:=d;cases r1;exact not_of (wpAny_truthy_bool ⟨.bl (!c),H1,I1,rfl,d⟩)
end
end L2
namespace L2
open PySem PySem.Spec PyProof.Rows
def iY(K:W.Frag)(H:Hp)(a:Addr)(c:List V):Prop:=
 Rd H a (.lst c)\/
  ∃(o:Obj) (b:Array Vq) (n:Nat),K.lookup a=some o/\o.cls=.type "list" /\o.dict=none/\o.data=.seq b n/\b.size<=sizeLine/\eS c b.toList
def jv(K:W.Frag)(H:Hp)(a:Addr)(c:List V):Prop:=
 Rd H a (.tup c)\/
  ∃(o:Obj) (b:Array Vq) (n:Nat),K.lookup a=some o/\o.cls=.type "tuple" /\o.data=.seq b n/\b.size<=sizeLine/\eS c b.toList
def Kx:Vq->Option V
 |.none=>some .non
 |.bool b=>some (.bl b)
 |.int i _=>some (.int i)
 |.str x _=>some (.str x)
 |.bytes b _=>some (.byt b)
 |.float b _=>some (.flt b)
 |.ref a=>some (.ref a)
 |.type n=>some (.ty n)
 |_=>none
def fw.abs(r:fw x u):Kx u=some x:=by
 cases x with
 |non=>cases r;rfl
 |bl _=>cases r;rfl
 |int _=>obtain⟨t,rfl⟩:=r;rfl
 |str _=>obtain⟨t,rfl⟩:=r;rfl
 |byt _=>obtain⟨t,rfl⟩:=r;rfl
 |flt _=>obtain⟨t,rfl⟩:=r;rfl
 |ref _=>cases r;rfl
 |ty _=>cases r;rfl
def fw.inj(r:fw x u)(q:fw y u):x=y:=Option.some.inj (r.abs.symm.trans q.abs)
theorem eS.inj:∀{xs ys} {us},eS xs us->eS ys us->xs=ys
 |_,_,_,.nil,.nil=>rfl
 |_,_,_,.cons r t,.cons r' t'=>by rw[r.inj r',eS.inj t t']
section
variable {X:Cx}{dU:List (Addr×Obj)}{σ:St}{H:Hp}{s:Sq}{a:Addr}{xs ys:List V}
def iY.of{K:W.Frag}(h:H a=some (.lst xs)):iY K H a xs:=.inl (.inl h)
def jv.of{K:W.Frag}(h:H a=some (.tup xs)):jv K H a xs:=.inl (.inl h)
def eC.list(I:eC X dU σ H s)(h:iY X.K H a xs):∃b:List Vq,eS xs b/\PlainL s.heap a b.toArray/\xs.length<=sizeLine:=by
 rcases h with h|⟨o,b,n,f,g,c,d,i,r⟩
 .obtain⟨z,b,n,r,e⟩:=h.ok I.hok;exact⟨b,r,⟨_,n,e,rfl,rfl,rfl⟩,z⟩
 .refine⟨b.toList,r,⟨o,n,I.kIn a o f,g,c,by simpa using d⟩,?_⟩;have e:=r.length;simp only[bq]at e;omega
def eC.tuple(I:eC X dU σ H s)(h:jv X.K H a xs):∃b:List Vq,eS xs b/\IsTup s.heap a b.toArray/\xs.length<=sizeLine:=by
 rcases h with h|⟨o,b,n,d,f,c,g,r⟩
 .obtain⟨z,b,r,p⟩:=h.ok I.hok;exact⟨b,r,p.tup,z⟩
 .refine⟨b.toList,r,⟨o,I.kIn a o d,f,n,by simpa using c⟩,?_⟩;have e:=r.length;simp only[bq]at e;omega
def eC.list_inj(I:eC X dU σ H s)(h:iY X.K H a xs)(h':iY X.K H a ys):xs=ys:=by
 obtain⟨c,r,⟨o,n,e,_,_,d⟩,_⟩:=I.list h;obtain⟨b,i,⟨l,k,f,_,_,g⟩,_⟩:=I.list h';rw[e]at f;cases f;rw[d]at g;injection g with j _;have:c=b:=by simpa using congrArg Array.toList j
 subst this;exact r.inj i
def eC.tuple_inj(I:eC X dU σ H s)(h:jv X.K H a xs)(h':jv X.K H a ys):xs=ys:=by
 obtain⟨c,r,⟨o,e,_,n,d⟩,_⟩:=I.tuple h;obtain⟨b,i,⟨l,f,_,k,g⟩,_⟩:=I.tuple h';rw[e]at f;cases f;rw[d]at g;injection g with j _;have:c=b:=by simpa using congrArg Array.toList j
 subst this;exact r.inj i
end
noncomputable abbrev Cx.wish(X:Cx)(E:Vq->Shared->Prop):Cx:={X with xe:=E}
abbrev Cx.nox(X:Cx):Cx:=X.wish λ_ _=>False
def Cx.Ok.wish{X:Cx}(ok:X.Ok) E:(X.wish E).Ok:=⟨ok.mod,ok.kind,ok.glob,ok.blt,ok.above,ok.inj,ok.has,ok.cab,ok.hd,ok.frames,ok.stk,ok.exf,ok.bs,ok.bsz,ok.noex,ok.exfs,ok.funs,ok.frf,ok.tab⟩
def Cx.Ok.unwish{X:Cx}(ok:(X.wish E).Ok):X.Ok:=⟨ok.mod,ok.kind,ok.glob,ok.blt,ok.above,ok.inj,ok.has,ok.cab,ok.hd,ok.frames,ok.stk,ok.exf,ok.bs,ok.bsz,ok.noex,ok.exfs,ok.funs,ok.frf,ok.tab⟩
section
variable {X:Cx}{dU:List (Addr×Obj)}{σ:St}{H:Hp}{s:Sq}{E:Vq->Shared->Prop}
def eC.wish(I:eC X dU σ H s) E:eC (X.wish E) dU σ H s:=⟨I.ok.wish E,I.os,I.bare,I.base,I.loc,I.cell,I.free,I.freeC,I.pin,I.hok,I.len⟩
def eC.unwish(I:eC (X.wish E) dU σ H s):eC X dU σ H s:=⟨I.ok.unwish,I.os,I.bare,I.base,I.loc,I.cell,I.free,I.freeC,I.pin,I.hok,I.len⟩
def SP.unwish(h:SP (X.wish E) dU D f s'):SP X dU D f s':=by
 cases f with
 |next=>obtain⟨a,b,I,q⟩:=h;exact⟨a,b,I.unwish,q⟩
 |brk=>obtain⟨a,b,I,q⟩:=h;exact⟨a,b,I.unwish,q⟩
 |cont=>obtain⟨a,b,I,q⟩:=h;exact⟨a,b,I.unwish,q⟩
 |ret u=>obtain⟨v,a,b,I,r,q⟩:=h;exact⟨v,a,b,I.unwish,r,q⟩
def uI.nox{st:List Stmt}(h:uI X.nox st t):uI X st t:=λdU s σ H D I hw=>wpAny_mono (h dU s σ H D (I.wish _) hw) (λ_ _ q=>q.unwish) λ_ _ z=>False.elim z
end
section
variable {X:Cx}{st:Stmt}{jy:List Stmt}{t u:TS}{e:Expr}{te:TE}{pos:Pos}
def yW:TS:=λD a H=>D.nx a H
def uc(t u:TS):TS:=λD a H=>t {D with nx:=u D} a H
def tT:uI X [] yW:=λ_ _ a H _ I h=>wpAny_execs_nil ⟨a,H,I,h⟩
def jj(d:PS X st t)(j:uI X jy u):uI X (st::jy) (uc t u):=by
 intro b s g H D I h;refine wpAny_execs_cons (gj (d b s g H {D with nx:=u D} I h) λf c q=>?_);cases f with
 |next=>obtain⟨a,i,k,q⟩:=q;exact j b c a i D k q
 |ret v=>exact q
 |brk=>exact q
 |cont=>exact q
def jx(a:PS X st t):uI X [st] t:=by
 intro c s b H D I h;refine wpAny_execs_cons (gj (a c s b H D I h) λf d q=>?_);cases f with
 |next=>exact wpAny_execs_nil q
 |ret v=>exact q
 |brk=>exact q
 |cont=>exact q
def eC.quiet(I:eC X dU σ H s):interactive X.env=false:=by simp[interactive,I.ok.kind]
def vS(te:TE):TS:=λD a H=>te a H λ_ b=>D.nx a b
def yB(c:PE X e te)(b:swapsWith e none pos.line X.env=pure false:=by rfl):PS X (.Expr e pos) (vS te):=by intro d s a H D I h;exact wpAny_Expr_any (gj (c d s a H _ I h) λv s1 ⟨x,H1,I1,r1,q1⟩=>⟨a,H1,I1,q1⟩) I.quiet b
def xC(te:TE):TS:=λD a H=>te a H D.rt
def tu(b:PE X e te):PS X (.Return (some e) pos) (xC te):=by intro c s a H D I h;exact wpAny_Return_some (gj (b c s a H _ I h) λv s1 ⟨x,H1,I1,r1,q1⟩=>⟨x,a,H1,I1,r1,q1⟩)
def DQ(c:TT)(t u:TS):TS:=λD a H=>c a H λb d=>if b=true then t D a d else u D a d
def AH(j:PT X c tc)(k:uI X a t)(i:uI X b u):PS X (.If c a b pos) (DQ tc t u):=by
 intro g s f H D I h;refine wpAny_If (gj (j g s f H _ I h) λd s1 ⟨H1,I1,q1⟩=>?_);cases d with
 |true=>exact k g s1 f H1 D I1 q1
 |false=>exact i g s1 f H1 D I1 q1
def xq:TS:=λ_ _ _=>False
def Be:PS X st xq:=λ_ _ _ _ _ _ h=>h.elim
end
abbrev TG:=V->St->Hp->(St->Hp->Prop)->Prop
abbrev Dt:=List V->St->Hp->(St->Hp->Prop)->Prop
def PG(X:Cx)(target:Expr)(t:TG):Prop:=
 ∀(d:List (Addr×Obj)) (s:Sq) (b:St) (H:Hp) (v:V) (u:Vq) (Q:St->Hp->Prop),eC X d b H s->fw v u->t v b H Q->
  wpAny (model X.prog X.w) X.A (assign target X.env u) (λ_ e=>∃a c,eC X d a c e/\Q a c) X.xe s
def IG(X:Cx)(ts:List Expr)(t:Dt):Prop:=
 ∀(e:List (Addr×Obj)) (s:Sq) (b:St) (H:Hp) (c:List V) (f:List Vq) (Q:St->Hp->Prop),eC X e b H s->eS c f->t c b H Q->
  wpAny (model X.prog X.w) X.A (assignInOrder ((assignEach ts X.env).map (·.2)) f) (λ_ g=>∃a d,eC X e a d g/\Q a d) X.xe s
abbrev J3:=V->V->V->Hp->(Hp->Prop)->Prop
def Jx(X:Cx)(t:J3):Prop:=
 ∀(e:List (Addr×Obj)) (s:Sq) (a:St) (H:Hp) (o i v:V) (d b u:Vq) (Q:Hp->Prop),eC X e a H s->fw o d->fw i b->fw v u->t o i v H Q->
  wpAny (model X.prog X.w) X.A (setItem d b u) (λ_ f=>∃c,eC X e a c f/\Q c) X.xe s
section
variable {X:Cx}{pos:Pos}
def fR(i:Nat):TG:=λv a H Q=>Q (a.set i (some v)) H
def nq(c:X.N.Nodup)(b:X.N[i]? = some x)(e:zI X.env.scope x)(a:X.fn x=true\/X.env.scope.names.lookup x=some .local:=by first|exact .inl rfl|exact .inr rfl|assumption):PG X (.Name x pos) (fR i):=by intro j s f H v u Q I r h;exact wpAny_assign_Name (uX I c b e r (λg d=>⟨_,H,d,h⟩) a)
def zh:Dt:=λb a H Q=>b=[]/\Q a H
def qi(t:TG)(u:Dt):Dt:=λc b H Q=>∃v r,c=v::r/\t v b H λa d=>u r a d Q
def yE:IG X [] zh:=by intro c s a H b d Q I r h;obtain⟨e,h⟩:=h;subst e;cases r;exact assignInOrder_nil ⟨a,H,I,h⟩
theorem vm(c:PG X e t)(g:IG X es u)
  (b:(assignEach (e::es) X.env).map (·.2)=assign e X.env::(assignEach es X.env).map (·.2):=by rfl):IG X (e::es) (qi t u):=by
 intro a s d H j k Q I r h;obtain⟨v,i,f,h⟩:=h;subst f;cases r with
 |cons r rr=>rw[b];refine assignInOrder_cons (gj (c a s d H _ _ _ I r h) λ_ s1 ⟨σ1,H1,I1,q1⟩=>?_);exact g a s1 σ1 H1 _ _ Q I1 rr q1
def zf(K:W.Frag)(n:Nat)(t:Dt):TG:=λv c H Q=>∃a b,v=.ref a/\jv K H a b/\b.length=n/\t b c H Q
def Co(p:X.calm=true)(h:IG X es t)
  (l:(assignEach es X.env).length=n:=by rfl) (c:(assignEach es X.env).findIdx? (·.1)=none:=by rfl):PG X (.Tuple es k pos) (zf X.K n t):=by
 intro x s w H v u Q I r hw;obtain⟨a,j,g,i,z,hw⟩:=hw;subst g;cases r;obtain⟨f,d,m,A⟩:=I.tuple i;refine assign_Tuple_tuple (I.ok.hd p) m (by simp[l,<-z,d.length]) c λB y=>?_;have q:=I.kept (t':=s.toks) λb o e=>y b o (aM (aL e)) e;exact h x _ w H j _ Q q (by simpa using d) hw
def GM(to d:TE)(t:J3):TG:=λv a H Q=>to a H λo e=>d a e λi b=>t o i v b λc=>Q a c
def Iz(d:PE X o to)(e:PE X i ti)(c:Jx X t)
  (f:∀v,assign (.Subscript o i pos) X.env v=(do
   let ov <-holding [v] (eval o X.env)
   let iv <-holding [v,ov] (eval i X.env)
   standAt pos
   holding [v,ov,iv] (setItem ov iv v)
   release [v,ov,iv] []):=by intro _;rfl):PG X (.Subscript o i pos) (GM to ti t):=by
 intro b s a H v u Q I r h;rw[f];refine aq (wpAny_holding (gj (d b s a H _ I h) λov s1 ⟨x,H1,I1,r1,q1⟩=>?_));refine aq (wpAny_holding (gj (e b s1 a H1 _ I1 q1) λiv s2 ⟨y,H2,I2,r2,q2⟩=>?_));refine aq (wpAny_standAt (aq (wpAny_holding (gj (c b s2 a H2 x y v ov iv u _ I2 r1 r2 r q2) λ_ s3 ⟨H3,I3,q3⟩=>?_))));exact wpAny_release ⟨a,H3,I3,q3⟩
def jW(b:TE)(g:TG):TS:=λD a H=>b a H λx c=>g x a c D.nx
def He(f:PE X e te)(i:PG X tg g)(c:swapsWithSole [tg] e pos.line X.env=pure false:=by rfl)(hw:swappedStores [tg] e X.env=pure none:=by rfl)
  (d:(assignEach [tg] X.env).map (·.2)=[assign tg X.env]:=by rfl):PS X (.Assign [tg] e pos) (jW te g):=by
 intro b s a H D I h;refine wpAny_Assign_stores (gj (f b s a H _ I h) λv s1 ⟨x,H1,I1,r1,q1⟩=>?_) c hw;rw[d];exact gj (i b s1 a H1 x v _ I1 r1 q1) λ_ j q=>q
def lC(k:X.N.Nodup)(j:X.N[i]? = some x)(l:zI X.env.scope x)(f:PE X e te)(b:swapsWith e (some (.Name x pos')) pos.line X.env=pure false:=by rfl)(a:X.fn x=true\/X.env.scope.names.lookup x=some .local:=by first|exact .inl rfl|exact .inr rfl|assumption) :
  PS X (.Assign [.Name x pos'] e pos) (jW te (fR i)):=by
 intro g s d H D I h;refine wpAny_Assign_Name (gj (f g s d H _ I h) λv s1 ⟨y,H1,I1,r1,q1⟩=>?_) b;exact uX I1 k j l r1 (λm c=>⟨_,H1,c,q1⟩) a
end
section
variable {X:Cx}{pos:Pos}
def xm(c:TT)(h:TS):TS:=λD a H=>∃W:Nat->St->Hp->Prop,(∃m,W m a H)/\∀m a H,W m a H->
 c a H λb f=>if b=true then ∃N:St->Hp->Prop,(∀d e,N d e->∃g,g<m/\W g d e)/\h {D with nx:=N,ct:=N,bk:=D.nx} a f else D.nx a f
def AK(u:PassesOwn (model X.prog X.w) X.A X.env X.xe)(E:PT X c tc)(y:uI X body tb):PS X (.While c body [] pos) (xm tc tb):=by
 intro p s K H D I h;obtain⟨W,⟨B,z⟩,turn⟩:=h;refine wpAny_While (codeAny_whileLoop (λn L=>∃e t,eC X p e t L/\W n e t) ?_ B ⟨K,H,I,z⟩);rintro n J ⟨d,r,F,C⟩;refine wpAny_passesOwn u (gj (E p J d r _ F (turn n d r C)) λb s2 ⟨H2,I2,j⟩=>?_);cases b with
 |true=>
  obtain⟨N,x,j⟩:=j;rw[aQ rfl];refine wpAny_passesOwn u (gj (y p s2 d H2 _ I2 j) λf P i=>?_);cases f with
  |next=>obtain⟨a,g,k,l⟩:=i;obtain⟨m,q,o⟩:=x a g l;exact⟨m,q,a,g,k,o⟩
  |cont=>obtain⟨a,g,k,l⟩:=i;obtain⟨m,q,o⟩:=x a g l;exact⟨m,q,a,g,k,o⟩
  |brk=>exact i
  |ret v=>exact i
 |false=>rw[aR aH];exact wpAny_execs_nil ⟨d,H2,I2,j⟩
end
structure It where
 go:Nat->Hp->Prop
 yld:Nat->Hp->V->Hp->Prop
 stop:Nat->Hp->Prop
def pI(X:Cx)(a:List (Addr×Obj))(H:Hp)(b:Addr):Prop:=H b=none/\b≠X.env.locals/\b∉X.fs/\(b∈X.ex\/X.s₀.heap.objs.size<=b)/\(∀x c,X.env.cells.lookup x=some c->c≠b)/\∀p∈X.pn++a,p.1≠b
def eC.fpOk(I:eC X dU σ H s)(a:s.heap.objs.size<=b)(d:H' b=none):pI X dU H' b:=by
 refine⟨d,br (aE I.lt a),I.nofs a,.inr (aN I.sz a),λx c e z=>?_,λp f z=>?_⟩
 .obtain⟨v,q⟩:=I.cell x c e;exact absurd (aE q.lt (by rw[z];exact a)) (a9 _)
 .exact absurd (aE (aL (I.pin p f).1) (by rw[z];exact a)) (a9 _)
structure xJ(P:Program)(w:World)(K:W.Frag)(tg:Expr)(J:It)(fp:List Addr)(it:Addr)(tn:Nat->Heap->Prop):Prop where
 mem:it∈fp
 obj:∀i h,tn i h->∀b∈fp,∃o,h.get? b=some o/\∀v,o.data≠.cell v
 keep:∀i h h',tn i h->(∀b∈fp,∀o,h.get? b=some o->h'.get? b=some o)->tn i h'
 item:∀(X:Cx),X.prog=P->X.w=w->X.K=K->X.calm=true->∀(i:Nat) (dU:List (Addr×Obj)) (s:Sq) (σ:St) (H:Hp) (E:Vq->Shared->Prop),eC X dU σ H s->(∀b∈fp,pI X dU H b)->tn i s.heap->J.go i H->
  wpAny (model P w) X.A (pyNext (.ref it)) (λr s1=>∃u,r=some u/\
   wpAny (model P w) X.A (letOwnedTupleGo tg (.ref it) u) (λ_ s2=>∃x H',eC X dU σ H' s2/\fw x u/\J.yld i H x H'/\tn (i+1) s2.heap/\∀b∈fp,H' b=none) E s1) E s
 done:∀(X:Cx),X.prog=P->X.w=w->X.K=K->X.calm=true->∀(i:Nat) (dU:List (Addr×Obj)) (s:Sq) (σ:St) (H:Hp) (E:Vq->Shared->Prop),eC X dU σ H s->(∀b∈fp,pI X dU H b)->tn i s.heap->J.stop i H->
  wpAny (model P w) X.A (pyNext (.ref it)) (λr s1=>r=none/\eC X dU σ H s1) E s
 self:∀(A:Around) (i:Nat) (s:Sq) (Q:Vq->Shared->Prop) (E:Vq->Shared->Prop),tn i s.heap->Q (.ref it) s->wpAny (model P w) A (pyIter (.ref it)) Q E s
abbrev TI:=St->Hp->(It->Hp->Prop)->Prop
def K8(X:Cx)(e:List (Addr×Obj))(h:St)(i:Expr)(R:It->Hp->Prop)(a:Vq)(f:Sq):Prop:=∃(it:Addr) (d:List Addr) (g:Nat->Heap->Prop) (J:It) (c:Hp),a=.ref it/\eC X e h c f/\xJ X.prog X.w X.K i J d it g/\g 0 f.heap/\(∀b∈d,pI X e c b)/\R J c
def PI(X:Cx)(f a:Expr)(e:TI):Prop:=
 ∀(c:List (Addr×Obj)) (s:Sq) (b:St) (H:Hp) (R:It->Hp->Prop),eC X c b H s->e b H R->
  wpAny (model X.prog X.w) X.A (eval a X.env) (λv d=>wpAny (model X.prog X.w) X.A (pyIter v) (K8 X c b f R) X.xe d) X.xe s
theorem Bu{M:Model}{A:Around}{E:Vq->Shared->Prop}{s:Sq}{b:Expr}{it:Addr}{u:Vq}{o:Obj}{n:String}{vs:Array Vq}{Q:Unit->Shared->Prop}(d:s.heap.get? it=some o)(e:o.cls=.type n)(c:o.data=.fields vs)
    (f:["enumerate", "zip", "dict_itemiterator", "dict_reverseitemiterator", "odict_iterator", "itertools.zip_longest", "itertools.pairwise"].contains n=false) (a:Q () s):wpAny M A (letOwnedTupleGo b (.ref it) u) Q E s:=by
  unfold letOwnedTupleGo;cases b<;>first
    |exact ao a
    | (cases u<;>first
        |exact ao a
        | (refine aq (wpAny_load d ?_)
           rw[e,c]
           show wpAny M A (if (["enumerate", "zip", "dict_itemiterator", "dict_reverseitemiterator", "odict_iterator", "itertools.zip_longest", "itertools.pairwise"].contains n&&vs[0]? == some (rawInt _))=true then _ else _) Q E s
           rw[aR (by intro h;rw[f,Bool.false_and]at h;cases h)]
           exact ao a))
noncomputable def Kg(K:W.Frag)(a:Addr):It:=⟨λi H=>∃b x,iY K H a b/\b[i]? = some x,λi H x c=>c=H/\∀b,iY K H a b->b[i]? = some x,λi H=>∃b,iY K H a b/\b.length<=i⟩
noncomputable def KB(K:W.Frag)(a:Addr):It:=⟨λi H=>∃b x,jv K H a b/\b[i]? = some x,λi H x c=>c=H/\∀b,jv K H a b->b[i]? = some x,λi H=>∃b,jv K H a b/\b.length<=i⟩
noncomputable def Jt(a:Int)(n:Nat):It:=⟨λi _=>i<n,λi H x b=>b=H/\x=.int (a+i),λi _=>n<=i⟩
def zV{K:W.Frag} a it:xJ P w K tg (Kg K a) [it] it (λi h=>h.IsListIter it a i) where
 mem:=by simp
 obj:=λi h f b g=>by
  have e:b=it:=by simpa using g
  subst e;obtain⟨o,e,c,d⟩:=f;exact⟨o,e,λv z=>by rw[d]at z;cases z⟩
 keep:=λi h L f k=>f.at λo e=>k it (by simp) o e
 item:=by intro X C hw D N i dU s σ H E I m f A;subst C hw D;obtain⟨S,x,l,J⟩:=A;obtain⟨n,r,p,hz⟩:=I.list l;obtain⟨u,U,Q⟩:=r.get J;obtain⟨t,q,Y,B,F,y⟩:=m it (by simp);refine wpAny_pyNext_list_item f p.isList (by simpa using U) λL j R=>?_;have I1:=I.turned (t':=s.toks) (λb o g e=>(R.2 b g).trans e) t q B F y;obtain⟨o,e,c,d⟩:=id j;exact⟨u,rfl,Bu e c d (by decide) ⟨x,H,I1,Q,⟨rfl,λys hy=>by rw[I.list_inj hy l];exact J⟩,j,λb g=>(m b g).1⟩⟩
 done:=by intro X C hw D N i dU s σ H E I m f A;subst C hw D;obtain⟨S,l,J⟩:=A;obtain⟨n,r,p,hz⟩:=I.list l;obtain⟨t,q,Y,B,F,y⟩:=m it (by simp);have hl:=r.length;exact wpAny_pyNext_list_end (I.ok.hd N) f p.isList (by simp;omega) λL Z=>⟨rfl,I.turned (λb o g e=>Z b o g e) t q B F y⟩
 self:=λ_ _ _ _ _ f h=>wpAny_pyIter_listiter f h
def xB{K:W.Frag} a it:xJ P w K tg (KB K a) [it] it (λi h=>h.IsTupleIter it a i) where
 mem:=by simp
 obj:=λi h f b g=>by
  have e:b=it:=by simpa using g
  subst e;obtain⟨o,e,c,d⟩:=f;exact⟨o,e,λv z=>by rw[d]at z;cases z⟩
 keep:=λi h L f k=>f.at λo e=>k it (by simp) o e
 item:=by intro X C hw D N i dU s σ H E I m f A;subst C hw D;obtain⟨S,x,l,J⟩:=A;obtain⟨n,r,p,hz⟩:=I.tuple l;obtain⟨u,U,Q⟩:=r.get J;obtain⟨t,q,Y,B,F,y⟩:=m it (by simp);refine wpAny_pyNext_tuple_item f (p) (by simpa using U) λL j R=>?_;have I1:=I.turned (t':=s.toks) (λb o g e=>(R.2 b g).trans e) t q B F y;obtain⟨o,e,c,d⟩:=id j;exact⟨u,rfl,Bu e c d (by decide) ⟨x,H,I1,Q,⟨rfl,λys hy=>by rw[I.tuple_inj hy l];exact J⟩,j,λb g=>(m b g).1⟩⟩
 done:=by intro X C hw D N i dU s σ H E I m f A;subst C hw D;obtain⟨S,l,J⟩:=A;obtain⟨n,r,p,hz⟩:=I.tuple l;obtain⟨t,q,Y,B,F,y⟩:=m it (by simp);have hl:=r.length;exact wpAny_pyNext_tuple_end (I.ok.hd N) f (p) (by simp;omega) λL Z=>⟨rfl,I.turned (λb o g e=>Z b o g e) t q B F y⟩
 self:=λ_ _ _ _ _ f h=>wpAny_pyIter_tupleiter f h
def wJ{K:W.Frag} it lo n:xJ P w K tg (Jt lo n) [it] it (λi h=>IsRangeIter h it (lo+(i:Nat)*1) ((n:Int)-(i:Nat)) 1) where
 mem:=by simp
 obj:=λi h a b c=>by
  have e:b=it:=by simpa using c
  subst e;exact⟨_,a,λv z=>by have C:=z;cases C⟩
 keep:=λi h q a k=>k it (by simp) _ a
 item:=by intro X u hw x r i B s A H E I f a m;subst u hw x;obtain⟨j,g,F,p,y,l⟩:=f it (by simp);have W:=Walks.range (prog:=X.prog) (w:=X.w) (I.ok.hd r) it lo 1 n;refine W.item i s _ _ m a λv q L D d Q=>?_;obtain⟨t,rfl⟩:=D;have N:eC X B A H {s with heap:=q,toks:=L}:=I.turned (λb o c e=>Q b o (by simpa using c) e) j g p y l;refine⟨_,rfl,Bu d rfl rfl (by decide) ⟨.int (lo+i),H,N,⟨t,?_⟩,⟨rfl,rfl⟩,d,λb c=>(f b c).1⟩⟩;rw[Int.mul_one]
 done:=by intro X u hw x r i B s A H E I f a m;subst u hw x;obtain⟨j,g,F,p,y,l⟩:=f it (by simp);exact wpAny_pyNext_range_end (I.ok.hd r) a (by have:n<=i:=m;omega) λq J=>⟨rfl,I.turned (λb o c e=>J b o c e) j g p y l⟩
 self:=λ_ _ _ _ _ a h=>wpAny_pyIter_rangeiter a h
end L2
namespace L2
open PySem PySem.Spec PyProof.Rows
section
variable {X:Cx}{tg:Expr}
def vp(K:W.Frag)(e:TE):TI:=λd H R=>e d H λx b=>∃a,x=.ref a/\(∃c,iY K b a c)/\R (Kg K a) b
def G1(K:W.Frag)(e:TE):TI:=λd H R=>e d H λx b=>∃a,x=.ref a/\(∃c,jv K b a c)/\R (KB K a) b
def tY(j:PE X l tl):PI X tg l (vp X.K tl):=by
 intro i s g H R I h;refine gj (j i s g H _ I h) λv s1 ⟨x,H1,I1,r1,q1⟩=>?_;obtain⟨a,e,⟨k,f⟩,q⟩:=q1;subst e;cases r1;obtain⟨d,m,p,n⟩:=I1.list f;refine wpAny_pyIter_list p.isList ?_;refine⟨s1.heap.objs.size,[s1.heap.objs.size],_,_,H1,rfl,I1.kept λb o e=>ae _ e,zV a _,⟨_,au _ rfl,rfl,rfl⟩,λb c=>?_,q⟩;have e:b=s1.heap.objs.size:=by simpa using c
 subst e;exact I1.fpOk (aK _) (I1.hok.fresh (aK _))
def HJ(j:PE X l tl):PI X tg l (G1 X.K tl):=by
 intro i s g H R I h;refine gj (j i s g H _ I h) λv s1 ⟨x,H1,I1,r1,q1⟩=>?_;obtain⟨a,e,⟨k,f⟩,q⟩:=q1;subst e;cases r1;obtain⟨d,m,p,n⟩:=I1.tuple f;refine wpAny_pyIter_tuple (p) ?_;refine⟨s1.heap.objs.size,[s1.heap.objs.size],_,_,H1,rfl,I1.kept λb o e=>ae _ e,xB a _,⟨_,au _ rfl,rfl,rfl⟩,λb c=>?_,q⟩;have e:b=s1.heap.objs.size:=by simpa using c
 subst e;exact I1.fpOk (aK _) (I1.hok.fresh (aK _))
def Bg{a c:Int}(I:eC X dU σ H s)(i:-(2 ^ 62)<=a)(l:a<2 ^ 62)(g:-(2 ^ 62)<=c)(f:c<2 ^ 62)
  (q:R (Jt a (c-a).toNat) H):wpAny (model X.prog X.w) X.A (pyIter (.ref s.heap.objs.size)) (K8 X dU σ tg R) E {s with heap:=s.heap.push {cls:=.type "range",data:=.fields #[.int a t,.int c u,.int 1 v]},toks:=tk}:=by
 refine wpAny_pyIter_range (IsRange.new ..) (small_one i l g f) ?_;have d:eC X dU σ H {s with heap:=s.heap.push {cls:=.type "range",data:=.fields #[.int a t,.int c u,.int 1 v]},toks:=tk}:=I.kept λb o e=>ae _ e;refine⟨(s.heap.push {cls:=.type "range",data:=.fields #[.int a t,.int c u,.int 1 v]}).objs.size,[(s.heap.push {cls:=.type "range",data:=.fields #[.int a t,.int c u,.int 1 v]}).objs.size],_,_,H,rfl,
  d.kept λb o e=>ae _ e,wJ _ a (c-a).toNat,?_,λb h=>?_,q⟩
 .have k:a+((0:Nat):Int)*1=a:=by simp
  have j:(((c-a).toNat:Nat):Int)-((0:Nat):Int)=Builtin.Range.rangeSize a c 1:=by rw[rangeSize_one];split<;>omega
  rw[k,j];exact au _ rfl
 .have e:b=(s.heap.push {cls:=.type "range",data:=.fields #[.int a t,.int c u,.int 1 v]}).objs.size:=by simpa using h
  subst e;exact d.fpOk (aK _) (d.hok.fresh (aK _))
def A7(d:TA):TI:=λa H R=>d a H λb c=>∃j:Int,b=[.int j]/\-(2 ^ 62)<=j/\j<2 ^ 62/\R (Jt 0 j.toNat) c
def Aj(i:Gl X "range")(l:X.mg "range" = none)(k:PA X [a] ta)(c:starEach [a] X.env=[(false,eval a X.env)]:=by rfl):PI X tg (.Call (.Name "range" p) [a] [] pos) (A7 ta):=by
 intro f s d H R I h;refine Call_ (mP I i l boot_range (PyProof.Rows.callWith_type1 (gj (k pos f s d H _ I h) λus s1 ⟨vs,H1,I1,r1,b⟩=>?_) c rfl));obtain⟨j,e,b,g,q⟩:=b;subst e;cases r1 with
 |cons r rr=>cases rr;obtain⟨t,rfl⟩:=r;exact call_range_1 (Bg I1 (by omega) (by omega) b g (by simpa using q))
def rJ(f:TI)(g:TG)(k:TS):TS:=λD a H=>f a H λJ h=>∃W:Nat->Nat->St->Hp->Prop,(∃m,W 0 m a h)/\∀i m a H,W i m a H->
 (J.stop i H/\D.nx a H)\/(J.go i H/\∃N:St->Hp->Prop,(∀b c,N b c->∃e,e<m/\W (i+1) e b c)/\∀x c,J.yld i H x c->g x a c λd j=>k {D with nx:=N,ct:=N,bk:=D.nx} d j)
noncomputable def qq(a:List Addr)(h:Heap):List (Addr×Obj):=a.filterMap λb=>(h.get? b).map λo=>(b,o)
def kR(a:b∈fp)(e:h.get? b=some o):(b,o)∈qq fp h:=bt.mpr ⟨b,a,by rw[e];rfl⟩
def zG(c:p∈qq fp h):p.1∈fp/\h.get? p.1=some p.2:=by
 obtain⟨b,a,e⟩:=bt.mp c;cases q:h.get? b with
 |none=>rw[q]at e;cases e
 |some o=>rw[q]at e;have d:=Option.some.inj e;subst d;exact⟨a,q⟩
def eC.pinned(I:eC X dU σ H s)(f:∀b∈fp,pI X dU H b)(i:∀b∈fp,∃o,s.heap.get? b=some o/\∀v,o.data≠.cell v):eC X (dU++qq fp s.heap) σ H s:=I.pins_of λp j=>(ai.mp j).elim (λz=>I.pin p (bu _ z)) λz=>by obtain⟨a,e⟩:=zG z;obtain⟨g,k,h,_⟩:=f p.1 a;obtain⟨o,c,d⟩:=i p.1 a;rw[e]at c;cases c;exact⟨e,g,k,h,d⟩
def eC.unpinned(I:eC X (dU++pl) σ H s):eC X dU σ H s:=I.pins_of λp a=>I.pin p (bu _ (ay _ a))
theorem oh(F:PassesOwn (model X.prog X.w) X.A X.env X.xe)(hc:X.calm=true)(hi:PI X tg iter wi)(hg:PG X tg g)(c:uI X body tb)
  (hs:∀x,foldedSetIterable iter X.env x=pure x:=by intro _;rfl):PS X (.For tg iter body [] pos) (rJ wi g tb):=by
 intro B s σ H D I h;refine wpAny_For (gj (hi B s σ H _ I h) λv s1 h1=>gj h1 λitv s2 h2=>?_) hs;obtain⟨it,C,tn,J,H2,e,I2,T,R,Z,W,⟨m0,w0⟩,turn⟩:=h2;subst e;have p:∀{y:Hp},(∀b∈C,y b=none)->∀b∈C,pI X B y b:=λhn b c=>⟨hn b c,(Z b c).2⟩;refine codeAny_forLoop_any (λn s'=>∃i j y,eC X B j y s'/\tn i s'.heap/\(∀b∈C,y b=none)/\W i n j y) ?_ m0 ⟨0,σ,H2,I2,R,λb c=>(Z b c).1,w0⟩;rintro n s3 ⟨i,t,Q,Y,E,P,w3⟩;rcases turn i n t Q w3 with⟨K,qn⟩|⟨go,N,hN,step⟩
 .refine wpAny_passesOwn F (gj (T.done X rfl rfl rfl hc i B s3 t Q X.xe Y (p P) E K) λr s4 ⟨hr,I4⟩=>?_);subst hr;exact wpAny_execs_nil ⟨t,Q,I4,qn⟩
 .refine wpAny_passesOwn F (gj (T.item X rfl rfl rfl hc i B s3 t Q X.xe Y (p P) E go) λr s4 ⟨u,hr,h4⟩=>?_);subst hr;refine wpAny_passesOwn F (gj h4 λ_ s5 ⟨x,H5,I5,r5,y5,st5,fr5⟩=>?_);have U:=I5.pinned (p fr5) (T.obj _ _ st5);refine wpAny_passesOwn F (gj (hg _ s5 t H5 x u _ U r5 (step x H5 y5)) λ_ s6 ⟨σ6,H6,I6,q6⟩=>?_);refine wpAny_passesOwn F (gj (c _ s6 σ6 H6 _ I6 q6) λf S z=>?_);have k:∀{a:St} {l:Hp},eC X (B++qq C s5.heap) a l S->N a l->∃m,m<n/\∃i j y,eC X B j y S/\tn i S.heap/\(∀b∈C,y b=none)/\W i m j y:=λ{a l} q L=>by obtain⟨m',hm,w7⟩:=hN a l L;refine⟨m',hm,i+1,a,l,q.unpinned,T.keep _ _ _ st5 λb c o e=>(q.pin (b,o) (bu _ (bu _ (kR c e)))).1,λb c=>?_,w7⟩;obtain⟨o,e,d⟩:=T.obj _ _ st5 b c;exact (q.pin (b,o) (bu _ (bu _ (kR c e)))).2.1
  cases f with
  |next=>obtain⟨a,l,q,L⟩:=z;exact k q L
  |cont=>obtain⟨a,l,q,L⟩:=z;exact k q L
  |brk=>obtain⟨a,l,q,z⟩:=z;exact⟨a,l,q.unpinned,z⟩
  |ret v=>obtain⟨x7,a,l,q,r7,z⟩:=z;exact⟨x7,a,l,q.unpinned,r7,z⟩
end
end L2
namespace L2
open PySem PySem.Spec PyProof.Rows
abbrev R2:=V->V->Hp->VK->Prop
def l9(X:Cx)(f:Vq->Value->Sem Value)(r:R2):Prop:=
 ∀(b:List (Addr×Obj)) (s:Sq) (a:St) (H:Hp) (x y:V) (v u:Vq) (Q:VK),eC X b a H s->fw x v->fw y u->r x y H Q->
  wpAny (model X.prog X.w) X.A (f v u) (EP X b a Q) X.xe s
def Ko(X:Cx)(f:Vq->Sem Value)(r:V->Hp->VK->Prop):Prop:=
 ∀(b:List (Addr×Obj)) (s:Sq) (a:St) (H:Hp) (x:V) (v:Vq) (Q:VK),eC X b a H s->fw x v->r x H Q->
  wpAny (model X.prog X.w) X.A (f v) (EP X b a Q) X.xe s
def iS(X:Cx)(f:Vq)(r:List V->Hp->VK->Prop):Prop:=
 ∀(c:List (Addr×Obj)) (s:Sq) (b:St) (H:Hp) (a:List V) (d:List Vq) (Q:VK),eC X c b H s->eS a d->r a H Q->
  wpAny (model X.prog X.w) X.A (call f d) (EP X c b Q) X.xe s
def pP(r:R2)(e c:TE):TE:=λa H Q=>e a H λx d=>c a d λy b=>r x y b Q
def KP(r:V->Hp->VK->Prop)(c:TE):TE:=λa H Q=>c a H λx b=>r x b Q
def rI(C:Int->Int->Prop)(g:Int->Int->V):R2:=λx y H Q=>∃i j,x=.int i/\y=.int j/\C i j/\Q (g i j) H
def uR(g:Int->Int->V):R2:=λx y H Q=>∃i j,x=.int i/\y=.int j/\Q (g i j) H
def rU(g:Int->V):V->Hp->VK->Prop:=λx H Q=>∃i,x=.int i/\Q (g i) H
section
variable {X:Cx}{a b c:Expr}{ta tb tc:TE}{pos:Pos}
def GZ(m:PE X a ta)(k:PE X b tb){R:V->V->Hp->Prop}(I:eC X dU σ H s)
  (h:ta σ H λx j=>tb σ j λy d=>R x y d) {f:Vq->Value->Sem Value}
  (l:∀v u i x y d,eC X dU σ d i->fw x v->fw y u->R x y d->wpAny (model X.prog X.w) X.A (f v u) Q X.xe i) :
  wpAny (model X.prog X.w) X.A (eval a X.env) (λv g=>wpAny (model X.prog X.w) X.A (eval b X.env) (λu e=>wpAny (model X.prog X.w) X.A (f v u) Q X.xe e) X.xe g) X.xe s:=by
 refine gj (m dU s σ H _ I h) λv s1 ⟨x,j,I1,r1,q1⟩=>?_;refine gj (k dU s1 σ j _ I1 q1) λu i ⟨y,d,I2,r2,q2⟩=>?_;exact l v u i x y d I2 r1 r2 q2
def B3(g:l9 X (binaryOp op) r)(k:PE X a ta)(d:PE X b tb):PE X (.BinOp a op b pos) (pP r ta tb):=by intro n s m H Q I h;exact wpAny_BinOp (GZ k d I h λv u j x y f i l e q=>g n j m f x y v u Q i l e q)
def FR(g:Ko X (unaryOp op) r)(f:PE X a ta):PE X (.UnaryOp op a pos) (KP r ta):=by intro e s d H Q I h;exact UnaryOp_ (gj (f e s d H _ I h) λv s1 ⟨x,H1,I1,r1,q1⟩=>g e s1 d H1 x v Q I1 r1 q1)
def IF{g:Int->Int->Int}
  (d:∀i j t u s Q E,C i j->Q (.int (g i j) s.toks) {s with toks:=s.toks+1}->wpAny (model X.prog X.w) X.A (f (.int i t) (.int j u)) Q E s) :
  l9 X f (rI C λi j=>.int (g i j)):=by
 intro o s n H x y v u Q I m e h;obtain⟨i,j,rfl,rfl,l,q⟩:=h;obtain⟨t,rfl⟩:=m;obtain⟨k,rfl⟩:=e;exact d i j t k s _ _ l ⟨.int (g i j),H,I.tok _,⟨_,rfl⟩,q⟩
def GF{g:Int->Int->Int}
  (d:∀i j t u s Q E,Q (.int (g i j) s.toks) {s with toks:=s.toks+1}->wpAny (model X.prog X.w) X.A (f (.int i t) (.int j u)) Q E s) :
  l9 X f (uR λi j=>.int (g i j)):=by
 intro n s m H x y v u Q I l e h;obtain⟨i,j,rfl,rfl,q⟩:=h;obtain⟨t,rfl⟩:=l;obtain⟨k,rfl⟩:=e;exact d i j t k s _ _ ⟨.int (g i j),H,I.tok _,⟨_,rfl⟩,q⟩
def EO{g:Int->Int->Bool}
  (d:∀(i j:Int) (t u:Tok) (s:Sq) (Q:Vq->Shared->Prop) (E:Vq->Shared->Prop),Q (.bool (g i j)) s->wpAny (model X.prog X.w) X.A (f (.int i t) (.int j u)) Q E s) :
  l9 X f (uR λi j=>.bl (g i j)):=by
 intro n s m H x y v u Q I l e h;obtain⟨i,j,rfl,rfl,q⟩:=h;obtain⟨t,rfl⟩:=l;obtain⟨k,rfl⟩:=e;exact d i j t k s _ _ ⟨.bl (g i j),H,I,rfl,q⟩
def ET(i j:Int):Prop:=0<=j/\j<=1000000/\i.natAbs<2 ^ 64
def xK k:(0:Int)<=2 ^ k:=by rw[two_pow_cast];exact bx _
def Hc:l9 X (binaryOp .Add) (uR λi j=>.int (i+j)):=GF λ_ _ _ _ _ _ _ q=>add_int q
def HH:l9 X (binaryOp .Sub) (uR λi j=>.int (i-j)):=GF λ_ _ _ _ _ _ _ q=>sub_int q
def Fq:l9 X (binaryOp .Mod) (rI (λ_ j=>j≠0) λi j=>.int (i.fmod j)):=IF λ_ _ _ _ _ _ _ d q=>mod_int' d q
def Io:l9 X (binaryOp .Pow) (rI ET λi j=>.int (i ^ j.toNat)):=IF λ_ _ _ _ _ _ _ d q=>pow_int_small d.1 d.2.1 d.2.2 q
def Gs:l9 X (binaryOp .LShift) (rI ET λi j=>.int (i*2 ^ j.toNat)):=IF λ_ _ _ _ _ _ _ d q=>lshift_int_small d.1 d.2.1 d.2.2 q
def GK:l9 X (binaryOp .RShift) (rI (λ_ j=>0<=j) λi j=>.int (i / 2 ^ j.toNat)):=IF λi j _ _ _ _ _ d q=>rshift_int d (by rw[Int.fdiv_eq_ediv_of_nonneg i (xK _)];exact q)
def GI:l9 X (binaryOp .BitAnd) (uR λi j=>.int (Builtin.bitAnd i j)):=GF λ_ _ _ _ _ _ _ q=>and_int q
def Lw{g:Int->Int}
  (d:∀i t s Q E,Q (.int (g i) s.toks) {s with toks:=s.toks+1}->wpAny (model X.prog X.w) X.A (f (.int i t)) Q E s) :
  Ko X f (rU λi=>.int (g i)):=by
 intro k s j H x v Q I e h;obtain⟨i,rfl,q⟩:=h;obtain⟨t,rfl⟩:=e;exact d i t s _ _ ⟨.int (g i),H,I.tok _,⟨_,rfl⟩,q⟩
def BD:Ko X (unaryOp .USub) (rU λi=>.int (-i)):=Lw λ_ _ _ _ _ q=>neg_int q
end
section
variable {X:Cx}{a b c:Expr}{ta tb tc:TE}{pos:Pos}
def Ga:l9 X (compareOp .Lt) (uR λi j=>.bl (decide (i<j))):=EO λ_ _ _ _ _ _ _ q=>lt_int q
def Gc:l9 X (compareOp .LtE) (uR λi j=>.bl (decide (i<=j))):=EO λ_ _ _ _ _ _ _ q=>le_int q
def FU:l9 X (compareOp .Gt) (uR λi j=>.bl (decide (j<i))):=EO λ_ _ _ _ _ _ _ q=>gt_int q
def F9:l9 X (compareOp .GtE) (uR λi j=>.bl (decide (j<=i))):=EO λ_ _ _ _ _ _ _ q=>ge_int q
def n5 b (h:op≠.In:=by decide) (h2:op≠.NotIn:=by decide):behindInMarks op b=false:=by
 have e1:(op==CmpOp.In)=false:=by cases op<;>first|rfl|exact absurd rfl h
 have e2:(op==CmpOp.NotIn)=false:=by cases op<;>first|rfl|exact absurd rfl h2
 cases b<;>simp[behindInMarks,e1,e2]
def FF(g:l9 X (compareOp op) r)(k:PE X a ta)(d:PE X b tb)(o:behindInMarks op b=false):PE X (.Compare a [op] [b] pos) (pP r ta tb):=by intro n s m H Q I h;exact wpAny_Compare1 (GZ k d I h λv u j x y f i l e q=>g n j m f x y v u Q i l e q) o
def vt(t:TE):TT:=λd H Q=>t d H λx e=>∃k,x=.bl k/\Q k e
def EY(i:l9 X (compareOp op) r)(j:PE X a ta)(g:PE X b tb)(l:behindInMarks op b=false):PT X (.Compare a [op] [b] pos) (vt (pP r ta tb)):=by
 intro f s d H Q I h;refine wpAny_isTrue_Compare1 (gj (j f s d H _ I h) λv s1 ⟨x,H1,I1,r1,q1⟩=>gj (g f s1 d H1 _ I1 q1) λu s2 ⟨y,H2,I2,r2,q2⟩=>gj (i f s2 d H2 x y v u _ I2 r1 r2 q2) λc s3 ⟨z,H3,I3,r3,k,e,q3⟩=>?_) l
 subst e;cases r3;exact wpAny_truthy_bool ⟨H3,I3,q3⟩
def wX(r h:R2)(ta tb tc:TE):TE:=λd H Q=>ta d H λx j=>tb d j λy f=>r x y f λz e=>∃k,z=.bl k/\
 (if k=true then tc d e λi g=>h y i g Q else Q (.bl false) e)
theorem Az(l:l9 X (compareOp op) r)(i:l9 X (compareOp op') r')(n:PE X a ta)(j:PE X b tb)(m:PE X c tc)
  (o:lastMarks [op,op'] [b,c]=false:=by with_unfolding_all rfl):PE X (.Compare a [op,op'] [b,c] pos) (wX r r' ta tb tc):=by
 intro g s f H Q I h;refine Compare_chain (gj (n g s f H _ I h) λv s1 ⟨x,H1,I1,r1,q1⟩=>chain_link (gj (j g s1 f H1 _ I1 q1) λu s2 ⟨y,H2,I2,r2,q2⟩=>gj (l g s2 f H2 x y v u _ I2 r1 r2 q2) λd s3 ⟨z,H3,I3,r3,k,e,q3⟩=>?_)) o
 subst e;cases r3;refine wpAny_truthy_bool ?_;cases k with
 |false=>exact ite_ff ⟨.bl false,H3,I3,rfl,q3⟩
 |true=>exact ite_tt (chain_last (gj (m g s3 f H3 _ I3 q3) λw' s4 ⟨z',H4,I4,r4,q4⟩=>i g s4 f H4 y z' u w' Q I4 r2 r4 q4))
def ud:(sizeLine:Nat)<2 ^ 63:=by rw[sizeLine_eq];decide
def wK:l9 X (binaryOp .Add) (λx y H Q=>∃i j,x=.str i/\y=.str j/\i.length+j.length<=sizeLine/\Q (.str (i++j)) H):=by intro m s l H x y v u Q I g d h;obtain⟨i,j,rfl,rfl,f,q⟩:=h;obtain⟨t,rfl⟩:=g;obtain⟨e,rfl⟩:=d;exact add_str (λe k=>⟨.str (i++j),H,I.tok _,⟨_,rfl⟩,q⟩) f
def pb(r:eS [x] us):∃u,us=[u]/\fw x u:=by
 cases r with
 |cons r1 r2=>cases r2;exact⟨_,rfl,r1⟩
def Jv(r:eS [x,y] us):∃u d,us=[u,d]/\fw x u/\fw y d:=by
 cases r with
 |cons r1 r2=>
  cases r2 with
  |cons r3 r4=>cases r4;exact⟨_,_,rfl,r1,r3⟩
def vy:iS X (.builtin "abs") (λd H Q=>∃i,d=[.int i]/\Q (.int (if i<0 then -i else i)) H):=by intro f s e H d j Q I r h;obtain⟨i,rfl,q⟩:=h;obtain⟨u,rfl,t,rfl⟩:=pb r;exact call_abs_int λu g=>⟨.int (if i<0 then -i else i),H,I.tok _,⟨_,rfl⟩,q⟩
def GY(K:W.Frag)(x:V)(H:Hp)(n:Nat):Prop:=
 match x with
 |.str y=>y.length<=sizeLine/\n=y.length
 |.byt y=>y.size<=sizeLine/\n=y.size
 |.ref p=>(∃d,iY K H p d/\n=d.length)\/∃d,jv K H p d/\n=d.length
 |_=>False
def B8:iS X (.builtin "len") (λf H Q=>∃x n,f=[x]/\GY X.K x H n/\Q (.int n) H):=by
 intro z s w H f A Q I r h;obtain⟨x,n,rfl,e,q⟩:=h;obtain⟨u,rfl,k⟩:=pb r;have v:=sizeLine_eq;cases x with
 |str y=>obtain⟨t,rfl⟩:=k;obtain⟨hy,d⟩:y.length<=sizeLine/\n=y.length:=e;subst d;exact len_str (by omega) ⟨.int _,H,I.tok _,⟨_,rfl⟩,q⟩
 |byt y=>obtain⟨t,rfl⟩:=k;obtain⟨hy,d⟩:y.size<=sizeLine/\n=y.size:=e;subst d;exact W.len_bytes (by omega) ⟨.int _,H,I.tok _,⟨_,rfl⟩,q⟩
 |ref p=>
  cases k;have d:=e;rcases d with⟨f,m,d⟩|⟨f,m,d⟩
  .subst d;obtain⟨g,j,i,o⟩:=I.list m;have l:=j.length;exact Calls.call_len_list i.isList (by simp only[bz];omega) ⟨.int f.length,H,I.tok _,⟨_,by simp only[bz];rw[l]⟩,q⟩
  .subst d;obtain⟨g,j,i,o⟩:=I.tuple m;have l:=j.length;exact len_tuple i (by simp only[bz];omega) ⟨.int f.length,H,I.tok _,⟨_,by simp only[bz];rw[l]⟩,q⟩
 |_=>exact (e).elim
end
end L2
namespace L2
open PySem PySem.Spec PyProof.Rows
structure xr(h:Heap)(x dx C:Addr)(mA:Str->Option Value):Prop where
 obj:h.get? x=some (W.instObj C dx)
 ns:h.Ns1 dx mA
 ne:dx≠x
def zU{h:Heap}(n:h.Ns1 dx mA):∃d,h.get? dx=some d/\∀b,W.lookIn b d=some (mA b):=by
 obtain⟨o,f,p,i,k,g,_,m⟩:=n;refine⟨o,i,λb=>?_⟩;have e:=m b;unfold nsFind findBy at e;rw[<-Array.find?_toList]at e;unfold W.lookIn;rw[k];dsimp only;split
 .rename_i y q;rw[q]at e;exact congrArg some e
 .rename_i q;rw[q]at e;have a:f.toList.any (·.refKey)=false:=by rw[bA];intro y l;obtain⟨z,t,c⟩:=g y (Array.mem_toList_iff.mp l);simp[DictEntry.refKey,c]
  have j:¬f.toList.any (·.refKey)=true:=by rw[a];exact aH
  rw[aR j];exact congrArg some e
def xr.look(I:xr h x dx C mA):∃b,W.InstAt h x (W.instObj C dx) C (some b)/\∀a,W.lookIn a b=some (mA a):=
 let ⟨b,ho,hl⟩:=zU I.ns
 ⟨b,⟨I.obj,rfl,rfl,ho⟩,hl⟩
section
variable {prog:Program}{w:World}{A:Around}{E:Vq->Shared->Prop}{s:Sq}{K:W.Frag}{x dx C f:Addr}{mA:Str->Option Value}{name:Str}{v:Vq}
def E3(X:K.In s.heap)(I:xr s.heap x dx C mA)(c:W.plainGet K C name=true)(e:W.hasDictIn K C=true)
  (d:W.findIn K (.ref C) name=some none) (b:mA name=some v) (a:W.handedIn v=true) (h:Q v {s with toks:=s.toks+1}) :
  wpAny (model prog w) A (getAttr (.ref x) name expr) Q E s:=by
 obtain⟨i,J,g⟩:=I.look;exact W.get_value X J (W.plainGet_of c).1 (W.findObj_own e d rfl (by rw[g,b])) a h
def AL(X:K.In s.heap)(I:xr s.heap x dx C mA)(a:W.plainGet K C name=true)
  (b:W.findIn K (.ref C) name=some (some (.ref f))) (d:W.isFn K (.ref f)=true) (c:mA name=none) (h:Q (.ref f,[.ref x]) s) :
  wpAny (model prog w) A (getMethod (.ref x) name pl) Q E s:=by
 obtain⟨e,J,g⟩:=I.look;exact W.method_fn X J (W.plainGet_of a).1 (W.plainGet_of a).2 b (beq_iff_eq.mp d) (by show (W.lookIn name e).map (·.isSome)=some false;rw[g,c];rfl) h
def FG(X:K.In s.heap)(I:xr s.heap x dx C mA)
  (p:W.findIn K (.ref C) "__setattr__" = some (some (.builtin "object.__setattr__"))) (m:W.plainOver K C=true) (n:W.takerIn K C name=some none) (l:W.hasDictIn K C=true)
  (hw:PySem.Within mA ns) (hsz:ns.length<=sizeLine)
  (h:∀h',xr h' x dx C (λy=>if y=name then some v else mA y)->Heap.SameBut dx s.heap h'->Q () {s with heap:=h',toks:=s.toks+2}) :
  wpAny (model prog w) A (setAttr (.ref x) name v) Q E s:=by
 obtain⟨t,J,z⟩:=I.look;refine W.set_plain X J p (W.osa_open X J m n λb=>?_);obtain⟨r,o,g⟩:=W.any_some l;have q:=I.obj;refine aq (ao (aq (aq (wpAny_loadPart q (aq (W.Looks.here (W.looks_clsIn X o) ?_))))));rw[g];refine ao (aq (ao (aq ?_)));refine wpAny_nsSet1 I.ns λh' c a=>?_;obtain⟨u,j,k,i,d,e⟩:=c.count (PySem.Within.cons name v hw);refine aq (wpAny_lookBehind i (by rw[d];exact pastItsLine_dict (aN e (by rw[az];omega))) ?_);exact ao (h _ ⟨(a.2 _ (Ne.symm I.ne)).trans I.obj,c,I.ne⟩ a)
def BU(X:K.In s.heap)(e:W.makesIn K C=true)
  (c:W.findIn K (.ref C) "__init__" = some (some (.ref f))) (b:W.typeIn K (.ref f)=some (.type "function"))
  (h:codeAny (model prog w) (A.under (.builtin "type.__call__" ⟨.ref C::vs,kw⟩)) (.call (.ref f) ⟨.ref (s.heap.objs.size+1)::vs,kw⟩) (W.InitBack (s.heap.objs.size+1) R)
   {s with heap:=(s.heap.push W.emptyDict).push (W.instObj C s.heap.objs.size)}) :
  codeAny (model prog w) A (.call (.ref C) ⟨vs,kw⟩) R s:=by
 obtain⟨j,g,d,t,i⟩:=s;exact W.make_core (W.makes_of X e) (W.looks_findIn X c) (λa=>W.bind_fn X a b) (.inl rfl) h
end
def lh(f:Str)(v:V):List (Str×V)->List (Str×V)
 |[]=>[(f,v)]
 | (g,x)::r=>if g=f then (g,v)::r else (g,x)::lh f v r
theorem pD f g v:∀fs:List (Str×V),(lh f v fs).lookup g=if g=f then some v else fs.lookup g
 |[]=>by
  show List.lookup g [(f,v)]=_;by_cases h:g=f
  .have a:=beq_iff_eq.mpr h;simp only[List.lookup,a,aQ h]
  .have a:=beq_eq_false_iff_ne.mpr h;simp only[List.lookup,a,aR h]
 | (k,x)::r=>by
  have c:=pD f g v r;rw[show lh f v ((k,x)::r)=(if k=f then (k,v)::r else (k,x)::lh f v r) from rfl];by_cases b:k=f
  .rw[aQ b];by_cases h:g=k
   .have a:=beq_iff_eq.mpr h;simp only[List.lookup,a,aQ (h.trans b)]
   .have a:=beq_eq_false_iff_ne.mpr h;simp only[List.lookup,a,aR (λe:g=f=>h (e.trans b.symm))]
  .rw[aR b];by_cases h:g=k
   .have a:=beq_iff_eq.mpr h;simp only[List.lookup,a,aR (λe:g=f=>b (h.symm.trans e))]
   .have a:=beq_eq_false_iff_ne.mpr h;simp only[List.lookup,a];exact c
theorem n0 f v:∀fs:List (Str×V),f∈(lh f v fs).map (·.1)/\∀g,g∈fs.map (·.1)->g∈(lh f v fs).map (·.1)
 |[]=>⟨by simp[lh],λg h=>by simp at h⟩
 | (k,x)::r=>by
  obtain⟨i1,i2⟩:=n0 f v r;rw[show lh f v ((k,x)::r)=(if k=f then (k,v)::r else (k,x)::lh f v r) from rfl];by_cases hk:k=f
  .rw[aQ hk];subst hk;exact⟨by simp,λg h=>by simpa using h⟩
  .rw[aR hk];refine⟨?_,λg h=>?_⟩
   .rw[bB];exact bj _ i1
   .rw[bB]at h ⊢;rcases aF.mp h with e|e
    .exact aF.mpr (.inl e)
    .exact bj _ (i2 g e)
theorem oV f v:∀fs:List (Str×V),(lh f v fs).length<=fs.length+1
 |[]=>by simp[lh]
 | (k,x)::r=>by
  have b:=oV f v r;rw[show lh f v ((k,x)::r)=(if k=f then (k,v)::r else (k,x)::lh f v r) from rfl];by_cases a:k=f
  .rw[aQ a,az,az];omega
  .rw[aR a,az,az];omega
def uH.some_of(r:uH (some v) o):∃u,o=some u/\fw v u:=by
 cases o with
 |none=>exact (r).elim
 |some u=>exact⟨u,rfl,r⟩
def uH.none_of(r:uH none o):o=none:=by
 cases o with
 |none=>rfl
 |some u=>exact (r).elim
def Af(r:fw v u):W.handedIn u=true:=by
 cases v with
 |non=>cases (r);rfl
 |bl b=>cases (r);rfl
 |int i=>obtain⟨t,e⟩:=(r);cases e;rfl
 |str x=>obtain⟨t,e⟩:=(r);cases e;rfl
 |byt b=>obtain⟨t,e⟩:=(r);cases e;rfl
 |flt b=>obtain⟨t,e⟩:=(r);cases e;rfl
 |ref a=>cases (r);rfl
 |ty n=>cases (r);rfl
section
variable {P:Program}{w:World}{H H':Hp}{h h':Heap}{a C dx:Addr}{fs fs':List (Str×V)}
def pO(c:l5 P w H h)(e:H a=some (.ins C dx fs)):∃b,xr h a dx C b/\(∀f,uH (fs.lookup f) (b f))/\PySem.Within b (fs.map (·.1))/\fs.length<=1000/\H dx=some (.own a):=by obtain⟨d,z,ne,g,b,n,r,q⟩:=(c a _ e);exact⟨b,⟨g,n,ne⟩,r,q,z,d⟩
end
structure sh(K:W.Frag)(C:Addr):Prop where
 pg:W.plainGet K C Str.empty=true
 hd:W.hasDictIn K C=true
 po:W.plainOver K C=true
 sa:W.findIn K (.ref C) "__setattr__" = some (some (.builtin "object.__setattr__"))
def sh.get{K:W.Frag}(c:sh K C) f:W.plainGet K C f=true:=c.pg
def iF(K:W.Frag)(C:Addr)(f:Str):Prop:=W.findIn K (.ref C) f=some none
def iF.taker{K:W.Frag}(n:iF K C f):W.takerIn K C f=some none:=by unfold W.takerIn;rw[show W.findIn K (.ref C) f=some none from n];rfl
structure FB(K:W.Frag)(C:Addr)(m:Str)(f:Addr):Prop where
 at_:W.findIn K (.ref C) m=some (some (.ref f))
 fn:W.isFn K (.ref f)=true
 kp:W.keepIn K (.ref f)=true
section
variable {X:Cx}{dU:List (Addr×Obj)}{σ:St}{H:Hp}{s:Sq}{a C dx:Addr}{fs:List (Str×V)}{f:Str}{v:V}{A:Around}{E:Vq->Shared->Prop}
def wC(I:eC X dU σ H s)(e:H a=some (.ins C dx fs))(c:sh X.K C)(n:iF X.K C f)(l:fs.lookup f=some v)
  (h:∀u g,eC X dU σ H g->fw v u->Q u g):wpAny (model X.prog X.w) A (getAttr (.ref a) f b) Q E s:=by
 obtain⟨j,O,r,_,_,_⟩:=pO I.hok e;obtain⟨u,i,d⟩:=uH.some_of (by rw[<-l];exact r f);exact E3 I.kIn O (c.get f) c.hd n i (Af d) (h u _ (I.tok _) d)
def wH(I:eC X dU σ H s)(e:H a=some (.ins C dx fs))(c:sh X.K C)(k:FB X.K C m g)(l:fs.lookup m=none)
  (h:Q (.ref g,[.ref a]) s):wpAny (model X.prog X.w) A (getMethod (.ref a) m pl) Q E s:=by
 obtain⟨d,O,r,_,_,_⟩:=pO I.hok e;have b:=uH.none_of (by rw[<-l];exact r m);exact AL I.kIn O (c.get m) k.at_ k.fn b h
def xn(I:eC X dU σ H s)(e:H a=some (.ins C dx fs))(c:sh X.K C)(n:iF X.K C f)(J:fs.length<1000)(t:fw y u)
  (h:∀k,eC X dU σ (e6 H a (.ins C dx (lh f y fs))) k->Q () k):wpAny (model X.prog X.w) A (setAttr (.ref a) f u) Q E s:=by
 obtain⟨p,O,r,i,_,j⟩:=pO I.hok e;have B:(fs.map (·.1)).length<=sizeLine:=by rw[ax,sizeLine_eq];omega
 refine FG I.kIn O c.sa c.po n.taker c.hd i B λF d m=>h _ ?_;have D:∃o,F.get? dx=some o:=let ⟨o,_,_,e',_⟩:=d.ns;⟨o,e'⟩;refine I.write (by rw[e];exact True.intro) (.inr j) (λb q l z=>(m.2 b l).trans z) D ?_;refine⟨by rw[eA O.ne];exact j,?_,O.ne,d.obj,_,d.ns,λg=>?_,λg x=>?_⟩
 .have:=oV f y fs;omega
 .rw[pD];by_cases q:g=f
  .rw[aQ q,aQ q];exact t
  .rw[aR q,aR q];exact r g
 .by_cases q:g=f
  .rw[q];exact (n0 f y fs).1
  .refine (n0 f y fs).2 g (i g λz=>x ?_);show (if g=f then some u else p g)=none;rw[aR q];exact z
def eC.made(I:eC X dU σ H s):eC X dU σ (e6 (e6 H s.heap.objs.size (.own (s.heap.objs.size+1))) (s.heap.objs.size+1) (.ins C s.heap.objs.size []))
  {s with heap:=(s.heap.push W.emptyDict).push (W.instObj C s.heap.objs.size)}:=by
 have c:(s.heap.push W.emptyDict).get? s.heap.objs.size=some W.emptyDict:=au s.heap rfl;have h:((s.heap.push W.emptyDict).push (W.instObj C s.heap.objs.size)).get? (s.heap.objs.size+1)=some (W.instObj C s.heap.objs.size):=by have:=au (s.heap.push W.emptyDict) (o:=W.instObj C s.heap.objs.size) rfl;rwa [Heap.size_push]at this
 have i:(s.heap.push W.emptyDict).Ns s.heap.objs.size (λ_=>none):=⟨W.emptyDict,#[],_,c,rfl,(λe j=>absurd j (by simp)),λ_=>rfl⟩;have d:=I.laid (o:=.own (s.heap.objs.size+1)) (t':=s.toks) (λb u q=>ae _ q) (aK _) ⟨_,c⟩;refine d.laid (λb u q=>ae _ q) (Nat.le_of_eq (Heap.size_push _ _)) ?_;have ne:s.heap.objs.size≠s.heap.objs.size+1:=aM (bC _);refine⟨by rw[eA ne,eh],bD _,ne,h,λ_=>none,(Heap.Ns1.of_empty i).at λo q=>ae _ q,λ_=>True.intro,λy g=>absurd rfl g⟩
def Ep(c:attributeBase e f env (eval e env)=eval e env)
  (h:wpAny (model prog w) A (eval e env) (λo b=>wpAny (model prog w) A (getAttr o f true) Q E b) E s):wpAny (model prog w) A (eval (.Attribute e f pos) env) Q E s:=
 Attribute_any_ h (by rw[arm_eval_Attribute,c])
end
def GU(K:W.Frag)(e:TE)(f:Str):TE:=λc H Q=>e c H λx b=>∃a C d fs v,x=.ref a/\b a=some (.ins C d fs)/\sh K C/\iF K C f/\fs.lookup f=some v/\Q v b
def G3(K:W.Frag)(h e:TE)(f:Str):TS:=λD b H=>e b H λy g=>h b g λx c=>∃a C d fs,x=.ref a/\c a=some (.ins C d fs)/\sh K C/\iF K C f/\fs.length<1000/\
 D.nx b (e6 c a (.ins C d (lh f y fs)))
section
variable {X:Cx}{o e value:Expr}{f:Str}{pos pos' tpos:Pos}{ta tv:TE}
def HK(j:PE X e ta)(b:attributeBase e f X.env (eval e X.env)=eval e X.env):PE X (.Attribute e f pos) (GU X.K ta f):=by intro k s i H Q I h;refine Ep b (gj (j k s i H _ I h) λu s1 ⟨x,H1,I1,rx,a,C,dx,fs,v,ex,ea,c,n,l,q⟩=>?_);subst ex;obtain rfl:u=Value.ref a:=rx;exact wC I1 ea c n l λm p g d=>⟨v,H1,g,d,q⟩
def BO(k:PE X o ta)(g:PE X value tv)(i:swapsWith value (some (.Attribute o f pos')) pos.line X.env=pure false):PS X (.Assign [.Attribute o f pos'] value pos) (G3 X.K ta tv f):=by intro d s b H D I h;refine plainObj_wpAny_Assign_Attribute (gj (g d s b H _ I h) λu s1 ⟨y,H1,I1,ry,q⟩=>gj (k d s1 b H1 _ I1 q) λov s2 ⟨x,H2,I2,rx,a,C,dx,fs,ex,ea,c,n,l,q2⟩=>?_) i;subst ex;obtain rfl:ov=Value.ref a:=rx;exact xn I2 ea c n l ry λm j=>⟨b,_,j,q2⟩
end
section
variable {X:Cx}{dU:List (Addr×Obj)}{σ:St}{H:Hp}{s:Sq}{A:Around}{E:Vq->Shared->Prop}{Q:Vq->Shared->Prop}{c:Vq}{b:Bool}
inductive lq(K:W.Frag)(H:Hp):V->Value->Prop where
 |non:lq K H .non (.type "NoneType")
 |bl (x:Bool):lq K H (.bl x) (.type "bool")
 |int (i:Int):lq K H (.int i) (.type "int")
 |str (x:Str):lq K H (.str x) (.type "str")
 |flt (x:UInt64):lq K H (.flt x) (.type "float")
 |lst {a:Addr} {xs:List V} (e:H a=some (.lst xs)):lq K H (.ref a) (.type "list")
 |frz {a:Addr} {o:Obj} {xs:List V} (e:H a=some (.frz o (.lst xs))):lq K H (.ref a) (.type "list")
 |tup {a:Addr} {xs:List V} (e:H a=some (.tup xs)):lq K H (.ref a) (.type "tuple")
 |dK {a:Addr} {kvs:List (kg×V)} (e:H a=some (.dK kvs)):lq K H (.ref a) (.type "dict")
 |dT {a:Addr} {kvs:List (List kg×V)} (e:H a=some (.dT kvs)):lq K H (.ref a) (.type "dict")
 |ins {a C dx:Addr} {fs:List (Str×V)} (e:H a=some (.ins C dx fs)) (cl:sh K C) (ha:W.findIn K (.ref C) "__class__" = some (some (.builtin "object.__class__")))
   (hn:W.specialIn K (.builtin "object.__class__") "__get__" = some (some (.builtin "getset_descriptor.__get__"))) (htk:W.takesIn K (.builtin "object.__class__")=some true)
   (hm:W.mroIn K C (.type "object")=some true):lq K H (.ref a) (.ref C)
def zv(I:eC X dU σ H s)(d:fw x u)(ty:lq X.K H x t)(e:W.kitOne X.K t c=some b)(h:∀l,Q (.bool b) {s with toks:=l}) :
  wpAny (model X.prog X.w) A (call (.builtin "isinstance") [u,c]) Q E s:=by
 cases ty with
 |non=>cases (d);exact W.kia_one W.kitx_none I.kIn True.intro e (λz=>nomatch z) h
 |bl y=>cases (d);exact W.kia_one W.kitx_bool I.kIn True.intro e (λz=>nomatch z) h
 |int i=>obtain⟨t,q⟩:=(d);cases q;exact W.kia_one W.kitx_int I.kIn True.intro e (λz=>nomatch z) h
 |str y=>obtain⟨t,q⟩:=(d);cases q;exact W.kia_one W.kitx_str I.kIn True.intro e (λz=>nomatch z) h
 |flt y=>obtain⟨t,q⟩:=(d);cases q;exact W.kia_one W.kitx_float I.kIn True.intro e (λz=>nomatch z) h
 |@lst a j ea=>cases (d);obtain⟨_,_,n,_,f⟩:=(I.hok a _ ea);exact W.kia_one W.kitx_list I.kIn ⟨_,f,rfl⟩ e (λz=>nomatch z) h
 |@frz a ob j ea=>cases (d);obtain⟨_,_,_,n,_,f⟩:=(I.hok a _ ea);exact W.kia_one W.kitx_list I.kIn ⟨_,f,rfl⟩ e (λz=>nomatch z) h
 |@tup a j ea=>cases (d);obtain⟨_,_,_,p⟩:=(I.hok a _ ea);obtain⟨o,f,g,_⟩:=p;exact W.kia_one W.kitx_tuple I.kIn ⟨o,f,g⟩ e (λz=>nomatch z) h
 |@dK a kvs ea=>cases (d);obtain⟨_,_,v,_,p⟩:=(I.hok a _ ea);obtain⟨o,m,k,f,g,_⟩:=p;exact W.kia_one W.kitx_dict I.kIn ⟨o,f,g.1⟩ e (λz=>nomatch z) h
 |@dT a kvs ea=>cases (d);obtain⟨_,_,j,_,o,m,k,f,g,_⟩:=(I.hok a _ ea);exact W.kia_one W.kitx_dict I.kIn ⟨o,f,g.1⟩ e (λz=>nomatch z) h
 |@ins a C dx fs ea cl ha hn htk hm=>cases (d);obtain⟨r,O,_⟩:=pO I.hok ea;obtain⟨B,J,_⟩:=O.look;exact W.kia_one (W.kitx_own (cl.get _) cl.hd ha hn htk hm) I.kIn J e (λz=>nomatch z) h
end
end L2
namespace L2
open PySem PySem.Spec PyProof.Rows
structure e8(k:Nat)(A:Around):Prop where
 hd:A.handled=none
 dp:A.depth+3*k+5<recursionLimit
 un:A.units+16*k+200<cLine
def e8.mono(r:e8 k A)(h:j<=k):e8 j A:=⟨r.hd,by have:=r.dp;omega,by have:=r.un;omega⟩
def e8.deeper(r:e8 (k+1) A) env:e8 k (A.deeper env):=⟨r.hd,by have:=r.dp;show A.depth+1+3*k+5<_;omega,by have:=r.un;show A.units+3+16*k+200<_;omega⟩
def e8.in1(r:e8 (k+1) A):e8 k A.in1:=⟨r.hd,by have:=r.dp;show A.depth+3*k+5<_;omega,by have:=r.un;show A.units+1+16*k+200<_;omega⟩
def wt{A:Around}:(A.under (.builtin "type.__call__" ⟨.ref C::us,kw⟩)).depth=A.depth+1:=by first|rfl|simp[Around.under,Code.weight,Code.isCreation,Code.isGuard,Code.isCaller,Code.frames,Code.isFrame,guardIds]
def wz{A:Around}:(A.under (.builtin "type.__call__" ⟨.ref C::us,kw⟩)).units=A.units+1:=by first|rfl|simp[Around.under,Code.cUnits,Code.frames,Code.isFrame]
def e8.make(r:e8 (k+1) A) C us kw:e8 k (A.under (.builtin "type.__call__" ⟨.ref C::us,kw⟩)):=⟨r.hd,by have:=r.dp;rw[wt];omega,by have:=r.un;rw[wz];omega⟩
def e8.depth(r:e8 k A):A.depth<recursionLimit:=by have:=r.dp;omega
def e8.units(r:e8 k A):A.units+64<cLine:=by have:=r.un;omega
def qa:TA:=λ_ H Q=>Q [] H
def nU(f:TE)(e:TA):TA:=λa H Q=>f a H λx d=>e a d λc b=>Q (x::c) b
section
variable {X:Cx}{e:Expr}{es:List Expr}{te:TE}{t:TA}{pos:Pos}
def q0:PA X [] qa:=λ_ _ _ _ H Q I h=>Calls.spliced_nil ⟨[],H,I,.nil,h⟩
def kG(f:PE X e te)(d:PA X es t)(c:starEach (e::es) X.env=(false,eval e X.env)::starEach es X.env:=by rfl):PA X (e::es) (nU te t):=by intro pos b s a H Q I h;rw[c];refine Calls.spliced_cons (gj (f b s a H _ I h) λu s1 ⟨x,H1,I1,r1,q1⟩=>?_);exact gj (d pos b s1 a H1 _ I1 q1) λus s2 ⟨xs,H2,I2,r2,q2⟩=>⟨x::xs,H2,I2,.cons r1 r2,q2⟩
def Hi(t:TA):TE:=λc H Q=>t c H λa b=>a.length<=sizeLine/\∀p,b p=none->Q (.ref p) (e6 b p (.tup a))
def GH(t:TA):TE:=λc H Q=>t c H λa b=>a.length<=sizeLine/\∀p,b p=none->Q (.ref p) (e6 b p (.lst a))
def AB{x1}(h:PA X es t):PE X (.Tuple es x1 pos) (Hi t):=by intro f s c H Q I d;refine wpAny_Tuple_spliced (gj (h pos f s c H _ I d) λus s1 ⟨xs,H1,I1,r,z,q⟩=>⟨by rw[<-r.length];exact z,?_⟩);have a:=I1.hok.fresh (aK _);refine⟨.ref s1.heap.objs.size,e6 H1 s1.heap.objs.size (.tup xs),I1.laid (λb u e=>ae _ e) (aK _) ?_,rfl,q _ a⟩;exact⟨z,us,r,⟨_,au _ rfl,rfl,_,rfl,rfl⟩⟩
def G5(h:PA X es t):PE X (.List es pos) (GH t):=by intro f s c H Q I d;refine wpAny_List_spliced (gj (h pos f s c H _ I d) λus s1 ⟨xs,H1,I1,r,z,q⟩=>⟨by rw[<-r.length];exact z,?_⟩);have a:=I1.hok.fresh (aK _);refine⟨.ref s1.heap.objs.size,e6 H1 s1.heap.objs.size (.lst xs),I1.laid (λb u e=>ae _ e) (aK _) ?_,rfl,q _ a⟩;exact⟨z,us,0,r,au _ rfl⟩
end
abbrev Sp:=List V->Hp->VK->XK->Prop
abbrev FO:=List Env->Hp->Shared->XK->Value->Shared->Prop
structure pU(P:Program)(w:World)(K:W.Frag)(mg:Str->Option Value)(base:Heap)(A:Around)(outer:List Env)(s:Sq)(H:Hp):Prop where
 frames:A.frames=some outer
 mod:Mod K mg base
 bs:∀b o,base.get? b=some o->s.heap.get? b=some o/\H b=none
 bsz:base.objs.size<=s.heap.objs.size
 funs:s.heap.FunFrames base outer
 frf:∀b∈yd outer,H b=none
 hok:l5 P w H s.heap
 bare:AllBare s.gens
 tab:yp base H
def CE(a:List Env)(P:Program)(w:World)(H:Hp)(s:Sq)(Q:VK)(u:Vq)(b:Sq):Prop:=∃v c,b.os=s.os/\AllBare b.gens/\Un (yd a) [] H c s.heap b.heap/\l5 P w c b.heap/\fw v u/\Q v c
def CR(c:FO)(a:List Env)(P:Program)(w:World)(H:Hp)(s:Sq)(Q:VK)(E:XK)(r:Result)(b:Sq):Prop:=
 match r with
 |.ok (.ret u)=>CE a P w H s Q u b
 |.ok _=>False
 |.error e=>c a H s E e b
structure jM(P:Program)(w:World)(K:W.Frag)(mg:Str->Option Value)(base:Heap)(CX:FO)(k:Nat)(f:Addr)(fd:FuncData)(ps:List Str)(sp:Sp):Prop where
 len:∀vs H Q E,sp vs H Q E->vs.length=ps.length
 run:∀(A:Around) (outer:List Env) (s:Sq) (H:Hp) (args:Args) (us:List Vq) (vs:List V) (Q:VK) (E:XK),e8 k A->pU P w K mg base A outer s H->BindsTo s fd args (ps.zip us)->eS vs us->sp vs H Q E->
  codeAny (model P w) A (.call (.ref f) args) (CR CX outer P w H s Q E) s
def jM.mono{K:W.Frag}(F:jM P w K mg base CX j f fd ps sp)(h:j<=k) :
  jM P w K mg base CX k f fd ps sp:=⟨F.len,λA a s H b e c Q E d=>F.run A a s H b e c Q E (d.mono h)⟩
def jM.imp{K:W.Frag}(F:jM P w K mg base CX k f fd ps sp)
  (h:∀vs H Q E,sp' vs H Q E->sp vs H Q E):jM P w K mg base CX k f fd ps sp':=
 ⟨λvs H Q E q=>F.len vs H Q E (h _ _ _ _ q),λA a s H b j vs Q E i g c d e=>F.run A a s H b j vs Q E i g c d (h _ _ _ _ e)⟩
def pU.make{K:W.Frag}(e:pU P w K mg base A outer s H) C us kw :
  pU P w K mg base (A.under (.builtin "type.__call__" ⟨.ref C::us,kw⟩)) outer s H:=⟨by first|exact e.frames|(simpa[Around.under,Code.envs,Code.isFrame,pushEnvs] using e.frames),e.mod,e.bs,e.bsz,e.funs,e.frf,e.hok,e.bare,e.tab⟩
def pU.in1{K:W.Frag}(e:pU P w K mg base A outer s H) :
  pU P w K mg base A.in1 outer s H:=⟨e.frames,e.mod,e.bs,e.bsz,e.funs,e.frf,e.hok,e.bare,e.tab⟩
section
variable {X:Cx}{dU:List (Addr×Obj)}{σ:St}{H:Hp}{s s':Sq}
def eC.env0(I:eC X dU σ H s):pU X.prog X.w X.K X.mg X.base X.A X.stack s H:=⟨I.ok.frames,I.ok.mod,I.bs,aN I.ok.bsz I.sz,I.stack,I.stkFree,I.hok,I.bare,I.tab⟩
def eC.after(I:eC X dU σ H s)(h:CE X.stack X.prog X.w H s Q u s'):EP X dU σ Q u s':=by obtain⟨v,i,f,a,un,c,r,q⟩:=h;obtain⟨j,g,d,t,e⟩:=s';obtain rfl:e=s.os:=f;exact⟨v,i,I.call un c a (λb z=>absurd z (by simp)),r,q⟩
end
def sy(e:Sp)(a:List V)(E:XK)(t:TA):TE:=λb H Q=>t b H λc d=>e (c++a) d Q E
def sS(C:Addr)(m:Str)(g:Sp)(b:List V)(E:XK)(i:TE)(t:TA):TE:=λc H Q=>i c H λx d=>∃a h fs,x=.ref a/\d a=some (.ins C h fs)/\fs.lookup m=none/\
 t c d λf e=>g (x::(f++b)) e Q E
def ye(C:Addr)(g:Sp)(c:List V)(E:XK)(t:TA):TE:=λe H Q=>t e H λf b=>∀x a,b x=none->b a=none->a≠x->
 g (.ref x::(f++c)) (e6 (e6 b a (.own x)) x (.ins C a [])) (λv d=>v=.non/\Q (.ref x) d) E
def ly(K:W.Frag)(fd:FuncData)(c:List Str)(b:List Vq):Prop:=∀(s:Sq) (a:List Vq),K.In s.heap->(a++b).length=c.length->BindsTo s fd ⟨a,[]⟩ (c.zip (a++b))
def ly.all{K:W.Frag}(h:∀us:List Vq,us.length=ps.length->bindArgs fd ⟨us,[]⟩=pure (ps.zip us)):ly K fd ps []:=λs us _ a=>by rw[bE]at a ⊢;exact .of_eq (h us a)
def oE(d:FO)(X:Cx)(E:XK):Prop:=∀(c:List (Addr×Obj)) (b:St) (H:Hp) (s:Sq) (e:Vq) (a:Sq),eC X c b H s->d X.stack H s E e a->X.xe e a
section
variable {X:Cx}{CX:FO}{k:Nat}{f C:Addr}{fd:FuncData}{ps:List Str}{sp:Sp}{dvs:List V}{ds:List Vq}{E:XK}{x m:Str}{p pos apos:Pos}{e o:Expr}{es:List Expr}{ta:TE}{t:TA}
theorem Df(F:jM X.prog X.w X.K X.mg X.base CX k f fd ps sp)(i:e8 k X.A)(c:ly X.K fd ps ds)(d:eS dvs ds)(j:oE CX X E)
  (I:eC X dU σ H s) (r:eS vs us) (h:sp (vs++dvs) H Q E):wpAny (model X.prog X.w) X.A (call (.ref f) us) (EP X dU σ Q) X.xe s:=by
 have b:=r.append d;have l:(us++ds).length=ps.length:=by rw[<-b.length];exact F.len _ _ _ _ h
 refine wpAny_call (codeAny_mono (F.run X.A X.stack s H ⟨us,[]⟩ (us++ds) (vs++dvs) Q E i I.env0 (c s us I.kIn l) b h) λr g a=>?_);cases r with
 |error e=>exact j dU σ H s e g I a
 |ok fl=>
  cases fl with
  |ret u=>exact I.after a
  |next=>exact False.elim a
  |brk=>exact False.elim a
  |cont=>exact False.elim a
def Fo(F:jM X.prog X.w X.K X.mg X.base CX k f fd ps sp)(g:e8 k X.A)(i:Gl X x)(y:X.mg x=some (.ref f))(d:W.keepIn X.K (.ref f)=true)(c:ly X.K fd ps ds)(j:eS dvs ds)(z:oE CX X E)
  (l:PA X (e::es) t) (a:(x==("__debug__" : Str))=false:=by decide) (u:starEach (e::es) X.env=(false,eval e X.env)::starEach es X.env:=by rfl) (b:(backTo pos (starEach es X.env)).any (·.1)=false:=by rfl) :
  PE X (.Call (.Name x p) (e::es) [] pos) (sy sp dvs E t):=by
 intro v s n H Q I h;refine wpAny_Call_Name_kw (tQ I i y ?_ a);refine W.callWith_K I.ok.mod.kin d (gj (l pos v s n H _ I h) λus s1 ⟨vs,H1,I1,r,q⟩=>⟨I1.kIn,?_⟩) u b;exact Df F g c j z I1 r q
def Ct(n:PE X o ta)(c:sh X.K C)(b:FB X.K C m f)(F:jM X.prog X.w X.K X.mg X.base CX k f fd ps sp)(v:e8 k X.A)(d:ly X.K fd ps ds)(g:eS dvs ds)(y:oE CX X E)
  (i:eval (.Call (.Attribute o m apos) [] [] pos) X.env=(do
   let ov <-eval o X.env
   standAt apos.atName
   let (f,first) <-holding [ov] (getMethod ov m pl)
   callWith pos f first (backTo pos (starEach [] X.env)) (backToKw pos (keywordEach [] X.env))):=by rfl) :
  PE X (.Call (.Attribute o m apos) [] [] pos) (sS C m sp dvs E ta qa):=by
 intro r s j H Q I h;refine W.methodCall_KW (gj (n r s j H _ I h) λu s1 ⟨x,H1,I1,rx,a,dx,fs,ex,ea,l,q⟩=>?_) i;subst ex;obtain rfl:u=Value.ref a:=rx;refine wH I1 ea c b l ?_;exact W.callWith_K0 I1.kIn b.kp (Df (vs:=[.ref a]) F v d g y I1 (.cons rfl .nil) q)
structure Mk(K:W.Frag)(C f:Addr):Prop where
 makes:W.makesIn K C=true
 init:W.findIn K (.ref C) "__init__" = some (some (.ref f))
 fn:W.isFn K (.ref f)=true
 kp:W.keepIn K (.ref C)=true
theorem Ax(M:Mk X.K C f)(F:jM X.prog X.w X.K X.mg X.base CX k f fd ps sp)(n:e8 (k+1) X.A)(g:ly X.K fd ps ds)(B:eS dvs ds)
  (J:oE CX X E) (I:eC X dU σ H s) (r:eS vs us)
  (h:∀x dx,H x=none->H dx=none->dx≠x->sp (.ref x::(vs++dvs)) (e6 (e6 H dx (.own x)) x (.ins C dx [])) (λv q=>v=.non/\Q (.ref x) q) E) :
  wpAny (model X.prog X.w) X.A (call (.ref C) us) (EP X dU σ Q) X.xe s:=by
 have c:=h (s.heap.objs.size+1) s.heap.objs.size (I.hok.fresh (bF _)) (I.hok.fresh (aK _)) (aM (bC _));have b:=eC.made (C:=C) I;have d:eS (V.ref (s.heap.objs.size+1)::(vs++dvs)) (Value.ref (s.heap.objs.size+1)::(us++ds)):=.cons rfl (r.append B);have L:(Value.ref (s.heap.objs.size+1)::us++ds).length=ps.length:=by have e:=d.length;rw[F.len _ _ _ _ c]at e;exact e.symm
 refine wpAny_call (BU I.kIn M.makes M.init (beq_iff_eq.mp M.fn) (codeAny_mono (F.run _ X.stack _ _ ⟨Value.ref (s.heap.objs.size+1)::us,[]⟩ (Value.ref (s.heap.objs.size+1)::(us++ds)) _ _ E (n.make C us [])
  (b.env0.make C us []) (g _ (Value.ref (s.heap.objs.size+1)::us) b.kIn L) d c) λr D a=>?_))
 cases r with
 |error e=>exact J dU σ _ _ e D b a
 |ok fl=>
  cases fl with
  |ret u=>obtain⟨v,z,l,y,i,j⟩:=b.after a;subst i;exact⟨y,⟨V.ref (s.heap.objs.size+1),z,l,rfl,j⟩⟩
  |next=>exact False.elim a
  |brk=>exact False.elim a
  |cont=>exact False.elim a
def Eb(M:Mk X.K C f)(F:jM X.prog X.w X.K X.mg X.base CX k f fd ps sp)(d:e8 (k+1) X.A)(g:Gl X x)(v:X.mg x=some (.ref C))(c:ly X.K fd ps ds)(i:eS dvs ds)(y:oE CX X E)
  (j:PA X (e::es) t) (a:(x==("__debug__" : Str))=false:=by decide) (n:starEach (e::es) X.env=(false,eval e X.env)::starEach es X.env:=by rfl) (b:(backTo pos (starEach es X.env)).any (·.1)=false:=by rfl) :
  PE X (.Call (.Name x p) (e::es) [] pos) (ye C sp dvs E t):=by
 intro u s l H Q I h;refine wpAny_Call_Name_kw (tQ I g v ?_ a);refine W.callWith_K I.ok.mod.kin M.kp (gj (j pos u s l H _ I h) λus s1 ⟨vs,H1,I1,r,q⟩=>⟨I1.kIn,?_⟩) n b;exact Ax M F d c i y I1 r q
end
structure eZ(N P:List Str)(sc:Scope):Prop where
 kind:sc.kind=.function
 co:sc.isCoroutine=false
 gen:sc.isGenerator=false
 nd:N.Nodup
 pre:N.take P.length=P
 par:∀x∈P,sc.names.lookup x=some .local\/sc.names.lookup x=some .cell
 nofree:∀y∈sc.names,y.2≠.free
theorem r0{kindOf:Str->Option NameKind}:∀{binds} {m},(∀v,(x,v)∉binds)->bindL kindOf binds m x=m x
 |[],_,_=>rfl
 | (n,v)::r,m,h=>by
  unfold bindL;rw[r0 λw hw=>h w (bj _ hw)];split
  .have:x≠n:=by rintro rfl;exact h v bh
   simp[this]
  .rfl
theorem sQ{kindOf:Str->Option NameKind}:∀{binds} {m},(∀v,(x,v)∉binds)->bindC kindOf binds m x=m x
 |[],_,_=>rfl
 | (n,v)::r,m,h=>by
  unfold bindC;rw[sQ λw hw=>h w (bj _ hw)];split
  .rfl
  .have:x≠n:=by rintro rfl;exact h v bh
   simp[this]
theorem sJ{kindOf:Str->Option NameKind}:∀{P:List Str} {vs:List Vq} {i:Nat} {m:Str->Option Value},P.Nodup->P[i]? = some x->vs[i]? = some v->kindOf x=some .local->
  bindL kindOf (P.zip vs) m x=some v
 |[],_,_,_,_,h,_,_=>by simp at h
 |_::_,[],_,_,_,_,h,_=>by simp at h
 |p::P,w::vs,0,m,nd,h1,h2,hk=>by simp at h1 h2;subst h1;subst h2;show bindL kindOf ((p,w)::P.zip vs) m p=_;unfold bindL;rw[r0 λv a=>(bG.mp nd).1 (aW a).1,aQ hk];simp
 |p::P,w::vs,i+1,m,nd,h1,h2,hk=>by unfold bindL;exact sJ (bG.mp nd).2 (by simpa using h1) (by simpa using h2) hk
theorem sj{kindOf:Str->Option NameKind}:∀{P:List Str} {vs:List Vq} {i:Nat} {m:Str->Option Value},P.Nodup->P[i]? = some x->vs[i]? = some v->kindOf x≠some .local->
  bindC kindOf (P.zip vs) m x=some v
 |[],_,_,_,_,h,_,_=>by simp at h
 |_::_,[],_,_,_,_,h,_=>by simp at h
 |p::P,w::vs,0,m,nd,h1,h2,hk=>by simp at h1 h2;subst h1;subst h2;show bindC kindOf ((p,w)::P.zip vs) m p=_;unfold bindC;rw[sQ λv a=>(bG.mp nd).1 (aW a).1,aR hk];simp
 |p::P,w::vs,i+1,m,nd,h1,h2,hk=>by unfold bindC;exact sj (bG.mp nd).2 (by simpa using h1) (by simpa using h2) hk
noncomputable def hZ(N:List Str)(vs:List V):St:=vs.map some++List.replicate (N.length-vs.length) none
noncomputable def jJ(g:FO)(P:Program)(w:World)(K:W.Frag)(mg:Str->Option Value)(base:Heap)(N:List Str)(b:Str)(a:Scope)(f:Addr)(d:Vq)(A:Around)(outer:List Env)(s:Sq)(H:Hp)(E:XK):Cx where
 prog:=P
 w:=w
 K:=K
 mg:=mg
 base:=base
 A:=A.deeper (envOfC b a s.heap.objs.size f d)
 N:=N
 s₀:=s
 H₀:=H
 env:=envOfC b a s.heap.objs.size f d
 outer:=outer
 stack:=envOfC b a s.heap.objs.size f d::outer
 ex:=[]
 calm:=true
 fn:=λ_=>true
 pn:=[]
 xe:=λe i=>wpAny (model P w) (A.deeper (envOfC b a s.heap.objs.size f d)) (leaving (envOfC b a s.heap.objs.size f d) e) (λ_ c=>g outer H s E e c) (λh c=>g outer H s E h c) i
def jl{a:Scope}(h:a.names.lookup x=some .cell):∃c,(cellsFrom n a.names []).lookup x=some c:=by have q:=W.cellsFrom_some a.names n [] (.inl h);exact bH.mp q
theorem rT{K:W.Frag}
  (S:eZ N ps scope) (F:A.handled=none) (g:pU P w K mg base A outer s H) (R:vs.length=ps.length) (r:eS vs us)
  (x:InCallC s s.heap.objs.size (bindL (envOfC qual scope s.heap.objs.size f cd).kindOf (ps.zip us) λ_=>none) (cellsFrom (s.heap.objs.size+1) scope.names []) (bindC (envOfC qual scope s.heap.objs.size f cd).kindOf (ps.zip us) λ_=>none) s1) :
  eC (jJ CX P w K mg base N qual scope f cd A outer s H E) [] (hZ N vs) H s1:=by
 have I:ps.length<=N.length:=by have:=congrArg List.length S.pre;rw[bI]at this;omega
 obtain⟨o,Q,rfl,B⟩:=x.done;have j:∀b:Addr,b∉(jJ CX P w K mg base N qual scope f cd A outer s H E).ex:=λb z=>absurd (show b∈([]) from z) (by simp);refine⟨⟨g.mod,S.kind,rfl,rfl,aK _,λy z c o d=>?_,λy l=>?_,λy c _ h=>?_,λ_=>F,Around.frames_deeper g.frames,.inr ⟨rfl,rfl⟩,λb z=>absurd z (j b),g.bs,g.bsz,λb _ _=>j b,λb z=>absurd z (j b),g.funs,g.frf,g.tab⟩,
  rfl,g.bare,Un.kept B,⟨_,x.toInCall.ns,λi y v o d L=>?_⟩,λy c h=>⟨_,x.cell y c h⟩,g.hok.fresh (aK _),λy c h=>?_,λp m=>absurd (show p∈([]) from m) (by simp),g.hok.kept B,?_⟩
 .exact name_of_addr x.apart (PySem.mem_of_lookup o) (PySem.mem_of_lookup d)
 .have l:=l;rcases l with l|l
  .exact jl l
  .exact absurd rfl (S.nofree _ (PySem.mem_of_lookup l))
 .exact bf (x.above y c (PySem.mem_of_lookup h))
 .have t:i<vs.length:=by
   unfold hZ at d;by_cases t:i<vs.length
   .exact t
   .rw[List.getElem?_append_right (by simpa using t)]at d;rw[List.getElem?_replicate]at d;split at d<;>cases d
  have J:vs[i]? = some v:=by
   unfold hZ at d;rw[List.getElem?_append_left (by simpa using t),aw]at d;cases e:vs[i]? with
   |none=>rw[e]at d;cases d
   |some a=>rw[e]at d;cases d;rfl
  obtain⟨u,C,D⟩:=r.get J;have m:ps[i]? = some y:=by rw[<-S.pre,List.getElem?_take_of_lt (by omega)];exact o
  have n:ps.Nodup:=by rw[<-S.pre];exact S.nd.sublist (List.take_sublist _ _)
  refine⟨u,D,?_⟩;rcases S.par y (av m) with k|k
  .exact .inl ⟨k,sJ n m C k⟩
  .obtain⟨c,e⟩:=jl k;refine .inr ⟨.inl k,c,e,?_⟩;have q:=x.cell y c e;rw[sj n m C (by show scope.names.lookup y≠_;rw[k];decide)]at q;exact q
 .exact g.hok.fresh (bf (x.above y c (PySem.mem_of_lookup h)))
 .unfold hZ;show _=N.length;rw[aT,ax,List.length_replicate];omega
theorem Ge{K:W.Frag}{Z kV z X c Y oc:Vq}(lk:K.lookup f=some ⟨oc,od,.func (W.fnOf name qual params body scope Z kV z X an c Y),osl⟩)(D:W.codeIn K c qual=true)(S:eZ N ps scope)
  (B:∀vs H Q E,sp vs H Q E->vs.length=ps.length)
  (i:∀A a s H vs Q E,e8 k (A.deeper (envOfC qual scope s.heap.objs.size f c))->sp vs H Q E->
   ∃t,uI (jJ CX P w K mg base N qual scope f c A a s H E) body t/\t {nx:=λ_ g=>Q .non g,rt:=Q} (hZ N vs) H) :
  jM P w K mg base CX (k+1) f (W.fnOf name qual params body scope Z kV z X an c Y) ps sp:=by
 refine⟨B,λA a s H args us vs Q E F l hb r p=>?_⟩;have hl:=B _ _ _ _ p;have U:=l.mod.kin.keeps λb o e=>(l.bs b o e).1;have C:=l.mod.nolimit.keeps λb o e=>(l.bs b o e).1;have h:∀y∈ps.zip us,scope.names.lookup y.1=some .local\/(scope.names.lookup y.1=some .cell/\((cellsFrom (s.heap.objs.size+1) scope.names []).lookup y.1).isSome=true):=λ⟨n,v⟩ hy=>by
  rcases S.par n (aW hy).1 with q|q
  .exact .inl q
  .exact .inr ⟨q,W.cellsFrom_some _ _ _ (.inl q)⟩
 refine codeAny_call_function F.depth (U _ _ lk) rfl S.co S.gen rfl (W.codeRec_of U D) (hb _ _ _ _ ?_);refine wpAny_newFunctionEnv_cells S.kind h λenv he s1 x=>?_;subst he;refine⟨C.keeps x.toInCall.keep,codeAny_func ?_⟩;obtain⟨t,ht,hq⟩:=i A a s H vs Q E (F.deeper _) p;have I:eC (jJ CX P w K mg base N qual scope f c A a s H E) [] (hZ N vs) H s1:=rT S F.hd l hl r x;refine wpAny_mono (ht [] s1 (hZ N vs) H _ I hq) (λfl R j=>?_) λe R j=>j;have m:∀{d:St} {g:Hp} {v:V} {u:Vq},eC (jJ CX P w K mg base N qual scope f c A a s H E) [] d g R->fw v u->Q v g->CE a P w H s Q u R:=λ{d g v u} J L q=>⟨v,g,J.os,J.bare,J.base,J.hok,L,q⟩
 cases fl with
 |ret u=>obtain⟨v,d,g,J,L,q⟩:=j;exact m J L q
 |next=>obtain⟨d,g,J,q⟩:=j;exact m (v:=V.non) J rfl q
 |brk=>obtain⟨_,_,_,q⟩:=j;exact False.elim q
 |cont=>obtain⟨_,_,_,q⟩:=j;exact False.elim q
end L2
namespace L2
open PySem PySem.Spec PyProof.Rows
section
variable {X:Cx}{x:Str}{p pos:Pos}{e:Expr}{es:List Expr}{t:TA}{id T:String}{r:List V->Hp->VK->Prop}
def Du(r:List V->Hp->VK->Prop)(t:TA):TE:=λa H Q=>t a H λb c=>r b c Q
def uU(j:iS X (.builtin id) r)(i:Gl X x)(m:X.mg x=none)(f:bootBuiltins x=some (.builtin id))(l:PA X (e::es) t)(k:x≠ "__name__" :=by decide)(a:(x==("__debug__" : Str))=false:=by decide)
  (g:starEach (e::es) X.env=(false,eval e X.env)::starEach es X.env:=by rfl) (b:(backTo pos (starEach es X.env)).any (·.1)=false:=by rfl):PE X (.Call (.Name x p) (e::es) [] pos) (Du r t):=by
 intro d s c H Q I h;refine wpAny_Call_Name_kw (mP I i m f ?_ k a);exact PyProof.Rows.callWith_builtin1 (gj (l pos d s c H _ I h) λus s1 ⟨vs,H1,I1,r1,q1⟩=>j d s1 c H1 vs us Q I1 r1 q1) g b
def om(j:iS X (.type T) r)(i:Gl X x)(m:X.mg x=none)(f:bootBuiltins x=some (.type T))(l:PA X (e::es) t)(k:x≠ "__name__" :=by decide)(a:(x==("__debug__" : Str))=false:=by decide)
  (g:starEach (e::es) X.env=(false,eval e X.env)::starEach es X.env:=by rfl) (b:(backTo pos (starEach es X.env)).any (·.1)=false:=by rfl):PE X (.Call (.Name x p) (e::es) [] pos) (Du r t):=by
 intro d s c H Q I h;refine wpAny_Call_Name_kw (mP I i m f ?_ k a);exact PyProof.Rows.callWith_type1 (gj (l pos d s c H _ I h) λus s1 ⟨vs,H1,I1,r1,q1⟩=>j d s1 c H1 vs us Q I1 r1 q1) g b
end
end L2
namespace HT
open PySem PyProof.Rows
section
variable {prog:Program}{w:World}{A:Around}{E:Vq->Shared->Prop}{s:Sq}
def cat_tup(x:IsTup s.heap t vs.toArray)(r:IsTup s.heap b ws.toArray)(k:vs≠[])
  (v:ws=[]->Q (.ref t) s) (u:ws≠[]->Q (.ref s.heap.objs.size) {s with heap:=s.heap.push {cls:=.type "tuple",data:=.seq (vs++ws).toArray}})
  (hsz:vs.length+ws.length<=sizeLine):wpAny (model prog w) A (binaryOp .Add (.ref t) (.ref b)) Q E s:=by
 obtain⟨⟨cls,q,data,j⟩,h,p,n,o⟩:=id x;obtain⟨⟨m,d,i,f⟩,a,c,l,g⟩:=id r;simp only at p o c g;subst p o c g;have e:vs.toArray++ws.toArray=(vs++ws).toArray:=by simp
 by_cases hw:ws=[]
 .exact concat_meets ⟨_,h,rfl⟩ ⟨_,a,rfl⟩ noFill_tuple_add seq_tuple_add PySem.F.slot_tuple_add PySem.F.entry_tuple_add (PySem.F.args_tuple_add_2 _ _)
   (tuple_addW1 t b vs.toArray ws.toArray n l q d j f (by simpa using k) (by simp[hw])) ⟨h,a,v hw⟩
 .refine concat_meets ⟨_,h,rfl⟩ ⟨_,a,rfl⟩ noFill_tuple_add seq_tuple_add PySem.F.slot_tuple_add PySem.F.entry_tuple_add (PySem.F.args_tuple_add_2 _ _)
   (tuple_addW2 t b vs.toArray ws.toArray n l q d j f (by simpa using k) (by simpa using hw) (by rw[bz,bz];exact hsz)) ⟨h,a,?_⟩
  rw[e];exact u hw
noncomputable def sIx(n d:Nat):Oq Int->Nat
 |none=>d
 |some v=>if v<0 then (v+(n:Int)).toNat else min v.toNat n
def sIx_none n d:sIx n d none=d:=rfl
def sIx_nat(n d k:Nat):sIx n d (some (k:Int))=min k n:=by show (if k<0 then (k+(n:Int)).toNat else min (k:Int).toNat n)=min k n;rw[aR (by omega),bJ]
def yx v (n d:Nat):(if v<0 then max (v+(n:Int)) 0 else min v (n:Int))=((sIx n d (some v):Nat):Int):=by
 show (if v<0 then max (v+n) 0 else min v n)=(((if v<0 then (v+n).toNat else min v.toNat n):Nat):Int);by_cases a:v<0
 .simp only[aQ a];omega
 .simp only[aR a];omega
def wm lo a (n:Nat):Builtin.Slice.sliceAdjust lo a 1 (n:Int)=(((sIx n 0 lo:Nat):Int),((sIx n n a:Nat):Int)):=by
 have b:¬(1<0):=by omega
 unfold Builtin.Slice.sliceAdjust;simp only[b,if_false];refine Prod.ext ?_ ?_
 .cases lo with
  |none=>rfl
  |some v=>exact yx v n 0
 .cases a with
  |none=>rfl
  |some v=>exact yx v n n
def wR(i j:Nat):Builtin.Slice.slicePlaces (i:Int) (j:Int) 1=j-i:=by
 unfold Builtin.Slice.slicePlaces;have a:1>0:=by omega
 simp only[a,if_true,Int.ediv_one];split<;>omega
def qX(p:IsPart v o)(h:Q o s):wpAny (model prog w) A (Builtin.Slice.slicePartIndex v) Q E s:=by
 cases p with
 |none=>exact slicePart_none h
 |int i t=>exact slicePart_int h
def kv{a c:Oq Int}{n:Nat}(f:s.heap.IsSliceOf sl vl vu .none)(g:IsPart vl a)(i:IsPart vu c)
  (h:Q (((sIx n 0 a:Nat):Int),1,sIx n n c-sIx n 0 a) s):wpAny (model prog w) A (Builtin.Slice.sliceApplied (.ref sl) (pure (n:Int))) Q E s:=by
 obtain⟨j,d,e,b⟩:=id f;unfold Builtin.Slice.sliceApplied Builtin.Slice.sliceFields;refine aq (aq (wpAny_field d b rfl (aq (wpAny_field d b rfl (aq (wpAny_field d b rfl (ao ?_)))))));refine aq (slicePart_none ?_);rw[aR (by decide)];refine aq (qX g (aq (qX i (aq (ao ?_)))));show wpAny _ _ (match Builtin.Slice.sliceAdjust a c 1 n with|(a,c)=>pure (a,(1:Int),Builtin.Slice.slicePlaces a c 1)) _ _ s;rw[wm a c n];show wpAny _ _ (pure (((sIx n 0 a):Int),1,Builtin.Slice.slicePlaces ((sIx n 0 a):Int) ((sIx n n c):Int) 1)) _ _ s;rw[wR];exact ao h
def Bw(a:Array Vq)(i k:Nat):((List.range k).filterMap λ(m:Nat)=>a[((i:Int)+(m:Int)*1).toNat]?).toArray=((a.toList.drop i).take k).toArray:=by
 have e:(λ(m:Nat)=>a[(i+(m:Int)*1).toNat]?)=λm=>a[i+m]?:=by
  funext m;have:(i+(m:Int)*1).toNat=i+m:=by omega
  rw[this]
 rw[e];have:=pick_run a i k;rw[List.filterMap_map]at this;have b:((λx=>a[x]?) ∘ λx=>i+x)=λm=>a[i+m]?:=rfl;rw[b]at this;rw[this]
theorem getItem_tuple_cut{a b:Oq Int}(c:IsTup s.heap t items)(j:s.heap.IsSliceOf sl vl vu .none)(l:IsPart vl a)(n:IsPart vu b)
  (hw:¬(sIx items.size 0 a=0/\sIx items.size items.size b=items.size))
  (h:Q (.ref s.heap.objs.size) {s with heap:=s.heap.push {cls:=.type "tuple",data:=.seq ((items.toList.drop (sIx items.size 0 a)).take (sIx items.size items.size b-sIx items.size 0 a)).toArray}})
  (hsz:items.size<=sizeLine):wpAny (model prog w) A (getItem (.ref t) (.ref sl)) Q E s:=by
 have d:sizeOk (.seq ((items.toList.drop (sIx items.size 0 a)).take (sIx items.size items.size b-sIx items.size 0 a)).toArray):=by show ((items.toList.drop (sIx items.size 0 a)).take (sIx items.size items.size b-sIx items.size 0 a)).toArray.size<=sizeLine;rw[bz,bI,bK,bq];omega
 obtain⟨k,g,i,m⟩:=id j;have f:s.TypeIs (.ref sl) "slice" :=⟨k,g,i⟩;unfold getItem;try with_reducible refine wpAny_holding ?_;first|refine aq (ao ?_)|skip
 refine aq (wpAny_sequenceKey c.typeIs (by decide) ?_);refine aq (wpAny_callSpecial?_slot c.typeIs PyProof.Rows.slot_tuple_getitem
  (wpAny_call_entry PyProof.Rows.slot_tuple_getitem c.typeIs entry_tuple_getitem ?_ (args_tuple_getitem _ _)))
 show wpAny _ _ (Builtin.Tuple.tupleItemsOf (.ref t) >>= _) _ _ s;refine aq (tupleItemsOf_ c ?_);refine aq (wpAny_typeOf f ?_);rw[aQ (by decide)];refine aq (kv j l n ?_);have e:¬((((sIx items.size 0 a):Int)==0&&(1:Int)==1&&(sIx items.size items.size b-sIx items.size 0 a)==items.size)=true):=by intro q;rw[bL,bL]at q;have o:=eq_of_beq q.1.1;have p:=eq_of_beq q.2;exact hw ⟨by omega,by omega⟩
 show wpAny _ _ (if (((sIx items.size 0 a):Int)==0&&1==1&&(sIx items.size items.size b-sIx items.size 0 a)==items.size)=true then _ else _) _ _ s;rw[aR e,Bw];first
  |exact aq (wpAny_newObj_type (ao ⟨_,rfl,ao h⟩) d)
  |exact aq (wpAny_newObj_type (aq (ao (ao ⟨_,rfl,ao h⟩))) d)
  |exact aq (aq (wpAny_newObj_type (ao (ao ⟨_,rfl,ao h⟩)) d))
  |exact aq (aq (wpAny_newObj_type (ao ⟨_,rfl,ao h⟩) d))
end
end HT
namespace L2
open PySem PySem.Spec PyProof.Rows
abbrev TO:=St->Hp->(Option Int->Hp->Prop)->Prop
def PO(X:Cx)(e:Oq Expr)(t:TO):Prop:=
 ∀(c:List (Addr×Obj)) (s:Sq) (a:St) (H:Hp) (Q:Oq Int->Hp->Prop),eC X c a H s->t a H Q->
  wpAny (model X.prog X.w) X.A (evalPart e X.env) (λu d=>∃o b,eC X c a b d/\IsPart u o/\Q o b) X.xe s
def xX:TO:=λ_ H Q=>Q none H
def Gj(t:TE):TO:=λa H Q=>t a H λx b=>∃i,x=.int i/\Q (some i) b
section
variable {X:Cx}{e:Expr}{te:TE}{lo hi:Oq Expr}{tl th:TO}{pos p2:Pos}
def El:PO X none xX:=by intro b s a H Q I h;rw[evalPart_none];exact ao ⟨none,H,I,.none,h⟩
def Es(h:PE X e te):PO X (some e) (Gj te):=by intro b s a H Q I hw;rw[evalPart_some];refine gj (h b s a H _ I hw) λu s1 ⟨x,H1,I1,r1,q1⟩=>?_;obtain⟨i,rfl,q⟩:=q1;obtain⟨t,rfl⟩:=r1;exact⟨some i,H1,I1,.int i t,q⟩
def FX(X:Cx)(r:V->Option Int->Option Int->Hp->VK->Prop):Prop:=
 ∀(f:List (Addr×Obj)) (s:Sq) (b:St) (H:Hp) (x:V) (v d c:Vq) (lo hi:Oq Int) (a:Addr) (Q:VK),eC X f b H s->fw x v->s.heap.IsSliceOf a d c .none->IsPart d lo->IsPart c hi->r x lo hi H Q->
  ∃T id,typeLookup (.type T) "__getitem__" = pure (some (.builtin id))/\s.TypeIs v T/\wpAny (model X.prog X.w) X.A (getItem v (.ref a)) (EP X f b Q) X.xe s
def FX.or(h:FX X r)(h':FX X r'):FX X (λx lo hi H Q=>r x lo hi H Q\/r' x lo hi H Q):=by
 intro k s i H x v c j lo hi a Q I f g b d q;rcases q with q|q
 .exact h k s i H x v c j lo hi a Q I f g b d q
 .exact h' k s i H x v c j lo hi a Q I f g b d q
def K6(r:V->Option Int->Option Int->Hp->VK->Prop)(te:TE)(tl th:TO):TE:=λa H Q=>te a H λx d=>tl a d λl b=>th a b λu c=>r x l u c Q
def Ci(f:FX X r)(m:PE X e te)(n:PO X lo tl)(g:PO X hi th):PE X (.Subscript e (.Slice lo hi none p2) pos) (K6 r te tl th):=by intro c s a H Q I h;refine Subscript_ (gj (m c s a H _ I h) λv s1 ⟨x,H1,I1,r1,q1⟩=>?_);refine wpAny_Slice (gj (n c s1 a H1 _ I1 q1) λvl s2 ⟨l,H2,I2,pl,q2⟩=>gj (g c s2 a H2 _ I2 q2) λvu s3 ⟨u,H3,I3,pu,q3⟩=>?_);rw[evalPart_none];refine ao ?_;have i:eC X c a H3 {s3 with heap:=s3.heap.push {cls:=.type "slice",data:=.fields #[vl,vu,.none]}}:=I3.kept λb o q=>ae _ q;obtain⟨T,id,d,k,j⟩:=f c {s3 with heap:=s3.heap.push {cls:=.type "slice",data:=.fields #[vl,vu,.none]}} a H3 x v vl vu l u s3.heap.objs.size Q i r1 (Heap.IsSliceOf.new ..) pl pu q3;exact tail_any k d j (by with_unfolding_all rfl)
noncomputable def Bd(a:List V)(lo hi:Oq Int):List V:=(a.drop (HT.sIx a.length 0 lo)).take (HT.sIx a.length a.length hi-HT.sIx a.length 0 lo)
def oX xs lo hi:(Bd xs lo hi).length<=xs.length:=by unfold Bd;rw[bI,bK];omega
def Jd(K:W.Frag):V->Option Int->Option Int->Hp->VK->Prop:=λx lo hi H Q=>∃a b,x=.ref a/\jv K H a b/\
 ¬(HT.sIx b.length 0 lo=0/\HT.sIx b.length b.length hi=b.length)/\∀p,H p=none->Q (.ref p) (e6 H p (.tup (Bd b lo hi)))
def GS:FX X (Jd X.K):=by
 intro y s u H x v p w lo hi o Q I l m j k h;obtain⟨a,c,rfl,n,hw,q⟩:=h;cases l;obtain⟨d,r,i,g⟩:=I.tuple n;have f:d.toArray.size=c.length:=by rw[bz];exact r.length.symm
 refine⟨"tuple",_,PyProof.Rows.slot_tuple_getitem.lookup,i.typeIs,?_⟩;refine HT.getItem_tuple_cut i m j k (by rw[f];exact hw) ?_ (by rw[f];exact g);rw[f];refine⟨.ref s.heap.objs.size,_,I.laid (λb t q=>ae _ q) (aK _) ?_,rfl,q _ (I.hok.fresh (aK _))⟩;exact⟨aN (oX c lo hi) g,_,(r.drop (HT.sIx c.length 0 lo)).take (HT.sIx c.length c.length hi-HT.sIx c.length 0 lo),ug.new _ _⟩
def JQ(K:W.Frag):R2:=λx y H Q=>∃a b d c,x=.ref a/\y=.ref b/\jv K H a d/\jv K H b c/\d≠[]/\d.length+c.length<=sizeLine/\
 (c=[]->Q (.ref a) H)/\(c≠[]->∀p,H p=none->Q (.ref p) (e6 H p (.tup (d++c))))
def eS.nil_iff(r:eS xs us):us=[]↔xs=[]:=by
 cases r with
 |nil=>simp
 |cons _ _=>simp
def E9:l9 X (binaryOp .Add) (JQ X.K):=by intro D s C H x y v u Q I p l h;obtain⟨a,b,t,B,rfl,rfl,o,i,r,f,k,m⟩:=h;cases p;cases l;obtain⟨j,d,n,_⟩:=I.tuple o;obtain⟨g,c,p2,_⟩:=I.tuple i;refine HT.cat_tup n p2 (λz=>r (d.nil_iff.mp z)) (λz=>⟨.ref a,H,I,rfl,k (c.nil_iff.mp z)⟩) (λz=>?_) (by rw[<-d.length,<-c.length];exact f);refine⟨.ref s.heap.objs.size,_,I.laid (λb A q=>ae _ q) (aK _) ?_,rfl,m (λw=>z (c.nil_iff.mpr w)) _ (I.hok.fresh (aK _))⟩;exact⟨by rw[aT];exact f,_,d.append c,ug.new _ _⟩
end
end L2
namespace L2
open PySem PySem.Spec PyProof.Rows
noncomputable def ui(n:Nat)(i:Int):Oq Nat:=if 0<=i then (if i<n then some i.toNat else none) else if -(n:Int)<=i then some (i+n).toNat else none
noncomputable def nh{a:Type}(b:List a)(i:Int):Oq a:=(ui b.length i).bind λj=>b[j]?
def xY(h:ui n i=some j):seqIndex? i n=some j/\j<n/\-(n:Int)<=i/\i<n:=by
 unfold ui at h;by_cases b:0<=i
 .rw[aQ b]at h;by_cases a:i<n
  .rw[aQ a]at h;have e:=Option.some.inj h;exact⟨by rw[seqIndex_of b a,e],by omega,by omega,a⟩
  .rw[aR a]at h;cases h
 .rw[aR b]at h;by_cases a:-n<=i
  .rw[aQ a]at h;have e:=Option.some.inj h;exact⟨by rw[seqIndex_neg (by omega) a,e],by omega,a,by omega⟩
  .rw[aR a]at h;cases h
def ue{a:List α}{v:α}(h:nh a i=some v):∃j,seqIndex? i a.length=some j/\a[j]? = some v/\j<a.length/\-(a.length:Int)<=i/\i<a.length:=by
 unfold nh at h;cases e:ui a.length i with
 |none=>rw[e]at h;cases h
 |some j=>rw[e]at h;obtain⟨d,f,c,b⟩:=xY e;exact⟨j,d,h,f,c,b⟩
def yS{a:List α}{j:Nat}{v:α}(h:a[j]? = some v):nh a (j:Int)=some v:=by
 have b:=(aa.mp h).1;have e:ui a.length j=some j:=by unfold ui;rw[aQ (by omega),aQ (by omega)];simp
 unfold nh;rw[e];exact h
def Do xs (v:α):nh (xs++[v]) (-1)=some v:=by
 have a:(xs++[v]).length=xs.length+1:=by simp
 have e:ui (xs++[v]).length (-1)=some xs.length:=by unfold ui;rw[a,aR (by decide),aQ (by omega)];congr 1;omega
 unfold nh;rw[e];simp
def x9(b:Expr):Prop:=∀o i,subscripted b false o i=operate [o,i] (getItem o i)
def EJ(X:Cx)(r:R2):Prop:=
 ∀(b a:Expr) (d:List (Addr×Obj)) (s:Sq) (c:St) (H:Hp) (x y:V) (v u:Vq) (Q:VK),eC X d c H s->fw x v->fw y u->r x y H Q->
  subscripted a false v u=operate [v,u] (getItem v u)->wpAny (model X.prog X.w) X.A (subscriptTail b a v u) (EP X d c Q) X.xe s
def KY(X:Cx)(id:String)(r:V->List V->Hp->VK->Prop):Prop:=
 ∀(c:List (Addr×Obj)) (s:Sq) (b:St) (H:Hp) (x:V) (a:List V) (v:Vq) (d:List Vq) (Q:VK),eC X c b H s->fw x v->eS a d->r x a H Q->
  wpAny (model X.prog X.w) X.A (call (.builtin id) (v::d)) (EP X c b Q) X.xe s
section
variable {X:Cx}{a b:Expr}{ta tb:TE}{pos:Pos}
def EJ.or(h:EJ X r)(h':EJ X r'):EJ X (λx y H Q=>r x y H Q\/r' x y H Q):=by
 intro c d g s f H x y v u Q I j i q e;rcases q with q|q
 .exact h c d g s f H x y v u Q I j i q e
 .exact h' c d g s f H x y v u Q I j i q e
def CY(e:EJ X r)(j:PE X a ta)(c:PE X b tb)(l:x9 b):PE X (.Subscript a b pos) (pP r ta tb):=by intro n s m H Q I h;exact Subscript_ (GZ j c I h λv u i x y f g k d q=>e a b n i m f x y v u Q g k d q (l _ _))
def IY(K:W.Frag):R2:=λx y H Q=>∃p c i v,x=.ref p/\y=.int i/\iY K H p c/\nh c i=some v/\Q v H
def JF(K:W.Frag):R2:=λx y H Q=>∃p c i v,x=.ref p/\y=.int i/\jv K H p c/\nh c i=some v/\Q v H
def JD:R2:=λx y H Q=>∃z i c,x=.str z/\y=.int i/\z.length<=sizeLine/\nh z.cps.toList i=some c/\Q (.str ⟨#[c]⟩) H
def nM:EJ X (IY X.K):=by
 intro k f P s L H x y v u Q I F B h A;obtain⟨p,U,i,z,rfl,rfl,C,N,q⟩:=h;cases F;obtain⟨t,rfl⟩:=B;obtain⟨e,r,l,Z⟩:=I.list C;obtain⟨j,d,D,S,J,E⟩:=ue N;obtain⟨w,o,g⟩:=r.get D;have R:=r.length;have Y:=ud;have c:EP X P L Q w s:=⟨z,H,I,g,q⟩;by_cases n:0<=i
 .have m:i.toNat=j:=by rw[seqIndex_of n E]at d;exact Option.some.inj d
  exact item_listR l.isList n (by omega) (by rw[m];simpa using o) c A
 .have m:(i+e.toArray.size).toNat=j:=by rw[seqIndex_neg (by omega) J]at d;rw[bz,<-R];exact Option.some.inj d
  exact subscriptTail_builtinR l.isList.typeIs slot_list_getitem.lookup
   (wpAny_getItem_list_neg l.isList (by omega) (by rw[bz]<;>omega) (by omega) (by rw[m];simpa using o) ⟨rfl,c⟩) A
def iJ:EJ X (JF X.K):=by
 intro e c F s D H x y v u Q I B l h C;obtain⟨p,P,i,z,rfl,rfl,m,E,q⟩:=h;cases B;obtain⟨t,rfl⟩:=l;obtain⟨k,r,g,S⟩:=I.tuple m;obtain⟨j,o,n,L,U,N⟩:=ue E;obtain⟨w,A,d⟩:=r.get n;have J:=r.length;have R:=ud;have f:EP X F D Q w s:=⟨z,H,I,d,q⟩;exact subscriptTail_builtinR g.typeIs slot_tuple_getitem.lookup
  (getItem_tuple g (by omega) (by omega) (by rw[bz,<-J];exact o) (by simpa using A) ⟨rfl,f⟩) C
def GT:EJ X JD:=by
 intro e d J s F H x y v u Q I n k h p;obtain⟨z,i,c,rfl,rfl,E,w,q⟩:=h;obtain⟨t,rfl⟩:=n;obtain⟨C,rfl⟩:=k;obtain⟨j,f,l,B,o,m⟩:=ue w;have A:z.cps.toList.length=z.length:=by simp[Str.length]
 rw[A]at f o m;have D:=ud;exact tail_any (typeIs_str s z t) slot_str_getitem.lookup (getItem_str (by have g:decide (i < -(2 ^ 63))=false:=aB (by omega);have r:decide (i >= 2 ^ 63)=false:=aB (by omega);rw[g,r,Bool.or_false]) (by rw[f];simpa using l) ⟨.str ⟨#[c]⟩,H,I.tok _,⟨_,rfl⟩,q⟩) p
def Kw(K:W.Frag):R2:=λx y H Q=>IY K x y H Q\/JF K x y H Q\/JD x y H Q
def Iq:EJ X (Kw X.K):=nM.or (iJ.or GT)
def wV(c:List Vq) n j u:Obj.mapSeq (·.setIfInBounds j u) {cls:=.type "list",data:=.seq c.toArray n}={cls:=.type "list",data:=.seq (c.set j u).toArray n}:=by simp[Obj.mapSeq]
def eC.lst(I:eC X dU σ H s)(h:H p=some (.lst xs)) :
  ∃c n,eS xs c/\s.heap.get? p=some {cls:=.type "list",data:=.seq c.toArray n}/\xs.length<=sizeLine:=by
 obtain⟨z,c,n,r,e⟩:=I.hok p _ h;exact⟨c,n,r,e,z⟩
def eC.lstUpd{d c:List Vq}(I:eC X dU σ H s)(h:H p=some (.lst xs))
  (j:s.heap.get? p=some {cls:=.type "list",data:=.seq d.toArray n}) (g:f {cls:=.type "list",data:=.seq d.toArray n}={cls:=.type "list",data:=.seq c.toArray n'}) (r:eS ys c) (k:ys.length<=sizeLine) t :
  eC X dU σ (e6 H p (.lst ys)) {s with heap:=s.heap.update p f,toks:=t}:=by
 have e:(s.heap.update p f).get? p=some {cls:=.type "list",data:=.seq c.toArray n'}:=by rw[Heap.get?_update_self f j (by rw[g]<;>rfl),g]
 refine I.write (by rw[h];trivial) (.inl rfl) (λb u i q=>(Heap.get?_update_other _ _ (Ne.symm i)).trans q) ⟨_,e⟩ ?_;exact⟨k,c,n',r,e⟩
def yy:V->V->V->Hp->(Hp->Prop)->Prop:=λo i v H Q=>∃p c k j,o=.ref p/\i=.int k/\H p=some (.lst c)/\ui c.length k=some j/\Q (e6 H p (.lst (c.set j v)))
def Dp:Jx X yy:=by
 intro J s E H o i v P K u Q I F z B h;obtain⟨p,A,k,j,rfl,rfl,w,D,q⟩:=h;cases F;obtain⟨t,rfl⟩:=z;obtain⟨c,n,r,f,C⟩:=I.lst w;obtain⟨d,L,l,y⟩:=xY D;have g:=r.length;have N:=ud;have x:eC X J E (e6 H p (.lst (A.set j v))) {s with heap:=s.heap.update p (Obj.mapSeq (·.setIfInBounds j u))}:=I.lstUpd w f (wV c n j u) (r.set B j) (by rw[bM];exact C) s.toks
 by_cases m:0<=k
 .have e:k.toNat=j:=by rw[seqIndex_of m y]at d;exact Option.some.inj d
  exact W.ki_setAt f m (by omega) (by rw[bz,<-g];exact y) (by rw[e];exact⟨_,x,q⟩)
 .have e:(k+c.toArray.size).toNat=j:=by rw[seqIndex_neg (by omega) l]at d;rw[bz,<-g];exact Option.some.inj d
  exact W.ki_setBack f (by omega) (by rw[bz,<-g];exact l) (by omega) (by rw[e];exact⟨_,x,q⟩)
def tU lo hi n:(sliceBounds lo hi none n).1=((HT.sIx n 0 lo:Nat):Int)/\(sliceBounds lo hi none n).2.1=((HT.sIx n n hi:Nat):Int)/\(sliceBounds lo hi none n).2.2=1:=by
 refine⟨?_,?_,rfl⟩
 .cases lo with
  |none=>simp[sliceBounds,HT.sIx]
  |some i=>
   simp only[sliceBounds,HT.sIx,Option.getD_none,show 1>0 by decide,if_true];by_cases h:i<0
   .simp only[h,if_true]<;>omega
   .simp only[h,if_false]<;>omega
 .cases hi with
  |none=>simp[sliceBounds,HT.sIx]
  |some i=>
   simp only[sliceBounds,HT.sIx,Option.getD_none,show 1>0 by decide,if_true];by_cases h:i<0
   .simp only[h,if_true]<;>omega
   .simp only[h,if_false]<;>omega
def rL(c:List Vq) lo hi:slicePick c.toArray lo hi none=((c.drop (HT.sIx c.length 0 lo)).take (HT.sIx c.length c.length hi-HT.sIx c.length 0 lo)).toArray:=by obtain⟨d,f,e⟩:=tU lo hi c.toArray.size;unfold slicePick;rw[d,f,e];simp only[sliceRange_one,pick_run,bz]<;>rfl
def I0(K:W.Frag):V->Option Int->Option Int->Hp->VK->Prop:=λx d e H Q=>∃a c,x=.ref a/\iY K H a c/\∀p,H p=none->Q (.ref p) (e6 H p (.lst (Bd c d e)))
def Ej:FX X (I0 X.K):=by intro z s w H x v t y d f p Q I l n i k h;obtain⟨a,c,rfl,o,q⟩:=h;cases l;obtain⟨g,r,e,j⟩:=I.list o;have m:=r.length;refine⟨"list",_,slot_list_getitem.lookup,e.isList.typeIs,?_⟩;refine wpAny_getItem_list_slice e.isList n i k .none (by simp) ?_ (by rw[bz]<;>omega);rw[rL,<-m];refine⟨.ref s.heap.objs.size,_,I.laid (λb u q=>ae _ q) (aK _) ?_,rfl,q _ (I.hok.fresh (aK _))⟩;exact⟨aN (oX c d f) j,_,0,(r.drop (HT.sIx c.length 0 d)).take (HT.sIx c.length c.length f-HT.sIx c.length 0 d),au _ rfl⟩
def ux:iS X (.type "list") (λA H Q=>∃p g,A=[.ref p]/\(iY X.K H p g\/jv X.K H p g)/\∀l,H l=none->Q (.ref l) (e6 H l (.lst g))):=by
 intro F s E H A J Q I r h;obtain⟨p,g,rfl,j,q⟩:=h;obtain⟨u,rfl,C⟩:=pb r;cases C;have m:∀(c:List Vq),eS g c->g.length<=sizeLine->∀(d:Heap) (i:Nat),(∀b B,s.heap.get? b=some B->d.get? b=some B)->
   d.get? s.heap.objs.size=some {cls:=.type "list",dict:=none,data:=.seq c.toArray i,slots:=#[]}->EP X F E Q (.ref s.heap.objs.size) {s with heap:=d}:=λc f k d i t e=>
  ⟨.ref s.heap.objs.size,_,I.laid t (aK _) (show fK X.prog X.w _ d _ (.lst g) from ⟨k,c,i,f,e⟩),rfl,q _ (I.hok.fresh (aK _))⟩
 rcases j with j|j
 .obtain⟨c,f,v,k⟩:=I.list j;have D:=f.length;obtain⟨o,x,z,n,y⟩:=v.isList;exact call_list_seq p (.inl rfl) x z y (λd i t e=>m c f k d i t e) (by simp only[bz]<;>omega)
 .obtain⟨c,f,v,k⟩:=I.tuple j;have D:=f.length;obtain⟨o,x,z,n,y⟩:=v;exact call_list_seq p (.inr rfl) x z y (λd i t e=>m c f k d i t e) (by simp only[bz]<;>omega)
def rm:iS X (.type "tuple") (λk H Q=>∃p d,k=[.ref p]/\((iY X.K H p d/\∀l,H l=none->Q (.ref l) (e6 H l (.tup d)))\/(jv X.K H p d/\Q (.ref p) H))):=by
 intro y s x H k A Q I r h;obtain⟨p,d,rfl,h⟩:=h;obtain⟨u,rfl,v⟩:=pb r;cases v;rcases h with⟨f,q⟩|⟨f,q⟩
 .obtain⟨c,j,g,m⟩:=I.list f;have z:=j.length;refine call_tuple_list g.isList (λi w=>?_) (by simp only[bz]<;>omega);have n:=I.kept (t':=s.toks) w;have t:eC X y x (e6 H i.objs.size (.tup d)) {s with heap:=i.push {cls:=.type "tuple",data:=.seq c.toArray}}:=
   n.laid (λb o e=>ae _ e) (aK _) (⟨m,c,j,ug.new _ _⟩)
  exact⟨.ref i.objs.size,_,t,rfl,q _ (n.hok.fresh (aK _))⟩
 .obtain⟨c,j,g,m⟩:=I.tuple f;exact call_tuple_same g ⟨.ref p,H,I,rfl,q⟩
def IH(K:W.Frag)(T:String)(x:V)(H:Hp):Prop:=match x with
 |.str _=>T = "str"
 |.int _=>T = "int"
 |.ref p=>(T = "list" /\∃d,iY K H p d)\/(T = "tuple" /\∃o,K.lookup p=some o/\o.cls=.type "tuple" /\o.dict=none)\/
   (T = "dict" /\((∃c,H p=some (.dK c))\/∃c,H p=some (.dT c)))\/(T = "set" /\∃S n,H p=some (.set S n))
 |_=>False
theorem CZ{y:List (Addr×Obj)}{w:St}{H:Hp}{s:Sq}{T:String}{x:V}{v:Vq}(I:eC X y w H s)(r:fw x v)(ty:IH X.K T x H) :
  s.TypeIs v T/\∀a,v=.ref a->∃l,s.heap.get? a=some l/\l.dict=none:=by
 cases x with
 |str z=>obtain⟨t,rfl⟩:=r;cases (ty);exact⟨typeIs_str s z t,λ_ e=>nomatch e⟩
 |int i=>obtain⟨t,rfl⟩:=r;cases (ty);exact⟨typeIs_int s i t,λ_ e=>nomatch e⟩
 |ref p=>
  cases r;rcases ty with⟨rfl,A,q⟩|⟨rfl,o,d,u,g⟩|⟨rfl,d⟩|⟨rfl,S,n,d⟩
  .obtain⟨m,_,k,_⟩:=I.list q;refine⟨k.isList.typeIs,λa e=>?_⟩;cases e;obtain⟨o,n,e,c,g,_⟩:=k;exact⟨o,e,g⟩
  .refine⟨⟨o,I.kIn p o d,u⟩,λa e=>?_⟩;cases e;exact⟨o,I.kIn _ o d,g⟩
  .have z:∃o,s.heap.get? p=some o/\o.ExactDict:=by
    rcases d with⟨h,d⟩|⟨h,d⟩
    .obtain⟨_,_,_,_,o,_,_,e,f,_⟩:=I.hok p _ d;exact⟨o,e,f⟩
    .obtain⟨_,_,_,_,o,_,_,e,f,_⟩:=I.hok p _ d;exact⟨o,e,f⟩
   obtain⟨o,e,f⟩:=z;refine⟨⟨o,e,f.1⟩,λa j=>?_⟩;cases j;exact⟨o,e,f.2.1⟩
  .obtain⟨o,_,_,_,e,f,_⟩:=I.hok p _ d;refine⟨⟨o,e,f.1⟩,λa j=>?_⟩;cases j;exact⟨o,e,f.2.1⟩
 |_=>exact False.elim ty
def Jg(K:W.Frag)(T:String)(r:V->List V->Hp->VK->Prop)(to:TE):TE:=λd H Q=>to d H λx c=>IH K T x c/\r x [] c Q
def K2(K:W.Frag)(T:String)(r:V->List V->Hp->VK->Prop)(to:TE)(t:TA):TE:=λc H Q=>to c H λx d=>IH K T x d/\t c d λf e=>r x f e Q
variable {o e:Expr}{es:List Expr}{to:TE}{t:TA}{name:Str}{apos cpos:Pos}{T id:String}{r:V->List V->Hp->VK->Prop}
def Im(k:PlainAttrs T)(f:Slot T name id)(g:typeOf (.builtin id)=pure (.type "method_descriptor"))(p:KY X id r)(m:PE X o to)
  (c:attributeBase o name X.env (eval o X.env)=eval o X.env:=by rfl) (d:(apos.endLine==cpos.line)=true:=by rfl):PE X (.Call (.Attribute o name apos) [] [] cpos) (Jg X.K T r to):=by
 intro j s i H Q I h;refine wpAny_Call_method0_late c d (gj (m j s i H _ I h) λv s1 ⟨x,H1,I1,r1,ty,q1⟩=>?_);obtain⟨l,n⟩:=CZ I1 r1 ty;exact⟨T,id,k,f,g,l,n,Calls.callWith_builtin rfl (PySem.evalArgs_none (p j s1 i H1 x [] v [] Q I1 r1 .nil q1))⟩
def JV(q:PlainAttrs T)(g:Slot T name id)(k:typeOf (.builtin id)=pure (.type "method_descriptor"))(y:KY X id r)(p:PE X o to)(u:PA X (e::es) t)
  (d:attributeBase o name X.env (eval o X.env)=eval o X.env:=by rfl)
  (f:((backTo cpos (starEach (e::es) X.env)).all (λx=>!x.1)&&(backToKw cpos (keywordEach [] X.env)).all (λx=>x.1.isSome)
   && decide ((e::es).length+([]:List Keyword).length+(if ([]:List Keyword).isEmpty then 0 else 1)<30))=true:=by rfl)
  (c:(apos.endLine==cpos.line)=true:=by rfl) (w:starEach (e::es) X.env=(false,eval e X.env)::starEach es X.env:=by rfl) (hplain:(backTo cpos (starEach es X.env)).any (·.1)=false:=by rfl) :
  PE X (.Call (.Attribute o name apos) (e::es) [] cpos) (K2 X.K T r to t):=by
 intro j s i H Q I h;refine wpAny_Call_method_late d f c rfl (gj (p j s i H _ I h) λv s1 ⟨x,H1,I1,r1,ty,q1⟩=>?_);obtain⟨n,m⟩:=CZ I1 r1 ty;refine⟨T,id,q,g,k,n,m,?_⟩;have l:=u cpos j s1 i H1 _ I1 q1;rw[w]at l ⊢;refine Calls.callWith_builtin (by show (false||(backTo cpos (starEach es X.env)).any (·.1))=false;rw[hplain]<;>rfl) (Calls.evalArgs_plain ?_);exact gj l λus s2 ⟨vs,H2,I2,r2,q2⟩=>y j s2 i H2 x vs v us Q I2 r1 r2 q2
end
end L2
namespace L2
open PySem PySem.Spec PyProof.Rows
def Lb(X:Cx)(id:String)(r:V->List V->Hp->VK->Prop):Prop:=
 ∀(c:List (Addr×Obj)) (s:Sq) (b:St) (H:Hp) (x:V) (a:List V) (v:Vq) (d:List Vq) (Q:VK),eC X c b H s->fw x v->eS a d->r x a H Q->
  wpAny (model X.prog X.w) X.A (call (.builtin id) (v::d)) (EP X c b Q) X.xe s
theorem eS.one:∀{x} {us},eS [x] us->∃u,us=[u]/\fw x u
 |_,_,.cons r .nil=>⟨_,rfl,r⟩
theorem eS.zero:∀{us},eS [] us->us=[]
 |_,.nil=>rfl
theorem eS.rep(h:eS xs us):∀k:Nat,eS (List.replicate k xs).flatten (List.replicate k us).flatten
 |0=>.nil
 |k+1=>by rw[bN,bN,bO,bO];exact eS.append h (eS.rep h k)
theorem sH(a:List Vq):∀k b,
  List.foldl (λc f=>c++f) b.toArray (List.replicate k a.toArray)=(b++(List.replicate k a).flatten).toArray
 |0,b=>by simp
 |k+1,b=>by
  have e:b.toArray++a.toArray=(b++a).toArray:=by simp
  have d:(b++a)++(List.replicate k a).flatten=b++(List.replicate (k+1) a).flatten:=by rw[bN,bO,bP]
  rw[<-d,<-sH a k (b++a),<-e,bN,List.foldl_cons]
section
variable {X:Cx}{dU:List (Addr×Obj)}{σ:St}{H:Hp}{s:Sq}{l b:Addr}{xs ys zs:List V}
def eC.lset{c a:List Vq}(I:eC X dU σ H s)(d:H l=some (.lst xs))
  (e:s.heap.get? l=some {cls:=.type "list",data:=.seq c.toArray n}) (g:f c.toArray=a.toArray) (i:eS ys a) (k:ys.length<=sizeLine) :
  eC X dU σ (e6 H l (.lst ys)) {s with heap:=s.heap.update l (Obj.mapSeq f),toks:=t'}:=by
 have q:=PySem.IsL.update e f;rw[g]at q;refine I.write (by rw[d];exact trivial) (.inl rfl) (λm u h j=>(Heap.get?_update_other s.heap (Obj.mapSeq f) (Ne.symm h)).trans j) ⟨_,q⟩ ?_;exact⟨k,a,_,i,q⟩
def eC.lnew(I:eC X dU σ H s)(a:eS ys its)(c:ys.length<=sizeLine) :
  eC X dU σ (e6 H s.heap.objs.size (.lst ys)) {s with heap:=s.heap.push {cls:=.type "list",data:=.seq its.toArray},toks:=t'}:=
 I.laid (λ_ _ q=>ae _ q) (aK _) ⟨c,its,0,a,au _ rfl⟩
def eC.fresh(I:eC X dU σ H s):H s.heap.objs.size=none:=I.hok.fresh (aK _)
def eC.lstM(I:eC X dU σ H s)(c:H l=some (.lst xs)):xs.length<=sizeLine/\∃a n,eS xs a/\xs.length=a.length/\s.heap.get? l=some {cls:=.type "list",data:=.seq a.toArray n}:=by obtain⟨z,a,n,r,e⟩:=I.hok l _ c;exact⟨z,a,n,r,r.length,e⟩
def Ay(h:n<=sizeLine):Builtin.List.listTooLong n=false:=by unfold Builtin.List.listTooLong;exact aB (by omega)
end
section
variable {X:Cx}
def uA:V->List V->Hp->VK->Prop:=λx b H Q=>∃l a y,x=.ref l/\b=[y]/\H l=some (.lst a)/\a.length<sizeLine/\Q .non (e6 H l (.lst (a++[y])))
def ze:Lb X "list.append" uA:=by intro o s m H x i v p Q I f d h;obtain⟨l,g,y,rfl,rfl,b,j,q⟩:=h;cases f;obtain⟨u,rfl,c⟩:=d.one;obtain⟨z,a,n,r,k,e⟩:=I.lstM b;refine call_meets F.slot_list_append ⟨_,e,rfl⟩ F.entry_list_append (F.args_list_append_2 _ _) (PySem.list_append l a.toArray n u (by rw[bz];omega)) ⟨e,?_⟩;refine⟨.non,_,I.lset b e (by simp) (r.append (.cons c .nil)) ?_,rfl,q⟩;rw[aT,bQ];omega
def AI:V->List V->Hp->VK->Prop:=λx b H Q=>∃l a,x=.ref l/\b=[]/\H l=some (.lst a)/\Q .non (e6 H l (.lst []))
def CA:Lb X "list.clear" AI:=by intro m s k H x i v o Q I f d h;obtain⟨l,g,rfl,rfl,c,q⟩:=h;cases f;have b:=d.zero;subst b;obtain⟨z,a,n,r,j,e⟩:=I.lstM c;refine call_meets F.slot_list_clear ⟨_,e,rfl⟩ F.entry_list_clear (F.args_list_clear_1 _) (AutoSeq1.list_clear_list_0 l a.toArray n (by rw[bz];omega)) ⟨e,?_⟩;exact⟨.non,_,I.lset c e rfl .nil (bD _),rfl,q⟩
def Iu:R2:=λx y H Q=>∃l b a c,x=.ref l/\y=.ref b/\H l=some (.lst a)/\H b=some (.lst c)/\a.length+c.length<=sizeLine/\∀p,H p=none->Q (.ref p) (e6 H p (.lst (a++c)))
def Bv:l9 X (binaryOp .Add) Iu:=by
 intro E s C H x y v u Q I i d h;obtain⟨l,b,p,D,rfl,rfl,j,o,w,q⟩:=h;cases i;cases d;obtain⟨z,c,n,r,A,e⟩:=I.lstM j;obtain⟨B,a,t,f,k,m⟩:=I.lstM o;refine PySem.P.add_list e m ?_ (by rw[bz,bz];omega);have g:c.toArray++a.toArray=(c++a).toArray:=by simp
 rw[g];exact⟨.ref _,_,I.lnew (r.append f) (by rw[aT];omega),rfl,q _ I.fresh⟩
def Ju:R2:=λx y H Q=>∃l k a,x=.ref l/\y=.int k/\H l=some (.lst a)/\-(2 ^ 63)<=k/\k<2 ^ 63/\a.length*k.toNat<=sizeLine/\
 ∀p,H p=none->Q (.ref p) (e6 H p (.lst (List.replicate k.toNat a).flatten))
def Ed{b:Type}(a:List b) k:(List.replicate k a).flatten.length=k*a.length:=by
 induction k with
 |zero=>simp
 |succ k ih=>rw[bN,bO,aT,ih,bR,Nat.add_comm]
def Ic:l9 X (binaryOp .Mult) Ju:=by
 intro P s N H x y v u Q I C p h;obtain⟨l,k,L,rfl,rfl,E,A,w,o,q⟩:=h;cases C;obtain⟨t,rfl⟩:=p;obtain⟨z,b,n,r,K,e⟩:=I.lstM E;have D:b.toArray.size*k.toNat<=sizeLine:=by rw[bz,<-K];exact o
 have g:¬b.toArray.size*k.toNat>(2 ^ 63-1) / 8:=by
  have:sizeLine<=(2 ^ 63-1) / 8:=by decide
  omega
 have d:¬(!Builtin.List.listFitsIndex k)=true:=by rw[fitsIndex_both A w];exact aH
 have c:¬Builtin.List.listTooLong (b.toArray.size*k.toNat)=true:=by rw[Ay D];exact aH
 have f:List.foldl (λj i=>j++i) #[] (List.replicate (if b.toArray.isEmpty=true then 0 else k.toNat) b.toArray)=(List.replicate k.toNat b).flatten.toArray:=by
  have B:∀m:Nat,List.foldl (λj i=>j++i) #[] (List.replicate m b.toArray)=(List.replicate m b).flatten.toArray:=λm=>by have:=sH b m [];rw[List.nil_append]at this;exact this
  rw[B];cases b with
  |nil=>simp
  |cons a r'=>rw[aR (by simp)]
 refine wpAny_binaryOp_repeat_ref (by decide) ⟨_,e,rfl⟩ (λJ=>typeIs_int J k t) noFill_list_mul F.fills_int_mul F.slot_int_rmul repeat_list F.slot_int_index.lookup
  (call_meets F.slot_int_rmul (typeIs_int s k t) F.entry_int_rmul (F.args_int_rmul_2 _ _) (int___rmul___int_list k t l b.toArray n)
   ⟨e,rfl,⟨_,e,rfl⟩,call_meets F.slot_list_mul ⟨_,e,rfl⟩ F.entry_list_mul (F.args_list_mul_2 _ _) (AutoListH.list___mul___list_int_3 l b.toArray n k t d g c) ⟨e,?_⟩⟩)
 rw[f];exact⟨.ref _,_,I.lnew (r.rep k.toNat) (by rw[Ed,Nat.mul_comm];exact o),rfl,q _ I.fresh⟩
end
end L2
namespace Att
open PySem PySem.W PySem.Calls PyProof.Rows
def pH:∀c vs,WellAll P h vs (c.map WData.int)->IntsAre vs c:=by
 intro c;induction c with
 |nil=>intro vs w;rw[bS]at w;cases w;exact .nil
 |cons n c ih=>
  intro vs w;rw[bB]at w;cases w with
  |cons a b=>cases a;exact .cons _ _ (ih _ b)
theorem script_of{l:OpenLaw}(p:l.most=some n)
  (b:l.row.toRowW.claim.pre args=true) (i:WellAll P h vals args) :
  ∃a vs c,vals=[Value.ref a]/\args=[WData.list (c.map WData.int)]/\h.get? a=some {cls:=.type "list",data:=.seq vs.toArray}/\IntsAre vs c/\c.length<=n:=by
 have g:=(pre_splitW b).1;have j:l.pre.holds [] {args:=args}=true:=(pre_splitW b).2;obtain⟨d,r,rfl,o,m⟩:=hasAllW_cons g;obtain rfl:=hasAllW_nil m;obtain⟨t,rfl,k⟩:=hasW_list o;obtain⟨c,rfl⟩:=items_int k;have s:c.length<=n:=by
  unfold OpenLaw.pre at j;have f:(WTm.not (.lt (.lit (.int n)) (.len (.arg 0)))).holds [] {args:=[.list (c.map .int)]}=true:=by have f:=(holds_andW j).1;rw[p]at f;exact f
  have e:=condW_of f (w_not (w_lt w_lit (w_len_list (w_arg rfl))));rw[ax]at e;refine bT λq=>?_;first
   | (rw[aC q']at e;exact absurd e (by decide))
   | (simp at e;omega)
 cases i with
 |cons w1 w2=>
  cases w2;cases w1 with
  |list ho rN=>exact⟨_,_,c,rfl,rfl,ho,pH c _ rN,s⟩
def post_true(l:OpenLaw) args:l.row.toRowW.claim.post args (.bool true) args=true:=
 postW_of
  (show WShape.has [] (.bool true) .bool=true by first|rfl|decide|simp[WShape.has,WShape.arms,WShape.armsAll])
  (w_eq_bool (w_res rfl) w_lit) rfl
end Att
namespace L2
open PySem PySem.Spec PyProof.Rows
theorem sr:∀{vs} {ns},IntsAre vs ns->eS (ns.map V.int) vs
 |_,_,.nil=>.nil
 |_,_,.cons n t h=>.cons ⟨t,rfl⟩ (sr h)
def lP(h:Heap)(H:Hp)(a:List (Addr×Addr)):Heap:=⟨(C8 h H).objs,{ids:=a}⟩
end L2
namespace L2
open PySem PySem.Spec PyProof.Rows
noncomputable def l0(s:Stmt)(j:Nat):Stmt:=match s with
 |.ClassDef _ _ _ body _ _ _ _ _ _ _=>body.getD j (.Pass ⟨0,0,0,0⟩)
 |_=>.Pass ⟨0,0,0,0⟩
noncomputable def fV(s:Stmt):Arguments:=match s with
 |.FunctionDef _ a _ _ _ _ _ _ _ _=>a
 |_=>{posonlyargs:=[],args:=[],vararg:=none,kwonlyargs:=[],kw_defaults:=[],kwarg:=none,defaults:=[]}
noncomputable def eU(s:Stmt):List Stmt:=match s with
 |.FunctionDef _ _ b _ _ _ _ _ _ _=>b
 |_=>[]
noncomputable def d8(s:Stmt):Scope:=match s with
 |.FunctionDef _ _ _ _ _ _ sc _ _ _=>sc
 |_=>{kind:=.function,names:=[],isGenerator:=false,isCoroutine:=false}
abbrev mw:FO:=λ_ _ _ _ _ _=>False
abbrev E0:XK:=λ_ _ _=>False
def Dk:oE mw X E0:=λ_ _ _ _ _ _ _ h=>h.elim
structure Dw(K:W.Frag)(x qual:Str)(st:Stmt)(f:Addr)(fd:FuncData):Prop where
 ex:∃(oc:Vq) (od:Oq Addr) (kV doc pm:Vq) (an:Oq Addr) (cdv ct:Vq) (osl:Array (Option Value)),
  fd=W.fnOf x qual (fV st) (eU st) (d8 st) .none kV doc pm an cdv ct/\K.lookup f=some ⟨oc,od,.func fd,osl⟩/\W.codeIn K cdv qual=true
 kp:W.keepIn K (.ref f)=true
section
variable {P:Program}{w:World}{K:W.Frag}{mg:Str->Option Value}{base:Heap}
def Dw.ok{st:Stmt}(F:Dw K x qual st f fd)(S:eZ N ps (d8 st))(g:∀vs H Q E,sp vs H Q E->vs.length=ps.length)
  (c:∀b A a s H vs Q E,e8 k (A.deeper (envOfC qual (d8 st) s.heap.objs.size f b))->sp vs H Q E->
   ∃t,uI (jJ mw P w K mg base N qual (d8 st) f b A a s H E).nox (eU st) t/\t {nx:=λ_ j=>Q .non j,rt:=Q} (hZ N vs) H):jM P w K mg base mw (k+1) f fd ps sp:=by
 obtain⟨v,o,kV,l,p,u,b,r,m,rfl,n,d⟩:=F.ex;refine Ge n d S g λA a s H vs Q E i e=>?_;obtain⟨t,h,q⟩:=c b A a s H vs Q E i e;exact⟨t,h.nox,q⟩
def Dw.binds{st:Stmt}(F:Dw K x qual st f fd)
  (h:∀(kV b d:Vq) (c:Oq Addr) (a e:Vq) (us:List Vq),us.length=ps.length->bindArgs (W.fnOf x qual (fV st) (eU st) (d8 st) .none kV b d c a e) ⟨us,[]⟩=pure (ps.zip us)):ly K fd ps []:=by
 obtain⟨j,l,kV,b,d,c,a,e,g,rfl,k,i⟩:=F.ex;exact .all (h kV b d c a e)
def wA{st:Stmt}{kV b d a e:Vq}(l:K.lookup f=some ⟨oc,od,.func (W.fnOf x qual (fV st) (eU st) (d8 st) .none kV b d an a e),osl⟩)
  (c:W.codeIn K a qual=true) (k:W.keepIn K (.ref f)=true):Dw K x qual st f (W.fnOf x qual (fV st) (eU st) (d8 st) .none kV b d an a e):=⟨⟨oc,od,kV,b,d,an,a,e,osl,rfl,l,c⟩,k⟩
end
section
variable {X:Cx}
def pv i (d:X.N[i]? = some x:=by rfl) (c:IR X.env.scope x:=by first|exact Or.inl rfl|exact Or.inr (Or.inl rfl)|exact Or.inr (Or.inr rfl)) (b:(x==("__debug__" : Str))=false:=by decide)
  (a:(x==("__classdict__" : Str))=false:=by decide):PE X (.Name x pos) (je i):=mG d c b a
end
def KQ{A B:Prop}(h:B):if false=true then A else B:=by rw[aR aH];exact h
def Kz{A B:Prop}(h:A):if true=true then A else B:=by rw[aQ rfl];exact h
def Ar(o:HO)(x:Oq HO):Prop:=match o with
 |.tbl q ps=>∃a,x=some (.tbl q (ps++a))
 |o=>x=some o
def Ar.of(h:x=some o):Ar o x:=by
 cases o with
 |tbl q ps=>exact⟨#[],by rw[h];simp⟩
 |_=>exact h
def Ar.ne(h:Ar o x):x≠none:=by
 cases o with
 |tbl q ps=>obtain⟨m,e⟩:=h;rw[e];exact λz=>nomatch z
 |_=>have e:x=some _:=h;rw[e];exact λz=>nomatch z
def eB(H a:Hp):Prop:=∀b o,H b=some o->Ar o (a b)
def eB.refl H:eB H H:=λ_ _ h=>.of h
def eB.trans(a:eB H H1)(b:eB H1 H2):eB H H2:=λc o h=>by
 have q:=a c o h;cases o with
 |tbl q ps=>obtain⟨m,e⟩:=q;obtain⟨f,d⟩:=b c _ e;exact⟨m++f,by rw[d,bp]⟩
 |_=>exact b c _ q
def eB.free(e:eB H H')(h:H' l=Option.none):H l=Option.none:=by
 cases q:H l with
 |none=>rfl
 |some o=>exact absurd h (e l o q).ne
def eB.seq{K:W.Frag}(e:eB H H')(h:iY K H a xs):iY K H' a xs:=by
 rcases h with (h|⟨o,h⟩)|h
 .exact .inl (.inl (e _ _ h))
 .exact .inl (.inr ⟨o,e _ _ h⟩)
 .exact .inr h
end L2
namespace L2
open PySem PySem.Spec PyProof.Rows
section
variable {P:Program}{w:World}{H:Hp}{h:Heap}{a:Addr}{o:HO}
def l5.track(ok:l5 P w H h)(f:H a=none)(new:fK P w (e6 H a o) h a o):l5 P w (e6 H a o) h:=λb u e=>by
 by_cases d:b=a
 .subst d;rw[eh]at e;cases e;exact new
 .rw[eA d]at e;refine (ok b u e).stay (λ_ _ _ q=>q) (λc q=>?_) λc g q=>?_
  .rw[eA (eJ q f)];exact q
  .rw[eA (eJ q f)];exact q
end
def eC.track(I:eC X dU σ H s)(d:H a=none)(i:a∈X.ex\/X.s₀.heap.objs.size<=a)
  (j:a≠X.env.locals) (h:∀x c,X.env.cells.lookup x=some c->c≠a) (g:∀p∈X.pn++dU,p.1≠a) (new:fK X.prog X.w (e6 H a o) s.heap a o):eC X dU σ (e6 H a o) s:=by
 have J:=I.step (t':=s.toks) (d':=s.drawn) (ch:=[a])
  (λb f=>by
   have e:b=a:=by simpa using f
   subst e;exact⟨i,j,h,g⟩)
  (λ_ _ _ _ _ e _=>e) (λ_ u _ _ _ e _=>⟨u.slots,e⟩)
  (λb u f _ n=>by rw[eA (by simpa using f)];exact n)
  (λ_ u _ e=>⟨u,e⟩)
  (λb l q=>by rw[eA (eJ q d)];exact q)
  (λb u v q=>by rw[eA (eJ q d)];exact q)
  (λb _ k q=>⟨#[],by rw[eA (eJ q d),q];simp⟩)
  (λ_ q=>q) (I.hok.track d new) I.bare
 exact J
noncomputable def jc(a:Env):List (Str×NameKind)->List (Str×Addr)->List (Str×Addr)
 |[],acc=>acc
 | (n,k)::r,acc=>if k==NameKind.free then (match a.cells.lookup n with
  |some c=>jc a r ((n,c)::acc)
  |none=>jc a r acc) else jc a r acc
def md(h:∀y∈scope.names,y.2=.free->∃c,env.cells.lookup y.1=some c):closureFor scope env=pure (jc env scope.names []):=by
 have all:∀(l:List (Str×NameKind)) b,(∀y∈l,y.2=.free->∃c,env.cells.lookup y.1=some c)->
   (forIn l b λx m=>(if (x.2==NameKind.free)=true then (do
    let a <-cellOf env x.1
    pure (ForInStep.yield ((x.1,a)::m))) else pure (ForInStep.yield m):Sem _))=pure (jc env l b):=by
  intro l;induction l with
  |nil=>intro b _;rfl
  |cons y r ih=>
   intro b j;obtain⟨n,k⟩:=y;rw[bU];by_cases d:(k==NameKind.free)=true
   .obtain⟨c,o⟩:=j (n,k) bh (by simpa using d);have f:=o;have e:cellOf env n=pure c:=by unfold cellOf;rw[f]
    simp only[d,if_true,e,pure_bind];rw[ih _ λy i=>j y (bj _ i)];show pure (jc env r ((n,c)::b))=pure (if (k==NameKind.free)=true then (match env.cells.lookup n with
     |some c=>jc env r ((n,c)::b)
     |none=>jc env r b) else jc env r b)
    rw[aQ d,f]
   .have g:(k==NameKind.free)=false:=by simpa using d
    simp only[g,bV,if_false,pure_bind];rw[ih _ λy i=>j y (bj _ i)];show pure (jc env r b)=pure (if (k==NameKind.free)=true then (match env.cells.lookup n with
     |some c=>jc env r ((n,c)::b)
     |none=>jc env r b) else jc env r b)
    rw[aR d]
 have:=all scope.names [] h;unfold closureFor;simp only[pure_bind,bind_pure]at this ⊢;exact this
theorem iV:∀{l} {acc},(∀y d,acc.lookup y=some d->env.cells.lookup y=some d)->(jc env l acc).lookup x=some c->env.cells.lookup x=some c
 |[],acc,ha,h=>ha x c h
 | (n,k)::r,acc,ha,h=>by
  unfold jc at h;by_cases b:(k==NameKind.free)=true
  .rw[aQ b]at h;cases e:env.cells.lookup n with
   |none=>rw[e]at h;exact iV ha h
   |some d=>
    rw[e]at h;refine iV (λy d' a=>?_) h;rw[bW]at a;cases q:y==n with
    |true=>rw[q]at a;cases a;rw[beq_iff_eq.mp q];exact e
    |false=>rw[q]at a;exact ha y d' a
  .rw[aR b]at h;exact iV ha h
theorem lV:∀{l} {acc},(∃c,acc.lookup x=some c)->∃c,(jc env l acc).lookup x=some c
 |[],_,h=>h
 | (n,k)::r,acc,h=>by
  unfold jc;by_cases a:(k==NameKind.free)=true
  .rw[aQ a];cases e:env.cells.lookup n with
   |none=>exact lV h
   |some d=>
    refine lV ?_;rw[bW];cases q:x==n with
    |true=>exact⟨d,rfl⟩
    |false=>exact h
  .rw[aR a];exact lV h
theorem km:∀{l} {acc},(x,NameKind.free)∈l->(∃c,env.cells.lookup x=some c)->∃c,(jc env l acc).lookup x=some c
 | (n,k)::r,acc,b,a=>by
  rcases aF.mp b with e|b
  .cases e;obtain⟨c,a⟩:=a;unfold jc;rw[aQ (by rfl),a];refine lV ⟨c,?_⟩;rw[bW,beq_self_eq_true]
  .unfold jc;by_cases f:(k==NameKind.free)=true
   .rw[aQ f];cases env.cells.lookup n with
    |none=>exact km b a
    |some d=>exact km b a
   .rw[aR f];exact km b a
def nO(h:(relabel scope env).names.lookup x=some .cell\/(relabel scope env).names.lookup x=some .free):(x,NameKind.free)∈scope.names\/scope.names.lookup x=some .cell:=by
 have all:∀(l:List (Str×NameKind)),∀k,(k=NameKind.cell\/k=NameKind.free)->
   (l.map λ(n,k)=>if (k==NameKind.free&&env.scope.kind==.function&&env.kindOf n==some .cell) then (n,NameKind.cell) else (n,k)).lookup x=some k->(x,NameKind.free)∈l\/l.lookup x=some .cell:=by
  intro l;induction l with
  |nil=>intro k _ h;simp at h
  |cons y r ih=>
   intro k c h;obtain⟨n,b⟩:=y;rw[bB]at h;by_cases a:(b==NameKind.free&&env.scope.kind==.function&&env.kindOf n==some .cell)=true
   .have d:b=.free:=by simp only[bL,beq_iff_eq]at a;exact a.1.1
    simp only[a,if_true]at h;rw[bW]at h;cases q:x==n with
    |true=>rw[d,beq_iff_eq.mp q];exact .inl bh
    |false=>
     rw[q]at h;rcases ih k c h with z|z
     .exact .inl (bj _ z)
     .exact .inr (by rw[bW,q];exact z)
   .simp only[a,bV,if_false]at h;rw[bW]at h;cases q:x==n with
    |true=>
     rw[q]at h;have e:b=k:=by simpa using h
     rcases c with rfl|rfl
     .exact .inr (by rw[bW,q,e])
     .rw[e,beq_iff_eq.mp q];exact .inl bh
    |false=>
     rw[q]at h;rcases ih k c h with z|z
     .exact .inl (bj _ z)
     .exact .inr (by rw[bW,q];exact z)
 rcases h with h|h
 .exact all scope.names _ (.inl rfl) h
 .exact all scope.names _ (.inr rfl) h
def tz(h:scope.names.lookup x=some .free):(relabel scope env).names.lookup x=some .cell\/(relabel scope env).names.lookup x=some .free:=by
 have all:∀(l:List (Str×NameKind)),l.lookup x=some .free->
   (l.map λ(n,k)=>if (k==NameKind.free&&env.scope.kind==.function&&env.kindOf n==some .cell) then (n,NameKind.cell) else (n,k)).lookup x=some .cell\/
   (l.map λ(n,k)=>if (k==NameKind.free&&env.scope.kind==.function&&env.kindOf n==some .cell) then (n,NameKind.cell) else (n,k)).lookup x=some .free:=by
  intro l;induction l with
  |nil=>intro h;simp at h
  |cons y r ih=>
   intro h;obtain⟨n,k⟩:=y;rw[bB];rw[bW]at h;cases q:x==n with
   |true=>
    rw[q]at h;have b:k=.free:=by simpa using h
    by_cases a:(k==NameKind.free&&env.scope.kind==.function&&env.kindOf n==some .cell)=true
    .refine .inl ?_;simp only[a,if_true];rw[bW,q]
    .refine .inr ?_;simp only[a,bV,if_false];rw[bW,q,b]
   |false=>
    rw[q]at h;by_cases a:(k==NameKind.free&&env.scope.kind==.function&&env.kindOf n==some .cell)=true
    .simp only[a,if_true];rw[bW,q];exact ih h
    .simp only[a,bV,if_false];rw[bW,q];exact ih h
 exact all scope.names h
def Ad(X:Cx)(b:List Expr)(t:TT):Prop:=
 ∀(d:List (Addr×Obj)) (s:Sq) (a:St) (H:Hp) (Q:Bool->Hp->Prop),eC X d a H s->t a H Q->
  wpAny (model X.prog X.w) X.A (forIn b true λc r=>if r=true then do let ok <-isTrue c X.env (eval c X.env);pure (ForInStep.yield ok) else pure (ForInStep.yield r)) (TP X d a Q) X.xe s
def HB:TT:=λ_ H Q=>Q true H
def Em:Ad X [] HB:=λ_ _ _ H _ I h=>wpAny_tests_nil ⟨H,I,h⟩
def DK(d:PT X c t):Ad X [c] t:=λb s a H Q I h=>wpAny_tests_one (d b s a H Q I h)
theorem jL:∀a k b,(cellsFrom k a b).lookup x=some c->b.lookup x=some c\/(k<=c/\(x,NameKind.cell)∈a)
 |[],_,_,h=>.inl h
 | (n,kd)::r,k,b,h=>by
  unfold cellsFrom at h;split at h
  .rename_i e;rcases jL r _ _ h with q|⟨q,m⟩
   .rw[bW]at q;cases d:x==n with
    |true=>rw[d]at q;cases q;refine .inr ⟨aK _,?_⟩;rw[beq_iff_eq.mp d,beq_iff_eq.mp e];exact bh
    |false=>rw[d]at q;exact .inl q
   .exact .inr ⟨bX q,bj _ m⟩
  .rcases jL r _ _ h with q|⟨q,m⟩
   .exact .inl q
   .exact .inr ⟨q,bj _ m⟩
theorem i6:∀a k b,(x,NameKind.cell)∉a->(cellsFrom k a b).lookup x=b.lookup x
 |[],_,_,_=>rfl
 | (n,kd)::r,k,b,h=>by
  unfold cellsFrom;have c:(x,NameKind.cell)∉r:=λz=>h (bj _ z);split
  .rename_i e;rw[i6 r _ _ c,bW];cases d:x==n with
   |true=>exact absurd (by rw[beq_iff_eq.mp d,beq_iff_eq.mp e];exact bh) h
   |false=>rfl
  .exact i6 r _ _ c
theorem jV:∀a k b,(x,NameKind.cell)∈a->(cellsFrom k a b).lookup x=some c->k<=c
 |[],_,_,h,_=>nomatch h
 | (n,kd)::r,k,b,h,e=>by
  unfold cellsFrom at e;by_cases d:(x,NameKind.cell)∈r
  .split at e
   .exact bX (jV r _ _ d e)
   .exact jV r _ _ d e
  .rcases aF.mp h with q|q
   .cases q;rw[aQ (by rfl),i6 r _ _ d,bW,beq_self_eq_true]at e;cases e;exact aK _
   .exact absurd q d
theorem jZ:∀d k a,(∀x y c,a.lookup x=some c->a.lookup y=some c->x=y)->(∀x c,a.lookup x=some c->c<k)->
  ∀x y c,(cellsFrom k d a).lookup x=some c->(cellsFrom k d a).lookup y=some c->x=y
 |[],_,_,h,_=>h
 | (n,kd)::r,k,a,h,hl=>by
  unfold cellsFrom;split
  .refine jZ r (k+1) ((n,k)::a) (λx y c b e=>?_) λx c b=>?_
   .rw[bW]at b e;cases f:x==n with
    |true=>
     cases g:y==n with
     |true=>rw[beq_iff_eq.mp f,beq_iff_eq.mp g]
     |false=>rw[f]at b;rw[g]at e;cases b;exact absurd (hl _ _ e) (a9 _)
    |false=>
     rw[f]at b;cases g:y==n with
     |true=>rw[g]at e;cases e;exact absurd (hl _ _ b) (a9 _)
     |false=>rw[g]at e;exact h x y c b e
   .rw[bW]at b;cases f:x==n with
    |true=>rw[f]at b;cases b;exact bC _
    |false=>rw[f]at b;exact bY (hl x c b)
  .exact jZ r k a h hl
theorem jK:∀a h b,(cellsFrom h.objs.size a b).lookup x=some c->b.lookup x=some c\/(h.objs.size<=c/\(pushCells h a).IsCell c none)
 |[],_,_,e=>.inl e
 | (n,kd)::r,h,b,e=>by
  unfold cellsFrom at e;unfold pushCells;split at e
  .rename_i d;rw[aQ d];have g:(cellsFrom (h.push {cls:=.type "cell",data:=.cell none}).objs.size r ((n,h.objs.size)::b)).lookup x=some c:=by rw[Heap.size_push];exact e
   rcases jK r _ _ g with q|⟨q,m⟩
   .rw[bW]at q;cases f:x==n with
    |true=>rw[f]at q;cases q;exact .inr ⟨aK _,_,pushCells_keeps r _ _ _ (au _ rfl),rfl⟩
    |false=>rw[f]at q;exact .inl q
   .rw[Heap.size_push]at q;exact .inr ⟨bX q,m⟩
  .rename_i d;rw[aR d];exact jK r _ _ e
def oC{M:Model}{A:Around}{E:Vq->Shared->Prop}{s:Sq}{a:Scope}{globals:Addr}{closure:List (Str×Addr)}{e:Str}{c:Oq Addr}{d:Vq}{b:Env}{builtins:Addr}{Q:Env->Shared->Prop}
  (j:Q (newEnv a s.heap.objs.size globals (cellsFrom (s.heap.objs.size+1) a.names closure) e c d (some b) builtins) {s with heap:=pushCells (s.heap.push {cls:=.type "dict",data:=.dict #[]}) a.names}) :
  wpAny M A (newFunctionEnv a globals closure [] e c d (some b) builtins) Q E s:=by
 simp only[newFunctionEnv,Option.isSome_some,if_true];refine aq (wpAny_alloc ?_);refine aq (wpAny_layCells _ (λi f h=>by cases g:f==NameKind.cell<;>simp[g]) _ _ _ _ ?_);rw[show ({s with heap:=s.heap.push {cls:=.type "dict",data:=.dict #[]}}:Sq).heap.objs.size=s.heap.objs.size+1 from Heap.size_push ..];rw[bZ];exact aq (ao (ao j))
noncomputable def ju(X:Cx)(N:List Str)(a:Scope)(C:Addr)(b:Sq)(H:Hp)(ex:List Addr)(pn:List (Addr×Obj)):Cx:={X with N:=N,s₀:=b,H₀:=H,env:=compEnvC a (cellsFrom (C+1) a.names (jc X.env a.names [])) C X.env,outer:=X.stack,ex:=ex,fn:=λx=>a.names.lookup x==some .cell,pn:=pn,xe:=λ_ _=>False}
noncomputable def pull(b:List (Option Nat))(a:St):St:=b.map fun
 |none=>none
 |some j=>(a[j]?).getD none
def KZ(J:It)(k:List (Option Nat))(g:TG)(n:TT)(h:TE)(p:St)(j:Hp)(Q:VK):Prop:=∃W:Nat->Nat->List V->Hp->Prop,(∃m,W 0 m [] j)/\∀i m d H,W i m d H->
 (J.stop i H/\∀D,H D=none->Q (.ref D) (e6 H D (.lst d)))\/
 (J.go i H/\d.length<sizeLine/\∀x e,J.yld i H x e->g x (pull k p) e λc l=>n c l λb f=>if b=true then h c f λy o=>∃a,a<m/\W (i+1) a (d++[y]) o else ∃a,a<m/\W (i+1) a d f)
def BZ(f:List (Option Nat))(d:TI)(g:TG)(c:TT)(b:TE):TE:=λa H Q=>d a H λJ e=>KZ J f g c b a e Q
end L2
namespace L2
open PySem PySem.Spec PyProof.Rows
section
variable {prog:Program}{w:World}{A:Around}{R:Result->Shared->Prop}{s:Sq}
theorem tE{t E j:Expr}{q:List Expr}{e:Scope}{C:Pos}{it p:Vq}{a:Env}(J:Nat->Shared->Prop)
  (turn:∀n s,J n s->wpAny (model prog w) A (pyNext it) (λr b=>match r with
   |none=>R (.ok .next) b
   |some v=>wpAny (model prog w) A (letOwnedTupleGo E it v) (λ_ g=>wpAny (model prog w) A (assign E a v) (λ_ i=>
     wpAny (model prog w) A (forIn q true λc r=>if r=true then do let ok <-isTrue c a (eval c a);pure (ForInStep.yield ok) else pure (ForInStep.yield r)) (λok d=>
      if ok=true then wpAny (model prog w) A (eval t a) (λx l=>wpAny (model prog w) A (call (.builtin "list.append") [p,x]) (λ_ o=>∃m,m<n/\J m o) (λ_ _=>False) l) (λ_ _=>False) d
      else ∃m,m<n/\J m d) (λ_ _=>False) i) (λ_ _=>False) g) (λ_ _=>False) b) (λ_ _=>False) s)
  (n:Nat) (h:J n s):codeAny (model prog w) A (.compLoop (.ListComp t [⟨E,j,q,0⟩] e C) 0 it p a) R s:=by
 refine codeAny_loop rfl J (λn s F=>?_) n h;show wpAny _ A ((compTurn (.ListComp t [⟨E,j,q,0⟩] e C) 0 it p a).onRaise (λx=>do noteFrame x a;theTreesLotGoes x)) _ _ s;refine wpAny_noted ?_;rw[compTurn_list];refine aq (wpAny_standAt (aq (wpAny_mono (turn n s F) (λr b k=>?_) λ_ _ z=>z.elim)));cases r with
 |none=>exact ao k
 |some v=>
  refine aq (wpAny_mono k (λ_ g D=>?_) λ_ _ z=>z.elim);refine aq (wpAny_mono D (λ_ i y=>aq (wpAny_mono y (λok d f=>?_) λ_ _ z=>z.elim)) λ_ _ z=>z.elim);cases ok with
  |false=>exact ao ⟨rfl,f⟩
  |true=>exact aq (aq (wpAny_mono f (λx l u=>aq (wpAny_mono u (λ_ o B=>ao (ao ⟨rfl,B⟩)) λ_ _ z=>z.elim)) λ_ _ z=>z.elim))
end
def kM(d:List (Option Nat))(g:TG):Prop:=∀x a H Q,g x a H Q->g x a H λb c=>(∀i j:Nat,d[i]? = some (some j)->b[i]? = a[i]?)/\Q b c
def qZ(a:ix[k]? = some none):kM ix (fR k):=λx b H Q h=>by
 refine⟨λi j e=>?_,h⟩;have:k≠i:=by rintro rfl;rw[a]at e;cases e
 rw[ar this]
abbrev rM(us:List Vq):Obj:={cls:=.type "list",data:=.seq us.toArray us.length}
section
variable {X:Cx}{tg elt iter:Expr}{ifs:List Expr}{scope:Scope}{pos:Pos}{N:List Str}{ix:List (Option Nat)}{wi:TI}{g:TG}{tt:TT}{te:TE}
structure vK(X:Cx)(scope:Scope)(N:List Str)(ix:List (Option Nat)):Prop where
 kind:scope.kind=.function
 sep:∀y∈scope.names,y.2=.cell->scope.names.lookup y.1=some .cell
 names:∀y∈scope.names,y.2=.local->scope.names.lookup y.1=some .local
 fre:∀y∈scope.names,y.2=.free->∃c,X.env.cells.lookup y.1=some c
 len:N.length=ix.length
 ix:∀(i j:Nat) (x:Str),N[i]? = some x->ix[i]? = some (some j)->X.N[j]? = some x/\scope.names.lookup x=some .free/\IR X.env.scope x/\X.env.kindOf x≠some .local
def Jw(L:vK X scope N ix)(I:eC X dU σ H s)(f:∀b∈fp,pI X dU H b)(i:∀b∈fp,b<s.heap.objs.size) o :
  (ju X N scope (s.heap.objs.size+1) {s with heap:=s.heap.push o} H (s.heap.objs.size::fp) (X.pn++dU)).Ok:=by
 have t:eC X dU σ H {s with heap:=s.heap.push o}:=I.kept λb u e=>ae _ e;have sound0:∀x c,(jc X.env scope.names []).lookup x=some c->X.env.cells.lookup x=some c:=λx c e=>iV (λy d z=>by simp at z) e;have cellLt:∀x c,X.env.cells.lookup x=some c->c<s.heap.objs.size:=λx c e=>let ⟨_,q⟩:=I.cell x c e;q.lt;have h:∀x c,(cellsFrom (s.heap.objs.size+1+1) scope.names (jc X.env scope.names [])).lookup x=some c->X.env.cells.lookup x=some c\/s.heap.objs.size+1+1<=c:=λx c e=>by
  rcases jL _ _ _ e with q|⟨q,_⟩
  .exact .inl (sound0 x c q)
  .exact .inr q
 refine⟨I.ok.mod,L.kind,I.ok.glob,I.ok.blt,?_,jZ _ _ _ (λx y c j l=>I.ok.inj x y c (sound0 x c j) (sound0 y c l)) (λx c j=>bY (bY (cellLt x c (sound0 x c j)))),λx v=>?_,λx c j l=>?_,I.ok.hd,I.ok.frames,.inl rfl,λb a=>?_,λb u e=>?_,?_,λb u e a=>?_,λb a=>?_,t.stack,I.stkFree,I.tab⟩
 .show (s.heap.push o).objs.size<=s.heap.objs.size+1;rw[Heap.size_push];exact aK _
 .refine bH.mp (W.cellsFrom_some _ _ _ ?_);rcases nO v with k|k
  .exact .inr (bH.mpr (km k (L.fre _ k rfl)))
  .exact .inl k
 .have n:(scope.names.lookup x==some .cell)=true:=j;have r:scope.names.lookup x=some .cell:=by simpa using n
  show (s.heap.push o).objs.size<=c;rw[Heap.size_push];exact bX (jV _ _ _ (PySem.mem_of_lookup r) l)
 .rcases aF.mp a with rfl|a
  .refine⟨aM (bC _),λx c e z=>?_⟩;rcases h x c e with q|q
   .exact absurd (cellLt x c q) (by rw[z];exact a9 _)
   .rw[z]at q;omega
  .refine⟨aM (bY (i b a)),λx c e=>?_⟩;rcases h x c e with q|q
   .exact (f b a).2.2.2.2.1 x c q
   .intro z;rw[z]at q;exact absurd (aN (b9 _ 2) q) (Nat.not_le.mpr (i b a))
 .exact⟨ae _ (I.bs b u e).1,(I.bs b u e).2⟩
 .show X.base.objs.size<=(s.heap.push o).objs.size;rw[Heap.size_push];exact cf (aN I.ok.bsz I.sz)
 .have m:=aL (I.bs b u e).1;rcases aF.mp a with rfl|a
  .exact a9 _ m
  .rcases (f b a).2.2.2.1 with z|z
   .exact I.ok.noex b u e z
   .exact absurd (aE (aL e) (aN I.ok.bsz z)) (a9 _)
 .intro z;have p:=I.stkSub b z;rcases aF.mp a with rfl|a
  .rcases aF.mp p with q|q
   .exact absurd I.lt (by rw[<-q];exact a9 _)
   .exact I.nofs (aK _) q
  .rcases aF.mp p with q|q
   .exact (f b a).2.1 q
   .exact (f b a).2.2.1 q
end
end L2
namespace L2
open PySem PySem.Spec PyProof.Rows
section
variable {X:Cx}{tg elt iter:Expr}{ifs:List Expr}{scope:Scope}{pos:Pos}{N:List Str}{ix:List (Option Nat)}{wi:TI}{g:TG}{tt:TT}{te:TE}
def uT{i:Nat}(h:(pull ix σ)[i]? = some (some v)):∃j,ix[i]? = some (some j)/\σ[j]? = some (some v):=by
 unfold pull at h;rw[aw]at h;cases e:ix[i]? with
 |none=>rw[e]at h;cases h
 |some k=>
  rw[e]at h;cases k with
  |none=>cases h
  |some j=>
   refine⟨j,rfl,?_⟩;have a:(σ[j]?).getD none=some v:=by simpa using h
   cases q:σ[j]? with
   |none=>rw[q]at a;cases a
   |some z=>rw[q]at a;simpa using a
theorem ya{RR:Vq->Addr->Result->Shared->Prop}{Q:VK}{W:Nat->Nat->List V->Hp->Prop}
  (hc:X.calm=true) (L:vK X scope N ix) (hgk:kM ix g)
  (blk:∀C F H ex pn,PG (ju X N scope C F H ex pn) tg g/\Ad (ju X N scope C F H ex pn) ifs tt/\PE (ju X N scope C F H ex pn) elt te)
  (l:eC X dU σ H2 s2) (T:xJ X.prog X.w X.K tg J fp it tn) (st2:tn 0 s2.heap) (f2:∀b∈fp,pI X dU H2 b) (w0:W 0 m0 [] H2)
  (turn:∀i m U H,W i m U H->(J.stop i H/\∀D,H D=none->Q (.ref D) (e6 H D (.lst U)))\/
   (J.go i H/\U.length<sizeLine/\∀x s,J.yld i H x s->g x (pull ix σ) s λσ2 H2=>tt σ2 H2 λb H3=>if b=true then te σ2 H3 λy H4=>∃m',m'<m/\W (i+1) m' (U++[y]) H4 else ∃m',m'<m/\W (i+1) m' U H3))
  (fin:∀D C m s Y,Y.heap.Ns C m->pI X dU s C->eC X dU σ s Y->Q (.ref D) s->RR (.ref D) C (.ok .next) Y) :
  wpAny (model X.prog X.w) X.A (newList []) (λacc F=>wpAny (model X.prog X.w) X.A (newFunctionEnv scope X.env.globals (jc X.env scope.names []) [] X.env.qual none .none (some X.env)) (λcenv s₄=>codeAny (model X.prog X.w) X.A (.compStart (.ListComp elt [⟨tg,iter,ifs,0⟩] scope pos) 0 (.ref it) acc {cenv with scope:=relabel scope X.env}) (RR acc cenv.locals) s₄) E F) E s2:=by
 refine wpAny_newObj_type (oC ?_);have hCs:(s2.heap.push {cls:=.type "list",dict:=none,data:=.seq ([]).toArray}).objs.size=s2.heap.objs.size+1:=Heap.size_push ..;generalize R:pushCells ((s2.heap.push {cls:=.type "list",dict:=none,data:=.seq ([]).toArray}).push {cls:=.type "dict",data:=.dict #[]}) scope.names=h₁;rw[hCs];have hns₁:h₁.Ns (s2.heap.objs.size+1) (λ_=>none):=by rw[<-R,<-hCs];exact (Heap.Ns.new _ _).keeps (pushCells_keeps _ _)
 have S:∀x c,(cellsFrom (s2.heap.objs.size+1+1) scope.names (jc X.env scope.names [])).lookup x=some c->X.env.cells.lookup x=some c\/(s2.heap.objs.size+1+1<=c/\h₁.IsCell c none):=λx c e=>by
  have hs3:((s2.heap.push {cls:=.type "list",dict:=none,data:=.seq ([]).toArray}).push {cls:=.type "dict",data:=.dict #[]}).objs.size=s2.heap.objs.size+1+1:=by rw[Heap.size_push,hCs]
  rw[<-hs3]at e;rcases jK _ _ _ e with q|⟨q,m⟩
  .exact .inl (iV (λy d z=>by simp at z) q)
  .rw[hs3]at q;rw[R]at m;exact .inr ⟨q,m⟩
 have fpObj:=T.obj 0 _ st2;have hlt:∀b∈fp,b<s2.heap.objs.size:=λb h=>let ⟨_,e,_⟩:=fpObj b h;aL e;have ok:=Jw L l f2 hlt {cls:=.type "list",dict:=none,data:=.seq ([]).toArray};have DC:s2.heap.objs.size≠s2.heap.objs.size+1:=aM (bC _);have hold:∀b o,(s2.heap.push {cls:=.type "list",dict:=none,data:=.seq ([]).toArray}).get? b=some o->h₁.get? b=some o:=λb o e=>by rw[<-R];exact pushCells_keeps _ _ _ _ (ae _ e)
 have Z:∀b o,s2.heap.get? b=some o->h₁.get? b=some o:=λb o e=>hold b o (ae _ e);have sound:∀x c,(jc X.env scope.names []).lookup x=some c->X.env.cells.lookup x=some c:=λx c e=>iV (λy d z=>by simp at z) e;have cellLt:∀x c,X.env.cells.lookup x=some c->c<s2.heap.objs.size:=λx c e=>let ⟨_,q⟩:=l.cell x c e;q.lt;have hDn:=l.hok.fresh (aK _);have hCn:=l.hok.fresh (bF _);have t:∀p∈X.pn++dU,p.1<s2.heap.objs.size:=λp f=>aL (l.pin p f).1;have hDfs:s2.heap.objs.size∉yd X.stack:=λz=>by
  rcases aF.mp (l.stkSub _ z) with q|q
  .exact absurd l.lt (by rw[<-q];exact a9 _)
  .exact l.nofs (aK _) q
 have I':eC (ju X N scope (s2.heap.objs.size+1) {s2 with heap:=s2.heap.push {cls:=.type "list",dict:=none,data:=.seq ([]).toArray}} H2 (s2.heap.objs.size::fp) (X.pn++dU))
   [(s2.heap.objs.size,rM [])] (pull ix σ) H2 {s2 with heap:=h₁,toks:=s2.toks}:=by
  refine⟨ok,rfl,l.bare,Un.kept hold,⟨_,hns₁,λi x v h1 h2 h3=>?_⟩,λx c e=>?_,hCn,λx c e=>?_,λp f=>?_,l.hok.kept Z,?_⟩
  .obtain⟨j,ej,es⟩:=uT h2;obtain⟨q1,q2,q3,q4⟩:=L.ix i j x h1 ej;obtain⟨m,_,hl⟩:=l.loc;obtain⟨u,r,lk⟩:=hl j x v q1 es q3;refine⟨u,r,?_⟩;rcases lk with⟨k,_⟩|⟨k,c,hcl,hv⟩
   .exact absurd k q4
   .obtain⟨c',hc'⟩:=km (PySem.mem_of_lookup q2) ⟨c,hcl⟩;have:=sound x c' hc';rw[hcl]at this;cases this;have hnc:(x,NameKind.cell)∉scope.names:=λz=>by have:=L.sep _ z rfl;rw[q2]at this;cases this
    refine .inr ⟨?_,c,(i6 _ _ _ hnc).trans hc',let ⟨ob,ho,hd⟩:=hv;⟨ob,Z c ob ho,hd⟩⟩;exact tz q2
  .rcases S x c e with q|⟨_,q⟩
   .obtain⟨v,ob,ho,hd⟩:=l.cell x c q;exact⟨v,ob,Z c ob ho,hd⟩
   .exact⟨none,q⟩
  .rcases S x c e with q|⟨q,_⟩
   .exact l.freeC x c q
   .exact l.hok.fresh (aN (b9 _ 2) q)
  .rcases ai.mp f with f|f
   .obtain⟨e,n,ne,nf,d⟩:=l.pin p f;refine⟨Z _ _ e,n,aM (bY (t p f)),λz=>?_,d⟩;rcases aF.mp (l.stkSub _ z) with q|q
    .exact ne q
    .exact nf q
   .have e:p=(s2.heap.objs.size,rM []):=by simpa using f
    subst e;exact⟨hold _ _ (au _ rfl),hDn,DC,hDfs,λv z=>by cases z⟩
  .unfold pull;rw[ax];exact L.len.symm
 generalize a:ju X N scope (s2.heap.objs.size+1) {s2 with heap:=s2.heap.push {cls:=.type "list",dict:=none,data:=.seq ([]).toArray}} H2 (s2.heap.objs.size::fp) (X.pn++dU)=X' at I';obtain⟨hg,hif,he⟩:=blk (s2.heap.objs.size+1) {s2 with heap:=s2.heap.push {cls:=.type "list",dict:=none,data:=.seq ([]).toArray}} H2 (s2.heap.objs.size::fp) (X.pn++dU);rw[a]at hg hif he;have stat:∀{s:Hp} {P:List Vq},(∀b∈fp,s b=none)->∀b∈fp,pI X' [(s2.heap.objs.size,rM P)] s b:=λ{s P} hn b h=>by
  subst a;obtain⟨_,f1,f2',f3,f4,f5⟩:=f2 b h;refine⟨hn b h,aM (bY (hlt b h)),λz=>?_,.inl (bj _ h),λx c e=>?_,λp f=>?_⟩
  .rcases aF.mp (l.stkSub _ z) with q|q
   .exact f1 q
   .exact f2' q
  .rcases S x c e with q|⟨q,_⟩
   .exact f4 x c q
   .intro z;rw[z]at q;exact absurd (aN (b9 _ 2) q) (Nat.not_le.mpr (hlt b h))
  .rcases ai.mp f with f|f
   .exact f5 p f
   .have e:p=(s2.heap.objs.size,rM P):=by simpa using f
    subst e;exact Ne.symm (aM (hlt b h))
 have loop:codeAny (model X.prog X.w) X.A (.compLoop (.ListComp elt [⟨tg,iter,ifs,0⟩] scope pos) 0 (.ref it) (.ref s2.heap.objs.size) X'.env) (RR (.ref s2.heap.objs.size) (s2.heap.objs.size+1))
   {s2 with heap:=h₁,toks:=s2.toks}:=by
  refine tE (λn Y=>∃i U P s,eC X' [(s2.heap.objs.size,rM P)] (pull ix σ) s Y/\eS U P/\U.length<=sizeLine/\tn i Y.heap/\(∀b∈fp,s b=none)/\W i n U s) ?_ m0
   ⟨0,[],[],H2,I',.nil,bD _,T.keep _ _ _ st2 λb _ o e=>Z b o e,λb h=>(f2 b h).1,w0⟩
  rintro n s3 ⟨i,U,P,H3,I3,rv,hz,st3,fr3,w3⟩;have hcX:X'.calm=true:=by subst a;exact hc
  have hA:X'.A=X.A:=by subst a;rfl
  rcases turn i n U H3 w3 with⟨stop,qn⟩|⟨go,i5,step⟩
  .have hd:=T.done X' (by subst a;rfl) (by subst a;rfl) (by subst a;rfl) hcX i _ s3 _ H3 (λ_ _=>False) I3 (stat fr3) st3 stop;rw[hA]at hd;refine gj hd λr s4 ⟨hr,I4⟩=>?_;subst hr;subst a;obtain⟨m,hn,_⟩:=I4.loc;have hD3:=I4.pin (s2.heap.objs.size,rM P) (bu _ bh);have u1:Un (yd X.stack) fp H2 H3 s2.heap s4.heap:=by
    have B:=I4.base;have nD:∀b o,s2.heap.get? b=some o->b∉fp->b∉s2.heap.objs.size::fp:=λb o e h z=>by
     rcases aF.mp z with q|q
     .exact absurd (aL e) (by rw[q];exact a9 _)
     .exact h q
    exact⟨λb o e n h hx=>B.keep b o (ae _ e) n h (nD b o e hx),λb o e n h hx=>B.slot b o (ae _ e) n h (nD b o e hx),
     λb o e n hx=>B.free b o (ae _ e) n (nD b o e hx),λb o e hx=>B.there b o (ae _ e) (nD b o e hx),B.tups,B.frzs,B.tbls⟩
   have I5:=l.call' I4.os u1 I4.hok I4.bare λb h=>let ⟨_,f1,_,f3,f4,f5⟩:=f2 b h;⟨f3,f1,f4,f5⟩;have I6:eC X dU σ (e6 H3 s2.heap.objs.size (.lst U)) s4:=I5.track hD3.2.1 (.inr l.sz) (Ne.symm (aM l.lt)) (λx c e z=>absurd (cellLt x c e) (by rw[z];exact a9 _))
    (λp f=>aM (t p f)) ⟨hz,P,P.length,rv,hD3.1⟩
   refine fin _ _ m _ s4 hn ⟨?_,?_,?_,.inr (cf l.sz),λx c e z=>?_,λp f=>?_⟩ I6 (qn _ hD3.2.1)
   .rw[eA (Ne.symm DC)];exact I4.free
   .exact Ne.symm (aM (bY l.lt))
   .exact l.nofs (bF _)
   .exact absurd (cellLt x c e) (by rw[z];exact cg.mpr (bF _))
   .exact aM (bY (t p f))
  .have hd:=T.item X' (by subst a;rfl) (by subst a;rfl) (by subst a;rfl) hcX i _ s3 _ H3 (λ_ _=>False) I3 (stat fr3) st3 go;rw[hA]at hd;refine gj hd λr s4 ⟨u,hr,h4⟩=>?_;subst hr;refine gj h4 λ_ s5 ⟨x,H5,I5,r5,y5,st5,fr5⟩=>?_;have I5':=I5.pinned (stat fr5) (T.obj _ _ st5);have hM:model X'.prog X'.w=model X.prog X.w:=by subst a;rfl
   have hE:X'.xe=λ_ _=>False:=by subst a;rfl
   have a6:=hg _ s5 _ H5 x u _ I5' r5 (hgk x _ H5 _ (step x H5 y5));rw[hM,hA,hE]at a6;refine gj a6 λ_ s6 ⟨σ6,H6,I6,agr,q6⟩=>?_;have a7:=hif _ s6 σ6 H6 _ I6 q6;rw[hM,hA,hE]at a7;refine gj a7 λok s7 ⟨H7,I7,q7⟩=>?_;have back:∀{Y:Sq} {s:Hp} {pl:List (Addr×Obj)},eC X' pl σ6 s Y->eC X' pl (pull ix σ) s Y:=λ{Y s pl} I=>by
    refine I.weak ?_ λk v e=>?_
    .have e1:=I.len;have e2:=I3.len;rw[e1,e2]
    .obtain⟨j,ej,_⟩:=uT e;rw[agr k j ej];exact e
   have held:∀{Y:Sq} {s:Hp},eC X' ([(s2.heap.objs.size,rM P)]++qq fp s5.heap) σ6 s Y->tn (i+1) Y.heap/\∀b∈fp,s b=none:=λ{Y s} I=>by refine⟨T.keep _ _ _ st5 λb h o e=>(I.pin (b,o) (bu _ (bu _ (kR h e)))).1,λb h=>?_⟩;obtain⟨o,e,_⟩:=T.obj _ _ st5 b h;exact (I.pin (b,o) (bu _ (bu _ (kR h e)))).2.1
   cases ok with
   |false=>rw[aR aH]at q7 ⊢;obtain⟨m',hm,w7⟩:=q7;obtain⟨k1,k2⟩:=held I7;exact⟨m',hm,i+1,U,P,H7,(back I7).unpinned,rv,hz,k1,k2,w7⟩
   |true=>
    rw[aQ rfl]at q7 ⊢;have a8:=he _ s7 σ6 H7 _ I7 q7;rw[hM,hA,hE]at a8;refine gj a8 λy s8 ⟨yv,H8,I8,r8,m',hm,w8⟩=>?_;obtain⟨k1,k2⟩:=held I8;have hD8:=I8.pin (s2.heap.objs.size,rM P) (bu _ (ay _ bh));have hl:=rv.length;refine append_at hD8.1 λh9 sb hD9=>?_;have I9:eC X' [] (pull ix σ) H8 s8:=(back I8).pins_of λp f=>by simp at f
    have I10:=I9.turned (t':=s8.toks) (λb o h e=>sb.extBut b o h e) hD8.2.1 hD8.2.2.1 (.inl (by subst a;exact bh))
     (λx c e z=>by
      subst a;rcases S x c e with q|⟨q,_⟩
      .exact absurd (cellLt x c q) (by rw[z];exact a9 _)
      .rw[z]at q;omega) (λp f z=>by
      subst a;rcases ai.mp f with f|f
      .exact absurd (t p f) (by rw[z];exact a9 _)
      .simp at f)
    have e9:h9.get? s2.heap.objs.size=some (rM (P++[y])):=by rw[hD9];simp
    refine⟨m',hm,i+1,U++[yv],P++[y],H8,I10.pins_of λp f=>?_,rv.append (.cons r8 .nil),by rw[aT,bQ];omega,?_,k2,w8⟩
    .have e:p=(s2.heap.objs.size,rM (P++[y])):=by simpa using f
     subst e;exact⟨e9,hD8.2.1,hD8.2.2.1,hD8.2.2.2.1,λv z=>by cases z⟩
    .exact T.keep _ _ _ k1 λb h o e=>sb.extBut b o (aM (hlt b h)) e
 have loop':=loop;subst a;exact codeAny_compStart_list loop (T.self X.A 0 _ _ _ (T.keep _ _ _ st2 λb _ o e=>Z b o e) loop')
def Ja(E:X.calm=true)(B:PI X tg iter wi)(L:vK X scope N ix)(k:kM ix g)
  (i:∀C a H j d,PG (ju X N scope C a H j d) tg g/\Ad (ju X N scope C a H j d) ifs tt/\PE (ju X N scope C a H j d) elt te)
  (K:∀x,foldedSetIterable iter X.env x=pure x:=by intro _;rfl):PE X (.ListComp elt [⟨tg,iter,ifs,0⟩] scope pos) (BZ ix wi g tt te):=by
 intro R s P H Q I h;rw[eval_ListComp];refine wpAny_comprehension_free rfl K (md L.fre) L.kind L.names (gj (B R s P H _ I h) λv s1 u=>gj u λt s2 r=>?_);obtain⟨it,Y,tn,J,U,e,A,T,c,y,W,⟨S,n⟩,turn⟩:=r;subst e;refine ya E L k i A T c y n turn λD C m w s' z f F q=>?_;refine⟨m,z,λZ p=>⟨.ref D,w,F.turned (λb o l e=>p.extBut b o l e) f.1 f.2.1 f.2.2.2.1 f.2.2.2.2.1 f.2.2.2.2.2,rfl,q⟩⟩
end
end L2
namespace L2
open PySem PySem.Spec PyProof.Rows
structure eN(K:W.Frag)(mg:Str->Option Value)(x:Str)(st:Stmt):Prop where
 ex:∃f fd,Dw K x x st f fd/\mg x=some (.ref f)
def Hy{K:W.Frag}{st:Stmt}{kV d e b g:Vq}(X:K.In h)(G:h.Ns mainGlobals mg)
  (a:W.nsIn K mainGlobals x=some (some (.ref f)))
  (l:K.lookup f=some ⟨oc,od,.func (W.fnOf x x (fV st) (eU st) (d8 st) .none kV d e an b g),osl⟩)
  (c:W.codeIn K b x=true) (k:W.keepIn K (.ref f)=true):eN K mg x st:=⟨f,_,wA l c k,W.mg_of X G a⟩
structure iq(P:Program)(w:World)(K:W.Frag)(mg:Str->Option Value)(base:Heap)(x:Str)(k:Nat)(sp:Sp):Prop where
 ex:∃f fd ps,jM P w K mg base mw k f fd ps sp/\mg x=some (.ref f)/\W.keepIn K (.ref f)=true/\ly K fd ps []
def iq.mono{K:W.Frag}(h:iq P w K mg base x j sp)(d:j<=k):iq P w K mg base x k sp:=
 let ⟨f,fd,ps,F,a,b,c⟩:=h.ex
 ⟨f,fd,ps,F.mono d,a,b,c⟩
def yT{K:W.Frag}{st:Stmt}(D:eN K mg x st)(S:eZ N ps (d8 st))
  (g:∀(kV d j:Vq) (n:Oq Addr) (a l:Vq) (us:List Vq),us.length=ps.length->bindArgs (W.fnOf x x (fV st) (eU st) (d8 st) .none kV d j n a l) ⟨us,[]⟩=pure (ps.zip us))
  (e:∀vs H Q E,sp vs H Q E->vs.length=ps.length)
  (c:∀f a A b s H vs Q E,e8 k (A.deeper (envOfC x (d8 st) s.heap.objs.size f a))->sp vs H Q E->
   ∃t,uI (jJ mw P w K mg base N x (d8 st) f a A b s H E).nox (eU st) t/\t {nx:=λ_ i=>Q .non i,rt:=Q} (hZ N vs) H):iq P w K mg base x (k+1) sp:=by
 obtain⟨f,h,F,m⟩:=D.ex;exact⟨f,h,ps,F.ok S e (c f),m,F.kp,F.binds g⟩
section
variable {X:Cx}{x:Str}{k:Nat}{sp:Sp}{e:Expr}{es:List Expr}{t:TA}{p pos:Pos}
def we(h:iq X.prog X.w X.K X.mg X.base x k sp)(l:e8 k X.A)(m:PA X (e::es) t)(j:Gl X x:=by rfl)
  (d:(x==("__debug__" : Str))=false:=by decide) (i:starEach (e::es) X.env=(false,eval e X.env)::starEach es X.env:=by rfl) (g:(backTo pos (starEach es X.env)).any (·.1)=false:=by rfl) :
  PE X (.Call (.Name x p) (e::es) [] pos) (sy sp [] E0 t):=by
 obtain⟨f,o,n,F,a,b,c⟩:=h.ex;exact Fo F l j a b c .nil Dk m d i g
end
def Fk:l9 X (binaryOp .Mult) (rI (λi j=>PySem.IntMulOk i j) λi j=>.int (i*j)):=IF λ_ _ _ _ _ _ _ a q=>mul_int q a
def Bf:l9 X (binaryOp .FloorDiv) (rI (λi j=>j≠0/\Builtin.divisionGoesByPylong i j=false) λi j=>.int (i.fdiv j)):=IF λ_ _ _ _ _ _ _ a q=>floordiv_int a.1 q (.inl a.2)
end L2
namespace L2
open PySem PySem.Spec PyProof.Rows PySem.W PySem.Calls
theorem rV:∀{a:List Addr} {us:List Vq},eS (a.map V.ref) us->us=a.map Value.ref
 |[],_,.nil=>rfl
 |d::a,u::us,.cons r t=>by have e:=r;rw[e,rV t];rfl
end L2
namespace L2
open PySem PySem.Spec PyProof.Rows PySem.W
mutual
inductive DV(K:Frag)(H:Hp):V->PyData->Prop
 |non:DV K H .non .none
 |bl (b:Bool):DV K H (.bl b) (.bool b)
 |int (i:Int):DV K H (.int i) (.int i)
 |str (x:Str):DV K H (.str x) (.str x)
 |lst {a:Addr} {xs:List V} {ds:List PyData} (h:iY K H a xs) (hs:wd K H xs ds):DV K H (.ref a) (.list ds)
 |tup {a:Addr} {xs:List V} {ds:List PyData} (h:jv K H a xs) (hs:wd K H xs ds):DV K H (.ref a) (.tuple ds)
inductive wd(K:Frag)(H:Hp):List V->List PyData->Prop
 |nil:wd K H [] []
 |cons {v:V} {d:PyData} {vs:List V} {ds:List PyData} (h:DV K H v d) (hs:wd K H vs ds):wd K H (v::vs) (d::ds)
end
section
variable {X:Cx}{dU:List (Addr×Obj)}{σ:St}{H:Hp}{s:Sq}
mutual
theorem DV.reads(I:eC X dU σ H s):∀{v} {d} {u},DV X.K H v d->fw v u->∃as,Reads s.heap u d as
 |_,_,_,.non,r=>by cases r;exact⟨_,.none⟩
 |_,_,_,.bl b,r=>by cases r;exact⟨_,.bool b⟩
 |_,_,_,.int i,r=>by obtain⟨t,rfl⟩:=r;exact⟨_,.int i t⟩
 |_,_,_,.str x,r=>by obtain⟨t,rfl⟩:=r;exact⟨_,.str x t⟩
 |_,_,_,.lst h hs,r=>by cases r;obtain⟨a,c,⟨o,n,e,g,k,j⟩,_⟩:=I.list h;obtain⟨as,f⟩:=wd.reads I hs c;exact⟨_,.list e g j (by simpa using f)⟩
 |_,_,_,.tup h hs,r=>by cases r;obtain⟨a,c,⟨o,e,g,n,j⟩,_⟩:=I.tuple h;obtain⟨as,f⟩:=wd.reads I hs c;exact⟨_,.tuple e g j (by simpa using f)⟩
theorem wd.reads(I:eC X dU σ H s):∀{vs} {ds} {us},wd X.K H vs ds->eS vs us->∃as,ReadsAll s.heap us ds as
 |_,_,_,.nil,r=>by cases r;exact⟨_,.nil⟩
 |_,_,_,.cons h hs,r=>by
  cases r with
  |cons r1 r2=>obtain⟨as,a⟩:=DV.reads I h r1;obtain⟨bs,b⟩:=wd.reads I hs r2;exact⟨_,.cons a b⟩
end
def xt(K:Frag)(neg:Bool):R2:=λx y H Q=>∃a b,DV K H x a/\DV K H y b/\(a.canLay0=true/\b.canLay0=true/\a.depth<=100)/\Q (.bl (if neg then !PyData.eqv a b else PyData.eqv a b)) H
def Cz(k:X.A.units+200<cLine):l9 X (compareOp .Eq) (xt X.K false):=by intro o s n H x y v u Q I f b h;obtain⟨m,j,i,e,⟨g,d,l⟩,q⟩:=h;obtain⟨as,a⟩:=i.reads I f;obtain⟨bs,c⟩:=e.reads I b;exact SeqAt.eqOverData _ _ _ _ _ _ _ _ _ _ _ _ a c g d (by omega) ⟨.bl _,H,I,rfl,q⟩
def CU(k:X.A.units+200<cLine):l9 X (compareOp .NotEq) (xt X.K true):=by intro o s n H x y v u Q I f b h;obtain⟨m,j,i,e,⟨g,d,l⟩,q⟩:=h;obtain⟨as,a⟩:=i.reads I f;obtain⟨bs,c⟩:=e.reads I b;exact SeqAt.neOverData _ _ _ _ _ _ _ _ _ _ _ _ a c g d (by omega) ⟨.bl _,H,I,rfl,q⟩
def Kb(a:e8 k A):A.units+200<cLine:=by have:=a.un;omega
end
end L2
namespace L2
open PySem PySem.Spec PyProof.Rows
theorem vD:∀{bs:List Bool} {us:List Vq},eS (bs.map V.bl) us->us=bs.map Value.bool
 |[],_,.nil=>rfl
 |b::bs,u::us,.cons r t=>by have e:=r;rw[e,vD t];rfl
theorem qo:∀{ns} {us},eS (ns.map V.int) us->IntsAre us ns
 |[],_,.nil=>.nil
 |n::ns,u::us,.cons r t=>by obtain⟨a,e⟩:=(r);rw[e];exact .cons n a (qo t)
def zr{bs:List Bool}:(List.range bs.length).all (λi=>bs.getD i false)=bs.all id:=by
 induction bs with
 |nil=>rfl
 |cons b bs ih=>rw[az,cj,ck,cm,ck,<-ih];rfl
def sv{bs:List Bool}:(List.range bs.length).any (λi=>bs.getD i false)=bs.any id:=by
 induction bs with
 |nil=>rfl
 |cons b bs ih=>rw[az,cj,List.any_cons,cn,List.any_cons,<-ih];rfl
section
variable {X:Cx}
def zu{bs:List Bool}:TruthOf prog w A (λi v=>(bs.map Value.bool).toArray[i]? = some v) (λi=>bs.getD i false):=λi v s Q E d c=>by
 have e:(bs.map Value.bool)[i]? = some v:=by simpa using d
 rw[aw]at e;cases a:bs[i]? with
 |none=>rw[a]at e;cases e
 |some b=>
  rw[a]at e;cases e;have:bs.getD i false=b:=by rw[af,a];rfl
  dsimp only at c;rw[this]at c;exact ao c
def Cp(k:X.calm=true):iS X (.builtin "all") (λd H Q=>∃(p:Addr) (bs:List Bool),d=[.ref p]/\iY X.K H p (bs.map V.bl)/\Q (.bl (bs.all id)) H):=by
 intro y s x H d B Q I r h;obtain⟨p,bs,rfl,m,q⟩:=h;obtain⟨u,rfl,l⟩:=pb r;cases l;obtain⟨f,j,c,t⟩:=I.list m;have e:=vD j;subst e;have a:p<s.heap.objs.size:=by obtain⟨_,e,_⟩:=c.isList;exact aL e
 refine call_all_walk (wpAny_pyIter_list c.isList ⟨s.heap.objs.size,_,_,_,_,_,λi=>bs.getD i false,rfl,Walks.list (A:=X.A.in1) (I.ok.hd k) _ p (aM a) _,⟨⟨_,au _ rfl,rfl,rfl⟩,c.isList.push _⟩,zu,λw v g=>?_⟩);refine⟨.bl _,H,I.kept (λb o e=>g b o ?_ (ae _ e)),rfl,?_⟩
 .intro n;have:=aL e;have z:b=s.heap.objs.size:=by simpa using n
  rw[z]at this;exact a9 _ this
 .rw[<-zr]at q;simpa using q
def tN:bootBuiltins "all" = some (.builtin "all"):=by decide +kernel
def qd:bootBuiltins "any" = some (.builtin "any"):=by decide +kernel
end
end L2
namespace L2
open PySem PySem.Spec PyProof.Rows
def fZ(b:Bool)(h:Heap)(l:Addr)(a:Array Vq):Prop:=if b=true then h.IsTuple l a else h.IsList l a
def iW(b:Bool)(h:Heap)(it l:Addr)(k:Nat):Prop:=if b=true then h.IsTupleIter it l k else h.IsListIter it l k
noncomputable def pZ(b:Bool):String:=if b=true then "tuple_iterator" else "list_iterator"
def iW.look(x:iW b h it l k):∃o,h.get? it=some o/\o.cls=.type (pZ b)/\o.data=.fields #[.ref l,.int k 0]:=by
 cases b with
 |true=>exact (x)
 |false=>exact (x)
def iW.of{k:Nat}(x:∃o,h.get? it=some o/\o.cls=.type (pZ b)/\o.data=.fields #[.ref l,.int k 0]):iW b h it l k:=by
 cases b with
 |true=>exact x
 |false=>exact x
def iW.to(x:iW b h it l k)(e:∀o,h.get? it=some o->h'.get? it=some o):iW b h' it l k:=by obtain⟨o,a,q⟩:=x.look;exact .of ⟨o,e o a,q⟩
def fZ.look(x:fZ b h l xs):∃o n,h.get? l=some o/\o.data=.seq xs n:=by
 cases b with
 |true=>obtain⟨o,c,_,n,a⟩:=(x);exact⟨o,n,c,a⟩
 |false=>obtain⟨o,c,_,n,a⟩:=(x);exact⟨o,n,c,a⟩
def fZ.to(x:fZ b h l xs)(e:∀o,h.get? l=some o->h'.get? l=some o):fZ b h' l xs:=by
 cases b with
 |true=>obtain⟨o,a,q⟩:=(x);exact⟨o,e o a,q⟩
 |false=>obtain⟨o,a,q⟩:=(x);exact⟨o,e o a,q⟩
section
variable {prog:Program}{w:World}{A:Around}{E:Vq->Shared->Prop}{s:Sq}
theorem E4(f:s.heap.IsTupleIter it l k)(p:s.heap.IsTuple l xs)
  (j:∀x h',xs[k]? = some x->h'.IsTupleIter it l (k+1)->Heap.SameBut it s.heap h'->Q x {s with heap:=h'})
  (d:xs[k]? = none->A.handled=none/\∀h' e,Heap.ExtBut it s.heap h'->(∃o,h'.get? e=some o/\o.cls=.type "StopIteration")->E (.ref e) {s with heap:=h'}) :
  wpAny (model prog w) A (Builtin.SmallTypes.nextOf (.ref it)) Q E s:=by
 obtain⟨r,b,h,a⟩:=id f;obtain⟨q,g,_,n,m⟩:=p;unfold Builtin.SmallTypes.nextOf;refine aq (wpAny_callSpecial?_slot f.typeIs F.slot_tuple_iterator_next (wpAny_call_entry F.slot_tuple_iterator_next f.typeIs F.entry_tuple_iterator_next ?_ (F.args_tuple_iterator_next_1 _)));show wpAny _ _ (field (.ref it) 0 >>= _) _ _ s;refine aq (wpAny_field b a rfl ?_);have ne:(Value.ref l==Value.none)=false:=rfl;simp only[ne,bV,if_false];refine aq (wpAny_field b a rfl (aq (wpAny_seqItems g m ?_)));cases c:xs[k]? with
 |some x=>simp only[bJ,c];refine aq (wpAny_setField b a (by simp) (ao ⟨x,rfl,ao (j x _ c ?_ (Heap.SameBut.update ..))⟩));refine⟨_,Heap.get?_update_self _ b (Obj.isFreed_of_fields (Obj.data_mapFields a _)),(Obj.cls_mapFields ..).trans h,?_⟩;rw[Obj.data_mapFields a];simp[rawInt]
 |none=>obtain⟨i,d⟩:=d c;simp only[bJ,c];refine aq (wpAny_rule (aq (wpAny_setField b a (by simp) ?_)));show wpAny _ _ (newExc (.type "StopIteration") [] >>= _) _ _ _;simp only[newExc,newTuple];refine aq (aq (wpAny_newObj_type (aq (wpAny_of_eq (by first|rfl|(simp only[firstArgMember];rfl)) (wpAny_newObj_type ?_ (by size_fits)))) (by size_fits)));simp only[raiseNew];refine aq (wpAny_handled ?_);rw[show A.in1.handled=none from i];refine aq (ao (wpAny_throw ?_));exact d _ _ (((Heap.SameBut.update ..).extBut.push _).push _) ⟨_,au _ rfl,rfl⟩
theorem qc(i:iW b s.heap it l k)(j:fZ b s.heap l xs)
  (h:∀x h',xs[k]? = some x->iW b h' it l (k+1)->Heap.SameBut it s.heap h'->Q x {s with heap:=h'})
  (f:xs[k]? = none->A.handled=none/\∀h' e,Heap.ExtBut it s.heap h'->(∃o,h'.get? e=some o/\o.cls=.type "StopIteration")->E (.ref e) {s with heap:=h'}) :
  wpAny (model prog w) A (Builtin.SmallTypes.nextOf (.ref it)) Q E s:=by
 cases b with
 |true=>exact E4 i j h f
 |false=>
  have c:=i;have d:=j;cases g:xs[k]? with
  |some x=>exact wpAny_nextOf_list_item c d g λh' a b=>h x h' g a b
  |none=>obtain⟨m,f⟩:=f g;exact wpAny_nextOf_list_end m c d g f
def BL{z TI TO C F L P:Addr}{Q:Vq->Shared->Prop}(D:ZipApart z TI TO C F L P)
  (K:IsZip s.heap z TI TO .none) (hTI:IsPair s.heap TI (.ref C) (.ref F)) (hTO:IsPair s.heap TO a b)
  (h1:iW b1 s.heap C L k) (h2:iW b2 s.heap F P k) (X:fZ b1 s.heap L xs) (hl2:fZ b2 s.heap P ys)
  (Z:∀x y h',xs[k]? = some x->ys[k]? = some y->IsZip h' z TI TO (rawInt s.heap.objs.size)->IsPair h' TO x y->iW b1 h' C L (k+1)->iW b2 h' F P (k+1)->IsPair h' s.heap.objs.size x y->h'.objs.size=s.heap.objs.size+1->
   (∀c o,c≠z->c≠TO->c≠C->c≠F->s.heap.get? c=some o->h'.get? c=some o)->Q (.ref s.heap.objs.size) {s with heap:=h'})
  (N:xs[k]? = none\/ys[k]? = none->A.handled=none/\∀h' e,(∀c o,c≠z->c≠TO->c≠C->c≠F->s.heap.get? c=some o->h'.get? c=some o)->(∃o,h'.get? e=some o/\o.cls=.type "StopIteration")->E (.ref e) {s with heap:=h'}) :
  wpAny (model prog w) A (Builtin.«zip.__next__» ⟨[.ref z],[]⟩) (λfin s'=>∃v,fin=.done (.ret v)/\Q v s') E s:=by
 have t:∀{h:Heap} {e:Addr} {H:Obj} {f:Vq},IsZip h z TI TO f->h.get? e=some H->H.cls=.type "StopIteration" ->e≠z:=λ{h e H f} q ge ce u=>by subst u;rw[q]at ge;cases ge;simp at ce
 show wpAny _ _ (field (.ref z) 2 >>= λ_=>_) _ _ _;refine aq (wpAny_field K rfl rfl ?_);refine aq (wpAny_field K rfl rfl (aq (wpAny_seqItems hTI rfl ?_)));unfold Builtin.SmallTypes.ownedTupleIsFree;refine aq (aq (wpAny_field K rfl rfl (ao ?_)));simp only[if_true];refine aq (wpAny_rule (aq (wpAny_field K rfl rfl (aq (wpAny_setField_rec K (by simp) λg1 y1 I=>?_)))));have z1:=y1;simp only[List.zipIdx_cons,List.zipIdx_nil,bU,bZ];refine aq (aq (aq (wpAny_onRaise ?_)));refine aq (qc (h1.to λo e=>I.extBut _ _ D.i1z e) (X.to λo e=>I.extBut _ _ D.l1z e) (λx g2 R t2 p=>ao ?_) (λR=>⟨(N (.inl R)).1,λg2 e p ⟨H,ge,ce⟩=>?_⟩))
 .have p2:=p.extBut _ _ D.TOi1 (I.extBut _ _ D.TOz hTO);refine aq (wpAny_seqItems p2 rfl (aq (wpAny_updateSeq_pair p2 λY q3 r=>?_)));have p3:=q3;refine aq (wpAny_letGo (ao (aq (aq (wpAny_onRaise ?_)))));have l:∀c o,c≠z->c≠C->c≠TO->s.heap.get? c=some o->Y.get? c=some o:=λc o d j g e=>r.extBut _ _ g (p.extBut _ _ j (I.extBut _ _ d e));refine aq (qc (h2.to λo e=>l _ o D.i2z D.i12.symm D.TOi2.symm e) (hl2.to λo e=>l _ o D.l2z D.l2i1 D.l2TO e) (λy g4 U t4 n=>ao ?_) (λU=>⟨(N (.inr U)).1,λg4 e n ⟨H,ge,ce⟩=>?_⟩))
  .have p4:=n.extBut _ _ D.TOi2 p3;refine aq (wpAny_seqItems p4 rfl (aq (wpAny_updateSeq_pair p4 λm q5 B=>?_)));have p5:IsPair m TO x y:=q5;refine aq (wpAny_letGo (ao (ao (aq (wpAny_seqItems p5 rfl (aq (wpAny_newTuple ?_)))))));have sz:m.objs.size=s.heap.objs.size:=by rw[B.1,n.1,r.1,p.1,I.1]
   have z5:=B.extBut _ _ D.TOz.symm (n.extBut _ _ D.i2z.symm (r.extBut _ _ D.TOz.symm (p.extBut _ _ D.i1z.symm z1)));have to5:∀c o,c≠z->c≠TO->c≠C->c≠F->s.heap.get? c=some o->m.get? c=some o:=λc o d j g J e=>B.extBut _ _ j (n.extBut _ _ J (l c o d g j e));unfold Builtin.SmallTypes.ownedTupleHandOut;refine aq (aq (wpAny_setField_rec (ae _ z5) (by simp) λg7 y7 k7=>?_));have z7:=y7;refine wpAny_setField_rec z7 (by simp) λS y8 k8=>?_;have z8:=y8;have up:∀c o,c≠z->(m.push {cls:=.type "tuple",data:=.seq #[x,y]}).get? c=some o->S.get? c=some o:=λc o d e=>k8.extBut _ _ d (k7.extBut _ _ d e);have i:∀c o,c≠z->m.get? c=some o->S.get? c=some o:=λc o d e=>up c o d (ae _ e);have p8:=up _ _ (br (aL z5)) (au _ rfl);have s8:S.objs.size=m.objs.size+1:=by rw[k8.1,k7.1,Heap.size_push]
   rw[sz]at z8 p8 s8;refine ao ⟨_,rfl,?_⟩;rw[sz];have e1:=t2.to λo e=>i _ o D.i1z (B.extBut _ _ D.TOi1.symm (n.extBut _ _ D.i12 (r.extBut _ _ D.TOi1.symm e)));have e2:=t4.to λo e=>i _ o D.i2z (B.extBut _ _ D.TOi2.symm e);exact Z x y S R U z8 (i _ _ D.TOz p5) e1 e2 p8 s8 λc o d j g J e=>i c o d (to5 c o d j g J e)
  .have z4:=n _ _ D.i2z.symm (r.extBut _ _ D.TOz.symm (p.extBut _ _ D.i1z.symm z1));refine wpAny_setField_rec z4 (by simp) λm _ B=>(N (.inr U)).2 m e (λc o d j g J q=>B.extBut _ _ d (n _ _ J (l c o d g j q))) ⟨H,B.extBut _ _ (t z4 ge ce) ge,ce⟩
 .have z2:=p _ _ D.i1z.symm z1;refine wpAny_setField_rec z2 (by simp) λY _ r=>(N (.inl R)).2 Y e (λc o d j g J q=>r.extBut _ _ d (p _ _ g (I.extBut _ _ d q))) ⟨H,r.extBut _ _ (t z2 ge ce) ge,ce⟩
def vX{z TI TO f d g h:Addr}(D:ZipApart z TI TO f d g h)
  (r:IsZip s.heap z TI TO .none) (i:IsPair s.heap TI (.ref f) (.ref d)) (m:IsPair s.heap TO a b)
  (B:iW b1 s.heap f g k) (u:iW b2 s.heap d h k) (l:fZ b1 s.heap g xs) (n:fZ b2 s.heap h ys)
  (j:∀x y h',xs[k]? = some x->ys[k]? = some y->IsZip h' z TI TO (rawInt s.heap.objs.size)->IsPair h' TO x y->iW b1 h' f g (k+1)->iW b2 h' d h (k+1)->IsPair h' s.heap.objs.size x y->h'.objs.size=s.heap.objs.size+1->
   (∀c o,c≠z->c≠TO->c≠f->c≠d->s.heap.get? c=some o->h'.get? c=some o)->Q (some (.ref s.heap.objs.size)) {s with heap:=h'})
  (p:xs[k]? = none\/ys[k]? = none->A.handled=none/\∀h',(∀c o,c≠z->c≠TO->c≠f->c≠d->s.heap.get? c=some o->h'.get? c=some o)->Q none {s with heap:=h'}) :
  wpAny (model prog w) A (pyNext (.ref z)) Q E s:=by
 have ty:s.TypeIs (.ref z) "zip" :=⟨_,r,rfl⟩;unfold pyNext;refine aq (wpAny_attempt (wpAny_callSpecial?_slot ty F.slot_zip_next (wpAny_call_entry F.slot_zip_next ty F.entry_zip_next
  (BL D r i m B u l n (λx y h' I K J t C H N v L=>ao (j x y h' I K J t C H N v L)) λq=>⟨(p q).1,λh' e hk ⟨o,ho,hc⟩=>?_⟩) (F.args_zip_next_1 _))))
 exact aq (wpAny_isInstance ⟨o,ho,hc⟩ isSubtype_stop (ao ((p q).2 h' hk)))
theorem kr(a:fZ b s.heap l xs)
  (h:Q (.ref s.heap.objs.size) {s with heap:=s.heap.push {cls:=.type (pZ b),data:=.fields #[.ref l,.int 0 0]}}):wpAny (model prog w) A (pyIter (.ref l)) Q E s:=by
 cases b with
 |true=>exact wpAny_pyIter_tuple (a) h
 |false=>exact wpAny_pyIter_list (a) h
end
noncomputable abbrev zo(b:Bool)(l:Addr):Obj:={cls:=.type (pZ b),data:=.fields #[.ref l,.int 0 0]}
abbrev zt(x y:Vq):Obj:={cls:=.type "tuple",data:=.seq #[x,y]}
abbrev zz(p q:Addr):Obj:={cls:=.type "zip",data:=.fields #[.none,.bool false,.bool false,.ref p,.ref q]}
noncomputable abbrev t7(b1 b2:Bool)(h:Heap)(l1 l2:Addr):Heap:=
 ((((h.push (zo b1 l1)).push (zo b2 l2)).push (zt (.ref h.objs.size) (.ref (h.push (zo b1 l1)).objs.size))).push (zt .none .none)).push
  (zz ((h.push (zo b1 l1)).push (zo b2 l2)).objs.size (((h.push (zo b1 l1)).push (zo b2 l2)).push (zt (.ref h.objs.size) (.ref (h.push (zo b1 l1)).objs.size))).objs.size)
section
variable {prog:Program}{w:World}{A:Around}{E:Vq->Shared->Prop}{s:Sq}
def zg b1 b2 l1 l2 xs ys:Meets (Builtin.«zip.__new__» ⟨[.type "zip",.ref l1,.ref l2],[]⟩) (λ_ R s=>fZ b1 s.heap l1 xs/\fZ b2 s.heap l2 ys/\
  R (.ok (.ret (.ref ((((s.heap.push (zo b1 l1)).push (zo b2 l2)).push (zt (.ref s.heap.objs.size) (.ref (s.heap.push (zo b1 l1)).objs.size))).push (zt .none .none)).objs.size))) {s with heap:=t7 b1 b2 s.heap l1 l2}):=by
 refine .of_wp λprog w A R s h=>?_;obtain⟨j,g,d,k,c⟩:=s;obtain⟨f,l,b⟩:=h;have sz:=sub_zip;have a:=f;have i:fZ b2 (Shared.heap ⟨j.push (zo b1 l1),g,d,k,c⟩) l2 ys:=l.to λo e=>ae _ e;wp_walk using kr a,kr i;exact⟨_,rfl,b⟩
def Cq(i:fZ b1 s.heap l1 xs)(j:fZ b2 s.heap l2 ys)
  (h:∀h',IsZip h' (s.heap.objs.size+4) (s.heap.objs.size+2) (s.heap.objs.size+3) .none->IsPair h' (s.heap.objs.size+2) (.ref s.heap.objs.size) (.ref (s.heap.objs.size+1))->IsPair h' (s.heap.objs.size+3) .none .none->
   iW b1 h' s.heap.objs.size l1 0->iW b2 h' (s.heap.objs.size+1) l2 0->h'.objs.size=s.heap.objs.size+5->(∀c o,s.heap.get? c=some o->h'.get? c=some o)->Q (.ref (s.heap.objs.size+4)) {s with heap:=h'}) :
  wpAny (model prog w) A (call (.type "zip") [.ref l1,.ref l2]) Q E s:=by
 refine callType_new F.called_zip (by decide) (F.typeCall_zip_2 _ _) (F.newCall_zip_2 _ _) (λk=>F.args_object_init_3 k _ _) F.entry_zip_new (zg b1 b2 l1 l2 xs ys) ⟨i,j,?_⟩;generalize f:s.heap.objs.size=n at *;have b:(s.heap.push (zo b1 l1)).objs.size=n+1:=by rw[Heap.size_push,f]
 have g:((s.heap.push (zo b1 l1)).push (zo b2 l2)).objs.size=n+2:=by rw[Heap.size_push,b]
 generalize a:(s.heap.push (zo b1 l1)).push (zo b2 l2)=g2 at *;have r:∀c o,s.heap.get? c=some o->g2.get? c=some o:=λc o e=>by rw[<-a];exact ae _ (ae _ e)
 have u:g2.get? n=some (zo b1 l1):=by rw[<-a,<-f];exact ae _ (au _ rfl)
 have t:g2.get? (n+1)=some (zo b2 l2):=by rw[<-a,<-b];exact au _ rfl
 have d:(g2.push (zt (.ref n) (.ref (n+1)))).objs.size=n+3:=by rw[Heap.size_push,g]
 have l:((g2.push (zt (.ref n) (.ref (n+1)))).push (zt .none .none)).objs.size=n+4:=by rw[Heap.size_push,d]
 have p:t7 b1 b2 s.heap l1 l2=((g2.push (zt (.ref n) (.ref (n+1)))).push (zt .none .none)).push (zz (n+2) (n+3)):=by unfold t7;rw[f,b,a,g,d]
 rw[p,b,l];have q:(g2.push (zt (.ref n) (.ref (n+1)))).get? (n+2)=some (zt (.ref n) (.ref (n+1))):=by rw[<-g];exact au _ rfl
 have v:((g2.push (zt (.ref n) (.ref (n+1)))).push (zt .none .none)).get? (n+3)=some (zt .none .none):=by rw[<-d];exact au _ rfl
 have m:(((g2.push (zt (.ref n) (.ref (n+1)))).push (zt .none .none)).push (zz (n+2) (n+3))).get? (n+4)=some (zz (n+2) (n+3)):=by rw[<-l];exact au _ rfl
 have up:∀c o,g2.get? c=some o->(((g2.push (zt (.ref n) (.ref (n+1)))).push (zt .none .none)).push (zz (n+2) (n+3))).get? c=some o:=λc o e=>ae _ (ae _ (ae _ e));exact⟨⟨_,m,rfl⟩,h _ m (ae _ (ae _ q)) (ae _ v) (.of ⟨_,up _ _ u,rfl,rfl⟩) (.of ⟨_,up _ _ t,rfl,rfl⟩) (by rw[Heap.size_push,l]) λc o e=>up c o (r c o e)⟩
end
end L2
namespace L2
open PySem PySem.Spec PyProof.Rows
def eC.turnedL{ch:List Addr}(I:eC X dU σ H s)(k:∀b o,b∉ch->s.heap.get? b=some o->h'.get? b=some o)(f:∀b∈ch,pI X dU H b) :
  eC X dU σ H {s with heap:=h',toks:=t'}:=by
 have d:∀b u,H b=some u->b∉ch:=λb u e z=>by rw[(f b z).1]at e;cases e
 refine I.step (λb g=>let ⟨_,f1,_,f3,f4,f5⟩:=f b g;⟨f3,f1,f4,f5⟩) (λb o _ _ a e _=>k b o a e) (λb o _ _ a e _=>⟨o.slots,k b o a e⟩) (λ_ _ _ _ n=>n)
  (λb o a e=>⟨o,k b o a e⟩) (λ_ _ e=>e) (λ_ _ _ e=>e) (λb _ p e=>⟨#[],by rw[e];simp⟩) (λm l=>?_) (λb u e=>?_) I.bare
 .obtain⟨o,h,i,j,r⟩:=l;exact⟨o,h,i,k _ o (λz=>(f _ z).2.1 rfl) j,r⟩
 .refine (I.hok b u e).stay (λc v a q=>k c v ?_ q) (λ_ q=>q) λ_ _ q=>q;rcases a with z|z
  .rw[z];exact d b u e
  .exact d c _ z
def rj(K:W.Frag)(H:Hp)(b:Bool)(a:Addr)(c:List V):Prop:=if b=true then jv K H a c else iY K H a c
def eC.seqB(I:eC X dU σ H s)(h:rj X.K H b a xs):∃c:List Vq,eS xs c/\fZ b s.heap a c.toArray/\xs.length<=sizeLine:=by
 cases b with
 |true=>obtain⟨c,r,p,z⟩:=I.tuple (h);exact⟨c,r,p,z⟩
 |false=>obtain⟨c,r,p,z⟩:=I.list (h);exact⟨c,r,p.isList,z⟩
def eC.seqB_inj(I:eC X dU σ H s)(h:rj X.K H b a xs)(h':rj X.K H b a ys):xs=ys:=by
 cases b with
 |true=>exact I.tuple_inj h h'
 |false=>exact I.list_inj h h'
noncomputable def Kv(K:W.Frag)(e c:Bool)(d f:Addr):It:=
  ⟨λi H=>∃a b x y,rj K H e d a/\rj K H c f b/\a[i]? = some x/\b[i]? = some y,
   λi H v g=>∃p x y,v=.ref p/\H p=none/\g=e6 H p (.tup [x,y])/\(∀a,rj K H e d a->a[i]? = some x)/\∀b,rj K H c f b->b[i]? = some y,
   λi H=>∃a b,rj K H e d a/\rj K H c f b/\(a.length<=i\/b.length<=i)⟩
def Ce{K:W.Frag}{x1}{z TI TO m l l1 l2:Addr}(D:ZipApart z TI TO m l l1 l2) :
  xJ P w K (.Tuple elts x1 pos) (Kv K b1 b2 l1 l2) [z,TI,TO,m,l] z (λi h=>IsZip h z TI TO .none/\IsPair h TI (.ref m) (.ref l)/\(∃a b,IsPair h TO a b)/\iW b1 h m l1 i/\iW b2 h l l2 i) where
 mem:=by simp
 obj:=λi h p b g=>by
  obtain⟨n,f,⟨a,c,j⟩,r,t⟩:=p;have mem:b=z\/b=TI\/b=TO\/b=m\/b=l:=by simpa using g
  rcases mem with rfl|rfl|rfl|rfl|rfl
  .exact⟨_,n,λv q=>by cases q⟩
  .exact⟨_,f,λv q=>by cases q⟩
  .exact⟨_,j,λv q=>by cases q⟩
  .obtain⟨o,e,_,d⟩:=r.look;exact⟨o,e,λv q=>by rw[d]at q;cases q⟩
  .obtain⟨o,e,_,d⟩:=t.look;exact⟨o,e,λv q=>by rw[d]at q;cases q⟩
 keep:=λi h h' p k=>by obtain⟨n,f,⟨a,c,j⟩,r,t⟩:=p;exact⟨k z (by simp) _ n,k TI (by simp) _ f,⟨a,c,k TO (by simp) _ j⟩,r.to λo e=>k m (by simp) o e,t.to λo e=>k l (by simp) o e⟩
 item:=by
  intro X hP hw hK hc i dU s σ H E I hf p hg;subst hP hw hK;obtain⟨n,f,⟨a,c,j⟩,r,t⟩:=p;obtain⟨xs,ys,x,y,Z,q2,e1,e2⟩:=hg;obtain⟨N,r1,p1,z1⟩:=I.seqB Z;obtain⟨F,r2,p2,z2⟩:=I.seqB q2;obtain⟨u,gu,ru⟩:=r1.get e1;obtain⟨v,gv,rv⟩:=r2.get e2;have C:=I.fpOk (aK _) (I.hok.fresh (aK _));refine vX D n f j r t p1 p2 (λU Q h' A B a1 a2 a3 a4 a5 a6 L=>?_) λq=>?_
  .have eu:U=u:=by
    have:N[i]? = some U:=by simpa using A
    rw[gu]at this;cases this;rfl
   have ev:Q=v:=by
    have:F[i]? = some Q:=by simpa using B
    rw[gv]at this;cases this;rfl
   subst eu;subst ev;refine⟨_,rfl,wpAny_letOwnedTupleGo_zip a1 λJ R sb=>?_⟩;have zT:=br (aL n);have I1:=I.turnedL (t':=s.toks) (ch:=[z,TO,m,l]) (λb o g e=>sb.extBut _ _ (λq=>g (by simp[q])) (L b o (λq=>g (by simp[q])) (λq=>g (by simp[q])) (λq=>g (by simp[q])) (λq=>g (by simp[q])) e))
    (λb g=>hf b (by
     have mem:b=z\/b=TO\/b=m\/b=l:=by simpa using g
     rcases mem with rfl|rfl|rfl|rfl<;>simp))
   have gT:=sb.extBut _ _ zT a5;have I2:eC X dU σ (e6 H s.heap.objs.size (.tup [x,y])) {s with heap:=J}:=I1.track C.1 C.2.2.2.1 C.2.1 C.2.2.2.2.1 C.2.2.2.2.2
    ⟨by show 2<=sizeLine;decide,[U,Q],.cons ru (.cons rv .nil),⟨_,gT,rfl,_,rfl,rfl⟩⟩
   have lt:∀{b o},s.heap.get? b=some o->e6 H s.heap.objs.size (.tup [x,y]) b=H b:=λ{b o} e=>eA (aM (aL e));refine⟨.ref s.heap.objs.size,_,I2,rfl,⟨_,x,y,rfl,C.1,rfl,λxs' h=>by rw[I.seqB_inj h Z];exact e1,λys' h=>by rw[I.seqB_inj h q2];exact e2⟩,?_,λb g=>?_⟩
   .have Y:∀c o,c≠z->h'.get? c=some o->J.get? c=some o:=λc o c1 e=>sb.extBut _ _ c1 e;exact⟨R,Y _ _ D.TIz (L _ _ D.TIz D.TITO D.TIi1 D.TIi2 f),⟨_,_,Y _ _ D.TOz a2⟩,a3.to λo e=>Y _ o D.i1z e,a4.to λo e=>Y _ o D.i2z e⟩
   .have mem:b=z\/b=TI\/b=TO\/b=m\/b=l:=by simpa using g
    have S:=(hf b g).1;obtain⟨o1,g1,_⟩:=r.look;obtain⟨o2,g2,_⟩:=t.look;rcases mem with rfl|rfl|rfl|rfl|rfl
    .rw[lt n];exact S
    .rw[lt f];exact S
    .rw[lt j];exact S
    .rw[lt g1];exact S
    .rw[lt g2];exact S
  .exfalso;have m1:N.toArray[i]? = some u:=by simpa using gu
   have m2:F.toArray[i]? = some v:=by simpa using gv
   rcases q with q|q
   .rw[m1]at q;cases q
   .rw[m2]at q;cases q
 done:=by
  intro X hP hw hK hc i dU s σ H E I hf p hg;subst hP hw hK;obtain⟨n,f,⟨a,c,j⟩,r,t⟩:=p;obtain⟨xs,ys,Z,q2,hl⟩:=hg;obtain⟨N,r1,p1,z1⟩:=I.seqB Z;obtain⟨F,r2,p2,z2⟩:=I.seqB q2;have n1:=r1.length;have n2:=r2.length;have fpc:∀b∈[z,TO,m,l],pI X dU H b:=λb g=>hf b (by
   have mem:b=z\/b=TO\/b=m\/b=l:=by simpa using g
   rcases mem with rfl|rfl|rfl|rfl<;>simp)
  refine vX D n f j r t p1 p2 (λU Q h' A B a1 a2 a3 a4 a5 a6 L=>?_) λq=>⟨I.ok.hd hc,λh' L=>⟨rfl,I.turnedL (λb o g e=>L b o (λq=>g (by simp[q])) (λq=>g (by simp[q])) (λq=>g (by simp[q])) (λq=>g (by simp[q])) e) fpc⟩⟩;exfalso;have m1:i<N.length:=by
   have:N[i]? = some U:=by simpa using A
   exact (aa.mp this).1
  have m2:i<F.length:=by
   have:F[i]? = some Q:=by simpa using B
   exact (aa.mp this).1
  omega
 self:=λ_ _ _ _ _ p h=>wpAny_pyIter_zip p.1 h
def Ia:bootBuiltins "zip" = some (.type "zip"):=by decide +kernel
section
variable {X:Cx}
def HM(K:W.Frag)(e d:Bool)(j:TA):TI:=λg H R=>j g H λh c=>∃a b,h=[.ref a,.ref b]/\(∃f,rj K c e a f)/\(∃i,rj K c d b i)/\R (Kv K e d a b) c
def GJ{x1}(B:Gl X "zip")(S:X.mg "zip" = none)(E:PA X [a,b] ta)(J:starEach [a,b] X.env=[(false,eval a X.env),(false,eval b X.env)]:=by rfl)
  (c:starEach [b] X.env=[(false,eval b X.env)]:=by rfl):PI X (.Tuple elts x1 tpos) (.Call (.Name "zip" p) [a,b] [] pos) (HM X.K b1 b2 ta):=by
 intro P s L H R I h;refine Call_ (mP I B S Ia (PyProof.Rows.callWith_type1 (gj (E pos P s L H _ I h) λU s1 ⟨vs,H1,I1,r1,d⟩=>?_) (by rw[J,c]) (by rw[c];rfl)));obtain⟨z,D,rfl,⟨Y,d⟩,⟨ys,A⟩,q⟩:=d;obtain⟨u1,u2,rfl,x,N⟩:=Jv r1;cases x;cases N;obtain⟨U,y,r,_⟩:=I1.seqB d;obtain⟨Z,u,t,_⟩:=I1.seqB A;have f:z<s1.heap.objs.size:=by obtain⟨o,n,e,_⟩:=r.look;exact aL e
 have i:D<s1.heap.objs.size:=by obtain⟨o,n,e,_⟩:=t.look;exact aL e
 refine Cq r t λh' l g j Q F C w=>?_;refine wpAny_pyIter_zip l ?_;refine⟨_,_,_,_,H1,rfl,I1.kept w,Ce (zipApart_new f i),⟨l,g,⟨_,_,j⟩,Q,F⟩,λb v=>?_,q⟩;have k:b=s1.heap.objs.size+4\/b=s1.heap.objs.size+2\/b=s1.heap.objs.size+3\/b=s1.heap.objs.size\/b=s1.heap.objs.size+1:=by simpa using v
 have m:s1.heap.objs.size<=b:=by rcases k with rfl|rfl|rfl|rfl|rfl<;>omega
 exact I1.fpOk m (I1.hok.fresh m)
end
end L2
namespace L2
open PySem PySem.Spec PyProof.Rows
def nX(h:H p=none):eB H (e6 H p o):=λb u e=>by rw[eA (eJ e h)];exact .of e
def eB.seqT{K:W.Frag}(e:eB H H')(h:jv K H a xs):jv K H' a xs:=by
 rcases h with (h|⟨o,h⟩)|h
 .exact .inl (.inl (e _ _ h))
 .exact .inl (.inr ⟨o,e _ _ h⟩)
 .exact .inr h
noncomputable def uq(d:List Str)(b a:Scope)(N:List Str)(c:List (Option Nat)):Bool:=
 a.kind==.function&&a.names.all (λy=>!(y.2==NameKind.cell)||a.names.lookup y.1==some .cell)&&a.names.all (λy=>!(y.2==NameKind.local)||a.names.lookup y.1==some .local) &&
 a.names.all (λy=>!(y.2==NameKind.free)||b.names.lookup y.1==some .cell)&&N.length==c.length &&
 (List.range N.length).all (λi=>match c[i]?,N[i]? with
  |some (some j),some x=>d[j]? == some x&&a.names.lookup x==some .free&&b.names.lookup x==some .cell
  |_,_=>true)
def Jk(q:∀x,X.env.scope.names.lookup x=some .cell->∃c,X.env.cells.lookup x=some c)(h:uq X.N X.env.scope scope N ix=true):vK X scope N ix:=by
 unfold uq at h;simp only[bL]at h;obtain⟨⟨⟨⟨⟨o,m⟩,k⟩,r⟩,n⟩,l⟩:=h;refine⟨by simpa using o,λy d e=>?_,λy d e=>?_,λy d e=>?_,by simpa using n,λi j x g s=>?_⟩
 .have:=cq.mp m y d;rw[e]at this;simpa using this
 .have:=cq.mp k y d;rw[e]at this;simpa using this
 .have:=cq.mp r y d;rw[e]at this;exact q _ (by simpa using this)
 .have p:=(aa.mp g).1;have:=cq.mp l i (aS.mpr p);rw[g,s]at this;simp only[bL,beq_iff_eq]at this;obtain⟨⟨a,b⟩,c⟩:=this;exact⟨a,b,.inr (.inl c),λz=>by have f:X.env.scope.names.lookup x=some .local:=z;rw[c]at f;cases f⟩
def CB(L:vK X scope N ix):∀x,(ju X N scope C s₃ H ex pn).env.scope.names.lookup x=some .cell->∃c,(ju X N scope C s₃ H ex pn).env.cells.lookup x=some c:=λx b=>by
 refine bH.mp (W.cellsFrom_some _ _ _ ?_);rcases nO (.inl b) with a|a
 .exact .inr (bH.mpr (km a (L.fre _ a rfl)))
 .exact .inl a
def qV{K:W.Frag}(b:ix[k]? = some none)(w:ix[l]? = some none):kM ix (zf K 2 (qi (fR k) (qi (fR l) zh))):=by
 rintro x m H Q ⟨a,g,d,f,o,v,r,t,c,p,u,h,q⟩;refine⟨a,g,d,f,o,v,r,t,c,p,u,h,λi j e=>?_,q⟩;have s:k≠i:=by rintro rfl;rw[b]at e;cases e
 have n:l≠i:=by rintro rfl;rw[w]at e;cases e
 rw[ar n,ar s]
end L2
namespace L2
open PySem PySem.Spec PyProof.Rows
structure iM(K:W.Frag)(C:Addr)(m qual:Str)(st:Stmt):Prop where
 ex:∃f fd,Dw K m qual st f fd/\FB K C m f
structure jq(P:Program)(w:World)(K:W.Frag)(mg:Str->Option Value)(base:Heap)(C:Addr)(m:Str)(k:Nat)(sp:Sp):Prop where
 cl:sh K C
 ex:∃f fd ps,jM P w K mg base mw k f fd ps sp/\FB K C m f/\ly K fd ps []
def yu{K:W.Frag}{st:Stmt}(n:sh K C)(D:iM K C m qual st)(S:eZ N ps (d8 st))
  (g:∀(kV d j:Vq) (o:Oq Addr) (a l:Vq) (us:List Vq),us.length=ps.length->bindArgs (W.fnOf m qual (fV st) (eU st) (d8 st) .none kV d j o a l) ⟨us,[]⟩=pure (ps.zip us))
  (e:∀vs H Q E,sp vs H Q E->vs.length=ps.length)
  (c:∀f a A b s H vs Q E,e8 k (A.deeper (envOfC qual (d8 st) s.heap.objs.size f a))->sp vs H Q E->
   ∃t,uI (jJ mw P w K mg base N qual (d8 st) f a A b s H E).nox (eU st) t/\t {nx:=λ_ i=>Q .non i,rt:=Q} (hZ N vs) H):jq P w K mg base C m (k+1) sp:=by
 obtain⟨f,h,F,m⟩:=D.ex;exact⟨n,f,h,ps,F.ok S e (c f),m,F.binds g⟩
structure zd(P:Program)(w:World)(K:W.Frag)(mg:Str->Option Value)(base:Heap)(x:Str)(C:Addr)(k:Nat)(sp:Sp):Prop where
 ex:∃f fd ps,jM P w K mg base mw k f fd ps sp/\Mk K C f/\ly K fd ps []
 mgx:mg x=some (.ref C)
section
variable {X:Cx}{x m:Str}{C:Addr}{k:Nat}{sp:Sp}{e o:Expr}{es:List Expr}{t:TA}{ta:TE}{p pos apos:Pos}
def JL(h:zd X.prog X.w X.K X.mg X.base x C k sp)(j:e8 (k+1) X.A)(l:PA X (e::es) t)(i:Gl X x:=by rfl)
  (c:(x==("__debug__" : Str))=false:=by decide) (g:starEach (e::es) X.env=(false,eval e X.env)::starEach es X.env:=by rfl) (d:(backTo pos (starEach es X.env)).any (·.1)=false:=by rfl) :
  PE X (.Call (.Name x p) (e::es) [] pos) (ye C sp [] E0 t):=by
 obtain⟨f,q,n,F,a,b⟩:=h.ex;exact Eb a F j i h.mgx b .nil Dk l c g d
def B6(h:jq X.prog X.w X.K X.mg X.base C m k sp)(g:e8 k X.A)(d:PE X o ta)
  (c:eval (.Call (.Attribute o m apos) [] [] pos) X.env=(do
   let ov <-eval o X.env
   standAt apos.atName
   let (f,first) <-holding [ov] (getMethod ov m pl)
   callWith pos f first (backTo pos (starEach [] X.env)) (backToKw pos (keywordEach [] X.env))):=by rfl) :
  PE X (.Call (.Attribute o m apos) [] [] pos) (sS C m sp [] E0 ta qa):=by
 obtain⟨f,j,i,F,a,b⟩:=h.ex;exact Ct d h.cl a F g b .nil Dk c
end
end L2
namespace L2
open PySem PySem.Spec PyProof.Rows
def C7(hN:X.N.Nodup)(hy:X.N[i]? = some y)(hx:zI X.env.scope y)
  (hc:X.calm=true) (hi:PI X tg iter wi) (L:vK X scope N ix) (t:kM ix g)
  (n:∀C c H r k,PG (ju X N scope C c H r k) tg g/\Ad (ju X N scope C c H r k) ifs tt/\PE (ju X N scope C c H r k) elt te)
  (hf:X.fn y=true\/X.env.scope.names.lookup y=some .local:=by first|exact .inl rfl|exact .inr rfl)
  (l:swapsWith (.ListComp elt [⟨tg,iter,ifs,0⟩] scope pos) (some (.Name y py)) spos.line X.env=pure true:=by rfl)
  (hs:∀x,foldedSetIterable iter X.env x=pure x:=by intro _;rfl):PS X (.Assign [.Name y py] (.ListComp elt [⟨tg,iter,ifs,0⟩] scope pos) spos) (jW (BZ ix wi g tt te) (fR i)):=by
 intro dU s u H D I h;rw[exec_Assign_Name_used _ _ _ _ l];refine aq (wpAny_standAt (aq ?_));rw[arm_evalThenUse_ListComp];refine aq (gj (wpAny_comprehension_free rfl hs (md L.fre) L.kind L.names (gj (hi dU s u H _ I h) λv s1 S=>gj S λR s2 K=>?_)) λ_ s' q=>ao (ao q));obtain⟨it,fp,tn,J,H2,e,I2,T,j,Y,W,⟨m0,B⟩,turn⟩:=K;subst e;refine ya (Q:=λx P=>fR i x u P D.nx) hc L t n I2 T j Y B turn λE0 C m U s' Z f I' q=>?_;refine wpAny_assign_Name (sR (v:=.ref E0) I' hN hy hx rfl (λs3 E p=>?_) hf);obtain⟨a,F,ha⟩:=p;have ne:C≠a:=by
  rcases ha with z|z
  .rw[z];exact f.2.1
  .exact λw=>f.2.2.2.2.1 y a z w.symm
 exact⟨m,Z.sameBut F ne,λh' d=>⟨_,U,E.turned (λb o A e=>d.extBut b o A e) f.1 f.2.1 f.2.2.2.1 f.2.2.2.2.1 f.2.2.2.2.2,q⟩⟩
end L2
namespace L2
open PySem PySem.Spec PyProof.Rows
def Gg(r:fw (kV k) u):(iC P w).is k u=true:=by
 cases k with
 |inl i=>obtain⟨t,e⟩:=(show ∃t,u=Value.int i t from r);subst e;exact v8 P w i t
 |inr x=>obtain⟨t,e⟩:=(show ∃t,u=Value.str x t from r);subst e;exact uM P w x t
theorem sg:∀{ks} {us},eS (ks.map kV) us->ItemsAre (iC P w) ks us
 |[],_,r=>by rw[bS]at r;cases r;exact .nil
 |k::ks,_,r=>by
  rw[bB]at r;cases r with
  |cons h t=>exact .cons (Gg h) (sg t)
section
variable {P:Program}{w:World}{H:Hp}{h:Heap}{a:Addr}
def wG(ok:l5 P w H h)(e:H a=some (.tup (ks.map kV))):(tupleKind (iC P w)).is h ks a:=by obtain⟨_,b,r,o,d,f,n,c,_⟩:=(show fK P w H h a (.tup (ks.map kV)) from ok a _ e);exact⟨o,b.toArray,n,d,f,c,by simpa using sg r⟩
end
section
variable {X:Cx}{dU:List (Addr×Obj)}{σ:St}{H:Hp}{s:Sq}{a:Addr}{y v:V}{u r:Vq}{o:Oq V}{A:Around}{E:Vq->Shared->Prop}
def eC.big(I:eC X dU σ H s):sysModules<s.heap.objs.size:=by have h:mainGlobals<s.heap.objs.size:=(I.mod.glob.keeps I.bk).lt;exact Nat.lt_trans (by decide) h
def yq(I:eC X dU σ H s)(d:Js (H a))(f:Heap.SameBut a s.heap h')(g:∃q,h'.get? a=some q)(new:fK X.prog X.w (e6 H a ob) h' a ob) :
  eC X dU σ (e6 H a ob) {s with heap:=h',toks:=t'}:=
 I.write (x:=a) (e:=a) d (.inl rfl) (λb q c z=>(f.2 b c).trans z) g new
end
end L2
namespace L2
open PySem PySem.Spec PyProof.Rows Builtin
section
variable {X:Cx}
def vY:V->Option Bool
 |.bl b=>some b
 |.int i=>some (i != 0)
 |_=>none
def jh:List V->Option (List Bool)
 |[]=>some []
 |v::vs=>(vY v).bind λb=>(jh vs).bind λr=>some (b::r)
theorem sN:∀{vs} {bs} {us} {i} {u},jh vs=some bs->eS vs us->us[i]? = some u->∃v,fw v u/\vY v=some (bs.getD i false)
 |[],_,_,_,_,_,.nil,e=>by simp at e
 |v::vs,bs,_,i,u,h,.cons r t,e=>by
  cases c:vY v with
  |none=>simp[jh,c]at h
  |some b=>
   cases d:jh vs with
   |none=>simp[jh,c,d]at h
   |some r'=>
    simp[jh,c,d]at h;subst h;cases i with
    |zero=>simp at e;subst e;exact⟨v,r,by simpa using c⟩
    |succ i=>obtain⟨f,a,g⟩:=sN d t (by simpa using e);exact⟨f,a,by simpa using g⟩
theorem sA:∀{vs} {bs},jh vs=some bs->vs.length=bs.length
 |[],_,h=>by cases h;rfl
 |v::vs,bs,h=>by
  cases a:vY v with
  |none=>simp[jh,a]at h
  |some b=>
   cases c:jh vs with
   |none=>simp[jh,a,c]at h
   |some r'=>simp[jh,a,c]at h;subst h;simp[sA c]
def qQ(h:jh vs=some bs)(r:eS vs us):TruthOf prog w A (λi v=>us.toArray[i]? = some v) (λi=>bs.getD i false):=λi u s Q E e a=>by
 obtain⟨v,d,c⟩:=sN h r (by simpa using e);dsimp only at a;cases v with
 |bl b=>
  cases d;have:b=bs.getD i false:=by simpa[vY] using c
  rw[<-this]at a;exact wpAny_truthy_bool a
 |int n=>
  obtain⟨t,rfl⟩:=d;have:(n != 0)=bs.getD i false:=by simpa[vY] using c
  rw[<-this]at a;exact PyProof.Rows.truthy_int a
 |_=>simp[vY]at c
def zx(n:X.calm=true):iS X (.builtin "any") (λm H Q=>∃p vs bs,m=[.ref p]/\(iY X.K H p vs\/jv X.K H p vs)/\jh vs=some bs/\Q (.bl (bs.any id)) H):=by
 intro D s C H m E Q I r h;obtain⟨p,vs,bs,rfl,j,d,q⟩:=h;obtain⟨u,rfl,y⟩:=pb r;cases y;have B:=sA d;rcases j with j|j
 .obtain⟨a,g,f,v⟩:=I.list j;have t:=g.length;have c:p<s.heap.objs.size:=by obtain⟨_,e,_⟩:=f.isList;exact aL e
  refine call_any_walk (wpAny_pyIter_list f.isList ⟨s.heap.objs.size,_,_,_,_,_,λi=>bs.getD i false,rfl,Walks.list (A:=X.A.in1) (I.ok.hd n) _ p (aM c) _,⟨⟨_,au _ rfl,rfl,rfl⟩,f.isList.push _⟩,qQ d g,λx w k=>?_⟩);refine⟨.bl _,H,I.kept (λb o e=>k b o (λl=>?_) (ae _ e)),rfl,?_⟩
  .have lt:=aL e;have z:b=s.heap.objs.size:=by simpa using l
   rw[z]at lt;exact a9 _ lt
  .rw[<-sv]at q;have:a.toArray.size=bs.length:=by rw[bz];omega
   rw[this];exact q
 .obtain⟨a,g,f,v⟩:=I.tuple j;have t:=g.length;have c:p<s.heap.objs.size:=by obtain⟨_,e,_⟩:=f;exact aL e
  have pt:=f;refine call_any_walk (wpAny_pyIter_tuple pt ⟨s.heap.objs.size,_,_,_,_,_,λi=>bs.getD i false,rfl,Walks.tuple (A:=X.A.in1) (I.ok.hd n) _ p (aM c) _,⟨⟨_,au _ rfl,rfl,rfl⟩,pt.push _⟩,qQ d g,λx w k=>?_⟩);refine⟨.bl _,H,I.kept (λb o e=>k b o (λl=>?_) (ae _ e)),rfl,?_⟩
  .have lt:=aL e;have z:b=s.heap.objs.size:=by simpa using l
   rw[z]at lt;exact a9 _ lt
  .rw[<-sv]at q;have:a.toArray.size=bs.length:=by rw[bz];omega
   rw[this];exact q
end
end L2
namespace L2
open PySem PySem.Spec PyProof.Rows
section
variable {prog:Program}{w:World}{A:Around}{E:Vq->Shared->Prop}{s:Sq}
def zD{i:Nat}{Q:Vq->Shared->Prop}(D:IsEnum s.heap e it i old)(hi:iW b s.heap it l i)(hl:fZ b s.heap l xs)(h:e≠it)
  (t:∀x h',xs[i]? = some x->IsEnumOut h' e it ((i:Int)+1) x s.heap.objs.size->iW b h' it l (i+1)->h'.get? s.heap.objs.size=some {cls:=.type "tuple",data:=.seq #[.int i s.toks,x]}->h'.objs.size=s.heap.objs.size+1->
   (∀c o,c≠e->c≠it->s.heap.get? c=some o->h'.get? c=some o)->Q (.ref s.heap.objs.size) {s with heap:=h',toks:=s.toks+1})
  (Y:xs[i]? = none->A.handled=none/\∀h' x,Heap.ExtBut it s.heap h'->(∃o,h'.get? x=some o/\o.cls=.type "StopIteration")->E (.ref x) {s with heap:=h'}) :
  wpAny (model prog w) A (Builtin.«enumerate.__next__» ⟨[.ref e],[]⟩) (λy s'=>∃v,y=.done (.ret v)/\Q v s') E s:=by
 obtain⟨J,g,d,L,os⟩:=s;show wpAny _ _ (field (.ref e) 2 >>= λ_=>_) _ _ _;refine aq (wpAny_field D rfl rfl (aq (qc hi hl (λx g1 hx t1 k1=>?_) Y)));have j:=k1;have r:=(j.2 e h).trans D;refine aq (wpAny_field r rfl rfl ?_);refine aq (wpAny_field r rfl rfl ?_);refine aq (wpAny_mkInt (aq (wpAny_setField_rec r (by simp) λg2 X C=>?_)));have z2:=X;refine aq (wpAny_setField_rec z2 (by simp) λk y3 p=>?_);have U:=y3;refine aq (wpAny_newTuple ?_);have sz:k.objs.size=J.objs.size:=by have a:=p.1;have c:=C.1;have u:=j.1;dsimp only at a c u;omega
 have F:IsEnum (k.push {cls:=.type "tuple",data:=.seq #[.int i L,x]}) e it (i+1) old:=ae _ U;have el:=aL D;have B:∀c o,c≠e->c≠it->J.get? c=some o->k.get? c=some o:=λc o f z q=>p.extBut c o f (C.extBut c o f (j.extBut c o z q));unfold Builtin.SmallTypes.ownedTupleIsFree;refine aq (aq (wpAny_field F rfl rfl (ao ?_)));simp only[if_true];refine aq (wpAny_rule (aq (wpAny_field F rfl rfl (aq (wpAny_setField_rec F (by simp) λg5 y5 K=>?_)))));have z5:=y5;unfold Builtin.SmallTypes.ownedTupleHandOut;refine aq (aq (wpAny_setField_rec z5 (by simp) λg6 y6 R=>?_));have Z:=y6;refine wpAny_setField_rec Z (by simp) λn S H=>?_;have N:=S;have up:∀c o,c≠e->(k.push {cls:=.type "tuple",data:=.seq #[.int i L,x]}).get? c=some o->n.get? c=some o:=λc o f q=>H.extBut c o f (R.extBut c o f (K.extBut c o f q));have m:∀c o,c≠e->k.get? c=some o->n.get? c=some o:=λc o f q=>up c o f (ae _ q);have I:=up _ _ (by rw[sz];exact br el) (au _ rfl);have P:n.objs.size=k.objs.size+1:=by have a:=H.1;have c:=R.1;have u:=K.1;dsimp only at a c u;rw[Heap.size_push]at u;omega
 refine aq (wpAny_letGo (ao ⟨_,rfl,?_⟩));rw[sz]at N I P ⊢;exact t x n hx N (t1.to λo q=>m it o (Ne.symm h) (p.extBut it o (Ne.symm h) (C.extBut it o (Ne.symm h) q))) I P λc o f z q=>m c o f (B c o f z q)
def sq{i:Nat}(g:IsEnum s.heap e it i old)(m:iW b s.heap it l i)(t:fZ b s.heap l xs)(d:e≠it)
  (a:∀x h',xs[i]? = some x->IsEnumOut h' e it ((i:Int)+1) x s.heap.objs.size->iW b h' it l (i+1)->h'.get? s.heap.objs.size=some {cls:=.type "tuple",data:=.seq #[.int i s.toks,x]}->h'.objs.size=s.heap.objs.size+1->
   (∀c o,c≠e->c≠it->s.heap.get? c=some o->h'.get? c=some o)->Q (some (.ref s.heap.objs.size)) {s with heap:=h',toks:=s.toks+1})
  (f:xs[i]? = none->A.handled=none/\∀h',Heap.ExtBut it s.heap h'->Q none {s with heap:=h'}):wpAny (model prog w) A (pyNext (.ref e)) Q E s:=by
 have ty:s.TypeIs (.ref e) "enumerate" :=⟨_,g,rfl⟩;unfold pyNext;refine aq (wpAny_attempt (wpAny_callSpecial?_slot ty F.slot_enumerate_next (wpAny_call_entry F.slot_enumerate_next ty F.entry_enumerate_next
  (zD g m t d (λx h' n r p h j k=>ao (a x h' n r p h j k)) λq=>⟨(f q).1,λh' x hk ⟨o,ho,hc⟩=>?_⟩) (F.args_enumerate_next_1 _))))
 exact aq (wpAny_isInstance ⟨o,ho,hc⟩ isSubtype_stop (ao ((f q).2 h' hk)))
noncomputable abbrev eo(b:Bool)(l:Addr):Obj:={cls:=.type (pZ b),data:=.fields #[.ref l,.int 0 0]}
abbrev en(p:Addr):Obj:={cls:=.type "enumerate",data:=.fields #[.none,.bool false,.ref p,rawInt 0,.none,.none]}
def xj b l xs:Meets (Builtin.«enumerate.__new__» ⟨[.type "enumerate",.ref l],[]⟩) (λ_ R s=>fZ b s.heap l xs/\
  R (.ok (.ret (.ref (s.heap.push (eo b l)).objs.size))) {s with heap:=(s.heap.push (eo b l)).push (en s.heap.objs.size)}):=by
 refine .of_wp λprog w A R s h=>?_;obtain⟨p,g,d,q,j⟩:=s;obtain⟨i,e⟩:=h;have f:=sub_enumerate;have a:=i;obtain⟨o,n,m,r⟩:=a.look;wp_walk using kr a;refine wpAny_stack_any λk=>ao ?_;split
 .rename_i c _ _ _ _ _;cases (c==Value.type "enumerate")
  .wp_walk using kr a;exact⟨_,rfl,e⟩
  .wp_walk using kr a;exact⟨_,rfl,e⟩
 .wp_walk using kr a;exact⟨_,rfl,e⟩
def Ap(f:fZ b s.heap l xs)
  (h:∀h',IsEnum h' (s.heap.objs.size+1) s.heap.objs.size 0 .none->iW b h' s.heap.objs.size l 0->h'.objs.size=s.heap.objs.size+2->(∀c o,s.heap.get? c=some o->h'.get? c=some o)->Q (.ref (s.heap.objs.size+1)) {s with heap:=h'}) :
  wpAny (model prog w) A (call (.type "enumerate") [.ref l]) Q E s:=by
 refine callType_new F.called_enumerate (by decide) (F.typeCall_enumerate_1 _) (F.newCall_enumerate_1 _) (λe=>F.args_object_init_2 e _) F.entry_enumerate_new (xj b l xs) ⟨f,?_⟩;have d:(s.heap.push (eo b l)).objs.size=s.heap.objs.size+1:=Heap.size_push ..;have a:=au (s.heap.push (eo b l)) (o:=en s.heap.objs.size) rfl;rw[d]at a;rw[d];exact⟨⟨_,a,rfl⟩,h _ a (.of ⟨_,ae _ (au _ rfl),rfl,rfl⟩) (by rw[Heap.size_push,d]) λc o q=>ae _ (ae _ q)⟩
end
noncomputable def KO(K:W.Frag)(b:Bool)(l:Addr):It:=
  ⟨λi H=>∃a x,rj K H b l a/\a[i]? = some x,
   λi H v c=>∃p x,v=.ref p/\H p=none/\c=e6 H p (.tup [.int i,x])/\∀a,rj K H b l a->a[i]? = some x,
   λi H=>∃a,rj K H b l a/\a.length<=i⟩
def za{K:W.Frag}{x1}(r:e≠it) :
  xJ P w K (.Tuple elts x1 pos) (KO K b l) [e,it] e (λi h=>(∃a,IsEnum h e it i a)/\iW b h it l i) where
 mem:=by simp
 obj:=λi h j c F=>by
  obtain⟨⟨a,g⟩,m⟩:=j;have mem:c=e\/c=it:=by simpa using F
  rcases mem with rfl|rfl
  .exact⟨_,g,λv q=>by cases q⟩
  .obtain⟨o,q,_,d⟩:=m.look;exact⟨o,q,λv q'=>by rw[d]at q';cases q'⟩
 keep:=λi h Q j k=>by obtain⟨⟨a,g⟩,m⟩:=j;exact⟨⟨a,k e (by simp) _ g⟩,m.to λo q=>k it (by simp) o q⟩
 item:=by
  intro X S hw U F i dU s σ H E I J j N;subst S hw U;obtain⟨⟨a,g⟩,m⟩:=j;obtain⟨xs,x,C,Z⟩:=N;obtain⟨B,L,R,z1⟩:=I.seqB C;obtain⟨u,gu,ru⟩:=L.get Z;have t:=I.fpOk (aK _) (I.hok.fresh (aK _));refine sq g m R r (λy Q p a1 a2 a3 a4 D=>?_) λq=>?_
  .have eu:y=u:=by
    have:B[i]? = some y:=by simpa using p
    rw[gu]at this;cases this;rfl
   subst eu;refine⟨_,rfl,wpAny_letOwnedTupleGo_enum a1 λY A sb=>?_⟩;have n:=sb;have zT:=br (aL g);have I1:=I.turnedL (t':=s.toks+1) (λb o f q=>n.extBut _ _ (λz=>f (by simp[z])) (D b o (λz=>f (by simp[z])) (λz=>f (by simp[z])) q)) (λb f=>J b f);have gT:=n.extBut _ _ zT a3;have I2:eC X dU σ (e6 H s.heap.objs.size (.tup [.int i,x])) {s with heap:=Y,toks:=s.toks+1}:=I1.track t.1 t.2.2.2.1 t.2.1 t.2.2.2.2.1 t.2.2.2.2.2
    ⟨by show 2<=sizeLine;decide,[.int i s.toks,y],.cons ⟨_,rfl⟩ (.cons ru .nil),⟨_,gT,rfl,_,rfl,rfl⟩⟩
   have lt:∀{b o},s.heap.get? b=some o->e6 H s.heap.objs.size (.tup [.int i,x]) b=H b:=λ{b o} q=>eA (aM (aL q));refine⟨.ref s.heap.objs.size,_,I2,rfl,⟨_,x,rfl,t.1,rfl,λxs' h=>by rw[I.seqB_inj h C];exact Z⟩,?_,λb f=>?_⟩
   .exact⟨⟨_,A⟩,a2.to λo q=>n.extBut _ o (Ne.symm r) q⟩
   .have mem:b=e\/b=it:=by simpa using f
    have hn:=(J b f).1;obtain⟨o1,g1,_⟩:=m.look;rcases mem with rfl|rfl
    .rw[lt g];exact hn
    .rw[lt g1];exact hn
  .exfalso;have m1:B.toArray[i]? = some u:=by simpa using gu
   rw[m1]at q;cases q
 done:=by
  intro X S hw U F i dU s σ H E I J j N;subst S hw U;obtain⟨⟨a,g⟩,m⟩:=j;obtain⟨xs,C,hl⟩:=N;obtain⟨B,L,R,z1⟩:=I.seqB C;have n1:=L.length;refine sq g m R r (λy Q p a1 a2 a3 a4 D=>?_) λq=>⟨I.ok.hd F,λQ D=>⟨rfl,I.turnedL (ch:=[it]) (λb o f q=>D b o (λz=>f (by simp[z])) q) λb f=>J b (by
   have:b=it:=by simpa using f
   simp[this])⟩⟩
  exfalso;have m1:i<B.length:=by
   have:B[i]? = some y:=by simpa using p
   exact (aa.mp this).1
  omega
 self:=λ_ _ _ _ _ j h=>by obtain⟨⟨a,g⟩,_⟩:=j;exact wpAny_pyIter_enum g h
section
variable {X:Cx}
def CG(K:W.Frag)(b:Bool)(f:TA):TI:=λd H R=>f d H λe a=>∃l,e=[.ref l]/\(∃c,rj K a b l c)/\R (KO K b l) a
def Dh{x1}(k:Gl X "enumerate")(y:X.mg "enumerate" = none)(r:PA X [a] ta)(v:starEach [a] X.env=[(false,eval a X.env)]:=by rfl) :
  PI X (.Tuple elts x1 tpos) (.Call (.Name "enumerate" p) [a] [] pos) (CG X.K b ta):=by
 intro x s w H R I h;refine Call_ (mP I k y boot_enumerate (PyProof.Rows.callWith_type1 (gj (r pos x s w H _ I h) λz s1 ⟨vs,H1,I1,r1,c⟩=>?_) v rfl));obtain⟨l,rfl,⟨A,c⟩,q⟩:=c;obtain⟨u,rfl,t⟩:=pb r1;cases t;obtain⟨z,j,n,_⟩:=I1.seqB c;refine Ap n λB f o m i=>?_;refine wpAny_pyIter_enum f ?_;refine⟨_,_,_,_,H1,rfl,I1.kept i,za (Nat.succ_ne_self _),⟨⟨_,f⟩,o⟩,λb g=>?_,q⟩;have d:b=s1.heap.objs.size+1\/b=s1.heap.objs.size:=by simpa using g
 have e:s1.heap.objs.size<=b:=by rcases d with rfl|rfl<;>omega
 exact I1.fpOk e (I1.hok.fresh e)
end
end L2
namespace HT
open PySem PySem.Spec PyProof.Rows
section
variable {prog:Program}{w:World}{A:Around}{E:Vq->Shared->Prop}{s:Sq}
def getItem_tuple_all{a d:Oq Int}(b:IsTup s.heap t items)(i:s.heap.IsSliceOf sl vl vu .none)(j:IsPart vl a)(m:IsPart vu d)
  (hw:sIx items.size 0 a=0/\sIx items.size items.size d=items.size) (h:Q (.ref t) s):wpAny (model prog w) A (getItem (.ref t) (.ref sl)) Q E s:=by
 obtain⟨k,g,e,l⟩:=id i;have f:s.TypeIs (.ref sl) "slice" :=⟨k,g,e⟩;unfold getItem;try with_reducible refine wpAny_holding ?_;first|refine aq (ao ?_)|skip
 refine aq (wpAny_sequenceKey b.typeIs (by decide) ?_);refine aq (wpAny_callSpecial?_slot b.typeIs PyProof.Rows.slot_tuple_getitem
  (wpAny_call_entry PyProof.Rows.slot_tuple_getitem b.typeIs entry_tuple_getitem ?_ (args_tuple_getitem _ _)))
 show wpAny _ _ (Builtin.Tuple.tupleItemsOf (.ref t) >>= _) _ _ s;refine aq (tupleItemsOf_ b ?_);refine aq (wpAny_typeOf f ?_);rw[aQ (by decide)];refine aq (kv i j m ?_);have c:(((sIx items.size 0 a):Int)==0&&(1:Int)==1&&(sIx items.size items.size d-sIx items.size 0 a)==items.size)=true:=by rw[hw.1,hw.2];simp
 show wpAny _ _ (if (((sIx items.size 0 a):Int)==0&&1==1&&(sIx items.size items.size d-sIx items.size 0 a)==items.size)=true then _ else _) _ _ s;rw[aQ c];refine aq (aq (wpAny_typeOf b.typeIs (ao ?_)));rw[aQ (by decide)];refine aq (wpAny_rule ?_);exact ao ⟨_,rfl,ao h⟩
end
end HT
namespace L2
open PySem PySem.Spec PyProof.Rows
section
variable {X:Cx}
def JZ(K:W.Frag):V->Option Int->Option Int->Hp->VK->Prop:=λx c d H Q=>∃a b,x=.ref a/\jv K H a b/\(HT.sIx b.length 0 c=0/\HT.sIx b.length b.length d=b.length)/\Q (.ref a) H
def Fc:FX X (JZ X.K):=by
 intro w s t H x v m u p o l Q I g j e f h;obtain⟨a,d,rfl,k,hw,q⟩:=h;cases g;obtain⟨b,r,c,n⟩:=I.tuple k;have i:b.toArray.size=d.length:=by rw[bz];exact r.length.symm
 refine⟨"tuple",_,PyProof.Rows.slot_tuple_getitem.lookup,c.typeIs,?_⟩;exact HT.getItem_tuple_all c j e f (by rw[i];exact hw) ⟨.ref a,H,I,rfl,q⟩
end
end L2
namespace L2
open PySem PySem.Spec PyProof.Rows
section
variable {prog:Program}{w:World}{A:Around}{E:Vq->Shared->Prop}{s:Sq}{d it:Addr}{es:Array DictEntry}{ep i:Nat}
def nJ(h:Heap)(d:Addr)(es:Array DictEntry)(ep:Nat):Prop:=∃o,h.get? d=some o/\o.ExactDict/\o.data=.dict es ep
def nJ.to(x:nJ h d es ep)(k:∀o,h.get? d=some o->h'.get? d=some o):nJ h' d es ep:=let ⟨o,a,r⟩:=x;⟨o,k o a,r⟩
def nJ.lt(x:nJ h d es ep):d<h.objs.size:=let ⟨_,a,_⟩:=x;aL a
def nJ.ty(x:nJ s.heap d es ep):s.TypeIs (.ref d) "dict" :=let ⟨o,a,c,_⟩:=x;⟨o,a,c.1⟩
def AQ(e:(d==sysModules)=false)(x:nJ s.heap d es ep)
  (q:Q (.ref s.heap.objs.size) {s with heap:=s.heap.push {cls:=.type "dict_keyiterator",data:=.fields #[.ref d,.int 0 0,.int es.size 0,.int ep 0]}}):wpAny (model prog w) A (pyIter (.ref d)) Q E s:=by
 obtain⟨o,a,c,b⟩:=id x;refine wpAny_pyIter_slot x.ty F.slot_dict_iter (wpAny_call_entry F.slot_dict_iter x.ty F.entry_dict_iter ?_ (F.args_dict_iter_1 _));unfold Builtin.«dict.__iter__»;refine aq ?_;unfold Builtin.Dict.dictSlotNone;refine aq (wpAny_notOrdered_dict x.ty ?_);show wpAny _ _ (pure (Value.ref d)) _ _ s;refine ao ?_;show wpAny _ _ (Builtin.Dict.showsAll d >>= λ_=>_) _ _ s;unfold Builtin.Dict.showsAll;rw[aR (by rw[e];exact λz=>nomatch z)];refine aq (ao (aq (wpAny_dictEntries a b (aq (wpAny_dictEpoch a b ?_)))));refine aq (wpAny_newObj_type (ao ⟨_,rfl, "dict_keyiterator",_,⟨_,au _ rfl,rfl⟩,F.slot_dict_keyiterator_next.lookup,?_⟩));simpa[rawInt] using q
def HE(j:s.heap.IsKeyIter it d i es.size ep)(x:nJ s.heap d es ep) hi
  (q:∀h',h'.IsKeyIter it d (i+1) es.size ep->Heap.SameBut it s.heap h'->Q (some es[i].key) {s with heap:=h'}):wpAny (model prog w) A (pyNext (.ref it)) Q E s:=by
 obtain⟨o,a,c,b⟩:=id j;obtain⟨l,h,k,g⟩:=id x;have e:Builtin.Dict_items.ownsTuple "dict_keyiterator" = false:=by decide
 unfold pyNext;refine aq (wpAny_attempt (wpAny_callSpecial?_slot j.typeIs F.slot_dict_keyiterator_next (wpAny_call_entry F.slot_dict_keyiterator_next j.typeIs F.entry_dict_keyiterator_next ?_ (F.args_dict_keyiterator_next_1 _))));refine aq (ao (aq (aq ?_)));first|refine aq (wpAny_typeNameOfWhole_keyiter j.typeIs (ao (aq (wpAny_fieldsOf a b ?_))))|refine aq (wpAny_typeNameOf_keyiter j.typeIs (ao (aq (wpAny_fieldsOf a b ?_))))
 simp only[e,bV,if_false];show wpAny _ _ (if (Value.ref d==Value.none)=true then _ else _) _ _ s;rw[aR (λz=>nomatch z)];refine aq (ao (aq (wpAny_dictEntries h g ?_)));rw[aR (by simp)];refine aq (ao (aq (wpAny_dictEpoch h g ?_)));rw[aR (by simp)];refine ao ?_;simp only[show ¬(i<0) from by omega,if_false,bJ,Array.getElem?_eq_getElem hi];refine aq ?_;first|refine aq (wpAny_typeNameOfWhole_keyiter j.typeIs (ao (aq (wpAny_isOneOf_keyiter j.typeIs ?_))))|refine aq (wpAny_typeNameOf_keyiter j.typeIs (ao (aq (wpAny_isOneOf_keyiter j.typeIs ?_))))
 show wpAny _ _ (setField (.ref it) 1 (rawInt (i+1)) >>= λ_=>_) _ _ s;refine aq (wpAny_setField a b (by simp) ?_);have f:(s.heap.update it (Obj.mapFields (·.setIfInBounds 1 (rawInt (i+1))))).IsKeyIter it d (i+1) es.size ep:=⟨_,Heap.get?_update_self _ a (Obj.isFreed_of_fields (Obj.data_mapFields b _)),(Obj.cls_mapFields ..).trans c,by rw[Obj.data_mapFields b];simp[rawInt]⟩
 refine aq (wpAny_holding (aq (wpAny_isOneOf_keyiter f.typeIs ?_)));exact ao (ao ⟨_,rfl,ao (q _ f (Heap.SameBut.update ..))⟩)
def FH(h:A.handled=none)(j:s.heap.IsKeyIter it d es.size es.size ep)(x:nJ s.heap d es ep)(q:∀h',Heap.ExtBut it s.heap h'->Q none {s with heap:=h'}) :
  wpAny (model prog w) A (pyNext (.ref it)) Q E s:=by
 obtain⟨o,a,c,e⟩:=id j;obtain⟨l,g,k,f⟩:=id x;have b:Builtin.Dict_items.ownsTuple "dict_keyiterator" = false:=by decide
 unfold pyNext;refine aq (wpAny_attempt (wpAny_callSpecial?_slot j.typeIs F.slot_dict_keyiterator_next (wpAny_call_entry F.slot_dict_keyiterator_next j.typeIs F.entry_dict_keyiterator_next ?_ (F.args_dict_keyiterator_next_1 _))));refine aq (ao (aq (aq ?_)));first|refine aq (wpAny_typeNameOfWhole_keyiter j.typeIs (ao (aq (wpAny_fieldsOf a e ?_))))|refine aq (wpAny_typeNameOf_keyiter j.typeIs (ao (aq (wpAny_fieldsOf a e ?_))))
 simp only[b,bV,if_false];show wpAny _ _ (if (Value.ref d==Value.none)=true then _ else _) _ _ s;rw[aR (λz=>nomatch z)];refine aq (ao (aq (wpAny_dictEntries g f ?_)));rw[aR (by simp)];refine aq (ao (aq (wpAny_dictEpoch g f ?_)));rw[aR (by simp)];refine ao ?_;simp only[show ¬(es.size<0) from by omega,if_false,bJ,Array.getElem?_eq_none (aK es.size)];refine aq ?_;first|refine aq (wpAny_typeNameOfWhole_keyiter j.typeIs (ao ?_))|refine aq (wpAny_typeNameOf_keyiter j.typeIs (ao ?_))
 show wpAny _ _ (setField (.ref it) 0 .none >>= λ_=>_) _ _ s;refine aq (wpAny_setField a e (by simp) ?_);refine aq ?_;simp only[newExc,newTuple];refine aq (wpAny_newObj_type ?_ (by size_fits));refine aq (wpAny_of_eq (by first|rfl|(simp only[firstArgMember];rfl)) ?_);refine wpAny_newObj_type ?_ (by size_fits);simp only[raiseNew];refine aq (wpAny_handled ?_);rw[show A.in1.handled=none from h];refine aq (ao (wpAny_throw ?_));refine aq (wpAny_isInstance ⟨_,au _ rfl,rfl⟩ isSubtype_stop ?_);exact ao (q _ (((Heap.SameBut.update ..).extBut.push _).push _))
def zR(g:A.handled=none) I d (ne:d≠I) es ep :
  Walks prog w A I [I,d] [I] es.size (λi v=>∃e,es[i]? = some e/\v=e.key) (λi h=>h.IsKeyIter I d i es.size ep/\nJ h d es ep) where
 sub:=λb a=>by simp at a;simp[a]
 frame:=λ_ _ _ x k=>⟨x.1.at λo e=>k I (by simp) o e,x.2.to λo e=>k d (by simp) o e⟩
 item:=λi s Q E f x q=>HE x.1 x.2 f λc j k=>q _ c s.toks ⟨es[i],by simp[f],rfl⟩ ⟨j,x.2.to λo e=>k.extBut d o ne e⟩ λb o a e=>k.extBut b o (λz=>a (by simp[z])) e
 done:=λs Q E x q=>FH g x.1 x.2 λc k=>q c s.toks λb o a e=>k b o (λz=>a (by simp[z])) e
 self:=λ_ _ _ _ x q=>wpAny_pyIter_keyiter x.1 q
def yf(a:(d==sysModules)=false):W.KdlSrc prog w "dict" d d es.size (λi v=>∃e,es[i]? = some e/\v=e.key) (λh=>nJ h d es ep) where
 type:=λ_ x=>x.ty
 there:=λ_ x=>⟨x.lt,x.lt⟩
 keep:=λ_ _ x k=>x.to λo e=>k d (.inl rfl) o e
 notList:=by decide
 notTuple:=by decide
 hint:=λ_ _ _ _ x q=>W.kdl_hint_dict x.ty q
 iter:=λ_ _ b x=>⟨_,_,(λ_ _ q=>AQ a x q),zR b _ d (aM x.lt) es ep,⟨⟨_,au _ rfl,rfl,rfl⟩,x.to λo e=>ae _ e⟩⟩
end
theorem pA:∀{xs} {us},xs.length=us.length->(∀(i:Nat) v,us[i]? = some v->∃x,xs[i]? = some x/\fw x v)->eS xs us
 |[],[],_,_=>.nil
 |x::xs,u::us,hl,h=>by obtain⟨b,e,r⟩:=h 0 u rfl;simp at e;subst e;exact .cons r (pA (by simpa using hl) λi v a=>by simpa using h (i+1) v (by simpa using a))
theorem ki{F:α->β->Prop}:∀{l:List α} {m:List β} {i:Nat} {a:α},Paired F l m->l[i]? = some a->∃b,m[i]? = some b/\F a b
 |_::_,_::_,0,_,.cons h _,e=>by simp at e;subst e;exact⟨_,rfl,h⟩
 |_::_,_::_,i+1,_,.cons _ r,e=>by simpa using ki r (by simpa using e)
end L2
namespace L2
open PySem PySem.W PyProof.Rows
section
variable {lt:Nat->Nat->Bool}{n:Nat}{α β:Type}
def og(lt:Nat->Nat->Bool)(n:Nat):KasT α->(α->Prop)->Prop
 |.ret a,Q=>Q a
 |.ask i j k,Q=>i<n/\j<n/\og lt n (k (lt i j)) Q
theorem jA{f:α->KasT β}{Q:β->Prop}:∀{t:KasT α},og lt n t (λa=>og lt n (f a) Q)->og lt n (t.bind f) Q
 |.ret _,h=>h
 |.ask i j k,h=>⟨h.1,h.2.1,jA (t:=k (lt i j)) h.2.2⟩
theorem yO{s:Sq}{b:Nat->Nat->(Bool->Shared->Prop)->Shared->Prop}(c:∀i j C,i<n->j<n->C (lt i j) s->b i j C s){Q:α->Shared->Prop}:∀{t:KasT α},og lt n t (λa=>Q a s)->t.kasWp b Q s
 |.ret _,h=>h
 |.ask i j k,h=>c i j _ h.1 h.2.1 (yO c (t:=k (lt i j)) h.2.2)
structure pX(lt:Nat->Nat->Bool):Prop where
 tr:∀{a b c},lt b a=false->lt c b=false->lt c a=false
 as:∀{a b},lt a b=true->lt b a=false
def pX.ir(o:pX lt)(a:Nat):lt a a=false:=by
 cases h:lt a a with
 |false=>rfl
 |true=>have:=o.as h;rw[h]at this;exact this
abbrev si(n:Nat)(p:Array Nat):Prop:=p.Perm (List.range n).toArray
def jO{p:Array Nat}(h:si n p):p.size=n:=by rw[h.size_eq];simp
def jY{p:Array Nat}(h:si n p)(a:0<n)(i:Nat):p.getD i 0<n:=by
 rw[cu];cases e:p[i]? with
 |none=>exact a
 |some v=>have:v∈(List.range n).toArray:=h.mem_iff.mp (Array.mem_of_getElem? e);simpa using this
def nB{p:Array Nat}{i j:Nat}(a:j<=p.size)(k:Nat):(kas_rev p i j).getD k 0=if i<=k/\k<j then p.getD (i+j-1-k) 0 else p.getD k 0:=by unfold kas_rev;rw[cu,getElem?_mirror_all a];split<;>rw[cu]
def AW{p:Array Nat}{k l:Nat}(c:k<p.size)(d:l<=k)(i:Nat):(bubble p k (k-l)).getD i 0=if i=l then p.getD k 0 else if l<i/\i<=k then p.getD (i-1) 0 else p.getD i 0:=by
 rw[cu,getElem?_bubble c _ (by omega),show k-(k-l)=l by omega];by_cases a:i=l
 .rw[aQ a,aQ a,cu]
 .rw[aR a,aR a];by_cases b:l<i/\i<=k
  .rw[aQ b,aQ b,cu]
  .rw[aR b,aR b,cu]
def qP{p:Array Nat}(h:si n p)(i j:Nat):si n (kas_rev p i j):=(mirror_perm _ _ _ _).trans h
def BQ(lt:Nat->Nat->Bool)(p:Array Nat)(m:Nat):Prop:=∀i j,i<j->j<m->lt (p.getD j 0) (p.getD i 0)=false
def Ki(lt:Nat->Nat->Bool)(p:Array Nat)(m:Nat):Prop:=∀i j,i<j->j<m->lt (p.getD i 0) (p.getD j 0)=false
def Kt(lt:Nat->Nat->Bool)(p:Array Nat)(m q:Nat):Prop:=∀i j,m<=i+(q+1)->i<m->m<=j+(q+1)->j<m->lt (p.getD i 0) (p.getD j 0)=false
theorem tO(o:pX lt)(k:0<n){p:Array Nat}(l:si n p){Q:Nat->Prop}:∀f m,1<=m->BQ lt p m->(∀g,m<=g->g<=m+f->BQ lt p g->(g<m+f->lt (p.getD g 0) (p.getD (g-1) 0)=true)->Q g)->og lt n (kas_asc p f m) Q
 |0,m,_,hu,q=>q m (aK _) (aK _) hu λh=>absurd h (a9 _)
 |f+1,m,h1,hu,q=>by
  refine⟨jY l k _,jY l k _,?_⟩;cases e:lt (p.getD m 0) (p.getD (m-1) 0) with
  |true=>exact q m (aK _) (b9 _ _) hu λ_=>e
  |false=>
   refine tO o k l f (m+1) (by omega) (λi j r u=>?_) λg a b c d=>q g (by omega) (by omega) c λh=>d (by omega);by_cases t:j<m
   .exact hu i j r t
   .obtain rfl:j=m:=by omega
    by_cases s:i=j-1
    .rw[s];exact e
    .exact o.tr (hu i (j-1) (by omega) (by omega)) e
theorem m8(o:pX lt)(t:0<n){Q:Array Nat×Nat×Nat->Prop}:∀f p m q,si n p->1<=m->m+f<=n->q<m->Ki lt p m->Kt lt p m q->
  (∀g l s,si n g->m<=l->l<=m+f->s<l->Ki lt g l->Kt lt g l s->Q (g,l,s))->og lt n (kas_desc f p m q) Q
 |0,p,m,q,hp,_,_,hq,hd,he,w=>w p m q hp (aK _) (aK _) hq hd he
 |f+1,p,m,q,hp,h1,hf,hq,hd,he,w=>by
  have one:∀g:Array Nat,Kt lt g (m+1) 0:=λg i j a b c d=>by
   obtain rfl:i=m:=by omega
   obtain rfl:j=i:=by omega
   exact o.ir _
  have r:∀i,i<m->lt (p.getD (m-1) 0) (p.getD m 0)=false->lt (p.getD i 0) (p.getD m 0)=false:=λi A e=>by
   by_cases h:i=m-1
   .rw[h];exact e
   .exact o.tr e (hd i (m-1) (by omega) (by omega))
  refine⟨jY hp t _,jY hp t _,?_⟩;cases e:lt (p.getD m 0) (p.getD (m-1) 0) with
  |true=>
   have y:=o.as e;simp only[if_true];by_cases v:q>0
   .rw[aQ v];have z:=nB (p:=p) (i:=m-(q+1)) (j:=m) (by rw[jO hp];omega);refine m8 o t f _ (m+1) 0 (qP hp _ _) (by omega) (by omega) (by omega) (λi j k u=>?_) (one _) λg l s a b c d=>w g l s a (by omega) (by omega) d;rw[z i,z j];by_cases x:j=m
    .rw[aR (c:=_/\j<m) (by omega),x];split
     .exact r _ (by omega) y
     .exact r _ (by omega) y
    .split
     .rw[aQ (by omega)];exact he _ _ (by omega) (by omega) (by omega) (by omega)
     .split
      .exact hd _ _ (by omega) (by omega)
      .exact hd _ _ (by omega) (by omega)
   .rw[aR v];refine m8 o t f p (m+1) 0 hp (by omega) (by omega) (by omega) (λi j k u=>?_) (one _) λg l s a b c d=>w g l s a (by omega) (by omega) d;by_cases x:j=m
    .subst x;exact r i k y
    .exact hd i j k (by omega)
  |false=>
   simp only[bV,if_false];refine⟨jY hp t _,jY hp t _,?_⟩;cases B:lt (p.getD (m-1) 0) (p.getD m 0) with
   |true=>exact w p m q hp (aK _) (by omega) hq hd he
   |false=>
    simp only[bV,if_false];refine m8 o t f p (m+1) (q+1) hp (by omega) (by omega) (by omega) (λi j k u=>?_) (λi j a b c d=>?_) λg l s a b c d=>w g l s a (by omega) (by omega) d
    .by_cases x:j=m
     .subst x;exact r i k B
     .exact hd i j k (by omega)
    .by_cases A:i=m
     .subst A;by_cases u:j=i
      .subst u;exact o.ir _
      .exact o.tr (he (i-1) j (by omega) (by omega) (by omega) (by omega)) e
     .by_cases u:j=m
      .subst u;exact o.tr B (he i (j-1) (by omega) (by omega) (by omega) (by omega))
      .exact he i j (by omega) (by omega) (by omega) (by omega)
def wc(o:pX lt)(h:0<n){p:Array Nat}{m:Nat}(f:si n p)(k:1<=m)(s:m<=n)(l:Ki lt p m){Q:Nat×Array Nat->Prop}(w:∀d e,si n e->1<=d->d<=n->BQ lt e d->Q (d,e)):og lt n (kas_tail3 m n p) Q:=by refine jA (tO o h (qP f 0 m) _ m k (λi j q r=>?_) λd a b c _=>w d _ (qP f 0 m) (by omega) (by omega) c);have g:=nB (p:=p) (i:=0) (j:=m) (by rw[jO f];omega);rw[g i,g j,aQ (by omega),aQ (by omega)];exact l _ _ (by omega) (by omega)
def sT(o:pX lt){p:Array Nat}{m:Nat}(q:si n p)(u:1<=m)(x:m+1<=n)(r:Ki lt p (m+1)){Q:Nat×Array Nat->Prop}(w:∀g h,si n h->1<=g->g<=n->BQ lt h g->Q (g,h)):og lt n (kas_descPart m n p) Q:=by
 have k:0<n:=by omega
 refine jA (m8 o k _ p (m+1) 0 q (by omega) (by omega) (by omega) r (λi j a b c d=>?_) λh g s a b c d e f=>?_)
 .obtain rfl:i=m:=by omega
  obtain rfl:j=i:=by omega
  exact o.ir _
 .dsimp only;split
  .have l:=nB (p:=h) (i:=g-(s+1)) (j:=g) (by rw[jO a];omega);refine wc o k (qP a _ _) (by omega) (by omega) (λi j t v=>?_) w;rw[l i,l j];split
   .rw[aQ (by omega)];exact f _ _ (by omega) (by omega) (by omega) (by omega)
   .split
    .exact e _ _ (by omega) (by omega)
    .exact e _ _ (by omega) (by omega)
  .exact wc o k a (by omega) (by omega) e w
def zC(o:pX lt)(r:0<n){p:Array Nat}(f:si n p){Q:Nat×Array Nat->Prop}(w:∀l q,si n q->1<=l->l<=n->BQ lt q l->Q (l,q)):og lt n (kas_count n p) Q:=by
 refine jA (tO o r f _ 1 (aK _) (λi j g k=>by omega) λm a b c d=>?_);split
 .exact w m p f a (by omega) c
 .rename_i s;have h:m<n:=by have:m≠n:=λz=>s (by rw[z];exact beq_self_eq_true _);omega
  have e:=o.as (d (by omega));split
  .refine⟨jY f r _,jY f r _,?_⟩;cases v:lt (p.getD 0 0) (p.getD (m-1) 0) with
   |true=>exact w m p f a (by omega) c
   |false=>
    have up:∀i j,i<=j->j<m->lt (p.getD j 0) (p.getD i 0)=false:=λi j g k=>by
     by_cases z:i=j
     .rw[z];exact o.ir _
     .exact c i j (by omega) k
    have all:∀i j,i<m->j<m->lt (p.getD i 0) (p.getD j 0)=false:=λi j u k=>o.tr (o.tr (up j (m-1) (by omega) (by omega)) v) (up 0 i (by omega) u);have t:=nB (p:=p) (i:=0) (j:=m) (by rw[jO f];omega);refine sT o (qP f 0 m) a h (λi j g k=>?_) w;rw[t i,t j,aQ (c:=0<=i/\i<m) (by omega)];by_cases z:j=m
    .rw[aR (by omega),z];exact o.tr e (all _ _ (by omega) (by omega))
    .rw[aQ (by omega)];exact all _ _ (by omega) (by omega)
  .refine sT o f a h (λi j g k=>?_) w;obtain rfl:m=1:=by omega
   obtain rfl:i=0:=by omega
   obtain rfl:j=1:=by omega
   exact e
theorem n8(o:pX lt)(h0:0<n){p:Array Nat}(hp:si n p){k:Nat}(hu:BQ lt p k){Q:Nat->Prop}(w:∀l,l<=k->(∀i,i<l->lt (p.getD k 0) (p.getD i 0)=false)->(∀i,l<=i->i<k->lt (p.getD k 0) (p.getD i 0)=true)->Q l) :
  ∀f l r,l<=r->r<=k->r<=l+f->(∀i,i<l->lt (p.getD k 0) (p.getD i 0)=false)->(∀i,r<=i->i<k->lt (p.getD k 0) (p.getD i 0)=true)->og lt n (kas_place p k f l r) Q
 |0,l,r,h1,h2,h3,a,b=>w l (by omega) a λi hi hk=>b i (by omega) hk
 |f+1,l,r,h1,h2,h3,a,b=>by
  unfold kas_place;split
  .exact w l (by omega) a λi hi hk=>b i (by omega) hk
  .refine⟨jY hp h0 _,jY hp h0 _,?_⟩;cases e:lt (p.getD k 0) (p.getD ((l+r) / 2) 0) with
   |true=>
    refine n8 o h0 hp hu w f l ((l+r) / 2) (by omega) (by omega) (by omega) a λi hi hk=>?_;by_cases z:i=(l+r) / 2
    .rw[z];exact e
    .cases y:lt (p.getD k 0) (p.getD i 0) with
     |true=>rfl
     |false=>rw[o.tr (hu ((l+r) / 2) i (by omega) hk) y]at e;cases e
   |false=>
    refine n8 o h0 hp hu w f ((l+r) / 2+1) r (by omega) h2 (by omega) (λi hi=>?_) b;by_cases z:i=(l+r) / 2
    .rw[z];exact e
    .exact o.tr (hu i ((l+r) / 2) (by omega) (by omega)) e
theorem yK(o:pX lt)(q:0<n){Q:Array Nat->Prop}(w:∀h,si n h->BQ lt h n->Q h):∀f p k,si n p->k+f=n->BQ lt p k->og lt n (kas_bin f p k) Q
 |0,p,k,hp,g,hu=>w p hp (by rw[<-g];exact hu)
 |f+1,p,k,hp,g,hu=>by
  refine jA (n8 o q hp hu (λl s a b=>?_) k 0 k (bD _) (aK _) (by omega) (λi e=>by omega) λi e g=>by omega);have m:=AW (p:=p) (k:=k) (l:=l) (by rw[jO hp];omega) s;refine yK o q w f _ (k+1) ((bubble_perm _ _ _).trans hp) (by omega) λi j r u=>?_;rw[m i,m j];by_cases e:i=l
  .rw[aQ e,aR (by omega),aQ (by omega)];exact o.as (b _ (by omega) (by omega))
  .rw[aR e];by_cases d:j=l
   .rw[aQ d,aR (by omega)];exact a _ (by omega)
   .rw[aR d];by_cases t:l<i
    .rw[aQ (c:=l<j/\j<=k) (by omega),aQ (c:=l<i/\i<=k) (by omega)];exact hu _ _ (by omega) (by omega)
    .rw[aR (c:=l<i/\i<=k) (by omega)];split
     .exact hu _ _ (by omega) (by omega)
     .exact hu _ _ (by omega) (by omega)
def AA(o:pX lt)(c:0<n){Q:Array Nat->Prop}(w:∀p,si n p->BQ lt p n->Q p):og lt n (kas_sort n) Q:=by
 refine jA (zC o c (Array.Perm.refl _) λm p b d e a=>?_);dsimp only;split
 .exact yK o c w _ p _ b (by omega) (by rw[Nat.max_eq_left d];exact a)
 .refine w p b ?_;obtain rfl:m=n:=by omega
  exact a
end
end L2
namespace L2
open PySem PySem.Spec PySem.W PyProof.Rows
def qG{a:Type}(l:List a)(d:a):(List.range l.length).map (λi=>l.getD i d)=l:=by refine List.ext_getElem (by simp) λi c b=>?_;simp[b]
def uJ{c a:Type}{F:c->a->Prop}{l:List c}{m:List a}(h:Paired F l m)(f:c)(g:a){i:Nat}(d:i<l.length):F (l.getD i f) (m.getD i g):=by obtain⟨b,e,q⟩:=ki h (ag d);rw[af,ag d,af,e];exact q
theorem qY{c b a:Type}{F:c->b->Prop}(f:a->c)(g:a->b):∀(l:List a),(∀x∈l,F (f x) (g x))->Paired F (l.map f) (l.map g)
 |[],_=>.nil
 |x::l,h=>.cons (h x bh) (qY f g l λy d=>h y (bj _ d))
end L2
namespace L2
open PySem PySem.Spec PyProof.Rows
section
variable {prog:Program}{w:World}{K:Type}[DecidableEq K]{knd:KeyKind prog w K}
def fu(knd:KeyKind prog w K)(h:Heap)(k:K×List K)(a:Addr):Prop:=∃o v b n,h.get? a=some o/\o.cls=.type "tuple" /\o.data=.seq #[v,.ref b] n/\knd.is k.1 v=true/\IsTupleKey knd h k.2 b
def fu.typeIs{s:Sq}{k:K×List K}{a:Addr}(x:fu knd s.heap k a):s.TypeIs (.ref a) "tuple" :=let ⟨o,_,_,_,ho,hc,_⟩:=x;⟨o,ho,hc⟩
def fu.inj{h:Heap}{a:Addr}{x y:K×List K}(z:fu knd h x a)(q:fu knd h y a):x=y:=by obtain⟨o,v,b,n,m,_,r,u,s⟩:=z;obtain⟨p,i,t,A,f,_,c,g,e⟩:=q;obtain rfl:o=p:=Option.some.inj (m.symm.trans f);rw[r]at c;injection c with l _;have k:[v,Value.ref b]=[i,.ref t]:=congrArg Array.toList l;injection k with j d;injection d with d _;injection d with d;subst j d;exact Prod.ext (knd.inj _ _ _ u g) (s.inj e)
def fu.keeps{h h':Heap}{k:K×List K}{a d:Addr}{o:Obj}{es ep}(x:fu knd h k a)(g:h.get? d=some o)(j:o.data=.dict es ep)(l:Heap.SameBut d h h'):fu knd h' k a:=by
 obtain⟨i,v,b,n,e,q,c,p,m⟩:=x;have f:a≠d:=by rintro rfl;obtain rfl:i=o:=Option.some.inj (e.symm.trans g);rw[j]at c;exact nomatch c
 exact⟨i,v,b,n,(l.2 a f).trans e,q,c,p,m.keeps g j l⟩
def qF(knd:KeyKind prog w K)(k:K×List K):Int:=reduceHash (Builtin.Tuple.tupleHashOf [knd.hash k.1,tupleKeyHash knd k.2])
variable {A:Around}{E:Vq->Shared->Prop}{s:Sq}
def vj{k:K×List K}{a:Addr}{Q:Int->Shared->Prop}(g:A.units+1<cLine)(f:fu knd s.heap k a)(h:Q (qF knd k) {s with toks:=s.toks+(k.2.length+3)}):wpAny (model prog w) A (pyHash (.ref a)) Q E s:=by
 have c:=f.typeIs;obtain⟨o,v,b,n,j,_,i,l,d⟩:=f;unfold pyHash;first|unfold pyHashByItsType|skip
 first|refine aq (wpAny_cRoomFor_or (.inr (by omega)) ?_)|skip
 refine aq (wpAny_specialOf c F.slot_tuple_hash.lookup ?_);show wpAny _ _ (if (some (Value.builtin "tuple.__hash__")==some Value.none)=true then _ else _) Q E s;rw[aR (by rw[beq_builtin_none];exact aH)];refine aq (wpAny_specialOf c F.slot_tuple_hash.lookup ?_);show wpAny _ _ (callSpecialIfBoundUnlessNone? (.ref a) "__hash__" _ >>= _) Q E s;refine aq (wpAny_callSpecialIfBoundUnlessNone?_slot c F.slot_tuple_hash (wpAny_call_entry F.slot_tuple_hash c F.entry_tuple_hash ?_ (F.args_tuple_hash_1 _)));show wpAny _ _ (Builtin.Tuple.tupleItemsOf (.ref a) >>= _) _ _ s;refine aq (wpAny_tupleItemsOf j i ?_);refine aq ?_;rw[<-cw];show wpAny _ _ (forIn [v,Value.ref b] _ _) _ _ s;rw[bU];refine aq (aq (knd.pyHash l ?_));refine ao ?_;dsimp only;rw[bU];refine aq (aq (wpAny_pyHash_tuple (knd:=knd) (show A.units+1<cLine from g) d ?_));refine ao ?_;dsimp only;rw[bZ];refine ao ?_;show wpAny _ _ (retInt (Builtin.Tuple.tupleHashOf [knd.hash k.1,tupleKeyHash knd k.2])) _ _ _;refine wpAny_ret_mkInt ?_;unfold qF reduceHash at h;show wpAny _ _ (if (decide (-(2:Int) ^ 63<=Builtin.Tuple.tupleHashOf [knd.hash k.1,tupleKeyHash knd k.2])&&decide (Builtin.Tuple.tupleHashOf [knd.hash k.1,tupleKeyHash knd k.2]<2 ^ 63))=true then _ else _) Q E _;have d:s.toks+1+(k.2.length+1)+1=s.toks+(k.2.length+3):=by omega
 by_cases e:(decide (-(2:Int) ^ 63<=Builtin.Tuple.tupleHashOf [knd.hash k.1,tupleKeyHash knd k.2])&&decide (Builtin.Tuple.tupleHashOf [knd.hash k.1,tupleKeyHash knd k.2]<2 ^ 63))=true
 .rw[aQ e];rw[aQ e]at h;refine ao ?_;dsimp only;rw[d];exact h
 .rw[aR e];rw[aR e]at h;refine aq (wpAny_rule (ao ?_));dsimp only;rw[d];exact h
def t9{x y:K×List K}{a b:Addr}{P:Fin->Shared->Prop}(B:A.units<cLine)(F:fu knd s.heap x a)(q:fu knd s.heap y b)(h:P (.done (.ret (.bool (decide (x=y))))) s) :
  wpAny (model prog w) A (Builtin.«tuple.__eq__» ⟨[.ref a,.ref b],[]⟩) P E s:=by
 have i:=q.typeIs;obtain⟨I,v,c,J,d,_,o,j,l⟩:=F;obtain⟨L,t,D,H,n,_,g,k,m⟩:=q;obtain⟨r,C⟩:=x;obtain⟨p,u⟩:=y;show wpAny _ _ (isInstance (.ref b) (.type "tuple") >>= _) _ _ s;refine aq (wpAny_isInstance i isSubtype_tuple_tuple ?_);simp only[cx,bV,if_false];refine aq (wpAny_tupleItemsOf d o ?_);refine aq (wpAny_tupleItemsOf n g ?_);refine aq ?_;show wpAny _ _ (forIn [(v,t),(Value.ref c,Value.ref D)] _ _) _ _ s;rw[bU];refine aq (aq (knd.eqBool (a:=r) (b:=p) j k ?_));by_cases f:r=p
 .subst f;rw[aC rfl];simp only[cx,bV,if_false];refine ao ?_;dsimp only;rw[bU];refine aq (aq (wpAny_eqBool_tuple (knd:=knd) B l m ?_));by_cases e:C=u
  .subst e;rw[aC rfl];simp only[cx,bV,if_false];refine ao ?_;dsimp only;rw[bZ];refine ao (ao ?_);rw[aC rfl]at h;exact h
  .rw[aB e];simp only[cy,if_true];rw[aB (λz=>e (congrArg Prod.snd z))]at h;exact aq (ao (ao (ao (ao h))))
 .rw[aB f];simp only[cy,if_true];rw[aB (λz=>f (congrArg Prod.fst z))]at h;exact aq (ao (ao (ao (ao h))))
def v5{x y:K×List K}{a b:Addr}{Q:Bool->Shared->Prop}(g:A.units+1<cLine)(d:fu knd s.heap x a)(f:fu knd s.heap y b)(h:Q (decide (x=y)) s) :
  wpAny (model prog w) A (eqBool (.ref a) (.ref b)) Q E s:=by
 unfold eqBool;try with_reducible refine wpAny_holding ?_;show wpAny _ _ (if (Value.ref a==Value.ref b)=true then _ else _) Q E s;by_cases c:(Value.ref a==Value.ref b)=true
 .rw[aQ c];have e:a=b:=by have:=eq_of_beq c;injection this
  subst e;obtain rfl:=d.inj f;exact aq (wpAny_rule (ao (by simpa using h)))
 .rw[aR c];exact aq (wpAny_richCompare_same_room (op:=.Eq) d.typeIs f.typeIs F.slot_tuple_eq
   (wpAny_call_entry F.slot_tuple_eq d.typeIs F.entry_tuple_eq (t9 (show A.units+1<cLine from g) d f ⟨_,rfl,(λe=>nomatch e),wpAny_truthy_bool h⟩) (F.args_tuple_eq_2 _ _)) (by omega))
def wb{m:Nat}{ks:List K}{a:Addr}{Q:Bool->Shared->Prop}(i:IsTupleKey knd s.heap ks a)(h:Q true s):wpAny (model prog w) A (eqIsQuiet (m+1) (.ref a)) Q E s:=by
 have f:=i.typeIs;obtain⟨o,b,n,k,_,l,p⟩:=i;unfold eqIsQuiet;refine aq (wpAny_specialOf f F.slot_tuple_eq.lookup ?_);show wpAny _ _ (isInstance (.ref a) (.type "tuple") >>= _) _ _ s;refine aq (wpAny_isInstance f isSubtype_tuple_tuple ?_);simp only[cx,bV,if_false];refine aq (wpAny_seqItems k l ?_);refine aq ?_;show wpAny _ _ (forIn b _ _) _ _ s;rw[<-cw];refine wpAny_forIn_list _ (λj r e=>r.1=none/\e=s/\∀v∈j,carriedByValue v=true) _ ?_ ?_ _ _ ⟨rfl,rfl,p.byValue⟩
 .rintro v j r e ⟨c,rfl,g⟩;rw[eqIsQuiet_byValue _ (g v bh)];refine aq (ao ?_);simp only[cx,bV,if_false];exact ao ⟨rfl,rfl,λu d=>g u (bj _ d)⟩
 .rintro⟨q,t⟩ e ⟨c,rfl,_⟩;simp only at c;subst c;exact ao h
def wu{k:K×List K}{a:Addr}{Q:Bool->Shared->Prop}(d:fu knd s.heap k a)(h:Q true s):wpAny (model prog w) A (eqIsQuiet 8 (.ref a)) Q E s:=by have c:=d.typeIs;obtain⟨o,v,b,n,g,_,e,i,f⟩:=d;unfold eqIsQuiet;refine aq (wpAny_specialOf c F.slot_tuple_eq.lookup ?_);show wpAny _ _ (isInstance (.ref a) (.type "tuple") >>= _) _ _ s;refine aq (wpAny_isInstance c isSubtype_tuple_tuple ?_);simp only[cx,bV,if_false];refine aq (wpAny_seqItems g e ?_);refine aq ?_;rw[<-cw];show wpAny _ _ (forIn [v,Value.ref b] _ _) _ _ s;rw[bU,eqIsQuiet_byValue _ (knd.byValue _ _ i)];refine aq (aq (ao ?_));simp only[cx,bV,if_false];refine ao ?_;dsimp only;rw[bU];refine aq (aq (wb (knd:=knd) f ?_));simp only[cx,bV,if_false];refine ao ?_;dsimp only;rw[bZ];exact ao (ao h)
end
def qT{prog:Program}{w:World}{K:Type}[DecidableEq K](knd:KeyKind prog w K):HeapKind prog w (K×List K) where
 is:=fu knd
 hash:=qF knd
 draws:=λk=>k.2.length+3
 room:=λA=>A.units+1<cLine
 inj:=λd b=>d.inj b
 keeps:=λx g e f=>x.keeps g e f
 pyHash:=λa c h=>vj a c h
 eqBool:=λa d b h=>v5 a d b h
 quiet:=λc h=>wu c h
end L2
namespace L2
open PySem PySem.Spec PyProof.Rows
abbrev FE:=(kg×List kg)×Addr×Value
def KL(P:Program)(w:World)(a:Addr)(b:List FE)(h:Heap):Prop:=(a==sysModules)=false/\b.length<=sizeLine/\∃o c d,h.get? a=some o/\o.ExactDict/\o.data=.dict c d/\c.toList=b.map (entryOfKey (qT (iC P w)))/\(b.map (·.1)).Nodup
def pj(P:Program)(w:World)(a:Addr)(b:List FE):HO:=.ext (KL P w a b)
def uz(H:Hp)(k:kg×List kg)(b:Addr):Prop:=∃a,H b=some (.tup [kV k.1,.ref a])/\H a=some (.tup (k.2.map kV))
section
variable {P:Program}{w:World}{H H':Hp}{h h':Heap}{a b:Addr}{xs:List FE}{k:kg×List kg}
def Bo(x:KL P w a xs h):fK P w H h a (pj P w a xs):=by
 refine⟨x,?_,λi j y q=>?_⟩
 .obtain⟨_,_,o,_,_,e,_⟩:=x;exact⟨o,e⟩
 .obtain⟨d,f,o,g,c,e,r⟩:=y;exact⟨d,f,o,g,c,q o e,r⟩
def Bt(ok:l5 P w H h)(x:uz H k b):(qT (iC P w)).is h k b:=by
 obtain⟨c,i,f⟩:=x;obtain⟨_,d,r,o,g,j,n,e,_⟩:=(show fK P w H h b (.tup [kV k.1,.ref c]) from ok b _ i);have:=wG ok f;cases r with
 |cons r1 r2=>
  cases r2 with
  |cons r3 r4=>cases r4;cases (show _=Value.ref c from r3);exact⟨o,_,c,n,g,j,e,Gg r1,this⟩
def yg(ok:l5 P w H h)(e:H a=some (pj P w a xs))(g:∀x∈xs,uz H x.1 x.2.1):KL P w a xs h/\h.DictOfH (qT (iC P w)) a xs:=by obtain⟨x,_,_⟩:=(show fK P w H h a (pj P w a xs) from ok a _ e);refine⟨x,?_⟩;obtain⟨_,_,o,l,c,i,d,f,j,m⟩:=x;exact⟨o,l,c,i,d,f,j,λx n=>Bt ok (g x n),m⟩
end
section
variable {X:Cx}{dU:List (Addr×Obj)}{σ:St}{H:Hp}{s:Sq}{a b:Addr}{xs:List FE}{k:kg×List kg}{r:Vq}{A:Around}{E:Vq->Shared->Prop}
def Ij{Q:Unit->Shared->Prop}(v:A.units+2<cLine)(I:eC X dU σ H s)(e:H a=some (pj X.prog X.w a xs))(i:∀x∈xs,uz H x.1 x.2.1)(n:uz H k b)(z:xs.length<sizeLine)
  (h:∀f,eC X dU σ (e6 H a (pj X.prog X.w a (storedH xs k b r))) f->Q () f):wpAny (model X.prog X.w) A (setItem (.ref a) (.ref b) r) Q E s:=by
 obtain⟨x,t⟩:=yg I.hok e i;refine wpAny_setItem_heap (hsz:=by omega) (show A.units+1+1<cLine by omega) (Bt I.hok n) t λy c p=>h _ ?_;obtain⟨q,u,m,d,j,g,o,_,l⟩:=c;refine yq I (by rw[e];exact True.intro) p ⟨q,d⟩ (Bo ⟨x.1,?_,q,u,m,d,j,g,o,l⟩);unfold storedH;split
 .rw[ax];omega
 .rw[aT,bQ];omega
def xo(P:X.calm=true):iS X (.type "list") (λp H Q=>∃a xs,p=[.ref a]/\H a=some (pj X.prog X.w a xs)/\∀l:Addr,H l=none->Q (.ref l) (e6 H l (.lst (xs.map λx=>.ref x.2.1)))):=by
 intro dU s σ H p us Q I r h;obtain⟨a,xs,rfl,e,q⟩:=h;obtain⟨u,rfl,S⟩:=pb r;cases S;obtain⟨⟨Z,z,o,m,F,K,U,C,t,nd⟩,_,_⟩:=(show fK X.prog X.w H s.heap a (pj X.prog X.w a xs) from I.hok a _ e);have sz:m.size=xs.length:=by rw[<-bq,t,ax]
 refine W.kdl_call (yf Z) (I.ok.hd P) (⟨o,K,U,C⟩:nJ s.heap a m F) (by rw[sz];exact z) λL tk c c' Y hl d=>?_;have g:∀(i:Nat) v,c[i]? = some v->∃y,xs[i]? = some y/\v=.ref y.2.1:=λi v j=>by
  obtain⟨en,J,D⟩:=d.2 i v j;have f:m.toList[i]? = some en:=by simpa using J
  rw[t,aw]at f;cases n:xs[i]? with
  |none=>rw[n]at f;cases f
  |some y=>rw[n]at f;cases f;exact⟨y,rfl,D⟩
 have R:c.size=xs.length:=by rw[<-sz];exact d.1
 have N:eS (xs.map λx=>V.ref x.2.1) c.toList:=by refine pA (by simp[R]) λi v j=>?_;obtain⟨y,B,e2⟩:=g i v (by simpa using j);exact⟨.ref y.2.1,by simp[B],by rw[e2];rfl⟩
 exact⟨.ref s.heap.objs.size,_,I.laid Y (aK _) (show fK X.prog X.w _ L _ (.lst (xs.map λx=>V.ref x.2.1)) from ⟨by rw[ax];exact z,c.toList,c',N,by simpa using hl⟩),rfl,q _ (I.hok.fresh (aK _))⟩
end
end L2
namespace L2
open PySem PySem.Spec PySem.W PyProof.Rows
def oK(m:List Vq)(l:List Vq)(h:TriplesOk l):iE (l++m)=iE l++iE m:=by
 fun_induction TriplesOk l with
 |case1=>rfl
 |case2 a b c d v r ih=>show v::iE (r++m)=v::(iE r++iE m);rw[ih h]
 |case3=>exact h.elim
def v9(m:List Vq)(e:TriplesOk m)(l:List Vq)(h:TriplesOk l):TriplesOk (l++m):=by
 fun_induction TriplesOk l with
 |case1=>exact e
 |case2 a b c d v r ih=>exact ih h
 |case3=>exact h.elim
def rX{a:Pos}{v:Vq}(l:List Vq)(h:codeAmong a l=some v):v∈iE l:=by
 fun_induction codeAmong a l with
 |case1=>cases h;exact bh
 |case2 _ _ _ _ _ _ _ ih=>exact bj _ (ih h)
 |case3=>cases h
def mh(H:Hp)(P:Addr)(q:Str)(b:Addr):Prop:=∃a,H P=some (.tbl q a)/\Value.ref b∈iE a.toList
section
variable {X:Cx}{dU:List (Addr×Obj)}{σ:St}{H H':Hp}{s:Sq}{P c':Addr}{q:Str}
def mh.rec'{prog:Program}{w:World}{h:Heap}(t:mh H P q c')(ok:l5 prog w H h):h.CodeRec (.ref c') q:=by obtain⟨c,e,m⟩:=t;obtain⟨b,a,_,r⟩:=((show fK prog w H h P (.tbl q c) from ok P _ e)).2.2 _ m;cases a;exact r
def mh.grow{prog:Program}{w:World}{h:Heap}(t:mh H P q c')(ok:l5 prog w H h)(g:∀b,H P=some (.tbl q b)->∃a,H' P=some (.tbl q (b++a))):mh H' P q c':=by obtain⟨b,e,m⟩:=t;obtain⟨a,c⟩:=g b e;refine⟨_,c,?_⟩;rw[Array.toList_append,oK _ _ ((show fK prog w H h P (.tbl q b) from ok P _ e)).2.1];exact ay _ m
end
section
variable {P:Program}{w:World}{mg:Str->Option Value}{base:Heap}{k:Nat}{f:Addr}{N ps:List Str}{name qual:Str}{params:Arguments}{body:Expr}{scope:Scope}{A:Around}{outer:List Env}{s:Sq}{H:Hp}{args:Args}{us:List Vq}{vs:List V}{Q:VK}
def EL{K:W.Frag}{m d:Vq}{g:Addr}(C:s.heap.get? f=some (kla_obj name qual params body scope [] m g d))(j:s.heap.CodeRec (.ref g) qual)(S:eZ N ps scope)
  (U:vs.length=ps.length) (l:e8 (k+1) A) (h:pU P w K mg base A outer s H) (z:BindsTo s (kla_fn name qual params body scope [] m (.ref g) d) args (ps.zip us)) (r:eS vs us)
  (c:∃t,PE (jJ mw P w K mg base N qual scope f (.ref g) A outer s H E0).nox body t/\t (hZ N vs) H Q) :
  codeAny (model P w) A (.call (.ref f) args) (CR mw outer P w H s Q E0) s:=by
 have i:=h.mod.nolimit.keeps λb o e=>(h.bs b o e).1;have a:∀y∈ps.zip us,scope.names.lookup y.1=some .local\/(scope.names.lookup y.1=some .cell/\((cellsFrom (s.heap.objs.size+1) scope.names []).lookup y.1).isSome=true):=λ⟨n,v⟩ hy=>by
  rcases S.par n (aW hy).1 with q|q
  .exact .inl q
  .exact .inr ⟨q,W.cellsFrom_some _ _ _ (.inl q)⟩
 refine kla_callFunE l.depth C rfl S.co S.gen rfl j (z _ _ _ _ ?_);refine wpAny_newFunctionEnv_cells S.kind a λE R p x=>?_;subst R;refine⟨i.keeps x.toInCall.keep,kla_codeExpr ?_⟩;obtain⟨t,D,B⟩:=c;have I:eC (jJ mw P w K mg base N qual scope f (.ref g) A outer s H E0) [] (hZ N vs) H p:=rT S l.hd h U r x;exact wpAny_mono (D [] p (hZ N vs) H _ (I.wish _) B) (λu L ⟨v,H',J,rv,q⟩=>⟨v,H',J.os,J.bare,J.base,J.hok,rv,q⟩) λe L F=>F.elim
end
section
variable {X:Cx}{dU:List (Addr×Obj)}{σ:St}{H:Hp}{s:Sq}{c P:Addr}{qn:Str}{params:Arguments}{body:Expr}{scope:Scope}{pos:Pos}{A:Around}{E:Vq->Shared->Prop}{Q:Vq->Shared->Prop}
theorem AZ(I:eC X dU σ H s)(p:X.env.code=.ref c)(C:CodeHd X.base c P)(jG:(c,P)∈X.base.life.ids)(hrc:X.base.CodeRec (.ref c) qn)(hb:X.base.BuiltinsAt X.mg P)
  (hq:qn++ ".<locals>.<lambda>" = X.env.qual++ "<lambda>") (Z:closureFor scope X.env=pure []) (hdef:defaultsOf params X.env=([],[]))
  (h:∀f a g pm H' s',eC X dU σ H' s'->eB H H'->(∀b,H b=none->b<s.heap.objs.size->H' b=none)->s.heap.objs.size<=f->H' f=none->mh H' P (X.env.qual++ "<lambda>") a->
   s'.heap.get? f=some (kla_obj "<lambda>" (X.env.qual++ "<lambda>") params body scope [] pm a g)->Q (.ref f) s') :
  wpAny (model X.prog X.w) A (eval (.Lambda params body scope pos) X.env) Q E s:=by
 obtain⟨k,m⟩:=I.tab c P qn jG hrc;rw[hq]at m;obtain⟨oP,tri,D⟩:=(show fK X.prog X.w H s.heap P (.tbl _ k) from I.hok P _ m);have G:s.heap.Ns mainGlobals X.mg:=let ⟨o,es,ep,e,r⟩:=I.ok.mod.glob;⟨o,es,ep,I.bk _ _ e,r⟩;have hgP:mainGlobals≠P:=λz=>by obtain⟨o,es,ep,e,r⟩:=I.ok.mod.glob;have:=(I.bs _ _ e).2;rw[z,m]at this;cases this
 have C':CodeHd s.heap c P:=C.keeps I.bk;have hb':s.heap.BuiltinsAt X.mg P:=let ⟨bm,o,h1,h2,h3,h4,h5,r⟩:=hb;⟨bm,o,h1,h2,h3,h4,I.bk _ _ h5,r⟩;refine kla_eval hdef ?_;cases hc:codeAmong pos k.toList with
 |some cv=>obtain⟨b,rfl,hbo,hbr⟩:=D cv (rX _ hc);refine kla_makeFunctionHit (mg:=X.mg) Z I.ok.glob G p C' oP tri hc hb' λg R tk J S=>?_;have I':eC X dU σ H {s with heap:=R.push {cls:=.type "function",data:=.func (kla_fn "<lambda>" (X.env.qual++ "<lambda>") params body scope [] ((X.mg "__name__").getD .none) (.ref b) g)},toks:=tk}:=I.kept λb o e=>ae _ (J b o e);exact h _ b g _ H _ I' (.refl _) (λ_ e _=>e) S (I.hok.fresh S) ⟨k,m,rX _ hc⟩ (au _ rfl)
 |none=>
  refine kla_makeFunction (mg:=X.mg) Z I.ok.glob G p C' oP tri hc hgP hb' λa g R tk hx j K B U=>?_;have hc0:H a=none:=I.hok.fresh j;have cP:a≠P:=λz=>by rw[z]at j;exact absurd (I.hok.lt m) (cg.mpr j)
  have tri':TriplesOk [rawInt pos.line,rawInt pos.col,.ref a]:=by simp[TriplesOk,rawInt]
  have al:(k++#[rawInt pos.line,rawInt pos.col,Value.ref a]).toList=k.toList++[rawInt pos.line,rawInt pos.col,.ref a]:=by simp
  have i:∀b,b≠P->b≠a->e6 (e6 H a (.own P)) P (.tbl (X.env.qual++ "<lambda>") (k++#[rawInt pos.line,rawInt pos.col,.ref a])) b=H b:=λb h1 h2=>by rw[eA h1,eA h2]
  have upC:e6 (e6 H a (.own P)) P (.tbl (X.env.qual++ "<lambda>") (k++#[rawInt pos.line,rawInt pos.col,.ref a])) a=some (.own P):=by rw[eA cP,eh]
  have x:∀b u,H b=some u->b≠a:=λb u e=>eJ e hc0;have J:∀b o,b≠P->s.heap.get? b=some o->(R.push (kla_obj "<lambda>" (X.env.qual++ "<lambda>") params body scope [] ((X.mg "__name__").getD .none) a g)).get? b=some o:=λb o hb e=>ae _ (hx b o hb e);have nP:∀b,H b=none->b≠P:=λb e z=>by rw[z,m]at e;cases e
  have fre:∀b,H b=none->b<s.heap.objs.size->e6 (e6 H a (.own P)) P (.tbl (X.env.qual++ "<lambda>") (k++#[rawInt pos.line,rawInt pos.col,.ref a])) b=none:=λb e l=>by rw[i b (nP b e) (aM (aE l j))];exact e
  have sm:eB H (e6 (e6 H a (.own P)) P (.tbl (X.env.qual++ "<lambda>") (k++#[rawInt pos.line,rawInt pos.col,.ref a]))):=λb u e=>by
   by_cases z:b=P
   .subst z;rw[m]at e;cases e;rw[eh];exact⟨_,rfl⟩
   .rw[i b z (x b u e)];exact .of e
  have hok:l5 X.prog X.w (e6 (e6 H a (.own P)) P (.tbl (X.env.qual++ "<lambda>") (k++#[rawInt pos.line,rawInt pos.col,.ref a]))) (R.push (kla_obj "<lambda>" (X.env.qual++ "<lambda>") params body scope [] ((X.mg "__name__").getD .none) a g)):=λb u e=>by
   by_cases z:b=P
   .subst z;rw[eh]at e;cases e;refine⟨ae _ U,by rw[al];exact v9 _ tri' _ tri,λv N=>?_⟩;rw[al,oK _ _ tri]at N;rcases ai.mp N with N|N
    .obtain⟨d,rfl,t,hr⟩:=D v N;obtain⟨d',L,vs,tt,e1,Y,e3⟩:=hr;cases e1;exact⟨d,rfl,by rw[i d (λz=>by rw[z,m]at t;cases t) (x d _ t)];exact t,d,L,vs,tt,rfl,J d L (λz=>by rw[z,m]at t;cases t) Y,e3⟩
    .have:v=.ref a:=by simpa[iE] using N
     subst this;obtain⟨d',L,vs,tt,e1,Y,e3⟩:=B;cases e1;exact⟨a,rfl,upC,a,L,vs,tt,rfl,ae _ Y,e3⟩
   .by_cases y:b=a
    .subst y;rw[upC]at e;cases e;obtain⟨d',L,vs,tt,e1,Y,e3⟩:=B;cases e1;exact⟨L,ae _ Y⟩
    .rw[i b z y]at e;have F:∀d,H d=some (.own b)->d≠P:=λd r w=>by rw[w,m]at r;cases r
     refine (I.hok b u e).stay (λd v t r=>J d v ?_ r) (λd r=>by rw[i d (F d r) (x d _ r)];exact r) λd xs r=>by rw[i d (λw=>by rw[w,m]at r;cases r) (x d _ r)];exact r
     rcases t with rfl|t
     .exact z
     .exact F d t
  have un:Un X.fs [] H (e6 (e6 H a (.own P)) P (.tbl (X.env.qual++ "<lambda>") (k++#[rawInt pos.line,rawInt pos.col,.ref a]))) s.heap (R.push (kla_obj "<lambda>" (X.env.qual++ "<lambda>") params body scope [] ((X.mg "__name__").getD .none) a g)):=
   ⟨λb o e n _ _=>J b o (nP b n) e,λb o e n _ _=>⟨o.slots,J b o (nP b n) e⟩,λb o e n _=>fre b n (aL e),λb o e _=>by
    by_cases z:b=P
    .subst z;exact⟨_,ae _ U⟩
    .exact⟨o,J b o z e⟩,λb xs e=>sm b _ e,λb o u e=>sm b _ e,λb q k e=>sm b _ e⟩
  refine h _ a g _ _ _ (I.un un hok) sm fre (bf (cz j K)) ?_ ⟨_,eh,?_⟩ (au _ rfl)
  .have hf:s.heap.objs.size<=R.objs.size:=bf (cz j K);rw[i _ (λz=>by rw[z]at hf;exact absurd (I.hok.lt m) (cg.mpr hf)) (br K)];exact I.hok.fresh hf
  .rw[al,oK _ _ tri];exact bu _ bh
end
end L2
namespace L2
open PySem PySem.Spec PySem.W PyProof.Rows
def Ei:LI->LI->Option Bool
 |x::a,y::b=>if x=y then Ei a b else some (decide (x<y))
 |_,_=>none
def lD(a b:LI):Bool:=(Ei a b).getD (decide (a.length<b.length))
def mR(b:LI):lD [] b=decide (0<b.length):=by cases b<;>rfl
def oH(a:LI):lD a []=false:=by cases a<;>simp[lD,Ei]
def lT(x y:Int)(a b:LI):lD (x::a) (y::b)=if x=y then lD a b else decide (x<y):=by
 unfold lD;rw[Ei];by_cases h:x=y
 .rw[aQ h,aQ h];simp
 .rw[aR h,aR h];rfl
theorem yP:∀{a b:LI},lD a b=true->lD b a=false
 |[],b,h=>oH b
 |a::l,[],h=>by rw[oH]at h;cases h
 |x::a,y::b,h=>by
  rw[lT]at h ⊢;by_cases e:x=y
  .rw[aQ e]at h;rw[aQ e.symm];exact yP h
  .rw[aR e]at h;rw[aR (λz=>e z.symm)];have:=of_decide_eq_true h;exact aB (by omega)
theorem yb:∀{a b c:LI},lD b a=false->lD c b=false->lD c a=false
 |[],b,c,_,_=>oH c
 |x::a,[],c,h,_=>by rw[mR]at h;simp at h
 |x::a,y::b,[],_,h=>by rw[mR]at h;simp at h
 |x::a,y::b,z::c,e,d=>by
  rw[lT]at e d ⊢;by_cases g:y=x
  .rw[aQ g]at e;by_cases f:z=y
   .rw[aQ f]at d;rw[aQ (f.trans g)];exact yb e d
   .rw[aR f]at d;rw[aR (by omega),<-g];exact d
  .rw[aR g]at e;have e:=of_decide_eq_false e;by_cases f:z=y
   .rw[aR (by omega)];exact aB (by omega)
   .rw[aR f]at d;have d:=of_decide_eq_false d;rw[aR (by omega)];exact aB (by omega)
theorem rP:∀a:LI,lD a a=false
 |[]=>rfl
 |x::a=>by rw[lT,aQ rfl];exact rP a
theorem vI:∀{a b:LI},lD a b=false->lD b a=false->a=b
 |[],[],_,_=>rfl
 |[],y::b,h,_=>by rw[mR]at h;simp at h
 |x::a,[],_,h=>by rw[mR]at h;simp at h
 |x::a,y::b,h1,h2=>by
  rw[lT]at h1 h2;by_cases e:x=y
  .rw[aQ e]at h1;rw[aQ e.symm]at h2;rw[e,vI h1 h2]
  .rw[aR e]at h1;rw[aR (λz=>e z.symm)]at h2;have:=of_decide_eq_false h1;have:=of_decide_eq_false h2;omega
abbrev Ky:=Int×LI
def qE(f g:Ky):Bool:=if f.1=g.1 then lD f.2 g.2 else decide (f.1<g.1)
def BJ{f g:Ky}(h:qE f g=true):qE g f=false:=by
 unfold qE at h ⊢;by_cases e:f.1=g.1
 .rw[aQ e]at h;rw[aQ e.symm];exact yP h
 .rw[aR e]at h;rw[aR (λz=>e z.symm)];have:=of_decide_eq_true h;exact aB (by omega)
def AU{a b c:Ky}(e:qE b a=false)(d:qE c b=false):qE c a=false:=by
 unfold qE at e d ⊢;by_cases g:b.1=a.1
 .rw[aQ g]at e;by_cases f:c.1=b.1
  .rw[aQ f]at d;rw[aQ (f.trans g)];exact yb e d
  .rw[aR f]at d;rw[aR (by omega),<-g];exact d
 .rw[aR g]at e;have e:=of_decide_eq_false e;by_cases f:c.1=b.1
  .rw[aR (by omega)];exact aB (by omega)
  .rw[aR f]at d;have d:=of_decide_eq_false d;rw[aR (by omega)];exact aB (by omega)
def E2(fs:List Ky)(d:Ky):pX λi j=>qE (fs.getD i d) (fs.getD j d):=⟨λp q=>AU p q,λp=>BJ p⟩
section
variable {prog:Program}{w:World}{A:Around}{E:Vq->Shared->Prop}{s:Sq}
theorem yl{R:Oq Fin×Unit->Shared->Prop}{a:Vq×Value->Option Fin×Unit->Sem (ForInStep (Option Fin×Unit))}
  (d:∀(n m:Int) (t u:Tok) (b:ForInStep (Option Fin×Unit)->Shared->Prop),(n=m->b (.yield (none,())) s)->(n≠m->b (.done (some (.done (.ret (.bool (decide (n<m))))),())) s)->wpAny (model prog w) A (a (.int n t,.int m u) (none,())) b E s)
  : ∀{g j:List Vq} {i f:LI},IntsAre g i->IntsAre j f->(∀o,Ei i f=o->R (o.map λc=>Fin.done (.ret (.bool c)),()) s)->wpAny (model prog w) A (forIn (g.zip j) (none,()) a) R E s
 |_,_,_,_,.nil,_,h=>by rw[List.zip_nil_left,bZ];exact ao (h none (by simp[Ei]))
 |_,_,_,_,.cons _ _ _,.nil,h=>by rw[List.zip_nil_right,bZ];exact ao (h none (by simp[Ei]))
 |_,_,_,_,.cons n t hx,.cons m u hy,h=>by
  rw[List.zip_cons_cons,bU];refine aq (d n m t u _ (λe=>?_) λe=>?_)
  .exact yl d hx hy λo k=>h o (by rw[Ei,aQ e];exact k)
  .exact ao (h (some (decide (n<m))) (by rw[Ei,aR e]))
theorem rD{a b:Addr}{v f:Obj}{j p:Array Vq}{H B:Nat}{q g:LI}{P:Fin->Shared->Prop}(i:s.heap.get? a=some v)(r:v.data=.seq j H)(d:s.heap.get? b=some f)(l:f.cls=.type "tuple")(k:f.data=.seq p B)
  (y:IntsAre j.toList q) (x:IntsAre p.toList g) (h:P (.done (.ret (.bool (lD q g)))) s) :
  wpAny (model prog w) A (Builtin.«tuple.__lt__» ⟨[.ref a,.ref b],[]⟩) P E s:=by
 show wpAny _ _ (isInstance (.ref b) (.type "tuple") >>= _) _ _ s;refine aq (wpAny_isInstance ⟨f,d,l⟩ isSubtype_tuple_tuple ?_);simp only[cx,bV,if_false];refine aq (wpAny_tupleItemsOf i r ?_);refine aq (wpAny_tupleItemsOf d k ?_);refine aq (yl (s:=s) (λn m t u J D z=>?_) y x λo F=>?_)
 .refine aq (wpAny_eqBool_int ?_);by_cases e:n=m
  .rw[show (n==m)=true from beq_iff_eq.mpr e];simp only[cx,bV,if_false];exact ao (D e)
  .rw[show (n==m)=false from beq_eq_false_iff_ne.mpr e];simp only[cy,if_true];refine aq (wpAny_rule ?_);refine aq (wpAny_lt_int ?_);exact aq (ao (ao (z e)))
 .have C:j.size=q.length:=by rw[<-bq,y.length]
  have I:p.size=g.length:=by rw[<-bq,x.length]
  unfold lD at h;rw[F]at h;cases o with
  |none=>refine ao ?_;rw[C,I];exact h
  |some c=>exact ao h
end
end L2
namespace L2
open PySem PySem.Spec PySem.W PyProof.Rows
structure Ow(X:Cx)(dU:List (Addr×Obj))(a:Addr):Prop where
 l:a≠X.env.locals
 f:a∉X.fs
 z:X.s₀.heap.objs.size<=a
 c:∀x c,X.env.cells.lookup x=some c->c≠a
 p:∀q∈X.pn++dU,q.1≠a
section
variable {X:Cx}{dU:List (Addr×Obj)}{σ:St}{H:Hp}{s:Sq}{a:Addr}
def eC.ow(I:eC X dU σ H s)(h:s.heap.objs.size<=a):Ow X dU a where
 l:=br (aE I.lt h)
 f:=I.nofs h
 z:=aN I.sz h
 c:=λx c e q=>by obtain⟨v,o,b,_⟩:=I.cell x c e;subst q;exact absurd (aL b) (cg.mpr h)
 p:=λq d e=>by have:=aL (I.pin q d).1;rw[e]at this;exact absurd this (cg.mpr h)
def Ow.turn{h':Heap}{t':Nat}(o:Ow X dU a)(I:eC X dU σ H s)(d:H a=none)(k:∀b u,b≠a->s.heap.get? b=some u->h'.get? b=some u):eC X dU σ H {s with heap:=h',toks:=t'}:=I.turned k d o.l (.inr o.z) o.c o.p
def Ow.stk(o:Ow X dU a)(I:eC X dU σ H s):a∉yd X.stack:=λz=>by
 rcases aF.mp (I.stkSub a z) with e|e
 .exact o.l e
 .exact o.f e
end
def rh(H:Hp)(b:Addr)(f:Ky):Prop:=∃a,H b=some (.tup [.int f.1,.ref a])/\H a=some (.tup (f.2.map V.int))
def xT(H:Hp)(v:Vq)(f:Ky):Prop:=∃a,v=.ref a/\rh H a f
def rh.mono{H a:Hp}{b:Addr}{f:Ky}(x:rh H b f)(h:eB H a):rh a b f:=let ⟨b2,e1,e2⟩:=x;⟨b2,h _ _ e1,h _ _ e2⟩
def ky(f:Ky):Ky:=(-f.1,f.2)
section
variable {X:Cx}{dU:List (Addr×Obj)}{σ:St}{H:Hp}{s:Sq}{A:Around}{E:Vq->Shared->Prop}
def uD(I:eC X dU σ H s){a:Addr}{f:Ky}(x:rh H a f):∃o t b n o2 c h,s.heap.get? a=some o/\o.cls=.type "tuple" /\o.data=.seq #[.int f.1 t,.ref b] n/\s.heap.get? b=some o2/\o2.cls=.type "tuple" /\o2.data=.seq c h/\IntsAre c.toList f.2/\H b=some (.tup (f.2.map V.int)):=by
 obtain⟨b,k,j⟩:=x;obtain⟨_,c,r,o,m,q,n,p,_⟩:=(show fK X.prog X.w H s.heap a (.tup _) from I.hok a _ k);obtain⟨_,d,l,o2,g,e,h,i,_⟩:=(show fK X.prog X.w H s.heap b (.tup _) from I.hok b _ j);cases r with
 |cons r1 r'=>
  cases r' with
  |cons r3 r4=>cases r4;obtain⟨t,rfl⟩:=r1;cases (show _=Value.ref b from r3);exact⟨o,t,b,n,o2,d.toArray,h,m,q,p,g,e,i,by simpa using qo l,j⟩
def Eg(hu:A.units+2<cLine)(I:eC X dU σ H s){ks:List Vq}{fs:List Ky}(L:Paired (xT H) ks fs)(d:Ky){i j:Nat}{C:Bool->Shared->Prop}(R:i<ks.length)(Q:j<ks.length)(h:C (qE (fs.getD i d) (fs.getD j d)) s) :
  kas_ask X.prog X.w A (tuples' (Value.type "int" != Value.type "tuple")) ks i j C s:=by
 obtain⟨f,e1,a,e2,xa⟩:=ki L (ag R);obtain⟨g,K,a',p,k⟩:=ki L (ag Q);rw[show fs.getD i d=f by rw[af,e1];rfl,show fs.getD j d=g by rw[af,K];rfl]at h;obtain⟨o,t,Y,n,o2,S,n2,h1,h2,U,D,N,Z,h7,h8⟩:=uD I xa;obtain⟨o',t',v,n',r,P,n2',B,h2',u,c,b,l,J,m⟩:=uD I k;unfold kas_ask;rw[af,ag R,af,ag Q];show wpAny _ A (keyLt' _ ks[i] ks[j]) C _ _;rw[e2,p];refine kat_lt h1 U B u ?_;show KatLex _ _ _ _ false _ [(.int f.1 t,.int g.1 t'),(.ref Y,.ref v)] 0 _;unfold qE at h;refine kat_cons (wpAny_eqBool_int ?_);by_cases e:f.1=g.1
 .rw[aQ e]at h;rw[show (f.1==g.1)=true from beq_iff_eq.mpr e];refine kat_yes (kat_cons (wpAny_eqBool_tuple (knd:=iC X.prog X.w) (x:=f.2.map Sum.inl) (y:=g.2.map Sum.inl) (by omega) (wG I.hok (by rw[aI];exact h8)) (wG I.hok (by rw[aI];exact m)) ?_));by_cases z:f.2=g.2
  .rw[aC (show f.2.map (Sum.inl:Int->kg)=g.2.map Sum.inl by rw[z])];rw[z,rP]at h;exact kat_yes (kat_nil h)
  .have ni:f.2.map (Sum.inl:Int->kg)≠g.2.map Sum.inl:=λq=>z ((cA λ_ _ w=>Sum.inl.inj w).mp q);rw[aB ni];refine kat_no ?_;refine kat_one _ _ ?_;refine wpAny_richCompare_same_room (op:=.Lt) ⟨o2,D,N⟩ ⟨r,c,b⟩ F.slot_tuple_lt (wpAny_call_entry F.slot_tuple_lt ⟨o2,D,N⟩ F.entry_tuple_lt (rD D Z c b l h7 J ⟨_,rfl,(λq=>nomatch q),h⟩) (F.args_tuple_lt_2 _ _)) (by omega)
 .rw[aR e]at h;rw[show (f.1==g.1)=false from beq_eq_false_iff_ne.mpr e];refine kat_no ?_;exact oneLt_int h
theorem Cm(I:eC X dU σ H s){ks:List Vq}{fs:List Ky}(m:Paired (xT H) ks fs)(g:1<=ks.length){Q:SortKind->Shared->Prop}(h:Q (tuples' (Value.type "int" != Value.type "tuple")) s) :
  wpAny (model X.prog X.w) A (keyKind' ks.toArray) Q E s:=by
 have go:∀{ks:List Vq} {fs:List Ky},Paired (xT H) ks fs->∃b,KatTups s.heap ks b/\b.length=ks.length/\∀f∈b,∃i t,f=Value.int i t:=λ{ks fs} p=>by
  induction p with
  |nil=>exact⟨[],trivial,rfl,λ_ z=>nomatch z⟩
  |cons x r ih=>
   obtain⟨b,d,j,e⟩:=ih;obtain⟨a,rfl,u⟩:=x;obtain⟨o,t,v,n,o2,k,y,g,q,l,_⟩:=uD I u;refine⟨_::b,KatTups.cons g q l rfl d,by simp[j],λf c=>?_⟩;rcases aF.mp c with rfl|c
   .exact⟨_,_,rfl⟩
   .exact e f c
 obtain⟨b,d,j,e⟩:=go m;refine kat_kind d (by omega) (T:=.type "int") (λf c=>?_) (by decide) h;obtain⟨i,B,rfl⟩:=e f c;exact Looks.of_pure rfl
def JC(X:Cx)(dU:List (Addr×Obj))(σ:St)(H0:Hp)(D a f P:Addr)(b:Obj)(q:Str)(c d:Nat)(ks:List Vq)(fs:List Ky)(s:Sq):Prop:=∃H e,eC X dU σ H s/\eB H0 H/\H D=none/\H a=none/\H f=none/\s.heap.get? D=some (seqObj "list" #[] d)/\s.heap.get? a=some (seqObj "list" ks.toArray e)/\s.heap.get? f=some b/\mh H P q c/\Paired (xT H) ks fs
def Bh(X:Cx)(dU:List (Addr×Obj))(σ:St)(f P:Addr)(c:Obj)(q:Str)(e:Nat):Prop:=∀(s:Sq) (H:Hp) (b:Addr) (g:Ky),eC X dU σ H s->s.heap.get? f=some c->mh H P q e->rh H b g->
 codeAny (model X.prog X.w) X.A.in1.in1 (.call (.ref f) ⟨[.ref b],[]⟩) (CR mw X.stack X.prog X.w H s (λv d=>∃p,v=.ref p/\H p=none/\∃a,H b=some (.tup [.int g.1,.ref a])/\d=e6 H p (.tup [.int (-g.1),.ref a])) E0) s
theorem BN{D J f P:Addr}{S:Obj}{q:Str}{U e1:Nat}{ks:List Vq}{fs:List Ky}{H0:Hp}{b:Addr}{g:Ky}(oD:Ow X dU D)(oS:Ow X dU J)(oF:Ow X dU f)(hL:Bh X dU σ f P S q U)(hg:rh H0 b g)
  (hx:JC X dU σ H0 D J f P S q U e1 ks fs s) {Q:Vq->Shared->Prop} (hQ:∀k j H e,eC X dU σ H j->eB H0 H->H D=none->H J=none->H f=none->j.heap.get? D=some (seqObj "list" #[] e1)->j.heap.get? J=some (seqObj "list" ks.toArray e)->j.heap.get? f=some S->mh H P q U->Paired (xT H) (ks++[k]) (fs++[ky g])->Q k j) :
  wpAny (model X.prog X.w) X.A.in1.in1 (call (.ref f) [.ref b]) Q E s:=by
 obtain⟨H,e,I,sm,nD,nS,nF,gD,Z,K,tb,pr⟩:=hx;refine wpAny_call (codeAny_mono (hL s H b g I K tb (hg.mono sm)) λr j B=>?_);cases r with
 |error e=>exact B.elim
 |ok fl=>
  cases fl with
  |next=>exact False.elim B
  |brk=>exact False.elim B
  |cont=>exact False.elim B
  |ret u=>
   obtain⟨v,H',os,F,un,L,rv,p,rfl,hp,y,Y,rfl⟩:=B;cases (show u=Value.ref p from rv);obtain⟨hh,gg,d,t,R⟩:=j;obtain rfl:R=s.os:=os;have I':=I.call (t':=t) (d':=d) un L F (λb z=>absurd z (by simp));have i:eB H (e6 H p (.tup [.int (-g.1),.ref y])):=λc o C=>by rw[eA (eJ C hp)];exact .of C
   have x:∀{c:Addr} {o:Obj},Ow X dU c->H c=none->s.heap.get? c=some o->hh.get? c=some o/\e6 H p (.tup [.int (-g.1),.ref y]) c=none:=λ{c o} ow n C=>⟨un.keep c o C n (ow.stk I) (by simp),un.free c o C n (by simp)⟩;obtain⟨N,x1,x2⟩:=hg.mono sm;rw[Y]at x1;have:y=N:=by cases x1;rfl
   subst this;refine hQ _ _ _ e I' (sm.trans i) (x oD nD gD).2 (x oS nS Z).2 (x oF nF K).2 (x oD nD gD).1 (x oS nS Z).1 (x oF nF K).1 (tb.grow I.hok λps ep=>?_) ?_
   .exact i _ _ ep
   .have ap:∀{l:List Vq} {m:List Ky},Paired (xT H) l m->Paired (xT (e6 H p (.tup [.int (-g.1),.ref y]))) (l++[.ref p]) (m++[ky g]):=λ{l m} z=>by
     induction z with
     |nil=>exact .cons ⟨p,rfl,y,eh,i _ _ x2⟩ .nil
     |cons h t ih=>exact .cons (let ⟨a,ea,xa⟩:=h;⟨a,ea,xa.mono i⟩) ih
    exact ap pr
end
section
variable {X:Cx}{dU:List (Addr×Obj)}{σ:St}{H:Hp}{s:Sq}{E:Vq->Shared->Prop}
def zw{a:Type}{p:Array Nat}{l:List a}(d:a)(c:si l.length p):(p.toList.map λi=>l.getD i d).Perm l:=by
 have b:p.toList.Perm (List.range l.length):=by simpa using c.toList
 have:=b.map λi=>l.getD i d;rwa [qG]at this
theorem wM{D f P:Addr}{fo:Obj}{q:Str}{c' n:Nat}{bs:List Addr}{fl:List Ky}{Q:Fin->Shared->Prop}(hu:X.A.units+8<cLine)(I:eC X dU σ H s)(S:Ow X dU D)(oF:Ow X dU f)(nD:H D=none)(nF:H f=none)(hDf:D≠f)(gD:s.heap.get? D=some (seqObj "list" (bs.map Value.ref).toArray n))(gF:s.heap.get? f=some fo)(tb:mh H P q c')
  (hL:Bh X dU σ f P fo q c') (hf:Paired (rh H) bs fl) (h64:fl.length<64)
  (h:∀K t d r,eC X dU σ K t->eB H K->K D=some (.lst (d.map V.ref))->(∀R:Addr->Ky->Prop,Paired R bs fl->Paired R d r)->r.Perm fl->r.Pairwise (λa b=>qE (ky b) (ky a)=false)->Q (.done (.ret .none)) t) :
  wpAny (model X.prog X.w) X.A.in1.in1 (ksk_tree D (.ref f) false) Q E s:=by
 have N:bs.length=fl.length:=Paired.length hf;have sl:64<=sizeLine:=by decide
 have hz:(bs.map Value.ref).toArray.size=fl.length:=by simp[N]
 unfold ksk_tree;refine aq (listItems_at gD rfl ?_);refine aq (listUpdate_at gD rfl ?_ (by rw[hz];omega) (bD _));obtain⟨e1,gD1⟩:∃e1,(s.heap.update D (Obj.mapSeq λ_=>(#[]:Array Vq))).get? D=some (seqObj "list" #[] e1):=⟨_,get?_update_seq gD λ_=>#[]⟩;have I1:eC X dU σ H {s with heap:=s.heap.update D (Obj.mapSeq λ_=>(#[]:Array Vq))}:=S.turn (t':=s.toks) I nD λb u F e=>by rw[Heap.get?_update_ne _ _ _ _ F];exact e
 have gF1:(s.heap.update D (Obj.mapSeq λ_=>(#[]:Array Vq))).get? f=some fo:=by rw[Heap.get?_update_ne _ _ _ _ (Ne.symm hDf)];exact gF
 refine aq (seqEpoch_at gD1 rfl ?_);refine aq (wpAny_newTuple ?_ (by simp[N];omega));have I2:=I1.kept (t':=s.toks) λb u e=>ae (seqObj "tuple" (bs.map Value.ref).toArray.toList.toArray 0) e;refine aq (wpAny_newList ?_ (bD _));have I3:=I2.kept (t':=s.toks) λb u e=>ae (seqObj "list" [].toArray 0) e;refine wpAny_holding ?_;dsimp only at I2 I3 ⊢;generalize hh:(s.heap.update D (Obj.mapSeq λ_=>(#[]:Array Vq))).push (seqObj "tuple" (bs.map Value.ref).toArray.toList.toArray 0)=h2 at I2 I3 ⊢;have gD3:(h2.push (seqObj "list" [].toArray 0)).get? D=some (seqObj "list" #[] e1):=ae _ (by rw[<-hh];exact ae _ gD1);have gF3:(h2.push (seqObj "list" [].toArray 0)).get? f=some fo:=ae _ (by rw[<-hh];exact ae _ gF1);have oS:Ow X dU h2.objs.size:=I2.ow (aK _);have nS:H h2.objs.size=none:=I2.hok.fresh (aK _);have neD:D≠h2.objs.size:=λz=>by have:=aL (show h2.get? D=some _ by rw[<-hh];exact ae _ gD1);rw[z]at this;exact absurd this (a9 _)
 have neF:f≠h2.objs.size:=λz=>by have:=aL (show h2.get? f=some _ by rw[<-hh];exact ae _ gF1);rw[z]at this;exact absurd this (a9 _)
 unfold ksk_rest;refine aq (wpAny_rule ?_);rw[List.forIn_toArray];refine aq (ksk_fold (λi t=>∃ks,ks.length=i/\JC X dU σ H D h2.objs.size f P fo q c' e1 ks ((fl.take i).map ky) t) (bs.map Value.ref) 0 _ ⟨[],rfl,H,0,I3,.refl _,nD,nS,nF,gD3,au _ rfl,gF3,tb,.nil⟩ (λj x t hx hI=>?_) λt hI=>?_)
 .obtain⟨ks,o,hS⟩:=hI;rw[aG]at hS o;rw[aw]at hx;obtain⟨b,F,rfl⟩:=cB.mp hx;obtain⟨g,hg,xg⟩:=ki hf F;have hj:j<fl.length:=(aa.mp hg).1;refine aq (wpAny_attempt (BN S oS oF hL xg hS λk m K e J sm n1 n2 n3 g1 g2 g3 tb' pr=>?_));dsimp only;have J':eC X dU σ K {m with heap:=m.heap.update h2.objs.size (Obj.mapSeq (·.push k))}:=oS.turn (t':=m.toks) J n2 λb u F e=>by rw[Heap.get?_update_ne _ _ _ _ F];exact e
  refine aq (listUpdate_at g2 rfl ?_ (by rw[bz,o];omega) (by show (ks.toArray.push k).size<=_;rw[Array.size_push,bz,o];omega));obtain⟨e2,ge2⟩:∃e2,(m.heap.update h2.objs.size (Obj.mapSeq (·.push k))).get? h2.objs.size=some (seqObj "list" (ks++[k]).toArray e2):=⟨_,by rw[show (ks++[k]).toArray=ks.toArray.push k by simp];exact get?_update_seq g2 (·.push k)⟩;refine ao ⟨rfl,ks++[k],by simp[o],K,e2,J',sm,n1,n2,n3,?_,?_,?_,tb',?_⟩
  .rw[Heap.get?_update_ne _ _ _ _ neD];exact g1
  .exact ge2
  .rw[Heap.get?_update_ne _ _ _ _ neF];exact g3
  .rw[aG,List.take_add_one,hg];simpa using pr
 .obtain⟨ks,o,K,e,J,sm,n1,n2,n3,g1,g2,g3,tb',pr⟩:=hI;rw[aG,ax]at o pr;rw[cC (by omega)]at pr;refine aq (listItems_at g2 rfl ?_);have fin:∀(d:List Addr) (r:List Ky) (st:SortSt),(arrOf st).map (·.2)=(d.map Value.ref).toArray->failedOf st=none->d.length=bs.length->(∀R:Addr->Ky->Prop,Paired R bs fl->Paired R d r)->r.Perm fl->r.Pairwise (λa b=>qE (ky b) (ky a)=false)->
    wpAny (model X.prog X.w) X.A.in1.in1 (ksk_tail D false e1 (.ref h2.objs.size) st) Q E t:=λd r st ho U i5 pf pm pw=>by
   unfold ksk_tail;dsimp only;refine aq (listUpdate_at g2 rfl ?_ (by rw[bz,o];omega) (bD _));refine aq (wpAny_letGo ?_);have J1:eC X dU σ K {t with heap:=t.heap.update h2.objs.size (Obj.mapSeq λ_=>#[])}:=oS.turn (t':=t.toks) J n2 λb u F e=>by rw[Heap.get?_update_ne _ _ _ _ F];exact e
   have Y:(t.heap.update h2.objs.size (Obj.mapSeq λ_=>#[])).get? D=some (seqObj "list" #[] e1):=by rw[Heap.get?_update_ne _ _ _ _ neD];exact g1
   refine aq (seqEpoch_at Y rfl ?_);simp only[bV,if_false];rw[ho];have hsz:(d.map Value.ref).toArray.size=fl.length:=by simp[i5,N]
   refine aq (listUpdate_at Y rfl ?_ (bD _) (by rw[hsz];omega));rw[U];simp only[bne_self_eq_false,bV,if_false];have J2:=S.turn (h':=(t.heap.update h2.objs.size (Obj.mapSeq λ_=>#[])).update D (Obj.mapSeq λ_=>(d.map Value.ref).toArray)) (t':=t.toks) J1 n1 λb u F e=>by rw[Heap.get?_update_ne _ _ _ _ F];exact e
   obtain⟨e3,g4⟩:∃e3,((t.heap.update h2.objs.size (Obj.mapSeq λ_=>#[])).update D (Obj.mapSeq λ_=>(d.map Value.ref).toArray)).get? D=some (seqObj "list" (d.map Value.ref).toArray e3):=⟨_,get?_update_seq Y λ_=>(d.map Value.ref).toArray⟩;have vr:∀l:List Addr,eS (l.map V.ref) (l.map Value.ref):=λl=>by
    induction l with
    |nil=>exact .nil
    |cons b l ih=>exact .cons rfl ih
   refine ao (h (e6 K D (.lst (d.map V.ref))) _ d r (J2.track n1 (.inr S.z) S.l S.c S.p (show fK X.prog X.w _ _ _ (.lst _) from ⟨by rw[ax,i5,N];omega,d.map Value.ref,e3,vr d,g4⟩)) (sm.trans λb u e=>by rw[eA (eJ e n1)];exact .of e) eh pf pm pw)
  have kz:ks.toArray.zip (bs.map Value.ref).toArray=ks.toArray.zip (bs.map Value.ref).toArray:=rfl;unfold ksk_end;dsimp only;simp only[bV,if_false];by_cases v:(bs.map Value.ref).toArray.size<2
  .rw[aQ v,aQ v];refine aq (ao ?_);rw[StateT.run_pure];refine aq (ao ?_);refine fin bs fl (SortSt.mk' general' (ks.toArray.zip (bs.map Value.ref).toArray) #[] 7 none) ?_ rfl rfl (λ_ z=>z) (List.Perm.refl _) ?_
   .show (ks.toArray.zip (bs.map Value.ref).toArray).map (·.2)=_;apply Array.toList_inj.mp;simp[List.map_snd_zip,o]
   .rw[hz]at v;match fl,v with
    |[],_=>exact .nil
    |[_],_=>exact cD _ _
  .rw[aR v,aR v];rw[hz]at v;refine aq (Cm J pr (by omega) ?_);refine aq (wpAny_mono (kat_run (ks:=ks) (vs:=bs.map Value.ref) (Q:=λy m=>∃p:Array Nat,si fl.length p/\BQ (λi j=>qE ((fl.map ky).getD i (0,[])) ((fl.map ky).getD j (0,[]))) p fl.length/\arrOf y=p.map (kas_item (ks.toArray.zip (bs.map Value.ref).toArray))/\failedOf y=none/\m=t)
    (G:=λp m=>si fl.length p/\BQ (λi j=>qE ((fl.map ky).getD i (0,[])) ((fl.map ky).getD j (0,[]))) p fl.length/\m=t)
    (by rw[o,ax]) (by rw[ax];omega) (by rw[ax];omega) (λp y m a1 a2 a3 a4=>⟨p,a4.1,a4.2.1,a2,a3,a4.2.2⟩)
    (yO (lt:=λi j=>qE ((fl.map ky).getD i (0,[])) ((fl.map ky).getD j (0,[]))) (n:=fl.length) (λi j C L hj hC=>Eg (by show X.A.units+1+1+2<_;omega) J pr (0,[]) (by omega) (by omega) hC) (by rw[ax,N];exact AA (E2 _ _) (by omega) λp Z hu=>⟨Z,hu,rfl⟩))) ?_ λ_ _ z=>z)
   rintro⟨⟨⟩,y⟩ m ⟨p,Z,hup,har,U,rfl⟩;have B:∀i∈p.toList,i<fl.length:=λi L=>by have:i∈(List.range fl.length).toArray:=Z.mem_iff.mp (by simpa using L);simpa using this
   refine fin (p.toList.map λi=>bs.getD i 0) (p.toList.map λi=>fl.getD i (0,[])) y ?_ U (by rw[ax,bq,jO Z,N]) (λR z=>qY _ _ _ λi L=>uJ z 0 (0,[]) (by rw[N];exact B i L)) (zw _ Z) ?_
   .rw[kat_snds (by rw[o,ax]) har,aI];congr 1;refine cE λi L=>?_;have:=B i L;simp[N,this]
   .rw[cF,List.pairwise_iff_getElem];intro i j L hj hij;have hs:p.size=fl.length:=jO Z;have hj':j<p.size:=by simpa using hj
    have hi':i<p.size:=by simpa using L
    have:=hup i j hij (by omega);rw[cu,cu,Array.getElem?_eq_getElem hj',Array.getElem?_eq_getElem hi']at this;have gm:∀k,k<fl.length->(fl.map ky).getD k (0,[])=ky (fl.getD k (0,[])):=λk hk=>by simp[hk]
    simp only[Option.getD_some]at this;rw[gm _ (B _ (by simp)),gm _ (B _ (by simp))]at this;simpa using this
end
end L2
namespace L2
open PySem PySem.Spec PySem.W PyProof.Rows
section
variable {X:Cx}
abbrev jw(x:Str)(p1 p2 p3 p4 p5 p6 p7 p8:Pos)(j1 j2 j3:Nat):Expr:=.Tuple [.UnaryOp .USub (.Subscript (.Name x p1) (.Constant (.int 0) j1 p2) p3) p4,.Subscript (.Name x p5) (.Constant (.int 1) j2 p6) p7] j3 p8
def Gv{x:Str}{p1 p2 p3 p4 p5 p6 p7 p8:Pos}{j1 j2 j3:Nat}(k:X.N[0]? = some x)(g:IR X.env.scope x)(i:(x==("__debug__" : Str))=false)(a:(x==("__classdict__" : Str))=false) :
  ∃t,PE X (jw x p1 p2 p3 p4 p5 p6 p7 p8 j1 j2 j3) t/\∀(f:St) (H:Hp) (Q:VK) (b c:Addr) (d:Int),f[0]? = some (some (.ref b))->H b=some (.tup [.int d,.ref c])->(∀p,H p=none->Q (.ref p) (e6 H p (.tup [.int (-d),.ref c])))->t f H Q:=by
 refine⟨_,AB (kG (FR BD (CY iJ (mG k g i a) wO λ_ _=>rfl)) (kG (CY iJ (mG k g i a) wO λ_ _=>rfl) q0)),λf H Q b c d e h q=>?_⟩;exact⟨_,e,b,_,_,_,rfl,rfl,jv.of h,yS (j:=0) rfl,_,rfl,_,e,b,_,_,_,rfl,rfl,jv.of h,yS (j:=1) rfl,(by show 2<=sizeLine;decide),λp l=>q p l⟩
def Gu{D:List (Addr×Obj)}{C:St}{f P:Addr}{q x:Str}{params:Arguments}{a:Scope}{j c:Vq}{d k:Nat}{p1 p2 p3 p4 p5 p6 p7 p8:Pos}{j1 j2 j3:Nat}(m:e8 (k+3) X.A)(S:eZ [x] [x] a)(E:a.names.lookup x=some .local)
  (z:(x==("__debug__" : Str))=false) (e:(x==("__classdict__" : Str))=false)
  (l:∀u:Vq,bindArgs (kla_fn "<lambda>" q params (jw x p1 p2 p3 p4 p5 p6 p7 p8 j1 j2 j3) a [] j (.ref d) c) ⟨[u],[]⟩=pure [(x,u)]) :
  Bh X D C f P (kla_obj "<lambda>" q params (jw x p1 p2 p3 p4 p5 p6 p7 p8 j1 j2 j3) a [] j d c) q d:=by
 intro s H b g I o v y;obtain⟨h,i,F⟩:=y;obtain⟨t,B,n⟩:=Gv (X:=(jJ mw X.prog X.w X.K X.mg X.base [x] q a f (.ref d) X.A.in1.in1 X.stack s H E0).nox) (p1:=p1) (p2:=p2) (p3:=p3) (p4:=p4) (p5:=p5) (p6:=p6) (p7:=p7) (p8:=p8) (j1:=j1) (j2:=j2) (j3:=j3) (x:=x) rfl (.inl E) z e;refine EL (k:=k) (vs:=[.ref b]) (us:=[.ref b]) o (v.rec' I.hok) S rfl m.in1.in1 I.env0.in1.in1 (.of_eq (l (.ref b))) (.cons rfl .nil) ⟨t,B,n _ _ _ b h g.1 rfl i λp r=>⟨p,rfl,r,h,i,rfl⟩⟩
end
def Ao(a:Heap)(mg:Str->Option Value)(x:Str)(b:Vq):Prop:=∃c P,b=.ref c/\CodeHd a c P/\(c,P)∈a.life.ids/\a.CodeRec (.ref c) x/\a.BuiltinsAt mg P
def xD(K:W.Frag)(mg:Str->Option Value)(a:Heap)(x:Str):Prop:=∀f d e c b,mg x=some (.ref f)->K.lookup f=some ⟨d,e,.func c,b⟩->Ao a mg x c.code
def B1{P:Program}{w:World}{mg:Str->Option Value}{c:Heap}{x:Str}{N e:List Str}{k:Nat}{j:Sp}{K:W.Frag}{st:Stmt}(D:eN K mg x st)(L:xD K mg c x)(S:eZ N e (d8 st))
  (v:∀(kV g o:Vq) (r:Oq Addr) (a p:Vq) (us:List Vq),us.length=e.length->bindArgs (W.fnOf x x (fV st) (eU st) (d8 st) .none kV g o r a p) ⟨us,[]⟩=pure (e.zip us))
  (n:∀vs H Q E,j vs H Q E->vs.length=e.length)
  (d:∀f a A b s H vs Q E,Ao c mg x a->e8 k (A.deeper (envOfC x (d8 st) s.heap.objs.size f a))->j vs H Q E->
   ∃t,uI (jJ mw P w K mg c N x (d8 st) f a A b s H E).nox (eU st) t/\t {nx:=λ_ z=>Q .non z,rt:=Q} (hZ N vs) H):iq P w K mg c x (k+1) j:=by
 obtain⟨f,J,F,m⟩:=D.ex;have C:=F.kp;have I:=F.binds v;obtain⟨U,R,kV,g,o,r,a,p,B,rfl,u,i⟩:=F.ex;refine⟨f,_,e,Ge u i S n λA b s H vs Q E y l=>?_,m,C,I⟩;obtain⟨t,h,q⟩:=d f a A b s H vs Q E (L f _ _ _ _ m u) y l;exact⟨t,h.nox,q⟩
def Ib(X:Cx)(src:V->Hp->List Addr->Prop):Prop:=(∀x H c bs,eB H c->src x H bs->src x c bs)/\∀(e:List (Addr×Obj)) (s:Sq) (d:St) (H:Hp) (x:V) (u:Vq) (bs:List Addr) (E:Vq->Shared->Prop) (Q:List Vq->Shared->Prop),eC X e d H s->src x H bs->fw x u->
 (∀a f,(∀b o,s.heap.get? b=some o->a.get? b=some o)->Q (bs.map Value.ref) {s with heap:=a,toks:=f})->wpAny (model X.prog X.w) X.A.in1 (collect u) Q E s
def GP(K:W.Frag):V->Hp->List Addr->Prop:=λx H bs=>∃p,x=.ref p/\H p=some (.lst (bs.map V.ref))
def IA(P:Program)(w:World):V->Hp->List Addr->Prop:=λx H bs=>∃a b,x=.ref a/\H a=some (pj P w a b)/\bs=b.map (·.2.1)
section
variable {X:Cx}
def AJ:Ib X (GP X.K):=by refine⟨λx H H' bs h ⟨p,e1,e2⟩=>⟨p,e1,h _ _ e2⟩,λj s i H x u bs E Q I h r q=>?_⟩;obtain⟨p,rfl,e⟩:=h;cases r;obtain⟨d,g,f,a⟩:=I.list (iY.of e);have c:=rV g;subst c;refine collect_list f.isList (q _ s.toks λb o e=>?_) (by rw[ax]at a ⊢;exact a);rw[Heap.get?_update_ne _ _ _ _ (aM (aL e)),Heap.get?_push_ne _ _ _ (aM (aL e))];exact e
theorem vO{prog:Program}{w:World}{A:Around}{E:Vq->Shared->Prop}{s:Sq}{T:String}{r d:Addr}{n:Nat}{P:Nat->Value->Prop}{m:Heap->Prop}{Q:List Vq->Shared->Prop}(K:KdlSrc prog w T r d n P m)(q:A.handled=none)(g:m s.heap)(t:n<=sizeLine)
  (h:∀h' j c,(∀b o,s.heap.get? b=some o->h'.get? b=some o)->ItemsOf P c n->Q c.toList {s with heap:=h',toks:=j}):wpAny (model prog w) A (collect (.ref r)) Q E s:=by
 unfold collect;refine aq (wpAny_runValue (codeAny_builtin entry_proto_collect' ?_));show wpAny _ _ (do again (.builtin "list.__iadd__" ⟨[<-newList [],.ref r],[]⟩)) _ _ s;have f:=K.there _ g;refine aq (wpAny_newList (ao ⟨Code.quiet_builtin _ (by decide +kernel),codeAny_builtin entry_list_iadd' ?_⟩));rw[Around.under_plain (by first|rfl|decide +kernel) (by first|rfl|decide +kernel)];refine kdl_extend (s:={s with heap:=s.heap.push {cls:=.type "list",data:=.seq #[]}}) (R:=λr l=>match r with
   |Except.ok (Flow.ret v)=>wpAny (model prog w) A (match v with
     |Value.ref a=>do
      let o <-load a
      match o.data with
       |Data.seq xs epoch=>pure xs.toList
       |x=>unsupported "internal:collect"
     |x=>unsupported "internal:collect") Q E l
   |Except.ok a=>False
   |Except.error e=>E e l) K q (K.keep _ _ g λb _ o e=>ae _ e) s.heap.objs.size (br f.1) (br f.2) (.ref s.heap.objs.size) 0 (au _ rfl) (λh' j c u p k i=>?_) t
 refine aq (wpAny_load k ?_);exact ao (h h' j c (λb o e=>p b o (aM (aL e)) (ae _ e)) i)
def Hr(C:X.calm=true):Ib X (IA X.prog X.w):=by
 refine⟨λx H H' bs h ⟨a,d,e1,e2,e3⟩=>⟨a,d,e1,h _ _ e2,e3⟩,λP s N H x u bs E Q I h r q=>?_⟩;obtain⟨a,d,rfl,e,rfl⟩:=h;cases r;obtain⟨⟨K,z,o,g,p,v,F,m,l,L⟩,_,_⟩:=(show fK X.prog X.w H s.heap a (pj X.prog X.w a d) from I.hok a _ e);have sz:g.size=d.length:=by rw[<-bq,l,ax]
 refine vO (yf K) (I.ok.hd C) (⟨o,v,F,m⟩:nJ s.heap a g p) (by rw[sz];exact z) λA y b J c=>?_;have:b.toList=(d.map (·.2.1)).map Value.ref:=by
  have D:b.size=d.length:=by rw[<-sz];exact c.1
  refine List.ext_getElem? λi=>?_;by_cases f:i<d.length
  .have k:b[i]? = some b[i]:=Array.getElem?_eq_getElem (by omega);obtain⟨en,t,n⟩:=c.2 i _ k;have j:g.toList[i]? = some en:=by simpa using t
   rw[l,aw,ag f]at j;cases j;rw[Array.getElem?_toList,k,n];simp[f];rfl
  .rw[List.getElem?_eq_none (by simpa[D] using f),List.getElem?_eq_none (by simpa using f)]
 have B:=q A y J;rw[this];exact B
def xh(src:V->Hp->List Addr->Prop)(h:TE):TE:=λi H Q=>h i H λx f=>∃bs e,src x f bs/\Paired (rh f) bs e/\e.length<64/\
 ∀D g d c,eB f g->f D=none->g D=some (.lst (d.map V.ref))->(∀R:Addr->Ky->Prop,Paired R bs e->Paired R d c)->c.Perm e->c.Pairwise (λa b=>qE (ky b) (ky a)=false)->Q (.ref D) g
def vv{k:Nat}{qn x:Str}{e:Expr}{te:TE}{src:V->Hp->List Addr->Prop}{params:Arguments}{a:Scope}{p n r v p1 p2 p3 p4 p5 p6 p7 p8:Pos}{j1 j2 j3:Nat}(hr:e8 (k+3) X.A)(L:Ao X.base X.mg qn X.env.code)(hq:qn++ ".<locals>.<lambda>" = X.env.qual++ "<lambda>")
  (S:eZ [x] [x] a) (hx:a.names.lookup x=some .local) (hb:∀(q:Str) (pm l:Vq) (c':Addr) (u:Vq),bindArgs (kla_fn "<lambda>" q params (jw x p1 p2 p3 p4 p5 p6 p7 p8 j1 j2 j3) a [] pm (.ref c') l) ⟨[u],[]⟩=pure [(x,u)])
  (U:closureFor a X.env=pure []) (y:defaultsOf params X.env=([],[])) (d:Ib X src) (he:PE X e te) (hg:Gl X "sorted") (hm:X.mg "sorted" = none)
  (g:backTo n (starEach [e] X.env)=[(false,eval e X.env)]/\starEach [e] X.env=[(false,eval e X.env)]) (hd:(x==("__debug__" : Str))=false:=by decide) (N:(x==("__classdict__" : Str))=false:=by decide) :
  PE X (.Call (.Name "sorted" p) [e] [⟨some "key",.Lambda params (jw x p1 p2 p3 p4 p5 p6 p7 p8 j1 j2 j3) a r,v⟩] n) (xh src te):=by
 intro F s E H Q I h;obtain⟨c,P,i,C,jG,Y,R⟩:=L;refine wpAny_Call_Name_kw (mP (u:=.builtin "sorted") I hg hm (by rfl) ?_);refine callWith_kw ?_ (by rw[g.1];rfl) (by rw[g.1];rfl) rfl rfl;rw[g.1];refine Calls.spliced_cons (gj (he F s E H _ I h) λu s1 ⟨xv,H1,I1,r1,bs,fl,hs,pf,h64,q⟩=>?_);refine Calls.spliced_nil ?_;refine kws_cons (AZ I1 i C jG Y R hq U y λf c' l pm B D I2 sm fr hf nf tb gf=>?_);refine kws_nil ?_;show wpAny _ X.A (call (.builtin "sorted") [u] [(Str.ofString "key",.ref f)]) _ _ D;refine call_function_entry_kw kind_sorted plain_sorted entry_sorted (ksk_s1 _ _) ?_;unfold Builtin.«sorted»;refine aq (m:=checkCount "sorted" 1 1 _) (ao ?_);refine aq (d.2 F D E B xv u bs _ _ I2 (d.1 _ _ _ _ sm hs) r1 λj t k3=>?_);have lb:bs.length=fl.length:=Paired.length pf;have sl:64<=sizeLine:=by decide
 refine aq (wpAny_newList ?_ (by rw[ax,lb];omega));have I3:eC X F E B {D with heap:=j,toks:=t}:=I2.kept k3;have I4:eC X F E B {D with heap:=j.push (seqObj "list" (bs.map Value.ref).toArray 0),toks:=t}:=I3.kept λb o e=>ae _ e;have K:f<j.objs.size:=aL (k3 _ _ gf);have n4:B j.objs.size=none:=I3.hok.fresh (aK _);refine aq (wpAny_holding (wpAny_call_entry_kw slot_list_sort ⟨_,au _ rfl,rfl⟩ entry_list_sort ?_ (ksk_l1 _ _)));show wpAny (model X.prog X.w) X.A.in1.in1 (Builtin.«list.sort» ⟨[.ref j.objs.size],[(Str.ofString "key",.ref f)]⟩) _ _ _;rw[ksk_t1];refine wM (bs:=bs) (fl:=fl) (by have:=hr.units;omega) I4 (I3.ow (aK _)) (I1.ow hf) n4 nf (br K) (au _ rfl) (ae _ (k3 _ _ gf)) tb (Gu hr S hx hd N (hb _ _ _ _)) (Paired.mapP pf λ_ _ z=>z.mono sm) h64 λH' s' bs' fl' J sm' e5 pf' Z pw=>?_;refine⟨_,rfl,ao ⟨_,rfl,.ref j.objs.size,H',J,rfl,q _ H' bs' fl' (sm.trans sm') (sm.free n4) e5 pf' Z pw⟩⟩
end
end L2
namespace L2
open PySem PySem.Spec PySem.W PyProof.Rows
def BY{H:Hp}{b:Addr}{g:Ky}(x:rh H b g):uz H (.inl g.1,g.2.map .inl) b:=let ⟨b2,e1,e2⟩:=x;⟨b2,e1,by rw[aI];exact e2⟩
section
variable {X:Cx}{pos pos':Pos}
def wa(P:Program)(w:World)(H:Hp)(h:Heap)(a:sysModules<h.objs.size):fK P w H (h.push {cls:=.type "dict",data:=.dict #[]}) h.objs.size (pj P w h.objs.size []):=Bo ⟨beq_eq_false_iff_ne.mpr (Ne.symm (aM a)),bD _,_,#[],0,au _ rfl,⟨rfl,rfl,rfl⟩,rfl,rfl,List.nodup_nil⟩
def BI(P:Program)(w:World):TE:=λ_ H Q=>∀p,H p=none->Q (.ref p) (e6 H p (pj P w p []))
def Cf:PE X (.Dict [] [] pos) (BI X.prog X.w):=λc s b H Q I h=>wpAny_Dict_empty ⟨.ref s.heap.objs.size,_,I.laid (a:=s.heap.objs.size) (o:=pj X.prog X.w s.heap.objs.size []) (t':=s.toks) (λ_ _ q=>ae _ q) (aK _) (wa _ _ _ s.heap I.big),rfl,h _ (I.hok.fresh (aK _))⟩
def Cc(P:Program)(w:World)(f d:TE):TE:=λc H Q=>∀p,H p=none->f c (e6 H p (pj P w p [])) λx e=>d c e λy a=>a p=some (pj P w p [])/\∃k b,x=.ref b/\uz a k b/\∀r,fw y r->Q (.ref p) (e6 a p (pj P w p [(k,b,r)]))
def Cr{k v:Expr}{i d:TE}(R:X.A.units+2<cLine)(p:PE X k i)(D:PE X v d):PE X (.Dict [some k] [v] pos) (Cc X.prog X.w i d):=by intro m s l H Q I h;have E:=I.hok.fresh (aK s.heap.objs.size);have F:=I.laid (a:=s.heap.objs.size) (o:=pj X.prog X.w s.heap.objs.size []) (h':=s.heap.push {cls:=.type "dict",data:=.dict #[]}) (t':=s.toks) (λ_ _ q=>ae _ q) (aK _) (wa _ _ _ s.heap I.big);refine wpAny_Dict_any rfl rfl (λz=>nomatch z) (show 1<=15 by decide) (pairTrees_cons_walk (gj (p m _ l _ _ F (h _ E)) λu s1 ⟨x,H1,J1,rx,q1⟩=>gj (D m s1 l H1 _ J1 q1) λr s2 ⟨y,H2,J2,ry,e,k',b,ex,fk,q2⟩=>pairTrees_nil_walk ?_));subst ex;cases (show u=Value.ref b from rx);show wpAny _ _ (forIn [(Value.ref b,r)] PUnit.unit _) _ _ s2;rw[bU];obtain⟨L,K⟩:=yg J2.hok e (λx P=>nomatch P);refine aq (aq (wpAny_dictSet_heap (show X.A.units+1<cLine by omega) (Bt J2.hok fk) K (λh' c J=>?_) (bD _)));refine ao ?_;dsimp only;rw[bZ];obtain⟨q,N,C,f,B,n,j,_,g⟩:=c;have t:storedH ([]:List FE) k' b r=[(k',b,r)]:=rfl;rw[t]at j g;exact ao ⟨.ref s.heap.objs.size,_,yq J2 (by rw[e];exact True.intro) J ⟨q,f⟩ (Bo ⟨L.1,by show 1<=sizeLine;decide,q,N,C,f,B,n,j,g⟩),rfl,q2 r ry⟩
def FN(P:Program)(w:World)(i ty f:TE):TS:=λD e H=>f e H λv g=>i e g λx h=>ty e h λy d=>∃a b c k,x=.ref a/\y=.ref b/\d a=some (pj P w a c)/\(∀x∈c,uz d x.1 x.2.1)/\uz d k b/\c.length<sizeLine/\∀r,fw v r->D.nx e (e6 d a (pj P w a (storedH c k b r)))
def yo{o i c:Expr}{j ty g:TE}(m:X.A.units+2<cLine)(q:PE X o j)(t:PE X i ty)(n:PE X c g)(z:swapsWith c (some (.Subscript o i pos')) pos.line X.env=pure false) :
  PS X (.Assign [.Subscript o i pos'] c pos) (FN X.prog X.w j ty g):=by
 intro f s d H D I h;refine wpAny_Assign_Subscript (gj (n f s d H _ I h) λr s1 ⟨v,H1,I1,rv,q1⟩=>gj (q f s1 d H1 _ I1 q1) λu s2 ⟨x,H2,I2,rx,q2⟩=>gj (t f s2 d H2 _ I2 q2) λiv s3 ⟨y,H3,I3,ry,a,b,xs,k,ex,ey,e,fk,fb,l,q3⟩=>?_) z;subst ex;subst ey;cases (show u=Value.ref a from rx);cases (show iv=Value.ref b from ry);exact Ij m I3 e fk fb l λB p=>⟨d,_,p,q3 r rv⟩
end
def Dx(P:Program)(w:World)(F H:Hp)(a:Addr)(bs:List Addr)(fl:List Ky):Prop:=∃b:List FE,H a=some (pj P w a b)/\bs=b.map (·.2.1)/\Paired (λ(x:FE) (f:Ky)=>x.1=(.inl f.1,f.2.map .inl)/\rh F x.2.1 f) b fl
def qI(fl:List Ky)(g:Ky):List Ky:=if g∈fl then fl else fl++[g]
section
variable {P:Program}{w:World}{F F' H H':Hp}{a b:Addr}{bs:List Addr}{fl:List Ky}{g:Ky}
def Dx.mono(x:Dx P w F H a bs fl)(c:eB F F')(d:eB H H'):Dx P w F' H' a bs fl:=let ⟨xs,e,h,p⟩:=x;⟨xs,d _ _ e,h,Paired.mapP p λ_ _ z=>⟨z.1,z.2.mono c⟩⟩
def DN{d:List FE}{fl:List Ky}(p:Paired (λ(x:FE) (f:Ky)=>x.1=(.inl f.1,f.2.map .inl)/\rh F x.2.1 f) d fl)(s:eB F H):∀x∈d,uz H x.1 x.2.1:=by
 induction p with
 |nil=>exact λx c=>nomatch c
 |cons h t ih=>
  intro x c;rcases aF.mp c with rfl|c
  .rw[h.1];exact BY (h.2.mono s)
  .exact ih x c
def Dx.flr(x:Dx P w F H a bs fl):Paired (rh F) bs fl:=by
 obtain⟨c,e,rfl,p⟩:=x;clear e;induction p with
 |nil=>exact .nil
 |cons h t ih=>exact .cons h.2 ih
def EN{f g:Ky}(h:((Sum.inl f.1,f.2.map Sum.inl):kg×List kg)=(.inl g.1,g.2.map .inl)):f=g:=by obtain⟨a,b⟩:=f;obtain⟨c,d⟩:=g;have e:=Prod.mk.inj h;have j:a=c:=Sum.inl.inj e.1;have i:b=d:=(cA λ_ _ w=>Sum.inl.inj w).mp e.2;rw[j,i]
def HF{c:List FE}{fl:List Ky}(p:Paired (λ(x:FE) (f:Ky)=>x.1=(.inl f.1,f.2.map .inl)/\rh F x.2.1 f) c fl)(g:Ky):(atKey c (.inl g.1,g.2.map .inl)).isSome=decide (g∈fl):=by
 induction p with
 |nil=>simp[atKey]
 |@cons x f c fl h t ih=>
  unfold atKey at ih ⊢;rw[List.find?_cons];by_cases e:f=g
  .subst e;rw[show decide (x.1=((Sum.inl f.1,f.2.map Sum.inl):kg×List kg))=true from aC h.1];simp
  .rw[show decide (x.1=((Sum.inl g.1,g.2.map Sum.inl):kg×List kg))=false from aB λz=>e (EN (h.1.symm.trans z))];have:decide (g∈f::fl)=decide (g∈fl):=by simp[Ne.symm e]
   rw[this];exact ih
def Hs{c:List FE}{r:Vq}(p:Paired (λ(x:FE) (f:Ky)=>x.1=(.inl f.1,f.2.map .inl)/\rh F x.2.1 f) c fl)(i:rh F b g):∃d,Dx P w F (e6 H a (pj P w a (storedH c (.inl g.1,g.2.map .inl) b r))) a d (qI fl g):=by
 refine⟨_,_,eh,rfl,?_⟩;unfold storedH qI;rw[HF p g];by_cases e:g∈fl
 .rw[aQ (aC e),aQ e];clear e;induction p with
  |nil=>exact .nil
  |@cons x f c fl h t ih=>
   refine .cons ?_ ih;unfold putAt;split
   .exact⟨h.1,h.2⟩
   .exact h
 .rw[aR (by simpa using e),aR e];clear e;induction p with
  |nil=>exact .cons ⟨rfl,i⟩ .nil
  |cons h t ih=>exact .cons h ih
end
end L2
namespace Cu
noncomputable def G(a b:Int):Int:=(Int.gcd a b:Nat)
def HL a b:G b (Int.fmod a b)=G a b:=by
 unfold G;have e:=Int.fmod_def a b;rw[e];congr 1;apply Nat.dvd_antisymm
 .apply Int.dvd_gcd
  .have g:=cG b (a-b*Int.fdiv a b);have h:=cH b (a-b*Int.fdiv a b);have d:=Int.dvd_add h (cI (c:=Int.fdiv a b) g);have f:a-b*Int.fdiv a b+b*Int.fdiv a b=a:=by omega
   rw[f]at d;exact d
  .exact cG b _
 .apply Int.dvd_gcd
  .exact cH a b
  .exact Int.dvd_sub (cG a b) (cI (cH a b))
def zq a b (h:b≠0):(Int.fmod a b).natAbs<b.natAbs:=by
 rcases Int.lt_or_gt_of_ne h with c|c
 .have d:=cJ (-a) (show 0 < -b by omega);have e:=cK (-a) (show 0 < -b by omega);rw[Int.neg_fmod_neg]at d e;omega
 .have d:=cJ a c;have e:=cK a c;omega
def Cj a:G a 0=(a.natAbs:Int):=by unfold G;rw[Int.gcd_zero_right]
def qx a b:0<=G a b:=bx _
def wq a b:G a b ∣ a:=cG a b
def oZ a b:G a b ∣ b:=cH a b
def KC a b (h:b≠0):G a b<=(b.natAbs:Int):=by have:=Int.natAbs_dvd_natAbs.mpr (oZ a b);have c:=Nat.le_of_dvd (by omega) this;have:=qx a b;omega
end Cu
namespace Cu
open PySem PyProof.Rows
open PySem.Builtin.Int (intBits)
def noPy(h:intBits y<=m)(c:m<=8000):PySem.Builtin.divisionGoesByPylong x y=false:=by
 refine PyProof.noPylong_of_log2 ?_;rcases Nat.eq_zero_or_pos y.natAbs with b|a
 .rw[b];decide
 .refine (Nat.log2_lt (br a)).mpr ?_;exact lt_pow_of_bits h (by omega)
end Cu
namespace L2
open PySem PySem.Spec PyProof.Rows
def A2:iS X (.builtin "isinstance") (λa H Q=>∃x T t b,a=[x,.ty T]/\lq X.K H x t/\W.kitOne X.K t (.type T)=some b/\Q (.bl b) H):=by
 intro f s d H a g Q I r h;obtain⟨x,T,t,b,rfl,ty,e,q⟩:=h;cases r with
 |cons r1 r2=>
  cases r2 with
  |cons r3 r4=>cases r4;cases (r3);exact zv I r1 ty e λc=>⟨.bl b,H,I.tok c,rfl,q⟩
def Hv:bootBuiltins "isinstance" = some (.builtin "isinstance"):=by decide +kernel
def A6:bootBuiltins "abs" = some (.builtin "abs"):=by decide +kernel
def AY:bootBuiltins "int" = some (.type "int"):=by decide +kernel
def yX:bootBuiltins "bool" = some (.type "bool"):=by decide +kernel
def g9:bootBuiltins "tuple" = some (.type "tuple"):=by decide +kernel
def ib:bootBuiltins "len" = some (.builtin "len"):=by decide +kernel
end L2
namespace C4
def Lr(c e:LI):Prop:=∀i j,i<c.length->j<c.length->c.getD i 0*e.getD j 0=c.getD j 0*e.getD i 0
def par_of_place(k:c.getD p 0≠0)(h:∀i,i<c.length->c.getD i 0*e.getD p 0=e.getD i 0*c.getD p 0):Lr c e:=λi j g b=>by have d:=h i g;have l:=h j b;refine Int.eq_of_mul_eq_mul_right k ?_;have f:c.getD i 0*e.getD j 0*c.getD p 0=c.getD i 0*(e.getD j 0*c.getD p 0):=cL _ _ _;have a:c.getD j 0*e.getD i 0*c.getD p 0=c.getD j 0*(e.getD i 0*c.getD p 0):=cL _ _ _;rw[f,a,<-d,<-l,<-cL,<-cL,cN (c.getD i 0) (c.getD j 0)]
end C4
namespace L2
open PySem PySem.W PySem.Spec PyProof.Rows
def qM(K:W.Frag)(a:List Str):Bool:=a.all (λx=>match tabIn K x with
  |some (c,P)=>(K.lookup P).isNone&&codeIn K (.ref c) x
  |none=>false)&&decide ((a.map λx=>(tabIn K x).map (·.2)).Nodup)
def nV(H0:Hp)(a:List (Addr×Addr×Str)):Hp:=λb=>match a.find? (λq=>q.2.1==b) with
 |some q=>some (.tbl (q.2.2++ ".<locals>.<lambda>") #[])
 |none=>H0 b
def yN{H0:Hp}{a:List (Addr×Addr×Str)}(b:∀q∈a,∀r∈a,q.2.1=r.2.1->q=r){q:Addr×Addr×Str}(c:q∈a):nV H0 a q.2.1=some (.tbl (q.2.2++ ".<locals>.<lambda>") #[]):=by
 unfold nV;cases e:a.find? (λr=>r.2.1==q.2.1) with
 |none=>exact absurd (List.find?_eq_none.mp e q c) (by simp)
 |some r=>have d:=cO e;have f:=List.find?_some e;obtain rfl:=b r d q c (by simpa using f);rfl
def EU{H0:Hp}{a:List (Addr×Addr×Str)}{b:Addr}{u:HO}(h:nV H0 a b=some u):(∃q∈a,q.2.1=b/\u=.tbl (q.2.2++ ".<locals>.<lambda>") #[])\/((∀q∈a,q.2.1≠b)/\H0 b=some u):=by
 unfold nV at h;cases e:a.find? (λr=>r.2.1==b) with
 |none=>rw[e]at h;exact .inr ⟨λq c z=>List.find?_eq_none.mp e q c (by simpa using z),h⟩
 |some r=>rw[e]at h;cases h;exact .inl ⟨r,cO e,by simpa using List.find?_some e,rfl⟩
def AV{H0:Hp}{a:List (Addr×Addr×Str)}{b:Addr}(h:∀q∈a,q.2.1≠b):nV H0 a b=H0 b:=by unfold nV;rw[List.find?_eq_none.mpr λq c=>by simpa using h q c]
theorem zM{K:W.Frag}{P:Program}{w:World}{g:Sq}{mg mb:Str->Option Value}{a fa:Addr}{vs:List Vq}{Z:LI}{k:Nat}{fd:FuncData}{x:Str}{sp:Sp}(f:List (Addr×Addr×Str))
  (KX:K.In g.heap) (hns:g.heap.Ns mainGlobals mg) (A:g.heap.Ns builtinsNs mb) (hbb:∀x:Str,x≠ "__name__" ->mb x=bootBuiltins x) (hlim:g.heap.NoLimit) (hg:g.gens = #[])
  (ha:g.heap.get? a=some {cls:=.type "list",data:=.seq vs.toArray}) (hi:IntsAre vs Z) (hl:Z.length<=sizeLine) (X:e8 k callerA)
  (J:∀q∈f,CodeHd g.heap q.1 q.2.1/\g.heap.get? q.2.1=some (tabObj #[])/\K.lookup q.2.1=none/\g.heap.CodeRec (.ref q.1) q.2.2/\g.heap.BuiltinsAt mg q.2.1) (hnd:∀q∈f,∀r∈f,q.2.1=r.2.1->q=r)
  (F:∀j:Heap,K.In j->j.Ns mainGlobals mg->(∀q∈f,CodeHd j q.1 q.2.1/\(q.1,q.2.1)∈j.life.ids/\j.CodeRec (.ref q.1) q.2.2/\j.BuiltinsAt mg q.2.1)->jM P w K mg j mw k fa fd [x] sp) (Y:∀(s:Sq) (u:Vq),BindsTo s fd ⟨[u],[]⟩ [(x,u)])
  (hsp:∀H:Hp,iY K H a (Z.map V.int)->sp [.ref a] H (λv _=>v=.bl true) λ_ _ _=>False) :
  codeAny (model P w) callerA (.call (.ref fa) ⟨[.ref a],[]⟩) (λr C=>r=.ok (.ret (.bool true))/\OldK g.heap C.heap/\C.os=g.os/\AllBare C.gens) g:=by
 have rv:=sr hi;have lenV:=hi.length;have tne:∀q∈f,q.2.1≠a:=λq i z=>by have:=(J q i).2.1;rw[z,ha]at this;cases this
 have N:∀H0:Hp,(∀b u,H0 b=some u->b=a/\∃o xs,u=.frz o (.lst xs))->iY K H0 a (Z.map V.int)->l5 P w H0 g.heap->(H0 a≠none->K.lookup a=none)->
   codeAny (model P w) callerA (.call (.ref fa) ⟨[.ref a],[]⟩) (λr C=>r=.ok (.ret (.bool true))/\OldK g.heap C.heap/\C.os=g.os/\AllBare C.gens) g:=by
  intro H0 hO hS hok hK;have cases3:∀b u,nV H0 f b=some u->(∃q∈f,q.2.1=b/\u=.tbl (q.2.2++ ".<locals>.<lambda>") #[])\/(b=a/\H0 b=some u):=λb u h=>by
   rcases EU h with z|⟨_,z⟩
   .exact .inl z
   .exact .inr ⟨(hO b u z).1,z⟩
  have free:∀{b:Addr} {o:Obj},g.heap.get? b=some o->(∀c,o.data≠.seq vs.toArray c)->(o≠tabObj #[])->nV H0 f b=none:=λ{b o} e d t=>by
   cases q:nV H0 f b with
   |none=>rfl
   |some u=>
    rcases cases3 b u q with⟨r,X,z,_⟩|⟨z,_⟩
    .subst z;rw[(J r X).2.1]at e;cases e;exact absurd rfl t
    .subst z;rw[ha]at e;cases e;exact absurd rfl (d 0)
  have baseOf:∀{b:Addr} {o:Obj},g.heap.get? b=some o->nV H0 f b=none->(lP g.heap (nV H0 f) (f.map λq=>(q.1,q.2.1))).get? b=some o:=λe n=>C1 e n;have D:∀{b:Addr} {m:Str->Option Value},g.heap.Ns b m->(lP g.heap (nV H0 f) (f.map λq=>(q.1,q.2.1))).Ns b m:=λ{b m} ⟨o,es,ep,e,d,r⟩=>⟨o,es,ep,baseOf e (free e (λc z=>by rw[d]at z;cases z) λz=>by rw[z]at d;cases d),d,r⟩;have hKb:K.In (lP g.heap (nV H0 f) (f.map λq=>(q.1,q.2.1))):=λb o e=>baseOf (KX b o e) (by
   cases q:nV H0 f b with
   |none=>rfl
   |some u=>
    rcases cases3 b u q with⟨r,X,z,_⟩|⟨z,y⟩
    .subst z;rw[(J r X).2.2.1]at e;cases e
    .subst z;rw[hK (by rw[y];exact λw=>nomatch w)]at e;cases e)
  have hM:Mod K mg (lP g.heap (nV H0 f) (f.map λq=>(q.1,q.2.1))):=⟨hKb,D hns,⟨mb,D A,hbb⟩,let ⟨mc,h1,h2⟩:=hlim;⟨mc,D h1,h2⟩⟩;have crec:∀{c:Addr} {n:Str},g.heap.CodeRec (.ref c) n->(∃P,CodeHd g.heap c P)->(lP g.heap (nV H0 f) (f.map λq=>(q.1,q.2.1))).CodeRec (.ref c) n:=λ{c n} ⟨c',o,fs,t,E,l,U,e4⟩ ⟨P,o',vs',_,_,_,_,_,_,_,f1,f2,_⟩=>by cases E;rw[l]at f1;cases f1;exact⟨c,o,fs,t,rfl,baseOf l (free l (λc z=>by rw[U]at z;cases z) λz=>by rw[z]at f2;cases f2),U,e4⟩
  have p:∀q∈f,CodeHd (lP g.heap (nV H0 f) (f.map λq=>(q.1,q.2.1))) q.1 q.2.1/\(q.1,q.2.1)∈(lP g.heap (nV H0 f) (f.map λq=>(q.1,q.2.1))).life.ids/\(lP g.heap (nV H0 f) (f.map λq=>(q.1,q.2.1))).CodeRec (.ref q.1) q.2.2/\(lP g.heap (nV H0 f) (f.map λq=>(q.1,q.2.1))).BuiltinsAt mg q.2.1:=λq i=>by
   obtain⟨h1,h2,h3,h4,h5⟩:=J q i;refine⟨?_,aD.mpr ⟨q,i,rfl⟩,crec h4 ⟨_,h1⟩,?_⟩
   .obtain⟨o,fs,file,tf,R,tg,inF,text,tt,E,l,U,r⟩:=h1;exact⟨o,fs,file,tf,R,tg,inF,text,tt,baseOf E (free E (λc z=>by rw[U]at z;cases z) λz=>by rw[z]at l;cases l),l,U,r⟩
   .obtain⟨bm,o,b1,b2,b3,b4,b5,b6,b7,b8⟩:=h5;exact⟨bm,o,b1,b2,b3,b4,baseOf b5 (free b5 (λc z=>by rw[b8]at z;cases z) λz=>by rw[z]at b6;cases b6),b6,b7,b8⟩
  have hokT:l5 P w (nV H0 f) g.heap:=λb u e=>by
   rcases cases3 b u e with⟨q,i,z,rfl⟩|⟨z,y⟩
   .subst z;exact⟨(J q i).2.1,True.intro,λv hv=>nomatch hv⟩
   .obtain⟨_,o,xs,rfl⟩:=hO b u y;have:=hok b _ y;obtain⟨h1,h2⟩:=this;exact⟨h1,h2⟩
  have tabF:yp (lP g.heap (nV H0 f) (f.map λq=>(q.1,q.2.1))) (nV H0 f):=λc P qn hm hc=>by obtain⟨q,i,e⟩:=aD.mp (show (c,P)∈f.map λq=>(q.1,q.2.1) from hm);cases e;obtain⟨c1,o1,v1,t1,E,l,U,e4⟩:=hc;obtain⟨c2,o2,v2,t2,f1,f2,f3,f4⟩:=(p q i).2.2.1;cases E;cases f1;rw[l]at f2;cases f2;rw[U]at f3;cases f3;rw[e4]at f4;cases f4;exact⟨#[],yN hnd i⟩
  have e0:pU P w K mg (lP g.heap (nV H0 f) (f.map λq=>(q.1,q.2.1))) callerA [] g (nV H0 f):=⟨rfl,hM,λb o e=>Fu e,Nat.le_of_eq (zi _ _),trivial,λb A=>absurd (show b∈([]) from A) (by simp),hokT,.of_eq hg,tabF⟩;have hS':iY K (nV H0 f) a (Z.map V.int):=by
   rcases hS with (h|⟨o,h⟩)|h
   .exact .inl (.inl (by rw[AV tne];exact h))
   .exact .inl (.inr ⟨o,by rw[AV tne];exact h⟩)
   .exact .inr h
  refine codeAny_mono ((F _ hKb (D hns) p).run callerA [] g (nV H0 f) ⟨[.ref a],[]⟩ [.ref a] [.ref a] _ _ X e0 (Y g (.ref a)) (.cons rfl .nil) (hsp _ hS')) λr C h=>?_;cases r with
  |error e=>exact h.elim
  |ok fl=>
   cases fl with
   |next=>exact False.elim h
   |brk=>exact False.elim h
   |cont=>exact False.elim h
   |ret u=>
    obtain⟨v,H',os,bare,un,I,r',q⟩:=h;have q':=q;subst q';obtain rfl:u=Value.bool true:=r';have L:∀b o,g.heap.get? b=some o->(∀q∈f,q.2.1≠b)->C.heap.get? b=some o:=λb o e n=>by
     cases q:nV H0 f b with
     |none=>exact un.keep b o e q (by intro z;exact absurd (show b∈([]) from z) (by simp)) (by simp)
     |some u=>
      rcases cases3 b u q with⟨r,X,z,_⟩|⟨z,y⟩
      .exact absurd z (n r X)
      .obtain⟨_,ob,xs,rfl⟩:=hO b u y;have z2:=un.frzs b ob _ q;obtain⟨E,_⟩:=hok b _ y;obtain⟨l,_⟩:=I b _ z2;rw[e]at E;cases E;exact l
    have B:∀q∈f,∃ps,C.heap.get? q.2.1=some (tabObj ps):=λq i=>by obtain⟨more,e⟩:=un.tbls _ _ _ (yN (H0:=H0) hnd i);exact⟨_,(show fK P w H' C.heap q.2.1 (.tbl _ _) from I _ _ e).1⟩
    refine⟨rfl,⟨λb o e=>?_,λb o e=>?_⟩,os,bare⟩
    .by_cases i:∃q∈f,q.2.1=b
     .obtain⟨q,i,rfl⟩:=i;obtain⟨ps,hp⟩:=B q i;have l:=(J q i).2.1;rw[e]at l;cases l;exact .inr (.inl ⟨((J q i).1.tab (J q i).2.1).isCodeTable,rfl,#[],ps,rfl,by rw[Array.empty_append];exact hp⟩)
     .exact .inl (L b o e λq S z=>i ⟨q,S,z⟩)
    .by_cases i:∃q∈f,q.2.1=b
     .obtain⟨q,i,rfl⟩:=i;obtain⟨ps,hp⟩:=B q i;exact⟨_,hp⟩
     .exact⟨o,L b o e λq S z=>i ⟨q,S,z⟩⟩
 cases hk:K.lookup a with
 |some o=>have e:=KX a o hk;rw[ha]at e;cases e;exact N (λ_=>none) (λb u z=>nomatch z) (.inr ⟨_,vs.toArray,_,hk,rfl,rfl,rfl,by rw[bz,lenV];exact hl,by simpa using rv⟩) (λb u z=>nomatch z) λz=>absurd rfl z
 |none=>
  refine N (λb=>if b=a then some (.frz {cls:=.type "list",data:=.seq vs.toArray} (.lst (Z.map V.int))) else none) (λb u z=>?_) (.inl (.inr ⟨{cls:=.type "list",data:=.seq vs.toArray},aQ rfl⟩)) (λb u z=>?_) λ_=>hk
  .by_cases A:b=a
   .have Q:=(aQ A).symm.trans z;cases Q;exact⟨A,_,_,rfl⟩
   .have Q:=(aR A).symm.trans z;cases Q
  .by_cases A:b=a
   .have Q:=(aQ A).symm.trans z;cases Q;subst A;exact⟨ha,by rw[ax];exact hl,vs,_,rv,ha⟩
   .have Q:=(aR A).symm.trans z;cases Q
theorem CH{l:W.OpenLaw}{n k:Nat}{q:Program}{p:List Str}{XP:(Str->Option Value)->Heap->Prop}{YP:World->Heap->Prop}{d:DefRec}{K:Params->W.Frag}{sp:W.Frag->Sp}{x:Str}(A:List Str)
  (hn:l.most=some n) (hn2:n<=sizeLine) (hdf:d.params.defaults=[]) (hr:e8 k callerA)
  (hY:∀(w:World) (h:Heap),YP w h->(K w.params).In h) (hx:∀x∈A,∃d',(recsOf q).find? (λe=>e.name==x)=some d') (S:∀w:World,qM (K w.params) A=true)
  (F:∀(w:World) (mg:Str->Option Value) (fa:Addr) (h:Heap),(K w.params).In h->h.Ns mainGlobals mg->mg d.name=some (.ref fa)->
   ∃fd:FuncData,(∀(s:Sq) (u:Vq),BindsTo s fd ⟨[u],[]⟩ [(x,u)])/\
    ∀i:Heap,(K w.params).In i->i.Ns mainGlobals mg->(∀y∈A,xD (K w.params) mg i y)->jM l.prog w (K w.params) mg i mw k fa fd [x] (sp (K w.params)))
  (hsp:∀(K:W.Frag) (H:Hp) (a:Addr) (L:LI),L.length<=n->(∀z∈L,PySem.Builtin.Int.intBits z<=2 ^ 20)->iY K H a (L.map V.int)->sp K [.ref a] H (λv _=>v=.bl true) λ_ _ _=>False) :
  W.WalkO q p XP YP l.row.toRowW d [] (λf vs=>PySem.call f vs):=by
 intro w s₀ s₁ mg mb G Y fa o pm cd doc dV kV ho hd hcd hD hmg hg args vals as X R hrd hwl hlo;obtain rfl:dV=.none:=Dflts.none hD hdf;obtain rfl:kV=.none:=Dflts.noKw hD;obtain⟨a,vs,L,rfl,rfl,hobj,I,i5⟩:=Att.script_of hn X hwl;have hb:∀z∈L,PySem.Builtin.Int.intBits z<=2 ^ 20:=λz hz=>by have U:=(layW_cons R).1;have N:=layableW_item U (WData.int z) (aD.mpr ⟨z,hz,rfl⟩);exact PyData.bits_of_layable (layable_int N)
 have KX:=hY w _ Y;obtain⟨fd,hbd,hF⟩:=F w mg fa _ KX G.T.g hmg;have S:=S w;unfold qM at S;rw[bL]at S;obtain⟨hk1,D⟩:=S;have D:=of_decide_eq_true D;have one:∀y∈A,∃c P,tabIn (K w.params) y=some (c,P)/\(K w.params).lookup P=none/\codeIn (K w.params) (.ref c) y=true:=λy j=>by
  have:=cq.mp hk1 y j;split at this
  .rename_i c P e;rw[bL]at this;exact⟨c,P,e,by simpa using this.1,this.2⟩
  .cases this
 obtain⟨bm,ob,b1,b2,b3,b4,b5,b6⟩:=G.T.bmain;have hbG:bm≠mainGlobals:=λz=>by obtain⟨o,es,ep,e,hd,_⟩:=G.T.g;rw[z,e]at b3;cases b3;rw[hd]at b6;cases b6
 have E:∀t∈A.filterMap (λy=>(tabIn (K w.params) y).map λr=>(r.1,r.2,y)),t.2.2∈A/\tabIn (K w.params) t.2.2=some (t.1,t.2.1):=λt ht=>by obtain⟨y,j,e⟩:=bt.mp ht;obtain⟨r,m,rfl⟩:=cB.mp e;exact⟨j,m⟩
 have inj:∀{Q:List Str},(Q.map λx=>(tabIn (K w.params) x).map (·.2)).Nodup->∀y∈Q,∀z∈Q,(tabIn (K w.params) y).map (·.2)=(tabIn (K w.params) z).map (·.2)->y=z:=λ{Q} nd=>by
  induction Q with
  |nil=>exact λy j=>nomatch j
  |cons u Q ih=>
   rw[bB,bG]at nd;intro y j z hz e;rcases aF.mp j with m|Z
   .rcases aF.mp hz with J|B
    .exact m.trans J.symm
    .exact absurd (aD.mpr ⟨z,B,by rw[<-m];exact e.symm⟩) nd.1
   .rcases aF.mp hz with J|B
    .exact absurd (aD.mpr ⟨y,Z,by rw[<-J];exact e⟩) nd.1
    .exact ih nd.2 y Z z B e
 refine enter_call (codeAny_mono (zM (A.filterMap λy=>(tabIn (K w.params) y).map λr=>(r.1,r.2,y)) KX G.T.g G.T.b G.T.builtins G.T.nolimit hg hobj I (aN i5 hn2) hr (λt ht=>?_) (λt ht t' ht' e=>?_) (λi U N h3=>hF i U N λy j=>?_) hbd (λH hS=>hsp _ H a L i5 hb hS)) λr s' hq=>?_)
 .obtain⟨j,e⟩:=E t ht;obtain⟨d',hd'⟩:=hx _ j;obtain⟨C,hP⟩:=tab_of G.T KX hd' e;obtain⟨c,P,e',hl,hc⟩:=one _ j;rw[e]at e';obtain⟨t1,t2,t3⟩:=t;cases e';exact⟨C,hP,hl,codeRec_of KX hc,bm,ob,b1,b2,hbG,(λz=>by rw[z,hP]at b3;cases b3;cases b4),b3,b4,b5,b6⟩
 .obtain⟨j,m⟩:=E t ht;obtain⟨hy',J⟩:=E t' ht';have:t.2.2=t'.2.2:=inj D _ j _ hy' (by rw[m,J];simp[e]);rw[this,J]at m;obtain⟨t1,t2,t3⟩:=t;obtain⟨t1',t2',t3'⟩:=t';cases m;cases this;rfl
 .intro f oc od fd' osl hm hlk;obtain⟨c,P,e,hl,hc⟩:=one y j;obtain⟨f1,f2,f3,f4⟩:=h3 (c,P,y) (bt.mpr ⟨y,j,by rw[e];rfl⟩);exact⟨c,P,law_code U N e hm (U _ _ hlk) rfl,f1,f2,f3,f4⟩
 obtain⟨rfl,N,h3,h4⟩:=hq;exact⟨.inl ⟨.bool true,.bool true,[],rfl,λ_=>rfl,.bool true,Att.post_true l _,λ_=>⟨List.Pairwise.nil,λ_ hm=>(nomatch hm)⟩⟩,N,h3,h4⟩
end L2
namespace L3
open PySem L2
inductive T where
 |non|bl (b:Bool)|int (i:Int)|str (x:Str)
 |tup (ts:List T)|lst (ts:List T)|scr (ns:LI)
 |obj (C:Addr) (fs:List (Str×T))|emp
 |dic (kvs:List (LI×T))
inductive M(α:Type) where
 |bad|ok (a:α)|er (C:Addr) (n:Oq Int)
namespace M
noncomputable def bind{b c:Type}(m:M b)(k:b->M c):M c:=match m with
 |.bad=>.bad
 |.ok a=>k a
 |.er C n=>.er C n
instance:Monad M where
 pure:=.ok
 bind:=M.bind
noncomputable def res{b:Type}(m:M b)(P:b->Prop)(E:Addr->Option Int->Prop):Prop:=match m with
 |.bad=>False
 |.ok a=>P a
 |.er C n=>E C n
def res.unb{m:M α}{k:α->M β}{P:β->Prop}(h:res (m.bind k) P E):res m (λa=>res (k a) P E) E:=by cases m<;>exact h
def res.mono{m:M α}{P b:α->Prop}(h:res m P E)(d:∀a,P a->b a)(c:∀C n,E C n->E' C n):res m b E':=by
 cases m with
 |bad=>exact h
 |ok a=>exact d a h
 |er C n=>exact c C n h
noncomputable def noEr{a:Type}(m:M a):M a:=match m with
 |.er _ _=>.bad
 |m=>m
def res.noEr{m:M α}{P:α->Prop}(h:res m.noEr P E):res m P E':=by
 cases m with
 |bad=>exact h
 |ok a=>exact h
 |er C n=>exact h.elim
@[simp] theorem bind_ok a (k:α->M β):M.bind (.ok a) k=k a:=rfl
@[simp] theorem Jl(k:α->M β):M.bind (.bad:M α) k=.bad:=rfl
@[simp] theorem Kl C n (k:α->M β):M.bind (.er C n:M α) k=.er C n:=rfl
noncomputable def NoE{a:Type}(m:M a):Prop:=∀C n,m≠.er C n
def res.ne{m:M α}{P:α->Prop}(h:res m P E)(ne:NoE m):res m P E':=by
 cases m with
 |bad=>exact h
 |ok a=>exact h
 |er C n=>exact absurd rfl (ne C n)
@[simp] theorem noEr_ok(a:α):noEr (.ok a)=.ok a:=rfl
end M
mutual
inductive gX(K:W.Frag)(F:Hp):V->T->Prop
 |non:gX K F .non .non
 |bl (b:Bool):gX K F (.bl b) (.bl b)
 |int (i:Int):gX K F (.int i) (.int i)
 |str (x:Str):gX K F (.str x) (.str x)
 |tup {a:Addr} {xs:List V} {ts:List T} (h:F a=some (.tup xs)) (r:eM K F xs ts):gX K F (.ref a) (.tup ts)
 |lst {a:Addr} {xs:List V} {ts:List T} (h:F a=some (.lst xs)) (r:eM K F xs ts):gX K F (.ref a) (.lst ts)
 |scr {a:Addr} {ns:LI} (h:iY K F a (ns.map V.int)):gX K F (.ref a) (.scr ns)
 |obj {a C dx:Addr} {fs:List (Str×V)} {ts:List (Str×T)} (h:F a=some (.ins C dx fs)) (r:ke K F fs ts):gX K F (.ref a) (.obj C ts)
 |emp {a:Addr} (h:F a=some (.dK [])):gX K F (.ref a) .emp
 |dic {a:Addr} {xs:List (List kg×V)} {kvs:List (LI×T)} (h:F a=some (.dT xs)) (r:uk K F xs kvs):gX K F (.ref a) (.dic kvs)
inductive eM(K:W.Frag)(F:Hp):List V->List T->Prop
 |nil:eM K F [] []
 |cons {v:V} {t:T} {vs:List V} {ts:List T} (h:gX K F v t) (r:eM K F vs ts):eM K F (v::vs) (t::ts)
inductive ke(K:W.Frag)(F:Hp):List (Str×V)->List (Str×T)->Prop
 |nil:ke K F [] []
 |cons {x:Str} {v:V} {t:T} {vs:List (Str×V)} {ts:List (Str×T)} (h:gX K F v t) (r:ke K F vs ts):ke K F ((x,v)::vs) ((x,t)::ts)
inductive uk(K:W.Frag)(F:Hp):List (List kg×V)->List (LI×T)->Prop
 |nil:uk K F [] []
 |cons {k:LI} {v:V} {t:T} {vs:List (List kg×V)} {ts:List (LI×T)} (h:gX K F v t) (r:uk K F vs ts):uk K F ((k.map Sum.inl,v)::vs) ((k,t)::ts)
end
section
variable {K:W.Frag}{F F':Hp}
mutual
theorem gX.mono(s:eB F F'):∀{v} {t},gX K F v t->gX K F' v t
 |_,_,.non=>.non
 |_,_,.bl b=>.bl b
 |_,_,.int i=>.int i
 |_,_,.str x=>.str x
 |_,_,.tup h r=>.tup (s _ _ h) (eM.mono s r)
 |_,_,.lst h r=>.lst (s _ _ h) (eM.mono s r)
 |_,_,.scr h=>.scr (s.seq h)
 |_,_,.obj h r=>.obj (s _ _ h) (ke.mono s r)
 |_,_,.emp h=>.emp (s _ _ h)
 |_,_,.dic h r=>.dic (s _ _ h) (uk.mono s r)
theorem eM.mono(s:eB F F'):∀{vs} {ts},eM K F vs ts->eM K F' vs ts
 |_,_,.nil=>.nil
 |_,_,.cons h r=>.cons (gX.mono s h) (eM.mono s r)
theorem ke.mono(s:eB F F'):∀{vs} {ts},ke K F vs ts->ke K F' vs ts
 |_,_,.nil=>.nil
 |_,_,.cons h r=>.cons (gX.mono s h) (ke.mono s r)
theorem uk.mono(s:eB F F'):∀{vs} {ts},uk K F vs ts->uk K F' vs ts
 |_,_,.nil=>.nil
 |_,_,.cons h r=>.cons (gX.mono s h) (uk.mono s r)
end
theorem eM.length:∀{vs} {ts},eM K F vs ts->vs.length=ts.length
 |_,_,.nil=>rfl
 |_,_,.cons _ r=>by rw[az,az,eM.length r]
theorem eM.get:∀{vs:List V} {ts:List T} {i:Nat} {t:T},eM K F vs ts->ts[i]? = some t->∃v,vs[i]? = some v/\gX K F v t
 |_,_,_,_,.nil,e=>by simp at e
 |_,_,0,_,.cons h _,e=>by simp at e;subst e;exact⟨_,rfl,h⟩
 |_,_,i+1,_,.cons _ r,e=>by obtain⟨v,a,h⟩:=eM.get r (by simpa using e);exact⟨v,by simpa using a,h⟩
def eM.at_{i:Nat}(r:eM K F vs ts)(e:vs[i]? = some v):∃t,ts[i]? = some t/\gX K F v t:=by
 have a:i<ts.length:=by rw[<-r.length];exact (aa.mp e).1
 obtain⟨c,b,h⟩:=r.get (ag a);rw[e]at b;cases b;exact⟨_,ag a,h⟩
theorem eM.append:∀{vs us} {ts ss},eM K F vs ts->eM K F us ss->eM K F (vs++us) (ts++ss)
 |_,_,_,_,.nil,q=>q
 |_,_,_,_,.cons h r,q=>.cons h (eM.append r q)
theorem eM.set(q:gX K F v t):∀{vs} {ts} i,eM K F vs ts->eM K F (vs.set i v) (ts.set i t)
 |_,_,_,.nil=>.nil
 |_,_,0,.cons _ r=>.cons q r
 |_,_,i+1,.cons h r=>.cons h (eM.set q i r)
theorem eM.take:∀{vs} {ts} n,eM K F vs ts->eM K F (vs.take n) (ts.take n)
 |_,_,0,_=>.nil
 |_,_,_+1,.nil=>.nil
 |_,_,n+1,.cons h r=>.cons h (eM.take n r)
theorem eM.drop:∀{vs} {ts} n,eM K F vs ts->eM K F (vs.drop n) (ts.drop n)
 |_,_,0,r=>r
 |_,_,_+1,.nil=>.nil
 |_,_,n+1,.cons _ r=>eM.drop n r
theorem eM.rep:∀{vs} {ts} n,eM K F vs ts->eM K F (List.replicate n vs).flatten (List.replicate n ts).flatten
 |_,_,0,_=>.nil
 |_,_,n+1,r=>by rw[bN,bN,bO,bO];exact r.append (eM.rep n r)
theorem eM.bls:∀{vs:List V} {a:List Bool},eM K F vs (a.map T.bl)->vs=a.map V.bl
 |_,[],.nil=>rfl
 |_,_::_,.cons h r=>by cases h;rw[eM.bls r];rfl
theorem eM.of_ints:∀(a:LI),eM K F (a.map V.int) (a.map T.int)
 |[]=>.nil
 |n::a=>.cons (.int n) (eM.of_ints a)
theorem ke.look:∀{fs} {ts},ke K F fs ts->ts.lookup f=some t->∃v,fs.lookup f=some v/\gX K F v t
 |_,_,.nil,e=>by cases e
 |_,_,.cons (x:=x) h r,e=>by
  by_cases b:f=x
  .subst b;rw[cQ]at e;cases e;exact⟨_,cQ,h⟩
  .have a:(f==x)=false:=by simpa using b
   rw[bW,a]at e;obtain⟨v,d,c⟩:=ke.look r e;exact⟨v,by rw[bW,a];exact d,c⟩
theorem ke.none_:∀{fs} {ts},ke K F fs ts->ts.lookup f=none->fs.lookup f=none
 |_,_,.nil,e=>rfl
 |_,_,.cons (x:=x) h r,e=>by
  by_cases a:f=x
  .subst a;rw[cQ]at e;cases e
  .have b:(f==x)=false:=by simpa using a
   rw[bW,b]at e ⊢;exact ke.none_ r e
end
def rQ(h:Ar o (some u))(b:∀q a,u≠.tbl q a):o=u:=by
 cases o with
 |tbl q a=>obtain⟨m,e⟩:=h;exact absurd (Option.some.inj e) (b _ _)
 |_=>exact (Option.some.inj h).symm
def FZ{x y:Oq HO}(h:Ar o x)(k:∀a,x=some a->Ar a y):Ar o y:=by
 cases o with
 |tbl q ps=>obtain⟨m,e⟩:=h;obtain⟨c,b⟩:=k _ e;exact⟨m++c,by rw[b,bp]⟩
 |_=>exact k _ h
def qp{H:Hp}(h:Ar u (H b))(h':H p=none):b≠p:=λz=>h.ne (by rw[z];exact h')
structure Gr(F H F' H':Hp):Prop where
 ff:eB F F'
 fh:eB F' H'
 hh:eB H H'
 nw:∀a,F' a≠none->F a≠none\/H a=none\/∃xs,H a=some (.tup xs)
def Gr.refl(h:eB F H):Gr F H F H:=⟨.refl _,h,.refl _,λ_ h=>.inl h⟩
def eF(h:eB H H')(e:H' a=none):H a=none:=by
 cases q:H a with
 |none=>rfl
 |some o=>exact absurd e (h a o q).ne
def Gr.trans(g:Gr F H F' H')(b:Gr F' H' F'' H''):Gr F H F'' H'':=
 ⟨g.ff.trans b.ff,b.fh,g.hh.trans b.hh,λa d=>by
  rcases b.nw a d with q|q|⟨c,q⟩
  .exact g.nw a q
  .exact .inr (.inl (eF g.hh q))
  .cases z:H a with
   |none=>exact .inr (.inl rfl)
   |some o=>exact .inr (.inr ⟨c,by have k:=g.hh a o z;rw[q]at k;rw[rQ k λ_ _ y=>nomatch y]⟩)⟩
def Gr.new(s:eB F H)(h:H p=none):Gr F H (e6 F p o) (e6 H p o):=by
 have c:=eF s h;refine⟨λb u e=>?_,λb u e=>?_,λb u e=>?_,λb a=>?_⟩
 .rw[eA (eJ e c)];exact .of e
 .by_cases q:b=p
  .subst q;rw[eh]at e ⊢;exact .of e
  .rw[eA q]at e ⊢;exact s b u e
 .rw[eA (eJ e h)];exact .of e
 .by_cases q:b=p
  .subst q;exact .inr (.inl h)
  .rw[eA q]at a;exact .inl a
def Gr.new'(s:eB F H)(h:H p=none):Gr F H F (e6 H p o):=by
 refine⟨.refl _,λb u e=>?_,λb u e=>?_,λb a=>.inl a⟩
 .rw[eA (qp (s b u e) h)];exact s b u e
 .rw[eA (eJ e h)];exact .of e
def Gr.take(g:Gr F0 H0 F H)(h:H p=some o)(c:F p=none)(d:H0 p=none):Gr F0 H0 (e6 F p o) H:=by
 refine⟨λb u e=>?_,λb u e=>?_,g.hh,λb a=>?_⟩
 .rw[eA (qp (g.ff b u e) c)];exact g.ff b u e
 .by_cases q:b=p
  .subst q;rw[eh]at e;cases e;exact .of h
  .rw[eA q]at e;exact g.fh b u e
 .by_cases q:b=p
  .subst q;exact .inr (.inl d)
  .rw[eA q]at a;exact g.nw b a
def hW(a:F p=none):eB F (e6 F p o):=λb u e=>by rw[eA (eJ e a)];exact .of e
abbrev Pe:=List (Option T)
section
variable (K:W.Frag)
def il(F:Hp)(a:St)(ρ:Pe):Prop:=∀(i:Nat) (t:T),ρ[i]? = some (some t)->∃v,a[i]? = some (some v)/\gX K F v t
def il.mono{K:W.Frag}(h:il K F σ ρ)(s:eB F F'):il K F' σ ρ:=λi t e=>let ⟨v,a,b⟩:=h i t e;⟨v,a,b.mono s⟩
def LA(E:XK)(C:Addr)(n:Oq Int)(F H:Hp):Prop:=match n with
 |none=>E (.ref C) none H
 |some i=>∀a,F a=some (.xd [("at",.int i)])->E (.ref C) (some a) H
def kE(E:XK)(F H:Hp)(C:Addr)(n:Oq Int):Prop:=∀b a,Gr F H b a->LA E C n b a
def kE.go(h:kE E F H C n)(g:Gr F H F1 H1):kE E F1 H1 C n:=λb a c=>h b a (g.trans c)
def kV(F H:Hp)(Q:VK)(t:T):Prop:=∀v b a,Gr F H b a->gX K b v t->Q v a
def kB(F H:Hp)(Q:Bool->Hp->Prop)(b:Bool):Prop:=∀c a,Gr F H c a->Q b a
def kA(F H:Hp)(Q:List V->Hp->Prop)(ts:List T):Prop:=∀a c b,Gr F H c b->eM K c a ts->Q a b
def kF(F H:Hp)(Q:VK)(ts:List T):Prop:=∀l c b a,Gr F H b a->H l=none->b l=none->a l=some (.lst c)->eM K b c ts->Q (.ref l) a
noncomputable def ME(E:XK)(t:TE)(f:Pe->M T):Prop:=∀F H b a Q,eB F H->il K F b a->(f a).res (kV K F H Q) (kE E F H)->t b H Q
noncomputable def MT(E:XK)(t:TT)(f:Pe->M Bool):Prop:=∀F H b a Q,eB F H->il K F b a->(f a).res (kB F H Q) (kE E F H)->t b H Q
noncomputable def MA(E:XK)(t:TA)(f:Pe->M (List T)):Prop:=∀F H b a Q,eB F H->il K F b a->(f a).res (kA K F H Q) (kE E F H)->t b H Q
noncomputable def MF(E:XK)(t:TE)(f:Pe->M (List T)):Prop:=∀F H b a Q,eB F H->il K F b a->(f a).res (kF K F H Q) (kE E F H)->t b H Q
end
section
variable {K:W.Frag}{E:XK}{t u ta tb:TE}{f g fa fb:Pe->M T}
def kV.go{t:T}(h:kV K F H Q t)(g:Gr F H F1 H1):kV K F1 H1 Q t:=λv b a c r=>h v b a (g.trans c) r
def kB.go{t:Bool}(h:kB F H Q t)(g:Gr F H F1 H1):kB F1 H1 Q t:=λb a c=>h b a (g.trans c)
def kF.go{t:List T}(h:kF K F H Q t)(g:Gr F H F1 H1):kF K F1 H1 Q t:=λl e j i k a b c d=>h l e j i (g.trans k) (eF g.hh a) b c d
def kV.now{t:T}(h:kV K F H Q t)(s:eB F H)(r:gX K F v t):Q v H:=h v F H (.refl s) r
def kF.of(h:kV K F H Q (.lst ts)):kF K F H Q ts:=λl c e d g i b a r=>h (.ref l) (e6 e l (.lst c)) d (g.take a b i) (.lst eh (r.mono (hW b)))
def MF.me{f:Pe->M (List T)}(h:MF K E t f):ME K E t (λρ=>(f ρ).bind λts=>.ok (.lst ts)):=λF H a ρ Q s V r=>h F H a ρ Q s V ((M.res.unb r).mono (λts q=>kF.of q) λ_ _ z=>z)
def ME.run{k:T->M α}{P:α->Prop}(h:ME K E t f)(s:eB F H)(v:il K F σ ρ)(r:((f ρ).bind k).res P (kE E F H))
  (c:∀x w b a,Gr F H b a->gX K b w x->(k x).res P (kE E b a)->Q w a):t σ H Q:=
 h F H σ ρ Q s v ((M.res.unb r).mono (λx q w b a g d=>c x w b a g d (q.mono (λ_ z=>z) λ_ _ z=>z.go g)) λ_ _ z=>z)
def MT.run{t:TT}{f:Pe->M Bool}{k:Bool->M α}{P:α->Prop}(h:MT K E t f)(s:eB F H)(v:il K F σ ρ)(r:((f ρ).bind k).res P (kE E F H))
  (c:∀x b a,Gr F H b a->(k x).res P (kE E b a)->Q x a):t σ H Q:=
 h F H σ ρ Q s v ((M.res.unb r).mono (λx q b a g=>c x b a g (q.mono (λ_ z=>z) λ_ _ z=>z.go g)) λ_ _ z=>z)
def MA.run{t:TA}{f:Pe->M (List T)}{k:List T->M α}{P:α->Prop}(h:MA K E t f)(s:eB F H)(v:il K F σ ρ)(r:((f ρ).bind k).res P (kE E F H))
  (c:∀x w b a,Gr F H b a->eM K b w x->(k x).res P (kE E b a)->Q w a):t σ H Q:=
 h F H σ ρ Q s v ((M.res.unb r).mono (λx q w b a g d=>c x w b a g d (q.mono (λ_ z=>z) λ_ _ z=>z.go g)) λ_ _ z=>z)
@[simp] noncomputable def dX(i:Nat):Pe->M T:=λa=>match a[i]? with
 |some (some t)=>.ok t
 |_=>.bad
def Hu:ME K E (je i) (dX i):=λF H c b Q s V r=>by
 unfold dX at r;split at r
 .rename_i t e;obtain⟨v,a,h⟩:=V i t e;exact⟨v,a,r.now s h⟩
 .exact r.elim
@[simp] noncomputable def cM(t:T):Pe->M T:=λ_=>.ok t
def DM{t:T}(h:∀F,gX K F v t):ME K E (tC v) (cM t):=λF H b a Q s V r=>kV.now r s (h F)
@[simp] noncomputable def eG(o:T->T->M T)(fa fb:Pe->M T):Pe->M T:=λa=>(fa a).bind λx=>(fb a).bind λy=>o x y
structure MR(K:W.Frag)(r:R2)(o:T->T->M T):Prop where
 ne:∀x y,M.NoE (o x y)
 ok:∀F H v w x y Q,eB F H->gX K F v x->gX K F w y->(o x y).res (kV K F H Q) (λ_ _=>False)->r v w H Q
def yG(c:MR K r o)(m:ME K E ta fa)(d:ME K E tb fb):ME K E (pP r ta tb) (eG o fa fb):=λF H B p Q s V q=>by refine m.run s V q λx v A n b e h=>?_;refine d.run b.fh (V.mono b.ff) h λy w i k a j l=>?_;exact c.ok i k v w x y Q a.fh (e.mono a.ff) j ((l.ne (c.ne x y)).mono (λ_ z=>z.go (b.trans a)) λ_ _ z=>z)
noncomputable def gB(C:Int->Int->Bool)(g:Int->Int->T):T->T->M T
 |.int i,.int j=>if C i j then .ok (g i j) else .bad
 |_,_=>.bad
def vg{g:Int->Int->T} x y:M.NoE (gB C g x y):=λa n=>by
 unfold gB;split
 .split<;>exact λz=>nomatch z
 .exact λz=>nomatch z
def gX.int_inv(h:gX K F v (.int i)):v=.int i:=by cases h;rfl
def gX.lst_inv(h:gX K F v (.lst ts)):∃a b,v=.ref a/\F a=some (.lst b)/\eM K F b ts:=by cases h;exact⟨_,_,rfl,‹_›,‹_›⟩
def gX.tup_inv(h:gX K F v (.tup ts)):∃a b,v=.ref a/\F a=some (.tup b)/\eM K F b ts:=by cases h;exact⟨_,_,rfl,‹_›,‹_›⟩
def oM{g:Int->Int->V}(d:∀i j,Cb i j=true->C i j)(c:∀F i j,gX K F (g i j) (gt i j)):MR K (rI C g) (gB Cb gt):=⟨vg,λF H v w x y Q s a b q=>by
 unfold gB at q;split at q
 .rename_i i j;rw[a.int_inv,b.int_inv];by_cases h:Cb i j=true
  .rw[aQ h]at q;exact⟨i,j,rfl,rfl,d i j h,kV.now q s (c F i j)⟩
  .rw[aR h]at q;exact q.elim
 .exact q.elim⟩
def lW{g:Int->Int->V}(c:∀F i j,gX K F (g i j) (gt i j)):MR K (uR g) (gB (λ_ _=>true) gt):=⟨vg,λF H v w x y Q s a b q=>by
 unfold gB at q;split at q
 .rw[a.int_inv,b.int_inv];exact⟨_,_,rfl,rfl,kV.now q s (c F _ _)⟩
 .exact q.elim⟩
@[simp] noncomputable def Gd(o:Int->T)(fa:Pe->M T):Pe->M T:=λa=>(fa a).bind λx=>match x with
 |.int i=>.ok (o i)
 |_=>.bad
def IX{g:Int->V}(e:∀F i,gX K F (g i) (gt i))(h:ME K E ta fa):ME K E (KP (rU g) ta) (Gd gt fa):=λF H l k Q s V q=>by
 refine h.run s V q λx v b d j c a=>?_;cases c<;>first
  |exact a.elim
  |exact⟨_,rfl,a _ b d j (e b _)⟩
@[simp] noncomputable def fS(fa:Pe->M T):Pe->M Bool:=λa=>(fa a).bind λx=>match x with
 |.bl b=>.ok b
 |_=>.bad
def DS(h:ME K E ta fa):MT K E (tB ta) (fS fa):=λF H j i Q s V q=>by
 refine h.run s V q λx v c d e b a=>?_;cases b<;>first
  |exact a.elim
  |exact⟨_,rfl,a c d e⟩
def DU(a:ME K E ta fa):MT K E (vt ta) (fS fa):=DS a
section
variable {c d:TT}{fc fd:Pe->M Bool}
@[simp] noncomputable def rz(fc fd:Pe->M Bool):Pe->M Bool:=λa=>(fc a).bind λb=>if b then fd a else .ok false
@[simp] noncomputable def wU(fc fd:Pe->M Bool):Pe->M Bool:=λa=>(fc a).bind λb=>if b then .ok true else fd a
@[simp] noncomputable def ko(fc:Pe->M Bool):Pe->M Bool:=λa=>(fc a).bind λb=>.ok (!b)
def GD(m:MT K E c fc)(j:MT K E d fd):MT K E (Ip c d) (rz fc fd):=λF H l k Q s V q=>by
 refine m.run s V q λb h i a e=>?_;cases b with
 |true=>rw[aQ rfl];exact j h i l k Q a.fh (V.mono a.ff) (e.mono (λ_ z=>z.go a) λ_ _ z=>z)
 |false=>rw[aR aH];exact e h i a
def JT(m:MT K E c fc)(j:MT K E d fd):MT K E (KR c d) (wU fc fd):=λF H l k Q s V q=>by
 refine m.run s V q λb h i a e=>?_;cases b with
 |true=>rw[aQ rfl];exact e h i a
 |false=>rw[aR aH];exact j h i l k Q a.fh (V.mono a.ff) (e.mono (λ_ z=>z.go a) λ_ _ z=>z)
def Hm(h:MT K E c fc):MT K E (Gp c) (ko fc):=λF H l k Q s V q=>by refine h.run s V q λb e i j a=>?_;exact a e i j
end
@[simp] noncomputable def vL(fa fb:Pe->M T):Pe->M T:=λa=>(fS fa a).bind λb=>if b then fb a else .ok (.bl false)
@[simp] noncomputable def zm(fa:Pe->M T):Pe->M T:=λa=>(fS fa a).bind λb=>.ok (.bl (!b))
def Ee(k:ME K E ta fa)(h:ME K E tb fb):ME K E (Bc ta tb) (vL fa fb):=λF H j i Q s V q=>by
 refine (DS k).run s V q λb d e a c=>?_;cases b with
 |true=>rw[aQ rfl];exact h d e j i Q a.fh (V.mono a.ff) (c.mono (λ_ z=>z.go a) λ_ _ z=>z)
 |false=>rw[aR aH];exact c _ d e a (.bl _)
def E7(h:ME K E ta fa):ME K E (BK ta) (zm fa):=λF H j i Q s V q=>by refine (DS h).run s V q λb c d e a=>?_;exact a _ c d e (.bl _)
@[simp] noncomputable def dW(fa:Pe->M T)(b:Pe->M (List T)):Pe->M (List T):=λa=>(fa a).bind λx=>(b a).bind λc=>.ok (x::c)
@[simp] noncomputable def d6:Pe->M (List T):=λ_=>.ok []
def xM:MA K E qa d6:=λF H b a Q s V q=>q [] F H (.refl s) .nil
def Ea{d:TA}{c:Pe->M (List T)}(o:ME K E ta fa)(j:MA K E d c):MA K E (nU ta d) (dW fa c):=λF H z w Q s V q=>by refine o.run s V q λx v y p a e h=>?_;refine j.run a.fh (V.mono a.ff) h λr m i l b k n=>?_;exact n (v::m) i l (a.trans b) (.cons (e.mono b.ff) k)
@[simp] noncomputable def uP(ts:List T):M (List T):=if ts.length<=sizeLine then .ok ts else .bad
@[simp] noncomputable def l8(c:Pe->M (List T)):Pe->M T:=λb=>(c b).bind λa=>(uP a).bind λa=>.ok (.tup a)
@[simp] noncomputable def lstM(b:Pe->M (List T)):Pe->M (List T):=λa=>(b a).bind uP
def GN{i:TA}{e:Pe->M (List T)}(j:MA K E i e):ME K E (Hi i) (l8 e):=λF H r m Q s V q=>by
 refine j.run s V q λk n o l b c a=>?_;unfold uP at a;by_cases h:k.length<=sizeLine
 .rw[aQ h]at a;refine⟨by rw[c.length];exact h,λp d=>?_⟩;exact a (.ref p) _ _ (b.trans (.new b.fh d)) (.tup eh (c.mono (Gr.new b.fh d).ff))
 .rw[aR h]at a;exact a.elim
def HP{i:TA}{e:Pe->M (List T)}(j:MA K E i e):MF K E (GH i) (lstM e):=λF H r o Q s V q=>by
 refine j.run s V q λk l m n b d a=>?_;unfold uP at a;by_cases h:k.length<=sizeLine
 .rw[aQ h]at a;refine⟨by rw[d.length];exact h,λp c=>?_⟩;exact a p l m _ (b.trans (.new' b.fh c)) (eF b.hh c) (eF b.fh c) eh d
 .rw[aR h]at a;exact a.elim
end
end L3
namespace L3
open PySem L2
inductive W where
 |p (t:T)|o (ts:List T)|d (kvs:List (LI×T))
abbrev En:=List (Option W)
@[simp] def KG:Oq W->Option T
 |some (.p t)=>some t
 |_=>none
@[simp] def K1:Oq W->Option T
 |some (.p t)=>some t
 |some (.o ts)=>some (.lst ts)
 |_=>none
@[simp] noncomputable def jG(ρ:En):Pe:=ρ.map KG
@[simp] noncomputable def vw(ρ:En):Pe:=ρ.map K1
mutual
@[simp] noncomputable def lf:T->Bool
 |.lst _=>false
 |.scr _=>false
 |.dic _=>false
 |.tup ts=>Dr ts
 |.obj _ fs=>J6 fs
 |_=>true
@[simp] noncomputable def Dr:List T->Bool
 |[]=>true
 |t::ts=>lf t&&Dr ts
noncomputable def J6:List (Str×T)->Bool
 |[]=>true
 |t::ts=>lf t.2&&J6 ts
end
structure Fz where
 hp:Hp
 lt:List (Nat×Addr×List V)
instance:Coe Fz Hp:=⟨Fz.hp⟩
structure Lv(H0 F H:Hp)(σ:St)(ρ:En)(e:Nat×Addr×List V):Prop where
 h:H e.2.1=some (.lst e.2.2)
 f:F e.2.1=none
 z:H0 e.2.1=none
 d:∀(i:Nat) (ts:List T),ρ[i]? = some (some (.o ts))->σ[i]?≠some (some (.ref e.2.1))
def DR(K:W.Frag)(F:Hp)(b:List (List kg×V))(a:List (LI×T)):Prop:=Paired (λ(p:List kg×V) (q:LI×T)=>p.1=q.1.map Sum.inl/\gX K F p.2 q.2) b a
def DR.mono(s:eB F F')(h:DR K F xs kvs):DR K F' xs kvs:=Paired.imp' (λ_ _ q=>⟨q.1,q.2.mono s⟩) h
structure Dv(K:W.Frag)(H0 F H:Hp)(σ:St)(ρ:En):Prop where
 at_:∀(i:Nat) kvs,ρ[i]? = some (some (.d kvs))->∃a,σ[i]? = some (some (.ref a))/\F a=none/\H0 a=none/\∃xs,H a=some (.dT xs)/\DR K F xs kvs
 dj:∀(i j:Nat) kvs kvs',ρ[i]? = some (some (.d kvs))->ρ[j]? = some (some (.d kvs'))->i≠j->σ[i]?≠σ[j]?
def Aq{a:Type}{l:List a}{x y:a}(h:(l.set i x)[i]? = some y):y=x:=by
 rw[List.getElem?_set]at h;simp only[if_true]at h;split at h
 .exact (Option.some.inj h).symm
 .cases h
def zK{a:Type}{l:List a}{x y:a}(h:(l.set i x)[j]? = some y):(j=i/\y=x)\/(j≠i/\l[j]? = some y):=by
 by_cases e:j=i
 .subst e;exact .inl ⟨rfl,Aq h⟩
 .rw[ar (λz=>e z.symm)]at h;exact .inr ⟨e,h⟩
def Dv.heap(d:Dv K H0 F H σ ρ)(s:eB F F')(h:∀a b,H a=some (.dT b)->F a=none->F' a=none/\H' a=some (.dT b)):Dv K H0 F' H' σ ρ:=⟨λi c e=>let ⟨a,e1,e2,e3,b,e4,e5⟩:=d.at_ i c e;let ⟨h1,h2⟩:=h a b e4 e2;⟨a,e1,h1,e3,b,h2,e5.mono s⟩,d.dj⟩
def Dv.set(d:Dv K H0 F H σ ρ)(hw:∀b,w≠some (.d b)):Dv K H0 F H (σ.set i v) (ρ.set i w):=by
 refine⟨λj b e=>?_,λj k b c e l g=>?_⟩
 .rcases zK e with⟨rfl,q⟩|⟨f,q⟩
  .exact absurd q.symm (hw b)
  .obtain⟨a,n,r⟩:=d.at_ j b q;exact⟨a,by rw[ar (λz=>f z.symm)];exact n,r⟩
 .rcases zK e with⟨rfl,q⟩|⟨f,q⟩
  .exact absurd q.symm (hw b)
  .rcases zK l with⟨rfl,h⟩|⟨m,h⟩
   .exact absurd h.symm (hw c)
   .rw[ar (λz=>f z.symm),ar (λz=>m z.symm)];exact d.dj j k b c q h g
def Dv.setR(d:Dv K H0 F H σ ρ)(hw:∀a,w≠some (.d a)):Dv K H0 F H σ (ρ.set i w):=by
 refine⟨λj a e=>?_,λj k a b e g c=>?_⟩
 .rcases zK e with⟨rfl,q⟩|⟨h,q⟩
  .exact absurd q.symm (hw a)
  .exact d.at_ j a q
 .rcases zK e with⟨rfl,q⟩|⟨h,q⟩
  .exact absurd q.symm (hw a)
  .rcases zK g with⟨rfl,f⟩|⟨l,f⟩
   .exact absurd f.symm (hw b)
   .exact d.dj j k a b q f c
structure Sr(K:W.Frag)(F0:Fz)(H0 F H:Hp)(σ:St)(ρ:En):Prop where
 gr:Gr F0.hp H0 F H
 len:σ.length=ρ.length
 pv:∀(i:Nat) (t:T),ρ[i]? = some (some (.p t))->∃v,σ[i]? = some (some v)/\gX K F v t
 ov:∃ad:Nat->Addr,(∀(i:Nat) (ts:List T),ρ[i]? = some (some (.o ts))->σ[i]? = some (some (.ref (ad i)))/\F (ad i)=none/\H0 (ad i)=none/\∃vs,H (ad i)=some (.lst vs)/\eM K F vs ts)/\
  ∀(i j:Nat) (ts us:List T),ρ[i]? = some (some (.o ts))->ρ[j]? = some (some (.o us))->i≠j->ad i≠ad j
 lv:∀e∈F0.lt,Lv H0 F H σ ρ e
 sl:∀(j:Nat) (l:Addr) (vs:List V),F0.lt.lookup j=some (l,vs)->ρ[j]? = some none->σ[j]? = some (some (.ref l))
 dv:Dv K H0 F H σ ρ
section
variable {K:W.Frag}{F0:Fz}{H0 F H F' H':Hp}{σ:St}{ρ:En}
def Sr.vars(r:Sr K F0 H0 F H σ ρ):il K F σ (jG ρ):=λi t e=>by
 unfold jG at e;rw[aw]at e;cases q:ρ[i]? with
 |none=>rw[q]at e;cases e
 |some w=>
  rw[q]at e;cases w with
  |none=>cases e
  |some w=>
   cases w with
   |p t'=>cases e;exact r.pv i _ q
   |o ts=>cases e
   |d kvs=>cases e
def Sr.grow(r:Sr K F0 H0 F H σ ρ)(g:Gr F H F' H'):Sr K F0 H0 F' H' σ ρ:=by
 obtain⟨k,m,l⟩:=r.ov;refine⟨r.gr.trans g,r.len,λi t e=>?_,⟨k,λi p e=>?_,l⟩,λe o=>?_,r.sl,r.dv.heap g.ff λa x j s=>⟨?_,g.hh _ _ j⟩⟩
 .obtain⟨v,a,b⟩:=r.pv i t e;exact⟨v,a,b.mono g.ff⟩
 .obtain⟨a,b,c,n,d,q⟩:=m i p e;refine⟨a,?_,c,n,g.hh _ _ d,q.mono g.ff⟩;cases z:F' (k i) with
  |none=>rfl
  |some u=>
   rcases g.nw (k i) (by rw[z];exact λw=>nomatch w) with y|y|⟨_,y⟩
   .exact absurd b y
   .rw[d]at y;cases y
   .rw[d]at y;cases y
 .have L:=r.lv e o;refine⟨g.hh _ _ L.h,?_,L.z,L.d⟩;cases z:F' e.2.1 with
  |none=>rfl
  |some u=>
   rcases g.nw e.2.1 (by rw[z];exact λw=>nomatch w) with y|y|⟨_,y⟩
   .exact absurd L.f y
   .rw[L.h]at y;cases y
   .rw[L.h]at y;cases y
 .cases z:F' a with
  |none=>rfl
  |some u=>
   rcases g.nw a (by rw[z];exact λw=>nomatch w) with y|y|⟨_,y⟩
   .exact absurd s y
   .rw[j]at y;cases y
   .rw[j]at y;cases y
theorem Sr.lend(r:Sr K F0 H0 F H σ ρ):∃k,eB F k/\Gr F0.hp H0 k H/\il K k σ (vw ρ)/\
  (∀F' H',Gr k H F' H'->∃j,Gr F H j H'/\eB F j/\eB j F'/\(∀a,F' a≠none->j a=none->∃E,F' a=some (.lst E))/\(∀a,F' a≠none->j a=none->H a≠none)):=by
 classical
 obtain⟨I,m,L⟩:=r.ov;let f:Addr->Prop:=λa=>∃i h,ρ[i]? = some (some (.o h))/\I i=a;let k:Hp:=λa=>if f a then H a else F a
 have x:eB F k:=λa o e=>by
  have:¬f a:=by rintro⟨i,h,q,rfl⟩;obtain⟨_,b,_⟩:=m i h q;rw[b]at e;cases e
  show Ar o (if f a then H a else F a);rw[aR this];exact .of e
 have J:eB k H:=λa o e=>by
  by_cases q:f a
  .have s:(if f a then H a else F a)=some o:=e;rw[aQ q]at s;exact .of s
  .have s:(if f a then H a else F a)=some o:=e;rw[aR q]at s;exact r.gr.fh a o s
 have ow:∀a,f a->k a=H a:=λa q=>aQ q;have C:∀a,¬f a->k a=F a:=λa q=>aR q;refine⟨k,x,⟨r.gr.ff.trans x,J,r.gr.hh,λa l=>?_⟩,λi t e=>?_,λF' H' g=>?_⟩
 .by_cases q:f a
  .obtain⟨i,h,e,rfl⟩:=q;exact .inr (.inl (m i h e).2.2.1)
  .rw[C a q]at l;exact r.gr.nw a l
 .unfold vw at e;rw[aw]at e;cases q:ρ[i]? with
  |none=>rw[q]at e;cases e
  |some w=>
   rw[q]at e;cases w with
   |none=>cases e
   |some w=>
    cases w with
    |p t'=>cases e;obtain⟨v,a,b⟩:=r.pv i _ q;exact⟨v,a,b.mono x⟩
    |o h=>cases e;obtain⟨a,b,c,y,d,z⟩:=m i h q;exact⟨_,a,.lst (by rw[ow _ ⟨i,h,q,rfl⟩];exact d) (z.mono x)⟩
    |d kvs=>cases e
 .let j:Hp:=λa=>if f a then none else F' a
  have u:∀a,¬f a->j a=F' a:=λa q=>aR q;have D:∀a,f a->j a=none:=λa q=>aQ q;have B:eB F j:=λa o e=>by
   have:¬f a:=by rintro⟨i,h,q,rfl⟩;obtain⟨_,b,_⟩:=m i h q;rw[b]at e;cases e
   rw[u a this];exact (x.trans g.ff) _ _ e
  have A:eB j F':=λa o e=>by
   by_cases q:f a
   .rw[D a q]at e;cases e
   .rw[u a q]at e;exact .of e
  refine⟨j,⟨B,A.trans g.fh,g.hh,λa l=>?_⟩,B,A,λa l n=>?_,λa l n=>?_⟩
  .by_cases q:f a
   .exact absurd (D a q) l
   .rw[u a q]at l;rcases g.nw a l with z|z
    .rw[C a q]at z;exact .inl z
    .exact .inr z
  .by_cases q:f a
   .obtain⟨i,h,e,rfl⟩:=id q;obtain⟨_,_,_,y,d,_⟩:=m i h e;exact⟨y,g.ff _ (.lst y) (by rw[ow _ q];exact d)⟩
   .rw[u a q]at n;exact absurd n l
  .by_cases q:f a
   .obtain⟨i,h,e,rfl⟩:=id q;obtain⟨_,_,_,y,d,_⟩:=m i h e;rw[d];exact λz=>nomatch z
   .rw[u a q]at n;exact absurd n l
mutual
theorem gX.less(c:eB Fb F)(h:∀a,F a≠none->Fb a=none->∃d,F a=some (.lst d)):∀{v} {t},gX K F v t->lf t=true->gX K Fb v t
 |_,_,.non,_=>.non
 |_,_,.bl b,_=>.bl b
 |_,_,.int i,_=>.int i
 |_,_,.str x,_=>.str x
 |_,_,.tup (a:=a) e r,l=>by
  refine .tup ?_ (eM.less c h r (by simpa[lf] using l));cases q:Fb a with
  |none=>obtain⟨d,z⟩:=h a (by rw[e];exact λz=>nomatch z) q;rw[e]at z;cases z
  |some u=>have k:=c a u q;rw[e]at k;rw[rQ k λ_ _ y=>nomatch y]
 |_,_,.lst _ _,l=>by simp[lf]at l
 |_,_,.scr _,l=>by simp[lf]at l
 |_,_,.obj (a:=a) (dx:=dx) e r,l=>by
  refine .obj (dx:=dx) ?_ (ke.less c h r (by simpa[lf] using l));cases q:Fb a with
  |none=>obtain⟨d,z⟩:=h a (by rw[e];exact λz=>nomatch z) q;rw[e]at z;cases z
  |some u=>have k:=c a u q;rw[e]at k;rw[rQ k λ_ _ y=>nomatch y]
 |_,_,.dic _ _,l=>by simp[lf]at l
 |_,_,.emp (a:=a) e,l=>by
  refine .emp ?_;cases q:Fb a with
  |none=>obtain⟨d,z⟩:=h a (by rw[e];exact λz=>nomatch z) q;rw[e]at z;cases z
  |some u=>have k:=c a u q;rw[e]at k;rw[rQ k λ_ _ y=>nomatch y]
theorem eM.less(b:eB Fb F)(h:∀a,F a≠none->Fb a=none->∃c,F a=some (.lst c)):∀{vs} {ts},eM K F vs ts->Dr ts=true->eM K Fb vs ts
 |_,_,.nil,_=>.nil
 |_,_,.cons q r,l=>by rw[Dr,bL]at l;exact .cons (gX.less b h q l.1) (eM.less b h r l.2)
theorem ke.less(b:eB Fb F)(h:∀a,F a≠none->Fb a=none->∃c,F a=some (.lst c)):∀{vs} {ts},ke K F vs ts->J6 ts=true->ke K Fb vs ts
 |_,_,.nil,_=>.nil
 |_,_,.cons q r,l=>by rw[J6,bL]at l;exact .cons (gX.less b h q l.1) (ke.less b h r l.2)
end
end
end L3
namespace L3
open PySem L2
def kT(K:W.Frag)(F H:Hp)(Q:VK)(ts us:List T):Prop:=∀p l c d a b,Gr F H a b->H l=none->a l=none->H p=none->a p=none->p≠l->b l=some (.lst d)->b p=some (.tup (c++[.ref l]))->eM K a c ts->eM K a d us->Q (.ref p) b
def kT.of(h:kV K F H Q (.tup (ts++[.lst us]))):kT K F H Q ts us:=λp l q k j s g a b c d e f i r t=>by
 have u:=g.take f b a;have n:e6 j l (.lst k) p=none:=by rw[eA e];exact d
 have o:eB j (e6 j l (.lst k)):=hW b;have m:eB (e6 j l (.lst k)) (e6 (e6 j l (.lst k)) p (.tup (q++[.ref l]))):=hW n;exact h (.ref p) _ s (u.take i n c) (.tup eh ((r.mono (o.trans m)).append (.cons (.lst (m _ _ eh) (t.mono (o.trans m))) .nil)))
inductive O where
 |bad|nx (ρ:En)|rt (t:T)|rf (ts:List T)|rn (ts us:List T)|bk (ρ:En)|ct (ρ:En)|er (C:Addr) (n:Oq Int)
section
variable (K:W.Frag)(E:XK)
def kN(d:Fz)(H0 F:Hp)(D:St->Hp->Prop)(ρ:En):Prop:=∀c b a,eB F c->Sr K d H0 c b a ρ->D a b
noncomputable def O.res(o:O)(a:Fz)(H0 F:Hp)(D:oG):Prop:=match o with
 |.bad=>False
 |.nx ρ=>kN K a H0 F D.nx ρ
 |.rt t=>kV K a.hp H0 D.rt t
 |.rf ts=>kF K a.hp H0 D.rt ts
 |.rn ts us=>kT K a.hp H0 D.rt ts us
 |.bk ρ=>kN K a H0 F D.bk ρ
 |.ct ρ=>kN K a H0 F D.ct ρ
 |.er C n=>kE E a.hp H0 C n
noncomputable def MS(t:TS)(g:En->O):Prop:=∀d a F H c b D,Sr K d a F H c b->(g b).res K E d a F D->t D c H
end
section
variable {K:W.Frag}{E:XK}{t u ta tb:TE}{f fa fb:Pe->M T}{F0:Fz}{H0 F H F1 H1:Hp}{σ:St}{ρ:En}{D:oG}
def kN.go(h:kN K F0 H0 F N ρ)(s:eB F F1):kN K F0 H0 F1 N ρ:=λd b a c r=>h d b a (s.trans c) r
def O.res.go{o:O}(h:o.res K E F0 H0 F D)(s:eB F F1):o.res K E F0 H0 F1 D:=by
 cases o with
 |bad=>exact h
 |nx ρ=>exact kN.go h s
 |rt t=>exact h
 |rf ts=>exact h
 |rn ts us=>exact h
 |bk ρ=>exact kN.go h s
 |ct ρ=>exact kN.go h s
 |er C n=>exact h
noncomputable def O.of{b:Type}(m:M b)(k:b->O):O:=match m with
 |.bad=>.bad
 |.ok a=>k a
 |.er C n=>.er C n
@[simp] theorem O.of_ok(a:α) k:O.of (.ok a) k=k a:=rfl
@[simp] theorem O.of_bad k:O.of (.bad:M α) k=.bad:=rfl
@[simp] theorem O.of_er C n k:O.of (.er C n:M α) k=.er C n:=rfl
def O.res_of{m:M α}{k:α->O}(h:(O.of m k).res K E F0 H0 F D):m.res (λa=>(k a).res K E F0 H0 F D) (kE E F0.hp H0):=by cases m<;>exact h
@[simp] noncomputable def eQ(a b:En->O):En->O:=λρ=>match a ρ with
 |.nx ρ'=>b ρ'
 |o=>o
def IB{t u:TS}(g:MS K E t a)(d:MS K E u b):MS K E (uc t u) (eQ a b):=λF0 H0 F H σ ρ D r q=>by
 refine g F0 H0 F H σ ρ _ r ?_;unfold eQ at q;cases e:a ρ with
 |nx ρ'=>rw[e]at q;intro i h c s j;exact d F0 H0 i h c ρ' D j (q.go s)
 |bad=>rw[e]at q;exact q
 |rt t=>rw[e]at q;exact q
 |rf ts=>rw[e]at q;exact q
 |rn ts us=>rw[e]at q;exact q
 |bk ρ=>rw[e]at q;exact q
 |ct ρ=>rw[e]at q;exact q
 |er C n=>rw[e]at q;exact q
@[simp] noncomputable def fM:En->O:=λρ=>.nx ρ
def DI:MS K E yW fM:=λF0 H0 F H σ ρ D r q=>q F H σ (.refl _) r
def AF:MS K E xq (λ_=>.bad):=λ_ _ _ _ _ _ _ _ q=>q
def MT.inS(m:MT K E c fc)(r:Sr K F0 H0 F H σ ρ)(q:(O.of (fc (vw ρ)) k).res K E F0 H0 F D)
  (j:∀b e a,eB F e->Sr K F0 H0 e a σ ρ->(k b).res K E F0 H0 e D->Q b a):c σ H Q:=by
 obtain⟨l,s,i,V,d⟩:=r.lend;refine m l H σ (vw ρ) Q i.fh V ((O.res_of q).mono (λb z e a g=>?_) λC n z=>z.go i);obtain⟨p,o,h,_⟩:=d e a g;exact j b p a h (r.grow o) (z.go h)
@[simp] noncomputable def kY(d:Pe->M Bool)(a b:En->O):En->O:=λρ=>.of (d (vw ρ)) λc=>if c then a ρ else b ρ
def JM{t u:TS}(i:MT K E c fc)(h:MS K E t a)(g:MS K E u b):MS K E (DQ c t u) (kY fc a b):=λF0 H0 F H σ ρ D r q=>by
 refine i.inS r q λc k j s d e=>?_;cases c with
 |true=>rw[aQ rfl];exact h _ _ _ _ _ _ _ d e
 |false=>rw[aR aH];exact g _ _ _ _ _ _ _ d e
@[simp] noncomputable def fO(f:Pe->M T):En->O:=λρ=>.of (f (vw ρ)) λt=>.rt t
def GB(h:ME K E t f):MS K E (xC t) (fO f):=λF0 H0 F H σ ρ D r q=>by obtain⟨d,e,a,V,c⟩:=r.lend;exact h d H σ (vw ρ) _ a.fh V ((O.res_of q).mono (λb z=>kV.go z a) λC n z=>z.go a)
@[simp] noncomputable def sU(f:Pe->M (List T)):En->O:=λρ=>.of (f (vw ρ)) λt=>.rf t
def Ew{f:Pe->M (List T)}(h:MF K E t f):MS K E (xC t) (sU f):=λF0 H0 F H σ ρ D r q=>by obtain⟨d,e,a,V,c⟩:=r.lend;exact h d H σ (vw ρ) _ a.fh V ((O.res_of q).mono (λb z=>kF.go z a) λC n z=>z.go a)
def mX{a:Type}{l:List a}{x y:a}(h:(l.set i x)[i]? = some y):y=x:=by
 rw[List.getElem?_set]at h;simp only[if_true]at h;split at h
 .exact (Option.some.inj h).symm
 .cases h
def eO{a:Type}{l:List a}{x y:a}(h:(l.set i x)[j]? = some y):(j=i/\y=x)\/(j≠i/\l[j]? = some y):=by
 by_cases e:j=i
 .subst e;exact .inl ⟨rfl,mX h⟩
 .rw[ar (λz=>e z.symm)]at h;exact .inr ⟨e,h⟩
def uB{a:Type}{l:List a}{x:a}(h:i<l.length):(l.set i x)[i]? = some x:=by rw[List.getElem?_set_self h]
def Sr.setP(r:Sr K F0 H0 F H σ ρ)(h:gX K F v x):Sr K F0 H0 F H (σ.set i (some v)) (ρ.set i (some (.p x))):=by
 obtain⟨J,B,y⟩:=r.ov;refine⟨r.gr,by simp[r.len],λj t e=>?_,⟨J,λj m e=>?_,λj k m s e A=>?_⟩,λe I=>?_,λj l C n q=>?_,r.dv.set λ_ z=>nomatch z⟩
 .have N:j<ρ.length:=by simpa using (aa.mp e).1
  rcases eO e with⟨rfl,q⟩|⟨c,q⟩
  .cases q;exact⟨v,uB (by rw[r.len];exact N),h⟩
  .obtain⟨w,a,b⟩:=r.pv j t q;exact⟨w,by rw[ar (λz=>c z.symm)];exact a,b⟩
 .rcases eO e with⟨rfl,q⟩|⟨c,q⟩
  .cases q
  .obtain⟨a,b⟩:=B j m q;exact⟨by rw[ar (λz=>c z.symm)];exact a,b⟩
 .rcases eO e with⟨rfl,q⟩|⟨c,q⟩
  .cases q
  .rcases eO A with⟨rfl,o⟩|⟨P,o⟩
   .cases o
   .exact y j k m s q o
 .have L:=r.lv e I;refine⟨L.h,L.f,L.z,λj m q=>?_⟩;rcases eO q with⟨rfl,g⟩|⟨c,g⟩
  .cases g
  .rw[ar (λz=>c z.symm)];exact L.d j m g
 .rcases eO q with⟨rfl,g⟩|⟨c,g⟩
  .cases g
  .rw[ar (λz=>c z.symm)];exact r.sl j l C n g
def Sr.setO(r:Sr K F0 H0 F H σ ρ)(g:Gr F H F1 H1)(x:H l=none)(hf:F1 l=none)(hv:H1 l=some (.lst vs))(hr:eM K F1 vs ts) :
  Sr K F0 H0 F1 H1 (σ.set i (some (.ref l))) (ρ.set i (some (.o ts))):=by
 have p:=r.grow g;obtain⟨y,I,_⟩:=r.ov;obtain⟨N,S,h2⟩:=p.ov;have Q:∀j m,ρ[j]? = some (some (.o m))->N j≠l:=λj m e z=>by
  obtain⟨a,_⟩:=S j m e;obtain⟨P,_,_,vs0,X,_⟩:=I j m e;rw[a]at P;have:N j=y j:=by simpa using P
  rw[<-this,z,x]at X;cases X
 refine⟨p.gr,by simp[r.len],λj t e=>?_,⟨λj=>if j=i then l else N j,λj m e=>?_,λj k m U e R s=>?_⟩,λe Y=>?_,λj l' C A q=>?_,p.dv.set λ_ z=>nomatch z⟩
 .rcases eO e with⟨rfl,q⟩|⟨c,q⟩
  .cases q
  .obtain⟨w,a,b⟩:=p.pv j t q;exact⟨w,by rw[ar (λz=>c z.symm)];exact a,b⟩
 .have J:j<ρ.length:=by simpa using (aa.mp e).1
  rcases eO e with⟨rfl,q⟩|⟨c,q⟩
  .cases q;dsimp only;rw[aQ rfl];exact⟨uB (by rw[r.len];exact J),hf,eF r.gr.hh x,vs,hv,hr⟩
  .dsimp only;rw[aR c];obtain⟨a,b⟩:=S j m q;exact⟨by rw[ar (λz=>c z.symm)];exact a,b⟩
 .rcases eO e with⟨rfl,q⟩|⟨c,q⟩
  .rcases eO R with⟨rfl,v⟩|⟨B,v⟩
   .exact absurd rfl s
   .dsimp only;rw[aQ rfl,aR B];exact λz=>Q k U v z.symm
  .rcases eO R with⟨rfl,v⟩|⟨B,v⟩
   .dsimp only;rw[aR c,aQ rfl];exact Q j m q
   .dsimp only;rw[aR c,aR B];exact h2 j k m U q v s
 .have L:=p.lv e Y;have Z:=r.lv e Y;refine⟨L.h,L.f,L.z,λj ts q=>?_⟩;rcases eO q with⟨rfl,n⟩|⟨c,n⟩
  .intro z;have z':=mX z;have:e.2.1=l:=by simpa using z'
   rw[<-this,Z.h]at x;cases x
  .rw[ar (λz=>c z.symm)];exact L.d j ts n
 .rcases eO q with⟨rfl,n⟩|⟨c,n⟩
  .cases n
  .rw[ar (λz=>c z.symm)];exact r.sl j l' C A n
@[simp] noncomputable def iz(f:Pe->M T)(ρ:En):M T:=f (jG ρ)
@[simp] noncomputable def rg(f:Pe->M T)(ρ:En):M T:=(f (vw ρ)).bind λt=>if lf t then .ok t else .bad
def ME.inH(h:ME K E t f)(r:Sr K F0 H0 F H σ ρ)(q:(O.of (iz f ρ) k).res K E F0 H0 F D)
  (c:∀x v a b,Gr F H a b->gX K a v x->Sr K F0 H0 a b σ ρ->(k x).res K E F0 H0 a D->Q v b):t σ H Q:=
 h F H σ (jG ρ) Q r.gr.fh r.vars ((O.res_of q).mono (λx z v a b g d=>c x v a b g d (r.grow g) (z.go g.ff)) λC n z=>z.go r.gr)
def ME.inB(h:ME K E t f)(r:Sr K F0 H0 F H σ ρ)(q:(O.of (rg f ρ) k).res K E F0 H0 F D)
  (m:∀x v b a,Gr F H b a->gX K b v x->Sr K F0 H0 b a σ ρ->(k x).res K E F0 H0 b D->Q v a):t σ H Q:=by
 obtain⟨p,y,j,V,d⟩:=r.lend;refine h p H σ (vw ρ) Q j.fh V ((M.res.unb (O.res_of q)).mono (λx z v b a g s=>?_) λC n z=>z.go j);obtain⟨w,l,o,e,c,_⟩:=d b a g;by_cases i:lf x=true
 .rw[aQ i]at z;exact m x v w a l (s.less e c i) (r.grow l) (O.res.go z o)
 .rw[aR i]at z;exact z.elim
@[simp] noncomputable def setO(i:Nat)(f:En->M T):En->O:=λρ=>.of (f ρ) λt=>.nx (ρ.set i (some (.p t)))
def yJ(h:ME K E t f):MS K E (jW t (fR i)) (setO i (iz f)):=λF0 H0 F H σ ρ D r q=>h.inH r q λx v b a g c d e=>e b a _ (.refl _) (d.setP c)
def Dz(h:ME K E t f):MS K E (jW t (fR i)) (setO i (rg f)):=λF0 H0 F H σ ρ D r q=>h.inB r q λx v b a g c d e=>e b a _ (.refl _) (d.setP c)
@[simp] noncomputable def oB(f:Pe->M (List T))(ρ:En):M (List T):=f (jG ρ)
@[simp] noncomputable def wQ(f:Pe->M (List T))(ρ:En):M (List T):=(f (vw ρ)).bind λa=>if Dr a then .ok a else .bad
def MF.inH{f:Pe->M (List T)}(h:MF K E t f)(r:Sr K F0 H0 F H σ ρ)(q:(O.of (oB f ρ) k).res K E F0 H0 F D)
  (j:∀ts l vs e i,Gr F H e i->H l=none->e l=none->i l=some (.lst vs)->eM K e vs ts->(k ts).res K E F0 H0 e D->Q (.ref l) i):t σ H Q:=
 h F H σ (jG ρ) Q r.gr.fh r.vars ((O.res_of q).mono (λts z l vs e i g a b c d=>j ts l vs e i g a b c d (z.go g.ff)) λC n z=>z.go r.gr)
def MF.inB{f:Pe->M (List T)}(h:MF K E t f)(r:Sr K F0 H0 F H σ ρ)(q:(O.of (wQ f ρ) k).res K E F0 H0 F D)
  (v:∀ts l vs i e,Gr F H i e->H l=none->i l=none->e l=some (.lst vs)->eM K i vs ts->(k ts).res K E F0 H0 i D->Q (.ref l) e):t σ H Q:=by
 obtain⟨x,B,s,V,o⟩:=r.lend;refine h x H σ (vw ρ) Q s.fh V ((M.res.unb (O.res_of q)).mono (λts z l vs i e g a b c d=>?_) λC n z=>z.go s);obtain⟨A,y,w,m,j,_⟩:=o i e g;by_cases p:Dr ts=true
 .rw[aQ p]at z;exact v ts l vs A e y a (eF m b) c (d.less m j p) (O.res.go z w)
 .rw[aR p]at z;exact z.elim
@[simp] noncomputable def lg(i:Nat)(f:En->M (List T)):En->O:=λρ=>.of (f ρ) λa=>.nx (ρ.set i (some (.o a)))
def t6{f:Pe->M (List T)}(h:MF K E t f):MS K E (jW t (fR i)) (lg i (oB f)):=λF0 H0 F H σ ρ D r q=>h.inH r q λn l m j e g a b c d k=>k j e _ (.refl _) (r.setO g a b c d)
def FK{f:Pe->M (List T)}(h:MF K E t f):MS K E (jW t (fR i)) (lg i (wQ f)):=λF0 H0 F H σ ρ D r q=>h.inB r q λn l m j e g a b c d k=>k j e _ (.refl _) (r.setO g a b c d)
def Sr.change(r:Sr K F0 H0 F H σ ρ)(e:ρ[i]? = some (some (.o ts)))(hw:eM K F ws us) :
  ∃l vs,σ[i]? = some (some (.ref l))/\H l=some (.lst vs)/\eM K F vs ts/\Sr K F0 H0 F (e6 H l (.lst ws)) σ (ρ.set i (some (.o us))):=by
 obtain⟨J,P,A⟩:=r.ov;obtain⟨a,b,c,vs,d,z⟩:=P i ts e;refine⟨J i,vs,a,d,z,⟨r.gr.ff,λp u q=>?_,λp u q=>?_,r.gr.nw⟩,by simp[r.len],λj t q=>?_,⟨J,λj n q=>?_,λj k n y q Q m=>?_⟩,λN he=>?_,λj Z s B q=>?_,(r.dv.heap (.refl _) λp xs C _=>⟨by assumption,by rw[eA (λz=>by rw[z,d]at C;cases C)];exact C⟩).setR λ_ z=>nomatch z⟩
 .rw[eA (eJ q b)];exact r.gr.fh p u q
 .rw[eA (eJ q c)];exact r.gr.hh p u q
 .rcases eO q with⟨rfl,g⟩|⟨x,g⟩
  .cases g
  .exact r.pv j t g
 .rcases eO q with⟨rfl,g⟩|⟨x,g⟩
  .cases g;exact⟨a,b,c,ws,eh,hw⟩
  .obtain⟨X,Y,c',s,S,R⟩:=P j n g;exact⟨X,Y,c',s,by rw[eA (A j i n ts g e x)];exact S,R⟩
 .rcases eO q with⟨rfl,g⟩|⟨x,g⟩
  .rcases eO Q with⟨rfl,v⟩|⟨U,v⟩
   .exact absurd rfl m
   .exact A j k ts y e v m
  .rcases eO Q with⟨rfl,v⟩|⟨U,v⟩
   .exact A j k n ts g e m
   .exact A j k n y g v m
 .have L:=r.lv N he;have I:N.2.1≠J i:=λw=>L.d i ts e (by rw[w];exact a);refine⟨by rw[eA I];exact L.h,L.f,L.z,λj n q=>?_⟩;rcases eO q with⟨rfl,g⟩|⟨x,g⟩
  .exact L.d _ ts e
  .exact L.d j n g
 .rcases eO q with⟨rfl,g⟩|⟨x,g⟩
  .cases g
  .exact r.sl j Z s B g
@[simp] noncomputable def kf(ρ:En)(i:Nat):M (List T):=match ρ[i]? with
 |some (some (.o ts))=>.ok ts
 |_=>.bad
def qr(h:kf ρ i=.ok ts):ρ[i]? = some (some (.o ts)):=by
 unfold kf at h;split at h
 .rename_i a e;cases h;exact e
 .cases h
@[simp] noncomputable def pW(i:Nat)(f:En->M T):En->O:=λρ=>.of (kf ρ i) λa=>.of (f ρ) λt=>if a.length<sizeLine then .nx (ρ.set i (some (.o (a++[t])))) else .bad
def BS(r:Sr K F0 H0 F H σ ρ)(e:ρ[i]? = some (some (.o ts)))(n:gX K F v x)
  (q:(if ts.length<sizeLine then O.nx (ρ.set i (some (.o (ts++[x])))) else .bad).res K E F0 H0 F D):∃l,σ[i]? = some (some (.ref l))/\uA (.ref l) [v] H λ_ H1=>D.nx σ H1:=by
 by_cases g:ts.length<sizeLine
 .rw[aQ g]at q;obtain⟨p,h,_⟩:=r.ov;obtain⟨_,_,_,k,d,z⟩:=h i ts e;obtain⟨l,b,j,c,s,m⟩:=r.change e (z.append (.cons n .nil));have:b=k:=by
   have a:=(h i ts e).1;rw[j]at a;have:l=p i:=by simpa using a
   rw[this,d]at c;cases c;rfl
  subst this;exact⟨l,j,l,b,v,rfl,rfl,c,by rw[z.length];exact g,q F _ _ (.refl _) m⟩
 .rw[aR g]at q;exact q.elim
def JO(K:W.Frag)(i:Nat)(a:TE):TE:=K2 K "list" uA (je i) (nU a qa)
def EV(o:∀l k H,H l=some (.lst k)->IH K "list" (.ref l) H)(h:ME K E t f):MS K E (vS (JO K i t)) (pW i (iz f)):=λF0 H0 F H σ ρ D r q=>by
 unfold pW at q;cases e:kf ρ i with
 |bad=>rw[e]at q;exact q.elim
 |er C n=>unfold kf at e;split at e<;>cases e
 |ok ts=>rw[e]at q;have c:=qr e;obtain⟨B,m,_⟩:=r.ov;obtain⟨a,_,_,y,d,_⟩:=m i ts c;refine⟨_,a,o _ _ _ d,?_⟩;refine h.inH r q λx v A z g w p s=>?_;obtain⟨l,j,b⟩:=BS p c w s;rw[a]at j;cases j;exact b
@[simp] noncomputable def ur(i:Nat)(b:En->M T)(f:En->M T):En->O:=λρ=>.of (kf ρ i) λa=>.of (f ρ) λt=>.of (b ρ) λk=>match k with
 |.int k=>match ui a.length k with
  |some j=>.nx (ρ.set i (some (.o (a.set j t))))
  |none=>.bad
 |_=>.bad
theorem Dc{i:Nat}{ts:List T}{x y:T}{v w:V}{l:Addr}(n:Sr K F0 H0 F H σ ρ)(g:ρ[i]? = some (some (.o ts)))(r:σ[i]? = some (some (.ref l)))(C:gX K F v x)(h:gX K F w y)
  (b:(match y with
   |.int k=>match ui ts.length k with
    |some j=>O.nx (ρ.set i (some (.o (ts.set j x))))
    |none=>.bad
   |_=>.bad).res K E F0 H0 F D):yy (.ref l) w v H λB=>D.nx σ B:=by
 cases h with
 |int k=>
  dsimp only at b;cases m:ui ts.length k with
  |none=>rw[m]at b;exact b.elim
  |some j=>
   rw[m]at b;obtain⟨I,p,_⟩:=n.ov;obtain⟨_,_,_,A,d,z⟩:=p i ts g;obtain⟨L,c,q,e,J,s⟩:=n.change g (z.set C j);rw[r]at q;cases q;have:c=A:=by
    have a:=(p i ts g).1;rw[r]at a;have:l=I i:=by simpa using a
    rw[this,d]at e;cases e;rfl
   subst this;exact⟨l,c,k,j,rfl,rfl,e,by rw[z.length];exact m,b F _ _ (.refl _) s⟩
 |_=>exact b.elim
def G9(h:ME K E t f)(d:ME K E tk fk):MS K E (jW t (GM (je i) tk yy)) (ur i (rg fk) (rg f)):=λF0 H0 F H σ ρ D r q=>by
 unfold ur at q;cases e:kf ρ i with
 |bad=>rw[e]at q;exact q.elim
 |er C n=>unfold kf at e;split at e<;>cases e
 |ok ts=>rw[e]at q;have c:=qr e;obtain⟨J,l,_⟩:=r.ov;have a:=(l i ts c).1;refine h.inB r q λx v I B g s o p=>⟨_,a,?_⟩;exact d.inB o p λy w z A k b j m=>Dc j c a (s.mono k.ff) b m
end
end L3
namespace L3
open PySem L2
section
variable {K:W.Frag}{E:XK}{t u ta tb:TE}{f fa fb:Pe->M T}{F0:Fz}{H0 F H F1 H1:Hp}{σ:St}{ρ:En}{D:oG}
structure rF(K:W.Frag)(J:It)(its:List T)(F1:Hp):Prop where
 go:∀i H,eB F1 H->i<its.length->J.go i H
 stop:∀H,eB F1 H->J.stop its.length H
 yld:∀(i:Nat) t F H x H',eB F1 F->eB F H->its[i]? = some t->J.yld i H x H'->∃F',Gr F H F' H'/\gX K F' x t
def kI(K:W.Frag)(F H:Hp)(R:It->Hp->Prop)(a:List T):Prop:=∀J c b,Gr F H c b->rF K J a c->R J b
noncomputable def MI(K:W.Frag)(E:XK)(w:TI)(f:Pe->M (List T)):Prop:=∀F H σ ρ R,eB F H->il K F σ ρ->(f ρ).res (kI K F H R) (kE E F H)->w σ H R
def Lh(K:W.Frag)(F H:Hp)(R:It->Hp->Prop)(a:List T):Prop:=∀J c b,Gr F H c b->(∀F1,rF K J a F1)->R J b
noncomputable def Jq(K:W.Frag)(E:XK)(w:TI)(f:Pe->M (List T)):Prop:=∀F H σ ρ R,eB F H->il K F σ ρ->(f ρ).res (Lh K F H R) (kE E F H)->w σ H R
def Jq.mi{f:Pe->M (List T)}(h:Jq K E w f):MI K E w f:=λF H σ ρ R s V q=>h F H σ ρ R s V (q.mono (λb z J a c g i=>z J a c g (i a)) λ_ _ z=>z)
@[simp] noncomputable def Ke(fa:Pe->M T):Pe->M (List T):=λρ=>(fa ρ).bind λx=>match x with
 |.lst ts=>.ok ts
 |.scr ns=>.ok (ns.map T.int)
 |_=>.bad
@[simp] noncomputable def K9(fa:Pe->M T):Pe->M (List T):=λρ=>(fa ρ).bind λx=>match x with
 |.tup ts=>.ok ts
 |_=>.bad
def uf(c:iY K F a xs)(r:eM K F xs ts):rF K (Kg K a) ts F where
 go:=λi H s l=>by have e:xs[i]? = some (xs[i]'(by rw[r.length];exact l)):=ag _;exact⟨xs,_,s.seq c,e⟩
 stop:=λH s=>⟨xs,s.seq c,by rw[r.length];exact aK _⟩
 yld:=λi t j H x o g d e y=>by obtain⟨rfl,m⟩:=y;have h:=m xs ((g.trans d).seq c);obtain⟨n,b,k⟩:=r.at_ h;rw[e]at b;cases b;exact⟨j,.refl d,k.mono g⟩
def oT(s:eB F H)(h:F a=some (.tup xs)):jv K H a xs:=jv.of (s _ _ h)
def HI(c:F a=some (.tup xs))(r:eM K F xs ts):rF K (KB K a) ts F where
 go:=λi H s l=>by have e:xs[i]? = some (xs[i]'(by rw[r.length];exact l)):=ag _;exact⟨xs,_,oT s c,e⟩
 stop:=λH s=>⟨xs,oT s c,by rw[r.length];exact aK _⟩
 yld:=λi t j H x o g d e y=>by obtain⟨rfl,m⟩:=y;have h:=m xs (oT (g.trans d) c);obtain⟨n,b,k⟩:=r.at_ h;rw[e]at b;cases b;exact⟨j,.refl d,k.mono g⟩
def uE(d:ME K E ta fa):MI K E (vp K ta) (Ke fa):=λF H σ ρ R s V q=>by
  refine d.run s V q λx v F1 H1 a c b=>?_;cases c<;>first
    |exact b.elim
    | (rename_i h r
       exact⟨_,rfl,⟨_,iY.of (a.fh _ _ h)⟩,b _ F1 H1 a (uf (iY.of h) r)⟩)
    | (rename_i h
       exact⟨_,rfl,⟨_,a.fh.seq h⟩,b _ F1 H1 a (uf h (eM.of_ints _))⟩)
def Ir(d:ME K E ta fa):MI K E (G1 K ta) (K9 fa):=λF H σ ρ R s V q=>by
  refine d.run s V q λx v F1 H1 b c a=>?_;cases c<;>first
    |exact a.elim
    | (rename_i h r
       exact⟨_,rfl,⟨_,jv.of (b.fh _ _ h)⟩,a _ F1 H1 b (HI h r)⟩)
def Ku:(2:Int) ^ 62=4611686018427387904:=by decide +kernel
def K0:(2:Int) ^ 63=9223372036854775808:=by decide +kernel
noncomputable def Aw(j:Int):Bool:=decide (j.natAbs<4611686018427387904)
def pQ(h:Aw j=true):-(2 ^ 62)<=j/\j<2 ^ 62:=by rw[Ku];have:=of_decide_eq_true h;omega
def jB(h:j.natAbs<=1000000):Aw j=true:=aC (by omega)
noncomputable def tG(a:Int)(n:Nat):List T:=(List.range n).map λ(i:Nat)=>T.int (a+(i:Int))
def Gz F:rF K (Jt lo n) (tG lo n) F where
 go:=λi H s a=>by show i<n;simpa[tG] using a
 stop:=λH s=>by simp[tG,Jt]
 yld:=λi t b H x g d c e y=>by
  obtain⟨rfl,rfl⟩:=y;have a:i<n:=by simpa[tG] using (aa.mp e).1
  have:t=.int (lo+i):=by unfold tG at e;rw[aw,List.getElem?_range a]at e;cases e;rfl
  rw[this];exact⟨b,.refl c,.int _⟩
@[simp] noncomputable def gW(fa:Pe->M (List T)):Pe->M (List T):=λρ=>(fa ρ).bind λa=>match a with
 |[.int j]=>if Aw j then .ok (tG 0 j.toNat) else .bad
 |_=>.bad
def DY{ta:TA}{fa:Pe->M (List T)}(g:MA K E ta fa):Jq K E (A7 ta) (gW fa):=λF H σ ρ R s V q=>by
 refine g.run s V q λi k F1 H1 h e c=>?_;split at c
 .rename_i j;split at c
  .rename_i d;cases e with
   |cons a b=>cases a;cases b;exact⟨j,rfl,(pQ d).1,(pQ d).2,c _ F1 H1 h Gz⟩
  .exact c.elim
 .exact c.elim
noncomputable def seqB(b:Bool):T->M (List T)
 |.tup ts=>if b then .ok ts else .bad
 |.lst ts=>if b then .bad else .ok ts
 |.scr ns=>if b then .bad else .ok (ns.map T.int)
 |_=>.bad
def tK(r:gX K F v x)(e:seqB b x=.ok ts):∃a c,v=.ref a/\(∀H,eB F H->rj K H b a c)/\eM K F c ts:=by
 cases r<;>try (cases e)
 .rename_i a c g h r;cases b with
  |true=>cases e;exact⟨a,c,rfl,λH s=>by unfold rj;rw[aQ rfl];exact jv.of (s _ _ h),r⟩
  |false=>cases e
 .rename_i a c g h r;cases b with
  |true=>cases e
  |false=>cases e;exact⟨a,c,rfl,λH s=>by unfold rj;rw[aR aH];exact iY.of (s _ _ h),r⟩
 .rename_i a d h;cases b with
  |true=>cases e
  |false=>cases e;exact⟨a,_,rfl,λH s=>by unfold rj;rw[aR aH];exact s.seq h,eM.of_ints d⟩
noncomputable def s9(b a:List T):List T:=(b.zip a).map λp=>T.tup [p.1,p.2]
def Hz(k:∀H,eB F H->rj K H b1 l1 xs)(c:eM K F xs ts)(h:∀H,eB F H->rj K H b2 l2 ys)(j:eM K F ys us):rF K (Kv K b1 b2 l1 l2) (s9 ts us) F where
 go:=λi H s I=>by
  have a:i<ts.length/\i<us.length:=by simp[s9]at I;omega
  have d:xs[i]? = some (xs[i]'(by rw[c.length];exact a.1)):=ag _;have m:ys[i]? = some (ys[i]'(by rw[j.length];exact a.2)):=ag _;exact⟨xs,ys,_,_,k H s,h H s,d,m⟩
 stop:=λH s=>⟨xs,ys,k H s,h H s,by simp[s9,c.length,j.length];omega⟩
 yld:=λi t N H x L b l e y=>by
  obtain⟨p,J,B,rfl,C,rfl,d,m⟩:=y;obtain⟨q,v,r⟩:=c.at_ (d xs (k H (b.trans l)));obtain⟨n,w,A⟩:=j.at_ (m ys (h H (b.trans l)));have:t=.tup [q,n]:=by unfold s9 at e;rw[aw,(List.getElem?_zip_eq_some (z:=(q,n))).mpr ⟨v,w⟩]at e;cases e;rfl
  rw[this];have g:=Gr.new (o:=.tup [J,B]) l C;exact⟨_,g,.tup eh (.cons ((r.mono b).mono g.ff) (.cons ((A.mono b).mono g.ff) .nil))⟩
noncomputable def Iw(c a:Bool)(fa:Pe->M (List T)):Pe->M (List T):=λρ=>(fa ρ).bind λb=>match b with
 |[x,y]=>(seqB c x).bind λd=>(seqB a y).bind λe=>.ok (s9 d e)
 |_=>.bad
def uF:seqB b x≠.er C n:=by cases x<;>cases b<;>exact λz=>nomatch z
def C2{ta:TA}{fa:Pe->M (List T)}(o:MA K E ta fa):MI K E (HM K b1 b2 ta) (Iw b1 b2 fa):=λF H σ ρ R s V q=>by
 refine o.run s V q λz A F1 H1 h k d=>?_;split at d
 .rename_i x y;cases k with
  |cons a b=>
   cases b with
   |cons b c=>
    cases c;cases e:seqB b1 x with
    |bad=>rw[e]at d;exact d.elim
    |er C n=>exact absurd e uF
    |ok ts=>
     rw[e]at d;cases g:seqB b2 y with
     |bad=>simp only[g,M.bind_ok]at d;exact d.elim
     |er C n=>exact absurd g uF
     |ok us=>simp only[g,M.bind_ok]at d;obtain⟨l,p,rfl,j,v⟩:=tK a e;obtain⟨w,m,rfl,i,r⟩:=tK b g;exact⟨l,w,rfl,⟨p,j _ h.fh⟩,⟨m,i _ h.fh⟩,d _ F1 H1 h (Hz j v i r)⟩
 .exact d.elim
def MG(K:W.Frag)(g:TG)(m:T->Pe->Option Pe):Prop:=∀F H σ (ρ:Pe) x t ρ' Q,eB F H->σ.length=ρ.length->il K F σ ρ->gX K F x t->m t ρ=some ρ'->(∀a,a.length=ρ'.length->il K F a ρ'->Q a H)->g x σ H Q
def Je(K:W.Frag)(g:Dt)(m:List T->Pe->Option Pe):Prop:=∀F H σ (ρ:Pe) xs ts ρ' Q,eB F H->σ.length=ρ.length->il K F σ ρ->eM K F xs ts->m ts ρ=some ρ'->(∀a,a.length=ρ'.length->il K F a ρ'->Q a H)->g xs σ H Q
@[simp] def iA(i:Nat):T->Pe->Option Pe:=λt ρ=>some (ρ.set i (some t))
def il.set{ρ:Pe}(V:il K F σ ρ)(d:σ.length=ρ.length)(h:gX K F v x):il K F (σ.set i (some v)) (ρ.set i (some x)):=λj t e=>by
 have c:j<ρ.length:=by simpa using (aa.mp e).1
 rcases eO e with⟨rfl,q⟩|⟨c,q⟩
 .cases q;exact⟨v,uB (by rw[d];exact c),h⟩
 .obtain⟨w,a,b⟩:=V j t q;exact⟨w,by rw[ar (λz=>c z.symm)];exact a,b⟩
def Eo:MG K (fR i) (iA i):=λF H σ ρ x t b Q s a V r e k=>by cases e;exact k _ (by simp[a]) (V.set a r)
@[simp] noncomputable def oQ:List T->Pe->Option Pe
 |[],ρ=>some ρ
 |_::_,_=>none
@[simp] def gI(m:T->Pe->Option Pe)(n:List T->Pe->Option Pe):List T->Pe->Option Pe
 |[],_=>none
 |t::ts,ρ=>(m t ρ).bind (n ts)
def EW:Je K zh oQ:=λF H σ ρ g h c Q s d V r e k=>by
 cases r with
 |nil=>cases e;exact⟨rfl,k σ d V⟩
 |cons a b=>cases e
def AG(o:MG K g m)(l:Je K gs n):Je K (qi g gs) (gI m n):=λF H σ ρ x y c Q s w V r e k=>by
 cases r with
 |nil=>cases e
 |cons a b=>
  rename_i v t j d;have e:(m t ρ).bind (n d)=some c:=e;cases q:m t ρ with
  |none=>rw[q]at e;cases e
  |some ρ1=>rw[q]at e;refine⟨v,j,rfl,o F H σ ρ v t ρ1 _ s w V a q λh i p=>?_⟩;exact l F H h ρ1 j d c Q s i p b e k
@[simp] noncomputable def nY(k:Nat)(m:List T->Pe->Option Pe):T->Pe->Option Pe
 |.tup ts,ρ=>if ts.length=k then m ts ρ else none
 |_,_=>none
def Hj(h:Je K g m):MG K (zf K k g) (nY k m):=λF H σ ρ x t b Q s i V r e q=>by
 cases r with
 |tup hx rs=>
  rename_i a j d;have e:(if d.length=k then m d ρ else none)=some b:=e;by_cases c:d.length=k
  .rw[aQ c]at e;exact⟨_,_,rfl,jv.of (s _ _ hx),by rw[rs.length];exact c,h F H σ ρ _ _ b Q s i V rs e q⟩
  .rw[aR c]at e;cases e
 |_=>cases e
noncomputable def Fj(K:W.Frag)(g:TG)(m:T->En->Option En):Prop:=∀F0 H0 F H σ ρ x t a Q,Sr K F0 H0 F H σ ρ->gX K F x t->m t ρ=some a->(∀b,Sr K F0 H0 F H b a->Q b H)->g x σ H Q
noncomputable def A4(K:W.Frag)(g:Dt)(m:List T->En->Option En):Prop:=∀F0 H0 F H σ ρ c d a Q,Sr K F0 H0 F H σ ρ->eM K F c d->m d ρ=some a->(∀b,Sr K F0 H0 F H b a->Q b H)->g c σ H Q
@[simp] noncomputable def lj(i:Nat):T->En->Option En:=λt ρ=>some (ρ.set i (some (.p t)))
def AO:Fj K (fR i) (lj i):=λF0 H0 F H σ ρ x t a Q s r e k=>by cases e;exact k _ (s.setP r)
@[simp] noncomputable def lR:List T->En->Option En
 |[],ρ=>some ρ
 |_::_,_=>none
@[simp] noncomputable def f9(m:T->En->Option En)(n:List T->En->Option En):List T->En->Option En
 |[],_=>none
 |t::ts,ρ=>(m t ρ).bind (n ts)
def CI:A4 K zh lR:=λF0 H0 F H σ ρ d g c Q s r e k=>by
 cases r with
 |nil=>cases e;exact⟨rfl,k σ s⟩
 |cons a b=>cases e
def zH(l:Fj K g m)(j:A4 K gs n):A4 K (qi g gs) (f9 m n):=λF0 H0 F H σ ρ p w c Q s r e k=>by
 cases r with
 |nil=>cases e
 |cons a b=>
  rename_i v t i d;have e:(m t ρ).bind (n d)=some c:=e;cases q:m t ρ with
  |none=>rw[q]at e;cases e
  |some ρ1=>rw[q]at e;refine⟨v,i,rfl,l F0 H0 F H σ ρ v t ρ1 _ s a q λh o=>?_⟩;exact j F0 H0 F H h ρ1 i d c Q o b e k
@[simp] noncomputable def lE(k:Nat)(m:List T->En->Option En):T->En->Option En
 |.tup ts,ρ=>if ts.length=k then m ts ρ else none
 |_,_=>none
def EK(h:A4 K g m):Fj K (zf K k g) (lE k m):=λF0 H0 F H σ ρ x t b Q s r e q=>by
 cases r with
 |tup hx rs=>
  rename_i a i d;have e:(if d.length=k then m d ρ else none)=some b:=e;by_cases c:d.length=k
  .rw[aQ c]at e;exact⟨_,_,rfl,jv.of (s.gr.fh _ _ hx),by rw[rs.length];exact c,h F0 H0 F H σ ρ _ _ b Q s rs e q⟩
  .rw[aR c]at e;cases e
 |_=>cases e
noncomputable def fP(m:T->En->Option En)(g:En->O):List T->En->O
 |[],ρ=>.nx ρ
 |t::ts,ρ=>match m t ρ with
  |none=>.bad
  |some ρ1=>match g ρ1 with
   |.nx ρ2=>fP m g ts ρ2
   |.ct ρ2=>fP m g ts ρ2
   |.bk ρ2=>.nx ρ2
   |o=>o
theorem qe{tb:TS}{J:It}(hg:Fj K g m)(hb:MS K E tb gb){G:Hp->Hp->Prop}(P:∀i F H,G F H->i<its.length->J.go i H)(Y:∀F H,G F H->J.stop its.length H)(Q:∀(i:Nat) t F H x c,G F H->its[i]? = some t->J.yld i H x c->∃d,Gr F H d c/\gX K d x t)
  (U:∀d c b ρ',eB F1 d->Sr K F0 H0 d c b ρ'->G d c) (r:Sr K F0 H0 F H σ ρ) (s1:eB F1 F)
  (q:(fP m gb its ρ).res K E F0 H0 F D):∃W:Nat->Nat->St->Hp->Prop,(∃m,W 0 m σ H)/\∀i m σ H,W i m σ H->
 (J.stop i H/\D.nx σ H)\/(J.go i H/\∃N:St->Hp->Prop,(∀b c,N b c->∃Z,Z<m/\W (i+1) Z b c)/\∀x c,J.yld i H x c->g x σ c λX H2=>tb {D with nx:=N,ct:=N,bk:=D.nx} X H2):=by
 refine⟨λi k b c=>i<=its.length/\k=its.length-i/\∃d ρ',eB F1 d/\Sr K F0 H0 d c b ρ'/\(fP m gb (its.drop i) ρ').res K E F0 H0 d D,⟨_,bD _,rfl,F,ρ,s1,r,by simpa using q⟩,?_⟩
 rintro i k A I ⟨hi,rfl,L,p,B,v,a⟩
 by_cases h:i<its.length
 .right;refine⟨P i L I (U _ _ _ _ B v) h,λb c=>∃d ρ',eB F1 d/\Sr K F0 H0 d c b ρ'/\(fP m gb (its.drop (i+1)) ρ').res K E F0 H0 d D,λb c z=>⟨its.length-(i+1),by omega,h,rfl,z⟩,λx c y=>?_⟩;have et:=ag h;obtain⟨F3,o,rp⟩:=Q i _ L I x c (U _ _ _ _ B v) et y;rw[cR h]at a;unfold fP at a;cases R:m its[i] p with
  |none=>rw[R]at a;exact a.elim
  |some ρ3=>
   rw[R]at a;refine hg F0 H0 F3 c A p x _ ρ3 _ (v.grow o) rp R λb r'=>?_;refine hb F0 H0 F3 c b ρ3 _ r' ?_;dsimp only at a;cases j:gb ρ3 with
   |bad=>rw[j]at a;exact a.elim
   |nx ρ4=>rw[j]at a;exact λd S w s l=>⟨d,ρ4,(B.trans o.ff).trans s,l,O.res.go a (o.ff.trans s)⟩
   |ct ρ4=>rw[j]at a;exact λd S w s l=>⟨d,ρ4,(B.trans o.ff).trans s,l,O.res.go a (o.ff.trans s)⟩
   |bk ρ4=>rw[j]at a;exact kN.go a o.ff
   |rt t=>rw[j]at a;exact a
   |rf ts=>rw[j]at a;exact a
   |rn ts us=>rw[j]at a;exact a
   |er C n=>rw[j]at a;exact a
 .left;have e:i=its.length:=by omega
  subst e;refine⟨Y L I (U _ _ _ _ B v),?_⟩;rw[List.drop_length]at a;exact a L I A (.refl _) v
def rS{tb:TS}(l:Fj K g m)(j:MS K E tb gb)(b:rF K J its F1)(r:Sr K F0 H0 F H σ ρ)(o:eB F1 F)
  (q:(fP m gb its ρ).res K E F0 H0 F D):∃W:Nat->Nat->St->Hp->Prop,(∃m,W 0 m σ H)/\∀i m σ H,W i m σ H->
 (J.stop i H/\D.nx σ H)\/(J.go i H/\∃N:St->Hp->Prop,(∀c a,N c a->∃h,h<m/\W (i+1) h c a)/\∀x a,J.yld i H x a->g x σ a λd k=>tb {D with nx:=N,ct:=N,bk:=D.nx} d k):=
 qe (G:=λF H=>eB F1 F/\eB F H) l j (λi F H q n=>b.go i H (q.1.trans q.2) n) (λF H q=>b.stop H (q.1.trans q.2)) (λi t F H x a q e y=>b.yld i t F H x a q.1 q.2 e y) (λ_ _ _ _ s r=>⟨s,r.gr.fh⟩) r o q
@[simp] noncomputable def yh(j:Nat)(ts:List T):O->O
 |.nx ρ=>match ρ[j]? with
  |some none=>.nx (ρ.set j (some (.o ts)))
  |_=>.bad
 |.rt t=>.rt t
 |.rf ts=>.rf ts
 |.rn ts us=>.rn ts us
 |.er C n=>.er C n
 |_=>.bad
@[simp] noncomputable def lX(j:Nat)(m:T->En->Option En)(g:En->O):En->O:=λρ=>match ρ[j]? with
 |some (some (.o ts))=>yh j ts (fP m g ts (ρ.set j none))
 |_=>.bad
def Sr.hide(r:Sr K F0 H0 F H σ ρ)(e:ρ[j]? = some (some (.o ts))):∃l vs,σ[j]? = some (some (.ref l))/\H l=some (.lst vs)/\eM K F vs ts/\(∀s∈F0.lt,s.2.1≠l)/\Sr K ⟨F0.hp,(j,l,vs)::F0.lt⟩ H0 F H σ (ρ.set j none):=by
 obtain⟨x,y,J⟩:=r.ov;obtain⟨a,b,c,vs,d,z⟩:=y j ts e;refine⟨x j,vs,a,d,z,λs v w=>(r.lv s v).d j ts e (by rw[w];exact a),r.gr,by simp[r.len],λi t q=>?_,⟨x,λi n q=>?_,λi k n C q P I=>?_⟩,λs v=>?_,λi l A m q=>?_,r.dv.setR λ_ z=>nomatch z⟩
 .rcases eO q with⟨rfl,g⟩|⟨p,g⟩
  .cases g
  .exact r.pv i t g
 .rcases eO q with⟨rfl,g⟩|⟨p,g⟩
  .cases g
  .exact y i n g
 .rcases eO q with⟨rfl,g⟩|⟨p,g⟩
  .cases g
  .rcases eO P with⟨rfl,B⟩|⟨Q,B⟩
   .cases B
   .exact J i k n C g B I
 .rcases aF.mp v with rfl|v
  .refine⟨d,b,c,λi n q w=>?_⟩;rcases eO q with⟨rfl,g⟩|⟨p,g⟩
   .cases g
   .obtain⟨N,_⟩:=y i n g;rw[N]at w;have:x i=x j:=by simpa using w
    exact J i j n ts g e p this
  .have L:=r.lv s v;refine⟨L.h,L.f,L.z,λi n q=>?_⟩;rcases eO q with⟨rfl,g⟩|⟨p,g⟩
   .cases g
   .exact L.d i n g
 .rw[bW]at m;rcases eO q with⟨rfl,g⟩|⟨p,g⟩
  .rw[beq_self_eq_true]at m;cases m;exact a
  .rw[beq_eq_false_iff_ne.mpr p]at m;exact r.sl i l A m g
def Sr.unhide(r:Sr K ⟨F0.hp,(j,l,vs)::F0.lt⟩ H0 F H σ ρ)(e:ρ[j]? = some none)(Q:eM K F vs ts)(S:∀p∈F0.lt,p.2.1≠l):Sr K F0 H0 F H σ (ρ.set j (some (.o ts))):=by
 obtain⟨P,C,R⟩:=r.ov;have L:=r.lv (j,l,vs) (bh ..);have J:=r.sl j l vs (by rw[bW,beq_self_eq_true]) e;have B:∀i v,ρ[i]? = some (some (.o v))->P i≠l:=λi v q w=>L.d i v q (by rw[(C i v q).1,w]);refine⟨r.gr,by simp[r.len],λi t q=>?_,⟨λi=>if i=j then l else P i,λi c q=>?_,λi k c m q I n=>?_⟩,λp N=>?_,λi U A y q=>?_,r.dv.setR λ_ z=>nomatch z⟩
 .rcases eO q with⟨rfl,a⟩|⟨b,a⟩
  .cases a
  .exact r.pv i t a
 .rcases eO q with⟨rfl,a⟩|⟨b,a⟩
  .cases a;dsimp only;rw[aQ rfl];exact⟨J,L.f,L.z,vs,L.h,Q⟩
  .dsimp only;rw[aR b];exact C i c a
 .rcases eO q with⟨rfl,a⟩|⟨b,a⟩
  .rcases eO I with⟨rfl,g⟩|⟨x,g⟩
   .exact absurd rfl n
   .dsimp only;rw[aQ rfl,aR x];exact λw=>B k m g w.symm
  .rcases eO I with⟨rfl,g⟩|⟨x,g⟩
   .dsimp only;rw[aR b,aQ rfl];exact B i c a
   .dsimp only;rw[aR b,aR x];exact R i k c m a g n
 .have s:=r.lv p (bj _ N);refine⟨s.h,s.f,s.z,λi c q=>?_⟩;rcases eO q with⟨rfl,a⟩|⟨b,a⟩
  .rw[J];intro w;exact S p N (by simpa using w.symm)
  .exact s.d i c a
 .rcases eO q with⟨rfl,a⟩|⟨b,a⟩
  .cases a
  .exact r.sl i U A (by rw[bW,beq_eq_false_iff_ne.mpr b];exact y) a
theorem zL{tb:TS}(hw:∀σ H R l vs,σ[j]? = some (some (.ref l))->H l=some (.lst vs)->R (Kg K l) H->w σ H R)(J:Fj K g m)(I:MS K E tb gb) :
  MS K E (rJ w g tb) (lX j m gb):=λF0 H0 F H σ ρ D r q=>by
 unfold lX at q;split at q
 .rename_i A e;obtain⟨l,vs,a,d,z,L,P⟩:=r.hide e;refine hw σ H _ l vs a d ?_;have Q:(fP m gb A (ρ.set j none)).res K E ⟨F0.hp,(j,l,vs)::F0.lt⟩ H0 F D:=by
   cases eo:fP m gb A (ρ.set j none) with
   |bad=>rw[eo]at q;exact q.elim
   |nx ρ2=>
    rw[eo]at q;unfold yh at q;dsimp only at q;split at q
    .rename_i Z;exact λb c o s v=>q b c o s (v.unhide Z (z.mono s) L)
    .exact q.elim
   |rt t=>rw[eo]at q;exact q
   |rf us=>rw[eo]at q;exact q
   |rn A us=>rw[eo]at q;exact q
   |bk ρ2=>rw[eo]at q;exact q.elim
   |ct ρ2=>rw[eo]at q;exact q.elim
   |er C n=>rw[eo]at q;exact q
  refine qe (G:=λb c=>eB F b/\eB b c/\c l=some (.lst vs)) J I (λi b c k U=>?_) (λb c k=>?_) (λi t b c x N k Y y=>?_) (λb c o B s v=>⟨s,v.gr.fh,(v.lv (j,l,vs) (bh ..)).h⟩) P (.refl _) Q
  .have X:vs[i]? = some (vs[i]'(by rw[z.length];exact U)):=ag _;exact⟨vs,_,iY.of k.2.2,X⟩
  .exact⟨vs,iY.of k.2.2,by rw[z.length];exact aK _⟩
  .obtain⟨rfl,hx⟩:=y;obtain⟨t',p,S⟩:=z.at_ (hx vs (iY.of k.2.2));rw[Y]at p;cases p;exact⟨b,.refl k.2.1,S.mono k.1⟩
 .exact q.elim
@[simp] noncomputable def rB(b:Pe->M (List T))(m:T->En->Option En)(g:En->O):En->O:=λρ=>.of (b (jG ρ)) λa=>fP m g a ρ
def Hw{tb:TS}(h:MI K E w fi)(e:Fj K g m)(c:MS K E tb gb):MS K E (rJ w g tb) (rB fi m gb):=λF0 H0 F H σ ρ D r q=>h F H σ (jG ρ) _ r.gr.fh r.vars ((O.res_of q).mono (λd z J j i b a=>rS e c a (r.grow b) (.refl _) (z.go b.ff)) λC n z=>z.go r.gr)
@[simp] noncomputable def pB(b:Pe->M (List T))(m:T->En->Option En)(g:En->O):En->O:=λρ=>.of (b (vw ρ)) λa=>fP m g a ρ
def Fm{tb:TS}(p:Jq K E w fi)(o:Fj K g m)(e:MS K E tb gb):MS K E (rJ w g tb) (pB fi m gb):=λF0 H0 F H σ ρ D r q=>by obtain⟨k,x,d,V,a⟩:=r.lend;refine p k H σ (vw ρ) _ d.fh V ((O.res_of q).mono (λh z J l j v c=>?_) λC n z=>z.go d);obtain⟨s,b,i,_⟩:=a l j v;exact rS o e (c s) (r.grow b) (.refl _) (z.go i)
noncomputable def jo(c:Pe->M Bool)(g:En->O):Nat->En->O
 |0,_=>.bad
 |n+1,ρ=>.of (c (vw ρ)) λb=>if b then (match g ρ with
   |.nx ρ2=>jo c g n ρ2
   |.ct ρ2=>jo c g n ρ2
   |.bk ρ2=>.nx ρ2
   |o=>o) else .nx ρ
def CD{tb:TS}(i:En->Nat)(L:MT K E c fc)(I:MS K E tb gb):MS K E (xm c tb) (λρ=>jo fc gb (i ρ) ρ):=λF0 H0 F H σ ρ D r q=>by
 refine⟨λn g o=>∃e d,eB F e/\Sr K F0 H0 e o g d/\(jo fc gb n d).res K E F0 H0 e D,⟨i ρ,F,ρ,.refl _,r,q⟩,?_⟩;rintro n m N ⟨P,k,A,J,p⟩;cases n with
 |zero=>exact p.elim
 |succ n=>
  unfold jo at p;refine L.inS J p λb x y B w a=>?_;cases b with
  |true=>
   rw[aQ rfl]at a ⊢;refine⟨λg o=>∃e d,eB F e/\Sr K F0 H0 e o g d/\(jo fc gb n d).res K E F0 H0 e D,λg o z=>⟨n,bC n,z⟩,?_⟩;refine I F0 H0 x y m k _ w ?_;cases h:gb k with
   |bad=>rw[h]at a;exact a.elim
   |nx ρ4=>rw[h]at a;exact λe v l s j=>⟨e,ρ4,(A.trans B).trans s,j,O.res.go a s⟩
   |ct ρ4=>rw[h]at a;exact λe v l s j=>⟨e,ρ4,(A.trans B).trans s,j,O.res.go a s⟩
   |bk ρ4=>rw[h]at a;exact a
   |rt t=>rw[h]at a;exact a
   |rf ts=>rw[h]at a;exact a
   |rn ts us=>rw[h]at a;exact a
   |er C n=>rw[h]at a;exact a
  |false=>rw[aR aH]at a ⊢;exact a x y m (.refl _) w
@[simp] noncomputable def jS(a:List (Option Nat))(ρ:Pe):Pe:=a.map fun
 |none=>none
 |some j=>(ρ[j]?).getD none
def il.pull{ρ:Pe}(V:il K F σ ρ) ix:il K F (L2.pull ix σ) (jS ix ρ):=λi t e=>by
 unfold jS at e;rw[aw]at e;cases q:ix[i]? with
 |none=>rw[q]at e;cases e
 |some w=>
  rw[q]at e;cases w with
  |none=>cases e
  |some j=>
   have c:(ρ[j]?).getD none=some t:=by simpa using e
   cases z:ρ[j]? with
   |none=>rw[z]at c;cases c
   |some y=>rw[z]at c;have:y=some t:=c;rw[this]at z;obtain⟨v,a,b⟩:=V j t z;refine⟨v,?_,b⟩;unfold L2.pull;rw[aw,q];simp[a]
@[simp] noncomputable def nr(m:T->Pe->Option Pe)(c:Pe->M Bool)(a:Pe->M T)(ρ:Pe)(t:T):M (Option T):=match m t ρ with
 |none=>.bad
 |some ρ1=>(c ρ1).bind λb=>if b then (a ρ1).bind λx=>.ok (some x) else .ok none
noncomputable def lF(k:T->M (Option T)):List T->M (List T)
 |[]=>.ok []
 |t::ts=>(k t).bind λo=>(lF k ts).bind λr=>.ok (match o with
  |some x=>x::r
  |none=>r)
def Ds:XK:=λ_ _ _=>False
def Hq:MT K E HB (λ_=>.ok true):=λF H σ ρ Q s V q=>q F H (.refl s)
theorem Cw{ρ:Pe}(hg:MG K g m)(ht:MT K Ds tt ft)(he:ME K Ds te fe)(V:il K F1 σ ρ)
  (l:rF K J its F1) (s:eB F1 H1) (hl:its.length<sizeLine) (q:(lF (nr m ft fe (jS ix ρ)) its).res (kF K F1 H1 Q) (λ_ _=>False)):KZ J ix g tt te σ H1 Q:=by
 refine⟨λi k R H=>i<=its.length/\k=its.length-i/\∃X j,Gr F1 H1 X H/\eM K X R j/\j.length<=i/\(lF (nr m ft fe (jS ix ρ)) (its.drop i)).res (λus=>kF K F1 H1 Q (j++us)) (λ_ _=>False),
  ⟨_,bD _,rfl,F1,[],.refl s,.nil,bD _,by simpa using q⟩,?_⟩
 rintro i k R B ⟨hi,rfl,S,j,c,A,tl,p⟩;by_cases a:i<its.length
 .right;refine⟨l.go i B (c.ff.trans c.fh) a,by rw[A.length];omega,λx L y=>?_⟩;have et:=ag a;obtain⟨F3,r,rp⟩:=l.yld i _ S B x L c.ff c.fh et y;rw[cR a]at p;unfold lF at p;have d:=M.res.unb p;unfold nr at d;cases N:m its[i] (jS ix ρ) with
  |none=>rw[N]at d;exact d.elim
  |some ρ3=>
   rw[N]at d;have h:=c.trans r;have V3:=(V.mono h.ff).pull ix;refine hg F3 L _ _ x _ ρ3 _ r.fh (by simp[L2.pull,jS]) V3 rp N λo hl' Z=>?_;have q4:=M.res.unb d;refine ht F3 L o ρ3 _ r.fh Z (q4.mono (λb z U H4 n=>?_) λ_ _ z=>z.elim);cases b with
   |true=>rw[aQ rfl]at z ⊢;have q5:=M.res.unb z;refine he U H4 o ρ3 _ n.fh (Z.mono n.ff) (q5.mono (λx' z' v F5 H5 Y P=>?_) λ_ _ z=>z.elim);refine⟨its.length-(i+1),by omega,a,rfl,F5,j++[x'],(h.trans n).trans Y,(A.mono (r.ff.trans (n.ff.trans Y.ff))).append (.cons P .nil),by simp;omega,?_⟩;have I:=M.res.unb z';exact I.mono (λus w=>by rw[bP];exact w) λ_ _ w=>w
   |false=>rw[aR aH]at z ⊢;refine⟨its.length-(i+1),by omega,a,rfl,U,j,h.trans n,A.mono (r.ff.trans n.ff),by omega,?_⟩;exact M.res.unb z
 .left;have e:i=its.length:=by omega
  subst e;rw[List.drop_length]at p;refine⟨l.stop B (c.ff.trans c.fh),λD C=>?_⟩;have d:kF K F1 H1 Q j:=by simpa[lF,M.res] using p
  exact d D R S _ (c.trans (.new' c.fh C)) (eF c.hh C) (eF c.fh C) eh A
def Gm(h:MI K E w fi)(d:MG K g m)(e:MT K Ds tt ft)(i:ME K Ds te fe) :
  MF K E (BZ ix w g tt te) (λρ=>(fi ρ).bind λa=>(if a.length<sizeLine then lF (nr m ft fe (jS ix ρ)) a else .bad).noEr):=λF H σ ρ Q s V q=>by
 refine h F H σ ρ _ s V ((M.res.unb q).mono (λa z J l k b c=>?_) λ_ _ z=>z);split at z
 .rename_i j;exact Cw d e i (V.mono b.ff) c b.fh j (z.noEr.mono (λ_ w=>w.go b) λ_ _ w=>w)
 .exact z.elim
end
end L3
namespace L3
open PySem L2
section
variable {K:W.Frag}{E:XK}{t u ta tb:TE}{f fa fb:Pe->M T}{F0:Fz}{H0 F H F1 H1:Hp}{σ:St}{ρ:En}{D:oG}
noncomputable def uy(K:W.Frag)(F:List T->M T):Sp:=λb H Q E=>∃a F0,eB F0 H/\eM K F0 b a/\(F a).res (kV K F0 H Q) (kE E F0 H)
noncomputable def wg(K:W.Frag)(F:List T->M (List T)):Sp:=λb H Q E=>∃a F0,eB F0 H/\eM K F0 b a/\(F a).res (kF K F0 H Q) (kE E F0 H)
@[simp] noncomputable def eE(fa:Pe->M (List T))(F:List T->M T):Pe->M T:=λρ=>(fa ρ).bind λa=>(F a).noEr
@[simp] noncomputable def jr(fa:Pe->M (List T))(F:List T->M (List T)):Pe->M (List T):=λρ=>(fa ρ).bind λa=>(F a).noEr
section
variable {tr:TA}{fr:Pe->M (List T)}{Fn:List T->M T}{Ff:List T->M (List T)}{E':XK}
def C9(e:MA K E tr fr):ME K E (sy (uy K Fn) [] E' tr) (eE fr Fn):=λF H σ ρ Q s V q=>by refine e.run s V q λd g F1 H1 a b c=>?_;exact⟨d,F1,a.fh,by rw[bE];exact b,(c.mono (λ_ z=>kV.go z a) λ_ _ z=>z).noEr⟩
def CT(e:MA K E tr fr):MF K E (sy (wg K Ff) [] E' tr) (jr fr Ff):=λF H σ ρ Q s V q=>by refine e.run s V q λd g F1 H1 a b c=>?_;exact⟨d,F1,a.fh,by rw[bE];exact b,(c.mono (λ_ z=>kF.go z a) λ_ _ z=>z).noEr⟩
@[simp] noncomputable def qw(C:Addr)(m:Str)(x:T):M Unit:=match x with
 |.obj C' fs=>if C'=C/\fs.lookup m=none then .ok () else .bad
 |_=>.bad
@[simp] noncomputable def vB(C:Addr)(m:Str)(b:Pe->M T)(fr:Pe->M (List T))(F:List T->M T):Pe->M T:=λρ=>(b ρ).bind λx=>(qw C m x).bind λ_=>(fr ρ).bind λa=>(F (x::a)).noEr
@[simp] noncomputable def ql(C:Addr)(m:Str)(b:Pe->M T)(fr:Pe->M (List T))(F:List T->M (List T)):Pe->M (List T):=λρ=>(b ρ).bind λx=>(qw C m x).bind λ_=>(fr ρ).bind λa=>(F (x::a)).noEr
def yF(r:gX K F v x)(e:qw C m x=.ok ()):∃a dx fs,v=.ref a/\F a=some (.ins C dx fs)/\fs.lookup m=none:=by
 cases r with
 |obj h rs=>
  rename_i a b dx fs c;have e:(if b=C/\List.lookup m c=none then M.ok () else M.bad)=.ok ():=e;by_cases d:b=C/\List.lookup m c=none
  .obtain⟨rfl,g⟩:=d;exact⟨a,dx,fs,rfl,h,rs.none_ g⟩
  .rw[aR d]at e;cases e
 |_=>cases e
def yM:qw C m x≠.er C' n:=by
 unfold qw;split
 .split<;>exact λz=>nomatch z
 .exact λz=>nomatch z
def AR(p:ME K E ta fa)(j:MA K E tr fr):ME K E (sS C m (uy K Fn) [] E' ta tr) (vB C m fa fr Fn):=λF H σ ρ Q s V q=>by
 refine p.run s V q λx v F1 H1 c g b=>?_;cases e:qw C m x with
 |bad=>rw[e]at b;exact b.elim
 |er C n=>exact absurd e yM
 |ok u=>rw[e]at b;obtain⟨a,l,fs,rfl,h,w⟩:=yF g e;refine⟨a,l,fs,rfl,c.fh _ _ h,w,?_⟩;refine j.run c.fh (V.mono c.ff) b λr A i y d k o=>?_;exact⟨x::r,i,d.fh,by rw[bE];exact .cons (g.mono d.ff) k,(o.mono (λ_ z=>kV.go z (c.trans d)) λ_ _ z=>z).noEr⟩
def BC(p:ME K E ta fa)(j:MA K E tr fr):MF K E (sS C m (wg K Ff) [] E' ta tr) (ql C m fa fr Ff):=λF H σ ρ Q s V q=>by
 refine p.run s V q λx v F1 H1 c g b=>?_;cases e:qw C m x with
 |bad=>rw[e]at b;exact b.elim
 |er C n=>exact absurd e yM
 |ok u=>rw[e]at b;obtain⟨a,l,fs,rfl,h,w⟩:=yF g e;refine⟨a,l,fs,rfl,c.fh _ _ h,w,?_⟩;refine j.run c.fh (V.mono c.ff) b λr A i y d k o=>?_;exact⟨x::r,i,d.fh,by rw[bE];exact .cons (g.mono d.ff) k,(o.mono (λ_ z=>kF.go z (c.trans d)) λ_ _ z=>z).noEr⟩
end
@[simp] noncomputable def KU:O->M T
 |.nx _=>.ok .non
 |.rt t=>.ok t
 |.rf ts=>.ok (.lst ts)
 |.rn ts us=>.ok (.tup (ts++[.lst us]))
 |.er C n=>.er C n
 |_=>.bad
@[simp] noncomputable def KN:O->M (List T)
 |.rf ts=>.ok ts
 |.er C n=>.er C n
 |_=>.bad
@[simp] noncomputable def e7(n:Nat)(ts:List T):En:=ts.map (λt=>some (W.p t))++List.replicate (n-ts.length) none
@[simp] noncomputable def kZ(k n:Nat)(g:En->O):List T->M T:=λa=>if a.length=k then KU (g (e7 n a)) else .bad
@[simp] noncomputable def vU(k n:Nat)(g:En->O):List T->M (List T):=λa=>if a.length=k then KN (g (e7 n a)) else .bad
def rO{n i:Nat}(e:(e7 n ts)[i]? = some (some (.d kvs))):False:=by
 unfold e7 at e;rw[List.getElem?_append]at e;split at e
 .rw[aw]at e;cases q:ts[i]? with
  |none=>rw[q]at e;cases e
  |some x=>rw[q]at e;cases e
 .rw[List.getElem?_replicate]at e;split at e<;>cases e
def vz(s:eB F H)(r:eM K F vs ts):Sr K ⟨F,[]⟩ H F H (hZ N vs) (e7 N.length ts):=by
 refine⟨.refl s,?_,λi t e=>?_,⟨λ_=>0,λi l e=>?_,λi j l m e=>?_⟩,λ_ g=>(nomatch g),λ_ _ _ h=>(by cases h),⟨λi c e=>(rO e).elim,λi j c d e=>(rO e).elim⟩⟩
 .simp[L2.hZ,e7,r.length]
 .unfold e7 at e;rw[List.getElem?_append]at e;split at e
  .rename_i k;rw[aw]at e;cases q:ts[i]? with
   |none=>rw[q]at e;cases e
   |some x=>rw[q]at e;cases e;obtain⟨v,a,b⟩:=r.get q;refine⟨v,?_,b⟩;unfold L2.hZ;rw[List.getElem?_append_left (by simpa[r.length] using k),aw,a];rfl
  .rw[List.getElem?_replicate]at e;split at e<;>cases e
 .exfalso;unfold e7 at e;rw[List.getElem?_append]at e;split at e
  .rw[aw]at e;cases q:ts[i]? with
   |none=>rw[q]at e;cases e
   |some x=>rw[q]at e;cases e
  .rw[List.getElem?_replicate]at e;split at e<;>cases e
 .exfalso;unfold e7 at e;rw[List.getElem?_append]at e;split at e
  .rw[aw]at e;cases q:ts[i]? with
   |none=>rw[q]at e;cases e
   |some x=>rw[q]at e;cases e
  .rw[List.getElem?_replicate]at e;split at e<;>cases e
def xS(h:uy K (kZ k n g) vs H Q E):vs.length=k:=by
 obtain⟨b,F0,s,r,q⟩:=h;unfold kZ at q;by_cases a:b.length=k
 .rw[r.length];exact a
 .rw[aR a]at q;exact q.elim
def tP{t:TS}(l:MS K E t g)(h:uy K (kZ k N.length g) vs H Q E):t {nx:=λ_ b=>Q .non b,rt:=Q} (hZ N vs) H:=by
 obtain⟨a,F0,s,r,q⟩:=h;unfold kZ at q;by_cases c:a.length=k
 .rw[aQ c]at q;refine l ⟨F0,[]⟩ H F0 H _ _ _ (vz s r) ?_;cases e:g (e7 N.length a) with
  |bad=>rw[e]at q;exact q
  |nx ρ=>rw[e]at q;exact λj b d _ i=>q .non j b i.gr .non
  |rt t=>rw[e]at q;exact q
  |rf a=>rw[e]at q;exact kF.of q
  |rn a us=>rw[e]at q;exact kT.of q
  |bk ρ=>rw[e]at q;exact q.elim
  |ct ρ=>rw[e]at q;exact q.elim
  |er C n=>rw[e]at q;exact q
 .rw[aR c]at q;exact q.elim
def uo(h:wg K (vU k n g) vs H Q E):vs.length=k:=by
 obtain⟨b,F0,s,r,q⟩:=h;unfold vU at q;by_cases a:b.length=k
 .rw[r.length];exact a
 .rw[aR a]at q;exact q.elim
def qk{t:TS}(d:MS K E t g)(h:wg K (vU k N.length g) vs H Q E):t {nx:=λ_ c=>Q .non c,rt:=Q} (hZ N vs) H:=by
 obtain⟨a,F0,s,r,q⟩:=h;unfold vU at q;by_cases b:a.length=k
 .rw[aQ b]at q;refine d ⟨F0,[]⟩ H F0 H _ _ _ (vz s r) ?_;cases e:g (e7 N.length a) with
  |bad=>rw[e]at q;exact q
  |nx ρ=>rw[e]at q;exact q.elim
  |rt t=>rw[e]at q;exact q.elim
  |rf a=>rw[e]at q;exact q
  |rn a us=>rw[e]at q;exact q.elim
  |bk ρ=>rw[e]at q;exact q.elim
  |ct ρ=>rw[e]at q;exact q.elim
  |er C n=>rw[e]at q;exact q
 .rw[aR b]at q;exact q.elim
@[simp] noncomputable def xw(C:Addr)(x:Str)(fa:Pe->M T):Pe->M T:=λρ=>(fa ρ).bind λo=>match o with
 |.obj C' fs=>if C'=C then (match fs.lookup x with
  |some t=>.ok t
  |none=>.bad) else .bad
 |_=>.bad
def Ik(l:sh K C)(m:iF K C x)(p:ME K E ta fa):ME K E (GU K ta x) (xw C x fa):=λF H σ ρ Q s V q=>by
 refine p.run s V q λo v F1 H1 g i b=>?_;cases i with
 |obj h rs=>
  rename_i a d k fs r;dsimp only at b;by_cases c:d=C
  .subst c;rw[aQ rfl]at b;cases e:List.lookup x r with
   |none=>rw[e]at b;exact b.elim
   |some y=>rw[e]at b;obtain⟨w,j,n⟩:=rs.look e;exact⟨a,d,k,fs,w,rfl,g.fh _ _ h,l,m,j,b w F1 H1 g n⟩
  .rw[aR c]at b;exact b.elim
 |_=>exact b.elim
end
end L3
namespace L3
open PySem L2 PySem.Spec PyProof.Rows
structure Pm(K:W.Frag)(E:XK)(X:Cx)(e:Expr)(t:TE)(f:Pe->M T):Prop where
 pe:PE X e t
 me:ME K E t f
structure Au(K:W.Frag)(E:XK)(X:Cx)(e:Expr)(t:TE)(f:Pe->M (List T)):Prop where
 pe:PE X e t
 mf:MF K E t f
structure yz(K:W.Frag)(E:XK)(X:Cx)(e:Expr)(t:TT)(f:Pe->M Bool):Prop where
 pt:PT X e t
 mt:MT K E t f
structure G8(K:W.Frag)(E:XK)(X:Cx)(e:Expr)(t:TT)(f:Pe->M Bool):Prop where
 pw:PW X e t
 mt:MT K E t f
structure yt(K:W.Frag)(E:XK)(X:Cx)(es:List Expr)(t:TA)(f:Pe->M (List T)):Prop where
 pa:PA X es t
 ma:MA K E t f
structure Av(K:W.Frag)(E:XK)(X:Cx)(tg it:Expr)(w:TI)(f:Pe->M (List T)):Prop where
 pi:PI X tg it w
 mi:MI K E w f
structure nQ(K:W.Frag)(E:XK)(X:Cx)(tg it:Expr)(w:TI)(f:Pe->M (List T)):Prop where
 pi:PI X tg it w
 mi:Jq K E w f
structure IM(K:W.Frag)(X:Cx)(tg:Expr)(g:TG)(m:T->Pe->Option Pe):Prop where
 pg:PG X tg g
 mg:MG K g m
structure Ec(K:W.Frag)(X:Cx)(tg:List Expr)(g:Dt)(m:List T->Pe->Option Pe):Prop where
 pg:IG X tg g
 mg:Je K g m
structure IS(K:W.Frag)(X:Cx)(tg:Expr)(g:TG)(m:T->En->Option En):Prop where
 pg:PG X tg g
 mg:Fj K g m
structure ED(K:W.Frag)(X:Cx)(tg:List Expr)(g:Dt)(m:List T->En->Option En):Prop where
 pg:IG X tg g
 mg:A4 K g m
structure uG(K:W.Frag)(E:XK)(X:Cx)(st:Stmt)(t:TS)(g:En->O):Prop where
 ps:PS X st t
 ms:MS K E t g
structure kJ(K:W.Frag)(E:XK)(X:Cx)(sts:List Stmt)(t:TS)(g:En->O):Prop where
 ps:uI X sts t
 ms:MS K E t g
noncomputable def MO(K:W.Frag)(E:XK)(t:TO)(f:Pe->M (Option Int)):Prop:=∀F H b a Q,eB F H->il K F b a->(f a).res (λo=>∀d c,Gr F H d c->Q o c) (kE E F H)->t b H Q
structure Kh(K:W.Frag)(E:XK)(X:Cx)(e:Oq Expr)(t:TO)(f:Pe->M (Option Int)):Prop where
 po:PO X e t
 mo:MO K E t f
structure Cy(K:W.Frag)(E:XK)(X:Cx)(es:List Expr)(t:TT)(f:Pe->M Bool):Prop where
 pf:Ad X es t
 mt:MT K E t f
section
variable {K:W.Frag}{E:XK}{X:Cx}{a b c e o:Expr}{es:List Expr}{ta tb tc te to:TE}{fa fb fc fe fo:Pe->M T}{tr:TA}{fr:Pe->M (List T)}{pos p p2 apos:Pos}
def dR i (h:X.N[i]? = some x:=by rfl) (g:IR X.env.scope x:=by first|exact Or.inl rfl|exact Or.inr (Or.inl rfl)|exact Or.inr (Or.inr rfl)) (f:(x==("__debug__" : Str))=false:=by decide)
  (d:(x==("__classdict__" : Str))=false:=by decide):Pm K E X (.Name x pos) (je i) (dX i):=⟨pv i h g f d,Hu⟩
def d9{j pos}:Pm K E X (.Constant (.int i) j pos) (tC (.int i)) (cM (.int i)):=⟨wO,DM λ_=>.int i⟩
def nA{b:Bool}{j pos}:Pm K E X (.Constant (.bool b) j pos) (tC (.bl b)) (cM (.bl b)):=⟨yi,DM λ_=>.bl b⟩
def B5{j pos}:Pm K E X (.Constant .none j pos) (tC .non) (cM .non):=⟨GA,DM λ_=>.non⟩
def u0 i (g:∃t,X.mg x=some (.int i t)) (f:Gl X x:=by rfl) (d:(x==("__debug__" : Str))=false:=by decide):Pm K E X (.Name x pos) (tC (.int i)) (cM (.int i)):=let ⟨t,h⟩:=g;⟨Fh f h ⟨t,rfl⟩ d,DM λ_=>.int i⟩
def fv(h:Au K E X e te f):Pm K E X e te (λρ=>(f ρ).bind λts=>.ok (.lst ts)):=⟨h.pe,h.mf.me⟩
def m3(g:l9 X (binaryOp op) r)(h:MR K r m)(d:Pm K E X a ta fa)(f:Pm K E X b tb fb):Pm K E X (.BinOp a op b pos) (pP r ta tb) (eG m fa fb):=⟨B3 g d.pe f.pe,yG h d.me f.me⟩
def Dm(K:W.Frag):R2:=λx y H Q=>(uR λi j=>.int (i+j)) x y H Q\/(∃i j,x=.str i/\y=.str j/\i.length+j.length<=sizeLine/\Q (.str (i++j)) H)\/Iu x y H Q\/
 ∃a b d f,x=.ref a/\y=.ref b/\H a=some (.tup d)/\H b=some (.tup f)/\d.length+f.length<=sizeLine/\(d=[]->Q (.ref b) H)/\(d≠[]->f=[]->Q (.ref a) H)/\(d≠[]->f≠[]->∀p,H p=none->Q (.ref p) (e6 H p (.tup (d++f))))
def DT(hK:X.K=K:=by rfl):l9 X (binaryOp .Add) (Dm K):=by
 subst hK;intro i s g H x y v u Q I f d h;rcases h with h|h|h|h
 .exact Hc i s g H x y v u Q I f d h
 .exact wK i s g H x y v u Q I f d h
 .exact Bv i s g H x y v u Q I f d h
 .obtain⟨a,b,n,ys,rfl,rfl,t,m,P,A,J,C⟩:=h;by_cases j:n=[]
  .subst j;cases f;cases d;obtain⟨z,B,U,_⟩:=I.tuple (jv.of t);obtain⟨r,r2,p2,_⟩:=I.tuple (jv.of m);cases B;obtain⟨⟨c1,D,e1,s1⟩,w,R,Y,k⟩:=id U;obtain⟨⟨c2,S,e2,Z⟩,q,k2,N,l⟩:=id p2;subst R k k2 l;exact concat_meets ⟨_,w,rfl⟩ ⟨_,q,rfl⟩ noFill_tuple_add seq_tuple_add PySem.F.slot_tuple_add PySem.F.entry_tuple_add (PySem.F.args_tuple_add_2 _ _) (tuple_addW0 a b _ _ Y N D S s1 Z (by simp)) ⟨w,q,⟨.ref b,H,I,rfl,A rfl⟩⟩
  .exact E9 i s g H _ _ v u Q I f d ⟨a,b,n,ys,rfl,rfl,jv.of t,jv.of m,j,P,λe=>J j e,λe p L=>C j e p L⟩
noncomputable def gH:T->T->M T
 |.int i,.int j=>.ok (.int (i+j))
 |.str i,.str j=>if i.length+j.length<=sizeLine then .ok (.str (i++j)) else .bad
 |.lst a,.lst b=>if a.length+b.length<=sizeLine then .ok (.lst (a++b)) else .bad
 |.tup a,.tup b=>if a.length+b.length<=sizeLine then .ok (.tup (a++b)) else .bad
 |_,_=>.bad
def EA x y:M.NoE (gH x y):=λC n=>by unfold gH;split<;>first|(intro z;cases z;done)|(split<;>intro z<;>cases z)
def DL:MR K (Dm K) gH:=⟨EA,λF H v w x y Q s r l q=>by
 cases r with
 |int i=>
  cases l with
  |int j=>exact .inl ⟨i,j,rfl,rfl,kV.now q s (.int _)⟩
  |_=>exact q.elim
 |str i=>
  cases l with
  |str j=>
   have d:(if i.length+j.length<=sizeLine then M.ok (T.str (i++j)) else M.bad).res (kV K F H Q) (λ_ _=>False):=q;by_cases h:i.length+j.length<=sizeLine
   .rw[aQ h]at d;exact .inr (.inl ⟨i,j,rfl,rfl,h,kV.now d s (.str _)⟩)
   .rw[aR h]at d;exact d.elim
  |_=>exact q.elim
 |lst h1 r1=>
  cases l with
  |lst h2 r2=>
   rename_i a m f b n g;have d:(if f.length+g.length<=sizeLine then M.ok (T.lst (f++g)) else M.bad).res (kV K F H Q) (λ_ _=>False):=q;by_cases h:f.length+g.length<=sizeLine
   .rw[aQ h]at d;refine .inr (.inr (.inl ⟨a,b,m,n,rfl,rfl,s _ _ h1,s _ _ h2,by rw[r1.length,r2.length];exact h,λp k=>?_⟩));exact d (.ref p) _ _ (.new s k) (.lst eh ((r1.append r2).mono (Gr.new s k).ff))
   .rw[aR h]at d;exact d.elim
  |_=>exact q.elim
 |tup h1 r1=>
  cases l with
  |tup h2 r2=>
   rename_i a m f b n g;have d:(if f.length+g.length<=sizeLine then M.ok (T.tup (f++g)) else M.bad).res (kV K F H Q) (λ_ _=>False):=q;by_cases h:f.length+g.length<=sizeLine
   .rw[aQ h]at d;refine .inr (.inr (.inr ⟨a,b,m,n,rfl,rfl,s _ _ h1,s _ _ h2,by rw[r1.length,r2.length];exact h,λe=>?_,λ_ e=>?_,λ_ _ p k=>?_⟩))
    .subst e;cases r1;exact kV.now d s (.tup h2 r2)
    .subst e;cases r2;exact kV.now d s (.tup h1 (by rw[bE];exact r1))
    .exact d (.ref p) _ _ (.new s k) (.tup eh ((r1.append r2).mono (Gr.new s k).ff))
   .rw[aR h]at d;exact d.elim
  |_=>exact q.elim
 |_=>exact q.elim⟩
def f6(g:Pm K E X a ta fa)(f:Pm K E X b tb fb)(d:X.K=K:=by rfl):Pm K E X (.BinOp a .Add b pos) (pP (Dm K) ta tb) (eG gH fa fb):=m3 (DT d) DL g f
@[simp] noncomputable def uO(fa fb:Pe->M T):Pe->M (List T):=λd=>(fa d).bind λx=>(fb d).bind λy=>match x,y with
 |.lst a,.lst b=>if a.length+b.length<=sizeLine then .ok (a++b) else .bad
 |_,_=>.bad
def wI(t:Pm K E X a ta fa)(n:Pm K E X b tb fb):Au K E X (.BinOp a .Add b pos) (pP Iu ta tb) (uO fa fb):=by
 refine⟨B3 Bv t.pe n.pe,λF H N J Q s V q=>?_⟩;refine t.me.run s V q λx v L I l u z=>?_;refine n.me.run l.fh (V.mono l.ff) z λy w r B d A i=>?_;cases u with
 |lst h1 t1=>
  cases A with
  |lst h2 t2=>
   rename_i a C k b D m;have g:(if k.length+m.length<=sizeLine then M.ok (k++m) else M.bad).res (kF K F H Q) (kE E r B):=i;by_cases h:k.length+m.length<=sizeLine
   .rw[aQ h]at g;refine⟨a,b,C,D,rfl,rfl,d.fh _ _ (d.ff _ _ h1),d.fh _ _ h2,by rw[t1.length,t2.length];exact h,λp j=>?_⟩;have f:=l.trans d;exact g p _ r _ (f.trans (.new' d.fh j)) (eF f.hh j) (eF d.fh j) eh ((t1.mono d.ff).append t2)
   .rw[aR h]at g;exact g.elim
  |_=>exact i.elim
 |_=>exact i.elim
noncomputable def vG:T->T->M T:=gB (λ_ _=>true) λi j=>.int (i-j)
def qb(f:Pm K E X a ta fa)(d:Pm K E X b tb fb):Pm K E X (.BinOp a .Sub b pos) (pP (uR λi j=>.int (i-j)) ta tb) (eG vG fa fb):=m3 HH (lW λ_ _ _=>.int _) f d
instance {i j:Int}:Decidable (PySem.IntMulOk i j):=inferInstanceAs (Decidable (¬_))
noncomputable def jI:T->T->M T:=gB (λi j=>decide (PySem.IntMulOk i j)) λi j=>.int (i*j)
def gK(f:Pm K E X a ta fa)(d:Pm K E X b tb fb):Pm K E X (.BinOp a .Mult b pos) (pP (rI (λi j=>PySem.IntMulOk i j) λi j=>.int (i*j)) ta tb) (eG jI fa fb):=m3 Fk (oM (λi j h=>of_decide_eq_true h) λ_ _ _=>.int _) f d
noncomputable def qN:T->T->M T:=gB (λi j=>decide (j≠0)&&!Builtin.divisionGoesByPylong i j) λi j=>.int (i.fdiv j)
def tm(f:Pm K E X a ta fa)(d:Pm K E X b tb fb):Pm K E X (.BinOp a .FloorDiv b pos) (pP (rI (λi j=>j≠0/\Builtin.divisionGoesByPylong i j=false) λi j=>.int (i.fdiv j)) ta tb) (eG qN fa fb):=m3 Bf (oM (λi j h=>by simpa using h) λ_ _ _=>.int _) f d
noncomputable def qA:T->T->M T:=gB (λ_ j=>decide (j≠0)) λi j=>.int (i.fmod j)
def mM(f:Pm K E X a ta fa)(d:Pm K E X b tb fb):Pm K E X (.BinOp a .Mod b pos) (pP (rI (λ_ j=>j≠0) λi j=>.int (i.fmod j)) ta tb) (eG qA fa fb):=m3 Fq (oM (λi j h=>by simpa using h) λ_ _ _=>.int _) f d
noncomputable def DJ:T->T->M T:=gB (λi j=>decide (0<=j)&&decide (j<=1000000)&&decide (i.natAbs<18446744073709551616)) λi j=>.int (i ^ j.toNat)
def Hg(f:Pm K E X a ta fa)(d:Pm K E X b tb fb):Pm K E X (.BinOp a .Pow b pos) (pP (rI ET λi j=>.int (i ^ j.toNat)) ta tb) (eG DJ fa fb):=m3 Io (oM (λi j h=>by simp only[bL,decide_eq_true_eq]at h;exact⟨h.1.1,h.1.2,h.2⟩) λ_ _ _=>.int _) f d
def xA(d:Pm K E X a ta fa):Pm K E X (.UnaryOp .USub a pos) (KP (rU λi=>.int (-i)) ta) (Gd (λi=>.int (-i)) fa):=⟨FR BD d.pe,IX (λ_ _=>.int _) d.me⟩
@[simp] noncomputable def CJ(fa fb:Pe->M T):Pe->M (List T):=λd=>(fa d).bind λx=>(fb d).bind λy=>match x,y with
 |.lst a,.int k=>if Aw k=true/\a.length*k.toNat<=sizeLine then .ok (List.replicate k.toNat a).flatten else .bad
 |_,_=>.bad
def Ii(t:Pm K E X a ta fa)(n:Pm K E X b tb fb):Au K E X (.BinOp a .Mult b pos) (pP Ju ta tb) (CJ fa fb):=by
 refine⟨B3 Ic t.pe n.pe,λF H L I Q s V q=>?_⟩;refine t.me.run s V q λx v J D m u z=>?_;refine n.me.run m.fh (V.mono m.ff) z λy w r B d A i=>?_;cases u with
 |lst h1 t1=>
  cases A with
  |int k=>
   rename_i a C l;have g:(if Aw k=true/\l.length*k.toNat<=sizeLine then M.ok (List.replicate k.toNat l).flatten else M.bad).res (kF K F H Q) (kE E r B):=i;by_cases h:Aw k=true/\l.length*k.toNat<=sizeLine
   .rw[aQ h]at g;refine⟨a,k,C,rfl,rfl,d.fh _ _ (d.ff _ _ h1),by have:=pQ h.1;rw[Ku]at this;rw[K0];omega,by have:=pQ h.1;rw[Ku]at this;rw[K0];omega,by rw[t1.length];exact h.2,λp j=>?_⟩;have f:=m.trans d;exact g p _ r _ (f.trans (.new' d.fh j)) (eF f.hh j) (eF d.fh j) eh ((t1.mono d.ff).rep k.toNat)
   .rw[aR h]at g;exact g.elim
  |_=>exact i.elim
 |_=>exact i.elim
def j9(h:Pm K E X e te fe)(f:∀d,isTrue e X.env d=(do let v <-d;standAt e.pos;holding [v] (truthy v)):=by intro _;rfl):yz K E X e (tB te) (fS fe):=⟨G2 h.pe f,DS h.me⟩
section
variable {tA tD:TT}{fA fD:Pe->M Bool}{jy:List Expr}
def iN(h:yz K E X a tA fA):yz K E X (.UnaryOp .Not a pos) (Gp tA) (ko fA):=⟨HC h.pt,Hm h.mt⟩
def xE(h:G8 K E X a tA fA):yz K E X a tA fA:=⟨PW.pt h.pw,h.mt⟩
def vJ(h:yz K E X a tA fA):G8 K E X (.BoolOp .And [a] pos) tA fA:=⟨FA h.pt,h.mt⟩
def ng(h:yz K E X a tA fA):G8 K E X (.BoolOp .Or [a] pos) tA fA:=⟨Hf h.pt,h.mt⟩
def yk(h:yz K E X a tA fA)(h':G8 K E X (.BoolOp .And (b::jy) pos) tD fD):G8 K E X (.BoolOp .And (a::b::jy) pos) (Ip tA tD) (rz fA fD):=⟨GW h.pt h'.pw,GD h.mt h'.mt⟩
def mE(h:yz K E X a tA fA)(h':G8 K E X (.BoolOp .Or (b::jy) pos) tD fD):G8 K E X (.BoolOp .Or (a::b::jy) pos) (KR tA tD) (wU fA fD):=⟨Ji h.pt h'.pw,JT h.mt h'.mt⟩
def uC{op}(h:Pm K E X a ta fa):Pm K E X (.BoolOp op [a] pos) ta fa:=⟨GE h.pe,h.me⟩
def sY(h:Pm K E X a ta fa)(h':Pm K E X (.BoolOp .And (b::jy) pos) tb fb):Pm K E X (.BoolOp .And (a::b::jy) pos) (Bc ta tb) (vL fa fb):=⟨Gw h.pe h'.pe,Ee h.me h'.me⟩
def xb(h:Pm K E X a ta fa):Pm K E X (.UnaryOp .Not a pos) (BK ta) (zm fa):=⟨HW h.pe,E7 h.me⟩
end
def AE(g:l9 X (compareOp op) r)(h:MR K r m)(f:Pm K E X a ta fa)(d:Pm K E X b tb fb)(i:behindInMarks op b=false:=by exact n5 _):Pm K E X (.Compare a [op] [b] pos) (pP r ta tb) (eG m fa fb):=⟨FF g f.pe d.pe i,yG h f.me d.me⟩
def jU(g:l9 X (compareOp op) r)(h:MR K r m)(f:Pm K E X a ta fa)(d:Pm K E X b tb fb)(i:behindInMarks op b=false:=by exact n5 _):yz K E X (.Compare a [op] [b] pos) (vt (pP r ta tb)) (fS (eG m fa fb)):=⟨EY g f.pe d.pe i,DU (yG h f.me d.me)⟩
noncomputable def Kf:T->T->M T:=gB (λ_ _=>true) λi j=>.bl (decide (i<j))
noncomputable def J9:T->T->M T:=gB (λ_ _=>true) λi j=>.bl (decide (i<=j))
noncomputable def IQ:T->T->M T:=gB (λ_ _=>true) λi j=>.bl (decide (j<i))
noncomputable def JP:T->T->M T:=gB (λ_ _=>true) λi j=>.bl (decide (j<=i))
def FS:MR K (uR λi j=>.bl (decide (i<j))) Kf:=lW λ_ _ _=>.bl _
def FV:MR K (uR λi j=>.bl (decide (i<=j))) J9:=lW λ_ _ _=>.bl _
def FM:MR K (uR λi j=>.bl (decide (j<i))) IQ:=lW λ_ _ _=>.bl _
def Gi:MR K (uR λi j=>.bl (decide (j<=i))) JP:=lW λ_ _ _=>.bl _
@[simp] noncomputable def KJ(m f:T->T->M T)(fa fb fc:Pe->M T):Pe->M T:=λd=>(fa d).bind λx=>(fb d).bind λy=>(m x y).bind λz=>match z with
 |.bl true=>(fc d).bind λw=>f y w
 |.bl false=>.ok (.bl false)
 |_=>.bad
def Cn(t:MR K r m)(f:MR K r' m')(ha:ME K E ta fa)(B:ME K E tb fb)(Z:ME K E tc fc):ME K E (wX r r' ta tb tc) (KJ m m' fa fb fc):=λF H σ ρ Q s V q=>by
 refine ha.run s V q λx v F1 H1 n C D=>?_;refine B.run n.fh (V.mono n.ff) D λy w J R h u S=>?_;refine t.ok J R v w x y _ h.fh (C.mono h.ff) u (((M.res.unb S).ne (t.ne x y)).mono (λz j v3 U Y g I=>?_) λ_ _ z=>z);have d:=(n.trans h).trans g;cases I with
 |bl k=>
  refine⟨k,rfl,?_⟩;cases k with
  |true=>rw[aQ rfl];have l:=j.mono (λ_ z=>z) λ_ _ z=>z.go g;refine Z.run g.fh (V.mono d.ff) l λA w4 L H4 i P N=>?_;exact f.ok L H4 w w4 y A Q i.fh (u.mono (g.ff.trans i.ff)) P ((N.ne (f.ne y A)).mono (λ_ z=>z.go (d.trans i)) λ_ _ z=>z)
  |false=>rw[aR aH];exact j _ U Y d (.bl _)
 |_=>exact j.elim
def A3(j:l9 X (compareOp op) r)(k:MR K r m)(f:l9 X (compareOp op') r')(d:MR K r' m')(i:Pm K E X a ta fa)(g:Pm K E X b tb fb)(h:Pm K E X c tc fc)
  (l:lastMarks [op,op'] [b,c]=false:=by with_unfolding_all rfl):Pm K E X (.Compare a [op,op'] [b,c] pos) (wX r r' ta tb tc) (KJ m m' fa fb fc):=⟨Az j f i.pe g.pe h.pe l,Cn k d i.me g.me h.me⟩
mutual
noncomputable def mQ:T->Bool
 |.str x=>PyData.canLay0 (.str x)
 |.lst ts=>lL ts
 |.tup ts=>lL ts
 |.scr _=>false
 |.obj _ _=>false
 |.emp=>false
 |.dic _=>false
 |_=>true
noncomputable def lL:List T->Bool
 |[]=>true
 |t::ts=>mQ t&&lL ts
end
mutual
def vN:T->PyData
 |.non=>.none
 |.bl b=>.bool b
 |.int i=>.int i
 |.str x=>.str x
 |.lst ts=>.list (pE ts)
 |.tup ts=>.tuple (pE ts)
 |.scr _=>.none
 |.obj _ _=>.none
 |.emp=>.none
 |.dic _=>.none
def pE:List T->List PyData
 |[]=>[]
 |t::ts=>vN t::pE ts
end
mutual
theorem Bp{F:Hp}:∀{v:V} {t:T},gX K F v t->mQ t=true->DV K F v (vN t)
 |_,_,.non,_=>.non
 |_,_,.bl b,_=>.bl b
 |_,_,.int i,_=>.int i
 |_,_,.str x,_=>.str x
 |_,_,.lst h r,l=>.lst (iY.of h) (wY r (by simpa[mQ] using l))
 |_,_,.tup h r,l=>.tup (jv.of h) (wY r (by simpa[mQ] using l))
 |_,_,.scr _,l=>by simp[mQ]at l
 |_,_,.obj _ _,l=>by simp[mQ]at l
 |_,_,.emp _,l=>by simp[mQ]at l
 |_,_,.dic _ _,l=>by simp[mQ]at l
theorem wY{F:Hp}:∀{vs:List V} {ts:List T},eM K F vs ts->lL ts=true->wd K F vs (pE ts)
 |_,_,.nil,_=>.nil
 |_,_,.cons h r,l=>by rw[lL,bL]at l;exact .cons (Bp h l.1) (wY r l.2)
end
mutual
theorem tM:∀t,mQ t=true->(vN t).canLay0=true
 |.non,_=>rfl
 |.bl b,_=>rfl
 |.int i,_=>rfl
 |.str x,h=>by simpa[mQ,vN] using h
 |.lst ts,h=>by rw[vN,PyData.canLay0];exact qR ts (by simpa[mQ] using h)
 |.tup ts,h=>by rw[vN,PyData.canLay0];exact qR ts (by simpa[mQ] using h)
 |.scr _,h=>by simp[mQ]at h
 |.obj _ _,h=>by simp[mQ]at h
 |.emp,h=>by simp[mQ]at h
 |.dic _,h=>by simp[mQ]at h
theorem qR:∀ts,lL ts=true->PyData.canLayAll0 (pE ts)=true
 |[],_=>rfl
 |t::ts,h=>by rw[lL,bL]at h;rw[pE,PyData.canLayAll0,tM t h.1,qR ts h.2];rfl
end
noncomputable def w5(x y:T):Bool:=(vN x).eqv (vN y)
noncomputable def qf(b a:List T):Bool:=PyData.eqvAll (pE b) (pE a)
noncomputable def wj(t:T):Nat:=(vN t).depth
noncomputable def mK(ts:List T):Nat:=PyData.depthAll (pE ts)
@[simp] theorem EE i:wj (.int i)=0:=rfl
@[simp] theorem KI i:wj (.bl i)=0:=rfl
@[simp] theorem Km i:wj (.str i)=0:=rfl
@[simp] theorem J7:wj .non=0:=rfl
@[simp] theorem yQ ts:wj (.lst ts)=mK ts+1:=by unfold wj mK;rw[vN,PyData.depth]
@[simp] theorem uh ts:wj (.tup ts)=mK ts+1:=by unfold wj mK;rw[vN,PyData.depth]
@[simp] theorem B0:mK []=0:=rfl
@[simp] theorem nZ t ts:mK (t::ts)=max (wj t) (mK ts):=by unfold wj mK;rw[pE,PyData.depthAll]
@[simp] theorem Kc i j:w5 (.int i) (.int j)=(i==j):=rfl
@[simp] theorem J8 i j:w5 (.str i) (.str j)=(i==j):=rfl
def pM xs ys:w5 (.lst xs) (.lst ys)=qf xs ys:=by unfold w5 qf;rw[vN,vN,PyData.eqv]
def lS xs ys:w5 (.tup xs) (.tup ys)=qf xs ys:=by unfold w5 qf;rw[vN,vN,PyData.eqv]
def kn x xs y ys:qf (x::xs) (y::ys)=(w5 x y&&qf xs ys):=by unfold w5 qf;rw[pE,pE,PyData.eqvAll]
noncomputable def eW(neg:Bool):T->T->M T:=λx y=>if mQ x&&mQ y&&decide (wj x<=100) then .ok (.bl (if neg then !w5 x y else w5 x y)) else .bad
mutual
theorem DV.same{F H:Hp}(s:eB F H):∀{v:V} {d:PyData},DV K F v d->DV K H v d
 |_,_,.non=>.non
 |_,_,.bl b=>.bl b
 |_,_,.int i=>.int i
 |_,_,.str x=>.str x
 |_,_,.lst h r=>.lst (s.seq h) (wd.same s r)
 |_,_,.tup h r=>.tup (s.seqT h) (wd.same s r)
theorem wd.same{F H:Hp}(s:eB F H):∀{v:List V} {d:List PyData},wd K F v d->wd K H v d
 |_,_,.nil=>.nil
 |_,_,.cons h r=>.cons (DV.same s h) (wd.same s r)
end
def DE x y:M.NoE (eW neg x y):=λC n=>by unfold eW;split<;>exact λz=>nomatch z
def yR(neg:Bool):MR K (xt K neg) (eW neg):=⟨DE,λF H v w x y Q s a b q=>by
 unfold eW at q;by_cases h:(mQ x&&mQ y&&decide (wj x<=100))=true
 .rw[aQ h]at q;simp only[bL,decide_eq_true_eq]at h;refine⟨vN x,vN y,DV.same s (Bp a h.1.1),DV.same s (Bp b h.1.2),⟨tM x h.1.1,tM y h.1.2,by exact h.2⟩,?_⟩;exact kV.now q s (.bl _)
 .rw[aR h]at q;exact q.elim⟩
def Jz{k:Nat}(e:e8 k X.A)(f:Pm K E X a ta fa)(d:Pm K E X b tb fb)(c:X.K=K:=by rfl)(g:behindInMarks .Eq b=false:=by exact n5 _):Pm K E X (.Compare a [.Eq] [b] pos) (pP (xt K false) ta tb) (eG (eW false) fa fb):=AE (c▸Cz (Kb e)) (yR false) f d g
def Jb{k:Nat}(e:e8 k X.A)(f:Pm K E X a ta fa)(d:Pm K E X b tb fb)(c:X.K=K:=by rfl)(g:behindInMarks .NotEq b=false:=by exact n5 _):Pm K E X (.Compare a [.NotEq] [b] pos) (pP (xt K true) ta tb) (eG (eW true) fa fb):=AE (c▸CU (Kb e)) (yR true) f d g
def jn{k:Nat}(e:e8 k X.A)(f:Pm K E X a ta fa)(d:Pm K E X b tb fb)(c:X.K=K:=by rfl)(g:behindInMarks .Eq b=false:=by exact n5 _):yz K E X (.Compare a [.Eq] [b] pos) (vt (pP (xt K false) ta tb)) (fS (eG (eW false) fa fb)):=jU (c▸Cz (Kb e)) (yR false) f d g
def jF{k:Nat}(e:e8 k X.A)(f:Pm K E X a ta fa)(d:Pm K E X b tb fb)(c:X.K=K:=by rfl)(g:behindInMarks .NotEq b=false:=by exact n5 _):yz K E X (.Compare a [.NotEq] [b] pos) (vt (pP (xt K true) ta tb)) (fS (eG (eW true) fa fb)):=jU (c▸CU (Kb e)) (yR true) f d g
end
end L3
namespace L3
open PySem L2 PySem.Spec PyProof.Rows
section
variable {K:W.Frag}{E:XK}{X:Cx}{a b c e o tg it:Expr}{es:List Expr}{ta tb tc te to:TE}{fa fb fc fe fo:Pe->M T}{tr:TA}{fr:Pe->M (List T)}{pos p p2 apos:Pos}
def dY:yt K E X [] qa d6:=⟨q0,xM⟩
def dS(d:Pm K E X e te fe)(f:yt K E X es tr fr)(g:starEach (e::es) X.env=(false,eval e X.env)::starEach es X.env:=by rfl):yt K E X (e::es) (nU te tr) (dW fe fr):=⟨kG d.pe f.pa g,Ea d.me f.ma⟩
def lp{x1}(h:yt K E X es tr fr):Pm K E X (.Tuple es x1 pos) (Hi tr) (l8 fr):=⟨AB h.pa,GN h.ma⟩
def ij(h:yt K E X es tr fr):Au K E X (.List es pos) (GH tr) (lstM fr):=⟨G5 h.pa,HP h.ma⟩
structure MC(K:W.Frag)(r:List V->Hp->VK->Prop)(o:List T->M T):Prop where
 ne:∀xs,M.NoE (o xs)
 ok:∀F H vs xs Q,eB F H->eM K F vs xs->(o xs).res (kV K F H Q) (λ_ _=>False)->r vs H Q
structure KA(K:W.Frag)(r:List V->Hp->VK->Prop)(o:List T->M (List T)):Prop where
 ne:∀xs,M.NoE (o xs)
 ok:∀F H vs xs Q,eB F H->eM K F vs xs->(o xs).res (kF K F H Q) (λ_ _=>False)->r vs H Q
@[simp] noncomputable def iQ(o:List T->M T)(fr:Pe->M (List T)):Pe->M T:=λd=>(fr d).bind o
@[simp] noncomputable def E1(o:List T->M (List T))(fr:Pe->M (List T)):Pe->M (List T):=λd=>(fr d).bind o
def Gh{o:List T->M T}(f:MC K r o)(m:MA K E tr fr):ME K E (Du r tr) (iQ o fr):=λF H t n Q s V q=>by refine m.run s V q λd k l j g h i=>?_;exact f.ok l j k d Q g.fh h ((i.ne (f.ne d)).mono (λ_ z=>z.go g) λ_ _ z=>z)
def IV{o:List T->M (List T)}(f:KA K r o)(m:MA K E tr fr):MF K E (Du r tr) (E1 o fr):=λF H t n Q s V q=>by refine m.run s V q λd k l j g h i=>?_;exact f.ok l j k d Q g.fh h ((i.ne (f.ne d)).mono (λ_ z=>z.go g) λ_ _ z=>z)
section
variable {x:Str}{id T':String}{r:List V->Hp->VK->Prop}{m:List T->M T}{mf:List T->M (List T)}
def eR(l:iS X (.builtin id) r)(f:MC K r m)(k:Gl X x)(q:X.mg x=none)(i:bootBuiltins x=some (.builtin id))(h:yt K E X (e::es) tr fr)(n:x≠ "__name__" :=by decide)(d:(x==("__debug__" : Str))=false:=by decide)
  (j:starEach (e::es) X.env=(false,eval e X.env)::starEach es X.env:=by rfl) (g:(backTo pos (starEach es X.env)).any (·.1)=false:=by rfl):Pm K E X (.Call (.Name x p) (e::es) [] pos) (Du r tr) (iQ m fr):=⟨uU l k q i h.pa n d j g,Gh f h.ma⟩
def iU(l:iS X (.type T') r)(f:MC K r m)(k:Gl X x)(q:X.mg x=none)(i:bootBuiltins x=some (.type T'))(h:yt K E X (e::es) tr fr)(n:x≠ "__name__" :=by decide)(d:(x==("__debug__" : Str))=false:=by decide)
  (j:starEach (e::es) X.env=(false,eval e X.env)::starEach es X.env:=by rfl) (g:(backTo pos (starEach es X.env)).any (·.1)=false:=by rfl):Pm K E X (.Call (.Name x p) (e::es) [] pos) (Du r tr) (iQ m fr):=⟨om l k q i h.pa n d j g,Gh f h.ma⟩
def l4(l:iS X (.type T') r)(f:KA K r mf)(k:Gl X x)(q:X.mg x=none)(i:bootBuiltins x=some (.type T'))(h:yt K E X (e::es) tr fr)(n:x≠ "__name__" :=by decide)(d:(x==("__debug__" : Str))=false:=by decide)
  (j:starEach (e::es) X.env=(false,eval e X.env)::starEach es X.env:=by rfl) (g:(backTo pos (starEach es X.env)).any (·.1)=false:=by rfl):Au K E X (.Call (.Name x p) (e::es) [] pos) (Du r tr) (E1 mf fr):=⟨om l k q i h.pa n d j g,IV f h.ma⟩
end
@[simp] noncomputable def iy:List T->M T
 |[.lst ts]=>.ok (.int ts.length)
 |[.tup ts]=>.ok (.int ts.length)
 |[.scr ns]=>.ok (.int ns.length)
 |[.str z]=>if z.length<=sizeLine then .ok (.int z.length) else .bad
 |_=>.bad
def FD xs:M.NoE (iy xs):=λC n=>by unfold iy;split<;>first|(intro z;cases z;done)|(split<;>first|(intro z;cases z;done)|(split<;>intro z<;>cases z))
def ig:MC K (λg H Q=>∃x n,g=[x]/\GY K x H n/\Q (.int n) H) iy:=⟨FD,λF H i g Q s r q=>by
 cases r with
 |nil=>exact q.elim
 |cons h t=>
  cases t with
  |cons _ _=>cases h<;>exact q.elim
  |nil=>
   cases h with
   |lst h r=>exact⟨_,_,rfl,.inl ⟨_,iY.of (s _ _ h),rfl⟩,by rw[r.length];exact kV.now q s (.int _)⟩
   |tup h r=>exact⟨_,_,rfl,.inr ⟨_,jv.of (s _ _ h),rfl⟩,by rw[r.length];exact kV.now q s (.int _)⟩
   |scr h=>exact⟨_,_,rfl,.inl ⟨_,s.seq h,rfl⟩,by rw[ax];exact kV.now q s (.int _)⟩
   |str z=>
    have d:(if z.length<=sizeLine then M.ok (T.int z.length) else M.bad).res (kV K F H Q) (λ_ _=>False):=q;by_cases f:z.length<=sizeLine
    .rw[aQ f]at d;exact⟨_,z.length,rfl,⟨f,rfl⟩,kV.now d s (.int _)⟩
    .rw[aR f]at d;exact d.elim
   |_=>exact q.elim⟩
@[simp] noncomputable def zF:List T->M T
 |[.int i]=>.ok (.int (if i<0 then -i else i))
 |_=>.bad
def FI xs:M.NoE (zF xs):=λC n=>by unfold zF;split<;>first|(intro z;cases z;done)|(split<;>first|(intro z;cases z;done)|(split<;>intro z<;>cases z))
def CV:MC K (λd H Q=>∃i,d=[.int i]/\Q (.int (if i<0 then -i else i)) H) zF:=⟨FI,λF H f d Q s r q=>by
 cases r with
 |nil=>exact q.elim
 |cons h t=>
  cases t with
  |cons _ _=>cases h<;>exact q.elim
  |nil=>
   cases h with
   |int i=>exact⟨i,rfl,kV.now q s (.int _)⟩
   |_=>exact q.elim⟩
@[simp] noncomputable def iG:List T->M T
 |[.lst ts]=>.ok (.tup ts)
 |[.tup ts]=>.ok (.tup ts)
 |[.scr ns]=>.ok (.tup (ns.map T.int))
 |_=>.bad
def xP xs:M.NoE (iG xs):=λC n=>by unfold iG;split<;>first|(intro z;cases z;done)|(split<;>first|(intro z;cases z;done)|(split<;>intro z<;>cases z))
def iX:MC K (λg H Q=>∃p f,g=[.ref p]/\((iY K H p f/\∀l,H l=none->Q (.ref l) (e6 H l (.tup f)))\/(jv K H p f/\Q (.ref p) H))) iG:=⟨xP,λF H i g Q s r q=>by
 cases r with
 |nil=>exact q.elim
 |cons h t=>
  cases t with
  |cons _ _=>cases h<;>exact q.elim
  |nil=>
   cases h with
   |lst h r=>exact⟨_,_,rfl,.inl ⟨iY.of (s _ _ h),λl d=>q (.ref l) _ _ (.new s d) (.tup eh (r.mono (Gr.new s d).ff))⟩⟩
   |scr h=>exact⟨_,_,rfl,.inl ⟨s.seq h,λl d=>q (.ref l) _ _ (.new s d) (.tup eh (eM.of_ints _))⟩⟩
   |tup h r=>exact⟨_,_,rfl,.inr ⟨jv.of (s _ _ h),kV.now q s (.tup h r)⟩⟩
   |_=>exact q.elim⟩
@[simp] noncomputable def lO:List T->M (List T)
 |[.lst ts]=>.ok ts
 |[.tup ts]=>.ok ts
 |[.scr ns]=>.ok (ns.map T.int)
 |_=>.bad
def Al xs:M.NoE (lO xs):=λC n=>by unfold lO;split<;>first|(intro z;cases z;done)|(split<;>first|(intro z;cases z;done)|(split<;>intro z<;>cases z))
def m7:KA K (λg H Q=>∃p f,g=[.ref p]/\(iY K H p f\/jv K H p f)/\∀l,H l=none->Q (.ref l) (e6 H l (.lst f))) lO:=⟨Al,λF H i g Q s r q=>by
 cases r with
 |nil=>exact q.elim
 |cons h t=>
  cases t with
  |cons _ _=>cases h<;>exact q.elim
  |nil=>
   cases h with
   |lst h r=>exact⟨_,_,rfl,.inl (iY.of (s _ _ h)),λl d=>q l _ F _ (.new' s d) d (eF s d) eh r⟩
   |scr h=>exact⟨_,_,rfl,.inl (s.seq h),λl d=>q l _ F _ (.new' s d) d (eF s d) eh (eM.of_ints _)⟩
   |tup h r=>exact⟨_,_,rfl,.inr (jv.of (s _ _ h)),λl d=>q l _ F _ (.new' s d) d (eF s d) eh r⟩
   |_=>exact q.elim⟩
def n6:List T->Option (LI)
 |[]=>some []
 |.int i::ts=>(n6 ts).bind λr=>some (i::r)
 |_::_=>none
@[simp] theorem II ns:n6 (ns.map T.int)=some ns:=by
 induction ns with
 |nil=>rfl
 |cons n ns ih=>simp[n6,ih]
def mv:List T->Option (List Bool)
 |[]=>some []
 |.bl i::ts=>(mv ts).bind λr=>some (i::r)
 |_::_=>none
theorem sO:∀{ts} {ns},mv ts=some ns->ts=ns.map T.bl
 |[],_,e=>by cases e;rfl
 |t::ts,ns,e=>by
  cases t with
  |bl i=>
   cases q:mv ts with
   |none=>simp[mv,q]at e
   |some r=>simp[mv,q]at e;subst e;rw[sO q];rfl
  |_=>cases e
@[simp] theorem JE ns:mv (ns.map T.bl)=some ns:=by
 induction ns with
 |nil=>rfl
 |cons n ns ih=>simp[mv,ih]
@[simp] noncomputable def rA:List T->M T
 |[.lst ts]=>match mv ts with
  |some ns=>.ok (.bl (ns.all id))
  |none=>.bad
 |_=>.bad
def EG xs:M.NoE (rA xs):=λC n=>by unfold rA;split<;>first|(intro z;cases z;done)|(split<;>first|(intro z;cases z;done)|(split<;>intro z<;>cases z))
def sW:MC K (λf H Q=>∃(p:Addr) (bs:List Bool),f=[.ref p]/\iY K H p (bs.map V.bl)/\Q (.bl (bs.all id)) H) rA:=⟨EG,λF H i f Q s r q=>by
 cases r with
 |nil=>exact q.elim
 |cons h t=>
  cases t with
  |cons _ _=>cases h<;>exact q.elim
  |nil=>
   cases h with
   |lst h r=>
    rename_i a f g;have d:(match mv g with|some ns=>M.ok (T.bl (ns.all id))|none=>M.bad).res (kV K F H Q) (λ_ _=>False):=q;cases e:mv g with
    |none=>rw[e]at d;exact d.elim
    |some ns=>rw[e]at d;rw[sO e]at r;have:=r.bls;subst this;exact⟨a,ns,rfl,iY.of (s _ _ h),kV.now d s (.bl _)⟩
   |_=>exact q.elim⟩
@[simp] noncomputable def IL:T->String
 |.non=> "NoneType"
 |.bl _=> "bool"
 |.int _=> "int"
 |.str _=> "str"
 |.tup _=> "tuple"
 |.lst _=> "list"
 |.scr _=> "script"
 |.obj _ _=> "object"
 |.emp=> "dict"
 |.dic _=> "table"
@[simp] noncomputable def GQ(n:String)(x:T):M T:=match x with
 |.scr _=>.bad
 |.obj _ _=>.bad
 |.dic _=>.bad
 |x=>.ok (.bl (IL x==n||(n == "int" && IL x == "bool")))
def Jh(r:gX K F v x)(s:eB F H)(f:∀g,x≠.scr g)(j:∀C fs,x≠.obj C fs)(d:∀ks,x≠.dic ks):lq K H v (.type (IL x)):=by
 cases r with
 |non=>exact .non
 |bl b=>exact .bl b
 |int i=>exact .int i
 |str x=>exact .str x
 |tup h r=>exact .tup (s _ _ h)
 |lst h r=>exact .lst (s _ _ h)
 |scr h=>exact absurd rfl (f _)
 |obj h r=>exact absurd rfl (j _ _)
 |emp h=>exact .dK (s _ _ h)
 |dic h r=>exact absurd rfl (d _)
@[simp] noncomputable def nN(n:String)(fe:Pe->M T):Pe->M T:=λd=>(fe d).bind λx=>GQ n x
theorem Ho(y:∀t∈["NoneType", "bool", "int", "str", "tuple", "list", "dict"],W.kitOne K (.type t) (.type n)=some (t==n||(n == "int" && t == "bool")))(D:ME K E te fe) :
  ME K E (Du (λA H Q=>∃x T t b,A=[x,.ty T]/\lq K H x t/\W.kitOne K t (.type T)=some b/\Q (.bl b) H) (nU te (nU (tC (.ty n)) qa))) (nN n fe):=λF H J I Q s V q=>by
 refine D.run s V q λx v B j r w f=>?_;have d:∀b,GQ n x=.ok (.bl b)->(∀i,x≠.scr i)->(∀C fs,x≠.obj C fs)->(∀h,x≠.dic h)->b=(IL x==n||(n == "int" && IL x == "bool"))->∃g T t b,[v,L2.V.ty n]=[g,.ty T]/\lq K j g t/\W.kitOne K t (.type T)=some b/\Q (.bl b) j:=by
  intro b e m l k u;rw[e]at f;refine⟨v,n,_,b,rfl,Jh w r.fh m l k,?_,f _ B j r (.bl _)⟩;rw[u];refine y _ ?_;cases x with
  |scr i=>exact absurd rfl (m i)
  |obj C fs=>exact absurd rfl (l C fs)
  |dic h=>exact absurd rfl (k h)
  |_=>simp[IL]
 cases x with
 |scr i=>exact f.elim
 |obj C fs=>exact f.elim
 |dic h=>exact f.elim
 |non=>exact d _ rfl (λ_ z=>nomatch z) (λ_ _ z=>nomatch z) (λ_ z=>nomatch z) rfl
 |bl _=>exact d _ rfl (λ_ z=>nomatch z) (λ_ _ z=>nomatch z) (λ_ z=>nomatch z) rfl
 |int _=>exact d _ rfl (λ_ z=>nomatch z) (λ_ _ z=>nomatch z) (λ_ z=>nomatch z) rfl
 |str _=>exact d _ rfl (λ_ z=>nomatch z) (λ_ _ z=>nomatch z) (λ_ z=>nomatch z) rfl
 |tup _=>exact d _ rfl (λ_ z=>nomatch z) (λ_ _ z=>nomatch z) (λ_ z=>nomatch z) rfl
 |lst _=>exact d _ rfl (λ_ z=>nomatch z) (λ_ _ z=>nomatch z) (λ_ z=>nomatch z) rfl
 |emp=>exact d _ rfl (λ_ z=>nomatch z) (λ_ _ z=>nomatch z) (λ_ z=>nomatch z) rfl
def Ft K:∀n∈["int", "bool", "str", "tuple", "list"],∀t∈["NoneType", "bool", "int", "str", "tuple", "list", "dict"],W.kitOne K (.type t) (.type n)=some (t==n||(n == "int" && t == "bool")):=by intro n f t d;simp only[aF,cS,or_false]at f d;rcases f with rfl|rfl|rfl|rfl|rfl<;>rcases d with rfl|rfl|rfl|rfl|rfl|rfl|rfl<;>rfl
def kL n (q:n∈["int", "bool", "str", "tuple", "list"]) (l:X.mg "isinstance" = none) (f:X.mg x=none) (k:bootBuiltins x=some (.type n)) (r:Pm K E X e te fe) (v:X.K=K:=by rfl) (m:Gl X "isinstance" :=by rfl) (h:Gl X x:=by rfl)
  (d:x≠ "__name__" :=by decide) (g:(x==("__debug__" : Str))=false:=by decide)
  (s:starEach [e,.Name x p3] X.env=(false,eval e X.env)::starEach [.Name x p3] X.env:=by rfl) (i:starEach [.Name x p3] X.env=(false,eval (.Name x p3) X.env)::starEach [] X.env:=by rfl) (j:(backTo pos (starEach [.Name x p3] X.env)).any (·.1)=false:=by rfl) :
  Pm K E X (.Call (.Name "isinstance" p) [e,.Name x p3] [] pos) (Du (λu H Q=>∃x T t b,u=[x,.ty T]/\lq K H x t/\W.kitOne K t (.type T)=some b/\Q (.bl b) H) (nU te (nU (tC (.ty n)) qa))) (nN n fe):=by
 subst v;exact⟨uU A2 m l Hv (kG r.pe (kG (DA h f k rfl d g) q0 i) s) (by decide) (by decide) s j,Ho (Ft X.K n q) r.me⟩
@[simp] noncomputable def gO:T->T->M T
 |.lst ts,.int i=>match nh ts i with
  |some t=>.ok t
  |none=>.bad
 |.tup ts,.int i=>match nh ts i with
  |some t=>.ok t
  |none=>.bad
 |.scr ns,.int i=>match nh ns i with
  |some t=>.ok (.int t)
  |none=>.bad
 |.str z,.int i=>if z.length<=sizeLine then (match nh z.cps.toList i with
  |some c=>.ok (.str ⟨#[c]⟩)
  |none=>.bad) else .bad
 |_,_=>.bad
def yI(r:eM K F vs ts)(h:nh ts i=some t):∃v,nh vs i=some v/\gX K F v t:=by
 unfold nh at h ⊢;rw[r.length];cases e:ui ts.length i with
 |none=>rw[e]at h;cases h
 |some j=>rw[e]at h;exact r.get h
def kU(f:α->β) l i:nh (l.map f) i=(nh l i).map f:=by
 unfold nh;rw[ax];cases ui l.length i with
 |none=>rfl
 |some j=>simp
def GV x y:M.NoE (gO x y):=λC n=>by unfold gO;split<;>first|(intro z;cases z;done)|(split<;>first|(intro z;cases z;done)|(split<;>intro z<;>cases z))
def JB:MR K (Kw K) gO:=⟨GV,λF H v w x y Q s d f q=>by
 unfold gO at q;split at q
 .rename_i m i;rw[f.int_inv];obtain⟨a,j,rfl,h,r⟩:=d.lst_inv;split at q
  .rename_i t e;obtain⟨v,g,k⟩:=yI r e;exact .inl ⟨a,j,i,v,rfl,rfl,iY.of (s _ _ h),g,kV.now q s k⟩
  .exact q.elim
 .rename_i m i;rw[f.int_inv];obtain⟨a,j,rfl,h,r⟩:=d.tup_inv;split at q
  .rename_i t e;obtain⟨v,g,k⟩:=yI r e;exact .inr (.inl ⟨a,j,i,v,rfl,rfl,jv.of (s _ _ h),g,kV.now q s k⟩)
  .exact q.elim
 .rename_i n i;rw[f.int_inv];cases d with
  |scr h=>
   split at q
   .rename_i t e;exact .inl ⟨_,_,i,.int t,rfl,rfl,s.seq h,by rw[kU,e];rfl,kV.now q s (.int _)⟩
   .exact q.elim
 .rename_i z i;rw[f.int_inv];cases d with
  |str z=>
   split at q
   .rename_i l;split at q
    .rename_i c e;exact .inr (.inr ⟨z,i,c,rfl,rfl,l,e,kV.now q s (.str _)⟩)
    .exact q.elim
   .exact q.elim
 .exact q.elim⟩
def fB(f:Pm K E X a ta fa)(d:Pm K E X b tb fb)(h:x9 b:=by intro _ _;rfl)(g:X.K=K:=by rfl):Pm K E X (.Subscript a b pos) (pP (Kw K) ta tb) (eG gO fa fb):=⟨CY (g▸Iq) f.pe d.pe h,yG JB f.me d.me⟩
def oJ:Kh K E X none xX (λ_=>.ok none):=⟨El,λF H f d Q s V q=>q F H (.refl s)⟩
@[simp] noncomputable def iP(fe:Pe->M T):Pe->M (Option Int):=λd=>(fe d).bind λx=>match x with
 |.int i=>.ok (some i)
 |_=>.bad
def oR(h:Pm K E X e te fe):Kh K E X (some e) (Gj te) (iP fe):=⟨Es h.pe,λF H σ ρ Q s V q=>by
 refine h.me.run s V q λx v F1 H1 g1 r1 q1=>?_;cases r1 with
 |int i=>exact⟨i,rfl,q1 F1 H1 g1⟩
 |_=>exact q1.elim⟩
noncomputable def lI{g:Type}(d:List g)(f h:Oq Int):List g:=(d.drop (HT.sIx d.length 0 f)).take (HT.sIx d.length d.length h-HT.sIx d.length 0 f)
def Hk xs lo hi:Bd xs lo hi=lI xs lo hi:=rfl
def eM.cut(r:eM K F vs ts) lo hi:eM K F (lI vs lo hi) (lI ts lo hi):=by unfold lI;rw[r.length];exact (r.drop _).take _
def Dl(f:α->β) l lo hi:lI (l.map f) lo hi=(lI l lo hi).map f:=by unfold lI;rw[ax,cT,List.map_drop]
section
variable {lo hi:Oq Expr}{tl th:TO}{fl fh:Pe->M (Option Int)}
def MO.run{k:Oq Int->M α}{P:α->Prop}(h:MO K E t f)(s:eB F H)(v:il K F σ ρ)(r:((f ρ).bind k).res P (kE E F H))
  (j:∀x i d,Gr F H i d->(k x).res P (kE E i d)->Q x d):t σ H Q:=
 h F H σ ρ Q s v ((M.res.unb r).mono (λx q i d g=>j x i d g (q.mono (λ_ z=>z) λ_ _ z=>z.go g)) λ_ _ z=>z)
@[simp] noncomputable def k9(fe:Pe->M T)(fl fh:Pe->M (Option Int)):Pe->M T:=λd=>(fe d).bind λx=>(fl d).bind λl=>(fh d).bind λh=>match x with
 |.tup ts=>.ok (.tup (lI ts l h))
 |.lst ts=>.ok (.lst (lI ts l h))
 |.scr ns=>.ok (.lst ((lI ns l h).map T.int))
 |_=>.bad
def j6(z:Pm K E X e te fe)(A:Kh K E X lo tl fl)(t:Kh K E X hi th fh)(L:X.K=K:=by rfl):Pm K E X (.Subscript e (.Slice lo hi none p2) pos) (K6 (λx lo hi H Q=>I0 K x lo hi H Q\/(Jd K x lo hi H Q\/JZ K x lo hi H Q)) te tl th) (k9 fe fl fh):=by
 subst L;refine⟨Ci (Ej.or (GS.or Fc)) z.pe A.po t.po,λF H Z U Q s V q=>?_⟩;refine z.me.run s V q λx v Y P m B C=>?_;refine A.mo.run m.fh (V.mono m.ff) C λl N R k I=>?_;refine t.mo.run k.fh ((V.mono m.ff).mono k.ff) I λu w y d j=>?_;have g:=(m.trans k).trans d;have D:=B.mono (k.ff.trans d.ff);cases D with
 |lst h r=>exact .inl ⟨_,_,rfl,iY.of (d.fh _ _ h),λp f=>j (.ref p) _ _ (g.trans (.new d.fh f)) (.lst eh ((r.cut l u).mono (Gr.new d.fh f).ff))⟩
 |scr h=>exact .inl ⟨_,_,rfl,d.fh.seq h,λp f=>j (.ref p) _ _ (g.trans (.new d.fh f)) (.lst eh (by rw[Hk,Dl];exact eM.of_ints _))⟩
 |tup h r=>
  rename_i a S i;have n:(M.ok (T.tup (lI i l u))).res (kV X.K F H Q) (kE E w y):=j;by_cases hw:HT.sIx i.length 0 l=0/\HT.sIx i.length i.length u=i.length
  .have J:lI i l u=i:=by unfold lI;rw[hw.1,hw.2];simp
   rw[J]at n;exact .inr (.inr ⟨_,_,rfl,jv.of (d.fh _ _ h),by rw[r.length];exact hw,n _ w y g (.tup h r)⟩)
  .exact .inr (.inl ⟨_,_,rfl,jv.of (d.fh _ _ h),by rw[r.length];exact hw,λp f=>n (.ref p) _ _ (g.trans (.new d.fh f)) (.tup eh ((r.cut l u).mono (Gr.new d.fh f).ff))⟩)
 |_=>exact j.elim
end
section
variable {x:Str}{k:Nat}{Fn:List T->M T}{Ff:List T->M (List T)}
def eL(h:iq X.prog X.w X.K X.mg X.base x j (uy K Fn))(n:e8 k X.A)(g:yt K E X (e::es) tr fr)(i:j<=k:=by decide)(m:Gl X x:=by rfl)
  (d:(x==("__debug__" : Str))=false:=by decide) (l:starEach (e::es) X.env=(false,eval e X.env)::starEach es X.env:=by rfl) (f:(backTo pos (starEach es X.env)).any (·.1)=false:=by rfl) :
  Pm K E X (.Call (.Name x p) (e::es) [] pos) (sy (uy K Fn) [] E0 tr) (eE fr Fn):=⟨we (h.mono i) n g.pa m d l f,C9 g.ma⟩
def uu(h:iq X.prog X.w X.K X.mg X.base x j (wg K Ff))(n:e8 k X.A)(g:yt K E X (e::es) tr fr)(i:j<=k:=by decide)(m:Gl X x:=by rfl)
  (d:(x==("__debug__" : Str))=false:=by decide) (l:starEach (e::es) X.env=(false,eval e X.env)::starEach es X.env:=by rfl) (f:(backTo pos (starEach es X.env)).any (·.1)=false:=by rfl) :
  Au K E X (.Call (.Name x p) (e::es) [] pos) (sy (wg K Ff) [] E0 tr) (jr fr Ff):=⟨we (h.mono i) n g.pa m d l f,CT g.ma⟩
end
def JY(K:W.Frag)(t:TE):TI:=λd H R=>vp K t d H R\/G1 K t d H R
@[simp] noncomputable def fY(fa:Pe->M T):Pe->M (List T):=λd=>(fa d).bind λx=>match x with
 |.lst ts=>.ok ts
 |.scr ns=>.ok (ns.map T.int)
 |.tup ts=>.ok ts
 |_=>.bad
def HV(g:ME K E ta fa):MI K E (JY K ta) (fY fa):=λF H f d R s V q=>by
 unfold fY at q;cases e:fa d with
 |bad=>rw[e]at q;exact q.elim
 |er C n=>rw[e]at q;exact .inl (uE g F H f d R s V (by unfold Ke;rw[e];exact q))
 |ok x=>
  rw[e]at q;cases x with
  |lst ts=>exact .inl (uE g F H f d R s V (by unfold Ke;rw[e];exact q))
  |scr ns=>exact .inl (uE g F H f d R s V (by unfold Ke;rw[e];exact q))
  |tup ts=>exact .inr (Ir g F H f d R s V (by unfold K9;rw[e];exact q))
  |_=>exact q.elim
def fF(d:Pm K E X a ta fa)(i:X.K=K:=by rfl):Av K E X tg a (JY K ta) (fY fa):=by
 subst i;refine⟨λg s f H R I h=>?_,HV d.me⟩;rcases h with h|h
 .exact tY d.pe g s f H R I h
 .exact HJ d.pe g s f H R I h
def Gk(K:W.Frag)(ta:TA):TI:=λf H R=>∃g d,HM K g d ta f H R
@[simp] noncomputable def seqT:T->M (List T)
 |.lst ts=>.ok ts
 |.scr ns=>.ok (ns.map T.int)
 |.tup ts=>.ok ts
 |_=>.bad
@[simp] noncomputable def pG(fa:Pe->M (List T)):Pe->M (List T):=λf=>(fa f).bind λd=>match d with
 |[x,y]=>(seqT x).bind λg=>(seqT y).bind λh=>.ok (s9 g h)
 |_=>.bad
noncomputable def nG:T->Bool
 |.tup _=>true
 |_=>false
def xi x:seqT x=seqB (nG x) x:=by cases x<;>rfl
def FC(h:MA K E tr fr):MI K E (Gk K tr) (pG fr):=λF H f d R s V q=>by
 unfold pG at q;cases e:fr d with
 |bad=>rw[e]at q;exact q.elim
 |er C n=>rw[e]at q;exact⟨true,true,C2 h F H f d R s V (by unfold Iw;rw[e];exact q)⟩
 |ok xs=>
  rw[e]at q;match xs,e,q with
  |[],_,q=>exact q.elim
  |[_],_,q=>exact q.elim
  |[x,y],e,q=>refine⟨nG x,nG y,C2 h F H f d R s V ?_⟩;unfold Iw;rw[e];have g:((seqT x).bind λi=>(seqT y).bind λj=>M.ok (s9 i j)).res (kI K F H R) (kE E F H):=q;rw[xi x,xi y]at g;exact g
  |_::_::_::_,_,q=>exact q.elim
def pR{x1}(m:X.mg "zip" = none)(f:yt K E X [a,b] tr fr)(g:X.K=K:=by rfl)(l:Gl X "zip" :=by rfl)(i:starEach [a,b] X.env=[(false,eval a X.env),(false,eval b X.env)]:=by rfl)
  (d:starEach [b] X.env=[(false,eval b X.env)]:=by rfl):Av K E X (.Tuple elts x1 tpos) (.Call (.Name "zip" p) [a,b] [] pos) (Gk K tr) (pG fr):=by
 subst g;refine⟨λk s j H R I h=>?_,FC f.ma⟩;obtain⟨q,n,h⟩:=h;exact GJ l m f.pa i d k s j H R I h
def ia(f:X.mg "range" = none)(d:yt K E X [a] tr fr)(g:Gl X "range" :=by rfl)(h:starEach [a] X.env=[(false,eval a X.env)]:=by rfl):nQ K E X tg (.Call (.Name "range" p) [a] [] pos) (A7 tr) (gW fr):=⟨Aj g f d.pa h,DY d.ma⟩
def nQ.pim(h:nQ K E X tg it w f):Av K E X tg it w f:=⟨h.pi,h.mi.mi⟩
section
variable {x:Str}{g:TG}{gs:Dt}{m:T->Pe->Option Pe}{ms:List T->Pe->Option Pe}{mo:T->En->Option En}{mos:List T->En->Option En}{n:Nat}
def fQ i (j:X.N.Nodup) (d:zI X.env.scope x:=by first|exact Or.inl rfl|exact Or.inr rfl) (h:X.N[i]? = some x:=by rfl) (f:X.fn x=true\/X.env.scope.names.lookup x=some .local:=by first|exact .inl rfl|exact .inr rfl|assumption):IM K X (.Name x pos) (fR i) (iA i):=⟨nq j h d f,Eo⟩
def iL i (j:X.N.Nodup) (d:zI X.env.scope x:=by first|exact Or.inl rfl|exact Or.inr rfl) (h:X.N[i]? = some x:=by rfl) (f:X.fn x=true\/X.env.scope.names.lookup x=some .local:=by first|exact .inl rfl|exact .inr rfl|assumption):IS K X (.Name x pos) (fR i) (lj i):=⟨nq j h d f,AO⟩
def ku:Ec K X [] zh oQ:=⟨yE,EW⟩
def qj:ED K X [] zh lR:=⟨yE,CI⟩
def fT(d:IM K X e g m)(f:Ec K X es gs ms)(h:(assignEach (e::es) X.env).map (·.2)=assign e X.env::(assignEach es X.env).map (·.2):=by rfl):Ec K X (e::es) (qi g gs) (gI m ms):=⟨vm d.pg f.pg h,AG d.mg f.mg⟩
def jC(d:IS K X e g mo)(f:ED K X es gs mos)(h:(assignEach (e::es) X.env).map (·.2)=assign e X.env::(assignEach es X.env).map (·.2):=by rfl):ED K X (e::es) (qi g gs) (f9 mo mos):=⟨vm d.pg f.pg h,zH d.mg f.mg⟩
def ou n (j:X.calm=true) (h:Ec K X es gs ms) (f:X.K=K:=by rfl) (i:(assignEach es X.env).length=n:=by rfl) (d:(assignEach es X.env).findIdx? (·.1)=none:=by rfl):IM K X (.Tuple es k pos) (zf K n gs) (nY n ms):=by subst f;exact⟨Co j h.pg i d,Hj h.mg⟩
def xQ n (j:X.calm=true) (h:ED K X es gs mos) (f:X.K=K:=by rfl) (i:(assignEach es X.env).length=n:=by rfl) (d:(assignEach es X.env).findIdx? (·.1)=none:=by rfl):IS K X (.Tuple es k pos) (zf K n gs) (lE n mos):=by subst f;exact⟨Co j h.pg i d,EK h.mg⟩
end
section
variable {elt iter:Expr}{ifs:List Expr}{scope:Scope}{N:List Str}{ix:List (Option Nat)}{wi:TI}{g:TG}{tt:TT}{fi:Pe->M (List T)}{m:T->Pe->Option Pe}{ft:Pe->M Bool}
def fj:Cy K E X [] HB (λ_=>.ok true):=⟨Em,Hq⟩
def kc(h:yz K E X c t f):Cy K E X [c] t f:=⟨DK h.pt,h.mt⟩
@[simp] noncomputable def iO(ix:List (Option Nat))(fi:Pe->M (List T))(m:T->Pe->Option Pe)(ft:Pe->M Bool)(fe:Pe->M T):Pe->M (List T):=λf=>(fi f).bind λd=>(if d.length<sizeLine then lF (nr m ft fe (jS ix f)) d else .bad).noEr
def JJ(s:X.calm=true)(k:Av K E X tg iter wi fi)(L:vK X scope N ix)(j:kM ix g)
  (f:∀C d H i h,IM K (ju X N scope C d H i h) tg g m/\Cy K Ds (ju X N scope C d H i h) ifs tt ft/\Pm K Ds (ju X N scope C d H i h) elt te fe)
  (n:∀x,foldedSetIterable iter X.env x=pure x:=by intro _;rfl):Au K E X (.ListComp elt [⟨tg,iter,ifs,0⟩] scope pos) (BZ ix wi g tt te) (iO ix fi m ft fe):=by
 obtain⟨r,l,q⟩:=f 0 X.s₀ X.H₀ [] [];exact⟨Ja s k.pi L j (λC d H i h=>⟨(f C d H i h).1.pg,(f C d H i h).2.1.pf,(f C d H i h).2.2.pe⟩) n,Gm k.mi r.mg l.mt q.me⟩
end
end
end L3
namespace L3
open PySem L2 PySem.Spec PyProof.Rows
section
variable {K:W.Frag}{E:XK}{X:Cx}{a b c e o tg it:Expr}{es:List Expr}{ta tb tc te to:TE}{fa fb fc fe fo:Pe->M T}{tr:TA}{fr:Pe->M (List T)}{pos pos' p p2 apos:Pos}{st:Stmt}{jy:List Stmt}{t u:TS}{g g':En->O}{ff:Pe->M (List T)}{x:Str}
def eV:kJ K E X [] yW fM:=⟨tT,DI⟩
def d7(h:uG K E X st t g):kJ K E X [st] t g:=⟨jx h.ps,h.ms⟩
def dZ(h:uG K E X st t g)(h':kJ K E X jy u g'):kJ K E X (st::jy) (uc t u) (eQ g g'):=⟨jj h.ps h'.ps,IB h.ms h'.ms⟩
def yD:uG K E X st xq (λ_=>.bad):=⟨Be,AF⟩
def eI(h:Pm K E X e te fe):uG K E X (.Return (some e) pos) (xC te) (fO fe):=⟨tu h.pe,GB h.me⟩
def vV(h:Au K E X e te ff):uG K E X (.Return (some e) pos) (xC te) (sU ff):=⟨tu h.pe,Ew h.mf⟩
def fC{tc:TT}{fc:Pe->M Bool}(d:yz K E X c tc fc)(h:kJ K E X A t g)(h':kJ K E X B u g'):uG K E X (.If c A B pos) (DQ tc t u) (kY fc g g'):=⟨AH d.pt h.ps h'.ps,JM d.mt h.ms h'.ms⟩
def Bz{tc:TT}{fc:Pe->M Bool}(d:En->Nat)(i:PassesOwn (model X.prog X.w) X.A X.env X.xe)(f:yz K E X c tc fc)(h:kJ K E X A t g):uG K E X (.While c A [] pos) (xm tc t) (λρ=>jo fc g (d ρ) ρ):=⟨AK i f.pt h.ps,CD d f.mt h.ms⟩
section
variable {w:TI}{fi:Pe->M (List T)}{gt:TG}{m:T->En->Option En}{A:List Stmt}
def lY(k:PassesOwn (model X.prog X.w) X.A X.env X.xe)(j:X.calm=true)(f:Av K E X tg it w fi)(h:IS K X tg gt m)(d:kJ K E X A t g)(i:∀x,foldedSetIterable it X.env x=pure x:=by intro _;rfl):uG K E X (.For tg it A [] pos) (rJ w gt t) (rB fi m g):=⟨oh k j f.pi h.pg d.ps i,Hw f.mi h.mg d.ms⟩
def AC j (k:PE X (.Name x p) (je j)) (q:PassesOwn (model X.prog X.w) X.A X.env X.xe) (s:X.calm=true) (f:IS K X tg gt m) (d:kJ K E X A t g) (i:X.K=K:=by rfl) (n:∀z,foldedSetIterable (.Name x p) X.env z=pure z:=by intro _;rfl):uG K E X (.For tg (.Name x p) A [] pos) (rJ (vp K (je j)) gt t) (lX j m g):=by subst i;exact⟨oh q s (tY k) f.pg d.ps n,zL (λv H R l y e h r=>⟨_,e,l,rfl,⟨_,iY.of h⟩,r⟩) f.mg d.ms⟩
def m6(k:PassesOwn (model X.prog X.w) X.A X.env X.xe)(j:X.calm=true)(f:nQ K E X tg it w fi)(h:IS K X tg gt m)(d:kJ K E X A t g)(i:∀x,foldedSetIterable it X.env x=pure x:=by intro _;rfl):uG K E X (.For tg it A [] pos) (rJ w gt t) (pB fi m g):=⟨oh k j f.pi h.pg d.ps i,Fm f.mi h.mg d.ms⟩
end
def HU i (A:X.N.Nodup) (D:zI X.env.scope x)
  (v:X.calm=true) (n:Av K E X tg iter wi fi) (L:vK X scope N ix) (l:kM ix gt)
  (f:∀C d H j h,IM K (ju X N scope C d H j h) tg gt m/\Cy K Ds (ju X N scope C d H j h) ifs tt ft/\Pm K Ds (ju X N scope C d H j h) elt te fe)
  (B:MF K E (BZ ix wi gt tt te) (iO ix fi m ft fe)->MS K E (jW (BZ ix wi gt tt te) (fR i)) gm)
  (s:X.N[i]? = some x:=by rfl) (w:X.fn x=true\/X.env.scope.names.lookup x=some .local:=by first|exact .inl rfl|exact .inr rfl)
  (k:swapsWith (.ListComp elt [⟨tg,iter,ifs,0⟩] scope pos) (some (.Name x py)) spos.line X.env=pure true:=by rfl)
  (z:∀x,foldedSetIterable iter X.env x=pure x:=by intro _;rfl):uG K E X (.Assign [.Name x py] (.ListComp elt [⟨tg,iter,ifs,0⟩] scope pos) spos) (jW (BZ ix wi gt tt te) (fR i)) gm:=by
 obtain⟨r,q,y⟩:=f 0 X.s₀ X.H₀ [] [];exact⟨C7 A s D v n.pi L l (λC d H j h=>⟨(f C d H j h).1.pg,(f C d H j h).2.1.pf,(f C d H j h).2.2.pe⟩) w k z,B (Gm n.mi r.mg q.mt y.me)⟩
def eK i (k:X.N.Nodup) (h:Pm K E X e te fe) (l:zI X.env.scope x:=by first|exact Or.inl rfl|exact Or.inr rfl) (j:X.N[i]? = some x:=by rfl) (f:swapsWith e (some (.Name x pos')) pos.line X.env=pure false:=by rfl) (d:X.fn x=true\/X.env.scope.names.lookup x=some .local:=by first|exact .inl rfl|exact .inr rfl|assumption) :
  uG K E X (.Assign [.Name x pos'] e pos) (jW te (fR i)) (setO i (iz fe)):=⟨lC k j l h.pe f d,yJ h.me⟩
def Cg i (k:X.N.Nodup) (h:Pm K E X e te fe) (l:zI X.env.scope x:=by first|exact Or.inl rfl|exact Or.inr rfl) (j:X.N[i]? = some x:=by rfl) (f:swapsWith e (some (.Name x pos')) pos.line X.env=pure false:=by rfl) (d:X.fn x=true\/X.env.scope.names.lookup x=some .local:=by first|exact .inl rfl|exact .inr rfl|assumption) :
  uG K E X (.Assign [.Name x pos'] e pos) (jW te (fR i)) (setO i (rg fe)):=⟨lC k j l h.pe f d,Dz h.me⟩
def lJ i (k:X.N.Nodup) (h:Au K E X e te ff) (l:zI X.env.scope x:=by first|exact Or.inl rfl|exact Or.inr rfl) (j:X.N[i]? = some x:=by rfl) (f:swapsWith e (some (.Name x pos')) pos.line X.env=pure false:=by rfl) (d:X.fn x=true\/X.env.scope.names.lookup x=some .local:=by first|exact .inl rfl|exact .inr rfl|assumption) :
  uG K E X (.Assign [.Name x pos'] e pos) (jW te (fR i)) (lg i (oB ff)):=⟨lC k j l h.pe f d,t6 h.mf⟩
def BX i (k:X.N.Nodup) (h:Au K E X e te ff) (l:zI X.env.scope x:=by first|exact Or.inl rfl|exact Or.inr rfl) (j:X.N[i]? = some x:=by rfl) (f:swapsWith e (some (.Name x pos')) pos.line X.env=pure false:=by rfl) (d:X.fn x=true\/X.env.scope.names.lookup x=some .local:=by first|exact .inl rfl|exact .inr rfl|assumption) :
  uG K E X (.Assign [.Name x pos'] e pos) (jW te (fR i)) (lg i (wQ ff)):=⟨lC k j l h.pe f d,FK h.mf⟩
def lu(h:MF K E te ff):MS K E (jW te (fR i)) (setO i (iz λρ=>(ff ρ).bind λts=>.ok (.lst ts))):=yJ h.me
def Bi(h:H l=some (.lst xs)):IH K "list" (.ref l) H:=.inl ⟨rfl,_,iY.of h⟩
def nE i (r:PE X (.Name x p) (je i)) (n:Pm K E X e te fe) (m:starEach [e] X.env=(false,eval e X.env)::starEach [] X.env:=by rfl) (q:X.K=K:=by rfl)
  (d:attributeBase (.Name x p) "append" X.env (eval (.Name x p) X.env)=eval (.Name x p) X.env:=by rfl)
  (j:((backTo pos (starEach [e] X.env)).all (λx=>!x.1)&&(backToKw pos (keywordEach [] X.env)).all (λx=>x.1.isSome)&&decide (([e]:List Expr).length+([]:List Keyword).length+(if ([]:List Keyword).isEmpty then 0 else 1)<30))=true:=by rfl)
  (f:(apos.endLine==pos.line)=true:=by rfl) (hplain:(backTo pos (starEach [] X.env)).any (·.1)=false:=by rfl) (k:swapsWith (.Call (.Attribute (.Name x p) "append" apos) [e] [] pos) none pos'.line X.env=pure false:=by rfl) :
  uG K E X (.Expr (.Call (.Attribute (.Name x p) "append" apos) [e] [] pos) pos') (vS (JO K i te)) (pW i (iz fe)):=by
 subst q;exact⟨yB (JV PySem.F.plainAttrs_list PySem.F.slot_list_append PySem.F.type_list_append ze r (kG n.pe q0 m) d j f m hplain) k,EV (λl s H h=>Bi h) n.me⟩
def yY i (f:PE X (.Name x p) (je i)) (d:Pm K E X b tb fb) (h:Pm K E X e te fe)
  (l:∀v,assign (.Subscript (.Name x p) b p2) X.env v=(do
   let ov <-holding [v] (eval (.Name x p) X.env)
   let iv <-holding [v,ov] (eval b X.env)
   standAt p2
   holding [v,ov,iv] (setItem ov iv v)
   release [v,ov,iv] []):=by intro _;rfl)
  (j:swapsWithSole [.Subscript (.Name x p) b p2] e pos.line X.env=pure false:=by rfl) (hw:swappedStores [.Subscript (.Name x p) b p2] e X.env=pure none:=by rfl)
  (k:(assignEach [.Subscript (.Name x p) b p2] X.env).map (·.2)=[assign (.Subscript (.Name x p) b p2) X.env]:=by rfl) :
  uG K E X (.Assign [.Subscript (.Name x p) b p2] e pos) (jW te (GM (je i) tb yy)) (ur i (rg fb) (rg fe)):=⟨He h.pe (Iz f d.pe Dp l) j hw k,G9 h.me d.me⟩
end
section
variable {P:Program}{w:World}{K:W.Frag}{mg:Str->Option Value}{base:Heap}{x:Str}{st:Stmt}{N ps:List Str}{k:Nat}{g:En->O}
def Kr(D:eN K mg x st)(S:eZ N ps (d8 st))
  (d:∀(kV c l:Vq) (n:Oq Addr) (b m:Vq) (us:List Vq),us.length=ps.length->bindArgs (W.fnOf x x (fV st) (eU st) (d8 st) .none kV c l n b m) ⟨us,[]⟩=pure (ps.zip us))
  (e:∀(f:Addr) (b:Vq) (A:Around) (a:List Env) (s:Sq) (H:Hp) (E:XK),e8 k (A.deeper (envOfC x (d8 st) s.heap.objs.size f b))->∃t,kJ K E (jJ mw P w K mg base N x (d8 st) f b A a s H E).nox (eU st) t g) :
  iq P w K mg base x (k+1) (uy K (kZ ps.length N.length g)):=
 yT D S d (λj H Q E h=>xS h) λf b A a s H j Q E i h=>let ⟨t,hp⟩:=e f b A a s H E i;⟨t,hp.ps,tP hp.ms h⟩
def KF(D:eN K mg x st)(S:eZ N ps (d8 st))
  (d:∀(kV c l:Vq) (n:Oq Addr) (b m:Vq) (us:List Vq),us.length=ps.length->bindArgs (W.fnOf x x (fV st) (eU st) (d8 st) .none kV c l n b m) ⟨us,[]⟩=pure (ps.zip us))
  (e:∀(f:Addr) (b:Vq) (A:Around) (a:List Env) (s:Sq) (H:Hp) (E:XK),e8 k (A.deeper (envOfC x (d8 st) s.heap.objs.size f b))->∃t,kJ K E (jJ mw P w K mg base N x (d8 st) f b A a s H E).nox (eU st) t g) :
  iq P w K mg base x (k+1) (wg K (vU ps.length N.length g)):=
 yT D S d (λj H Q E h=>uo h) λf b A a s H j Q E i h=>let ⟨t,hp⟩:=e f b A a s H E i;⟨t,hp.ps,qk hp.ms h⟩
end
end L3
namespace L3
open PySem L2 PySem.Spec PyProof.Rows
section
variable {K:W.Frag}{E:XK}{X:Cx}{a b c e o tg it:Expr}{es:List Expr}{ta tb tc te to:TE}{fa fb fc fe fo:Pe->M T}{tr:TA}{fr:Pe->M (List T)}{pos p p2 apos:Pos}
@[simp] noncomputable def gJ(f:Pe->M (List T)):Pe->M T:=λd=>(f d).bind λg=>.ok (.lst g)
def fq(d:X.K=K:=by rfl):iS X (.builtin "len") (λf H Q=>∃x n,f=[x]/\GY K x H n/\Q (.int n) H):=d▸B8
def l6(g:X.calm=true)(d:X.K=K:=by rfl):iS X (.builtin "all") (λf H Q=>∃(p:Addr) (bs:List Bool),f=[.ref p]/\iY K H p (bs.map V.bl)/\Q (.bl (bs.all id)) H):=d▸Cp g
def kl(g:X.calm=true)(d:X.K=K:=by rfl):iS X (.builtin "any") (λf H Q=>∃p vs bs,f=[.ref p]/\(iY K H p vs\/jv K H p vs)/\jh vs=some bs/\Q (.bl (bs.any id)) H):=d▸zx g
def gM(f:X.K=K:=by rfl):iS X (.type "tuple") (λg H Q=>∃p d,g=[.ref p]/\((iY K H p d/\∀l,H l=none->Q (.ref l) (e6 H l (.tup d)))\/(jv K H p d/\Q (.ref p) H))):=f▸rm
def kQ(f:X.K=K:=by rfl):iS X (.type "list") (λg H Q=>∃p d,g=[.ref p]/\(iY K H p d\/jv K H p d)/\∀l,H l=none->Q (.ref l) (e6 H l (.lst d))):=f▸ux
def DX:T->Option Bool
 |.bl b=>some b
 |.int i=>some (i != 0)
 |_=>none
def mm:List T->Option (List Bool)
 |[]=>some []
 |v::vs=>(DX v).bind λb=>(mm vs).bind λr=>some (b::r)
theorem uv:∀{vs} {ts},eM K F vs ts->jh vs=mm ts
 |_,_,.nil=>rfl
 |v::vs,t::ts,.cons h r=>by
  have e:vY v=DX t:=by cases h<;>rfl
  rw[jh,mm,uv r,e]
@[simp] theorem xI(d:LI):mm (d.map T.int)=some (d.map λn=>n != 0):=by
 induction d with
 |nil=>rfl
 |cons n d ih=>simp[mm,DX,ih]
@[simp] theorem IT ns:mm (ns.map T.bl)=some ns:=by
 induction ns with
 |nil=>rfl
 |cons n ns ih=>simp[mm,DX,ih]
@[simp] noncomputable def nt(ts:List T):M T:=match mm ts with
 |some bs=>.ok (.bl (bs.any id))
 |none=>.bad
@[simp] noncomputable def mT:List T->M T
 |[.lst ts]=>nt ts
 |[.tup ts]=>nt ts
 |_=>.bad
def Dq ts:M.NoE (nt ts):=λC n=>by unfold nt;split<;>intro z<;>cases z
def Ef xs:M.NoE (mT xs):=λC n=>by unfold mT;split<;>first|exact Dq _ C n|(intro z;cases z)
def qD:MC K (λf H Q=>∃p vs bs,f=[.ref p]/\(iY K H p vs\/jv K H p vs)/\jh vs=some bs/\Q (.bl (bs.any id)) H) mT:=⟨Ef,λF H vs f Q s r q=>by
 cases r with
 |nil=>exact q.elim
 |cons h t=>
  cases t with
  |cons _ _=>cases h<;>exact q.elim
  |nil=>
   cases h with
   |lst h r=>
    rename_i a f g;have d:(nt g).res (kV K F H Q) (λ_ _=>False):=q;unfold nt at d;cases e:mm g with
    |none=>rw[e]at d;exact d.elim
    |some bs=>rw[e]at d;exact⟨a,f,bs,rfl,.inl (iY.of (s _ _ h)),by rw[uv r];exact e,kV.now d s (.bl _)⟩
   |tup h r=>
    rename_i a f g;have d:(nt g).res (kV K F H Q) (λ_ _=>False):=q;unfold nt at d;cases e:mm g with
    |none=>rw[e]at d;exact d.elim
    |some bs=>rw[e]at d;exact⟨a,f,bs,rfl,.inr (jv.of (s _ _ h)),by rw[uv r];exact e,kV.now d s (.bl _)⟩
   |_=>exact q.elim⟩
noncomputable def mx(d:List T):List T:=(d.zipIdx).map λp=>T.tup [.int (p.2:Int),p.1]
def BM(K:W.Frag)(ta:TA):TI:=λd H R=>∃b,CG K b ta d H R
@[simp] noncomputable def pY(fa:Pe->M (List T)):Pe->M (List T):=λd=>(fa d).bind λg=>match g with
 |[x]=>(seqT x).bind λf=>.ok (mx f)
 |_=>.bad
def Ek{b:Bool}(h:∀H,eB F H->rj K H b l xs)(d:eM K F xs ts):rF K (KO K b l) (mx ts) F where
 go:=λi H s u=>by
  have j:i<ts.length:=by simpa[mx] using u
  have f:xs[i]? = some (xs[i]'(by rw[d.length];exact j)):=ag _;exact⟨xs,_,h H s,f⟩
 stop:=λH s=>⟨xs,h H s,by simp[mx,d.length]⟩
 yld:=λi t A H x z m k e y=>by
  obtain⟨p,v,rfl,r,rfl,f⟩:=y;obtain⟨w,q,n⟩:=d.at_ (f xs (h H (m.trans k)));have:t=.tup [.int i,w]:=by unfold mx at e;rw[aw,List.getElem?_zipIdx,q]at e;simp at e;exact e.symm
  rw[this];have g:=Gr.new (o:=.tup [.int i,v]) k r;exact⟨_,g,.tup eh (.cons (.int _) (.cons ((n.mono m).mono g.ff) .nil))⟩
noncomputable def wZ(b:Bool)(fa:Pe->M (List T)):Pe->M (List T):=λf=>(fa f).bind λd=>match d with
 |[x]=>(seqB b x).bind λg=>.ok (mx g)
 |_=>.bad
def vW{b:Bool}(m:MA K E tr fr):MI K E (CG K b tr) (wZ b fr):=λF H y v R s V q=>by
 refine m.run s V q λu w l j h i d=>?_;split at d
 .rename_i x;cases i with
  |cons a c=>
   cases c;cases f:seqB b x with
   |bad=>rw[f]at d;exact d.elim
   |er C n=>exact absurd f uF
   |ok ts=>rw[f]at d;obtain⟨k,r,rfl,g,t⟩:=tK a f;exact⟨k,rfl,⟨r,g _ h.fh⟩,d _ l j h (Ek g t)⟩
 .exact d.elim
def DH(h:MA K E tr fr):MI K E (BM K tr) (pY fr):=λF H f d R s V q=>by
 unfold pY at q;cases e:fr d with
 |bad=>rw[e]at q;exact q.elim
 |er C n=>rw[e]at q;exact⟨true,vW h F H f d R s V (by unfold wZ;rw[e];exact q)⟩
 |ok xs=>
  rw[e]at q;match xs,e,q with
  |[],_,q=>exact q.elim
  |[x],e,q=>refine⟨nG x,vW h F H f d R s V ?_⟩;unfold wZ;rw[e];have g:((seqT x).bind λi=>M.ok (mx i)).res (kI K F H R) (kE E F H):=q;rw[xi x]at g;exact g
  |_::_::_,_,q=>exact q.elim
def EZ{x1}(l:X.mg "enumerate" = none)(d:yt K E X [a] tr fr)(f:X.K=K:=by rfl)(k:Gl X "enumerate" :=by rfl)(g:starEach [a] X.env=[(false,eval a X.env)]:=by rfl) :
  Av K E X (.Tuple elts x1 tpos) (.Call (.Name "enumerate" p) [a] [] pos) (BM K tr) (pY fr):=by
 subst f;refine⟨λj s i H R I h=>?_,DH d.ma⟩;obtain⟨b,h⟩:=h;exact Dh k l d.pa g j s i H R I h
end
structure Bs(mg:Str->Option Value):Prop where
 abs:mg "abs" = none
 isinstance:mg "isinstance" = none
 int:mg "int" = none
 bool:mg "bool" = none
 len:mg "len" = none
 range:mg "range" = none
 tuple:mg "tuple" = none
 list:mg "list" = none
 str:mg "str" = none
 all:mg "all" = none
 any:mg "any" = none
 sum:mg "sum" = none
 zip:mg "zip" = none
 max:mg "max" = none
 min:mg "min" = none
 enumerate:mg "enumerate" = none
 reversed:mg "reversed" = none
 set:mg "set" = none
 dict:mg "dict" = none
 sorted:mg "sorted" = none
def l7:bootBuiltins "list" = some (.type "list"):=by decide +kernel
end L3
namespace L3
open PySem L2
section
variable {α:Type}
theorem rW enc f:∀(l:List α),(∀a∈l,k (enc a)=.ok (some (f a)))->lF k (l.map enc)=.ok (l.map f)
 |[],_=>rfl
 |a::l,h=>by rw[bB,lF,h a (by simp),M.bind_ok,rW enc f l λb c=>h b (by simp[c])];rfl
theorem nv enc f p:∀(l:List α),(∀a∈l,k (enc a)=.ok (if p a then some (f a) else none))->lF k (l.map enc)=.ok ((l.filter p).map f)
 |[],_=>rfl
 |a::l,h=>by
  rw[bB,lF,h a (by simp),M.bind_ok,nv enc f p l λb d=>h b (by simp[d])];by_cases c:p a=true
  .simp[c]
  .simp[c]
theorem jD enc (P:Nat->En->Prop):∀(l:List α) (k:Nat) (ρ:En),P k ρ->
  (∀i a ρ,l[i]? = some a->P (k+i) ρ->∃d c,m (enc a) ρ=some d/\(g d=.nx c\/g d=.ct c)/\P (k+i+1) c)->∃ρ',fP m g (l.map enc) ρ=.nx ρ'/\P (k+l.length) ρ'
 |[],k,ρ,h,_=>⟨ρ,rfl,h⟩
 |a::l,k,ρ,h,st=>by
  obtain⟨d,c,p,f,q⟩:=st 0 a ρ rfl h;obtain⟨ρ',e,o⟩:=jD enc P l (k+1) c q λi b ρ j n=>by have:=st (i+1) b ρ (by simpa using j) (by rw[show k+(i+1)=k+1+i by omega];exact n);rw[show k+1+i+1=k+(i+1)+1 by omega];exact this
  refine⟨ρ',?_,by rw[az,show k+(l.length+1)=k+1+l.length by omega];exact o⟩;rw[bB,fP,p];rcases f with f|f<;>(dsimp only;rw[f];exact e)
theorem sD enc (P:En->Prop):∀(l:List α) (ρ:En),P ρ->
  (∀a∈l,∀ρ,P ρ->∃d c,m (enc a) ρ=some d/\(g d=.nx c\/g d=.ct c)/\P c)->∃ρ',fP m g (l.map enc) ρ=.nx ρ'/\P ρ'
 |[],ρ,h,_=>⟨ρ,rfl,h⟩
 |a::l,ρ,h,st=>by obtain⟨d,c,k,f,n⟩:=st a (by simp) ρ h;obtain⟨ρ',e,j⟩:=sD enc P l c n λb i ρ o=>st b (by simp[i]) ρ o;refine⟨ρ',?_,j⟩;rw[bB,fP,k];rcases f with f|f<;>(dsimp only;rw[f];exact e)
theorem mO(P:En->Prop)(b:En->Nat)(R:En->Prop)(st:∀ρ,P ρ->(c (vw ρ)=.ok false/\R ρ)\/(c (vw ρ)=.ok true/\∃a,(g ρ=.nx a\/g ρ=.ct a)/\P a/\b a<b ρ)) :
  ∀n ρ,P ρ->b ρ<n->∃ρ',jo c g n ρ=.nx ρ'/\R ρ'
 |0,ρ,_,h=>absurd h (cU _)
 |n+1,ρ,hP,hn=>by
  rcases st ρ hP with⟨e,r⟩|⟨e,a,d,f,j⟩
  .exact⟨ρ,by rw[jo,e];rfl,r⟩
  .obtain⟨ρ',i,r⟩:=mO P b R st n a f (by omega);refine⟨ρ',?_,r⟩;rw[jo,e,O.of_ok,aQ rfl];rcases d with d|d<;>(rw[d];exact i)
end
def t5{g:Type}(l:List g) enc f (i:fi ρ=.ok (l.map enc)) (o:l.length<sizeLine)
  (c:∀a∈l,∃b,m (enc a) (jS ix ρ)=some b/\ft b=.ok true/\fe b=.ok (f a)):iO ix fi m ft fe ρ=.ok (l.map f):=by
 have h:=rW (k:=nr m ft fe (jS ix ρ)) enc f l λa n=>by obtain⟨b,j,d,e⟩:=c a n;unfold nr;rw[j];dsimp only;rw[d,M.bind_ok,aQ rfl,e];rfl
 unfold iO;rw[i,M.bind_ok,ax,aQ o,h];rfl
theorem wN{g:Type}(l:List g) enc f p (i:fi ρ=.ok (l.map enc)) (q:l.length<sizeLine)
  (c:∀a∈l,∃b,m (enc a) (jS ix ρ)=some b/\ft b=.ok (p a)/\(p a=true->fe b=.ok (f a))):iO ix fi m ft fe ρ=.ok ((l.filter p).map f):=by
 have h:=nv (k:=nr m ft fe (jS ix ρ)) enc f p l λa o=>by
  obtain⟨b,n,d,e⟩:=c a o;unfold nr;rw[n];dsimp only;rw[d,M.bind_ok];cases j:p a with
  |true=>rw[aQ rfl,aQ rfl,e j];rfl
  |false=>rw[aR aH,aR aH]
 unfold iO;rw[i,M.bind_ok,ax,aQ q,h];rfl
def iK{d:Type}(l:List d) enc f (e:fi ρ=.ok (l.map enc)) (h:l.length<sizeLine)
  (c:∀a∈l,∃b,m (enc a) (jS ix ρ)=some b/\ft b=.ok true/\fe b=.ok (f a)) (g:l.map f=ts):iO ix fi m ft fe ρ=.ok ts:=by rw[<-g];exact t5 l enc f e h c
def oI{d:Type}(l:List d) enc f p (e:fi ρ=.ok (l.map enc)) (h:l.length<sizeLine)
  (c:∀a∈l,∃b,m (enc a) (jS ix ρ)=some b/\ft b=.ok (p a)/\(p a=true->fe b=.ok (f a))) (g:(l.filter p).map f=ts):iO ix fi m ft fe ρ=.ok ts:=by rw[<-g];exact wN l enc f p e h c
def IZ lo n:tG lo n=(List.range n).map λ(i:Nat)=>T.int (lo+(i:Int)):=rfl
noncomputable def tI(a:LI):T:=.tup (a.map T.int)
def ub(l:List α)(i:Int)(d:0<=i)(b:i<l.length):∃a,nh l i=some a/\a∈l:=by
 unfold nh ui;rw[aQ d,aQ b];have c:i.toNat<l.length:=by omega
 exact⟨l[i.toNat],by simp[c],aV _⟩
def i8(h:PySem.IntMulOk i j):jI (.int i) (.int j)=.ok (.int (i*j)):=by simp[jI,gB,h]
def qh(h:j≠0)(a:Builtin.divisionGoesByPylong i j=false):qN (.int i) (.int j)=.ok (.int (i.fdiv j)):=by simp[qN,gB,h,a]
def mV(h:j≠0):qA (.int i) (.int j)=.ok (.int (i.fmod j)):=by simp[qA,gB,h]
@[simp] theorem gh i j:gH (.int i) (.int j)=.ok (.int (i+j)):=rfl
@[simp] theorem qS i j:vG (.int i) (.int j)=.ok (.int (i-j)):=rfl
@[simp] theorem J4 i j:Kf (.int i) (.int j)=.ok (.bl (decide (i<j))):=rfl
@[simp] theorem J5 i j:J9 (.int i) (.int j)=.ok (.bl (decide (i<=j))):=rfl
@[simp] theorem Kd i j:IQ (.int i) (.int j)=.ok (.bl (decide (j<i))):=rfl
@[simp] theorem Fv i j:JP (.int i) (.int j)=.ok (.bl (decide (j<=i))):=rfl
@[simp] theorem fE i j:eW false (.int i) (.int j)=.ok (.bl (i==j)):=by simp[eW,mQ,lS]
@[simp] theorem nR i j:eW true (.int i) (.int j)=.ok (.bl (!(i==j))):=by simp[eW,mQ,lS]
def Ae(h:i.natAbs<2 ^ 64):PySem.IntMulOk i j:=IntMulOk.of_left (PyProof.Rows.intBits_le h)
def Bn(n:Nat)(x:Int):Prop:=x.natAbs<2 ^ n
def Bn.mono(h:Bn m x)(a:m<=n):Bn n x:=aE h (cV (by decide) a)
def Bn.mul(h:Bn m x)(h':Bn n y):Bn (m+n) (x*y):=by unfold Bn at *;rw[aY,Nat.pow_add];exact Nat.mul_lt_mul'' h h'
def Bn.add(h:Bn m x)(h':Bn n y):Bn (max m n+1) (x+y):=by have a:Bn (max m n) x:=h.mono (Nat.le_max_left _ _);have b:Bn (max m n) y:=h'.mono (Nat.le_max_right _ _);unfold Bn at *;rw[cW];have:=cX x y;omega
def Bn.neg(h:Bn m x):Bn m (-x):=by unfold Bn at *;rw[Int.natAbs_neg];exact h
def Bn.sub(h:Bn m x)(h':Bn n y):Bn (max m n+1) (x-y):=by rw[cY];exact h.add h'.neg
def Bn.ok(h:Bn m x)(h':Bn n y)(a:m<=2 ^ 20)(b:n<=2 ^ 20):PySem.IntMulOk x y:=IntMulOk.of_bits (aN (PyProof.Rows.intBits_le h) a) (aN (PyProof.Rows.intBits_le h') b)
def Bn.noPy(h:Bn n y)(a:n<=8000):Builtin.divisionGoesByPylong x y=false:=Cu.noPy (PyProof.Rows.intBits_le h) a
section
variable {a b g:En->O}{ρ ρ':En}{r:O}{fc:Pe->M Bool}{f:Pe->M T}{ff:Pe->M (List T)}{t:T}{ts:List T}{k n i:Nat}
def ee(c:a ρ=.nx ρ')(d:b ρ'=r):eQ a b ρ=r:=by unfold eQ;rw[c];exact d
def jm(c:a ρ=.rt t)(d:.rt t=r):eQ a b ρ=r:=by unfold eQ;rw[c];exact d
def gA(h:fc (vw ρ)=.ok true)(c:a ρ=r):kY fc a b ρ=r:=by unfold kY;rw[h];exact c
def gz(h:fc (vw ρ)=.ok false)(c:b ρ=r):kY fc a b ρ=r:=by unfold kY;rw[h];exact c
def eT(h:f (jG ρ)=.ok t)(c:ρ'=ρ.set i (some (.p t))):setO i (iz f) ρ=.nx ρ':=by unfold setO iz;rw[h,c];rfl
def EX(h:f (vw ρ)=.ok t)(d:lf t=true)(c:ρ'=ρ.set i (some (.p t))):setO i (rg f) ρ=.nx ρ':=by unfold setO rg;rw[h,c];simp[d]
def mH(h:ff (jG ρ)=.ok ts)(c:ρ'=ρ.set i (some (.o ts))):lg i (oB ff) ρ=.nx ρ':=by unfold lg oB;rw[h,c];rfl
def Fg(h:ff (vw ρ)=.ok ts)(d:Dr ts=true)(c:ρ'=ρ.set i (some (.o ts))):lg i (wQ ff) ρ=.nx ρ':=by unfold lg wQ;rw[h,c];simp[d]
def um(d:ρ[i]? = some (some (.o us)))(h:f (jG ρ)=.ok t)(c:us.length<sizeLine)(e:ρ'=ρ.set i (some (.o (us++[t])))):pW i (iz f) ρ=.nx ρ':=by unfold pW iz kf;rw[d,h,e];simp[c]
def Cd(e:ρ[i]? = some (some (.o us)))(h:f (vw ρ)=.ok t)(p:lf t=true)(d:fk (vw ρ)=.ok (.int j))(c:ui us.length j=some m)(l:ρ'=ρ.set i (some (.o (us.set m t)))):ur i (rg fk) (rg f) ρ=.nx ρ':=by unfold ur rg kf;rw[e,h,d,l];simp[p,c]
def eX(h:f (vw ρ)=.ok t):fO f ρ=.rt t:=by unfold fO;rw[h];rfl
def ym(h:ff (vw ρ)=.ok ts):sU ff ρ=.rf ts:=by unfold sU;rw[h];rfl
def lK(h:fi (jG ρ)=.ok its)(c:fP m g its ρ=r):rB fi m g ρ=r:=by unfold rB;rw[h];exact c
def lZ(h:fi (vw ρ)=.ok its)(c:fP m g its ρ=r):pB fi m g ρ=r:=by unfold pB;rw[h];exact c
def Ah(e:ρ[j]? = some (some (.o us)))(h:yh j us (fP m g us (ρ.set j none))=r):lX j m g ρ=r:=by unfold lX;rw[e];exact h
def fG(c:ts.length=k)(h:g (e7 n ts)=.rt t):kZ k n g ts=.ok t:=by unfold kZ;rw[aQ c,h];rfl
def BP(c:ts.length=k)(h:g (e7 n ts)=.rf us):vU k n g ts=.ok us:=by unfold vU;rw[aQ c,h];rfl
end
def DB n:tG 0 n=(List.range n).map λ(i:Nat)=>T.int (i:Int):=by simp[tG]
theorem kh{d:Type} f:∀(l:List d),(∀a∈l,mQ (f a)=true)->lL (l.map f)=true
 |[],_=>rfl
 |a::l,h=>by rw[bB,lL,h a (by simp),kh f l λb c=>h b (by simp[c])];rfl
theorem kq{d:Type} f n:∀(l:List d),(∀a∈l,wj (f a)<=n)->mK (l.map f)<=n
 |[],_=>bD _
 |a::l,h=>by rw[bB,nZ];have e:=h a (by simp);have g:=kq f n l λb c=>h b (by simp[c]);omega
@[simp] theorem Ab(a:LI):lL (a.map T.int)=true:=kh _ _ λ_ _=>rfl
def n9(ns:LI):mK (ns.map T.int)<=0:=kq _ _ _ λ_ _=>aK _
@[simp] theorem Ie ns:mQ (tI ns)=true:=by simp[tI,mQ]
def Gx ns:wj (tI ns)<=1:=by unfold tI;rw[uh];have:=n9 ns;omega
@[simp] theorem AS(l:LL):lL (l.map tI)=true:=kh _ _ λ_ _=>Ie _
def qW(l:LL):mK (l.map tI)<=1:=kq _ _ _ λ_ _=>Gx _
@[simp] theorem AD l:qf l []=l.isEmpty:=by cases l<;>rfl
theorem nH{d:Type} f (c:∀a b,w5 (f a) (f b)=true↔a=b):∀(l m:List d),qf (l.map f) (m.map f)=true↔l=m
 |[],[]=>by simp[kn]
 |[],b::m=>⟨λz=>(nomatch (show false=true from z)),λz=>nomatch z⟩
 |a::l,[]=>by simp[kn]
 |a::l,b::m=>by rw[bB,bB,kn,bL,c a b,nH f c l m];simp
def oo(l m:LI):qf (l.map T.int) (m.map T.int)=decide (l=m):=by
 have h:=nH T.int (λa b=>by simp[lS]) l m;by_cases e:l=m
 .rw[aC e];exact h.mpr e
 .rw[aB e];cases c:qf (l.map T.int) (m.map T.int) with
  |false=>rfl
  |true=>exact absurd (h.mp c) e
def HS neg (l m:LI):eW neg (.lst (l.map T.int)) (.lst (m.map T.int))=.ok (.bl (if neg then !decide (l=m) else decide (l=m))):=by have h:=n9 l;unfold eW;rw[aQ (by simp[mQ];omega),pM,oo]
def pN neg ts (h:lL ts=true) (a:mK ts<=90):eW neg (.lst ts) (.lst [])=.ok (.bl (if neg then !ts.isEmpty else ts.isEmpty)):=by unfold eW;rw[aQ (by simp[mQ,h,lL];omega),pM,AD]
def A1{b a:Type} f (g:a->T) (l:List b) m:s9 (l.map f) (m.map g)=(l.zip m).map λp=>T.tup [f p.1,g p.2]:=by unfold s9;rw[List.zip_map,aI];rfl
theorem yr{d:Type} f:∀(l:List d),(∀a∈l,lf (f a)=true)->Dr (l.map f)=true
 |[],_=>rfl
 |a::l,h=>by rw[bB,Dr,h a (by simp),yr f l λb c=>h b (by simp[c])];rfl
@[simp] theorem C0(a:LI):Dr (a.map T.int)=true:=yr _ _ λ_ _=>rfl
@[simp] theorem Jf ns:lf (tI ns)=true:=by simp[tI]
section
variable {α:Type}{fe fd fl:Pe->M T}{ρ:Pe}{ts:List T}{d k:Nat}
def sG(l:List α)(d:Nat):lI l none (some (d:Int))=l.take d:=by
 unfold lI;rw[HT.sIx_none,HT.sIx_nat,List.drop_zero,Nat.sub_zero];by_cases h:d<=l.length
 .rw[Nat.min_eq_left h]
 .rw[Nat.min_eq_right (by omega),cC (aK _),cC (by omega)]
def zY(l:List α)(d:Nat):lI l (some (d:Int)) none=l.drop d:=by
 unfold lI;rw[HT.sIx_none,HT.sIx_nat];by_cases h:d<=l.length
 .rw[Nat.min_eq_left h,cC (by simp)]
 .rw[Nat.min_eq_right (by omega),cZ (aK _),cZ (by omega),List.take_nil]
def qB(h:fe ρ=.ok (.tup ts))(a:fd ρ=.ok (.int (d:Int)))(b:d<=ts.length):k9 fe (λ_=>.ok none) (iP fd) ρ=.ok (.tup (ts.take d)):=by simp only[k9,iP,h,a,M.bind_ok,sG]
def zQ(h:fe ρ=.ok (.lst ts))(a:fd ρ=.ok (.int (d:Int))):k9 fe (λ_=>.ok none) (iP fd) ρ=.ok (.lst (ts.take d)):=by simp only[k9,iP,h,a,M.bind_ok,sG]
def zB(h:fe ρ=.ok (.lst ts))(a:fd ρ=.ok (.int (d:Int))):k9 fe (iP fd) (λ_=>.ok none) ρ=.ok (.lst (ts.drop d)):=by simp only[k9,iP,h,a,M.bind_ok,zY]
def oY(h:lc ρ=.ok ts)(a:o [.lst ts]=r):iQ o (dW (gJ lc) d6) ρ=r:=by simp only[iQ,dW,d6,gJ,h,M.bind_ok];exact a
def kC(h:f ρ=.ok t)(a:o [t]=r):iQ o (dW f d6) ρ=r:=by simp only[iQ,dW,d6,h,M.bind_ok];exact a
def f7(h:lc ρ=.ok ts):gJ lc ρ=.ok (.lst ts):=by simp only[gJ,h,M.bind_ok]
def AN(h:fe ρ=.ok (.tup ts)):fY fe ρ=.ok ts:=by simp only[fY,h,M.bind_ok]
def Dn(h:fe ρ=.ok (.lst ts)):fY fe ρ=.ok ts:=by simp only[fY,h,M.bind_ok]
def eY(h:fe ρ=.ok (.bl b)):fS fe ρ=.ok b:=by simp only[fS,h,M.bind_ok]
def qO(h:fc ρ=.ok b)(a:(!b)=r):L3.ko fc ρ=.ok r:=by simp only[L3.ko,h,M.bind_ok,a]
def ei(b:fa ρ=.ok x)(a:fb ρ=.ok y)(c:o x y=r):eG o fa fb ρ=r:=by simp only[eG,b,a,M.bind_ok];exact c
def mz(h:f ρ=.ok x)(a:F [x]=.ok t):eE (dW f d6) F ρ=.ok t:=by simp only[eE,dW,d6,h,a,M.bind_ok];rfl
def lH(h:f ρ=.ok x)(a:g ρ=.ok y)(b:F [x,y]=.ok t):eE (dW f (dW g d6)) F ρ=.ok t:=by simp only[eE,dW,d6,h,a,b,M.bind_ok];rfl
def jN{f g k:Pe->M T}(h:f ρ=.ok x)(b:g ρ=.ok y)(a:k ρ=.ok z)(c:F [x,y,z]=.ok t):eE (dW f (dW g (dW k d6))) F ρ=.ok t:=by simp only[eE,dW,d6,h,b,a,c,M.bind_ok];rfl
def JR{f g k l:Pe->M T}(h:f ρ=.ok x)(c:g ρ=.ok y)(b:k ρ=.ok z)(a:l ρ=.ok u)(e:F [x,y,z,u]=.ok t):eE (dW f (dW g (dW k (dW l d6)))) F ρ=.ok t:=by simp only[eE,dW,d6,h,c,b,a,e,M.bind_ok];rfl
end
section
variable {ρ:Pe}{ts:List T}{F:List T->M (List T)}{f g k l:Pe->M T}{x y z u:T}
def GG(h:f ρ=.ok x)(a:F [x]=.ok ts):jr (dW f d6) F ρ=.ok ts:=by simp only[jr,dW,d6,h,a,M.bind_ok];rfl
def HG(h:f ρ=.ok x)(a:g ρ=.ok y)(b:F [x,y]=.ok ts):jr (dW f (dW g d6)) F ρ=.ok ts:=by simp only[jr,dW,d6,h,a,b,M.bind_ok];rfl
def G7(h:f ρ=.ok x)(a:g ρ=.ok y)(b:k ρ=.ok z)(c:F [x,y,z]=.ok ts):jr (dW f (dW g (dW k d6))) F ρ=.ok ts:=by simp only[jr,dW,d6,h,a,b,c,M.bind_ok];rfl
end
def tj{b a:Type}{l:List b}{m:List a}{f:b->T}{g:a->T}(e:fa ρ=.ok x)(h:seqT x=.ok (l.map f))(c:fb ρ=.ok y)(d:seqT y=.ok (m.map g)) :
  pG (dW fa (dW fb d6)) ρ=.ok ((l.zip m).map λp=>T.tup [f p.1,g p.2]):=by
 rw[<-A1];simp only[pG,dW,d6,e,c,M.bind_ok,h,d]
end L3
namespace L3
open PySem L2 PySem.Spec PyProof.Rows
section
variable {K:W.Frag}{E:XK}{X:Cx}{a b c e o tg it:Expr}{es:List Expr}{ta tb tc te to:TE}{fa fb fc fe fo:Pe->M T}{tr:TA}{fr:Pe->M (List T)}{pos p p2 apos:Pos}
noncomputable def E5:T->T->M T:=gB (λi j=>decide (0<=j)&&decide (j<=1000000)&&decide (i.natAbs<18446744073709551616)) λi j=>.int (i*2 ^ j.toNat)
def Ih(f:Pm K E X a ta fa)(d:Pm K E X b tb fb):Pm K E X (.BinOp a .LShift b pos) (pP (rI ET λi j=>.int (i*2 ^ j.toNat)) ta tb) (eG E5 fa fb):=m3 Gs (oM (λi j h=>by simp only[bL,decide_eq_true_eq]at h;exact⟨h.1.1,h.1.2,h.2⟩) λ_ _ _=>.int _) f d
noncomputable def CW:T->T->M T:=gB (λ_ j=>decide (0<=j)) λi j=>.int (i / 2 ^ j.toNat)
def Iy(f:Pm K E X a ta fa)(d:Pm K E X b tb fb):Pm K E X (.BinOp a .RShift b pos) (pP (rI (λ_ j=>0<=j) λi j=>.int (i / 2 ^ j.toNat)) ta tb) (eG CW fa fb):=m3 GK (oM (λi j h=>by simpa using h) λ_ _ _=>.int _) f d
noncomputable def vo:T->T->M T:=gB (λ_ _=>true) λi j=>.int (Builtin.bitAnd i j)
def DP(f:Pm K E X a ta fa)(d:Pm K E X b tb fb):Pm K E X (.BinOp a .BitAnd b pos) (pP (uR λi j=>.int (Builtin.bitAnd i j)) ta tb) (eG vo fa fb):=m3 GI (lW λ_ _ _=>.int _) f d
end
def BF(K:W.Frag):Sp:=λc H Q _=>∃(a:Addr) (b:LI),c=[.ref a]/\iY K H a (b.map V.int)/\b.length<=63/\(∀z∈b,Builtin.Int.intBits z<=2 ^ 20)/\∀d,Q (.bl true) d
def B4{K:W.Frag}(h:∀b:LI,b.length<=63->(∀z∈b,Builtin.Int.intBits z<=2 ^ 20)->F [.scr b]=.ok (.bl true)) vs H Q E (z:BF K vs H Q E):uy K F vs H Q E:=by obtain⟨a,b,rfl,d,f,c,e⟩:=z;refine⟨[.scr b],H,.refl _,.cons (.scr d) .nil,?_⟩;rw[h b f c];intro v j i g r;cases r;exact e _
def Kq{K:W.Frag}{st:Stmt}(F:Dw K x x st f fd)(S:eZ N ps (d8 st))
  (c:∀(f:Addr) (b:Vq) (A:Around) (a:List Env) (s:Sq) (H:Hp) (E:XK),e8 k (A.deeper (envOfC x (d8 st) s.heap.objs.size f b))->∃t,kJ K E (jJ mw P w K mg base N x (d8 st) f b A a s H E).nox (eU st) t g) :
  jM P w K mg base mw (k+1) f fd ps (uy K (kZ ps.length N.length g)):=
 F.ok S (λd H Q E h=>xS h) λb A a s H d Q E e h=>let ⟨t,hp⟩:=c f b A a s H E e;⟨t,hp.ps,tP hp.ms h⟩
end L3
namespace L3
open PySem L2 PySem.Spec PyProof.Rows
section
variable {K:W.Frag}{E:XK}{t:TE}{f:Pe->M T}
def kO(K:W.Frag)(F H:Hp)(x:Addr)(Q:VK)(t:T):Prop:=∀b c,eB F b->eB b c->(∀a o,a≠x->H a=some o->Ar o (c a))->(∀a,b a≠none->F a≠none\/H a=none\/a=x\/∃d,H a=some (.tup d))->gX K b (.ref x) t->Q .non c
noncomputable def wF(K:W.Frag)(C:Addr)(d:List T->M T):Sp:=λe H Q _=>∃x g c b a,e=.ref x::c/\H x=some (.ins C g [])/\a x=none/\eB a H/\eM K a c b/\(d b).noEr.res (kO K a H x Q) (λ_ _=>False)
def BB{D:Pe->M (List T)}(Z:MA K E tr D):ME K E (ye C (wF K C Fn) [] E' tr) (eE D Fn):=λF H σ ρ Q s V q=>by
 refine Z.run s V q λI P U u g J i=>?_;intro x j m A B;have w:e6 u j (.own x) x=none:=by rw[eA (λz=>B z.symm)];exact m
 have l:eB u (e6 (e6 u j (.own x)) x (.ins C j [])):=(nX A).trans (nX w);refine⟨x,j,P,I,U,by rw[bE],eh,eF g.fh m,g.fh.trans l,J,?_⟩;cases e:Fn I with
 |bad=>rw[e]at i;exact i.elim
 |er C n=>rw[e]at i;exact i.elim
 |ok t=>
  rw[e]at i;intro S R a b c d r;refine⟨rfl,i (.ref x) S R ⟨g.ff.trans a,b,λp o h=>?_,λp X=>?_⟩ r⟩
  .have N:=g.hh p o h;have v:p≠x:=qp N m;exact FZ (g.hh.trans l p o h) λY e=>c p Y v e
  .rcases d p X with z|z|z|⟨L,z⟩
   .exact g.nw p z
   .exact .inr (.inl (eF g.hh (eF l z)))
   .rw[z];exact .inr (.inl (eF g.hh m))
   .cases y:H p with
    |none=>exact .inr (.inl rfl)
    |some o=>exact .inr (.inr ⟨L,by have k:=g.hh.trans l p o y;rw[z]at k;rw[rQ k λ_ _ y=>nomatch y]⟩)
noncomputable def sf(C:Addr)(n:Nat)(g e:Str)(h d:Pe->M T):List T->M T:=λc=>if c.length=n then (h (none::c.map some)).bind λa=>(d (none::c.map some)).bind λb=>.ok (.obj C [(g,a),(e,b)]) else .bad
structure KH(K:W.Frag)(E:XK)(X:Cx)(body:List Stmt)(f1 f2:Str)(g1 g2:Pe->M T):Prop where
 ex:∃(t1 t2:TE),uI X body (uc (G3 K (je 0) t1 f1) (G3 K (je 0) t2 f2))/\ME K E t1 g1/\ME K E t2 g2
def Kp(h:X.K=K)(b:PE X o1 (je 0))(e:Pm K E X a1 t1 g1)(c:PE X o2 (je 0))(g:Pm K E X a2 t2 g2)
  (a:swapsWith a1 (some (.Attribute o1 f1 p1)) q1.line X.env=pure false:=by rfl) (d:swapsWith a2 (some (.Attribute o2 f2 p2)) q2.line X.env=pure false:=by rfl) :
  KH K E X [.Assign [.Attribute o1 f1 p1] a1 q1,.Assign [.Attribute o2 f2 p2] a2 q2] f1 f2 g1 g2:=by
 subst h;exact⟨t1,t2,jj (BO b e.pe a) (jx (BO c g.pe d)),e.me,g.me⟩
theorem Hn{st:Stmt}(cl:sh K C)(n1:iF K C f1)(n2:iF K C f2)(ne:f1≠f2)(D:iM K C "__init__" qual st)(S:eZ N N (d8 st))
  (mk:W.makesIn K C=true) (kp:W.keepIn K (.ref C)=true) (hm:mg x=some (.ref C)) (hN:N.length=n+1)
  (hb:∀(kV doc pm:Vq) (an:Oq Addr) (j ct:Vq) (us:List Vq),us.length=N.length->bindArgs (W.fnOf "__init__" qual (fV st) (eU st) (d8 st) .none kV doc pm an j ct) ⟨us,[]⟩=pure (N.zip us))
  (hT:∀(f:Addr) (j:Vq) (A:Around) (g:List Env) (s:Sq) (H:Hp) (E:XK),e8 k (A.deeper (envOfC qual (d8 st) s.heap.objs.size f j))->KH K E (jJ mw P w K mg base N qual (d8 st) f j A g s H E).nox (eU st) f1 f2 g1 g2) :
  zd P w K mg base x C (k+1) (wF K C (sf C n f1 f2 g1 g2)):=by
 obtain⟨fi,fd,F,Mm⟩:=D.ex;refine⟨⟨fi,fd,N,F.ok S (λvs H Q E h=>?_) (λj A g s H vs Q E hr h=>?_),⟨mk,Mm.at_,Mm.fn,kp⟩,F.binds hb⟩,hm⟩
 .obtain⟨x,B,us,u,F0,rfl,X,fx,s,r,q⟩:=h;unfold sf at q;by_cases J:u.length=n
  .rw[az,r.length,J,hN]
  .rw[aR J]at q;exact q.elim
 .obtain⟨x,B,us,u,F0,rfl,X,fx,s0,r,q⟩:=h;obtain⟨t1,t2,ps,m1,m2⟩:=(hT fi j A g s H E hr).ex;refine⟨_,ps,?_⟩;unfold sf at q;by_cases J:u.length=n
  .rw[aQ J]at q;have V:il K F0 (hZ N (.ref x::us)) (none::u.map some):=λi t e=>by
    cases i with
    |zero=>cases e
    |succ i=>
     rw[List.getElem?_cons_succ,aw]at e;cases hq:u[i]? with
     |none=>rw[hq]at e;cases e
     |some y=>rw[hq]at e;cases e;obtain⟨v,a,b⟩:=r.get hq;refine⟨v,?_,b⟩;unfold L2.hZ;rw[List.getElem?_append_left (by rw[ax,az];exact Nat.succ_lt_succ (aa.mp a).1),aw,List.getElem?_cons_succ,a];rfl
   cases Y:g1 (none::u.map some) with
   |bad=>rw[Y]at q;exact q.elim
   |er C n=>rw[Y]at q;exact q.elim
   |ok a=>
    rw[Y,L3.M.bind_ok]at q;cases R:g2 (none::u.map some) with
    |bad=>rw[R]at q;exact q.elim
    |er C n=>rw[R]at q;exact q.elim
    |ok b=>
     rw[R,L3.M.bind_ok]at q;refine m1 F0 H _ _ _ s0 V ?_;rw[Y];intro v Z H1 c r1;have hx1:=c.hh _ _ X;have I:Z x=none:=by
      cases z:Z x with
      |none=>rfl
      |some o=>
       rcases c.nw x (by rw[z];exact λy=>nomatch y) with y|y|⟨_,y⟩
       .exact absurd fx y
       .rw[X]at y;cases y
       .rw[X]at y;cases y
     refine⟨.ref x,rfl,x,C,B,[],rfl,hx1,cl,n1,by decide,?_⟩;have s1:eB Z (e6 H1 x (.ins C B (lh f1 v []))):=λp o h=>by
      have l:p≠x:=λz=>by rw[z,I]at h;cases h
      rw[eA l];exact c.fh p o h
     refine m2 Z _ _ _ _ s1 (V.mono c.ff) ?_;rw[R];intro U L H3 d r2;have hx3:=d.hh x _ eh;have fx2:L x=none:=by
      cases z:L x with
      |none=>rfl
      |some o=>
       rcases d.nw x (by rw[z];exact λy=>nomatch y) with y|y|⟨_,y⟩
       .exact absurd I y
       .rw[eh]at y;cases y
       .rw[eh]at y;cases y
     refine⟨.ref x,rfl,x,C,B,_,rfl,hx3,cl,n2,by show 1<1000;decide,?_⟩;have ep:lh f2 U (lh f1 v [])=[(f1,v),(f2,U)]:=by show (if f1=f2 then _ else _)=_;rw[aR ne];rfl
     have sF:eB L (e6 L x (.ins C B [(f1,v),(f2,U)])):=nX fx2;refine q (e6 L x (.ins C B [(f1,v),(f2,U)])) _ ((c.ff.trans d.ff).trans sF) (λp o h=>?_) (λp o l h=>?_) (λp l=>?_) (.obj eh (.cons (r1.mono (d.ff.trans sF)) (.cons (r2.mono sF) .nil)))
     .by_cases l:p=x
      .subst l;rw[eh]at h;rw[eh,ep];exact .of h
      .rw[eA l]at h ⊢;exact d.fh p o h
     .rw[eA l];exact FZ (c.hh p o h) λo' e=>d.hh p o' (by rw[eA l];exact e)
     .by_cases m:p=x
      .exact .inr (.inr (.inl m))
      .rw[eA m]at l;rcases d.nw p l with z|z|⟨xs,z⟩
       .rcases c.nw p z with y|y|y
        .exact .inl y
        .exact .inr (.inl y)
        .exact .inr (.inr (.inr y))
       .rw[eA m]at z;exact .inr (.inl (eF c.hh z))
       .rw[eA m]at z;cases y:H p with
        |none=>exact .inr (.inl rfl)
        |some o=>exact .inr (.inr (.inr ⟨xs,by have k:=c.hh p o y;rw[z]at k;rw[rQ k λ_ _ y=>nomatch y]⟩))
  .rw[aR J]at q;exact q.elim
end
section
variable {X:Cx}{K:W.Frag}{E:XK}{x m:Str}{C:Addr}{k:Nat}{Fn:List T->M T}{Ff:List T->M (List T)}{e o:Expr}{es:List Expr}{tr:TA}{fr:Pe->M (List T)}{ta:TE}{fa:Pe->M T}{p pos apos:Pos}
def JA(h:zd X.prog X.w X.K X.mg X.base x C j (wF K C Fn))(i:e8 k X.A)(c:yt K E X (e::es) tr fr)(d:j+1<=k:=by decide)(g:Gl X x:=by rfl)
  (a:(x==("__debug__" : Str))=false:=by decide) (f:starEach (e::es) X.env=(false,eval e X.env)::starEach es X.env:=by rfl) (b:(backTo pos (starEach es X.env)).any (·.1)=false:=by rfl) :
  Pm K E X (.Call (.Name x p) (e::es) [] pos) (ye C (wF K C Fn) [] E0 tr) (eE fr Fn):=⟨JL h (i.mono d) c.pa g a f b,BB c.ma⟩
def GO(h:jq X.prog X.w X.K X.mg X.base C m j (uy K Fn))(d:e8 k X.A)(a:Pm K E X o ta fa)(c:j<=k:=by decide)
  (b:eval (.Call (.Attribute o m apos) [] [] pos) X.env=(do
   let ov <-eval o X.env
   standAt apos.atName
   let (f,first) <-holding [ov] (getMethod ov m pl)
   callWith pos f first (backTo pos (starEach [] X.env)) (backToKw pos (keywordEach [] X.env))):=by rfl) :
  Pm K E X (.Call (.Attribute o m apos) [] [] pos) (sS C m (uy K Fn) [] E0 ta qa) (vB C m fa d6 Fn):=⟨B6 h (d.mono c) a.pe b,AR a.me xM⟩
def Hx(h:jq X.prog X.w X.K X.mg X.base C m j (wg K Ff))(d:e8 k X.A)(a:Pm K E X o ta fa)(c:j<=k:=by decide)
  (b:eval (.Call (.Attribute o m apos) [] [] pos) X.env=(do
   let ov <-eval o X.env
   standAt apos.atName
   let (f,first) <-holding [ov] (getMethod ov m pl)
   callWith pos f first (backTo pos (starEach [] X.env)) (backToKw pos (keywordEach [] X.env))):=by rfl) :
  Au K E X (.Call (.Attribute o m apos) [] [] pos) (sS C m (wg K Ff) [] E0 ta qa) (ql C m fa d6 Ff):=⟨B6 h (d.mono c) a.pe b,BC a.me xM⟩
def B2(b:X.K=K)(a:sh K C)(d:iF K C f)(h:Pm K E X e ta fa)(c:attributeBase e f X.env (eval e X.env)=eval e X.env:=by rfl):Pm K E X (.Attribute e f pos) (GU X.K ta f) (xw C f fa):=by subst b;exact⟨HK h.pe c,Ik a d h.me⟩
end
section
variable {P:Program}{w:World}{K:W.Frag}{mg:Str->Option Value}{base:Heap}{C:Addr}{m qual:Str}{st:Stmt}{N ps:List Str}{k:Nat}{g:En->O}
def JG(o:sh K C)(D:iM K C m qual st)(S:eZ N ps (d8 st))
  (d:∀(kV c l:Vq) (p:Oq Addr) (b n:Vq) (us:List Vq),us.length=ps.length->bindArgs (W.fnOf m qual (fV st) (eU st) (d8 st) .none kV c l p b n) ⟨us,[]⟩=pure (ps.zip us))
  (e:∀(f:Addr) (b:Vq) (A:Around) (a:List Env) (s:Sq) (H:Hp) (E:XK),e8 k (A.deeper (envOfC qual (d8 st) s.heap.objs.size f b))->∃t,kJ K E (jJ mw P w K mg base N qual (d8 st) f b A a s H E).nox (eU st) t g) :
  jq P w K mg base C m (k+1) (uy K (kZ ps.length N.length g)):=
 yu o D S d (λj H Q E h=>xS h) λf b A a s H j Q E i h=>let ⟨t,hp⟩:=e f b A a s H E i;⟨t,hp.ps,tP hp.ms h⟩
def Jr(o:sh K C)(D:iM K C m qual st)(S:eZ N ps (d8 st))
  (d:∀(kV c l:Vq) (p:Oq Addr) (b n:Vq) (us:List Vq),us.length=ps.length->bindArgs (W.fnOf m qual (fV st) (eU st) (d8 st) .none kV c l p b n) ⟨us,[]⟩=pure (ps.zip us))
  (e:∀(f:Addr) (b:Vq) (A:Around) (a:List Env) (s:Sq) (H:Hp) (E:XK),e8 k (A.deeper (envOfC qual (d8 st) s.heap.objs.size f b))->∃t,kJ K E (jJ mw P w K mg base N qual (d8 st) f b A a s H E).nox (eU st) t g) :
  jq P w K mg base C m (k+1) (wg K (vU ps.length N.length g)):=
 yu o D S d (λj H Q E h=>uo h) λf b A a s H j Q E i h=>let ⟨t,hp⟩:=e f b A a s H E i;⟨t,hp.ps,qk hp.ms h⟩
end
end L3
namespace L3
open PySem L2 PySem.Spec PyProof.Rows
section
variable {K:W.Frag}{E:XK}{X:Cx}{e:Expr}{es:List Expr}{tr:TA}{fr:Pe->M (List T)}{pos p apos:Pos}{pos':Pos}
@[simp] noncomputable def tV(i:Nat):En->O:=λa=>.of (kf a i) λ_=>.nx (a.set i (some (.o [])))
def Jm(K:W.Frag)(i:Nat):TE:=Jg K "list" AI (je i)
def AX(h:∀l d H,H l=some (.lst d)->IH K "list" (.ref l) H):MS K E (vS (Jm K i)) (tV i):=λo m F H s f D r q=>by
 unfold tV at q;cases e:kf f i with
 |bad=>rw[e]at q;exact q.elim
 |er C n=>unfold kf at e;split at e<;>cases e
 |ok ts=>rw[e]at q;have c:=qr e;obtain⟨l,a,g,b,k,j⟩:=r.change c .nil;exact⟨_,g,h _ _ _ b,l,a,rfl,rfl,b,q F _ _ (.refl _) j⟩
def zE i (f:PE X (.Name x p) (je i)) (d:X.K=K:=by rfl)
  (a:attributeBase (.Name x p) "clear" X.env (eval (.Name x p) X.env)=eval (.Name x p) X.env:=by rfl)
  (b:(apos.endLine==pos.line)=true:=by rfl) (c:swapsWith (.Call (.Attribute (.Name x p) "clear" apos) [] [] pos) none pos'.line X.env=pure false:=by rfl) :
  uG K E X (.Expr (.Call (.Attribute (.Name x p) "clear" apos) [] [] pos) pos') (vS (Jm K i)) (tV i):=by
 subst d;exact⟨yB (Im PySem.F.plainAttrs_list PySem.F.slot_list_clear PySem.F.type_list_clear CA f a b) c,AX (λl g H h=>Bi h)⟩
end
end L3
namespace L3
open PySem L2 PySem.Spec PyProof.Rows
def HN:Nat->(List Value->Prop)->Prop
 |0,P=>P []
 |k+1,P=>∀v,HN k λus=>P (v::us)
theorem kP:∀{k} {P},HN k P->∀us:List Vq,us.length=k->P us
 |0,_,h,[],_=>h
 |k+1,_,h,v::us,e=>kP (h v) us (by simpa using e)
def JN(X:Cx):Prop:=∀x,X.env.scope.names.lookup x=some .cell->∃c,X.env.cells.lookup x=some c
structure Zx(P:Program)(w:World)(K:W.Frag)(mg:Str->Option Value)(base:Heap):Prop where
 here:True
section
variable {P:Program}{w:World}{K:W.Frag}{mg:Str->Option Value}{base:Heap}
noncomputable abbrev CP(_:Zx P w K mg base)(x:Str)(k:Nat)(F:List T->M T):Prop:=iq P w K mg base x k (uy K F)
noncomputable abbrev CF(_:Zx P w K mg base)(x:Str)(k:Nat)(F:List T->M (List T)):Prop:=iq P w K mg base x k (wg K F)
end
section
variable {P:Program}{w:World}{K:W.Frag}{mg:Str->Option Value}{base:Heap}{x m qual:Str}{C:Addr}{st:Stmt}{g:En->O}
noncomputable abbrev JX(P:Program)(w:World)(K:W.Frag)(mg:Str->Option Value)(base:Heap)(k:Nat)(qual:Str)(st:Stmt)(N:List Str)(g:En->O):Prop:=∀{f:Addr} {cdv:Vq} {A:Around} {outer:List Env} {s:Sq} {H:Hp} {E:XK},N.Nodup->JN (jJ mw P w K mg base N qual (d8 st) f cdv A outer s H E).nox->e8 k (A.deeper (envOfC qual (d8 st) s.heap.objs.size f cdv))->∃t,kJ K E (jJ mw P w K mg base N qual (d8 st) f cdv A outer s H E).nox (eU st) t g
abbrev IP(x qual:Str)(st:Stmt)(ps:List Str):Prop:=∀(kV doc pm:Vq) (an:Oq Addr) (cdv ct:Vq),HN ps.length λus=>bindArgs (W.fnOf x qual (fV st) (eU st) (d8 st) .none kV doc pm an cdv ct) ⟨us,[]⟩=pure (ps.zip us)
def jH(_:Zx P w K mg base) k F N ps (e:F=kZ ps.length N.length g) (D:eN K mg x st) (j:JX P w K mg base k x st N g) (S:eZ N ps (d8 st):=by constructor<;>first|rfl|decide +kernel)
  (i:IP x x st ps:=by first|exact λ_ _ _ _ _ _ _ _=>rfl|exact λ_ _ _ _ _ _ _=>rfl|exact λ_ _ _ _ _ _ _ _ _=>rfl|exact λ_ _ _ _ _ _ _ _ _ _=>rfl|exact λ_ _ _ _ _ _ _ _ _ _ _=>rfl|exact λ_ _ _ _ _ _=>rfl) :
  iq P w K mg base x (k+1) (uy K F):=e▸Kr D S (λa b c d e f n l=>kP (i a b c d e f) n l) λ_ _ _ _ _ _ _ r=>j S.nd (λ_ h=>jl h) r
def IW(_:Zx P w K mg base) k F N ps (e:F=vU ps.length N.length g) (D:eN K mg x st) (j:JX P w K mg base k x st N g) (S:eZ N ps (d8 st):=by constructor<;>first|rfl|decide +kernel)
  (i:IP x x st ps:=by first|exact λ_ _ _ _ _ _ _ _=>rfl|exact λ_ _ _ _ _ _ _=>rfl|exact λ_ _ _ _ _ _ _ _ _=>rfl|exact λ_ _ _ _ _ _ _ _ _ _=>rfl|exact λ_ _ _ _ _ _ _ _ _ _ _=>rfl|exact λ_ _ _ _ _ _=>rfl) :
  iq P w K mg base x (k+1) (wg K F):=e▸KF D S (λa b c d e f n l=>kP (i a b c d e f) n l) λ_ _ _ _ _ _ _ r=>j S.nd (λ_ h=>jl h) r
def JI(_:Zx P w K mg base) k F N ps (e:F=kZ ps.length N.length g) (i:sh K C) (D:iM K C m qual st) (l:JX P w K mg base k qual st N g) (S:eZ N ps (d8 st):=by constructor<;>first|rfl|decide +kernel)
  (j:IP m qual st ps:=by first|exact λ_ _ _ _ _ _ _=>rfl|exact λ_ _ _ _ _ _ _ _=>rfl|exact λ_ _ _ _ _ _ _ _ _=>rfl) :
  jq P w K mg base C m (k+1) (uy K F):=e▸JG i D S (λa b c d e f o n=>kP (j a b c d e f) o n) λ_ _ _ _ _ _ _ r=>l S.nd (λ_ h=>jl h) r
def HX(_:Zx P w K mg base) k F N ps (e:F=vU ps.length N.length g) (i:sh K C) (D:iM K C m qual st) (l:JX P w K mg base k qual st N g) (S:eZ N ps (d8 st):=by constructor<;>first|rfl|decide +kernel)
  (j:IP m qual st ps:=by first|exact λ_ _ _ _ _ _ _=>rfl|exact λ_ _ _ _ _ _ _ _=>rfl|exact λ_ _ _ _ _ _ _ _ _=>rfl) :
  jq P w K mg base C m (k+1) (wg K F):=e▸Jr i D S (λa b c d e f o n=>kP (j a b c d e f) o n) λ_ _ _ _ _ _ _ r=>l S.nd (λ_ h=>jl h) r
def Jo(_:Zx P w K mg base) k F N ps (e:F=kZ ps.length N.length g) (D:Dw K x x st f fd) (a:JX P w K mg base k x st N g) (S:eZ N ps (d8 st):=by constructor<;>first|rfl|decide +kernel) :
  jM P w K mg base mw (k+1) f fd ps (uy K F):=e▸Kq D S λ_ _ _ _ _ _ _ r=>a S.nd (λ_ h=>jl h) r
def KD(_:Zx P w K mg base) k F N (e:F=sf C n f1 f2 g1 g2) (t:sh K C) (v:iF K C f1) (p:iF K C f2) (l:W.makesIn K C=true) (y:W.keepIn K (.ref C)=true) (q:mg x=some (.ref C)) (D:iM K C "__init__" qual st)
  (o:∀{f:Addr} {i:Vq} {A:Around} {h:List Env} {s:Sq} {H:Hp} {E:XK},e8 k (A.deeper (envOfC qual (d8 st) s.heap.objs.size f i))->KH K E (jJ mw P w K mg base N qual (d8 st) f i A h s H E).nox (eU st) f1 f2 g1 g2)
  (S:eZ N N (d8 st):=by constructor<;>first|rfl|decide +kernel) (j:IP "__init__" qual st N:=by exact λ_ _ _ _ _ _ _ _ _=>rfl) (ne:f1≠f2:=by decide) (z:N.length=n+1:=by rfl) :
  zd P w K mg base x C (k+1) (wF K C F):=e▸Hn t v p ne D S l y q z (λa b c d e f B u=>kP (j a b c d e f) B u) λ_ _ _ _ _ _ _ r=>o r
end
section
variable {K:W.Frag}{E:XK}{X:Cx}{tg elt iter:Expr}{ifs:List Expr}{scope:Scope}{wi:TI}{g:TG}{tt:TT}{te:TE}{fe:Pe->M T}{fi:Pe->M (List T)}{m:T->Pe->Option Pe}{ft:Pe->M Bool}{pos:Pos}{x:Str}
noncomputable abbrev La(K:W.Frag)(X:Cx)(scope:Scope)(N:List Str)(tg elt:Expr)(ifs:List Expr)(g:TG)(tt:TT)(te:TE)(m:T->Pe->Option Pe)(ft:Pe->M Bool)(fe:Pe->M T):Prop:=∀{C s₃ H ex pn},N.Nodup->JN (ju X N scope C s₃ H ex pn)->IM K (ju X N scope C s₃ H ex pn) tg g m/\Cy K Ds (ju X N scope C s₃ H ex pn) ifs tt ft/\Pm K Ds (ju X N scope C s₃ H ex pn) elt te fe
def gP N ix (c:JN X) (e:Av K E X tg iter wi fi) (b:La K X scope N tg elt ifs g tt te m ft fe) (i:uq X.N X.env.scope scope N ix=true:=by rfl) (a:kM ix g:=by first|exact qZ rfl|exact qV rfl rfl) (h:N.Nodup:=by decide) (f:X.calm=true:=by rfl)
  (d:∀x,foldedSetIterable iter X.env x=pure x:=by intro _;rfl):Au K E X (.ListComp elt [⟨tg,iter,ifs,0⟩] scope pos) (BZ ix wi g tt te) (iO ix fi m ft fe):=
 let L:=Jk c i
 JJ f e L a (λ_ _ _ _ _=>b h (CB L)) d
def mJ N ix i (k:X.N.Nodup) (d:JN X) (j:Av K E X tg iter wi fi) (c:La K X scope N tg elt ifs g tt te m ft fe)
  (o:MF K E (BZ ix wi g tt te) (iO ix fi m ft fe)->MS K E (jW (BZ ix wi g tt te) (fR i)) gm) (q:uq X.N X.env.scope scope N ix=true:=by rfl) (a:kM ix g:=by first|exact qZ rfl|exact qV rfl rfl) (n:N.Nodup:=by decide) (p:zI X.env.scope x:=by first|exact Or.inl rfl|exact Or.inr rfl) (l:X.calm=true:=by rfl)
  (f:X.N[i]? = some x:=by rfl) (e:X.fn x=true\/X.env.scope.names.lookup x=some .local:=by first|exact .inl rfl|exact .inr rfl)
  (b:swapsWith (.ListComp elt [⟨tg,iter,ifs,0⟩] scope pos) (some (.Name x py)) spos.line X.env=pure true:=by rfl)
  (h:∀x,foldedSetIterable iter X.env x=pure x:=by intro _;rfl):uG K E X (.Assign [.Name x py] (.ListComp elt [⟨tg,iter,ifs,0⟩] scope pos) spos) (jW (BZ ix wi g tt te) (fR i)) gm:=
 let L:=Jk d q
 HU i k p l j L a (λ_ _ _ _ _=>c n (CB L)) o f e b h
end
end L3
namespace L3
open PySem L2
def jQ(f:Ky):T:=.tup [.int f.1,.tup (f.2.map T.int)]
def vA:List T->Option (LI)
 |[]=>some []
 |.int i::r=>(vA r).map (i :: ·)
 |_=>none
def rq:T->Option Ky
 |.tup [.int d,.tup ts]=>(vA ts).map λl=>(d,l)
 |_=>none
theorem sE:∀l:LI,vA (l.map T.int)=some l
 |[]=>rfl
 |i::l=>by simp[vA,sE l]
def ny(f:Ky):rq (jQ f)=some f:=by simp[rq,jQ,sE]
theorem sd{K:W.Frag}{F:Hp}:∀{vs:List V} {ts:List T} {l:LI},eM K F vs ts->vA ts=some l->vs=l.map V.int
 |_,_,_,.nil,h=>by cases h;rfl
 |_,_,_,.cons (t:=t) r rs,h=>by
  cases t with
  |int i=>obtain⟨a,e,rfl⟩:=cB.mp h;rw[r.int_inv,sd rs e];rfl
  |_=>cases h
def sL{K:W.Frag}{F:Hp}{v:V}{t:T}{g:Ky}(r:gX K F v t)(h:rq t=some g):∃b,v=.ref b/\rh F b g:=by
 unfold rq at h;split at h
 .rename_i d o;obtain⟨l,e,rfl⟩:=cB.mp h;obtain⟨a,m,rfl,i,c⟩:=r.tup_inv;cases c with
  |cons r1 c=>
   cases c with
   |cons r2 c=>cases c;obtain⟨k,n,rfl,j,f⟩:=r2.tup_inv;rw[r1.int_inv]at i;exact⟨a,rfl,k,i,by rw[j,sd f e]⟩
 .cases h
theorem sI{K:W.Frag}{F:Hp}:∀l:LI,eM K F (l.map V.int) (l.map T.int)
 |[]=>.nil
 |i::l=>.cons (.int i) (sI l)
def zk{K:W.Frag}{F:Hp}{b:Addr}{g:Ky}(x:rh F b g):gX K F (.ref b) (jQ g):=let ⟨b2,e1,e2⟩:=x;.tup e1 (.cons (.int _) (.cons (.tup e2 (sI _)) .nil))
def qg{K:W.Frag}{F:Hp}{bs:List Addr}{fl:List Ky}(p:Paired (rh F) bs fl):eM K F (bs.map V.ref) (fl.map jQ):=by
 induction p with
 |nil=>exact .nil
 |cons h t ih=>exact .cons (zk h) ih
noncomputable def Bb(a:List Ky)(t:T):M (List Ky):=match t with
 |.non=>.ok a
 |t=>match rq t with
  |some g=>.ok (qI a g)
  |none=>.bad
noncomputable def kx(st:T->List Ky->M (List Ky)):List T->List Ky->M (List Ky)
 |[],acc=>.ok acc
 |t::r,acc=>(st t acc).bind (kx st r)
def uj(a b:Ky):Bool:=!qE (ky b) (ky a)
def iD(l:List Ky):List Ky:=l.mergeSort uj
theorem ph{f:Type}{r:f->f->Prop}(c:∀a b,r a b->r b a->a=b):∀{l m:List f},l.Perm m->l.Pairwise r->m.Pairwise r->l=m
 |[],m,p,_,_=>(List.Perm.eq_nil p.symm).symm
 |a::l,[],p,_,_=>by have:=p.length_eq;simp at this
 |a::l,b::m,p,h1,h2=>by
  have e:a=b:=by
   have g:a∈b::m:=p.mem_iff.mp bh;have d:b∈a::l:=p.mem_iff.mpr bh;rcases aF.mp g with e|g
   .exact e
   .rcases aF.mp d with e|d
    .exact e.symm
    .exact c a b ((c0.mp h1).1 b d) ((c0.mp h2).1 a g)
  subst e;rw[ph c (List.Perm.cons_inv p) (c0.mp h1).2 (c0.mp h2).2]
def E6{f g:Ky}(a:qE f g=false)(b:qE g f=false):f=g:=by
 unfold qE at a b;by_cases e:f.1=g.1
 .rw[aQ e]at a;rw[aQ e.symm]at b;exact Prod.ext e (vI a b)
 .rw[aR e]at a;rw[aR (Ne.symm e)]at b;have:=of_decide_eq_false a;have:=of_decide_eq_false b;omega
def A8(a b:Ky)(c:uj a b=true)(d:uj b a=true):a=b:=by unfold uj at c d;simp only[c5]at c d;have:=E6 d c;have f:(ky a).1=(ky b).1:=congrArg Prod.fst this;have e:(ky a).2=(ky b).2:=congrArg Prod.snd this;have g:-a.1 = -b.1:=f;exact Prod.ext (by omega) e
def C3(a b c:Ky)(d:uj a b=true)(e:uj b c=true):uj a c=true:=by unfold uj at d e ⊢;simp only[c5]at d e ⊢;exact AU d e
def xZ(a b:Ky):(uj a b||uj b a)=true:=by
 unfold uj;cases h:qE (ky b) (ky a) with
 |false=>rfl
 |true=>rw[BJ h];rfl
def vi{l m:List Ky}(p:m.Perm l)(h:m.Pairwise (λa b=>qE (ky b) (ky a)=false)):m=iD l:=by refine ph (r:=λa b=>uj a b=true) A8 (p.trans (c6 l uj).symm) (h.imp λ{a b} z=>by unfold uj;rw[z];rfl) ?_;exact c7 C3 xZ l
section
variable {P:Program}{w:World}{K:W.Frag}{E:XK}{Fb Hb F H F' H':Hp}{ρ:Pe}{jd:Nat}{a:Addr}{σ:St}{fl:List Ky}{D:oG}
structure Bk(P:Program)(w:World)(K:W.Frag)(Fb Hb:Hp)(jd:Nat)(a:Addr)(n:Nat)(ρ:Pe)(F H:Hp)(σ:St)(fl:List Ky):Prop where
 gr:Gr Fb Hb F H
 vars:il K F σ ρ
 len:σ.length=n
 d:σ[jd]? = some (some (.ref a))
 fa:F a=none
 ha:Hb a=none
 fd:∃bs,Dx P w F H a bs fl
def Bk.grow{n:Nat}(b:Bk P w K Fb Hb jd a n ρ F H σ fl)(g:Gr F H F' H'):Bk P w K Fb Hb jd a n ρ F' H' σ fl:=by
 obtain⟨bs,c,e,f,p⟩:=id b.fd;refine⟨b.gr.trans g,b.vars.mono g.ff,b.len,b.d,?_,b.ha,bs,Dx.mono ⟨c,e,f,p⟩ g.ff g.hh⟩;cases z:F' a with
 |none=>rfl
 |some u=>
  rcases g.nw a (by rw[z];exact λw=>nomatch w) with y|y|⟨_,y⟩
  .exact absurd b.fa y
  .rw[e]at y;cases y
  .rw[e]at y;cases y
def Bk.setN{n j:Nat}{v:V}(b:Bk P w K Fb Hb jd a n ρ F H σ fl)(f:∀t,ρ[j]?≠some (some t))(c:j≠jd):Bk P w K Fb Hb jd a n ρ F H (σ.set j (some v)) fl:=
 ⟨b.gr,λi t e=>by
  have:i≠j:=λz=>by subst z;exact f t e
  obtain⟨k,g,h⟩:=b.vars i t e;exact⟨k,by rw[ar (Ne.symm this)];exact g,h⟩,by rw[bM];exact b.len,by rw[ar c];exact b.d,b.fa,b.ha,b.fd⟩
def Bk.setP{n j:Nat}{v:V}{t:T}(b:Bk P w K Fb Hb jd a n ρ F H σ fl)(k:j<n)(c:j≠jd)(r:gX K F v t):Bk P w K Fb Hb jd a n (ρ.set j (some t)) F H (σ.set j (some v)) fl:=
 ⟨b.gr,λi u e=>by
  by_cases z:i=j
  .subst z;have l:i<σ.length:=by rw[b.len];exact k
   rw[List.getElem?_set]at e;simp only[if_true]at e;split at e
   .cases e;exact⟨v,by rw[List.getElem?_set_self l],r⟩
   .cases e
  .rw[ar (Ne.symm z)]at e;obtain⟨h,f,g⟩:=b.vars i u e;exact⟨h,by rw[ar (Ne.symm z)];exact f,g⟩,by rw[bM];exact b.len,by rw[ar c];exact b.d,b.fa,b.ha,b.fd⟩
def Bk.less{n:Nat}{ρ':Pe}(b:Bk P w K Fb Hb jd a n ρ F H σ fl)(h:∀(i:Nat) t,ρ'[i]? = some (some t)->ρ[i]? = some (some t)):Bk P w K Fb Hb jd a n ρ' F H σ fl:=⟨b.gr,λi t e=>b.vars i t (h i t e),b.len,b.d,b.fa,b.ha,b.fd⟩
def AM(P:Program)(w:World)(c:TE)(b jd:Nat):TS:=uc (jW c (fR b)) (DQ (tB (F8 (je b))) (FN P w (je jd) (je b) (tC (.bl true))) yW)
def FP{u:TE}{fe:Pe->M T}{n j:Nat}(U:ME K E u fe)(b:Bk P w K Fb Hb jd a n ρ F H σ fl)(N:∀t,ρ[j]?≠some (some t))(L:j≠jd)(J:j<n)(hl:fl.length<1000)
  (q:((fe ρ).bind (Bb fl)).res (λi=>∀F' H' h,eB F F'->Bk P w K Fb Hb jd a n ρ F' H' h i->D.nx h H') (kE E Fb Hb)):AM P w u j jd D σ H:=by
 refine U F H σ ρ _ b.gr.fh b.vars ((M.res.unb q).mono (λt z v F' H' g r=>?_) λC n z=>z.go b.gr);have f:=(b.grow g).setN (v:=v) N L;have x:(σ.set j (some v))[j]? = some (some v):=List.getElem?_set_self (by rw[b.len];exact J);refine⟨v,x,!decide (v=.non),rfl,?_⟩;by_cases s:v=.non
 .rw[aC s];subst s;cases r;exact KQ (z F' H' _ g.ff f)
 .rw[aB s];refine Kz ?_;have A:∃k,rq t=some k/\(M.ok (qI fl k)).res (λi=>∀F' H' h,eB F F'->Bk P w K Fb Hb jd a n ρ F' H' h i->D.nx h H') (kE E Fb Hb):=by
   unfold Bb at z;split at z
   .cases r;exact absurd rfl s
   .split at z
    .rename_i k e;exact⟨k,e,z⟩
    .exact z.elim
  obtain⟨k,Q,S⟩:=A;obtain⟨y,rfl,m⟩:=sL r Q;obtain⟨bs,B,e,Z,p⟩:=f.fd;have X:1000<sizeLine:=by decide
  refine⟨_,f.d,_,x,a,y,B,_,rfl,rfl,e,DN p f.gr.fh,BY (m.mono f.gr.fh),by rw[Paired.length p];omega,λR Y=>?_⟩;have I:=Hs (P:=P) (w:=w) (H:=H') (a:=a) (r:=R) p m;refine S F' _ _ g.ff ⟨⟨f.gr.ff,λc o l=>?_,λc o l=>?_,f.gr.nw⟩,f.vars,f.len,f.d,f.fa,f.ha,I⟩
  .rw[eA (eJ l f.fa)];exact f.gr.fh c o l
  .rw[eA (eJ l f.ha)];exact f.gr.hh c o l
def Di(fl:List Ky)(g:Ky):(qI fl g).length<=fl.length+1:=by unfold qI;split<;>simp
def sZ{J:It}{f:List T}{A:Hp}{n:Nat}{g:TG}{Z:TS}{st:T->List Ky->M (List Ky)}(s:rF K J f A)
  (U:∀t x F H σ h (D:oG),t∈f->eB A F->Bk P w K Fb Hb jd a n ρ F H σ h->gX K F x t->(st t h).res (λc=>∀F' H' d,eB F F'->Bk P w K Fb Hb jd a n ρ F' H' d c->D.nx d H') (kE E Fb Hb)->g x σ H λr R=>Z D r R)
  (s1:eB A F) (b:Bk P w K Fb Hb jd a n ρ F H σ fl) (q:(kx st f fl).res (λc=>∀F' H' d,eB F F'->Bk P w K Fb Hb jd a n ρ F' H' d c->D.nx d H') (kE E Fb Hb)) :
  ∃W:Nat->Nat->St->Hp->Prop,(∃m,W 0 m σ H)/\∀i m σ H,W i m σ H->
 (J.stop i H/\D.nx σ H)\/(J.go i H/\∃N:St->Hp->Prop,(∀d H',N d H'->∃m',m'<m/\W (i+1) m' d H')/\∀x H',J.yld i H x H'->g x σ H' λr R=>Z {D with nx:=N,ct:=N,bk:=D.nx} r R):=by
 refine⟨λi k d H'=>i<=f.length/\k=f.length-i/\∃F' h,eB A F'/\Bk P w K Fb Hb jd a n ρ F' H' d h/\(kx st (f.drop i) h).res (λc=>∀o p j,eB F' o->Bk P w K Fb Hb jd a n ρ o p j c->D.nx j p) (kE E Fb Hb),⟨_,bD _,rfl,F,fl,s1,b,by simpa using q⟩,?_⟩
 rintro i k B I ⟨hi,rfl,Y,h,C,u,v⟩
 by_cases l:i<f.length
 .right;refine⟨s.go i I (C.trans u.gr.fh) l,λd H'=>∃F' h,eB A F'/\Bk P w K Fb Hb jd a n ρ F' H' d h/\(kx st (f.drop (i+1)) h).res (λc=>∀o p j,eB F' o->Bk P w K Fb Hb jd a n ρ o p j c->D.nx j p) (kE E Fb Hb),λd H' z=>⟨f.length-(i+1),by omega,l,rfl,z⟩,λx H' y=>?_⟩;have et:=ag l;obtain⟨F3,L,rp⟩:=s.yld i _ Y I x H' C u.gr.fh et y;rw[cR l]at v;unfold kx at v;refine U _ x F3 H' B h _ (aV l) (C.trans L.ff) (u.grow L) rp ((M.res.unb v).mono (λc z=>?_) λ_ _ z=>z);intro F4 H4 σ4 X b4;exact⟨F4,c,(C.trans L.ff).trans X,b4,z.mono (λS y F5 H5 Q s5 b5=>y F5 H5 Q ((L.ff.trans X).trans s5) b5) λ_ _ z=>z⟩
 .have e:i=f.length:=by omega
  subst e;rw[cZ (aK _)]at v;exact .inl ⟨s.stop I (C.trans u.gr.fh),v Y I B (.refl _) u⟩
abbrev Lx(P:Program)(w:World):List V->Hp->VK->Prop:=λzs H Q=>∃a xs,zs=[.ref a]/\H a=some (pj P w a xs)/\∀l:Addr,H l=none->Q (.ref l) (e6 H l (.lst (xs.map λx=>.ref x.2.1)))
abbrev Kj(P:Program)(w:World)(jd:Nat):TE:=Du (Lx P w) (nU (je jd) qa)
def Gb{n:Nat}{Q:VK}(b:Bk P w K Fb Hb jd a n ρ F H σ fl)(q:∀l bs,H l=none->Paired (rh F) bs fl->Bk P w K Fb Hb jd a n ρ (e6 F l (.lst (bs.map V.ref))) (e6 H l (.lst (bs.map V.ref))) σ fl->Q (.ref l) (e6 H l (.lst (bs.map V.ref)))):Kj P w jd σ H Q:=by
 obtain⟨bs,c,e,f,p⟩:=id b.fd;have i:=Dx.flr (P:=P) (w:=w) (H:=H) (a:=a) ⟨c,e,f,p⟩;refine⟨_,b.d,a,c,rfl,e,λl h=>?_⟩;have j:(c.map λx:FE=>V.ref x.2.1)=bs.map V.ref:=by rw[f,aI];rfl
 rw[j];have g:Gr F H (e6 F l (.lst (bs.map V.ref))) (e6 H l (.lst (bs.map V.ref))):=Gr.new b.gr.fh h;exact q l bs h i (b.grow g)
def yC{n:Nat}{ts:List T}(b:Bk P w K Fb Hb jd a n ρ F H σ fl)(g:fl.length<64)(k:kF K Fb Hb D.rt ((iD fl).map jQ)){src:V->Hp->List Addr->Prop}{x:V}{bs:List Addr}(q:src x H bs)(h:Paired (rh F) bs fl) :
  ∃bs fl,src x H bs/\Paired (rh H) bs fl/\fl.length<64/\∀f H' d c,eB H H'->H f=none->H' f=some (.lst (d.map V.ref))->(∀R:Addr->Ky->Prop,Paired R bs fl->Paired R d c)->c.Perm fl->c.Pairwise (λa b=>qE (ky b) (ky a)=false)->D.rt (.ref f) H':=by
 refine⟨bs,fl,q,Paired.mapP h λ_ _ z=>z.mono b.gr.fh,g,λf H' d c sm i m p j l=>?_⟩;have e:=vi j l;have o:F f=none:=eF b.gr.fh i;refine k f (d.map V.ref) F H' ⟨b.gr.ff,b.gr.fh.trans sm,b.gr.hh.trans sm,b.gr.nw⟩ (eF b.gr.hh i) o m ?_;rw[<-e];exact qg (p _ h)
def Jn(P:Program)(w:World)(K:W.Frag)(c b:TE)(e:TI)(jd g d f:Nat):TS:=uc (jW (Cc P w c (tC (.bl true))) (fR jd)) (uc (rJ e (fR g) (rJ (vp K (Kj P w jd)) (fR d) (AM P w b f jd))) (xC (xh (GP K) (Kj P w jd))))
noncomputable def DO(fe:Pe->M T)(c:Nat)(ρ:Pe):T->List Ky->M (List Ky):=λt b=>if b.length<1000 then (fe (ρ.set c (some t))).bind (Bb b) else .bad
noncomputable def zl(fe:Pe->M T)(d c:Nat)(ρ:Pe):T->List Ky->M (List Ky):=λt b=>kx (DO fe c (ρ.set d (some t))) (b.map jQ) b
noncomputable def EC(m:M (List Ky)):O:=O.of m λl=>if l.length<64 then .rf ((iD l).map jQ) else .bad
noncomputable def zO(f fe:Pe->M T)(i:Pe->M (List T))(jd d c e:Nat):En->O:=λρ=>.of (f (jG ρ)) λh=>match rq h with
 |none=>.bad
 |some g=>.of (i (((((jG ρ).set jd none).set e none).set d none).set c none)) λb=>EC (kx (zl fe d c (((((jG ρ).set jd none).set e none).set d none).set c none)) b [g])
def fL{ρ:Pe}{i j:Nat}{t:T}(h:(ρ.set j none)[i]? = some (some t)):i≠j/\ρ[i]? = some (some t):=by
 by_cases e:i=j
 .subst e;rw[List.getElem?_set]at h;simp only[if_true]at h;split at h<;>cases h
 .rw[ar (Ne.symm e)]at h;exact⟨e,h⟩
def uV{F:Hp}{σ:St}{ρ:Pe}{j:Nat}{v:V}(h:il K F σ ρ):il K F (σ.set j (some v)) (ρ.set j none):=λi t e=>by obtain⟨f,e⟩:=fL e;obtain⟨d,b,c⟩:=h i t e;exact⟨d,by rw[ar (Ne.symm f)];exact b,c⟩
def pJ{ρ:Pe}{i j:Nat}{x:Oq T}{t:T}(b:i≠j)(h:∀t,ρ[j]?≠some (some t)):(ρ.set i x)[j]?≠some (some t):=by rw[ar b];exact h t
def G4{t0 te:TE}{f0 fe:Pe->M T}{wi:TI}{fi:Pe->M (List T)}{jd d f h:Nat}(h0:ME K E t0 f0)(he:ME K E te fe)(hi:MI K E wi fi)(g:d≠jd/\f≠jd/\h≠jd/\d≠f/\d≠h/\f≠h){N:Nat}(hN:d<N/\f<N/\h<N/\jd<N):MS K E (Jn P w K t0 te wi jd d f h) (λρ=>if ρ.length=N then zO f0 fe fi jd d f h ρ else .bad):=λF0 H0 F H σ ρ D r q=>by
 dsimp only at q;by_cases s:ρ.length=N
 case neg=>rw[aR s]at q;exact q.elim
 rw[aQ s]at q;have X:σ.length=N:=r.len.trans s;intro p hp;have gp:Gr F H F (e6 H p (pj P w p [])):=Gr.new' r.gr.fh hp;have fp0:F p=none:=eF r.gr.fh hp;refine h0 F _ σ (jG ρ) _ gp.fh r.vars ((O.res_of q).mono (λt0 z v F1 H1 Z r1=>?_) λC n z=>z.go (r.gr.trans gp));cases ea:rq t0 with
 |none=>rw[ea]at z;exact z.elim
 |some g0=>
  rw[ea]at z;obtain⟨b0,rfl,Q⟩:=sL r1 ea;have hp1:H1 p=some (pj P w p []):=Z.hh _ _ eh;refine⟨hp1,(.inl g0.1,g0.2.map .inl),b0,rfl,BY (Q.mono Z.fh),λrv hrv=>?_⟩;have U:F1 p=none:=by
   cases y:F1 p with
   |none=>rfl
   |some u=>
    rcases Z.nw p (by rw[y];exact λw=>nomatch w) with k|k|⟨_,k⟩
    .exact absurd fp0 k
    .rw[eh]at k;cases k
    .rw[eh]at k;cases k
  have G0:=(r.gr.trans gp).trans Z;have R:H0 p=none:=eF r.gr.hh hp;have hd':jd<σ.length:=by rw[X];exact hN.2.2.2
  have b:Bk P w K F0.hp H0 jd p N (((((jG ρ).set jd none).set h none).set d none).set f none) F1 (e6 H1 p (pj P w p [((.inl g0.1,g0.2.map .inl),b0,rv)])) (σ.set jd (some (.ref p))) [g0]:=by
   refine⟨⟨G0.ff,λc o B=>?_,λc o B=>?_,G0.nw⟩,λi t e=>?_,by rw[bM];exact X,List.getElem?_set_self hd',U,R,[b0],_,eh,rfl,.cons ⟨rfl,Q⟩ .nil⟩
   .rw[eA (eJ B U)];exact G0.fh c o B
   .rw[eA (eJ B R)];exact G0.hh c o B
   .obtain⟨_,e⟩:=fL e;obtain⟨_,e⟩:=fL e;obtain⟨_,e⟩:=fL e;exact (uV (r.vars.mono Z.ff)) i t e
  refine hi F1 _ _ _ _ b.gr.fh b.vars ((O.res_of z).mono (λits z J F2 H2 g2 iok=>?_) λC n z=>z.go (b.gr));refine sZ (st:=zl fe d f (((((jG ρ).set jd none).set h none).set d none).set f none)) iok (λt x F3 H3 σ3 I D3 ht s3 b3 rx q3=>?_) (.refl _) (b.grow g2) ((O.res_of z).mono (λI z F4 H4 σ4 s4 b4=>?_) λ_ _ z=>z)
  .have nk:∀t,(((((jG ρ).set jd none).set h none).set d none).set f none)[f]?≠some (some t):=λt e=>(fL e).1 rfl;have ns:∀t,(((((jG ρ).set jd none).set h none).set d none).set f none)[h]?≠some (some t):=λt e=>(fL (fL (fL e).2).2).1 rfl;have nkk:∀t,(((((jG ρ).set jd none).set h none).set d none).set f none)[d]?≠some (some t):=λt e=>(fL (fL e).2).1 rfl;have b4:=b3.setP hN.1 g.1 rx;refine Gb b4 λl bs s pl b5=>⟨l,rfl,⟨_,iY.of eh⟩,?_⟩;have sl:eB F3 (e6 F3 l (.lst (bs.map V.ref))):=hW (eF b3.gr.fh s);have rps:=qg (K:=K) (Paired.mapP pl λ_ _ z=>z.mono sl);refine sZ (st:=DO fe f ((((((jG ρ).set jd none).set h none).set d none).set f none).set d (some t))) (uf (iY.of eh) rps) (λt' x' F6 H6 σ6 Y D6 ht' s6 b6 rx' L=>?_) (.refl _) b5 (q3.mono (λS y F7 H7 j s7 b7=>?_) λ_ _ z=>z)
   .unfold DO at L;by_cases A:Y.length<1000
    .rw[aQ A]at L;have b8:=b6.setP hN.2.1 g.2.1 rx';refine FP he b8 (λt2=>pJ g.2.2.2.2.2 λt3=>pJ g.2.2.2.2.1 ns) g.2.2.1 hN.2.2.1 A (L.mono (λS y F7 H7 j s7 b7=>y F7 H7 j s7 (b7.less λi t2 e=>?_)) λ_ _ z=>z);rw[ar]
     .exact e
     .intro z;subst z;exact pJ g.2.2.2.1 nk e
    .rw[aR A]at L;exact L.elim
   .refine y F7 H7 j (sl.trans s7) (b7.less λi t2 e=>?_);rw[ar]
    .exact e
    .intro z;subst z;exact nkk t2 e
  .by_cases m:I.length<64
   .rw[aQ m]at z;refine Gb b4 λl bs s pl b5=>?_;have sl:eB F4 (e6 F4 l (.lst (bs.map V.ref))):=hW (eF b4.gr.fh s);exact yC (ts:=[]) b5 m z (src:=GP K) ⟨l,rfl,eh⟩ (Paired.mapP pl λ_ _ z=>z.mono sl)
   .rw[aR m]at z;exact z.elim
def JH(P:Program)(w:World)(b:TE)(c:TI)(jd e d:Nat):TS:=uc (jW (BI P w) (fR jd)) (uc (rJ c (fR e) (AM P w b d jd)) (xC (xh (IA P w) (je jd))))
noncomputable def By(fe:Pe->M T)(e:Pe->M (List T))(jd c d:Nat):En->O:=λρ=>.of (e ((((jG ρ).set jd none).set d none).set c none)) λb=>EC (kx (DO fe c ((((jG ρ).set jd none).set d none).set c none)) b [])
def Ht{L:TE}{fe:Pe->M T}{Q:TI}{S:Pe->M (List T)}{jd c f:Nat}(he:ME K E L fe)(hi:MI K E Q S)(k:c≠jd/\f≠jd/\c≠f){N:Nat}(A:c<N/\f<N/\jd<N) :
  MS K E (JH P w L Q jd c f) (λρ=>if ρ.length=N then By fe S jd c f ρ else .bad):=λF0 H0 F H σ ρ D r q=>by
 dsimp only at q;by_cases I:ρ.length=N
 case neg=>rw[aR I]at q;exact q.elim
 rw[aQ I]at q;have m:σ.length=N:=r.len.trans I;intro p s;have gp:Gr F H F (e6 H p (pj P w p [])):=Gr.new' r.gr.fh s;have v:jd<σ.length:=by rw[m];exact A.2.2
 have G0:=r.gr.trans gp;have b:Bk P w K F0.hp H0 jd p N ((((jG ρ).set jd none).set f none).set c none) F (e6 H p (pj P w p [])) (σ.set jd (some (.ref p))) []:=by refine⟨G0,λi t e=>?_,by rw[bM];exact m,List.getElem?_set_self v,eF r.gr.fh s,eF r.gr.hh s,[],_,eh,rfl,.nil⟩;obtain⟨_,e⟩:=fL e;obtain⟨_,e⟩:=fL e;exact (uV r.vars) i t e
 refine hi F _ _ _ _ b.gr.fh b.vars ((O.res_of q).mono (λZ z J F2 H2 g2 B=>?_) λC n z=>z.go b.gr);refine sZ (st:=DO fe c ((((jG ρ).set jd none).set f none).set c none)) B (λt x F3 H3 σ3 h D3 ht s3 b3 rx l=>?_) (.refl _) (b.grow g2) ((O.res_of z).mono (λh z F4 H4 σ4 s4 u=>?_) λ_ _ z=>z)
 .have ns:∀t,((((jG ρ).set jd none).set f none).set c none)[f]?≠some (some t):=λt e=>(fL (fL e).2).1 rfl;have nk:∀t,((((jG ρ).set jd none).set f none).set c none)[c]?≠some (some t):=λt e=>(fL e).1 rfl;unfold DO at l;by_cases g:h.length<1000
  .rw[aQ g]at l;have b8:=b3.setP A.1 k.1 rx;refine FP he b8 (λX=>pJ k.2.2 ns) k.2.1 A.2.1 g (l.mono (λU y F7 H7 o s7 b7=>y F7 H7 o s7 (b7.less λi X e=>?_)) λ_ _ z=>z);rw[ar]
   .exact e
   .intro z;subst z;exact nk X e
  .rw[aR g]at l;exact l.elim
 .by_cases j:h.length<64
  .rw[aQ j]at z;obtain⟨bs,R,e,Y,pp⟩:=id u.fd;exact⟨_,u.d,yC (ts:=[]) u j z (src:=IA P w) ⟨p,R,rfl,e,Y⟩ (Dx.flr (P:=P) (w:=w) (H:=H4) (a:=p) ⟨R,e,Y,pp⟩)⟩
  .rw[aR j]at z;exact z.elim
end
section
open PySem.W
variable {K:W.Frag}{E:XK}{X:Cx}
def nQ.im{a it:Expr}{w:TI}{f:Pe->M (List T)}(h:nQ K E X a it w f):Av K E X a it w f:=⟨h.pi,h.mi.mi⟩
structure Jc(X:Cx)(x:Str)(params:Arguments)(scope:Scope)(body:Expr):Prop where
 S:eZ [x] [x] scope
 hx:scope.names.lookup x=some .local
 hb:∀(q:Str) (pm ctv:Vq) (c':Addr) (u:Vq),bindArgs (kla_fn "<lambda>" q params body scope [] pm (.ref c') ctv) ⟨[u],[]⟩=pure [(x,u)]
 cl:closureFor scope X.env=pure []
 df:defaultsOf params X.env=([],[])
def DW{k:Nat}{qn n f q B g:Str}{y e it:Expr}{t0 D:TE}{f0 fe:Pe->M T}{F:TI}{Q:Pe->M (List T)}{params:Arguments}{d:Scope}{p1 p2 p3 p4 p5 p6 p7 p8 U q2 Y q4 q5 q6 q7 q8 q9 r1 H r3 r4 r5 r6 r7 r8 r9 R u2 u3 u4 u5 u6 u7 u8 u9 p p' C:Pos}{j1 j2 j3 i1 i2 i3:Nat}
  (h j l i:Nat) (r:X.N.Nodup) (hp:PassesOwn (model X.prog X.w) X.A X.env X.xe) (hr:e8 (k+3) X.A) (L:Ao X.base X.mg qn X.env.code) (mL:X.mg "list" = none) (mS:X.mg "sorted" = none) (h0:Pm K E X y t0 f0) (P:Av K E X (.Name q Y) it F Q) (he:Pm K E X e D fe)
  (hq:qn++ ".<locals>.<lambda>" = X.env.qual++ "<lambda>" :=by rfl) (o:Jc X n params d (jw n p1 p2 p3 p4 p5 p6 p7 p8 j1 j2 j3):=by exact⟨by constructor<;>first|rfl|decide +kernel,rfl,λ_ _ _ _ _=>rfl,rfl,rfl⟩) (t:X.K=K:=by rfl) (x:X.calm=true:=by rfl)
  (J:X.N[h]? = some f:=by rfl) (hk:X.N[j]? = some q:=by rfl) (hf:X.N[l]? = some B:=by rfl) (Z:X.N[i]? = some g:=by rfl) (v:X.env.scope.names.lookup f=some .local:=by rfl) (lk:X.env.scope.names.lookup q=some .local:=by rfl) (lf:X.env.scope.names.lookup B=some .local:=by rfl) (u:X.env.scope.names.lookup g=some .local:=by rfl)
  (m:(f==("__debug__" : Str))=false/\(f==("__classdict__" : Str))=false/\(g==("__debug__" : Str))=false/\(g==("__classdict__" : Str))=false/\(n==("__debug__" : Str))=false/\(n==("__classdict__" : Str))=false:=by decide) (gL:Gl X "list" :=by rfl) (gS:Gl X "sorted" :=by rfl) (s:j≠h/\l≠h/\i≠h/\j≠l/\j≠i/\l≠i:=by decide)
  (s1:swapsWith (.Dict [some y] [.Constant (.bool true) i1 U] q2) (some (.Name f R)) u2.line X.env=pure false:=by rfl) (s2:swapsWith e (some (.Name g r1)) H.line X.env=pure false:=by rfl) (fs:∀z,foldedSetIterable it X.env z=pure z:=by intro _;rfl) {N:Nat} (hN:j<N/\l<N/\i<N/\h<N:=by decide) :
  kJ K E X [.Assign [.Name f R] (.Dict [some y] [.Constant (.bool true) i1 U] q2) u2,
   .For (.Name q Y) it [.For (.Name B q4) (.Call (.Name "list" q5) [.Name f q6] [] q7) [.Assign [.Name g r1] e H,.If (.Compare (.Name g r3) [.IsNot] [.Constant .none i2 r4] r5) [.Assign [.Subscript (.Name f r6) (.Name g r7) r8] (.Constant (.bool true) i3 r9) u3] [] u4] [] u5] [] u6,
   .Return (some (.Call (.Name "sorted" u7) [.Call (.Name "list" u8) [.Name f u9] [] q8] [⟨some "key",.Lambda params (jw n p1 p2 p3 p4 p5 p6 p7 p8 j1 j2 j3) d q9,p⟩] p')) C] (Jn X.prog X.w K t0 D F h j l i) (λρ=>if ρ.length=N then zO f0 fe Q h j l i ρ else .bad):=by
 subst t;have hu:X.A.units+2<cLine:=by have:=hr.units;omega
 have vd:∀{pos},PE X (.Name f pos) (je h):=λ{pos}=>mG J (.inl v) m.1 m.2.1;have I:∀{pos},PE X (.Name g pos) (je i):=λ{pos}=>mG Z (.inl u) m.2.2.1 m.2.2.2.1;have ll:∀{a b c},PE X (.Call (.Name "list" a) [.Name f b] [] c) (Kj X.prog X.w h):=λ{a b c}=>om (xo x) gL mL (by rfl) (kG vd q0);refine⟨jj (lC r J (.inl v) (Cr hu h0.pe yi) s1 (.inr v)) (jj (oh hp x P.pi (nq r hk (.inl lk) (.inr lk)) (jx (oh hp x (tY ll) (nq r hf (.inl lf) (.inr lf)) (jj (lC r Z (.inl u) he.pe s2 (.inr u)) (jx (AH (C5 (yH I)) (jx (yo hu vd I yi rfl)) tT))))) fs) (jx (tu (vv hr L hq o.S o.hx o.hb o.cl o.df AJ ll gS mS ⟨rfl,rfl⟩ m.2.2.2.2.1 m.2.2.2.2.2)))),G4 h0.me he.me P.mi s hN⟩
def Fw{k:Nat}{U j c f b:Str}{e it:Expr}{t:TE}{fe:Pe->M T}{u:TI}{C:Pe->M (List T)}{params:Arguments}{a:Scope}{p p' s p1 p2 p3 p4 p5 p6 p7 p8 P F J v r3 r4 r5 r6 r7 r8 r9 D I u3 u4 u6 u7 u9 q9:Pos}{j1 j2 j3 i2 i3:Nat}
  (g h d:Nat) (q:X.N.Nodup) (hp:PassesOwn (model X.prog X.w) X.A X.env X.xe) (Y:e8 (k+3) X.A) (L:Ao X.base X.mg U X.env.code) (mS:X.mg "sorted" = none) (B:Av K E X (.Name f F) it u C) (Z:Pm K E X e t fe)
  (hq:U++ ".<locals>.<lambda>" = X.env.qual++ "<lambda>" :=by rfl) (l:Jc X j params a (jw j p1 p2 p3 p4 p5 p6 p7 p8 j1 j2 j3):=by exact⟨by constructor<;>first|rfl|decide +kernel,rfl,λ_ _ _ _ _=>rfl,rfl,rfl⟩) (n:X.K=K:=by rfl) (R:X.calm=true:=by rfl)
  (y:X.N[g]? = some c:=by rfl) (hk:X.N[h]? = some f:=by rfl) (H:X.N[d]? = some b:=by rfl) (r:X.env.scope.names.lookup c=some .local:=by rfl) (lk:X.env.scope.names.lookup f=some .local\/X.env.scope.names.lookup f=some .cell:=by first|exact .inl rfl|exact .inr rfl) (o:X.env.scope.names.lookup b=some .local:=by rfl) (fk:X.fn f=true\/X.env.scope.names.lookup f=some .local:=by first|exact .inl rfl|exact .inr rfl)
  (i:(c==("__debug__" : Str))=false/\(c==("__classdict__" : Str))=false/\(b==("__debug__" : Str))=false/\(b==("__classdict__" : Str))=false/\(j==("__debug__" : Str))=false/\(j==("__classdict__" : Str))=false:=by decide) (gS:Gl X "sorted" :=by rfl) (m:h≠g/\d≠g/\h≠d:=by decide)
  (s1:swapsWith (.Dict [] [] P) (some (.Name c D)) I.line X.env=pure false:=by rfl) (s2:swapsWith e (some (.Name b J)) v.line X.env=pure false:=by rfl) (fs:∀z,foldedSetIterable it X.env z=pure z:=by intro _;rfl) {N:Nat} (hN:h<N/\d<N/\g<N:=by decide) :
  kJ K E X [.Assign [.Name c D] (.Dict [] [] P) I,
   .For (.Name f F) it [.Assign [.Name b J] e v,.If (.Compare (.Name b r3) [.IsNot] [.Constant .none i2 r4] r5) [.Assign [.Subscript (.Name c r6) (.Name b r7) r8] (.Constant (.bool true) i3 r9) u3] [] u4] [] u6,
   .Return (some (.Call (.Name "sorted" u7) [.Name c u9] [⟨some "key",.Lambda params (jw j p1 p2 p3 p4 p5 p6 p7 p8 j1 j2 j3) a q9,p⟩] p')) s] (JH X.prog X.w t u g h d) (λρ=>if ρ.length=N then By fe C g h d ρ else .bad):=by
 subst n;have hu:X.A.units+2<cLine:=by have:=Y.units;omega
 have Q:∀{pos},PE X (.Name c pos) (je g):=λ{pos}=>mG y (.inl r) i.1 i.2.1;have x:∀{pos},PE X (.Name b pos) (je d):=λ{pos}=>mG H (.inl o) i.2.2.1 i.2.2.2.1;refine⟨jj (lC q y (.inl r) Cf s1 (.inr r)) (jj (oh hp R B.pi (nq q hk lk fk) (jj (lC q H (.inl o) Z.pe s2 (.inr o)) (jx (AH (C5 (yH x)) (jx (yo hu Q x yi rfl)) tT))) fs) (jx (tu (vv Y L hq l.S l.hx l.hb l.cl l.df (Hr R) Q gS mS ⟨rfl,rfl⟩ i.2.2.2.2.1 i.2.2.2.2.2)))),Ht Z.me B.mi m hN⟩
noncomputable abbrev KS(P:Program)(w:World)(K:W.Frag)(mg:Str->Option Value)(base:Heap)(k:Nat)(qual:Str)(st:Stmt)(N:List Str)(g:En->O):Prop:=∀{f:Addr} {cdv:Vq} {A:Around} {outer:List Env} {s:Sq} {H:Hp} {E:XK},Ao base mg qual cdv->N.Nodup->JN (jJ mw P w K mg base N qual (d8 st) f cdv A outer s H E).nox->e8 k (A.deeper (PyProof.Rows.envOfC qual (d8 st) s.heap.objs.size f cdv))->∃t,kJ K E (jJ mw P w K mg base N qual (d8 st) f cdv A outer s H E).nox (eU st) t g
def A5{P:Program}{w:World}{mg:Str->Option Value}{i:Heap}{x:Str}{st:Stmt}{g:En->O}(_:Zx P w K mg i) k F N ps (e:F=vU ps.length N.length g) (D:eN K mg x st) (L:xD K mg i x) (m:KS P w K mg i k x st N g) (S:eZ N ps (d8 st):=by constructor<;>first|rfl|decide +kernel)
  (l:IP x x st ps:=by first|exact λ_ _ _ _ _ _ _ _=>rfl|exact λ_ _ _ _ _ _ _=>rfl|exact λ_ _ _ _ _ _ _ _ _=>rfl) :
  iq P w K mg i x (k+1) (wg K F):=e▸B1 D L S (λa b c d e f u q=>kP (l a b c d e f) u q) (λo H Q E h=>uo h) λf p A j s H o Q E r n h=>let ⟨t,hp⟩:=m r S.nd (λ_ h=>jl h) n;⟨t,hp.ps,qk hp.ms h⟩
end
def Hl{l:W.OpenLaw}{q:Program}{k:Nat}{x:Str}{c:List Str}{z:(Str->Option Value)->Heap->Prop}{j:World->Heap->Prop}{d:DefRec}{K:Params->W.Frag}(g:List Str)(r:l.most=some 63)(p:e8 k callerA)(i:d.params.defaults=[])
  (A:∀(w:World) (h:Heap),j w h->(K w.params).In h) (B:∀x∈g,∃d',(PyProof.Rows.recsOf q).find? (λe=>e.name==x)=some d') (o:∀w:World,qM (K w.params) g=true)
  (F:∀(w:World) (mg:Str->Option Value) (m:Addr) (h:Heap),(K w.params).In h->h.Ns mainGlobals mg->mg d.name=some (.ref m)->
   ∃fd:FuncData,(∀(s:Sq) (u:Vq),BindsTo s fd ⟨[u],[]⟩ [(x,u)])/\∀b:Heap,(K w.params).In b->b.Ns mainGlobals mg->(∀y∈g,xD (K w.params) mg b y)->jM l.prog w (K w.params) mg b mw k m fd [x] (BF (K w.params))) :
  W.WalkO q c z j l.row.toRowW d [] (λf vs=>PySem.call f vs):=
 L2.CH g r (by decide) i p A B o F λ_ _ a t C n v=>⟨a,t,rfl,v,C,n,λ_=>rfl⟩
end L3
namespace CL
open PySem L2 L3
structure Cs where
 Cutting:Addr
 Desk:Addr
 CutError:Addr
 NoCutting:Addr
 NoTable:Addr
 NoFraction:Addr
 NoSpot:Addr
 NoSigns:Addr
 NoLand:Addr
 NoFace:Addr
 NoNumber:Addr
 NoText:Addr
 NoDeed:Addr
def nc(c:Cs):En->O:=(eQ (setO 2 (iz (eG qA (dX 0) (dX 1))))
  (eQ (setO 0 (iz (dX 1)))
  (setO 1 (iz (dX 2)))))
def oN(c:Cs):En->O:=(eQ (λa=>jo (fS (eG (eW true) (dX 1) (cM (.int 0)))) (nc c) ((λa=>match a with|_::some (.p (.int j))::_=>j.natAbs+1|_=>0) a) a)
  (fO (iQ zF (dW (dX 0) d6))))
def fJ(c:Cs):List T->M T:=kZ 2 3 (oN c)
def j4(c:Cs):En->O:=(eQ (kY (fS (eG Kf (dX 1) (iQ iy (dW (dX 0) d6)))) (fO (eG gO (dX 0) (dX 1))) fM)
  (fO (cM (.int 0))))
def fH(c:Cs):List T->M T:=kZ 2 2 (j4 c)
def v7(c:Cs):En->O:=(fO (vL (nN "int" (dX 0)) (zm (nN "bool" (dX 0)))))
def ji(c:Cs):List T->M T:=kZ 1 1 (v7 c)
def xF(c:Cs):En->O:=(fO (vL (nN "int" (dX 0)) (zm (nN "bool" (dX 0)))))
def gN(c:Cs):List T->M T:=kZ 1 1 (xF c)
def Am(c:Cs):En->O:=(eQ (kY (fS (eG IQ (dX 0) (cM (.int 0)))) (fO (cM (.int 1))) fM)
  (eQ (kY (fS (eG Kf (dX 0) (cM (.int 0)))) (fO (Gd (λi=>.int (-i)) (cM (.int 1)))) fM)
  (fO (cM (.int 0)))))
def kj(c:Cs):List T->M T:=kZ 1 1 (Am c)
def Ak(c:Cs):En->O:=(fO (vL (eE (dW (dX 0) d6) (gN c)) (KJ J9 J9 (cM (.int 1)) (dX 0) (cM (.int 3)))))
def jz(c:Cs):List T->M T:=kZ 1 1 (Ak c)
def oA(c:Cs):Pe->M T:=(eE (dW (dX 0) d6) (gN c))
def oU(c:Cs):Pe->M T:=(eG (eW true) (dX 0) (cM (.int 0)))
def B9(c:Cs):En->O:=(eQ (kY (wU (ko (fS (nN "tuple" (dX 1)))) (fS (eG (eW true) (iQ iy (dW (dX 1) d6)) (eG gH (dX 0) (cM (.int 1)))))) (fO (cM (.bl false))) fM)
  (eQ (kY (ko (fS (iQ rA (dW (gJ (iO [none] (fY (dX 1)) (iA 0) (λ_=>.ok true) (oA c))) d6)))) (fO (cM (.bl false))) fM)
  (fO (iQ mT (dW (gJ (iO [none] (fY (k9 (dX 1) (λ_=>.ok none) (iP (dX 0)))) (iA 0) (λ_=>.ok true) (oU c))) d6)))))
def j5(c:Cs):List T->M T:=kZ 2 2 (B9 c)
def lQ(c:Cs):En->O:=(setO 1 (iz (eG gH (dX 1) (cM (.int 1)))))
def rE(c:Cs):En->O:=(eQ (setO 1 (iz (cM (.int 0))))
  (eQ (λa=>jo (fS (eG (eW false) (eG gO (dX 0) (dX 1)) (cM (.int 0)))) (lQ c) ((λa=>match a with|some (.p (.tup ts))::_=>ts.length+1|_=>0) a) a)
  (fO (dX 1))))
def hV(c:Cs):List T->M T:=kZ 1 2 (rE c)
def ml(c:Cs):Pe->M T:=(eG (eW false) (eG jI (dX 0) (eG gO (dX 2) (dX 3))) (eG jI (dX 1) (eG gO (dX 4) (dX 3))))
def tX(c:Cs):En->O:=(eQ (setO 2 (iz (eE (dW (dX 0) d6) (hV c))))
  (fO (iQ rA (dW (gJ (iO [none,none,some 1,some 2,some 0] (pG (dW (dX 0) (dW (dX 1) d6))) (nY 2 (gI (iA 0) (gI (iA 1) oQ))) (λ_=>.ok true) (ml c))) d6))))
def iH(c:Cs):List T->M T:=kZ 2 3 (tX c)
def kH(c:Cs):Pe->M T:=(eE (dW (dX 0) (dW (dX 1) d6)) (iH c))
def uN(c:Cs):En->O:=(eQ (kY (wU (fS (eG JP (iQ iy (dW (dX 1) d6)) (cM (.int 7)))) (ko (fS (eE (dW (dX 0) (dW (dX 2) d6)) (j5 c))))) (fO (cM (.bl false))) fM)
  (fO (zm (iQ mT (dW (gJ (iO [none,some 2] (fY (dX 1)) (iA 0) (λ_=>.ok true) (kH c))) d6)))))
def iw(c:Cs):List T->M T:=kZ 3 3 (uN c)
def kX(c:Cs):En->O:=(eQ (kY (ko (fS (eE (dW (dX 0) (dW (dX 2) (dW (dX 3) d6))) (iw c)))) (λ_=>.bad) fM)
  (pW 2 (iz (iQ iG (dW (dX 3) d6)))))
def qU(c:Cs):En->O:=(eQ (kY (wU (ko (fS (eE (dW (dX 0) d6) (jz c)))) (ko (fS (nN "list" (dX 1))))) (λ_=>.bad) fM)
  (eQ (lg 2 (oB (lstM d6)))
  (eQ (rB (fY (dX 1)) (lj 3) (kX c))
  (fO (iQ iG (dW (dX 2) d6))))))
def gy(c:Cs):List T->M T:=kZ 2 4 (qU c)
def gx(c:Cs):List T->M T:=sf c.Cutting 2 "own_cuts" "own_dims" (eE (dW (dX 1) (dW (dX 2) d6)) (gy c)) (dX 1)
def qJ(c:Cs):En->O:=(fO (xw c.Cutting "own_dims" (dX 0)))
def gw(c:Cs):List T->M T:=kZ 1 1 (qJ c)
def p0(c:Cs):En->O:=(sU (E1 lO (dW (xw c.Cutting "own_cuts" (dX 0)) d6)))
def gq(c:Cs):List T->M (List T):=vU 1 1 (p0 c)
def vn(c:Cs):En->O:=(setO 3 (iz (eG qN (dX 3) (dX 2))))
def xR(c:Cs):En->O:=(eQ (kY (fS (eG JP (dX 0) (eG DJ (cM (.int 10)) (cM (.int 18))))) (eQ (setO 3 (iz (dX 0)))
  (eQ (pB (gW (dW (dX 1) d6)) (lj 4) (vn c))
  (fO (eG qA (dX 3) (dX 2))))) fM)
  (eQ (setO 5 (iz (eG qA (eG jI (eG gH (eG gH (eG qA (dX 0) (cM (.int 1000000007))) (eG jI (cM (.int 1009)) (dX 1))) (cM (.int 17))) (cM (.int 69621))) (cM (.int 2147483647)))))
  (eQ (setO 5 (iz (eG qA (eG gH (eG gH (eG jI (dX 5) (dX 5)) (eG jI (cM (.int 40503)) (dX 1))) (cM (.int 5))) (cM (.int 2147483629)))))
  (fO (eG qA (eG qN (eG qA (eG jI (dX 5) (cM (.int 48271))) (cM (.int 2147483647))) (cM (.int 32))) (dX 2))))))
def eP(c:Cs):List T->M T:=kZ 3 6 (xR c)
def oW(c:Cs):En->O:=(kY (fS (eG (eW true) (eG jI (eG gO (dX 0) (dX 2)) (eG gO (dX 1) (dX 3))) (eG jI (eG gO (dX 0) (dX 3)) (eG gO (dX 1) (dX 2))))) (fO (cM (.bl false))) fM)
def ve(c:Cs):En->O:=(pB (gW (dW (dX 2) d6)) (lj 3) (oW c))
def xu(c:Cs):En->O:=(eQ (pB (gW (dW (iQ iy (dW (dX 0) d6)) d6)) (lj 2) (ve c))
  (fO (cM (.bl true))))
def ip(c:Cs):List T->M T:=kZ 2 4 (xu c)
def sk(c:Cs):En->O:=(eQ (setO 1 (iz (eE (dW (dX 1) (dW (dX 2) d6)) (fJ c))))
  (kY (fS (eG (eW false) (dX 1) (cM (.int 1)))) (fO (dX 0)) fM))
def zc(c:Cs):Pe->M T:=(eG qN (dX 0) (dX 1))
def Bm(c:Cs):En->O:=(eQ (setO 1 (iz (cM (.int 0))))
  (eQ (rB (fY (dX 0)) (lj 2) (sk c))
  (eQ (kY (fS (eG (eW false) (dX 1) (cM (.int 0)))) (fO (dX 0)) fM)
  (fO (iQ iG (dW (gJ (iO [none,some 1] (fY (dX 0)) (iA 0) (λ_=>.ok true) (zc c))) d6))))))
def lx(c:Cs):List T->M T:=kZ 1 3 (Bm c)
def xN(c:Cs):Pe->M T:=(eG gH (eG jI (dX 2) (dX 0)) (eG jI (dX 3) (dX 1)))
def zZ(c:Cs):En->O:=(eQ (kY (fS (eG (eW false) (eG gO (dX 0) (dX 2)) (cM (.int 0)))) (fO (dX 0)) fM)
  (eQ (setO 3 (iz (iQ zF (dW (eG gO (dX 1) (dX 2)) d6))))
  (eQ (setO 4 (iz (eG jI (Gd (λi=>.int (-i)) (eG gO (dX 0) (dX 2))) (eE (dW (eG gO (dX 1) (dX 2)) d6) (kj c)))))
  (fO (eE (dW (iQ iG (dW (gJ (iO [none,none,some 3,some 4] (pG (dW (dX 0) (dW (dX 1) d6))) (nY 2 (gI (iA 0) (gI (iA 1) oQ))) (λ_=>.ok true) (xN c))) d6)) d6) (lx c))))))
def gR(c:Cs):List T->M T:=kZ 3 5 (zZ c)
def mN(c:Cs):En->O:=(setO 0 (iz (eE (dW (dX 0) (dW (dX 3) (dW (dX 2) d6))) (gR c))))
def zJ(c:Cs):En->O:=(eQ (rB (fY (dX 1)) (lE 2 (f9 (lj 2) (f9 (lj 3) lR))) (mN c))
  (fO (dX 0)))
def gC(c:Cs):List T->M T:=kZ 2 4 (zJ c)
def my(c:Cs):Pe->M T:=(l8 (dW (dX 0) (dW (eE (dW (dX 1) (dW (dX 2) (dW (dX 3) d6))) (gR c)) d6)))
def sX(c:Cs):En->O:=(sU (uO (gJ (iO [none,none,some 1,some 2] (fY (dX 0)) (nY 2 (gI (iA 0) (gI (iA 1) oQ))) (λ_=>.ok true) (my c))) (gJ (lstM (dW (l8 (dW (dX 2) (dW (dX 1) d6))) d6)))))
def gU(c:Cs):List T->M (List T):=vU 3 3 (sX c)
def jt(c:Cs):Pe->M T:=(dX 0)
def gY(c:Cs):En->O:=(eQ (setO 5 (iz (eE (dW (dX 4) (dW (dX 2) d6)) (gC c))))
  (eQ (setO 6 (iz (gJ (iO [none,some 5] (gW (dW (dX 1) d6)) (iA 0) (fS (eG (eW true) (eG gO (dX 1) (dX 0)) (cM (.int 0)))) (jt c)))))
  (kY (fS (eG (eW false) (dX 6) (gJ (lstM d6)))) (pW 3 (iz (dX 5))) (setO 2 (iz (gJ (jr (dW (dX 2) (dW (dX 5) (dW (eG gO (dX 6) (cM (.int 0))) d6))) (gU c))))))))
def mD(c:Cs):En->O:=(eQ (setO 2 (iz (gJ (lstM d6))))
  (eQ (lg 3 (oB (lstM d6)))
  (eQ (rB (fY (dX 0)) (lj 4) (gY c))
  (fO (l8 (dW (dX 2) (dW (dX 3) d6)))))))
def fN(c:Cs):List T->M T:=kZ 2 7 (mD c)
def wy(c:Cs):Pe->M T:=(eG gO (dX 1) (dX 0))
def qK(c:Cs):Pe->M T:=(iQ mT (dW (dX 0) d6))
def pV(c:Cs):Pe->M T:=(dX 0)
def Ag(c:Cs):En->O:=(eQ (setO 3 (iz (eE (dW (gJ (iO [none,some 0] (fY (dX 2)) (iA 0) (λ_=>.ok true) (wy c))) (dW (dX 1) d6)) (fN c))))
  (eQ (kY (fS (iQ mT (dW (gJ (iO [none] (fY (eG gO (dX 3) (cM (.int 1)))) (iA 0) (λ_=>.ok true) (qK c))) d6))) (fO (cM .non)) fM)
  (eQ (setO 4 (iz (eG gO (dX 3) (cM (.int 0)))))
  (eQ (setO 5 (iz (gJ (iO [none,none,some 4] (pY (dW (dX 0) d6)) (nY 2 (gI (iA 0) (gI (iA 1) oQ))) (ko (fS (iQ mT (dW (eE (dW (dX 1) (dW (dX 2) d6)) (gC c)) d6)))) (pV c)))))
  (fO (l8 (dW (eG vG (dX 1) (iQ iy (dW (dX 4) d6))) (dW (iQ iG (dW (dX 5) d6)) d6))))))))
def gd(c:Cs):List T->M T:=kZ 3 6 (Ag c)
def Ex(c:Cs):En->O:=(eQ (setO 1 (iz (gJ (ql c.Cutting "cuts" (dX 0) d6 (gq c)))))
  (eQ (setO 2 (iz (vB c.Cutting "dims" (dX 0) d6 (gw c))))
  (λa=>if a.length=7 then zO (eE (dW (dX 1) (dW (dX 2) (dW (gJ (lstM d6)) d6))) (gd c)) (eE (dW (dX 1) (dW (dX 2) (dW (eG gH (eG gO (dX 5) (cM (.int 1))) (l8 (dW (dX 4) d6))) d6))) (gd c)) (gW (dW (iQ iy (dW (dX 1) d6)) d6)) 3 4 5 6 a else .bad)))
def m4(c:Cs):List T->M (List T):=vU 1 7 (Ex c)
def nu(c:Cs):Pe->M T:=(eG vG (eE (dW (dX 2) (dW (eG gH (eG gH (cM (.int 4)) (eG jI (cM (.int 4)) (dX 3))) (dX 0)) (dW (eG gH (eG jI (cM (.int 2)) (dX 1)) (cM (.int 1))) d6))) (eP c)) (dX 1))
def m9(c:Cs):Pe->M T:=(eG gH (dX 0) (eG jI (dX 2) (dX 1)))
def uL(c:Cs):En->O:=(eQ (setO 4 (iz (eG gO (gJ (lstM (dW (cM (.int 1)) (dW (cM (.int 2)) (dW (cM (.int 3)) (dW (cM (.int 5)) (dW (cM (.int 1000)) d6))))))) (eE (dW (dX 0) (dW (cM (.int 2)) (dW (cM (.int 5)) d6))) (eP c)))))
  (eQ (lg 5 (oB (iO [none,some 4,some 0,some 1] (gW (dW (eG gH (dX 2) (cM (.int 1))) d6)) (iA 0) (λ_=>.ok true) (nu c))))
  (eQ (setO 6 (iz (eE (dW (dX 0) (dW (eG gH (cM (.int 40)) (dX 1)) (dW (cM (.int 6)) d6))) (eP c))))
  (eQ (kY (rz (fS (eG (eW false) (dX 6) (cM (.int 1)))) (fS (eG (eW true) (dX 3) (gJ (lstM d6))))) (lg 5 (wQ (uO (gJ (E1 lO (dW (k9 (eG gO (dX 3) (eE (dW (dX 0) (dW (eG gH (cM (.int 50)) (dX 1)) (dW (iQ iy (dW (dX 3) d6)) d6))) (eP c))) (λ_=>.ok none) (iP (dX 2))) d6))) (k9 (dX 5) (iP (dX 2)) (λ_=>.ok none))))) fM)
  (eQ (kY (fS (eG (eW false) (dX 6) (cM (.int 2)))) (ur 5 (rg (dX 2)) (rg (cM (.int 0)))) fM)
  (eQ (kY (rz (fS (eG (eW false) (dX 6) (cM (.int 3)))) (fS (eG IQ (iQ iy (dW (dX 3) d6)) (cM (.int 1))))) (eQ (setO 7 (iz (eG gO (dX 3) (eE (dW (dX 0) (dW (eG gH (cM (.int 50)) (dX 1)) (dW (eG vG (iQ iy (dW (dX 3) d6)) (cM (.int 1))) d6))) (eP c)))))
  (eQ (setO 8 (iz (eG gH (cM (.int 1)) (eE (dW (dX 0) (dW (eG gH (cM (.int 60)) (dX 1)) (dW (cM (.int 3)) d6))) (eP c)))))
  (lg 5 (oB (iO [none,none,some 8] (pG (dW (eG gO (dX 3) (Gd (λi=>.int (-i)) (cM (.int 1)))) (dW (dX 7) d6))) (nY 2 (gI (iA 0) (gI (iA 1) oQ))) (λ_=>.ok true) (m9 c)))))) fM)
  (eQ (kY (fS (eG (eW false) (k9 (dX 5) (λ_=>.ok none) (iP (dX 2))) (gJ (CJ (gJ (lstM (dW (cM (.int 0)) d6))) (dX 2))))) (ur 5 (rg (eE (dW (dX 0) (dW (eG gH (cM (.int 60)) (dX 1)) (dW (dX 2) d6))) (eP c))) (rg (cM (.int 1)))) fM)
  (fO (iQ iG (dW (dX 5) d6))))))))))
def gQ(c:Cs):List T->M T:=kZ 4 9 (uL c)
def jP(c:Cs):Pe->M T:=(dX 0)
def lM(c:Cs):En->O:=(eQ (setO 5 (rg (eE (dW (dX 0) (dW (dX 4) (dW (dX 2) (dW (dX 3) d6)))) (gQ c))))
  (kY (fS (eG (eW false) (gJ (iO [none,some 5] (fY (dX 3)) (iA 0) (fS (eE (dW (dX 0) (dW (dX 1) d6)) (ip c))) (jP c))) (gJ (lstM d6)))) (pW 3 (iz (dX 5))) fM))
def rG(c:Cs):En->O:=(eQ (setO 2 (iz (eG gO (gJ (lstM (dW (cM (.int 1)) (dW (cM (.int 2)) (dW (cM (.int 2)) (dW (cM (.int 3)) (dW (cM (.int 3)) d6))))))) (eE (dW (dX 0) (dW (cM (.int 0)) (dW (cM (.int 5)) d6))) (eP c)))))
  (eQ (lg 3 (oB (lstM d6)))
  (eQ (pB (gW (dW (eE (dW (dX 0) (dW (cM (.int 1)) (dW (eG gH (dX 1) (cM (.int 1))) d6))) (eP c)) d6)) (lj 4) (lM c))
  (fO (l8 (dW (dX 2) (dW (dX 3) d6)))))))
def gE(c:Cs):List T->M T:=kZ 2 6 (rG c)
def mq(c:Cs):Pe->M T:=(eG vG (eG jI (eG gO (dX 3) (dX 4)) (dX 0)) (eG jI (dX 2) (dX 1)))
def i7(c:Cs):En->O:=(eQ (setO 6 (iz (eG gO (dX 3) (dX 4))))
  (setO 3 (iz (gJ (iO [none,none,some 6,some 5,some 4] (pG (dW (dX 3) (dW (dX 5) d6))) (nY 2 (gI (iA 0) (gI (iA 1) oQ))) (λ_=>.ok true) (mq c))))))
def mB(c:Cs):Pe->M T:=(dX 0)
def jX(c:Cs):En->O:=(eQ (setO 3 (iz (gJ (E1 lO (dW (dX 2) d6)))))
  (eQ (lX 1 (lE 2 (f9 (lj 4) (f9 (lj 5) lR))) (i7 c))
  (eQ (setO 7 (iz (gJ (iO [none,some 3] (gW (dW (iQ iy (dW (dX 3) d6)) d6)) (iA 0) (fS (eG (eW true) (eG gO (dX 1) (dX 0)) (cM (.int 0)))) (mB c)))))
  (kY (fS (eG (eW true) (dX 7) (gJ (lstM d6)))) (pW 1 (iz (l8 (dW (eG gO (dX 7) (cM (.int 0))) (dW (dX 3) d6))))) fM))))
def tZ(c:Cs):En->O:=(eQ (lg 1 (oB (lstM d6)))
  (eQ (rB (fY (dX 0)) (lj 2) (jX c))
  (fO (iQ iy (dW (dX 1) d6)))))
def fy(c:Cs):List T->M T:=kZ 1 8 (tZ c)
def vF(c:Cs):Pe->M T:=(eG gO (dX 1) (dX 0))
def lA(c:Cs):Pe->M T:=(k9 (eG gO (dX 1) (dX 0)) (λ_=>.ok none) (iP (dX 2)))
def px(c:Cs):Pe->M T:=(eG gO (dX 1) (dX 0))
def pC(c:Cs):Pe->M T:=(dX 0)
def xH(c:Cs):En->O:=(eQ (setO 3 (iz (eE (dW (gJ (iO [none,some 1] (fY (dX 2)) (iA 0) (λ_=>.ok true) (vF c))) d6) (fy c))))
  (eQ (kY (fS (eG (eW true) (eE (dW (gJ (iO [none,some 1,some 0] (fY (dX 2)) (iA 0) (λ_=>.ok true) (lA c))) d6) (fy c)) (dX 3))) (fO (cM .non)) fM)
  (eQ (setO 4 (iz (gJ (iO [none,some 3,some 1,some 2] (gW (dW (iQ iy (dW (dX 1) d6)) d6)) (iA 0) (fS (eG (eW false) (eE (dW (gJ (uO (gJ (iO [none,some 2] (fY (dX 3)) (iA 0) (λ_=>.ok true) (px c))) (gJ (lstM (dW (eG gO (dX 2) (dX 0)) d6))))) d6) (fy c)) (dX 1))) (pC c)))))
  (fO (l8 (dW (eG vG (dX 0) (dX 3)) (dW (iQ iG (dW (dX 4) d6)) d6)))))))
def ie(c:Cs):List T->M T:=kZ 3 5 (xH c)
def nj(c:Cs):Pe->M T:=(dX 0)
def vh(c:Cs):En->O:=(λa=>if a.length=5 then By (eE (dW (dX 0) (dW (dX 1) (dW (gJ (iO [none,some 3] (gW (dW (iQ iy (dW (dX 1) d6)) d6)) (iA 0) (fS (eG (eW false) (eG vo (eG CW (dX 1) (dX 0)) (cM (.int 1))) (cM (.int 1)))) (nj c))) d6))) (ie c)) (gW (dW (eG E5 (cM (.int 1)) (iQ iy (dW (dX 1) d6))) d6)) 2 3 4 a else .bad)
def jg(c:Cs):List T->M (List T):=vU 2 5 (vh c)
def lN(c:Cs):Pe->M T:=(eE (dW (dX 0) d6) (ji c))
def rC(c:Cs):En->O:=(eQ (kY (wU (ko (fS (nN "tuple" (dX 0)))) (wU (fS (eG (eW true) (iQ iy (dW (dX 0) d6)) (cM (.int 2)))) (ko (fS (nN "tuple" (eG gO (dX 0) (cM (.int 1)))))))) (fO (cM (.bl false))) fM)
  (fO (vL (eE (dW (eG gO (dX 0) (cM (.int 0))) d6) (ji c)) (iQ rA (dW (gJ (iO [none] (fY (eG gO (dX 0) (cM (.int 1)))) (iA 0) (λ_=>.ok true) (lN c))) d6)))))
def hU(c:Cs):List T->M T:=kZ 1 1 (rC c)
def sV(c:Cs):Pe->M T:=(eE (dW (eE (dW (dX 1) (dW (dX 0) d6)) (fH c)) (dW (cM (.int 6)) d6)) (gE c))
def se(c:Cs):Pe->M T:=(eE (dW (dX 0) d6) (hU c))
def rR(c:Cs):En->O:=(eQ (setO 4 (iz (gJ (E1 lO (dW (dX 3) d6)))))
  (eQ (lg 5 (oB (jr (dW (eE (dW (dX 2) (dW (dX 4) d6)) (gx c)) d6) (m4 c))))
  (eQ (kY (wU (ko (fS (nN "list" (dX 5)))) (wU (fS (eG (eW true) (dX 5) (gJ (jr (dW (dX 2) (dW (dX 3) d6)) (jg c))))) (fS (eG (eW true) (dX 4) (dX 3))))) (fO (cM (.bl false))) fM)
  (eQ (kY (ko (fS (iQ rA (dW (gJ (iO [none] (fY (dX 5)) (iA 0) (λ_=>.ok true) (se c))) d6)))) (fO (cM (.bl false))) fM)
  (tV 5)))))
def CS(c:Cs):En->O:=(eQ (setO 1 (iz (gJ (iO [none,some 0] (gW (dW (cM (.int 2)) d6)) (iA 0) (λ_=>.ok true) (sV c)))))
  (eQ (rB (fY (eG gH (dX 1) (k9 (dX 1) (λ_=>.ok none) (iP (cM (.int 1)))))) (lE 2 (f9 (lj 2) (f9 (lj 3) lR))) (rR c))
  (fO (cM (.bl true)))))
def mZ(c:Cs):List T->M T:=kZ 1 6 (CS c)
variable {c:Cs}
def wx ns (k:Nat):∃v,fH c [.scr ns,.int k]=.ok (.int v)/\(v=0\/v∈ns):=by
 by_cases h:(k:Int)<ns.length
 .obtain⟨a,e,b⟩:=ub ns k (by omega) h;exact⟨a,by simp[fH,j4,h,e],.inr b⟩
 .exact⟨0,by simp[fH,j4,h],.inl rfl⟩
def iu(h:i.natAbs<2 ^ 64):jI (.int i) (.int j)=.ok (.int (i*j)):=i8 (Ae h)
def DZ cell (k:Nat) b (z:0<b) (F:b<2 ^ 62) (I:k<=1000000):∃d,eP c [.int cell,.int (k:Int),.int b]=.ok (.int d)/\0<=d/\d<b:=by
 have f:b≠0:=by omega
 have B:∀x:Int,0<=x.fmod b/\x.fmod b<b:=λx=>⟨cJ x z,cK x z⟩;have l:DJ (.int 10) (.int 18)=.ok (.int 1000000000000000000):=by simp[DJ,gB]
 by_cases h:(1000000000000000000:Int)<=cell
 .obtain⟨s,e,v,w,rfl⟩:=jD (m:=lj 4) (g:=setO 3 (iz (eG qN (dX 3) (dX 2)))) (λ(i:Nat)=>T.int (i:Int)) (λ_ s=>∃v w,s=[some (.p (.int cell)),some (.p (.int k)),some (.p (.int b)),some (.p (.int v)),w,none])
   (List.range k) 0 [some (.p (.int cell)),some (.p (.int k)),some (.p (.int b)),some (.p (.int cell)),none,none] ⟨_,_,rfl⟩ (by rintro i a s K ⟨v,w,rfl⟩;have D:Builtin.divisionGoesByPylong v b=false:=Bn.noPy (n:=62) (by unfold Bn;omega) (by decide);exact⟨_,_,rfl,.inl (eT (by simp[qh f D];rfl) rfl),_,_,rfl⟩)
  refine⟨v.fmod b,fG rfl ?_,B v⟩;have r:Aw (k:Int)=true:=jB (by omega);refine jm (gA (by simp[l,h]) (ee (eT (by simp) rfl) (ee (lZ (by simp[r,DB]) e) (eX (by simp[mV f]))))) rfl
 .have u:∀x y:Int,0<y->0<=x.fmod y/\x.fmod y<y:=λx y A=>⟨cJ x A,cK x A⟩;have J:=u cell 1000000007 (by decide);have H:=u ((cell.fmod 1000000007+1009*k+17)*69621) 2147483647 (by decide);generalize o:((cell.fmod 1000000007+1009*k+17)*69621).fmod 2147483647=s1 at H;have E:=u (s1*s1+40503*k+5) 2147483629 (by decide);generalize q:(s1*s1+40503*k+5).fmod 2147483629=s2 at E;have C:Builtin.divisionGoesByPylong ((s2*48271).fmod 2147483647) 32=false:=Bn.noPy (n:=62) (by unfold Bn;decide) (by decide);refine⟨(((s2*48271).fmod 2147483647).fdiv 32).fmod b,fG rfl ?_,B _⟩;refine ee (gz (by simp[l,h]) rfl) (ee (eT (t:=.int s1) ?_ rfl) (ee (eT (t:=.int s2) ?_ rfl) (eX ?_)))
  .rw[<-o];simp[mV,iu (i:=1009) (j:=k) (by decide),iu (i:=cell.fmod 1000000007+1009*k+17) (j:=69621) (by omega)]
  .rw[<-q];simp[mV,iu (i:=40503) (j:=k) (by decide),iu (i:=s1) (j:=s1) (by omega)]
  .simp[mV,f,qh (j:=32) (by decide) C,iu (i:=s2) (j:=48271) (by omega)]
def dr(c:Cs)(a k b:Int):Int:=match eP c [.int a,.int k,.int b] with
 |.ok (.int d)=>d
 |_=>0
def ja cell k b (f:0<b) (a:b<2 ^ 62) (i:0<=k) (j:k<=1000000):eP c [.int cell,.int k,.int b]=.ok (.int (dr c cell k b))/\0<=dr c cell k b/\dr c cell k b<b:=by
 obtain⟨d,e,g,h⟩:=DZ cell k.toNat b f a (by omega);rw[Int.toNat_of_nonneg i]at e;have:dr c cell k b=d:=by unfold dr;rw[e]
 rw[this];exact⟨e,g,h⟩
def yA(l:LI)(i:Int)(f:0<=i)(d:i<l.length):∃w,gO (.lst (l.map T.int)) (.int i)=.ok (.int w)/\w∈l:=by obtain⟨a,e,b⟩:=ub l i f d;exact⟨a,by simp[kU,e],b⟩
def J0 i:(if i<0 then -i else i)=(i.natAbs:Int):=by split<;>omega
def nL a b:fJ c [.int a,.int b]=.ok (.int (Cu.G a b)):=by
 obtain⟨d,e,x,w,rfl,i⟩:=mO (c:=fS (eG (eW true) (dX 1) (cM (.int 0)))) (g:=eQ (setO 2 (iz (eG qA (dX 0) (dX 1)))) (eQ (setO 0 (iz (dX 1))) (setO 1 (iz (dX 2)))))
  (λd=>∃x y w,d=[some (.p (.int x)),some (.p (.int y)),w]/\Cu.G x y=Cu.G a b) (λd=>match d with|_::some (.p (.int j))::_=>j.natAbs|_=>0)
  (λd=>∃x w,d=[some (.p (.int x)),some (.p (.int 0)),w]/\Cu.G x 0=Cu.G a b) (by
   rintro d ⟨x,y,w,rfl,h⟩;by_cases f:y=0
   .subst f;exact .inl ⟨by simp,_,_,rfl,h⟩
   .refine .inr ⟨by simp[f],_,.inl (ee (eT (t:=.int (x.fmod y)) (by simp[mV f]) rfl) (ee (eT (by simp) rfl) (eT (by simp) rfl))),⟨y,x.fmod y,_,rfl,?_⟩,?_⟩
    .rw[<-h];exact Cu.HL x y
    .exact Cu.zq x y f)
  (b.natAbs+1) [some (.p (.int a)),some (.p (.int b)),none] ⟨a,b,none,rfl,rfl⟩ (bC _)
 refine fG rfl (ee e (eX ?_));rw[Cu.Cj]at i;simp[J0,i]
def Ey{t g:Int}(a:g ∣ t)(b:g≠0):(t.fdiv g).natAbs<=t.natAbs:=by obtain⟨k,rfl⟩:=a;rw[c8 k b,aY];exact Nat.le_mul_of_pos_left _ (by omega)
noncomputable def IJ:T->Bool
 |.scr _=>false
 |.obj _ _=>false
 |.dic _=>false
 |_=>true
noncomputable def isInt:T->Bool
 |.int _=>true
 |_=>false
def uW x (h:IJ x=true):gN c [x]=.ok (.bl (isInt x)):=by cases x<;>first|(simp[IJ]at h;done)|rfl
def Fp x (h:IJ x=true):GQ "tuple" x=.ok (.bl (nG x)):=by cases x<;>first|(simp[IJ]at h;done)|rfl
noncomputable def Ai(x:Int):Int:=if 0<x then 1 else if x<0 then -1 else 0
def zb x:-1<=Ai x/\Ai x<=1:=by unfold Ai;split<;>(try split)<;>lia
def xG x:kj c [.int x]=.ok (.int (Ai x)):=by
 unfold Ai;by_cases h:0<x
 .rw[aQ h];exact fG rfl (jm (gA (by simp[h]) (eX (by simp))) rfl)
 .rw[aR h];by_cases a:x<0
  .rw[aQ a];exact fG rfl (ee (gz (by simp[h]) rfl) (jm (gA (by simp[a]) (eX (by simp))) rfl))
  .rw[aR a];exact fG rfl (ee (gz (by simp[h]) rfl) (ee (gz (by simp[a]) rfl) (eX (by simp))))
def nT(bs:List Bool):rA [.lst (bs.map T.bl)]=.ok (.bl (bs.all id)):=by simp
def ua(bs:List Bool):mT [.lst (bs.map T.bl)]=.ok (.bl (bs.any id)):=by simp
noncomputable def mr(d:Nat):T->Bool
 |.tup ts=>decide (ts.length=d+1)&&ts.all isInt&&(match n6 ts with|some ns=>(ns.take d).any (· != 0)|none=>false)
 |_=>false
theorem uZ:∀ts,ts.all isInt=true->∃a:LI,ts=a.map T.int
 |[],_=>⟨[],rfl⟩
 |t::ts,h=>by
  rw[ck,bL]at h;obtain⟨a,e⟩:=uZ ts h.2;cases t with
  |int i=>exact⟨i::a,by rw[e];rfl⟩
  |_=>simp[isInt]at h
def zN(d:Nat)(q:d<=10) x (p:IJ x=true) (m:∀ts,x=.tup ts->ts.length<1000/\∀t∈ts,IJ t=true):j5 c [.int d,x]=.ok (.bl (mr d x)):=by
 have sz:1000<sizeLine:=by decide
 by_cases e:nG x=true
 .cases x with
  |tup ts=>
   obtain⟨r,k⟩:=m ts rfl;by_cases g:ts.length=d+1
   .have j:iO [none] (fY (dX 1)) (iA 0) (λ_=>.ok true) (oA c) (vw (e7 2 [.int d,.tup ts]))=.ok ((ts.map isInt).map T.bl):=by rw[t5 ts id (λt=>T.bl (isInt t)) (by simp) (by lia) λt e=>⟨_,rfl,rfl,by simp[oA,uW t (k t e)]⟩];simp
    have i:(L3.wU (L3.ko (fS (nN "tuple" (dX 1)))) (fS (eG (eW true) (iQ iy (dW (dX 1) d6)) (eG gH (dX 0) (cM (.int 1)))))) (vw (e7 2 [.int d,.tup ts]))=.ok false:=by simp[g]
    by_cases f:ts.all isInt=true
    .obtain⟨b,rfl⟩:=uZ ts f;have h:b.length=d+1:=by simpa using g
     have a:mr d (.tup (b.map T.int))=(b.take d).any (· != 0):=by simp[mr,h,f]
     rw[a];have o:iO [none] (fY (k9 (dX 1) (λ_=>.ok none) (iP (dX 0)))) (iA 0) (λ_=>.ok true) (oU c) (vw (e7 2 [.int d,.tup (b.map T.int)]))=.ok (((b.take d).map λn=>n != 0).map T.bl):=by rw[t5 (b.take d) T.int (λn=>T.bl (n != 0)) (AN (by rw[cT];exact qB rfl rfl (by simp;lia))) (by simp;lia) λn g=>⟨_,rfl,rfl,by simp[oU,bne]⟩];rw[aI];rfl
     refine fG rfl (ee (gz i rfl) (ee (gz (qO (eY (oY j (nT _))) ?_) rfl) (eX (oY o ?_))))
     .rw[cm];simpa using f
     .rw[ua,cn];rfl
    .have a:mr d (.tup ts)=false:=by simp[mr,f]
     rw[a];refine fG rfl (ee (gz i rfl) (jm (gA (qO (eY (oY j (nT _))) ?_) (eX rfl)) rfl));rw[cm];simpa using f
   .have a:mr d (.tup ts)=false:=by simp[mr,g]
    rw[a];refine fG rfl (jm (gA ?_ (eX rfl)) rfl);have:¬(ts.length=(d:Int)+1):=by lia
    simp[this]
  |_=>simp[nG]at e
 .have a:mr d x=false:=by cases x<;>first|rfl|(simp[nG]at e;done)
  rw[a];refine fG rfl (jm (gA ?_ (eX rfl)) rfl);have l:nG x=false:=by simpa using e
  have:=Fp x p;rw[l]at this;simp only[L3.wU,L3.ko,fS,nN,dX,vw,e7,bB,bS,List.cons_append,List.nil_append,List.getElem?_cons_succ,List.getElem?_cons_zero,K1,M.bind_ok,this];rfl
def GR(l:List α)(h:l≠[]):nh l (-1)=l.getLast?:=by obtain⟨m,a,rfl⟩:∃m a,l=m++[a]:=⟨l.dropLast,l.getLast h,(List.dropLast_concat_getLast h).symm⟩;rw[L2.Do];simp
def xO(d:Nat)(h:1<=d/\d<=3):jz c [.int d]=.ok (.bl true):=by
 have w:gN c [.int d]=.ok (.bl true):=rfl;have a:(1:Int)<=d:=by lia
 have b:(d:Int)<=3:=by lia
 exact fG rfl (eX (by simp[w,a,b]))
def Kn n:(List.replicate n [T.int 0]).flatten=(List.replicate n (0:Int)).map T.int:=by
 induction n with
 |zero=>rfl
 |succ n ih=>rw[bN,bO,ih,bN];rfl
def Jy(n:Nat)(e:n<=1000)(h:f ρ=.ok (.int (n:Int))):gJ (CJ (gJ (lstM (dW (cM (.int 0)) d6))) f) ρ=.ok (.lst ((List.replicate n (0:Int)).map T.int)):=by
 have sz:1000<sizeLine:=by decide
 have b:Aw n=true:=jB (by lia);have a:1<=sizeLine:=by decide
 have d:n<=sizeLine:=by lia
 simp[h,b,a,d,Kn]
end CL
namespace L3
open PySem L2
theorem mF{i:Type} enc (P:En->Prop) p t:∀(l:List i) (ρ:En),P ρ->
  (∀a∈l,∀ρ,P ρ->∃d,m (enc a) ρ=some d/\(p a=true->∃c,g d=.nx c/\P c)/\(p a=false->g d=.rt t))->
  (l.all p=true->∃ρ',fP m g (l.map enc) ρ=.nx ρ'/\P ρ')/\(l.all p=false->fP m g (l.map enc) ρ=.rt t)
 |[],ρ,h,_=>⟨λ_=>⟨ρ,rfl,h⟩,λh=>by simp at h⟩
 |a::l,ρ,h,st=>by
  obtain⟨d,j,n,k⟩:=st a (by simp) ρ h;rw[bB,fP,j];dsimp only;cases e:p a with
  |true=>obtain⟨c,s,o⟩:=n e;rw[s];have q:=mF enc P p t l c o λb f ρ r=>st b (by simp[f]) ρ r;rw[ck,e,Bool.true_and];exact q
  |false=>rw[k e,ck,e,Bool.false_and];exact⟨λz=>(by cases z),λ_=>rfl⟩
end L3
namespace CL
open PySem L2 L3
variable {c:Cs}
def G6:Bn (n+1) 1:=by unfold Bn;rw[cW];have:=c9 n;lia
def vP ns:n6 (ns.map T.int)=some ns:=by simp
end CL
namespace L3
open PySem L2
theorem vf{n:Type} enc (P:Nat->En->Prop) (R:T->Prop):∀(l:List n) (k:Nat) (ρ:En),P k ρ->
  (∀i a ρ,l[i]? = some a->P (k+i) ρ->∃d,m (enc a) ρ=some d/\((∃c,g d=.nx c/\P (k+i+1) c)\/∃t,g d=.rt t/\R t))->
  (∃ρ',fP m g (l.map enc) ρ=.nx ρ'/\P (k+l.length) ρ')\/∃t,fP m g (l.map enc) ρ=.rt t/\R t
 |[],k,ρ,h,_=>.inl ⟨ρ,rfl,h⟩
 |a::l,k,ρ,h,st=>by
  obtain⟨d,o,p⟩:=st 0 a ρ rfl h;rw[bB,fP,o];dsimp only;rcases p with⟨c,f,e⟩|⟨t,f,e⟩
  .rw[f];rw[az,show k+(l.length+1)=k+1+l.length by lia];exact vf enc P R l (k+1) c e λi b ρ j q=>by have:=st (i+1) b ρ (by simpa using j) (by rw[show k+(i+1)=k+1+i by lia];exact q);rw[show k+1+i+1=k+(i+1)+1 by lia];exact this
  .rw[f];exact .inr ⟨t,rfl,e⟩
end L3
namespace CL
open PySem L2 L3
variable {c:Cs}
def wB(l:List α)(k:Nat) h:nh l (k:Int)=some l[k]:=by unfold nh ui;rw[aQ (by lia),aQ (by lia)];simp[h]
def yL(l:LI) k (h:k<l.length):nh l (k:Int)=some (l.getD k 0):=by rw[wB l k h,af,ag h];rfl
def getD_mem(l:LI) k (h:k<l.length):l.getD k 0∈l:=by rw[af,ag h];exact aV h
def nM(l:LI) k (h:k<l.length):gO (.lst (l.map T.int)) (.int (k:Int))=.ok (.int (l.getD k 0)):=by simp[kU,yL l k h]
def iJ l (k:Nat) (h:k<l.length):gO (tI l) (.int (k:Int))=.ok (.int (l.getD k 0)):=by simp[tI,kU,yL l k h]
def FQ x xs:gO (.lst (x::xs)) (.int 0)=.ok x:=by have h:=wB (x::xs) 0 (by simp);have a:nh (x::xs) 0=some x:=h;show (match nh (x::xs) 0 with|some t=>M.ok t|none=>.bad)=_;rw[a]
def wk(a:Nat)(d b:LI):LI:=(b.zip d).map λp=>d.getD a 0*p.1-b.getD a 0*p.2
def pL a row here (h:row.length=here.length):(wk a row here).length=here.length:=by simp[wk,h]
def HD a row here (j:a<row.length) (l:row.length=here.length) (d:∀x∈row,Bn m x) (e:∀x∈here,Bn n x):∀x∈wk a row here,Bn (m+n+1) x:=λx k=>by obtain⟨p,b,rfl⟩:=aD.mp k;have h:=d _ (getD_mem row a j);have i:=e _ (getD_mem here a (by lia));have g:=e _ (aW b).1;have f:=d _ (aW b).2;exact ((h.mul g).sub (i.mul f)).mono (by lia)
def mW(p:Nat×LI):T:=.tup [.int (p.1:Int),.lst (p.2.map T.int)]
def Bk(j:Nat):Nat:=51*2 ^ j-1
def Fe j:Bk j+Bk j+1=Bk (j+1):=by unfold Bk;rw[cW];have:=c9 j;lia
def JW(h:j<=k):Bk j<=Bk k:=by unfold Bk;have:=cV (show 0<2 by decide) h;lia
def FY(m L:Nat)(a:List (Nat×LI)):Prop:=∀(j:Nat) (p:Nat×LI),a[j]? = some p->p.1<m/\p.2.length=L/\∀x∈p.2,Bn (Bk j) x
def mC(b:List (Nat×LI))(a:LI):LI:=b.foldl (λh p=>wk p.1 p.2 h) a
def Fy a (k:Nat):CW (.int a) (.int (k:Int))=.ok (.int (a / 2 ^ k)):=by simp[CW,gB]
def BH a b:vo (.int a) (.int b)=.ok (.int (Builtin.bitAnd a b)):=by simp[vo,gB]
def JS(e:f1 ρ=.ok a1)(f:f2 ρ=.ok a2)(d:f3 ρ=.ok a3)(b:f4 ρ=.ok a4)(a:f5 ρ=.ok a5):gJ (lstM (dW f1 (dW f2 (dW f3 (dW f4 (dW f5 d6)))))) ρ=.ok (.lst [a1,a2,a3,a4,a5]):=by
 have g:5<=sizeLine:=by decide
 simp only[gJ,lstM,dW,d6,e,f,d,b,a,M.bind_ok,uP,az,dc,g,if_true]
def Lc n (x:T):(List.replicate n [x]).flatten=List.replicate n x:=by
 induction n with
 |zero=>rfl
 |succ n ih=>rw[bN,bO,ih,bN];rfl
end CL
namespace CL
abbrev Vc:=Nat->Int
inductive Qs(P:Vc->Prop):Vc->Prop
 |of {x:Vc}:P x->Qs P x
 |zero:Qs P λ_=>0
 |lin {x y z:Vc} {s a b:Int}:Qs P x->Qs P y->s≠0->(∀i,s*z i=a*x i+b*y i)->Qs P z
def Qs.sub(h:∀x,P x->Qs P' x)(q:Qs P z):Qs P' z:=by
 induction q with
 |of p=>exact h _ p
 |zero=>exact .zero
 |lin _ _ s e i1 i2=>exact .lin i1 i2 s e
def Qs.mono(h:∀x,P x->P' x)(q:Qs P z):Qs P' z:=q.sub λx p=>.of (h x p)
def Qs.comb a b (c:Qs P x) (d:Qs P y):Qs P λi=>a*x i+b*y i:=.lin (s:=1) c d (by decide) λi=>by rw[de]
def JU(P:Vc->Prop)(r:Vc):Vc->Prop:=λx=>P x\/x=r
def Qs.split(q:Qs (JU P r) z):∃s a y,s≠0/\Qs P y/\∀i,s*z i=y i+a*r i:=by
 induction q with
 |of p=>
  rename_i x;rcases p with p|rfl
  .exact⟨1,0,x,by decide,.of p,λi=>by rw[de,dg,dh]⟩
  .exact⟨1,1,λ_=>0,by decide,.zero,λi=>by rw[dm]⟩
 |zero=>exact⟨1,0,λ_=>0,by decide,.zero,λi=>by simp⟩
 |lin _ _ hs e i1 i2=>
  rename_i x y z s a b _ _;obtain⟨d,f,j,n,k,l⟩:=i1;obtain⟨c,g,h,m,o,t⟩:=i2;refine⟨s*(d*c),a*c*f+b*d*g,_,dq hs (dq n m),k.comb (a*c) (b*d) o,λi=>?_⟩;calc s*(d*c)*z i=d*c*(s*z i):=by ac_rfl
   _=d*c*(a*x i+b*y i):=by rw[e]
   _=a*c*(d*x i)+b*d*(c*y i):=by rw[du];ac_rfl
   _=a*c*(j i+f*r i)+b*d*(h i+g*r i):=by rw[l,t]
   _=a*c*j i+b*d*h i+(a*c*f+b*d*g)*r i:=by simp only[du,Int.add_mul];ac_rfl
def Nd(P:Vc->Prop)(a:List Nat):Prop:=∀z,Qs P z->(∀p∈a,z p=0)->∀i,z i=0
def Nd.nil:Nd (λ_=>False) []:=λz q _=>by
 induction q with
 |of p=>exact p.elim
 |zero=>exact λ_=>rfl
 |lin _ _ hs e i1 i2=>
  intro i;have:=e i;rw[i1 (λp a=>nomatch a) i,i2 (λp a=>nomatch a) i,dw,dw,dh]at this;rcases dy.mp this with z|z
  .exact absurd z hs
  .exact z
def Nd.step(h:Nd P pl)(n:∀q∈pl,r q=0)(j:r p≠0):Nd (JU P r) (pl++[p]):=λz q f i=>by
 obtain⟨s,a,y,k,l,e⟩:=q.split;have g:∀q∈pl,y q=0:=λq d=>by have:=e q;rw[f q (ay _ d),n q d,dw,dw,dh]at this;exact this.symm
 have b:=h y l g;have c:=e p;rw[f p (bu _ (aj.mpr rfl)),b p,dw,dm]at c;have m:a=0:=by
  rcases dy.mp c.symm with z|z
  .exact z
  .exact absurd z j
 have:=e i;rw[b i,m,dg,dh]at this;rcases dy.mp this with z|z
 .exact absurd z k
 .exact z
def Nd.less(h:Nd P pl)(a:∀x,P' x->Qs P x):Nd P' pl:=λz q=>h z (q.sub a)
def Ck{v r y:Vc}(f:Nd P pl)(d:s≠0)(c:Qs P y)(e:∀i,r i=s*v i+a*y i)(g:∀p∈pl,r p=0):(∀i,r i=0)↔Qs P v:=by
 constructor
 .intro h;refine .lin (a:=-a) (b:=0) c .zero d λi=>?_;have:=e i;rw[h i]at this;rw[dw,dh,dz];lia
 .intro h;refine f r ?_ g;have:=funext e;rw[this];exact h.comb s a c
end CL
namespace CL
open PySem L2 L3
variable {c:Cs}
noncomputable def vc(l:LI):Vc:=λi=>l.getD i 0
def iB l i (h:l.length<=i):vc l i=0:=by unfold vc;rw[af,List.getElem?_eq_none h];rfl
def j8 l i h:vc l i=l[i]:=by unfold vc;rw[af,ag h];rfl
def HR a row here (h:row.length=here.length) i:vc (wk a row here) i=vc row a*vc here i-vc here a*vc row i:=by
 by_cases b:i<here.length
 .rw[j8 (wk a row here) i (by rw[pL a row here h];exact b),j8 here i b,j8 row i (by lia)];simp[wk,vc]
 .rw[iB _ i (by rw[pL a row here h];lia),iB here i (by lia),iB row i (by lia),dw,dw];rfl
def rH(a:List (Nat×LI)):Vc->Prop:=λx=>∃p∈a,x=vc p.2
def VP(vs:LL):Vc->Prop:=λx=>∃v∈vs,x=vc v
theorem rZ m P:∀d b,(∀p∈d,p.2.length=m/\P (vc p.2)/\vc p.2 p.1≠0)->b.length=m->d.Pairwise (λp q=>vc q.2 p.1=0)->
  ∃s y,s≠0/\Qs P y/\(∀i,vc (mC d b) i=s*vc b i+1*y i)/\(∀k,vc b k=0->(∀p∈d,vc p.2 k=0)->vc (mC d b) k=0)/\∀p∈d,vc (mC d b) p.1=0
 |[],b,_,_,_=>⟨1,λ_=>0,by decide,.zero,λi=>by show vc b i=1*vc b i+1*0;lia,λk g _=>g,λp f=>nomatch f⟩
 | (a,row)::d,b,hA,hl,hw=>by
  obtain⟨A,u,o⟩:=hA (a,row) (bh ..);obtain⟨v,r⟩:=c0.mp hw;have h:(wk a row b).length=m:=by rw[pL a row b (by lia),hl]
  have j:=HR a row b (by lia);obtain⟨s,y,z,w,e,n,x⟩:=rZ m P d (wk a row b) (λp f=>hA p (bj _ f)) h r;refine⟨s*vc row a,_,dq z o,(w.comb 1 (-(s*vc b a)) (.of u)),λi=>?_,λk g f=>?_,λp f=>?_⟩
  .show vc (mC d (wk a row b)) i=_;rw[e i,j i,Int.mul_sub,cY,dz,cL,cL,de,de];lia
  .refine n k ?_ λp l=>f p (bj _ l);have:=f (a,row) (bh ..);rw[j k,g,this,dw,dw];rfl
  .rcases aF.mp f with rfl|f
   .refine n _ ?_ λq t=>v q t;rw[j a,cN];lia
   .exact x p f
theorem yn x0 x1 x2 m (E:m<=20):∀d j b k l h f,j+d.length<=8->b.length=m->(∀x∈b,Bn (Bk j) x)->
  (∀i p,d[i]? = some p->p.1<m/\p.2.length=m/\∀x∈p.2,Bn (Bk (j+i)) x)->
  ∃q t s,fP (lE 2 (f9 (lj 4) (f9 (lj 5) lR))) (i7 c) (d.map mW) [x0,x1,x2,some (.p (.lst (b.map T.int))),k,l,h,f]=.nx [x0,x1,x2,some (.p (.lst ((mC d b).map T.int))),q,t,s,f]/\
   (mC d b).length=m/\∀x∈mC d b,Bn (Bk (j+d.length)) x
 |[],j,b,k,l,h,f,_,hl,hb,_=>⟨k,l,h,rfl,hl,hb⟩
 | (a,row)::d,j,b,k,l,h,f,hj,hl,hb,hA=>by
  obtain⟨J,A,g⟩:=hA 0 (a,row) rfl;rw[Nat.add_zero]at g;simp only[az]at hj;have sz:1000<sizeLine:=by decide
  have I:Bk j<=20000:=aN (JW (show j<=8 by lia)) (by decide);have o:(wk a row b).length=m:=by rw[pL a row b (by lia),hl]
  have r:∀x∈wk a row b,Bn (Bk (j+1)) x:=λx H=>(HD a row b (by lia) (by lia) g hb x H).mono (by rw[Fe];exact aK _);obtain⟨q,t,s,e,z,w⟩:=yn x0 x1 x2 m E d (j+1) (wk a row b) (some (.p (.int a))) (some (.p (.lst (row.map T.int)))) (some (.p (.int (b.getD a 0)))) f (by lia) o r λi p n=>by have:=hA (i+1) p (by simpa using n);rw[show j+1+i=j+(i+1) by lia];exact this
  refine⟨q,t,s,?_,z,by rw[az,show j+(d.length+1)=j+1+d.length by lia];exact w⟩;rw[bB,fP];have D:(lE 2 (f9 (lj 4) (f9 (lj 5) lR))) (mW (a,row)) [x0,x1,x2,some (.p (.lst (b.map T.int))),k,l,h,f]=some [x0,x1,x2,some (.p (.lst (b.map T.int))),some (.p (.int a)),some (.p (.lst (row.map T.int))),h,f]:=rfl;rw[D];have F:iO [none,none,some 6,some 5,some 4] (pG (dW (dX 3) (dW (dX 5) d6))) (nY 2 (gI (iA 0) (gI (iA 1) oQ))) (λ_=>.ok true) (mq c) (jG [x0,x1,x2,some (.p (.lst (b.map T.int))),some (.p (.int a)),some (.p (.lst (row.map T.int))),some (.p (.int (b.getD a 0))),f])=.ok ((wk a row b).map T.int):=iK (b.zip row) (λp=>T.tup [.int p.1,.int p.2]) (λp=>T.int (row.getD a 0*p.1-b.getD a 0*p.2)) (tj rfl rfl rfl rfl) (by simp;lia) (λp n=>⟨_,rfl,rfl,by have u:=hb _ (aW n).1;have C:=g _ (aW n).2;have y:=g _ (getD_mem row a (by lia));have v:=hb _ (getD_mem b a (by lia));exact ei (ei (ei rfl rfl (nM row a (by lia))) rfl (i8 (y.ok u (by lia) (by lia)))) (ei rfl rfl (i8 (v.ok C (by lia) (by lia)))) (qS _ _)⟩) (by unfold wk;rw[aI];rfl)
  have B:i7 c [x0,x1,x2,some (.p (.lst (b.map T.int))),some (.p (.int a)),some (.p (.lst (row.map T.int))),h,f]=.nx [x0,x1,x2,some (.p (.lst ((wk a row b).map T.int))),some (.p (.int a)),some (.p (.lst (row.map T.int))),some (.p (.int (b.getD a 0))),f]:=ee (eT (ei rfl rfl (nM b a (by lia))) rfl) (eT (f7 F) rfl)
  dsimp only;rw[B];exact e
def Kk(vs:LL)(j:Nat):Prop:=Qs (VP (vs.take j)) (vc (vs.getD j []))
structure qL(vs:LL)(m k:Nat)(ah:List (Nat×LI)):Prop where
 bd:FY m m ah
 nz:∀p∈ah,vc p.2 p.1≠0
 tri:ah.Pairwise (λp q=>vc q.2 p.1=0)
 nd:Nd (rH ah) (ah.map Prod.fst)
 sp:∀v∈vs.take k,Qs (rH ah) (vc v)
 ps:∀p∈ah,Qs (VP (vs.take k)) (vc p.2)
 le:ah.length<=k
 eq:ah.length=k↔∀j,j<k->¬Kk vs j
def iZ{a:Type}(l:List a) k v (h:l[k]? = some v):l.take (k+1)=l.take k++[v]:=by rw[List.take_succ,h];rfl
def DG{a:Type}(l:List a) k v w (h:l[k]? = some v):l.getD k w=v:=by rw[af,h];rfl
def VP.succ{vs:LL}(h:vs[k]? = some v) x (q:Qs (VP (vs.take k)) x):Qs (VP (vs.take (k+1))) x:=q.mono λz ⟨w,hw,e⟩=>⟨w,by rw[iZ vs k v h];exact ay _ hw,e⟩
def sx(h:FY m L ah)(b:p∈ah):p.1<m/\p.2.length=L:=by obtain⟨j,a⟩:=List.getElem?_of_mem b;exact⟨(h j p a).1,(h j p a).2.1⟩
def zy vs m k ah v (h:qL vs m k ah) (g:vs[k]? = some v) (N:v.length=m) (F:∀x∈mC ah v,Bn (Bk ah.length) x) (t:(mC ah v).length=m) :
  ((∀i,vc (mC ah v) i=0)->qL vs m (k+1) ah)/\∀j,j<m->vc (mC ah v) j≠0->qL vs m (k+1) (ah++[(j,mC ah v)]):=by
 obtain⟨s,y,E,u,e,P,D⟩:=rZ m (rH ah) ah v (λp d=>⟨(sx h.bd d).2,⟨p,d,rfl⟩,h.nz p d⟩) N h.tri;have o:∀q∈ah.map Prod.fst,vc (mC ah v) q=0:=λq n=>by obtain⟨p,d,rfl⟩:=aD.mp n;exact D p d
 have f:=Ck h.nd E u e o;have C:Kk vs k↔Qs (rH ah) (vc v):=by unfold Kk;rw[DG vs k v [] g];exact⟨λq=>q.sub λx ⟨w,hw,ex⟩=>by rw[ex];exact h.sp w hw,λq=>q.sub λx ⟨p,d,ex⟩=>by rw[ex];exact h.ps p d⟩
 generalize mC ah v=R at *;constructor
 .intro J;have n:=f.mp J;refine⟨h.bd,h.nz,h.tri,h.nd,λw hw=>?_,λp d=>VP.succ g _ (h.ps p d),by have:=h.le;lia,?_⟩
  .rw[iZ vs k v g]at hw;rcases ai.mp hw with q|q
   .exact h.sp w q
   .rw[aj.mp q];exact n
  .constructor
   .intro z;have:=h.le;lia
   .intro z;exact absurd (C.mpr n) (z k (by lia))
 .intro j L l;have r:¬Kk vs k:=λz=>l (f.mpr (C.mp z) j);have up:∀x,Qs (rH ah) x->Qs (rH (ah++[(j,R)])) x:=λx q=>q.mono λz ⟨p,d,ez⟩=>⟨p,ay _ d,ez⟩;have I:Qs (rH (ah++[(j,R)])) (vc R):=.of ⟨(j,R),bu _ (aj.mpr rfl),rfl⟩;refine⟨λi p d=>?_,λp d=>?_,?_,?_,λw hw=>?_,λp d=>?_,?_,?_⟩
  .rw[List.getElem?_append]at d;split at d
   .exact h.bd i p d
   .have A:i=ah.length:=by have:=(aa.mp d).1;simp at this;lia
    subst A;simp at d;subst d;exact⟨L,t,F⟩
  .rcases ai.mp d with q|q
   .exact h.nz p q
   .rw[aj.mp q];exact l
  .refine dA.mpr ⟨h.tri,cD _ _,λp d q n=>?_⟩;rw[aj.mp n];exact D p d
  .rw[aZ];refine (Nd.step h.nd o l).less λx ⟨p,d,ex⟩=>?_;rcases ai.mp d with q|q
   .exact .of (.inl ⟨p,q,ex⟩)
   .rw[aj.mp q]at ex;exact .of (.inr ex)
  .rw[iZ vs k v g]at hw;rcases ai.mp hw with q|q
   .exact up _ (h.sp w q)
   .rw[aj.mp q];exact .lin (a:=1) (b:=-1) I (up _ u) E λi=>by rw[e i];lia
  .rcases ai.mp d with q|q
   .exact VP.succ g _ (h.ps p q)
   .rw[aj.mp q];have H:Qs (VP (vs.take (k+1))) (vc v):=.of ⟨v,by rw[iZ vs k v g];exact bu _ (aj.mpr rfl),rfl⟩;have K:=u.sub λx ⟨p,d,ex⟩=>by rw[ex];exact VP.succ g _ (h.ps p d)
    exact .lin (s:=1) H K (by decide) λi=>by rw[de];exact e i
  .have:=h.le;simp;lia
  .rw[aT,bQ];constructor
   .intro z i A;by_cases B:i=k
    .rw[B];exact r
    .exact h.eq.mp (by lia) i (by lia)
   .intro z;rw[h.eq.mpr λi A=>z i (by lia)]
theorem jT m vs (hm:m<=4) (hn:vs.length<=8) (U:∀v∈vs,v.length=m/\∀x∈v,Bn 50 x) :
  ∃a:List (Nat×LI),fy c [.lst (vs.map tI)]=.ok (.int (a.length:Int))/\qL vs m vs.length a:=by
 have sz:1000<sizeLine:=by decide
 obtain⟨X,e,a,Z,S,B,F,H,h,rfl,A⟩:=jD (m:=lj 2) (g:=jX c) tI
  (λk X=>∃(a:List (Nat×LI)) (Z S B F H h:Oq W),X=[some (.p (.lst (vs.map tI))),some (.o (a.map mW)),Z,S,B,F,H,h]/\qL vs m k a)
  vs 0 _ ⟨[],none,none,none,none,none,none,rfl,(λj p f=>by simp at f),(λp f=>nomatch f),List.Pairwise.nil,(λz q=>Nd.nil z (q.mono λx ⟨p,f,_⟩=>nomatch f)),(λv U=>by simp at U),(λp f=>nomatch f),aK _,⟨λ_ j hj=>absurd hj (cU _),λ_=>rfl⟩⟩ (by
   rintro k v X hi ⟨a,Z,S,B,F,H,h,rfl,A⟩;rw[aG]at A ⊢;have hil:=(aa.mp hi).1;obtain⟨N,hvb⟩:=U v (av hi);have b:=A.le;have hrm:Aw (m:Int)=true:=jB (by lia);obtain⟨C,E,D,e3,n,w⟩:=yn (c:=c) (some (.p (.lst (vs.map tI)))) none (some (.p (tI v))) m (by lia) a 0 v B F H h (by lia) N (λx hx=>hvb x hx) λi p f=>by rw[aG];exact A.bd i p f
   rw[aG]at w;obtain⟨K,J⟩:=zy vs m k a v A hi N w n;generalize hR:mC a v=R at e3 n w K J;let left:List Nat:=(List.range m).filter λj=>R.getD j 0 != 0;have e4:iO [none,some 3] (gW (dW (iQ iy (dW (dX 3) d6)) d6)) (iA 0) (fS (eG (eW true) (eG gO (dX 1) (dX 0)) (cM (.int 0)))) (mB c) (jG [some (.p (.lst (vs.map tI))),some (.o (a.map mW)),some (.p (tI v)),some (.p (.lst (R.map T.int))),C,E,D,h])=.ok (left.map λ(j:Nat)=>T.int (j:Int)):=oI (List.range m) (λ(j:Nat)=>T.int (j:Int)) (λ(j:Nat)=>T.int (j:Int)) (λj=>R.getD j 0 != 0) (by simp[n,hrm,DB]) (by simp;lia) (λj hj=>⟨_,rfl,eY (ei (ei rfl rfl (nM R j (by have:=aS.mp hj;lia))) rfl (nR _ _)),λ_=>rfl⟩) rfl
   have l:lL (left.map λ(j:Nat)=>T.int (j:Int))=true:=kh _ _ λ_ _=>rfl;have u:mK (left.map λ(j:Nat)=>T.int (j:Int))<=90:=aN (kq _ 0 _ λ_ _=>aK _) (by decide);have d:fS (eG (eW true) (dX 7) (gJ (lstM d6))) (vw [some (.p (.lst (vs.map tI))),some (.o (a.map mW)),some (.p (tI v)),some (.p (.lst (R.map T.int))),C,E,D,some (.p (.lst (left.map λ(j:Nat)=>T.int (j:Int))))])=.ok (!left.isEmpty):=by refine eY (ei (x:=.lst (left.map λ(j:Nat)=>T.int (j:Int))) (y:=.lst []) rfl (by simp) ?_);rw[pN true _ l u];simp
   have Q:∀r,(kY (fS (eG (eW true) (dX 7) (gJ (lstM d6)))) (pW 1 (iz (l8 (dW (eG gO (dX 7) (cM (.int 0))) (dW (dX 3) d6))))) fM) [some (.p (.lst (vs.map tI))),some (.o (a.map mW)),some (.p (tI v)),some (.p (.lst (R.map T.int))),C,E,D,some (.p (.lst (left.map λ(j:Nat)=>T.int (j:Int))))]=r->
     jX c [some (.p (.lst (vs.map tI))),some (.o (a.map mW)),some (.p (tI v)),S,B,F,H,h]=r:=λr hr=>by
    refine ee (eT (t:=.lst (v.map T.int)) rfl rfl) (ee (ρ':=[some (.p (.lst (vs.map tI))),some (.o (a.map mW)),some (.p (tI v)),some (.p (.lst (R.map T.int))),C,E,D,h]) (Ah (us:=a.map mW) rfl ?_) (ee (eT (t:=.lst (left.map λ(j:Nat)=>T.int (j:Int))) (f7 e4) rfl) hr));show yh 1 (a.map mW) (fP (lE 2 (f9 (lj 4) (f9 (lj 5) lR))) (i7 c) (a.map mW) [some (.p (.lst (vs.map tI))),none,some (.p (tI v)),some (.p (.lst (v.map T.int))),B,F,H,h])=_;rw[e3];rfl
   cases b:left with
   |nil=>
    refine⟨_,_,rfl,.inl (Q _ (gz (by rw[d,b];rfl) rfl)),a,_,_,_,_,_,_,rfl,K λi=>?_⟩;by_cases him:i<m
    .refine aO λhc=>?_;have:i∈left:=aU.mpr ⟨aS.mpr him,by simpa[vc] using hc⟩;rw[b]at this;exact nomatch this
    .exact iB R i (by lia)
   |cons s js=>
    have P:s∈left:=by rw[b];exact bh ..
    have L:s<m:=aS.mp (aU.mp P).1;have I:vc R s≠0:=by have:=(aU.mp P).2;simpa[vc] using this
    have Y:2<=sizeLine:=by decide
    have i0:eG gO (dX 7) (cM (.int 0)) (jG [some (.p (.lst (vs.map tI))),some (.o (a.map mW)),some (.p (tI v)),some (.p (.lst (R.map T.int))),C,E,D,some (.p (.lst (left.map λ(j:Nat)=>T.int (j:Int))))])=.ok (.int (s:Int)):=ei rfl rfl (by rw[b];exact FQ _ _);have i4:dX 3 (jG [some (.p (.lst (vs.map tI))),some (.o (a.map mW)),some (.p (tI v)),some (.p (.lst (R.map T.int))),C,E,D,some (.p (.lst (left.map λ(j:Nat)=>T.int (j:Int))))])=.ok (.lst (R.map T.int)):=rfl;refine⟨_,_,rfl,.inl (Q _ (gA (by rw[d,b];rfl) (um (t:=mW (s,R)) rfl ?_ (by simp;lia) rfl))),a++[(s,R)],_,_,_,_,_,_,by rw[aZ];rfl,J s L I⟩;simp only[l8,dW,d6,i0,i4,M.bind_ok,uP,az,dc,Y,if_true];rfl)
 rw[aG]at A;refine⟨a,fG rfl (ee (mH (ts:=[]) (by simp) rfl) (ee (lK rfl e) (eX (kC rfl ?_)))),A⟩;simp
def Il(h:f ρ=.ok (.int i)):Gd (λi=>.int (-i)) f ρ=.ok (.int (-i)):=by simp only[Gd,h,M.bind_ok]
def xV:Bn n 0:=by unfold Bn;exact c9 _
def zW N (F:N<=8000) row (J:row.length<1000) (n:∀x∈row,Bn N x):∃g o,0<g/\lx c [tI row]=.ok (tI o)/\o.length=row.length/\(∀i,vc row i=g*vc o i)/\∀y∈o,Bn N y:=by
 have sz:1000<sizeLine:=by decide
 have main:=vf (m:=lj 2) (g:=sk c) T.int
  (λk w=>∃(a:Int) (s:Oq W),w=[some (.p (tI row)),some (.p (.int a)),s]/\0<=a/\Bn N a/\∀x∈row.take k,a ∣ x)
  (λt=>t=tI row) row 0 _ ⟨0,none,rfl,by decide,xV,λx l=>by simp at l⟩ (by
   rintro i x w d ⟨a,s,rfl,D,r,b⟩;rw[aG]at b ⊢;have u:=av d;refine⟨_,rfl,?_⟩;have v:setO 1 (iz (eE (dW (dX 1) (dW (dX 2) d6)) (fJ c))) [some (.p (tI row)),some (.p (.int a)),some (.p (.int x))]=.nx [some (.p (tI row)),some (.p (.int (Cu.G a x))),some (.p (.int x))]:=eT (lH rfl rfl (nL a x)) rfl;by_cases h:Cu.G a x=1
   .right;exact⟨_,ee v (gA (eY (ei rfl rfl (by rw[fE,h];rfl))) (eX rfl)),rfl⟩
   .left;refine⟨_,ee v (gz (eY (ei rfl rfl (by rw[fE];simp[h]))) rfl),_,_,rfl,Cu.qx _ _,?_,λz A=>?_⟩
    .by_cases f:x=0
     .rw[f,Cu.Cj];exact cz (by lia) r
     .have H:=Cu.KC a x f;have I:=Cu.qx a x;exact cz (by lia) (n x u)
    .rw[iZ row i x d]at A;rcases ai.mp A with q|q
     .exact Int.dvd_trans (Cu.wq a x) (b z q)
     .rw[aj.mp q];exact Cu.oZ a x)
 rcases main with⟨B,e,a,s,rfl,D,r,b⟩|⟨t,e,rfl⟩
 .rw[aG,dB]at b;by_cases j:a=0
  .exact⟨1,row,by decide,fG rfl (ee (eT rfl rfl) (ee (lK rfl e) (jm (gA (eY (ei rfl rfl (by rw[fE,j];rfl))) (eX rfl)) rfl))),rfl,λi=>by rw[de],n⟩
  .refine⟨a,row.map (λx=>x.fdiv a),by lia,fG rfl (ee (eT rfl rfl) (ee (lK rfl e) (ee (gz (eY (ei rfl rfl (by rw[fE];simp[j]))) rfl) (eX ?_)))),by simp,λi=>?_,λy E=>?_⟩
   .exact kC (f7 (iK row T.int (λx=>T.int (x.fdiv a)) rfl (by lia) (λx l=>⟨_,rfl,rfl,ei rfl rfl (qh j (r.noPy F))⟩) (by rw[aI];rfl))) rfl
   .by_cases d:i<row.length
    .rw[j8 row i d,j8 _ i (by simpa using d),List.getElem_map];obtain⟨q,C⟩:=b _ (aV d);rw[C,c8 q j]
    .rw[iB row i (by lia),iB _ i (by simp;lia),dw]
   .obtain⟨x,l,rfl⟩:=aD.mp E;exact cz (Ey (b x l) j) (n x l)
 .exact⟨1,row,by decide,fG rfl (ee (eT rfl rfl) (jm (lK rfl e) rfl)),rfl,λi=>by rw[de],n⟩
def Aa{g x:Int}(a:g≠0)(h:g*x=0):x=0:=by
 rcases dy.mp h with z|z
 .exact absurd z a
 .exact z
def Ez o:Ai o*o=(o.natAbs:Int):=by
 unfold Ai;split
 .rw[de];lia
 .split
  .rw[dz,de];lia
  .rw[dg];lia
def jR(p:Nat×LI):T:=.tup [.int (p.1:Int),tI p.2]
noncomputable def sm:Nat->(Nat->Int)->Int
 |0,_=>0
 |n+1,f=>f 0+sm n λi=>f (i+1)
theorem fX:∀n f g,(∀i,i<n->f i=g i)->sm n f=sm n g
 |0,_,_,_=>rfl
 |n+1,f,g,h=>by rw[sm,sm,h 0 (by lia),fX n _ _ λi a=>h (i+1) (by lia)]
theorem Br a b:∀n f g,sm n (λi=>a*f i+b*g i)=a*sm n f+b*sm n g
 |0,_,_=>by simp[sm]
 |n+1,f,g=>by rw[sm,sm,sm,Br a b n (λi=>f (i+1)) λi=>g (i+1),du,du];lia
theorem tw a:∀n f,sm n (λi=>a*f i)=a*sm n f
 |0,_=>by simp[sm]
 |n+1,f=>by rw[sm,sm,tw a n λi=>f (i+1),du]
theorem kD:∀n:Nat,sm n (λ_=>0)=0
 |0=>rfl
 |n+1=>by rw[sm,kD n];rfl
theorem Bq:∀(n k:Nat) (f:Nat->Int),k<n->sm n (λi=>(if i=k then 1 else 0)*f i)=f k
 |0,k,f,h=>absurd h (cU _)
 |n+1,0,f,h=>by rw[sm,aQ rfl,de,fX n _ (λ_=>0) (λi _=>by rw[aR (by lia),dg]),kD,dh]
 |n+1,k+1,f,h=>by rw[sm,aR (by lia),dg,dm,fX n _ (λi=>(if i=k then 1 else 0)*f (i+1)) (λi _=>by simp),Bq n k (λi=>f (i+1)) (by lia)]
theorem qs:∀(m:Nat) (l:List Nat),l.Nodup->(∀x∈l,x<m)->l.length<=m
 |0,[],_,_=>aK _
 |0,x::l,_,h=>absurd (h x (bh ..)) (cU _)
 |m+1,l,hn,h=>by
  have a:=qs m (l.erase m) (hn.erase m) λx d=>by have q:=(hn.mem_erase_iff).mp d;have:=h x q.2;have:=q.1;lia
  by_cases b:m∈l
  .rw[dC b]at a;lia
  .rw[List.erase_of_not_mem b]at a;lia
def tJ(f:fa ρ=.ok (.lst a))(d:fb ρ=.ok (.lst b))(e:a.length+b.length<=sizeLine):uO fa fb ρ=.ok (a++b):=by simp only[uO,f,d,M.bind_ok];rw[aQ e]
def Jj(h:f ρ=.ok a):gJ (lstM (dW f d6)) ρ=.ok (.lst [a]):=by
 have b:1<=sizeLine:=by decide
 simp only[gJ,lstM,dW,d6,h,M.bind_ok,uP,az,dc,b,if_true]
def y9(h:f ρ=.ok a)(d:g ρ=.ok b):l8 (dW f (dW g d6)) ρ=.ok (.tup [a,b]):=by
 have e:2<=sizeLine:=by decide
 simp only[l8,dW,d6,h,d,M.bind_ok,uP,az,dc,e,if_true]
def rl(pv:List (Nat×LI)) left (a:Nat) (f:Nat×LI->LI) (g:pv.length<=100) (b:∀p∈pv,gR c [tI p.2,tI left,.int (a:Int)]=.ok (tI (f p))) :
  gU c [.lst (pv.map jR),tI left,.int (a:Int)]=.ok ((pv.map (λp=>(p.1,f p))++[(a,left)]).map jR):=by
 have sz:1000<sizeLine:=by decide
 have d:iO [none,none,some 1,some 2] (fY (dX 0)) (nY 2 (gI (iA 0) (gI (iA 1) oQ))) (λ_=>.ok true) (my c) (vw (e7 3 [.lst (pv.map jR),tI left,.int a]))=.ok ((pv.map (λp=>(p.1,f p))).map jR):=iK pv jR (λp=>jR (p.1,f p)) rfl (by lia) (λp e=>⟨_,rfl,rfl,y9 rfl (jN rfl rfl rfl (b p e))⟩) (by rw[aI];rfl)
 refine BP rfl (ym ?_);rw[aZ];exact tJ (f7 d) (Jj (y9 rfl rfl)) (by simp;lia)
def oO{e d:Type}[Inhabited d]{P:e->d->Prop}(l:List e)(h:∀a∈l,∃b,P a b):∃f:e->d,∀a∈l,P a (f a):=⟨λa=>Classical.epsilon λb=>P a b,λa g=>Classical.epsilon_spec (h a g)⟩
end CL
namespace CL
noncomputable def i9(m:Nat)(A u:Vc):Int:=sm m λi=>A i*u i
def yU(h:∀i,s*z i=a*x i+b*y i):s*i9 m A z=a*i9 m A x+b*i9 m A y:=by
 unfold i9;rw[<-tw,<-Br];refine fX m _ _ λi _=>?_;have:=h i;calc s*(A i*z i)=A i*(s*z i):=by rw[Int.mul_left_comm]
  _=A i*(a*x i+b*y i):=by rw[this]
  _=a*(A i*x i)+b*(A i*y i):=by grind
theorem nI m:∀(f:List Vc) (T:List Nat),T.Nodup->(∀t∈T,t<m)->f.length<T.length->∃v:Vc,(∃i,v i≠0)/\(∀i,i∉T->v i=0)/\∀A∈f,i9 m A v=0
 |[],T,nd,ht,hl=>by
  cases T with
  |nil=>cases hl
  |cons t T=>refine⟨λi=>if i=t then 1 else 0,⟨t,by simp⟩,λi g=>?_,λA l=>nomatch l⟩;have:i≠t:=λz=>g (by simp[z]);simp[this]
 |A::f,T,nd,ht,hl=>by
  cases T with
  |nil=>cases hl
  |cons t T=>
   obtain⟨E,q⟩:=bG.mp nd;have h:f.length<T.length:=by simp at hl;exact hl
   obtain⟨d,⟨j,u⟩,o1,D⟩:=nI m f T q (λx r=>ht x (by simp[r])) h;have o:j∈T:=aO λz=>u (o1 j z);have p:f.length<((t::T).erase j).length:=by have F:j∈t::T:=bj _ o;rw[dC F,az];exact h
   obtain⟨c,⟨k,C⟩,o2,w⟩:=nI m f ((t::T).erase j) (nd.erase j) (λx r=>ht x (dD r)) p;have n:c j=0:=o2 j (λz=>by rw[List.Nodup.mem_erase_iff nd]at z;exact z.1 rfl);by_cases l:i9 m A c=0
   .exact⟨c,⟨k,C⟩,λi g=>o2 i (λz=>g (dD z)),λB e=>by
     rcases aF.mp e with rfl|e
     .exact l
     .exact w B e⟩
   .refine⟨λi=>i9 m A c*d i-i9 m A d*c i,⟨j,?_⟩,λi g=>?_,λB e=>?_⟩
    .dsimp only;rw[n];simp[l,u]
    .show i9 m A c*d i-i9 m A d*c i=0;rw[o1 i (λz=>g (by simp[z])),o2 i (λz=>g (dD z))];simp
    .have:=yU (m:=m) (A:=B) (x:=d) (y:=c) (z:=λi=>i9 m A c*d i-i9 m A d*c i) (s:=1) (a:=i9 m A c) (b:=-i9 m A d) (λi=>by grind);rcases aF.mp e with rfl|e
     .rw[de]at this;rw[this];grind
     .rw[D B e,w B e]at this;simpa using this
end CL
namespace CL
open PySem L2 L3
variable {c:Cs}
def uK N M row other a (A:a<row.length) (Z:other.length=row.length) (hs:row.length<1000) (U:N+M+1<=8000) (j:∀x∈row,Bn N x) (m:∀x∈other,Bn M x) (X:vc other a≠0) :
  ∃r,gR c [tI row,tI other,.int (a:Int)]=.ok (tI r)/\r.length=row.length/\(∀x∈r,Bn (N+M+1) x)/\vc r a=0/\∃g s b:Int,0<g/\0<s/\(∀i,g*vc r i=s*vc row i+b*vc other i)/\(vc row a≠0->s=((vc other a).natAbs:Int)/\b = -vc row a*Ai (vc other a)):=by
 have sz:1000<sizeLine:=by decide
 have u:gO (tI row) (.int (a:Int))=.ok (.int (vc row a)):=iJ row a A;have B:gO (tI other) (.int (a:Int))=.ok (.int (vc other a)):=iJ other a (by lia);have v:Bn N (vc row a):=j _ (getD_mem row a A);have F:Bn M (vc other a):=m _ (getD_mem other a (by lia));by_cases k:vc row a=0
 .exact⟨row,fG rfl (jm (gA (eY (ei (ei rfl rfl u) rfl (by rw[fE,k];rfl))) (eX rfl)) rfl),rfl,λx Y=>(j x Y).mono (by lia),k,1,1,0,by decide,by decide,λi=>by lia,λz=>absurd k z⟩
 .generalize I:vc other a=o at *;generalize S:vc row a=x0 at *;have H:zF [.int o]=.ok (.int (o.natAbs:Int)):=by simp[J0]
  let w:Int:=-x0*Ai o;have J:=zb o;have C:Bn N w:=by
   refine cz ?_ v;show (-x0*Ai o).natAbs<=_;rw[aY,Int.natAbs_neg];have:(Ai o).natAbs<=1:=by lia
   exact aN (Nat.mul_le_mul_left _ this) (by lia)
  have D:Bn M (o.natAbs:Int):=cz (by lia) F;let d:LI:=(row.zip other).map λp=>(o.natAbs:Int)*p.1+w*p.2;have K:d.length=row.length:=by simp[d,Z]
  have q:∀y∈d,Bn (N+M+1) y:=λy Q=>by obtain⟨p,f,rfl⟩:=aD.mp Q;exact ((D.mul (j _ (aW f).1)).add (C.mul (m _ (aW f).2))).mono (by lia)
  have e:∀i,vc d i=(o.natAbs:Int)*vc row i+w*vc other i:=λi=>by
   by_cases R:i<row.length
   .rw[j8 d i (by lia),j8 row i R,j8 other i (by lia)];simp[d]
   .rw[iB d i (by lia),iB row i (by lia),iB other i (by lia),dw,dw];rfl
  obtain⟨g,r,L,E,P,h,l⟩:=zW (c:=c) (N+M+1) U d (by lia) q;refine⟨r,fG rfl (ee (gz (eY (ei (ei rfl rfl u) rfl (by rw[fE];simp[k]))) rfl) (ee (eT (t:=.int (o.natAbs:Int)) (kC (ei rfl rfl B) H) rfl) (ee (eT (t:=.int w) ?_ rfl) (eX (mz (x:=tI d) ?_ E))))),by lia,l,?_,g,(o.natAbs:Int),w,L,by lia,λi=>by rw[<-h i,e i],λ_=>⟨rfl,rfl⟩⟩
  .refine ei (x:=.int (-x0)) (y:=.int (Ai o)) ?_ (mz (ei rfl rfl B) (xG o)) (i8 ((v.neg).ok (n:=2) ?_ (by lia) (by decide)))
   .exact Il (ei rfl rfl u)
   .unfold Bn;show _<4;lia
  .refine kC (t:=.lst (d.map T.int)) (f7 (iK (row.zip other) (λp=>T.tup [.int p.1,.int p.2]) (λp=>T.int ((o.natAbs:Int)*p.1+w*p.2)) (tj rfl rfl rfl rfl) (by simp;lia) (λp f=>⟨_,rfl,rfl,?_⟩) (by rw[aI];rfl))) rfl;exact ei (ei rfl rfl (i8 (D.ok (j _ (aW f).1) (by lia) (by lia)))) (ei rfl rfl (i8 (C.ok (m _ (aW f).2) (by lia) (by lia)))) (gh _ _)
  .refine Aa (g:=g) (by lia) ?_;rw[<-h a,e a,I,S];show _ + -x0*Ai o*o=_;rw[cL,Ez,dz,cN x0];lia
theorem mn P x1 L M (hL:L<1000):∀(pv:List (Nat×LI)) (b:LI) (N:Nat) (j h:Oq W),N+pv.length*(M+1)<=8000->b.length=L->(∀x∈b,Bn N x)->(∀p∈pv,p.1<L/\p.2.length=L/\vc p.2 p.1≠0/\(∀x∈p.2,Bn M x)/\P (vc p.2))->pv.Pairwise (λp q=>vc q.2 p.1=0)->
  ∃r w B,fP (lE 2 (f9 (lj 2) (f9 (lj 3) lR))) (mN c) (pv.map jR) [some (.p (tI b)),x1,j,h]=.nx [some (.p (tI r)),x1,w,B]/\r.length=L/\(∀x∈r,Bn (N+pv.length*(M+1)) x)/\
   (∃g s y,0<g/\0<s/\Qs P y/\∀i,g*vc r i=s*vc b i+1*y i)/\(∀k,vc b k=0->(∀p∈pv,vc p.2 k=0)->vc r k=0)/\∀p∈pv,vc r p.1=0
 |[],b,N,j,h,_,hl,hb,_,_=>⟨b,j,h,rfl,hl,λx F=>(hb x F).mono (by lia),⟨1,1,λ_=>0,by decide,by decide,.zero,λi=>by lia⟩,λk o _=>o,λp d=>nomatch d⟩
 | (a,prow)::pv,b,N,j,h,hN,hl,hb,hA,hw=>by
  obtain⟨h1,h2,J,h4,Y⟩:=hA (a,prow) (bh ..);obtain⟨w1,K⟩:=c0.mp hw;rw[az,bR]at hN;obtain⟨n,R,X,Z,U,f,D,Q,E,m,I,_⟩:=uK N M b prow a (by lia) (by lia) (by lia) (by lia) hb h4 J;obtain⟨r,w,B,e,C,u,⟨z,l,y,v,t,hy,v2⟩,H,z2⟩:=mn P x1 L M hL pv n (N+M+1) (some (.p (.int a))) (some (.p (tI prow))) (by lia) (by rw[X,hl]) Z (λp d=>hA p (bj _ d)) K;refine⟨r,w,B,?_,C,λx F=>(u x F).mono (by rw[az,bR];lia),⟨f*z,l*D,_,Int.mul_pos E v,Int.mul_pos t m,Qs.comb (l*Q) f (.of Y) hy,λi=>?_⟩,λk o d=>?_,λp d=>?_⟩
  .rw[bB,fP];have D:(lE 2 (f9 (lj 2) (f9 (lj 3) lR))) (jR (a,prow)) [some (.p (tI b)),x1,j,h]=some [some (.p (tI b)),x1,some (.p (.int a)),some (.p (tI prow))]:=rfl;rw[D];have l:mN c [some (.p (tI b)),x1,some (.p (.int a)),some (.p (tI prow))]=.nx [some (.p (tI n)),x1,some (.p (.int a)),some (.p (tI prow))]:=eT (jN rfl rfl rfl R) rfl;dsimp only;rw[l];exact e
  .calc f*z*vc r i=f*(z*vc r i):=by ac_rfl
    _=l*(f*vc n i)+f*y i:=by rw[v2 i,de,du];congr 1;ac_rfl
    _=_:=by rw[I i,du];simp only[de,cL,Int.add_assoc]
  .refine H k (Aa (g:=f) (by lia) ?_) λp A=>d p (bj _ A);have:=d (a,prow) (bh ..);dsimp only at this;rw[I k,o,this,dw,dw];rfl
  .rcases aF.mp d with rfl|d
   .exact H _ U λq S=>w1 q S
   .exact z2 p d
def vH P L M N (k:L<1000) (pv:List (Nat×LI)) row (l:N+pv.length*(M+1)<=8000) (m:row.length=L) (a:∀x∈row,Bn N x) (h:∀p∈pv,p.1<L/\p.2.length=L/\vc p.2 p.1≠0/\(∀x∈p.2,Bn M x)/\P (vc p.2)) (hw:pv.Pairwise (λp q=>vc q.2 p.1=0)) :
  ∃r:LI,gC c [tI row,.lst (pv.map jR)]=.ok (tI r)/\r.length=L/\(∀x∈r,Bn (N+pv.length*(M+1)) x)/\
   (∃g s y,0<g/\0<s/\Qs P y/\∀i,g*vc r i=s*vc row i+1*y i)/\∀p∈pv,vc r p.1=0:=by
 obtain⟨r,n,o,e,f,d,b,-,j⟩:=mn P (some (.p (.lst (pv.map jR)))) L M k pv row N none none l m a h hw;exact⟨r,fG rfl (ee (lK rfl e) (eX rfl)),f,d,b,j⟩
noncomputable def Pq(B:Nat):Nat->Nat
 |0=>0
 |k+1=>Pq B k+(B+k*(Pq B k+1))+1
def Eh B k:Pq B k<=Pq B (k+1):=by show _<=Pq B k+(B+k*(Pq B k+1))+1;lia
def FW(h:k<=d):Pq B k<=Pq B d:=by
 induction h with
 |refl=>exact aK _
 |step _ ih=>exact aN ih (Eh B _)
structure K3(d B:Nat):Prop where
 b1:1<=B
 le:∀k,k<=d->B+k*(Pq B k+1)<=8000
 pq:Pq B d<=8000
structure PP(d B:Nat)(rows:LL)(pv:List (Nat×LI))(rs:LL):Prop where
 pl:∀p∈pv,p.1<d/\p.2.length=d+1/\vc p.2 p.1≠0/\(∀x∈p.2,Bn (Pq B pv.length) x)/\Qs (VP rows) (vc p.2)
 pw:pv.Pairwise λp q=>p.1≠q.1/\vc q.2 p.1=0/\vc p.2 q.1=0
 rr:∀r∈rs,r.length=d+1/\(∀k,k<d->vc r k=0)/\Qs (VP rows) (vc r)
 sp:∀r∈rows,Qs (λx=>(∃p∈pv,x=vc p.2)\/∃r∈rs,x=vc r) (vc r)
section
variable {d B:Nat}{rows rs:LL}{pv:List (Nat×LI)}{row left:LI}{g s:Int}{y:Vc}
def PP.short(h:PP d B rows pv rs):pv.length<=d:=by
 have:=qs d (pv.map Prod.fst) (cF.mpr (h.pw.imp λq=>q.1)) λx b=>by obtain⟨p,a,rfl⟩:=aD.mp b;exact (h.pl p a).1
 simpa using this
def lU{x:Vc}(q:Qs (VP rows) x):Qs (VP (rows++[row])) x:=q.mono λz ⟨w,hw,e⟩=>⟨w,ay _ hw,e⟩
def pK(h:PP d B rows pv rs)(b:0<g)(a:Qs (rH pv) y)(e:∀i,g*vc left i=s*vc row i+1*y i):Qs (VP (rows++[row])) (vc left):=.lin (.of ⟨row,bu _ (aj.mpr rfl),rfl⟩) (a.sub λx ⟨p,hp,ex⟩=>by rw[ex];exact lU (h.pl p hp).2.2.2.2) (by lia) e
def EB(h:PP d B rows pv rs)(o:0<g)(w:0<s)(l:Qs (rH pv) y)(e:∀i,g*vc left i=s*vc row i+1*y i)(v:left.length=d+1)(n:∀k,k<d->vc left k=0):PP d B (rows++[row]) pv (rs++[left]):=by
 have up:∀{x:Vc},Qs (λx=>(∃p∈pv,x=vc p.2)\/∃r∈rs,x=vc r) x->Qs (λx=>(∃p∈pv,x=vc p.2)\/∃r∈rs++[left],x=vc r) x:=λq=>q.mono λz t=>t.imp id λ⟨r,f,ez⟩=>⟨r,ay _ f,ez⟩;refine⟨λp j=>?_,h.pw,λr f=>?_,λr f=>?_⟩
 .obtain⟨a,b,u,m,q⟩:=h.pl p j;exact⟨a,b,u,m,lU q⟩
 .rcases ai.mp f with q|q
  .obtain⟨a,b,q⟩:=h.rr r q;exact⟨a,b,lU q⟩
  .rw[aj.mp q];exact⟨v,n,pK h o l e⟩
 .rcases ai.mp f with q|q
  .exact up (h.sp r q)
  .rw[aj.mp q];exact .lin (a:=g) (b:=-1) (.of (.inr ⟨left,bu _ (aj.mpr rfl),rfl⟩)) (l.mono λx ⟨p,j,ex⟩=>.inl ⟨p,j,ex⟩) (show s≠0 by lia) λi=>by rw[e i];lia
def Dd(h:PP d B rows pv rs)(L:0<g)(hs:0<s)(F:Qs (rH pv) y)(e:∀i,g*vc left i=s*vc row i+1*y i)(Y:left.length=d+1)(C:∀p∈pv,vc left p.1=0)(P:∀x∈left,Bn (B+pv.length*(Pq B pv.length+1)) x){j:Nat}(S:j<d)(N:vc left j≠0)
  (f:Nat×LI->LI) (D:∀p∈pv,(f p).length=p.2.length/\(∀x∈f p,Bn (Pq B (pv.length+1)) x)/\vc (f p) j=0/\∃g s b:Int,0<g/\0<s/\∀i,g*vc (f p) i=s*vc p.2 i+b*vc left i):PP d B (rows++[row]) (pv.map (λp=>(p.1,f p))++[(j,left)]) rs:=by
 have U:(pv.map (λp=>(p.1,f p))++[(j,left)]).length=pv.length+1:=by simp
 have at_:∀p∈pv,∀q∈pv,vc p.2 q.1=0->vc (f p) q.1=0:=λp l q o z=>by obtain⟨_,_,_,A,J,H,E,I,t⟩:=D p l;have:=t q.1;rw[z,C q o,dw,dw,dh]at this;exact Aa (Int.ne_of_gt E) this
 have n:Qs (λx=>(∃p∈pv.map (λp=>(p.1,f p))++[(j,left)],x=vc p.2)\/∃r∈rs,x=vc r) (vc left):=.of (.inl ⟨(j,left),bu _ (aj.mpr rfl),rfl⟩);have m:∀p∈pv,Qs (λx=>(∃p∈pv.map (λp=>(p.1,f p))++[(j,left)],x=vc p.2)\/∃r∈rs,x=vc r) (vc p.2):=λp l=>by obtain⟨_,_,_,A,J,H,E,I,t⟩:=D p l;exact .lin (a:=A) (b:=-H) (.of (.inl ⟨(p.1,f p),ay _ (aD.mpr ⟨p,l,rfl⟩),rfl⟩)) n (show J≠0 by lia) λi=>by rw[t i];lia
 refine⟨λp l=>?_,?_,λr u=>?_,λr u=>?_⟩
 .rw[U];rcases ai.mp l with q|q
  .obtain⟨p,k,rfl⟩:=aD.mp q;obtain⟨a,b,X,Z,q⟩:=h.pl p k;obtain⟨Q,R,_,A,J,H,E,I,t⟩:=D p k;refine⟨a,Q.trans b,λz=>?_,R,.lin (lU q) (pK h L F e) (show A≠0 by lia) t⟩;have:=t p.1;rw[show vc (f p) p.1=0 from z,C p k,dw,dw,dh]at this;exact X (Aa (Int.ne_of_gt I) this.symm)
  .rw[aj.mp q];exact⟨S,Y,N,λx K=>(P x K).mono (by show _<=Pq B pv.length+(B+pv.length*(Pq B pv.length+1))+1;lia),pK h L F e⟩
 .refine dA.mpr ⟨cF.mpr (h.pw.imp_of_mem λ{p q} l o w=>⟨w.1,at_ q o p l w.2.1,at_ p l q o w.2.2⟩),cD _ _,λp l q o=>?_⟩;rw[aj.mp o];obtain⟨p,k,rfl⟩:=aD.mp l;exact⟨λz=>N ((show p.1=j from z)▸C p k),C p k,(D p k).2.2.1⟩
 .obtain⟨a,b,q⟩:=h.rr r u;exact⟨a,b,lU q⟩
 .rcases ai.mp u with q|q
  .exact (h.sp r q).sub λx K=>by
    rcases K with⟨p,l,v⟩|⟨r,u,v⟩
    .rw[v];exact m p l
    .exact .of (.inr ⟨r,u,v⟩)
  .rw[aj.mp q];exact .lin (a:=g) (b:=-1) n (F.sub λx ⟨p,l,v⟩=>by rw[v];exact m p l) (show s≠0 by lia) λi=>by rw[e i];lia
end
theorem Et(a:LL)(d B:Nat)(hd:d<=4)(hzl:a.length<=8)(hz:∀u∈a,u.length=d+1/\∀x∈u,Bn B x)(hB:K3 d B) :
  ∃pv n,fN c [.lst (a.map tI),.int (d:Int)]=.ok (.tup [.lst (pv.map jR),.lst (n.map tI)])/\PP d B a pv n/\n.length<=8:=by
 have sz:1000<sizeLine:=by decide
 have hrm:Aw (d:Int)=true:=jB (by lia);obtain⟨ρ,e,pv,n,x4,Z,Y,rfl,v,J⟩:=jD (m:=lj 4) (g:=gY c) tI
  (λk ρ=>∃(pv:List (Nat×LI)) (n:LL) (x4 Z Y:Oq W),ρ=[some (.p (.lst (a.map tI))),some (.p (.int (d:Int))),some (.p (.lst (pv.map jR))),some (.o (n.map tI)),x4,Z,Y]/\PP d B (a.take k) pv n/\n.length<=k)
  a 0 _ ⟨[],[],none,none,none,rfl,⟨(λp l=>nomatch l),List.Pairwise.nil,(λp l=>nomatch l),(λz hz=>by simp at hz)⟩,aK _⟩ (by
   rintro k z ρ hi ⟨pv,n,x4,Z,Y,rfl,v,J⟩;rw[aG]at v J ⊢;have X:=hz z (av hi);have hkl:=(aa.mp hi).1;have L:=v.short;have hbb:=hB.le pv.length L;obtain⟨left,el,N,U,⟨g,s,y,hg,hs,hy,ey⟩,h0⟩:=vH (c:=c) (rH pv) (d+1) (Pq B pv.length) B (by lia) pv z hbb X.1 X.2 (λp l=>by obtain⟨q1,q2,q3,q4,_⟩:=v.pl p l;exact⟨by lia,q2,q3,q4,p,l,rfl⟩) (v.pw.imp λh=>h.2.1)
   let D:List Nat:=(List.range d).filter λj=>left.getD j 0 != 0;let R:En:=[some (.p (.lst (a.map tI))),some (.p (.int (d:Int))),some (.p (.lst (pv.map jR))),some (.o (n.map tI)),some (.p (tI z)),some (.p (tI left)),some (.p (.lst (D.map λ(j:Nat)=>T.int (j:Int))))];have e4:iO [none,some 5] (gW (dW (dX 1) d6)) (iA 0) (fS (eG (eW true) (eG gO (dX 1) (dX 0)) (cM (.int 0)))) (jt c) (jG [some (.p (.lst (a.map tI))),some (.p (.int (d:Int))),some (.p (.lst (pv.map jR))),some (.o (n.map tI)),some (.p (tI z)),some (.p (tI left)),Y])=.ok (D.map λ(j:Nat)=>T.int (j:Int)):=oI (List.range d) (λ(j:Nat)=>T.int (j:Int)) (λ(j:Nat)=>T.int (j:Int)) (λj=>left.getD j 0 != 0) (by simp[hrm,DB]) (by simp;lia) (λj hj=>⟨_,rfl,eY (ei (ei rfl rfl (iJ left j (by have:=aS.mp hj;lia))) rfl (nR _ _)),λ_=>rfl⟩) rfl
   have H:lL (D.map λ(j:Nat)=>T.int (j:Int))=true:=kh _ _ λ_ _=>rfl;have I:mK (D.map λ(j:Nat)=>T.int (j:Int))<=90:=aN (kq _ 0 _ λ_ _=>aK _) (by decide);have w:fS (eG (eW false) (dX 6) (gJ (lstM d6))) (vw R)=.ok D.isEmpty:=by refine eY (ei (x:=.lst (D.map λ(j:Nat)=>T.int (j:Int))) (y:=.lst []) rfl (by simp) ?_);rw[pN false _ H I];simp
   have S:∀r,(kY (fS (eG (eW false) (dX 6) (gJ (lstM d6)))) (pW 3 (iz (dX 5))) (setO 2 (iz (gJ (jr (dW (dX 2) (dW (dX 5) (dW (eG gO (dX 6) (cM (.int 0))) d6))) (gU c)))))) R=r->
     gY c [some (.p (.lst (a.map tI))),some (.p (.int (d:Int))),some (.p (.lst (pv.map jR))),some (.o (n.map tI)),some (.p (tI z)),Z,Y]=r:=λr hr=>
    ee (eT (t:=tI left) (lH rfl rfl el) rfl) (ee (eT (t:=.lst (D.map λ(j:Nat)=>T.int (j:Int))) (f7 e4) rfl) hr)
   have mono:B+pv.length*(Pq B pv.length+1)<=B+d*(Pq B d+1):=Nat.add_le_add_left (Nat.mul_le_mul L (Nat.add_le_add_right (FW L) 1)) _;have tk:a.take (k+1)=a.take k++[z]:=iZ a k z hi;cases A:D with
   |nil=>refine⟨_,_,rfl,.inl (S _ (gA (by rw[w,A];rfl) (um (t:=tI left) rfl rfl (by simp;lia) rfl))),pv,n++[left],_,_,_,by rw[aZ];rfl,?_,by simp;lia⟩;rw[tk];refine EB v hg hs hy ey N λi him=>?_;refine aO λhc=>?_;have:i∈D:=aU.mpr ⟨aS.mpr him,by simpa[vc] using hc⟩;rw[A]at this;exact nomatch this
   |cons E js=>
    have Q:E∈D:=by rw[A];exact bh ..
    have F:E<d:=aS.mp (aU.mp Q).1;have C:vc left E≠0:=by have:=(aU.mp Q).2;simpa[vc] using this
    have K:pv.length+1<=d:=by
     have nd:(E::pv.map Prod.fst).Nodup:=bG.mpr ⟨λhm=>by obtain⟨p,l,ep⟩:=aD.mp hm;exact C (ep▸h0 p l),cF.mpr (v.pw.imp λq=>q.1)⟩
     have:=qs d _ nd λx hx=>by
      rcases aF.mp hx with rfl|hx
      .exact F
      .obtain⟨p,l,rfl⟩:=aD.mp hx;exact (v.pl p l).1
     simpa using this
    have hP:Pq B (pv.length+1)<=8000:=aN (FW K) hB.pq;obtain⟨f,hf⟩:=oO (P:=λ(p:Nat×LI) (r:LI)=>gR c [tI p.2,tI left,.int (E:Int)]=.ok (tI r)/\r.length=p.2.length/\(∀x∈r,Bn (Pq B (pv.length+1)) x)/\vc r E=0/\∃g s b:Int,0<g/\0<s/\∀i,g*vc r i=s*vc p.2 i+b*vc left i) pv λp l=>by obtain⟨q1,q2,q3,q4,_⟩:=v.pl p l;obtain⟨r,a1,a2,a3,a4,g,s,b,a5,a6,a7,_⟩:=uK (c:=c) (Pq B pv.length) (B+pv.length*(Pq B pv.length+1)) p.2 left E (by lia) (by lia) (by lia) hP q4 U C;exact⟨r,a1,a2,a3,a4,g,s,b,a5,a6,a7⟩
    have i0:eG gO (dX 6) (cM (.int 0)) (jG R)=.ok (.int (E:Int)):=ei (x:=.lst (D.map λ(j:Nat)=>T.int (j:Int))) rfl rfl (by rw[A];exact FQ _ _);have e5:=rl (c:=c) pv left E f (by lia) λp l=>(hf p l).1;refine⟨_,_,rfl,.inl (S _ (gz (by rw[w,A];rfl) (eT (f7 (G7 rfl rfl i0 e5)) rfl))),_,n,_,_,_,rfl,?_,by lia⟩;rw[tk];exact Dd v hg hs hy ey N h0 U F C f λp l=>(hf p l).2)
 rw[aG,dB]at v;rw[aG]at J;refine⟨pv,n,fG rfl (ee (eT (t:=.lst []) (by simp) rfl) (ee (mH (ts:=[]) (by simp) rfl) (ee (lK rfl e) (eX (y9 rfl rfl))))),v,by lia⟩
end CL
namespace CL
open PySem L2 L3
variable {c:Cs}
def xW(h:fc ρ=.ok false)(a:fd ρ=.ok b):L3.wU fc fd ρ=.ok b:=by simp only[L3.wU,h,a,M.bind_ok];rfl
def GL(d B:Nat)(a:LI):Prop:=a.length=d+1/\∀x∈a,Bn B x
structure GC(d B:Nat)(ns:LI):Prop where
 gl:GL d B ns
 re:∃p,p<d/\vc ns p≠0
def GL.mono(h:GL d B ns)(b:B<=B'):GL d B' ns:=⟨h.1,λx a=>(h.2 x a).mono b⟩
def GL.set(h:GL d B ns) k (a:Bn B v):GL d B (ns.set k v):=⟨by rw[bM];exact h.1,λx b=>by
 rcases List.mem_or_eq_of_mem_set b with q|q
 .exact h.2 x q
 .rw[q];exact a⟩
def HQ ns k v i (a:k<ns.length):vc (ns.set k v) i=if k=i then v else vc ns i:=by
 unfold vc;rw[af,List.getElem?_set];by_cases h:k=i
 .subst h;rw[aQ rfl,aQ rfl,aQ a];rfl
 .rw[aR h,aR h,<-af]
def yj n k (h:k<n):ui n (k:Int)=some k:=by unfold ui;rw[aQ (by lia),aQ (by lia)];simp
def kW(n:Nat)(h:n<=1000)(a:f ρ=.ok (.int (n:Int))):gW (dW f d6) ρ=.ok ((List.range n).map λ(i:Nat)=>T.int (i:Int)):=by have b:Aw n=true:=jB (by lia);rw[<-DB];simp[a,b]
def EI cell (k d B:Nat) (fs:LL) (hk:k<=10) (hd:1<=d/\d<=3) (hB:10<=B) (hB2:B<=1000) (hf:∀f∈fs,GL d B f) (hfl:fs.length<=10) :
  ∃ns,gQ c [.int cell,.int k,.int d,.lst (fs.map tI)]=.ok (tI ns)/\GC d (B+2) ns:=by
 have sz:1000<sizeLine:=by decide
 have hrd:Aw ((d+1:Nat):Int)=true:=jB (by lia);obtain⟨d1,d1a,d1b⟩:=ja (c:=c) cell 2 5 (by decide) (by decide) (by decide) (by decide);obtain⟨h,ew,hw⟩:=yA [1,2,3,5,1000] (dr c cell 2 5) d1a (by simpa using d1b);have hw':1<=h/\h<=1000:=by simp only[aF,cS,or_false]at hw;lia
 let s:LI:=(List.range (d+1)).map λ(j:Nat)=>dr c cell (4+4*k+j) (2*h+1)-h;have g0:GL d (B+2) s:=⟨by simp[s],λx U=>by obtain⟨j,hj,rfl⟩:=aD.mp U;have hj':=aS.mp hj;obtain⟨_,a1,a2⟩:=ja (c:=c) cell (4+4*k+j) (2*h+1) (by lia) (by lia) (by lia) (by lia);refine Bn.mono (m:=10) ?_ (by lia);unfold Bn;show _<1024;lia⟩
 obtain⟨d2,d2a,d2b⟩:=ja (c:=c) cell (40+k) 6 (by decide) (by decide) (by lia) (by lia);let r:=dr c cell (40+k) 6;let St:LI->Option W->Option W->En:=λns D E=>[some (.p (.int cell)),some (.p (.int k)),some (.p (.int d)),some (.p (.lst (fs.map tI))),some (.p (.int h)),some (.o (ns.map T.int)),some (.p (.int r)),D,E];have e0:iO [none,some 4,some 0,some 1] (gW (dW (eG gH (dX 2) (cM (.int 1))) d6)) (iA 0) (λ_=>.ok true) (nu c) (jG [some (.p (.int cell)),some (.p (.int k)),some (.p (.int d)),some (.p (.lst (fs.map tI))),some (.p (.int h)),none,none,none,none])=.ok (s.map T.int):=by
  refine iK (List.range (d+1)) (λ(j:Nat)=>T.int (j:Int)) (λ(j:Nat)=>T.int (dr c cell (4+4*k+j) (2*h+1)-h)) ?_ (by simp;lia) (λj hj=>⟨_,rfl,rfl,?_⟩) (by rw[aI];rfl)
  .exact kW (d+1) (by lia) (ei rfl rfl (by rw[gh];simp))
  .have hj':=aS.mp hj;obtain⟨e,_,_⟩:=ja (c:=c) cell (4+4*k+j) (2*h+1) (by lia) (by lia) (by lia) (by lia);exact ei (jN (y:=.int (4+4*(k:Int)+(j:Int))) (z:=.int (2*h+1)) rfl (ei (ei rfl (ei rfl rfl (iu (by decide))) (gh _ _)) rfl (gh _ _)) (ei (ei rfl rfl (iu (by decide))) rfl (gh _ _)) e) rfl (qS _ _)
 have Z:∀neg,eW neg (.lst (fs.map tI)) (.lst [])=.ok (.bl (if neg then !fs.isEmpty else fs.isEmpty)):=λneg=>by rw[pN neg (fs.map tI) (by simp) (aN (qW fs) (by decide))];simp
 obtain⟨w,e1,g1⟩:∃w,(kY (rz (fS (eG (eW false) (dX 6) (cM (.int 1)))) (fS (eG (eW true) (dX 3) (gJ (lstM d6))))) (lg 5 (wQ (uO (gJ (E1 lO (dW (k9 (eG gO (dX 3) (eE (dW (dX 0) (dW (eG gH (cM (.int 50)) (dX 1)) (dW (iQ iy (dW (dX 3) d6)) d6))) (eP c))) (λ_=>.ok none) (iP (dX 2))) d6))) (k9 (dX 5) (iP (dX 2)) (λ_=>.ok none))))) fM) (St s none none)=.nx (St w none none)/\GL d (B+2) w:=by
  by_cases I:r=1/\fs≠[]
  .obtain⟨L,A⟩:=I;have hlp:=List.length_pos_iff.mpr A;obtain⟨d3,H,X⟩:=ja (c:=c) cell (50+k) fs.length (by lia) (by lia) (by lia) (by lia);obtain⟨f,ef,J⟩:=ub fs (dr c cell (50+k) fs.length) H X;have F:=hf f J;refine⟨f.take d++s.drop d,gA ?_ (Fg (ts:=(f.take d++s.drop d).map T.int) ?_ (C0 _) rfl),⟨?_,λx U=>?_⟩⟩
   .have K:fS (eG (eW false) (dX 6) (cM (.int 1))) (vw (St s none none))=.ok true:=eY (ei (x:=.int r) rfl rfl (by rw[fE,L];rfl));have N:fS (eG (eW true) (dX 3) (gJ (lstM d6))) (vw (St s none none))=.ok true:=eY (ei (x:=.lst (fs.map tI)) (y:=.lst []) rfl (by simp) (by rw[Z];simp[A]));simp only[L3.rz,K,N,M.bind_ok];rfl
   .rw[aZ];refine tJ (a:=(f.take d).map T.int) (b:=(s.drop d).map T.int) ?_ ?_ (by simp;have:=g0.1;lia)
    .refine f7 ?_;have:=qB (fe:=eG gO (dX 3) (eE (dW (dX 0) (dW (eG gH (cM (.int 50)) (dX 1)) (dW (iQ iy (dW (dX 3) d6)) d6))) (eP c))) (fd:=dX 2) (d:=d) (ts:=f.map T.int) (ρ:=vw (St s none none)) (ei (x:=.lst (fs.map tI)) (y:=.int (dr c cell (50+k) fs.length)) rfl (jN (y:=.int (50+(k:Int))) (z:=.int (fs.length:Int)) rfl (ei rfl rfl (gh _ _)) (kC rfl (by simp)) d3) (by simp[kU,ef,tI])) rfl (by rw[ax,F.1];lia);simp only[E1,dW,d6,this,M.bind_ok];rw[cT];rfl
    .rw[List.map_drop];exact zB (ts:=s.map T.int) rfl rfl
   .rw[aT,bI,bK,F.1,g0.1];lia
   .rcases ai.mp U with q|q
    .exact (F.2 x (dE q)).mono (by lia)
    .exact g0.2 x (List.mem_of_mem_drop q)
  .refine⟨s,gz ?_ rfl,g0⟩;have K:fS (eG (eW false) (dX 6) (cM (.int 1))) (vw (St s none none))=.ok (r==1):=eY (ei (x:=.int r) rfl rfl (fE _ _));have N:fS (eG (eW true) (dX 3) (gJ (lstM d6))) (vw (St s none none))=.ok (!fs.isEmpty):=eY (ei (x:=.lst (fs.map tI)) (y:=.lst []) rfl (by simp) (by rw[Z];rfl));simp only[L3.rz,K,N,M.bind_ok];by_cases L:r=1
   .have hn:fs=[]:=by
     by_cases hn:fs=[]
     .exact hn
     .exact absurd ⟨L,hn⟩ I
    rw[L,hn];rfl
   .have:(r==1)=false:=by simpa using L
    rw[this];rfl
 obtain⟨C,e2,g2⟩:∃C,(kY (fS (eG (eW false) (dX 6) (cM (.int 2)))) (ur 5 (rg (dX 2)) (rg (cM (.int 0)))) fM) (St w none none)=.nx (St C none none)/\GL d (B+2) C:=by
  by_cases h2:r=2
  .refine⟨w.set d 0,gA (eY (ei (x:=.int r) rfl rfl (by rw[fE,h2];rfl))) (Cd (us:=w.map T.int) (t:=.int 0) (j:=(d:Int)) (m:=d) rfl rfl rfl rfl (yj _ _ (by rw[ax,g1.1];lia)) ?_),g1.set d xV⟩;show St (w.set d 0) none none=_;simp only[St,List.map_set];rfl
  .exact⟨w,gz (eY (ei (x:=.int r) rfl rfl (by rw[fE];simp[h2]))) rfl,g1⟩
 obtain⟨u,D,E,e3,g3⟩:∃u D E,(kY (rz (fS (eG (eW false) (dX 6) (cM (.int 3)))) (fS (eG IQ (iQ iy (dW (dX 3) d6)) (cM (.int 1))))) (eQ (setO 7 (iz (eG gO (dX 3) (eE (dW (dX 0) (dW (eG gH (cM (.int 50)) (dX 1)) (dW (eG vG (iQ iy (dW (dX 3) d6)) (cM (.int 1))) d6))) (eP c)))))
  (eQ (setO 8 (iz (eG gH (cM (.int 1)) (eE (dW (dX 0) (dW (eG gH (cM (.int 60)) (dX 1)) (dW (cM (.int 3)) d6))) (eP c)))))
  (lg 5 (oB (iO [none,none,some 8] (pG (dW (eG gO (dX 3) (Gd (λi=>.int (-i)) (cM (.int 1)))) (dW (dX 7) d6))) (nY 2 (gI (iA 0) (gI (iA 1) oQ))) (λ_=>.ok true) (m9 c)))))) fM) (St C none none)=.nx (St u D E)/\GL d (B+2) u:=by
  have K:fS (eG (eW false) (dX 6) (cM (.int 3))) (vw (St C none none))=.ok (r==3):=eY (ei (x:=.int r) rfl rfl (fE _ _))
  have N:fS (eG IQ (iQ iy (dW (dX 3) d6)) (cM (.int 1))) (vw (St C none none))=.ok (decide (1<(fs.length:Int))):=eY (ei (x:=.int (fs.length:Int)) (kC rfl (by simp)) rfl rfl)
  by_cases I:r=3/\1<fs.length
  .obtain⟨P,R⟩:=I;have A:fs≠[]:=by intro z;rw[z]at R;simp at R
   obtain⟨d3,H,X⟩:=ja (c:=c) cell (50+k) (fs.length-1) (by lia) (by lia) (by lia) (by lia);obtain⟨f,ef,J⟩:=ub fs (dr c cell (50+k) (fs.length-1)) H (by lia);obtain⟨d4,d4a,d4b⟩:=ja (c:=c) cell (60+k) 3 (by decide) (by decide) (by lia) (by lia);have Gn:nh fs (-1)=some (fs.getLast A):=by rw[GR _ A,List.getLast?_eq_getLast A]
   have gl:=hf _ (List.getLast_mem A);have F:=hf f J;generalize fs.getLast A=la at Gn gl;let v:Int:=1+dr c cell (60+k) 3;have hby:1<=v/\v<=3:=by show 1<=1+_/\1+_<=(3:Int);lia
   refine⟨(la.zip f).map λp=>p.1+v*p.2,some (.p (tI f)),some (.p (.int v)),gA ?_ (ee (eT (t:=tI f) (ei (x:=.lst (fs.map tI)) (y:=.int (dr c cell (50+k) (fs.length-1))) rfl (jN (y:=.int (50+(k:Int))) (z:=.int ((fs.length:Int)-1)) rfl (ei rfl rfl (gh _ _)) (ei (x:=.int (fs.length:Int)) (kC rfl (by simp)) rfl (qS _ _)) d3) (by simp[kU,ef])) rfl) (ee (eT (t:=.int v) (ei rfl (jN (y:=.int (60+(k:Int))) rfl (ei rfl rfl (gh _ _)) rfl d4) (gh _ _)) rfl) (mH (ts:=((la.zip f).map λp=>p.1+v*p.2).map T.int) ?_ rfl))),⟨by rw[ax,dF,gl.1,F.1];lia,λx U=>?_⟩⟩
   .simp only[L3.rz,K,N,M.bind_ok];have:(r==3)=true:=by simpa using P
    rw[this];simp only[if_true];have:decide (1<(fs.length:Int))=true:=aC (by lia);rw[this]
   .refine iK (la.zip f) (λp=>T.tup [.int p.1,.int p.2]) (λp=>T.int (p.1+v*p.2)) (tj (l:=la) (m:=f) (f:=T.int) (g:=T.int) (x:=tI la) (ei (x:=.lst (fs.map tI)) (y:=.int (-1)) rfl rfl (by simp[kU,Gn])) rfl rfl rfl) (by rw[dF,gl.1,F.1];lia) (λp Y=>⟨_,rfl,rfl,ei rfl (ei rfl rfl (iu ?_)) (gh _ _)⟩) (by rw[aI];rfl);show v.natAbs<_;lia
   .obtain⟨p,Y,rfl⟩:=aD.mp U;have L:=gl.2 _ (aW Y).1;have h2:=F.2 _ (aW Y).2;unfold Bn at *;rw[Nat.pow_add];have a1:=cX p.1 (v*p.2);have a2:(v*p.2).natAbs<=3*p.2.natAbs:=by rw[aY];exact Nat.mul_le_mul_right _ (by lia)
    lia
  .refine⟨C,none,none,gz ?_ rfl,g2⟩;simp only[L3.rz,K,N,M.bind_ok];by_cases P:r=3
   .have:(r==3)=true:=by simpa using P
    rw[this];have:decide (1<(fs.length:Int))=false:=aB (by intro z;exact I ⟨P,by lia⟩);rw[this];rfl
   .have:(r==3)=false:=by simpa using P
    rw[this];rfl
 have S:fS (eG (eW false) (k9 (dX 5) (λ_=>.ok none) (iP (dX 2))) (gJ (CJ (gJ (lstM (dW (cM (.int 0)) d6))) (dX 2)))) (vw (St u D E))=.ok (decide (u.take d=List.replicate d 0)):=by refine eY (ei (x:=.lst ((u.take d).map T.int)) (y:=.lst ((List.replicate d (0:Int)).map T.int)) ?_ (Jy d (by lia) rfl) (by rw[HS];rfl));rw[cT];exact zQ (ts:=u.map T.int) rfl rfl
 have IE:∀t,eQ (kY (fS (eG (eW false) (k9 (dX 5) (λ_=>.ok none) (iP (dX 2))) (gJ (CJ (gJ (lstM (dW (cM (.int 0)) d6))) (dX 2))))) (ur 5 (rg (eE (dW (dX 0) (dW (eG gH (cM (.int 60)) (dX 1)) (dW (dX 2) d6))) (eP c))) (rg (cM (.int 1)))) fM) (fO (iQ iG (dW (dX 5) d6))) (St u D E)=.rt t->gQ c [.int cell,.int k,.int d,.lst (fs.map tI)]=.ok t:=λt ht=>by refine fG rfl (ee (eT (t:=.int h) (ei (x:=.lst ([1,2,3,5,1000].map T.int)) (y:=.int (dr c cell 2 5)) (JS rfl rfl rfl rfl rfl) (jN rfl rfl rfl d1) ew) rfl) (ee (mH (ts:=s.map T.int) e0 rfl) (ee (eT (t:=.int r) (jN (y:=.int (40+(k:Int))) rfl (ei rfl rfl (gh _ _)) rfl d2) rfl) (ee e1 (ee e2 (ee e3 ht))))))
 by_cases hz:u.take d=List.replicate d 0
 .obtain⟨d5,d5a,d5b⟩:=ja (c:=c) cell (60+k) d (by lia) (by lia) (by lia) (by lia);obtain⟨p,Y⟩:∃p:Nat,dr c cell (60+k) d=(p:Int):=⟨(dr c cell (60+k) d).toNat,by lia⟩;rw[Y]at d5 d5b;refine⟨u.set p 1,IE _ (ee (ρ':=St (u.set p 1) D E) (gA (by rw[S,aC hz]) (Cd (us:=u.map T.int) (t:=.int 1) (j:=(p:Int)) (m:=p) rfl rfl rfl (jN (y:=.int (60+(k:Int))) rfl (ei rfl rfl (gh _ _)) rfl d5) (yj _ _ (by rw[ax,g3.1];lia)) ?_)) (eX rfl)),⟨g3.set p (by have:=hB;exact (G6 (n:=0)).mono (by lia)),p,by lia,?_⟩⟩
  .simp only[St,List.map_set];rfl
  .rw[HQ _ _ _ _ (by rw[g3.1];lia),aQ rfl];decide
 .refine⟨u,IE _ (ee (ρ':=St u D E) (gz (by rw[S,aB hz]) rfl) (eX rfl)),⟨g3,?_⟩⟩;refine aO λI=>hz (List.eq_replicate_iff.mpr ⟨by rw[bI,g3.1];lia,λb hb=>?_⟩);obtain⟨i,hi⟩:=List.getElem?_of_mem hb;have Q:i<d:=by have:=(aa.mp hi).1;rw[bI]at this;lia
  refine aO λhb0=>I ⟨i,Q,?_⟩;rw[List.getElem?_take]at hi;rw[aQ Q]at hi;unfold vc;rw[af,hi];exact hb0
noncomputable def iR(a b:LI):Bool:=(List.range a.length).all λk=>(List.range k).all λj=>vc a k*vc b j==vc a j*vc b k
def vZ n B a b (w:a.length=n) (N:b.length=n) (P:n<=10) (Q:B<=1000) (s:∀x∈a,Bn B x) (u:∀x∈b,Bn B x):ip c [tI a,tI b]=.ok (.bl (iR a b)):=by
 have sz:1000<sizeLine:=by decide
 have i:=mF (m:=lj 2) (λ(k:Nat)=>T.int (k:Int)) (λρ=>∃r d,ρ=[some (.p (tI a)),some (.p (tI b)),r,d]) (λk=>(List.range k).all λj=>vc a k*vc b j==vc a j*vc b k) (.bl false) (List.range n) [some (.p (tI a)),some (.p (tI b)),none,none] ⟨none,none,rfl⟩ (by
  rintro k z ρ ⟨r,d,rfl⟩;have E:=aS.mp z;refine⟨_,rfl,?_⟩;have o:=mF (m:=lj 3) (g:=oW c) (λ(j:Nat)=>T.int (j:Int)) (λρ=>∃d,ρ=[some (.p (tI a)),some (.p (tI b)),some (.p (.int (k:Int))),d]) (λj=>vc a k*vc b j==vc a j*vc b k) (.bl false) (List.range k) [some (.p (tI a)),some (.p (tI b)),some (.p (.int (k:Int))),d] ⟨d,rfl⟩ (by
   rintro j D ρ ⟨d,rfl⟩;have F:=aS.mp D;have K:=iJ a k (by lia);have H:=iJ b j (by lia);have A:=iJ a j (by lia);have J:=iJ b k (by lia);have C:=i8 ((s _ (getD_mem a k (by lia))).ok (u _ (getD_mem b j (by lia))) (by lia) (by lia));have L:=i8 ((s _ (getD_mem a j (by lia))).ok (u _ (getD_mem b k (by lia))) (by lia) (by lia));have v:fS (eG (eW true) (eG jI (eG gO (dX 0) (dX 2)) (eG gO (dX 1) (dX 3))) (eG jI (eG gO (dX 0) (dX 3)) (eG gO (dX 1) (dX 2)))) (vw [some (.p (tI a)),some (.p (tI b)),some (.p (.int (k:Int))),some (.p (.int (j:Int)))])=.ok (!(vc a k*vc b j==vc a j*vc b k)):=eY (ei (ei (ei rfl rfl K) (ei rfl rfl H) C) (ei (ei rfl rfl A) (ei rfl rfl J) L) (nR _ _))
   refine⟨_,rfl,λh=>⟨_,gz (v.trans (by rw[h];rfl)) rfl,_,rfl⟩,λh=>gA (v.trans (by rw[h];rfl)) (eX rfl)⟩)
  have l:=kW (f:=dX 2) (ρ:=vw [some (.p (tI a)),some (.p (tI b)),some (.p (.int (k:Int))),d]) k (by lia) rfl;refine⟨λh=>?_,λh=>lZ l (o.2 h)⟩;obtain⟨q,e,I,rfl⟩:=o.1 h;exact⟨_,lZ l e,_,_,rfl⟩)
 have l:=kW (f:=iQ iy (dW (dX 0) d6)) (ρ:=vw (e7 4 [tI a,tI b])) n (by lia) (kC (t:=tI a) rfl (by simp[tI,w]));have y:iR a b=((List.range n).all λk=>(List.range k).all λj=>vc a k*vc b j==vc a j*vc b k):=by unfold iR;rw[w]
 cases h:iR a b with
 |true=>obtain⟨q,e,r,d,rfl⟩:=i.1 (by rw[<-y];exact h);exact fG rfl (ee (lZ l e) (eX rfl))
 |false=>exact fG rfl (jm (lZ l (i.2 (by rw[<-y];exact h))) rfl)
def GC.mono(h:GC d B ns)(a:B<=B'):GC d B' ns:=⟨h.gl.mono a,h.re⟩
def pS a (r:a.length<=100) (h:∃p,p<a.length/\vc a p≠0):∃p:Nat,hV c [tI a]=.ok (.int (p:Int))/\p<a.length/\vc a p≠0:=by
 obtain⟨q,o,i⟩:=h;obtain⟨b,e,p,rfl,l,f⟩:=mO (c:=fS (eG (eW false) (eG gO (dX 0) (dX 1)) (cM (.int 0)))) (g:=lQ c)
  (λb=>∃k:Nat,b=[some (.p (tI a)),some (.p (.int (k:Int)))]/\k<=q) (λb=>match b with|_::some (.p (.int j))::_=>q-j.toNat|_=>0)
  (λb=>∃k:Nat,b=[some (.p (tI a)),some (.p (.int (k:Int)))]/\k<a.length/\vc a k≠0) (by
   rintro b ⟨k,rfl,hk⟩;have m:gO (tI a) (.int (k:Int))=.ok (.int (vc a k)):=iJ a k (by lia);by_cases d:vc a k=0
   .have n:k≠q:=λz=>i (by rw[<-z];exact d);refine .inr ⟨eY (ei (ei rfl rfl m) rfl (by rw[fE,d];rfl)),_,.inl (eT (ei rfl rfl (by rw[gh];simp)) rfl),⟨k+1,rfl,by lia⟩,?_⟩;show q-(((k+1:Nat):Int)).toNat<q-((k:Int)).toNat;lia
   .exact .inl ⟨eY (ei (ei rfl rfl m) rfl (by rw[fE];simp[d])),k,rfl,by lia,d⟩)
  ((a.map T.int).length+1) [some (.p (tI a)),some (.p (.int ((0:Nat):Int)))] ⟨0,rfl,by lia⟩ (by rw[ax];lia)
 exact⟨p,fG rfl (ee (eT rfl rfl) (ee e (eX rfl))),l,f⟩
def rK d B a b (P:d<=3) (Q:B<=1000) (f:GC d B a) (m:GL d B b) (h:iR a b=false):iH c [tI a,tI b]=.ok (.bl false):=by
 have sz:1000<sizeLine:=by decide
 have E:=f.gl.1;have K:=m.1;obtain⟨q,N,n⟩:=f.re;obtain⟨p,A,r,l⟩:=pS a (by lia) ⟨q,by lia,n⟩;have L:=iJ b p (by lia);have J:=iJ a p r;have w:iO [none,none,some 1,some 2,some 0] (pG (dW (dX 0) (dW (dX 1) d6))) (nY 2 (gI (iA 0) (gI (iA 1) oQ))) (λ_=>.ok true) (ml c) (vw [some (.p (tI a)),some (.p (tI b)),some (.p (.int p))])=.ok (((a.zip b).map λx=>x.1*vc b p==x.2*vc a p).map T.bl):=iK (a.zip b) (λx=>T.tup [.int x.1,.int x.2]) (λx=>T.bl (x.1*vc b p==x.2*vc a p)) (tj rfl rfl rfl rfl) (by rw[dF];lia) (λx t=>⟨_,rfl,rfl,by have C:=f.gl.2 _ (aW t).1;have y:=m.2 _ (aW t).2;have u:=m.2 _ (getD_mem b p (by lia));have I:=f.gl.2 _ (getD_mem a p r);exact ei (ei rfl (ei rfl rfl L) (i8 (C.ok u (by lia) (by lia)))) (ei rfl (ei rfl rfl J) (i8 (y.ok I (by lia) (by lia)))) (fE _ _)⟩) (by rw[aI];rfl)
 refine fG rfl (ee (eT (mz rfl A) rfl) (eX (oY w ?_)));rw[nT];congr 2;cases o:((a.zip b).map λx=>x.1*vc b p==x.2*vc a p).all id with
 |false=>rfl
 |true=>
  exfalso;rw[cq]at o;have e:=C4.par_of_place l λi s=>by
   have D:(a.zip b)[i]? = some (a[i],b[i]'(by lia)):=by rw[List.getElem?_zip_eq_some];exact⟨ag s,ag (by lia)⟩
   have:=o _ (aD.mpr ⟨_,av D,rfl⟩);have H:a[i]*vc b p=(b[i]'(by lia))*vc a p:=by simpa using this
   show vc a i*vc b p=vc b i*vc a p;rw[j8 a i s,j8 b i (by lia)];exact H
  have:iR a b=true:=by unfold iR;refine cq.mpr λk v=>cq.mpr λj F=>?_;have g:=aS.mp v;have z:=aS.mp F;have:=e k j g (by lia);simpa[vc] using this
  rw[h]at this;cases this
structure Fx(d B:Nat)(cs:LL):Prop where
 gc:∀f∈cs,GC d B f
 few:cs.length<=7
 pw:cs.Pairwise λa b=>iR a b=false
def CQ(h:GC d B ns):mr d (tI ns)=true:=by
 obtain⟨p,e,a⟩:=h.re;have j:=h.gl.1;unfold tI mr;have b:(ns.map T.int).length=d+1:=by simp[j]
 have f:(ns.map T.int).all isInt=true:=cq.mpr λx g=>by obtain⟨y,-,rfl⟩:=aD.mp g;rfl
 show (decide ((ns.map T.int).length=d+1)&&(ns.map T.int).all isInt&&(match n6 (ns.map T.int) with|some ns=>(ns.take d).any (· != 0)|none=>false))=true;rw[aC b,f,vP];refine dG.mpr ⟨vc ns p,?_,by simpa using a⟩;rw[j8 ns p (by lia)];refine av (i:=p) ?_;rw[List.getElem?_take,aQ e,ag (by lia)]
def tH d B (b:LL) ns (p:1<=d/\d<=3) (u:B<=1000) (v:b.length<7) (r:∀f∈b,GC d B f) (g:GC d B ns) (s:∀f∈b,iR f ns=false):iw c [.int d,.lst (b.map tI),tI ns]=.ok (.bl true):=by
 have sz:1000<sizeLine:=by decide
 have h:=zN (c:=c) d (by lia) (tI ns) rfl λw e=>by cases e;refine⟨by rw[ax,g.gl.1];lia,λt q=>by obtain⟨y,-,rfl⟩:=aD.mp q;rfl⟩
 rw[CQ g]at h;have m:iO [none,some 2] (fY (dX 1)) (iA 0) (λ_=>.ok true) (kH c) (vw (e7 3 [.int d,.lst (b.map tI),tI ns]))=.ok ((b.map λ_=>false).map T.bl):=iK b tI (λ_=>T.bl false) rfl (by lia) (λf i=>⟨_,rfl,rfl,lH rfl rfl (rK d B f ns p.2 u (r f i) g.gl (s f i))⟩) (by rw[aI];rfl)
 have j:fS (eG JP (iQ iy (dW (dX 1) d6)) (cM (.int 7))) (vw (e7 3 [.int d,.lst (b.map tI),tI ns]))=.ok false:=eY (ei (x:=.int (b.length:Int)) (kC (t:=.lst (b.map tI)) rfl (by simp)) rfl (by rw[Fv];congr 2;exact aB (by lia)))
 have o:fS (eE (dW (dX 0) (dW (dX 2) d6)) (j5 c)) (vw (e7 3 [.int d,.lst (b.map tI),tI ns]))=.ok true:=eY (lH rfl rfl h);refine fG rfl (ee (gz ?_ rfl) (eX ?_))
 .simp only[L3.wU,L3.ko,j,o,M.bind_ok];rfl
 .have k:iQ mT (dW (gJ (iO [none,some 2] (fY (dX 1)) (iA 0) (λ_=>.ok true) (kH c))) d6) (vw (e7 3 [.int d,.lst (b.map tI),tI ns]))=.ok (.bl false):=by
   refine oY m ?_;rw[ua];congr 2;induction b with
   |nil=>rfl
   |cons a l ih=>simp
  have n:=eY k;simp only[zm,n,M.bind_ok];rfl
def w6 d B cs (u:1<=d/\d<=3) (A:B<=1000) (h:Fx d B cs):gy c [.int d,.lst (cs.map tI)]=.ok (.tup (cs.map tI)):=by
 have sz:1000<sizeLine:=by decide
 have j:=h.few;obtain⟨n,e,l,rfl⟩:=jD (m:=lj 3) (g:=kX c) tI
  (λk n=>∃l:Oq W,n=[some (.p (.int d)),some (.p (.lst (cs.map tI))),some (.o ((cs.take k).map tI)),l])
  cs 0 _ ⟨none,rfl⟩ (by
   rintro k a n b ⟨l,rfl⟩;rw[aG];have x:=(aa.mp b).1;have r:=tH (c:=c) d B (cs.take k) a u A (by rw[bI];lia) (λf j=>h.gc f (dE j)) (h.gc a (av b)) λf j=>by have s:=h.pw;rw[<-List.take_append_drop k cs,dA]at s;refine s.2.2 f j a ?_;refine av (i:=0) ?_;rw[List.getElem?_drop,Nat.add_zero];exact b
   have q:fS (eE (dW (dX 0) (dW (dX 2) (dW (dX 3) d6))) (iw c)) (vw [some (.p (.int d)),some (.p (.lst (cs.map tI))),some (.o ((cs.take k).map tI)),some (.p (tI a))])=.ok true:=eY (jN (y:=.lst ((cs.take k).map tI)) (z:=tI a) rfl rfl rfl r);refine⟨_,_,rfl,.inl (ee (gz (qO q rfl) rfl) (um (us:=(cs.take k).map tI) (t:=tI a) rfl (kC (t:=tI a) rfl rfl) (by rw[ax,bI];lia) rfl)),some (.p (tI a)),?_⟩;rw[iZ cs k a b,aZ];rfl)
 rw[aG,dB]at e;have v:fS (eE (dW (dX 0) d6) (jz c)) (vw (e7 4 [.int d,.lst (cs.map tI)]))=.ok true:=eY (mz rfl (xO d u));have w:fS (nN "list" (dX 1)) (vw (e7 4 [.int d,.lst (cs.map tI)]))=.ok true:=rfl;refine fG rfl (ee (gz ?_ rfl) (ee (mH (ts:=[]) (by simp) rfl) (ee (lK rfl e) (eX rfl))));simp only[L3.wU,L3.ko,v,w,M.bind_ok];rfl
noncomputable def nW(c:Cs)(d:Nat)(a:LL):T:=.obj c.Cutting [("own_cuts",.tup (a.map tI)),("own_dims",.int d)]
def Fi d B cs (a:1<=d/\d<=3) (b:B<=1000) (h:Fx d B cs):gx c [.int d,.lst (cs.map tI)]=.ok (nW c d cs):=by have e:=w6 (c:=c) d B cs a b h;have q:eE (dW (dX 1) (dW (dX 2) d6)) (gy c) (none::[T.int d,.lst (cs.map tI)].map some)=.ok (.tup (cs.map tI)):=lH rfl rfl e;unfold gx sf;rw[aQ (show [T.int d,T.lst (cs.map tI)].length=2 from rfl),q];rfl
def A9(h:f ρ=.ok (.obj C fs))(a:fs.lookup x=some t):xw C x f ρ=.ok t:=by unfold xw;rw[h,M.bind_ok];show (if C=C then (match fs.lookup x with|some t=>M.ok t|none=>.bad) else .bad)=_;rw[aQ rfl,a]
def ES(d:Nat)(a:LL){f:Pe->M T}{ρ:Pe}(b:f ρ=.ok (nW c d a)):vB c.Cutting "dims" f d6 (gw c) ρ=.ok (.int d):=by
 have e:qw c.Cutting "dims" (nW c d a)=.ok ():=by unfold qw nW;exact aQ ⟨rfl,rfl⟩
 have g:gw c [nW c d a]=.ok (.int d):=fG rfl (eX (A9 rfl rfl));simp only[vB,b,M.bind_ok,e,d6,g,M.noEr_ok]
def Eu d cs (a:f ρ=.ok (nW c d cs)):ql c.Cutting "cuts" f d6 (gq c) ρ=.ok (cs.map tI):=by
 have b:qw c.Cutting "cuts" (nW c d cs)=.ok ():=by unfold qw nW;exact aQ ⟨rfl,rfl⟩
 have e:gq c [nW c d cs]=.ok (cs.map tI):=BP rfl (ym (by have:xw c.Cutting "own_cuts" (dX 0) (vw (e7 1 [nW c d cs]))=.ok (.tup (cs.map tI)):=A9 rfl rfl;simp only[E1,dW,d6,this,M.bind_ok];rfl))
 simp only[ql,a,M.bind_ok,b,d6,e,M.noEr_ok]
def wD cell (h:Nat) (H:h<=7):∃(d:Nat) (j:LL),gE c [.int cell,.int (h:Int)]=.ok (.tup [.int d,.lst (j.map tI)])/\(1<=d/\d<=3)/\Fx d 30 j/\j.length<=h:=by
 have sz:1000<sizeLine:=by decide
 obtain⟨d1,N,B⟩:=ja cell 0 5 (by decide) (by decide) (by decide) (by decide);obtain⟨S,ed,v⟩:=yA [1,2,2,3,3] (dr c cell 0 5) N (by simpa using B);obtain⟨d,rfl⟩:∃d:Nat,S=(d:Int):=⟨S.toNat,by simp only[aF,cS,or_false]at v;lia⟩;have U:1<=d/\d<=3:=by simp only[aF,cS,or_false]at v;lia
 obtain⟨X,d2a,J⟩:=ja (c:=c) cell 1 ((h+1:Nat):Int) (by lia) (by lia) (by decide) (by decide);obtain⟨n,hn⟩:∃n:Nat,dr c cell 1 ((h+1:Nat):Int)=(n:Int):=⟨(dr c cell 1 ((h+1:Nat):Int)).toNat,by lia⟩;rw[hn]at X J;obtain⟨C,e,j,E,A,rfl,Q,u,w⟩:=jD (m:=lj 4) (g:=lM c) (λ(i:Nat)=>T.int (i:Int))
  (λk C=>∃(j:LL) (E A:Oq W),C=[some (.p (.int cell)),some (.p (.int (h:Int))),some (.p (.int d)),some (.o (j.map tI)),E,A]/\j.length<=k/\(∀f∈j,GC d (10+2*k) f)/\j.Pairwise λa b=>iR a b=false)
  (List.range n) 0 _ ⟨[],none,none,rfl,aK _,(λf r=>nomatch r),List.Pairwise.nil⟩ (by
   rintro i k C K ⟨j,E,A,rfl,Q,u,w⟩;rw[aG]at Q u ⊢;have F:i<n:=by simpa using (aa.mp K).1
   have L:k=i:=by rw[List.getElem?_range F]at K;cases K;rfl
   subst L;obtain⟨s,en,D⟩:=EI (c:=c) cell k d (10+2*k) j (by lia) U (by lia) (by lia) (λf r=>(u f r).gl) (by lia);let R:En:=[some (.p (.int cell)),some (.p (.int (h:Int))),some (.p (.int d)),some (.o (j.map tI)),some (.p (.int (k:Int))),some (.p (tI s))];have e1:iO [none,some 5] (fY (dX 3)) (iA 0) (fS (eE (dW (dX 0) (dW (dX 1) d6)) (ip c))) (jP c) (vw R)=.ok ((j.filter λf=>iR f s).map tI):=oI j tI tI (λf=>iR f s) rfl (by lia) (λf r=>⟨_,rfl,eY (lH rfl rfl (vZ (c:=c) (d+1) (10+2*k+2) f s (u f r).gl.1 D.gl.1 (by lia) (by lia) (λx hx=>((u f r).gl.2 x hx).mono (by lia)) D.gl.2)),λ_=>rfl⟩) rfl
   have Y:fS (eG (eW false) (gJ (iO [none,some 5] (fY (dX 3)) (iA 0) (fS (eE (dW (dX 0) (dW (dX 1) d6)) (ip c))) (jP c))) (gJ (lstM d6))) (vw R)=.ok (j.filter λf=>iR f s).isEmpty:=by refine eY (ei (x:=.lst ((j.filter λf=>iR f s).map tI)) (y:=.lst []) (f7 e1) (by simp) ?_);rw[pN false _ (by simp) (aN (qW _) (by decide))];simp
   have Z:setO 5 (rg (eE (dW (dX 0) (dW (dX 4) (dW (dX 2) (dW (dX 3) d6)))) (gQ c))) [some (.p (.int cell)),some (.p (.int (h:Int))),some (.p (.int d)),some (.o (j.map tI)),some (.p (.int (k:Int))),A]=.nx R:=EX (t:=tI s) (JR rfl rfl rfl rfl en) (Jf s) rfl;by_cases P:(j.filter λf=>iR f s)=[]
   .refine⟨_,_,rfl,.inl (ee Z (gA (Y.trans (by rw[P];rfl)) (um (us:=j.map tI) (t:=tI s) rfl rfl (by simp;lia) rfl))),j++[s],_,_,by rw[aZ];rfl,by simp;lia,λf r=>?_,dA.mpr ⟨w,cD _ _,λf r g I=>?_⟩⟩
    .rcases ai.mp r with q|q
     .exact (u f q).mono (by lia)
     .rw[aj.mp q];exact D.mono (by lia)
    .rw[aj.mp I];cases hs:iR f s with
     |false=>rfl
     |true=>have:f∈j.filter λf=>iR f s:=aU.mpr ⟨r,hs⟩;rw[P]at this;exact nomatch this
   .refine⟨_,_,rfl,.inl (ee Z (gz (Y.trans (by
     cases hq:(j.filter λf=>iR f s) with
     |nil=>exact absurd hq P
     |cons a l=>rfl)) rfl)),j,_,_,rfl,by lia,λf r=>(u f r).mono (by lia),w⟩)
 rw[aG,dH]at Q u;refine⟨d,j,fG rfl (ee (eT (t:=.int d) (ei (x:=.lst ([1,2,2,3,3].map T.int)) (y:=.int (dr c cell 0 5)) (JS rfl rfl rfl rfl rfl) (jN rfl rfl rfl d1) ed) rfl) (ee (mH (ts:=[]) (by simp) rfl) (ee (lZ (kW n (by lia) (jN (z:=.int ((h+1:Nat):Int)) rfl rfl (ei rfl rfl rfl) X)) e) (eX (y9 rfl rfl))))),U,⟨λf r=>(u f r).mono (by lia),by lia,w⟩,by lia⟩
end CL
namespace CL
open PySem L2 L3
variable {c:Cs}
def tR{a:Type}[Inhabited a](l:List a) f k w (h:k<l.length):gO (.lst (l.map f)) (.int (k:Int))=.ok (f (l.getD k w)):=by have e:=wB (l.map f) k (by rw[ax];exact h);rw[List.getElem_map]at e;show (match nh (l.map f) k with|some t=>M.ok t|none=>.bad)=_;rw[e,af,ag h];rfl
def mU m A u:i9 m A u=i9 m u A:=by unfold i9;exact fX _ _ _ λi _=>cN _ _
def Ha n k f (a:k<n) (h:∀i,i<n->i≠k->f i=0):sm n f=f k:=by
 rw[<-Bq n k f a];exact fX _ _ _ λi b=>by
  by_cases e:i=k
  .rw[aQ e];simp
  .rw[aR e,h i b e];simp
def vT{d:Nat}{v:Vc}:∀(os:List (Nat×LI)),(∀p∈os,p.1<d/\vc p.2 p.1≠0)->os.Pairwise (λp q=>vc q.2 p.1=0)->(∀p∈os,i9 d (vc p.2) v=0)->(∀i,i∉os.map Prod.fst->v i=0)->∀p∈os,v p.1=0:=λos=>by
 induction h:os.length generalizing os v with
 |zero=>have:os=[]:=List.length_eq_zero_iff.mp h;subst this;intro _ _ _ _ p a;cases a
 |succ n ih=>
  intro f b j m;rcases List.eq_nil_or_concat os with e|⟨l,x,e⟩
  .subst e;cases h
  .rw[List.concat_eq_append]at e;subst e;rw[dA]at b;have g:x∈l++[x]:=by simp
   have o:v x.1=0:=by
    have e:=j x g;unfold i9 at e;rw[Ha d x.1 _ (f x g).1 λi k ne=>by
     by_cases q:i∈(l++[x]).map Prod.fst
     .rw[aZ,ai]at q;rcases q with q|q
      .obtain⟨p,a,rfl⟩:=aD.mp q;rw[b.2.2 p a x (by simp)];exact dg _
      .simp at q;exact absurd q ne
     .rw[m i q];exact dw _]at e
    exact Aa (f x g).2 e
   have r:=ih (v:=v) l (by simpa using h) (λp a=>f p (by simp[a])) b.1 (λp a=>j p (by simp[a])) (λi k=>by
    by_cases q:i=x.1
    .rw[q];exact o
    .refine m i λz=>?_;rw[aZ,ai]at z;rcases z with z|z
     .exact k z
     .simp at z;exact q z)
   intro p a;rcases ai.mp a with q|q
   .exact r p q
   .rw[aj.mp q];exact o
def gG{P:Vc->Prop}{z v:Vc}{m:Nat}(q:Qs P z)(h:∀x,P x->i9 m x v=0):i9 m z v=0:=by
 induction q with
 |of p=>exact h _ p
 |zero=>rw[mU];unfold i9;rw[fX m _ (λ_=>0) λi _=>dw _];exact kD m
 |lin _ _ hs e i1 i2=>have:=yU (m:=m) (A:=v) e;rw[mU m v,mU m v,mU m v,i1,i2,dw,dw]at this;exact Aa hs (by lia)
def Gy{vs:LL}(h:qL vs m n ah):(ah.map Prod.fst).Nodup:=by rw[List.Nodup,cF];refine h.tri.imp_of_mem λ{p q} _ hq e z=>h.nz q hq ?_;rw[<-z];exact e
def mY{vs:LL}(h:qL vs m vs.length ah)(d:List Vc)(l:∀v:Vc,(∀A∈d,i9 m A v=0)->∀r∈vs,i9 m (vc r) v=0):ah.length<=d.length:=by
 refine bT λe=>?_;have lt:∀p∈ah,p.1<m/\vc p.2 p.1≠0:=λp a=>⟨(sx h.bd a).1,h.nz p a⟩;obtain⟨v,⟨j,g⟩,b,i⟩:=nI m d (ah.map Prod.fst) (Gy h) (λt k=>by obtain⟨p,a,rfl⟩:=aD.mp k;exact (lt p a).1) (by rw[ax];exact e)
 have z:=vT ah lt h.tri (λp a=>gG (h.ps p a) λx ⟨w,hw,ex⟩=>by rw[ex];exact l v i w (dE hw)) b;have f:j∈ah.map Prod.fst:=aO λz=>g (b j z);obtain⟨p,a,rfl⟩:=aD.mp f;exact g (z p a)
def lG{vs b:LL}(h:qL vs m vs.length d)(h':qL b m b.length a)(e:∀v:Vc,(∀r∈vs,i9 m (vc r) v=0)↔∀r∈b,i9 m (vc r) v=0):d.length=a.length:=by
 have go:∀{vs b:LL} {d a:List (Nat×LI)},qL vs m vs.length d->qL b m b.length a->(∀v:Vc,(∀r∈b,i9 m (vc r) v=0)->∀r∈vs,i9 m (vc r) v=0)->d.length<=a.length:=λ{vs b d a} h h' e=>by
  have:=mY h (a.map λp=>vc p.2) λv g=>e v λr f=>gG (h'.sp r (by rw[dB];exact f)) λx ⟨p,hp,ex⟩=>by rw[ex];exact g _ (aD.mpr ⟨p,hp,rfl⟩)
  rw[ax]at this;exact this
 exact dI (go h h' λv=>(e v).mpr) (go h' h λv=>(e v).mp)
def nK(d:Nat)(u:LI)(v:Vc):i9 d (vc (u.take d)) v=i9 d (vc u) v:=fX _ _ _ λi a=>by unfold vc;rw[af,List.getElem?_take_of_lt a,<-af]
def Cv{m:Nat}{os:List (Nat×LI)}(lt:∀p∈os,p.1<m/\vc p.2 p.1≠0)(tri:os.Pairwise λp q=>vc q.2 p.1=0)(g:List Vc)(n:∀v:Vc,(∀A∈g,i9 m A v=0)->∀p∈os,i9 m (vc p.2) v=0):os.length<=g.length:=by
 refine bT λb=>?_;have i:(os.map Prod.fst).Nodup:=by rw[List.Nodup,cF];exact tri.imp_of_mem λ{p q} _ hq e z=>(lt q hq).2 (by rw[<-z];exact e)
 obtain⟨v,⟨j,h⟩,a,k⟩:=nI m g (os.map Prod.fst) i (λt l=>by obtain⟨p,d,rfl⟩:=aD.mp l;exact (lt p d).1) (by rw[ax];exact b)
 have z:=vT os lt tri (n v k) a;have f:j∈os.map Prod.fst:=aO λz=>h (a j z);obtain⟨p,d,rfl⟩:=aD.mp f;exact h (z p d)
def iT{vs:LL}{m:Nat}{a os:List (Nat×LI)}(h:qL vs m vs.length a)(lt:∀p∈os,p.1<m/\vc p.2 p.1≠0)(tri:os.Pairwise λp q=>vc q.2 p.1=0)(e:∀v:Vc,(∀r∈vs,i9 m (vc r) v=0)->∀p∈os,i9 m (vc p.2) v=0):os.length<=a.length:=by
 have:=Cv lt tri (a.map λp=>vc p.2) λv d=>e v λr b=>gG (h.sp r (by rw[dB];exact b)) λx ⟨p,hp,ex⟩=>by rw[ex];exact d _ (aD.mpr ⟨p,hp,rfl⟩)
 rw[ax]at this;exact this
section
variable {d B:Nat}{rows rs:LL}{pv ah ah0:List (Nat×LI)}
def PP.tri(h:PP d B rows pv rs):pv.Pairwise λp q=>vc q.2 p.1=0:=h.pw.imp λq=>q.2.1
def p9(h:PP d B rows pv rs)(k:qL (rows.map (·.take d)) d (rows.map (·.take d)).length ah0):ah0.length=pv.length:=by
 refine dI ?_ ?_
 .have:=mY k (pv.map λp=>vc p.2) λv j r e=>by
   obtain⟨r,f,rfl⟩:=aD.mp e;rw[nK];refine gG (h.sp r f) λx n=>?_;rcases n with⟨p,a,b⟩|⟨l,g,b⟩
   .rw[b];exact j _ (aD.mpr ⟨p,a,rfl⟩)
   .rw[b];unfold i9;rw[fX d _ (λ_=>0) λi m=>by rw[(h.rr l g).2.1 i m,dg]];exact kD d
  rw[ax]at this;exact this
 .exact iT k (λp a=>⟨(h.pl p a).1,(h.pl p a).2.2.1⟩) h.tri λv j p a=>gG (h.pl p a).2.2.2.2 λx ⟨r,e,b⟩=>by rw[b,<-nK];exact j _ (aD.mpr ⟨r,e,rfl⟩)
def lr(h:PP d B rows pv rs)(l:∀r∈rs,vc r d=0)(k:qL rows (d+1) rows.length ah):ah.length=pv.length:=by
 refine dI ?_ (iT k (λp a=>⟨by have:=(h.pl p a).1;lia,(h.pl p a).2.2.1⟩) h.tri λv g p a=>gG (h.pl p a).2.2.2.2 λx ⟨r,f,e⟩=>by rw[e];exact g r f);have:=mY k (pv.map λp=>vc p.2) λv g r f=>gG (h.sp r f) λx m=>by
  rcases m with⟨p,a,e⟩|⟨j,b,e⟩
  .rw[e];exact g _ (aD.mpr ⟨p,a,rfl⟩)
  .rw[e];unfold i9;rw[fX (d+1) _ (λ_=>0) λi n=>by
    have:vc j i=0:=by
     by_cases z:i<d
     .exact (h.rr j b).2.1 i z
     .rw[show i=d by lia];exact l j b
    rw[this,dg]];exact kD _
 rw[ax]at this;exact this
def sP(h:PP d B rows pv rs){r:LI}(a:r∈rs)(g:vc r d≠0)(f:qL rows (d+1) rows.length ah):pv.length<ah.length:=by
 have:=iT (os:=pv++[(d,r)]) f (λp b=>by
  rcases ai.mp b with q|q
  .exact⟨by have:=(h.pl p q).1;lia,(h.pl p q).2.2.1⟩
  .rw[aj.mp q];exact⟨by lia,g⟩) (dA.mpr ⟨h.tri,cD _ _,λp b q i=>by rw[aj.mp i];exact (h.rr r a).2.1 _ (h.pl p b).1⟩) λv e p b=>by
  rcases ai.mp b with q|q
  .exact gG (h.pl p q).2.2.2.2 λx ⟨r,a,ex⟩=>by rw[ex];exact e r a
  .rw[aj.mp q];exact gG (h.rr r a).2.2 λx ⟨r,a,ex⟩=>by rw[ex];exact e r a
 simp at this;lia
def lB(h:PP d B rows pv rs)(N:∀r∈rs,vc r d=0){u left:LI}{g s:Int}{y:Vc}(L:0<g)(P:0<s)(A:Qs (rH pv) y)(e:∀i,g*vc left i=s*vc u i+1*y i)(K:∀p∈pv,vc left p.1=0)(R:left.length=d+1)
  (w:qL (rows++[u]) (d+1) (rows++[u]).length ah):ah.length=pv.length↔∀i,vc left i=0:=by
 have I:∀p∈pv,Qs (VP (rows++[u])) (vc p.2):=λp f=>lU (h.pl p f).2.2.2.2;have k:∀{x:Vc} {v:Vc},Qs (VP (rows++[u])) x->(∀r∈rows++[u],i9 (d+1) (vc r) v=0)->i9 (d+1) x v=0:=λq j=>gG q λx ⟨r,o,n⟩=>by rw[n];exact j r o
 have t:=iT w (λp f=>⟨by have:=(h.pl p f).1;lia,(h.pl p f).2.2.1⟩) h.tri λv j p f=>k (I p f) j;constructor
 .intro Q i;refine aO λE=>?_;have H:i<d+1:=aO λz=>E (iB left i (by lia));have:=iT (os:=pv++[(i,left)]) w (λp f=>by
   rcases ai.mp f with q|q
   .exact⟨by have:=(h.pl p q).1;lia,(h.pl p q).2.2.1⟩
   .rw[aj.mp q];exact⟨H,E⟩) (dA.mpr ⟨h.tri,cD _ _,λp f q J=>by rw[aj.mp J];exact K p f⟩) λv j p f=>by
   rcases ai.mp f with q|q
   .exact k (I p q) j
   .rw[aj.mp q];exact k (pK h L A e) j
  simp at this;lia
 .intro l;refine dI ?_ t;have:=mY w (pv.map λp=>vc p.2) λv j r o=>by
   have F:∀x,rH pv x->i9 (d+1) x v=0:=λx ⟨p,f,n⟩=>by rw[n];exact j _ (aD.mpr ⟨p,f,rfl⟩)
   rcases ai.mp o with q|q
   .refine gG (h.sp r q) λx D=>?_;rcases D with D|⟨C,m,n⟩
    .exact F x D
    .rw[n];unfold i9;rw[fX (d+1) _ (λ_=>0) λi H=>by
      have:vc C i=0:=by
       by_cases z:i<d
       .exact (h.rr C m).2.1 i z
       .rw[show i=d by lia];exact N C m
      rw[this,dg]];exact kD _
   .rw[aj.mp q];refine gG (.lin (s:=s) (a:=-1) (b:=0) (z:=vc u) A A (by lia) λi=>?_) F;have:=e i;rw[l i]at this;lia
  rw[ax]at this;exact this
end
theorem tF:∀n f,sm (n+1) f=sm n f+f n
 |0,f=>by rw[sm,sm,sm];lia
 |n+1,f=>by rw[sm,tF n λi=>f (i+1),sm];lia
def zP(h:f ρ=.ok (.lst ts)):pY (dW f d6) ρ=.ok (mx ts):=by simp only[pY,dW,d6,h,M.bind_ok];rfl
def Bj ns:mT [tI ns]=.ok (.bl (ns.any λx=>x != 0)):=by simp only[tI,mT,nt,xI];rw[cn];rfl
abbrev mI(k:Nat):T:=.int (k:Int)
def fg(a:LL)(b:List Nat):LL:=b.map λz=>a.getD z []
def jb(l:LL)(k:Nat)(h:k<l.length):l.getD k []∈l:=by rw[af,ag h];exact aV h
def Gf{d:Nat}(b:1<=d/\d<=3):K3 d 30:=by
 have a:d=1\/d=2\/d=3:=by lia
 refine⟨by decide,λk e=>?_,?_⟩
 .have:k=0\/k=1\/k=2\/k=3:=by lia
  rcases this with rfl|rfl|rfl|rfl<;>decide
 .rcases a with rfl|rfl|rfl<;>decide
def kK{d:Nat}{a:LL}{b:List Nat}(g:Fx d 30 a)(i:∀z∈b,z<a.length):∀u∈fg a b,u.length=d+1/\∀x∈u,Bn 30 x:=λu f=>by obtain⟨z,h,rfl⟩:=aD.mp f;have e:=jb a z (i z h);exact (g.gc _ e).gl
def xy{a:LL}{b:List Nat}(l:∀z∈b,z<a.length)(g:b.length<=8){d:Pe->M (List T)}{ρ:Pe}{j:Nat}{e:Pe->M T}(i:e=eG gO (dX 1) (dX 0))(k:d ρ=.ok (b.map mI))(f:ρ[j]? = some (some (.lst (a.map tI)))) :
  iO [none,some j] d (iA 0) (λ_=>.ok true) e ρ=.ok ((fg a b).map tI):=by
 have sz:1000<sizeLine:=by decide
 subst i;exact iK b mI (λz=>tI (a.getD z [])) k (by lia) (λz h=>⟨[some (mI z),some (.lst (a.map tI))],by simp[f],rfl,ei rfl rfl (tR a tI z [] (l z h))⟩) (by simp[fg])
def Dy{d:Nat}{b o:LL}{x:List Nat}{pv:List (Nat×LI)}(v:1<=d/\d<=3)(t:Fx d 30 b)(h:PP d 30 (fg b x) pv o):∃f:LI->LI,∀u∈b,gC c [tI u,.lst (pv.map jR)]=.ok (tI (f u))/\(f u).length=d+1/\(∃g s y,0<g/\0<s/\Qs (rH pv) y/\∀i,g*vc (f u) i=s*vc u i+1*y i)/\∀p∈pv,vc (f u) p.1=0:=by
 refine oO (P:=λ(u r:LI)=>gC c [tI u,.lst (pv.map jR)]=.ok (tI r)/\r.length=d+1/\(∃g s y,0<g/\0<s/\Qs (rH pv) y/\∀i,g*vc r i=s*vc u i+1*y i)/\∀p∈pv,vc r p.1=0) b λu n=>?_;have a:=(t.gc u n).gl;obtain⟨r,e,z,_,w,l⟩:=vH (c:=c) (rH pv) (d+1) (Pq 30 pv.length) 30 (by lia) pv u ((Gf v).le _ h.short) a.1 a.2 (λp j=>by obtain⟨A,q,k,m,_⟩:=h.pl p j;exact⟨by lia,q,k,m,p,j,rfl⟩) h.tri
 exact⟨r,e,z,w,l⟩
noncomputable def qt(d:Nat)(a:LL)(pv:List (Nat×LI))(f:LI->LI):T:=.tup [.int ((d:Int)-(pv.length:Int)),.tup (((List.range a.length).filter λk=>!(f (a.getD k [])).any (· != 0)).map mI)]
theorem wL{d:Nat}{a:LL}{e:List Nat}(n:1<=d/\d<=3)(j:Fx d 30 a)(m:∀z∈e,z<a.length)(L:e.length<=7){S:T}(K:seqT S=.ok (e.map mI)):∃pv b f,PP d 30 (fg a e) pv b/\
  (∀u∈a,(f u).length=d+1/\(∃g s y,0<g/\0<s/\Qs (rH pv) y/\∀i,g*vc (f u) i=s*vc u i+1*y i)/\∀p∈pv,vc (f u) p.1=0)/\
  gd c [.lst (a.map tI),.int d,S]=.ok (if b.any (λr=>r.any (· != 0)) then .non else qt d a pv f):=by
 have sz:1000<sizeLine:=by decide
 have Q:=j.few;obtain⟨pv,b,B,h,E⟩:=Et (c:=c) (fg a e) d 30 (by lia) (by simp[fg];lia) (kK j m) (Gf n);obtain⟨f,q⟩:=Dy (c:=c) n j h;refine⟨pv,b,f,h,λu C=>(q u C).2,?_⟩;have F:=h.short;let v:T:=.tup [.lst (pv.map jR),.lst (b.map tI)];let R (D J:Oq W):En:=[some (.p (.lst (a.map tI))),some (.p (.int (d:Int))),some (.p S),some (.p v),D,J];have l:fS (iQ mT (dW (gJ (iO [none] (fY (eG gO (dX 3) (cM (.int 1)))) (iA 0) (λ_=>.ok true) (qK c))) d6)) (vw (R none none))=.ok (b.any λr=>r.any (· != 0)):=by refine eY (oY (ts:=(b.map λr=>r.any (· != 0)).map T.bl) (iK b tI (λr=>T.bl (r.any (· != 0))) (Dn (ei rfl rfl rfl)) (by lia) (λr N=>⟨_,rfl,rfl,kC rfl (Bj r)⟩) (by simp)) ?_);rw[ua,cn];rfl
 have I:iO [none,none,some 4] (pY (dW (dX 0) d6)) (nY 2 (gI (iA 0) (gI (iA 1) oQ))) (L3.ko (fS (iQ mT (dW (eE (dW (dX 1) (dW (dX 2) d6)) (gC c)) d6)))) (pV c) (jG (R (some (.p (.lst (pv.map jR)))) none))=.ok (((List.range a.length).filter λk=>!(f (a.getD k [])).any (· != 0)).map mI):=by
  refine oI (List.range a.length) (λk=>T.tup [mI k,tI (a.getD k [])]) mI (λk=>!(f (a.getD k [])).any (· != 0)) ?_ (by simp;lia) (λk w=>⟨[some (mI k),some (tI (a.getD k [])),some (.lst (pv.map jR))],rfl,qO (eY (kC (lH rfl rfl (q _ (jb a k (aS.mp w))).1) (Bj _))) rfl,λ_=>rfl⟩) rfl;rw[zP (ts:=a.map tI) rfl];congr 1;refine List.ext_getElem (by simp[mx]) λi P A=>?_;have H:i<a.length:=by simpa using A
  simp[mx,H]
 refine fG rfl (ee (ρ':=R none none) (eT (lH (f7 (xy m (by lia) rfl (by show fY (dX 2) _=_;simp only[fY];exact K) rfl)) rfl B) rfl) ?_);cases o:b.any λr=>r.any (· != 0) with
 |true=>exact jm (gA (by rw[l,o]) (eX rfl)) rfl
 |false=>refine ee (gz (by rw[l,o]) rfl) (ee (ρ':=R (some (.p (.lst (pv.map jR)))) none) (eT (ei rfl rfl rfl) rfl) (ee (eT (f7 I) rfl) (eX ?_)));exact y9 (ei (x:=.int (d:Int)) (y:=.int (pv.length:Int)) rfl (kC (t:=.lst (pv.map jR)) rfl (by simp)) rfl) (kC rfl rfl)
def ik{l:LI}:(l.any (· != 0))=false↔∀i,vc l i=0:=by
 constructor
 .intro h i;by_cases a:i<l.length
  .rw[j8 l i a];have:=bA.mp h l[i] (aV a);simpa using this
  .exact iB l i (by lia)
 .intro h;refine bA.mpr λx b=>?_;obtain⟨i,a,rfl⟩:=List.getElem_of_mem b;have:=h i;rw[j8 l i a]at this;simp[this]
theorem vq{d:Nat}{e L:LL}{j:List Nat}{pv:List (Nat×LI)}{f:LI->LI}(hd:1<=d/\d<=3)(Y:Fx d 30 e)(E:∀z∈j,z<e.length)(hzl:j.length<=7){S:T}(hS:seqT S=.ok (j.map mI))(h:PP d 30 (fg e j) pv L)
  (hf:∀u∈e,(f u).length=d+1/\(∃g s y,0<g/\0<s/\Qs (rH pv) y/\∀i,g*vc (f u) i=s*vc u i+1*y i)/\∀p∈pv,vc (f u) p.1=0) :
  ie c [.int d,.lst (e.map tI),S]=.ok (if L.any (λr=>r.any (· != 0)) then .non else qt d e pv f):=by
 have sz:1000<sizeLine:=by decide
 have hn:=Y.few;have n:=kK Y E;have D:(fg e j).length=j.length:=by simp[fg]
 have zA:∀{u:LI} {m:Nat},u.length=m/\(∀x∈u,Bn 30 x)->u.length=m/\∀x∈u,Bn 50 x:=λq=>⟨q.1,λx B=>(q.2 x B).mono (by decide)⟩;have A:∀k,k<e.length->(e.getD k []).length=d+1/\∀x∈e.getD k [],Bn 30 x:=λk C=>(Y.gc _ (jb e k C)).gl;obtain⟨l,ea,ka⟩:=jT (c:=c) (d+1) (fg e j) (by lia) (by lia) λv J=>zA (n v J);obtain⟨ah0,e0,k0⟩:=jT (c:=c) d ((fg e j).map (·.take d)) (by lia) (by rw[ax];lia) λv J=>by obtain⟨u,hu,rfl⟩:=aD.mp J;have q:=n u hu;exact zA ⟨by rw[bI,q.1];lia,λx B=>q.2 x (dE B)⟩
 have U:=p9 h k0;let R (x3 x4:Oq W):En:=[some (.p (.int (d:Int))),some (.p (.lst (e.map tI))),some (.p S),x3,x4];have w:∀{g:Pe->M T} {ρ:Pe},g ρ=.ok S->fY g ρ=.ok (j.map mI):=λ{g ρ} q=>by have:fY g ρ=(g ρ).bind seqT:=rfl;rw[this,q];exact hS
 have er:iO [none,some 1,some 0] (fY (dX 2)) (iA 0) (λ_=>.ok true) (lA c) (vw (R (some (.p (.int (l.length:Int)))) none))=.ok (((fg e j).map (·.take d)).map tI):=iK j mI (λz=>tI ((e.getD z []).take d)) (w rfl) (by lia) (λz K=>⟨[some (mI z),some (.lst (e.map tI)),some (.int (d:Int))],rfl,rfl,by have q:=A z (E z K);have:=qB (ρ:=[some (mI z),some (.lst (e.map tI)),some (.int (d:Int))]) (fe:=eG gO (dX 1) (dX 0)) (fd:=dX 2) (ts:=(e.getD z []).map T.int) (d:=d) (ei rfl rfl (tR e tI z [] (E z K))) rfl (by rw[ax,q.1];lia);rw[<-cT]at this;exact this⟩) (by simp[fg])
 have c1:fS (eG (eW true) (eE (dW (gJ (iO [none,some 1,some 0] (fY (dX 2)) (iA 0) (λ_=>.ok true) (lA c))) d6) (fy c)) (dX 3)) (vw (R (some (.p (.int (l.length:Int)))) none))=.ok (!((pv.length:Int)==(l.length:Int))):=by refine eY (ei (x:=.int (pv.length:Int)) (y:=.int (l.length:Int)) (mz (f7 er) (by rw[e0,U])) rfl ?_);rw[nR]
 refine fG rfl (ee (ρ':=R (some (.p (.int (l.length:Int)))) none) (eT (mz (f7 (xy E (by lia) rfl (w rfl) rfl)) ea) rfl) ?_);cases hc:L.any λr=>r.any (· != 0) with
 |true=>
  obtain⟨r,I,ha⟩:=dG.mp hc;have hn':vc r d≠0:=λz=>by
   have:(r.any (· != 0))=false:=ik.mpr λi=>by
    by_cases hi:i<d
    .exact (h.rr r I).2.1 i hi
    .by_cases X:i=d
     .rw[X];exact z
     .exact iB r i (by rw[(h.rr r I).1];lia)
   rw[this]at ha;cases ha
  have m:=sP h I hn' ka;have hne:((pv.length:Int)==(l.length:Int))=false:=beq_eq_false_iff_ne.mpr (by lia);exact jm (gA (by rw[c1,hne];rfl) (eX rfl)) rfl
 |false=>
  have F:∀r∈L,vc r d=0:=λr I=>by have:=bA.mp hc r I;exact ik.mp (by simpa using this) d
  have al:=lr h F ka;have heq:((pv.length:Int)==(l.length:Int))=true:=beq_iff_eq.mpr (by lia);have ek:∀k,k<e.length->∃N:Nat,fy c [.lst ((fg e j++[e.getD k []]).map tI)]=.ok (.int (N:Int))/\decide (N=l.length)=!(f (e.getD k [])).any (· != 0):=λk C=>by
   obtain⟨ak,P,k1⟩:=jT (c:=c) (d+1) (fg e j++[e.getD k []]) (by lia) (by rw[aT,bQ];lia) λv J=>by
    rcases ai.mp J with q|q
    .exact zA (n v q)
    .rw[aj.mp q];exact zA (A k C)
   obtain⟨fl,⟨g,s,y,Z,Q,hy,ey⟩,fz⟩:=hf _ (jb e k C);have o:=lB h F Z Q hy ey fz fl k1;refine⟨ak.length,P,?_⟩;rw[al];cases B:(f (e.getD k [])).any (· != 0) with
   |false=>exact aC (o.mpr (ik.mp B))
   |true=>exact aB λz=>by rw[ik.mpr (o.mp z)]at B;cases B
  have e4:iO [none,some 3,some 1,some 2] (gW (dW (iQ iy (dW (dX 1) d6)) d6)) (iA 0) (fS (eG (eW false) (eE (dW (gJ (uO (gJ (iO [none,some 2] (fY (dX 3)) (iA 0) (λ_=>.ok true) (px c))) (gJ (lstM (dW (eG gO (dX 2) (dX 0)) d6))))) d6) (fy c)) (dX 1))) (pC c) (jG (R (some (.p (.int (l.length:Int)))) none))=.ok (((List.range e.length).filter λk=>!(f (e.getD k [])).any (· != 0)).map mI):=by refine oI (List.range e.length) mI mI (λk=>!(f (e.getD k [])).any (· != 0)) (kW e.length (by lia) (kC (t:=.lst (e.map tI)) rfl (by simp))) (by simp;lia) (λk C=>⟨[some (mI k),some (.int (l.length:Int)),some (.lst (e.map tI)),some S],rfl,?_,λ_=>rfl⟩) rfl;have H:=aS.mp C;obtain⟨N,P,e2⟩:=ek k H;refine eY (ei (x:=.int (N:Int)) (y:=.int (l.length:Int)) (mz (f7 (tJ (a:=(fg e j).map tI) (b:=[tI (e.getD k [])]) (f7 (xy E (by lia) rfl (w rfl) rfl)) (Jj (ei rfl rfl (tR e tI k [] H))) (by simp[D];lia))) (by rw[aZ]at P;exact P)) rfl ?_);rw[fE,<-e2];congr 2;rw[Bool.eq_iff_iff];simp;exact dJ
  refine ee (gz (by rw[c1,heq];rfl) rfl) (ee (eT (f7 e4) rfl) (eX ?_));exact y9 (ei (x:=.int (d:Int)) (y:=.int (l.length:Int)) rfl rfl (by rw[al];rfl)) (kC rfl rfl)
def A0(m:Nat)(a:LL)(v:Vc):Prop:=∀r∈a,i9 m (vc r) v=0
def yV{d:Nat}{x v:Vc}:i9 (d+1) x (λi=>if i<d then v i else 0)=i9 d x v:=by unfold i9;rw[tF];dsimp only;rw[aR (a9 _),dw,dh];exact fX _ _ _ λi a=>by rw[aQ a]
def uS{m:Nat}{a:LL}(f:m<=4)(d:a.length<=8)(e:∀v∈a,v.length=m/\∀x∈v,Bn 50 x):∃b,qL a m a.length b:=by obtain⟨b,_,k⟩:=jT (c:=⟨0,0,0,0,0,0,0,0,0,0,0,0,0⟩) m a f d e;exact⟨b,k⟩
section
variable {d:Nat}{cs rs rs':LL}{zs zs':List Nat}{pv pv':List (Nat×LI)}{f f':LI->LI}
theorem zX(hd:1<=d/\d<=3)(Y:Fx d 30 cs)(n:∀z∈zs,z<cs.length)(C:∀z∈zs',z<cs.length)(D:zs.length<=7)(A:zs'.length<=7)(h:PP d 30 (fg cs zs) pv rs)(h':PP d 30 (fg cs zs') pv' rs')
  (hf:∀u∈cs,(f u).length=d+1/\(∃g s y,0<g/\0<s/\Qs (rH pv) y/\∀i,g*vc (f u) i=s*vc u i+1*y i)/\∀p∈pv,vc (f u) p.1=0)
  (hf':∀u∈cs,(f' u).length=d+1/\(∃g s y,0<g/\0<s/\Qs (rH pv') y/\∀i,g*vc (f' u) i=s*vc u i+1*y i)/\∀p∈pv',vc (f' u) p.1=0)
  (X:∀v,A0 (d+1) (fg cs zs) v↔A0 (d+1) (fg cs zs') v) :
  (if rs.any (λr=>r.any (· != 0)) then T.non else qt d cs pv f)=(if rs'.any (λr=>r.any (· != 0)) then T.non else qt d cs pv' f'):=by
 have zA:∀{u:LI} {m:Nat},u.length=m/\(∀x∈u,Bn 30 x)->u.length=m/\∀x∈u,Bn 50 x:=λq=>⟨q.1,λx B=>(q.2 x B).mono (by decide)⟩;have H:∀{zs:List Nat},(∀z∈zs,z<cs.length)->zs.length<=7->∃L,qL (fg cs zs) (d+1) (fg cs zs).length L:=λ{zs} n D=>uS (by lia) (by simp[fg];lia) λv R=>zA (kK Y n v R);have F:∀{zs:List Nat},(∀z∈zs,z<cs.length)->zs.length<=7->∃L,qL ((fg cs zs).map (·.take d)) d ((fg cs zs).map (·.take d)).length L:=λ{zs} n D=>uS (by lia) (by simp[fg];lia) λv R=>by obtain⟨u,l,rfl⟩:=aD.mp R;have q:=kK Y n u l;exact zA ⟨by rw[bI,q.1];lia,λx B=>q.2 x (dE B)⟩
 have U:∀{zs:List Nat},(∀z∈zs,z<cs.length)->zs.length<=7->∀u∈cs,∃L,qL (fg cs zs++[u]) (d+1) (fg cs zs++[u]).length L:=λ{zs} n D u l=>uS (by lia) (by simp[fg];lia) λv R=>by
  rcases ai.mp R with q|q
  .exact zA (kK Y n v q)
  .rw[aj.mp q];exact zA (Y.gc u l).gl
 obtain⟨a1,k1⟩:=H n D;obtain⟨a1',N⟩:=H C A;obtain⟨a0,k0⟩:=F n D;obtain⟨a0',E⟩:=F C A;have s1:=lG k1 N X;have I:∀{zs:List Nat} {v:Vc},(∀r∈(fg cs zs).map (·.take d),i9 d (vc r) v=0)↔A0 (d+1) (fg cs zs) λi=>if i<d then v i else 0:=λ{zs v}=>⟨λq r j=>by rw[yV,<-nK];exact q _ (aD.mpr ⟨r,j,rfl⟩),λq r j=>by obtain⟨u,l,rfl⟩:=aD.mp j;rw[nK,<-yV];exact q u l⟩
 have s0:=lG k0 E λv=>I.trans ((X _).trans I.symm);have e0:=p9 h k0;have e0':=p9 h' E;have Q:pv.length=pv'.length:=by lia
 have left:∀{zs:List Nat} {rs:LL} {pv a:List (Nat×LI)},PP d 30 (fg cs zs) pv rs->qL (fg cs zs) (d+1) (fg cs zs).length a->((rs.any λr=>r.any (· != 0))=false↔a.length=pv.length):=λ{zs rs pv a} h k=>by
  constructor
  .intro P;exact lr h (λr j=>ik.mp (by simpa using bA.mp P r j) d) k
  .intro e;refine bA.mpr λr j z=>?_;have hn:vc r d≠0:=λw=>by
    have:(r.any (· != 0))=false:=ik.mpr λi=>by
     by_cases hi:i<d
     .exact (h.rr r j).2.1 i hi
     .by_cases hi':i=d
      .rw[hi'];exact w
      .exact iB r i (by rw[(h.rr r j).1];lia)
    rw[this]at z;cases z
   have:=sP h j hn k;lia
 have l1:=left h k1;have l2:=left h' N;cases P:rs.any λr=>r.any (· != 0) with
 |true=>
  cases t:rs'.any λr=>r.any (· != 0) with
  |true=>rfl
  |false=>have:=l2.mp t;have:(rs.any λr=>r.any (· != 0))=false:=l1.mpr (by lia);rw[P]at this;cases this
 |false=>
  have q1:=l1.mp P;have t:(rs'.any λr=>r.any (· != 0))=false:=l2.mpr (by lia);rw[t];have z1:∀r∈rs,vc r d=0:=λr j=>ik.mp (by simpa using bA.mp P r j) d;have z2:∀r∈rs',vc r d=0:=λr j=>ik.mp (by simpa using bA.mp t r j) d;have l:∀u∈cs,(f u).any (· != 0)=(f' u).any (· != 0):=λu l=>by
   obtain⟨b,kb⟩:=U n D u l;obtain⟨b',S⟩:=U C A u l;have sb:=lG kb S λv=>by
    constructor
    .intro q r j;rcases ai.mp j with w|w
     .exact (X v).mp (λr j=>q r (ay _ j)) r w
     .exact q r (bu _ w)
    .intro q r j;rcases ai.mp j with w|w
     .exact (X v).mpr (λr j=>q r (ay _ j)) r w
     .exact q r (bu _ w)
   obtain⟨fl,⟨g,s,y,hg0,Z,hy,ey⟩,fz⟩:=hf u l;obtain⟨fl',⟨g',s',y',J,K,hy',ey'⟩,fz'⟩:=hf' u l;have o:=lB h z1 hg0 Z hy ey fz fl kb;have o':=lB h' z2 J K hy' ey' fz' fl' S;have:(f u).any (· != 0)=false↔(f' u).any (· != 0)=false:=by rw[ik,ik,<-o,<-o',sb,Q]
   cases B:(f u).any (· != 0) with
   |false=>exact (this.mp B).symm
   |true=>
    cases hy:(f' u).any (· != 0) with
    |true=>rfl
    |false=>rw[this.mpr hy]at B;cases B
  simp only[bV,if_false];unfold qt;rw[Q];congr 4;congr 1;refine dM λk hk=>?_;rw[l _ (jb cs k (aS.mp hk))]
end
def IU(d:Nat)(a:LL)(pv:List (Nat×LI))(f:LI->LI):Ky:=((d:Int)-(pv.length:Int),((List.range a.length).filter λk=>!(f (a.getD k [])).any (· != 0)).map λ(k:Nat)=>(k:Int))
def Ba(d:Nat)(a:LL)(pv:List (Nat×LI))(f:LI->LI):Prop:=∀u∈a,(f u).length=d+1/\(∃g s y,0<g/\0<s/\Qs (rH pv) y/\∀i,g*vc (f u) i=s*vc u i+1*y i)/\∀p∈pv,vc (f u) p.1=0
def IK(d:Nat)(a:LL)(e:List Nat)(o:Oq Ky):Prop:=∃pv b f,PP d 30 (fg a e) pv b/\Ba d a pv f/\o=if b.any (λr=>r.any (· != 0)) then none else some (IU d a pv f)
def BW:Oq Ky->T
 |none=>.non
 |some g=>jQ g
def qC(d:Nat)(a:LL)(pv:List (Nat×LI))(f:LI->LI):qt d a pv f=jQ (IU d a pv f):=by unfold qt jQ IU;rw[aI];rfl
def xp(b:Bool)(g:Ky):(if b then T.non else jQ g)=BW (if b then none else some g):=by cases b<;>rfl
def FJ{f g:Ky}(h:jQ f=jQ g):f=g:=by have:=congrArg rq h;rw[ny,ny]at this;exact Option.some.inj this
def Fs{o a:Oq Ky}(h:BW o=BW a):o=a:=by
 cases o with
 |none=>
  cases a with
  |none=>rfl
  |some g=>cases h
 |some f=>
  cases a with
  |none=>cases h
  |some g=>rw[FJ h]
def FL(d:Nat)(a:LL)(b:List Nat):Oq Ky:=Classical.epsilon (IK d a b)
structure Vz(d:Nat)(cs:LL):Prop where
 hd:1<=d/\d<=3
 hg:Fx d 30 cs
def oz(b:LL)(a:List Nat):Prop:=(∀z∈a,z<b.length)/\a.length<=7
section
variable {d:Nat}{cs:LL}{zs zs':List Nat}{k:Nat}{g:Ky}
def vR{o b:Oq Ky}(V:Vz d cs)(e:oz cs zs)(a:oz cs zs')(h:IK d cs zs o)(h':IK d cs zs' b)(q:∀v,A0 (d+1) (fg cs zs) v↔A0 (d+1) (fg cs zs') v):o=b:=by obtain⟨pv,s,f,p,l,rfl⟩:=h;obtain⟨i,j,r,m,n,rfl⟩:=h';have:=zX V.hd V.hg e.1 a.1 e.2 a.2 p m l n q;rw[qC,qC,xp,xp]at this;exact Fs this
def C6(V:Vz d cs)(a:oz cs zs){S:T}(h:seqT S=.ok (zs.map mI)):∃o,IK d cs zs o/\gd c [.lst (cs.map tI),.int d,S]=.ok (BW o)/\ie c [.int d,.lst (cs.map tI),S]=.ok (BW o):=by obtain⟨pv,i,f,p,l,e⟩:=wL (c:=c) V.hd V.hg a.1 a.2 h;have b:=vq (c:=c) V.hd V.hg a.1 a.2 h p l;rw[qC,xp]at e b;exact⟨_,⟨pv,i,f,p,l,rfl⟩,e,b⟩
def vC(V:Vz d cs)(a:oz cs zs):IK d cs zs (FL d cs zs):=by obtain⟨o,h,_⟩:=C6 (c:=⟨0,0,0,0,0,0,0,0,0,0,0,0,0⟩) V a (S:=.lst (zs.map mI)) rfl;exact Classical.epsilon_spec (p:=IK d cs zs) ⟨o,h⟩
def BV(V:Vz d cs)(a:oz cs zs){S:T}(b:seqT S=.ok (zs.map mI)):gd c [.lst (cs.map tI),.int d,S]=.ok (BW (FL d cs zs))/\ie c [.int d,.lst (cs.map tI),S]=.ok (BW (FL d cs zs)):=by obtain⟨o,h,e⟩:=C6 (c:=c) V a b;rw[vR V a a h (vC V a) λ_=>Iff.rfl]at e;exact e
def yc(V:Vz d cs)(b:oz cs zs)(a:oz cs zs')(e:∀v,A0 (d+1) (fg cs zs) v↔A0 (d+1) (fg cs zs') v):FL d cs zs=FL d cs zs':=vR V b a (vC V b) (vC V a) e
def zA{u:LI}{m:Nat}(q:u.length=m/\∀x∈u,Bn 30 x):u.length=m/\∀x∈u,Bn 50 x:=⟨q.1,λx a=>(q.2 x a).mono (by decide)⟩
def KM(V:Vz d cs)(a:oz cs zs):∃e,qL (fg cs zs) (d+1) (fg cs zs).length e:=uS (by have:=V.hd;lia) (by have:=a.2;simp[fg];lia) λv b=>zA (kK V.hg a.1 v b)
def K4(V:Vz d cs)(a:oz cs zs){u:LI}(b:u∈cs):∃f,qL (fg cs zs++[u]) (d+1) (fg cs zs++[u]).length f:=uS (by have:=V.hd;lia) (by have:=a.2;simp[fg];lia) λv e=>by
 rcases ai.mp e with q|q
 .exact zA (kK V.hg a.1 v q)
 .rw[aj.mp q];exact zA (V.hg.gc u b).gl
def DF{a:LL}(h:(a.any λr=>r.any (· != 0))=false):∀r∈a,vc r d=0:=λr b=>ik.mp (by simpa using bA.mp h r b) d
def DD{f:LL}{pv:List (Nat×LI)}{a:LL}(p:PP d 30 a pv f)(h:(f.any λr=>r.any (· != 0))=true):∃r∈f,vc r d≠0:=by
 obtain⟨r,b,j⟩:=dG.mp h;refine⟨r,b,λz=>?_⟩;have:(r.any (· != 0))=false:=ik.mpr λi=>by
  by_cases l:i<d
  .exact (p.rr r b).2.1 i l
  .by_cases e:i=d
   .rw[e];exact z
   .exact iB r i (by rw[(p.rr r b).1];lia)
 rw[this]at j;cases j
def m5(V:Vz d cs)(i:oz cs zs)(h:FL d cs zs=some g):∃pv a f,PP d 30 (fg cs zs) pv a/\Ba d cs pv f/\(∀r∈a,vc r d=0)/\g=IU d cs pv f:=by
 obtain⟨pv,a,f,p,l,e⟩:=vC V i;rw[h]at e;cases b:a.any λr=>r.any (· != 0) with
 |true=>rw[b]at e;cases e
 |false=>rw[b]at e;exact⟨pv,a,f,p,l,DF b,Option.some.inj e⟩
def yw(V:Vz d cs)(i:oz cs zs)(h:FL d cs zs=none):∃pv a,PP d 30 (fg cs zs) pv a/\∃r∈a,vc r d≠0:=by
 obtain⟨pv,a,f,p,l,e⟩:=vC V i;rw[h]at e;cases b:a.any λr=>r.any (· != 0) with
 |false=>rw[b]at e;cases e
 |true=>exact⟨pv,a,p,DD p b⟩
def tW(V:Vz d cs)(A:oz cs zs){pv:List (Nat×LI)}{t:LL}{f:LI->LI}(p:PP d 30 (fg cs zs) pv t)(l:Ba d cs pv f)(z:∀r∈t,vc r d=0){u:LI}(o:u∈cs) :
  (f u).any (· != 0)=false↔∀v,A0 (d+1) (fg cs zs) v->i9 (d+1) (vc u) v=0:=by
 obtain⟨H,⟨g,s,y,j,m,B,n⟩,K⟩:=l u o;constructor
 .intro h v J;have I:=ik.mp h;have e:i9 (d+1) y v=0:=gG B λx ⟨q,hq,ex⟩=>by rw[ex];exact gG (p.pl q hq).2.2.2.2 λx ⟨r,a,ex⟩=>by rw[ex];exact J r a
  have F:∀i,s*vc u i = -(y i):=λi=>by have:=n i;rw[I i]at this;lia
  have L:s*i9 (d+1) (vc u) v=0:=by
   have:s*i9 (d+1) (vc u) v = -1*i9 (d+1) y v:=by unfold i9;rw[<-tw,<-tw];exact fX _ _ _ λi P=>by have:=F i;grind
   rw[this,e];rfl
  rcases dy.mp L with w|w
  .lia
  .exact w
 .intro h;obtain⟨N,C⟩:=KM V A;obtain⟨b,D⟩:=K4 V A o;have E:=lG D C λv=>by
   constructor
   .exact λq r a=>q r (ay _ a)
   .intro q r a;rcases ai.mp a with w|w
    .exact q r w
    .rw[aj.mp w];exact h v q
  exact ik.mpr ((lB p z j m B n K H D).mp (by rw[E];exact lr p z C))
def ot(V:Vz d cs)(b:oz cs zs)(h:FL d cs zs=some g):∃ks:List Nat,g.2=ks.map (λ(k:Nat)=>(k:Int))/\(∀k,k∈ks↔k<cs.length/\∀v,A0 (d+1) (fg cs zs) v->i9 (d+1) (vc (cs.getD k [])) v=0)/\ks.length<=cs.length/\ks.Pairwise (· < ·):=by
 obtain⟨pv,i,f,p,l,z,rfl⟩:=m5 V b h;refine⟨_,rfl,λk=>?_,?_,?_⟩
 .rw[aU,aS];constructor
  .rintro⟨a,e⟩;exact⟨a,(tW V b p l z (jb cs k a)).mp (by simpa using e)⟩
  .rintro⟨a,e⟩;exact⟨a,by simpa using (tW V b p l z (jb cs k a)).mpr e⟩
 .have:=dN (λk=>!(f (cs.getD k [])).any (· != 0)) (List.range cs.length);rwa [dH]at this
 .exact List.pairwise_lt_range.filter _
def fU{r:LI}:r∈fg cs zs↔∃z∈zs,r=cs.getD z []:=by unfold fg;rw[aD];exact⟨λ⟨z,h,e⟩=>⟨z,h,e.symm⟩,λ⟨z,h,e⟩=>⟨z,h,e.symm⟩⟩
def j7{v:Vc}:A0 (d+1) (fg cs (zs++[k])) v↔A0 (d+1) (fg cs zs) v/\i9 (d+1) (vc (cs.getD k [])) v=0:=by
 constructor
 .intro h;exact⟨λr a=>h r (by obtain⟨z,b,e⟩:=fU.mp a;exact fU.mpr ⟨z,ay _ b,e⟩),h _ (fU.mpr ⟨k,by simp,rfl⟩)⟩
 .rintro⟨f,i⟩ r a;obtain⟨z,b,rfl⟩:=fU.mp a;rcases ai.mp b with q|q
  .exact f _ (fU.mpr ⟨z,q,rfl⟩)
  .rw[aj.mp q];exact i
def oz.snoc(a:oz cs (zs++[k])):oz cs zs:=⟨λz h=>a.1 z (ay _ h),by have:=a.2;simp at this;lia⟩
def vE{a b:List Nat}(h:a.map (λ(k:Nat)=>(k:Int))=b.map λ(k:Nat)=>(k:Int)):a=b:=(cA (f:=λ(k:Nat)=>(k:Int)) λx y w=>dJ.mp w).mp h
def Da(V:Vz d cs)(i:oz cs (zs++[k])){ks:List Nat}(l:oz cs (ks++[k]))(h:FL d cs zs=some g)(n:g.2=ks.map (λ(k:Nat)=>(k:Int))):FL d cs (ks++[k])=FL d cs (zs++[k]):=by
 obtain⟨f,e,m,_⟩:=ot V i.snoc h;have:ks=f:=vE (n.symm.trans e);subst this;refine yc V l i λv=>?_;rw[j7,j7];refine and_congr_left λ_=>⟨λh r b=>?_,λh r b=>?_⟩
 .obtain⟨z,a,rfl⟩:=fU.mp b;exact h _ (fU.mpr ⟨z,(m z).mpr ⟨i.1 z (ay _ a),λv j=>j _ b⟩,rfl⟩)
 .obtain⟨z,a,rfl⟩:=fU.mp b;exact ((m z).mp a).2 v h
def xU(V:Vz d cs)(l:oz cs (zs++[k]))(h:FL d cs zs=none):FL d cs (zs++[k])=none:=by
 obtain⟨pv,z,p,r,a,t⟩:=yw V l.snoc h;cases e:FL d cs (zs++[k]) with
 |none=>rfl
 |some g=>
  obtain⟨i,s,y,b,B,o,rfl⟩:=m5 V l e;obtain⟨u,n⟩:=KM V l;have:=iT (os:=i++[(d,r)]) n (λq f=>by
   rcases ai.mp f with w|w
   .exact⟨by have:=(b.pl q w).1;lia,(b.pl q w).2.2.1⟩
   .rw[aj.mp w];exact⟨bC d,t⟩) (dA.mpr ⟨b.tri,cD _ _,λq f A j=>by rw[aj.mp j];exact (p.rr r a).2.1 _ (b.pl q f).1⟩) λv m q f=>by
   rcases ai.mp f with w|w
   .exact gG (b.pl q w).2.2.2.2 λx ⟨r,a,ex⟩=>by rw[ex];exact m r a
   .rw[aj.mp w];exact gG (p.rr r a).2.2 λx ⟨r,a,ex⟩=>by rw[ex];exact (j7.mp m).1 r a
  rw[lr b o n]at this;simp at this;exact absurd this (Nat.not_succ_le_self _)
def BA(V:Vz d cs):∃g,FL d cs []=some g:=by
 cases e:FL d cs [] with
 |some g=>exact⟨g,rfl⟩
 |none=>
  obtain⟨pv,f,p,r,a,b⟩:=yw V ⟨λ_ h=>absurd h dO,bD _⟩ e;have:=gG (m:=d+1) (v:=λi=>if i=d then 1 else 0) (p.rr r a).2.2 λx ⟨r,a,_⟩=>by simp[fg]at a
  refine absurd ?_ b;unfold i9 at this;rw[tF]at this;rw[fX d _ (λ_=>0) λi j=>by dsimp only;rw[aR (by lia),dw],kD]at this;simpa using this
def CC(V:Vz d cs)(a:oz cs zs)(h:FL d cs zs=some g):0<=g.1/\g.1<=d:=by obtain⟨pv,b,f,p,l,z,rfl⟩:=m5 V a h;have:=p.short;unfold IU;dsimp only;lia
def EH{B:Ky}(V:Vz d cs)(j:oz cs (zs++[k]))(h:FL d cs zs=some g)(h':FL d cs (zs++[k])=some B)(E:(k:Int)∉g.2):B.1<g.1:=by
 obtain⟨I,e,m,_⟩:=ot V j.snoc h;have i:k<cs.length:=j.1 k (by simp);have S:k∉I:=λw=>E (by rw[e];exact aD.mpr ⟨k,w,rfl⟩);obtain⟨pv,rs,f,p,l,z,rfl⟩:=m5 V j.snoc h;obtain⟨F,H,Z,K,l',D,rfl⟩:=m5 V j h';obtain⟨a,C⟩:=KM V j;obtain⟨b,t⟩:=K4 V j.snoc (jb cs k i);have U:a.length=b.length:=lG C t λv=>by
  constructor
  .intro q r n;rcases ai.mp n with w|w
   .exact (j7.mp q).1 r w
   .rw[aj.mp w];exact (j7.mp q).2
  .intro q;exact j7.mpr ⟨λr n=>q r (ay _ n),q _ (by simp)⟩
 have X:=lr K D C;have N:=iT t (λq o=>⟨by have:=(p.pl q o).1;lia,(p.pl q o).2.2.1⟩) p.tri λv P q o=>gG (p.pl q o).2.2.2.2 λx ⟨r,n,ex⟩=>by rw[ex];exact P r (ay _ n)
 obtain⟨L,⟨Y,s,y,u,A,R,J⟩,Q⟩:=l _ (jb cs k i);have ne:b.length≠pv.length:=λw=>S ((m k).mpr ⟨i,(tW V j.snoc p l z (jb cs k i)).mp (ik.mpr ((lB p z u A R J Q L t).mp w))⟩);unfold IU;dsimp only;lia
end
def iI(n:Nat)(p:Nat->Bool):List Nat:=(List.range n).filter p
def t8{n:Nat}{p:Nat->Bool}:∀z∈iI n p,z<n:=λz h=>aS.mp (aU.mp h).1
def vb(n:Nat)(p:Nat->Bool):(iI n p).length<=n:=by have:=dN p (List.range n);rwa [dH]at this
def oy(n:Nat)(p:Nat->Bool):iI (n+1) p=iI n p++(if p n then [n] else []):=by unfold iI;rw[List.range_succ,List.filter_append];congr 1;cases h:p n<;>simp[h]
def jE{n:Nat}{p q:Nat->Bool}(h:∀k,k<n->p k=q k):iI n p=iI n q:=dM λk a=>h k (aS.mp a)
def qm(a:List Ky):Oq Ky->List Ky
 |none=>a
 |some g=>qI a g
def EF(a:List Ky)(o:Oq Ky):Bb a (BW o)=.ok (qm a o):=by
 cases o with
 |none=>rfl
 |some g=>unfold BW Bb qm;have:rq (jQ g)=some g:=ny g;unfold jQ at this ⊢;simp only[this]
def Dg{a:List Ky}{g x:Ky}:x∈qI a g↔x∈a\/x=g:=by
 unfold qI;split
 .rename_i h;exact⟨.inl,λb=>b.elim id λe=>e▸h⟩
 .simp
def BR{a:List Ky}{o:Oq Ky}{x:Ky}:x∈qm a o↔x∈a\/o=some x:=by
 cases o with
 |none=>simp[qm]
 |some g=>unfold qm;rw[Dg];exact or_congr_right ⟨λh=>by rw[h],λh=>(Option.some.inj h).symm⟩
def w9{d:List Ky}(o:Oq Ky)(h:d.Nodup):(qm d o).Nodup:=by
 cases o with
 |none=>exact h
 |some g=>
  show (qI d g).Nodup;unfold qI;split
  .exact h
  .rename_i i;exact List.nodup_append.mpr ⟨h,by simp,λa j b f e=>by rw[aj.mp f]at e;exact i (e▸j)⟩
def B7(a:List Ky)(o:Oq Ky):(qm a o).length<=a.length+1:=by
 cases o with
 |none=>exact bF _
 |some g=>exact Di a g
section
variable {α:Type}{φ:α->Option Ky}
def qH(φ:α->Option Ky)(l:List α)(b:List Ky):List Ky:=l.foldl (λa x=>qm a (φ x)) b
theorem oq{x:Ky}:∀{l:List α} {a:List Ky},x∈qH φ l a↔x∈a\/∃y∈l,φ y=some x
 |[],a=>by simp[qH]
 |y::l,a=>by show x∈qH φ l (qm a (φ y))↔_;rw[oq,BR];simp only[aF,exists_eq_or_imp,or_assoc]
theorem lz:∀{l:List α} {a:List Ky},a.Nodup->(qH φ l a).Nodup
 |[],_,h=>h
 |y::l,_,h=>lz (l:=l) (w9 (φ y) h)
theorem pT{st:T->List Ky->M (List Ky)}{enc:α->T}{N:Nat}:∀(l:List α) (b:List Ky),b.length+l.length<=N->(∀x∈l,∀a:List Ky,a.length<N->st (enc x) a=.ok (qm a (φ x)))->kx st (l.map enc) b=.ok (qH φ l b)
 |[],_,_,_=>rfl
 |y::l,b,h,hs=>by rw[az]at h;show (st (enc y) b).bind (kx st (l.map enc))=_;rw[hs y bh b (by lia)];have:=B7 b (φ y);exact pT l _ (by lia) λx d=>hs x (bj _ d)
end
def wW{l m:List Ky}(h:l.Perm m):iD l=iD m:=by refine vi ((c6 l uj).trans h) ?_;refine (c7 C3 xZ l).imp λ{a b} z=>?_;unfold uj at z;simpa using z
theorem uY:∀(n:Nat) (p:Nat->Bool),∃b:Nat,b<2 ^ n/\∀k,k<n->(Builtin.bitAnd ((b:Int) / 2 ^ k) 1==1)=p k
 |0,_=>⟨0,by decide,λk a=>absurd a (cU _)⟩
 |n+1,p=>by
  obtain⟨b,d,h⟩:=uY n λk=>p (k+1);refine⟨2*b+(if p 0 then 1 else 0),?_,λk a=>?_⟩
  .rw[cW];split<;>lia
  .rw[PyProof.Rows.bitAnd_m1];cases k with
   |zero=>
    rw[Int.pow_zero,Int.ediv_one];cases p 0
    .simp
    .simp_all
   |succ k=>
    rw[<-h k (by lia),PyProof.Rows.bitAnd_m1,Int.pow_succ,cN,<-Int.ediv_ediv_of_nonneg (by decide)];have:((2*b+(if p 0 then 1 else 0):Nat):Int) / 2=b:=by split<;>lia
    rw[this]
def qu(b:Nat):Nat->Bool:=λk=>Builtin.bitAnd ((b:Int) / 2 ^ k) 1==1
section
variable {d:Nat}{cs:LL}
def nC(b:cs.length<=7){n:Nat}(a:n<=cs.length)(p:Nat->Bool):oz cs (iI n p):=⟨λz h=>aE (t8 z h) a,aN (vb n p) (by lia)⟩
def uQ(b:cs.length<=7){k:Nat}(a:k<cs.length)(p:Nat->Bool):oz cs (iI k p++[k]):=by
 refine⟨λz h=>?_,?_⟩
 .rcases ai.mp h with q|q
  .have:=t8 z q;lia
  .rw[aj.mp q];exact a
 .have:=vb k p;simp;lia
def pF(d:Nat)(cs:LL)(k:Nat)(a:List Ky):Prop:=a.Nodup/\∀g,g∈a↔∃p,FL d cs (iI k p)=some g
def Dj(l:LI):List Nat:=l.map Int.toNat
def rY(ks:List Nat):Dj (ks.map λ(k:Nat)=>(k:Int))=ks:=by unfold Dj;rw[aI];exact (cE λk _=>by simp).trans (List.map_id ks)
def CK(d:Nat)(cs:LL)(k:Nat)(a:List Ky):List Ky:=qH (λf:Ky=>FL d cs (Dj f.2++[k])) a a
def z9(V:Vz d cs)(v:cs.length<=6){k:Nat}(i:k<cs.length){b:List Ky}(h:pF d cs k b):pF d cs (k+1) (CK d cs k b):=by
 refine⟨lz h.1,λg=>?_⟩;unfold CK;rw[oq];have o:∀(p:Nat->Bool) (f:Ky),FL d cs (iI k p)=some f->FL d cs (Dj f.2++[k])=FL d cs (iI k p++[k]):=λp f e=>by
  obtain⟨w,l,m,x,_⟩:=ot V (nC (by lia) (by lia) p) e;rw[l,rY];exact Da V (uQ (by lia) i p) ⟨λz t=>by
   rcases ai.mp t with q|q
   .exact ((m z).mp q).1
   .rw[aj.mp q];exact i,by simp;lia⟩ e l
 constructor
 .rintro (s|⟨f,u,e⟩)
  .obtain⟨p,e⟩:=(h.2 g).mp s;refine⟨λj=>p j&&decide (j<k),?_⟩;rw[oy,show (p k&&decide (k<k))=false by simp,aR (by decide),bE];rw[jE (q:=p) λj r=>by simp[r]];exact e
  .obtain⟨p,a⟩:=(h.2 f).mp u;rw[o p f a]at e;refine⟨λj=>if j=k then true else p j,?_⟩;rw[oy,aQ (by simp),jE (q:=p) λj r=>by rw[aR (by lia)]];exact e
 .rintro⟨p,e⟩;rw[oy]at e;cases n:p k with
  |false=>rw[n]at e;simp only[bV,if_false,bE]at e;exact .inl ((h.2 g).mpr ⟨p,e⟩)
  |true=>
   rw[n]at e;simp only[if_true]at e;cases a:FL d cs (iI k p) with
   |none=>rw[xU V (uQ (by lia) i p) a]at e;cases e
   |some f=>exact .inr ⟨f,(h.2 f).mpr ⟨p,a⟩,by rw[o p f a];exact e⟩
def vM{k:Nat}{a:List Ky}(h:pF d cs k a):a.length<=2 ^ k:=by
 have:=List.Nodup.length_le_of_subset (l₂:=(List.range (2 ^ k)).filterMap λb=>FL d cs (iI k (qu b))) h.1 λg i=>by obtain⟨p,e⟩:=(h.2 g).mp i;obtain⟨b,f,j⟩:=uY k p;exact bt.mpr ⟨b,aS.mpr f,by rw[show iI _ (qu b)=iI _ p from jE j];exact e⟩
 have l:=dP (λb=>FL d cs (iI k (qu b))) (List.range (2 ^ k));rw[dH]at l;lia
def An{k:Nat}{l m:List Ky}(h:pF d cs k l)(h':pF d cs k m):l.Perm m:=(List.perm_ext_iff_of_nodup h.1 h'.1).mpr λg=>(h.2 g).trans (h'.2 g).symm
def sC(k:Nat):pF d cs k (qH (λb=>FL d cs (iI k (qu b))) (List.range (2 ^ k)) []):=by
 refine⟨lz List.nodup_nil,λg=>?_⟩;rw[oq];constructor
 .rintro (h|⟨b,_,e⟩)
  .cases h
  .exact⟨_,e⟩
 .rintro⟨p,e⟩;obtain⟨b,a,f⟩:=uY k p;exact .inr ⟨b,aS.mpr a,by rw[show iI _ (qu b)=iI _ p from jE f];exact e⟩
theorem pk(V:Vz d cs)(f:cs.length<=6):∀n,n<=cs.length->FL d cs (List.range n)=none\/(∃j,j<n/\∃g,FL d cs (List.range j)=some g/\(j:Int)∈g.2)\/∃g,FL d cs (List.range n)=some g/\g.1<=(d:Int)-n
 |0,_=>by obtain⟨g,e⟩:=BA V;exact .inr (.inr ⟨g,e,by have:=(CC V ⟨λ_ h=>absurd h dO,bD _⟩ e).2;lia⟩)
 |n+1,hn=>by
  have b:oz cs (List.range n++[n]):=⟨λz h=>by
   rcases ai.mp h with q|q
   .have:=aS.mp q;lia
   .rw[aj.mp q];lia,by simp;lia⟩
  rw[List.range_succ];cases e:FL d cs (List.range n++[n]) with
  |none=>exact .inl rfl
  |some g'=>
   rcases pk V f n (by lia) with q|⟨j,k,q⟩|⟨g,q,i⟩
   .rw[xU V b q]at e;cases e
   .exact .inr (.inl ⟨j,by lia,q⟩)
   .by_cases a:(n:Int)∈g.2
    .exact .inr (.inl ⟨n,by lia,g,q,a⟩)
    .have:=EH V b q e a;exact .inr (.inr ⟨g',rfl,by lia⟩)
def uw(V:Vz d cs)(K:cs.length<=6){k:List Ky}(h:pF d cs cs.length k):k.length<64:=by
 by_cases t:cs.length<=5
 .have:=vM h;have h5:2 ^ cs.length<=2 ^ 5:=cV (by decide) t;lia
 have t:cs.length=6:=by lia
 obtain⟨l,x,w⟩:=uY cs.length λ_=>true;have sub:∀g∈k,g∈((List.range (2 ^ cs.length)).filter λb=>b != l).filterMap λb=>FL d cs (iI cs.length (qu b)):=λg U=>by
  have go:∀p:Nat->Bool,FL d cs (iI cs.length p)=some g->(∃j,j<cs.length/\p j=false)->g∈((List.range (2 ^ cs.length)).filter λb=>b != l).filterMap λb=>FL d cs (iI cs.length (qu b)):=λp e ⟨j,a,hpj⟩=>by
   obtain⟨b,J,E⟩:=uY cs.length p;refine bt.mpr ⟨b,aU.mpr ⟨aS.mpr J,?_⟩,by rw[show iI _ (qu b)=iI _ p from jE E];exact e⟩;have:b≠l:=λz=>by have D:=E j a;have C:=w j a;rw[z]at D;rw[D,hpj]at C;cases C
   simpa using this
  obtain⟨p,e⟩:=(h.2 g).mp U;by_cases B:∃j,j<cs.length/\p j=false
  .exact go p e B
  .have pt:∀j,j<cs.length->p j=true:=λj a=>by
    cases q:p j with
    |true=>rfl
    |false=>exact absurd ⟨j,a,q⟩ B
   have A:iI cs.length p=List.range cs.length:=List.filter_eq_self.mpr λj a=>pt j (aS.mp a);rcases pk V K cs.length (aK _) with q|⟨j,a,P,q,I⟩|⟨P,q,N⟩
   .rw[A,q]at e;cases e
   .refine go (λi=>decide (i≠j)) ?_ ⟨j,a,by simp⟩;rw[<-e,A];have L:oz cs (List.range j):=⟨λz h=>by have:=aS.mp h;lia,by simp;lia⟩;obtain⟨Z,Q,m,_⟩:=ot V L q;have X:=(m j).mp (by rw[Q]at I;obtain⟨z,f,S⟩:=aD.mp I;rw[<-dJ.mp S];exact f)
    refine yc V (nC (by lia) (aK _) _) ⟨λz h=>aS.mp h,by simp;lia⟩ λv=>⟨λo r n=>?_,λo r n=>?_⟩
    .obtain⟨z,f,rfl⟩:=fU.mp n;have f:=aS.mp f;by_cases F:z=j
     .subst F;exact X.2 v λr n=>by obtain⟨y,u,rfl⟩:=fU.mp n;have u:=aS.mp u;exact o _ (fU.mpr ⟨y,aU.mpr ⟨aS.mpr (by lia),by simpa using aM u⟩,rfl⟩)
     .exact o _ (fU.mpr ⟨z,aU.mpr ⟨aS.mpr f,by simpa using F⟩,rfl⟩)
    .obtain⟨z,f,rfl⟩:=fU.mp n;exact o _ (fU.mpr ⟨z,aS.mpr (t8 z f),rfl⟩)
   .have:=(CC V ⟨λz h=>aS.mp h,by simp;lia⟩ q).1;have:=V.hd.2;lia
 have R:=List.Nodup.length_le_of_subset h.1 sub;have Y:=dP (λb=>FL d cs (iI cs.length (qu b))) ((List.range (2 ^ cs.length)).filter λb=>b != l);have H:((List.range (2 ^ cs.length)).filter λb=>b != l).length<(List.range (2 ^ cs.length)).length:=List.length_filter_lt_length_iff_exists.mpr ⟨l,aS.mpr x,by simp⟩;rw[dH]at H;have s:2 ^ cs.length=64:=by rw[t]
 rw[s]at R Y H;lia
end
def IC a b:w5 (tI a) (tI b)=true↔a=b:=by unfold tI;rw[lS,oo,decide_eq_true_eq]
def Iv(h:fa ρ=.ok (.bl true))(a:fb ρ=.ok t):vL fa fb ρ=.ok t:=by simp only[vL,fS,h,M.bind_ok,a,if_true]
section
variable {d:Nat}{cs:LL}
def EM{j fe:Pe->M T}{k:Pe->M (List T)}{f e b i:Nat}{ρ:En}{g:Ky}{a:List T}{l:List Ky}(o:j (jG ρ)=.ok (jQ g))(n:k (((((jG ρ).set f none).set i none).set e none).set b none)=.ok a)
  (m:kx (zl fe e b (((((jG ρ).set f none).set i none).set e none).set b none)) a [g]=.ok l) (h:l.length<64):zO j fe k f e b i ρ=.rf ((iD l).map jQ):=by
 unfold zO;rw[o,O.of_ok,ny];dsimp only;rw[n,O.of_ok,m];unfold EC;rw[O.of_ok,aQ h]
def E8{fe:Pe->M T}{h:Pe->M (List T)}{e b g:Nat}{ρ:En}{a:List T}{l:List Ky}(j:h ((((jG ρ).set e none).set g none).set b none)=.ok a)
  (i:kx (DO fe b ((((jG ρ).set e none).set g none).set b none)) a []=.ok l) (f:l.length<64):By fe h e b g ρ=.rf ((iD l).map jQ):=by
 unfold By;rw[j,O.of_ok,i];unfold EC;rw[O.of_ok,aQ f]
def Bx{fe:Pe->M T}{b:Nat}{ρ:Pe}{t:T}{a:List Ky}{o:Oq Ky}(e:a.length<1000)(h:fe (ρ.set b (some t))=.ok (BW o)):DO fe b ρ t a=.ok (qm a o):=by unfold DO;rw[aQ e,h,M.bind_ok,EF]
def BE{k n:Nat}{g:En->O}{ts us:List T}(a:ts.length=k)(h:g (e7 n ts)=.rf us):vU k n g ts=.ok us:=by unfold vU;rw[aQ a,h];rfl
theorem vk(V:Vz d cs)(n:cs.length<=6){fe:Pe->M T}{ρ:Pe}(g:∀(k:Nat) (f:Ky) (p:Nat->Bool),k<cs.length->FL d cs (iI k p)=some f->fe ((ρ.set 4 (some (.int (k:Int)))).set 5 (some (jQ f)))=.ok (BW (FL d cs (Dj f.2++[k])))) :
  ∀(m k:Nat) (b:List Ky),k+m=cs.length->pF d cs k b->∃l,kx (zl fe 4 5 ρ) ((List.range' k m).map λ(i:Nat)=>T.int (i:Int)) b=.ok l/\pF d cs cs.length l
 |0,k,b,h,ha=>⟨b,rfl,by rw[<-h];exact ha⟩
 |m+1,k,b,h,ha=>by
  have t:=vM ha;have q:2 ^ k<=2 ^ 6:=cV (by decide) (by lia);have e:zl fe 4 5 ρ (.int (k:Int)) b=.ok (CK d cs k b):=pT (N:=1000) (enc:=jQ) b b (by lia) λf r a j=>by obtain⟨p,e⟩:=(ha.2 f).mp r;exact Bx j (g k f p (by lia) e)
  obtain⟨l,o,s⟩:=vk V n g m (k+1) _ (by lia) (z9 V n (by lia) ha);refine⟨l,?_,s⟩;rw[List.range'_succ,bB];show (zl fe 4 5 ρ (.int (k:Int)) b).bind _=_;rw[e];exact o
def De(V:Vz d cs)(j:cs.length<=6):∃l,pF d cs cs.length l/\m4 c [nW c d cs]=.ok ((iD l).map jQ):=by
 have sz:1000<sizeLine:=by decide
 obtain⟨i,b⟩:=BA V;have v:pF d cs 0 [i]:=⟨by simp,λg=>⟨λh=>⟨λ_=>false,by rw[aj.mp h];exact b⟩,λ⟨p,h⟩=>by have n:FL d cs []=some g:=h;rw[b]at n;rw[Option.some.inj n];simp⟩⟩
 have A:oz cs []:=⟨λ_ h=>absurd h dO,bD _⟩;obtain⟨l,w,o⟩:=vk V j (fe:=eE (dW (dX 1) (dW (dX 2) (dW (eG gH (eG gO (dX 5) (cM (.int 1))) (l8 (dW (dX 4) d6))) d6))) (gd c)) (ρ:=[some (nW c d cs),some (.lst (cs.map tI)),some (.int (d:Int)),none,none,none,none]) (λk f p u e=>by
   obtain⟨a,r,m,E,_⟩:=ot V (nC (by lia) (by lia) p) e;have ok:oz cs (a++[k]):=⟨λz B=>by
    rcases ai.mp B with q|q
    .exact ((m z).mp q).1
    .rw[aj.mp q];exact u,by simp;lia⟩
   have D:seqT (.tup (a.map mI++[.int (k:Int)]))=.ok ((a++[k]).map mI):=by simp[seqT]
   rw[r,rY];have C:f.2.map T.int=a.map mI:=by rw[r,aI];rfl
   refine jN rfl rfl (ei (x:=.tup (a.map mI)) (y:=.tup [.int (k:Int)]) (ei (x:=jQ f) rfl rfl (by unfold jQ;rw[C];rfl)) rfl ?_) (BV V ok D).1;simp[gH];lia) cs.length 0 [i] (by lia) v
 refine⟨l,o,BE rfl ?_⟩;have s:(λρ=>if ρ.length=7 then zO (eE (dW (dX 1) (dW (dX 2) (dW (gJ (lstM d6)) d6))) (gd c)) (eE (dW (dX 1) (dW (dX 2) (dW (eG gH (eG gO (dX 5) (cM (.int 1))) (l8 (dW (dX 4) d6))) d6))) (gd c)) (gW (dW (iQ iy (dW (dX 1) d6)) d6)) 3 4 5 6 ρ else .bad:En->O)
   [some (.p (nW c d cs)),some (.p (.lst (cs.map tI))),some (.p (.int (d:Int))),none,none,none,none]=.rf ((iD l).map jQ):=by
  refine (aQ rfl).trans (EM (g:=i) ?_ (kW cs.length (by lia) (kC (t:=.lst (cs.map tI)) rfl (by simp))) ?_ (uw V j o))
  .refine jN rfl rfl (z:=.lst []) rfl ?_;rw[(BV V A (S:=.lst []) rfl).1,b];rfl
  .rw[List.range_eq_range'];exact w
 exact ee (eT (f7 (Eu d cs rfl)) rfl) (ee (eT (ES d cs rfl) rfl) s)
def tq(V:Vz d cs)(g:cs.length<=6):∃l,pF d cs cs.length l/\jg c [.int d,.lst (cs.map tI)]=.ok ((iD l).map jQ):=by
 have sz:1000<sizeLine:=by decide
 refine⟨_,sC cs.length,BE rfl ?_⟩;have j:2 ^ cs.length<=2 ^ 6:=cV (by decide) g;have e:E5 (.int 1) (.int (cs.length:Int))=.ok (.int ((2 ^ cs.length:Nat):Int)):=by
  have h:(cs.length:Int)<=1000000:=by lia
  simp[E5,gB,h]
 refine (aQ rfl).trans (E8 (kW (2 ^ cs.length) (by lia) (ei (y:=.int (cs.length:Int)) rfl (kC (t:=.lst (cs.map tI)) rfl (by simp)) e)) ?_ (uw V g (sC cs.length)));refine pT (N:=1000) (enc:=λ(b:Nat)=>T.int (b:Int)) _ _ (by simp;lia) λb m a f=>Bx f ?_;have i:iO [none,some 3] (gW (dW (iQ iy (dW (dX 1) d6)) d6)) (iA 0) (fS (eG (eW false) (eG vo (eG CW (dX 1) (dX 0)) (cM (.int 1))) (cM (.int 1)))) (nj c) [some (.int (d:Int)),some (.lst (cs.map tI)),none,some (.int (b:Int)),none]=.ok ((iI cs.length (qu b)).map mI):=oI (List.range cs.length) mI mI (qu b) (kW cs.length (by lia) (kC (t:=.lst (cs.map tI)) rfl (by simp))) (by simp;lia) (λk n=>⟨_,rfl,eY (ei (ei (ei rfl rfl (Fy (b:Int) k)) rfl (BH _ _)) rfl (fE _ _)),λ_=>rfl⟩) rfl
 exact jN rfl rfl (f7 i) (BV V (nC (by lia) (aK _) _) rfl).2
end
def H9(a b:Ky):w5 (jQ a) (jQ b)=true↔a=b:=by obtain⟨e,g⟩:=a;obtain⟨f,d⟩:=b;unfold jQ;rw[lS,kn,kn,lS,oo];simp
def GX(l:List Ky):eW true (.lst (l.map jQ)) (.lst (l.map jQ))=.ok (.bl false):=by
 have d:mQ (.lst (l.map jQ))=true:=kh jQ l λg _=>by have:lL (g.2.map T.int)=true:=Ab g.2;simp[jQ,mQ,lL,this]
 have e:mK (l.map jQ)<=2:=kq jQ 2 l λg _=>by have:=n9 g.2;unfold jQ;rw[uh,nZ,nZ,uh,EE,B0];lia
 have b:wj (.lst (l.map jQ))<=100:=by rw[yQ];lia
 have a:w5 (.lst (l.map jQ)) (.lst (l.map jQ))=true:=by rw[pM];exact (nH jQ H9 l l).mpr rfl
 unfold eW;rw[d,a,aC b];rfl
def ID(l:LL):eW true (.lst (l.map tI)) (.lst (l.map tI))=.ok (.bl false):=by
 have d:mQ (.lst (l.map tI))=true:=AS l;have e:=qW l;have b:wj (.lst (l.map tI))<=100:=by rw[yQ];lia
 have a:w5 (.lst (l.map tI)) (.lst (l.map tI))=true:=by rw[pM];exact (nH tI IC l l).mpr rfl
 unfold eW;rw[d,a,aC b];rfl
def wo(g:Ky)(d:g.2.length<1000):hU c [jQ g]=.ok (.bl true):=by
 have sz:1000<sizeLine:=by decide
 have b:iO [none] (fY (eG gO (dX 0) (cM (.int 1)))) (iA 0) (λ_=>.ok true) (lN c) [some (jQ g)]=.ok (g.2.map λ_=>T.bl true):=iK g.2 T.int (λ_=>T.bl true) rfl (by lia) (λi _=>⟨_,rfl,rfl,mz rfl rfl⟩) rfl
 have a:rA [.lst (g.2.map λ_=>T.bl true)]=.ok (.bl true):=by have:=nT (g.2.map λ_=>true);rw[aI]at this;refine this.trans ?_;simp
 exact fG rfl (ee (gz (xW rfl (xW rfl rfl)) rfl) (eX (Iv (mz rfl rfl) (oY b a))))
def Ac ns:mZ c [.scr ns]=.ok (.bl true):=by
 have sz:1000<sizeLine:=by decide
 let b:Nat×LL->T:=λx=>.tup [.int (x.1:Int),.lst (x.2.map tI)];obtain⟨X,B⟩:=oO (P:=λ(k:Nat) (x:Nat×LL)=>(∃a,fH c [.scr ns,.int (k:Int)]=.ok (.int a)/\gE c [.int a,.int 6]=.ok (b x))/\Vz x.1 x.2/\x.2.length<=6) [0,1] λk _=>by obtain⟨a,i,-⟩:=wx (c:=c) ns k;obtain⟨d,I,u,H,h,K⟩:=wD (c:=c) a 6 (by decide);exact⟨(d,I),⟨a,i,u⟩,⟨H,h⟩,K⟩
 let R (n j q f:Oq W):En:=[some (.p (.scr ns)),some (.p (.lst ([0,1].map λk=>b (X k)))),n,j,q,f];obtain⟨v,e,N,S,Q,U,rfl⟩:=sD (m:=lE 2 (f9 (lj 2) (f9 (lj 3) lR))) (g:=rR c) (λ(k:Nat)=>b (X k)) (λv=>∃n j q f,v=R n j q f) [0,1,0] (R none none none none) ⟨_,_,_,_,rfl⟩ (by
  rintro k s v ⟨n,j,q,f,rfl⟩;obtain⟨-,V,r⟩:=B k (by simp at s ⊢;lia);have F:=Fi (c:=c) (X k).1 30 (X k).2 V.hd (by decide) V.hg;obtain⟨l,y,t⟩:=De (c:=c) V r;obtain⟨m,J,C⟩:=tq (c:=c) V r;rw[<-wW (An y J)]at C;have A:∀g∈iD l,g.2.length<1000:=λg h=>by obtain⟨p,e⟩:=(y.2 g).mp ((c6 l uj).mem_iff.mp h);obtain⟨L,z,_,Y,_⟩:=ot V (nC (by lia) (aK _) p) e;rw[z,ax];lia
  have D:(iD l).length<64:=by show (l.mergeSort uj).length<64;rw[(c6 l uj).length_eq];exact uw V r y
  let w (f:Oq W):En:=R (some (.p (.int ((X k).1:Int)))) (some (.p (.lst ((X k).2.map tI)))) (some (.p (.lst ((X k).2.map tI)))) f;have i:eW true (.lst ((X k).2.map tI)) (.lst ((X k).2.map tI))=.ok (.bl false):=ID _;have z:iO [none] (fY (dX 5)) (iA 0) (λ_=>.ok true) (se c) (vw (w (some (.o ((iD l).map jQ)))))=.ok ((iD l).map λ_=>T.bl true):=iK (iD l) jQ (λ_=>T.bl true) rfl (by lia) (λg h=>⟨_,rfl,rfl,mz rfl (wo g (A g h))⟩) rfl
  have E:rA [.lst ((iD l).map λ_=>T.bl true)]=.ok (.bl true):=by have:=nT ((iD l).map λ_=>true);rw[aI]at this;refine this.trans ?_;simp
  exact⟨_,_,rfl,.inl (ee (ρ':=w f) (eT (f7 (ts:=(X k).2.map tI) rfl) rfl) (ee (ρ':=w (some (.o ((iD l).map jQ)))) (mH (GG (lH rfl rfl F) t) rfl) (ee (gz (xW rfl (xW (eY (ei (x:=.lst ((iD l).map jQ)) rfl (f7 (HG rfl rfl C)) (GX _))) (eY (ei rfl rfl i)))) rfl) (ee (gz (qO (eY (oY z E)) rfl) rfl) rfl)))),_,_,_,_,rfl⟩)
 have t:iO [none,some 0] (gW (dW (cM (.int 2)) d6)) (iA 0) (λ_=>.ok true) (sV c) (jG (e7 6 [.scr ns]))=.ok ([0,1].map λk=>b (X k)):=iK [0,1] (λ(k:Nat)=>T.int (k:Int)) (λk=>b (X k)) (kW 2 (by decide) rfl) (by decide) (λk s=>by obtain⟨⟨a,i,u⟩,-⟩:=B k s;exact⟨_,rfl,rfl,lH (lH rfl rfl i) rfl u⟩) rfl
 exact fG rfl (ee (ρ':=R none none none none) (eT (f7 t) rfl) (ee (lK rfl e) (eX rfl)))
end CL
namespace K41
open PySem L2 L3 CL
def gZ(i:Nat):Stmt:=PySem.Challenge.pw_cutlands_k41_flats_told.main.body.getD i (.Pass ⟨0,0,0,0⟩)
structure Er(c:Cs)(K:W.Frag)(mg:Str->Option Value):Prop where
 here:True
 cl_Cutting:sh K c.Cutting
 na_Cutting_own_cuts:iF K c.Cutting "own_cuts"
 na_Cutting_own_dims:iF K c.Cutting "own_dims"
 mk_Cutting:W.makesIn K c.Cutting=true
 kp_Cutting:W.keepIn K (.ref c.Cutting)=true
 mg_Cutting:mg "Cutting" = some (.ref c.Cutting)
 k_MOST_CUTS:∃t,mg "MOST_CUTS" = some (.int 7 t)
 k_MOST_DIMS:∃t,mg "MOST_DIMS" = some (.int 3 t)
def Jp{K:W.Frag}{h:Heap}{mg:Str->Option Value}{aCutting:Addr}{tMOST_CUTS tMOST_DIMS:_}(X:K.In h)(G:h.Ns mainGlobals mg)(e:W.nsIn K mainGlobals "Cutting" = some (some (.ref aCutting)))(a:W.plainGet K aCutting Str.empty=true)(d:W.hasDictIn K aCutting=true)(g:W.plainOver K aCutting=true)(c:W.findIn K (.ref aCutting) "__setattr__" = some (some (.builtin "object.__setattr__")))(own_cuts:W.findIn K (.ref aCutting) "own_cuts" = some none)(own_dims:W.findIn K (.ref aCutting) "own_dims" = some none)(b:W.makesIn K aCutting=true)(f:W.keepIn K (.ref aCutting)=true)(uMOST_CUTS:W.nsIn K mainGlobals "MOST_CUTS" = some (some (.int 7 tMOST_CUTS)))(uMOST_DIMS:W.nsIn K mainGlobals "MOST_DIMS" = some (some (.int 3 tMOST_DIMS))):Er ⟨aCutting,0,0,0,0,0,0,0,0,0,0,0,0⟩ K mg:=⟨trivial,⟨a,d,g,c⟩,own_cuts,own_dims,b,f,W.mg_of X G e,⟨_,W.mg_of X G uMOST_CUTS⟩,⟨_,W.mg_of X G uMOST_DIMS⟩⟩
def JK{K:W.Frag}{a g:Addr}{m q:Str}{st:Stmt}{n kV c i b j:Vq}{f k:Oq Addr}{d:Array (Option Value)}(h:W.findIn K (.ref a) m=some (some (.ref g)))(o:W.isFn K (.ref g)=true)(l:K.lookup g=some ⟨n,f,.func (W.fnOf m q (fV st) (eU st) (d8 st) .none kV c i k b j),d⟩)(p:W.codeIn K b q=true)(e:W.keepIn K (.ref g)=true):iM K a m q st:=⟨_,_,wA l p e,h,o,e⟩
section
variable {P:Program}{w:World}{K:W.Frag}{mg:Str->Option Value}{base:Heap}{c:Cs}(Z:Zx P w K mg base)(B:Bs mg)(ER:Er c K mg)
include Z B ER
theorem o0(D:eN K mg "is_whole" (gZ 5)):CP Z "is_whole" 1 (gN c):=jH Z 0 (gN c) ["thing"] ["thing"] rfl D λnd hX hr=>⟨_,(d7 (eI (sY (kL "int" (by decide) B.isinstance B.int AY (dR 0)) (uC (xb (kL "bool" (by decide) B.isinstance B.bool yX (dR 0)))))))⟩
theorem o1(D:eN K mg "sign_of" (gZ 6)):CP Z "sign_of" 1 (kj c):=jH Z 0 (kj c) ["number"] ["number"] rfl D λnd hX hr=>⟨_,(dZ (fC (jU FU FM (dR 0) d9) (d7 (eI d9)) eV)
  (dZ (fC (jU Ga FS (dR 0) d9) (d7 (eI (xA d9))) eV)
  (d7 (eI d9))))⟩
theorem o2(D:eN K mg "common_divisor" (gZ 7)):CP Z "common_divisor" 1 (fJ c):=jH Z 0 (fJ c) ["one","other","rest"] ["one","other"] rfl D λnd hX hr=>⟨_,(dZ (Bz (λρ=>match ρ with|_::some (.p (.int j))::_=>j.natAbs+1|_=>0) PassesOwn.never (jF hr (dR 1) d9) (dZ (eK 2 nd (mM (dR 0) (dR 1)))
  (dZ (eK 0 nd (dR 1))
  (d7 (eK 1 nd (dR 2))))))
  (d7 (eI (eR vy CV (by rfl) B.abs A6 (dS (dR 0) dY)))))⟩
theorem o3(D:eN K mg "first_place" (gZ 22)):CP Z "first_place" 1 (hV c):=jH Z 0 (hV c) ["cut","place"] ["cut"] rfl D λnd hX hr=>⟨_,(dZ (eK 1 nd d9)
  (dZ (Bz (λρ=>match ρ with|some (.p (.tup ts))::_=>ts.length+1|_=>0) PassesOwn.never (jn hr (fB (dR 0) (dR 1)) d9) (d7 (eK 1 nd (f6 (dR 1) d9))))
  (d7 (eI (dR 1)))))⟩
theorem o4(D:iM K c.Cutting "dims" "Cutting.dims" (l0 (gZ 26) 1)):jq P w K mg base c.Cutting "dims" 1 (uy K (gw c)):=JI Z 0 (gw c) ["self"] ["self"] rfl ER.cl_Cutting D λnd hX hr=>⟨_,(d7 (eI (B2 rfl ER.cl_Cutting ER.na_Cutting_own_dims (dR 0))))⟩
theorem o5(D:iM K c.Cutting "cuts" "Cutting.cuts" (l0 (gZ 26) 2)):jq P w K mg base c.Cutting "cuts" 1 (wg K (gq c)):=HX Z 0 (gq c) ["self"] ["self"] rfl ER.cl_Cutting D λnd hX hr=>⟨_,(d7 (vV (l4 (kQ (K:=K)) m7 (by rfl) B.list l7 (dS (B2 rfl ER.cl_Cutting ER.na_Cutting_own_cuts (dR 0)) dY))))⟩
theorem o6(D:eN K mg "_law_cell_at" (gZ 28)):CP Z "_law_cell_at" 1 (fH c):=jH Z 0 (fH c) ["_law_script","_law_k"] ["_law_script","_law_k"] rfl D λnd hX hr=>⟨_,(dZ (fC (jU Ga FS (dR 1) (eR (fq (K:=K)) ig (by rfl) B.len ib (dS (dR 0) dY))) (d7 (eI (fB (dR 0) (dR 1)))) eV)
  (d7 (eI d9)))⟩
theorem o7(D:eN K mg "_law_draw" (gZ 29)):CP Z "_law_draw" 1 (eP c):=jH Z 0 (eP c) ["_law_cell","_law_k","_law_bound","_law_left","_law_j","_law_stir"] ["_law_cell","_law_k","_law_bound"] rfl D λnd hX hr=>⟨_,(dZ (fC (jU F9 Gi (dR 0) (Hg d9 d9)) (dZ (eK 3 nd (dR 0))
  (dZ (m6 PassesOwn.never rfl (ia B.range (dS (dR 1) dY)) (iL 4 nd) (d7 (eK 3 nd (tm (dR 3) (dR 2)))))
  (d7 (eI (mM (dR 3) (dR 2)))))) eV)
  (dZ (eK 5 nd (mM (gK (f6 (f6 (mM (dR 0) d9) (gK d9 (dR 1))) d9) d9) d9))
  (dZ (eK 5 nd (mM (f6 (f6 (gK (dR 5) (dR 5)) (gK d9 (dR 1))) d9) d9))
  (d7 (eI (mM (tm (mM (gK (dR 5) d9) d9) d9) (dR 2)))))))⟩
theorem o8(D:eN K mg "_law_whole" (gZ 30)):CP Z "_law_whole" 1 (ji c):=jH Z 0 (ji c) ["_law_found"] ["_law_found"] rfl D λnd hX hr=>⟨_,(d7 (eI (sY (kL "int" (by decide) B.isinstance B.int AY (dR 0)) (uC (xb (kL "bool" (by decide) B.isinstance B.bool yX (dR 0)))))))⟩
theorem o9(D:eN K mg "_law_same" (gZ 31)):CP Z "_law_same" 1 (ip c):=jH Z 0 (ip c) ["_law_one","_law_other","_law_k","_law_j"] ["_law_one","_law_other"] rfl D λnd hX hr=>⟨_,(dZ (m6 PassesOwn.never rfl (ia B.range (dS (eR (fq (K:=K)) ig (by rfl) B.len ib (dS (dR 0) dY)) dY)) (iL 2 nd) (d7 (m6 PassesOwn.never rfl (ia B.range (dS (dR 2) dY)) (iL 3 nd) (d7 (fC (jF hr (gK (fB (dR 0) (dR 2)) (fB (dR 1) (dR 3))) (gK (fB (dR 0) (dR 3)) (fB (dR 1) (dR 2)))) (d7 (eI nA)) eV)))))
  (d7 (eI nA)))⟩
theorem Ll(D:eN K mg "_law_rank" (gZ 34)):CP Z "_law_rank" 1 (fy c):=jH Z 0 (fy c) ["_law_rows","_law_ahead","_law_row","_law_here","_law_at","_law_other","_law_by","_law_left"] ["_law_rows"] rfl D λa b d=>⟨_,(dZ (lJ 1 a (ij dY))
  (dZ (lY PassesOwn.never rfl (fF (dR 0)) (iL 2 a) (dZ (eK 3 a (fv (l4 (kQ (K:=K)) m7 (by rfl) B.list l7 (dS (dR 2) dY))))
  (dZ (AC 1 (pv 1) PassesOwn.never rfl (xQ 2 rfl (jC (iL 4 a) (jC (iL 5 a) qj))) (dZ (eK 6 a (fB (dR 3) (dR 4)))
  (d7 (eK 3 a (fv (gP ["_law_one","_law_two","_law_by","_law_other","_law_at"] [none,none,some 6,some 5,some 4] b (pR B.zip (dS (dR 3) (dS (dR 5) dY))) (λa b=>⟨(ou 2 rfl (fT (fQ 0 a) (fT (fQ 1 a) ku))),fj,(qb (gK (fB (dR 3) (dR 4)) (dR 0)) (gK (dR 2) (dR 1)))⟩)))))))
  (dZ (mJ ["_law_k","_law_here"] [none,some 3] 7 a b (nQ.pim (ia B.range (dS (eR (fq (K:=K)) ig (by rfl) B.len ib (dS (dR 3) dY)) dY))) (λa b=>⟨(fQ 0 a),(kc (jF d (fB (dR 1) (dR 0)) d9)),(dR 0)⟩) lu)
  (d7 (fC (jF d (dR 7) (fv (ij dY))) (d7 (nE 1 (pv 1) (lp (dS (fB (dR 7) d9) (dS (dR 3) dY))))) eV))))))
  (d7 (eI (eR (fq (K:=K)) ig (by rfl) B.len ib (dS (dR 1) dY))))))⟩
theorem Lq(D:eN K mg "lowest" (gZ 8))(e:CP Z "common_divisor" 1 (fJ c)):CP Z "lowest" 2 (lx c):=jH Z 1 (lx c) ["row","divisor","number"] ["row"] rfl D λa d b=>⟨_,(dZ (eK 1 a d9)
  (dZ (lY PassesOwn.never rfl (fF (dR 0)) (iL 2 a) (dZ (eK 1 a (eL e b (dS (dR 1) (dS (dR 2) dY))))
  (d7 (fC (jn b (dR 1) d9) (d7 (eI (dR 0))) eV))))
  (dZ (fC (jn b (dR 1) d9) (d7 (eI (dR 0))) eV)
  (d7 (eI (iU (gM (K:=K)) iX (by rfl) B.tuple g9 (dS (fv (gP ["number","divisor"] [none,some 1] d (fF (dR 0)) (λa d=>⟨(fQ 0 a),fj,(tm (dR 0) (dR 1))⟩))) dY)))))))⟩
theorem Lp(D:eN K mg "is_dims" (gZ 20))(a:CP Z "is_whole" 1 (gN c)):CP Z "is_dims" 2 (jz c):=jH Z 1 (jz c) ["thing"] ["thing"] rfl D λe d b=>⟨_,(d7 (eI (sY (eL a b (dS (dR 0) dY)) (uC (A3 Gc FV Gc FV d9 (dR 0) (u0 3 ER.k_MOST_DIMS))))))⟩
theorem Lm(D:eN K mg "is_cut" (gZ 21))(e:CP Z "is_whole" 1 (gN c)):CP Z "is_cut" 2 (j5 c):=jH Z 1 (j5 c) ["dims","thing"] ["dims","thing"] rfl D λb a d=>⟨_,(dZ (fC (xE (mE (iN (j9 (kL "tuple" (by decide) B.isinstance B.tuple g9 (dR 1)))) (ng (jF d (eR (fq (K:=K)) ig (by rfl) B.len ib (dS (dR 1) dY)) (f6 (dR 0) d9))))) (d7 (eI nA)) eV)
  (dZ (fC (iN (j9 (eR (l6 (K:=K) rfl) sW (by rfl) B.all tN (dS (fv (gP ["number"] [none] a (fF (dR 1)) (λb a=>⟨(fQ 0 b),fj,(eL e d (dS (dR 0) dY))⟩))) dY)))) (d7 (eI nA)) eV)
  (d7 (eI (eR (kl (K:=K) rfl) qD (by rfl) B.any qd (dS (fv (gP ["number"] [none] a (fF (j6 (dR 1) oJ (oR (dR 0)))) (λb a=>⟨(fQ 0 b),fj,(Jb d (dR 0) d9)⟩))) dY))))))⟩
theorem Li(D:eN K mg "same_spots" (gZ 23))(e:CP Z "first_place" 1 (hV c)):CP Z "same_spots" 2 (iH c):=jH Z 1 (iH c) ["one","other","place"] ["one","other"] rfl D λa b d=>⟨_,(dZ (eK 2 a (eL e d (dS (dR 0) dY)))
  (d7 (eI (eR (l6 (K:=K) rfl) sW (by rfl) B.all tN (dS (fv (gP ["mine","theirs","other","place","one"] [none,none,some 1,some 2,some 0] b (pR B.zip (dS (dR 0) (dS (dR 1) dY))) (λa b=>⟨(ou 2 rfl (fT (fQ 0 a) (fT (fQ 1 a) ku))),fj,(Jz d (gK (dR 0) (fB (dR 2) (dR 3))) (gK (dR 1) (fB (dR 4) (dR 3))))⟩))) dY)))))⟩
theorem Lj(D:eN K mg "_law_cut" (gZ 32))(d:CP Z "_law_draw" 1 (eP c)):CP Z "_law_cut" 2 (gQ c):=jH Z 1 (gQ c) ["_law_cell","_law_k","_law_dims","_law_found","_law_wide","_law_cut_here","_law_way","_law_other","_law_by"] ["_law_cell","_law_k","_law_dims","_law_found"] rfl D λb e a=>⟨_,(dZ (eK 4 b (fB (fv (ij (dS d9 (dS d9 (dS d9 (dS d9 (dS d9 dY))))))) (eL d a (dS (dR 0) (dS d9 (dS d9 dY))))))
  (dZ (mJ ["_law_j","_law_wide","_law_cell","_law_k"] [none,some 4,some 0,some 1] 5 b e (nQ.pim (ia B.range (dS (f6 (dR 2) d9) dY))) (λb e=>⟨(fQ 0 b),fj,(qb (eL d a (dS (dR 2) (dS (f6 (f6 d9 (gK d9 (dR 3))) (dR 0)) (dS (f6 (gK d9 (dR 1)) d9) dY)))) (dR 1))⟩) t6)
  (dZ (eK 6 b (eL d a (dS (dR 0) (dS (f6 d9 (dR 1)) (dS d9 dY)))))
  (dZ (fC (xE (yk (jn a (dR 6) d9) (vJ (jF a (dR 3) (fv (ij dY)))))) (d7 (BX 5 b (wI (fv (l4 (kQ (K:=K)) m7 (by rfl) B.list l7 (dS (j6 (fB (dR 3) (eL d a (dS (dR 0) (dS (f6 d9 (dR 1)) (dS (eR (fq (K:=K)) ig (by rfl) B.len ib (dS (dR 3) dY)) dY))))) oJ (oR (dR 2))) dY))) (j6 (dR 5) (oR (dR 2)) oJ)))) eV)
  (dZ (fC (jn a (dR 6) d9) (d7 (yY 5 (pv 5) (dR 2) d9)) eV)
  (dZ (fC (xE (yk (jn a (dR 6) d9) (vJ (jU FU FM (eR (fq (K:=K)) ig (by rfl) B.len ib (dS (dR 3) dY)) d9)))) (dZ (eK 7 b (fB (dR 3) (eL d a (dS (dR 0) (dS (f6 d9 (dR 1)) (dS (qb (eR (fq (K:=K)) ig (by rfl) B.len ib (dS (dR 3) dY)) d9) dY))))))
  (dZ (eK 8 b (f6 d9 (eL d a (dS (dR 0) (dS (f6 d9 (dR 1)) (dS d9 dY))))))
  (d7 (mJ ["_law_one","_law_two","_law_by"] [none,none,some 8] 5 b e (pR B.zip (dS (fB (dR 3) (xA d9)) (dS (dR 7) dY))) (λb e=>⟨(ou 2 rfl (fT (fQ 0 b) (fT (fQ 1 b) ku))),fj,(f6 (dR 0) (gK (dR 2) (dR 1)))⟩) t6)))) eV)
  (dZ (fC (jn a (j6 (dR 5) oJ (oR (dR 2))) (fv (Ii (fv (ij (dS d9 dY))) (dR 2)))) (d7 (yY 5 (pv 5) (eL d a (dS (dR 0) (dS (f6 d9 (dR 1)) (dS (dR 2) dY)))) d9)) eV)
  (d7 (eI (iU (gM (K:=K)) iX (by rfl) B.tuple g9 (dS (dR 5) dY)))))))))))⟩
theorem Lo(D:eN K mg "_law_flat" (gZ 35))(d:CP Z "_law_rank" 1 (fy c)):CP Z "_law_flat" 2 (ie c):=jH Z 1 (ie c) ["_law_dims","_law_cuts","_law_some","_law_rank_here","_law_inside"] ["_law_dims","_law_cuts","_law_some"] rfl D λa b e=>⟨_,(dZ (eK 3 a (eL d e (dS (fv (gP ["_law_k","_law_cuts"] [none,some 1] b (fF (dR 2)) (λa b=>⟨(fQ 0 a),fj,(fB (dR 1) (dR 0))⟩))) dY)))
  (dZ (fC (jF e (eL d e (dS (fv (gP ["_law_k","_law_cuts","_law_dims"] [none,some 1,some 0] b (fF (dR 2)) (λa b=>⟨(fQ 0 a),fj,(j6 (fB (dR 1) (dR 0)) oJ (oR (dR 2)))⟩))) dY)) (dR 3)) (d7 (eI B5)) eV)
  (dZ (mJ ["_law_k","_law_rank_here","_law_cuts","_law_some"] [none,some 3,some 1,some 2] 4 a b (nQ.pim (ia B.range (dS (eR (fq (K:=K)) ig (by rfl) B.len ib (dS (dR 1) dY)) dY))) (λa b=>⟨(fQ 0 a),(kc (jn e (eL d e (dS (fv (wI (fv (gP ["_law_j","_law_cuts"] [none,some 2] b (fF (dR 3)) (λa b=>⟨(fQ 0 a),fj,(fB (dR 1) (dR 0))⟩))) (fv (ij (dS (fB (dR 2) (dR 0)) dY))))) dY)) (dR 1))),(dR 0)⟩) lu)
  (d7 (eI (lp (dS (qb (dR 0) (dR 3)) (dS (iU (gM (K:=K)) iX (by rfl) B.tuple g9 (dS (dR 4) dY)) dY))))))))⟩
theorem Ly(D:eN K mg "_law_is_flat" (gZ 37))(d:CP Z "_law_whole" 1 (ji c)):CP Z "_law_is_flat" 2 (hU c):=jH Z 1 (hU c) ["_law_found"] ["_law_found"] rfl D λe b a=>⟨_,(dZ (fC (xE (mE (iN (j9 (kL "tuple" (by decide) B.isinstance B.tuple g9 (dR 0)))) (mE (jF a (eR (fq (K:=K)) ig (by rfl) B.len ib (dS (dR 0) dY)) d9) (ng (iN (j9 (kL "tuple" (by decide) B.isinstance B.tuple g9 (fB (dR 0) d9)))))))) (d7 (eI nA)) eV)
  (d7 (eI (sY (eL d a (dS (fB (dR 0) d9) dY)) (uC (eR (l6 (K:=K) rfl) sW (by rfl) B.all tN (dS (fv (gP ["_law_k"] [none] b (fF (fB (dR 0) d9)) (λe b=>⟨(fQ 0 e),fj,(eL d a (dS (dR 0) dY))⟩))) dY)))))))⟩
theorem Ls(D:eN K mg "cleared" (gZ 9))(b:CP Z "lowest" 2 (lx c))(f:CP Z "sign_of" 1 (kj c)):CP Z "cleared" 3 (gR c):=jH Z 2 (gR c) ["row","other","place","often","other_often"] ["row","other","place"] rfl D λa e d=>⟨_,(dZ (fC (jn d (fB (dR 0) (dR 2)) d9) (d7 (eI (dR 0))) eV)
  (dZ (eK 3 a (eR vy CV (by rfl) B.abs A6 (dS (fB (dR 1) (dR 2)) dY)))
  (dZ (eK 4 a (gK (xA (fB (dR 0) (dR 2))) (eL f d (dS (fB (dR 1) (dR 2)) dY))))
  (d7 (eI (eL b d (dS (iU (gM (K:=K)) iX (by rfl) B.tuple g9 (dS (fv (gP ["mine","theirs","often","other_often"] [none,none,some 3,some 4] e (pR B.zip (dS (dR 0) (dS (dR 1) dY))) (λa e=>⟨(ou 2 rfl (fT (fQ 0 a) (fT (fQ 1 a) ku))),fj,(f6 (gK (dR 2) (dR 0)) (gK (dR 3) (dR 1)))⟩))) dY)) dY)))))))⟩
theorem Lz(D:eN K mg "can_stand" (gZ 24))(a:CP Z "is_cut" 2 (j5 c))(b:CP Z "same_spots" 2 (iH c)):CP Z "can_stand" 3 (iw c):=jH Z 2 (iw c) ["dims","ahead","thing"] ["dims","ahead","thing"] rfl D λf d e=>⟨_,(dZ (fC (xE (mE (jU F9 Gi (eR (fq (K:=K)) ig (by rfl) B.len ib (dS (dR 1) dY)) (u0 7 ER.k_MOST_CUTS)) (ng (iN (j9 (eL a e (dS (dR 0) (dS (dR 2) dY)))))))) (d7 (eI nA)) eV)
  (d7 (eI (xb (eR (kl (K:=K) rfl) qD (by rfl) B.any qd (dS (fv (gP ["cut","thing"] [none,some 2] d (fF (dR 1)) (λf d=>⟨(fQ 0 f),fj,(eL b e (dS (dR 0) (dS (dR 1) dY)))⟩))) dY))))))⟩
theorem Ld(D:eN K mg "_law_cutting" (gZ 33))(f:CP Z "_law_draw" 1 (eP c))(d:CP Z "_law_cut" 2 (gQ c))(g:CP Z "_law_same" 1 (ip c)):CP Z "_law_cutting" 3 (gE c):=jH Z 2 (gE c) ["_law_cell","_law_most","_law_dims","_law_found","_law_k","_law_cut_here"] ["_law_cell","_law_most"] rfl D λa e b=>⟨_,(dZ (eK 2 a (fB (fv (ij (dS d9 (dS d9 (dS d9 (dS d9 (dS d9 dY))))))) (eL f b (dS (dR 0) (dS d9 (dS d9 dY))))))
  (dZ (lJ 3 a (ij dY))
  (dZ (m6 PassesOwn.never rfl (ia B.range (dS (eL f b (dS (dR 0) (dS d9 (dS (f6 (dR 1) d9) dY)))) dY)) (iL 4 a) (dZ (Cg 5 a (eL d b (dS (dR 0) (dS (dR 4) (dS (dR 2) (dS (dR 3) dY))))))
  (d7 (fC (jn b (fv (gP ["_law_one","_law_cut_here"] [none,some 5] e (fF (dR 3)) (λa e=>⟨(fQ 0 a),(kc (j9 (eL g b (dS (dR 0) (dS (dR 1) dY))))),(dR 0)⟩))) (fv (ij dY))) (d7 (nE 3 (pv 3) (dR 5))) eV))))
  (d7 (eI (lp (dS (dR 2) (dS (dR 3) dY))))))))⟩
theorem Lg(D:eN K mg "settled" (gZ 11))(a:CP Z "cleared" 3 (gR c)):CP Z "settled" 4 (gC c):=jH Z 3 (gC c) ["row","pivots","place","pivot"] ["row","pivots"] rfl D λb e d=>⟨_,(dZ (lY PassesOwn.never rfl (fF (dR 1)) (xQ 2 rfl (jC (iL 2 b) (jC (iL 3 b) qj))) (d7 (eK 0 b (eL a d (dS (dR 0) (dS (dR 3) (dS (dR 2) dY)))))))
  (d7 (eI (dR 0))))⟩
theorem LC(D:eN K mg "with_pivot" (gZ 12))(a:CP Z "cleared" 3 (gR c)):CF Z "with_pivot" 4 (gU c):=IW Z 3 (gU c) ["pivots","row","place"] ["pivots","row","place"] rfl D λb d e=>⟨_,(d7 (vV (wI (fv (gP ["other_place","pivot","row","place"] [none,none,some 1,some 2] d (fF (dR 0)) (λb d=>⟨(ou 2 rfl (fT (fQ 0 b) (fT (fQ 1 b) ku))),fj,(lp (dS (dR 0) (dS (eL a e (dS (dR 1) (dS (dR 2) (dS (dR 3) dY)))) dY)))⟩))) (fv (ij (dS (lp (dS (dR 2) (dS (dR 1) dY))) dY))))))⟩
theorem Ln(D:eN K mg "checked_cuts" (gZ 25))(b:CP Z "is_dims" 2 (jz c))(a:CP Z "can_stand" 3 (iw c)):CP Z "checked_cuts" 4 (gy c):=jH Z 3 (gy c) ["dims","things","ahead","thing"] ["dims","things"] rfl D λe f d=>⟨_,(dZ (fC (xE (mE (iN (j9 (eL b d (dS (dR 0) dY)))) (ng (iN (j9 (kL "list" (by decide) B.isinstance B.list l7 (dR 1))))))) (d7 yD) eV)
  (dZ (lJ 2 e (ij dY))
  (dZ (lY PassesOwn.never rfl (fF (dR 1)) (iL 3 e) (dZ (fC (iN (j9 (eL a d (dS (dR 0) (dS (dR 2) (dS (dR 3) dY)))))) (d7 yD) eV)
  (d7 (nE 2 (pv 2) (iU (gM (K:=K)) iX (by rfl) B.tuple g9 (dS (dR 3) dY))))))
  (d7 (eI (iU (gM (K:=K)) iX (by rfl) B.tuple g9 (dS (dR 2) dY)))))))⟩
theorem Le(D:eN K mg "pivots_and_rests" (gZ 13))(e:CP Z "settled" 4 (gC c))(d:CF Z "with_pivot" 4 (gU c)):CP Z "pivots_and_rests" 5 (fN c):=jH Z 4 (fN c) ["rows","dims","pivots","rests","row","left","places"] ["rows","dims"] rfl D λa f b=>⟨_,(dZ (eK 2 a (fv (ij dY)))
  (dZ (lJ 3 a (ij dY))
  (dZ (lY PassesOwn.never rfl (fF (dR 0)) (iL 4 a) (dZ (eK 5 a (eL e b (dS (dR 4) (dS (dR 2) dY))))
  (dZ (mJ ["place","left"] [none,some 5] 6 a f (nQ.pim (ia B.range (dS (dR 1) dY))) (λa f=>⟨(fQ 0 a),(kc (jF b (fB (dR 1) (dR 0)) d9)),(dR 0)⟩) lu)
  (d7 (fC (jn b (dR 6) (fv (ij dY))) (d7 (nE 3 (pv 3) (dR 5))) (d7 (eK 2 a (fv (uu d b (dS (dR 2) (dS (dR 5) (dS (fB (dR 6) d9) dY))))))))))))
  (d7 (eI (lp (dS (dR 2) (dS (dR 3) dY))))))))⟩
theorem Lk(D:iM K c.Cutting "__init__" "Cutting.__init__" (l0 (gZ 26) 0))(a:CP Z "checked_cuts" 4 (gy c)):zd P w K mg base "Cutting" c.Cutting 5 (wF K c.Cutting (gx c)):=KD Z 4 (gx c) ["self","dims","cuts"] rfl ER.cl_Cutting ER.na_Cutting_own_cuts ER.na_Cutting_own_dims ER.mk_Cutting ER.kp_Cutting ER.mg_Cutting D λb=>Kp rfl (pv 0) (eL a b (dS (dR 1) (dS (dR 2) dY))) (pv 0) (dR 1)
theorem Lu(D:eN K mg "_law_flats" (gZ 36))(f:xD K mg base "_law_flats")(a:CP Z "_law_flat" 2 (ie c)):CF Z "_law_flats" 5 (jg c):=A5 Z 4 (jg c) ["_law_dims","_law_cuts","_law_known","_law_bits","_law_flat_here"] ["_law_dims","_law_cuts"] rfl D f λg d e b=>⟨_,(Fw (N:=5) 2 3 4 d PassesOwn.never b g B.sorted (nQ.im (ia B.range (dS (Ih d9 (eR (fq (K:=K)) ig (by rfl) B.len ib (dS (dR 1) dY))) dY)))
  (eL a b (dS (dR 0) (dS (dR 1) (dS (fv (gP ["_law_k","_law_bits"] [none,some 3] e (nQ.pim (ia B.range (dS (eR (fq (K:=K)) ig (by rfl) B.len ib (dS (dR 1) dY)) dY))) (λd e=>⟨(fQ 0 d),(kc (jn b (DP (Iy (dR 1) (dR 0)) d9) d9)),(dR 0)⟩))) dY)))))⟩
theorem LB(D:eN K mg "flat_on" (gZ 15))(d:CP Z "pivots_and_rests" 5 (fN c))(e:CP Z "settled" 4 (gC c)):CP Z "flat_on" 6 (gd c):=jH Z 5 (gd c) ["cuts","dims","some","found","pivots","around"] ["cuts","dims","some"] rfl D λa b f=>⟨_,(dZ (eK 3 a (eL d f (dS (fv (gP ["k","cuts"] [none,some 0] b (fF (dR 2)) (λa b=>⟨(fQ 0 a),fj,(fB (dR 1) (dR 0))⟩))) (dS (dR 1) dY))))
  (dZ (fC (j9 (eR (kl (K:=K) rfl) qD (by rfl) B.any qd (dS (fv (gP ["rest"] [none] b (fF (fB (dR 3) d9)) (λa b=>⟨(fQ 0 a),fj,(eR (kl (K:=K) rfl) qD (by rfl) B.any qd (dS (dR 0) dY))⟩))) dY))) (d7 (eI B5)) eV)
  (dZ (eK 4 a (fB (dR 3) d9))
  (dZ (mJ ["k","cut","pivots"] [none,none,some 4] 5 a b (EZ B.enumerate (dS (dR 0) dY)) (λa b=>⟨(ou 2 rfl (fT (fQ 0 a) (fT (fQ 1 a) ku))),(kc (iN (j9 (eR (kl (K:=K) rfl) qD (by rfl) B.any qd (dS (eL e f (dS (dR 1) (dS (dR 2) dY))) dY))))),(dR 0)⟩) lu)
  (d7 (eI (lp (dS (qb (dR 1) (eR (fq (K:=K)) ig (by rfl) B.len ib (dS (dR 4) dY))) (dS (iU (gM (K:=K)) iX (by rfl) B.tuple g9 (dS (dR 5) dY)) dY)))))))))⟩
theorem Lf(D:eN K mg "flats" (gZ 16))(e:xD K mg base "flats")(h:jq P w K mg base c.Cutting "cuts" 1 (wg K (gq c)))(g:jq P w K mg base c.Cutting "dims" 1 (uy K (gw c)))(a:CP Z "flat_on" 6 (gd c)):CF Z "flats" 7 (m4 c):=A5 Z 6 (m4 c) ["cutting","cuts","dims","found","k","flat","smaller"] ["cutting"] rfl D e λf d i b=>⟨_,(dZ (eK 1 d (fv (Hx h b (dR 0))))
  (dZ (eK 2 d (GO g b (dR 0)))
  (DW (N:=7) 3 4 5 6 d PassesOwn.never b f B.list B.sorted (eL a b (dS (dR 1) (dS (dR 2) (dS (fv (ij dY)) dY)))) (nQ.im (ia B.range (dS (eR (fq (K:=K)) ig (by rfl) B.len ib (dS (dR 1) dY)) dY)))
  (eL a b (dS (dR 1) (dS (dR 2) (dS (f6 (fB (dR 5) d9) (lp (dS (dR 4) dY))) dY)))))))⟩
theorem oL{j:Addr}{fd:FuncData}(D:Dw K "law" "law" (gZ 38) j fd)(e:CP Z "_law_cutting" 3 (gE c))(g:CF Z "flats" 7 (m4 c))(k:CP Z "_law_cell_at" 1 (fH c))(f:zd P w K mg base "Cutting" c.Cutting 5 (wF K c.Cutting (gx c)))(i:CF Z "_law_flats" 5 (jg c))(h:CP Z "_law_is_flat" 2 (hU c)):jM P w K mg base mw 8 j fd ["_law_script"] (uy K (mZ c)):=Jo Z 7 (mZ c) ["_law_script","_law_asked","_law_dims","_law_cuts","_law_handed","_law_found"] ["_law_script"] rfl D λa d b=>⟨_,(dZ (mJ ["_law_k","_law_script"] [none,some 0] 1 a d (nQ.pim (ia B.range (dS d9 dY))) (λa d=>⟨(fQ 0 a),fj,(eL e b (dS (eL k b (dS (dR 1) (dS (dR 0) dY))) (dS d9 dY)))⟩) lu)
  (dZ (lY PassesOwn.never rfl (fF (f6 (dR 1) (j6 (dR 1) oJ (oR d9)))) (xQ 2 rfl (jC (iL 2 a) (jC (iL 3 a) qj))) (dZ (eK 4 a (fv (l4 (kQ (K:=K)) m7 (by rfl) B.list l7 (dS (dR 3) dY))))
  (dZ (lJ 5 a (uu g b (dS (JA f b (dS (dR 2) (dS (dR 4) dY))) dY)))
  (dZ (fC (xE (mE (iN (j9 (kL "list" (by decide) B.isinstance B.list l7 (dR 5)))) (mE (jF b (dR 5) (fv (uu i b (dS (dR 2) (dS (dR 3) dY))))) (ng (jF b (dR 4) (dR 3)))))) (d7 (eI nA)) eV)
  (dZ (fC (iN (j9 (eR (l6 (K:=K) rfl) sW (by rfl) B.all tN (dS (fv (gP ["_law_one"] [none] d (fF (dR 5)) (λa d=>⟨(fQ 0 a),fj,(eL h b (dS (dR 0) dY))⟩))) dY)))) (d7 (eI nA)) eV)
  (d7 (zE 5 (pv 5))))))))
  (d7 (eI nA))))⟩
end
def HZ{l:W.OpenLaw}{w:World}{K:W.Frag}{h:Heap}{mg:Str->Option Value}{c:Cs}{fa f:Addr}{oc kV i pm d ct:Vq}{od an:Oq Addr}{R:Array (Option Value)}(X:K.In h)(G:h.Ns mainGlobals mg)(hfa:mg "law" = some (.ref fa))
  (a:W.nsIn K mainGlobals "law" = some (some (.ref f))) (lk:K.lookup f=some ⟨oc,od,.func (W.fnOf "law" "law" (fV (gZ 38)) (eU (gZ 38)) (d8 (gZ 38)) .none kV i pm an d ct),R⟩) (cc:W.codeIn K d "law" = true) (kk:W.keepIn K (.ref f)=true)
  (B:Bs mg) (ER:Er c K mg) (LF:∀u:LI,(mZ c) [.scr u]=.ok (.bl true)) (D0:eN K mg "is_whole" (gZ 5)) (D1:eN K mg "sign_of" (gZ 6)) (D2:eN K mg "common_divisor" (gZ 7)) (D3:eN K mg "first_place" (gZ 22)) (D4:eN K mg "_law_cell_at" (gZ 28)) (D5:eN K mg "_law_draw" (gZ 29)) (D6:eN K mg "_law_whole" (gZ 30)) (D7:eN K mg "_law_same" (gZ 31)) (D8:eN K mg "_law_rank" (gZ 34)) (D9:eN K mg "lowest" (gZ 8)) (n:eN K mg "is_dims" (gZ 20)) (D:eN K mg "is_cut" (gZ 21)) (F:eN K mg "same_spots" (gZ 23)) (D13:eN K mg "_law_cut" (gZ 32)) (I:eN K mg "_law_flat" (gZ 35)) (k:eN K mg "_law_is_flat" (gZ 37)) (U:eN K mg "cleared" (gZ 9)) (t:eN K mg "can_stand" (gZ 24)) (D18:eN K mg "_law_cutting" (gZ 33)) (S:eN K mg "settled" (gZ 11)) (o:eN K mg "with_pivot" (gZ 12)) (P:eN K mg "checked_cuts" (gZ 25)) (A:eN K mg "pivots_and_rests" (gZ 13)) (q:eN K mg "_law_flats" (gZ 36)) (D24:eN K mg "flat_on" (gZ 15)) (D25:eN K mg "flats" (gZ 16)) (M0:iM K c.Cutting "dims" "Cutting.dims" (l0 (gZ 26) 1)) (M1:iM K c.Cutting "cuts" "Cutting.cuts" (l0 (gZ 26) 2)) (M2:iM K c.Cutting "__init__" "Cutting.__init__" (l0 (gZ 26) 0)) :
  ∃fd:FuncData,(∀(s:Sq) (v:Vq),BindsTo s fd ⟨[v],[]⟩ [("_law_script",v)])/\∀b:Heap,K.In b->b.Ns mainGlobals mg->(∀y∈(["_law_flats", "flats"]:List Str),xD K mg b y)->jM l.prog w K mg b mw 8 fa fd ["_law_script"] (BF K):=by
 have e:=hfa.symm.trans (W.mg_of X G a);cases e;refine⟨W.fnOf "law" "law" (fV (gZ 38)) (eU (gZ 38)) (d8 (gZ 38)) .none kV i pm an d ct,?bnd,λb _ _ LL=>?main⟩
 case main=>have Z:Zx l.prog w K mg b:=⟨trivial⟩;have O0:=o0 Z B ER D0;have O1:=o1 Z B ER D1;have O2:=o2 Z B ER D2;have O3:=o3 Z B ER D3;have O4:=o4 Z B ER M0;have O5:=o5 Z B ER M1;have O6:=o6 Z B ER D4;have O7:=o7 Z B ER D5;have O8:=o8 Z B ER D6;have O9:=o9 Z B ER D7;have O10:=Ll Z B ER D8;have Y:=Lq Z B ER D9 O2;have O12:=Lp Z B ER n O0;have O13:=Lm Z B ER D O0;have x:=Li Z B ER F O3;have H:=Lj Z B ER D13 O7;have m:=Lo Z B ER I O10;have C:=Ly Z B ER k O8;have g:=Ls Z B ER U Y O1;have z:=Lz Z B ER t O13 x;have E:=Ld Z B ER D18 O7 H O9;have j:=Lg Z B ER S g;have J:=LC Z B ER o g;have Q:=Ln Z B ER P O12 z;have p:=Le Z B ER A j J;have r:=Lk Z B ER M2 Q;have O26:=Lu Z B ER q (LL "_law_flats" (by decide)) m;have L:=LB Z B ER D24 p j;have N:=Lf Z B ER D25 (LL "flats" (by decide)) O5 O4 L;exact (oL Z B ER (wA (st:=gZ 38) lk cc kk) E N O6 r O26 C).imp (B4 λu _ _=>LF u)
 case bnd=>exact λs v=>.of_eq rfl
end K41
namespace PySem.Challenge.cw_cutlands_k41_flats_told_holds
def tw780947456085654167:0=0:=rfl
def tw3671876222720499974:0=0:=rfl
def tw111012434698111523:0=0:=rfl
def tw6961384605325121594:0=0:=rfl
def tw12455392561181344182:0=0:=rfl
def tw14260331443526991433:0=0:=rfl
def tw5407116178413382282:0=0:=rfl
def tw16927237007821945293:0=0:=rfl
def tw15816921079230109321:0=0:=rfl
def tw6351080275513220478:0=0:=rfl
def tw1032764710106070208:0=0:=rfl
def tw3764300757391030761:0=0:=rfl
def tw15310261791740384123:0=0:=rfl
def tw2301942272240705:0=0:=rfl
def tw6125267193923561981:0=0:=rfl
def tw14594240477033684023:0=0:=rfl
def tw5008978940899693570:0=0:=rfl
def tw15358696858614980927:0=0:=rfl
def tw15098043293815017263:0=0:=rfl
def tw3388596376575168204:0=0:=rfl
def tw5845872996234227196:0=0:=rfl
def tw5381569005496070697:0=0:=rfl
def tw15258774099744462988:0=0:=rfl
def tw11586845188677682693:0=0:=rfl
def tw9201684126920092046:0=0:=rfl
def tw15702887005860390706:0=0:=rfl
def tw13632465061362572820:0=0:=rfl
def tw3187338956954839179:0=0:=rfl
def tw3375326614865980608:0=0:=rfl
def tw1970663944570129873:0=0:=rfl
def tw16256877496688851525:0=0:=rfl
def tw9736650665632645108:0=0:=rfl
def tw12594120559360422911:0=0:=rfl
def tw14764874034125423867:0=0:=rfl
def tw9161590308631600757:0=0:=rfl
def tw1122500084913485729:0=0:=rfl
def tw11965041464642009208:0=0:=rfl
def tw12827263244333202423:0=0:=rfl
def tw7538639926817716367:0=0:=rfl
def tw11015373147140428067:0=0:=rfl
def tw14827099767104221480:0=0:=rfl
def tw7873286503587340461:0=0:=rfl
def tw6057316612086472002:0=0:=rfl
def tw14604759089232128158:0=0:=rfl
def tw15203098409998672946:0=0:=rfl
def tw7396783577944459582:0=0:=rfl
def tw13271330508386008009:0=0:=rfl
def tw4160459506185793819:0=0:=rfl
def tw13419368778019509497:0=0:=rfl
def tw9332318168919529426:0=0:=rfl
def tw13146065131871921108:0=0:=rfl
def tw10078119534031062606:0=0:=rfl
def tw11280574095450891920:0=0:=rfl
def tw16415297999309604655:0=0:=rfl
def tw15482258666948943526:0=0:=rfl
def tw14735327439425328307:0=0:=rfl
def tw13809064325417844987:0=0:=rfl
def tw7620183723428242544:0=0:=rfl
def tw5634885588361755950:0=0:=rfl
def tw5133826335535260515:0=0:=rfl
def tw159361198481612550:0=0:=rfl
def tw15921092471928485866:0=0:=rfl
def tw1717280550861540099:0=0:=rfl
def tw16986527555183839613:0=0:=rfl
def tw7611695681078931298:0=0:=rfl
def tw14257433463375812241:0=0:=rfl
def tw14190224244810377881:0=0:=rfl
def tw7057458419209232970:0=0:=rfl
def tw8167822303247668276:0=0:=rfl
def tw14078101856060398164:0=0:=rfl
def tw1105042499071630041:0=0:=rfl
def tw11057206327208092152:0=0:=rfl
def tw4340306614954549034:0=0:=rfl
def tw15214375491238135600:0=0:=rfl
def tw15345021209903533095:0=0:=rfl
def tw18190696792839520765:0=0:=rfl
def tw2570793683963684127:0=0:=rfl
def tw18004787458007383720:0=0:=rfl
def tw130947607206257643:0=0:=rfl
def tw14413110574699814352:0=0:=rfl
def tw18139925830519053717:0=0:=rfl
end PySem.Challenge.cw_cutlands_k41_flats_told_holds
open PySem PySem.W PyProof.Rows
set_option Elab.async true
theorem PySem.Challenge.cw_cutlands_k41_flats_told_holds : PySem.Challenge.rw_cutlands_k41_flats_told.Holds := by
 w_on;o_law;k_head;(case hw=>w_witness2);k_fill;refine L3.Hl (l:=PySem.Challenge.rw_cutlands_k41_flats_told) (k:=8) (x:= "_law_script") ["_law_flats", "flats"] rfl ⟨rfl,by decide,by decide⟩ rfl (λw h Y=>PySem.W.km_in_of Y) ?X ?G ?F
 case X=>exact dQ.mpr ⟨⟨_,rfl⟩,dQ.mpr ⟨⟨_,rfl⟩,λ_ h=>nomatch h⟩⟩
 case G=>intro w;kernel_rfl
 case F=>intro w mg fa h KX G hmg;refine' K41.HZ KX G hmg ?a ?l ?c ?k ?B ?E (λns=>CL.Ac ns) ?_ ?_ ?_ ?_ ?_ ?_ ?_ ?_ ?_ ?_ ?_ ?_ ?_ ?_ ?_ ?_ ?_ ?_ ?_ ?_ ?_ ?_ ?_ ?_ ?_ ?_ ?_ ?_ ?_;(case a=>k_is);(case l=>k_is);(case c=>k_is);(case k=>k_is);(case B=>constructor<;>(apply mg_none_of KX G;k_is));(case E=>apply K41.Jp KX G<;>first | k_is | k_exc | decide);all_goals first | (apply L2.Hy KX G<;>k_is) | (apply K41.JK<;>first | k_is | k_exc | decide)
