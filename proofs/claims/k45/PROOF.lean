import PyProof.Rows.All
import Wide.All
import OpenK.AllK
import Wide.FinOn
import Lean
import PyProof.EqAt
import PyProof.EqKinds
import PyProof.TupleCall
import PyProof.P3Eq
import PyProof.NeData
import PyProof.ConsumeWalk
import PyProof.Rows.SumAny
import PyProof.ZipIter
import PyProof.Rows.ZipGen
import PyProof.Rows.SeqMore
import PyProof.FactsAll.tuple
import PyProof.WalksMore
import PyProof.EnumMake
import PyProof.EnumFor
import PyProof.Rows.MinMaxN
import KE.KDictList
import KE.KRevIter
import KE.KItemsList
import PyProof.Rows.SortWalk
import PyProof.Rows.SetFrom
import PyProof.SetRoads
import PyProof.AttrMissHeap
import KE.KDictOf
import PyProof.ExcInit
import PyProof.ExcClass3
import PyProof.InstStoreFacts
import PyProof.Rows.ChunkEnd
import KE.KSortTup
import KE.KLam
import PySem.Challenge.RW_cutlands_k45_traces
set_option bootstrap.genMatcherCode false
set_option maxRecDepth 100000
set_option maxHeartbeats 0
set_option linter.all false
noncomputable section
set_option compiler.extract_closed false
set_option hygiene false
abbrev Oq:=@Option
abbrev Vq:=PySem.Value
abbrev LI:=List Int
abbrev LL:=List LI
section
open PySem
def aa:=@List.getElem?_eq_some_iff
def ae:=@Heap.get?_push_of_some
def af:=@List.getD_eq_getElem?_getD
def ag:=@List.getElem?_eq_getElem
def ai:=@List.mem_append
def aj:=@List.mem_singleton
def ak:=@wpAny_pure
def ao:=@wpAny_bind
def aq:=@List.getElem?_set_ne
def ar:=@Heap.get?_push_size
def au:=@List.mem_of_getElem?
def av:=@List.getElem?_map
def aw:=@List.length_map
def ax:=@List.mem_append_left
def ay:=@List.length_cons
def aA:=@decide_eq_false
def aB:=@decide_eq_true
def aC:=@List.mem_map
def aD:=@Nat.lt_of_lt_of_le
def aE:=@List.mem_cons
def aF:=@Nat.zero_add
def aG:=@Bool.false_ne_true
def aH:=@List.map_map
def aJ:=@Nat.le_refl
def aK:=@Heap.lt_size
def aL:=@Nat.ne_of_lt
def aM:=@Nat.le_trans
def aN:=@Classical.byContradiction
def aP:=@if_pos
def aQ:=@if_neg
def aR:=@List.mem_range
def aS:=@List.length_append
def aT:=@List.mem_filter
def aU:=@List.getElem_mem
def aV:=@List.of_mem_zip
def aW:=@Int.mul_pos
def aX:=@Int.natAbs_mul
def aY:=@List.map_append
def aZ:=@Nat.lt_irrefl
def bf:=@Nat.le_of_lt
def bg:=@List.filterMap_cons
def bh:=@List.mem_cons_self
def bj:=@List.mem_cons_of_mem
def br:=@Array.append_assoc
def bu:=@Array.length_toList
def bx:=@Nat.ne_of_gt
def bz:=@List.mem_filterMap
def bA:=@List.mem_append_right
def bB:=@Bool.eq_iff_iff
def bC:=@List.size_toArray
def bD:=@List.any_eq_false
def bE:=@List.map_cons
def bF:=@Nat.lt_succ_self
def bG:=@Nat.zero_le
def bH:=@List.append_nil
def bI:=@Nat.le_succ
def bJ:=@List.nodup_cons
def bK:=@Option.isSome_iff_exists
def bL:=@List.length_take
def bM:=@List.length_replicate
def bN:=@Int.toNat_natCast
def bO:=@List.length_drop
def bP:=@Bool.and_eq_true
def bQ:=@List.length_set
def bR:=@List.replicate_succ
def bS:=@List.flatten_cons
def bT:=@List.append_assoc
def bU:=@List.length_singleton
def bV:=@List.nil_append
def bW:=@Nat.mul_comm
def bX:=@List.map_nil
def bY:=@List.forIn_cons
def bZ:=@Bool.false_eq_true
def b0:=@List.lookup_cons
def b4:=@Nat.le_of_succ_le
def b5:=@Nat.lt_succ_of_lt
def b7:=@List.forIn_nil
def b8:=@Nat.le_add_right
def b9:=@Nat.le_succ_of_le
def cf:=@List.range_succ_eq_map
def cg:=@List.all_cons
def cj:=@List.all_map
def ck:=@List.all_eq_true
def cm:=@Int.toNat_of_nonneg
def cn:=@List.getElem_toArray
def cq:=@List.countP_map
def cu:=@Int.gcd_dvd_left
def cv:=@Int.gcd_dvd_right
def cw:=@Int.dvd_mul_of_dvd_left
def cy:=@Int.fmod_nonneg_of_pos
def cz:=@Int.fmod_lt_of_pos
def cA:=@Int.natAbs_natCast
def cB:=@Int.gcd_pos_of_ne_zero_right
def cC:=@Int.natAbs_dvd_natAbs
def cD:=@Nat.eq_of_mul_eq_mul_left
def cE:=@Int.mul_assoc
def cF:=@Int.mul_comm
def cG:=@Int.mul_fdiv_cancel_left
def cH:=@List.lookup_cons_self
def cI:=@List.drop_eq_getElem_cons
def cJ:=@List.drop_length
def cK:=@List.mem_nil_iff
def cL:=@List.map_take
def cN:=@List.map_drop
def cO:=@Int.natAbs_add_le
def cP:=@Nat.min_eq_left
def cQ:=@List.take_of_length_le
def cR:=@List.drop_of_length_le
def cS:=@List.dropLast_eq_take
def cT:=@List.map_congr_left
def cU:=@List.cons_append
def cV:=@List.mem_iff_getElem?
def cW:=@Nat.lt_of_le_of_lt
def cX:=@Int.dvd_trans
def cY:=@List.take_length
def cZ:=@Int.one_mul
def c5:=@List.getElem_map
def c6:=@Int.mul_zero
def c7:=@Int.mul_eq_zero
def c8:=@List.zip_cons_cons
def c9:=@List.sum_cons
def dc:=@List.mem_of_mem_take
def de:=@List.mem_of_mem_drop
def dg:=@List.map_set
def dh:=@List.length_zip
def dm:=@Nat.mul_le_mul_right
def dq:=@List.eq_replicate_iff
def du:=@List.any_eq_true
def dw:=@List.take_append_drop
def dy:=@List.pairwise_append
def dz:=@List.length_range
def dA:=@Rat.lt_of_mul_lt_mul_left
def dB:=@Rat.le_of_lt
def dC:=@List.getElem_take
def dD:=@List.map_dropLast
def dE:=@Int.eq_of_mul_eq_mul_left
def dF:=@List.ext_getElem
def dG:=@List.mem_iff_getElem
def dH:=@Int.dvd_zero
def dI:=@Nat.eq_one_of_mul_eq_one_right
def dJ:=@Int.dvd_coe_gcd
def dM:=@List.getElem_zip
def dN:=@List.filter_eq_nil_iff
def dO:=@Option.map_eq_some_iff
def dP:=@List.length_zipIdx
def dQ:=@List.getElem_range
def dR:=@Rat.intCast_mul
end
set_option Elab.async false
namespace L2
open PySem PySem.Spec PyProof.Rows
abbrev nU:=Sum Int Str
noncomputable def Fu:nU->Value->Bool
 |.inl k,v=>Value.isInt k v
 |.inr x,v=>Value.isStrOf x v
def Kf(w:World):nU->Int
 |.inl k=>hashInt k
 |.inr x=>hashStr w x
theorem gB:∀{k} {v},Fu k v=true->(∃i t,k=Sum.inl i/\v=Value.int i t)\/(∃x t,k=Sum.inr x/\v=Value.str x t)
 |.inl i,v,h=>by obtain⟨t,e⟩:=Value.isInt_shape h;exact .inl ⟨i,t,rfl,e⟩
 |.inr x,v,h=>by obtain⟨t,e⟩:=Value.isStrOf_shape h;exact .inr ⟨x,t,rfl,e⟩
def HI a b:decide ((Sum.inl a:nU)=Sum.inl b)=(a==b):=by
 by_cases e:a=b
 .subst e;simp
 .have h:¬(Sum.inl a:nU)=Sum.inl b:=λq=>e (Sum.inl.inj q);rw[aA h];exact (beq_eq_false_iff_ne.mpr e).symm
def Hi a b:decide ((Sum.inr a:nU)=Sum.inr b)=decide (a=b):=by
 by_cases e:a=b
 .subst e;simp
 .have h:¬(Sum.inr a:nU)=Sum.inr b:=λq=>e (Sum.inr.inj q);rw[aA h,aA e]
def GF a b:decide ((Sum.inl a:nU)=Sum.inr b)=false:=aA (λq=>nomatch q)
def GM a b:decide ((Sum.inr a:nU)=Sum.inl b)=false:=aA (λq=>nomatch q)
noncomputable def yq(prog:Program)(w:World):PySem.KeyKind prog w nU where
 is:=Fu
 hash:=Kf w
 inj:=λv a b l f=>by
  rcases gB l with⟨i,t,rfl,rfl⟩|⟨x,t,rfl,rfl⟩
  .rcases gB f with⟨j,u,rfl,e⟩|⟨y,u,rfl,e⟩
   .injection e with c _;rw[c]
   .exact nomatch e
  .rcases gB f with⟨j,u,rfl,e⟩|⟨y,u,rfl,e⟩
   .exact nomatch e
   .injection e with c _;rw[c]
 byValue:=λk v h=>by rcases gB h with⟨i,t,rfl,rfl⟩|⟨x,t,rfl,rfl⟩<;>rfl
 pyHash:=λd h=>by
  rcases gB d with⟨i,t,rfl,rfl⟩|⟨x,t,rfl,rfl⟩
  .exact wpAny_pyHash_int h
  .exact wpAny_pyHash_str h
 eqBool:=λg d h=>by
  rcases gB g with⟨i,t,rfl,rfl⟩|⟨x,t,rfl,rfl⟩
  .rcases gB d with⟨j,u,rfl,rfl⟩|⟨y,u,rfl,rfl⟩
   .rw[HI]at h;exact wpAny_eqBool_int h
   .rw[GF]at h;exact SeqAt.EqAt.int_str i t y u _ _ _ _ h
  .rcases gB d with⟨j,u,rfl,rfl⟩|⟨y,u,rfl,rfl⟩
   .rw[GM]at h;exact SeqAt.EqAt.str_int x t j u _ _ _ _ h
   .rw[Hi]at h;exact wpAny_eqBool_str h
 «strs»:=λk x t v h=>by
  rcases gB h with⟨i,u,rfl,e⟩|⟨y,u,rfl,e⟩
  .exact nomatch e
  .injection e with c _;subst c;cases v<;>rfl
end L2
namespace L2
open PySem PySem.Spec PyProof.Rows
inductive V where
 |non|bl (b:Bool)|int (i:Int)|str (x:Str)|byt (b:Array UInt8)|flt (b:UInt64)|ref (a:Addr)|ty (n:String)
 deriving DecidableEq
def gd:V->Value->Prop
 |.non,u=>u=Value.none
 |.bl b,u=>u=Value.bool b
 |.int i,u=>∃t,u=Value.int i t
 |.str x,u=>∃t,u=Value.str x t
 |.byt b,u=>∃t,u=Value.bytes b t
 |.flt b,u=>∃t,u=Value.float b t
 |.ref a,u=>u=Value.ref a
 |.ty n,u=>u=Value.type n
abbrev fu:List V->List Value->Prop:=Paired gd
def fu.length(r:fu xs us):xs.length=us.length:=Paired.length r
theorem fu.get:∀{xs:List V} {us:List Vq} {i:Nat} {x:V},fu xs us->xs[i]? = some x->∃u,us[i]? = some u/\gd x u
 |_,_,_,_,.nil,e=>by simp at e
 |_,_,0,_,.cons r _,e=>by simp at e;subst e;exact⟨_,rfl,r⟩
 |_,_,i+1,x,.cons _ t,e=>by obtain⟨u,a,b⟩:=fu.get t (by simpa using e);exact⟨u,by simpa using a,b⟩
theorem fu.set(r:gd x u):∀{xs} {us} i,fu xs us->fu (xs.set i x) (us.set i u)
 |_,_,_,.nil=>.nil
 |_,_,0,.cons _ t=>.cons r t
 |_,_,i+1,.cons q t=>.cons q (fu.set r i t)
theorem fu.append:∀{xs ys} {us ws},fu xs us->fu ys ws->fu (xs++ys) (us++ws)
 |_,_,_,_,.nil,s=>s
 |_,_,_,_,.cons r t,s=>.cons r (fu.append t s)
theorem fu.take:∀{xs} {us} n,fu xs us->fu (xs.take n) (us.take n)
 |_,_,0,_=>.nil
 |_,_,_+1,.nil=>.nil
 |_,_,n+1,.cons r t=>.cons r (fu.take n t)
theorem fu.drop:∀{xs} {us} n,fu xs us->fu (xs.drop n) (us.drop n)
 |_,_,0,r=>r
 |_,_,_+1,.nil=>.nil
 |_,_,n+1,.cons _ t=>fu.drop n t
def tW:Oq V->Option Value->Prop
 |some v,some u=>gd v u
 |none,none=>True
 |_,_=>False
def KV{a:Type}:List (a×V)->List (a×Value)->Prop:=Paired λ(p:a×V) (q:a×Value)=>p.1=q.1/\gd p.2 q.2
def kV:nU->V
 |.inl i=>.int i
 |.inr x=>.str x
inductive HO where
 |lst (xs:List V)
 |tup (xs:List V)
 |dK (kvs:List (nU×V))|dT (kvs:List (List nU×V))
 |set (S:Int->Bool) (n:Nat)
 |ins (C dx:Addr) (fs:List (Str×V))
 |own (x:Addr)
 |xd (fs:List (Str×V))
 |met (f x:Addr)
 |rng (lo hi:Int)
 |frz (o:Obj) (u:HO)
 |tbl (q:Str) (ps:Array Vq)
 |ext (φ:Heap->Prop)
abbrev Hp:=Addr->Option HO
noncomputable def gI(H:Hp)(a:Addr)(o:HO):Hp:=λb=>if b=a then some o else H b
def eE:gI H a o a=some o:=by unfold gI;rw[aP rfl]
def eF(h:b≠a):gI H a o b=H b:=by unfold gI;rw[aQ h]
def eX{H:Hp}(h:H a=some o)(c:H b=none):a≠b:=by intro e;subst e;rw[h]at c;cases c
section
variable (P:Program)(w:World)
def qs(h:Heap)(a:Addr)(items:Array Vq):Prop:=∃o,h.get? a=some o/\o.cls=.type "tuple" /\∃n,o.data=.seq items n/\o.dict=none
def qs.tup(x:qs h a items):IsTup h a items:=let ⟨o,e,c,n,d,_⟩:=x;⟨o,e,c,n,d⟩
def qs.new(h:Heap) items:qs (h.push {cls:=.type "tuple",data:=.seq items}) h.objs.size items:=⟨_,ar _ rfl,rfl,_,rfl,rfl⟩
def xS:List Vq->List Value
 |_::_::c::r=>c::xS r
 |_=>[]
def jO(H:Hp)(h:Heap)(a:Addr):HO->Prop
 |.lst xs=>xs.length<=sizeLine/\∃(c:List Vq) (n:Nat),fu xs c/\h.get? a=some {cls:=.type "list",data:=.seq c.toArray n}
 |.tup xs=>xs.length<=sizeLine/\∃c:List Vq,fu xs c/\qs h a c.toArray
 |.dK kvs=>kvs.length<=sizeLine/\(a==sysModules)=false/\∃vs,KV kvs vs/\h.DictOf (yq P w) a vs
 |.dT kvs=>kvs.length<=sizeLine/\(a==sysModules)=false/\∃xs:List (List nU×Addr×Value),
   Paired (λ(p:List nU×V) (q:List nU×Addr×Value)=>p.1=q.1/\H q.2.1=some (.tup (p.1.map kV))/\gd p.2 q.2.2) kvs xs/\
   ∃o e j,h.get? a=some o/\o.ExactDict/\o.data=.dict e j/\e.toList=xs.map (entryOfKey (tupleKind (yq P w)))/\(xs.map (·.1)).Nodup
 |.set S n=>h.SetOf (intKind P w) a S n
 |.ins C dx fs=>H dx=some (.own a)/\fs.length<=1000/\dx≠a/\h.get? a=some (W.instObj C dx)/\
   ∃d,h.Ns1 dx d/\(∀f,tW (fs.lookup f) (d f))/\PySem.Within d (fs.map (·.1))
 |.own _=>∃o,h.get? a=some o
 |.xd fs=>∃d,h.Ns1 a d/\∀f,tW (fs.lookup f) (d f)
 |.rng lo hi=>∃t u v,h.get? a=some {cls:=.type "range",data:=.fields #[.int lo t,.int hi u,.int 1 v]}
 |.frz o u=>h.get? a=some o/\jO H h a u
 |.tbl q ps=>h.get? a=some {cls:=.none,data:=.fields ps}/\TriplesOk ps.toList/\∀v∈xS ps.toList,∃b,v=.ref b/\H b=some (.own a)/\h.CodeRec (.ref b) q
 |.met f x=>h.get? a=some (W.methodObj (.ref f) (.ref x))
 |.ext φ=>φ h/\(∃o,h.get? a=some o)/\∀g i:Heap,φ g->(∀o,g.get? a=some o->i.get? a=some o)->φ i
def mW(H:Hp)(h:Heap):Prop:=∀a o,H a=some o->jO P w H h a o
end
section
variable {P:Program}{w:World}{H H':Hp}{h h':Heap}{a:Addr}{o:HO}
def jO.lt(x:jO P w H h a o):a<h.objs.size:=by
 cases o with
 |lst xs=>obtain⟨_,_,_,_,e⟩:=x;exact aK e
 |tup xs=>obtain⟨_,_,_,p⟩:=x;exact (qs.tup p).lt
 |dK kvs=>obtain⟨_,_,_,_,o,_,_,e,_⟩:=x;exact aK e
 |dT kvs=>obtain⟨_,_,_,_,o,_,_,e,_⟩:=x;exact aK e
 |set S n=>obtain⟨o,_,_,_,e,_⟩:=x;exact aK e
 |ins C dx fs=>obtain⟨_,_,_,e,_⟩:=x;exact aK e
 |own y=>obtain⟨_,e⟩:=x;exact aK e
 |xd fs=>obtain⟨_,⟨_,_,_,e,_⟩,_⟩:=x;exact aK e
 |rng lo hi=>obtain⟨_,_,_,e⟩:=x;exact aK e
 |frz ob u=>obtain⟨e,_⟩:=x;exact aK e
 |tbl q ps=>exact aK x.1
 |met f y=>exact aK (x)
 |ext φ=>obtain⟨_,⟨_,e⟩,_⟩:=x;exact aK e
theorem Paired.mapP{F G:α->β->Prop}:∀{l₁} {l₂},Paired F l₁ l₂->(∀a b,F a b->G a b)->Paired G l₁ l₂
 |_,_,.nil,_=>.nil
 |_,_,.cons r t,f=>.cons (f _ _ r) (Paired.mapP t f)
def Paired.imp'{F G:α->β->Prop}(f:∀a b,F a b->G a b){d:List α}{c:List β}(r:Paired F d c):Paired G d c:=Paired.mapP r f
theorem jO.stay(x:jO P w H h a o)(k:∀b u,(b=a\/H b=some (.own a))->h.get? b=some u->h'.get? b=some u)
  (D:∀b,H b=some (.own a)->H' b=some (.own a)) (J:∀b xs,H b=some (.tup xs)->H' b=some (.tup xs)):jO P w H' h' a o:=by
 induction o with
 |lst xs=>obtain⟨z,l,n,r,e⟩:=x;exact⟨z,l,n,r,k _ _ (.inl rfl) e⟩
 |tup xs=>obtain⟨z,l,r,g,e,c⟩:=x;exact⟨z,l,r,g,k _ _ (.inl rfl) e,c⟩
 |dK kvs=>obtain⟨z,y,m,r,g,i,j,e,c⟩:=x;exact⟨z,y,m,r,g,i,j,k _ _ (.inl rfl) e,c⟩
 |dT kvs=>obtain⟨z,y,xs,r,g,i,j,e,c⟩:=x;exact⟨z,y,xs,Paired.mapP r λp q z=>⟨z.1,J _ _ z.2.1,z.2.2⟩,g,i,j,k _ _ (.inl rfl) e,c⟩
 |set S n=>obtain⟨g,i,j,t,e,c⟩:=x;exact⟨g,i,j,t,k _ _ (.inl rfl) e,c⟩
 |ins C dx fs=>obtain⟨d,z,ne,e,A,⟨s,i,j,B,c⟩,r⟩:=x;exact⟨D _ d,z,ne,k _ _ (.inl rfl) e,A,⟨s,i,j,k _ _ (.inr d) B,c⟩,r⟩
 |own y=>obtain⟨g,e⟩:=x;exact⟨g,k _ _ (.inl rfl) e⟩
 |xd fs=>obtain⟨A,⟨s,i,j,e,c⟩,r⟩:=x;exact⟨A,⟨s,i,j,k _ _ (.inl rfl) e,c⟩,r⟩
 |rng lo hi=>obtain⟨t,u,v,e⟩:=x;exact⟨t,u,v,k _ _ (.inl rfl) e⟩
 |frz g u ih=>obtain⟨e,q⟩:=x;exact⟨k _ _ (.inl rfl) e,ih q⟩
 |tbl q ps=>obtain⟨e,t,L⟩:=x;refine⟨k a _ (.inl rfl) e,t,λv Q=>?_⟩;obtain⟨b,K,F,c,o,m,R,N,B,I⟩:=L v Q;cases N;exact⟨_,K,D _ F,_,o,m,R,rfl,k _ _ (.inr F) B,I⟩
 |met f y=>have e:=x;exact k a _ (.inl rfl) e
 |ext φ=>obtain⟨p,⟨o,e⟩,E⟩:=x;exact⟨E _ _ p λo q=>k _ _ (.inl rfl) q,⟨o,k _ _ (.inl rfl) e⟩,E⟩
def mW.lt(x:mW P w H h)(e:H a=some o):a<h.objs.size:=(x a o e).lt
def mW.fresh(x:mW P w H h)(e:h.objs.size<=a):H a=none:=by
 cases q:H a with
 |none=>rfl
 |some u=>exact absurd (aD (x.lt q) e) (aZ _)
def mW.kept(x:mW P w H h)(k:∀b u,h.get? b=some u->h'.get? b=some u):mW P w H h':=λa o e=>(x a o e).stay (λb u _ q=>k b u q) (λ_ q=>q) λ_ _ q=>q
def mW.laid(x:mW P w H h)(k:∀b u,h.get? b=some u->h'.get? b=some u)(g:h.objs.size<=a)(new:jO P w (gI H a o) h' a o):mW P w (gI H a o) h':=λb u e=>by
 have d:=x.fresh g;by_cases f:b=a
 .subst f;rw[eE]at e;cases e;exact new
 .rw[eF f]at e;exact (x b u e).stay (λc v _ q=>k c v q) (λc q=>by rw[eF (eX q d)];exact q) λc i q=>by rw[eF (eX q d)];exact q
end
def Rd(H:Hp)(a:Addr)(u:HO):Prop:=H a=some u\/∃o,H a=some (.frz o u)
def Rd.ok(r:Rd H a u)(x:mW P w H h):jO P w H h a u:=by
 rcases r with r|⟨o,r⟩
 .exact x a u r
 .obtain⟨_,q⟩:=x a _ r;exact q
def JR:Oq HO->Prop
 |some (.lst _)=>True
 |some (.dK _)=>True
 |some (.dT _)=>True
 |some (.set _ _)=>True
 |some (.ins _ _ _)=>True
 |some (.ext _)=>True
 |_=>False
section
variable {P:Program}{w:World}{H:Hp}{h h':Heap}{x e:Addr}{o':HO}
def mW.write(ok:mW P w H h)(g:JR (H x))(o:e=x\/H e=some (.own x))(k:∀b u,b≠e->h.get? b=some u->h'.get? b=some u)(m:∃u,h'.get? e=some u)
  (new:jO P w (gI H x o') h' x o'):mW P w (gI H x o') h':=λb u q=>by
 have d:∀c y,H c=some (.own y)->c≠x:=λc y r z=>by subst z;rw[r]at g;exact g
 have f:∀c j,H c=some (.tup j)->c≠x:=λc j r z=>by subst z;rw[r]at g;exact g
 by_cases l:b=x
 .subst l;rw[eE]at q;cases q;exact new
 .rw[eF l]at q;by_cases a:b=e
  .have n:H b=some (.own x):=by
    rcases o with z|z
    .exact absurd (a.trans z) l
    .rw[a];exact z
   rw[q]at n;cases n;obtain⟨v,p⟩:=m;exact⟨v,by rw[a];exact p⟩
  .refine (ok b u q).stay (λc v i r=>k c v ?_ r) (λc r=>by rw[eF (d c b r)];exact r) λc j r=>by rw[eF (f c j r)];exact r
   rcases i with rfl|i
   .exact a
   .rintro rfl;rcases o with z|z
    .exact d c b i z
    .rw[i]at z;cases z;exact l rfl
end
structure Un(fs ex:List Addr)(H H':Hp)(h h':Heap):Prop where
 keep:∀b o,h.get? b=some o->H b=none->b∉fs->b∉ex->h'.get? b=some o
 slot:∀b o,h.get? b=some o->H b=none->b∈fs->b∉ex->∃sl,h'.get? b=some {o with slots:=sl}
 free:∀b o,h.get? b=some o->H b=none->b∉ex->H' b=none
 there:∀b o,h.get? b=some o->b∉ex->∃o',h'.get? b=some o'
 tups:∀b xs,H b=some (.tup xs)->H' b=some (.tup xs)
 frzs:∀b o u,H b=some (.frz o u)->H' b=some (.frz o u)
 tbls:∀b q ps,H b=some (.tbl q ps)->∃more,H' b=some (.tbl q (ps++more))
section
variable {fs fs' ex ex':List Addr}{H H1 H2:Hp}{h h1 h2 h':Heap}{a x e:Addr}{o:HO}
def Un.any(u:Un fs ex H H1 h h1)(q:h.get? b=some ob)(n:H b=none)(c:b∉ex):∃f,h1.get? b=some {ob with slots:=f}:=by
 by_cases d:b∈fs
 .exact u.slot b ob q n d c
 .exact⟨ob.slots,u.keep b ob q n d c⟩
def Un.kept(k:∀b u,h.get? b=some u->h'.get? b=some u):Un fs ex H H h h':=⟨λb c q _ _ _=>k b c q,λb c q _ _ _=>⟨c.slots,k b c q⟩,λ_ _ _ n _=>n,λb c q _=>⟨c,k b c q⟩,λ_ _ q=>q,λ_ _ _ q=>q,λ_ _ d q=>⟨#[],by rw[q];simp⟩⟩
def Un.refl:Un fs ex H H h h:=Un.kept λ_ _ q=>q
def Un.laid(k:∀b u,h.get? b=some u->h'.get? b=some u)(d:h.objs.size<=a)(c:H a=none):Un fs ex H (gI H a o) h h' where
 keep:=λb u q _ _ _=>k b u q
 slot:=λb u q _ _ _=>⟨u.slots,k b u q⟩
 free:=λb u q n _=>by rw[eF (aL (aD (aK q) d))];exact n
 there:=λb u q _=>⟨u,k b u q⟩
 tups:=λb f q=>by rw[eF (eX q c)];exact q
 frzs:=λb u f q=>by rw[eF (eX q c)];exact q
 tbls:=λb _ g q=>⟨#[],by rw[eF (eX q c),q];simp⟩
def Un.write(d:JR (H x))(l:e=x\/H e=some (.own x))(k:∀b u,b≠e->h.get? b=some u->h'.get? b=some u)(g:∃u,h'.get? e=some u):Un fs ex H (gI H x o) h h':=by
 have i:∀b,H b=none->b≠x:=λb n z=>by subst z;rw[n]at d;exact d
 have j:∀b,H b=none->b≠e:=λb n z=>by
  subst z;rcases l with r|r
  .exact i b n r
  .rw[n]at r;cases r
 have f:∀b u,H b=some u->¬JR (some u)->b≠x:=λb u q m z=>by subst z;rw[q]at d;exact m d
 refine⟨λb u q n _ _=>k b u (j b n) q,λb u q n _ _=>⟨u.slots,k b u (j b n) q⟩,λb u q n _=>by rw[eF (i b n)];exact n,λb u q _=>?_,
  λb p q=>by rw[eF (f b _ q λz=>z)];exact q,λb u p q=>by rw[eF (f b _ q λz=>z)];exact q,λb _ s q=>⟨#[],by rw[eF (f b _ q λz=>z),q];simp⟩⟩
 by_cases c:b=e
 .subst c;exact g
 .exact⟨u,k b u c q⟩
end
noncomputable def trk(h:Heap)(H:Hp):List Addr:=(List.range h.objs.size).filter λa=>(H a).isSome
def Ce(h:Heap)(H:Hp):Heap:=W.hideAll h (trk h H)
def zS h H:(Ce h H).objs.size=h.objs.size:=W.hideAll_size _ _
def Bp(e:h.get? b=some o)(n:H b=none):(Ce h H).get? b=some o:=W.hideAll_get _ e λa=>by have q:=(aT.mp a).2;rw[n]at q;simp at q
def Dx(e:(Ce h H).get? b=some o):h.get? b=some o/\H b=none:=by
 have a:=W.of_hideAll (trk h H) e;refine⟨a,?_⟩;cases q:H b with
 |none=>rfl
 |some x=>have c:b∈trk h H:=aT.mpr ⟨aR.mpr (aK a),by simp[q]⟩;have z:(Ce h H).get? b=none:=W.hideAll_none (trk h H) c;rw[z]at e;cases e
end L2
namespace L2
open PySem PySem.Spec PyProof.Rows
structure Mod(K:W.Frag)(mg:Str->Option Value)(base:Heap):Prop where
 kin:K.In base
 glob:base.Ns mainGlobals mg
 blt:∃mb,base.Ns builtinsNs mb/\∀x:Str,x≠ "__name__" ->mb x=bootBuiltins x
 nolimit:base.NoLimit
def B7(base:Heap)(H:Hp):Prop:=∀c P a,(c,P)∈base.life.ids->base.CodeRec (.ref c) a->∃b,H P=some (.tbl (a++ ".<locals>.<lambda>") b)
structure Cx where
 prog:Program
 w:World
 K:W.Frag
 mg:Str->Option Value
 base:Heap
 A:Around
 N:List Str
 s₀:Shared
 H₀:Hp
 env:Env
 outer:List Env
 stack:List Env
 ex:List Addr
 fn:Str->Bool
 calm:Bool
 pn:List (Addr×Obj)
 xe:Vq->Shared->Prop
noncomputable def lP(l:List Env):List Addr:=l.filterMap (·.frame)
abbrev Cx.fs(X:Cx):List Addr:=lP X.outer
def IZ(a:Scope)(x:Str):Prop:=a.names.lookup x=some .local\/a.names.lookup x=some .cell\/a.names.lookup x=some .free
def vR(a:Scope)(x:Str):Prop:=a.names.lookup x=some .local\/a.names.lookup x=some .cell
def Ke(a:Env)(h:Heap)(m:Str->Option Value)(x:Str)(u:Vq):Prop:=(a.kindOf x=some .local/\m x=some u)\/((a.kindOf x=some .cell\/a.kindOf x=some .free)/\∃c,a.cells.lookup x=some c/\h.IsCell c (some u))
structure Cx.Ok(X:Cx):Prop where
 mod:Mod X.K X.mg X.base
 kind:X.env.scope.kind=.function
 glob:X.env.globals=mainGlobals
 blt:X.env.builtins=builtinsNs
 above:X.s₀.heap.objs.size<=X.env.locals
 inj:∀x y c,X.env.cells.lookup x=some c->X.env.cells.lookup y=some c->x=y
 has:∀x,(X.env.kindOf x=some .cell\/X.env.kindOf x=some .free)->∃c,X.env.cells.lookup x=some c
 cab:∀x c,X.fn x=true->X.env.cells.lookup x=some c->X.s₀.heap.objs.size<=c
 hd:X.calm=true->X.A.handled=none
 frames:X.A.frames=some X.stack
 stk:X.stack=X.outer\/(X.stack=X.env::X.outer/\X.env.frame=some X.env.locals)
 exf:∀b∈X.ex,b≠X.env.locals/\∀x c,X.env.cells.lookup x=some c->c≠b
 bs:∀b o,X.base.get? b=some o->X.s₀.heap.get? b=some o/\X.H₀ b=none
 bsz:X.base.objs.size<=X.s₀.heap.objs.size
 noex:∀b o,X.base.get? b=some o->b∉X.ex
 exfs:∀b∈X.ex,b∉X.fs
 funs:X.s₀.heap.FunFrames X.base X.outer
 frf:∀b∈X.fs,X.H₀ b=none
 tab:B7 X.base X.H₀
structure eI(X:Cx)(dY:List (Addr×Obj))(σ:List (Option V))(H:Hp)(s:Shared):Prop where
 ok:X.Ok
 os:s.os=X.s₀.os
 bare:AllBare s.gens
 base:Un X.fs X.ex X.H₀ H X.s₀.heap s.heap
 loc:∃m,s.heap.Ns X.env.locals m/\∀(i:Nat) (x:Str) (v:V),X.N[i]? = some x->σ[i]? = some (some v)->IZ X.env.scope x->∃u,gd v u/\Ke X.env s.heap m x u
 cell:∀x c,X.env.cells.lookup x=some c->∃v,s.heap.IsCell c v
 free:H X.env.locals=none
 freeC:∀x c,X.env.cells.lookup x=some c->H c=none
 pin:∀p∈X.pn++dY,s.heap.get? p.1=some p.2/\H p.1=none/\p.1≠X.env.locals/\p.1∉X.fs/\∀v,p.2.data≠.cell v
 hok:mW X.prog X.w H s.heap
 len:σ.length=X.N.length
section
variable {X:Cx}{dY:List (Addr×Obj)}{σ:List (Option V)}{H H':Hp}{s:Shared}{h':Heap}
def Cx.Ok.nofr(ok:X.Ok)(e:X.base.get? b=some o):b∉X.fs:=λa=>by have:=(ok.funs.mem a).1;rw[e]at this;cases this
def eI.bs(I:eI X dY σ H s):∀b o,X.base.get? b=some o->s.heap.get? b=some o/\H b=none:=λb o e=>⟨I.base.keep b o (I.ok.bs b o e).1 (I.ok.bs b o e).2 (I.ok.nofr e) (I.ok.noex b o e),I.base.free b o (I.ok.bs b o e).1 (I.ok.bs b o e).2 (I.ok.noex b o e)⟩
def eI.tab(I:eI X dY σ H s):B7 X.base H:=λc P d a b=>let ⟨ps,e⟩:=I.ok.tab c P d a b;let ⟨more,q⟩:=I.base.tbls _ _ ps e;⟨ps++more,q⟩
def eI.bk(I:eI X dY σ H s):∀b o,X.base.get? b=some o->s.heap.get? b=some o:=λb o e=>(I.bs b o e).1
def eI.mod(I:eI X dY σ H s):Mod X.K X.mg X.base:=I.ok.mod
def eI.kIn(I:eI X dY σ H s):X.K.In s.heap:=I.ok.mod.kin.keeps I.bk
def eI.lt(I:eI X dY σ H s):X.env.locals<s.heap.objs.size:=let ⟨_,hn,_⟩:=I.loc;hn.lt
def eI.sz(I:eI X dY σ H s):X.s₀.heap.objs.size<=s.heap.objs.size:=aM I.ok.above (bf I.lt)
def eI.nofs(I:eI X dY σ H s)(h:s.heap.objs.size<=a):a∉X.fs:=λc=>by obtain⟨_,o,b,_⟩:=I.ok.funs.mem c;exact absurd (aD (aK b) (aM I.sz h)) (aZ _)
def eI.cne(I:eI X dY σ H s):∀x c,X.env.cells.lookup x=some c->c≠X.env.locals:=λx c e z=>by obtain⟨v,o,d,f⟩:=I.cell x c e;obtain⟨m,⟨h,g,i,a,b,_⟩,_⟩:=I.loc;rw[z,a]at d;cases d;rw[b]at f;cases f
def eI.funs(I:eI X dY σ H s):s.heap.FunFrames X.base X.outer:=by
 have all:∀(l:List Env),(∀b∈lP l,b∈X.fs)->X.s₀.heap.FunFrames X.base l->s.heap.FunFrames X.base l:=by
  intro l;induction l with
  |nil=>intro _ _;trivial
  |cons env r ih=>intro f j;obtain⟨h,⟨L,o,a,g,i,m⟩,k⟩:=j;have c:=f L (by unfold lP;rw[bg,a];exact bh);obtain⟨n,e⟩:=I.base.slot L o i (I.ok.frf L c) c λz=>I.ok.exfs L z c;exact⟨h,⟨L,_,a,g,e,m⟩,ih (λb d=>f b (by unfold lP;rw[bg,a];exact bj _ d)) k⟩
 exact all X.outer (λ_ d=>d) I.ok.funs
def eI.stack(I:eI X dY σ H s):s.heap.FunFrames X.base X.stack:=by
 rcases I.ok.stk with e|⟨e,b⟩
 .rw[e];exact I.funs
 .rw[e];obtain⟨m,a,_⟩:=I.loc;refine .cons (by rw[I.ok.kind];decide) b a ?_ I.funs;exact Heap.get?_none_of_le (aM I.ok.bsz I.ok.above)
def eI.stkSub(I:eI X dY σ H s):∀b∈lP X.stack,b∈X.env.locals::X.fs:=λb a=>by
 rcases I.ok.stk with e|⟨e,c⟩
 .rw[e]at a;exact bj _ a
 .rw[e]at a;unfold lP at a;rw[bg,c]at a;exact a
def eI.stkFree(I:eI X dY σ H s):∀b∈lP X.stack,H b=none:=λb a=>by
 rcases aE.mp (I.stkSub b a) with e|a
 .rw[e];exact I.free
 .obtain⟨_,o,c,_⟩:=I.ok.funs.mem a;exact I.base.free b o c (I.ok.frf b a) λz=>I.ok.exfs b z a
def eI.step{ch:List Addr}(I:eI X dY σ H s)
  (g:∀b∈ch,(b∈X.ex\/X.s₀.heap.objs.size<=b)/\b≠X.env.locals/\(∀x c,X.env.cells.lookup x=some c->c≠b)/\∀p∈X.pn++dY,p.1≠b)
  (h:∀b o,b≠X.env.locals->b∉X.fs->b∉ch->s.heap.get? b=some o->H b=none->h'.get? b=some o)
  (B:∀b o,b≠X.env.locals->b∈X.fs->b∉ch->s.heap.get? b=some o->H b=none->∃S,h'.get? b=some {o with slots:=S}) (f:∀b o,b∉ch->s.heap.get? b=some o->H b=none->H' b=none)
  (C:∀b o,b∉ch->s.heap.get? b=some o->∃N,h'.get? b=some N)
  (P:∀b xs,H b=some (.tup xs)->H' b=some (.tup xs)) (L:∀b o u,H b=some (.frz o u)->H' b=some (.frz o u)) (Q:∀b q ps,H b=some (.tbl q ps)->∃K,H' b=some (.tbl q (ps++K)))
  (ns:∀m,s.heap.Ns X.env.locals m->h'.Ns X.env.locals m) (R:mW X.prog X.w H' h') (hg:AllBare g') :
  eI X dY σ H' {s with heap:=h',gens:=g',drawn:=d',toks:=t'}:=by
 have F:∀b o,X.s₀.heap.get? b=some o->b≠X.env.locals:=λb o e=>aL (aD (aK e) I.ok.above);have A:∀b o,X.s₀.heap.get? b=some o->b∉X.ex->b∉ch:=λb o e a D=>by
  rcases (g b D).1 with z|z
  .exact a z
  .exact absurd (aD (aK e) z) (aZ _)
 have j:∀x c,X.env.cells.lookup x=some c->∀v,s.heap.IsCell c v->h'.IsCell c v:=λx c e v ⟨o,E,Y⟩=>by
  have t:c∉ch:=λz=>(g c z).2.2.1 x c e rfl;by_cases hc:c∈X.fs
  .obtain⟨S,q⟩:=B c o (I.cne x c e) hc t E (I.freeC x c e);exact⟨_,q,Y⟩
  .exact⟨o,h c o (I.cne x c e) hc t E (I.freeC x c e),Y⟩
 refine⟨I.ok,I.os,hg,⟨λb o e n D a=>?_,λb o e n D a=>?_,λb o e n a=>?_,λb o e a=>?_,λb xs e=>P b xs (I.base.tups b xs e),λb o xs e=>L b o xs (I.base.frzs b o xs e),λb _ ps e=>?_⟩,?_,λx c e=>?_,?_,λx c e=>?_,λp hp=>?_,R,I.len⟩
 .exact h b o (F b o e) D (A b o e a) (I.base.keep b o e n D a) (I.base.free b o e n a)
 .obtain⟨S,y⟩:=I.base.slot b o e n D a;obtain⟨U,J⟩:=B b _ (F b o e) D (A b o e a) y (I.base.free b o e n a);exact⟨U,J⟩
 .obtain⟨N,y⟩:=I.base.there b o e a;exact f b N (A b o e a) y (I.base.free b o e n a)
 .obtain⟨N,y⟩:=I.base.there b o e a;exact C b N (A b o e a) y
 .obtain⟨m1,y⟩:=I.base.tbls b _ ps e;obtain⟨m2,J⟩:=Q b _ _ y;exact⟨m1++m2,by rw[J,br]⟩
 .obtain⟨m,hn,hl⟩:=I.loc;refine⟨m,ns m hn,λi x v y J e3=>?_⟩;obtain⟨u,r,l⟩:=hl i x v y J e3;refine⟨u,r,?_⟩;rcases l with l|⟨k,c,e,z⟩
  .exact .inl l
  .exact .inr ⟨k,c,e,j x c e _ z⟩
 .obtain⟨v,z⟩:=I.cell x c e;exact⟨v,j x c e v z⟩
 .obtain⟨m,⟨o,_,_,E,_⟩,_⟩:=I.loc;exact f _ o (λz=>(g _ z).2.1 rfl) E I.free
 .obtain⟨v,o,E,Y⟩:=I.cell x c e;exact f c o (λz=>(g c z).2.2.1 x c e rfl) E (I.freeC x c e)
 .obtain⟨e,n,ne,Z,d⟩:=I.pin p hp;have t:p.1∉ch:=λz=>(g p.1 z).2.2.2 p hp rfl;exact⟨h p.1 p.2 ne Z t e n,f p.1 p.2 t e n,ne,Z,d⟩
def eI.un(I:eI X dY σ H s)(u:Un X.fs [] H H' s.heap h')(d:mW X.prog X.w H' h'):eI X dY σ H' {s with heap:=h',toks:=t'}:=by obtain⟨m,⟨o,l,v,h,r⟩,_⟩:=id I.loc;obtain⟨q,j⟩:=u.any h I.free (by simp);exact I.step (ch:=[]) (λ_ z=>nomatch z) (λb o _ g _ e n=>u.keep b o e n g (by simp)) (λb o _ g _ e n=>u.slot b o e n g (by simp)) (λb o _ e n=>u.free b o e n (by simp)) (λb o _ e=>u.there b o e (by simp)) u.tups u.frzs u.tbls (λp i=>by obtain⟨t,f,c,a,k⟩:=i;rw[h]at a;cases a;exact⟨_,f,c,j,k⟩) d I.bare
def eI.call(I:eI X dY σ H s)(u:Un (lP X.stack) ch H H' s.heap h')(h:mW X.prog X.w H' h')(v:AllBare g')
  (d:∀b∈ch,(b∈X.ex\/X.s₀.heap.objs.size<=b)/\b≠X.env.locals/\(∀x c,X.env.cells.lookup x=some c->c≠b)/\∀p∈X.pn++dY,p.1≠b) :
  eI X dY σ H' {s with heap:=h',gens:=g',drawn:=d',toks:=t'}:=by
 obtain⟨m,⟨o,y,D,k,r⟩,_⟩:=id I.loc;obtain⟨B,i⟩:=u.any k I.free λz=>(d _ z).2.1 rfl;exact I.step d (λb o i t a e n=>u.keep b o e n (λz=>(aE.mp (I.stkSub b z)).elim i t) a) (λb o _ _ a e n=>u.any e n a) (λb o a e n=>u.free b o e n a) (λb o a e=>u.there b o e a) u.tups u.frzs u.tbls (λA l=>by obtain⟨C,j,g,f,q⟩:=l;rw[k]at f;cases f;exact⟨_,j,g,i,q⟩) h v
def eI.turned(I:eI X dY σ H s)(k:∀b o,b≠it->s.heap.get? b=some o->h'.get? b=some o)(i:H it=none)(f:it≠X.env.locals)
  (l:it∈X.ex\/X.s₀.heap.objs.size<=it) (w:∀x c,X.env.cells.lookup x=some c->c≠it) (j:∀p∈X.pn++dY,p.1≠it):eI X dY σ H {s with heap:=h',toks:=t'}:=by
 have d:∀b u,H b=some u->b≠it:=λb u e z=>by rw[z,i]at e;cases e
 refine I.step (ch:=[it]) (λb A=>?_) (λb o _ _ a e _=>k b o (λz=>a (by simp[z])) e) (λb o _ _ a e _=>⟨o.slots,k b o (λz=>a (by simp[z])) e⟩) (λ_ _ _ _ n=>n)
  (λb o a e=>⟨o,k b o (λz=>a (by simp[z])) e⟩) (λ_ _ e=>e) (λ_ _ _ e=>e) (λb _ B e=>⟨#[],by rw[e];simp⟩) (λm h=>?_) (λb u e=>?_) I.bare
 .have e:b=it:=by simpa using A
  subst e;exact⟨l,f,w,j⟩
 .obtain⟨o,g,y,t,r⟩:=h;exact⟨o,g,y,k _ o (Ne.symm f) t,r⟩
 .refine (I.hok b u e).stay (λc v a q=>k c v ?_ q) (λ_ q=>q) λ_ _ q=>q;rcases a with z|z
  .rw[z];exact d b u e
  .exact d c _ z
def eI.tok(I:eI X dY σ H s) t:eI X dY σ H {s with toks:=t}:=I.un Un.refl I.hok
def eI.kept(I:eI X dY σ H s)(k:∀b u,s.heap.get? b=some u->h'.get? b=some u):eI X dY σ H {s with heap:=h',toks:=t'}:=I.un (Un.kept k) (I.hok.kept k)
def eI.laid(I:eI X dY σ H s)(k:∀b u,s.heap.get? b=some u->h'.get? b=some u)(c:s.heap.objs.size<=a)(new:jO X.prog X.w (gI H a o) h' a o) :
  eI X dY σ (gI H a o) {s with heap:=h',toks:=t'}:=I.un (Un.laid k c (I.hok.fresh c)) (I.hok.laid k c new)
def eI.write(I:eI X dY σ H s)(d:JR (H x))(c:e=x\/H e=some (.own x))(k:∀b u,b≠e->s.heap.get? b=some u->h'.get? b=some u)(a:∃u,h'.get? e=some u)
  (new:jO X.prog X.w (gI H x o) h' x o):eI X dY σ (gI H x o) {s with heap:=h',toks:=t'}:=I.un (Un.write d c k a) (I.hok.write d c k a new)
def eI.weak(I:eI X dY σ H s)(c:σ'.length=σ.length)(w:∀(i:Nat) v,σ'[i]? = some (some v)->σ[i]? = some (some v)):eI X dY σ' H s:=⟨I.ok,I.os,I.bare,I.base,let ⟨m,hn,hl'⟩:=I.loc;⟨m,hn,λi x v a b d=>hl' i x v a (w i v b) d⟩,I.cell,I.free,I.freeC,I.pin,I.hok,c.trans I.len⟩
def eI.pins_of(I:eI X dY σ H s)(h:∀p∈pins',s.heap.get? p.1=some p.2/\H p.1=none/\p.1≠X.env.locals/\p.1∉X.fs/\∀v,p.2.data≠.cell v):eI X pins' σ H s:=⟨I.ok,I.os,I.bare,I.base,I.loc,I.cell,I.free,I.freeC,λp a=>(ai.mp a).elim (λz=>I.pin p (ax _ z)) (h p),I.hok,I.len⟩
def qT{N:List Str}(d:N.Nodup){i j:Nat}(a:N[i]? = some x)(b:N[j]? = some x):i=j:=by obtain⟨f,c⟩:=aa.mp a;obtain⟨g,e⟩:=aa.mp b;exact (List.getElem_inj d).mp (c.trans e.symm)
def sG{M:Model}{A:Around}{E:Vq->Shared->Prop}{i:Nat}{x:Str}{v:V}{u:Vq}{Q:Unit->Shared->Prop}(I:eI X dY σ H s)(hN:X.N.Nodup)(R:X.N[i]? = some x)(t:vR X.env.scope x)(r:gd v u)
  (h:∀s',eI X dY (σ.set i (some v)) H s'->(∃a,Heap.SameBut a s.heap s'.heap/\(a=X.env.locals\/X.env.cells.lookup x=some a))->Q () s') (hf:X.fn x=true\/X.env.scope.names.lookup x=some .local:=by first|exact .inl rfl|exact .inr rfl|assumption):wpAny M A (storeName X.env x u) Q E s:=by
 obtain⟨m,hn,hl⟩:=id I.loc;have Y:(X.env.scope.kind==.class||(X.env.scope.kind==.module&&X.env.locals != X.env.globals))=false:=by rw[I.ok.kind];rfl
 have F:i<σ.length:=by rw[I.len];exact (aa.mp R).1
 have cne:=I.cne;have tracked:∀{a:Addr} {h':Heap},(∃o,s.heap.get? a=some o/\H a=none)->Heap.SameBut a s.heap h'->mW X.prog X.w H h':=λ{a h'} ha f b ob e=>by
  obtain⟨_,_,B⟩:=ha;refine (I.hok b ob e).stay (λc w' l q=>(f.2 c ?_).trans q) (λ_ q=>q) λ_ _ q=>q;rintro rfl;rcases l with rfl|l
  .rw[B]at e;cases e
  .rw[B]at l;cases l
 rcases t with D|D
 .refine wpAny_storeName_local D hn (λh' hn' f=>?_) Y;obtain⟨oL,_,_,hoL,_⟩:=id hn;refine h _ ⟨I.ok,I.os,I.bare,⟨λb o e n L t=>?_,λb o e n L t=>?_,I.base.free,λb o e t=>?_,I.base.tups,I.base.frzs,I.base.tbls⟩,⟨_,hn',λj y v' g C e3=>?_⟩,λy c e=>?_,I.free,I.freeC,λp hp=>?_,tracked ⟨oL,hoL,I.free⟩ f,by simpa using I.len⟩ ⟨_,f,.inl rfl⟩
  .exact (f.2 b (aL (aD (aK e) I.ok.above))).trans (I.base.keep b o e n L t)
  .obtain⟨sl,g⟩:=I.base.slot b o e n L t;exact⟨sl,(f.2 b (aL (aD (aK e) I.ok.above))).trans g⟩
  .obtain⟨o',g⟩:=I.base.there b o e t;exact⟨o',(f.2 b (aL (aD (aK e) I.ok.above))).trans g⟩
  .by_cases K:j=i
   .subst K;rw[R]at g;cases g;rw[List.getElem?_set_self F]at C;cases C;exact⟨u,r,.inl ⟨D,by simp⟩⟩
   .rw[aq (Ne.symm K)]at C;obtain⟨u',r',q⟩:=hl j y v' g C e3;refine⟨u',r',?_⟩;rcases q with⟨k,e⟩|⟨k,c,e,z⟩
    .refine .inl ⟨k,?_⟩;have:y≠x:=λe=>K (qT hN g (e▸R));simp[this,e]
    .exact .inr ⟨k,c,e,z.sameBut f (cne y c e)⟩
  .obtain⟨w',z⟩:=I.cell y c e;exact⟨w',z.sameBut f (cne y c e)⟩
  .obtain⟨e,n,ne,nf,d⟩:=I.pin p hp;exact⟨(f.2 p.1 ne).trans e,n,ne,nf,d⟩
 .have J:X.fn x=true:=by
   rcases hf with z|z
   .exact z
   .rw[z]at D;cases D
  obtain⟨c,l⟩:=I.ok.has x (.inl D);obtain⟨w',z⟩:=I.cell x c l;refine wpAny_storeName_cell I.ok.kind D l z (λh' Z f=>?_);obtain⟨oc,S,P⟩:=id z;refine h {s with heap:=h'} ⟨I.ok,I.os,I.bare,⟨λb o e n L t=>?_,λb o e n L t=>?_,I.base.free,λb o e t=>?_,I.base.tups,I.base.frzs,I.base.tbls⟩,⟨m,hn.sameBut f (Ne.symm (cne x c l)),λj y v' g C e3=>?_⟩,λy c' e=>?_,I.free,I.freeC,λp hp=>?_,tracked ⟨oc,S,I.freeC x c l⟩ f,by simpa using I.len⟩ ⟨c,f,.inr l⟩
  .exact (f.2 b (aL (aD (aK e) (I.ok.cab x c J l)))).trans (I.base.keep b o e n L t)
  .obtain⟨sl,g⟩:=I.base.slot b o e n L t;exact⟨sl,(f.2 b (aL (aD (aK e) (I.ok.cab x c J l)))).trans g⟩
  .obtain⟨o',g⟩:=I.base.there b o e t;exact⟨o',(f.2 b (aL (aD (aK e) (I.ok.cab x c J l)))).trans g⟩
  .by_cases K:j=i
   .subst K;rw[R]at g;cases g;rw[List.getElem?_set_self F]at C;cases C;exact⟨u,r,.inr ⟨.inl D,c,l,Z⟩⟩
   .rw[aq (Ne.symm K)]at C;obtain⟨u',r',q⟩:=hl j y v' g C e3;refine⟨u',r',?_⟩;rcases q with q|⟨k,c',e,z'⟩
    .exact .inl q
    .refine .inr ⟨k,c',e,z'.sameBut f ?_⟩;rintro rfl;exact K (qT hN g (I.ok.inj _ _ _ e l▸R))
  .by_cases U:c'=c
   .subst U;exact⟨_,Z⟩
   .obtain⟨w2,z2⟩:=I.cell y c' e;exact⟨w2,z2.sameBut f U⟩
  .obtain⟨e,n,ne,nf,d⟩:=I.pin p hp;refine⟨(f.2 p.1 ?_).trans e,n,ne,nf,d⟩;intro q;rw[q,S]at e;have q':=Option.some.inj e;exact d w' (by rw[<-q'];exact P)
def lU{M:Model}{A:Around}{E:Vq->Shared->Prop}{i:Nat}{x:Str}{v:V}{u:Vq}{Q:Unit->Shared->Prop}(I:eI X dY σ H s)(b:X.N.Nodup)(c:X.N[i]? = some x)(d:vR X.env.scope x)(r:gd v u)
  (h:∀a,eI X dY (σ.set i (some v)) H a->Q () a) (f:X.fn x=true\/X.env.scope.names.lookup x=some .local:=by first|exact .inl rfl|exact .inr rfl|assumption):wpAny M A (storeName X.env x u) Q E s:=
 sG I b c d r (λa e _=>h a e) f
def eI.call'(I:eI X dY σ H s)(f:s'.os=s.os)(u:Un (lP X.stack) ch H H' s.heap s'.heap)(a:mW X.prog X.w H' s'.heap)(g:AllBare s'.gens)
  (d:∀b∈ch,(b∈X.ex\/X.s₀.heap.objs.size<=b)/\b≠X.env.locals/\(∀x c,X.env.cells.lookup x=some c->c≠b)/\∀p∈X.pn++dY,p.1≠b):eI X dY σ H' s':=by
 obtain⟨h',i,k,h,j⟩:=s';have e:=f;subst e;exact I.call u a g d
end
abbrev XK:=Value->Option Addr->Hp->Prop
abbrev St:=List (Option V)
abbrev VK:=V->Hp->Prop
abbrev TE:=St->Hp->VK->Prop
abbrev TT:=St->Hp->(Bool->Hp->Prop)->Prop
abbrev TA:=St->Hp->(List V->Hp->Prop)->Prop
structure lB where
 nx:St->Hp->Prop
 rt:VK
 bk:St->Hp->Prop:=λ_ _=>False
 ct:St->Hp->Prop:=λ_ _=>False
abbrev TS:=lB->St->Hp->Prop
def EP(X:Cx)(d:List (Addr×Obj))(b:St)(Q:VK)(u:Vq)(c:Shared):Prop:=∃v a,eI X d b a c/\gd v u/\Q v a
def TP(X:Cx)(e:List (Addr×Obj))(c:St)(Q:Bool->Hp->Prop)(b:Bool)(d:Shared):Prop:=∃a,eI X e c a d/\Q b a
def AP(X:Cx)(e:List (Addr×Obj))(c:St)(Q:List V->Hp->Prop)(us:List Vq)(d:Shared):Prop:=∃a b,eI X e c b d/\fu a us/\Q a b
def SP(X:Cx)(d:List (Addr×Obj))(D:lB)(f:Flow)(c:Shared):Prop:=
 match f with
 |.next=>∃a b,eI X d a b c/\D.nx a b
 |.brk=>∃a b,eI X d a b c/\D.bk a b
 |.cont=>∃a b,eI X d a b c/\D.ct a b
 |.ret u=>∃v a b,eI X d a b c/\gd v u/\D.rt v b
def PE(X:Cx)(e:Expr)(t:TE):Prop:=∀(b:List (Addr×Obj)) (s:Shared) (a:St) (H:Hp) (Q:VK),eI X b a H s->t a H Q->wpAny (model X.prog X.w) X.A (eval e X.env) (EP X b a Q) X.xe s
def PT(X:Cx)(e:Expr)(t:TT):Prop:=∀(b:List (Addr×Obj)) (s:Shared) (a:St) (H:Hp) (Q:Bool->Hp->Prop),eI X b a H s->t a H Q->wpAny (model X.prog X.w) X.A (isTrue e X.env (eval e X.env)) (TP X b a Q) X.xe s
def PW(X:Cx)(e:Expr)(t:TT):Prop:=∀(a:Sem Vq) (c:List (Addr×Obj)) (s:Shared) (b:St) (H:Hp) (Q:Bool->Hp->Prop),eI X c b H s->t b H Q->wpAny (model X.prog X.w) X.A (isTrue e X.env a) (TP X c b Q) X.xe s
def PW.pt(h:PW X e t):PT X e t:=h _
def PA(X:Cx)(d:List Expr)(t:TA):Prop:=∀(b:Pos) (c:List (Addr×Obj)) (s:Shared) (a:St) (H:Hp) (Q:List V->Hp->Prop),eI X c a H s->t a H Q->wpAny (model X.prog X.w) X.A (spliced (backTo b (starEach d X.env))) (AP X c a Q) X.xe s
def PS(X:Cx)(st:Stmt)(t:TS):Prop:=∀(b:List (Addr×Obj)) (s:Shared) (a:St) (H:Hp) (D:lB),eI X b a H s->t D a H->wpAny (model X.prog X.w) X.A (exec st X.env) (SP X b D) X.xe s
def nk(X:Cx)(st:List Stmt)(t:TS):Prop:=∀(b:List (Addr×Obj)) (s:Shared) (a:St) (H:Hp) (D:lB),eI X b a H s->t D a H->wpAny (model X.prog X.w) X.A (execs st X.env) (SP X b D) X.xe s
def gX{c:Type}{t:Sem c}{Q b:c->Shared->Prop}{M:Model}{A:Around}{E:Vq->Shared->Prop}{s:Shared}(h:wpAny M A t Q E s)(d:∀a s,Q a s->b a s):wpAny M A t b E s:=wpAny_mono h d λ_ _ x=>x
end L2
namespace L2
open PySem PySem.Spec PyProof.Rows
section
variable {X:Cx}
def jN(i:Nat):TE:=λa H Q=>∃v,a[i]? = some (some v)/\Q v H
def tC(v:V):TE:=λ_ H Q=>Q v H
def FR(p:X.N[i]? = some x)(t:IZ X.env.scope x)(g:(x==("__debug__" : Str))=false:=by decide)(f:(x==("__classdict__" : Str))=false:=by decide):PE X (.Name x pos) (jN i):=by
 intro o s k H Q I h;obtain⟨v,e,h⟩:=h;obtain⟨m,q,w⟩:=I.loc;obtain⟨u,r,l⟩:=w i x v p e t;have b:EP X o k Q u s:=⟨v,H,I,r,h⟩;rcases l with⟨d,n⟩|⟨d,c,j,a⟩
 .exact wpAny_Name (wpAny_loadName_local I.ok.kind d q n b) g
 .rcases d with d|d
  .exact wpAny_Name (wpAny_loadName_cell I.ok.kind d j a b) g
  .exact wpAny_Name (wpAny_loadName_free I.ok.kind d j a b f) g
def Bf{i j pos}:PE X (.Constant (.int i) j pos) (tC (.int i)):=λ_ _ _ H _ I h=>wpAny_Constant_int ⟨.int i,H,I.tok _,⟨_,rfl⟩,h⟩
def CB{b j pos}:PE X (.Constant (.bool b) j pos) (tC (.bl b)):=λ_ _ _ H _ I h=>Constant_bool ⟨.bl b,H,I,rfl,h⟩
def G2{j pos}:PE X (.Constant .none j pos) (tC .non):=λ_ _ _ H _ I h=>Constant_none ⟨.non,H,I,rfl,h⟩
def iT{x j pos}:PE X (.Constant (.str x) j pos) (tC (.str x)):=λ_ _ _ H _ I h=>Calls.Constant_str ⟨.str x,H,I.tok _,⟨_,rfl⟩,h⟩
def Gl(X:Cx)(x:Str):Prop:=X.env.kindOf x=some .globalImplicit
def mh(I:eI X dY σ H s)(c:Gl X x)(a:X.mg x=some u)(h:Q u s)
  (b:(x==("__debug__" : Str))=false:=by decide):wpAny (model X.prog X.w) X.A (eval (.Name x pos) X.env) Q E s:=
 Calls.Name_function_global I.ok.kind c (Calls.loadGlobal_global (by rw[I.ok.glob];exact I.mod.glob.keeps I.bk) a h) b
def oR(I:eI X dY σ H s)(hg:Gl X x)(hm:X.mg x=none)(hv:bootBuiltins x=some u)(h:Q u s)
  (hn:x≠ "__name__" :=by decide) (hd:(x==("__debug__" : Str))=false:=by decide):wpAny (model X.prog X.w) X.A (eval (.Name x pos) X.env) Q E s:=by
 obtain⟨mb,h1,h2⟩:=I.mod.blt;exact Calls.Name_function_global I.ok.kind hg (Calls.loadGlobal_builtin (by rw[I.ok.glob];exact I.mod.glob.keeps I.bk) hm (by rw[I.ok.blt];exact h1.keeps I.bk) ((h2 x hn).trans hv) h) hd
def iF(c:Gl X x)(a:X.mg x=some u)(r:gd v u)(b:(x==("__debug__" : Str))=false:=by decide):PE X (.Name x pos) (tC v):=λ_ _ _ H _ I h=>mh I c a ⟨v,H,I,r,h⟩ b
def xr(e:Gl X x)(c:X.mg x=none)(a:bootBuiltins x=some u)(r:gd v u)(b:x≠ "__name__" :=by decide)(d:(x==("__debug__" : Str))=false:=by decide):PE X (.Name x pos) (tC v):=λ_ _ _ H _ I h=>oR I e c a ⟨v,H,I,r,h⟩ b d
variable {a b:Expr}{ta tb:TE}{pos:Pos}
def tB(t:TE):TT:=λd H Q=>t d H λx e=>∃c,x=.bl c/\Q c e
def wd(h:PE X e t)(g:∀c,isTrue e X.env c=(do let v <-c;standAt e.pos;holding [v] (truthy v)):=by intro _;rfl):PT X e (tB t):=by intro i s f H Q I hw;refine isTrue_plain (gX (h i s f H _ I hw) λv s1 ⟨x,H1,I1,r1,q1⟩=>?_) (g _);obtain⟨d,rfl,q⟩:=q1;cases r1;exact wpAny_truthy_bool ⟨H1,I1,q⟩
variable {tA tB':TT}{jy:List Expr}
def Gc(t u:TT):TT:=λd H Q=>t d H λc e=>if c=true then u d e Q else Q false e
def JC(t u:TT):TT:=λd H Q=>t d H λc e=>if c=true then Q true e else u d e Q
def E2(t:TT):TT:=λd H Q=>t d H λc e=>Q (!c) e
def Ee(f:PT X a tA):PW X (.BoolOp .And [a] pos) tA:=by
 intro i g s d H Q I h;refine isTrue_and (gX (f g s d H Q I h) λc j e=>?_);cases c with
 |true=>exact isTrue_and_nil e
 |false=>exact e
def A1(f:PT X a tA):PW X (.BoolOp .Or [a] pos) tA:=by
 intro i g s d H Q I h;refine isTrue_or (gX (f g s d H Q I h) λc j e=>?_);cases c with
 |false=>exact isTrue_or_nil e
 |true=>exact e
def Ge(g:PT X a tA)(i:PW X (.BoolOp .And (b::jy) pos) tB'):PW X (.BoolOp .And (a::b::jy) pos) (Gc tA tB'):=by
 intro f e s d H Q I h;refine isTrue_and (gX (g e s d H _ I h) λc s1 ⟨H1,I1,q1⟩=>?_);cases c with
 |true=>exact i f e s1 d H1 Q I1 q1
 |false=>exact⟨H1,I1,q1⟩
def Fo(g:PT X a tA)(i:PW X (.BoolOp .Or (b::jy) pos) tB'):PW X (.BoolOp .Or (a::b::jy) pos) (JC tA tB'):=by
 intro f e s d H Q I h;refine isTrue_or (gX (g e s d H _ I h) λc s1 ⟨H1,I1,q1⟩=>?_);cases c with
 |true=>exact⟨H1,I1,q1⟩
 |false=>exact i f e s1 d H1 Q I1 q1
def xl(f:PT X a tA):PT X (.UnaryOp .Not a pos) (E2 tA):=by intro g s d H Q I h;exact isTrue_not (f g s d H (λc e=>Q (!c) e) I h)
def Cy(ta tb:TE):TE:=λd H Q=>ta d H λx e=>∃c,x=.bl c/\if c=true then tb d e Q else Q (.bl false) e
def AW(ta:TE):TE:=λd H Q=>ta d H λx e=>∃c,x=.bl c/\Q (.bl (!c)) e
def Ht{op}(h:PE X a t):PE X (.BoolOp op [a] pos) t:=λd s c H Q I hw=>BoolOp_one (h d s c H Q I hw)
def G4(g:PE X a ta)(i:PE X (.BoolOp .And (b::jy) pos) tb):PE X (.BoolOp .And (a::b::jy) pos) (Cy ta tb):=by
 intro f s e H Q I h;refine BoolOp_and (gX (g f s e H _ I h) λv s1 ⟨x,H1,I1,r1,d⟩=>?_);obtain⟨c,rfl,d⟩:=d;cases r1;refine wpAny_truthy_bool ?_;cases c with
 |true=>exact i f s1 e H1 Q I1 d
 |false=>exact⟨.bl false,H1,I1,rfl,d⟩
def GN(f:PE X a ta):PE X (.UnaryOp .Not a pos) (AW ta):=by intro g s e H Q I h;refine UnaryOp_ (gX (f g s e H _ I h) λv s1 ⟨x,H1,I1,r1,d⟩=>?_);obtain⟨c,rfl,d⟩:=d;cases r1;exact not_of (wpAny_truthy_bool ⟨.bl (!c),H1,I1,rfl,d⟩)
end
end L2
namespace L2
open PySem PySem.Spec PyProof.Rows
def jR(K:W.Frag)(H:Hp)(a:Addr)(xs:List V):Prop:=
 Rd H a (.lst xs)\/
  ∃(o:Obj) (b:Array Vq) (n:Nat),K.lookup a=some o/\o.cls=.type "list" /\o.dict=none/\o.data=.seq b n/\b.size<=sizeLine/\fu xs b.toList
def j9(K:W.Frag)(H:Hp)(a:Addr)(xs:List V):Prop:=
 Rd H a (.tup xs)\/
  ∃(o:Obj) (b:Array Vq) (n:Nat),K.lookup a=some o/\o.cls=.type "tuple" /\o.data=.seq b n/\b.size<=sizeLine/\fu xs b.toList
def J6:Vq->Option V
 |.none=>some .non
 |.bool b=>some (.bl b)
 |.int i _=>some (.int i)
 |.str x _=>some (.str x)
 |.bytes b _=>some (.byt b)
 |.float b _=>some (.flt b)
 |.ref a=>some (.ref a)
 |.type n=>some (.ty n)
 |_=>none
def gd.abs(r:gd x u):J6 u=some x:=by
 cases x with
 |non=>cases r;rfl
 |bl _=>cases r;rfl
 |int _=>obtain⟨t,rfl⟩:=r;rfl
 |str _=>obtain⟨t,rfl⟩:=r;rfl
 |byt _=>obtain⟨t,rfl⟩:=r;rfl
 |flt _=>obtain⟨t,rfl⟩:=r;rfl
 |ref _=>cases r;rfl
 |ty _=>cases r;rfl
def gd.inj(r:gd x u)(q:gd y u):x=y:=Option.some.inj (r.abs.symm.trans q.abs)
theorem fu.inj:∀{xs ys} {us},fu xs us->fu ys us->xs=ys
 |_,_,_,.nil,.nil=>rfl
 |_,_,_,.cons r t,.cons r' t'=>by rw[r.inj r',fu.inj t t']
section
variable {X:Cx}{dY:List (Addr×Obj)}{σ:St}{H:Hp}{s:Shared}{a:Addr}{xs ys:List V}
def jR.of{K:W.Frag}(h:H a=some (.lst xs)):jR K H a xs:=.inl (.inl h)
def j9.of{K:W.Frag}(h:H a=some (.tup xs)):j9 K H a xs:=.inl (.inl h)
def eI.list(I:eI X dY σ H s)(h:jR X.K H a xs):∃b:List Vq,fu xs b/\PlainL s.heap a b.toArray/\xs.length<=sizeLine:=by
 rcases h with h|⟨o,b,n,c,f,g,d,i,r⟩
 .obtain⟨z,b,n,r,e⟩:=h.ok I.hok;exact⟨b,r,⟨_,n,e,rfl,rfl,rfl⟩,z⟩
 .refine⟨b.toList,r,⟨o,n,I.kIn a o c,f,g,by simpa using d⟩,?_⟩;have e:=r.length;simp only[bu]at e;omega
def eI.tuple(I:eI X dY σ H s)(h:j9 X.K H a xs):∃b:List Vq,fu xs b/\IsTup s.heap a b.toArray/\xs.length<=sizeLine:=by
 rcases h with h|⟨o,b,n,c,f,d,g,r⟩
 .obtain⟨z,b,r,p⟩:=h.ok I.hok;exact⟨b,r,p.tup,z⟩
 .refine⟨b.toList,r,⟨o,I.kIn a o c,f,n,by simpa using d⟩,?_⟩;have e:=r.length;simp only[bu]at e;omega
def eI.list_inj(I:eI X dY σ H s)(h:jR X.K H a xs)(j:jR X.K H a ys):xs=ys:=by
 obtain⟨c,r,⟨o,n,e,_,_,d⟩,_⟩:=I.list h;obtain⟨b,k,⟨l,m,f,_,_,g⟩,_⟩:=I.list j;rw[e]at f;cases f;rw[d]at g;injection g with i _;have:c=b:=by simpa using congrArg Array.toList i
 subst this;exact r.inj k
def eI.tuple_inj(I:eI X dY σ H s)(h:j9 X.K H a xs)(j:j9 X.K H a ys):xs=ys:=by
 obtain⟨c,r,⟨o,e,_,n,d⟩,_⟩:=I.tuple h;obtain⟨b,k,⟨l,f,_,m,g⟩,_⟩:=I.tuple j;rw[e]at f;cases f;rw[d]at g;injection g with i _;have:c=b:=by simpa using congrArg Array.toList i
 subst this;exact r.inj k
end
noncomputable abbrev Cx.wish(X:Cx)(E:Vq->Shared->Prop):Cx:={X with xe:=E}
abbrev Cx.nox(X:Cx):Cx:=X.wish λ_ _=>False
def Cx.Ok.wish{X:Cx}(ok:X.Ok) E:(X.wish E).Ok:=⟨ok.mod,ok.kind,ok.glob,ok.blt,ok.above,ok.inj,ok.has,ok.cab,ok.hd,ok.frames,ok.stk,ok.exf,ok.bs,ok.bsz,ok.noex,ok.exfs,ok.funs,ok.frf,ok.tab⟩
def Cx.Ok.unwish{X:Cx}(ok:(X.wish E).Ok):X.Ok:=⟨ok.mod,ok.kind,ok.glob,ok.blt,ok.above,ok.inj,ok.has,ok.cab,ok.hd,ok.frames,ok.stk,ok.exf,ok.bs,ok.bsz,ok.noex,ok.exfs,ok.funs,ok.frf,ok.tab⟩
section
variable {X:Cx}{dY:List (Addr×Obj)}{σ:St}{H:Hp}{s:Shared}{E:Vq->Shared->Prop}
def eI.wish(I:eI X dY σ H s) E:eI (X.wish E) dY σ H s:=⟨I.ok.wish E,I.os,I.bare,I.base,I.loc,I.cell,I.free,I.freeC,I.pin,I.hok,I.len⟩
def eI.unwish(I:eI (X.wish E) dY σ H s):eI X dY σ H s:=⟨I.ok.unwish,I.os,I.bare,I.base,I.loc,I.cell,I.free,I.freeC,I.pin,I.hok,I.len⟩
def SP.unwish(h:SP (X.wish E) dY D f s'):SP X dY D f s':=by
 cases f with
 |next=>obtain⟨a,b,I,q⟩:=h;exact⟨a,b,I.unwish,q⟩
 |brk=>obtain⟨a,b,I,q⟩:=h;exact⟨a,b,I.unwish,q⟩
 |cont=>obtain⟨a,b,I,q⟩:=h;exact⟨a,b,I.unwish,q⟩
 |ret u=>obtain⟨v,a,b,I,r,q⟩:=h;exact⟨v,a,b,I.unwish,r,q⟩
def nk.nox{st:List Stmt}(h:nk X.nox st t):nk X st t:=λdY s σ H D I hw=>wpAny_mono (h dY s σ H D (I.wish _) hw) (λ_ _ q=>q.unwish) λ_ _ z=>False.elim z
end
section
variable {X:Cx}{st:Stmt}{jy:List Stmt}{t u:TS}{e:Expr}{te:TE}{pos:Pos}
def nF:TS:=λD a H=>D.nx a H
def mU(t u:TS):TS:=λD a H=>t {D with nx:=u D} a H
def nB:nk X [] nF:=λ_ _ a H _ I h=>wpAny_execs_nil ⟨a,H,I,h⟩
def gP(d:PS X st t)(g:nk X jy u):nk X (st::jy) (mU t u):=by
 intro b s c H D I h;refine wpAny_execs_cons (gX (d b s c H {D with nx:=u D} I h) λf i q=>?_);cases f with
 |next=>obtain⟨a,k,j,q⟩:=q;exact g b i a k D j q
 |ret v=>exact q
 |brk=>exact q
 |cont=>exact q
def ll(b:PS X st t):nk X [st] t:=by
 intro c s a H D I h;refine wpAny_execs_cons (gX (b c s a H D I h) λf d q=>?_);cases f with
 |next=>exact wpAny_execs_nil q
 |ret v=>exact q
 |brk=>exact q
 |cont=>exact q
def BI:TS:=λD a H=>D.ct a H
def vF:PS X (.Continue pos) BI:=λ_ _ a H _ I h=>wpAny_Continue ⟨a,H,I,h⟩
def eI.quiet(I:eI X dY σ H s):interactive X.env=false:=by simp[interactive,I.ok.kind]
def mP(te:TE):TS:=λD a H=>te a H λ_ b=>D.nx a b
def nh(c:PE X e te)(b:swapsWith e none pos.line X.env=pure false:=by rfl):PS X (.Expr e pos) (mP te):=by intro d s a H D I h;exact wpAny_Expr_any (gX (c d s a H _ I h) λv s1 ⟨x,H1,I1,r1,q1⟩=>⟨a,H1,I1,q1⟩) I.quiet b
def zO(te:TE):TS:=λD a H=>te a H D.rt
def oB(b:PE X e te):PS X (.Return (some e) pos) (zO te):=by intro c s a H D I h;exact wpAny_Return_some (gX (b c s a H _ I h) λv s1 ⟨x,H1,I1,r1,q1⟩=>⟨x,a,H1,I1,r1,q1⟩)
def vA(c:TT)(t u:TS):TS:=λD a H=>c a H λb d=>if b=true then t D a d else u D a d
def vf(j:PT X c tc)(i:nk X a t)(k:nk X b u):PS X (.If c a b pos) (vA tc t u):=by
 intro g s f H D I h;refine wpAny_If (gX (j g s f H _ I h) λd s1 ⟨H1,I1,q1⟩=>?_);cases d with
 |true=>exact i g s1 f H1 D I1 q1
 |false=>exact k g s1 f H1 D I1 q1
def uj:TS:=λ_ _ _=>False
def Ao:PS X st uj:=λ_ _ _ _ _ _ h=>h.elim
def zC:nk X sts uj:=λ_ _ _ _ _ _ h=>h.elim
end
abbrev TG:=V->St->Hp->(St->Hp->Prop)->Prop
abbrev C2:=List V->St->Hp->(St->Hp->Prop)->Prop
def PG(X:Cx)(target:Expr)(t:TG):Prop:=
 ∀(d:List (Addr×Obj)) (s:Shared) (b:St) (H:Hp) (v:V) (u:Vq) (Q:St->Hp->Prop),eI X d b H s->gd v u->t v b H Q->
  wpAny (model X.prog X.w) X.A (assign target X.env u) (λ_ e=>∃a c,eI X d a c e/\Q a c) X.xe s
def Ib(X:Cx)(ts:List Expr)(t:C2):Prop:=
 ∀(f:List (Addr×Obj)) (s:Shared) (b:St) (H:Hp) (d:List V) (c:List Vq) (Q:St->Hp->Prop),eI X f b H s->fu d c->t d b H Q->
  wpAny (model X.prog X.w) X.A (assignInOrder ((assignEach ts X.env).map (·.2)) c) (λ_ g=>∃a e,eI X f a e g/\Q a e) X.xe s
abbrev Jd:=V->V->V->Hp->(Hp->Prop)->Prop
def Iz(X:Cx)(t:Jd):Prop:=
 ∀(e:List (Addr×Obj)) (s:Shared) (a:St) (H:Hp) (o i v:V) (b d u:Vq) (Q:Hp->Prop),eI X e a H s->gd o b->gd i d->gd v u->t o i v H Q->
  wpAny (model X.prog X.w) X.A (setItem b d u) (λ_ f=>∃c,eI X e a c f/\Q c) X.xe s
section
variable {X:Cx}{pos:Pos}
def gJ(i:Nat):TG:=λv a H Q=>Q (a.set i (some v)) H
def yx(a:X.N.Nodup)(b:X.N[i]? = some x)(c:vR X.env.scope x)(e:X.fn x=true\/X.env.scope.names.lookup x=some .local:=by first|exact .inl rfl|exact .inr rfl|assumption):PG X (.Name x pos) (gJ i):=by intro g s f H v u Q I r h;exact wpAny_assign_Name (lU I a b c r (λj d=>⟨_,H,d,h⟩) e)
def zE:C2:=λb a H Q=>b=[]/\Q a H
def qI(t:TG)(u:C2):C2:=λd b H Q=>∃v r,d=v::r/\t v b H λa c=>u r a c Q
def xt:Ib X [] zE:=by intro d s a H c b Q I r h;obtain⟨e,h⟩:=h;subst e;cases r;exact assignInOrder_nil ⟨a,H,I,h⟩
theorem uY(f:PG X e t)(g:Ib X es u)
  (d:(assignEach (e::es) X.env).map (·.2)=assign e X.env::(assignEach es X.env).map (·.2):=by rfl):Ib X (e::es) (qI t u):=by
 intro a s b H j i Q I r h;obtain⟨v,k,c,h⟩:=h;subst c;cases r with
 |cons r rr=>rw[d];refine assignInOrder_cons (gX (f a s b H _ _ _ I r h) λ_ s1 ⟨σ1,H1,I1,q1⟩=>?_);exact g a s1 σ1 H1 _ _ Q I1 rr q1
def zH(K:W.Frag)(n:Nat)(t:C2):TG:=λv c H Q=>∃a b,v=.ref a/\j9 K H a b/\b.length=n/\t b c H Q
def Cj(x:X.calm=true)(h:Ib X es t)
  (m:(assignEach es X.env).length=n:=by rfl) (c:(assignEach es X.env).findIdx? (·.1)=none:=by rfl):PG X (.Tuple es k pos) (zH X.K n t):=by
 intro i s f H v u Q I r hw;obtain⟨a,z,l,y,w,hw⟩:=hw;subst l;cases r;obtain⟨q,d,j,A⟩:=I.tuple y;refine assign_Tuple_tuple (I.ok.hd x) j (by simp[m,<-w,d.length]) c λB g=>?_;have p:=I.kept (t':=s.toks) λb o e=>g b o (aL (aK e)) e;exact h i _ f H z _ Q p (by simpa using d) hw
def Hx(to c:TE)(t:Jd):TG:=λv a H Q=>to a H λo b=>c a b λi e=>t o i v e λd=>Q a d
def Gk(d:PE X o to)(e:PE X i ti)(c:Iz X t)
  (f:∀v,assign (.Subscript o i pos) X.env v=(do
   let ov <-holding [v] (eval o X.env)
   let iv <-holding [v,ov] (eval i X.env)
   standAt pos
   holding [v,ov,iv] (setItem ov iv v)
   release [v,ov,iv] []):=by intro _;rfl):PG X (.Subscript o i pos) (Hx to ti t):=by
 intro b s a H v u Q I r h;rw[f];refine ao (wpAny_holding (gX (d b s a H _ I h) λov s1 ⟨x,H1,I1,r1,q1⟩=>?_));refine ao (wpAny_holding (gX (e b s1 a H1 _ I1 q1) λiv s2 ⟨y,H2,I2,r2,q2⟩=>?_));refine ao (wpAny_standAt (ao (wpAny_holding (gX (c b s2 a H2 x y v ov iv u _ I2 r1 r2 r q2) λ_ s3 ⟨H3,I3,q3⟩=>?_))));exact wpAny_release ⟨a,H3,I3,q3⟩
def j1(c:TE)(g:TG):TS:=λD a H=>c a H λx b=>g x a b D.nx
def Cz(d:PE X e te)(i:PG X tg g)(c:swapsWithSole [tg] e pos.line X.env=pure false:=by rfl)(hw:swappedStores [tg] e X.env=pure none:=by rfl)
  (f:(assignEach [tg] X.env).map (·.2)=[assign tg X.env]:=by rfl):PS X (.Assign [tg] e pos) (j1 te g):=by
 intro b s a H D I h;refine wpAny_Assign_stores (gX (d b s a H _ I h) λv s1 ⟨x,H1,I1,r1,q1⟩=>?_) c hw;rw[f];exact gX (i b s1 a H1 x v _ I1 r1 q1) λ_ j q=>q
def lx(f:X.N.Nodup)(j:X.N[i]? = some x)(k:vR X.env.scope x)(d:PE X e te)(c:swapsWith e (some (.Name x pos')) pos.line X.env=pure false:=by rfl)(l:X.fn x=true\/X.env.scope.names.lookup x=some .local:=by first|exact .inl rfl|exact .inr rfl|assumption) :
  PS X (.Assign [.Name x pos'] e pos) (j1 te (gJ i)):=by
 intro g s a H D I h;refine wpAny_Assign_Name (gX (d g s a H _ I h) λv s1 ⟨y,H1,I1,r1,q1⟩=>?_) c;exact lU I1 f j k r1 (λm b=>⟨_,H1,b,q1⟩) l
def FX(i j:Nat)(d:TA):TS:=λD a H=>d a H λc b=>∃v w,c=[v,w]/\D.nx ((a.set i (some v)).set j (some w)) b
theorem GE{kt k2 pt2}(K:X.calm=true)(r:X.N.Nodup)(F:X.N[i]? = some x)(L:X.N[j]? = some y)(k:i≠j)
  (m:X.env.scope.names.lookup x=some .local) (u:X.env.scope.names.lookup y=some .local) (B:PA X [a,b] ta)
  (hw:swappedStores [.Tuple [.Name x px,.Name y py] kt pt] (.Tuple [a,b] k2 pt2) X.env=pure (some [x,y]))
  (z:swapsWithSole [.Tuple [.Name x px,.Name y py] kt pt] (.Tuple [a,b] k2 pt2) pos.line X.env=pure false:=by rfl) :
  PS X (.Assign [.Tuple [.Name x px,.Name y py] kt pt] (.Tuple [a,b] k2 pt2) pos) (FX i j ta):=by
 intro n s l H D I h;rw[exec_Assign_arm];refine ao (wpAny_standAt ?_);rw[z];refine ao (ak ?_);rw[aQ (by decide)];refine ao (Tuple_ (gX (B _ n s l H _ I h) λus s1 ⟨vs,H1,I1,r1,g⟩=>?_));obtain⟨v,w,E,g⟩:=g;subst E;obtain⟨d,c,rfl,rv,rw'⟩:∃d c,us=[d,c]/\gd v d/\gd w c:=by
  cases r1 with
  |cons p q=>
   cases q with
   |cons p' q'=>cases q';exact⟨_,_,rfl,p,p'⟩
 refine wpAny_newObj_type ?_ (by show 2<=sizeLine;decide);have J:eI X n l H1 {s1 with heap:=s1.heap.push {cls:=.type "tuple",data:=.seq [d,c].toArray}}:=I1.kept λb o e=>ae _ e;rw[hw];refine ao (ak ?_);show wpAny (model X.prog X.w) X.A (do rule "assign.swapped-stores";let items <-unpackItems (.ref s1.heap.objs.size) 2 none;assignInOrder [λv=>bindName X.env y v,λv=>bindName X.env x v] items.reverse;pure Flow.next) _ _ _;refine ao (wpAny_rule (ao (unpackItems_tuple (items:=#[d,c]) (I.ok.hd K) (IsTup.new s1.heap _) λR f=>?_)));have P:=J.kept (t':=s1.toks) λb o e=>f b o (aL (aK e)) e;refine ao (assignInOrder_cons (wpAny_bindName (lU P r L (.inl u) rw' (λQ C=>?_) (.inr u))));refine assignInOrder_cons (wpAny_bindName (lU C r F (.inl m) rv (λS t=>assignInOrder_nil (ak ?_)) (.inr m)));rw[List.set_comm _ _ (Ne.symm k)]at t;exact⟨_,H1,t,g⟩
end
section
variable {X:Cx}{pos:Pos}
def xh(c:TT)(h:TS):TS:=λD a H=>∃W:Nat->St->Hp->Prop,(∃m,W m a H)/\∀m a H,W m a H->
 c a H λb e=>if b=true then ∃N:St->Hp->Prop,(∀d g,N d g->∃f,f<m/\W f d g)/\h {D with nx:=N,ct:=N,bk:=D.nx} a e else D.nx a e
def z9(y:PassesOwn (model X.prog X.w) X.A X.env X.xe)(L:PT X c tc)(B:nk X body tb):PS X (.While c body [] pos) (xh tc tb):=by
 intro m s z H D I h;obtain⟨W,⟨E,P⟩,i⟩:=h;refine wpAny_While (codeAny_whileLoop (λn F=>∃e x,eI X m e x F/\W n e x) ?_ E ⟨z,H,I,P⟩);rintro n K ⟨d,u,J,C⟩;refine wpAny_passesOwn y (gX (L m K d u _ J (i n d u C)) λb s2 ⟨H2,I2,k⟩=>?_);cases b with
 |true=>
  obtain⟨N,t,k⟩:=k;rw[aP rfl];refine wpAny_passesOwn y (gX (B m s2 d H2 _ I2 k) λf Q j=>?_);cases f with
  |next=>obtain⟨a,g,r,p⟩:=j;obtain⟨o,l,q⟩:=t a g p;exact⟨o,l,a,g,r,q⟩
  |cont=>obtain⟨a,g,r,p⟩:=j;obtain⟨o,l,q⟩:=t a g p;exact⟨o,l,a,g,r,q⟩
  |brk=>exact j
  |ret v=>exact j
 |false=>rw[aQ aG];exact wpAny_execs_nil ⟨d,H2,I2,k⟩
end
structure It where
 go:Nat->Hp->Prop
 yld:Nat->Hp->V->Hp->Prop
 stop:Nat->Hp->Prop
def pR(X:Cx)(a:List (Addr×Obj))(H:Hp)(b:Addr):Prop:=H b=none/\b≠X.env.locals/\b∉X.fs/\(b∈X.ex\/X.s₀.heap.objs.size<=b)/\(∀x c,X.env.cells.lookup x=some c->c≠b)/\∀p∈X.pn++a,p.1≠b
def eI.fpOk(I:eI X dY σ H s)(a:s.heap.objs.size<=b)(f:H' b=none):pR X dY H' b:=by
 refine⟨f,bx (aD I.lt a),I.nofs a,.inr (aM I.sz a),λx c e z=>?_,λp d z=>?_⟩
 .obtain⟨v,q⟩:=I.cell x c e;exact absurd (aD q.lt (by rw[z];exact a)) (aZ _)
 .exact absurd (aD (aK (I.pin p d).1) (by rw[z];exact a)) (aZ _)
structure xn(P:Program)(w:World)(K:W.Frag)(tg:Expr)(J:It)(fp:List Addr)(it:Addr)(tn:Nat->Heap->Prop):Prop where
 mem:it∈fp
 obj:∀i h,tn i h->∀b∈fp,∃o,h.get? b=some o/\∀v,o.data≠.cell v
 keep:∀i h h',tn i h->(∀b∈fp,∀o,h.get? b=some o->h'.get? b=some o)->tn i h'
 item:∀(X:Cx),X.prog=P->X.w=w->X.K=K->X.calm=true->∀(i:Nat) (dY:List (Addr×Obj)) (s:Shared) (σ:St) (H:Hp) (E:Vq->Shared->Prop),eI X dY σ H s->(∀b∈fp,pR X dY H b)->tn i s.heap->J.go i H->
  wpAny (model P w) X.A (pyNext (.ref it)) (λr s1=>∃u,r=some u/\
   wpAny (model P w) X.A (letOwnedTupleGo tg (.ref it) u) (λ_ s2=>∃x H',eI X dY σ H' s2/\gd x u/\J.yld i H x H'/\tn (i+1) s2.heap/\∀b∈fp,H' b=none) E s1) E s
 done:∀(X:Cx),X.prog=P->X.w=w->X.K=K->X.calm=true->∀(i:Nat) (dY:List (Addr×Obj)) (s:Shared) (σ:St) (H:Hp) (E:Vq->Shared->Prop),eI X dY σ H s->(∀b∈fp,pR X dY H b)->tn i s.heap->J.stop i H->
  wpAny (model P w) X.A (pyNext (.ref it)) (λr s1=>r=none/\eI X dY σ H s1) E s
 self:∀(A:Around) (i:Nat) (s:Shared) (Q:Vq->Shared->Prop) (E:Vq->Shared->Prop),tn i s.heap->Q (.ref it) s->wpAny (model P w) A (pyIter (.ref it)) Q E s
abbrev TI:=St->Hp->(It->Hp->Prop)->Prop
def Kp(X:Cx)(f:List (Addr×Obj))(h:St)(i:Expr)(R:It->Hp->Prop)(a:Vq)(e:Shared):Prop:=∃(it:Addr) (d:List Addr) (g:Nat->Heap->Prop) (J:It) (c:Hp),a=.ref it/\eI X f h c e/\xn X.prog X.w X.K i J d it g/\g 0 e.heap/\(∀b∈d,pR X f c b)/\R J c
def PI(X:Cx)(d a:Expr)(e:TI):Prop:=
 ∀(c:List (Addr×Obj)) (s:Shared) (b:St) (H:Hp) (R:It->Hp->Prop),eI X c b H s->e b H R->
  wpAny (model X.prog X.w) X.A (eval a X.env) (λv f=>wpAny (model X.prog X.w) X.A (pyIter v) (Kp X c b d R) X.xe f) X.xe s
theorem B0{M:Model}{A:Around}{E:Vq->Shared->Prop}{s:Shared}{b:Expr}{it:Addr}{u:Vq}{o:Obj}{n:String}{vs:Array Vq}{Q:Unit->Shared->Prop}(c:s.heap.get? it=some o)(e:o.cls=.type n)(f:o.data=.fields vs)
    (d:["enumerate", "zip", "dict_itemiterator", "dict_reverseitemiterator", "odict_iterator", "itertools.zip_longest", "itertools.pairwise"].contains n=false) (a:Q () s):wpAny M A (letOwnedTupleGo b (.ref it) u) Q E s:=by
  unfold letOwnedTupleGo;cases b<;>first
    |exact ak a
    | (cases u<;>first
        |exact ak a
        | (refine ao (wpAny_load c ?_)
           rw[e,f]
           show wpAny M A (if (["enumerate", "zip", "dict_itemiterator", "dict_reverseitemiterator", "odict_iterator", "itertools.zip_longest", "itertools.pairwise"].contains n&&vs[0]? == some (rawInt _))=true then _ else _) Q E s
           rw[aQ (by intro h;rw[d,Bool.false_and]at h;cases h)]
           exact ak a))
noncomputable def J7(K:W.Frag)(a:Addr):It:=⟨λi H=>∃b x,jR K H a b/\b[i]? = some x,λi H x c=>c=H/\∀b,jR K H a b->b[i]? = some x,λi H=>∃b,jR K H a b/\b.length<=i⟩
noncomputable def J1(K:W.Frag)(a:Addr):It:=⟨λi H=>∃b x,j9 K H a b/\b[i]? = some x,λi H x c=>c=H/\∀b,j9 K H a b->b[i]? = some x,λi H=>∃b,j9 K H a b/\b.length<=i⟩
noncomputable def IP(a:Int)(n:Nat):It:=⟨λi _=>i<n,λi H x b=>b=H/\x=.int (a+i),λi _=>n<=i⟩
def zP{K:W.Frag} a it:xn P w K tg (J7 K a) [it] it (λi h=>h.IsListIter it a i) where
 mem:=by simp
 obj:=λi h f b g=>by
  have e:b=it:=by simpa using g
  subst e;obtain⟨o,e,c,d⟩:=f;exact⟨o,e,λv z=>by rw[d]at z;cases z⟩
 keep:=λi h N f k=>f.at λo e=>k it (by simp) o e
 item:=by intro X C hw n L i S s Q H E I l f J;subst C hw n;obtain⟨xs,x,m,q⟩:=J;obtain⟨B,D,p,hz⟩:=I.list m;obtain⟨u,R,ru⟩:=D.get q;obtain⟨r,t,f2,y,A,F⟩:=l it (by simp);refine wpAny_pyNext_list_item f p.isList (by simpa using R) λN j Y=>?_;have Z:=I.turned (t':=s.toks) (λb o g e=>(Y.2 b g).trans e) r t y A F;obtain⟨o,e,c,d⟩:=id j;exact⟨u,rfl,B0 e c d (by decide) ⟨x,H,Z,ru,⟨rfl,λys hy=>by rw[I.list_inj hy m];exact q⟩,j,λb g=>(l b g).1⟩⟩
 done:=by intro X C hw n L i S s Q H E I l f J;subst C hw n;obtain⟨xs,m,q⟩:=J;obtain⟨B,D,p,hz⟩:=I.list m;obtain⟨r,t,f2,y,A,F⟩:=l it (by simp);have hl:=D.length;exact wpAny_pyNext_list_end (I.ok.hd L) f p.isList (by simp;omega) λN U=>⟨rfl,I.turned (λb o g e=>U b o g e) r t y A F⟩
 self:=λ_ _ _ _ _ f h=>wpAny_pyIter_listiter f h
def wU{K:W.Frag} a it:xn P w K tg (J1 K a) [it] it (λi h=>h.IsTupleIter it a i) where
 mem:=by simp
 obj:=λi h f b g=>by
  have e:b=it:=by simpa using g
  subst e;obtain⟨o,e,c,d⟩:=f;exact⟨o,e,λv z=>by rw[d]at z;cases z⟩
 keep:=λi h N f k=>f.at λo e=>k it (by simp) o e
 item:=by intro X C hw n L i S s Q H E I l f J;subst C hw n;obtain⟨xs,x,m,q⟩:=J;obtain⟨B,D,p,hz⟩:=I.tuple m;obtain⟨u,R,ru⟩:=D.get q;obtain⟨r,t,f2,y,A,F⟩:=l it (by simp);refine wpAny_pyNext_tuple_item f (p) (by simpa using R) λN j Y=>?_;have Z:=I.turned (t':=s.toks) (λb o g e=>(Y.2 b g).trans e) r t y A F;obtain⟨o,e,c,d⟩:=id j;exact⟨u,rfl,B0 e c d (by decide) ⟨x,H,Z,ru,⟨rfl,λys hy=>by rw[I.tuple_inj hy m];exact q⟩,j,λb g=>(l b g).1⟩⟩
 done:=by intro X C hw n L i S s Q H E I l f J;subst C hw n;obtain⟨xs,m,q⟩:=J;obtain⟨B,D,p,hz⟩:=I.tuple m;obtain⟨r,t,f2,y,A,F⟩:=l it (by simp);have hl:=D.length;exact wpAny_pyNext_tuple_end (I.ok.hd L) f (p) (by simp;omega) λN U=>⟨rfl,I.turned (λb o g e=>U b o g e) r t y A F⟩
 self:=λ_ _ _ _ _ f h=>wpAny_pyIter_tupleiter f h
def vZ{K:W.Frag} it lo n:xn P w K tg (IP lo n) [it] it (λi h=>IsRangeIter h it (lo+(i:Nat)*1) ((n:Int)-(i:Nat)) 1) where
 mem:=by simp
 obj:=λi h a b c=>by
  have e:b=it:=by simpa using c
  subst e;exact⟨_,a,λv z=>by have D:=z;cases D⟩
 keep:=λi h x a k=>k it (by simp) _ a
 item:=by intro X q hw g r i B s A H E I f a y;subst q hw g;obtain⟨j,l,J,m,p,u⟩:=f it (by simp);have W:=Walks.range (prog:=X.prog) (w:=X.w) (I.ok.hd r) it lo 1 n;refine W.item i s _ _ y a λv x Q N d L=>?_;obtain⟨t,rfl⟩:=N;have F:eI X B A H {s with heap:=x,toks:=Q}:=I.turned (λb o c e=>L b o (by simpa using c) e) j l m p u;refine⟨_,rfl,B0 d rfl rfl (by decide) ⟨.int (lo+i),H,F,⟨t,?_⟩,⟨rfl,rfl⟩,d,λb c=>(f b c).1⟩⟩;rw[Int.mul_one]
 done:=by intro X q hw g r i B s A H E I f a y;subst q hw g;obtain⟨j,l,J,m,p,u⟩:=f it (by simp);exact wpAny_pyNext_range_end (I.ok.hd r) a (by have:n<=i:=y;omega) λx C=>⟨rfl,I.turned (λb o c e=>C b o c e) j l m p u⟩
 self:=λ_ _ _ _ _ a h=>wpAny_pyIter_rangeiter a h
end L2
namespace L2
open PySem PySem.Spec PyProof.Rows
section
variable {X:Cx}{tg:Expr}
def Az(K:W.Frag)(e:TE):TI:=λc H R=>e c H λx b=>∃a,x=.ref a/\(∃d,jR K b a d)/\R (J7 K a) b
def HL(K:W.Frag)(e:TE):TI:=λc H R=>e c H λx b=>∃a,x=.ref a/\(∃d,j9 K b a d)/\R (J1 K a) b
def Ei(g:PE X l tl):PI X tg l (Az X.K tl):=by
 intro d s c H R I h;refine gX (g d s c H _ I h) λv s1 ⟨x,H1,I1,r1,q1⟩=>?_;obtain⟨a,e,⟨n,i⟩,q⟩:=q1;subst e;cases r1;obtain⟨f,m,p,k⟩:=I1.list i;refine wpAny_pyIter_list p.isList ?_;refine⟨s1.heap.objs.size,[s1.heap.objs.size],_,_,H1,rfl,I1.kept λb o e=>ae _ e,zP a _,⟨_,ar _ rfl,rfl,rfl⟩,λb j=>?_,q⟩;have e:b=s1.heap.objs.size:=by simpa using j
 subst e;exact I1.fpOk (aJ _) (I1.hok.fresh (aJ _))
def Hl(g:PE X l tl):PI X tg l (HL X.K tl):=by
 intro d s c H R I h;refine gX (g d s c H _ I h) λv s1 ⟨x,H1,I1,r1,q1⟩=>?_;obtain⟨a,e,⟨n,i⟩,q⟩:=q1;subst e;cases r1;obtain⟨f,m,p,k⟩:=I1.tuple i;refine wpAny_pyIter_tuple (p) ?_;refine⟨s1.heap.objs.size,[s1.heap.objs.size],_,_,H1,rfl,I1.kept λb o e=>ae _ e,wU a _,⟨_,ar _ rfl,rfl,rfl⟩,λb j=>?_,q⟩;have e:b=s1.heap.objs.size:=by simpa using j
 subst e;exact I1.fpOk (aJ _) (I1.hok.fresh (aJ _))
def Am{a c:Int}(I:eI X dY σ H s)(h:-(2 ^ 62)<=a)(i:a<2 ^ 62)(g:-(2 ^ 62)<=c)(j:c<2 ^ 62)
  (q:R (IP a (c-a).toNat) H):wpAny (model X.prog X.w) X.A (pyIter (.ref s.heap.objs.size)) (Kp X dY σ tg R) E {s with heap:=s.heap.push {cls:=.type "range",data:=.fields #[.int a t,.int c u,.int 1 v]},toks:=tk}:=by
 refine wpAny_pyIter_range (IsRange.new ..) (small_one h i g j) ?_;have d:eI X dY σ H {s with heap:=s.heap.push {cls:=.type "range",data:=.fields #[.int a t,.int c u,.int 1 v]},toks:=tk}:=I.kept λb o e=>ae _ e;refine⟨(s.heap.push {cls:=.type "range",data:=.fields #[.int a t,.int c u,.int 1 v]}).objs.size,[(s.heap.push {cls:=.type "range",data:=.fields #[.int a t,.int c u,.int 1 v]}).objs.size],_,_,H,rfl,
  d.kept λb o e=>ae _ e,vZ _ a (c-a).toNat,?_,λb k=>?_,q⟩
 .have f:a+((0:Nat):Int)*1=a:=by simp
  have l:(((c-a).toNat:Nat):Int)-((0:Nat):Int)=Builtin.Range.rangeSize a c 1:=by rw[rangeSize_one];split<;>omega
  rw[f,l];exact ar _ rfl
 .have e:b=(s.heap.push {cls:=.type "range",data:=.fields #[.int a t,.int c u,.int 1 v]}).objs.size:=by simpa using k
  subst e;exact d.fpOk (aJ _) (d.hok.fresh (aJ _))
def Au(d:TA):TI:=λa H R=>d a H λc b=>∃j:Int,c=[.int j]/\-(2 ^ 62)<=j/\j<2 ^ 62/\R (IP 0 j.toNat) b
def zf(l:Gl X "range")(f:X.mg "range" = none)(g:PA X [a] ta)(d:starEach [a] X.env=[(false,eval a X.env)]:=by rfl):PI X tg (.Call (.Name "range" p) [a] [] pos) (Au ta):=by
 intro i s c H R I h;refine Call_ (oR I l f boot_range (PyProof.Rows.callWith_type1 (gX (g pos i s c H _ I h) λus s1 ⟨vs,H1,I1,r1,b⟩=>?_) d rfl));obtain⟨j,e,b,k,q⟩:=b;subst e;cases r1 with
 |cons r rr=>cases rr;obtain⟨t,rfl⟩:=r;exact call_range_1 (Am I1 (by omega) (by omega) b k (by simpa using q))
def wG(f:TI)(g:TG)(h:TS):TS:=λD a H=>f a H λJ k=>∃W:Nat->Nat->St->Hp->Prop,(∃m,W 0 m a k)/\∀i m a H,W i m a H->
 (J.stop i H/\D.nx a H)\/(J.go i H/\∃N:St->Hp->Prop,(∀b c,N b c->∃e,e<m/\W (i+1) e b c)/\∀x c,J.yld i H x c->g x a c λd j=>h {D with nx:=N,ct:=N,bk:=D.nx} d j)
noncomputable def qy(a:List Addr)(h:Heap):List (Addr×Obj):=a.filterMap λb=>(h.get? b).map λo=>(b,o)
def lH(a:b∈fp)(e:h.get? b=some o):(b,o)∈qy fp h:=bz.mpr ⟨b,a,by rw[e];rfl⟩
def zj(a:p∈qy fp h):p.1∈fp/\h.get? p.1=some p.2:=by
 obtain⟨b,d,e⟩:=bz.mp a;cases q:h.get? b with
 |none=>rw[q]at e;cases e
 |some o=>rw[q]at e;have c:=Option.some.inj e;subst c;exact⟨d,q⟩
def eI.pinned(I:eI X dY σ H s)(k:∀b∈fp,pR X dY H b)(h:∀b∈fp,∃o,s.heap.get? b=some o/\∀v,o.data≠.cell v):eI X (dY++qy fp s.heap) σ H s:=I.pins_of λp f=>(ai.mp f).elim (λz=>I.pin p (bA _ z)) λz=>by obtain⟨c,e⟩:=zj z;obtain⟨i,j,g,_⟩:=k p.1 c;obtain⟨o,a,d⟩:=h p.1 c;rw[e]at a;cases a;exact⟨e,i,j,g,d⟩
def eI.unpinned(I:eI X (dY++pl) σ H s):eI X dY σ H s:=I.pins_of λp a=>I.pin p (bA _ (ax _ a))
theorem wx(P:PassesOwn (model X.prog X.w) X.A X.env X.xe)(hc:X.calm=true)(hi:PI X tg iter wi)(hg:PG X tg g)(t:nk X body tb)
  (hs:∀x,foldedSetIterable iter X.env x=pure x:=by intro _;rfl):PS X (.For tg iter body [] pos) (wG wi g tb):=by
 intro B s Z H D I h;refine wpAny_For (gX (hi B s Z H _ I h) λv s1 h1=>gX h1 λitv s2 h2=>?_) hs;obtain⟨it,F,tn,J,H2,e,I2,T,S,f2,W,⟨m0,w0⟩,L⟩:=h2;subst e;have p:∀{y:Hp},(∀b∈F,y b=none)->∀b∈F,pR X B y b:=λhn b t=>⟨hn b t,(f2 b t).2⟩;refine codeAny_forLoop_any (λn s'=>∃i c y,eI X B c y s'/\tn i s'.heap/\(∀b∈F,y b=none)/\W i n c y) ?_ m0 ⟨0,Z,H2,I2,S,λb t=>(f2 b t).1,w0⟩;rintro n s3 ⟨i,k,R,I3,K,Q,w3⟩;rcases L i n k R w3 with⟨C,qn⟩|⟨go,N,hN,step⟩
 .refine wpAny_passesOwn P (gX (T.done X rfl rfl rfl hc i B s3 k R X.xe I3 (p Q) K C) λr s4 ⟨hr,I4⟩=>?_);subst hr;exact wpAny_execs_nil ⟨k,R,I4,qn⟩
 .refine wpAny_passesOwn P (gX (T.item X rfl rfl rfl hc i B s3 k R X.xe I3 (p Q) K go) λr s4 ⟨u,hr,h4⟩=>?_);subst hr;refine wpAny_passesOwn P (gX h4 λ_ s5 ⟨x,H5,I5,r5,y5,st5,fr5⟩=>?_);have U:=I5.pinned (p fr5) (T.obj _ _ st5);refine wpAny_passesOwn P (gX (hg _ s5 k H5 x u _ U r5 (step x H5 y5)) λ_ s6 ⟨σ6,H6,I6,q6⟩=>?_);refine wpAny_passesOwn P (gX (t _ s6 σ6 H6 _ I6 q6) λf Y z=>?_);have j:∀{a:St} {l:Hp},eI X (B++qy F s5.heap) a l Y->N a l->∃m,m<n/\∃i c y,eI X B c y Y/\tn i Y.heap/\(∀b∈F,y b=none)/\W i m c y:=λ{a l} q E=>by obtain⟨m',hm,w7⟩:=hN a l E;refine⟨m',hm,i+1,a,l,q.unpinned,T.keep _ _ _ st5 λb t o e=>(q.pin (b,o) (bA _ (bA _ (lH t e)))).1,λb t=>?_,w7⟩;obtain⟨o,e,d⟩:=T.obj _ _ st5 b t;exact (q.pin (b,o) (bA _ (bA _ (lH t e)))).2.1
  cases f with
  |next=>obtain⟨a,l,q,E⟩:=z;exact j q E
  |cont=>obtain⟨a,l,q,E⟩:=z;exact j q E
  |brk=>obtain⟨a,l,q,z⟩:=z;exact⟨a,l,q.unpinned,z⟩
  |ret v=>obtain⟨x7,a,l,q,r7,z⟩:=z;exact⟨x7,a,l,q.unpinned,r7,z⟩
end
end L2
namespace L2
open PySem PySem.Spec PyProof.Rows
abbrev R2:=V->V->Hp->VK->Prop
def mw(X:Cx)(f:Vq->Value->Sem Value)(r:R2):Prop:=
 ∀(b:List (Addr×Obj)) (s:Shared) (a:St) (H:Hp) (x y:V) (v u:Vq) (Q:VK),eI X b a H s->gd x v->gd y u->r x y H Q->
  wpAny (model X.prog X.w) X.A (f v u) (EP X b a Q) X.xe s
def Ki(X:Cx)(f:Vq->Sem Value)(r:V->Hp->VK->Prop):Prop:=
 ∀(b:List (Addr×Obj)) (s:Shared) (a:St) (H:Hp) (x:V) (v:Vq) (Q:VK),eI X b a H s->gd x v->r x H Q->
  wpAny (model X.prog X.w) X.A (f v) (EP X b a Q) X.xe s
def iN(X:Cx)(f:Vq)(r:List V->Hp->VK->Prop):Prop:=
 ∀(d:List (Addr×Obj)) (s:Shared) (a:St) (H:Hp) (c:List V) (b:List Vq) (Q:VK),eI X d a H s->fu c b->r c H Q->
  wpAny (model X.prog X.w) X.A (call f b) (EP X d a Q) X.xe s
def oq(r:R2)(d c:TE):TE:=λa H Q=>d a H λx b=>c a b λy e=>r x y e Q
def JX(r:V->Hp->VK->Prop)(c:TE):TE:=λa H Q=>c a H λx b=>r x b Q
def rI(C:Int->Int->Prop)(g:Int->Int->V):R2:=λx y H Q=>∃i j,x=.int i/\y=.int j/\C i j/\Q (g i j) H
def wu(g:Int->Int->V):R2:=λx y H Q=>∃i j,x=.int i/\y=.int j/\Q (g i j) H
def rU(g:Int->V):V->Hp->VK->Prop:=λx H Q=>∃i,x=.int i/\Q (g i) H
section
variable {X:Cx}{a b c:Expr}{ta tb tc:TE}{pos:Pos}
def G0(k:PE X a ta)(m:PE X b tb){R:V->V->Hp->Prop}(I:eI X dY σ H s)
  (h:ta σ H λx j=>tb σ j λy d=>R x y d) {f:Vq->Value->Sem Value}
  (l:∀v u i x y d,eI X dY σ d i->gd x v->gd y u->R x y d->wpAny (model X.prog X.w) X.A (f v u) Q X.xe i) :
  wpAny (model X.prog X.w) X.A (eval a X.env) (λv g=>wpAny (model X.prog X.w) X.A (eval b X.env) (λu e=>wpAny (model X.prog X.w) X.A (f v u) Q X.xe e) X.xe g) X.xe s:=by
 refine gX (k dY s σ H _ I h) λv s1 ⟨x,j,I1,r1,q1⟩=>?_;refine gX (m dY s1 σ j _ I1 q1) λu i ⟨y,d,I2,r2,q2⟩=>?_;exact l v u i x y d I2 r1 r2 q2
def vD(m:mw X (binaryOp op) r)(f:PE X a ta)(n:PE X b tb):PE X (.BinOp a op b pos) (oq r ta tb):=by intro i s d H Q I h;exact wpAny_BinOp (G0 f n I h λv u g x y k l e j q=>m i g d k x y v u Q l e j q)
def Iu(f:Ki X (unaryOp op) r)(g:PE X a ta):PE X (.UnaryOp op a pos) (JX r ta):=by intro e s d H Q I h;exact UnaryOp_ (gX (g e s d H _ I h) λv s1 ⟨x,H1,I1,r1,q1⟩=>f e s1 d H1 x v Q I1 r1 q1)
def JE{g:Int->Int->Int}
  (d:∀i j t u s Q E,C i j->Q (.int (g i j) s.toks) {s with toks:=s.toks+1}->wpAny (model X.prog X.w) X.A (f (.int i t) (.int j u)) Q E s) :
  mw X f (rI C λi j=>.int (g i j)):=by
 intro o s n H x y v u Q I e k h;obtain⟨i,j,rfl,rfl,l,q⟩:=h;obtain⟨t,rfl⟩:=e;obtain⟨m,rfl⟩:=k;exact d i j t m s _ _ l ⟨.int (g i j),H,I.tok _,⟨_,rfl⟩,q⟩
def Ie{g:Int->Int->Int}
  (d:∀i j t u s Q E,Q (.int (g i j) s.toks) {s with toks:=s.toks+1}->wpAny (model X.prog X.w) X.A (f (.int i t) (.int j u)) Q E s) :
  mw X f (wu λi j=>.int (g i j)):=by
 intro n s m H x y v u Q I e k h;obtain⟨i,j,rfl,rfl,q⟩:=h;obtain⟨t,rfl⟩:=e;obtain⟨l,rfl⟩:=k;exact d i j t l s _ _ ⟨.int (g i j),H,I.tok _,⟨_,rfl⟩,q⟩
def EI{g:Int->Int->Bool}
  (d:∀(i j:Int) (t u:Tok) (s:Shared) (Q:Vq->Shared->Prop) (E:Vq->Shared->Prop),Q (.bool (g i j)) s->wpAny (model X.prog X.w) X.A (f (.int i t) (.int j u)) Q E s) :
  mw X f (wu λi j=>.bl (g i j)):=by
 intro n s m H x y v u Q I e k h;obtain⟨i,j,rfl,rfl,q⟩:=h;obtain⟨t,rfl⟩:=e;obtain⟨l,rfl⟩:=k;exact d i j t l s _ _ ⟨.bl (g i j),H,I,rfl,q⟩
def Jc(i j:Int):Prop:=0<=j/\j<=1000000/\i.natAbs<2 ^ 64
def FW:mw X (binaryOp .Add) (wu λi j=>.int (i+j)):=Ie λ_ _ _ _ _ _ _ q=>add_int q
def FV:mw X (binaryOp .Sub) (wu λi j=>.int (i-j)):=Ie λ_ _ _ _ _ _ _ q=>sub_int q
def Dk:mw X (binaryOp .Mod) (rI (λ_ j=>j≠0) λi j=>.int (i.fmod j)):=JE λ_ _ _ _ _ _ _ d q=>mod_int' d q
def Gd:mw X (binaryOp .Pow) (rI Jc λi j=>.int (i ^ j.toNat)):=JE λ_ _ _ _ _ _ _ d q=>pow_int_small d.1 d.2.1 d.2.2 q
def K1{g:Int->Int}
  (d:∀i t s Q E,Q (.int (g i) s.toks) {s with toks:=s.toks+1}->wpAny (model X.prog X.w) X.A (f (.int i t)) Q E s) :
  Ki X f (rU λi=>.int (g i)):=by
 intro k s j H x v Q I e h;obtain⟨i,rfl,q⟩:=h;obtain⟨t,rfl⟩:=e;exact d i t s _ _ ⟨.int (g i),H,I.tok _,⟨_,rfl⟩,q⟩
def Hs:Ki X (unaryOp .USub) (rU λi=>.int (-i)):=K1 λ_ _ _ _ _ q=>neg_int q
end
def IQ:V->V->Bool
 |.non,.non=>true|.non,.int _=>true|.int _,.non=>true|.non,.bl _=>true|.bl _,.non=>true|.non,.str _=>true|.str _,.non=>true
 |.int _,.int _=>true|.bl _,.bl _=>true|.str _,.str _=>true|.byt _,.byt _=>true
 |.int _,.str _=>true|.str _,.int _=>true|.bl _,.str _=>true|.str _,.bl _=>true
 |_,_=>false
def Kx:R2:=λx y H Q=>IQ x y=true/\Q (.bl (decide (x=y))) H
def Kv:R2:=λx y H Q=>IQ x y=true/\Q (.bl (!decide (x=y))) H
def xH:decide (V.int i=V.int j)=(i==j):=by rw[bB];simp
def Cw:decide (V.bl i=V.bl j)=(i==j):=by rw[bB];simp
def yD:decide (V.str i=V.str j)=(i==j):=by rw[bB];simp
def xD:decide (V.byt i=V.byt j)=(i.toList==j.toList):=by rw[bB];cases i;cases j;simp
section
variable {X:Cx}{a b c:Expr}{ta tb tc:TE}{pos:Pos}
def fE(I:eI X dY σ H s)(q:Q (.bl k) H)(e:k=k'):EP X dY σ Q (.bool k') s:=by subst e;exact⟨.bl k,H,I,rfl,q⟩
def Ju:mw X (compareOp .Eq) Kx:=by
 intro l s k H x y v u Q I g d h;obtain⟨f,q⟩:=h;cases x with
 |non=>
  cases g;cases y with
  |non=>cases d;exact PySem.EqNone.eq_none_none (fE I q (by simp))
  |bl j=>cases d;exact PySem.EqNone.eq_none_bool (fE I q (by simp))
  |int j=>obtain⟨e,rfl⟩:=d;exact PySem.EqNone.eq_none_int (fE I q (by simp))
  |str j=>obtain⟨e,rfl⟩:=d;exact PySem.EqNone.eq_none_str (fE I q (by simp))
  |_=>exact absurd (f) aG
 |bl i=>
  cases g;cases y with
  |non=>cases d;exact PySem.EqNone.eq_bool_none (fE I q (by simp))
  |bl j=>cases d;exact eq_bool (fE I q Cw)
  |str j=>obtain⟨e,rfl⟩:=d;exact PySem.EqMixed.eq_bool_str (fE I q (by simp))
  |_=>exact absurd (f) aG
 |int i=>
  obtain⟨t,rfl⟩:=g;cases y with
  |non=>cases d;exact PySem.EqNone.eq_int_none (fE I q (by simp))
  |int j=>obtain⟨e,rfl⟩:=d;exact eq_int (fE I q xH)
  |str j=>obtain⟨e,rfl⟩:=d;exact PySem.EqMixed.eq_int_str (fE I q (by simp))
  |_=>exact absurd (f) aG
 |str i=>
  obtain⟨t,rfl⟩:=g;cases y with
  |non=>cases d;exact PySem.EqNone.eq_str_none (fE I q (by simp))
  |bl j=>cases d;exact PySem.EqMixed.eq_str_bool (fE I q (by simp))
  |int j=>obtain⟨e,rfl⟩:=d;exact PySem.EqMixed.eq_str_int (fE I q (by simp))
  |str j=>obtain⟨e,rfl⟩:=d;exact eq_str (fE I q yD)
  |_=>exact absurd (f) aG
 |byt i=>
  obtain⟨t,rfl⟩:=g;cases y with
  |byt j=>obtain⟨e,rfl⟩:=d;exact W.eq_bytes (fE I q xD)
  |_=>exact absurd (f) aG
 |_=>cases y<;>exact absurd (f) aG
def Je:mw X (compareOp .NotEq) Kv:=by
 intro l s k H x y v u Q I g d h;obtain⟨f,q⟩:=h;cases x with
 |non=>
  cases g;cases y with
  |non=>cases d;exact PySem.EqNone.ne_none_none (fE I q (by simp))
  |bl j=>cases d;exact PySem.EqNone.ne_none_bool (fE I q (by simp))
  |int j=>obtain⟨e,rfl⟩:=d;exact PySem.EqNone.ne_none_int (fE I q (by simp))
  |str j=>obtain⟨e,rfl⟩:=d;exact PySem.EqNone.ne_none_str (fE I q (by simp))
  |_=>exact absurd (f) aG
 |bl i=>
  cases g;cases y with
  |non=>cases d;exact PySem.EqNone.ne_bool_none (fE I q (by simp))
  |bl j=>cases d;exact ne_bool (fE I q (congrArg not Cw))
  |str j=>obtain⟨e,rfl⟩:=d;exact PySem.EqMixed.ne_bool_str (fE I q (by simp))
  |_=>exact absurd (f) aG
 |int i=>
  obtain⟨t,rfl⟩:=g;cases y with
  |non=>cases d;exact PySem.EqNone.ne_int_none (fE I q (by simp))
  |int j=>obtain⟨e,rfl⟩:=d;exact ne_int (fE I q (congrArg not xH))
  |str j=>obtain⟨e,rfl⟩:=d;exact PySem.EqMixed.ne_int_str (fE I q (by simp))
  |_=>exact absurd (f) aG
 |str i=>
  obtain⟨t,rfl⟩:=g;cases y with
  |non=>cases d;exact PySem.EqNone.ne_str_none (fE I q (by simp))
  |bl j=>cases d;exact PySem.EqMixed.ne_str_bool (fE I q (by simp))
  |int j=>obtain⟨e,rfl⟩:=d;exact PySem.EqMixed.ne_str_int (fE I q (by simp))
  |str j=>obtain⟨e,rfl⟩:=d;exact ne_str (fE I q (congrArg not yD))
  |_=>exact absurd (f) aG
 |byt i=>
  obtain⟨t,rfl⟩:=g;cases y with
  |byt j=>obtain⟨e,rfl⟩:=d;exact W.ne_bytes (fE I q (congrArg not xD))
  |_=>exact absurd (f) aG
 |_=>cases y<;>exact absurd (f) aG
def xq:mw X (compareOp .Lt) (wu λi j=>.bl (decide (i<j))):=EI λ_ _ _ _ _ _ _ q=>lt_int q
def AN:mw X (compareOp .LtE) (wu λi j=>.bl (decide (i<=j))):=EI λ_ _ _ _ _ _ _ q=>le_int q
def vj:mw X (compareOp .Gt) (wu λi j=>.bl (decide (j<i))):=EI λ_ _ _ _ _ _ _ q=>gt_int q
def Cg:mw X (compareOp .GtE) (wu λi j=>.bl (decide (j<=i))):=EI λ_ _ _ _ _ _ _ q=>ge_int q
def FO:mw X (compareOp .Is) (λx y H Q=>y=.non/\Q (.bl (decide (x=.non))) H):=by
 intro g s f H x y v u Q I d e h;obtain⟨rfl,q⟩:=h;cases e;refine is_none_gen (fE I q ?_);cases x<;>first
  | (cases d;rfl)
  | (obtain⟨t,rfl⟩:=d;rfl)
def lV b (h:op≠.In:=by decide) (d:op≠.NotIn:=by decide):behindInMarks op b=false:=by
 have e:(op==CmpOp.In)=false:=by cases op<;>first|rfl|exact absurd rfl h
 have f:(op==CmpOp.NotIn)=false:=by cases op<;>first|rfl|exact absurd rfl d
 cases b<;>simp[behindInMarks,e,f]
def Do(n:mw X (compareOp op) r)(g:PE X a ta)(o:PE X b tb)(f:behindInMarks op b=false):PE X (.Compare a [op] [b] pos) (oq r ta tb):=by intro j s d H Q I h;exact wpAny_Compare1 (G0 g o I h λv u i x y l m e k q=>n j i d l x y v u Q m e k q) f
def qU(t:TE):TT:=λd H Q=>t d H λx e=>∃k,x=.bl k/\Q k e
def t8(g:mw X (compareOp op) r)(j:PE X a ta)(l:PE X b tb)(i:behindInMarks op b=false):PT X (.Compare a [op] [b] pos) (qU (oq r ta tb)):=by
 intro f s d H Q I h;refine wpAny_isTrue_Compare1 (gX (j f s d H _ I h) λv s1 ⟨x,H1,I1,r1,q1⟩=>gX (l f s1 d H1 _ I1 q1) λu s2 ⟨y,H2,I2,r2,q2⟩=>gX (g f s2 d H2 x y v u _ I2 r1 r2 q2) λc s3 ⟨z,H3,I3,r3,k,e,q3⟩=>?_) i
 subst e;cases r3;exact wpAny_truthy_bool ⟨H3,I3,q3⟩
def xg(r g:R2)(ta tb tc:TE):TE:=λd H Q=>ta d H λx f=>tb d f λy i=>r x y i λz e=>∃k,z=.bl k/\
 (if k=true then tc d e λj h=>g y j h Q else Q (.bl false) e)
theorem Ck(j:mw X (compareOp op) r)(i:mw X (compareOp op') r')(m:PE X a ta)(o:PE X b tb)(n:PE X c tc)
  (l:lastMarks [op,op'] [b,c]=false:=by with_unfolding_all rfl):PE X (.Compare a [op,op'] [b,c] pos) (xg r r' ta tb tc):=by
 intro g s f H Q I h;refine Compare_chain (gX (m g s f H _ I h) λv s1 ⟨x,H1,I1,r1,q1⟩=>chain_link (gX (o g s1 f H1 _ I1 q1) λu s2 ⟨y,H2,I2,r2,q2⟩=>gX (j g s2 f H2 x y v u _ I2 r1 r2 q2) λd s3 ⟨z,H3,I3,r3,k,e,q3⟩=>?_)) l
 subst e;cases r3;refine wpAny_truthy_bool ?_;cases k with
 |false=>exact ite_ff ⟨.bl false,H3,I3,rfl,q3⟩
 |true=>exact ite_tt (chain_last (gX (n g s3 f H3 _ I3 q3) λw' s4 ⟨z',H4,I4,r4,q4⟩=>i g s4 f H4 y z' u w' Q I4 r2 r4 q4))
def uv:(sizeLine:Nat)<2 ^ 63:=by rw[sizeLine_eq];decide
def wZ:mw X (binaryOp .Add) (λx y H Q=>∃i j,x=.str i/\y=.str j/\i.length+j.length<=sizeLine/\Q (.str (i++j)) H):=by intro l s k H x y v u Q I d e h;obtain⟨i,j,rfl,rfl,f,q⟩:=h;obtain⟨t,rfl⟩:=d;obtain⟨g,rfl⟩:=e;exact add_str (λg m=>⟨.str (i++j),H,I.tok _,⟨_,rfl⟩,q⟩) f
def mK(r:fu [x] us):∃u,us=[u]/\gd x u:=by
 cases r with
 |cons r1 r2=>cases r2;exact⟨_,rfl,r1⟩
def Fw(r:fu [x,y] us):∃u d,us=[u,d]/\gd x u/\gd y d:=by
 cases r with
 |cons r1 r2=>
  cases r2 with
  |cons r3 r4=>cases r4;exact⟨_,_,rfl,r1,r3⟩
def ny:iN X (.builtin "abs") (λxs H Q=>∃i,xs=[.int i]/\Q (.int (if i<0 then -i else i)) H):=by intro g s d H xs e Q I r h;obtain⟨i,rfl,q⟩:=h;obtain⟨u,rfl,t,rfl⟩:=mK r;exact call_abs_int λu f=>⟨.int (if i<0 then -i else i),H,I.tok _,⟨_,rfl⟩,q⟩
def zD(e:X.calm=true):iN X (.builtin "max") (λxs H Q=>∃i j,xs=[.int i,.int j]/\Q (.int (if j>i then j else i)) H):=by
 intro g s f H xs l Q I r h;obtain⟨i,j,rfl,q⟩:=h;obtain⟨u,p,rfl,⟨t,rfl⟩,⟨m,rfl⟩⟩:=Fw r;refine max_two_ints (I.ok.hd e) λn o k=>⟨_,H,I.kept k,?_,q⟩;by_cases d:j>i
 .rw[aP d,aP d];exact⟨_,rfl⟩
 .rw[aQ d,aQ d];exact⟨_,rfl⟩
def sh:iN X (.type "int") (λxs H Q=>(∃i,xs=[.int i]/\Q (.int i) H)\/∃k,xs=[.bl k]/\Q (.int (if k then 1 else 0)) H):=by
 intro g s e H xs f Q I r h;rcases h with⟨i,rfl,q⟩|⟨k,rfl,q⟩
 .obtain⟨u,rfl,t,rfl⟩:=mK r;exact call_int_int ⟨.int i,H,I,⟨_,rfl⟩,q⟩
 .obtain⟨u,rfl,d⟩:=mK r;cases d;exact call_int_bool ⟨.int (if k then 1 else 0),H,I.tok _,⟨_,rfl⟩,q⟩
def G1(K:W.Frag)(x:V)(H:Hp)(n:Nat):Prop:=
 match x with
 |.str y=>y.length<=sizeLine/\n=y.length
 |.byt y=>y.size<=sizeLine/\n=y.size
 |.ref p=>(∃d,jR K H p d/\n=d.length)\/∃d,j9 K H p d/\n=d.length
 |_=>False
def AU:iN X (.builtin "len") (λxs H Q=>∃x n,xs=[x]/\G1 X.K x H n/\Q (.int n) H):=by
 intro w s o H xs z Q I r h;obtain⟨x,n,rfl,e,q⟩:=h;obtain⟨u,rfl,f⟩:=mK r;have v:=sizeLine_eq;cases x with
 |str y=>obtain⟨t,rfl⟩:=f;obtain⟨hy,d⟩:y.length<=sizeLine/\n=y.length:=e;subst d;exact len_str (by omega) ⟨.int _,H,I.tok _,⟨_,rfl⟩,q⟩
 |byt y=>obtain⟨t,rfl⟩:=f;obtain⟨hy,d⟩:y.size<=sizeLine/\n=y.size:=e;subst d;exact W.len_bytes (by omega) ⟨.int _,H,I.tok _,⟨_,rfl⟩,q⟩
 |ref p=>
  cases f;have d:=e;rcases d with⟨xs,g,d⟩|⟨xs,g,d⟩
  .subst d;obtain⟨i,k,j,m⟩:=I.list g;have l:=k.length;exact Calls.call_len_list j.isList (by simp only[bC];omega) ⟨.int xs.length,H,I.tok _,⟨_,by simp only[bC];rw[l]⟩,q⟩
  .subst d;obtain⟨i,k,j,m⟩:=I.tuple g;have l:=k.length;exact len_tuple j (by simp only[bC];omega) ⟨.int xs.length,H,I.tok _,⟨_,by simp only[bC];rw[l]⟩,q⟩
 |_=>exact (e).elim
end
end L2
namespace L2
open PySem PySem.Spec PyProof.Rows
structure wH(h:Heap)(x dx C:Addr)(mA:Str->Option Value):Prop where
 obj:h.get? x=some (W.instObj C dx)
 ns:h.Ns1 dx mA
 ne:dx≠x
def zi{h:Heap}(n:h.Ns1 dx mA):∃d,h.get? dx=some d/\∀name,W.lookIn name d=some (mA name):=by
 obtain⟨o,c,m,j,l,g,_,f⟩:=n;refine⟨o,j,λname=>?_⟩;have e:=f name;unfold nsFind findBy at e;rw[<-Array.find?_toList]at e;unfold W.lookIn;rw[l];dsimp only;split
 .rename_i y q;rw[q]at e;exact congrArg some e
 .rename_i q;rw[q]at e;have a:c.toList.any (·.refKey)=false:=by rw[bD];intro y k;obtain⟨z,t,b⟩:=g y (Array.mem_toList_iff.mp k);simp[DictEntry.refKey,b]
  have i:¬c.toList.any (·.refKey)=true:=by rw[a];exact aG
  rw[aQ i];exact congrArg some e
def wH.look(I:wH h x dx C mA):∃a,W.InstAt h x (W.instObj C dx) C (some a)/\∀name,W.lookIn name a=some (mA name):=
 let ⟨a,ho,hl⟩:=zi I.ns
 ⟨a,⟨I.obj,rfl,rfl,ho⟩,hl⟩
section
variable {prog:Program}{w:World}{A:Around}{E:Vq->Shared->Prop}{s:Shared}{K:W.Frag}{x dx C f:Addr}{mA:Str->Option Value}{name:Str}{v:Vq}
def Du(X:K.In s.heap)(I:wH s.heap x dx C mA)(g:W.plainGet K C name=true)(b:W.hasDictIn K C=true)
  (d:W.findIn K (.ref C) name=some none) (c:mA name=some v) (a:W.handedIn v=true) (h:Q v {s with toks:=s.toks+1}) :
  wpAny (model prog w) A (getAttr (.ref x) name expr) Q E s:=by
 obtain⟨i,J,e⟩:=I.look;exact W.get_value X J (W.plainGet_of g).1 (W.findObj_own b d rfl (by rw[e,c])) a h
def A7(X:K.In s.heap)(I:wH s.heap x dx C mA)(a:W.plainGet K C name=true)
  (e:W.findIn K (.ref C) name=some (some (.ref f))) (g:W.isFn K (.ref f)=true) (b:mA name=none) (h:Q (.ref f,[.ref x]) s) :
  wpAny (model prog w) A (getMethod (.ref x) name pl) Q E s:=by
 obtain⟨c,J,d⟩:=I.look;exact W.method_fn X J (W.plainGet_of a).1 (W.plainGet_of a).2 e (beq_iff_eq.mp g) (by show (W.lookIn name c).map (·.isSome)=some false;rw[d,b];rfl) h
def nV(X:K.In s.heap)(I:wH s.heap x dx C mA)
  (l:W.findIn K (.ref C) "__setattr__" = some (some (.builtin "object.__setattr__"))) (t:W.plainOver K C=true) (n:W.takerIn K C name=some none) (o:W.hasDictIn K C=true)
  (hw:PySem.Within mA ns) (k:ns.length<=sizeLine)
  (h:∀d,wH d x dx C (λy=>if y=name then some v else mA y)->Heap.SameBut dx s.heap d->Q () {s with heap:=d,toks:=s.toks+2}) :
  wpAny (model prog w) A (setAttr (.ref x) name v) Q E s:=by
 obtain⟨B,J,D⟩:=I.look;refine W.set_plain X J l (W.osa_open X J t n λb=>?_);obtain⟨z,r,e⟩:=W.any_some o;have m:=I.obj;refine ao (ak (ao (ao (wpAny_loadPart m (ao (W.Looks.here (W.looks_clsIn X r) ?_))))));rw[e];refine ak (ao (ak (ao ?_)));refine wpAny_nsSet1 I.ns λd a c=>?_;obtain⟨u,q,p,g,i,j⟩:=a.count (PySem.Within.cons name v hw);refine ao (wpAny_lookBehind g (by rw[i];exact pastItsLine_dict (aM j (by rw[ay];omega))) ?_);exact ak (h _ ⟨(c.2 _ (Ne.symm I.ne)).trans I.obj,a,I.ne⟩ c)
def BE(X:K.In s.heap)(c:W.makesIn K C=true)
  (b:W.findIn K (.ref C) "__init__" = some (some (.ref f))) (e:W.typeIn K (.ref f)=some (.type "function"))
  (h:codeAny (model prog w) (A.under (.builtin "type.__call__" ⟨.ref C::vs,kw⟩)) (.call (.ref f) ⟨.ref (s.heap.objs.size+1)::vs,kw⟩) (W.InitBack (s.heap.objs.size+1) R)
   {s with heap:=(s.heap.push W.emptyDict).push (W.instObj C s.heap.objs.size)}) :
  codeAny (model prog w) A (.call (.ref C) ⟨vs,kw⟩) R s:=by
 obtain⟨i,g,d,t,j⟩:=s;exact W.make_core (W.makes_of X c) (W.looks_findIn X b) (λa=>W.bind_fn X a e) (.inl rfl) h
end
def lR(f:Str)(v:V):List (Str×V)->List (Str×V)
 |[]=>[(f,v)]
 | (g,x)::r=>if g=f then (g,v)::r else (g,x)::lR f v r
theorem pz f g v:∀fs:List (Str×V),(lR f v fs).lookup g=if g=f then some v else fs.lookup g
 |[]=>by
  show List.lookup g [(f,v)]=_;by_cases h:g=f
  .have a:=beq_iff_eq.mpr h;simp only[List.lookup,a,aP h]
  .have a:=beq_eq_false_iff_ne.mpr h;simp only[List.lookup,a,aQ h]
 | (k,x)::r=>by
  have c:=pz f g v r;rw[show lR f v ((k,x)::r)=(if k=f then (k,v)::r else (k,x)::lR f v r) from rfl];by_cases b:k=f
  .rw[aP b];by_cases h:g=k
   .have a:=beq_iff_eq.mpr h;simp only[List.lookup,a,aP (h.trans b)]
   .have a:=beq_eq_false_iff_ne.mpr h;simp only[List.lookup,a,aQ (λe:g=f=>h (e.trans b.symm))]
  .rw[aQ b];by_cases h:g=k
   .have a:=beq_iff_eq.mpr h;simp only[List.lookup,a,aQ (λe:g=f=>b (h.symm.trans e))]
   .have a:=beq_eq_false_iff_ne.mpr h;simp only[List.lookup,a];exact c
theorem oy f v:∀fs:List (Str×V),f∈(lR f v fs).map (·.1)/\∀g,g∈fs.map (·.1)->g∈(lR f v fs).map (·.1)
 |[]=>⟨by simp[lR],λg h=>by simp at h⟩
 | (k,x)::r=>by
  obtain⟨b,c⟩:=oy f v r;rw[show lR f v ((k,x)::r)=(if k=f then (k,v)::r else (k,x)::lR f v r) from rfl];by_cases a:k=f
  .rw[aP a];subst a;exact⟨by simp,λg h=>by simpa using h⟩
  .rw[aQ a];refine⟨?_,λg h=>?_⟩
   .rw[bE];exact bj _ b
   .rw[bE]at h ⊢;rcases aE.mp h with e|e
    .exact aE.mpr (.inl e)
    .exact bj _ (c g e)
theorem pG f v:∀fs:List (Str×V),(lR f v fs).length<=fs.length+1
 |[]=>by simp[lR]
 | (k,x)::r=>by
  have b:=pG f v r;rw[show lR f v ((k,x)::r)=(if k=f then (k,v)::r else (k,x)::lR f v r) from rfl];by_cases a:k=f
  .rw[aP a,ay,ay];omega
  .rw[aQ a,ay,ay];omega
def tW.some_of(r:tW (some v) o):∃u,o=some u/\gd v u:=by
 cases o with
 |none=>exact (r).elim
 |some u=>exact⟨u,rfl,r⟩
def tW.none_of(r:tW none o):o=none:=by
 cases o with
 |none=>rfl
 |some u=>exact (r).elim
def yS(r:gd v u):W.handedIn u=true:=by
 cases v with
 |non=>cases (r);rfl
 |bl b=>cases (r);rfl
 |int i=>obtain⟨t,e⟩:=(r);cases e;rfl
 |str x=>obtain⟨t,e⟩:=(r);cases e;rfl
 |byt b=>obtain⟨t,e⟩:=(r);cases e;rfl
 |flt b=>obtain⟨t,e⟩:=(r);cases e;rfl
 |ref a=>cases (r);rfl
 |ty n=>cases (r);rfl
section
variable {P:Program}{w:World}{H H':Hp}{h h':Heap}{a C dx:Addr}{fs fs':List (Str×V)}
def pU(c:mW P w H h)(e:H a=some (.ins C dx fs)):∃b,wH h a dx C b/\(∀f,tW (fs.lookup f) (b f))/\PySem.Within b (fs.map (·.1))/\fs.length<=1000/\H dx=some (.own a):=by obtain⟨d,z,ne,g,b,n,r,q⟩:=(c a _ e);exact⟨b,⟨g,n,ne⟩,r,q,z,d⟩
end
structure rq(K:W.Frag)(C:Addr):Prop where
 pg:W.plainGet K C Str.empty=true
 hd:W.hasDictIn K C=true
 po:W.plainOver K C=true
 sa:W.findIn K (.ref C) "__setattr__" = some (some (.builtin "object.__setattr__"))
def rq.get{K:W.Frag}(c:rq K C) f:W.plainGet K C f=true:=c.pg
def jc(K:W.Frag)(C:Addr)(f:Str):Prop:=W.findIn K (.ref C) f=some none
def jc.taker{K:W.Frag}(n:jc K C f):W.takerIn K C f=some none:=by unfold W.takerIn;rw[show W.findIn K (.ref C) f=some none from n];rfl
structure BR(K:W.Frag)(C:Addr)(m:Str)(f:Addr):Prop where
 at_:W.findIn K (.ref C) m=some (some (.ref f))
 fn:W.isFn K (.ref f)=true
 kp:W.keepIn K (.ref f)=true
section
variable {X:Cx}{dY:List (Addr×Obj)}{σ:St}{H:Hp}{s:Shared}{a C dx:Addr}{fs:List (Str×V)}{f:Str}{v:V}{A:Around}{E:Vq->Shared->Prop}
def w9(I:eI X dY σ H s)(e:H a=some (.ins C dx fs))(c:rq X.K C)(n:jc X.K C f)(l:fs.lookup f=some v)
  (h:∀u g,eI X dY σ H g->gd v u->Q u g):wpAny (model X.prog X.w) A (getAttr (.ref a) f b) Q E s:=by
 obtain⟨j,O,r,_,_,_⟩:=pU I.hok e;obtain⟨u,i,d⟩:=tW.some_of (by rw[<-l];exact r f);exact Du I.kIn O (c.get f) c.hd n i (yS d) (h u _ (I.tok _) d)
def qL(I:eI X dY σ H s)(e:H a=some (.ins C dx fs))(c:rq X.K C)(k:BR X.K C m g)(l:fs.lookup m=none)
  (h:Q (.ref g,[.ref a]) s):wpAny (model X.prog X.w) A (getMethod (.ref a) m pl) Q E s:=by
 obtain⟨d,O,r,_,_,_⟩:=pU I.hok e;have b:=tW.none_of (by rw[<-l];exact r m);exact A7 I.kIn O (c.get m) k.at_ k.fn b h
def we(I:eI X dY σ H s)(e:H a=some (.ins C dx fs))(c:rq X.K C)(n:jc X.K C f)(J:fs.length<1000)(l:gd y u)
  (h:∀j,eI X dY σ (gI H a (.ins C dx (lR f y fs))) j->Q () j):wpAny (model X.prog X.w) A (setAttr (.ref a) f u) Q E s:=by
 obtain⟨t,O,r,i,_,k⟩:=pU I.hok e;have p:(fs.map (·.1)).length<=sizeLine:=by rw[aw,sizeLine_eq];omega
 refine nV I.kIn O c.sa c.po n.taker c.hd i p λx d m=>h _ ?_;have B:∃o,x.get? dx=some o:=let ⟨o,_,_,e',_⟩:=d.ns;⟨o,e'⟩;refine I.write (by rw[e];exact True.intro) (.inr k) (λb q D z=>(m.2 b D).trans z) B ?_;refine⟨by rw[eF O.ne];exact k,?_,O.ne,d.obj,_,d.ns,λg=>?_,λg F=>?_⟩
 .have:=pG f y fs;omega
 .rw[pz];by_cases q:g=f
  .rw[aP q,aP q];exact l
  .rw[aQ q,aQ q];exact r g
 .by_cases q:g=f
  .rw[q];exact (oy f y fs).1
  .refine (oy f y fs).2 g (i g λz=>F ?_);show (if g=f then some u else t g)=none;rw[aQ q];exact z
def eI.made(I:eI X dY σ H s):eI X dY σ (gI (gI H s.heap.objs.size (.own (s.heap.objs.size+1))) (s.heap.objs.size+1) (.ins C s.heap.objs.size []))
  {s with heap:=(s.heap.push W.emptyDict).push (W.instObj C s.heap.objs.size)}:=by
 have c:(s.heap.push W.emptyDict).get? s.heap.objs.size=some W.emptyDict:=ar s.heap rfl;have j:((s.heap.push W.emptyDict).push (W.instObj C s.heap.objs.size)).get? (s.heap.objs.size+1)=some (W.instObj C s.heap.objs.size):=by have:=ar (s.heap.push W.emptyDict) (o:=W.instObj C s.heap.objs.size) rfl;rwa [Heap.size_push]at this
 have h:(s.heap.push W.emptyDict).Ns s.heap.objs.size (λ_=>none):=⟨W.emptyDict,#[],_,c,rfl,(λe g=>absurd g (by simp)),λ_=>rfl⟩;have i:=I.laid (o:=.own (s.heap.objs.size+1)) (t':=s.toks) (λb u q=>ae _ q) (aJ _) ⟨_,c⟩;refine i.laid (λb u q=>ae _ q) (Nat.le_of_eq (Heap.size_push _ _)) ?_;have ne:s.heap.objs.size≠s.heap.objs.size+1:=aL (bF _);refine⟨by rw[eF ne,eE],bG _,ne,j,λ_=>none,(Heap.Ns1.of_empty h).at λo q=>ae _ q,λ_=>True.intro,λy d=>absurd rfl d⟩
def DP(c:attributeBase e f env (eval e env)=eval e env)
  (h:wpAny (model prog w) A (eval e env) (λo b=>wpAny (model prog w) A (getAttr o f true) Q E b) E s):wpAny (model prog w) A (eval (.Attribute e f pos) env) Q E s:=
 Attribute_any_ h (by rw[arm_eval_Attribute,c])
end
def FG(K:W.Frag)(e:TE)(f:Str):TE:=λc H Q=>e c H λx b=>∃a C d fs v,x=.ref a/\b a=some (.ins C d fs)/\rq K C/\jc K C f/\fs.lookup f=some v/\Q v b
def F8(K:W.Frag)(h g:TE)(f:Str):TS:=λD b H=>g b H λy e=>h b e λx d=>∃a C c fs,x=.ref a/\d a=some (.ins C c fs)/\rq K C/\jc K C f/\fs.length<1000/\
 D.nx b (gI d a (.ins C c (lR f y fs)))
section
variable {X:Cx}{o e value:Expr}{f:Str}{pos pos' tpos:Pos}{ta tv:TE}
def F9(i:PE X e ta)(k:attributeBase e f X.env (eval e X.env)=eval e X.env):PE X (.Attribute e f pos) (FG X.K ta f):=by intro j s d H Q I h;refine DP k (gX (i j s d H _ I h) λu s1 ⟨x,H1,I1,rx,a,C,dx,fs,v,ex,ea,c,n,l,q⟩=>?_);subst ex;obtain rfl:u=Value.ref a:=rx;exact w9 I1 ea c n l λm p b g=>⟨v,H1,b,g,q⟩
def Ad(j:PE X o ta)(i:PE X value tv)(g:swapsWith value (some (.Attribute o f pos')) pos.line X.env=pure false):PS X (.Assign [.Attribute o f pos'] value pos) (F8 X.K ta tv f):=by intro d s b H D I h;refine plainObj_wpAny_Assign_Attribute (gX (i d s b H _ I h) λu s1 ⟨y,H1,I1,ry,q⟩=>gX (j d s1 b H1 _ I1 q) λov s2 ⟨x,H2,I2,rx,a,C,dx,fs,ex,ea,c,n,l,q2⟩=>?_) g;subst ex;obtain rfl:ov=Value.ref a:=rx;exact we I2 ea c n l ry λm k=>⟨b,_,k,q2⟩
end
section
variable {X:Cx}{dY:List (Addr×Obj)}{σ:St}{H:Hp}{s:Shared}{A:Around}{E:Vq->Shared->Prop}{Q:Vq->Shared->Prop}{c:Vq}{b:Bool}
inductive lz(K:W.Frag)(H:Hp):V->Value->Prop where
 |non:lz K H .non (.type "NoneType")
 |bl (x:Bool):lz K H (.bl x) (.type "bool")
 |int (i:Int):lz K H (.int i) (.type "int")
 |str (x:Str):lz K H (.str x) (.type "str")
 |flt (x:UInt64):lz K H (.flt x) (.type "float")
 |lst {a:Addr} {xs:List V} (e:H a=some (.lst xs)):lz K H (.ref a) (.type "list")
 |frz {a:Addr} {o:Obj} {xs:List V} (e:H a=some (.frz o (.lst xs))):lz K H (.ref a) (.type "list")
 |tup {a:Addr} {xs:List V} (e:H a=some (.tup xs)):lz K H (.ref a) (.type "tuple")
 |dK {a:Addr} {kvs:List (nU×V)} (e:H a=some (.dK kvs)):lz K H (.ref a) (.type "dict")
 |dT {a:Addr} {kvs:List (List nU×V)} (e:H a=some (.dT kvs)):lz K H (.ref a) (.type "dict")
 |ins {a C dx:Addr} {fs:List (Str×V)} (e:H a=some (.ins C dx fs)) (cl:rq K C) (ha:W.findIn K (.ref C) "__class__" = some (some (.builtin "object.__class__")))
   (hn:W.specialIn K (.builtin "object.__class__") "__get__" = some (some (.builtin "getset_descriptor.__get__"))) (htk:W.takesIn K (.builtin "object.__class__")=some true)
   (hm:W.mroIn K C (.type "object")=some true):lz K H (.ref a) (.ref C)
def r6(I:eI X dY σ H s)(d:gd x u)(k:lz X.K H x t)(e:W.kitOne X.K t c=some b)(h:∀m,Q (.bool b) {s with toks:=m}) :
  wpAny (model X.prog X.w) A (call (.builtin "isinstance") [u,c]) Q E s:=by
 cases k with
 |non=>cases (d);exact W.kia_one W.kitx_none I.kIn True.intro e (λz=>nomatch z) h
 |bl y=>cases (d);exact W.kia_one W.kitx_bool I.kIn True.intro e (λz=>nomatch z) h
 |int i=>obtain⟨t,q⟩:=(d);cases q;exact W.kia_one W.kitx_int I.kIn True.intro e (λz=>nomatch z) h
 |str y=>obtain⟨t,q⟩:=(d);cases q;exact W.kia_one W.kitx_str I.kIn True.intro e (λz=>nomatch z) h
 |flt y=>obtain⟨t,q⟩:=(d);cases q;exact W.kia_one W.kitx_float I.kIn True.intro e (λz=>nomatch z) h
 |@lst a j ea=>cases (d);obtain⟨_,_,n,_,f⟩:=(I.hok a _ ea);exact W.kia_one W.kitx_list I.kIn ⟨_,f,rfl⟩ e (λz=>nomatch z) h
 |@frz a ob j ea=>cases (d);obtain⟨_,_,_,n,_,f⟩:=(I.hok a _ ea);exact W.kia_one W.kitx_list I.kIn ⟨_,f,rfl⟩ e (λz=>nomatch z) h
 |@tup a j ea=>cases (d);obtain⟨_,_,_,p⟩:=(I.hok a _ ea);obtain⟨o,f,g,_⟩:=p;exact W.kia_one W.kitx_tuple I.kIn ⟨o,f,g⟩ e (λz=>nomatch z) h
 |@dK a kvs ea=>cases (d);obtain⟨_,_,v,_,p⟩:=(I.hok a _ ea);obtain⟨o,l,r,f,g,_⟩:=p;exact W.kia_one W.kitx_dict I.kIn ⟨o,f,g.1⟩ e (λz=>nomatch z) h
 |@dT a kvs ea=>cases (d);obtain⟨_,_,j,_,o,l,r,f,g,_⟩:=(I.hok a _ ea);exact W.kia_one W.kitx_dict I.kIn ⟨o,f,g.1⟩ e (λz=>nomatch z) h
 |@ins a C dx fs ea cl ha hn htk hm=>cases (d);obtain⟨D,O,_⟩:=pU I.hok ea;obtain⟨B,J,_⟩:=O.look;exact W.kia_one (W.kitx_own (cl.get _) cl.hd ha hn htk hm) I.kIn J e (λz=>nomatch z) h
end
end L2
namespace L2
open PySem PySem.Spec PyProof.Rows
structure fN(k:Nat)(A:Around):Prop where
 hd:A.handled=none
 dp:A.depth+3*k+5<recursionLimit
 un:A.units+16*k+200<cLine
def fN.mono(r:fN k A)(h:j<=k):fN j A:=⟨r.hd,by have:=r.dp;omega,by have:=r.un;omega⟩
def fN.deeper(r:fN (k+1) A) env:fN k (A.deeper env):=⟨r.hd,by have:=r.dp;show A.depth+1+3*k+5<_;omega,by have:=r.un;show A.units+3+16*k+200<_;omega⟩
def wj{A:Around}:(A.under (.builtin "type.__call__" ⟨.ref C::us,kw⟩)).depth=A.depth+1:=by first|rfl|simp[Around.under,Code.weight,Code.isCreation,Code.isGuard,Code.isCaller,Code.frames,Code.isFrame,guardIds]
def w6{A:Around}:(A.under (.builtin "type.__call__" ⟨.ref C::us,kw⟩)).units=A.units+1:=by first|rfl|simp[Around.under,Code.cUnits,Code.frames,Code.isFrame]
def fN.make(r:fN (k+1) A) C us kw:fN k (A.under (.builtin "type.__call__" ⟨.ref C::us,kw⟩)):=⟨r.hd,by have:=r.dp;rw[wj];omega,by have:=r.un;rw[w6];omega⟩
def fN.depth(r:fN k A):A.depth<recursionLimit:=by have:=r.dp;omega
def kH:TA:=λ_ H Q=>Q [] H
def iA(d:TE)(f:TA):TA:=λa H Q=>d a H λx b=>f a b λc e=>Q (x::c) e
section
variable {X:Cx}{e:Expr}{es:List Expr}{te:TE}{t:TA}{pos:Pos}
def fQ:PA X [] kH:=λ_ _ _ _ H Q I h=>Calls.spliced_nil ⟨[],H,I,.nil,h⟩
def ez(d:PE X e te)(f:PA X es t)(c:starEach (e::es) X.env=(false,eval e X.env)::starEach es X.env:=by rfl):PA X (e::es) (iA te t):=by intro pos b s a H Q I h;rw[c];refine Calls.spliced_cons (gX (d b s a H _ I h) λu s1 ⟨x,H1,I1,r1,q1⟩=>?_);exact gX (f pos b s1 a H1 _ I1 q1) λus s2 ⟨xs,H2,I2,r2,q2⟩=>⟨x::xs,H2,I2,.cons r1 r2,q2⟩
def Hg(t:TA):TE:=λc H Q=>t c H λb a=>b.length<=sizeLine/\∀p,a p=none->Q (.ref p) (gI a p (.tup b))
def Ay(t:TA):TE:=λc H Q=>t c H λb a=>b.length<=sizeLine/\∀p,a p=none->Q (.ref p) (gI a p (.lst b))
def Hj{x1}(h:PA X es t):PE X (.Tuple es x1 pos) (Hg t):=by intro f s a H Q I c;refine wpAny_Tuple_spliced (gX (h pos f s a H _ I c) λus s1 ⟨xs,H1,I1,r,z,q⟩=>⟨by rw[<-r.length];exact z,?_⟩);have d:=I1.hok.fresh (aJ _);refine⟨.ref s1.heap.objs.size,gI H1 s1.heap.objs.size (.tup xs),I1.laid (λb u e=>ae _ e) (aJ _) ?_,rfl,q _ d⟩;exact⟨z,us,r,⟨_,ar _ rfl,rfl,_,rfl,rfl⟩⟩
def qt(h:PA X es t):PE X (.List es pos) (Ay t):=by intro f s a H Q I c;refine wpAny_List_spliced (gX (h pos f s a H _ I c) λus s1 ⟨xs,H1,I1,r,z,q⟩=>⟨by rw[<-r.length];exact z,?_⟩);have d:=I1.hok.fresh (aJ _);refine⟨.ref s1.heap.objs.size,gI H1 s1.heap.objs.size (.lst xs),I1.laid (λb u e=>ae _ e) (aJ _) ?_,rfl,q _ d⟩;exact⟨z,us,0,r,ar _ rfl⟩
end
abbrev Sp:=List V->Hp->VK->XK->Prop
abbrev C6:=List Env->Hp->Shared->XK->Value->Shared->Prop
structure tT(P:Program)(w:World)(K:W.Frag)(mg:Str->Option Value)(base:Heap)(A:Around)(outer:List Env)(s:Shared)(H:Hp):Prop where
 frames:A.frames=some outer
 mod:Mod K mg base
 bs:∀b o,base.get? b=some o->s.heap.get? b=some o/\H b=none
 bsz:base.objs.size<=s.heap.objs.size
 funs:s.heap.FunFrames base outer
 frf:∀b∈lP outer,H b=none
 hok:mW P w H s.heap
 bare:AllBare s.gens
 tab:B7 base H
def CE(a:List Env)(P:Program)(w:World)(H:Hp)(s:Shared)(Q:VK)(u:Vq)(b:Shared):Prop:=∃v c,b.os=s.os/\AllBare b.gens/\Un (lP a) [] H c s.heap b.heap/\mW P w c b.heap/\gd v u/\Q v c
def CR(CX:C6)(a:List Env)(P:Program)(w:World)(H:Hp)(s:Shared)(Q:VK)(E:XK)(r:Result)(b:Shared):Prop:=
 match r with
 |.ok (.ret u)=>CE a P w H s Q u b
 |.ok _=>False
 |.error e=>CX a H s E e b
structure jS(P:Program)(w:World)(K:W.Frag)(mg:Str->Option Value)(base:Heap)(CX:C6)(k:Nat)(f:Addr)(fd:FuncData)(ps:List Str)(sp:Sp):Prop where
 len:∀vs H Q E,sp vs H Q E->vs.length=ps.length
 run:∀(A:Around) (outer:List Env) (s:Shared) (H:Hp) (args:Args) (us:List Vq) (vs:List V) (Q:VK) (E:XK),fN k A->tT P w K mg base A outer s H->BindsTo s fd args (ps.zip us)->fu vs us->sp vs H Q E->
  codeAny (model P w) A (.call (.ref f) args) (CR CX outer P w H s Q E) s
def jS.mono{K:W.Frag}(F:jS P w K mg base CX j f fd ps sp)(h:j<=k) :
  jS P w K mg base CX k f fd ps sp:=⟨F.len,λA a s H b c d Q E e=>F.run A a s H b c d Q E (e.mono h)⟩
def jS.imp{K:W.Frag}(F:jS P w K mg base CX k f fd ps sp)
  (h:∀vs H Q E,sp' vs H Q E->sp vs H Q E):jS P w K mg base CX k f fd ps sp':=
 ⟨λvs H Q E q=>F.len vs H Q E (h _ _ _ _ q),λA a s H b c vs Q E i e j g d=>F.run A a s H b c vs Q E i e j g (h _ _ _ _ d)⟩
def tT.make{K:W.Frag}(e:tT P w K mg base A outer s H) C us kw :
  tT P w K mg base (A.under (.builtin "type.__call__" ⟨.ref C::us,kw⟩)) outer s H:=⟨by first|exact e.frames|(simpa[Around.under,Code.envs,Code.isFrame,pushEnvs] using e.frames),e.mod,e.bs,e.bsz,e.funs,e.frf,e.hok,e.bare,e.tab⟩
section
variable {X:Cx}{dY:List (Addr×Obj)}{σ:St}{H:Hp}{s s':Shared}
def eI.env0(I:eI X dY σ H s):tT X.prog X.w X.K X.mg X.base X.A X.stack s H:=⟨I.ok.frames,I.ok.mod,I.bs,aM I.ok.bsz I.sz,I.stack,I.stkFree,I.hok,I.bare,I.tab⟩
def eI.after(I:eI X dY σ H s)(h:CE X.stack X.prog X.w H s Q u s'):EP X dY σ Q u s':=by obtain⟨v,f,i,a,un,e,r,q⟩:=h;obtain⟨j,g,d,t,c⟩:=s';obtain rfl:c=s.os:=i;exact⟨v,f,I.call un e a (λb z=>absurd z (by simp)),r,q⟩
end
def oZ(sp:Sp)(a:List V)(E:XK)(t:TA):TE:=λb H Q=>t b H λd c=>sp (d++a) c Q E
def m9(C:Addr)(m:Str)(sp:Sp)(b:List V)(E:XK)(f:TE)(t:TA):TE:=λc H Q=>f c H λx d=>∃a g fs,x=.ref a/\d a=some (.ins C g fs)/\fs.lookup m=none/\
 t c d λe h=>sp (x::(e++b)) h Q E
def xV(C:Addr)(sp:Sp)(c:List V)(E:XK)(t:TA):TE:=λd H Q=>t d H λe b=>∀x a,b x=none->b a=none->a≠x->
 sp (.ref x::(e++c)) (gI (gI b a (.own x)) x (.ins C a [])) (λv f=>v=.non/\Q (.ref x) f) E
def kM(K:W.Frag)(fd:FuncData)(ps:List Str)(b:List Vq):Prop:=∀(s:Shared) (a:List Vq),K.In s.heap->(a++b).length=ps.length->BindsTo s fd ⟨a,[]⟩ (ps.zip (a++b))
def kM.all{K:W.Frag}(h:∀us:List Vq,us.length=ps.length->bindArgs fd ⟨us,[]⟩=pure (ps.zip us)):kM K fd ps []:=λs us _ a=>by rw[bH]at a ⊢;exact .of_eq (h us a)
def jx(CX:C6)(X:Cx)(E:XK):Prop:=∀(c:List (Addr×Obj)) (b:St) (H:Hp) (s:Shared) (e:Vq) (a:Shared),eI X c b H s->CX X.stack H s E e a->X.xe e a
section
variable {X:Cx}{CX:C6}{k:Nat}{f C:Addr}{fd:FuncData}{ps:List Str}{sp:Sp}{dvs:List V}{ds:List Vq}{E:XK}{x m:Str}{p pos apos:Pos}{e o:Expr}{es:List Expr}{ta:TE}{t:TA}
theorem wC(F:jS X.prog X.w X.K X.mg X.base CX k f fd ps sp)(i:fN k X.A)(l:kM X.K fd ps ds)(j:fu dvs ds)(d:jx CX X E)
  (I:eI X dY σ H s) (r:fu vs us) (h:sp (vs++dvs) H Q E):wpAny (model X.prog X.w) X.A (call (.ref f) us) (EP X dY σ Q) X.xe s:=by
 have b:=r.append j;have g:(us++ds).length=ps.length:=by rw[<-b.length];exact F.len _ _ _ _ h
 refine wpAny_call (codeAny_mono (F.run X.A X.stack s H ⟨us,[]⟩ (us++ds) (vs++dvs) Q E i I.env0 (l s us I.kIn g) b h) λr c a=>?_);cases r with
 |error e=>exact d dY σ H s e c I a
 |ok fl=>
  cases fl with
  |ret u=>exact I.after a
  |next=>exact False.elim a
  |brk=>exact False.elim a
  |cont=>exact False.elim a
def xA(F:jS X.prog X.w X.K X.mg X.base CX k f fd ps sp)(v:fN k X.A)(n:Gl X x)(d:X.mg x=some (.ref f))(u:W.keepIn X.K (.ref f)=true)(z:kM X.K fd ps ds)(y:fu dvs ds)(g:jx CX X E)
  (i:PA X (e::es) t) (b:(x==("__debug__" : Str))=false:=by decide) (l:starEach (e::es) X.env=(false,eval e X.env)::starEach es X.env:=by rfl) (a:(backTo pos (starEach es X.env)).any (·.1)=false:=by rfl) :
  PE X (.Call (.Name x p) (e::es) [] pos) (oZ sp dvs E t):=by
 intro j s c H Q I h;refine wpAny_Call_Name_kw (mh I n d ?_ b);refine W.callWith_K I.ok.mod.kin u (gX (i pos j s c H _ I h) λus s1 ⟨vs,H1,I1,r,q⟩=>⟨I1.kIn,?_⟩) l a;exact wC F v z y g I1 r q
def DS(z:PE X o ta)(c:rq X.K C)(i:BR X.K C m f)(F:jS X.prog X.w X.K X.mg X.base CX k f fd ps sp)(B:fN k X.A)(J:kM X.K fd ps ds)(D:fu dvs ds)(n:jx CX X E)(v:PA X (e::es) t)
  (d:starEach (e::es) X.env=(false,eval e X.env)::starEach es X.env:=by rfl) (b:(backTo pos (starEach es X.env)).any (·.1)=false:=by rfl)
  (y:eval (.Call (.Attribute o m apos) (e::es) [] pos) X.env=(do
   let ov <-eval o X.env
   standAt apos.atName
   let (f,first) <-holding [ov] (getMethod ov m pl)
   callWith pos f first (backTo pos (starEach (e::es) X.env)) (backToKw pos (keywordEach [] X.env))):=by rfl) :
  PE X (.Call (.Attribute o m apos) (e::es) [] pos) (m9 C m sp dvs E ta t):=by
 intro j s g H Q I h;refine W.methodCall_KW (gX (z j s g H _ I h) λu s1 ⟨x,H1,I1,rx,a,dx,fs,ex,ea,l,q⟩=>?_) y;subst ex;obtain rfl:u=Value.ref a:=rx;refine qL I1 ea c i l ?_;refine W.callWith_K I.ok.mod.kin i.kp (gX (v pos j s1 g H1 _ I1 q) λus s2 ⟨vs,H2,I2,r,q2⟩=>⟨I2.kIn,?_⟩) d b;exact wC (vs:=.ref a::vs) F B J D n I2 (.cons rfl r) q2
def zX(g:PE X o ta)(c:rq X.K C)(b:BR X.K C m f)(F:jS X.prog X.w X.K X.mg X.base CX k f fd ps sp)(j:fN k X.A)(y:kM X.K fd ps ds)(v:fu dvs ds)(i:jx CX X E)
  (r:eval (.Call (.Attribute o m apos) [] [] pos) X.env=(do
   let ov <-eval o X.env
   standAt apos.atName
   let (f,first) <-holding [ov] (getMethod ov m pl)
   callWith pos f first (backTo pos (starEach [] X.env)) (backToKw pos (keywordEach [] X.env))):=by rfl) :
  PE X (.Call (.Attribute o m apos) [] [] pos) (m9 C m sp dvs E ta kH):=by
 intro n s d H Q I h;refine W.methodCall_KW (gX (g n s d H _ I h) λu s1 ⟨x,H1,I1,rx,a,dx,fs,ex,ea,l,q⟩=>?_) r;subst ex;obtain rfl:u=Value.ref a:=rx;refine qL I1 ea c b l ?_;exact W.callWith_K0 I1.kIn b.kp (wC (vs:=[.ref a]) F j y v i I1 (.cons rfl .nil) q)
structure Mk(K:W.Frag)(C f:Addr):Prop where
 makes:W.makesIn K C=true
 init:W.findIn K (.ref C) "__init__" = some (some (.ref f))
 fn:W.isFn K (.ref f)=true
 kp:W.keepIn K (.ref C)=true
theorem BK(M:Mk X.K C f)(F:jS X.prog X.w X.K X.mg X.base CX k f fd ps sp)(B:fN (k+1) X.A)(L:kM X.K fd ps ds)(J:fu dvs ds)
  (g:jx CX X E) (I:eI X dY σ H s) (r:fu vs us)
  (h:∀x dx,H x=none->H dx=none->dx≠x->sp (.ref x::(vs++dvs)) (gI (gI H dx (.own x)) x (.ins C dx [])) (λv q=>v=.non/\Q (.ref x) q) E) :
  wpAny (model X.prog X.w) X.A (call (.ref C) us) (EP X dY σ Q) X.xe s:=by
 have d:=h (s.heap.objs.size+1) s.heap.objs.size (I.hok.fresh (bI _)) (I.hok.fresh (aJ _)) (aL (bF _));have b:=eI.made (C:=C) I;have c:fu (V.ref (s.heap.objs.size+1)::(vs++dvs)) (Value.ref (s.heap.objs.size+1)::(us++ds)):=.cons rfl (r.append J);have z:(Value.ref (s.heap.objs.size+1)::us++ds).length=ps.length:=by have e:=c.length;rw[F.len _ _ _ _ d]at e;exact e.symm
 refine wpAny_call (BE I.kIn M.makes M.init (beq_iff_eq.mp M.fn) (codeAny_mono (F.run _ X.stack _ _ ⟨Value.ref (s.heap.objs.size+1)::us,[]⟩ (Value.ref (s.heap.objs.size+1)::(us++ds)) _ _ E (B.make C us [])
  (b.env0.make C us []) (L _ (Value.ref (s.heap.objs.size+1)::us) b.kIn z) c d) λr l a=>?_))
 cases r with
 |error e=>exact g dY σ _ _ e l b a
 |ok fl=>
  cases fl with
  |ret u=>obtain⟨v,D,i,y,n,j⟩:=b.after a;subst n;exact⟨y,⟨V.ref (s.heap.objs.size+1),D,i,rfl,j⟩⟩
  |next=>exact False.elim a
  |brk=>exact False.elim a
  |cont=>exact False.elim a
def Dw(M:Mk X.K C f)(F:jS X.prog X.w X.K X.mg X.base CX k f fd ps sp)(u:fN (k+1) X.A)(n:Gl X x)(d:X.mg x=some (.ref C))(y:kM X.K fd ps ds)(v:fu dvs ds)(g:jx CX X E)
  (i:PA X (e::es) t) (b:(x==("__debug__" : Str))=false:=by decide) (l:starEach (e::es) X.env=(false,eval e X.env)::starEach es X.env:=by rfl) (a:(backTo pos (starEach es X.env)).any (·.1)=false:=by rfl) :
  PE X (.Call (.Name x p) (e::es) [] pos) (xV C sp dvs E t):=by
 intro j s c H Q I h;refine wpAny_Call_Name_kw (mh I n d ?_ b);refine W.callWith_K I.ok.mod.kin M.kp (gX (i pos j s c H _ I h) λus s1 ⟨vs,H1,I1,r,q⟩=>⟨I1.kIn,?_⟩) l a;exact BK M F u y v g I1 r q
end
structure f6(N P:List Str)(sc:Scope):Prop where
 kind:sc.kind=.function
 co:sc.isCoroutine=false
 gen:sc.isGenerator=false
 nd:N.Nodup
 pre:N.take P.length=P
 par:∀x∈P,sc.names.lookup x=some .local\/sc.names.lookup x=some .cell
 nofree:∀y∈sc.names,y.2≠.free
theorem sW{kindOf:Str->Option NameKind}:∀{binds} {m},(∀v,(x,v)∉binds)->bindL kindOf binds m x=m x
 |[],_,_=>rfl
 | (n,v)::r,m,h=>by
  unfold bindL;rw[sW λw hw=>h w (bj _ hw)];split
  .have:x≠n:=by rintro rfl;exact h v bh
   simp[this]
  .rfl
theorem sR{kindOf:Str->Option NameKind}:∀{binds} {m},(∀v,(x,v)∉binds)->bindC kindOf binds m x=m x
 |[],_,_=>rfl
 | (n,v)::r,m,h=>by
  unfold bindC;rw[sR λw hw=>h w (bj _ hw)];split
  .rfl
  .have:x≠n:=by rintro rfl;exact h v bh
   simp[this]
theorem sY{kindOf:Str->Option NameKind}:∀{P:List Str} {vs:List Vq} {i:Nat} {m:Str->Option Value},P.Nodup->P[i]? = some x->vs[i]? = some v->kindOf x=some .local->
  bindL kindOf (P.zip vs) m x=some v
 |[],_,_,_,_,h,_,_=>by simp at h
 |_::_,[],_,_,_,_,h,_=>by simp at h
 |p::P,w::vs,0,m,nd,h1,h2,hk=>by simp at h1 h2;subst h1;subst h2;show bindL kindOf ((p,w)::P.zip vs) m p=_;unfold bindL;rw[sW λv a=>(bJ.mp nd).1 (aV a).1,aP hk];simp
 |p::P,w::vs,i+1,m,nd,h1,h2,hk=>by unfold bindL;exact sY (bJ.mp nd).2 (by simpa using h1) (by simpa using h2) hk
theorem rZ{kindOf:Str->Option NameKind}:∀{P:List Str} {vs:List Vq} {i:Nat} {m:Str->Option Value},P.Nodup->P[i]? = some x->vs[i]? = some v->kindOf x≠some .local->
  bindC kindOf (P.zip vs) m x=some v
 |[],_,_,_,_,h,_,_=>by simp at h
 |_::_,[],_,_,_,_,h,_=>by simp at h
 |p::P,w::vs,0,m,nd,h1,h2,hk=>by simp at h1 h2;subst h1;subst h2;show bindC kindOf ((p,w)::P.zip vs) m p=_;unfold bindC;rw[sR λv a=>(bJ.mp nd).1 (aV a).1,aQ hk];simp
 |p::P,w::vs,i+1,m,nd,h1,h2,hk=>by unfold bindC;exact rZ (bJ.mp nd).2 (by simpa using h1) (by simpa using h2) hk
noncomputable def h8(N:List Str)(vs:List V):St:=vs.map some++List.replicate (N.length-vs.length) none
noncomputable def gN(CX:C6)(P:Program)(w:World)(K:W.Frag)(mg:Str->Option Value)(base:Heap)(N:List Str)(b:Str)(a:Scope)(f:Addr)(d:Vq)(A:Around)(outer:List Env)(s:Shared)(H:Hp)(E:XK):Cx where
 prog:=P
 w:=w
 K:=K
 mg:=mg
 base:=base
 A:=A.deeper (envOfC b a s.heap.objs.size f d)
 N:=N
 s₀:=s
 H₀:=H
 env:=envOfC b a s.heap.objs.size f d
 outer:=outer
 stack:=envOfC b a s.heap.objs.size f d::outer
 ex:=[]
 calm:=true
 fn:=λ_=>true
 pn:=[]
 xe:=λe h=>wpAny (model P w) (A.deeper (envOfC b a s.heap.objs.size f d)) (leaving (envOfC b a s.heap.objs.size f d) e) (λ_ c=>CX outer H s E e c) (λg c=>CX outer H s E g c) h
def jE{a:Scope}(h:a.names.lookup x=some .cell):∃c,(cellsFrom n a.names []).lookup x=some c:=by have q:=W.cellsFrom_some a.names n [] (.inl h);exact bK.mp q
theorem sr{K:W.Frag}
  (S:f6 N ps scope) (J:A.handled=none) (g:tT P w K mg base A outer s H) (Q:vs.length=ps.length) (r:fu vs us)
  (x:InCallC s s.heap.objs.size (bindL (envOfC qual scope s.heap.objs.size f cd).kindOf (ps.zip us) λ_=>none) (cellsFrom (s.heap.objs.size+1) scope.names []) (bindC (envOfC qual scope s.heap.objs.size f cd).kindOf (ps.zip us) λ_=>none) s1) :
  eI (gN CX P w K mg base N qual scope f cd A outer s H E) [] (h8 N vs) H s1:=by
 have F:ps.length<=N.length:=by have:=congrArg List.length S.pre;rw[bL]at this;omega
 obtain⟨t,R,rfl,C⟩:=x.done;have l:∀b:Addr,b∉(gN CX P w K mg base N qual scope f cd A outer s H E).ex:=λb z=>absurd (show b∈([]) from z) (by simp);refine⟨⟨g.mod,S.kind,rfl,rfl,aJ _,λy z c t d=>?_,λy j=>?_,λy c _ h=>?_,λ_=>J,Around.frames_deeper g.frames,.inr ⟨rfl,rfl⟩,λb z=>absurd z (l b),g.bs,g.bsz,λb _ _=>l b,λb z=>absurd z (l b),g.funs,g.frf,g.tab⟩,
  rfl,g.bare,Un.kept C,⟨_,x.toInCall.ns,λi y v t d L=>?_⟩,λy c h=>⟨_,x.cell y c h⟩,g.hok.fresh (aJ _),λy c h=>?_,λp n=>absurd (show p∈([]) from n) (by simp),g.hok.kept C,?_⟩
 .exact name_of_addr x.apart (PySem.mem_of_lookup t) (PySem.mem_of_lookup d)
 .have j:=j;rcases j with j|j
  .exact jE j
  .exact absurd rfl (S.nofree _ (PySem.mem_of_lookup j))
 .exact bf (x.above y c (PySem.mem_of_lookup h))
 .have o:i<vs.length:=by
   unfold h8 at d;by_cases o:i<vs.length
   .exact o
   .rw[List.getElem?_append_right (by simpa using o)]at d;rw[List.getElem?_replicate]at d;split at d<;>cases d
  have D:vs[i]? = some v:=by
   unfold h8 at d;rw[List.getElem?_append_left (by simpa using o),av]at d;cases e:vs[i]? with
   |none=>rw[e]at d;cases d
   |some a=>rw[e]at d;cases d;rfl
  obtain⟨u,B,I⟩:=r.get D;have n:ps[i]? = some y:=by rw[<-S.pre,List.getElem?_take_of_lt (by omega)];exact t
  have m:ps.Nodup:=by rw[<-S.pre];exact S.nd.sublist (List.take_sublist _ _)
  refine⟨u,I,?_⟩;rcases S.par y (au n) with k|k
  .exact .inl ⟨k,sY m n B k⟩
  .obtain⟨c,e⟩:=jE k;refine .inr ⟨.inl k,c,e,?_⟩;have q:=x.cell y c e;rw[rZ m n B (by show scope.names.lookup y≠_;rw[k];decide)]at q;exact q
 .exact g.hok.fresh (bf (x.above y c (PySem.mem_of_lookup h)))
 .unfold h8;show _=N.length;rw[aS,aw,bM];omega
theorem Fp{K:W.Frag}{Y kV m pm c ct oc:Vq}(lk:K.lookup f=some ⟨oc,od,.func (W.fnOf name qual params body scope Y kV m pm an c ct),osl⟩)(C:W.codeIn K c qual=true)(S:f6 N ps scope)
  (B:∀vs H Q E,sp vs H Q E->vs.length=ps.length)
  (i:∀A a s H vs Q E,fN k (A.deeper (envOfC qual scope s.heap.objs.size f c))->sp vs H Q E->
   ∃t,nk (gN CX P w K mg base N qual scope f c A a s H E) body t/\t {nx:=λ_ g=>Q .non g,rt:=Q} (h8 N vs) H) :
  jS P w K mg base CX (k+1) f (W.fnOf name qual params body scope Y kV m pm an c ct) ps sp:=by
 refine⟨B,λA a s H X us vs Q E R p hb r l=>?_⟩;have hl:=B _ _ _ _ l;have U:=p.mod.kin.keeps λb o e=>(p.bs b o e).1;have D:=p.mod.nolimit.keeps λb o e=>(p.bs b o e).1;have h:∀y∈ps.zip us,scope.names.lookup y.1=some .local\/(scope.names.lookup y.1=some .cell/\((cellsFrom (s.heap.objs.size+1) scope.names []).lookup y.1).isSome=true):=λ⟨n,v⟩ hy=>by
  rcases S.par n (aV hy).1 with q|q
  .exact .inl q
  .exact .inr ⟨q,W.cellsFrom_some _ _ _ (.inl q)⟩
 refine codeAny_call_function R.depth (U _ _ lk) rfl S.co S.gen rfl (W.codeRec_of U C) (hb _ _ _ _ ?_);refine wpAny_newFunctionEnv_cells S.kind h λenv he Z x=>?_;subst he;refine⟨D.keeps x.toInCall.keep,codeAny_func ?_⟩;obtain⟨t,ht,hq⟩:=i A a s H vs Q E (R.deeper _) l;have I:eI (gN CX P w K mg base N qual scope f c A a s H E) [] (h8 N vs) H Z:=sr S R.hd p hl r x;refine wpAny_mono (ht [] Z (h8 N vs) H _ I hq) (λfl F j=>?_) λe F j=>j;have z:∀{d:St} {g:Hp} {v:V} {u:Vq},eI (gN CX P w K mg base N qual scope f c A a s H E) [] d g F->gd v u->Q v g->CE a P w H s Q u F:=λ{d g v u} J L q=>⟨v,g,J.os,J.bare,J.base,J.hok,L,q⟩
 cases fl with
 |ret u=>obtain⟨v,d,g,J,L,q⟩:=j;exact z J L q
 |next=>obtain⟨d,g,J,q⟩:=j;exact z (v:=V.non) J rfl q
 |brk=>obtain⟨_,_,_,q⟩:=j;exact False.elim q
 |cont=>obtain⟨_,_,_,q⟩:=j;exact False.elim q
end L2
namespace L2
open PySem PySem.Spec PyProof.Rows
section
variable {X:Cx}{x:Str}{p pos:Pos}{e:Expr}{es:List Expr}{t:TA}{id T:String}{r:List V->Hp->VK->Prop}
def zq(r:List V->Hp->VK->Prop)(t:TA):TE:=λa H Q=>t a H λc b=>r c b Q
def gw(l:iN X (.builtin id) r)(m:Gl X x)(j:X.mg x=none)(g:bootBuiltins x=some (.builtin id))(k:PA X (e::es) t)(i:x≠ "__name__" :=by decide)(a:(x==("__debug__" : Str))=false:=by decide)
  (f:starEach (e::es) X.env=(false,eval e X.env)::starEach es X.env:=by rfl) (b:(backTo pos (starEach es X.env)).any (·.1)=false:=by rfl):PE X (.Call (.Name x p) (e::es) [] pos) (zq r t):=by
 intro d s c H Q I h;refine wpAny_Call_Name_kw (oR I m j g ?_ i a);exact PyProof.Rows.callWith_builtin1 (gX (k pos d s c H _ I h) λus s1 ⟨vs,H1,I1,r1,q1⟩=>l d s1 c H1 vs us Q I1 r1 q1) f b
def tj(l:iN X (.type T) r)(m:Gl X x)(j:X.mg x=none)(g:bootBuiltins x=some (.type T))(k:PA X (e::es) t)(i:x≠ "__name__" :=by decide)(a:(x==("__debug__" : Str))=false:=by decide)
  (f:starEach (e::es) X.env=(false,eval e X.env)::starEach es X.env:=by rfl) (b:(backTo pos (starEach es X.env)).any (·.1)=false:=by rfl):PE X (.Call (.Name x p) (e::es) [] pos) (zq r t):=by
 intro d s c H Q I h;refine wpAny_Call_Name_kw (oR I m j g ?_ i a);exact PyProof.Rows.callWith_type1 (gX (k pos d s c H _ I h) λus s1 ⟨vs,H1,I1,r1,q1⟩=>l d s1 c H1 vs us Q I1 r1 q1) f b
end
end L2
namespace HT
open PySem PyProof.Rows
section
variable {prog:Program}{w:World}{A:Around}{E:Vq->Shared->Prop}{s:Shared}
def cat_tup(u:IsTup s.heap t vs.toArray)(y:IsTup s.heap b ws.toArray)(l:vs≠[])
  (v:ws=[]->Q (.ref t) s) (x:ws≠[]->Q (.ref s.heap.objs.size) {s with heap:=s.heap.push {cls:=.type "tuple",data:=.seq (vs++ws).toArray}})
  (i:vs.length+ws.length<=sizeLine):wpAny (model prog w) A (binaryOp .Add (.ref t) (.ref b)) Q E s:=by
 obtain⟨⟨cls,k,data,m⟩,h,o,n,r⟩:=id u;obtain⟨⟨q,f,j,c⟩,a,d,p,g⟩:=id y;simp only at o r d g;subst o r d g;have e:vs.toArray++ws.toArray=(vs++ws).toArray:=by simp
 by_cases hw:ws=[]
 .exact concat_meets ⟨_,h,rfl⟩ ⟨_,a,rfl⟩ noFill_tuple_add seq_tuple_add PySem.F.slot_tuple_add PySem.F.entry_tuple_add (PySem.F.args_tuple_add_2 _ _)
   (tuple_addW1 t b vs.toArray ws.toArray n p k f m c (by simpa using l) (by simp[hw])) ⟨h,a,v hw⟩
 .refine concat_meets ⟨_,h,rfl⟩ ⟨_,a,rfl⟩ noFill_tuple_add seq_tuple_add PySem.F.slot_tuple_add PySem.F.entry_tuple_add (PySem.F.args_tuple_add_2 _ _)
   (tuple_addW2 t b vs.toArray ws.toArray n p k f m c (by simpa using l) (by simpa using hw) (by rw[bC,bC];exact i)) ⟨h,a,?_⟩
  rw[e];exact x hw
noncomputable def sIx(n d:Nat):Oq Int->Nat
 |none=>d
 |some v=>if v<0 then (v+(n:Int)).toNat else min v.toNat n
def sIx_none n d:sIx n d none=d:=rfl
def sIx_nat(n d k:Nat):sIx n d (some (k:Int))=min k n:=by show (if k<0 then (k+(n:Int)).toNat else min (k:Int).toNat n)=min k n;rw[aQ (by omega),bN]
def xZ v (n d:Nat):(if v<0 then max (v+(n:Int)) 0 else min v (n:Int))=((sIx n d (some v):Nat):Int):=by
 show (if v<0 then max (v+n) 0 else min v n)=(((if v<0 then (v+n).toNat else min v.toNat n):Nat):Int);by_cases a:v<0
 .simp only[aP a];omega
 .simp only[aQ a];omega
def wW lo a (n:Nat):Builtin.Slice.sliceAdjust lo a 1 (n:Int)=(((sIx n 0 lo:Nat):Int),((sIx n n a:Nat):Int)):=by
 have b:¬(1<0):=by omega
 unfold Builtin.Slice.sliceAdjust;simp only[b,if_false];refine Prod.ext ?_ ?_
 .cases lo with
  |none=>rfl
  |some v=>exact xZ v n 0
 .cases a with
  |none=>rfl
  |some v=>exact xZ v n n
def wz(i j:Nat):Builtin.Slice.slicePlaces (i:Int) (j:Int) 1=j-i:=by
 unfold Builtin.Slice.slicePlaces;have a:1>0:=by omega
 simp only[a,if_true,Int.ediv_one];split<;>omega
def qG(p:IsPart v o)(h:Q o s):wpAny (model prog w) A (Builtin.Slice.slicePartIndex v) Q E s:=by
 cases p with
 |none=>exact slicePart_none h
 |int i t=>exact slicePart_int h
def kW{a c:Oq Int}{n:Nat}(e:s.heap.IsSliceOf sl vl vu .none)(g:IsPart vl a)(i:IsPart vu c)
  (h:Q (((sIx n 0 a:Nat):Int),1,sIx n n c-sIx n 0 a) s):wpAny (model prog w) A (Builtin.Slice.sliceApplied (.ref sl) (pure (n:Int))) Q E s:=by
 obtain⟨j,b,f,d⟩:=id e;unfold Builtin.Slice.sliceApplied Builtin.Slice.sliceFields;refine ao (ao (wpAny_field b d rfl (ao (wpAny_field b d rfl (ao (wpAny_field b d rfl (ak ?_)))))));refine ao (slicePart_none ?_);rw[aQ (by decide)];refine ao (qG g (ao (qG i (ao (ak ?_)))));show wpAny _ _ (match Builtin.Slice.sliceAdjust a c 1 n with|(a,c)=>pure (a,(1:Int),Builtin.Slice.slicePlaces a c 1)) _ _ s;rw[wW a c n];show wpAny _ _ (pure (((sIx n 0 a):Int),1,Builtin.Slice.slicePlaces ((sIx n 0 a):Int) ((sIx n n c):Int) 1)) _ _ s;rw[wz];exact ak h
def AH(xs:Array Vq)(i k:Nat):((List.range k).filterMap λ(m:Nat)=>xs[((i:Int)+(m:Int)*1).toNat]?).toArray=((xs.toList.drop i).take k).toArray:=by
 have e:(λ(m:Nat)=>xs[(i+(m:Int)*1).toNat]?)=λm=>xs[i+m]?:=by
  funext m;have:(i+(m:Int)*1).toNat=i+m:=by omega
  rw[this]
 rw[e];have:=pick_run xs i k;rw[List.filterMap_map]at this;have a:((λx=>xs[x]?) ∘ λx=>i+x)=λm=>xs[i+m]?:=rfl;rw[a]at this;rw[this]
theorem getItem_tuple_cut{a b:Oq Int}(c:IsTup s.heap t items)(j:s.heap.IsSliceOf sl vl vu .none)(m:IsPart vl a)(o:IsPart vu b)
  (hw:¬(sIx items.size 0 a=0/\sIx items.size items.size b=items.size))
  (h:Q (.ref s.heap.objs.size) {s with heap:=s.heap.push {cls:=.type "tuple",data:=.seq ((items.toList.drop (sIx items.size 0 a)).take (sIx items.size items.size b-sIx items.size 0 a)).toArray}})
  (k:items.size<=sizeLine):wpAny (model prog w) A (getItem (.ref t) (.ref sl)) Q E s:=by
 have d:sizeOk (.seq ((items.toList.drop (sIx items.size 0 a)).take (sIx items.size items.size b-sIx items.size 0 a)).toArray):=by show ((items.toList.drop (sIx items.size 0 a)).take (sIx items.size items.size b-sIx items.size 0 a)).toArray.size<=sizeLine;rw[bC,bL,bO,bu];omega
 obtain⟨n,e,f,l⟩:=id j;have g:s.TypeIs (.ref sl) "slice" :=⟨n,e,f⟩;unfold getItem;try with_reducible refine wpAny_holding ?_;first|refine ao (ak ?_)|skip
 refine ao (wpAny_sequenceKey c.typeIs (by decide) ?_);refine ao (wpAny_callSpecial?_slot c.typeIs PyProof.Rows.slot_tuple_getitem
  (wpAny_call_entry PyProof.Rows.slot_tuple_getitem c.typeIs entry_tuple_getitem ?_ (args_tuple_getitem _ _)))
 show wpAny _ _ (Builtin.Tuple.tupleItemsOf (.ref t) >>= _) _ _ s;refine ao (tupleItemsOf_ c ?_);refine ao (wpAny_typeOf g ?_);rw[aP (by decide)];refine ao (kW j m o ?_);have i:¬((((sIx items.size 0 a):Int)==0&&(1:Int)==1&&(sIx items.size items.size b-sIx items.size 0 a)==items.size)=true):=by intro q;rw[bP,bP]at q;have p:=eq_of_beq q.1.1;have r:=eq_of_beq q.2;exact hw ⟨by omega,by omega⟩
 show wpAny _ _ (if (((sIx items.size 0 a):Int)==0&&1==1&&(sIx items.size items.size b-sIx items.size 0 a)==items.size)=true then _ else _) _ _ s;rw[aQ i,AH];first
  |exact ao (wpAny_newObj_type (ak ⟨_,rfl,ak h⟩) d)
  |exact ao (wpAny_newObj_type (ao (ak (ak ⟨_,rfl,ak h⟩))) d)
  |exact ao (ao (wpAny_newObj_type (ak (ak ⟨_,rfl,ak h⟩)) d))
  |exact ao (ao (wpAny_newObj_type (ak ⟨_,rfl,ak h⟩) d))
end
end HT
namespace L2
open PySem PySem.Spec PyProof.Rows
abbrev TO:=St->Hp->(Option Int->Hp->Prop)->Prop
def PO(X:Cx)(e:Oq Expr)(t:TO):Prop:=
 ∀(c:List (Addr×Obj)) (s:Shared) (a:St) (H:Hp) (Q:Oq Int->Hp->Prop),eI X c a H s->t a H Q->
  wpAny (model X.prog X.w) X.A (evalPart e X.env) (λu d=>∃o b,eI X c a b d/\IsPart u o/\Q o b) X.xe s
def yj:TO:=λ_ H Q=>Q none H
def Fg(t:TE):TO:=λa H Q=>t a H λx b=>∃i,x=.int i/\Q (some i) b
section
variable {X:Cx}{e:Expr}{te:TE}{lo hi:Oq Expr}{tl th:TO}{pos p2:Pos}
def DO:PO X none yj:=by intro b s a H Q I h;rw[evalPart_none];exact ak ⟨none,H,I,.none,h⟩
def C9(h:PE X e te):PO X (some e) (Fg te):=by intro b s a H Q I hw;rw[evalPart_some];refine gX (h b s a H _ I hw) λu s1 ⟨x,H1,I1,r1,q1⟩=>?_;obtain⟨i,rfl,q⟩:=q1;obtain⟨t,rfl⟩:=r1;exact⟨some i,H1,I1,.int i t,q⟩
def Fx(X:Cx)(r:V->Option Int->Option Int->Hp->VK->Prop):Prop:=
 ∀(f:List (Addr×Obj)) (s:Shared) (a:St) (H:Hp) (x:V) (v b d:Vq) (lo hi:Oq Int) (c:Addr) (Q:VK),eI X f a H s->gd x v->s.heap.IsSliceOf c b d .none->IsPart b lo->IsPart d hi->r x lo hi H Q->
  ∃T id,typeLookup (.type T) "__getitem__" = pure (some (.builtin id))/\s.TypeIs v T/\wpAny (model X.prog X.w) X.A (getItem v (.ref c)) (EP X f a Q) X.xe s
def Fx.or(h:Fx X r)(l:Fx X r'):Fx X (λx lo hi H Q=>r x lo hi H Q\/r' x lo hi H Q):=by
 intro d s a H x v f k lo hi g Q I c b i j q;rcases q with q|q
 .exact h d s a H x v f k lo hi g Q I c b i j q
 .exact l d s a H x v f k lo hi g Q I c b i j q
def Ko(r:V->Option Int->Option Int->Hp->VK->Prop)(te:TE)(tl th:TO):TE:=λa H Q=>te a H λx b=>tl a b λl c=>th a c λu d=>r x l u d Q
def zW(m:Fx X r)(j:PE X e te)(k:PO X lo tl)(f:PO X hi th):PE X (.Subscript e (.Slice lo hi none p2) pos) (Ko r te tl th):=by intro c s a H Q I h;refine Subscript_ (gX (j c s a H _ I h) λv s1 ⟨x,H1,I1,r1,q1⟩=>?_);refine wpAny_Slice (gX (k c s1 a H1 _ I1 q1) λvl s2 ⟨l,H2,I2,pl,q2⟩=>gX (f c s2 a H2 _ I2 q2) λvu s3 ⟨u,H3,I3,pu,q3⟩=>?_);rw[evalPart_none];refine ak ?_;have i:eI X c a H3 {s3 with heap:=s3.heap.push {cls:=.type "slice",data:=.fields #[vl,vu,.none]}}:=I3.kept λb o q=>ae _ q;obtain⟨T,id,d,g,n⟩:=m c {s3 with heap:=s3.heap.push {cls:=.type "slice",data:=.fields #[vl,vu,.none]}} a H3 x v vl vu l u s3.heap.objs.size Q i r1 (Heap.IsSliceOf.new ..) pl pu q3;exact tail_any g d n (by with_unfolding_all rfl)
noncomputable def AS(xs:List V)(lo hi:Oq Int):List V:=(xs.drop (HT.sIx xs.length 0 lo)).take (HT.sIx xs.length xs.length hi-HT.sIx xs.length 0 lo)
def pB xs lo hi:(AS xs lo hi).length<=xs.length:=by unfold AS;rw[bL,bO];omega
def IG(K:W.Frag):V->Option Int->Option Int->Hp->VK->Prop:=λx lo hi H Q=>∃a b,x=.ref a/\j9 K H a b/\
 ¬(HT.sIx b.length 0 lo=0/\HT.sIx b.length b.length hi=b.length)/\∀p,H p=none->Q (.ref p) (gI H p (.tup (AS b lo hi)))
def FU:Fx X (IG X.K):=by
 intro p s o H x v t y lo hi u Q I k j m n h;obtain⟨a,c,rfl,l,hw,q⟩:=h;cases k;obtain⟨d,r,g,i⟩:=I.tuple l;have f:d.toArray.size=c.length:=by rw[bC];exact r.length.symm
 refine⟨"tuple",_,PyProof.Rows.slot_tuple_getitem.lookup,g.typeIs,?_⟩;refine HT.getItem_tuple_cut g j m n (by rw[f];exact hw) ?_ (by rw[f];exact i);rw[f];refine⟨.ref s.heap.objs.size,_,I.laid (λb w q=>ae _ q) (aJ _) ?_,rfl,q _ (I.hok.fresh (aJ _))⟩;exact⟨aM (pB c lo hi) i,_,(r.drop (HT.sIx c.length 0 lo)).take (HT.sIx c.length c.length hi-HT.sIx c.length 0 lo),qs.new _ _⟩
def Jw(K:W.Frag):R2:=λx y H Q=>∃a b d c,x=.ref a/\y=.ref b/\j9 K H a d/\j9 K H b c/\d≠[]/\d.length+c.length<=sizeLine/\
 (c=[]->Q (.ref a) H)/\(c≠[]->∀p,H p=none->Q (.ref p) (gI H p (.tup (d++c))))
def fu.nil_iff(r:fu xs us):us=[]↔xs=[]:=by
 cases r with
 |nil=>simp
 |cons _ _=>simp
def EW:mw X (binaryOp .Add) (Jw X.K):=by intro A s t H x y v u Q I i m h;obtain⟨a,b,C,D,rfl,rfl,j,r,k,f,l,p⟩:=h;cases i;cases m;obtain⟨n,d,o,_⟩:=I.tuple j;obtain⟨g,c,p2,_⟩:=I.tuple r;refine HT.cat_tup o p2 (λz=>k (d.nil_iff.mp z)) (λz=>⟨.ref a,H,I,rfl,l (c.nil_iff.mp z)⟩) (λz=>?_) (by rw[<-d.length,<-c.length];exact f);refine⟨.ref s.heap.objs.size,_,I.laid (λb B q=>ae _ q) (aJ _) ?_,rfl,p (λw=>z (c.nil_iff.mpr w)) _ (I.hok.fresh (aJ _))⟩;exact⟨by rw[aS];exact f,_,d.append c,qs.new _ _⟩
end
end L2
namespace L2
open PySem PySem.Spec PyProof.Rows
noncomputable def qA(n:Nat)(i:Int):Oq Nat:=if 0<=i then (if i<n then some i.toNat else none) else if -(n:Int)<=i then some (i+n).toNat else none
noncomputable def lQ{a:Type}(xs:List a)(i:Int):Oq a:=(qA xs.length i).bind λj=>xs[j]?
def yf(h:qA n i=some j):seqIndex? i n=some j/\j<n/\-(n:Int)<=i/\i<n:=by
 unfold qA at h;by_cases b:0<=i
 .rw[aP b]at h;by_cases a:i<n
  .rw[aP a]at h;have e:=Option.some.inj h;exact⟨by rw[seqIndex_of b a,e],by omega,by omega,a⟩
  .rw[aQ a]at h;cases h
 .rw[aQ b]at h;by_cases a:-n<=i
  .rw[aP a]at h;have e:=Option.some.inj h;exact⟨by rw[seqIndex_neg (by omega) a,e],by omega,a,by omega⟩
  .rw[aQ a]at h;cases h
def uf{xs:List α}{v:α}(h:lQ xs i=some v):∃j,seqIndex? i xs.length=some j/\xs[j]? = some v/\j<xs.length/\-(xs.length:Int)<=i/\i<xs.length:=by
 unfold lQ at h;cases e:qA xs.length i with
 |none=>rw[e]at h;cases h
 |some j=>rw[e]at h;obtain⟨b,c,a,d⟩:=yf e;exact⟨j,b,h,c,a,d⟩
def nS{xs:List α}{j:Nat}{v:α}(h:xs[j]? = some v):lQ xs (j:Int)=some v:=by
 have a:=(aa.mp h).1;have e:qA xs.length j=some j:=by unfold qA;rw[aP (by omega),aP (by omega)];simp
 unfold lQ;rw[e];exact h
def B1 xs (v:α):lQ (xs++[v]) (-1)=some v:=by
 have a:(xs++[v]).length=xs.length+1:=by simp
 have e:qA (xs++[v]).length (-1)=some xs.length:=by unfold qA;rw[a,aQ (by decide),aP (by omega)];congr 1;omega
 unfold lQ;rw[e];simp
def uy(b:Expr):Prop:=∀o i,subscripted b false o i=operate [o,i] (getItem o i)
def Dt(X:Cx)(r:R2):Prop:=
 ∀(b a:Expr) (d:List (Addr×Obj)) (s:Shared) (c:St) (H:Hp) (x y:V) (v u:Vq) (Q:VK),eI X d c H s->gd x v->gd y u->r x y H Q->
  subscripted a false v u=operate [v,u] (getItem v u)->wpAny (model X.prog X.w) X.A (subscriptTail b a v u) (EP X d c Q) X.xe s
def KL(X:Cx)(id:String)(r:V->List V->Hp->VK->Prop):Prop:=
 ∀(d:List (Addr×Obj)) (s:Shared) (a:St) (H:Hp) (x:V) (c:List V) (v:Vq) (b:List Vq) (Q:VK),eI X d a H s->gd x v->fu c b->r x c H Q->
  wpAny (model X.prog X.w) X.A (call (.builtin id) (v::b)) (EP X d a Q) X.xe s
section
variable {X:Cx}{a b:Expr}{ta tb:TE}{pos:Pos}
def Dt.or(h:Dt X r)(k:Dt X r'):Dt X (λx y H Q=>r x y H Q\/r' x y H Q):=by
 intro c d j s e H x y v u Q I g i q f;rcases q with q|q
 .exact h c d j s e H x y v u Q I g i q f
 .exact k c d j s e H x y v u Q I g i q f
def Ci(m:Dt X r)(f:PE X a ta)(n:PE X b tb)(d:uy b):PE X (.Subscript a b pos) (oq r ta tb):=by intro i s c H Q I h;exact Subscript_ (G0 f n I h λv u g x y k l e j q=>m a b i g c k x y v u Q l e j q (d _ _))
def Jr(K:W.Frag):R2:=λx y H Q=>∃p c i v,x=.ref p/\y=.int i/\jR K H p c/\lQ c i=some v/\Q v H
def Iy(K:W.Frag):R2:=λx y H Q=>∃p c i v,x=.ref p/\y=.int i/\j9 K H p c/\lQ c i=some v/\Q v H
def Ik:R2:=λx y H Q=>∃z i c,x=.str z/\y=.int i/\z.length<=sizeLine/\lQ z.cps.toList i=some c/\Q (.str ⟨#[c]⟩) H
def Dc:Dt X (Jr X.K):=by
 intro f m D s B H x y v u Q I C F h n;obtain⟨p,Z,i,z,rfl,rfl,N,E,q⟩:=h;cases C;obtain⟨t,rfl⟩:=F;obtain⟨g,r,l,Y⟩:=I.list N;obtain⟨j,d,P,U,R,J⟩:=uf E;obtain⟨w,o,e⟩:=r.get P;have L:=r.length;have S:=uv;have c:EP X D B Q w s:=⟨z,H,I,e,q⟩;by_cases A:0<=i
 .have k:i.toNat=j:=by rw[seqIndex_of A J]at d;exact Option.some.inj d
  exact item_listR l.isList A (by omega) (by rw[k];simpa using o) c n
 .have k:(i+g.toArray.size).toNat=j:=by rw[seqIndex_neg (by omega) R]at d;rw[bC,<-L];exact Option.some.inj d
  exact subscriptTail_builtinR l.isList.typeIs slot_list_getitem.lookup
   (wpAny_getItem_list_neg l.isList (by omega) (by rw[bC]<;>omega) (by omega) (by rw[k];simpa using o) ⟨rfl,c⟩) n
def gL:Dt X (Iy X.K):=by
 intro d f n s k H x y v u Q I m B h l;obtain⟨p,U,i,z,rfl,rfl,F,A,q⟩:=h;cases m;obtain⟨t,rfl⟩:=B;obtain⟨C,r,g,R⟩:=I.tuple F;obtain⟨j,D,J,P,S,N⟩:=uf A;obtain⟨w,o,c⟩:=r.get J;have E:=r.length;have L:=uv;have e:EP X n k Q w s:=⟨z,H,I,c,q⟩;exact subscriptTail_builtinR g.typeIs slot_tuple_getitem.lookup
  (getItem_tuple g (by omega) (by omega) (by rw[bC,<-E];exact D) (by simpa using o) ⟨rfl,e⟩) l
def Gh:Dt X Ik:=by
 intro d e C s B H x y v u Q I k n h g;obtain⟨z,i,c,rfl,rfl,F,m,q⟩:=h;obtain⟨t,rfl⟩:=k;obtain⟨J,rfl⟩:=n;obtain⟨j,f,r,E,w,o⟩:=uf m;have p:z.cps.toList.length=z.length:=by simp[Str.length]
 rw[p]at f w o;have D:=uv;exact tail_any (typeIs_str s z t) slot_str_getitem.lookup (getItem_str (by have l:decide (i < -(2 ^ 63))=false:=aA (by omega);have A:decide (i >= 2 ^ 63)=false:=aA (by omega);rw[l,A,Bool.or_false]) (by rw[f];simpa using r) ⟨.str ⟨#[c]⟩,H,I.tok _,⟨_,rfl⟩,q⟩) g
def HW(K:W.Frag):R2:=λx y H Q=>Jr K x y H Q\/Iy K x y H Q\/Ik x y H Q
def wm:Dt X (HW X.K):=Dc.or (gL.or Gh)
def vW(c:List Vq) n j u:Obj.mapSeq (·.setIfInBounds j u) {cls:=.type "list",data:=.seq c.toArray n}={cls:=.type "list",data:=.seq (c.set j u).toArray n}:=by simp[Obj.mapSeq]
def eI.lst(I:eI X dY σ H s)(h:H p=some (.lst xs)) :
  ∃c n,fu xs c/\s.heap.get? p=some {cls:=.type "list",data:=.seq c.toArray n}/\xs.length<=sizeLine:=by
 obtain⟨z,c,n,r,e⟩:=I.hok p _ h;exact⟨c,n,r,e,z⟩
def eI.lstUpd{d c:List Vq}(I:eI X dY σ H s)(h:H p=some (.lst xs))
  (i:s.heap.get? p=some {cls:=.type "list",data:=.seq d.toArray n}) (g:f {cls:=.type "list",data:=.seq d.toArray n}={cls:=.type "list",data:=.seq c.toArray n'}) (r:fu ys c) (j:ys.length<=sizeLine) t :
  eI X dY σ (gI H p (.lst ys)) {s with heap:=s.heap.update p f,toks:=t}:=by
 have e:(s.heap.update p f).get? p=some {cls:=.type "list",data:=.seq c.toArray n'}:=by rw[Heap.get?_update_self f i (by rw[g]<;>rfl),g]
 refine I.write (by rw[h];trivial) (.inl rfl) (λb u k q=>(Heap.get?_update_other _ _ (Ne.symm k)).trans q) ⟨_,e⟩ ?_;exact⟨j,c,n',r,e⟩
def xP:V->V->V->Hp->(Hp->Prop)->Prop:=λo i v H Q=>∃p c k j,o=.ref p/\i=.int k/\H p=some (.lst c)/\qA c.length k=some j/\Q (gI H p (.lst (c.set j v)))
def Cf:Iz X xP:=by
 intro A s z H o i v N K u Q I B J D h;obtain⟨p,F,k,j,rfl,rfl,w,E,q⟩:=h;cases B;obtain⟨t,rfl⟩:=J;obtain⟨c,n,r,f,C⟩:=I.lst w;obtain⟨d,P,m,x⟩:=yf E;have g:=r.length;have L:=uv;have y:eI X A z (gI H p (.lst (F.set j v))) {s with heap:=s.heap.update p (Obj.mapSeq (·.setIfInBounds j u))}:=I.lstUpd w f (vW c n j u) (r.set D j) (by rw[bQ];exact C) s.toks
 by_cases l:0<=k
 .have e:k.toNat=j:=by rw[seqIndex_of l x]at d;exact Option.some.inj d
  exact W.ki_setAt f l (by omega) (by rw[bC,<-g];exact x) (by rw[e];exact⟨_,y,q⟩)
 .have e:(k+c.toArray.size).toNat=j:=by rw[seqIndex_neg (by omega) m]at d;rw[bC,<-g];exact Option.some.inj d
  exact W.ki_setBack f (by omega) (by rw[bC,<-g];exact m) (by omega) (by rw[e];exact⟨_,y,q⟩)
def uh lo hi n:(sliceBounds lo hi none n).1=((HT.sIx n 0 lo:Nat):Int)/\(sliceBounds lo hi none n).2.1=((HT.sIx n n hi:Nat):Int)/\(sliceBounds lo hi none n).2.2=1:=by
 refine⟨?_,?_,rfl⟩
 .cases lo with
  |none=>simp[sliceBounds,HT.sIx]
  |some i=>
   simp only[sliceBounds,HT.sIx,Option.getD_none,show 1>0 by decide,if_true];by_cases h:i<0
   .simp only[h,if_true]<;>omega
   .simp only[h,if_false]<;>omega
 .cases hi with
  |none=>simp[sliceBounds,HT.sIx]
  |some i=>
   simp only[sliceBounds,HT.sIx,Option.getD_none,show 1>0 by decide,if_true];by_cases h:i<0
   .simp only[h,if_true]<;>omega
   .simp only[h,if_false]<;>omega
def rL(c:List Vq) lo hi:slicePick c.toArray lo hi none=((c.drop (HT.sIx c.length 0 lo)).take (HT.sIx c.length c.length hi-HT.sIx c.length 0 lo)).toArray:=by obtain⟨e,d,f⟩:=uh lo hi c.toArray.size;unfold slicePick;rw[e,d,f];simp only[sliceRange_one,pick_run,bC]<;>rfl
def IV(K:W.Frag):V->Option Int->Option Int->Hp->VK->Prop:=λx e d H Q=>∃a c,x=.ref a/\jR K H a c/\∀p,H p=none->Q (.ref p) (gI H p (.lst (AS c e d)))
def Ez:Fx X (IV X.K):=by intro t s p H x v u z d f w Q I i g m n h;obtain⟨a,c,rfl,j,q⟩:=h;cases i;obtain⟨k,r,e,l⟩:=I.list j;have o:=r.length;refine⟨"list",_,slot_list_getitem.lookup,e.isList.typeIs,?_⟩;refine wpAny_getItem_list_slice e.isList g m n .none (by simp) ?_ (by rw[bC]<;>omega);rw[rL,<-o];refine⟨.ref s.heap.objs.size,_,I.laid (λb y q=>ae _ q) (aJ _) ?_,rfl,q _ (I.hok.fresh (aJ _))⟩;exact⟨aM (pB c d f) l,_,0,(r.drop (HT.sIx c.length 0 d)).take (HT.sIx c.length c.length f-HT.sIx c.length 0 d),ar _ rfl⟩
def ua:iN X (.type "list") (λxs H Q=>∃p i,xs=[.ref p]/\(jR X.K H p i\/j9 X.K H p i)/\∀l,H l=none->Q (.ref l) (gI H l (.lst i))):=by
 intro D s B H xs F Q I r h;obtain⟨p,i,rfl,t,q⟩:=h;obtain⟨u,rfl,C⟩:=mK r;cases C;have k:∀(c:List Vq),fu i c->i.length<=sizeLine->∀(d:Heap) (f:Nat),(∀b A,s.heap.get? b=some A->d.get? b=some A)->
   d.get? s.heap.objs.size=some {cls:=.type "list",dict:=none,data:=.seq c.toArray f,slots:=#[]}->EP X D B Q (.ref s.heap.objs.size) {s with heap:=d}:=λc g m d f j e=>
  ⟨.ref s.heap.objs.size,_,I.laid j (aJ _) (show jO X.prog X.w _ d _ (.lst i) from ⟨m,c,f,g,e⟩),rfl,q _ (I.hok.fresh (aJ _))⟩
 rcases t with t|t
 .obtain⟨c,g,y,m⟩:=I.list t;have E:=g.length;obtain⟨o,v,x,n,z⟩:=y.isList;exact call_list_seq p (.inl rfl) v x z (λd f j e=>k c g m d f j e) (by simp only[bC]<;>omega)
 .obtain⟨c,g,y,m⟩:=I.tuple t;have E:=g.length;obtain⟨o,v,x,n,z⟩:=y;exact call_list_seq p (.inr rfl) v x z (λd f j e=>k c g m d f j e) (by simp only[bC]<;>omega)
def rM:iN X (.type "tuple") (λxs H Q=>∃p d,xs=[.ref p]/\((jR X.K H p d/\∀l,H l=none->Q (.ref l) (gI H l (.tup d)))\/(j9 X.K H p d/\Q (.ref p) H))):=by
 intro v s n H xs y Q I r h;obtain⟨p,d,rfl,h⟩:=h;obtain⟨u,rfl,t⟩:=mK r;cases t;rcases h with⟨g,q⟩|⟨g,q⟩
 .obtain⟨c,j,f,m⟩:=I.list g;have z:=j.length;refine call_tuple_list f.isList (λi w=>?_) (by simp only[bC]<;>omega);have k:=I.kept (t':=s.toks) w;have x:eI X v n (gI H i.objs.size (.tup d)) {s with heap:=i.push {cls:=.type "tuple",data:=.seq c.toArray}}:=
   k.laid (λb o e=>ae _ e) (aJ _) (⟨m,c,j,qs.new _ _⟩)
  exact⟨.ref i.objs.size,_,x,rfl,q _ (k.hok.fresh (aJ _))⟩
 .obtain⟨c,j,f,m⟩:=I.tuple g;exact call_tuple_same f ⟨.ref p,H,I,rfl,q⟩
def JJ(K:W.Frag)(T:String)(x:V)(H:Hp):Prop:=match x with
 |.str _=>T = "str"
 |.int _=>T = "int"
 |.ref p=>(T = "list" /\∃d,jR K H p d)\/(T = "tuple" /\∃o,K.lookup p=some o/\o.cls=.type "tuple" /\o.dict=none)\/
   (T = "dict" /\((∃c,H p=some (.dK c))\/∃c,H p=some (.dT c)))\/(T = "set" /\∃S n,H p=some (.set S n))
 |_=>False
theorem GU{u:List (Addr×Obj)}{q:St}{H:Hp}{s:Shared}{T:String}{x:V}{v:Vq}(I:eI X u q H s)(r:gd x v)(g:JJ X.K T x H) :
  s.TypeIs v T/\∀a,v=.ref a->∃m,s.heap.get? a=some m/\m.dict=none:=by
 cases x with
 |str z=>obtain⟨t,rfl⟩:=r;cases (g);exact⟨typeIs_str s z t,λ_ e=>nomatch e⟩
 |int i=>obtain⟨t,rfl⟩:=r;cases (g);exact⟨typeIs_int s i t,λ_ e=>nomatch e⟩
 |ref p=>
  cases r;rcases g with⟨rfl,B,A⟩|⟨rfl,o,d,y,j⟩|⟨rfl,d⟩|⟨rfl,S,n,d⟩
  .obtain⟨w,_,l,_⟩:=I.list A;refine⟨l.isList.typeIs,λa e=>?_⟩;cases e;obtain⟨o,n,e,c,j,_⟩:=l;exact⟨o,e,j⟩
  .refine⟨⟨o,I.kIn p o d,y⟩,λa e=>?_⟩;cases e;exact⟨o,I.kIn _ o d,j⟩
  .have z:∃o,s.heap.get? p=some o/\o.ExactDict:=by
    rcases d with⟨h,d⟩|⟨h,d⟩
    .obtain⟨_,_,_,_,o,_,_,e,f,_⟩:=I.hok p _ d;exact⟨o,e,f⟩
    .obtain⟨_,_,_,_,o,_,_,e,f,_⟩:=I.hok p _ d;exact⟨o,e,f⟩
   obtain⟨o,e,f⟩:=z;refine⟨⟨o,e,f.1⟩,λa k=>?_⟩;cases k;exact⟨o,e,f.2.1⟩
  .obtain⟨o,_,_,_,e,f,_⟩:=I.hok p _ d;refine⟨⟨o,e,f.1⟩,λa k=>?_⟩;cases k;exact⟨o,e,f.2.1⟩
 |_=>exact False.elim g
def JB(K:W.Frag)(T:String)(r:V->List V->Hp->VK->Prop)(to:TE)(t:TA):TE:=λc H Q=>to c H λx d=>JJ K T x d/\t c d λe f=>r x e f Q
variable {o e:Expr}{es:List Expr}{to:TE}{t:TA}{name:Str}{apos cpos:Pos}{T id:String}{r:V->List V->Hp->VK->Prop}
def xE(q:PlainAttrs T)(f:Slot T name id)(k:typeOf (.builtin id)=pure (.type "method_descriptor"))(n:KL X id r)(u:PE X o to)(p:PA X (e::es) t)
  (d:attributeBase o name X.env (eval o X.env)=eval o X.env:=by rfl)
  (g:((backTo cpos (starEach (e::es) X.env)).all (λx=>!x.1)&&(backToKw cpos (keywordEach [] X.env)).all (λx=>x.1.isSome)
   && decide ((e::es).length+([]:List Keyword).length+(if ([]:List Keyword).isEmpty then 0 else 1)<30))=true:=by rfl)
  (c:(apos.endLine==cpos.line)=true:=by rfl) (m:starEach (e::es) X.env=(false,eval e X.env)::starEach es X.env:=by rfl) (hplain:(backTo cpos (starEach es X.env)).any (·.1)=false:=by rfl) :
  PE X (.Call (.Attribute o name apos) (e::es) [] cpos) (JB X.K T r to t):=by
 intro j s i H Q I h;refine wpAny_Call_method_late d g c rfl (gX (u j s i H _ I h) λv s1 ⟨x,H1,I1,r1,ty,q1⟩=>?_);obtain⟨w,y⟩:=GU I1 r1 ty;refine⟨T,id,q,f,k,w,y,?_⟩;have l:=p cpos j s1 i H1 _ I1 q1;rw[m]at l ⊢;refine Calls.callWith_builtin (by show (false||(backTo cpos (starEach es X.env)).any (·.1))=false;rw[hplain]<;>rfl) (Calls.evalArgs_plain ?_);exact gX l λus s2 ⟨vs,H2,I2,r2,q2⟩=>n j s2 i H2 x vs v us Q I2 r1 r2 q2
end
end L2
namespace L2
open PySem PySem.Spec PyProof.Rows
def KO(X:Cx)(id:String)(r:V->List V->Hp->VK->Prop):Prop:=
 ∀(d:List (Addr×Obj)) (s:Shared) (a:St) (H:Hp) (x:V) (c:List V) (v:Vq) (b:List Vq) (Q:VK),eI X d a H s->gd x v->fu c b->r x c H Q->
  wpAny (model X.prog X.w) X.A (call (.builtin id) (v::b)) (EP X d a Q) X.xe s
theorem fu.one:∀{x} {us},fu [x] us->∃u,us=[u]/\gd x u
 |_,_,.cons r .nil=>⟨_,rfl,r⟩
theorem fu.rep(h:fu xs us):∀k:Nat,fu (List.replicate k xs).flatten (List.replicate k us).flatten
 |0=>.nil
 |k+1=>by rw[bR,bR,bS,bS];exact fu.append h (fu.rep h k)
theorem mB(a:List Vq):∀k b,
  List.foldl (λf c=>f++c) b.toArray (List.replicate k a.toArray)=(b++(List.replicate k a).flatten).toArray
 |0,b=>by simp
 |k+1,b=>by
  have e:b.toArray++a.toArray=(b++a).toArray:=by simp
  have d:(b++a)++(List.replicate k a).flatten=b++(List.replicate (k+1) a).flatten:=by rw[bR,bS,bT]
  rw[<-d,<-mB a k (b++a),<-e,bR,List.foldl_cons]
section
variable {X:Cx}{dY:List (Addr×Obj)}{σ:St}{H:Hp}{s:Shared}{l b:Addr}{xs ys zs:List V}
def eI.lset{c a:List Vq}(I:eI X dY σ H s)(h:H l=some (.lst xs))
  (e:s.heap.get? l=some {cls:=.type "list",data:=.seq c.toArray n}) (j:f c.toArray=a.toArray) (d:fu ys a) (i:ys.length<=sizeLine) :
  eI X dY σ (gI H l (.lst ys)) {s with heap:=s.heap.update l (Obj.mapSeq f),toks:=t'}:=by
 have q:=PySem.IsL.update e f;rw[j]at q;refine I.write (by rw[h];exact trivial) (.inl rfl) (λm u k g=>(Heap.get?_update_other s.heap (Obj.mapSeq f) (Ne.symm k)).trans g) ⟨_,q⟩ ?_;exact⟨i,a,_,d,q⟩
def eI.lnew(I:eI X dY σ H s)(a:fu ys its)(c:ys.length<=sizeLine) :
  eI X dY σ (gI H s.heap.objs.size (.lst ys)) {s with heap:=s.heap.push {cls:=.type "list",data:=.seq its.toArray},toks:=t'}:=
 I.laid (λ_ _ q=>ae _ q) (aJ _) ⟨c,its,0,a,ar _ rfl⟩
def eI.fresh(I:eI X dY σ H s):H s.heap.objs.size=none:=I.hok.fresh (aJ _)
def eI.lstM(I:eI X dY σ H s)(c:H l=some (.lst xs)):xs.length<=sizeLine/\∃a n,fu xs a/\xs.length=a.length/\s.heap.get? l=some {cls:=.type "list",data:=.seq a.toArray n}:=by obtain⟨z,a,n,r,e⟩:=I.hok l _ c;exact⟨z,a,n,r,r.length,e⟩
def Cd(h:n<=sizeLine):Builtin.List.listTooLong n=false:=by unfold Builtin.List.listTooLong;exact aA (by omega)
end
section
variable {X:Cx}
def nH:V->List V->Hp->VK->Prop:=λx b H Q=>∃l a y,x=.ref l/\b=[y]/\H l=some (.lst a)/\a.length<sizeLine/\Q .non (gI H l (.lst (a++[y])))
def mr:KO X "list.append" nH:=by intro j s g H x i v k Q I c f h;obtain⟨l,p,y,rfl,rfl,b,m,q⟩:=h;cases c;obtain⟨u,rfl,d⟩:=f.one;obtain⟨z,a,n,r,o,e⟩:=I.lstM b;refine call_meets F.slot_list_append ⟨_,e,rfl⟩ F.entry_list_append (F.args_list_append_2 _ _) (PySem.list_append l a.toArray n u (by rw[bC];omega)) ⟨e,?_⟩;refine⟨.non,_,I.lset b e (by simp) (r.append (.cons d .nil)) ?_,rfl,q⟩;rw[aS,bU];omega
def E3:R2:=λx y H Q=>∃l b c a,x=.ref l/\y=.ref b/\H l=some (.lst c)/\H b=some (.lst a)/\c.length+a.length<=sizeLine/\∀p,H p=none->Q (.ref p) (gI H p (.lst (c++a)))
def uA:mw X (binaryOp .Add) E3:=by
 intro w s p H x y v u Q I f i h;obtain⟨l,b,E,t,rfl,rfl,j,d,B,q⟩:=h;cases f;cases i;obtain⟨z,c,n,r,C,e⟩:=I.lstM j;obtain⟨A,a,D,g,k,o⟩:=I.lstM d;refine PySem.P.add_list e o ?_ (by rw[bC,bC];omega);have m:c.toArray++a.toArray=(c++a).toArray:=by simp
 rw[m];exact⟨.ref _,_,I.lnew (r.append g) (by rw[aS];omega),rfl,q _ I.fresh⟩
def IF:R2:=λx y H Q=>∃l k a,x=.ref l/\y=.int k/\H l=some (.lst a)/\-(2 ^ 63)<=k/\k<2 ^ 63/\a.length*k.toNat<=sizeLine/\
 ∀p,H p=none->Q (.ref p) (gI H p (.lst (List.replicate k.toNat a).flatten))
def tH{a:Type}(xs:List a) k:(List.replicate k xs).flatten.length=k*xs.length:=by
 induction k with
 |zero=>simp
 |succ k ih=>rw[bR,bS,aS,ih,Nat.succ_mul,Nat.add_comm]
def Gw:mw X (binaryOp .Mult) IF:=by
 intro N s L H x y v u Q I p A h;obtain⟨l,k,P,rfl,rfl,C,D,K,o,q⟩:=h;cases p;obtain⟨t,rfl⟩:=A;obtain⟨z,b,n,r,E,e⟩:=I.lstM C;have J:b.toArray.size*k.toNat<=sizeLine:=by rw[bC,<-E];exact o
 have d:¬b.toArray.size*k.toNat>(2 ^ 63-1) / 8:=by
  have:sizeLine<=(2 ^ 63-1) / 8:=by decide
  omega
 have g:¬(!Builtin.List.listFitsIndex k)=true:=by rw[fitsIndex_both D K];exact aG
 have c:¬Builtin.List.listTooLong (b.toArray.size*k.toNat)=true:=by rw[Cd J];exact aG
 have f:List.foldl (λi j=>i++j) #[] (List.replicate (if b.toArray.isEmpty=true then 0 else k.toNat) b.toArray)=(List.replicate k.toNat b).flatten.toArray:=by
  have w:∀m:Nat,List.foldl (λi j=>i++j) #[] (List.replicate m b.toArray)=(List.replicate m b).flatten.toArray:=λm=>by have:=mB b m [];rw[bV]at this;exact this
  rw[w];cases b with
  |nil=>simp
  |cons a r'=>rw[aQ (by simp)]
 refine wpAny_binaryOp_repeat_ref (by decide) ⟨_,e,rfl⟩ (λB=>typeIs_int B k t) noFill_list_mul F.fills_int_mul F.slot_int_rmul repeat_list F.slot_int_index.lookup
  (call_meets F.slot_int_rmul (typeIs_int s k t) F.entry_int_rmul (F.args_int_rmul_2 _ _) (int___rmul___int_list k t l b.toArray n)
   ⟨e,rfl,⟨_,e,rfl⟩,call_meets F.slot_list_mul ⟨_,e,rfl⟩ F.entry_list_mul (F.args_list_mul_2 _ _) (AutoListH.list___mul___list_int_3 l b.toArray n k t g d c) ⟨e,?_⟩⟩)
 rw[f];exact⟨.ref _,_,I.lnew (r.rep k.toNat) (by rw[tH,bW];exact o),rfl,q _ I.fresh⟩
end
end L2
namespace Att
open PySem PySem.W PySem.Calls PyProof.Rows
def pM:∀c vs,WellAll P h vs (c.map WData.int)->IntsAre vs c:=by
 intro c;induction c with
 |nil=>intro vs w;rw[bX]at w;cases w;exact .nil
 |cons n c ih=>
  intro vs w;rw[bE]at w;cases w with
  |cons a b=>cases a;exact .cons _ _ (ih _ b)
theorem script_of{l:OpenLaw}(k:l.most=some n)
  (b:l.row.toRowW.claim.pre args=true) (i:WellAll P h vals args) :
  ∃a vs c,vals=[Value.ref a]/\args=[WData.list (c.map WData.int)]/\h.get? a=some {cls:=.type "list",data:=.seq vs.toArray}/\IntsAre vs c/\c.length<=n:=by
 have g:=(pre_splitW b).1;have j:l.pre.holds [] {args:=args}=true:=(pre_splitW b).2;obtain⟨d,r,rfl,o,s⟩:=hasAllW_cons g;obtain rfl:=hasAllW_nil s;obtain⟨t,rfl,m⟩:=hasW_list o;obtain⟨c,rfl⟩:=items_int m;have p:c.length<=n:=by
  unfold OpenLaw.pre at j;have f:(WTm.not (.lt (.lit (.int n)) (.len (.arg 0)))).holds [] {args:=[.list (c.map .int)]}=true:=by have f:=(holds_andW j).1;rw[k]at f;exact f
  have e:=condW_of f (w_not (w_lt w_lit (w_len_list (w_arg rfl))));rw[aw]at e;refine Nat.le_of_not_lt λq=>?_;first
   | (rw[aB q']at e;exact absurd e (by decide))
   | (simp at e;omega)
 cases i with
 |cons w1 w2=>
  cases w2;cases w1 with
  |list ho E9=>exact⟨_,_,c,rfl,rfl,ho,pM c _ E9,p⟩
def post_true(l:OpenLaw) args:l.row.toRowW.claim.post args (.bool true) args=true:=
 postW_of
  (show WShape.has [] (.bool true) .bool=true by first|rfl|decide|simp[WShape.has,WShape.arms,WShape.armsAll])
  (w_eq_bool (w_res rfl) w_lit) rfl
end Att
namespace L2
open PySem PySem.Spec PyProof.Rows
theorem sQ:∀{vs} {ns},IntsAre vs ns->fu (ns.map V.int) vs
 |_,_,.nil=>.nil
 |_,_,.cons n t h=>.cons ⟨t,rfl⟩ (sQ h)
def Gq(H:Hp):Prop:=∀b,H b=none\/∃o a,H b=some (.frz o (.lst a))
def vh(h:Heap)(H:Hp)(a:List (Addr×Addr)):Heap:=⟨(Ce h H).objs,{ids:=a}⟩
theorem Bh{K:W.Frag}
  (Z:K.In s₁.heap) (y:s₁.heap.Ns mainGlobals mg) (f:s₁.heap.Ns builtinsNs mb) (X:∀x:Str,x≠ "__name__" ->mb x=bootBuiltins x) (E:s₁.heap.NoLimit) (hg:s₁.gens = #[])
  (J:s₁.heap.get? a=some {cls:=.type "list",data:=.seq vs.toArray}) (hi:IntsAre vs ns) (hl:ns.length<=sizeLine) (hr:fN k callerA)
  (F:∀base:Heap,K.In base->base.Ns mainGlobals mg->jS P w K mg base CX k fa fd [x] sp) (l:∀(s:Shared) (u:Vq),BindsTo s fd ⟨[u],[]⟩ [(x,u)])
  (N:∀H:Hp,Gq H->jR K H a (ns.map V.int)->sp [.ref a] H (λv _=>v=.bl true) λ_ _ _=>False)
  (Q:∀H e g,CX [] H s₁ (λ_ _ _=>False) e g->False) :
  codeAny (model P w) callerA (.call (.ref fa) ⟨[.ref a],[]⟩) (λr g=>r=.ok (.ret (.bool true))/\OldK s₁.heap g.heap/\g.os=s₁.os/\AllBare g.gens) s₁:=by
 have rv:=sQ hi;have C:=hi.length;have j:∀H:Hp,Gq H->jR K H a (ns.map V.int)->mW P w H s₁.heap->(∀b,H b≠none->b=a)->(H a≠none->K.lookup a=none)->
   codeAny (model P w) callerA (.call (.ref fa) ⟨[.ref a],[]⟩) (λr g=>r=.ok (.ret (.bool true))/\OldK s₁.heap g.heap/\g.os=s₁.os/\AllBare g.gens) s₁:=by
  intro H hO hS A Y hK;have base_of:∀{b:Addr} {o:Obj},s₁.heap.get? b=some o->H b=none->(vh s₁.heap H []).get? b=some o:=λe n=>Bp e n;have U:∀{b:Addr} {o:Obj} {I:Array DictEntry} {L:Nat},s₁.heap.get? b=some o->o.data=.dict I L->H b=none:=λ{b o I L} e d=>by
   cases q:H b with
   |none=>rfl
   |some u=>have R:=Y b (by rw[q];simp);subst R;rw[J]at e;cases e;have d':=d;cases d'
  have i:∀{b:Addr} {m:Str->Option Value},s₁.heap.Ns b m->(vh s₁.heap H []).Ns b m:=λ{b m} ⟨o,I,L,e,d,r⟩=>⟨o,I,L,base_of e (U e d),d,r⟩;have p:K.In (vh s₁.heap H []):=λb o e=>base_of (Z b o e) (by
   cases q:H b with
   |none=>rfl
   |some u=>have R:=Y b (by rw[q];simp);subst R;rw[hK (by rw[q];simp)]at e;cases e)
  have hM:Mod K mg (vh s₁.heap H []):=⟨p,i y,⟨mb,i f,X⟩,let ⟨mc,h1,h2⟩:=E;⟨mc,i h1,h2⟩⟩;have e0:tT P w K mg (vh s₁.heap H []) callerA [] s₁ H:=⟨rfl,hM,λb o e=>Dx e,Nat.le_of_eq (zS _ _),trivial,λb f=>absurd (show b∈([]) from f) (by simp),A,.of_eq hg,λc P qn hm=>nomatch (show (c,P)∈([]:List (Addr×Addr)) from hm)⟩;refine codeAny_mono ((F _ p (i y)).run callerA [] s₁ H ⟨[.ref a],[]⟩ [.ref a] [.ref a] _ _ hr e0 (l s₁ (.ref a)) (.cons rfl .nil) (N H hO hS)) λr g h=>?_;cases r with
  |error e=>exact (Q H e g h).elim
  |ok fl=>
   cases fl with
   |next=>exact False.elim h
   |brk=>exact False.elim h
   |cont=>exact False.elim h
   |ret u=>
    obtain⟨v,H',os,t,un,D,r',q⟩:=h;have q':=q;subst q';obtain rfl:u=Value.bool true:=r';refine⟨rfl,OldK.of_keep λb o e=>?_,os,t⟩;cases q:H b with
    |none=>exact un.keep b o e q (by intro z;exact absurd (show b∈([]) from z) (by simp)) (by simp)
    |some u=>
     rcases hO b with z|⟨ob,xs,z⟩
     .rw[q]at z;cases z
     .have z2:=un.frzs b ob _ z;obtain⟨e1,_⟩:=A b _ z;obtain⟨e2,_⟩:=D b _ z2;rw[e]at e1;cases e1;exact e2
 cases S:K.lookup a with
 |some o=>have e:=Z a o S;rw[J]at e;cases e;refine j (λ_=>none) (λ_=>.inl rfl) (.inr ⟨_,vs.toArray,_,S,rfl,rfl,rfl,by rw[bC,C];exact hl,by simpa using rv⟩) (λb u z=>by have B:=z;cases B) (λb z=>absurd rfl z) λz=>absurd rfl z
 |none=>
  refine j (λb=>if b=a then some (.frz {cls:=.type "list",data:=.seq vs.toArray} (.lst (ns.map V.int))) else none) (λb=>?_) (.inl (.inr ⟨{cls:=.type "list",data:=.seq vs.toArray},aP rfl⟩)) (λb u z=>?_) (λb z=>?_) λ_=>S
  .by_cases f:b=a
   .exact .inr ⟨_,_,aP f⟩
   .exact .inl (aQ f)
  .by_cases f:b=a
   .have B:=(aP f).symm.trans z;cases B;subst f;exact⟨J,by rw[aw];exact hl,vs,_,rv,J⟩
   .have B:=(aQ f).symm.trans z;cases B
  .by_cases f:b=a
   .exact f
   .exact absurd (aQ f) z
end L2
namespace L2
open PySem PySem.Spec PyProof.Rows
noncomputable def jC(s:Stmt)(j:Nat):Stmt:=match s with
 |.ClassDef _ _ _ body _ _ _ _ _ _ _=>body.getD j (.Pass ⟨0,0,0,0⟩)
 |_=>.Pass ⟨0,0,0,0⟩
noncomputable def gD(s:Stmt):Arguments:=match s with
 |.FunctionDef _ a _ _ _ _ _ _ _ _=>a
 |_=>{posonlyargs:=[],args:=[],vararg:=none,kwonlyargs:=[],kw_defaults:=[],kwarg:=none,defaults:=[]}
noncomputable def eZ(s:Stmt):List Stmt:=match s with
 |.FunctionDef _ _ b _ _ _ _ _ _ _=>b
 |_=>[]
noncomputable def eh(s:Stmt):Scope:=match s with
 |.FunctionDef _ _ _ _ _ _ sc _ _ _=>sc
 |_=>{kind:=.function,names:=[],isGenerator:=false,isCoroutine:=false}
abbrev ph:C6:=λ_ _ _ _ _ _=>False
abbrev E0:XK:=λ_ _ _=>False
def xJ:jx ph X E0:=λ_ _ _ _ _ _ _ h=>h.elim
structure C3(K:W.Frag)(x qual:Str)(st:Stmt)(f:Addr)(fd:FuncData):Prop where
 ex:∃(oc:Vq) (od:Oq Addr) (kV doc pm:Vq) (an:Oq Addr) (cdv ct:Vq) (osl:Array (Option Value)),
  fd=W.fnOf x qual (gD st) (eZ st) (eh st) .none kV doc pm an cdv ct/\K.lookup f=some ⟨oc,od,.func fd,osl⟩/\W.codeIn K cdv qual=true
 kp:W.keepIn K (.ref f)=true
section
variable {P:Program}{w:World}{K:W.Frag}{mg:Str->Option Value}{base:Heap}
def C3.ok{st:Stmt}(F:C3 K x qual st f fd)(S:f6 N ps (eh st))(g:∀vs H Q E,sp vs H Q E->vs.length=ps.length)
  (c:∀b A a s H vs Q E,fN k (A.deeper (envOfC qual (eh st) s.heap.objs.size f b))->sp vs H Q E->
   ∃t,nk (gN ph P w K mg base N qual (eh st) f b A a s H E).nox (eZ st) t/\t {nx:=λ_ n=>Q .non n,rt:=Q} (h8 N vs) H):jS P w K mg base ph (k+1) f fd ps sp:=by
 obtain⟨o,p,kV,i,v,r,b,u,j,rfl,l,d⟩:=F.ex;refine Fp l d S g λA a s H vs Q E m e=>?_;obtain⟨t,h,q⟩:=c b A a s H vs Q E m e;exact⟨t,h.nox,q⟩
def C3.binds{st:Stmt}(F:C3 K x qual st f fd)
  (h:∀(kV b e:Vq) (c:Oq Addr) (a d:Vq) (us:List Vq),us.length=ps.length->bindArgs (W.fnOf x qual (gD st) (eZ st) (eh st) .none kV b e c a d) ⟨us,[]⟩=pure (ps.zip us)):kM K fd ps []:=by
 obtain⟨j,l,kV,b,e,c,a,d,g,rfl,k,i⟩:=F.ex;exact .all (h kV b e c a d)
def xm{st:Stmt}{kV b e a d:Vq}(l:K.lookup f=some ⟨oc,od,.func (W.fnOf x qual (gD st) (eZ st) (eh st) .none kV b e an a d),osl⟩)
  (c:W.codeIn K a qual=true) (k:W.keepIn K (.ref f)=true):C3 K x qual st f (W.fnOf x qual (gD st) (eZ st) (eh st) .none kV b e an a d):=⟨⟨oc,od,kV,b,e,an,a,d,osl,rfl,l,c⟩,k⟩
end
section
variable {X:Cx}
def pv i (b:X.N[i]? = some x:=by rfl) (c:IZ X.env.scope x:=by first|exact Or.inl rfl|exact Or.inr (Or.inl rfl)|exact Or.inr (Or.inr rfl)) (d:(x==("__debug__" : Str))=false:=by decide)
  (a:(x==("__classdict__" : Str))=false:=by decide):PE X (.Name x pos) (jN i):=FR b c d a
end
def zU(o:HO)(x:Oq HO):Prop:=match o with
 |.tbl q ps=>∃a,x=some (.tbl q (ps++a))
 |o=>x=some o
def zU.of(h:x=some o):zU o x:=by
 cases o with
 |tbl q ps=>exact⟨#[],by rw[h];simp⟩
 |_=>exact h
def zU.ne(h:zU o x):x≠none:=by
 cases o with
 |tbl q ps=>obtain⟨m,e⟩:=h;rw[e];exact λz=>nomatch z
 |_=>have e:x=some _:=h;rw[e];exact λz=>nomatch z
def eJ(H a:Hp):Prop:=∀b o,H b=some o->zU o (a b)
def eJ.refl H:eJ H H:=λ_ _ h=>.of h
def eJ.trans(a:eJ H H1)(b:eJ H1 H2):eJ H H2:=λc o h=>by
 have q:=a c o h;cases o with
 |tbl q ps=>obtain⟨m,e⟩:=q;obtain⟨f,d⟩:=b c _ e;exact⟨m++f,by rw[d,br]⟩
 |_=>exact b c _ q
def eJ.seq{K:W.Frag}(e:eJ H H')(h:jR K H a xs):jR K H' a xs:=by
 rcases h with (h|⟨o,h⟩)|h
 .exact .inl (.inl (e _ _ h))
 .exact .inl (.inr ⟨o,e _ _ h⟩)
 .exact .inr h
end L2
namespace L2
open PySem PySem.Spec PyProof.Rows
section
variable {P:Program}{w:World}{H:Hp}{h:Heap}{a:Addr}{o:HO}
def mW.track(ok:mW P w H h)(d:H a=none)(new:jO P w (gI H a o) h a o):mW P w (gI H a o) h:=λb u e=>by
 by_cases f:b=a
 .subst f;rw[eE]at e;cases e;exact new
 .rw[eF f]at e;refine (ok b u e).stay (λ_ _ _ q=>q) (λc q=>?_) λc g q=>?_
  .rw[eF (eX q d)];exact q
  .rw[eF (eX q d)];exact q
end
def eI.track(I:eI X dY σ H s)(d:H a=none)(i:a∈X.ex\/X.s₀.heap.objs.size<=a)
  (g:a≠X.env.locals) (j:∀x c,X.env.cells.lookup x=some c->c≠a) (h:∀p∈X.pn++dY,p.1≠a) (new:jO X.prog X.w (gI H a o) s.heap a o):eI X dY σ (gI H a o) s:=by
 have J:=I.step (t':=s.toks) (d':=s.drawn) (ch:=[a])
  (λb f=>by
   have e:b=a:=by simpa using f
   subst e;exact⟨i,g,j,h⟩)
  (λ_ _ _ _ _ e _=>e) (λ_ u _ _ _ e _=>⟨u.slots,e⟩)
  (λb u f _ n=>by rw[eF (by simpa using f)];exact n)
  (λ_ u _ e=>⟨u,e⟩)
  (λb l q=>by rw[eF (eX q d)];exact q)
  (λb u v q=>by rw[eF (eX q d)];exact q)
  (λb _ k q=>⟨#[],by rw[eF (eX q d),q];simp⟩)
  (λ_ q=>q) (I.hok.track d new) I.bare
 exact J
noncomputable def jM(a:Env):List (Str×NameKind)->List (Str×Addr)->List (Str×Addr)
 |[],acc=>acc
 | (n,k)::r,acc=>if k==NameKind.free then (match a.cells.lookup n with
  |some c=>jM a r ((n,c)::acc)
  |none=>jM a r acc) else jM a r acc
def mM(h:∀y∈scope.names,y.2=.free->∃c,env.cells.lookup y.1=some c):closureFor scope env=pure (jM env scope.names []):=by
 have all:∀(l:List (Str×NameKind)) b,(∀y∈l,y.2=.free->∃c,env.cells.lookup y.1=some c)->
   (forIn l b λx m=>(if (x.2==NameKind.free)=true then (do
    let a <-cellOf env x.1
    pure (ForInStep.yield ((x.1,a)::m))) else pure (ForInStep.yield m):Sem _))=pure (jM env l b):=by
  intro l;induction l with
  |nil=>intro b _;rfl
  |cons y r ih=>
   intro b i;obtain⟨n,k⟩:=y;rw[bY];by_cases d:(k==NameKind.free)=true
   .obtain⟨c,o⟩:=i (n,k) bh (by simpa using d);have f:=o;have e:cellOf env n=pure c:=by unfold cellOf;rw[f]
    simp only[d,if_true,e,pure_bind];rw[ih _ λy j=>i y (bj _ j)];show pure (jM env r ((n,c)::b))=pure (if (k==NameKind.free)=true then (match env.cells.lookup n with
     |some c=>jM env r ((n,c)::b)
     |none=>jM env r b) else jM env r b)
    rw[aP d,f]
   .have g:(k==NameKind.free)=false:=by simpa using d
    simp only[g,bZ,if_false,pure_bind];rw[ih _ λy j=>i y (bj _ j)];show pure (jM env r b)=pure (if (k==NameKind.free)=true then (match env.cells.lookup n with
     |some c=>jM env r ((n,c)::b)
     |none=>jM env r b) else jM env r b)
    rw[aQ d]
 have:=all scope.names [] h;unfold closureFor;simp only[pure_bind,bind_pure]at this ⊢;exact this
theorem ju:∀{l} {acc},(∀y d,acc.lookup y=some d->env.cells.lookup y=some d)->(jM env l acc).lookup x=some c->env.cells.lookup x=some c
 |[],acc,ha,h=>ha x c h
 | (n,k)::r,acc,ha,h=>by
  unfold jM at h;by_cases b:(k==NameKind.free)=true
  .rw[aP b]at h;cases e:env.cells.lookup n with
   |none=>rw[e]at h;exact ju ha h
   |some d=>
    rw[e]at h;refine ju (λy d' a=>?_) h;rw[b0]at a;cases q:y==n with
    |true=>rw[q]at a;cases a;rw[beq_iff_eq.mp q];exact e
    |false=>rw[q]at a;exact ha y d' a
  .rw[aQ b]at h;exact ju ha h
theorem ml:∀{l} {acc},(∃c,acc.lookup x=some c)->∃c,(jM env l acc).lookup x=some c
 |[],_,h=>h
 | (n,k)::r,acc,h=>by
  unfold jM;by_cases a:(k==NameKind.free)=true
  .rw[aP a];cases e:env.cells.lookup n with
   |none=>exact ml h
   |some d=>
    refine ml ?_;rw[b0];cases q:x==n with
    |true=>exact⟨d,rfl⟩
    |false=>exact h
  .rw[aQ a];exact ml h
theorem kU:∀{l} {acc},(x,NameKind.free)∈l->(∃c,env.cells.lookup x=some c)->∃c,(jM env l acc).lookup x=some c
 | (n,k)::r,acc,b,a=>by
  rcases aE.mp b with e|b
  .cases e;obtain⟨c,a⟩:=a;unfold jM;rw[aP (by rfl),a];refine ml ⟨c,?_⟩;rw[b0,beq_self_eq_true]
  .unfold jM;by_cases f:(k==NameKind.free)=true
   .rw[aP f];cases env.cells.lookup n with
    |none=>exact kU b a
    |some d=>exact kU b a
   .rw[aQ f];exact kU b a
def nG(h:(relabel scope env).names.lookup x=some .cell\/(relabel scope env).names.lookup x=some .free):(x,NameKind.free)∈scope.names\/scope.names.lookup x=some .cell:=by
 have all:∀(l:List (Str×NameKind)),∀k,(k=NameKind.cell\/k=NameKind.free)->
   (l.map λ(n,k)=>if (k==NameKind.free&&env.scope.kind==.function&&env.kindOf n==some .cell) then (n,NameKind.cell) else (n,k)).lookup x=some k->(x,NameKind.free)∈l\/l.lookup x=some .cell:=by
  intro l;induction l with
  |nil=>intro k _ h;simp at h
  |cons y r ih=>
   intro k b h;obtain⟨n,c⟩:=y;rw[bE]at h;by_cases a:(c==NameKind.free&&env.scope.kind==.function&&env.kindOf n==some .cell)=true
   .have d:c=.free:=by simp only[bP,beq_iff_eq]at a;exact a.1.1
    simp only[a,if_true]at h;rw[b0]at h;cases q:x==n with
    |true=>rw[d,beq_iff_eq.mp q];exact .inl bh
    |false=>
     rw[q]at h;rcases ih k b h with z|z
     .exact .inl (bj _ z)
     .exact .inr (by rw[b0,q];exact z)
   .simp only[a,bZ,if_false]at h;rw[b0]at h;cases q:x==n with
    |true=>
     rw[q]at h;have e:c=k:=by simpa using h
     rcases b with rfl|rfl
     .exact .inr (by rw[b0,q,e])
     .rw[e,beq_iff_eq.mp q];exact .inl bh
    |false=>
     rw[q]at h;rcases ih k b h with z|z
     .exact .inl (bj _ z)
     .exact .inr (by rw[b0,q];exact z)
 rcases h with h|h
 .exact all scope.names _ (.inl rfl) h
 .exact all scope.names _ (.inr rfl) h
def t9(h:scope.names.lookup x=some .free):(relabel scope env).names.lookup x=some .cell\/(relabel scope env).names.lookup x=some .free:=by
 have all:∀(l:List (Str×NameKind)),l.lookup x=some .free->
   (l.map λ(n,k)=>if (k==NameKind.free&&env.scope.kind==.function&&env.kindOf n==some .cell) then (n,NameKind.cell) else (n,k)).lookup x=some .cell\/
   (l.map λ(n,k)=>if (k==NameKind.free&&env.scope.kind==.function&&env.kindOf n==some .cell) then (n,NameKind.cell) else (n,k)).lookup x=some .free:=by
  intro l;induction l with
  |nil=>intro h;simp at h
  |cons y r ih=>
   intro h;obtain⟨n,k⟩:=y;rw[bE];rw[b0]at h;cases q:x==n with
   |true=>
    rw[q]at h;have b:k=.free:=by simpa using h
    by_cases a:(k==NameKind.free&&env.scope.kind==.function&&env.kindOf n==some .cell)=true
    .refine .inl ?_;simp only[a,if_true];rw[b0,q]
    .refine .inr ?_;simp only[a,bZ,if_false];rw[b0,q,b]
   |false=>
    rw[q]at h;by_cases a:(k==NameKind.free&&env.scope.kind==.function&&env.kindOf n==some .cell)=true
    .simp only[a,if_true];rw[b0,q];exact ih h
    .simp only[a,bZ,if_false];rw[b0,q];exact ih h
 exact all scope.names h
def zd(X:Cx)(b:List Expr)(t:TT):Prop:=
 ∀(d:List (Addr×Obj)) (s:Shared) (a:St) (H:Hp) (Q:Bool->Hp->Prop),eI X d a H s->t a H Q->
  wpAny (model X.prog X.w) X.A (forIn b true λc r=>if r=true then do let ok <-isTrue c X.env (eval c X.env);pure (ForInStep.yield ok) else pure (ForInStep.yield r)) (TP X d a Q) X.xe s
def Gj:TT:=λ_ H Q=>Q true H
def DM:zd X [] Gj:=λ_ _ _ H _ I h=>wpAny_tests_nil ⟨H,I,h⟩
def Ek(d:PT X c t):zd X [c] t:=λb s a H Q I h=>wpAny_tests_one (d b s a H Q I h)
theorem kb:∀a k b,(cellsFrom k a b).lookup x=some c->b.lookup x=some c\/(k<=c/\(x,NameKind.cell)∈a)
 |[],_,_,h=>.inl h
 | (n,kd)::r,k,b,h=>by
  unfold cellsFrom at h;split at h
  .rename_i e;rcases kb r _ _ h with q|⟨q,m⟩
   .rw[b0]at q;cases d:x==n with
    |true=>rw[d]at q;cases q;refine .inr ⟨aJ _,?_⟩;rw[beq_iff_eq.mp d,beq_iff_eq.mp e];exact bh
    |false=>rw[d]at q;exact .inl q
   .exact .inr ⟨b4 q,bj _ m⟩
  .rcases kb r _ _ h with q|⟨q,m⟩
   .exact .inl q
   .exact .inr ⟨q,bj _ m⟩
theorem jA:∀a k b,(x,NameKind.cell)∉a->(cellsFrom k a b).lookup x=b.lookup x
 |[],_,_,_=>rfl
 | (n,kd)::r,k,b,h=>by
  unfold cellsFrom;have c:(x,NameKind.cell)∉r:=λz=>h (bj _ z);split
  .rename_i d;rw[jA r _ _ c,b0];cases e:x==n with
   |true=>exact absurd (by rw[beq_iff_eq.mp e,beq_iff_eq.mp d];exact bh) h
   |false=>rfl
  .exact jA r _ _ c
theorem kL:∀a k b,(x,NameKind.cell)∈a->(cellsFrom k a b).lookup x=some c->k<=c
 |[],_,_,h,_=>nomatch h
 | (n,kd)::r,k,b,h,e=>by
  unfold cellsFrom at e;by_cases d:(x,NameKind.cell)∈r
  .split at e
   .exact b4 (kL r _ _ d e)
   .exact kL r _ _ d e
  .rcases aE.mp h with q|q
   .cases q;rw[aP (by rfl),jA r _ _ d,b0,beq_self_eq_true]at e;cases e;exact aJ _
   .exact absurd q d
theorem kz:∀d k a,(∀x y c,a.lookup x=some c->a.lookup y=some c->x=y)->(∀x c,a.lookup x=some c->c<k)->
  ∀x y c,(cellsFrom k d a).lookup x=some c->(cellsFrom k d a).lookup y=some c->x=y
 |[],_,_,h,_=>h
 | (n,kd)::r,k,a,h,hl=>by
  unfold cellsFrom;split
  .refine kz r (k+1) ((n,k)::a) (λx y c b e=>?_) λx c b=>?_
   .rw[b0]at b e;cases f:x==n with
    |true=>
     cases g:y==n with
     |true=>rw[beq_iff_eq.mp f,beq_iff_eq.mp g]
     |false=>rw[f]at b;rw[g]at e;cases b;exact absurd (hl _ _ e) (aZ _)
    |false=>
     rw[f]at b;cases g:y==n with
     |true=>rw[g]at e;cases e;exact absurd (hl _ _ b) (aZ _)
     |false=>rw[g]at e;exact h x y c b e
   .rw[b0]at b;cases f:x==n with
    |true=>rw[f]at b;cases b;exact bF _
    |false=>rw[f]at b;exact b5 (hl x c b)
  .exact kz r k a h hl
theorem kg:∀a h b,(cellsFrom h.objs.size a b).lookup x=some c->b.lookup x=some c\/(h.objs.size<=c/\(pushCells h a).IsCell c none)
 |[],_,_,e=>.inl e
 | (n,kd)::r,h,b,e=>by
  unfold cellsFrom at e;unfold pushCells;split at e
  .rename_i d;rw[aP d];have g:(cellsFrom (h.push {cls:=.type "cell",data:=.cell none}).objs.size r ((n,h.objs.size)::b)).lookup x=some c:=by rw[Heap.size_push];exact e
   rcases kg r _ _ g with q|⟨q,m⟩
   .rw[b0]at q;cases f:x==n with
    |true=>rw[f]at q;cases q;exact .inr ⟨aJ _,_,pushCells_keeps r _ _ _ (ar _ rfl),rfl⟩
    |false=>rw[f]at q;exact .inl q
   .rw[Heap.size_push]at q;exact .inr ⟨b4 q,m⟩
  .rename_i d;rw[aQ d];exact kg r _ _ e
def oW{M:Model}{A:Around}{E:Vq->Shared->Prop}{s:Shared}{a:Scope}{globals:Addr}{closure:List (Str×Addr)}{e:Str}{c:Oq Addr}{d:Vq}{b:Env}{builtins:Addr}{Q:Env->Shared->Prop}
  (j:Q (newEnv a s.heap.objs.size globals (cellsFrom (s.heap.objs.size+1) a.names closure) e c d (some b) builtins) {s with heap:=pushCells (s.heap.push {cls:=.type "dict",data:=.dict #[]}) a.names}) :
  wpAny M A (newFunctionEnv a globals closure [] e c d (some b) builtins) Q E s:=by
 simp only[newFunctionEnv,Option.isSome_some,if_true];refine ao (wpAny_alloc ?_);refine ao (wpAny_layCells _ (λi f h=>by cases g:f==NameKind.cell<;>simp[g]) _ _ _ _ ?_);rw[show ({s with heap:=s.heap.push {cls:=.type "dict",data:=.dict #[]}}:Shared).heap.objs.size=s.heap.objs.size+1 from Heap.size_push ..];rw[b7];exact ao (ak (ak j))
noncomputable def j6(X:Cx)(N:List Str)(a:Scope)(C:Addr)(b:Shared)(H:Hp)(ex:List Addr)(pn:List (Addr×Obj)):Cx:={X with N:=N,s₀:=b,H₀:=H,env:=compEnvC a (cellsFrom (C+1) a.names (jM X.env a.names [])) C X.env,outer:=X.stack,ex:=ex,fn:=λx=>a.names.lookup x==some .cell,pn:=pn,xe:=λ_ _=>False}
noncomputable def pull(a:List (Option Nat))(b:St):St:=a.map fun
 |none=>none
 |some j=>(b[j]?).getD none
def Ks(J:It)(k:List (Option Nat))(g:TG)(o:TT)(j:TE)(h:St)(n:Hp)(Q:VK):Prop:=∃W:Nat->Nat->List V->Hp->Prop,(∃m,W 0 m [] n)/\∀i m d H,W i m d H->
 (J.stop i H/\∀D,H D=none->Q (.ref D) (gI H D (.lst d)))\/
 (J.go i H/\d.length<sizeLine/\∀x f,J.yld i H x f->g x (pull k h) f λa l=>o a l λb e=>if b=true then j a e λy p=>∃c,c<m/\W (i+1) c (d++[y]) p else ∃c,c<m/\W (i+1) c d e)
def BM(e:List (Option Nat))(d:TI)(g:TG)(f:TT)(c:TE):TE:=λa H Q=>d a H λJ b=>Ks J e g f c a b Q
end L2
namespace L2
open PySem PySem.Spec PyProof.Rows
section
variable {prog:Program}{w:World}{A:Around}{R:Result->Shared->Prop}{s:Shared}
theorem uz{p F o:Expr}{q:List Expr}{e:Scope}{u:Pos}{it t:Vq}{a:Env}(J:Nat->Shared->Prop)
  (C:∀n s,J n s->wpAny (model prog w) A (pyNext it) (λr b=>match r with
   |none=>R (.ok .next) b
   |some v=>wpAny (model prog w) A (letOwnedTupleGo F it v) (λ_ f=>wpAny (model prog w) A (assign F a v) (λ_ j=>
     wpAny (model prog w) A (forIn q true λc r=>if r=true then do let ok <-isTrue c a (eval c a);pure (ForInStep.yield ok) else pure (ForInStep.yield r)) (λok d=>
      if ok=true then wpAny (model prog w) A (eval p a) (λx i=>wpAny (model prog w) A (call (.builtin "list.append") [t,x]) (λ_ l=>∃m,m<n/\J m l) (λ_ _=>False) i) (λ_ _=>False) d
      else ∃m,m<n/\J m d) (λ_ _=>False) j) (λ_ _=>False) f) (λ_ _=>False) b) (λ_ _=>False) s)
  (n:Nat) (h:J n s):codeAny (model prog w) A (.compLoop (.ListComp p [⟨F,o,q,0⟩] e u) 0 it t a) R s:=by
 refine codeAny_loop rfl J (λn s H=>?_) n h;show wpAny _ A ((compTurn (.ListComp p [⟨F,o,q,0⟩] e u) 0 it t a).onRaise (λx=>do noteFrame x a;theTreesLotGoes x)) _ _ s;refine wpAny_noted ?_;rw[compTurn_list];refine ao (wpAny_standAt (ao (wpAny_mono (C n s H) (λr b k=>?_) λ_ _ z=>z.elim)));cases r with
 |none=>exact ak k
 |some v=>
  refine ao (wpAny_mono k (λ_ f y=>?_) λ_ _ z=>z.elim);refine ao (wpAny_mono y (λ_ j E=>ao (wpAny_mono E (λok d g=>?_) λ_ _ z=>z.elim)) λ_ _ z=>z.elim);cases ok with
  |false=>exact ak ⟨rfl,g⟩
  |true=>exact ao (ao (wpAny_mono g (λx i B=>ao (wpAny_mono B (λ_ l D=>ak (ak ⟨rfl,D⟩)) λ_ _ z=>z.elim)) λ_ _ z=>z.elim))
end
def lq(c:List (Option Nat))(g:TG):Prop:=∀x a H Q,g x a H Q->g x a H λb d=>(∀i j:Nat,c[i]? = some (some j)->b[i]? = a[i]?)/\Q b d
def qD(a:ix[k]? = some none):lq ix (gJ k):=λx b H Q h=>by
 refine⟨λi j e=>?_,h⟩;have:k≠i:=by rintro rfl;rw[a]at e;cases e
 rw[aq this]
abbrev rS(us:List Vq):Obj:={cls:=.type "list",data:=.seq us.toArray us.length}
section
variable {X:Cx}{tg elt iter:Expr}{ifs:List Expr}{scope:Scope}{pos:Pos}{N:List Str}{ix:List (Option Nat)}{wi:TI}{g:TG}{tt:TT}{te:TE}
structure vq(X:Cx)(scope:Scope)(N:List Str)(ix:List (Option Nat)):Prop where
 kind:scope.kind=.function
 sep:∀y∈scope.names,y.2=.cell->scope.names.lookup y.1=some .cell
 names:∀y∈scope.names,y.2=.local->scope.names.lookup y.1=some .local
 fre:∀y∈scope.names,y.2=.free->∃c,X.env.cells.lookup y.1=some c
 len:N.length=ix.length
 ix:∀(i j:Nat) (x:Str),N[i]? = some x->ix[i]? = some (some j)->X.N[j]? = some x/\scope.names.lookup x=some .free/\IZ X.env.scope x/\X.env.kindOf x≠some .local
def Jb(L:vq X scope N ix)(I:eI X dY σ H s)(f:∀b∈fp,pR X dY H b)(j:∀b∈fp,b<s.heap.objs.size) o :
  (j6 X N scope (s.heap.objs.size+1) {s with heap:=s.heap.push o} H (s.heap.objs.size::fp) (X.pn++dY)).Ok:=by
 have t:eI X dY σ H {s with heap:=s.heap.push o}:=I.kept λb u e=>ae _ e;have sound0:∀x c,(jM X.env scope.names []).lookup x=some c->X.env.cells.lookup x=some c:=λx c e=>ju (λy d z=>by simp at z) e;have cellLt:∀x c,X.env.cells.lookup x=some c->c<s.heap.objs.size:=λx c e=>let ⟨_,q⟩:=I.cell x c e;q.lt;have h:∀x c,(cellsFrom (s.heap.objs.size+1+1) scope.names (jM X.env scope.names [])).lookup x=some c->X.env.cells.lookup x=some c\/s.heap.objs.size+1+1<=c:=λx c e=>by
  rcases kb _ _ _ e with q|⟨q,_⟩
  .exact .inl (sound0 x c q)
  .exact .inr q
 refine⟨I.ok.mod,L.kind,I.ok.glob,I.ok.blt,?_,kz _ _ _ (λx y c i n=>I.ok.inj x y c (sound0 x c i) (sound0 y c n)) (λx c i=>b5 (b5 (cellLt x c (sound0 x c i)))),λx r=>?_,λx c i n=>?_,I.ok.hd,I.ok.frames,.inl rfl,λb a=>?_,λb u e=>?_,?_,λb u e a=>?_,λb a=>?_,t.stack,I.stkFree,I.tab⟩
 .show (s.heap.push o).objs.size<=s.heap.objs.size+1;rw[Heap.size_push];exact aJ _
 .refine bK.mp (W.cellsFrom_some _ _ _ ?_);rcases nG r with k|k
  .exact .inr (bK.mpr (kU k (L.fre _ k rfl)))
  .exact .inl k
 .have m:(scope.names.lookup x==some .cell)=true:=i;have v:scope.names.lookup x=some .cell:=by simpa using m
  show (s.heap.push o).objs.size<=c;rw[Heap.size_push];exact b4 (kL _ _ _ (PySem.mem_of_lookup v) n)
 .rcases aE.mp a with rfl|a
  .refine⟨aL (bF _),λx c e z=>?_⟩;rcases h x c e with q|q
   .exact absurd (cellLt x c q) (by rw[z];exact aZ _)
   .rw[z]at q;omega
  .refine⟨aL (b5 (j b a)),λx c e=>?_⟩;rcases h x c e with q|q
   .exact (f b a).2.2.2.2.1 x c q
   .intro z;rw[z]at q;exact absurd (aM (b8 _ 2) q) (Nat.not_le.mpr (j b a))
 .exact⟨ae _ (I.bs b u e).1,(I.bs b u e).2⟩
 .show X.base.objs.size<=(s.heap.push o).objs.size;rw[Heap.size_push];exact b9 (aM I.ok.bsz I.sz)
 .have l:=aK (I.bs b u e).1;rcases aE.mp a with rfl|a
  .exact aZ _ l
  .rcases (f b a).2.2.2.1 with z|z
   .exact I.ok.noex b u e z
   .exact absurd (aD (aK e) (aM I.ok.bsz z)) (aZ _)
 .intro z;have p:=I.stkSub b z;rcases aE.mp a with rfl|a
  .rcases aE.mp p with q|q
   .exact absurd I.lt (by rw[<-q];exact aZ _)
   .exact I.nofs (aJ _) q
  .rcases aE.mp p with q|q
   .exact (f b a).2.1 q
   .exact (f b a).2.2.1 q
end
end L2
namespace L2
open PySem PySem.Spec PyProof.Rows
section
variable {X:Cx}{tg elt iter:Expr}{ifs:List Expr}{scope:Scope}{pos:Pos}{N:List Str}{ix:List (Option Nat)}{wi:TI}{g:TG}{tt:TT}{te:TE}
def vB{i:Nat}(h:(pull ix σ)[i]? = some (some v)):∃j,ix[i]? = some (some j)/\σ[j]? = some (some v):=by
 unfold pull at h;rw[av]at h;cases e:ix[i]? with
 |none=>rw[e]at h;cases h
 |some k=>
  rw[e]at h;cases k with
  |none=>cases h
  |some j=>
   refine⟨j,rfl,?_⟩;have a:(σ[j]?).getD none=some v:=by simpa using h
   cases q:σ[j]? with
   |none=>rw[q]at a;cases a
   |some z=>rw[q]at a;simpa using a
theorem yy{RR:Vq->Addr->Result->Shared->Prop}{Q:VK}{W:Nat->Nat->List V->Hp->Prop}
  (hc:X.calm=true) (L:vq X scope N ix) (hgk:lq ix g)
  (blk:∀C F H ex pn,PG (j6 X N scope C F H ex pn) tg g/\zd (j6 X N scope C F H ex pn) ifs tt/\PE (j6 X N scope C F H ex pn) elt te)
  (l:eI X dY σ H2 s2) (T:xn X.prog X.w X.K tg J fp it tn) (st2:tn 0 s2.heap) (f2:∀b∈fp,pR X dY H2 b) (w0:W 0 m0 [] H2)
  (turn:∀i m Y H,W i m Y H->(J.stop i H/\∀D,H D=none->Q (.ref D) (gI H D (.lst Y)))\/
   (J.go i H/\Y.length<sizeLine/\∀x s,J.yld i H x s->g x (pull ix σ) s λσ2 H2=>tt σ2 H2 λb H3=>if b=true then te σ2 H3 λy H4=>∃m',m'<m/\W (i+1) m' (Y++[y]) H4 else ∃m',m'<m/\W (i+1) m' Y H3))
  (fin:∀D C m s S,S.heap.Ns C m->pR X dY s C->eI X dY σ s S->Q (.ref D) s->RR (.ref D) C (.ok .next) S) :
  wpAny (model X.prog X.w) X.A (newList []) (λacc F=>wpAny (model X.prog X.w) X.A (newFunctionEnv scope X.env.globals (jM X.env scope.names []) [] X.env.qual none .none (some X.env)) (λcenv s₄=>codeAny (model X.prog X.w) X.A (.compStart (.ListComp elt [⟨tg,iter,ifs,0⟩] scope pos) 0 (.ref it) acc {cenv with scope:=relabel scope X.env}) (RR acc cenv.locals) s₄) E F) E s2:=by
 refine wpAny_newObj_type (oW ?_);have hCs:(s2.heap.push {cls:=.type "list",dict:=none,data:=.seq ([]).toArray}).objs.size=s2.heap.objs.size+1:=Heap.size_push ..;generalize R:pushCells ((s2.heap.push {cls:=.type "list",dict:=none,data:=.seq ([]).toArray}).push {cls:=.type "dict",data:=.dict #[]}) scope.names=h₁;rw[hCs];have hns₁:h₁.Ns (s2.heap.objs.size+1) (λ_=>none):=by rw[<-R,<-hCs];exact (Heap.Ns.new _ _).keeps (pushCells_keeps _ _)
 have U:∀x c,(cellsFrom (s2.heap.objs.size+1+1) scope.names (jM X.env scope.names [])).lookup x=some c->X.env.cells.lookup x=some c\/(s2.heap.objs.size+1+1<=c/\h₁.IsCell c none):=λx c e=>by
  have hs3:((s2.heap.push {cls:=.type "list",dict:=none,data:=.seq ([]).toArray}).push {cls:=.type "dict",data:=.dict #[]}).objs.size=s2.heap.objs.size+1+1:=by rw[Heap.size_push,hCs]
  rw[<-hs3]at e;rcases kg _ _ _ e with q|⟨q,m⟩
  .exact .inl (ju (λy d z=>by simp at z) q)
  .rw[hs3]at q;rw[R]at m;exact .inr ⟨q,m⟩
 have fpObj:=T.obj 0 _ st2;have hlt:∀b∈fp,b<s2.heap.objs.size:=λb h=>let ⟨_,e,_⟩:=fpObj b h;aK e;have ok:=Jb L l f2 hlt {cls:=.type "list",dict:=none,data:=.seq ([]).toArray};have DC:s2.heap.objs.size≠s2.heap.objs.size+1:=aL (bF _);have hold:∀b o,(s2.heap.push {cls:=.type "list",dict:=none,data:=.seq ([]).toArray}).get? b=some o->h₁.get? b=some o:=λb o e=>by rw[<-R];exact pushCells_keeps _ _ _ _ (ae _ e)
 have Z:∀b o,s2.heap.get? b=some o->h₁.get? b=some o:=λb o e=>hold b o (ae _ e);have sound:∀x c,(jM X.env scope.names []).lookup x=some c->X.env.cells.lookup x=some c:=λx c e=>ju (λy d z=>by simp at z) e;have cellLt:∀x c,X.env.cells.lookup x=some c->c<s2.heap.objs.size:=λx c e=>let ⟨_,q⟩:=l.cell x c e;q.lt;have hDn:=l.hok.fresh (aJ _);have hCn:=l.hok.fresh (bI _);have t:∀p∈X.pn++dY,p.1<s2.heap.objs.size:=λp f=>aK (l.pin p f).1;have hDfs:s2.heap.objs.size∉lP X.stack:=λz=>by
  rcases aE.mp (l.stkSub _ z) with q|q
  .exact absurd l.lt (by rw[<-q];exact aZ _)
  .exact l.nofs (aJ _) q
 have I':eI (j6 X N scope (s2.heap.objs.size+1) {s2 with heap:=s2.heap.push {cls:=.type "list",dict:=none,data:=.seq ([]).toArray}} H2 (s2.heap.objs.size::fp) (X.pn++dY))
   [(s2.heap.objs.size,rS [])] (pull ix σ) H2 {s2 with heap:=h₁,toks:=s2.toks}:=by
  refine⟨ok,rfl,l.bare,Un.kept hold,⟨_,hns₁,λi x v h1 h2 h3=>?_⟩,λx c e=>?_,hCn,λx c e=>?_,λp f=>?_,l.hok.kept Z,?_⟩
  .obtain⟨j,ej,es⟩:=vB h2;obtain⟨q1,q2,q3,q4⟩:=L.ix i j x h1 ej;obtain⟨m,_,hl⟩:=l.loc;obtain⟨u,r,lk⟩:=hl j x v q1 es q3;refine⟨u,r,?_⟩;rcases lk with⟨k,_⟩|⟨k,c,hcl,hv⟩
   .exact absurd k q4
   .obtain⟨c',hc'⟩:=kU (PySem.mem_of_lookup q2) ⟨c,hcl⟩;have:=sound x c' hc';rw[hcl]at this;cases this;have hnc:(x,NameKind.cell)∉scope.names:=λz=>by have:=L.sep _ z rfl;rw[q2]at this;cases this
    refine .inr ⟨?_,c,(jA _ _ _ hnc).trans hc',let ⟨ob,ho,hd⟩:=hv;⟨ob,Z c ob ho,hd⟩⟩;exact t9 q2
  .rcases U x c e with q|⟨_,q⟩
   .obtain⟨v,ob,ho,hd⟩:=l.cell x c q;exact⟨v,ob,Z c ob ho,hd⟩
   .exact⟨none,q⟩
  .rcases U x c e with q|⟨q,_⟩
   .exact l.freeC x c q
   .exact l.hok.fresh (aM (b8 _ 2) q)
  .rcases ai.mp f with f|f
   .obtain⟨e,n,ne,nf,d⟩:=l.pin p f;refine⟨Z _ _ e,n,aL (b5 (t p f)),λz=>?_,d⟩;rcases aE.mp (l.stkSub _ z) with q|q
    .exact ne q
    .exact nf q
   .have e:p=(s2.heap.objs.size,rS []):=by simpa using f
    subst e;exact⟨hold _ _ (ar _ rfl),hDn,DC,hDfs,λv z=>by cases z⟩
  .unfold pull;rw[aw];exact L.len.symm
 generalize a:j6 X N scope (s2.heap.objs.size+1) {s2 with heap:=s2.heap.push {cls:=.type "list",dict:=none,data:=.seq ([]).toArray}} H2 (s2.heap.objs.size::fp) (X.pn++dY)=X' at I';obtain⟨hg,hif,he⟩:=blk (s2.heap.objs.size+1) {s2 with heap:=s2.heap.push {cls:=.type "list",dict:=none,data:=.seq ([]).toArray}} H2 (s2.heap.objs.size::fp) (X.pn++dY);rw[a]at hg hif he;have stat:∀{s:Hp} {P:List Vq},(∀b∈fp,s b=none)->∀b∈fp,pR X' [(s2.heap.objs.size,rS P)] s b:=λ{s P} hn b h=>by
  subst a;obtain⟨_,f1,f2',f3,f4,f5⟩:=f2 b h;refine⟨hn b h,aL (b5 (hlt b h)),λz=>?_,.inl (bj _ h),λx c e=>?_,λp f=>?_⟩
  .rcases aE.mp (l.stkSub _ z) with q|q
   .exact f1 q
   .exact f2' q
  .rcases U x c e with q|⟨q,_⟩
   .exact f4 x c q
   .intro z;rw[z]at q;exact absurd (aM (b8 _ 2) q) (Nat.not_le.mpr (hlt b h))
  .rcases ai.mp f with f|f
   .exact f5 p f
   .have e:p=(s2.heap.objs.size,rS P):=by simpa using f
    subst e;exact Ne.symm (aL (hlt b h))
 have loop:codeAny (model X.prog X.w) X.A (.compLoop (.ListComp elt [⟨tg,iter,ifs,0⟩] scope pos) 0 (.ref it) (.ref s2.heap.objs.size) X'.env) (RR (.ref s2.heap.objs.size) (s2.heap.objs.size+1))
   {s2 with heap:=h₁,toks:=s2.toks}:=by
  refine uz (λn S=>∃i Y P s,eI X' [(s2.heap.objs.size,rS P)] (pull ix σ) s S/\fu Y P/\Y.length<=sizeLine/\tn i S.heap/\(∀b∈fp,s b=none)/\W i n Y s) ?_ m0
   ⟨0,[],[],H2,I',.nil,bG _,T.keep _ _ _ st2 λb _ o e=>Z b o e,λb h=>(f2 b h).1,w0⟩
  rintro n s3 ⟨i,Y,P,H3,I3,rv,hz,st3,fr3,w3⟩;have hcX:X'.calm=true:=by subst a;exact hc
  have hA:X'.A=X.A:=by subst a;rfl
  rcases turn i n Y H3 w3 with⟨stop,qn⟩|⟨go,jP,step⟩
  .have hd:=T.done X' (by subst a;rfl) (by subst a;rfl) (by subst a;rfl) hcX i _ s3 _ H3 (λ_ _=>False) I3 (stat fr3) st3 stop;rw[hA]at hd;refine gX hd λr s4 ⟨hr,I4⟩=>?_;subst hr;subst a;obtain⟨m,hn,_⟩:=I4.loc;have hD3:=I4.pin (s2.heap.objs.size,rS P) (bA _ bh);have u1:Un (lP X.stack) fp H2 H3 s2.heap s4.heap:=by
    have B:=I4.base;have nD:∀b o,s2.heap.get? b=some o->b∉fp->b∉s2.heap.objs.size::fp:=λb o e h z=>by
     rcases aE.mp z with q|q
     .exact absurd (aK e) (by rw[q];exact aZ _)
     .exact h q
    exact⟨λb o e n h hx=>B.keep b o (ae _ e) n h (nD b o e hx),λb o e n h hx=>B.slot b o (ae _ e) n h (nD b o e hx),
     λb o e n hx=>B.free b o (ae _ e) n (nD b o e hx),λb o e hx=>B.there b o (ae _ e) (nD b o e hx),B.tups,B.frzs,B.tbls⟩
   have I5:=l.call' I4.os u1 I4.hok I4.bare λb h=>let ⟨_,f1,_,f3,f4,f5⟩:=f2 b h;⟨f3,f1,f4,f5⟩;have I6:eI X dY σ (gI H3 s2.heap.objs.size (.lst Y)) s4:=I5.track hD3.2.1 (.inr l.sz) (Ne.symm (aL l.lt)) (λx c e z=>absurd (cellLt x c e) (by rw[z];exact aZ _))
    (λp f=>aL (t p f)) ⟨hz,P,P.length,rv,hD3.1⟩
   refine fin _ _ m _ s4 hn ⟨?_,?_,?_,.inr (b9 l.sz),λx c e z=>?_,λp f=>?_⟩ I6 (qn _ hD3.2.1)
   .rw[eF (Ne.symm DC)];exact I4.free
   .exact Ne.symm (aL (b5 l.lt))
   .exact l.nofs (bI _)
   .exact absurd (cellLt x c e) (by rw[z];exact Nat.not_lt.mpr (bI _))
   .exact aL (b5 (t p f))
  .have hd:=T.item X' (by subst a;rfl) (by subst a;rfl) (by subst a;rfl) hcX i _ s3 _ H3 (λ_ _=>False) I3 (stat fr3) st3 go;rw[hA]at hd;refine gX hd λr s4 ⟨u,hr,h4⟩=>?_;subst hr;refine gX h4 λ_ s5 ⟨x,H5,I5,r5,y5,st5,fr5⟩=>?_;have I5':=I5.pinned (stat fr5) (T.obj _ _ st5);have hM:model X'.prog X'.w=model X.prog X.w:=by subst a;rfl
   have hE:X'.xe=λ_ _=>False:=by subst a;rfl
   have a6:=hg _ s5 _ H5 x u _ I5' r5 (hgk x _ H5 _ (step x H5 y5));rw[hM,hA,hE]at a6;refine gX a6 λ_ s6 ⟨σ6,H6,I6,agr,q6⟩=>?_;have a7:=hif _ s6 σ6 H6 _ I6 q6;rw[hM,hA,hE]at a7;refine gX a7 λok s7 ⟨H7,I7,q7⟩=>?_;have back:∀{S:Shared} {s:Hp} {pl:List (Addr×Obj)},eI X' pl σ6 s S->eI X' pl (pull ix σ) s S:=λ{S s pl} I=>by
    refine I.weak ?_ λk v e=>?_
    .have e1:=I.len;have e2:=I3.len;rw[e1,e2]
    .obtain⟨j,ej,_⟩:=vB e;rw[agr k j ej];exact e
   have held:∀{S:Shared} {s:Hp},eI X' ([(s2.heap.objs.size,rS P)]++qy fp s5.heap) σ6 s S->tn (i+1) S.heap/\∀b∈fp,s b=none:=λ{S s} I=>by refine⟨T.keep _ _ _ st5 λb h o e=>(I.pin (b,o) (bA _ (bA _ (lH h e)))).1,λb h=>?_⟩;obtain⟨o,e,_⟩:=T.obj _ _ st5 b h;exact (I.pin (b,o) (bA _ (bA _ (lH h e)))).2.1
   cases ok with
   |false=>rw[aQ aG]at q7 ⊢;obtain⟨m',hm,w7⟩:=q7;obtain⟨k1,k2⟩:=held I7;exact⟨m',hm,i+1,Y,P,H7,(back I7).unpinned,rv,hz,k1,k2,w7⟩
   |true=>
    rw[aP rfl]at q7 ⊢;have a8:=he _ s7 σ6 H7 _ I7 q7;rw[hM,hA,hE]at a8;refine gX a8 λy s8 ⟨yv,H8,I8,r8,m',hm,w8⟩=>?_;obtain⟨k1,k2⟩:=held I8;have hD8:=I8.pin (s2.heap.objs.size,rS P) (bA _ (ax _ bh));have hl:=rv.length;refine append_at hD8.1 λh9 sb hD9=>?_;have I9:eI X' [] (pull ix σ) H8 s8:=(back I8).pins_of λp f=>by simp at f
    have I10:=I9.turned (t':=s8.toks) (λb o h e=>sb.extBut b o h e) hD8.2.1 hD8.2.2.1 (.inl (by subst a;exact bh))
     (λx c e z=>by
      subst a;rcases U x c e with q|⟨q,_⟩
      .exact absurd (cellLt x c q) (by rw[z];exact aZ _)
      .rw[z]at q;omega) (λp f z=>by
      subst a;rcases ai.mp f with f|f
      .exact absurd (t p f) (by rw[z];exact aZ _)
      .simp at f)
    have e9:h9.get? s2.heap.objs.size=some (rS (P++[y])):=by rw[hD9];simp
    refine⟨m',hm,i+1,Y++[yv],P++[y],H8,I10.pins_of λp f=>?_,rv.append (.cons r8 .nil),by rw[aS,bU];omega,?_,k2,w8⟩
    .have e:p=(s2.heap.objs.size,rS (P++[y])):=by simpa using f
     subst e;exact⟨e9,hD8.2.1,hD8.2.2.1,hD8.2.2.2.1,λv z=>by cases z⟩
    .exact T.keep _ _ _ k1 λb h o e=>sb.extBut b o (aL (hlt b h)) e
 have loop':=loop;subst a;exact codeAny_compStart_list loop (T.self X.A 0 _ _ _ (T.keep _ _ _ st2 λb _ o e=>Z b o e) loop')
def IY(E:X.calm=true)(u:PI X tg iter wi)(L:vq X scope N ix)(d:lq ix g)
  (i:∀C a H k j,PG (j6 X N scope C a H k j) tg g/\zd (j6 X N scope C a H k j) ifs tt/\PE (j6 X N scope C a H k j) elt te)
  (p:∀x,foldedSetIterable iter X.env x=pure x:=by intro _;rfl):PE X (.ListComp elt [⟨tg,iter,ifs,0⟩] scope pos) (BM ix wi g tt te):=by
 intro r s n H Q I h;rw[eval_ListComp];refine wpAny_comprehension_free rfl p (mM L.fre) L.kind L.names (gX (u r s n H _ I h) λv s1 A=>gX A λF U K=>?_);obtain⟨it,fp,tn,J,H2,e,z,T,l,y,W,⟨Y,P⟩,c⟩:=K;subst e;refine yy E L d i z T l y P c λD C m B Z t f R q=>?_;refine⟨m,t,λh' w=>⟨.ref D,B,R.turned (λb o S e=>w.extBut b o S e) f.1 f.2.1 f.2.2.2.1 f.2.2.2.2.1 f.2.2.2.2.2,rfl,q⟩⟩
end
end L2
namespace L2
open PySem PySem.Spec PyProof.Rows
structure eM(K:W.Frag)(mg:Str->Option Value)(x:Str)(st:Stmt):Prop where
 ex:∃f fd,C3 K x x st f fd/\mg x=some (.ref f)
def GB{K:W.Frag}{st:Stmt}{kV d g b e:Vq}(X:K.In h)(G:h.Ns mainGlobals mg)
  (a:W.nsIn K mainGlobals x=some (some (.ref f)))
  (l:K.lookup f=some ⟨oc,od,.func (W.fnOf x x (gD st) (eZ st) (eh st) .none kV d g an b e),osl⟩)
  (c:W.codeIn K b x=true) (k:W.keepIn K (.ref f)=true):eM K mg x st:=⟨f,_,xm l c k,W.mg_of X G a⟩
structure kG(P:Program)(w:World)(K:W.Frag)(mg:Str->Option Value)(base:Heap)(x:Str)(k:Nat)(sp:Sp):Prop where
 ex:∃f fd ps,jS P w K mg base ph k f fd ps sp/\mg x=some (.ref f)/\W.keepIn K (.ref f)=true/\kM K fd ps []
def kG.mono{K:W.Frag}(h:kG P w K mg base x j sp)(d:j<=k):kG P w K mg base x k sp:=
 let ⟨f,fd,ps,F,a,b,c⟩:=h.ex
 ⟨f,fd,ps,F.mono d,a,b,c⟩
def xy{K:W.Frag}{st:Stmt}(D:eM K mg x st)(S:f6 N ps (eh st))
  (h:∀(kV d n:Vq) (j:Oq Addr) (a l:Vq) (us:List Vq),us.length=ps.length->bindArgs (W.fnOf x x (gD st) (eZ st) (eh st) .none kV d n j a l) ⟨us,[]⟩=pure (ps.zip us))
  (e:∀vs H Q E,sp vs H Q E->vs.length=ps.length)
  (b:∀f a A c s H vs Q E,fN k (A.deeper (envOfC x (eh st) s.heap.objs.size f a))->sp vs H Q E->
   ∃t,nk (gN ph P w K mg base N x (eh st) f a A c s H E).nox (eZ st) t/\t {nx:=λ_ i=>Q .non i,rt:=Q} (h8 N vs) H):kG P w K mg base x (k+1) sp:=by
 obtain⟨f,g,F,m⟩:=D.ex;exact⟨f,g,ps,F.ok S e (b f),m,F.kp,F.binds h⟩
section
variable {X:Cx}{x:Str}{k:Nat}{sp:Sp}{e:Expr}{es:List Expr}{t:TA}{p pos:Pos}
def CT(h:kG X.prog X.w X.K X.mg X.base x k sp)(l:fN k X.A)(j:PA X (e::es) t)(m:Gl X x:=by rfl)
  (d:(x==("__debug__" : Str))=false:=by decide) (i:starEach (e::es) X.env=(false,eval e X.env)::starEach es X.env:=by rfl) (g:(backTo pos (starEach es X.env)).any (·.1)=false:=by rfl) :
  PE X (.Call (.Name x p) (e::es) [] pos) (oZ sp [] E0 t):=by
 obtain⟨f,o,n,F,a,b,c⟩:=h.ex;exact xA F l m a b c .nil xJ j d i g
end
def Ec:mw X (binaryOp .Mult) (rI (λi j=>PySem.IntMulOk i j) λi j=>.int (i*j)):=JE λ_ _ _ _ _ _ _ a q=>mul_int q a
def AV:mw X (binaryOp .FloorDiv) (rI (λi j=>j≠0/\Builtin.divisionGoesByPylong i j=false) λi j=>.int (i.fdiv j)):=JE λ_ _ _ _ _ _ _ a q=>floordiv_int a.1 q (.inl a.2)
end L2
namespace L2
open PySem PySem.Spec PyProof.Rows
def uG(h:Heap)(e:Addr)(d:Oq Addr):Prop:=∃a,h.get? e=some a/\a.dict=d
def rj(o:Obj) f:(o.mapFields f).dict=o.dict:=by obtain⟨c,d,a,b⟩:=o;cases a<;>rfl
section
variable {M:Model}{A:Around}{E:Vq->Shared->Prop}{s:Shared}{base:Heap}{env:Env}{outer:List Env}{L e:Addr}{oe:Obj}{vs:Array Vq}{CY a0:Vq}{Q:Unit->Shared->Prop}
def xN{hadNext:Bool}(J:A.frames=some (env::outer))(y:s.heap.FunFrames base (env::outer))(U:env.frame=some L)
  (N:s.heap.get? e=some oe) (D:base.StaysIn s.heap) (F:base.get? e=none) (K:oe.data=.fields vs) (u:1<vs.size) (S:vs[0]? = some a0)
  (h:∀H,Heap.NotedW base (env::outer) e oe.cls a0 (rawInt L) s.heap H->uG H e oe.dict->Q () {s with heap:=H}) :
  wpAny M A (do let a <-frameOf env;let z <-entryPlaceOf L hadNext;let b <-EntryCells.newEntry CY a .none (rawInt L) .none z;setField (.ref e) 1 b) Q E s:=by
 have i:∀b o,s.heap.get? b=some o->(∀vs,o.data≠.fields vs)->b≠e:=λb o r f q=>by subst q;rw[N]at r;cases r;exact f vs K
 have x:e∉(env::outer).filterMap (·.frame):=λC=>by obtain⟨_,o,Y,f⟩:=y.mem C;exact i e o Y f rfl
 refine ao (wpAny_frameOf_fun J y U λc d=>ao (wpAny_entryPlaceOf λz v=>?_));unfold EntryCells.newEntry newFields;refine ao (wpAny_newObj_type ?_ (v.sizeOk5 _ _ _ _ _));have n:c.get? e=some oe:=(d.2.1 e x).trans N;have m:base.StaysIn c:=λb o g=>(d.2.1 b λC=>by rw[(y.mem C).1]at g;cases g).trans (D b o g);have w:c.objs.size≠e:=bx (aK n);generalize R:({cls:=.type "traceback",dict:=none,data:=.fields ([CY,.ref L,.none,rawInt L,.none]++(if z.isEmpty then List.replicate 6 Value.none else z)).toArray}:Obj)=X;have j:=ae X n;have k:=Obj.data_mapFields K (·.setIfInBounds 1 (Value.ref c.objs.size));have p:=Heap.get?_update_self (Obj.mapFields (·.setIfInBounds 1 (Value.ref c.objs.size))) j (Obj.isFreed_of_fields k);have t:=(Heap.get?_update_other (c.push X) (Obj.mapFields (·.setIfInBounds 1 (Value.ref c.objs.size))) (Ne.symm w)).trans (ar c (by rw[<-R];rfl));have l:∀b o,b≠e->c.get? b=some o->((c.push X).update e (Obj.mapFields (·.setIfInBounds 1 (Value.ref c.objs.size)))).get? b=some o:=λb o I r=>(Heap.get?_update_other _ _ (Ne.symm I)).trans (ae _ r)
 refine wpAny_setField j K u (h _ ⟨λb o g=>l b o (λq=>by rw[q,F]at g;cases g) (m b o g),y.of_keeps λb o r f=>?_,?_,λb o r f=>?_⟩ ⟨_,p,rj _ _⟩)
 .obtain⟨P,B⟩:=d.2.2 b o r;exact⟨_,l b _ (i b o r f) B,rfl⟩
 .exact⟨_,_,c.objs.size,_,_,p,⟨Obj.cls_mapFields _ _,by rw[Array.getElem?_setIfInBounds_ne (by decide)];exact S⟩,k,by simp[u],m.fresh,w,t,by rw[<-R],by first|(simp;done)|(rcases v with rfl|⟨_,_,_,_,_,_,_,rfl⟩<;>simp)⟩
 .obtain⟨P,B⟩:=d.2.2 b o r;exact⟨P,l b _ (i b o r f) B⟩
def DU(c:A.frames=some (env::outer))(l:s.heap.FunFrames base (env::outer))(i:env.frame=some L)
  (f:s.heap.get? e=some oe) (d:base.StaysIn s.heap) (a:base.get? e=none) (j:oe.data=.fields vs) (g:vs[1]? = some .none) (k:vs[0]? = some a0)
  (h:∀b,Heap.NotedW base (env::outer) e oe.cls a0 (rawInt L) s.heap b->uG b e oe.dict->Q () {s with heap:=b}):wpAny M A (noteFrame (.ref e) env) Q E s:=by
 unfold noteFrame;simp only[i];refine ao (wpAny_field f j g ?_);rw[aQ (by decide)];exact xN c l i f d a j (Array.getElem?_eq_some_iff.mp g).1 k h
def G6{l:Vq}{d:Oq Addr}(x:A.frames=some (env::outer))(y:env.frame=some L)(u:Heap.FlyingW base (env::outer) e l a0 s.heap)(w:uG s.heap e d)
  (h:∀j,Heap.HeldW base (env::outer) e l a0 L j->s.heap.UpToSlots j->uG j e d->Q () {s with heap:=j}):wpAny M A (noteFrame (.ref e) env) Q E s:=by
 obtain⟨p,k,H,oe,vs,T,J,F,t,⟨rfl,D⟩,C,B,n,r,m,vi,z⟩:=u;obtain⟨I,v,rfl⟩:=w;obtain rfl:oe=I:=Option.some.inj (t.symm.trans v);unfold noteFrame;simp only[y];refine ao (wpAny_field t C B ?_);rw[aP (show (Value.ref T != Value.none)=true from by simp)];refine ao (wpAny_field m vi z ?_);rw[aQ (show ¬((Value.none==rawInt L)=true) from by simp[rawInt])];refine ao (wpAny_setField m vi (Array.getElem?_eq_some_iff.mp z).1 ?_);have a:∀b,b≠T->(s.heap.update T (Obj.mapFields (·.setIfInBounds 3 Value.none))).get? b=s.heap.get? b:=λb f=>Heap.get?_update_other _ _ (Ne.symm f);have g:∀b o,s.heap.get? b=some o->(∀vs,o.data≠.fields vs)->b≠T:=λb o f c q=>by subst q;rw[m]at f;cases f;exact c F vi
 exact xN x (H.of_keeps λb o f c=>⟨o,(a b (g b o f c)).trans f,rfl⟩) y ((a e (Ne.symm r)).trans t)
  (λb o i=>(a b λq=>by rw[q,n]at i;cases i).trans (p b o i)) k C (Array.getElem?_eq_some_iff.mp B).1 D
  λj ⟨x1,x2,x3,x4⟩ w=>h j ⟨x1,k,x2,x3⟩ (λb o f c=>x4 b o ((a b (g b o f c)).trans f) c) w
def qi{l:List Env}{r F:Vq}{d:Oq Addr}(w:base.StaysIn s.heap)(y:base.get? e=none)(J:s.heap.FunFrames base l)(H:s.heap.TracedAtW base e r a0 F)(K:uG s.heap e d)
  (h:∀u,Heap.FlyingW base l e r a0 u->s.heap.UpToSlots u->uG u e d->Q () {s with heap:=u}):wpAny M A (setFlight (.ref e) none) Q E s:=by
 obtain⟨oe,vs,T,P,C,x,t,D,B,m,p,v,vi,I⟩:=H;obtain⟨N,z,rfl⟩:=K;obtain rfl:oe=N:=Option.some.inj (x.symm.trans z);have i:3<C.size:=(Array.getElem?_eq_some_iff.mp I).1;have a:∀b,b≠T->(s.heap.update T (Obj.mapFields (·.setIfInBounds 3 ((none:Oq Addr).elim Value.none λf=>rawInt f)))).get? b=s.heap.get? b:=λb g=>Heap.get?_update_other _ _ (Ne.symm g)
 have j:∀b o,s.heap.get? b=some o->(∀vs,o.data≠.fields vs)->b≠T:=λb o g c q=>by subst q;rw[v]at g;cases g;exact c C vi
 have n:=(a e (Ne.symm p)).trans x;unfold setFlight;refine ao (wpAny_field x D B ?_);rw[aP (show (Value.ref T != Value.none)=true from by simp)];exact wpAny_setField v vi i (h _ ⟨λb o k=>(a b λq=>by rw[q,m]at k;cases k).trans (w b o k),y,J.of_keeps λb o g c=>⟨o,(a b (j b o g c)).trans g,rfl⟩,
  oe,vs,T,_,_,n,t,D,B,m,p,Heap.get?_update_self _ v (Obj.isFreed_of_fields (Obj.data_mapFields vi _)),Obj.data_mapFields vi _,by simp[i]⟩ (λb o g c=>⟨o.slots,(a b (j b o g c)).trans g⟩) ⟨oe,n,rfl⟩)
def yK{t:Addr}{d:Oq Addr}{cls:Vq}(c:A.frames=some (env::outer))(j:env.frame=some L)(f:base.StaysIn s.heap)(i:s.heap.FunFrames base (env::outer))(a:base.get? e=none)
  (h:s.heap.get? e=some {cls:=cls,dict:=d,data:=.fields #[.ref t,.none,.none,.none,.bool false,.none]})
  (g:∀b,Heap.FlyingW base outer e cls (.ref t) b->s.heap.UpToSlots b->uG b e d->Q () {s with heap:=b}):wpAny M A (leaving env (.ref e)) Q E s:=by
 unfold leaving;exact ao (DU (a0:=.ref t) c i j h f a rfl rfl rfl λh1 ⟨k1,k2,k3,k4⟩ d1=>qi (s:={s with heap:=h1}) k1 a k2 k3 d1 λh2 ⟨f1,f2,⟨_,_,f3⟩,f4⟩ u2 d2=>g h2 ⟨f1,f2,f3,f4⟩ (Heap.UpToSlots.trans k4 u2) d2)
end
end L2
namespace L2
open PySem PySem.Spec PyProof.Rows
def jO.at_(x:jO P w H h a o):∃b,h.get? a=some b:=by
 cases o with
 |lst xs=>obtain⟨_,_,_,_,e⟩:=x;exact⟨_,e⟩
 |tup xs=>obtain⟨_,_,_,b,e,_⟩:=x;exact⟨b,e⟩
 |dK kvs=>obtain⟨_,_,_,_,b,_,_,e,_⟩:=x;exact⟨b,e⟩
 |dT kvs=>obtain⟨_,_,_,_,b,_,_,e,_⟩:=x;exact⟨b,e⟩
 |set S n=>obtain⟨b,_,_,_,e,_⟩:=x;exact⟨b,e⟩
 |ins C dx fs=>obtain⟨_,_,_,e,_⟩:=x;exact⟨_,e⟩
 |own y=>exact x
 |xd fs=>obtain⟨_,⟨b,_,_,e,_⟩,_⟩:=x;exact⟨b,e⟩
 |rng lo hi=>obtain⟨_,_,_,e⟩:=x;exact⟨_,e⟩
 |frz b u=>obtain⟨e,_⟩:=x;exact⟨b,e⟩
 |tbl q ps=>exact⟨_,x.1⟩
 |met f y=>exact⟨_,(x)⟩
 |ext φ=>obtain⟨_,e,_⟩:=x;exact e
structure CU(P:Program)(w:World)(outer:List Env)(H:Hp)(s:Shared)(ea t:Addr)(C:Vq)(vs:List Vq)(d:Oq Addr)(B:Heap)(H':Hp)(s':Shared):Prop where
 os:s'.os=s.os
 bare:AllBare s'.gens
 un:Un (lP outer) [] H H' s.heap s'.heap
 hok:mW P w H' s'.heap
 fly:Heap.FlyingW B outer ea C (.ref t) s'.heap
 tup:s'.heap.TupAt t vs
 tn:B.get? t=none
 he:H' ea=none
 ht:H' t=none
 old:∀b o,s.heap.get? b=some o->H b=none->b∉lP outer->B.get? b=some o
 trk:∀b o,s'.heap.get? b=some o->H' b≠none->B.get? b=some o
 ex:∀b o,s.heap.get? b=some o->b∉lP outer->∃o',B.get? b=some o'
 dk:uG s'.heap ea d
def pI(P:Program)(w:World):C6:=λa H s E e g=>∃(b t:Addr) (C:Vq) (f:List Vq) (d:Oq Addr) (B:Heap) (c:Hp),e=.ref b/\CU P w a H s b t C f d B c g/\E C d c
section
variable {P:Program}{w:World}{K:W.Frag}{mg:Str->Option Value}{base:Heap}{N:List Str}{qual:Str}{scope:Scope}{f:Addr}{cd:Vq}{A:Around}{outer:List Env}{s₀:Shared}{H₀:Hp}{E:XK}
variable {dY:List (Addr×Obj)}{σ:St}{H:Hp}{s:Shared}
theorem yZ{s1:Shared}(I:eI (gN (pI P w) P w K mg base N qual scope f cd A outer s₀ H₀ E) dY σ H s)
  (R:s1.os=s.os) (hb:AllBare s1.gens) (u:Un (lP (envOfC qual scope s₀.heap.objs.size f cd::outer)) [] H H' s.heap s1.heap) (r:mW P w H' s1.heap)
  (old:∀b o,s.heap.get? b=some o->H b=none->b∉lP (envOfC qual scope s₀.heap.objs.size f cd::outer)->B.get? b=some o) (trk:∀b o,s1.heap.get? b=some o->H' b≠none->B.get? b=some o)
  (ex:∀b o,s.heap.get? b=some o->b∉lP (envOfC qual scope s₀.heap.objs.size f cd::outer)->∃j,B.get? b=some j)
  (he:H' ea=none) (ht:H' t=none) (tn:B.get? t=none) (m:Heap.FlyingW B outer ea C (.ref t) h2) (tup:h2.TupAt t vs) (D:s1.heap.UpToSlots h2) (dk:uG h2 ea d) :
  CU P w outer H₀ s₀ ea t C vs d B H' {s1 with heap:=h2}:=by
 have g:∀b:Addr,b∉(gN (pI P w) P w K mg base N qual scope f cd A outer s₀ H₀ E).ex:=λb z=>absurd (show b∈([]) from z) (by simp);have Z:∀b,b∈lP (envOfC qual scope s₀.heap.objs.size f cd::outer)->b=s₀.heap.objs.size\/b∈lP outer:=λb a=>by
  rcases aE.mp (I.stkSub b a) with z|z
  .exact .inl z
  .exact .inr z
 have h:∀b o,s₀.heap.get? b=some o->b∉lP outer->b∉lP (envOfC qual scope s₀.heap.objs.size f cd::outer):=λb o e Y z=>by
  rcases Z b z with q|q
  .exact absurd (aK e) (by rw[q];exact aZ _)
  .exact Y q
 have kept:∀b o,s₀.heap.get? b=some o->H₀ b=none->b∉lP outer->B.get? b=some o:=λb o e n a=>old b o (I.base.keep b o e n a (g b)) (I.base.free b o e n (g b)) (h b o e a)
 have k:∀b,H' b≠none->∃o,s1.heap.get? b=some o/\h2.get? b=some o:=λb a=>by
  cases q:H' b with
  |none=>exact absurd q a
  |some u'=>obtain⟨o,e⟩:=(r b u' q).at_;exact⟨o,e,m.1 b o (trk b o e a)⟩
 refine⟨R.trans I.os,hb,⟨λb o e n a _=>m.1 b o (kept b o e n a),λb o e n a _=>?_,λb o e n _=>?_,λb o e _=>?_,λb J e=>u.tups b J (I.base.tups b J e),λb o J e=>u.frzs b o J (I.base.frzs b o J e),λb _ ps e=>?_⟩,λb u' e=>?_,m,tup,tn,he,ht,kept,λb o e a=>?_,λb o e a=>?_,dk⟩
 .obtain⟨sl,i⟩:=I.base.slot b o e n a (g b);obtain⟨S,Q⟩:=u.any i (I.base.free b o e n (g b)) (by simp);obtain⟨_,j,F,l⟩:=I.ok.funs.mem a;have p:(gN (pI P w) P w K mg base N qual scope f cd A outer s₀ H₀ E).s₀.heap.get? b=some o:=e;rw[p]at F;cases F;obtain⟨x,e3⟩:=D b _ Q l;exact⟨x,e3⟩
 .obtain⟨j,i⟩:=I.base.there b o e (g b);exact u.free b j i (I.base.free b o e n (g b)) (by simp)
 .obtain⟨j,i⟩:=I.base.there b o e (g b);obtain⟨o2,Q⟩:=u.there b j i (by simp);by_cases Y:H' b=none
  .by_cases y:b∈lP outer
   .obtain⟨_,⟨o3,h3,l⟩⟩:=I.ok.funs.mem y;have p:(gN (pI P w) P w K mg base N qual scope f cd A outer s₀ H₀ E).s₀.heap.get? b=some o:=e;rw[p]at h3;cases h3;have L:=I.ok.frf b y;obtain⟨sl,X⟩:=I.base.slot b o e L y (g b);obtain⟨S,q2⟩:=u.any X (I.base.free b o e L (g b)) (by simp);obtain⟨x,q3⟩:=D b _ q2 l;exact⟨_,q3⟩
   .by_cases L:H₀ b=none
    .exact⟨o,m.1 b o (kept b o e L y)⟩
    .obtain⟨o4,q4⟩:=ex b j i (h b o e y);exact⟨o4,m.1 b o4 q4⟩
  .obtain⟨o3,_,q⟩:=k b Y;exact⟨o3,q⟩
 .obtain⟨m1,i⟩:=I.base.tbls b _ ps e;obtain⟨m2,Q⟩:=u.tbls b _ _ i;exact⟨m1++m2,by rw[Q,br]⟩
 .have a:H' b≠none:=by rw[e];exact λz=>nomatch z
  refine (r b u' e).stay (λc v hc q=>?_) (λ_ q=>q) λ_ _ q=>q;have U:H' c≠none:=by
   rcases hc with z|z
   .rw[z];exact a
   .rw[z];exact λz=>nomatch z
  exact m.1 c v (trk c v q U)
 .obtain⟨o3,X,q2⟩:=k b a;have p:=e;rw[q2]at p;cases p;exact trk b _ X a
 .obtain⟨j,i⟩:=I.base.there b o e (g b);exact ex b j i (h b o e a)
def wA{s1:Shared}{g:Hp}{t:Addr}{d:Oq Addr}{c:List Vq}(I:eI (gN (pI P w) P w K mg base N qual scope f cd A outer s₀ H₀ E) dY σ H s)(l:s1.os=s.os)(a:AllBare s1.gens)
  (m:s1.heap.FunFrames base (envOfC qual scope s₀.heap.objs.size f cd::outer)) (en:s.heap.get? ea=none) (F:s.heap.get? t=none) (p:s1.heap.get? ea=some {cls:=C,dict:=d,data:=.fields #[.ref t,.none,.none,.none,.bool false,.none]})
  (B:s1.heap.TupAt t c) (u:Un (lP (envOfC qual scope s₀.heap.objs.size f cd::outer)) [] H g s.heap s1.heap) (r:mW P w g s1.heap) (k:g ea=none) (i:g t=none)
  (x:∀b,b∈lP (envOfC qual scope s₀.heap.objs.size f cd::outer)->g b=none) (q:E C d g):(gN (pI P w) P w K mg base N qual scope f cd A outer s₀ H₀ E).xe (.ref ea) s1:=by
 have v:∀h∈(envOfC qual scope s₀.heap.objs.size f cd::outer),∀b,h.frame=some b->b∈ea::t::lP (envOfC qual scope s₀.heap.objs.size f cd::outer):=λh p b a=>bj _ (bj _ (bz.mpr ⟨h,p,a⟩));have out:∀b o,s.heap.get? b=some o->b∉lP (envOfC qual scope s₀.heap.objs.size f cd::outer)->b∉ea::t::lP (envOfC qual scope s₀.heap.objs.size f cd::outer):=λb o e n z=>by
  rcases aE.mp z with z|z
  .rw[z,en]at e;cases e
  .rcases aE.mp z with z|z
   .rw[z,F]at e;cases e
   .exact n z
 refine yK (s:=s1) (base:=W.hideAll s1.heap (ea::t::lP (envOfC qual scope s₀.heap.objs.size f cd::outer))) I.ok.frames rfl (λb o z=>W.of_hideAll _ z) (W.funFrames_hide m v) (W.hideAll_none _ (bh ..)) p λJ y j D=>?_;refine⟨ea,t,C,c,d,_,g,rfl,yZ I l a u r (λb o e n a=>W.hideAll_get _ (u.keep b o e n a (by simp)) (out b o e a)) (λb o e a=>W.hideAll_get _ e λz=>?_) (λb o e a=>let ⟨o',e'⟩:=u.there b o e (by simp);⟨o',W.hideAll_get _ e' (out b o e a)⟩) k i (W.hideAll_none _ (bj _ (bh ..))) y (B.of_slots j) j D,q⟩;rcases aE.mp z with z|z
 .rw[z]at a;exact a k
 .rcases aE.mp z with z|z
  .rw[z]at a;exact a i
  .exact a (x b z)
theorem zI(I:eI (gN (pI P w) P w K mg base N qual scope f cd A outer s₀ H₀ E) dY σ H s)(c:Heap.MadeExcOf s.heap h1 ea C args)(q:E C none H) :
  (gN (pI P w) P w K mg base N qual scope f cd A outer s₀ H₀ E).xe (.ref ea) {s with heap:=h1}:=by
 have a:∀b,s.heap.get? b=none->H b=none:=λb d=>by
  cases z:H b with
  |none=>rfl
  |some u=>obtain⟨o,e⟩:=(I.hok b u z).at_;rw[d]at e;cases e
 obtain⟨t,h,g,i⟩:=c.there;exact wA (s1:={s with heap:=h1}) I rfl I.bare (Heap.FunFrames.of_keeps (λb o e _=>⟨o,c.keeps b o e,rfl⟩) I.stack) c.new g h ⟨_,_,i,rfl,rfl⟩ (Un.kept c.keeps) (I.hok.kept c.keeps) (a ea c.new) (a t g) (λb d=>I.stkFree b d) q
end
end L2
namespace L2
open PySem PySem.Spec PyProof.Rows PySem.W
theorem FJ{K:Frag}(X:K.In h)(G:h.Ns mainGlobals mg)(e:nsIn K mainGlobals x=some (some (.ref C)))
  (q:excIn K C bmB newId=true):OwnCls x C bmB newId mg h:=by
 constructor
 .exact mg_of X G e
 unfold excIn at q;split at q<;>try (exact absurd q aG)
 rename_i t j m f;split at q<;>try (exact absurd q aG)
 rename_i v w u y p r n s g d;simp only[bP,beq_iff_eq,Bool.not_eq_true']at q;obtain⟨⟨⟨⟨⟨k,o⟩,b⟩,i⟩,a⟩,c⟩:=q;subst k;subst o;cases j;subst g;subst b;cases m with
 |mk l=>simp only at d;subst d;exact⟨_,_,_,_,_,_,_,_,_,_,_,_,_,_,_,_,_,X _ _ f,.of_isNs (isNs_of_in X a),nsMap_none_of_in X a c,tail_of_in X i⟩
section
variable {P:Program}{w:World}{K:W.Frag}{mg:Str->Option Value}{base:Heap}{N:List Str}{qual:Str}{scope:Scope}{f:Addr}{cd:Vq}{A:Around}{outer:List Env}{s₀:Shared}{H₀:Hp}{E:XK}
def BD{x:Str}{C:Addr}{g k:List Vq}{B Bn c o initId t:String}{Z a l:Pos}{b:Expr}{j:TA}(ex:nsIn K mainGlobals x=some (some (.ref C)))(q:excIn K C g c=true)
  (U:ExcBaseFacts Bn c t k) (m:g.contains (.type Bn)=true) (F:ExcBaseFacts B o initId g)
  (J:PA (gN (pI P w) P w K mg base N qual scope f cd A outer s₀ H₀ E) [b] j) (S:∀d H R,j d H R->j d H λvs i=>vs.length<=sizeLine/\R vs i)
  (hg:Gl (gN (pI P w) P w K mg base N qual scope f cd A outer s₀ H₀ E) x:=by rfl) (p:(x==("__debug__" : Str))=false:=by decide)
  (u:starEach [b] (envOfC qual scope s₀.heap.objs.size f cd)=[(false,eval b (envOfC qual scope s₀.heap.objs.size f cd))]:=by rfl) :
  PS (gN (pI P w) P w K mg base N qual scope f cd A outer s₀ H₀ E) (.Raise (some (.Call (.Name x Z) [b] [] a)) none l) (λ_ d H=>j d H λ_ i=>E (.ref C) none i):=by
 intro L s d H D I h;have O:=FJ I.mod.kin I.mod.glob ex q;have hb:=O.bound;obtain⟨bm,M,nm,X,bs,hdct,sn,sub,ab,col,dd,k0,k1,k2,k3,k5,mN,y,Q,n,T⟩:=O.obj;refine wpAny_Raise_call_subU (nm:=nm) (q:=X) (N:=M) (bs:=bs) (hdct:=hdct) (sn:=sn) (sub:=sub) (ab:=ab) (col:=col) (dd:=dd) (k0:=k0) (k1:=k1) (k2:=k2) (k3:=k3) (k5:=k5)
  U m F (mN:=mN) (T.hasType F.hasBase) (I.ok.hd rfl) ?_ n (mh I hg hb ⟨rfl,?_⟩ p)
 .show (backTo a (starEach [b] (envOfC qual scope s₀.heap.objs.size f cd))).any (·.1)=false;rw[u];rfl
 .refine (?_:wpAny (model P w) _ (evalArgs (.ref C) true (backTo a (starEach [b] (envOfC qual scope s₀.heap.objs.size f cd))) []) _ _ s);have Y:=J a L s d H _ I (S d H _ h);have v:wpAny (model P w) (gN (pI P w) P w K mg base N qual scope f cd A outer s₀ H₀ E).A (spliced (backTo a (starEach [b] (envOfC qual scope s₀.heap.objs.size f cd)))) _ _ s:=Y;rw[u]at v ⊢;refine Calls.evalArgs_plain (gX v λus s2 ⟨vs,i,I1,r,jP,q1⟩=>⟨rfl,?_,I1.bk _ _ y,Q.keeps I1.bk,T.keeps I1.bk,λh' e z=>zI I1 z q1⟩);show us.length<=sizeLine;rw[<-r.length];exact jP
end
end L2
namespace L2
open PySem PySem.Spec PyProof.Rows PySem.W PySem.Calls Builtin Builtin.ObjectAttr Builtin.Getset_descriptor
structure rK(K:Frag)(D:Addr):Prop where
 ga:findIn K (.ref D) "__getattribute__" = some (some (.builtin "BaseException.__getattribute__"))
 gt:findIn K (.ref D) "__getattr__" = some none
 cl:findIn K (.ref D) "__class__" = some (some (.builtin "object.__class__"))
 gg:specialIn K (.builtin "object.__class__") "__get__" = some (some (.builtin "getset_descriptor.__get__"))
 tk:takesIn K (.builtin "object.__class__")=some true
 ob:mroIn K D (.type "object")=some true
 be:mroIn K D (.type "BaseException")=some true
 is:(clsIn K D).isSome=true
def uo(x D:Addr)(h:Heap):Prop:=∃a,h.get? x=some a/\a.cls=.ref D
def uo.type{M:Model}{x D:Addr}{h:Heap}(e:uo x D h):Looks M h (typeOf (.ref x)) (.ref D):=by obtain⟨c,a,b⟩:=e;exact b▸(Looks.ld a).andThen .now
section
variable {prog:Program}{w:World}{A:Around}{E:Vq->Shared->Prop}{s:Shared}{K:Frag}{x D:Addr}
def rN{R:Result->Shared->Prop}{a:Vq}(X:K.In s.heap)(I:uo x D s.heap)(b:mroIn K D (.type "object")=some true)
  (h:R (.ok (.ret (.ref D))) s):codeAny (model prog w) A (.call (.builtin "getset_descriptor.__get__") ⟨[.builtin "object.__class__",.ref x,a],[]⟩) R s:=by
 obtain⟨c,g,dr,t,f⟩:=s;have e:=I.type (M:=model prog w);have d:=looks_mroIn (M:=model prog w) X b;refine codeAny_call_builtin KF.slot_gs.plain KF.entry_gs (KF.slot_gs.check _ _ _ _ _ _ _ _ KF.type_class (KF.args_gs _ _ _) ?_);unfold Builtin.«getset_descriptor.__get__» descrGet;rw[dga_obj];refine ao (ak ?_);unfold descrGetter descrCheckInstance descrNameAndClass isInstance;simp only[KF.owner_class];(repeat lk);refine⟨Code.quiet_builtin _ (by decide +kernel),codeAny_builtin KF.entry_class ?_⟩;unfold Builtin.«object.__class__» shownTypeOf;(repeat lk);exact h
def zp(X:K.In s.heap)(I:uo x D s.heap)(C:rK K D)(h:Q (.done (.ret (.ref D))) s) :
  wpAny (model prog w) A (Builtin.«object.__getattribute__» ⟨[.ref x,.str "__class__" tk],[]⟩) Q E s:=by
 obtain⟨a,g,dr,t,d⟩:=s;have c:=I.type (M:=model prog w);have b:=looks_findIn (M:=model prog w) X C.cl;unfold Builtin.«object.__getattribute__» find;(repeat lk);refine (wpAny_run (rN X I C.ob ?_));(repeat lk);exact h
def yX(X:K.In s.heap)(I:uo x D s.heap)(C:rK K D)(e:Q () s) :
  wpAny (model prog w) A (checkBuiltinCall "BaseException.__getattribute__" ⟨[.ref x,nameV],[]⟩) Q E s:=by
 have b:builtinKind "BaseException.__getattribute__" = some .slot:=by decide +kernel
 have hsplit:splitId "BaseException.__getattribute__" = some ("BaseException", "__getattribute__"):=by decide +kernel
 have c:=I.type (M:=model prog w);have a:=looks_mroIn (M:=model prog w) X C.be;obtain⟨d,g,dr,t,f⟩:=s;simp only[checkBuiltinCall,b,hsplit];refine ao ?_;unfold isInstance;refine ao (c.at (a.at ?_));rw[aQ (by decide)];(repeat (first|assumption|wp_step))
def qu(X:K.In s.heap)(I:uo x D s.heap)(C:rK K D)(h:Q (some (.ref D)) {s with toks:=s.toks+1}) :
  wpAny (model prog w) A (getAttr? (.ref x) "__class__") Q E s:=by
 obtain⟨l,g,d,t,m⟩:=s;have k:=I.type (M:=model prog w);have f:=looks_findIn (M:=model prog w) X C.ga;have L2:=looks_findIn (M:=model prog w) X C.gt;have c:(Value.builtin "BaseException.__getattribute__" == Value.builtin "object.__getattribute__")=false:=by decide +kernel
 unfold getAttr? getAttrBy? getAttrBy;refine ao (wpAny_mkText (ao (wpAny_attempt (wpAny_holding (ao (k.at (ao (f.at ?_))))))));dsimp only;rw[c];simp only[Bool.and_false,bZ,if_false];unfold getAttrByItsOwn hookBefore;rw[aP (show onTheHeap (Value.ref D)=true from rfl)];refine ao (L2.at (ao (wpAny_attempt (wpAny_holding ?_))));unfold callGetattribute boundAndCalled;rw[aQ (by decide)];have i:bindSpecial (.builtin "BaseException.__getattribute__") (.ref x)=pure (.builtin "BaseException.__getattribute__",[.ref x]):=by
  have b:withoutEnding? "BaseException.__getattribute__" "#opaque" = none:=by decide +kernel
  have a:withoutEnding? "BaseException.__getattribute__" "#data" = none:=by decide +kernel
  have j:builtinKind "BaseException.__getattribute__" = some .slot:=by decide +kernel
  simp only[bindSpecial,typeOf,builtinType,b,a,j];rfl
 rw[i];refine ao (ak ?_);have e:=X;refine wpAny_call (codeAny_call_builtin (by decide +kernel) F.entry_bexc_ga (yX e I C (zp e I C ?_)));dsimp only;rw[handedOut_of (rfl)];exact ak (ak h)
def qC(C:rK K D):KitX K (.ref x) (.ref D) (uo x D) where
 ty:=λ_ _ _ I=>I.type
 it:=λ_ _ X _=>by
  obtain⟨g,a⟩:=bK.mp C.is;unfold clsIn at a;split at a
  .rename_i i j b f d;intro m r v p k q;unfold isType loadHead;exact ao (wpAny_loadPart (k _ _ (X _ _ d)) (ak q))
  .cases a
 ne:=λh o t l n u X c=>by
  obtain⟨g,a⟩:=bK.mp C.is;refine Bool.eq_false_iff.mpr λq=>?_;have e:=Value.ref.inj (beq_iff_eq.mp q);subst e;unfold clsIn at a;split at a
  .rename_i i j b f d;have z:=(X _ _ d).symm.trans c;cases z
  .cases a
 ca:=λX I k=>qu X I C k
end
end L2
namespace L2
open PySem PySem.Spec PyProof.Rows PySem.W PySem.Calls Builtin Builtin.ObjectAttr Builtin.Getset_descriptor
structure Cq(K:Frag)(D:Addr):Prop where
 is:(clsIn K D).isSome=true
 ty:typeIn K (.ref D)=some (.type "type")
 be:mroIn K D (.type "BaseException")=some true
def qS:isSubtype (.type "type") (.type "tuple")=pure false:=by rw[isSubtype_type];kernel_rfl
section
variable {prog:Program}{w:World}{A:Around}{E:Vq->Shared->Prop}{s:Shared}{K:Frag}{x C D:Addr}
def vP(X:K.In s.heap)(I:uo x C s.heap)(T:Cq K D)(d:mroIn K C (.ref D)=some true)(h:Q true s) :
  wpAny (model prog w) A (excMatches (.ref x) (.ref D)) Q E s:=by
 obtain⟨b,g,dr,t,B⟩:=s;have o:=I.type (M:=model prog w);have c:=looks_mroIn (M:=model prog w) X d;have L2:=looks_mroIn (M:=model prog w) X T.be;have L3:=looks_typeIn (M:=model prog w) X T.ty;have e:Looks (model prog w) b (isType (.ref D)) true:=by
  obtain⟨m,a⟩:=bK.mp T.is;unfold clsIn at a;split at a
  .rename_i u v f l j;intro p y z r k q;unfold isType loadHead;exact ao (wpAny_loadPart (k _ _ (X _ _ j)) (ak q))
  .cases a
 unfold excMatches;have i:Looks (model prog w) b (isInstance (.ref D) (.type "tuple")) false:=L3.andThen (Looks.of_pure qS);refine ao (i.at ?_);simp only[bZ,if_false];refine ao (ak ?_);have n:Looks (model prog w) b (isExcClass (.ref D)) true:=e.andThen L2;simp only[bY,b7];refine ao (ao (ao (n.at ?_)));simp only[Bool.not_true,bZ,if_false];refine ak (ak (ao (o.at (ao (ao (ao (c.at ?_)))))));simp only[if_true];exact ak (ak (ak h))
end
noncomputable abbrev Cx.tryB(X:Cx)(pn:List (Addr×Obj))(xe:Vq->Shared->Prop):Cx:={X with pn:=pn,xe:=xe}
abbrev Cx.exc(X:Cx)(pn:List (Addr×Obj))(ea:Addr):Cx:={X with A:=X.A.mark (some (.ref ea)),calm:=false,pn:=pn,xe:=λ_ _=>False}
section
variable {X:Cx}{dY pins' pn pn':List (Addr×Obj)}{σ:St}{H H1 H':Hp}{s s1 s':Shared}{xe:Vq->Shared->Prop}{ea t:Addr}{C:Vq}{vs:List Vq}{dd:Oq Addr}{B h:Heap}
def Cx.Ok.tryB(ok:X.Ok):(X.tryB pn xe).Ok:=⟨ok.mod,ok.kind,ok.glob,ok.blt,ok.above,ok.inj,ok.has,ok.cab,ok.hd,ok.frames,ok.stk,ok.exf,ok.bs,ok.bsz,ok.noex,ok.exfs,ok.funs,ok.frf,ok.tab⟩
def Cx.Ok.exc(ok:X.Ok):(X.exc pn ea).Ok:=⟨ok.mod,ok.kind,ok.glob,ok.blt,ok.above,ok.inj,ok.has,ok.cab,λz=>absurd (z) aG,ok.frames,ok.stk,ok.exf,ok.bs,ok.bsz,ok.noex,ok.exfs,ok.funs,ok.frf,ok.tab⟩
def eI.tryB(I:eI X dY σ H s):eI (X.tryB (X.pn++dY) xe) [] σ H s:=⟨I.ok.tryB,I.os,I.bare,I.base,I.loc,I.cell,I.free,I.freeC,λp a=>I.pin p (by simpa using a),I.hok,I.len⟩
def eI.tryW(I:eI (X.tryB pn xe) dY σ H s):eI (X.tryB pn xe') dY σ H s:=⟨Cx.Ok.tryB (X:=X.tryB pn xe) I.ok,I.os,I.bare,I.base,I.loc,I.cell,I.free,I.freeC,I.pin,I.hok,I.len⟩
def eI.untryB(ok:X.Ok)(I:eI (X.tryB (X.pn++dY) xe) pins' σ H s):eI X dY σ H s:=⟨ok,I.os,I.bare,I.base,I.loc,I.cell,I.free,I.freeC,λp a=>I.pin p (ax _ a),I.hok,I.len⟩
def SP.untryB(ok:X.Ok)(q:SP (X.tryB (X.pn++dY) xe) pins' D f s):SP X dY D f s:=by
 cases f with
 |next=>obtain⟨a,H',I,q⟩:=q;exact⟨a,H',I.untryB ok,q⟩
 |brk=>obtain⟨a,H',I,q⟩:=q;exact⟨a,H',I.untryB ok,q⟩
 |cont=>obtain⟨a,H',I,q⟩:=q;exact⟨a,H',I.untryB ok,q⟩
 |ret u=>obtain⟨v,a,H',I,r,q⟩:=q;exact⟨v,a,H',I.untryB ok,r,q⟩
def eI.exc(I:eI X dY σ H s)(a:∀p∈pn,s.heap.get? p.1=some p.2/\H p.1=none/\p.1≠X.env.locals/\p.1∉X.fs/\∀v,p.2.data≠.cell v):eI (X.exc pn ea) [] σ H s:=⟨I.ok.exc,I.os,I.bare,I.base,I.loc,I.cell,I.free,I.freeC,λp h=>a p (by simpa using h),I.hok,I.len⟩
def eI.unexc(ok:X.Ok)(I:eI (X.exc pn ea) pins' σ H s)(a:∀p∈X.pn++dY,p∈pn):eI X dY σ H s:=⟨ok,I.os,I.bare,I.base,I.loc,I.cell,I.free,I.freeC,λp h=>I.pin p (ax _ (a p h)),I.hok,I.len⟩
def vC(I:eI X dY σ H1 s1)(F:CU X.prog X.w X.stack H1 s1 ea t C vs dd B H' s')(k:B.StaysIn h)(r:s'.heap.UpToSlots h):eI X dY σ H' {s' with heap:=h}:=by
 have i:∀b,H' b≠none->∃o,s'.heap.get? b=some o/\h.get? b=some o:=λb a=>by
  cases q:H' b with
  |none=>exact absurd q a
  |some u=>obtain⟨o,e⟩:=(F.hok b u q).at_;exact⟨o,e,k b o (F.trk b o e a)⟩
 have d:∀b o,s1.heap.get? b=some o->H1 b=none->b∈lP X.stack->∃d,h.get? b=some {o with slots:=d}:=λb o e n a=>by obtain⟨d,x⟩:=F.un.slot b o e n a (by simp);obtain⟨_,j,g,p⟩:=I.stack.mem a;rw[e]at g;cases g;obtain⟨l,E⟩:=r b {o with slots:=d} x p;exact⟨l,E⟩
 refine I.call' (ch:=[]) F.os ⟨λb o e n a _=>k b o (F.old b o e n a),λb o e n a _=>d b o e n a,λb o e n _=>F.un.free b o e n (by simp),λb o e _=>?_,F.un.tups,F.un.frzs,F.un.tbls⟩ (λb u e=>?_) F.bare (λb a=>nomatch a)
 .by_cases y:H' b=none
  .by_cases a:b∈lP X.stack
   .obtain⟨D,f⟩:=d b o e (I.stkFree b a) a;exact⟨_,f⟩
   .obtain⟨j,f⟩:=F.ex b o e a;exact⟨j,k b j f⟩
  .obtain⟨j,_,f⟩:=i b y;exact⟨j,f⟩
 .have a:H' b≠none:=by rw[e];exact λz=>nomatch z
  refine (F.hok b u e).stay (λc v A q=>?_) (λ_ q=>q) λ_ _ q=>q;have m:H' c≠none:=by
   rcases A with z|z
   .rw[z];exact a
   .rw[z];exact λz=>nomatch z
  exact k c v (F.trk c v q m)
def mx{M:Model}{A:Around}{E:Vq->Shared->Prop}{i:Nat}{n:Str}{J:Pos}{Q:Unit->Shared->Prop}(I:eI X dY σ H s)(hN:X.N.Nodup)(S:X.N[i]? = some n)(hl:X.env.kindOf n=some .local)
  (h:∀s',eI X dY (σ.set i none) H s'->Q () s'):wpAny M A (do bindName X.env n .none;unbindBehindTheSuite X.env n J) Q E s:=by
 obtain⟨m,R,K⟩:=id I.loc;have r:(X.env.scope.kind==.class||(X.env.scope.kind==.module&&X.env.locals != X.env.globals))=false:=by rw[I.ok.kind];rfl
 have u:i<σ.length:=by rw[I.len];exact (aa.mp S).1
 refine wpAny_nameGoes_keeps hl R r λh' v F f=>?_;obtain⟨oL,_,_,Z,_⟩:=id R;have tracked:mW X.prog X.w H h':=λb ob e=>by
  refine (I.hok b ob e).stay (λc U x q=>(f.2 c ?_).trans q) (λ_ q=>q) λ_ _ q=>q;have a:=I.free;rintro rfl;rcases x with rfl|x
  .rw[a]at e;cases e
  .rw[a]at x;cases x
 refine h _ ⟨I.ok,I.os,I.bare,⟨λb o e n P l=>?_,λb o e n P l=>?_,I.base.free,λb o e l=>?_,I.base.tups,I.base.frzs,I.base.tbls⟩,⟨_,F,λj y v' g D Y=>?_⟩,λy c e=>?_,I.free,I.freeC,λp hp=>?_,tracked,by simpa using I.len⟩
 .exact (f.2 b (aL (aD (aK e) I.ok.above))).trans (I.base.keep b o e n P l)
 .obtain⟨sl,g⟩:=I.base.slot b o e n P l;exact⟨sl,(f.2 b (aL (aD (aK e) I.ok.above))).trans g⟩
 .obtain⟨o',g⟩:=I.base.there b o e l;exact⟨o',(f.2 b (aL (aD (aK e) I.ok.above))).trans g⟩
 .by_cases L:j=i
  .subst L;rw[List.getElem?_set_self u]at D;cases D
  .rw[aq (Ne.symm L)]at D;obtain⟨u',r',q⟩:=K j y v' g D Y;refine⟨u',r',?_⟩;rcases q with⟨k,e⟩|⟨k,c,e,z⟩
   .refine .inl ⟨k,?_⟩;have:y≠n:=λe=>L (qT hN g (e▸S));simp[this,e]
   .exact .inr ⟨k,c,e,z.sameBut f (I.cne y c e)⟩
 .obtain⟨U,z⟩:=I.cell y c e;exact⟨U,z.sameBut f (I.cne y c e)⟩
 .obtain⟨e,n,ne,nf,d⟩:=I.pin p hp;exact⟨(f.2 p.1 ne).trans e,n,ne,nf,d⟩
noncomputable def lB.gone(D:lB)(i:Nat):lB:={nx:=λσ H=>D.nx (σ.set i none) H,rt:=D.rt,bk:=λσ H=>D.bk (σ.set i none) H,ct:=λσ H=>D.ct (σ.set i none) H}
def Fh(K:Frag)(N:List Str)(e:Addr)(i:Nat)(b:XK->TS)(th:Addr->Addr->Option Addr->TS):TS:=λD σ H=>b (λc d H'=>∃a,c=.ref a/\mroIn K a (.ref e)=some true/\∀ea,H' ea=none->th ea a d (D.gone i) ((List.replicate N.length none).set i (some (.ref ea))) H') D σ H
abbrev Gn(K:Frag)(N:List Str)(Dh:Addr)(i:Nat)(tb:XK->TS)(th:Addr->Addr->TS):TS:=Fh K N Dh i tb λea C _=>th ea C
theorem ED{th:Addr->Addr->Option Addr->TS}
  (hN:X.N.Nodup) (hi:X.N[i]? = some n) (hl:X.env.kindOf n=some .local) (hg:Gl X x) (hm:X.mg x=some (.ref Dh)) (T:Cq X.K Dh)
  (Q:X.stack=X.env::X.outer) (hfr:X.env.frame=some X.env.locals)
  (hb:∀(EK:XK) (pn:List (Addr×Obj)) (xe:Vq->Shared->Prop),jx (pI X.prog X.w) (X.tryB pn xe) EK->nk (X.tryB pn xe) body (tb EK))
  (hs:∀(pn:List (Addr×Obj)) (ea:Addr) (oe:Obj) (J:Addr),(ea,oe)∈pn->oe.cls=.ref J->(∃ws,oe.data=.fields ws)->nk (X.exc pn ea) (Z::suite) (th ea J oe.dict))
  (hx:vR X.env.scope n:=by exact .inl rfl) (hfn:X.fn n=true\/X.env.scope.names.lookup n=some .local:=by exact .inr rfl) (hd:(x==("__debug__" : Str))=false:=by decide) :
  PS X (.Try body [.ExceptHandler (some (.Name x np)) (some n) (Z::suite) hpos] [] [] pos) (Fh X.K X.N Dh i tb th):=by
 intro dY s σ H D I h;let Y:XK:=λCv d H'=>∃J,Cv=.ref J/\mroIn X.K J (.ref Dh)=some true/\∀ea,H' ea=none->th ea J d (D.gone i) ((List.replicate X.N.length none).set i (some (.ref ea))) H';let XE:Vq->Shared->Prop:=λe s'=>∃pins' k H1 s1,eI (X.tryB (X.pn++dY) λ_ _=>False) pins' k H1 s1/\pI X.prog X.w X.stack H1 s1 Y e s';have hB:=hb Y (X.pn++dY) XE (λpins' k H1 s1 e s' I' q=>⟨pins',k,H1,s1,I'.tryW,q⟩);refine wpAny_Try_except (wpAny_mono (hB [] s σ H D I.tryB h) (λf s1 q=>?_) λe s' q=>?_)
 .have q':=SP.untryB I.ok q;cases f with
  |next=>exact wpAny_execs_nil q'
  |brk=>exact q'
  |cont=>exact q'
  |ret u=>exact q'
 .obtain⟨pins',k,H1,s1,I1,ea,t,Cv,vs,dd,B,H',rfl,F,J,rfl,hsub,hth⟩:=q;have E:=F.fly;have hst':=Q;rw[Q]at E;refine G6 (I.ok.frames.trans (by rw[Q])) hfr E F.dk λh₄ ⟨y1,y2,y3,y4⟩ hsm₄ dk4=>?_;refine qi (s:={s' with heap:=h₄}) y1 y2 y3 y4 dk4 λA b hsm₅' dk5=>?_;have I5:=vC I1 F b.1 (hsm₄.trans hsm₅');have I5e:eI (X.exc [] ea) [] k H' {s' with heap:=A}:=(I5.untryB I.ok).exc λp r=>nomatch r;obtain⟨ob,hob,U⟩:=b.there;refine wpAny_handleBy_cons (codeAny_handlers_test (mh I5e hg hm ?_ hd)) (by intro q;cases q);refine vP I5e.kIn ⟨ob,hob,U⟩ T hsub (codeAny_handlers_suite_as ?_);obtain⟨z1,z2,z3,z4⟩:=b;refine qi (s:={s' with heap:=A}) z1 z2 z3 z4.at dk5 λy hfl₆ hsm₆ dk6=>?_;have I6:=vC I1 F hfl₆.1 ((hsm₄.trans hsm₅').trans hsm₆);obtain⟨oe,ws,l,hoec,a,hoe0⟩:=hfl₆.first;obtain⟨ob6,hob6,rfl⟩:=dk6;obtain rfl:oe=ob6:=Option.some.inj (l.symm.trans hob6);have neL:ea≠X.env.locals:=λz=>by
   obtain⟨m,⟨o,es,ep,ho,hdo,_⟩,_⟩:=I6.loc;have g:y.get? ea=some o:=by rw[z];exact ho
   rw[l]at g;cases g;rw[hdo]at a;cases a
  have nfs:ea∉X.fs:=λz=>by obtain⟨_,o,ho,hnf⟩:=I6.funs.mem z;have g:=ho;rw[l]at g;cases g;exact hnf _ a
  have I7:eI (X.exc (X.pn++dY++[(ea,oe)]) ea) [] ((List.replicate X.N.length none)) H' {s' with heap:=y}:=by
   refine eI.weak (eI.exc (I6.untryB I.ok) λp r=>?_) (by rw[bM];exact I6.len.symm) (λj v e=>by rw[List.getElem?_replicate]at e;split at e<;>cases e);rcases ai.mp r with r|r
   .exact I6.pin p (ax _ r)
   .obtain rfl:p=(ea,oe):=by simpa using r
    exact⟨l,F.he,neL,nfs,λv z=>by rw[a]at z;cases z⟩
  refine lU (X:=X.exc (X.pn++dY++[(ea,oe)]) ea) (v:=.ref ea) I7 hN hi hx rfl (λs7 I8=>?_) hfn;refine wpAny_mono (hs _ ea oe J (bA _ (aj.mpr rfl)) hoec ⟨_,a⟩ [] s7 _ H' (D.gone i) I8 (hth ea F.he)) (λf s8 q=>?_) λ_ _ z=>z.elim;have sub:∀p∈X.pn++dY,p∈X.pn++dY++[(ea,oe)]:=λp r=>ax _ r;cases f with
  |next=>obtain⟨P,L,R,S⟩:=q;exact mx (R.unexc I.ok sub) hN hi hl λs9 c=>⟨_,L,c,S⟩
  |brk=>obtain⟨P,L,R,S⟩:=q;exact mx (R.unexc I.ok sub) hN hi hl λs9 c=>⟨_,L,c,S⟩
  |cont=>obtain⟨P,L,R,S⟩:=q;exact mx (R.unexc I.ok sub) hN hi hl λs9 c=>⟨_,L,c,S⟩
  |ret u=>obtain⟨v,P,L,R,r9,S⟩:=q;exact mx (R.unexc I.ok sub) hN hi hl λs9 c=>⟨v,_,L,c,r9,S⟩
def GJ
  (l:X.N.Nodup) (m:X.N[i]? = some n) (q:X.env.kindOf n=some .local) (o:Gl X x) (j:X.mg x=some (.ref Dh)) (T:Cq X.K Dh)
  (d:X.stack=X.env::X.outer) (e:X.env.frame=some X.env.locals)
  (v:∀(f:XK) (pn:List (Addr×Obj)) (xe:Vq->Shared->Prop),jx (pI X.prog X.w) (X.tryB pn xe) f->nk (X.tryB pn xe) body (tb f))
  (g:∀(pn:List (Addr×Obj)) (ea:Addr) (oe:Obj) (b:Addr),(ea,oe)∈pn->oe.cls=.ref b->nk (X.exc pn ea) (a::suite) (th ea b))
  (k:vR X.env.scope n:=by exact .inl rfl) (c:X.fn n=true\/X.env.scope.names.lookup n=some .local:=by exact .inr rfl) (u:(x==("__debug__" : Str))=false:=by decide) :
  PS X (.Try body [.ExceptHandler (some (.Name x np)) (some n) (a::suite) hpos] [] [] pos) (Gn X.K X.N Dh i tb th):=
 ED l m q o j T d e v (λpn ea oe b p r _=>g pn ea oe b p r) k c u
end
end L2
namespace L2
open PySem PySem.Spec PyProof.Rows PySem.W PySem.Calls
inductive A5(K:Frag)(H:Hp)(Ca:Addr):V->Bool->Prop where
 |own {D:Addr} {b:Bool} (e:kitOne K (.ref Ca) (.ref D)=some b):A5 K H Ca (.ref D) b
 |ty {T:String} {b:Bool} (e:kitOne K (.ref Ca) (.type T)=some b):A5 K H Ca (.ty T) b
 |tup {p:Addr} {ds:List Addr} {b:Bool} (h:H p=some (.tup (ds.map V.ref))) (e:kitAny K (.ref Ca) (ds.map Value.ref)=some b):A5 K H Ca (.ref p) b
theorem sv:∀{a:List Addr} {us:List Vq},fu (a.map V.ref) us->us=a.map Value.ref
 |[],_,.nil=>rfl
 |d::a,u::us,.cons r t=>by have e:=r;rw[e,sv t];rfl
def hZ{K:Frag}(j:(ea,oe)∈X.pn)(t:oe.cls=.ref Ca)(i:X.K=K:=by rfl) :
  iN X (.builtin "isinstance") (λxs H Q=>∃c b,xs=[.ref ea,c]/\rK K Ca/\A5 K H Ca c b/\Q (.bl b) H):=by
 subst i;intro y s x H xs k Q I r h;obtain⟨c,b,rfl,C,m,q⟩:=h;have d:uo ea Ca s.heap:=⟨oe,(I.pin _ (ax _ j)).1,t⟩;cases r with
 |cons r1 r2=>
  cases r2 with
  |cons r3 r4=>
   cases r4;cases (r1);cases m with
   |own e=>cases (r3);exact kia_one (qC C) I.kIn d e (λz=>nomatch z) λa=>⟨.bl b,H,I.tok a,rfl,q⟩
   |ty e=>cases (r3);exact kia_one (qC C) I.kIn d e (λz=>nomatch z) λa=>⟨.bl b,H,I.tok a,rfl,q⟩
   |@tup p ds b hp e=>cases (r3);obtain⟨D,k,v,o,g,f,n,w,_⟩:=(I.hok p _ hp);obtain⟨A,B,u,l⟩:=o;subst f;subst w;rw[sv v]at g;exact kia_tup (qC C) I.kIn d g e (λz=>nomatch z) λa=>⟨.bl b,H,I.tok a,rfl,q⟩
structure j5(P:Program)(w:World)(K:W.Frag)(mg:Str->Option Value)(base:Heap)(x:Str)(k:Nat)(sp:Sp):Prop where
 ex:∃f fd ps,jS P w K mg base (pI P w) k f fd ps sp/\mg x=some (.ref f)/\W.keepIn K (.ref f)=true/\kM K fd ps []
def j5.mono{K:W.Frag}(h:j5 P w K mg base x j sp)(d:j<=k):j5 P w K mg base x k sp:=
 let ⟨f,fd,ps,F,a,b,c⟩:=h.ex
 ⟨f,fd,ps,F.mono d,a,b,c⟩
def Aa{K:W.Frag}{st:Stmt}(D:eM K mg x st)(S:f6 N ps (eh st))
  (n:∀(kV d j:Vq) (h:Oq Addr) (a i:Vq) (us:List Vq),us.length=ps.length->bindArgs (W.fnOf x x (gD st) (eZ st) (eh st) .none kV d j h a i) ⟨us,[]⟩=pure (ps.zip us))
  (g:∀vs H Q E,sp vs H Q E->vs.length=ps.length)
  (b:∀f a A c s H vs Q E,fN k (A.deeper (envOfC x (eh st) s.heap.objs.size f a))->sp vs H Q E->
   ∃t,nk (gN (pI P w) P w K mg base N x (eh st) f a A c s H E) (eZ st) t/\t {nx:=λ_ r=>Q .non r,rt:=Q} (h8 N vs) H):j5 P w K mg base x (k+1) sp:=by
 obtain⟨f,u,F,m⟩:=D.ex;have l:=F.binds n;have o:=F.kp;obtain⟨v,y,kV,d,j,h,a,i,p,rfl,q,e⟩:=F.ex;exact⟨f,_,ps,Fp q e S g (b f a),m,o,l⟩
section
variable {X:Cx}{x:Str}{k:Nat}{sp:Sp}{e:Expr}{es:List Expr}{t:TA}{p pos:Pos}{E:XK}
def zB:jx (pI X.prog X.w) X E0:=λ_ _ _ _ _ _ _ q=>by obtain⟨b,t,C,a,d,B,c,_,_,z⟩:=q;exact z.elim
def uZ(h:j5 X.prog X.w X.K X.mg X.base x k sp)(m:fN k X.A)(j:jx (pI X.prog X.w) X E)(l:PA X (e::es) t)(n:Gl X x:=by rfl)
  (d:(x==("__debug__" : Str))=false:=by decide) (i:starEach (e::es) X.env=(false,eval e X.env)::starEach es X.env:=by rfl) (g:(backTo pos (starEach es X.env)).any (·.1)=false:=by rfl) :
  PE X (.Call (.Name x p) (e::es) [] pos) (oZ sp [] E t):=by
 obtain⟨f,q,o,F,a,b,c⟩:=h.ex;exact xA F m n a b c .nil j l d i g
end
def lu{K:Frag}(e:mroIn K C b=some r):(clsIn K C).isSome=true:=by
 unfold mroIn at e;cases h:clsIn K C with
 |none=>rw[h]at e;cases e
 |some cd=>rfl
def vx K a:kitOne K (.ref a) (.ref a)=some true:=by unfold kitOne;rw[aP (beq_self_eq_true _)]
def Gy{K:Frag}{a:Addr}{T:String}{r:Bool}(b:kitMeta T=true)(h:mroIn K a (.type T)=some r):kitOne K (.ref a) (.type T)=some r:=by unfold kitOne;rw[aQ (λq=>by cases beq_iff_eq.mp q)];show (if kitMeta T=true then subIn K (.ref a) (.type T) else none)=some r;rw[aP b];exact h
def yg{K:Frag}(b:a≠c)(e:typeIn K (.ref c)=some (.type "type"))(d:(clsIn K c).isSome=true)(h:mroIn K a (.ref c)=some r):kitOne K (.ref a) (.ref c)=some r:=by unfold kitOne;rw[aQ (λq=>b (by cases beq_iff_eq.mp q;rfl))];show (if ((clsIn K c).isSome&&typeIn K (.ref c)==some (.type "type"))=true then subIn K (.ref a) (.ref c) else none)=some r;rw[aP (by rw[d,e];decide)];exact h
end L2
namespace L2
open PySem PySem.Spec PyProof.Rows PySem.W
mutual
inductive DV(K:Frag)(H:Hp):V->PyData->Prop
 |non:DV K H .non .none
 |bl (b:Bool):DV K H (.bl b) (.bool b)
 |int (i:Int):DV K H (.int i) (.int i)
 |str (x:Str):DV K H (.str x) (.str x)
 |lst {a:Addr} {xs:List V} {ds:List PyData} (h:jR K H a xs) (hs:sM K H xs ds):DV K H (.ref a) (.list ds)
 |tup {a:Addr} {xs:List V} {ds:List PyData} (h:j9 K H a xs) (hs:sM K H xs ds):DV K H (.ref a) (.tuple ds)
inductive sM(K:Frag)(H:Hp):List V->List PyData->Prop
 |nil:sM K H [] []
 |cons {v:V} {d:PyData} {vs:List V} {ds:List PyData} (h:DV K H v d) (hs:sM K H vs ds):sM K H (v::vs) (d::ds)
end
section
variable {X:Cx}{dY:List (Addr×Obj)}{σ:St}{H:Hp}{s:Shared}
mutual
theorem DV.reads(I:eI X dY σ H s):∀{v} {d} {u},DV X.K H v d->gd v u->∃as,Reads s.heap u d as
 |_,_,_,.non,r=>by cases r;exact⟨_,.none⟩
 |_,_,_,.bl b,r=>by cases r;exact⟨_,.bool b⟩
 |_,_,_,.int i,r=>by obtain⟨t,rfl⟩:=r;exact⟨_,.int i t⟩
 |_,_,_,.str x,r=>by obtain⟨t,rfl⟩:=r;exact⟨_,.str x t⟩
 |_,_,_,.lst h hs,r=>by cases r;obtain⟨c,g,⟨o,n,e,j,k,a⟩,_⟩:=I.list h;obtain⟨as,f⟩:=sM.reads I hs g;exact⟨_,.list e j a (by simpa using f)⟩
 |_,_,_,.tup h hs,r=>by cases r;obtain⟨c,g,⟨o,e,j,n,a⟩,_⟩:=I.tuple h;obtain⟨as,f⟩:=sM.reads I hs g;exact⟨_,.tuple e j a (by simpa using f)⟩
theorem sM.reads(I:eI X dY σ H s):∀{vs} {ds} {us},sM X.K H vs ds->fu vs us->∃as,ReadsAll s.heap us ds as
 |_,_,_,.nil,r=>by cases r;exact⟨_,.nil⟩
 |_,_,_,.cons h hs,r=>by
  cases r with
  |cons r1 r2=>obtain⟨as,b⟩:=DV.reads I h r1;obtain⟨bs,a⟩:=sM.reads I hs r2;exact⟨_,.cons b a⟩
end
def wM(K:Frag)(neg:Bool):R2:=λx y H Q=>∃a b,DV K H x a/\DV K H y b/\(a.canLay0=true/\b.canLay0=true/\a.depth<=100)/\Q (.bl (if neg then !PyData.eqv a b else PyData.eqv a b)) H
def BO(l:X.A.units+200<cLine):mw X (compareOp .Eq) (wM X.K false):=by intro m s j H x y v u Q I a c h;obtain⟨k,o,b,f,⟨g,e,n⟩,q⟩:=h;obtain⟨as,i⟩:=b.reads I a;obtain⟨bs,d⟩:=f.reads I c;exact SeqAt.eqOverData _ _ _ _ _ _ _ _ _ _ _ _ i d g e (by omega) ⟨.bl _,H,I,rfl,q⟩
def B5(l:X.A.units+200<cLine):mw X (compareOp .NotEq) (wM X.K true):=by intro m s j H x y v u Q I a c h;obtain⟨k,o,b,f,⟨g,e,n⟩,q⟩:=h;obtain⟨as,i⟩:=b.reads I a;obtain⟨bs,d⟩:=f.reads I c;exact SeqAt.neOverData _ _ _ _ _ _ _ _ _ _ _ _ i d g e (by omega) ⟨.bl _,H,I,rfl,q⟩
def JM(a:fN k A):A.units+200<cLine:=by have:=a.un;omega
end
end L2
namespace L2
open PySem PySem.Spec PyProof.Rows
theorem ve:∀{bs:List Bool} {us:List Vq},fu (bs.map V.bl) us->us=bs.map Value.bool
 |[],_,.nil=>rfl
 |b::bs,u::us,.cons r t=>by have e:=r;rw[e,ve t];rfl
def zr{bs:List Bool}:(List.range bs.length).all (λi=>bs.getD i false)=bs.all id:=by
 induction bs with
 |nil=>rfl
 |cons b bs ih=>rw[ay,cf,cg,cj,cg,<-ih];rfl
def sP{bs:List Bool}:(List.range bs.length).any (λi=>bs.getD i false)=bs.any id:=by
 induction bs with
 |nil=>rfl
 |cons b bs ih=>rw[ay,cf,List.any_cons,List.any_map,List.any_cons,<-ih];rfl
section
variable {X:Cx}
def yL{bs:List Bool}:TruthOf prog w A (λi v=>(bs.map Value.bool).toArray[i]? = some v) (λi=>bs.getD i false):=λi v s Q E d a=>by
 have e:(bs.map Value.bool)[i]? = some v:=by simpa using d
 rw[av]at e;cases c:bs[i]? with
 |none=>rw[c]at e;cases e
 |some b=>
  rw[c]at e;cases e;have:bs.getD i false=b:=by rw[af,c];rfl
  dsimp only at a;rw[this]at a;exact ak a
def Ak(m:X.calm=true):iN X (.builtin "all") (λxs H Q=>∃(p:Addr) (bs:List Bool),xs=[.ref p]/\jR X.K H p (bs.map V.bl)/\Q (.bl (bs.all id)) H):=by
 intro t s n H xs v Q I r h;obtain⟨p,bs,rfl,g,q⟩:=h;obtain⟨u,rfl,d⟩:=mK r;cases d;obtain⟨k,l,a,w⟩:=I.list g;have e:=ve l;subst e;have c:p<s.heap.objs.size:=by obtain⟨_,e,_⟩:=a.isList;exact aK e
 refine call_all_walk (wpAny_pyIter_list a.isList ⟨s.heap.objs.size,_,_,_,_,_,λi=>bs.getD i false,rfl,Walks.list (A:=X.A.in1) (I.ok.hd m) _ p (aL c) _,⟨⟨_,ar _ rfl,rfl,rfl⟩,a.isList.push _⟩,yL,λx y j=>?_⟩);refine⟨.bl _,H,I.kept (λb o e=>j b o ?_ (ae _ e)),rfl,?_⟩
 .intro f;have:=aK e;have z:b=s.heap.objs.size:=by simpa using f
  rw[z]at this;exact aZ _ this
 .rw[<-zr]at q;simpa using q
def wN:bootBuiltins "all" = some (.builtin "all"):=by decide +kernel
def B8:bootBuiltins "any" = some (.builtin "any"):=by decide +kernel
end
end L2
namespace L2
open PySem PySem.Spec PyProof.Rows
def gG(b:Bool)(h:Heap)(l:Addr)(xs:Array Vq):Prop:=if b=true then h.IsTuple l xs else h.IsList l xs
def jt(b:Bool)(h:Heap)(it l:Addr)(k:Nat):Prop:=if b=true then h.IsTupleIter it l k else h.IsListIter it l k
noncomputable def rg(b:Bool):String:=if b=true then "tuple_iterator" else "list_iterator"
def jt.look(x:jt b h it l k):∃o,h.get? it=some o/\o.cls=.type (rg b)/\o.data=.fields #[.ref l,.int k 0]:=by
 cases b with
 |true=>exact (x)
 |false=>exact (x)
def jt.of{k:Nat}(x:∃o,h.get? it=some o/\o.cls=.type (rg b)/\o.data=.fields #[.ref l,.int k 0]):jt b h it l k:=by
 cases b with
 |true=>exact x
 |false=>exact x
def jt.to(x:jt b h it l k)(e:∀o,h.get? it=some o->h'.get? it=some o):jt b h' it l k:=by obtain⟨o,a,q⟩:=x.look;exact .of ⟨o,e o a,q⟩
def gG.look(x:gG b h l xs):∃o n,h.get? l=some o/\o.data=.seq xs n:=by
 cases b with
 |true=>obtain⟨o,a,_,n,c⟩:=(x);exact⟨o,n,a,c⟩
 |false=>obtain⟨o,a,_,n,c⟩:=(x);exact⟨o,n,a,c⟩
def gG.to(x:gG b h l xs)(e:∀o,h.get? l=some o->h'.get? l=some o):gG b h' l xs:=by
 cases b with
 |true=>obtain⟨o,a,q⟩:=(x);exact⟨o,e o a,q⟩
 |false=>obtain⟨o,a,q⟩:=(x);exact⟨o,e o a,q⟩
section
variable {prog:Program}{w:World}{A:Around}{E:Vq->Shared->Prop}{s:Shared}
theorem EJ(f:s.heap.IsTupleIter it l k)(p:s.heap.IsTuple l xs)
  (m:∀x a,xs[k]? = some x->a.IsTupleIter it l (k+1)->Heap.SameBut it s.heap a->Q x {s with heap:=a})
  (g:xs[k]? = none->A.handled=none/\∀a e,Heap.ExtBut it s.heap a->(∃o,a.get? e=some o/\o.cls=.type "StopIteration")->E (.ref e) {s with heap:=a}) :
  wpAny (model prog w) A (Builtin.SmallTypes.nextOf (.ref it)) Q E s:=by
 obtain⟨t,c,j,b⟩:=id f;obtain⟨r,i,_,n,q⟩:=p;unfold Builtin.SmallTypes.nextOf;refine ao (wpAny_callSpecial?_slot f.typeIs F.slot_tuple_iterator_next (wpAny_call_entry F.slot_tuple_iterator_next f.typeIs F.entry_tuple_iterator_next ?_ (F.args_tuple_iterator_next_1 _)));show wpAny _ _ (field (.ref it) 0 >>= _) _ _ s;refine ao (wpAny_field c b rfl ?_);have ne:(Value.ref l==Value.none)=false:=rfl;simp only[ne,bZ,if_false];refine ao (wpAny_field c b rfl (ao (wpAny_seqItems i q ?_)));cases d:xs[k]? with
 |some x=>simp only[bN,d];refine ao (wpAny_setField c b (by simp) (ak ⟨x,rfl,ak (m x _ d ?_ (Heap.SameBut.update ..))⟩));refine⟨_,Heap.get?_update_self _ c (Obj.isFreed_of_fields (Obj.data_mapFields b _)),(Obj.cls_mapFields ..).trans j,?_⟩;rw[Obj.data_mapFields b];simp[rawInt]
 |none=>obtain⟨h,g⟩:=g d;simp only[bN,d];refine ao (wpAny_rule (ao (wpAny_setField c b (by simp) ?_)));show wpAny _ _ (newExc (.type "StopIteration") [] >>= _) _ _ _;simp only[newExc,newTuple];refine ao (ao (wpAny_newObj_type (ao (wpAny_of_eq (by first|rfl|(simp only[firstArgMember];rfl)) (wpAny_newObj_type ?_ (by size_fits)))) (by size_fits)));simp only[raiseNew];refine ao (wpAny_handled ?_);rw[show A.in1.handled=none from h];refine ao (ak (wpAny_throw ?_));exact g _ _ (((Heap.SameBut.update ..).extBut.push _).push _) ⟨_,ar _ rfl,rfl⟩
theorem qY(j:jt b s.heap it l k)(m:gG b s.heap l xs)
  (i:∀x c,xs[k]? = some x->jt b c it l (k+1)->Heap.SameBut it s.heap c->Q x {s with heap:=c})
  (g:xs[k]? = none->A.handled=none/\∀c e,Heap.ExtBut it s.heap c->(∃o,c.get? e=some o/\o.cls=.type "StopIteration")->E (.ref e) {s with heap:=c}) :
  wpAny (model prog w) A (Builtin.SmallTypes.nextOf (.ref it)) Q E s:=by
 cases b with
 |true=>exact EJ j m i g
 |false=>
  have d:=j;have f:=m;cases h:xs[k]? with
  |some x=>exact wpAny_nextOf_list_item d f h λc a b=>i x c h a b
  |none=>obtain⟨n,g⟩:=g h;exact wpAny_nextOf_list_end n d f h g
def AG{z TI TO F I X N:Addr}{Q:Vq->Shared->Prop}(D:ZipApart z TI TO F I X N)
  (L:IsZip s.heap z TI TO .none) (hTI:IsPair s.heap TI (.ref F) (.ref I)) (hTO:IsPair s.heap TO a b)
  (h1:jt b1 s.heap F X k) (h2:jt b2 s.heap I N k) (Z:gG b1 s.heap X xs) (hl2:gG b2 s.heap N ys)
  (yes:∀x y g,xs[k]? = some x->ys[k]? = some y->IsZip g z TI TO (rawInt s.heap.objs.size)->IsPair g TO x y->jt b1 g F X (k+1)->jt b2 g I N (k+1)->IsPair g s.heap.objs.size x y->g.objs.size=s.heap.objs.size+1->
   (∀c o,c≠z->c≠TO->c≠F->c≠I->s.heap.get? c=some o->g.get? c=some o)->Q (.ref s.heap.objs.size) {s with heap:=g})
  (U:xs[k]? = none\/ys[k]? = none->A.handled=none/\∀g e,(∀c o,c≠z->c≠TO->c≠F->c≠I->s.heap.get? c=some o->g.get? c=some o)->(∃o,g.get? e=some o/\o.cls=.type "StopIteration")->E (.ref e) {s with heap:=g}) :
  wpAny (model prog w) A (Builtin.«zip.__next__» ⟨[.ref z],[]⟩) (λY s'=>∃v,Y=.done (.ret v)/\Q v s') E s:=by
 have r:∀{h:Heap} {e:Addr} {H:Obj} {f:Vq},IsZip h z TI TO f->h.get? e=some H->H.cls=.type "StopIteration" ->e≠z:=λ{h e H f} q ge ce u=>by subst u;rw[q]at ge;cases ge;simp at ce
 show wpAny _ _ (field (.ref z) 2 >>= λ_=>_) _ _ _;refine ao (wpAny_field L rfl rfl ?_);refine ao (wpAny_field L rfl rfl (ao (wpAny_seqItems hTI rfl ?_)));unfold Builtin.SmallTypes.ownedTupleIsFree;refine ao (ao (wpAny_field L rfl rfl (ak ?_)));simp only[if_true];refine ao (wpAny_rule (ao (wpAny_field L rfl rfl (ao (wpAny_setField_rec L (by simp) λg1 y1 J=>?_)))));have z1:=y1;simp only[List.zipIdx_cons,List.zipIdx_nil,bY,b7];refine ao (ao (ao (wpAny_onRaise ?_)));refine ao (qY (h1.to λo e=>J.extBut _ _ D.i1z e) (Z.to λo e=>J.extBut _ _ D.l1z e) (λx g2 P t2 t=>ak ?_) (λP=>⟨(U (.inl P)).1,λg2 e t ⟨H,ge,ce⟩=>?_⟩))
 .have p2:=t.extBut _ _ D.TOi1 (J.extBut _ _ D.TOz hTO);refine ao (wpAny_seqItems p2 rfl (ao (wpAny_updateSeq_pair p2 λg3 q3 B=>?_)));have p3:=q3;refine ao (wpAny_letGo (ak (ao (ao (wpAny_onRaise ?_)))));have i:∀c o,c≠z->c≠F->c≠TO->s.heap.get? c=some o->g3.get? c=some o:=λc o d m l e=>B.extBut _ _ l (t.extBut _ _ m (J.extBut _ _ d e));refine ao (qY (h2.to λo e=>i _ o D.i2z D.i12.symm D.TOi2.symm e) (hl2.to λo e=>i _ o D.l2z D.l2i1 D.l2TO e) (λy g4 S t4 p=>ak ?_) (λS=>⟨(U (.inr S)).1,λg4 e p ⟨H,ge,ce⟩=>?_⟩))
  .have p4:=p.extBut _ _ D.TOi2 p3;refine ao (wpAny_seqItems p4 rfl (ao (wpAny_updateSeq_pair p4 λn q5 C=>?_)));have p5:IsPair n TO x y:=q5;refine ao (wpAny_letGo (ak (ak (ao (wpAny_seqItems p5 rfl (ao (wpAny_newTuple ?_)))))));have sz:n.objs.size=s.heap.objs.size:=by rw[C.1,p.1,B.1,t.1,J.1]
   have z5:=C.extBut _ _ D.TOz.symm (p.extBut _ _ D.i2z.symm (B.extBut _ _ D.TOz.symm (t.extBut _ _ D.i1z.symm z1)));have to5:∀c o,c≠z->c≠TO->c≠F->c≠I->s.heap.get? c=some o->n.get? c=some o:=λc o d m l K e=>C.extBut _ _ m (p.extBut _ _ K (i c o d l m e));unfold Builtin.SmallTypes.ownedTupleHandOut;refine ao (ao (wpAny_setField_rec (ae _ z5) (by simp) λg7 y7 k7=>?_));have z7:=y7;refine wpAny_setField_rec z7 (by simp) λR y8 k8=>?_;have z8:=y8;have up:∀c o,c≠z->(n.push {cls:=.type "tuple",data:=.seq #[x,y]}).get? c=some o->R.get? c=some o:=λc o d e=>k8.extBut _ _ d (k7.extBut _ _ d e);have j:∀c o,c≠z->n.get? c=some o->R.get? c=some o:=λc o d e=>up c o d (ae _ e);have p8:=up _ _ (bx (aK z5)) (ar _ rfl);have s8:R.objs.size=n.objs.size+1:=by rw[k8.1,k7.1,Heap.size_push]
   rw[sz]at z8 p8 s8;refine ak ⟨_,rfl,?_⟩;rw[sz];have e1:=t2.to λo e=>j _ o D.i1z (C.extBut _ _ D.TOi1.symm (p.extBut _ _ D.i12 (B.extBut _ _ D.TOi1.symm e)));have e2:=t4.to λo e=>j _ o D.i2z (C.extBut _ _ D.TOi2.symm e);exact yes x y R P S z8 (j _ _ D.TOz p5) e1 e2 p8 s8 λc o d m l K e=>j c o d (to5 c o d m l K e)
  .have z4:=p _ _ D.i2z.symm (B.extBut _ _ D.TOz.symm (t.extBut _ _ D.i1z.symm z1));refine wpAny_setField_rec z4 (by simp) λn _ C=>(U (.inr S)).2 n e (λc o d m l K q=>C.extBut _ _ d (p _ _ K (i c o d l m q))) ⟨H,C.extBut _ _ (r z4 ge ce) ge,ce⟩
 .have z2:=t _ _ D.i1z.symm z1;refine wpAny_setField_rec z2 (by simp) λg3 _ B=>(U (.inl P)).2 g3 e (λc o d m l K q=>B.extBut _ _ d (t _ _ l (J.extBut _ _ d q))) ⟨H,B.extBut _ _ (r z2 ge ce) ge,ce⟩
def uT{z TI TO g f i h:Addr}(D:ZipApart z TI TO g f i h)
  (t:IsZip s.heap z TI TO .none) (l:IsPair s.heap TI (.ref g) (.ref f)) (m:IsPair s.heap TO a b)
  (J:jt b1 s.heap g i k) (P:jt b2 s.heap f h k) (n:gG b1 s.heap i xs) (p:gG b2 s.heap h ys)
  (j:∀x y d,xs[k]? = some x->ys[k]? = some y->IsZip d z TI TO (rawInt s.heap.objs.size)->IsPair d TO x y->jt b1 d g i (k+1)->jt b2 d f h (k+1)->IsPair d s.heap.objs.size x y->d.objs.size=s.heap.objs.size+1->
   (∀c o,c≠z->c≠TO->c≠g->c≠f->s.heap.get? c=some o->d.get? c=some o)->Q (some (.ref s.heap.objs.size)) {s with heap:=d})
  (u:xs[k]? = none\/ys[k]? = none->A.handled=none/\∀d,(∀c o,c≠z->c≠TO->c≠g->c≠f->s.heap.get? c=some o->d.get? c=some o)->Q none {s with heap:=d}) :
  wpAny (model prog w) A (pyNext (.ref z)) Q E s:=by
 have r:s.TypeIs (.ref z) "zip" :=⟨_,t,rfl⟩;unfold pyNext;refine ao (wpAny_attempt (wpAny_callSpecial?_slot r F.slot_zip_next (wpAny_call_entry F.slot_zip_next r F.entry_zip_next
  (AG D t l m J P n p (λx y d K v B L I N C H R=>ak (j x y d K v B L I N C H R)) λq=>⟨(u q).1,λd e hk ⟨o,ho,hc⟩=>?_⟩) (F.args_zip_next_1 _))))
 exact ao (wpAny_isInstance ⟨o,ho,hc⟩ isSubtype_stop (ak ((u q).2 d hk)))
theorem k9(a:gG b s.heap l xs)
  (h:Q (.ref s.heap.objs.size) {s with heap:=s.heap.push {cls:=.type (rg b),data:=.fields #[.ref l,.int 0 0]}}):wpAny (model prog w) A (pyIter (.ref l)) Q E s:=by
 cases b with
 |true=>exact wpAny_pyIter_tuple (a) h
 |false=>exact wpAny_pyIter_list (a) h
end
noncomputable abbrev zo(b:Bool)(l:Addr):Obj:={cls:=.type (rg b),data:=.fields #[.ref l,.int 0 0]}
abbrev zt(x y:Vq):Obj:={cls:=.type "tuple",data:=.seq #[x,y]}
abbrev zz(p q:Addr):Obj:={cls:=.type "zip",data:=.fields #[.none,.bool false,.bool false,.ref p,.ref q]}
noncomputable abbrev uJ(b1 b2:Bool)(h:Heap)(l1 l2:Addr):Heap:=
 ((((h.push (zo b1 l1)).push (zo b2 l2)).push (zt (.ref h.objs.size) (.ref (h.push (zo b1 l1)).objs.size))).push (zt .none .none)).push
  (zz ((h.push (zo b1 l1)).push (zo b2 l2)).objs.size (((h.push (zo b1 l1)).push (zo b2 l2)).push (zt (.ref h.objs.size) (.ref (h.push (zo b1 l1)).objs.size))).objs.size)
section
variable {prog:Program}{w:World}{A:Around}{E:Vq->Shared->Prop}{s:Shared}
def yV b1 b2 l1 l2 xs ys:Meets (Builtin.«zip.__new__» ⟨[.type "zip",.ref l1,.ref l2],[]⟩) (λ_ R s=>gG b1 s.heap l1 xs/\gG b2 s.heap l2 ys/\
  R (.ok (.ret (.ref ((((s.heap.push (zo b1 l1)).push (zo b2 l2)).push (zt (.ref s.heap.objs.size) (.ref (s.heap.push (zo b1 l1)).objs.size))).push (zt .none .none)).objs.size))) {s with heap:=uJ b1 b2 s.heap l1 l2}):=by
 refine .of_wp λprog w A R s h=>?_;obtain⟨j,g,d,k,f⟩:=s;obtain⟨b,a,i⟩:=h;have sz:=sub_zip;have c:=b;have l:gG b2 (Shared.heap ⟨j.push (zo b1 l1),g,d,k,f⟩) l2 ys:=a.to λo e=>ae _ e;wp_walk using k9 c,k9 l;exact⟨_,rfl,i⟩
def Ah(l:gG b1 s.heap l1 xs)(m:gG b2 s.heap l2 ys)
  (h:∀b,IsZip b (s.heap.objs.size+4) (s.heap.objs.size+2) (s.heap.objs.size+3) .none->IsPair b (s.heap.objs.size+2) (.ref s.heap.objs.size) (.ref (s.heap.objs.size+1))->IsPair b (s.heap.objs.size+3) .none .none->
   jt b1 b s.heap.objs.size l1 0->jt b2 b (s.heap.objs.size+1) l2 0->b.objs.size=s.heap.objs.size+5->(∀c o,s.heap.get? c=some o->b.get? c=some o)->Q (.ref (s.heap.objs.size+4)) {s with heap:=b}) :
  wpAny (model prog w) A (call (.type "zip") [.ref l1,.ref l2]) Q E s:=by
 refine callType_new F.called_zip (by decide) (F.typeCall_zip_2 _ _) (F.newCall_zip_2 _ _) (λi=>F.args_object_init_3 i _ _) F.entry_zip_new (yV b1 b2 l1 l2 xs ys) ⟨l,m,?_⟩;generalize g:s.heap.objs.size=n at *;have d:(s.heap.push (zo b1 l1)).objs.size=n+1:=by rw[Heap.size_push,g]
 have k:((s.heap.push (zo b1 l1)).push (zo b2 l2)).objs.size=n+2:=by rw[Heap.size_push,d]
 generalize a:(s.heap.push (zo b1 l1)).push (zo b2 l2)=g2 at *;have v:∀c o,s.heap.get? c=some o->g2.get? c=some o:=λc o e=>by rw[<-a];exact ae _ (ae _ e)
 have t:g2.get? n=some (zo b1 l1):=by rw[<-a,<-g];exact ae _ (ar _ rfl)
 have r:g2.get? (n+1)=some (zo b2 l2):=by rw[<-a,<-d];exact ar _ rfl
 have j:(g2.push (zt (.ref n) (.ref (n+1)))).objs.size=n+3:=by rw[Heap.size_push,k]
 have f:((g2.push (zt (.ref n) (.ref (n+1)))).push (zt .none .none)).objs.size=n+4:=by rw[Heap.size_push,j]
 have q:uJ b1 b2 s.heap l1 l2=((g2.push (zt (.ref n) (.ref (n+1)))).push (zt .none .none)).push (zz (n+2) (n+3)):=by unfold uJ;rw[g,d,a,k,j]
 rw[q,d,f];have x:(g2.push (zt (.ref n) (.ref (n+1)))).get? (n+2)=some (zt (.ref n) (.ref (n+1))):=by rw[<-k];exact ar _ rfl
 have u:((g2.push (zt (.ref n) (.ref (n+1)))).push (zt .none .none)).get? (n+3)=some (zt .none .none):=by rw[<-j];exact ar _ rfl
 have p:(((g2.push (zt (.ref n) (.ref (n+1)))).push (zt .none .none)).push (zz (n+2) (n+3))).get? (n+4)=some (zz (n+2) (n+3)):=by rw[<-f];exact ar _ rfl
 have up:∀c o,g2.get? c=some o->(((g2.push (zt (.ref n) (.ref (n+1)))).push (zt .none .none)).push (zz (n+2) (n+3))).get? c=some o:=λc o e=>ae _ (ae _ (ae _ e));exact⟨⟨_,p,rfl⟩,h _ p (ae _ (ae _ x)) (ae _ u) (.of ⟨_,up _ _ t,rfl,rfl⟩) (.of ⟨_,up _ _ r,rfl,rfl⟩) (by rw[Heap.size_push,f]) λc o e=>up c o (v c o e)⟩
end
end L2
namespace L2
open PySem PySem.Spec PyProof.Rows
def eI.turnedL{ch:List Addr}(I:eI X dY σ H s)(k:∀b o,b∉ch->s.heap.get? b=some o->h'.get? b=some o)(f:∀b∈ch,pR X dY H b) :
  eI X dY σ H {s with heap:=h',toks:=t'}:=by
 have d:∀b u,H b=some u->b∉ch:=λb u e z=>by rw[(f b z).1]at e;cases e
 refine I.step (λb l=>let ⟨_,f1,_,f3,f4,f5⟩:=f b l;⟨f3,f1,f4,f5⟩) (λb o _ _ a e _=>k b o a e) (λb o _ _ a e _=>⟨o.slots,k b o a e⟩) (λ_ _ _ _ n=>n)
  (λb o a e=>⟨o,k b o a e⟩) (λ_ _ e=>e) (λ_ _ _ e=>e) (λb _ p e=>⟨#[],by rw[e];simp⟩) (λm h=>?_) (λb u e=>?_) I.bare
 .obtain⟨o,g,j,i,r⟩:=h;exact⟨o,g,j,k _ o (λz=>(f _ z).2.1 rfl) i,r⟩
 .refine (I.hok b u e).stay (λc v a q=>k c v ?_ q) (λ_ q=>q) λ_ _ q=>q;rcases a with z|z
  .rw[z];exact d b u e
  .exact d c _ z
def rm(K:W.Frag)(H:Hp)(b:Bool)(a:Addr)(xs:List V):Prop:=if b=true then j9 K H a xs else jR K H a xs
def eI.seqB(I:eI X dY σ H s)(h:rm X.K H b a xs):∃c:List Vq,fu xs c/\gG b s.heap a c.toArray/\xs.length<=sizeLine:=by
 cases b with
 |true=>obtain⟨c,r,p,z⟩:=I.tuple (h);exact⟨c,r,p,z⟩
 |false=>obtain⟨c,r,p,z⟩:=I.list (h);exact⟨c,r,p.isList,z⟩
def eI.seqB_inj(I:eI X dY σ H s)(h:rm X.K H b a xs)(c:rm X.K H b a ys):xs=ys:=by
 cases b with
 |true=>exact I.tuple_inj h c
 |false=>exact I.list_inj h c
noncomputable def J2(K:W.Frag)(c f:Bool)(d e:Addr):It:=
  ⟨λi H=>∃b a x y,rm K H c d b/\rm K H f e a/\b[i]? = some x/\a[i]? = some y,
   λi H v g=>∃p x y,v=.ref p/\H p=none/\g=gI H p (.tup [x,y])/\(∀b,rm K H c d b->b[i]? = some x)/\∀a,rm K H f e a->a[i]? = some y,
   λi H=>∃b a,rm K H c d b/\rm K H f e a/\(b.length<=i\/a.length<=i)⟩
def AC{K:W.Frag}{x1}{z TI TO m l l1 l2:Addr}(D:ZipApart z TI TO m l l1 l2) :
  xn P w K (.Tuple elts x1 pos) (J2 K b1 b2 l1 l2) [z,TI,TO,m,l] z (λi h=>IsZip h z TI TO .none/\IsPair h TI (.ref m) (.ref l)/\(∃a b,IsPair h TO a b)/\jt b1 h m l1 i/\jt b2 h l l2 i) where
 mem:=by simp
 obj:=λi h p b f=>by
  obtain⟨n,g,⟨a,c,j⟩,r,t⟩:=p;have mem:b=z\/b=TI\/b=TO\/b=m\/b=l:=by simpa using f
  rcases mem with rfl|rfl|rfl|rfl|rfl
  .exact⟨_,n,λv q=>by cases q⟩
  .exact⟨_,g,λv q=>by cases q⟩
  .exact⟨_,j,λv q=>by cases q⟩
  .obtain⟨o,e,_,d⟩:=r.look;exact⟨o,e,λv q=>by rw[d]at q;cases q⟩
  .obtain⟨o,e,_,d⟩:=t.look;exact⟨o,e,λv q=>by rw[d]at q;cases q⟩
 keep:=λi h h' p k=>by obtain⟨n,g,⟨a,c,j⟩,r,t⟩:=p;exact⟨k z (by simp) _ n,k TI (by simp) _ g,⟨a,c,k TO (by simp) _ j⟩,r.to λo e=>k m (by simp) o e,t.to λo e=>k l (by simp) o e⟩
 item:=by
  intro X hP hw hK hc i dY s σ H E I Z p hg;subst hP hw hK;obtain⟨n,g,⟨a,c,j⟩,r,t⟩:=p;obtain⟨xs,ys,x,y,q1,Y,e1,e2⟩:=hg;obtain⟨J,r1,p1,z1⟩:=I.seqB q1;obtain⟨F,r2,p2,z2⟩:=I.seqB Y;obtain⟨u,gu,ru⟩:=r1.get e1;obtain⟨v,gv,rv⟩:=r2.get e2;have C:=I.fpOk (aJ _) (I.hok.fresh (aJ _));refine uT D n g j r t p1 p2 (λN U h' A B a1 a2 a3 a4 a5 a6 Q=>?_) λq=>?_
  .have eu:N=u:=by
    have:J[i]? = some N:=by simpa using A
    rw[gu]at this;cases this;rfl
   have ev:U=v:=by
    have:F[i]? = some U:=by simpa using B
    rw[gv]at this;cases this;rfl
   subst eu;subst ev;refine⟨_,rfl,wpAny_letOwnedTupleGo_zip a1 λR S sb=>?_⟩;have zT:=bx (aK n);have I1:=I.turnedL (t':=s.toks) (ch:=[z,TO,m,l]) (λb o f e=>sb.extBut _ _ (λq=>f (by simp[q])) (Q b o (λq=>f (by simp[q])) (λq=>f (by simp[q])) (λq=>f (by simp[q])) (λq=>f (by simp[q])) e))
    (λb f=>Z b (by
     have mem:b=z\/b=TO\/b=m\/b=l:=by simpa using f
     rcases mem with rfl|rfl|rfl|rfl<;>simp))
   have gT:=sb.extBut _ _ zT a5;have I2:eI X dY σ (gI H s.heap.objs.size (.tup [x,y])) {s with heap:=R}:=I1.track C.1 C.2.2.2.1 C.2.1 C.2.2.2.2.1 C.2.2.2.2.2
    ⟨by show 2<=sizeLine;decide,[N,U],.cons ru (.cons rv .nil),⟨_,gT,rfl,_,rfl,rfl⟩⟩
   have lt:∀{b o},s.heap.get? b=some o->gI H s.heap.objs.size (.tup [x,y]) b=H b:=λ{b o} e=>eF (aL (aK e));refine⟨.ref s.heap.objs.size,_,I2,rfl,⟨_,x,y,rfl,C.1,rfl,λxs' h=>by rw[I.seqB_inj h q1];exact e1,λys' h=>by rw[I.seqB_inj h Y];exact e2⟩,?_,λb f=>?_⟩
   .have k2:∀c o,c≠z->h'.get? c=some o->R.get? c=some o:=λc o c1 e=>sb.extBut _ _ c1 e;exact⟨S,k2 _ _ D.TIz (Q _ _ D.TIz D.TITO D.TIi1 D.TIi2 g),⟨_,_,k2 _ _ D.TOz a2⟩,a3.to λo e=>k2 _ o D.i1z e,a4.to λo e=>k2 _ o D.i2z e⟩
   .have mem:b=z\/b=TI\/b=TO\/b=m\/b=l:=by simpa using f
    have L:=(Z b f).1;obtain⟨o1,g1,_⟩:=r.look;obtain⟨o2,g2,_⟩:=t.look;rcases mem with rfl|rfl|rfl|rfl|rfl
    .rw[lt n];exact L
    .rw[lt g];exact L
    .rw[lt j];exact L
    .rw[lt g1];exact L
    .rw[lt g2];exact L
  .exfalso;have m1:J.toArray[i]? = some u:=by simpa using gu
   have m2:F.toArray[i]? = some v:=by simpa using gv
   rcases q with q|q
   .rw[m1]at q;cases q
   .rw[m2]at q;cases q
 done:=by
  intro X hP hw hK hc i dY s σ H E I Z p hg;subst hP hw hK;obtain⟨n,g,⟨a,c,j⟩,r,t⟩:=p;obtain⟨xs,ys,q1,Y,hl⟩:=hg;obtain⟨J,r1,p1,z1⟩:=I.seqB q1;obtain⟨F,r2,p2,z2⟩:=I.seqB Y;have n1:=r1.length;have n2:=r2.length;have fpc:∀b∈[z,TO,m,l],pR X dY H b:=λb f=>Z b (by
   have mem:b=z\/b=TO\/b=m\/b=l:=by simpa using f
   rcases mem with rfl|rfl|rfl|rfl<;>simp)
  refine uT D n g j r t p1 p2 (λN U h' A B a1 a2 a3 a4 a5 a6 Q=>?_) λq=>⟨I.ok.hd hc,λh' Q=>⟨rfl,I.turnedL (λb o f e=>Q b o (λq=>f (by simp[q])) (λq=>f (by simp[q])) (λq=>f (by simp[q])) (λq=>f (by simp[q])) e) fpc⟩⟩;exfalso;have m1:i<J.length:=by
   have:J[i]? = some N:=by simpa using A
   exact (aa.mp this).1
  have m2:i<F.length:=by
   have:F[i]? = some U:=by simpa using B
   exact (aa.mp this).1
  omega
 self:=λ_ _ _ _ _ p h=>wpAny_pyIter_zip p.1 h
def F6:bootBuiltins "zip" = some (.type "zip"):=by decide +kernel
section
variable {X:Cx}
def FM(K:W.Frag)(d e:Bool)(j:TA):TI:=λf H R=>j f H λg a=>∃b c,g=[.ref b,.ref c]/\(∃i,rm K a d b i)/\(∃h,rm K a e c h)/\R (J2 K d e b c) a
def GO{x1}(U:Gl X "zip")(y:X.mg "zip" = none)(z:PA X [a,b] ta)(w:starEach [a,b] X.env=[(false,eval a X.env),(false,eval b X.env)]:=by rfl)
  (c:starEach [b] X.env=[(false,eval b X.env)]:=by rfl):PI X (.Tuple elts x1 tpos) (.Call (.Name "zip" p) [a,b] [] pos) (FM X.K b1 b2 ta):=by
 intro A s u H R I h;refine Call_ (oR I U y F6 (PyProof.Rows.callWith_type1 (gX (z pos A s u H _ I h) λB s1 ⟨vs,H1,I1,r1,f⟩=>?_) (by rw[w,c]) (by rw[c];rfl)));obtain⟨P,x,rfl,⟨xs,f⟩,⟨ys,N⟩,q⟩:=f;obtain⟨Z,Y,rfl,C,S⟩:=Fw r1;cases C;cases S;obtain⟨B,F,t,_⟩:=I1.seqB f;obtain⟨ws,D,l,_⟩:=I1.seqB N;have i:P<s1.heap.objs.size:=by obtain⟨o,n,e,_⟩:=t.look;exact aK e
 have j:x<s1.heap.objs.size:=by obtain⟨o,n,e,_⟩:=l.look;exact aK e
 refine Ah t l λh' m d g L E v J=>?_;refine wpAny_pyIter_zip m ?_;refine⟨_,_,_,_,H1,rfl,I1.kept J,AC (zipApart_new i j),⟨m,d,⟨_,_,g⟩,L,E⟩,λb Q=>?_,q⟩;have k:b=s1.heap.objs.size+4\/b=s1.heap.objs.size+2\/b=s1.heap.objs.size+3\/b=s1.heap.objs.size\/b=s1.heap.objs.size+1:=by simpa using Q
 have r:s1.heap.objs.size<=b:=by rcases k with rfl|rfl|rfl|rfl|rfl<;>omega
 exact I1.fpOk r (I1.hok.fresh r)
end
end L2
namespace L2
open PySem PySem.Spec PyProof.Rows
def oV(h:H p=none):eJ H (gI H p o):=λb u e=>by rw[eF (eX e h)];exact .of e
def eJ.seqT{K:W.Frag}(e:eJ H H')(h:j9 K H a xs):j9 K H' a xs:=by
 rcases h with (h|⟨o,h⟩)|h
 .exact .inl (.inl (e _ _ h))
 .exact .inl (.inr ⟨o,e _ _ h⟩)
 .exact .inr h
noncomputable def uH(d:List Str)(b a:Scope)(N:List Str)(c:List (Option Nat)):Bool:=
 a.kind==.function&&a.names.all (λy=>!(y.2==NameKind.cell)||a.names.lookup y.1==some .cell)&&a.names.all (λy=>!(y.2==NameKind.local)||a.names.lookup y.1==some .local) &&
 a.names.all (λy=>!(y.2==NameKind.free)||b.names.lookup y.1==some .cell)&&N.length==c.length &&
 (List.range N.length).all (λi=>match c[i]?,N[i]? with
  |some (some j),some x=>d[j]? == some x&&a.names.lookup x==some .free&&b.names.lookup x==some .cell
  |_,_=>true)
def Ii(p:∀x,X.env.scope.names.lookup x=some .cell->∃c,X.env.cells.lookup x=some c)(h:uH X.N X.env.scope scope N ix=true):vq X scope N ix:=by
 unfold uH at h;simp only[bP]at h;obtain⟨⟨⟨⟨⟨n,q⟩,m⟩,r⟩,l⟩,o⟩:=h;refine⟨by simpa using n,λy d e=>?_,λy d e=>?_,λy d e=>?_,by simpa using l,λi j x f s=>?_⟩
 .have:=ck.mp q y d;rw[e]at this;simpa using this
 .have:=ck.mp m y d;rw[e]at this;simpa using this
 .have:=ck.mp r y d;rw[e]at this;exact p _ (by simpa using this)
 .have k:=(aa.mp f).1;have:=ck.mp o i (aR.mpr k);rw[f,s]at this;simp only[bP,beq_iff_eq]at this;obtain⟨⟨a,b⟩,c⟩:=this;exact⟨a,b,.inr (.inl c),λz=>by have g:X.env.scope.names.lookup x=some .local:=z;rw[c]at g;cases g⟩
def Ag(L:vq X scope N ix):∀x,(j6 X N scope C s₃ H ex pn).env.scope.names.lookup x=some .cell->∃c,(j6 X N scope C s₃ H ex pn).env.cells.lookup x=some c:=λx b=>by
 refine bK.mp (W.cellsFrom_some _ _ _ ?_);rcases nG (.inl b) with a|a
 .exact .inr (bK.mpr (kU a (L.fre _ a rfl)))
 .exact .inl a
def qw{K:W.Frag}(m:ix[k]? = some none)(o:ix[l]? = some none):lq ix (zH K 2 (qI (gJ k) (qI (gJ l) zE))):=by
 rintro x f H Q ⟨a,u,c,p,d,v,r,w,h,s,b,n,q⟩;refine⟨a,u,c,p,d,v,r,w,h,s,b,n,λi j e=>?_,q⟩;have g:k≠i:=by rintro rfl;rw[m]at e;cases e
 have t:l≠i:=by rintro rfl;rw[o]at e;cases e
 rw[aq t,aq g]
end L2
namespace L2
open PySem PySem.Spec PyProof.Rows
structure iu(K:W.Frag)(C:Addr)(m qual:Str)(st:Stmt):Prop where
 ex:∃f fd,C3 K m qual st f fd/\BR K C m f
structure gW(P:Program)(w:World)(K:W.Frag)(mg:Str->Option Value)(base:Heap)(C:Addr)(m:Str)(k:Nat)(sp:Sp):Prop where
 cl:rq K C
 ex:∃f fd ps,jS P w K mg base ph k f fd ps sp/\BR K C m f/\kM K fd ps []
def yk{K:W.Frag}{st:Stmt}(i:rq K C)(D:iu K C m qual st)(S:f6 N ps (eh st))
  (h:∀(kV d o:Vq) (l:Oq Addr) (a n:Vq) (us:List Vq),us.length=ps.length->bindArgs (W.fnOf m qual (gD st) (eZ st) (eh st) .none kV d o l a n) ⟨us,[]⟩=pure (ps.zip us))
  (e:∀vs H Q E,sp vs H Q E->vs.length=ps.length)
  (b:∀f a A c s H vs Q E,fN k (A.deeper (envOfC qual (eh st) s.heap.objs.size f a))->sp vs H Q E->
   ∃t,nk (gN ph P w K mg base N qual (eh st) f a A c s H E).nox (eZ st) t/\t {nx:=λ_ j=>Q .non j,rt:=Q} (h8 N vs) H):gW P w K mg base C m (k+1) sp:=by
 obtain⟨f,g,F,m⟩:=D.ex;exact⟨i,f,g,ps,F.ok S e (b f),m,F.binds h⟩
structure wR(P:Program)(w:World)(K:W.Frag)(mg:Str->Option Value)(base:Heap)(x:Str)(C:Addr)(k:Nat)(sp:Sp):Prop where
 ex:∃f fd ps,jS P w K mg base ph k f fd ps sp/\Mk K C f/\kM K fd ps []
 mgx:mg x=some (.ref C)
section
variable {X:Cx}{x m:Str}{C:Addr}{k:Nat}{sp:Sp}{e o:Expr}{es:List Expr}{t:TA}{ta:TE}{p pos apos:Pos}
def IH(h:wR X.prog X.w X.K X.mg X.base x C k sp)(j:fN (k+1) X.A)(i:PA X (e::es) t)(l:Gl X x:=by rfl)
  (c:(x==("__debug__" : Str))=false:=by decide) (g:starEach (e::es) X.env=(false,eval e X.env)::starEach es X.env:=by rfl) (d:(backTo pos (starEach es X.env)).any (·.1)=false:=by rfl) :
  PE X (.Call (.Name x p) (e::es) [] pos) (xV C sp [] E0 t):=by
 obtain⟨f,q,n,F,a,b⟩:=h.ex;exact Dw a F j l h.mgx b .nil xJ i c g d
def IJ(h:gW X.prog X.w X.K X.mg X.base C m k sp)(j:fN k X.A)(g:PE X o ta)(i:PA X (e::es) t)
  (c:starEach (e::es) X.env=(false,eval e X.env)::starEach es X.env:=by rfl) (d:(backTo pos (starEach es X.env)).any (·.1)=false:=by rfl)
  (l:eval (.Call (.Attribute o m apos) (e::es) [] pos) X.env=(do
   let ov <-eval o X.env
   standAt apos.atName
   let (f,first) <-holding [ov] (getMethod ov m pl)
   callWith pos f first (backTo pos (starEach (e::es) X.env)) (backToKw pos (keywordEach [] X.env))):=by rfl) :
  PE X (.Call (.Attribute o m apos) (e::es) [] pos) (m9 C m sp [] E0 ta t):=by
 obtain⟨f,q,n,F,a,b⟩:=h.ex;exact DS g h.cl a F j b .nil xJ i c d l
def Cm(h:gW X.prog X.w X.K X.mg X.base C m k sp)(d:fN k X.A)(c:PE X o ta)
  (g:eval (.Call (.Attribute o m apos) [] [] pos) X.env=(do
   let ov <-eval o X.env
   standAt apos.atName
   let (f,first) <-holding [ov] (getMethod ov m pl)
   callWith pos f first (backTo pos (starEach [] X.env)) (backToKw pos (keywordEach [] X.env))):=by rfl) :
  PE X (.Call (.Attribute o m apos) [] [] pos) (m9 C m sp [] E0 ta kH):=by
 obtain⟨f,j,i,F,a,b⟩:=h.ex;exact zX c h.cl a F d b .nil xJ g
end
end L2
namespace L2
open PySem PySem.Spec PyProof.Rows
def Ae(P:X.N.Nodup)(hy:X.N[i]? = some y)(E:vR X.env.scope y)
  (hc:X.calm=true) (U:PI X tg iter wi) (L:vq X scope N ix) (l:lq ix g)
  (n:∀C c H t p,PG (j6 X N scope C c H t p) tg g/\zd (j6 X N scope C c H t p) ifs tt/\PE (j6 X N scope C c H t p) elt te)
  (Y:X.fn y=true\/X.env.scope.names.lookup y=some .local:=by first|exact .inl rfl|exact .inr rfl)
  (k:swapsWith (.ListComp elt [⟨tg,iter,ifs,0⟩] scope pos) (some (.Name y py)) spos.line X.env=pure true:=by rfl)
  (B:∀x,foldedSetIterable iter X.env x=pure x:=by intro _;rfl):PS X (.Assign [.Name y py] (.ListComp elt [⟨tg,iter,ifs,0⟩] scope pos) spos) (j1 (BM ix wi g tt te) (gJ i)):=by
 intro K s A H D I h;rw[exec_Assign_Name_used _ _ _ _ k];refine ao (wpAny_standAt (ao ?_));rw[arm_evalThenUse_ListComp];refine ao (gX (wpAny_comprehension_free rfl B (mM L.fre) L.kind L.names (gX (U K s A H _ I h) λv s1 h1=>gX h1 λitv s2 h2=>?_)) λ_ R q=>ak (ak q));obtain⟨it,fp,tn,J,H2,e,I2,T,u,f2,W,⟨m0,w0⟩,d⟩:=h2;subst e;refine yy (Q:=λx H1=>gJ i x A H1 D.nx) hc L l n I2 T u f2 w0 d λE0 C m H' R S f I' q=>?_;refine wpAny_assign_Name (sG (v:=.ref E0) I' P hy E rfl (λs3 I3 j=>?_) Y);obtain⟨a,Z,F⟩:=j;have ne:C≠a:=by
  rcases F with z|z
  .rw[z];exact f.2.1
  .exact λw=>f.2.2.2.2.1 y a z w.symm
 exact⟨m,S.sameBut Z ne,λh' r=>⟨_,H',I3.turned (λb o hb e=>r.extBut b o hb e) f.1 f.2.1 f.2.2.2.1 f.2.2.2.2.1 f.2.2.2.2.2,q⟩⟩
end L2
namespace L2
open PySem PySem.Spec PyProof.Rows Builtin
def pK:fillsNumberSlot (.type "tuple") "mul" = pure false:=PySem.fillsNumberSlot_seq F.slot_tuple_mul.lookup (by decide +kernel) F.slot_tuple_rmul.lookup (by decide +kernel)
def tX:seqRepeat? (.type "tuple")=pure (some (.builtin "tuple.__mul__")):=by unfold seqRepeat?;rw[PySem.seqSlot_of (name:= "__mul__") F.slot_tuple_mul.lookup (by decide +kernel),PySem.seqSlot_of (name:= "__rmul__") F.slot_tuple_rmul.lookup (by decide +kernel)];rfl
def qx a t l dct its n sl :
  Meets (Builtin.«int.__rmul__» ⟨[.int a t,.ref l],[]⟩) (λ_ R s=>s.heap.get? l=some ⟨.type "tuple",dct,.seq its n,sl⟩/\R (.ok (.ret Value.notImplemented)) s):=
 .of_wp λb w A R s h=>by obtain⟨c,g,d,e,i⟩:=s;obtain⟨f,h⟩:=h;wp_walk;exact⟨_,rfl,h⟩
def rB a t l dct its n sl (C:-(2 ^ 63)<=a) (H:a<2 ^ 63) (m:its.size*a.toNat<=sizeLine) :
  Meets (Builtin.«tuple.__mul__» ⟨[.ref l,.int a t],[]⟩) (λ_ R s=>s.heap.get? l=some ⟨.type "tuple",dct,.seq its n,sl⟩/\((its.isEmpty=true\/a=1)->R (.ok (.ret (.ref l))) s)/\
   (¬(its.isEmpty=true\/a=1)->a<=0->R (.ok (.ret (.ref s.heap.objs.size))) {s with heap:=s.heap.push {cls:=.type "tuple",data:=.seq #[]}})/\
   (¬(its.isEmpty=true\/a=1)->0<a->R (.ok (.ret (.ref s.heap.objs.size))) {s with heap:=s.heap.push {cls:=.type "tuple",data:=.seq ((List.replicate a.toNat its).foldl (·++·) #[])}})):=
 .of_wp λk w A R s h=>by
  obtain⟨F,g,d,I,E⟩:=s;obtain⟨D,q,x,p⟩:=h;have u:¬(decide (a < -2 ^ 63)||decide (a >= 2 ^ 63))=true:=by simp;omega
  wp_walk;rw[aQ u];wp_walk;by_cases b:its.isEmpty=true\/a=1
  .rw[aP (by rcases b with c|c<;>simp[c])];wp_walk;exact⟨_,rfl,q b⟩
  .rw[aQ (by intro z;exact b (by simpa using z))];by_cases f:a<=0
   .rw[aP (by simp[f])];wp_walk;exact⟨_,rfl,x b f⟩
   .have v:¬its.isEmpty=true:=λz=>b (.inl z);have B:its.size*a<=sizeLine:=by
     have:((its.size*a.toNat:Nat):Int)<=sizeLine:=by exact_mod_cast m
     rw[Int.natCast_mul,cm (by omega)]at this;exact this
    have y:(sizeLine:Int)=2 ^ 24:=by decide
    rw[aQ (by simp[f,v]),aQ (by omega)];rw[aQ (by simp[Tuple.tupleTooMany];omega)];have o:(List.foldl (λi j=>i++j) #[] (List.replicate a.toNat its)).size<=sizeLine:=by
     have e:=mB its.toList a.toNat [];simp only[bV]at e;have r:List.foldl (λi j=>i++j) #[] (List.replicate a.toNat its)=(List.replicate a.toNat its.toList).flatten.toArray:=by simpa using e
     rw[r,bC,tH,bW];simpa using m
    wp_walk;exact⟨_,rfl,p b (by omega)⟩
section
variable {X:Cx}
def Bi:R2:=λx y H Q=>∃l k a,x=.ref l/\y=.int k/\H l=some (.tup a)/\-(2 ^ 63)<=k/\k<2 ^ 63/\a.length*k.toNat<=sizeLine/\((a=[]\/k=1)->Q (.ref l) H)/\
 (¬(a=[]\/k=1)->∀p,H p=none->Q (.ref p) (gI H p (.tup (List.replicate k.toNat a).flatten)))
def EY:mw X (binaryOp .Mult) Bi:=by
 intro dY s σ H x y v u Q I B J h;obtain⟨l,k,j,rfl,rfl,L,P,Z,m,C,A⟩:=h;cases B;obtain⟨t,rfl⟩:=J;obtain⟨a,r,⟨⟨c,d,dt,p⟩,e,S,n,hd⟩,_⟩:=I.tuple (j9.of L);subst S;subst hd;have R:=r.length;have Y:a.toArray.size*k.toNat<=sizeLine:=by rw[bC,<-R];exact m
 have i:a.toArray.isEmpty=true↔j=[]:=by
  cases r with
  |nil=>simp
  |cons _ _=>simp
 have f:(a.toArray.isEmpty=true\/k=1)↔(j=[]\/k=1):=by rw[i]
 have g:List.foldl (λE N=>E++N) #[] (List.replicate k.toNat a.toArray)=(List.replicate k.toNat a).flatten.toArray:=by have:=mB a k.toNat [];rw[bV]at this;exact this
 have fr:=I.fresh;refine wpAny_binaryOp_repeat_ref (by decide) ⟨_,e,rfl⟩ (λK=>typeIs_int K k t) pK F.fills_int_mul F.slot_int_rmul tX F.slot_int_index.lookup
  (call_meets F.slot_int_rmul (typeIs_int s k t) F.entry_int_rmul (F.args_int_rmul_2 _ _) (qx k t l d a.toArray n p)
   ⟨e,rfl,⟨_,e,rfl⟩,call_meets F.slot_tuple_mul ⟨_,e,rfl⟩ F.entry_tuple_mul (F.args_tuple_mul_2 _ _) (rB k t l d a.toArray n p P Z Y) ⟨e,λz=>?_,λz w=>?_,λz w=>?_⟩⟩)
 .exact⟨.ref l,H,I,rfl,C (f.mp z)⟩
 .have D:k.toNat=0:=by omega
  have q:=A (λy=>z (f.mpr y)) s.heap.objs.size fr;rw[D]at q;exact⟨.ref _,_,I.laid (o:=.tup []) (λb U q=>ae _ q) (aJ _) ⟨bG _,[],.nil,qs.new _ _⟩,rfl,q⟩
 .rw[g];refine⟨.ref _,_,I.laid (o:=.tup (List.replicate k.toNat j).flatten) (λb U q=>ae _ q) (aJ _) ⟨?_,_,r.rep k.toNat,qs.new _ _⟩,rfl,A (λy=>z (f.mpr y)) _ fr⟩;rw[tH,bW];exact m
def vG:V->Option Bool
 |.bl b=>some b
 |.int i=>some (i != 0)
 |_=>none
def jD:List V->Option (List Bool)
 |[]=>some []
 |v::vs=>(vG v).bind λb=>(jD vs).bind λr=>some (b::r)
theorem rW:∀{vs} {bs} {us} {i} {u},jD vs=some bs->fu vs us->us[i]? = some u->∃v,gd v u/\vG v=some (bs.getD i false)
 |[],_,_,_,_,_,.nil,e=>by simp at e
 |v::vs,bs,_,i,u,h,.cons r t,e=>by
  cases c:vG v with
  |none=>simp[jD,c]at h
  |some b=>
   cases d:jD vs with
   |none=>simp[jD,c,d]at h
   |some r'=>
    simp[jD,c,d]at h;subst h;cases i with
    |zero=>simp at e;subst e;exact⟨v,r,by simpa using c⟩
    |succ i=>obtain⟨g,a,f⟩:=rW d t (by simpa using e);exact⟨g,a,by simpa using f⟩
theorem sf:∀{vs} {bs},jD vs=some bs->vs.length=bs.length
 |[],_,h=>by cases h;rfl
 |v::vs,bs,h=>by
  cases a:vG v with
  |none=>simp[jD,a]at h
  |some b=>
   cases c:jD vs with
   |none=>simp[jD,a,c]at h
   |some r'=>simp[jD,a,c]at h;subst h;simp[sf c]
def q8(h:jD vs=some bs)(r:fu vs us):TruthOf prog w A (λi v=>us.toArray[i]? = some v) (λi=>bs.getD i false):=λi u s Q E hP hQ=>by
 obtain⟨v,rv,tv⟩:=rW h r (by simpa using hP);dsimp only at hQ;cases v with
 |bl b=>
  cases rv;have:b=bs.getD i false:=by simpa[vG] using tv
  rw[<-this]at hQ;exact wpAny_truthy_bool hQ
 |int n=>
  obtain⟨t,rfl⟩:=rv;have:(n != 0)=bs.getD i false:=by simpa[vG] using tv
  rw[<-this]at hQ;exact PyProof.Rows.truthy_int hQ
 |_=>simp[vG]at tv
def zx(m:X.calm=true):iN X (.builtin "any") (λxs H Q=>∃p vs bs,xs=[.ref p]/\(jR X.K H p vs\/j9 X.K H p vs)/\jD vs=some bs/\Q (.bl (bs.any id)) H):=by
 intro C s B H xs D Q I r h;obtain⟨p,vs,bs,rfl,g,c,q⟩:=h;obtain⟨u,rfl,n⟩:=mK r;cases n;have v:=sf c;rcases g with g|g
 .obtain⟨a,j,f,w⟩:=I.list g;have t:=j.length;have d:p<s.heap.objs.size:=by obtain⟨_,e,_⟩:=f.isList;exact aK e
  refine call_any_walk (wpAny_pyIter_list f.isList ⟨s.heap.objs.size,_,_,_,_,_,λi=>bs.getD i false,rfl,Walks.list (A:=X.A.in1) (I.ok.hd m) _ p (aL d) _,⟨⟨_,ar _ rfl,rfl,rfl⟩,f.isList.push _⟩,q8 c j,λx y l=>?_⟩);refine⟨.bl _,H,I.kept (λb o e=>l b o (λk=>?_) (ae _ e)),rfl,?_⟩
  .have lt:=aK e;have z:b=s.heap.objs.size:=by simpa using k
   rw[z]at lt;exact aZ _ lt
  .rw[<-sP]at q;have:a.toArray.size=bs.length:=by rw[bC];omega
   rw[this];exact q
 .obtain⟨a,j,f,w⟩:=I.tuple g;have t:=j.length;have d:p<s.heap.objs.size:=by obtain⟨_,e,_⟩:=f;exact aK e
  have pt:=f;refine call_any_walk (wpAny_pyIter_tuple pt ⟨s.heap.objs.size,_,_,_,_,_,λi=>bs.getD i false,rfl,Walks.tuple (A:=X.A.in1) (I.ok.hd m) _ p (aL d) _,⟨⟨_,ar _ rfl,rfl,rfl⟩,pt.push _⟩,q8 c j,λx y l=>?_⟩);refine⟨.bl _,H,I.kept (λb o e=>l b o (λk=>?_) (ae _ e)),rfl,?_⟩
  .have lt:=aK e;have z:b=s.heap.objs.size:=by simpa using k
   rw[z]at lt;exact aZ _ lt
  .rw[<-sP]at q;have:a.toArray.size=bs.length:=by rw[bC];omega
   rw[this];exact q
end
end L2
namespace L2
open PySem PySem.Spec PyProof.Rows
section
variable {prog:Program}{w:World}{A:Around}{E:Vq->Shared->Prop}{s:Shared}
def zA{i:Nat}{Q:Vq->Shared->Prop}(y:IsEnum s.heap e it i old)(hi:jt b s.heap it l i)(hl:gG b s.heap l xs)(j:e≠it)
  (r:∀x h,xs[i]? = some x->IsEnumOut h e it ((i:Int)+1) x s.heap.objs.size->jt b h it l (i+1)->h.get? s.heap.objs.size=some {cls:=.type "tuple",data:=.seq #[.int i s.toks,x]}->h.objs.size=s.heap.objs.size+1->
   (∀c o,c≠e->c≠it->s.heap.get? c=some o->h.get? c=some o)->Q (.ref s.heap.objs.size) {s with heap:=h,toks:=s.toks+1})
  (no:xs[i]? = none->A.handled=none/\∀h x,Heap.ExtBut it s.heap h->(∃o,h.get? x=some o/\o.cls=.type "StopIteration")->E (.ref x) {s with heap:=h}) :
  wpAny (model prog w) A (Builtin.«enumerate.__next__» ⟨[.ref e],[]⟩) (λz s'=>∃v,z=.done (.ret v)/\Q v s') E s:=by
 obtain⟨N,g,d,S,os⟩:=s;show wpAny _ _ (field (.ref e) 2 >>= λ_=>_) _ _ _;refine ao (wpAny_field y rfl rfl (ao (qY hi hl (λx g1 X t1 k1=>?_) no)));have k:=k1;have H:=(k.2 e j).trans y;refine ao (wpAny_field H rfl rfl ?_);refine ao (wpAny_field H rfl rfl ?_);refine ao (wpAny_mkInt (ao (wpAny_setField_rec H (by simp) λg2 y2 D=>?_)));have z2:=y2;refine ao (wpAny_setField_rec z2 (by simp) λm U F=>?_);have Z:=U;refine ao (wpAny_newTuple ?_);have sz:m.objs.size=N.objs.size:=by have a:=F.1;have c:=D.1;have u:=k.1;dsimp only at a c u;omega
 have B:IsEnum (m.push {cls:=.type "tuple",data:=.seq #[.int i S,x]}) e it (i+1) old:=ae _ Z;have el:=aK y;have C:∀c o,c≠e->c≠it->N.get? c=some o->m.get? c=some o:=λc o f t q=>F.extBut c o f (D.extBut c o f (k.extBut c o t q));unfold Builtin.SmallTypes.ownedTupleIsFree;refine ao (ao (wpAny_field B rfl rfl (ak ?_)));simp only[if_true];refine ao (wpAny_rule (ao (wpAny_field B rfl rfl (ao (wpAny_setField_rec B (by simp) λg5 y5 J=>?_)))));have Y:=y5;unfold Builtin.SmallTypes.ownedTupleHandOut;refine ao (ao (wpAny_setField_rec Y (by simp) λg6 y6 I=>?_));have z6:=y6;refine wpAny_setField_rec z6 (by simp) λp y7 R=>?_;have L:=y7;have up:∀c o,c≠e->(m.push {cls:=.type "tuple",data:=.seq #[.int i S,x]}).get? c=some o->p.get? c=some o:=λc o f q=>R.extBut c o f (I.extBut c o f (J.extBut c o f q));have n:∀c o,c≠e->m.get? c=some o->p.get? c=some o:=λc o f q=>up c o f (ae _ q);have K:=up _ _ (by rw[sz];exact bx el) (ar _ rfl);have P:p.objs.size=m.objs.size+1:=by have a:=R.1;have c:=I.1;have u:=J.1;dsimp only at a c u;rw[Heap.size_push]at u;omega
 refine ao (wpAny_letGo (ak ⟨_,rfl,?_⟩));rw[sz]at L K P ⊢;exact r x p X L (t1.to λo q=>n it o (Ne.symm j) (F.extBut it o (Ne.symm j) (D.extBut it o (Ne.symm j) q))) K P λc o f t q=>n c o f (C c o f t q)
def rV{i:Nat}(h:IsEnum s.heap e it i old)(n:jt b s.heap it l i)(r:gG b s.heap l xs)(f:e≠it)
  (d:∀x a,xs[i]? = some x->IsEnumOut a e it ((i:Int)+1) x s.heap.objs.size->jt b a it l (i+1)->a.get? s.heap.objs.size=some {cls:=.type "tuple",data:=.seq #[.int i s.toks,x]}->a.objs.size=s.heap.objs.size+1->
   (∀c o,c≠e->c≠it->s.heap.get? c=some o->a.get? c=some o)->Q (some (.ref s.heap.objs.size)) {s with heap:=a,toks:=s.toks+1})
  (j:xs[i]? = none->A.handled=none/\∀a,Heap.ExtBut it s.heap a->Q none {s with heap:=a}):wpAny (model prog w) A (pyNext (.ref e)) Q E s:=by
 have g:s.TypeIs (.ref e) "enumerate" :=⟨_,h,rfl⟩;unfold pyNext;refine ao (wpAny_attempt (wpAny_callSpecial?_slot g F.slot_enumerate_next (wpAny_call_entry F.slot_enumerate_next g F.entry_enumerate_next
  (zA h n r f (λx a t k m u p v=>ak (d x a t k m u p v)) λq=>⟨(j q).1,λa x hk ⟨o,ho,hc⟩=>?_⟩) (F.args_enumerate_next_1 _))))
 exact ao (wpAny_isInstance ⟨o,ho,hc⟩ isSubtype_stop (ak ((j q).2 a hk)))
noncomputable abbrev eo(b:Bool)(l:Addr):Obj:={cls:=.type (rg b),data:=.fields #[.ref l,.int 0 0]}
abbrev en(p:Addr):Obj:={cls:=.type "enumerate",data:=.fields #[.none,.bool false,.ref p,rawInt 0,.none,.none]}
def wF b l xs:Meets (Builtin.«enumerate.__new__» ⟨[.type "enumerate",.ref l],[]⟩) (λ_ R s=>gG b s.heap l xs/\
  R (.ok (.ret (.ref (s.heap.push (eo b l)).objs.size))) {s with heap:=(s.heap.push (eo b l)).push (en s.heap.objs.size)}):=by
 refine .of_wp λprog w A R s h=>?_;obtain⟨p,g,d,q,m⟩:=s;obtain⟨i,e⟩:=h;have f:=sub_enumerate;have a:=i;obtain⟨o,n,j,r⟩:=a.look;wp_walk using k9 a;refine wpAny_stack_any λk=>ak ?_;split
 .rename_i c _ _ _ _ _;cases (c==Value.type "enumerate")
  .wp_walk using k9 a;exact⟨_,rfl,e⟩
  .wp_walk using k9 a;exact⟨_,rfl,e⟩
 .wp_walk using k9 a;exact⟨_,rfl,e⟩
def yN(g:gG b s.heap l xs)
  (h:∀a,IsEnum a (s.heap.objs.size+1) s.heap.objs.size 0 .none->jt b a s.heap.objs.size l 0->a.objs.size=s.heap.objs.size+2->(∀c o,s.heap.get? c=some o->a.get? c=some o)->Q (.ref (s.heap.objs.size+1)) {s with heap:=a}) :
  wpAny (model prog w) A (call (.type "enumerate") [.ref l]) Q E s:=by
 refine callType_new F.called_enumerate (by decide) (F.typeCall_enumerate_1 _) (F.newCall_enumerate_1 _) (λf=>F.args_object_init_2 f _) F.entry_enumerate_new (wF b l xs) ⟨g,?_⟩;have e:(s.heap.push (eo b l)).objs.size=s.heap.objs.size+1:=Heap.size_push ..;have d:=ar (s.heap.push (eo b l)) (o:=en s.heap.objs.size) rfl;rw[e]at d;rw[e];exact⟨⟨_,d,rfl⟩,h _ d (.of ⟨_,ae _ (ar _ rfl),rfl,rfl⟩) (by rw[Heap.size_push,e]) λc o q=>ae _ (ae _ q)⟩
end
noncomputable def JY(K:W.Frag)(b:Bool)(l:Addr):It:=
  ⟨λi H=>∃a x,rm K H b l a/\a[i]? = some x,
   λi H v c=>∃p x,v=.ref p/\H p=none/\c=gI H p (.tup [.int i,x])/\∀a,rm K H b l a->a[i]? = some x,
   λi H=>∃a,rm K H b l a/\a.length<=i⟩
def zN{K:W.Frag}{x1}(p:e≠it) :
  xn P w K (.Tuple elts x1 pos) (JY K b l) [e,it] e (λi h=>(∃a,IsEnum h e it i a)/\jt b h it l i) where
 mem:=by simp
 obj:=λi h j c J=>by
  obtain⟨⟨a,g⟩,m⟩:=j;have mem:c=e\/c=it:=by simpa using J
  rcases mem with rfl|rfl
  .exact⟨_,g,λv q=>by cases q⟩
  .obtain⟨o,q,_,d⟩:=m.look;exact⟨o,q,λv q'=>by rw[d]at q';cases q'⟩
 keep:=λi h S j k=>by obtain⟨⟨a,g⟩,m⟩:=j;exact⟨⟨a,k e (by simp) _ g⟩,m.to λo q=>k it (by simp) o q⟩
 item:=by
  intro X R hw N J i dY s Z H E I D j Y;subst R hw N;obtain⟨⟨a,g⟩,m⟩:=j;obtain⟨xs,x,C,e1⟩:=Y;obtain⟨y,Q,U,z1⟩:=I.seqB C;obtain⟨u,gu,ru⟩:=Q.get e1;have t:=I.fpOk (aJ _) (I.hok.fresh (aJ _));refine rV g m U p (λB S n a1 a2 a3 a4 F=>?_) λq=>?_
  .have eu:B=u:=by
    have:y[i]? = some B:=by simpa using n
    rw[gu]at this;cases this;rfl
   subst eu;refine⟨_,rfl,wpAny_letOwnedTupleGo_enum a1 λL A sb=>?_⟩;have r:=sb;have zT:=bx (aK g);have I1:=I.turnedL (t':=s.toks+1) (λb o f q=>r.extBut _ _ (λz=>f (by simp[z])) (F b o (λz=>f (by simp[z])) (λz=>f (by simp[z])) q)) (λb f=>D b f);have gT:=r.extBut _ _ zT a3;have I2:eI X dY Z (gI H s.heap.objs.size (.tup [.int i,x])) {s with heap:=L,toks:=s.toks+1}:=I1.track t.1 t.2.2.2.1 t.2.1 t.2.2.2.2.1 t.2.2.2.2.2
    ⟨by show 2<=sizeLine;decide,[.int i s.toks,B],.cons ⟨_,rfl⟩ (.cons ru .nil),⟨_,gT,rfl,_,rfl,rfl⟩⟩
   have lt:∀{b o},s.heap.get? b=some o->gI H s.heap.objs.size (.tup [.int i,x]) b=H b:=λ{b o} q=>eF (aL (aK q));refine⟨.ref s.heap.objs.size,_,I2,rfl,⟨_,x,rfl,t.1,rfl,λxs' h=>by rw[I.seqB_inj h C];exact e1⟩,?_,λb f=>?_⟩
   .exact⟨⟨_,A⟩,a2.to λo q=>r.extBut _ o (Ne.symm p) q⟩
   .have mem:b=e\/b=it:=by simpa using f
    have hn:=(D b f).1;obtain⟨o1,g1,_⟩:=m.look;rcases mem with rfl|rfl
    .rw[lt g];exact hn
    .rw[lt g1];exact hn
  .exfalso;have m1:y.toArray[i]? = some u:=by simpa using gu
   rw[m1]at q;cases q
 done:=by
  intro X R hw N J i dY s Z H E I D j Y;subst R hw N;obtain⟨⟨a,g⟩,m⟩:=j;obtain⟨xs,C,hl⟩:=Y;obtain⟨y,Q,U,z1⟩:=I.seqB C;have n1:=Q.length;refine rV g m U p (λB S n a1 a2 a3 a4 F=>?_) λq=>⟨I.ok.hd J,λS F=>⟨rfl,I.turnedL (ch:=[it]) (λb o f q=>F b o (λz=>f (by simp[z])) q) λb f=>D b (by
   have:b=it:=by simpa using f
   simp[this])⟩⟩
  exfalso;have m1:i<y.length:=by
   have:y[i]? = some B:=by simpa using n
   exact (aa.mp this).1
  omega
 self:=λ_ _ _ _ _ j h=>by obtain⟨⟨a,g⟩,_⟩:=j;exact wpAny_pyIter_enum g h
section
variable {X:Cx}
def Bo(K:W.Frag)(b:Bool)(f:TA):TI:=λc H R=>f c H λd a=>∃l,d=[.ref l]/\(∃e,rm K a b l e)/\R (JY K b l) a
def Bt{x1}(z:Gl X "enumerate")(m:X.mg "enumerate" = none)(n:PA X [a] ta)(j:starEach [a] X.env=[(false,eval a X.env)]:=by rfl) :
  PI X (.Tuple elts x1 tpos) (.Call (.Name "enumerate" p) [a] [] pos) (Bo X.K b ta):=by
 intro o s g H R I h;refine Call_ (oR I z m boot_enumerate (PyProof.Rows.callWith_type1 (gX (n pos o s g H _ I h) λr s1 ⟨vs,H1,I1,r1,c⟩=>?_) j rfl));obtain⟨l,rfl,⟨B,c⟩,q⟩:=c;obtain⟨u,rfl,k⟩:=mK r1;cases k;obtain⟨r,v,x,_⟩:=I1.seqB c;refine yN x λA e t i w=>?_;refine wpAny_pyIter_enum e ?_;refine⟨_,_,_,_,H1,rfl,I1.kept w,zN (Nat.succ_ne_self _),⟨⟨_,e⟩,t⟩,λb y=>?_,q⟩;have d:b=s1.heap.objs.size+1\/b=s1.heap.objs.size:=by simpa using y
 have f:s1.heap.objs.size<=b:=by rcases d with rfl|rfl<;>omega
 exact I1.fpOk f (I1.hok.fresh f)
end
end L2
namespace HT
open PySem PySem.Spec PyProof.Rows
section
variable {prog:Program}{w:World}{A:Around}{E:Vq->Shared->Prop}{s:Shared}
def getItem_tuple_all{a d:Oq Int}(b:IsTup s.heap t items)(i:s.heap.IsSliceOf sl vl vu .none)(l:IsPart vl a)(m:IsPart vu d)
  (hw:sIx items.size 0 a=0/\sIx items.size items.size d=items.size) (h:Q (.ref t) s):wpAny (model prog w) A (getItem (.ref t) (.ref sl)) Q E s:=by
 obtain⟨j,e,f,k⟩:=id i;have g:s.TypeIs (.ref sl) "slice" :=⟨j,e,f⟩;unfold getItem;try with_reducible refine wpAny_holding ?_;first|refine ao (ak ?_)|skip
 refine ao (wpAny_sequenceKey b.typeIs (by decide) ?_);refine ao (wpAny_callSpecial?_slot b.typeIs PyProof.Rows.slot_tuple_getitem
  (wpAny_call_entry PyProof.Rows.slot_tuple_getitem b.typeIs entry_tuple_getitem ?_ (args_tuple_getitem _ _)))
 show wpAny _ _ (Builtin.Tuple.tupleItemsOf (.ref t) >>= _) _ _ s;refine ao (tupleItemsOf_ b ?_);refine ao (wpAny_typeOf g ?_);rw[aP (by decide)];refine ao (kW i l m ?_);have c:(((sIx items.size 0 a):Int)==0&&(1:Int)==1&&(sIx items.size items.size d-sIx items.size 0 a)==items.size)=true:=by rw[hw.1,hw.2];simp
 show wpAny _ _ (if (((sIx items.size 0 a):Int)==0&&1==1&&(sIx items.size items.size d-sIx items.size 0 a)==items.size)=true then _ else _) _ _ s;rw[aP c];refine ao (ao (wpAny_typeOf b.typeIs (ak ?_)));rw[aP (by decide)];refine ao (wpAny_rule ?_);exact ak ⟨_,rfl,ak h⟩
end
end HT
namespace L2
open PySem PySem.Spec PyProof.Rows
section
variable {X:Cx}
def II(K:W.Frag):V->Option Int->Option Int->Hp->VK->Prop:=λx d c H Q=>∃a b,x=.ref a/\j9 K H a b/\(HT.sIx b.length 0 d=0/\HT.sIx b.length b.length c=b.length)/\Q (.ref a) H
def Dd:Fx X (II X.K):=by
 intro m s l H x v n w u o p Q I e d g i h;obtain⟨a,k,rfl,f,hw,q⟩:=h;cases e;obtain⟨b,r,c,t⟩:=I.tuple f;have j:b.toArray.size=k.length:=by rw[bC];exact r.length.symm
 refine⟨"tuple",_,PyProof.Rows.slot_tuple_getitem.lookup,c.typeIs,?_⟩;exact HT.getItem_tuple_all c d g i (by rw[j];exact hw) ⟨.ref a,H,I,rfl,q⟩
end
end L2
namespace L2
open PySem PySem.Spec PyProof.Rows PySem.W
section
variable {X:Cx}{dY:List (Addr×Obj)}{σ:St}{H:Hp}{s:Shared}
def CZ(s:Shared)(dx:PyData)(u:Vq):Bool:=@decide (∃d as,Reads s.heap u d as/\d.canLay0=true/\PyData.eqv d dx=true) (Classical.propDecidable _)
def CQ(r:Reads s.heap u d as)(a:d.canLay0=true):CZ s dx u=PyData.eqv d dx:=by
 unfold CZ;cases h:PyData.eqv d dx with
 |true=>exact @aB _ (_) ⟨d,as,r,a,h⟩
 |false=>refine @aA _ (_) λ⟨d',as',r',hc',h'⟩=>?_;rw[SeqAt.Reads.unique d d' u as as' a r r',h']at h;cases h
theorem xo(c:Reads s.heap v dx bs)(d:dx.canLay0=true)(a:A.units+dx.depth<cLine):∀{us} {ds} {as},ReadsAll s.heap us ds as->PyData.canLayAll0 ds=true->∀u∈us,SeqAt.EqAt A s u v (CZ s dx u)
 |_,_,_,.nil,_=>λu a=>by cases a
 |_,_,_,.cons r rs,h=>λu b=>by
  rw[PyData.canLayAll0,bP]at h;rcases aE.mp b with rfl|b
  .rw[CQ r h.1];exact SeqAt.eqAt_reads _ _ _ _ _ _ _ _ r c h.1 d (by omega)
  .exact xo c d a rs h.2 u b
end
end L2
namespace L2
open PySem PySem.Spec PyProof.Rows
section
variable {X:Cx}{o e:Expr}{to:TE}{t:TA}{apos cpos:Pos}
theorem t7:∀{us} {ds} {as},ReadsAll s.heap us ds as->PyData.canLayAll0 ds=true->us.map (CZ s dx)=ds.map λd=>PyData.eqv d dx
 |_,_,_,.nil,_=>rfl
 |_,_,_,.cons r rs,h=>by rw[PyData.canLayAll0,bP]at h;rw[bE,bE,CQ r h.1,t7 rs h.2]
def Jt(K:W.Frag)(to:TE)(t:TA):TE:=λg H Q=>to g H λx h=>∃p,x=.ref p/\(∃c,jR K h p c)/\t g h λi f=>∃y a b c,∃j:Nat,i=[y]/\jR K f p c/\DV K f y a/\sM K f c b/\(a.canLay0=true/\PyData.canLayAll0 b=true/\a.depth<=100)/\(b.map λd=>PyData.eqv d a)[j]? = some true/\(∀m,m<j->(b.map λd=>PyData.eqv d a)[m]? = some false)/\Q (.int (j:Int)) f
def FI(hu:X.A.units+200<cLine)(ho:PE X o to)(ha:PA X [e] t)
  (f:attributeBase o "index" X.env (eval o X.env)=eval o X.env:=by rfl)
  (g:((backTo cpos (starEach [e] X.env)).all (λx=>!x.1)&&(backToKw cpos (keywordEach [] X.env)).all (λx=>x.1.isSome)
   && decide (([e]:List Expr).length+([]:List Keyword).length+(if ([]:List Keyword).isEmpty then 0 else 1)<30))=true:=by rfl)
  (c:(apos.endLine==cpos.line)=true:=by rfl) (Y:starEach [e] X.env=(false,eval e X.env)::starEach [] X.env:=by rfl) (hplain:(backTo cpos (starEach [] X.env)).any (·.1)=false:=by rfl) :
  PE X (.Call (.Attribute o "index" apos) [e] [] cpos) (Jt X.K to t):=by
 intro E s C H Q I h;refine wpAny_Call_method_late f g c rfl (gX (ho E s C H _ I h) λv s1 ⟨x,H1,I1,r1,p,ex,⟨xs0,hS⟩,q1⟩=>?_);subst ex;cases r1;obtain⟨S,r,pl,hz⟩:=I1.list hS;obtain⟨o1,n1,L,g2,g4,g3⟩:=pl;refine⟨"list", "list.index",PySem.F.plainAttrs_list,PySem.F.slot_list_index,PySem.F.type_list_index,⟨o1,L,g2⟩,λa ea=>?_,?_⟩
 .cases ea;exact⟨o1,L,g4⟩
 have J:=ha cpos E s1 C H1 _ I1 q1;rw[Y]at J ⊢;refine Calls.callWith_builtin (by show (false||(backTo cpos (starEach [] X.env)).any (·.1))=false;rw[hplain]<;>rfl) (Calls.evalArgs_plain ?_);refine gX J λus s2 ⟨vs,H2,I2,r2,y,dx,ds,xs,j,e2,hS2,hx,hd,⟨cx,cs,dp⟩,hj,hn,q2⟩=>?_;subst e2;obtain⟨u,rfl,ru⟩:=r2.one;obtain⟨bs,rb⟩:=hx.reads I2 ru;obtain⟨b,P,k,hz2⟩:=I2.list hS2;obtain⟨as,U⟩:=hd.reads I2 P;have D:=t7 (dx:=dx) U cs;have R:j<b.length:=by have:=(aa.mp hj).1;rw[<-D,aw]at this;exact this
 have Z:2*b.length<2 ^ 63:=by
  have:=P.length;have z:sizeLine<2 ^ 61:=by decide
  omega
 obtain⟨o2,n2,z,h2,h4,h3⟩:=k;obtain⟨oc,od,oda,n⟩:=o2;subst h2 h3 h4;have N:∀m (i:m<b.length),CZ s2 dx b[m]=((ds.map λd=>PyData.eqv d dx)[m]?).getD false:=λm i=>by rw[<-D,av,ag i];rfl
 refine call_meets PySem.F.slot_list_index ⟨_,z,rfl⟩ PySem.F.entry_list_index (PySem.F.args_list_index_2 _ _) (SeqAt.list_indexAt p b.toArray n2 none n u (CZ s2 dx) j (by simpa using R) (by omega) (by rw[cn,N j R,hj];rfl) (λm B q=>by
  have l:m<b.length:=by simpa using B
  rw[cn,N m l,hn m q];rfl)) ⟨z,λw hw=>xo rb cx (by show X.A.units+1+_<_;omega) U cs w (by simpa using hw),?_⟩
 exact⟨.int j,H2,I2.tok _,⟨s2.toks,rfl⟩,q2⟩
end
end L2
namespace L2
open PySem PySem.Spec PyProof.Rows
section
variable {X:Cx}{o e:Expr}{to:TE}{t:TA}{apos cpos:Pos}
def IX(K:W.Frag)(to:TE)(t:TA):TE:=λg H Q=>to g H λx h=>∃p,x=.ref p/\(∃b,jR K h p b)/\t g h λi c=>∃y a f b,i=[y]/\jR K c p b/\DV K c y a/\sM K c b f/\(a.canLay0=true/\PyData.canLayAll0 f=true/\a.depth<=100)/\Q (.int ((f.countP λd=>PyData.eqv d a:Nat):Int)) c
def EE(hu:X.A.units+200<cLine)(Z:PE X o to)(N:PA X [e] t)
  (f:attributeBase o "count" X.env (eval o X.env)=eval o X.env:=by rfl)
  (g:((backTo cpos (starEach [e] X.env)).all (λx=>!x.1)&&(backToKw cpos (keywordEach [] X.env)).all (λx=>x.1.isSome)
   && decide (([e]:List Expr).length+([]:List Keyword).length+(if ([]:List Keyword).isEmpty then 0 else 1)<30))=true:=by rfl)
  (c:(apos.endLine==cpos.line)=true:=by rfl) (J:starEach [e] X.env=(false,eval e X.env)::starEach [] X.env:=by rfl) (hplain:(backTo cpos (starEach [] X.env)).any (·.1)=false:=by rfl) :
  PE X (.Call (.Attribute o "count" apos) [e] [] cpos) (IX X.K to t):=by
 intro n s m H Q I h;refine wpAny_Call_method_late f g c rfl (gX (Z n s m H _ I h) λv s1 ⟨x,H1,I1,r1,p,ex,⟨xs0,hS⟩,q1⟩=>?_);subst ex;cases r1;obtain⟨C,r,pl,hz⟩:=I1.list hS;obtain⟨o1,n1,z,S,R,g3⟩:=pl;refine⟨"list", "list.count",PySem.F.plainAttrs_list,PySem.F.slot_list_count,PySem.F.type_list_count,⟨o1,z,S⟩,λa ea=>?_,?_⟩
 .cases ea;exact⟨o1,z,R⟩
 have q:=N cpos n s1 m H1 _ I1 q1;rw[J]at q ⊢;refine Calls.callWith_builtin (by show (false||(backTo cpos (starEach [] X.env)).any (·.1))=false;rw[hplain]<;>rfl) (Calls.evalArgs_plain ?_);refine gX q λus s2 ⟨vs,H2,I2,r2,y,dx,ds,xs,e2,hS2,hx,hd,⟨cx,cs,dp⟩,q2⟩=>?_;subst e2;obtain⟨u,rfl,Y⟩:=r2.one;obtain⟨bs,U⟩:=hx.reads I2 Y;obtain⟨b,rv,k,P⟩:=I2.list hS2;obtain⟨as,D⟩:=hd.reads I2 rv;have L:=t7 (dx:=dx) D cs;obtain⟨o2,n2,i,j,E,B⟩:=k;obtain⟨oc,od,oda,l⟩:=o2;dsimp only at j B E;subst j B E;refine call_meets PySem.F.slot_list_count ⟨_,i,rfl⟩ PySem.F.entry_list_count (PySem.F.args_list_count_2 _ _) (SeqAt.list_countAt p b.toArray n2 none l u (CZ s2 dx)) ⟨i,λw hw=>xo U cx (by show X.A.units+1+_<_;omega) D cs w (by simpa using hw),?_⟩;refine⟨.int ((ds.countP λd=>PyData.eqv d dx:Nat):Int),H2,I2.tok _,⟨s2.toks,?_⟩,q2⟩;have hc:b.countP (CZ s2 dx)=ds.countP λd=>PyData.eqv d dx:=by
  have i:b.countP (CZ s2 dx)=(b.map (CZ s2 dx)).countP id:=by rw[cq];rfl
  have j:(ds.countP λd=>PyData.eqv d dx)=(ds.map λd=>PyData.eqv d dx).countP id:=by rw[cq];rfl
  rw[i,j,L]
 rw[<-hc]
end
end L2
namespace L2
open PySem PySem.Spec PyProof.Rows
section
variable {P:Program}{w:World}{mg:Str->Option Value}{base:Heap}{CX:C6}{k:Nat}{f:Addr}{N ps:List Str}{name qual:Str}{params:Arguments}{body:List Stmt}{scope:Scope}{od an:Oq Addr}{osl:Array (Option Value)}{A:Around}{outer:List Env}{s:Shared}{H:Hp}{args:Args}{us:List Vq}{vs:List V}{Q:VK}{E:XK}{ea:Addr}{oe:Obj}
theorem HF{K:W.Frag}{U kV j pm a Z oc:Vq}(lk:K.lookup f=some ⟨oc,od,.func (W.fnOf name qual params body scope U kV j pm an a Z),osl⟩)(z:W.codeIn K a qual=true)(S:f6 N ps scope)
  (hl:vs.length=ps.length) (X:fN (k+1) A) (l:tT P w K mg base A outer s H) (hb:BindsTo s (W.fnOf name qual params body scope U kV j pm an a Z) args (ps.zip us)) (r:fu vs us)
  (Y:s.heap.get? ea=some oe) (hn:H ea=none) (hf:ea∉lP outer) (hc:∀v,oe.data≠.cell v)
  (h:∃t,nk ((gN CX P w K mg base N qual scope f a A outer s H E).exc [(ea,oe)] ea) body t/\t {nx:=λ_ d=>Q .non d,rt:=Q} (h8 N vs) H) :
  codeAny (model P w) (A.mark (some (.ref ea))) (.call (.ref f) args) (CR CX outer P w H s Q E) s:=by
 have R:=l.mod.kin.keeps λb o e=>(l.bs b o e).1;have B:=l.mod.nolimit.keeps λb o e=>(l.bs b o e).1;have g:∀y∈ps.zip us,scope.names.lookup y.1=some .local\/(scope.names.lookup y.1=some .cell/\((cellsFrom (s.heap.objs.size+1) scope.names []).lookup y.1).isSome=true):=λ⟨n,v⟩ hy=>by
  rcases S.par n (aV hy).1 with q|q
  .exact .inl q
  .exact .inr ⟨q,W.cellsFrom_some _ _ _ (.inl q)⟩
 refine codeAny_call_function X.depth (R _ _ lk) rfl S.co S.gen rfl (W.codeRec_of R z) (hb _ _ _ _ ?_);refine wpAny_newFunctionEnv_cells S.kind g λenv he L x=>?_;subst he;refine⟨B.keeps x.toInCall.keep,codeAny_func ?_⟩;obtain⟨t,ht,hq⟩:=h;have I:eI (gN CX P w K mg base N qual scope f a A outer s H E) [] (h8 N vs) H L:=sr S X.hd l hl r x;have I':eI ((gN CX P w K mg base N qual scope f a A outer s H E).exc [(ea,oe)] ea) [] (h8 N vs) H L:=I.exc λp C=>by
  obtain rfl:p=(ea,oe):=by simpa using C
  refine⟨x.toInCall.keep ea oe Y,hn,?_,?_,hc⟩
  .exact aL (aK Y)
  .exact hf
 refine wpAny_mono (ht [] L (h8 N vs) H _ I' hq) (λfl D i=>?_) λe D i=>i.elim;have m:∀{c:St} {d:Hp} {v:V} {u:Vq},eI ((gN CX P w K mg base N qual scope f a A outer s H E).exc [(ea,oe)] ea) [] c d D->gd v u->Q v d->CE outer P w H s Q u D:=λ{c d v u} J F q=>⟨v,d,J.os,J.bare,J.base,J.hok,F,q⟩
 cases fl with
 |ret u=>obtain⟨v,c,d,J,F,q⟩:=i;exact m J F q
 |next=>obtain⟨c,d,J,q⟩:=i;exact m (v:=V.non) J rfl q
 |brk=>obtain⟨_,_,_,q⟩:=i;exact False.elim q
 |cont=>obtain⟨_,_,_,q⟩:=i;exact False.elim q
end
section
variable {X:Cx}{pn:List (Addr×Obj)}{ea Ca:Addr}{oe:Obj}
theorem As{x:Str}{st:Stmt}{N ps:List Str}{k:Nat}{p c:Pos}{a:Expr}{J:TA}{sp:Hp->VK->Prop}(D:eM X.K X.mg x st)(S:f6 N ps (eh st))(hr:fN (k+1) X.A)(Z:(ea,oe)∈pn)(hcl:oe.cls=.ref Ca)(i:ps.length=1)
  (hb:∀(kV g R:Vq) (L:Oq Addr) (b P:Vq) (us:List Vq),us.length=ps.length->bindArgs (W.fnOf x x (gD st) (eZ st) (eh st) .none kV g R L b P) ⟨us,[]⟩=pure (ps.zip us))
  (y:X.stack=X.env::X.outer) (C:X.env.frame=some X.env.locals)
  (d:∀(f:Addr) (b:Vq) (s:Shared) (H:Hp) (Q:VK),sp H Q->∃t,nk ((gN ph X.prog X.w X.K X.mg X.base N x (eh st) f b X.A X.stack s H E0).exc [(ea,oe)] ea) (eZ st) t/\t {nx:=λ_ H'=>Q .non H',rt:=Q} (h8 N [.ref ea]) H)
  (ha:PA (X.exc pn ea) [a] J) (hg:Gl (X.exc pn ea) x) (B:(x==("__debug__" : Str))=false:=by decide) (he:starEach [a] X.env=(false,eval a X.env)::starEach [] X.env:=by rfl) (v:(backTo c (starEach [] X.env)).any (·.1)=false:=by rfl) :
  PE (X.exc pn ea) (.Call (.Name x p) [a] [] c) (λn H Q=>J n H λvs l=>vs=[.ref ea]/\sp l Q):=by
 intro dY s n H Q I h;obtain⟨f,fd,F,m⟩:=D.ex;have U:=F.binds hb;have kp:=F.kp;obtain⟨oc,od,kV,g,R,L,b,P,osl,rfl,lk,o⟩:=F.ex;refine wpAny_Call_Name_kw (mh I hg m ?_ B);refine W.callWith_K I.ok.mod.kin kp (gX (ha c dY s n H _ I h) λus s1 ⟨vs,l,I1,r,ev,q⟩=>⟨I1.kIn,?_⟩) he v;subst ev;obtain⟨u,rfl,ru⟩:=mK r;obtain⟨g1,g2,g3,g4,Y⟩:=I1.pin (ea,oe) (ax _ Z);have hf:ea∉lP X.stack:=λz=>by
  rw[y]at z;have z':ea∈X.env.locals::lP X.outer:=by simpa[lP,C] using z
  rcases aE.mp z' with w|w
  .exact g3 w
  .exact g4 w
 have e0:tT X.prog X.w X.K X.mg X.base X.A X.stack s1 l:=⟨I1.env0.frames,I1.env0.mod,I1.env0.bs,I1.env0.bsz,I1.env0.funs,I1.env0.frf,I1.env0.hok,I1.env0.bare,I1.env0.tab⟩;refine wpAny_call (codeAny_mono (HF (CX:=ph) (E:=E0) (ea:=ea) (oe:=oe) lk o S (vs:=[.ref ea]) (by rw[i];rfl) hr e0 (U s1 [u] I1.kIn (by rw[i];rfl)) r g1 g2 hf Y (d f b s1 l Q q)) λr s' j=>?_);cases r with
 |error e=>exact j.elim
 |ok fl=>
  cases fl with
  |ret u=>exact I1.after j
  |next=>exact False.elim j
  |brk=>exact False.elim j
  |cont=>exact False.elim j
end
end L2
namespace Cu
noncomputable def G(a b:Int):Int:=(Int.gcd a b:Nat)
def AQ a b:G b (Int.fmod a b)=G a b:=by
 unfold G;have e:=Int.fmod_def a b;rw[e];congr 1;apply Nat.dvd_antisymm
 .apply Int.dvd_gcd
  .have f:=cu b (a-b*Int.fdiv a b);have h:=cv b (a-b*Int.fdiv a b);have d:=Int.dvd_add h (cw (c:=Int.fdiv a b) f);have g:a-b*Int.fdiv a b+b*Int.fdiv a b=a:=by omega
   rw[g]at d;exact d
  .exact cu b _
 .apply Int.dvd_gcd
  .exact cv a b
  .exact Int.dvd_sub (cu a b) (cw (cv a b))
def si a b (h:b≠0):(Int.fmod a b).natAbs<b.natAbs:=by
 rcases Int.lt_or_gt_of_ne h with c|c
 .have e:=cy (-a) (show 0 < -b by omega);have d:=cz (-a) (show 0 < -b by omega);rw[Int.neg_fmod_neg]at e d;omega
 .have e:=cy a c;have d:=cz a c;omega
def Js a b:G (a.natAbs:Int) (b.natAbs:Int)=G a b:=by unfold G Int.gcd;rw[cA,cA]
def qr a:G a 0=(a.natAbs:Int):=by unfold G;rw[Int.gcd_zero_right]
def ki a b:0<=G a b:=Int.natCast_nonneg _
def A6 a b (h:b≠0):0<G a b:=by have:=cB a h;unfold G;omega
def jn a b:G a b ∣ a:=cu a b
def iy a b:G a b ∣ b:=cv a b
def DT a b (h:b≠0):G a b<=(b.natAbs:Int):=by have:=cC.mpr (iy a b);have c:=Nat.le_of_dvd (by omega) this;have:=ki a b;omega
structure Kq(t b p q:Int):Prop where
 pos:0<q
 one:G p q=1
 is:p*b=t*q
def qN(k:b≠0)(l:g≠0)(f:g=G t b\/g = - G t b)(e:0<q)(d:t=g*p)(a:b=g*q):Kq t b p q:=by
 refine⟨e,?_,?_⟩
 .have c:Int.gcd t b=g.natAbs*Int.gcd p q:=by rw[d,a,Int.gcd_mul_left]
  have i:g.natAbs=Int.gcd t b:=by unfold G at f;omega
  rw[i]at c;have h:=cB t k;have j:Int.gcd p q=1:=by
   have:Int.gcd t b*1=Int.gcd t b*Int.gcd p q:=by rw[<-c,Nat.mul_one]
   exact (cD h this).symm
  unfold G;rw[j];rfl
 .have:p*(g*q)=g*p*q:=by rw[<-cE,cF p g]
  rw[<-a,<-d]at this;exact this
def kx g p (a:g≠0):Int.fdiv (g*p) g=p:=by exact cG p a
def Bv t b (g:b≠0):Kq t b (Int.fdiv t (if b<0 then-G t b else G t b)) (Int.fdiv b (if b<0 then-G t b else G t b)):=by
 have j:=A6 t b g;obtain⟨p,e⟩:=jn t b;obtain⟨q,f⟩:=iy t b;by_cases h:b<0
 .rw[aP h];have k:t=(-G t b)*(-p):=by rw[Int.neg_mul_neg];exact e
  have c:b=(-G t b)*(-q):=by rw[Int.neg_mul_neg];exact f
  have d:Int.fdiv t (-G t b) = -p:=by have:=kx (-G t b) (-p) (by omega);rw[<-k]at this;exact this
  have i:Int.fdiv b (-G t b) = -q:=by have:=kx (-G t b) (-q) (by omega);rw[<-c]at this;exact this
  rw[d,i];refine qN g (by omega) (Or.inr rfl) ?_ k c;by_cases a:0 < -q
  .exact a
  .exfalso;have:0<=q:=by omega
   have:=Int.mul_nonneg (Int.le_of_lt j) this;omega
 .rw[aQ h];have d:Int.fdiv t (G t b)=p:=by have:=kx (G t b) p (by omega);rw[<-e]at this;exact this
  have i:Int.fdiv b (G t b)=q:=by have:=kx (G t b) q (by omega);rw[<-f]at this;exact this
  rw[d,i];refine qN g (by omega) (Or.inl rfl) ?_ e f;by_cases a:0<q
  .exact a
  .exfalso;have:0<=-q:=by omega
   have:=Int.mul_nonneg (Int.le_of_lt j) this;rw[Int.mul_neg]at this;omega
end Cu
namespace Cu
open PySem PyProof.Rows
open PySem.Builtin.Int (intBits)
def noPy(h:intBits y<=m)(c:m<=8000):PySem.Builtin.divisionGoesByPylong x y=false:=by
 refine PyProof.noPylong_of_log2 ?_;rcases Nat.eq_zero_or_pos y.natAbs with a|b
 .rw[a];decide
 .refine (Nat.log2_lt (bx b)).mpr ?_;exact lt_pow_of_bits h (by omega)
end Cu
namespace L2
open PySem PySem.Spec PyProof.Rows
def zZ:iN X (.builtin "isinstance") (λxs H Q=>∃x T t b,xs=[x,.ty T]/\lz X.K H x t/\W.kitOne X.K t (.type T)=some b/\Q (.bl b) H):=by
 intro f s d H xs g Q I r h;obtain⟨x,T,t,b,rfl,a,e,q⟩:=h;cases r with
 |cons r1 r2=>
  cases r2 with
  |cons r3 r4=>cases r4;cases (r3);exact r6 I r1 a e λc=>⟨.bl b,H,I.tok c,rfl,q⟩
def jh:bootBuiltins "isinstance" = some (.builtin "isinstance"):=by decide +kernel
def tN:bootBuiltins "abs" = some (.builtin "abs"):=by decide +kernel
def wO:bootBuiltins "int" = some (.type "int"):=by decide +kernel
def Es:bootBuiltins "bool" = some (.type "bool"):=by decide +kernel
def gR:bootBuiltins "tuple" = some (.type "tuple"):=by decide +kernel
def iW:bootBuiltins "len" = some (.builtin "len"):=by decide +kernel
end L2
namespace L2
open PySem PySem.W PySem.Spec PyProof.Rows
def yP{l:W.OpenLaw}{n k:Nat}{q:Program}{c:List Str}{XP:(Str->Option Value)->Heap->Prop}{YP:World->Heap->Prop}{d:DefRec}{K:Params->W.Frag}{CX:C6}{sp:W.Frag->Sp}{x:Str}
  (hn:l.most=some n) (E:n<=sizeLine) (J:d.params.defaults=[]) (hr:fN k callerA)
  (hY:∀(w:World) (h:Heap),YP w h->(K w.params).In h)
  (F:∀(w:World) (j:Str->Option Value) (C:Addr) (h:Heap),(K w.params).In h->h.Ns mainGlobals j->j d.name=some (.ref C)->
   ∃fd:FuncData,(∀(s:Shared) (u:Vq),BindsTo s fd ⟨[u],[]⟩ [(x,u)])/\
    ∀base:Heap,(K w.params).In base->base.Ns mainGlobals j->jS l.prog w (K w.params) j base CX k C fd [x] (sp (K w.params)))
  (N:∀(K:W.Frag) (H:Hp) (a:Addr) (m:LI),m.length<=n->(∀z∈m,PySem.Builtin.Int.intBits z<=2 ^ 20)->Gq H->jR K H a (m.map V.int)->sp K [.ref a] H (λv _=>v=.bl true) λ_ _ _=>False)
  (P:∀(H:Hp) (s:Shared) (e:Vq) (B:Shared),CX [] H s (λ_ _ _=>False) e B->False) :
  W.WalkO q c XP YP l.row.toRowW d [] (λf vs=>PySem.call f vs):=by
 intro w S A j mb G Y C o pm cd doc dV kV ho hd hcd R I hg X vals as y t hrd D hlo;obtain rfl:dV=.none:=Dflts.none R J;obtain rfl:kV=.none:=Dflts.noKw R;obtain⟨a,vs,m,rfl,rfl,p,i,Z⟩:=Att.script_of hn y D;have hb:∀z∈m,PySem.Builtin.Int.intBits z<=2 ^ 20:=λz hz=>by have h1:=(layW_cons t).1;have L:=layableW_item h1 (WData.int z) (aC.mpr ⟨z,hz,rfl⟩);exact PyData.bits_of_layable (layable_int L)
 have U:=hY w _ Y;obtain⟨fd,Q,hF⟩:=F w j C _ U G.T.g I;refine enter_call (codeAny_mono (Bh U G.T.g G.T.b G.T.builtins G.T.nolimit hg p i (aM Z E) hr hF Q (λH hO hS=>N _ H a m Z hb hO hS) λH e B=>P H A e B) λr B hq=>?_);obtain⟨rfl,L,h3,h4⟩:=hq;exact⟨.inl ⟨.bool true,.bool true,[],rfl,λ_=>rfl,.bool true,Att.post_true l _,λ_=>⟨List.Pairwise.nil,λ_ hm=>(nomatch hm)⟩⟩,L,h3,h4⟩
end L2
namespace C4
def KH(c e:LI):Prop:=∀i j,i<c.length->j<c.length->c.getD i 0*e.getD j 0=c.getD j 0*e.getD i 0
def par_of_place(b:c.getD p 0≠0)(h:∀i,i<c.length->c.getD i 0*e.getD p 0=e.getD i 0*c.getD p 0):KH c e:=λi j g l=>by have d:=h i g;have k:=h j l;refine Int.eq_of_mul_eq_mul_right b ?_;have f:c.getD i 0*e.getD j 0*c.getD p 0=c.getD i 0*(e.getD j 0*c.getD p 0):=cE _ _ _;have a:c.getD j 0*e.getD i 0*c.getD p 0=c.getD j 0*(e.getD i 0*c.getD p 0):=cE _ _ _;rw[f,a,<-d,<-k,<-cE,<-cE,cF (c.getD i 0) (c.getD j 0)]
end C4
namespace L3
open PySem L2
inductive T where
 |non|bl (b:Bool)|int (i:Int)|str (x:Str)
 |tup (ts:List T)|lst (ts:List T)|scr (ns:LI)
 |obj (C:Addr) (fs:List (Str×T))|emp
 |dic (kvs:List (LI×T))
inductive M(α:Type) where
 |bad|ok (a:α)|er (C:Addr) (n:Oq Int)
namespace M
noncomputable def bind{c b:Type}(m:M c)(k:c->M b):M b:=match m with
 |.bad=>.bad
 |.ok a=>k a
 |.er C n=>.er C n
instance:Monad M where
 pure:=.ok
 bind:=M.bind
noncomputable def res{b:Type}(m:M b)(P:b->Prop)(E:Addr->Option Int->Prop):Prop:=match m with
 |.bad=>False
 |.ok a=>P a
 |.er C n=>E C n
def res.unb{m:M α}{k:α->M β}{P:β->Prop}(h:res (m.bind k) P E):res m (λa=>res (k a) P E) E:=by cases m<;>exact h
def res.mono{m:M α}{P b:α->Prop}(h:res m P E)(c:∀a,P a->b a)(d:∀C n,E C n->E' C n):res m b E':=by
 cases m with
 |bad=>exact h
 |ok a=>exact c a h
 |er C n=>exact d C n h
noncomputable def noEr{a:Type}(m:M a):M a:=match m with
 |.er _ _=>.bad
 |m=>m
def res.noEr{m:M α}{P:α->Prop}(h:res m.noEr P E):res m P E':=by
 cases m with
 |bad=>exact h
 |ok a=>exact h
 |er C n=>exact h.elim
@[simp] theorem bind_ok a (k:α->M β):M.bind (.ok a) k=k a:=rfl
@[simp] theorem Jq(k:α->M β):M.bind (.bad:M α) k=.bad:=rfl
@[simp] theorem JO C n (k:α->M β):M.bind (.er C n:M α) k=.er C n:=rfl
noncomputable def NoE{a:Type}(m:M a):Prop:=∀C n,m≠.er C n
def res.ne{m:M α}{P:α->Prop}(h:res m P E)(ne:NoE m):res m P E':=by
 cases m with
 |bad=>exact h
 |ok a=>exact h
 |er C n=>exact absurd rfl (ne C n)
@[simp] theorem noEr_ok(a:α):noEr (.ok a)=.ok a:=rfl
end M
mutual
inductive iS(K:W.Frag)(F:Hp):V->T->Prop
 |non:iS K F .non .non
 |bl (b:Bool):iS K F (.bl b) (.bl b)
 |int (i:Int):iS K F (.int i) (.int i)
 |str (x:Str):iS K F (.str x) (.str x)
 |tup {a:Addr} {xs:List V} {ts:List T} (h:F a=some (.tup xs)) (r:eP K F xs ts):iS K F (.ref a) (.tup ts)
 |lst {a:Addr} {xs:List V} {ts:List T} (h:F a=some (.lst xs)) (r:eP K F xs ts):iS K F (.ref a) (.lst ts)
 |scr {a:Addr} {ns:LI} (h:jR K F a (ns.map V.int)):iS K F (.ref a) (.scr ns)
 |obj {a C dx:Addr} {fs:List (Str×V)} {ts:List (Str×T)} (h:F a=some (.ins C dx fs)) (r:kP K F fs ts):iS K F (.ref a) (.obj C ts)
 |emp {a:Addr} (h:F a=some (.dK [])):iS K F (.ref a) .emp
 |dic {a:Addr} {xs:List (List nU×V)} {kvs:List (LI×T)} (h:F a=some (.dT xs)) (r:tK K F xs kvs):iS K F (.ref a) (.dic kvs)
inductive eP(K:W.Frag)(F:Hp):List V->List T->Prop
 |nil:eP K F [] []
 |cons {v:V} {t:T} {vs:List V} {ts:List T} (h:iS K F v t) (r:eP K F vs ts):eP K F (v::vs) (t::ts)
inductive kP(K:W.Frag)(F:Hp):List (Str×V)->List (Str×T)->Prop
 |nil:kP K F [] []
 |cons {x:Str} {v:V} {t:T} {vs:List (Str×V)} {ts:List (Str×T)} (h:iS K F v t) (r:kP K F vs ts):kP K F ((x,v)::vs) ((x,t)::ts)
inductive tK(K:W.Frag)(F:Hp):List (List nU×V)->List (LI×T)->Prop
 |nil:tK K F [] []
 |cons {k:LI} {v:V} {t:T} {vs:List (List nU×V)} {ts:List (LI×T)} (h:iS K F v t) (r:tK K F vs ts):tK K F ((k.map Sum.inl,v)::vs) ((k,t)::ts)
end
section
variable {K:W.Frag}{F F':Hp}
mutual
theorem iS.mono(s:eJ F F'):∀{v} {t},iS K F v t->iS K F' v t
 |_,_,.non=>.non
 |_,_,.bl b=>.bl b
 |_,_,.int i=>.int i
 |_,_,.str x=>.str x
 |_,_,.tup h r=>.tup (s _ _ h) (eP.mono s r)
 |_,_,.lst h r=>.lst (s _ _ h) (eP.mono s r)
 |_,_,.scr h=>.scr (s.seq h)
 |_,_,.obj h r=>.obj (s _ _ h) (kP.mono s r)
 |_,_,.emp h=>.emp (s _ _ h)
 |_,_,.dic h r=>.dic (s _ _ h) (tK.mono s r)
theorem eP.mono(s:eJ F F'):∀{vs} {ts},eP K F vs ts->eP K F' vs ts
 |_,_,.nil=>.nil
 |_,_,.cons h r=>.cons (iS.mono s h) (eP.mono s r)
theorem kP.mono(s:eJ F F'):∀{vs} {ts},kP K F vs ts->kP K F' vs ts
 |_,_,.nil=>.nil
 |_,_,.cons h r=>.cons (iS.mono s h) (kP.mono s r)
theorem tK.mono(s:eJ F F'):∀{vs} {ts},tK K F vs ts->tK K F' vs ts
 |_,_,.nil=>.nil
 |_,_,.cons h r=>.cons (iS.mono s h) (tK.mono s r)
end
theorem eP.length:∀{vs} {ts},eP K F vs ts->vs.length=ts.length
 |_,_,.nil=>rfl
 |_,_,.cons _ r=>by rw[ay,ay,eP.length r]
theorem eP.get:∀{vs:List V} {ts:List T} {i:Nat} {t:T},eP K F vs ts->ts[i]? = some t->∃v,vs[i]? = some v/\iS K F v t
 |_,_,_,_,.nil,e=>by simp at e
 |_,_,0,_,.cons h _,e=>by simp at e;subst e;exact⟨_,rfl,h⟩
 |_,_,i+1,_,.cons _ r,e=>by obtain⟨v,a,h⟩:=eP.get r (by simpa using e);exact⟨v,by simpa using a,h⟩
def eP.at_{i:Nat}(r:eP K F vs ts)(e:vs[i]? = some v):∃t,ts[i]? = some t/\iS K F v t:=by
 have b:i<ts.length:=by rw[<-r.length];exact (aa.mp e).1
 obtain⟨c,a,h⟩:=r.get (ag b);rw[e]at a;cases a;exact⟨_,ag b,h⟩
theorem eP.append:∀{vs us} {ts ss},eP K F vs ts->eP K F us ss->eP K F (vs++us) (ts++ss)
 |_,_,_,_,.nil,q=>q
 |_,_,_,_,.cons h r,q=>.cons h (eP.append r q)
theorem eP.set(q:iS K F v t):∀{vs} {ts} i,eP K F vs ts->eP K F (vs.set i v) (ts.set i t)
 |_,_,_,.nil=>.nil
 |_,_,0,.cons _ r=>.cons q r
 |_,_,i+1,.cons h r=>.cons h (eP.set q i r)
theorem eP.take:∀{vs} {ts} n,eP K F vs ts->eP K F (vs.take n) (ts.take n)
 |_,_,0,_=>.nil
 |_,_,_+1,.nil=>.nil
 |_,_,n+1,.cons h r=>.cons h (eP.take n r)
theorem eP.drop:∀{vs} {ts} n,eP K F vs ts->eP K F (vs.drop n) (ts.drop n)
 |_,_,0,r=>r
 |_,_,_+1,.nil=>.nil
 |_,_,n+1,.cons _ r=>eP.drop n r
theorem eP.rep:∀{vs} {ts} n,eP K F vs ts->eP K F (List.replicate n vs).flatten (List.replicate n ts).flatten
 |_,_,0,_=>.nil
 |_,_,n+1,r=>by rw[bR,bR,bS,bS];exact r.append (eP.rep n r)
theorem eP.bls:∀{vs:List V} {a:List Bool},eP K F vs (a.map T.bl)->vs=a.map V.bl
 |_,[],.nil=>rfl
 |_,_::_,.cons h r=>by cases h;rw[eP.bls r];rfl
theorem eP.of_ints:∀(a:LI),eP K F (a.map V.int) (a.map T.int)
 |[]=>.nil
 |n::a=>.cons (.int n) (eP.of_ints a)
theorem kP.look:∀{fs} {ts},kP K F fs ts->ts.lookup f=some t->∃v,fs.lookup f=some v/\iS K F v t
 |_,_,.nil,e=>by cases e
 |_,_,.cons (x:=x) h r,e=>by
  by_cases a:f=x
  .subst a;rw[cH]at e;cases e;exact⟨_,cH,h⟩
  .have b:(f==x)=false:=by simpa using a
   rw[b0,b]at e;obtain⟨v,c,d⟩:=kP.look r e;exact⟨v,by rw[b0,b];exact c,d⟩
theorem kP.none_:∀{fs} {ts},kP K F fs ts->ts.lookup f=none->fs.lookup f=none
 |_,_,.nil,e=>rfl
 |_,_,.cons (x:=x) h r,e=>by
  by_cases a:f=x
  .subst a;rw[cH]at e;cases e
  .have b:(f==x)=false:=by simpa using a
   rw[b0,b]at e ⊢;exact kP.none_ r e
end
def sV(h:zU o (some u))(a:∀q ps,u≠.tbl q ps):o=u:=by
 cases o with
 |tbl q ps=>obtain⟨m,e⟩:=h;exact absurd (Option.some.inj e) (a _ _)
 |_=>exact (Option.some.inj h).symm
def Fs{x y:Oq HO}(h:zU o x)(k:∀a,x=some a->zU a y):zU o y:=by
 cases o with
 |tbl q ps=>obtain⟨m,e⟩:=h;obtain⟨c,b⟩:=k _ e;exact⟨m++c,by rw[b,br]⟩
 |_=>exact k _ h
def qB{H:Hp}(h:zU u (H b))(a:H p=none):b≠p:=λz=>h.ne (by rw[z];exact a)
structure Gr(F H F' H':Hp):Prop where
 ff:eJ F F'
 fh:eJ F' H'
 hh:eJ H H'
 nw:∀a,F' a≠none->F a≠none\/H a=none\/∃xs,H a=some (.tup xs)
def Gr.refl(h:eJ F H):Gr F H F H:=⟨.refl _,h,.refl _,λ_ h=>.inl h⟩
def eU(h:eJ H H')(e:H' a=none):H a=none:=by
 cases q:H a with
 |none=>rfl
 |some o=>exact absurd e (h a o q).ne
def Gr.trans(g:Gr F H F' H')(b:Gr F' H' F'' H''):Gr F H F'' H'':=
 ⟨g.ff.trans b.ff,b.fh,g.hh.trans b.hh,λa c=>by
  rcases b.nw a c with q|q|⟨d,q⟩
  .exact g.nw a q
  .exact .inr (.inl (eU g.hh q))
  .cases z:H a with
   |none=>exact .inr (.inl rfl)
   |some o=>exact .inr (.inr ⟨d,by have k:=g.hh a o z;rw[q]at k;rw[sV k λ_ _ y=>nomatch y]⟩)⟩
def Gr.new(s:eJ F H)(h:H p=none):Gr F H (gI F p o) (gI H p o):=by
 have c:=eU s h;refine⟨λb u e=>?_,λb u e=>?_,λb u e=>?_,λb a=>?_⟩
 .rw[eF (eX e c)];exact .of e
 .by_cases q:b=p
  .subst q;rw[eE]at e ⊢;exact .of e
  .rw[eF q]at e ⊢;exact s b u e
 .rw[eF (eX e h)];exact .of e
 .by_cases q:b=p
  .subst q;exact .inr (.inl h)
  .rw[eF q]at a;exact .inl a
def Gr.new'(s:eJ F H)(h:H p=none):Gr F H F (gI H p o):=by
 refine⟨.refl _,λb u e=>?_,λb u e=>?_,λb a=>.inl a⟩
 .rw[eF (qB (s b u e) h)];exact s b u e
 .rw[eF (eX e h)];exact .of e
def Gr.take(g:Gr F0 H0 F H)(h:H p=some o)(d:F p=none)(c:H0 p=none):Gr F0 H0 (gI F p o) H:=by
 refine⟨λb u e=>?_,λb u e=>?_,g.hh,λb a=>?_⟩
 .rw[eF (qB (g.ff b u e) d)];exact g.ff b u e
 .by_cases q:b=p
  .subst q;rw[eE]at e;cases e;exact .of h
  .rw[eF q]at e;exact g.fh b u e
 .by_cases q:b=p
  .subst q;exact .inr (.inl c)
  .rw[eF q]at a;exact g.nw b a
def fz(a:F p=none):eJ F (gI F p o):=λb u e=>by rw[eF (eX e a)];exact .of e
abbrev Pe:=List (Option T)
section
variable (K:W.Frag)
def jk(F:Hp)(a:St)(ρ:Pe):Prop:=∀(i:Nat) (t:T),ρ[i]? = some (some t)->∃v,a[i]? = some (some v)/\iS K F v t
def jk.mono{K:W.Frag}(h:jk K F σ ρ)(s:eJ F F'):jk K F' σ ρ:=λi t e=>let ⟨v,a,b⟩:=h i t e;⟨v,a,b.mono s⟩
def KA(E:XK)(C:Addr)(n:Oq Int)(F H:Hp):Prop:=match n with
 |none=>E (.ref C) none H
 |some i=>∀a,F a=some (.xd [("at",.int i)])->E (.ref C) (some a) H
def kE(E:XK)(F H:Hp)(C:Addr)(n:Oq Int):Prop:=∀b a,Gr F H b a->KA E C n b a
def kE.go(h:kE E F H C n)(g:Gr F H F1 H1):kE E F1 H1 C n:=λb c a=>h b c (g.trans a)
def kV(F H:Hp)(Q:VK)(t:T):Prop:=∀v a b,Gr F H a b->iS K a v t->Q v b
def kB(F H:Hp)(Q:Bool->Hp->Prop)(b:Bool):Prop:=∀c a,Gr F H c a->Q b a
def kA(F H:Hp)(Q:List V->Hp->Prop)(ts:List T):Prop:=∀a b c,Gr F H b c->eP K b a ts->Q a c
def kF(F H:Hp)(Q:VK)(ts:List T):Prop:=∀l c a b,Gr F H a b->H l=none->a l=none->b l=some (.lst c)->eP K a c ts->Q (.ref l) b
noncomputable def ME(E:XK)(t:TE)(f:Pe->M T):Prop:=∀F H a b Q,eJ F H->jk K F a b->(f b).res (kV K F H Q) (kE E F H)->t a H Q
noncomputable def MT(E:XK)(t:TT)(f:Pe->M Bool):Prop:=∀F H a b Q,eJ F H->jk K F a b->(f b).res (kB F H Q) (kE E F H)->t a H Q
noncomputable def MA(E:XK)(t:TA)(f:Pe->M (List T)):Prop:=∀F H a b Q,eJ F H->jk K F a b->(f b).res (kA K F H Q) (kE E F H)->t a H Q
noncomputable def MF(E:XK)(t:TE)(f:Pe->M (List T)):Prop:=∀F H a b Q,eJ F H->jk K F a b->(f b).res (kF K F H Q) (kE E F H)->t a H Q
end
section
variable {K:W.Frag}{E:XK}{t u ta tb:TE}{f g fa fb:Pe->M T}
def kV.go{t:T}(h:kV K F H Q t)(g:Gr F H F1 H1):kV K F1 H1 Q t:=λv b c a r=>h v b c (g.trans a) r
def kB.go{t:Bool}(h:kB F H Q t)(g:Gr F H F1 H1):kB F1 H1 Q t:=λb c a=>h b c (g.trans a)
def kF.go{t:List T}(h:kF K F H Q t)(g:Gr F H F1 H1):kF K F1 H1 Q t:=λl e j k i a b c d=>h l e j k (g.trans i) (eU g.hh a) b c d
def kV.now{t:T}(h:kV K F H Q t)(s:eJ F H)(r:iS K F v t):Q v H:=h v F H (.refl s) r
def kF.of(h:kV K F H Q (.lst ts)):kF K F H Q ts:=λl c d i g e b a r=>h (.ref l) (gI d l (.lst c)) i (g.take a b e) (.lst eE (r.mono (fz b)))
def MF.me{f:Pe->M (List T)}(h:MF K E t f):ME K E t (λρ=>(f ρ).bind λts=>.ok (.lst ts)):=λF H a ρ Q s V r=>h F H a ρ Q s V ((M.res.unb r).mono (λts q=>kF.of q) λ_ _ z=>z)
def ME.run{k:T->M α}{P:α->Prop}(h:ME K E t f)(s:eJ F H)(v:jk K F σ ρ)(r:((f ρ).bind k).res P (kE E F H))
  (c:∀x w a b,Gr F H a b->iS K a w x->(k x).res P (kE E a b)->Q w b):t σ H Q:=
 h F H σ ρ Q s v ((M.res.unb r).mono (λx q w a b g d=>c x w a b g d (q.mono (λ_ z=>z) λ_ _ z=>z.go g)) λ_ _ z=>z)
def MT.run{t:TT}{f:Pe->M Bool}{k:Bool->M α}{P:α->Prop}(h:MT K E t f)(s:eJ F H)(v:jk K F σ ρ)(r:((f ρ).bind k).res P (kE E F H))
  (c:∀x b a,Gr F H b a->(k x).res P (kE E b a)->Q x a):t σ H Q:=
 h F H σ ρ Q s v ((M.res.unb r).mono (λx q b a g=>c x b a g (q.mono (λ_ z=>z) λ_ _ z=>z.go g)) λ_ _ z=>z)
def MA.run{t:TA}{f:Pe->M (List T)}{k:List T->M α}{P:α->Prop}(h:MA K E t f)(s:eJ F H)(v:jk K F σ ρ)(r:((f ρ).bind k).res P (kE E F H))
  (c:∀x w a b,Gr F H a b->eP K a w x->(k x).res P (kE E a b)->Q w b):t σ H Q:=
 h F H σ ρ Q s v ((M.res.unb r).mono (λx q w a b g d=>c x w a b g d (q.mono (λ_ z=>z) λ_ _ z=>z.go g)) λ_ _ z=>z)
@[simp] noncomputable def dW(i:Nat):Pe->M T:=λa=>match a[i]? with
 |some (some t)=>.ok t
 |_=>.bad
def Hw:ME K E (jN i) (dW i):=λF H b c Q s V r=>by
 unfold dW at r;split at r
 .rename_i t e;obtain⟨v,a,h⟩:=V i t e;exact⟨v,a,r.now s h⟩
 .exact r.elim
@[simp] noncomputable def cM(t:T):Pe->M T:=λ_=>.ok t
def AI{t:T}(h:∀F,iS K F v t):ME K E (tC v) (cM t):=λF H a b Q s V r=>kV.now r s (h F)
@[simp] noncomputable def ey(o:T->T->M T)(fa fb:Pe->M T):Pe->M T:=λa=>(fa a).bind λx=>(fb a).bind λy=>o x y
structure MR(K:W.Frag)(r:R2)(o:T->T->M T):Prop where
 ne:∀x y,M.NoE (o x y)
 ok:∀F H v w x y Q,eJ F H->iS K F v x->iS K F w y->(o x y).res (kV K F H Q) (λ_ _=>False)->r v w H Q
def yn(c:MR K r o)(d:ME K E ta fa)(m:ME K E tb fb):ME K E (oq r ta tb) (ey o fa fb):=λF H n A Q s V q=>by refine d.run s V q λx v p B a e i=>?_;refine m.run a.fh (V.mono a.ff) i λy w k j b h l=>?_;exact c.ok k j v w x y Q b.fh (e.mono b.ff) h ((l.ne (c.ne x y)).mono (λ_ z=>z.go (a.trans b)) λ_ _ z=>z)
noncomputable def jf(C:Int->Int->Bool)(g:Int->Int->T):T->T->M T
 |.int i,.int j=>if C i j then .ok (g i j) else .bad
 |_,_=>.bad
def uQ{g:Int->Int->T} x y:M.NoE (jf C g x y):=λa n=>by
 unfold jf;split
 .split<;>exact λz=>nomatch z
 .exact λz=>nomatch z
def iS.int_inv(h:iS K F v (.int i)):v=.int i:=by cases h;rfl
def iS.lst_inv(h:iS K F v (.lst ts)):∃a xs,v=.ref a/\F a=some (.lst xs)/\eP K F xs ts:=by cases h;exact⟨_,_,rfl,‹_›,‹_›⟩
def iS.tup_inv(h:iS K F v (.tup ts)):∃a xs,v=.ref a/\F a=some (.tup xs)/\eP K F xs ts:=by cases h;exact⟨_,_,rfl,‹_›,‹_›⟩
def eP.two(h:eP K F vs [.int i,.int j]):vs=[.int i,.int j]:=by
 cases h with
 |cons h t=>
  cases t with
  |cons h2 t=>cases t;rw[h.int_inv,h2.int_inv]
def tU{g:Int->Int->V}(c:∀i j,Cb i j=true->C i j)(d:∀F i j,iS K F (g i j) (gt i j)):MR K (rI C g) (jf Cb gt):=⟨uQ,λF H v w x y Q s a b q=>by
 unfold jf at q;split at q
 .rename_i i j;rw[a.int_inv,b.int_inv];by_cases h:Cb i j=true
  .rw[aP h]at q;exact⟨i,j,rfl,rfl,c i j h,kV.now q s (d F i j)⟩
  .rw[aQ h]at q;exact q.elim
 .exact q.elim⟩
def ng{g:Int->Int->V}(c:∀F i j,iS K F (g i j) (gt i j)):MR K (wu g) (jf (λ_ _=>true) gt):=⟨uQ,λF H v w x y Q s a b q=>by
 unfold jf at q;split at q
 .rw[a.int_inv,b.int_inv];exact⟨_,_,rfl,rfl,kV.now q s (c F _ _)⟩
 .exact q.elim⟩
@[simp] noncomputable def rJ(o:Int->T)(fa:Pe->M T):Pe->M T:=λa=>(fa a).bind λx=>match x with
 |.int i=>.ok (o i)
 |_=>.bad
def IB{g:Int->V}(j:∀F i,iS K F (g i) (gt i))(c:ME K E ta fa):ME K E (JX (rU g) ta) (rJ gt fa):=λF H k l Q s V q=>by
 refine c.run s V q λx v b h e d a=>?_;cases d<;>first
  |exact a.elim
  |exact⟨_,rfl,a _ b h e (j b _)⟩
@[simp] noncomputable def fH(fa:Pe->M T):Pe->M Bool:=λa=>(fa a).bind λx=>match x with
 |.bl b=>.ok b
 |_=>.bad
def Dy(d:ME K E ta fa):MT K E (tB ta) (fH fa):=λF H i j Q s V q=>by
 refine d.run s V q λx v e b c h a=>?_;cases h<;>first
  |exact a.elim
  |exact⟨_,rfl,a e b c⟩
def Ew(a:ME K E ta fa):MT K E (qU ta) (fH fa):=Dy a
section
variable {c d:TT}{fc fd:Pe->M Bool}
@[simp] noncomputable def lO(fc fd:Pe->M Bool):Pe->M Bool:=λa=>(fc a).bind λb=>if b then fd a else .ok false
@[simp] noncomputable def oz(fc fd:Pe->M Bool):Pe->M Bool:=λa=>(fc a).bind λb=>if b then .ok true else fd a
@[simp] noncomputable def jI(fc:Pe->M Bool):Pe->M Bool:=λa=>(fc a).bind λb=>.ok (!b)
def Gb(l:MT K E c fc)(m:MT K E d fd):MT K E (Gc c d) (lO fc fd):=λF H j k Q s V q=>by
 refine l.run s V q λb i e a h=>?_;cases b with
 |true=>rw[aP rfl];exact m i e j k Q a.fh (V.mono a.ff) (h.mono (λ_ z=>z.go a) λ_ _ z=>z)
 |false=>rw[aQ aG];exact h i e a
def Im(l:MT K E c fc)(m:MT K E d fd):MT K E (JC c d) (oz fc fd):=λF H j k Q s V q=>by
 refine l.run s V q λb i e a h=>?_;cases b with
 |true=>rw[aP rfl];exact h i e a
 |false=>rw[aQ aG];exact m i e j k Q a.fh (V.mono a.ff) (h.mono (λ_ z=>z.go a) λ_ _ z=>z)
def Gi(j:MT K E c fc):MT K E (E2 c) (jI fc):=λF H k l Q s V q=>by refine j.run s V q λb i a h e=>?_;exact e i a h
end
@[simp] noncomputable def zK(fa fb:Pe->M T):Pe->M T:=λa=>(fH fa a).bind λb=>if b then fb a else .ok (.bl false)
@[simp] noncomputable def Cr(fa:Pe->M T):Pe->M T:=λa=>(fH fa a).bind λb=>.ok (.bl (!b))
def DW(j:ME K E ta fa)(k:ME K E tb fb):ME K E (Cy ta tb) (zK fa fb):=λF H h i Q s V q=>by
 refine (Dy j).run s V q λb e c a d=>?_;cases b with
 |true=>rw[aP rfl];exact k e c h i Q a.fh (V.mono a.ff) (d.mono (λ_ z=>z.go a) λ_ _ z=>z)
 |false=>rw[aQ aG];exact d _ e c a (.bl _)
def EG(e:ME K E ta fa):ME K E (AW ta) (Cr fa):=λF H i j Q s V q=>by refine (Dy e).run s V q λb h a d c=>?_;exact c _ h a d (.bl _)
@[simp] noncomputable def dX(fa:Pe->M T)(fr:Pe->M (List T)):Pe->M (List T):=λa=>(fa a).bind λx=>(fr a).bind λb=>.ok (x::b)
@[simp] noncomputable def d8:Pe->M (List T):=λ_=>.ok []
def v7:MA K E kH d8:=λF H a b Q s V q=>q [] F H (.refl s) .nil
def EB{b:TA}{fr:Pe->M (List T)}(d:ME K E ta fa)(k:MA K E b fr):MA K E (iA ta b) (dX fa fr):=λF H o r Q s V q=>by refine d.run s V q λx v p w a e i=>?_;refine k.run a.fh (V.mono a.ff) i λy m l j c h n=>?_;exact n (v::m) l j (a.trans c) (.cons (e.mono c.ff) h)
@[simp] noncomputable def zw(ts:List T):M (List T):=if ts.length<=sizeLine then .ok ts else .bad
@[simp] noncomputable def mD(fr:Pe->M (List T)):Pe->M T:=λb=>(fr b).bind λa=>(zw a).bind λa=>.ok (.tup a)
@[simp] noncomputable def lstM(fr:Pe->M (List T)):Pe->M (List T):=λa=>(fr a).bind zw
def Gz{d:TA}{fr:Pe->M (List T)}(i:MA K E d fr):ME K E (Hg d) (mD fr):=λF H k m Q s V q=>by
 refine i.run s V q λj o l n b c a=>?_;unfold zw at a;by_cases h:j.length<=sizeLine
 .rw[aP h]at a;refine⟨by rw[c.length];exact h,λp e=>?_⟩;exact a (.ref p) _ _ (b.trans (.new b.fh e)) (.tup eE (c.mono (Gr.new b.fh e).ff))
 .rw[aQ h]at a;exact a.elim
def FQ{e:TA}{fr:Pe->M (List T)}(j:MA K E e fr):MF K E (Ay e) (lstM fr):=λF H m n Q s V q=>by
 refine j.run s V q λl k i o b d a=>?_;unfold zw at a;by_cases h:l.length<=sizeLine
 .rw[aP h]at a;refine⟨by rw[d.length];exact h,λp c=>?_⟩;exact a p k i _ (b.trans (.new' b.fh c)) (eU b.hh c) (eU b.fh c) eE d
 .rw[aQ h]at a;exact a.elim
end
end L3
namespace L3
open PySem L2
inductive W where
 |p (t:T)|o (ts:List T)|d (kvs:List (LI×T))
abbrev En:=List (Option W)
@[simp] def Kk:Oq W->Option T
 |some (.p t)=>some t
 |_=>none
@[simp] def Kw:Oq W->Option T
 |some (.p t)=>some t
 |some (.o ts)=>some (.lst ts)
 |_=>none
@[simp] noncomputable def jY(ρ:En):Pe:=ρ.map Kk
@[simp] noncomputable def vw(ρ:En):Pe:=ρ.map Kw
mutual
@[simp] noncomputable def lf:T->Bool
 |.lst _=>false
 |.scr _=>false
 |.dic _=>false
 |.tup ts=>y0 ts
 |.obj _ fs=>Jz fs
 |_=>true
@[simp] noncomputable def y0:List T->Bool
 |[]=>true
 |t::ts=>lf t&&y0 ts
noncomputable def Jz:List (Str×T)->Bool
 |[]=>true
 |t::ts=>lf t.2&&Jz ts
end
structure Fz where
 hp:Hp
 lt:List (Nat×Addr×List V)
instance:Coe Fz Hp:=⟨Fz.hp⟩
structure Lv(H0 F H:Hp)(σ:St)(ρ:En)(e:Nat×Addr×List V):Prop where
 h:H e.2.1=some (.lst e.2.2)
 f:F e.2.1=none
 z:H0 e.2.1=none
 d:∀(i:Nat) (ts:List T),ρ[i]? = some (some (.o ts))->σ[i]?≠some (some (.ref e.2.1))
def DR(K:W.Frag)(F:Hp)(xs:List (List nU×V))(a:List (LI×T)):Prop:=Paired (λ(p:List nU×V) (q:LI×T)=>p.1=q.1.map Sum.inl/\iS K F p.2 q.2) xs a
def DR.mono(s:eJ F F')(h:DR K F xs kvs):DR K F' xs kvs:=Paired.imp' (λ_ _ q=>⟨q.1,q.2.mono s⟩) h
structure Dv(K:W.Frag)(H0 F H:Hp)(σ:St)(ρ:En):Prop where
 at_:∀(i:Nat) kvs,ρ[i]? = some (some (.d kvs))->∃a,σ[i]? = some (some (.ref a))/\F a=none/\H0 a=none/\∃xs,H a=some (.dT xs)/\DR K F xs kvs
 dj:∀(i j:Nat) kvs kvs',ρ[i]? = some (some (.d kvs))->ρ[j]? = some (some (.d kvs'))->i≠j->σ[i]?≠σ[j]?
def zF{a:Type}{l:List a}{x y:a}(h:(l.set i x)[i]? = some y):y=x:=by
 rw[List.getElem?_set]at h;simp only[if_true]at h;split at h
 .exact (Option.some.inj h).symm
 .cases h
def zh{a:Type}{l:List a}{x y:a}(h:(l.set i x)[j]? = some y):(j=i/\y=x)\/(j≠i/\l[j]? = some y):=by
 by_cases e:j=i
 .subst e;exact .inl ⟨rfl,zF h⟩
 .rw[aq (λz=>e z.symm)]at h;exact .inr ⟨e,h⟩
def Dv.heap(d:Dv K H0 F H σ ρ)(s:eJ F F')(h:∀a xs,H a=some (.dT xs)->F a=none->F' a=none/\H' a=some (.dT xs)):Dv K H0 F' H' σ ρ:=⟨λi b e=>let ⟨a,e1,e2,e3,xs,e4,e5⟩:=d.at_ i b e;let ⟨h1,h2⟩:=h a xs e4 e2;⟨a,e1,h1,e3,xs,h2,e5.mono s⟩,d.dj⟩
def Dv.set(d:Dv K H0 F H σ ρ)(hw:∀b,w≠some (.d b)):Dv K H0 F H (σ.set i v) (ρ.set i w):=by
 refine⟨λj b e=>?_,λj k b c e m g=>?_⟩
 .rcases zh e with⟨rfl,q⟩|⟨h,q⟩
  .exact absurd q.symm (hw b)
  .obtain⟨a,l,r⟩:=d.at_ j b q;exact⟨a,by rw[aq (λz=>h z.symm)];exact l,r⟩
 .rcases zh e with⟨rfl,q⟩|⟨h,q⟩
  .exact absurd q.symm (hw b)
  .rcases zh m with⟨rfl,f⟩|⟨n,f⟩
   .exact absurd f.symm (hw c)
   .rw[aq (λz=>h z.symm),aq (λz=>n z.symm)];exact d.dj j k b c q f g
def Dv.setR(d:Dv K H0 F H σ ρ)(hw:∀a,w≠some (.d a)):Dv K H0 F H σ (ρ.set i w):=by
 refine⟨λj a e=>?_,λj k a b e g f=>?_⟩
 .rcases zh e with⟨rfl,q⟩|⟨h,q⟩
  .exact absurd q.symm (hw a)
  .exact d.at_ j a q
 .rcases zh e with⟨rfl,q⟩|⟨h,q⟩
  .exact absurd q.symm (hw a)
  .rcases zh g with⟨rfl,c⟩|⟨l,c⟩
   .exact absurd c.symm (hw b)
   .exact d.dj j k a b q c f
structure Sr(K:W.Frag)(F0:Fz)(H0 F H:Hp)(σ:St)(ρ:En):Prop where
 gr:Gr F0.hp H0 F H
 len:σ.length=ρ.length
 pv:∀(i:Nat) (t:T),ρ[i]? = some (some (.p t))->∃v,σ[i]? = some (some v)/\iS K F v t
 ov:∃ad:Nat->Addr,(∀(i:Nat) (ts:List T),ρ[i]? = some (some (.o ts))->σ[i]? = some (some (.ref (ad i)))/\F (ad i)=none/\H0 (ad i)=none/\∃vs,H (ad i)=some (.lst vs)/\eP K F vs ts)/\
  ∀(i j:Nat) (ts us:List T),ρ[i]? = some (some (.o ts))->ρ[j]? = some (some (.o us))->i≠j->ad i≠ad j
 lv:∀e∈F0.lt,Lv H0 F H σ ρ e
 sl:∀(j:Nat) (l:Addr) (vs:List V),F0.lt.lookup j=some (l,vs)->ρ[j]? = some none->σ[j]? = some (some (.ref l))
 dv:Dv K H0 F H σ ρ
section
variable {K:W.Frag}{F0:Fz}{H0 F H F' H':Hp}{σ:St}{ρ:En}
def Sr.vars(r:Sr K F0 H0 F H σ ρ):jk K F σ (jY ρ):=λi t e=>by
 unfold jY at e;rw[av]at e;cases q:ρ[i]? with
 |none=>rw[q]at e;cases e
 |some w=>
  rw[q]at e;cases w with
  |none=>cases e
  |some w=>
   cases w with
   |p t'=>cases e;exact r.pv i _ q
   |o ts=>cases e
   |d kvs=>cases e
def Sr.grow(r:Sr K F0 H0 F H σ ρ)(g:Gr F H F' H'):Sr K F0 H0 F' H' σ ρ:=by
 obtain⟨j,n,s⟩:=r.ov;refine⟨r.gr.trans g,r.len,λi t e=>?_,⟨j,λi o e=>?_,s⟩,λe m=>?_,r.sl,r.dv.heap g.ff λa x k p=>⟨?_,g.hh _ _ k⟩⟩
 .obtain⟨v,a,b⟩:=r.pv i t e;exact⟨v,a,b.mono g.ff⟩
 .obtain⟨a,b,c,l,d,q⟩:=n i o e;refine⟨a,?_,c,l,g.hh _ _ d,q.mono g.ff⟩;cases z:F' (j i) with
  |none=>rfl
  |some u=>
   rcases g.nw (j i) (by rw[z];exact λw=>nomatch w) with y|y|⟨_,y⟩
   .exact absurd b y
   .rw[d]at y;cases y
   .rw[d]at y;cases y
 .have L:=r.lv e m;refine⟨g.hh _ _ L.h,?_,L.z,L.d⟩;cases z:F' e.2.1 with
  |none=>rfl
  |some u=>
   rcases g.nw e.2.1 (by rw[z];exact λw=>nomatch w) with y|y|⟨_,y⟩
   .exact absurd L.f y
   .rw[L.h]at y;cases y
   .rw[L.h]at y;cases y
 .cases z:F' a with
  |none=>rfl
  |some u=>
   rcases g.nw a (by rw[z];exact λw=>nomatch w) with y|y|⟨_,y⟩
   .exact absurd p y
   .rw[k]at y;cases y
   .rw[k]at y;cases y
theorem Sr.lend(r:Sr K F0 H0 F H σ ρ):∃l,eJ F l/\Gr F0.hp H0 l H/\jk K l σ (vw ρ)/\
  (∀F' H',Gr l H F' H'->∃j,Gr F H j H'/\eJ F j/\eJ j F'/\(∀a,F' a≠none->j a=none->∃xs,F' a=some (.lst xs))/\(∀a,F' a≠none->j a=none->H a≠none)):=by
 classical
 obtain⟨I,m,L⟩:=r.ov;let f:Addr->Prop:=λa=>∃i h,ρ[i]? = some (some (.o h))/\I i=a;let l:Hp:=λa=>if f a then H a else F a
 have n:eJ F l:=λa o e=>by
  have:¬f a:=by rintro⟨i,h,q,rfl⟩;obtain⟨_,b,_⟩:=m i h q;rw[b]at e;cases e
  show zU o (if f a then H a else F a);rw[aQ this];exact .of e
 have J:eJ l H:=λa o e=>by
  by_cases q:f a
  .have s:(if f a then H a else F a)=some o:=e;rw[aP q]at s;exact .of s
  .have s:(if f a then H a else F a)=some o:=e;rw[aQ q]at s;exact r.gr.fh a o s
 have A:∀a,f a->l a=H a:=λa q=>aP q;have B:∀a,¬f a->l a=F a:=λa q=>aQ q;refine⟨l,n,⟨r.gr.ff.trans n,J,r.gr.hh,λa k=>?_⟩,λi t e=>?_,λF' H' g=>?_⟩
 .by_cases q:f a
  .obtain⟨i,h,e,rfl⟩:=q;exact .inr (.inl (m i h e).2.2.1)
  .rw[B a q]at k;exact r.gr.nw a k
 .unfold vw at e;rw[av]at e;cases q:ρ[i]? with
  |none=>rw[q]at e;cases e
  |some w=>
   rw[q]at e;cases w with
   |none=>cases e
   |some w=>
    cases w with
    |p t'=>cases e;obtain⟨v,a,b⟩:=r.pv i _ q;exact⟨v,a,b.mono n⟩
    |o h=>cases e;obtain⟨a,b,c,y,d,z⟩:=m i h q;exact⟨_,a,.lst (by rw[A _ ⟨i,h,q,rfl⟩];exact d) (z.mono n)⟩
    |d kvs=>cases e
 .let j:Hp:=λa=>if f a then none else F' a
  have u:∀a,¬f a->j a=F' a:=λa q=>aQ q;have D:∀a,f a->j a=none:=λa q=>aP q;have E:eJ F j:=λa o e=>by
   have:¬f a:=by rintro⟨i,h,q,rfl⟩;obtain⟨_,b,_⟩:=m i h q;rw[b]at e;cases e
   rw[u a this];exact (n.trans g.ff) _ _ e
  have C:eJ j F':=λa o e=>by
   by_cases q:f a
   .rw[D a q]at e;cases e
   .rw[u a q]at e;exact .of e
  refine⟨j,⟨E,C.trans g.fh,g.hh,λa k=>?_⟩,E,C,λa k x=>?_,λa k x=>?_⟩
  .by_cases q:f a
   .exact absurd (D a q) k
   .rw[u a q]at k;rcases g.nw a k with z|z
    .rw[B a q]at z;exact .inl z
    .exact .inr z
  .by_cases q:f a
   .obtain⟨i,h,e,rfl⟩:=id q;obtain⟨_,_,_,y,d,_⟩:=m i h e;exact⟨y,g.ff _ (.lst y) (by rw[A _ q];exact d)⟩
   .rw[u a q]at x;exact absurd x k
  .by_cases q:f a
   .obtain⟨i,h,e,rfl⟩:=id q;obtain⟨_,_,_,y,d,_⟩:=m i h e;rw[d];exact λz=>nomatch z
   .rw[u a q]at x;exact absurd x k
mutual
theorem iS.less(c:eJ Fb F)(h:∀a,F a≠none->Fb a=none->∃xs,F a=some (.lst xs)):∀{v} {t},iS K F v t->lf t=true->iS K Fb v t
 |_,_,.non,_=>.non
 |_,_,.bl b,_=>.bl b
 |_,_,.int i,_=>.int i
 |_,_,.str x,_=>.str x
 |_,_,.tup (a:=a) e r,l=>by
  refine .tup ?_ (eP.less c h r (by simpa[lf] using l));cases q:Fb a with
  |none=>obtain⟨xs,z⟩:=h a (by rw[e];exact λz=>nomatch z) q;rw[e]at z;cases z
  |some u=>have k:=c a u q;rw[e]at k;rw[sV k λ_ _ y=>nomatch y]
 |_,_,.lst _ _,l=>by simp[lf]at l
 |_,_,.scr _,l=>by simp[lf]at l
 |_,_,.obj (a:=a) (dx:=dx) e r,l=>by
  refine .obj (dx:=dx) ?_ (kP.less c h r (by simpa[lf] using l));cases q:Fb a with
  |none=>obtain⟨xs,z⟩:=h a (by rw[e];exact λz=>nomatch z) q;rw[e]at z;cases z
  |some u=>have k:=c a u q;rw[e]at k;rw[sV k λ_ _ y=>nomatch y]
 |_,_,.dic _ _,l=>by simp[lf]at l
 |_,_,.emp (a:=a) e,l=>by
  refine .emp ?_;cases q:Fb a with
  |none=>obtain⟨xs,z⟩:=h a (by rw[e];exact λz=>nomatch z) q;rw[e]at z;cases z
  |some u=>have k:=c a u q;rw[e]at k;rw[sV k λ_ _ y=>nomatch y]
theorem eP.less(b:eJ Fb F)(h:∀a,F a≠none->Fb a=none->∃xs,F a=some (.lst xs)):∀{vs} {ts},eP K F vs ts->y0 ts=true->eP K Fb vs ts
 |_,_,.nil,_=>.nil
 |_,_,.cons q r,l=>by rw[y0,bP]at l;exact .cons (iS.less b h q l.1) (eP.less b h r l.2)
theorem kP.less(b:eJ Fb F)(h:∀a,F a≠none->Fb a=none->∃xs,F a=some (.lst xs)):∀{vs} {ts},kP K F vs ts->Jz ts=true->kP K Fb vs ts
 |_,_,.nil,_=>.nil
 |_,_,.cons q r,l=>by rw[Jz,bP]at l;exact .cons (iS.less b h q l.1) (kP.less b h r l.2)
end
end
end L3
namespace L3
open PySem L2
def kT(K:W.Frag)(F H:Hp)(Q:VK)(ts us:List T):Prop:=∀p l d c a b,Gr F H a b->H l=none->a l=none->H p=none->a p=none->p≠l->b l=some (.lst c)->b p=some (.tup (d++[.ref l]))->eP K a d ts->eP K a c us->Q (.ref p) b
def kT.of(h:kV K F H Q (.tup (ts++[.lst us]))):kT K F H Q ts us:=λp l u k j s g a b c d e f i r t=>by
 have q:=g.take f b a;have o:gI j l (.lst k) p=none:=by rw[eF e];exact d
 have n:eJ j (gI j l (.lst k)):=fz b;have m:eJ (gI j l (.lst k)) (gI (gI j l (.lst k)) p (.tup (u++[.ref l]))):=fz o;exact h (.ref p) _ s (q.take i o c) (.tup eE ((r.mono (n.trans m)).append (.cons (.lst (m _ _ eE) (t.mono (n.trans m))) .nil)))
inductive O where
 |bad|nx (ρ:En)|rt (t:T)|rf (ts:List T)|rn (ts us:List T)|bk (ρ:En)|ct (ρ:En)|er (C:Addr) (n:Oq Int)
section
variable (K:W.Frag)(E:XK)
def kN(d:Fz)(e F:Hp)(D:St->Hp->Prop)(ρ:En):Prop:=∀b c a,eJ F b->Sr K d e b c a ρ->D a c
noncomputable def O.res(o:O)(a:Fz)(b F:Hp)(D:lB):Prop:=match o with
 |.bad=>False
 |.nx ρ=>kN K a b F D.nx ρ
 |.rt t=>kV K a.hp b D.rt t
 |.rf ts=>kF K a.hp b D.rt ts
 |.rn ts us=>kT K a.hp b D.rt ts us
 |.bk ρ=>kN K a b F D.bk ρ
 |.ct ρ=>kN K a b F D.ct ρ
 |.er C n=>kE E a.hp b C n
noncomputable def MS(t:TS)(g:En->O):Prop:=∀c d F H a b D,Sr K c d F H a b->(g b).res K E c d F D->t D a H
end
section
variable {K:W.Frag}{E:XK}{t u ta tb:TE}{f fa fb:Pe->M T}{F0:Fz}{H0 F H F1 H1:Hp}{σ:St}{ρ:En}{D:lB}
def kN.go(h:kN K F0 H0 F N ρ)(s:eJ F F1):kN K F0 H0 F1 N ρ:=λb d a c r=>h b d a (s.trans c) r
def O.res.go{o:O}(h:o.res K E F0 H0 F D)(s:eJ F F1):o.res K E F0 H0 F1 D:=by
 cases o with
 |bad=>exact h
 |nx ρ=>exact kN.go h s
 |rt t=>exact h
 |rf ts=>exact h
 |rn ts us=>exact h
 |bk ρ=>exact kN.go h s
 |ct ρ=>exact kN.go h s
 |er C n=>exact h
noncomputable def O.of{b:Type}(m:M b)(k:b->O):O:=match m with
 |.bad=>.bad
 |.ok a=>k a
 |.er C n=>.er C n
@[simp] theorem O.of_ok(a:α) k:O.of (.ok a) k=k a:=rfl
@[simp] theorem O.of_bad k:O.of (.bad:M α) k=.bad:=rfl
@[simp] theorem O.of_er C n k:O.of (.er C n:M α) k=.er C n:=rfl
def O.res_of{m:M α}{k:α->O}(h:(O.of m k).res K E F0 H0 F D):m.res (λa=>(k a).res K E F0 H0 F D) (kE E F0.hp H0):=by cases m<;>exact h
@[simp] noncomputable def eN(a b:En->O):En->O:=λρ=>match a ρ with
 |.nx ρ'=>b ρ'
 |o=>o
def FN{t u:TS}(d:MS K E t a)(j:MS K E u b):MS K E (mU t u) (eN a b):=λF0 H0 F H σ ρ D r q=>by
 refine d F0 H0 F H σ ρ _ r ?_;unfold eN at q;cases e:a ρ with
 |nx ρ'=>rw[e]at q;intro g h c s i;exact j F0 H0 g h c ρ' D i (q.go s)
 |bad=>rw[e]at q;exact q
 |rt t=>rw[e]at q;exact q
 |rf ts=>rw[e]at q;exact q
 |rn ts us=>rw[e]at q;exact q
 |bk ρ=>rw[e]at q;exact q
 |ct ρ=>rw[e]at q;exact q
 |er C n=>rw[e]at q;exact q
@[simp] noncomputable def fM:En->O:=λρ=>.nx ρ
def Eg:MS K E nF fM:=λF0 H0 F H σ ρ D r q=>q F H σ (.refl _) r
def DA:MS K E BI (λρ=>.ct ρ):=λF0 H0 F H σ ρ D r q=>q F H σ (.refl _) r
def Bd:MS K E uj (λ_=>.bad):=λ_ _ _ _ _ _ _ _ q=>q
def MT.inS(p:MT K E c fc)(r:Sr K F0 H0 F H σ ρ)(q:(O.of (fc (vw ρ)) k).res K E F0 H0 F D)
  (m:∀b a d,eJ F a->Sr K F0 H0 a d σ ρ->(k b).res K E F0 H0 a D->Q b d):c σ H Q:=by
 obtain⟨o,s,h,V,e⟩:=r.lend;refine p o H σ (vw ρ) Q h.fh V ((O.res_of q).mono (λb z a d g=>?_) λC n z=>z.go h);obtain⟨j,l,i,_⟩:=e a d g;exact m b j d i (r.grow l) (z.go i)
@[simp] noncomputable def kC(d:Pe->M Bool)(a b:En->O):En->O:=λρ=>.of (d (vw ρ)) λc=>if c then a ρ else b ρ
def Ih{t u:TS}(h:MT K E c fc)(g:MS K E t a)(i:MS K E u b):MS K E (vA c t u) (kC fc a b):=λF0 H0 F H σ ρ D r q=>by
 refine h.inS r q λc j k s e d=>?_;cases c with
 |true=>rw[aP rfl];exact g _ _ _ _ _ _ _ e d
 |false=>rw[aQ aG];exact i _ _ _ _ _ _ _ e d
@[simp] noncomputable def fK(f:Pe->M T):En->O:=λρ=>.of (f (vw ρ)) λt=>.rt t
def G9(h:ME K E t f):MS K E (zO t) (fK f):=λF0 H0 F H σ ρ D r q=>by obtain⟨d,e,a,V,c⟩:=r.lend;exact h d H σ (vw ρ) _ a.fh V ((O.res_of q).mono (λb z=>kV.go z a) λC n z=>z.go a)
@[simp] noncomputable def vI(f:Pe->M (List T)):En->O:=λρ=>.of (f (vw ρ)) λt=>.rf t
def Di{f:Pe->M (List T)}(h:MF K E t f):MS K E (zO t) (vI f):=λF0 H0 F H σ ρ D r q=>by obtain⟨d,e,a,V,c⟩:=r.lend;exact h d H σ (vw ρ) _ a.fh V ((O.res_of q).mono (λb z=>kF.go z a) λC n z=>z.go a)
def nJ{a:Type}{l:List a}{x y:a}(h:(l.set i x)[i]? = some y):y=x:=by
 rw[List.getElem?_set]at h;simp only[if_true]at h;split at h
 .exact (Option.some.inj h).symm
 .cases h
def eT{a:Type}{l:List a}{x y:a}(h:(l.set i x)[j]? = some y):(j=i/\y=x)\/(j≠i/\l[j]? = some y):=by
 by_cases e:j=i
 .subst e;exact .inl ⟨rfl,nJ h⟩
 .rw[aq (λz=>e z.symm)]at h;exact .inr ⟨e,h⟩
def tq{a:Type}{l:List a}{x:a}(h:i<l.length):(l.set i x)[i]? = some x:=by rw[List.getElem?_set_self h]
def Sr.setP(r:Sr K F0 H0 F H σ ρ)(h:iS K F v x):Sr K F0 H0 F H (σ.set i (some v)) (ρ.set i (some (.p x))):=by
 obtain⟨s,I,N⟩:=r.ov;refine⟨r.gr,by simp[r.len],λj t e=>?_,⟨s,λj m e=>?_,λj k m A e B=>?_⟩,λe C=>?_,λj l y o q=>?_,r.dv.set λ_ z=>nomatch z⟩
 .have J:j<ρ.length:=by simpa using (aa.mp e).1
  rcases eT e with⟨rfl,q⟩|⟨c,q⟩
  .cases q;exact⟨v,tq (by rw[r.len];exact J),h⟩
  .obtain⟨w,a,b⟩:=r.pv j t q;exact⟨w,by rw[aq (λz=>c z.symm)];exact a,b⟩
 .rcases eT e with⟨rfl,q⟩|⟨c,q⟩
  .cases q
  .obtain⟨a,b⟩:=I j m q;exact⟨by rw[aq (λz=>c z.symm)];exact a,b⟩
 .rcases eT e with⟨rfl,q⟩|⟨c,q⟩
  .cases q
  .rcases eT B with⟨rfl,n⟩|⟨P,n⟩
   .cases n
   .exact N j k m A q n
 .have L:=r.lv e C;refine⟨L.h,L.f,L.z,λj m q=>?_⟩;rcases eT q with⟨rfl,g⟩|⟨c,g⟩
  .cases g
  .rw[aq (λz=>c z.symm)];exact L.d j m g
 .rcases eT q with⟨rfl,g⟩|⟨c,g⟩
  .cases g
  .rw[aq (λz=>c z.symm)];exact r.sl j l y o g
def Sr.setO(r:Sr K F0 H0 F H σ ρ)(g:Gr F H F1 H1)(x:H l=none)(hf:F1 l=none)(hv:H1 l=some (.lst vs))(hr:eP K F1 vs ts) :
  Sr K F0 H0 F1 H1 (σ.set i (some (.ref l))) (ρ.set i (some (.o ts))):=by
 have s:=r.grow g;obtain⟨y,J,_⟩:=r.ov;obtain⟨A,U,h2⟩:=s.ov;have R:∀j m,ρ[j]? = some (some (.o m))->A j≠l:=λj m e z=>by
  obtain⟨a,_⟩:=U j m e;obtain⟨S,_,_,Z,Y,_⟩:=J j m e;rw[a]at S;have:A j=y j:=by simpa using S
  rw[<-this,z,x]at Y;cases Y
 refine⟨s.gr,by simp[r.len],λj t e=>?_,⟨λj=>if j=i then l else A j,λj m e=>?_,λj k m X e P v=>?_⟩,λe Q=>?_,λj l' B N q=>?_,s.dv.set λ_ z=>nomatch z⟩
 .rcases eT e with⟨rfl,q⟩|⟨c,q⟩
  .cases q
  .obtain⟨w,a,b⟩:=s.pv j t q;exact⟨w,by rw[aq (λz=>c z.symm)];exact a,b⟩
 .have C:j<ρ.length:=by simpa using (aa.mp e).1
  rcases eT e with⟨rfl,q⟩|⟨c,q⟩
  .cases q;dsimp only;rw[aP rfl];exact⟨tq (by rw[r.len];exact C),hf,eU r.gr.hh x,vs,hv,hr⟩
  .dsimp only;rw[aQ c];obtain⟨a,b⟩:=U j m q;exact⟨by rw[aq (λz=>c z.symm)];exact a,b⟩
 .rcases eT e with⟨rfl,q⟩|⟨c,q⟩
  .rcases eT P with⟨rfl,p⟩|⟨I,p⟩
   .exact absurd rfl v
   .dsimp only;rw[aP rfl,aQ I];exact λz=>R k X p z.symm
  .rcases eT P with⟨rfl,p⟩|⟨I,p⟩
   .dsimp only;rw[aQ c,aP rfl];exact R j m q
   .dsimp only;rw[aQ c,aQ I];exact h2 j k m X q p v
 .have L:=s.lv e Q;have L0:=r.lv e Q;refine⟨L.h,L.f,L.z,λj ts q=>?_⟩;rcases eT q with⟨rfl,n⟩|⟨c,n⟩
  .intro z;have z':=nJ z;have:e.2.1=l:=by simpa using z'
   rw[<-this,L0.h]at x;cases x
  .rw[aq (λz=>c z.symm)];exact L.d j ts n
 .rcases eT q with⟨rfl,n⟩|⟨c,n⟩
  .cases n
  .rw[aq (λz=>c z.symm)];exact r.sl j l' B N n
@[simp] noncomputable def gY(f:Pe->M T)(ρ:En):M T:=f (jY ρ)
@[simp] noncomputable def oS(f:Pe->M T)(ρ:En):M T:=(f (vw ρ)).bind λt=>if lf t then .ok t else .bad
def ME.inH(h:ME K E t f)(r:Sr K F0 H0 F H σ ρ)(q:(O.of (gY f ρ) k).res K E F0 H0 F D)
  (c:∀x v a b,Gr F H a b->iS K a v x->Sr K F0 H0 a b σ ρ->(k x).res K E F0 H0 a D->Q v b):t σ H Q:=
 h F H σ (jY ρ) Q r.gr.fh r.vars ((O.res_of q).mono (λx z v a b g d=>c x v a b g d (r.grow g) (z.go g.ff)) λC n z=>z.go r.gr)
def ME.inB(h:ME K E t f)(r:Sr K F0 H0 F H σ ρ)(q:(O.of (oS f ρ) k).res K E F0 H0 F D)
  (s:∀x v a b,Gr F H a b->iS K a v x->Sr K F0 H0 a b σ ρ->(k x).res K E F0 H0 a D->Q v b):t σ H Q:=by
 obtain⟨w,y,j,V,d⟩:=r.lend;refine h w H σ (vw ρ) Q j.fh V ((M.res.unb (O.res_of q)).mono (λx z v a b g o=>?_) λC n z=>z.go j);obtain⟨m,l,p,i,c,_⟩:=d a b g;by_cases e:lf x=true
 .rw[aP e]at z;exact s x v m b l (o.less i c e) (r.grow l) (O.res.go z p)
 .rw[aQ e]at z;exact z.elim
@[simp] noncomputable def setO(i:Nat)(f:En->M T):En->O:=λρ=>.of (f ρ) λt=>.nx (ρ.set i (some (.p t)))
def yE(h:ME K E t f):MS K E (j1 t (gJ i)) (setO i (gY f)):=λF0 H0 F H σ ρ D r q=>h.inH r q λx v b e g c d a=>a b e _ (.refl _) (d.setP c)
def Eu(h:ME K E t f):MS K E (j1 t (gJ i)) (setO i (oS f)):=λF0 H0 F H σ ρ D r q=>h.inB r q λx v b e g c d a=>a b e _ (.refl _) (d.setP c)
@[simp] noncomputable def m7(f:Pe->M (List T))(ρ:En):M (List T):=f (jY ρ)
@[simp] noncomputable def pL(f:Pe->M (List T))(ρ:En):M (List T):=(f (vw ρ)).bind λa=>if y0 a then .ok a else .bad
def MF.inH{f:Pe->M (List T)}(h:MF K E t f)(r:Sr K F0 H0 F H σ ρ)(q:(O.of (m7 f ρ) k).res K E F0 H0 F D)
  (j:∀ts l vs e i,Gr F H e i->H l=none->e l=none->i l=some (.lst vs)->eP K e vs ts->(k ts).res K E F0 H0 e D->Q (.ref l) i):t σ H Q:=
 h F H σ (jY ρ) Q r.gr.fh r.vars ((O.res_of q).mono (λts z l vs e i g a b c d=>j ts l vs e i g a b c d (z.go g.ff)) λC n z=>z.go r.gr)
def MF.inB{f:Pe->M (List T)}(h:MF K E t f)(r:Sr K F0 H0 F H σ ρ)(q:(O.of (pL f ρ) k).res K E F0 H0 F D)
  (y:∀ts l vs e i,Gr F H e i->H l=none->e l=none->i l=some (.lst vs)->eP K e vs ts->(k ts).res K E F0 H0 e D->Q (.ref l) i):t σ H Q:=by
 obtain⟨A,B,s,V,m⟩:=r.lend;refine h A H σ (vw ρ) Q s.fh V ((M.res.unb (O.res_of q)).mono (λts z l vs e i g a b c d=>?_) λC n z=>z.go s);obtain⟨v,w,x,o,j,_⟩:=m e i g;by_cases p:y0 ts=true
 .rw[aP p]at z;exact y ts l vs v i w a (eU o b) c (d.less o j p) (O.res.go z x)
 .rw[aQ p]at z;exact z.elim
@[simp] noncomputable def kX(i:Nat)(f:En->M (List T)):En->O:=λρ=>.of (f ρ) λa=>.nx (ρ.set i (some (.o a)))
@[simp] noncomputable def uL(i:Nat)(f:En->M (List T)):En->O:=λρ=>.of (f ρ) λa=>.nx (ρ.set i (some (.p (.lst a))))
def pT{f:Pe->M (List T)}(h:MF K E t f):MS K E (j1 t (gJ i)) (kX i (m7 f)):=λF0 H0 F H σ ρ D r q=>h.inH r q λn l m j k g a b c d e=>e j k _ (.refl _) (r.setO g a b c d)
def DN{f:Pe->M (List T)}(h:MF K E t f):MS K E (j1 t (gJ i)) (kX i (pL f)):=λF0 H0 F H σ ρ D r q=>h.inB r q λn l m j k g a b c d e=>e j k _ (.refl _) (r.setO g a b c d)
def BS{f:Pe->M (List T)}(h:MF K E t f):MS K E (j1 t (gJ i)) (uL i (pL f)):=λF0 H0 F H σ ρ D r q=>h.inB r q λo l j m n g a b c d e=>by have k:=g.take c b a;exact e (gI m l (.lst j)) n _ (fz b) ((r.grow k).setP (.lst eE (d.mono (fz b))))
@[simp] noncomputable def sd(f:En->M T):En->O:=λρ=>.of (f ρ) λ_=>.nx ρ
def Ax(h:ME K E t f):MS K E (mP t) (sd (gY f)):=λF0 H0 F H σ ρ D r q=>h.inH r q λx v b d g e c a=>a b d _ (.refl _) c
def Sr.change(r:Sr K F0 H0 F H σ ρ)(e:ρ[i]? = some (some (.o ts)))(hw:eP K F ws us) :
  ∃l vs,σ[i]? = some (some (.ref l))/\H l=some (.lst vs)/\eP K F vs ts/\Sr K F0 H0 F (gI H l (.lst ws)) σ (ρ.set i (some (.o us))):=by
 obtain⟨B,Q,A⟩:=r.ov;obtain⟨a,b,c,vs,d,z⟩:=Q i ts e;refine⟨B i,vs,a,d,z,⟨r.gr.ff,λp u q=>?_,λp u q=>?_,r.gr.nw⟩,by simp[r.len],λj t q=>?_,⟨B,λj n q=>?_,λj k n x q N m=>?_⟩,λP S=>?_,λj R s J q=>?_,(r.dv.heap (.refl _) λp xs I _=>⟨by assumption,by rw[eF (λz=>by rw[z,d]at I;cases I)];exact I⟩).setR λ_ z=>nomatch z⟩
 .rw[eF (eX q b)];exact r.gr.fh p u q
 .rw[eF (eX q c)];exact r.gr.hh p u q
 .rcases eT q with⟨rfl,g⟩|⟨v,g⟩
  .cases g
  .exact r.pv j t g
 .rcases eT q with⟨rfl,g⟩|⟨v,g⟩
  .cases g;exact⟨a,b,c,ws,eE,hw⟩
  .obtain⟨a',b',X,s,Y,U⟩:=Q j n g;exact⟨a',b',X,s,by rw[eF (A j i n ts g e v)];exact Y,U⟩
 .rcases eT q with⟨rfl,g⟩|⟨v,g⟩
  .rcases eT N with⟨rfl,y⟩|⟨Z,y⟩
   .exact absurd rfl m
   .exact A j k ts x e y m
  .rcases eT N with⟨rfl,y⟩|⟨Z,y⟩
   .exact A j k n ts g e m
   .exact A j k n x g y m
 .have L:=r.lv P S;have C:P.2.1≠B i:=λw=>L.d i ts e (by rw[w];exact a);refine⟨by rw[eF C];exact L.h,L.f,L.z,λj n q=>?_⟩;rcases eT q with⟨rfl,g⟩|⟨v,g⟩
  .exact L.d _ ts e
  .exact L.d j n g
 .rcases eT q with⟨rfl,g⟩|⟨v,g⟩
  .cases g
  .exact r.sl j R s J g
@[simp] noncomputable def mG(ρ:En)(i:Nat):M (List T):=match ρ[i]? with
 |some (some (.o ts))=>.ok ts
 |_=>.bad
def vt(h:mG ρ i=.ok ts):ρ[i]? = some (some (.o ts)):=by
 unfold mG at h;split at h
 .rename_i a e;cases h;exact e
 .cases h
@[simp] noncomputable def ud(i:Nat)(f:En->M T):En->O:=λρ=>.of (mG ρ i) λa=>.of (f ρ) λt=>if a.length<sizeLine then .nx (ρ.set i (some (.o (a++[t])))) else .bad
def Aw(r:Sr K F0 H0 F H σ ρ)(e:ρ[i]? = some (some (.o ts)))(n:iS K F v x)
  (q:(if ts.length<sizeLine then O.nx (ρ.set i (some (.o (ts++[x])))) else .bad).res K E F0 H0 F D):∃l,σ[i]? = some (some (.ref l))/\nH (.ref l) [v] H λ_ H1=>D.nx σ H1:=by
 by_cases g:ts.length<sizeLine
 .rw[aP g]at q;obtain⟨k,j,_⟩:=r.ov;obtain⟨_,_,_,m,d,z⟩:=j i ts e;obtain⟨l,b,h,c,s,p⟩:=r.change e (z.append (.cons n .nil));have:b=m:=by
   have a:=(j i ts e).1;rw[h]at a;have:l=k i:=by simpa using a
   rw[this,d]at c;cases c;rfl
  subst this;exact⟨l,h,l,b,v,rfl,rfl,c,by rw[z.length];exact g,q F _ _ (.refl _) p⟩
 .rw[aQ g]at q;exact q.elim
def Bu(K:W.Frag)(i:Nat)(a:TE):TE:=JB K "list" nH (jN i) (iA a kH)
def E8(o:∀l xs H,H l=some (.lst xs)->JJ K "list" (.ref l) H)(h:ME K E t f):MS K E (mP (Bu K i t)) (ud i (gY f)):=λF0 H0 F H σ ρ D r q=>by
 unfold ud at q;cases e:mG ρ i with
 |bad=>rw[e]at q;exact q.elim
 |er C n=>unfold mG at e;split at e<;>cases e
 |ok ts=>rw[e]at q;have c:=vt e;obtain⟨w,p,_⟩:=r.ov;obtain⟨a,_,_,y,d,_⟩:=p i ts c;refine⟨_,a,o _ _ _ d,?_⟩;refine h.inH r q λx v z A g m s k=>?_;obtain⟨l,j,b⟩:=Aw s c m k;rw[a]at j;cases j;exact b
@[simp] noncomputable def rR(i:Nat)(b:En->M T)(f:En->M T):En->O:=λρ=>.of (mG ρ i) λa=>.of (f ρ) λt=>.of (b ρ) λk=>match k with
 |.int k=>match qA a.length k with
  |some j=>.nx (ρ.set i (some (.o (a.set j t))))
  |none=>.bad
 |_=>.bad
theorem BV{i:Nat}{ts:List T}{x y:T}{v w:V}{l:Addr}(n:Sr K F0 H0 F H σ ρ)(g:ρ[i]? = some (some (.o ts)))(r:σ[i]? = some (some (.ref l)))(B:iS K F v x)(h:iS K F w y)
  (b:(match y with
   |.int k=>match qA ts.length k with
    |some j=>O.nx (ρ.set i (some (.o (ts.set j x))))
    |none=>.bad
   |_=>.bad).res K E F0 H0 F D):xP (.ref l) w v H λC=>D.nx σ C:=by
 cases h with
 |int k=>
  dsimp only at b;cases e:qA ts.length k with
  |none=>rw[e]at b;exact b.elim
  |some j=>
   rw[e]at b;obtain⟨s,q,_⟩:=n.ov;obtain⟨_,_,_,A,d,z⟩:=q i ts g;obtain⟨J,c,p,m,L,I⟩:=n.change g (z.set B j);rw[r]at p;cases p;have:c=A:=by
    have a:=(q i ts g).1;rw[r]at a;have:l=s i:=by simpa using a
    rw[this,d]at m;cases m;rfl
   subst this;exact⟨l,c,k,j,rfl,rfl,m,by rw[z.length];exact e,b F _ _ (.refl _) I⟩
 |_=>exact b.elim
def Hv(h:ME K E t f)(m:ME K E tk fk):MS K E (j1 t (Hx (jN i) tk xP)) (rR i (oS fk) (oS f)):=λF0 H0 F H σ ρ D r q=>by
 unfold rR at q;cases e:mG ρ i with
 |bad=>rw[e]at q;exact q.elim
 |er C n=>unfold mG at e;split at e<;>cases e
 |ok ts=>rw[e]at q;have c:=vt e;obtain⟨z,o,_⟩:=r.ov;have a:=(o i ts c).1;refine h.inB r q λx v B I g j p d=>⟨_,a,?_⟩;exact m.inB p d λy w J A l b k s=>BV k c a (j.mono l.ff) b s
end
end L3
namespace L3
open PySem L2
section
variable {K:W.Frag}{E:XK}{t u ta tb:TE}{f fa fb:Pe->M T}{F0:Fz}{H0 F H F1 H1:Hp}{σ:St}{ρ:En}{D:lB}
structure rE(K:W.Frag)(J:It)(its:List T)(F1:Hp):Prop where
 go:∀i H,eJ F1 H->i<its.length->J.go i H
 stop:∀H,eJ F1 H->J.stop its.length H
 yld:∀(i:Nat) t F H x H',eJ F1 F->eJ F H->its[i]? = some t->J.yld i H x H'->∃F',Gr F H F' H'/\iS K F' x t
def kI(K:W.Frag)(F H:Hp)(R:It->Hp->Prop)(a:List T):Prop:=∀J b c,Gr F H b c->rE K J a b->R J c
noncomputable def MI(K:W.Frag)(E:XK)(w:TI)(f:Pe->M (List T)):Prop:=∀F H σ ρ R,eJ F H->jk K F σ ρ->(f ρ).res (kI K F H R) (kE E F H)->w σ H R
def K7(K:W.Frag)(F H:Hp)(R:It->Hp->Prop)(a:List T):Prop:=∀J c b,Gr F H c b->(∀F1,rE K J a F1)->R J b
noncomputable def Iv(K:W.Frag)(E:XK)(w:TI)(f:Pe->M (List T)):Prop:=∀F H σ ρ R,eJ F H->jk K F σ ρ->(f ρ).res (K7 K F H R) (kE E F H)->w σ H R
def Iv.mi{f:Pe->M (List T)}(h:Iv K E w f):MI K E w f:=λF H σ ρ R s V q=>h F H σ ρ R s V (q.mono (λb z J a c g i=>z J a c g (i a)) λ_ _ z=>z)
@[simp] noncomputable def JL(fa:Pe->M T):Pe->M (List T):=λρ=>(fa ρ).bind λx=>match x with
 |.lst ts=>.ok ts
 |.scr ns=>.ok (ns.map T.int)
 |_=>.bad
@[simp] noncomputable def Kr(fa:Pe->M T):Pe->M (List T):=λρ=>(fa ρ).bind λx=>match x with
 |.tup ts=>.ok ts
 |_=>.bad
def xO(c:jR K F a xs)(r:eP K F xs ts):rE K (J7 K a) ts F where
 go:=λi H s l=>by have e:xs[i]? = some (xs[i]'(by rw[r.length];exact l)):=ag _;exact⟨xs,_,s.seq c,e⟩
 stop:=λH s=>⟨xs,s.seq c,by rw[r.length];exact aJ _⟩
 yld:=λi t m H x n g d e y=>by obtain⟨rfl,j⟩:=y;have k:=j xs ((g.trans d).seq c);obtain⟨o,b,h⟩:=r.at_ k;rw[e]at b;cases b;exact⟨m,.refl d,h.mono g⟩
def oM(s:eJ F H)(h:F a=some (.tup xs)):j9 K H a xs:=j9.of (s _ _ h)
def Ho(c:F a=some (.tup xs))(r:eP K F xs ts):rE K (J1 K a) ts F where
 go:=λi H s l=>by have e:xs[i]? = some (xs[i]'(by rw[r.length];exact l)):=ag _;exact⟨xs,_,oM s c,e⟩
 stop:=λH s=>⟨xs,oM s c,by rw[r.length];exact aJ _⟩
 yld:=λi t m H x n g d e y=>by obtain⟨rfl,j⟩:=y;have k:=j xs (oM (g.trans d) c);obtain⟨o,b,h⟩:=r.at_ k;rw[e]at b;cases b;exact⟨m,.refl d,h.mono g⟩
def uw(c:ME K E ta fa):MI K E (Az K ta) (JL fa):=λF H σ ρ R s V q=>by
  refine c.run s V q λx v F1 H1 a d b=>?_;cases d<;>first
    |exact b.elim
    | (rename_i h r
       exact⟨_,rfl,⟨_,jR.of (a.fh _ _ h)⟩,b _ F1 H1 a (xO (jR.of h) r)⟩)
    | (rename_i h
       exact⟨_,rfl,⟨_,a.fh.seq h⟩,b _ F1 H1 a (xO h (eP.of_ints _))⟩)
def GI(c:ME K E ta fa):MI K E (HL K ta) (Kr fa):=λF H σ ρ R s V q=>by
  refine c.run s V q λx v F1 H1 b d a=>?_;cases d<;>first
    |exact a.elim
    | (rename_i h r
       exact⟨_,rfl,⟨_,j9.of (b.fh _ _ h)⟩,a _ F1 H1 b (Ho h r)⟩)
def IM:(2:Int) ^ 62=4611686018427387904:=by decide +kernel
def JF:(2:Int) ^ 63=9223372036854775808:=by decide +kernel
noncomputable def xu(j:Int):Bool:=decide (j.natAbs<4611686018427387904)
def mv(h:xu j=true):-(2 ^ 62)<=j/\j<2 ^ 62:=by rw[IM];have:=of_decide_eq_true h;omega
def kR(h:j.natAbs<=1000000):xu j=true:=aB (by omega)
noncomputable def tP(a:Int)(n:Nat):List T:=(List.range n).map λ(i:Nat)=>T.int (a+(i:Int))
def Gp F:rE K (IP lo n) (tP lo n) F where
 go:=λi H s a=>by show i<n;simpa[tP] using a
 stop:=λH s=>by simp[tP,IP]
 yld:=λi t b H x g d c e y=>by
  obtain⟨rfl,rfl⟩:=y;have a:i<n:=by simpa[tP] using (aa.mp e).1
  have:t=.int (lo+i):=by unfold tP at e;rw[av,List.getElem?_range a]at e;cases e;rfl
  rw[this];exact⟨b,.refl c,.int _⟩
@[simp] noncomputable def iz(fa:Pe->M (List T)):Pe->M (List T):=λρ=>(fa ρ).bind λa=>match a with
 |[.int j]=>if xu j then .ok (tP 0 j.toNat) else .bad
 |_=>.bad
def Eh{ta:TA}{fa:Pe->M (List T)}(e:MA K E ta fa):Iv K E (Au ta) (iz fa):=λF H σ ρ R s V q=>by
 refine e.run s V q λk i F1 H1 h g c=>?_;split at c
 .rename_i j;split at c
  .rename_i d;cases g with
   |cons a b=>cases a;cases b;exact⟨j,rfl,(mv d).1,(mv d).2,c _ F1 H1 h Gp⟩
  .exact c.elim
 .exact c.elim
noncomputable def seqB(b:Bool):T->M (List T)
 |.tup ts=>if b then .ok ts else .bad
 |.lst ts=>if b then .bad else .ok ts
 |.scr ns=>if b then .bad else .ok (ns.map T.int)
 |_=>.bad
def tO(r:iS K F v x)(e:seqB b x=.ok ts):∃a xs,v=.ref a/\(∀H,eJ F H->rm K H b a xs)/\eP K F xs ts:=by
 cases r<;>try (cases e)
 .rename_i a xs d h r;cases b with
  |true=>cases e;exact⟨a,xs,rfl,λH s=>by unfold rm;rw[aP rfl];exact j9.of (s _ _ h),r⟩
  |false=>cases e
 .rename_i a xs d h r;cases b with
  |true=>cases e
  |false=>cases e;exact⟨a,xs,rfl,λH s=>by unfold rm;rw[aQ aG];exact jR.of (s _ _ h),r⟩
 .rename_i a c h;cases b with
  |true=>cases e
  |false=>cases e;exact⟨a,_,rfl,λH s=>by unfold rm;rw[aQ aG];exact s.seq h,eP.of_ints c⟩
noncomputable def tF(xs a:List T):List T:=(xs.zip a).map λp=>T.tup [p.1,p.2]
def FL(k:∀H,eJ F H->rm K H b1 l1 xs)(d:eP K F xs ts)(l:∀H,eJ F H->rm K H b2 l2 ys)(h:eP K F ys us):rE K (J2 K b1 b2 l1 l2) (tF ts us) F where
 go:=λi H s w=>by
  have a:i<ts.length/\i<us.length:=by simp[tF]at w;omega
  have j:xs[i]? = some (xs[i]'(by rw[d.length];exact a.1)):=ag _;have m:ys[i]? = some (ys[i]'(by rw[h.length];exact a.2)):=ag _;exact⟨xs,ys,_,_,k H s,l H s,j,m⟩
 stop:=λH s=>⟨xs,ys,k H s,l H s,by simp[tF,d.length,h.length];omega⟩
 yld:=λi t L H x N b c e y=>by
  obtain⟨p,r,C,rfl,I,rfl,j,m⟩:=y;obtain⟨q,A,v⟩:=d.at_ (j xs (k H (b.trans c)));obtain⟨n,B,J⟩:=h.at_ (m ys (l H (b.trans c)));have:t=.tup [q,n]:=by unfold tF at e;rw[av,(List.getElem?_zip_eq_some (z:=(q,n))).mpr ⟨A,B⟩]at e;cases e;rfl
  rw[this];have g:=Gr.new (o:=.tup [r,C]) c I;exact⟨_,g,.tup eE (.cons ((v.mono b).mono g.ff) (.cons ((J.mono b).mono g.ff) .nil))⟩
noncomputable def Hm(a e:Bool)(fa:Pe->M (List T)):Pe->M (List T):=λρ=>(fa ρ).bind λd=>match d with
 |[x,y]=>(seqB a x).bind λc=>(seqB e y).bind λb=>.ok (tF c b)
 |_=>.bad
def uk:seqB b x≠.er C n:=by cases x<;>cases b<;>exact λz=>nomatch z
def BZ{ta:TA}{fa:Pe->M (List T)}(m:MA K E ta fa):MI K E (FM K b1 b2 ta) (Hm b1 b2 fa):=λF H σ ρ R s V q=>by
 refine m.run s V q λA z F1 H1 h o d=>?_;split at d
 .rename_i x y;cases o with
  |cons a b=>
   cases b with
   |cons b c=>
    cases c;cases e:seqB b1 x with
    |bad=>rw[e]at d;exact d.elim
    |er C n=>exact absurd e uk
    |ok ts=>
     rw[e]at d;cases g:seqB b2 y with
     |bad=>simp only[g,M.bind_ok]at d;exact d.elim
     |er C n=>exact absurd g uk
     |ok us=>simp only[g,M.bind_ok]at d;obtain⟨l,p,rfl,j,w⟩:=tO a e;obtain⟨k,v,rfl,i,r⟩:=tO b g;exact⟨l,k,rfl,⟨p,j _ h.fh⟩,⟨v,i _ h.fh⟩,d _ F1 H1 h (FL j w i r)⟩
 .exact d.elim
def MG(K:W.Frag)(g:TG)(m:T->Pe->Option Pe):Prop:=∀F H σ (ρ:Pe) x t ρ' Q,eJ F H->σ.length=ρ.length->jk K F σ ρ->iS K F x t->m t ρ=some ρ'->(∀a,a.length=ρ'.length->jk K F a ρ'->Q a H)->g x σ H Q
def Ij(K:W.Frag)(g:C2)(m:List T->Pe->Option Pe):Prop:=∀F H σ (ρ:Pe) xs ts ρ' Q,eJ F H->σ.length=ρ.length->jk K F σ ρ->eP K F xs ts->m ts ρ=some ρ'->(∀a,a.length=ρ'.length->jk K F a ρ'->Q a H)->g xs σ H Q
@[simp] def j3(i:Nat):T->Pe->Option Pe:=λt ρ=>some (ρ.set i (some t))
def jk.set{ρ:Pe}(V:jk K F σ ρ)(d:σ.length=ρ.length)(h:iS K F v x):jk K F (σ.set i (some v)) (ρ.set i (some x)):=λj t e=>by
 have c:j<ρ.length:=by simpa using (aa.mp e).1
 rcases eT e with⟨rfl,q⟩|⟨c,q⟩
 .cases q;exact⟨v,tq (by rw[d];exact c),h⟩
 .obtain⟨w,a,b⟩:=V j t q;exact⟨w,by rw[aq (λz=>c z.symm)];exact a,b⟩
def EF:MG K (gJ i) (j3 i):=λF H σ ρ x t b Q s a V r e k=>by cases e;exact k _ (by simp[a]) (V.set a r)
@[simp] noncomputable def rO:List T->Pe->Option Pe
 |[],ρ=>some ρ
 |_::_,_=>none
@[simp] def jl(m:T->Pe->Option Pe)(n:List T->Pe->Option Pe):List T->Pe->Option Pe
 |[],_=>none
 |t::ts,ρ=>(m t ρ).bind (n ts)
def Dr:Ij K zE rO:=λF H σ ρ h g c Q s d V r e k=>by
 cases r with
 |nil=>cases e;exact⟨rfl,k σ d V⟩
 |cons a b=>cases e
def BJ(o:MG K g m)(w:Ij K gs n):Ij K (qI g gs) (jl m n):=λF H σ ρ y x d Q s p V r e k=>by
 cases r with
 |nil=>cases e
 |cons a b=>
  rename_i v t j c;have e:(m t ρ).bind (n c)=some d:=e;cases q:m t ρ with
  |none=>rw[q]at e;cases e
  |some ρ1=>rw[q]at e;refine⟨v,j,rfl,o F H σ ρ v t ρ1 _ s p V a q λh i l=>?_⟩;exact w F H h ρ1 j c d Q s i l b e k
@[simp] noncomputable def rP(k:Nat)(m:List T->Pe->Option Pe):T->Pe->Option Pe
 |.tup ts,ρ=>if ts.length=k then m ts ρ else none
 |_,_=>none
def GW(h:Ij K g m):MG K (zH K k g) (rP k m):=λF H σ ρ x t b Q s i V r e q=>by
 cases r with
 |tup hx rs=>
  rename_i a j d;have e:(if d.length=k then m d ρ else none)=some b:=e;by_cases c:d.length=k
  .rw[aP c]at e;exact⟨_,_,rfl,j9.of (s _ _ hx),by rw[rs.length];exact c,h F H σ ρ _ _ b Q s i V rs e q⟩
  .rw[aQ c]at e;cases e
 |_=>cases e
noncomputable def B3(K:W.Frag)(g:TG)(m:T->En->Option En):Prop:=∀F0 H0 F H σ ρ x t b Q,Sr K F0 H0 F H σ ρ->iS K F x t->m t ρ=some b->(∀a,Sr K F0 H0 F H a b->Q a H)->g x σ H Q
noncomputable def Bg(K:W.Frag)(g:C2)(m:List T->En->Option En):Prop:=∀F0 H0 F H σ ρ d c b Q,Sr K F0 H0 F H σ ρ->eP K F d c->m c ρ=some b->(∀a,Sr K F0 H0 F H a b->Q a H)->g d σ H Q
@[simp] noncomputable def jQ(i:Nat):T->En->Option En:=λt ρ=>some (ρ.set i (some (.p t)))
def BP:B3 K (gJ i) (jQ i):=λF0 H0 F H σ ρ x t a Q s r e k=>by cases e;exact k _ (s.setP r)
@[simp] noncomputable def ko:List T->En->Option En
 |[],ρ=>some ρ
 |_::_,_=>none
@[simp] noncomputable def fX(m:T->En->Option En)(n:List T->En->Option En):List T->En->Option En
 |[],_=>none
 |t::ts,ρ=>(m t ρ).bind (n ts)
def Ar:Bg K zE ko:=λF0 H0 F H σ ρ g d c Q s r e k=>by
 cases r with
 |nil=>cases e;exact⟨rfl,k σ s⟩
 |cons a b=>cases e
def zL(l:B3 K g m)(o:Bg K gs n):Bg K (qI g gs) (fX m n):=λF0 H0 F H σ ρ w p d Q s r e k=>by
 cases r with
 |nil=>cases e
 |cons a b=>
  rename_i v t i c;have e:(m t ρ).bind (n c)=some d:=e;cases q:m t ρ with
  |none=>rw[q]at e;cases e
  |some ρ1=>rw[q]at e;refine⟨v,i,rfl,l F0 H0 F H σ ρ v t ρ1 _ s a q λh j=>?_⟩;exact o F0 H0 F H h ρ1 i c d Q j b e k
@[simp] noncomputable def ku(k:Nat)(m:List T->En->Option En):T->En->Option En
 |.tup ts,ρ=>if ts.length=k then m ts ρ else none
 |_,_=>none
def DG(h:Bg K g m):B3 K (zH K k g) (ku k m):=λF0 H0 F H σ ρ x t b Q s r e q=>by
 cases r with
 |tup hx rs=>
  rename_i a i d;have e:(if d.length=k then m d ρ else none)=some b:=e;by_cases c:d.length=k
  .rw[aP c]at e;exact⟨_,_,rfl,j9.of (s.gr.fh _ _ hx),by rw[rs.length];exact c,h F0 H0 F H σ ρ _ _ b Q s rs e q⟩
  .rw[aQ c]at e;cases e
 |_=>cases e
noncomputable def gZ(m:T->En->Option En)(g:En->O):List T->En->O
 |[],ρ=>.nx ρ
 |t::ts,ρ=>match m t ρ with
  |none=>.bad
  |some ρ1=>match g ρ1 with
   |.nx ρ2=>gZ m g ts ρ2
   |.ct ρ2=>gZ m g ts ρ2
   |.bk ρ2=>.nx ρ2
   |o=>o
theorem xp{tb:TS}{J:It}(hg:B3 K g m)(hb:MS K E tb gb){G:Hp->Hp->Prop}(X:∀i F H,G F H->i<its.length->J.go i H)(U:∀F H,G F H->J.stop its.length H)(Y:∀(i:Nat) t F H x c,G F H->its[i]? = some t->J.yld i H x c->∃d,Gr F H d c/\iS K d x t)
  (P:∀d c b ρ',eJ F1 d->Sr K F0 H0 d c b ρ'->G d c) (r:Sr K F0 H0 F H σ ρ) (s1:eJ F1 F)
  (q:(gZ m gb its ρ).res K E F0 H0 F D):∃W:Nat->Nat->St->Hp->Prop,(∃m,W 0 m σ H)/\∀i m σ H,W i m σ H->
 (J.stop i H/\D.nx σ H)\/(J.go i H/\∃N:St->Hp->Prop,(∀b c,N b c->∃m',m'<m/\W (i+1) m' b c)/\∀x c,J.yld i H x c->g x σ c λQ H2=>tb {D with nx:=N,ct:=N,bk:=D.nx} Q H2):=by
 refine⟨λi k b c=>i<=its.length/\k=its.length-i/\∃d ρ',eJ F1 d/\Sr K F0 H0 d c b ρ'/\(gZ m gb (its.drop i) ρ').res K E F0 H0 d D,⟨_,bG _,rfl,F,ρ,s1,r,by simpa using q⟩,?_⟩
 rintro i k A I ⟨hi,rfl,L,B,p,w,a⟩
 by_cases h:i<its.length
 .right;refine⟨X i L I (P _ _ _ _ p w) h,λb c=>∃d ρ',eJ F1 d/\Sr K F0 H0 d c b ρ'/\(gZ m gb (its.drop (i+1)) ρ').res K E F0 H0 d D,λb c z=>⟨its.length-(i+1),by omega,h,rfl,z⟩,λx c y=>?_⟩;have et:=ag h;obtain⟨Z,o,rp⟩:=Y i _ L I x c (P _ _ _ _ p w) et y;rw[cI h]at a;unfold gZ at a;cases R:m its[i] B with
  |none=>rw[R]at a;exact a.elim
  |some ρ3=>
   rw[R]at a;refine hg F0 H0 Z c A B x _ ρ3 _ (w.grow o) rp R λb r'=>?_;refine hb F0 H0 Z c b ρ3 _ r' ?_;dsimp only at a;cases j:gb ρ3 with
   |bad=>rw[j]at a;exact a.elim
   |nx ρ4=>rw[j]at a;exact λd S v s l=>⟨d,ρ4,(p.trans o.ff).trans s,l,O.res.go a (o.ff.trans s)⟩
   |ct ρ4=>rw[j]at a;exact λd S v s l=>⟨d,ρ4,(p.trans o.ff).trans s,l,O.res.go a (o.ff.trans s)⟩
   |bk ρ4=>rw[j]at a;exact kN.go a o.ff
   |rt t=>rw[j]at a;exact a
   |rf ts=>rw[j]at a;exact a
   |rn ts us=>rw[j]at a;exact a
   |er C n=>rw[j]at a;exact a
 .left;have e:i=its.length:=by omega
  subst e;refine⟨U L I (P _ _ _ _ p w),?_⟩;rw[cJ]at a;exact a L I A (.refl _) w
def sx{tb:TS}(n:B3 K g m)(j:MS K E tb gb)(a:rE K J its F1)(r:Sr K F0 H0 F H σ ρ)(s1:eJ F1 F)
  (q:(gZ m gb its ρ).res K E F0 H0 F D):∃W:Nat->Nat->St->Hp->Prop,(∃m,W 0 m σ H)/\∀i m σ H,W i m σ H->
 (J.stop i H/\D.nx σ H)\/(J.go i H/\∃N:St->Hp->Prop,(∀c b,N c b->∃h,h<m/\W (i+1) h c b)/\∀x b,J.yld i H x b->g x σ b λd l=>tb {D with nx:=N,ct:=N,bk:=D.nx} d l):=
 xp (G:=λF H=>eJ F1 F/\eJ F H) n j (λi F H q k=>a.go i H (q.1.trans q.2) k) (λF H q=>a.stop H (q.1.trans q.2)) (λi t F H x b q e y=>a.yld i t F H x b q.1 q.2 e y) (λ_ _ _ _ s r=>⟨s,r.gr.fh⟩) r s1 q
def Sr.hide(r:Sr K F0 H0 F H σ ρ)(e:ρ[j]? = some (some (.o ts))):∃l vs,σ[j]? = some (some (.ref l))/\H l=some (.lst vs)/\eP K F vs ts/\(∀s∈F0.lt,s.2.1≠l)/\Sr K ⟨F0.hp,(j,l,vs)::F0.lt⟩ H0 F H σ (ρ.set j none):=by
 obtain⟨x,A,J⟩:=r.ov;obtain⟨a,b,c,vs,d,z⟩:=A j ts e;refine⟨x j,vs,a,d,z,λs v w=>(r.lv s v).d j ts e (by rw[w];exact a),r.gr,by simp[r.len],λi t q=>?_,⟨x,λi n q=>?_,λi k n C q N B=>?_⟩,λs v=>?_,λi l y m q=>?_,r.dv.setR λ_ z=>nomatch z⟩
 .rcases eT q with⟨rfl,g⟩|⟨p,g⟩
  .cases g
  .exact r.pv i t g
 .rcases eT q with⟨rfl,g⟩|⟨p,g⟩
  .cases g
  .exact A i n g
 .rcases eT q with⟨rfl,g⟩|⟨p,g⟩
  .cases g
  .rcases eT N with⟨rfl,I⟩|⟨Q,I⟩
   .cases I
   .exact J i k n C g I B
 .rcases aE.mp v with rfl|v
  .refine⟨d,b,c,λi n q w=>?_⟩;rcases eT q with⟨rfl,g⟩|⟨p,g⟩
   .cases g
   .obtain⟨P,_⟩:=A i n g;rw[P]at w;have:x i=x j:=by simpa using w
    exact J i j n ts g e p this
  .have L:=r.lv s v;refine⟨L.h,L.f,L.z,λi n q=>?_⟩;rcases eT q with⟨rfl,g⟩|⟨p,g⟩
   .cases g
   .exact L.d i n g
 .rw[b0]at m;rcases eT q with⟨rfl,g⟩|⟨p,g⟩
  .rw[beq_self_eq_true]at m;cases m;exact a
  .rw[beq_eq_false_iff_ne.mpr p]at m;exact r.sl i l y m g
def Sr.unhide(r:Sr K ⟨F0.hp,(j,l,vs)::F0.lt⟩ H0 F H σ ρ)(e:ρ[j]? = some none)(R:eP K F vs ts)(S:∀s∈F0.lt,s.2.1≠l):Sr K F0 H0 F H σ (ρ.set j (some (.o ts))):=by
 obtain⟨C,P,U⟩:=r.ov;have L:=r.lv (j,l,vs) (bh ..);have I:=r.sl j l vs (by rw[b0,beq_self_eq_true]) e;have N:∀i p,ρ[i]? = some (some (.o p))->C i≠l:=λi p q w=>L.d i p q (by rw[(P i p q).1,w]);refine⟨r.gr,by simp[r.len],λi t q=>?_,⟨λi=>if i=j then l else C i,λi c q=>?_,λi k c m q B g=>?_⟩,λs J=>?_,λi Q x A q=>?_,r.dv.setR λ_ z=>nomatch z⟩
 .rcases eT q with⟨rfl,a⟩|⟨b,a⟩
  .cases a
  .exact r.pv i t a
 .rcases eT q with⟨rfl,a⟩|⟨b,a⟩
  .cases a;dsimp only;rw[aP rfl];exact⟨I,L.f,L.z,vs,L.h,R⟩
  .dsimp only;rw[aQ b];exact P i c a
 .rcases eT q with⟨rfl,a⟩|⟨b,a⟩
  .rcases eT B with⟨rfl,n⟩|⟨y,n⟩
   .exact absurd rfl g
   .dsimp only;rw[aP rfl,aQ y];exact λw=>N k m n w.symm
  .rcases eT B with⟨rfl,n⟩|⟨y,n⟩
   .dsimp only;rw[aQ b,aP rfl];exact N i c a
   .dsimp only;rw[aQ b,aQ y];exact U i k c m a n g
 .have v:=r.lv s (bj _ J);refine⟨v.h,v.f,v.z,λi c q=>?_⟩;rcases eT q with⟨rfl,a⟩|⟨b,a⟩
  .rw[I];intro w;exact S s J (by simpa using w.symm)
  .exact v.d i c a
 .rcases eT q with⟨rfl,a⟩|⟨b,a⟩
  .cases a
  .exact r.sl i Q x (by rw[b0,beq_eq_false_iff_ne.mpr b];exact A) a
@[simp] noncomputable def qZ(b:Pe->M (List T))(m:T->En->Option En)(g:En->O):En->O:=λρ=>.of (b (jY ρ)) λa=>gZ m g a ρ
def Ha{tb:TS}(c:MI K E w fi)(h:B3 K g m)(e:MS K E tb gb):MS K E (wG w g tb) (qZ fi m gb):=λF0 H0 F H σ ρ D r q=>c F H σ (jY ρ) _ r.gr.fh r.vars ((O.res_of q).mono (λd z J i j b a=>sx h e a (r.grow b) (.refl _) (z.go b.ff)) λC n z=>z.go r.gr)
@[simp] noncomputable def mO(b:Pe->M (List T))(m:T->En->Option En)(g:En->O):En->O:=λρ=>.of (b (vw ρ)) λa=>gZ m g a ρ
def Ey{tb:TS}(i:Iv K E w fi)(v:B3 K g m)(s:MS K E tb gb):MS K E (wG w g tb) (mO fi m gb):=λF0 H0 F H σ ρ D r q=>by obtain⟨o,x,d,V,a⟩:=r.lend;refine i o H σ (vw ρ) _ d.fh V ((O.res_of q).mono (λk z J l p h b=>?_) λC n z=>z.go d);obtain⟨e,c,j,_⟩:=a l p h;exact sx v s (b e) (r.grow c) (.refl _) (z.go j)
noncomputable def js(c:Pe->M Bool)(g:En->O):Nat->En->O
 |0,_=>.bad
 |n+1,ρ=>.of (c (vw ρ)) λb=>if b then (match g ρ with
   |.nx ρ2=>js c g n ρ2
   |.ct ρ2=>js c g n ρ2
   |.bk ρ2=>.nx ρ2
   |o=>o) else .nx ρ
def BG{tb:TS}(h:En->Nat)(J:MT K E c fc)(L:MS K E tb gb):MS K E (xh c tb) (λρ=>js fc gb (h ρ) ρ):=λF0 H0 F H σ ρ D r q=>by
 refine⟨λn g o=>∃e d,eJ F e/\Sr K F0 H0 e o g d/\(js fc gb n d).res K E F0 H0 e D,⟨h ρ,F,ρ,.refl _,r,q⟩,?_⟩;rintro n l N ⟨P,m,x,I,v⟩;cases n with
 |zero=>exact v.elim
 |succ n=>
  unfold js at v;refine J.inS I v λb y w B A a=>?_;cases b with
  |true=>
   rw[aP rfl]at a ⊢;refine⟨λg o=>∃e d,eJ F e/\Sr K F0 H0 e o g d/\(js fc gb n d).res K E F0 H0 e D,λg o z=>⟨n,bF n,z⟩,?_⟩;refine L F0 H0 y w l m _ A ?_;cases i:gb m with
   |bad=>rw[i]at a;exact a.elim
   |nx ρ4=>rw[i]at a;exact λe p k s j=>⟨e,ρ4,(x.trans B).trans s,j,O.res.go a s⟩
   |ct ρ4=>rw[i]at a;exact λe p k s j=>⟨e,ρ4,(x.trans B).trans s,j,O.res.go a s⟩
   |bk ρ4=>rw[i]at a;exact a
   |rt t=>rw[i]at a;exact a
   |rf ts=>rw[i]at a;exact a
   |rn ts us=>rw[i]at a;exact a
   |er C n=>rw[i]at a;exact a
  |false=>rw[aQ aG]at a ⊢;exact a y w l (.refl _) A
@[simp] noncomputable def kq(a:List (Option Nat))(ρ:Pe):Pe:=a.map fun
 |none=>none
 |some j=>(ρ[j]?).getD none
def jk.pull{ρ:Pe}(V:jk K F σ ρ) ix:jk K F (L2.pull ix σ) (kq ix ρ):=λi t e=>by
 unfold kq at e;rw[av]at e;cases q:ix[i]? with
 |none=>rw[q]at e;cases e
 |some w=>
  rw[q]at e;cases w with
  |none=>cases e
  |some j=>
   have c:(ρ[j]?).getD none=some t:=by simpa using e
   cases z:ρ[j]? with
   |none=>rw[z]at c;cases c
   |some y=>rw[z]at c;have:y=some t:=c;rw[this]at z;obtain⟨v,a,b⟩:=V j t z;refine⟨v,?_,b⟩;unfold L2.pull;rw[av,q];simp[a]
@[simp] noncomputable def nX(m:T->Pe->Option Pe)(c:Pe->M Bool)(a:Pe->M T)(ρ:Pe)(t:T):M (Option T):=match m t ρ with
 |none=>.bad
 |some ρ1=>(c ρ1).bind λb=>if b then (a ρ1).bind λx=>.ok (some x) else .ok none
noncomputable def l4(k:T->M (Option T)):List T->M (List T)
 |[]=>.ok []
 |t::ts=>(k t).bind λo=>(l4 k ts).bind λr=>.ok (match o with
  |some x=>x::r
  |none=>r)
def C1:XK:=λ_ _ _=>False
def Hq:MT K E Gj (λ_=>.ok true):=λF H σ ρ Q s V q=>q F H (.refl s)
theorem Bb{ρ:Pe}(hg:MG K g m)(ht:MT K C1 tt ft)(he:ME K C1 te fe)(V:jk K F1 σ ρ)
  (h:rE K J its F1) (s:eJ F1 H1) (hl:its.length<sizeLine) (q:(l4 (nX m ft fe (kq ix ρ)) its).res (kF K F1 H1 Q) (λ_ _=>False)):Ks J ix g tt te σ H1 Q:=by
 refine⟨λi k R H=>i<=its.length/\k=its.length-i/\∃F' j,Gr F1 H1 F' H/\eP K F' R j/\j.length<=i/\(l4 (nX m ft fe (kq ix ρ)) (its.drop i)).res (λU=>kF K F1 H1 Q (j++U)) (λ_ _=>False),
  ⟨_,bG _,rfl,F1,[],.refl s,.nil,bG _,by simpa using q⟩,?_⟩
 rintro i k R L ⟨hi,rfl,F2,j,a,A,tl,r⟩;by_cases c:i<its.length
 .right;refine⟨h.go i L (a.ff.trans a.fh) c,by rw[A.length];omega,λx N y=>?_⟩;have et:=ag c;obtain⟨X,p,rp⟩:=h.yld i _ F2 L x N a.ff a.fh et y;rw[cI c]at r;unfold l4 at r;have d:=M.res.unb r;unfold nX at d;cases C:m its[i] (kq ix ρ) with
  |none=>rw[C]at d;exact d.elim
  |some ρ3=>
   rw[C]at d;have l:=a.trans p;have V3:=(V.mono l.ff).pull ix;refine hg X N _ _ x _ ρ3 _ p.fh (by simp[L2.pull,kq]) V3 rp C λo hl' Z=>?_;have q4:=M.res.unb d;refine ht X N o ρ3 _ p.fh Z (q4.mono (λb z Y H4 n=>?_) λ_ _ z=>z.elim);cases b with
   |true=>rw[aP rfl]at z ⊢;have q5:=M.res.unb z;refine he Y H4 o ρ3 _ n.fh (Z.mono n.ff) (q5.mono (λx' z' v F5 H5 S I=>?_) λ_ _ z=>z.elim);refine⟨its.length-(i+1),by omega,c,rfl,F5,j++[x'],(l.trans n).trans S,(A.mono (p.ff.trans (n.ff.trans S.ff))).append (.cons I .nil),by simp;omega,?_⟩;have B:=M.res.unb z';exact B.mono (λU w=>by rw[bT];exact w) λ_ _ w=>w
   |false=>rw[aQ aG]at z ⊢;refine⟨its.length-(i+1),by omega,c,rfl,Y,j,l.trans n,A.mono (p.ff.trans n.ff),by omega,?_⟩;exact M.res.unb z
 .left;have e:i=its.length:=by omega
  subst e;rw[cJ]at r;refine⟨h.stop L (a.ff.trans a.fh),λD P=>?_⟩;have d:kF K F1 H1 Q j:=by simpa[l4,M.res] using r
  exact d D R F2 _ (a.trans (.new' a.fh P)) (eU a.hh P) (eU a.fh P) eE A
def Ft(h:MI K E w fi)(j:MG K g m)(d:MT K C1 tt ft)(e:ME K C1 te fe) :
  MF K E (BM ix w g tt te) (λρ=>(fi ρ).bind λa=>(if a.length<sizeLine then l4 (nX m ft fe (kq ix ρ)) a else .bad).noEr):=λF H σ ρ Q s V q=>by
 refine h F H σ ρ _ s V ((M.res.unb q).mono (λa z J k l b c=>?_) λ_ _ z=>z);split at z
 .rename_i i;exact Bb j d e (V.mono b.ff) c b.fh i (z.noEr.mono (λ_ w=>w.go b) λ_ _ w=>w)
 .exact z.elim
end
end L3
namespace L3
open PySem L2
section
variable {K:W.Frag}{E:XK}{t u ta tb:TE}{f fa fb:Pe->M T}{F0:Fz}{H0 F H F1 H1:Hp}{σ:St}{ρ:En}{D:lB}
noncomputable def l6(K:W.Frag)(F:List T->M T):Sp:=λb H Q E=>∃a F0,eJ F0 H/\eP K F0 b a/\(F a).res (kV K F0 H Q) (kE E F0 H)
noncomputable def C0(K:W.Frag)(F:List T->M (List T)):Sp:=λb H Q E=>∃a F0,eJ F0 H/\eP K F0 b a/\(F a).res (kF K F0 H Q) (kE E F0 H)
@[simp] noncomputable def xw(fa:Pe->M (List T))(F:List T->M T):Pe->M T:=λρ=>(fa ρ).bind F
@[simp] noncomputable def eA(fa:Pe->M (List T))(F:List T->M T):Pe->M T:=λρ=>(fa ρ).bind λa=>(F a).noEr
section
variable {tr:TA}{fr:Pe->M (List T)}{Fn:List T->M T}{Ff:List T->M (List T)}{E':XK}
def EZ(d:MA K E tr fr):ME K E (oZ (l6 K Fn) [] E tr) (xw fr Fn):=λF H σ ρ Q s V q=>by refine d.run s V q λc g F1 H1 a e b=>?_;exact⟨c,F1,a.fh,by rw[bH];exact e,b.mono (λ_ z=>z.go a) λ_ _ z=>z⟩
def vz(d:MA K E tr fr):ME K E (oZ (l6 K Fn) [] E' tr) (eA fr Fn):=λF H σ ρ Q s V q=>by refine d.run s V q λc g F1 H1 a e b=>?_;exact⟨c,F1,a.fh,by rw[bH];exact e,(b.mono (λ_ z=>kV.go z a) λ_ _ z=>z).noEr⟩
@[simp] noncomputable def mZ(C:Addr)(m:Str)(x:T):M Unit:=match x with
 |.obj C' fs=>if C'=C/\fs.lookup m=none then .ok () else .bad
 |_=>.bad
@[simp] noncomputable def jZ(C:Addr)(m:Str)(a:Pe->M T)(fr:Pe->M (List T))(F:List T->M T):Pe->M T:=λρ=>(a ρ).bind λx=>(mZ C m x).bind λ_=>(fr ρ).bind λb=>(F (x::b)).noEr
@[simp] noncomputable def mX(C:Addr)(m:Str)(a:Pe->M T)(fr:Pe->M (List T))(F:List T->M (List T)):Pe->M (List T):=λρ=>(a ρ).bind λx=>(mZ C m x).bind λ_=>(fr ρ).bind λb=>(F (x::b)).noEr
def xC(r:iS K F v x)(e:mZ C m x=.ok ()):∃a dx fs,v=.ref a/\F a=some (.ins C dx fs)/\fs.lookup m=none:=by
 cases r with
 |obj h rs=>
  rename_i a b dx fs c;have e:(if b=C/\List.lookup m c=none then M.ok () else M.bad)=.ok ():=e;by_cases d:b=C/\List.lookup m c=none
  .obtain⟨rfl,g⟩:=d;exact⟨a,dx,fs,rfl,h,rs.none_ g⟩
  .rw[aQ d]at e;cases e
 |_=>cases e
def xK:mZ C m x≠.er C' n:=by
 unfold mZ;split
 .split<;>exact λz=>nomatch z
 .exact λz=>nomatch z
def vn(j:ME K E ta fa)(o:MA K E tr fr):ME K E (m9 C m (l6 K Fn) [] E' ta tr) (jZ C m fa fr Fn):=λF H σ ρ Q s V q=>by
 refine j.run s V q λx v F1 H1 c g b=>?_;cases e:mZ C m x with
 |bad=>rw[e]at b;exact b.elim
 |er C n=>exact absurd e xK
 |ok u=>rw[e]at b;obtain⟨a,r,fs,rfl,h,l⟩:=xC g e;refine⟨a,r,fs,rfl,c.fh _ _ h,l,?_⟩;refine o.run c.fh (V.mono c.ff) b λk y p A d i w=>?_;exact⟨x::k,p,d.fh,by rw[bH];exact .cons (g.mono d.ff) i,(w.mono (λ_ z=>kV.go z (c.trans d)) λ_ _ z=>z).noEr⟩
def BU(j:ME K E ta fa)(o:MA K E tr fr):MF K E (m9 C m (C0 K Ff) [] E' ta tr) (mX C m fa fr Ff):=λF H σ ρ Q s V q=>by
 refine j.run s V q λx v F1 H1 c g b=>?_;cases e:mZ C m x with
 |bad=>rw[e]at b;exact b.elim
 |er C n=>exact absurd e xK
 |ok u=>rw[e]at b;obtain⟨a,r,fs,rfl,h,l⟩:=xC g e;refine⟨a,r,fs,rfl,c.fh _ _ h,l,?_⟩;refine o.run c.fh (V.mono c.ff) b λk y p A d i w=>?_;exact⟨x::k,p,d.fh,by rw[bH];exact .cons (g.mono d.ff) i,(w.mono (λ_ z=>kF.go z (c.trans d)) λ_ _ z=>z).noEr⟩
end
@[simp] noncomputable def Kd:O->M T
 |.nx _=>.ok .non
 |.rt t=>.ok t
 |.rf ts=>.ok (.lst ts)
 |.rn ts us=>.ok (.tup (ts++[.lst us]))
 |.er C n=>.er C n
 |_=>.bad
@[simp] noncomputable def JW:O->M (List T)
 |.rf ts=>.ok ts
 |.er C n=>.er C n
 |_=>.bad
@[simp] noncomputable def fC(n:Nat)(ts:List T):En:=ts.map (λt=>some (W.p t))++List.replicate (n-ts.length) none
@[simp] noncomputable def jK(k n:Nat)(g:En->O):List T->M T:=λa=>if a.length=k then Kd (g (fC n a)) else .bad
@[simp] noncomputable def EL(k n:Nat)(g:En->O):List T->M (List T):=λa=>if a.length=k then JW (g (fC n a)) else .bad
def sN{n i:Nat}(e:(fC n ts)[i]? = some (some (.d kvs))):False:=by
 unfold fC at e;rw[List.getElem?_append]at e;split at e
 .rw[av]at e;cases q:ts[i]? with
  |none=>rw[q]at e;cases e
  |some x=>rw[q]at e;cases e
 .rw[List.getElem?_replicate]at e;split at e<;>cases e
def ql(s:eJ F H)(r:eP K F vs ts):Sr K ⟨F,[]⟩ H F H (h8 N vs) (fC N.length ts):=by
 refine⟨.refl s,?_,λi t e=>?_,⟨λ_=>0,λi g e=>?_,λi j g m e=>?_⟩,λ_ k=>(nomatch k),λ_ _ _ h=>(by cases h),⟨λi c e=>(sN e).elim,λi j c d e=>(sN e).elim⟩⟩
 .simp[L2.h8,fC,r.length]
 .unfold fC at e;rw[List.getElem?_append]at e;split at e
  .rename_i l;rw[av]at e;cases q:ts[i]? with
   |none=>rw[q]at e;cases e
   |some x=>rw[q]at e;cases e;obtain⟨v,a,b⟩:=r.get q;refine⟨v,?_,b⟩;unfold L2.h8;rw[List.getElem?_append_left (by simpa[r.length] using l),av,a];rfl
  .rw[List.getElem?_replicate]at e;split at e<;>cases e
 .exfalso;unfold fC at e;rw[List.getElem?_append]at e;split at e
  .rw[av]at e;cases q:ts[i]? with
   |none=>rw[q]at e;cases e
   |some x=>rw[q]at e;cases e
  .rw[List.getElem?_replicate]at e;split at e<;>cases e
 .exfalso;unfold fC at e;rw[List.getElem?_append]at e;split at e
  .rw[av]at e;cases q:ts[i]? with
   |none=>rw[q]at e;cases e
   |some x=>rw[q]at e;cases e
  .rw[List.getElem?_replicate]at e;split at e<;>cases e
def qM(h:l6 K (jK k n g) vs H Q E):vs.length=k:=by
 obtain⟨b,F0,s,r,q⟩:=h;unfold jK at q;by_cases a:b.length=k
 .rw[r.length];exact a
 .rw[aQ a]at q;exact q.elim
def pS{t:TS}(l:MS K E t g)(h:l6 K (jK k N.length g) vs H Q E):t {nx:=λ_ b=>Q .non b,rt:=Q} (h8 N vs) H:=by
 obtain⟨a,F0,s,r,q⟩:=h;unfold jK at q;by_cases c:a.length=k
 .rw[aP c]at q;refine l ⟨F0,[]⟩ H F0 H _ _ _ (ql s r) ?_;cases e:g (fC N.length a) with
  |bad=>rw[e]at q;exact q
  |nx ρ=>rw[e]at q;exact λi b d _ j=>q .non i b j.gr .non
  |rt t=>rw[e]at q;exact q
  |rf a=>rw[e]at q;exact kF.of q
  |rn a us=>rw[e]at q;exact kT.of q
  |bk ρ=>rw[e]at q;exact q.elim
  |ct ρ=>rw[e]at q;exact q.elim
  |er C n=>rw[e]at q;exact q
 .rw[aQ c]at q;exact q.elim
def DI(h:C0 K (EL k n g) vs H Q E):vs.length=k:=by
 obtain⟨b,F0,s,r,q⟩:=h;unfold EL at q;by_cases a:b.length=k
 .rw[r.length];exact a
 .rw[aQ a]at q;exact q.elim
def B2{t:TS}(c:MS K E t g)(h:C0 K (EL k N.length g) vs H Q E):t {nx:=λ_ d=>Q .non d,rt:=Q} (h8 N vs) H:=by
 obtain⟨a,F0,s,r,q⟩:=h;unfold EL at q;by_cases b:a.length=k
 .rw[aP b]at q;refine c ⟨F0,[]⟩ H F0 H _ _ _ (ql s r) ?_;cases e:g (fC N.length a) with
  |bad=>rw[e]at q;exact q
  |nx ρ=>rw[e]at q;exact q.elim
  |rt t=>rw[e]at q;exact q.elim
  |rf a=>rw[e]at q;exact q
  |rn a us=>rw[e]at q;exact q.elim
  |bk ρ=>rw[e]at q;exact q.elim
  |ct ρ=>rw[e]at q;exact q.elim
  |er C n=>rw[e]at q;exact q
 .rw[aQ b]at q;exact q.elim
@[simp] noncomputable def rC(C:Addr)(x:Str)(fa:Pe->M T):Pe->M T:=λρ=>(fa ρ).bind λo=>match o with
 |.obj C' fs=>if C'=C then (match fs.lookup x with
  |some t=>.ok t
  |none=>.bad) else .bad
 |_=>.bad
def FH(m:rq K C)(i:jc K C x)(j:ME K E ta fa):ME K E (FG K ta x) (rC C x fa):=λF H σ ρ Q s V q=>by
 refine j.run s V q λo v F1 H1 c k b=>?_;cases k with
 |obj h rs=>
  rename_i a g r fs n;dsimp only at b;by_cases d:g=C
  .subst d;rw[aP rfl]at b;cases e:List.lookup x n with
   |none=>rw[e]at b;exact b.elim
   |some y=>rw[e]at b;obtain⟨w,l,p⟩:=rs.look e;exact⟨a,g,r,fs,w,rfl,c.fh _ _ h,m,i,l,b w F1 H1 c p⟩
  .rw[aQ d]at b;exact b.elim
 |_=>exact b.elim
end
end L3
namespace L3
open PySem L2 PySem.Spec PyProof.Rows
structure Pm(K:W.Frag)(E:XK)(X:Cx)(e:Expr)(t:TE)(f:Pe->M T):Prop where
 pe:PE X e t
 me:ME K E t f
structure zV(K:W.Frag)(E:XK)(X:Cx)(e:Expr)(t:TE)(f:Pe->M (List T)):Prop where
 pe:PE X e t
 mf:MF K E t f
structure wJ(K:W.Frag)(E:XK)(X:Cx)(e:Expr)(t:TT)(f:Pe->M Bool):Prop where
 pt:PT X e t
 mt:MT K E t f
structure FY(K:W.Frag)(E:XK)(X:Cx)(e:Expr)(t:TT)(f:Pe->M Bool):Prop where
 pw:PW X e t
 mt:MT K E t f
structure vJ(K:W.Frag)(E:XK)(X:Cx)(es:List Expr)(t:TA)(f:Pe->M (List T)):Prop where
 pa:PA X es t
 ma:MA K E t f
structure CH(K:W.Frag)(E:XK)(X:Cx)(tg it:Expr)(w:TI)(f:Pe->M (List T)):Prop where
 pi:PI X tg it w
 mi:MI K E w f
structure pN(K:W.Frag)(E:XK)(X:Cx)(tg it:Expr)(w:TI)(f:Pe->M (List T)):Prop where
 pi:PI X tg it w
 mi:Iv K E w f
structure HU(K:W.Frag)(X:Cx)(tg:Expr)(g:TG)(m:T->Pe->Option Pe):Prop where
 pg:PG X tg g
 mg:MG K g m
structure EV(K:W.Frag)(X:Cx)(tg:List Expr)(g:C2)(m:List T->Pe->Option Pe):Prop where
 pg:Ib X tg g
 mg:Ij K g m
structure Hz(K:W.Frag)(X:Cx)(tg:Expr)(g:TG)(m:T->En->Option En):Prop where
 pg:PG X tg g
 mg:B3 K g m
structure Df(K:W.Frag)(X:Cx)(tg:List Expr)(g:C2)(m:List T->En->Option En):Prop where
 pg:Ib X tg g
 mg:Bg K g m
structure pV(K:W.Frag)(E:XK)(X:Cx)(st:Stmt)(t:TS)(g:En->O):Prop where
 ps:PS X st t
 ms:MS K E t g
structure lp(K:W.Frag)(E:XK)(X:Cx)(sts:List Stmt)(t:TS)(g:En->O):Prop where
 ps:nk X sts t
 ms:MS K E t g
noncomputable def MO(K:W.Frag)(E:XK)(t:TO)(f:Pe->M (Option Int)):Prop:=∀F H a b Q,eJ F H->jk K F a b->(f b).res (λo=>∀d c,Gr F H d c->Q o c) (kE E F H)->t a H Q
structure JS(K:W.Frag)(E:XK)(X:Cx)(e:Oq Expr)(t:TO)(f:Pe->M (Option Int)):Prop where
 po:PO X e t
 mo:MO K E t f
structure BH(K:W.Frag)(E:XK)(X:Cx)(es:List Expr)(t:TT)(f:Pe->M Bool):Prop where
 pf:zd X es t
 mt:MT K E t f
section
variable {K:W.Frag}{E:XK}{X:Cx}{a b c e o:Expr}{es:List Expr}{ta tb tc te to:TE}{fa fb fc fe fo:Pe->M T}{tr:TA}{fr:Pe->M (List T)}{pos p p2 apos:Pos}
def dS i (f:X.N[i]? = some x:=by rfl) (g:IZ X.env.scope x:=by first|exact Or.inl rfl|exact Or.inr (Or.inl rfl)|exact Or.inr (Or.inr rfl)) (h:(x==("__debug__" : Str))=false:=by decide)
  (d:(x==("__classdict__" : Str))=false:=by decide):Pm K E X (.Name x pos) (jN i) (dW i):=⟨pv i f g h d,Hw⟩
def d7{j pos}:Pm K E X (.Constant (.int i) j pos) (tC (.int i)) (cM (.int i)):=⟨Bf,AI λ_=>.int i⟩
def jW{b:Bool}{j pos}:Pm K E X (.Constant (.bool b) j pos) (tC (.bl b)) (cM (.bl b)):=⟨CB,AI λ_=>.bl b⟩
def vX{j pos}:Pm K E X (.Constant .none j pos) (tC .non) (cM .non):=⟨G2,AI λ_=>.non⟩
def tJ{j pos}:Pm K E X (.Constant (.str x) j pos) (tC (.str x)) (cM (.str x)):=⟨iT,AI λ_=>.str x⟩
def uS i (d:∃t,X.mg x=some (.int i t)) (g:Gl X x:=by rfl) (f:(x==("__debug__" : Str))=false:=by decide):Pm K E X (.Name x pos) (tC (.int i)) (cM (.int i)):=let ⟨t,h⟩:=d;⟨iF g h ⟨t,rfl⟩ f,AI λ_=>.int i⟩
def gE(h:zV K E X e te f):Pm K E X e te (λρ=>(f ρ).bind λts=>.ok (.lst ts)):=⟨h.pe,h.mf.me⟩
def qV(g:mw X (binaryOp op) r)(h:MR K r m)(d:Pm K E X a ta fa)(f:Pm K E X b tb fb):Pm K E X (.BinOp a op b pos) (oq r ta tb) (ey m fa fb):=⟨vD g d.pe f.pe,yn h d.me f.me⟩
def Br(K:W.Frag):R2:=λx y H Q=>(wu λi j=>.int (i+j)) x y H Q\/(∃i j,x=.str i/\y=.str j/\i.length+j.length<=sizeLine/\Q (.str (i++j)) H)\/E3 x y H Q\/
 ∃a b d f,x=.ref a/\y=.ref b/\H a=some (.tup d)/\H b=some (.tup f)/\d.length+f.length<=sizeLine/\(d=[]->Q (.ref b) H)/\(d≠[]->f=[]->Q (.ref a) H)/\(d≠[]->f≠[]->∀p,H p=none->Q (.ref p) (gI H p (.tup (d++f))))
def C7(z:X.K=K:=by rfl):mw X (binaryOp .Add) (Br K):=by
 subst z;intro j s g H x y v u Q I d f h;rcases h with h|h|h|h
 .exact FW j s g H x y v u Q I d f h
 .exact wZ j s g H x y v u Q I d f h
 .exact uA j s g H x y v u Q I d f h
 .obtain⟨a,b,t,ys,rfl,rfl,m,w,R,L,q2,D⟩:=h;by_cases i:t=[]
  .subst i;cases d;cases f;obtain⟨P,B,Z,_⟩:=I.tuple (j9.of m);obtain⟨r,r2,p2,_⟩:=I.tuple (j9.of w);cases B;obtain⟨⟨c1,Y,e1,S⟩,n,J,N,k⟩:=id Z;obtain⟨⟨c2,A,e2,C⟩,q,k2,n2,l⟩:=id p2;subst J k k2 l;exact concat_meets ⟨_,n,rfl⟩ ⟨_,q,rfl⟩ noFill_tuple_add seq_tuple_add PySem.F.slot_tuple_add PySem.F.entry_tuple_add (PySem.F.args_tuple_add_2 _ _) (tuple_addW0 a b _ _ N n2 Y A S C (by simp)) ⟨n,q,⟨.ref b,H,I,rfl,L rfl⟩⟩
  .exact EW j s g H _ _ v u Q I d f ⟨a,b,t,ys,rfl,rfl,j9.of m,j9.of w,i,R,λe=>q2 i e,λe p U=>D i e p U⟩
noncomputable def fR:T->T->M T
 |.int i,.int j=>.ok (.int (i+j))
 |.str i,.str j=>if i.length+j.length<=sizeLine then .ok (.str (i++j)) else .bad
 |.lst a,.lst b=>if a.length+b.length<=sizeLine then .ok (.lst (a++b)) else .bad
 |.tup a,.tup b=>if a.length+b.length<=sizeLine then .ok (.tup (a++b)) else .bad
 |_,_=>.bad
def Ej x y:M.NoE (fR x y):=λC n=>by unfold fR;split<;>first|(intro z;cases z;done)|(split<;>intro z<;>cases z)
def E1:MR K (Br K) fR:=⟨Ej,λF H v w x y Q s r l q=>by
 cases r with
 |int i=>
  cases l with
  |int j=>exact .inl ⟨i,j,rfl,rfl,kV.now q s (.int _)⟩
  |_=>exact q.elim
 |str i=>
  cases l with
  |str j=>
   have d:(if i.length+j.length<=sizeLine then M.ok (T.str (i++j)) else M.bad).res (kV K F H Q) (λ_ _=>False):=q;by_cases h:i.length+j.length<=sizeLine
   .rw[aP h]at d;exact .inr (.inl ⟨i,j,rfl,rfl,h,kV.now d s (.str _)⟩)
   .rw[aQ h]at d;exact d.elim
  |_=>exact q.elim
 |lst h1 r1=>
  cases l with
  |lst h2 r2=>
   rename_i a m g b n f;have d:(if g.length+f.length<=sizeLine then M.ok (T.lst (g++f)) else M.bad).res (kV K F H Q) (λ_ _=>False):=q;by_cases h:g.length+f.length<=sizeLine
   .rw[aP h]at d;refine .inr (.inr (.inl ⟨a,b,m,n,rfl,rfl,s _ _ h1,s _ _ h2,by rw[r1.length,r2.length];exact h,λp k=>?_⟩));exact d (.ref p) _ _ (.new s k) (.lst eE ((r1.append r2).mono (Gr.new s k).ff))
   .rw[aQ h]at d;exact d.elim
  |_=>exact q.elim
 |tup h1 r1=>
  cases l with
  |tup h2 r2=>
   rename_i a m g b n f;have d:(if g.length+f.length<=sizeLine then M.ok (T.tup (g++f)) else M.bad).res (kV K F H Q) (λ_ _=>False):=q;by_cases h:g.length+f.length<=sizeLine
   .rw[aP h]at d;refine .inr (.inr (.inr ⟨a,b,m,n,rfl,rfl,s _ _ h1,s _ _ h2,by rw[r1.length,r2.length];exact h,λe=>?_,λ_ e=>?_,λ_ _ p k=>?_⟩))
    .subst e;cases r1;exact kV.now d s (.tup h2 r2)
    .subst e;cases r2;exact kV.now d s (.tup h1 (by rw[bH];exact r1))
    .exact d (.ref p) _ _ (.new s k) (.tup eE ((r1.append r2).mono (Gr.new s k).ff))
   .rw[aQ h]at d;exact d.elim
  |_=>exact q.elim
 |_=>exact q.elim⟩
def fJ(f:Pm K E X a ta fa)(g:Pm K E X b tb fb)(d:X.K=K:=by rfl):Pm K E X (.BinOp a .Add b pos) (oq (Br K) ta tb) (ey fR fa fb):=qV (C7 d) E1 f g
@[simp] noncomputable def Af(fa fb:Pe->M T):Pe->M (List T):=λd=>(fa d).bind λx=>(fb d).bind λy=>match x,y with
 |.lst a,.lst b=>if a.length+b.length<=sizeLine then .ok (a++b) else .bad
 |_,_=>.bad
def HC(n:Pm K E X a ta fa)(t:Pm K E X b tb fb):zV K E X (.BinOp a .Add b pos) (oq E3 ta tb) (Af fa fb):=by
 refine⟨vD uA n.pe t.pe,λF H I L Q s V q=>?_⟩;refine n.me.run s V q λx v J N j u A=>?_;refine t.me.run j.fh (V.mono j.ff) A λy w r B d z m=>?_;cases u with
 |lst h1 t1=>
  cases z with
  |lst h2 t2=>
   rename_i a C k b D i;have g:(if k.length+i.length<=sizeLine then M.ok (k++i) else M.bad).res (kF K F H Q) (kE E r B):=m;by_cases h:k.length+i.length<=sizeLine
   .rw[aP h]at g;refine⟨a,b,C,D,rfl,rfl,d.fh _ _ (d.ff _ _ h1),d.fh _ _ h2,by rw[t1.length,t2.length];exact h,λp l=>?_⟩;have f:=j.trans d;exact g p _ r _ (f.trans (.new' d.fh l)) (eU f.hh l) (eU d.fh l) eE ((t1.mono d.ff).append t2)
   .rw[aQ h]at g;exact g.elim
  |_=>exact m.elim
 |_=>exact m.elim
noncomputable def lN:T->T->M T:=jf (λ_ _=>true) λi j=>.int (i-j)
def lX(d:Pm K E X a ta fa)(f:Pm K E X b tb fb):Pm K E X (.BinOp a .Sub b pos) (oq (wu λi j=>.int (i-j)) ta tb) (ey lN fa fb):=qV FV (ng λ_ _ _=>.int _) d f
instance {i j:Int}:Decidable (PySem.IntMulOk i j):=inferInstanceAs (Decidable (¬_))
noncomputable def ia:T->T->M T:=jf (λi j=>decide (PySem.IntMulOk i j)) λi j=>.int (i*j)
def fU(d:Pm K E X a ta fa)(f:Pm K E X b tb fb):Pm K E X (.BinOp a .Mult b pos) (oq (rI (λi j=>PySem.IntMulOk i j) λi j=>.int (i*j)) ta tb) (ey ia fa fb):=qV Ec (tU (λi j h=>of_decide_eq_true h) λ_ _ _=>.int _) d f
noncomputable def lK:T->T->M T:=jf (λi j=>decide (j≠0)&&!Builtin.divisionGoesByPylong i j) λi j=>.int (i.fdiv j)
def lA(d:Pm K E X a ta fa)(f:Pm K E X b tb fb):Pm K E X (.BinOp a .FloorDiv b pos) (oq (rI (λi j=>j≠0/\Builtin.divisionGoesByPylong i j=false) λi j=>.int (i.fdiv j)) ta tb) (ey lK fa fb):=qV AV (tU (λi j h=>by simpa using h) λ_ _ _=>.int _) d f
noncomputable def ou:T->T->M T:=jf (λ_ j=>decide (j≠0)) λi j=>.int (i.fmod j)
def l0(d:Pm K E X a ta fa)(f:Pm K E X b tb fb):Pm K E X (.BinOp a .Mod b pos) (oq (rI (λ_ j=>j≠0) λi j=>.int (i.fmod j)) ta tb) (ey ou fa fb):=qV Dk (tU (λi j h=>by simpa using h) λ_ _ _=>.int _) d f
noncomputable def DF:T->T->M T:=jf (λi j=>decide (0<=j)&&decide (j<=1000000)&&decide (i.natAbs<18446744073709551616)) λi j=>.int (i ^ j.toNat)
def Gx(d:Pm K E X a ta fa)(f:Pm K E X b tb fb):Pm K E X (.BinOp a .Pow b pos) (oq (rI Jc λi j=>.int (i ^ j.toNat)) ta tb) (ey DF fa fb):=qV Gd (tU (λi j h=>by simp only[bP,decide_eq_true_eq]at h;exact⟨h.1.1,h.1.2,h.2⟩) λ_ _ _=>.int _) d f
def kK(d:Pm K E X a ta fa):Pm K E X (.UnaryOp .USub a pos) (JX (rU λi=>.int (-i)) ta) (rJ (λi=>.int (-i)) fa):=⟨Iu Hs d.pe,IB (λ_ _=>.int _) d.me⟩
@[simp] noncomputable def Bz(fa fb:Pe->M T):Pe->M (List T):=λd=>(fa d).bind λx=>(fb d).bind λy=>match x,y with
 |.lst a,.int k=>if xu k=true/\a.length*k.toNat<=sizeLine then .ok (List.replicate k.toNat a).flatten else .bad
 |_,_=>.bad
def FF(n:Pm K E X a ta fa)(t:Pm K E X b tb fb):zV K E X (.BinOp a .Mult b pos) (oq IF ta tb) (Bz fa fb):=by
 refine⟨vD Gw n.pe t.pe,λF H D J Q s V q=>?_⟩;refine n.me.run s V q λx v I L i u A=>?_;refine t.me.run i.fh (V.mono i.ff) A λy w r B d z m=>?_;cases u with
 |lst h1 t1=>
  cases z with
  |int k=>
   rename_i a C j;have g:(if xu k=true/\j.length*k.toNat<=sizeLine then M.ok (List.replicate k.toNat j).flatten else M.bad).res (kF K F H Q) (kE E r B):=m;by_cases h:xu k=true/\j.length*k.toNat<=sizeLine
   .rw[aP h]at g;refine⟨a,k,C,rfl,rfl,d.fh _ _ (d.ff _ _ h1),by have:=mv h.1;rw[IM]at this;rw[JF];omega,by have:=mv h.1;rw[IM]at this;rw[JF];omega,by rw[t1.length];exact h.2,λp l=>?_⟩;have f:=i.trans d;exact g p _ r _ (f.trans (.new' d.fh l)) (eU f.hh l) (eU d.fh l) eE ((t1.mono d.ff).rep k.toNat)
   .rw[aQ h]at g;exact g.elim
  |_=>exact m.elim
 |_=>exact m.elim
def i8(h:Pm K E X e te fe)(f:∀d,isTrue e X.env d=(do let v <-d;standAt e.pos;holding [v] (truthy v)):=by intro _;rfl):wJ K E X e (tB te) (fH fe):=⟨wd h.pe f,Dy h.me⟩
section
variable {tA tD:TT}{fA fD:Pe->M Bool}{jy:List Expr}
def g9(h:wJ K E X a tA fA):wJ K E X (.UnaryOp .Not a pos) (E2 tA) (jI fA):=⟨xl h.pt,Gi h.mt⟩
def oa(h:FY K E X a tA fA):wJ K E X a tA fA:=⟨PW.pt h.pw,h.mt⟩
def ni(h:wJ K E X a tA fA):FY K E X (.BoolOp .And [a] pos) tA fA:=⟨Ee h.pt,h.mt⟩
def jB(h:wJ K E X a tA fA):FY K E X (.BoolOp .Or [a] pos) tA fA:=⟨A1 h.pt,h.mt⟩
def pX(h:wJ K E X a tA fA)(d:FY K E X (.BoolOp .And (b::jy) pos) tD fD):FY K E X (.BoolOp .And (a::b::jy) pos) (Gc tA tD) (lO fA fD):=⟨Ge h.pt d.pw,Gb h.mt d.mt⟩
def jV(h:wJ K E X a tA fA)(d:FY K E X (.BoolOp .Or (b::jy) pos) tD fD):FY K E X (.BoolOp .Or (a::b::jy) pos) (JC tA tD) (oz fA fD):=⟨Fo h.pt d.pw,Im h.mt d.mt⟩
def uE{op}(h:Pm K E X a ta fa):Pm K E X (.BoolOp op [a] pos) ta fa:=⟨Ht h.pe,h.me⟩
def uu(h:Pm K E X a ta fa)(d:Pm K E X (.BoolOp .And (b::jy) pos) tb fb):Pm K E X (.BoolOp .And (a::b::jy) pos) (Cy ta tb) (zK fa fb):=⟨G4 h.pe d.pe,DW h.me d.me⟩
def Bq(h:Pm K E X a ta fa):Pm K E X (.UnaryOp .Not a pos) (AW ta) (Cr fa):=⟨GN h.pe,EG h.me⟩
end
def uF(g:mw X (compareOp op) r)(i:MR K r m)(d:Pm K E X a ta fa)(f:Pm K E X b tb fb)(h:behindInMarks op b=false:=by exact lV _):Pm K E X (.Compare a [op] [b] pos) (oq r ta tb) (ey m fa fb):=⟨Do g d.pe f.pe h,yn i d.me f.me⟩
def iQ(g:mw X (compareOp op) r)(i:MR K r m)(d:Pm K E X a ta fa)(f:Pm K E X b tb fb)(h:behindInMarks op b=false:=by exact lV _):wJ K E X (.Compare a [op] [b] pos) (qU (oq r ta tb)) (fH (ey m fa fb)):=⟨t8 g d.pe f.pe h,Ew (yn i d.me f.me)⟩
noncomputable def HY:T->T->M T:=jf (λ_ _=>true) λi j=>.bl (decide (i<j))
noncomputable def Jn:T->T->M T:=jf (λ_ _=>true) λi j=>.bl (decide (i<=j))
noncomputable def xI:T->T->M T:=jf (λ_ _=>true) λi j=>.bl (decide (j<i))
noncomputable def HV:T->T->M T:=jf (λ_ _=>true) λi j=>.bl (decide (j<=i))
def xT:MR K (wu λi j=>.bl (decide (i<j))) HY:=ng λ_ _ _=>.bl _
def Bx:MR K (wu λi j=>.bl (decide (i<=j))) Jn:=ng λ_ _ _=>.bl _
def vo:MR K (wu λi j=>.bl (decide (j<i))) xI:=ng λ_ _ _=>.bl _
def CK:MR K (wu λi j=>.bl (decide (j<=i))) HV:=ng λ_ _ _=>.bl _
@[simp] noncomputable def Jy(m f:T->T->M T)(fa fb fc:Pe->M T):Pe->M T:=λd=>(fa d).bind λx=>(fb d).bind λy=>(m x y).bind λz=>match z with
 |.bl true=>(fc d).bind λw=>f y w
 |.bl false=>.ok (.bl false)
 |_=>.bad
def CC(A:MR K r m)(f:MR K r' m')(C:ME K E ta fa)(hb:ME K E tb fb)(Y:ME K E tc fc):ME K E (xg r r' ta tb tc) (Jy m m' fa fb fc):=λF H σ ρ Q s V q=>by
 refine C.run s V q λx v F1 H1 j I L=>?_;refine hb.run j.fh (V.mono j.ff) L λy w F2 S l t q2=>?_;refine A.ok F2 S v w x y _ l.fh (I.mono l.ff) t (((M.res.unb q2).ne (A.ne x y)).mono (λz n v3 N D g R=>?_) λ_ _ z=>z);have d:=(j.trans l).trans g;cases R with
 |bl k=>
  refine⟨k,rfl,?_⟩;cases k with
  |true=>rw[aP rfl];have h:=n.mono (λ_ z=>z) λ_ _ z=>z.go g;refine Y.run g.fh (V.mono d.ff) h λu U P Z i J B=>?_;exact f.ok P Z w U y u Q i.fh (t.mono (g.ff.trans i.ff)) J ((B.ne (f.ne y u)).mono (λ_ z=>z.go (d.trans i)) λ_ _ z=>z)
  |false=>rw[aQ aG];exact n _ N D d (.bl _)
 |_=>exact n.elim
def vM(j:mw X (compareOp op) r)(l:MR K r m)(d:mw X (compareOp op') r')(f:MR K r' m')(g:Pm K E X a ta fa)(i:Pm K E X b tb fb)(h:Pm K E X c tc fc)
  (k:lastMarks [op,op'] [b,c]=false:=by with_unfolding_all rfl):Pm K E X (.Compare a [op,op'] [b,c] pos) (xg r r' ta tb tc) (Jy m m' fa fb fc):=⟨Ck j d g.pe i.pe h.pe k,CC l f g.me i.me h.me⟩
mutual
noncomputable def mH:T->Bool
 |.str x=>PyData.canLay0 (.str x)
 |.lst ts=>og ts
 |.tup ts=>og ts
 |.scr _=>false
 |.obj _ _=>false
 |.emp=>false
 |.dic _=>false
 |_=>true
noncomputable def og:List T->Bool
 |[]=>true
 |t::ts=>mH t&&og ts
end
mutual
def uV:T->PyData
 |.non=>.none
 |.bl b=>.bool b
 |.int i=>.int i
 |.str x=>.str x
 |.lst ts=>.list (pQ ts)
 |.tup ts=>.tuple (pQ ts)
 |.scr _=>.none
 |.obj _ _=>.none
 |.emp=>.none
 |.dic _=>.none
def pQ:List T->List PyData
 |[]=>[]
 |t::ts=>uV t::pQ ts
end
mutual
theorem BY{F:Hp}:∀{v:V} {t:T},iS K F v t->mH t=true->DV K F v (uV t)
 |_,_,.non,_=>.non
 |_,_,.bl b,_=>.bl b
 |_,_,.int i,_=>.int i
 |_,_,.str x,_=>.str x
 |_,_,.lst h r,l=>.lst (jR.of h) (xi r (by simpa[mH] using l))
 |_,_,.tup h r,l=>.tup (j9.of h) (xi r (by simpa[mH] using l))
 |_,_,.scr _,l=>by simp[mH]at l
 |_,_,.obj _ _,l=>by simp[mH]at l
 |_,_,.emp _,l=>by simp[mH]at l
 |_,_,.dic _ _,l=>by simp[mH]at l
theorem xi{F:Hp}:∀{vs:List V} {ts:List T},eP K F vs ts->og ts=true->sM K F vs (pQ ts)
 |_,_,.nil,_=>.nil
 |_,_,.cons h r,l=>by rw[og,bP]at l;exact .cons (BY h l.1) (xi r l.2)
end
mutual
theorem tz:∀t,mH t=true->(uV t).canLay0=true
 |.non,_=>rfl
 |.bl b,_=>rfl
 |.int i,_=>rfl
 |.str x,h=>by simpa[mH,uV] using h
 |.lst ts,h=>by rw[uV,PyData.canLay0];exact rh ts (by simpa[mH] using h)
 |.tup ts,h=>by rw[uV,PyData.canLay0];exact rh ts (by simpa[mH] using h)
 |.scr _,h=>by simp[mH]at h
 |.obj _ _,h=>by simp[mH]at h
 |.emp,h=>by simp[mH]at h
 |.dic _,h=>by simp[mH]at h
theorem rh:∀ts,og ts=true->PyData.canLayAll0 (pQ ts)=true
 |[],_=>rfl
 |t::ts,h=>by rw[og,bP]at h;rw[pQ,PyData.canLayAll0,tz t h.1,rh ts h.2];rfl
end
noncomputable def yr(x y:T):Bool:=(uV x).eqv (uV y)
noncomputable def qK(xs a:List T):Bool:=PyData.eqvAll (pQ xs) (pQ a)
noncomputable def xb(t:T):Nat:=(uV t).depth
noncomputable def oF(ts:List T):Nat:=PyData.depthAll (pQ ts)
@[simp] theorem JH i:xb (.int i)=0:=rfl
@[simp] theorem JT i:xb (.bl i)=0:=rfl
@[simp] theorem JG i:xb (.str i)=0:=rfl
@[simp] theorem Jx:xb .non=0:=rfl
@[simp] theorem yu ts:xb (.lst ts)=oF ts+1:=by unfold xb oF;rw[uV,PyData.depth]
@[simp] theorem Ea ts:xb (.tup ts)=oF ts+1:=by unfold xb oF;rw[uV,PyData.depth]
@[simp] theorem Jj:oF []=0:=rfl
@[simp] theorem zc t ts:oF (t::ts)=max (xb t) (oF ts):=by unfold xb oF;rw[pQ,PyData.depthAll]
@[simp] theorem JD i j:yr (.int i) (.int j)=(i==j):=rfl
@[simp] theorem JP i j:yr (.str i) (.str j)=(i==j):=rfl
def nR xs ys:yr (.lst xs) (.lst ys)=qK xs ys:=by unfold yr qK;rw[uV,uV,PyData.eqv]
def mC xs ys:yr (.tup xs) (.tup ys)=qK xs ys:=by unfold yr qK;rw[uV,uV,PyData.eqv]
def oA x xs y ys:qK (x::xs) (y::ys)=(yr x y&&qK xs ys):=by unfold yr qK;rw[pQ,pQ,PyData.eqvAll]
noncomputable def eQ(neg:Bool):T->T->M T:=λx y=>if mH x&&mH y&&decide (xb x<=100) then .ok (.bl (if neg then !yr x y else yr x y)) else .bad
mutual
theorem DV.same{F H:Hp}(s:eJ F H):∀{v:V} {d:PyData},DV K F v d->DV K H v d
 |_,_,.non=>.non
 |_,_,.bl b=>.bl b
 |_,_,.int i=>.int i
 |_,_,.str x=>.str x
 |_,_,.lst h r=>.lst (s.seq h) (sM.same s r)
 |_,_,.tup h r=>.tup (s.seqT h) (sM.same s r)
theorem sM.same{F H:Hp}(s:eJ F H):∀{v:List V} {d:List PyData},sM K F v d->sM K H v d
 |_,_,.nil=>.nil
 |_,_,.cons h r=>.cons (DV.same s h) (sM.same s r)
end
def Ed x y:M.NoE (eQ neg x y):=λC n=>by unfold eQ;split<;>exact λz=>nomatch z
def xY(neg:Bool):MR K (wM K neg) (eQ neg):=⟨Ed,λF H v w x y Q s a b q=>by
 unfold eQ at q;by_cases h:(mH x&&mH y&&decide (xb x<=100))=true
 .rw[aP h]at q;simp only[bP,decide_eq_true_eq]at h;refine⟨uV x,uV y,DV.same s (BY a h.1.1),DV.same s (BY b h.1.2),⟨tz x h.1.1,tz y h.1.2,by exact h.2⟩,?_⟩;exact kV.now q s (.bl _)
 .rw[aQ h]at q;exact q.elim⟩
def yc{k:Nat}(f:fN k X.A)(e:Pm K E X a ta fa)(g:Pm K E X b tb fb)(c:X.K=K:=by rfl)(d:behindInMarks .Eq b=false:=by exact lV _):Pm K E X (.Compare a [.Eq] [b] pos) (oq (wM K false) ta tb) (ey (eQ false) fa fb):=uF (c▸BO (JM f)) (xY false) e g d
def Jm{k:Nat}(f:fN k X.A)(e:Pm K E X a ta fa)(g:Pm K E X b tb fb)(c:X.K=K:=by rfl)(d:behindInMarks .NotEq b=false:=by exact lV _):Pm K E X (.Compare a [.NotEq] [b] pos) (oq (wM K true) ta tb) (ey (eQ true) fa fb):=uF (c▸B5 (JM f)) (xY true) e g d
def ja{k:Nat}(f:fN k X.A)(e:Pm K E X a ta fa)(g:Pm K E X b tb fb)(c:X.K=K:=by rfl)(d:behindInMarks .Eq b=false:=by exact lV _):wJ K E X (.Compare a [.Eq] [b] pos) (qU (oq (wM K false) ta tb)) (fH (ey (eQ false) fa fb)):=iQ (c▸BO (JM f)) (xY false) e g d
def iX{k:Nat}(f:fN k X.A)(e:Pm K E X a ta fa)(g:Pm K E X b tb fb)(c:X.K=K:=by rfl)(d:behindInMarks .NotEq b=false:=by exact lV _):wJ K E X (.Compare a [.NotEq] [b] pos) (qU (oq (wM K true) ta tb)) (fH (ey (eQ true) fa fb)):=iQ (c▸B5 (JM f)) (xY true) e g d
@[simp] noncomputable def wg(neg:Bool):T->T->M T:=λx y=>match y with
 |.non=>.ok (.bl (match x with|.non=>!neg|_=>neg))
 |_=>.bad
def Et x y:M.NoE (wg neg x y):=λC n=>by cases y<;>exact λz=>nomatch z
def HG:MR K (λx y H Q=>y=.non/\Q (.bl (decide (x=.non))) H) (wg false):=⟨Et,λF H v w x y Q s a b q=>by
 cases b with
 |non=>refine⟨rfl,?_⟩;cases a<;>exact kV.now q s (.bl _)
 |_=>exact q.elim⟩
end
end L3
namespace L3
open PySem L2 PySem.Spec PyProof.Rows
section
variable {K:W.Frag}{E:XK}{X:Cx}{a b c e o tg it:Expr}{es:List Expr}{ta tb tc te to:TE}{fa fb fc fe fo:Pe->M T}{tr:TA}{fr:Pe->M (List T)}{pos p p2 apos:Pos}
def dZ:vJ K E X [] kH d8:=⟨fQ,v7⟩
def dU(d:Pm K E X e te fe)(f:vJ K E X es tr fr)(g:starEach (e::es) X.env=(false,eval e X.env)::starEach es X.env:=by rfl):vJ K E X (e::es) (iA te tr) (dX fe fr):=⟨ez d.pe f.pa g,EB d.me f.ma⟩
def l8{x1}(h:vJ K E X es tr fr):Pm K E X (.Tuple es x1 pos) (Hg tr) (mD fr):=⟨Hj h.pa,Gz h.ma⟩
def iw(h:vJ K E X es tr fr):zV K E X (.List es pos) (Ay tr) (lstM fr):=⟨qt h.pa,FQ h.ma⟩
structure MC(K:W.Frag)(r:List V->Hp->VK->Prop)(o:List T->M T):Prop where
 ne:∀xs,M.NoE (o xs)
 ok:∀F H vs xs Q,eJ F H->eP K F vs xs->(o xs).res (kV K F H Q) (λ_ _=>False)->r vs H Q
structure JZ(K:W.Frag)(r:List V->Hp->VK->Prop)(o:List T->M (List T)):Prop where
 ne:∀xs,M.NoE (o xs)
 ok:∀F H vs xs Q,eJ F H->eP K F vs xs->(o xs).res (kF K F H Q) (λ_ _=>False)->r vs H Q
@[simp] noncomputable def i7(o:List T->M T)(fr:Pe->M (List T)):Pe->M T:=λd=>(fr d).bind o
@[simp] noncomputable def Fd(o:List T->M (List T))(fr:Pe->M (List T)):Pe->M (List T):=λd=>(fr d).bind o
def FC{o:List T->M T}(f:MC K r o)(i:MA K E tr fr):ME K E (zq r tr) (i7 o fr):=λF H n t Q s V q=>by refine i.run s V q λg h l m d j k=>?_;exact f.ok l m h g Q d.fh j ((k.ne (f.ne g)).mono (λ_ z=>z.go d) λ_ _ z=>z)
def Ic{o:List T->M (List T)}(f:JZ K r o)(i:MA K E tr fr):MF K E (zq r tr) (Fd o fr):=λF H n t Q s V q=>by refine i.run s V q λg h l m d j k=>?_;exact f.ok l m h g Q d.fh j ((k.ne (f.ne g)).mono (λ_ z=>z.go d) λ_ _ z=>z)
section
variable {x:Str}{id T':String}{r:List V->Hp->VK->Prop}{m:List T->M T}{mf:List T->M (List T)}
def fg(n:iN X (.builtin id) r)(d:MC K r m)(q:Gl X x)(l:X.mg x=none)(j:bootBuiltins x=some (.builtin id))(h:vJ K E X (e::es) tr fr)(k:x≠ "__name__" :=by decide)(f:(x==("__debug__" : Str))=false:=by decide)
  (i:starEach (e::es) X.env=(false,eval e X.env)::starEach es X.env:=by rfl) (g:(backTo pos (starEach es X.env)).any (·.1)=false:=by rfl):Pm K E X (.Call (.Name x p) (e::es) [] pos) (zq r tr) (i7 m fr):=⟨gw n q l j h.pa k f i g,FC d h.ma⟩
def gU(n:iN X (.type T') r)(d:MC K r m)(q:Gl X x)(l:X.mg x=none)(j:bootBuiltins x=some (.type T'))(h:vJ K E X (e::es) tr fr)(k:x≠ "__name__" :=by decide)(f:(x==("__debug__" : Str))=false:=by decide)
  (i:starEach (e::es) X.env=(false,eval e X.env)::starEach es X.env:=by rfl) (g:(backTo pos (starEach es X.env)).any (·.1)=false:=by rfl):Pm K E X (.Call (.Name x p) (e::es) [] pos) (zq r tr) (i7 m fr):=⟨tj n q l j h.pa k f i g,FC d h.ma⟩
def oJ(n:iN X (.type T') r)(d:JZ K r mf)(q:Gl X x)(l:X.mg x=none)(j:bootBuiltins x=some (.type T'))(h:vJ K E X (e::es) tr fr)(k:x≠ "__name__" :=by decide)(f:(x==("__debug__" : Str))=false:=by decide)
  (i:starEach (e::es) X.env=(false,eval e X.env)::starEach es X.env:=by rfl) (g:(backTo pos (starEach es X.env)).any (·.1)=false:=by rfl):zV K E X (.Call (.Name x p) (e::es) [] pos) (zq r tr) (Fd mf fr):=⟨tj n q l j h.pa k f i g,Ic d h.ma⟩
end
@[simp] noncomputable def iL:List T->M T
 |[.lst ts]=>.ok (.int ts.length)
 |[.tup ts]=>.ok (.int ts.length)
 |[.scr ns]=>.ok (.int ns.length)
 |[.str z]=>if z.length<=sizeLine then .ok (.int z.length) else .bad
 |_=>.bad
def Dq xs:M.NoE (iL xs):=λC n=>by unfold iL;split<;>first|(intro z;cases z;done)|(split<;>first|(intro z;cases z;done)|(split<;>intro z<;>cases z))
def iU:MC K (λxs H Q=>∃x n,xs=[x]/\G1 K x H n/\Q (.int n) H) iL:=⟨Dq,λF H g xs Q s r q=>by
 cases r with
 |nil=>exact q.elim
 |cons h t=>
  cases t with
  |cons _ _=>cases h<;>exact q.elim
  |nil=>
   cases h with
   |lst h r=>exact⟨_,_,rfl,.inl ⟨_,jR.of (s _ _ h),rfl⟩,by rw[r.length];exact kV.now q s (.int _)⟩
   |tup h r=>exact⟨_,_,rfl,.inr ⟨_,j9.of (s _ _ h),rfl⟩,by rw[r.length];exact kV.now q s (.int _)⟩
   |scr h=>exact⟨_,_,rfl,.inl ⟨_,s.seq h,rfl⟩,by rw[aw];exact kV.now q s (.int _)⟩
   |str z=>
    have d:(if z.length<=sizeLine then M.ok (T.int z.length) else M.bad).res (kV K F H Q) (λ_ _=>False):=q;by_cases f:z.length<=sizeLine
    .rw[aP f]at d;exact⟨_,z.length,rfl,⟨f,rfl⟩,kV.now d s (.int _)⟩
    .rw[aQ f]at d;exact d.elim
   |_=>exact q.elim⟩
@[simp] noncomputable def uR:List T->M T
 |[.int i]=>.ok (.int (if i<0 then -i else i))
 |_=>.bad
def Dm xs:M.NoE (uR xs):=λC n=>by unfold uR;split<;>first|(intro z;cases z;done)|(split<;>first|(intro z;cases z;done)|(split<;>intro z<;>cases z))
def um:MC K (λxs H Q=>∃i,xs=[.int i]/\Q (.int (if i<0 then -i else i)) H) uR:=⟨Dm,λF H d xs Q s r q=>by
 cases r with
 |nil=>exact q.elim
 |cons h t=>
  cases t with
  |cons _ _=>cases h<;>exact q.elim
  |nil=>
   cases h with
   |int i=>exact⟨i,rfl,kV.now q s (.int _)⟩
   |_=>exact q.elim⟩
@[simp] noncomputable def sy:List T->M T
 |[.int i,.int j]=>.ok (.int (if j>i then j else i))
 |_=>.bad
def A4 xs:M.NoE (sy xs):=λC n=>by unfold sy;split<;>first|(intro z;cases z;done)|(split<;>first|(intro z;cases z;done)|(split<;>intro z<;>cases z))
def Em:MC K (λxs H Q=>∃i j,xs=[.int i,.int j]/\Q (.int (if j>i then j else i)) H) sy:=⟨A4,λF H d xs Q s r q=>by
 unfold sy at q;split at q
 .exact⟨_,_,r.two,kV.now q s (.int _)⟩
 .exact q.elim⟩
@[simp] noncomputable def qg:List T->M T
 |[.int i]=>.ok (.int i)
 |[.bl k]=>.ok (.int (if k then 1 else 0))
 |_=>.bad
def BL xs:M.NoE (qg xs):=λC n=>by unfold qg;split<;>first|(intro z;cases z;done)|(split<;>first|(intro z;cases z;done)|(split<;>intro z<;>cases z))
def ya:MC K (λxs H Q=>(∃i,xs=[.int i]/\Q (.int i) H)\/∃k,xs=[.bl k]/\Q (.int (if k then 1 else 0)) H) qg:=⟨BL,λF H d xs Q s r q=>by
 cases r with
 |nil=>exact q.elim
 |cons h t=>
  cases t with
  |cons _ _=>cases h<;>exact q.elim
  |nil=>
   cases h with
   |int i=>exact .inl ⟨i,rfl,kV.now q s (.int _)⟩
   |bl k=>exact .inr ⟨k,rfl,kV.now q s (.int _)⟩
   |_=>exact q.elim⟩
@[simp] noncomputable def iG:List T->M T
 |[.lst ts]=>.ok (.tup ts)
 |[.tup ts]=>.ok (.tup ts)
 |[.scr ns]=>.ok (.tup (ns.map T.int))
 |_=>.bad
def wI xs:M.NoE (iG xs):=λC n=>by unfold iG;split<;>first|(intro z;cases z;done)|(split<;>first|(intro z;cases z;done)|(split<;>intro z<;>cases z))
def iD:MC K (λxs H Q=>∃p f,xs=[.ref p]/\((jR K H p f/\∀l,H l=none->Q (.ref l) (gI H l (.tup f)))\/(j9 K H p f/\Q (.ref p) H))) iG:=⟨wI,λF H g xs Q s r q=>by
 cases r with
 |nil=>exact q.elim
 |cons h t=>
  cases t with
  |cons _ _=>cases h<;>exact q.elim
  |nil=>
   cases h with
   |lst h r=>exact⟨_,_,rfl,.inl ⟨jR.of (s _ _ h),λl d=>q (.ref l) _ _ (.new s d) (.tup eE (r.mono (Gr.new s d).ff))⟩⟩
   |scr h=>exact⟨_,_,rfl,.inl ⟨s.seq h,λl d=>q (.ref l) _ _ (.new s d) (.tup eE (eP.of_ints _))⟩⟩
   |tup h r=>exact⟨_,_,rfl,.inr ⟨j9.of (s _ _ h),kV.now q s (.tup h r)⟩⟩
   |_=>exact q.elim⟩
@[simp] noncomputable def mV:List T->M (List T)
 |[.lst ts]=>.ok ts
 |[.tup ts]=>.ok ts
 |[.scr ns]=>.ok (ns.map T.int)
 |_=>.bad
def zg xs:M.NoE (mV xs):=λC n=>by unfold mV;split<;>first|(intro z;cases z;done)|(split<;>first|(intro z;cases z;done)|(split<;>intro z<;>cases z))
def qf:JZ K (λxs H Q=>∃p f,xs=[.ref p]/\(jR K H p f\/j9 K H p f)/\∀l,H l=none->Q (.ref l) (gI H l (.lst f))) mV:=⟨zg,λF H g xs Q s r q=>by
 cases r with
 |nil=>exact q.elim
 |cons h t=>
  cases t with
  |cons _ _=>cases h<;>exact q.elim
  |nil=>
   cases h with
   |lst h r=>exact⟨_,_,rfl,.inl (jR.of (s _ _ h)),λl d=>q l _ F _ (.new' s d) d (eU s d) eE r⟩
   |scr h=>exact⟨_,_,rfl,.inl (s.seq h),λl d=>q l _ F _ (.new' s d) d (eU s d) eE (eP.of_ints _)⟩
   |tup h r=>exact⟨_,_,rfl,.inr (j9.of (s _ _ h)),λl d=>q l _ F _ (.new' s d) d (eU s d) eE r⟩
   |_=>exact q.elim⟩
def mY:List T->Option (LI)
 |[]=>some []
 |.int i::ts=>(mY ts).bind λr=>some (i::r)
 |_::_=>none
@[simp] theorem HX ns:mY (ns.map T.int)=some ns:=by
 induction ns with
 |nil=>rfl
 |cons n ns ih=>simp[mY,ih]
def mJ:List T->Option (List Bool)
 |[]=>some []
 |.bl i::ts=>(mJ ts).bind λr=>some (i::r)
 |_::_=>none
theorem sL:∀{ts} {ns},mJ ts=some ns->ts=ns.map T.bl
 |[],_,e=>by cases e;rfl
 |t::ts,ns,e=>by
  cases t with
  |bl i=>
   cases q:mJ ts with
   |none=>simp[mJ,q]at e
   |some r=>simp[mJ,q]at e;subst e;rw[sL q];rfl
  |_=>cases e
@[simp] theorem IR ns:mJ (ns.map T.bl)=some ns:=by
 induction ns with
 |nil=>rfl
 |cons n ns ih=>simp[mJ,ih]
@[simp] noncomputable def vV:List T->M T
 |[.lst ts]=>match mJ ts with
  |some ns=>.ok (.bl (ns.all id))
  |none=>.bad
 |_=>.bad
def EC xs:M.NoE (vV xs):=λC n=>by unfold vV;split<;>first|(intro z;cases z;done)|(split<;>first|(intro z;cases z;done)|(split<;>intro z<;>cases z))
def w5:MC K (λxs H Q=>∃(p:Addr) (bs:List Bool),xs=[.ref p]/\jR K H p (bs.map V.bl)/\Q (.bl (bs.all id)) H) vV:=⟨EC,λF H g xs Q s r q=>by
 cases r with
 |nil=>exact q.elim
 |cons h t=>
  cases t with
  |cons _ _=>cases h<;>exact q.elim
  |nil=>
   cases h with
   |lst h r=>
    rename_i a xs f;have d:(match mJ f with|some ns=>M.ok (T.bl (ns.all id))|none=>M.bad).res (kV K F H Q) (λ_ _=>False):=q;cases e:mJ f with
    |none=>rw[e]at d;exact d.elim
    |some ns=>rw[e]at d;rw[sL e]at r;have:=r.bls;subst this;exact⟨a,ns,rfl,jR.of (s _ _ h),kV.now d s (.bl _)⟩
   |_=>exact q.elim⟩
@[simp] noncomputable def Ia:T->String
 |.non=> "NoneType"
 |.bl _=> "bool"
 |.int _=> "int"
 |.str _=> "str"
 |.tup _=> "tuple"
 |.lst _=> "list"
 |.scr _=> "script"
 |.obj _ _=> "object"
 |.emp=> "dict"
 |.dic _=> "table"
@[simp] noncomputable def HE(n:String)(x:T):M T:=match x with
 |.scr _=>.bad
 |.obj _ _=>.bad
 |.dic _=>.bad
 |x=>.ok (.bl (Ia x==n||(n == "int" && Ia x == "bool")))
def Jf(r:iS K F v x)(s:eJ F H)(g:∀d,x≠.scr d)(k:∀C fs,x≠.obj C fs)(f:∀j,x≠.dic j):lz K H v (.type (Ia x)):=by
 cases r with
 |non=>exact .non
 |bl b=>exact .bl b
 |int i=>exact .int i
 |str x=>exact .str x
 |tup h r=>exact .tup (s _ _ h)
 |lst h r=>exact .lst (s _ _ h)
 |scr h=>exact absurd rfl (g _)
 |obj h r=>exact absurd rfl (k _ _)
 |emp h=>exact .dK (s _ _ h)
 |dic h r=>exact absurd rfl (f _)
@[simp] noncomputable def oH(n:String)(fe:Pe->M T):Pe->M T:=λd=>(fe d).bind λx=>HE n x
theorem GQ(A:∀t∈["NoneType", "bool", "int", "str", "tuple", "list", "dict"],W.kitOne K (.type t) (.type n)=some (t==n||(n == "int" && t == "bool")))(u:ME K E te fe) :
  ME K E (zq (λxs H Q=>∃x T t b,xs=[x,.ty T]/\lz K H x t/\W.kitOne K t (.type T)=some b/\Q (.bl b) H) (iA te (iA (tC (.ty n)) kH))) (oH n fe):=λF H D I Q s V q=>by
 refine u.run s V q λx v y j k w f=>?_;have d:∀b,HE n x=.ok (.bl b)->(∀i,x≠.scr i)->(∀C fs,x≠.obj C fs)->(∀h,x≠.dic h)->b=(Ia x==n||(n == "int" && Ia x == "bool"))->∃g T t b,[v,L2.V.ty n]=[g,.ty T]/\lz K j g t/\W.kitOne K t (.type T)=some b/\Q (.bl b) j:=by
  intro b e m r l B;rw[e]at f;refine⟨v,n,_,b,rfl,Jf w k.fh m r l,?_,f _ y j k (.bl _)⟩;rw[B];refine A _ ?_;cases x with
  |scr i=>exact absurd rfl (m i)
  |obj C fs=>exact absurd rfl (r C fs)
  |dic h=>exact absurd rfl (l h)
  |_=>simp[Ia]
 cases x with
 |scr i=>exact f.elim
 |obj C fs=>exact f.elim
 |dic h=>exact f.elim
 |non=>exact d _ rfl (λ_ z=>nomatch z) (λ_ _ z=>nomatch z) (λ_ z=>nomatch z) rfl
 |bl _=>exact d _ rfl (λ_ z=>nomatch z) (λ_ _ z=>nomatch z) (λ_ z=>nomatch z) rfl
 |int _=>exact d _ rfl (λ_ z=>nomatch z) (λ_ _ z=>nomatch z) (λ_ z=>nomatch z) rfl
 |str _=>exact d _ rfl (λ_ z=>nomatch z) (λ_ _ z=>nomatch z) (λ_ z=>nomatch z) rfl
 |tup _=>exact d _ rfl (λ_ z=>nomatch z) (λ_ _ z=>nomatch z) (λ_ z=>nomatch z) rfl
 |lst _=>exact d _ rfl (λ_ z=>nomatch z) (λ_ _ z=>nomatch z) (λ_ z=>nomatch z) rfl
 |emp=>exact d _ rfl (λ_ z=>nomatch z) (λ_ _ z=>nomatch z) (λ_ z=>nomatch z) rfl
def DH K:∀n∈["int", "bool", "str", "tuple", "list"],∀t∈["NoneType", "bool", "int", "str", "tuple", "list", "dict"],W.kitOne K (.type t) (.type n)=some (t==n||(n == "int" && t == "bool")):=by intro n d t f;simp only[aE,cK,or_false]at d f;rcases d with rfl|rfl|rfl|rfl|rfl<;>rcases f with rfl|rfl|rfl|rfl|rfl|rfl|rfl<;>rfl
def m8 n (d:n∈["int", "bool", "str", "tuple", "list"]) (j:X.mg "isinstance" = none) (l:X.mg x=none) (h:bootBuiltins x=some (.type n)) (r:Pm K E X e te fe) (u:X.K=K:=by rfl) (m:Gl X "isinstance" :=by rfl) (i:Gl X x:=by rfl)
  (k:x≠ "__name__" :=by decide) (q:(x==("__debug__" : Str))=false:=by decide)
  (s:starEach [e,.Name x p3] X.env=(false,eval e X.env)::starEach [.Name x p3] X.env:=by rfl) (g:starEach [.Name x p3] X.env=(false,eval (.Name x p3) X.env)::starEach [] X.env:=by rfl) (f:(backTo pos (starEach [.Name x p3] X.env)).any (·.1)=false:=by rfl) :
  Pm K E X (.Call (.Name "isinstance" p) [e,.Name x p3] [] pos) (zq (λxs H Q=>∃x T t b,xs=[x,.ty T]/\lz K H x t/\W.kitOne K t (.type T)=some b/\Q (.bl b) H) (iA te (iA (tC (.ty n)) kH))) (oH n fe):=by
 subst u;exact⟨gw zZ m j jh (ez r.pe (ez (xr i l h rfl k q) fQ g) s) (by decide) (by decide) s f,GQ (DH X.K n d) r.me⟩
@[simp] noncomputable def fG:T->T->M T
 |.lst ts,.int i=>match lQ ts i with
  |some t=>.ok t
  |none=>.bad
 |.tup ts,.int i=>match lQ ts i with
  |some t=>.ok t
  |none=>.bad
 |.scr ns,.int i=>match lQ ns i with
  |some t=>.ok (.int t)
  |none=>.bad
 |.str z,.int i=>if z.length<=sizeLine then (match lQ z.cps.toList i with
  |some c=>.ok (.str ⟨#[c]⟩)
  |none=>.bad) else .bad
 |_,_=>.bad
def yC(r:eP K F vs ts)(h:lQ ts i=some t):∃v,lQ vs i=some v/\iS K F v t:=by
 unfold lQ at h ⊢;rw[r.length];cases e:qA ts.length i with
 |none=>rw[e]at h;cases h
 |some j=>rw[e]at h;exact r.get h
def mm(f:α->β) l i:lQ (l.map f) i=(lQ l i).map f:=by
 unfold lQ;rw[aw];cases qA l.length i with
 |none=>rfl
 |some j=>simp
def G3 x y:M.NoE (fG x y):=λC n=>by unfold fG;split<;>first|(intro z;cases z;done)|(split<;>first|(intro z;cases z;done)|(split<;>intro z<;>cases z))
def Iw:MR K (HW K) fG:=⟨G3,λF H v w x y Q s d f q=>by
 unfold fG at q;split at q
 .rename_i l i;rw[f.int_inv];obtain⟨a,k,rfl,h,r⟩:=d.lst_inv;split at q
  .rename_i t e;obtain⟨v,g,j⟩:=yC r e;exact .inl ⟨a,k,i,v,rfl,rfl,jR.of (s _ _ h),g,kV.now q s j⟩
  .exact q.elim
 .rename_i l i;rw[f.int_inv];obtain⟨a,k,rfl,h,r⟩:=d.tup_inv;split at q
  .rename_i t e;obtain⟨v,g,j⟩:=yC r e;exact .inr (.inl ⟨a,k,i,v,rfl,rfl,j9.of (s _ _ h),g,kV.now q s j⟩)
  .exact q.elim
 .rename_i n i;rw[f.int_inv];cases d with
  |scr h=>
   split at q
   .rename_i t e;exact .inl ⟨_,_,i,.int t,rfl,rfl,s.seq h,by rw[mm,e];rfl,kV.now q s (.int _)⟩
   .exact q.elim
 .rename_i z i;rw[f.int_inv];cases d with
  |str z=>
   split at q
   .rename_i m;split at q
    .rename_i c e;exact .inr (.inr ⟨z,i,c,rfl,rfl,m,e,kV.now q s (.str _)⟩)
    .exact q.elim
   .exact q.elim
 .exact q.elim⟩
def eW(d:Pm K E X a ta fa)(f:Pm K E X b tb fb)(g:uy b:=by intro _ _;rfl)(h:X.K=K:=by rfl):Pm K E X (.Subscript a b pos) (oq (HW K) ta tb) (ey fG fa fb):=⟨Ci (h▸wm) d.pe f.pe g,yn Iw d.me f.me⟩
def jU:JS K E X none yj (λ_=>.ok none):=⟨DO,λF H d f Q s V q=>q F H (.refl s)⟩
@[simp] noncomputable def fY(fe:Pe->M T):Pe->M (Option Int):=λd=>(fe d).bind λx=>match x with
 |.int i=>.ok (some i)
 |_=>.bad
def jT(h:Pm K E X e te fe):JS K E X (some e) (Fg te) (fY fe):=⟨C9 h.pe,λF H l m Q s V q=>by
 refine h.me.run s V q λx v j f g k d=>?_;cases k with
 |int i=>exact⟨i,rfl,d j f g⟩
 |_=>exact d.elim⟩
noncomputable def ly{f:Type}(xs:List f)(d g:Oq Int):List f:=(xs.drop (HT.sIx xs.length 0 d)).take (HT.sIx xs.length xs.length g-HT.sIx xs.length 0 d)
def GR xs lo hi:AS xs lo hi=ly xs lo hi:=rfl
def eP.cut(r:eP K F vs ts) lo hi:eP K F (ly vs lo hi) (ly ts lo hi):=by unfold ly;rw[r.length];exact (r.drop _).take _
def Cc(f:α->β) l lo hi:ly (l.map f) lo hi=(ly l lo hi).map f:=by unfold ly;rw[aw,cL,cN]
section
variable {lo hi:Oq Expr}{tl th:TO}{fl fh:Pe->M (Option Int)}
def MO.run{k:Oq Int->M α}{P:α->Prop}(h:MO K E t f)(s:eJ F H)(v:jk K F σ ρ)(r:((f ρ).bind k).res P (kE E F H))
  (j:∀x i d,Gr F H i d->(k x).res P (kE E i d)->Q x d):t σ H Q:=
 h F H σ ρ Q s v ((M.res.unb r).mono (λx q i d g=>j x i d g (q.mono (λ_ z=>z) λ_ _ z=>z.go g)) λ_ _ z=>z)
@[simp] noncomputable def iH(fe:Pe->M T)(fl fh:Pe->M (Option Int)):Pe->M T:=λd=>(fe d).bind λx=>(fl d).bind λl=>(fh d).bind λh=>match x with
 |.tup ts=>.ok (.tup (ly ts l h))
 |.lst ts=>.ok (.lst (ly ts l h))
 |.scr ns=>.ok (.lst ((ly ns l h).map T.int))
 |_=>.bad
def hW(y:Pm K E X e te fe)(A:JS K E X lo tl fl)(w:JS K E X hi th fh)(B:X.K=K:=by rfl):Pm K E X (.Subscript e (.Slice lo hi none p2) pos) (Ko (λx lo hi H Q=>IV K x lo hi H Q\/(IG K x lo hi H Q\/II K x lo hi H Q)) te tl th) (iH fe fl fh):=by
 subst B;refine⟨zW (Ez.or (FU.or Dd)) y.pe A.po w.po,λF H N S Q s V q=>?_⟩;refine y.me.run s V q λx v P U k C D=>?_;refine A.mo.run k.fh (V.mono k.ff) D λl Y R m L=>?_;refine w.mo.run m.fh ((V.mono k.ff).mono m.ff) L λu z t d j=>?_;have g:=(k.trans m).trans d;have I:=C.mono (m.ff.trans d.ff);cases I with
 |lst h r=>exact .inl ⟨_,_,rfl,jR.of (d.fh _ _ h),λp i=>j (.ref p) _ _ (g.trans (.new d.fh i)) (.lst eE ((r.cut l u).mono (Gr.new d.fh i).ff))⟩
 |scr h=>exact .inl ⟨_,_,rfl,d.fh.seq h,λp i=>j (.ref p) _ _ (g.trans (.new d.fh i)) (.lst eE (by rw[GR,Cc];exact eP.of_ints _))⟩
 |tup h r=>
  rename_i a Z f;have n:(M.ok (T.tup (ly f l u))).res (kV X.K F H Q) (kE E z t):=j;by_cases hw:HT.sIx f.length 0 l=0/\HT.sIx f.length f.length u=f.length
  .have J:ly f l u=f:=by unfold ly;rw[hw.1,hw.2];simp
   rw[J]at n;exact .inr (.inr ⟨_,_,rfl,j9.of (d.fh _ _ h),by rw[r.length];exact hw,n _ z t g (.tup h r)⟩)
  .exact .inr (.inl ⟨_,_,rfl,j9.of (d.fh _ _ h),by rw[r.length];exact hw,λp i=>n (.ref p) _ _ (g.trans (.new d.fh i)) (.tup eE ((r.cut l u).mono (Gr.new d.fh i).ff))⟩)
 |_=>exact j.elim
end
section
variable {x:Str}{k:Nat}{Fn:List T->M T}{Ff:List T->M (List T)}
def eD(h:kG X.prog X.w X.K X.mg X.base x j (l6 K Fn))(m:fN k X.A)(g:vJ K E X (e::es) tr fr)(i:j<=k:=by decide)(n:Gl X x:=by rfl)
  (d:(x==("__debug__" : Str))=false:=by decide) (l:starEach (e::es) X.env=(false,eval e X.env)::starEach es X.env:=by rfl) (f:(backTo pos (starEach es X.env)).any (·.1)=false:=by rfl) :
  Pm K E X (.Call (.Name x p) (e::es) [] pos) (oZ (l6 K Fn) [] E0 tr) (eA fr Fn):=⟨CT (h.mono i) m g.pa n d l f,vz g.ma⟩
end
def IC(K:W.Frag)(t:TE):TI:=λd H R=>Az K t d H R\/HL K t d H R
@[simp] noncomputable def iJ(fa:Pe->M T):Pe->M (List T):=λd=>(fa d).bind λx=>match x with
 |.lst ts=>.ok ts
 |.scr ns=>.ok (ns.map T.int)
 |.tup ts=>.ok ts
 |_=>.bad
def Gg(g:ME K E ta fa):MI K E (IC K ta) (iJ fa):=λF H f d R s V q=>by
 unfold iJ at q;cases e:fa d with
 |bad=>rw[e]at q;exact q.elim
 |er C n=>rw[e]at q;exact .inl (uw g F H f d R s V (by unfold JL;rw[e];exact q))
 |ok x=>
  rw[e]at q;cases x with
  |lst ts=>exact .inl (uw g F H f d R s V (by unfold JL;rw[e];exact q))
  |scr ns=>exact .inl (uw g F H f d R s V (by unfold JL;rw[e];exact q))
  |tup ts=>exact .inr (GI g F H f d R s V (by unfold Kr;rw[e];exact q))
  |_=>exact q.elim
def hU(d:Pm K E X a ta fa)(i:X.K=K:=by rfl):CH K E X tg a (IC K ta) (iJ fa):=by
 subst i;refine⟨λg s f H R I h=>?_,Gg d.me⟩;rcases h with h|h
 .exact Ei d.pe g s f H R I h
 .exact Hl d.pe g s f H R I h
def Fi(K:W.Frag)(ta:TA):TI:=λd H R=>∃f g,FM K f g ta d H R
@[simp] noncomputable def seqT:T->M (List T)
 |.lst ts=>.ok ts
 |.scr ns=>.ok (ns.map T.int)
 |.tup ts=>.ok ts
 |_=>.bad
@[simp] noncomputable def nj(fa:Pe->M (List T)):Pe->M (List T):=λd=>(fa d).bind λh=>match h with
 |[x,y]=>(seqT x).bind λg=>(seqT y).bind λf=>.ok (tF g f)
 |_=>.bad
noncomputable def nr:T->Bool
 |.tup _=>true
 |_=>false
def wL x:seqT x=seqB (nr x) x:=by cases x<;>rfl
def DE(h:MA K E tr fr):MI K E (Fi K tr) (nj fr):=λF H f d R s V q=>by
 unfold nj at q;cases e:fr d with
 |bad=>rw[e]at q;exact q.elim
 |er C n=>rw[e]at q;exact⟨true,true,BZ h F H f d R s V (by unfold Hm;rw[e];exact q)⟩
 |ok xs=>
  rw[e]at q;match xs,e,q with
  |[],_,q=>exact q.elim
  |[_],_,q=>exact q.elim
  |[x,y],e,q=>refine⟨nr x,nr y,BZ h F H f d R s V ?_⟩;unfold Hm;rw[e];have g:((seqT x).bind λj=>(seqT y).bind λi=>M.ok (tF j i)).res (kI K F H R) (kE E F H):=q;rw[wL x,wL y]at g;exact g
  |_::_::_::_,_,q=>exact q.elim
def nN{x1}(k:X.mg "zip" = none)(f:vJ K E X [a,b] tr fr)(j:X.K=K:=by rfl)(m:Gl X "zip" :=by rfl)(i:starEach [a,b] X.env=[(false,eval a X.env),(false,eval b X.env)]:=by rfl)
  (d:starEach [b] X.env=[(false,eval b X.env)]:=by rfl):CH K E X (.Tuple elts x1 tpos) (.Call (.Name "zip" p) [a,b] [] pos) (Fi K tr) (nj fr):=by
 subst j;refine⟨λl s g H R I h=>?_,DE f.ma⟩;obtain⟨n,q,h⟩:=h;exact GO m k f.pa i d l s g H R I h
def iR(h:X.mg "range" = none)(d:vJ K E X [a] tr fr)(f:Gl X "range" :=by rfl)(g:starEach [a] X.env=[(false,eval a X.env)]:=by rfl):pN K E X tg (.Call (.Name "range" p) [a] [] pos) (Au tr) (iz fr):=⟨zf f h d.pa g,Eh d.ma⟩
def pN.pim(h:pN K E X tg it w f):CH K E X tg it w f:=⟨h.pi,h.mi.mi⟩
section
variable {x:Str}{g:TG}{gs:C2}{m:T->Pe->Option Pe}{ms:List T->Pe->Option Pe}{mo:T->En->Option En}{mos:List T->En->Option En}{n:Nat}
def iC i (d:X.N.Nodup) (h:vR X.env.scope x:=by first|exact Or.inl rfl|exact Or.inr rfl) (j:X.N[i]? = some x:=by rfl) (f:X.fn x=true\/X.env.scope.names.lookup x=some .local:=by first|exact .inl rfl|exact .inr rfl|assumption):HU K X (.Name x pos) (gJ i) (j3 i):=⟨yx d j h f,EF⟩
def gy i (d:X.N.Nodup) (h:vR X.env.scope x:=by first|exact Or.inl rfl|exact Or.inr rfl) (j:X.N[i]? = some x:=by rfl) (f:X.fn x=true\/X.env.scope.names.lookup x=some .local:=by first|exact .inl rfl|exact .inr rfl|assumption):Hz K X (.Name x pos) (gJ i) (jQ i):=⟨yx d j h f,BP⟩
def nM:EV K X [] zE rO:=⟨xt,Dr⟩
def l5:Df K X [] zE ko:=⟨xt,Ar⟩
def iY(f:HU K X e g m)(d:EV K X es gs ms)(h:(assignEach (e::es) X.env).map (·.2)=assign e X.env::(assignEach es X.env).map (·.2):=by rfl):EV K X (e::es) (qI g gs) (jl m ms):=⟨uY f.pg d.pg h,BJ f.mg d.mg⟩
def ij(f:Hz K X e g mo)(d:Df K X es gs mos)(h:(assignEach (e::es) X.env).map (·.2)=assign e X.env::(assignEach es X.env).map (·.2):=by rfl):Df K X (e::es) (qI g gs) (fX mo mos):=⟨uY f.pg d.pg h,zL f.mg d.mg⟩
def ui n (j:X.calm=true) (h:EV K X es gs ms) (f:X.K=K:=by rfl) (i:(assignEach es X.env).length=n:=by rfl) (d:(assignEach es X.env).findIdx? (·.1)=none:=by rfl):HU K X (.Tuple es k pos) (zH K n gs) (rP n ms):=by subst f;exact⟨Cj j h.pg i d,GW h.mg⟩
def qE n (j:X.calm=true) (h:Df K X es gs mos) (f:X.K=K:=by rfl) (i:(assignEach es X.env).length=n:=by rfl) (d:(assignEach es X.env).findIdx? (·.1)=none:=by rfl):Hz K X (.Tuple es k pos) (zH K n gs) (ku n mos):=by subst f;exact⟨Cj j h.pg i d,DG h.mg⟩
end
section
variable {elt iter:Expr}{ifs:List Expr}{scope:Scope}{N:List Str}{ix:List (Option Nat)}{wi:TI}{g:TG}{tt:TT}{fi:Pe->M (List T)}{m:T->Pe->Option Pe}{ft:Pe->M Bool}
def gp:BH K E X [] Gj (λ_=>.ok true):=⟨DM,Hq⟩
def n5(h:wJ K E X c t f):BH K E X [c] t f:=⟨Ek h.pt,h.mt⟩
@[simp] noncomputable def j4(ix:List (Option Nat))(fi:Pe->M (List T))(m:T->Pe->Option Pe)(ft:Pe->M Bool)(fe:Pe->M T):Pe->M (List T):=λf=>(fi f).bind λd=>(if d.length<sizeLine then l4 (nX m ft fe (kq ix f)) d else .bad).noEr
def Io(r:X.calm=true)(k:CH K E X tg iter wi fi)(L:vq X scope N ix)(j:lq ix g)
  (f:∀C d H i h,HU K (j6 X N scope C d H i h) tg g m/\BH K C1 (j6 X N scope C d H i h) ifs tt ft/\Pm K C1 (j6 X N scope C d H i h) elt te fe)
  (n:∀x,foldedSetIterable iter X.env x=pure x:=by intro _;rfl):zV K E X (.ListComp elt [⟨tg,iter,ifs,0⟩] scope pos) (BM ix wi g tt te) (j4 ix fi m ft fe):=by
 obtain⟨l,s,q⟩:=f 0 X.s₀ X.H₀ [] [];exact⟨IY r k.pi L j (λC d H i h=>⟨(f C d H i h).1.pg,(f C d H i h).2.1.pf,(f C d H i h).2.2.pe⟩) n,Ft k.mi l.mg s.mt q.me⟩
end
end
end L3
namespace L3
open PySem L2 PySem.Spec PyProof.Rows
section
variable {K:W.Frag}{E:XK}{X:Cx}{a b c e o tg it:Expr}{es:List Expr}{ta tb tc te to:TE}{fa fb fc fe fo:Pe->M T}{tr:TA}{fr:Pe->M (List T)}{pos pos' p p2 apos:Pos}{st:Stmt}{jy:List Stmt}{t u:TS}{g g':En->O}{ff:Pe->M (List T)}{x:Str}
def eR:lp K E X [] nF fM:=⟨nB,Eg⟩
def d9(h:pV K E X st t g):lp K E X [st] t g:=⟨ll h.ps,h.ms⟩
def d6(h:pV K E X st t g)(d:lp K E X jy u g'):lp K E X (st::jy) (mU t u) (eN g g'):=⟨gP h.ps d.ps,FN h.ms d.ms⟩
def t6:pV K E X st uj (λ_=>.bad):=⟨Ao,Bd⟩
def FS:pV K E X (.Continue pos) BI (λρ=>.ct ρ):=⟨vF,DA⟩
def eB(h:Pm K E X e te fe):pV K E X (.Return (some e) pos) (zO te) (fK fe):=⟨oB h.pe,G9 h.me⟩
def AZ(h:zV K E X e te ff):pV K E X (.Return (some e) pos) (zO te) (vI ff):=⟨oB h.pe,Di h.mf⟩
def fF{tc:TT}{fc:Pe->M Bool}(f:wJ K E X c tc fc)(h:lp K E X A t g)(d:lp K E X B u g'):pV K E X (.If c A B pos) (vA tc t u) (kC fc g g'):=⟨vf f.pt h.ps d.ps,Ih f.mt h.ms d.ms⟩
def v5{tc:TT}{fc:Pe->M Bool}(d:En->Nat)(i:PassesOwn (model X.prog X.w) X.A X.env X.xe)(f:wJ K E X c tc fc)(h:lp K E X A t g):pV K E X (.While c A [] pos) (xh tc t) (λρ=>js fc g (d ρ) ρ):=⟨z9 i f.pt h.ps,BG d f.mt h.ms⟩
section
variable {w:TI}{fi:Pe->M (List T)}{gt:TG}{m:T->En->Option En}{A:List Stmt}
def ls(i:PassesOwn (model X.prog X.w) X.A X.env X.xe)(k:X.calm=true)(d:CH K E X tg it w fi)(h:Hz K X tg gt m)(f:lp K E X A t g)(j:∀x,foldedSetIterable it X.env x=pure x:=by intro _;rfl):pV K E X (.For tg it A [] pos) (wG w gt t) (qZ fi m g):=⟨wx i k d.pi h.pg f.ps j,Ha d.mi h.mg f.ms⟩
def lh(i:PassesOwn (model X.prog X.w) X.A X.env X.xe)(k:X.calm=true)(d:pN K E X tg it w fi)(h:Hz K X tg gt m)(f:lp K E X A t g)(j:∀x,foldedSetIterable it X.env x=pure x:=by intro _;rfl):pV K E X (.For tg it A [] pos) (wG w gt t) (mO fi m g):=⟨wx i k d.pi h.pg f.ps j,Ey d.mi h.mg f.ms⟩
end
def FD i (v:X.N.Nodup) (s:vR X.env.scope x)
  (A:X.calm=true) (n:CH K E X tg iter wi fi) (L:vq X scope N ix) (l:lq ix gt)
  (f:∀C d H j h,HU K (j6 X N scope C d H j h) tg gt m/\BH K C1 (j6 X N scope C d H j h) ifs tt ft/\Pm K C1 (j6 X N scope C d H j h) elt te fe)
  (r:MF K E (BM ix wi gt tt te) (j4 ix fi m ft fe)->MS K E (j1 (BM ix wi gt tt te) (gJ i)) gm)
  (z:X.N[i]? = some x:=by rfl) (y:X.fn x=true\/X.env.scope.names.lookup x=some .local:=by first|exact .inl rfl|exact .inr rfl)
  (k:swapsWith (.ListComp elt [⟨tg,iter,ifs,0⟩] scope pos) (some (.Name x py)) spos.line X.env=pure true:=by rfl)
  (q:∀x,foldedSetIterable iter X.env x=pure x:=by intro _;rfl):pV K E X (.Assign [.Name x py] (.ListComp elt [⟨tg,iter,ifs,0⟩] scope pos) spos) (j1 (BM ix wi gt tt te) (gJ i)) gm:=by
 obtain⟨D,B,w⟩:=f 0 X.s₀ X.H₀ [] [];exact⟨Ae v z s A n.pi L l (λC d H j h=>⟨(f C d H j h).1.pg,(f C d H j h).2.1.pf,(f C d H j h).2.2.pe⟩) y k q,r (Ft n.mi D.mg B.mt w.me)⟩
def eC i (f:X.N.Nodup) (h:Pm K E X e te fe) (k:vR X.env.scope x:=by first|exact Or.inl rfl|exact Or.inr rfl) (j:X.N[i]? = some x:=by rfl) (d:swapsWith e (some (.Name x pos')) pos.line X.env=pure false:=by rfl) (l:X.fn x=true\/X.env.scope.names.lookup x=some .local:=by first|exact .inl rfl|exact .inr rfl|assumption) :
  pV K E X (.Assign [.Name x pos'] e pos) (j1 te (gJ i)) (setO i (gY fe)):=⟨lx f j k h.pe d l,yE h.me⟩
def qH i (f:X.N.Nodup) (h:Pm K E X e te fe) (k:vR X.env.scope x:=by first|exact Or.inl rfl|exact Or.inr rfl) (j:X.N[i]? = some x:=by rfl) (d:swapsWith e (some (.Name x pos')) pos.line X.env=pure false:=by rfl) (l:X.fn x=true\/X.env.scope.names.lookup x=some .local:=by first|exact .inl rfl|exact .inr rfl|assumption) :
  pV K E X (.Assign [.Name x pos'] e pos) (j1 te (gJ i)) (setO i (oS fe)):=⟨lx f j k h.pe d l,Eu h.me⟩
def lg i (f:X.N.Nodup) (h:zV K E X e te ff) (k:vR X.env.scope x:=by first|exact Or.inl rfl|exact Or.inr rfl) (j:X.N[i]? = some x:=by rfl) (d:swapsWith e (some (.Name x pos')) pos.line X.env=pure false:=by rfl) (l:X.fn x=true\/X.env.scope.names.lookup x=some .local:=by first|exact .inl rfl|exact .inr rfl|assumption) :
  pV K E X (.Assign [.Name x pos'] e pos) (j1 te (gJ i)) (kX i (m7 ff)):=⟨lx f j k h.pe d l,pT h.mf⟩
def Aq i (f:X.N.Nodup) (h:zV K E X e te ff) (k:vR X.env.scope x:=by first|exact Or.inl rfl|exact Or.inr rfl) (j:X.N[i]? = some x:=by rfl) (d:swapsWith e (some (.Name x pos')) pos.line X.env=pure false:=by rfl) (l:X.fn x=true\/X.env.scope.names.lookup x=some .local:=by first|exact .inl rfl|exact .inr rfl|assumption) :
  pV K E X (.Assign [.Name x pos'] e pos) (j1 te (gJ i)) (kX i (pL ff)):=⟨lx f j k h.pe d l,DN h.mf⟩
def Cp(h:MF K E te ff):MS K E (j1 te (gJ i)) (setO i (gY λρ=>(ff ρ).bind λts=>.ok (.lst ts))):=yE h.me
@[simp] noncomputable def EO(i j:Nat)(fr:Pe->M (List T)):En->O:=λd=>.of (fr (jY d)) λf=>match f with
 |[x,y]=>.nx ((d.set i (some (.p x))).set j (some (.p y)))
 |_=>.bad
def Hy(h:MA K E tr fr):MS K E (FX i j tr) (EO i j fr):=λy A F H k l D r q=>by
 refine h F H k (jY l) _ r.gr.fh r.vars ((O.res_of q).mono (λB z w m s f d=>?_) λC n z=>z.go r.gr);have v:=r.grow f;cases d with
 |nil=>exact z.elim
 |cons h1 d=>
  cases d with
  |nil=>exact z.elim
  |cons h2 d=>
   cases d with
   |nil=>exact⟨_,_,rfl,z m s _ f.ff ((v.setP h1).setP h2)⟩
   |cons h3 d=>exact z.elim
def DQ{kt k2 pt2}(q:X.calm=true)(k:X.N.Nodup)(l:X.N[i]? = some x)(r:X.N[j]? = some y)(d:i≠j)
  (m:X.env.scope.names.lookup x=some .local) (n:X.env.scope.names.lookup y=some .local) (f:vJ K E X [a,b] tr fr)
  (hw:swappedStores [.Tuple [.Name x px,.Name y py] kt pt] (.Tuple [a,b] k2 pt2) X.env=pure (some [x,y]))
  (h:swapsWithSole [.Tuple [.Name x px,.Name y py] kt pt] (.Tuple [a,b] k2 pt2) pos.line X.env=pure false:=by rfl) :
  pV K E X (.Assign [.Tuple [.Name x px,.Name y py] kt pt] (.Tuple [a,b] k2 pt2) pos) (FX i j tr) (EO i j fr):=⟨GE q k l r d m n f.pa hw h,Hy f.ma⟩
def xj(h:H l=some (.lst xs)):JJ K "list" (.ref l) H:=.inl ⟨rfl,_,jR.of h⟩
def oj i (q:PE X (.Name x p) (jN i)) (n:Pm K E X e te fe) (m:starEach [e] X.env=(false,eval e X.env)::starEach [] X.env:=by rfl) (r:X.K=K:=by rfl)
  (f:attributeBase (.Name x p) "append" X.env (eval (.Name x p) X.env)=eval (.Name x p) X.env:=by rfl)
  (j:((backTo pos (starEach [e] X.env)).all (λx=>!x.1)&&(backToKw pos (keywordEach [] X.env)).all (λx=>x.1.isSome)&&decide (([e]:List Expr).length+([]:List Keyword).length+(if ([]:List Keyword).isEmpty then 0 else 1)<30))=true:=by rfl)
  (d:(apos.endLine==pos.line)=true:=by rfl) (hplain:(backTo pos (starEach [] X.env)).any (·.1)=false:=by rfl) (k:swapsWith (.Call (.Attribute (.Name x p) "append" apos) [e] [] pos) none pos'.line X.env=pure false:=by rfl) :
  pV K E X (.Expr (.Call (.Attribute (.Name x p) "append" apos) [e] [] pos) pos') (mP (Bu K i te)) (ud i (gY fe)):=by
 subst r;exact⟨nh (xE PySem.F.plainAttrs_list PySem.F.slot_list_append PySem.F.type_list_append mr q (ez n.pe fQ m) f j d m hplain) k,E8 (λl s H h=>xj h) n.me⟩
def ue i (j:PE X (.Name x p) (jN i)) (d:Pm K E X b tb fb) (h:Pm K E X e te fe)
  (l:∀v,assign (.Subscript (.Name x p) b p2) X.env v=(do
   let ov <-holding [v] (eval (.Name x p) X.env)
   let iv <-holding [v,ov] (eval b X.env)
   standAt p2
   holding [v,ov,iv] (setItem ov iv v)
   release [v,ov,iv] []):=by intro _;rfl)
  (f:swapsWithSole [.Subscript (.Name x p) b p2] e pos.line X.env=pure false:=by rfl) (hw:swappedStores [.Subscript (.Name x p) b p2] e X.env=pure none:=by rfl)
  (k:(assignEach [.Subscript (.Name x p) b p2] X.env).map (·.2)=[assign (.Subscript (.Name x p) b p2) X.env]:=by rfl) :
  pV K E X (.Assign [.Subscript (.Name x p) b p2] e pos) (j1 te (Hx (jN i) tb xP)) (rR i (oS fb) (oS fe)):=⟨Cz h.pe (Gk j d.pe Cf l) f hw k,Hv h.me d.me⟩
def BB(h:Pm K E X e te fe)(d:swapsWith e none pos.line X.env=pure false:=by rfl):pV K E X (.Expr e pos) (mP te) (sd (gY fe)):=⟨nh h.pe d,Ax h.me⟩
end
section
variable {P:Program}{w:World}{K:W.Frag}{mg:Str->Option Value}{base:Heap}{x:Str}{st:Stmt}{N ps:List Str}{k:Nat}{g:En->O}
def J5(D:eM K mg x st)(S:f6 N ps (eh st))
  (m:∀(kV c n:Vq) (j:Oq Addr) (b l:Vq) (us:List Vq),us.length=ps.length->bindArgs (W.fnOf x x (gD st) (eZ st) (eh st) .none kV c n j b l) ⟨us,[]⟩=pure (ps.zip us))
  (d:∀(f:Addr) (b:Vq) (A:Around) (a:List Env) (s:Shared) (H:Hp) (E:XK),fN k (A.deeper (envOfC x (eh st) s.heap.objs.size f b))->∃t,lp K E (gN ph P w K mg base N x (eh st) f b A a s H E).nox (eZ st) t g) :
  kG P w K mg base x (k+1) (l6 K (jK ps.length N.length g)):=
 xy D S m (λe H Q E h=>qM h) λf b A a s H e Q E i h=>let ⟨t,hp⟩:=d f b A a s H E i;⟨t,hp.ps,pS hp.ms h⟩
end
end L3
namespace L3
open PySem L2 PySem.Spec PyProof.Rows
section
variable {K:W.Frag}{E:XK}{X:Cx}{a b c e o tg it:Expr}{es:List Expr}{ta tb tc te to:TE}{fa fb fc fe fo:Pe->M T}{tr:TA}{fr:Pe->M (List T)}{pos p p2 apos:Pos}
@[simp] noncomputable def jj(f:Pe->M (List T)):Pe->M T:=λd=>(f d).bind λg=>.ok (.lst g)
def fP(d:X.K=K:=by rfl):iN X (.builtin "len") (λxs H Q=>∃x n,xs=[x]/\G1 K x H n/\Q (.int n) H):=d▸AU
def oK(f:X.calm=true)(d:X.K=K:=by rfl):iN X (.builtin "all") (λxs H Q=>∃(p:Addr) (bs:List Bool),xs=[.ref p]/\jR K H p (bs.map V.bl)/\Q (.bl (bs.all id)) H):=d▸Ak f
def sH(f:X.calm=true)(d:X.K=K:=by rfl):iN X (.builtin "any") (λxs H Q=>∃p vs bs,xs=[.ref p]/\(jR K H p vs\/j9 K H p vs)/\jD vs=some bs/\Q (.bl (bs.any id)) H):=d▸zx f
def gA(f:X.K=K:=by rfl):iN X (.type "tuple") (λxs H Q=>∃p d,xs=[.ref p]/\((jR K H p d/\∀l,H l=none->Q (.ref l) (gI H l (.tup d)))\/(j9 K H p d/\Q (.ref p) H))):=f▸rM
def mS(f:X.K=K:=by rfl):iN X (.type "list") (λxs H Q=>∃p d,xs=[.ref p]/\(jR K H p d\/j9 K H p d)/\∀l,H l=none->Q (.ref l) (gI H l (.lst d))):=f▸ua
def G7:T->Option Bool
 |.bl b=>some b
 |.int i=>some (i != 0)
 |_=>none
def pA:List T->Option (List Bool)
 |[]=>some []
 |v::vs=>(G7 v).bind λb=>(pA vs).bind λr=>some (b::r)
theorem ug:∀{vs} {ts},eP K F vs ts->jD vs=pA ts
 |_,_,.nil=>rfl
 |v::vs,t::ts,.cons h r=>by
  have e:vG v=G7 t:=by cases h<;>rfl
  rw[jD,pA,ug r,e]
@[simp] theorem HZ ns:pA (ns.map T.bl)=some ns:=by
 induction ns with
 |nil=>rfl
 |cons n ns ih=>simp[pA,G7,ih]
@[simp] noncomputable def pC(ts:List T):M T:=match pA ts with
 |some bs=>.ok (.bl (bs.any id))
 |none=>.bad
@[simp] noncomputable def vT:List T->M T
 |[.lst ts]=>pC ts
 |[.tup ts]=>pC ts
 |_=>.bad
def Ac ts:M.NoE (pC ts):=λC n=>by unfold pC;split<;>intro z<;>cases z
def Dz xs:M.NoE (vT xs):=λC n=>by unfold vT;split<;>first|exact Ac _ C n|(intro z;cases z)
def AE:MC K (λxs H Q=>∃p vs bs,xs=[.ref p]/\(jR K H p vs\/j9 K H p vs)/\jD vs=some bs/\Q (.bl (bs.any id)) H) vT:=⟨Dz,λF H vs xs Q s r q=>by
 cases r with
 |nil=>exact q.elim
 |cons h t=>
  cases t with
  |cons _ _=>cases h<;>exact q.elim
  |nil=>
   cases h with
   |lst h r=>
    rename_i a xs f;have d:(pC f).res (kV K F H Q) (λ_ _=>False):=q;unfold pC at d;cases e:pA f with
    |none=>rw[e]at d;exact d.elim
    |some bs=>rw[e]at d;exact⟨a,xs,bs,rfl,.inl (jR.of (s _ _ h)),by rw[ug r];exact e,kV.now d s (.bl _)⟩
   |tup h r=>
    rename_i a xs f;have d:(pC f).res (kV K F H Q) (λ_ _=>False):=q;unfold pC at d;cases e:pA f with
    |none=>rw[e]at d;exact d.elim
    |some bs=>rw[e]at d;exact⟨a,xs,bs,rfl,.inr (j9.of (s _ _ h)),by rw[ug r];exact e,kV.now d s (.bl _)⟩
   |_=>exact q.elim⟩
noncomputable def vm:T->T->M T
 |.tup a,.int k=>if xu k=true/\a.length*k.toNat<=sizeLine then .ok (.tup (List.replicate k.toNat a).flatten) else .bad
 |_,_=>.bad
def Ab x y:M.NoE (vm x y):=λC n=>by unfold vm;split<;>first|(split<;>intro z<;>cases z)|(intro z;cases z)
def Ds:MR K Bi vm:=⟨Ab,λF H v w x y Q s j m q=>by
 cases j with
 |tup h r=>
  cases m with
  |int k=>
   rename_i a l f;have d:(if xu k=true/\f.length*k.toNat<=sizeLine then M.ok (T.tup (List.replicate k.toNat f).flatten) else M.bad).res (kV K F H Q) (λ_ _=>False):=q;by_cases g:xu k=true/\f.length*k.toNat<=sizeLine
   .rw[aP g]at d;refine⟨a,k,l,rfl,rfl,s _ _ h,by have:=mv g.1;rw[IM]at this;rw[JF];omega,by have:=mv g.1;rw[IM]at this;rw[JF];omega,by rw[r.length];exact g.2,λz=>?_,λz p i=>?_⟩
    .have:(List.replicate k.toNat f).flatten=f:=by
      rcases z with z|z
      .subst z;cases r;simp
      .subst z;simp
     rw[this]at d;exact kV.now d s (.tup h r)
    .exact d (.ref p) _ _ (.new s i) (.tup eE ((r.rep k.toNat).mono (Gr.new s i).ff))
   .rw[aQ g]at d;exact d.elim
  |_=>exact q.elim
 |_=>exact q.elim⟩
@[simp] noncomputable def vp(fa fb:Pe->M T):Pe->M T:=ey vm fa fb
def DY(d:Pm K E X a ta fa)(f:Pm K E X b tb fb):Pm K E X (.BinOp a .Mult b pos) (oq Bi ta tb) (vp fa fb):=qV EY Ds d f
noncomputable def lJ(xs:List T):List T:=(xs.zipIdx).map λp=>T.tup [.int (p.2:Int),p.1]
def AY(K:W.Frag)(ta:TA):TI:=λd H R=>∃b,Bo K b ta d H R
@[simp] noncomputable def nv(fa:Pe->M (List T)):Pe->M (List T):=λd=>(fa d).bind λg=>match g with
 |[x]=>(seqT x).bind λf=>.ok (lJ f)
 |_=>.bad
def ES{b:Bool}(h:∀H,eJ F H->rm K H b l xs)(d:eP K F xs ts):rE K (JY K b l) (lJ ts) F where
 go:=λi H s r=>by
  have j:i<ts.length:=by simpa[lJ] using r
  have f:xs[i]? = some (xs[i]'(by rw[d.length];exact j)):=ag _;exact⟨xs,_,h H s,f⟩
 stop:=λH s=>⟨xs,h H s,by simp[lJ,d.length]⟩
 yld:=λi t z H x A m k e y=>by
  obtain⟨p,n,rfl,w,rfl,f⟩:=y;obtain⟨v,u,q⟩:=d.at_ (f xs (h H (m.trans k)));have:t=.tup [.int i,v]:=by unfold lJ at e;rw[av,List.getElem?_zipIdx,u]at e;simp at e;exact e.symm
  rw[this];have g:=Gr.new (o:=.tup [.int i,n]) k w;exact⟨_,g,.tup eE (.cons (.int _) (.cons ((q.mono m).mono g.ff) .nil))⟩
noncomputable def wc(b:Bool)(fa:Pe->M (List T)):Pe->M (List T):=λd=>(fa d).bind λg=>match g with
 |[x]=>(seqB b x).bind λf=>.ok (lJ f)
 |_=>.bad
def vE{b:Bool}(j:MA K E tr fr):MI K E (Bo K b tr) (wc b fr):=λF H u w R s V q=>by
 refine j.run s V q λy v m r g k d=>?_;split at d
 .rename_i x;cases k with
  |cons a c=>
   cases c;cases f:seqB b x with
   |bad=>rw[f]at d;exact d.elim
   |er C n=>exact absurd f uk
   |ok ts=>rw[f]at d;obtain⟨i,l,rfl,h,t⟩:=tO a f;exact⟨i,rfl,⟨l,h _ g.fh⟩,d _ m r g (ES h t)⟩
 .exact d.elim
def EA(h:MA K E tr fr):MI K E (AY K tr) (nv fr):=λF H f d R s V q=>by
 unfold nv at q;cases e:fr d with
 |bad=>rw[e]at q;exact q.elim
 |er C n=>rw[e]at q;exact⟨true,vE h F H f d R s V (by unfold wc;rw[e];exact q)⟩
 |ok xs=>
  rw[e]at q;match xs,e,q with
  |[],_,q=>exact q.elim
  |[x],e,q=>refine⟨nr x,vE h F H f d R s V ?_⟩;unfold wc;rw[e];have g:((seqT x).bind λi=>M.ok (lJ i)).res (kI K F H R) (kE E F H):=q;rw[wL x]at g;exact g
  |_::_::_,_,q=>exact q.elim
def xX{x1}(j:X.mg "enumerate" = none)(d:vJ K E X [a] tr fr)(i:X.K=K:=by rfl)(l:Gl X "enumerate" :=by rfl)(g:starEach [a] X.env=[(false,eval a X.env)]:=by rfl) :
  CH K E X (.Tuple elts x1 tpos) (.Call (.Name "enumerate" p) [a] [] pos) (AY K tr) (nv fr):=by
 subst i;refine⟨λk s f H R I h=>?_,EA d.ma⟩;obtain⟨b,h⟩:=h;exact Bt l j d.pa g k s f H R I h
end
structure Bs(mg:Str->Option Value):Prop where
 abs:mg "abs" = none
 isinstance:mg "isinstance" = none
 int:mg "int" = none
 bool:mg "bool" = none
 len:mg "len" = none
 range:mg "range" = none
 tuple:mg "tuple" = none
 list:mg "list" = none
 str:mg "str" = none
 all:mg "all" = none
 any:mg "any" = none
 sum:mg "sum" = none
 zip:mg "zip" = none
 max:mg "max" = none
 min:mg "min" = none
 enumerate:mg "enumerate" = none
 reversed:mg "reversed" = none
 set:mg "set" = none
 dict:mg "dict" = none
 sorted:mg "sorted" = none
def pW:bootBuiltins "list" = some (.type "list"):=by decide +kernel
def GH:bootBuiltins "max" = some (.builtin "max"):=by decide +kernel
end L3
namespace L3
open PySem L2
section
variable {α:Type}
theorem rX enc f:∀(l:List α),(∀a∈l,k (enc a)=.ok (some (f a)))->l4 k (l.map enc)=.ok (l.map f)
 |[],_=>rfl
 |a::l,h=>by rw[bE,l4,h a (by simp),M.bind_ok,rX enc f l λb c=>h b (by simp[c])];rfl
theorem nE enc f p:∀(l:List α),(∀a∈l,k (enc a)=.ok (if p a then some (f a) else none))->l4 k (l.map enc)=.ok ((l.filter p).map f)
 |[],_=>rfl
 |a::l,h=>by
  rw[bE,l4,h a (by simp),M.bind_ok,nE enc f p l λb d=>h b (by simp[d])];by_cases c:p a=true
  .simp[c]
  .simp[c]
theorem j8 enc (P:Nat->En->Prop):∀(l:List α) (k:Nat) (ρ:En),P k ρ->
  (∀i a ρ,l[i]? = some a->P (k+i) ρ->∃d c,m (enc a) ρ=some d/\(g d=.nx c\/g d=.ct c)/\P (k+i+1) c)->∃ρ',gZ m g (l.map enc) ρ=.nx ρ'/\P (k+l.length) ρ'
 |[],k,ρ,h,_=>⟨ρ,rfl,h⟩
 |a::l,k,ρ,h,st=>by
  obtain⟨d,c,j,f,p⟩:=st 0 a ρ rfl h;obtain⟨ρ',e,n⟩:=j8 enc P l (k+1) c p λi b ρ q o=>by have:=st (i+1) b ρ (by simpa using q) (by rw[show k+(i+1)=k+1+i by omega];exact o);rw[show k+1+i+1=k+(i+1)+1 by omega];exact this
  refine⟨ρ',?_,by rw[ay,show k+(l.length+1)=k+1+l.length by omega];exact n⟩;rw[bE,gZ,j];rcases f with f|f<;>(dsimp only;rw[f];exact e)
theorem md enc (P:En->Prop):∀(l:List α) (ρ:En),P ρ->
  (∀a∈l,∀ρ,P ρ->∃d c,m (enc a) ρ=some d/\(g d=.nx c\/g d=.ct c)/\P c)->∃ρ',gZ m g (l.map enc) ρ=.nx ρ'/\P ρ'
 |[],ρ,h,_=>⟨ρ,rfl,h⟩
 |a::l,ρ,h,st=>by obtain⟨d,c,i,f,n⟩:=st a (by simp) ρ h;obtain⟨ρ',e,j⟩:=md enc P l c n λb o ρ k=>st b (by simp[o]) ρ k;refine⟨ρ',?_,j⟩;rw[bE,gZ,i];rcases f with f|f<;>(dsimp only;rw[f];exact e)
theorem kj(P:En->Prop)(d:En->Nat)(R:En->Prop)(st:∀ρ,P ρ->(c (vw ρ)=.ok false/\R ρ)\/(c (vw ρ)=.ok true/\∃a,(g ρ=.nx a\/g ρ=.ct a)/\P a/\d a<d ρ)) :
  ∀n ρ,P ρ->d ρ<n->∃ρ',js c g n ρ=.nx ρ'/\R ρ'
 |0,ρ,_,h=>absurd h (Nat.not_lt_zero _)
 |n+1,ρ,hP,hn=>by
  rcases st ρ hP with⟨e,r⟩|⟨e,a,b,f,j⟩
  .exact⟨ρ,by rw[js,e];rfl,r⟩
  .obtain⟨ρ',i,r⟩:=kj P d R st n a f (by omega);refine⟨ρ',?_,r⟩;rw[js,e,O.of_ok,aP rfl];rcases b with b|b<;>(rw[b];exact i)
end
def uI{o:Type}(l:List o) enc f (d:fi ρ=.ok (l.map enc)) (g:l.length<sizeLine)
  (j:∀a∈l,∃b,m (enc a) (kq ix ρ)=some b/\ft b=.ok true/\fe b=.ok (f a)):j4 ix fi m ft fe ρ=.ok (l.map f):=by
 have h:=rX (k:=nX m ft fe (kq ix ρ)) enc f l λa e=>by obtain⟨b,c,n,i⟩:=j a e;unfold nX;rw[c];dsimp only;rw[n,M.bind_ok,aP rfl,i];rfl
 unfold j4;rw[d,M.bind_ok,aw,aP g,h];rfl
theorem xa{q:Type}(l:List q) enc f p (e:fi ρ=.ok (l.map enc)) (i:l.length<sizeLine)
  (n:∀a∈l,∃b,m (enc a) (kq ix ρ)=some b/\ft b=.ok (p a)/\(p a=true->fe b=.ok (f a))):j4 ix fi m ft fe ρ=.ok ((l.filter p).map f):=by
 have h:=nE (k:=nX m ft fe (kq ix ρ)) enc f p l λa g=>by
  obtain⟨b,d,o,j⟩:=n a g;unfold nX;rw[d];dsimp only;rw[o,M.bind_ok];cases c:p a with
  |true=>rw[aP rfl,aP rfl,j c];rfl
  |false=>rw[aQ aG,aQ aG]
 unfold j4;rw[e,M.bind_ok,aw,aP i,h];rfl
def iV{h:Type}(l:List h) enc f (c:fi ρ=.ok (l.map enc)) (d:l.length<sizeLine)
  (g:∀a∈l,∃b,m (enc a) (kq ix ρ)=some b/\ft b=.ok true/\fe b=.ok (f a)) (e:l.map f=ts):j4 ix fi m ft fe ρ=.ok ts:=by rw[<-e];exact uI l enc f c d g
def t5{h:Type}(l:List h) enc f p (c:fi ρ=.ok (l.map enc)) (d:l.length<sizeLine)
  (g:∀a∈l,∃b,m (enc a) (kq ix ρ)=some b/\ft b=.ok (p a)/\(p a=true->fe b=.ok (f a))) (e:(l.filter p).map f=ts):j4 ix fi m ft fe ρ=.ok ts:=by rw[<-e];exact xa l enc f p c d g
def Iq lo n:tP lo n=(List.range n).map λ(i:Nat)=>T.int (lo+(i:Int)):=rfl
noncomputable def tI(a:LI):T:=.tup (a.map T.int)
def fr(p:Int×Int):T:=.tup [.int p.1,.int p.2]
noncomputable def tS(s:List (Int×Int)):T:=.tup (s.map fr)
def ux(l:List α)(i:Int)(b:0<=i)(c:i<l.length):∃a,lQ l i=some a/\a∈l:=by
 unfold lQ qA;rw[aP b,aP c];have d:i.toNat<l.length:=by omega
 exact⟨l[i.toNat],by simp[d],aU _⟩
def fT(h:PySem.IntMulOk i j):ia (.int i) (.int j)=.ok (.int (i*j)):=by simp[ia,jf,h]
def jH(h:j≠0)(a:Builtin.divisionGoesByPylong i j=false):lK (.int i) (.int j)=.ok (.int (i.fdiv j)):=by simp[lK,jf,h,a]
def mj(h:j≠0):ou (.int i) (.int j)=.ok (.int (i.fmod j)):=by simp[ou,jf,h]
@[simp] theorem fO i j:fR (.int i) (.int j)=.ok (.int (i+j)):=rfl
@[simp] theorem lj i j:lN (.int i) (.int j)=.ok (.int (i-j)):=rfl
@[simp] theorem JQ i j:HY (.int i) (.int j)=.ok (.bl (decide (i<j))):=rfl
@[simp] theorem JK i j:Jn (.int i) (.int j)=.ok (.bl (decide (i<=j))):=rfl
@[simp] theorem JN i j:xI (.int i) (.int j)=.ok (.bl (decide (j<i))):=rfl
@[simp] theorem DK i j:HV (.int i) (.int j)=.ok (.bl (decide (j<=i))):=rfl
@[simp] theorem eY i j:eQ false (.int i) (.int j)=.ok (.bl (i==j)):=by simp[eQ,mH,mC]
@[simp] theorem l7 i j:eQ true (.int i) (.int j)=.ok (.bl (!(i==j))):=by simp[eQ,mH,mC]
def yY(h:i.natAbs<2 ^ 64):PySem.IntMulOk i j:=IntMulOk.of_left (PyProof.Rows.intBits_le h)
def Bn(n:Nat)(x:Int):Prop:=x.natAbs<2 ^ n
def Bn.mono(h:Bn m x)(a:m<=n):Bn n x:=aD h (Nat.pow_le_pow_right (by decide) a)
def Bn.mul(h:Bn m x)(a:Bn n y):Bn (m+n) (x*y):=by unfold Bn at *;rw[aX,Nat.pow_add];exact Nat.mul_lt_mul'' h a
def Bn.add(h:Bn m x)(c:Bn n y):Bn (max m n+1) (x+y):=by have a:Bn (max m n) x:=h.mono (Nat.le_max_left _ _);have b:Bn (max m n) y:=c.mono (Nat.le_max_right _ _);unfold Bn at *;rw[Nat.pow_succ];have:=cO x y;omega
def Bn.neg(h:Bn m x):Bn m (-x):=by unfold Bn at *;rw[Int.natAbs_neg];exact h
def Bn.sub(h:Bn m x)(a:Bn n y):Bn (max m n+1) (x-y):=by rw[Int.sub_eq_add_neg];exact h.add a.neg
def Bn.ok(h:Bn m x)(b:Bn n y)(c:m<=2 ^ 20)(a:n<=2 ^ 20):PySem.IntMulOk x y:=IntMulOk.of_bits (aM (PyProof.Rows.intBits_le h) c) (aM (PyProof.Rows.intBits_le b) a)
def Bn.noPy(h:Bn n y)(a:n<=8000):Builtin.divisionGoesByPylong x y=false:=Cu.noPy (PyProof.Rows.intBits_le h) a
section
variable {a b g:En->O}{ρ ρ':En}{r:O}{fc:Pe->M Bool}{f:Pe->M T}{ff:Pe->M (List T)}{t:T}{ts:List T}{k n i:Nat}
def eg(d:a ρ=.nx ρ')(c:b ρ'=r):eN a b ρ=r:=by unfold eN;rw[d];exact c
def jo(c:a ρ=.rt t)(d:.rt t=r):eN a b ρ=r:=by unfold eN;rw[c];exact d
def gQ(h:fc (vw ρ)=.ok true)(c:a ρ=r):kC fc a b ρ=r:=by unfold kC;rw[h];exact c
def fZ(h:fc (vw ρ)=.ok false)(c:b ρ=r):kC fc a b ρ=r:=by unfold kC;rw[h];exact c
def eK(h:f (jY ρ)=.ok t)(c:ρ'=ρ.set i (some (.p t))):setO i (gY f) ρ=.nx ρ':=by unfold setO gY;rw[h,c];rfl
def tV(h:f (vw ρ)=.ok t)(c:lf t=true)(d:ρ'=ρ.set i (some (.p t))):setO i (oS f) ρ=.nx ρ':=by unfold setO oS;rw[h,d];simp[c]
def lD(h:ff (jY ρ)=.ok ts)(c:ρ'=ρ.set i (some (.o ts))):kX i (m7 ff) ρ=.nx ρ':=by unfold kX m7;rw[h,c];rfl
def E4(h:ff (vw ρ)=.ok ts)(c:y0 ts=true)(d:ρ'=ρ.set i (some (.o ts))):kX i (pL ff) ρ=.nx ρ':=by unfold kX pL;rw[h,d];simp[c]
def EU(h:ff (vw ρ)=.ok ts)(c:y0 ts=true)(d:ρ'=ρ.set i (some (.p (.lst ts)))):uL i (pL ff) ρ=.nx ρ':=by unfold uL pL;rw[h,d];simp[c]
def tY(c:ρ[i]? = some (some (.o us)))(h:f (jY ρ)=.ok t)(e:us.length<sizeLine)(d:ρ'=ρ.set i (some (.o (us++[t])))):ud i (gY f) ρ=.nx ρ':=by unfold ud gY mG;rw[c,h,d];simp[e]
def vU(d:ρ[i]? = some (some (.o us)))(h:f (vw ρ)=.ok t)(e:lf t=true)(c:fk (vw ρ)=.ok (.int j))(p:qA us.length j=some m)(l:ρ'=ρ.set i (some (.o (us.set m t)))):rR i (oS fk) (oS f) ρ=.nx ρ':=by unfold rR oS mG;rw[d,h,c,l];simp[e,p]
def eO(h:f (vw ρ)=.ok t):fK f ρ=.rt t:=by unfold fK;rw[h];rfl
def Dp(h:ff (vw ρ)=.ok ts):vI ff ρ=.rf ts:=by unfold vI;rw[h];rfl
def jr(h:fi (jY ρ)=.ok its)(c:gZ m g its ρ=r):qZ fi m g ρ=r:=by unfold qZ;rw[h];exact c
def kn(h:fi (vw ρ)=.ok its)(c:gZ m g its ρ=r):mO fi m g ρ=r:=by unfold mO;rw[h];exact c
def fj(c:ts.length=k)(h:g (fC n ts)=.rt t):jK k n g ts=.ok t:=by unfold jK;rw[aP c,h];rfl
def Ig(c:ts.length=k)(h:g (fC n ts)=.er C m):jK k n g ts=.er C m:=by unfold jK;rw[aP c,h];rfl
def GT(c:ts.length=k)(h:g (fC n ts)=.rf us):EL k n g ts=.ok us:=by unfold EL;rw[aP c,h];rfl
end
def ID n:tP 0 n=(List.range n).map λ(i:Nat)=>T.int (i:Int):=by simp[tP]
theorem nI{d:Type} f:∀(l:List d),(∀a∈l,mH (f a)=true)->og (l.map f)=true
 |[],_=>rfl
 |a::l,h=>by rw[bE,og,h a (by simp),nI f l λb c=>h b (by simp[c])];rfl
theorem nQ{d:Type} f n:∀(l:List d),(∀a∈l,xb (f a)<=n)->oF (l.map f)<=n
 |[],_=>bG _
 |a::l,h=>by rw[bE,zc];have e:=h a (by simp);have g:=nQ f n l λb c=>h b (by simp[c]);omega
@[simp] theorem zb(a:LI):og (a.map T.int)=true:=nI _ _ λ_ _=>rfl
def mn(a:LI):oF (a.map T.int)<=0:=nQ _ _ _ λ_ _=>aJ _
@[simp] theorem Ga ns:mH (tI ns)=true:=by simp[tI,mH]
def FP ns:xb (tI ns)<=1:=by unfold tI;rw[Ea];have:=mn ns;omega
@[simp] theorem IK(l:LL):og (l.map tI)=true:=nI _ _ λ_ _=>Ga _
def qh(l:LL):oF (l.map tI)<=1:=nQ _ _ _ λ_ _=>FP _
@[simp] theorem CG l:qK l []=l.isEmpty:=by cases l<;>rfl
theorem nW{d:Type} f (c:∀a b,yr (f a) (f b)=true↔a=b):∀(l m:List d),qK (l.map f) (m.map f)=true↔l=m
 |[],[]=>by simp[oA]
 |[],b::m=>⟨λz=>(nomatch (show false=true from z)),λz=>nomatch z⟩
 |a::l,[]=>by simp[oA]
 |a::l,b::m=>by rw[bE,bE,oA,bP,c a b,nW f c l m];simp
def my(l m:LI):qK (l.map T.int) (m.map T.int)=decide (l=m):=by
 have h:=nW T.int (λa b=>by simp[mC]) l m;by_cases e:l=m
 .rw[aB e];exact h.mpr e
 .rw[aA e];cases c:qK (l.map T.int) (m.map T.int) with
  |false=>rfl
  |true=>exact absurd (h.mp c) e
def B9 neg (l m:LI):eQ neg (.tup (l.map T.int)) (.tup (m.map T.int))=.ok (.bl (if neg then !decide (l=m) else decide (l=m))):=by have h:=mn l;unfold eQ;rw[aP (by simp[mH];omega),mC,my]
def B4 neg (l m:LI):eQ neg (.lst (l.map T.int)) (.lst (m.map T.int))=.ok (.bl (if neg then !decide (l=m) else decide (l=m))):=by have h:=mn l;unfold eQ;rw[aP (by simp[mH];omega),nR,my]
def xG neg ts (h:og ts=true) (a:oF ts<=90):eQ neg (.lst ts) (.lst [])=.ok (.bl (if neg then !ts.isEmpty else ts.isEmpty)):=by unfold eQ;rw[aP (by simp[mH,h,og];omega),nR,CG]
def Ap{b a:Type} f (g:a->T) (l:List b) m:tF (l.map f) (m.map g)=(l.zip m).map λp=>T.tup [f p.1,g p.2]:=by unfold tF;rw[List.zip_map,aH];rfl
theorem xU{d:Type} f:∀(l:List d),(∀a∈l,lf (f a)=true)->y0 (l.map f)=true
 |[],_=>rfl
 |a::l,h=>by rw[bE,y0,h a (by simp),xU f l λb c=>h b (by simp[c])];rfl
@[simp] theorem BX(a:LI):y0 (a.map T.int)=true:=xU _ _ λ_ _=>rfl
@[simp] theorem IT ns:lf (tI ns)=true:=by simp[tI]
section
variable {α:Type}{fe fd fl:Pe->M T}{ρ:Pe}{ts:List T}{d k:Nat}
def se(l:List α)(d:Nat):ly l none (some (d:Int))=l.take d:=by
 unfold ly;rw[HT.sIx_none,HT.sIx_nat,List.drop_zero,Nat.sub_zero];by_cases h:d<=l.length
 .rw[cP h]
 .rw[Nat.min_eq_right (by omega),cQ (aJ _),cQ (by omega)]
def sX(l:List α)(d:Nat):ly l (some (d:Int)) none=l.drop d:=by
 unfold ly;rw[HT.sIx_none,HT.sIx_nat];by_cases h:d<=l.length
 .rw[cP h,cQ (by simp)]
 .rw[Nat.min_eq_right (by omega),cR (aJ _),cR (by omega),List.take_nil]
def Hn n d:HT.sIx n d (some (-1))=n-1:=by unfold HT.sIx;dsimp only;rw[aP (by decide)];omega
def zk(l:List α):ly l none (some (-1))=l.dropLast:=by unfold ly;rw[HT.sIx_none,Hn,List.drop_zero,Nat.sub_zero,cS]
def nO(h:fe ρ=.ok (.tup ts))(a:fd ρ=.ok (.int (d:Int)))(b:d<=ts.length):iH fe (λ_=>.ok none) (fY fd) ρ=.ok (.tup (ts.take d)):=by simp only[iH,fY,h,a,M.bind_ok,se]
def sE(h:fe ρ=.ok (.lst ts))(a:fd ρ=.ok (.int (d:Int))):iH fe (λ_=>.ok none) (fY fd) ρ=.ok (.lst (ts.take d)):=by simp only[iH,fY,h,a,M.bind_ok,se]
def uU(h:fe ρ=.ok (.tup ts))(a:ts≠[]):iH fe (λ_=>.ok none) (fY (rJ (λi=>.int (-i)) (cM (.int 1)))) ρ=.ok (.tup ts.dropLast):=by have e:fY (rJ (λi=>.int (-i)) (cM (.int 1))) ρ=.ok (some (-1)):=rfl;simp only[iH,h,e,M.bind_ok,zk]
def vO(h:fe ρ=.ok (.tup ts))(a:fd ρ=.ok (.int (d:Int)))(c:0<d)(b:ts≠[]):iH fe (fY fd) (λ_=>.ok none) ρ=.ok (.tup (ts.drop d)):=by simp only[iH,fY,h,a,M.bind_ok,sX]
def sI(h:fe ρ=.ok (.lst ts))(a:fd ρ=.ok (.int (d:Int))):iH fe (fY fd) (λ_=>.ok none) ρ=.ok (.lst (ts.drop d)):=by simp only[iH,fY,h,a,M.bind_ok,sX]
def pE(h:lc ρ=.ok ts)(a:o [.lst ts]=r):i7 o (dX (jj lc) d8) ρ=r:=by simp only[i7,dX,d8,jj,h,M.bind_ok];exact a
def km(h:f ρ=.ok t)(a:o [t]=r):i7 o (dX f d8) ρ=r:=by simp only[i7,dX,d8,h,M.bind_ok];exact a
def jb(h:lc ρ=.ok ts):jj lc ρ=.ok (.lst ts):=by simp only[jj,h,M.bind_ok]
def uK(h:fe ρ=.ok (.tup ts)):iJ fe ρ=.ok ts:=by simp only[iJ,h,M.bind_ok]
def AL(h:fe ρ=.ok (.lst ts)):iJ fe ρ=.ok ts:=by simp only[iJ,h,M.bind_ok]
def eS(h:fe ρ=.ok (.bl b)):fH fe ρ=.ok b:=by simp only[fH,h,M.bind_ok]
def lS(h:fc ρ=.ok b)(a:(!b)=r):L3.jI fc ρ=.ok r:=by simp only[L3.jI,h,M.bind_ok,a]
def ee(a:fa ρ=.ok x)(b:fb ρ=.ok y)(c:o x y=r):ey o fa fb ρ=r:=by simp only[ey,a,b,M.bind_ok];exact c
def nA(h:f ρ=.ok x)(a:F [x]=.ok t):eA (dX f d8) F ρ=.ok t:=by simp only[eA,dX,d8,h,a,M.bind_ok];rfl
def gH(h:f ρ=.ok x)(a:g ρ=.ok y)(b:F [x,y]=.ok t):eA (dX f (dX g d8)) F ρ=.ok t:=by simp only[eA,dX,d8,h,a,b,M.bind_ok];rfl
def jL{f g k:Pe->M T}(h:f ρ=.ok x)(b:g ρ=.ok y)(a:k ρ=.ok z)(c:F [x,y,z]=.ok t):eA (dX f (dX g (dX k d8))) F ρ=.ok t:=by simp only[eA,dX,d8,h,b,a,c,M.bind_ok];rfl
def A3{f g k l:Pe->M T}(h:f ρ=.ok x)(b:g ρ=.ok y)(a:k ρ=.ok z)(c:l ρ=.ok u)(e:F [x,y,z,u]=.ok t):eA (dX f (dX g (dX k (dX l d8)))) F ρ=.ok t:=by simp only[eA,dX,d8,h,b,a,c,e,M.bind_ok];rfl
end
def oP{b a:Type}{l:List b}{m:List a}{f:b->T}{g:a->T}(c:fa ρ=.ok x)(d:seqT x=.ok (l.map f))(h:fb ρ=.ok y)(e:seqT y=.ok (m.map g)) :
  nj (dX fa (dX fb d8)) ρ=.ok ((l.zip m).map λp=>T.tup [f p.1,g p.2]):=by
 rw[<-Ap];simp only[nj,dX,d8,c,h,M.bind_ok,d,e]
end L3
namespace L3
open PySem L2 PySem.Spec PyProof.Rows
def BQ(K:W.Frag):Sp:=λc H Q _=>∃(a:Addr) (b:LI),c=[.ref a]/\jR K H a (b.map V.int)/\b.length<=63/\(∀z∈b,Builtin.Int.intBits z<=2 ^ 20)/\∀d,Q (.bl true) d
def Av{K:W.Frag}(h:∀b:LI,b.length<=63->(∀z∈b,Builtin.Int.intBits z<=2 ^ 20)->F [.scr b]=.ok (.bl true)) vs H Q E (z:BQ K vs H Q E):l6 K F vs H Q E:=by obtain⟨a,b,rfl,e,d,f,c⟩:=z;refine⟨[.scr b],H,.refl _,.cons (.scr e) .nil,?_⟩;rw[h b d f];intro v i j g r;cases r;exact c _
def Kb{K:W.Frag}{st:Stmt}(F:C3 K x x st f fd)(S:f6 N ps (eh st))
  (c:∀(f:Addr) (b:Vq) (A:Around) (a:List Env) (s:Shared) (H:Hp) (E:XK),fN k (A.deeper (envOfC x (eh st) s.heap.objs.size f b))->∃t,lp K E (gN ph P w K mg base N x (eh st) f b A a s H E).nox (eZ st) t g) :
  jS P w K mg base ph (k+1) f fd ps (l6 K (jK ps.length N.length g)):=
 F.ok S (λd H Q E h=>qM h) λb A a s H d Q E e h=>let ⟨t,hp⟩:=c f b A a s H E e;⟨t,hp.ps,pS hp.ms h⟩
def Ja{l:W.OpenLaw}{q:Program}{k:Nat}{x:Str}{b:List Str}{p:(Str->Option Value)->Heap->Prop}{g:World->Heap->Prop}{d:DefRec}{K:Params->W.Frag}(j:l.most=some 63)(t:fN k callerA)(e:d.params.defaults=[])
  (o:∀(w:World) (h:Heap),g w h->(K w.params).In h)
  (F:∀(w:World) (c:Str->Option Value) (i:Addr) (h:Heap),(K w.params).In h->h.Ns mainGlobals c->c d.name=some (.ref i)->
   ∃fd:FuncData,(∀(s:Shared) (u:Vq),BindsTo s fd ⟨[u],[]⟩ [(x,u)])/\∀base:Heap,(K w.params).In base->base.Ns mainGlobals c->jS l.prog w (K w.params) c base ph k i fd [x] (BQ (K w.params))) :
  W.WalkO q b p g l.row.toRowW d [] (λf vs=>PySem.call f vs):=
 L2.yP j (by decide) e t o F (λ_ _ a n r v _ m=>⟨a,n,rfl,m,r,v,λ_=>rfl⟩) λ_ _ _ _ z=>z
end L3
namespace L3
open PySem L2 PySem.Spec PyProof.Rows
section
variable {K:W.Frag}{E:XK}{t:TE}{f:Pe->M T}
def kO(K:W.Frag)(F H:Hp)(x:Addr)(Q:VK)(t:T):Prop:=∀b c,eJ F b->eJ b c->(∀a o,a≠x->H a=some o->zU o (c a))->(∀a,b a≠none->F a≠none\/H a=none\/a=x\/∃d,H a=some (.tup d))->iS K b (.ref x) t->Q .non c
noncomputable def vk(K:W.Frag)(C:Addr)(g:List T->M T):Sp:=λd H Q _=>∃x e b c a,d=.ref x::b/\H x=some (.ins C e [])/\a x=none/\eJ a H/\eP K a b c/\(g c).noEr.res (kO K a H x Q) (λ_ _=>False)
def Bm{fr:Pe->M (List T)}(J:MA K E tr fr):ME K E (xV C (vk K C Fn) [] E' tr) (eA fr Fn):=λF H Z ρ Q s V q=>by
 refine J.run s V q λD I N w g L i=>?_;intro x m j B A;have u:gI w m (.own x) x=none:=by rw[eF (λz=>A z.symm)];exact j
 have l:eJ w (gI (gI w m (.own x)) x (.ins C m [])):=(oV B).trans (oV u);refine⟨x,m,I,D,N,by rw[bH],eE,eU g.fh j,g.fh.trans l,L,?_⟩;cases e:Fn D with
 |bad=>rw[e]at i;exact i.elim
 |er C n=>rw[e]at i;exact i.elim
 |ok t=>
  rw[e]at i;intro P S a b c d r;refine⟨rfl,i (.ref x) P S ⟨g.ff.trans a,b,λp o h=>?_,λp U=>?_⟩ r⟩
  .have R:=g.hh p o h;have v:p≠x:=qB R j;exact Fs (g.hh.trans l p o h) λX e=>c p X v e
  .rcases d p U with z|z|z|⟨Y,z⟩
   .exact g.nw p z
   .exact .inr (.inl (eU g.hh (eU l z)))
   .rw[z];exact .inr (.inl (eU g.hh j))
   .cases y:H p with
    |none=>exact .inr (.inl rfl)
    |some o=>exact .inr (.inr ⟨Y,by have k:=g.hh.trans l p o y;rw[z]at k;rw[sV k λ_ _ y=>nomatch y]⟩)
noncomputable def sZ(C:Addr)(n:Nat)(g h:Str)(d e:Pe->M T):List T->M T:=λc=>if c.length=n then (d (none::c.map some)).bind λa=>(e (none::c.map some)).bind λb=>.ok (.obj C [(g,a),(h,b)]) else .bad
structure Kh(K:W.Frag)(E:XK)(X:Cx)(body:List Stmt)(f1 f2:Str)(g1 g2:Pe->M T):Prop where
 ex:∃(t1 t2:TE),nk X body (mU (F8 K (jN 0) t1 f1) (F8 K (jN 0) t2 f2))/\ME K E t1 g1/\ME K E t2 g2
def Ka(h:X.K=K)(c:PE X o1 (jN 0))(e:Pm K E X a1 t1 g1)(a:PE X o2 (jN 0))(g:Pm K E X a2 t2 g2)
  (b:swapsWith a1 (some (.Attribute o1 f1 p1)) q1.line X.env=pure false:=by rfl) (d:swapsWith a2 (some (.Attribute o2 f2 p2)) q2.line X.env=pure false:=by rfl) :
  Kh K E X [.Assign [.Attribute o1 f1 p1] a1 q1,.Assign [.Attribute o2 f2 p2] a2 q2] f1 f2 g1 g2:=by
 subst h;exact⟨t1,t2,gP (Ad c e.pe b) (ll (Ad a g.pe d)),e.me,g.me⟩
theorem F7{st:Stmt}(cl:rq K C)(n1:jc K C f1)(n2:jc K C f2)(ne:f1≠f2)(D:iu K C "__init__" qual st)(S:f6 N N (eh st))
  (mk:W.makesIn K C=true) (kp:W.keepIn K (.ref C)=true) (hm:mg x=some (.ref C)) (hN:N.length=n+1)
  (hb:∀(kV doc pm:Vq) (an:Oq Addr) (j ct:Vq) (us:List Vq),us.length=N.length->bindArgs (W.fnOf "__init__" qual (gD st) (eZ st) (eh st) .none kV doc pm an j ct) ⟨us,[]⟩=pure (N.zip us))
  (hT:∀(f:Addr) (j:Vq) (A:Around) (d:List Env) (s:Shared) (H:Hp) (E:XK),fN k (A.deeper (envOfC qual (eh st) s.heap.objs.size f j))->Kh K E (gN ph P w K mg base N qual (eh st) f j A d s H E).nox (eZ st) f1 f2 g1 g2) :
  wR P w K mg base x C (k+1) (vk K C (sZ C n f1 f2 g1 g2)):=by
 obtain⟨fi,fd,F,Mm⟩:=D.ex;refine⟨⟨fi,fd,N,F.ok S (λvs H Q E h=>?_) (λj A d s H vs Q E hr h=>?_),⟨mk,Mm.at_,Mm.fn,kp⟩,F.binds hb⟩,hm⟩
 .obtain⟨x,B,us,u,F0,rfl,Y,fx,s,r,q⟩:=h;unfold sZ at q;by_cases I:u.length=n
  .rw[ay,r.length,I,hN]
  .rw[aQ I]at q;exact q.elim
 .obtain⟨x,B,us,u,F0,rfl,Y,fx,s0,r,q⟩:=h;obtain⟨t1,t2,ps,m1,m2⟩:=(hT fi j A d s H E hr).ex;refine⟨_,ps,?_⟩;unfold sZ at q;by_cases I:u.length=n
  .rw[aP I]at q;have V:jk K F0 (h8 N (.ref x::us)) (none::u.map some):=λi t e=>by
    cases i with
    |zero=>cases e
    |succ i=>
     rw[List.getElem?_cons_succ,av]at e;cases hq:u[i]? with
     |none=>rw[hq]at e;cases e
     |some y=>rw[hq]at e;cases e;obtain⟨v,a,b⟩:=r.get hq;refine⟨v,?_,b⟩;unfold L2.h8;rw[List.getElem?_append_left (by rw[aw,ay];exact Nat.succ_lt_succ (aa.mp a).1),av,List.getElem?_cons_succ,a];rfl
   cases Z:g1 (none::u.map some) with
   |bad=>rw[Z]at q;exact q.elim
   |er C n=>rw[Z]at q;exact q.elim
   |ok a=>
    rw[Z,L3.M.bind_ok]at q;cases X:g2 (none::u.map some) with
    |bad=>rw[X]at q;exact q.elim
    |er C n=>rw[X]at q;exact q.elim
    |ok b=>
     rw[X,L3.M.bind_ok]at q;refine m1 F0 H _ _ _ s0 V ?_;rw[Z];intro v R H1 c r1;have hx1:=c.hh _ _ Y;have J:R x=none:=by
      cases z:R x with
      |none=>rfl
      |some o=>
       rcases c.nw x (by rw[z];exact λy=>nomatch y) with y|y|⟨_,y⟩
       .exact absurd fx y
       .rw[Y]at y;cases y
       .rw[Y]at y;cases y
     refine⟨.ref x,rfl,x,C,B,[],rfl,hx1,cl,n1,by decide,?_⟩;have s1:eJ R (gI H1 x (.ins C B (lR f1 v []))):=λp o h=>by
      have l:p≠x:=λz=>by rw[z,J]at h;cases h
      rw[eF l];exact c.fh p o h
     refine m2 R _ _ _ _ s1 (V.mono c.ff) ?_;rw[X];intro U L H3 g r2;have hx3:=g.hh x _ eE;have fx2:L x=none:=by
      cases z:L x with
      |none=>rfl
      |some o=>
       rcases g.nw x (by rw[z];exact λy=>nomatch y) with y|y|⟨_,y⟩
       .exact absurd J y
       .rw[eE]at y;cases y
       .rw[eE]at y;cases y
     refine⟨.ref x,rfl,x,C,B,_,rfl,hx3,cl,n2,by show 1<1000;decide,?_⟩;have ep:lR f2 U (lR f1 v [])=[(f1,v),(f2,U)]:=by show (if f1=f2 then _ else _)=_;rw[aQ ne];rfl
     have sF:eJ L (gI L x (.ins C B [(f1,v),(f2,U)])):=oV fx2;refine q (gI L x (.ins C B [(f1,v),(f2,U)])) _ ((c.ff.trans g.ff).trans sF) (λp o h=>?_) (λp o l h=>?_) (λp l=>?_) (.obj eE (.cons (r1.mono (g.ff.trans sF)) (.cons (r2.mono sF) .nil)))
     .by_cases l:p=x
      .subst l;rw[eE]at h;rw[eE,ep];exact .of h
      .rw[eF l]at h ⊢;exact g.fh p o h
     .rw[eF l];exact Fs (c.hh p o h) λo' e=>g.hh p o' (by rw[eF l];exact e)
     .by_cases m:p=x
      .exact .inr (.inr (.inl m))
      .rw[eF m]at l;rcases g.nw p l with z|z|⟨xs,z⟩
       .rcases c.nw p z with y|y|y
        .exact .inl y
        .exact .inr (.inl y)
        .exact .inr (.inr (.inr y))
       .rw[eF m]at z;exact .inr (.inl (eU c.hh z))
       .rw[eF m]at z;cases y:H p with
        |none=>exact .inr (.inl rfl)
        |some o=>exact .inr (.inr (.inr ⟨xs,by have k:=c.hh p o y;rw[z]at k;rw[sV k λ_ _ y=>nomatch y]⟩))
  .rw[aQ I]at q;exact q.elim
end
section
variable {X:Cx}{K:W.Frag}{E:XK}{x m:Str}{C:Addr}{k:Nat}{Fn:List T->M T}{Ff:List T->M (List T)}{e o:Expr}{es:List Expr}{tr:TA}{fr:Pe->M (List T)}{ta:TE}{fa:Pe->M T}{p pos apos:Pos}
def Fm(h:wR X.prog X.w X.K X.mg X.base x C j (vk K C Fn))(g:fN k X.A)(c:vJ K E X (e::es) tr fr)(d:j+1<=k:=by decide)(i:Gl X x:=by rfl)
  (a:(x==("__debug__" : Str))=false:=by decide) (f:starEach (e::es) X.env=(false,eval e X.env)::starEach es X.env:=by rfl) (b:(backTo pos (starEach es X.env)).any (·.1)=false:=by rfl) :
  Pm K E X (.Call (.Name x p) (e::es) [] pos) (xV C (vk K C Fn) [] E0 tr) (eA fr Fn):=⟨IH h (g.mono d) c.pa i a f b,Bm c.ma⟩
def Fv(h:gW X.prog X.w X.K X.mg X.base C m j (l6 K Fn))(i:fN k X.A)(c:Pm K E X o ta fa)(d:vJ K E X (e::es) tr fr)(g:j<=k:=by decide)
  (a:starEach (e::es) X.env=(false,eval e X.env)::starEach es X.env:=by rfl) (b:(backTo pos (starEach es X.env)).any (·.1)=false:=by rfl)
  (l:eval (.Call (.Attribute o m apos) (e::es) [] pos) X.env=(do
   let ov <-eval o X.env
   standAt apos.atName
   let (f,first) <-holding [ov] (getMethod ov m pl)
   callWith pos f first (backTo pos (starEach (e::es) X.env)) (backToKw pos (keywordEach [] X.env))):=by rfl) :
  Pm K E X (.Call (.Attribute o m apos) (e::es) [] pos) (m9 C m (l6 K Fn) [] E0 ta tr) (jZ C m fa fr Fn):=⟨IJ h (i.mono g) c.pe d.pa a b l,vn c.me d.ma⟩
def uB(h:gW X.prog X.w X.K X.mg X.base C m j (l6 K Fn))(c:fN k X.A)(a:Pm K E X o ta fa)(b:j<=k:=by decide)
  (d:eval (.Call (.Attribute o m apos) [] [] pos) X.env=(do
   let ov <-eval o X.env
   standAt apos.atName
   let (f,first) <-holding [ov] (getMethod ov m pl)
   callWith pos f first (backTo pos (starEach [] X.env)) (backToKw pos (keywordEach [] X.env))):=by rfl) :
  Pm K E X (.Call (.Attribute o m apos) [] [] pos) (m9 C m (l6 K Fn) [] E0 ta kH) (jZ C m fa d8 Fn):=⟨Cm h (c.mono b) a.pe d,vn a.me v7⟩
def AF(h:gW X.prog X.w X.K X.mg X.base C m j (C0 K Ff))(c:fN k X.A)(a:Pm K E X o ta fa)(b:j<=k:=by decide)
  (d:eval (.Call (.Attribute o m apos) [] [] pos) X.env=(do
   let ov <-eval o X.env
   standAt apos.atName
   let (f,first) <-holding [ov] (getMethod ov m pl)
   callWith pos f first (backTo pos (starEach [] X.env)) (backToKw pos (keywordEach [] X.env))):=by rfl) :
  zV K E X (.Call (.Attribute o m apos) [] [] pos) (m9 C m (C0 K Ff) [] E0 ta kH) (mX C m fa d8 Ff):=⟨Cm h (c.mono b) a.pe d,BU a.me v7⟩
def qj(b:X.K=K)(a:rq K C)(c:jc K C f)(h:Pm K E X e ta fa)(d:attributeBase e f X.env (eval e X.env)=eval e X.env:=by rfl):Pm K E X (.Attribute e f pos) (FG X.K ta f) (rC C f fa):=by subst b;exact⟨F9 h.pe d,FH a c h.me⟩
@[simp] noncomputable def zu(f:Pe->M T)(m:T->En->Option En):En->O:=λa=>O.of (gY f a) λt=>match m t a with
 |some ρ'=>.nx ρ'
 |none=>.bad
def Hk{m:T->En->Option En}(h:ME K E t f)(y:B3 K g m):MS K E (j1 t g) (zu f m):=λn w F H i b D r q=>
 h.inH r q λx v c d z l u a=>by
  cases e:m x b with
  |none=>rw[e]at a;exact a.elim
  |some ρ'=>rw[e]at a;exact y n w c d i b v x ρ' _ u l e λj s=>a c d _ (.refl _) s
def yo{m:T->En->Option En}(a:Pm K E X e t f)(b:Hz K X tg g m)(c:swapsWithSole [tg] e pos.line X.env=pure false:=by rfl)(hw:swappedStores [tg] e X.env=pure none:=by rfl)
  (d:(assignEach [tg] X.env).map (·.2)=[assign tg X.env]:=by rfl):pV K E X (.Assign [tg] e pos) (j1 t g) (zu f m):=⟨Cz a.pe b.pg c hw d,Hk a.me b.mg⟩
def Co{m:T->En->Option En}(h:f (jY ρ)=.ok t)(a:m t ρ=some ρ'):zu f m ρ=.nx ρ':=by unfold zu gY;rw[h];simp[a]
end
section
variable {P:Program}{w:World}{K:W.Frag}{mg:Str->Option Value}{base:Heap}{C:Addr}{m qual:Str}{st:Stmt}{N ps:List Str}{k:Nat}{g:En->O}
def Jv(i:rq K C)(D:iu K C m qual st)(S:f6 N ps (eh st))
  (o:∀(kV c p:Vq) (l:Oq Addr) (b n:Vq) (us:List Vq),us.length=ps.length->bindArgs (W.fnOf m qual (gD st) (eZ st) (eh st) .none kV c p l b n) ⟨us,[]⟩=pure (ps.zip us))
  (d:∀(f:Addr) (b:Vq) (A:Around) (a:List Env) (s:Shared) (H:Hp) (E:XK),fN k (A.deeper (envOfC qual (eh st) s.heap.objs.size f b))->∃t,lp K E (gN ph P w K mg base N qual (eh st) f b A a s H E).nox (eZ st) t g) :
  gW P w K mg base C m (k+1) (l6 K (jK ps.length N.length g)):=
 yk i D S o (λe H Q E h=>qM h) λf b A a s H e Q E j h=>let ⟨t,hp⟩:=d f b A a s H E j;⟨t,hp.ps,pS hp.ms h⟩
def Jg(i:rq K C)(D:iu K C m qual st)(S:f6 N ps (eh st))
  (o:∀(kV c p:Vq) (l:Oq Addr) (b n:Vq) (us:List Vq),us.length=ps.length->bindArgs (W.fnOf m qual (gD st) (eZ st) (eh st) .none kV c p l b n) ⟨us,[]⟩=pure (ps.zip us))
  (d:∀(f:Addr) (b:Vq) (A:Around) (a:List Env) (s:Shared) (H:Hp) (E:XK),fN k (A.deeper (envOfC qual (eh st) s.heap.objs.size f b))->∃t,lp K E (gN ph P w K mg base N qual (eh st) f b A a s H E).nox (eZ st) t g) :
  gW P w K mg base C m (k+1) (C0 K (EL ps.length N.length g)):=
 yk i D S o (λe H Q E h=>DI h) λf b A a s H e Q E j h=>let ⟨t,hp⟩:=d f b A a s H E j;⟨t,hp.ps,B2 hp.ms h⟩
end
end L3
namespace L3
open PySem L2 PySem.Spec PyProof.Rows
def HB:Nat->(List Value->Prop)->Prop
 |0,P=>P []
 |k+1,P=>∀v,HB k λus=>P (v::us)
theorem kr:∀{k} {P},HB k P->∀us:List Vq,us.length=k->P us
 |0,_,h,[],_=>h
 |k+1,_,h,v::us,e=>kr (h v) us (by simpa using e)
def HR(X:Cx):Prop:=∀x,X.env.scope.names.lookup x=some .cell->∃c,X.env.cells.lookup x=some c
structure Zx(P:Program)(w:World)(K:W.Frag)(mg:Str->Option Value)(base:Heap):Prop where
 here:True
section
variable {P:Program}{w:World}{K:W.Frag}{mg:Str->Option Value}{base:Heap}
noncomputable abbrev CP(_:Zx P w K mg base)(x:Str)(k:Nat)(F:List T->M T):Prop:=kG P w K mg base x k (l6 K F)
end
section
variable {P:Program}{w:World}{K:W.Frag}{mg:Str->Option Value}{base:Heap}{x m qual:Str}{C:Addr}{st:Stmt}{g:En->O}
noncomputable abbrev JI(P:Program)(w:World)(K:W.Frag)(mg:Str->Option Value)(base:Heap)(k:Nat)(qual:Str)(st:Stmt)(N:List Str)(g:En->O):Prop:=∀{f:Addr} {cdv:Vq} {A:Around} {outer:List Env} {s:Shared} {H:Hp} {E:XK},N.Nodup->HR (gN ph P w K mg base N qual (eh st) f cdv A outer s H E).nox->fN k (A.deeper (envOfC qual (eh st) s.heap.objs.size f cdv))->∃t,lp K E (gN ph P w K mg base N qual (eh st) f cdv A outer s H E).nox (eZ st) t g
abbrev HJ(x qual:Str)(st:Stmt)(ps:List Str):Prop:=∀(kV doc pm:Vq) (an:Oq Addr) (cdv ct:Vq),HB ps.length λus=>bindArgs (W.fnOf x qual (gD st) (eZ st) (eh st) .none kV doc pm an cdv ct) ⟨us,[]⟩=pure (ps.zip us)
def je(_:Zx P w K mg base) k F N ps (e:F=jK ps.length N.length g) (D:eM K mg x st) (i:JI P w K mg base k x st N g) (S:f6 N ps (eh st):=by constructor<;>first|rfl|decide +kernel)
  (n:HJ x x st ps:=by first|exact λ_ _ _ _ _ _ _ _=>rfl|exact λ_ _ _ _ _ _ _=>rfl|exact λ_ _ _ _ _ _ _ _ _=>rfl|exact λ_ _ _ _ _ _ _ _ _ _=>rfl|exact λ_ _ _ _ _ _ _ _ _ _ _=>rfl|exact λ_ _ _ _ _ _=>rfl) :
  kG P w K mg base x (k+1) (l6 K F):=e▸J5 D S (λa b c d e f j l=>kr (n a b c d e f) j l) λ_ _ _ _ _ _ _ r=>i S.nd (λ_ h=>jE h) r
def Ba(_:Zx P w K mg base) k F N ps (e:F=jK ps.length N.length g) (l:rq K C) (D:iu K C m qual st) (i:JI P w K mg base k qual st N g) (S:f6 N ps (eh st):=by constructor<;>first|rfl|decide +kernel)
  (o:HJ m qual st ps:=by first|exact λ_ _ _ _ _ _ _=>rfl|exact λ_ _ _ _ _ _ _ _=>rfl|exact λ_ _ _ _ _ _ _ _ _=>rfl) :
  gW P w K mg base C m (k+1) (l6 K F):=e▸Jv l D S (λa b c d e f j n=>kr (o a b c d e f) j n) λ_ _ _ _ _ _ _ r=>i S.nd (λ_ h=>jE h) r
def HK(_:Zx P w K mg base) k F N ps (e:F=EL ps.length N.length g) (l:rq K C) (D:iu K C m qual st) (i:JI P w K mg base k qual st N g) (S:f6 N ps (eh st):=by constructor<;>first|rfl|decide +kernel)
  (o:HJ m qual st ps:=by first|exact λ_ _ _ _ _ _ _=>rfl|exact λ_ _ _ _ _ _ _ _=>rfl|exact λ_ _ _ _ _ _ _ _ _=>rfl) :
  gW P w K mg base C m (k+1) (C0 K F):=e▸Jg l D S (λa b c d e f j n=>kr (o a b c d e f) j n) λ_ _ _ _ _ _ _ r=>i S.nd (λ_ h=>jE h) r
def Ip(_:Zx P w K mg base) k F N ps (e:F=jK ps.length N.length g) (D:C3 K x x st f fd) (a:JI P w K mg base k x st N g) (S:f6 N ps (eh st):=by constructor<;>first|rfl|decide +kernel) :
  jS P w K mg base ph (k+1) f fd ps (l6 K F):=e▸Kb D S λ_ _ _ _ _ _ _ r=>a S.nd (λ_ h=>jE h) r
def J0(_:Zx P w K mg base) k F N (e:F=sZ C n f1 f2 g1 g2) (q:rq K C) (u:jc K C f1) (z:jc K C f2) (y:W.makesIn K C=true) (p:W.keepIn K (.ref C)=true) (l:mg x=some (.ref C)) (D:iu K C "__init__" qual st)
  (j:∀{f:Addr} {i:Vq} {A:Around} {h:List Env} {s:Shared} {H:Hp} {E:XK},fN k (A.deeper (envOfC qual (eh st) s.heap.objs.size f i))->Kh K E (gN ph P w K mg base N qual (eh st) f i A h s H E).nox (eZ st) f1 f2 g1 g2)
  (S:f6 N N (eh st):=by constructor<;>first|rfl|decide +kernel) (B:HJ "__init__" qual st N:=by exact λ_ _ _ _ _ _ _ _ _=>rfl) (ne:f1≠f2:=by decide) (t:N.length=n+1:=by rfl) :
  wR P w K mg base x C (k+1) (vk K C F):=e▸F7 q u z ne D S y p l t (λa b c d e f o v=>kr (B a b c d e f) o v) λ_ _ _ _ _ _ _ r=>j r
end
section
variable {K:W.Frag}{E:XK}{X:Cx}{tg elt iter:Expr}{ifs:List Expr}{scope:Scope}{wi:TI}{g:TG}{tt:TT}{te:TE}{fe:Pe->M T}{fi:Pe->M (List T)}{m:T->Pe->Option Pe}{ft:Pe->M Bool}{pos:Pos}{x:Str}
noncomputable abbrev Kn(K:W.Frag)(X:Cx)(scope:Scope)(N:List Str)(tg elt:Expr)(ifs:List Expr)(g:TG)(tt:TT)(te:TE)(m:T->Pe->Option Pe)(ft:Pe->M Bool)(fe:Pe->M T):Prop:=∀{C s₃ H ex pn},N.Nodup->HR (j6 X N scope C s₃ H ex pn)->HU K (j6 X N scope C s₃ H ex pn) tg g m/\BH K C1 (j6 X N scope C s₃ H ex pn) ifs tt ft/\Pm K C1 (j6 X N scope C s₃ H ex pn) elt te fe
def i9 N ix (i:HR X) (e:CH K E X tg iter wi fi) (a:Kn K X scope N tg elt ifs g tt te m ft fe) (f:uH X.N X.env.scope scope N ix=true:=by rfl) (b:lq ix g:=by first|exact qD rfl|exact qw rfl rfl) (d:N.Nodup:=by decide) (h:X.calm=true:=by rfl)
  (c:∀x,foldedSetIterable iter X.env x=pure x:=by intro _;rfl):zV K E X (.ListComp elt [⟨tg,iter,ifs,0⟩] scope pos) (BM ix wi g tt te) (j4 ix fi m ft fe):=
 let L:=Ii i f
 Io h e L b (λ_ _ _ _ _=>a d (Ag L)) c
def qO N ix i (f:X.N.Nodup) (q:HR X) (k:CH K E X tg iter wi fi) (a:Kn K X scope N tg elt ifs g tt te m ft fe)
  (j:MF K E (BM ix wi g tt te) (j4 ix fi m ft fe)->MS K E (j1 (BM ix wi g tt te) (gJ i)) gm) (n:uH X.N X.env.scope scope N ix=true:=by rfl) (c:lq ix g:=by first|exact qD rfl|exact qw rfl rfl) (h:N.Nodup:=by decide) (l:vR X.env.scope x:=by first|exact Or.inl rfl|exact Or.inr rfl) (p:X.calm=true:=by rfl)
  (o:X.N[i]? = some x:=by rfl) (e:X.fn x=true\/X.env.scope.names.lookup x=some .local:=by first|exact .inl rfl|exact .inr rfl)
  (b:swapsWith (.ListComp elt [⟨tg,iter,ifs,0⟩] scope pos) (some (.Name x py)) spos.line X.env=pure true:=by rfl)
  (d:∀x,foldedSetIterable iter X.env x=pure x:=by intro _;rfl):pV K E X (.Assign [.Name x py] (.ListComp elt [⟨tg,iter,ifs,0⟩] scope pos) spos) (j1 (BM ix wi g tt te) (gJ i)) gm:=
 let L:=Ii q n
 FD i f l p k L c (λ_ _ _ _ _=>a h (Ag L)) j o e b d
end
end L3
namespace L3
open PySem L2 PySem.Spec PyProof.Rows
abbrev JA:List Vq:=[.type "ValueError",.type "Exception",.type "BaseException",.type "object"]
section
variable {P:Program}{w:World}{K:W.Frag}{mg:Str->Option Value}{base:Heap}{x m qual:Str}{C:Addr}{st:Stmt}{N ps:List Str}{k j:Nat}{g:En->O}{sp:Sp}
noncomputable abbrev CE(_:Zx P w K mg base)(x:Str)(k:Nat)(F:List T->M T):Prop:=j5 P w K mg base x k (l6 K F)
noncomputable abbrev JV(P:Program)(w:World)(K:W.Frag)(mg:Str->Option Value)(base:Heap)(k:Nat)(qual:Str)(st:Stmt)(N:List Str)(g:En->O):Prop:=∀{f:Addr} {cdv:Vq} {A:Around} {outer:List Env} {s:Shared} {H:Hp} {E:XK},N.Nodup->HR (gN (pI P w) P w K mg base N qual (eh st) f cdv A outer s H E)->fN k (A.deeper (envOfC qual (eh st) s.heap.objs.size f cdv))->∃t,lp K E (gN (pI P w) P w K mg base N qual (eh st) f cdv A outer s H E) (eZ st) t g
def Kc(_:Zx P w K mg base) k F N ps (e:F=jK ps.length N.length g) (D:eM K mg x st) (l:JV P w K mg base k x st N g) (S:f6 N ps (eh st):=by constructor<;>first|rfl|decide +kernel)
  (u:HJ x x st ps:=by first|exact λ_ _ _ _ _ _ _ _=>rfl|exact λ_ _ _ _ _ _ _=>rfl|exact λ_ _ _ _ _ _ _ _ _=>rfl|exact λ_ _ _ _ _ _ _ _ _ _=>rfl) :
  j5 P w K mg base x (k+1) (l6 K F):=e▸Aa D S (λa b c d e f p q=>kr (u a b c d e f) p q) (λo H Q E h=>qM h) λf n A i s H o Q E r h=>let ⟨t,hp⟩:=l S.nd (λ_ h=>jE h) r;⟨t,hp.ps,pS hp.ms h⟩
end
section
variable {P:Program}{w:World}{K:W.Frag}{mg:Str->Option Value}{base:Heap}{N:List Str}{qual:Str}{scope:Scope}{f:Addr}{cd:Vq}{A:Around}{outer:List Env}{s₀:Shared}{H₀:Hp}{E:XK}
def zJ{j}(d:W.nsIn K mainGlobals x=some (some (.ref C)))(q:W.excIn K C JA "ValueError.__new__" = true)
  (b:Gl (gN (pI P w) P w K mg base N qual scope f cd A outer s₀ H₀ E) x:=by rfl) (a:(x==("__debug__" : Str))=false:=by decide)
  (c:starEach [.Constant (.str y) j p2] (envOfC qual scope s₀.heap.objs.size f cd)=[(false,eval (.Constant (.str y) j p2) (envOfC qual scope s₀.heap.objs.size f cd))]:=by rfl) :
  pV K E (gN (pI P w) P w K mg base N qual scope f cd A outer s₀ H₀ E) (.Raise (some (.Call (.Name x np) [.Constant (.str y) j p2] [] cpos)) none pos) (λ_ _ H=>E (.ref C) none H) (λ_=>.er C none):=
 ⟨BD d q PySem.F.excBase_ValueError (by decide +kernel) PySem.F.excBase_ValueError (ez iT fQ) (λ_ _ _ h=>⟨(by show 1<=sizeLine;decide),h⟩) b a c,λi k F H e g D r q=>q F H r.gr⟩
end
section
variable {K:W.Frag}{E:XK}{X:Cx}{x m:Str}{C:Addr}{k j:Nat}{Fn:List T->M T}{e o:Expr}{es:List Expr}{tr:TA}{fr:Pe->M (List T)}{ta:TE}{fa:Pe->M T}{p pos apos:Pos}
def BN(h:j5 X.prog X.w X.K X.mg X.base x j (l6 K Fn))(i:fN k X.A)(g:jx (pI X.prog X.w) X E)(c:vJ K E X (e::es) tr fr)(d:j<=k:=by decide)(l:Gl X x:=by rfl)
  (a:(x==("__debug__" : Str))=false:=by decide) (f:starEach (e::es) X.env=(false,eval e X.env)::starEach es X.env:=by rfl) (b:(backTo pos (starEach es X.env)).any (·.1)=false:=by rfl) :
  Pm K E X (.Call (.Name x p) (e::es) [] pos) (oZ (l6 K Fn) [] E tr) (xw fr Fn):=⟨uZ (h.mono d) i g c.pa l a f b,EZ c.ma⟩
def A0(h:lp K E X.nox sts t g):lp K E X sts t g:=⟨h.ps.nox,h.ms⟩
end
inductive Hd where
 |no|set (j:Nat) (y:Str)|ret (y:Str)
def Hd.ok(h:Hd)(D:lB)(c:L2.St)(H:Hp):Prop:=match h with
 |.no=>False
 |.set j y=>∀a b,a.length=c.length->a[j]? = some (some (.str y))->eJ H b->D.nx a b
 |.ret y=>∀b,eJ H b->D.rt (.str y) b
section
variable {K:W.Frag}{E:XK}
noncomputable def Kg(K:W.Frag)(E:XK)(t:TS)(g:En->O):Prop:=∀(a b F H:Hp) σ ρ D,Sr K ⟨a,[]⟩ b F H σ ρ->(g ρ).res K E ⟨a,[]⟩ b F D->t D σ H
@[simp] noncomputable def CW(n:Nat)(g:En->O)(h:Addr->Hd)(a:En->O):En->O:=λb=>match g b with
 |.nx ρ'=>a ρ'
 |.er C none=>(match h C with
  |.no=>.bad
  |.ret y=>.rt (.str y)
  |.set j y=>match a ((List.replicate n none).set j (some (.p (.str y)))) with
   |.rt t=>.rt t
   |_=>.bad)
 |.er _ (some _)=>.bad
 |o=>o
def GS{c:L2.St}(g:Gr F0 H0 F H)(f:i≠j)(b:c.length=n)(s:c[j]? = some (some (.str y))):Sr K ⟨F0,[]⟩ H0 F H (c.set i none) ((List.replicate n none).set j (some (.p (.str y)))):=by
 have at_:∀(l:Nat) (u:W),((List.replicate n none).set j (some (W.p (.str y))))[l]? = some (some u)->l=j/\j<n/\u=.p (.str y):=λl u e=>by
  by_cases b:j=l
  .subst b;by_cases a:j<n
   .rw[List.getElem?_set_self (by simpa using a)]at e;cases e;exact⟨rfl,a,rfl⟩
   .rw[List.getElem?_eq_none (by simpa using a)]at e;cases e
  .rw[aq b,List.getElem?_replicate]at e;split at e<;>cases e
 refine⟨g,by simp[b],λl t e=>?_,⟨λ_=>0,λl o e=>?_,λl m o v e=>?_⟩,λ_ r=>(nomatch r),λ_ _ _ h=>(by cases h),⟨λl d e=>?_,λl m d k e=>?_⟩⟩
 .obtain⟨rfl,a,q⟩:=at_ _ _ e;cases q;exact⟨.str y,by rw[aq f,s],.str y⟩
 all_goals (obtain⟨_,_,q⟩:=at_ _ _ e;cases q)
theorem HA(X:∀A,MS K A (tb A) g)(w:MS K E u g')
  (x:∀C,h C≠.no->W.mroIn K C (.ref Dh)=some true/\∀j y,h C=.set j y->i≠j)
  (L:∀C ea H D,H ea=none->(h C).ok D ((List.replicate N.length (none:Oq V)).set i (some (.ref ea))) H->th ea C D ((List.replicate N.length (none:Oq V)).set i (some (.ref ea))) H) :
  Kg K E (mU (Gn K N Dh i tb th) u) (CW N.length g h g'):=λd m F H I k D r q=>by
 refine X _ ⟨d,[]⟩ m F H I k _ r ?_;unfold CW at q;cases e:g k with
 |nx ρ'=>rw[e]at q;intro c v o s S;exact w ⟨d,[]⟩ m c v o ρ' D S (O.res.go q s)
 |bad=>rw[e]at q;exact q
 |rt t=>rw[e]at q;exact q
 |rf ts=>rw[e]at q;exact q
 |rn ts us=>rw[e]at q;exact q
 |bk k=>rw[e]at q;exact q
 |ct k=>rw[e]at q;exact q
 |er C n=>
  rw[e]at q;cases n with
  |some _=>exact q.elim
  |none=>
   have ne:h C≠.no:=λz=>by dsimp only at q;rw[z]at q;exact q
   intro c v a;refine⟨C,rfl,(x C ne).1,λea Q=>L C ea v _ Q ?_⟩;dsimp only at q;cases l:h C with
   |no=>exact absurd l ne
   |ret y=>rw[l]at q;exact λf b=>q (.str y) c f ⟨a.ff,a.fh.trans b,a.hh.trans b,a.nw⟩ (.str y)
   |set j y=>
    rw[l]at q;intro P f J U b;have R:Gr d m c f:=⟨a.ff,a.fh.trans b,a.hh.trans b,a.nw⟩;refine w ⟨d,[]⟩ m c f _ _ D (GS (n:=N.length) R ((x C ne).2 j y l) (J.trans (by simp)) U) ?_;dsimp only at q;cases B:g' ((List.replicate N.length none).set j (some (.p (.str y)))) with
    |rt t=>rw[B]at q;exact q
    |_=>rw[B]at q;exact q.elim
structure IW(K:W.Frag)(E:XK)(X:Cx)(sts:List Stmt)(t:TS)(g:En->O):Prop where
 ps:nk X sts t
 ms:Kg K E t g
end
section
variable {P:Program}{w:World}{K:W.Frag}{mg:Str->Option Value}{base:Heap}{x:Str}{st:Stmt}{g:En->O}
def BA(l:Kg K E t g)(h:l6 K (jK k N.length g) vs H Q E):t {nx:=λ_ b=>Q .non b,rt:=Q} (h8 N vs) H:=by
 obtain⟨a,c,s,r,q⟩:=h;unfold jK at q;by_cases d:a.length=k
 .rw[aP d]at q;refine l c H c H _ _ _ (ql s r) ?_;cases e:g (fC N.length a) with
  |bad=>rw[e]at q;exact q
  |nx ρ=>rw[e]at q;exact λi b f _ j=>q .non i b j.gr .non
  |rt t=>rw[e]at q;exact q
  |rf a=>rw[e]at q;exact kF.of q
  |rn a us=>rw[e]at q;exact kT.of q
  |bk ρ=>rw[e]at q;exact q.elim
  |ct ρ=>rw[e]at q;exact q.elim
  |er C n=>rw[e]at q;exact q
 .rw[aQ d]at q;exact q.elim
def J4(_:Zx P w K mg base) k F N ps (e:F=jK ps.length N.length g) (D:eM K mg x st)
  (l:∀{f:Addr} {j:Vq} {A:Around} {i:List Env} {s:Shared} {H:Hp} {E:XK},N.Nodup->HR (gN ph P w K mg base N x (eh st) f j A i s H E).nox->fN k (A.deeper (envOfC x (eh st) s.heap.objs.size f j))->∃t,IW K E (gN ph P w K mg base N x (eh st) f j A i s H E).nox (eZ st) t g)
  (S:f6 N ps (eh st):=by constructor<;>first|rfl|decide +kernel)
  (q:HJ x x st ps:=by first|exact λ_ _ _ _ _ _ _ _=>rfl|exact λ_ _ _ _ _ _ _=>rfl|exact λ_ _ _ _ _ _ _ _ _=>rfl|exact λ_ _ _ _ _ _ _ _ _ _=>rfl) :
  kG P w K mg base x (k+1) (l6 K F):=e▸xy D S (λa b c d e f n o=>kr (q a b c d e f) n o) (λm H Q E h=>qM h) λf j A i s H m Q E p h=>let ⟨t,hp⟩:=l S.nd (λ_ h=>jE h) p;⟨t,hp.ps,BA hp.ms h⟩
end
section
variable {K:W.Frag}{E:XK}
def G8:bootBuiltins "ValueError" = some (.type "ValueError"):=by decide +kernel
structure Xk(K:W.Frag)(x:Str)(C Cut:Addr):Prop where
 ns:W.nsIn K mainGlobals x=some (some (.ref C))
 ex:W.excIn K C JA "ValueError.__new__" = true
 xc:rK K C
 su:W.mroIn K C (.ref Cut)=some true
 va:W.kitOne K (.ref C) (.type "ValueError")=some true
def Il(b:W.nsIn K mainGlobals x=some (some (.ref C)))(g:W.excIn K C JA "ValueError.__new__" = true)
  (i:W.findIn K (.ref C) "__getattribute__" = some (some (.builtin "BaseException.__getattribute__"))) (k:W.findIn K (.ref C) "__getattr__" = some none) (d:W.findIn K (.ref C) "__class__" = some (some (.builtin "object.__class__")))
  (e:W.specialIn K (.builtin "object.__class__") "__get__" = some (some (.builtin "getset_descriptor.__get__"))) (h:W.takesIn K (.builtin "object.__class__")=some true) (j:W.mroIn K C (.type "object")=some true) (a:W.mroIn K C (.type "BaseException")=some true)
  (f:W.mroIn K C (.ref Cut)=some true) (c:W.mroIn K C (.type "ValueError")=some true):Xk K x C Cut:=⟨b,g,⟨i,k,d,e,h,j,a,lu a⟩,f,Gy (by decide +kernel) c⟩
def nK(n:C≠D)(t:W.typeIn K (.ref D)=some (.type "type"))(o:W.mroIn K D (.type "object")=some true)(s:W.mroIn K C (.ref D)=some false):W.kitOne K (.ref C) (.ref D)=some false:=yg n t (lu o) s
def Bc{b a r:List Stmt} i (I:X.N.Nodup) (A:X.mg x=some (.ref Dh)) (T:Cq X.K Dh)
  (s:∀(c:XK) (d:List (Addr×Obj)) (f:Vq->Shared->Prop),jx (pI X.prog X.w) (X.tryB d f) c->lp K c (X.tryB d f) b (tb c) g)
  (v:∀(d:List (Addr×Obj)) (ea:Addr) (oe:Obj) (t:Addr),(ea,oe)∈d->oe.cls=.ref t->nk (X.exc d ea) (e::a) (th ea t))
  (q:lp K E X r u g') (l:∀C,h C≠.no->W.mroIn K C (.ref Dh)=some true/\∀j y,h C=.set j y->i≠j)
  (F:∀C ea H D,H ea=none->(h C).ok D ((List.replicate X.N.length (none:Oq V)).set i (some (.ref ea))) H->th ea C D ((List.replicate X.N.length (none:Oq V)).set i (some (.ref ea))) H)
  (z:X.K=K:=by rfl) (J:X.N[i]? = some n:=by rfl) (P:X.env.kindOf n=some .local:=by rfl) (L:Gl X x:=by rfl) (m:X.stack=X.env::X.outer:=by rfl) (o:X.env.frame=some X.env.locals:=by rfl)
  (B:vR X.env.scope n:=by exact .inl rfl) (k:X.fn n=true\/X.env.scope.names.lookup n=some .local:=by exact .inr rfl) (Q:(x==("__debug__" : Str))=false:=by decide) :
  IW K E X (.Try b [.ExceptHandler (some (.Name x np)) (some n) (e::a) hpos] [] [] pos::r) (mU (Gn X.K X.N Dh i tb th) u) (CW X.N.length g h g'):=by
 subst z;exact⟨gP (GJ I J P L A T m o (λc d f p=>(s c d f p).ps) v B k Q) q.ps,HA (λc=>(s c [] (λ_ _=>True) λ_ _ _ _ _ _ _ _=>trivial).ms) q.ms l F⟩
end
def Fj(t:TT)(c:L2.St)(H:Hp)(b:Bool):Prop:=∀Q:Bool->Hp->Prop,(∀a,eJ H a->Q b a)->t c H Q
abbrev Gv(K:W.Frag)(ea C:Addr):List V->Hp->VK->Prop:=λxs H Q=>∃d b,xs=[V.ref ea,d]/\rK K C/\A5 K H C d b/\Q (V.bl b) H
section
variable {K:W.Frag}{σ:L2.St}{H:Hp}{i:Nat}{ea C D:Addr}{a b:Bool}{t u:TT}
def C8(c:σ[i]? = some (some (.ref ea)))(x:rK K C)(k:W.kitOne K (.ref C) (.ref D)=some b):Fj (tB (zq (Gv K ea C) (iA (jN i) (iA (tC (.ref D)) kH)))) σ H b:=λQ q=>⟨_,c,_,b,rfl,x,.own k,b,rfl,q H (.refl _)⟩
def G5{T:String}(c:σ[i]? = some (some (.ref ea)))(x:rK K C)(k:W.kitOne K (.ref C) (.type T)=some b):Fj (tB (zq (Gv K ea C) (iA (jN i) (iA (tC (.ty T)) kH)))) σ H b:=λQ q=>⟨_,c,_,b,rfl,x,.ty k,b,rfl,q H (.refl _)⟩
def yw(h:Fj t σ H a):Fj (E2 t) σ H (!a):=λQ q=>h _ q
def GZ(h:Fj t σ H false)(d:∀c,eJ H c->Fj u σ c b):Fj (JC t u) σ H b:=λQ q=>h _ λc s=>by rw[aQ (by decide)];exact d c s Q λf e=>q f (s.trans e)
def EM{v w z:TS}{D:lB}(h:Fj t σ H false)(k:∀c,eJ H c->z D σ c):mU (vA t v nF) z D σ H:=h _ λc s=>by rw[aQ (by decide)];exact k c s
end
end L3
namespace L3
open PySem L2 PySem.Spec PyProof.Rows
section
variable {K:W.Frag}{E:XK}{X:Cx}{x m:Str}{C:Addr}{k j:Nat}{Fn:List T->M T}{e o:Expr}{es:List Expr}{tr:TA}{fr:Pe->M (List T)}{ta:TE}{fa:Pe->M T}{p pos apos:Pos}
def zQ(h:j5 X.prog X.w X.K X.mg X.base x j (l6 K Fn))(g:fN k X.A)(c:vJ K E X (e::es) tr fr)(d:j<=k:=by decide)(i:Gl X x:=by rfl)
  (a:(x==("__debug__" : Str))=false:=by decide) (f:starEach (e::es) X.env=(false,eval e X.env)::starEach es X.env:=by rfl) (b:(backTo pos (starEach es X.env)).any (·.1)=false:=by rfl) :
  Pm K E X (.Call (.Name x p) (e::es) [] pos) (oZ (l6 K Fn) [] E0 tr) (eA fr Fn):=⟨uZ (h.mono d) g zB c.pa i a f b,vz c.ma⟩
end
end L3
namespace L3
open PySem L2 PySem.Spec PyProof.Rows
def J9(t:TE)(b:L2.St)(H:Hp)(v:V):Prop:=∀Q:VK,(∀a,eJ H a->Q v a)->t b H Q
def HP(t:TA)(b:L2.St)(H:Hp)(vs:List V):Prop:=∀Q:List V->Hp->Prop,(∀a,eJ H a->Q vs a)->t b H Q
section
variable {K:W.Frag}{σ:L2.St}{H:Hp}{i:Nat}{ea C D:Addr}{b:Bool}{t:TE}{u:TA}{v:V}{vs:List V}
def jz(a:σ[i]? = some (some (.ref ea)))(x:rK K C)(k:W.kitOne K (.ref C) (.ref D)=some b):J9 (zq (Gv K ea C) (iA (jN i) (iA (tC (.ref D)) kH))) σ H (.bl b):=λQ q=>⟨_,a,_,b,rfl,x,.own k,q H (.refl _)⟩
def qd:HP kH σ H []:=λQ q=>q H (.refl _)
def iO(h:J9 t σ H v)(e:∀c,eJ H c->HP u σ c vs):HP (iA t u) σ H (v::vs):=λQ q=>h _ λd a=>e d a _ λg f=>q g (a.trans f)
end
end L3
namespace L3
open PySem L2 PySem.Spec PyProof.Rows
section
variable {K:W.Frag}{H0 H:Hp}{σ:L2.St}{z w:TS}{D:lB}{i j:Nat}{p ea Ca:Addr}{xs vs:List V}{v:V}{u:TA}{te:TE}
def BW(h:HP u σ H vs)(c:vs.length<=sizeLine)(k:∀a p,eJ H a->H p=none->a p=some (.lst vs)->z D (σ.set j (some (.ref p))) a):mU (j1 (Ay u) (gJ j)) z D σ H:=h _ λa s=>⟨c,λp b=>k (gI a p (.lst vs)) p (s.trans (fz b)) (eU s b) eE⟩
def Ct(f:σ[i]? = some (some (.ref p)))(d:H p=some (.lst xs))(h:HP u σ H vs)(g:xs.length+vs.length<=sizeLine)(k:∀c p,eJ H c->H p=none->c p=some (.lst (xs++vs))->z D (σ.set j (some (.ref p))) c) :
  mU (j1 (oq E3 (jN i) (Ay u)) (gJ j)) z D σ H:=
 ⟨_,f,h _ λl a=>⟨by omega,λq b=>⟨p,q,xs,vs,rfl,rfl,by rw[eF (eX (a _ _ d) b)];exact a _ _ d,eE,g,λr e=>k _ r ((a.trans (fz b)).trans (fz e)) (eU (a.trans (fz b)) e) eE⟩⟩⟩
def Gs(e:σ[i]? = some (some (.ref p)))(a:H p=some (.lst xs))(h:J9 te σ H v)(f:xs.length<sizeLine)(k:∀c,eJ H c->z D σ (gI c p (.lst (xs++[v])))):mU (mP (Bu K i te)) z D σ H:=⟨_,e,.inl ⟨rfl,xs,.inl (.inl a)⟩,h _ λd b=>⟨p,xs,v,rfl,rfl,b _ _ a,f,k d b⟩⟩
theorem tG(bs:List Bool):sM K H (bs.map V.bl) (bs.map PyData.bool)
 :=match bs with
 |[]=>.nil
 |b::bs=>.cons (.bl b) (tG bs)
theorem ub:∀bs:List Bool,PyData.canLayAll0 (bs.map PyData.bool)=true
 |[]=>rfl
 |b::bs=>by rw[bE,PyData.canLayAll0,ub bs];rfl
def tu(bs:List Bool):(bs.map PyData.bool).map (λd=>PyData.eqv d (.bool true))=bs:=by rw[aH];refine (cT λb _=>?_).trans (List.map_id bs);cases b<;>rfl
def GD{bs:List Bool}(c:σ[i]? = some (some (.ref p)))(a:H p=some (.lst (bs.map V.bl)))(b:bs.countP id=1)(k:z D σ H):mU (vA (qU (oq Kv (IX K (jN i) (iA (tC (.bl true)) kH)) (tC (.int 1)))) w nF) z D σ H:=by
 refine⟨_,c,p,rfl,⟨_,.inl (.inl a)⟩,.bl true,.bool true,bs.map PyData.bool,_,rfl,.inl (.inl a),.bl true,tG bs,⟨rfl,ub bs,by decide⟩,?_⟩;have e:(bs.map PyData.bool).countP (λd=>PyData.eqv d (.bool true))=1:=by have e:=congrArg (List.countP id) (tu bs);rw[cq]at e;exact e.trans b
 rw[e];exact⟨rfl,false,rfl,k⟩
def IS{bs:List Bool}{q:Addr}{m n:Nat}(d:σ[i]? = some (some (.ref p)))(a:H p=some (.lst (bs.map V.bl)))(g:σ[j]? = some (some (.ref q)))(b:H q=some (.lst vs))(e:bs[m]? = some true)(f:∀l,l<m->bs[l]? = some false)(c:lQ vs (m:Int)=some v)(k:z D (σ.set n (some v)) H) :
  mU (j1 (oq (HW K) (jN j) (Jt K (jN i) (iA (tC (.bl true)) kH))) (gJ n)) z D σ H:=
 ⟨_,g,_,d,p,rfl,⟨_,.inl (.inl a)⟩,.bl true,.bool true,bs.map PyData.bool,_,m,rfl,.inl (.inl a),.bl true,tG bs,⟨rfl,ub bs,by decide⟩,by rw[tu];exact e,λl h=>by rw[tu];exact f l h,.inl ⟨q,vs,m,v,rfl,rfl,.inl (.inl b),c,k⟩⟩
def IU{x y:Str}(b:σ[i]? = some (some (.str x)))(a:x≠y)(k:z D σ H):mU (vA (qU (oq Kx (jN i) (tC (.str y)))) w nF) z D σ H:=⟨_,b,rfl,false,by rw[aA (by intro q;cases q;exact a rfl)],k⟩
theorem vK:∀(a:List Str) (H:Hp),HP ((a.map λy=>tC (.str y)).foldr iA kH) σ H (a.map V.str)
 |[],_=>qd
 |_::a,H=>iO (λ_ q=>q H (.refl _)) λb _=>vK a b
end
end L3
namespace L3
open PySem L2 PySem.Spec PyProof.Rows
section
variable {K:W.Frag}{H H':Hp}{p A Cut:Addr}{o:HO}{y:Str}{i:Nat}
def ze(s:eJ H H')(n:H p=none):eJ H (gI H' p o):=λb u e=>by rw[eF (eX e n)];exact s b u e
def Hr(A:Addr)(y:Str):Addr->Hd:=λC=>if C=A then .ret y else .no
def HH(b:W.mroIn K A (.ref Cut)=some true):∀C,Hr A y C≠.no->W.mroIn K C (.ref Cut)=some true/\∀l z,Hr A y C=.set l z->i≠l:=λC h=>by
 unfold Hr at h ⊢;by_cases a:C=A
 .subst a;exact⟨b,λl z e=>by rw[aP rfl]at e;cases e⟩
 .exact absurd (by rw[aQ a]) h
def Gf{a:Addr->L2.St}(d:∀ea,(a ea)[i]? = some (some (.ref ea))):∀C ea H D,H ea=none->(Hr A y C).ok D (a ea) H->(zO (λa H Q=>iA (jN i) kH a H λvs c=>vs=[.ref ea]/\(C=A/\∀H',eJ c H'->Q (.str y) H'))) D (a ea) H:=λC ea H D _ q=>by
 unfold Hr at q;by_cases b:C=A
 .rw[aP b]at q;exact⟨_,d ea,rfl,b,q⟩
 .rw[aQ b]at q;exact q.elim
end
end L3
namespace L3
open PySem L2
def Kt(a:fN (k+1) A):A.units+3+200<cLine:=by have:=a.un;omega
end L3
namespace L3
open PySem L2
section
open PySem.W
variable {K:W.Frag}{E:XK}{X:Cx}
def pN.im{a it:Expr}{w:TI}{f:Pe->M (List T)}(h:pN K E X a it w f):CH K E X a it w f:=⟨h.pi,h.mi.mi⟩
end
end L3
namespace L3
open PySem L2
def ET(j:Nat)(a:Addr)(bs:List (Addr×List V)):List (Nat×Addr×List V):=(j,a,bs.map λb=>V.ref b.1)::bs.map λb=>(j,b)
structure EH(K:W.Frag)(F0:Fz)(H0 F H:Hp)(σ:St)(ρ:En)(j:Nat)(tss:List (List T))(a:Addr)(bs:List (Addr×List V)):Prop where
 r:Sr K ⟨F0.hp,ET j a bs++F0.lt⟩ H0 F H σ ρ
 e:ρ[j]? = some none
 p:Paired (λ(b:Addr×List V) ts=>eP K F b.2 ts) bs tss
 nd:(a::bs.map (·.1)).Nodup
 far:∀e'∈F0.lt,e'.2.1∉a::bs.map (·.1)
noncomputable def Ns(K:W.Frag)(d:Fz)(e F H:Hp)(c:St)(ρ:En)(j:Nat)(b:List (List T)):Prop:=∃a bs,EH K d e F H c ρ j b a bs
inductive mq where
 |bad|nx (ρ:En) (tss:List (List T))|ct (ρ:En) (tss:List (List T))|er (C:Addr) (n:Oq Int)
section
variable (K:W.Frag)(E:XK)
def Ku(e:Fz)(f F:Hp)(D:St->Hp->Prop)(ρ:En)(j:Nat)(b:List (List T)):Prop:=∀c d a,eJ F c->Ns K e f c d a ρ j b->D a d
def mq.res(j:Nat)(o:mq)(a:Fz)(b F:Hp)(D:lB):Prop:=match o with
 |.bad=>False
 |.nx ρ tss=>Ku K a b F D.nx ρ j tss
 |.ct ρ tss=>Ku K a b F D.ct ρ j tss
 |.er C n=>kE E a.hp b C n
def yt(j:Nat)(t:TS)(g:En->List (List T)->mq):Prop:=∀d e F H b c a D,Ns K d e F H b c j a->(g c a).res K E j d e F D->t D b H
end
section
variable {K:W.Frag}{E:XK}{j:Nat}{F0:Fz}{H0 F H F1 H1:Hp}{σ:St}{ρ:En}{D:lB}
def mq.res.go{o:mq}(h:o.res K E j F0 H0 F D)(s:eJ F F1):o.res K E j F0 H0 F1 D:=by
 cases o with
 |bad=>exact h
 |nx ρ tss=>exact λb d a c r=>h b d a (s.trans c) r
 |ct ρ tss=>exact λb d a c r=>h b d a (s.trans c) r
 |er C n=>exact h
def EH.grow{b:List (List T)}{a:Addr}{bs:List (Addr×List V)}(n:EH K F0 H0 F H σ ρ j b a bs)(g:Gr F H F1 H1):EH K F0 H0 F1 H1 σ ρ j b a bs:=⟨n.r.grow g,n.e,Paired.imp' (λ_ _ q=>q.mono g.ff) n.p,n.nd,n.far⟩
@[simp] noncomputable def jX(j:Nat)(g:En->O):En->List (List T)->mq:=λρ a=>match g ρ with
 |.nx ρ'=>(match ρ'[j]? with
  |some none=>.nx ρ' a
  |_=>.bad)
 |.ct ρ'=>(match ρ'[j]? with
  |some none=>.ct ρ' a
  |_=>.bad)
 |.er C n=>.er C n
 |_=>.bad
def AA{t:TS}{g:En->O}(h:MS K E t g):yt K E j t (jX j g):=λF0 H0 F H σ ρ tss D ⟨a,bs,n⟩ q=>by
 refine h ⟨F0.hp,ET j a bs++F0.lt⟩ H0 F H σ ρ D n.r ?_;unfold jX at q;cases e:g ρ with
 |nx ρ'=>
  rw[e]at q;dsimp only at q;split at q
  .rename_i f;exact λc d b s r=>q c d b s ⟨a,bs,r,f,Paired.imp' (λ_ _ q=>q.mono s) n.p,n.nd,n.far⟩
  .exact q.elim
 |ct ρ'=>
  rw[e]at q;dsimp only at q;split at q
  .rename_i f;exact λc d b s r=>q c d b s ⟨a,bs,r,f,Paired.imp' (λ_ _ q=>q.mono s) n.p,n.nd,n.far⟩
  .exact q.elim
 |er C n=>rw[e]at q;exact q
 |bad=>rw[e]at q;exact q
 |rt t=>rw[e]at q;exact q.elim
 |rf ts=>rw[e]at q;exact q.elim
 |rn ts us=>rw[e]at q;exact q.elim
 |bk ρ=>rw[e]at q;exact q.elim
@[simp] def nL(a b:En->List (List T)->mq):En->List (List T)->mq:=λρ c=>match a ρ c with
 |.nx ρ' tss'=>b ρ' tss'
 |o=>o
def DB{t u:TS}{a b:En->List (List T)->mq}(f:yt K E j t a)(i:yt K E j u b):yt K E j (mU t u) (nL a b):=λF0 H0 F H σ ρ c D n q=>by
 refine f F0 H0 F H σ ρ c _ n ?_;unfold nL at q;cases e:a ρ c with
 |nx ρ' tss'=>rw[e]at q;exact λg h d s k=>i F0 H0 g h d ρ' tss' D k (q.go s)
 |bad=>rw[e]at q;exact q
 |ct ρ c=>rw[e]at q;exact q
 |er C n=>rw[e]at q;exact q
@[simp] noncomputable def A2(e:Pe->M Bool)(a b:En->List (List T)->mq):En->List (List T)->mq:=λρ d=>match e (vw ρ) with
 |.ok c=>if c then a ρ d else b ρ d
 |.er C n=>.er C n
 |.bad=>.bad
def FK{t u:TS}{c:TT}{f:Pe->M Bool}{a b:En->List (List T)->mq}(y:MT K E c f)(s:yt K E j t a)(z:yt K E j u b):yt K E j (vA c t u) (A2 f a b):=λF0 H0 F H σ ρ tss D ⟨x,bs,n⟩ q=>by
 obtain⟨w,A,h,V,d⟩:=n.r.lend;unfold A2 at q;refine y w H σ (vw ρ) _ h.fh V ?_;cases e:f (vw ρ) with
 |bad=>rw[e]at q;exact q
 |er C m=>rw[e]at q;exact kE.go q h
 |ok c=>
  rw[e]at q;intro v k g;obtain⟨o,p,i,_⟩:=d v k g;have l:Ns K F0 H0 o k σ ρ j tss:=⟨x,bs,n.grow p⟩;cases c with
  |true=>exact s _ _ _ _ _ _ _ _ l (mq.res.go q i)
  |false=>exact z _ _ _ _ _ _ _ _ l (mq.res.go q i)
def Sr.relt{t:Hp}{L m:List (Nat×Addr×List V)}{k:Nat}{p:Addr}{xs n:List V}(r:Sr K ⟨t,L⟩ H0 F H σ ρ)(y:(k,p,xs)∈L)(g:∀e∈m,Lv H0 F (gI H p (.lst n)) σ ρ e)
  (c:∀i l vs,m.lookup i=some (l,vs)->∃a,L.lookup i=some (l,a)):Sr K ⟨t,m⟩ H0 F (gI H p (.lst n)) σ ρ:=by
 obtain⟨x,J,P⟩:=r.ov;have M:=r.lv _ y;refine⟨⟨r.gr.ff,λb u q=>?_,λb u q=>?_,r.gr.nw⟩,r.len,r.pv,⟨x,λi o q=>?_,P⟩,g,λi l vs N q=>?_,r.dv.heap (.refl _) λb n v _=>⟨by assumption,?_⟩⟩
 .rw[eF (eX q M.f)];exact r.gr.fh b u q
 .rw[eF (eX q M.z)];exact r.gr.hh b u q
 .obtain⟨s,I,B,a,C,A⟩:=J i o q;exact⟨s,I,B,a,by rw[eF (λw=>M.d i o q (by rw[s,w]))];exact C,A⟩
 .obtain⟨a,e⟩:=c i l vs N;exact r.sl i l a e q
 .rw[eF (λw=>by have:=M.h;dsimp only at this;rw[<-w,v]at this;cases this)];exact v
def mT{a:Addr}{bs:List (Addr×List V)}{L:List (Nat×Addr×List V)}{i:Nat}:(ET j a bs++L).lookup i=if i=j then some (a,bs.map λb=>V.ref b.1) else L.lookup i:=by
 unfold ET;rw[cU,b0];by_cases h:i=j
 .rw[aP h,beq_iff_eq.mpr h]
 .rw[aQ h];have c:(i==j)=false:=by simpa using h
  rw[c];dsimp only;induction bs with
  |nil=>rfl
  |cons b bs ih=>rw[bE,cU,b0,c];exact ih
def EH.out{c:List (List T)}{a:Addr}{bs:List (Addr×List V)}(n:EH K F0 H0 F H σ ρ j c a bs):σ[j]? = some (some (.ref a))/\H a=some (.lst (bs.map λb=>V.ref b.1)):=⟨n.r.sl j a _ (by dsimp only;rw[mT,aP rfl]) n.e,(n.r.lv (j,a,_) (ax _ bh)).h⟩
theorem m5{b a:Type}{R:b->a->Prop}:∀{xs ys},Paired R xs ys->xs.length=ys.length
 |_,_,.nil=>rfl
 |_,_,.cons _ r=>by rw[ay,ay,m5 r]
theorem qo{d c:Type}{R:d->c->Prop}{b:List d}{a:List c}(q:Paired R b a):∀{xs ys},Paired R xs ys->Paired R (xs++b) (ys++a)
 |_,_,.nil=>q
 |_,_,.cons h r=>.cons h (qo q r)
theorem sT{c a:Type}{R:c->a->Prop}:∀{xs ys} {i:Nat} {y:a},Paired R xs ys->ys[i]? = some y->∃x,xs[i]? = some x/\R x y
 |_,_,_,_,.nil,e=>by simp at e
 |_,_,0,_,.cons h _,e=>by simp at e;subst e;exact⟨_,rfl,h⟩
 |_,_,i+1,_,.cons _ r,e=>by obtain⟨v,b,h⟩:=sT r (by simpa using e);exact⟨v,by simpa using b,h⟩
theorem qR{b a:Type}{R:b->a->Prop}{x:b}{y:a}(q:R x y):∀{xs ys} (i:Nat),Paired R xs ys->Paired R (xs.set i x) (ys.set i y)
 |_,_,_,.nil=>.nil
 |_,_,0,.cons _ r=>.cons q r
 |_,_,i+1,.cons h r=>.cons h (qR q i r)
@[simp] noncomputable def qQ(f:Pe->M (List T)):En->List (List T)->mq:=λρ a=>match f (jY ρ) with
 |.ok us=>if a.length<sizeLine then .nx ρ (a++[us]) else .bad
 |.er C n=>.er C n
 |.bad=>.bad
def Ai{t:TE}{f:Pe->M (List T)}(h:MF K E t f):yt K E j (mP (Bu K j t)) (qQ f):=λF0 H0 F H σ ρ tss D ⟨a,bs,n⟩ q=>by
 obtain⟨o1,o2⟩:=n.out;refine⟨_,o1,xj o2,?_⟩;unfold qQ at q;refine h F H σ (jY ρ) _ n.r.gr.fh n.r.vars ?_;cases e:f (jY ρ) with
 |bad=>rw[e]at q;exact q
 |er C m=>rw[e]at q;exact kE.go q n.r.gr
 |ok us=>
  rw[e]at q;dsimp only at q;split at q
  .rename_i hl;intro l ws P H' g N hf hv hr;have I:=n.grow g;obtain⟨o3,o4⟩:=I.out;have u:∀e∈ET j a bs++F0.lt,e.2.1≠l:=λe c w=>by have:=(n.r.lv e c).h;rw[w,N]at this;cases this
   refine⟨a,_,.ref l,rfl,rfl,o4,by rw[aw,m5 n.p];exact hl,q P _ σ g.ff ⟨a,bs++[(l,ws)],?_,n.e,qo (R:=λ(b:Addr×List V) Q=>eP K P b.2 Q) (.cons hr .nil) I.p,?_,?_⟩⟩
   .refine I.r.relt (k:=j) (xs:=bs.map λb=>V.ref b.1) (ax _ bh) (λe c=>?_) λi l' vs s=>?_
    .have S:∀e∈bs.map (λb=>(j,b))++F0.lt,e.2.1≠a:=λe c w=>by
      rcases ai.mp c with q|q
      .obtain⟨b,J,rfl⟩:=aC.mp q;exact (bJ.mp n.nd).1 (w▸aC.mpr ⟨b,J,rfl⟩)
      .exact n.far e q (w▸bh)
     have B:∀e∈bs.map (λb=>(j,b))++F0.lt,Lv H0 P (gI H' a (.lst ((bs.map λb=>V.ref b.1)++[.ref l]))) σ ρ e:=λe c=>by have L:=I.r.lv e (by unfold ET;exact bj _ c);exact⟨by rw[eF (S e c)];exact L.h,L.f,L.z,L.d⟩
     have U:=I.r.lv (j,a,bs.map λb=>V.ref b.1) (ax _ bh);unfold ET at c;rw[cU,aY,aY,bT]at c;rcases aE.mp c with rfl|c
     .exact⟨eE,U.f,U.z,U.d⟩
     .rcases ai.mp c with o|c
      .exact B e (ax _ o)
      .rcases ai.mp c with o|o
       .rw[bE,bX,aj]at o;subst o;refine⟨by rw[eF (λw=>u _ (ax _ bh) w.symm)];exact hv,hf,eU n.r.gr.hh N,λi Q hi w=>?_⟩;obtain⟨ad,h1,_⟩:=n.r.ov;obtain⟨a1,_,_,vs1,Z,_⟩:=h1 i Q hi;rw[a1]at w;have w':ad i=l:=by simpa using w
        rw[w',N]at Z;cases Z
       .exact B e (bA _ o)
    .rw[mT]at s ⊢;split at s
     .rename_i v;cases s;exact⟨_,aP v⟩
     .rename_i v;exact⟨vs,by rw[aQ v];exact s⟩
   .rw[aY,<-cU];refine List.nodup_append.mpr ⟨n.nd,by simp,λx hx y Y w=>?_⟩;simp only[bE,bX,aj]at Y;subst Y;rcases aE.mp hx with o|o
    .exact u _ (ax _ bh) (o▸w)
    .obtain⟨b,J,e3⟩:=aC.mp o;exact u (j,b) (ax _ (bj _ (aC.mpr ⟨b,J,rfl⟩))) (e3.trans w)
   .intro X c A;rw[aY,<-cU]at A;rcases ai.mp A with o|o
    .exact n.far X c o
    .simp only[bE,bX,aj]at o;exact u X (bA _ c) o
  .exact q.elim
@[simp] noncomputable def qe(b f:Pe->M T):En->List (List T)->mq:=λρ a=>match b (jY ρ) with
 |.ok (.int k)=>(match qA a.length k with
  |some i=>(match a[i]? with
   |some ts=>(match f (jY ρ) with
    |.ok t=>if ts.length<sizeLine then .nx ρ (a.set i (ts++[t])) else .bad
    |.er C n=>.er C n
    |.bad=>.bad)
   |none=>.bad)
  |none=>.bad)
 |.er C n=>.er C n
 |_=>.bad
theorem nV{c a e:Type}{f:c×a->e}(d:∀x y z,f (x,y)=f (x,z)):∀{bs:List (c×a)} {i:Nat} {b:c×a} {z:a},bs[i]? = some b->(bs.set i (b.1,z)).map f=bs.map f
 |[],_,_,_,h=>by simp at h
 |x::bs,0,b,z,h=>by
  have:x=b:=by simpa using h
  subst this;simp only[List.set_cons_zero,bE];rw[d x.1 z x.2]
 |x::bs,i+1,b,z,h=>by simp only[List.set_cons_succ,bE];rw[nV d (by simpa using h)]
def Bw{tk te:TE}{P f:Pe->M T}(hk:ME K E tk P)(l:ME K E te f):yt K E j (mP (JB K "list" nH (oq (HW K) (jN j) tk) (iA te kH))) (qe P f):=λF0 H0 F H σ ρ tss D ⟨a,bs,n⟩ q=>by
 obtain⟨o1,o2⟩:=n.out;refine⟨_,o1,hk F H σ (jY ρ) _ n.r.gr.fh n.r.vars ?_⟩;unfold qe at q;cases J:P (jY ρ) with
 |bad=>rw[J]at q;exact q
 |er C m=>rw[J]at q;exact kE.go q n.r.gr
 |ok kt=>
  rw[J]at q;intro v F1 H1 g1 rv;cases kt with
  |int k=>
   dsimp only at q;rw[rv.int_inv];cases Z:qA tss.length k with
   |none=>rw[Z]at q;exact q.elim
   |some i=>
    rw[Z]at q;dsimp only at q;cases X:tss[i]? with
    |none=>rw[X]at q;exact q.elim
    |some ts=>
     rw[X]at q;dsimp only at q;have o:=n.grow g1;obtain⟨b,y,rb⟩:=sT o.p X;obtain⟨o3,o4⟩:=o.out;have c:b∈bs:=cV.mpr ⟨i,y⟩;have Lb:=o.r.lv (j,b) (ax _ (bj _ (aC.mpr ⟨b,c,rfl⟩)));refine .inl ⟨a,_,k,.ref b.1,rfl,rfl,jR.of o4,?_,xj Lb.h,l F1 H1 σ (jY ρ) _ o.r.gr.fh o.r.vars ?_⟩
     .unfold lQ;rw[aw,m5 n.p,Z];show (bs.map λb=>V.ref b.1)[i]? = _;rw[av,y];rfl
     cases S:f (jY ρ) with
     |bad=>rw[S]at q;exact q
     |er C m=>rw[S]at q;exact kE.go q o.r.gr
     |ok t=>
      rw[S]at q;dsimp only at q;split at q
      .rename_i hl;intro w F2 H2 U rw2;have u:=o.grow U;have L2:=u.r.lv (j,b) (ax _ (bj _ (aC.mpr ⟨b,c,rfl⟩)));have A:eP K F2 b.2 ts:=rb.mono U.ff;have m1:(bs.set i (b.1,b.2++[w])).map (λb=>V.ref b.1)=bs.map λb=>V.ref b.1:=nV (λ_ _ _=>rfl) y;have m2:(bs.set i (b.1,b.2++[w])).map (·.1)=bs.map (·.1):=nV (λ_ _ _=>rfl) y;have nb:a≠b.1:=λz=>(bJ.mp n.nd).1 (z▸aC.mpr ⟨b,c,rfl⟩);refine⟨b.1,b.2,w,rfl,rfl,L2.h,by rw[A.length];exact hl,q F2 _ σ (g1.ff.trans U.ff) ⟨a,bs.set i (b.1,b.2++[w]),?_,n.e,qR (R:=λ(b:Addr×List V) ts=>eP K F2 b.2 ts) (A.append (.cons rw2 .nil)) i u.p,by rw[m2];exact n.nd,by rw[m2];exact n.far⟩⟩;refine u.r.relt (k:=j) (xs:=b.2) (ax _ (bj _ (aC.mpr ⟨b,c,rfl⟩))) (λe l=>?_) λi' l' vs g=>?_
       .unfold ET at l;rw[m1,cU]at l;rcases aE.mp l with rfl|l
        .have L:=u.r.lv (j,a,bs.map λb=>V.ref b.1) (ax _ bh);exact⟨by rw[eF nb];exact L.h,L.f,L.z,L.d⟩
        .rcases ai.mp l with B|B
         .obtain⟨x,hx,rfl⟩:=aC.mp B;obtain⟨p,I⟩:=cV.mp hx;rcases eT I with⟨rfl,rfl⟩|⟨Y,I⟩
          .exact⟨eE,L2.f,L2.z,L2.d⟩
          .have L:=u.r.lv (j,x) (ax _ (bj _ (aC.mpr ⟨x,cV.mpr ⟨p,I⟩,rfl⟩)));have Q:x.1≠b.1:=λz=>by
            have nd:=(bJ.mp n.nd).2;have h1:(bs.map (·.1))[p]? = some b.1:=by rw[av,I,<-z];rfl
            have h2:(bs.map (·.1))[i]? = some b.1:=by rw[av,y];rfl
            have N:p<(bs.map (·.1)).length:=(aa.mp h1).1;exact Y ((List.getElem?_inj N nd).mp (h1.trans h2.symm))
           exact⟨by rw[eF Q];exact L.h,L.f,L.z,L.d⟩
         .have L:=u.r.lv e (bA _ B);have Q:e.2.1≠b.1:=λz=>n.far e B (z▸bj _ (aC.mpr ⟨b,c,rfl⟩));exact⟨by rw[eF Q];exact L.h,L.f,L.z,L.d⟩
       .rw[mT]at g ⊢;split at g
        .rename_i s;cases g;exact⟨_,aP s⟩
        .rename_i s;exact⟨vs,by rw[aQ s];exact g⟩
      .exact q.elim
  |_=>exact q.elim
def Sr.takeL{B:Hp}{a:Addr}{xs:List V}{b:Addr×List V}{L:List (Nat×Addr×List V)}(r:Sr K ⟨B,(j,a,xs)::(j,b)::L⟩ H0 F H σ ρ)(k:∀e∈(j,a,xs)::L,e.2.1≠b.1):Sr K ⟨B,(j,a,xs)::L⟩ H0 (gI F b.1 (.lst b.2)) H σ ρ:=by
 have M:=r.lv (j,b) (bj _ bh);have y:F b.1=none:=M.f;have s:=fz (o:=.lst b.2) y;obtain⟨C,S,U⟩:=r.ov;refine⟨r.gr.take M.h y M.z,r.len,λi t q=>?_,⟨C,λi u q=>?_,U⟩,λe p=>?_,λi l I c q=>?_,r.dv.heap s λx X n J=>⟨?_,n⟩⟩
 .obtain⟨v,e,z⟩:=r.pv i t q;exact⟨v,e,z.mono s⟩
 .obtain⟨A,R,P,g,Q,N⟩:=S i u q;exact⟨A,by rw[eF (λw=>M.d i u q (by rw[A,w]))];exact R,P,g,Q,N.mono s⟩
 .have L:=r.lv e (by
   rcases aE.mp p with q|q
   .exact q▸bh
   .exact bj _ (bj _ q))
  exact⟨L.h,by rw[eF (k e p)];exact L.f,L.z,L.d⟩
 .refine r.sl i l I ?_ q;dsimp only at c ⊢;rw[b0]at c ⊢;cases m:i==j with
  |true=>rw[m]at c;exact c
  |false=>rw[m]at c;dsimp only at c ⊢;rw[b0,m];exact c
 .rw[eF (λw=>by have:=M.h;dsimp only at this;rw[<-w,n]at this;cases this)];exact J
theorem freeze{m:Hp}{a:Addr}{xs:List V}{L:List (Nat×Addr×List V)}:∀{bs:List (Addr×List V)} {g:List (List T)} {F:Hp},Sr K ⟨m,(j,a,xs)::(bs.map (λb=>(j,b))++L)⟩ H0 F H σ ρ->Paired (λ(b:Addr×List V) ts=>eP K F b.2 ts) bs g->(a::bs.map (·.1)).Nodup->(∀e∈L,e.2.1∉a::bs.map (·.1))->
  ∃k,eJ F k/\Sr K ⟨m,(j,a,xs)::L⟩ H0 k H σ ρ/\eP K k (bs.map λb=>V.ref b.1) (g.map T.lst)
 |[],_,F,r,.nil,_,_=>⟨F,.refl _,r,.nil⟩
 |b::bs,_,F,r,.cons h p,nd,far=>by
  have v:F b.1=none:=(r.lv (j,b) (bj _ bh)).f;have s:=fz (o:=.lst b.2) v;rw[bE]at nd far;have c:=bJ.mp nd;have d:=bJ.mp c.2;have u:=r.takeL λe i w=>by
   rcases aE.mp i with rfl|i
   .exact c.1 (w▸bh)
   .rcases ai.mp i with q|q
    .obtain⟨x,t,rfl⟩:=aC.mp q;exact d.1 (w▸aC.mpr ⟨x,t,rfl⟩)
    .exact far e q (w▸bj _ bh)
  obtain⟨k,l,y,n⟩:=freeze u (Paired.imp' (λ_ _ z=>z.mono s) p) (bJ.mpr ⟨λz=>c.1 (bj _ z),d.2⟩) λe i z=>far e i (by
   rcases aE.mp z with q|q
   .exact q▸bh
   .exact bj _ (bj _ q))
  exact⟨k,s.trans l,y,.cons (.lst (l _ _ eE) (h.mono (s.trans l))) n⟩
def EH.freeze{b:List (List T)}{a:Addr}{bs:List (Addr×List V)}(n:EH K F0 H0 F H σ ρ j b a bs):∃c,eJ F c/\Sr K F0 H0 c H σ (ρ.set j (some (.o (b.map T.lst)))):=by obtain⟨c,s,r,q⟩:=L3.freeze n.r n.p n.nd n.far;exact⟨c,s,r.unhide n.e q λe d w=>n.far e d (w▸bh)⟩
noncomputable def lM(m:T->En->Option En)(g:En->List (List T)->mq)(j:Nat):List T->En->List (List T)->mq
 |[],ρ,tss=>.nx ρ tss
 |t::ts,ρ,tss=>match m t ρ with
  |none=>.bad
  |some ρ1=>match ρ1[j]? with
   |some none=>(match g ρ1 tss with
    |.nx ρ2 tss2=>lM m g j ts ρ2 tss2
    |.ct ρ2 tss2=>lM m g j ts ρ2 tss2
    |o=>o)
   |_=>.bad
theorem wQ{tb:TS}{J:It}{g:TG}{m:T->En->Option En}{I:En->List (List T)->mq}{b:List T}{w:List (List T)}(hg:B3 K g m)(hb:yt K E j tb I)(A:rE K J b F1)(n:Ns K F0 H0 F H σ ρ j w)(s1:eJ F1 F)
  (q:(lM m I j b ρ w).res K E j F0 H0 F D):∃W:Nat->Nat->St->Hp->Prop,(∃m,W 0 m σ H)/\∀i m σ H,W i m σ H->
 (J.stop i H/\D.nx σ H)\/(J.go i H/\∃N:St->Hp->Prop,(∀c h,N c h->∃m',m'<m/\W (i+1) m' c h)/\∀x h,J.yld i H x h->g x σ h λZ H2=>tb {D with nx:=N,ct:=N,bk:=D.nx} Z H2):=by
 refine⟨λi k c h=>i<=b.length/\k=b.length-i/\∃o l f,eJ F1 o/\Ns K F0 H0 o h c l j f/\(lM m I j (b.drop i) l f).res K E j F0 H0 o D,⟨_,bG _,rfl,F,ρ,w,s1,n,by simpa using q⟩,?_⟩
 rintro i k Q Y ⟨hi,rfl,F2,R,u,B,⟨a,bs,S⟩,d⟩
 by_cases t:i<b.length
 .right;refine⟨A.go i Y (B.trans S.r.gr.fh) t,λc h=>∃o l f,eJ F1 o/\Ns K F0 H0 o h c l j f/\(lM m I j (b.drop (i+1)) l f).res K E j F0 H0 o D,λc h z=>⟨b.length-(i+1),by omega,t,rfl,z⟩,λx h y=>?_⟩;have et:=ag t;obtain⟨F3,P,rp⟩:=A.yld i _ F2 Y x h B S.r.gr.fh et y;rw[cI t]at d;unfold lM at d;cases em:m b[i] R with
  |none=>rw[em]at d;exact d.elim
  |some ρ3=>
   rw[em]at d;have X:=S.grow P;refine hg ⟨F0.hp,ET j a bs++F0.lt⟩ H0 F3 h Q R x _ ρ3 _ X.r rp em λc r'=>?_;dsimp only at d;split at d
   .rename_i e3;refine hb F0 H0 F3 h c ρ3 u _ ⟨a,bs,r',e3,X.p,X.nd,X.far⟩ ?_;cases U:I ρ3 u with
    |bad=>rw[U]at d;exact d.elim
    |nx ρ4 tss4=>rw[U]at d;exact λo H'' L s v=>⟨o,ρ4,tss4,(B.trans P.ff).trans s,v,mq.res.go d (P.ff.trans s)⟩
    |ct ρ4 tss4=>rw[U]at d;exact λo H'' L s v=>⟨o,ρ4,tss4,(B.trans P.ff).trans s,v,mq.res.go d (P.ff.trans s)⟩
    |er C n=>rw[U]at d;exact d
   .exact d.elim
 .left;have e:i=b.length:=by omega
  subst e;refine⟨A.stop Y (B.trans S.r.gr.fh),?_⟩;rw[cJ]at d;exact d F2 Y Q (.refl _) ⟨a,bs,S⟩
@[simp] noncomputable def BF(j:Nat):mq->O
 |.nx ρ tss=>.nx (ρ.set j (some (.o (tss.map T.lst))))
 |.er C n=>.er C n
 |_=>.bad
@[simp] noncomputable def nP(b:Pe->M (List T))(j:Nat)(m:T->En->Option En)(g:En->List (List T)->mq):En->O:=λρ=>match ρ[j]? with
 |some (some (.o []))=>.of (b (jY ρ)) λa=>BF j (lM m g j a (ρ.set j none) [])
 |_=>.bad
def E5{k:TS}{w:TI}{h:Pe->M (List T)}{g:TG}{m:T->En->Option En}{b:En->List (List T)->mq}(u:MI K E w h)(I:B3 K g m)(B:yt K E j k b):MS K E (wG w g k) (nP h j m b):=λF0 H0 F H σ ρ D r q=>by
 unfold nP at q;split at q
 .rename_i e;obtain⟨l,L,a,d,z,y,A⟩:=r.hide e;cases z;have x:j<ρ.length:=(aa.mp e).1;have n:EH K F0 H0 F H σ (ρ.set j none) j [] l []:=⟨A,by rw[List.getElem?_set_self x],.nil,by simp,λp t w=>y p t (by simpa using w)⟩;refine u F H σ (jY ρ) _ r.gr.fh r.vars ((O.res_of q).mono (λf z J v o i c=>wQ I B c ⟨l,[],n.grow i⟩ (.refl _) (mq.res.go ?_ i.ff)) λC n z=>z.go r.gr);cases eo:lM m b j f (ρ.set j none) [] with
  |bad=>rw[eo]at z;exact z.elim
  |nx ρ2 tss2=>rw[eo]at z;exact λv o σ' s ⟨a,bs,n2⟩=>let ⟨F2,s2,r2⟩:=n2.freeze;z F2 o σ' (s.trans s2) r2
  |ct ρ2 tss2=>rw[eo]at z;exact z.elim
  |er C m=>rw[eo]at z;exact z
 .exact q.elim
@[simp] def xW:En->List (List T)->mq:=λρ a=>.nx ρ a
def A9:yt K E j nF xW:=λF0 H0 F H σ ρ a D n q=>q F H σ (.refl _) n
end
structure HN(K:W.Frag)(E:XK)(X:Cx)(j:Nat)(st:Stmt)(t:TS)(g:En->List (List T)->mq):Prop where
 ps:PS X st t
 ms:yt K E j t g
structure wB(K:W.Frag)(E:XK)(X:Cx)(j:Nat)(sts:List Stmt)(t:TS)(g:En->List (List T)->mq):Prop where
 ps:nk X sts t
 ms:yt K E j t g
section
variable {K:W.Frag}{E:XK}{X:Cx}{st:Stmt}{jy A B:List Stmt}{t u:TS}{g g':En->List (List T)->mq}
def uX j:wB K E X j [] nF xW:=⟨nB,A9⟩
def jF{j:Nat}(h:HN K E X j st t g):wB K E X j [st] t g:=⟨ll h.ps,h.ms⟩
def jm{j:Nat}(h:HN K E X j st t g)(a:wB K E X j jy u g'):wB K E X j (st::jy) (mU t u) (nL g g'):=⟨gP h.ps a.ps,DB h.ms a.ms⟩
def ke{a:En->O} j (h:pV K E X st t a):HN K E X j st t (jX j a):=⟨h.ps,AA h.ms⟩
def tR{j:Nat}{c:Expr}{d:TT}{b:Pe->M Bool}{a:Pos}(f:wJ K E X c d b)(h:wB K E X j A t g)(e:wB K E X j B u g'):HN K E X j (.If c A B a) (vA d t u) (A2 b g g'):=⟨vf f.pt h.ps e.ps,FK f.mt h.ms e.ms⟩
def uO{w:TI}{d:Pe->M (List T)}{c:TG}{m:T->En->Option En}{a it:Expr}{b:Pos} j (i:PassesOwn (model X.prog X.w) X.A X.env X.xe) (l:X.calm=true) (e:CH K E X a it w d) (h:Hz K X a c m) (f:wB K E X j A t g) (k:∀x,foldedSetIterable it X.env x=pure x:=by intro _;rfl):pV K E X (.For a it A [] b) (wG w c t) (nP d j m g):=⟨wx i l e.pi h.pg f.ps k,E5 e.mi h.mg f.ms⟩
variable {e b:Expr}{te tb:TE}{ff:Pe->M (List T)}{fe fb:Pe->M T}{x:Str}{p p2 apos pos pos':Pos}
def uM j (k:PE X (.Name x p) (jN j)) (i:zV K E X e te ff) (h:starEach [e] X.env=(false,eval e X.env)::starEach [] X.env:=by rfl) (l:X.K=K:=by rfl)
  (c:attributeBase (.Name x p) "append" X.env (eval (.Name x p) X.env)=eval (.Name x p) X.env:=by rfl)
  (d:((backTo pos (starEach [e] X.env)).all (λx=>!x.1)&&(backToKw pos (keywordEach [] X.env)).all (λx=>x.1.isSome)&&decide (([e]:List Expr).length+([]:List Keyword).length+(if ([]:List Keyword).isEmpty then 0 else 1)<30))=true:=by rfl)
  (a:(apos.endLine==pos.line)=true:=by rfl) (hplain:(backTo pos (starEach [] X.env)).any (·.1)=false:=by rfl) (f:swapsWith (.Call (.Attribute (.Name x p) "append" apos) [e] [] pos) none pos'.line X.env=pure false:=by rfl) :
  HN K E X j (.Expr (.Call (.Attribute (.Name x p) "append" apos) [e] [] pos) pos') (mP (Bu K j te)) (qQ ff):=by
 subst l;exact⟨nh (xE PySem.F.plainAttrs_list PySem.F.slot_list_append PySem.F.type_list_append mr k (ez i.pe fQ h) c d a h hplain) f,Ai i.mf⟩
def vN j (m:PE X (.Name x p) (jN j)) (l:Pm K E X b tb fb) (k:Pm K E X e te fe) (f:uy b:=by intro _ _;rfl) (i:starEach [e] X.env=(false,eval e X.env)::starEach [] X.env:=by rfl) (n:X.K=K:=by rfl)
  (c:attributeBase (.Subscript (.Name x p) b p2) "append" X.env (eval (.Subscript (.Name x p) b p2) X.env)=eval (.Subscript (.Name x p) b p2) X.env:=by rfl)
  (d:((backTo pos (starEach [e] X.env)).all (λx=>!x.1)&&(backToKw pos (keywordEach [] X.env)).all (λx=>x.1.isSome)&&decide (([e]:List Expr).length+([]:List Keyword).length+(if ([]:List Keyword).isEmpty then 0 else 1)<30))=true:=by rfl)
  (a:(apos.endLine==pos.line)=true:=by rfl) (hplain:(backTo pos (starEach [] X.env)).any (·.1)=false:=by rfl) (h:swapsWith (.Call (.Attribute (.Subscript (.Name x p) b p2) "append" apos) [e] [] pos) none pos'.line X.env=pure false:=by rfl) :
  HN K E X j (.Expr (.Call (.Attribute (.Subscript (.Name x p) b p2) "append" apos) [e] [] pos) pos') (mP (JB K "list" nH (oq (HW K) (jN j) tb) (iA te kH))) (qe fb fe):=by
 subst n;exact⟨nh (xE PySem.F.plainAttrs_list PySem.F.slot_list_append PySem.F.type_list_append mr (Ci wm m l.pe f) (ez k.pe fQ i) c d a i hplain) h,Bw l.me k.me⟩
end
structure Jl(K:W.Frag)(C:Addr):Prop where
 ha:W.findIn K (.ref C) "__class__" = some (some (.builtin "object.__class__"))
 hn:W.specialIn K (.builtin "object.__class__") "__get__" = some (some (.builtin "getset_descriptor.__get__"))
 ht:W.takesIn K (.builtin "object.__class__")=some true
 hm:W.mroIn K C (.type "object")=some true
section
variable {K:W.Frag}{E:XK}{X:Cx}{e:Expr}{te:TE}{fe:Pe->M T}{C:Addr}{x:Str}{p p3 pos:Pos}
def zm:iN X (.builtin "isinstance") (λxs H Q=>∃x c t b,xs=[x,.ref c]/\lz X.K H x t/\W.kitOne X.K t (.ref c)=some b/\Q (.bl b) H):=by
 intro g s f H xs i Q I r h;obtain⟨x,T,t,b,rfl,a,e,q⟩:=h;cases r with
 |cons r1 r2=>
  cases r2 with
  |cons r3 r4=>cases r4;cases (r3);exact r6 I r1 a e λd=>⟨.bl b,H,I.tok d,rfl,q⟩
@[simp] noncomputable def An(C:Addr)(fe:Pe->M T):Pe->M T:=λa=>(fe a).bind λx=>match x with
 |.obj C' _=>if C'=C then .ok (.bl true) else .bad
 |_=>.bad
def De(d:Jl K C)(I:rq K C)(j:X.mg "isinstance" = none)(k:X.mg x=some (.ref C))(n:Pm K E X e te fe)(z:X.K=K:=by rfl)(l:Gl X "isinstance" :=by rfl)(i:Gl X x:=by rfl)
  (m:(x==("__debug__" : Str))=false:=by decide)
  (o:starEach [e,.Name x p3] X.env=(false,eval e X.env)::starEach [.Name x p3] X.env:=by rfl) (g:starEach [.Name x p3] X.env=(false,eval (.Name x p3) X.env)::starEach [] X.env:=by rfl) (f:(backTo pos (starEach [.Name x p3] X.env)).any (·.1)=false:=by rfl) :
  Pm K E X (.Call (.Name "isinstance" p) [e,.Name x p3] [] pos) (zq (λxs H Q=>∃x c t b,xs=[x,.ref c]/\lz K H x t/\W.kitOne K t (.ref c)=some b/\Q (.bl b) H) (iA te (iA (tC (.ref C)) kH))) (An C fe):=by
 subst z;refine⟨gw zm l j jh (ez n.pe (ez (iF (v:=.ref C) i k rfl m) fQ g) o) (by decide) (by decide) o f,λF H J L Q s V q=>?_⟩;refine n.me.run s V q λy v B D u A a=>?_;cases A with
 |obj h r=>
  dsimp only at a;split at a
  .rename_i w;subst w;exact⟨_,_,_,true,rfl,.ins (u.fh _ _ h) I d.ha d.hn d.ht d.hm,vx _ _,a _ B D u (.bl _)⟩
  .exact a.elim
 |_=>exact a.elim
end
end L3
namespace CL
open PySem L2 L3
structure Cs where
 Cutting:Addr
 Desk:Addr
 CutError:Addr
 NoCutting:Addr
 NoTable:Addr
 NoFraction:Addr
 NoSpot:Addr
 NoSigns:Addr
 NoLand:Addr
 NoFace:Addr
 NoNumber:Addr
 NoText:Addr
 NoDeed:Addr
def nZ(c:Cs):En->O:=(eN (setO 2 (gY (ey ou (dW 0) (dW 1))))
  (eN (setO 0 (gY (dW 1)))
  (setO 1 (gY (dW 2)))))
def oU(c:Cs):En->O:=(eN (λa=>js (fH (ey (eQ true) (dW 1) (cM (.int 0)))) (nZ c) ((λa=>match a with|_::some (.p (.int j))::_=>j.natAbs+1|_=>0) a) a)
  (fK (i7 uR (dX (dW 0) d8))))
def fv(c:Cs):List T->M T:=jK 2 3 (oU c)
def kD(c:Cs):En->O:=(eN (kC (fH (ey HY (dW 1) (i7 iL (dX (dW 0) d8)))) (fK (ey fG (dW 0) (dW 1))) fM)
  (fK (cM (.int 0))))
def gF(c:Cs):List T->M T:=jK 2 2 (kD c)
def rT(c:Cs):En->O:=(EO 0 1 (dX (dW 1) (dX (ey ou (dW 0) (dW 1)) d8)))
def tM(c:Cs):En->O:=(eN (setO 0 (gY (i7 uR (dX (dW 0) d8))))
  (eN (setO 1 (gY (i7 uR (dX (dW 1) d8))))
  (eN (λa=>js (fH (ey xI (dW 1) (cM (.int 0)))) (rT c) ((λa=>match a with|_::some (.p (.int j))::_=>j.natAbs+1|_=>0) a) a)
  (fK (dW 0)))))
def hI(c:Cs):List T->M T:=jK 2 2 (tM c)
def wa(c:Cs):En->O:=(fK (zK (oH "int" (dW 0)) (Cr (oH "bool" (dW 0)))))
def fw(c:Cs):List T->M T:=jK 1 1 (wa c)
def rk(c:Cs):En->O:=(fK (zK (eA (dX (dW 0) d8) (fw c)) (Jy Jn HY (cM (.int 0)) (dW 0) (dW 1))))
def fV(c:Cs):List T->M T:=jK 2 2 (rk c)
def zl(c:Cs):En->O:=(eN (kC (fH (ey xI (dW 0) (cM (.int 0)))) (fK (cM (.int 1))) fM)
  (eN (kC (fH (ey HY (dW 0) (cM (.int 0)))) (fK (rJ (λi=>.int (-i)) (cM (.int 1)))) fM)
  (fK (cM (.int 0)))))
def jw(c:Cs):List T->M T:=jK 1 1 (zl c)
def rD(c:Cs):En->O:=(eN (kC (oz (jI (fH (oH "tuple" (dW 0)))) (fH (ey (eQ true) (i7 iL (dX (dW 0) d8)) (cM (.int 2))))) (fK (cM (.bl false))) fM)
  (eN (kC (oz (jI (fH (eA (dX (ey fG (dW 0) (cM (.int 0))) d8) (fw c)))) (jI (fH (eA (dX (ey fG (dW 0) (cM (.int 1))) d8) (fw c))))) (fK (cM (.bl false))) fM)
  (fK (zK (ey HV (ey fG (dW 0) (cM (.int 1))) (cM (.int 1))) (ey (eQ false) (eA (dX (ey fG (dW 0) (cM (.int 0))) (dX (ey fG (dW 0) (cM (.int 1))) d8)) (fv c)) (cM (.int 1)))))))
def iP(c:Cs):List T->M T:=jK 1 1 (rD c)
def yW(c:Cs):En->O:=(fK (zK (eA (dX (dW 0) d8) (fw c)) (Jy Jn Jn (cM (.int 1)) (dW 0) (cM (.int 3)))))
def ka(c:Cs):List T->M T:=jK 1 1 (yW c)
def qW(c:Cs):Pe->M T:=(eA (dX (dW 0) d8) (iP c))
def yJ(c:Cs):En->O:=(eN (kC (oz (jI (fH (oH "tuple" (dW 1)))) (fH (ey (eQ true) (i7 iL (dX (dW 1) d8)) (dW 0)))) (fK (cM (.bl false))) fM)
  (fK (i7 vV (dX (jj (j4 [none] (iJ (dW 1)) (j3 0) (λ_=>.ok true) (qW c))) d8))))
def kZ(c:Cs):List T->M T:=jK 2 2 (yJ c)
def oE(c:Cs):Pe->M T:=(eA (dX (dW 0) d8) (fw c))
def oX(c:Cs):Pe->M T:=(ey (eQ true) (dW 0) (cM (.int 0)))
def CD(c:Cs):En->O:=(eN (kC (oz (jI (fH (oH "tuple" (dW 1)))) (fH (ey (eQ true) (i7 iL (dX (dW 1) d8)) (ey fR (dW 0) (cM (.int 1)))))) (fK (cM (.bl false))) fM)
  (eN (kC (jI (fH (i7 vV (dX (jj (j4 [none] (iJ (dW 1)) (j3 0) (λ_=>.ok true) (oE c))) d8)))) (fK (cM (.bl false))) fM)
  (fK (i7 vT (dX (jj (j4 [none] (iJ (iH (dW 1) (λ_=>.ok none) (fY (dW 0)))) (j3 0) (λ_=>.ok true) (oX c))) d8)))))
def jg(c:Cs):List T->M T:=jK 2 2 (CD c)
def kf(c:Cs):En->O:=(setO 1 (gY (ey fR (dW 1) (cM (.int 1)))))
def rH(c:Cs):En->O:=(eN (setO 1 (gY (cM (.int 0))))
  (eN (λa=>js (fH (ey (eQ false) (ey fG (dW 0) (dW 1)) (cM (.int 0)))) (kf c) ((λa=>match a with|some (.p (.tup ts))::_=>ts.length+1|_=>0) a) a)
  (fK (dW 1))))
def gh(c:Cs):List T->M T:=jK 1 2 (rH c)
def kJ(c:Cs):Pe->M T:=(ey (eQ false) (ey ia (dW 0) (ey fG (dW 2) (dW 3))) (ey ia (dW 1) (ey fG (dW 4) (dW 3))))
def tZ(c:Cs):En->O:=(eN (setO 2 (gY (eA (dX (dW 0) d8) (gh c))))
  (fK (i7 vV (dX (jj (j4 [none,none,some 1,some 2,some 0] (nj (dX (dW 0) (dX (dW 1) d8))) (rP 2 (jl (j3 0) (jl (j3 1) rO))) (λ_=>.ok true) (kJ c))) d8))))
def gC(c:Cs):List T->M T:=jK 2 3 (tZ c)
def wV(c:Cs):En->O:=(eN (setO 2 (gY (ey fR (ey ia (dW 2) (ey fG (dW 5) (cM (.int 1)))) (ey ia (ey ia (dW 4) (ey fG (dW 5) (cM (.int 0)))) (dW 3)))))
  (setO 3 (gY (ey ia (dW 3) (ey fG (dW 5) (cM (.int 1)))))))
def yT(c:Cs):En->O:=(eN (setO 2 (gY (rJ (λi=>.int (-i)) (ey fG (dW 0) (rJ (λi=>.int (-i)) (cM (.int 1)))))))
  (eN (setO 3 (gY (cM (.int 1))))
  (eN (qZ (nj (dX (iH (dW 0) (λ_=>.ok none) (fY (rJ (λi=>.int (-i)) (cM (.int 1))))) (dX (dW 1) d8))) (ku 2 (fX (jQ 4) (fX (jQ 5) ko))) (wV c))
  (fK (eA (dX (dW 2) d8) (jw c))))))
def kY(c:Cs):List T->M T:=jK 2 6 (yT c)
def lC(c:Cs):Pe->M T:=(eA (dX (dW 0) (dX (dW 1) d8)) (gC c))
def vg(c:Cs):En->O:=(eN (kC (oz (fH (ey HV (i7 iL (dX (dW 1) d8)) (cM (.int 7)))) (jI (fH (eA (dX (dW 0) (dX (dW 2) d8)) (jg c))))) (fK (cM (.bl false))) fM)
  (fK (Cr (i7 vT (dX (jj (j4 [none,some 2] (iJ (dW 1)) (j3 0) (λ_=>.ok true) (lC c))) d8)))))
def i5(c:Cs):List T->M T:=jK 3 3 (vg c)
def lI(c:Cs):En->O:=(eN (kC (jI (fH (eA (dX (dW 0) (dX (dW 2) (dX (dW 3) d8))) (i5 c)))) (λ_=>.bad) fM)
  (ud 2 (gY (i7 iG (dX (dW 3) d8)))))
def qm(c:Cs):En->O:=(eN (kC (oz (jI (fH (eA (dX (dW 0) d8) (ka c)))) (jI (fH (oH "list" (dW 1))))) (λ_=>.bad) fM)
  (eN (kX 2 (m7 (lstM d8)))
  (eN (qZ (iJ (dW 1)) (jQ 3) (lI c))
  (fK (i7 iG (dX (dW 2) d8))))))
def gM(c:Cs):List T->M T:=jK 2 4 (qm c)
def fW(c:Cs):List T->M T:=sZ c.Cutting 2 "own_cuts" "own_dims" (eA (dX (dW 1) (dX (dW 2) d8)) (gM c)) (dW 1)
def qF(c:Cs):En->O:=(fK (rC c.Cutting "own_dims" (dW 0)))
def fB(c:Cs):List T->M T:=jK 1 1 (qF c)
def qk(c:Cs):En->O:=(vI (Fd mV (dX (rC c.Cutting "own_cuts" (dW 0)) d8)))
def fL(c:Cs):List T->M (List T):=EL 1 1 (qk c)
def qp(c:Cs):En->O:=(fK (i7 iL (dX (rC c.Cutting "own_cuts" (dW 0)) d8)))
def gO(c:Cs):List T->M T:=jK 1 1 (qp c)
def oN(c:Cs):Pe->M T:=(eA (dX (dW 0) (dX (dW 1) d8)) (kY c))
def pH(c:Cs):En->O:=(eN (kC (jI (fH (eA (dX (rC c.Cutting "own_dims" (dW 0)) (dX (dW 1) d8)) (kZ c)))) (λ_=>.bad) fM)
  (fK (i7 iG (dX (jj (j4 [none,some 1] (iJ (rC c.Cutting "own_cuts" (dW 0))) (j3 0) (λ_=>.ok true) (oN c))) d8))))
def f7(c:Cs):List T->M T:=jK 2 2 (pH c)
def vL(c:Cs):En->O:=(setO 3 (gY (ey lK (dW 3) (dW 2))))
def vS(c:Cs):En->O:=(eN (kC (fH (ey HV (dW 0) (ey DF (cM (.int 10)) (cM (.int 18))))) (eN (setO 3 (gY (dW 0)))
  (eN (mO (iz (dX (dW 1) d8)) (jQ 4) (vL c))
  (fK (ey ou (dW 3) (dW 2))))) fM)
  (eN (setO 5 (gY (ey ou (ey ia (ey fR (ey fR (ey ou (dW 0) (cM (.int 1000000007))) (ey ia (cM (.int 1009)) (dW 1))) (cM (.int 17))) (cM (.int 69621))) (cM (.int 2147483647)))))
  (eN (setO 5 (gY (ey ou (ey fR (ey fR (ey ia (dW 5) (dW 5)) (ey ia (cM (.int 40503)) (dW 1))) (cM (.int 5))) (cM (.int 2147483629)))))
  (fK (ey ou (ey lK (ey ou (ey ia (dW 5) (cM (.int 48271))) (cM (.int 2147483647))) (cM (.int 32))) (dW 2))))))
def eG(c:Cs):List T->M T:=jK 3 6 (vS c)
def pq(c:Cs):En->O:=(kC (fH (ey (eQ true) (ey ia (ey fG (dW 0) (dW 2)) (ey fG (dW 1) (dW 3))) (ey ia (ey fG (dW 0) (dW 3)) (ey fG (dW 1) (dW 2))))) (fK (cM (.bl false))) fM)
def vd(c:Cs):En->O:=(mO (iz (dX (dW 2) d8)) (jQ 3) (pq c))
def wk(c:Cs):En->O:=(eN (mO (iz (dX (i7 iL (dX (dW 0) d8)) d8)) (jQ 2) (vd c))
  (fK (cM (.bl true))))
def gq(c:Cs):List T->M T:=jK 2 4 (wk c)
def oQ(c:Cs):En->O:=(eN (setO 1 (gY (eA (dX (dW 1) (dX (dW 2) d8)) (fv c))))
  (kC (fH (ey (eQ false) (dW 1) (cM (.int 1)))) (fK (dW 0)) fM))
def yO(c:Cs):Pe->M T:=(ey lK (dW 0) (dW 1))
def CA(c:Cs):En->O:=(eN (setO 1 (gY (cM (.int 0))))
  (eN (qZ (iJ (dW 0)) (jQ 2) (oQ c))
  (eN (kC (fH (ey (eQ false) (dW 1) (cM (.int 0)))) (fK (dW 0)) fM)
  (fK (i7 iG (dX (jj (j4 [none,some 1] (iJ (dW 0)) (j3 0) (λ_=>.ok true) (yO c))) d8))))))
def jG(c:Cs):List T->M T:=jK 1 3 (CA c)
def wy(c:Cs):Pe->M T:=(ey fR (ey ia (dW 2) (dW 0)) (ey ia (dW 3) (dW 1)))
def yG(c:Cs):En->O:=(eN (kC (fH (ey (eQ false) (ey fG (dW 0) (dW 2)) (cM (.int 0)))) (fK (dW 0)) fM)
  (eN (setO 3 (gY (i7 uR (dX (ey fG (dW 1) (dW 2)) d8))))
  (eN (setO 4 (gY (ey ia (rJ (λi=>.int (-i)) (ey fG (dW 0) (dW 2))) (eA (dX (ey fG (dW 1) (dW 2)) d8) (jw c)))))
  (fK (eA (dX (i7 iG (dX (jj (j4 [none,none,some 3,some 4] (nj (dX (dW 0) (dX (dW 1) d8))) (rP 2 (jl (j3 0) (jl (j3 1) rO))) (λ_=>.ok true) (wy c))) d8)) d8) (jG c))))))
def kQ(c:Cs):List T->M T:=jK 3 5 (yG c)
def pJ(c:Cs):En->O:=(fK (ey fR (iH (dW 0) (λ_=>.ok none) (fY (dW 1))) (iH (dW 0) (fY (ey fR (dW 1) (cM (.int 1)))) (λ_=>.ok none))))
def ie(c:Cs):List T->M T:=jK 2 2 (pJ c)
def iq(c:Cs):En->O:=(eN (setO 2 (gY (ey fR (ey ia (dW 2) (ey fG (dW 5) (cM (.int 1)))) (ey ia (ey ia (dW 4) (ey fG (dW 5) (cM (.int 0)))) (dW 3)))))
  (setO 3 (gY (ey ia (dW 3) (ey fG (dW 5) (cM (.int 1)))))))
def oh(c:Cs):Pe->M T:=(ey lN (eA (dX (dW 2) (dX (ey fR (ey fR (cM (.int 4)) (ey ia (cM (.int 4)) (dW 3))) (dW 0)) (dX (ey fR (ey ia (cM (.int 2)) (dW 1)) (cM (.int 1))) d8))) (eG c)) (dW 1))
def om(c:Cs):Pe->M T:=(ey fR (dW 0) (ey ia (dW 2) (dW 1)))
def vH(c:Cs):En->O:=(eN (setO 4 (gY (ey fG (jj (lstM (dX (cM (.int 1)) (dX (cM (.int 2)) (dX (cM (.int 3)) (dX (cM (.int 5)) (dX (cM (.int 1000)) d8))))))) (eA (dX (dW 0) (dX (cM (.int 2)) (dX (cM (.int 5)) d8))) (eG c)))))
  (eN (kX 5 (m7 (j4 [none,some 4,some 0,some 1] (iz (dX (ey fR (dW 2) (cM (.int 1))) d8)) (j3 0) (λ_=>.ok true) (oh c))))
  (eN (setO 6 (gY (eA (dX (dW 0) (dX (ey fR (cM (.int 40)) (dW 1)) (dX (cM (.int 6)) d8))) (eG c))))
  (eN (kC (lO (fH (ey (eQ false) (dW 6) (cM (.int 1)))) (fH (ey (eQ true) (dW 3) (jj (lstM d8))))) (kX 5 (pL (Af (jj (Fd mV (dX (iH (ey fG (dW 3) (eA (dX (dW 0) (dX (ey fR (cM (.int 50)) (dW 1)) (dX (i7 iL (dX (dW 3) d8)) d8))) (eG c))) (λ_=>.ok none) (fY (dW 2))) d8))) (iH (dW 5) (fY (dW 2)) (λ_=>.ok none))))) fM)
  (eN (kC (fH (ey (eQ false) (dW 6) (cM (.int 2)))) (rR 5 (oS (dW 2)) (oS (cM (.int 0)))) fM)
  (eN (kC (lO (fH (ey (eQ false) (dW 6) (cM (.int 3)))) (fH (ey xI (i7 iL (dX (dW 3) d8)) (cM (.int 1))))) (eN (setO 7 (gY (ey fG (dW 3) (eA (dX (dW 0) (dX (ey fR (cM (.int 50)) (dW 1)) (dX (ey lN (i7 iL (dX (dW 3) d8)) (cM (.int 1))) d8))) (eG c)))))
  (eN (setO 8 (gY (ey fR (cM (.int 1)) (eA (dX (dW 0) (dX (ey fR (cM (.int 60)) (dW 1)) (dX (cM (.int 3)) d8))) (eG c)))))
  (kX 5 (m7 (j4 [none,none,some 8] (nj (dX (ey fG (dW 3) (rJ (λi=>.int (-i)) (cM (.int 1)))) (dX (dW 7) d8))) (rP 2 (jl (j3 0) (jl (j3 1) rO))) (λ_=>.ok true) (om c)))))) fM)
  (eN (kC (fH (ey (eQ false) (iH (dW 5) (λ_=>.ok none) (fY (dW 2))) (jj (Bz (jj (lstM (dX (cM (.int 0)) d8))) (dW 2))))) (rR 5 (oS (eA (dX (dW 0) (dX (ey fR (cM (.int 60)) (dW 1)) (dX (dW 2) d8))) (eG c))) (oS (cM (.int 1)))) fM)
  (fK (i7 iG (dX (dW 5) d8))))))))))
def iB(c:Cs):List T->M T:=jK 4 9 (vH c)
def kl(c:Cs):Pe->M T:=(dW 0)
def l9(c:Cs):En->O:=(eN (setO 5 (oS (eA (dX (dW 0) (dX (dW 4) (dX (dW 2) (dX (dW 3) d8)))) (iB c))))
  (kC (fH (ey (eQ false) (jj (j4 [none,some 5] (iJ (dW 3)) (j3 0) (fH (eA (dX (dW 0) (dX (dW 1) d8)) (gq c))) (kl c))) (jj (lstM d8)))) (ud 3 (gY (dW 5))) fM))
def rQ(c:Cs):En->O:=(eN (setO 2 (gY (ey fG (jj (lstM (dX (cM (.int 1)) (dX (cM (.int 2)) (dX (cM (.int 2)) (dX (cM (.int 3)) (dX (cM (.int 3)) d8))))))) (eA (dX (dW 0) (dX (cM (.int 0)) (dX (cM (.int 5)) d8))) (eG c)))))
  (eN (kX 3 (m7 (lstM d8)))
  (eN (mO (iz (dX (eA (dX (dW 0) (dX (cM (.int 1)) (dX (ey fR (dW 1) (cM (.int 1))) d8))) (eG c)) d8)) (jQ 4) (l9 c))
  (fK (mD (dX (dW 2) (dX (dW 3) d8)))))))
def iM(c:Cs):List T->M T:=jK 2 6 (rQ c)
def rY(c:Cs):Pe->M T:=(ey ia (dW 2) (ey lN (ey ia (dW 0) (ey fG (dW 3) (dW 4))) (ey ia (ey fG (dW 5) (dW 4)) (dW 1))))
def tf(c:Cs):En->O:=(setO 5 (gY (eA (dX (dW 5) (dX (dW 6) d8)) (hI c))))
def sS(c:Cs):Pe->M T:=(ey lK (dW 0) (i7 sy (dX (cM (.int 1)) (dX (dW 1) d8))))
def CS(c:Cs):En->O:=(eN (setO 3 (gY (ey fG (jj (lstM (dX (rJ (λi=>.int (-i)) (cM (.int 1))) (dX (cM (.int 1)) d8)))) (i7 qg (dX (ey xI (ey fG (dW 1) (dW 2)) (cM (.int 0))) d8)))))
  (eN (setO 4 (gY (jj (j4 [none,none,some 3,some 1,some 2,some 0] (nj (dX (dW 0) (dX (dW 1) d8))) (rP 2 (jl (j3 0) (jl (j3 1) rO))) (λ_=>.ok true) (rY c)))))
  (eN (setO 4 (gY (ey fR (iH (dW 4) (λ_=>.ok none) (fY (dW 2))) (iH (dW 4) (fY (ey fR (dW 2) (cM (.int 1)))) (λ_=>.ok none)))))
  (eN (setO 5 (gY (cM (.int 0))))
  (eN (qZ (iJ (dW 4)) (jQ 6) (tf c))
  (fK (i7 iG (dX (jj (j4 [none,some 5] (iJ (dW 4)) (j3 0) (λ_=>.ok true) (sS c))) d8))))))))
def jJ(c:Cs):List T->M T:=jK 3 7 (CS c)
def nY(c:Cs):Pe->M T:=(dW 0)
def lr(c:Cs):Pe->M T:=(dW 0)
def lG(c:Cs):En->List (List T)->mq:=(nL (jX 5 (setO 7 (gY (eA (dX (ey fG (dW 1) (dW 6)) (dX (ey fG (dW 1) (dW 2)) (dX (dW 3) d8))) (jJ c)))))
  (nL (jX 5 (uL 8 (pL (j4 [none,some 7,some 4] (iz (dX (i7 iL (dX (dW 4) d8)) d8)) (j3 0) (fH (eA (dX (ey fG (dW 2) (dW 0)) (dX (dW 1) d8)) (gq c))) (lr c)))))
  (nL (A2 (oz (fH (ey (eQ false) (dW 6) (dW 2))) (fH (ey (eQ false) (iH (dW 7) (λ_=>.ok none) (fY (rJ (λi=>.int (-i)) (cM (.int 1))))) (vp (mD (dX (cM (.int 0)) d8)) (ey lN (dW 0) (cM (.int 1))))))) (jX 5 (λa=>.ct a)) xW)
  (A2 (fH (ey (eQ false) (dW 8) (jj (lstM d8)))) (nL (jX 5 (ud 4 (gY (dW 7))))
  (qQ (lstM (dX (dW 6) d8)))) (qe (ey fG (dW 8) (cM (.int 0))) (dW 6))))))
def vy(c:Cs):En->O:=(eN (setO 3 (gY (ey fG (jj (j4 [none,some 1,some 2] (iz (dX (dW 0) d8)) (j3 0) (fH (ey (eQ true) (ey fG (ey fG (dW 1) (dW 2)) (dW 0)) (cM (.int 0)))) (nY c))) (cM (.int 0)))))
  (eN (kX 4 (m7 (lstM d8)))
  (eN (kX 5 (m7 (lstM d8)))
  (eN (nP (iz (dX (i7 iL (dX (dW 1) d8)) d8)) 5 (jQ 6) (lG c))
  (fK (mD (dX (dW 4) (dX (dW 5) d8))))))))
def iZ(c:Cs):List T->M T:=jK 3 9 (vy c)
def yI(c:Cs):En->O:=(eN (setO 2 (gY (eA (dX (dW 0) d8) (gh c))))
  (fK (eA (dX (eA (dX (eA (dX (dW 1) (dX (dW 0) (dX (dW 2) d8))) (kQ c)) (dX (dW 2) d8)) (ie c)) d8) (jG c))))
def jq(c:Cs):List T->M T:=jK 2 3 (yI c)
def kS(c:Cs):En->O:=(kC (fH (eA (dX (dW 3) (dX (dW 1) d8)) (gC c))) (fK (dW 2)) fM)
def pO(c:Cs):En->O:=(eN (qZ (nv (dX (dW 0) d8)) (ku 2 (fX (jQ 2) (fX (jQ 3) ko))) (kS c))
  (fK (cM .non)))
def gz(c:Cs):List T->M T:=jK 2 4 (pO c)
def oG(c:Cs):En->O:=(eN (setO 2 (gY (eA (dX (dW 0) (dX (dW 1) d8)) (hI c))))
  (eN (kC (fH (ey HY (dW 1) (cM (.int 0)))) (setO 2 (gY (rJ (λi=>.int (-i)) (dW 2)))) fM)
  (fK (mD (dX (ey lK (dW 0) (dW 2)) (dX (ey lK (dW 1) (dW 2)) d8))))))
def fS(c:Cs):List T->M T:=jK 2 3 (oG c)
def lW(c:Cs):Pe->M T:=(mD (dX (ey lN (eA (dX (dW 1) (dX (ey fR (cM (.int 90)) (dW 0)) (dX (cM (.int 13)) d8))) (eG c)) (cM (.int 6))) (dX (ey fR (cM (.int 1)) (eA (dX (dW 1) (dX (ey fR (cM (.int 95)) (dW 0)) (dX (cM (.int 3)) d8))) (eG c))) d8)))
def lY(c:Cs):En->O:=(kC (fH (ey (eQ true) (dW 6) (dW 1))) (setO 5 (oS (ey lN (dW 5) (ey ia (ey ia (ey fG (dW 0) (dW 6)) (ey fG (ey fG (dW 4) (dW 6)) (cM (.int 0)))) (ey lK (cM (.int 6)) (ey fG (ey fG (dW 4) (dW 6)) (cM (.int 1)))))))) fM)
def lZ(c:Cs):Pe->M T:=(eA (dX (ey fG (dW 0) (cM (.int 0))) (dX (ey fG (dW 0) (cM (.int 1))) d8)) (fS c))
def rG(c:Cs):En->O:=(eN (kX 4 (m7 (j4 [none,some 2] (iz (dX (dW 3) d8)) (j3 0) (λ_=>.ok true) (lW c))))
  (eN (setO 5 (gY (ey ia (ey fG (dW 0) (dW 3)) (cM (.int 6)))))
  (eN (mO (iz (dX (dW 3) d8)) (jQ 6) (lY c))
  (eN (rR 4 (oS (dW 1)) (oS (mD (dX (dW 5) (dX (ey ia (cM (.int 6)) (ey fG (dW 0) (dW 1))) d8)))))
  (fK (i7 iG (dX (jj (j4 [none] (iJ (dW 4)) (j3 0) (λ_=>.ok true) (lZ c))) d8)))))))
def ig(c:Cs):List T->M T:=jK 4 7 (rG c)
def lF(c:Cs):En->List (List T)->mq:=(nL (jX 5 (setO 8 (gY (eA (dX (ey fG (dW 3) (dW 1)) (dX (dW 7) d8)) (jq c)))))
  (A2 (fH (eA (dX (dW 2) (dX (dW 8) d8)) (jg c))) (nL (jX 5 (setO 9 (oS (eA (dX (dW 4) (dX (dW 8) d8)) (gz c)))))
  (A2 (fH (ey (wg false) (dW 9) (cM .non))) (nL (jX 5 (ud 4 (gY (dW 8))))
  (qQ (lstM (dX (dW 6) d8)))) (qe (dW 9) (dW 6)))) xW))
def wY(c:Cs):En->O:=(eN (setO 2 (gY (ey lN (jZ c.Cutting "dims" (dW 0) d8 (fB c)) (cM (.int 1)))))
  (eN (kC (oz (fH (ey (eQ false) (dW 2) (cM (.int 0)))) (jI (fH (eA (dX (dW 1) (dX (jZ c.Cutting "many" (dW 0) d8 (gO c)) d8)) (fV c))))) (λ_=>.er c.NoNumber none) fM)
  (eN (setO 3 (gY (jj (mX c.Cutting "cuts" (dW 0) d8 (fL c)))))
  (eN (kX 4 (m7 (lstM d8)))
  (eN (kX 5 (m7 (lstM d8)))
  (eN (nP (nv (dX (dW 3) d8)) 5 (ku 2 (fX (jQ 6) (fX (jQ 7) ko))) (lF c))
  (fK (mD (dX (eA (dX (dW 2) (dX (dW 4) d8)) (fW c)) (dX (dW 5) d8))))))))))
def ip(c:Cs):List T->M T:=jK 2 10 (wY c)
def lL(c:Cs):En->O:=(CW 3 (sd (gY (xw (dX (dW 0) (dX (dW 1) d8)) (ip c)))) (Hr c.NoNumber "number")
  (fK (cM (.str "told"))))
def f9(c:Cs):List T->M T:=jK 2 3 (lL c)
def mI(c:Cs):Pe->M T:=(dW 0)
def mF(c:Cs):Pe->M T:=(ey fG (dW 1) (ey fG (dW 0) (cM (.int 0))))
def tE(c:Cs):En->O:=(eN (setO 4 (gY (jZ c.Cutting "dims" (dW 0) d8 (fB c))))
  (eN (setO 5 (gY (eA (dX (dW 0) (dX (dW 2) d8)) (ip c))))
  (eN (zu (eA (dX (dW 4) (dX (dW 1) (dX (dW 2) d8))) (iZ c)) (ku 2 (fX (jQ 6) (fX (jQ 7) ko))))
  (eN (kC (oz (jI (fH (oH "tuple" (dW 5)))) (oz (fH (ey (eQ true) (i7 iL (dX (dW 5) d8)) (cM (.int 2)))) (jI (fH (An c.Cutting (ey fG (dW 5) (cM (.int 0)))))))) (fK (cM (.bl false))) fM)
  (eN (kC (oz (fH (ey (eQ true) (jZ c.Cutting "dims" (ey fG (dW 5) (cM (.int 0))) d8 (fB c)) (ey lN (dW 4) (cM (.int 1))))) (oz (fH (ey (eQ true) (jj (mX c.Cutting "cuts" (ey fG (dW 5) (cM (.int 0))) d8 (fL c))) (dW 6))) (fH (ey (eQ true) (ey fG (dW 5) (cM (.int 1))) (dW 7))))) (fK (cM (.bl false))) fM)
  (eN (setO 8 (gY (ey fG (jj (j4 [none,some 1,some 2] (iz (dX (dW 4) d8)) (j3 0) (fH (ey (eQ true) (ey fG (ey fG (dW 1) (dW 2)) (dW 0)) (cM (.int 0)))) (mI c))) (cM (.int 0)))))
  (eN (setO 9 (gY (eA (dX (ey fG (dW 1) (dW 2)) (dX (dW 8) (dX (dW 3) (dX (dW 4) d8)))) (ig c))))
  (eN (setO 10 (gY (jZ c.Cutting "sides" (dW 0) (dX (dW 9) d8) (f7 c))))
  (fK (ey (eQ false) (jZ c.Cutting "sides" (ey fG (dW 5) (cM (.int 0))) (dX (ey fR (iH (dW 9) (λ_=>.ok none) (fY (dW 8))) (iH (dW 9) (fY (ey fR (dW 8) (cM (.int 1)))) (λ_=>.ok none))) d8) (f7 c)) (i7 iG (dX (jj (j4 [none,some 10] (iJ (dW 7)) (j3 0) (λ_=>.ok true) (mF c))) d8))))))))))))
def iI(c:Cs):List T->M T:=jK 4 11 (tE c)
def sC(c:Cs):En->O:=(eN (kC (lO (fH (ey xI (dW 3) (cM (.int 1)))) (jI (fH (eA (dX (dW 5) (dX (dW 4) (dX (dW 6) (dX (dW 2) d8)))) (iI c))))) (fK (cM (.bl false))) fM)
  (kC (lO (fH (ey (eQ false) (dW 3) (cM (.int 1)))) (fH (ey (eQ true) (eA (dX (dW 5) (dX (dW 6) d8)) (f9 c)) (cM (.str "number"))))) (fK (cM (.bl false))) fM))
def sm(c:Cs):En->O:=(kC (fH (ey (eQ true) (eA (dX (dW 5) (dX (dW 7) d8)) (f9 c)) (cM (.str "number")))) (fK (cM (.bl false))) fM)
def sJ(c:Cs):En->O:=(eN (setO 2 (gY (eA (dX (dW 0) (dX (dW 1) d8)) (gF c))))
  (eN (zu (eA (dX (dW 2) (dX (ey fR (cM (.int 6)) (i7 qg (dX (ey (eQ false) (eA (dX (dW 2) (dX (cM (.int 67)) (dX (cM (.int 4)) d8))) (eG c)) (cM (.int 1))) d8))) d8)) (iM c)) (ku 2 (fX (jQ 3) (fX (jQ 4) ko))))
  (eN (setO 5 (gY (eA (dX (dW 3) (dX (jj (Fd mV (dX (dW 4) d8))) d8)) (fW c))))
  (eN (mO (iz (dX (i7 iL (dX (dW 4) d8)) d8)) (jQ 6) (sC c))
  (qZ (iJ (jj (lstM (dX (rJ (λi=>.int (-i)) (cM (.int 1))) (dX (i7 iL (dX (dW 4) d8)) (dX (cM (.bl true)) (dX (cM (.bl false)) (dX (cM .non) (dX (cM (.str "0")) (dX (mD (dX (cM (.int 0)) d8)) (dX (jj (lstM (dX (cM (.int 0)) d8))) d8))))))))))) (jQ 7) (sm c))))))
def Be(c:Cs):En->O:=(eN (qZ (iJ (jj (lstM (dX (cM (.int 0)) (dX (cM (.int 1)) (dX (cM (.int 0)) d8)))))) (jQ 1) (sJ c))
  (fK (cM (.bl true))))
def n8(c:Cs):List T->M T:=jK 1 8 (Be c)
variable {c:Cs}
def wq ns (k:Nat):∃v,gF c [.scr ns,.int k]=.ok (.int v)/\(v=0\/v∈ns):=by
 by_cases h:(k:Int)<ns.length
 .obtain⟨a,e,b⟩:=ux ns k (by omega) h;exact⟨a,by simp[gF,kD,h,e],.inr b⟩
 .exact⟨0,by simp[gF,kD,h],.inl rfl⟩
def i6(h:i.natAbs<2 ^ 64):ia (.int i) (.int j)=.ok (.int (i*j)):=fT (yY h)
def E7 cell (k:Nat) b (B:0<b) (D:b<2 ^ 62) (K:k<=1000000):∃d,eG c [.int cell,.int (k:Int),.int b]=.ok (.int d)/\0<=d/\d<b:=by
 have f:b≠0:=by omega
 have z:∀x:Int,0<=x.fmod b/\x.fmod b<b:=λx=>⟨cy x B,cz x B⟩;have l:DF (.int 10) (.int 18)=.ok (.int 1000000000000000000):=by simp[DF,jf]
 by_cases h:(1000000000000000000:Int)<=cell
 .obtain⟨r,e,v,w,rfl⟩:=j8 (m:=jQ 4) (g:=setO 3 (gY (ey lK (dW 3) (dW 2)))) (λ(i:Nat)=>T.int (i:Int)) (λ_ r=>∃v w,r=[some (.p (.int cell)),some (.p (.int k)),some (.p (.int b)),some (.p (.int v)),w,none])
   (List.range k) 0 [some (.p (.int cell)),some (.p (.int k)),some (.p (.int b)),some (.p (.int cell)),none,none] ⟨_,_,rfl⟩ (by rintro i a r J ⟨v,w,rfl⟩;have H:Builtin.divisionGoesByPylong v b=false:=Bn.noPy (n:=62) (by unfold Bn;omega) (by decide);exact⟨_,_,rfl,.inl (eK (by simp[jH f H];rfl) rfl),_,_,rfl⟩)
  refine⟨v.fmod b,fj rfl ?_,z v⟩;have s:xu (k:Int)=true:=kR (by omega);refine jo (gQ (by simp[l,h]) (eg (eK (by simp) rfl) (eg (kn (by simp[s,ID]) e) (eO (by simp[mj f]))))) rfl
 .have q:∀x y:Int,0<y->0<=x.fmod y/\x.fmod y<y:=λx y A=>⟨cy x A,cz x A⟩;have I:=q cell 1000000007 (by decide);have C:=q ((cell.fmod 1000000007+1009*k+17)*69621) 2147483647 (by decide);generalize o:((cell.fmod 1000000007+1009*k+17)*69621).fmod 2147483647=s1 at C;have E:=q (s1*s1+40503*k+5) 2147483629 (by decide);generalize u:(s1*s1+40503*k+5).fmod 2147483629=s2 at E;have F:Builtin.divisionGoesByPylong ((s2*48271).fmod 2147483647) 32=false:=Bn.noPy (n:=62) (by unfold Bn;decide) (by decide);refine⟨(((s2*48271).fmod 2147483647).fdiv 32).fmod b,fj rfl ?_,z _⟩;refine eg (fZ (by simp[l,h]) rfl) (eg (eK (t:=.int s1) ?_ rfl) (eg (eK (t:=.int s2) ?_ rfl) (eO ?_)))
  .rw[<-o];simp[mj,i6 (i:=1009) (j:=k) (by decide),i6 (i:=cell.fmod 1000000007+1009*k+17) (j:=69621) (by omega)]
  .rw[<-u];simp[mj,i6 (i:=40503) (j:=k) (by decide),i6 (i:=s1) (j:=s1) (by omega)]
  .simp[mj,f,jH (j:=32) (by decide) F,i6 (i:=s2) (j:=48271) (by omega)]
def dr(c:Cs)(a k b:Int):Int:=match eG c [.int a,.int k,.int b] with
 |.ok (.int d)=>d
 |_=>0
def iE cell k b (i:0<b) (a:b<2 ^ 62) (f:0<=k) (j:k<=1000000):eG c [.int cell,.int k,.int b]=.ok (.int (dr c cell k b))/\0<=dr c cell k b/\dr c cell k b<b:=by
 obtain⟨d,e,g,h⟩:=E7 cell k.toNat b i a (by omega);rw[cm f]at e;have:dr c cell k b=d:=by unfold dr;rw[e]
 rw[this];exact⟨e,g,h⟩
def xB(l:LI)(i:Int)(b:0<=i)(d:i<l.length):∃w,fG (.lst (l.map T.int)) (.int i)=.ok (.int w)/\w∈l:=by obtain⟨a,e,f⟩:=ux l i b d;exact⟨a,by simp[mm,e],f⟩
def Ex i:(if i<0 then -i else i)=(i.natAbs:Int):=by split<;>omega
def ji a b:fv c [.int a,.int b]=.ok (.int (Cu.G a b)):=by
 obtain⟨d,e,x,w,rfl,i⟩:=kj (c:=fH (ey (eQ true) (dW 1) (cM (.int 0)))) (g:=eN (setO 2 (gY (ey ou (dW 0) (dW 1)))) (eN (setO 0 (gY (dW 1))) (setO 1 (gY (dW 2)))))
  (λd=>∃x y w,d=[some (.p (.int x)),some (.p (.int y)),w]/\Cu.G x y=Cu.G a b) (λd=>match d with|_::some (.p (.int j))::_=>j.natAbs|_=>0)
  (λd=>∃x w,d=[some (.p (.int x)),some (.p (.int 0)),w]/\Cu.G x 0=Cu.G a b) (by
   rintro d ⟨x,y,w,rfl,h⟩;by_cases f:y=0
   .subst f;exact .inl ⟨by simp,_,_,rfl,h⟩
   .refine .inr ⟨by simp[f],_,.inl (eg (eK (t:=.int (x.fmod y)) (by simp[mj f]) rfl) (eg (eK (by simp) rfl) (eK (by simp) rfl))),⟨y,x.fmod y,_,rfl,?_⟩,?_⟩
    .rw[<-h];exact Cu.AQ x y
    .exact Cu.si x y f)
  (b.natAbs+1) [some (.p (.int a)),some (.p (.int b)),none] ⟨a,b,none,rfl,rfl⟩ (bF _)
 refine fj rfl (eg e (eO ?_));rw[Cu.qr]at i;simp[Ex,i]
def mR a b:hI c [.int a,.int b]=.ok (.int (Cu.G a b)):=by
 obtain⟨d,e,x,rfl,f,l⟩:=kj (c:=fH (ey xI (dW 1) (cM (.int 0)))) (g:=EO 0 1 (dX (dW 1) (dX (ey ou (dW 0) (dW 1)) d8)))
  (λd=>∃x y:Int,d=[some (.p (.int x)),some (.p (.int y))]/\0<=x/\0<=y/\Cu.G x y=Cu.G a b) (λd=>match d with|_::some (.p (.int j))::_=>j.natAbs|_=>0)
  (λd=>∃x:Int,d=[some (.p (.int x)),some (.p (.int 0))]/\0<=x/\Cu.G x 0=Cu.G a b) (by
   rintro d ⟨x,y,rfl,f,hy0,h⟩;by_cases i:y=0
   .subst i;exact .inl ⟨by simp,_,rfl,f,h⟩
   .have k:0<y:=by omega
    refine .inr ⟨by simp[k],_,.inl (by simp[mj i]),⟨y,x.fmod y,rfl,hy0,cy x k,?_⟩,?_⟩
    .rw[<-h];exact Cu.AQ x y
    .exact Cu.si x y i)
  ((b.natAbs:Int).natAbs+1) [some (.p (.int (a.natAbs:Int))),some (.p (.int (b.natAbs:Int)))] ⟨_,_,rfl,by omega,by omega,Cu.Js a b⟩ (bF _)
 refine fj rfl (eg (eK (by simp[Ex]) rfl) (eg (eK (t:=.int (b.natAbs:Int)) (by simp[Ex]) rfl) (eg e (eO ?_))));rw[Cu.qr]at l;have:x=Cu.G a b:=by omega
 simp[this]
def uN t b (e:b≠0) (f:Bn 7000 b):fS c [.int t,.int b]=.ok (fr (t.fdiv (if b<0 then -Cu.G t b else Cu.G t b),b.fdiv (if b<0 then -Cu.G t b else Cu.G t b))):=by
 have j:=Cu.A6 t b e;have i:=Cu.DT t b e;have a:∀x:Int,Builtin.divisionGoesByPylong x (if b<0 then -Cu.G t b else Cu.G t b)=false:=λx=>by refine Bn.noPy (n:=7000) ?_ (by decide);unfold Bn at *;refine cW ?_ f;split<;>omega
 have d:(if b<0 then -Cu.G t b else Cu.G t b)≠0:=by split<;>omega
 refine fj rfl (eg (eK (t:=.int (Cu.G t b)) (by simp[mR]) rfl) (eg (ρ':=[some (.p (.int t)),some (.p (.int b)),some (.p (.int (if b<0 then -Cu.G t b else Cu.G t b)))]) ?_ (eO ?_)))
 .by_cases h:b<0
  .exact gQ (by simp[h]) (eK (t:=.int (-Cu.G t b)) (by simp) (by simp[h]))
  .exact fZ (by simp[h]) (by simp[h])
 .have g:2<=sizeLine:=by decide
  simp[jH d (a t),jH d (a b),g,fr]
def qc{t g:Int}(b:g ∣ t)(a:g≠0):(t.fdiv g).natAbs<=t.natAbs:=by obtain⟨k,rfl⟩:=b;rw[cG k a,aX];exact Nat.le_mul_of_pos_left _ (by omega)
noncomputable def HQ:T->Bool
 |.scr _=>false
 |.obj _ _=>false
 |.dic _=>false
 |_=>true
noncomputable def isInt:T->Bool
 |.int _=>true
 |_=>false
def uP x (h:HQ x=true):fw c [x]=.ok (.bl (isInt x)):=by cases x<;>first|(simp[HQ]at h;done)|rfl
def Eb x (h:HQ x=true):HE "tuple" x=.ok (.bl (nr x)):=by cases x<;>first|(simp[HQ]at h;done)|rfl
noncomputable def pP(x:Int):Int:=if 0<x then 1 else if x<0 then -1 else 0
def sj x:-1<=pP x/\pP x<=1:=by unfold pP;split<;>(try split)<;>lia
def qq x:jw c [.int x]=.ok (.int (pP x)):=by
 unfold pP;by_cases h:0<x
 .rw[aP h];exact fj rfl (jo (gQ (by simp[h]) (eO (by simp))) rfl)
 .rw[aQ h];by_cases a:x<0
  .rw[aP a];exact fj rfl (eg (fZ (by simp[h]) rfl) (jo (gQ (by simp[a]) (eO (by simp))) rfl))
  .rw[aQ a];exact fj rfl (eg (fZ (by simp[h]) rfl) (eg (fZ (by simp[a]) rfl) (eO (by simp))))
def nc(bs:List Bool):vV [.lst (bs.map T.bl)]=.ok (.bl (bs.all id)):=by simp
def yz(bs:List Bool):vT [.lst (bs.map T.bl)]=.ok (.bl (bs.any id)):=by simp
noncomputable def mQ(d:Nat):T->Bool
 |.tup ts=>decide (ts.length=d+1)&&ts.all isInt&&(match mY ts with|some ns=>(ns.take d).any (· != 0)|none=>false)
 |_=>false
theorem uW:∀ts,ts.all isInt=true->∃a:LI,ts=a.map T.int
 |[],_=>⟨[],rfl⟩
 |t::ts,h=>by
  rw[cg,bP]at h;obtain⟨a,e⟩:=uW ts h.2;cases t with
  |int i=>exact⟨i::a,by rw[e];rfl⟩
  |_=>simp[isInt]at h
def sU(d:Nat)(r:d<=10) x (l:HQ x=true) (k:∀ts,x=.tup ts->ts.length<1000/\∀t∈ts,HQ t=true):jg c [.int d,x]=.ok (.bl (mQ d x)):=by
 have sz:1000<sizeLine:=by decide
 by_cases f:nr x=true
 .cases x with
  |tup ts=>
   obtain⟨q,o⟩:=k ts rfl;by_cases g:ts.length=d+1
   .have j:j4 [none] (iJ (dW 1)) (j3 0) (λ_=>.ok true) (oE c) (vw (fC 2 [.int d,.tup ts]))=.ok ((ts.map isInt).map T.bl):=by rw[uI ts id (λt=>T.bl (isInt t)) (by simp) (by lia) λt f=>⟨_,rfl,rfl,by simp[oE,uP t (o t f)]⟩];simp
    have i:(L3.oz (L3.jI (fH (oH "tuple" (dW 1)))) (fH (ey (eQ true) (i7 iL (dX (dW 1) d8)) (ey fR (dW 0) (cM (.int 1)))))) (vw (fC 2 [.int d,.tup ts]))=.ok false:=by simp[g]
    by_cases e:ts.all isInt=true
    .obtain⟨b,rfl⟩:=uW ts e;have h:b.length=d+1:=by simpa using g
     have a:mQ d (.tup (b.map T.int))=(b.take d).any (· != 0):=by simp[mQ,h,e]
     rw[a];have p:j4 [none] (iJ (iH (dW 1) (λ_=>.ok none) (fY (dW 0)))) (j3 0) (λ_=>.ok true) (oX c) (vw (fC 2 [.int d,.tup (b.map T.int)]))=.ok (((b.take d).map λn=>n != 0).map T.bl):=by rw[uI (b.take d) T.int (λn=>T.bl (n != 0)) (uK (by rw[cL];exact nO rfl rfl (by simp;lia))) (by simp;lia) λn g=>⟨_,rfl,rfl,by simp[oX,bne]⟩];rw[aH];rfl
     refine fj rfl (eg (fZ i rfl) (eg (fZ (lS (eS (pE j (nc _))) ?_) rfl) (eO (pE p ?_))))
     .rw[cj];simpa using e
     .rw[yz,List.any_map];rfl
    .have a:mQ d (.tup ts)=false:=by simp[mQ,e]
     rw[a];refine fj rfl (eg (fZ i rfl) (jo (gQ (lS (eS (pE j (nc _))) ?_) (eO rfl)) rfl));rw[cj];simpa using e
   .have a:mQ d (.tup ts)=false:=by simp[mQ,g]
    rw[a];refine fj rfl (jo (gQ ?_ (eO rfl)) rfl);have:¬(ts.length=(d:Int)+1):=by lia
    simp[this]
  |_=>simp[nr]at f
 .have a:mQ d x=false:=by cases x<;>first|rfl|(simp[nr]at f;done)
  rw[a];refine fj rfl (jo (gQ ?_ (eO rfl)) rfl);have m:nr x=false:=by simpa using f
  have:=Eb x l;rw[m]at this;simp only[L3.oz,L3.jI,fH,oH,dW,vw,fC,bE,bX,cU,bV,List.getElem?_cons_succ,List.getElem?_cons_zero,Kw,M.bind_ok,this];rfl
def Al(l:List α)(h:l≠[]):lQ l (-1)=l.getLast?:=by obtain⟨m,a,rfl⟩:∃m a,l=m++[a]:=⟨l.dropLast,l.getLast h,(List.dropLast_concat_getLast h).symm⟩;rw[L2.B1];simp
def AX p (f:0<p.2) (e:Cu.G p.1 p.2=1):iP c [fr p]=.ok (.bl true):=by
 obtain⟨t,u⟩:=p;have b:lQ [T.int t,T.int u] 1=some (.int u):=rfl;have a:lQ [T.int t,T.int u] 0=some (.int t):=rfl;have w:∀i:Int,fw c [.int i]=.ok (.bl true):=λi=>rfl;refine fj rfl (eg (fZ (by simp[fr]) rfl) (eg (fZ (by simp[fr,a,b,w]) rfl) (eO ?_)));have d:1<=u:=by lia
 simp[fr,a,b,d,ji,e]
def wX(d:Nat)(h:1<=d/\d<=3):ka c [.int d]=.ok (.bl true):=by
 have w:fw c [.int d]=.ok (.bl true):=rfl;have a:(1:Int)<=d:=by lia
 have b:(d:Int)<=3:=by lia
 exact fj rfl (eO (by simp[w,a,b]))
def Ji n:(List.replicate n [T.int 0]).flatten=(List.replicate n (0:Int)).map T.int:=by
 induction n with
 |zero=>rfl
 |succ n ih=>rw[bR,bS,ih,bR];rfl
def Ir(n:Nat)(e:n<=1000)(h:f ρ=.ok (.int (n:Int))):jj (Bz (jj (lstM (dX (cM (.int 0)) d8))) f) ρ=.ok (.lst ((List.replicate n (0:Int)).map T.int)):=by
 have sz:1000<sizeLine:=by decide
 have d:xu n=true:=kR (by lia);have a:1<=sizeLine:=by decide
 have b:n<=sizeLine:=by lia
 simp[h,d,a,b,Ji]
def Jp(n:Nat)(e:n<=1000)(h:f ρ=.ok (.int (n:Int))):vp (mD (dX (cM (.int 0)) d8)) f ρ=.ok (.tup ((List.replicate n (0:Int)).map T.int)):=by
 have sz:1000<sizeLine:=by decide
 have d:xu n=true:=kR (by lia);have a:1<=sizeLine:=by decide
 have b:n<=sizeLine:=by lia
 simp[h,vm,d,a,b,Ji]
end CL
namespace L3
open PySem L2
theorem m6{s:Type} enc (P:En->Prop) p t:∀(l:List s) (ρ:En),P ρ->
  (∀a∈l,∀ρ,P ρ->∃c,m (enc a) ρ=some c/\(p a=true->∃d,g c=.nx d/\P d)/\(p a=false->g c=.rt t))->
  (l.all p=true->∃ρ',gZ m g (l.map enc) ρ=.nx ρ'/\P ρ')/\(l.all p=false->gZ m g (l.map enc) ρ=.rt t)
 |[],ρ,h,_=>⟨λ_=>⟨ρ,rfl,h⟩,λh=>by simp at h⟩
 |a::l,ρ,h,st=>by
  obtain⟨c,f,j,n⟩:=st a (by simp) ρ h;rw[bE,gZ,f];dsimp only;cases e:p a with
  |true=>obtain⟨d,r,o⟩:=j e;rw[r];have i:=m6 enc P p t l d o λb q ρ k=>st b (by simp[q]) ρ k;rw[cg,e,Bool.true_and];exact i
  |false=>rw[n e,cg,e,Bool.false_and];exact⟨λz=>(by cases z),λ_=>rfl⟩
end L3
namespace CL
open PySem L2 L3
variable {c:Cs}
def AB:Bn (n+1) 1:=by unfold Bn;rw[Nat.pow_succ];have:=Nat.two_pow_pos n;lia
def pj ns:mY (ns.map T.int)=some ns:=by simp
end CL
namespace L3
open PySem L2
theorem oo{q:Type} enc (P:Nat->En->Prop) (R:T->Prop):∀(l:List q) (k:Nat) (ρ:En),P k ρ->
  (∀i a ρ,l[i]? = some a->P (k+i) ρ->∃c,m (enc a) ρ=some c/\((∃d,g c=.nx d/\P (k+i+1) d)\/∃t,g c=.rt t/\R t))->
  (∃ρ',gZ m g (l.map enc) ρ=.nx ρ'/\P (k+l.length) ρ')\/∃t,gZ m g (l.map enc) ρ=.rt t/\R t
 |[],k,ρ,h,_=>.inl ⟨ρ,rfl,h⟩
 |a::l,k,ρ,h,st=>by
  obtain⟨c,j,n⟩:=st 0 a ρ rfl h;rw[bE,gZ,j];dsimp only;rcases n with⟨d,f,e⟩|⟨t,f,e⟩
  .rw[f];rw[ay,show k+(l.length+1)=k+1+l.length by lia];exact oo enc P R l (k+1) d e λi b ρ p o=>by have:=st (i+1) b ρ (by simpa using p) (by rw[show k+(i+1)=k+1+i by lia];exact o);rw[show k+1+i+1=k+(i+1)+1 by lia];exact this
  .rw[f];exact .inr ⟨t,rfl,e⟩
end L3
namespace CL
open PySem L2 L3
variable {c:Cs}
def FZ(l:List α)(k:Nat) h:lQ l (k:Int)=some l[k]:=by unfold lQ qA;rw[aP (by lia),aP (by lia)];simp[h]
def DX(l:LI) k (h:k<l.length):lQ l (k:Int)=some (l.getD k 0):=by rw[FZ l k h,af,ag h];rfl
def getD_mem(l:LI) k (h:k<l.length):l.getD k 0∈l:=by rw[af,ag h];exact aU h
def gL l (k:Nat) (h:k<l.length):fG (tI l) (.int (k:Int))=.ok (.int (l.getD k 0)):=by simp[tI,mm,DX l k h]
def I0(b:f1 ρ=.ok a1)(e:f2 ρ=.ok a2)(a:f3 ρ=.ok a3)(f:f4 ρ=.ok a4)(g:f5 ρ=.ok a5):jj (lstM (dX f1 (dX f2 (dX f3 (dX f4 (dX f5 d8)))))) ρ=.ok (.lst [a1,a2,a3,a4,a5]):=by
 have d:5<=sizeLine:=by decide
 simp only[jj,lstM,dX,d8,b,e,a,f,g,M.bind_ok,zw,ay,List.length_nil,d,if_true]
def Km n (x:T):(List.replicate n [x]).flatten=List.replicate n x:=by
 induction n with
 |zero=>rfl
 |succ n ih=>rw[bR,bS,ih,bR];rfl
end CL
namespace CL
abbrev Vc:=Nat->Int
end CL
namespace CL
open PySem L2 L3
variable {c:Cs}
noncomputable def vc(l:LI):Vc:=λi=>l.getD i 0
def jv l i (h:l.length<=i):vc l i=0:=by unfold vc;rw[af,List.getElem?_eq_none h];rfl
def ib l i h:vc l i=l[i]:=by unfold vc;rw[af,ag h];rfl
def j7{a:Type}(l:List a) k v (h:l[k]? = some v):l.take (k+1)=l.take k++[v]:=by rw[List.take_succ,h];rfl
def zY(h:f ρ=.ok (.int i)):rJ (λi=>.int (-i)) f ρ=.ok (.int (-i)):=by simp only[rJ,h,M.bind_ok]
def nq:Bn n 0:=by unfold Bn;exact Nat.two_pow_pos _
def yQ N (B:N<=8000) row (I:row.length<1000) (o:∀x∈row,Bn N x):∃g n,0<g/\jG c [tI row]=.ok (tI n)/\n.length=row.length/\(∀i,vc row i=g*vc n i)/\∀y∈n,Bn N y:=by
 have sz:1000<sizeLine:=by decide
 have main:=oo (m:=jQ 2) (g:=oQ c) T.int
  (λk w=>∃(a:Int) (r:Oq W),w=[some (.p (tI row)),some (.p (.int a)),r]/\0<=a/\Bn N a/\∀x∈row.take k,a ∣ x)
  (λt=>t=tI row) row 0 _ ⟨0,none,rfl,by decide,nq,λx f=>by simp at f⟩ (by
   rintro i x w b ⟨a,r,rfl,D,u,d⟩;rw[aF]at d ⊢;have s:=au b;refine⟨_,rfl,?_⟩;have v:setO 1 (gY (eA (dX (dW 1) (dX (dW 2) d8)) (fv c))) [some (.p (tI row)),some (.p (.int a)),some (.p (.int x))]=.nx [some (.p (tI row)),some (.p (.int (Cu.G a x))),some (.p (.int x))]:=eK (gH rfl rfl (ji a x)) rfl;by_cases h:Cu.G a x=1
   .right;exact⟨_,eg v (gQ (eS (ee rfl rfl (by rw[eY,h];rfl))) (eO rfl)),rfl⟩
   .left;refine⟨_,eg v (fZ (eS (ee rfl rfl (by rw[eY];simp[h]))) rfl),_,_,rfl,Cu.ki _ _,?_,λz A=>?_⟩
    .by_cases l:x=0
     .rw[l,Cu.qr];exact cW (by lia) u
     .have H:=Cu.DT a x l;have J:=Cu.ki a x;exact cW (by lia) (o x s)
    .rw[j7 row i x b]at A;rcases ai.mp A with q|q
     .exact cX (Cu.jn a x) (d z q)
     .rw[aj.mp q];exact Cu.iy a x)
 rcases main with⟨C,e,a,r,rfl,D,u,d⟩|⟨t,e,rfl⟩
 .rw[aF,cY]at d;by_cases j:a=0
  .exact⟨1,row,by decide,fj rfl (eg (eK rfl rfl) (eg (jr rfl e) (jo (gQ (eS (ee rfl rfl (by rw[eY,j];rfl))) (eO rfl)) rfl))),rfl,λi=>by rw[cZ],o⟩
  .refine⟨a,row.map (λx=>x.fdiv a),by lia,fj rfl (eg (eK rfl rfl) (eg (jr rfl e) (eg (fZ (eS (ee rfl rfl (by rw[eY];simp[j]))) rfl) (eO ?_)))),by simp,λi=>?_,λy E=>?_⟩
   .exact km (jb (iV row T.int (λx=>T.int (x.fdiv a)) rfl (by lia) (λx f=>⟨_,rfl,rfl,ee rfl rfl (jH j (u.noPy B))⟩) (by rw[aH];rfl))) rfl
   .by_cases b:i<row.length
    .rw[ib row i b,ib _ i (by simpa using b),c5];obtain⟨q,F⟩:=d _ (aU b);rw[F,cG q j]
    .rw[jv row i (by lia),jv _ i (by simp;lia),c6]
   .obtain⟨x,f,rfl⟩:=aC.mp E;exact cW (qc (d x f) j) (o x f)
 .exact⟨1,row,by decide,fj rfl (eg (eK rfl rfl) (jo (jr rfl e) rfl)),rfl,λi=>by rw[cZ],o⟩
def JU{g x:Int}(a:g≠0)(h:g*x=0):x=0:=by
 rcases c7.mp h with z|z
 .exact absurd z a
 .exact z
def pY o:pP o*o=(o.natAbs:Int):=by
 unfold pP;split
 .rw[cZ];lia
 .split
  .rw[Int.neg_mul,cZ];lia
  .rw[Int.zero_mul];lia
def Dg(d:fa ρ=.ok (.lst a))(e:fb ρ=.ok (.lst b))(f:a.length+b.length<=sizeLine):Af fa fb ρ=.ok (a++b):=by simp only[Af,d,e,M.bind_ok];rw[aP f]
def AK(h:f ρ=.ok a)(d:g ρ=.ok b):mD (dX f (dX g d8)) ρ=.ok (.tup [a,b]):=by
 have e:2<=sizeLine:=by decide
 simp only[mD,dX,d8,h,d,M.bind_ok,zw,ay,List.length_nil,e,if_true]
def yd a b (h:a.length+b.length<=sizeLine):fR (.tup a) (.tup b)=.ok (.tup (a++b)):=by unfold fR;exact aP h
def Hc a b (h:a.length+b.length<=1000):fR (tI a) (tI b)=.ok (tI (a++b)):=by
 have sz:1000<sizeLine:=by decide
 unfold tI;rw[yd _ _ (by simp;lia),aY]
def zG{e d:Type}[Inhabited d]{P:e->d->Prop}(l:List e)(h:∀a∈l,∃b,P a b):∃f:e->d,∀a∈l,P a (f a):=⟨λa=>Classical.epsilon λb=>P a b,λa g=>Classical.epsilon_spec (h a g)⟩
end CL
namespace CL
open PySem L2 L3
variable {c:Cs}
def qv(p:Int×Int):Rat:=(p.1:Rat) / (p.2:Rat)
def xf{i:Int}(h:0<i):(0:Rat)<(i:Rat):=by have:=(Rat.intCast_lt_intCast).mpr h;simpa using this
@[simp] theorem Jo p:fG (fr p) (.int 0)=.ok (.int p.1):=rfl
@[simp] theorem Fe p:fG (fr p) (.int 1)=.ok (.int p.2):=rfl
noncomputable def nb(x:Int):Nat:=x.natAbs.log2+1
def Fy x:Bn (nb x) x:=Nat.lt_log2_self
def Fc(h:Bn E x)(b:1<=E):nb x<=E:=by
 unfold nb Bn at *;by_cases a:x.natAbs=0
 .rw[a];simp;exact b
 .have:=(Nat.log2_lt a).mpr h;lia
noncomputable def wt(p:Int×Int):Nat:=max (nb p.1) (nb p.2)
noncomputable def rz(s:List (Int×Int)):Nat:=(s.map wt).sum
structure Fq(p:Int×Int):Prop where
 pos:0<p.2
 one:Cu.G p.1 p.2=1
def Eo(p:Int×(Int×Int)):T:=.tup [.int p.1,fr p.2]
noncomputable def Ep(row:LI)(s:List (Int×Int)):Rat:=((row.zip s).map λp=>(p.1:Rat)*qv p.2).sum
def A8(h:fc ρ=.ok false):lO fc fd ρ=.ok false:=by simp only[L3.lO,h,M.bind_ok];rfl
def B6(h:fc ρ=.ok true)(a:fd ρ=.ok b):lO fc fd ρ=.ok b:=by simp only[L3.lO,h,a,M.bind_ok];rfl
def By N M row other a (v:a<row.length) (R:other.length=row.length) (hs:row.length<1000) (F:N+M+1<=8000) (k:∀x∈row,Bn N x) (l:∀x∈other,Bn M x) (Q:vc other a≠0) :
  ∃r,kQ c [tI row,tI other,.int (a:Int)]=.ok (tI r)/\r.length=row.length/\(∀x∈r,Bn (N+M+1) x)/\vc r a=0/\∃g s b:Int,0<g/\0<s/\(∀i,g*vc r i=s*vc row i+b*vc other i)/\(vc row a≠0->s=((vc other a).natAbs:Int)/\b = -vc row a*pP (vc other a)):=by
 have sz:1000<sizeLine:=by decide
 have q:fG (tI row) (.int (a:Int))=.ok (.int (vc row a)):=gL row a v;have A:fG (tI other) (.int (a:Int))=.ok (.int (vc other a)):=gL other a (by lia);have C:Bn N (vc row a):=k _ (getD_mem row a v);have Y:Bn M (vc other a):=l _ (getD_mem other a (by lia));by_cases j:vc row a=0
 .exact⟨row,fj rfl (jo (gQ (eS (ee (ee rfl rfl q) rfl (by rw[eY,j];rfl))) (eO rfl)) rfl),rfl,λx E=>(k x E).mono (by lia),j,1,1,0,by decide,by decide,λi=>by lia,λz=>absurd j z⟩
 .generalize H:vc other a=o at *;generalize U:vc row a=x0 at *;have X:uR [.int o]=.ok (.int (o.natAbs:Int)):=by simp[Ex]
  let w:Int:=-x0*pP o;have L:=sj o;have B:Bn N w:=by
   refine cW ?_ C;show (-x0*pP o).natAbs<=_;rw[aX,Int.natAbs_neg];have:(pP o).natAbs<=1:=by lia
   exact aM (Nat.mul_le_mul_left _ this) (by lia)
  have D:Bn M (o.natAbs:Int):=cW (by lia) Y;let d:LI:=(row.zip other).map λp=>(o.natAbs:Int)*p.1+w*p.2;have P:d.length=row.length:=by simp[d,R]
  have u:∀y∈d,Bn (N+M+1) y:=λy S=>by obtain⟨p,h,rfl⟩:=aC.mp S;exact ((D.mul (k _ (aV h).1)).add (B.mul (l _ (aV h).2))).mono (by lia)
  have f:∀i,vc d i=(o.natAbs:Int)*vc row i+w*vc other i:=λi=>by
   by_cases J:i<row.length
   .rw[ib d i (by lia),ib row i J,ib other i (by lia)];simp[d]
   .rw[jv d i (by lia),jv row i (by lia),jv other i (by lia),c6,c6];rfl
  obtain⟨g,r,Z,I,K,e,m⟩:=yQ (c:=c) (N+M+1) F d (by lia) u;refine⟨r,fj rfl (eg (fZ (eS (ee (ee rfl rfl q) rfl (by rw[eY];simp[j]))) rfl) (eg (eK (t:=.int (o.natAbs:Int)) (km (ee rfl rfl A) X) rfl) (eg (eK (t:=.int w) ?_ rfl) (eO (nA (x:=tI d) ?_ I))))),by lia,m,?_,g,(o.natAbs:Int),w,Z,by lia,λi=>by rw[<-e i,f i],λ_=>⟨rfl,rfl⟩⟩
  .refine ee (x:=.int (-x0)) (y:=.int (pP o)) ?_ (nA (ee rfl rfl A) (qq o)) (fT ((C.neg).ok (n:=2) ?_ (by lia) (by decide)))
   .exact zY (ee rfl rfl q)
   .unfold Bn;show _<4;lia
  .refine km (t:=.lst (d.map T.int)) (jb (iV (row.zip other) (λp=>T.tup [.int p.1,.int p.2]) (λp=>T.int ((o.natAbs:Int)*p.1+w*p.2)) (oP rfl rfl rfl rfl) (by simp;lia) (λp h=>⟨_,rfl,rfl,?_⟩) (by rw[aH];rfl))) rfl;exact ee (ee rfl rfl (fT (D.ok (k _ (aV h).1) (by lia) (by lia)))) (ee rfl rfl (fT (B.ok (l _ (aV h).2) (by lia) (by lia)))) (fO _ _)
  .refine JU (g:=g) (by lia) ?_;rw[<-e a,f a,H,U];show _ + -x0*pP o*o=_;rw[cE,pY,Int.neg_mul,cF x0];lia
end CL
namespace CL
open PySem L2 L3
variable {c:Cs}
noncomputable def lE:Nat->(Nat->Rat)->Rat
 |0,_=>0
 |n+1,f=>f 0+lE n λi=>f (i+1)
theorem lb:∀n f g,(∀i,i<n->f i=g i)->lE n f=lE n g
 |0,_,_,_=>rfl
 |n+1,f,g,h=>by unfold lE;rw[h 0 (by lia),lb n _ _ λi a=>h (i+1) (by lia)]
theorem tQ a b:∀n f g,lE n (λi=>a*f i+b*g i)=a*lE n f+b*lE n g
 |0,_,_=>by unfold lE;grind
 |n+1,f,g=>by unfold lE;rw[tQ a b n (λi=>f (i+1)) λi=>g (i+1)];grind
noncomputable def n9(d:Nat)(X:Nat->Rat)(x:Vc):Rat:=lE d (λp=>(x p:Rat)*X p)-(x d:Rat)
def yh(x y z:Vc) s a b (h:∀i,s*z i=a*x i+b*y i):(s:Rat)*n9 d X z=(a:Rat)*n9 d X x+(b:Rat)*n9 d X y:=by
 have f:∀i,s*(z i)=a*(x i)+b*(y i:Rat):=λi=>by
  have:=h i;have e:((s*z i:Int):Rat)=((a*x i+b*y i:Int):Rat):=by rw[this]
  simpa using e
 unfold n9;have k:(s:Rat)*lE d (λp=>(z p:Rat)*X p)=(a:Rat)*lE d (λp=>(x p:Rat)*X p)+(b:Rat)*lE d (λp=>(y p:Rat)*X p):=by
  have:=tQ (s:Rat) 0 d (λp=>(z p:Rat)*X p) (λ_=>0);have j:=tQ (a:Rat) (b:Rat) d (λp=>(x p:Rat)*X p) (λp=>(y p:Rat)*X p);have g:lE d (λi=>(s:Rat)*((z i:Rat)*X i)+0*0)=lE d (λi=>(a:Rat)*((x i:Rat)*X i)+(b:Rat)*((y i:Rat)*X i)):=lb d _ _ λi _=>by have:=f i;grind
  rw[g,j]at this;grind
 have:=f d;grind
noncomputable def Xs(s:List (Int×Int)):Nat->Rat:=λq=>qv (s.getD q (0,1))
def AD d:∀s row,s.length=d->d<=row.length->Ep row s=lE d (λp=>(vc row p:Rat)*Xs s p):=by
 induction d with
 |zero=>intro s row a _;have:=List.length_eq_zero_iff.mp a;subst this;simp[Ep,lE]
 |succ d ih=>
  intro s row a b;cases s with
  |nil=>cases a
  |cons p s=>
   cases row with
   |nil=>simp at b
   |cons x row=>have:=ih s row (by simpa using a) (by simpa using b);unfold Ep at this ⊢;rw[c8,bE,c9,this];rfl
def pD(h:fc ρ=.ok false)(a:fd ρ=.ok b):L3.oz fc fd ρ=.ok b:=by simp only[L3.oz,h,a,M.bind_ok];rfl
def AJ(h:fc ρ=.ok true):L3.oz fc fd ρ=.ok true:=by simp only[L3.oz,h,M.bind_ok];rfl
def GG a b i:vc (a++b) i=if i<a.length then vc a i else vc b (i-a.length):=by
 unfold vc;by_cases h:i<a.length
 .rw[aP h,af,List.getElem?_append_left h,<-af]
 .rw[aQ h,af,List.getElem?_append_right (by lia),<-af]
def GL(d B:Nat)(a:LI):Prop:=a.length=d+1/\∀x∈a,Bn B x
structure GC(d B:Nat)(ns:LI):Prop where
 gl:GL d B ns
 re:∃p,p<d/\vc ns p≠0
def GL.mono(h:GL d B ns)(a:B<=B'):GL d B' ns:=⟨h.1,λx b=>(h.2 x b).mono a⟩
def GL.set(h:GL d B ns) k (a:Bn B v):GL d B (ns.set k v):=⟨by rw[bQ];exact h.1,λx b=>by
 rcases List.mem_or_eq_of_mem_set b with q|q
 .exact h.2 x q
 .rw[q];exact a⟩
def HM ns k v i (a:k<ns.length):vc (ns.set k v) i=if k=i then v else vc ns i:=by
 unfold vc;rw[af,List.getElem?_set];by_cases h:k=i
 .subst h;rw[aP rfl,aP rfl,aP a];rfl
 .rw[aQ h,aQ h,<-af]
def uD n k (h:k<n):qA n (k:Int)=some k:=by unfold qA;rw[aP (by lia),aP (by lia)];simp
def kh(n:Nat)(h:n<=1000)(b:f ρ=.ok (.int (n:Int))):iz (dX f d8) ρ=.ok ((List.range n).map λ(i:Nat)=>T.int (i:Int)):=by have a:xu n=true:=kR (by lia);rw[<-ID];simp[b,a]
def Dn cell (k d B:Nat) (fs:LL) (hk:k<=10) (hd:1<=d/\d<=3) (hB:10<=B) (hB2:B<=1000) (hf:∀f∈fs,GL d B f) (hfl:fs.length<=10) :
  ∃ns,iB c [.int cell,.int k,.int d,.lst (fs.map tI)]=.ok (tI ns)/\GC d (B+2) ns:=by
 have sz:1000<sizeLine:=by decide
 have hrd:xu ((d+1:Nat):Int)=true:=kR (by lia);obtain⟨d1,d1a,d1b⟩:=iE (c:=c) cell 2 5 (by decide) (by decide) (by decide) (by decide);obtain⟨h,ew,hw⟩:=xB [1,2,3,5,1000] (dr c cell 2 5) d1a (by simpa using d1b);have hw':1<=h/\h<=1000:=by simp only[aE,cK,or_false]at hw;lia
 let s:LI:=(List.range (d+1)).map λ(j:Nat)=>dr c cell (4+4*k+j) (2*h+1)-h;have g0:GL d (B+2) s:=⟨by simp[s],λx Q=>by obtain⟨j,hj,rfl⟩:=aC.mp Q;have hj':=aR.mp hj;obtain⟨_,a1,a2⟩:=iE (c:=c) cell (4+4*k+j) (2*h+1) (by lia) (by lia) (by lia) (by lia);refine Bn.mono (m:=10) ?_ (by lia);unfold Bn;show _<1024;lia⟩
 obtain⟨d2,d2a,d2b⟩:=iE (c:=c) cell (40+k) 6 (by decide) (by decide) (by lia) (by lia);let r:=dr c cell (40+k) 6;let St:LI->Option W->Option W->En:=λns D E=>[some (.p (.int cell)),some (.p (.int k)),some (.p (.int d)),some (.p (.lst (fs.map tI))),some (.p (.int h)),some (.o (ns.map T.int)),some (.p (.int r)),D,E];have e0:j4 [none,some 4,some 0,some 1] (iz (dX (ey fR (dW 2) (cM (.int 1))) d8)) (j3 0) (λ_=>.ok true) (oh c) (jY [some (.p (.int cell)),some (.p (.int k)),some (.p (.int d)),some (.p (.lst (fs.map tI))),some (.p (.int h)),none,none,none,none])=.ok (s.map T.int):=by
  refine iV (List.range (d+1)) (λ(j:Nat)=>T.int (j:Int)) (λ(j:Nat)=>T.int (dr c cell (4+4*k+j) (2*h+1)-h)) ?_ (by simp;lia) (λj hj=>⟨_,rfl,rfl,?_⟩) (by rw[aH];rfl)
  .exact kh (d+1) (by lia) (ee rfl rfl (by rw[fO];simp))
  .have hj':=aR.mp hj;obtain⟨e,_,_⟩:=iE (c:=c) cell (4+4*k+j) (2*h+1) (by lia) (by lia) (by lia) (by lia);exact ee (jL (y:=.int (4+4*(k:Int)+(j:Int))) (z:=.int (2*h+1)) rfl (ee (ee rfl (ee rfl rfl (i6 (by decide))) (fO _ _)) rfl (fO _ _)) (ee (ee rfl rfl (i6 (by decide))) rfl (fO _ _)) e) rfl (lj _ _)
 have S:∀neg,eQ neg (.lst (fs.map tI)) (.lst [])=.ok (.bl (if neg then !fs.isEmpty else fs.isEmpty)):=λneg=>by rw[xG neg (fs.map tI) (by simp) (aM (qh fs) (by decide))];simp
 obtain⟨A,e1,g1⟩:∃A,(kC (lO (fH (ey (eQ false) (dW 6) (cM (.int 1)))) (fH (ey (eQ true) (dW 3) (jj (lstM d8))))) (kX 5 (pL (Af (jj (Fd mV (dX (iH (ey fG (dW 3) (eA (dX (dW 0) (dX (ey fR (cM (.int 50)) (dW 1)) (dX (i7 iL (dX (dW 3) d8)) d8))) (eG c))) (λ_=>.ok none) (fY (dW 2))) d8))) (iH (dW 5) (fY (dW 2)) (λ_=>.ok none))))) fM) (St s none none)=.nx (St A none none)/\GL d (B+2) A:=by
  by_cases J:r=1/\fs≠[]
  .obtain⟨K,w⟩:=J;have hlp:=List.length_pos_iff.mpr w;obtain⟨d3,F,Y⟩:=iE (c:=c) cell (50+k) fs.length (by lia) (by lia) (by lia) (by lia);obtain⟨f,ef,H⟩:=ux fs (dr c cell (50+k) fs.length) F Y;have I:=hf f H;refine⟨f.take d++s.drop d,gQ ?_ (E4 (ts:=(f.take d++s.drop d).map T.int) ?_ (BX _) rfl),⟨?_,λx Q=>?_⟩⟩
   .have N:fH (ey (eQ false) (dW 6) (cM (.int 1))) (vw (St s none none))=.ok true:=eS (ee (x:=.int r) rfl rfl (by rw[eY,K];rfl));have L:fH (ey (eQ true) (dW 3) (jj (lstM d8))) (vw (St s none none))=.ok true:=eS (ee (x:=.lst (fs.map tI)) (y:=.lst []) rfl (by simp) (by rw[S];simp[w]));simp only[L3.lO,N,L,M.bind_ok];rfl
   .rw[aY];refine Dg (a:=(f.take d).map T.int) (b:=(s.drop d).map T.int) ?_ ?_ (by simp;have:=g0.1;lia)
    .refine jb ?_;have:=nO (fe:=ey fG (dW 3) (eA (dX (dW 0) (dX (ey fR (cM (.int 50)) (dW 1)) (dX (i7 iL (dX (dW 3) d8)) d8))) (eG c))) (fd:=dW 2) (d:=d) (ts:=f.map T.int) (ρ:=vw (St s none none)) (ee (x:=.lst (fs.map tI)) (y:=.int (dr c cell (50+k) fs.length)) rfl (jL (y:=.int (50+(k:Int))) (z:=.int (fs.length:Int)) rfl (ee rfl rfl (fO _ _)) (km rfl (by simp)) d3) (by simp[mm,ef,tI])) rfl (by rw[aw,I.1];lia);simp only[Fd,dX,d8,this,M.bind_ok];rw[cL];rfl
    .rw[cN];exact sI (ts:=s.map T.int) rfl rfl
   .rw[aS,bL,bO,I.1,g0.1];lia
   .rcases ai.mp Q with q|q
    .exact (I.2 x (dc q)).mono (by lia)
    .exact g0.2 x (de q)
  .refine⟨s,fZ ?_ rfl,g0⟩;have N:fH (ey (eQ false) (dW 6) (cM (.int 1))) (vw (St s none none))=.ok (r==1):=eS (ee (x:=.int r) rfl rfl (eY _ _));have L:fH (ey (eQ true) (dW 3) (jj (lstM d8))) (vw (St s none none))=.ok (!fs.isEmpty):=eS (ee (x:=.lst (fs.map tI)) (y:=.lst []) rfl (by simp) (by rw[S];rfl));simp only[L3.lO,N,L,M.bind_ok];by_cases K:r=1
   .have hn:fs=[]:=by
     by_cases hn:fs=[]
     .exact hn
     .exact absurd ⟨K,hn⟩ J
    rw[K,hn];rfl
   .have:(r==1)=false:=by simpa using K
    rw[this];rfl
 obtain⟨C,e2,g2⟩:∃C,(kC (fH (ey (eQ false) (dW 6) (cM (.int 2)))) (rR 5 (oS (dW 2)) (oS (cM (.int 0)))) fM) (St A none none)=.nx (St C none none)/\GL d (B+2) C:=by
  by_cases h2:r=2
  .refine⟨A.set d 0,gQ (eS (ee (x:=.int r) rfl rfl (by rw[eY,h2];rfl))) (vU (us:=A.map T.int) (t:=.int 0) (j:=(d:Int)) (m:=d) rfl rfl rfl rfl (uD _ _ (by rw[aw,g1.1];lia)) ?_),g1.set d nq⟩;show St (A.set d 0) none none=_;simp only[St,dg];rfl
  .exact⟨A,fZ (eS (ee (x:=.int r) rfl rfl (by rw[eY];simp[h2]))) rfl,g1⟩
 obtain⟨u,D,E,e3,g3⟩:∃u D E,(kC (lO (fH (ey (eQ false) (dW 6) (cM (.int 3)))) (fH (ey xI (i7 iL (dX (dW 3) d8)) (cM (.int 1))))) (eN (setO 7 (gY (ey fG (dW 3) (eA (dX (dW 0) (dX (ey fR (cM (.int 50)) (dW 1)) (dX (ey lN (i7 iL (dX (dW 3) d8)) (cM (.int 1))) d8))) (eG c)))))
  (eN (setO 8 (gY (ey fR (cM (.int 1)) (eA (dX (dW 0) (dX (ey fR (cM (.int 60)) (dW 1)) (dX (cM (.int 3)) d8))) (eG c)))))
  (kX 5 (m7 (j4 [none,none,some 8] (nj (dX (ey fG (dW 3) (rJ (λi=>.int (-i)) (cM (.int 1)))) (dX (dW 7) d8))) (rP 2 (jl (j3 0) (jl (j3 1) rO))) (λ_=>.ok true) (om c)))))) fM) (St C none none)=.nx (St u D E)/\GL d (B+2) u:=by
  have N:fH (ey (eQ false) (dW 6) (cM (.int 3))) (vw (St C none none))=.ok (r==3):=eS (ee (x:=.int r) rfl rfl (eY _ _))
  have L:fH (ey xI (i7 iL (dX (dW 3) d8)) (cM (.int 1))) (vw (St C none none))=.ok (decide (1<(fs.length:Int))):=eS (ee (x:=.int (fs.length:Int)) (km rfl (by simp)) rfl rfl)
  by_cases J:r=3/\1<fs.length
  .obtain⟨Z,P⟩:=J;have w:fs≠[]:=by intro z;rw[z]at P;simp at P
   obtain⟨d3,F,Y⟩:=iE (c:=c) cell (50+k) (fs.length-1) (by lia) (by lia) (by lia) (by lia);obtain⟨f,ef,H⟩:=ux fs (dr c cell (50+k) (fs.length-1)) F (by lia);obtain⟨d4,d4a,d4b⟩:=iE (c:=c) cell (60+k) 3 (by decide) (by decide) (by lia) (by lia);have tm:lQ fs (-1)=some (fs.getLast w):=by rw[Al _ w,List.getLast?_eq_getLast w]
   have gl:=hf _ (List.getLast_mem w);have I:=hf f H;generalize fs.getLast w=la at tm gl;let v:Int:=1+dr c cell (60+k) 3;have hby:1<=v/\v<=3:=by show 1<=1+_/\1+_<=(3:Int);lia
   refine⟨(la.zip f).map λp=>p.1+v*p.2,some (.p (tI f)),some (.p (.int v)),gQ ?_ (eg (eK (t:=tI f) (ee (x:=.lst (fs.map tI)) (y:=.int (dr c cell (50+k) (fs.length-1))) rfl (jL (y:=.int (50+(k:Int))) (z:=.int ((fs.length:Int)-1)) rfl (ee rfl rfl (fO _ _)) (ee (x:=.int (fs.length:Int)) (km rfl (by simp)) rfl (lj _ _)) d3) (by simp[mm,ef])) rfl) (eg (eK (t:=.int v) (ee rfl (jL (y:=.int (60+(k:Int))) rfl (ee rfl rfl (fO _ _)) rfl d4) (fO _ _)) rfl) (lD (ts:=((la.zip f).map λp=>p.1+v*p.2).map T.int) ?_ rfl))),⟨by rw[aw,dh,gl.1,I.1];lia,λx Q=>?_⟩⟩
   .simp only[L3.lO,N,L,M.bind_ok];have:(r==3)=true:=by simpa using Z
    rw[this];simp only[if_true];have:decide (1<(fs.length:Int))=true:=aB (by lia);rw[this]
   .refine iV (la.zip f) (λp=>T.tup [.int p.1,.int p.2]) (λp=>T.int (p.1+v*p.2)) (oP (l:=la) (m:=f) (f:=T.int) (g:=T.int) (x:=tI la) (ee (x:=.lst (fs.map tI)) (y:=.int (-1)) rfl rfl (by simp[mm,tm])) rfl rfl rfl) (by rw[dh,gl.1,I.1];lia) (λp X=>⟨_,rfl,rfl,ee rfl (ee rfl rfl (i6 ?_)) (fO _ _)⟩) (by rw[aH];rfl);show v.natAbs<_;lia
   .obtain⟨p,X,rfl⟩:=aC.mp Q;have K:=gl.2 _ (aV X).1;have h2:=I.2 _ (aV X).2;unfold Bn at *;rw[Nat.pow_add];have a1:=cO p.1 (v*p.2);have a2:(v*p.2).natAbs<=3*p.2.natAbs:=by rw[aX];exact dm _ (by lia)
    lia
  .refine⟨C,none,none,fZ ?_ rfl,g2⟩;simp only[L3.lO,N,L,M.bind_ok];by_cases Z:r=3
   .have:(r==3)=true:=by simpa using Z
    rw[this];have:decide (1<(fs.length:Int))=false:=aA (by intro z;exact J ⟨Z,by lia⟩);rw[this];rfl
   .have:(r==3)=false:=by simpa using Z
    rw[this];rfl
 have U:fH (ey (eQ false) (iH (dW 5) (λ_=>.ok none) (fY (dW 2))) (jj (Bz (jj (lstM (dX (cM (.int 0)) d8))) (dW 2)))) (vw (St u D E))=.ok (decide (u.take d=List.replicate d 0)):=by refine eS (ee (x:=.lst ((u.take d).map T.int)) (y:=.lst ((List.replicate d (0:Int)).map T.int)) ?_ (Ir d (by lia) rfl) (by rw[B4];rfl));rw[cL];exact sE (ts:=u.map T.int) rfl rfl
 have CY:∀t,eN (kC (fH (ey (eQ false) (iH (dW 5) (λ_=>.ok none) (fY (dW 2))) (jj (Bz (jj (lstM (dX (cM (.int 0)) d8))) (dW 2))))) (rR 5 (oS (eA (dX (dW 0) (dX (ey fR (cM (.int 60)) (dW 1)) (dX (dW 2) d8))) (eG c))) (oS (cM (.int 1)))) fM) (fK (i7 iG (dX (dW 5) d8))) (St u D E)=.rt t->iB c [.int cell,.int k,.int d,.lst (fs.map tI)]=.ok t:=λt ht=>by refine fj rfl (eg (eK (t:=.int h) (ee (x:=.lst ([1,2,3,5,1000].map T.int)) (y:=.int (dr c cell 2 5)) (I0 rfl rfl rfl rfl rfl) (jL rfl rfl rfl d1) ew) rfl) (eg (lD (ts:=s.map T.int) e0 rfl) (eg (eK (t:=.int r) (jL (y:=.int (40+(k:Int))) rfl (ee rfl rfl (fO _ _)) rfl d2) rfl) (eg e1 (eg e2 (eg e3 ht))))))
 by_cases hz:u.take d=List.replicate d 0
 .obtain⟨d5,d5a,d5b⟩:=iE (c:=c) cell (60+k) d (by lia) (by lia) (by lia) (by lia);obtain⟨p,X⟩:∃p:Nat,dr c cell (60+k) d=(p:Int):=⟨(dr c cell (60+k) d).toNat,by lia⟩;rw[X]at d5 d5b;refine⟨u.set p 1,CY _ (eg (ρ':=St (u.set p 1) D E) (gQ (by rw[U,aB hz]) (vU (us:=u.map T.int) (t:=.int 1) (j:=(p:Int)) (m:=p) rfl rfl rfl (jL (y:=.int (60+(k:Int))) rfl (ee rfl rfl (fO _ _)) rfl d5) (uD _ _ (by rw[aw,g3.1];lia)) ?_)) (eO rfl)),⟨g3.set p (by have:=hB;exact (AB (n:=0)).mono (by lia)),p,by lia,?_⟩⟩
  .simp only[St,dg];rfl
  .rw[HM _ _ _ _ (by rw[g3.1];lia),aP rfl];decide
 .refine⟨u,CY _ (eg (ρ':=St u D E) (fZ (by rw[U,aA hz]) rfl) (eO rfl)),⟨g3,?_⟩⟩;refine aN λJ=>hz (dq.mpr ⟨by rw[bL,g3.1];lia,λb hb=>?_⟩);obtain⟨i,hi⟩:=List.getElem?_of_mem hb;have R:i<d:=by have:=(aa.mp hi).1;rw[bL]at this;lia
  refine aN λhb0=>J ⟨i,R,?_⟩;rw[List.getElem?_take]at hi;rw[aP R]at hi;unfold vc;rw[af,hi];exact hb0
noncomputable def gK(a b:LI):Bool:=(List.range a.length).all λk=>(List.range k).all λj=>vc a k*vc b j==vc a j*vc b k
def oY n B a b (v:a.length=n) (Q:b.length=n) (P:n<=10) (N:B<=1000) (u:∀x∈a,Bn B x) (w:∀x∈b,Bn B x):gq c [tI a,tI b]=.ok (.bl (gK a b)):=by
 have sz:1000<sizeLine:=by decide
 have i:=m6 (m:=jQ 2) (λ(k:Nat)=>T.int (k:Int)) (λρ=>∃r d,ρ=[some (.p (tI a)),some (.p (tI b)),r,d]) (λk=>(List.range k).all λj=>vc a k*vc b j==vc a j*vc b k) (.bl false) (List.range n) [some (.p (tI a)),some (.p (tI b)),none,none] ⟨none,none,rfl⟩ (by
  rintro k F ρ ⟨r,d,rfl⟩;have C:=aR.mp F;refine⟨_,rfl,?_⟩;have l:=m6 (m:=jQ 3) (g:=pq c) (λ(j:Nat)=>T.int (j:Int)) (λρ=>∃d,ρ=[some (.p (tI a)),some (.p (tI b)),some (.p (.int (k:Int))),d]) (λj=>vc a k*vc b j==vc a j*vc b k) (.bl false) (List.range k) [some (.p (tI a)),some (.p (tI b)),some (.p (.int (k:Int))),d] ⟨d,rfl⟩ (by
   rintro j I ρ ⟨d,rfl⟩;have K:=aR.mp I;have H:=gL a k (by lia);have E:=gL b j (by lia);have A:=gL a j (by lia);have J:=gL b k (by lia);have D:=fT ((u _ (getD_mem a k (by lia))).ok (w _ (getD_mem b j (by lia))) (by lia) (by lia));have z:=fT ((u _ (getD_mem a j (by lia))).ok (w _ (getD_mem b k (by lia))) (by lia) (by lia));have y:fH (ey (eQ true) (ey ia (ey fG (dW 0) (dW 2)) (ey fG (dW 1) (dW 3))) (ey ia (ey fG (dW 0) (dW 3)) (ey fG (dW 1) (dW 2)))) (vw [some (.p (tI a)),some (.p (tI b)),some (.p (.int (k:Int))),some (.p (.int (j:Int)))])=.ok (!(vc a k*vc b j==vc a j*vc b k)):=eS (ee (ee (ee rfl rfl H) (ee rfl rfl E) D) (ee (ee rfl rfl A) (ee rfl rfl J) z) (l7 _ _))
   refine⟨_,rfl,λh=>⟨_,fZ (y.trans (by rw[h];rfl)) rfl,_,rfl⟩,λh=>gQ (y.trans (by rw[h];rfl)) (eO rfl)⟩)
  have o:=kh (f:=dW 2) (ρ:=vw [some (.p (tI a)),some (.p (tI b)),some (.p (.int (k:Int))),d]) k (by lia) rfl;refine⟨λh=>?_,λh=>kn o (l.2 h)⟩;obtain⟨q,e,L,rfl⟩:=l.1 h;exact⟨_,kn o e,_,_,rfl⟩)
 have o:=kh (f:=i7 iL (dX (dW 0) d8)) (ρ:=vw (fC 4 [tI a,tI b])) n (by lia) (km (t:=tI a) rfl (by simp[tI,v]));have s:gK a b=((List.range n).all λk=>(List.range k).all λj=>vc a k*vc b j==vc a j*vc b k):=by unfold gK;rw[v]
 cases h:gK a b with
 |true=>obtain⟨q,e,r,d,rfl⟩:=i.1 (by rw[<-s];exact h);exact fj rfl (eg (kn o e) (eO rfl))
 |false=>exact fj rfl (jo (kn o (i.2 (by rw[<-s];exact h))) rfl)
def GC.mono(h:GC d B ns)(a:B<=B'):GC d B' ns:=⟨h.gl.mono a,h.re⟩
def lT a (r:a.length<=100) (h:∃p,p<a.length/\vc a p≠0):∃p:Nat,gh c [tI a]=.ok (.int (p:Int))/\p<a.length/\vc a p≠0:=by
 obtain⟨q,o,l⟩:=h;obtain⟨b,e,p,rfl,f,i⟩:=kj (c:=fH (ey (eQ false) (ey fG (dW 0) (dW 1)) (cM (.int 0)))) (g:=kf c)
  (λb=>∃k:Nat,b=[some (.p (tI a)),some (.p (.int (k:Int)))]/\k<=q) (λb=>match b with|_::some (.p (.int j))::_=>q-j.toNat|_=>0)
  (λb=>∃k:Nat,b=[some (.p (tI a)),some (.p (.int (k:Int)))]/\k<a.length/\vc a k≠0) (by
   rintro b ⟨k,rfl,hk⟩;have m:fG (tI a) (.int (k:Int))=.ok (.int (vc a k)):=gL a k (by lia);by_cases d:vc a k=0
   .have n:k≠q:=λz=>l (by rw[<-z];exact d);refine .inr ⟨eS (ee (ee rfl rfl m) rfl (by rw[eY,d];rfl)),_,.inl (eK (ee rfl rfl (by rw[fO];simp)) rfl),⟨k+1,rfl,by lia⟩,?_⟩;show q-(((k+1:Nat):Int)).toNat<q-((k:Int)).toNat;lia
   .exact .inl ⟨eS (ee (ee rfl rfl m) rfl (by rw[eY];simp[d])),k,rfl,by lia,d⟩)
  ((a.map T.int).length+1) [some (.p (tI a)),some (.p (.int ((0:Nat):Int)))] ⟨0,rfl,by lia⟩ (by rw[aw];lia)
 exact⟨p,fj rfl (eg (eK rfl rfl) (eg e (eO rfl))),f,i⟩
def mL d B a b (Q:d<=3) (N:B<=1000) (f:GC d B a) (g:GL d B b) (h:gK a b=false):gC c [tI a,tI b]=.ok (.bl false):=by
 have sz:1000<sizeLine:=by decide
 have H:=f.gl.1;have w:=g.1;obtain⟨q,P,n⟩:=f.re;obtain⟨p,L,t,m⟩:=lT a (by lia) ⟨q,by lia,n⟩;have E:=gL b p (by lia);have y:=gL a p t;have v:j4 [none,none,some 1,some 2,some 0] (nj (dX (dW 0) (dX (dW 1) d8))) (rP 2 (jl (j3 0) (jl (j3 1) rO))) (λ_=>.ok true) (kJ c) (vw [some (.p (tI a)),some (.p (tI b)),some (.p (.int p))])=.ok (((a.zip b).map λx=>x.1*vc b p==x.2*vc a p).map T.bl):=iV (a.zip b) (λx=>T.tup [.int x.1,.int x.2]) (λx=>T.bl (x.1*vc b p==x.2*vc a p)) (oP rfl rfl rfl rfl) (by rw[dh];lia) (λx o=>⟨_,rfl,rfl,by have C:=f.gl.2 _ (aV o).1;have J:=g.2 _ (aV o).2;have A:=g.2 _ (getD_mem b p (by lia));have K:=f.gl.2 _ (getD_mem a p t);exact ee (ee rfl (ee rfl rfl E) (fT (C.ok A (by lia) (by lia)))) (ee rfl (ee rfl rfl y) (fT (J.ok K (by lia) (by lia)))) (eY _ _)⟩) (by rw[aH];rfl)
 refine fj rfl (eg (eK (nA rfl L) rfl) (eO (pE v ?_)));rw[nc];congr 2;cases s:((a.zip b).map λx=>x.1*vc b p==x.2*vc a p).all id with
 |false=>rfl
 |true=>
  exfalso;rw[ck]at s;have e:=C4.par_of_place m λi r=>by
   have D:(a.zip b)[i]? = some (a[i],b[i]'(by lia)):=by rw[List.getElem?_zip_eq_some];exact⟨ag r,ag (by lia)⟩
   have:=s _ (aC.mpr ⟨_,au D,rfl⟩);have I:a[i]*vc b p=(b[i]'(by lia))*vc a p:=by simpa using this
   show vc a i*vc b p=vc b i*vc a p;rw[ib a i r,ib b i (by lia)];exact I
  have:gK a b=true:=by unfold gK;refine ck.mpr λk z=>ck.mpr λj F=>?_;have l:=aR.mp z;have u:=aR.mp F;have:=e k j l (by lia);simpa[vc] using this
  rw[h]at this;cases this
structure BC(d B:Nat)(cs:LL):Prop where
 gc:∀f∈cs,GC d B f
 few:cs.length<=7
 pw:cs.Pairwise λa b=>gK a b=false
def Aj(h:GC d B ns):mQ d (tI ns)=true:=by
 obtain⟨p,b,a⟩:=h.re;have j:=h.gl.1;unfold tI mQ;have e:(ns.map T.int).length=d+1:=by simp[j]
 have f:(ns.map T.int).all isInt=true:=ck.mpr λx g=>by obtain⟨y,-,rfl⟩:=aC.mp g;rfl
 show (decide ((ns.map T.int).length=d+1)&&(ns.map T.int).all isInt&&(match mY (ns.map T.int) with|some ns=>(ns.take d).any (· != 0)|none=>false))=true;rw[aB e,f,pj];refine du.mpr ⟨vc ns p,?_,by simpa using a⟩;rw[ib ns p (by lia)];refine au (i:=p) ?_;rw[List.getElem?_take,aP b,ag (by lia)]
def ur d B (b:LL) ns (u:1<=d/\d<=3) (j:B<=1000) (w:b.length<7) (n:∀f∈b,GC d B f) (g:GC d B ns) (k:∀f∈b,gK f ns=false):i5 c [.int d,.lst (b.map tI),tI ns]=.ok (.bl true):=by
 have sz:1000<sizeLine:=by decide
 have h:=sU (c:=c) d (by lia) (tI ns) rfl λv e=>by cases e;refine⟨by rw[aw,g.gl.1];lia,λt o=>by obtain⟨y,-,rfl⟩:=aC.mp o;rfl⟩
 rw[Aj g]at h;have r:j4 [none,some 2] (iJ (dW 1)) (j3 0) (λ_=>.ok true) (lC c) (vw (fC 3 [.int d,.lst (b.map tI),tI ns]))=.ok ((b.map λ_=>false).map T.bl):=iV b tI (λ_=>T.bl false) rfl (by lia) (λf i=>⟨_,rfl,rfl,gH rfl rfl (mL d B f ns u.2 j (n f i) g.gl (k f i))⟩) (by rw[aH];rfl)
 have q:fH (ey HV (i7 iL (dX (dW 1) d8)) (cM (.int 7))) (vw (fC 3 [.int d,.lst (b.map tI),tI ns]))=.ok false:=eS (ee (x:=.int (b.length:Int)) (km (t:=.lst (b.map tI)) rfl (by simp)) rfl (by rw[DK];congr 2;exact aA (by lia)))
 have s:fH (eA (dX (dW 0) (dX (dW 2) d8)) (jg c)) (vw (fC 3 [.int d,.lst (b.map tI),tI ns]))=.ok true:=eS (gH rfl rfl h);refine fj rfl (eg (fZ ?_ rfl) (eO ?_))
 .simp only[L3.oz,L3.jI,q,s,M.bind_ok];rfl
 .have p:i7 vT (dX (jj (j4 [none,some 2] (iJ (dW 1)) (j3 0) (λ_=>.ok true) (lC c))) d8) (vw (fC 3 [.int d,.lst (b.map tI),tI ns]))=.ok (.bl false):=by
   refine pE r ?_;rw[yz];congr 2;induction b with
   |nil=>rfl
   |cons a l ih=>simp
  have m:=eS p;simp only[Cr,m,M.bind_ok];rfl
def v8 d B cs (u:1<=d/\d<=3) (v:B<=1000) (h:BC d B cs):gM c [.int d,.lst (cs.map tI)]=.ok (.tup (cs.map tI)):=by
 have sz:1000<sizeLine:=by decide
 have j:=h.few;obtain⟨l,e,r,rfl⟩:=j8 (m:=jQ 3) (g:=lI c) tI
  (λk l=>∃r:Oq W,l=[some (.p (.int d)),some (.p (.lst (cs.map tI))),some (.o ((cs.take k).map tI)),r])
  cs 0 _ ⟨none,rfl⟩ (by
   rintro k a l b ⟨r,rfl⟩;rw[aF];have x:=(aa.mp b).1;have n:=ur (c:=c) d B (cs.take k) a u v (by rw[bL];lia) (λf j=>h.gc f (dc j)) (h.gc a (au b)) λf j=>by have s:=h.pw;rw[<-dw k cs,dy]at s;refine s.2.2 f j a ?_;refine au (i:=0) ?_;rw[List.getElem?_drop,Nat.add_zero];exact b
   have q:fH (eA (dX (dW 0) (dX (dW 2) (dX (dW 3) d8))) (i5 c)) (vw [some (.p (.int d)),some (.p (.lst (cs.map tI))),some (.o ((cs.take k).map tI)),some (.p (tI a))])=.ok true:=eS (jL (y:=.lst ((cs.take k).map tI)) (z:=tI a) rfl rfl rfl n);refine⟨_,_,rfl,.inl (eg (fZ (lS q rfl) rfl) (tY (us:=(cs.take k).map tI) (t:=tI a) rfl (km (t:=tI a) rfl rfl) (by rw[aw,bL];lia) rfl)),some (.p (tI a)),?_⟩;rw[j7 cs k a b,aY];rfl)
 rw[aF,cY]at e;have w:fH (eA (dX (dW 0) d8) (ka c)) (vw (fC 4 [.int d,.lst (cs.map tI)]))=.ok true:=eS (nA rfl (wX d u));have A:fH (oH "list" (dW 1)) (vw (fC 4 [.int d,.lst (cs.map tI)]))=.ok true:=rfl;refine fj rfl (eg (fZ ?_ rfl) (eg (lD (ts:=[]) (by simp) rfl) (eg (jr rfl e) (eO rfl))));simp only[L3.oz,L3.jI,w,A,M.bind_ok];rfl
noncomputable def iK(c:Cs)(d:Nat)(cs:LL):T:=.obj c.Cutting [("own_cuts",.tup (cs.map tI)),("own_dims",.int d)]
def xR d B cs (b:1<=d/\d<=3) (a:B<=1000) (h:BC d B cs):fW c [.int d,.lst (cs.map tI)]=.ok (iK c d cs):=by have e:=v8 (c:=c) d B cs b a h;have q:eA (dX (dW 1) (dX (dW 2) d8)) (gM c) (none::[T.int d,.lst (cs.map tI)].map some)=.ok (.tup (cs.map tI)):=gH rfl rfl e;unfold fW sZ;rw[aP (show [T.int d,T.lst (cs.map tI)].length=2 from rfl),q];rfl
def qJ(h:f ρ=.ok (.obj C fs))(a:fs.lookup x=some t):rC C x f ρ=.ok t:=by unfold rC;rw[h,M.bind_ok];show (if C=C then (match fs.lookup x with|some t=>M.ok t|none=>.bad) else .bad)=_;rw[aP rfl,a]
def pZ(d:Nat)(cs:LL){f:Pe->M T}{ρ:Pe}(e:f ρ=.ok (iK c d cs)):jZ c.Cutting "dims" f d8 (fB c) ρ=.ok (.int d):=by
 have a:mZ c.Cutting "dims" (iK c d cs)=.ok ():=by unfold mZ iK;exact aP ⟨rfl,rfl⟩
 have b:fB c [iK c d cs]=.ok (.int d):=fj rfl (eO (qJ rfl rfl));simp only[jZ,e,M.bind_ok,a,d8,b,M.noEr_ok]
def yB d cs (e:f ρ=.ok (iK c d cs)):mX c.Cutting "cuts" f d8 (fL c) ρ=.ok (cs.map tI):=by
 have a:mZ c.Cutting "cuts" (iK c d cs)=.ok ():=by unfold mZ iK;exact aP ⟨rfl,rfl⟩
 have b:fL c [iK c d cs]=.ok (cs.map tI):=GT rfl (Dp (by have:rC c.Cutting "own_cuts" (dW 0) (vw (fC 1 [iK c d cs]))=.ok (.tup (cs.map tI)):=qJ rfl rfl;simp only[Fd,dX,d8,this,M.bind_ok];rfl))
 simp only[mX,e,M.bind_ok,a,d8,b,M.noEr_ok]
def v9 cell (h:Nat) (B:h<=7):∃(d:Nat) (cs:LL),iM c [.int cell,.int (h:Int)]=.ok (.tup [.int d,.lst (cs.map tI)])/\(1<=d/\d<=3)/\BC d 30 cs/\cs.length<=h:=by
 have sz:1000<sizeLine:=by decide
 obtain⟨d1,A,P⟩:=iE cell 0 5 (by decide) (by decide) (by decide) (by decide);obtain⟨Q,ed,u⟩:=xB [1,2,2,3,3] (dr c cell 0 5) A (by simpa using P);obtain⟨d,rfl⟩:∃d:Nat,Q=(d:Int):=⟨Q.toNat,by simp only[aE,cK,or_false]at u;lia⟩;have Y:1<=d/\d<=3:=by simp only[aE,cK,or_false]at u;lia
 obtain⟨S,d2a,N⟩:=iE (c:=c) cell 1 ((h+1:Nat):Int) (by lia) (by lia) (by decide) (by decide);obtain⟨n,hn⟩:∃n:Nat,dr c cell 1 ((h+1:Nat):Int)=(n:Int):=⟨(dr c cell 1 ((h+1:Nat):Int)).toNat,by lia⟩;rw[hn]at S N;obtain⟨I,e,cs,C,w,rfl,L,s,v⟩:=j8 (m:=jQ 4) (g:=l9 c) (λ(i:Nat)=>T.int (i:Int))
  (λk I=>∃(cs:LL) (C w:Oq W),I=[some (.p (.int cell)),some (.p (.int (h:Int))),some (.p (.int d)),some (.o (cs.map tI)),C,w]/\cs.length<=k/\(∀f∈cs,GC d (10+2*k) f)/\cs.Pairwise λa b=>gK a b=false)
  (List.range n) 0 _ ⟨[],none,none,rfl,aJ _,(λf j=>nomatch j),List.Pairwise.nil⟩ (by
   rintro i k I F ⟨cs,C,w,rfl,L,s,v⟩;rw[aF]at L s ⊢;have H:i<n:=by simpa using (aa.mp F).1
   have J:k=i:=by rw[List.getElem?_range H]at F;cases F;rfl
   subst J;obtain⟨r,en,K⟩:=Dn (c:=c) cell k d (10+2*k) cs (by lia) Y (by lia) (by lia) (λf j=>(s f j).gl) (by lia);let R:En:=[some (.p (.int cell)),some (.p (.int (h:Int))),some (.p (.int d)),some (.o (cs.map tI)),some (.p (.int (k:Int))),some (.p (tI r))];have e1:j4 [none,some 5] (iJ (dW 3)) (j3 0) (fH (eA (dX (dW 0) (dX (dW 1) d8)) (gq c))) (kl c) (vw R)=.ok ((cs.filter λf=>gK f r).map tI):=t5 cs tI tI (λf=>gK f r) rfl (by lia) (λf j=>⟨_,rfl,eS (gH rfl rfl (oY (c:=c) (d+1) (10+2*k+2) f r (s f j).gl.1 K.gl.1 (by lia) (by lia) (λx hx=>((s f j).gl.2 x hx).mono (by lia)) K.gl.2)),λ_=>rfl⟩) rfl
   have X:fH (ey (eQ false) (jj (j4 [none,some 5] (iJ (dW 3)) (j3 0) (fH (eA (dX (dW 0) (dX (dW 1) d8)) (gq c))) (kl c))) (jj (lstM d8))) (vw R)=.ok (cs.filter λf=>gK f r).isEmpty:=by refine eS (ee (x:=.lst ((cs.filter λf=>gK f r).map tI)) (y:=.lst []) (jb e1) (by simp) ?_);rw[xG false _ (by simp) (aM (qh _) (by decide))];simp
   have U:setO 5 (oS (eA (dX (dW 0) (dX (dW 4) (dX (dW 2) (dX (dW 3) d8)))) (iB c))) [some (.p (.int cell)),some (.p (.int (h:Int))),some (.p (.int d)),some (.o (cs.map tI)),some (.p (.int (k:Int))),w]=.nx R:=tV (t:=tI r) (A3 rfl rfl rfl rfl en) (IT r) rfl;by_cases E:(cs.filter λf=>gK f r)=[]
   .refine⟨_,_,rfl,.inl (eg U (gQ (X.trans (by rw[E];rfl)) (tY (us:=cs.map tI) (t:=tI r) rfl rfl (by simp;lia) rfl))),cs++[r],_,_,by rw[aY];rfl,by simp;lia,λf j=>?_,dy.mpr ⟨v,List.pairwise_singleton _ _,λf j g D=>?_⟩⟩
    .rcases ai.mp j with q|q
     .exact (s f q).mono (by lia)
     .rw[aj.mp q];exact K.mono (by lia)
    .rw[aj.mp D];cases Z:gK f r with
     |false=>rfl
     |true=>have:f∈cs.filter λf=>gK f r:=aT.mpr ⟨j,Z⟩;rw[E]at this;exact nomatch this
   .refine⟨_,_,rfl,.inl (eg U (fZ (X.trans (by
     cases hq:(cs.filter λf=>gK f r) with
     |nil=>exact absurd hq E
     |cons a l=>rfl)) rfl)),cs,_,_,rfl,by lia,λf j=>(s f j).mono (by lia),v⟩)
 rw[aF,dz]at L s;refine⟨d,cs,fj rfl (eg (eK (t:=.int d) (ee (x:=.lst ([1,2,2,3,3].map T.int)) (y:=.int (dr c cell 0 5)) (I0 rfl rfl rfl rfl rfl) (jL rfl rfl rfl d1) ed) rfl) (eg (lD (ts:=[]) (by simp) rfl) (eg (kn (kh n (by lia) (jL (z:=.int ((h+1:Nat):Int)) rfl rfl (ee rfl rfl rfl) S)) e) (eO (AK rfl rfl))))),Y,⟨λf j=>(s f j).mono (by lia),by lia,v⟩,by lia⟩
def xv d us (b:f ρ=.ok (iK c d us)):jZ c.Cutting "many" f d8 (gO c) ρ=.ok (.int us.length):=by
 have e:mZ c.Cutting "many" (iK c d us)=.ok ():=by unfold mZ iK;exact aP ⟨rfl,rfl⟩
 have a:gO c [iK c d us]=.ok (.int us.length):=fj rfl (eO (km (qJ rfl rfl) (by simp)));simp only[jZ,b,M.bind_ok,e,d8,a,M.noEr_ok]
end CL
namespace CL
open PySem L2 L3
variable {c:Cs}
def uq(k n:Nat)(h:k<n):fV c [.int (k:Int),.int (n:Int)]=.ok (.bl true):=by
 have w:∀i:Int,fw c [.int i]=.ok (.bl true):=λi=>rfl;refine fj rfl (eO ?_);have a:0<=k:=by omega
 have b:k<n:=by omega
 simp[w,a,b]
def AR l k i:vc (l.drop k) i=vc l (k+i):=by unfold vc;rw[af,List.getElem?_drop,<-af]
theorem sO x0 x1 N (y:N<=1000):∀(ps:List (Int×(Int×Int))) (fy a:Int) (A B:Nat) (v:Rat) (f j:Oq W),(∀p∈ps,Bn N p.1/\Fq p.2)->ps.length<=10->A+B+2*ps.length+2*rz (ps.map Prod.snd)<=500000->N+B<=A->Bn A fy->Bn B a->0<a->(fy:Rat)=(a:Rat)*v->
  ∃d b l m,gZ (ku 2 (fX (jQ 4) (fX (jQ 5) ko))) (iq c) (ps.map Eo) [x0,x1,some (.p (.int fy)),some (.p (.int a)),f,j]=.nx [x0,x1,some (.p (.int d)),some (.p (.int b)),l,m]/\0<b/\(d:Rat)=(b:Rat)*(v+(ps.map λp=>(p.1:Rat)*qv p.2).sum)
 |[],fy,a,A,B,v,f,j,_,_,_,_,_,_,hb,e=>⟨fy,a,f,j,rfl,hb,by rw[e];simp;grind⟩
 | (n,p)::ps,fy,a,A,B,v,f,j,hp,hl,hA,hAB,b1,b2,hb,e=>by
  obtain⟨h,i⟩:=hp (n,p) (by simp);simp only at h i;have hw:rz (((n,p)::ps).map Prod.snd)=wt p+rz (ps.map Prod.snd):=by simp[rz]
  rw[hw]at hA;rw[ay]at hA hl;have r:Bn (wt p) p.1:=(Fy _).mono (Nat.le_max_left _ _);have g:Bn (wt p) p.2:=(Fy _).mono (Nat.le_max_right _ _);have D:=fT (b1.ok g (by lia) (by lia));have t:=fT (h.ok r (by lia) (by lia));have J:=fT ((h.mul r).ok b2 (by lia) (by lia));have s:=fT (b2.ok g (by lia) (by lia));have C:Bn (A+wt p+1) (fy*p.2+n*p.1*a):=((b1.mul g).add ((h.mul r).mul b2)).mono (by lia);have E:Bn (B+wt p) (a*p.2):=b2.mul g;have w:=i.pos;have L:(p.2:Rat)≠0:=by
   intro z;have:p.2=0:=by exact_mod_cast z
   lia
  have x:((fy*p.2+n*p.1*a:Int):Rat)=((a*p.2:Int):Rat)*(v+(n:Rat)*qv p):=by
   have H:((fy*p.2+n*p.1*a:Int):Rat)=(fy:Rat)*(p.2:Rat)+(n:Rat)*(p.1:Rat)*(a:Rat):=by simp
   have u:((a*p.2:Int):Rat)=(a:Rat)*(p.2:Rat):=by simp
   rw[H,u,e];unfold qv;grind
  obtain⟨d,b,l,m,K,k,F⟩:=sO x0 x1 N y ps (fy*p.2+n*p.1*a) (a*p.2) (A+wt p+1) (B+wt p) (v+(n:Rat)*qv p) (some (.p (.int n))) (some (.p (fr p))) (λq i=>hp q (by simp[i])) (by lia) (by lia) (by lia) C E (aW hb w) x;refine⟨d,b,l,m,?_,k,?_⟩
  .rw[bE,gZ];have I:iq c [x0,x1,some (.p (.int fy)),some (.p (.int a)),some (.p (.int n)),some (.p (fr p))]=.nx [x0,x1,some (.p (.int (fy*p.2+n*p.1*a))),some (.p (.int (a*p.2))),some (.p (.int n)),some (.p (fr p))]:=
    eg (eK (ee (ee rfl (ee rfl rfl (Fe p)) D) (ee (ee rfl (ee rfl rfl (Jo p)) t) rfl J) (fO _ _)) rfl) (eK (ee rfl (ee rfl rfl (Fe p)) s) rfl)
   show (match iq c [x0,x1,some (.p (.int fy)),some (.p (.int a)),some (.p (.int n)),some (.p (fr p))] with|.nx ρ2=>gZ (ku 2 (fX (jQ 4) (fX (jQ 5) ko))) (iq c) (ps.map Eo) ρ2|.ct ρ2=>gZ (ku 2 (fX (jQ 4) (fX (jQ 5) ko))) (iq c) (ps.map Eo) ρ2|.bk ρ2=>.nx ρ2|o=>o)=_;rw[I];exact K
  .rw[F,bE,c9];grind
def vQ(x:Rat):Int:=if 0<x then 1 else if x<0 then -1 else 0
def HD{fy a:Int}(g:0<a)(e:(fy:Rat)=(a:Rat)*v):pP fy=vQ v:=by
 have f:=xf g;unfold pP vQ;rcases Int.lt_trichotomy fy 0 with h|h|h
 .have d:(fy:Rat)<0:=by exact_mod_cast h
  have b:v<0:=by refine dA ?_ (dB f);grind
  rw[aQ (by lia),aP h,aQ (by grind),aP b]
 .have d:(fy:Rat)=0:=by rw[h];rfl
  have b:v=0:=by grind
  rw[aQ (by lia),aQ (by lia),aQ (by grind),aQ (by grind)]
 .have d:=xf h;have b:0<v:=by refine dA ?_ (dB f);grind
  rw[aP h,aP b]
def zR(y:B<=900) d u (b:GL d B u) (A:d<=3) s (m:s.length=d) (t:∀p∈s,Fq p) (hw:rz s<=200000):fG (tI u) (.int (-1))=.ok (.int (vc u d))/\∃fy a h i,gZ (ku 2 (fX (jQ 4) (fX (jQ 5) ko))) (iq c) ((u.zip s).map Eo) [some (.p (tI u)),some (.p (tS s)),some (.p (.int (-(vc u d)))),some (.p (.int 1)),none,none]=.nx [some (.p (tI u)),some (.p (tS s)),some (.p (.int fy)),some (.p (.int a)),h,i]/\pP fy=vQ (n9 d (Xs s) (vc u)):=by
 have k:=b.1;have q:fG (tI u) (.int (-1))=.ok (.int (vc u d)):=by
  have g:u≠[]:=λz=>by rw[z]at k;simp at k
  have:lQ (u.map T.int) (-1)=some (.int (vc u d)):=by
   rw[Al _ (by simpa using g),List.getLast?_map,List.getLast?_eq_getElem?];have e:u.length-1=d:=by lia
   rw[e,ag (by lia)];unfold vc;rw[af,ag (by lia)];rfl
  simp[tI,this]
 have v:Bn B (vc u d):=by refine b.2 _ ?_;unfold vc;rw[af,ag (by lia)];exact aU _
 have o:(u.zip s).map Prod.snd=s:=by rw[List.map_snd_zip];lia
 obtain⟨fy,a,h,i,e,x,j⟩:=sO (some (.p (tI u))) (some (.p (tS s))) B (by lia) (u.zip s) (-(vc u d)) 1 (B+1) 1 (-(vc u d)) none none (λp l=>⟨b.2 _ (aV l).1,t _ (aV l).2⟩) (by rw[dh];lia) (by rw[o,dh];lia) (by lia) (v.neg.mono (by lia)) AB (by decide) (by
  have r:((-(vc u d):Int):Rat) = -(vc u d):=by simp
  have n:((1:Int):Rat)=1:=rfl;rw[r,n];grind)
 have f:-(vc u d)+((u.zip s).map λp=>p.1*qv p.2).sum=n9 d (Xs s) (vc u):=by have:=AD d s u m (by lia);unfold Ep at this;rw[this];unfold n9;grind
 rw[f]at j;have w:=HD x j;exact⟨q,fy,a,h,i,e,w⟩
def GP(h:∀p∈s,wt p<=n):rz s<=s.length*n:=by
 induction s with
 |nil=>simp[rz]
 |cons q s ih=>
  have e:rz (q::s)=wt q+rz s:=by simp[rz]
  have:=ih λp a=>h p (by simp[a]);have:=h q (by simp);rw[ay,Nat.add_mul];lia
def BC.mono(h:BC d B us)(b:B<=B'):BC d B' us:=⟨λf a=>(h.gc f a).mono b,h.few,h.pw⟩
def DL a b (h:a.length+b.length<=sizeLine):fR (.lst a) (.lst b)=.ok (.lst (a++b)):=by unfold fR;exact aP h
noncomputable def sk(p i:Nat):Nat:=if i<p then i else i+1
def Dl p i:sk (p+1) (i+1)=sk p i+1:=by unfold sk;split<;>split<;>lia
theorem tw:∀d p f,p<=d->lE (d+1) f=lE d (λi=>f (sk p i))+f p
 |0,0,f,_=>by unfold lE lE;grind
 |d+1,0,f,_=>by
  rw[lE];have:(λi=>f (sk 0 i))=λi=>f (i+1):=funext λi=>by simp[sk]
  rw[this];grind
 |d+1,p+1,f,h=>by
  rw[lE,tw d p (λi=>f (i+1)) (by lia)];have:lE (d+1) (λi=>f (sk (p+1) i))=f 0+lE d (λi=>f (sk p i+1)):=by rw[lE];congr 1;exact lb d _ _ λi _=>by rw[Dl]
  rw[this];grind
def J3(h:p<=d):sk p d=d+1:=by unfold sk;rw[aQ (by lia)]
def He(h:p<=d) X u:n9 (d+1) X u=n9 d (λi=>X (sk p i)) (λi=>u (sk p i))+(u p:Rat)*X p:=by unfold n9;rw[tw d p _ h];dsimp only;rw[J3 h];grind
def wo(row:LI)(p:Nat):LI:=row.take p++row.drop (p+1)
def AO(h:p<row.length):(wo row p).length+1=row.length:=by unfold wo;simp;lia
def FA(h:p<row.length) i:vc (wo row p) i=vc row (sk p i):=by
 unfold wo sk;rw[GG,bL,cP (by lia)];by_cases a:i<p
 .rw[aP a,aP a,ib _ i (by simp;lia),ib _ i (by lia),dC]
 .rw[aQ a,aQ a,AR];congr 1;lia
def oI row (p:Nat) (e:p<row.length) (f:row.length<=100):ie c [tI row,.int (p:Int)]=.ok (tI (wo row p)):=by have a:=nO (fe:=dW 0) (fd:=dW 1) (ρ:=vw (fC 2 [tI row,.int (p:Int)])) rfl rfl (by rw[aw];lia);have b:=vO (fe:=dW 0) (fd:=ey fR (dW 1) (cM (.int 1))) (d:=p+1) (ts:=row.map T.int) (ρ:=vw (fC 2 [tI row,.int (p:Int)])) rfl (ee rfl rfl (by rw[fO];simp)) (by lia) (by intro z;have:=congrArg List.length z;simp at this;subst this;simp at e);rw[<-cL]at a;rw[<-cN]at b;exact fj rfl (eO (ee (x:=tI (row.take p)) (y:=tI (row.drop (p+1))) a b (Hc _ _ (by simp;lia))))
def Bj i j:sy [.int i,.int j]=.ok (.int (max i j)):=by simp;split<;>lia
def oO(h:f ρ=.ok (.lst ts)):nv (dX f d8) ρ=.ok (lJ ts):=by simp only[nv,dX,d8,h,M.bind_ok];rfl
def uC(l:LL)(k:Nat)(h:k<l.length):l.getD k []∈l:=by rw[af,ag h];exact aU h
theorem AM{e d:Type}:∀(u:List e) (s:List d),u.length=s.length+1->u.dropLast.zip s=u.zip s
 |[],_,h=>by simp at h
 |[a],[],_=>rfl
 |a::b::u,[],h=>by simp at h
 |a::b::u,x::s,h=>by rw[List.dropLast_cons_of_ne_nil (by simp),c8,c8,AM (b::u) s (by simpa using h)]
 |[a],x::s,h=>by simp at h
structure Sq(d:Nat)(s:List (Int×Int)):Prop where
 len:s.length=d
 fq:∀p∈s,Fq p
 w:rz s<=200000
def yR(k:d<=3)(a:GL d 84 u)(h:Sq d s):kY c [tI u,tS s]=.ok (.int (vQ (n9 d (Xs s) (vc u)))):=by
 obtain⟨j,fy,f,m,l,e,i⟩:=zR (c:=c) (by decide) d u a k s h.len h.fq h.w;have b:u.map T.int≠[]:=λz=>by have:=congrArg List.length z;rw[aw,a.1]at this;simp at this
 rw[<-AM u s (by rw[a.1,h.len])]at e;rw[<-i];refine fj rfl (eg (eK (zY (ee rfl rfl j)) rfl) (eg (eK rfl rfl) (eg (jr (oP (g:=fr) (x:=.tup (u.dropLast.map T.int)) ?_ rfl rfl rfl) e) (eO (nA rfl (qq fy))))));rw[dD];exact uU (ts:=u.map T.int) rfl b
def wD(f:d<=3)(h:Sq d s):kZ c [.int d,tS s]=.ok (.bl true):=by
 have sz:1000<sizeLine:=by decide
 have e:=h.len;have b:j4 [none] (iJ (dW 1)) (j3 0) (λ_=>.ok true) (qW c) (vw (fC 2 [.int d,tS s]))=.ok ((s.map λ_=>true).map T.bl):=iV s fr (λ_=>T.bl true) rfl (by lia) (λp a=>⟨_,rfl,rfl,nA rfl (AX p (h.fq p a).pos (h.fq p a).one)⟩) (by simp)
 exact fj rfl (eg (fZ (by simp[tS,e]) rfl) (eO (pE b (by rw[nc];simp))))
noncomputable abbrev yU(d:Nat)(cs:LL)(s:List (Int×Int)):LI:=cs.map λu=>vQ (n9 d (Xs s) (vc u))
def sD{cs:LL}(a:1<=d/\d<=3)(b:BC d 84 cs)(h:Sq d s)(l:f ρ=.ok (iK c d cs))(e:g ρ=.ok (tS s)):jZ c.Cutting "sides" f (dX g d8) (f7 c) ρ=.ok (tI (yU d cs s)):=by
 have sz:1000<sizeLine:=by decide
 have m:=b.few;have j:mZ c.Cutting "sides" (iK c d cs)=.ok ():=by unfold mZ iK;exact aP ⟨rfl,rfl⟩
 have k:f7 c [iK c d cs,tS s]=.ok (tI (yU d cs s)):=by refine fj rfl (eg (fZ (lS (eS (gH (qJ rfl rfl) rfl (wD a.2 h))) rfl) rfl) (eO (pE ?_ rfl)));refine iV cs tI (λu=>T.int (vQ (n9 d (Xs s) (vc u)))) (uK (qJ rfl rfl)) (by lia) (λu i=>⟨_,rfl,rfl,gH rfl rfl (yR a.2 (b.gc u i).gl h)⟩) ?_;unfold yU;rw[aH];rfl
 simp only[jZ,l,e,M.bind_ok,j,d8,dX,k,M.noEr_ok]
def IE{a:En->O}(h:t (vw ρ)=.ok true):eN (kC t (λ_=>.er C none) fM) a ρ=.er C none:=by unfold eN kC;rw[h];rfl
section
variable {d:Nat}{cs:LL}{th:T}
def Da(h:f (jY ρ)=.er C none):sd (gY f) ρ=.er C none:=by unfold sd gY;rw[h];rfl
end
def CI i (n:Nat) (h:i<0\/(n:Int)<=i):fV c [.int i,.int (n:Int)]=.ok (.bl false):=by
 have w:∀i:Int,fw c [.int i]=.ok (.bl true):=λi=>rfl;refine fj rfl (eO ?_);by_cases a:0<=i
 .have b:¬i<(n:Int):=by omega
  simp[w,a,b]
 .simp[w,a]
def Gm:(PyData.str "number").canLay0=true:=by rw[PyData.canLay0];decide +kernel
def KY a (b:(PyData.str a).canLay0=true):eQ true (.str a) (.str a)=.ok (.bl false):=by simp[eQ,mH,mC,b]
theorem qP:∀n f,lE (n+1) f=lE n f+f n
 |0,f=>by unfold lE lE;grind
 |n+1,f=>by have:=qP n λi=>f (i+1);show f 0+lE (n+1) (λi=>f (i+1))=(f 0+lE n λi=>f (i+1))+f (n+1);rw[this];grind
def Hu a b:yr (tI a) (tI b)=true↔a=b:=by unfold tI;rw[mC,my,decide_eq_true_eq]
def El neg (xs:LL):eQ neg (.lst (xs.map tI)) (.lst (xs.map tI))=.ok (.bl neg.not):=by have h:=qh xs;have e:=(nW tI Hu xs xs).mpr rfl;unfold eQ;rw[aP (by simp[mH];lia),nR,e];cases neg<;>rfl
def HS(x:Vc):Prop:=∀g:Int,(∀i,g ∣ x i)->(∃i,x i≠0)->g.natAbs=1
def xx{a b z:Int}(h:a ∣ b*z)(e:Int.gcd a b=1):a ∣ z:=by
 have d:a.natAbs ∣ b.natAbs*z.natAbs:=by rw[<-aX];exact cC.mpr h
 exact cC.mp (Nat.Coprime.dvd_of_dvd_mul_left (show Nat.gcd _ _=1 from e) d)
def Dj{x y:Vc}{a b:Int}(A:HS x)(E:HS y)(B:0<a)(I:0<b)(h:∀i,a*x i=b*y i):∀i,x i=y i:=by
 by_cases u:∃i,y i≠0
 .obtain⟨k,s⟩:=u;have Q:0<(Int.gcd a b:Int):=by have:=Int.gcd_pos_of_ne_zero_left b (show a≠0 by lia);lia
  obtain⟨d,r⟩:=cu a b;obtain⟨f,m⟩:=cv a b;have j:Int.gcd d f=1:=by
   have t:=Int.gcd_mul_left (Int.gcd a b:Int) d f;rw[<-r,<-m]at t;have H:Int.gcd a b*1=Int.gcd a b*Int.gcd d f:=by rw[Nat.mul_one];simpa using t
   exact (cD (by lia) H).symm
  have p:∀i,d*x i=f*y i:=λi=>by
   have C:(Int.gcd a b:Int)*(d*x i)=a*x i:=by rw[<-cE,<-r]
   have J:(Int.gcd a b:Int)*(f*y i)=b*y i:=by rw[<-cE,<-m]
   exact dE (show (Int.gcd a b:Int)≠0 by lia) (C.trans ((h i).trans J.symm))
  have g:∀{z l:Int},0<z->z=(Int.gcd a b:Int)*l->0<l:=λ{z l} hz e=>by
   rcases Int.lt_or_le 0 l with q|q
   .exact q
   .have:=Int.mul_le_mul_of_nonneg_left q (show 0<=(Int.gcd a b:Int) by lia);rw[c6]at this;lia
  have L:0<d:=g B r;have N:0<f:=g I m;have w:∀i,d ∣ y i:=λi=>xx ⟨x i,(p i).symm⟩ j;have D:∀i,f ∣ x i:=λi=>xx ⟨y i,p i⟩ (by rw[Int.gcd_comm];exact j);have F:x k≠0:=λz=>by
   have:=h k;rw[z,c6]at this;rcases c7.mp this.symm with q|q
   .lia
   .exact s q
  have K:=E d w ⟨k,s⟩;have P:=A f D ⟨k,F⟩;intro i;have:=p i;have o:d=1:=by lia
  have n:f=1:=by lia
  rw[o,n]at this;lia
 .intro i;have v:y i=0:=aN λz=>u ⟨i,z⟩;have:=h i;rw[v,c6]at this;rcases c7.mp this with q|q
  .lia
  .rw[q,v]
def EN{a b:LI}(f:a.length=b.length)(h:∀i,vc a i=vc b i):a=b:=dF f λi d e=>by rw[<-ib a i d,<-ib b i e];exact h i
def Cn{row:LI}{g:Int}:(∀i,g ∣ vc row i)↔∀x∈row,g ∣ x:=by
 constructor
 .intro h x b;obtain⟨i,a,rfl⟩:=dG.mp b;rw[<-ib row i a];exact h i
 .intro h i;by_cases a:i<row.length
  .rw[ib row i a];exact h _ (aU a)
  .rw[jv row i (by lia)];exact dH _
def Fk{row:LI}(h:∃i,vc row i≠0):∃x∈row,x≠0:=by
 obtain⟨i,a⟩:=h;by_cases b:i<row.length
 .exact⟨row[i],aU b,by rw[<-ib row i b];exact a⟩
 .exact absurd (jv row i (by lia)) a
def wK{row:LI}{a:Int}(d:a≠0)(l:∀x∈row,a ∣ x)(n:∀e:Int,(∀x∈row,e ∣ x)->e ∣ a):(∀i,vc row i=a*vc (row.map λx=>x.fdiv a) i)/\HS (vc (row.map λx=>x.fdiv a)):=by
 have e:∀i,vc row i=a*vc (row.map λx=>x.fdiv a) i:=λi=>by
  by_cases b:i<row.length
  .rw[ib row i b,ib _ i (by simpa using b),c5];obtain⟨q,j⟩:=l _ (aU b);rw[j,cG q d]
  .rw[jv row i (by lia),jv _ i (by simp;lia),c6]
 refine⟨e,λg o p=>?_⟩;have:a*g ∣ a:=n _ (Cn.mp λi=>by rw[e i];exact Int.mul_dvd_mul_left a (o i));obtain⟨k,f⟩:=this;rw[cE]at f;have:g*k=1:=by
  have m:a*1=a*(g*k):=by rw[Int.mul_one];exact f
  exact (dE d m).symm
 have h:=congrArg Int.natAbs this;rw[aX]at h;exact dI h
def yH N (F:N<=8000) row (S:row.length<1000) (v:∀x∈row,Bn N x):∃g u,0<g/\jG c [tI row]=.ok (tI u)/\u.length=row.length/\(∀i,vc row i=g*vc u i)/\HS (vc u)/\∀y∈u,Bn N y:=by
 have sz:1000<sizeLine:=by decide
 have main:=oo (m:=jQ 2) (g:=oQ c) T.int
  (λk D=>∃(a:Int) (B:Oq W),D=[some (.p (tI row)),some (.p (.int a)),B]/\0<=a/\Bn N a/\(∀x∈row.take k,a ∣ x)/\∀e:Int,(∀x∈row.take k,e ∣ x)->e ∣ a)
  (λt=>t=tI row/\HS (vc row)) row 0 _ ⟨0,none,rfl,by decide,nq,(λx d=>by simp at d),λe _=>dH e⟩ (by
   rintro i x D A ⟨a,B,rfl,K,n,f,o⟩;rw[aF]at f o ⊢;have s:=au A;refine⟨_,rfl,?_⟩;have C:setO 1 (gY (eA (dX (dW 1) (dX (dW 2) d8)) (fv c))) [some (.p (tI row)),some (.p (.int a)),some (.p (.int x))]=.nx [some (.p (tI row)),some (.p (.int (Cu.G a x))),some (.p (.int x))]:=eK (gH rfl rfl (ji a x)) rfl;by_cases h:Cu.G a x=1
   .right;refine⟨_,eg C (gQ (eS (ee rfl rfl (by rw[eY,h];rfl))) (eO rfl)),rfl,λg Q _=>?_⟩;have r:=Cn.mp Q;have:g ∣ Cu.G a x:=dJ (o g λz l=>r z (dc l)) (r x s);rw[h]at this;obtain⟨k,J⟩:=this;have n:=congrArg Int.natAbs J;rw[aX]at n;exact dI n.symm
   .left;refine⟨_,eg C (fZ (eS (ee rfl rfl (by rw[eY];simp[h]))) rfl),_,_,rfl,Cu.ki _ _,?_,λz l=>?_,λe w=>?_⟩
    .by_cases b:x=0
     .rw[b,Cu.qr];exact cW (by lia) n
     .have R:=Cu.DT a x b;have U:=Cu.ki a x;exact cW (by lia) (v x s)
    .rw[j7 row i x A]at l;rcases ai.mp l with q|q
     .exact cX (Cu.jn a x) (f z q)
     .rw[aj.mp q];exact Cu.iy a x
    .rw[j7 row i x A]at w;exact dJ (o e λz l=>w z (by simp[l])) (w x (by simp)))
 rcases main with⟨H,e,a,B,rfl,K,n,f,o⟩|⟨t,e,rfl,P⟩
 .rw[aF,cY]at f o;by_cases j:a=0
  .refine⟨1,row,by decide,fj rfl (eg (eK rfl rfl) (eg (jr rfl e) (jo (gQ (eS (ee rfl rfl (by rw[eY,j];rfl))) (eO rfl)) rfl))),rfl,λi=>by rw[cZ],λg _ I=>?_,v⟩;obtain⟨x,d,b⟩:=Fk I;have:=f x d;rw[j]at this;exact absurd (Int.zero_dvd.mp this) b
  .have E:=wK j f o;refine⟨a,row.map (λx=>x.fdiv a),by lia,fj rfl (eg (eK rfl rfl) (eg (jr rfl e) (eg (fZ (eS (ee rfl rfl (by rw[eY];simp[j]))) rfl) (eO ?_)))),by simp,E.1,E.2,λy L=>?_⟩
   .exact km (jb (iV row T.int (λx=>T.int (x.fdiv a)) rfl (by lia) (λx d=>⟨_,rfl,rfl,ee rfl rfl (jH j (n.noPy F))⟩) (by rw[aH];rfl))) rfl
   .obtain⟨x,d,rfl⟩:=aC.mp L;exact cW (qc (f x d) j) (v x d)
 .exact⟨1,row,by decide,fj rfl (eg (eK rfl rfl) (jo (jr rfl e) rfl)),rfl,λi=>by rw[cZ],P,v⟩
def Wv(cut a:LI)(p:Nat):Vc:=λi=>((vc cut p).natAbs:Int)*vc a i-pP (vc cut p)*vc a p*vc cut i
structure uc(cut other:LI)(p:Nat)(ys:LI):Prop where
 len:ys.length+1=other.length
 pr:HS (vc ys)
 ex:∃a b:Int,0<a/\0<b/\∀i,a*vc ys i=b*Wv cut other p (sk p i)
def uc.uniq{cut d m k:LI}{p:Nat}(h:uc cut d p m)(f:uc cut d p k):m=k:=by obtain⟨a,b,q,r,e⟩:=h.ex;obtain⟨n,l,j,g,o⟩:=f.ex;refine EN (by have:=h.len;have:=f.len;lia) (Dj h.pr f.pr (a:=l*a) (b:=b*n) (aW g q) (aW r j) λi=>?_);rw[cE,e i,cE,o i,<-cE,<-cE,cF l b]
def Hf{P:Nat->Prop}:∀n,P n->∃m,m<=n/\P m/\∀k,k<m->¬P k:=by
 intro n;induction n using Nat.strongRecOn with
 |ind n ih=>
  intro h;by_cases z:∃k,k<n/\P k
  .obtain⟨k,a,b⟩:=z;obtain⟨m,d,r⟩:=ih k a b;exact⟨m,by lia,r⟩
  .exact⟨n,aJ _,h,λk a b=>z ⟨k,a,b⟩⟩
def zM a (o:a.length<=100) (q:Nat) (n:q<a.length) (f:vc a q≠0) (m:∀k,k<q->vc a k=0):gh c [tI a]=.ok (.int (q:Int)):=by
 obtain⟨b,e,rfl⟩:=kj (c:=fH (ey (eQ false) (ey fG (dW 0) (dW 1)) (cM (.int 0)))) (g:=kf c)
  (λb=>∃k:Nat,b=[some (.p (tI a)),some (.p (.int (k:Int)))]/\k<=q) (λb=>match b with|_::some (.p (.int j))::_=>q-j.toNat|_=>0)
  (λb=>b=[some (.p (tI a)),some (.p (.int (q:Int)))]) (by
   rintro b ⟨k,rfl,hk⟩;have i:fG (tI a) (.int (k:Int))=.ok (.int (vc a k)):=gL a k (by lia);by_cases d:vc a k=0
   .have l:k≠q:=λz=>f (by rw[<-z];exact d);refine .inr ⟨eS (ee (ee rfl rfl i) rfl (by rw[eY,d];rfl)),_,.inl (eK (ee rfl rfl (by rw[fO];simp)) rfl),⟨k+1,rfl,by lia⟩,?_⟩;show q-(((k+1:Nat):Int)).toNat<q-((k:Int)).toNat;lia
   .have h:k=q:=aN λz=>d (m k (by lia));exact .inl ⟨eS (ee (ee rfl rfl i) rfl (by rw[eY];simp[d])),by rw[h]⟩)
  ((a.map T.int).length+1) [some (.p (tI a)),some (.p (.int ((0:Nat):Int)))] ⟨0,rfl,by lia⟩ (by rw[aw];lia)
 exact fj rfl (eg (eK rfl rfl) (eg e (eO rfl)))
def E6{cut d:LI}{p n:Nat}(hc:cut.length=n)(ho:d.length=n)(Z:n<=10)(hp:p<n)(R:∀x∈cut,Bn 30 x)(S:∀x∈d,Bn 30 x)(m:vc cut p≠0)(B:∀k,k<p->vc cut k=0) :
  ∃f,jq c [tI cut,tI d]=.ok (tI f)/\uc cut d p f/\∀y∈f,Bn 61 y:=by
 have H:=zM (c:=c) cut (by lia) p (by lia) m B;obtain⟨r,X,rl,U,Q,g,s,b,v,w,e,h⟩:=By (c:=c) 30 30 d cut p (by lia) (by lia) (by lia) (by decide) S R m;have E:=oI (c:=c) r p (by lia) (by lia);have Y:=AO (row:=r) (p:=p) (by lia);obtain⟨P,f,j,L,yl,J,K,I⟩:=yH (c:=c) 61 (by decide) (wo r p) (by lia) λx u=>U x (by
  unfold wo at u;rcases ai.mp u with q|q
  .exact dc q
  .exact de q)
 refine⟨f,fj rfl (eg (eK (nA rfl H) rfl) (eO (nA (gH (jL rfl rfl rfl X) rfl E) L))),⟨by lia,K,?_⟩,I⟩;have t:∃a b:Int,0<a/\0<b/\∀i,a*vc r i=b*Wv cut d p i:=by
  by_cases z:vc d p=0
  .have o:b=0:=by
    have:=e p;rw[Q,z,c6,c6,Int.zero_add]at this;rcases c7.mp this.symm with q|q
    .exact q
    .exact absurd q m
   refine⟨((vc cut p).natAbs:Int)*g,s,aW (by lia) v,w,λi=>?_⟩;unfold Wv;rw[z,cE,e i,o];grind
  .obtain⟨A,F⟩:=h z;refine⟨g,1,v,by decide,λi=>?_⟩;unfold Wv;rw[e i,A,F];grind
 obtain⟨a,N,C,l,D⟩:=t;refine⟨a*P,N,aW C j,l,λi=>?_⟩;rw[cE,<-J i,FA (by lia),D]
def zy{cut a:LI}{p n:Nat}(hc:cut.length=n)(ho:a.length=n)(Q:n<=10)(hp:p<n)(E:∀x∈cut,Bn 30 x)(I:∀x∈a,Bn 30 x)(h0:vc cut p≠0) :
  ∃U,jJ c [tI a,tI cut,.int (p:Int)]=.ok (tI U)/\uc cut a p U:=by
 have sz:1000<sizeLine:=by decide
 have i1:fG (tI a) (.int (p:Int))=.ok (.int (vc a p)):=gL a p (by lia);have X:fG (tI cut) (.int (p:Int))=.ok (.int (vc cut p)):=gL cut p (by lia);let h:Int:=pP (vc cut p);have C:Bn 30 (vc cut p):=E _ (getD_mem cut p (by lia));have F:Bn 30 (vc a p):=I _ (getD_mem a p (by lia));have P:Bn 1 h:=by have:=sj (vc cut p);unfold Bn;show _<2;show (pP (vc cut p)).natAbs<2;lia
 let v:LI:=(a.zip cut).map λx=>h*(x.1*vc cut p-vc a p*x.2);have vl:v.length=n:=by simp[v,hc,ho]
 have vv:∀i,vc v i=Wv cut a p i:=λi=>by
  unfold Wv;by_cases B:i<n
  .rw[ib v i (by lia),ib a i (by lia),ib cut i (by lia)];simp only[v,c5,dM];rw[<-pY];show pP (vc cut p)*_=_;grind
  .rw[jv v i (by lia),jv a i (by lia),jv cut i (by lia)];grind
 have vb:∀x∈v,Bn 62 x:=λx f=>by obtain⟨q,l,rfl⟩:=aC.mp f;exact (P.mul (((I _ (aV l).1).mul C).sub (F.mul (E _ (aV l).2)))).mono (by decide)
 let R (x3 x4 x5 o:Oq W):En:=[some (.p (tI a)),some (.p (tI cut)),some (.p (.int (p:Int))),x3,x4,x5,o];have e3:ey fG (jj (lstM (dX (rJ (λi=>.int (-i)) (cM (.int 1))) (dX (cM (.int 1)) d8)))) (i7 qg (dX (ey xI (ey fG (dW 1) (dW 2)) (cM (.int 0))) d8)) (jY (R none none none none))=.ok (.int h):=by
  have s:ey xI (ey fG (dW 1) (dW 2)) (cM (.int 0)) (jY (R none none none none))=.ok (.bl (decide (0<vc cut p))):=ee (ee rfl rfl X) rfl rfl;by_cases l:0<vc cut p
  .have:h=1:=by show pP (vc cut p)=1;unfold pP;rw[aP l]
   rw[aB l]at s;rw[this];exact ee (x:=.lst [.int (-1),.int 1]) (y:=.int 1) rfl (km s rfl) rfl
  .have:h = -1:=by show pP (vc cut p) = -1;unfold pP;rw[aQ l,aP (by lia)]
   rw[aA l]at s;rw[this];exact ee (x:=.lst [.int (-1),.int 1]) (y:=.int 0) rfl (km s rfl) rfl
 have e4:j4 [none,none,some 3,some 1,some 2,some 0] (nj (dX (dW 0) (dX (dW 1) d8))) (rP 2 (jl (j3 0) (jl (j3 1) rO))) (λ_=>.ok true) (rY c) (jY (R (some (.p (.int h))) none none none))=.ok (v.map T.int):=iV (a.zip cut) (λx=>T.tup [.int x.1,.int x.2]) (λx=>T.int (h*(x.1*vc cut p-vc a p*x.2))) (oP rfl rfl rfl rfl) (by rw[dh];lia) (λx f=>⟨_,rfl,rfl,by have D:=I _ (aV f).1;have A:=E _ (aV f).2;have m1:=D.ok C (by decide) (by decide);have Z:=F.ok A (by decide) (by decide);exact ee rfl (ee (ee rfl (ee rfl rfl X) (fT m1)) (ee (ee rfl rfl i1) rfl (fT Z)) rfl) (fT (P.ok ((D.mul C).sub (F.mul A)) (by decide) (by decide)))⟩) (by simp only[v];rw[aH];rfl)
 let w:=wo v p;have wl:w.length+1=n:=by have:=AO (row:=v) (p:=p) (by lia);lia
 have wb:∀x∈w,Bn 62 x:=λx f=>vb x (by
  have f:x∈v.take p++v.drop (p+1):=f;rcases ai.mp f with q|q
  .exact dc q
  .exact de q)
 have e5:ey fR (iH (dW 4) (λ_=>.ok none) (fY (dW 2))) (iH (dW 4) (fY (ey fR (dW 2) (cM (.int 1)))) (λ_=>.ok none)) (jY (R (some (.p (.int h))) (some (.p (.lst (v.map T.int)))) none none))=.ok (.lst (w.map T.int)):=by refine ee (sE (d:=p) rfl rfl) (sI (d:=p+1) rfl (ee rfl rfl (by rw[fO];simp))) ?_;rw[<-cL,<-cN,DL _ _ (by simp;lia),<-aY];rfl
 let r (b:Int) (o:Oq W):En:=R (some (.p (.int h))) (some (.p (.lst (w.map T.int)))) (some (.p (.int b))) o;obtain⟨H,e6,b,o,rfl,d1,d2,u,J⟩:=j8 (m:=jQ 6) (g:=tf c) T.int (λk H=>∃(b:Int) (o:Oq W),H=r b o/\0<=b/\Bn 62 b/\(∀x∈w.take k,b ∣ x)/\∀e:Int,(∀x∈w.take k,e ∣ x)->e ∣ b) w 0 (r 0 none) ⟨0,none,rfl,by decide,nq,(λx f=>by simp at f),λe _=>dH e⟩ (by
  rintro i x H B ⟨b,x2,rfl,D,A,Y,S⟩;rw[aF]at Y S ⊢;have L:=au B;refine⟨_,r (Cu.G b x) (some (.p (.int x))),rfl,.inl (eK (gH rfl rfl (mR b x)) rfl),_,_,rfl,Cu.ki _ _,?_,λz t=>?_,λe K=>?_⟩
  .by_cases j:x=0
   .rw[j,Cu.qr];exact cW (by lia) A
   .have q1:=Cu.DT b x j;have q2:=Cu.ki b x;exact cW (by lia) (wb x L)
  .rw[j7 w i x B]at t;rcases ai.mp t with q|q
   .exact cX (Cu.jn b x) (Y z q)
   .rw[aj.mp q];exact Cu.iy b x
  .rw[j7 w i x B]at K;exact dJ (S e λz t=>K z (by simp[t])) (K x (by simp)))
 rw[aF,cY]at u J;let m:Int:=max 1 b;have hm:m≠0:=by show max 1 b≠0;lia
 have bm:Bn 62 m:=by show (max 1 b).natAbs<2 ^ 62;have:b.natAbs<2 ^ 62:=d2;lia
 have e7:j4 [none,some 5] (iJ (dW 4)) (j3 0) (λ_=>.ok true) (sS c) (vw (r b o))=.ok ((w.map λx=>x.fdiv m).map T.int):=iV w T.int (λx=>T.int (x.fdiv m)) rfl (by lia) (λx f=>⟨_,rfl,rfl,ee (y:=.int m) rfl (Bj 1 b) (jH hm (bm.noPy (by decide)))⟩) (by rw[aH];rfl)
 have e8:jJ c [tI a,tI cut,.int (p:Int)]=.ok (tI (w.map λx=>x.fdiv m)):=fj rfl (eg (ρ':=R (some (.p (.int h))) none none none) (eK e3 rfl) (eg (ρ':=R (some (.p (.int h))) (some (.p (.lst (v.map T.int)))) none none) (eK (jb e4) rfl) (eg (ρ':=R (some (.p (.int h))) (some (.p (.lst (w.map T.int)))) none none) (eK e5 rfl) (eg (ρ':=r 0 none) (eK rfl rfl) (eg (jr rfl e6) (eO (km (jb e7) rfl)))))))
 have N:∀i,vc w i=Wv cut a p (sk p i):=λi=>by rw[show vc w i=vc v (sk p i) from FA (by lia) i,vv]
 refine⟨_,e8,⟨by simp;lia,?_,?_⟩⟩
 .by_cases z:b=0
  .intro g _ Q;obtain⟨x,f,j⟩:=Fk Q;obtain⟨y,hy,rfl⟩:=aC.mp f;have:=u y hy;rw[z]at this;rw[Int.zero_dvd.mp this,Int.zero_fdiv]at j;exact absurd rfl j
  .have:m=b:=by show max 1 b=b;lia
   rw[this];exact (wK z u J).2
 .by_cases z:b=0
  .refine⟨1,1,by decide,by decide,λi=>?_⟩;have:m=1:=by show max 1 b=1;lia
   rw[<-N i,this];have:(w.map λx=>x.fdiv 1)=w:=by refine (cT λx _=>?_).trans (List.map_id w);simp
   rw[this]
  .have:m=b:=by show max 1 b=b;lia
   refine⟨b,1,by lia,by decide,λi=>?_⟩;rw[<-N i,this,cZ];exact ((wK z u J).1 i).symm
def rF d B a b (P:d<=3) (r:B<=1000) (f:GC d B a) (l:GL d B b):gC c [tI a,tI b]=.ok (.bl (gK a b)):=by
 have sz:1000<sizeLine:=by decide
 cases m:gK a b with
 |false=>exact mL d B a b P r f l m
 |true=>
  have J:=f.gl.1;have w:=l.1;obtain⟨q,Q,o⟩:=f.re;obtain⟨p,N,n,v⟩:=lT (c:=c) a (by lia) ⟨q,by lia,o⟩;have H:=gL b p (by lia);have y:=gL a p n;have t:j4 [none,none,some 1,some 2,some 0] (nj (dX (dW 0) (dX (dW 1) d8))) (rP 2 (jl (j3 0) (jl (j3 1) rO))) (λ_=>.ok true) (kJ c) (vw [some (.p (tI a)),some (.p (tI b)),some (.p (.int p))])=.ok (((a.zip b).map λx=>x.1*vc b p==x.2*vc a p).map T.bl):=iV (a.zip b) (λx=>T.tup [.int x.1,.int x.2]) (λx=>T.bl (x.1*vc b p==x.2*vc a p)) (oP rfl rfl rfl rfl) (by rw[dh];lia) (λx h=>⟨_,rfl,rfl,by have D:=f.gl.2 _ (aV h).1;have K:=l.2 _ (aV h).2;have C:=l.2 _ (getD_mem b p (by lia));have L:=f.gl.2 _ (getD_mem a p n);exact ee (ee rfl (ee rfl rfl H) (fT (D.ok C (by lia) (by lia)))) (ee rfl (ee rfl rfl y) (fT (K.ok L (by lia) (by lia)))) (eY _ _)⟩) (by rw[aH];rfl)
  refine fj rfl (eg (eK (nA rfl N) rfl) (eO (pE t ?_)));rw[nc];congr 2;have e:∀k j,k<a.length->j<k->vc a k*vc b j=vc a j*vc b k:=λk j A I=>by unfold gK at m;have:=ck.mp (ck.mp m k (aR.mpr A)) j (aR.mpr I);simpa using this
  refine ck.mpr λz F=>?_;obtain⟨x,h,rfl⟩:=aC.mp F;obtain⟨i,u,g⟩:=dG.mp h;rw[dh]at u;have s:x.1=vc a i:=by rw[<-g,dM,ib a i (by lia)]
  have E:x.2=vc b i:=by rw[<-g,dM,ib b i (by lia)]
  have:x.1*vc b p=x.2*vc a p:=by
   rw[s,E];rcases Nat.lt_trichotomy i p with q|q|q
   .have:=e p i n q;grind
   .rw[q];grind
   .have:=e i p (by lia) q;grind
  simp[this]
def l3{f:Nat->Bool}{n i:Nat}(d:i<n)(h:f i=true)(b:∀k,k<i->f k=false):∃r,(List.range n).filter f=i::r:=by
 obtain⟨m,rfl⟩:∃m,n=i+(m+1):=⟨n-i-1,by lia⟩;rw[List.range_add,List.filter_append];have:(List.range i).filter f=[]:=dN.mpr λk a=>by rw[b k (aR.mp a)];decide
 rw[this,cf,bE,bV,List.filter_cons,Nat.add_zero,aP h];exact⟨_,rfl⟩
def rA(a:LL)(one:LI):List Nat:=(List.range a.length).filter λi=>gK (a.getD i []) one
def vi:List Nat->T
 |[]=>.non
 |i::_=>.int (i:Int)
def CV d B (a:LL) one (I:d<=3) (D:B<=1000) (K:a.length<=7) (J:∀s∈a,GC d B s) (F:GL d B one):gz c [.lst (a.map tI),tI one]=.ok (vi (rA a one)):=by
 let R (l n:Oq W):En:=[some (.p (.lst (a.map tI))),some (.p (tI one)),l,n];have C:lJ (a.map tI)=(a.zipIdx).map λq=>T.tup [.int (q.2:Int),tI q.1]:=by unfold lJ;rw[List.zipIdx_map,aH];rfl
 have main:=oo (m:=ku 2 (fX (jQ 2) (fX (jQ 3) ko))) (g:=kS c) (λ(q:LI×Nat)=>T.tup [.int (q.2:Int),tI q.1])
  (λk z=>(∃l n,z=R l n)/\∀i,i<k->gK (a.getD i []) one=false) (λt=>t=vi (rA a one)) a.zipIdx 0 (R none none) ⟨⟨_,_,rfl⟩,λi h=>absurd h (Nat.not_lt_zero _)⟩ (by
   rintro i q z y ⟨⟨l,n,rfl⟩,b⟩;rw[aF]at b ⊢;rw[List.getElem?_zipIdx]at y;obtain⟨s,v,rfl⟩:=dO.mp y;rw[aF];have w:i<a.length:=(aa.mp v).1;have j:a.getD i []=s:=by rw[af,v];rfl
   have o:=rF (c:=c) d B s one I D (J s (au v)) F;refine⟨_,rfl,?_⟩;cases u:gK s one with
   |true=>rw[u]at o;right;refine⟨_,gQ (eS (gH rfl rfl o)) (eO rfl),?_⟩;obtain⟨r,H⟩:=l3 (f:=λi=>gK (a.getD i []) one) w (by rw[j];exact u) b;unfold rA;rw[H];rfl
   |false=>
    rw[u]at o;left;refine⟨_,fZ (eS (gH rfl rfl o)) rfl,⟨_,_,rfl⟩,λk A=>?_⟩;by_cases x:k=i
    .rw[x,j];exact u
    .exact b k (by lia))
 rcases main with⟨E,e,⟨l,n,rfl⟩,b⟩|⟨t,e,rfl⟩
 .rw[aF,dP]at b;have:rA a one=[]:=dN.mpr λk A=>by rw[b k (aR.mp A)];decide
  rw[this];exact fj rfl (eg (jr (by rw[oO (ts:=a.map tI) rfl,C]) e) (eO rfl))
 .exact fj rfl (jo (jr (by rw[oO (ts:=a.map tI) rfl,C]) e) rfl)
section
variable {α:Type}{m:T->En->Option En}{g:En->List (List T)->mq}{j:Nat}
theorem ot enc (P:Nat->En->List (List T)->Prop):∀(l:List α) (k:Nat) (ρ:En) (d:List (List T)),P k ρ d->
  (∀i a ρ d,l[i]? = some a->P (k+i) ρ d->∃o p f,m (enc a) ρ=some o/\o[j]? = some none/\(g o d=.nx p f\/g o d=.ct p f)/\P (k+i+1) p f)->∃ρ' n,lM m g j (l.map enc) ρ d=.nx ρ' n/\P (k+l.length) ρ' n
 |[],k,ρ,d,h,_=>⟨ρ,d,rfl,h⟩
 |a::l,k,ρ,d,h,st=>by
  obtain⟨o,p,f,s,r,q,v⟩:=st 0 a ρ d rfl h;obtain⟨ρ',n,e,u⟩:=ot enc P l (k+1) p f v λi b ρ d w t=>by have:=st (i+1) b ρ d (by simpa using w) (by rw[show k+(i+1)=k+1+i by lia];exact t);rw[show k+(i+1)+1=k+1+i+1 by lia]at this;exact this
  refine⟨ρ',n,?_,by rw[ay,show k+(l.length+1)=k+1+l.length by lia];exact u⟩;rw[bE];unfold lM;rw[s];dsimp only;rw[r];dsimp only;rcases q with q|q<;>rw[q]<;>exact e
variable {a b:En->List (List T)->mq}{ρ ρ':En}{tss tss':List (List T)}{r:mq}{fc:Pe->M Bool}{ga:En->O}
def hV(h:a ρ tss=.nx ρ' tss')(d:b ρ' tss'=r):nL a b ρ tss=r:=by unfold nL;rw[h];exact d
def DZ(h:a ρ tss=.ct ρ' tss'):nL a b ρ tss=.ct ρ' tss':=by unfold nL;rw[h]
def nC(h:fc (vw ρ)=.ok true)(d:a ρ tss=r):A2 fc a b ρ tss=r:=by unfold A2;rw[h];exact d
def qX(h:fc (vw ρ)=.ok false)(d:b ρ tss=r):A2 fc a b ρ tss=r:=by unfold A2;rw[h];exact d
def mz(h:ga ρ=.nx ρ')(e:ρ'[j]? = some none):jX j ga ρ tss=.nx ρ' tss:=by unfold jX;rw[h];dsimp only;rw[e]
def ym{f:Pe->M (List T)}{us:List T}(h:f (jY ρ)=.ok us)(d:tss.length<sizeLine):qQ f ρ tss=.nx ρ (tss++[us]):=by unfold qQ;rw[h];dsimp only;rw[aP d]
def xF{d f:Pe->M T}{i:Nat}{ts:List T}{t:T}(l:d (jY ρ)=.ok (.int (i:Int)))(k:tss[i]? = some ts)(h:f (jY ρ)=.ok t)(n:ts.length<sizeLine):qe d f ρ tss=.nx ρ (tss.set i (ts++[t])):=by
 have o:i<tss.length:=(aa.mp k).1;have e:qA tss.length (i:Int)=some i:=by unfold qA;rw[aP (by lia),aP (by lia)];simp
 unfold qe;rw[l];dsimp only;rw[e];dsimp only;rw[k];dsimp only;rw[h];dsimp only;rw[aP n]
end
def xM(D:Nat)(one:LI):Bool:=(one.take D).any (· != 0)
abbrev GX:=LL×List (List Nat)
def nu(D:Nat)(S:GX)(j:Nat)(one:LI):GX:=if xM D one then (match rA S.1 one with
 |[]=>(S.1++[one],S.2++[[j]])
 |i::_=>(S.1,S.2.set i (S.2.getD i []++[j]))) else S
def DJ(D:Nat)(o:Nat->LI):Nat->GX
 |0=>([],[])
 |k+1=>nu D (DJ D o k) k (o k)
structure Kl(D:Nat)(o:Nat->LI)(k:Nat)(S:GX):Prop where
 gc:∀s∈S.1,GC D 61 s
 len:S.1.length<=k
 pw:S.1.Pairwise λa b=>gK a b=false
 whl:S.2.length=S.1.length
 wh:∀(i:Nat) s,S.1[i]? = some s->∃j0 r,S.2[i]? = some (j0::r)/\j0<k/\s=o j0/\(j0::r).length<=k
def Jh{D:Nat}{one:LI}(e:one.length=D+1)(f:∀x∈one,Bn 61 x)(h:xM D one=true):GC D 61 one:=by refine⟨⟨e,f⟩,?_⟩;obtain⟨x,d,a⟩:=du.mp h;obtain⟨i,b,rfl⟩:=dG.mp d;rw[bL]at b;refine⟨i,by lia,?_⟩;rw[ib one i (by lia)];rw[dC]at a;simpa using a
def CJ{D:Nat}{o:Nat->LI}{k:Nat}{S:GX}(h:Kl D o k S)(w:(o k).length=D+1)(u:∀x∈o k,Bn 61 x):Kl D o (k+1) (nu D S k (o k)):=by
 have m:∀(i:Nat) s,S.1[i]? = some s->∃g r,S.2[i]? = some (g::r)/\g<k+1/\s=o g/\(g::r).length<=k+1:=λi s e=>by obtain⟨g,r,a,b,d,f⟩:=h.wh i s e;exact⟨g,r,a,by lia,d,by lia⟩
 unfold nu;split
 .rename_i y;split
  .rename_i n;have z:∀s∈S.1,gK s (o k)=false:=λs p=>by obtain⟨i,j,rfl⟩:=dG.mp p;have:=dN.mp n i (aR.mpr j);rw[af,ag j]at this;simpa using this
   refine⟨λs p=>?_,by simp;have:=h.len;lia,dy.mpr ⟨h.pw,by simp,λa n b u=>by rw[aj.mp u];exact z a n⟩,by simp[h.whl],λi s e=>?_⟩
   .rcases ai.mp p with q|q
    .exact h.gc s q
    .rw[aj.mp q];exact Jh w u y
   .by_cases j:i<S.1.length
    .dsimp only at e ⊢;rw[List.getElem?_append_left j]at e;rw[List.getElem?_append_left (by rw[h.whl];exact j)];exact m i s e
    .have l:i<(S.1++[o k]).length:=(aa.mp e).1;rw[aS,bU]at l;have t:i=S.1.length:=by lia
     subst t;dsimp only at e ⊢;rw[List.getElem?_append_right (aJ _),Nat.sub_self]at e;refine⟨k,[],?_,by lia,by simpa using e.symm,by simp⟩;rw[List.getElem?_append_right (by rw[h.whl];exact aJ _),h.whl,Nat.sub_self];rfl
  .rename_i v A n;refine⟨h.gc,by have:=h.len;dsimp only;lia,h.pw,by dsimp only;rw[bQ];exact h.whl,λi s e=>?_⟩;obtain⟨g,r,a,b,d,f⟩:=h.wh i s e;by_cases j:v=i
   .subst j;have l:v<S.2.length:=(aa.mp a).1;refine⟨g,r++[k],?_,by lia,d,by simp at f ⊢;lia⟩;dsimp only;rw[List.getElem?_set_self l,af,a];rfl
   .refine⟨g,r,?_,by lia,d,by lia⟩;dsimp only;rw[aq j];exact a
 .exact⟨h.gc,by have:=h.len;lia,h.pw,h.whl,m⟩
theorem xQ{D:Nat}{o:Nat->LI}{n:Nat}(a:∀k,k<n->(o k).length=D+1)(b:∀k,k<n->∀x∈o k,Bn 61 x):∀k,k<=n->Kl D o k (DJ D o k)
 |0,_=>⟨λ_ h=>(nomatch h),aJ _,.nil,rfl,λi s e=>by simp[DJ]at e⟩
 |k+1,h=>CJ (xQ a b k (by lia)) (a k (by lia)) (b k (by lia))
def nT(l:List Nat):List T:=l.map λ(k:Nat)=>T.int (k:Int)
def GY{D:Nat}{one:LI}(i:D<=3)(f:one.length=D+1):jg c [.int (D:Int),tI one]=.ok (.bl (xM D one)):=by
 rw[sU (c:=c) D (by lia) (tI one) rfl λh e=>by cases e;exact⟨by rw[aw];lia,λt g=>by obtain⟨y,-,rfl⟩:=aC.mp g;rfl⟩]
 congr 2;have a:(one.map T.int).length=D+1:=by simp[f]
 have b:(one.map T.int).all isInt=true:=ck.mpr λx d=>by obtain⟨y,-,rfl⟩:=aC.mp d;rfl
 show (decide ((one.map T.int).length=D+1)&&(one.map T.int).all isInt&&(match mY (one.map T.int) with|some ns=>(ns.take D).any (· != 0)|none=>false))=_;rw[aB a,b,pj];rfl
def DD(t:T) ts:fG (.lst (t::ts)) (.int 0)=.ok t:=by have h:lQ (t::ts) ((0:Nat):Int)=some t:=nS rfl;unfold fG;show (match lQ (t::ts) ((0:Nat):Int) with|some t=>M.ok t|none=>.bad)=_;rw[h]
def Ef{cut d:LI}{p D:Nat}(h:uc cut cut p d):xM D d=false:=by
 obtain⟨a,b,j,k,e⟩:=h.ex;have z:∀i,vc d i=0:=λi=>by
  have:=e i;have w:Wv cut cut p (sk p i)=0:=by unfold Wv;rw[<-pY];grind
  rw[w,c6]at this;rcases c7.mp this with q|q
  .lia
  .exact q
 unfold xM;refine bD.mpr λx f=>?_;have f:=dc f;obtain⟨i,g,rfl⟩:=dG.mp f;rw[<-ib d i g,z i];decide
def J8{D:Nat}{one:LI}(d:one.length=D+1):decide (one.dropLast=List.replicate D (0:Int))=!xM D one:=by
 have e:one.dropLast=one.take D:=by rw[cS,d];rfl
 rw[e];cases h:xM D one with
 |true=>refine aA λq=>?_;unfold xM at h;rw[q]at h;obtain⟨x,a,b⟩:=du.mp h;rw[(List.mem_replicate.mp a).2]at b;exact absurd b (by decide)
 |false=>refine aB (dq.mpr ⟨by rw[bL,d];lia,λx a=>?_⟩);have:=bD.mp h x a;simpa using this
theorem za{D:Nat}{cs:LL}(hD:1<=D/\D<=2)(hg:BC (D+1) 30 cs)(k:Nat)(hk:k<cs.length):∃(p:Nat) (S:GX),
  (p<D+1/\vc (cs.getD k []) p≠0/\∀q,q<p->vc (cs.getD k []) q=0)/\BC D 61 S.1/\S.2.length=S.1.length/\
  (∀(i:Nat) s,S.1[i]? = some s->∃X r,S.2[i]? = some (X::r)/\X<cs.length/\uc (cs.getD k []) (cs.getD X []) p s/\(X::r).length<=7)/\
  ip c [iK c (D+1) cs,.int (k:Int)]=.ok (.tup [iK c D S.1,.lst (S.2.map λl=>T.lst (nT l))])/\
  iZ c [.int ((D+1:Nat):Int),.lst (cs.map tI),.int (k:Int)]=.ok (.tup [.lst (S.1.map tI),.lst (S.2.map λl=>T.lst (nT l))]):=by
 have sz:1000<sizeLine:=by decide
 have h7:=hg.few;have mem:∀j,j<cs.length->GC (D+1) 30 (cs.getD j []):=λj J=>hg.gc _ (uC cs j J);have B:=mem k hk;obtain⟨q0,hq0,hq1⟩:=B.re;obtain⟨p,hpq,hp0,N⟩:=Hf (P:=λi=>vc (cs.getD k []) i≠0) q0 hq1;have N:∀q,q<p->vc (cs.getD k []) q=0:=λq hq=>aN λz=>N q hq z;obtain⟨o,ho⟩:=zG (P:=λ(j:Nat) (ys:LI)=>jq c [tI (cs.getD k []),tI (cs.getD j [])]=.ok (tI ys)/\jJ c [tI (cs.getD j []),tI (cs.getD k []),.int (p:Int)]=.ok (tI ys)/\uc (cs.getD k []) (cs.getD j []) p ys/\∀y∈ys,Bn 61 y) (List.range cs.length) λj J=>by have gj:=mem j (aR.mp J);obtain⟨ys,e1,s1,b1⟩:=E6 (c:=c) (n:=D+2) B.gl.1 gj.gl.1 (by lia) (by lia) B.gl.2 gj.gl.2 hp0 N;obtain⟨zs,e2,s2⟩:=zy (c:=c) (n:=D+2) B.gl.1 gj.gl.1 (by lia) (by lia) B.gl.2 gj.gl.2 hp0;exact⟨ys,e1,by rw[s1.uniq s2];exact e2,s1,b1⟩
 have ho:∀j,j<cs.length->_:=λj J=>ho j (aR.mpr J);have ol:∀j,j<cs.length->(o j).length=D+1:=λj J=>by have h1:=(ho j J).2.2.1.len;have h2:=(mem j J).gl.1;lia
 have ob:∀j,j<cs.length->∀x∈o j,Bn 61 x:=λj J=>(ho j J).2.2.2;have run:=xQ (D:=D) (o:=o) ol ob;let S (i:Nat):GX:=DJ D o i;have L:=run cs.length (aJ _);have gS:BC D 61 (S cs.length).1:=⟨L.gc,aM L.len h7,L.pw⟩;have ixc:∀j,j<cs.length->fG (.lst (cs.map tI)) (.int (j:Int))=.ok (tI (cs.getD j [])):=λj J=>by have:lQ (cs.map tI) (j:Int)=some (tI (cs.getD j [])):=nS (by rw[av,af,ag J];rfl);simp only[fG,this]
 have alt:∀i,i<cs.length->∀x∈rA (S i).1 (o i),x<(S i).1.length:=λi _ x hx=>aR.mp (aT.mp hx).1;have st0:∀i,xM D (o i)=false->S (i+1)=S i:=λi h=>by show nu D (S i) i (o i)=_;unfold nu;rw[h];rfl
 have st1:∀i,xM D (o i)=true->rA (S i).1 (o i)=[]->S (i+1)=((S i).1++[o i],(S i).2++[[i]]):=λi h h'=>by show nu D (S i) i (o i)=_;unfold nu;rw[h,h'];rfl
 have st2:∀i u r,xM D (o i)=true->rA (S i).1 (o i)=u::r->S (i+1)=((S i).1,(S i).2.set u ((S i).2.getD u []++[i])):=λi u r h h'=>by show nu D (S i) i (o i)=_;unfold nu;rw[h,h'];rfl
 have nset:∀i u,((S i).2.set u ((S i).2.getD u []++[i])).map nT=((S i).2.map nT).set u (nT ((S i).2.getD u [])++[T.int (i:Int)]):=λi u=>by rw[dg];simp[nT]
 have nget:∀i u,i<cs.length->u<(S i).1.length->((S i).2.map nT)[u]? = some (nT ((S i).2.getD u []))/\(nT ((S i).2.getD u [])).length<sizeLine:=λi u hi h=>by have I:=run i (by lia);obtain⟨X,r,a,_,_,f⟩:=I.wh u _ (ag h);have a':(S i).2[u]? = some (X::r):=a;rw[av,af,a'];refine⟨rfl,?_⟩;show (nT (X::r)).length<sizeLine;unfold nT;rw[aw];lia
 have slen:∀i,i<cs.length->(S i).1.length<=7/\((S i).2.map nT).length<=7:=λi hi=>by have I:=run i (by lia);have h1:=I.len;have h2:=I.whl;have h1':(S i).1.length<=i:=h1;have h2':(S i).2.length=(S i).1.length:=h2;rw[aw];lia
 let R (sn:LL) (x6 Y K x9:Oq W):En:=[some (.p (iK c (D+1) cs)),some (.p (.int (k:Int))),some (.p (.int (D:Int))),some (.p (.lst (cs.map tI))),some (.o (sn.map tI)),none,x6,Y,K,x9];obtain⟨w,tss1,e1,⟨y6,y7,y8,y9,rfl⟩,rfl⟩:=ot (j:=5) (m:=ku 2 (fX (jQ 6) (fX (jQ 7) ko))) (g:=lF c) (λ(q:LI×Nat)=>T.tup [.int (q.2:Int),tI q.1])
  (λi ρ U=>(∃x6 Y K x9,ρ=R (S i).1 x6 Y K x9)/\U=(S i).2.map nT) cs.zipIdx 0 (R [] none none none none) [] ⟨⟨_,_,_,_,rfl⟩,rfl⟩ (by
   rintro i q ρ U hi ⟨⟨x6,Y,K,x9,rfl⟩,rfl⟩;rw[aF]at *;rw[List.getElem?_zipIdx]at hi;obtain⟨s,hs,rfl⟩:=dO.mp hi;rw[aF];have E:i<cs.length:=(aa.mp hs).1;have hg':cs.getD i []=s:=by rw[af,hs];rfl
   obtain⟨es,_,_,_⟩:=ho i E;rw[hg']at es;have ic:=GY (c:=c) (D:=D) (by lia) (ol i E);obtain⟨l1,l2⟩:=slen i E;let w:=R (S i).1 (some (.p (.int (i:Int)))) (some (.p (tI s))) K x9;let C:=R (S i).1 (some (.p (.int (i:Int)))) (some (.p (tI s))) (some (.p (tI (o i)))) x9;have a1:jX 5 (setO 8 (gY (eA (dX (ey fG (dW 3) (dW 1)) (dX (dW 7) d8)) (jq c)))) w ((S i).2.map nT)=.nx C ((S i).2.map nT):=mz (eK (gH (ee rfl rfl (ixc k hk)) rfl es) rfl) rfl;cases F:xM D (o i) with
   |false=>rw[F]at ic;exact⟨w,C,(S i).2.map nT,rfl,rfl,.inl (hV a1 (qX (eS (gH rfl rfl ic)) rfl)),⟨_,_,_,_,by rw[st0 i F]⟩,by rw[st0 i F]⟩
   |true=>
    rw[F]at ic;have pl:=CV (c:=c) D 61 (S i).1 (o i) (by lia) (by decide) l1 (run i (by lia)).gc ⟨ol i E,ob i E⟩;let v:=R (S i).1 (some (.p (.int (i:Int)))) (some (.p (tI s))) (some (.p (tI (o i)))) (some (.p (vi (rA (S i).1 (o i)))));have a2:jX 5 (setO 9 (oS (eA (dX (dW 4) (dX (dW 8) d8)) (gz c)))) C ((S i).2.map nT)=.nx v ((S i).2.map nT):=mz (tV (gH rfl rfl pl) (by unfold vi;split<;>rfl) rfl) rfl;cases H:rA (S i).1 (o i) with
    |nil=>
     have t1:fH (ey (wg false) (dW 9) (cM .non)) (vw v)=.ok true:=by show fH (ey (wg false) (dW 9) (cM .non)) (vw (R _ _ _ _ (some (.p (vi (rA (S i).1 (o i)))))))=_;rw[H];rfl
     have e:=st1 i F H;refine⟨w,R ((S i).1++[o i]) (some (.p (.int (i:Int)))) (some (.p (tI s))) (some (.p (tI (o i)))) (some (.p (vi (rA (S i).1 (o i))))),(S i).2.map nT++[[.int (i:Int)]],rfl,rfl,.inl (hV a1 (nC (eS (gH rfl rfl ic)) (hV a2 (nC t1 (hV (mz (tY (us:=(S i).1.map tI) rfl rfl (by rw[aw];lia) ?_) rfl) (ym rfl (by lia))))))),⟨_,_,_,_,by rw[e]⟩,by rw[e];simp[nT]⟩;show R _ _ _ _ _=[_,_,_,_,some (.o ((S i).1.map tI++[tI (o i)])),_,_,_,_,_];simp[R]
    |cons u r=>
     have hi0:u<(S i).1.length:=alt i E u (by rw[H];simp);obtain⟨g1,g2⟩:=nget i u E hi0;have t1:fH (ey (wg false) (dW 9) (cM .non)) (vw v)=.ok false:=by show fH (ey (wg false) (dW 9) (cM .non)) (vw (R _ _ _ _ (some (.p (vi (rA (S i).1 (o i)))))))=_;rw[H];rfl
     have t2:dW 9 (jY v)=.ok (.int (u:Int)):=by show dW 9 (jY (R _ _ _ _ (some (.p (vi (rA (S i).1 (o i)))))))=_;rw[H];rfl
     have e:=st2 i u r F H;exact⟨w,v,_,rfl,rfl,.inl (hV a1 (nC (eS (gH rfl rfl ic)) (hV a2 (qX t1 (xF t2 g1 rfl g2))))),⟨_,_,_,_,by rw[e]⟩,by rw[e];exact (nset i u).symm⟩)
 rw[aF,dP]at e1;have hz:lJ (cs.map tI)=(cs.zipIdx).map λq=>T.tup [.int (q.2:Int),tI q.1]:=by unfold lJ;rw[List.zipIdx_map,aH];rfl
 have i1:=xR (c:=c) D 61 (S cs.length).1 (by lia) (by decide) gS;have prog:ip c [iK c (D+1) cs,.int (k:Int)]=.ok (.tup [iK c D (S cs.length).1,.lst ((S cs.length).2.map λl=>T.lst (nT l))]):=by
  let R0 (x2 x3 x4 x5:Oq W):En:=[some (.p (iK c (D+1) cs)),some (.p (.int (k:Int))),x2,x3,x4,x5,none,none,none,none];have sub:lN (.int ((D+1:Nat):Int)) (.int 1)=.ok (.int (D:Int)):=by rw[lj];congr 2;lia
  have f0:nP (nv (dX (dW 3) d8)) 5 (ku 2 (fX (jQ 6) (fX (jQ 7) ko))) (lF c) (R0 (some (.p (.int (D:Int)))) (some (.p (.lst (cs.map tI)))) (some (.o [])) (some (.o [])))=.nx ((R (S cs.length).1 y6 y7 y8 y9).set 5 (some (.o (((S cs.length).2.map nT).map T.lst)))):=by unfold nP;show O.of (nv (dX (dW 3) d8) (jY (R0 _ _ _ _))) _=_;rw[oO (ts:=cs.map tI) rfl,hz,O.of_ok];show BF 5 (lM _ _ 5 _ (R [] none none none none) [])=_;rw[e1];rfl
  have n0:eQ false (.int (D:Int)) (.int 0)=.ok (.bl false):=by
   have z:((D:Int)==0)=false:=by simp;lia
   rw[eY,z]
  have num:=uq (c:=c) k cs.length hk;refine fj rfl (eg (ρ':=R0 (some (.p (.int (D:Int)))) none none none) (eK (ee (pZ (D+1) cs rfl) rfl sub) rfl) (eg (fZ (pD (eS (ee rfl rfl n0)) (lS (eS (gH rfl (xv (D+1) cs rfl) num)) rfl)) rfl) (eg (eK (jb (yB (D+1) cs rfl)) rfl) (eg (lD rfl rfl) (eg (lD rfl rfl) (eg f0 (eO (AK (gH rfl rfl i1) ?_))))))));show M.ok (T.lst (((S cs.length).2.map nT).map T.lst))=_;rw[aH];rfl
 let Q (sn:LL) (x6 Y K:Oq W):En:=[some (.p (.int ((D+1:Nat):Int))),some (.p (.lst (cs.map tI))),some (.p (.int (k:Int))),some (.p (.int (p:Int))),some (.o (sn.map tI)),none,x6,Y,K];obtain⟨C,tss2,e2,⟨z6,z7,z8,rfl⟩,rfl⟩:=ot (j:=5) (m:=jQ 6) (g:=lG c) (λ(i:Nat)=>T.int (i:Int))
  (λi ρ U=>(∃x6 Y K,ρ=Q (S i).1 x6 Y K)/\U=(S i).2.map nT) (List.range cs.length) 0 (Q [] none none none) [] ⟨⟨_,_,_,rfl⟩,rfl⟩ (by
   rintro i q ρ U hi ⟨⟨x6,Y,K,rfl⟩,rfl⟩;rw[aF]at *;obtain⟨Z,ik⟩:=aa.mp hi;rw[dQ]at ik;subst ik;rw[dz]at Z;obtain⟨_,es,sn,_⟩:=ho i Z;obtain⟨l1,l2⟩:=slen i Z;let A:List T:=(rA (S i).1 (o i)).map λ(x:Nat)=>T.int (x:Int);let w:=Q (S i).1 (some (.p (.int (i:Int)))) Y K;let C:=Q (S i).1 (some (.p (.int (i:Int)))) (some (.p (tI (o i)))) K;let v:=Q (S i).1 (some (.p (.int (i:Int)))) (some (.p (tI (o i)))) (some (.p (.lst A)));have a1:jX 5 (setO 7 (gY (eA (dX (ey fG (dW 1) (dW 6)) (dX (ey fG (dW 1) (dW 2)) (dX (dW 3) d8))) (jJ c)))) w ((S i).2.map nT)=.nx C ((S i).2.map nT):=mz (eK (jL (ee rfl rfl (ixc i Z)) (ee rfl rfl (ixc k hk)) rfl es) rfl) rfl;have ea:j4 [none,some 7,some 4] (iz (dX (i7 iL (dX (dW 4) d8)) d8)) (j3 0) (fH (eA (dX (ey fG (dW 2) (dW 0)) (dX (dW 1) d8)) (gq c))) (lr c) (vw C)=.ok A:=
    t5 (List.range (S i).1.length) (λ(x:Nat)=>T.int (x:Int)) (λ(x:Nat)=>T.int (x:Int)) (λx=>gK ((S i).1.getD x []) (o i)) (kh (S i).1.length (by lia) (km (t:=.lst ((S i).1.map tI)) rfl (by simp))) (by rw[dz];lia) (λx hx=>by
     have hx:=aR.mp hx;have gx:=(run i (by lia)).gc _ (uC (S i).1 x hx);have ix:fG (.lst ((S i).1.map tI)) (.int (x:Int))=.ok (tI ((S i).1.getD x [])):=by have:lQ ((S i).1.map tI) (x:Int)=some (tI ((S i).1.getD x [])):=nS (by rw[av,af,ag hx];rfl);simp only[fG,this]
     exact⟨_,rfl,eS (gH (ee rfl rfl ix) rfl (oY (D+1) 61 _ _ gx.gl.1 (ol i Z) (by lia) (by decide) gx.gl.2 (ob i Z))),λ_=>rfl⟩) rfl
   have a2:jX 5 (uL 8 (pL (j4 [none,some 7,some 4] (iz (dX (i7 iL (dX (dW 4) d8)) d8)) (j3 0) (fH (eA (dX (ey fG (dW 2) (dW 0)) (dX (dW 1) d8)) (gq c))) (lr c)))) C ((S i).2.map nT)=.nx v ((S i).2.map nT):=mz (EU ea (by
    show y0 ((rA (S i).1 (o i)).map λ(x:Nat)=>T.int (x:Int))=true;generalize rA (S i).1 (o i)=l;induction l with
    |nil=>rfl
    |cons x l ih=>simp only[bE,y0,lf,ih];rfl) rfl) rfl
   have b2:fH (ey (eQ false) (iH (dW 7) (λ_=>.ok none) (fY (rJ (λi=>.int (-i)) (cM (.int 1))))) (vp (mD (dX (cM (.int 0)) d8)) (ey lN (dW 0) (cM (.int 1))))) (vw v)=.ok (!xM D (o i)):=by
    have hne:(o i).map T.int≠[]:=λz=>by have:=congrArg List.length z;rw[aw,ol i Z]at this;simp at this
    refine eS (ee (x:=.tup ((o i).dropLast.map T.int)) (y:=.tup ((List.replicate D (0:Int)).map T.int)) ?_ (Jp D (by lia) (ee rfl rfl (by rw[lj];congr 2;lia))) ?_)
    .rw[uU (ts:=(o i).map T.int) rfl hne,dD]
    .rw[B9,aQ (by decide),J8 (ol i Z)]
   have b1:fH (ey (eQ false) (dW 6) (dW 2)) (vw v)=.ok (decide (i=k)):=by refine eS (ee (x:=.int (i:Int)) (y:=.int (k:Int)) rfl rfl ?_);rw[eY];congr 2;rw[bB];simp;lia
   cases F:xM D (o i) with
   |false=>
    have tt:L3.oz (fH (ey (eQ false) (dW 6) (dW 2))) (fH (ey (eQ false) (iH (dW 7) (λ_=>.ok none) (fY (rJ (λi=>.int (-i)) (cM (.int 1))))) (vp (mD (dX (cM (.int 0)) d8)) (ey lN (dW 0) (cM (.int 1)))))) (vw v)=.ok true:=by
     by_cases hik:i=k
     .rw[aB hik]at b1;exact AJ b1
     .rw[aA hik]at b1;rw[F]at b2;exact pD b1 b2
    exact⟨w,v,(S i).2.map nT,rfl,rfl,.inr (hV a1 (hV a2 (DZ (nC tt rfl)))),⟨_,_,_,by rw[st0 i F]⟩,by rw[st0 i F]⟩
   |true=>
    have hik:i≠k:=λz=>by subst z;rw[Ef sn]at F;cases F
    rw[aA hik]at b1;rw[F]at b2;have ff:=pD b1 b2;cases H:rA (S i).1 (o i) with
    |nil=>
     have t1:fH (ey (eQ false) (dW 8) (jj (lstM d8))) (vw v)=.ok true:=by show fH (ey (eQ false) (dW 8) (jj (lstM d8))) (vw (Q _ _ _ (some (.p (.lst ((rA (S i).1 (o i)).map λ(x:Nat)=>T.int (x:Int)))))))=_;rw[H];rfl
     have e:=st1 i F H;refine⟨w,Q ((S i).1++[o i]) (some (.p (.int (i:Int)))) (some (.p (tI (o i)))) (some (.p (.lst A))),(S i).2.map nT++[[.int (i:Int)]],rfl,rfl,.inl (hV a1 (hV a2 (hV (qX ff rfl) (nC t1 (hV (mz (tY (us:=(S i).1.map tI) rfl rfl (by rw[aw];lia) ?_) rfl) (ym rfl (by lia))))))),⟨_,_,_,by rw[e]⟩,by rw[e];simp[nT]⟩;show Q _ _ _ _=[_,_,_,_,some (.o ((S i).1.map tI++[tI (o i)])),_,_,_,_];simp[Q]
    |cons u r=>
     have hi0:u<(S i).1.length:=alt i Z u (by rw[H];simp);obtain⟨g1,g2⟩:=nget i u Z hi0;have t1:fH (ey (eQ false) (dW 8) (jj (lstM d8))) (vw v)=.ok false:=by refine eS (ee (x:=.lst (((u:Int)::r.map λ(x:Nat)=>(x:Int)).map T.int)) (y:=.lst (([]:LI).map T.int)) ?_ rfl (by rw[B4];rfl));show M.ok (T.lst ((rA (S i).1 (o i)).map λ(x:Nat)=>T.int (x:Int)))=_;rw[H];simp
     have t2:ey fG (dW 8) (cM (.int 0)) (jY v)=.ok (.int (u:Int)):=by show ey fG (dW 8) (cM (.int 0)) (jY (Q _ _ _ (some (.p (.lst ((rA (S i).1 (o i)).map λ(x:Nat)=>T.int (x:Int)))))))=_;rw[H];exact ee rfl rfl (DD _ _)
     have e:=st2 i u r F H;exact⟨w,v,_,rfl,rfl,.inl (hV a1 (hV a2 (hV (qX ff rfl) (qX t1 (xF t2 g1 rfl g2))))),⟨_,_,_,by rw[e]⟩,by rw[e];exact (nset i u).symm⟩)
 rw[aF,dz]at e2;have lawt:iZ c [.int ((D+1:Nat):Int),.lst (cs.map tI),.int (k:Int)]=.ok (.tup [.lst ((S cs.length).1.map tI),.lst ((S cs.length).2.map λl=>T.lst (nT l))]):=by
  let Q0 (x3 x4 x5:Oq W):En:=[some (.p (.int ((D+1:Nat):Int))),some (.p (.lst (cs.map tI))),some (.p (.int (k:Int))),x3,x4,x5,none,none,none];obtain⟨r,hr⟩:=l3 (f:=λi=>!(vc (cs.getD k []) i==0)) (n:=D+1) (i:=p) (by lia) (by simpa using hp0) (λq hq=>by simpa using N q hq);have ep:j4 [none,some 1,some 2] (iz (dX (dW 0) d8)) (j3 0) (fH (ey (eQ true) (ey fG (ey fG (dW 1) (dW 2)) (dW 0)) (cM (.int 0)))) (nY c) (jY (Q0 none none none))=.ok ((p::r).map λ(x:Nat)=>T.int (x:Int)):=t5 (List.range (D+1)) (λ(x:Nat)=>T.int (x:Int)) (λ(x:Nat)=>T.int (x:Int)) (λi=>!(vc (cs.getD k []) i==0)) (kh (D+1) (by lia) rfl) (by rw[dz];lia) (λx hx=>by have hx:=aR.mp hx;exact⟨_,rfl,eS (ee (ee (ee rfl rfl (ixc k hk)) rfl (gL _ x (by rw[B.gl.1];lia))) rfl (l7 _ _)),λ_=>rfl⟩) (by rw[hr])
  have f0:nP (iz (dX (i7 iL (dX (dW 1) d8)) d8)) 5 (jQ 6) (lG c) (Q0 (some (.p (.int (p:Int)))) (some (.o [])) (some (.o [])))=.nx ((Q (S cs.length).1 z6 z7 z8).set 5 (some (.o (((S cs.length).2.map nT).map T.lst)))):=by unfold nP;show O.of (iz (dX (i7 iL (dX (dW 1) d8)) d8) (jY (Q0 _ _ _))) _=_;rw[kh cs.length (by lia) (km (t:=.lst (cs.map tI)) rfl (by simp)),O.of_ok];show BF 5 (lM _ _ 5 _ (Q [] none none none) [])=_;rw[e2];rfl
  refine fj rfl (eg (ρ':=Q0 (some (.p (.int (p:Int)))) none none) (eK (ee (jb ep) rfl (DD _ _)) rfl) (eg (lD rfl rfl) (eg (lD rfl rfl) (eg f0 (eO (AK rfl ?_))))));show M.ok (T.lst (((S cs.length).2.map nT).map T.lst))=_;rw[aH];rfl
 refine⟨p,S cs.length,⟨by lia,hp0,N⟩,gS,L.whl,λi s e=>?_,prog,lawt⟩;obtain⟨X,r,a,b,d,f⟩:=L.wh i s e;exact⟨X,r,a,b,by rw[d];exact (ho X b).2.2.1,by lia⟩
def mE(t b:Int):Int×Int:=(t.fdiv (if b<0 then -Cu.G t b else Cu.G t b),b.fdiv (if b<0 then -Cu.G t b else Cu.G t b))
def yA{t b:Int}(d:b≠0)(j:Bn 60 t)(f:Bn 60 b):fS c [.int t,.int b]=.ok (fr (mE t b))/\Fq (mE t b)/\qv (mE t b)*(b:Rat)=(t:Rat)/\wt (mE t b)<=60:=by
 have a:=Cu.Bv t b d;have m:=Cu.A6 t b d;have g:(if b<0 then -Cu.G t b else Cu.G t b)≠0:=by split<;>lia
 have h:(if b<0 then -Cu.G t b else Cu.G t b) ∣ t:=by
  split
  .exact Int.neg_dvd.mpr (Cu.jn t b)
  .exact Cu.jn t b
 have i:(if b<0 then -Cu.G t b else Cu.G t b) ∣ b:=by
  split
  .exact Int.neg_dvd.mpr (Cu.iy t b)
  .exact Cu.iy t b
 refine⟨uN t b d (f.mono (by decide)),⟨a.pos,a.one⟩,?_,?_⟩
 .have e:=a.is;have l:=xf a.pos;have n:(((mE t b).1:Int):Rat)*(b:Rat)=(t:Rat)*(((mE t b).2:Int):Rat):=by exact_mod_cast e
  have k:(0:Rat)<(((mE t b).2:Int):Rat):=l;unfold qv;grind
 .exact Nat.max_le.mpr ⟨Fc (show Bn 60 _ from cW (qc h g) j) (by decide),Fc (show Bn 60 _ from cW (qc i g) f) (by decide)⟩
def Kj{a b z t:Rat}(h:0<z)(d:a*z=t)(g:b*z=t):a=b:=by
 have f:z≠0:=λe=>by rw[e]at h;exact absurd h (by decide)
 have e:∀x:Rat,x*z*z⁻¹=x:=λx=>by rw[Rat.mul_assoc,Rat.mul_inv_cancel z f,Rat.mul_one]
 rw[<-e a,<-e b,d,g]
def GK:∀(d p:Nat) (f:Nat->Rat),p<d->lE d f=lE d (λq=>if q=p then 0 else f q)+f p:=by intro d p f h;obtain⟨e,rfl⟩:∃e,d=e+1:=⟨d-1,by lia⟩;rw[tw e p f (by lia),tw e p (λq=>if q=p then 0 else f q) (by lia),aP rfl];have:lE e (λi=>if sk p i=p then 0 else f (sk p i))=lE e (λi=>f (sk p i)):=lb _ _ _ λi _=>aQ (by unfold sk;split<;>lia);rw[this];grind
def vY{own:LI}{d p:Nat}(a:Int)(hd:1<=d/\d<=3)(hl:own.length=d+1)(hb:∀x∈own,Bn 30 x)(S:p<d)(h0:vc own p≠0) :
  ∃s,ig c [tI own,.int (p:Int),.int a,.int (d:Int)]=.ok (tS s)/\Sq d s/\n9 d (Xs s) (vc own)=0:=by
 have sz:1000<sizeLine:=by decide
 have D:∀j,j<d+1->fG (tI own) (.int (j:Int))=.ok (.int (vc own j)):=λj h=>gL own j (by lia);have E:∀j,Bn 30 (vc own j):=λj=>by
  by_cases h:j<own.length
  .exact hb _ (getD_mem own j h)
  .rw[jv own j (by lia)];exact nq
 let P (j:Nat):Int×Int:=(dr c a (90+(j:Int)) 13-6,1+dr c a (95+(j:Int)) 3);have N:∀j,j<d->eG c [.int a,.int (90+(j:Int)),.int 13]=.ok (.int (dr c a (90+(j:Int)) 13))/\eG c [.int a,.int (95+(j:Int)),.int 3]=.ok (.int (dr c a (95+(j:Int)) 3))/\Bn 3 (P j).1/\(1<=(P j).2/\(P j).2<=3):=λj h=>by obtain⟨X,a2,a3⟩:=iE (c:=c) a (90+(j:Int)) 13 (by decide) (by decide) (by lia) (by lia);obtain⟨y,b2,b3⟩:=iE (c:=c) a (95+(j:Int)) 3 (by decide) (by decide) (by lia) (by lia);exact⟨X,y,show (dr c a (90+(j:Int)) 13-6).natAbs<8 by lia,show 1<=1+dr c a (95+(j:Int)) 3/\_<=_ by lia⟩
 let R (pt:List T) (x5 B:Oq W):En:=[some (.p (tI own)),some (.p (.int (p:Int))),some (.p (.int a)),some (.p (.int (d:Int))),some (.o pt),x5,B];let pt:List T:=(List.range d).map λj=>fr (P j);have e1:j4 [none,some 2] (iz (dX (dW 3) d8)) (j3 0) (λ_=>.ok true) (lW c) (jY (fC 7 [tI own,.int (p:Int),.int a,.int (d:Int)]))=.ok pt:=iV (List.range d) (λ(j:Nat)=>T.int (j:Int)) (λj=>fr (P j)) (kh d (by lia) rfl) (by rw[dz];lia) (λj h=>by obtain⟨X,y,_⟩:=N j (aR.mp h);exact⟨_,rfl,rfl,AK (ee (jL rfl (ee rfl rfl rfl) rfl X) rfl rfl) (ee rfl (jL rfl (ee rfl rfl rfl) rfl y) rfl)⟩) rfl
 have J:∀j,j<d->fG (.lst pt) (.int (j:Int))=.ok (fr (P j)):=λj h=>by have:lQ pt (j:Int)=some (fr (P j)):=nS (by simp[pt,h]);simp only[fG,this]
 obtain⟨Y,e2,fy,B,rfl,I,K⟩:=j8 (m:=jQ 6) (g:=lY c) (λ(j:Nat)=>T.int (j:Int))
  (λk Y=>∃(fy:Int) (B:Oq W),Y=R pt (some (.p (.int fy))) B/\Bn (37+k) fy/\(fy:Rat)=6*(vc own d:Rat)-6*lE k (λj=>if j=p then 0 else (vc own j:Rat)*qv (P j))) (List.range d) 0 (R pt (some (.p (.int (vc own d*6)))) none)
  ⟨vc own d*6,none,rfl,((E d).mul (show Bn 3 6 from (show (6:Int).natAbs<8 by decide))).mono (by decide),by
   show ((vc own d*6:Int):Rat)=6*(vc own d:Rat)-6*0;rw[dR];grind⟩ (by
   rintro i j Y hi ⟨fy,B,rfl,I,K⟩;rw[aF]at *;obtain⟨Q,ik⟩:=aa.mp hi;rw[dQ]at ik;subst ik;rw[dz]at Q;obtain⟨_,_,y,b2,b3⟩:=N i Q;have L:eQ true (.int (i:Int)) (.int (p:Int))=.ok (.bl (!decide (i=p))):=by rw[l7];congr 3;rw[bB];simp;lia
   refine⟨R pt (some (.p (.int fy))) (some (.p (.int (i:Int)))),?_⟩;by_cases f:i=p
   .rw[aB f]at L;refine⟨_,rfl,.inl (fZ (eS (ee rfl rfl L)) rfl),fy,_,rfl,I.mono (by lia),?_⟩;rw[qP,aP f,K];grind
   .rw[aA f]at L;let m:Int:=Int.fdiv 6 (P i).2;have hm:m*(P i).2=6/\m.natAbs<8:=by
     have w:(P i).2=1\/(P i).2=2\/(P i).2=3:=by lia
     rcases w with w|w|w<;>(show Int.fdiv 6 (P i).2*(P i).2=6/\(Int.fdiv 6 (P i).2).natAbs<8;rw[w];decide)
    have bm:Bn 3 m:=hm.2;have bn:Bn 3 (P i).2:=show (P i).2.natAbs<8 by lia
    let l:Int:=fy-vc own i*(P i).1*m;have e:ey lN (dW 5) (ey ia (ey ia (ey fG (dW 0) (dW 6)) (ey fG (ey fG (dW 4) (dW 6)) (cM (.int 0)))) (ey lK (cM (.int 6)) (ey fG (ey fG (dW 4) (dW 6)) (cM (.int 1))))) (vw (R pt (some (.p (.int fy))) (some (.p (.int (i:Int))))))=.ok (.int l):=ee rfl (ee (ee (ee rfl rfl (D i (by lia))) (ee (ee rfl rfl (J i Q)) rfl rfl) (fT ((E i).ok y (by decide) (by decide)))) (ee rfl (ee (ee rfl rfl (J i Q)) rfl rfl) (jH (by lia) (bn.noPy (by decide)))) (fT (((E i).mul y).ok bm (by decide) (by decide)))) rfl
    refine⟨R pt (some (.p (.int l))) (some (.p (.int (i:Int)))),rfl,.inl (gQ (eS (ee rfl rfl L)) (tV e rfl rfl)),l,_,rfl,(I.sub (((E i).mul y).mul bm)).mono (by lia),?_⟩;rw[qP,aQ f];have v:(m:Rat)*(((P i).2:Int):Rat)=6:=by exact_mod_cast hm.1
    have A:(0:Rat)<(((P i).2:Int):Rat):=xf (by lia);have et:(l:Rat)=(fy:Rat)-(vc own i:Rat)*(((P i).1:Int):Rat)*(m:Rat):=by show ((fy-vc own i*(P i).1*m:Int):Rat)=_;rw[Rat.intCast_sub,dR,dR]
    rw[et,K];unfold qv;grind)
 rw[aF,dz]at I K;let b (j:Nat):Int×Int:=if j=p then (fy,6*vc own p) else P j
 have b6:Bn 33 (6*vc own p):=((show Bn 3 6 from (show (6:Int).natAbs<8 by decide)).mul (E p)).mono (by decide);have u:∀j,j<d->fS c [.int (b j).1,.int (b j).2]=.ok (fr (mE (b j).1 (b j).2))/\Fq (mE (b j).1 (b j).2)/\qv (mE (b j).1 (b j).2)*(((b j).2:Int):Rat)=(((b j).1:Int):Rat)/\wt (mE (b j).1 (b j).2)<=60:=λj h=>by
  by_cases H:j=p
  .have:b j=(fy,6*vc own p):=aP H;rw[this];exact yA (by show 6*vc own p≠0;lia) (I.mono (by lia)) (b6.mono (by decide))
  .have:b j=P j:=aQ H;obtain⟨_,_,y,b2,b3⟩:=N j h;rw[this];exact yA (by lia) (y.mono (by decide)) (show (P j).2.natAbs<2 ^ 60 by lia)
 have F:pt.set p (fr (fy,6*vc own p))=(List.range d).map λj=>fr (b j):=by
  refine dF (by simp[pt]) λi C U=>?_;rw[List.getElem_set];simp only[pt,c5,dQ];by_cases f:p=i
  .rw[aP f];show _=fr (if i=p then _ else _);rw[aP f.symm]
  .rw[aQ f];show _=fr (if i=p then _ else _);rw[aQ λz=>f z.symm]
 let s:List (Int×Int):=(List.range d).map λj=>mE (b j).1 (b j).2;have e3:j4 [none] (iJ (dW 4)) (j3 0) (λ_=>.ok true) (lZ c) (vw (R ((List.range d).map λj=>fr (b j)) (some (.p (.int fy))) B))=.ok (s.map fr):=iV (List.range d) (λj=>fr (b j)) (λj=>fr (mE (b j).1 (b j).2)) rfl (by rw[dz];lia) (λj h=>⟨_,rfl,rfl,gH rfl rfl (u j (aR.mp h)).1⟩) (by simp only[s];rw[aH];rfl)
 have xs:∀q,q<d->Xs s q=qv (mE (b q).1 (b q).2):=λq v=>by
  unfold Xs;have:s.getD q (0,1)=mE (b q).1 (b q).2:=by rw[af];simp[s,v]
  rw[this]
 refine⟨s,?_,⟨by simp[s],λq v=>?_,?_⟩,?_⟩
 .refine fj rfl (eg (ρ':=R pt none none) (lD e1 rfl) (eg (ρ':=R pt (some (.p (.int (vc own d*6)))) none) (eK (ee (ee rfl rfl (D d (by lia))) rfl (fT ((E d).ok (n:=3) (show (6:Int).natAbs<8 by decide) (by decide) (by decide)))) rfl) (eg (kn (kh d (by lia) rfl) e2) (eg (ρ':=R ((List.range d).map λj=>fr (b j)) (some (.p (.int fy))) B) (vU (us:=pt) (t:=fr (fy,6*vc own p)) (j:=(p:Int)) (m:=p) rfl (AK rfl (ee rfl (ee rfl rfl (D p (by lia))) (fT ((show Bn 3 6 from (show (6:Int).natAbs<8 by decide)).ok (E p) (by decide) (by decide))))) rfl rfl (uD _ p (by simp[pt];exact S)) (by rw[F];rfl)) (eO (km (jb e3) rfl))))))
 .obtain⟨j,h,rfl⟩:=aC.mp v;exact (u j (aR.mp h)).2.1
 .have:=GP (s:=s) (n:=60) λq v=>by obtain⟨j,h,rfl⟩:=aC.mp v;exact (u j (aR.mp h)).2.2.2
  have Z:s.length=d:=by simp[s]
  rw[Z]at this;have:d*60<=3*60:=dm _ hd.2;lia
 .unfold n9;rw[GK d p _ S,xs p S];have e4:lE d (λq=>if q=p then 0 else (vc own q:Rat)*Xs s q)=lE d (λj=>if j=p then 0 else (vc own j:Rat)*qv (P j)):=lb _ _ _ λq v=>by
   by_cases r:q=p
   .rw[aP r,aP r]
   .rw[aQ r,aQ r,xs q v];have C:=(u q v).2.2.1;have U:b q=P q:=aQ r;obtain⟨_,_,_,b2,_⟩:=N q v;have A:(0:Rat)<(((P q).2:Int):Rat):=xf (by lia);rw[U]at C ⊢;have:qv (P q)*(((P q).2:Int):Rat)=(((P q).1:Int):Rat):=by unfold qv;grind
    have w:qv (mE (P q).1 (P q).2)=qv (P q):=Kj A C this;rw[w]
  rw[e4];have C:=(u p S).2.2.1;have U:b p=(fy,6*vc own p):=aP rfl;rw[U]at C ⊢;have w:(((6*vc own p:Int)):Rat)=6*(vc own p:Rat):=by rw[dR];rfl
  dsimp only at C ⊢;rw[w,K]at C;grind
def z0{x y:Rat}{a m:Int}(j:0<a)(i:0<m)(h:(a:Rat)*x=(m:Rat)*y):vQ x=vQ y:=by
 have f:=xf j;have e:=xf i;have b:∀{z:Rat} {k:Rat},0<k->(0<k*z↔0<z):=λ{z k} hk=>by
  constructor
  .intro h;exact aN λq=>by have:=Rat.mul_le_mul_of_nonneg_left (Rat.not_lt.mp q) (dB hk);rw[Rat.mul_zero]at this;exact absurd h (Rat.not_lt.mpr this)
  .exact λh=>Rat.mul_pos hk h
 have d:0<x↔0<y:=by rw[<-b f (z:=x),h,b e]
 have g:x<0↔y<0:=by
  have l:0 < -x↔0 < -y:=by
   rw[<-b f (z:=-x),<-b e (z:=-y)];have:(a:Rat) * -x=(m:Rat) * -y:=by rw[Rat.mul_neg,Rat.mul_neg,h]
   rw[this]
  have t:∀z:Rat,0 < -z↔z<0:=λz=>by grind
  rw[<-t,<-t];exact l
 unfold vQ;by_cases p:0<x
 .rw[aP p,aP (d.mp p)]
 .rw[aQ p,aQ (λz=>p (d.mpr z))];by_cases q:x<0
  .rw[aP q,aP (g.mp q)]
  .rw[aQ q,aQ (λz=>q (g.mpr z))]
def zv{cut f g:LI}{p D:Nat}{X:Nat->Rat}(h:uc cut f p g)(r:p<=D)(u:vc cut p≠0)(q:n9 (D+1) X (vc cut)=0):vQ (n9 D (λi=>X (sk p i)) (vc g))=vQ (n9 (D+1) X (vc f)):=by
 obtain⟨a,b,l,t,e⟩:=h.ex;have j:(a:Rat)*n9 D (λi=>X (sk p i)) (vc g)=(b:Rat)*n9 D (λi=>X (sk p i)) (λi=>Wv cut f p (sk p i)):=by have:=yh (d:=D) (X:=λi=>X (sk p i)) (λi=>Wv cut f p (sk p i)) (λ_=>0) (vc g) a b 0 (λi=>by rw[e i];lia);rw[this];grind
 have k:=He (d:=D) (p:=p) r X (Wv cut f p);have s:Wv cut f p p=0:=by unfold Wv;rw[<-pY];grind
 have n:n9 (D+1) X (Wv cut f p)=(((vc cut p).natAbs:Int):Rat)*n9 (D+1) X (vc f):=by have:=yh (d:=D+1) (X:=X) (vc f) (vc cut) (Wv cut f p) 1 ((vc cut p).natAbs:Int) (-(pP (vc cut p)*vc f p)) (λi=>by unfold Wv;grind);rw[q]at this;grind
 rw[s]at k;have o:n9 D (λi=>X (sk p i)) (λi=>Wv cut f p (sk p i))=(((vc cut p).natAbs:Int):Rat)*n9 (D+1) X (vc f):=by rw[<-n,k];grind
 rw[o,<-Rat.mul_assoc]at j;refine z0 l (m:=b*((vc cut p).natAbs:Int)) (aW t (by lia)) ?_;rw[j,dR]
def C5(s:List (Int×Int))(p:Nat):List (Int×Int):=s.take p++s.drop (p+1)
def GA{s:List (Int×Int)}{p:Nat}(b:p<s.length):Xs (C5 s p)=λi=>Xs s (sk p i):=by
 funext i;unfold Xs C5 sk;congr 1;rw[af,af];congr 1;by_cases a:i<p
 .rw[aP a,List.getElem?_append_left (by rw[bL];lia),List.getElem?_take,aP a]
 .rw[aQ a,List.getElem?_append_right (by rw[bL];lia),List.getElem?_drop,bL];congr 1;lia
def GV(l:List (List Nat)):eQ true (.lst (l.map λx=>T.lst (nT x))) (.lst (l.map λx=>T.lst (nT x)))=.ok (.bl false):=by
 have d:∀x:List Nat,nT x=(x.map λ(k:Nat)=>(k:Int)).map T.int:=λx=>by unfold nT;rw[aH];rfl
 have i:mH (.lst (l.map λx=>T.lst (nT x)))=true:=nI _ l λx _=>by
  have:og (nT x)=true:=by rw[d];exact zb _
  simpa[mH] using this
 have o:oF (l.map λx=>T.lst (nT x))<=1:=nQ _ 1 l λx _=>by rw[yu,d];have:=mn (x.map λ(k:Nat)=>(k:Int));lia
 have g:xb (.lst (l.map λx=>T.lst (nT x)))<=100:=by rw[yu];lia
 have m:∀a b:List Nat,yr (.lst (nT a)) (.lst (nT b))=true↔a=b:=λa b=>by
  rw[nR,d,d,my,decide_eq_true_eq];constructor
  .intro h;exact (List.map_inj_right (f:=λ(k:Nat)=>(k:Int)) (λx y e=>by have n:(x:Int)=(y:Int):=e;lia)).mp h
  .intro h;rw[h]
 have j:yr (.lst (l.map λx=>T.lst (nT x))) (.lst (l.map λx=>T.lst (nT x)))=true:=by rw[nR];exact (nW _ m l l).mpr rfl
 unfold eQ;rw[i,j,aB g];rfl
def EX{D:Nat}{cs:LL}(hD:1<=D/\D<=2)(Q:BC (D+1) 30 cs)(k:Nat)(P:k<cs.length)(v:Int):iI c [iK c (D+1) cs,.lst (cs.map tI),.int (k:Int),.int v]=.ok (.bl true):=by
 have sz:1000<sizeLine:=by decide
 have h7:=Q.few;obtain⟨p,S,⟨hp,E,hpm⟩,gS,whl,wh,et,el⟩:=za (c:=c) hD Q k P;have A:GC (D+1) 30 (cs.getD k []):=Q.gc _ (uC cs k P);obtain⟨s,es,J,ev⟩:=vY (c:=c) (own:=cs.getD k []) (d:=D+1) (p:=p) v (by lia) A.gl.1 A.gl.2 hp E;have n7:=gS.few;let N:T:=.lst (S.2.map λl=>T.lst (nT l));let R (x4 x5 x6 x7 x8 x9 F:Oq W):En:=[some (.p (iK c (D+1) cs)),some (.p (.lst (cs.map tI))),some (.p (.int (k:Int))),some (.p (.int v)),x4,x5,x6,x7,x8,x9,F];have K:∀j,j<cs.length->fG (.lst (cs.map tI)) (.int (j:Int))=.ok (tI (cs.getD j [])):=λj I=>by have:lQ (cs.map tI) (j:Int)=some (tI (cs.getD j [])):=nS (by rw[av,af,ag I];rfl);simp only[fG,this]
 let h:Oq W:=some (.p (.int ((D+1:Nat):Int)));let m:Oq W:=some (.p (.tup [iK c D S.1,N]));let o:Oq W:=some (.p (.lst (S.1.map tI)));let u:Oq W:=some (.p N);let B:Oq W:=some (.p (.int (p:Int)));let H:Oq W:=some (.p (tS s));let C:Oq W:=some (.p (tI (yU (D+1) cs s)));obtain⟨r,hr⟩:=l3 (f:=λi=>!(vc (cs.getD k []) i==0)) (n:=D+1) (i:=p) hp (by simpa using E) (λq Z=>by simpa using hpm q Z);have ep:j4 [none,some 1,some 2] (iz (dX (dW 4) d8)) (j3 0) (fH (ey (eQ true) (ey fG (ey fG (dW 1) (dW 2)) (dW 0)) (cM (.int 0)))) (mI c) (jY (R h m o u none none none))=.ok ((p::r).map λ(x:Nat)=>T.int (x:Int)):=t5 (List.range (D+1)) (λ(x:Nat)=>T.int (x:Int)) (λ(x:Nat)=>T.int (x:Int)) (λi=>!(vc (cs.getD k []) i==0)) (kh (D+1) (by lia) rfl) (by rw[dz];lia) (λx hx=>by have hx:=aR.mp hx;exact⟨_,rfl,eS (ee (ee (ee rfl rfl (K k P)) rfl (gL _ x (by rw[A.gl.1];lia))) rfl (l7 _ _)),λ_=>rfl⟩) (by rw[hr])
 have f0:∀x8 x9 F,ey fG (dW 5) (cM (.int 0)) (vw (R h m o u x8 x9 F))=.ok (iK c D S.1):=λ_ _ _=>rfl;have c1:L3.oz (L3.jI (fH (oH "tuple" (dW 5)))) (L3.oz (fH (ey (eQ true) (i7 iL (dX (dW 5) d8)) (cM (.int 2)))) (L3.jI (fH (An c.Cutting (ey fG (dW 5) (cM (.int 0))))))) (vw (R h m o u none none none))=.ok false:=by refine pD rfl (pD rfl (lS (eS (b:=true) ?_) rfl));show (if c.Cutting=c.Cutting then M.ok (T.bl true) else M.bad)=_;exact aP rfl
 have dn:eQ true (.int (D:Int)) (.int (D:Int))=.ok (.bl false):=by rw[l7];simp
 have sub:lN (.int ((D+1:Nat):Int)) (.int 1)=.ok (.int (D:Int)):=by rw[lj];congr 2;lia
 have c2:L3.oz (fH (ey (eQ true) (jZ c.Cutting "dims" (ey fG (dW 5) (cM (.int 0))) d8 (fB c)) (ey lN (dW 4) (cM (.int 1))))) (L3.oz (fH (ey (eQ true) (jj (mX c.Cutting "cuts" (ey fG (dW 5) (cM (.int 0))) d8 (fL c))) (dW 6))) (fH (ey (eQ true) (ey fG (dW 5) (cM (.int 1))) (dW 7)))) (vw (R h m o u none none none))=.ok false:=pD (eS (ee (pZ D S.1 (f0 _ _ _)) (ee rfl rfl sub) dn)) (pD (eS (ee (jb (yB D S.1 (f0 _ _ _))) rfl (El true S.1))) (eS (ee (x:=N) (y:=N) rfl rfl (GV S.2))))
 have s1:=sD (c:=c) (d:=D+1) (s:=s) (cs:=cs) (f:=dW 0) (g:=dW 9) (ρ:=jY (R h m o u B H none)) (by lia) (Q.mono (by decide)) J rfl rfl;have L:s.length=D+1:=J.len;have sq':Sq D (C5 s p):=by
  refine⟨by unfold C5;rw[aS,bL,bO];lia,λq Z=>?_,?_⟩
  .rcases ai.mp Z with z|z
   .exact J.fq q (dc z)
   .exact J.fq q (de z)
  .have h1:=J.w;have h2:rz s=rz (s.take p)+rz (s.drop p):=by unfold rz;rw[<-List.sum_append,<-aY,dw]
   have h3:rz (s.drop (p+1))<=rz (s.drop p):=by unfold rz;rw[cI (i:=p) (by lia),bE,c9];lia
   have h4:rz (C5 s p)=rz (s.take p)+rz (s.drop (p+1)):=by unfold rz C5;rw[aY,List.sum_append]
   lia
 have e9:ey fR (iH (dW 9) (λ_=>.ok none) (fY (dW 8))) (iH (dW 9) (fY (ey fR (dW 8) (cM (.int 1)))) (λ_=>.ok none)) (vw (R h m o u B H C))=.ok (tS (C5 s p)):=by
  have hne:s.map fr≠[]:=λz=>by have:=congrArg List.length z;rw[aw,L]at this;simp at this
  refine ee (nO (ts:=s.map fr) (d:=p) rfl rfl (by rw[aw];lia)) (vO (ts:=s.map fr) (d:=p+1) rfl (ee rfl rfl (by rw[fO];simp)) (by lia) hne) ?_;rw[<-cL,<-cN,yd _ _ (by simp;lia),<-aY];rfl
 have s2:=sD (c:=c) (d:=D) (s:=C5 s p) (cs:=S.1) (f:=ey fG (dW 5) (cM (.int 0))) (ρ:=vw (R h m o u B H C)) (by lia) (gS.mono (by decide)) sq' (f0 _ _ _) e9;let hd (l:List Nat):Nat:=l.headD 0;have hS2:∀l∈S.2,∃t r i,l=t::r/\t<cs.length/\S.2[i]? = some l:=λl hl=>by obtain⟨i,U,rfl⟩:=dG.mp hl;obtain⟨t,r,a,b,_⟩:=wh i _ (ag (by lia));rw[ag U]at a;exact⟨t,r,i,Option.some.inj a,b,ag U⟩
 let V:LI:=S.2.map λl=>vQ (n9 (D+1) (Xs s) (vc (cs.getD (hd l) [])));have Y:j4 [none,some 10] (iJ (dW 7)) (j3 0) (λ_=>.ok true) (mF c) (vw (R h m o u B H C))=.ok (V.map T.int):=iV S.2 (λl=>T.lst (nT l)) (λl=>T.int (vQ (n9 (D+1) (Xs s) (vc (cs.getD (hd l) []))))) rfl (by lia) (λl hl=>by obtain⟨t,r,i,rfl,I,_⟩:=hS2 l hl;refine⟨_,rfl,rfl,ee (x:=tI (yU (D+1) cs s)) (y:=.int (t:Int)) rfl (ee (x:=.lst (nT (t::r))) rfl rfl (DD _ _)) ?_⟩;rw[gL (yU (D+1) cs s) t (by simp[yU];exact I)];congr 2;show vc (yU (D+1) cs s) t=_;rw[ib _ t (by simp[yU];exact I)];simp only[yU,c5];show _=vQ (n9 (D+1) (Xs s) (vc (cs.getD t [])));rw[af,ag I];rfl) (by simp only[V];rw[aH];rfl)
 have eV:yU D S.1 (C5 s p)=V:=by
  refine dF (by simp[V,whl]) λi h1 h2=>?_;have U:i<S.1.length:=by simpa using h1
  obtain⟨t,r,a,b,sn,_⟩:=wh i _ (ag U);simp only[yU,V,c5];have e:S.2[i]'(by lia)=t::r:=by have:=ag (l:=S.2) (i:=i) (by lia);rw[this]at a;exact Option.some.inj a
  rw[e];show _=vQ (n9 (D+1) (Xs s) (vc (cs.getD t [])));exact (congrArg (λX=>vQ (n9 D X (vc S.1[i]))) (GA (s:=s) (p:=p) (by lia))).trans (zv sn (by lia) E ev)
 refine fj rfl (eg (ρ':=R h none none none none none none) (eK (pZ (D+1) cs rfl) rfl) (eg (ρ':=R h m none none none none none) (eK (gH rfl rfl et) rfl) (eg (ρ':=R h m o u none none none) (Co (jL rfl rfl rfl el) rfl) (eg (fZ c1 rfl) (eg (fZ c2 rfl) (eg (ρ':=R h m o u B none none) (eK (ee (jb ep) rfl (DD _ _)) rfl) (eg (ρ':=R h m o u B H none) (eK ?_ rfl) (eg (ρ':=R h m o u B H C) (eK s1 rfl) (eO (ee s2 (km (jb Y) rfl) ?_))))))))))
 .have q:eA (dX (ey fG (dW 1) (dW 2)) (dX (dW 8) (dX (dW 3) (dX (dW 4) d8)))) (ig c) (jY (R h m o u B none none))=.ok (tS s):=by have ix:ey fG (dW 1) (dW 2) (jY (R h m o u B none none))=.ok (tI (cs.getD k [])):=ee rfl rfl (K k P);exact A3 ix rfl rfl rfl es
  exact q
 .show eQ false (.tup ((yU D S.1 (C5 s p)).map T.int)) (.tup (V.map T.int))=_;rw[B9,aQ (by decide),aB eV]
def pF{d:Nat}{cs:LL}{th:T}(h:d=1\/fV c [th,.int (cs.length:Int)]=.ok (.bl false))(i:1<=d):f9 c [iK c d cs,th]=.ok (.str "number"):=by
 have sub:lN (.int (d:Int)) (.int 1)=.ok (.int (((d-1:Nat)):Int)):=by rw[lj];congr 2;lia
 have e:ip c [iK c d cs,th]=.er c.NoNumber none:=by
  refine Ig rfl (eg (ρ':=[some (.p (iK c d cs)),some (.p th),some (.p (.int ((d-1:Nat):Int))),none,none,none,none,none,none,none]) (eK (ee (pZ d cs rfl) rfl sub) rfl) (IE ?_));by_cases a:d=1
  .exact AJ (eS (ee (x:=.int ((d-1:Nat):Int)) rfl rfl (by rw[eY,a];rfl)))
  .have f:=h.resolve_left a;have b:eQ false (.int ((d-1:Nat):Int)) (.int 0)=.ok (.bl false):=by
    have z:((((d-1:Nat)):Int)==0)=false:=by simp;lia
    rw[eY,z]
   exact pD (eS (ee rfl rfl b)) (lS (eS (gH rfl (xv d cs rfl) f)) rfl)
 have g:sd (gY (xw (dX (dW 0) (dX (dW 1) d8)) (ip c))) (fC 3 [iK c d cs,th])=.er c.NoNumber none:=Da e;refine fj rfl ?_;unfold lL CW;rw[g];simp[Hr]
def yM ns:n8 c [.scr ns]=.ok (.bl true):=by
 have sz:10000<sizeLine:=by decide
 have Q:eQ true (.str "number") (.str "number")=.ok (.bl false):=KY _ Gm;let r (v C s q o e b:Oq W):En:=[some (.p (.scr ns)),v,C,s,q,o,e,b];obtain⟨Y,U,y1,y2,y3,y4,y5,y6,y7,rfl⟩:=md (m:=jQ 1) (g:=sJ c) (λ(k:Nat)=>T.int (k:Int)) (λn=>∃v C s q o e b,n=r v C s q o e b) [0,1,0] (r none none none none none none none) ⟨_,_,_,_,_,_,_,rfl⟩ (by
  rintro k-n ⟨v,C,s,q,o,e,b,rfl⟩;obtain⟨a,ec,-⟩:=wq (c:=c) ns k;obtain⟨u,N,K⟩:=iE (c:=c) a 67 4 (by decide) (by decide) (by decide) (by decide);obtain⟨A,em,hmo⟩:∃A:Nat,ey fR (cM (.int 6)) (i7 qg (dX (ey (eQ false) (eA (dX (dW 2) (dX (cM (.int 67)) (dX (cM (.int 4)) d8))) (eG c)) (cM (.int 1))) d8)) (jY (r (some (.p (.int (k:Int)))) (some (.p (.int a))) s q o e b))=.ok (.int (A:Int))/\A<=7:=by
   by_cases h:dr c a 67 4=1
   .exact⟨7,ee rfl (km (t:=.bl true) (ee (jL rfl rfl rfl u) rfl (by rw[eY,h];rfl)) rfl) rfl,by decide⟩
   .exact⟨6,ee rfl (km (t:=.bl false) (ee (jL rfl rfl rfl u) rfl (by rw[eY];simp[h])) rfl) rfl,by decide⟩
  obtain⟨d,f,ed,I,J,hm⟩:=v9 (c:=c) a A hmo;have hn:=J.few;have i0:=xR (c:=c) d 30 f I (by decide) J;let R (e b:Oq W):En:=r (some (.p (.int (k:Int)))) (some (.p (.int a))) (some (.p (.int (d:Int)))) (some (.p (.lst (f.map tI)))) (some (.p (iK c d f))) e b;have d1:eQ false (.int (d:Int)) (.int 1)=.ok (.bl (decide (d=1))):=by rw[eY];congr 2;rw[bB];simp;lia
  obtain⟨ρ2,e2,E,rfl⟩:=md (m:=jQ 6) (g:=sC c) (λ(k:Nat)=>T.int (k:Int)) (λn=>∃e,n=R e b) (List.range f.length) (R e b) ⟨_,rfl⟩ (by
   rintro j H n ⟨e,rfl⟩;have H:=aR.mp H;let l:=R (some (.p (.int (j:Int)))) b;have w:fH (ey xI (dW 3) (cM (.int 1))) (vw l)=.ok (decide (1<d)):=by refine eS (ee (x:=.int (d:Int)) (y:=.int 1) rfl rfl ?_);show M.ok (T.bl (decide ((1:Int)<(d:Int))))=_;congr 2;exact decide_eq_decide.mpr (by lia)
   have t1:lO (fH (ey xI (dW 3) (cM (.int 1)))) (L3.jI (fH (eA (dX (dW 5) (dX (dW 4) (dX (dW 6) (dX (dW 2) d8)))) (iI c)))) (vw l)=.ok false:=by
    by_cases h:1<d
    .rw[aB h]at w;obtain⟨D,rfl⟩:∃D,d=D+1:=⟨d-1,by lia⟩;exact B6 w (lS (eS (A3 rfl rfl rfl rfl (EX (c:=c) (by lia) J j H a))) rfl)
    .rw[aA h]at w;exact A8 w
   have B:fH (ey (eQ false) (dW 3) (cM (.int 1))) (vw l)=.ok (decide (d=1)):=eS (ee rfl rfl d1);have S:lO (fH (ey (eQ false) (dW 3) (cM (.int 1)))) (fH (ey (eQ true) (eA (dX (dW 5) (dX (dW 6) d8)) (f9 c)) (cM (.str "number")))) (vw l)=.ok false:=by
    by_cases h:d=1
    .rw[aB h]at B;exact B6 B (eS (ee (gH rfl rfl (pF (c:=c) (th:=.int (j:Int)) (.inl h) I.1)) rfl Q))
    .rw[aA h]at B;exact A8 B
   exact⟨l,_,rfl,.inl (eg (fZ t1 rfl) (fZ S rfl)),_,rfl⟩)
  let L:List T:=[.int (-1),.int (f.length:Int),.bl true,.bl false,.non,.str "0",.tup [.int 0],.lst [.int 0]];have Z:∀th∈L,fV c [th,.int (f.length:Int)]=.ok (.bl false):=by simp only[L,List.forall_mem_cons];exact⟨CI _ _ (.inl (by decide)),CI _ _ (.inr (Int.le_refl _)),rfl,rfl,rfl,rfl,rfl,rfl,λ_ z=>nomatch z⟩
  obtain⟨X,P,w7,rfl⟩:=md (m:=jQ 7) (g:=sm c) (λt:T=>t) (λn=>∃b,n=R E b) L (R E b) ⟨_,rfl⟩ (by rintro th F n ⟨b,rfl⟩;exact⟨_,_,rfl,.inl (fZ (eS (ee (gH rfl rfl (pF (c:=c) (.inr (Z th F)) I.1)) rfl Q)) rfl),_,rfl⟩)
  rw[List.map_id']at P;have eL:iJ (jj (lstM (dX (rJ (λi=>.int (-i)) (cM (.int 1))) (dX (i7 iL (dX (dW 4) d8)) (dX (cM (.bl true)) (dX (cM (.bl false)) (dX (cM .non) (dX (cM (.str "0")) (dX (mD (dX (cM (.int 0)) d8)) (dX (jj (lstM (dX (cM (.int 0)) d8))) d8)))))))))) (jY (R E b))=.ok L:=by have hl:i7 iL (dX (dW 4) d8) (jY (R E b))=.ok (.int (f.length:Int)):=km (t:=.lst (f.map tI)) rfl (by simp);simp only[iJ,jj,lstM,dX,hl,M.bind_ok];rfl
  exact⟨_,_,rfl,.inl (eg (ρ':=r (some (.p (.int (k:Int)))) (some (.p (.int a))) s q o e b) (eK (gH rfl rfl ec) rfl) (eg (ρ':=r (some (.p (.int (k:Int)))) (some (.p (.int a))) (some (.p (.int (d:Int)))) (some (.p (.lst (f.map tI)))) o e b) (Co (gH rfl em ed) rfl) (eg (ρ':=R e b) (eK (gH rfl (jb (ts:=f.map tI) rfl) i0) rfl) (eg (kn (kh f.length (by lia) (km (t:=.lst (f.map tI)) rfl (by simp))) e2) (jr eL P))))),_,_,_,_,_,_,_,rfl⟩)
 exact fj rfl (eg (jr (AL rfl) U) (eO rfl))
end CL
namespace K45
open PySem L2 L3 CL
def fy(i:Nat):Stmt:=PySem.Challenge.pw_cutlands_k45_traces.main.body.getD i (.Pass ⟨0,0,0,0⟩)
structure Er(c:Cs)(K:W.Frag)(mg:Str->Option Value):Prop where
 here:True
 cl_Cutting:rq K c.Cutting
 na_Cutting_own_cuts:jc K c.Cutting "own_cuts"
 na_Cutting_own_dims:jc K c.Cutting "own_dims"
 mk_Cutting:W.makesIn K c.Cutting=true
 kp_Cutting:W.keepIn K (.ref c.Cutting)=true
 mg_Cutting:mg "Cutting" = some (.ref c.Cutting)
 is_Cutting:Jl K c.Cutting
 k_MOST_CUTS:∃t,mg "MOST_CUTS" = some (.int 7 t)
 k_MOST_DIMS:∃t,mg "MOST_DIMS" = some (.int 3 t)
 cut:mg "CutError" = some (.ref c.CutError)
 hct:Cq K c.CutError
 x_NoNumber:Xk K "NoNumber" c.NoNumber c.CutError
 m_NoFraction:mg "NoFraction" = some (.ref c.NoFraction)
 m_NoCutting:mg "NoCutting" = some (.ref c.NoCutting)
 m_NoSpot:mg "NoSpot" = some (.ref c.NoSpot)
 m_NoSigns:mg "NoSigns" = some (.ref c.NoSigns)
 m_NoLand:mg "NoLand" = some (.ref c.NoLand)
 m_NoFace:mg "NoFace" = some (.ref c.NoFace)
 m_NoNumber:mg "NoNumber" = some (.ref c.NoNumber)
 m_NoTable:mg "NoTable" = some (.ref c.NoTable)
 m_NoText:mg "NoText" = some (.ref c.NoText)
 m_NoDeed:mg "NoDeed" = some (.ref c.NoDeed)
 n_NoNumber_NoFraction:W.kitOne K (.ref c.NoNumber) (.ref c.NoFraction)=some false
 n_NoNumber_NoCutting:W.kitOne K (.ref c.NoNumber) (.ref c.NoCutting)=some false
 n_NoNumber_NoSpot:W.kitOne K (.ref c.NoNumber) (.ref c.NoSpot)=some false
 n_NoNumber_NoSigns:W.kitOne K (.ref c.NoNumber) (.ref c.NoSigns)=some false
 n_NoNumber_NoLand:W.kitOne K (.ref c.NoNumber) (.ref c.NoLand)=some false
 n_NoNumber_NoFace:W.kitOne K (.ref c.NoNumber) (.ref c.NoFace)=some false
 n_NoNumber_NoTable:W.kitOne K (.ref c.NoNumber) (.ref c.NoTable)=some false
 n_NoNumber_NoText:W.kitOne K (.ref c.NoNumber) (.ref c.NoText)=some false
 n_NoNumber_NoDeed:W.kitOne K (.ref c.NoNumber) (.ref c.NoDeed)=some false
 kc:W.kitOne K (.ref c.NoNumber) (.ref c.CutError)=some true
 val:mg "ValueError" = none
def Jk{K:W.Frag}{h:Heap}{g:Str->Option Value}{aCutting aCutError aNoFraction aNoCutting aNoSpot aNoSigns aNoLand aNoFace aNoNumber aNoTable aNoText aNoDeed:Addr}{tMOST_CUTS tMOST_DIMS:_}(X:K.In h)(G:h.Ns mainGlobals g)(e:W.nsIn K mainGlobals "Cutting" = some (some (.ref aCutting)))(q:W.plainGet K aCutting Str.empty=true)(l:W.hasDictIn K aCutting=true)(m:W.plainOver K aCutting=true)(o:W.findIn K (.ref aCutting) "__setattr__" = some (some (.builtin "object.__setattr__")))(own_cuts:W.findIn K (.ref aCutting) "own_cuts" = some none)(own_dims:W.findIn K (.ref aCutting) "own_dims" = some none)(p:W.makesIn K aCutting=true)(n:W.keepIn K (.ref aCutting)=true)(d:W.findIn K (.ref aCutting) "__class__" = some (some (.builtin "object.__class__")))(f:W.mroIn K aCutting (.type "object")=some true)(uMOST_CUTS:W.nsIn K mainGlobals "MOST_CUTS" = some (some (.int 7 tMOST_CUTS)))(uMOST_DIMS:W.nsIn K mainGlobals "MOST_DIMS" = some (some (.int 3 tMOST_DIMS)))(eCutError:W.nsIn K mainGlobals "CutError" = some (some (.ref aCutError)))(eNoFraction:W.nsIn K mainGlobals "NoFraction" = some (some (.ref aNoFraction)))(eNoCutting:W.nsIn K mainGlobals "NoCutting" = some (some (.ref aNoCutting)))(eNoSpot:W.nsIn K mainGlobals "NoSpot" = some (some (.ref aNoSpot)))(eNoSigns:W.nsIn K mainGlobals "NoSigns" = some (some (.ref aNoSigns)))(eNoLand:W.nsIn K mainGlobals "NoLand" = some (some (.ref aNoLand)))(eNoFace:W.nsIn K mainGlobals "NoFace" = some (some (.ref aNoFace)))(eNoNumber:W.nsIn K mainGlobals "NoNumber" = some (some (.ref aNoNumber)))(eNoTable:W.nsIn K mainGlobals "NoTable" = some (some (.ref aNoTable)))(eNoText:W.nsIn K mainGlobals "NoText" = some (some (.ref aNoText)))(eNoDeed:W.nsIn K mainGlobals "NoDeed" = some (some (.ref aNoDeed)))(i:W.typeIn K (.ref aCutError)=some (.type "type"))(c:W.mroIn K aCutError (.type "BaseException")=some true)(k:W.specialIn K (.builtin "object.__class__") "__get__" = some (some (.builtin "getset_descriptor.__get__")))(j:W.takesIn K (.builtin "object.__class__")=some true)(qNoNumber:W.excIn K aNoNumber JA "ValueError.__new__" = true)(pNoNumber:W.findIn K (.ref aNoNumber) "__getattribute__" = some (some (.builtin "BaseException.__getattribute__")))(rNoNumber:W.findIn K (.ref aNoNumber) "__getattr__" = some none)(sNoNumber:W.findIn K (.ref aNoNumber) "__class__" = some (some (.builtin "object.__class__")))(tNoNumber:W.mroIn K aNoNumber (.type "object")=some true)(uNoNumber:W.mroIn K aNoNumber (.type "BaseException")=some true)(vNoNumber:W.mroIn K aNoNumber (.ref aCutError)=some true)(wNoNumber:W.mroIn K aNoNumber (.type "ValueError")=some true)(cNoFraction:W.typeIn K (.ref aNoFraction)=some (.type "type"))(dNoFraction:W.mroIn K aNoFraction (.type "object")=some true)(cNoCutting:W.typeIn K (.ref aNoCutting)=some (.type "type"))(dNoCutting:W.mroIn K aNoCutting (.type "object")=some true)(cNoSpot:W.typeIn K (.ref aNoSpot)=some (.type "type"))(dNoSpot:W.mroIn K aNoSpot (.type "object")=some true)(cNoSigns:W.typeIn K (.ref aNoSigns)=some (.type "type"))(dNoSigns:W.mroIn K aNoSigns (.type "object")=some true)(cNoLand:W.typeIn K (.ref aNoLand)=some (.type "type"))(dNoLand:W.mroIn K aNoLand (.type "object")=some true)(cNoFace:W.typeIn K (.ref aNoFace)=some (.type "type"))(dNoFace:W.mroIn K aNoFace (.type "object")=some true)(cNoNumber:W.typeIn K (.ref aNoNumber)=some (.type "type"))(dNoNumber:W.mroIn K aNoNumber (.type "object")=some true)(cNoTable:W.typeIn K (.ref aNoTable)=some (.type "type"))(dNoTable:W.mroIn K aNoTable (.type "object")=some true)(cNoText:W.typeIn K (.ref aNoText)=some (.type "type"))(dNoText:W.mroIn K aNoText (.type "object")=some true)(cNoDeed:W.typeIn K (.ref aNoDeed)=some (.type "type"))(dNoDeed:W.mroIn K aNoDeed (.type "object")=some true)(nNoNumberNoFraction:aNoNumber≠aNoFraction)(mNoNumberNoFraction:W.mroIn K aNoNumber (.ref aNoFraction)=some false)(nNoNumberNoCutting:aNoNumber≠aNoCutting)(mNoNumberNoCutting:W.mroIn K aNoNumber (.ref aNoCutting)=some false)(nNoNumberNoSpot:aNoNumber≠aNoSpot)(mNoNumberNoSpot:W.mroIn K aNoNumber (.ref aNoSpot)=some false)(nNoNumberNoSigns:aNoNumber≠aNoSigns)(mNoNumberNoSigns:W.mroIn K aNoNumber (.ref aNoSigns)=some false)(nNoNumberNoLand:aNoNumber≠aNoLand)(mNoNumberNoLand:W.mroIn K aNoNumber (.ref aNoLand)=some false)(nNoNumberNoFace:aNoNumber≠aNoFace)(mNoNumberNoFace:W.mroIn K aNoNumber (.ref aNoFace)=some false)(nNoNumberNoTable:aNoNumber≠aNoTable)(mNoNumberNoTable:W.mroIn K aNoNumber (.ref aNoTable)=some false)(nNoNumberNoText:aNoNumber≠aNoText)(mNoNumberNoText:W.mroIn K aNoNumber (.ref aNoText)=some false)(nNoNumberNoDeed:aNoNumber≠aNoDeed)(mNoNumberNoDeed:W.mroIn K aNoNumber (.ref aNoDeed)=some false)(a:aNoNumber≠aCutError)(b:W.nsIn K mainGlobals "ValueError" = some none):Er ⟨aCutting,0,aCutError,aNoCutting,aNoTable,aNoFraction,aNoSpot,aNoSigns,aNoLand,aNoFace,aNoNumber,aNoText,aNoDeed⟩ K g:=⟨trivial,⟨q,l,m,o⟩,own_cuts,own_dims,p,n,W.mg_of X G e,⟨d,k,j,f⟩,⟨_,W.mg_of X G uMOST_CUTS⟩,⟨_,W.mg_of X G uMOST_DIMS⟩,W.mg_of X G eCutError,⟨lu c,i,c⟩,Il eNoNumber qNoNumber pNoNumber rNoNumber sNoNumber k j tNoNumber uNoNumber vNoNumber wNoNumber,W.mg_of X G eNoFraction,W.mg_of X G eNoCutting,W.mg_of X G eNoSpot,W.mg_of X G eNoSigns,W.mg_of X G eNoLand,W.mg_of X G eNoFace,W.mg_of X G eNoNumber,W.mg_of X G eNoTable,W.mg_of X G eNoText,W.mg_of X G eNoDeed,nK nNoNumberNoFraction cNoFraction dNoFraction mNoNumberNoFraction,nK nNoNumberNoCutting cNoCutting dNoCutting mNoNumberNoCutting,nK nNoNumberNoSpot cNoSpot dNoSpot mNoNumberNoSpot,nK nNoNumberNoSigns cNoSigns dNoSigns mNoNumberNoSigns,nK nNoNumberNoLand cNoLand dNoLand mNoNumberNoLand,nK nNoNumberNoFace cNoFace dNoFace mNoNumberNoFace,nK nNoNumberNoTable cNoTable dNoTable mNoNumberNoTable,nK nNoNumberNoText cNoText dNoText mNoNumberNoText,nK nNoNumberNoDeed cNoDeed dNoDeed mNoNumberNoDeed,yg a i (lu c) vNoNumber,W.mg_none_of X G b⟩
def IL{K:W.Frag}{a g:Addr}{m q:Str}{st:Stmt}{f kV c p b o:Vq}{h k:Oq Addr}{d:Array (Option Value)}(j:W.findIn K (.ref a) m=some (some (.ref g)))(i:W.isFn K (.ref g)=true)(l:K.lookup g=some ⟨f,h,.func (W.fnOf m q (gD st) (eZ st) (eh st) .none kV c p k b o),d⟩)(n:W.codeIn K b q=true)(e:W.keepIn K (.ref g)=true):iu K a m q st:=⟨_,_,xm l n e,j,i,e⟩
section
variable {P:Program}{w:World}{K:W.Frag}{mg:Str->Option Value}{base:Heap}{c:Cs}(Z:Zx P w K mg base)(B:Bs mg)(ER:Er c K mg)
include Z B ER
theorem oC{A:Around}{b:List Env}{k:Nat}{ea:Addr}{oe:Obj}{f:Addr}{g:Vq}{s:Shared}{H:Hp}{Q:VK}(j:fN (k+1) A)(a:oe.cls=.ref c.NoNumber)(q:∀e,eJ H e->Q (.str "number") e):∃t,nk ((gN ph P w K mg base ["_law_error","_law_kinds","_law_names","_law_found"] "_law_class" (eh (fy 49)) f g A b s H E0).exc [(ea,oe)] ea) (eZ (fy 49)) t/\t {nx:=λ_ e=>Q .non e,rt:=Q} (h8 ["_law_error","_law_kinds","_law_names","_law_found"] [.ref ea]) H:=by
 have d:(["_law_error","_law_kinds","_law_names","_law_found"]:List Str).Nodup:=by decide
 exact⟨_,(gP (vf (PW.pt (Fo (xl (wd (gw (hZ (K:=K) (aj.mpr rfl) a) rfl B.isinstance jh (ez (pv 0) (ez (iF (v:=.ref c.CutError) rfl ER.cut rfl) fQ))))) (A1 (xl (wd (gw (hZ (K:=K) (aj.mpr rfl) a) rfl B.isinstance jh (ez (pv 0) (ez (xr (v:=.ty "ValueError") rfl ER.val G8 rfl) fQ)))))))) (ll (oB iT)) nB) (gP (lx (i:=1) d rfl (Or.inl rfl) (qt (ez (gw (hZ (K:=K) (aj.mpr rfl) a) rfl B.isinstance jh (ez (pv 0) (ez (iF (v:=.ref c.NoFraction) rfl ER.m_NoFraction rfl) fQ))) (ez (gw (hZ (K:=K) (aj.mpr rfl) a) rfl B.isinstance jh (ez (pv 0) (ez (iF (v:=.ref c.NoCutting) rfl ER.m_NoCutting rfl) fQ))) (ez (gw (hZ (K:=K) (aj.mpr rfl) a) rfl B.isinstance jh (ez (pv 0) (ez (iF (v:=.ref c.NoSpot) rfl ER.m_NoSpot rfl) fQ))) fQ))))) (gP (lx (i:=1) d rfl (Or.inl rfl) (vD uA (pv 1) (qt (ez (gw (hZ (K:=K) (aj.mpr rfl) a) rfl B.isinstance jh (ez (pv 0) (ez (iF (v:=.ref c.NoSigns) rfl ER.m_NoSigns rfl) fQ))) (ez (gw (hZ (K:=K) (aj.mpr rfl) a) rfl B.isinstance jh (ez (pv 0) (ez (iF (v:=.ref c.NoLand) rfl ER.m_NoLand rfl) fQ))) (ez (gw (hZ (K:=K) (aj.mpr rfl) a) rfl B.isinstance jh (ez (pv 0) (ez (iF (v:=.ref c.NoFace) rfl ER.m_NoFace rfl) fQ))) fQ)))))) (gP (lx (i:=1) d rfl (Or.inl rfl) (vD uA (pv 1) (qt (ez (gw (hZ (K:=K) (aj.mpr rfl) a) rfl B.isinstance jh (ez (pv 0) (ez (iF (v:=.ref c.NoNumber) rfl ER.m_NoNumber rfl) fQ))) (ez (gw (hZ (K:=K) (aj.mpr rfl) a) rfl B.isinstance jh (ez (pv 0) (ez (iF (v:=.ref c.NoTable) rfl ER.m_NoTable rfl) fQ))) (ez (gw (hZ (K:=K) (aj.mpr rfl) a) rfl B.isinstance jh (ez (pv 0) (ez (iF (v:=.ref c.NoText) rfl ER.m_NoText rfl) fQ))) fQ)))))) (gP (nh (xE PySem.F.plainAttrs_list PySem.F.slot_list_append PySem.F.type_list_append mr (pv 1) (ez (gw (hZ (K:=K) (aj.mpr rfl) a) rfl B.isinstance jh (ez (pv 0) (ez (iF (v:=.ref c.NoDeed) rfl ER.m_NoDeed rfl) fQ))) fQ))) (gP (vf (t8 Je (EE (Kt j) (pv 1) (ez CB fQ)) Bf (lV _)) (ll (oB iT)) nB) (gP (lx (i:=2) d rfl (Or.inl rfl) (qt (ez iT (ez iT (ez iT (ez iT (ez iT (ez iT (ez iT (ez iT (ez iT (ez iT fQ)))))))))))) (gP (lx (i:=3) d rfl (Or.inl rfl) (Ci wm (pv 2) (FI (Kt j) (pv 1) (ez CB fQ)) (by intro _ _;rfl))) (gP (vf (t8 Ju (pv 3) iT (lV _)) zC nB) (ll (oB (pv 3)))))))))))),EM (w:=nF) (GZ (yw (C8 rfl ER.x_NoNumber.xc ER.kc)) λ_ _=>yw (G5 rfl ER.x_NoNumber.xc ER.x_NoNumber.va)) λU l=>BW (iO (jz rfl ER.x_NoNumber.xc ER.n_NoNumber_NoFraction) λ_ _=>iO (jz rfl ER.x_NoNumber.xc ER.n_NoNumber_NoCutting) λ_ _=>iO (jz rfl ER.x_NoNumber.xc ER.n_NoNumber_NoSpot) λ_ _=>qd) (by show 3<=sizeLine;decide) λN J h n2 z=>Ct rfl z (iO (jz rfl ER.x_NoNumber.xc ER.n_NoNumber_NoSigns) λ_ _=>iO (jz rfl ER.x_NoNumber.xc ER.n_NoNumber_NoLand) λ_ _=>iO (jz rfl ER.x_NoNumber.xc ER.n_NoNumber_NoFace) λ_ _=>qd) (by show 6<=sizeLine;decide) λE p3 o R x=>Ct rfl x (iO (jz rfl ER.x_NoNumber.xc (vx _ _)) λ_ _=>iO (jz rfl ER.x_NoNumber.xc ER.n_NoNumber_NoTable) λ_ _=>iO (jz rfl ER.x_NoNumber.xc ER.n_NoNumber_NoText) λ_ _=>qd) (by show 9<=sizeLine;decide) λX Y r u C=>Gs rfl C (jz rfl ER.x_NoNumber.xc ER.n_NoNumber_NoDeed) (by show 9<sizeLine;decide) λD p=>GD (bs:=[false,false,false,false,false,false,true,false,false,false]) rfl eE rfl (BW (vK ["fraction","cutting","spot","signs","land","face","number","table","text","deed"] _) (by show 10<=sizeLine;decide) λI S n L y=>IS (bs:=[false,false,false,false,false,false,true,false,false,false]) (m:=6) rfl (n _ _ eE) rfl y rfl (by decide) rfl (IU rfl (by decide) ⟨_,rfl,q _ (eJ.trans (ze (l.trans (h.trans (o.trans (r.trans p)))) (eU (l.trans (h.trans o)) u)) n)⟩))⟩
theorem o0(D:eM K mg "is_whole" (fy 14)):CP Z "is_whole" 1 (fw c):=je Z 0 (fw c) ["thing"] ["thing"] rfl D λnd hX hr=>⟨_,(d9 (eB (uu (m8 "int" (by decide) B.isinstance B.int wO (dS 0)) (uE (Bq (m8 "bool" (by decide) B.isinstance B.bool Es (dS 0)))))))⟩
theorem o1(D:eM K mg "sign_of" (fy 16)):CP Z "sign_of" 1 (jw c):=je Z 0 (jw c) ["number"] ["number"] rfl D λnd hX hr=>⟨_,(d6 (fF (iQ vj vo (dS 0) d7) (d9 (eB d7)) eR)
  (d6 (fF (iQ xq xT (dS 0) d7) (d9 (eB (kK d7))) eR)
  (d9 (eB d7))))⟩
theorem o2(D:eM K mg "common_divisor" (fy 17)):CP Z "common_divisor" 1 (fv c):=je Z 0 (fv c) ["one","other","rest"] ["one","other"] rfl D λnd hX hr=>⟨_,(d6 (v5 (λρ=>match ρ with|_::some (.p (.int j))::_=>j.natAbs+1|_=>0) PassesOwn.never (iX hr (dS 1) d7) (d6 (eC 2 nd (l0 (dS 0) (dS 1)))
  (d6 (eC 0 nd (dS 1))
  (d9 (eC 1 nd (dS 2))))))
  (d9 (eB (fg ny um (by rfl) B.abs tN (dU (dS 0) dZ)))))⟩
theorem o3(D:eM K mg "first_place" (fy 28)):CP Z "first_place" 1 (gh c):=je Z 0 (gh c) ["cut","place"] ["cut"] rfl D λnd hX hr=>⟨_,(d6 (eC 1 nd d7)
  (d6 (v5 (λρ=>match ρ with|some (.p (.tup ts))::_=>ts.length+1|_=>0) PassesOwn.never (ja hr (eW (dS 0) (dS 1)) d7) (d9 (eC 1 nd (fJ (dS 1) d7))))
  (d9 (eB (dS 1)))))⟩
theorem o4(D:iu K c.Cutting "dims" "Cutting.dims" (jC (fy 33) 1)):gW P w K mg base c.Cutting "dims" 1 (l6 K (fB c)):=Ba Z 0 (fB c) ["self"] ["self"] rfl ER.cl_Cutting D λnd hX hr=>⟨_,(d9 (eB (qj rfl ER.cl_Cutting ER.na_Cutting_own_dims (dS 0))))⟩
theorem o5(D:iu K c.Cutting "cuts" "Cutting.cuts" (jC (fy 33) 2)):gW P w K mg base c.Cutting "cuts" 1 (C0 K (fL c)):=HK Z 0 (fL c) ["self"] ["self"] rfl ER.cl_Cutting D λnd hX hr=>⟨_,(d9 (AZ (oJ (mS (K:=K)) qf (by rfl) B.list pW (dU (qj rfl ER.cl_Cutting ER.na_Cutting_own_cuts (dS 0)) dZ))))⟩
theorem o6(D:iu K c.Cutting "many" "Cutting.many" (jC (fy 33) 3)):gW P w K mg base c.Cutting "many" 1 (l6 K (gO c)):=Ba Z 0 (gO c) ["self"] ["self"] rfl ER.cl_Cutting D λnd hX hr=>⟨_,(d9 (eB (fg (fP (K:=K)) iU (by rfl) B.len iW (dU (qj rfl ER.cl_Cutting ER.na_Cutting_own_cuts (dS 0)) dZ))))⟩
theorem o7(D:eM K mg "without_place" (fy 35)):CP Z "without_place" 1 (ie c):=je Z 0 (ie c) ["row","place"] ["row","place"] rfl D λnd hX hr=>⟨_,(d9 (eB (fJ (hW (dS 0) jU (jT (dS 1))) (hW (dS 0) (jT (fJ (dS 1) d7)) jU))))⟩
theorem o8(D:eM K mg "_law_cell_at" (fy 41)):CP Z "_law_cell_at" 1 (gF c):=je Z 0 (gF c) ["_law_script","_law_k"] ["_law_script","_law_k"] rfl D λnd hX hr=>⟨_,(d6 (fF (iQ xq xT (dS 1) (fg (fP (K:=K)) iU (by rfl) B.len iW (dU (dS 0) dZ))) (d9 (eB (eW (dS 0) (dS 1)))) eR)
  (d9 (eB d7)))⟩
theorem o9(D:eM K mg "_law_draw" (fy 42)):CP Z "_law_draw" 1 (eG c):=je Z 0 (eG c) ["_law_cell","_law_k","_law_bound","_law_left","_law_j","_law_stir"] ["_law_cell","_law_k","_law_bound"] rfl D λnd hX hr=>⟨_,(d6 (fF (iQ Cg CK (dS 0) (Gx d7 d7)) (d6 (eC 3 nd (dS 0))
  (d6 (lh PassesOwn.never rfl (iR B.range (dU (dS 1) dZ)) (gy 4 nd) (d9 (eC 3 nd (lA (dS 3) (dS 2)))))
  (d9 (eB (l0 (dS 3) (dS 2)))))) eR)
  (d6 (eC 5 nd (l0 (fU (fJ (fJ (l0 (dS 0) d7) (fU d7 (dS 1))) d7) d7) d7))
  (d6 (eC 5 nd (l0 (fJ (fJ (fU (dS 5) (dS 5)) (fU d7 (dS 1))) d7) d7))
  (d9 (eB (l0 (lA (l0 (fU (dS 5) d7) d7) d7) (dS 2)))))))⟩
theorem K6(D:eM K mg "_law_common" (fy 43)):CP Z "_law_common" 1 (hI c):=je Z 0 (hI c) ["_law_one","_law_other"] ["_law_one","_law_other"] rfl D λa e d=>⟨_,(d6 (eC 0 a (fg ny um (by rfl) B.abs tN (dU (dS 0) dZ)))
  (d6 (eC 1 a (fg ny um (by rfl) B.abs tN (dU (dS 1) dZ)))
  (d6 (v5 (λb=>match b with|_::some (.p (.int j))::_=>j.natAbs+1|_=>0) PassesOwn.never (iQ vj vo (dS 1) d7) (d9 (DQ (i:=0) (j:=1) rfl a rfl rfl (by decide) rfl rfl (dU (dS 1) (dU (l0 (dS 0) (dS 1)) dZ)) (by rfl))))
  (d9 (eB (dS 0))))))⟩
theorem KS(D:eM K mg "_law_same" (fy 44)):CP Z "_law_same" 1 (gq c):=je Z 0 (gq c) ["_law_one","_law_other","_law_k","_law_j"] ["_law_one","_law_other"] rfl D λa d b=>⟨_,(d6 (lh PassesOwn.never rfl (iR B.range (dU (fg (fP (K:=K)) iU (by rfl) B.len iW (dU (dS 0) dZ)) dZ)) (gy 2 a) (d9 (lh PassesOwn.never rfl (iR B.range (dU (dS 2) dZ)) (gy 3 a) (d9 (fF (iX b (fU (eW (dS 0) (dS 2)) (eW (dS 1) (dS 3))) (fU (eW (dS 0) (dS 3)) (eW (dS 1) (dS 2)))) (d9 (eB jW)) eR)))))
  (d9 (eB jW)))⟩
theorem K5(D:eM K mg "is_number_of" (fy 15))(a:CP Z "is_whole" 1 (fw c)):CP Z "is_number_of" 2 (fV c):=je Z 1 (fV c) ["thing","many"] ["thing","many"] rfl D λd e b=>⟨_,(d9 (eB (uu (eD a b (dU (dS 0) dZ)) (uE (vM AN Bx xq xT d7 (dS 0) (dS 1))))))⟩
theorem KG(D:eM K mg "lowest" (fy 18))(e:CP Z "common_divisor" 1 (fv c)):CP Z "lowest" 2 (jG c):=je Z 1 (jG c) ["row","divisor","number"] ["row"] rfl D λa d b=>⟨_,(d6 (eC 1 a d7)
  (d6 (ls PassesOwn.never rfl (hU (dS 0)) (gy 2 a) (d6 (eC 1 a (eD e b (dU (dS 1) (dU (dS 2) dZ))))
  (d9 (fF (ja b (dS 1) d7) (d9 (eB (dS 0))) eR))))
  (d6 (fF (ja b (dS 1) d7) (d9 (eB (dS 0))) eR)
  (d9 (eB (gU (gA (K:=K)) iD (by rfl) B.tuple gR (dU (gE (i9 ["number","divisor"] [none,some 1] d (hU (dS 0)) (λa d=>⟨(iC 0 a),gp,(lA (dS 0) (dS 1))⟩))) dZ)))))))⟩
theorem KW(D:eM K mg "is_fraction" (fy 21))(b:CP Z "is_whole" 1 (fw c))(d:CP Z "common_divisor" 1 (fv c)):CP Z "is_fraction" 2 (iP c):=je Z 1 (iP c) ["thing"] ["thing"] rfl D λe f a=>⟨_,(d6 (fF (oa (jV (g9 (i8 (m8 "tuple" (by decide) B.isinstance B.tuple gR (dS 0)))) (jB (iX a (fg (fP (K:=K)) iU (by rfl) B.len iW (dU (dS 0) dZ)) d7)))) (d9 (eB jW)) eR)
  (d6 (fF (oa (jV (g9 (i8 (eD b a (dU (eW (dS 0) d7) dZ)))) (jB (g9 (i8 (eD b a (dU (eW (dS 0) d7) dZ))))))) (d9 (eB jW)) eR)
  (d9 (eB (uu (uF Cg CK (eW (dS 0) d7) d7) (uE (yc a (eD d a (dU (eW (dS 0) d7) (dU (eW (dS 0) d7) dZ))) d7)))))))⟩
theorem KM(D:eM K mg "is_dims" (fy 25))(a:CP Z "is_whole" 1 (fw c)):CP Z "is_dims" 2 (ka c):=je Z 1 (ka c) ["thing"] ["thing"] rfl D λd e b=>⟨_,(d9 (eB (uu (eD a b (dU (dS 0) dZ)) (uE (vM AN Bx AN Bx d7 (dS 0) (uS 3 ER.k_MOST_DIMS))))))⟩
theorem K9(D:eM K mg "is_cut" (fy 27))(e:CP Z "is_whole" 1 (fw c)):CP Z "is_cut" 2 (jg c):=je Z 1 (jg c) ["dims","thing"] ["dims","thing"] rfl D λa b d=>⟨_,(d6 (fF (oa (jV (g9 (i8 (m8 "tuple" (by decide) B.isinstance B.tuple gR (dS 1)))) (jB (iX d (fg (fP (K:=K)) iU (by rfl) B.len iW (dU (dS 1) dZ)) (fJ (dS 0) d7))))) (d9 (eB jW)) eR)
  (d6 (fF (g9 (i8 (fg (oK (K:=K) rfl) w5 (by rfl) B.all wN (dU (gE (i9 ["number"] [none] b (hU (dS 1)) (λa b=>⟨(iC 0 a),gp,(eD e d (dU (dS 0) dZ))⟩))) dZ)))) (d9 (eB jW)) eR)
  (d9 (eB (fg (sH (K:=K) rfl) AE (by rfl) B.any B8 (dU (gE (i9 ["number"] [none] b (hU (hW (dS 1) jU (jT (dS 0)))) (λa b=>⟨(iC 0 a),gp,(Jm d (dS 0) d7)⟩))) dZ))))))⟩
theorem KZ(D:eM K mg "same_spots" (fy 29))(e:CP Z "first_place" 1 (gh c)):CP Z "same_spots" 2 (gC c):=je Z 1 (gC c) ["one","other","place"] ["one","other"] rfl D λa d b=>⟨_,(d6 (eC 2 a (eD e b (dU (dS 0) dZ)))
  (d9 (eB (fg (oK (K:=K) rfl) w5 (by rfl) B.all wN (dU (gE (i9 ["mine","theirs","other","place","one"] [none,none,some 1,some 2,some 0] d (nN B.zip (dU (dS 0) (dU (dS 1) dZ))) (λa d=>⟨(ui 2 rfl (iY (iC 0 a) (iY (iC 1 a) nM))),gp,(yc b (fU (dS 0) (eW (dS 2) (dS 3))) (fU (dS 1) (eW (dS 4) (dS 3))))⟩))) dZ)))))⟩
theorem KR(D:eM K mg "side_of" (fy 30))(b:CP Z "sign_of" 1 (jw c)):CP Z "side_of" 2 (kY c):=je Z 1 (kY c) ["cut","spot","left","bottom","number","part"] ["cut","spot"] rfl D λa e d=>⟨_,(d6 (eC 2 a (kK (eW (dS 0) (kK d7))))
  (d6 (eC 3 a d7)
  (d6 (ls PassesOwn.never rfl (nN B.zip (dU (hW (dS 0) jU (jT (kK d7))) (dU (dS 1) dZ))) (qE 2 rfl (ij (gy 4 a) (ij (gy 5 a) l5))) (d6 (eC 2 a (fJ (fU (dS 2) (eW (dS 5) d7)) (fU (fU (dS 4) (eW (dS 5) d7)) (dS 3))))
  (d9 (eC 3 a (fU (dS 3) (eW (dS 5) d7))))))
  (d9 (eB (eD b d (dU (dS 2) dZ)))))))⟩
theorem K4(D:eM K mg "_law_cut" (fy 45))(d:CP Z "_law_draw" 1 (eG c)):CP Z "_law_cut" 2 (iB c):=je Z 1 (iB c) ["_law_cell","_law_k","_law_dims","_law_found","_law_wide","_law_cut_here","_law_way","_law_other","_law_by"] ["_law_cell","_law_k","_law_dims","_law_found"] rfl D λa e b=>⟨_,(d6 (eC 4 a (eW (gE (iw (dU d7 (dU d7 (dU d7 (dU d7 (dU d7 dZ))))))) (eD d b (dU (dS 0) (dU d7 (dU d7 dZ))))))
  (d6 (qO ["_law_j","_law_wide","_law_cell","_law_k"] [none,some 4,some 0,some 1] 5 a e (pN.pim (iR B.range (dU (fJ (dS 2) d7) dZ))) (λa e=>⟨(iC 0 a),gp,(lX (eD d b (dU (dS 2) (dU (fJ (fJ d7 (fU d7 (dS 3))) (dS 0)) (dU (fJ (fU d7 (dS 1)) d7) dZ)))) (dS 1))⟩) pT)
  (d6 (eC 6 a (eD d b (dU (dS 0) (dU (fJ d7 (dS 1)) (dU d7 dZ)))))
  (d6 (fF (oa (pX (ja b (dS 6) d7) (ni (iX b (dS 3) (gE (iw dZ)))))) (d9 (Aq 5 a (HC (gE (oJ (mS (K:=K)) qf (by rfl) B.list pW (dU (hW (eW (dS 3) (eD d b (dU (dS 0) (dU (fJ d7 (dS 1)) (dU (fg (fP (K:=K)) iU (by rfl) B.len iW (dU (dS 3) dZ)) dZ))))) jU (jT (dS 2))) dZ))) (hW (dS 5) (jT (dS 2)) jU)))) eR)
  (d6 (fF (ja b (dS 6) d7) (d9 (ue 5 (pv 5) (dS 2) d7)) eR)
  (d6 (fF (oa (pX (ja b (dS 6) d7) (ni (iQ vj vo (fg (fP (K:=K)) iU (by rfl) B.len iW (dU (dS 3) dZ)) d7)))) (d6 (eC 7 a (eW (dS 3) (eD d b (dU (dS 0) (dU (fJ d7 (dS 1)) (dU (lX (fg (fP (K:=K)) iU (by rfl) B.len iW (dU (dS 3) dZ)) d7) dZ))))))
  (d6 (eC 8 a (fJ d7 (eD d b (dU (dS 0) (dU (fJ d7 (dS 1)) (dU d7 dZ))))))
  (d9 (qO ["_law_one","_law_two","_law_by"] [none,none,some 8] 5 a e (nN B.zip (dU (eW (dS 3) (kK d7)) (dU (dS 7) dZ))) (λa e=>⟨(ui 2 rfl (iY (iC 0 a) (iY (iC 1 a) nM))),gp,(fJ (dS 0) (fU (dS 2) (dS 1)))⟩) pT)))) eR)
  (d6 (fF (ja b (hW (dS 5) jU (jT (dS 2))) (gE (FF (gE (iw (dU d7 dZ))) (dS 2)))) (d9 (ue 5 (pv 5) (eD d b (dU (dS 0) (dU (fJ d7 (dS 1)) (dU (dS 2) dZ)))) d7)) eR)
  (d9 (eB (gU (gA (K:=K)) iD (by rfl) B.tuple gR (dU (dS 5) dZ)))))))))))⟩
theorem KJ(D:eM K mg "_law_on" (fy 47))(d:CP Z "_law_common" 1 (hI c)):CP Z "_law_on" 2 (jJ c):=je Z 1 (jJ c) ["_law_cut_here","_law_own","_law_at","_law_turn","_law_found","_law_share","_law_number"] ["_law_cut_here","_law_own","_law_at"] rfl D λa b e=>⟨_,(d6 (eC 3 a (eW (gE (iw (dU (kK d7) (dU d7 dZ)))) (gU sh ya (by rfl) B.int wO (dU (uF vj vo (eW (dS 1) (dS 2)) d7) dZ))))
  (d6 (qO ["_law_number","_law_mine","_law_turn","_law_own","_law_at","_law_cut_here"] [none,none,some 3,some 1,some 2,some 0] 4 a b (nN B.zip (dU (dS 0) (dU (dS 1) dZ))) (λa b=>⟨(ui 2 rfl (iY (iC 0 a) (iY (iC 1 a) nM))),gp,(fU (dS 2) (lX (fU (dS 0) (eW (dS 3) (dS 4))) (fU (eW (dS 5) (dS 4)) (dS 1))))⟩) Cp)
  (d6 (eC 4 a (fJ (hW (dS 4) jU (jT (dS 2))) (hW (dS 4) (jT (fJ (dS 2) d7)) jU)))
  (d6 (eC 5 a d7)
  (d6 (ls PassesOwn.never rfl (hU (dS 4)) (gy 6 a) (d9 (eC 5 a (eD d e (dU (dS 5) (dU (dS 6) dZ))))))
  (d9 (eB (gU (gA (K:=K)) iD (by rfl) B.tuple gR (dU (gE (i9 ["_law_number","_law_share"] [none,some 5] b (hU (dS 4)) (λa b=>⟨(iC 0 a),gp,(lA (dS 0) (fg (zD rfl) Em (by rfl) B.max GH (dU d7 (dU (dS 1) dZ))))⟩))) dZ)))))))))⟩
theorem K8(D:eM K mg "_law_fraction" (fy 50))(a:CP Z "_law_common" 1 (hI c)):CP Z "_law_fraction" 2 (fS c):=je Z 1 (fS c) ["_law_top","_law_bottom","_law_share"] ["_law_top","_law_bottom"] rfl D λb e d=>⟨_,(d6 (eC 2 b (eD a d (dU (dS 0) (dU (dS 1) dZ))))
  (d6 (fF (iQ xq xT (dS 1) d7) (d9 (eC 2 b (kK (dS 2)))) eR)
  (d9 (eB (l8 (dU (lA (dS 0) (dS 2)) (dU (lA (dS 1) (dS 2)) dZ)))))))⟩
theorem KN(D:eM K mg "cleared" (fy 19))(b:CP Z "lowest" 2 (jG c))(f:CP Z "sign_of" 1 (jw c)):CP Z "cleared" 3 (kQ c):=je Z 2 (kQ c) ["row","other","place","often","other_often"] ["row","other","place"] rfl D λa e d=>⟨_,(d6 (fF (ja d (eW (dS 0) (dS 2)) d7) (d9 (eB (dS 0))) eR)
  (d6 (eC 3 a (fg ny um (by rfl) B.abs tN (dU (eW (dS 1) (dS 2)) dZ)))
  (d6 (eC 4 a (fU (kK (eW (dS 0) (dS 2))) (eD f d (dU (eW (dS 1) (dS 2)) dZ))))
  (d9 (eB (eD b d (dU (gU (gA (K:=K)) iD (by rfl) B.tuple gR (dU (gE (i9 ["mine","theirs","often","other_often"] [none,none,some 3,some 4] e (nN B.zip (dU (dS 0) (dU (dS 1) dZ))) (λa e=>⟨(ui 2 rfl (iY (iC 0 a) (iY (iC 1 a) nM))),gp,(fJ (fU (dS 2) (dS 0)) (fU (dS 3) (dS 1)))⟩))) dZ)) dZ)))))))⟩
theorem KQ(D:eM K mg "is_spot" (fy 26))(a:CP Z "is_fraction" 2 (iP c)):CP Z "is_spot" 3 (kZ c):=je Z 2 (kZ c) ["dims","thing"] ["dims","thing"] rfl D λb e d=>⟨_,(d6 (fF (oa (jV (g9 (i8 (m8 "tuple" (by decide) B.isinstance B.tuple gR (dS 1)))) (jB (iX d (fg (fP (K:=K)) iU (by rfl) B.len iW (dU (dS 1) dZ)) (dS 0))))) (d9 (eB jW)) eR)
  (d9 (eB (fg (oK (K:=K) rfl) w5 (by rfl) B.all wN (dU (gE (i9 ["part"] [none] e (hU (dS 1)) (λb e=>⟨(iC 0 b),gp,(eD a d (dU (dS 0) dZ))⟩))) dZ)))))⟩
theorem K2(D:eM K mg "can_stand" (fy 31))(b:CP Z "is_cut" 2 (jg c))(a:CP Z "same_spots" 2 (gC c)):CP Z "can_stand" 3 (i5 c):=je Z 2 (i5 c) ["dims","ahead","thing"] ["dims","ahead","thing"] rfl D λd f e=>⟨_,(d6 (fF (oa (jV (iQ Cg CK (fg (fP (K:=K)) iU (by rfl) B.len iW (dU (dS 1) dZ)) (uS 7 ER.k_MOST_CUTS)) (jB (g9 (i8 (eD b e (dU (dS 0) (dU (dS 2) dZ)))))))) (d9 (eB jW)) eR)
  (d9 (eB (Bq (fg (sH (K:=K) rfl) AE (by rfl) B.any B8 (dU (gE (i9 ["cut","thing"] [none,some 2] f (hU (dS 1)) (λd f=>⟨(iC 0 d),gp,(eD a e (dU (dS 0) (dU (dS 1) dZ)))⟩))) dZ))))))⟩
theorem Lc(D:eM K mg "place_of_same" (fy 38))(a:CP Z "same_spots" 2 (gC c)):CP Z "place_of_same" 3 (gz c):=je Z 2 (gz c) ["seen","one","place","other"] ["seen","one"] rfl D λb e d=>⟨_,(d6 (ls PassesOwn.never rfl (xX B.enumerate (dU (dS 0) dZ)) (qE 2 rfl (ij (gy 2 b) (ij (gy 3 b) l5))) (d9 (fF (i8 (eD a d (dU (dS 3) (dU (dS 1) dZ)))) (d9 (eB (dS 2))) eR)))
  (d9 (eB vX)))⟩
theorem K0(D:eM K mg "_law_cutting" (fy 46))(f:CP Z "_law_draw" 1 (eG c))(d:CP Z "_law_cut" 2 (iB c))(e:CP Z "_law_same" 1 (gq c)):CP Z "_law_cutting" 3 (iM c):=je Z 2 (iM c) ["_law_cell","_law_most","_law_dims","_law_found","_law_k","_law_cut_here"] ["_law_cell","_law_most"] rfl D λa g b=>⟨_,(d6 (eC 2 a (eW (gE (iw (dU d7 (dU d7 (dU d7 (dU d7 (dU d7 dZ))))))) (eD f b (dU (dS 0) (dU d7 (dU d7 dZ))))))
  (d6 (lg 3 a (iw dZ))
  (d6 (lh PassesOwn.never rfl (iR B.range (dU (eD f b (dU (dS 0) (dU d7 (dU (fJ (dS 1) d7) dZ)))) dZ)) (gy 4 a) (d6 (qH 5 a (eD d b (dU (dS 0) (dU (dS 4) (dU (dS 2) (dU (dS 3) dZ))))))
  (d9 (fF (ja b (gE (i9 ["_law_one","_law_cut_here"] [none,some 5] g (hU (dS 3)) (λa g=>⟨(iC 0 a),(n5 (i8 (eD e b (dU (dS 0) (dU (dS 1) dZ))))),(dS 0)⟩))) (gE (iw dZ))) (d9 (oj 3 (pv 3) (dS 5))) eR))))
  (d9 (eB (l8 (dU (dS 2) (dU (dS 3) dZ))))))))⟩
theorem KU(D:eM K mg "_law_trace" (fy 48))(e:CP Z "_law_on" 2 (jJ c))(f:CP Z "_law_same" 1 (gq c)):CP Z "_law_trace" 3 (iZ c):=je Z 2 (iZ c) ["_law_dims","_law_cuts","_law_k","_law_at","_law_found","_law_whence","_law_j","_law_seen","_law_alike"] ["_law_dims","_law_cuts","_law_k"] rfl D λa d b=>⟨_,(d6 (eC 3 a (eW (gE (i9 ["_law_place","_law_cuts","_law_k"] [none,some 1,some 2] d (pN.pim (iR B.range (dU (dS 0) dZ))) (λa d=>⟨(iC 0 a),(n5 (iX b (eW (eW (dS 1) (dS 2)) (dS 0)) d7)),(dS 0)⟩))) d7))
  (d6 (lg 4 a (iw dZ))
  (d6 (lg 5 a (iw dZ))
  (d6 (uO 5 PassesOwn.never rfl (pN.im (iR B.range (dU (fg (fP (K:=K)) iU (by rfl) B.len iW (dU (dS 1) dZ)) dZ))) (gy 6 a) (jm (ke 5 (eC 7 a (eD e b (dU (eW (dS 1) (dS 6)) (dU (eW (dS 1) (dS 2)) (dU (dS 3) dZ))))))
  (jm (ke 5 (qO ["_law_place","_law_seen","_law_found"] [none,some 7,some 4] 8 a d (pN.pim (iR B.range (dU (fg (fP (K:=K)) iU (by rfl) B.len iW (dU (dS 4) dZ)) dZ))) (λa d=>⟨(iC 0 a),(n5 (i8 (eD f b (dU (eW (dS 2) (dS 0)) (dU (dS 1) dZ))))),(dS 0)⟩) BS))
  (jm (tR (oa (jV (ja b (dS 6) (dS 2)) (jB (ja b (hW (dS 7) jU (jT (kK d7))) (DY (l8 (dU d7 dZ)) (lX (dS 0) d7)))))) (jF (ke 5 FS)) (uX 5))
  (jF (tR (ja b (dS 8) (gE (iw dZ))) (jm (ke 5 (oj 4 (pv 4) (dS 7)))
  (jF (uM 5 (pv 5) (iw (dU (dS 6) dZ))))) (jF (vN 5 (pv 5) (eW (dS 8) d7) (dS 6)))))))))
  (d9 (eB (l8 (dU (dS 4) (dU (dS 5) dZ)))))))))⟩
theorem Kz(D:eM K mg "_law_spot_on" (fy 51))(e:CP Z "_law_fraction" 2 (fS c))(f:CP Z "_law_draw" 1 (eG c)):CP Z "_law_spot_on" 3 (ig c):=je Z 2 (ig c) ["_law_own","_law_at","_law_cell","_law_dims","_law_parts","_law_top","_law_j"] ["_law_own","_law_at","_law_cell","_law_dims"] rfl D λa d b=>⟨_,(d6 (qO ["_law_j","_law_cell"] [none,some 2] 4 a d (pN.pim (iR B.range (dU (dS 3) dZ))) (λa d=>⟨(iC 0 a),gp,(l8 (dU (lX (eD f b (dU (dS 1) (dU (fJ d7 (dS 0)) (dU d7 dZ)))) d7) (dU (fJ d7 (eD f b (dU (dS 1) (dU (fJ d7 (dS 0)) (dU d7 dZ))))) dZ)))⟩) pT)
  (d6 (eC 5 a (fU (eW (dS 0) (dS 3)) d7))
  (d6 (lh PassesOwn.never rfl (iR B.range (dU (dS 3) dZ)) (gy 6 a) (d9 (fF (iX b (dS 6) (dS 1)) (d9 (qH 5 a (lX (dS 5) (fU (fU (eW (dS 0) (dS 6)) (eW (eW (dS 4) (dS 6)) d7)) (lA d7 (eW (eW (dS 4) (dS 6)) d7)))))) eR)))
  (d6 (ue 4 (pv 4) (dS 1) (l8 (dU (dS 5) (dU (fU d7 (eW (dS 0) (dS 1))) dZ))))
  (d9 (eB (gU (gA (K:=K)) iD (by rfl) B.tuple gR (dU (gE (i9 ["_law_part"] [none] d (hU (dS 4)) (λa d=>⟨(iC 0 a),gp,(eD e b (dU (eW (dS 0) d7) (dU (eW (dS 0) d7) dZ)))⟩))) dZ))))))))⟩
theorem K3(D:eM K mg "checked_cuts" (fy 32))(a:CP Z "is_dims" 2 (ka c))(b:CP Z "can_stand" 3 (i5 c)):CP Z "checked_cuts" 4 (gM c):=je Z 3 (gM c) ["dims","things","ahead","thing"] ["dims","things"] rfl D λd f e=>⟨_,(d6 (fF (oa (jV (g9 (i8 (eD a e (dU (dS 0) dZ)))) (jB (g9 (i8 (m8 "list" (by decide) B.isinstance B.list pW (dS 1))))))) (d9 t6) eR)
  (d6 (lg 2 d (iw dZ))
  (d6 (ls PassesOwn.never rfl (hU (dS 1)) (gy 3 d) (d6 (fF (g9 (i8 (eD b e (dU (dS 0) (dU (dS 2) (dU (dS 3) dZ)))))) (d9 t6) eR)
  (d9 (oj 2 (pv 2) (gU (gA (K:=K)) iD (by rfl) B.tuple gR (dU (dS 3) dZ))))))
  (d9 (eB (gU (gA (K:=K)) iD (by rfl) B.tuple gR (dU (dS 2) dZ)))))))⟩
theorem KD(D:iu K c.Cutting "sides" "Cutting.sides" (jC (fy 33) 4))(a:CP Z "is_spot" 3 (kZ c))(b:CP Z "side_of" 2 (kY c)):gW P w K mg base c.Cutting "sides" 4 (l6 K (f7 c)):=Ba Z 3 (f7 c) ["self","spot"] ["self","spot"] rfl ER.cl_Cutting D λd f e=>⟨_,(d6 (fF (g9 (i8 (eD a e (dU (qj rfl ER.cl_Cutting ER.na_Cutting_own_dims (dS 0)) (dU (dS 1) dZ))))) (d9 t6) eR)
  (d9 (eB (gU (gA (K:=K)) iD (by rfl) B.tuple gR (dU (gE (i9 ["cut","spot"] [none,some 1] f (hU (qj rfl ER.cl_Cutting ER.na_Cutting_own_cuts (dS 0))) (λd f=>⟨(iC 0 d),gp,(eD b e (dU (dS 0) (dU (dS 1) dZ)))⟩))) dZ)))))⟩
theorem Ld(D:eM K mg "seen_on" (fy 37))(g:CP Z "first_place" 1 (gh c))(b:CP Z "lowest" 2 (jG c))(f:CP Z "without_place" 1 (ie c))(d:CP Z "cleared" 3 (kQ c)):CP Z "seen_on" 4 (jq c):=je Z 3 (jq c) ["cut","other","place"] ["cut","other"] rfl D λe h a=>⟨_,(d6 (eC 2 e (eD g a (dU (dS 0) dZ)))
  (d9 (eB (eD b a (dU (eD f a (dU (eD d a (dU (dS 1) (dU (dS 0) (dU (dS 2) dZ)))) (dU (dS 2) dZ))) dZ)))))⟩
theorem KC(D:iu K c.Cutting "__init__" "Cutting.__init__" (jC (fy 33) 0))(a:CP Z "checked_cuts" 4 (gM c)):wR P w K mg base "Cutting" c.Cutting 5 (vk K c.Cutting (fW c)):=J0 Z 4 (fW c) ["self","dims","cuts"] rfl ER.cl_Cutting ER.na_Cutting_own_cuts ER.na_Cutting_own_dims ER.mk_Cutting ER.kp_Cutting ER.mg_Cutting D λb=>Ka rfl (pv 0) (eD a b (dU (dS 1) (dU (dS 2) dZ))) (pv 0) (dS 1)
theorem KP(D:eM K mg "trace" (fy 39))(j:gW P w K mg base c.Cutting "cuts" 1 (C0 K (fL c)))(k:gW P w K mg base c.Cutting "dims" 1 (l6 K (fB c)))(f:CP Z "seen_on" 4 (jq c))(g:CP Z "is_cut" 2 (jg c))(e:wR P w K mg base "Cutting" c.Cutting 5 (vk K c.Cutting (fW c)))(h:CP Z "is_number_of" 2 (fV c))(d:CP Z "place_of_same" 3 (gz c))(i:gW P w K mg base c.Cutting "many" 1 (l6 K (gO c))):CE Z "trace" 7 (ip c):=Kc Z 6 (ip c) ["cutting","k","dims","cuts","seen","whence","number","other","one","place"] ["cutting","k"] rfl D λb l a=>⟨_,(d6 (eC 2 b (lX (uB k a (dS 0)) d7))
  (d6 (fF (oa (jV (ja a (dS 2) d7) (jB (g9 (i8 (eD h a (dU (dS 1) (dU (uB i a (dS 0)) dZ)))))))) (d9 (zJ ER.x_NoNumber.ns ER.x_NoNumber.ex)) eR)
  (A0 (d6 (eC 3 b (gE (AF j a (dS 0))))
  (d6 (lg 4 b (iw dZ))
  (d6 (lg 5 b (iw dZ))
  (d6 (uO 5 PassesOwn.never rfl (xX B.enumerate (dU (dS 3) dZ)) (qE 2 rfl (ij (gy 6 b) (ij (gy 7 b) l5))) (jm (ke 5 (eC 8 b (eD f a (dU (eW (dS 3) (dS 1)) (dU (dS 7) dZ)))))
  (jF (tR (i8 (eD g a (dU (dS 2) (dU (dS 8) dZ)))) (jm (ke 5 (qH 9 b (eD d a (dU (dS 4) (dU (dS 8) dZ)))))
  (jF (tR (iQ FO HG (dS 9) vX) (jm (ke 5 (oj 4 (pv 4) (dS 8)))
  (jF (uM 5 (pv 5) (iw (dU (dS 6) dZ))))) (jF (vN 5 (pv 5) (dS 9) (dS 6)))))) (uX 5)))))
  (d9 (eB (l8 (dU (Fm e a (dU (dS 2) (dU (dS 4) dZ))) (dU (dS 5) dZ))))))))))))⟩
theorem KI(D:eM K mg "_law_told" (fy 52))(i:gW P w K mg base c.Cutting "dims" 1 (l6 K (fB c)))(f:CE Z "trace" 7 (ip c))(h:CP Z "_law_trace" 3 (iZ c))(g:CP Z "_law_spot_on" 3 (ig c))(d:gW P w K mg base c.Cutting "sides" 4 (l6 K (f7 c)))(j:gW P w K mg base c.Cutting "cuts" 1 (C0 K (fL c))):CP Z "_law_told" 8 (iI c):=je Z 7 (iI c) ["_law_cutting_here","_law_cuts","_law_k","_law_cell","_law_dims","_law_found","_law_seen","_law_whence","_law_at","_law_spot","_law_sides"] ["_law_cutting_here","_law_cuts","_law_k","_law_cell"] rfl D λb e a=>⟨_,(d6 (eC 4 b (uB i a (dS 0)))
  (d6 (eC 5 b (zQ f a (dU (dS 0) (dU (dS 2) dZ))))
  (d6 (yo (eD h a (dU (dS 4) (dU (dS 1) (dU (dS 2) dZ)))) (qE 2 rfl (ij (gy 6 b) (ij (gy 7 b) l5))))
  (d6 (fF (oa (jV (g9 (i8 (m8 "tuple" (by decide) B.isinstance B.tuple gR (dS 5)))) (jV (iX a (fg (fP (K:=K)) iU (by rfl) B.len iW (dU (dS 5) dZ)) d7) (jB (g9 (i8 (De ER.is_Cutting ER.cl_Cutting B.isinstance ER.mg_Cutting (eW (dS 5) d7)))))))) (d9 (eB jW)) eR)
  (d6 (fF (oa (jV (iX a (uB i a (eW (dS 5) d7)) (lX (dS 4) d7)) (jV (iX a (gE (AF j a (eW (dS 5) d7))) (dS 6)) (jB (iX a (eW (dS 5) d7) (dS 7)))))) (d9 (eB jW)) eR)
  (d6 (eC 8 b (eW (gE (i9 ["_law_place","_law_cuts","_law_k"] [none,some 1,some 2] e (pN.pim (iR B.range (dU (dS 4) dZ))) (λb e=>⟨(iC 0 b),(n5 (iX a (eW (eW (dS 1) (dS 2)) (dS 0)) d7)),(dS 0)⟩))) d7))
  (d6 (eC 9 b (eD g a (dU (eW (dS 1) (dS 2)) (dU (dS 8) (dU (dS 3) (dU (dS 4) dZ))))))
  (d6 (eC 10 b (Fv d a (dS 0) (dU (dS 9) dZ)))
  (d9 (eB (yc a (Fv d a (eW (dS 5) d7) (dU (fJ (hW (dS 9) jU (jT (dS 8))) (hW (dS 9) (jT (fJ (dS 8) d7)) jU)) dZ)) (gU (gA (K:=K)) iD (by rfl) B.tuple gR (dU (gE (i9 ["_law_some","_law_sides"] [none,some 10] e (hU (dS 7)) (λb e=>⟨(iC 0 b),gp,(eW (dS 1) (eW (dS 0) d7))⟩))) dZ)))))))))))))⟩
theorem KB(D:eM K mg "_law_refused" (fy 53))(g:CE Z "trace" 7 (ip c))(p:eM K mg "_law_class" (fy 49)):CP Z "_law_refused" 8 (f9 c):=J4 Z 7 (f9 c) ["_law_cutting_here","_law_k","_law_error"] ["_law_cutting_here","_law_k"] rfl D λr x h=>⟨_,(Bc 2 r ER.cut ER.hct (λz t y n=>(d9 (BB (BN g h n (dU (dS 0) (dU (dS 1) dZ))))))
  (λt A v u m j=>(ll (oB (As (sp:=λH Q=>u=c.NoNumber/\∀i,eJ H i->Q (.str "number") i) (N:=["_law_error","_law_kinds","_law_names","_law_found"]) (ps:=["_law_error"]) p (by constructor<;>first|rfl|decide +kernel) h m j rfl (λa b c d e f o q=>kr ((show HJ "_law_class" "_law_class" (fy 49) ["_law_error"] from λ_ _ _ _ _ _ _=>rfl) a b c d e f) o q) rfl rfl (λf l s H Q k=>oC Z B ER h (j.trans (congrArg Value.ref k.1)) k.2) (ez (pv 2) fQ) rfl))))
  (d9 (eB tJ)) (HH ER.x_NoNumber.su) (Gf λ_=>rfl))⟩
theorem oL{h:Addr}{fd:FuncData}(D:C3 K "law" "law" (fy 54) h fd)(i:CP Z "_law_cell_at" 1 (gF c))(f:CP Z "_law_cutting" 3 (iM c))(g:wR P w K mg base "Cutting" c.Cutting 5 (vk K c.Cutting (fW c)))(d:CP Z "_law_refused" 8 (f9 c))(e:CP Z "_law_told" 8 (iI c))(j:CP Z "_law_draw" 1 (eG c)):jS P w K mg base ph 9 h fd ["_law_script"] (l6 K (n8 c)):=Ip Z 8 (n8 c) ["_law_script","_law_k","_law_cell","_law_dims","_law_cuts","_law_cutting_here","_law_j","_law_wrong"] ["_law_script"] rfl D λb k a=>⟨_,(d6 (ls PassesOwn.never rfl (hU (gE (iw (dU d7 (dU d7 (dU d7 dZ)))))) (gy 1 b) (d6 (eC 2 b (eD i a (dU (dS 0) (dU (dS 1) dZ))))
  (d6 (yo (eD f a (dU (dS 2) (dU (fJ d7 (gU sh ya (by rfl) B.int wO (dU (yc a (eD j a (dU (dS 2) (dU d7 (dU d7 dZ)))) d7) dZ))) dZ))) (qE 2 rfl (ij (gy 3 b) (ij (gy 4 b) l5))))
  (d6 (eC 5 b (Fm g a (dU (dS 3) (dU (gE (oJ (mS (K:=K)) qf (by rfl) B.list pW (dU (dS 4) dZ))) dZ))))
  (d6 (lh PassesOwn.never rfl (iR B.range (dU (fg (fP (K:=K)) iU (by rfl) B.len iW (dU (dS 4) dZ)) dZ)) (gy 6 b) (d6 (fF (oa (pX (iQ vj vo (dS 3) d7) (ni (g9 (i8 (eD e a (dU (dS 5) (dU (dS 4) (dU (dS 6) (dU (dS 2) dZ)))))))))) (d9 (eB jW)) eR)
  (d9 (fF (oa (pX (ja a (dS 3) d7) (ni (iX a (eD d a (dU (dS 5) (dU (dS 6) dZ))) tJ)))) (d9 (eB jW)) eR))))
  (d9 (ls PassesOwn.never rfl (hU (gE (iw (dU (kK d7) (dU (fg (fP (K:=K)) iU (by rfl) B.len iW (dU (dS 4) dZ)) (dU jW (dU jW (dU vX (dU tJ (dU (l8 (dU d7 dZ)) (dU (gE (iw (dU d7 dZ))) dZ))))))))))) (gy 7 b) (d9 (fF (iX a (eD d a (dU (dS 5) (dU (dS 7) dZ))) tJ) (d9 (eB jW)) eR)))))))))
  (d9 (eB jW)))⟩
end
def Gu{l:W.OpenLaw}{w:World}{K:W.Frag}{h:Heap}{b:Str->Option Value}{c:Cs}{fa f:Addr}{oc kV g pm d ct:Vq}{od an:Oq Addr}{osl:Array (Option Value)}(X:K.In h)(G:h.Ns mainGlobals b)(z:b "law" = some (.ref fa))
  (a:W.nsIn K mainGlobals "law" = some (some (.ref f))) (lk:K.lookup f=some ⟨oc,od,.func (W.fnOf "law" "law" (gD (fy 54)) (eZ (fy 54)) (eh (fy 54)) .none kV g pm an d ct),osl⟩) (cc:W.codeIn K d "law" = true) (kk:W.keepIn K (.ref f)=true)
  (B:Bs b) (ER:Er c K b) (LF:∀P:LI,(n8 c) [.scr P]=.ok (.bl true)) (D0:eM K b "is_whole" (fy 14)) (D1:eM K b "sign_of" (fy 16)) (D2:eM K b "common_divisor" (fy 17)) (D3:eM K b "first_place" (fy 28)) (D4:eM K b "without_place" (fy 35)) (D5:eM K b "_law_cell_at" (fy 41)) (D6:eM K b "_law_draw" (fy 42)) (D7:eM K b "_law_common" (fy 43)) (D8:eM K b "_law_same" (fy 44)) (D9:eM K b "_law_class" (fy 49)) (D10:eM K b "is_number_of" (fy 15)) (I:eM K b "lowest" (fy 18)) (D12:eM K b "is_fraction" (fy 21)) (D13:eM K b "is_dims" (fy 25)) (R:eM K b "is_cut" (fy 27)) (D15:eM K b "same_spots" (fy 29)) (Y:eM K b "side_of" (fy 30)) (D17:eM K b "_law_cut" (fy 45)) (E:eM K b "_law_on" (fy 47)) (S:eM K b "_law_fraction" (fy 50)) (U:eM K b "cleared" (fy 19)) (D21:eM K b "is_spot" (fy 26)) (D22:eM K b "can_stand" (fy 31)) (Q:eM K b "place_of_same" (fy 38)) (J:eM K b "_law_cutting" (fy 46)) (D25:eM K b "_law_trace" (fy 48)) (D26:eM K b "_law_spot_on" (fy 51)) (L:eM K b "checked_cuts" (fy 32)) (N:eM K b "seen_on" (fy 37)) (t:eM K b "trace" (fy 39)) (D30:eM K b "_law_told" (fy 52)) (u:eM K b "_law_refused" (fy 53)) (M0:iu K c.Cutting "dims" "Cutting.dims" (jC (fy 33) 1)) (M1:iu K c.Cutting "cuts" "Cutting.cuts" (jC (fy 33) 2)) (M2:iu K c.Cutting "many" "Cutting.many" (jC (fy 33) 3)) (M3:iu K c.Cutting "sides" "Cutting.sides" (jC (fy 33) 4)) (M4:iu K c.Cutting "__init__" "Cutting.__init__" (jC (fy 33) 0)) :
  ∃fd:FuncData,(∀(s:Shared) (v:Vq),BindsTo s fd ⟨[v],[]⟩ [("_law_script",v)])/\∀base:Heap,K.In base->base.Ns mainGlobals b->jS l.prog w K b base ph 9 fa fd ["_law_script"] (BQ K):=by
 have e:=z.symm.trans (W.mg_of X G a);cases e;refine⟨W.fnOf "law" "law" (gD (fy 54)) (eZ (fy 54)) (eh (fy 54)) .none kV g pm an d ct,?bnd,λbase _ _=>?main⟩
 case main=>have Z:Zx l.prog w K b base:=⟨trivial⟩;have q:=o0 Z B ER D0;have O1:=o1 Z B ER D1;have O2:=o2 Z B ER D2;have O3:=o3 Z B ER D3;have O4:=o4 Z B ER M0;have O5:=o5 Z B ER M1;have O6:=o6 Z B ER M2;have O7:=o7 Z B ER D4;have O8:=o8 Z B ER D5;have r:=o9 Z B ER D6;have o:=K6 Z B ER D7;have p:=KS Z B ER D8;have O12:=K5 Z B ER D10 q;have i:=KG Z B ER I O2;have y:=KW Z B ER D12 q O2;have O15:=KM Z B ER D13 q;have j:=K9 Z B ER R q;have m:=KZ Z B ER D15 O3;have O18:=KR Z B ER Y O1;have A:=K4 Z B ER D17 r;have O20:=KJ Z B ER E o;have O21:=K8 Z B ER S o;have D:=KN Z B ER U i O1;have O23:=KQ Z B ER D21 y;have F:=K2 Z B ER D22 j m;have O25:=Lc Z B ER Q m;have O26:=K0 Z B ER J r A p;have H:=KU Z B ER D25 O20 p;have O28:=Kz Z B ER D26 O21 r;have O29:=K3 Z B ER L O15 F;have O30:=KD Z B ER M3 O23 O18;have C:=Ld Z B ER N O3 i O7 D;have k:=KC Z B ER M4 O29;have n:=KP Z B ER t O5 O4 C j k O12 O25 O6;have x:=KI Z B ER D30 O4 n H O28 O30 O5;have O35:=KB Z B ER u n D9;exact (oL Z B ER (xm (st:=fy 54) lk cc kk) O8 O26 k O35 x r).imp (Av λP _ _=>LF P)
 case bnd=>exact λs v=>.of_eq rfl
end K45
namespace PySem.Challenge.cw_cutlands_k45_traces_holds
def tw10393652256018050485:0=0:=rfl
def tw3079691515286374079:0=0:=rfl
def tw6791825128344648422:0=0:=rfl
def tw289541415270288956:0=0:=rfl
def tw6749555952138521179:0=0:=rfl
def tw2086571419571395772:0=0:=rfl
def tw16839691772167597255:0=0:=rfl
def tw16095768157378678671:0=0:=rfl
def tw11730113087466107081:0=0:=rfl
def tw3056238254871047791:0=0:=rfl
def tw16091244334459932269:0=0:=rfl
def tw7645587278898399998:0=0:=rfl
def tw4365838587359535174:0=0:=rfl
def tw6739662915169096207:0=0:=rfl
def tw16659875878413484900:0=0:=rfl
def tw16162022636382117827:0=0:=rfl
def tw7566135407061380653:0=0:=rfl
def tw3325131437735575377:0=0:=rfl
def tw17482585364600167830:0=0:=rfl
def tw5321894595226765879:0=0:=rfl
def tw12194632088177438632:0=0:=rfl
def tw10921489770868749086:0=0:=rfl
def tw9815917011312717178:0=0:=rfl
def tw5295078064798363892:0=0:=rfl
def tw11454063870346577450:0=0:=rfl
def tw7878151208338066002:0=0:=rfl
def tw14487368563828086971:0=0:=rfl
def tw11703469741872003444:0=0:=rfl
def tw12936837492515973294:0=0:=rfl
def tw6785408164692359301:0=0:=rfl
def tw8211312849226879854:0=0:=rfl
def tw8661525906485238087:0=0:=rfl
def tw12166121131401533194:0=0:=rfl
def tw673123853747964772:0=0:=rfl
def tw4055645858986117147:0=0:=rfl
def tw18370926499784980508:0=0:=rfl
def tw7505841477189730292:0=0:=rfl
def tw8193946612825622057:0=0:=rfl
def tw15864543572265409918:0=0:=rfl
def tw11513699609622517478:0=0:=rfl
def tw508497766033450937:0=0:=rfl
def tw15799544995663822470:0=0:=rfl
def tw8354144403119371667:0=0:=rfl
def tw14972814898154898563:0=0:=rfl
def tw13101529801584074677:0=0:=rfl
def tw1726353755968789521:0=0:=rfl
def tw15454317368954816914:0=0:=rfl
def tw3916793370172366227:0=0:=rfl
def tw8236086829109898459:0=0:=rfl
def tw15069303179199674948:0=0:=rfl
def tw12604284546879698854:0=0:=rfl
def tw431829864163458475:0=0:=rfl
def tw1079520090234448760:0=0:=rfl
def tw6472928794367938521:0=0:=rfl
def tw7436898585446168102:0=0:=rfl
def tw1375028464811991796:0=0:=rfl
def tw7639587982578353435:0=0:=rfl
def tw11196839462737088559:0=0:=rfl
def tw4260464776699400845:0=0:=rfl
def tw8070096305410254084:0=0:=rfl
def tw15846814947117744464:0=0:=rfl
def tw2866252088149376596:0=0:=rfl
def tw952097524641886678:0=0:=rfl
def tw18245554740570143316:0=0:=rfl
def tw9362352828641218645:0=0:=rfl
def tw5286163134603669804:0=0:=rfl
def tw1572076028859777960:0=0:=rfl
def tw1658062267667950487:0=0:=rfl
def tw4593510831335701695:0=0:=rfl
def tw4716677260280145017:0=0:=rfl
def tw17415525739677320701:0=0:=rfl
def tw14710344662343791810:0=0:=rfl
def tw18431401109571721201:0=0:=rfl
def tw17153594682451571214:0=0:=rfl
def tw2411072193304016865:0=0:=rfl
def tw12986670616755315991:0=0:=rfl
def tw16467571108638302808:0=0:=rfl
def tw15026480027076048475:0=0:=rfl
def tw6653427139587012038:0=0:=rfl
def tw5609819224884869140:0=0:=rfl
def tw961988156537801105:0=0:=rfl
def tw415338254267320552:0=0:=rfl
def tw1954350547151606161:0=0:=rfl
def tw1307956257403752942:0=0:=rfl
def tw10742984649821088810:0=0:=rfl
def tw8564812062543394283:0=0:=rfl
def tw15712576235186349582:0=0:=rfl
def tw1760213263208150400:0=0:=rfl
def tw1590529638637760783:0=0:=rfl
def tw14681307674241594811:0=0:=rfl
def tw914202791032728953:0=0:=rfl
def tw9340296450964245205:0=0:=rfl
def tw7580923345568948628:0=0:=rfl
def tw153939061759546157:0=0:=rfl
def tw678068071924806066:0=0:=rfl
def tw859980953890825456:0=0:=rfl
def tw12228956324972705524:0=0:=rfl
def tw13735719158314726266:0=0:=rfl
def tw16872037178542231110:0=0:=rfl
def tw8084759104986568188:0=0:=rfl
def tw7267970715747861707:0=0:=rfl
def tw5374631745999681244:0=0:=rfl
def tw17178402661284926430:0=0:=rfl
def tw16470856148486167051:0=0:=rfl
def tw10064193941599983257:0=0:=rfl
def tw7751151882647799385:0=0:=rfl
def tw17353807688971440708:0=0:=rfl
def tw2571100065723477078:0=0:=rfl
def tw3127044797074804538:0=0:=rfl
def tw7284775505130636951:0=0:=rfl
def tw1642955116682998386:0=0:=rfl
def tw3881751350779127307:0=0:=rfl
def tw14468308628971298600:0=0:=rfl
def tw15924588706192016640:0=0:=rfl
def tw14690829679101138195:0=0:=rfl
def tw13362239091885291724:0=0:=rfl
def tw15763384245587810196:0=0:=rfl
def tw7392630814237137813:0=0:=rfl
def tw8623242851028037909:0=0:=rfl
def tw16396466500869391410:0=0:=rfl
def tw4409442020600609772:0=0:=rfl
def tw2655904295227101152:0=0:=rfl
def tw11854825003988801675:0=0:=rfl
def tw14462393383493891248:0=0:=rfl
def tw1647627664017295931:0=0:=rfl
def tw16102420873844924345:0=0:=rfl
end PySem.Challenge.cw_cutlands_k45_traces_holds
open PySem PySem.W PyProof.Rows
set_option Elab.async true
theorem PySem.Challenge.cw_cutlands_k45_traces_holds : PySem.Challenge.rw_cutlands_k45_traces.Holds := by
 w_on;o_law;k_head;(case hw=>w_witness2);k_fill;refine L3.Ja (l:=PySem.Challenge.rw_cutlands_k45_traces) (k:=9) (x:= "_law_script") rfl ⟨rfl,by decide,by decide⟩ rfl (λw h Y=>PySem.W.kIn_of Y) ?F
 case F=>intro w mg fa h KX G hmg;refine' K45.Gu KX G hmg ?a ?l ?c ?k ?B ?E (λns=>CL.yM ns) ?_ ?_ ?_ ?_ ?_ ?_ ?_ ?_ ?_ ?_ ?_ ?_ ?_ ?_ ?_ ?_ ?_ ?_ ?_ ?_ ?_ ?_ ?_ ?_ ?_ ?_ ?_ ?_ ?_ ?_ ?_ ?_ ?_ ?_ ?_ ?_ ?_;(case a=>k_is);(case l=>k_is);(case c=>k_is);(case k=>k_is);(case B=>constructor<;>(apply mg_none_of KX G;k_is));(case E=>apply K45.Jk KX G<;>first | k_is | k_exc | decide);all_goals first | (apply L2.GB KX G<;>k_is) | (apply K45.IL<;>first | k_is | k_exc | decide)
