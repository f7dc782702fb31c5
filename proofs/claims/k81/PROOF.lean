import PyProof.Rows.All
import Wide.All
import OpenK.AllK
import Wide.FinOn
import Lean
import PyProof.EqAt
import PyProof.EqKinds
import PyProof.TupleCall
import PyProof.P3Eq
import PyProof.NeData
import PyProof.ConsumeWalk
import PyProof.Rows.SumAny
import PyProof.ZipIter
import PyProof.Rows.ZipGen
import PyProof.Rows.SeqMore
import PyProof.FactsAll.tuple
import PyProof.WalksMore
import PyProof.EnumMake
import PyProof.EnumFor
import PyProof.Rows.MinMaxN
import KE.KDictList
import KE.KRevIter
import KE.KItemsList
import PyProof.Rows.SortWalk
import PyProof.Rows.SetFrom
import PyProof.SetRoads
import PyProof.StrLoop
import PyProof.StrWalks
import PyProof.StrCalls2
import PyProof.StrLawsTight
import PyProof.StrLawsReplace
import PyProof.SliceStr2
import PyProof.StrOps
import PyProof.Rows.DictRows
import KE.KIntText
import PyProof.AttrMissHeap
import KE.KDictOf
import PyProof.ExcInit
import PyProof.ExcClass3
import PyProof.InstStoreFacts
import PyProof.Rows.ChunkEnd
import KE.KSortTup
import KE.KLam
import PySem.Challenge.RW_cutlands_k81_texts_there_and_back
set_option bootstrap.genMatcherCode false
set_option maxRecDepth 100000
set_option maxHeartbeats 0
set_option linter.all false
noncomputable section
set_option compiler.extract_closed false
set_option hygiene false
abbrev Oq:=@Option
abbrev Vq:=PySem.Value
abbrev Sq:=PySem.Shared
abbrev LI:=List Int
abbrev LL:=List LI
section
open PySem
def aa:=@List.getElem?_eq_some_iff
def ae:=@Heap.get?_push_of_some
def af:=@List.getD_eq_getElem?_getD
def ag:=@List.getElem?_eq_getElem
def ai:=@List.mem_append
def aj:=@List.mem_singleton
def ak:=@wpAny_pure
def ao:=@wpAny_bind
def aq:=@List.getElem?_set_ne
def ar:=@Heap.get?_push_size
def au:=@List.mem_of_getElem?
def av:=@List.getElem?_map
def aw:=@List.length_map
def ay:=@List.mem_append_left
def az:=@List.length_cons
def aB:=@decide_eq_false
def aC:=@decide_eq_true
def aD:=@List.mem_map
def aE:=@Nat.lt_of_lt_of_le
def aF:=@List.mem_cons
def aG:=@Nat.zero_add
def aH:=@Bool.false_ne_true
def aI:=@List.map_map
def aK:=@Nat.le_refl
def aL:=@Heap.lt_size
def aM:=@Nat.ne_of_lt
def aN:=@Nat.le_trans
def aO:=@Classical.byContradiction
def aQ:=@if_pos
def aR:=@if_neg
def aS:=@List.mem_range
def aT:=@List.length_append
def aU:=@List.mem_filter
def aV:=@List.getElem_mem
def aW:=@List.of_mem_zip
def aY:=@Int.natAbs_mul
def aZ:=@List.map_append
def a9:=@Nat.lt_irrefl
def bf:=@Nat.le_of_lt
def bg:=@List.filterMap_cons
def bh:=@List.mem_cons_self
def bj:=@List.mem_cons_of_mem
def bo:=@Array.append_assoc
def bp:=@Array.length_toList
def bq:=@Nat.ne_of_gt
def br:=@List.mem_filterMap
def bt:=@List.mem_append_right
def bu:=@List.size_toArray
def bw:=@List.map_cons
def bx:=@Nat.lt_succ_self
def bA:=@Nat.zero_le
def bB:=@List.append_nil
def bC:=@Nat.le_succ
def bD:=@List.nodup_cons
def bE:=@Option.isSome_iff_exists
def bF:=@List.length_take
def bG:=@Int.toNat_natCast
def bH:=@List.length_drop
def bI:=@Bool.and_eq_true
def bJ:=@List.replicate_succ
def bK:=@List.flatten_cons
def bL:=@List.append_assoc
def bM:=@List.length_singleton
def bO:=@Nat.succ_mul
def bP:=@List.nil_append
def bQ:=@Nat.mul_comm
def bR:=@Bool.false_eq_true
def bS:=@List.lookup_cons
def bT:=@Nat.le_of_succ_le
def bU:=@Nat.lt_succ_of_lt
def bV:=@Nat.le_add_right
def bW:=@Nat.le_succ_of_le
def bX:=@List.range_succ_eq_map
def bY:=@List.all_cons
def bZ:=@List.all_map
def b5:=@List.take_of_length_le
def b8:=@List.all_eq_true
def b9:=@Int.toNat_of_nonneg
def cf:=@List.map_congr_left
def cj:=@List.length_eq_zero_iff
def ck:=@Int.gcd_dvd_left
def cm:=@Int.gcd_dvd_right
def cn:=@Int.dvd_mul_of_dvd_left
def cq:=@Int.fmod_nonneg_of_pos
def cu:=@Int.fmod_lt_of_pos
def cv:=@Int.natAbs_natCast
def cw:=@Int.gcd_pos_of_ne_zero_right
def cx:=@Int.mul_assoc
def cy:=@Int.mul_comm
def cz:=@Int.mul_fdiv_cancel_left
def cA:=@List.lookup_cons_self
def cB:=@List.drop_eq_getElem_cons
def cC:=@List.map_take
def cD:=@Nat.pow_le_pow_right
def cE:=@Int.natAbs_add_le
def cF:=@List.drop_of_length_le
def cG:=@List.length_nil
def cH:=@List.mem_of_mem_take
def cI:=@List.pairwise_append
def cJ:=@List.eq_replicate_iff
def cK:=@Nat.mul_le_mul_right
def cL:=@List.length_pos_iff
def cN:=@Nat.mul_le_mul
def cO:=@Nat.lt_of_le_of_lt
def cP:=@List.pairwise_singleton
def cQ:=@List.length_range
def cR:=@List.map_eq_nil_iff
def cS:=@List.dropLast_concat
end
set_option Elab.async false
namespace L2
open PySem PySem.Spec PyProof.Rows
abbrev lu:=Sum Int Str
noncomputable def BV:lu->Value->Bool
 |.inl k,v=>Value.isInt k v
 |.inr x,v=>Value.isStrOf x v
def Hl(w:World):lu->Int
 |.inl k=>hashInt k
 |.inr x=>hashStr w x
theorem fC:∀{k} {v},BV k v=true->(∃i t,k=Sum.inl i/\v=Value.int i t)\/(∃x t,k=Sum.inr x/\v=Value.str x t)
 |.inl i,v,h=>by obtain⟨t,e⟩:=Value.isInt_shape h;exact .inl ⟨i,t,rfl,e⟩
 |.inr x,v,h=>by obtain⟨t,e⟩:=Value.isStrOf_shape h;exact .inr ⟨x,t,rfl,e⟩
def DM a b:decide ((Sum.inl a:lu)=Sum.inl b)=(a==b):=by
 by_cases e:a=b
 .subst e;simp
 .have h:¬(Sum.inl a:lu)=Sum.inl b:=λq=>e (Sum.inl.inj q);rw[aB h];exact (beq_eq_false_iff_ne.mpr e).symm
def Et a b:decide ((Sum.inr a:lu)=Sum.inr b)=decide (a=b):=by
 by_cases e:a=b
 .subst e;simp
 .have h:¬(Sum.inr a:lu)=Sum.inr b:=λq=>e (Sum.inr.inj q);rw[aB h,aB e]
def B8 a b:decide ((Sum.inl a:lu)=Sum.inr b)=false:=aB (λq=>nomatch q)
def EB a b:decide ((Sum.inr a:lu)=Sum.inl b)=false:=aB (λq=>nomatch q)
noncomputable def uo(prog:Program)(w:World):PySem.KeyKind prog w lu where
 is:=BV
 hash:=Hl w
 inj:=λv a b g f=>by
  rcases fC g with⟨i,t,rfl,rfl⟩|⟨x,t,rfl,rfl⟩
  .rcases fC f with⟨j,u,rfl,e⟩|⟨y,u,rfl,e⟩
   .injection e with c _;rw[c]
   .exact nomatch e
  .rcases fC f with⟨j,u,rfl,e⟩|⟨y,u,rfl,e⟩
   .exact nomatch e
   .injection e with c _;rw[c]
 byValue:=λk v h=>by rcases fC h with⟨i,t,rfl,rfl⟩|⟨x,t,rfl,rfl⟩<;>rfl
 pyHash:=λd h=>by
  rcases fC d with⟨i,t,rfl,rfl⟩|⟨x,t,rfl,rfl⟩
  .exact wpAny_pyHash_int h
  .exact wpAny_pyHash_str h
 eqBool:=λl d h=>by
  rcases fC l with⟨i,t,rfl,rfl⟩|⟨x,t,rfl,rfl⟩
  .rcases fC d with⟨j,u,rfl,rfl⟩|⟨y,u,rfl,rfl⟩
   .rw[DM]at h;exact wpAny_eqBool_int h
   .rw[B8]at h;exact SeqAt.EqAt.int_str i t y u _ _ _ _ h
  .rcases fC d with⟨j,u,rfl,rfl⟩|⟨y,u,rfl,rfl⟩
   .rw[EB]at h;exact SeqAt.EqAt.str_int x t j u _ _ _ _ h
   .rw[Et]at h;exact wpAny_eqBool_str h
 «strs»:=λk x t v h=>by
  rcases fC h with⟨i,u,rfl,e⟩|⟨y,u,rfl,e⟩
  .exact nomatch e
  .injection e with c _;subst c;cases v<;>rfl
end L2
namespace L2
open PySem PySem.Spec PyProof.Rows
inductive V where
 |non|bl (b:Bool)|int (i:Int)|str (x:Str)|byt (b:Array UInt8)|flt (b:UInt64)|ref (a:Addr)|ty (n:String)
 deriving DecidableEq
def eT:V->Value->Prop
 |.non,u=>u=Value.none
 |.bl b,u=>u=Value.bool b
 |.int i,u=>∃t,u=Value.int i t
 |.str x,u=>∃t,u=Value.str x t
 |.byt b,u=>∃t,u=Value.bytes b t
 |.flt b,u=>∃t,u=Value.float b t
 |.ref a,u=>u=Value.ref a
 |.ty n,u=>u=Value.type n
abbrev dQ:List V->List Value->Prop:=Paired eT
def dQ.length(r:dQ xs us):xs.length=us.length:=Paired.length r
theorem dQ.get:∀{a:List V} {us:List Vq} {i:Nat} {x:V},dQ a us->a[i]? = some x->∃u,us[i]? = some u/\eT x u
 |_,_,_,_,.nil,e=>by simp at e
 |_,_,0,_,.cons r _,e=>by simp at e;subst e;exact⟨_,rfl,r⟩
 |_,_,i+1,x,.cons _ t,e=>by obtain⟨u,b,c⟩:=dQ.get t (by simpa using e);exact⟨u,by simpa using b,c⟩
theorem dQ.set(r:eT x u):∀{xs} {us} i,dQ xs us->dQ (xs.set i x) (us.set i u)
 |_,_,_,.nil=>.nil
 |_,_,0,.cons _ t=>.cons r t
 |_,_,i+1,.cons q t=>.cons q (dQ.set r i t)
theorem dQ.append:∀{xs ys} {us ws},dQ xs us->dQ ys ws->dQ (xs++ys) (us++ws)
 |_,_,_,_,.nil,s=>s
 |_,_,_,_,.cons r t,s=>.cons r (dQ.append t s)
theorem dQ.take:∀{xs} {us} n,dQ xs us->dQ (xs.take n) (us.take n)
 |_,_,0,_=>.nil
 |_,_,_+1,.nil=>.nil
 |_,_,n+1,.cons r t=>.cons r (dQ.take n t)
theorem dQ.drop:∀{xs} {us} n,dQ xs us->dQ (xs.drop n) (us.drop n)
 |_,_,0,r=>r
 |_,_,_+1,.nil=>.nil
 |_,_,n+1,.cons _ t=>dQ.drop n t
def p0:Oq V->Option Value->Prop
 |some v,some u=>eT v u
 |none,none=>True
 |_,_=>False
def KV{a:Type}:List (a×V)->List (a×Value)->Prop:=Paired λ(p:a×V) (q:a×Value)=>p.1=q.1/\eT p.2 q.2
def kV:lu->V
 |.inl i=>.int i
 |.inr x=>.str x
inductive HO where
 |lst (xs:List V)
 |tup (xs:List V)
 |dK (kvs:List (lu×V))|dT (kvs:List (List lu×V))
 |set (S:Int->Bool) (n:Nat)
 |ins (C dx:Addr) (fs:List (Str×V))
 |own (x:Addr)
 |xd (fs:List (Str×V))
 |met (f x:Addr)
 |rng (lo hi:Int)
 |frz (o:Obj) (u:HO)
 |tbl (q:Str) (ps:Array Vq)
 |ext (φ:Heap->Prop)
abbrev Hp:=Addr->Option HO
noncomputable def fT(H:Hp)(a:Addr)(o:HO):Hp:=λb=>if b=a then some o else H b
def du:fT H a o a=some o:=by unfold fT;rw[aQ rfl]
def dB(h:b≠a):fT H a o b=H b:=by unfold fT;rw[aR h]
def dZ{H:Hp}(h:H a=some o)(c:H b=none):a≠b:=by intro e;subst e;rw[h]at c;cases c
section
variable (P:Program)(w:World)
def nW(h:Heap)(a:Addr)(items:Array Vq):Prop:=∃o,h.get? a=some o/\o.cls=.type "tuple" /\∃n,o.data=.seq items n/\o.dict=none
def nW.tup(x:nW h a items):IsTup h a items:=let ⟨o,e,c,n,d,_⟩:=x;⟨o,e,c,n,d⟩
def nW.new(h:Heap) items:nW (h.push {cls:=.type "tuple",data:=.seq items}) h.objs.size items:=⟨_,ar _ rfl,rfl,_,rfl,rfl⟩
def uH:List Vq->List Value
 |_::_::c::r=>c::uH r
 |_=>[]
def iZ(H:Hp)(h:Heap)(a:Addr):HO->Prop
 |.lst d=>d.length<=sizeLine/\∃(c:List Vq) (n:Nat),dQ d c/\h.get? a=some {cls:=.type "list",data:=.seq c.toArray n}
 |.tup d=>d.length<=sizeLine/\∃c:List Vq,dQ d c/\nW h a c.toArray
 |.dK kvs=>kvs.length<=sizeLine/\(a==sysModules)=false/\∃vs,KV kvs vs/\h.DictOf (uo P w) a vs
 |.dT kvs=>kvs.length<=sizeLine/\(a==sysModules)=false/\∃d:List (List lu×Addr×Value),
   Paired (λ(p:List lu×V) (q:List lu×Addr×Value)=>p.1=q.1/\H q.2.1=some (.tup (p.1.map kV))/\eT p.2 q.2.2) kvs d/\
   ∃o j k,h.get? a=some o/\o.ExactDict/\o.data=.dict j k/\j.toList=d.map (entryOfKey (tupleKind (uo P w)))/\(d.map (·.1)).Nodup
 |.set S n=>h.SetOf (intKind P w) a S n
 |.ins C dx fs=>H dx=some (.own a)/\fs.length<=1000/\dx≠a/\h.get? a=some (W.instObj C dx)/\
   ∃e,h.Ns1 dx e/\(∀f,p0 (fs.lookup f) (e f))/\PySem.Within e (fs.map (·.1))
 |.own _=>∃o,h.get? a=some o
 |.xd fs=>∃e,h.Ns1 a e/\∀f,p0 (fs.lookup f) (e f)
 |.rng lo hi=>∃t u v,h.get? a=some {cls:=.type "range",data:=.fields #[.int lo t,.int hi u,.int 1 v]}
 |.frz o u=>h.get? a=some o/\iZ H h a u
 |.tbl q ps=>h.get? a=some {cls:=.none,data:=.fields ps}/\TriplesOk ps.toList/\∀v∈uH ps.toList,∃b,v=.ref b/\H b=some (.own a)/\h.CodeRec (.ref b) q
 |.met f x=>h.get? a=some (W.methodObj (.ref f) (.ref x))
 |.ext φ=>φ h/\(∃o,h.get? a=some o)/\∀g i:Heap,φ g->(∀o,g.get? a=some o->i.get? a=some o)->φ i
def md(H:Hp)(h:Heap):Prop:=∀a o,H a=some o->iZ P w H h a o
end
section
variable {P:Program}{w:World}{H H':Hp}{h h':Heap}{a:Addr}{o:HO}
def iZ.lt(x:iZ P w H h a o):a<h.objs.size:=by
 cases o with
 |lst xs=>obtain⟨_,_,_,_,e⟩:=x;exact aL e
 |tup xs=>obtain⟨_,_,_,p⟩:=x;exact (nW.tup p).lt
 |dK kvs=>obtain⟨_,_,_,_,o,_,_,e,_⟩:=x;exact aL e
 |dT kvs=>obtain⟨_,_,_,_,o,_,_,e,_⟩:=x;exact aL e
 |set S n=>obtain⟨o,_,_,_,e,_⟩:=x;exact aL e
 |ins C dx fs=>obtain⟨_,_,_,e,_⟩:=x;exact aL e
 |own y=>obtain⟨_,e⟩:=x;exact aL e
 |xd fs=>obtain⟨_,⟨_,_,_,e,_⟩,_⟩:=x;exact aL e
 |rng lo hi=>obtain⟨_,_,_,e⟩:=x;exact aL e
 |frz ob u=>obtain⟨e,_⟩:=x;exact aL e
 |tbl q ps=>exact aL x.1
 |met f y=>exact aL (x)
 |ext φ=>obtain⟨_,⟨_,e⟩,_⟩:=x;exact aL e
theorem Paired.mapP{F G:α->β->Prop}:∀{l₁} {l₂},Paired F l₁ l₂->(∀a b,F a b->G a b)->Paired G l₁ l₂
 |_,_,.nil,_=>.nil
 |_,_,.cons r t,f=>.cons (f _ _ r) (Paired.mapP t f)
def Paired.imp'{F G:α->β->Prop}(f:∀a b,F a b->G a b){d:List α}{c:List β}(r:Paired F d c):Paired G d c:=Paired.mapP r f
theorem iZ.stay(x:iZ P w H h a o)(k:∀b u,(b=a\/H b=some (.own a))->h.get? b=some u->h'.get? b=some u)
  (F:∀b,H b=some (.own a)->H' b=some (.own a)) (K:∀b m,H b=some (.tup m)->H' b=some (.tup m)):iZ P w H' h' a o:=by
 induction o with
 |lst m=>obtain⟨z,l,n,r,e⟩:=x;exact⟨z,l,n,r,k _ _ (.inl rfl) e⟩
 |tup m=>obtain⟨z,l,r,g,e,c⟩:=x;exact⟨z,l,r,g,k _ _ (.inl rfl) e,c⟩
 |dK kvs=>obtain⟨z,y,s,r,g,j,i,e,c⟩:=x;exact⟨z,y,s,r,g,j,i,k _ _ (.inl rfl) e,c⟩
 |dT kvs=>obtain⟨z,y,m,r,g,j,i,e,c⟩:=x;exact⟨z,y,m,Paired.mapP r λp q z=>⟨z.1,K _ _ z.2.1,z.2.2⟩,g,j,i,k _ _ (.inl rfl) e,c⟩
 |set S n=>obtain⟨g,j,i,t,e,c⟩:=x;exact⟨g,j,i,t,k _ _ (.inl rfl) e,c⟩
 |ins C dx fs=>obtain⟨d,z,ne,e,D,⟨B,j,i,A,c⟩,r⟩:=x;exact⟨F _ d,z,ne,k _ _ (.inl rfl) e,D,⟨B,j,i,k _ _ (.inr d) A,c⟩,r⟩
 |own y=>obtain⟨g,e⟩:=x;exact⟨g,k _ _ (.inl rfl) e⟩
 |xd fs=>obtain⟨D,⟨B,j,i,e,c⟩,r⟩:=x;exact⟨D,⟨B,j,i,k _ _ (.inl rfl) e,c⟩,r⟩
 |rng lo hi=>obtain⟨t,u,v,e⟩:=x;exact⟨t,u,v,k _ _ (.inl rfl) e⟩
 |frz g u ih=>obtain⟨e,q⟩:=x;exact⟨k _ _ (.inl rfl) e,ih q⟩
 |tbl q ps=>obtain⟨e,t,L⟩:=x;refine⟨k a _ (.inl rfl) e,t,λv Q=>?_⟩;obtain⟨b,J,E,c,o,s,R,N,A,U⟩:=L v Q;cases N;exact⟨_,J,F _ E,_,o,s,R,rfl,k _ _ (.inr E) A,U⟩
 |met f y=>have e:=x;exact k a _ (.inl rfl) e
 |ext φ=>obtain⟨p,⟨o,e⟩,I⟩:=x;exact⟨I _ _ p λo q=>k _ _ (.inl rfl) q,⟨o,k _ _ (.inl rfl) e⟩,I⟩
def md.lt(x:md P w H h)(e:H a=some o):a<h.objs.size:=(x a o e).lt
def md.fresh(x:md P w H h)(e:h.objs.size<=a):H a=none:=by
 cases q:H a with
 |none=>rfl
 |some u=>exact absurd (aE (x.lt q) e) (a9 _)
def md.kept(x:md P w H h)(k:∀b u,h.get? b=some u->h'.get? b=some u):md P w H h':=λa o e=>(x a o e).stay (λb u _ q=>k b u q) (λ_ q=>q) λ_ _ q=>q
def md.laid(x:md P w H h)(k:∀b u,h.get? b=some u->h'.get? b=some u)(g:h.objs.size<=a)(new:iZ P w (fT H a o) h' a o):md P w (fT H a o) h':=λb u e=>by
 have d:=x.fresh g;by_cases f:b=a
 .subst f;rw[du]at e;cases e;exact new
 .rw[dB f]at e;exact (x b u e).stay (λc v _ q=>k c v q) (λc q=>by rw[dB (dZ q d)];exact q) λc i q=>by rw[dB (dZ q d)];exact q
end
def Rd(H:Hp)(a:Addr)(u:HO):Prop:=H a=some u\/∃o,H a=some (.frz o u)
def Rd.ok(r:Rd H a u)(x:md P w H h):iZ P w H h a u:=by
 rcases r with r|⟨o,r⟩
 .exact x a u r
 .obtain⟨_,q⟩:=x a _ r;exact q
def GF:Oq HO->Prop
 |some (.lst _)=>True
 |some (.dK _)=>True
 |some (.dT _)=>True
 |some (.set _ _)=>True
 |some (.ins _ _ _)=>True
 |some (.ext _)=>True
 |_=>False
section
variable {P:Program}{w:World}{H:Hp}{h h':Heap}{x e:Addr}{o':HO}
def md.write(ok:md P w H h)(i:GF (H x))(n:e=x\/H e=some (.own x))(k:∀b u,b≠e->h.get? b=some u->h'.get? b=some u)(m:∃u,h'.get? e=some u)
  (new:iZ P w (fT H x o') h' x o'):md P w (fT H x o') h':=λb u q=>by
 have d:∀c y,H c=some (.own y)->c≠x:=λc y r z=>by subst z;rw[r]at i;exact i
 have f:∀c j,H c=some (.tup j)->c≠x:=λc j r z=>by subst z;rw[r]at i;exact i
 by_cases g:b=x
 .subst g;rw[du]at q;cases q;exact new
 .rw[dB g]at q;by_cases a:b=e
  .have o:H b=some (.own x):=by
    rcases n with z|z
    .exact absurd (a.trans z) g
    .rw[a];exact z
   rw[q]at o;cases o;obtain⟨v,p⟩:=m;exact⟨v,by rw[a];exact p⟩
  .refine (ok b u q).stay (λc v l r=>k c v ?_ r) (λc r=>by rw[dB (d c b r)];exact r) λc j r=>by rw[dB (f c j r)];exact r
   rcases l with rfl|l
   .exact a
   .rintro rfl;rcases n with z|z
    .exact d c b l z
    .rw[l]at z;cases z;exact g rfl
end
structure Un(fs ex:List Addr)(H H':Hp)(h h':Heap):Prop where
 keep:∀b o,h.get? b=some o->H b=none->b∉fs->b∉ex->h'.get? b=some o
 slot:∀b o,h.get? b=some o->H b=none->b∈fs->b∉ex->∃sl,h'.get? b=some {o with slots:=sl}
 free:∀b o,h.get? b=some o->H b=none->b∉ex->H' b=none
 there:∀b o,h.get? b=some o->b∉ex->∃o',h'.get? b=some o'
 tups:∀b xs,H b=some (.tup xs)->H' b=some (.tup xs)
 frzs:∀b o u,H b=some (.frz o u)->H' b=some (.frz o u)
 tbls:∀b q ps,H b=some (.tbl q ps)->∃more,H' b=some (.tbl q (ps++more))
section
variable {fs fs' ex ex':List Addr}{H H1 H2:Hp}{h h1 h2 h':Heap}{a x e:Addr}{o:HO}
def Un.any(u:Un fs ex H H1 h h1)(q:h.get? b=some ob)(n:H b=none)(c:b∉ex):∃f,h1.get? b=some {ob with slots:=f}:=by
 by_cases d:b∈fs
 .exact u.slot b ob q n d c
 .exact⟨ob.slots,u.keep b ob q n d c⟩
def Un.kept(k:∀b u,h.get? b=some u->h'.get? b=some u):Un fs ex H H h h':=⟨λb c q _ _ _=>k b c q,λb c q _ _ _=>⟨c.slots,k b c q⟩,λ_ _ _ n _=>n,λb c q _=>⟨c,k b c q⟩,λ_ _ q=>q,λ_ _ _ q=>q,λ_ _ d q=>⟨#[],by rw[q];simp⟩⟩
def Un.refl:Un fs ex H H h h:=Un.kept λ_ _ q=>q
def Un.laid(k:∀b u,h.get? b=some u->h'.get? b=some u)(f:h.objs.size<=a)(c:H a=none):Un fs ex H (fT H a o) h h' where
 keep:=λb u q _ _ _=>k b u q
 slot:=λb u q _ _ _=>⟨u.slots,k b u q⟩
 free:=λb u q n _=>by rw[dB (aM (aE (aL q) f))];exact n
 there:=λb u q _=>⟨u,k b u q⟩
 tups:=λb d q=>by rw[dB (dZ q c)];exact q
 frzs:=λb u d q=>by rw[dB (dZ q c)];exact q
 tbls:=λb _ g q=>⟨#[],by rw[dB (dZ q c),q];simp⟩
def Un.write(d:GF (H x))(l:e=x\/H e=some (.own x))(k:∀b u,b≠e->h.get? b=some u->h'.get? b=some u)(g:∃u,h'.get? e=some u):Un fs ex H (fT H x o) h h':=by
 have i:∀b,H b=none->b≠x:=λb n z=>by subst z;rw[n]at d;exact d
 have j:∀b,H b=none->b≠e:=λb n z=>by
  subst z;rcases l with r|r
  .exact i b n r
  .rw[n]at r;cases r
 have f:∀b u,H b=some u->¬GF (some u)->b≠x:=λb u q nm z=>by subst z;rw[q]at d;exact nm d
 refine⟨λb u q n _ _=>k b u (j b n) q,λb u q n _ _=>⟨u.slots,k b u (j b n) q⟩,λb u q n _=>by rw[dB (i b n)];exact n,λb u q _=>?_,
  λb m q=>by rw[dB (f b _ q λz=>z)];exact q,λb u m q=>by rw[dB (f b _ q λz=>z)];exact q,λb _ p q=>⟨#[],by rw[dB (f b _ q λz=>z),q];simp⟩⟩
 by_cases c:b=e
 .subst c;exact g
 .exact⟨u,k b u c q⟩
end
noncomputable def GB(h:Heap)(H:Hp):List Addr:=(List.range h.objs.size).filter λa=>(H a).isSome
def xb(h:Heap)(H:Hp):Heap:=W.hideAll h (GB h H)
def wy h H:(xb h H).objs.size=h.objs.size:=W.hideAll_size _ _
def ye(e:h.get? b=some o)(n:H b=none):(xb h H).get? b=some o:=W.hideAll_get _ e λa=>by have q:=(aU.mp a).2;rw[n]at q;simp at q
def Bu(e:(xb h H).get? b=some o):h.get? b=some o/\H b=none:=by
 have a:=W.of_hideAll (GB h H) e;refine⟨a,?_⟩;cases q:H b with
 |none=>rfl
 |some x=>have c:b∈GB h H:=aU.mpr ⟨aS.mpr (aL a),by simp[q]⟩;have z:(xb h H).get? b=none:=W.hideAll_none (GB h H) c;rw[z]at e;cases e
end L2
namespace L2
open PySem PySem.Spec PyProof.Rows
structure Mod(K:W.Frag)(mg:Str->Option Value)(base:Heap):Prop where
 kin:K.In base
 glob:base.Ns mainGlobals mg
 blt:∃mb,base.Ns builtinsNs mb/\∀x:Str,x≠ "__name__" ->mb x=bootBuiltins x
 nolimit:base.NoLimit
def xq(a:Heap)(H:Hp):Prop:=∀c P b,(c,P)∈a.life.ids->a.CodeRec (.ref c) b->∃d,H P=some (.tbl (b++ ".<locals>.<lambda>") d)
structure Cx where
 prog:Program
 w:World
 K:W.Frag
 mg:Str->Option Value
 base:Heap
 A:Around
 N:List Str
 s₀:Sq
 H₀:Hp
 env:Env
 outer:List Env
 stack:List Env
 ex:List Addr
 fn:Str->Bool
 calm:Bool
 pn:List (Addr×Obj)
 xe:Vq->Shared->Prop
noncomputable def wA(l:List Env):List Addr:=l.filterMap (·.frame)
abbrev Cx.fs(X:Cx):List Addr:=wA X.outer
def Gn(a:Scope)(x:Str):Prop:=a.names.lookup x=some .local\/a.names.lookup x=some .cell\/a.names.lookup x=some .free
def wL(a:Scope)(x:Str):Prop:=a.names.lookup x=some .local\/a.names.lookup x=some .cell
def GY(a:Env)(h:Heap)(m:Str->Option Value)(x:Str)(u:Vq):Prop:=(a.kindOf x=some .local/\m x=some u)\/((a.kindOf x=some .cell\/a.kindOf x=some .free)/\∃c,a.cells.lookup x=some c/\h.IsCell c (some u))
structure Cx.Ok(X:Cx):Prop where
 mod:Mod X.K X.mg X.base
 kind:X.env.scope.kind=.function
 glob:X.env.globals=mainGlobals
 blt:X.env.builtins=builtinsNs
 above:X.s₀.heap.objs.size<=X.env.locals
 inj:∀x y c,X.env.cells.lookup x=some c->X.env.cells.lookup y=some c->x=y
 has:∀x,(X.env.kindOf x=some .cell\/X.env.kindOf x=some .free)->∃c,X.env.cells.lookup x=some c
 cab:∀x c,X.fn x=true->X.env.cells.lookup x=some c->X.s₀.heap.objs.size<=c
 hd:X.calm=true->X.A.handled=none
 frames:X.A.frames=some X.stack
 stk:X.stack=X.outer\/(X.stack=X.env::X.outer/\X.env.frame=some X.env.locals)
 exf:∀b∈X.ex,b≠X.env.locals/\∀x c,X.env.cells.lookup x=some c->c≠b
 bs:∀b o,X.base.get? b=some o->X.s₀.heap.get? b=some o/\X.H₀ b=none
 bsz:X.base.objs.size<=X.s₀.heap.objs.size
 noex:∀b o,X.base.get? b=some o->b∉X.ex
 exfs:∀b∈X.ex,b∉X.fs
 funs:X.s₀.heap.FunFrames X.base X.outer
 frf:∀b∈X.fs,X.H₀ b=none
 tab:xq X.base X.H₀
structure dD(X:Cx)(cV:List (Addr×Obj))(σ:List (Option V))(H:Hp)(s:Sq):Prop where
 ok:X.Ok
 os:s.os=X.s₀.os
 bare:AllBare s.gens
 base:Un X.fs X.ex X.H₀ H X.s₀.heap s.heap
 loc:∃m,s.heap.Ns X.env.locals m/\∀(i:Nat) (x:Str) (v:V),X.N[i]? = some x->σ[i]? = some (some v)->Gn X.env.scope x->∃u,eT v u/\GY X.env s.heap m x u
 cell:∀x c,X.env.cells.lookup x=some c->∃v,s.heap.IsCell c v
 free:H X.env.locals=none
 freeC:∀x c,X.env.cells.lookup x=some c->H c=none
 pin:∀p∈X.pn++cV,s.heap.get? p.1=some p.2/\H p.1=none/\p.1≠X.env.locals/\p.1∉X.fs/\∀v,p.2.data≠.cell v
 hok:md X.prog X.w H s.heap
 len:σ.length=X.N.length
section
variable {X:Cx}{cV:List (Addr×Obj)}{σ:List (Option V)}{H H':Hp}{s:Sq}{h':Heap}
def Cx.Ok.nofr(ok:X.Ok)(e:X.base.get? b=some o):b∉X.fs:=λa=>by have:=(ok.funs.mem a).1;rw[e]at this;cases this
def dD.bs(I:dD X cV σ H s):∀b o,X.base.get? b=some o->s.heap.get? b=some o/\H b=none:=λb o e=>⟨I.base.keep b o (I.ok.bs b o e).1 (I.ok.bs b o e).2 (I.ok.nofr e) (I.ok.noex b o e),I.base.free b o (I.ok.bs b o e).1 (I.ok.bs b o e).2 (I.ok.noex b o e)⟩
def dD.tab(I:dD X cV σ H s):xq X.base H:=λc P d a b=>let ⟨ps,e⟩:=I.ok.tab c P d a b;let ⟨more,q⟩:=I.base.tbls _ _ ps e;⟨ps++more,q⟩
def dD.bk(I:dD X cV σ H s):∀b o,X.base.get? b=some o->s.heap.get? b=some o:=λb o e=>(I.bs b o e).1
def dD.mod(I:dD X cV σ H s):Mod X.K X.mg X.base:=I.ok.mod
def dD.kIn(I:dD X cV σ H s):X.K.In s.heap:=I.ok.mod.kin.keeps I.bk
def dD.lt(I:dD X cV σ H s):X.env.locals<s.heap.objs.size:=let ⟨_,hn,_⟩:=I.loc;hn.lt
def dD.sz(I:dD X cV σ H s):X.s₀.heap.objs.size<=s.heap.objs.size:=aN I.ok.above (bf I.lt)
def dD.nofs(I:dD X cV σ H s)(h:s.heap.objs.size<=a):a∉X.fs:=λb=>by obtain⟨_,o,c,_⟩:=I.ok.funs.mem b;exact absurd (aE (aL c) (aN I.sz h)) (a9 _)
def dD.cne(I:dD X cV σ H s):∀x c,X.env.cells.lookup x=some c->c≠X.env.locals:=λx c e z=>by obtain⟨v,o,d,f⟩:=I.cell x c e;obtain⟨m,⟨i,h,g,a,b,_⟩,_⟩:=I.loc;rw[z,a]at d;cases d;rw[b]at f;cases f
def dD.funs(I:dD X cV σ H s):s.heap.FunFrames X.base X.outer:=by
 have all:∀(l:List Env),(∀b∈wA l,b∈X.fs)->X.s₀.heap.FunFrames X.base l->s.heap.FunFrames X.base l:=by
  intro l;induction l with
  |nil=>intro _ _;trivial
  |cons env r ih=>intro f j;obtain⟨i,⟨L,o,d,k,h,g⟩,hr⟩:=j;have c:=f L (by unfold wA;rw[bg,d];exact bh);obtain⟨m,e⟩:=I.base.slot L o h (I.ok.frf L c) c λz=>I.ok.exfs L z c;exact⟨i,⟨L,_,d,k,e,g⟩,ih (λb a=>f b (by unfold wA;rw[bg,d];exact bj _ a)) hr⟩
 exact all X.outer (λ_ a=>a) I.ok.funs
def dD.stack(I:dD X cV σ H s):s.heap.FunFrames X.base X.stack:=by
 rcases I.ok.stk with e|⟨e,b⟩
 .rw[e];exact I.funs
 .rw[e];obtain⟨m,a,_⟩:=I.loc;refine .cons (by rw[I.ok.kind];decide) b a ?_ I.funs;exact Heap.get?_none_of_le (aN I.ok.bsz I.ok.above)
def dD.stkSub(I:dD X cV σ H s):∀b∈wA X.stack,b∈X.env.locals::X.fs:=λb a=>by
 rcases I.ok.stk with e|⟨e,c⟩
 .rw[e]at a;exact bj _ a
 .rw[e]at a;unfold wA at a;rw[bg,c]at a;exact a
def dD.stkFree(I:dD X cV σ H s):∀b∈wA X.stack,H b=none:=λb a=>by
 rcases aF.mp (I.stkSub b a) with e|a
 .rw[e];exact I.free
 .obtain⟨_,o,c,_⟩:=I.ok.funs.mem a;exact I.base.free b o c (I.ok.frf b a) λz=>I.ok.exfs b z a
def dD.step{ch:List Addr}(I:dD X cV σ H s)
  (j:∀b∈ch,(b∈X.ex\/X.s₀.heap.objs.size<=b)/\b≠X.env.locals/\(∀x c,X.env.cells.lookup x=some c->c≠b)/\∀p∈X.pn++cV,p.1≠b)
  (h:∀b o,b≠X.env.locals->b∉X.fs->b∉ch->s.heap.get? b=some o->H b=none->h'.get? b=some o)
  (C:∀b o,b≠X.env.locals->b∈X.fs->b∉ch->s.heap.get? b=some o->H b=none->∃sl,h'.get? b=some {o with slots:=sl}) (f:∀b o,b∉ch->s.heap.get? b=some o->H b=none->H' b=none)
  (E:∀b o,b∉ch->s.heap.get? b=some o->∃Q,h'.get? b=some Q)
  (J:∀b B,H b=some (.tup B)->H' b=some (.tup B)) (K:∀b o u,H b=some (.frz o u)->H' b=some (.frz o u)) (L:∀b q S,H b=some (.tbl q S)->∃R,H' b=some (.tbl q (S++R)))
  (ns:∀m,s.heap.Ns X.env.locals m->h'.Ns X.env.locals m) (Y:md X.prog X.w H' h') (hg:AllBare g') :
  dD X cV σ H' {s with heap:=h',gens:=g',drawn:=d',toks:=t'}:=by
 have N:∀b o,X.s₀.heap.get? b=some o->b≠X.env.locals:=λb o e=>aM (aE (aL e) I.ok.above);have A:∀b o,X.s₀.heap.get? b=some o->b∉X.ex->b∉ch:=λb o e a D=>by
  rcases (j b D).1 with z|z
  .exact a z
  .exact absurd (aE (aL e) z) (a9 _)
 have t:∀x c,X.env.cells.lookup x=some c->∀v,s.heap.IsCell c v->h'.IsCell c v:=λx c e v ⟨o,F,U⟩=>by
  have g:c∉ch:=λz=>(j c z).2.2.1 x c e rfl;by_cases hc:c∈X.fs
  .obtain⟨sl,q⟩:=C c o (I.cne x c e) hc g F (I.freeC x c e);exact⟨_,q,U⟩
  .exact⟨o,h c o (I.cne x c e) hc g F (I.freeC x c e),U⟩
 refine⟨I.ok,I.os,hg,⟨λb o e n D a=>?_,λb o e n D a=>?_,λb o e n a=>?_,λb o e a=>?_,λb B e=>J b B (I.base.tups b B e),λb o B e=>K b o B (I.base.frzs b o B e),λb _ S e=>?_⟩,?_,λx c e=>?_,?_,λx c e=>?_,λp hp=>?_,Y,I.len⟩
 .exact h b o (N b o e) D (A b o e a) (I.base.keep b o e n D a) (I.base.free b o e n a)
 .obtain⟨sl,y⟩:=I.base.slot b o e n D a;obtain⟨Z,P⟩:=C b _ (N b o e) D (A b o e a) y (I.base.free b o e n a);exact⟨Z,P⟩
 .obtain⟨Q,y⟩:=I.base.there b o e a;exact f b Q (A b o e a) y (I.base.free b o e n a)
 .obtain⟨Q,y⟩:=I.base.there b o e a;exact E b Q (A b o e a) y
 .obtain⟨m1,y⟩:=I.base.tbls b _ S e;obtain⟨m2,P⟩:=L b _ _ y;exact⟨m1++m2,by rw[P,bo]⟩
 .obtain⟨m,hn,hl⟩:=I.loc;refine⟨m,ns m hn,λi x v y P e3=>?_⟩;obtain⟨u,r,l⟩:=hl i x v y P e3;refine⟨u,r,?_⟩;rcases l with l|⟨k,c,e,z⟩
  .exact .inl l
  .exact .inr ⟨k,c,e,t x c e _ z⟩
 .obtain⟨v,z⟩:=I.cell x c e;exact⟨v,t x c e v z⟩
 .obtain⟨m,⟨o,_,_,F,_⟩,_⟩:=I.loc;exact f _ o (λz=>(j _ z).2.1 rfl) F I.free
 .obtain⟨v,o,F,U⟩:=I.cell x c e;exact f c o (λz=>(j c z).2.2.1 x c e rfl) F (I.freeC x c e)
 .obtain⟨e,n,ne,nf,d⟩:=I.pin p hp;have g:p.1∉ch:=λz=>(j p.1 z).2.2.2 p hp rfl;exact⟨h p.1 p.2 ne nf g e n,f p.1 p.2 g e n,ne,nf,d⟩
def dD.un(I:dD X cV σ H s)(u:Un X.fs [] H H' s.heap h')(f:md X.prog X.w H' h'):dD X cV σ H' {s with heap:=h',toks:=t'}:=by obtain⟨m,⟨o,v,l,h,r⟩,_⟩:=id I.loc;obtain⟨t,i⟩:=u.any h I.free (by simp);exact I.step (ch:=[]) (λ_ z=>nomatch z) (λb o _ c _ e n=>u.keep b o e n c (by simp)) (λb o _ c _ e n=>u.slot b o e n c (by simp)) (λb o _ e n=>u.free b o e n (by simp)) (λb o _ e=>u.there b o e (by simp)) u.tups u.frzs u.tbls (λp j=>by obtain⟨q,g,d,a,k⟩:=j;rw[h]at a;cases a;exact⟨_,g,d,i,k⟩) f I.bare
def dD.call(I:dD X cV σ H s)(u:Un (wA X.stack) ch H H' s.heap h')(i:md X.prog X.w H' h')(t:AllBare g')
  (d:∀b∈ch,(b∈X.ex\/X.s₀.heap.objs.size<=b)/\b≠X.env.locals/\(∀x c,X.env.cells.lookup x=some c->c≠b)/\∀p∈X.pn++cV,p.1≠b) :
  dD X cV σ H' {s with heap:=h',gens:=g',drawn:=d',toks:=t'}:=by
 obtain⟨m,⟨o,D,y,k,r⟩,_⟩:=id I.loc;obtain⟨C,g⟩:=u.any k I.free λz=>(d _ z).2.1 rfl;exact I.step d (λb o g l a e n=>u.keep b o e n (λz=>(aF.mp (I.stkSub b z)).elim g l) a) (λb o _ _ a e n=>u.any e n a) (λb o a e n=>u.free b o e n a) (λb o a e=>u.there b o e a) u.tups u.frzs u.tbls (λA q=>by obtain⟨B,j,h,f,v⟩:=q;rw[k]at f;cases f;exact⟨_,j,h,g,v⟩) i t
def dD.turned(I:dD X cV σ H s)(k:∀b o,b≠it->s.heap.get? b=some o->h'.get? b=some o)(y:H it=none)(f:it≠X.env.locals)
  (j:it∈X.ex\/X.s₀.heap.objs.size<=it) (w:∀x c,X.env.cells.lookup x=some c->c≠it) (i:∀p∈X.pn++cV,p.1≠it):dD X cV σ H {s with heap:=h',toks:=t'}:=by
 have d:∀b u,H b=some u->b≠it:=λb u e z=>by rw[z,y]at e;cases e
 refine I.step (ch:=[it]) (λb g=>?_) (λb o _ _ a e _=>k b o (λz=>a (by simp[z])) e) (λb o _ _ a e _=>⟨o.slots,k b o (λz=>a (by simp[z])) e⟩) (λ_ _ _ _ n=>n)
  (λb o a e=>⟨o,k b o (λz=>a (by simp[z])) e⟩) (λ_ _ e=>e) (λ_ _ _ e=>e) (λb _ B e=>⟨#[],by rw[e];simp⟩) (λm l=>?_) (λb u e=>?_) I.bare
 .have e:b=it:=by simpa using g
  subst e;exact⟨j,f,w,i⟩
 .obtain⟨o,A,h,t,r⟩:=l;exact⟨o,A,h,k _ o (Ne.symm f) t,r⟩
 .refine (I.hok b u e).stay (λc v a q=>k c v ?_ q) (λ_ q=>q) λ_ _ q=>q;rcases a with z|z
  .rw[z];exact d b u e
  .exact d c _ z
def dD.tok(I:dD X cV σ H s) t:dD X cV σ H {s with toks:=t}:=I.un Un.refl I.hok
def dD.kept(I:dD X cV σ H s)(k:∀b u,s.heap.get? b=some u->h'.get? b=some u):dD X cV σ H {s with heap:=h',toks:=t'}:=I.un (Un.kept k) (I.hok.kept k)
def dD.laid(I:dD X cV σ H s)(k:∀b u,s.heap.get? b=some u->h'.get? b=some u)(c:s.heap.objs.size<=a)(new:iZ X.prog X.w (fT H a o) h' a o) :
  dD X cV σ (fT H a o) {s with heap:=h',toks:=t'}:=I.un (Un.laid k c (I.hok.fresh c)) (I.hok.laid k c new)
def dD.write(I:dD X cV σ H s)(c:GF (H x))(d:e=x\/H e=some (.own x))(k:∀b u,b≠e->s.heap.get? b=some u->h'.get? b=some u)(a:∃u,h'.get? e=some u)
  (new:iZ X.prog X.w (fT H x o) h' x o):dD X cV σ (fT H x o) {s with heap:=h',toks:=t'}:=I.un (Un.write c d k a) (I.hok.write c d k a new)
def dD.weak(I:dD X cV σ H s)(c:σ'.length=σ.length)(w:∀(i:Nat) v,σ'[i]? = some (some v)->σ[i]? = some (some v)):dD X cV σ' H s:=⟨I.ok,I.os,I.bare,I.base,let ⟨m,hn,hl'⟩:=I.loc;⟨m,hn,λi x v a d b=>hl' i x v a (w i v d) b⟩,I.cell,I.free,I.freeC,I.pin,I.hok,c.trans I.len⟩
def dD.pins_of(I:dD X cV σ H s)(h:∀p∈pins',s.heap.get? p.1=some p.2/\H p.1=none/\p.1≠X.env.locals/\p.1∉X.fs/\∀v,p.2.data≠.cell v):dD X pins' σ H s:=⟨I.ok,I.os,I.bare,I.base,I.loc,I.cell,I.free,I.freeC,λp a=>(ai.mp a).elim (λz=>I.pin p (ay _ z)) (h p),I.hok,I.len⟩
def rh{N:List Str}(e:N.Nodup){i j:Nat}(a:N[i]? = some x)(b:N[j]? = some x):i=j:=by obtain⟨f,c⟩:=aa.mp a;obtain⟨g,d⟩:=aa.mp b;exact (List.getElem_inj e).mp (c.trans d.symm)
def pE{M:Model}{A:Around}{E:Vq->Shared->Prop}{i:Nat}{x:Str}{v:V}{u:Vq}{Q:Unit->Shared->Prop}(I:dD X cV σ H s)(hN:X.N.Nodup)(S:X.N[i]? = some x)(t:wL X.env.scope x)(r:eT v u)
  (h:∀s',dD X cV (σ.set i (some v)) H s'->(∃a,Heap.SameBut a s.heap s'.heap/\(a=X.env.locals\/X.env.cells.lookup x=some a))->Q () s') (hf:X.fn x=true\/X.env.scope.names.lookup x=some .local:=by first|exact .inl rfl|exact .inr rfl|assumption):wpAny M A (storeName X.env x u) Q E s:=by
 obtain⟨m,hn,hl⟩:=id I.loc;have U:(X.env.scope.kind==.class||(X.env.scope.kind==.module&&X.env.locals != X.env.globals))=false:=by rw[I.ok.kind];rfl
 have F:i<σ.length:=by rw[I.len];exact (aa.mp S).1
 have cne:=I.cne;have tracked:∀{a:Addr} {h':Heap},(∃o,s.heap.get? a=some o/\H a=none)->Heap.SameBut a s.heap h'->md X.prog X.w H h':=λ{a h'} ha f b ob e=>by
  obtain⟨_,_,B⟩:=ha;refine (I.hok b ob e).stay (λc w' l q=>(f.2 c ?_).trans q) (λ_ q=>q) λ_ _ q=>q;rintro rfl;rcases l with rfl|l
  .rw[B]at e;cases e
  .rw[B]at l;cases l
 rcases t with D|D
 .refine wpAny_storeName_local D hn (λh' hn' f=>?_) U;obtain⟨oL,_,_,hoL,_⟩:=id hn;refine h _ ⟨I.ok,I.os,I.bare,⟨λb o e n J t=>?_,λb o e n J t=>?_,I.base.free,λb o e t=>?_,I.base.tups,I.base.frzs,I.base.tbls⟩,⟨_,hn',λj y v' g C e3=>?_⟩,λy c e=>?_,I.free,I.freeC,λp hp=>?_,tracked ⟨oL,hoL,I.free⟩ f,by simpa using I.len⟩ ⟨_,f,.inl rfl⟩
  .exact (f.2 b (aM (aE (aL e) I.ok.above))).trans (I.base.keep b o e n J t)
  .obtain⟨sl,g⟩:=I.base.slot b o e n J t;exact⟨sl,(f.2 b (aM (aE (aL e) I.ok.above))).trans g⟩
  .obtain⟨o',g⟩:=I.base.there b o e t;exact⟨o',(f.2 b (aM (aE (aL e) I.ok.above))).trans g⟩
  .by_cases L:j=i
   .subst L;rw[S]at g;cases g;rw[List.getElem?_set_self F]at C;cases C;exact⟨u,r,.inl ⟨D,by simp⟩⟩
   .rw[aq (Ne.symm L)]at C;obtain⟨u',r',q⟩:=hl j y v' g C e3;refine⟨u',r',?_⟩;rcases q with⟨k,e⟩|⟨k,c,e,z⟩
    .refine .inl ⟨k,?_⟩;have:y≠x:=λe=>L (rh hN g (e▸S));simp[this,e]
    .exact .inr ⟨k,c,e,z.sameBut f (cne y c e)⟩
  .obtain⟨w',z⟩:=I.cell y c e;exact⟨w',z.sameBut f (cne y c e)⟩
  .obtain⟨e,n,ne,nf,d⟩:=I.pin p hp;exact⟨(f.2 p.1 ne).trans e,n,ne,nf,d⟩
 .have K:X.fn x=true:=by
   rcases hf with z|z
   .exact z
   .rw[z]at D;cases D
  obtain⟨c,l⟩:=I.ok.has x (.inl D);obtain⟨w',z⟩:=I.cell x c l;refine wpAny_storeName_cell I.ok.kind D l z (λh' Y f=>?_);obtain⟨oc,P,Z⟩:=id z;refine h {s with heap:=h'} ⟨I.ok,I.os,I.bare,⟨λb o e n J t=>?_,λb o e n J t=>?_,I.base.free,λb o e t=>?_,I.base.tups,I.base.frzs,I.base.tbls⟩,⟨m,hn.sameBut f (Ne.symm (cne x c l)),λj y v' g C e3=>?_⟩,λy c' e=>?_,I.free,I.freeC,λp hp=>?_,tracked ⟨oc,P,I.freeC x c l⟩ f,by simpa using I.len⟩ ⟨c,f,.inr l⟩
  .exact (f.2 b (aM (aE (aL e) (I.ok.cab x c K l)))).trans (I.base.keep b o e n J t)
  .obtain⟨sl,g⟩:=I.base.slot b o e n J t;exact⟨sl,(f.2 b (aM (aE (aL e) (I.ok.cab x c K l)))).trans g⟩
  .obtain⟨o',g⟩:=I.base.there b o e t;exact⟨o',(f.2 b (aM (aE (aL e) (I.ok.cab x c K l)))).trans g⟩
  .by_cases L:j=i
   .subst L;rw[S]at g;cases g;rw[List.getElem?_set_self F]at C;cases C;exact⟨u,r,.inr ⟨.inl D,c,l,Y⟩⟩
   .rw[aq (Ne.symm L)]at C;obtain⟨u',r',q⟩:=hl j y v' g C e3;refine⟨u',r',?_⟩;rcases q with q|⟨k,c',e,z'⟩
    .exact .inl q
    .refine .inr ⟨k,c',e,z'.sameBut f ?_⟩;rintro rfl;exact L (rh hN g (I.ok.inj _ _ _ e l▸S))
  .by_cases R:c'=c
   .subst R;exact⟨_,Y⟩
   .obtain⟨w2,z2⟩:=I.cell y c' e;exact⟨w2,z2.sameBut f R⟩
  .obtain⟨e,n,ne,nf,d⟩:=I.pin p hp;refine⟨(f.2 p.1 ?_).trans e,n,ne,nf,d⟩;intro q;rw[q,P]at e;have q':=Option.some.inj e;exact d w' (by rw[<-q'];exact Z)
def lD{M:Model}{A:Around}{E:Vq->Shared->Prop}{i:Nat}{x:Str}{v:V}{u:Vq}{Q:Unit->Shared->Prop}(I:dD X cV σ H s)(e:X.N.Nodup)(d:X.N[i]? = some x)(b:wL X.env.scope x)(r:eT v u)
  (h:∀a,dD X cV (σ.set i (some v)) H a->Q () a) (c:X.fn x=true\/X.env.scope.names.lookup x=some .local:=by first|exact .inl rfl|exact .inr rfl|assumption):wpAny M A (storeName X.env x u) Q E s:=
 pE I e d b r (λa f _=>h a f) c
def dD.call'(I:dD X cV σ H s)(g:s'.os=s.os)(u:Un (wA X.stack) ch H H' s.heap s'.heap)(d:md X.prog X.w H' s'.heap)(f:AllBare s'.gens)
  (a:∀b∈ch,(b∈X.ex\/X.s₀.heap.objs.size<=b)/\b≠X.env.locals/\(∀x c,X.env.cells.lookup x=some c->c≠b)/\∀p∈X.pn++cV,p.1≠b):dD X cV σ H' s':=by
 obtain⟨h',j,i,h,k⟩:=s';have e:=g;subst e;exact I.call u d f a
end
abbrev XK:=Value->Option Addr->Hp->Prop
abbrev St:=List (Option V)
abbrev VK:=V->Hp->Prop
abbrev TE:=St->Hp->VK->Prop
abbrev TT:=St->Hp->(Bool->Hp->Prop)->Prop
abbrev TA:=St->Hp->(List V->Hp->Prop)->Prop
structure mn where
 nx:St->Hp->Prop
 rt:VK
 bk:St->Hp->Prop:=λ_ _=>False
 ct:St->Hp->Prop:=λ_ _=>False
abbrev TS:=mn->St->Hp->Prop
def EP(X:Cx)(b:List (Addr×Obj))(c:St)(Q:VK)(u:Vq)(d:Sq):Prop:=∃v a,dD X b c a d/\eT v u/\Q v a
def TP(X:Cx)(c:List (Addr×Obj))(d:St)(Q:Bool->Hp->Prop)(b:Bool)(e:Sq):Prop:=∃a,dD X c d a e/\Q b a
def AP(X:Cx)(c:List (Addr×Obj))(d:St)(Q:List V->Hp->Prop)(us:List Vq)(e:Sq):Prop:=∃b a,dD X c d a e/\dQ b us/\Q b a
def SP(X:Cx)(c:List (Addr×Obj))(D:mn)(f:Flow)(d:Sq):Prop:=
 match f with
 |.next=>∃a b,dD X c a b d/\D.nx a b
 |.brk=>∃a b,dD X c a b d/\D.bk a b
 |.cont=>∃a b,dD X c a b d/\D.ct a b
 |.ret u=>∃v a b,dD X c a b d/\eT v u/\D.rt v b
def PE(X:Cx)(e:Expr)(t:TE):Prop:=∀(b:List (Addr×Obj)) (s:Sq) (a:St) (H:Hp) (Q:VK),dD X b a H s->t a H Q->wpAny (model X.prog X.w) X.A (eval e X.env) (EP X b a Q) X.xe s
def PT(X:Cx)(e:Expr)(t:TT):Prop:=∀(b:List (Addr×Obj)) (s:Sq) (a:St) (H:Hp) (Q:Bool->Hp->Prop),dD X b a H s->t a H Q->wpAny (model X.prog X.w) X.A (isTrue e X.env (eval e X.env)) (TP X b a Q) X.xe s
def PW(X:Cx)(e:Expr)(t:TT):Prop:=∀(a:Sem Vq) (c:List (Addr×Obj)) (s:Sq) (b:St) (H:Hp) (Q:Bool->Hp->Prop),dD X c b H s->t b H Q->wpAny (model X.prog X.w) X.A (isTrue e X.env a) (TP X c b Q) X.xe s
def PW.pt(h:PW X e t):PT X e t:=h _
def PA(X:Cx)(d:List Expr)(t:TA):Prop:=∀(b:Pos) (c:List (Addr×Obj)) (s:Sq) (a:St) (H:Hp) (Q:List V->Hp->Prop),dD X c a H s->t a H Q->wpAny (model X.prog X.w) X.A (spliced (backTo b (starEach d X.env))) (AP X c a Q) X.xe s
def PS(X:Cx)(st:Stmt)(t:TS):Prop:=∀(a:List (Addr×Obj)) (s:Sq) (b:St) (H:Hp) (D:mn),dD X a b H s->t D b H->wpAny (model X.prog X.w) X.A (exec st X.env) (SP X a D) X.xe s
def qZ(X:Cx)(st:List Stmt)(t:TS):Prop:=∀(a:List (Addr×Obj)) (s:Sq) (b:St) (H:Hp) (D:mn),dD X a b H s->t D b H->wpAny (model X.prog X.w) X.A (execs st X.env) (SP X a D) X.xe s
def fM{b:Type}{t:Sem b}{Q c:b->Shared->Prop}{M:Model}{A:Around}{E:Vq->Shared->Prop}{s:Sq}(h:wpAny M A t Q E s)(d:∀a s,Q a s->c a s):wpAny M A t c E s:=wpAny_mono h d λ_ _ x=>x
end L2
namespace L2
open PySem PySem.Spec PyProof.Rows
section
variable {X:Cx}
def kC(i:Nat):TE:=λa H Q=>∃v,a[i]? = some (some v)/\Q v H
def tC(v:V):TE:=λ_ H Q=>Q v H
def DU(k:X.N[i]? = some x)(t:Gn X.env.scope x)(g:(x==("__debug__" : Str))=false:=by decide)(f:(x==("__classdict__" : Str))=false:=by decide):PE X (.Name x pos) (kC i):=by
 intro p s w H Q I h;obtain⟨v,e,h⟩:=h;obtain⟨m,q,o⟩:=I.loc;obtain⟨u,r,l⟩:=o i x v k e t;have d:EP X p w Q u s:=⟨v,H,I,r,h⟩;rcases l with⟨b,n⟩|⟨b,c,j,a⟩
 .exact wpAny_Name (wpAny_loadName_local I.ok.kind b q n d) g
 .rcases b with b|b
  .exact wpAny_Name (wpAny_loadName_cell I.ok.kind b j a d) g
  .exact wpAny_Name (wpAny_loadName_free I.ok.kind b j a d f) g
def Ct{i j pos}:PE X (.Constant (.int i) j pos) (tC (.int i)):=λ_ _ _ H _ I h=>wpAny_Constant_int ⟨.int i,H,I.tok _,⟨_,rfl⟩,h⟩
def FC{b j pos}:PE X (.Constant (.bool b) j pos) (tC (.bl b)):=λ_ _ _ H _ I h=>Constant_bool ⟨.bl b,H,I,rfl,h⟩
def Cp{x j pos}:PE X (.Constant (.str x) j pos) (tC (.str x)):=λ_ _ _ H _ I h=>Calls.Constant_str ⟨.str x,H,I.tok _,⟨_,rfl⟩,h⟩
def Gl(X:Cx)(x:Str):Prop:=X.env.kindOf x=some .globalImplicit
def pY(I:dD X cV σ H s)(a:Gl X x)(b:X.mg x=some u)(h:Q u s)
  (c:(x==("__debug__" : Str))=false:=by decide):wpAny (model X.prog X.w) X.A (eval (.Name x pos) X.env) Q E s:=
 Calls.Name_function_global I.ok.kind a (Calls.loadGlobal_global (by rw[I.ok.glob];exact I.mod.glob.keeps I.bk) b h) c
def nB(I:dD X cV σ H s)(b:Gl X x)(c:X.mg x=none)(d:bootBuiltins x=some u)(h:Q u s)
  (a:x≠ "__name__" :=by decide) (e:(x==("__debug__" : Str))=false:=by decide):wpAny (model X.prog X.w) X.A (eval (.Name x pos) X.env) Q E s:=by
 obtain⟨i,f,g⟩:=I.mod.blt;exact Calls.Name_function_global I.ok.kind b (Calls.loadGlobal_builtin (by rw[I.ok.glob];exact I.mod.glob.keeps I.bk) c (by rw[I.ok.blt];exact f.keeps I.bk) ((g x a).trans d) h) e
def lC(a:Gl X x)(b:X.mg x=some u)(r:eT v u)(c:(x==("__debug__" : Str))=false:=by decide):PE X (.Name x pos) (tC v):=λ_ _ _ H _ I h=>pY I a b ⟨v,H,I,r,h⟩ c
def Aa(b:Gl X x)(c:X.mg x=none)(d:bootBuiltins x=some u)(r:eT v u)(a:x≠ "__name__" :=by decide)(e:(x==("__debug__" : Str))=false:=by decide):PE X (.Name x pos) (tC v):=λ_ _ _ H _ I h=>nB I b c d ⟨v,H,I,r,h⟩ a e
variable {a b:Expr}{ta tb:TE}{pos:Pos}
def tB(t:TE):TT:=λe H Q=>t e H λx d=>∃c,x=.bl c/\Q c d
def CS(h:PE X e t)(i:∀c,isTrue e X.env c=(do let v <-c;standAt e.pos;holding [v] (truthy v)):=by intro _;rfl):PT X e (tB t):=by intro f s g H Q I hw;refine isTrue_plain (fM (h f s g H _ I hw) λv s1 ⟨x,H1,I1,r1,q1⟩=>?_) (i _);obtain⟨d,rfl,q⟩:=q1;cases r1;exact wpAny_truthy_bool ⟨H1,I1,q⟩
variable {tA tB':TT}{iO:List Expr}
def Em(t u:TT):TT:=λe H Q=>t e H λc d=>if c=true then u e d Q else Q false d
def Hc(t u:TT):TT:=λe H Q=>t e H λc d=>if c=true then Q true d else u e d Q
def Df(t:TT):TT:=λe H Q=>t e H λc d=>Q (!c) d
def AK(f:PT X a tA):PW X (.BoolOp .And [a] pos) tA:=by
 intro j d s g H Q I h;refine isTrue_and (fM (f d s g H Q I h) λc i e=>?_);cases c with
 |true=>exact isTrue_and_nil e
 |false=>exact e
def CH(f:PT X a tA):PW X (.BoolOp .Or [a] pos) tA:=by
 intro j d s g H Q I h;refine isTrue_or (fM (f d s g H Q I h) λc i e=>?_);cases c with
 |false=>exact isTrue_or_nil e
 |true=>exact e
def C9(g:PT X a tA)(f:PW X (.BoolOp .And (b::iO) pos) tB'):PW X (.BoolOp .And (a::b::iO) pos) (Em tA tB'):=by
 intro i d s e H Q I h;refine isTrue_and (fM (g d s e H _ I h) λc s1 ⟨H1,I1,q1⟩=>?_);cases c with
 |true=>exact f i d s1 e H1 Q I1 q1
 |false=>exact⟨H1,I1,q1⟩
def FU(g:PT X a tA)(f:PW X (.BoolOp .Or (b::iO) pos) tB'):PW X (.BoolOp .Or (a::b::iO) pos) (Hc tA tB'):=by
 intro i d s e H Q I h;refine isTrue_or (fM (g d s e H _ I h) λc s1 ⟨H1,I1,q1⟩=>?_);cases c with
 |true=>exact⟨H1,I1,q1⟩
 |false=>exact f i d s1 e H1 Q I1 q1
def DJ(f:PT X a tA):PT X (.UnaryOp .Not a pos) (Df tA):=by intro e s g H Q I h;exact isTrue_not (f e s g H (λc d=>Q (!c) d) I h)
def yu(ta tb:TE):TE:=λe H Q=>ta e H λx d=>∃c,x=.bl c/\if c=true then tb e d Q else Q (.bl false) d
def Dt(ta tb:TE):TE:=λe H Q=>ta e H λx d=>∃c,x=.bl c/\if c=true then Q (.bl true) d else tb e d Q
def xj(ta:TE):TE:=λe H Q=>ta e H λx d=>∃c,x=.bl c/\Q (.bl (!c)) d
def El{op}(h:PE X a t):PE X (.BoolOp op [a] pos) t:=λc s d H Q I hw=>BoolOp_one (h c s d H Q I hw)
def B5(i:PE X a ta)(g:PE X (.BoolOp .And (b::iO) pos) tb):PE X (.BoolOp .And (a::b::iO) pos) (yu ta tb):=by
 intro e s f H Q I h;refine BoolOp_and (fM (i e s f H _ I h) λv s1 ⟨x,H1,I1,r1,d⟩=>?_);obtain⟨c,rfl,d⟩:=d;cases r1;refine wpAny_truthy_bool ?_;cases c with
 |true=>exact g e s1 f H1 Q I1 d
 |false=>exact⟨.bl false,H1,I1,rfl,d⟩
def Ge(i:PE X a ta)(g:PE X (.BoolOp .Or (b::iO) pos) tb):PE X (.BoolOp .Or (a::b::iO) pos) (Dt ta tb):=by
 intro e s f H Q I h;refine BoolOp_or (fM (i e s f H _ I h) λv s1 ⟨x,H1,I1,r1,d⟩=>?_);obtain⟨c,rfl,d⟩:=d;cases r1;refine wpAny_truthy_bool ?_;cases c with
 |false=>exact g e s1 f H1 Q I1 d
 |true=>exact⟨.bl true,H1,I1,rfl,d⟩
def EA(f:PE X a ta):PE X (.UnaryOp .Not a pos) (xj ta):=by intro e s g H Q I h;refine UnaryOp_ (fM (f e s g H _ I h) λv s1 ⟨x,H1,I1,r1,d⟩=>?_);obtain⟨c,rfl,d⟩:=d;cases r1;exact not_of (wpAny_truthy_bool ⟨.bl (!c),H1,I1,rfl,d⟩)
def GT(t:TT)(ta tb:TE):TE:=λd H Q=>t d H λc e=>if c=true then ta d e Q else tb d e Q
def xV(i:PT X c tA)(j:PE X a ta)(g:PE X b tb):PE X (.IfExp c a b pos) (GT tA ta tb):=by
 intro e s f H Q I h;refine wpAny_IfExp (fM (i e s f H _ I h) λd s1 ⟨H1,I1,q1⟩=>?_);cases d with
 |true=>exact j e s1 f H1 Q I1 q1
 |false=>exact g e s1 f H1 Q I1 q1
end
end L2
namespace L2
open PySem PySem.Spec PyProof.Rows
def iC(K:W.Frag)(H:Hp)(a:Addr)(c:List V):Prop:=
 Rd H a (.lst c)\/
  ∃(o:Obj) (b:Array Vq) (n:Nat),K.lookup a=some o/\o.cls=.type "list" /\o.dict=none/\o.data=.seq b n/\b.size<=sizeLine/\dQ c b.toList
def i5(K:W.Frag)(H:Hp)(a:Addr)(c:List V):Prop:=
 Rd H a (.tup c)\/
  ∃(o:Obj) (b:Array Vq) (n:Nat),K.lookup a=some o/\o.cls=.type "tuple" /\o.data=.seq b n/\b.size<=sizeLine/\dQ c b.toList
def GU:Vq->Option V
 |.none=>some .non
 |.bool b=>some (.bl b)
 |.int i _=>some (.int i)
 |.str x _=>some (.str x)
 |.bytes b _=>some (.byt b)
 |.float b _=>some (.flt b)
 |.ref a=>some (.ref a)
 |.type n=>some (.ty n)
 |_=>none
def eT.abs(r:eT x u):GU u=some x:=by
 cases x with
 |non=>cases r;rfl
 |bl _=>cases r;rfl
 |int _=>obtain⟨t,rfl⟩:=r;rfl
 |str _=>obtain⟨t,rfl⟩:=r;rfl
 |byt _=>obtain⟨t,rfl⟩:=r;rfl
 |flt _=>obtain⟨t,rfl⟩:=r;rfl
 |ref _=>cases r;rfl
 |ty _=>cases r;rfl
def eT.inj(r:eT x u)(q:eT y u):x=y:=Option.some.inj (r.abs.symm.trans q.abs)
theorem dQ.inj:∀{xs ys} {us},dQ xs us->dQ ys us->xs=ys
 |_,_,_,.nil,.nil=>rfl
 |_,_,_,.cons r t,.cons r' t'=>by rw[r.inj r',dQ.inj t t']
section
variable {X:Cx}{cV:List (Addr×Obj)}{σ:St}{H:Hp}{s:Sq}{a:Addr}{xs ys:List V}
def iC.of{K:W.Frag}(h:H a=some (.lst xs)):iC K H a xs:=.inl (.inl h)
def i5.of{K:W.Frag}(h:H a=some (.tup xs)):i5 K H a xs:=.inl (.inl h)
def dD.list(I:dD X cV σ H s)(h:iC X.K H a xs):∃b:List Vq,dQ xs b/\PlainL s.heap a b.toArray/\xs.length<=sizeLine:=by
 rcases h with h|⟨o,b,n,d,f,g,c,i,r⟩
 .obtain⟨z,b,n,r,e⟩:=h.ok I.hok;exact⟨b,r,⟨_,n,e,rfl,rfl,rfl⟩,z⟩
 .refine⟨b.toList,r,⟨o,n,I.kIn a o d,f,g,by simpa using c⟩,?_⟩;have e:=r.length;simp only[bp]at e;omega
def dD.tuple(I:dD X cV σ H s)(h:i5 X.K H a xs):∃b:List Vq,dQ xs b/\IsTup s.heap a b.toArray/\xs.length<=sizeLine:=by
 rcases h with h|⟨o,b,n,d,f,c,g,r⟩
 .obtain⟨z,b,r,p⟩:=h.ok I.hok;exact⟨b,r,p.tup,z⟩
 .refine⟨b.toList,r,⟨o,I.kIn a o d,f,n,by simpa using c⟩,?_⟩;have e:=r.length;simp only[bp]at e;omega
def dD.list_inj(I:dD X cV σ H s)(h:iC X.K H a xs)(i:iC X.K H a ys):xs=ys:=by
 obtain⟨c,r,⟨o,n,e,_,_,d⟩,_⟩:=I.list h;obtain⟨b,j,⟨m,l,f,_,_,g⟩,_⟩:=I.list i;rw[e]at f;cases f;rw[d]at g;injection g with k _;have:c=b:=by simpa using congrArg Array.toList k
 subst this;exact r.inj j
def dD.tuple_inj(I:dD X cV σ H s)(h:i5 X.K H a xs)(i:i5 X.K H a ys):xs=ys:=by
 obtain⟨c,r,⟨o,e,_,n,d⟩,_⟩:=I.tuple h;obtain⟨b,j,⟨m,f,_,l,g⟩,_⟩:=I.tuple i;rw[e]at f;cases f;rw[d]at g;injection g with k _;have:c=b:=by simpa using congrArg Array.toList k
 subst this;exact r.inj j
end
noncomputable abbrev Cx.wish(X:Cx)(E:Vq->Shared->Prop):Cx:={X with xe:=E}
abbrev Cx.nox(X:Cx):Cx:=X.wish λ_ _=>False
def Cx.Ok.wish{X:Cx}(ok:X.Ok) E:(X.wish E).Ok:=⟨ok.mod,ok.kind,ok.glob,ok.blt,ok.above,ok.inj,ok.has,ok.cab,ok.hd,ok.frames,ok.stk,ok.exf,ok.bs,ok.bsz,ok.noex,ok.exfs,ok.funs,ok.frf,ok.tab⟩
def Cx.Ok.unwish{X:Cx}(ok:(X.wish E).Ok):X.Ok:=⟨ok.mod,ok.kind,ok.glob,ok.blt,ok.above,ok.inj,ok.has,ok.cab,ok.hd,ok.frames,ok.stk,ok.exf,ok.bs,ok.bsz,ok.noex,ok.exfs,ok.funs,ok.frf,ok.tab⟩
section
variable {X:Cx}{cV:List (Addr×Obj)}{σ:St}{H:Hp}{s:Sq}{E:Vq->Shared->Prop}
def dD.wish(I:dD X cV σ H s) E:dD (X.wish E) cV σ H s:=⟨I.ok.wish E,I.os,I.bare,I.base,I.loc,I.cell,I.free,I.freeC,I.pin,I.hok,I.len⟩
def dD.unwish(I:dD (X.wish E) cV σ H s):dD X cV σ H s:=⟨I.ok.unwish,I.os,I.bare,I.base,I.loc,I.cell,I.free,I.freeC,I.pin,I.hok,I.len⟩
def SP.unwish(h:SP (X.wish E) cV D f s'):SP X cV D f s':=by
 cases f with
 |next=>obtain⟨a,b,I,q⟩:=h;exact⟨a,b,I.unwish,q⟩
 |brk=>obtain⟨a,b,I,q⟩:=h;exact⟨a,b,I.unwish,q⟩
 |cont=>obtain⟨a,b,I,q⟩:=h;exact⟨a,b,I.unwish,q⟩
 |ret u=>obtain⟨v,a,b,I,r,q⟩:=h;exact⟨v,a,b,I.unwish,r,q⟩
def qZ.nox{st:List Stmt}(h:qZ X.nox st t):qZ X st t:=λcV s σ H D I hw=>wpAny_mono (h cV s σ H D (I.wish _) hw) (λ_ _ q=>q.unwish) λ_ _ z=>False.elim z
end
section
variable {X:Cx}{st:Stmt}{iO:List Stmt}{t u:TS}{e:Expr}{te:TE}{pos:Pos}
def zr:TS:=λD a H=>D.nx a H
def zM(t u:TS):TS:=λD a H=>t {D with nx:=u D} a H
def AQ:qZ X [] zr:=λ_ _ a H _ I h=>wpAny_execs_nil ⟨a,H,I,h⟩
def rG(g:PS X st t)(k:qZ X iO u):qZ X (st::iO) (zM t u):=by
 intro b s i H D I h;refine wpAny_execs_cons (fM (g b s i H {D with nx:=u D} I h) λf d q=>?_);cases f with
 |next=>obtain⟨a,c,j,q⟩:=q;exact k b d a c D j q
 |ret v=>exact q
 |brk=>exact q
 |cont=>exact q
def uD(b:PS X st t):qZ X [st] t:=by
 intro a s c H D I h;refine wpAny_execs_cons (fM (b a s c H D I h) λf d q=>?_);cases f with
 |next=>exact wpAny_execs_nil q
 |ret v=>exact q
 |brk=>exact q
 |cont=>exact q
def dD.quiet(I:dD X cV σ H s):interactive X.env=false:=by simp[interactive,I.ok.kind]
def sJ(te:TE):TS:=λD a H=>te a H λ_ b=>D.nx a b
def uN(d:PE X e te)(b:swapsWith e none pos.line X.env=pure false:=by rfl):PS X (.Expr e pos) (sJ te):=by intro c s a H D I h;exact wpAny_Expr_any (fM (d c s a H _ I h) λv s1 ⟨x,H1,I1,r1,q1⟩=>⟨a,H1,I1,q1⟩) I.quiet b
def tm(te:TE):TS:=λD a H=>te a H D.rt
def tR(c:PE X e te):PS X (.Return (some e) pos) (tm te):=by intro b s a H D I h;exact wpAny_Return_some (fM (c b s a H _ I h) λv s1 ⟨x,H1,I1,r1,q1⟩=>⟨x,a,H1,I1,r1,q1⟩)
def CD(c:TT)(t u:TS):TS:=λD a H=>c a H λb d=>if b=true then t D a d else u D a d
def Fu(j:PT X c tc)(k:qZ X a t)(i:qZ X b u):PS X (.If c a b pos) (CD tc t u):=by
 intro f s g H D I h;refine wpAny_If (fM (j f s g H _ I h) λd s1 ⟨H1,I1,q1⟩=>?_);cases d with
 |true=>exact k f s1 g H1 D I1 q1
 |false=>exact i f s1 g H1 D I1 q1
def ua:TS:=λ_ _ _=>False
def xx:PS X st ua:=λ_ _ _ _ _ _ h=>h.elim
end
abbrev TG:=V->St->Hp->(St->Hp->Prop)->Prop
abbrev BO:=List V->St->Hp->(St->Hp->Prop)->Prop
def PG(X:Cx)(target:Expr)(t:TG):Prop:=
 ∀(c:List (Addr×Obj)) (s:Sq) (d:St) (H:Hp) (v:V) (u:Vq) (Q:St->Hp->Prop),dD X c d H s->eT v u->t v d H Q->
  wpAny (model X.prog X.w) X.A (assign target X.env u) (λ_ e=>∃a b,dD X c a b e/\Q a b) X.xe s
def FN(X:Cx)(ts:List Expr)(t:BO):Prop:=
 ∀(d:List (Addr×Obj)) (s:Sq) (e:St) (H:Hp) (c:List V) (f:List Vq) (Q:St->Hp->Prop),dD X d e H s->dQ c f->t c e H Q->
  wpAny (model X.prog X.w) X.A (assignInOrder ((assignEach ts X.env).map (·.2)) f) (λ_ g=>∃a b,dD X d a b g/\Q a b) X.xe s
abbrev Gb:=V->V->V->Hp->(Hp->Prop)->Prop
def FG(X:Cx)(t:Gb):Prop:=
 ∀(c:List (Addr×Obj)) (s:Sq) (e:St) (H:Hp) (o i v:V) (d b u:Vq) (Q:Hp->Prop),dD X c e H s->eT o d->eT i b->eT v u->t o i v H Q->
  wpAny (model X.prog X.w) X.A (setItem d b u) (λ_ f=>∃a,dD X c e a f/\Q a) X.xe s
section
variable {X:Cx}{pos:Pos}
def f6(i:Nat):TG:=λv a H Q=>Q (a.set i (some v)) H
def vj(e:X.N.Nodup)(c:X.N[i]? = some x)(a:wL X.env.scope x)(b:X.fn x=true\/X.env.scope.names.lookup x=some .local:=by first|exact .inl rfl|exact .inr rfl|assumption):PG X (.Name x pos) (f6 i):=by intro f s g H v u Q I r h;exact wpAny_assign_Name (lD I e c a r (λj d=>⟨_,H,d,h⟩) b)
def Ar:BO:=λa b H Q=>a=[]/\Q b H
def sq(t:TG)(u:BO):BO:=λc d H Q=>∃v r,c=v::r/\t v d H λa b=>u r a b Q
def BA:FN X [] Ar:=by intro c s a H b d Q I r h;obtain⟨e,h⟩:=h;subst e;cases r;exact assignInOrder_nil ⟨a,H,I,h⟩
theorem xD(d:PG X e t)(g:FN X es u)
  (c:(assignEach (e::es) X.env).map (·.2)=assign e X.env::(assignEach es X.env).map (·.2):=by rfl):FN X (e::es) (sq t u):=by
 intro a s f H i j Q I r h;obtain⟨v,k,b,h⟩:=h;subst b;cases r with
 |cons r rr=>rw[c];refine assignInOrder_cons (fM (d a s f H _ _ _ I r h) λ_ s1 ⟨σ1,H1,I1,q1⟩=>?_);exact g a s1 σ1 H1 _ _ Q I1 rr q1
def By(K:W.Frag)(n:Nat)(t:BO):TG:=λv c H Q=>∃a b,v=.ref a/\i5 K H a b/\b.length=n/\t b c H Q
def Ek(x:X.calm=true)(h:FN X es t)
  (w:(assignEach es X.env).length=n:=by rfl) (c:(assignEach es X.env).findIdx? (·.1)=none:=by rfl):PG X (.Tuple es k pos) (By X.K n t):=by
 intro m s z H v u Q I r hw;obtain⟨a,p,q,i,l,hw⟩:=hw;subst q;cases r;obtain⟨j,d,g,B⟩:=I.tuple i;refine assign_Tuple_tuple (I.ok.hd x) g (by simp[w,<-l,d.length]) c λA f=>?_;have y:=I.kept (t':=s.toks) λb o e=>f b o (aM (aL e)) e;exact h m _ z H p _ Q y (by simpa using d) hw
def Ds(to e:TE)(t:Gb):TG:=λv a H Q=>to a H λo c=>e a c λi b=>t o i v b λd=>Q a d
def Cm(d:PE X o to)(e:PE X i ti)(c:FG X t)
  (f:∀v,assign (.Subscript o i pos) X.env v=(do
   let ov <-holding [v] (eval o X.env)
   let iv <-holding [v,ov] (eval i X.env)
   standAt pos
   holding [v,ov,iv] (setItem ov iv v)
   release [v,ov,iv] []):=by intro _;rfl):PG X (.Subscript o i pos) (Ds to ti t):=by
 intro b s a H v u Q I r h;rw[f];refine ao (wpAny_holding (fM (d b s a H _ I h) λov s1 ⟨x,H1,I1,r1,q1⟩=>?_));refine ao (wpAny_holding (fM (e b s1 a H1 _ I1 q1) λiv s2 ⟨y,H2,I2,r2,q2⟩=>?_));refine ao (wpAny_standAt (ao (wpAny_holding (fM (c b s2 a H2 x y v ov iv u _ I2 r1 r2 r q2) λ_ s3 ⟨H3,I3,q3⟩=>?_))));exact wpAny_release ⟨a,H3,I3,q3⟩
def j5(c:TE)(g:TG):TS:=λD a H=>c a H λx b=>g x a b D.nx
def DT(i:PE X e te)(c:PG X tg g)(d:swapsWithSole [tg] e pos.line X.env=pure false:=by rfl)(hw:swappedStores [tg] e X.env=pure none:=by rfl)
  (f:(assignEach [tg] X.env).map (·.2)=[assign tg X.env]:=by rfl):PS X (.Assign [tg] e pos) (j5 te g):=by
 intro a s b H D I h;refine wpAny_Assign_stores (fM (i a s b H _ I h) λv s1 ⟨x,H1,I1,r1,q1⟩=>?_) d hw;rw[f];exact fM (c a s1 b H1 x v _ I1 r1 q1) λ_ j q=>q
def t7(l:X.N.Nodup)(f:X.N[i]? = some x)(a:wL X.env.scope x)(k:PE X e te)(d:swapsWith e (some (.Name x pos')) pos.line X.env=pure false:=by rfl)(b:X.fn x=true\/X.env.scope.names.lookup x=some .local:=by first|exact .inl rfl|exact .inr rfl|assumption) :
  PS X (.Assign [.Name x pos'] e pos) (j5 te (f6 i)):=by
 intro g s j H D I h;refine wpAny_Assign_Name (fM (k g s j H _ I h) λv s1 ⟨y,H1,I1,r1,q1⟩=>?_) d;exact lD I1 l f a r1 (λm c=>⟨_,H1,c,q1⟩) b
def DF(i j:Nat)(d:TA):TS:=λD a H=>d a H λc b=>∃v w,c=[v,w]/\D.nx ((a.set i (some v)).set j (some w)) b
theorem CY{kt k2 pt2}(J:X.calm=true)(n:X.N.Nodup)(F:X.N[i]? = some x)(P:X.N[j]? = some y)(f:i≠j)
  (m:X.env.scope.names.lookup x=some .local) (l:X.env.scope.names.lookup y=some .local) (B:PA X [a,b] ta)
  (hw:swappedStores [.Tuple [.Name x px,.Name y py] kt pt] (.Tuple [a,b] k2 pt2) X.env=pure (some [x,y]))
  (z:swapsWithSole [.Tuple [.Name x px,.Name y py] kt pt] (.Tuple [a,b] k2 pt2) pos.line X.env=pure false:=by rfl) :
  PS X (.Assign [.Tuple [.Name x px,.Name y py] kt pt] (.Tuple [a,b] k2 pt2) pos) (DF i j ta):=by
 intro r s u H D I h;rw[exec_Assign_arm];refine ao (wpAny_standAt ?_);rw[z];refine ao (ak ?_);rw[aR (by decide)];refine ao (Tuple_ (fM (B _ r s u H _ I h) λus s1 ⟨vs,H1,I1,r1,k⟩=>?_));obtain⟨v,w,C,k⟩:=k;subst C;obtain⟨c,d,rfl,rv,rw'⟩:∃c d,us=[c,d]/\eT v c/\eT w d:=by
  cases r1 with
  |cons p q=>
   cases q with
   |cons p' q'=>cases q';exact⟨_,_,rfl,p,p'⟩
 refine wpAny_newObj_type ?_ (by show 2<=sizeLine;decide);have E:dD X r u H1 {s1 with heap:=s1.heap.push {cls:=.type "tuple",data:=.seq [c,d].toArray}}:=I1.kept λb o e=>ae _ e;rw[hw];refine ao (ak ?_);show wpAny (model X.prog X.w) X.A (do rule "assign.swapped-stores";let items <-unpackItems (.ref s1.heap.objs.size) 2 none;assignInOrder [λv=>bindName X.env y v,λv=>bindName X.env x v] items.reverse;pure Flow.next) _ _ _;refine ao (wpAny_rule (ao (unpackItems_tuple (items:=#[c,d]) (I.ok.hd J) (IsTup.new s1.heap _) λR g=>?_)));have L:=E.kept (t':=s1.toks) λb o e=>g b o (aM (aL e)) e;refine ao (assignInOrder_cons (wpAny_bindName (lD L n P (.inl l) rw' (λQ K=>?_) (.inr l))));refine assignInOrder_cons (wpAny_bindName (lD K n F (.inl m) rv (λS t=>assignInOrder_nil (ak ?_)) (.inr m)));rw[List.set_comm _ _ (Ne.symm f)]at t;exact⟨_,H1,t,k⟩
end
section
variable {X:Cx}{pos:Pos}
def tz(c:TT)(h:TS):TS:=λD a H=>∃W:Nat->St->Hp->Prop,(∃m,W m a H)/\∀m a H,W m a H->
 c a H λb f=>if b=true then ∃N:St->Hp->Prop,(∀d e,N d e->∃g,g<m/\W g d e)/\h {D with nx:=N,ct:=N,bk:=D.nx} a f else D.nx a f
def yP(y:PassesOwn (model X.prog X.w) X.A X.env X.xe)(K:PT X c tc)(z:qZ X body tb):PS X (.While c body [] pos) (tz tc tb):=by
 intro o s P H D I h;obtain⟨W,⟨E,J⟩,g⟩:=h;refine wpAny_While (codeAny_whileLoop (λn B=>∃i t,dD X o i t B/\W n i t) ?_ E ⟨P,H,I,J⟩);rintro n C ⟨d,x,L,F⟩;refine wpAny_passesOwn y (fM (K o C d x _ L (g n d x F)) λb s2 ⟨H2,I2,j⟩=>?_);cases b with
 |true=>
  obtain⟨N,u,j⟩:=j;rw[aQ rfl];refine wpAny_passesOwn y (fM (z o s2 d H2 _ I2 j) λf Q k=>?_);cases f with
  |next=>obtain⟨a,e,r,l⟩:=k;obtain⟨p,m,q⟩:=u a e l;exact⟨p,m,a,e,r,q⟩
  |cont=>obtain⟨a,e,r,l⟩:=k;obtain⟨p,m,q⟩:=u a e l;exact⟨p,m,a,e,r,q⟩
  |brk=>exact k
  |ret v=>exact k
 |false=>rw[aR aH];exact wpAny_execs_nil ⟨d,H2,I2,j⟩
end
structure It where
 go:Nat->Hp->Prop
 yld:Nat->Hp->V->Hp->Prop
 stop:Nat->Hp->Prop
def mT(X:Cx)(a:List (Addr×Obj))(H:Hp)(b:Addr):Prop:=H b=none/\b≠X.env.locals/\b∉X.fs/\(b∈X.ex\/X.s₀.heap.objs.size<=b)/\(∀x c,X.env.cells.lookup x=some c->c≠b)/\∀p∈X.pn++a,p.1≠b
def dD.fpOk(I:dD X cV σ H s)(a:s.heap.objs.size<=b)(d:H' b=none):mT X cV H' b:=by
 refine⟨d,bq (aE I.lt a),I.nofs a,.inr (aN I.sz a),λx c e z=>?_,λp f z=>?_⟩
 .obtain⟨v,q⟩:=I.cell x c e;exact absurd (aE q.lt (by rw[z];exact a)) (a9 _)
 .exact absurd (aE (aL (I.pin p f).1) (by rw[z];exact a)) (a9 _)
structure tW(P:Program)(w:World)(K:W.Frag)(tg:Expr)(J:It)(fp:List Addr)(it:Addr)(tn:Nat->Heap->Prop):Prop where
 mem:it∈fp
 obj:∀i h,tn i h->∀b∈fp,∃o,h.get? b=some o/\∀v,o.data≠.cell v
 keep:∀i h h',tn i h->(∀b∈fp,∀o,h.get? b=some o->h'.get? b=some o)->tn i h'
 item:∀(X:Cx),X.prog=P->X.w=w->X.K=K->X.calm=true->∀(i:Nat) (cV:List (Addr×Obj)) (s:Sq) (σ:St) (H:Hp) (E:Vq->Shared->Prop),dD X cV σ H s->(∀b∈fp,mT X cV H b)->tn i s.heap->J.go i H->
  wpAny (model P w) X.A (pyNext (.ref it)) (λr s1=>∃u,r=some u/\
   wpAny (model P w) X.A (letOwnedTupleGo tg (.ref it) u) (λ_ s2=>∃x H',dD X cV σ H' s2/\eT x u/\J.yld i H x H'/\tn (i+1) s2.heap/\∀b∈fp,H' b=none) E s1) E s
 done:∀(X:Cx),X.prog=P->X.w=w->X.K=K->X.calm=true->∀(i:Nat) (cV:List (Addr×Obj)) (s:Sq) (σ:St) (H:Hp) (E:Vq->Shared->Prop),dD X cV σ H s->(∀b∈fp,mT X cV H b)->tn i s.heap->J.stop i H->
  wpAny (model P w) X.A (pyNext (.ref it)) (λr s1=>r=none/\dD X cV σ H s1) E s
 self:∀(A:Around) (i:Nat) (s:Sq) (Q:Vq->Shared->Prop) (E:Vq->Shared->Prop),tn i s.heap->Q (.ref it) s->wpAny (model P w) A (pyIter (.ref it)) Q E s
abbrev TI:=St->Hp->(It->Hp->Prop)->Prop
def Hw(X:Cx)(f:List (Addr×Obj))(i:St)(h:Expr)(R:It->Hp->Prop)(c:Vq)(d:Sq):Prop:=∃(it:Addr) (e:List Addr) (g:Nat->Heap->Prop) (J:It) (a:Hp),c=.ref it/\dD X f i a d/\tW X.prog X.w X.K h J e it g/\g 0 d.heap/\(∀b∈e,mT X f a b)/\R J a
def PI(X:Cx)(d a:Expr)(e:TI):Prop:=
 ∀(c:List (Addr×Obj)) (s:Sq) (b:St) (H:Hp) (R:It->Hp->Prop),dD X c b H s->e b H R->
  wpAny (model X.prog X.w) X.A (eval a X.env) (λv f=>wpAny (model X.prog X.w) X.A (pyIter v) (Hw X c b d R) X.xe f) X.xe s
theorem uM{M:Model}{A:Around}{E:Vq->Shared->Prop}{s:Sq}{b:Expr}{it:Addr}{u:Vq}{o:Obj}{n:String}{vs:Array Vq}{Q:Unit->Shared->Prop}(d:s.heap.get? it=some o)(e:o.cls=.type n)(f:o.data=.fields vs)
    (c:["enumerate", "zip", "dict_itemiterator", "dict_reverseitemiterator", "odict_iterator", "itertools.zip_longest", "itertools.pairwise"].contains n=false) (a:Q () s):wpAny M A (letOwnedTupleGo b (.ref it) u) Q E s:=by
  unfold letOwnedTupleGo;cases b<;>first
    |exact ak a
    | (cases u<;>first
        |exact ak a
        | (refine ao (wpAny_load d ?_)
           rw[e,f]
           show wpAny M A (if (["enumerate", "zip", "dict_itemiterator", "dict_reverseitemiterator", "odict_iterator", "itertools.zip_longest", "itertools.pairwise"].contains n&&vs[0]? == some (rawInt _))=true then _ else _) Q E s
           rw[aR (by intro h;rw[c,Bool.false_and]at h;cases h)]
           exact ak a))
noncomputable def G4(K:W.Frag)(a:Addr):It:=⟨λi H=>∃b x,iC K H a b/\b[i]? = some x,λi H x c=>c=H/\∀b,iC K H a b->b[i]? = some x,λi H=>∃b,iC K H a b/\b.length<=i⟩
noncomputable def Hi(K:W.Frag)(a:Addr):It:=⟨λi H=>∃b x,i5 K H a b/\b[i]? = some x,λi H x c=>c=H/\∀b,i5 K H a b->b[i]? = some x,λi H=>∃b,i5 K H a b/\b.length<=i⟩
noncomputable def Fd(b:Int)(n:Nat):It:=⟨λi _=>i<n,λi H x a=>a=H/\x=.int (b+i),λi _=>n<=i⟩
def wo{K:W.Frag} a it:tW P w K tg (G4 K a) [it] it (λi h=>h.IsListIter it a i) where
 mem:=by simp
 obj:=λi h f b g=>by
  have e:b=it:=by simpa using g
  subst e;obtain⟨o,e,c,d⟩:=f;exact⟨o,e,λv z=>by rw[d]at z;cases z⟩
 keep:=λi h L f k=>f.at λo e=>k it (by simp) o e
 item:=by intro X J hw B N i U s σ H E I m f C;subst J hw B;obtain⟨Y,x,l,n⟩:=C;obtain⟨r,D,p,S⟩:=I.list l;obtain⟨u,hu,ru⟩:=D.get n;obtain⟨t,F,Z,q,A,y⟩:=m it (by simp);refine wpAny_pyNext_list_item f p.isList (by simpa using hu) λL j sb=>?_;have I1:=I.turned (t':=s.toks) (λb o g e=>(sb.2 b g).trans e) t F q A y;obtain⟨o,e,c,d⟩:=id j;exact⟨u,rfl,uM e c d (by decide) ⟨x,H,I1,ru,⟨rfl,λys Q=>by rw[I.list_inj Q l];exact n⟩,j,λb g=>(m b g).1⟩⟩
 done:=by intro X J hw B N i U s σ H E I m f C;subst J hw B;obtain⟨Y,l,n⟩:=C;obtain⟨r,D,p,S⟩:=I.list l;obtain⟨t,F,Z,q,A,y⟩:=m it (by simp);have hl:=D.length;exact wpAny_pyNext_list_end (I.ok.hd N) f p.isList (by simp;omega) λL R=>⟨rfl,I.turned (λb o g e=>R b o g e) t F q A y⟩
 self:=λ_ _ _ _ _ f h=>wpAny_pyIter_listiter f h
def tQ{K:W.Frag} a it:tW P w K tg (Hi K a) [it] it (λi h=>h.IsTupleIter it a i) where
 mem:=by simp
 obj:=λi h f b g=>by
  have e:b=it:=by simpa using g
  subst e;obtain⟨o,e,c,d⟩:=f;exact⟨o,e,λv z=>by rw[d]at z;cases z⟩
 keep:=λi h L f k=>f.at λo e=>k it (by simp) o e
 item:=by intro X J hw B N i U s σ H E I m f C;subst J hw B;obtain⟨Y,x,l,n⟩:=C;obtain⟨r,D,p,S⟩:=I.tuple l;obtain⟨u,hu,ru⟩:=D.get n;obtain⟨t,F,Z,q,A,y⟩:=m it (by simp);refine wpAny_pyNext_tuple_item f (p) (by simpa using hu) λL j sb=>?_;have I1:=I.turned (t':=s.toks) (λb o g e=>(sb.2 b g).trans e) t F q A y;obtain⟨o,e,c,d⟩:=id j;exact⟨u,rfl,uM e c d (by decide) ⟨x,H,I1,ru,⟨rfl,λys Q=>by rw[I.tuple_inj Q l];exact n⟩,j,λb g=>(m b g).1⟩⟩
 done:=by intro X J hw B N i U s σ H E I m f C;subst J hw B;obtain⟨Y,l,n⟩:=C;obtain⟨r,D,p,S⟩:=I.tuple l;obtain⟨t,F,Z,q,A,y⟩:=m it (by simp);have hl:=D.length;exact wpAny_pyNext_tuple_end (I.ok.hd N) f (p) (by simp;omega) λL R=>⟨rfl,I.turned (λb o g e=>R b o g e) t F q A y⟩
 self:=λ_ _ _ _ _ f h=>wpAny_pyIter_tupleiter f h
def tY{K:W.Frag} it lo n:tW P w K tg (Fd lo n) [it] it (λi h=>IsRangeIter h it (lo+(i:Nat)*1) ((n:Int)-(i:Nat)) 1) where
 mem:=by simp
 obj:=λi h a b c=>by
  have e:b=it:=by simpa using c
  subst e;exact⟨_,a,λv z=>by have D:=z;cases D⟩
 keep:=λi h l a k=>k it (by simp) _ a
 item:=by intro X y hw q x i A s B H E I f a r;subst y hw q;obtain⟨j,u,F,g,p,m⟩:=f it (by simp);have W:=Walks.range (prog:=X.prog) (w:=X.w) (I.ok.hd x) it lo 1 n;refine W.item i s _ _ r a λv l L J d Q=>?_;obtain⟨t,rfl⟩:=J;have N:dD X A B H {s with heap:=l,toks:=L}:=I.turned (λb o c e=>Q b o (by simpa using c) e) j u g p m;refine⟨_,rfl,uM d rfl rfl (by decide) ⟨.int (lo+i),H,N,⟨t,?_⟩,⟨rfl,rfl⟩,d,λb c=>(f b c).1⟩⟩;rw[Int.mul_one]
 done:=by intro X y hw q x i A s B H E I f a r;subst y hw q;obtain⟨j,u,F,g,p,m⟩:=f it (by simp);exact wpAny_pyNext_range_end (I.ok.hd x) a (by have:n<=i:=r;omega) λl C=>⟨rfl,I.turned (λb o c e=>C b o c e) j u g p m⟩
 self:=λ_ _ _ _ _ a h=>wpAny_pyIter_rangeiter a h
end L2
namespace L2
open PySem PySem.Spec PyProof.Rows
section
variable {X:Cx}{tg:Expr}
def yh(K:W.Frag)(c:TE):TI:=λd H R=>c d H λx b=>∃a,x=.ref a/\(∃e,iC K b a e)/\R (G4 K a) b
def ED(K:W.Frag)(c:TE):TI:=λd H R=>c d H λx b=>∃a,x=.ref a/\(∃e,i5 K b a e)/\R (Hi K a) b
def zN(g:PE X l tl):PI X tg l (yh X.K tl):=by
 intro i s j H R I h;refine fM (g i s j H _ I h) λv s1 ⟨x,H1,I1,r1,q1⟩=>?_;obtain⟨a,e,⟨m,d⟩,q⟩:=q1;subst e;cases r1;obtain⟨f,n,p,k⟩:=I1.list d;refine wpAny_pyIter_list p.isList ?_;refine⟨s1.heap.objs.size,[s1.heap.objs.size],_,_,H1,rfl,I1.kept λb o e=>ae _ e,wo a _,⟨_,ar _ rfl,rfl,rfl⟩,λb c=>?_,q⟩;have e:b=s1.heap.objs.size:=by simpa using c
 subst e;exact I1.fpOk (aK _) (I1.hok.fresh (aK _))
def DL(g:PE X l tl):PI X tg l (ED X.K tl):=by
 intro i s j H R I h;refine fM (g i s j H _ I h) λv s1 ⟨x,H1,I1,r1,q1⟩=>?_;obtain⟨a,e,⟨m,d⟩,q⟩:=q1;subst e;cases r1;obtain⟨f,n,p,k⟩:=I1.tuple d;refine wpAny_pyIter_tuple (p) ?_;refine⟨s1.heap.objs.size,[s1.heap.objs.size],_,_,H1,rfl,I1.kept λb o e=>ae _ e,tQ a _,⟨_,ar _ rfl,rfl,rfl⟩,λb c=>?_,q⟩;have e:b=s1.heap.objs.size:=by simpa using c
 subst e;exact I1.fpOk (aK _) (I1.hok.fresh (aK _))
def yG{a c:Int}(I:dD X cV σ H s)(j:-(2 ^ 62)<=a)(l:a<2 ^ 62)(i:-(2 ^ 62)<=c)(h:c<2 ^ 62)
  (q:R (Fd a (c-a).toNat) H):wpAny (model X.prog X.w) X.A (pyIter (.ref s.heap.objs.size)) (Hw X cV σ tg R) E {s with heap:=s.heap.push {cls:=.type "range",data:=.fields #[.int a t,.int c u,.int 1 v]},toks:=tk}:=by
 refine wpAny_pyIter_range (IsRange.new ..) (small_one j l i h) ?_;have d:dD X cV σ H {s with heap:=s.heap.push {cls:=.type "range",data:=.fields #[.int a t,.int c u,.int 1 v]},toks:=tk}:=I.kept λb o e=>ae _ e;refine⟨(s.heap.push {cls:=.type "range",data:=.fields #[.int a t,.int c u,.int 1 v]}).objs.size,[(s.heap.push {cls:=.type "range",data:=.fields #[.int a t,.int c u,.int 1 v]}).objs.size],_,_,H,rfl,
  d.kept λb o e=>ae _ e,tY _ a (c-a).toNat,?_,λb f=>?_,q⟩
 .have g:a+((0:Nat):Int)*1=a:=by simp
  have k:(((c-a).toNat:Nat):Int)-((0:Nat):Int)=Builtin.Range.rangeSize a c 1:=by rw[rangeSize_one];split<;>omega
  rw[g,k];exact ar _ rfl
 .have e:b=(s.heap.push {cls:=.type "range",data:=.fields #[.int a t,.int c u,.int 1 v]}).objs.size:=by simpa using f
  subst e;exact d.fpOk (aK _) (d.hok.fresh (aK _))
def xm(d:TA):TI:=λc H R=>d c H λb a=>∃j:Int,b=[.int j]/\-(2 ^ 62)<=j/\j<2 ^ 62/\R (Fd 0 j.toNat) a
def wz(c:Gl X "range")(d:X.mg "range" = none)(k:PA X [a] ta)(f:starEach [a] X.env=[(false,eval a X.env)]:=by rfl):PI X tg (.Call (.Name "range" p) [a] [] pos) (xm ta):=by
 intro g s l H R I h;refine Call_ (nB I c d boot_range (PyProof.Rows.callWith_type1 (fM (k pos g s l H _ I h) λus s1 ⟨vs,H1,I1,r1,b⟩=>?_) f rfl));obtain⟨j,e,b,i,q⟩:=b;subst e;cases r1 with
 |cons r rr=>cases rr;obtain⟨t,rfl⟩:=r;exact call_range_1 (yG I1 (by omega) (by omega) b i (by simpa using q))
def xN(j:TI)(g:TG)(k:TS):TS:=λD a H=>j a H λJ h=>∃W:Nat->Nat->St->Hp->Prop,(∃m,W 0 m a h)/\∀i m a H,W i m a H->
 (J.stop i H/\D.nx a H)\/(J.go i H/\∃N:St->Hp->Prop,(∀c b,N c b->∃e,e<m/\W (i+1) e c b)/\∀x b,J.yld i H x b->g x a b λd f=>k {D with nx:=N,ct:=N,bk:=D.nx} d f)
noncomputable def nK(a:List Addr)(h:Heap):List (Addr×Obj):=a.filterMap λb=>(h.get? b).map λo=>(b,o)
def jN(a:b∈fp)(e:h.get? b=some o):(b,o)∈nK fp h:=br.mpr ⟨b,a,by rw[e];rfl⟩
def vY(d:p∈nK fp h):p.1∈fp/\h.get? p.1=some p.2:=by
 obtain⟨b,a,e⟩:=br.mp d;cases q:h.get? b with
 |none=>rw[q]at e;cases e
 |some o=>rw[q]at e;have c:=Option.some.inj e;subst c;exact⟨a,q⟩
def dD.pinned(I:dD X cV σ H s)(j:∀b∈fp,mT X cV H b)(f:∀b∈fp,∃o,s.heap.get? b=some o/\∀v,o.data≠.cell v):dD X (cV++nK fp s.heap) σ H s:=I.pins_of λp k=>(ai.mp k).elim (λz=>I.pin p (bt _ z)) λz=>by obtain⟨a,e⟩:=vY z;obtain⟨h,g,i,_⟩:=j p.1 a;obtain⟨o,c,d⟩:=f p.1 a;rw[e]at c;cases c;exact⟨e,h,g,i,d⟩
def dD.unpinned(I:dD X (cV++pl) σ H s):dD X cV σ H s:=I.pins_of λp a=>I.pin p (bt _ (ay _ a))
theorem yK(Q:PassesOwn (model X.prog X.w) X.A X.env X.xe)(hc:X.calm=true)(hi:PI X tg iter wi)(hg:PG X tg g)(c:qZ X body tb)
  (hs:∀x,foldedSetIterable iter X.env x=pure x:=by intro _;rfl):PS X (.For tg iter body [] pos) (xN wi g tb):=by
 intro B s σ H D I h;refine wpAny_For (fM (hi B s σ H _ I h) λv s1 h1=>fM h1 λitv s2 h2=>?_) hs;obtain⟨it,L,tn,J,H2,e,I2,T,S,f2,W,⟨m0,w0⟩,E⟩:=h2;subst e;have t:∀{y:Hp},(∀b∈L,y b=none)->∀b∈L,mT X B y b:=λhn b c=>⟨hn b c,(f2 b c).2⟩;refine codeAny_forLoop_any (λn Z=>∃i k y,dD X B k y Z/\tn i Z.heap/\(∀b∈L,y b=none)/\W i n k y) ?_ m0 ⟨0,σ,H2,I2,S,λb c=>(f2 b c).1,w0⟩;rintro n s3 ⟨i,p,R,I3,K,F,w3⟩;rcases E i n p R w3 with⟨P,qn⟩|⟨go,N,hN,step⟩
 .refine wpAny_passesOwn Q (fM (T.done X rfl rfl rfl hc i B s3 p R X.xe I3 (t F) K P) λr s4 ⟨hr,I4⟩=>?_);subst hr;exact wpAny_execs_nil ⟨p,R,I4,qn⟩
 .refine wpAny_passesOwn Q (fM (T.item X rfl rfl rfl hc i B s3 p R X.xe I3 (t F) K go) λr s4 ⟨u,hr,h4⟩=>?_);subst hr;refine wpAny_passesOwn Q (fM h4 λ_ s5 ⟨x,H5,I5,r5,y5,st5,fr5⟩=>?_);have Y:=I5.pinned (t fr5) (T.obj _ _ st5);refine wpAny_passesOwn Q (fM (hg _ s5 p H5 x u _ Y r5 (step x H5 y5)) λ_ s6 ⟨σ6,H6,I6,q6⟩=>?_);refine wpAny_passesOwn Q (fM (c _ s6 σ6 H6 _ I6 q6) λf U z=>?_);have q:∀{a:St} {l:Hp},dD X (B++nK L s5.heap) a l U->N a l->∃m,m<n/\∃i k y,dD X B k y U/\tn i U.heap/\(∀b∈L,y b=none)/\W i m k y:=λ{a l} j C=>by obtain⟨m',hm,w7⟩:=hN a l C;refine⟨m',hm,i+1,a,l,j.unpinned,T.keep _ _ _ st5 λb c o e=>(j.pin (b,o) (bt _ (bt _ (jN c e)))).1,λb c=>?_,w7⟩;obtain⟨o,e,d⟩:=T.obj _ _ st5 b c;exact (j.pin (b,o) (bt _ (bt _ (jN c e)))).2.1
  cases f with
  |next=>obtain⟨a,l,j,C⟩:=z;exact q j C
  |cont=>obtain⟨a,l,j,C⟩:=z;exact q j C
  |brk=>obtain⟨a,l,j,z⟩:=z;exact⟨a,l,j.unpinned,z⟩
  |ret v=>obtain⟨x7,a,l,j,r7,z⟩:=z;exact⟨x7,a,l,j.unpinned,r7,z⟩
end
end L2
namespace L2
open PySem PySem.Spec PyProof.Rows
abbrev R2:=V->V->Hp->VK->Prop
def jU(X:Cx)(f:Vq->Value->Sem Value)(r:R2):Prop:=
 ∀(a:List (Addr×Obj)) (s:Sq) (b:St) (H:Hp) (x y:V) (v u:Vq) (Q:VK),dD X a b H s->eT x v->eT y u->r x y H Q->
  wpAny (model X.prog X.w) X.A (f v u) (EP X a b Q) X.xe s
def G0(X:Cx)(f:Vq->Sem Value)(r:V->Hp->VK->Prop):Prop:=
 ∀(a:List (Addr×Obj)) (s:Sq) (b:St) (H:Hp) (x:V) (v:Vq) (Q:VK),dD X a b H s->eT x v->r x H Q->
  wpAny (model X.prog X.w) X.A (f v) (EP X a b Q) X.xe s
def gF(X:Cx)(f:Vq)(r:List V->Hp->VK->Prop):Prop:=
 ∀(a:List (Addr×Obj)) (s:Sq) (b:St) (H:Hp) (d:List V) (c:List Vq) (Q:VK),dD X a b H s->dQ d c->r d H Q->
  wpAny (model X.prog X.w) X.A (call f c) (EP X a b Q) X.xe s
def mB(r:R2)(e d:TE):TE:=λa H Q=>e a H λx c=>d a c λy b=>r x y b Q
def G3(r:V->Hp->VK->Prop)(c:TE):TE:=λb H Q=>c b H λx a=>r x a Q
def rI(C:Int->Int->Prop)(g:Int->Int->V):R2:=λx y H Q=>∃i j,x=.int i/\y=.int j/\C i j/\Q (g i j) H
def tJ(g:Int->Int->V):R2:=λx y H Q=>∃i j,x=.int i/\y=.int j/\Q (g i j) H
def rU(g:Int->V):V->Hp->VK->Prop:=λx H Q=>∃i,x=.int i/\Q (g i) H
section
variable {X:Cx}{a b c:Expr}{ta tb tc:TE}{pos:Pos}
def DZ(l:PE X a ta)(k:PE X b tb){R:V->V->Hp->Prop}(I:dD X cV σ H s)
  (h:ta σ H λx j=>tb σ j λy d=>R x y d) {f:Vq->Value->Sem Value}
  (m:∀v u i x y d,dD X cV σ d i->eT x v->eT y u->R x y d->wpAny (model X.prog X.w) X.A (f v u) Q X.xe i) :
  wpAny (model X.prog X.w) X.A (eval a X.env) (λv e=>wpAny (model X.prog X.w) X.A (eval b X.env) (λu g=>wpAny (model X.prog X.w) X.A (f v u) Q X.xe g) X.xe e) X.xe s:=by
 refine fM (l cV s σ H _ I h) λv s1 ⟨x,j,I1,r1,q1⟩=>?_;refine fM (k cV s1 σ j _ I1 q1) λu i ⟨y,d,I2,r2,q2⟩=>?_;exact m v u i x y d I2 r1 r2 q2
def yw(f:jU X (binaryOp op) r)(i:PE X a ta)(e:PE X b tb):PE X (.BinOp a op b pos) (mB r ta tb):=by intro g s n H Q I h;exact wpAny_BinOp (DZ i e I h λv u d x y k l j m q=>f g d n k x y v u Q l j m q)
def Fx(f:G0 X (unaryOp op) r)(g:PE X a ta):PE X (.UnaryOp op a pos) (G3 r ta):=by intro d s e H Q I h;exact UnaryOp_ (fM (g d s e H _ I h) λv s1 ⟨x,H1,I1,r1,q1⟩=>f d s1 e H1 x v Q I1 r1 q1)
def GE{g:Int->Int->Int}
  (d:∀i j t u s Q E,C i j->Q (.int (g i j) s.toks) {s with toks:=s.toks+1}->wpAny (model X.prog X.w) X.A (f (.int i t) (.int j u)) Q E s) :
  jU X f (rI C λi j=>.int (g i j)):=by
 intro n s o H x y v u Q I e k h;obtain⟨i,j,rfl,rfl,m,q⟩:=h;obtain⟨t,rfl⟩:=e;obtain⟨l,rfl⟩:=k;exact d i j t l s _ _ m ⟨.int (g i j),H,I.tok _,⟨_,rfl⟩,q⟩
def FY{g:Int->Int->Int}
  (d:∀i j t u s Q E,Q (.int (g i j) s.toks) {s with toks:=s.toks+1}->wpAny (model X.prog X.w) X.A (f (.int i t) (.int j u)) Q E s) :
  jU X f (tJ λi j=>.int (g i j)):=by
 intro m s n H x y v u Q I e k h;obtain⟨i,j,rfl,rfl,q⟩:=h;obtain⟨t,rfl⟩:=e;obtain⟨l,rfl⟩:=k;exact d i j t l s _ _ ⟨.int (g i j),H,I.tok _,⟨_,rfl⟩,q⟩
def Ai{g:Int->Int->Bool}
  (d:∀(i j:Int) (t u:Tok) (s:Sq) (Q:Vq->Shared->Prop) (E:Vq->Shared->Prop),Q (.bool (g i j)) s->wpAny (model X.prog X.w) X.A (f (.int i t) (.int j u)) Q E s) :
  jU X f (tJ λi j=>.bl (g i j)):=by
 intro m s n H x y v u Q I e k h;obtain⟨i,j,rfl,rfl,q⟩:=h;obtain⟨t,rfl⟩:=e;obtain⟨l,rfl⟩:=k;exact d i j t l s _ _ ⟨.bl (g i j),H,I,rfl,q⟩
def Fp(i j:Int):Prop:=0<=j/\j<=1000000/\i.natAbs<2 ^ 64
def Ce:jU X (binaryOp .Add) (tJ λi j=>.int (i+j)):=FY λ_ _ _ _ _ _ _ q=>add_int q
def DS:jU X (binaryOp .Sub) (tJ λi j=>.int (i-j)):=FY λ_ _ _ _ _ _ _ q=>sub_int q
def AZ:jU X (binaryOp .Mod) (rI (λ_ j=>j≠0) λi j=>.int (i.fmod j)):=GE λ_ _ _ _ _ _ _ d q=>mod_int' d q
def Cw:jU X (binaryOp .Pow) (rI Fp λi j=>.int (i ^ j.toNat)):=GE λ_ _ _ _ _ _ _ d q=>pow_int_small d.1 d.2.1 d.2.2 q
def HI{g:Int->Int}
  (d:∀i t s Q E,Q (.int (g i) s.toks) {s with toks:=s.toks+1}->wpAny (model X.prog X.w) X.A (f (.int i t)) Q E s) :
  G0 X f (rU λi=>.int (g i)):=by
 intro j s k H x v Q I e h;obtain⟨i,rfl,q⟩:=h;obtain⟨t,rfl⟩:=e;exact d i t s _ _ ⟨.int (g i),H,I.tok _,⟨_,rfl⟩,q⟩
def EE:G0 X (unaryOp .USub) (rU λi=>.int (-i)):=HI λ_ _ _ _ _ q=>neg_int q
end
section
variable {X:Cx}{a b c:Expr}{ta tb tc:TE}{pos:Pos}
def yO:jU X (compareOp .Lt) (tJ λi j=>.bl (decide (i<j))):=Ai λ_ _ _ _ _ _ _ q=>lt_int q
def rm:jU X (compareOp .LtE) (tJ λi j=>.bl (decide (i<=j))):=Ai λ_ _ _ _ _ _ _ q=>le_int q
def uG:jU X (compareOp .Gt) (tJ λi j=>.bl (decide (j<i))):=Ai λ_ _ _ _ _ _ _ q=>gt_int q
def xt:jU X (compareOp .GtE) (tJ λi j=>.bl (decide (j<=i))):=Ai λ_ _ _ _ _ _ _ q=>ge_int q
def mm b (h:op≠.In:=by decide) (f:op≠.NotIn:=by decide):behindInMarks op b=false:=by
 have d:(op==CmpOp.In)=false:=by cases op<;>first|rfl|exact absurd rfl h
 have e:(op==CmpOp.NotIn)=false:=by cases op<;>first|rfl|exact absurd rfl f
 cases b<;>simp[behindInMarks,d,e]
def pR(g:jU X (compareOp op) r)(j:PE X a ta)(e:PE X b tb)(f:behindInMarks op b=false):PE X (.Compare a [op] [b] pos) (mB r ta tb):=by intro i s o H Q I h;exact wpAny_Compare1 (DZ j e I h λv u d x y l m k n q=>g i d o l x y v u Q m k n q) f
def ni(t:TE):TT:=λe H Q=>t e H λx d=>∃k,x=.bl k/\Q k d
def An(j:jU X (compareOp op) r)(l:PE X a ta)(g:PE X b tb)(i:behindInMarks op b=false):PT X (.Compare a [op] [b] pos) (ni (mB r ta tb)):=by
 intro d s f H Q I h;refine wpAny_isTrue_Compare1 (fM (l d s f H _ I h) λv s1 ⟨x,H1,I1,r1,q1⟩=>fM (g d s1 f H1 _ I1 q1) λu s2 ⟨y,H2,I2,r2,q2⟩=>fM (j d s2 f H2 x y v u _ I2 r1 r2 q2) λc s3 ⟨z,H3,I3,r3,k,e,q3⟩=>?_) i
 subst e;cases r3;exact wpAny_truthy_bool ⟨H3,I3,q3⟩
def nq(r i:R2)(ta tb tc:TE):TE:=λd H Q=>ta d H λx h=>tb d h λy f=>r x y f λz e=>∃k,z=.bl k/\
 (if k=true then tc d e λj g=>i y j g Q else Q (.bl false) e)
theorem yk(l:jU X (compareOp op) r)(i:jU X (compareOp op') r')(o:PE X a ta)(j:PE X b tb)(n:PE X c tc)
  (m:lastMarks [op,op'] [b,c]=false:=by with_unfolding_all rfl):PE X (.Compare a [op,op'] [b,c] pos) (nq r r' ta tb tc):=by
 intro f s g H Q I h;refine Compare_chain (fM (o f s g H _ I h) λv s1 ⟨x,H1,I1,r1,q1⟩=>chain_link (fM (j f s1 g H1 _ I1 q1) λu s2 ⟨y,H2,I2,r2,q2⟩=>fM (l f s2 g H2 x y v u _ I2 r1 r2 q2) λd s3 ⟨z,H3,I3,r3,k,e,q3⟩=>?_)) m
 subst e;cases r3;refine wpAny_truthy_bool ?_;cases k with
 |false=>exact ite_ff ⟨.bl false,H3,I3,rfl,q3⟩
 |true=>exact ite_tt (chain_last (fM (n f s3 g H3 _ I3 q3) λw' s4 ⟨z',H4,I4,r4,q4⟩=>i f s4 g H4 y z' u w' Q I4 r2 r4 q4))
theorem xn(l:jU X (compareOp op) r)(i:jU X (compareOp op') r')(q:PE X a ta)(j:PE X b tb)(n:PE X c tc)
  (m:lastMarks [op,op'] [b,c]=false:=by with_unfolding_all rfl):PT X (.Compare a [op,op'] [b,c] pos) (ni (nq r r' ta tb tc)):=by
 intro f s g H Q I h;refine isTrue_chain (fM (q f s g H _ I h) λv s1 ⟨x,H1,I1,r1,q1⟩=>test_link (fM (j f s1 g H1 _ I1 q1) λu s2 ⟨y,H2,I2,r2,q2⟩=>fM (l f s2 g H2 x y v u _ I2 r1 r2 q2) λd s3 ⟨z,H3,I3,r3,k,e,q3⟩=>?_)) m
 subst e;cases r3;refine wpAny_truthy_bool ?_;cases k with
 |false=>obtain⟨t,p,o⟩:=q3;cases p;exact ite_ff ⟨H3,I3,o⟩
 |true=>refine ite_tt (test_last (fM (n f s3 g H3 _ I3 q3) λw' s4 ⟨z',H4,I4,r4,q4⟩=>fM (i f s4 g H4 y z' u w' _ I4 r2 r4 q4) λd' s5 ⟨z2,H5,I5,r5,k2,e2,q5⟩=>?_));subst e2;cases r5;exact wpAny_truthy_bool ⟨H5,I5,q5⟩
def qg:(sizeLine:Nat)<2 ^ 63:=by rw[sizeLine_eq];decide
def tU:jU X (binaryOp .Add) (λx y H Q=>∃i j,x=.str i/\y=.str j/\i.length+j.length<=sizeLine/\Q (.str (i++j)) H):=by intro k s m H x y v u Q I e f h;obtain⟨i,j,rfl,rfl,d,q⟩:=h;obtain⟨t,rfl⟩:=e;obtain⟨g,rfl⟩:=f;exact add_str (λg l=>⟨.str (i++j),H,I.tok _,⟨_,rfl⟩,q⟩) d
def lG(r:dQ [x] us):∃u,us=[u]/\eT x u:=by
 cases r with
 |cons r1 r2=>cases r2;exact⟨_,rfl,r1⟩
def FD(r:dQ [x,y] us):∃u d,us=[u,d]/\eT x u/\eT y d:=by
 cases r with
 |cons r1 r2=>
  cases r2 with
  |cons r3 r4=>cases r4;exact⟨_,_,rfl,r1,r3⟩
def lp:gF X (.builtin "abs") (λd H Q=>∃i,d=[.int i]/\Q (.int (if i<0 then -i else i)) H):=by intro e s g H d j Q I r h;obtain⟨i,rfl,q⟩:=h;obtain⟨u,rfl,t,rfl⟩:=lG r;exact call_abs_int λu f=>⟨.int (if i<0 then -i else i),H,I.tok _,⟨_,rfl⟩,q⟩
def eA:gF X (.type "str") (λd H Q=>∃i,d=[.int i]/\i.natAbs.log2<1920/\Q (.str (toString i)) H):=by intro f s g H d j Q I r h;obtain⟨i,rfl,e,q⟩:=h;obtain⟨u,rfl,t,rfl⟩:=lG r;exact PySem.P.str_of_int e ⟨.str _,H,I.tok _,⟨_,rfl⟩,q⟩
def Ed(K:W.Frag)(x:V)(H:Hp)(n:Nat):Prop:=
 match x with
 |.str y=>y.length<=sizeLine/\n=y.length
 |.byt y=>y.size<=sizeLine/\n=y.size
 |.ref p=>(∃d,iC K H p d/\n=d.length)\/∃d,i5 K H p d/\n=d.length
 |_=>False
def xE:gF X (.builtin "len") (λf H Q=>∃x n,f=[x]/\Ed X.K x H n/\Q (.int n) H):=by
 intro w s z H f A Q I r h;obtain⟨x,n,rfl,e,q⟩:=h;obtain⟨u,rfl,j⟩:=lG r;have v:=sizeLine_eq;cases x with
 |str y=>obtain⟨t,rfl⟩:=j;obtain⟨hy,d⟩:y.length<=sizeLine/\n=y.length:=e;subst d;exact len_str (by omega) ⟨.int _,H,I.tok _,⟨_,rfl⟩,q⟩
 |byt y=>obtain⟨t,rfl⟩:=j;obtain⟨hy,d⟩:y.size<=sizeLine/\n=y.size:=e;subst d;exact W.len_bytes (by omega) ⟨.int _,H,I.tok _,⟨_,rfl⟩,q⟩
 |ref p=>
  cases j;have d:=e;rcases d with⟨f,g,d⟩|⟨f,g,d⟩
  .subst d;obtain⟨i,m,l,o⟩:=I.list g;have k:=m.length;exact Calls.call_len_list l.isList (by simp only[bu];omega) ⟨.int f.length,H,I.tok _,⟨_,by simp only[bu];rw[k]⟩,q⟩
  .subst d;obtain⟨i,m,l,o⟩:=I.tuple g;have k:=m.length;exact len_tuple l (by simp only[bu];omega) ⟨.int f.length,H,I.tok _,⟨_,by simp only[bu];rw[k]⟩,q⟩
 |_=>exact (e).elim
end
end L2
namespace L2
open PySem PySem.Spec PyProof.Rows
structure uh(h:Heap)(x dx C:Addr)(mA:Str->Option Value):Prop where
 obj:h.get? x=some (W.instObj C dx)
 ns:h.Ns1 dx mA
 ne:dx≠x
def v9{h:Heap}(n:h.Ns1 dx mA):∃c,h.get? dx=some c/\∀name,W.lookIn name c=some (mA name):=by
 obtain⟨o,d,m,i,g,k,_,j⟩:=n;refine⟨o,i,λname=>?_⟩;have e:=j name;unfold nsFind findBy at e;rw[<-Array.find?_toList]at e;unfold W.lookIn;rw[g];dsimp only;split
 .rename_i y q;rw[q]at e;exact congrArg some e
 .rename_i q;rw[q]at e;have a:d.toList.any (·.refKey)=false:=by rw[List.any_eq_false];intro y f;obtain⟨z,t,b⟩:=k y (Array.mem_toList_iff.mp f);simp[DictEntry.refKey,b]
  have l:¬d.toList.any (·.refKey)=true:=by rw[a];exact aH
  rw[aR l];exact congrArg some e
def uh.look(I:uh h x dx C mA):∃a,W.InstAt h x (W.instObj C dx) C (some a)/\∀name,W.lookIn name a=some (mA name):=
 let ⟨a,ho,hl⟩:=v9 I.ns
 ⟨a,⟨I.obj,rfl,rfl,ho⟩,hl⟩
section
variable {prog:Program}{w:World}{A:Around}{E:Vq->Shared->Prop}{s:Sq}{K:W.Frag}{x dx C f:Addr}{mA:Str->Option Value}{name:Str}{v:Vq}
def AW(X:K.In s.heap)(I:uh s.heap x dx C mA)(b:W.plainGet K C name=true)(g:W.hasDictIn K C=true)
  (e:W.findIn K (.ref C) name=some none) (c:mA name=some v) (a:W.handedIn v=true) (h:Q v {s with toks:=s.toks+1}) :
  wpAny (model prog w) A (getAttr (.ref x) name expr) Q E s:=by
 obtain⟨i,J,d⟩:=I.look;exact W.get_value X J (W.plainGet_of b).1 (W.findObj_own g e rfl (by rw[d,c])) a h
def wQ(X:K.In s.heap)(I:uh s.heap x dx C mA)(a:W.plainGet K C name=true)
  (e:W.findIn K (.ref C) name=some (some (.ref f))) (d:W.isFn K (.ref f)=true) (b:mA name=none) (h:Q (.ref f,[.ref x]) s) :
  wpAny (model prog w) A (getMethod (.ref x) name pl) Q E s:=by
 obtain⟨g,J,c⟩:=I.look;exact W.method_fn X J (W.plainGet_of a).1 (W.plainGet_of a).2 e (beq_iff_eq.mp d) (by show (W.lookIn name g).map (·.isSome)=some false;rw[c,b];rfl) h
def Br(X:K.In s.heap)(I:uh s.heap x dx C mA)
  (n:W.findIn K (.ref C) "__setattr__" = some (some (.builtin "object.__setattr__"))) (t:W.plainOver K C=true) (l:W.takerIn K C name=some none) (r:W.hasDictIn K C=true)
  (hw:PySem.Within mA ns) (p:ns.length<=sizeLine)
  (h:∀d,uh d x dx C (λy=>if y=name then some v else mA y)->Heap.SameBut dx s.heap d->Q () {s with heap:=d,toks:=s.toks+2}) :
  wpAny (model prog w) A (setAttr (.ref x) name v) Q E s:=by
 obtain⟨D,J,B⟩:=I.look;refine W.set_plain X J n (W.osa_open X J t l λb=>?_);obtain⟨u,q,j⟩:=W.any_some r;have k:=I.obj;refine ao (ak (ao (ao (wpAny_loadPart k (ao (W.Looks.here (W.looks_clsIn X q) ?_))))));rw[j];refine ak (ao (ak (ao ?_)));refine wpAny_nsSet1 I.ns λd c a=>?_;obtain⟨z,m,o,i,e,g⟩:=c.count (PySem.Within.cons name v hw);refine ao (wpAny_lookBehind i (by rw[e];exact pastItsLine_dict (aN g (by rw[az];omega))) ?_);exact ak (h _ ⟨(a.2 _ (Ne.symm I.ne)).trans I.obj,c,I.ne⟩ a)
def xM(X:K.In s.heap)(b:W.makesIn K C=true)
  (c:W.findIn K (.ref C) "__init__" = some (some (.ref f))) (e:W.typeIn K (.ref f)=some (.type "function"))
  (h:codeAny (model prog w) (A.under (.builtin "type.__call__" ⟨.ref C::vs,kw⟩)) (.call (.ref f) ⟨.ref (s.heap.objs.size+1)::vs,kw⟩) (W.InitBack (s.heap.objs.size+1) R)
   {s with heap:=(s.heap.push W.emptyDict).push (W.instObj C s.heap.objs.size)}) :
  codeAny (model prog w) A (.call (.ref C) ⟨vs,kw⟩) R s:=by
 obtain⟨j,g,d,t,i⟩:=s;exact W.make_core (W.makes_of X b) (W.looks_findIn X c) (λa=>W.bind_fn X a e) (.inl rfl) h
end
def jR(f:Str)(v:V):List (Str×V)->List (Str×V)
 |[]=>[(f,v)]
 | (g,x)::r=>if g=f then (g,v)::r else (g,x)::jR f v r
theorem mC f g v:∀fs:List (Str×V),(jR f v fs).lookup g=if g=f then some v else fs.lookup g
 |[]=>by
  show List.lookup g [(f,v)]=_;by_cases h:g=f
  .have a:=beq_iff_eq.mpr h;simp only[List.lookup,a,aQ h]
  .have a:=beq_eq_false_iff_ne.mpr h;simp only[List.lookup,a,aR h]
 | (k,x)::r=>by
  have c:=mC f g v r;rw[show jR f v ((k,x)::r)=(if k=f then (k,v)::r else (k,x)::jR f v r) from rfl];by_cases b:k=f
  .rw[aQ b];by_cases h:g=k
   .have a:=beq_iff_eq.mpr h;simp only[List.lookup,a,aQ (h.trans b)]
   .have a:=beq_eq_false_iff_ne.mpr h;simp only[List.lookup,a,aR (λe:g=f=>h (e.trans b.symm))]
  .rw[aR b];by_cases h:g=k
   .have a:=beq_iff_eq.mpr h;simp only[List.lookup,a,aR (λe:g=f=>b (h.symm.trans e))]
   .have a:=beq_eq_false_iff_ne.mpr h;simp only[List.lookup,a];exact c
theorem l5 f v:∀fs:List (Str×V),f∈(jR f v fs).map (·.1)/\∀g,g∈fs.map (·.1)->g∈(jR f v fs).map (·.1)
 |[]=>⟨by simp[jR],λg h=>by simp at h⟩
 | (k,x)::r=>by
  obtain⟨c,b⟩:=l5 f v r;rw[show jR f v ((k,x)::r)=(if k=f then (k,v)::r else (k,x)::jR f v r) from rfl];by_cases a:k=f
  .rw[aQ a];subst a;exact⟨by simp,λg h=>by simpa using h⟩
  .rw[aR a];refine⟨?_,λg h=>?_⟩
   .rw[bw];exact bj _ c
   .rw[bw]at h ⊢;rcases aF.mp h with e|e
    .exact aF.mpr (.inl e)
    .exact bj _ (b g e)
theorem mF f v:∀fs:List (Str×V),(jR f v fs).length<=fs.length+1
 |[]=>by simp[jR]
 | (k,x)::r=>by
  have b:=mF f v r;rw[show jR f v ((k,x)::r)=(if k=f then (k,v)::r else (k,x)::jR f v r) from rfl];by_cases a:k=f
  .rw[aQ a,az,az];omega
  .rw[aR a,az,az];omega
def p0.some_of(r:p0 (some v) o):∃u,o=some u/\eT v u:=by
 cases o with
 |none=>exact (r).elim
 |some u=>exact⟨u,rfl,r⟩
def p0.none_of(r:p0 none o):o=none:=by
 cases o with
 |none=>rfl
 |some u=>exact (r).elim
def vU(r:eT v u):W.handedIn u=true:=by
 cases v with
 |non=>cases (r);rfl
 |bl b=>cases (r);rfl
 |int i=>obtain⟨t,e⟩:=(r);cases e;rfl
 |str x=>obtain⟨t,e⟩:=(r);cases e;rfl
 |byt b=>obtain⟨t,e⟩:=(r);cases e;rfl
 |flt b=>obtain⟨t,e⟩:=(r);cases e;rfl
 |ref a=>cases (r);rfl
 |ty n=>cases (r);rfl
section
variable {P:Program}{w:World}{H H':Hp}{h h':Heap}{a C dx:Addr}{fs fs':List (Str×V)}
def m4(c:md P w H h)(e:H a=some (.ins C dx fs)):∃b,uh h a dx C b/\(∀f,p0 (fs.lookup f) (b f))/\PySem.Within b (fs.map (·.1))/\fs.length<=1000/\H dx=some (.own a):=by obtain⟨d,z,ne,g,b,n,r,q⟩:=(c a _ e);exact⟨b,⟨g,n,ne⟩,r,q,z,d⟩
end
structure oX(K:W.Frag)(C:Addr):Prop where
 pg:W.plainGet K C Str.empty=true
 hd:W.hasDictIn K C=true
 po:W.plainOver K C=true
 sa:W.findIn K (.ref C) "__setattr__" = some (some (.builtin "object.__setattr__"))
def oX.get{K:W.Frag}(c:oX K C) f:W.plainGet K C f=true:=c.pg
def gY(K:W.Frag)(C:Addr)(f:Str):Prop:=W.findIn K (.ref C) f=some none
def gY.taker{K:W.Frag}(n:gY K C f):W.takerIn K C f=some none:=by unfold W.takerIn;rw[show W.findIn K (.ref C) f=some none from n];rfl
structure Aj(K:W.Frag)(C:Addr)(m:Str)(f:Addr):Prop where
 at_:W.findIn K (.ref C) m=some (some (.ref f))
 fn:W.isFn K (.ref f)=true
 kp:W.keepIn K (.ref f)=true
section
variable {X:Cx}{cV:List (Addr×Obj)}{σ:St}{H:Hp}{s:Sq}{a C dx:Addr}{fs:List (Str×V)}{f:Str}{v:V}{A:Around}{E:Vq->Shared->Prop}
def ub(I:dD X cV σ H s)(e:H a=some (.ins C dx fs))(c:oX X.K C)(n:gY X.K C f)(l:fs.lookup f=some v)
  (h:∀u g,dD X cV σ H g->eT v u->Q u g):wpAny (model X.prog X.w) A (getAttr (.ref a) f b) Q E s:=by
 obtain⟨j,O,r,_,_,_⟩:=m4 I.hok e;obtain⟨u,i,d⟩:=p0.some_of (by rw[<-l];exact r f);exact AW I.kIn O (c.get f) c.hd n i (vU d) (h u _ (I.tok _) d)
def tq(I:dD X cV σ H s)(e:H a=some (.ins C dx fs))(c:oX X.K C)(k:Aj X.K C m g)(l:fs.lookup m=none)
  (h:Q (.ref g,[.ref a]) s):wpAny (model X.prog X.w) A (getMethod (.ref a) m pl) Q E s:=by
 obtain⟨d,O,r,_,_,_⟩:=m4 I.hok e;have b:=p0.none_of (by rw[<-l];exact r m);exact wQ I.kIn O (c.get m) k.at_ k.fn b h
def t6(I:dD X cV σ H s)(e:H a=some (.ins C dx fs))(c:oX X.K C)(n:gY X.K C f)(J:fs.length<1000)(B:eT y u)
  (h:∀i,dD X cV σ (fT H a (.ins C dx (jR f y fs))) i->Q () i):wpAny (model X.prog X.w) A (setAttr (.ref a) f u) Q E s:=by
 obtain⟨D,O,r,k,_,j⟩:=m4 I.hok e;have t:(fs.map (·.1)).length<=sizeLine:=by rw[aw,sizeLine_eq];omega
 refine Br I.kIn O c.sa c.po n.taker c.hd k t λp d F=>h _ ?_;have m:∃o,p.get? dx=some o:=let ⟨o,_,_,e',_⟩:=d.ns;⟨o,e'⟩;refine I.write (by rw[e];exact True.intro) (.inr j) (λb q l z=>(F.2 b l).trans z) m ?_;refine⟨by rw[dB O.ne];exact j,?_,O.ne,d.obj,_,d.ns,λg=>?_,λg x=>?_⟩
 .have:=mF f y fs;omega
 .rw[mC];by_cases q:g=f
  .rw[aQ q,aQ q];exact B
  .rw[aR q,aR q];exact r g
 .by_cases q:g=f
  .rw[q];exact (l5 f y fs).1
  .refine (l5 f y fs).2 g (k g λz=>x ?_);show (if g=f then some u else D g)=none;rw[aR q];exact z
def dD.made(I:dD X cV σ H s):dD X cV σ (fT (fT H s.heap.objs.size (.own (s.heap.objs.size+1))) (s.heap.objs.size+1) (.ins C s.heap.objs.size []))
  {s with heap:=(s.heap.push W.emptyDict).push (W.instObj C s.heap.objs.size)}:=by
 have c:(s.heap.push W.emptyDict).get? s.heap.objs.size=some W.emptyDict:=ar s.heap rfl;have i:((s.heap.push W.emptyDict).push (W.instObj C s.heap.objs.size)).get? (s.heap.objs.size+1)=some (W.instObj C s.heap.objs.size):=by have:=ar (s.heap.push W.emptyDict) (o:=W.instObj C s.heap.objs.size) rfl;rwa [Heap.size_push]at this
 have g:(s.heap.push W.emptyDict).Ns s.heap.objs.size (λ_=>none):=⟨W.emptyDict,#[],_,c,rfl,(λe j=>absurd j (by simp)),λ_=>rfl⟩;have h:=I.laid (o:=.own (s.heap.objs.size+1)) (t':=s.toks) (λb u q=>ae _ q) (aK _) ⟨_,c⟩;refine h.laid (λb u q=>ae _ q) (Nat.le_of_eq (Heap.size_push _ _)) ?_;have ne:s.heap.objs.size≠s.heap.objs.size+1:=aM (bx _);refine⟨by rw[dB ne,du],bA _,ne,i,λ_=>none,(Heap.Ns1.of_empty g).at λo q=>ae _ q,λ_=>True.intro,λy d=>absurd rfl d⟩
def zO(c:attributeBase e f env (eval e env)=eval e env)
  (h:wpAny (model prog w) A (eval e env) (λo b=>wpAny (model prog w) A (getAttr o f true) Q E b) E s):wpAny (model prog w) A (eval (.Attribute e f pos) env) Q E s:=
 Attribute_any_ h (by rw[arm_eval_Attribute,c])
end
def C6(K:W.Frag)(e:TE)(f:Str):TE:=λd H Q=>e d H λx b=>∃a C c fs v,x=.ref a/\b a=some (.ins C c fs)/\oX K C/\gY K C f/\fs.lookup f=some v/\Q v b
def C2(K:W.Frag)(h e:TE)(f:Str):TS:=λD b H=>e b H λy g=>h b g λx c=>∃a C d fs,x=.ref a/\c a=some (.ins C d fs)/\oX K C/\gY K C f/\fs.length<1000/\
 D.nx b (fT c a (.ins C d (jR f y fs)))
section
variable {X:Cx}{o e value:Expr}{f:Str}{pos pos' tpos:Pos}{ta tv:TE}
def Eb(k:PE X e ta)(d:attributeBase e f X.env (eval e X.env)=eval e X.env):PE X (.Attribute e f pos) (C6 X.K ta f):=by intro i s j H Q I h;refine zO d (fM (k i s j H _ I h) λu s1 ⟨x,H1,I1,rx,a,C,dx,fs,v,ex,ea,c,n,l,q⟩=>?_);subst ex;obtain rfl:u=Value.ref a:=rx;exact ub I1 ea c n l λp m b g=>⟨v,H1,b,g,q⟩
def zd(k:PE X o ta)(i:PE X value tv)(g:swapsWith value (some (.Attribute o f pos')) pos.line X.env=pure false):PS X (.Assign [.Attribute o f pos'] value pos) (C2 X.K ta tv f):=by intro d s b H D I h;refine plainObj_wpAny_Assign_Attribute (fM (i d s b H _ I h) λu s1 ⟨y,H1,I1,ry,q⟩=>fM (k d s1 b H1 _ I1 q) λov s2 ⟨x,H2,I2,rx,a,C,dx,fs,ex,ea,c,n,l,q2⟩=>?_) g;subst ex;obtain rfl:ov=Value.ref a:=rx;exact t6 I2 ea c n l ry λm j=>⟨b,_,j,q2⟩
end
section
variable {X:Cx}{cV:List (Addr×Obj)}{σ:St}{H:Hp}{s:Sq}{A:Around}{E:Vq->Shared->Prop}{Q:Vq->Shared->Prop}{c:Vq}{b:Bool}
inductive j0(K:W.Frag)(H:Hp):V->Value->Prop where
 |non:j0 K H .non (.type "NoneType")
 |bl (x:Bool):j0 K H (.bl x) (.type "bool")
 |int (i:Int):j0 K H (.int i) (.type "int")
 |str (x:Str):j0 K H (.str x) (.type "str")
 |flt (x:UInt64):j0 K H (.flt x) (.type "float")
 |lst {a:Addr} {xs:List V} (e:H a=some (.lst xs)):j0 K H (.ref a) (.type "list")
 |frz {a:Addr} {o:Obj} {xs:List V} (e:H a=some (.frz o (.lst xs))):j0 K H (.ref a) (.type "list")
 |tup {a:Addr} {xs:List V} (e:H a=some (.tup xs)):j0 K H (.ref a) (.type "tuple")
 |dK {a:Addr} {kvs:List (lu×V)} (e:H a=some (.dK kvs)):j0 K H (.ref a) (.type "dict")
 |dT {a:Addr} {kvs:List (List lu×V)} (e:H a=some (.dT kvs)):j0 K H (.ref a) (.type "dict")
 |ins {a C dx:Addr} {fs:List (Str×V)} (e:H a=some (.ins C dx fs)) (cl:oX K C) (ha:W.findIn K (.ref C) "__class__" = some (some (.builtin "object.__class__")))
   (hn:W.specialIn K (.builtin "object.__class__") "__get__" = some (some (.builtin "getset_descriptor.__get__"))) (htk:W.takesIn K (.builtin "object.__class__")=some true)
   (hm:W.mroIn K C (.type "object")=some true):j0 K H (.ref a) (.ref C)
def wk(I:dD X cV σ H s)(d:eT x u)(l:j0 X.K H x t)(e:W.kitOne X.K t c=some b)(h:∀m,Q (.bool b) {s with toks:=m}) :
  wpAny (model X.prog X.w) A (call (.builtin "isinstance") [u,c]) Q E s:=by
 cases l with
 |non=>cases (d);exact W.kia_one W.kitx_none I.kIn True.intro e (λz=>nomatch z) h
 |bl y=>cases (d);exact W.kia_one W.kitx_bool I.kIn True.intro e (λz=>nomatch z) h
 |int i=>obtain⟨t,q⟩:=(d);cases q;exact W.kia_one W.kitx_int I.kIn True.intro e (λz=>nomatch z) h
 |str y=>obtain⟨t,q⟩:=(d);cases q;exact W.kia_one W.kitx_str I.kIn True.intro e (λz=>nomatch z) h
 |flt y=>obtain⟨t,q⟩:=(d);cases q;exact W.kia_one W.kitx_float I.kIn True.intro e (λz=>nomatch z) h
 |@lst a j ea=>cases (d);obtain⟨_,_,n,_,f⟩:=(I.hok a _ ea);exact W.kia_one W.kitx_list I.kIn ⟨_,f,rfl⟩ e (λz=>nomatch z) h
 |@frz a ob j ea=>cases (d);obtain⟨_,_,_,n,_,f⟩:=(I.hok a _ ea);exact W.kia_one W.kitx_list I.kIn ⟨_,f,rfl⟩ e (λz=>nomatch z) h
 |@tup a j ea=>cases (d);obtain⟨_,_,_,p⟩:=(I.hok a _ ea);obtain⟨o,f,g,_⟩:=p;exact W.kia_one W.kitx_tuple I.kIn ⟨o,f,g⟩ e (λz=>nomatch z) h
 |@dK a kvs ea=>cases (d);obtain⟨_,_,v,_,p⟩:=(I.hok a _ ea);obtain⟨o,r,k,f,g,_⟩:=p;exact W.kia_one W.kitx_dict I.kIn ⟨o,f,g.1⟩ e (λz=>nomatch z) h
 |@dT a kvs ea=>cases (d);obtain⟨_,_,j,_,o,r,k,f,g,_⟩:=(I.hok a _ ea);exact W.kia_one W.kitx_dict I.kIn ⟨o,f,g.1⟩ e (λz=>nomatch z) h
 |@ins a C dx fs ea cl ha hn htk hm=>cases (d);obtain⟨D,O,_⟩:=m4 I.hok ea;obtain⟨B,J,_⟩:=O.look;exact W.kia_one (W.kitx_own (cl.get _) cl.hd ha hn htk hm) I.kIn J e (λz=>nomatch z) h
end
end L2
namespace L2
open PySem PySem.Spec PyProof.Rows
structure fw(k:Nat)(A:Around):Prop where
 hd:A.handled=none
 dp:A.depth+3*k+5<recursionLimit
 un:A.units+16*k+200<cLine
def fw.mono(r:fw k A)(h:j<=k):fw j A:=⟨r.hd,by have:=r.dp;omega,by have:=r.un;omega⟩
def fw.deeper(r:fw (k+1) A) env:fw k (A.deeper env):=⟨r.hd,by have:=r.dp;show A.depth+1+3*k+5<_;omega,by have:=r.un;show A.units+3+16*k+200<_;omega⟩
def sQ{A:Around}:(A.under (.builtin "type.__call__" ⟨.ref C::us,kw⟩)).depth=A.depth+1:=by first|rfl|simp[Around.under,Code.weight,Code.isCreation,Code.isGuard,Code.isCaller,Code.frames,Code.isFrame,guardIds]
def tN{A:Around}:(A.under (.builtin "type.__call__" ⟨.ref C::us,kw⟩)).units=A.units+1:=by first|rfl|simp[Around.under,Code.cUnits,Code.frames,Code.isFrame]
def fw.make(r:fw (k+1) A) C us kw:fw k (A.under (.builtin "type.__call__" ⟨.ref C::us,kw⟩)):=⟨r.hd,by have:=r.dp;rw[sQ];omega,by have:=r.un;rw[tN];omega⟩
def fw.depth(r:fw k A):A.depth<recursionLimit:=by have:=r.dp;omega
def kD:TA:=λ_ H Q=>Q [] H
def jm(e:TE)(d:TA):TA:=λa H Q=>e a H λx c=>d a c λf b=>Q (x::f) b
section
variable {X:Cx}{e:Expr}{es:List Expr}{te:TE}{t:TA}{pos:Pos}
def my:PA X [] kD:=λ_ _ _ _ H Q I h=>Calls.spliced_nil ⟨[],H,I,.nil,h⟩
def jG(d:PE X e te)(hr:PA X es t)(c:starEach (e::es) X.env=(false,eval e X.env)::starEach es X.env:=by rfl):PA X (e::es) (jm te t):=by intro pos a s b H Q I h;rw[c];refine Calls.spliced_cons (fM (d a s b H _ I h) λu s1 ⟨x,H1,I1,r1,q1⟩=>?_);exact fM (hr pos a s1 b H1 _ I1 q1) λus s2 ⟨xs,H2,I2,r2,q2⟩=>⟨x::xs,H2,I2,.cons r1 r2,q2⟩
def Ex(t:TA):TE:=λc H Q=>t c H λb a=>b.length<=sizeLine/\∀p,a p=none->Q (.ref p) (fT a p (.tup b))
def Dz(t:TA):TE:=λc H Q=>t c H λb a=>b.length<=sizeLine/\∀p,a p=none->Q (.ref p) (fT a p (.lst b))
def DX{x1}(h:PA X es t):PE X (.Tuple es x1 pos) (Ex t):=by intro a s d H Q I c;refine wpAny_Tuple_spliced (fM (h pos a s d H _ I c) λus s1 ⟨xs,H1,I1,r,z,q⟩=>⟨by rw[<-r.length];exact z,?_⟩);have f:=I1.hok.fresh (aK _);refine⟨.ref s1.heap.objs.size,fT H1 s1.heap.objs.size (.tup xs),I1.laid (λb u e=>ae _ e) (aK _) ?_,rfl,q _ f⟩;exact⟨z,us,r,⟨_,ar _ rfl,rfl,_,rfl,rfl⟩⟩
def Dl(h:PA X es t):PE X (.List es pos) (Dz t):=by intro a s d H Q I c;refine wpAny_List_spliced (fM (h pos a s d H _ I c) λus s1 ⟨xs,H1,I1,r,z,q⟩=>⟨by rw[<-r.length];exact z,?_⟩);have f:=I1.hok.fresh (aK _);refine⟨.ref s1.heap.objs.size,fT H1 s1.heap.objs.size (.lst xs),I1.laid (λb u e=>ae _ e) (aK _) ?_,rfl,q _ f⟩;exact⟨z,us,0,r,ar _ rfl⟩
end
abbrev Sp:=List V->Hp->VK->XK->Prop
abbrev Bd:=List Env->Hp->Shared->XK->Value->Shared->Prop
structure t5(P:Program)(w:World)(K:W.Frag)(mg:Str->Option Value)(base:Heap)(A:Around)(outer:List Env)(s:Sq)(H:Hp):Prop where
 frames:A.frames=some outer
 mod:Mod K mg base
 bs:∀b o,base.get? b=some o->s.heap.get? b=some o/\H b=none
 bsz:base.objs.size<=s.heap.objs.size
 funs:s.heap.FunFrames base outer
 frf:∀b∈wA outer,H b=none
 hok:md P w H s.heap
 bare:AllBare s.gens
 tab:xq base H
def CE(a:List Env)(P:Program)(w:World)(H:Hp)(s:Sq)(Q:VK)(u:Vq)(b:Sq):Prop:=∃v c,b.os=s.os/\AllBare b.gens/\Un (wA a) [] H c s.heap b.heap/\md P w c b.heap/\eT v u/\Q v c
def CR(c:Bd)(a:List Env)(P:Program)(w:World)(H:Hp)(s:Sq)(Q:VK)(E:XK)(r:Result)(b:Sq):Prop:=
 match r with
 |.ok (.ret u)=>CE a P w H s Q u b
 |.ok _=>False
 |.error e=>c a H s E e b
structure iY(P:Program)(w:World)(K:W.Frag)(mg:Str->Option Value)(base:Heap)(CX:Bd)(k:Nat)(f:Addr)(fd:FuncData)(ps:List Str)(sp:Sp):Prop where
 len:∀vs H Q E,sp vs H Q E->vs.length=ps.length
 run:∀(A:Around) (outer:List Env) (s:Sq) (H:Hp) (args:Args) (us:List Vq) (vs:List V) (Q:VK) (E:XK),fw k A->t5 P w K mg base A outer s H->BindsTo s fd args (ps.zip us)->dQ vs us->sp vs H Q E->
  codeAny (model P w) A (.call (.ref f) args) (CR CX outer P w H s Q E) s
def iY.mono{K:W.Frag}(F:iY P w K mg base CX j f fd ps sp)(h:j<=k) :
  iY P w K mg base CX k f fd ps sp:=⟨F.len,λA a s H b d c Q E hr=>F.run A a s H b d c Q E (hr.mono h)⟩
def iY.imp{K:W.Frag}(F:iY P w K mg base CX k f fd ps sp)
  (h:∀vs H Q E,sp' vs H Q E->sp vs H Q E):iY P w K mg base CX k f fd ps sp':=
 ⟨λvs H Q E q=>F.len vs H Q E (h _ _ _ _ q),λA a s H b i vs Q E hr g c d e=>F.run A a s H b i vs Q E hr g c d (h _ _ _ _ e)⟩
def t5.make{K:W.Frag}(e:t5 P w K mg base A outer s H) C us kw :
  t5 P w K mg base (A.under (.builtin "type.__call__" ⟨.ref C::us,kw⟩)) outer s H:=⟨by first|exact e.frames|(simpa[Around.under,Code.envs,Code.isFrame,pushEnvs] using e.frames),e.mod,e.bs,e.bsz,e.funs,e.frf,e.hok,e.bare,e.tab⟩
section
variable {X:Cx}{cV:List (Addr×Obj)}{σ:St}{H:Hp}{s s':Sq}
def dD.env0(I:dD X cV σ H s):t5 X.prog X.w X.K X.mg X.base X.A X.stack s H:=⟨I.ok.frames,I.ok.mod,I.bs,aN I.ok.bsz I.sz,I.stack,I.stkFree,I.hok,I.bare,I.tab⟩
def dD.after(I:dD X cV σ H s)(h:CE X.stack X.prog X.w H s Q u s'):EP X cV σ Q u s':=by obtain⟨v,f,i,a,un,c,r,q⟩:=h;obtain⟨j,g,d,t,e⟩:=s';obtain rfl:e=s.os:=i;exact⟨v,f,I.call un c a (λb z=>absurd z (by simp)),r,q⟩
end
def pN(d:Sp)(a:List V)(E:XK)(t:TA):TE:=λe H Q=>t e H λc b=>d (c++a) b Q E
def oQ(C:Addr)(m:Str)(h:Sp)(b:List V)(E:XK)(i:TE)(t:TA):TE:=λd H Q=>i d H λx c=>∃a e fs,x=.ref a/\c a=some (.ins C e fs)/\fs.lookup m=none/\
 t d c λg f=>h (x::(g++b)) f Q E
def vy(C:Addr)(f:Sp)(c:List V)(E:XK)(t:TA):TE:=λg H Q=>t g H λe b=>∀x a,b x=none->b a=none->a≠x->
 f (.ref x::(e++c)) (fT (fT b a (.own x)) x (.ins C a [])) (λv d=>v=.non/\Q (.ref x) d) E
def jX(K:W.Frag)(fd:FuncData)(b:List Str)(c:List Vq):Prop:=∀(s:Sq) (a:List Vq),K.In s.heap->(a++c).length=b.length->BindsTo s fd ⟨a,[]⟩ (b.zip (a++c))
def jX.all{K:W.Frag}(h:∀us:List Vq,us.length=ps.length->bindArgs fd ⟨us,[]⟩=pure (ps.zip us)):jX K fd ps []:=λs us _ a=>by rw[bB]at a ⊢;exact .of_eq (h us a)
def mh(d:Bd)(X:Cx)(E:XK):Prop:=∀(b:List (Addr×Obj)) (c:St) (H:Hp) (s:Sq) (e:Vq) (a:Sq),dD X b c H s->d X.stack H s E e a->X.xe e a
section
variable {X:Cx}{CX:Bd}{k:Nat}{f C:Addr}{fd:FuncData}{ps:List Str}{sp:Sp}{dvs:List V}{ds:List Vq}{E:XK}{x m:Str}{p pos apos:Pos}{e o:Expr}{es:List Expr}{ta:TE}{t:TA}
theorem yD(F:iY X.prog X.w X.K X.mg X.base CX k f fd ps sp)(hr:fw k X.A)(d:jX X.K fd ps ds)(i:dQ dvs ds)(c:mh CX X E)
  (I:dD X cV σ H s) (r:dQ vs us) (h:sp (vs++dvs) H Q E):wpAny (model X.prog X.w) X.A (call (.ref f) us) (EP X cV σ Q) X.xe s:=by
 have b:=r.append i;have g:(us++ds).length=ps.length:=by rw[<-b.length];exact F.len _ _ _ _ h
 refine wpAny_call (codeAny_mono (F.run X.A X.stack s H ⟨us,[]⟩ (us++ds) (vs++dvs) Q E hr I.env0 (d s us I.kIn g) b h) λr j a=>?_);cases r with
 |error e=>exact c cV σ H s e j I a
 |ok fl=>
  cases fl with
  |ret u=>exact I.after a
  |next=>exact False.elim a
  |brk=>exact False.elim a
  |cont=>exact False.elim a
def Ac(F:iY X.prog X.w X.K X.mg X.base CX k f fd ps sp)(hr:fw k X.A)(v:Gl X x)(j:X.mg x=some (.ref f))(l:W.keepIn X.K (.ref f)=true)(d:jX X.K fd ps ds)(g:dQ dvs ds)(c:mh CX X E)
  (u:PA X (e::es) t) (b:(x==("__debug__" : Str))=false:=by decide) (i:starEach (e::es) X.env=(false,eval e X.env)::starEach es X.env:=by rfl) (a:(backTo pos (starEach es X.env)).any (·.1)=false:=by rfl) :
  PE X (.Call (.Name x p) (e::es) [] pos) (pN sp dvs E t):=by
 intro n s y H Q I h;refine wpAny_Call_Name_kw (pY I v j ?_ b);refine W.callWith_K I.ok.mod.kin l (fM (u pos n s y H _ I h) λus s1 ⟨vs,H1,I1,r,q⟩=>⟨I1.kIn,?_⟩) i a;exact yD F hr d g c I1 r q
def yH(v:PE X o ta)(c:oX X.K C)(b:Aj X.K C m f)(F:iY X.prog X.w X.K X.mg X.base CX k f fd ps sp)(hr:fw k X.A)(g:jX X.K fd ps ds)(n:dQ dvs ds)(d:mh CX X E)
  (j:eval (.Call (.Attribute o m apos) [] [] pos) X.env=(do
   let ov <-eval o X.env
   standAt apos.atName
   let (f,first) <-holding [ov] (getMethod ov m pl)
   callWith pos f first (backTo pos (starEach [] X.env)) (backToKw pos (keywordEach [] X.env))):=by rfl) :
  PE X (.Call (.Attribute o m apos) [] [] pos) (oQ C m sp dvs E ta kD):=by
 intro i s r H Q I h;refine W.methodCall_KW (fM (v i s r H _ I h) λu s1 ⟨x,H1,I1,rx,a,dx,fs,ex,ea,l,q⟩=>?_) j;subst ex;obtain rfl:u=Value.ref a:=rx;refine tq I1 ea c b l ?_;exact W.callWith_K0 I1.kIn b.kp (yD (vs:=[.ref a]) F hr g n d I1 (.cons rfl .nil) q)
structure Mk(K:W.Frag)(C f:Addr):Prop where
 makes:W.makesIn K C=true
 init:W.findIn K (.ref C) "__init__" = some (some (.ref f))
 fn:W.isFn K (.ref f)=true
 kp:W.keepIn K (.ref C)=true
theorem wR(M:Mk X.K C f)(F:iY X.prog X.w X.K X.mg X.base CX k f fd ps sp)(hr:fw (k+1) X.A)(i:jX X.K fd ps ds)(l:dQ dvs ds)
  (g:mh CX X E) (I:dD X cV σ H s) (r:dQ vs us)
  (h:∀x dx,H x=none->H dx=none->dx≠x->sp (.ref x::(vs++dvs)) (fT (fT H dx (.own x)) x (.ins C dx [])) (λv y=>v=.non/\Q (.ref x) y) E) :
  wpAny (model X.prog X.w) X.A (call (.ref C) us) (EP X cV σ Q) X.xe s:=by
 have c:=h (s.heap.objs.size+1) s.heap.objs.size (I.hok.fresh (bC _)) (I.hok.fresh (aK _)) (aM (bx _));have b:=dD.made (C:=C) I;have d:dQ (V.ref (s.heap.objs.size+1)::(vs++dvs)) (Value.ref (s.heap.objs.size+1)::(us++ds)):=.cons rfl (r.append l);have q:(Value.ref (s.heap.objs.size+1)::us++ds).length=ps.length:=by have e:=d.length;rw[F.len _ _ _ _ c]at e;exact e.symm
 refine wpAny_call (xM I.kIn M.makes M.init (beq_iff_eq.mp M.fn) (codeAny_mono (F.run _ X.stack _ _ ⟨Value.ref (s.heap.objs.size+1)::us,[]⟩ (Value.ref (s.heap.objs.size+1)::(us++ds)) _ _ E (hr.make C us [])
  (b.env0.make C us []) (i _ (Value.ref (s.heap.objs.size+1)::us) b.kIn q) d c) λr n a=>?_))
 cases r with
 |error e=>exact g cV σ _ _ e n b a
 |ok fl=>
  cases fl with
  |ret u=>obtain⟨v,j,J,D,z,B⟩:=b.after a;subst z;exact⟨D,⟨V.ref (s.heap.objs.size+1),j,J,rfl,B⟩⟩
  |next=>exact False.elim a
  |brk=>exact False.elim a
  |cont=>exact False.elim a
def Af(M:Mk X.K C f)(F:iY X.prog X.w X.K X.mg X.base CX k f fd ps sp)(hr:fw (k+1) X.A)(u:Gl X x)(j:X.mg x=some (.ref C))(d:jX X.K fd ps ds)(g:dQ dvs ds)(c:mh CX X E)
  (n:PA X (e::es) t) (b:(x==("__debug__" : Str))=false:=by decide) (i:starEach (e::es) X.env=(false,eval e X.env)::starEach es X.env:=by rfl) (a:(backTo pos (starEach es X.env)).any (·.1)=false:=by rfl) :
  PE X (.Call (.Name x p) (e::es) [] pos) (vy C sp dvs E t):=by
 intro l s v H Q I h;refine wpAny_Call_Name_kw (pY I u j ?_ b);refine W.callWith_K I.ok.mod.kin M.kp (fM (n pos l s v H _ I h) λus s1 ⟨vs,H1,I1,r,q⟩=>⟨I1.kIn,?_⟩) i a;exact wR M F hr d g c I1 r q
end
structure fB(N P:List Str)(sc:Scope):Prop where
 kind:sc.kind=.function
 co:sc.isCoroutine=false
 gen:sc.isGenerator=false
 nd:N.Nodup
 pre:N.take P.length=P
 par:∀x∈P,sc.names.lookup x=some .local\/sc.names.lookup x=some .cell
 nofree:∀y∈sc.names,y.2≠.free
theorem pk{kindOf:Str->Option NameKind}:∀{binds} {m},(∀v,(x,v)∉binds)->bindL kindOf binds m x=m x
 |[],_,_=>rfl
 | (n,v)::r,m,h=>by
  unfold bindL;rw[pk λw hw=>h w (bj _ hw)];split
  .have:x≠n:=by rintro rfl;exact h v bh
   simp[this]
  .rfl
theorem pG{kindOf:Str->Option NameKind}:∀{binds} {m},(∀v,(x,v)∉binds)->bindC kindOf binds m x=m x
 |[],_,_=>rfl
 | (n,v)::r,m,h=>by
  unfold bindC;rw[pG λw hw=>h w (bj _ hw)];split
  .rfl
  .have:x≠n:=by rintro rfl;exact h v bh
   simp[this]
theorem pz{kindOf:Str->Option NameKind}:∀{P:List Str} {vs:List Vq} {i:Nat} {m:Str->Option Value},P.Nodup->P[i]? = some x->vs[i]? = some v->kindOf x=some .local->
  bindL kindOf (P.zip vs) m x=some v
 |[],_,_,_,_,h,_,_=>by simp at h
 |_::_,[],_,_,_,_,h,_=>by simp at h
 |p::P,w::vs,0,m,nd,h1,h2,hk=>by simp at h1 h2;subst h1;subst h2;show bindL kindOf ((p,w)::P.zip vs) m p=_;unfold bindL;rw[pk λv a=>(bD.mp nd).1 (aW a).1,aQ hk];simp
 |p::P,w::vs,i+1,m,nd,h1,h2,hk=>by unfold bindL;exact pz (bD.mp nd).2 (by simpa using h1) (by simpa using h2) hk
theorem pD{kindOf:Str->Option NameKind}:∀{P:List Str} {vs:List Vq} {i:Nat} {m:Str->Option Value},P.Nodup->P[i]? = some x->vs[i]? = some v->kindOf x≠some .local->
  bindC kindOf (P.zip vs) m x=some v
 |[],_,_,_,_,h,_,_=>by simp at h
 |_::_,[],_,_,_,_,h,_=>by simp at h
 |p::P,w::vs,0,m,nd,h1,h2,hk=>by simp at h1 h2;subst h1;subst h2;show bindC kindOf ((p,w)::P.zip vs) m p=_;unfold bindC;rw[pG λv a=>(bD.mp nd).1 (aW a).1,aR hk];simp
 |p::P,w::vs,i+1,m,nd,h1,h2,hk=>by unfold bindC;exact pD (bD.mp nd).2 (by simpa using h1) (by simpa using h2) hk
noncomputable def iy(N:List Str)(vs:List V):St:=vs.map some++List.replicate (N.length-vs.length) none
noncomputable def j9(g:Bd)(P:Program)(w:World)(K:W.Frag)(mg:Str->Option Value)(base:Heap)(N:List Str)(b:Str)(a:Scope)(f:Addr)(d:Vq)(A:Around)(outer:List Env)(s:Sq)(H:Hp)(E:XK):Cx where
 prog:=P
 w:=w
 K:=K
 mg:=mg
 base:=base
 A:=A.deeper (envOfC b a s.heap.objs.size f d)
 N:=N
 s₀:=s
 H₀:=H
 env:=envOfC b a s.heap.objs.size f d
 outer:=outer
 stack:=envOfC b a s.heap.objs.size f d::outer
 ex:=[]
 calm:=true
 fn:=λ_=>true
 pn:=[]
 xe:=λe h=>wpAny (model P w) (A.deeper (envOfC b a s.heap.objs.size f d)) (leaving (envOfC b a s.heap.objs.size f d) e) (λ_ c=>g outer H s E e c) (λi c=>g outer H s E i c) h
def iT{a:Scope}(h:a.names.lookup x=some .cell):∃c,(cellsFrom n a.names []).lookup x=some c:=by have q:=W.cellsFrom_some a.names n [] (.inl h);exact bE.mp q
theorem v5{K:W.Frag}
  (S:fB N ps scope) (D:A.handled=none) (g:t5 P w K mg base A outer s H) (Q:vs.length=ps.length) (r:dQ vs us)
  (x:InCallC s s.heap.objs.size (bindL (envOfC qual scope s.heap.objs.size f cd).kindOf (ps.zip us) λ_=>none) (cellsFrom (s.heap.objs.size+1) scope.names []) (bindC (envOfC qual scope s.heap.objs.size f cd).kindOf (ps.zip us) λ_=>none) s1) :
  dD (j9 CX P w K mg base N qual scope f cd A outer s H E) [] (iy N vs) H s1:=by
 have F:ps.length<=N.length:=by have:=congrArg List.length S.pre;rw[bF]at this;omega
 obtain⟨o,R,rfl,B⟩:=x.done;have l:∀b:Addr,b∉(j9 CX P w K mg base N qual scope f cd A outer s H E).ex:=λb z=>absurd (show b∈([]) from z) (by simp);refine⟨⟨g.mod,S.kind,rfl,rfl,aK _,λy z c o d=>?_,λy j=>?_,λy c _ h=>?_,λ_=>D,Around.frames_deeper g.frames,.inr ⟨rfl,rfl⟩,λb z=>absurd z (l b),g.bs,g.bsz,λb _ _=>l b,λb z=>absurd z (l b),g.funs,g.frf,g.tab⟩,
  rfl,g.bare,Un.kept B,⟨_,x.toInCall.ns,λi y v o d L=>?_⟩,λy c h=>⟨_,x.cell y c h⟩,g.hok.fresh (aK _),λy c h=>?_,λp n=>absurd (show p∈([]) from n) (by simp),g.hok.kept B,?_⟩
 .exact name_of_addr x.apart (PySem.mem_of_lookup o) (PySem.mem_of_lookup d)
 .have j:=j;rcases j with j|j
  .exact iT j
  .exact absurd rfl (S.nofree _ (PySem.mem_of_lookup j))
 .exact bf (x.above y c (PySem.mem_of_lookup h))
 .have t:i<vs.length:=by
   unfold iy at d;by_cases t:i<vs.length
   .exact t
   .rw[List.getElem?_append_right (by simpa using t)]at d;rw[List.getElem?_replicate]at d;split at d<;>cases d
  have I:vs[i]? = some v:=by
   unfold iy at d;rw[List.getElem?_append_left (by simpa using t),av]at d;cases e:vs[i]? with
   |none=>rw[e]at d;cases d
   |some a=>rw[e]at d;cases d;rfl
  obtain⟨u,C,J⟩:=r.get I;have n:ps[i]? = some y:=by rw[<-S.pre,List.getElem?_take_of_lt (by omega)];exact o
  have m:ps.Nodup:=by rw[<-S.pre];exact S.nd.sublist (List.take_sublist _ _)
  refine⟨u,J,?_⟩;rcases S.par y (au n) with k|k
  .exact .inl ⟨k,pz m n C k⟩
  .obtain⟨c,e⟩:=iT k;refine .inr ⟨.inl k,c,e,?_⟩;have q:=x.cell y c e;rw[pD m n C (by show scope.names.lookup y≠_;rw[k];decide)]at q;exact q
 .exact g.hok.fresh (bf (x.above y c (PySem.mem_of_lookup h)))
 .unfold iy;show _=N.length;rw[aT,aw,List.length_replicate];omega
theorem Gh{K:W.Frag}{Y kV l Z c R oc:Vq}(lk:K.lookup f=some ⟨oc,od,.func (W.fnOf name qual params body scope Y kV l Z an c R),osl⟩)(B:W.codeIn K c qual=true)(S:fB N ps scope)
  (len:∀vs H Q E,sp vs H Q E->vs.length=ps.length)
  (i:∀A a s H vs Q E,fw k (A.deeper (envOfC qual scope s.heap.objs.size f c))->sp vs H Q E->
   ∃t,qZ (j9 CX P w K mg base N qual scope f c A a s H E) body t/\t {nx:=λ_ g=>Q .non g,rt:=Q} (iy N vs) H) :
  iY P w K mg base CX (k+1) f (W.fnOf name qual params body scope Y kV l Z an c R) ps sp:=by
 refine⟨len,λA a s H L us vs Q E hr z hb r p=>?_⟩;have hl:=len _ _ _ _ p;have U:=z.mod.kin.keeps λb o e=>(z.bs b o e).1;have D:=z.mod.nolimit.keeps λb o e=>(z.bs b o e).1;have h:∀y∈ps.zip us,scope.names.lookup y.1=some .local\/(scope.names.lookup y.1=some .cell/\((cellsFrom (s.heap.objs.size+1) scope.names []).lookup y.1).isSome=true):=λ⟨n,v⟩ hy=>by
  rcases S.par n (aW hy).1 with q|q
  .exact .inl q
  .exact .inr ⟨q,W.cellsFrom_some _ _ _ (.inl q)⟩
 refine codeAny_call_function hr.depth (U _ _ lk) rfl S.co S.gen rfl (W.codeRec_of U B) (hb _ _ _ _ ?_);refine wpAny_newFunctionEnv_cells S.kind h λenv he X x=>?_;subst he;refine⟨D.keeps x.toInCall.keep,codeAny_func ?_⟩;obtain⟨t,ht,hq⟩:=i A a s H vs Q E (hr.deeper _) p;have I:dD (j9 CX P w K mg base N qual scope f c A a s H E) [] (iy N vs) H X:=v5 S hr.hd z hl r x;refine wpAny_mono (ht [] X (iy N vs) H _ I hq) (λfl C j=>?_) λe C j=>j;have m:∀{d:St} {g:Hp} {v:V} {u:Vq},dD (j9 CX P w K mg base N qual scope f c A a s H E) [] d g C->eT v u->Q v g->CE a P w H s Q u C:=λ{d g v u} J F q=>⟨v,g,J.os,J.bare,J.base,J.hok,F,q⟩
 cases fl with
 |ret u=>obtain⟨v,d,g,J,F,q⟩:=j;exact m J F q
 |next=>obtain⟨d,g,J,q⟩:=j;exact m (v:=V.non) J rfl q
 |brk=>obtain⟨_,_,_,q⟩:=j;exact False.elim q
 |cont=>obtain⟨_,_,_,q⟩:=j;exact False.elim q
end L2
namespace L2
open PySem PySem.Spec PyProof.Rows
section
variable {X:Cx}{x:Str}{p pos:Pos}{e:Expr}{es:List Expr}{t:TA}{id T:String}{r:List V->Hp->VK->Prop}
def zX(r:List V->Hp->VK->Prop)(t:TA):TE:=λc H Q=>t c H λb a=>r b a Q
def rV(k:gF X (.builtin id) r)(g:Gl X x)(i:X.mg x=none)(j:bootBuiltins x=some (.builtin id))(l:PA X (e::es) t)(f:x≠ "__name__" :=by decide)(b:(x==("__debug__" : Str))=false:=by decide)
  (m:starEach (e::es) X.env=(false,eval e X.env)::starEach es X.env:=by rfl) (a:(backTo pos (starEach es X.env)).any (·.1)=false:=by rfl):PE X (.Call (.Name x p) (e::es) [] pos) (zX r t):=by
 intro c s d H Q I h;refine wpAny_Call_Name_kw (nB I g i j ?_ f b);exact PyProof.Rows.callWith_builtin1 (fM (l pos c s d H _ I h) λus s1 ⟨vs,H1,I1,r1,q1⟩=>k c s1 d H1 vs us Q I1 r1 q1) m a
def oU(k:gF X (.type T) r)(g:Gl X x)(i:X.mg x=none)(j:bootBuiltins x=some (.type T))(l:PA X (e::es) t)(f:x≠ "__name__" :=by decide)(b:(x==("__debug__" : Str))=false:=by decide)
  (m:starEach (e::es) X.env=(false,eval e X.env)::starEach es X.env:=by rfl) (a:(backTo pos (starEach es X.env)).any (·.1)=false:=by rfl):PE X (.Call (.Name x p) (e::es) [] pos) (zX r t):=by
 intro c s d H Q I h;refine wpAny_Call_Name_kw (nB I g i j ?_ f b);exact PyProof.Rows.callWith_type1 (fM (l pos c s d H _ I h) λus s1 ⟨vs,H1,I1,r1,q1⟩=>k c s1 d H1 vs us Q I1 r1 q1) m a
end
end L2
namespace HT
open PySem PyProof.Rows
section
variable {prog:Program}{w:World}{A:Around}{E:Vq->Shared->Prop}{s:Sq}
def cat_tup(v:IsTup s.heap t vs.toArray)(u:IsTup s.heap b ws.toArray)(q:vs≠[])
  (x:ws=[]->Q (.ref t) s) (y:ws≠[]->Q (.ref s.heap.objs.size) {s with heap:=s.heap.push {cls:=.type "tuple",data:=.seq (vs++ws).toArray}})
  (j:vs.length+ws.length<=sizeLine):wpAny (model prog w) A (binaryOp .Add (.ref t) (.ref b)) Q E s:=by
 obtain⟨⟨cls,o,data,p⟩,h,r,n,k⟩:=id v;obtain⟨⟨l,f,i,d⟩,a,g,m,c⟩:=id u;simp only at r k g c;subst r k g c;have e:vs.toArray++ws.toArray=(vs++ws).toArray:=by simp
 by_cases hw:ws=[]
 .exact concat_meets ⟨_,h,rfl⟩ ⟨_,a,rfl⟩ noFill_tuple_add seq_tuple_add PySem.F.slot_tuple_add PySem.F.entry_tuple_add (PySem.F.args_tuple_add_2 _ _)
   (tuple_addW1 t b vs.toArray ws.toArray n m o f p d (by simpa using q) (by simp[hw])) ⟨h,a,x hw⟩
 .refine concat_meets ⟨_,h,rfl⟩ ⟨_,a,rfl⟩ noFill_tuple_add seq_tuple_add PySem.F.slot_tuple_add PySem.F.entry_tuple_add (PySem.F.args_tuple_add_2 _ _)
   (tuple_addW2 t b vs.toArray ws.toArray n m o f p d (by simpa using q) (by simpa using hw) (by rw[bu,bu];exact j)) ⟨h,a,?_⟩
  rw[e];exact y hw
noncomputable def sIx(n d:Nat):Oq Int->Nat
 |none=>d
 |some v=>if v<0 then (v+(n:Int)).toNat else min v.toNat n
def sIx_none n d:sIx n d none=d:=rfl
def sIx_nat(n d k:Nat):sIx n d (some (k:Int))=min k n:=by show (if k<0 then (k+(n:Int)).toNat else min (k:Int).toNat n)=min k n;rw[aR (by omega),bG]
def vg v (n d:Nat):(if v<0 then max (v+(n:Int)) 0 else min v (n:Int))=((sIx n d (some v):Nat):Int):=by
 show (if v<0 then max (v+n) 0 else min v n)=(((if v<0 then (v+n).toNat else min v.toNat n):Nat):Int);by_cases a:v<0
 .simp only[aQ a];omega
 .simp only[aR a];omega
def s9 lo a (n:Nat):Builtin.Slice.sliceAdjust lo a 1 (n:Int)=(((sIx n 0 lo:Nat):Int),((sIx n n a:Nat):Int)):=by
 have b:¬(1<0):=by omega
 unfold Builtin.Slice.sliceAdjust;simp only[b,if_false];refine Prod.ext ?_ ?_
 .cases lo with
  |none=>rfl
  |some v=>exact vg v n 0
 .cases a with
  |none=>rfl
  |some v=>exact vg v n n
def tF(i j:Nat):Builtin.Slice.slicePlaces (i:Int) (j:Int) 1=j-i:=by
 unfold Builtin.Slice.slicePlaces;have a:1>0:=by omega
 simp only[a,if_true,Int.ediv_one];split<;>omega
def ny(p:IsPart v o)(h:Q o s):wpAny (model prog w) A (Builtin.Slice.slicePartIndex v) Q E s:=by
 cases p with
 |none=>exact slicePart_none h
 |int i t=>exact slicePart_int h
def jv{a c:Oq Int}{n:Nat}(i:s.heap.IsSliceOf sl vl vu .none)(f:IsPart vl a)(e:IsPart vu c)
  (h:Q (((sIx n 0 a:Nat):Int),1,sIx n n c-sIx n 0 a) s):wpAny (model prog w) A (Builtin.Slice.sliceApplied (.ref sl) (pure (n:Int))) Q E s:=by
 obtain⟨j,d,g,b⟩:=id i;unfold Builtin.Slice.sliceApplied Builtin.Slice.sliceFields;refine ao (ao (wpAny_field d b rfl (ao (wpAny_field d b rfl (ao (wpAny_field d b rfl (ak ?_)))))));refine ao (slicePart_none ?_);rw[aR (by decide)];refine ao (ny f (ao (ny e (ao (ak ?_)))));show wpAny _ _ (match Builtin.Slice.sliceAdjust a c 1 n with|(a,c)=>pure (a,(1:Int),Builtin.Slice.slicePlaces a c 1)) _ _ s;rw[s9 a c n];show wpAny _ _ (pure (((sIx n 0 a):Int),1,Builtin.Slice.slicePlaces ((sIx n 0 a):Int) ((sIx n n c):Int) 1)) _ _ s;rw[tF];exact ak h
def y3(a:Array Vq)(i k:Nat):((List.range k).filterMap λ(m:Nat)=>a[((i:Int)+(m:Int)*1).toNat]?).toArray=((a.toList.drop i).take k).toArray:=by
 have e:(λ(m:Nat)=>a[(i+(m:Int)*1).toNat]?)=λm=>a[i+m]?:=by
  funext m;have:(i+(m:Int)*1).toNat=i+m:=by omega
  rw[this]
 rw[e];have:=pick_run a i k;rw[List.filterMap_map]at this;have b:((λx=>a[x]?) ∘ λx=>i+x)=λm=>a[i+m]?:=rfl;rw[b]at this;rw[this]
theorem getItem_tuple_cut{a b:Oq Int}(c:IsTup s.heap t items)(j:s.heap.IsSliceOf sl vl vu .none)(n:IsPart vl a)(k:IsPart vu b)
  (hw:¬(sIx items.size 0 a=0/\sIx items.size items.size b=items.size))
  (h:Q (.ref s.heap.objs.size) {s with heap:=s.heap.push {cls:=.type "tuple",data:=.seq ((items.toList.drop (sIx items.size 0 a)).take (sIx items.size items.size b-sIx items.size 0 a)).toArray}})
  (o:items.size<=sizeLine):wpAny (model prog w) A (getItem (.ref t) (.ref sl)) Q E s:=by
 have d:sizeOk (.seq ((items.toList.drop (sIx items.size 0 a)).take (sIx items.size items.size b-sIx items.size 0 a)).toArray):=by show ((items.toList.drop (sIx items.size 0 a)).take (sIx items.size items.size b-sIx items.size 0 a)).toArray.size<=sizeLine;rw[bu,bF,bH,bp];omega
 obtain⟨l,f,g,m⟩:=id j;have e:s.TypeIs (.ref sl) "slice" :=⟨l,f,g⟩;unfold getItem;try with_reducible refine wpAny_holding ?_;first|refine ao (ak ?_)|skip
 refine ao (wpAny_sequenceKey c.typeIs (by decide) ?_);refine ao (wpAny_callSpecial?_slot c.typeIs PyProof.Rows.slot_tuple_getitem
  (wpAny_call_entry PyProof.Rows.slot_tuple_getitem c.typeIs entry_tuple_getitem ?_ (args_tuple_getitem _ _)))
 show wpAny _ _ (Builtin.Tuple.tupleItemsOf (.ref t) >>= _) _ _ s;refine ao (tupleItemsOf_ c ?_);refine ao (wpAny_typeOf e ?_);rw[aQ (by decide)];refine ao (jv j n k ?_);have i:¬((((sIx items.size 0 a):Int)==0&&(1:Int)==1&&(sIx items.size items.size b-sIx items.size 0 a)==items.size)=true):=by intro q;rw[bI,bI]at q;have r:=eq_of_beq q.1.1;have p:=eq_of_beq q.2;exact hw ⟨by omega,by omega⟩
 show wpAny _ _ (if (((sIx items.size 0 a):Int)==0&&1==1&&(sIx items.size items.size b-sIx items.size 0 a)==items.size)=true then _ else _) _ _ s;rw[aR i,y3];first
  |exact ao (wpAny_newObj_type (ak ⟨_,rfl,ak h⟩) d)
  |exact ao (wpAny_newObj_type (ao (ak (ak ⟨_,rfl,ak h⟩))) d)
  |exact ao (ao (wpAny_newObj_type (ak (ak ⟨_,rfl,ak h⟩)) d))
  |exact ao (ao (wpAny_newObj_type (ak ⟨_,rfl,ak h⟩) d))
end
end HT
namespace L2
open PySem PySem.Spec PyProof.Rows
abbrev TO:=St->Hp->(Option Int->Hp->Prop)->Prop
def PO(X:Cx)(e:Oq Expr)(t:TO):Prop:=
 ∀(c:List (Addr×Obj)) (s:Sq) (a:St) (H:Hp) (Q:Oq Int->Hp->Prop),dD X c a H s->t a H Q->
  wpAny (model X.prog X.w) X.A (evalPart e X.env) (λu d=>∃o b,dD X c a b d/\IsPart u o/\Q o b) X.xe s
def uw:TO:=λ_ H Q=>Q none H
def BQ(t:TE):TO:=λb H Q=>t b H λx a=>∃i,x=.int i/\Q (some i) a
section
variable {X:Cx}{e:Expr}{te:TE}{lo hi:Oq Expr}{tl th:TO}{pos p2:Pos}
def AH:PO X none uw:=by intro a s b H Q I h;rw[evalPart_none];exact ak ⟨none,H,I,.none,h⟩
def AS(h:PE X e te):PO X (some e) (BQ te):=by intro a s b H Q I hw;rw[evalPart_some];refine fM (h a s b H _ I hw) λu s1 ⟨x,H1,I1,r1,q1⟩=>?_;obtain⟨i,rfl,q⟩:=q1;obtain⟨t,rfl⟩:=r1;exact⟨some i,H1,I1,.int i t,q⟩
def BX(X:Cx)(r:V->Option Int->Option Int->Hp->VK->Prop):Prop:=
 ∀(d:List (Addr×Obj)) (s:Sq) (f:St) (H:Hp) (x:V) (v c b:Vq) (lo hi:Oq Int) (a:Addr) (Q:VK),dD X d f H s->eT x v->s.heap.IsSliceOf a c b .none->IsPart c lo->IsPart b hi->r x lo hi H Q->
  ∃T id,typeLookup (.type T) "__getitem__" = pure (some (.builtin id))/\s.TypeIs v T/\wpAny (model X.prog X.w) X.A (getItem v (.ref a)) (EP X d f Q) X.xe s
def BX.or(h:BX X r)(l:BX X r'):BX X (λx lo hi H Q=>r x lo hi H Q\/r' x lo hi H Q):=by
 intro d s k H x v g a lo hi j Q I f c i b q;rcases q with q|q
 .exact h d s k H x v g a lo hi j Q I f c i b q
 .exact l d s k H x v g a lo hi j Q I f c i b q
def Hq(r:V->Option Int->Option Int->Hp->VK->Prop)(te:TE)(tl th:TO):TE:=λa H Q=>te a H λx c=>tl a c λl b=>th a b λu d=>r x l u d Q
def zA(hr:BX X r)(f:PE X e te)(g:PO X lo tl)(k:PO X hi th):PE X (.Subscript e (.Slice lo hi none p2) pos) (Hq r te tl th):=by intro a s c H Q I h;refine Subscript_ (fM (f a s c H _ I h) λv s1 ⟨x,H1,I1,r1,q1⟩=>?_);refine wpAny_Slice (fM (g a s1 c H1 _ I1 q1) λvl s2 ⟨l,H2,I2,pl,q2⟩=>fM (k a s2 c H2 _ I2 q2) λvu s3 ⟨u,H3,I3,pu,q3⟩=>?_);rw[evalPart_none];refine ak ?_;have m:dD X a c H3 {s3 with heap:=s3.heap.push {cls:=.type "slice",data:=.fields #[vl,vu,.none]}}:=I3.kept λb n q=>ae _ q;obtain⟨T,id,i,d,j⟩:=hr a {s3 with heap:=s3.heap.push {cls:=.type "slice",data:=.fields #[vl,vu,.none]}} c H3 x v vl vu l u s3.heap.objs.size Q m r1 (Heap.IsSliceOf.new ..) pl pu q3;exact tail_any d i j (by with_unfolding_all rfl)
noncomputable def y0(a:List V)(lo hi:Oq Int):List V:=(a.drop (HT.sIx a.length 0 lo)).take (HT.sIx a.length a.length hi-HT.sIx a.length 0 lo)
def mL xs lo hi:(y0 xs lo hi).length<=xs.length:=by unfold y0;rw[bF,bH];omega
def F8(K:W.Frag):V->Option Int->Option Int->Hp->VK->Prop:=λx lo hi H Q=>∃a b,x=.ref a/\i5 K H a b/\
 ¬(HT.sIx b.length 0 lo=0/\HT.sIx b.length b.length hi=b.length)/\∀p,H p=none->Q (.ref p) (fT H p (.tup (y0 b lo hi)))
def Cj:BX X (F8 X.K):=by
 intro t s y H x v u o lo hi w Q I m l n k h;obtain⟨a,c,rfl,j,hw,q⟩:=h;cases m;obtain⟨d,r,g,i⟩:=I.tuple j;have f:d.toArray.size=c.length:=by rw[bu];exact r.length.symm
 refine⟨"tuple",_,PyProof.Rows.slot_tuple_getitem.lookup,g.typeIs,?_⟩;refine HT.getItem_tuple_cut g l n k (by rw[f];exact hw) ?_ (by rw[f];exact i);rw[f];refine⟨.ref s.heap.objs.size,_,I.laid (λb p q=>ae _ q) (aK _) ?_,rfl,q _ (I.hok.fresh (aK _))⟩;exact⟨aN (mL c lo hi) i,_,(r.drop (HT.sIx c.length 0 lo)).take (HT.sIx c.length c.length hi-HT.sIx c.length 0 lo),nW.new _ _⟩
def E2(K:W.Frag):R2:=λx y H Q=>∃a b d c,x=.ref a/\y=.ref b/\i5 K H a d/\i5 K H b c/\d≠[]/\d.length+c.length<=sizeLine/\
 (c=[]->Q (.ref a) H)/\(c≠[]->∀p,H p=none->Q (.ref p) (fT H p (.tup (d++c))))
def dQ.nil_iff(r:dQ xs us):us=[]↔xs=[]:=by
 cases r with
 |nil=>simp
 |cons _ _=>simp
def Ae:jU X (binaryOp .Add) (E2 X.K):=by intro A s D H x y v u Q I o p h;obtain⟨a,b,B,C,rfl,rfl,n,j,i,g,r,k⟩:=h;cases o;cases p;obtain⟨l,d,m,_⟩:=I.tuple n;obtain⟨f,c,p2,_⟩:=I.tuple j;refine HT.cat_tup m p2 (λz=>i (d.nil_iff.mp z)) (λz=>⟨.ref a,H,I,rfl,r (c.nil_iff.mp z)⟩) (λz=>?_) (by rw[<-d.length,<-c.length];exact g);refine⟨.ref s.heap.objs.size,_,I.laid (λb t q=>ae _ q) (aK _) ?_,rfl,k (λw=>z (c.nil_iff.mpr w)) _ (I.hok.fresh (aK _))⟩;exact⟨by rw[aT];exact g,_,d.append c,nW.new _ _⟩
end
end L2
namespace L2
open PySem PySem.Spec PyProof.Rows
noncomputable def qW(n:Nat)(i:Int):Oq Nat:=if 0<=i then (if i<n then some i.toNat else none) else if -(n:Int)<=i then some (i+n).toNat else none
noncomputable def lP{a:Type}(b:List a)(i:Int):Oq a:=(qW b.length i).bind λj=>b[j]?
def ux(h:qW n i=some j):seqIndex? i n=some j/\j<n/\-(n:Int)<=i/\i<n:=by
 unfold qW at h;by_cases b:0<=i
 .rw[aQ b]at h;by_cases a:i<n
  .rw[aQ a]at h;have e:=Option.some.inj h;exact⟨by rw[seqIndex_of b a,e],by omega,by omega,a⟩
  .rw[aR a]at h;cases h
 .rw[aR b]at h;by_cases a:-n<=i
  .rw[aQ a]at h;have e:=Option.some.inj h;exact⟨by rw[seqIndex_neg (by omega) a,e],by omega,a,by omega⟩
  .rw[aR a]at h;cases h
def qi{a:List α}{v:α}(h:lP a i=some v):∃j,seqIndex? i a.length=some j/\a[j]? = some v/\j<a.length/\-(a.length:Int)<=i/\i<a.length:=by
 unfold lP at h;cases e:qW a.length i with
 |none=>rw[e]at h;cases h
 |some j=>rw[e]at h;obtain⟨d,f,c,b⟩:=ux e;exact⟨j,d,h,f,c,b⟩
def A6{a:List α}{j:Nat}{v:α}(h:a[j]? = some v):lP a (j:Int)=some v:=by
 have b:=(aa.mp h).1;have e:qW a.length j=some j:=by unfold qW;rw[aQ (by omega),aQ (by omega)];simp
 unfold lP;rw[e];exact h
def mY(b:Expr):Prop:=∀o i,subscripted b false o i=operate [o,i] (getItem o i)
def xQ(X:Cx)(r:R2):Prop:=
 ∀(b a:Expr) (c:List (Addr×Obj)) (s:Sq) (d:St) (H:Hp) (x y:V) (v u:Vq) (Q:VK),dD X c d H s->eT x v->eT y u->r x y H Q->
  subscripted a false v u=operate [v,u] (getItem v u)->wpAny (model X.prog X.w) X.A (subscriptTail b a v u) (EP X c d Q) X.xe s
def HF(X:Cx)(id:String)(r:V->List V->Hp->VK->Prop):Prop:=
 ∀(a:List (Addr×Obj)) (s:Sq) (b:St) (H:Hp) (x:V) (d:List V) (v:Vq) (c:List Vq) (Q:VK),dD X a b H s->eT x v->dQ d c->r x d H Q->
  wpAny (model X.prog X.w) X.A (call (.builtin id) (v::c)) (EP X a b Q) X.xe s
section
variable {X:Cx}{a b:Expr}{ta tb:TE}{pos:Pos}
def xQ.or(h:xQ X r)(k:xQ X r'):xQ X (λx y H Q=>r x y H Q\/r' x y H Q):=by
 intro c d g s i H x y v u Q I j e q f;rcases q with q|q
 .exact h c d g s i H x y v u Q I j e q f
 .exact k c d g s i H x y v u Q I j e q f
def xg(hr:xQ X r)(g:PE X a ta)(d:PE X b tb)(e:mY b):PE X (.Subscript a b pos) (mB r ta tb):=by intro f s m H Q I h;exact Subscript_ (DZ g d I h λv u c x y j k i l q=>hr a b f c m j x y v u Q k i l q (e _ _))
def Fo(K:W.Frag):R2:=λx y H Q=>∃p c i v,x=.ref p/\y=.int i/\iC K H p c/\lP c i=some v/\Q v H
def EZ(K:W.Frag):R2:=λx y H Q=>∃p c i v,x=.ref p/\y=.int i/\i5 K H p c/\lP c i=some v/\Q v H
def Fg:R2:=λx y H Q=>∃z i c,x=.str z/\y=.int i/\z.length<=sizeLine/\lP z.cps.toList i=some c/\Q (.str ⟨#[c]⟩) H
def Av:xQ X (Fo X.K):=by
 intro e g F s R H x y v u Q I J N h n;obtain⟨p,Y,i,z,rfl,rfl,C,D,q⟩:=h;cases J;obtain⟨t,rfl⟩:=N;obtain⟨f,r,l,U⟩:=I.list C;obtain⟨j,d,L,S,B,P⟩:=qi D;obtain⟨w,A,k⟩:=r.get L;have E:=r.length;have Z:=qg;have c:EP X F R Q w s:=⟨z,H,I,k,q⟩;by_cases o:0<=i
 .have m:i.toNat=j:=by rw[seqIndex_of o P]at d;exact Option.some.inj d
  exact item_listR l.isList o (by omega) (by rw[m];simpa using A) c n
 .have m:(i+f.toArray.size).toNat=j:=by rw[seqIndex_neg (by omega) B]at d;rw[bu,<-E];exact Option.some.inj d
  exact subscriptTail_builtinR l.isList.typeIs slot_list_getitem.lookup
   (wpAny_getItem_list_neg l.isList (by omega) (by rw[bu]<;>omega) (by omega) (by rw[m];simpa using A) ⟨rfl,c⟩) n
def jD:xQ X (EZ X.K):=by
 intro c d B s F H x y v u Q I C E h o;obtain⟨p,R,i,z,rfl,rfl,k,n,q⟩:=h;cases C;obtain⟨t,rfl⟩:=E;obtain⟨l,r,g,P⟩:=I.tuple k;obtain⟨j,m,D,N,L,U⟩:=qi n;obtain⟨w,J,f⟩:=r.get D;have A:=r.length;have S:=qg;have e:EP X B F Q w s:=⟨z,H,I,f,q⟩;exact subscriptTail_builtinR g.typeIs slot_tuple_getitem.lookup
  (getItem_tuple g (by omega) (by omega) (by rw[bu,<-A];exact m) (by simpa using J) ⟨rfl,e⟩) o
def Cc:xQ X Fg:=by
 intro d e D s J H x y v u Q I n w h l;obtain⟨z,i,c,rfl,rfl,C,k,q⟩:=h;obtain⟨t,rfl⟩:=n;obtain⟨F,rfl⟩:=w;obtain⟨j,f,p,B,g,A⟩:=qi k;have m:z.cps.toList.length=z.length:=by simp[Str.length]
 rw[m]at f g A;have E:=qg;exact tail_any (typeIs_str s z t) slot_str_getitem.lookup (getItem_str (by have r:decide (i < -(2 ^ 63))=false:=aB (by omega);have o:decide (i >= 2 ^ 63)=false:=aB (by omega);rw[r,o,Bool.or_false]) (by rw[f];simpa using p) ⟨.str ⟨#[c]⟩,H,I.tok _,⟨_,rfl⟩,q⟩) l
def G6(K:W.Frag):R2:=λx y H Q=>Fo K x y H Q\/EZ K x y H Q\/Fg x y H Q
def EC:xQ X (G6 X.K):=Av.or (jD.or Cc)
def sU(c:List Vq) n j u:Obj.mapSeq (·.setIfInBounds j u) {cls:=.type "list",data:=.seq c.toArray n}={cls:=.type "list",data:=.seq (c.set j u).toArray n}:=by simp[Obj.mapSeq]
def dD.lst(I:dD X cV σ H s)(h:H p=some (.lst xs)) :
  ∃c n,dQ xs c/\s.heap.get? p=some {cls:=.type "list",data:=.seq c.toArray n}/\xs.length<=sizeLine:=by
 obtain⟨z,c,n,r,e⟩:=I.hok p _ h;exact⟨c,n,r,e,z⟩
def dD.lstUpd{d c:List Vq}(I:dD X cV σ H s)(h:H p=some (.lst xs))
  (j:s.heap.get? p=some {cls:=.type "list",data:=.seq d.toArray n}) (g:f {cls:=.type "list",data:=.seq d.toArray n}={cls:=.type "list",data:=.seq c.toArray n'}) (r:dQ ys c) (k:ys.length<=sizeLine) t :
  dD X cV σ (fT H p (.lst ys)) {s with heap:=s.heap.update p f,toks:=t}:=by
 have e:(s.heap.update p f).get? p=some {cls:=.type "list",data:=.seq c.toArray n'}:=by rw[Heap.get?_update_self f j (by rw[g]<;>rfl),g]
 refine I.write (by rw[h];trivial) (.inl rfl) (λb u i q=>(Heap.get?_update_other _ _ (Ne.symm i)).trans q) ⟨_,e⟩ ?_;exact⟨k,c,n',r,e⟩
def uE:V->V->V->Hp->(Hp->Prop)->Prop:=λo i v H Q=>∃p c k j,o=.ref p/\i=.int k/\H p=some (.lst c)/\qW c.length k=some j/\Q (fT H p (.lst (c.set j v)))
def xo:FG X uE:=by
 intro B s J H o i v P K u Q I z D E h;obtain⟨p,C,k,j,rfl,rfl,y,F,q⟩:=h;cases z;obtain⟨t,rfl⟩:=D;obtain⟨c,n,r,e,A⟩:=I.lst y;obtain⟨d,L,m,l⟩:=ux F;have g:=r.length;have N:=qg;have x:dD X B J (fT H p (.lst (C.set j v))) {s with heap:=s.heap.update p (Obj.mapSeq (·.setIfInBounds j u))}:=I.lstUpd y e (sU c n j u) (r.set E j) (by rw[List.length_set];exact A) s.toks
 by_cases w:0<=k
 .have f:k.toNat=j:=by rw[seqIndex_of w l]at d;exact Option.some.inj d
  exact W.ki_setAt e w (by omega) (by rw[bu,<-g];exact l) (by rw[f];exact⟨_,x,q⟩)
 .have f:(k+c.toArray.size).toNat=j:=by rw[seqIndex_neg (by omega) m]at d;rw[bu,<-g];exact Option.some.inj d
  exact W.ki_setBack e (by omega) (by rw[bu,<-g];exact m) (by omega) (by rw[f];exact⟨_,x,q⟩)
def pP lo hi n:(sliceBounds lo hi none n).1=((HT.sIx n 0 lo:Nat):Int)/\(sliceBounds lo hi none n).2.1=((HT.sIx n n hi:Nat):Int)/\(sliceBounds lo hi none n).2.2=1:=by
 refine⟨?_,?_,rfl⟩
 .cases lo with
  |none=>simp[sliceBounds,HT.sIx]
  |some i=>
   simp only[sliceBounds,HT.sIx,Option.getD_none,show 1>0 by decide,if_true];by_cases h:i<0
   .simp only[h,if_true]<;>omega
   .simp only[h,if_false]<;>omega
 .cases hi with
  |none=>simp[sliceBounds,HT.sIx]
  |some i=>
   simp only[sliceBounds,HT.sIx,Option.getD_none,show 1>0 by decide,if_true];by_cases h:i<0
   .simp only[h,if_true]<;>omega
   .simp only[h,if_false]<;>omega
def om(c:List Vq) lo hi:slicePick c.toArray lo hi none=((c.drop (HT.sIx c.length 0 lo)).take (HT.sIx c.length c.length hi-HT.sIx c.length 0 lo)).toArray:=by obtain⟨e,f,d⟩:=pP lo hi c.toArray.size;unfold slicePick;rw[e,f,d];simp only[sliceRange_one,pick_run,bu]<;>rfl
def Ft(K:W.Frag):V->Option Int->Option Int->Hp->VK->Prop:=λx d e H Q=>∃a c,x=.ref a/\iC K H a c/\∀p,H p=none->Q (.ref p) (fT H p (.lst (y0 c d e)))
def A8:BX X (Ft X.K):=by intro u s z H x v w p d f y Q I m l o j h;obtain⟨a,c,rfl,g,q⟩:=h;cases m;obtain⟨i,r,e,k⟩:=I.list g;have n:=r.length;refine⟨"list",_,slot_list_getitem.lookup,e.isList.typeIs,?_⟩;refine wpAny_getItem_list_slice e.isList l o j .none (by simp) ?_ (by rw[bu]<;>omega);rw[om,<-n];refine⟨.ref s.heap.objs.size,_,I.laid (λb t q=>ae _ q) (aK _) ?_,rfl,q _ (I.hok.fresh (aK _))⟩;exact⟨aN (mL c d f) k,_,0,(r.drop (HT.sIx c.length 0 d)).take (HT.sIx c.length c.length f-HT.sIx c.length 0 d),ar _ rfl⟩
def pT:gF X (.type "list") (λB H Q=>∃p g,B=[.ref p]/\(iC X.K H p g\/i5 X.K H p g)/\∀l,H l=none->Q (.ref l) (fT H l (.lst g))):=by
 intro C s F H B J Q I r h;obtain⟨p,g,rfl,j,q⟩:=h;obtain⟨u,rfl,D⟩:=lG r;cases D;have t:∀(c:List Vq),dQ g c->g.length<=sizeLine->∀(d:Heap) (f:Nat),(∀b A,s.heap.get? b=some A->d.get? b=some A)->
   d.get? s.heap.objs.size=some {cls:=.type "list",dict:=none,data:=.seq c.toArray f,slots:=#[]}->EP X C F Q (.ref s.heap.objs.size) {s with heap:=d}:=λc i m d f k e=>
  ⟨.ref s.heap.objs.size,_,I.laid k (aK _) (show iZ X.prog X.w _ d _ (.lst g) from ⟨m,c,f,i,e⟩),rfl,q _ (I.hok.fresh (aK _))⟩
 rcases j with j|j
 .obtain⟨c,i,y,m⟩:=I.list j;have E:=i.length;obtain⟨o,x,z,n,v⟩:=y.isList;exact call_list_seq p (.inl rfl) x z v (λd f k e=>t c i m d f k e) (by simp only[bu]<;>omega)
 .obtain⟨c,i,y,m⟩:=I.tuple j;have E:=i.length;obtain⟨o,x,z,n,v⟩:=y;exact call_list_seq p (.inr rfl) x z v (λd f k e=>t c i m d f k e) (by simp only[bu]<;>omega)
def oE:gF X (.type "tuple") (λm H Q=>∃p d,m=[.ref p]/\((iC X.K H p d/\∀l,H l=none->Q (.ref l) (fT H l (.tup d)))\/(i5 X.K H p d/\Q (.ref p) H))):=by
 intro v s y H m A Q I r h;obtain⟨p,d,rfl,h⟩:=h;obtain⟨u,rfl,w⟩:=lG r;cases w;rcases h with⟨f,q⟩|⟨f,q⟩
 .obtain⟨c,j,i,k⟩:=I.list f;have z:=j.length;refine call_tuple_list i.isList (λg t=>?_) (by simp only[bu]<;>omega);have n:=I.kept (t':=s.toks) t;have x:dD X v y (fT H g.objs.size (.tup d)) {s with heap:=g.push {cls:=.type "tuple",data:=.seq c.toArray}}:=
   n.laid (λb o e=>ae _ e) (aK _) (⟨k,c,j,nW.new _ _⟩)
  exact⟨.ref g.objs.size,_,x,rfl,q _ (n.hok.fresh (aK _))⟩
 .obtain⟨c,j,i,k⟩:=I.tuple f;exact call_tuple_same i ⟨.ref p,H,I,rfl,q⟩
def Fs(K:W.Frag)(T:String)(x:V)(H:Hp):Prop:=match x with
 |.str _=>T = "str"
 |.int _=>T = "int"
 |.ref p=>(T = "list" /\∃d,iC K H p d)\/(T = "tuple" /\∃o,K.lookup p=some o/\o.cls=.type "tuple" /\o.dict=none)\/
   (T = "dict" /\((∃c,H p=some (.dK c))\/∃c,H p=some (.dT c)))\/(T = "set" /\∃S n,H p=some (.set S n))
 |_=>False
theorem C7{w:List (Addr×Obj)}{A:St}{H:Hp}{s:Sq}{T:String}{x:V}{v:Vq}(I:dD X w A H s)(r:eT x v)(g:Fs X.K T x H) :
  s.TypeIs v T/\∀a,v=.ref a->∃l,s.heap.get? a=some l/\l.dict=none:=by
 cases x with
 |str z=>obtain⟨t,rfl⟩:=r;cases (g);exact⟨typeIs_str s z t,λ_ e=>nomatch e⟩
 |int i=>obtain⟨t,rfl⟩:=r;cases (g);exact⟨typeIs_int s i t,λ_ e=>nomatch e⟩
 |ref p=>
  cases r;rcases g with⟨rfl,B,q⟩|⟨rfl,o,d,y,h⟩|⟨rfl,d⟩|⟨rfl,S,n,d⟩
  .obtain⟨u,_,m,_⟩:=I.list q;refine⟨m.isList.typeIs,λa e=>?_⟩;cases e;obtain⟨o,n,e,c,h,_⟩:=m;exact⟨o,e,h⟩
  .refine⟨⟨o,I.kIn p o d,y⟩,λa e=>?_⟩;cases e;exact⟨o,I.kIn _ o d,h⟩
  .have z:∃o,s.heap.get? p=some o/\o.ExactDict:=by
    rcases d with⟨k,d⟩|⟨k,d⟩
    .obtain⟨_,_,_,_,o,_,_,e,f,_⟩:=I.hok p _ d;exact⟨o,e,f⟩
    .obtain⟨_,_,_,_,o,_,_,e,f,_⟩:=I.hok p _ d;exact⟨o,e,f⟩
   obtain⟨o,e,f⟩:=z;refine⟨⟨o,e,f.1⟩,λa j=>?_⟩;cases j;exact⟨o,e,f.2.1⟩
  .obtain⟨o,_,_,_,e,f,_⟩:=I.hok p _ d;refine⟨⟨o,e,f.1⟩,λa j=>?_⟩;cases j;exact⟨o,e,f.2.1⟩
 |_=>exact False.elim g
def BI(K:W.Frag)(T:String)(r:V->List V->Hp->VK->Prop)(to:TE)(t:TA):TE:=λd H Q=>to d H λx c=>Fs K T x c/\t d c λf e=>r x f e Q
variable {o e:Expr}{es:List Expr}{to:TE}{t:TA}{name:Str}{apos cpos:Pos}{T id:String}{r:V->List V->Hp->VK->Prop}
def uI(y:PlainAttrs T)(g:Slot T name id)(i:typeOf (.builtin id)=pure (.type "method_descriptor"))(p:HF X id r)(n:PE X o to)(u:PA X (e::es) t)
  (d:attributeBase o name X.env (eval o X.env)=eval o X.env:=by rfl)
  (f:((backTo cpos (starEach (e::es) X.env)).all (λx=>!x.1)&&(backToKw cpos (keywordEach [] X.env)).all (λx=>x.1.isSome)
   && decide ((e::es).length+([]:List Keyword).length+(if ([]:List Keyword).isEmpty then 0 else 1)<30))=true:=by rfl)
  (c:(apos.endLine==cpos.line)=true:=by rfl) (q:starEach (e::es) X.env=(false,eval e X.env)::starEach es X.env:=by rfl) (hplain:(backTo cpos (starEach es X.env)).any (·.1)=false:=by rfl) :
  PE X (.Call (.Attribute o name apos) (e::es) [] cpos) (BI X.K T r to t):=by
 intro j s k H Q I h;refine wpAny_Call_method_late d f c rfl (fM (n j s k H _ I h) λv s1 ⟨x,H1,I1,r1,ty,q1⟩=>?_);obtain⟨m,w⟩:=C7 I1 r1 ty;refine⟨T,id,y,g,i,m,w,?_⟩;have l:=u cpos j s1 k H1 _ I1 q1;rw[q]at l ⊢;refine Calls.callWith_builtin (by show (false||(backTo cpos (starEach es X.env)).any (·.1))=false;rw[hplain]<;>rfl) (Calls.evalArgs_plain ?_);exact fM l λus s2 ⟨vs,H2,I2,r2,q2⟩=>p j s2 k H2 x vs v us Q I2 r1 r2 q2
end
end L2
namespace L2
open PySem PySem.Spec PyProof.Rows
def GM(X:Cx)(id:String)(r:V->List V->Hp->VK->Prop):Prop:=
 ∀(a:List (Addr×Obj)) (s:Sq) (b:St) (H:Hp) (x:V) (d:List V) (v:Vq) (c:List Vq) (Q:VK),dD X a b H s->eT x v->dQ d c->r x d H Q->
  wpAny (model X.prog X.w) X.A (call (.builtin id) (v::c)) (EP X a b Q) X.xe s
theorem dQ.one:∀{x} {us},dQ [x] us->∃u,us=[u]/\eT x u
 |_,_,.cons r .nil=>⟨_,rfl,r⟩
theorem dQ.rep(h:dQ xs us):∀k:Nat,dQ (List.replicate k xs).flatten (List.replicate k us).flatten
 |0=>.nil
 |k+1=>by rw[bJ,bJ,bK,bK];exact dQ.append h (dQ.rep h k)
theorem ku(a:List Vq):∀k b,
  List.foldl (λf c=>f++c) b.toArray (List.replicate k a.toArray)=(b++(List.replicate k a).flatten).toArray
 |0,b=>by simp
 |k+1,b=>by
  have e:b.toArray++a.toArray=(b++a).toArray:=by simp
  have d:(b++a)++(List.replicate k a).flatten=b++(List.replicate (k+1) a).flatten:=by rw[bJ,bK,bL]
  rw[<-d,<-ku a k (b++a),<-e,bJ,List.foldl_cons]
section
variable {X:Cx}{cV:List (Addr×Obj)}{σ:St}{H:Hp}{s:Sq}{l b:Addr}{xs ys zs:List V}
def dD.lset{c a:List Vq}(I:dD X cV σ H s)(i:H l=some (.lst xs))
  (e:s.heap.get? l=some {cls:=.type "list",data:=.seq c.toArray n}) (j:f c.toArray=a.toArray) (h:dQ ys a) (g:ys.length<=sizeLine) :
  dD X cV σ (fT H l (.lst ys)) {s with heap:=s.heap.update l (Obj.mapSeq f),toks:=t'}:=by
 have q:=PySem.IsL.update e f;rw[j]at q;refine I.write (by rw[i];exact trivial) (.inl rfl) (λm u d k=>(Heap.get?_update_other s.heap (Obj.mapSeq f) (Ne.symm d)).trans k) ⟨_,q⟩ ?_;exact⟨g,a,_,h,q⟩
def dD.lnew(I:dD X cV σ H s)(c:dQ ys its)(a:ys.length<=sizeLine) :
  dD X cV σ (fT H s.heap.objs.size (.lst ys)) {s with heap:=s.heap.push {cls:=.type "list",data:=.seq its.toArray},toks:=t'}:=
 I.laid (λ_ _ q=>ae _ q) (aK _) ⟨a,its,0,c,ar _ rfl⟩
def dD.fresh(I:dD X cV σ H s):H s.heap.objs.size=none:=I.hok.fresh (aK _)
def dD.lstM(I:dD X cV σ H s)(c:H l=some (.lst xs)):xs.length<=sizeLine/\∃a n,dQ xs a/\xs.length=a.length/\s.heap.get? l=some {cls:=.type "list",data:=.seq a.toArray n}:=by obtain⟨z,a,n,r,e⟩:=I.hok l _ c;exact⟨z,a,n,r,r.length,e⟩
def yd(h:n<=sizeLine):Builtin.List.listTooLong n=false:=by unfold Builtin.List.listTooLong;exact aB (by omega)
end
section
variable {X:Cx}
def pO:V->List V->Hp->VK->Prop:=λx b H Q=>∃l a y,x=.ref l/\b=[y]/\H l=some (.lst a)/\a.length<sizeLine/\Q .non (fT H l (.lst (a++[y])))
def vS:GM X "list.append" pO:=by intro k s o H x i v p Q I c f h;obtain⟨l,m,y,rfl,rfl,b,g,q⟩:=h;cases c;obtain⟨u,rfl,d⟩:=f.one;obtain⟨z,a,n,r,j,e⟩:=I.lstM b;refine call_meets F.slot_list_append ⟨_,e,rfl⟩ F.entry_list_append (F.args_list_append_2 _ _) (PySem.list_append l a.toArray n u (by rw[bu];omega)) ⟨e,?_⟩;refine⟨.non,_,I.lset b e (by simp) (r.append (.cons d .nil)) ?_,rfl,q⟩;rw[aT,bM];omega
def CU:R2:=λx y H Q=>∃l b c a,x=.ref l/\y=.ref b/\H l=some (.lst c)/\H b=some (.lst a)/\c.length+a.length<=sizeLine/\∀p,H p=none->Q (.ref p) (fT H p (.lst (c++a)))
def yE:jU X (binaryOp .Add) CU:=by
 intro w s D H x y v u Q I j m h;obtain⟨l,b,B,E,rfl,rfl,f,o,p,q⟩:=h;cases j;cases m;obtain⟨z,c,n,r,t,e⟩:=I.lstM f;obtain⟨C,a,A,g,i,k⟩:=I.lstM o;refine PySem.P.add_list e k ?_ (by rw[bu,bu];omega);have d:c.toArray++a.toArray=(c++a).toArray:=by simp
 rw[d];exact⟨.ref _,_,I.lnew (r.append g) (by rw[aT];omega),rfl,q _ I.fresh⟩
def Gk:R2:=λx y H Q=>∃l k a,x=.ref l/\y=.int k/\H l=some (.lst a)/\-(2 ^ 63)<=k/\k<2 ^ 63/\a.length*k.toNat<=sizeLine/\
 ∀p,H p=none->Q (.ref p) (fT H p (.lst (List.replicate k.toNat a).flatten))
def pS{b:Type}(a:List b) k:(List.replicate k a).flatten.length=k*a.length:=by
 induction k with
 |zero=>simp
 |succ k ih=>rw[bJ,bK,aT,ih,bO,Nat.add_comm]
def Cd:jU X (binaryOp .Mult) Gk:=by
 intro L s P H x y v u Q I D K h;obtain⟨l,k,N,rfl,rfl,p,w,E,o,q⟩:=h;cases D;obtain⟨t,rfl⟩:=K;obtain⟨z,b,n,r,C,e⟩:=I.lstM p;have J:b.toArray.size*k.toNat<=sizeLine:=by rw[bu,<-C];exact o
 have d:¬b.toArray.size*k.toNat>(2 ^ 63-1) / 8:=by
  have:sizeLine<=(2 ^ 63-1) / 8:=by decide
  omega
 have f:¬(!Builtin.List.listFitsIndex k)=true:=by rw[fitsIndex_both w E];exact aH
 have c:¬Builtin.List.listTooLong (b.toArray.size*k.toNat)=true:=by rw[yd J];exact aH
 have g:List.foldl (λj i=>j++i) #[] (List.replicate (if b.toArray.isEmpty=true then 0 else k.toNat) b.toArray)=(List.replicate k.toNat b).flatten.toArray:=by
  have B:∀m:Nat,List.foldl (λj i=>j++i) #[] (List.replicate m b.toArray)=(List.replicate m b).flatten.toArray:=λm=>by have:=ku b m [];rw[bP]at this;exact this
  rw[B];cases b with
  |nil=>simp
  |cons a r'=>rw[aR (by simp)]
 refine wpAny_binaryOp_repeat_ref (by decide) ⟨_,e,rfl⟩ (λA=>typeIs_int A k t) noFill_list_mul F.fills_int_mul F.slot_int_rmul repeat_list F.slot_int_index.lookup
  (call_meets F.slot_int_rmul (typeIs_int s k t) F.entry_int_rmul (F.args_int_rmul_2 _ _) (int___rmul___int_list k t l b.toArray n)
   ⟨e,rfl,⟨_,e,rfl⟩,call_meets F.slot_list_mul ⟨_,e,rfl⟩ F.entry_list_mul (F.args_list_mul_2 _ _) (AutoListH.list___mul___list_int_3 l b.toArray n k t f d c) ⟨e,?_⟩⟩)
 rw[g];exact⟨.ref _,_,I.lnew (r.rep k.toNat) (by rw[pS,bQ];exact o),rfl,q _ I.fresh⟩
end
end L2
namespace Att
open PySem PySem.W PySem.Calls PyProof.Rows
def mQ:∀c vs,WellAll P h vs (c.map WData.int)->IntsAre vs c:=by
 intro c;induction c with
 |nil=>intro vs w;rw[List.map_nil]at w;cases w;exact .nil
 |cons n c ih=>
  intro vs w;rw[bw]at w;cases w with
  |cons a b=>cases a;exact .cons _ _ (ih _ b)
theorem script_of{l:OpenLaw}(p:l.most=some n)
  (b:l.row.toRowW.claim.pre args=true) (g:WellAll P h vals args) :
  ∃a vs c,vals=[Value.ref a]/\args=[WData.list (c.map WData.int)]/\h.get? a=some {cls:=.type "list",data:=.seq vs.toArray}/\IntsAre vs c/\c.length<=n:=by
 have i:=(pre_splitW b).1;have j:l.pre.holds [] {args:=args}=true:=(pre_splitW b).2;obtain⟨d,r,rfl,m,o⟩:=hasAllW_cons i;obtain rfl:=hasAllW_nil o;obtain⟨t,rfl,k⟩:=hasW_list m;obtain⟨c,rfl⟩:=items_int k;have s:c.length<=n:=by
  unfold OpenLaw.pre at j;have e:(WTm.not (.lt (.lit (.int n)) (.len (.arg 0)))).holds [] {args:=[.list (c.map .int)]}=true:=by have e:=(holds_andW j).1;rw[p]at e;exact e
  have f:=condW_of e (w_not (w_lt w_lit (w_len_list (w_arg rfl))));rw[aw]at f;refine Nat.le_of_not_lt λq=>?_;first
   | (rw[aC q']at f;exact absurd f (by decide))
   | (simp at f;omega)
 cases g with
 |cons w1 w2=>
  cases w2;cases w1 with
  |list ho BC=>exact⟨_,_,c,rfl,rfl,ho,mQ c _ BC,s⟩
def post_true(l:OpenLaw) args:l.row.toRowW.claim.post args (.bool true) args=true:=
 postW_of
  (show WShape.has [] (.bool true) .bool=true by first|rfl|decide|simp[WShape.has,WShape.arms,WShape.armsAll])
  (w_eq_bool (w_res rfl) w_lit) rfl
end Att
namespace L2
open PySem PySem.Spec PyProof.Rows
theorem pq:∀{vs} {ns},IntsAre vs ns->dQ (ns.map V.int) vs
 |_,_,.nil=>.nil
 |_,_,.cons n t h=>.cons ⟨t,rfl⟩ (pq h)
def Cn(H:Hp):Prop:=∀b,H b=none\/∃o a,H b=some (.frz o (.lst a))
def sE(h:Heap)(H:Hp)(a:List (Addr×Addr)):Heap:=⟨(xb h H).objs,{ids:=a}⟩
theorem yW{K:W.Frag}
  (KX:K.In s₁.heap) (B:s₁.heap.Ns mainGlobals mg) (f:s₁.heap.Ns builtinsNs mb) (U:∀x:Str,x≠ "__name__" ->mb x=bootBuiltins x) (I:s₁.heap.NoLimit) (hg:s₁.gens = #[])
  (L:s₁.heap.get? a=some {cls:=.type "list",data:=.seq vs.toArray}) (hi:IntsAre vs ns) (hl:ns.length<=sizeLine) (hr:fw k callerA)
  (F:∀i:Heap,K.In i->i.Ns mainGlobals mg->iY P w K mg i CX k fa fd [x] sp) (p:∀(s:Sq) (u:Vq),BindsTo s fd ⟨[u],[]⟩ [(x,u)])
  (Y:∀H:Hp,Cn H->iC K H a (ns.map V.int)->sp [.ref a] H (λv _=>v=.bl true) λ_ _ _=>False)
  (R:∀H e g,CX [] H s₁ (λ_ _ _=>False) e g->False) :
  codeAny (model P w) callerA (.call (.ref fa) ⟨[.ref a],[]⟩) (λr g=>r=.ok (.ret (.bool true))/\OldK s₁.heap g.heap/\g.os=s₁.os/\AllBare g.gens) s₁:=by
 have rv:=pq hi;have y:=hi.length;have l:∀H:Hp,Cn H->iC K H a (ns.map V.int)->md P w H s₁.heap->(∀b,H b≠none->b=a)->(H a≠none->K.lookup a=none)->
   codeAny (model P w) callerA (.call (.ref fa) ⟨[.ref a],[]⟩) (λr g=>r=.ok (.ret (.bool true))/\OldK s₁.heap g.heap/\g.os=s₁.os/\AllBare g.gens) s₁:=by
  intro H hO hS C Z hK;have base_of:∀{b:Addr} {o:Obj},s₁.heap.get? b=some o->H b=none->(sE s₁.heap H []).get? b=some o:=λe n=>ye e n;have Q:∀{b:Addr} {o:Obj} {N:Array DictEntry} {J:Nat},s₁.heap.get? b=some o->o.data=.dict N J->H b=none:=λ{b o N J} e d=>by
   cases q:H b with
   |none=>rfl
   |some u=>have X:=Z b (by rw[q];simp);subst X;rw[L]at e;cases e;have d':=d;cases d'
  have j:∀{b:Addr} {m:Str->Option Value},s₁.heap.Ns b m->(sE s₁.heap H []).Ns b m:=λ{b m} ⟨o,N,J,e,d,r⟩=>⟨o,N,J,base_of e (Q e d),d,r⟩;have E:K.In (sE s₁.heap H []):=λb o e=>base_of (KX b o e) (by
   cases q:H b with
   |none=>rfl
   |some u=>have X:=Z b (by rw[q];simp);subst X;rw[hK (by rw[q];simp)]at e;cases e)
  have hM:Mod K mg (sE s₁.heap H []):=⟨E,j B,⟨mb,j f,U⟩,let ⟨mc,h1,h2⟩:=I;⟨mc,j h1,h2⟩⟩;have e0:t5 P w K mg (sE s₁.heap H []) callerA [] s₁ H:=⟨rfl,hM,λb o e=>Bu e,Nat.le_of_eq (wy _ _),trivial,λb f=>absurd (show b∈([]) from f) (by simp),C,.of_eq hg,λc P qn hm=>nomatch (show (c,P)∈([]:List (Addr×Addr)) from hm)⟩;refine codeAny_mono ((F _ E (j B)).run callerA [] s₁ H ⟨[.ref a],[]⟩ [.ref a] [.ref a] _ _ hr e0 (p s₁ (.ref a)) (.cons rfl .nil) (Y H hO hS)) λr g h=>?_;cases r with
  |error e=>exact (R H e g h).elim
  |ok fl=>
   cases fl with
   |next=>exact False.elim h
   |brk=>exact False.elim h
   |cont=>exact False.elim h
   |ret u=>
    obtain⟨v,H',os,A,un,D,r',q⟩:=h;have q':=q;subst q';obtain rfl:u=Value.bool true:=r';refine⟨rfl,OldK.of_keep λb o e=>?_,os,A⟩;cases q:H b with
    |none=>exact un.keep b o e q (by intro z;exact absurd (show b∈([]) from z) (by simp)) (by simp)
    |some u=>
     rcases hO b with z|⟨ob,xs,z⟩
     .rw[q]at z;cases z
     .have z2:=un.frzs b ob _ z;obtain⟨e1,_⟩:=C b _ z;obtain⟨e2,_⟩:=D b _ z2;rw[e]at e1;cases e1;exact e2
 cases S:K.lookup a with
 |some o=>have e:=KX a o S;rw[L]at e;cases e;refine l (λ_=>none) (λ_=>.inl rfl) (.inr ⟨_,vs.toArray,_,S,rfl,rfl,rfl,by rw[bu,y];exact hl,by simpa using rv⟩) (λb u z=>by have t:=z;cases t) (λb z=>absurd rfl z) λz=>absurd rfl z
 |none=>
  refine l (λb=>if b=a then some (.frz {cls:=.type "list",data:=.seq vs.toArray} (.lst (ns.map V.int))) else none) (λb=>?_) (.inl (.inr ⟨{cls:=.type "list",data:=.seq vs.toArray},aQ rfl⟩)) (λb u z=>?_) (λb z=>?_) λ_=>S
  .by_cases f:b=a
   .exact .inr ⟨_,_,aQ f⟩
   .exact .inl (aR f)
  .by_cases f:b=a
   .have t:=(aQ f).symm.trans z;cases t;subst f;exact⟨L,by rw[aw];exact hl,vs,_,rv,L⟩
   .have t:=(aR f).symm.trans z;cases t
  .by_cases f:b=a
   .exact f
   .exact absurd (aR f) z
end L2
namespace L2
open PySem PySem.Spec PyProof.Rows
noncomputable def kr(s:Stmt)(j:Nat):Stmt:=match s with
 |.ClassDef _ _ _ body _ _ _ _ _ _ _=>body.getD j (.Pass ⟨0,0,0,0⟩)
 |_=>.Pass ⟨0,0,0,0⟩
noncomputable def fF(s:Stmt):Arguments:=match s with
 |.FunctionDef _ a _ _ _ _ _ _ _ _=>a
 |_=>{posonlyargs:=[],args:=[],vararg:=none,kwonlyargs:=[],kw_defaults:=[],kwarg:=none,defaults:=[]}
noncomputable def ed(s:Stmt):List Stmt:=match s with
 |.FunctionDef _ _ b _ _ _ _ _ _ _=>b
 |_=>[]
noncomputable def c8(s:Stmt):Scope:=match s with
 |.FunctionDef _ _ _ _ _ _ sc _ _ _=>sc
 |_=>{kind:=.function,names:=[],isGenerator:=false,isCoroutine:=false}
abbrev og:Bd:=λ_ _ _ _ _ _=>False
abbrev E0:XK:=λ_ _ _=>False
def zm:mh og X E0:=λ_ _ _ _ _ _ _ h=>h.elim
structure zD(K:W.Frag)(x qual:Str)(st:Stmt)(f:Addr)(fd:FuncData):Prop where
 ex:∃(oc:Vq) (od:Oq Addr) (kV doc pm:Vq) (an:Oq Addr) (cdv ct:Vq) (osl:Array (Option Value)),
  fd=W.fnOf x qual (fF st) (ed st) (c8 st) .none kV doc pm an cdv ct/\K.lookup f=some ⟨oc,od,.func fd,osl⟩/\W.codeIn K cdv qual=true
 kp:W.keepIn K (.ref f)=true
section
variable {P:Program}{w:World}{K:W.Frag}{mg:Str->Option Value}{base:Heap}
def zD.ok{st:Stmt}(F:zD K x qual st f fd)(S:fB N ps (c8 st))(len:∀vs H Q E,sp vs H Q E->vs.length=ps.length)
  (c:∀b A a s H vs Q E,fw k (A.deeper (envOfC qual (c8 st) s.heap.objs.size f b))->sp vs H Q E->
   ∃t,qZ (j9 og P w K mg base N qual (c8 st) f b A a s H E).nox (ed st) t/\t {nx:=λ_ g=>Q .non g,rt:=Q} (iy N vs) H):iY P w K mg base og (k+1) f fd ps sp:=by
 obtain⟨p,n,kV,j,o,m,b,l,i,rfl,lk,d⟩:=F.ex;refine Gh lk d S len λA a s H vs Q E hr e=>?_;obtain⟨t,h,q⟩:=c b A a s H vs Q E hr e;exact⟨t,h.nox,q⟩
def zD.binds{st:Stmt}(F:zD K x qual st f fd)
  (h:∀(kV b d:Vq) (c:Oq Addr) (a e:Vq) (us:List Vq),us.length=ps.length->bindArgs (W.fnOf x qual (fF st) (ed st) (c8 st) .none kV b d c a e) ⟨us,[]⟩=pure (ps.zip us)):jX K fd ps []:=by
 obtain⟨j,k,kV,b,d,c,a,e,g,rfl,lk,i⟩:=F.ex;exact .all (h kV b d c a e)
def sO{st:Stmt}{kV b d a e:Vq}(l:K.lookup f=some ⟨oc,od,.func (W.fnOf x qual (fF st) (ed st) (c8 st) .none kV b d an a e),osl⟩)
  (c:W.codeIn K a qual=true) (k:W.keepIn K (.ref f)=true):zD K x qual st f (W.fnOf x qual (fF st) (ed st) (c8 st) .none kV b d an a e):=⟨⟨oc,od,kV,b,d,an,a,e,osl,rfl,l,c⟩,k⟩
end
section
variable {X:Cx}
def pv i (c:X.N[i]? = some x:=by rfl) (b:Gn X.env.scope x:=by first|exact Or.inl rfl|exact Or.inr (Or.inl rfl)|exact Or.inr (Or.inr rfl)) (d:(x==("__debug__" : Str))=false:=by decide)
  (a:(x==("__classdict__" : Str))=false:=by decide):PE X (.Name x pos) (kC i):=DU c b d a
end
def wN(o:HO)(x:Oq HO):Prop:=match o with
 |.tbl q ps=>∃a,x=some (.tbl q (ps++a))
 |o=>x=some o
def wN.of(h:x=some o):wN o x:=by
 cases o with
 |tbl q ps=>exact⟨#[],by rw[h];simp⟩
 |_=>exact h
def wN.ne(h:wN o x):x≠none:=by
 cases o with
 |tbl q ps=>obtain⟨m,e⟩:=h;rw[e];exact λz=>nomatch z
 |_=>have e:x=some _:=h;rw[e];exact λz=>nomatch z
def dH(H a:Hp):Prop:=∀b o,H b=some o->wN o (a b)
def dH.refl H:dH H H:=λ_ _ h=>.of h
def dH.trans(a:dH H H1)(b:dH H1 H2):dH H H2:=λc o h=>by
 have q:=a c o h;cases o with
 |tbl q ps=>obtain⟨m,e⟩:=q;obtain⟨d,f⟩:=b c _ e;exact⟨m++d,by rw[f,bo]⟩
 |_=>exact b c _ q
def dH.seq{K:W.Frag}(e:dH H H')(h:iC K H a xs):iC K H' a xs:=by
 rcases h with (h|⟨o,h⟩)|h
 .exact .inl (.inl (e _ _ h))
 .exact .inl (.inr ⟨o,e _ _ h⟩)
 .exact .inr h
end L2
namespace L2
open PySem PySem.Spec PyProof.Rows
section
variable {P:Program}{w:World}{H:Hp}{h:Heap}{a:Addr}{o:HO}
def md.track(ok:md P w H h)(d:H a=none)(new:iZ P w (fT H a o) h a o):md P w (fT H a o) h:=λb u e=>by
 by_cases f:b=a
 .subst f;rw[du]at e;cases e;exact new
 .rw[dB f]at e;refine (ok b u e).stay (λ_ _ _ q=>q) (λc q=>?_) λc g q=>?_
  .rw[dB (dZ q d)];exact q
  .rw[dB (dZ q d)];exact q
end
def dD.track(I:dD X cV σ H s)(d:H a=none)(i:a∈X.ex\/X.s₀.heap.objs.size<=a)
  (g:a≠X.env.locals) (j:∀x c,X.env.cells.lookup x=some c->c≠a) (h:∀p∈X.pn++cV,p.1≠a) (new:iZ X.prog X.w (fT H a o) s.heap a o):dD X cV σ (fT H a o) s:=by
 have J:=I.step (t':=s.toks) (d':=s.drawn) (ch:=[a])
  (λb f=>by
   have e:b=a:=by simpa using f
   subst e;exact⟨i,g,j,h⟩)
  (λ_ _ _ _ _ e _=>e) (λ_ u _ _ _ e _=>⟨u.slots,e⟩)
  (λb u f _ n=>by rw[dB (by simpa using f)];exact n)
  (λ_ u _ e=>⟨u,e⟩)
  (λb l q=>by rw[dB (dZ q d)];exact q)
  (λb u v q=>by rw[dB (dZ q d)];exact q)
  (λb _ k q=>⟨#[],by rw[dB (dZ q d),q];simp⟩)
  (λ_ q=>q) (I.hok.track d new) I.bare
 exact J
noncomputable def iq(a:Env):List (Str×NameKind)->List (Str×Addr)->List (Str×Addr)
 |[],acc=>acc
 | (n,k)::r,acc=>if k==NameKind.free then (match a.cells.lookup n with
  |some c=>iq a r ((n,c)::acc)
  |none=>iq a r acc) else iq a r acc
def kH(h:∀y∈scope.names,y.2=.free->∃c,env.cells.lookup y.1=some c):closureFor scope env=pure (iq env scope.names []):=by
 have all:∀(l:List (Str×NameKind)) b,(∀y∈l,y.2=.free->∃c,env.cells.lookup y.1=some c)->
   (forIn l b λx m=>(if (x.2==NameKind.free)=true then (do
    let a <-cellOf env x.1
    pure (ForInStep.yield ((x.1,a)::m))) else pure (ForInStep.yield m):Sem _))=pure (iq env l b):=by
  intro l;induction l with
  |nil=>intro b _;rfl
  |cons y r ih=>
   intro b j;obtain⟨n,k⟩:=y;rw[List.forIn_cons];by_cases f:(k==NameKind.free)=true
   .obtain⟨c,o⟩:=j (n,k) bh (by simpa using f);have d:=o;have e:cellOf env n=pure c:=by unfold cellOf;rw[d]
    simp only[f,if_true,e,pure_bind];rw[ih _ λy g=>j y (bj _ g)];show pure (iq env r ((n,c)::b))=pure (if (k==NameKind.free)=true then (match env.cells.lookup n with
     |some c=>iq env r ((n,c)::b)
     |none=>iq env r b) else iq env r b)
    rw[aQ f,d]
   .have i:(k==NameKind.free)=false:=by simpa using f
    simp only[i,bR,if_false,pure_bind];rw[ih _ λy g=>j y (bj _ g)];show pure (iq env r b)=pure (if (k==NameKind.free)=true then (match env.cells.lookup n with
     |some c=>iq env r ((n,c)::b)
     |none=>iq env r b) else iq env r b)
    rw[aR f]
 have:=all scope.names [] h;unfold closureFor;simp only[pure_bind,bind_pure]at this ⊢;exact this
theorem ig:∀{l} {acc},(∀y d,acc.lookup y=some d->env.cells.lookup y=some d)->(iq env l acc).lookup x=some c->env.cells.lookup x=some c
 |[],acc,ha,h=>ha x c h
 | (n,k)::r,acc,ha,h=>by
  unfold iq at h;by_cases b:(k==NameKind.free)=true
  .rw[aQ b]at h;cases e:env.cells.lookup n with
   |none=>rw[e]at h;exact ig ha h
   |some d=>
    rw[e]at h;refine ig (λy d' a=>?_) h;rw[bS]at a;cases q:y==n with
    |true=>rw[q]at a;cases a;rw[beq_iff_eq.mp q];exact e
    |false=>rw[q]at a;exact ha y d' a
  .rw[aR b]at h;exact ig ha h
theorem kn:∀{l} {acc},(∃c,acc.lookup x=some c)->∃c,(iq env l acc).lookup x=some c
 |[],_,h=>h
 | (n,k)::r,acc,h=>by
  unfold iq;by_cases a:(k==NameKind.free)=true
  .rw[aQ a];cases e:env.cells.lookup n with
   |none=>exact kn h
   |some d=>
    refine kn ?_;rw[bS];cases q:x==n with
    |true=>exact⟨d,rfl⟩
    |false=>exact h
  .rw[aR a];exact kn h
theorem ju:∀{l} {acc},(x,NameKind.free)∈l->(∃c,env.cells.lookup x=some c)->∃c,(iq env l acc).lookup x=some c
 | (n,k)::r,acc,b,a=>by
  rcases aF.mp b with e|b
  .cases e;obtain⟨c,a⟩:=a;unfold iq;rw[aQ (by rfl),a];refine kn ⟨c,?_⟩;rw[bS,beq_self_eq_true]
  .unfold iq;by_cases f:(k==NameKind.free)=true
   .rw[aQ f];cases env.cells.lookup n with
    |none=>exact ju b a
    |some d=>exact ju b a
   .rw[aR f];exact ju b a
def lj(h:(relabel scope env).names.lookup x=some .cell\/(relabel scope env).names.lookup x=some .free):(x,NameKind.free)∈scope.names\/scope.names.lookup x=some .cell:=by
 have all:∀(l:List (Str×NameKind)),∀k,(k=NameKind.cell\/k=NameKind.free)->
   (l.map λ(n,k)=>if (k==NameKind.free&&env.scope.kind==.function&&env.kindOf n==some .cell) then (n,NameKind.cell) else (n,k)).lookup x=some k->(x,NameKind.free)∈l\/l.lookup x=some .cell:=by
  intro l;induction l with
  |nil=>intro k _ h;simp at h
  |cons y r ih=>
   intro k c h;obtain⟨n,b⟩:=y;rw[bw]at h;by_cases a:(b==NameKind.free&&env.scope.kind==.function&&env.kindOf n==some .cell)=true
   .have d:b=.free:=by simp only[bI,beq_iff_eq]at a;exact a.1.1
    simp only[a,if_true]at h;rw[bS]at h;cases q:x==n with
    |true=>rw[d,beq_iff_eq.mp q];exact .inl bh
    |false=>
     rw[q]at h;rcases ih k c h with z|z
     .exact .inl (bj _ z)
     .exact .inr (by rw[bS,q];exact z)
   .simp only[a,bR,if_false]at h;rw[bS]at h;cases q:x==n with
    |true=>
     rw[q]at h;have e:b=k:=by simpa using h
     rcases c with rfl|rfl
     .exact .inr (by rw[bS,q,e])
     .rw[e,beq_iff_eq.mp q];exact .inl bh
    |false=>
     rw[q]at h;rcases ih k c h with z|z
     .exact .inl (bj _ z)
     .exact .inr (by rw[bS,q];exact z)
 rcases h with h|h
 .exact all scope.names _ (.inl rfl) h
 .exact all scope.names _ (.inr rfl) h
def qT(h:scope.names.lookup x=some .free):(relabel scope env).names.lookup x=some .cell\/(relabel scope env).names.lookup x=some .free:=by
 have all:∀(l:List (Str×NameKind)),l.lookup x=some .free->
   (l.map λ(n,k)=>if (k==NameKind.free&&env.scope.kind==.function&&env.kindOf n==some .cell) then (n,NameKind.cell) else (n,k)).lookup x=some .cell\/
   (l.map λ(n,k)=>if (k==NameKind.free&&env.scope.kind==.function&&env.kindOf n==some .cell) then (n,NameKind.cell) else (n,k)).lookup x=some .free:=by
  intro l;induction l with
  |nil=>intro h;simp at h
  |cons y r ih=>
   intro h;obtain⟨n,k⟩:=y;rw[bw];rw[bS]at h;cases q:x==n with
   |true=>
    rw[q]at h;have b:k=.free:=by simpa using h
    by_cases a:(k==NameKind.free&&env.scope.kind==.function&&env.kindOf n==some .cell)=true
    .refine .inl ?_;simp only[a,if_true];rw[bS,q]
    .refine .inr ?_;simp only[a,bR,if_false];rw[bS,q,b]
   |false=>
    rw[q]at h;by_cases a:(k==NameKind.free&&env.scope.kind==.function&&env.kindOf n==some .cell)=true
    .simp only[a,if_true];rw[bS,q];exact ih h
    .simp only[a,bR,if_false];rw[bS,q];exact ih h
 exact all scope.names h
def vR(X:Cx)(a:List Expr)(t:TT):Prop:=
 ∀(d:List (Addr×Obj)) (s:Sq) (b:St) (H:Hp) (Q:Bool->Hp->Prop),dD X d b H s->t b H Q->
  wpAny (model X.prog X.w) X.A (forIn a true λc r=>if r=true then do let ok <-isTrue c X.env (eval c X.env);pure (ForInStep.yield ok) else pure (ForInStep.yield r)) (TP X d b Q) X.xe s
def Es:TT:=λ_ H Q=>Q true H
def Bq:vR X [] Es:=λ_ _ _ H _ I h=>wpAny_tests_nil ⟨H,I,h⟩
def zS(a:PT X c t):vR X [c] t:=λb s d H Q I h=>wpAny_tests_one (a b s d H Q I h)
theorem i7:∀a k b,(cellsFrom k a b).lookup x=some c->b.lookup x=some c\/(k<=c/\(x,NameKind.cell)∈a)
 |[],_,_,h=>.inl h
 | (n,kd)::r,k,b,h=>by
  unfold cellsFrom at h;split at h
  .rename_i e;rcases i7 r _ _ h with q|⟨q,m⟩
   .rw[bS]at q;cases d:x==n with
    |true=>rw[d]at q;cases q;refine .inr ⟨aK _,?_⟩;rw[beq_iff_eq.mp d,beq_iff_eq.mp e];exact bh
    |false=>rw[d]at q;exact .inl q
   .exact .inr ⟨bT q,bj _ m⟩
  .rcases i7 r _ _ h with q|⟨q,m⟩
   .exact .inl q
   .exact .inr ⟨q,bj _ m⟩
theorem ik:∀a k b,(x,NameKind.cell)∉a->(cellsFrom k a b).lookup x=b.lookup x
 |[],_,_,_=>rfl
 | (n,kd)::r,k,b,h=>by
  unfold cellsFrom;have hr:(x,NameKind.cell)∉r:=λz=>h (bj _ z);split
  .rename_i d;rw[ik r _ _ hr,bS];cases c:x==n with
   |true=>exact absurd (by rw[beq_iff_eq.mp c,beq_iff_eq.mp d];exact bh) h
   |false=>rfl
  .exact ik r _ _ hr
theorem jt:∀a k b,(x,NameKind.cell)∈a->(cellsFrom k a b).lookup x=some c->k<=c
 |[],_,_,h,_=>nomatch h
 | (n,kd)::r,k,b,h,e=>by
  unfold cellsFrom at e;by_cases hr:(x,NameKind.cell)∈r
  .split at e
   .exact bT (jt r _ _ hr e)
   .exact jt r _ _ hr e
  .rcases aF.mp h with q|q
   .cases q;rw[aQ (by rfl),ik r _ _ hr,bS,beq_self_eq_true]at e;cases e;exact aK _
   .exact absurd q hr
theorem jr:∀d k a,(∀x y c,a.lookup x=some c->a.lookup y=some c->x=y)->(∀x c,a.lookup x=some c->c<k)->
  ∀x y c,(cellsFrom k d a).lookup x=some c->(cellsFrom k d a).lookup y=some c->x=y
 |[],_,_,h,_=>h
 | (n,kd)::r,k,a,h,hl=>by
  unfold cellsFrom;split
  .refine jr r (k+1) ((n,k)::a) (λx y c b e=>?_) λx c b=>?_
   .rw[bS]at b e;cases f:x==n with
    |true=>
     cases g:y==n with
     |true=>rw[beq_iff_eq.mp f,beq_iff_eq.mp g]
     |false=>rw[f]at b;rw[g]at e;cases b;exact absurd (hl _ _ e) (a9 _)
    |false=>
     rw[f]at b;cases g:y==n with
     |true=>rw[g]at e;cases e;exact absurd (hl _ _ b) (a9 _)
     |false=>rw[g]at e;exact h x y c b e
   .rw[bS]at b;cases f:x==n with
    |true=>rw[f]at b;cases b;exact bx _
    |false=>rw[f]at b;exact bU (hl x c b)
  .exact jr r k a h hl
theorem i8:∀a h b,(cellsFrom h.objs.size a b).lookup x=some c->b.lookup x=some c\/(h.objs.size<=c/\(pushCells h a).IsCell c none)
 |[],_,_,e=>.inl e
 | (n,kd)::r,h,b,e=>by
  unfold cellsFrom at e;unfold pushCells;split at e
  .rename_i d;rw[aQ d];have g:(cellsFrom (h.push {cls:=.type "cell",data:=.cell none}).objs.size r ((n,h.objs.size)::b)).lookup x=some c:=by rw[Heap.size_push];exact e
   rcases i8 r _ _ g with q|⟨q,m⟩
   .rw[bS]at q;cases f:x==n with
    |true=>rw[f]at q;cases q;exact .inr ⟨aK _,_,pushCells_keeps r _ _ _ (ar _ rfl),rfl⟩
    |false=>rw[f]at q;exact .inl q
   .rw[Heap.size_push]at q;exact .inr ⟨bT q,m⟩
  .rename_i d;rw[aR d];exact i8 r _ _ e
def l8{M:Model}{A:Around}{E:Vq->Shared->Prop}{s:Sq}{a:Scope}{globals:Addr}{closure:List (Str×Addr)}{c:Str}{e:Oq Addr}{d:Vq}{b:Env}{builtins:Addr}{Q:Env->Shared->Prop}
  (j:Q (newEnv a s.heap.objs.size globals (cellsFrom (s.heap.objs.size+1) a.names closure) c e d (some b) builtins) {s with heap:=pushCells (s.heap.push {cls:=.type "dict",data:=.dict #[]}) a.names}) :
  wpAny M A (newFunctionEnv a globals closure [] c e d (some b) builtins) Q E s:=by
 simp only[newFunctionEnv,Option.isSome_some,if_true];refine ao (wpAny_alloc ?_);refine ao (wpAny_layCells _ (λi f g=>by cases h:f==NameKind.cell<;>simp[h]) _ _ _ _ ?_);rw[show ({s with heap:=s.heap.push {cls:=.type "dict",data:=.dict #[]}}:Sq).heap.objs.size=s.heap.objs.size+1 from Heap.size_push ..];rw[List.forIn_nil];exact ao (ak (ak j))
noncomputable def iJ(X:Cx)(N:List Str)(a:Scope)(C:Addr)(b:Sq)(H:Hp)(ex:List Addr)(pn:List (Addr×Obj)):Cx:={X with N:=N,s₀:=b,H₀:=H,env:=compEnvC a (cellsFrom (C+1) a.names (iq X.env a.names [])) C X.env,outer:=X.stack,ex:=ex,fn:=λx=>a.names.lookup x==some .cell,pn:=pn,xe:=λ_ _=>False}
noncomputable def pull(a:List (Option Nat))(b:St):St:=a.map fun
 |none=>none
 |some j=>(b[j]?).getD none
def Ho(J:It)(h:List (Option Nat))(g:TG)(o:TT)(k:TE)(p:St)(n:Hp)(Q:VK):Prop:=∃W:Nat->Nat->List V->Hp->Prop,(∃m,W 0 m [] n)/\∀i m d H,W i m d H->
 (J.stop i H/\∀D,H D=none->Q (.ref D) (fT H D (.lst d)))\/
 (J.go i H/\d.length<sizeLine/\∀x e,J.yld i H x e->g x (pull h p) e λa l=>o a l λb f=>if b=true then k a f λy j=>∃c,c<m/\W (i+1) c (d++[y]) j else ∃c,c<m/\W (i+1) c d f)
def zw(b:List (Option Nat))(e:TI)(g:TG)(d:TT)(f:TE):TE:=λa H Q=>e a H λJ c=>Ho J b g d f a c Q
end L2
namespace L2
open PySem PySem.Spec PyProof.Rows
section
variable {prog:Program}{w:World}{A:Around}{R:Result->Shared->Prop}{s:Sq}
theorem qk{p F l:Expr}{q:List Expr}{e:Scope}{C:Pos}{it t:Vq}{a:Env}(J:Nat->Shared->Prop)
  (u:∀n s,J n s->wpAny (model prog w) A (pyNext it) (λr d=>match r with
   |none=>R (.ok .next) d
   |some v=>wpAny (model prog w) A (letOwnedTupleGo F it v) (λ_ f=>wpAny (model prog w) A (assign F a v) (λ_ g=>
     wpAny (model prog w) A (forIn q true λc r=>if r=true then do let ok <-isTrue c a (eval c a);pure (ForInStep.yield ok) else pure (ForInStep.yield r)) (λok b=>
      if ok=true then wpAny (model prog w) A (eval p a) (λx k=>wpAny (model prog w) A (call (.builtin "list.append") [t,x]) (λ_ o=>∃m,m<n/\J m o) (λ_ _=>False) k) (λ_ _=>False) b
      else ∃m,m<n/\J m b) (λ_ _=>False) g) (λ_ _=>False) f) (λ_ _=>False) d) (λ_ _=>False) s)
  (n:Nat) (h:J n s):codeAny (model prog w) A (.compLoop (.ListComp p [⟨F,l,q,0⟩] e C) 0 it t a) R s:=by
 refine codeAny_loop rfl J (λn s H=>?_) n h;show wpAny _ A ((compTurn (.ListComp p [⟨F,l,q,0⟩] e C) 0 it t a).onRaise (λx=>do noteFrame x a;theTreesLotGoes x)) _ _ s;refine wpAny_noted ?_;rw[compTurn_list];refine ao (wpAny_standAt (ao (wpAny_mono (u n s H) (λr d j=>?_) λ_ _ z=>z.elim)));cases r with
 |none=>exact ak j
 |some v=>
  refine ao (wpAny_mono j (λ_ f D=>?_) λ_ _ z=>z.elim);refine ao (wpAny_mono D (λ_ g B=>ao (wpAny_mono B (λok b i=>?_) λ_ _ z=>z.elim)) λ_ _ z=>z.elim);cases ok with
  |false=>exact ak ⟨rfl,i⟩
  |true=>exact ao (ao (wpAny_mono i (λx k y=>ao (wpAny_mono y (λ_ o E=>ak (ak ⟨rfl,E⟩)) λ_ _ z=>z.elim)) λ_ _ z=>z.elim))
end
def jJ(c:List (Option Nat))(g:TG):Prop:=∀x a H Q,g x a H Q->g x a H λb d=>(∀i j:Nat,c[i]? = some (some j)->b[i]? = a[i]?)/\Q b d
def nr(a:ix[k]? = some none):jJ ix (f6 k):=λx b H Q h=>by
 refine⟨λi j e=>?_,h⟩;have:k≠i:=by rintro rfl;rw[a]at e;cases e
 rw[aq this]
abbrev oo(us:List Vq):Obj:={cls:=.type "list",data:=.seq us.toArray us.length}
section
variable {X:Cx}{tg elt iter:Expr}{ifs:List Expr}{scope:Scope}{pos:Pos}{N:List Str}{ix:List (Option Nat)}{wi:TI}{g:TG}{tt:TT}{te:TE}
structure sI(X:Cx)(scope:Scope)(N:List Str)(ix:List (Option Nat)):Prop where
 kind:scope.kind=.function
 sep:∀y∈scope.names,y.2=.cell->scope.names.lookup y.1=some .cell
 names:∀y∈scope.names,y.2=.local->scope.names.lookup y.1=some .local
 fre:∀y∈scope.names,y.2=.free->∃c,X.env.cells.lookup y.1=some c
 len:N.length=ix.length
 ix:∀(i j:Nat) (x:Str),N[i]? = some x->ix[i]? = some (some j)->X.N[j]? = some x/\scope.names.lookup x=some .free/\Gn X.env.scope x/\X.env.kindOf x≠some .local
def FI(L:sI X scope N ix)(I:dD X cV σ H s)(f:∀b∈fp,mT X cV H b)(j:∀b∈fp,b<s.heap.objs.size) o :
  (iJ X N scope (s.heap.objs.size+1) {s with heap:=s.heap.push o} H (s.heap.objs.size::fp) (X.pn++cV)).Ok:=by
 have v:dD X cV σ H {s with heap:=s.heap.push o}:=I.kept λb u e=>ae _ e;have sound0:∀x c,(iq X.env scope.names []).lookup x=some c->X.env.cells.lookup x=some c:=λx c e=>ig (λy d z=>by simp at z) e;have cellLt:∀x c,X.env.cells.lookup x=some c->c<s.heap.objs.size:=λx c e=>let ⟨_,q⟩:=I.cell x c e;q.lt;have h:∀x c,(cellsFrom (s.heap.objs.size+1+1) scope.names (iq X.env scope.names [])).lookup x=some c->X.env.cells.lookup x=some c\/s.heap.objs.size+1+1<=c:=λx c e=>by
  rcases i7 _ _ _ e with q|⟨q,_⟩
  .exact .inl (sound0 x c q)
  .exact .inr q
 refine⟨I.ok.mod,L.kind,I.ok.glob,I.ok.blt,?_,jr _ _ _ (λx y c i n=>I.ok.inj x y c (sound0 x c i) (sound0 y c n)) (λx c i=>bU (bU (cellLt x c (sound0 x c i)))),λx r=>?_,λx c i n=>?_,I.ok.hd,I.ok.frames,.inl rfl,λb a=>?_,λb u e=>?_,?_,λb u e a=>?_,λb a=>?_,v.stack,I.stkFree,I.tab⟩
 .show (s.heap.push o).objs.size<=s.heap.objs.size+1;rw[Heap.size_push];exact aK _
 .refine bE.mp (W.cellsFrom_some _ _ _ ?_);rcases lj r with k|k
  .exact .inr (bE.mpr (ju k (L.fre _ k rfl)))
  .exact .inl k
 .have l:(scope.names.lookup x==some .cell)=true:=i;have t:scope.names.lookup x=some .cell:=by simpa using l
  show (s.heap.push o).objs.size<=c;rw[Heap.size_push];exact bT (jt _ _ _ (PySem.mem_of_lookup t) n)
 .rcases aF.mp a with rfl|a
  .refine⟨aM (bx _),λx c e z=>?_⟩;rcases h x c e with q|q
   .exact absurd (cellLt x c q) (by rw[z];exact a9 _)
   .rw[z]at q;omega
  .refine⟨aM (bU (j b a)),λx c e=>?_⟩;rcases h x c e with q|q
   .exact (f b a).2.2.2.2.1 x c q
   .intro z;rw[z]at q;exact absurd (aN (bV _ 2) q) (Nat.not_le.mpr (j b a))
 .exact⟨ae _ (I.bs b u e).1,(I.bs b u e).2⟩
 .show X.base.objs.size<=(s.heap.push o).objs.size;rw[Heap.size_push];exact bW (aN I.ok.bsz I.sz)
 .have m:=aL (I.bs b u e).1;rcases aF.mp a with rfl|a
  .exact a9 _ m
  .rcases (f b a).2.2.2.1 with z|z
   .exact I.ok.noex b u e z
   .exact absurd (aE (aL e) (aN I.ok.bsz z)) (a9 _)
 .intro z;have p:=I.stkSub b z;rcases aF.mp a with rfl|a
  .rcases aF.mp p with q|q
   .exact absurd I.lt (by rw[<-q];exact a9 _)
   .exact I.nofs (aK _) q
  .rcases aF.mp p with q|q
   .exact (f b a).2.1 q
   .exact (f b a).2.2.1 q
end
end L2
namespace L2
open PySem PySem.Spec PyProof.Rows
section
variable {X:Cx}{tg elt iter:Expr}{ifs:List Expr}{scope:Scope}{pos:Pos}{N:List Str}{ix:List (Option Nat)}{wi:TI}{g:TG}{tt:TT}{te:TE}
def rg{i:Nat}(h:(pull ix σ)[i]? = some (some v)):∃j,ix[i]? = some (some j)/\σ[j]? = some (some v):=by
 unfold pull at h;rw[av]at h;cases e:ix[i]? with
 |none=>rw[e]at h;cases h
 |some k=>
  rw[e]at h;cases k with
  |none=>cases h
  |some j=>
   refine⟨j,rfl,?_⟩;have a:(σ[j]?).getD none=some v:=by simpa using h
   cases q:σ[j]? with
   |none=>rw[q]at a;cases a
   |some z=>rw[q]at a;simpa using a
theorem vh{RR:Vq->Addr->Result->Shared->Prop}{Q:VK}{W:Nat->Nat->List V->Hp->Prop}
  (hc:X.calm=true) (L:sI X scope N ix) (hgk:jJ ix g)
  (blk:∀C F H ex pn,PG (iJ X N scope C F H ex pn) tg g/\vR (iJ X N scope C F H ex pn) ifs tt/\PE (iJ X N scope C F H ex pn) elt te)
  (l:dD X cV σ H2 s2) (T:tW X.prog X.w X.K tg J fp it tn) (st2:tn 0 s2.heap) (f2:∀b∈fp,mT X cV H2 b) (w0:W 0 m0 [] H2)
  (turn:∀i m U H,W i m U H->(J.stop i H/\∀D,H D=none->Q (.ref D) (fT H D (.lst U)))\/
   (J.go i H/\U.length<sizeLine/\∀x s,J.yld i H x s->g x (pull ix σ) s λσ2 H2=>tt σ2 H2 λb H3=>if b=true then te σ2 H3 λy H4=>∃m',m'<m/\W (i+1) m' (U++[y]) H4 else ∃m',m'<m/\W (i+1) m' U H3))
  (fin:∀D C m s S,S.heap.Ns C m->mT X cV s C->dD X cV σ s S->Q (.ref D) s->RR (.ref D) C (.ok .next) S) :
  wpAny (model X.prog X.w) X.A (newList []) (λacc F=>wpAny (model X.prog X.w) X.A (newFunctionEnv scope X.env.globals (iq X.env scope.names []) [] X.env.qual none .none (some X.env)) (λcenv s₄=>codeAny (model X.prog X.w) X.A (.compStart (.ListComp elt [⟨tg,iter,ifs,0⟩] scope pos) 0 (.ref it) acc {cenv with scope:=relabel scope X.env}) (RR acc cenv.locals) s₄) E F) E s2:=by
 refine wpAny_newObj_type (l8 ?_);have hCs:(s2.heap.push {cls:=.type "list",dict:=none,data:=.seq ([]).toArray}).objs.size=s2.heap.objs.size+1:=Heap.size_push ..;generalize R:pushCells ((s2.heap.push {cls:=.type "list",dict:=none,data:=.seq ([]).toArray}).push {cls:=.type "dict",data:=.dict #[]}) scope.names=h₁;rw[hCs];have hns₁:h₁.Ns (s2.heap.objs.size+1) (λ_=>none):=by rw[<-R,<-hCs];exact (Heap.Ns.new _ _).keeps (pushCells_keeps _ _)
 have Y:∀x c,(cellsFrom (s2.heap.objs.size+1+1) scope.names (iq X.env scope.names [])).lookup x=some c->X.env.cells.lookup x=some c\/(s2.heap.objs.size+1+1<=c/\h₁.IsCell c none):=λx c e=>by
  have hs3:((s2.heap.push {cls:=.type "list",dict:=none,data:=.seq ([]).toArray}).push {cls:=.type "dict",data:=.dict #[]}).objs.size=s2.heap.objs.size+1+1:=by rw[Heap.size_push,hCs]
  rw[<-hs3]at e;rcases i8 _ _ _ e with q|⟨q,m⟩
  .exact .inl (ig (λy d z=>by simp at z) q)
  .rw[hs3]at q;rw[R]at m;exact .inr ⟨q,m⟩
 have fpObj:=T.obj 0 _ st2;have hlt:∀b∈fp,b<s2.heap.objs.size:=λb h=>let ⟨_,e,_⟩:=fpObj b h;aL e;have ok:=FI L l f2 hlt {cls:=.type "list",dict:=none,data:=.seq ([]).toArray};have DC:s2.heap.objs.size≠s2.heap.objs.size+1:=aM (bx _);have hold:∀b o,(s2.heap.push {cls:=.type "list",dict:=none,data:=.seq ([]).toArray}).get? b=some o->h₁.get? b=some o:=λb o e=>by rw[<-R];exact pushCells_keeps _ _ _ _ (ae _ e)
 have Z:∀b o,s2.heap.get? b=some o->h₁.get? b=some o:=λb o e=>hold b o (ae _ e);have sound:∀x c,(iq X.env scope.names []).lookup x=some c->X.env.cells.lookup x=some c:=λx c e=>ig (λy d z=>by simp at z) e;have cellLt:∀x c,X.env.cells.lookup x=some c->c<s2.heap.objs.size:=λx c e=>let ⟨_,q⟩:=l.cell x c e;q.lt;have hDn:=l.hok.fresh (aK _);have hCn:=l.hok.fresh (bC _);have t:∀p∈X.pn++cV,p.1<s2.heap.objs.size:=λp f=>aL (l.pin p f).1;have hDfs:s2.heap.objs.size∉wA X.stack:=λz=>by
  rcases aF.mp (l.stkSub _ z) with q|q
  .exact absurd l.lt (by rw[<-q];exact a9 _)
  .exact l.nofs (aK _) q
 have I':dD (iJ X N scope (s2.heap.objs.size+1) {s2 with heap:=s2.heap.push {cls:=.type "list",dict:=none,data:=.seq ([]).toArray}} H2 (s2.heap.objs.size::fp) (X.pn++cV))
   [(s2.heap.objs.size,oo [])] (pull ix σ) H2 {s2 with heap:=h₁,toks:=s2.toks}:=by
  refine⟨ok,rfl,l.bare,Un.kept hold,⟨_,hns₁,λi x v h1 h2 h3=>?_⟩,λx c e=>?_,hCn,λx c e=>?_,λp f=>?_,l.hok.kept Z,?_⟩
  .obtain⟨j,ej,es⟩:=rg h2;obtain⟨q1,q2,q3,q4⟩:=L.ix i j x h1 ej;obtain⟨m,_,hl⟩:=l.loc;obtain⟨u,r,lk⟩:=hl j x v q1 es q3;refine⟨u,r,?_⟩;rcases lk with⟨k,_⟩|⟨k,c,hcl,hv⟩
   .exact absurd k q4
   .obtain⟨c',hc'⟩:=ju (PySem.mem_of_lookup q2) ⟨c,hcl⟩;have:=sound x c' hc';rw[hcl]at this;cases this;have hnc:(x,NameKind.cell)∉scope.names:=λz=>by have:=L.sep _ z rfl;rw[q2]at this;cases this
    refine .inr ⟨?_,c,(ik _ _ _ hnc).trans hc',let ⟨ob,ho,hd⟩:=hv;⟨ob,Z c ob ho,hd⟩⟩;exact qT q2
  .rcases Y x c e with q|⟨_,q⟩
   .obtain⟨v,ob,ho,hd⟩:=l.cell x c q;exact⟨v,ob,Z c ob ho,hd⟩
   .exact⟨none,q⟩
  .rcases Y x c e with q|⟨q,_⟩
   .exact l.freeC x c q
   .exact l.hok.fresh (aN (bV _ 2) q)
  .rcases ai.mp f with f|f
   .obtain⟨e,n,ne,nf,d⟩:=l.pin p f;refine⟨Z _ _ e,n,aM (bU (t p f)),λz=>?_,d⟩;rcases aF.mp (l.stkSub _ z) with q|q
    .exact ne q
    .exact nf q
   .have e:p=(s2.heap.objs.size,oo []):=by simpa using f
    subst e;exact⟨hold _ _ (ar _ rfl),hDn,DC,hDfs,λv z=>by cases z⟩
  .unfold pull;rw[aw];exact L.len.symm
 generalize a:iJ X N scope (s2.heap.objs.size+1) {s2 with heap:=s2.heap.push {cls:=.type "list",dict:=none,data:=.seq ([]).toArray}} H2 (s2.heap.objs.size::fp) (X.pn++cV)=X' at I';obtain⟨hg,hif,he⟩:=blk (s2.heap.objs.size+1) {s2 with heap:=s2.heap.push {cls:=.type "list",dict:=none,data:=.seq ([]).toArray}} H2 (s2.heap.objs.size::fp) (X.pn++cV);rw[a]at hg hif he;have stat:∀{s:Hp} {P:List Vq},(∀b∈fp,s b=none)->∀b∈fp,mT X' [(s2.heap.objs.size,oo P)] s b:=λ{s P} hn b h=>by
  subst a;obtain⟨_,f1,f2',f3,f4,f5⟩:=f2 b h;refine⟨hn b h,aM (bU (hlt b h)),λz=>?_,.inl (bj _ h),λx c e=>?_,λp f=>?_⟩
  .rcases aF.mp (l.stkSub _ z) with q|q
   .exact f1 q
   .exact f2' q
  .rcases Y x c e with q|⟨q,_⟩
   .exact f4 x c q
   .intro z;rw[z]at q;exact absurd (aN (bV _ 2) q) (Nat.not_le.mpr (hlt b h))
  .rcases ai.mp f with f|f
   .exact f5 p f
   .have e:p=(s2.heap.objs.size,oo P):=by simpa using f
    subst e;exact Ne.symm (aM (hlt b h))
 have loop:codeAny (model X.prog X.w) X.A (.compLoop (.ListComp elt [⟨tg,iter,ifs,0⟩] scope pos) 0 (.ref it) (.ref s2.heap.objs.size) X'.env) (RR (.ref s2.heap.objs.size) (s2.heap.objs.size+1))
   {s2 with heap:=h₁,toks:=s2.toks}:=by
  refine qk (λn S=>∃i U P s,dD X' [(s2.heap.objs.size,oo P)] (pull ix σ) s S/\dQ U P/\U.length<=sizeLine/\tn i S.heap/\(∀b∈fp,s b=none)/\W i n U s) ?_ m0
   ⟨0,[],[],H2,I',.nil,bA _,T.keep _ _ _ st2 λb _ o e=>Z b o e,λb h=>(f2 b h).1,w0⟩
  rintro n s3 ⟨i,U,P,H3,I3,rv,hz,st3,fr3,w3⟩;have hcX:X'.calm=true:=by subst a;exact hc
  have hA:X'.A=X.A:=by subst a;rfl
  rcases turn i n U H3 w3 with⟨stop,qn⟩|⟨go,iN,step⟩
  .have hd:=T.done X' (by subst a;rfl) (by subst a;rfl) (by subst a;rfl) hcX i _ s3 _ H3 (λ_ _=>False) I3 (stat fr3) st3 stop;rw[hA]at hd;refine fM hd λr s4 ⟨hr,I4⟩=>?_;subst hr;subst a;obtain⟨m,hn,_⟩:=I4.loc;have hD3:=I4.pin (s2.heap.objs.size,oo P) (bt _ bh);have u1:Un (wA X.stack) fp H2 H3 s2.heap s4.heap:=by
    have B:=I4.base;have nD:∀b o,s2.heap.get? b=some o->b∉fp->b∉s2.heap.objs.size::fp:=λb o e h z=>by
     rcases aF.mp z with q|q
     .exact absurd (aL e) (by rw[q];exact a9 _)
     .exact h q
    exact⟨λb o e n h hx=>B.keep b o (ae _ e) n h (nD b o e hx),λb o e n h hx=>B.slot b o (ae _ e) n h (nD b o e hx),
     λb o e n hx=>B.free b o (ae _ e) n (nD b o e hx),λb o e hx=>B.there b o (ae _ e) (nD b o e hx),B.tups,B.frzs,B.tbls⟩
   have I5:=l.call' I4.os u1 I4.hok I4.bare λb h=>let ⟨_,f1,_,f3,f4,f5⟩:=f2 b h;⟨f3,f1,f4,f5⟩;have I6:dD X cV σ (fT H3 s2.heap.objs.size (.lst U)) s4:=I5.track hD3.2.1 (.inr l.sz) (Ne.symm (aM l.lt)) (λx c e z=>absurd (cellLt x c e) (by rw[z];exact a9 _))
    (λp f=>aM (t p f)) ⟨hz,P,P.length,rv,hD3.1⟩
   refine fin _ _ m _ s4 hn ⟨?_,?_,?_,.inr (bW l.sz),λx c e z=>?_,λp f=>?_⟩ I6 (qn _ hD3.2.1)
   .rw[dB (Ne.symm DC)];exact I4.free
   .exact Ne.symm (aM (bU l.lt))
   .exact l.nofs (bC _)
   .exact absurd (cellLt x c e) (by rw[z];exact Nat.not_lt.mpr (bC _))
   .exact aM (bU (t p f))
  .have hd:=T.item X' (by subst a;rfl) (by subst a;rfl) (by subst a;rfl) hcX i _ s3 _ H3 (λ_ _=>False) I3 (stat fr3) st3 go;rw[hA]at hd;refine fM hd λr s4 ⟨u,hr,h4⟩=>?_;subst hr;refine fM h4 λ_ s5 ⟨x,H5,I5,r5,y5,st5,fr5⟩=>?_;have I5':=I5.pinned (stat fr5) (T.obj _ _ st5);have hM:model X'.prog X'.w=model X.prog X.w:=by subst a;rfl
   have hE:X'.xe=λ_ _=>False:=by subst a;rfl
   have a6:=hg _ s5 _ H5 x u _ I5' r5 (hgk x _ H5 _ (step x H5 y5));rw[hM,hA,hE]at a6;refine fM a6 λ_ s6 ⟨σ6,H6,I6,agr,q6⟩=>?_;have a7:=hif _ s6 σ6 H6 _ I6 q6;rw[hM,hA,hE]at a7;refine fM a7 λok s7 ⟨H7,I7,q7⟩=>?_;have back:∀{S:Sq} {s:Hp} {pl:List (Addr×Obj)},dD X' pl σ6 s S->dD X' pl (pull ix σ) s S:=λ{S s pl} I=>by
    refine I.weak ?_ λk v e=>?_
    .have e1:=I.len;have e2:=I3.len;rw[e1,e2]
    .obtain⟨j,ej,_⟩:=rg e;rw[agr k j ej];exact e
   have held:∀{S:Sq} {s:Hp},dD X' ([(s2.heap.objs.size,oo P)]++nK fp s5.heap) σ6 s S->tn (i+1) S.heap/\∀b∈fp,s b=none:=λ{S s} I=>by refine⟨T.keep _ _ _ st5 λb h o e=>(I.pin (b,o) (bt _ (bt _ (jN h e)))).1,λb h=>?_⟩;obtain⟨o,e,_⟩:=T.obj _ _ st5 b h;exact (I.pin (b,o) (bt _ (bt _ (jN h e)))).2.1
   cases ok with
   |false=>rw[aR aH]at q7 ⊢;obtain⟨m',hm,w7⟩:=q7;obtain⟨k1,k2⟩:=held I7;exact⟨m',hm,i+1,U,P,H7,(back I7).unpinned,rv,hz,k1,k2,w7⟩
   |true=>
    rw[aQ rfl]at q7 ⊢;have a8:=he _ s7 σ6 H7 _ I7 q7;rw[hM,hA,hE]at a8;refine fM a8 λy s8 ⟨yv,H8,I8,r8,m',hm,w8⟩=>?_;obtain⟨k1,k2⟩:=held I8;have hD8:=I8.pin (s2.heap.objs.size,oo P) (bt _ (ay _ bh));have hl:=rv.length;refine append_at hD8.1 λh9 sb hD9=>?_;have I9:dD X' [] (pull ix σ) H8 s8:=(back I8).pins_of λp f=>by simp at f
    have I10:=I9.turned (t':=s8.toks) (λb o h e=>sb.extBut b o h e) hD8.2.1 hD8.2.2.1 (.inl (by subst a;exact bh))
     (λx c e z=>by
      subst a;rcases Y x c e with q|⟨q,_⟩
      .exact absurd (cellLt x c q) (by rw[z];exact a9 _)
      .rw[z]at q;omega) (λp f z=>by
      subst a;rcases ai.mp f with f|f
      .exact absurd (t p f) (by rw[z];exact a9 _)
      .simp at f)
    have e9:h9.get? s2.heap.objs.size=some (oo (P++[y])):=by rw[hD9];simp
    refine⟨m',hm,i+1,U++[yv],P++[y],H8,I10.pins_of λp f=>?_,rv.append (.cons r8 .nil),by rw[aT,bM];omega,?_,k2,w8⟩
    .have e:p=(s2.heap.objs.size,oo (P++[y])):=by simpa using f
     subst e;exact⟨e9,hD8.2.1,hD8.2.2.1,hD8.2.2.2.1,λv z=>by cases z⟩
    .exact T.keep _ _ _ k1 λb h o e=>sb.extBut b o (aM (hlt b h)) e
 have loop':=loop;subst a;exact codeAny_compStart_list loop (T.self X.A 0 _ _ _ (T.keep _ _ _ st2 λb _ o e=>Z b o e) loop')
def F6(K:X.calm=true)(E:PI X tg iter wi)(L:sI X scope N ix)(i:jJ ix g)
  (l:∀C a H j k,PG (iJ X N scope C a H j k) tg g/\vR (iJ X N scope C a H j k) ifs tt/\PE (iJ X N scope C a H j k) elt te)
  (u:∀x,foldedSetIterable iter X.env x=pure x:=by intro _;rfl):PE X (.ListComp elt [⟨tg,iter,ifs,0⟩] scope pos) (zw ix wi g tt te):=by
 intro w s R H Q I h;rw[eval_ListComp];refine wpAny_comprehension_free rfl u (kH L.fre) L.kind L.names (fM (E w s R H _ I h) λv s1 t=>fM t λr U y=>?_);obtain⟨it,fp,tn,J,H2,e,A,T,d,F,W,⟨m0,B⟩,c⟩:=y;subst e;refine vh K L i l A T d F B c λD C m p Y z f S q=>?_;refine⟨m,z,λZ P=>⟨.ref D,p,S.turned (λb o n e=>P.extBut b o n e) f.1 f.2.1 f.2.2.2.1 f.2.2.2.2.1 f.2.2.2.2.2,rfl,q⟩⟩
end
end L2
namespace L2
open PySem PySem.Spec PyProof.Rows
structure dg(K:W.Frag)(mg:Str->Option Value)(x:Str)(st:Stmt):Prop where
 ex:∃f fd,zD K x x st f fd/\mg x=some (.ref f)
def C1{K:W.Frag}{st:Stmt}{kV d e b g:Vq}(X:K.In h)(G:h.Ns mainGlobals mg)
  (a:W.nsIn K mainGlobals x=some (some (.ref f)))
  (l:K.lookup f=some ⟨oc,od,.func (W.fnOf x x (fF st) (ed st) (c8 st) .none kV d e an b g),osl⟩)
  (c:W.codeIn K b x=true) (k:W.keepIn K (.ref f)=true):dg K mg x st:=⟨f,_,sO l c k,W.mg_of X G a⟩
structure ib(P:Program)(w:World)(K:W.Frag)(mg:Str->Option Value)(base:Heap)(x:Str)(k:Nat)(sp:Sp):Prop where
 ex:∃f fd ps,iY P w K mg base og k f fd ps sp/\mg x=some (.ref f)/\W.keepIn K (.ref f)=true/\jX K fd ps []
def ib.mono{K:W.Frag}(h:ib P w K mg base x j sp)(d:j<=k):ib P w K mg base x k sp:=
 let ⟨f,fd,ps,F,a,b,c⟩:=h.ex
 ⟨f,fd,ps,F.mono d,a,b,c⟩
def uV{K:W.Frag}{st:Stmt}(D:dg K mg x st)(S:fB N ps (c8 st))
  (e:∀(kV d j:Vq) (i:Oq Addr) (a h:Vq) (us:List Vq),us.length=ps.length->bindArgs (W.fnOf x x (fF st) (ed st) (c8 st) .none kV d j i a h) ⟨us,[]⟩=pure (ps.zip us))
  (len:∀vs H Q E,sp vs H Q E->vs.length=ps.length)
  (c:∀f a A b s H vs Q E,fw k (A.deeper (envOfC x (c8 st) s.heap.objs.size f a))->sp vs H Q E->
   ∃t,qZ (j9 og P w K mg base N x (c8 st) f a A b s H E).nox (ed st) t/\t {nx:=λ_ g=>Q .non g,rt:=Q} (iy N vs) H):ib P w K mg base x (k+1) sp:=by
 obtain⟨f,l,F,m⟩:=D.ex;exact⟨f,l,ps,F.ok S len (c f),m,F.kp,F.binds e⟩
section
variable {X:Cx}{x:Str}{k:Nat}{sp:Sp}{e:Expr}{es:List Expr}{t:TA}{p pos:Pos}
def r9(h:ib X.prog X.w X.K X.mg X.base x k sp)(hr:fw k X.A)(j:PA X (e::es) t)(i:Gl X x:=by rfl)
  (g:(x==("__debug__" : Str))=false:=by decide) (l:starEach (e::es) X.env=(false,eval e X.env)::starEach es X.env:=by rfl) (d:(backTo pos (starEach es X.env)).any (·.1)=false:=by rfl) :
  PE X (.Call (.Name x p) (e::es) [] pos) (pN sp [] E0 t):=by
 obtain⟨f,n,m,F,a,b,c⟩:=h.ex;exact Ac F hr i a b c .nil zm j g l d
end
def Az:jU X (binaryOp .Mult) (rI (λi j=>PySem.IntMulOk i j) λi j=>.int (i*j)):=GE λ_ _ _ _ _ _ _ a q=>mul_int q a
def yU:jU X (binaryOp .FloorDiv) (rI (λi j=>j≠0/\Builtin.divisionGoesByPylong i j=false) λi j=>.int (i.fdiv j)):=GE λ_ _ _ _ _ _ _ a q=>floordiv_int a.1 q (.inl a.2)
end L2
namespace L2
open PySem PySem.Spec PyProof.Rows PySem.W
mutual
inductive DV(K:Frag)(H:Hp):V->PyData->Prop
 |non:DV K H .non .none
 |bl (b:Bool):DV K H (.bl b) (.bool b)
 |int (i:Int):DV K H (.int i) (.int i)
 |str (x:Str):DV K H (.str x) (.str x)
 |lst {a:Addr} {xs:List V} {ds:List PyData} (h:iC K H a xs) (hs:rT K H xs ds):DV K H (.ref a) (.list ds)
 |tup {a:Addr} {xs:List V} {ds:List PyData} (h:i5 K H a xs) (hs:rT K H xs ds):DV K H (.ref a) (.tuple ds)
inductive rT(K:Frag)(H:Hp):List V->List PyData->Prop
 |nil:rT K H [] []
 |cons {v:V} {d:PyData} {vs:List V} {ds:List PyData} (h:DV K H v d) (hs:rT K H vs ds):rT K H (v::vs) (d::ds)
end
section
variable {X:Cx}{cV:List (Addr×Obj)}{σ:St}{H:Hp}{s:Sq}
mutual
theorem DV.reads(I:dD X cV σ H s):∀{v} {d} {u},DV X.K H v d->eT v u->∃as,Reads s.heap u d as
 |_,_,_,.non,r=>by cases r;exact⟨_,.none⟩
 |_,_,_,.bl b,r=>by cases r;exact⟨_,.bool b⟩
 |_,_,_,.int i,r=>by obtain⟨t,rfl⟩:=r;exact⟨_,.int i t⟩
 |_,_,_,.str x,r=>by obtain⟨t,rfl⟩:=r;exact⟨_,.str x t⟩
 |_,_,_,.lst h hs,r=>by cases r;obtain⟨f,a,⟨o,n,e,c,k,g⟩,_⟩:=I.list h;obtain⟨as,j⟩:=rT.reads I hs a;exact⟨_,.list e c g (by simpa using j)⟩
 |_,_,_,.tup h hs,r=>by cases r;obtain⟨f,a,⟨o,e,c,n,g⟩,_⟩:=I.tuple h;obtain⟨as,j⟩:=rT.reads I hs a;exact⟨_,.tuple e c g (by simpa using j)⟩
theorem rT.reads(I:dD X cV σ H s):∀{vs} {ds} {us},rT X.K H vs ds->dQ vs us->∃as,ReadsAll s.heap us ds as
 |_,_,_,.nil,r=>by cases r;exact⟨_,.nil⟩
 |_,_,_,.cons h hs,r=>by
  cases r with
  |cons r1 r2=>obtain⟨as,b⟩:=DV.reads I h r1;obtain⟨bs,a⟩:=rT.reads I hs r2;exact⟨_,.cons b a⟩
end
def t8(K:Frag)(c:Bool):R2:=λx y H Q=>∃a b,DV K H x a/\DV K H y b/\(a.canLay0=true/\b.canLay0=true/\a.depth<=100)/\Q (.bl (if c then !PyData.eqv a b else PyData.eqv a b)) H
def yb(m:X.A.units+200<cLine):jU X (compareOp .Eq) (t8 X.K false):=by intro k s o H x y v u Q I e g h;obtain⟨n,l,b,a,⟨i,c,j⟩,q⟩:=h;obtain⟨as,f⟩:=b.reads I e;obtain⟨bs,d⟩:=a.reads I g;exact SeqAt.eqOverData _ _ _ _ _ _ _ _ _ _ _ _ f d i c (by omega) ⟨.bl _,H,I,rfl,q⟩
def xr(m:X.A.units+200<cLine):jU X (compareOp .NotEq) (t8 X.K true):=by intro k s o H x y v u Q I e g h;obtain⟨n,l,b,a,⟨i,c,j⟩,q⟩:=h;obtain⟨as,f⟩:=b.reads I e;obtain⟨bs,d⟩:=a.reads I g;exact SeqAt.neOverData _ _ _ _ _ _ _ _ _ _ _ _ f d i c (by omega) ⟨.bl _,H,I,rfl,q⟩
def GD(hr:fw k A):A.units+200<cLine:=by have:=hr.un;omega
end
end L2
namespace L2
open PySem PySem.Spec PyProof.Rows
theorem rJ:∀{bs:List Bool} {us:List Vq},dQ (bs.map V.bl) us->us=bs.map Value.bool
 |[],_,.nil=>rfl
 |b::bs,u::us,.cons r t=>by have e:=r;rw[e,rJ t];rfl
theorem nL:∀{ns} {us},dQ (ns.map V.int) us->IntsAre us ns
 |[],_,.nil=>.nil
 |n::ns,u::us,.cons r t=>by obtain⟨a,e⟩:=(r);rw[e];exact .cons n a (nL t)
def vO{bs:List Bool}:(List.range bs.length).all (λi=>bs.getD i false)=bs.all id:=by
 induction bs with
 |nil=>rfl
 |cons b bs ih=>rw[az,bX,bY,bZ,bY,<-ih];rfl
def oN{bs:List Bool}:(List.range bs.length).any (λi=>bs.getD i false)=bs.any id:=by
 induction bs with
 |nil=>rfl
 |cons b bs ih=>rw[az,bX,List.any_cons,List.any_map,List.any_cons,<-ih];rfl
section
variable {X:Cx}
def we{bs:List Bool}:TruthOf prog w A (λi v=>(bs.map Value.bool).toArray[i]? = some v) (λi=>bs.getD i false):=λi v s Q E d c=>by
 have e:(bs.map Value.bool)[i]? = some v:=by simpa using d
 rw[av]at e;cases a:bs[i]? with
 |none=>rw[a]at e;cases e
 |some b=>
  rw[a]at e;cases e;have:bs.getD i false=b:=by rw[af,a];rfl
  dsimp only at c;rw[this]at c;exact ak c
def xp(n:X.calm=true):gF X (.builtin "all") (λd H Q=>∃(p:Addr) (bs:List Bool),d=[.ref p]/\iC X.K H p (bs.map V.bl)/\Q (.bl (bs.all id)) H):=by
 intro w s y H d B Q I r h;obtain⟨p,bs,rfl,f,q⟩:=h;obtain⟨u,rfl,l⟩:=lG r;cases l;obtain⟨g,m,c,v⟩:=I.list f;have e:=rJ m;subst e;have a:p<s.heap.objs.size:=by obtain⟨_,e,_⟩:=c.isList;exact aL e
 refine call_all_walk (wpAny_pyIter_list c.isList ⟨s.heap.objs.size,_,_,_,_,_,λi=>bs.getD i false,rfl,Walks.list (A:=X.A.in1) (I.ok.hd n) _ p (aM a) _,⟨⟨_,ar _ rfl,rfl,rfl⟩,c.isList.push _⟩,we,λt x k=>?_⟩);refine⟨.bl _,H,I.kept (λb o e=>k b o ?_ (ae _ e)),rfl,?_⟩
 .intro j;have:=aL e;have z:b=s.heap.objs.size:=by simpa using j
  rw[z]at this;exact a9 _ this
 .rw[<-vO]at q;simpa using q
def ze(n:X.calm=true):gF X (.builtin "sum") (λc H Q=>∃(p:Addr) (b:LI),c=[.ref p]/\iC X.K H p (b.map V.int)/\Q (.int b.sum) H):=by intro v s x H c y Q I r h;obtain⟨p,b,rfl,g,q⟩:=h;obtain⟨u,rfl,j⟩:=lG r;cases j;obtain⟨a,m,l,t⟩:=I.list g;have f:=nL m;obtain⟨c,e⟩:=f.allInts.items;have d:=l.isList;rw[e]at d;refine sum_intListG (I.ok.hd n) d λo w k i=>⟨.int b.sum,H,I.kept i,⟨k,?_⟩,q⟩;rw[preSum_eq,b5 (by simp),<-nums_intItems,<-e,show a.toArray.toList=a from rfl,f.numsOf]
def lT:bootBuiltins "all" = some (.builtin "all"):=by decide +kernel
def wX:bootBuiltins "any" = some (.builtin "any"):=by decide +kernel
def Dn:bootBuiltins "sum" = some (.builtin "sum"):=by decide +kernel
end
end L2
namespace L2
open PySem PySem.Spec PyProof.Rows
def f7(b:Bool)(h:Heap)(l:Addr)(a:Array Vq):Prop:=if b=true then h.IsTuple l a else h.IsList l a
def js(b:Bool)(h:Heap)(it l:Addr)(k:Nat):Prop:=if b=true then h.IsTupleIter it l k else h.IsListIter it l k
noncomputable def qp(b:Bool):String:=if b=true then "tuple_iterator" else "list_iterator"
def js.look(x:js b h it l k):∃o,h.get? it=some o/\o.cls=.type (qp b)/\o.data=.fields #[.ref l,.int k 0]:=by
 cases b with
 |true=>exact (x)
 |false=>exact (x)
def js.of{k:Nat}(x:∃o,h.get? it=some o/\o.cls=.type (qp b)/\o.data=.fields #[.ref l,.int k 0]):js b h it l k:=by
 cases b with
 |true=>exact x
 |false=>exact x
def js.to(x:js b h it l k)(e:∀o,h.get? it=some o->h'.get? it=some o):js b h' it l k:=by obtain⟨o,a,q⟩:=x.look;exact .of ⟨o,e o a,q⟩
def f7.look(x:f7 b h l xs):∃o n,h.get? l=some o/\o.data=.seq xs n:=by
 cases b with
 |true=>obtain⟨o,a,_,n,c⟩:=(x);exact⟨o,n,a,c⟩
 |false=>obtain⟨o,a,_,n,c⟩:=(x);exact⟨o,n,a,c⟩
def f7.to(x:f7 b h l xs)(e:∀o,h.get? l=some o->h'.get? l=some o):f7 b h' l xs:=by
 cases b with
 |true=>obtain⟨o,a,q⟩:=(x);exact⟨o,e o a,q⟩
 |false=>obtain⟨o,a,q⟩:=(x);exact⟨o,e o a,q⟩
section
variable {prog:Program}{w:World}{A:Around}{E:Vq->Shared->Prop}{s:Sq}
theorem Bb(g:s.heap.IsTupleIter it l k)(m:s.heap.IsTuple l xs)
  (j:∀x a,xs[k]? = some x->a.IsTupleIter it l (k+1)->Heap.SameBut it s.heap a->Q x {s with heap:=a})
  (f:xs[k]? = none->A.handled=none/\∀a e,Heap.ExtBut it s.heap a->(∃o,a.get? e=some o/\o.cls=.type "StopIteration")->E (.ref e) {s with heap:=a}) :
  wpAny (model prog w) A (Builtin.SmallTypes.nextOf (.ref it)) Q E s:=by
 obtain⟨r,c,h,b⟩:=id g;obtain⟨t,p,_,n,i⟩:=m;unfold Builtin.SmallTypes.nextOf;refine ao (wpAny_callSpecial?_slot g.typeIs F.slot_tuple_iterator_next (wpAny_call_entry F.slot_tuple_iterator_next g.typeIs F.entry_tuple_iterator_next ?_ (F.args_tuple_iterator_next_1 _)));show wpAny _ _ (field (.ref it) 0 >>= _) _ _ s;refine ao (wpAny_field c b rfl ?_);have ne:(Value.ref l==Value.none)=false:=rfl;simp only[ne,bR,if_false];refine ao (wpAny_field c b rfl (ao (wpAny_seqItems p i ?_)));cases d:xs[k]? with
 |some x=>simp only[bG,d];refine ao (wpAny_setField c b (by simp) (ak ⟨x,rfl,ak (j x _ d ?_ (Heap.SameBut.update ..))⟩));refine⟨_,Heap.get?_update_self _ c (Obj.isFreed_of_fields (Obj.data_mapFields b _)),(Obj.cls_mapFields ..).trans h,?_⟩;rw[Obj.data_mapFields b];simp[rawInt]
 |none=>obtain⟨q,f⟩:=f d;simp only[bG,d];refine ao (wpAny_rule (ao (wpAny_setField c b (by simp) ?_)));show wpAny _ _ (newExc (.type "StopIteration") [] >>= _) _ _ _;simp only[newExc,newTuple];refine ao (ao (wpAny_newObj_type (ao (wpAny_of_eq (by first|rfl|(simp only[firstArgMember];rfl)) (wpAny_newObj_type ?_ (by size_fits)))) (by size_fits)));simp only[raiseNew];refine ao (wpAny_handled ?_);rw[show A.in1.handled=none from q];refine ao (ak (wpAny_throw ?_));exact f _ _ (((Heap.SameBut.update ..).extBut.push _).push _) ⟨_,ar _ rfl,rfl⟩
theorem rQ(i:js b s.heap it l k)(j:f7 b s.heap l xs)
  (m:∀x c,xs[k]? = some x->js b c it l (k+1)->Heap.SameBut it s.heap c->Q x {s with heap:=c})
  (h:xs[k]? = none->A.handled=none/\∀c e,Heap.ExtBut it s.heap c->(∃o,c.get? e=some o/\o.cls=.type "StopIteration")->E (.ref e) {s with heap:=c}) :
  wpAny (model prog w) A (Builtin.SmallTypes.nextOf (.ref it)) Q E s:=by
 cases b with
 |true=>exact Bb i j m h
 |false=>
  have d:=i;have f:=j;cases g:xs[k]? with
  |some x=>exact wpAny_nextOf_list_item d f g λc a b=>m x c g a b
  |none=>obtain⟨n,h⟩:=h g;exact wpAny_nextOf_list_end n d f g h
def yZ{z TI TO B H P R:Addr}{Q:Vq->Shared->Prop}(D:ZipApart z TI TO B H P R)
  (L:IsZip s.heap z TI TO .none) (Y:IsPair s.heap TI (.ref B) (.ref H)) (hTO:IsPair s.heap TO a b)
  (h1:js b1 s.heap B P k) (h2:js b2 s.heap H R k) (hl1:f7 b1 s.heap P xs) (hl2:f7 b2 s.heap R ys)
  (Z:∀x y g,xs[k]? = some x->ys[k]? = some y->IsZip g z TI TO (rawInt s.heap.objs.size)->IsPair g TO x y->js b1 g B P (k+1)->js b2 g H R (k+1)->IsPair g s.heap.objs.size x y->g.objs.size=s.heap.objs.size+1->
   (∀c o,c≠z->c≠TO->c≠B->c≠H->s.heap.get? c=some o->g.get? c=some o)->Q (.ref s.heap.objs.size) {s with heap:=g})
  (N:xs[k]? = none\/ys[k]? = none->A.handled=none/\∀g e,(∀c o,c≠z->c≠TO->c≠B->c≠H->s.heap.get? c=some o->g.get? c=some o)->(∃o,g.get? e=some o/\o.cls=.type "StopIteration")->E (.ref e) {s with heap:=g}) :
  wpAny (model prog w) A (Builtin.«zip.__next__» ⟨[.ref z],[]⟩) (λfin s'=>∃v,fin=.done (.ret v)/\Q v s') E s:=by
 have F:∀{h:Heap} {e:Addr} {I:Obj} {f:Vq},IsZip h z TI TO f->h.get? e=some I->I.cls=.type "StopIteration" ->e≠z:=λ{h e I f} q ge ce u=>by subst u;rw[q]at ge;cases ge;simp at ce
 show wpAny _ _ (field (.ref z) 2 >>= λ_=>_) _ _ _;refine ao (wpAny_field L rfl rfl ?_);refine ao (wpAny_field L rfl rfl (ao (wpAny_seqItems Y rfl ?_)));unfold Builtin.SmallTypes.ownedTupleIsFree;refine ao (ao (wpAny_field L rfl rfl (ak ?_)));simp only[if_true];refine ao (wpAny_rule (ao (wpAny_field L rfl rfl (ao (wpAny_setField_rec L (by simp) λg1 y1 K=>?_)))));have z1:=y1;simp only[List.zipIdx_cons,List.zipIdx_nil,List.forIn_cons,List.forIn_nil];refine ao (ao (ao (wpAny_onRaise ?_)));refine ao (rQ (h1.to λo e=>K.extBut _ _ D.i1z e) (hl1.to λo e=>K.extBut _ _ D.l1z e) (λx g2 U t2 t=>ak ?_) (λU=>⟨(N (.inl U)).1,λg2 e t ⟨I,ge,ce⟩=>?_⟩))
 .have p2:=t.extBut _ _ D.TOi1 (K.extBut _ _ D.TOz hTO);refine ao (wpAny_seqItems p2 rfl (ao (wpAny_updateSeq_pair p2 λg3 q3 r=>?_)));have p3:=q3;refine ao (wpAny_letGo (ak (ao (ao (wpAny_onRaise ?_)))));have i:∀c o,c≠z->c≠B->c≠TO->s.heap.get? c=some o->g3.get? c=some o:=λc o d m j e=>r.extBut _ _ j (t.extBut _ _ m (K.extBut _ _ d e));refine ao (rQ (h2.to λo e=>i _ o D.i2z D.i12.symm D.TOi2.symm e) (hl2.to λo e=>i _ o D.l2z D.l2i1 D.l2TO e) (λy g4 S t4 C=>ak ?_) (λS=>⟨(N (.inr S)).1,λg4 e C ⟨I,ge,ce⟩=>?_⟩))
  .have p4:=C.extBut _ _ D.TOi2 p3;refine ao (wpAny_seqItems p4 rfl (ao (wpAny_updateSeq_pair p4 λp q5 n=>?_)));have p5:IsPair p TO x y:=q5;refine ao (wpAny_letGo (ak (ak (ao (wpAny_seqItems p5 rfl (ao (wpAny_newTuple ?_)))))));have sz:p.objs.size=s.heap.objs.size:=by rw[n.1,C.1,r.1,t.1,K.1]
   have z5:=n.extBut _ _ D.TOz.symm (C.extBut _ _ D.i2z.symm (r.extBut _ _ D.TOz.symm (t.extBut _ _ D.i1z.symm z1)));have to5:∀c o,c≠z->c≠TO->c≠B->c≠H->s.heap.get? c=some o->p.get? c=some o:=λc o d m j J e=>n.extBut _ _ m (C.extBut _ _ J (i c o d j m e));unfold Builtin.SmallTypes.ownedTupleHandOut;refine ao (ao (wpAny_setField_rec (ae _ z5) (by simp) λg7 y7 k7=>?_));have z7:=y7;refine wpAny_setField_rec z7 (by simp) λX y8 k8=>?_;have z8:=y8;have up:∀c o,c≠z->(p.push {cls:=.type "tuple",data:=.seq #[x,y]}).get? c=some o->X.get? c=some o:=λc o d e=>k8.extBut _ _ d (k7.extBut _ _ d e);have l:∀c o,c≠z->p.get? c=some o->X.get? c=some o:=λc o d e=>up c o d (ae _ e);have p8:=up _ _ (bq (aL z5)) (ar _ rfl);have s8:X.objs.size=p.objs.size+1:=by rw[k8.1,k7.1,Heap.size_push]
   rw[sz]at z8 p8 s8;refine ak ⟨_,rfl,?_⟩;rw[sz];have e1:=t2.to λo e=>l _ o D.i1z (n.extBut _ _ D.TOi1.symm (C.extBut _ _ D.i12 (r.extBut _ _ D.TOi1.symm e)));have e2:=t4.to λo e=>l _ o D.i2z (n.extBut _ _ D.TOi2.symm e);exact Z x y X U S z8 (l _ _ D.TOz p5) e1 e2 p8 s8 λc o d m j J e=>l c o d (to5 c o d m j J e)
  .have z4:=C _ _ D.i2z.symm (r.extBut _ _ D.TOz.symm (t.extBut _ _ D.i1z.symm z1));refine wpAny_setField_rec z4 (by simp) λp _ n=>(N (.inr S)).2 p e (λc o d m j J q=>n.extBut _ _ d (C _ _ J (i c o d j m q))) ⟨I,n.extBut _ _ (F z4 ge ce) ge,ce⟩
 .have z2:=t _ _ D.i1z.symm z1;refine wpAny_setField_rec z2 (by simp) λg3 _ r=>(N (.inl U)).2 g3 e (λc o d m j J q=>r.extBut _ _ d (t _ _ j (K.extBut _ _ d q))) ⟨I,r.extBut _ _ (F z2 ge ce) ge,ce⟩
def sH{z TI TO g f i h:Addr}(D:ZipApart z TI TO g f i h)
  (t:IsZip s.heap z TI TO .none) (p:IsPair s.heap TI (.ref g) (.ref f)) (j:IsPair s.heap TO a b)
  (B:js b1 s.heap g i k) (H:js b2 s.heap f h k) (n:f7 b1 s.heap i xs) (l:f7 b2 s.heap h ys)
  (m:∀x y d,xs[k]? = some x->ys[k]? = some y->IsZip d z TI TO (rawInt s.heap.objs.size)->IsPair d TO x y->js b1 d g i (k+1)->js b2 d f h (k+1)->IsPair d s.heap.objs.size x y->d.objs.size=s.heap.objs.size+1->
   (∀c o,c≠z->c≠TO->c≠g->c≠f->s.heap.get? c=some o->d.get? c=some o)->Q (some (.ref s.heap.objs.size)) {s with heap:=d})
  (u:xs[k]? = none\/ys[k]? = none->A.handled=none/\∀d,(∀c o,c≠z->c≠TO->c≠g->c≠f->s.heap.get? c=some o->d.get? c=some o)->Q none {s with heap:=d}) :
  wpAny (model prog w) A (pyNext (.ref z)) Q E s:=by
 have r:s.TypeIs (.ref z) "zip" :=⟨_,t,rfl⟩;unfold pyNext;refine ao (wpAny_attempt (wpAny_callSpecial?_slot r F.slot_zip_next (wpAny_call_entry F.slot_zip_next r F.entry_zip_next
  (yZ D t p j B H n l (λx y d v P J R I K L C N=>ak (m x y d v P J R I K L C N)) λq=>⟨(u q).1,λd e hk ⟨o,ho,hc⟩=>?_⟩) (F.args_zip_next_1 _))))
 exact ao (wpAny_isInstance ⟨o,ho,hc⟩ isSubtype_stop (ak ((u q).2 d hk)))
theorem sG(a:f7 b s.heap l xs)
  (h:Q (.ref s.heap.objs.size) {s with heap:=s.heap.push {cls:=.type (qp b),data:=.fields #[.ref l,.int 0 0]}}):wpAny (model prog w) A (pyIter (.ref l)) Q E s:=by
 cases b with
 |true=>exact wpAny_pyIter_tuple (a) h
 |false=>exact wpAny_pyIter_list (a) h
end
noncomputable abbrev zo(b:Bool)(l:Addr):Obj:={cls:=.type (qp b),data:=.fields #[.ref l,.int 0 0]}
abbrev zt(x y:Vq):Obj:={cls:=.type "tuple",data:=.seq #[x,y]}
abbrev zz(p q:Addr):Obj:={cls:=.type "zip",data:=.fields #[.none,.bool false,.bool false,.ref p,.ref q]}
noncomputable abbrev qE(b1 b2:Bool)(h:Heap)(l1 l2:Addr):Heap:=
 ((((h.push (zo b1 l1)).push (zo b2 l2)).push (zt (.ref h.objs.size) (.ref (h.push (zo b1 l1)).objs.size))).push (zt .none .none)).push
  (zz ((h.push (zo b1 l1)).push (zo b2 l2)).objs.size (((h.push (zo b1 l1)).push (zo b2 l2)).push (zt (.ref h.objs.size) (.ref (h.push (zo b1 l1)).objs.size))).objs.size)
section
variable {prog:Program}{w:World}{A:Around}{E:Vq->Shared->Prop}{s:Sq}
def vV b1 b2 l1 l2 xs ys:Meets (Builtin.«zip.__new__» ⟨[.type "zip",.ref l1,.ref l2],[]⟩) (λ_ R s=>f7 b1 s.heap l1 xs/\f7 b2 s.heap l2 ys/\
  R (.ok (.ret (.ref ((((s.heap.push (zo b1 l1)).push (zo b2 l2)).push (zt (.ref s.heap.objs.size) (.ref (s.heap.push (zo b1 l1)).objs.size))).push (zt .none .none)).objs.size))) {s with heap:=qE b1 b2 s.heap l1 l2}):=by
 refine .of_wp λprog w A R s h=>?_;obtain⟨l,g,d,j,f⟩:=s;obtain⟨i,c,a⟩:=h;have sz:=sub_zip;have k:=i;have b:f7 b2 (Shared.heap ⟨l.push (zo b1 l1),g,d,j,f⟩) l2 ys:=c.to λo e=>ae _ e;wp_walk using sG k,sG b;exact⟨_,rfl,a⟩
def xB(l:f7 b1 s.heap l1 xs)(i:f7 b2 s.heap l2 ys)
  (h:∀b,IsZip b (s.heap.objs.size+4) (s.heap.objs.size+2) (s.heap.objs.size+3) .none->IsPair b (s.heap.objs.size+2) (.ref s.heap.objs.size) (.ref (s.heap.objs.size+1))->IsPair b (s.heap.objs.size+3) .none .none->
   js b1 b s.heap.objs.size l1 0->js b2 b (s.heap.objs.size+1) l2 0->b.objs.size=s.heap.objs.size+5->(∀c o,s.heap.get? c=some o->b.get? c=some o)->Q (.ref (s.heap.objs.size+4)) {s with heap:=b}) :
  wpAny (model prog w) A (call (.type "zip") [.ref l1,.ref l2]) Q E s:=by
 refine callType_new F.called_zip (by decide) (F.typeCall_zip_2 _ _) (F.newCall_zip_2 _ _) (λf=>F.args_object_init_3 f _ _) F.entry_zip_new (vV b1 b2 l1 l2 xs ys) ⟨l,i,?_⟩;generalize k:s.heap.objs.size=n at *;have d:(s.heap.push (zo b1 l1)).objs.size=n+1:=by rw[Heap.size_push,k]
 have j:((s.heap.push (zo b1 l1)).push (zo b2 l2)).objs.size=n+2:=by rw[Heap.size_push,d]
 generalize a:(s.heap.push (zo b1 l1)).push (zo b2 l2)=g2 at *;have u:∀c o,s.heap.get? c=some o->g2.get? c=some o:=λc o e=>by rw[<-a];exact ae _ (ae _ e)
 have v:g2.get? n=some (zo b1 l1):=by rw[<-a,<-k];exact ae _ (ar _ rfl)
 have q:g2.get? (n+1)=some (zo b2 l2):=by rw[<-a,<-d];exact ar _ rfl
 have g:(g2.push (zt (.ref n) (.ref (n+1)))).objs.size=n+3:=by rw[Heap.size_push,j]
 have m:((g2.push (zt (.ref n) (.ref (n+1)))).push (zt .none .none)).objs.size=n+4:=by rw[Heap.size_push,g]
 have x:qE b1 b2 s.heap l1 l2=((g2.push (zt (.ref n) (.ref (n+1)))).push (zt .none .none)).push (zz (n+2) (n+3)):=by unfold qE;rw[k,d,a,j,g]
 rw[x,d,m];have t:(g2.push (zt (.ref n) (.ref (n+1)))).get? (n+2)=some (zt (.ref n) (.ref (n+1))):=by rw[<-j];exact ar _ rfl
 have r:((g2.push (zt (.ref n) (.ref (n+1)))).push (zt .none .none)).get? (n+3)=some (zt .none .none):=by rw[<-g];exact ar _ rfl
 have p:(((g2.push (zt (.ref n) (.ref (n+1)))).push (zt .none .none)).push (zz (n+2) (n+3))).get? (n+4)=some (zz (n+2) (n+3)):=by rw[<-m];exact ar _ rfl
 have up:∀c o,g2.get? c=some o->(((g2.push (zt (.ref n) (.ref (n+1)))).push (zt .none .none)).push (zz (n+2) (n+3))).get? c=some o:=λc o e=>ae _ (ae _ (ae _ e));exact⟨⟨_,p,rfl⟩,h _ p (ae _ (ae _ t)) (ae _ r) (.of ⟨_,up _ _ v,rfl,rfl⟩) (.of ⟨_,up _ _ q,rfl,rfl⟩) (by rw[Heap.size_push,m]) λc o e=>up c o (u c o e)⟩
end
end L2
namespace L2
open PySem PySem.Spec PyProof.Rows
def dD.turnedL{ch:List Addr}(I:dD X cV σ H s)(k:∀b o,b∉ch->s.heap.get? b=some o->h'.get? b=some o)(f:∀b∈ch,mT X cV H b) :
  dD X cV σ H {s with heap:=h',toks:=t'}:=by
 have d:∀b u,H b=some u->b∉ch:=λb u e z=>by rw[(f b z).1]at e;cases e
 refine I.step (λb g=>let ⟨_,f1,_,f3,f4,f5⟩:=f b g;⟨f3,f1,f4,f5⟩) (λb o _ _ a e _=>k b o a e) (λb o _ _ a e _=>⟨o.slots,k b o a e⟩) (λ_ _ _ _ n=>n)
  (λb o a e=>⟨o,k b o a e⟩) (λ_ _ e=>e) (λ_ _ _ e=>e) (λb _ p e=>⟨#[],by rw[e];simp⟩) (λm i=>?_) (λb u e=>?_) I.bare
 .obtain⟨o,l,h,j,r⟩:=i;exact⟨o,l,h,k _ o (λz=>(f _ z).2.1 rfl) j,r⟩
 .refine (I.hok b u e).stay (λc v a q=>k c v ?_ q) (λ_ q=>q) λ_ _ q=>q;rcases a with z|z
  .rw[z];exact d b u e
  .exact d c _ z
def sy(K:W.Frag)(H:Hp)(b:Bool)(a:Addr)(c:List V):Prop:=if b=true then i5 K H a c else iC K H a c
def dD.seqB(I:dD X cV σ H s)(h:sy X.K H b a xs):∃c:List Vq,dQ xs c/\f7 b s.heap a c.toArray/\xs.length<=sizeLine:=by
 cases b with
 |true=>obtain⟨c,r,p,z⟩:=I.tuple (h);exact⟨c,r,p,z⟩
 |false=>obtain⟨c,r,p,z⟩:=I.list (h);exact⟨c,r,p.isList,z⟩
def dD.seqB_inj(I:dD X cV σ H s)(h:sy X.K H b a xs)(c:sy X.K H b a ys):xs=ys:=by
 cases b with
 |true=>exact I.tuple_inj h c
 |false=>exact I.list_inj h c
noncomputable def G9(K:W.Frag)(d e:Bool)(c f:Addr):It:=
  ⟨λi H=>∃b a x y,sy K H d c b/\sy K H e f a/\b[i]? = some x/\a[i]? = some y,
   λi H v g=>∃p x y,v=.ref p/\H p=none/\g=fT H p (.tup [x,y])/\(∀b,sy K H d c b->b[i]? = some x)/\∀a,sy K H e f a->a[i]? = some y,
   λi H=>∃b a,sy K H d c b/\sy K H e f a/\(b.length<=i\/a.length<=i)⟩
def yI{K:W.Frag}{x1}{z TI TO m l l1 l2:Addr}(D:ZipApart z TI TO m l l1 l2) :
  tW P w K (.Tuple elts x1 pos) (G9 K b1 b2 l1 l2) [z,TI,TO,m,l] z (λi h=>IsZip h z TI TO .none/\IsPair h TI (.ref m) (.ref l)/\(∃a b,IsPair h TO a b)/\js b1 h m l1 i/\js b2 h l l2 i) where
 mem:=by simp
 obj:=λi h p b g=>by
  obtain⟨n,f,⟨a,c,j⟩,r,t⟩:=p;have mem:b=z\/b=TI\/b=TO\/b=m\/b=l:=by simpa using g
  rcases mem with rfl|rfl|rfl|rfl|rfl
  .exact⟨_,n,λv q=>by cases q⟩
  .exact⟨_,f,λv q=>by cases q⟩
  .exact⟨_,j,λv q=>by cases q⟩
  .obtain⟨o,e,_,d⟩:=r.look;exact⟨o,e,λv q=>by rw[d]at q;cases q⟩
  .obtain⟨o,e,_,d⟩:=t.look;exact⟨o,e,λv q=>by rw[d]at q;cases q⟩
 keep:=λi h h' p k=>by obtain⟨n,f,⟨a,c,j⟩,r,t⟩:=p;exact⟨k z (by simp) _ n,k TI (by simp) _ f,⟨a,c,k TO (by simp) _ j⟩,r.to λo e=>k m (by simp) o e,t.to λo e=>k l (by simp) o e⟩
 item:=by
  intro X hP hw hK hc i cV s σ H E I hf p hg;subst hP hw hK;obtain⟨n,f,⟨a,c,j⟩,r,t⟩:=p;obtain⟨xs,ys,x,y,q1,Y,e1,e2⟩:=hg;obtain⟨L,r1,p1,z1⟩:=I.seqB q1;obtain⟨R,r2,p2,z2⟩:=I.seqB Y;obtain⟨u,gu,ru⟩:=r1.get e1;obtain⟨v,gv,rv⟩:=r2.get e2;have C:=I.fpOk (aK _) (I.hok.fresh (aK _));refine sH D n f j r t p1 p2 (λS N h' A B a1 a2 a3 a4 a5 a6 Q=>?_) λq=>?_
  .have eu:S=u:=by
    have:L[i]? = some S:=by simpa using A
    rw[gu]at this;cases this;rfl
   have ev:N=v:=by
    have:R[i]? = some N:=by simpa using B
    rw[gv]at this;cases this;rfl
   subst eu;subst ev;refine⟨_,rfl,wpAny_letOwnedTupleGo_zip a1 λJ F sb=>?_⟩;have zT:=bq (aL n);have I1:=I.turnedL (t':=s.toks) (ch:=[z,TO,m,l]) (λb o g e=>sb.extBut _ _ (λq=>g (by simp[q])) (Q b o (λq=>g (by simp[q])) (λq=>g (by simp[q])) (λq=>g (by simp[q])) (λq=>g (by simp[q])) e))
    (λb g=>hf b (by
     have mem:b=z\/b=TO\/b=m\/b=l:=by simpa using g
     rcases mem with rfl|rfl|rfl|rfl<;>simp))
   have gT:=sb.extBut _ _ zT a5;have I2:dD X cV σ (fT H s.heap.objs.size (.tup [x,y])) {s with heap:=J}:=I1.track C.1 C.2.2.2.1 C.2.1 C.2.2.2.2.1 C.2.2.2.2.2
    ⟨by show 2<=sizeLine;decide,[S,N],.cons ru (.cons rv .nil),⟨_,gT,rfl,_,rfl,rfl⟩⟩
   have lt:∀{b o},s.heap.get? b=some o->fT H s.heap.objs.size (.tup [x,y]) b=H b:=λ{b o} e=>dB (aM (aL e));refine⟨.ref s.heap.objs.size,_,I2,rfl,⟨_,x,y,rfl,C.1,rfl,λxs' h=>by rw[I.seqB_inj h q1];exact e1,λys' h=>by rw[I.seqB_inj h Y];exact e2⟩,?_,λb g=>?_⟩
   .have Z:∀c o,c≠z->h'.get? c=some o->J.get? c=some o:=λc o c1 e=>sb.extBut _ _ c1 e;exact⟨F,Z _ _ D.TIz (Q _ _ D.TIz D.TITO D.TIi1 D.TIi2 f),⟨_,_,Z _ _ D.TOz a2⟩,a3.to λo e=>Z _ o D.i1z e,a4.to λo e=>Z _ o D.i2z e⟩
   .have mem:b=z\/b=TI\/b=TO\/b=m\/b=l:=by simpa using g
    have U:=(hf b g).1;obtain⟨o1,g1,_⟩:=r.look;obtain⟨o2,g2,_⟩:=t.look;rcases mem with rfl|rfl|rfl|rfl|rfl
    .rw[lt n];exact U
    .rw[lt f];exact U
    .rw[lt j];exact U
    .rw[lt g1];exact U
    .rw[lt g2];exact U
  .exfalso;have m1:L.toArray[i]? = some u:=by simpa using gu
   have m2:R.toArray[i]? = some v:=by simpa using gv
   rcases q with q|q
   .rw[m1]at q;cases q
   .rw[m2]at q;cases q
 done:=by
  intro X hP hw hK hc i cV s σ H E I hf p hg;subst hP hw hK;obtain⟨n,f,⟨a,c,j⟩,r,t⟩:=p;obtain⟨xs,ys,q1,Y,hl⟩:=hg;obtain⟨L,r1,p1,z1⟩:=I.seqB q1;obtain⟨R,r2,p2,z2⟩:=I.seqB Y;have n1:=r1.length;have n2:=r2.length;have fpc:∀b∈[z,TO,m,l],mT X cV H b:=λb g=>hf b (by
   have mem:b=z\/b=TO\/b=m\/b=l:=by simpa using g
   rcases mem with rfl|rfl|rfl|rfl<;>simp)
  refine sH D n f j r t p1 p2 (λS N h' A B a1 a2 a3 a4 a5 a6 Q=>?_) λq=>⟨I.ok.hd hc,λh' Q=>⟨rfl,I.turnedL (λb o g e=>Q b o (λq=>g (by simp[q])) (λq=>g (by simp[q])) (λq=>g (by simp[q])) (λq=>g (by simp[q])) e) fpc⟩⟩;exfalso;have m1:i<L.length:=by
   have:L[i]? = some S:=by simpa using A
   exact (aa.mp this).1
  have m2:i<R.length:=by
   have:R[i]? = some N:=by simpa using B
   exact (aa.mp this).1
  omega
 self:=λ_ _ _ _ _ p h=>wpAny_pyIter_zip p.1 h
def Eu:bootBuiltins "zip" = some (.type "zip"):=by decide +kernel
section
variable {X:Cx}
def C8(K:W.Frag)(d e:Bool)(i:TA):TI:=λh H R=>i h H λg a=>∃b c,g=[.ref b,.ref c]/\(∃j,sy K a d b j)/\(∃f,sy K a e c f)/\R (G9 K d e b c) a
def Cf{x1}(L:Gl X "zip")(A:X.mg "zip" = none)(E:PA X [a,b] ta)(B:starEach [a,b] X.env=[(false,eval a X.env),(false,eval b X.env)]:=by rfl)
  (c:starEach [b] X.env=[(false,eval b X.env)]:=by rfl):PI X (.Tuple elts x1 tpos) (.Call (.Name "zip" p) [a,b] [] pos) (C8 X.K b1 b2 ta):=by
 intro D s S H R I h;refine Call_ (nB I L A Eu (PyProof.Rows.callWith_type1 (fM (E pos D s S H _ I h) λU s1 ⟨vs,H1,I1,r1,k⟩=>?_) (by rw[B,c]) (by rw[c];rfl)));obtain⟨Q,N,rfl,⟨xs,k⟩,⟨ys,w⟩,q⟩:=k;obtain⟨Y,u2,rfl,J,F⟩:=FD r1;cases J;cases F;obtain⟨U,x,l,_⟩:=I1.seqB k;obtain⟨Z,y,t,_⟩:=I1.seqB w;have g:Q<s1.heap.objs.size:=by obtain⟨o,n,e,_⟩:=l.look;exact aL e
 have j:N<s1.heap.objs.size:=by obtain⟨o,n,e,_⟩:=t.look;exact aL e
 refine xB l t λh' m i d z v P C=>?_;refine wpAny_pyIter_zip m ?_;refine⟨_,_,_,_,H1,rfl,I1.kept C,yI (zipApart_new g j),⟨m,i,⟨_,_,d⟩,z,v⟩,λb u=>?_,q⟩;have f:b=s1.heap.objs.size+4\/b=s1.heap.objs.size+2\/b=s1.heap.objs.size+3\/b=s1.heap.objs.size\/b=s1.heap.objs.size+1:=by simpa using u
 have r:s1.heap.objs.size<=b:=by rcases f with rfl|rfl|rfl|rfl|rfl<;>omega
 exact I1.fpOk r (I1.hok.fresh r)
end
end L2
namespace L2
open PySem PySem.Spec PyProof.Rows
def mv(h:H p=none):dH H (fT H p o):=λb u e=>by rw[dB (dZ e h)];exact .of e
def dH.seqT{K:W.Frag}(e:dH H H')(h:i5 K H a xs):i5 K H' a xs:=by
 rcases h with (h|⟨o,h⟩)|h
 .exact .inl (.inl (e _ _ h))
 .exact .inl (.inr ⟨o,e _ _ h⟩)
 .exact .inr h
noncomputable def pW(d:List Str)(b a:Scope)(N:List Str)(c:List (Option Nat)):Bool:=
 a.kind==.function&&a.names.all (λy=>!(y.2==NameKind.cell)||a.names.lookup y.1==some .cell)&&a.names.all (λy=>!(y.2==NameKind.local)||a.names.lookup y.1==some .local) &&
 a.names.all (λy=>!(y.2==NameKind.free)||b.names.lookup y.1==some .cell)&&N.length==c.length &&
 (List.range N.length).all (λi=>match c[i]?,N[i]? with
  |some (some j),some x=>d[j]? == some x&&a.names.lookup x==some .free&&b.names.lookup x==some .cell
  |_,_=>true)
def FX(n:∀x,X.env.scope.names.lookup x=some .cell->∃c,X.env.cells.lookup x=some c)(h:pW X.N X.env.scope scope N ix=true):sI X scope N ix:=by
 unfold pW at h;simp only[bI]at h;obtain⟨⟨⟨⟨⟨m,q⟩,l⟩,k⟩,s⟩,o⟩:=h;refine⟨by simpa using m,λy d e=>?_,λy d e=>?_,λy d e=>?_,by simpa using s,λi j x g p=>?_⟩
 .have:=b8.mp q y d;rw[e]at this;simpa using this
 .have:=b8.mp l y d;rw[e]at this;simpa using this
 .have:=b8.mp k y d;rw[e]at this;exact n _ (by simpa using this)
 .have r:=(aa.mp g).1;have:=b8.mp o i (aS.mpr r);rw[g,p]at this;simp only[bI,beq_iff_eq]at this;obtain⟨⟨a,b⟩,c⟩:=this;exact⟨a,b,.inr (.inl c),λz=>by have f:X.env.scope.names.lookup x=some .local:=z;rw[c]at f;cases f⟩
def yR(L:sI X scope N ix):∀x,(iJ X N scope C s₃ H ex pn).env.scope.names.lookup x=some .cell->∃c,(iJ X N scope C s₃ H ex pn).env.cells.lookup x=some c:=λx b=>by
 refine bE.mp (W.cellsFrom_some _ _ _ ?_);rcases lj (.inl b) with a|a
 .exact .inr (bE.mpr (ju a (L.fre _ a rfl)))
 .exact .inl a
def nh{K:W.Frag}(f:ix[k]? = some none)(g:ix[l]? = some none):jJ ix (By K 2 (sq (f6 k) (sq (f6 l) Ar))):=by
 rintro x c H Q ⟨a,n,o,b,p,v,r,h,d,t,u,s,q⟩;refine⟨a,n,o,b,p,v,r,h,d,t,u,s,λi j e=>?_,q⟩;have w:k≠i:=by rintro rfl;rw[f]at e;cases e
 have m:l≠i:=by rintro rfl;rw[g]at e;cases e
 rw[aq m,aq w]
end L2
namespace L2
open PySem PySem.Spec PyProof.Rows
structure gS(K:W.Frag)(C:Addr)(m qual:Str)(st:Stmt):Prop where
 ex:∃f fd,zD K m qual st f fd/\Aj K C m f
structure g9(P:Program)(w:World)(K:W.Frag)(mg:Str->Option Value)(base:Heap)(C:Addr)(m:Str)(k:Nat)(sp:Sp):Prop where
 cl:oX K C
 ex:∃f fd ps,iY P w K mg base og k f fd ps sp/\Aj K C m f/\jX K fd ps []
def uX{K:W.Frag}{st:Stmt}(h:oX K C)(D:gS K C m qual st)(S:fB N ps (c8 st))
  (e:∀(kV d l:Vq) (j:Oq Addr) (a i:Vq) (us:List Vq),us.length=ps.length->bindArgs (W.fnOf m qual (fF st) (ed st) (c8 st) .none kV d l j a i) ⟨us,[]⟩=pure (ps.zip us))
  (len:∀vs H Q E,sp vs H Q E->vs.length=ps.length)
  (c:∀f a A b s H vs Q E,fw k (A.deeper (envOfC qual (c8 st) s.heap.objs.size f a))->sp vs H Q E->
   ∃t,qZ (j9 og P w K mg base N qual (c8 st) f a A b s H E).nox (ed st) t/\t {nx:=λ_ g=>Q .non g,rt:=Q} (iy N vs) H):g9 P w K mg base C m (k+1) sp:=by
 obtain⟨f,n,F,m⟩:=D.ex;exact⟨h,f,n,ps,F.ok S len (c f),m,F.binds e⟩
structure tG(P:Program)(w:World)(K:W.Frag)(mg:Str->Option Value)(base:Heap)(x:Str)(C:Addr)(k:Nat)(sp:Sp):Prop where
 ex:∃f fd ps,iY P w K mg base og k f fd ps sp/\Mk K C f/\jX K fd ps []
 mgx:mg x=some (.ref C)
section
variable {X:Cx}{x m:Str}{C:Addr}{k:Nat}{sp:Sp}{e o:Expr}{es:List Expr}{t:TA}{ta:TE}{p pos apos:Pos}
def Gf(h:tG X.prog X.w X.K X.mg X.base x C k sp)(hr:fw (k+1) X.A)(i:PA X (e::es) t)(g:Gl X x:=by rfl)
  (d:(x==("__debug__" : Str))=false:=by decide) (j:starEach (e::es) X.env=(false,eval e X.env)::starEach es X.env:=by rfl) (c:(backTo pos (starEach es X.env)).any (·.1)=false:=by rfl) :
  PE X (.Call (.Name x p) (e::es) [] pos) (vy C sp [] E0 t):=by
 obtain⟨f,n,l,F,a,b⟩:=h.ex;exact Af a F hr g h.mgx b .nil zm i d j c
def xW(h:g9 X.prog X.w X.K X.mg X.base C m k sp)(hr:fw k X.A)(c:PE X o ta)
  (d:eval (.Call (.Attribute o m apos) [] [] pos) X.env=(do
   let ov <-eval o X.env
   standAt apos.atName
   let (f,first) <-holding [ov] (getMethod ov m pl)
   callWith pos f first (backTo pos (starEach [] X.env)) (backToKw pos (keywordEach [] X.env))):=by rfl) :
  PE X (.Call (.Attribute o m apos) [] [] pos) (oQ C m sp [] E0 ta kD):=by
 obtain⟨f,i,g,F,a,b⟩:=h.ex;exact yH c h.cl a F hr b .nil zm d
end
end L2
namespace L2
open PySem PySem.Spec PyProof.Rows
def wZ(U:X.N.Nodup)(B:X.N[i]? = some y)(E:wL X.env.scope y)
  (hc:X.calm=true) (hi:PI X tg iter wi) (L:sI X scope N ix) (l:jJ ix g)
  (u:∀C c H n p,PG (iJ X N scope C c H n p) tg g/\vR (iJ X N scope C c H n p) ifs tt/\PE (iJ X N scope C c H n p) elt te)
  (hf:X.fn y=true\/X.env.scope.names.lookup y=some .local:=by first|exact .inl rfl|exact .inr rfl)
  (r:swapsWith (.ListComp elt [⟨tg,iter,ifs,0⟩] scope pos) (some (.Name y py)) spos.line X.env=pure true:=by rfl)
  (Y:∀x,foldedSetIterable iter X.env x=pure x:=by intro _;rfl):PS X (.Assign [.Name y py] (.ListComp elt [⟨tg,iter,ifs,0⟩] scope pos) spos) (j5 (zw ix wi g tt te) (f6 i)):=by
 intro Z s A H D I h;rw[exec_Assign_Name_used _ _ _ _ r];refine ao (wpAny_standAt (ao ?_));rw[arm_evalThenUse_ListComp];refine ao (fM (wpAny_comprehension_free rfl Y (kH L.fre) L.kind L.names (fM (hi Z s A H _ I h) λv s1 R=>fM R λP s2 h2=>?_)) λ_ S q=>ak (ak q));obtain⟨it,fp,tn,J,H2,e,I2,T,j,f2,W,⟨m0,w0⟩,d⟩:=h2;subst e;refine vh (Q:=λx H1=>f6 i x A H1 D.nx) hc L l u I2 T j f2 w0 d λE0 C m K S hn f I' q=>?_;refine wpAny_assign_Name (pE (v:=.ref E0) I' U B E rfl (λs3 I3 t=>?_) hf);obtain⟨a,sb,ha⟩:=t;have ne:C≠a:=by
  rcases ha with z|z
  .rw[z];exact f.2.1
  .exact λw=>f.2.2.2.2.1 y a z w.symm
 exact⟨m,hn.sameBut sb ne,λh' k=>⟨_,K,I3.turned (λb o F e=>k.extBut b o F e) f.1 f.2.1 f.2.2.2.1 f.2.2.2.2.1 f.2.2.2.2.2,q⟩⟩
end L2
namespace L2
open PySem PySem.Spec PyProof.Rows Builtin
def mM:fillsNumberSlot (.type "tuple") "mul" = pure false:=PySem.fillsNumberSlot_seq F.slot_tuple_mul.lookup (by decide +kernel) F.slot_tuple_rmul.lookup (by decide +kernel)
def qh:seqRepeat? (.type "tuple")=pure (some (.builtin "tuple.__mul__")):=by unfold seqRepeat?;rw[PySem.seqSlot_of (name:= "__mul__") F.slot_tuple_mul.lookup (by decide +kernel),PySem.seqSlot_of (name:= "__rmul__") F.slot_tuple_rmul.lookup (by decide +kernel)];rfl
def oa a t l dct its n sl :
  Meets (Builtin.«int.__rmul__» ⟨[.int a t,.ref l],[]⟩) (λ_ R s=>s.heap.get? l=some ⟨.type "tuple",dct,.seq its n,sl⟩/\R (.ok (.ret Value.notImplemented)) s):=
 .of_wp λb w A R s h=>by obtain⟨i,g,d,e,f⟩:=s;obtain⟨c,h⟩:=h;wp_walk;exact⟨_,rfl,h⟩
def oC a t l dct its n sl (y:-(2 ^ 63)<=a) (F:a<2 ^ 63) (k:its.size*a.toNat<=sizeLine) :
  Meets (Builtin.«tuple.__mul__» ⟨[.ref l,.int a t],[]⟩) (λ_ R s=>s.heap.get? l=some ⟨.type "tuple",dct,.seq its n,sl⟩/\((its.isEmpty=true\/a=1)->R (.ok (.ret (.ref l))) s)/\
   (¬(its.isEmpty=true\/a=1)->a<=0->R (.ok (.ret (.ref s.heap.objs.size))) {s with heap:=s.heap.push {cls:=.type "tuple",data:=.seq #[]}})/\
   (¬(its.isEmpty=true\/a=1)->0<a->R (.ok (.ret (.ref s.heap.objs.size))) {s with heap:=s.heap.push {cls:=.type "tuple",data:=.seq ((List.replicate a.toNat its).foldl (·++·) #[])}})):=
 .of_wp λm w A R s h=>by
  obtain⟨I,g,d,H,E⟩:=s;obtain⟨D,x,p,u⟩:=h;have q:¬(decide (a < -2 ^ 63)||decide (a >= 2 ^ 63))=true:=by simp;omega
  wp_walk;rw[aR q];wp_walk;by_cases b:its.isEmpty=true\/a=1
  .rw[aQ (by rcases b with c|c<;>simp[c])];wp_walk;exact⟨_,rfl,x b⟩
  .rw[aR (by intro z;exact b (by simpa using z))];by_cases f:a<=0
   .rw[aQ (by simp[f])];wp_walk;exact⟨_,rfl,p b f⟩
   .have o:¬its.isEmpty=true:=λz=>b (.inl z);have B:its.size*a<=sizeLine:=by
     have:((its.size*a.toNat:Nat):Int)<=sizeLine:=by exact_mod_cast k
     rw[Int.natCast_mul,b9 (by omega)]at this;exact this
    have C:(sizeLine:Int)=2 ^ 24:=by decide
    rw[aR (by simp[f,o]),aR (by omega)];rw[aR (by simp[Tuple.tupleTooMany];omega)];have v:(List.foldl (λj i=>j++i) #[] (List.replicate a.toNat its)).size<=sizeLine:=by
     have e:=ku its.toList a.toNat [];simp only[bP]at e;have r:List.foldl (λj i=>j++i) #[] (List.replicate a.toNat its)=(List.replicate a.toNat its.toList).flatten.toArray:=by simpa using e
     rw[r,bu,pS,bQ];simpa using k
    wp_walk;exact⟨_,rfl,u b (by omega)⟩
section
variable {X:Cx}
def zi:R2:=λx y H Q=>∃l k a,x=.ref l/\y=.int k/\H l=some (.tup a)/\-(2 ^ 63)<=k/\k<2 ^ 63/\a.length*k.toNat<=sizeLine/\((a=[]\/k=1)->Q (.ref l) H)/\
 (¬(a=[]\/k=1)->∀p,H p=none->Q (.ref p) (fT H p (.tup (List.replicate k.toNat a).flatten)))
def Ap:jU X (binaryOp .Mult) zi:=by
 intro cV s σ H x y v u Q I N S h;obtain⟨l,k,i,rfl,rfl,C,D,P,m,U,p⟩:=h;cases N;obtain⟨t,rfl⟩:=S;obtain⟨a,r,⟨⟨c,d,dt,A⟩,e,Z,n,J⟩,_⟩:=I.tuple (i5.of C);subst Z;subst J;have L:=r.length;have R:a.toArray.size*k.toNat<=sizeLine:=by rw[bu,<-L];exact m
 have j:a.toArray.isEmpty=true↔i=[]:=by
  cases r with
  |nil=>simp
  |cons _ _=>simp
 have f:(a.toArray.isEmpty=true\/k=1)↔(i=[]\/k=1):=by rw[j]
 have g:List.foldl (λY B=>Y++B) #[] (List.replicate k.toNat a.toArray)=(List.replicate k.toNat a).flatten.toArray:=by have:=ku a k.toNat [];rw[bP]at this;exact this
 have fr:=I.fresh;refine wpAny_binaryOp_repeat_ref (by decide) ⟨_,e,rfl⟩ (λE=>typeIs_int E k t) mM F.fills_int_mul F.slot_int_rmul qh F.slot_int_index.lookup
  (call_meets F.slot_int_rmul (typeIs_int s k t) F.entry_int_rmul (F.args_int_rmul_2 _ _) (oa k t l d a.toArray n A)
   ⟨e,rfl,⟨_,e,rfl⟩,call_meets F.slot_tuple_mul ⟨_,e,rfl⟩ F.entry_tuple_mul (F.args_tuple_mul_2 _ _) (oC k t l d a.toArray n A D P R) ⟨e,λz=>?_,λz w=>?_,λz w=>?_⟩⟩)
 .exact⟨.ref l,H,I,rfl,U (f.mp z)⟩
 .have e0:k.toNat=0:=by omega
  have q:=p (λy=>z (f.mpr y)) s.heap.objs.size fr;rw[e0]at q;exact⟨.ref _,_,I.laid (o:=.tup []) (λb K q=>ae _ q) (aK _) ⟨bA _,[],.nil,nW.new _ _⟩,rfl,q⟩
 .rw[g];refine⟨.ref _,_,I.laid (o:=.tup (List.replicate k.toNat i).flatten) (λb K q=>ae _ q) (aK _) ⟨?_,_,r.rep k.toNat,nW.new _ _⟩,rfl,p (λy=>z (f.mpr y)) _ fr⟩;rw[pS,bQ];exact m
def rB:V->Option Bool
 |.bl b=>some b
 |.int i=>some (i != 0)
 |_=>none
def iu:List V->Option (List Bool)
 |[]=>some []
 |v::vs=>(rB v).bind λb=>(iu vs).bind λr=>some (b::r)
theorem oZ:∀{vs} {bs} {us} {i} {u},iu vs=some bs->dQ vs us->us[i]? = some u->∃v,eT v u/\rB v=some (bs.getD i false)
 |[],_,_,_,_,_,.nil,e=>by simp at e
 |v::vs,bs,_,i,u,h,.cons r t,e=>by
  cases c:rB v with
  |none=>simp[iu,c]at h
  |some b=>
   cases hr:iu vs with
   |none=>simp[iu,c,hr]at h
   |some r'=>
    simp[iu,c,hr]at h;subst h;cases i with
    |zero=>simp at e;subst e;exact⟨v,r,by simpa using c⟩
    |succ i=>obtain⟨d,a,f⟩:=oZ hr t (by simpa using e);exact⟨d,a,by simpa using f⟩
theorem oM:∀{vs} {bs},iu vs=some bs->vs.length=bs.length
 |[],_,h=>by cases h;rfl
 |v::vs,bs,h=>by
  cases a:rB v with
  |none=>simp[iu,a]at h
  |some b=>
   cases hr:iu vs with
   |none=>simp[iu,a,hr]at h
   |some r'=>simp[iu,a,hr]at h;subst h;simp[oM hr]
def nZ(h:iu vs=some bs)(r:dQ vs us):TruthOf prog w A (λi v=>us.toArray[i]? = some v) (λi=>bs.getD i false):=λi u s Q E e a=>by
 obtain⟨v,d,c⟩:=oZ h r (by simpa using e);dsimp only at a;cases v with
 |bl b=>
  cases d;have:b=bs.getD i false:=by simpa[rB] using c
  rw[<-this]at a;exact wpAny_truthy_bool a
 |int n=>
  obtain⟨t,rfl⟩:=d;have:(n != 0)=bs.getD i false:=by simpa[rB] using c
  rw[<-this]at a;exact PyProof.Rows.truthy_int a
 |_=>simp[rB]at c
def vK(n:X.calm=true):gF X (.builtin "any") (λm H Q=>∃p vs bs,m=[.ref p]/\(iC X.K H p vs\/i5 X.K H p vs)/\iu vs=some bs/\Q (.bl (bs.any id)) H):=by
 intro C s D H m E Q I r h;obtain⟨p,vs,bs,rfl,g,c,q⟩:=h;obtain⟨u,rfl,x⟩:=lG r;cases x;have t:=oM c;rcases g with g|g
 .obtain⟨a,j,f,w⟩:=I.list g;have y:=j.length;have d:p<s.heap.objs.size:=by obtain⟨_,e,_⟩:=f.isList;exact aL e
  refine call_any_walk (wpAny_pyIter_list f.isList ⟨s.heap.objs.size,_,_,_,_,_,λi=>bs.getD i false,rfl,Walks.list (A:=X.A.in1) (I.ok.hd n) _ p (aM d) _,⟨⟨_,ar _ rfl,rfl,rfl⟩,f.isList.push _⟩,nZ c j,λv B l=>?_⟩);refine⟨.bl _,H,I.kept (λb o e=>l b o (λk=>?_) (ae _ e)),rfl,?_⟩
  .have lt:=aL e;have z:b=s.heap.objs.size:=by simpa using k
   rw[z]at lt;exact a9 _ lt
  .rw[<-oN]at q;have:a.toArray.size=bs.length:=by rw[bu];omega
   rw[this];exact q
 .obtain⟨a,j,f,w⟩:=I.tuple g;have y:=j.length;have d:p<s.heap.objs.size:=by obtain⟨_,e,_⟩:=f;exact aL e
  have pt:=f;refine call_any_walk (wpAny_pyIter_tuple pt ⟨s.heap.objs.size,_,_,_,_,_,λi=>bs.getD i false,rfl,Walks.tuple (A:=X.A.in1) (I.ok.hd n) _ p (aM d) _,⟨⟨_,ar _ rfl,rfl,rfl⟩,pt.push _⟩,nZ c j,λv B l=>?_⟩);refine⟨.bl _,H,I.kept (λb o e=>l b o (λk=>?_) (ae _ e)),rfl,?_⟩
  .have lt:=aL e;have z:b=s.heap.objs.size:=by simpa using k
   rw[z]at lt;exact a9 _ lt
  .rw[<-oN]at q;have:a.toArray.size=bs.length:=by rw[bu];omega
   rw[this];exact q
end
end L2
namespace HT
open PySem PySem.Spec PyProof.Rows
section
variable {prog:Program}{w:World}{A:Around}{E:Vq->Shared->Prop}{s:Sq}
def getItem_tuple_all{a d:Oq Int}(b:IsTup s.heap t items)(i:s.heap.IsSliceOf sl vl vu .none)(l:IsPart vl a)(k:IsPart vu d)
  (hw:sIx items.size 0 a=0/\sIx items.size items.size d=items.size) (h:Q (.ref t) s):wpAny (model prog w) A (getItem (.ref t) (.ref sl)) Q E s:=by
 obtain⟨m,g,e,j⟩:=id i;have f:s.TypeIs (.ref sl) "slice" :=⟨m,g,e⟩;unfold getItem;try with_reducible refine wpAny_holding ?_;first|refine ao (ak ?_)|skip
 refine ao (wpAny_sequenceKey b.typeIs (by decide) ?_);refine ao (wpAny_callSpecial?_slot b.typeIs PyProof.Rows.slot_tuple_getitem
  (wpAny_call_entry PyProof.Rows.slot_tuple_getitem b.typeIs entry_tuple_getitem ?_ (args_tuple_getitem _ _)))
 show wpAny _ _ (Builtin.Tuple.tupleItemsOf (.ref t) >>= _) _ _ s;refine ao (tupleItemsOf_ b ?_);refine ao (wpAny_typeOf f ?_);rw[aQ (by decide)];refine ao (jv i l k ?_);have c:(((sIx items.size 0 a):Int)==0&&(1:Int)==1&&(sIx items.size items.size d-sIx items.size 0 a)==items.size)=true:=by rw[hw.1,hw.2];simp
 show wpAny _ _ (if (((sIx items.size 0 a):Int)==0&&1==1&&(sIx items.size items.size d-sIx items.size 0 a)==items.size)=true then _ else _) _ _ s;rw[aQ c];refine ao (ao (wpAny_typeOf b.typeIs (ak ?_)));rw[aQ (by decide)];refine ao (wpAny_rule ?_);exact ak ⟨_,rfl,ak h⟩
end
end HT
namespace L2
open PySem PySem.Spec PyProof.Rows
section
variable {X:Cx}
def E5(K:W.Frag):V->Option Int->Option Int->Hp->VK->Prop:=λx c d H Q=>∃a b,x=.ref a/\i5 K H a b/\(HT.sIx b.length 0 c=0/\HT.sIx b.length b.length d=b.length)/\Q (.ref a) H
def A5:BX X (E5 X.K):=by
 intro n s w H x v p l u o t Q I g f k e h;obtain⟨a,i,rfl,d,hw,q⟩:=h;cases g;obtain⟨b,r,c,m⟩:=I.tuple d;have j:b.toArray.size=i.length:=by rw[bu];exact r.length.symm
 refine⟨"tuple",_,PyProof.Rows.slot_tuple_getitem.lookup,c.typeIs,?_⟩;exact HT.getItem_tuple_all c f k e (by rw[j];exact hw) ⟨.ref a,H,I,rfl,q⟩
end
end L2
namespace L2
open PySem PySem.Spec PyProof.Rows
section
variable {X:Cx}{tg:Expr}
def Hm(x:Str):It:=⟨λi _=>∃c,x.cps[i]? = some c,λi H y a=>a=H/\∃c,x.cps[i]? = some c/\y=.str ⟨#[c]⟩,λi _=>x.cps[i]? = none⟩
def mz{prog:Program}{w:World}{A:Around}{E:Vq->Shared->Prop}{s:Sq}{it:Addr}{x:Str}{t:Tok}{i:Nat}{Q:Vq->Shared->Prop}(st:s.heap.IsStrIter it "str_ascii_iterator" x t i)(h:Q (.ref it) s):wpAny (model prog w) A (pyIter (.ref it)) Q E s:=by refine wpAny_pyIter_slot st.typeIs F.slot_str_ascii_iterator_iter (wpAny_call_entry F.slot_str_ascii_iterator_iter st.typeIs F.entry_str_ascii_iterator_iter ?_ (F.args_str_ascii_iterator_iter_1 _));show wpAny _ _ (ret (.ref it)) _ _ s;exact ak ⟨_,rfl, "str_ascii_iterator",_,st.typeIs,F.slot_str_ascii_iterator_next.lookup,h⟩
def w6{K:W.Frag}(x:Str)(t:Tok) it:tW P w K tg (Hm x) [it] it (λi h=>h.IsStrIter it "str_ascii_iterator" x t i) where
 mem:=by simp
 obj:=λi h a b f=>by
  have e:b=it:=by simpa using f
  subst e;obtain⟨o,e,c,d⟩:=a;exact⟨o,e,λv z=>by rw[d]at z;cases z⟩
 keep:=λi h C a k=>by obtain⟨o,e,r⟩:=a;exact⟨o,k it (by simp) o e,r⟩
 item:=by intro X A hw q D i J s S H E I j a u;subst A hw q;obtain⟨c,B⟩:=u;obtain⟨m,y,N,l,p,n⟩:=j it (by simp);refine wpAny_pyNext_ascii_item a B λC g Q=>?_;have R:=I.turned (t':=s.toks+1) (λb o f e=>(Q.2 b f).trans e) m y l p n;obtain⟨o,e,L,d⟩:=id g;exact⟨_,rfl,uM e L d (by decide) ⟨.str ⟨#[c]⟩,H,R,⟨_,rfl⟩,⟨rfl,c,B,rfl⟩,g,λb f=>(j b f).1⟩⟩
 done:=by intro X A hw q D i J s S H E I j a u;subst A hw q;obtain⟨m,y,N,l,p,n⟩:=j it (by simp);exact wpAny_pyNext_ascii_end (I.ok.hd D) a u λC F=>⟨rfl,I.turned (λb o f e=>F b o f e) m y l p n⟩
 self:=λ_ _ _ _ _ a h=>mz a h
def EG(a:TE):TI:=λc H R=>a c H λx b=>∃z,x=.str z/\z.cps.all (· < 128)=true/\R (Hm z) b
def DB(c:PE X l tl):PI X tg l (EG tl):=by
 intro d s g H R I h;refine fM (c d s g H _ I h) λv s1 ⟨x,H1,I1,r1,q1⟩=>?_;obtain⟨z,e,f,q⟩:=q1;subst e;obtain⟨t,rfl⟩:=r1;refine wpAny_pyIter_ascii f ?_;refine⟨s1.heap.objs.size,[s1.heap.objs.size],_,_,H1,rfl,I1.kept λb o e=>ae _ e,w6 z t _,⟨_,ar _ rfl,rfl,rfl⟩,λb a=>?_,q⟩;have e:b=s1.heap.objs.size:=by simpa using a
 subst e;exact I1.fpOk (aK _) (I1.hok.fresh (aK _))
def EO(x y:Str):Bool:=decide (0+y.length<=x.length)&&Builtin.Str.subAt x y 0
def qw:V->List V->Hp->VK->Prop:=λx c H Q=>∃a b,x=.str a/\c=[.str b]/\Q (.bl (EO a b)) H
def vT:GM X "str.startswith" qw:=by intro g s i H x f v j Q I c e h;obtain⟨a,b,rfl,rfl,q⟩:=h;obtain⟨t,rfl⟩:=c;obtain⟨u,rfl,⟨d,rfl⟩⟩:=e.one;exact call_gives F.slot_str_startswith (typeIs_str s a t) F.entry_str_startswith (F.args_str_startswith_2 _ _) (gives_str_startswith a b t d) ⟨.bl _,H,I,rfl,q⟩
def iD(c:Nat):List Nat->List (List Nat)
 |[]=>[[]]
 |x::xs=>if x=c then []::iD c xs else match iD c xs with
  |p::r=>(x::p)::r
  |[]=>[[x]]
theorem vp(c:Nat):∀l,∃p r,iD c l=p::r
 |[]=>⟨_,_,rfl⟩
 |x::xs=>by
  unfold iD;obtain⟨p,r,e⟩:=vp c xs;rw[e];by_cases h:x=c
  .rw[aQ h];exact⟨_,_,rfl⟩
  .rw[aR h];exact⟨_,_,rfl⟩
def fN(c:Nat):List (List Nat)->List Nat
 |[]=>[]
 |[p]=>p
 |p::q::r=>p++c::fN c (q::r)
theorem jB(c:Nat):∀(p:List Nat),c∉p->iD c p=[p]
 |[],_=>rfl
 |x::xs,h=>by have a:x≠c:=λz=>h (z▸bh ..);unfold iD;rw[aR a,jB c xs λz=>h (bj _ z)]
theorem lL(c:Nat):∀(p l:List Nat),c∉p->iD c (p++c::l)=p::iD c l
 |[],l,_=>by show iD c (c::l)=_;rw[iD,aQ rfl]
 |x::xs,l,h=>by have a:x≠c:=λz=>h (z▸bh ..);rw[List.cons_append,iD,aR a,lL c xs l λz=>h (bj _ z)]
theorem kg(c:Nat):∀(a:List (List Nat)),a≠[]->(∀p∈a,c∉p)->iD c (fN c a)=a
 |[],h,_=>absurd rfl h
 |[p],_,h=>jB c p (h p (by simp))
 |p::q::r,_,h=>by rw[fN,lL c p _ (h p (by simp)),kg c (q::r) (by simp) λx b=>h x (bj _ b)]
theorem sS(c:Nat):∀a:List Str,(Str.join ⟨#[c]⟩ a).cps.toList=fN c (a.map λp=>p.cps.toList)
 |[]=>rfl
 |[p]=>rfl
 |p::q::r=>by show (p++⟨#[c]⟩++Str.join ⟨#[c]⟩ (q::r)).cps.toList=_;have b:=sS c (q::r);rw[bw]at b;rw[bw,bw,fN,<-b];simp[Str.cps_append]
def ya(x y:Str):Txt.split x y≠[]:=by
 unfold Txt.split;split
 .simp
 .split
  .simp
  .rw[StrLaws.partsBetween_eq];obtain⟨p,r,e⟩:=StrLaws.partsFrom_ne x y.length 0 (Builtin.Str.occurrences x y 0 x.length (x.length+1));rw[e];simp
def c5(l:List Nat):Str:=⟨l.toArray⟩
def vx(x:Str)(c:Nat):Txt.split x ⟨#[c]⟩=(iD c x.cps.toList).map c5:=by
 have h:=sS c (Txt.split x ⟨#[c]⟩);rw[StrLaws.join_split]at h;rw[h,kg c _ (by simpa using ya x ⟨#[c]⟩) λp b=>?_,aI]
 .refine (List.map_id _).symm.trans (cf λp _=>?_);show p=c5 p.cps.toList;unfold c5;simp
 .obtain⟨q,a,rfl⟩:=aD.mp b;exact StrLaws.split_free x c q a
def tp:V->List V->Hp->VK->Prop:=λx b H Q=>∃a c,x=.str a/\b=[.str ⟨#[c]⟩]/\a.length<sizeLine/\∀p,H p=none->Q (.ref p) (fT H p (.lst ((iD c a.cps.toList).map λl=>V.str (c5 l))))
theorem pK:∀(l:List (Str×Tok)),dQ (l.map λp=>V.str p.1) (strValues l)
 |[]=>.nil
 |p::l=>.cons ⟨p.2,rfl⟩ (pK l)
theorem rz(c:Nat):∀l:List Nat,(iD c l).length<=l.length+1
 |[]=>aK 1
 |x::xs=>by
  have a:=rz c xs;unfold iD;obtain⟨p,r,e⟩:=vp c xs;rw[e]at a ⊢;simp only[az]at a;by_cases h:x=c
  .rw[aQ h];simp only[az];omega
  .rw[aR h];simp only[az];omega
def ym:GM X "str.split" tp:=by
 intro m s r H x B v C Q I w A h;obtain⟨a,c,rfl,rfl,k,q⟩:=h;obtain⟨t,rfl⟩:=w;obtain⟨u,rfl,⟨g,rfl⟩⟩:=A.one;have i:(iD c a.cps.toList).length<=sizeLine:=by
  have:=rz c a.cps.toList;have e:a.cps.toList.length=a.length:=by simp[Str.length]
  rw[e]at this;exact aN this k
 have b:∀(l:List (Str×Tok)) (n:Nat),l.map (·.1)=Txt.split a ⟨#[c]⟩->EP X m r Q (.ref s.heap.objs.size) {s with toks:=n,heap:=s.heap.push {cls:=.type "list",data:=.seq (strValues l).toArray}}:=λl n e=>by
  rw[vx]at e;have y:(l.map λp=>V.str p.1)=(iD c a.cps.toList).map λl=>V.str (c5 l):=by have:=congrArg (List.map V.str) e;rw[aI,aI]at this;exact this
  have j:=pK l;rw[y]at j;exact⟨.ref _,_,I.lnew j (by rw[aw];exact i),rfl,q _ I.fresh⟩
 cases d:(decide (a.length<(⟨#[c]⟩:Str).length)||decide (Builtin.Str.strKind a<Builtin.Str.strKind ⟨#[c]⟩))
 .cases f:(Builtin.Str.occurrences a ⟨#[c]⟩ 0 a.length (a.length+1)).isEmpty
  .have o:Txt.split a ⟨#[c]⟩=Builtin.Str.partsBetween a (Builtin.Str.occurrences a ⟨#[c]⟩ 0 a.length (a.length+1)) (⟨#[c]⟩:Str).length:=(aR (ne_true_of_eq_false d)).trans (aR (ne_true_of_eq_false f));have z:(Builtin.Str.partsBetween a (Builtin.Str.occurrences a ⟨#[c]⟩ 0 a.length (a.length+1)) (⟨#[c]⟩:Str).length).length<=sizeLine:=by rw[<-o,vx,aw];exact i
   refine call_meets F.slot_str_split (typeIs_str _ _ _) F.entry_str_split (F.args_str_split_2 _ _) (meets_str_split_sep a ⟨#[c]⟩ t g d rfl f (bf k) z) ?_;show wants (EP X m r Q) X.xe _ {s with toks:=_,heap:=s.heap.push {cls:=.type "list",data:=.seq (strsFrom s.toks (Builtin.Str.partsBetween a (Builtin.Str.occurrences a ⟨#[c]⟩ 0 a.length (a.length+1)) (⟨#[c]⟩:Str).length)).toArray}};rw[strsFrom_eq];exact b (numbered s.toks _) _ ((numbered_texts _ _).trans o.symm)
  .exact call_meets F.slot_str_split (typeIs_str _ _ _) F.entry_str_split (F.args_str_split_2 _ _) (meets_str_split_not_found a ⟨#[c]⟩ t g d rfl f)
    (b [(a,t)] s.toks ((aR (ne_true_of_eq_false d)).trans (aQ f)).symm)
 .exact call_meets F.slot_str_split (typeIs_str _ _ _) F.entry_str_split (F.args_str_split_2 _ _) (meets_str_split_cannot_occur a ⟨#[c]⟩ t g d)
   (b [(a,t)] s.toks (aQ d).symm)
def xT:V->List V->Hp->VK->Prop:=λx c H Q=>∃a p b,x=.str a/\c=[.ref p]/\H p=some (.lst ((b:List Str).map V.str))/\JoinOk a b=true/\Q (.str (Txt.join a b)) H
theorem pL:∀{ts:List Str} {us:List Vq},dQ (ts.map V.str) us->∃l:List (Str×Tok),us=strValues l/\l.map (·.1)=ts
 |[],_,.nil=>⟨[],rfl,rfl⟩
 |x::ts,_,.cons ⟨t,e⟩ r=>by obtain⟨l,rfl,a⟩:=pL r;subst e;exact⟨(x,t)::l,rfl,by rw[bw,a]⟩
def A1:GM X "str.join" xT:=by intro w s A H x m v B Q I d i h;obtain⟨a,p,j,rfl,rfl,b,ok,q⟩:=h;obtain⟨t,rfl⟩:=d;obtain⟨u,rfl,g⟩:=i.one;cases g;obtain⟨z,c,n,r,o,e⟩:=I.lstM b;obtain⟨l,rfl,f⟩:=pL r;exact SC.join (l:=l) ⟨_,e,rfl,_,rfl⟩ f ok λy k=>⟨.str _,H,I.tok _,⟨_,rfl⟩,q⟩
def ou:gF X (.type "int") (λa H Q=>∃x n,a=[.str x]/\x.length<=640/\intText? x=some n/\Q (.int n) H):=by intro d s e H a f Q I r h;obtain⟨x,n,rfl,c,b,q⟩:=h;obtain⟨u,rfl,⟨t,rfl⟩⟩:=lG r;exact W.KIN.call_text b c ⟨.int n,H,I.tok _,⟨_,rfl⟩,q⟩
def inS(y x:Str):Bool:=!(Builtin.Str.occurrences x y 0 x.length 1).isEmpty
def Ck:jU X (compareOp .In) (λy x H Q=>∃a b,y=.str a/\x=.str b/\Q (.bl (inS a b)) H):=by intro e s g H x y v u Q I c d h;obtain⟨a,b,rfl,rfl,q⟩:=h;obtain⟨t,rfl⟩:=c;obtain⟨f,rfl⟩:=d;exact in_str ⟨.bl _,H,I,rfl,q⟩
def Am(P:Program)(w:World)(K:W.Frag)(d:Addr)(a:List (Int×V)):Prop:=(d==sysModules)=false/\∃o b,K.lookup d=some o/\o.IsDictOf (intKind P w) b/\b.map (·.1)=a.map (·.1)/\dQ (a.map (·.2)) (b.map (·.2))
def vM(P:Program)(w:World)(K:W.Frag)(d:Addr)(a:List (Str×V)):Prop:=(d==sysModules)=false/\∃o b,K.lookup d=some o/\o.IsDictOf (strKind P w) b/\b.map (·.1)=a.map (·.1)/\dQ (a.map (·.2)) (b.map (·.2))
def wg{a:Type}[DecidableEq a](k:a):List (a×V)->Option V
 |[]=>none
 |p::r=>if p.1=k then some p.2 else wg k r
theorem mV{d:Type}[DecidableEq d](k:d):∀{c:List (d×V)} {vs:List (d×Value)},vs.map (·.1)=c.map (·.1)->dQ (c.map (·.2)) (vs.map (·.2))->(wg k c=none/\valueAt vs k=none)\/∃v u,wg k c=some v/\valueAt vs k=some u/\eT v u
 |[],[],_,_=>.inl ⟨rfl,rfl⟩
 | (a,v)::c,(b,u)::vs,e,r=>by
  simp only[bw,List.cons.injEq]at e;obtain⟨g,i⟩:=e;subst g;cases r with
  |cons r1 r2=>
   unfold wg valueAt;by_cases h:b=k
   .exact .inr ⟨v,u,by rw[aQ h],by simp[h],r1⟩
   .have f:=mV k i r2;rw[aR h];unfold valueAt at f;simpa[h] using f
 |[],_::_,e,_=>by cases e
 |_::_,[],e,_=>by cases e
def Bi{d:Addr}{a:List (Int×V)}(T:Am X.prog X.w X.K d a):xQ X (λx y H Q=>∃i v,x=.ref d/\y=.int i/\wg i a=some v/\Q v H):=by
 intro b c C s L H x y v u Q I n A h l;obtain⟨i,r,rfl,rfl,e,q⟩:=h;cases n;obtain⟨t,rfl⟩:=A;obtain⟨F,o,m,k,g,j,p⟩:=T;have D:s.heap.DictOf (intKind X.prog X.w) d m:=Heap.dictOf_iff.mpr ⟨o,I.kIn _ _ k,g⟩;rcases mV i j p with⟨z,_⟩|⟨J,E,z,B,f⟩
 .rw[z]at e;cases e
 .rw[z]at e;cases e;exact tail_any D.typeIs slot_dict_getitem.lookup (wpAny_getItem_of (intKind_is X.prog X.w i t) D.mapOf B ⟨_,H,I.tok _,f,q⟩) l
def AN{d:Addr}{a:List (Str×V)}(T:vM X.prog X.w X.K d a):xQ X (λx y H Q=>∃i v,x=.ref d/\y=.str i/\wg i a=some v/\Q v H):=by
 intro b c C s L H x y v u Q I n A h l;obtain⟨i,r,rfl,rfl,e,q⟩:=h;cases n;obtain⟨t,rfl⟩:=A;obtain⟨F,o,m,k,g,j,p⟩:=T;have D:s.heap.DictOf (strKind X.prog X.w) d m:=Heap.dictOf_iff.mpr ⟨o,I.kIn _ _ k,g⟩;rcases mV i j p with⟨z,_⟩|⟨J,E,z,B,f⟩
 .rw[z]at e;cases e
 .rw[z]at e;cases e;exact tail_any D.typeIs slot_dict_getitem.lookup (wpAny_getItem_of (strKind_is X.prog X.w i t) D.mapOf B ⟨_,H,I.tok _,f,q⟩) l
def Ad{d:Addr}{b:List (Str×V)}(T:vM X.prog X.w X.K d b):jU X (compareOp .In) (λy x H Q=>∃a,x=.ref d/\y=.str a/\Q (.bl (wg a b).isSome) H):=by
 intro r s C H y x v u Q I k i h;obtain⟨a,rfl,rfl,q⟩:=h;cases i;obtain⟨t,rfl⟩:=k;obtain⟨n,o,g,f,c,e,j⟩:=T;have D:s.heap.DictOf (strKind X.prog X.w) d g:=Heap.dictOf_iff.mpr ⟨o,I.kIn _ _ f,c⟩;refine wpAny_in_of (strKind_is X.prog X.w a t) n D.mapOf ?_;rcases mV a e j with⟨z,l⟩|⟨B,A,z,m,p⟩
 .rw[z]at q;rw[l];exact⟨.bl false,H,I.tok _,rfl,q⟩
 .rw[z]at q;rw[m];exact⟨.bl true,H,I.tok _,rfl,q⟩
def zj(len:Nat):Builtin.Str.strSliceIndices (some 1) none 1 len=Builtin.Str.strSliceIndices (some ((min 1 len:Nat):Int)) (some (len:Int)) 1 len:=by
 have d:¬((1:Int)<0):=by decide
 have f:¬((len:Int)<0):=by omega
 have c:¬(((min 1 len:Nat):Int)<0):=by omega
 have a:max (0:Int) (min 1 (len:Int))=((min 1 len:Nat):Int):=by omega
 have e:max (0:Int) (min (len:Int) (len:Int))=len:=by omega
 have b:max (0:Int) (min ((min 1 len:Nat):Int) (len:Int))=((min 1 len:Nat):Int):=by omega
 simp only[Builtin.Str.strSliceIndices,d,f,c,if_false,a,e,b,show ((1:Int)>0)=True from by simp,if_true]
def vL(x:Str)(a:Tok):slicePicked x (some (1,a)) none none=Builtin.Str.strSliceIndices (some ((min 1 x.length:Nat):Int)) (some (x.length:Int)) 1 x.length:=zj x.length
def Fe(x:Str):Str:=c5 (x.cps.toList.drop 1)
def vX{s:Sq}(x:Str)(t c:Tok){Q:Vq->Shared->Prop}(g:x.length<=sizeLine)(h:∀t' k,Q (.str (Fe x) t') {s with toks:=k}):(sliceMade x t (some (1,c)) none none).post Q s:=by
 have f:=vL x c;have b:x.cps.toList.length=x.length:=by simp[Str.length]
 have i:(slicePicked x (some (1,c)) none none).filterMap (x.cps[·]?)=x.cps.toList.drop 1:=by
  rw[f,StrLaws.sliced_plain x (by omega) (aK _),b5 (by rw[bH,b];omega)];by_cases d:x.length=0
  .have:x.cps.toList=[]:=cj.mp (b.trans d);rw[this];simp
  .rw[show min 1 x.length=1 by omega]
 unfold sliceMade;split
 .rename_i a;have a:(slicePicked x (some (1,c)) none none).length=x.length:=by simpa using a
  have d:x.length=0:=by rw[f,StrLaws.strSliceIndices_plain (by omega) (aK _)]at a;simp at a;omega
  have e:x=Fe x:=by have:x.cps.toList=[]:=cj.mp (b.trans d);refine Str.ext' ?_;apply Array.toList_inj.mp;show _=(x.cps.toList.drop 1).toArray.toList;rw[this];rfl
  have:=h t s.toks;rw[<-e]at this;exact this
 .rw[i];refine⟨?_,h _ _⟩;show (x.cps.toList.drop 1).toArray.size<=sizeLine;rw[bu,bH,b];exact aN (Nat.sub_le _ _) g
def BU(b:TE):TE:=λc H Q=>b c H λx a=>∃z,x=.str z/\z.length<=sizeLine/\Q (.str (Fe z)) a
def zL{j c m a:_}(f:PE X e te)(d:∀o r,letTemporaryGo e o r=pure ():=by intro _ _;rfl):PE X (.Subscript e (.Slice (some (.Constant (.int 1) j c)) none none m) a) (BU te):=by intro i s l H Q I h;refine wpAny_Subscript_str_slice (fM (f i s l H _ I h) λv s1 ⟨x,H1,I1,r1,q1⟩=>?_) d;obtain⟨z,rfl,g,q⟩:=q1;obtain⟨t,rfl⟩:=r1;show wpAny _ _ (eval (.Constant (.int 1) j c) X.env) _ _ _;refine wpAny_Constant_int ?_;refine ak ⟨z,t,some (1,_),none,rfl,rfl,rfl,vX z t _ g λn k=>⟨.str _,H1,?_,⟨_,rfl⟩,q⟩⟩;exact I1.kept λb o e=>ae _ e
end
end L2
namespace Cu
noncomputable def G(a b:Int):Int:=(Int.gcd a b:Nat)
def xy a b:G b (Int.fmod a b)=G a b:=by
 unfold G;have e:=Int.fmod_def a b;rw[e];congr 1;apply Nat.dvd_antisymm
 .apply Int.dvd_gcd
  .have g:=ck b (a-b*Int.fdiv a b);have h:=cm b (a-b*Int.fdiv a b);have d:=Int.dvd_add h (cn (c:=Int.fdiv a b) g);have f:a-b*Int.fdiv a b+b*Int.fdiv a b=a:=by omega
   rw[f]at d;exact d
  .exact ck b _
 .apply Int.dvd_gcd
  .exact cm a b
  .exact Int.dvd_sub (ck a b) (cn (cm a b))
def pb a b (h:b≠0):(Int.fmod a b).natAbs<b.natAbs:=by
 rcases Int.lt_or_gt_of_ne h with c|c
 .have d:=cq (-a) (show 0 < -b by omega);have e:=cu (-a) (show 0 < -b by omega);rw[Int.neg_fmod_neg]at d e;omega
 .have d:=cq a c;have e:=cu a c;omega
def FB a b:G (a.natAbs:Int) (b.natAbs:Int)=G a b:=by unfold G Int.gcd;rw[cv,cv]
def zf a:G a 0=(a.natAbs:Int):=by unfold G;rw[Int.gcd_zero_right]
def yS a b:0<=G a b:=Int.natCast_nonneg _
def BR a b (h:b≠0):0<G a b:=by have:=cw a h;unfold G;omega
def nC a b:G a b ∣ a:=ck a b
def j4 a b:G a b ∣ b:=cm a b
def GV a b (h:b≠0):G a b<=(b.natAbs:Int):=by have:=Int.natAbs_dvd_natAbs.mpr (j4 a b);have c:=Nat.le_of_dvd (by omega) this;have:=yS a b;omega
structure Hv(t b p q:Int):Prop where
 pos:0<q
 one:G p q=1
 is:p*b=t*q
def nu(e:b≠0)(l:g≠0)(j:g=G t b\/g = - G t b)(f:0<q)(c:t=g*p)(a:b=g*q):Hv t b p q:=by
 refine⟨f,?_,?_⟩
 .have d:Int.gcd t b=g.natAbs*Int.gcd p q:=by rw[c,a,Int.gcd_mul_left]
  have k:g.natAbs=Int.gcd t b:=by unfold G at j;omega
  rw[k]at d;have i:=cw t e;have h:Int.gcd p q=1:=by
   have:Int.gcd t b*1=Int.gcd t b*Int.gcd p q:=by rw[<-d,Nat.mul_one]
   exact (Nat.eq_of_mul_eq_mul_left i this).symm
  unfold G;rw[h];rfl
 .have:p*(g*q)=g*p*q:=by rw[<-cx,cy p g]
  rw[<-a,<-c]at this;exact this
def jb g p (a:g≠0):Int.fdiv (g*p) g=p:=by exact cz p a
def xu t b (e:b≠0):Hv t b (Int.fdiv t (if b<0 then-G t b else G t b)) (Int.fdiv b (if b<0 then-G t b else G t b)):=by
 have k:=BR t b e;obtain⟨p,i⟩:=nC t b;obtain⟨q,f⟩:=j4 t b;by_cases h:b<0
 .rw[aQ h];have j:t=(-G t b)*(-p):=by rw[Int.neg_mul_neg];exact i
  have c:b=(-G t b)*(-q):=by rw[Int.neg_mul_neg];exact f
  have d:Int.fdiv t (-G t b) = -p:=by have:=jb (-G t b) (-p) (by omega);rw[<-j]at this;exact this
  have g:Int.fdiv b (-G t b) = -q:=by have:=jb (-G t b) (-q) (by omega);rw[<-c]at this;exact this
  rw[d,g];refine nu e (by omega) (Or.inr rfl) ?_ j c;by_cases a:0 < -q
  .exact a
  .exfalso;have:0<=q:=by omega
   have:=Int.mul_nonneg (Int.le_of_lt k) this;omega
 .rw[aR h];have d:Int.fdiv t (G t b)=p:=by have:=jb (G t b) p (by omega);rw[<-i]at this;exact this
  have g:Int.fdiv b (G t b)=q:=by have:=jb (G t b) q (by omega);rw[<-f]at this;exact this
  rw[d,g];refine nu e (by omega) (Or.inl rfl) ?_ i f;by_cases a:0<q
  .exact a
  .exfalso;have:0<=-q:=by omega
   have:=Int.mul_nonneg (Int.le_of_lt k) this;rw[Int.mul_neg]at this;omega
end Cu
namespace Cu
open PySem PyProof.Rows
open PySem.Builtin.Int (intBits)
def noPy(h:intBits y<=m)(c:m<=8000):PySem.Builtin.divisionGoesByPylong x y=false:=by
 refine PyProof.noPylong_of_log2 ?_;rcases Nat.eq_zero_or_pos y.natAbs with a|b
 .rw[a];decide
 .refine (Nat.log2_lt (bq b)).mpr ?_;exact lt_pow_of_bits h (by omega)
end Cu
namespace L2
open PySem PySem.Spec PyProof.Rows
def yz:gF X (.builtin "isinstance") (λa H Q=>∃x T t b,a=[x,.ty T]/\j0 X.K H x t/\W.kitOne X.K t (.type T)=some b/\Q (.bl b) H):=by
 intro f s g H a i Q I r h;obtain⟨x,T,t,b,rfl,c,e,q⟩:=h;cases r with
 |cons r1 r2=>
  cases r2 with
  |cons r3 r4=>cases r4;cases (r3);exact wk I r1 c e λd=>⟨.bl b,H,I.tok d,rfl,q⟩
def CK:bootBuiltins "isinstance" = some (.builtin "isinstance"):=by decide +kernel
def pX:bootBuiltins "abs" = some (.builtin "abs"):=by decide +kernel
def nF:bootBuiltins "int" = some (.type "int"):=by decide +kernel
def qx:bootBuiltins "bool" = some (.type "bool"):=by decide +kernel
def eS:bootBuiltins "tuple" = some (.type "tuple"):=by decide +kernel
def gK:bootBuiltins "len" = some (.builtin "len"):=by decide +kernel
end L2
namespace L2
open PySem PySem.W PySem.Spec PyProof.Rows
def wI{l:W.OpenLaw}{n k:Nat}{q:Program}{j:List Str}{XP:(Str->Option Value)->Heap->Prop}{YP:World->Heap->Prop}{d:DefRec}{K:Params->W.Frag}{CX:Bd}{U:W.Frag->Sp}{x:Str}
  (hn:l.most=some n) (E:n<=sizeLine) (Q:d.params.defaults=[]) (hr:fw k callerA)
  (hY:∀(w:World) (h:Heap),YP w h->(K w.params).In h)
  (F:∀(w:World) (p:Str->Option Value) (fa:Addr) (h:Heap),(K w.params).In h->h.Ns mainGlobals p->p d.name=some (.ref fa)->
   ∃fd:FuncData,(∀(s:Sq) (u:Vq),BindsTo s fd ⟨[u],[]⟩ [(x,u)])/\
    ∀c:Heap,(K w.params).In c->c.Ns mainGlobals p->iY l.prog w (K w.params) p c CX k fa fd [x] (U (K w.params)))
  (N:∀(K:W.Frag) (H:Hp) (a:Addr) (m:LI),m.length<=n->(∀z∈m,PySem.Builtin.Int.intBits z<=2 ^ 20)->Cn H->iC K H a (m.map V.int)->U K [.ref a] H (λv _=>v=.bl true) λ_ _ _=>False)
  (L:∀(H:Hp) (s:Sq) (e:Vq) (C:Sq),CX [] H s (λ_ _ _=>False) e C->False) :
  W.WalkO q j XP YP l.row.toRowW d [] (λf vs=>PySem.call f vs):=by
 intro w s₀ A p mb G Y fa o pm cd doc dV kV ho hd hcd X P hg args S as t B hrd D hlo;obtain rfl:dV=.none:=Dflts.none X Q;obtain rfl:kV=.none:=Dflts.noKw X;obtain⟨a,vs,m,rfl,rfl,y,i,Z⟩:=Att.script_of hn t D;have hb:∀z∈m,PySem.Builtin.Int.intBits z<=2 ^ 20:=λz hz=>by have h1:=(layW_cons B).1;have J:=layableW_item h1 (WData.int z) (aD.mpr ⟨z,hz,rfl⟩);exact PyData.bits_of_layable (layable_int J)
 have R:=hY w _ Y;obtain⟨fd,I,hF⟩:=F w p fa _ R G.T.g P;refine enter_call (codeAny_mono (yW R G.T.g G.T.b G.T.builtins G.T.nolimit hg y i (aN Z E) hr hF I (λH hO hS=>N _ H a m Z hb hO hS) λH e C=>L H A e C) λr C hq=>?_);obtain⟨rfl,J,h3,h4⟩:=hq;exact⟨.inl ⟨.bool true,.bool true,[],rfl,λ_=>rfl,.bool true,Att.post_true l _,λ_=>⟨List.Pairwise.nil,λ_ hm=>(nomatch hm)⟩⟩,J,h3,h4⟩
end L2
namespace C4
def HZ(c e:LI):Prop:=∀i j,i<c.length->j<c.length->c.getD i 0*e.getD j 0=c.getD j 0*e.getD i 0
def par_of_place(k:c.getD p 0≠0)(h:∀i,i<c.length->c.getD i 0*e.getD p 0=e.getD i 0*c.getD p 0):HZ c e:=λi j d f=>by have g:=h i d;have l:=h j f;refine Int.eq_of_mul_eq_mul_right k ?_;have b:c.getD i 0*e.getD j 0*c.getD p 0=c.getD i 0*(e.getD j 0*c.getD p 0):=cx _ _ _;have a:c.getD j 0*e.getD i 0*c.getD p 0=c.getD j 0*(e.getD i 0*c.getD p 0):=cx _ _ _;rw[b,a,<-g,<-l,<-cx,<-cx,cy (c.getD i 0) (c.getD j 0)]
end C4
namespace L3
open PySem L2
inductive T where
 |non|bl (b:Bool)|int (i:Int)|str (x:Str)
 |tup (ts:List T)|lst (ts:List T)|scr (ns:LI)
 |obj (C:Addr) (fs:List (Str×T))|emp
 |dic (kvs:List (LI×T))
inductive M(α:Type) where
 |bad|ok (a:α)|er (C:Addr) (n:Oq Int)
namespace M
noncomputable def bind{b c:Type}(m:M b)(k:b->M c):M c:=match m with
 |.bad=>.bad
 |.ok a=>k a
 |.er C n=>.er C n
instance:Monad M where
 pure:=.ok
 bind:=M.bind
noncomputable def res{b:Type}(m:M b)(P:b->Prop)(E:Addr->Option Int->Prop):Prop:=match m with
 |.bad=>False
 |.ok a=>P a
 |.er C n=>E C n
def res.unb{m:M α}{k:α->M β}{P:β->Prop}(h:res (m.bind k) P E):res m (λa=>res (k a) P E) E:=by cases m<;>exact h
def res.mono{m:M α}{P b:α->Prop}(h:res m P E)(d:∀a,P a->b a)(c:∀C n,E C n->E' C n):res m b E':=by
 cases m with
 |bad=>exact h
 |ok a=>exact d a h
 |er C n=>exact c C n h
noncomputable def noEr{a:Type}(m:M a):M a:=match m with
 |.er _ _=>.bad
 |m=>m
def res.noEr{m:M α}{P:α->Prop}(h:res m.noEr P E):res m P E':=by
 cases m with
 |bad=>exact h
 |ok a=>exact h
 |er C n=>exact h.elim
@[simp] theorem bind_ok a (k:α->M β):M.bind (.ok a) k=k a:=rfl
@[simp] theorem F7(k:α->M β):M.bind (.bad:M α) k=.bad:=rfl
@[simp] theorem Gx C n (k:α->M β):M.bind (.er C n:M α) k=.er C n:=rfl
noncomputable def NoE{a:Type}(m:M a):Prop:=∀C n,m≠.er C n
def res.ne{m:M α}{P:α->Prop}(h:res m P E)(ne:NoE m):res m P E':=by
 cases m with
 |bad=>exact h
 |ok a=>exact h
 |er C n=>exact absurd rfl (ne C n)
@[simp] theorem noEr_ok(a:α):noEr (.ok a)=.ok a:=rfl
end M
mutual
inductive gN(K:W.Frag)(F:Hp):V->T->Prop
 |non:gN K F .non .non
 |bl (b:Bool):gN K F (.bl b) (.bl b)
 |int (i:Int):gN K F (.int i) (.int i)
 |str (x:Str):gN K F (.str x) (.str x)
 |tup {a:Addr} {xs:List V} {ts:List T} (h:F a=some (.tup xs)) (r:dG K F xs ts):gN K F (.ref a) (.tup ts)
 |lst {a:Addr} {xs:List V} {ts:List T} (h:F a=some (.lst xs)) (r:dG K F xs ts):gN K F (.ref a) (.lst ts)
 |scr {a:Addr} {ns:LI} (h:iC K F a (ns.map V.int)):gN K F (.ref a) (.scr ns)
 |obj {a C dx:Addr} {fs:List (Str×V)} {ts:List (Str×T)} (h:F a=some (.ins C dx fs)) (r:jz K F fs ts):gN K F (.ref a) (.obj C ts)
 |emp {a:Addr} (h:F a=some (.dK [])):gN K F (.ref a) .emp
 |dic {a:Addr} {xs:List (List lu×V)} {kvs:List (LI×T)} (h:F a=some (.dT xs)) (r:pU K F xs kvs):gN K F (.ref a) (.dic kvs)
inductive dG(K:W.Frag)(F:Hp):List V->List T->Prop
 |nil:dG K F [] []
 |cons {v:V} {t:T} {vs:List V} {ts:List T} (h:gN K F v t) (r:dG K F vs ts):dG K F (v::vs) (t::ts)
inductive jz(K:W.Frag)(F:Hp):List (Str×V)->List (Str×T)->Prop
 |nil:jz K F [] []
 |cons {x:Str} {v:V} {t:T} {vs:List (Str×V)} {ts:List (Str×T)} (h:gN K F v t) (r:jz K F vs ts):jz K F ((x,v)::vs) ((x,t)::ts)
inductive pU(K:W.Frag)(F:Hp):List (List lu×V)->List (LI×T)->Prop
 |nil:pU K F [] []
 |cons {k:LI} {v:V} {t:T} {vs:List (List lu×V)} {ts:List (LI×T)} (h:gN K F v t) (r:pU K F vs ts):pU K F ((k.map Sum.inl,v)::vs) ((k,t)::ts)
end
section
variable {K:W.Frag}{F F':Hp}
mutual
theorem gN.mono(s:dH F F'):∀{v} {t},gN K F v t->gN K F' v t
 |_,_,.non=>.non
 |_,_,.bl b=>.bl b
 |_,_,.int i=>.int i
 |_,_,.str x=>.str x
 |_,_,.tup h r=>.tup (s _ _ h) (dG.mono s r)
 |_,_,.lst h r=>.lst (s _ _ h) (dG.mono s r)
 |_,_,.scr h=>.scr (s.seq h)
 |_,_,.obj h r=>.obj (s _ _ h) (jz.mono s r)
 |_,_,.emp h=>.emp (s _ _ h)
 |_,_,.dic h r=>.dic (s _ _ h) (pU.mono s r)
theorem dG.mono(s:dH F F'):∀{vs} {ts},dG K F vs ts->dG K F' vs ts
 |_,_,.nil=>.nil
 |_,_,.cons h r=>.cons (gN.mono s h) (dG.mono s r)
theorem jz.mono(s:dH F F'):∀{vs} {ts},jz K F vs ts->jz K F' vs ts
 |_,_,.nil=>.nil
 |_,_,.cons h r=>.cons (gN.mono s h) (jz.mono s r)
theorem pU.mono(s:dH F F'):∀{vs} {ts},pU K F vs ts->pU K F' vs ts
 |_,_,.nil=>.nil
 |_,_,.cons h r=>.cons (gN.mono s h) (pU.mono s r)
end
theorem dG.length:∀{vs} {ts},dG K F vs ts->vs.length=ts.length
 |_,_,.nil=>rfl
 |_,_,.cons _ r=>by rw[az,az,dG.length r]
theorem dG.get:∀{vs:List V} {ts:List T} {i:Nat} {t:T},dG K F vs ts->ts[i]? = some t->∃v,vs[i]? = some v/\gN K F v t
 |_,_,_,_,.nil,e=>by simp at e
 |_,_,0,_,.cons h _,e=>by simp at e;subst e;exact⟨_,rfl,h⟩
 |_,_,i+1,_,.cons _ r,e=>by obtain⟨v,a,h⟩:=dG.get r (by simpa using e);exact⟨v,by simpa using a,h⟩
def dG.at_{i:Nat}(r:dG K F vs ts)(e:vs[i]? = some v):∃t,ts[i]? = some t/\gN K F v t:=by
 have a:i<ts.length:=by rw[<-r.length];exact (aa.mp e).1
 obtain⟨c,b,h⟩:=r.get (ag a);rw[e]at b;cases b;exact⟨_,ag a,h⟩
theorem dG.append:∀{vs us} {ts ss},dG K F vs ts->dG K F us ss->dG K F (vs++us) (ts++ss)
 |_,_,_,_,.nil,q=>q
 |_,_,_,_,.cons h r,q=>.cons h (dG.append r q)
theorem dG.set(q:gN K F v t):∀{vs} {ts} i,dG K F vs ts->dG K F (vs.set i v) (ts.set i t)
 |_,_,_,.nil=>.nil
 |_,_,0,.cons _ r=>.cons q r
 |_,_,i+1,.cons h r=>.cons h (dG.set q i r)
theorem dG.take:∀{vs} {ts} n,dG K F vs ts->dG K F (vs.take n) (ts.take n)
 |_,_,0,_=>.nil
 |_,_,_+1,.nil=>.nil
 |_,_,n+1,.cons h r=>.cons h (dG.take n r)
theorem dG.drop:∀{vs} {ts} n,dG K F vs ts->dG K F (vs.drop n) (ts.drop n)
 |_,_,0,r=>r
 |_,_,_+1,.nil=>.nil
 |_,_,n+1,.cons _ r=>dG.drop n r
theorem dG.rep:∀{vs} {ts} n,dG K F vs ts->dG K F (List.replicate n vs).flatten (List.replicate n ts).flatten
 |_,_,0,_=>.nil
 |_,_,n+1,r=>by rw[bJ,bJ,bK,bK];exact r.append (dG.rep n r)
theorem dG.ints:∀{vs:List V} {a:LI},dG K F vs (a.map T.int)->vs=a.map V.int
 |_,[],.nil=>rfl
 |_,_::_,.cons h r=>by cases h;rw[dG.ints r];rfl
theorem dG.bls:∀{vs:List V} {a:List Bool},dG K F vs (a.map T.bl)->vs=a.map V.bl
 |_,[],.nil=>rfl
 |_,_::_,.cons h r=>by cases h;rw[dG.bls r];rfl
theorem dG.of_ints:∀(a:LI),dG K F (a.map V.int) (a.map T.int)
 |[]=>.nil
 |n::a=>.cons (.int n) (dG.of_ints a)
theorem jz.look:∀{fs} {ts},jz K F fs ts->ts.lookup f=some t->∃v,fs.lookup f=some v/\gN K F v t
 |_,_,.nil,e=>by cases e
 |_,_,.cons (x:=x) h r,e=>by
  by_cases a:f=x
  .subst a;rw[cA]at e;cases e;exact⟨_,cA,h⟩
  .have b:(f==x)=false:=by simpa using a
   rw[bS,b]at e;obtain⟨v,d,c⟩:=jz.look r e;exact⟨v,by rw[bS,b];exact d,c⟩
theorem jz.none_:∀{fs} {ts},jz K F fs ts->ts.lookup f=none->fs.lookup f=none
 |_,_,.nil,e=>rfl
 |_,_,.cons (x:=x) h r,e=>by
  by_cases a:f=x
  .subst a;rw[cA]at e;cases e
  .have b:(f==x)=false:=by simpa using a
   rw[bS,b]at e ⊢;exact jz.none_ r e
end
def pH(h:wN o (some u))(b:∀q a,u≠.tbl q a):o=u:=by
 cases o with
 |tbl q a=>obtain⟨m,e⟩:=h;exact absurd (Option.some.inj e) (b _ _)
 |_=>exact (Option.some.inj h).symm
def BF{x y:Oq HO}(h:wN o x)(k:∀a,x=some a->wN a y):wN o y:=by
 cases o with
 |tbl q ps=>obtain⟨m,e⟩:=h;obtain⟨b,c⟩:=k _ e;exact⟨m++b,by rw[c,bo]⟩
 |_=>exact k _ h
def ly{H:Hp}(h:wN u (H b))(a:H p=none):b≠p:=λz=>h.ne (by rw[z];exact a)
structure Gr(F H F' H':Hp):Prop where
 ff:dH F F'
 fh:dH F' H'
 hh:dH H H'
 nw:∀a,F' a≠none->F a≠none\/H a=none\/∃xs,H a=some (.tup xs)
def Gr.refl(h:dH F H):Gr F H F H:=⟨.refl _,h,.refl _,λ_ h=>.inl h⟩
def dN(h:dH H H')(e:H' a=none):H a=none:=by
 cases q:H a with
 |none=>rfl
 |some o=>exact absurd e (h a o q).ne
def Gr.trans(g:Gr F H F' H')(b:Gr F' H' F'' H''):Gr F H F'' H'':=
 ⟨g.ff.trans b.ff,b.fh,g.hh.trans b.hh,λa c=>by
  rcases b.nw a c with q|q|⟨d,q⟩
  .exact g.nw a q
  .exact .inr (.inl (dN g.hh q))
  .cases z:H a with
   |none=>exact .inr (.inl rfl)
   |some o=>exact .inr (.inr ⟨d,by have k:=g.hh a o z;rw[q]at k;rw[pH k λ_ _ y=>nomatch y]⟩)⟩
def Gr.new(s:dH F H)(h:H p=none):Gr F H (fT F p o) (fT H p o):=by
 have c:=dN s h;refine⟨λb u e=>?_,λb u e=>?_,λb u e=>?_,λb a=>?_⟩
 .rw[dB (dZ e c)];exact .of e
 .by_cases q:b=p
  .subst q;rw[du]at e ⊢;exact .of e
  .rw[dB q]at e ⊢;exact s b u e
 .rw[dB (dZ e h)];exact .of e
 .by_cases q:b=p
  .subst q;exact .inr (.inl h)
  .rw[dB q]at a;exact .inl a
def Gr.new'(s:dH F H)(h:H p=none):Gr F H F (fT H p o):=by
 refine⟨.refl _,λb u e=>?_,λb u e=>?_,λb a=>.inl a⟩
 .rw[dB (ly (s b u e) h)];exact s b u e
 .rw[dB (dZ e h)];exact .of e
def Gr.take(g:Gr F0 H0 F H)(h:H p=some o)(d:F p=none)(c:H0 p=none):Gr F0 H0 (fT F p o) H:=by
 refine⟨λb u e=>?_,λb u e=>?_,g.hh,λb a=>?_⟩
 .rw[dB (ly (g.ff b u e) d)];exact g.ff b u e
 .by_cases q:b=p
  .subst q;rw[du]at e;cases e;exact .of h
  .rw[dB q]at e;exact g.fh b u e
 .by_cases q:b=p
  .subst q;exact .inr (.inl c)
  .rw[dB q]at a;exact g.nw b a
def jq(a:F p=none):dH F (fT F p o):=λb u e=>by rw[dB (dZ e a)];exact .of e
abbrev Pe:=List (Option T)
section
variable (K:W.Frag)
def hI(F:Hp)(a:St)(ρ:Pe):Prop:=∀(i:Nat) (t:T),ρ[i]? = some (some t)->∃v,a[i]? = some (some v)/\gN K F v t
def hI.mono{K:W.Frag}(h:hI K F σ ρ)(s:dH F F'):hI K F' σ ρ:=λi t e=>let ⟨v,a,b⟩:=h i t e;⟨v,a,b.mono s⟩
def HU(E:XK)(C:Addr)(n:Oq Int)(F H:Hp):Prop:=match n with
 |none=>E (.ref C) none H
 |some i=>∀a,F a=some (.xd [("at",.int i)])->E (.ref C) (some a) H
def kE(E:XK)(F H:Hp)(C:Addr)(n:Oq Int):Prop:=∀b a,Gr F H b a->HU E C n b a
def kE.go(h:kE E F H C n)(g:Gr F H F1 H1):kE E F1 H1 C n:=λb a c=>h b a (g.trans c)
def kV(F H:Hp)(Q:VK)(t:T):Prop:=∀v b a,Gr F H b a->gN K b v t->Q v a
def kB(F H:Hp)(Q:Bool->Hp->Prop)(b:Bool):Prop:=∀c a,Gr F H c a->Q b a
def kA(F H:Hp)(Q:List V->Hp->Prop)(ts:List T):Prop:=∀c b a,Gr F H b a->dG K b c ts->Q c a
def kF(F H:Hp)(Q:VK)(ts:List T):Prop:=∀l c b a,Gr F H b a->H l=none->b l=none->a l=some (.lst c)->dG K b c ts->Q (.ref l) a
noncomputable def ME(E:XK)(t:TE)(f:Pe->M T):Prop:=∀F H a b Q,dH F H->hI K F a b->(f b).res (kV K F H Q) (kE E F H)->t a H Q
noncomputable def MT(E:XK)(t:TT)(f:Pe->M Bool):Prop:=∀F H a b Q,dH F H->hI K F a b->(f b).res (kB F H Q) (kE E F H)->t a H Q
noncomputable def MA(E:XK)(t:TA)(f:Pe->M (List T)):Prop:=∀F H a b Q,dH F H->hI K F a b->(f b).res (kA K F H Q) (kE E F H)->t a H Q
noncomputable def MF(E:XK)(t:TE)(f:Pe->M (List T)):Prop:=∀F H a b Q,dH F H->hI K F a b->(f b).res (kF K F H Q) (kE E F H)->t a H Q
end
section
variable {K:W.Frag}{E:XK}{t u ta tb:TE}{f g fa fb:Pe->M T}
def kV.go{t:T}(h:kV K F H Q t)(g:Gr F H F1 H1):kV K F1 H1 Q t:=λv b a c r=>h v b a (g.trans c) r
def kB.go{t:Bool}(h:kB F H Q t)(g:Gr F H F1 H1):kB F1 H1 Q t:=λb a c=>h b a (g.trans c)
def kF.go{t:List T}(h:kF K F H Q t)(g:Gr F H F1 H1):kF K F1 H1 Q t:=λl j i e k a b c d=>h l j i e (g.trans k) (dN g.hh a) b c d
def kV.now{t:T}(h:kV K F H Q t)(s:dH F H)(r:gN K F v t):Q v H:=h v F H (.refl s) r
def kF.of(h:kV K F H Q (.lst ts)):kF K F H Q ts:=λl e d c g i b a r=>h (.ref l) (fT d l (.lst e)) c (g.take a b i) (.lst du (r.mono (jq b)))
def MF.me{f:Pe->M (List T)}(h:MF K E t f):ME K E t (λρ=>(f ρ).bind λts=>.ok (.lst ts)):=λF H a ρ Q s V r=>h F H a ρ Q s V ((M.res.unb r).mono (λts q=>kF.of q) λ_ _ z=>z)
def ME.run{k:T->M α}{P:α->Prop}(h:ME K E t f)(s:dH F H)(v:hI K F σ ρ)(r:((f ρ).bind k).res P (kE E F H))
  (c:∀x w b a,Gr F H b a->gN K b w x->(k x).res P (kE E b a)->Q w a):t σ H Q:=
 h F H σ ρ Q s v ((M.res.unb r).mono (λx q w b a g d=>c x w b a g d (q.mono (λ_ z=>z) λ_ _ z=>z.go g)) λ_ _ z=>z)
def MT.run{t:TT}{f:Pe->M Bool}{k:Bool->M α}{P:α->Prop}(h:MT K E t f)(s:dH F H)(v:hI K F σ ρ)(r:((f ρ).bind k).res P (kE E F H))
  (c:∀x b a,Gr F H b a->(k x).res P (kE E b a)->Q x a):t σ H Q:=
 h F H σ ρ Q s v ((M.res.unb r).mono (λx q b a g=>c x b a g (q.mono (λ_ z=>z) λ_ _ z=>z.go g)) λ_ _ z=>z)
def MA.run{t:TA}{f:Pe->M (List T)}{k:List T->M α}{P:α->Prop}(h:MA K E t f)(s:dH F H)(v:hI K F σ ρ)(r:((f ρ).bind k).res P (kE E F H))
  (c:∀x w b a,Gr F H b a->dG K b w x->(k x).res P (kE E b a)->Q w a):t σ H Q:=
 h F H σ ρ Q s v ((M.res.unb r).mono (λx q w b a g d=>c x w b a g d (q.mono (λ_ z=>z) λ_ _ z=>z.go g)) λ_ _ z=>z)
@[simp] noncomputable def cU(i:Nat):Pe->M T:=λa=>match a[i]? with
 |some (some t)=>.ok t
 |_=>.bad
def Ec:ME K E (kC i) (cU i):=λF H b c Q s V r=>by
 unfold cU at r;split at r
 .rename_i t e;obtain⟨v,a,h⟩:=V i t e;exact⟨v,a,r.now s h⟩
 .exact r.elim
@[simp] noncomputable def cM(t:T):Pe->M T:=λ_=>.ok t
def yJ{t:T}(h:∀F,gN K F v t):ME K E (tC v) (cM t):=λF H a b Q s V r=>kV.now r s (h F)
@[simp] noncomputable def de(o:T->T->M T)(fa fb:Pe->M T):Pe->M T:=λa=>(fa a).bind λx=>(fb a).bind λy=>o x y
structure MR(K:W.Frag)(r:R2)(o:T->T->M T):Prop where
 ne:∀x y,M.NoE (o x y)
 ok:∀F H v w x y Q,dH F H->gN K F v x->gN K F w y->(o x y).res (kV K F H Q) (λ_ _=>False)->r v w H Q
def q0(hr:MR K r o)(ha:ME K E ta fa)(hb:ME K E tb fb):ME K E (mB r ta tb) (de o fa fb):=λF H σ ρ Q s V q=>by refine ha.run s V q λx v F1 H1 g1 r1 q1=>?_;refine hb.run g1.fh (V.mono g1.ff) q1 λy w F2 H2 g2 r2 q2=>?_;exact hr.ok F2 H2 v w x y Q g2.fh (r1.mono g2.ff) r2 ((q2.ne (hr.ne x y)).mono (λ_ z=>z.go (g1.trans g2)) λ_ _ z=>z)
noncomputable def gD(C:Int->Int->Bool)(g:Int->Int->T):T->T->M T
 |.int i,.int j=>if C i j then .ok (g i j) else .bad
 |_,_=>.bad
def rW{g:Int->Int->T} x y:M.NoE (gD C g x y):=λa n=>by
 unfold gD;split
 .split<;>exact λz=>nomatch z
 .exact λz=>nomatch z
def gN.int_inv(h:gN K F v (.int i)):v=.int i:=by cases h;rfl
def gN.lst_inv(h:gN K F v (.lst ts)):∃a b,v=.ref a/\F a=some (.lst b)/\dG K F b ts:=by cases h;exact⟨_,_,rfl,‹_›,‹_›⟩
def gN.tup_inv(h:gN K F v (.tup ts)):∃a b,v=.ref a/\F a=some (.tup b)/\dG K F b ts:=by cases h;exact⟨_,_,rfl,‹_›,‹_›⟩
def qS{g:Int->Int->V}(d:∀i j,Cb i j=true->C i j)(c:∀F i j,gN K F (g i j) (gt i j)):MR K (rI C g) (gD Cb gt):=⟨rW,λF H v w x y Q s a b q=>by
 unfold gD at q;split at q
 .rename_i i j;rw[a.int_inv,b.int_inv];by_cases h:Cb i j=true
  .rw[aQ h]at q;exact⟨i,j,rfl,rfl,d i j h,kV.now q s (c F i j)⟩
  .rw[aR h]at q;exact q.elim
 .exact q.elim⟩
def lh{g:Int->Int->V}(c:∀F i j,gN K F (g i j) (gt i j)):MR K (tJ g) (gD (λ_ _=>true) gt):=⟨rW,λF H v w x y Q s a b q=>by
 unfold gD at q;split at q
 .rw[a.int_inv,b.int_inv];exact⟨_,_,rfl,rfl,kV.now q s (c F _ _)⟩
 .exact q.elim⟩
@[simp] noncomputable def vN(o:Int->T)(fa:Pe->M T):Pe->M T:=λa=>(fa a).bind λx=>match x with
 |.int i=>.ok (o i)
 |_=>.bad
def Gg{g:Int->V}(e:∀F i,gN K F (g i) (gt i))(c:ME K E ta fa):ME K E (G3 (rU g) ta) (vN gt fa):=λF H k l Q s V q=>by
 refine c.run s V q λx v a h d j b=>?_;cases j<;>first
  |exact b.elim
  |exact⟨_,rfl,b _ a h d (e a _)⟩
@[simp] noncomputable def ei(fa:Pe->M T):Pe->M Bool:=λa=>(fa a).bind λx=>match x with
 |.bl b=>.ok b
 |_=>.bad
def xX(e:ME K E ta fa):MT K E (tB ta) (ei fa):=λF H i j Q s V q=>by
 refine e.run s V q λx v c d b h a=>?_;cases h<;>first
  |exact a.elim
  |exact⟨_,rfl,a c d b⟩
def uU(a:ME K E ta fa):MT K E (ni ta) (ei fa):=xX a
section
variable {c d:TT}{fc fd:Pe->M Bool}
@[simp] noncomputable def lV(fc fd:Pe->M Bool):Pe->M Bool:=λa=>(fc a).bind λb=>if b then fd a else .ok false
@[simp] noncomputable def jV(fc fd:Pe->M Bool):Pe->M Bool:=λa=>(fc a).bind λb=>if b then .ok true else fd a
@[simp] noncomputable def fQ(fc:Pe->M Bool):Pe->M Bool:=λa=>(fc a).bind λb=>.ok (!b)
def C3(j:MT K E c fc)(k:MT K E d fd):MT K E (Em c d) (lV fc fd):=λF H l m Q s V q=>by
 refine j.run s V q λb h e a i=>?_;cases b with
 |true=>rw[aQ rfl];exact k h e l m Q a.fh (V.mono a.ff) (i.mono (λ_ z=>z.go a) λ_ _ z=>z)
 |false=>rw[aR aH];exact i h e a
def Fh(j:MT K E c fc)(k:MT K E d fd):MT K E (Hc c d) (jV fc fd):=λF H l m Q s V q=>by
 refine j.run s V q λb h e a i=>?_;cases b with
 |true=>rw[aQ rfl];exact i h e a
 |false=>rw[aR aH];exact k h e l m Q a.fh (V.mono a.ff) (i.mono (λ_ z=>z.go a) λ_ _ z=>z)
def Dd(h:MT K E c fc):MT K E (Df c) (fQ fc):=λF H k l Q s V q=>by refine h.run s V q λb i e a j=>?_;exact j i e a
@[simp] noncomputable def zF(fc:Pe->M Bool)(fa fb:Pe->M T):Pe->M T:=λa=>(fc a).bind λb=>if b then fa a else fb a
def EV(m:MT K E c fc)(n:ME K E ta fa)(l:ME K E tb fb):ME K E (GT c ta tb) (zF fc fa fb):=λF H i j Q s V q=>by
 refine m.run s V q λb h e a k=>?_;cases b with
 |true=>rw[aQ rfl];exact n h e i j Q a.fh (V.mono a.ff) (k.mono (λ_ z=>z.go a) λ_ _ z=>z)
 |false=>rw[aR aH];exact l h e i j Q a.fh (V.mono a.ff) (k.mono (λ_ z=>z.go a) λ_ _ z=>z)
end
@[simp] noncomputable def oF(fa fb:Pe->M T):Pe->M T:=λa=>(ei fa a).bind λb=>if b then fb a else .ok (.bl false)
@[simp] noncomputable def DY(fa fb:Pe->M T):Pe->M T:=λa=>(ei fa a).bind λb=>if b then .ok (.bl true) else fb a
@[simp] noncomputable def vW(fa:Pe->M T):Pe->M T:=λa=>(ei fa a).bind λb=>.ok (.bl (!b))
def zI(i:ME K E ta fa)(h:ME K E tb fb):ME K E (yu ta tb) (oF fa fb):=λF H j k Q s V q=>by
 refine (xX i).run s V q λb d c a e=>?_;cases b with
 |true=>rw[aQ rfl];exact h d c j k Q a.fh (V.mono a.ff) (e.mono (λ_ z=>z.go a) λ_ _ z=>z)
 |false=>rw[aR aH];exact e _ d c a (.bl _)
def DE(i:ME K E ta fa)(h:ME K E tb fb):ME K E (Dt ta tb) (DY fa fb):=λF H j k Q s V q=>by
 refine (xX i).run s V q λb d c a e=>?_;cases b with
 |true=>rw[aQ rfl];exact e _ d c a (.bl _)
 |false=>rw[aR aH];exact h d c j k Q a.fh (V.mono a.ff) (e.mono (λ_ z=>z.go a) λ_ _ z=>z)
def z9(e:ME K E ta fa):ME K E (xj ta) (vW fa):=λF H i j Q s V q=>by refine (xX e).run s V q λb d c a h=>?_;exact h _ d c a (.bl _)
@[simp] noncomputable def cT(fa:Pe->M T)(fr:Pe->M (List T)):Pe->M (List T):=λa=>(fa a).bind λx=>(fr a).bind λb=>.ok (x::b)
@[simp] noncomputable def cX:Pe->M (List T):=λ_=>.ok []
def tw:MA K E kD cX:=λF H a b Q s V q=>q [] F H (.refl s) .nil
def Bg{c:TA}{fr:Pe->M (List T)}(j:ME K E ta fa)(hr:MA K E c fr):MA K E (jm ta c) (cT fa fr):=λF H r w Q s V q=>by refine j.run s V q λx v n p a m l=>?_;refine hr.run a.fh (V.mono a.ff) l λo h d k b i e=>?_;exact e (v::h) d k (a.trans b) (.cons (m.mono b.ff) i)
@[simp] noncomputable def tj(ts:List T):M (List T):=if ts.length<=sizeLine then .ok ts else .bad
@[simp] noncomputable def iK(fr:Pe->M (List T)):Pe->M T:=λb=>(fr b).bind λa=>(tj a).bind λa=>.ok (.tup a)
@[simp] noncomputable def lstM(fr:Pe->M (List T)):Pe->M (List T):=λa=>(fr a).bind tj
def Dy{c:TA}{fr:Pe->M (List T)}(hr:MA K E c fr):ME K E (Ex c) (iK fr):=λF H m n Q s V q=>by
 refine hr.run s V q λi k j l b d a=>?_;unfold tj at a;by_cases h:i.length<=sizeLine
 .rw[aQ h]at a;refine⟨by rw[d.length];exact h,λp e=>?_⟩;exact a (.ref p) _ _ (b.trans (.new b.fh e)) (.tup du (d.mono (Gr.new b.fh e).ff))
 .rw[aR h]at a;exact a.elim
def DH{d:TA}{fr:Pe->M (List T)}(hr:MA K E d fr):MF K E (Dz d) (lstM fr):=λF H m n Q s V q=>by
 refine hr.run s V q λk j i l b e a=>?_;unfold tj at a;by_cases h:k.length<=sizeLine
 .rw[aQ h]at a;refine⟨by rw[e.length];exact h,λp c=>?_⟩;exact a p j i _ (b.trans (.new' b.fh c)) (dN b.hh c) (dN b.fh c) du e
 .rw[aR h]at a;exact a.elim
end
end L3
namespace L3
open PySem L2
inductive W where
 |p (t:T)|o (ts:List T)|d (kvs:List (LI×T))
abbrev En:=List (Option W)
@[simp] def GX:Oq W->Option T
 |some (.p t)=>some t
 |_=>none
@[simp] def Hu:Oq W->Option T
 |some (.p t)=>some t
 |some (.o ts)=>some (.lst ts)
 |_=>none
@[simp] noncomputable def iS(ρ:En):Pe:=ρ.map GX
@[simp] noncomputable def vw(ρ:En):Pe:=ρ.map Hu
mutual
@[simp] noncomputable def lf:T->Bool
 |.lst _=>false
 |.scr _=>false
 |.dic _=>false
 |.tup ts=>zG ts
 |.obj _ fs=>GG fs
 |_=>true
@[simp] noncomputable def zG:List T->Bool
 |[]=>true
 |t::ts=>lf t&&zG ts
noncomputable def GG:List (Str×T)->Bool
 |[]=>true
 |t::ts=>lf t.2&&GG ts
end
structure Fz where
 hp:Hp
 lt:List (Nat×Addr×List V)
instance:Coe Fz Hp:=⟨Fz.hp⟩
structure Lv(H0 F H:Hp)(σ:St)(ρ:En)(e:Nat×Addr×List V):Prop where
 h:H e.2.1=some (.lst e.2.2)
 f:F e.2.1=none
 z:H0 e.2.1=none
 d:∀(i:Nat) (ts:List T),ρ[i]? = some (some (.o ts))->σ[i]?≠some (some (.ref e.2.1))
def DR(K:W.Frag)(F:Hp)(b:List (List lu×V))(a:List (LI×T)):Prop:=Paired (λ(p:List lu×V) (q:LI×T)=>p.1=q.1.map Sum.inl/\gN K F p.2 q.2) b a
def DR.mono(s:dH F F')(h:DR K F xs kvs):DR K F' xs kvs:=Paired.imp' (λ_ _ q=>⟨q.1,q.2.mono s⟩) h
structure Dv(K:W.Frag)(H0 F H:Hp)(σ:St)(ρ:En):Prop where
 at_:∀(i:Nat) kvs,ρ[i]? = some (some (.d kvs))->∃a,σ[i]? = some (some (.ref a))/\F a=none/\H0 a=none/\∃xs,H a=some (.dT xs)/\DR K F xs kvs
 dj:∀(i j:Nat) kvs kvs',ρ[i]? = some (some (.d kvs))->ρ[j]? = some (some (.d kvs'))->i≠j->σ[i]?≠σ[j]?
def wH{a:Type}{l:List a}{x y:a}(h:(l.set i x)[i]? = some y):y=x:=by
 rw[List.getElem?_set]at h;simp only[if_true]at h;split at h
 .exact (Option.some.inj h).symm
 .cases h
def wj{a:Type}{l:List a}{x y:a}(h:(l.set i x)[j]? = some y):(j=i/\y=x)\/(j≠i/\l[j]? = some y):=by
 by_cases e:j=i
 .subst e;exact .inl ⟨rfl,wH h⟩
 .rw[aq (λz=>e z.symm)]at h;exact .inr ⟨e,h⟩
def Dv.heap(d:Dv K H0 F H σ ρ)(s:dH F F')(h:∀a b,H a=some (.dT b)->F a=none->F' a=none/\H' a=some (.dT b)):Dv K H0 F' H' σ ρ:=⟨λi c e=>let ⟨a,e1,e2,e3,b,e4,e5⟩:=d.at_ i c e;let ⟨h1,h2⟩:=h a b e4 e2;⟨a,e1,h1,e3,b,h2,e5.mono s⟩,d.dj⟩
def Dv.set(d:Dv K H0 F H σ ρ)(hw:∀b,w≠some (.d b)):Dv K H0 F H (σ.set i v) (ρ.set i w):=by
 refine⟨λj b e=>?_,λj k b c e n g=>?_⟩
 .rcases wj e with⟨rfl,q⟩|⟨h,q⟩
  .exact absurd q.symm (hw b)
  .obtain⟨a,l,r⟩:=d.at_ j b q;exact⟨a,by rw[aq (λz=>h z.symm)];exact l,r⟩
 .rcases wj e with⟨rfl,q⟩|⟨h,q⟩
  .exact absurd q.symm (hw b)
  .rcases wj n with⟨rfl,f⟩|⟨m,f⟩
   .exact absurd f.symm (hw c)
   .rw[aq (λz=>h z.symm),aq (λz=>m z.symm)];exact d.dj j k b c q f g
def Dv.setR(d:Dv K H0 F H σ ρ)(hw:∀a,w≠some (.d a)):Dv K H0 F H σ (ρ.set i w):=by
 refine⟨λj a e=>?_,λj k a b e g f=>?_⟩
 .rcases wj e with⟨rfl,q⟩|⟨h,q⟩
  .exact absurd q.symm (hw a)
  .exact d.at_ j a q
 .rcases wj e with⟨rfl,q⟩|⟨h,q⟩
  .exact absurd q.symm (hw a)
  .rcases wj g with⟨rfl,c⟩|⟨l,c⟩
   .exact absurd c.symm (hw b)
   .exact d.dj j k a b q c f
structure Sr(K:W.Frag)(F0:Fz)(H0 F H:Hp)(σ:St)(ρ:En):Prop where
 gr:Gr F0.hp H0 F H
 len:σ.length=ρ.length
 pv:∀(i:Nat) (t:T),ρ[i]? = some (some (.p t))->∃v,σ[i]? = some (some v)/\gN K F v t
 ov:∃ad:Nat->Addr,(∀(i:Nat) (ts:List T),ρ[i]? = some (some (.o ts))->σ[i]? = some (some (.ref (ad i)))/\F (ad i)=none/\H0 (ad i)=none/\∃vs,H (ad i)=some (.lst vs)/\dG K F vs ts)/\
  ∀(i j:Nat) (ts us:List T),ρ[i]? = some (some (.o ts))->ρ[j]? = some (some (.o us))->i≠j->ad i≠ad j
 lv:∀e∈F0.lt,Lv H0 F H σ ρ e
 sl:∀(j:Nat) (l:Addr) (vs:List V),F0.lt.lookup j=some (l,vs)->ρ[j]? = some none->σ[j]? = some (some (.ref l))
 dv:Dv K H0 F H σ ρ
section
variable {K:W.Frag}{F0:Fz}{H0 F H F' H':Hp}{σ:St}{ρ:En}
def Sr.vars(r:Sr K F0 H0 F H σ ρ):hI K F σ (iS ρ):=λi t e=>by
 unfold iS at e;rw[av]at e;cases q:ρ[i]? with
 |none=>rw[q]at e;cases e
 |some w=>
  rw[q]at e;cases w with
  |none=>cases e
  |some w=>
   cases w with
   |p t'=>cases e;exact r.pv i _ q
   |o ts=>cases e
   |d kvs=>cases e
def Sr.grow(r:Sr K F0 H0 F H σ ρ)(g:Gr F H F' H'):Sr K F0 H0 F' H' σ ρ:=by
 obtain⟨k,l,p⟩:=r.ov;refine⟨r.gr.trans g,r.len,λi t e=>?_,⟨k,λi n e=>?_,p⟩,λe m=>?_,r.sl,r.dv.heap g.ff λa x j s=>⟨?_,g.hh _ _ j⟩⟩
 .obtain⟨v,a,b⟩:=r.pv i t e;exact⟨v,a,b.mono g.ff⟩
 .obtain⟨a,b,c,o,d,q⟩:=l i n e;refine⟨a,?_,c,o,g.hh _ _ d,q.mono g.ff⟩;cases z:F' (k i) with
  |none=>rfl
  |some u=>
   rcases g.nw (k i) (by rw[z];exact λw=>nomatch w) with y|y|⟨_,y⟩
   .exact absurd b y
   .rw[d]at y;cases y
   .rw[d]at y;cases y
 .have L:=r.lv e m;refine⟨g.hh _ _ L.h,?_,L.z,L.d⟩;cases z:F' e.2.1 with
  |none=>rfl
  |some u=>
   rcases g.nw e.2.1 (by rw[z];exact λw=>nomatch w) with y|y|⟨_,y⟩
   .exact absurd L.f y
   .rw[L.h]at y;cases y
   .rw[L.h]at y;cases y
 .cases z:F' a with
  |none=>rfl
  |some u=>
   rcases g.nw a (by rw[z];exact λw=>nomatch w) with y|y|⟨_,y⟩
   .exact absurd s y
   .rw[j]at y;cases y
   .rw[j]at y;cases y
theorem Sr.lend(r:Sr K F0 H0 F H σ ρ):∃k,dH F k/\Gr F0.hp H0 k H/\hI K k σ (vw ρ)/\
  (∀F' H',Gr k H F' H'->∃j,Gr F H j H'/\dH F j/\dH j F'/\(∀a,F' a≠none->j a=none->∃J,F' a=some (.lst J))/\(∀a,F' a≠none->j a=none->H a≠none)):=by
 classical
 obtain⟨L,m,N⟩:=r.ov;let f:Addr->Prop:=λa=>∃i h,ρ[i]? = some (some (.o h))/\L i=a;let k:Hp:=λa=>if f a then H a else F a
 have s:dH F k:=λa o e=>by
  have:¬f a:=by rintro⟨i,h,q,rfl⟩;obtain⟨_,b,_⟩:=m i h q;rw[b]at e;cases e
  show wN o (if f a then H a else F a);rw[aR this];exact .of e
 have I:dH k H:=λa o e=>by
  by_cases q:f a
  .have u:(if f a then H a else F a)=some o:=e;rw[aQ q]at u;exact .of u
  .have u:(if f a then H a else F a)=some o:=e;rw[aR q]at u;exact r.gr.fh a o u
 have C:∀a,f a->k a=H a:=λa q=>aQ q;have E:∀a,¬f a->k a=F a:=λa q=>aR q;refine⟨k,s,⟨r.gr.ff.trans s,I,r.gr.hh,λa l=>?_⟩,λi t e=>?_,λF' H' g=>?_⟩
 .by_cases q:f a
  .obtain⟨i,h,e,rfl⟩:=q;exact .inr (.inl (m i h e).2.2.1)
  .rw[E a q]at l;exact r.gr.nw a l
 .unfold vw at e;rw[av]at e;cases q:ρ[i]? with
  |none=>rw[q]at e;cases e
  |some w=>
   rw[q]at e;cases w with
   |none=>cases e
   |some w=>
    cases w with
    |p t'=>cases e;obtain⟨v,a,b⟩:=r.pv i _ q;exact⟨v,a,b.mono s⟩
    |o h=>cases e;obtain⟨a,b,c,y,d,z⟩:=m i h q;exact⟨_,a,.lst (by rw[C _ ⟨i,h,q,rfl⟩];exact d) (z.mono s)⟩
    |d kvs=>cases e
 .let j:Hp:=λa=>if f a then none else F' a
  have x:∀a,¬f a->j a=F' a:=λa q=>aR q;have B:∀a,f a->j a=none:=λa q=>aQ q;have D:dH F j:=λa o e=>by
   have:¬f a:=by rintro⟨i,h,q,rfl⟩;obtain⟨_,b,_⟩:=m i h q;rw[b]at e;cases e
   rw[x a this];exact (s.trans g.ff) _ _ e
  have A:dH j F':=λa o e=>by
   by_cases q:f a
   .rw[B a q]at e;cases e
   .rw[x a q]at e;exact .of e
  refine⟨j,⟨D,A.trans g.fh,g.hh,λa l=>?_⟩,D,A,λa l n=>?_,λa l n=>?_⟩
  .by_cases q:f a
   .exact absurd (B a q) l
   .rw[x a q]at l;rcases g.nw a l with z|z
    .rw[E a q]at z;exact .inl z
    .exact .inr z
  .by_cases q:f a
   .obtain⟨i,h,e,rfl⟩:=id q;obtain⟨_,_,_,y,d,_⟩:=m i h e;exact⟨y,g.ff _ (.lst y) (by rw[C _ q];exact d)⟩
   .rw[x a q]at n;exact absurd n l
  .by_cases q:f a
   .obtain⟨i,h,e,rfl⟩:=id q;obtain⟨_,_,_,y,d,_⟩:=m i h e;rw[d];exact λz=>nomatch z
   .rw[x a q]at n;exact absurd n l
mutual
theorem gN.less(c:dH Fb F)(h:∀a,F a≠none->Fb a=none->∃d,F a=some (.lst d)):∀{v} {t},gN K F v t->lf t=true->gN K Fb v t
 |_,_,.non,_=>.non
 |_,_,.bl b,_=>.bl b
 |_,_,.int i,_=>.int i
 |_,_,.str x,_=>.str x
 |_,_,.tup (a:=a) e r,l=>by
  refine .tup ?_ (dG.less c h r (by simpa[lf] using l));cases q:Fb a with
  |none=>obtain⟨d,z⟩:=h a (by rw[e];exact λz=>nomatch z) q;rw[e]at z;cases z
  |some u=>have k:=c a u q;rw[e]at k;rw[pH k λ_ _ y=>nomatch y]
 |_,_,.lst _ _,l=>by simp[lf]at l
 |_,_,.scr _,l=>by simp[lf]at l
 |_,_,.obj (a:=a) (dx:=dx) e r,l=>by
  refine .obj (dx:=dx) ?_ (jz.less c h r (by simpa[lf] using l));cases q:Fb a with
  |none=>obtain⟨d,z⟩:=h a (by rw[e];exact λz=>nomatch z) q;rw[e]at z;cases z
  |some u=>have k:=c a u q;rw[e]at k;rw[pH k λ_ _ y=>nomatch y]
 |_,_,.dic _ _,l=>by simp[lf]at l
 |_,_,.emp (a:=a) e,l=>by
  refine .emp ?_;cases q:Fb a with
  |none=>obtain⟨d,z⟩:=h a (by rw[e];exact λz=>nomatch z) q;rw[e]at z;cases z
  |some u=>have k:=c a u q;rw[e]at k;rw[pH k λ_ _ y=>nomatch y]
theorem dG.less(b:dH Fb F)(h:∀a,F a≠none->Fb a=none->∃c,F a=some (.lst c)):∀{vs} {ts},dG K F vs ts->zG ts=true->dG K Fb vs ts
 |_,_,.nil,_=>.nil
 |_,_,.cons q r,l=>by rw[zG,bI]at l;exact .cons (gN.less b h q l.1) (dG.less b h r l.2)
theorem jz.less(b:dH Fb F)(h:∀a,F a≠none->Fb a=none->∃c,F a=some (.lst c)):∀{vs} {ts},jz K F vs ts->GG ts=true->jz K Fb vs ts
 |_,_,.nil,_=>.nil
 |_,_,.cons q r,l=>by rw[GG,bI]at l;exact .cons (gN.less b h q l.1) (jz.less b h r l.2)
end
end
end L3
namespace L3
open PySem L2
def kT(K:W.Frag)(F H:Hp)(Q:VK)(ts us:List T):Prop:=∀p l d c a b,Gr F H a b->H l=none->a l=none->H p=none->a p=none->p≠l->b l=some (.lst c)->b p=some (.tup (d++[.ref l]))->dG K a d ts->dG K a c us->Q (.ref p) b
def kT.of(h:kV K F H Q (.tup (ts++[.lst us]))):kT K F H Q ts us:=λp l s k j q g a b c d e f i r u=>by
 have t:=g.take f b a;have n:fT j l (.lst k) p=none:=by rw[dB e];exact d
 have o:dH j (fT j l (.lst k)):=jq b;have m:dH (fT j l (.lst k)) (fT (fT j l (.lst k)) p (.tup (s++[.ref l]))):=jq n;exact h (.ref p) _ q (t.take i n c) (.tup du ((r.mono (o.trans m)).append (.cons (.lst (m _ _ du) (u.mono (o.trans m))) .nil)))
inductive O where
 |bad|nx (ρ:En)|rt (t:T)|rf (ts:List T)|rn (ts us:List T)|bk (ρ:En)|ct (ρ:En)|er (C:Addr) (n:Oq Int)
section
variable (K:W.Frag)(E:XK)
def kN(d:Fz)(e F:Hp)(D:St->Hp->Prop)(ρ:En):Prop:=∀c b a,dH F c->Sr K d e c b a ρ->D a b
noncomputable def O.res(o:O)(a:Fz)(b F:Hp)(D:mn):Prop:=match o with
 |.bad=>False
 |.nx ρ=>kN K a b F D.nx ρ
 |.rt t=>kV K a.hp b D.rt t
 |.rf ts=>kF K a.hp b D.rt ts
 |.rn ts us=>kT K a.hp b D.rt ts us
 |.bk ρ=>kN K a b F D.bk ρ
 |.ct ρ=>kN K a b F D.ct ρ
 |.er C n=>kE E a.hp b C n
noncomputable def MS(t:TS)(g:En->O):Prop:=∀a c F H b d D,Sr K a c F H b d->(g d).res K E a c F D->t D b H
end
section
variable {K:W.Frag}{E:XK}{t u ta tb:TE}{f fa fb:Pe->M T}{F0:Fz}{H0 F H F1 H1:Hp}{σ:St}{ρ:En}{D:mn}
def kN.go(h:kN K F0 H0 F N ρ)(s:dH F F1):kN K F0 H0 F1 N ρ:=λc b a d r=>h c b a (s.trans d) r
def O.res.go{o:O}(h:o.res K E F0 H0 F D)(s:dH F F1):o.res K E F0 H0 F1 D:=by
 cases o with
 |bad=>exact h
 |nx ρ=>exact kN.go h s
 |rt t=>exact h
 |rf ts=>exact h
 |rn ts us=>exact h
 |bk ρ=>exact kN.go h s
 |ct ρ=>exact kN.go h s
 |er C n=>exact h
noncomputable def O.of{b:Type}(m:M b)(k:b->O):O:=match m with
 |.bad=>.bad
 |.ok a=>k a
 |.er C n=>.er C n
@[simp] theorem O.of_ok(a:α) k:O.of (.ok a) k=k a:=rfl
@[simp] theorem O.of_bad k:O.of (.bad:M α) k=.bad:=rfl
@[simp] theorem O.of_er C n k:O.of (.er C n:M α) k=.er C n:=rfl
def O.res_of{m:M α}{k:α->O}(h:(O.of m k).res K E F0 H0 F D):m.res (λa=>(k a).res K E F0 H0 F D) (kE E F0.hp H0):=by cases m<;>exact h
@[simp] noncomputable def dA(a b:En->O):En->O:=λρ=>match a ρ with
 |.nx ρ'=>b ρ'
 |o=>o
def Dq{t u:TS}(g:MS K E t a)(i:MS K E u b):MS K E (zM t u) (dA a b):=λF0 H0 F H σ ρ D r q=>by
 refine g F0 H0 F H σ ρ _ r ?_;unfold dA at q;cases e:a ρ with
 |nx ρ'=>rw[e]at q;intro h d c s j;exact i F0 H0 h d c ρ' D j (q.go s)
 |bad=>rw[e]at q;exact q
 |rt t=>rw[e]at q;exact q
 |rf ts=>rw[e]at q;exact q
 |rn ts us=>rw[e]at q;exact q
 |bk ρ=>rw[e]at q;exact q
 |ct ρ=>rw[e]at q;exact q
 |er C n=>rw[e]at q;exact q
@[simp] noncomputable def ek:En->O:=λρ=>.nx ρ
def A0:MS K E zr ek:=λF0 H0 F H σ ρ D r q=>q F H σ (.refl _) r
def xF:MS K E ua (λ_=>.bad):=λ_ _ _ _ _ _ _ _ q=>q
def MT.inS(o:MT K E c fc)(r:Sr K F0 H0 F H σ ρ)(q:(O.of (fc (vw ρ)) k).res K E F0 H0 F D)
  (l:∀b d a,dH F d->Sr K F0 H0 d a σ ρ->(k b).res K E F0 H0 d D->Q b a):c σ H Q:=by
 obtain⟨m,s,h,V,e⟩:=r.lend;refine o m H σ (vw ρ) Q h.fh V ((O.res_of q).mono (λb z d a g=>?_) λC n z=>z.go h);obtain⟨p,j,i,_⟩:=e d a g;exact l b p a i (r.grow j) (z.go i)
@[simp] noncomputable def iW(d:Pe->M Bool)(a b:En->O):En->O:=λρ=>.of (d (vw ρ)) λc=>if c then a ρ else b ρ
def E4{t u:TS}(i:MT K E c fc)(g:MS K E t a)(h:MS K E u b):MS K E (CD c t u) (iW fc a b):=λF0 H0 F H σ ρ D r q=>by
 refine i.inS r q λc k j s e d=>?_;cases c with
 |true=>rw[aQ rfl];exact g _ _ _ _ _ _ _ e d
 |false=>rw[aR aH];exact h _ _ _ _ _ _ _ e d
@[simp] noncomputable def eg(f:Pe->M T):En->O:=λρ=>.of (f (vw ρ)) λt=>.rt t
def CT(h:ME K E t f):MS K E (tm t) (eg f):=λF0 H0 F H σ ρ D r q=>by obtain⟨d,e,a,V,c⟩:=r.lend;exact h d H σ (vw ρ) _ a.fh V ((O.res_of q).mono (λb z=>kV.go z a) λC n z=>z.go a)
@[simp] noncomputable def sC(f:Pe->M (List T)):En->O:=λρ=>.of (f (vw ρ)) λt=>.rf t
def AB{f:Pe->M (List T)}(h:MF K E t f):MS K E (tm t) (sC f):=λF0 H0 F H σ ρ D r q=>by obtain⟨d,e,a,V,c⟩:=r.lend;exact h d H σ (vw ρ) _ a.fh V ((O.res_of q).mono (λb z=>kF.go z a) λC n z=>z.go a)
@[simp] noncomputable def m7(i:Nat):En->O:=λρ=>match ρ[i]? with
 |some (some (.o ts))=>.rf ts
 |_=>.bad
def vI:MS K E (tm (kC i)) (m7 i):=λF0 H0 F H σ ρ D r q=>by
 unfold m7 at q;split at q
 .rename_i h e;obtain⟨k,g,l⟩:=r.ov;obtain⟨a,b,c,j,d,z⟩:=g i h e;exact⟨_,a,q (k i) j F H r.gr c b d z⟩
 .exact q.elim
def lJ{a:Type}{l:List a}{x y:a}(h:(l.set i x)[i]? = some y):y=x:=by
 rw[List.getElem?_set]at h;simp only[if_true]at h;split at h
 .exact (Option.some.inj h).symm
 .cases h
def eL{a:Type}{l:List a}{x y:a}(h:(l.set i x)[j]? = some y):(j=i/\y=x)\/(j≠i/\l[j]? = some y):=by
 by_cases e:j=i
 .subst e;exact .inl ⟨rfl,lJ h⟩
 .rw[aq (λz=>e z.symm)]at h;exact .inr ⟨e,h⟩
def qB{a:Type}{l:List a}{x:a}(h:i<l.length):(l.set i x)[i]? = some x:=by rw[List.getElem?_set_self h]
def Sr.setP(r:Sr K F0 H0 F H σ ρ)(h:gN K F v x):Sr K F0 H0 F H (σ.set i (some v)) (ρ.set i (some (.p x))):=by
 obtain⟨J,s,C⟩:=r.ov;refine⟨r.gr,by simp[r.len],λj t e=>?_,⟨J,λj m e=>?_,λj k m N e I=>?_⟩,λe y=>?_,λj l A n q=>?_,r.dv.set λ_ z=>nomatch z⟩
 .have B:j<ρ.length:=by simpa using (aa.mp e).1
  rcases eL e with⟨rfl,q⟩|⟨c,q⟩
  .cases q;exact⟨v,qB (by rw[r.len];exact B),h⟩
  .obtain⟨w,a,b⟩:=r.pv j t q;exact⟨w,by rw[aq (λz=>c z.symm)];exact a,b⟩
 .rcases eL e with⟨rfl,q⟩|⟨c,q⟩
  .cases q
  .obtain⟨a,b⟩:=s j m q;exact⟨by rw[aq (λz=>c z.symm)];exact a,b⟩
 .rcases eL e with⟨rfl,q⟩|⟨c,q⟩
  .cases q
  .rcases eL I with⟨rfl,o⟩|⟨P,o⟩
   .cases o
   .exact C j k m N q o
 .have L:=r.lv e y;refine⟨L.h,L.f,L.z,λj m q=>?_⟩;rcases eL q with⟨rfl,g⟩|⟨c,g⟩
  .cases g
  .rw[aq (λz=>c z.symm)];exact L.d j m g
 .rcases eL q with⟨rfl,g⟩|⟨c,g⟩
  .cases g
  .rw[aq (λz=>c z.symm)];exact r.sl j l A n g
def Sr.setO(r:Sr K F0 H0 F H σ ρ)(g:Gr F H F1 H1)(x:H l=none)(hf:F1 l=none)(hv:H1 l=some (.lst vs))(hr:dG K F1 vs ts) :
  Sr K F0 H0 F1 H1 (σ.set i (some (.ref l))) (ρ.set i (some (.o ts))):=by
 have v:=r.grow g;obtain⟨C,A,_⟩:=r.ov;obtain⟨N,R,h2⟩:=v.ov;have U:∀j m,ρ[j]? = some (some (.o m))->N j≠l:=λj m e z=>by
  obtain⟨a,_⟩:=R j m e;obtain⟨X,_,_,vs0,P,_⟩:=A j m e;rw[a]at X;have:N j=C j:=by simpa using X
  rw[<-this,z,x]at P;cases P
 refine⟨v.gr,by simp[r.len],λj t e=>?_,⟨λj=>if j=i then l else N j,λj m e=>?_,λj k m Q e Y p=>?_⟩,λe S=>?_,λj Z y I q=>?_,v.dv.set λ_ z=>nomatch z⟩
 .rcases eL e with⟨rfl,q⟩|⟨c,q⟩
  .cases q
  .obtain⟨w,a,b⟩:=v.pv j t q;exact⟨w,by rw[aq (λz=>c z.symm)];exact a,b⟩
 .have J:j<ρ.length:=by simpa using (aa.mp e).1
  rcases eL e with⟨rfl,q⟩|⟨c,q⟩
  .cases q;dsimp only;rw[aQ rfl];exact⟨qB (by rw[r.len];exact J),hf,dN r.gr.hh x,vs,hv,hr⟩
  .dsimp only;rw[aR c];obtain⟨a,b⟩:=R j m q;exact⟨by rw[aq (λz=>c z.symm)];exact a,b⟩
 .rcases eL e with⟨rfl,q⟩|⟨c,q⟩
  .rcases eL Y with⟨rfl,s⟩|⟨B,s⟩
   .exact absurd rfl p
   .dsimp only;rw[aQ rfl,aR B];exact λz=>U k Q s z.symm
  .rcases eL Y with⟨rfl,s⟩|⟨B,s⟩
   .dsimp only;rw[aR c,aQ rfl];exact U j m q
   .dsimp only;rw[aR c,aR B];exact h2 j k m Q q s p
 .have L:=v.lv e S;have L0:=r.lv e S;refine⟨L.h,L.f,L.z,λj ts q=>?_⟩;rcases eL q with⟨rfl,n⟩|⟨c,n⟩
  .intro z;have z':=lJ z;have:e.2.1=l:=by simpa using z'
   rw[<-this,L0.h]at x;cases x
  .rw[aq (λz=>c z.symm)];exact L.d j ts n
 .rcases eL q with⟨rfl,n⟩|⟨c,n⟩
  .cases n
  .rw[aq (λz=>c z.symm)];exact r.sl j Z y I n
@[simp] noncomputable def gh(f:Pe->M T)(ρ:En):M T:=f (iS ρ)
@[simp] noncomputable def qt(f:Pe->M T)(ρ:En):M T:=(f (vw ρ)).bind λt=>if lf t then .ok t else .bad
def ME.inH(h:ME K E t f)(r:Sr K F0 H0 F H σ ρ)(q:(O.of (gh f ρ) k).res K E F0 H0 F D)
  (c:∀x v a b,Gr F H a b->gN K a v x->Sr K F0 H0 a b σ ρ->(k x).res K E F0 H0 a D->Q v b):t σ H Q:=
 h F H σ (iS ρ) Q r.gr.fh r.vars ((O.res_of q).mono (λx z v a b g d=>c x v a b g d (r.grow g) (z.go g.ff)) λC n z=>z.go r.gr)
def ME.inB(h:ME K E t f)(r:Sr K F0 H0 F H σ ρ)(q:(O.of (qt f ρ) k).res K E F0 H0 F D)
  (m:∀x v b a,Gr F H b a->gN K b v x->Sr K F0 H0 b a σ ρ->(k x).res K E F0 H0 b D->Q v a):t σ H Q:=by
 obtain⟨o,y,j,V,c⟩:=r.lend;refine h o H σ (vw ρ) Q j.fh V ((M.res.unb (O.res_of q)).mono (λx z v b a g p=>?_) λC n z=>z.go j);obtain⟨w,l,s,e,d,_⟩:=c b a g;by_cases i:lf x=true
 .rw[aQ i]at z;exact m x v w a l (p.less e d i) (r.grow l) (O.res.go z s)
 .rw[aR i]at z;exact z.elim
@[simp] noncomputable def setO(i:Nat)(f:En->M T):En->O:=λρ=>.of (f ρ) λt=>.nx (ρ.set i (some (.p t)))
def uu(h:ME K E t f):MS K E (j5 t (f6 i)) (setO i (gh f)):=λF0 H0 F H σ ρ D r q=>h.inH r q λx v b a g e c d=>d b a _ (.refl _) (c.setP e)
def zR(h:ME K E t f):MS K E (j5 t (f6 i)) (setO i (qt f)):=λF0 H0 F H σ ρ D r q=>h.inB r q λx v b a g e c d=>d b a _ (.refl _) (c.setP e)
@[simp] noncomputable def oq(f:Pe->M (List T))(ρ:En):M (List T):=f (iS ρ)
@[simp] noncomputable def xP(f:Pe->M (List T))(ρ:En):M (List T):=(f (vw ρ)).bind λa=>if zG a then .ok a else .bad
def MF.inH{f:Pe->M (List T)}(h:MF K E t f)(r:Sr K F0 H0 F H σ ρ)(q:(O.of (oq f ρ) k).res K E F0 H0 F D)
  (j:∀ts l vs e i,Gr F H e i->H l=none->e l=none->i l=some (.lst vs)->dG K e vs ts->(k ts).res K E F0 H0 e D->Q (.ref l) i):t σ H Q:=
 h F H σ (iS ρ) Q r.gr.fh r.vars ((O.res_of q).mono (λts z l vs e i g a b c d=>j ts l vs e i g a b c d (z.go g.ff)) λC n z=>z.go r.gr)
def MF.inB{f:Pe->M (List T)}(h:MF K E t f)(r:Sr K F0 H0 F H σ ρ)(q:(O.of (xP f ρ) k).res K E F0 H0 F D)
  (w:∀ts l vs i e,Gr F H i e->H l=none->i l=none->e l=some (.lst vs)->dG K i vs ts->(k ts).res K E F0 H0 i D->Q (.ref l) e):t σ H Q:=by
 obtain⟨x,B,s,V,m⟩:=r.lend;refine h x H σ (vw ρ) Q s.fh V ((M.res.unb (O.res_of q)).mono (λts z l vs i e g a b c d=>?_) λC n z=>z.go s);obtain⟨A,v,y,j,o,_⟩:=m i e g;by_cases p:zG ts=true
 .rw[aQ p]at z;exact w ts l vs A e v a (dN j b) c (d.less j o p) (O.res.go z y)
 .rw[aR p]at z;exact z.elim
@[simp] noncomputable def mj(i:Nat)(f:En->M (List T)):En->O:=λρ=>.of (f ρ) λa=>.nx (ρ.set i (some (.o a)))
def vk{f:Pe->M (List T)}(h:MF K E t f):MS K E (j5 t (f6 i)) (mj i (oq f)):=λF0 H0 F H σ ρ D r q=>h.inH r q λm l n j e g a b c d k=>k j e _ (.refl _) (r.setO g a b c d)
def Au{f:Pe->M (List T)}(h:MF K E t f):MS K E (j5 t (f6 i)) (mj i (xP f)):=λF0 H0 F H σ ρ D r q=>h.inB r q λm l n j e g a b c d k=>k j e _ (.refl _) (r.setO g a b c d)
@[simp] noncomputable def lF(f:En->M T):En->O:=λρ=>.of (f ρ) λ_=>.nx ρ
def zy(h:ME K E t f):MS K E (sJ t) (lF (gh f)):=λF0 H0 F H σ ρ D r q=>h.inH r q λx v b a g e c d=>d b a _ (.refl _) c
def Sr.change(r:Sr K F0 H0 F H σ ρ)(e:ρ[i]? = some (some (.o ts)))(hw:dG K F ws us) :
  ∃l vs,σ[i]? = some (some (.ref l))/\H l=some (.lst vs)/\dG K F vs ts/\Sr K F0 H0 F (fT H l (.lst ws)) σ (ρ.set i (some (.o us))):=by
 obtain⟨I,N,A⟩:=r.ov;obtain⟨a,b,c,vs,d,z⟩:=N i ts e;refine⟨I i,vs,a,d,z,⟨r.gr.ff,λp u q=>?_,λp u q=>?_,r.gr.nw⟩,by simp[r.len],λj t q=>?_,⟨I,λj s q=>?_,λj k s x q Q m=>?_⟩,λP X=>?_,λj R n C q=>?_,(r.dv.heap (.refl _) λp xs J _=>⟨by assumption,by rw[dB (λz=>by rw[z,d]at J;cases J)];exact J⟩).setR λ_ z=>nomatch z⟩
 .rw[dB (dZ q b)];exact r.gr.fh p u q
 .rw[dB (dZ q c)];exact r.gr.hh p u q
 .rcases eL q with⟨rfl,g⟩|⟨y,g⟩
  .cases g
  .exact r.pv j t g
 .rcases eL q with⟨rfl,g⟩|⟨y,g⟩
  .cases g;exact⟨a,b,c,ws,du,hw⟩
  .obtain⟨a',b',Z,n,S,U⟩:=N j s g;exact⟨a',b',Z,n,by rw[dB (A j i s ts g e y)];exact S,U⟩
 .rcases eL q with⟨rfl,g⟩|⟨y,g⟩
  .rcases eL Q with⟨rfl,v⟩|⟨Y,v⟩
   .exact absurd rfl m
   .exact A j k ts x e v m
  .rcases eL Q with⟨rfl,v⟩|⟨Y,v⟩
   .exact A j k s ts g e m
   .exact A j k s x g v m
 .have L:=r.lv P X;have B:P.2.1≠I i:=λw=>L.d i ts e (by rw[w];exact a);refine⟨by rw[dB B];exact L.h,L.f,L.z,λj s q=>?_⟩;rcases eL q with⟨rfl,g⟩|⟨y,g⟩
  .exact L.d _ ts e
  .exact L.d j s g
 .rcases eL q with⟨rfl,g⟩|⟨y,g⟩
  .cases g
  .exact r.sl j R n C g
@[simp] noncomputable def kR(ρ:En)(i:Nat):M (List T):=match ρ[i]? with
 |some (some (.o ts))=>.ok ts
 |_=>.bad
def sv(h:kR ρ i=.ok ts):ρ[i]? = some (some (.o ts)):=by
 unfold kR at h;split at h
 .rename_i a e;cases h;exact e
 .cases h
@[simp] noncomputable def uk(i:Nat)(f:En->M T):En->O:=λρ=>.of (kR ρ i) λa=>.of (f ρ) λt=>if a.length<sizeLine then .nx (ρ.set i (some (.o (a++[t])))) else .bad
def yt(r:Sr K F0 H0 F H σ ρ)(e:ρ[i]? = some (some (.o ts)))(m:gN K F v x)
  (q:(if ts.length<sizeLine then O.nx (ρ.set i (some (.o (ts++[x])))) else .bad).res K E F0 H0 F D):∃l,σ[i]? = some (some (.ref l))/\pO (.ref l) [v] H λ_ H1=>D.nx σ H1:=by
 by_cases g:ts.length<sizeLine
 .rw[aQ g]at q;obtain⟨n,h,_⟩:=r.ov;obtain⟨_,_,_,k,d,z⟩:=h i ts e;obtain⟨l,b,j,c,s,p⟩:=r.change e (z.append (.cons m .nil));have:b=k:=by
   have a:=(h i ts e).1;rw[j]at a;have:l=n i:=by simpa using a
   rw[this,d]at c;cases c;rfl
  subst this;exact⟨l,j,l,b,v,rfl,rfl,c,by rw[z.length];exact g,q F _ _ (.refl _) p⟩
 .rw[aR g]at q;exact q.elim
def Gs(K:W.Frag)(i:Nat)(a:TE):TE:=BI K "list" pO (kC i) (jm a kD)
def Ba(k:∀l o H,H l=some (.lst o)->Fs K "list" (.ref l) H)(h:ME K E t f):MS K E (sJ (Gs K i t)) (uk i (gh f)):=λF0 H0 F H σ ρ D r q=>by
 unfold uk at q;cases e:kR ρ i with
 |bad=>rw[e]at q;exact q.elim
 |er C n=>unfold kR at e;split at e<;>cases e
 |ok ts=>rw[e]at q;have c:=sv e;obtain⟨B,m,_⟩:=r.ov;obtain⟨a,_,_,A,d,_⟩:=m i ts c;refine⟨_,a,k _ _ _ d,?_⟩;refine h.inH r q λx v z y g p w s=>?_;obtain⟨l,j,b⟩:=yt w c p s;rw[a]at j;cases j;exact b
@[simp] noncomputable def tZ(i:Nat)(b:En->M T)(f:En->M T):En->O:=λρ=>.of (kR ρ i) λa=>.of (f ρ) λt=>.of (b ρ) λk=>match k with
 |.int k=>match qW a.length k with
  |some j=>.nx (ρ.set i (some (.o (a.set j t))))
  |none=>.bad
 |_=>.bad
theorem yl{i:Nat}{ts:List T}{x y:T}{v w:V}{l:Addr}(p:Sr K F0 H0 F H σ ρ)(m:ρ[i]? = some (some (.o ts)))(q:σ[i]? = some (some (.ref l)))(C:gN K F v x)(e:gN K F w y)
  (b:(match y with
   |.int k=>match qW ts.length k with
    |some j=>O.nx (ρ.set i (some (.o (ts.set j x))))
    |none=>.bad
   |_=>.bad).res K E F0 H0 F D):uE (.ref l) w v H λA=>D.nx σ A:=by
 cases e with
 |int k=>
  dsimp only at b;cases g:qW ts.length k with
  |none=>rw[g]at b;exact b.elim
  |some j=>
   rw[g]at b;obtain⟨I,n,_⟩:=p.ov;obtain⟨_,_,_,B,d,z⟩:=n i ts m;obtain⟨J,c,r,h,L,s⟩:=p.change m (z.set C j);rw[q]at r;cases r;have:c=B:=by
    have a:=(n i ts m).1;rw[q]at a;have:l=I i:=by simpa using a
    rw[this,d]at h;cases h;rfl
   subst this;exact⟨l,c,k,j,rfl,rfl,h,by rw[z.length];exact g,b F _ _ (.refl _) s⟩
 |_=>exact b.elim
def Dh(h:ME K E t f)(m:ME K E tk fk):MS K E (j5 t (Ds (kC i) tk uE)) (tZ i (qt fk) (qt f)):=λF0 H0 F H σ ρ D r q=>by
 unfold tZ at q;cases e:kR ρ i with
 |bad=>rw[e]at q;exact q.elim
 |er C n=>unfold kR at e;split at e<;>cases e
 |ok ts=>rw[e]at q;have c:=sv e;obtain⟨J,j,_⟩:=r.ov;have a:=(j i ts c).1;refine h.inB r q λx v B z g o s p=>⟨_,a,?_⟩;exact m.inB s p λy w A I k b l d=>yl l c a (o.mono k.ff) b d
end
end L3
namespace L3
open PySem L2
section
variable {K:W.Frag}{E:XK}{t u ta tb:TE}{f fa fb:Pe->M T}{F0:Fz}{H0 F H F1 H1:Hp}{σ:St}{ρ:En}{D:mn}
structure qH(K:W.Frag)(J:It)(its:List T)(F1:Hp):Prop where
 go:∀i H,dH F1 H->i<its.length->J.go i H
 stop:∀H,dH F1 H->J.stop its.length H
 yld:∀(i:Nat) t F H x H',dH F1 F->dH F H->its[i]? = some t->J.yld i H x H'->∃F',Gr F H F' H'/\gN K F' x t
def kI(K:W.Frag)(F H:Hp)(R:It->Hp->Prop)(a:List T):Prop:=∀J c b,Gr F H c b->qH K J a c->R J b
noncomputable def MI(K:W.Frag)(E:XK)(w:TI)(f:Pe->M (List T)):Prop:=∀F H σ ρ R,dH F H->hI K F σ ρ->(f ρ).res (kI K F H R) (kE E F H)->w σ H R
def HV(K:W.Frag)(F H:Hp)(R:It->Hp->Prop)(a:List T):Prop:=∀J c b,Gr F H c b->(∀F1,qH K J a F1)->R J b
noncomputable def FM(K:W.Frag)(E:XK)(w:TI)(f:Pe->M (List T)):Prop:=∀F H σ ρ R,dH F H->hI K F σ ρ->(f ρ).res (HV K F H R) (kE E F H)->w σ H R
def FM.mi{f:Pe->M (List T)}(h:FM K E w f):MI K E w f:=λF H σ ρ R s V q=>h F H σ ρ R s V (q.mono (λc z J a b g i=>z J a b g (i a)) λ_ _ z=>z)
@[simp] noncomputable def GA(fa:Pe->M T):Pe->M (List T):=λρ=>(fa ρ).bind λx=>match x with
 |.lst ts=>.ok ts
 |.scr ns=>.ok (ns.map T.int)
 |_=>.bad
@[simp] noncomputable def Hn(fa:Pe->M T):Pe->M (List T):=λρ=>(fa ρ).bind λx=>match x with
 |.tup ts=>.ok ts
 |_=>.bad
def vt(c:iC K F a xs)(r:dG K F xs ts):qH K (G4 K a) ts F where
 go:=λi H s k=>by have e:xs[i]? = some (xs[i]'(by rw[r.length];exact k)):=ag _;exact⟨xs,_,s.seq c,e⟩
 stop:=λH s=>⟨xs,s.seq c,by rw[r.length];exact aK _⟩
 yld:=λi t j H x n g d e y=>by obtain⟨rfl,h⟩:=y;have l:=h xs ((g.trans d).seq c);obtain⟨o,b,m⟩:=r.at_ l;rw[e]at b;cases b;exact⟨j,.refl d,m.mono g⟩
def mq(s:dH F H)(h:F a=some (.tup xs)):i5 K H a xs:=i5.of (s _ _ h)
def Ej(c:F a=some (.tup xs))(r:dG K F xs ts):qH K (Hi K a) ts F where
 go:=λi H s k=>by have e:xs[i]? = some (xs[i]'(by rw[r.length];exact k)):=ag _;exact⟨xs,_,mq s c,e⟩
 stop:=λH s=>⟨xs,mq s c,by rw[r.length];exact aK _⟩
 yld:=λi t j H x n g d e y=>by obtain⟨rfl,h⟩:=y;have l:=h xs (mq (g.trans d) c);obtain⟨o,b,m⟩:=r.at_ l;rw[e]at b;cases b;exact⟨j,.refl d,m.mono g⟩
def qA(c:ME K E ta fa):MI K E (yh K ta) (GA fa):=λF H σ ρ R s V q=>by
  refine c.run s V q λx v F1 H1 a d b=>?_;cases d<;>first
    |exact b.elim
    | (rename_i h r
       exact⟨_,rfl,⟨_,iC.of (a.fh _ _ h)⟩,b _ F1 H1 a (vt (iC.of h) r)⟩)
    | (rename_i h
       exact⟨_,rfl,⟨_,a.fh.seq h⟩,b _ F1 H1 a (vt h (dG.of_ints _))⟩)
def Dk(c:ME K E ta fa):MI K E (ED K ta) (Hn fa):=λF H σ ρ R s V q=>by
  refine c.run s V q λx v F1 H1 a d b=>?_;cases d<;>first
    |exact b.elim
    | (rename_i h r
       exact⟨_,rfl,⟨_,i5.of (a.fh _ _ h)⟩,b _ F1 H1 a (Ej h r)⟩)
def F9:(2:Int) ^ 62=4611686018427387904:=by decide +kernel
def Gv:(2:Int) ^ 63=9223372036854775808:=by decide +kernel
noncomputable def wx(j:Int):Bool:=decide (j.natAbs<4611686018427387904)
def kh(h:wx j=true):-(2 ^ 62)<=j/\j<2 ^ 62:=by rw[F9];have:=of_decide_eq_true h;omega
def kx(h:j.natAbs<=1000000):wx j=true:=aC (by omega)
noncomputable def qo(a:Int)(n:Nat):List T:=(List.range n).map λ(i:Nat)=>T.int (a+(i:Int))
def CV F:qH K (Fd lo n) (qo lo n) F where
 go:=λi H s a=>by show i<n;simpa[qo] using a
 stop:=λH s=>by simp[qo,Fd]
 yld:=λi t c H x d g b e y=>by
  obtain⟨rfl,rfl⟩:=y;have a:i<n:=by simpa[qo] using (aa.mp e).1
  have:t=.int (lo+i):=by unfold qo at e;rw[av,List.getElem?_range a]at e;cases e;rfl
  rw[this];exact⟨c,.refl b,.int _⟩
@[simp] noncomputable def iz(fa:Pe->M (List T)):Pe->M (List T):=λρ=>(fa ρ).bind λa=>match a with
 |[.int j]=>if wx j then .ok (qo 0 j.toNat) else .bad
 |_=>.bad
def Bt{ta:TA}{fa:Pe->M (List T)}(e:MA K E ta fa):FM K E (xm ta) (iz fa):=λF H σ ρ R s V q=>by
 refine e.run s V q λk i F1 H1 g h c=>?_;split at c
 .rename_i j;split at c
  .rename_i d;cases h with
   |cons a b=>cases a;cases b;exact⟨j,rfl,(kh d).1,(kh d).2,c _ F1 H1 g CV⟩
  .exact c.elim
 .exact c.elim
noncomputable def seqB(b:Bool):T->M (List T)
 |.tup ts=>if b then .ok ts else .bad
 |.lst ts=>if b then .bad else .ok ts
 |.scr ns=>if b then .bad else .ok (ns.map T.int)
 |_=>.bad
def uy(r:gN K F v x)(e:seqB b x=.ok ts):∃a c,v=.ref a/\(∀H,dH F H->sy K H b a c)/\dG K F c ts:=by
 cases r<;>try (cases e)
 .rename_i a c d h r;cases b with
  |true=>cases e;exact⟨a,c,rfl,λH s=>by unfold sy;rw[aQ rfl];exact i5.of (s _ _ h),r⟩
  |false=>cases e
 .rename_i a c d h r;cases b with
  |true=>cases e
  |false=>cases e;exact⟨a,c,rfl,λH s=>by unfold sy;rw[aR aH];exact iC.of (s _ _ h),r⟩
 .rename_i a g h;cases b with
  |true=>cases e
  |false=>cases e;exact⟨a,_,rfl,λH s=>by unfold sy;rw[aR aH];exact s.seq h,dG.of_ints g⟩
noncomputable def qD(b a:List T):List T:=(b.zip a).map λp=>T.tup [p.1,p.2]
def C0(d:∀H,dH F H->sy K H b1 l1 xs)(m:dG K F xs ts)(k:∀H,dH F H->sy K H b2 l2 ys)(h:dG K F ys us):qH K (G9 K b1 b2 l1 l2) (qD ts us) F where
 go:=λi H s w=>by
  have a:i<ts.length/\i<us.length:=by simp[qD]at w;omega
  have l:xs[i]? = some (xs[i]'(by rw[m.length];exact a.1)):=ag _;have j:ys[i]? = some (ys[i]'(by rw[h.length];exact a.2)):=ag _;exact⟨xs,ys,_,_,d H s,k H s,l,j⟩
 stop:=λH s=>⟨xs,ys,d H s,k H s,by simp[qD,m.length,h.length];omega⟩
 yld:=λi t N H x L b c e y=>by
  obtain⟨p,B,r,rfl,J,rfl,l,j⟩:=y;obtain⟨q,C,I⟩:=m.at_ (l xs (d H (b.trans c)));obtain⟨n,A,v⟩:=h.at_ (j ys (k H (b.trans c)));have:t=.tup [q,n]:=by unfold qD at e;rw[av,(List.getElem?_zip_eq_some (z:=(q,n))).mpr ⟨C,A⟩]at e;cases e;rfl
  rw[this];have g:=Gr.new (o:=.tup [B,r]) c J;exact⟨_,g,.tup du (.cons ((I.mono b).mono g.ff) (.cons ((v.mono b).mono g.ff) .nil))⟩
noncomputable def C5(b c:Bool)(fa:Pe->M (List T)):Pe->M (List T):=λρ=>(fa ρ).bind λe=>match e with
 |[x,y]=>(seqB b x).bind λa=>(seqB c y).bind λd=>.ok (qD a d)
 |_=>.bad
def u0:seqB b x≠.er C n:=by cases x<;>cases b<;>exact λz=>nomatch z
def w9{ta:TA}{fa:Pe->M (List T)}(o:MA K E ta fa):MI K E (C8 K b1 b2 ta) (C5 b1 b2 fa):=λF H σ ρ R s V q=>by
 refine o.run s V q λA z F1 H1 h w d=>?_;split at d
 .rename_i x y;cases w with
  |cons a b=>
   cases b with
   |cons b c=>
    cases c;cases g:seqB b1 x with
    |bad=>rw[g]at d;exact d.elim
    |er C n=>exact absurd g u0
    |ok ts=>
     rw[g]at d;cases e:seqB b2 y with
     |bad=>simp only[e,M.bind_ok]at d;exact d.elim
     |er C n=>exact absurd e u0
     |ok us=>simp only[e,M.bind_ok]at d;obtain⟨p,v,rfl,j,r⟩:=uy a g;obtain⟨m,k,rfl,i,l⟩:=uy b e;exact⟨p,m,rfl,⟨v,j _ h.fh⟩,⟨k,i _ h.fh⟩,d _ F1 H1 h (C0 j r i l)⟩
 .exact d.elim
def MG(K:W.Frag)(g:TG)(m:T->Pe->Option Pe):Prop:=∀F H σ (ρ:Pe) x t ρ' Q,dH F H->σ.length=ρ.length->hI K F σ ρ->gN K F x t->m t ρ=some ρ'->(∀a,a.length=ρ'.length->hI K F a ρ'->Q a H)->g x σ H Q
def FP(K:W.Frag)(g:BO)(m:List T->Pe->Option Pe):Prop:=∀F H σ (ρ:Pe) xs ts ρ' Q,dH F H->σ.length=ρ.length->hI K F σ ρ->dG K F xs ts->m ts ρ=some ρ'->(∀a,a.length=ρ'.length->hI K F a ρ'->Q a H)->g xs σ H Q
@[simp] def gR(i:Nat):T->Pe->Option Pe:=λt ρ=>some (ρ.set i (some t))
def hI.set{ρ:Pe}(V:hI K F σ ρ)(d:σ.length=ρ.length)(h:gN K F v x):hI K F (σ.set i (some v)) (ρ.set i (some x)):=λj t e=>by
 have c:j<ρ.length:=by simpa using (aa.mp e).1
 rcases eL e with⟨rfl,q⟩|⟨c,q⟩
 .cases q;exact⟨v,qB (by rw[d];exact c),h⟩
 .obtain⟨w,a,b⟩:=V j t q;exact⟨w,by rw[aq (λz=>c z.symm)];exact a,b⟩
def Bh:MG K (f6 i) (gR i):=λF H σ ρ x t b Q s a V r e k=>by cases e;exact k _ (by simp[a]) (V.set a r)
@[simp] noncomputable def v7:List T->Pe->Option Pe
 |[],ρ=>some ρ
 |_::_,_=>none
@[simp] def kK(m:T->Pe->Option Pe)(n:List T->Pe->Option Pe):List T->Pe->Option Pe
 |[],_=>none
 |t::ts,ρ=>(m t ρ).bind (n ts)
def AD:FP K Ar v7:=λF H σ ρ h g d Q s c V r e k=>by
 cases r with
 |nil=>cases e;exact⟨rfl,k σ c V⟩
 |cons a b=>cases e
def yx(l:MG K g m)(w:FP K gs n):FP K (sq g gs) (kK m n):=λF H σ ρ y x d Q s o V r e k=>by
 cases r with
 |nil=>cases e
 |cons a b=>
  rename_i v t j c;have e:(m t ρ).bind (n c)=some d:=e;cases q:m t ρ with
  |none=>rw[q]at e;cases e
  |some ρ1=>rw[q]at e;refine⟨v,j,rfl,l F H σ ρ v t ρ1 _ s o V a q λi h p=>?_⟩;exact w F H i ρ1 j c d Q s h p b e k
@[simp] noncomputable def wG(k:Nat)(m:List T->Pe->Option Pe):T->Pe->Option Pe
 |.tup ts,ρ=>if ts.length=k then m ts ρ else none
 |_,_=>none
def DI(h:FP K g m):MG K (By K k g) (wG k m):=λF H σ ρ x t b Q s i V r e q=>by
 cases r with
 |tup hx rs=>
  rename_i a j d;have e:(if d.length=k then m d ρ else none)=some b:=e;by_cases c:d.length=k
  .rw[aQ c]at e;exact⟨_,_,rfl,i5.of (s _ _ hx),by rw[rs.length];exact c,h F H σ ρ _ _ b Q s i V rs e q⟩
  .rw[aR c]at e;cases e
 |_=>cases e
noncomputable def EK(K:W.Frag)(g:TG)(m:T->En->Option En):Prop:=∀F0 H0 F H σ ρ x t b Q,Sr K F0 H0 F H σ ρ->gN K F x t->m t ρ=some b->(∀a,Sr K F0 H0 F H a b->Q a H)->g x σ H Q
@[simp] noncomputable def pI(i:Nat):T->En->Option En:=λt ρ=>some (ρ.set i (some (.p t)))
def xI:EK K (f6 i) (pI i):=λF0 H0 F H σ ρ x t a Q s r e k=>by cases e;exact k _ (s.setP r)
noncomputable def hU(m:T->En->Option En)(g:En->O):List T->En->O
 |[],ρ=>.nx ρ
 |t::ts,ρ=>match m t ρ with
  |none=>.bad
  |some ρ1=>match g ρ1 with
   |.nx ρ2=>hU m g ts ρ2
   |.ct ρ2=>hU m g ts ρ2
   |.bk ρ2=>.nx ρ2
   |o=>o
theorem ui{tb:TS}{J:It}(hg:EK K g m)(hb:MS K E tb gb){G:Hp->Hp->Prop}(P:∀i F H,G F H->i<its.length->J.go i H)(R:∀F H,G F H->J.stop its.length H)(X:∀(i:Nat) t F H x c,G F H->its[i]? = some t->J.yld i H x c->∃d,Gr F H d c/\gN K d x t)
  (S:∀d c b ρ',dH F1 d->Sr K F0 H0 d c b ρ'->G d c) (r:Sr K F0 H0 F H σ ρ) (s1:dH F1 F)
  (q:(hU m gb its ρ).res K E F0 H0 F D):∃W:Nat->Nat->St->Hp->Prop,(∃m,W 0 m σ H)/\∀i m σ H,W i m σ H->
 (J.stop i H/\D.nx σ H)\/(J.go i H/\∃N:St->Hp->Prop,(∀b c,N b c->∃m',m'<m/\W (i+1) m' b c)/\∀x c,J.yld i H x c->g x σ c λQ H2=>tb {D with nx:=N,ct:=N,bk:=D.nx} Q H2):=by
 refine⟨λi k b c=>i<=its.length/\k=its.length-i/\∃d ρ',dH F1 d/\Sr K F0 H0 d c b ρ'/\(hU m gb (its.drop i) ρ').res K E F0 H0 d D,⟨_,bA _,rfl,F,ρ,s1,r,by simpa using q⟩,?_⟩
 rintro i k v L ⟨hi,rfl,I,A,p,w,a⟩
 by_cases h:i<its.length
 .right;refine⟨P i I L (S _ _ _ _ p w) h,λb c=>∃d ρ',dH F1 d/\Sr K F0 H0 d c b ρ'/\(hU m gb (its.drop (i+1)) ρ').res K E F0 H0 d D,λb c z=>⟨its.length-(i+1),by omega,h,rfl,z⟩,λx c y=>?_⟩;have et:=ag h;obtain⟨Z,o,rp⟩:=X i _ I L x c (S _ _ _ _ p w) et y;rw[cB h]at a;unfold hU at a;cases U:m its[i] A with
  |none=>rw[U]at a;exact a.elim
  |some ρ3=>
   rw[U]at a;refine hg F0 H0 Z c v A x _ ρ3 _ (w.grow o) rp U λb r'=>?_;refine hb F0 H0 Z c b ρ3 _ r' ?_;dsimp only at a;cases j:gb ρ3 with
   |bad=>rw[j]at a;exact a.elim
   |nx ρ4=>rw[j]at a;exact λd Y B s l=>⟨d,ρ4,(p.trans o.ff).trans s,l,O.res.go a (o.ff.trans s)⟩
   |ct ρ4=>rw[j]at a;exact λd Y B s l=>⟨d,ρ4,(p.trans o.ff).trans s,l,O.res.go a (o.ff.trans s)⟩
   |bk ρ4=>rw[j]at a;exact kN.go a o.ff
   |rt t=>rw[j]at a;exact a
   |rf ts=>rw[j]at a;exact a
   |rn ts us=>rw[j]at a;exact a
   |er C n=>rw[j]at a;exact a
 .left;have e:i=its.length:=by omega
  subst e;refine⟨R I L (S _ _ _ _ p w),?_⟩;rw[List.drop_length]at a;exact a I L v (.refl _) w
def oO{tb:TS}(n:EK K g m)(j:MS K E tb gb)(b:qH K J its F1)(r:Sr K F0 H0 F H σ ρ)(k:dH F1 F)
  (q:(hU m gb its ρ).res K E F0 H0 F D):∃W:Nat->Nat->St->Hp->Prop,(∃m,W 0 m σ H)/\∀i m σ H,W i m σ H->
 (J.stop i H/\D.nx σ H)\/(J.go i H/\∃N:St->Hp->Prop,(∀c a,N c a->∃h,h<m/\W (i+1) h c a)/\∀x a,J.yld i H x a->g x σ a λd l=>tb {D with nx:=N,ct:=N,bk:=D.nx} d l):=
 ui (G:=λF H=>dH F1 F/\dH F H) n j (λi F H q o=>b.go i H (q.1.trans q.2) o) (λF H q=>b.stop H (q.1.trans q.2)) (λi t F H x a q e y=>b.yld i t F H x a q.1 q.2 e y) (λ_ _ _ _ s r=>⟨s,r.gr.fh⟩) r k q
@[simp] noncomputable def tE(fi:Pe->M (List T))(m:T->En->Option En)(g:En->O):En->O:=λρ=>.of (fi (iS ρ)) λa=>hU m g a ρ
def Do{tb:TS}(h:MI K E w fi)(e:EK K g m)(c:MS K E tb gb):MS K E (xN w g tb) (tE fi m gb):=λF0 H0 F H σ ρ D r q=>h F H σ (iS ρ) _ r.gr.fh r.vars ((O.res_of q).mono (λd z J j i b a=>oO e c a (r.grow b) (.refl _) (z.go b.ff)) λC n z=>z.go r.gr)
@[simp] noncomputable def kP(fi:Pe->M (List T))(m:T->En->Option En)(g:En->O):En->O:=λρ=>.of (fi (vw ρ)) λa=>hU m g a ρ
def zZ{tb:TS}(p:FM K E w fi)(o:EK K g m)(e:MS K E tb gb):MS K E (xN w g tb) (kP fi m gb):=λF0 H0 F H σ ρ D r q=>by obtain⟨k,x,d,V,a⟩:=r.lend;refine p k H σ (vw ρ) _ d.fh V ((O.res_of q).mono (λi z J j h l c=>?_) λC n z=>z.go d);obtain⟨v,b,s,_⟩:=a j h l;exact oO o e (c v) (r.grow b) (.refl _) (z.go s)
noncomputable def ie(c:Pe->M Bool)(g:En->O):Nat->En->O
 |0,_=>.bad
 |n+1,ρ=>.of (c (vw ρ)) λb=>if b then (match g ρ with
   |.nx ρ2=>ie c g n ρ2
   |.ct ρ2=>ie c g n ρ2
   |.bk ρ2=>.nx ρ2
   |o=>o) else .nx ρ
def yL{tb:TS}(i:En->Nat)(L:MT K E c fc)(I:MS K E tb gb):MS K E (tz c tb) (λρ=>ie fc gb (i ρ) ρ):=λF0 H0 F H σ ρ D r q=>by
 refine⟨λn g o=>∃e d,dH F e/\Sr K F0 H0 e o g d/\(ie fc gb n d).res K E F0 H0 e D,⟨i ρ,F,ρ,.refl _,r,q⟩,?_⟩;rintro n k P ⟨N,l,w,J,p⟩;cases n with
 |zero=>exact p.elim
 |succ n=>
  unfold ie at p;refine L.inS J p λb y A B x a=>?_;cases b with
  |true=>
   rw[aQ rfl]at a ⊢;refine⟨λg o=>∃e d,dH F e/\Sr K F0 H0 e o g d/\(ie fc gb n d).res K E F0 H0 e D,λg o z=>⟨n,bx n,z⟩,?_⟩;refine I F0 H0 y A k l _ x ?_;cases h:gb l with
   |bad=>rw[h]at a;exact a.elim
   |nx ρ4=>rw[h]at a;exact λe v m s j=>⟨e,ρ4,(w.trans B).trans s,j,O.res.go a s⟩
   |ct ρ4=>rw[h]at a;exact λe v m s j=>⟨e,ρ4,(w.trans B).trans s,j,O.res.go a s⟩
   |bk ρ4=>rw[h]at a;exact a
   |rt t=>rw[h]at a;exact a
   |rf ts=>rw[h]at a;exact a
   |rn ts us=>rw[h]at a;exact a
   |er C n=>rw[h]at a;exact a
  |false=>rw[aR aH]at a ⊢;exact a y A k (.refl _) x
@[simp] noncomputable def jh(a:List (Option Nat))(ρ:Pe):Pe:=a.map fun
 |none=>none
 |some j=>(ρ[j]?).getD none
def hI.pull{ρ:Pe}(V:hI K F σ ρ) ix:hI K F (L2.pull ix σ) (jh ix ρ):=λi t e=>by
 unfold jh at e;rw[av]at e;cases q:ix[i]? with
 |none=>rw[q]at e;cases e
 |some w=>
  rw[q]at e;cases w with
  |none=>cases e
  |some j=>
   have c:(ρ[j]?).getD none=some t:=by simpa using e
   cases z:ρ[j]? with
   |none=>rw[z]at c;cases c
   |some y=>rw[z]at c;have:y=some t:=c;rw[this]at z;obtain⟨v,a,b⟩:=V j t z;refine⟨v,?_,b⟩;unfold L2.pull;rw[av,q];simp[a]
@[simp] noncomputable def lN(m:T->Pe->Option Pe)(a:Pe->M Bool)(c:Pe->M T)(ρ:Pe)(t:T):M (Option T):=match m t ρ with
 |none=>.bad
 |some ρ1=>(a ρ1).bind λb=>if b then (c ρ1).bind λx=>.ok (some x) else .ok none
noncomputable def jZ(k:T->M (Option T)):List T->M (List T)
 |[]=>.ok []
 |t::ts=>(k t).bind λo=>(jZ k ts).bind λr=>.ok (match o with
  |some x=>x::r
  |none=>r)
def zE:XK:=λ_ _ _=>False
def Ci:MT K E Es (λ_=>.ok true):=λF H σ ρ Q s V q=>q F H (.refl s)
theorem yC{ρ:Pe}(hg:MG K g m)(ht:MT K zE tt ft)(he:ME K zE te fe)(V:hI K F1 σ ρ)
  (l:qH K J its F1) (s:dH F1 H1) (hl:its.length<sizeLine) (q:(jZ (lN m ft fe (jh ix ρ)) its).res (kF K F1 H1 Q) (λ_ _=>False)):Ho J ix g tt te σ H1 Q:=by
 refine⟨λi k P H=>i<=its.length/\k=its.length-i/\∃Y d,Gr F1 H1 Y H/\dG K Y P d/\d.length<=i/\(jZ (lN m ft fe (jh ix ρ)) (its.drop i)).res (λus=>kF K F1 H1 Q (d++us)) (λ_ _=>False),
  ⟨_,bA _,rfl,F1,[],.refl s,.nil,bA _,by simpa using q⟩,?_⟩
 rintro i k P R ⟨hi,rfl,S,d,a,A,tl,o⟩;by_cases c:i<its.length
 .right;refine⟨l.go i R (a.ff.trans a.fh) c,by rw[A.length];omega,λx B y=>?_⟩;have et:=ag c;obtain⟨U,p,rp⟩:=l.yld i _ S R x B a.ff a.fh et y;rw[cB c]at o;unfold jZ at o;have j:=M.res.unb o;unfold lN at j;cases I:m its[i] (jh ix ρ) with
  |none=>rw[I]at j;exact j.elim
  |some ρ3=>
   rw[I]at j;have h:=a.trans p;have V3:=(V.mono h.ff).pull ix;refine hg U B _ _ x _ ρ3 _ p.fh (by simp[L2.pull,jh]) V3 rp I λr hl' Z=>?_;have q4:=M.res.unb j;refine ht U B r ρ3 _ p.fh Z (q4.mono (λb z F4 H4 n=>?_) λ_ _ z=>z.elim);cases b with
   |true=>rw[aQ rfl]at z ⊢;have q5:=M.res.unb z;refine he F4 H4 r ρ3 _ n.fh (Z.mono n.ff) (q5.mono (λx' z' v F5 H5 X C=>?_) λ_ _ z=>z.elim);refine⟨its.length-(i+1),by omega,c,rfl,F5,d++[x'],(h.trans n).trans X,(A.mono (p.ff.trans (n.ff.trans X.ff))).append (.cons C .nil),by simp;omega,?_⟩;have L:=M.res.unb z';exact L.mono (λus w=>by rw[bL];exact w) λ_ _ w=>w
   |false=>rw[aR aH]at z ⊢;refine⟨its.length-(i+1),by omega,c,rfl,F4,d,h.trans n,A.mono (p.ff.trans n.ff),by omega,?_⟩;exact M.res.unb z
 .left;have e:i=its.length:=by omega
  subst e;rw[List.drop_length]at o;refine⟨l.stop R (a.ff.trans a.fh),λD N=>?_⟩;have j:kF K F1 H1 Q d:=by simpa[jZ,M.res] using o
  exact j D P S _ (a.trans (.new' a.fh N)) (dN a.hh N) (dN a.fh N) du A
def BL(j:MI K E w fi)(i:MG K g m)(d:MT K zE tt ft)(e:ME K zE te fe) :
  MF K E (zw ix w g tt te) (λρ=>(fi ρ).bind λa=>(if a.length<sizeLine then jZ (lN m ft fe (jh ix ρ)) a else .bad).noEr):=λF H σ ρ Q s V q=>by
 refine j F H σ ρ _ s V ((M.res.unb q).mono (λa z J l k b c=>?_) λ_ _ z=>z);split at z
 .rename_i h;exact yC i d e (V.mono b.ff) c b.fh h (z.noEr.mono (λ_ w=>w.go b) λ_ _ w=>w)
 .exact z.elim
end
end L3
namespace L3
open PySem L2
section
variable {K:W.Frag}{E:XK}{t u ta tb:TE}{f fa fb:Pe->M T}{F0:Fz}{H0 F H F1 H1:Hp}{σ:St}{ρ:En}{D:mn}
noncomputable def oJ(K:W.Frag)(F:List T->M T):Sp:=λb H Q E=>∃a F0,dH F0 H/\dG K F0 b a/\(F a).res (kV K F0 H Q) (kE E F0 H)
noncomputable def sN(K:W.Frag)(F:List T->M (List T)):Sp:=λb H Q E=>∃a F0,dH F0 H/\dG K F0 b a/\(F a).res (kF K F0 H Q) (kE E F0 H)
@[simp] noncomputable def cZ(fa:Pe->M (List T))(F:List T->M T):Pe->M T:=λρ=>(fa ρ).bind λa=>(F a).noEr
@[simp] noncomputable def n9(fa:Pe->M (List T))(F:List T->M (List T)):Pe->M (List T):=λρ=>(fa ρ).bind λa=>(F a).noEr
section
variable {tr:TA}{fr:Pe->M (List T)}{Fn:List T->M T}{Ff:List T->M (List T)}{E':XK}
def xa(c:MA K E tr fr):ME K E (pN (oJ K Fn) [] E' tr) (cZ fr Fn):=λF H σ ρ Q s V q=>by refine c.run s V q λb g F1 H1 a d e=>?_;exact⟨b,F1,a.fh,by rw[bB];exact d,(e.mono (λ_ z=>kV.go z a) λ_ _ z=>z).noEr⟩
def xA(c:MA K E tr fr):MF K E (pN (sN K Ff) [] E' tr) (n9 fr Ff):=λF H σ ρ Q s V q=>by refine c.run s V q λb g F1 H1 a d e=>?_;exact⟨b,F1,a.fh,by rw[bB];exact d,(e.mono (λ_ z=>kF.go z a) λ_ _ z=>z).noEr⟩
@[simp] noncomputable def nY(C:Addr)(m:Str)(x:T):M Unit:=match x with
 |.obj C' fs=>if C'=C/\fs.lookup m=none then .ok () else .bad
 |_=>.bad
@[simp] noncomputable def oP(C:Addr)(m:Str)(fo:Pe->M T)(fr:Pe->M (List T))(F:List T->M T):Pe->M T:=λρ=>(fo ρ).bind λx=>(nY C m x).bind λ_=>(fr ρ).bind λa=>(F (x::a)).noEr
@[simp] noncomputable def mx(C:Addr)(m:Str)(fo:Pe->M T)(fr:Pe->M (List T))(F:List T->M (List T)):Pe->M (List T):=λρ=>(fo ρ).bind λx=>(nY C m x).bind λ_=>(fr ρ).bind λa=>(F (x::a)).noEr
def vn(r:gN K F v x)(e:nY C m x=.ok ()):∃a dx fs,v=.ref a/\F a=some (.ins C dx fs)/\fs.lookup m=none:=by
 cases r with
 |obj h rs=>
  rename_i a d dx fs b;have e:(if d=C/\List.lookup m b=none then M.ok () else M.bad)=.ok ():=e;by_cases c:d=C/\List.lookup m b=none
  .obtain⟨rfl,g⟩:=c;exact⟨a,dx,fs,rfl,h,rs.none_ g⟩
  .rw[aR c]at e;cases e
 |_=>cases e
def uT:nY C m x≠.er C' n:=by
 unfold nY;split
 .split<;>exact λz=>nomatch z
 .exact λz=>nomatch z
def zx(l:ME K E ta fa)(hr:MA K E tr fr):ME K E (oQ C m (oJ K Fn) [] E' ta tr) (oP C m fa fr Fn):=λF H σ ρ Q s V q=>by
 refine l.run s V q λx v F1 H1 b g c=>?_;cases e:nY C m x with
 |bad=>rw[e]at c;exact c.elim
 |er C n=>exact absurd e uT
 |ok u=>rw[e]at c;obtain⟨a,r,fs,rfl,h,p⟩:=vn g e;refine⟨a,r,fs,rfl,b.fh _ _ h,p,?_⟩;refine hr.run b.fh (V.mono b.ff) c λo w i y d k j=>?_;exact⟨x::o,i,d.fh,by rw[bB];exact .cons (g.mono d.ff) k,(j.mono (λ_ z=>kV.go z (b.trans d)) λ_ _ z=>z).noEr⟩
def zp(l:ME K E ta fa)(hr:MA K E tr fr):MF K E (oQ C m (sN K Ff) [] E' ta tr) (mx C m fa fr Ff):=λF H σ ρ Q s V q=>by
 refine l.run s V q λx v F1 H1 b g c=>?_;cases e:nY C m x with
 |bad=>rw[e]at c;exact c.elim
 |er C n=>exact absurd e uT
 |ok u=>rw[e]at c;obtain⟨a,r,fs,rfl,h,p⟩:=vn g e;refine⟨a,r,fs,rfl,b.fh _ _ h,p,?_⟩;refine hr.run b.fh (V.mono b.ff) c λo w i y d k j=>?_;exact⟨x::o,i,d.fh,by rw[bB];exact .cons (g.mono d.ff) k,(j.mono (λ_ z=>kF.go z (b.trans d)) λ_ _ z=>z).noEr⟩
end
@[simp] noncomputable def Hf:O->M T
 |.nx _=>.ok .non
 |.rt t=>.ok t
 |.rf ts=>.ok (.lst ts)
 |.rn ts us=>.ok (.tup (ts++[.lst us]))
 |.er C n=>.er C n
 |_=>.bad
@[simp] noncomputable def Hk:O->M (List T)
 |.rf ts=>.ok ts
 |.er C n=>.er C n
 |_=>.bad
@[simp] noncomputable def dW(n:Nat)(ts:List T):En:=ts.map (λt=>some (W.p t))++List.replicate (n-ts.length) none
@[simp] noncomputable def iB(k n:Nat)(g:En->O):List T->M T:=λa=>if a.length=k then Hf (g (dW n a)) else .bad
@[simp] noncomputable def wM(k n:Nat)(g:En->O):List T->M (List T):=λa=>if a.length=k then Hk (g (dW n a)) else .bad
def oK{n i:Nat}(e:(dW n ts)[i]? = some (some (.d kvs))):False:=by
 unfold dW at e;rw[List.getElem?_append]at e;split at e
 .rw[av]at e;cases q:ts[i]? with
  |none=>rw[q]at e;cases e
  |some x=>rw[q]at e;cases e
 .rw[List.getElem?_replicate]at e;split at e<;>cases e
def rS(s:dH F H)(r:dG K F vs ts):Sr K ⟨F,[]⟩ H F H (iy N vs) (dW N.length ts):=by
 refine⟨.refl s,?_,λi t e=>?_,⟨λ_=>0,λi l e=>?_,λi j l m e=>?_⟩,λ_ k=>(nomatch k),λ_ _ _ h=>(by cases h),⟨λi c e=>(oK e).elim,λi j c d e=>(oK e).elim⟩⟩
 .simp[L2.iy,dW,r.length]
 .unfold dW at e;rw[List.getElem?_append]at e;split at e
  .rename_i g;rw[av]at e;cases q:ts[i]? with
   |none=>rw[q]at e;cases e
   |some x=>rw[q]at e;cases e;obtain⟨v,a,b⟩:=r.get q;refine⟨v,?_,b⟩;unfold L2.iy;rw[List.getElem?_append_left (by simpa[r.length] using g),av,a];rfl
  .rw[List.getElem?_replicate]at e;split at e<;>cases e
 .exfalso;unfold dW at e;rw[List.getElem?_append]at e;split at e
  .rw[av]at e;cases q:ts[i]? with
   |none=>rw[q]at e;cases e
   |some x=>rw[q]at e;cases e
  .rw[List.getElem?_replicate]at e;split at e<;>cases e
 .exfalso;unfold dW at e;rw[List.getElem?_append]at e;split at e
  .rw[av]at e;cases q:ts[i]? with
   |none=>rw[q]at e;cases e
   |some x=>rw[q]at e;cases e
  .rw[List.getElem?_replicate]at e;split at e<;>cases e
def tM(h:oJ K (iB k n g) vs H Q E):vs.length=k:=by
 obtain⟨b,F0,s,r,q⟩:=h;unfold iB at q;by_cases a:b.length=k
 .rw[r.length];exact a
 .rw[aR a]at q;exact q.elim
def qc{t:TS}(d:MS K E t g)(h:oJ K (iB k N.length g) vs H Q E):t {nx:=λ_ b=>Q .non b,rt:=Q} (iy N vs) H:=by
 obtain⟨a,F0,s,r,q⟩:=h;unfold iB at q;by_cases c:a.length=k
 .rw[aQ c]at q;refine d ⟨F0,[]⟩ H F0 H _ _ _ (rS s r) ?_;cases e:g (dW N.length a) with
  |bad=>rw[e]at q;exact q
  |nx ρ=>rw[e]at q;exact λi b j _ l=>q .non i b l.gr .non
  |rt t=>rw[e]at q;exact q
  |rf a=>rw[e]at q;exact kF.of q
  |rn a us=>rw[e]at q;exact kT.of q
  |bk ρ=>rw[e]at q;exact q.elim
  |ct ρ=>rw[e]at q;exact q.elim
  |er C n=>rw[e]at q;exact q
 .rw[aR c]at q;exact q.elim
def vD(h:sN K (wM k n g) vs H Q E):vs.length=k:=by
 obtain⟨b,F0,s,r,q⟩:=h;unfold wM at q;by_cases a:b.length=k
 .rw[r.length];exact a
 .rw[aR a]at q;exact q.elim
def si{t:TS}(d:MS K E t g)(h:sN K (wM k N.length g) vs H Q E):t {nx:=λ_ c=>Q .non c,rt:=Q} (iy N vs) H:=by
 obtain⟨a,F0,s,r,q⟩:=h;unfold wM at q;by_cases b:a.length=k
 .rw[aQ b]at q;refine d ⟨F0,[]⟩ H F0 H _ _ _ (rS s r) ?_;cases e:g (dW N.length a) with
  |bad=>rw[e]at q;exact q
  |nx ρ=>rw[e]at q;exact q.elim
  |rt t=>rw[e]at q;exact q.elim
  |rf a=>rw[e]at q;exact q
  |rn a us=>rw[e]at q;exact q.elim
  |bk ρ=>rw[e]at q;exact q.elim
  |ct ρ=>rw[e]at q;exact q.elim
  |er C n=>rw[e]at q;exact q
 .rw[aR b]at q;exact q.elim
@[simp] noncomputable def tX(C:Addr)(x:Str)(fa:Pe->M T):Pe->M T:=λρ=>(fa ρ).bind λo=>match o with
 |.obj C' fs=>if C'=C then (match fs.lookup x with
  |some t=>.ok t
  |none=>.bad) else .bad
 |_=>.bad
def Cy(i:oX K C)(j:gY K C x)(l:ME K E ta fa):ME K E (C6 K ta x) (tX C x fa):=λF H σ ρ Q s V q=>by
 refine l.run s V q λo v F1 H1 d r b=>?_;cases r with
 |obj h rs=>
  rename_i a c m fs k;dsimp only at b;by_cases g:c=C
  .subst g;rw[aQ rfl]at b;cases e:List.lookup x k with
   |none=>rw[e]at b;exact b.elim
   |some y=>rw[e]at b;obtain⟨w,n,p⟩:=rs.look e;exact⟨a,c,m,fs,w,rfl,d.fh _ _ h,i,j,n,b w F1 H1 d p⟩
  .rw[aR g]at b;exact b.elim
 |_=>exact b.elim
end
end L3
namespace L3
open PySem L2 PySem.Spec PyProof.Rows
structure Pm(K:W.Frag)(E:XK)(X:Cx)(e:Expr)(t:TE)(f:Pe->M T):Prop where
 pe:PE X e t
 me:ME K E t f
structure wJ(K:W.Frag)(E:XK)(X:Cx)(e:Expr)(t:TE)(f:Pe->M (List T)):Prop where
 pe:PE X e t
 mf:MF K E t f
structure sM(K:W.Frag)(E:XK)(X:Cx)(e:Expr)(t:TT)(f:Pe->M Bool):Prop where
 pt:PT X e t
 mt:MT K E t f
structure B4(K:W.Frag)(E:XK)(X:Cx)(e:Expr)(t:TT)(f:Pe->M Bool):Prop where
 pw:PW X e t
 mt:MT K E t f
structure uQ(K:W.Frag)(E:XK)(X:Cx)(es:List Expr)(t:TA)(f:Pe->M (List T)):Prop where
 pa:PA X es t
 ma:MA K E t f
structure Ak(K:W.Frag)(E:XK)(X:Cx)(tg it:Expr)(w:TI)(f:Pe->M (List T)):Prop where
 pi:PI X tg it w
 mi:MI K E w f
structure sA(K:W.Frag)(E:XK)(X:Cx)(tg it:Expr)(w:TI)(f:Pe->M (List T)):Prop where
 pi:PI X tg it w
 mi:FM K E w f
structure EI(K:W.Frag)(X:Cx)(tg:Expr)(g:TG)(m:T->Pe->Option Pe):Prop where
 pg:PG X tg g
 mg:MG K g m
structure A4(K:W.Frag)(X:Cx)(tg:List Expr)(g:BO)(m:List T->Pe->Option Pe):Prop where
 pg:FN X tg g
 mg:FP K g m
structure G8(K:W.Frag)(X:Cx)(tg:Expr)(g:TG)(m:T->En->Option En):Prop where
 pg:PG X tg g
 mg:EK K g m
structure qr(K:W.Frag)(E:XK)(X:Cx)(st:Stmt)(t:TS)(g:En->O):Prop where
 ps:PS X st t
 ms:MS K E t g
structure kS(K:W.Frag)(E:XK)(X:Cx)(sts:List Stmt)(t:TS)(g:En->O):Prop where
 ps:qZ X sts t
 ms:MS K E t g
noncomputable def MO(K:W.Frag)(E:XK)(t:TO)(f:Pe->M (Option Int)):Prop:=∀F H b c Q,dH F H->hI K F b c->(f c).res (λo=>∀d a,Gr F H d a->Q o a) (kE E F H)->t b H Q
structure Gz(K:W.Frag)(E:XK)(X:Cx)(e:Oq Expr)(t:TO)(f:Pe->M (Option Int)):Prop where
 po:PO X e t
 mo:MO K E t f
structure x8(K:W.Frag)(E:XK)(X:Cx)(es:List Expr)(t:TT)(f:Pe->M Bool):Prop where
 pf:vR X es t
 mt:MT K E t f
section
variable {K:W.Frag}{E:XK}{X:Cx}{a b c e o:Expr}{es:List Expr}{ta tb tc te to:TE}{fa fb fc fe fo:Pe->M T}{tr:TA}{fr:Pe->M (List T)}{pos p p2 apos:Pos}
def dc i (g:X.N[i]? = some x:=by rfl) (f:Gn X.env.scope x:=by first|exact Or.inl rfl|exact Or.inr (Or.inl rfl)|exact Or.inr (Or.inr rfl)) (h:(x==("__debug__" : Str))=false:=by decide)
  (d:(x==("__classdict__" : Str))=false:=by decide):Pm K E X (.Name x pos) (kC i) (cU i):=⟨pv i g f h d,Ec⟩
def dO{j pos}:Pm K E X (.Constant (.int i) j pos) (tC (.int i)) (cM (.int i)):=⟨Ct,yJ λ_=>.int i⟩
def FO{b:Bool}{j pos}:Pm K E X (.Constant (.bool b) j pos) (tC (.bl b)) (cM (.bl b)):=⟨FC,yJ λ_=>.bl b⟩
def fK{j pos}:Pm K E X (.Constant (.str x) j pos) (tC (.str x)) (cM (.str x)):=⟨Cp,yJ λ_=>.str x⟩
def lz i (f:∃t,X.mg x=some (.int i t)) (d:Gl X x:=by rfl) (g:(x==("__debug__" : Str))=false:=by decide):Pm K E X (.Name x pos) (tC (.int i)) (cM (.int i)):=let ⟨t,h⟩:=f;⟨lC d h ⟨t,rfl⟩ g,yJ λ_=>.int i⟩
def nV y (f:∃t,X.mg x=some (.str y t)) (d:Gl X x:=by rfl) (g:(x==("__debug__" : Str))=false:=by decide):Pm K E X (.Name x pos) (tC (.str y)) (cM (.str y)):=let ⟨t,h⟩:=f;⟨lC d h ⟨t,rfl⟩ g,yJ λ_=>.str y⟩
def eF(h:wJ K E X e te f):Pm K E X e te (λρ=>(f ρ).bind λts=>.ok (.lst ts)):=⟨h.pe,h.mf.me⟩
def nM(g:jU X (binaryOp op) r)(hr:MR K r m)(f:Pm K E X a ta fa)(d:Pm K E X b tb fb):Pm K E X (.BinOp a op b pos) (mB r ta tb) (de m fa fb):=⟨yw g f.pe d.pe,q0 hr f.me d.me⟩
def yX(K:W.Frag):R2:=λx y H Q=>(tJ λi j=>.int (i+j)) x y H Q\/(∃i j,x=.str i/\y=.str j/\i.length+j.length<=sizeLine/\Q (.str (i++j)) H)\/CU x y H Q\/
 ∃a b d f,x=.ref a/\y=.ref b/\H a=some (.tup d)/\H b=some (.tup f)/\d.length+f.length<=sizeLine/\(d=[]->Q (.ref b) H)/\(d≠[]->f=[]->Q (.ref a) H)/\(d≠[]->f≠[]->∀p,H p=none->Q (.ref p) (fT H p (.tup (d++f))))
def Bp(R:X.K=K:=by rfl):jU X (binaryOp .Add) (yX K):=by
 subst R;intro i s j H x y v u Q I d f h;rcases h with h|h|h|h
 .exact Ce i s j H x y v u Q I d f h
 .exact tU i s j H x y v u Q I d f h
 .exact yE i s j H x y v u Q I d f h
 .obtain⟨a,b,t,Y,rfl,rfl,r,m,J,q1,A,U⟩:=h;by_cases g:t=[]
  .subst g;cases d;cases f;obtain⟨B,r1,D,_⟩:=I.tuple (i5.of r);obtain⟨n,r2,p2,_⟩:=I.tuple (i5.of m);cases r1;obtain⟨⟨c1,C,e1,L⟩,w,Z,n1,k⟩:=id D;obtain⟨⟨c2,S,e2,z⟩,q,P,N,l⟩:=id p2;subst Z k P l;exact concat_meets ⟨_,w,rfl⟩ ⟨_,q,rfl⟩ noFill_tuple_add seq_tuple_add PySem.F.slot_tuple_add PySem.F.entry_tuple_add (PySem.F.args_tuple_add_2 _ _) (tuple_addW0 a b _ _ n1 N C S L z (by simp)) ⟨w,q,⟨.ref b,H,I,rfl,q1 rfl⟩⟩
  .exact Ae i s j H _ _ v u Q I d f ⟨a,b,t,Y,rfl,rfl,i5.of r,i5.of m,g,J,λe=>A g e,λe p hp=>U g e p hp⟩
noncomputable def eM:T->T->M T
 |.int i,.int j=>.ok (.int (i+j))
 |.str i,.str j=>if i.length+j.length<=sizeLine then .ok (.str (i++j)) else .bad
 |.lst a,.lst b=>if a.length+b.length<=sizeLine then .ok (.lst (a++b)) else .bad
 |.tup a,.tup b=>if a.length+b.length<=sizeLine then .ok (.tup (a++b)) else .bad
 |_,_=>.bad
def AA x y:M.NoE (eM x y):=λC n=>by unfold eM;split<;>first|(intro z;cases z;done)|(split<;>intro z<;>cases z)
def AC:MR K (yX K) eM:=⟨AA,λF H v w x y Q s r l q=>by
 cases r with
 |int i=>
  cases l with
  |int j=>exact .inl ⟨i,j,rfl,rfl,kV.now q s (.int _)⟩
  |_=>exact q.elim
 |str i=>
  cases l with
  |str j=>
   have d:(if i.length+j.length<=sizeLine then M.ok (T.str (i++j)) else M.bad).res (kV K F H Q) (λ_ _=>False):=q;by_cases h:i.length+j.length<=sizeLine
   .rw[aQ h]at d;exact .inr (.inl ⟨i,j,rfl,rfl,h,kV.now d s (.str _)⟩)
   .rw[aR h]at d;exact d.elim
  |_=>exact q.elim
 |lst h1 r1=>
  cases l with
  |lst h2 r2=>
   rename_i a m f b n g;have d:(if f.length+g.length<=sizeLine then M.ok (T.lst (f++g)) else M.bad).res (kV K F H Q) (λ_ _=>False):=q;by_cases h:f.length+g.length<=sizeLine
   .rw[aQ h]at d;refine .inr (.inr (.inl ⟨a,b,m,n,rfl,rfl,s _ _ h1,s _ _ h2,by rw[r1.length,r2.length];exact h,λp k=>?_⟩));exact d (.ref p) _ _ (.new s k) (.lst du ((r1.append r2).mono (Gr.new s k).ff))
   .rw[aR h]at d;exact d.elim
  |_=>exact q.elim
 |tup h1 r1=>
  cases l with
  |tup h2 r2=>
   rename_i a m f b n g;have d:(if f.length+g.length<=sizeLine then M.ok (T.tup (f++g)) else M.bad).res (kV K F H Q) (λ_ _=>False):=q;by_cases h:f.length+g.length<=sizeLine
   .rw[aQ h]at d;refine .inr (.inr (.inr ⟨a,b,m,n,rfl,rfl,s _ _ h1,s _ _ h2,by rw[r1.length,r2.length];exact h,λe=>?_,λ_ e=>?_,λ_ _ p k=>?_⟩))
    .subst e;cases r1;exact kV.now d s (.tup h2 r2)
    .subst e;cases r2;exact kV.now d s (.tup h1 (by rw[bB];exact r1))
    .exact d (.ref p) _ _ (.new s k) (.tup du ((r1.append r2).mono (Gr.new s k).ff))
   .rw[aR h]at d;exact d.elim
  |_=>exact q.elim
 |_=>exact q.elim⟩
def iE(f:Pm K E X a ta fa)(d:Pm K E X b tb fb)(g:X.K=K:=by rfl):Pm K E X (.BinOp a .Add b pos) (mB (yX K) ta tb) (de eM fa fb):=nM (Bp g) AC f d
@[simp] noncomputable def l7(fa fb:Pe->M T):Pe->M (List T):=λd=>(fa d).bind λx=>(fb d).bind λy=>match x,y with
 |.lst a,.lst b=>if a.length+b.length<=sizeLine then .ok (a++b) else .bad
 |_,_=>.bad
def tO(t:Pm K E X a ta fa)(n:Pm K E X b tb fb):wJ K E X (.BinOp a .Add b pos) (mB CU ta tb) (l7 fa fb):=by
 refine⟨yw yE t.pe n.pe,λF H L N Q s V q=>?_⟩;refine t.me.run s V q λx v I J k D C=>?_;refine n.me.run k.fh (V.mono k.ff) C λy w r A d u i=>?_;cases D with
 |lst h1 t1=>
  cases u with
  |lst h2 t2=>
   rename_i a z j b B l;have g:(if j.length+l.length<=sizeLine then M.ok (j++l) else M.bad).res (kF K F H Q) (kE E r A):=i;by_cases h:j.length+l.length<=sizeLine
   .rw[aQ h]at g;refine⟨a,b,z,B,rfl,rfl,d.fh _ _ (d.ff _ _ h1),d.fh _ _ h2,by rw[t1.length,t2.length];exact h,λp m=>?_⟩;have f:=k.trans d;exact g p _ r _ (f.trans (.new' d.fh m)) (dN f.hh m) (dN d.fh m) du ((t1.mono d.ff).append t2)
   .rw[aR h]at g;exact g.elim
  |_=>exact i.elim
 |_=>exact i.elim
noncomputable def kU:T->T->M T:=gD (λ_ _=>true) λi j=>.int (i-j)
def qy(f:Pm K E X a ta fa)(d:Pm K E X b tb fb):Pm K E X (.BinOp a .Sub b pos) (mB (tJ λi j=>.int (i-j)) ta tb) (de kU fa fb):=nM DS (lh λ_ _ _=>.int _) f d
instance {i j:Int}:Decidable (PySem.IntMulOk i j):=inferInstanceAs (Decidable (¬_))
noncomputable def hZ:T->T->M T:=gD (λi j=>decide (PySem.IntMulOk i j)) λi j=>.int (i*j)
def tf(f:Pm K E X a ta fa)(d:Pm K E X b tb fb):Pm K E X (.BinOp a .Mult b pos) (mB (rI (λi j=>PySem.IntMulOk i j) λi j=>.int (i*j)) ta tb) (de hZ fa fb):=nM Az (qS (λi j h=>of_decide_eq_true h) λ_ _ _=>.int _) f d
noncomputable def mJ:T->T->M T:=gD (λi j=>decide (j≠0)&&!Builtin.divisionGoesByPylong i j) λi j=>.int (i.fdiv j)
def Ay(f:Pm K E X a ta fa)(d:Pm K E X b tb fb):Pm K E X (.BinOp a .FloorDiv b pos) (mB (rI (λi j=>j≠0/\Builtin.divisionGoesByPylong i j=false) λi j=>.int (i.fdiv j)) ta tb) (de mJ fa fb):=nM yU (qS (λi j h=>by simpa using h) λ_ _ _=>.int _) f d
noncomputable def jY:T->T->M T:=gD (λ_ j=>decide (j≠0)) λi j=>.int (i.fmod j)
def sT(f:Pm K E X a ta fa)(d:Pm K E X b tb fb):Pm K E X (.BinOp a .Mod b pos) (mB (rI (λ_ j=>j≠0) λi j=>.int (i.fmod j)) ta tb) (de jY fa fb):=nM AZ (qS (λi j h=>by simpa using h) λ_ _ _=>.int _) f d
noncomputable def i9:T->T->M T:=gD (λi j=>decide (0<=j)&&decide (j<=1000000)&&decide (i.natAbs<18446744073709551616)) λi j=>.int (i ^ j.toNat)
def kY(f:Pm K E X a ta fa)(d:Pm K E X b tb fb):Pm K E X (.BinOp a .Pow b pos) (mB (rI Fp λi j=>.int (i ^ j.toNat)) ta tb) (de i9 fa fb):=nM Cw (qS (λi j h=>by simp only[bI,decide_eq_true_eq]at h;exact⟨h.1.1,h.1.2,h.2⟩) λ_ _ _=>.int _) f d
def DD(d:Pm K E X a ta fa):Pm K E X (.UnaryOp .USub a pos) (G3 (rU λi=>.int (-i)) ta) (vN (λi=>.int (-i)) fa):=⟨Fx EE d.pe,Gg (λ_ _=>.int _) d.me⟩
@[simp] noncomputable def yY(fa fb:Pe->M T):Pe->M (List T):=λd=>(fa d).bind λx=>(fb d).bind λy=>match x,y with
 |.lst a,.int k=>if wx k=true/\a.length*k.toNat<=sizeLine then .ok (List.replicate k.toNat a).flatten else .bad
 |_,_=>.bad
def B7(t:Pm K E X a ta fa)(n:Pm K E X b tb fb):wJ K E X (.BinOp a .Mult b pos) (mB Gk ta tb) (yY fa fb):=by
 refine⟨yw Cd t.pe n.pe,λF H J L Q s V q=>?_⟩;refine t.me.run s V q λx v D I l C B=>?_;refine n.me.run l.fh (V.mono l.ff) B λy w r A d u i=>?_;cases C with
 |lst h1 t1=>
  cases u with
  |int k=>
   rename_i a z j;have g:(if wx k=true/\j.length*k.toNat<=sizeLine then M.ok (List.replicate k.toNat j).flatten else M.bad).res (kF K F H Q) (kE E r A):=i;by_cases h:wx k=true/\j.length*k.toNat<=sizeLine
   .rw[aQ h]at g;refine⟨a,k,z,rfl,rfl,d.fh _ _ (d.ff _ _ h1),by have:=kh h.1;rw[F9]at this;rw[Gv];omega,by have:=kh h.1;rw[F9]at this;rw[Gv];omega,by rw[t1.length];exact h.2,λp m=>?_⟩;have f:=l.trans d;exact g p _ r _ (f.trans (.new' d.fh m)) (dN f.hh m) (dN d.fh m) du ((t1.mono d.ff).rep k.toNat)
   .rw[aR h]at g;exact g.elim
  |_=>exact i.elim
 |_=>exact i.elim
def iX(h:Pm K E X e te fe)(f:∀d,isTrue e X.env d=(do let v <-d;standAt e.pos;holding [v] (truthy v)):=by intro _;rfl):sM K E X e (tB te) (ei fe):=⟨CS h.pe f,xX h.me⟩
section
variable {tA tD:TT}{fA fD:Pe->M Bool}{iO:List Expr}
def fR(h:sM K E X a tA fA):sM K E X (.UnaryOp .Not a pos) (Df tA) (fQ fA):=⟨DJ h.pt,Dd h.mt⟩
def k9(h:B4 K E X a tA fA):sM K E X a tA fA:=⟨PW.pt h.pw,h.mt⟩
def q9(h:sM K E X a tA fA):B4 K E X (.BoolOp .And [a] pos) tA fA:=⟨AK h.pt,h.mt⟩
def fZ(h:sM K E X a tA fA):B4 K E X (.BoolOp .Or [a] pos) tA fA:=⟨CH h.pt,h.mt⟩
def uF(h:sM K E X a tA fA)(d:B4 K E X (.BoolOp .And (b::iO) pos) tD fD):B4 K E X (.BoolOp .And (a::b::iO) pos) (Em tA tD) (lV fA fD):=⟨C9 h.pt d.pw,C3 h.mt d.mt⟩
def fH(h:sM K E X a tA fA)(d:B4 K E X (.BoolOp .Or (b::iO) pos) tD fD):B4 K E X (.BoolOp .Or (a::b::iO) pos) (Hc tA tD) (jV fA fD):=⟨FU h.pt d.pw,Fh h.mt d.mt⟩
def lQ{op}(h:Pm K E X a ta fa):Pm K E X (.BoolOp op [a] pos) ta fa:=⟨El h.pe,h.me⟩
def n5(h:Pm K E X a ta fa)(h':Pm K E X (.BoolOp .And (b::iO) pos) tb fb):Pm K E X (.BoolOp .And (a::b::iO) pos) (yu ta tb) (oF fa fb):=⟨B5 h.pe h'.pe,zI h.me h'.me⟩
def Gc(h:Pm K E X a ta fa)(d:Pm K E X (.BoolOp .Or (b::iO) pos) tb fb):Pm K E X (.BoolOp .Or (a::b::iO) pos) (Dt ta tb) (DY fa fb):=⟨Ge h.pe d.pe,DE h.me d.me⟩
def qQ(h:Pm K E X a ta fa):Pm K E X (.UnaryOp .Not a pos) (xj ta) (vW fa):=⟨EA h.pe,z9 h.me⟩
def BG(h:sM K E X c tA fA)(f:Pm K E X a ta fa)(d:Pm K E X b tb fb):Pm K E X (.IfExp c a b pos) (GT tA ta tb) (zF fA fa fb):=⟨xV h.pt f.pe d.pe,EV h.mt f.me d.me⟩
end
def ud(h:jU X (compareOp op) r)(hr:MR K r m)(f:Pm K E X a ta fa)(d:Pm K E X b tb fb)(g:behindInMarks op b=false:=by exact mm _):Pm K E X (.Compare a [op] [b] pos) (mB r ta tb) (de m fa fb):=⟨pR h f.pe d.pe g,q0 hr f.me d.me⟩
def fX(h:jU X (compareOp op) r)(hr:MR K r m)(f:Pm K E X a ta fa)(d:Pm K E X b tb fb)(g:behindInMarks op b=false:=by exact mm _):sM K E X (.Compare a [op] [b] pos) (ni (mB r ta tb)) (ei (de m fa fb)):=⟨An h f.pe d.pe g,uU (q0 hr f.me d.me)⟩
noncomputable def Gj:T->T->M T:=gD (λ_ _=>true) λi j=>.bl (decide (i<j))
noncomputable def yg:T->T->M T:=gD (λ_ _=>true) λi j=>.bl (decide (i<=j))
noncomputable def CI:T->T->M T:=gD (λ_ _=>true) λi j=>.bl (decide (j<i))
noncomputable def Gm:T->T->M T:=gD (λ_ _=>true) λi j=>.bl (decide (j<=i))
def xO:MR K (tJ λi j=>.bl (decide (i<j))) Gj:=lh λ_ _ _=>.bl _
def rN:MR K (tJ λi j=>.bl (decide (i<=j))) yg:=lh λ_ _ _=>.bl _
def ve:MR K (tJ λi j=>.bl (decide (j<i))) CI:=lh λ_ _ _=>.bl _
def zg:MR K (tJ λi j=>.bl (decide (j<=i))) Gm:=lh λ_ _ _=>.bl _
@[simp] noncomputable def Dc(m f:T->T->M T)(fa fb fc:Pe->M T):Pe->M T:=λd=>(fa d).bind λx=>(fb d).bind λy=>(m x y).bind λz=>match z with
 |.bl true=>(fc d).bind λw=>f y w
 |.bl false=>.ok (.bl false)
 |_=>.bad
def sh(hr:MR K r m)(f:MR K r' m')(R:ME K E ta fa)(A:ME K E tb fb)(Z:ME K E tc fc):ME K E (nq r r' ta tb tc) (Dc m m' fa fb fc):=λF H σ ρ Q s V q=>by
 refine R.run s V q λx v F1 H1 j r1 q1=>?_;refine A.run j.fh (V.mono j.ff) q1 λy w D U i t I=>?_;refine hr.ok D U v w x y _ i.fh (r1.mono i.ff) t (((M.res.unb I).ne (hr.ne x y)).mono (λz l v3 L N g B=>?_) λ_ _ z=>z);have d:=(j.trans i).trans g;cases B with
 |bl k=>
  refine⟨k,rfl,?_⟩;cases k with
  |true=>rw[aQ rfl];have h:=l.mono (λ_ z=>z) λ_ _ z=>z.go g;refine Z.run g.fh (V.mono d.ff) h λu J Y C n S P=>?_;exact f.ok Y C w J y u Q n.fh (t.mono (g.ff.trans n.ff)) S ((P.ne (f.ne y u)).mono (λ_ z=>z.go (d.trans n)) λ_ _ z=>z)
  |false=>rw[aR aH];exact l _ L N d (.bl _)
 |_=>exact l.elim
def wO(j:jU X (compareOp op) r)(hr:MR K r m)(d:jU X (compareOp op') r')(f:MR K r' m')(i:Pm K E X a ta fa)(g:Pm K E X b tb fb)(h:Pm K E X c tc fc)
  (k:lastMarks [op,op'] [b,c]=false:=by with_unfolding_all rfl):Pm K E X (.Compare a [op,op'] [b,c] pos) (nq r r' ta tb tc) (Dc m m' fa fb fc):=⟨yk j d i.pe g.pe h.pe k,sh hr f i.me g.me h.me⟩
def wu(j:jU X (compareOp op) r)(hr:MR K r m)(d:jU X (compareOp op') r')(f:MR K r' m')(i:Pm K E X a ta fa)(g:Pm K E X b tb fb)(h:Pm K E X c tc fc)
  (k:lastMarks [op,op'] [b,c]=false:=by with_unfolding_all rfl):sM K E X (.Compare a [op,op'] [b,c] pos) (ni (nq r r' ta tb tc)) (ei (Dc m m' fa fb fc)):=⟨xn j d i.pe g.pe h.pe k,uU (sh hr f i.me g.me h.me)⟩
mutual
noncomputable def ka:T->Bool
 |.str x=>PyData.canLay0 (.str x)
 |.lst ts=>ll ts
 |.tup ts=>ll ts
 |.scr _=>false
 |.obj _ _=>false
 |.emp=>false
 |.dic _=>false
 |_=>true
noncomputable def ll:List T->Bool
 |[]=>true
 |t::ts=>ka t&&ll ts
end
mutual
def sL:T->PyData
 |.non=>.none
 |.bl b=>.bool b
 |.int i=>.int i
 |.str x=>.str x
 |.lst ts=>.list (mN ts)
 |.tup ts=>.tuple (mN ts)
 |.scr _=>.none
 |.obj _ _=>.none
 |.emp=>.none
 |.dic _=>.none
def mN:List T->List PyData
 |[]=>[]
 |t::ts=>sL t::mN ts
end
mutual
theorem yQ{F:Hp}:∀{v:V} {t:T},gN K F v t->ka t=true->DV K F v (sL t)
 |_,_,.non,_=>.non
 |_,_,.bl b,_=>.bl b
 |_,_,.int i,_=>.int i
 |_,_,.str x,_=>.str x
 |_,_,.lst h r,l=>.lst (iC.of h) (ue r (by simpa[ka] using l))
 |_,_,.tup h r,l=>.tup (i5.of h) (ue r (by simpa[ka] using l))
 |_,_,.scr _,l=>by simp[ka]at l
 |_,_,.obj _ _,l=>by simp[ka]at l
 |_,_,.emp _,l=>by simp[ka]at l
 |_,_,.dic _ _,l=>by simp[ka]at l
theorem ue{F:Hp}:∀{vs:List V} {ts:List T},dG K F vs ts->ll ts=true->rT K F vs (mN ts)
 |_,_,.nil,_=>.nil
 |_,_,.cons h r,l=>by rw[ll,bI]at l;exact .cons (yQ h l.1) (ue r l.2)
end
mutual
theorem ql:∀t,ka t=true->(sL t).canLay0=true
 |.non,_=>rfl
 |.bl b,_=>rfl
 |.int i,_=>rfl
 |.str x,h=>by simpa[ka,sL] using h
 |.lst ts,h=>by rw[sL,PyData.canLay0];exact m9 ts (by simpa[ka] using h)
 |.tup ts,h=>by rw[sL,PyData.canLay0];exact m9 ts (by simpa[ka] using h)
 |.scr _,h=>by simp[ka]at h
 |.obj _ _,h=>by simp[ka]at h
 |.emp,h=>by simp[ka]at h
 |.dic _,h=>by simp[ka]at h
theorem m9:∀ts,ll ts=true->PyData.canLayAll0 (mN ts)=true
 |[],_=>rfl
 |t::ts,h=>by rw[ll,bI]at h;rw[mN,PyData.canLayAll0,ql t h.1,m9 ts h.2];rfl
end
noncomputable def vE(x y:T):Bool:=(sL x).eqv (sL y)
noncomputable def nI(b a:List T):Bool:=PyData.eqvAll (mN b) (mN a)
noncomputable def rK(t:T):Nat:=(sL t).depth
noncomputable def mP(ts:List T):Nat:=PyData.depthAll (mN ts)
@[simp] theorem GH i:rK (.int i)=0:=rfl
@[simp] theorem GQ i:rK (.bl i)=0:=rfl
@[simp] theorem GK i:rK (.str i)=0:=rfl
@[simp] theorem GN:rK .non=0:=rfl
@[simp] theorem Gy ts:rK (.lst ts)=mP ts+1:=by unfold rK mP;rw[sL,PyData.depth]
@[simp] theorem uZ ts:rK (.tup ts)=mP ts+1:=by unfold rK mP;rw[sL,PyData.depth]
@[simp] theorem EX:mP []=0:=rfl
@[simp] theorem wd t ts:mP (t::ts)=max (rK t) (mP ts):=by unfold rK mP;rw[mN,PyData.depthAll]
@[simp] theorem GO i j:vE (.int i) (.int j)=(i==j):=rfl
@[simp] theorem Gw i j:vE (.str i) (.str j)=(i==j):=rfl
def p9 xs ys:vE (.lst xs) (.lst ys)=nI xs ys:=by unfold vE nI;rw[sL,sL,PyData.eqv]
def jl xs ys:vE (.tup xs) (.tup ys)=nI xs ys:=by unfold vE nI;rw[sL,sL,PyData.eqv]
def ki x xs y ys:nI (x::xs) (y::ys)=(vE x y&&nI xs ys):=by unfold vE nI;rw[mN,mN,PyData.eqvAll]
noncomputable def dz(a:Bool):T->T->M T:=λx y=>if ka x&&ka y&&decide (rK x<=100) then .ok (.bl (if a then !vE x y else vE x y)) else .bad
mutual
theorem DV.same{F H:Hp}(s:dH F H):∀{v:V} {d:PyData},DV K F v d->DV K H v d
 |_,_,.non=>.non
 |_,_,.bl b=>.bl b
 |_,_,.int i=>.int i
 |_,_,.str x=>.str x
 |_,_,.lst h r=>.lst (s.seq h) (rT.same s r)
 |_,_,.tup h r=>.tup (s.seqT h) (rT.same s r)
theorem rT.same{F H:Hp}(s:dH F H):∀{v:List V} {d:List PyData},rT K F v d->rT K H v d
 |_,_,.nil=>.nil
 |_,_,.cons h r=>.cons (DV.same s h) (rT.same s r)
end
def AI x y:M.NoE (dz neg x y):=λC n=>by unfold dz;split<;>exact λz=>nomatch z
def uK(a:Bool):MR K (t8 K a) (dz a):=⟨AI,λF H v w x y Q s c b q=>by
 unfold dz at q;by_cases h:(ka x&&ka y&&decide (rK x<=100))=true
 .rw[aQ h]at q;simp only[bI,decide_eq_true_eq]at h;refine⟨sL x,sL y,DV.same s (yQ c h.1.1),DV.same s (yQ b h.1.2),⟨ql x h.1.1,ql y h.1.2,by exact h.2⟩,?_⟩;exact kV.now q s (.bl _)
 .rw[aR h]at q;exact q.elim⟩
def vf{k:Nat}(hr:fw k X.A)(f:Pm K E X a ta fa)(c:Pm K E X b tb fb)(d:X.K=K:=by rfl)(e:behindInMarks .Eq b=false:=by exact mm _):Pm K E X (.Compare a [.Eq] [b] pos) (mB (t8 K false) ta tb) (de (dz false) fa fb):=ud (d▸yb (GD hr)) (uK false) f c e
def B0{k:Nat}(hr:fw k X.A)(f:Pm K E X a ta fa)(c:Pm K E X b tb fb)(d:X.K=K:=by rfl)(e:behindInMarks .NotEq b=false:=by exact mm _):Pm K E X (.Compare a [.NotEq] [b] pos) (mB (t8 K true) ta tb) (de (dz true) fa fb):=ud (d▸xr (GD hr)) (uK true) f c e
def pQ{k:Nat}(hr:fw k X.A)(f:Pm K E X a ta fa)(c:Pm K E X b tb fb)(d:X.K=K:=by rfl)(e:behindInMarks .Eq b=false:=by exact mm _):sM K E X (.Compare a [.Eq] [b] pos) (ni (mB (t8 K false) ta tb)) (ei (de (dz false) fa fb)):=fX (d▸yb (GD hr)) (uK false) f c e
def jn{k:Nat}(hr:fw k X.A)(f:Pm K E X a ta fa)(c:Pm K E X b tb fb)(d:X.K=K:=by rfl)(e:behindInMarks .NotEq b=false:=by exact mm _):sM K E X (.Compare a [.NotEq] [b] pos) (ni (mB (t8 K true) ta tb)) (ei (de (dz true) fa fb)):=fX (d▸xr (GD hr)) (uK true) f c e
end
end L3
namespace L3
open PySem L2 PySem.Spec PyProof.Rows
section
variable {K:W.Frag}{E:XK}{X:Cx}{a b c e o tg it:Expr}{es:List Expr}{ta tb tc te to:TE}{fa fb fc fe fo:Pe->M T}{tr:TA}{fr:Pe->M (List T)}{pos p p2 apos:Pos}
def dR:uQ K E X [] kD cX:=⟨my,tw⟩
def dh(d:Pm K E X e te fe)(hr:uQ K E X es tr fr)(f:starEach (e::es) X.env=(false,eval e X.env)::starEach es X.env:=by rfl):uQ K E X (e::es) (jm te tr) (cT fe fr):=⟨jG d.pe hr.pa f,Bg d.me hr.ma⟩
def B1{x1}(h:uQ K E X es tr fr):Pm K E X (.Tuple es x1 pos) (Ex tr) (iK fr):=⟨DX h.pa,Dy h.ma⟩
def kW(h:uQ K E X es tr fr):wJ K E X (.List es pos) (Dz tr) (lstM fr):=⟨Dl h.pa,DH h.ma⟩
structure MC(K:W.Frag)(r:List V->Hp->VK->Prop)(o:List T->M T):Prop where
 ne:∀xs,M.NoE (o xs)
 ok:∀F H vs xs Q,dH F H->dG K F vs xs->(o xs).res (kV K F H Q) (λ_ _=>False)->r vs H Q
structure GW(K:W.Frag)(r:List V->Hp->VK->Prop)(o:List T->M (List T)):Prop where
 ne:∀xs,M.NoE (o xs)
 ok:∀F H vs xs Q,dH F H->dG K F vs xs->(o xs).res (kF K F H Q) (λ_ _=>False)->r vs H Q
@[simp] noncomputable def gq(o:List T->M T)(fr:Pe->M (List T)):Pe->M T:=λd=>(fr d).bind o
@[simp] noncomputable def Dj(o:List T->M (List T))(fr:Pe->M (List T)):Pe->M (List T):=λd=>(fr d).bind o
def BZ{o:List T->M T}(g:MC K r o)(j:MA K E tr fr):ME K E (zX r tr) (gq o fr):=λF H n t Q s V q=>by refine j.run s V q λd i h k f m l=>?_;exact g.ok h k i d Q f.fh m ((l.ne (g.ne d)).mono (λ_ z=>z.go f) λ_ _ z=>z)
def Gp{o:List T->M (List T)}(g:GW K r o)(j:MA K E tr fr):MF K E (zX r tr) (Dj o fr):=λF H n t Q s V q=>by refine j.run s V q λd i h k f m l=>?_;exact g.ok h k i d Q f.fh m ((l.ne (g.ne d)).mono (λ_ z=>z.go f) λ_ _ z=>z)
section
variable {x:Str}{id T':String}{r:List V->Hp->VK->Prop}{m:List T->M T}{mf:List T->M (List T)}
def dJ(n:gF X (.builtin id) r)(g:MC K r m)(j:Gl X x)(k:X.mg x=none)(l:bootBuiltins x=some (.builtin id))(h:uQ K E X (e::es) tr fr)(i:x≠ "__name__" :=by decide)(f:(x==("__debug__" : Str))=false:=by decide)
  (q:starEach (e::es) X.env=(false,eval e X.env)::starEach es X.env:=by rfl) (d:(backTo pos (starEach es X.env)).any (·.1)=false:=by rfl):Pm K E X (.Call (.Name x p) (e::es) [] pos) (zX r tr) (gq m fr):=⟨rV n j k l h.pa i f q d,BZ g h.ma⟩
def dI(n:gF X (.type T') r)(g:MC K r m)(j:Gl X x)(k:X.mg x=none)(l:bootBuiltins x=some (.type T'))(h:uQ K E X (e::es) tr fr)(i:x≠ "__name__" :=by decide)(f:(x==("__debug__" : Str))=false:=by decide)
  (q:starEach (e::es) X.env=(false,eval e X.env)::starEach es X.env:=by rfl) (d:(backTo pos (starEach es X.env)).any (·.1)=false:=by rfl):Pm K E X (.Call (.Name x p) (e::es) [] pos) (zX r tr) (gq m fr):=⟨oU n j k l h.pa i f q d,BZ g h.ma⟩
def lU(n:gF X (.type T') r)(g:GW K r mf)(j:Gl X x)(k:X.mg x=none)(l:bootBuiltins x=some (.type T'))(h:uQ K E X (e::es) tr fr)(i:x≠ "__name__" :=by decide)(f:(x==("__debug__" : Str))=false:=by decide)
  (q:starEach (e::es) X.env=(false,eval e X.env)::starEach es X.env:=by rfl) (d:(backTo pos (starEach es X.env)).any (·.1)=false:=by rfl):wJ K E X (.Call (.Name x p) (e::es) [] pos) (zX r tr) (Dj mf fr):=⟨oU n j k l h.pa i f q d,Gp g h.ma⟩
end
@[simp] noncomputable def hV:List T->M T
 |[.lst ts]=>.ok (.int ts.length)
 |[.tup ts]=>.ok (.int ts.length)
 |[.scr ns]=>.ok (.int ns.length)
 |[.str z]=>if z.length<=sizeLine then .ok (.int z.length) else .bad
 |_=>.bad
def A2 xs:M.NoE (hV xs):=λC n=>by unfold hV;split<;>first|(intro z;cases z;done)|(split<;>first|(intro z;cases z;done)|(split<;>intro z<;>cases z))
def gM:MC K (λg H Q=>∃x n,g=[x]/\Ed K x H n/\Q (.int n) H) hV:=⟨A2,λF H i g Q s r q=>by
 cases r with
 |nil=>exact q.elim
 |cons h t=>
  cases t with
  |cons _ _=>cases h<;>exact q.elim
  |nil=>
   cases h with
   |lst h r=>exact⟨_,_,rfl,.inl ⟨_,iC.of (s _ _ h),rfl⟩,by rw[r.length];exact kV.now q s (.int _)⟩
   |tup h r=>exact⟨_,_,rfl,.inr ⟨_,i5.of (s _ _ h),rfl⟩,by rw[r.length];exact kV.now q s (.int _)⟩
   |scr h=>exact⟨_,_,rfl,.inl ⟨_,s.seq h,rfl⟩,by rw[aw];exact kV.now q s (.int _)⟩
   |str z=>
    have d:(if z.length<=sizeLine then M.ok (T.int z.length) else M.bad).res (kV K F H Q) (λ_ _=>False):=q;by_cases f:z.length<=sizeLine
    .rw[aQ f]at d;exact⟨_,z.length,rfl,⟨f,rfl⟩,kV.now d s (.int _)⟩
    .rw[aR f]at d;exact d.elim
   |_=>exact q.elim⟩
@[simp] noncomputable def wc:List T->M T
 |[.int i]=>.ok (.int (if i<0 then -i else i))
 |_=>.bad
def AO xs:M.NoE (wc xs):=λC n=>by unfold wc;split<;>first|(intro z;cases z;done)|(split<;>first|(intro z;cases z;done)|(split<;>intro z<;>cases z))
def qU:MC K (λd H Q=>∃i,d=[.int i]/\Q (.int (if i<0 then -i else i)) H) wc:=⟨AO,λF H f d Q s r q=>by
 cases r with
 |nil=>exact q.elim
 |cons h t=>
  cases t with
  |cons _ _=>cases h<;>exact q.elim
  |nil=>
   cases h with
   |int i=>exact⟨i,rfl,kV.now q s (.int _)⟩
   |_=>exact q.elim⟩
@[simp] noncomputable def fY:List T->M T
 |[.lst ts]=>.ok (.tup ts)
 |[.tup ts]=>.ok (.tup ts)
 |[.scr ns]=>.ok (.tup (ns.map T.int))
 |_=>.bad
def sP xs:M.NoE (fY xs):=λC n=>by unfold fY;split<;>first|(intro z;cases z;done)|(split<;>first|(intro z;cases z;done)|(split<;>intro z<;>cases z))
def fW:MC K (λg H Q=>∃p f,g=[.ref p]/\((iC K H p f/\∀l,H l=none->Q (.ref l) (fT H l (.tup f)))\/(i5 K H p f/\Q (.ref p) H))) fY:=⟨sP,λF H i g Q s r q=>by
 cases r with
 |nil=>exact q.elim
 |cons h t=>
  cases t with
  |cons _ _=>cases h<;>exact q.elim
  |nil=>
   cases h with
   |lst h r=>exact⟨_,_,rfl,.inl ⟨iC.of (s _ _ h),λl d=>q (.ref l) _ _ (.new s d) (.tup du (r.mono (Gr.new s d).ff))⟩⟩
   |scr h=>exact⟨_,_,rfl,.inl ⟨s.seq h,λl d=>q (.ref l) _ _ (.new s d) (.tup du (dG.of_ints _))⟩⟩
   |tup h r=>exact⟨_,_,rfl,.inr ⟨i5.of (s _ _ h),kV.now q s (.tup h r)⟩⟩
   |_=>exact q.elim⟩
@[simp] noncomputable def lX:List T->M (List T)
 |[.lst ts]=>.ok ts
 |[.tup ts]=>.ok ts
 |[.scr ns]=>.ok (ns.map T.int)
 |_=>.bad
def wb xs:M.NoE (lX xs):=λC n=>by unfold lX;split<;>first|(intro z;cases z;done)|(split<;>first|(intro z;cases z;done)|(split<;>intro z<;>cases z))
def nJ:GW K (λg H Q=>∃p f,g=[.ref p]/\(iC K H p f\/i5 K H p f)/\∀l,H l=none->Q (.ref l) (fT H l (.lst f))) lX:=⟨wb,λF H i g Q s r q=>by
 cases r with
 |nil=>exact q.elim
 |cons h t=>
  cases t with
  |cons _ _=>cases h<;>exact q.elim
  |nil=>
   cases h with
   |lst h r=>exact⟨_,_,rfl,.inl (iC.of (s _ _ h)),λl d=>q l _ F _ (.new' s d) d (dN s d) du r⟩
   |scr h=>exact⟨_,_,rfl,.inl (s.seq h),λl d=>q l _ F _ (.new' s d) d (dN s d) du (dG.of_ints _)⟩
   |tup h r=>exact⟨_,_,rfl,.inr (i5.of (s _ _ h)),λl d=>q l _ F _ (.new' s d) d (dN s d) du r⟩
   |_=>exact q.elim⟩
def hW:List T->Option (LI)
 |[]=>some []
 |.int i::ts=>(hW ts).bind λr=>some (i::r)
 |_::_=>none
theorem nH:∀{ts} {ns},hW ts=some ns->ts=ns.map T.int
 |[],_,e=>by cases e;rfl
 |t::ts,ns,e=>by
  cases t with
  |int i=>
   cases q:hW ts with
   |none=>simp[hW,q]at e
   |some r=>simp[hW,q]at e;subst e;rw[nH q];rfl
  |_=>cases e
@[simp] theorem EU ns:hW (ns.map T.int)=some ns:=by
 induction ns with
 |nil=>rfl
 |cons n ns ih=>simp[hW,ih]
def kJ:List T->Option (List Bool)
 |[]=>some []
 |.bl i::ts=>(kJ ts).bind λr=>some (i::r)
 |_::_=>none
theorem oT:∀{ts} {ns},kJ ts=some ns->ts=ns.map T.bl
 |[],_,e=>by cases e;rfl
 |t::ts,ns,e=>by
  cases t with
  |bl i=>
   cases q:kJ ts with
   |none=>simp[kJ,q]at e
   |some r=>simp[kJ,q]at e;subst e;rw[oT q];rfl
  |_=>cases e
@[simp] theorem Gq ns:kJ (ns.map T.bl)=some ns:=by
 induction ns with
 |nil=>rfl
 |cons n ns ih=>simp[kJ,ih]
@[simp] noncomputable def xv:List T->M T
 |[.lst ts]=>match hW ts with
  |some ns=>.ok (.int ns.sum)
  |none=>.bad
 |_=>.bad
def AJ xs:M.NoE (xv xs):=λC n=>by unfold xv;split<;>first|(intro z;cases z;done)|(split<;>first|(intro z;cases z;done)|(split<;>intro z<;>cases z))
def DA:MC K (λg H Q=>∃(p:Addr) (d:LI),g=[.ref p]/\iC K H p (d.map V.int)/\Q (.int d.sum) H) xv:=⟨AJ,λF H j g Q s r q=>by
 cases r with
 |nil=>exact q.elim
 |cons h t=>
  cases t with
  |cons _ _=>cases h<;>exact q.elim
  |nil=>
   cases h with
   |lst h r=>
    rename_i a g i;have f:(match hW i with|some d=>M.ok (T.int d.sum)|none=>M.bad).res (kV K F H Q) (λ_ _=>False):=q;cases e:hW i with
    |none=>rw[e]at f;exact f.elim
    |some d=>rw[e]at f;rw[nH e]at r;have:=r.ints;subst this;exact⟨a,d,rfl,iC.of (s _ _ h),kV.now f s (.int _)⟩
   |_=>exact q.elim⟩
@[simp] noncomputable def nk:List T->M T
 |[.lst ts]=>match kJ ts with
  |some ns=>.ok (.bl (ns.all id))
  |none=>.bad
 |_=>.bad
def Al xs:M.NoE (nk xs):=λC n=>by unfold nk;split<;>first|(intro z;cases z;done)|(split<;>first|(intro z;cases z;done)|(split<;>intro z<;>cases z))
def lR:MC K (λf H Q=>∃(p:Addr) (bs:List Bool),f=[.ref p]/\iC K H p (bs.map V.bl)/\Q (.bl (bs.all id)) H) nk:=⟨Al,λF H i f Q s r q=>by
 cases r with
 |nil=>exact q.elim
 |cons h t=>
  cases t with
  |cons _ _=>cases h<;>exact q.elim
  |nil=>
   cases h with
   |lst h r=>
    rename_i a f g;have d:(match kJ g with|some ns=>M.ok (T.bl (ns.all id))|none=>M.bad).res (kV K F H Q) (λ_ _=>False):=q;cases e:kJ g with
    |none=>rw[e]at d;exact d.elim
    |some ns=>rw[e]at d;rw[oT e]at r;have:=r.bls;subst this;exact⟨a,ns,rfl,iC.of (s _ _ h),kV.now d s (.bl _)⟩
   |_=>exact q.elim⟩
@[simp] noncomputable def EL:T->String
 |.non=> "NoneType"
 |.bl _=> "bool"
 |.int _=> "int"
 |.str _=> "str"
 |.tup _=> "tuple"
 |.lst _=> "list"
 |.scr _=> "script"
 |.obj _ _=> "object"
 |.emp=> "dict"
 |.dic _=> "table"
@[simp] noncomputable def Co(n:String)(x:T):M T:=match x with
 |.scr _=>.bad
 |.obj _ _=>.bad
 |.dic _=>.bad
 |x=>.ok (.bl (EL x==n||(n == "int" && EL x == "bool")))
def FV(r:gN K F v x)(s:dH F H)(g:∀j,x≠.scr j)(k:∀C fs,x≠.obj C fs)(d:∀f,x≠.dic f):j0 K H v (.type (EL x)):=by
 cases r with
 |non=>exact .non
 |bl b=>exact .bl b
 |int i=>exact .int i
 |str x=>exact .str x
 |tup h r=>exact .tup (s _ _ h)
 |lst h r=>exact .lst (s _ _ h)
 |scr h=>exact absurd rfl (g _)
 |obj h r=>exact absurd rfl (k _ _)
 |emp h=>exact .dK (s _ _ h)
 |dic h r=>exact absurd rfl (d _)
@[simp] noncomputable def jT(n:String)(fe:Pe->M T):Pe->M T:=λd=>(fe d).bind λx=>Co n x
theorem Dp(y:∀t∈["NoneType", "bool", "int", "str", "tuple", "list", "dict"],W.kitOne K (.type t) (.type n)=some (t==n||(n == "int" && t == "bool")))(A:ME K E te fe) :
  ME K E (zX (λB H Q=>∃x T t b,B=[x,.ty T]/\j0 K H x t/\W.kitOne K t (.type T)=some b/\Q (.bl b) H) (jm te (jm (tC (.ty n)) kD))) (jT n fe):=λF H I J Q s V q=>by
 refine A.run s V q λx v w j r D f=>?_;have d:∀b,Co n x=.ok (.bl b)->(∀i,x≠.scr i)->(∀C fs,x≠.obj C fs)->(∀h,x≠.dic h)->b=(EL x==n||(n == "int" && EL x == "bool"))->∃g T t b,[v,L2.V.ty n]=[g,.ty T]/\j0 K j g t/\W.kitOne K t (.type T)=some b/\Q (.bl b) j:=by
  intro b e l m k u;rw[e]at f;refine⟨v,n,_,b,rfl,FV D r.fh l m k,?_,f _ w j r (.bl _)⟩;rw[u];refine y _ ?_;cases x with
  |scr i=>exact absurd rfl (l i)
  |obj C fs=>exact absurd rfl (m C fs)
  |dic h=>exact absurd rfl (k h)
  |_=>simp[EL]
 cases x with
 |scr i=>exact f.elim
 |obj C fs=>exact f.elim
 |dic h=>exact f.elim
 |non=>exact d _ rfl (λ_ z=>nomatch z) (λ_ _ z=>nomatch z) (λ_ z=>nomatch z) rfl
 |bl _=>exact d _ rfl (λ_ z=>nomatch z) (λ_ _ z=>nomatch z) (λ_ z=>nomatch z) rfl
 |int _=>exact d _ rfl (λ_ z=>nomatch z) (λ_ _ z=>nomatch z) (λ_ z=>nomatch z) rfl
 |str _=>exact d _ rfl (λ_ z=>nomatch z) (λ_ _ z=>nomatch z) (λ_ z=>nomatch z) rfl
 |tup _=>exact d _ rfl (λ_ z=>nomatch z) (λ_ _ z=>nomatch z) (λ_ z=>nomatch z) rfl
 |lst _=>exact d _ rfl (λ_ z=>nomatch z) (λ_ _ z=>nomatch z) (λ_ z=>nomatch z) rfl
 |emp=>exact d _ rfl (λ_ z=>nomatch z) (λ_ _ z=>nomatch z) (λ_ z=>nomatch z) rfl
def Aw K:∀n∈["int", "bool", "str", "tuple", "list"],∀t∈["NoneType", "bool", "int", "str", "tuple", "list", "dict"],W.kitOne K (.type t) (.type n)=some (t==n||(n == "int" && t == "bool")):=by intro n d t f;simp only[aF,List.mem_nil_iff,or_false]at d f;rcases d with rfl|rfl|rfl|rfl|rfl<;>rcases f with rfl|rfl|rfl|rfl|rfl|rfl|rfl<;>rfl
def gL n (j:n∈["int", "bool", "str", "tuple", "list"]) (i:X.mg "isinstance" = none) (k:X.mg x=none) (l:bootBuiltins x=some (.type n)) (s:Pm K E X e te fe) (v:X.K=K:=by rfl) (f:Gl X "isinstance" :=by rfl) (d:Gl X x:=by rfl)
  (m:x≠ "__name__" :=by decide) (q:(x==("__debug__" : Str))=false:=by decide)
  (r:starEach [e,.Name x p3] X.env=(false,eval e X.env)::starEach [.Name x p3] X.env:=by rfl) (h:starEach [.Name x p3] X.env=(false,eval (.Name x p3) X.env)::starEach [] X.env:=by rfl) (g:(backTo pos (starEach [.Name x p3] X.env)).any (·.1)=false:=by rfl) :
  Pm K E X (.Call (.Name "isinstance" p) [e,.Name x p3] [] pos) (zX (λu H Q=>∃x T t b,u=[x,.ty T]/\j0 K H x t/\W.kitOne K t (.type T)=some b/\Q (.bl b) H) (jm te (jm (tC (.ty n)) kD))) (jT n fe):=by
 subst v;exact⟨rV yz f i CK (jG s.pe (jG (Aa d k l rfl m q) my h) r) (by decide) (by decide) r g,Dp (Aw X.K n j) s.me⟩
@[simp] noncomputable def fV:T->T->M T
 |.lst ts,.int i=>match lP ts i with
  |some t=>.ok t
  |none=>.bad
 |.tup ts,.int i=>match lP ts i with
  |some t=>.ok t
  |none=>.bad
 |.scr ns,.int i=>match lP ns i with
  |some t=>.ok (.int t)
  |none=>.bad
 |.str z,.int i=>if z.length<=sizeLine then (match lP z.cps.toList i with
  |some c=>.ok (.str ⟨#[c]⟩)
  |none=>.bad) else .bad
 |_,_=>.bad
def uv(r:dG K F vs ts)(h:lP ts i=some t):∃v,lP vs i=some v/\gN K F v t:=by
 unfold lP at h ⊢;rw[r.length];cases e:qW ts.length i with
 |none=>rw[e]at h;cases h
 |some j=>rw[e]at h;exact r.get h
def mX(f:α->β) l i:lP (l.map f) i=(lP l i).map f:=by
 unfold lP;rw[aw];cases qW l.length i with
 |none=>rfl
 |some j=>simp
def Ef x y:M.NoE (fV x y):=λC n=>by unfold fV;split<;>first|(intro z;cases z;done)|(split<;>first|(intro z;cases z;done)|(split<;>intro z<;>cases z))
def FK:MR K (G6 K) fV:=⟨Ef,λF H v w x y Q s f d q=>by
 unfold fV at q;split at q
 .rename_i m i;rw[d.int_inv];obtain⟨a,g,rfl,h,r⟩:=f.lst_inv;split at q
  .rename_i t e;obtain⟨v,j,k⟩:=uv r e;exact .inl ⟨a,g,i,v,rfl,rfl,iC.of (s _ _ h),j,kV.now q s k⟩
  .exact q.elim
 .rename_i m i;rw[d.int_inv];obtain⟨a,g,rfl,h,r⟩:=f.tup_inv;split at q
  .rename_i t e;obtain⟨v,j,k⟩:=uv r e;exact .inr (.inl ⟨a,g,i,v,rfl,rfl,i5.of (s _ _ h),j,kV.now q s k⟩)
  .exact q.elim
 .rename_i n i;rw[d.int_inv];cases f with
  |scr h=>
   split at q
   .rename_i t e;exact .inl ⟨_,_,i,.int t,rfl,rfl,s.seq h,by rw[mX,e];rfl,kV.now q s (.int _)⟩
   .exact q.elim
 .rename_i z i;rw[d.int_inv];cases f with
  |str z=>
   split at q
   .rename_i l;split at q
    .rename_i c e;exact .inr (.inr ⟨z,i,c,rfl,rfl,l,e,kV.now q s (.str _)⟩)
    .exact q.elim
   .exact q.elim
 .exact q.elim⟩
def yN(f:Pm K E X a ta fa)(d:Pm K E X b tb fb)(h:mY b:=by intro _ _;rfl)(g:X.K=K:=by rfl):Pm K E X (.Subscript a b pos) (mB (G6 K) ta tb) (de fV fa fb):=⟨xg (g▸EC) f.pe d.pe h,q0 FK f.me d.me⟩
def xU:Gz K E X none uw (λ_=>.ok none):=⟨AH,λF H d f Q s V q=>q F H (.refl s)⟩
@[simp] noncomputable def gO(fe:Pe->M T):Pe->M (Option Int):=λd=>(fe d).bind λx=>match x with
 |.int i=>.ok (some i)
 |_=>.bad
def yj(h:Pm K E X e te fe):Gz K E X (some e) (BQ te) (gO fe):=⟨AS h.pe,λF H l m Q s V q=>by
 refine h.me.run s V q λx v g j f k d=>?_;cases k with
 |int i=>exact⟨i,rfl,d g j f⟩
 |_=>exact d.elim⟩
noncomputable def iU{f:Type}(d:List f)(g h:Oq Int):List f:=(d.drop (HT.sIx d.length 0 g)).take (HT.sIx d.length d.length h-HT.sIx d.length 0 g)
def Eh xs lo hi:y0 xs lo hi=iU xs lo hi:=rfl
def dG.cut(r:dG K F vs ts) lo hi:dG K F (iU vs lo hi) (iU ts lo hi):=by unfold iU;rw[r.length];exact (r.drop _).take _
def zk(f:α->β) l lo hi:iU (l.map f) lo hi=(iU l lo hi).map f:=by unfold iU;rw[aw,cC,List.map_drop]
section
variable {lo hi:Oq Expr}{tl th:TO}{fl fh:Pe->M (Option Int)}
def MO.run{k:Oq Int->M α}{P:α->Prop}(h:MO K E t f)(s:dH F H)(v:hI K F σ ρ)(r:((f ρ).bind k).res P (kE E F H))
  (j:∀x i d,Gr F H i d->(k x).res P (kE E i d)->Q x d):t σ H Q:=
 h F H σ ρ Q s v ((M.res.unb r).mono (λx q i d g=>j x i d g (q.mono (λ_ z=>z) λ_ _ z=>z.go g)) λ_ _ z=>z)
@[simp] noncomputable def jS(fe:Pe->M T)(fl fh:Pe->M (Option Int)):Pe->M T:=λd=>(fe d).bind λx=>(fl d).bind λl=>(fh d).bind λh=>match x with
 |.tup ts=>.ok (.tup (iU ts l h))
 |.lst ts=>.ok (.lst (iU ts l h))
 |.scr ns=>.ok (.lst ((iU ns l h).map T.int))
 |_=>.bad
def rD(w:Pm K E X e te fe)(z:Gz K E X lo tl fl)(A:Gz K E X hi th fh)(D:X.K=K:=by rfl):Pm K E X (.Subscript e (.Slice lo hi none p2) pos) (Hq (λx lo hi H Q=>Ft K x lo hi H Q\/(F8 K x lo hi H Q\/E5 K x lo hi H Q)) te tl th) (jS fe fl fh):=by
 subst D;refine⟨zA (A8.or (Cj.or A5)) w.pe z.po A.po,λF H Y Z Q s V q=>?_⟩;refine w.me.run s V q λx v N U k L J=>?_;refine z.mo.run k.fh (V.mono k.ff) J λl P S j C=>?_;refine A.mo.run j.fh ((V.mono k.ff).mono j.ff) C λu t y d m=>?_;have g:=(k.trans j).trans d;have B:=L.mono (j.ff.trans d.ff);cases B with
 |lst h r=>exact .inl ⟨_,_,rfl,iC.of (d.fh _ _ h),λp i=>m (.ref p) _ _ (g.trans (.new d.fh i)) (.lst du ((r.cut l u).mono (Gr.new d.fh i).ff))⟩
 |scr h=>exact .inl ⟨_,_,rfl,d.fh.seq h,λp i=>m (.ref p) _ _ (g.trans (.new d.fh i)) (.lst du (by rw[Eh,zk];exact dG.of_ints _))⟩
 |tup h r=>
  rename_i a R f;have n:(M.ok (T.tup (iU f l u))).res (kV X.K F H Q) (kE E t y):=m;by_cases hw:HT.sIx f.length 0 l=0/\HT.sIx f.length f.length u=f.length
  .have I:iU f l u=f:=by unfold iU;rw[hw.1,hw.2];simp
   rw[I]at n;exact .inr (.inr ⟨_,_,rfl,i5.of (d.fh _ _ h),by rw[r.length];exact hw,n _ t y g (.tup h r)⟩)
  .exact .inr (.inl ⟨_,_,rfl,i5.of (d.fh _ _ h),by rw[r.length];exact hw,λp i=>n (.ref p) _ _ (g.trans (.new d.fh i)) (.tup du ((r.cut l u).mono (Gr.new d.fh i).ff))⟩)
 |_=>exact m.elim
end
section
variable {x:Str}{k:Nat}{Fn:List T->M T}{Ff:List T->M (List T)}
def jk(h:ib X.prog X.w X.K X.mg X.base x j (oJ K Fn))(hr:fw k X.A)(g:uQ K E X (e::es) tr fr)(l:j<=k:=by decide)(i:Gl X x:=by rfl)
  (f:(x==("__debug__" : Str))=false:=by decide) (m:starEach (e::es) X.env=(false,eval e X.env)::starEach es X.env:=by rfl) (d:(backTo pos (starEach es X.env)).any (·.1)=false:=by rfl) :
  Pm K E X (.Call (.Name x p) (e::es) [] pos) (pN (oJ K Fn) [] E0 tr) (cZ fr Fn):=⟨r9 (h.mono l) hr g.pa i f m d,xa g.ma⟩
def AF(h:ib X.prog X.w X.K X.mg X.base x j (sN K Ff))(hr:fw k X.A)(g:uQ K E X (e::es) tr fr)(l:j<=k:=by decide)(i:Gl X x:=by rfl)
  (f:(x==("__debug__" : Str))=false:=by decide) (m:starEach (e::es) X.env=(false,eval e X.env)::starEach es X.env:=by rfl) (d:(backTo pos (starEach es X.env)).any (·.1)=false:=by rfl) :
  wJ K E X (.Call (.Name x p) (e::es) [] pos) (pN (sN K Ff) [] E0 tr) (n9 fr Ff):=⟨r9 (h.mono l) hr g.pa i f m d,xA g.ma⟩
end
def E6(K:W.Frag)(t:TE):TI:=λd H R=>yh K t d H R\/ED K t d H R
@[simp] noncomputable def eW(fa:Pe->M T):Pe->M (List T):=λd=>(fa d).bind λx=>match x with
 |.lst ts=>.ok ts
 |.scr ns=>.ok (ns.map T.int)
 |.tup ts=>.ok ts
 |_=>.bad
def DQ(f:ME K E ta fa):MI K E (E6 K ta) (eW fa):=λF H g d R s V q=>by
 unfold eW at q;cases e:fa d with
 |bad=>rw[e]at q;exact q.elim
 |er C n=>rw[e]at q;exact .inl (qA f F H g d R s V (by unfold GA;rw[e];exact q))
 |ok x=>
  rw[e]at q;cases x with
  |lst ts=>exact .inl (qA f F H g d R s V (by unfold GA;rw[e];exact q))
  |scr ns=>exact .inl (qA f F H g d R s V (by unfold GA;rw[e];exact q))
  |tup ts=>exact .inr (Dk f F H g d R s V (by unfold Hn;rw[e];exact q))
  |_=>exact q.elim
def eI(d:Pm K E X a ta fa)(i:X.K=K:=by rfl):Ak K E X tg a (E6 K ta) (eW fa):=by
 subst i;refine⟨λf s g H R I h=>?_,DQ d.me⟩;rcases h with h|h
 .exact zN d.pe f s g H R I h
 .exact DL d.pe f s g H R I h
def BM(K:W.Frag)(ta:TA):TI:=λf H R=>∃d g,C8 K d g ta f H R
@[simp] noncomputable def seqT:T->M (List T)
 |.lst ts=>.ok ts
 |.scr ns=>.ok (ns.map T.int)
 |.tup ts=>.ok ts
 |_=>.bad
@[simp] noncomputable def qL(fa:Pe->M (List T)):Pe->M (List T):=λf=>(fa f).bind λh=>match h with
 |[x,y]=>(seqT x).bind λd=>(seqT y).bind λg=>.ok (qD d g)
 |_=>.bad
noncomputable def mK:T->Bool
 |.tup _=>true
 |_=>false
def xi x:seqT x=seqB (mK x) x:=by cases x<;>rfl
def zH(g:MA K E tr fr):MI K E (BM K tr) (qL fr):=λF H h d R s V q=>by
 unfold qL at q;cases e:fr d with
 |bad=>rw[e]at q;exact q.elim
 |er C n=>rw[e]at q;exact⟨true,true,w9 g F H h d R s V (by unfold C5;rw[e];exact q)⟩
 |ok xs=>
  rw[e]at q;match xs,e,q with
  |[],_,q=>exact q.elim
  |[_],_,q=>exact q.elim
  |[x,y],e,q=>refine⟨mK x,mK y,w9 g F H h d R s V ?_⟩;unfold C5;rw[e];have f:((seqT x).bind λi=>(seqT y).bind λj=>M.ok (qD i j)).res (kI K F H R) (kE E F H):=q;rw[xi x,xi y]at f;exact f
  |_::_::_::_,_,q=>exact q.elim
def vB{x1}(j:X.mg "zip" = none)(f:uQ K E X [a,b] tr fr)(i:X.K=K:=by rfl)(g:Gl X "zip" :=by rfl)(k:starEach [a,b] X.env=[(false,eval a X.env),(false,eval b X.env)]:=by rfl)
  (d:starEach [b] X.env=[(false,eval b X.env)]:=by rfl):Ak K E X (.Tuple elts x1 tpos) (.Call (.Name "zip" p) [a,b] [] pos) (BM K tr) (qL fr):=by
 subst i;refine⟨λl s m H R I h=>?_,zH f.ma⟩;obtain⟨n,q,h⟩:=h;exact Cf g j f.pa k d l s m H R I h
def il(h:X.mg "range" = none)(d:uQ K E X [a] tr fr)(g:Gl X "range" :=by rfl)(f:starEach [a] X.env=[(false,eval a X.env)]:=by rfl):sA K E X tg (.Call (.Name "range" p) [a] [] pos) (xm tr) (iz fr):=⟨wz g h d.pa f,Bt d.ma⟩
def sA.pim(h:sA K E X tg it w f):Ak K E X tg it w f:=⟨h.pi,h.mi.mi⟩
section
variable {x:Str}{g:TG}{gs:BO}{m:T->Pe->Option Pe}{ms:List T->Pe->Option Pe}{mo:T->En->Option En}{mos:List T->En->Option En}{n:Nat}
def fv i (f:X.N.Nodup) (d:wL X.env.scope x:=by first|exact Or.inl rfl|exact Or.inr rfl) (h:X.N[i]? = some x:=by rfl) (j:X.fn x=true\/X.env.scope.names.lookup x=some .local:=by first|exact .inl rfl|exact .inr rfl|assumption):EI K X (.Name x pos) (f6 i) (gR i):=⟨vj f h d j,Bh⟩
def jE i (f:X.N.Nodup) (d:wL X.env.scope x:=by first|exact Or.inl rfl|exact Or.inr rfl) (h:X.N[i]? = some x:=by rfl) (j:X.fn x=true\/X.env.scope.names.lookup x=some .local:=by first|exact .inl rfl|exact .inr rfl|assumption):G8 K X (.Name x pos) (f6 i) (pI i):=⟨vj f h d j,xI⟩
def qX:A4 K X [] Ar v7:=⟨BA,AD⟩
def kq(d:EI K X e g m)(f:A4 K X es gs ms)(h:(assignEach (e::es) X.env).map (·.2)=assign e X.env::(assignEach es X.env).map (·.2):=by rfl):A4 K X (e::es) (sq g gs) (kK m ms):=⟨xD d.pg f.pg h,yx d.mg f.mg⟩
def xR n (j:X.calm=true) (h:A4 K X es gs ms) (i:X.K=K:=by rfl) (f:(assignEach es X.env).length=n:=by rfl) (d:(assignEach es X.env).findIdx? (·.1)=none:=by rfl):EI K X (.Tuple es k pos) (By K n gs) (wG n ms):=by subst i;exact⟨Ek j h.pg f d,DI h.mg⟩
end
section
variable {elt iter:Expr}{ifs:List Expr}{scope:Scope}{N:List Str}{ix:List (Option Nat)}{wi:TI}{g:TG}{tt:TT}{fi:Pe->M (List T)}{m:T->Pe->Option Pe}{ft:Pe->M Bool}
def dP:x8 K E X [] Es (λ_=>.ok true):=⟨Bq,Ci⟩
def nt(h:sM K E X c t f):x8 K E X [c] t f:=⟨zS h.pt,h.mt⟩
@[simp] noncomputable def gG(ix:List (Option Nat))(fi:Pe->M (List T))(m:T->Pe->Option Pe)(ft:Pe->M Bool)(fe:Pe->M T):Pe->M (List T):=λf=>(fi f).bind λd=>(if d.length<sizeLine then jZ (lN m ft fe (jh ix f)) d else .bad).noEr
def Fv(n:X.calm=true)(k:Ak K E X tg iter wi fi)(L:sI X scope N ix)(j:jJ ix g)
  (f:∀C d H h i,EI K (iJ X N scope C d H h i) tg g m/\x8 K zE (iJ X N scope C d H h i) ifs tt ft/\Pm K zE (iJ X N scope C d H h i) elt te fe)
  (l:∀x,foldedSetIterable iter X.env x=pure x:=by intro _;rfl):wJ K E X (.ListComp elt [⟨tg,iter,ifs,0⟩] scope pos) (zw ix wi g tt te) (gG ix fi m ft fe):=by
 obtain⟨q,s,r⟩:=f 0 X.s₀ X.H₀ [] [];exact⟨F6 n k.pi L j (λC d H h i=>⟨(f C d H h i).1.pg,(f C d H h i).2.1.pf,(f C d H h i).2.2.pe⟩) l,BL k.mi q.mg s.mt r.me⟩
end
end
end L3
namespace L3
open PySem L2 PySem.Spec PyProof.Rows
section
variable {K:W.Frag}{E:XK}{X:Cx}{a b c e o tg it:Expr}{es:List Expr}{ta tb tc te to:TE}{fa fb fc fe fo:Pe->M T}{tr:TA}{fr:Pe->M (List T)}{pos pos' p p2 apos:Pos}{st:Stmt}{iO:List Stmt}{t u:TS}{g g':En->O}{ff:Pe->M (List T)}{x:Str}
def dy:kS K E X [] zr ek:=⟨AQ,A0⟩
def c7(h:qr K E X st t g):kS K E X [st] t g:=⟨uD h.ps,h.ms⟩
def cW(h:qr K E X st t g)(d:kS K E X iO u g'):kS K E X (st::iO) (zM t u) (dA g g'):=⟨rG h.ps d.ps,Dq h.ms d.ms⟩
def ij:qr K E X st ua (λ_=>.bad):=⟨xx,xF⟩
def dS(h:Pm K E X e te fe):qr K E X (.Return (some e) pos) (tm te) (eg fe):=⟨tR h.pe,CT h.me⟩
def rl(h:wJ K E X e te ff):qr K E X (.Return (some e) pos) (tm te) (sC ff):=⟨tR h.pe,AB h.mf⟩
def yT i (h:PE X (.Name x p) (kC i)):qr K E X (.Return (some (.Name x p)) pos) (tm (kC i)) (m7 i):=⟨tR h,vI⟩
def d8{tc:TT}{fc:Pe->M Bool}(f:sM K E X c tc fc)(h:kS K E X A t g)(d:kS K E X B u g'):qr K E X (.If c A B pos) (CD tc t u) (iW fc g g'):=⟨Fu f.pt h.ps d.ps,E4 f.mt h.ms d.ms⟩
def sZ{tc:TT}{fc:Pe->M Bool}(d:En->Nat)(i:PassesOwn (model X.prog X.w) X.A X.env X.xe)(f:sM K E X c tc fc)(h:kS K E X A t g):qr K E X (.While c A [] pos) (tz tc t) (λρ=>ie fc g (d ρ) ρ):=⟨yP i f.pt h.ps,yL d f.mt h.ms⟩
section
variable {w:TI}{fi:Pe->M (List T)}{gt:TG}{m:T->En->Option En}{A:List Stmt}
def qu(k:PassesOwn (model X.prog X.w) X.A X.env X.xe)(j:X.calm=true)(h:Ak K E X tg it w fi)(f:G8 K X tg gt m)(d:kS K E X A t g)(i:∀x,foldedSetIterable it X.env x=pure x:=by intro _;rfl):qr K E X (.For tg it A [] pos) (xN w gt t) (tE fi m g):=⟨yK k j h.pi f.pg d.ps i,Do h.mi f.mg d.ms⟩
def jA(k:PassesOwn (model X.prog X.w) X.A X.env X.xe)(j:X.calm=true)(h:sA K E X tg it w fi)(f:G8 K X tg gt m)(d:kS K E X A t g)(i:∀x,foldedSetIterable it X.env x=pure x:=by intro _;rfl):qr K E X (.For tg it A [] pos) (xN w gt t) (kP fi m g):=⟨yK k j h.pi f.pg d.ps i,zZ h.mi f.mg d.ms⟩
end
def CJ i (v:X.N.Nodup) (r:wL X.env.scope x)
  (B:X.calm=true) (n:Ak K E X tg iter wi fi) (L:sI X scope N ix) (k:jJ ix gt)
  (f:∀C d H h j,EI K (iJ X N scope C d H h j) tg gt m/\x8 K zE (iJ X N scope C d H h j) ifs tt ft/\Pm K zE (iJ X N scope C d H h j) elt te fe)
  (w:MF K E (zw ix wi gt tt te) (gG ix fi m ft fe)->MS K E (j5 (zw ix wi gt tt te) (f6 i)) gm)
  (q:X.N[i]? = some x:=by rfl) (D:X.fn x=true\/X.env.scope.names.lookup x=some .local:=by first|exact .inl rfl|exact .inr rfl)
  (l:swapsWith (.ListComp elt [⟨tg,iter,ifs,0⟩] scope pos) (some (.Name x py)) spos.line X.env=pure true:=by rfl)
  (y:∀x,foldedSetIterable iter X.env x=pure x:=by intro _;rfl):qr K E X (.Assign [.Name x py] (.ListComp elt [⟨tg,iter,ifs,0⟩] scope pos) spos) (j5 (zw ix wi gt tt te) (f6 i)) gm:=by
 obtain⟨s,A,z⟩:=f 0 X.s₀ X.H₀ [] [];exact⟨wZ v q r B n.pi L k (λC d H h j=>⟨(f C d H h j).1.pg,(f C d H h j).2.1.pf,(f C d H h j).2.2.pe⟩) D l y,w (BL n.mi s.mg A.mt z.me)⟩
def ey i (l:X.N.Nodup) (h:Pm K E X e te fe) (d:wL X.env.scope x:=by first|exact Or.inl rfl|exact Or.inr rfl) (k:X.N[i]? = some x:=by rfl) (j:swapsWith e (some (.Name x pos')) pos.line X.env=pure false:=by rfl) (f:X.fn x=true\/X.env.scope.names.lookup x=some .local:=by first|exact .inl rfl|exact .inr rfl|assumption) :
  qr K E X (.Assign [.Name x pos'] e pos) (j5 te (f6 i)) (setO i (gh fe)):=⟨t7 l k d h.pe j f,uu h.me⟩
def rO i (l:X.N.Nodup) (h:Pm K E X e te fe) (d:wL X.env.scope x:=by first|exact Or.inl rfl|exact Or.inr rfl) (k:X.N[i]? = some x:=by rfl) (j:swapsWith e (some (.Name x pos')) pos.line X.env=pure false:=by rfl) (f:X.fn x=true\/X.env.scope.names.lookup x=some .local:=by first|exact .inl rfl|exact .inr rfl|assumption) :
  qr K E X (.Assign [.Name x pos'] e pos) (j5 te (f6 i)) (setO i (qt fe)):=⟨t7 l k d h.pe j f,zR h.me⟩
def rP i (l:X.N.Nodup) (h:wJ K E X e te ff) (d:wL X.env.scope x:=by first|exact Or.inl rfl|exact Or.inr rfl) (k:X.N[i]? = some x:=by rfl) (j:swapsWith e (some (.Name x pos')) pos.line X.env=pure false:=by rfl) (f:X.fn x=true\/X.env.scope.names.lookup x=some .local:=by first|exact .inl rfl|exact .inr rfl|assumption) :
  qr K E X (.Assign [.Name x pos'] e pos) (j5 te (f6 i)) (mj i (oq ff)):=⟨t7 l k d h.pe j f,vk h.mf⟩
def r6(h:MF K E te ff):MS K E (j5 te (f6 i)) (setO i (gh λρ=>(ff ρ).bind λts=>.ok (.lst ts))):=uu h.me
@[simp] noncomputable def AV(i j:Nat)(fr:Pe->M (List T)):En->O:=λd=>.of (fr (iS d)) λf=>match f with
 |[x,y]=>.nx ((d.set i (some (.p x))).set j (some (.p y)))
 |_=>.bad
def Ez(h:MA K E tr fr):MS K E (DF i j tr) (AV i j fr):=λB y F H s v D r q=>by
 refine h F H s (iS v) _ r.gr.fh r.vars ((O.res_of q).mono (λA z w l k f d=>?_) λC n z=>z.go r.gr);have m:=r.grow f;cases d with
 |nil=>exact z.elim
 |cons h1 d=>
  cases d with
  |nil=>exact z.elim
  |cons h2 d=>
   cases d with
   |nil=>exact⟨_,_,rfl,z l k _ f.ff ((m.setP h1).setP h2)⟩
   |cons h3 d=>exact z.elim
def As{kt k2 pt2}(m:X.calm=true)(r:X.N.Nodup)(n:X.N[i]? = some x)(q:X.N[j]? = some y)(d:i≠j)
  (k:X.env.scope.names.lookup x=some .local) (h:X.env.scope.names.lookup y=some .local) (f:uQ K E X [a,b] tr fr)
  (hw:swappedStores [.Tuple [.Name x px,.Name y py] kt pt] (.Tuple [a,b] k2 pt2) X.env=pure (some [x,y]))
  (l:swapsWithSole [.Tuple [.Name x px,.Name y py] kt pt] (.Tuple [a,b] k2 pt2) pos.line X.env=pure false:=by rfl) :
  qr K E X (.Assign [.Tuple [.Name x px,.Name y py] kt pt] (.Tuple [a,b] k2 pt2) pos) (DF i j tr) (AV i j fr):=⟨CY m r n q d k h f.pa hw l,Ez f.ma⟩
def Ew(h:H l=some (.lst xs)):Fs K "list" (.ref l) H:=.inl ⟨rfl,_,iC.of h⟩
def rZ i (r:PE X (.Name x p) (kC i)) (n:Pm K E X e te fe) (m:starEach [e] X.env=(false,eval e X.env)::starEach [] X.env:=by rfl) (q:X.K=K:=by rfl)
  (d:attributeBase (.Name x p) "append" X.env (eval (.Name x p) X.env)=eval (.Name x p) X.env:=by rfl)
  (j:((backTo pos (starEach [e] X.env)).all (λx=>!x.1)&&(backToKw pos (keywordEach [] X.env)).all (λx=>x.1.isSome)&&decide (([e]:List Expr).length+([]:List Keyword).length+(if ([]:List Keyword).isEmpty then 0 else 1)<30))=true:=by rfl)
  (f:(apos.endLine==pos.line)=true:=by rfl) (hplain:(backTo pos (starEach [] X.env)).any (·.1)=false:=by rfl) (k:swapsWith (.Call (.Attribute (.Name x p) "append" apos) [e] [] pos) none pos'.line X.env=pure false:=by rfl) :
  qr K E X (.Expr (.Call (.Attribute (.Name x p) "append" apos) [e] [] pos) pos') (sJ (Gs K i te)) (uk i (gh fe)):=by
 subst q;exact⟨uN (uI PySem.F.plainAttrs_list PySem.F.slot_list_append PySem.F.type_list_append vS r (jG n.pe my m) d j f m hplain) k,Ba (λl s H h=>Ew h) n.me⟩
def z0 i (j:PE X (.Name x p) (kC i)) (d:Pm K E X b tb fb) (h:Pm K E X e te fe)
  (k:∀v,assign (.Subscript (.Name x p) b p2) X.env v=(do
   let ov <-holding [v] (eval (.Name x p) X.env)
   let iv <-holding [v,ov] (eval b X.env)
   standAt p2
   holding [v,ov,iv] (setItem ov iv v)
   release [v,ov,iv] []):=by intro _;rfl)
  (f:swapsWithSole [.Subscript (.Name x p) b p2] e pos.line X.env=pure false:=by rfl) (hw:swappedStores [.Subscript (.Name x p) b p2] e X.env=pure none:=by rfl)
  (l:(assignEach [.Subscript (.Name x p) b p2] X.env).map (·.2)=[assign (.Subscript (.Name x p) b p2) X.env]:=by rfl) :
  qr K E X (.Assign [.Subscript (.Name x p) b p2] e pos) (j5 te (Ds (kC i) tb uE)) (tZ i (qt fb) (qt fe)):=⟨DT h.pe (Cm j d.pe xo k) f hw l,Dh h.me d.me⟩
def zv(h:Pm K E X e te fe)(d:swapsWith e none pos.line X.env=pure false:=by rfl):qr K E X (.Expr e pos) (sJ te) (lF (gh fe)):=⟨uN h.pe d,zy h.me⟩
end
section
variable {P:Program}{w:World}{K:W.Frag}{mg:Str->Option Value}{base:Heap}{x:Str}{st:Stmt}{N ps:List Str}{k:Nat}{g:En->O}
def Hj(D:dg K mg x st)(S:fB N ps (c8 st))
  (d:∀(kV c m:Vq) (i:Oq Addr) (b e:Vq) (us:List Vq),us.length=ps.length->bindArgs (W.fnOf x x (fF st) (ed st) (c8 st) .none kV c m i b e) ⟨us,[]⟩=pure (ps.zip us))
  (l:∀(f:Addr) (b:Vq) (A:Around) (a:List Env) (s:Sq) (H:Hp) (E:XK),fw k (A.deeper (envOfC x (c8 st) s.heap.objs.size f b))->∃t,kS K E (j9 og P w K mg base N x (c8 st) f b A a s H E).nox (ed st) t g) :
  ib P w K mg base x (k+1) (oJ K (iB ps.length N.length g)):=
 uV D S d (λj H Q E h=>tM h) λf b A a s H j Q E hr h=>let ⟨t,hp⟩:=l f b A a s H E hr;⟨t,hp.ps,qc hp.ms h⟩
def GR(D:dg K mg x st)(S:fB N ps (c8 st))
  (d:∀(kV c m:Vq) (i:Oq Addr) (b e:Vq) (us:List Vq),us.length=ps.length->bindArgs (W.fnOf x x (fF st) (ed st) (c8 st) .none kV c m i b e) ⟨us,[]⟩=pure (ps.zip us))
  (l:∀(f:Addr) (b:Vq) (A:Around) (a:List Env) (s:Sq) (H:Hp) (E:XK),fw k (A.deeper (envOfC x (c8 st) s.heap.objs.size f b))->∃t,kS K E (j9 og P w K mg base N x (c8 st) f b A a s H E).nox (ed st) t g) :
  ib P w K mg base x (k+1) (sN K (wM ps.length N.length g)):=
 uV D S d (λj H Q E h=>vD h) λf b A a s H j Q E hr h=>let ⟨t,hp⟩:=l f b A a s H E hr;⟨t,hp.ps,si hp.ms h⟩
end
end L3
namespace L3
open PySem L2 PySem.Spec PyProof.Rows
section
variable {K:W.Frag}{E:XK}{X:Cx}{a b c e o tg it:Expr}{es:List Expr}{ta tb tc te to:TE}{fa fb fc fe fo:Pe->M T}{tr:TA}{fr:Pe->M (List T)}{pos p p2 apos:Pos}
@[simp] noncomputable def fu(f:Pe->M (List T)):Pe->M T:=λg=>(f g).bind λd=>.ok (.lst d)
def eJ(d:X.K=K:=by rfl):gF X (.builtin "len") (λf H Q=>∃x n,f=[x]/\Ed K x H n/\Q (.int n) H):=d▸xE
def vH(g:X.calm=true)(f:X.K=K:=by rfl):gF X (.builtin "sum") (λh H Q=>∃(p:Addr) (d:LI),h=[.ref p]/\iC K H p (d.map V.int)/\Q (.int d.sum) H):=f▸ze g
def iR(f:X.calm=true)(d:X.K=K:=by rfl):gF X (.builtin "all") (λg H Q=>∃(p:Addr) (bs:List Bool),g=[.ref p]/\iC K H p (bs.map V.bl)/\Q (.bl (bs.all id)) H):=d▸xp f
def pC(f:X.calm=true)(d:X.K=K:=by rfl):gF X (.builtin "any") (λg H Q=>∃p vs bs,g=[.ref p]/\(iC K H p vs\/i5 K H p vs)/\iu vs=some bs/\Q (.bl (bs.any id)) H):=d▸vK f
def eX(f:X.K=K:=by rfl):gF X (.type "tuple") (λg H Q=>∃p d,g=[.ref p]/\((iC K H p d/\∀l,H l=none->Q (.ref l) (fT H l (.tup d)))\/(i5 K H p d/\Q (.ref p) H))):=f▸oE
def kZ(f:X.K=K:=by rfl):gF X (.type "list") (λg H Q=>∃p d,g=[.ref p]/\(iC K H p d\/i5 K H p d)/\∀l,H l=none->Q (.ref l) (fT H l (.lst d))):=f▸pT
def EF:T->Option Bool
 |.bl b=>some b
 |.int i=>some (i != 0)
 |_=>none
def mE:List T->Option (List Bool)
 |[]=>some []
 |v::vs=>(EF v).bind λb=>(mE vs).bind λr=>some (b::r)
theorem qJ:∀{vs} {ts},dG K F vs ts->iu vs=mE ts
 |_,_,.nil=>rfl
 |v::vs,t::ts,.cons h r=>by
  have e:rB v=EF t:=by cases h<;>rfl
  rw[iu,mE,qJ r,e]
@[simp] theorem EJ ns:mE (ns.map T.bl)=some ns:=by
 induction ns with
 |nil=>rfl
 |cons n ns ih=>simp[mE,EF,ih]
@[simp] noncomputable def mI(ts:List T):M T:=match mE ts with
 |some bs=>.ok (.bl (bs.any id))
 |none=>.bad
@[simp] noncomputable def sX:List T->M T
 |[.lst ts]=>mI ts
 |[.tup ts]=>mI ts
 |_=>.bad
def zu ts:M.NoE (mI ts):=λC n=>by unfold mI;split<;>intro z<;>cases z
def Bz xs:M.NoE (sX xs):=λC n=>by unfold sX;split<;>first|exact zu _ C n|(intro z;cases z)
def zB:MC K (λf H Q=>∃p vs bs,f=[.ref p]/\(iC K H p vs\/i5 K H p vs)/\iu vs=some bs/\Q (.bl (bs.any id)) H) sX:=⟨Bz,λF H vs f Q s r q=>by
 cases r with
 |nil=>exact q.elim
 |cons h t=>
  cases t with
  |cons _ _=>cases h<;>exact q.elim
  |nil=>
   cases h with
   |lst h r=>
    rename_i a f g;have d:(mI g).res (kV K F H Q) (λ_ _=>False):=q;unfold mI at d;cases e:mE g with
    |none=>rw[e]at d;exact d.elim
    |some bs=>rw[e]at d;exact⟨a,f,bs,rfl,.inl (iC.of (s _ _ h)),by rw[qJ r];exact e,kV.now d s (.bl _)⟩
   |tup h r=>
    rename_i a f g;have d:(mI g).res (kV K F H Q) (λ_ _=>False):=q;unfold mI at d;cases e:mE g with
    |none=>rw[e]at d;exact d.elim
    |some bs=>rw[e]at d;exact⟨a,f,bs,rfl,.inr (i5.of (s _ _ h)),by rw[qJ r];exact e,kV.now d s (.bl _)⟩
   |_=>exact q.elim⟩
noncomputable def rM:T->T->M T
 |.tup a,.int k=>if wx k=true/\a.length*k.toNat<=sizeLine then .ok (.tup (List.replicate k.toNat a).flatten) else .bad
 |_,_=>.bad
def xZ x y:M.NoE (rM x y):=λC n=>by unfold rM;split<;>first|(split<;>intro z<;>cases z)|(intro z;cases z)
def Aq:MR K zi rM:=⟨xZ,λF H v w x y Q s l j q=>by
 cases l with
 |tup h r=>
  cases j with
  |int k=>
   rename_i a m f;have d:(if wx k=true/\f.length*k.toNat<=sizeLine then M.ok (T.tup (List.replicate k.toNat f).flatten) else M.bad).res (kV K F H Q) (λ_ _=>False):=q;by_cases g:wx k=true/\f.length*k.toNat<=sizeLine
   .rw[aQ g]at d;refine⟨a,k,m,rfl,rfl,s _ _ h,by have:=kh g.1;rw[F9]at this;rw[Gv];omega,by have:=kh g.1;rw[F9]at this;rw[Gv];omega,by rw[r.length];exact g.2,λz=>?_,λz p i=>?_⟩
    .have:(List.replicate k.toNat f).flatten=f:=by
      rcases z with z|z
      .subst z;cases r;simp
      .subst z;simp
     rw[this]at d;exact kV.now d s (.tup h r)
    .exact d (.ref p) _ _ (.new s i) (.tup du ((r.rep k.toNat).mono (Gr.new s i).ff))
   .rw[aR g]at d;exact d.elim
  |_=>exact q.elim
 |_=>exact q.elim⟩
@[simp] noncomputable def rj(fa fb:Pe->M T):Pe->M T:=de rM fa fb
def AX(f:Pm K E X a ta fa)(d:Pm K E X b tb fb):Pm K E X (.BinOp a .Mult b pos) (mB zi ta tb) (rj fa fb):=nM Ap Aq f d
end
structure Bs(mg:Str->Option Value):Prop where
 abs:mg "abs" = none
 isinstance:mg "isinstance" = none
 int:mg "int" = none
 bool:mg "bool" = none
 len:mg "len" = none
 range:mg "range" = none
 tuple:mg "tuple" = none
 list:mg "list" = none
 str:mg "str" = none
 all:mg "all" = none
 any:mg "any" = none
 sum:mg "sum" = none
 zip:mg "zip" = none
 max:mg "max" = none
 min:mg "min" = none
 enumerate:mg "enumerate" = none
 reversed:mg "reversed" = none
 set:mg "set" = none
 dict:mg "dict" = none
 sorted:mg "sorted" = none
def lE:bootBuiltins "list" = some (.type "list"):=by decide +kernel
def ia:bootBuiltins "str" = some (.type "str"):=by decide +kernel
end L3
namespace L3
open PySem L2
section
variable {α:Type}
theorem oS enc f:∀(l:List α),(∀a∈l,k (enc a)=.ok (some (f a)))->jZ k (l.map enc)=.ok (l.map f)
 |[],_=>rfl
 |a::l,h=>by rw[bw,jZ,h a (by simp),M.bind_ok,oS enc f l λb c=>h b (by simp[c])];rfl
theorem lI enc f p:∀(l:List α),(∀a∈l,k (enc a)=.ok (if p a then some (f a) else none))->jZ k (l.map enc)=.ok ((l.filter p).map f)
 |[],_=>rfl
 |a::l,h=>by
  rw[bw,jZ,h a (by simp),M.bind_ok,lI enc f p l λb d=>h b (by simp[d])];by_cases c:p a=true
  .simp[c]
  .simp[c]
theorem kv enc (P:Nat->En->Prop):∀(l:List α) (k:Nat) (ρ:En),P k ρ->
  (∀i a ρ,l[i]? = some a->P (k+i) ρ->∃d c,m (enc a) ρ=some d/\(g d=.nx c\/g d=.ct c)/\P (k+i+1) c)->∃ρ',hU m g (l.map enc) ρ=.nx ρ'/\P (k+l.length) ρ'
 |[],k,ρ,h,_=>⟨ρ,rfl,h⟩
 |a::l,k,ρ,h,st=>by
  obtain⟨d,c,n,f,p⟩:=st 0 a ρ rfl h;obtain⟨ρ',e,o⟩:=kv enc P l (k+1) c p λi b ρ j q=>by have:=st (i+1) b ρ (by simpa using j) (by rw[show k+(i+1)=k+1+i by omega];exact q);rw[show k+1+i+1=k+(i+1)+1 by omega];exact this
  refine⟨ρ',?_,by rw[az,show k+(l.length+1)=k+1+l.length by omega];exact o⟩;rw[bw,hU,n];rcases f with f|f<;>(dsimp only;rw[f];exact e)
theorem jx enc (P:En->Prop):∀(l:List α) (ρ:En),P ρ->
  (∀a∈l,∀ρ,P ρ->∃d c,m (enc a) ρ=some d/\(g d=.nx c\/g d=.ct c)/\P c)->∃ρ',hU m g (l.map enc) ρ=.nx ρ'/\P ρ'
 |[],ρ,h,_=>⟨ρ,rfl,h⟩
 |a::l,ρ,h,st=>by obtain⟨d,c,i,f,n⟩:=st a (by simp) ρ h;obtain⟨ρ',e,k⟩:=jx enc P l c n λb j ρ o=>st b (by simp[j]) ρ o;refine⟨ρ',?_,k⟩;rw[bw,hU,i];rcases f with f|f<;>(dsimp only;rw[f];exact e)
theorem jH(P:En->Prop)(b:En->Nat)(R:En->Prop)(st:∀ρ,P ρ->(c (vw ρ)=.ok false/\R ρ)\/(c (vw ρ)=.ok true/\∃a,(g ρ=.nx a\/g ρ=.ct a)/\P a/\b a<b ρ)) :
  ∀n ρ,P ρ->b ρ<n->∃ρ',ie c g n ρ=.nx ρ'/\R ρ'
 |0,ρ,_,h=>absurd h (Nat.not_lt_zero _)
 |n+1,ρ,hP,hn=>by
  rcases st ρ hP with⟨e,r⟩|⟨e,a,d,f,j⟩
  .exact⟨ρ,by rw[ie,e];rfl,r⟩
  .obtain⟨ρ',i,r⟩:=jH P b R st n a f (by omega);refine⟨ρ',?_,r⟩;rw[ie,e,O.of_ok,aQ rfl];rcases d with d|d<;>(rw[d];exact i)
end
def qG{c:Type}(l:List c) enc f (g:fi ρ=.ok (l.map enc)) (i:l.length<sizeLine)
  (j:∀a∈l,∃b,m (enc a) (jh ix ρ)=some b/\ft b=.ok true/\fe b=.ok (f a)):gG ix fi m ft fe ρ=.ok (l.map f):=by
 have h:=oS (k:=lN m ft fe (jh ix ρ)) enc f l λa n=>by obtain⟨b,d,o,e⟩:=j a n;unfold lN;rw[d];dsimp only;rw[o,M.bind_ok,aQ rfl,e];rfl
 unfold gG;rw[g,M.bind_ok,aw,aQ i,h];rfl
theorem uc{c:Type}(l:List c) enc f p (g:fi ρ=.ok (l.map enc)) (i:l.length<sizeLine)
  (j:∀a∈l,∃b,m (enc a) (jh ix ρ)=some b/\ft b=.ok (p a)/\(p a=true->fe b=.ok (f a))):gG ix fi m ft fe ρ=.ok ((l.filter p).map f):=by
 have h:=lI (k:=lN m ft fe (jh ix ρ)) enc f p l λa n=>by
  obtain⟨b,d,o,e⟩:=j a n;unfold lN;rw[d];dsimp only;rw[o,M.bind_ok];cases q:p a with
  |true=>rw[aQ rfl,aQ rfl,e q];rfl
  |false=>rw[aR aH,aR aH]
 unfold gG;rw[g,M.bind_ok,aw,aQ i,h];rfl
def fE{c:Type}(l:List c) enc f (d:fi ρ=.ok (l.map enc)) (e:l.length<sizeLine)
  (g:∀a∈l,∃b,m (enc a) (jh ix ρ)=some b/\ft b=.ok true/\fe b=.ok (f a)) (hr:l.map f=ts):gG ix fi m ft fe ρ=.ok ts:=by rw[<-hr];exact qG l enc f d e g
def zh{c:Type}(l:List c) enc f p (d:fi ρ=.ok (l.map enc)) (e:l.length<sizeLine)
  (g:∀a∈l,∃b,m (enc a) (jh ix ρ)=some b/\ft b=.ok (p a)/\(p a=true->fe b=.ok (f a))) (hr:(l.filter p).map f=ts):gG ix fi m ft fe ρ=.ok ts:=by rw[<-hr];exact uc l enc f p d e g
def Fc lo n:qo lo n=(List.range n).map λ(i:Nat)=>T.int (lo+(i:Int)):=rfl
noncomputable def tI(a:LI):T:=.tup (a.map T.int)
def fr(p:Int×Int):T:=.tup [.int p.1,.int p.2]
noncomputable def tS(s:List (Int×Int)):T:=.tup (s.map fr)
def t9(l:List α)(i:Int)(d:0<=i)(c:i<l.length):∃a,lP l i=some a/\a∈l:=by
 unfold lP qW;rw[aQ d,aQ c];have b:i.toNat<l.length:=by omega
 exact⟨l[i.toNat],by simp[b],aV _⟩
def kl(h:PySem.IntMulOk i j):hZ (.int i) (.int j)=.ok (.int (i*j)):=by simp[hZ,gD,h]
def lg(h:j≠0)(a:Builtin.divisionGoesByPylong i j=false):mJ (.int i) (.int j)=.ok (.int (i.fdiv j)):=by simp[mJ,gD,h,a]
def jj(h:j≠0):jY (.int i) (.int j)=.ok (.int (i.fmod j)):=by simp[jY,gD,h]
@[simp] theorem fg i j:eM (.int i) (.int j)=.ok (.int (i+j)):=rfl
@[simp] theorem ip i j:kU (.int i) (.int j)=.ok (.int (i-j)):=rfl
@[simp] theorem GP i j:Gj (.int i) (.int j)=.ok (.bl (decide (i<j))):=rfl
@[simp] theorem Gu i j:yg (.int i) (.int j)=.ok (.bl (decide (i<=j))):=rfl
@[simp] theorem Ah i j:CI (.int i) (.int j)=.ok (.bl (decide (j<i))):=rfl
@[simp] theorem Bo i j:Gm (.int i) (.int j)=.ok (.bl (decide (j<=i))):=rfl
@[simp] theorem gE i j:dz false (.int i) (.int j)=.ok (.bl (i==j)):=by simp[dz,ka,jl]
@[simp] theorem j6 i j:dz true (.int i) (.int j)=.ok (.bl (!(i==j))):=by simp[dz,ka,jl]
def vP(h:i.natAbs<2 ^ 64):PySem.IntMulOk i j:=IntMulOk.of_left (PyProof.Rows.intBits_le h)
def Bn(n:Nat)(x:Int):Prop:=x.natAbs<2 ^ n
def Bn.mono(h:Bn m x)(a:m<=n):Bn n x:=aE h (cD (by decide) a)
def Bn.add(h:Bn m x)(c:Bn n y):Bn (max m n+1) (x+y):=by have a:Bn (max m n) x:=h.mono (Nat.le_max_left _ _);have b:Bn (max m n) y:=c.mono (Nat.le_max_right _ _);unfold Bn at *;rw[Nat.pow_succ];have:=cE x y;omega
def Bn.ok(h:Bn m x)(b:Bn n y)(c:m<=2 ^ 20)(a:n<=2 ^ 20):PySem.IntMulOk x y:=IntMulOk.of_bits (aN (PyProof.Rows.intBits_le h) c) (aN (PyProof.Rows.intBits_le b) a)
def Bn.of_bits(h:Builtin.Int.intBits x<=n):Bn n x:=by
 unfold Builtin.Int.intBits at h;unfold Bn;by_cases a:x=0
 .subst a;exact Nat.two_pow_pos n
 .have b:(x==0)=false:=by simpa using a
  rw[b]at h;simp only[bR,if_false]at h;have:x.natAbs<2 ^ (x.natAbs.log2+1):=Nat.lt_log2_self;exact aE this (cD (by decide) h)
def Bn.noPy(h:Bn n y)(a:n<=8000):Builtin.divisionGoesByPylong x y=false:=Cu.noPy (PyProof.Rows.intBits_le h) a
section
variable {a b g:En->O}{ρ ρ':En}{r:O}{fc:Pe->M Bool}{f:Pe->M T}{ff:Pe->M (List T)}{t:T}{ts:List T}{k n i:Nat}
def cY(c:a ρ=.nx ρ')(d:b ρ'=r):dA a b ρ=r:=by unfold dA;rw[c];exact d
def jO(c:a ρ=.rt t)(hr:.rt t=r):dA a b ρ=r:=by unfold dA;rw[c];exact hr
def gI(h:fc (vw ρ)=.ok true)(c:a ρ=r):iW fc a b ρ=r:=by unfold iW;rw[h];exact c
def eh(h:fc (vw ρ)=.ok false)(c:b ρ=r):iW fc a b ρ=r:=by unfold iW;rw[h];exact c
def dC(h:f (iS ρ)=.ok t)(hr:ρ'=ρ.set i (some (.p t))):setO i (gh f) ρ=.nx ρ':=by unfold setO gh;rw[h,hr];rfl
def um(h:f (vw ρ)=.ok t)(c:lf t=true)(hr:ρ'=ρ.set i (some (.p t))):setO i (qt f) ρ=.nx ρ':=by unfold setO qt;rw[h,hr];simp[c]
def qK(h:ff (iS ρ)=.ok ts)(hr:ρ'=ρ.set i (some (.o ts))):mj i (oq ff) ρ=.nx ρ':=by unfold mj oq;rw[h,hr];rfl
def AE(h:ff (vw ρ)=.ok ts)(c:zG ts=true)(hr:ρ'=ρ.set i (some (.o ts))):mj i (xP ff) ρ=.nx ρ':=by unfold mj xP;rw[h,hr];simp[c]
def yq(d:ρ[i]? = some (some (.o us)))(h:f (iS ρ)=.ok t)(c:us.length<sizeLine)(hr:ρ'=ρ.set i (some (.o (us++[t])))):uk i (gh f) ρ=.nx ρ':=by unfold uk gh kR;rw[d,h,hr];simp[c]
def Cq(c:ρ[i]? = some (some (.o us)))(h:f (vw ρ)=.ok t)(e:lf t=true)(d:fk (vw ρ)=.ok (.int j))(l:qW us.length j=some m)(hr:ρ'=ρ.set i (some (.o (us.set m t)))):tZ i (qt fk) (qt f) ρ=.nx ρ':=by unfold tZ qt kR;rw[c,h,d,hr];simp[e,l]
def dF(h:f (vw ρ)=.ok t):eg f ρ=.rt t:=by unfold eg;rw[h];rfl
def AY(h:ff (vw ρ)=.ok ts):sC ff ρ=.rf ts:=by unfold sC;rw[h];rfl
def kj(h:f (iS ρ)=.ok t):lF (gh f) ρ=.nx ρ:=by unfold lF gh;rw[h];rfl
def ug(h:fi (iS ρ)=.ok its)(c:hU m g its ρ=r):tE fi m g ρ=r:=by unfold tE;rw[h];exact c
def jg(h:fi (vw ρ)=.ok its)(c:hU m g its ρ=r):kP fi m g ρ=r:=by unfold kP;rw[h];exact c
def dX(c:ts.length=k)(h:g (dW n ts)=.rt t):iB k n g ts=.ok t:=by unfold iB;rw[aQ c,h];rfl
def yM(c:ts.length=k)(h:g (dW n ts)=.rf us):wM k n g ts=.ok us:=by unfold wM;rw[aQ c,h];rfl
end
def E3 n:qo 0 n=(List.range n).map λ(i:Nat)=>T.int (i:Int):=by simp[qo]
theorem lA{c:Type} f:∀(l:List c),(∀a∈l,ka (f a)=true)->ll (l.map f)=true
 |[],_=>rfl
 |a::l,h=>by rw[bw,ll,h a (by simp),lA f l λb d=>h b (by simp[d])];rfl
theorem lx{c:Type} f n:∀(l:List c),(∀a∈l,rK (f a)<=n)->mP (l.map f)<=n
 |[],_=>bA _
 |a::l,h=>by rw[bw,wd];have g:=h a (by simp);have e:=lx f n l λb d=>h b (by simp[d]);omega
@[simp] theorem EN(a:LI):ll (a.map T.int)=true:=lA _ _ λ_ _=>rfl
def mw(a:LI):mP (a.map T.int)<=0:=lx _ _ _ λ_ _=>aK _
@[simp] theorem Ea ns:ka (tI ns)=true:=by simp[tI,ka]
@[simp] theorem Da p:ka (fr p)=true:=by simp[fr,ka,ll]
@[simp] theorem Ee s:ka (tS s)=true:=by unfold tS;rw[ka];exact lA _ _ λ_ _=>Da _
def B3 ns:rK (tI ns)<=1:=by unfold tI;rw[uZ];have:=mw ns;omega
def DO p:rK (fr p)<=1:=by simp[fr]
def CG s:rK (tS s)<=2:=by unfold tS;rw[uZ];have:=lx fr 1 s λ_ _=>DO _;omega
@[simp] theorem E9(l:LL):ll (l.map tI)=true:=lA _ _ λ_ _=>Ea _
def nU(l:LL):mP (l.map tI)<=1:=lx _ _ _ λ_ _=>B3 _
@[simp] theorem yy l:nI l []=l.isEmpty:=by cases l<;>rfl
theorem lO{d:Type} f (c:∀a b,vE (f a) (f b)=true↔a=b):∀(l m:List d),nI (l.map f) (m.map f)=true↔l=m
 |[],[]=>by simp[ki]
 |[],b::m=>⟨λz=>(nomatch (show false=true from z)),λz=>nomatch z⟩
 |a::l,[]=>by simp[ki]
 |a::l,b::m=>by rw[bw,bw,ki,bI,c a b,lO f c l m];simp
def l9(l m:LI):nI (l.map T.int) (m.map T.int)=decide (l=m):=by
 have h:=lO T.int (λa b=>by simp[jl]) l m;by_cases e:l=m
 .rw[aC e];exact h.mpr e
 .rw[aB e];cases c:nI (l.map T.int) (m.map T.int) with
  |false=>rfl
  |true=>exact absurd (h.mp c) e
def ng neg (l m:LI):dz neg (.tup (l.map T.int)) (.tup (m.map T.int))=.ok (.bl (if neg then !decide (l=m) else decide (l=m))):=by have h:=mw l;unfold dz;rw[aQ (by simp[ka];omega),jl,l9]
def Cg neg (l m:LI):dz neg (.lst (l.map T.int)) (.lst (m.map T.int))=.ok (.bl (if neg then !decide (l=m) else decide (l=m))):=by have h:=mw l;unfold dz;rw[aQ (by simp[ka];omega),p9,l9]
def uA neg ts (h:ll ts=true) (a:mP ts<=90):dz neg (.lst ts) (.lst [])=.ok (.bl (if neg then !ts.isEmpty else ts.isEmpty)):=by unfold dz;rw[aQ (by simp[ka,h,ll];omega),p9,yy]
def xS{a b:Type} f (g:b->T) (l:List a) m:qD (l.map f) (m.map g)=(l.zip m).map λp=>T.tup [f p.1,g p.2]:=by unfold qD;rw[List.zip_map,aI];rfl
theorem uJ{c:Type} f:∀(l:List c),(∀a∈l,lf (f a)=true)->zG (l.map f)=true
 |[],_=>rfl
 |a::l,h=>by rw[bw,zG,h a (by simp),uJ f l λb d=>h b (by simp[d])];rfl
@[simp] theorem x9(a:LI):zG (a.map T.int)=true:=uJ _ _ λ_ _=>rfl
@[simp] theorem Fm ns:lf (tI ns)=true:=by simp[tI]
section
variable {α:Type}{fe fd fl:Pe->M T}{ρ:Pe}{ts:List T}{d k:Nat}
def wB(l:List α)(d:Nat):iU l none (some (d:Int))=l.take d:=by
 unfold iU;rw[HT.sIx_none,HT.sIx_nat,List.drop_zero,Nat.sub_zero];by_cases h:d<=l.length
 .rw[Nat.min_eq_left h]
 .rw[Nat.min_eq_right (by omega),b5 (aK _),b5 (by omega)]
def vJ(l:List α)(d:Nat):iU l (some (d:Int)) none=l.drop d:=by
 unfold iU;rw[HT.sIx_none,HT.sIx_nat];by_cases h:d<=l.length
 .rw[Nat.min_eq_left h,b5 (by simp)]
 .rw[Nat.min_eq_right (by omega),cF (aK _),cF (by omega),List.take_nil]
def Dw n d:HT.sIx n d (some (-1))=n-1:=by unfold HT.sIx;dsimp only;rw[aQ (by decide)];omega
def vG(l:List α):iU l none (some (-1))=l.dropLast:=by unfold iU;rw[HT.sIx_none,Dw,List.drop_zero,Nat.sub_zero,List.dropLast_eq_take]
def rY(h:fe ρ=.ok (.tup ts))(a:fd ρ=.ok (.int (d:Int)))(b:d<=ts.length):jS fe (λ_=>.ok none) (gO fd) ρ=.ok (.tup (ts.take d)):=by simp only[jS,gO,h,a,M.bind_ok,wB]
def w5(h:fe ρ=.ok (.tup ts))(a:ts≠[]):jS fe (λ_=>.ok none) (gO (vN (λi=>.int (-i)) (cM (.int 1)))) ρ=.ok (.tup ts.dropLast):=by have e:gO (vN (λi=>.int (-i)) (cM (.int 1))) ρ=.ok (some (-1)):=rfl;simp only[jS,h,e,M.bind_ok,vG]
def vZ(h:fe ρ=.ok (.lst ts))(a:fd ρ=.ok (.int (d:Int))):jS fe (gO fd) (λ_=>.ok none) ρ=.ok (.lst (ts.drop d)):=by simp only[jS,gO,h,a,M.bind_ok,vJ]
def jf(h:lc ρ=.ok ts)(hr:o [.lst ts]=r):gq o (cT (fu lc) cX) ρ=r:=by simp only[gq,cT,cX,fu,h,M.bind_ok];exact hr
def jK(h:f ρ=.ok t)(hr:o [t]=r):gq o (cT f cX) ρ=r:=by simp only[gq,cT,cX,h,M.bind_ok];exact hr
def e7(h:lc ρ=.ok ts):fu lc ρ=.ok (.lst ts):=by simp only[fu,h,M.bind_ok]
def xJ(h:fe ρ=.ok (.tup ts)):eW fe ρ=.ok ts:=by simp only[eW,h,M.bind_ok]
def j2(h:fe ρ=.ok (.lst ts)):eW fe ρ=.ok ts:=by simp only[eW,h,M.bind_ok]
def dE(h:fe ρ=.ok (.bl b)):ei fe ρ=.ok b:=by simp only[ei,h,M.bind_ok]
def f9(h:fc ρ=.ok b)(hr:(!b)=r):L3.fQ fc ρ=.ok r:=by simp only[L3.fQ,h,M.bind_ok,hr]
def c6(b:fa ρ=.ok x)(a:fb ρ=.ok y)(hr:o x y=r):de o fa fb ρ=r:=by simp only[de,b,a,M.bind_ok];exact hr
def dU(h:f ρ=.ok x)(hr:F [x]=.ok t):cZ (cT f cX) F ρ=.ok t:=by simp only[cZ,cT,cX,h,hr,M.bind_ok];rfl
def gy(h:f ρ=.ok x)(a:g ρ=.ok y)(hr:F [x,y]=.ok t):cZ (cT f (cT g cX)) F ρ=.ok t:=by simp only[cZ,cT,cX,h,a,hr,M.bind_ok];rfl
def gQ{f g k:Pe->M T}(h:f ρ=.ok x)(b:g ρ=.ok y)(a:k ρ=.ok z)(hr:F [x,y,z]=.ok t):cZ (cT f (cT g (cT k cX))) F ρ=.ok t:=by simp only[cZ,cT,cX,h,b,a,hr,M.bind_ok];rfl
end
section
variable {ρ:Pe}{ts:List T}{F:List T->M (List T)}{f g k l:Pe->M T}{x y z u:T}
def CC(h:f ρ=.ok x)(c:g ρ=.ok y)(b:k ρ=.ok z)(a:l ρ=.ok u)(hr:F [x,y,z,u]=.ok ts):n9 (cT f (cT g (cT k (cT l cX)))) F ρ=.ok ts:=by simp only[n9,cT,cX,h,c,b,a,hr,M.bind_ok];rfl
end
def xH{a b:Type}{l:List a}{m:List b}{f:a->T}{g:b->T}(h:fa ρ=.ok x)(d:seqT x=.ok (l.map f))(e:fb ρ=.ok y)(c:seqT y=.ok (m.map g)) :
  qL (cT fa (cT fb cX)) ρ=.ok ((l.zip m).map λp=>T.tup [f p.1,g p.2]):=by
 rw[<-xS];simp only[qL,cT,cX,h,e,M.bind_ok,d,c]
end L3
namespace L3
open PySem L2 PySem.Spec PyProof.Rows
def zb(K:W.Frag):Sp:=λd H Q _=>∃(a:Addr) (b:LI),d=[.ref a]/\iC K H a (b.map V.int)/\b.length<=63/\(∀z∈b,Builtin.Int.intBits z<=2 ^ 20)/\∀c,Q (.bl true) c
def xl{K:W.Frag}(h:∀b:LI,b.length<=63->(∀z∈b,Builtin.Int.intBits z<=2 ^ 20)->F [.scr b]=.ok (.bl true)) vs H Q E (z:zb K vs H Q E):oJ K F vs H Q E:=by obtain⟨a,b,rfl,f,d,c,e⟩:=z;refine⟨[.scr b],H,.refl _,.cons (.scr f) .nil,?_⟩;rw[h b d c];intro v j i g r;cases r;exact e _
def GS{K:W.Frag}{st:Stmt}(F:zD K x x st f fd)(S:fB N ps (c8 st))
  (d:∀(f:Addr) (b:Vq) (A:Around) (a:List Env) (s:Sq) (H:Hp) (E:XK),fw k (A.deeper (envOfC x (c8 st) s.heap.objs.size f b))->∃t,kS K E (j9 og P w K mg base N x (c8 st) f b A a s H E).nox (ed st) t g) :
  iY P w K mg base og (k+1) f fd ps (oJ K (iB ps.length N.length g)):=
 F.ok S (λc H Q E h=>tM h) λb A a s H c Q E hr h=>let ⟨t,hp⟩:=d f b A a s H E hr;⟨t,hp.ps,qc hp.ms h⟩
def FA{l:W.OpenLaw}{q:Program}{k:Nat}{x:Str}{c:List Str}{p:(Str->Option Value)->Heap->Prop}{i:World->Heap->Prop}{d:DefRec}{K:Params->W.Frag}(o:l.most=some 63)(hr:fw k callerA)(g:d.params.defaults=[])
  (r:∀(w:World) (h:Heap),i w h->(K w.params).In h)
  (F:∀(w:World) (e:Str->Option Value) (fa:Addr) (h:Heap),(K w.params).In h->h.Ns mainGlobals e->e d.name=some (.ref fa)->
   ∃fd:FuncData,(∀(s:Sq) (u:Vq),BindsTo s fd ⟨[u],[]⟩ [(x,u)])/\∀b:Heap,(K w.params).In b->b.Ns mainGlobals e->iY l.prog w (K w.params) e b og k fa fd [x] (zb (K w.params))) :
  W.WalkO q c p i l.row.toRowW d [] (λf vs=>PySem.call f vs):=
 L2.wI o (by decide) g hr r F (λ_ _ a n m j _ t=>⟨a,n,rfl,t,m,j,λ_=>rfl⟩) λ_ _ _ _ z=>z
end L3
namespace L3
open PySem L2 PySem.Spec PyProof.Rows
section
variable {K:W.Frag}{E:XK}{t:TE}{f:Pe->M T}
def kO(K:W.Frag)(F H:Hp)(x:Addr)(Q:VK)(t:T):Prop:=∀b c,dH F b->dH b c->(∀a o,a≠x->H a=some o->wN o (c a))->(∀a,b a≠none->F a≠none\/H a=none\/a=x\/∃d,H a=some (.tup d))->gN K b (.ref x) t->Q .non c
noncomputable def rk(K:W.Frag)(C:Addr)(e:List T->M T):Sp:=λg H Q _=>∃x d c b a,g=.ref x::c/\H x=some (.ins C d [])/\a x=none/\dH a H/\dG K a c b/\(e b).noEr.res (kO K a H x Q) (λ_ _=>False)
def yc{fr:Pe->M (List T)}(R:MA K E tr fr):ME K E (vy C (rk K C Fn) [] E' tr) (cZ fr Fn):=λF H Z ρ Q s V q=>by
 refine R.run s V q λD P J w g X i=>?_;intro x l j A v;have B:fT w l (.own x) x=none:=by rw[dB (λz=>v z.symm)];exact j
 have m:dH w (fT (fT w l (.own x)) x (.ins C l [])):=(mv A).trans (mv B);refine⟨x,l,P,D,J,by rw[bB],du,dN g.fh j,g.fh.trans m,X,?_⟩;cases e:Fn D with
 |bad=>rw[e]at i;exact i.elim
 |er C n=>rw[e]at i;exact i.elim
 |ok t=>
  rw[e]at i;intro N I a b c d r;refine⟨rfl,i (.ref x) N I ⟨g.ff.trans a,b,λp o h=>?_,λp Y=>?_⟩ r⟩
  .have L:=g.hh p o h;have u:p≠x:=ly L j;exact BF (g.hh.trans m p o h) λS e=>c p S u e
  .rcases d p Y with z|z|z|⟨U,z⟩
   .exact g.nw p z
   .exact .inr (.inl (dN g.hh (dN m z)))
   .rw[z];exact .inr (.inl (dN g.hh j))
   .cases y:H p with
    |none=>exact .inr (.inl rfl)
    |some o=>exact .inr (.inr ⟨U,by have k:=g.hh.trans m p o y;rw[z]at k;rw[pH k λ_ _ y=>nomatch y]⟩)
noncomputable def ph(C:Addr)(n:Nat)(g h:Str)(d e:Pe->M T):List T->M T:=λc=>if c.length=n then (d (none::c.map some)).bind λa=>(e (none::c.map some)).bind λb=>.ok (.obj C [(g,a),(h,b)]) else .bad
structure Hg(K:W.Frag)(E:XK)(X:Cx)(body:List Stmt)(f1 f2:Str)(g1 g2:Pe->M T):Prop where
 ex:∃(t1 t2:TE),qZ X body (zM (C2 K (kC 0) t1 f1) (C2 K (kC 0) t2 f2))/\ME K E t1 g1/\ME K E t2 g2
def G2(h:X.K=K)(d:PE X o1 (kC 0))(e:Pm K E X a1 t1 g1)(c:PE X o2 (kC 0))(g:Pm K E X a2 t2 g2)
  (a:swapsWith a1 (some (.Attribute o1 f1 p1)) q1.line X.env=pure false:=by rfl) (b:swapsWith a2 (some (.Attribute o2 f2 p2)) q2.line X.env=pure false:=by rfl) :
  Hg K E X [.Assign [.Attribute o1 f1 p1] a1 q1,.Assign [.Attribute o2 f2 p2] a2 q2] f1 f2 g1 g2:=by
 subst h;exact⟨t1,t2,rG (zd d e.pe a) (uD (zd c g.pe b)),e.me,g.me⟩
theorem Cr{st:Stmt}(cl:oX K C)(n1:gY K C f1)(n2:gY K C f2)(ne:f1≠f2)(D:gS K C "__init__" qual st)(S:fB N N (c8 st))
  (mk:W.makesIn K C=true) (kp:W.keepIn K (.ref C)=true) (hm:mg x=some (.ref C)) (hN:N.length=n+1)
  (hb:∀(kV doc pm:Vq) (an:Oq Addr) (j ct:Vq) (us:List Vq),us.length=N.length->bindArgs (W.fnOf "__init__" qual (fF st) (ed st) (c8 st) .none kV doc pm an j ct) ⟨us,[]⟩=pure (N.zip us))
  (hT:∀(f:Addr) (j:Vq) (A:Around) (d:List Env) (s:Sq) (H:Hp) (E:XK),fw k (A.deeper (envOfC qual (c8 st) s.heap.objs.size f j))->Hg K E (j9 og P w K mg base N qual (c8 st) f j A d s H E).nox (ed st) f1 f2 g1 g2) :
  tG P w K mg base x C (k+1) (rk K C (ph C n f1 f2 g1 g2)):=by
 obtain⟨fi,fd,F,Mm⟩:=D.ex;refine⟨⟨fi,fd,N,F.ok S (λvs H Q E h=>?_) (λj A d s H vs Q E hr h=>?_),⟨mk,Mm.at_,Mm.fn,kp⟩,F.binds hb⟩,hm⟩
 .obtain⟨x,B,us,u,F0,rfl,Y,fx,s,r,q⟩:=h;unfold ph at q;by_cases J:u.length=n
  .rw[az,r.length,J,hN]
  .rw[aR J]at q;exact q.elim
 .obtain⟨x,B,us,u,F0,rfl,Y,fx,s0,r,q⟩:=h;obtain⟨t1,t2,ps,m1,m2⟩:=(hT fi j A d s H E hr).ex;refine⟨_,ps,?_⟩;unfold ph at q;by_cases J:u.length=n
  .rw[aQ J]at q;have V:hI K F0 (iy N (.ref x::us)) (none::u.map some):=λi t e=>by
    cases i with
    |zero=>cases e
    |succ i=>
     rw[List.getElem?_cons_succ,av]at e;cases hq:u[i]? with
     |none=>rw[hq]at e;cases e
     |some y=>rw[hq]at e;cases e;obtain⟨v,a,b⟩:=r.get hq;refine⟨v,?_,b⟩;unfold L2.iy;rw[List.getElem?_append_left (by rw[aw,az];exact Nat.succ_lt_succ (aa.mp a).1),av,List.getElem?_cons_succ,a];rfl
   cases R:g1 (none::u.map some) with
   |bad=>rw[R]at q;exact q.elim
   |er C n=>rw[R]at q;exact q.elim
   |ok a=>
    rw[R,L3.M.bind_ok]at q;cases U:g2 (none::u.map some) with
    |bad=>rw[U]at q;exact q.elim
    |er C n=>rw[U]at q;exact q.elim
    |ok b=>
     rw[U,L3.M.bind_ok]at q;refine m1 F0 H _ _ _ s0 V ?_;rw[R];intro v Z H1 c r1;have hx1:=c.hh _ _ Y;have L:Z x=none:=by
      cases z:Z x with
      |none=>rfl
      |some o=>
       rcases c.nw x (by rw[z];exact λy=>nomatch y) with y|y|⟨_,y⟩
       .exact absurd fx y
       .rw[Y]at y;cases y
       .rw[Y]at y;cases y
     refine⟨.ref x,rfl,x,C,B,[],rfl,hx1,cl,n1,by decide,?_⟩;have s1:dH Z (fT H1 x (.ins C B (jR f1 v []))):=λp o h=>by
      have l:p≠x:=λz=>by rw[z,L]at h;cases h
      rw[dB l];exact c.fh p o h
     refine m2 Z _ _ _ _ s1 (V.mono c.ff) ?_;rw[U];intro X I H3 g r2;have hx3:=g.hh x _ du;have fx2:I x=none:=by
      cases z:I x with
      |none=>rfl
      |some o=>
       rcases g.nw x (by rw[z];exact λy=>nomatch y) with y|y|⟨_,y⟩
       .exact absurd L y
       .rw[du]at y;cases y
       .rw[du]at y;cases y
     refine⟨.ref x,rfl,x,C,B,_,rfl,hx3,cl,n2,by show 1<1000;decide,?_⟩;have ep:jR f2 X (jR f1 v [])=[(f1,v),(f2,X)]:=by show (if f1=f2 then _ else _)=_;rw[aR ne];rfl
     have sF:dH I (fT I x (.ins C B [(f1,v),(f2,X)])):=mv fx2;refine q (fT I x (.ins C B [(f1,v),(f2,X)])) _ ((c.ff.trans g.ff).trans sF) (λp o h=>?_) (λp o l h=>?_) (λp l=>?_) (.obj du (.cons (r1.mono (g.ff.trans sF)) (.cons (r2.mono sF) .nil)))
     .by_cases l:p=x
      .subst l;rw[du]at h;rw[du,ep];exact .of h
      .rw[dB l]at h ⊢;exact g.fh p o h
     .rw[dB l];exact BF (c.hh p o h) λo' e=>g.hh p o' (by rw[dB l];exact e)
     .by_cases m:p=x
      .exact .inr (.inr (.inl m))
      .rw[dB m]at l;rcases g.nw p l with z|z|⟨xs,z⟩
       .rcases c.nw p z with y|y|y
        .exact .inl y
        .exact .inr (.inl y)
        .exact .inr (.inr (.inr y))
       .rw[dB m]at z;exact .inr (.inl (dN c.hh z))
       .rw[dB m]at z;cases y:H p with
        |none=>exact .inr (.inl rfl)
        |some o=>exact .inr (.inr (.inr ⟨xs,by have k:=c.hh p o y;rw[z]at k;rw[pH k λ_ _ y=>nomatch y]⟩))
  .rw[aR J]at q;exact q.elim
end
section
variable {X:Cx}{K:W.Frag}{E:XK}{x m:Str}{C:Addr}{k:Nat}{Fn:List T->M T}{Ff:List T->M (List T)}{e o:Expr}{es:List Expr}{tr:TA}{fr:Pe->M (List T)}{ta:TE}{fa:Pe->M T}{p pos apos:Pos}
def BS(h:tG X.prog X.w X.K X.mg X.base x C j (rk K C Fn))(hr:fw k X.A)(c:uQ K E X (e::es) tr fr)(f:j+1<=k:=by decide)(d:Gl X x:=by rfl)
  (b:(x==("__debug__" : Str))=false:=by decide) (g:starEach (e::es) X.env=(false,eval e X.env)::starEach es X.env:=by rfl) (a:(backTo pos (starEach es X.env)).any (·.1)=false:=by rfl) :
  Pm K E X (.Call (.Name x p) (e::es) [] pos) (vy C (rk K C Fn) [] E0 tr) (cZ fr Fn):=⟨Gf h (hr.mono f) c.pa d b g a,yc c.ma⟩
def wW(h:g9 X.prog X.w X.K X.mg X.base C m j (oJ K Fn))(hr:fw k X.A)(a:Pm K E X o ta fa)(b:j<=k:=by decide)
  (c:eval (.Call (.Attribute o m apos) [] [] pos) X.env=(do
   let ov <-eval o X.env
   standAt apos.atName
   let (f,first) <-holding [ov] (getMethod ov m pl)
   callWith pos f first (backTo pos (starEach [] X.env)) (backToKw pos (keywordEach [] X.env))):=by rfl) :
  Pm K E X (.Call (.Attribute o m apos) [] [] pos) (oQ C m (oJ K Fn) [] E0 ta kD) (oP C m fa cX Fn):=⟨xW h (hr.mono b) a.pe c,zx a.me tw⟩
def yn(h:g9 X.prog X.w X.K X.mg X.base C m j (sN K Ff))(hr:fw k X.A)(a:Pm K E X o ta fa)(b:j<=k:=by decide)
  (c:eval (.Call (.Attribute o m apos) [] [] pos) X.env=(do
   let ov <-eval o X.env
   standAt apos.atName
   let (f,first) <-holding [ov] (getMethod ov m pl)
   callWith pos f first (backTo pos (starEach [] X.env)) (backToKw pos (keywordEach [] X.env))):=by rfl) :
  wJ K E X (.Call (.Attribute o m apos) [] [] pos) (oQ C m (sN K Ff) [] E0 ta kD) (mx C m fa cX Ff):=⟨xW h (hr.mono b) a.pe c,zp a.me tw⟩
def xC(c:X.K=K)(d:oX K C)(a:gY K C f)(h:Pm K E X e ta fa)(b:attributeBase e f X.env (eval e X.env)=eval e X.env:=by rfl):Pm K E X (.Attribute e f pos) (C6 X.K ta f) (tX C f fa):=by subst c;exact⟨Eb h.pe b,Cy d a h.me⟩
end
section
variable {P:Program}{w:World}{K:W.Frag}{mg:Str->Option Value}{base:Heap}{C:Addr}{m qual:Str}{st:Stmt}{N ps:List Str}{k:Nat}{g:En->O}
def E8(e:oX K C)(D:gS K C m qual st)(S:fB N ps (c8 st))
  (d:∀(kV c o:Vq) (j:Oq Addr) (b i:Vq) (us:List Vq),us.length=ps.length->bindArgs (W.fnOf m qual (fF st) (ed st) (c8 st) .none kV c o j b i) ⟨us,[]⟩=pure (ps.zip us))
  (n:∀(f:Addr) (b:Vq) (A:Around) (a:List Env) (s:Sq) (H:Hp) (E:XK),fw k (A.deeper (envOfC qual (c8 st) s.heap.objs.size f b))->∃t,kS K E (j9 og P w K mg base N qual (c8 st) f b A a s H E).nox (ed st) t g) :
  g9 P w K mg base C m (k+1) (oJ K (iB ps.length N.length g)):=
 uX e D S d (λl H Q E h=>tM h) λf b A a s H l Q E hr h=>let ⟨t,hp⟩:=n f b A a s H E hr;⟨t,hp.ps,qc hp.ms h⟩
def FR(e:oX K C)(D:gS K C m qual st)(S:fB N ps (c8 st))
  (d:∀(kV c o:Vq) (j:Oq Addr) (b i:Vq) (us:List Vq),us.length=ps.length->bindArgs (W.fnOf m qual (fF st) (ed st) (c8 st) .none kV c o j b i) ⟨us,[]⟩=pure (ps.zip us))
  (n:∀(f:Addr) (b:Vq) (A:Around) (a:List Env) (s:Sq) (H:Hp) (E:XK),fw k (A.deeper (envOfC qual (c8 st) s.heap.objs.size f b))->∃t,kS K E (j9 og P w K mg base N qual (c8 st) f b A a s H E).nox (ed st) t g) :
  g9 P w K mg base C m (k+1) (sN K (wM ps.length N.length g)):=
 uX e D S d (λl H Q E h=>vD h) λf b A a s H l Q E hr h=>let ⟨t,hp⟩:=n f b A a s H E hr;⟨t,hp.ps,si hp.ms h⟩
end
end L3
namespace L3
open PySem L2 PySem.Spec PyProof.Rows
def Du:Nat->(List Value->Prop)->Prop
 |0,P=>P []
 |k+1,P=>∀v,Du k λus=>P (v::us)
theorem kf:∀{k} {P},Du k P->∀us:List Vq,us.length=k->P us
 |0,_,h,[],_=>h
 |k+1,_,h,v::us,e=>kf (h v) us (by simpa using e)
def GJ(X:Cx):Prop:=∀x,X.env.scope.names.lookup x=some .cell->∃c,X.env.cells.lookup x=some c
structure Zx(P:Program)(w:World)(K:W.Frag)(mg:Str->Option Value)(base:Heap):Prop where
 here:True
section
variable {P:Program}{w:World}{K:W.Frag}{mg:Str->Option Value}{base:Heap}
noncomputable abbrev CP(_:Zx P w K mg base)(x:Str)(k:Nat)(F:List T->M T):Prop:=ib P w K mg base x k (oJ K F)
noncomputable abbrev CF(_:Zx P w K mg base)(x:Str)(k:Nat)(F:List T->M (List T)):Prop:=ib P w K mg base x k (sN K F)
end
section
variable {P:Program}{w:World}{K:W.Frag}{mg:Str->Option Value}{base:Heap}{x m qual:Str}{C:Addr}{st:Stmt}{g:En->O}
noncomputable abbrev FQ(P:Program)(w:World)(K:W.Frag)(mg:Str->Option Value)(base:Heap)(k:Nat)(qual:Str)(st:Stmt)(N:List Str)(g:En->O):Prop:=∀{f:Addr} {cdv:Vq} {A:Around} {outer:List Env} {s:Sq} {H:Hp} {E:XK},N.Nodup->GJ (j9 og P w K mg base N qual (c8 st) f cdv A outer s H E).nox->fw k (A.deeper (envOfC qual (c8 st) s.heap.objs.size f cdv))->∃t,kS K E (j9 og P w K mg base N qual (c8 st) f cdv A outer s H E).nox (ed st) t g
abbrev Fy(x qual:Str)(st:Stmt)(ps:List Str):Prop:=∀(kV doc pm:Vq) (an:Oq Addr) (cdv ct:Vq),Du ps.length λus=>bindArgs (W.fnOf x qual (fF st) (ed st) (c8 st) .none kV doc pm an cdv ct) ⟨us,[]⟩=pure (ps.zip us)
def fU(_:Zx P w K mg base) k F N ps (e:F=iB ps.length N.length g) (D:dg K mg x st) (l:FQ P w K mg base k x st N g) (S:fB N ps (c8 st):=by constructor<;>first|rfl|decide +kernel)
  (i:Fy x x st ps:=by first|exact λ_ _ _ _ _ _ _ _=>rfl|exact λ_ _ _ _ _ _ _=>rfl|exact λ_ _ _ _ _ _ _ _ _=>rfl|exact λ_ _ _ _ _ _ _ _ _ _=>rfl|exact λ_ _ _ _ _ _ _ _ _ _ _=>rfl|exact λ_ _ _ _ _ _=>rfl) :
  ib P w K mg base x (k+1) (oJ K F):=e▸Hj D S (λa b c d e f n j=>kf (i a b c d e f) n j) λ_ _ _ _ _ _ _ r=>l S.nd (λ_ h=>iT h) r
def FH(_:Zx P w K mg base) k F N ps (e:F=wM ps.length N.length g) (D:dg K mg x st) (l:FQ P w K mg base k x st N g) (S:fB N ps (c8 st):=by constructor<;>first|rfl|decide +kernel)
  (i:Fy x x st ps:=by first|exact λ_ _ _ _ _ _ _ _=>rfl|exact λ_ _ _ _ _ _ _=>rfl|exact λ_ _ _ _ _ _ _ _ _=>rfl|exact λ_ _ _ _ _ _ _ _ _ _=>rfl|exact λ_ _ _ _ _ _ _ _ _ _ _=>rfl|exact λ_ _ _ _ _ _=>rfl) :
  ib P w K mg base x (k+1) (sN K F):=e▸GR D S (λa b c d e f n j=>kf (i a b c d e f) n j) λ_ _ _ _ _ _ _ r=>l S.nd (λ_ h=>iT h) r
def E7(_:Zx P w K mg base) k F N ps (e:F=iB ps.length N.length g) (n:oX K C) (D:gS K C m qual st) (l:FQ P w K mg base k qual st N g) (S:fB N ps (c8 st):=by constructor<;>first|rfl|decide +kernel)
  (i:Fy m qual st ps:=by first|exact λ_ _ _ _ _ _ _=>rfl|exact λ_ _ _ _ _ _ _ _=>rfl|exact λ_ _ _ _ _ _ _ _ _=>rfl) :
  g9 P w K mg base C m (k+1) (oJ K F):=e▸E8 n D S (λa b c d e f o j=>kf (i a b c d e f) o j) λ_ _ _ _ _ _ _ r=>l S.nd (λ_ h=>iT h) r
def DK(_:Zx P w K mg base) k F N ps (e:F=wM ps.length N.length g) (n:oX K C) (D:gS K C m qual st) (l:FQ P w K mg base k qual st N g) (S:fB N ps (c8 st):=by constructor<;>first|rfl|decide +kernel)
  (i:Fy m qual st ps:=by first|exact λ_ _ _ _ _ _ _=>rfl|exact λ_ _ _ _ _ _ _ _=>rfl|exact λ_ _ _ _ _ _ _ _ _=>rfl) :
  g9 P w K mg base C m (k+1) (sN K F):=e▸FR n D S (λa b c d e f o j=>kf (i a b c d e f) o j) λ_ _ _ _ _ _ _ r=>l S.nd (λ_ h=>iT h) r
def Fi(_:Zx P w K mg base) k F N ps (e:F=iB ps.length N.length g) (D:zD K x x st f fd) (a:FQ P w K mg base k x st N g) (S:fB N ps (c8 st):=by constructor<;>first|rfl|decide +kernel) :
  iY P w K mg base og (k+1) f fd ps (oJ K F):=e▸GS D S λ_ _ _ _ _ _ _ r=>a S.nd (λ_ h=>iT h) r
def He(_:Zx P w K mg base) k F N (e:F=ph C n f1 f2 g1 g2) (o:oX K C) (z:gY K C f1) (y:gY K C f2) (l:W.makesIn K C=true) (q:W.keepIn K (.ref C)=true) (t:mg x=some (.ref C)) (D:gS K C "__init__" qual st)
  (v:∀{f:Addr} {i:Vq} {A:Around} {h:List Env} {s:Sq} {H:Hp} {E:XK},fw k (A.deeper (envOfC qual (c8 st) s.heap.objs.size f i))->Hg K E (j9 og P w K mg base N qual (c8 st) f i A h s H E).nox (ed st) f1 f2 g1 g2)
  (S:fB N N (c8 st):=by constructor<;>first|rfl|decide +kernel) (j:Fy "__init__" qual st N:=by exact λ_ _ _ _ _ _ _ _ _=>rfl) (ne:f1≠f2:=by decide) (p:N.length=n+1:=by rfl) :
  tG P w K mg base x C (k+1) (rk K C F):=e▸Cr o z y ne D S l q t p (λa b c d e f B u=>kf (j a b c d e f) B u) λ_ _ _ _ _ _ _ r=>v r
end
section
variable {K:W.Frag}{E:XK}{X:Cx}{tg elt iter:Expr}{ifs:List Expr}{scope:Scope}{wi:TI}{g:TG}{tt:TT}{te:TE}{fe:Pe->M T}{fi:Pe->M (List T)}{m:T->Pe->Option Pe}{ft:Pe->M Bool}{pos:Pos}{x:Str}
noncomputable abbrev Hs(K:W.Frag)(X:Cx)(scope:Scope)(N:List Str)(tg elt:Expr)(ifs:List Expr)(g:TG)(tt:TT)(te:TE)(m:T->Pe->Option Pe)(ft:Pe->M Bool)(fe:Pe->M T):Prop:=∀{C s₃ H ex pn},N.Nodup->GJ (iJ X N scope C s₃ H ex pn)->EI K (iJ X N scope C s₃ H ex pn) tg g m/\x8 K zE (iJ X N scope C s₃ H ex pn) ifs tt ft/\Pm K zE (iJ X N scope C s₃ H ex pn) elt te fe
def eV N ix (f:GJ X) (e:Ak K E X tg iter wi fi) (b:Hs K X scope N tg elt ifs g tt te m ft fe) (h:pW X.N X.env.scope scope N ix=true:=by rfl) (a:jJ ix g:=by first|exact nr rfl|exact nh rfl rfl) (nd:N.Nodup:=by decide) (d:X.calm=true:=by rfl)
  (c:∀x,foldedSetIterable iter X.env x=pure x:=by intro _;rfl):wJ K E X (.ListComp elt [⟨tg,iter,ifs,0⟩] scope pos) (zw ix wi g tt te) (gG ix fi m ft fe):=
 let L:=FX f h
 Fv d e L a (λ_ _ _ _ _=>b nd (yR L)) c
def qF N ix i (p:X.N.Nodup) (l:GJ X) (n:Ak K E X tg iter wi fi) (b:Hs K X scope N tg elt ifs g tt te m ft fe)
  (h:MF K E (zw ix wi g tt te) (gG ix fi m ft fe)->MS K E (j5 (zw ix wi g tt te) (f6 i)) gm) (o:pW X.N X.env.scope scope N ix=true:=by rfl) (a:jJ ix g:=by first|exact nr rfl|exact nh rfl rfl) (nd:N.Nodup:=by decide) (e:wL X.env.scope x:=by first|exact Or.inl rfl|exact Or.inr rfl) (k:X.calm=true:=by rfl)
  (d:X.N[i]? = some x:=by rfl) (f:X.fn x=true\/X.env.scope.names.lookup x=some .local:=by first|exact .inl rfl|exact .inr rfl)
  (c:swapsWith (.ListComp elt [⟨tg,iter,ifs,0⟩] scope pos) (some (.Name x py)) spos.line X.env=pure true:=by rfl)
  (j:∀x,foldedSetIterable iter X.env x=pure x:=by intro _;rfl):qr K E X (.Assign [.Name x py] (.ListComp elt [⟨tg,iter,ifs,0⟩] scope pos) spos) (j5 (zw ix wi g tt te) (f6 i)) gm:=
 let L:=FX l o
 CJ i p e k n L a (λ_ _ _ _ _=>b nd (yR L)) h d f c j
end
end L3
namespace L3
open PySem L2 PySem.Spec PyProof.Rows
section
variable {K:W.Frag}{E:XK}{X:Cx}{ta tb to:TE}{fa fb fo:Pe->M T}{a b o:Expr}{pos apos:Pos}
@[simp] noncomputable def qd(fa:Pe->M T):Pe->M (List T):=λd=>(fa d).bind λx=>match x with
 |.str z=>if z.cps.all (· < 128) then .ok (z.cps.toList.map λc=>T.str ⟨#[c]⟩) else .bad
 |_=>.bad
def CZ(z:Str) F:qH K (Hm z) (z.cps.toList.map λc=>T.str ⟨#[c]⟩) F where
 go:=λi H s d=>by
  have d:i<z.cps.size:=by simpa using d
  exact⟨z.cps[i],by simp[d]⟩
 stop:=λH s=>by show z.cps[_]? = none;simp
 yld:=λi t g H x j k f e y=>by obtain⟨rfl,c,h,rfl⟩:=y;rw[av,Array.getElem?_toList,h]at e;cases e;exact⟨g,.refl f,.str _⟩
def CA(g:ME K E ta fa):MI K E (EG ta) (qd fa):=λF H j k R s V q=>by
 refine g.run s V q λx v d f e i c=>?_;cases i with
 |str z=>
  dsimp only at c;by_cases h:z.cps.all (· < 128)=true
  .rw[aQ h]at c;exact⟨z,rfl,h,c _ d f e (CZ z d)⟩
  .rw[aR h]at c;exact c.elim
 |_=>exact c.elim
def qj(c:Pm K E X a ta fa):Ak K E X tg a (EG ta) (qd fa):=⟨DB c.pe,CA c.me⟩
def tV(z:Str)(H:Hp):Fs K "str" (.str z) H:=rfl
@[simp] noncomputable def EH(fo fa:Pe->M T):Pe->M T:=λc=>(fo c).bind λx=>match x with
 |.str z=>(fa c).bind λy=>(match y with
  |.str u=>.ok (.bl (EO z u))
  |_=>.bad)
 |_=>.bad
def wC(i:ME K E to fo)(j:ME K E ta fa):ME K E (BI K "str" qw to (jm ta kD)) (EH fo fa):=λF H p r Q s V q=>by
 refine i.run s V q λx v n l c m e=>?_;cases m with
 |str z=>
  refine⟨tV z l,?_⟩;refine j.run c.fh (V.mono c.ff) e λy w f k g h d=>?_;cases h with
  |str u=>exact⟨z,u,rfl,rfl,d _ f k (c.trans g) (.bl _)⟩
  |_=>exact d.elim
 |_=>exact e.elim
@[simp] noncomputable def wK(fo fa:Pe->M T):Pe->M (List T):=λd=>(fo d).bind λx=>match x with
 |.str z=>(fa d).bind λy=>(match y with
  |.str ⟨⟨[c]⟩⟩=>if z.length<sizeLine then .ok ((iD c z.cps.toList).map λl=>T.str (c5 l)) else .bad
  |_=>.bad)
 |_=>.bad
theorem pM(F:Hp):∀ts:List Str,dG K F (ts.map V.str) (ts.map T.str)
 |[]=>.nil
 |x::ts=>.cons (.str x) (pM F ts)
def xY(n:ME K E to fo)(t:ME K E ta fa):MF K E (BI K "str" tp to (jm ta kD)) (wK fo fa):=λF H J L Q s V q=>by
 refine n.run s V q λx v I C g D k=>?_;cases D with
 |str z=>
  refine⟨tV z C,?_⟩;refine t.run g.fh (V.mono g.ff) k λy w j B l m d=>?_;split at d
  .rename_i c;cases m;by_cases h:z.length<sizeLine
   .rw[aQ h]at d;refine⟨z,c,rfl,rfl,h,λp i=>?_⟩;have f:=g.trans l;have r:=pM (K:=K) j ((iD c z.cps.toList).map c5);rw[aI,aI]at r;have A:H p=none:=by
     cases e:H p with
     |none=>rfl
     |some u=>exact absurd i (by have:=f.hh _ _ e;intro z;exact ly this z rfl)
    exact d p _ j (fT B p _) (f.trans (.new' f.fh i)) A (dN f.fh i) du r
   .rw[aR h]at d;exact d.elim
  .exact d.elim
 |_=>exact k.elim
def wF(g:Pm K E X o to fo)(i:Pm K E X e ta fa)(j:X.K=K:=by rfl)(c:attributeBase o "startswith" X.env (eval o X.env)=eval o X.env:=by rfl)
  (f:((backTo cpos (starEach [e] X.env)).all (λx=>!x.1)&&(backToKw cpos (keywordEach [] X.env)).all (λx=>x.1.isSome)
   && decide (([e]:List Expr).length+([]:List Keyword).length+(if ([]:List Keyword).isEmpty then 0 else 1)<30))=true:=by rfl)
  (d:(apos.endLine==cpos.line)=true:=by rfl) (h:starEach [e] X.env=(false,eval e X.env)::starEach [] X.env:=by rfl) (hplain:(backTo cpos (starEach [] X.env)).any (·.1)=false:=by rfl) :
  Pm K E X (.Call (.Attribute o "startswith" apos) [e] [] cpos) (BI K "str" qw to (jm ta kD)) (EH fo fa):=by
 subst j;exact⟨uI PySem.F.plainAttrs_str PySem.F.slot_str_startswith PySem.F.type_str_startswith vT g.pe (jG i.pe my h) c f d h hplain,wC g.me i.me⟩
def lK(g:Pm K E X o to fo)(i:Pm K E X e ta fa)(j:X.K=K:=by rfl)(c:attributeBase o "split" X.env (eval o X.env)=eval o X.env:=by rfl)
  (f:((backTo cpos (starEach [e] X.env)).all (λx=>!x.1)&&(backToKw cpos (keywordEach [] X.env)).all (λx=>x.1.isSome)
   && decide (([e]:List Expr).length+([]:List Keyword).length+(if ([]:List Keyword).isEmpty then 0 else 1)<30))=true:=by rfl)
  (d:(apos.endLine==cpos.line)=true:=by rfl) (h:starEach [e] X.env=(false,eval e X.env)::starEach [] X.env:=by rfl) (hplain:(backTo cpos (starEach [] X.env)).any (·.1)=false:=by rfl) :
  wJ K E X (.Call (.Attribute o "split" apos) [e] [] cpos) (BI K "str" tp to (jm ta kD)) (wK fo fa):=by
 subst j;exact⟨uI PySem.F.plainAttrs_str PySem.F.slot_str_split PySem.F.type_str_split ym g.pe (jG i.pe my h) c f d h hplain,xY g.me i.me⟩
def jW:List T->Option (List Str)
 |[]=>some []
 |.str x::ts=>(jW ts).map (x :: ·)
 |_::_=>none
theorem n6:∀{ts:List T} {ss:List Str},jW ts=some ss->ts=ss.map T.str
 |[],_,h=>by cases h;rfl
 |t::ts,ss,h=>by
  cases t<;>first|(cases h;done)|skip
  unfold jW at h;obtain⟨r,e,rfl⟩:=Option.map_eq_some_iff.mp h;rw[n6 e];rfl
theorem oR:∀ss:List Str,jW (ss.map T.str)=some ss
 |[]=>rfl
 |x::ss=>by show (jW (ss.map T.str)).map (x :: ·)=_;rw[oR ss];rfl
theorem rF:∀{vs:List V} {c:List Str},dG K F vs (c.map T.str)->vs=c.map V.str
 |_,[],h=>by cases h;rfl
 |_,x::c,h=>by
  cases h with
  |cons a b=>cases a;rw[rF b];rfl
@[simp] noncomputable def pA(fo fa:Pe->M T):Pe->M T:=λc=>(fo c).bind λx=>match x with
 |.str z=>(fa c).bind λy=>(match y with
  |.lst ts=>(match jW ts with
   |some ss=>if JoinOk z ss then .ok (.str (Txt.join z ss)) else .bad
   |none=>.bad)
  |_=>.bad)
 |_=>.bad
def zQ(m:ME K E to fo)(t:ME K E ta fa):ME K E (BI K "str" xT to (jm ta kD)) (pA fo fa):=λF H J L Q s V q=>by
 refine m.run s V q λx v D B d C j=>?_;cases C with
 |str z=>
  refine⟨tV z B,?_⟩;refine t.run d.fh (V.mono d.ff) j λy w k A i l c=>?_;cases l with
  |lst h r=>
   rename_i p I n;dsimp only at c;cases f:jW n with
   |none=>rw[f]at c;exact c.elim
   |some ss=>
    rw[f]at c;dsimp only at c;have e:=n6 f;subst e;have u:=rF r;subst u;by_cases g:JoinOk z ss=true
    .rw[aQ g]at c;exact⟨z,p,ss,rfl,rfl,i.fh _ _ h,g,c _ k A (d.trans i) (.str _)⟩
    .rw[aR g]at c;exact c.elim
  |_=>exact c.elim
 |_=>exact j.elim
def ja(g:Pm K E X o to fo)(i:Pm K E X e ta fa)(j:X.K=K:=by rfl)(c:attributeBase o "join" X.env (eval o X.env)=eval o X.env:=by rfl)
  (f:((backTo cpos (starEach [e] X.env)).all (λx=>!x.1)&&(backToKw cpos (keywordEach [] X.env)).all (λx=>x.1.isSome)
   && decide (([e]:List Expr).length+([]:List Keyword).length+(if ([]:List Keyword).isEmpty then 0 else 1)<30))=true:=by rfl)
  (d:(apos.endLine==cpos.line)=true:=by rfl) (h:starEach [e] X.env=(false,eval e X.env)::starEach [] X.env:=by rfl) (hplain:(backTo cpos (starEach [] X.env)).any (·.1)=false:=by rfl) :
  Pm K E X (.Call (.Attribute o "join" apos) [e] [] cpos) (BI K "str" xT to (jm ta kD)) (pA fo fa):=by
 subst j;exact⟨uI PySem.F.plainAttrs_str PySem.F.slot_str_join PySem.F.type_str_join A1 g.pe (jG i.pe my h) c f d h hplain,zQ g.me i.me⟩
@[simp] noncomputable def gx:List T->M T
 |[.int i]=>if i.natAbs.log2<1920 then .ok (.str (toString i)) else .bad
 |_=>.bad
def xk xs:M.NoE (gx xs):=λC n=>by unfold gx;split<;>first|(intro z;cases z;done)|(split<;>intro z<;>cases z)
def gH:MC K (λc H Q=>∃i,c=[.int i]/\i.natAbs.log2<1920/\Q (.str (toString i)) H) gx:=⟨xk,λF H d c Q s r q=>by
 unfold gx at q;split at q
 .rename_i i;cases r with
  |cons a b=>
   cases a;cases b;by_cases h:i.natAbs.log2<1920
   .rw[aQ h]at q;exact⟨i,rfl,h,kV.now q s (.str _)⟩
   .rw[aR h]at q;exact q.elim
 .exact q.elim⟩
@[simp] noncomputable def tK:List T->M T
 |[.str x]=>if x.length<=640 then (match intText? x with
  |some n=>.ok (.int n)
  |none=>.bad) else .bad
 |_=>.bad
def Bc xs:M.NoE (tK xs):=λC n=>by unfold tK;split<;>first|(intro z;cases z;done)|(split<;>first|(intro z;cases z;done)|(split<;>intro z<;>cases z))
def Bw:MC K (λc H Q=>∃x n,c=[.str x]/\x.length<=640/\intText? x=some n/\Q (.int n) H) tK:=⟨Bc,λF H d c Q s r q=>by
 unfold tK at q;split at q
 .rename_i x;cases r with
  |cons a b=>
   cases a;cases b;by_cases h:x.length<=640
   .rw[aQ h]at q;cases e:intText? x with
    |none=>rw[e]at q;exact q.elim
    |some n=>rw[e]at q;exact⟨x,n,rfl,h,e,kV.now q s (.int _)⟩
   .rw[aR h]at q;exact q.elim
 .exact q.elim⟩
@[simp] noncomputable def wa:T->T->M T
 |.str x,.str y=>.ok (.bl (inS x y))
 |_,_=>.bad
def zP x y:M.NoE (wa x y):=λC n=>by unfold wa;split<;>(intro z;cases z)
def B9:MR K (λy x H Q=>∃a b,y=.str a/\x=.str b/\Q (.bl (inS a b)) H) wa:=⟨zP,λF H v w x y Q s d c q=>by
 unfold wa at q;split at q
 .cases d;cases c;exact⟨_,_,rfl,rfl,kV.now q s (.bl _)⟩
 .exact q.elim⟩
def DG(d:Pm K E X a ta fa)(c:Pm K E X b tb fb)(e:behindInMarks .In b=false:=by rfl):Pm K E X (.Compare a [.In] [b] pos) (mB (λy x H Q=>∃a b,y=.str a/\x=.str b/\Q (.bl (inS a b)) H) ta tb) (de wa fa fb):=⟨pR Ck d.pe c.pe e,q0 B9 d.me c.me⟩
@[simp] noncomputable def FJ(fa:Pe->M T):Pe->M T:=λc=>(fa c).bind λx=>match x with
 |.str z=>if z.length<=sizeLine then .ok (.str (Fe z)) else .bad
 |_=>.bad
def Bx{j p1 p2}(d:Pm K E X a ta fa)(f:∀o r,letTemporaryGo a o r=pure ():=by intro _ _;rfl):Pm K E X (.Subscript a (.Slice (some (.Constant (.int 1) j p1)) none none p2) pos) (BU ta) (FJ fa):=⟨zL d.pe f,λF H l m Q s V q=>by
 refine d.me.run s V q λx v e i g k c=>?_;cases k with
 |str z=>
  dsimp only at c;by_cases h:z.length<=sizeLine
  .rw[aQ h]at c;exact⟨z,rfl,h,c _ e i g (.str _)⟩
  .rw[aR h]at c;exact c.elim
 |_=>exact c.elim⟩
def lk{c d:Type}[DecidableEq c](k:c):List (c×d)->Option d
 |[]=>none
 |p::r=>if p.1=k then some p.2 else lk k r
theorem qO{d e:Type}[DecidableEq d](k:d)(f:e->V):∀c:List (d×e),wg k (c.map λp=>(p.1,f p.2))=(lk k c).map f
 |[]=>rfl
 |p::r=>by
  unfold lk;rw[bw,wg];by_cases h:p.1=k
  .rw[aQ h,aQ h];rfl
  .rw[aR h,aR h];exact qO k f r
@[simp] noncomputable def GI(c:List (Int×Str))(fb:Pe->M T):Pe->M T:=λd=>(fb d).bind λy=>match y with
 |.int i=>(match lk i c with
  |some z=>.ok (.str z)
  |none=>.bad)
 |_=>.bad
def Be{x:Str}{p:Pos}(c:List (Int×Str)){d:Addr}(h:X.mg x=some (.ref d)/\Am X.prog X.w X.K d (c.map λp=>(p.1,V.str p.2)))(g:Pm K E X b tb fb)(l:mY b:=by intro _ _;rfl)(n:Gl X x:=by rfl)(k:(x==("__debug__" : Str))=false:=by decide) :
  Pm K E X (.Subscript (.Name x p) b pos) (mB (λx y H Q=>∃i v,x=.ref d/\y=.int i/\wg i (c.map λp=>(p.1,V.str p.2))=some v/\Q v H) (tC (.ref d)) tb) (GI c fb):=
 ⟨xg (Bi h.2) (lC n h.1 rfl k) g.pe l,λF H u A Q s V q=>by
  refine g.me.run s V q λy w j r m t f=>?_;cases t with
  |int i=>
   dsimp only at f;cases e:lk i c with
   |none=>rw[e]at f;exact f.elim
   |some z=>rw[e]at f;exact⟨i,.str z,rfl,rfl,by rw[qO,e];rfl,f _ j r m (.str _)⟩
  |_=>exact f.elim⟩
@[simp] noncomputable def Hr(c:List (Str×Int))(fb:Pe->M T):Pe->M T:=λd=>(fb d).bind λy=>match y with
 |.str i=>(match lk i c with
  |some z=>.ok (.int z)
  |none=>.bad)
 |_=>.bad
def Ao{x:Str}{p:Pos}(c:List (Str×Int)){d:Addr}(h:X.mg x=some (.ref d)/\vM X.prog X.w X.K d (c.map λp=>(p.1,V.int p.2)))(g:Pm K E X b tb fb)(l:mY b:=by intro _ _;rfl)(n:Gl X x:=by rfl)(k:(x==("__debug__" : Str))=false:=by decide) :
  Pm K E X (.Subscript (.Name x p) b pos) (mB (λx y H Q=>∃i v,x=.ref d/\y=.str i/\wg i (c.map λp=>(p.1,V.int p.2))=some v/\Q v H) (tC (.ref d)) tb) (Hr c fb):=
 ⟨xg (AN h.2) (lC n h.1 rfl k) g.pe l,λF H u A Q s V q=>by
  refine g.me.run s V q λy w j r m t f=>?_;cases t with
  |str i=>
   dsimp only at f;cases e:lk i c with
   |none=>rw[e]at f;exact f.elim
   |some z=>rw[e]at f;exact⟨i,.int z,rfl,rfl,by rw[qO,e];rfl,f _ j r m (.int _)⟩
  |_=>exact f.elim⟩
@[simp] noncomputable def Ga(c:List (Str×Int))(fb:Pe->M T):Pe->M T:=λd=>(fb d).bind λy=>match y with
 |.str i=>.ok (.bl (lk i c).isSome)
 |_=>.bad
def xh{x:Str}{p:Pos}(c:List (Str×Int)){d:Addr}(g:X.mg x=some (.ref d)/\vM X.prog X.w X.K d (c.map λp=>(p.1,V.int p.2)))(f:Pm K E X b tb fb)(m:behindInMarks .In (.Name x p)=false:=by rfl)(r:Gl X x:=by rfl)(k:(x==("__debug__" : Str))=false:=by decide) :
  Pm K E X (.Compare b [.In] [.Name x p] pos) (mB (λy x H Q=>∃a,x=.ref d/\y=.str a/\Q (.bl (wg a (c.map λp=>(p.1,V.int p.2))).isSome) H) tb (tC (.ref d))) (Ga c fb):=
 ⟨pR (Ad g.2) f.pe (lC r g.1 rfl k) m,λF H v z Q s l q=>by
  refine f.me.run s l q λy w j t n u h=>?_;cases u with
  |str i=>
   have e:(wg i (c.map λp=>(p.1,V.int p.2))).isSome=(lk i c).isSome:=by rw[qO];cases lk i c<;>rfl
   exact⟨i,rfl,rfl,by rw[e];exact h _ j t n (.bl _)⟩
  |_=>exact h.elim⟩
def G7{P:Program}{c:Str->Option Value}{x:Str}{T:Program->Addr->Prop}(h:∃d,c x=some (.ref d)/\∀P,T P d):c x=some (.ref h.choose)/\T P h.choose:=⟨h.choose_spec.1,h.choose_spec.2 P⟩
def Fj{P:Program}{w:World}{d:Addr}{s u q g f c:Int}{i n j x r v:Tok}{m k h:Str}{y:Nat}(B:(d==sysModules)=false)
  (l:K.lookup d=some ⟨.type "dict",none,.dict #[⟨s,.int g i,.str m x⟩,⟨u,.int f n,.str k r⟩,⟨q,.int c j,.str h v⟩] y,#[]⟩) (A:s=hashInt g) (z:u=hashInt f) (C:q=hashInt c) (nd:[g,f,c].Nodup) :
  Am P w K d (([(g,m),(f,k),(c,h)]:List (Int×Str)).map λp=>(p.1,V.str p.2)):=by
 subst A z C;refine⟨B,_,[(g,.str m x),(f,.str k r),(c,.str h v)],l,⟨_,_,⟨rfl,rfl,rfl⟩,rfl,λe t=>?_,.cons (intKind_is P w g i) rfl (.cons (intKind_is P w f n) rfl (.cons (intKind_is P w c j) rfl .nil)),nd⟩,rfl,.cons ⟨_,rfl⟩ (.cons ⟨_,rfl⟩ (.cons ⟨_,rfl⟩ .nil))⟩;simp only[List.mem_toArray,aF,List.not_mem_nil,or_false]at t;rcases t with rfl|rfl|rfl
 .exact⟨g,intKind_is P w g i,rfl⟩
 .exact⟨f,intKind_is P w f n,rfl⟩
 .exact⟨c,intKind_is P w c j,rfl⟩
def FL{P:Program}{w:World}{d:Addr}{s u q m k j:Int}{h n i x r v:Tok}{g f c:Str}{y:Nat}(B:(d==sysModules)=false)
  (l:K.lookup d=some ⟨.type "dict",none,.dict #[⟨s,.str g h,.int m x⟩,⟨u,.str f n,.int k r⟩,⟨q,.str c i,.int j v⟩] y,#[]⟩) (A:s=hashStr w g) (z:u=hashStr w f) (C:q=hashStr w c) (nd:[g,f,c].Nodup) :
  vM P w K d (([(g,m),(f,k),(c,j)]:List (Str×Int)).map λp=>(p.1,V.int p.2)):=by
 subst A z C;refine⟨B,_,[(g,.int m x),(f,.int k r),(c,.int j v)],l,⟨_,_,⟨rfl,rfl,rfl⟩,rfl,λe t=>?_,.cons (strKind_is P w g h) rfl (.cons (strKind_is P w f n) rfl (.cons (strKind_is P w c i) rfl .nil)),nd⟩,rfl,.cons ⟨_,rfl⟩ (.cons ⟨_,rfl⟩ (.cons ⟨_,rfl⟩ .nil))⟩;simp only[List.mem_toArray,aF,List.not_mem_nil,or_false]at t;rcases t with rfl|rfl|rfl
 .exact⟨g,strKind_is P w g h,rfl⟩
 .exact⟨f,strKind_is P w f n,rfl⟩
 .exact⟨c,strKind_is P w c i,rfl⟩
end
end L3
namespace CL
open PySem L2 L3
structure Cs where
 Cutting:Addr
 Desk:Addr
 CutError:Addr
 NoCutting:Addr
 NoTable:Addr
 NoFraction:Addr
 NoSpot:Addr
 NoSigns:Addr
 NoLand:Addr
 NoFace:Addr
 NoNumber:Addr
 NoText:Addr
 NoDeed:Addr
def lq(c:Cs):En->O:=(dA (setO 2 (gh (de jY (cU 0) (cU 1))))
  (dA (setO 0 (gh (cU 1)))
  (setO 1 (gh (cU 2)))))
def mr(c:Cs):En->O:=(dA (λa=>ie (ei (de (dz true) (cU 1) (cM (.int 0)))) (lq c) ((λa=>match a with|_::some (.p (.int j))::_=>j.natAbs+1|_=>0) a) a)
  (eg (gq wc (cT (cU 0) cX))))
def fG(c:Cs):List T->M T:=iB 2 3 (mr c)
def jo(c:Cs):En->O:=(dA (iW (ei (de Gj (cU 1) (gq hV (cT (cU 0) cX)))) (eg (de fV (cU 0) (cU 1))) ek)
  (eg (cM (.int 0))))
def dq(c:Cs):List T->M T:=iB 2 2 (jo c)
def rH(c:Cs):En->O:=(eg (oF (jT "int" (cU 0)) (vW (jT "bool" (cU 0)))))
def eC(c:Cs):List T->M T:=iB 1 1 (rH c)
def oz(c:Cs):En->O:=(AV 0 1 (cT (cU 1) (cT (de jY (cU 0) (cU 1)) cX)))
def qP(c:Cs):En->O:=(dA (setO 0 (gh (gq wc (cT (cU 0) cX))))
  (dA (setO 1 (gh (gq wc (cT (cU 1) cX))))
  (dA (λa=>ie (ei (de CI (cU 1) (cM (.int 0)))) (oz c) ((λa=>match a with|_::some (.p (.int j))::_=>j.natAbs+1|_=>0) a) a)
  (eg (cU 0)))))
def fy(c:Cs):List T->M T:=iB 2 2 (qP c)
def lB(c:Cs):En->O:=(dA (iW (jV (fQ (ei (jT "tuple" (cU 0)))) (jV (ei (de (dz true) (gq hV (cT (cU 0) cX)) (cM (.int 2)))) (jV (fQ (ei (cZ (cT (de fV (cU 0) (cM (.int 0))) cX) (eC c)))) (fQ (ei (cZ (cT (de fV (cU 0) (cM (.int 1))) cX) (eC c))))))) (eg (cM (.bl false))) ek)
  (eg (oF (de CI (de fV (cU 0) (cM (.int 1))) (cM (.int 0))) (de (dz false) (cZ (cT (de fV (cU 0) (cM (.int 0))) (cT (de fV (cU 0) (cM (.int 1))) cX)) (fy c)) (cM (.int 1))))))
def eD(c:Cs):List T->M T:=iB 1 1 (lB c)
def qR(c:Cs):En->O:=(dA (setO 2 (gh (cZ (cT (cU 0) (cT (cU 1) cX)) (fy c))))
  (eg (iK (cT (de mJ (cU 0) (cU 2)) (cT (de mJ (cU 1) (cU 2)) cX)))))
def gw(c:Cs):List T->M T:=iB 2 3 (qR c)
def sY(c:Cs):En->O:=(eg (oF (jT "int" (cU 0)) (vW (jT "bool" (cU 0)))))
def gp(c:Cs):List T->M T:=iB 1 1 (sY c)
def v8(c:Cs):En->O:=(eg (oF (cZ (cT (cU 0) cX) (gp c)) (Dc yg yg (cM (.int 1)) (cU 0) (cM (.int 3)))))
def iQ(c:Cs):List T->M T:=iB 1 1 (v8 c)
def l6(c:Cs):Pe->M T:=(cZ (cT (cU 0) cX) (gp c))
def lW(c:Cs):Pe->M T:=(de (dz true) (cU 0) (cM (.int 0)))
def wY(c:Cs):En->O:=(dA (iW (jV (fQ (ei (jT "tuple" (cU 1)))) (ei (de (dz true) (gq hV (cT (cU 1) cX)) (de eM (cU 0) (cM (.int 1)))))) (eg (cM (.bl false))) ek)
  (dA (iW (fQ (ei (gq nk (cT (fu (gG [none] (eW (cU 1)) (gR 0) (λ_=>.ok true) (l6 c))) cX)))) (eg (cM (.bl false))) ek)
  (eg (gq sX (cT (fu (gG [none] (eW (jS (cU 1) (λ_=>.ok none) (gO (cU 0)))) (gR 0) (λ_=>.ok true) (lW c))) cX)))))
def g6(c:Cs):List T->M T:=iB 2 2 (wY c)
def kc(c:Cs):En->O:=(setO 1 (gh (de eM (cU 1) (cM (.int 1)))))
def oj(c:Cs):En->O:=(dA (setO 1 (gh (cM (.int 0))))
  (dA (λa=>ie (ei (de (dz false) (de fV (cU 0) (cU 1)) (cM (.int 0)))) (kc c) ((λa=>match a with|some (.p (.tup ts))::_=>ts.length+1|_=>0) a) a)
  (eg (cU 1))))
def gA(c:Cs):List T->M T:=iB 1 2 (oj c)
def kQ(c:Cs):Pe->M T:=(de (dz false) (de hZ (cU 0) (de fV (cU 2) (cU 3))) (de hZ (cU 1) (de fV (cU 4) (cU 3))))
def qs(c:Cs):En->O:=(dA (setO 2 (gh (cZ (cT (cU 0) cX) (gA c))))
  (eg (gq nk (cT (fu (gG [none,none,some 1,some 2,some 0] (qL (cT (cU 0) (cT (cU 1) cX))) (wG 2 (kK (gR 0) (kK (gR 1) v7))) (λ_=>.ok true) (kQ c))) cX))))
def hC(c:Cs):List T->M T:=iB 2 3 (qs c)
def jF(c:Cs):Pe->M T:=(cZ (cT (cU 0) (cT (cU 1) cX)) (hC c))
def sj(c:Cs):En->O:=(dA (iW (jV (ei (de Gm (gq hV (cT (cU 1) cX)) (cM (.int 7)))) (fQ (ei (cZ (cT (cU 0) (cT (cU 2) cX)) (g6 c))))) (eg (cM (.bl false))) ek)
  (eg (vW (gq sX (cT (fu (gG [none,some 2] (eW (cU 1)) (gR 0) (λ_=>.ok true) (jF c))) cX)))))
def gP(c:Cs):List T->M T:=iB 3 3 (sj c)
def jQ(c:Cs):En->O:=(dA (iW (fQ (ei (cZ (cT (cU 0) (cT (cU 2) (cT (cU 3) cX))) (gP c)))) (λ_=>.bad) ek)
  (uk 2 (gh (gq fY (cT (cU 3) cX)))))
def nP(c:Cs):En->O:=(dA (iW (jV (fQ (ei (cZ (cT (cU 0) cX) (iQ c)))) (fQ (ei (jT "list" (cU 1))))) (λ_=>.bad) ek)
  (dA (mj 2 (oq (lstM cX)))
  (dA (tE (eW (cU 1)) (pI 3) (jQ c))
  (eg (gq fY (cT (cU 2) cX))))))
def fL(c:Cs):List T->M T:=iB 2 4 (nP c)
def eN(c:Cs):List T->M T:=ph c.Cutting 2 "own_cuts" "own_dims" (cZ (cT (cU 1) (cT (cU 2) cX)) (fL c)) (cU 1)
def nA(c:Cs):En->O:=(eg (tX c.Cutting "own_dims" (cU 0)))
def eO(c:Cs):List T->M T:=iB 1 1 (nA c)
def nX(c:Cs):En->O:=(sC (Dj lX (cT (tX c.Cutting "own_cuts" (cU 0)) cX)))
def eP(c:Cs):List T->M (List T):=wM 1 1 (nX c)
def rA(c:Cs):En->O:=(setO 3 (gh (de mJ (cU 3) (cU 2))))
def sV(c:Cs):En->O:=(dA (iW (ei (de Gm (cU 0) (de i9 (cM (.int 10)) (cM (.int 18))))) (dA (setO 3 (gh (cU 0)))
  (dA (kP (iz (cT (cU 1) cX)) (pI 4) (rA c))
  (eg (de jY (cU 3) (cU 2))))) ek)
  (dA (setO 5 (gh (de jY (de hZ (de eM (de eM (de jY (cU 0) (cM (.int 1000000007))) (de hZ (cM (.int 1009)) (cU 1))) (cM (.int 17))) (cM (.int 69621))) (cM (.int 2147483647)))))
  (dA (setO 5 (gh (de jY (de eM (de eM (de hZ (cU 5) (cU 5)) (de hZ (cM (.int 40503)) (cU 1))) (cM (.int 5))) (cM (.int 2147483629)))))
  (eg (de jY (de mJ (de jY (de hZ (cU 5) (cM (.int 48271))) (cM (.int 2147483647))) (cM (.int 32))) (cU 2))))))
def c9(c:Cs):List T->M T:=iB 3 6 (sV c)
def mG(c:Cs):En->O:=(iW (ei (de (dz true) (de hZ (de fV (cU 0) (cU 2)) (de fV (cU 1) (cU 3))) (de hZ (de fV (cU 0) (cU 3)) (de fV (cU 1) (cU 2))))) (eg (cM (.bl false))) ek)
def rq(c:Cs):En->O:=(kP (iz (cT (cU 2) cX)) (pI 3) (mG c))
def tT(c:Cs):En->O:=(dA (kP (iz (cT (gq hV (cT (cU 0) cX)) cX)) (pI 2) (rq c))
  (eg (cM (.bl true))))
def gJ(c:Cs):List T->M T:=iB 2 4 (tT c)
def nj(c:Cs):Pe->M T:=(de kU (cZ (cT (cU 1) (cT (cU 0) (cT (cM (.int 7)) cX))) (c9 c)) (cM (.int 3)))
def nG(c:Cs):Pe->M T:=(de hZ (cU 0) (cU 1))
def nv(c:Cs):Pe->M T:=(de hZ (cU 0) (cU 1))
def oY(c:Cs):En->O:=(dA (mj 3 (oq (gG [none,some 0] (iz (cT (cU 1) cX)) (gR 0) (λ_=>.ok true) (nj c))))
  (dA (iW (ei (de (dz false) (cU 3) (fu (yY (fu (lstM (cT (cM (.int 0)) cX))) (cU 1))))) (tZ 3 (qt (cZ (cT (cU 0) (cT (cM (.int 4)) (cT (cU 1) cX))) (c9 c))) (qt (de eM (cM (.int 1)) (cZ (cT (cU 0) (cT (cM (.int 5)) (cT (cM (.int 3)) cX))) (c9 c))))) ek)
  (dA (setO 4 (gh (de kU (cZ (cT (cU 0) (cT (cM (.int 6)) (cT (cM (.int 9)) cX))) (c9 c)) (cM (.int 4)))))
  (dA (setO 5 (gh (cZ (cT (cU 0) (cT (cM (.int 7)) (cT (cM (.int 7)) cX))) (c9 c))))
  (dA (iW (lV (ei (de (dz false) (cU 5) (cM (.int 1)))) (ei (de (dz true) (cU 2) (fu (lstM cX))))) (mj 3 (oq (Dj lX (cT (jS (de fV (cU 2) (cZ (cT (cU 0) (cT (cM (.int 8)) (cT (gq hV (cT (cU 2) cX)) cX))) (c9 c))) (λ_=>.ok none) (gO (cU 1))) cX)))) ek)
  (dA (iW (jV (ei (de (dz false) (cU 5) (cM (.int 2)))) (ei (de (dz false) (cU 5) (cM (.int 3))))) (setO 4 (qt (gq xv (cT (fu (gG [none,none] (qL (cT (cU 3) (cT (fu (lstM (cT (cM (.int 1)) (cT (cM (.int 2)) (cT (vN (λi=>.int (-i)) (cM (.int 1))) cX))))) cX))) (wG 2 (kK (gR 0) (kK (gR 1) v7))) (λ_=>.ok true) (nG c))) cX)))) ek)
  (dA (iW (ei (de (dz false) (cU 5) (cM (.int 4)))) (dA (setO 6 (gh (de hZ (de eM (cM (.int 1)) (cZ (cT (cU 0) (cT (cM (.int 9)) (cT (de i9 (cM (.int 10)) (cM (.int 6))) cX))) (c9 c))) (de fV (fu (lstM (cT (cM (.int 1)) (cT (cM (.int 1)) (cT (de i9 (cM (.int 10)) (cM (.int 18))) cX))))) (cZ (cT (cU 0) (cT (cM (.int 11)) (cT (cM (.int 3)) cX))) (c9 c))))))
  (dA (mj 3 (xP (gG [none,some 6] (eW (cU 3)) (gR 0) (λ_=>.ok true) (nv c))))
  (setO 4 (gh (de eM (de hZ (cU 4) (cU 6)) (cZ (cT (cU 0) (cT (cM (.int 10)) (cT (cM (.int 7)) cX))) (c9 c))))))) ek)
  (eg (gq fY (cT (fu (l7 (cU 3) (fu (lstM (cT (cU 4) cX))))) cX))))))))))
def iP(c:Cs):List T->M T:=iB 3 7 (oY c)
def j1(c:Cs):Pe->M T:=(cU 0)
def mD(c:Cs):En->O:=(dA (setO 6 (qt (cZ (cT (cZ (cT (cU 0) (cT (de eM (cU 1) (cU 5)) cX)) (dq c)) (cT (cU 2) (cT (cU 4) cX))) (iP c))))
  (iW (ei (de (dz false) (fu (gG [none,some 6] (eW (cU 4)) (gR 0) (ei (cZ (cT (cU 1) (cT (cU 0) cX)) (gJ c))) (j1 c))) (fu (lstM cX)))) (uk 4 (gh (cU 6))) ek))
def tH(c:Cs):En->O:=(dA (mj 4 (oq (lstM cX)))
  (dA (kP (iz (cT (cU 3) cX)) (pI 5) (mD c))
  (m7 4)))
def iV(c:Cs):List T->M (List T):=wM 4 7 (tH c)
def j7(c:Cs):Pe->M T:=(cZ (cT (cU 0) cX) (eD c))
def oH(c:Cs):En->O:=(dA (iW (jV (fQ (ei (jT "tuple" (cU 0)))) (ei (de (dz true) (gq hV (cT (cU 0) cX)) (cU 1)))) (eg (cM (.bl false))) ek)
  (eg (gq nk (cT (fu (gG [none] (eW (cU 0)) (gR 0) (λ_=>.ok true) (j7 c))) cX))))
def gz(c:Cs):List T->M T:=iB 2 2 (oH c)
def lM(c:Cs):Pe->M T:=(gq gx (cT (cU 0) cX))
def rR(c:Cs):En->O:=(eg (pA (cM (.str ",")) (fu (gG [none] (eW (cU 0)) (gR 0) (λ_=>.ok true) (lM c)))))
def iA(c:Cs):List T->M T:=iB 1 1 (rR c)
def ml(c:Cs):En->O:=(dA (iW (ei (de (dz false) (de fV (cU 0) (cM (.int 1))) (cM (.int 1)))) (eg (gq gx (cT (de fV (cU 0) (cM (.int 0))) cX))) ek)
  (eg (de eM (de eM (gq gx (cT (de fV (cU 0) (cM (.int 0))) cX)) (cM (.str "/"))) (gq gx (cT (de fV (cU 0) (cM (.int 1))) cX)))))
def eK(c:Cs):List T->M T:=iB 1 1 (ml c)
def oy(c:Cs):Pe->M T:=(cZ (cT (cU 0) cX) (eK c))
def qM(c:Cs):En->O:=(eg (pA (cM (.str ",")) (fu (gG [none] (eW (cU 0)) (gR 0) (λ_=>.ok true) (oy c)))))
def gX(c:Cs):List T->M T:=iB 1 1 (qM c)
def sm(c:Cs):En->O:=(eg (de eM (de eM (cZ (cT (jS (cU 0) (λ_=>.ok none) (gO (vN (λi=>.int (-i)) (cM (.int 1))))) cX) (iA c)) (cM (.str ":"))) (gq gx (cT (de fV (cU 0) (vN (λi=>.int (-i)) (cM (.int 1)))) cX))))
def fP(c:Cs):List T->M T:=iB 1 1 (sm c)
def l4(c:Cs):Pe->M T:=(cZ (cT (cU 0) cX) (fP c))
def mR(c:Cs):En->O:=(eg (pA (cM (.str " ")) (fu (l7 (fu (lstM (cT (gq gx (cT (oP c.Cutting "dims" (cU 0) cX (eO c)) cX)) cX))) (fu (gG [none] (eW (fu (mx c.Cutting "cuts" (cU 0) cX (eP c)))) (gR 0) (λ_=>.ok true) (l4 c)))))))
def fS(c:Cs):List T->M T:=iB 1 1 (mR c)
def j8(c:Cs):Pe->M T:=(GI [(1, "+"),(0, "0"),(-1, "-")] (cU 0))
def oB(c:Cs):En->O:=(dA (iW (ei (de (dz false) (cU 0) (iK cX))) (eg (cM (.str "."))) ek)
  (eg (pA (cM (.str "")) (fu (gG [none] (eW (cU 0)) (gR 0) (λ_=>.ok true) (j8 c))))))
def gB(c:Cs):List T->M T:=iB 1 1 (oB c)
def qf(c:Cs):En->O:=(iW (fQ (ei (jT "str" (cU 0)))) (λ_=>.bad) ek)
def ee(c:Cs):List T->M T:=iB 1 1 (qf c)
def kb(c:Cs):Pe->M T:=(de wa (cU 0) (cM (.str "0123456789")))
def oh(c:Cs):En->O:=(dA (iW (jV (fQ (ei (Dc yg yg (cM (.int 1)) (gq hV (cT (cU 0) cX)) (cU 1)))) (fQ (ei (gq nk (cT (fu (gG [none] (qd (cU 0)) (gR 0) (λ_=>.ok true) (kb c))) cX))))) (eg (cM (.bl false))) ek)
  (eg (DY (de (dz false) (cU 0) (cM (.str "0"))) (de (dz true) (de fV (cU 0) (cM (.int 0))) (cM (.str "0"))))))
def gC(c:Cs):List T->M T:=iB 2 2 (oh c)
def oA(c:Cs):En->O:=(dA (setO 1 (gh (zF (ei (EH (cU 0) (cM (.str "-")))) (FJ (cU 0)) (cU 0))))
  (dA (iW (jV (fQ (ei (cZ (cT (cU 1) (cT (cM (.int 60)) cX)) (gC c)))) (ei (de (dz false) (cU 0) (cM (.str "-0"))))) (λ_=>.bad) ek)
  (eg (gq tK (cT (cU 0) cX)))))
def dM(c:Cs):List T->M T:=iB 1 2 (oA c)
def mS(c:Cs):En->O:=(dA (lF (gh (cZ (cT (cU 0) cX) (ee c))))
  (dA (setO 1 (gh (fu (wK (cU 0) (cM (.str "/"))))))
  (dA (iW (ei (de (dz false) (gq hV (cT (cU 1) cX)) (cM (.int 1)))) (eg (iK (cT (cZ (cT (cU 0) cX) (dM c)) (cT (cM (.int 1)) cX)))) ek)
  (dA (iW (ei (de (dz true) (gq hV (cT (cU 1) cX)) (cM (.int 2)))) (λ_=>.bad) ek)
  (dA (setO 2 (gh (cZ (cT (de fV (cU 1) (cM (.int 0))) cX) (dM c))))
  (dA (setO 3 (gh (cZ (cT (de fV (cU 1) (cM (.int 1))) cX) (dM c))))
  (dA (iW (jV (ei (de Gj (cU 3) (cM (.int 2)))) (ei (de (dz true) (cZ (cT (cU 2) (cT (cU 3) cX)) (fG c)) (cM (.int 1))))) (λ_=>.bad) ek)
  (eg (iK (cT (cU 2) (cT (cU 3) cX)))))))))))
def eG(c:Cs):List T->M T:=iB 1 4 (mS c)
def mU(c:Cs):En->O:=(dA (setO 1 (gh (fu (wK (cU 0) (cM (.str ","))))))
  (dA (iW (ei (de CI (gq hV (cT (cU 1) cX)) (cM (.int 3)))) (λ_=>.bad) ek)
  (eg (cU 1))))
def eB(c:Cs):List T->M T:=iB 1 2 (mU c)
def lr(c:Cs):Pe->M T:=(cZ (cT (cU 0) cX) (eG c))
def sr(c:Cs):En->O:=(dA (lF (gh (cZ (cT (cU 0) cX) (ee c))))
  (eg (gq fY (cT (fu (gG [none] (eW (cZ (cT (cU 0) cX) (eB c))) (gR 0) (λ_=>.ok true) (lr c))) cX))))
def iw(c:Cs):List T->M T:=iB 1 1 (sr c)
def mH(c:Cs):Pe->M T:=(cZ (cT (cU 0) cX) (dM c))
def sW(c:Cs):En->O:=(dA (lF (gh (cZ (cT (cU 0) cX) (ee c))))
  (dA (setO 1 (gh (fu (wK (cU 0) (cM (.str ":"))))))
  (dA (iW (ei (de (dz true) (gq hV (cT (cU 1) cX)) (cM (.int 2)))) (λ_=>.bad) ek)
  (dA (setO 2 (gh (fu (gG [none] (eW (cZ (cT (de fV (cU 1) (cM (.int 0))) cX) (eB c))) (gR 0) (λ_=>.ok true) (mH c)))))
  (dA (setO 3 (gh (gq fY (cT (fu (l7 (cU 2) (fu (lstM (cT (cZ (cT (de fV (cU 1) (cM (.int 1))) cX) (dM c)) cX))))) cX))))
  (dA (iW (fQ (ei (cZ (cT (gq hV (cT (cU 2) cX)) (cT (cU 3) cX)) (g6 c)))) (λ_=>.bad) ek)
  (eg (cU 3))))))))
def gj(c:Cs):List T->M T:=iB 1 4 (sW c)
def jP(c:Cs):Pe->M T:=(cZ (cT (cU 0) cX) (gj c))
def nc(c:Cs):En->O:=(dA (lF (gh (cZ (cT (cU 0) cX) (ee c))))
  (dA (setO 1 (gh (fu (wK (cU 0) (cM (.str " "))))))
  (dA (setO 2 (gh (cZ (cT (de fV (cU 1) (cM (.int 0))) cX) (dM c))))
  (dA (setO 3 (gh (fu (gG [none] (eW (jS (cU 1) (gO (cM (.int 1))) (λ_=>.ok none))) (gR 0) (λ_=>.ok true) (jP c)))))
  (eg (cZ (cT (cU 2) (cT (cU 3) cX)) (eN c)))))))
def gd(c:Cs):List T->M T:=iB 1 4 (nc c)
def kM(c:Cs):Pe->M T:=(Ga [("+",1),("0",0),("-",-1)] (cU 0))
def kG(c:Cs):Pe->M T:=(Hr [("+",1),("0",0),("-",-1)] (cU 0))
def qC(c:Cs):En->O:=(dA (lF (gh (cZ (cT (cU 0) cX) (ee c))))
  (dA (iW (ei (de (dz false) (cU 0) (cM (.str ".")))) (eg (iK cX)) ek)
  (dA (iW (jV (ei (de (dz false) (cU 0) (cM (.str "")))) (fQ (ei (gq nk (cT (fu (gG [none] (qd (cU 0)) (gR 0) (λ_=>.ok true) (kM c))) cX))))) (λ_=>.bad) ek)
  (eg (gq fY (cT (fu (gG [none] (qd (cU 0)) (gR 0) (λ_=>.ok true) (kG c))) cX))))))
def gZ(c:Cs):List T->M T:=iB 1 1 (qC c)
def sD(c:Cs):En->O:=(dA (iW (ei (de (dz false) (de fV (cU 0) (cM (.int 1))) (cM (.int 1)))) (eg (gq gx (cT (de fV (cU 0) (cM (.int 0))) cX))) ek)
  (eg (de eM (de eM (gq gx (cT (de fV (cU 0) (cM (.int 0))) cX)) (cM (.str "/"))) (gq gx (cT (de fV (cU 0) (cM (.int 1))) cX)))))
def fO(c:Cs):List T->M T:=iB 1 1 (sD c)
def lY(c:Cs):En->O:=(dA (setO 1 (gh (de kU (cZ (cT (cU 0) (cT (cM (.int 1)) (cT (cM (.int 25)) cX))) (c9 c)) (cM (.int 12)))))
  (dA (setO 2 (gh (de eM (cM (.int 1)) (cZ (cT (cU 0) (cT (cM (.int 2)) (cT (cM (.int 12)) cX))) (c9 c)))))
  (dA (iW (ei (de (dz false) (cZ (cT (cU 0) (cT (cM (.int 3)) (cT (cM (.int 2)) cX))) (c9 c)) (cM (.int 1)))) (dA (setO 3 (gh (cM (.int 27182818284590452353602874713526624977572470936999595749669))))
  (dA (setO 1 (gh (de eM (de kU (de jY (de eM (de hZ (cU 0) (cU 3)) (cZ (cT (cU 0) (cT (cM (.int 4)) (cT (de i9 (cM (.int 10)) (cM (.int 9))) cX))) (c9 c))) (de kU (de hZ (cM (.int 2)) (de i9 (cM (.int 10)) (cM (.int 59)))) (cM (.int 1)))) (de i9 (cM (.int 10)) (cM (.int 59)))) (cM (.int 1)))))
  (setO 2 (gh (de eM (cM (.int 1)) (de jY (de hZ (cU 0) (de kU (cU 3) (cM (.int 2)))) (de kU (de i9 (cM (.int 10)) (cM (.int 59))) (cM (.int 1))))))))) ek)
  (eg (cZ (cT (cU 1) (cT (cU 2) cX)) (gw c))))))
def dm(c:Cs):List T->M T:=iB 1 4 (lY c)
def mO(c:Cs):Pe->M T:=(gq gx (cT (cU 0) cX))
def nE(c:Cs):En->O:=(eg (de eM (de eM (pA (cM (.str ",")) (fu (gG [none] (eW (jS (cU 0) (λ_=>.ok none) (gO (vN (λi=>.int (-i)) (cM (.int 1)))))) (gR 0) (λ_=>.ok true) (mO c)))) (cM (.str ":"))) (gq gx (cT (de fV (cU 0) (vN (λi=>.int (-i)) (cM (.int 1)))) cX))))
def eQ(c:Cs):List T->M T:=iB 1 1 (nE c)
def je(c:Cs):Pe->M T:=(cZ (cT (de eM (cU 1) (de hZ (cM (.int 7)) (cU 0))) cX) (dm c))
def ji(c:Cs):Pe->M T:=(cZ (cT (cU 0) cX) (fO c))
def jc(c:Cs):En->O:=(dA (iW (jV (ei (de (dz true) (cZ (cT (cU 1) cX) (eK c)) (cZ (cT (cU 1) cX) (fO c)))) (ei (de (dz true) (cZ (cT (cZ (cT (cU 1) cX) (fO c)) cX) (eG c)) (cU 1)))) (eg (cM (.bl false))) ek)
  (dA (setO 5 (gh (cZ (cT (cU 3) cX) (iw c))))
  (iW (jV (ei (de (dz true) (cZ (cT (cU 2) cX) (gX c)) (cU 3))) (jV (fQ (ei (cZ (cT (cU 5) (cT (gq hV (cT (cU 2) cX)) cX)) (gz c)))) (ei (de (dz true) (cU 5) (cU 2))))) (eg (cM (.bl false))) ek)))
def l3(c:Cs):En->O:=(dA (setO 1 (gh (cZ (cT (cU 0) cX) (dm c))))
  (dA (setO 2 (gh (gq fY (cT (fu (gG [none,some 0] (iz (cT (de eM (cM (.int 1)) (cZ (cT (cU 0) (cT (cM (.int 6)) (cT (cM (.int 3)) cX))) (c9 c))) cX)) (gR 0) (λ_=>.ok true) (je c))) cX))))
  (dA (setO 3 (gh (pA (cM (.str ",")) (fu (gG [none] (eW (cU 2)) (gR 0) (λ_=>.ok true) (ji c))))))
  (dA (kP (iz (cT (cM (.int 2)) cX)) (pI 4) (jc c))
  (eg (cZ (cT (cZ (cT (cZ (cT (cU 1) cX) (fO c)) cX) (eG c)) cX) (eD c)))))))
def eZ(c:Cs):List T->M T:=iB 1 6 (l3 c)
def iI(c:Cs):Pe->M T:=(cZ (cT (cU 0) cX) (eQ c))
def iH(c:Cs):En->O:=(dA (setO 5 (gh (cZ (cT (cU 3) cX) (gd c))))
  (iW (jV (ei (de (dz true) (cZ (cT (cU 2) cX) (fS c)) (cU 3))) (jV (ei (de (dz true) (oP c.Cutting "dims" (cU 5) cX (eO c)) (cU 0))) (ei (de (dz true) (fu (mx c.Cutting "cuts" (cU 5) cX (eP c))) (cU 1))))) (eg (cM (.bl false))) ek))
def kz(c:Cs):Pe->M T:=(cU 0)
def iG(c:Cs):En->O:=(dA (setO 5 (gh (cZ (cT (cZ (cT (cU 6) cX) (eQ c)) cX) (gj c))))
  (dA (iW (jV (ei (de (dz true) (cZ (cT (cU 6) cX) (fP c)) (cZ (cT (cU 6) cX) (eQ c)))) (jV (fQ (ei (jT "tuple" (cU 5)))) (ei (de (dz true) (cU 5) (cU 6))))) (eg (cM (.bl false))) ek)
  (iW (ei (de (dz true) (fu (gG [none] (eW (cU 5)) (gR 0) (fQ (ei (cZ (cT (cU 0) cX) (eC c)))) (kz c))) (fu (lstM cX)))) (eg (cM (.bl false))) ek)))
def k6(c:Cs):En->O:=(dA (setO 2 (gh (cZ (cT (cU 0) (cT (cU 1) cX)) (eN c))))
  (dA (setO 3 (gh (pA (cM (.str " ")) (fu (l7 (fu (lstM (cT (gq gx (cT (cU 0) cX)) cX))) (fu (gG [none] (eW (cU 1)) (gR 0) (λ_=>.ok true) (iI c))))))))
  (dA (kP (iz (cT (cM (.int 2)) cX)) (pI 4) (iH c))
  (dA (tE (eW (cU 1)) (pI 6) (iG c))
  (eg (cM (.bl true)))))))
def dY(c:Cs):List T->M T:=iB 2 7 (k6 c)
def gW(c:Cs):Pe->M T:=(de fV (cM (.str "-0+")) (de eM (cU 0) (cM (.int 1))))
def lH(c:Cs):Pe->M T:=(cU 0)
def lZ(c:Cs):En->O:=(dA (setO 1 (gh (zF (ei (de (dz true) (cU 0) (iK cX))) (pA (cM (.str "")) (fu (gG [none] (eW (cU 0)) (gR 0) (λ_=>.ok true) (gW c)))) (cM (.str ".")))))
  (dA (setO 2 (gh (cZ (cT (cU 1) cX) (gZ c))))
  (dA (iW (jV (ei (de (dz true) (cZ (cT (cU 0) cX) (gB c)) (cU 1))) (jV (fQ (ei (jT "tuple" (cU 2)))) (ei (de (dz true) (cU 2) (cU 0))))) (eg (cM (.bl false))) ek)
  (eg (de (dz false) (fu (gG [none] (eW (cU 2)) (gR 0) (fQ (ei (cZ (cT (cU 0) cX) (eC c)))) (lH c))) (fu (lstM cX)))))))
def eY(c:Cs):List T->M T:=iB 1 3 (lZ c)
def pF(c:Cs):Pe->M T:=(de fV (cZ (cT (cZ (cT (cU 1) (cT (de eM (cM (.int 9)) (cU 0)) cX)) (dq c)) cX) (dm c)) (cM (.int 0)))
def pJ(c:Cs):Pe->M T:=(de kU (cZ (cT (cU 1) (cT (de eM (cM (.int 8)) (cU 0)) (cT (cM (.int 3)) cX))) (c9 c)) (cM (.int 1)))
def pj(c:Cs):En->O:=(dA (setO 4 (gh (gq fY (cT (fu (gG [none,some 3] (iz (cT (cZ (cT (cU 3) (cT (cM (.int 7)) (cT (cM (.int 8)) cX))) (c9 c)) cX)) (gR 0) (λ_=>.ok true) (pJ c))) cX))))
  (iW (jV (fQ (ei (cZ (cT (cU 3) cX) (eZ c)))) (fQ (ei (cZ (cT (cU 4) cX) (eY c))))) (eg (cM (.bl false))) ek))
def xw(c:Cs):En->O:=(dA (setO 1 (gh (de eM (cM (.int 1)) (cZ (cT (cZ (cT (cU 0) (cT (cM (.int 0)) cX)) (dq c)) (cT (cM (.int 0)) (cT (cM (.int 3)) cX))) (c9 c)))))
  (dA (iW (fQ (ei (cZ (cT (cU 1) (cT (fu (n9 (cT (cU 0) (cT (cM (.int 1)) (cT (cU 1) (cT (cZ (cT (cZ (cT (cU 0) (cT (cM (.int 0)) cX)) (dq c)) (cT (cM (.int 1)) (cT (cM (.int 8)) cX))) (c9 c)) cX)))) (iV c))) cX)) (dY c)))) (eg (cM (.bl false))) ek)
  (dA (setO 2 (gh (gq fY (cT (fu (gG [none,some 0] (iz (cT (cU 1) cX)) (gR 0) (λ_=>.ok true) (pF c))) cX))))
  (dA (iW (lV (ei (de (dz true) (cU 2) (rj (iK (cT (cM (.int 0)) cX)) (cU 1)))) (fQ (ei (cZ (cT (cU 1) (cT (fu (lstM (cT (de eM (cU 2) (iK (cT (de fV (cZ (cT (cZ (cT (cU 0) (cT (cM (.int 8)) cX)) (dq c)) cX) (dm c)) (cM (.int 0))) cX))) cX))) cX)) (dY c))))) (eg (cM (.bl false))) ek)
  (dA (tE (eW (fu (l7 (jS (cU 0) (gO (cM (.int 8))) (gO (cM (.int 20)))) (fu (lstM (cT (cM (.int 0)) (cT (cM (.int 6)) cX))))))) (pI 3) (pj c))
  (eg (oF (cZ (cT (iK cX) cX) (eY c)) (cZ (cT (vN (λi=>.int (-i)) (cM (.int 5))) cX) (eZ c)))))))))
def lb(c:Cs):List T->M T:=iB 1 5 (xw c)
variable {c:Cs}
def jM ns (k:Nat):∃v,dq c [.scr ns,.int k]=.ok (.int v)/\(v=0\/v∈ns):=by
 by_cases h:(k:Int)<ns.length
 .obtain⟨a,e,b⟩:=t9 ns k (by omega) h;exact⟨a,by simp[dq,jo,h,e],.inr b⟩
 .exact⟨0,by simp[dq,jo,h],.inl rfl⟩
def fJ(h:i.natAbs<2 ^ 64):hZ (.int i) (.int j)=.ok (.int (i*j)):=kl (vP h)
def Bf cell (k:Nat) b (A:0<b) (E:b<2 ^ 62) (I:k<=1000000):∃d,c9 c [.int cell,.int (k:Int),.int b]=.ok (.int d)/\0<=d/\d<b:=by
 have f:b≠0:=by omega
 have B:∀x:Int,0<=x.fmod b/\x.fmod b<b:=λx=>⟨cq x A,cu x A⟩;have l:i9 (.int 10) (.int 18)=.ok (.int 1000000000000000000):=by simp[i9,gD]
 by_cases h:(1000000000000000000:Int)<=cell
 .obtain⟨s,e,v,w,rfl⟩:=kv (m:=pI 4) (g:=setO 3 (gh (de mJ (cU 3) (cU 2)))) (λ(i:Nat)=>T.int (i:Int)) (λ_ s=>∃v w,s=[some (.p (.int cell)),some (.p (.int k)),some (.p (.int b)),some (.p (.int v)),w,none])
   (List.range k) 0 [some (.p (.int cell)),some (.p (.int k)),some (.p (.int b)),some (.p (.int cell)),none,none] ⟨_,_,rfl⟩ (by rintro i a s J ⟨v,w,rfl⟩;have C:Builtin.divisionGoesByPylong v b=false:=Bn.noPy (n:=62) (by unfold Bn;omega) (by decide);exact⟨_,_,rfl,.inl (dC (by simp[lg f C];rfl) rfl),_,_,rfl⟩)
  refine⟨v.fmod b,dX rfl ?_,B v⟩;have u:wx (k:Int)=true:=kx (by omega);refine jO (gI (by simp[l,h]) (cY (dC (by simp) rfl) (cY (jg (by simp[u,E3]) e) (dF (by simp[jj f]))))) rfl
 .have r:∀x y:Int,0<y->0<=x.fmod y/\x.fmod y<y:=λx y z=>⟨cq x z,cu x z⟩;have K:=r cell 1000000007 (by decide);have D:=r ((cell.fmod 1000000007+1009*k+17)*69621) 2147483647 (by decide);generalize q:((cell.fmod 1000000007+1009*k+17)*69621).fmod 2147483647=s1 at D;have F:=r (s1*s1+40503*k+5) 2147483629 (by decide);generalize o:(s1*s1+40503*k+5).fmod 2147483629=s2 at F;have H:Builtin.divisionGoesByPylong ((s2*48271).fmod 2147483647) 32=false:=Bn.noPy (n:=62) (by unfold Bn;decide) (by decide);refine⟨(((s2*48271).fmod 2147483647).fdiv 32).fmod b,dX rfl ?_,B _⟩;refine cY (eh (by simp[l,h]) rfl) (cY (dC (t:=.int s1) ?_ rfl) (cY (dC (t:=.int s2) ?_ rfl) (dF ?_)))
  .rw[<-q];simp[jj,fJ (i:=1009) (j:=k) (by decide),fJ (i:=cell.fmod 1000000007+1009*k+17) (j:=69621) (by omega)]
  .rw[<-o];simp[jj,fJ (i:=40503) (j:=k) (by decide),fJ (i:=s1) (j:=s1) (by omega)]
  .simp[jj,f,lg (j:=32) (by decide) H,fJ (i:=s2) (j:=48271) (by omega)]
def dr(c:Cs)(a k b:Int):Int:=match c9 c [.int a,.int k,.int b] with
 |.ok (.int d)=>d
 |_=>0
def eR cell k b (f:0<b) (a:b<2 ^ 62) (h:0<=k) (j:k<=1000000):c9 c [.int cell,.int k,.int b]=.ok (.int (dr c cell k b))/\0<=dr c cell k b/\dr c cell k b<b:=by
 obtain⟨d,e,g,i⟩:=Bf cell k.toNat b f a (by omega);rw[b9 h]at e;have:dr c cell k b=d:=by unfold dr;rw[e]
 rw[this];exact⟨e,g,i⟩
def A3(l:LI)(i:Int)(f:0<=i)(d:i<l.length):∃w,fV (.lst (l.map T.int)) (.int i)=.ok (.int w)/\w∈l:=by obtain⟨a,e,b⟩:=t9 l i f d;exact⟨a,by simp[mX,e],b⟩
def Dx i:(if i<0 then -i else i)=(i.natAbs:Int):=by split<;>omega
def la a b:fG c [.int a,.int b]=.ok (.int (Cu.G a b)):=by
 obtain⟨d,e,x,w,rfl,i⟩:=jH (c:=ei (de (dz true) (cU 1) (cM (.int 0)))) (g:=dA (setO 2 (gh (de jY (cU 0) (cU 1)))) (dA (setO 0 (gh (cU 1))) (setO 1 (gh (cU 2)))))
  (λd=>∃x y w,d=[some (.p (.int x)),some (.p (.int y)),w]/\Cu.G x y=Cu.G a b) (λd=>match d with|_::some (.p (.int j))::_=>j.natAbs|_=>0)
  (λd=>∃x w,d=[some (.p (.int x)),some (.p (.int 0)),w]/\Cu.G x 0=Cu.G a b) (by
   rintro d ⟨x,y,w,rfl,h⟩;by_cases f:y=0
   .subst f;exact .inl ⟨by simp,_,_,rfl,h⟩
   .refine .inr ⟨by simp[f],_,.inl (cY (dC (t:=.int (x.fmod y)) (by simp[jj f]) rfl) (cY (dC (by simp) rfl) (dC (by simp) rfl))),⟨y,x.fmod y,_,rfl,?_⟩,?_⟩
    .rw[<-h];exact Cu.xy x y
    .exact Cu.pb x y f)
  (b.natAbs+1) [some (.p (.int a)),some (.p (.int b)),none] ⟨a,b,none,rfl,rfl⟩ (bx _)
 refine dX rfl (cY e (dF ?_));rw[Cu.zf]at i;simp[Dx,i]
def kL a b:fy c [.int a,.int b]=.ok (.int (Cu.G a b)):=by
 obtain⟨d,e,x,rfl,f,l⟩:=jH (c:=ei (de CI (cU 1) (cM (.int 0)))) (g:=AV 0 1 (cT (cU 1) (cT (de jY (cU 0) (cU 1)) cX)))
  (λd=>∃x y:Int,d=[some (.p (.int x)),some (.p (.int y))]/\0<=x/\0<=y/\Cu.G x y=Cu.G a b) (λd=>match d with|_::some (.p (.int j))::_=>j.natAbs|_=>0)
  (λd=>∃x:Int,d=[some (.p (.int x)),some (.p (.int 0))]/\0<=x/\Cu.G x 0=Cu.G a b) (by
   rintro d ⟨x,y,rfl,f,hy0,h⟩;by_cases i:y=0
   .subst i;exact .inl ⟨by simp,_,rfl,f,h⟩
   .have k:0<y:=by omega
    refine .inr ⟨by simp[k],_,.inl (by simp[jj i]),⟨y,x.fmod y,rfl,hy0,cq x k,?_⟩,?_⟩
    .rw[<-h];exact Cu.xy x y
    .exact Cu.pb x y i)
  ((b.natAbs:Int).natAbs+1) [some (.p (.int (a.natAbs:Int))),some (.p (.int (b.natAbs:Int)))] ⟨_,_,rfl,by omega,by omega,Cu.FB a b⟩ (bx _)
 refine dX rfl (cY (dC (by simp[Dx]) rfl) (cY (dC (t:=.int (b.natAbs:Int)) (by simp[Dx]) rfl) (cY e (dF ?_))));rw[Cu.zf]at l;have:x=Cu.G a b:=by omega
 simp[this]
def vv{t g:Int}(a:g ∣ t)(b:g≠0):(t.fdiv g).natAbs<=t.natAbs:=by obtain⟨k,rfl⟩:=a;rw[cz k b,aY];exact Nat.le_mul_of_pos_left _ (by omega)
noncomputable def ES:T->Bool
 |.scr _=>false
 |.obj _ _=>false
 |.dic _=>false
 |_=>true
noncomputable def isInt:T->Bool
 |.int _=>true
 |_=>false
def rL x (h:ES x=true):gp c [x]=.ok (.bl (isInt x)):=by cases x<;>first|(simp[ES]at h;done)|rfl
def zV x (h:ES x=true):Co "tuple" x=.ok (.bl (mK x)):=by cases x<;>first|(simp[ES]at h;done)|rfl
def ke(bs:List Bool):nk [.lst (bs.map T.bl)]=.ok (.bl (bs.all id)):=by simp
def uq(bs:List Bool):sX [.lst (bs.map T.bl)]=.ok (.bl (bs.any id)):=by simp
noncomputable def j3(d:Nat):T->Bool
 |.tup ts=>decide (ts.length=d+1)&&ts.all isInt&&(match hW ts with|some ns=>(ns.take d).any (· != 0)|none=>false)
 |_=>false
theorem rE:∀ts,ts.all isInt=true->∃a:LI,ts=a.map T.int
 |[],_=>⟨[],rfl⟩
 |t::ts,h=>by
  rw[bY,bI]at h;obtain⟨a,e⟩:=rE ts h.2;cases t with
  |int i=>exact⟨i::a,by rw[e];rfl⟩
  |_=>simp[isInt]at h
def oW(d:Nat)(q:d<=10) x (k:ES x=true) (l:∀ts,x=.tup ts->ts.length<1000/\∀t∈ts,ES t=true):g6 c [.int d,x]=.ok (.bl (j3 d x)):=by
 have sz:1000<sizeLine:=by decide
 by_cases e:mK x=true
 .cases x with
  |tup ts=>
   obtain⟨r,m⟩:=l ts rfl;by_cases g:ts.length=d+1
   .have i:gG [none] (eW (cU 1)) (gR 0) (λ_=>.ok true) (l6 c) (vw (dW 2 [.int d,.tup ts]))=.ok ((ts.map isInt).map T.bl):=by rw[qG ts id (λt=>T.bl (isInt t)) (by simp) (by lia) λt e=>⟨_,rfl,rfl,by simp[l6,rL t (m t e)]⟩];simp
    have j:(L3.jV (L3.fQ (ei (jT "tuple" (cU 1)))) (ei (de (dz true) (gq hV (cT (cU 1) cX)) (de eM (cU 0) (cM (.int 1)))))) (vw (dW 2 [.int d,.tup ts]))=.ok false:=by simp[g]
    by_cases f:ts.all isInt=true
    .obtain⟨b,rfl⟩:=rE ts f;have h:b.length=d+1:=by simpa using g
     have a:j3 d (.tup (b.map T.int))=(b.take d).any (· != 0):=by simp[j3,h,f]
     rw[a];have o:gG [none] (eW (jS (cU 1) (λ_=>.ok none) (gO (cU 0)))) (gR 0) (λ_=>.ok true) (lW c) (vw (dW 2 [.int d,.tup (b.map T.int)]))=.ok (((b.take d).map λn=>n != 0).map T.bl):=by rw[qG (b.take d) T.int (λn=>T.bl (n != 0)) (xJ (by rw[cC];exact rY rfl rfl (by simp;lia))) (by simp;lia) λn g=>⟨_,rfl,rfl,by simp[lW,bne]⟩];rw[aI];rfl
     refine dX rfl (cY (eh j rfl) (cY (eh (f9 (dE (jf i (ke _))) ?_) rfl) (dF (jf o ?_))))
     .rw[bZ];simpa using f
     .rw[uq,List.any_map];rfl
    .have a:j3 d (.tup ts)=false:=by simp[j3,f]
     rw[a];refine dX rfl (cY (eh j rfl) (jO (gI (f9 (dE (jf i (ke _))) ?_) (dF rfl)) rfl));rw[bZ];simpa using f
   .have a:j3 d (.tup ts)=false:=by simp[j3,g]
    rw[a];refine dX rfl (jO (gI ?_ (dF rfl)) rfl);have:¬(ts.length=(d:Int)+1):=by lia
    simp[this]
  |_=>simp[mK]at e
 .have a:j3 d x=false:=by cases x<;>first|rfl|(simp[mK]at e;done)
  rw[a];refine dX rfl (jO (gI ?_ (dF rfl)) rfl);have p:mK x=false:=by simpa using e
  have:=zV x k;rw[p]at this;simp only[L3.jV,L3.fQ,ei,jT,cU,vw,dW,bw,List.map_nil,List.cons_append,bP,List.getElem?_cons_succ,List.getElem?_cons_zero,Hu,M.bind_ok,this];rfl
def sR(d:Nat)(h:1<=d/\d<=3):iQ c [.int d]=.ok (.bl true):=by
 have w:gp c [.int d]=.ok (.bl true):=rfl;have a:(1:Int)<=d:=by lia
 have b:(d:Int)<=3:=by lia
 exact dX rfl (dF (by simp[w,a,b]))
def EW n:(List.replicate n [T.int 0]).flatten=(List.replicate n (0:Int)).map T.int:=by
 induction n with
 |zero=>rfl
 |succ n ih=>rw[bJ,bK,ih,bJ];rfl
def FZ(n:Nat)(d:n<=1000)(h:f ρ=.ok (.int (n:Int))):fu (yY (fu (lstM (cT (cM (.int 0)) cX))) f) ρ=.ok (.lst ((List.replicate n (0:Int)).map T.int)):=by
 have sz:1000<sizeLine:=by decide
 have hr:wx n=true:=kx (by lia);have a:1<=sizeLine:=by decide
 have b:n<=sizeLine:=by lia
 simp[h,hr,a,b,EW]
def E1(n:Nat)(d:n<=1000)(h:f ρ=.ok (.int (n:Int))):rj (iK (cT (cM (.int 0)) cX)) f ρ=.ok (.tup ((List.replicate n (0:Int)).map T.int)):=by
 have sz:1000<sizeLine:=by decide
 have hr:wx n=true:=kx (by lia);have a:1<=sizeLine:=by decide
 have b:n<=sizeLine:=by lia
 simp[h,rM,hr,a,b,EW]
end CL
namespace L3
open PySem L2
theorem kX{q:Type} enc (P:En->Prop) p t:∀(l:List q) (ρ:En),P ρ->
  (∀a∈l,∀ρ,P ρ->∃d,m (enc a) ρ=some d/\(p a=true->∃c,g d=.nx c/\P c)/\(p a=false->g d=.rt t))->
  (l.all p=true->∃ρ',hU m g (l.map enc) ρ=.nx ρ'/\P ρ')/\(l.all p=false->hU m g (l.map enc) ρ=.rt t)
 |[],ρ,h,_=>⟨λ_=>⟨ρ,rfl,h⟩,λh=>by simp at h⟩
 |a::l,ρ,h,st=>by
  obtain⟨d,r,k,o⟩:=st a (by simp) ρ h;rw[bw,hU,r];dsimp only;cases e:p a with
  |true=>obtain⟨c,n,j⟩:=k e;rw[n];have s:=kX enc P p t l c j λb f ρ i=>st b (by simp[f]) ρ i;rw[bY,e,Bool.true_and];exact s
  |false=>rw[o e,bY,e,Bool.false_and];exact⟨λz=>(by cases z),λ_=>rfl⟩
end L3
namespace CL
open PySem L2 L3
variable {c:Cs}
def sd ns:hW (ns.map T.int)=some ns:=by simp
def Ei(a:LI):xv [.lst (a.map T.int)]=.ok (.int a.sum):=by simp
end CL
namespace CL
open PySem L2 L3
variable {c:Cs}
def y9(l:List α)(k:Nat) h:lP l (k:Int)=some l[k]:=by unfold lP qW;rw[aQ (by lia),aQ (by lia)];simp[h]
def AG(l:LI) k (h:k<l.length):lP l (k:Int)=some (l.getD k 0):=by rw[y9 l k h,af,ag h];rfl
def getD_mem(l:LI) k (h:k<l.length):l.getD k 0∈l:=by rw[af,ag h];exact aV h
def jD l (k:Nat) (h:k<l.length):fV (tI l) (.int (k:Int))=.ok (.int (l.getD k 0)):=by simp[tI,mX,AG l k h]
def FW x xs:fV (.lst (x::xs)) (.int 0)=.ok x:=by have h:=y9 (x::xs) 0 (by simp);have a:lP (x::xs) 0=some x:=h;show (match lP (x::xs) 0 with|some t=>M.ok t|none=>.bad)=_;rw[a]
def Ht n (x:T):(List.replicate n [x]).flatten=List.replicate n x:=by
 induction n with
 |zero=>rfl
 |succ n ih=>rw[bJ,bK,ih,bJ];rfl
end CL
namespace CL
abbrev Vc:=Nat->Int
end CL
namespace CL
open PySem L2 L3
variable {c:Cs}
noncomputable def vc(l:LI):Vc:=λi=>l.getD i 0
def pB l i h:vc l i=l[i]:=by unfold vc;rw[af,ag h];rfl
def vQ{a:Type}(l:List a) k v (h:l[k]? = some v):l.take (k+1)=l.take k++[v]:=by rw[List.take_succ,h];rfl
def BB:Bn n 0:=by unfold Bn;exact Nat.two_pow_pos _
def mW(e:fa ρ=.ok (.lst a))(d:fb ρ=.ok (.lst b))(f:a.length+b.length<=sizeLine):l7 fa fb ρ=.ok (a++b):=by simp only[l7,e,d,M.bind_ok];rw[aQ f]
def zq(h:f ρ=.ok a):fu (lstM (cT f cX)) ρ=.ok (.lst [a]):=by
 have b:1<=sizeLine:=by decide
 simp only[fu,lstM,cT,cX,h,M.bind_ok,tj,az,cG,b,if_true]
def G5(h:f ρ=.ok a):iK (cT f cX) ρ=.ok (.tup [a]):=by
 have b:1<=sizeLine:=by decide
 simp only[iK,cT,cX,h,M.bind_ok,tj,az,cG,b,if_true]
def Ep(h:f ρ=.ok a)(d:g ρ=.ok b):iK (cT f (cT g cX)) ρ=.ok (.tup [a,b]):=by
 have e:2<=sizeLine:=by decide
 simp only[iK,cT,cX,h,d,M.bind_ok,tj,az,cG,e,if_true]
def zY a b (h:a.length+b.length<=sizeLine):eM (.tup a) (.tup b)=.ok (.tup (a++b)):=by unfold eM;exact aQ h
def Dm a b (h:a.length+b.length<=1000):eM (tI a) (tI b)=.ok (tI (a++b)):=by
 have sz:1000<sizeLine:=by decide
 unfold tI;rw[zY _ _ (by simp;lia),aZ]
def oV{d e:Type}[Inhabited e]{P:d->e->Prop}(l:List d)(h:∀a∈l,∃b,P a b):∃f:d->e,∀a∈l,P a (f a):=⟨λa=>Classical.epsilon λb=>P a b,λa g=>Classical.epsilon_spec (h a g)⟩
end CL
namespace CL
open PySem L2 L3
variable {c:Cs}
@[simp] theorem Gd p:fV (fr p) (.int 0)=.ok (.int p.1):=rfl
@[simp] theorem BK p:fV (fr p) (.int 1)=.ok (.int p.2):=rfl
structure Fq(p:Int×Int):Prop where
 pos:0<p.2
 one:Cu.G p.1 p.2=1
def Eg(h:fc ρ=.ok false):lV fc fd ρ=.ok false:=by simp only[L3.lV,h,M.bind_ok];rfl
def Ey(h:fc ρ=.ok true)(a:fd ρ=.ok b):lV fc fd ρ=.ok b:=by simp only[L3.lV,h,a,M.bind_ok];rfl
def qI(h:f ρ=.ok (tI r)):eW f ρ=.ok (r.map T.int):=by unfold eW;rw[h];rfl
def Ab xs x:fV (.lst (xs++[x])) (.int (-1))=.ok x:=by
 have h:lP (xs++[x]) (-1)=some x:=by
  unfold lP qW;have b:1<=(xs.length:Int)+1:=by lia
  have a:(-1+((xs.length:Int)+1)).toNat=xs.length:=by lia
  simp[b,a]
 simp[fV,h]
end CL
namespace CL
open PySem L2 L3
variable {c:Cs}
def i6(h:fc ρ=.ok false)(a:fd ρ=.ok b):L3.jV fc fd ρ=.ok b:=by simp only[L3.jV,h,a,M.bind_ok];rfl
def GL(d B:Nat)(a:LI):Prop:=a.length=d+1/\∀x∈a,Bn B x
structure GC(d B:Nat)(ns:LI):Prop where
 gl:GL d B ns
 re:∃p,p<d/\vc ns p≠0
def GL.mono(h:GL d B ns)(b:B<=B'):GL d B' ns:=⟨h.1,λx a=>(h.2 x a).mono b⟩
def B6 ns k v i (a:k<ns.length):vc (ns.set k v) i=if k=i then v else vc ns i:=by
 unfold vc;rw[af,List.getElem?_set];by_cases h:k=i
 .subst h;rw[aQ rfl,aQ rfl,aQ a];rfl
 .rw[aR h,aR h,<-af]
def Ag n k (h:k<n):qW n (k:Int)=some k:=by unfold qW;rw[aQ (by lia),aQ (by lia)];simp
def jC(n:Nat)(h:n<=1000)(a:f ρ=.ok (.int (n:Int))):iz (cT f cX) ρ=.ok ((List.range n).map λ(i:Nat)=>T.int (i:Int)):=by have hr:wx n=true:=kx (by lia);rw[<-E3];simp[a,hr]
noncomputable def gU(a b:LI):Bool:=(List.range a.length).all λk=>(List.range k).all λj=>vc a k*vc b j==vc a j*vc b k
def sx n B a b (u:a.length=n) (L:b.length=n) (N:n<=10) (P:B<=1000) (r:∀x∈a,Bn B x) (v:∀x∈b,Bn B x):gJ c [tI a,tI b]=.ok (.bl (gU a b)):=by
 have sz:1000<sizeLine:=by decide
 have i:=kX (m:=pI 2) (λ(k:Nat)=>T.int (k:Int)) (λρ=>∃o d,ρ=[some (.p (tI a)),some (.p (tI b)),o,d]) (λk=>(List.range k).all λj=>vc a k*vc b j==vc a j*vc b k) (.bl false) (List.range n) [some (.p (tI a)),some (.p (tI b)),none,none] ⟨none,none,rfl⟩ (by
  rintro k D ρ ⟨o,d,rfl⟩;have F:=aS.mp D;refine⟨_,rfl,?_⟩;have l:=kX (m:=pI 3) (g:=mG c) (λ(j:Nat)=>T.int (j:Int)) (λρ=>∃d,ρ=[some (.p (tI a)),some (.p (tI b)),some (.p (.int (k:Int))),d]) (λj=>vc a k*vc b j==vc a j*vc b k) (.bl false) (List.range k) [some (.p (tI a)),some (.p (tI b)),some (.p (.int (k:Int))),d] ⟨d,rfl⟩ (by
   rintro j K ρ ⟨d,rfl⟩;have E:=aS.mp K;have A:=jD a k (by lia);have z:=jD b j (by lia);have J:=jD a j (by lia);have y:=jD b k (by lia);have I:=kl ((r _ (getD_mem a k (by lia))).ok (v _ (getD_mem b j (by lia))) (by lia) (by lia));have C:=kl ((r _ (getD_mem a j (by lia))).ok (v _ (getD_mem b k (by lia))) (by lia) (by lia));have w:ei (de (dz true) (de hZ (de fV (cU 0) (cU 2)) (de fV (cU 1) (cU 3))) (de hZ (de fV (cU 0) (cU 3)) (de fV (cU 1) (cU 2)))) (vw [some (.p (tI a)),some (.p (tI b)),some (.p (.int (k:Int))),some (.p (.int (j:Int)))])=.ok (!(vc a k*vc b j==vc a j*vc b k)):=dE (c6 (c6 (c6 rfl rfl A) (c6 rfl rfl z) I) (c6 (c6 rfl rfl J) (c6 rfl rfl y) C) (j6 _ _))
   refine⟨_,rfl,λh=>⟨_,eh (w.trans (by rw[h];rfl)) rfl,_,rfl⟩,λh=>gI (w.trans (by rw[h];rfl)) (dF rfl)⟩)
  have hr:=jC (f:=cU 2) (ρ:=vw [some (.p (tI a)),some (.p (tI b)),some (.p (.int (k:Int))),d]) k (by lia) rfl;refine⟨λh=>?_,λh=>jg hr (l.2 h)⟩;obtain⟨q,e,H,rfl⟩:=l.1 h;exact⟨_,jg hr e,_,_,rfl⟩)
 have hr:=jC (f:=gq hV (cT (cU 0) cX)) (ρ:=vw (dW 4 [tI a,tI b])) n (by lia) (jK (t:=tI a) rfl (by simp[tI,u]));have s:gU a b=((List.range n).all λk=>(List.range k).all λj=>vc a k*vc b j==vc a j*vc b k):=by unfold gU;rw[u]
 cases h:gU a b with
 |true=>obtain⟨q,e,o,d,rfl⟩:=i.1 (by rw[<-s];exact h);exact dX rfl (cY (jg hr e) (dF rfl))
 |false=>exact dX rfl (jO (jg hr (i.2 (by rw[<-s];exact h))) rfl)
def GC.mono(h:GC d B ns)(a:B<=B'):GC d B' ns:=⟨h.gl.mono a,h.re⟩
def nT a (o:a.length<=100) (h:∃p,p<a.length/\vc a p≠0):∃p:Nat,gA c [tI a]=.ok (.int (p:Int))/\p<a.length/\vc a p≠0:=by
 obtain⟨q,r,l⟩:=h;obtain⟨b,e,p,rfl,f,i⟩:=jH (c:=ei (de (dz false) (de fV (cU 0) (cU 1)) (cM (.int 0)))) (g:=kc c)
  (λb=>∃k:Nat,b=[some (.p (tI a)),some (.p (.int (k:Int)))]/\k<=q) (λb=>match b with|_::some (.p (.int j))::_=>q-j.toNat|_=>0)
  (λb=>∃k:Nat,b=[some (.p (tI a)),some (.p (.int (k:Int)))]/\k<a.length/\vc a k≠0) (by
   rintro b ⟨k,rfl,hk⟩;have m:fV (tI a) (.int (k:Int))=.ok (.int (vc a k)):=jD a k (by lia);by_cases d:vc a k=0
   .have n:k≠q:=λz=>l (by rw[<-z];exact d);refine .inr ⟨dE (c6 (c6 rfl rfl m) rfl (by rw[gE,d];rfl)),_,.inl (dC (c6 rfl rfl (by rw[fg];simp)) rfl),⟨k+1,rfl,by lia⟩,?_⟩;show q-(((k+1:Nat):Int)).toNat<q-((k:Int)).toNat;lia
   .exact .inl ⟨dE (c6 (c6 rfl rfl m) rfl (by rw[gE];simp[d])),k,rfl,by lia,d⟩)
  ((a.map T.int).length+1) [some (.p (tI a)),some (.p (.int ((0:Nat):Int)))] ⟨0,rfl,by lia⟩ (by rw[aw];lia)
 exact⟨p,dX rfl (cY (dC rfl rfl) (cY e (dF rfl))),f,i⟩
def ot d B a b (N:d<=3) (Q:B<=1000) (f:GC d B a) (l:GL d B b) (h:gU a b=false):hC c [tI a,tI b]=.ok (.bl false):=by
 have sz:1000<sizeLine:=by decide
 have K:=f.gl.1;have z:=l.1;obtain⟨q,P,n⟩:=f.re;obtain⟨p,u,t,m⟩:=nT a (by lia) ⟨q,by lia,n⟩;have C:=jD b p (by lia);have w:=jD a p t;have J:gG [none,none,some 1,some 2,some 0] (qL (cT (cU 0) (cT (cU 1) cX))) (wG 2 (kK (gR 0) (kK (gR 1) v7))) (λ_=>.ok true) (kQ c) (vw [some (.p (tI a)),some (.p (tI b)),some (.p (.int p))])=.ok (((a.zip b).map λx=>x.1*vc b p==x.2*vc a p).map T.bl):=fE (a.zip b) (λx=>T.tup [.int x.1,.int x.2]) (λx=>T.bl (x.1*vc b p==x.2*vc a p)) (xH rfl rfl rfl rfl) (by rw[List.length_zip];lia) (λx o=>⟨_,rfl,rfl,by have A:=f.gl.2 _ (aW o).1;have H:=l.2 _ (aW o).2;have y:=l.2 _ (getD_mem b p (by lia));have v:=f.gl.2 _ (getD_mem a p t);exact c6 (c6 rfl (c6 rfl rfl C) (kl (A.ok y (by lia) (by lia)))) (c6 rfl (c6 rfl rfl w) (kl (H.ok v (by lia) (by lia)))) (gE _ _)⟩) (by rw[aI];rfl)
 refine dX rfl (cY (dC (dU rfl u) rfl) (dF (jf J ?_)));rw[ke];congr 2;cases r:((a.zip b).map λx=>x.1*vc b p==x.2*vc a p).all id with
 |false=>rfl
 |true=>
  exfalso;rw[b8]at r;have e:=C4.par_of_place m λi s=>by
   have E:(a.zip b)[i]? = some (a[i],b[i]'(by lia)):=by rw[List.getElem?_zip_eq_some];exact⟨ag s,ag (by lia)⟩
   have:=r _ (aD.mpr ⟨_,au E,rfl⟩);have D:a[i]*vc b p=(b[i]'(by lia))*vc a p:=by simpa using this
   show vc a i*vc b p=vc b i*vc a p;rw[pB a i s,pB b i (by lia)];exact D
  have:gU a b=true:=by unfold gU;refine b8.mpr λk F=>b8.mpr λj L=>?_;have g:=aS.mp F;have I:=aS.mp L;have:=e k j g (by lia);simpa[vc] using this
  rw[h]at this;cases this
structure Cz(d B:Nat)(cs:LL):Prop where
 gc:∀f∈cs,GC d B f
 few:cs.length<=7
 pw:cs.Pairwise λa b=>gU a b=false
def se(h:GC d B ns):j3 d (tI ns)=true:=by
 obtain⟨p,g,a⟩:=h.re;have e:=h.gl.1;unfold tI j3;have f:(ns.map T.int).length=d+1:=by simp[e]
 have j:(ns.map T.int).all isInt=true:=b8.mpr λx b=>by obtain⟨y,-,rfl⟩:=aD.mp b;rfl
 show (decide ((ns.map T.int).length=d+1)&&(ns.map T.int).all isInt&&(match hW (ns.map T.int) with|some ns=>(ns.take d).any (· != 0)|none=>false))=true;rw[aC f,j,sd];refine List.any_eq_true.mpr ⟨vc ns p,?_,by simpa using a⟩;rw[pB ns p (by lia)];refine au (i:=p) ?_;rw[List.getElem?_take,aQ g,ag (by lia)]
def qq d B (b:LL) ns (m:1<=d/\d<=3) (q:B<=1000) (w:b.length<7) (o:∀f∈b,GC d B f) (g:GC d B ns) (n:∀f∈b,gU f ns=false):gP c [.int d,.lst (b.map tI),tI ns]=.ok (.bl true):=by
 have sz:1000<sizeLine:=by decide
 have h:=oW (c:=c) d (by lia) (tI ns) rfl λv e=>by cases e;refine⟨by rw[aw,g.gl.1];lia,λt j=>by obtain⟨y,-,rfl⟩:=aD.mp j;rfl⟩
 rw[se g]at h;have p:gG [none,some 2] (eW (cU 1)) (gR 0) (λ_=>.ok true) (jF c) (vw (dW 3 [.int d,.lst (b.map tI),tI ns]))=.ok ((b.map λ_=>false).map T.bl):=fE b tI (λ_=>T.bl false) rfl (by lia) (λf i=>⟨_,rfl,rfl,gy rfl rfl (ot d B f ns m.2 q (o f i) g.gl (n f i))⟩) (by rw[aI];rfl)
 have s:ei (de Gm (gq hV (cT (cU 1) cX)) (cM (.int 7))) (vw (dW 3 [.int d,.lst (b.map tI),tI ns]))=.ok false:=dE (c6 (x:=.int (b.length:Int)) (jK (t:=.lst (b.map tI)) rfl (by simp)) rfl (by rw[Bo];congr 2;exact aB (by lia)))
 have k:ei (cZ (cT (cU 0) (cT (cU 2) cX)) (g6 c)) (vw (dW 3 [.int d,.lst (b.map tI),tI ns]))=.ok true:=dE (gy rfl rfl h);refine dX rfl (cY (eh ?_ rfl) (dF ?_))
 .simp only[L3.jV,L3.fQ,s,k,M.bind_ok];rfl
 .have r:gq sX (cT (fu (gG [none,some 2] (eW (cU 1)) (gR 0) (λ_=>.ok true) (jF c))) cX) (vw (dW 3 [.int d,.lst (b.map tI),tI ns]))=.ok (.bl false):=by
   refine jf p ?_;rw[uq];congr 2;induction b with
   |nil=>rfl
   |cons a l ih=>simp
  have u:=dE r;simp only[vW,u,M.bind_ok];rfl
def tP d B cs (s:1<=d/\d<=3) (x:B<=1000) (h:Cz d B cs):fL c [.int d,.lst (cs.map tI)]=.ok (.tup (cs.map tI)):=by
 have sz:1000<sizeLine:=by decide
 have j:=h.few;obtain⟨r,e,n,rfl⟩:=kv (m:=pI 3) (g:=jQ c) tI
  (λk r=>∃n:Oq W,r=[some (.p (.int d)),some (.p (.lst (cs.map tI))),some (.o ((cs.take k).map tI)),n])
  cs 0 _ ⟨none,rfl⟩ (by
   rintro k a r b ⟨n,rfl⟩;rw[aG];have w:=(aa.mp b).1;have l:=qq (c:=c) d B (cs.take k) a s x (by rw[bF];lia) (λf j=>h.gc f (cH j)) (h.gc a (au b)) λf j=>by have u:=h.pw;rw[<-List.take_append_drop k cs,cI]at u;refine u.2.2 f j a ?_;refine au (i:=0) ?_;rw[List.getElem?_drop,Nat.add_zero];exact b
   have q:ei (cZ (cT (cU 0) (cT (cU 2) (cT (cU 3) cX))) (gP c)) (vw [some (.p (.int d)),some (.p (.lst (cs.map tI))),some (.o ((cs.take k).map tI)),some (.p (tI a))])=.ok true:=dE (gQ (y:=.lst ((cs.take k).map tI)) (z:=tI a) rfl rfl rfl l);refine⟨_,_,rfl,.inl (cY (eh (f9 q rfl) rfl) (yq (us:=(cs.take k).map tI) (t:=tI a) rfl (jK (t:=tI a) rfl rfl) (by rw[aw,bF];lia) rfl)),some (.p (tI a)),?_⟩;rw[vQ cs k a b,aZ];rfl)
 rw[aG,List.take_length]at e;have A:ei (cZ (cT (cU 0) cX) (iQ c)) (vw (dW 4 [.int d,.lst (cs.map tI)]))=.ok true:=dE (dU rfl (sR d s));have v:ei (jT "list" (cU 1)) (vw (dW 4 [.int d,.lst (cs.map tI)]))=.ok true:=rfl;refine dX rfl (cY (eh ?_ rfl) (cY (qK (ts:=[]) (by simp) rfl) (cY (ug rfl e) (dF rfl))));simp only[L3.jV,L3.fQ,A,v,M.bind_ok];rfl
noncomputable def lS(c:Cs)(d:Nat)(cs:LL):T:=.obj c.Cutting [("own_cuts",.tup (cs.map tI)),("own_dims",.int d)]
def uW d B cs (b:1<=d/\d<=3) (a:B<=1000) (h:Cz d B cs):eN c [.int d,.lst (cs.map tI)]=.ok (lS c d cs):=by have e:=tP (c:=c) d B cs b a h;have q:cZ (cT (cU 1) (cT (cU 2) cX)) (fL c) (none::[T.int d,.lst (cs.map tI)].map some)=.ok (.tup (cs.map tI)):=gy rfl rfl e;unfold eN ph;rw[aQ (show [T.int d,T.lst (cs.map tI)].length=2 from rfl),q];rfl
def zc(h:f ρ=.ok (.obj C fs))(a:fs.lookup x=some t):tX C x f ρ=.ok t:=by unfold tX;rw[h,M.bind_ok];show (if C=C then (match fs.lookup x with|some t=>M.ok t|none=>.bad) else .bad)=_;rw[aQ rfl,a]
def vd(d:Nat)(cs:LL){f:Pe->M T}{ρ:Pe}(b:f ρ=.ok (lS c d cs)):oP c.Cutting "dims" f cX (eO c) ρ=.ok (.int d):=by
 have a:nY c.Cutting "dims" (lS c d cs)=.ok ():=by unfold nY lS;exact aQ ⟨rfl,rfl⟩
 have e:eO c [lS c d cs]=.ok (.int d):=dX rfl (dF (zc rfl rfl));simp only[oP,b,M.bind_ok,a,cX,e,M.noEr_ok]
def vA d cs (b:f ρ=.ok (lS c d cs)):mx c.Cutting "cuts" f cX (eP c) ρ=.ok (cs.map tI):=by
 have a:nY c.Cutting "cuts" (lS c d cs)=.ok ():=by unfold nY lS;exact aQ ⟨rfl,rfl⟩
 have e:eP c [lS c d cs]=.ok (cs.map tI):=yM rfl (AY (by have:tX c.Cutting "own_cuts" (cU 0) (vw (dW 1 [lS c d cs]))=.ok (.tup (cs.map tI)):=zc rfl rfl;simp only[Dj,cT,cX,this,M.bind_ok];rfl))
 simp only[mx,b,M.bind_ok,a,cX,e,M.noEr_ok]
def p6(f:ns.length=d)(b:∀x∈ns,Bn 84 x)(e:Bn 84 v)(hr:∃p,p<d/\vc ns p≠0):GC d 84 (ns++[v]):=by
 refine⟨⟨by simp[f],λx a=>?_⟩,?_⟩
 .rcases ai.mp a with q|q
  .exact b x q
  .rw[aj.mp q];exact e
 .obtain⟨p,g,h⟩:=hr;refine⟨p,g,?_⟩;unfold vc at *;rw[af,List.getElem?_append_left (by lia),<-af];exact h
def Bv(k:ns.length=d)(h:ns≠List.replicate d 0):∃p,p<d/\vc ns p≠0:=by
 refine aO λj=>h (cJ.mpr ⟨k,λb g=>?_⟩);obtain⟨i,f⟩:=List.getElem?_of_mem g;have a:i<d:=by have:=(aa.mp f).1;lia
 refine aO λe=>j ⟨i,a,?_⟩;unfold vc;rw[af,f];exact e
def Dr(b:LI)(g:∀x∈b,x.natAbs<=3):(((b.zip [1,2,(-1:Int)]).map λ(p:Int×Int)=>p.1*p.2).sum).natAbs<=1000:=by
 have e:∀b d:LI,(∀x∈b,x.natAbs<=3)->(((b.zip d).map λ(p:Int×Int)=>p.1*p.2).sum).natAbs<=3*(d.map Int.natAbs).sum:=λb=>by
  induction b with
  |nil=>intro _ _;exact bA _
  |cons a l ih=>
   intro d h;cases d with
   |nil=>exact bA _
   |cons k d=>rw[List.zip_cons_cons,bw,List.sum_cons,bw,List.sum_cons,Nat.mul_add];refine aN (cE _ _) (Nat.add_le_add ?_ (ih d λx f=>h x (bj _ f)));rw[aY];exact cK _ (h a bh)
 exact aN (e b _ g) (by decide)
def tu cell d (fs:LL) (hd:1<=d/\d<=3) (hf:∀f∈fs,GC d 84 f) (hfl:fs.length<=10) :
  ∃u,iP c [.int cell,.int d,.lst (fs.map tI)]=.ok (tI u)/\GC d 84 u:=by
 have sz:1000<sizeLine:=by decide
 let l:LI:=(List.range d).map λ(j:Nat)=>dr c cell j 7-3;have l0:l.length=d:=by simp[l]
 have b0:∀x∈l,x.natAbs<=3:=λx E=>by obtain⟨j,hj,rfl⟩:=aD.mp E;have hj':=aS.mp hj;obtain⟨_,a1,a2⟩:=eR (c:=c) cell j 7 (by lia) (by lia) (by lia) (by lia);lia
 obtain⟨d6,d6a,d6b⟩:=eR (c:=c) cell 6 9 (by decide) (by decide) (by lia) (by lia);obtain⟨d7,d7a,d7b⟩:=eR (c:=c) cell 7 7 (by decide) (by decide) (by lia) (by lia);generalize dr c cell 6 9=c0 at d6 d6a d6b;generalize dr c cell 7 7=way at d7 d7a d7b;let St:LI->Option W->Option W->Option W->En:=λu r s F=>[some (.p (.int cell)),some (.p (.int d)),some (.p (.lst (fs.map tI))),some (.o (u.map T.int)),r,s,F];have e0:gG [none,some 0] (iz (cT (cU 1) cX)) (gR 0) (λ_=>.ok true) (nj c) (iS [some (.p (.int cell)),some (.p (.int d)),some (.p (.lst (fs.map tI))),none,none,none,none])=.ok (l.map T.int):=by refine fE (List.range d) (λ(j:Nat)=>T.int (j:Int)) (λ(j:Nat)=>T.int (dr c cell j 7-3)) (jC d (by lia) rfl) (by simp;lia) (λj hj=>⟨_,rfl,rfl,?_⟩) (by rw[aI];rfl);have hj':=aS.mp hj;obtain⟨e,_,_⟩:=eR (c:=c) cell j 7 (by lia) (by lia) (by lia) (by lia);exact c6 (gQ rfl rfl rfl e) rfl (ip _ _)
 obtain⟨g,e1,l1,b1,r1⟩:∃g,(iW (ei (de (dz false) (cU 3) (fu (yY (fu (lstM (cT (cM (.int 0)) cX))) (cU 1))))) (tZ 3 (qt (cZ (cT (cU 0) (cT (cM (.int 4)) (cT (cU 1) cX))) (c9 c))) (qt (de eM (cM (.int 1)) (cZ (cT (cU 0) (cT (cM (.int 5)) (cT (cM (.int 3)) cX))) (c9 c))))) ek) (St l none none none)=.nx (St g none none none)/\g.length=d/\(∀x∈g,x.natAbs<=3)/\∃p,p<d/\vc g p≠0:=by
  have ec:ei (de (dz false) (cU 3) (fu (yY (fu (lstM (cT (cM (.int 0)) cX))) (cU 1)))) (vw (St l none none none))=.ok (decide (l=List.replicate d 0)):=dE (c6 (x:=.lst (l.map T.int)) (y:=.lst ((List.replicate d (0:Int)).map T.int)) rfl (FZ d (by lia) rfl) (by rw[Cg];rfl))
  by_cases hz:l=List.replicate d 0
  .obtain⟨d4,d4a,d4b⟩:=eR (c:=c) cell 4 d (by lia) (by lia) (by lia) (by lia);obtain⟨d5,d5a,d5b⟩:=eR (c:=c) cell 5 3 (by lia) (by lia) (by lia) (by lia);obtain⟨p,L⟩:∃p:Nat,dr c cell 4 d=(p:Int):=⟨(dr c cell 4 d).toNat,by lia⟩;rw[L]at d4 d4b;refine⟨l.set p (1+dr c cell 5 3),gI (by rw[ec,aC hz]) (Cq (us:=l.map T.int) (t:=.int (1+dr c cell 5 3)) (j:=(p:Int)) (m:=p) rfl (c6 rfl (gQ rfl rfl rfl d5) (fg _ _)) rfl (gQ rfl rfl rfl d4) (Ag _ _ (by rw[aw];lia)) ?_),by rw[List.length_set];exact l0,λx E=>?_,p,by lia,?_⟩
   .simp only[St,List.map_set];rfl
   .rcases List.mem_or_eq_of_mem_set E with q|q
    .exact b0 x q
    .rw[q];lia
   .rw[B6 _ _ _ _ (by lia),aQ rfl];lia
  .exact⟨l,eh (by rw[ec,aB hz]) rfl,l0,b0,Bv l0 hz⟩
 have C:∀x:Int,x.natAbs<=1000->Bn 84 x:=λx E=>Bn.mono (m:=10) (by unfold Bn;lia) (by decide);have hfe:∀I,dz I (.lst (fs.map tI)) (.lst [])=.ok (.bl (if I then !fs.isEmpty else fs.isEmpty)):=λI=>by rw[uA I (fs.map tI) (by simp) (aN (nU fs) (by decide))];simp
 let r:Int->Option W:=λv=>some (.p (.int v));let s:Oq W:=some (.p (.int way));have zC:∀{o:O},(dA (iW (lV (ei (de (dz false) (cU 5) (cM (.int 1)))) (ei (de (dz true) (cU 2) (fu (lstM cX))))) (mj 3 (oq (Dj lX (cT (jS (de fV (cU 2) (cZ (cT (cU 0) (cT (cM (.int 8)) (cT (gq hV (cT (cU 2) cX)) cX))) (c9 c))) (λ_=>.ok none) (gO (cU 1))) cX)))) ek) _) (St g (r (c0-4)) s none)=o->oY c (dW 7 [.int cell,.int d,.lst (fs.map tI)])=o:=λ{o} h=>cY (ρ':=St l none none none) (qK e0 rfl) (cY (ρ':=St g none none none) e1 (cY (ρ':=St g (r (c0-4)) none none) (dC (c6 (gQ rfl rfl rfl d6) rfl (ip _ _)) rfl) (cY (ρ':=St g (r (c0-4)) s none) (dC (gQ rfl rfl rfl d7) rfl) h)))
 have q1:ei (de (dz false) (cU 5) (cM (.int 1))) (vw (St g (r (c0-4)) s none))=.ok (way==1):=dE (c6 (x:=.int way) rfl rfl (gE _ _));have q2:ei (de (dz true) (cU 2) (fu (lstM cX))) (vw (St g (r (c0-4)) s none))=.ok (!fs.isEmpty):=dE (c6 (x:=.lst (fs.map tI)) (y:=.lst []) rfl (by simp) (by rw[hfe];rfl));have X:∀(u:LI) (v k:Int) F,ei (de (dz false) (cU 5) (cM (.int k))) (vw (St u (r v) s F))=.ok (way==k):=λu v k F=>dE (c6 (x:=.int way) rfl rfl (gE _ _));have D:∀(u:LI) (v:Int) F,u.length=d->eg (gq fY (cT (fu (l7 (cU 3) (fu (lstM (cT (cU 4) cX))))) cX)) (St u (r v) s F)=.rt (tI (u++[v])):=λu v F hl=>dF (jK (t:=.lst (u.map T.int++[.int v])) (e7 (mW (a:=u.map T.int) (b:=[.int v]) rfl (zq rfl) (by simp;lia))) (by simp[tI]))
 have B:∀(u:LI) (v:Int) F,(L3.jV (ei (de (dz false) (cU 5) (cM (.int 2)))) (ei (de (dz false) (cU 5) (cM (.int 3))))) (vw (St u (r v) s F))=.ok (way==2||way==3):=λu v F=>by simp only[L3.jV,X,M.bind_ok];cases way==2<;>rfl
 have N:¬(way=1/\fs≠[])->(L3.lV (ei (de (dz false) (cU 5) (cM (.int 1)))) (ei (de (dz true) (cU 2) (fu (lstM cX))))) (vw (St g (r (c0-4)) s none))=.ok false:=λhc=>by
  simp only[L3.lV,q1,q2,M.bind_ok];by_cases J:way=1
  .have hn:fs=[]:=by
    by_cases hn:fs=[]
    .exact hn
    .exact absurd ⟨J,hn⟩ hc
   rw[J,hn];rfl
  .have:(way==1)=false:=by simpa using J
   rw[this];rfl
 by_cases hA:way=1/\fs≠[]
 .obtain⟨J,S⟩:=hA;have hlp:=cL.mpr S;obtain⟨d3,d3a,d3b⟩:=eR (c:=c) cell 8 fs.length (by lia) (by lia) (by lia) (by lia);obtain⟨f,ef,hfm⟩:=t9 fs (dr c cell 8 fs.length) d3a d3b;have gf:=hf f hfm;have tl:(f.take d).length=d:=by rw[bF,gf.gl.1];lia
  have nd:∀k:Int,k≠1->(way==k)=false:=λk hk=>by simp[J];lia
  refine⟨f.take d++[c0-4],dX rfl (zC (cY (ρ':=St (f.take d) (r (c0-4)) s none) (gI ?_ (qK (ts:=(f.take d).map T.int) ?_ rfl)) (cY (eh (by rw[B,nd 2 (by decide),nd 3 (by decide)];rfl) rfl) (cY (eh (by rw[X,nd 4 (by decide)]) rfl) (D _ _ _ tl))))),p6 tl (λx E=>gf.gl.2 x (cH E)) (C _ (by lia)) ?_⟩
  .simp only[L3.lV,q1,q2,M.bind_ok];rw[J];simp[S]
  .have:=rY (fe:=de fV (cU 2) (cZ (cT (cU 0) (cT (cM (.int 8)) (cT (gq hV (cT (cU 2) cX)) cX))) (c9 c))) (fd:=cU 1) (d:=d) (ts:=f.map T.int) (ρ:=iS (St g (r (c0-4)) s none)) (c6 (x:=.lst (fs.map tI)) (y:=.int (dr c cell 8 fs.length)) rfl (gQ (z:=.int (fs.length:Int)) rfl rfl (jK rfl (by simp)) d3) (by simp[mX,ef,tI])) rfl (by rw[aw,gf.gl.1];lia);simp only[Dj,cT,cX,this,M.bind_ok];rw[cC];rfl
  .obtain⟨p,L,h⟩:=gf.re;refine⟨p,L,?_⟩;unfold vc at *;rw[af,List.getElem?_take,aQ L,<-af];exact h
 .have Y:∀x∈g,Bn 84 x:=λx E=>C x (by have:=b1 x E;lia);by_cases H:way=2\/way=3
  .have t23:(way==2||way==3)=true:=by rcases H with h|h<;>rw[h]<;>rfl
   have n4:(way==4)=false:=by rcases H with h|h<;>rw[h]<;>rfl
   let v:Int:=((g.zip [1,2,-1]).map λp=>p.1*p.2).sum;have ez:gG [none,none] (qL (cT (cU 3) (cT (fu (lstM (cT (cM (.int 1)) (cT (cM (.int 2)) (cT (vN (λi=>.int (-i)) (cM (.int 1))) cX))))) cX))) (wG 2 (kK (gR 0) (kK (gR 1) v7))) (λ_=>.ok true) (nG c) (vw (St g (r (c0-4)) s none))=.ok (((g.zip [1,2,-1]).map λp=>p.1*p.2).map T.int):=fE (g.zip [1,2,-1]) (λp=>T.tup [.int p.1,.int p.2]) (λp=>T.int (p.1*p.2)) (xH (x:=.lst (g.map T.int)) (y:=.lst ([1,2,-1].map T.int)) rfl rfl (e7 rfl) rfl) (by rw[List.length_zip];lia) (λp L=>⟨_,rfl,rfl,c6 rfl rfl (fJ (by have:=b1 _ (aW L).1;lia))⟩) (by rw[aI];rfl)
   have vb:=Dr g b1;exact⟨g++[v],dX rfl (zC (cY (eh (N hA) rfl) (cY (ρ':=St g (r v) s none) (gI (by rw[B,t23]) (um (jf ez (Ei _)) rfl rfl)) (cY (eh (by rw[X,n4]) rfl) (D _ _ _ l1))))),p6 l1 Y (C _ vb) r1⟩
  .have P:(way==2||way==3)=false:=by have h2:¬way=2:=λz=>H (.inl z);have h3:¬way=3:=λz=>H (.inr z);simp[h2,h3]
   by_cases h4:way=4
   .obtain⟨d9,d9a,d9b⟩:=eR (c:=c) cell 9 1000000 (by decide) (by decide) (by lia) (by lia);obtain⟨d11,R,Z⟩:=eR (c:=c) cell 11 3 (by decide) (by decide) (by lia) (by lia);obtain⟨d10,Q,U⟩:=eR (c:=c) cell 10 7 (by decide) (by decide) (by lia) (by lia);obtain⟨w,ew,hw⟩:=A3 [1,1,1000000000000000000] (dr c cell 11 3) R (by simpa using Z);have e18:i9 (.int 10) (.int 18)=.ok (.int 1000000000000000000):=by simp[i9,gD]
    have e6:i9 (.int 10) (.int 6)=.ok (.int 1000000):=by simp[i9,gD]
    generalize dr c cell 9 1000000=f0 at d9 d9a d9b;generalize dr c cell 10 7=g0 at d10 Q U;let n:Int:=(1+f0)*w;have hw':1<=w/\w<=1000000000000000000:=by simp only[aF,List.mem_nil_iff,or_false]at hw;lia
    have K:n.natAbs<=1000000*1000000000000000000:=by show ((1+f0)*w).natAbs<=_;rw[aY];exact cN (by lia) (by lia)
    have hfar1:1<=n:=by have:0<(1+f0)*w:=Int.mul_pos (by lia) (by lia);show 1<=(1+f0)*w;lia
    have hl3:fu (lstM (cT (cM (.int 1)) (cT (cM (.int 1)) (cT (de i9 (cM (.int 10)) (cM (.int 18))) cX)))) (iS (St g (r (c0-4)) s none))=.ok (.lst ([1,1,1000000000000000000].map T.int)):=by
     have o:de i9 (cM (.int 10)) (cM (.int 18)) (iS (St g (r (c0-4)) s none))=.ok (.int 1000000000000000000):=c6 rfl rfl e18;have h3:3<=sizeLine:=by decide
     simp only[fu,lstM,cT,cX,cM,o,M.bind_ok];rfl
    let A:LI:=g.map λx=>x*n;have es:gG [none,some 6] (eW (cU 3)) (gR 0) (λ_=>.ok true) (nv c) (vw (St g (r (c0-4)) s (some (.p (.int n)))))=.ok (A.map T.int):=fE g T.int (λx=>T.int (x*n)) rfl (by lia) (λx E=>⟨_,rfl,rfl,c6 rfl rfl (fJ (by have:=b1 x E;lia))⟩) (by rw[aI];rfl)
    refine⟨A++[(c0-4)*n+g0],dX rfl (zC (cY (eh (N hA) rfl) (cY (eh (by rw[B,P]) rfl) (cY (ρ':=St A (r ((c0-4)*n+g0)) s (some (.p (.int n)))) (gI (by rw[X,h4];rfl) (cY (ρ':=St g (r (c0-4)) s (some (.p (.int n)))) (dC (c6 (c6 rfl (gQ (z:=.int 1000000) rfl rfl (c6 rfl rfl e6) d9) (fg _ _)) (c6 (x:=.lst ([1,1,1000000000000000000].map T.int)) (y:=.int (dr c cell 11 3)) hl3 (gQ rfl rfl rfl d11) ew) (fJ (by lia))) rfl) (cY (ρ':=St A (r (c0-4)) s (some (.p (.int n)))) (AE es (x9 _) rfl) (dC (c6 (c6 rfl rfl (fJ (by lia))) (gQ rfl rfl rfl d10) (fg _ _)) rfl)))) (D _ _ _ (by simp[A,l1])))))),p6 (by simp[A,l1]) (λx E=>?_) ?_ ?_⟩
    .obtain⟨y,hy,rfl⟩:=aD.mp E;have:=b1 y hy;unfold Bn;rw[aY];refine cO (cN this K) (by decide)
    .unfold Bn;have J:((c0-4)*n).natAbs<=5*(1000000*1000000000000000000):=by rw[aY];exact cN (by lia) K
     have h2:=cE ((c0-4)*n) g0;refine cO (aN h2 (Nat.add_le_add J (show g0.natAbs<=7 by lia))) (by decide)
    .obtain⟨p,L,h⟩:=r1;refine⟨p,L,?_⟩;have:vc A p=vc g p*n:=by unfold vc;rw[af,af,av];cases g[p]?<;>simp
     rw[this];exact Int.mul_ne_zero h (by lia)
   .exact⟨g++[c0-4],dX rfl (zC (cY (eh (N hA) rfl) (cY (eh (by rw[B,P]) rfl) (cY (eh (by rw[X];simp[h4]) rfl) (D _ _ _ l1))))),p6 l1 Y (C _ (by lia)) r1⟩
def uj(h:a.length=b.length):gU a b=gU b a:=by
 unfold gU;rw[h];congr 1;funext k;congr 1;funext j;rw[cy (vc a k),cy (vc a j)];by_cases q:vc b j*vc a k=vc b k*vc a j
 .rw[beq_iff_eq.mpr q,beq_iff_eq.mpr q.symm]
 .rw[beq_eq_false_iff_ne.mpr q,beq_eq_false_iff_ne.mpr λz=>q z.symm]
def sk ns (s d h:Nat) (L:1<=d/\d<=3) (X:h<=7):∃cs:LL,iV c [.scr ns,.int s,.int d,.int h]=.ok (cs.map tI)/\Cz d 84 cs/\cs.length<=h:=by
 have sz:1000<sizeLine:=by decide
 obtain⟨I,e,cs,H,u,rfl,w,r,A⟩:=kv (m:=pI 5) (g:=mD c) (λ(i:Nat)=>T.int (i:Int))
  (λk I=>∃(cs:LL) (H u:Oq W),I=[some (.p (.scr ns)),some (.p (.int s)),some (.p (.int d)),some (.p (.int h)),some (.o (cs.map tI)),H,u]/\cs.length<=k/\(∀f∈cs,GC d 84 f)/\cs.Pairwise λa b=>gU a b=false)
  (List.range h) 0 _ ⟨[],none,none,rfl,aK _,(λf n=>nomatch n),List.Pairwise.nil⟩ (by
   rintro i k I E ⟨cs,H,u,rfl,w,r,A⟩;rw[aG]at w ⊢;have C:i<h:=by simpa using (aa.mp E).1
   have F:k=i:=by rw[List.getElem?_range C]at E;cases E;rfl
   subst F;obtain⟨v,U,-⟩:=jM ns (s+k);obtain⟨j,P,z⟩:=tu v d cs L r (by lia);let R:En:=[some (.p (.scr ns)),some (.p (.int s)),some (.p (.int d)),some (.p (.int h)),some (.o (cs.map tI)),some (.p (.int (k:Int))),some (.p (tI j))];have S:gG [none,some 6] (eW (cU 4)) (gR 0) (ei (cZ (cT (cU 1) (cT (cU 0) cX)) (gJ c))) (j1 c) (vw R)=.ok ((cs.filter λf=>gU j f).map tI):=zh cs tI tI (λf=>gU j f) rfl (by lia) (λf n=>⟨_,rfl,dE (gy rfl rfl (sx (d+1) 84 j f z.gl.1 (r f n).gl.1 (by lia) (by lia) z.gl.2 (r f n).gl.2)),λ_=>rfl⟩) rfl
   have K:ei (de (dz false) (fu (gG [none,some 6] (eW (cU 4)) (gR 0) (ei (cZ (cT (cU 1) (cT (cU 0) cX)) (gJ c))) (j1 c))) (fu (lstM cX))) (vw R)=.ok (cs.filter λf=>gU j f).isEmpty:=by refine dE (c6 (y:=.lst []) (e7 S) (by simp) ?_);rw[uA false _ (by simp) (aN (nU _) (by decide))];simp
   have J:setO 6 (qt (cZ (cT (cZ (cT (cU 0) (cT (de eM (cU 1) (cU 5)) cX)) (dq c)) (cT (cU 2) (cT (cU 4) cX))) (iP c))) [some (.p (.scr ns)),some (.p (.int s)),some (.p (.int d)),some (.p (.int h)),some (.o (cs.map tI)),some (.p (.int (k:Int))),u]=.nx R:=um (t:=tI j) (gQ (gy (x:=.scr ns) (y:=.int ((s+k:Nat):Int)) rfl (c6 rfl rfl (by rw[fg];simp)) U) rfl rfl P) (Fm j) rfl
   by_cases B:(cs.filter λf=>gU j f)=[]
   .refine⟨_,_,rfl,.inl (cY J (gI (K.trans (by rw[B];rfl)) (yq (us:=cs.map tI) (t:=tI j) rfl rfl (by simp;lia) rfl))),cs++[j],_,_,by rw[aZ];rfl,by simp;lia,λf n=>?_,cI.mpr ⟨A,cP _ _,λf n g D=>?_⟩⟩
    .rcases ai.mp n with q|q
     .exact r f q
     .rw[aj.mp q];exact z
    .rw[aj.mp D,uj (by rw[(r f n).gl.1,z.gl.1])];cases Q:gU j f with
     |false=>rfl
     |true=>have:=aU.mpr ⟨n,Q⟩;rw[B]at this;exact nomatch this
   .refine⟨_,_,rfl,.inl (cY J (eh (K.trans (by
     cases N:(cs.filter λf=>gU j f) with
     |nil=>exact absurd N B
     |cons a l=>rfl)) rfl)),cs,_,_,rfl,by lia,r,A⟩)
 rw[aG,cQ]at w;exact⟨cs,yM rfl (cY (qK (ts:=[]) (by simp) rfl) (cY (jg (jC h (by lia) rfl) e) rfl)),⟨r,by lia,A⟩,w⟩
def Ie a b (e:(PyData.str a).canLay0=true) (d:(PyData.str b).canLay0=true):dz false (.str a) (.str b)=.ok (.bl (a==b)):=by simp[dz,ka,jl,e,d]
end CL
namespace CL
open PySem L2 L3 PySem.NumText PyProof.Rows
variable {c:Cs}
def vo(x:Str):c5 x.cps.toList=x:=by unfold c5;simp
def fz(l:List Nat):(c5 l).cps.toList=l:=by unfold c5;simp
def eU(l:List Nat):(c5 l).length=l.length:=by simp[c5,Str.length]
def xf{a b:List Nat}(h:c5 a=c5 b):a=b:=by have:=congrArg (λx:Str=>x.cps.toList) h;simpa[c5] using this
def nS(a b:List Nat):c5 a++c5 b=c5 (a++b):=by refine Str.ext' ?_;rw[Str.cps_append];simp[c5]
def uY(a b:List Nat):(c5 a==c5 b)=decide (a=b):=by
 by_cases h:a=b
 .rw[h,aC rfl];simp
 .rw[aB h];exact beq_eq_false_iff_ne.mpr λz=>h (xf z)
def qV(l:List Nat):Prop:=∀x∈l,x<128
def uC{l:List Nat}(h:qV l):(c5 l).cps.all (· < 128)=true:=by rw[<-Array.all_toList,fz];exact b8.mpr λx a=>aC (h x a)
def m6{l:List Nat}(h:qV l):(PyData.str (c5 l)).canLay0=true:=by rw[PyData.canLay0];show (c5 l).cps.all (· < 0x110000)=true;rw[<-Array.all_toList,fz];exact b8.mpr λx a=>aC (Nat.lt_trans (h x a) (by decide))
def FS{a b:List Nat}(d:qV a)(e:qV b):dz false (.str (c5 a)) (.str (c5 b))=.ok (.bl (decide (a=b))):=by rw[Ie _ _ (m6 d) (m6 e),uY]
def ET{a b:List Nat}(e:qV a)(d:qV b):dz true (.str (c5 a)) (.str (c5 b))=.ok (.bl (!decide (a=b))):=by have f:=m6 e;have g:=m6 d;rw[<-uY];simp[dz,ka,f,g]
structure Dg(ds:List Nat):Prop where
 all:AllDigits ds
 ne:ds≠[]
 len:ds.length<=60
 nz:ds=[48]\/ds.head?≠some 48
def Dg.asc{a:List Nat}(D:Dg a):qV a:=λx b=>by have:=D.all x b;lia
def za(x:Nat)(h:48<=x/\x<=57):inS ⟨#[x]⟩ "0123456789" = true:=by
 have:x=48\/x=49\/x=50\/x=51\/x=52\/x=53\/x=54\/x=55\/x=56\/x=57:=by lia
 rcases this with rfl|rfl|rfl|rfl|rfl|rfl|rfl|rfl|rfl|rfl<;>decide +kernel
def zK{fa a:Pe->M T}{ρ:Pe}(h:fa ρ=.ok (.bl true)):DY fa a ρ=.ok (.bl true):=by simp only[DY,dE h,M.bind_ok];rfl
def CB{fa a:Pe->M T}{ρ:Pe}{t:T}(h:fa ρ=.ok (.bl false))(b:a ρ=.ok t):DY fa a ρ=.ok t:=by simp only[DY,dE h,M.bind_ok,b];rfl
def GZ{x:Nat}{r:List Nat}(h:(x::r).length<=1000):fV (.str (c5 (x::r))) (.int 0)=.ok (.str (c5 [x])):=by
 have sz:1000<sizeLine:=by decide
 have a:lP (x::r) ((0:Nat):Int)=some x:=A6 rfl;show (if (c5 (x::r)).length<=sizeLine then (match lP (c5 (x::r)).cps.toList ((0:Nat):Int) with|some c=>M.ok (T.str ⟨#[c]⟩)|none=>.bad) else .bad)=_;rw[eU,aQ (by lia),fz,a];rfl
def uB{a:List Nat}(D:Dg a):gC c [.str (c5 a),.int 60]=.ok (.bl true):=by
 have sz:1000<sizeLine:=by decide
 have u:=D.len;have B:1<=a.length:=cL.mpr D.ne;let g:En:=[some (.p (.str (c5 a))),some (.p (.int 60))];have s:gq hV (cT (cU 0) cX) (vw g)=.ok (.int (a.length:Int)):=jK (t:=.str (c5 a)) rfl (by simp only[hV];rw[eU,aQ (by lia)])
 have w:ei (Dc yg yg (cM (.int 1)) (gq hV (cT (cU 0) cX)) (cU 1)) (vw g)=.ok true:=by
  refine dE ?_;unfold Dc;rw[s];have v:yg (.int 1) (.int (a.length:Int))=.ok (.bl true):=by show M.ok (T.bl (decide ((1:Int)<=(a.length:Int))))=_;rw[aC (by lia)]
  have m:yg (.int (a.length:Int)) (.int 60)=.ok (.bl true):=by show M.ok (T.bl (decide ((a.length:Int)<=60)))=_;rw[aC (by lia)]
  show ((M.ok (T.int 1)).bind λx=>(M.ok (T.int (a.length:Int))).bind λy=>(yg x y).bind _)=_;rw[M.bind_ok,M.bind_ok,v,M.bind_ok];exact m
 have m:gG [none] (qd (cU 0)) (gR 0) (λ_=>.ok true) (kb c) (vw g)=.ok (a.map λ_=>T.bl true):=by
  refine fE a (λx=>T.str ⟨#[x]⟩) (λ_=>T.bl true) ?_ (by lia) (λx f=>⟨_,rfl,rfl,c6 rfl rfl ?_⟩) rfl
  .show (M.ok (T.str (c5 a))).bind _=_;rw[M.bind_ok];dsimp only;rw[aQ (uC D.asc),fz]
  .show M.ok (T.bl (inS ⟨#[x]⟩ "0123456789"))=_;rw[za x (D.all x f)]
 have A:nk [.lst (a.map λ_=>T.bl true)]=.ok (.bl true):=by have:=ke (a.map λ_=>true);rw[aI]at this;refine this.trans ?_;simp
 refine dX rfl (cY (eh (i6 (f9 w rfl) (f9 (dE (jf m A)) rfl)) rfl) (dF ?_));have i:qV [48]:=λx f=>by rw[aj.mp f];decide
 have d:de (dz false) (cU 0) (cM (.str "0")) (vw g)=.ok (.bl (decide (a=[48]))):=c6 rfl rfl (FS (b:=[48]) D.asc i);rcases D.nz with h|h
 .rw[aC h]at d;exact zK d
 .obtain⟨x,r,e⟩:∃x r,a=x::r:=by
   cases a with
   |nil=>exact absurd rfl D.ne
   |cons x r=>exact⟨x,r,rfl⟩
  have f:x≠48:=λz=>h (by rw[e,z];rfl);have k:a≠[48]:=λz=>by rw[e]at z;cases z;exact f rfl
  rw[aB k]at d;have o:de fV (cU 0) (cM (.int 0)) (vw g)=.ok (.str (c5 [x])):=c6 (x:=.str (c5 a)) (y:=.int 0) rfl rfl (by have l:=D.len;rw[e]at l ⊢;exact GZ (by lia))
  have q:qV [x]:=λy n=>D.asc y (by rw[e];rw[aj.mp n];simp);have j:de (dz true) (de fV (cU 0) (cM (.int 0))) (cM (.str "0")) (vw g)=.ok (.bl true):=c6 o rfl ((ET (b:=[48]) q i).trans (by rw[aB (by intro z;cases z;exact f rfl)];rfl));exact CB d j
def nm(i:Int):List Nat:=(Str.ofString (toString i)).cps.toList
def Eo(i:Int):Str.ofString (toString i)=c5 (nm i):=(vo _).symm
def p7(m:Nat):nm (m:Int)=(Nat.toDigits 10 m).map Char.toNat:=W.KIN.signs_num m
def DW(m:Nat):nm (Int.negSucc m)=45::nm ((m+1:Nat):Int):=by unfold nm;rw[signs_ofString,signs_ofString];show ("-" ++toString (Nat.succ m)).toList.map Char.toNat=_;rw[String.toList_append,aZ];rfl
def BH(m:Nat)(h:m<10 ^ 60):Dg (nm (m:Int))/\digitsVal (nm (m:Int))=m:=by
 have all:AllDigits (nm (m:Int)):=by intro x i;rw[p7]at i;obtain⟨t,g,e⟩:=aD.mp i;have r:=digit_range (Nat.isDigit_of_mem_toDigits (by decide) (by decide) g);rw[<-e];exact r
 have f:digitsVal (nm (m:Int))=m:=by rw[p7];exact W.KIN.val_back m
 have ne:nm (m:Int)≠[]:=by rw[p7];intro e;have h:=toDigits_len_ge 10 m;rw[cR.mp e]at h;exact absurd h (by decide)
 have len:(nm (m:Int)).length<=60:=by have:=toString_length_le (v:=(m:Int)) (k:=60) (by lia) (by decide) (by exact_mod_cast h);unfold nm;simpa[Str.length] using this
 refine⟨⟨all,ne,len,?_⟩,f⟩;by_cases a:(nm (m:Int)).head? = some 48
 .left;have b:=toDigits_all _ all;rw[f]at b;have d:(nm (m:Int)).length=(Nat.toDigits 10 m).length:=by rw[p7,aw]
  obtain⟨r,e⟩:∃r,nm (m:Int)=48::r:=by
   cases n:nm (m:Int) with
   |nil=>exact absurd n ne
   |cons x r=>rw[n]at a;cases a;exact⟨r,rfl⟩
  rw[e]at b d ⊢;have q:(48::r).dropWhile (· == 48)=r.dropWhile (· == 48):=by rw[List.dropWhile_cons];rfl
  rw[q]at b;have o:=(List.dropWhile_suffix (p:=(· == 48)) (l:=r)).length_le;cases j:r.dropWhile (· == 48) with
  |nil=>rw[j]at b;rw[b]at d;have:r=[]:=cj.mp (by simpa using d);rw[this]
  |cons y s=>rw[j]at b o;rw[b,aw]at d;simp only[az]at d o;lia
 .exact .inr a
end CL
namespace CL
open PySem L2 L3 PySem.NumText PyProof.Rows
variable {c:Cs}
def Nw(i:Int):Prop:=i.natAbs<10 ^ 60
def yo(i:Int)(h:Nw i):(∃a,nm i=a/\Dg a/\((digitsVal a:Nat):Int)=i)\/∃a,nm i=45::a/\Dg a/\-((digitsVal a:Nat):Int)=i/\a≠[48]:=by
 cases i with
 |ofNat m=>obtain⟨D,v⟩:=BH m h;exact .inl ⟨_,rfl,D,by rw[show Int.ofNat m=(m:Int) from rfl,v]⟩
 |negSucc m=>obtain⟨D,v⟩:=BH (m+1) h;refine .inr ⟨_,DW m,D,by rw[v];rfl,λz=>?_⟩;rw[z]at v;exact absurd v.symm (Nat.succ_ne_zero m)
def nN{i:Int}(h:Nw i):∀x∈nm i,x=45\/(48<=x/\x<=57):=λx a=>by
 rcases yo i h with⟨b,e,D,_⟩|⟨b,e,D,_⟩
 .rw[e]at a;exact .inr (D.all x a)
 .rw[e]at a;rcases aF.mp a with q|q
  .exact .inl q
  .exact .inr (D.all x q)
def iF{i:Int}(h:Nw i):1<=(nm i).length/\(nm i).length<=61:=by
 rcases yo i h with⟨a,e,D,_⟩|⟨a,e,D,_⟩
 .rw[e];exact⟨cL.mpr D.ne,aN D.len (by decide)⟩
 .rw[e,az];have:=D.len;lia
def uf{i:Int}(h:Nw i):qV (nm i):=λx a=>by have:=nN h x a;lia
def oI(l:List Nat):EO (c5 l) "-" = decide (l.head? = some 45):=by
 have e:("-" : Str)=c5 [45]:=rfl;rw[e];unfold EO;rw[StrLaws.subAt_eq,fz,fz,eU,eU];cases l with
 |nil=>rfl
 |cons x r=>
  show (decide (0+1<=r.length+1)&&([x]==[45]))=decide (some x=some 45);rw[aC (by lia),Bool.true_and];by_cases a:x=45
  .rw[a];rfl
  .rw[aB (by intro z;cases z;exact a rfl)];simp[a]
def jw{i:Int}(h:Nw i):dM c [.str (c5 (nm i))]=.ok (.int i):=by
 have sz:1000<sizeLine:=by decide
 have d:qV [45,48]:=λx k=>by
  have:x=45\/x=48:=by simpa using k
  lia
 have o:=iF h;let R (n:Oq W):En:=[some (.p (.str (c5 (nm i)))),n];rcases yo i h with⟨a,e,D,v⟩|⟨a,e,D,v,m⟩
 .have j:a.head?≠some 45:=λz=>by
   cases a with
   |nil=>cases z
   |cons x r=>cases z;have:=D.all 45 (by simp);lia
  have g:ei (EH (cU 0) (cM (.str "-"))) (iS (R none))=.ok false:=by refine dE ?_;show M.ok (T.bl (EO (c5 (nm i)) "-"))=_;rw[oI,e,aB j]
  have f:zF (ei (EH (cU 0) (cM (.str "-")))) (FJ (cU 0)) (cU 0) (iS (R none))=.ok (.str (c5 a)):=by simp only[zF,g,M.bind_ok];show M.ok (T.str (c5 (nm i)))=_;rw[e]
  have ne:decide (nm i=[45,48])=false:=aB λz=>by rw[e]at z;rw[z]at j;exact j rfl
  refine dX rfl (cY (ρ':=R (some (.p (.str (c5 a))))) (dC f rfl) (cY (eh (i6 (f9 (dE (gy rfl rfl (uB D))) rfl) (dE (c6 rfl rfl ((FS (b:=[45,48]) (uf h) d).trans (by rw[ne]))))) rfl) (dF (jK (t:=.str (c5 (nm i))) rfl ?_))));unfold tK;dsimp only;rw[aQ (by rw[eU];lia),intText_digits (by rw[fz,e];exact D.all) (by rw[fz,e];exact D.ne) (by rw[eU];lia),fz,e];dsimp only;rw[v]
 .have g:ei (EH (cU 0) (cM (.str "-"))) (iS (R none))=.ok true:=by refine dE ?_;show M.ok (T.bl (EO (c5 (nm i)) "-"))=_;rw[oI,e];rfl
  have l:FJ (cU 0) (iS (R none))=.ok (.str (c5 a)):=by show (M.ok (T.str (c5 (nm i)))).bind _=_;rw[M.bind_ok];dsimp only;rw[aQ (by rw[eU];lia)];unfold Fe;rw[fz,e];rfl
  have f:zF (ei (EH (cU 0) (cM (.str "-")))) (FJ (cU 0)) (cU 0) (iS (R none))=.ok (.str (c5 a)):=by simp only[zF,g,M.bind_ok,if_true];exact l
  have ne:decide (nm i=[45,48])=false:=aB λz=>by rw[e]at z;cases z;exact m rfl
  refine dX rfl (cY (ρ':=R (some (.p (.str (c5 a))))) (dC f rfl) (cY (eh (i6 (f9 (dE (gy rfl rfl (uB D))) rfl) (dE (c6 rfl rfl ((FS (b:=[45,48]) (uf h) d).trans (by rw[ne]))))) rfl) (dF (jK (t:=.str (c5 (nm i))) rfl ?_))));unfold tK;dsimp only;rw[aQ (by rw[eU];lia),intText_neg (cs:=a) (by rw[fz,e]) D.all D.ne (by rw[eU];lia)];dsimp only;rw[v]
def jI{i:Int}(h:Nw i):gx [.int i]=.ok (.str (c5 (nm i))):=by
 unfold gx;have:i.natAbs.log2<1920:=by
  by_cases a:i.natAbs=0
  .rw[a];decide
  .refine (Nat.log2_lt a).mpr (aE h ?_);exact aN (show 10 ^ 60<=2 ^ 200 by decide +kernel) (cD (by decide) (by decide))
 dsimp only;rw[aQ this];rw[Eo]
def yB(x:Nat)(a:List (List Nat)):Txt.join (c5 [x]) (a.map c5)=c5 (fN x a):=by show Builtin.Str.glued (c5 [x]) (a.map c5)=_;rw[StrLaws.glued_eq_join];have:=sS x (a.map c5);rw[aI]at this;have e:a.map ((λp:Str=>p.cps.toList) ∘ c5)=a:=(cf λl _=>fz l).trans (List.map_id a);rw[e]at this;rw[<-this];exact (vo _).symm
def BJ(a:List (List Nat)):jW (a.map λl=>T.str (c5 l))=some (a.map c5):=by have:=oR (a.map c5);rw[aI]at this;exact this
def qN{fo fa:Pe->M T}{ρ:Pe}(x:Nat)(a:List (List Nat))(h:a.length<=1000)(e:∀l∈a,l.length<=1000)(f:fo ρ=.ok (.str (c5 [x])))(g:fa ρ=.ok (.lst (a.map λl=>T.str (c5 l)))):pA fo fa ρ=.ok (.str (c5 (fN x a))):=by
 have ok:JoinOk (c5 [x]) (a.map c5)=true:=by
  unfold JoinOk;have:=StrLaws.joinFits (sep:=c5 [x]) (texts:=a.map c5) (B:=1000) (λy d=>by
   obtain⟨l,b,rfl⟩:=aD.mp d;rw[eU];exact e l b) (by
   rw[aw,eU];show a.length*1000+a.length*1<=16777216;lia)
  rw[this];rfl
 simp only[pA,f,g,M.bind_ok,BJ,ok,if_true,yB]
def vz{fo fa:Pe->M T}{ρ:Pe}(x:Nat)(l:List Nat)(d:l.length<=10000)(a:fo ρ=.ok (.str (c5 l)))(b:fa ρ=.ok (.str (c5 [x]))):wK fo fa ρ=.ok ((iD x l).map λl=>T.str (c5 l)):=by
 have sz:10000<sizeLine:=by decide
 simp only[wK,a,b,M.bind_ok];show (if (c5 l).length<sizeLine then M.ok ((iD x (c5 l).cps.toList).map λl=>T.str (c5 l)) else .bad)=_;rw[eU,fz,aQ (by lia)]
def jy(l:List Nat):ee c [.str (c5 l)]=.ok .non:=rfl
end CL
namespace CL
open PySem L2 L3 PySem.NumText PyProof.Rows
variable {c:Cs}
def AL(a b:List Nat)(h:a.length+b.length<=10000):eM (.str (c5 a)) (.str (c5 b))=.ok (.str (c5 (a++b))):=by
 have sz:10000<sizeLine:=by decide
 show (if (c5 a).length+(c5 b).length<=sizeLine then M.ok (T.str (c5 a++c5 b)) else .bad)=_;rw[eU,eU,aQ (by lia),nS]
def m3(p:Int×Int):List Nat:=if p.2=1 then nm p.1 else nm p.1++47::nm p.2
structure Fw(p:Int×Int):Prop where
 fq:Fq p
 n1:Nw p.1
 n2:Nw p.2
def r0{i:Int}(h:Nw i){x:Nat}(a:x≠45/\¬(48<=x/\x<=57)):x∉nm i:=λz=>(nN h x z).elim a.1 a.2
def xK{p:Int×Int}(F:Fw p):∀x∈m3 p,x=45\/(47<=x/\x<=57):=λx a=>by
 unfold m3 at a;split at a
 .have:=nN F.n1 x a;lia
 .rcases ai.mp a with q|q
  .have:=nN F.n1 x q;lia
  .rcases aF.mp q with q|q
   .lia
   .have:=nN F.n2 x q;lia
def mZ{p:Int×Int}(F:Fw p):(m3 p).length<=123:=by
 have a:=iF F.n1;have b:=iF F.n2;unfold m3;split
 .lia
 .rw[aT,az];lia
def uS{p:Int×Int}(F:Fw p):qV (m3 p):=λx a=>by have:=xK F x a;lia
def m8{p:Int×Int}(F:Fw p):eK c [fr p]=.ok (.str (c5 (m3 p))):=by
 have g:=iF F.n1;have i:=iF F.n2;let a:En:=[some (.p (fr p))];have f:de fV (cU 0) (cM (.int 0)) (vw a)=.ok (.int p.1):=c6 (x:=fr p) (y:=.int 0) rfl rfl rfl;have d:de fV (cU 0) (cM (.int 1)) (vw a)=.ok (.int p.2):=c6 (x:=fr p) (y:=.int 1) rfl rfl rfl;have b:gq gx (cT (de fV (cU 0) (cM (.int 0))) cX) (vw a)=.ok (.str (c5 (nm p.1))):=jK f (jI F.n1);have e:gq gx (cT (de fV (cU 0) (cM (.int 1))) cX) (vw a)=.ok (.str (c5 (nm p.2))):=jK d (jI F.n2);have t:ei (de (dz false) (de fV (cU 0) (cM (.int 1))) (cM (.int 1))) (vw a)=.ok (decide (p.2=1)):=dE (c6 d rfl (by rw[gE];rfl));unfold m3;by_cases h:p.2=1
 .rw[aC h]at t;rw[aQ h];exact dX rfl (jO (gI t (dF b)) rfl)
 .rw[aB h]at t;rw[aR h];refine dX rfl (cY (eh t rfl) (dF (c6 (c6 b rfl (AL (nm p.1) [47] (by simp;lia))) e ((AL (nm p.1++[47]) (nm p.2) (by simp;lia)).trans ?_))));rw[bL];rfl
def iL{p:Int×Int}(F:Fw p):fO c [fr p]=.ok (.str (c5 (m3 p))):=m8 (c:=c) F
def DN{p:Int×Int}(F:Fw p):iD 47 (m3 p)=if p.2=1 then [nm p.1] else [nm p.1,nm p.2]:=by
 have a:47∉nm p.1:=r0 F.n1 ⟨by decide,by decide⟩;have b:47∉nm p.2:=r0 F.n2 ⟨by decide,by decide⟩;unfold m3;split
 .exact jB 47 _ a
 .rw[lL 47 _ _ a,jB 47 _ b]
def pV{p:Int×Int}(F:Fw p):eG c [.str (c5 (m3 p))]=.ok (fr p):=by
 have m:=mZ F;have d:=DN F;let R (k g f:Oq W):En:=[some (.p (.str (c5 (m3 p)))),k,g,f];have e:fu (wK (cU 0) (cM (.str "/"))) (iS (R none none none))=.ok (.lst ((iD 47 (m3 p)).map λl=>T.str (c5 l))):=e7 (vz 47 (m3 p) (by lia) rfl rfl);have j:=F.fq.pos;refine dX rfl (cY (kj (dU rfl (jy _))) (cY (ρ':=R (some (.p (.lst ((iD 47 (m3 p)).map λl=>T.str (c5 l))))) none none) (dC e rfl) ?_));by_cases h:p.2=1
 .rw[aQ h]at d;rw[d];have i:m3 p=nm p.1:=aQ h;refine jO (gI (dE (c6 (x:=.int 1) (y:=.int 1) rfl rfl (by rw[gE];rfl))) (dF (Ep (a:=.int p.1) (b:=.int 1) (dU rfl ?_) rfl))) ?_
  .show dM c [.str (c5 (m3 p))]=_;rw[i];exact jw F.n1
  .unfold fr;rw[h]
 .rw[aR h]at d;rw[d];let P:T:=.lst [.str (c5 (nm p.1)),.str (c5 (nm p.2))];have lt:ei (de Gj (cU 3) (cM (.int 2))) (vw (R (some (.p P)) (some (.p (.int p.1))) (some (.p (.int p.2)))))=.ok false:=by refine dE (c6 (x:=.int p.2) (y:=.int 2) rfl rfl ?_);show M.ok (T.bl (decide (p.2<2)))=_;rw[aB (by lia)]
  refine cY (eh (dE (c6 (x:=.int 2) (y:=.int 1) rfl rfl (by rw[gE];rfl))) rfl) (cY (eh (dE (c6 (x:=.int 2) (y:=.int 2) rfl rfl (by rw[j6];rfl))) rfl) (cY (ρ':=R (some (.p P)) (some (.p (.int p.1))) none) (dC (dU (c6 (x:=P) (y:=.int 0) rfl rfl rfl) (jw F.n1)) rfl) (cY (ρ':=R (some (.p P)) (some (.p (.int p.1))) (some (.p (.int p.2)))) (dC (dU (c6 (x:=P) (y:=.int 1) rfl rfl rfl) (jw F.n2)) rfl) (cY (eh (i6 lt (dE (c6 (gy rfl rfl (la p.1 p.2)) rfl ?_))) rfl) (dF (Ep rfl rfl))))));rw[j6,F.fq.one];rfl
def EM(s:List (Int×Int)):List Nat:=fN 44 (s.map m3)
theorem ko{x B:Nat}:∀(a:List (List Nat)),(∀l∈a,l.length<=B)->(fN x a).length<=a.length*(B+1)
 |[],_=>bA _
 |[p],h=>by have:=h p (by simp);show p.length<=1*(B+1);lia
 |p::q::r,h=>by have b:=ko (x:=x) (q::r) λl d=>h l (bj _ d);have:=h p (by simp);rw[fN,aT,az];simp only[az]at b ⊢;rw[bO]at b ⊢;rw[bO];lia
theorem km{x:Nat}{Q:Nat->Prop}(a:Q x):∀(b:List (List Nat)),(∀l∈b,∀y∈l,Q y)->∀y∈fN x b,Q y
 |[],_,y,hy=>by cases hy
 |[p],h,y,hy=>h p (by simp) y hy
 |p::q::r,h,y,hy=>by
  rw[fN]at hy;rcases ai.mp hy with z|z
  .exact h p (by simp) y z
  .rcases aF.mp z with z|z
   .rw[z];exact a
   .exact km a (q::r) (λl d=>h l (bj _ d)) y z
def xG{s:List (Int×Int)}(e:s.length<=3)(b:∀p∈s,Fw p):gX c [tS s]=.ok (.str (c5 (EM s))):=by
 have sz:1000<sizeLine:=by decide
 refine dX rfl (dF (qN 44 (s.map m3) (by rw[aw];lia) (λl d=>by obtain⟨p,a,rfl⟩:=aD.mp d;exact aN (mZ (b p a)) (by decide)) rfl (e7 ?_)))
 rw[aI];exact fE s fr (λp=>T.str (c5 (m3 p))) rfl (by lia) (λp a=>⟨_,rfl,rfl,dU rfl (m8 (b p a))⟩) rfl
def yi(a:List (List Nat))(f:a≠[])(h:a.length<=3)(b:∀l∈a,l.length<=200)(d:∀l∈a,44∉l):eB c [.str (c5 (fN 44 a))]=.ok (.lst (a.map λl=>T.str (c5 l))):=by
 have g:=ko (x:=44) a b;have e:wK (cU 0) (cM (.str ",")) (iS (dW 2 [.str (c5 (fN 44 a))]))=.ok (a.map λl=>T.str (c5 l)):=by have:=vz (fo:=cU 0) (fa:=cM (.str ",")) (ρ:=iS (dW 2 [.str (c5 (fN 44 a))])) 44 (fN 44 a) (by lia) rfl rfl;rw[kg 44 a f d]at this;exact this
 refine dX rfl (cY (ρ':=[some (.p (.str (c5 (fN 44 a)))),some (.p (.lst (a.map λl=>T.str (c5 l))))]) (dC (e7 e) rfl) (cY (eh (dE (c6 (x:=.int (a.length:Int)) (y:=.int 3) (jK (t:=.lst (a.map λl=>T.str (c5 l))) rfl (by simp)) rfl ?_)) rfl) (dF rfl)));show M.ok (T.bl (decide ((3:Int)<(a.length:Int))))=_;rw[aB (by lia)]
def Bm{s:List (Int×Int)}(f:1<=s.length)(g:s.length<=3)(d:∀p∈s,Fw p):iw c [.str (c5 (EM s))]=.ok (tS s):=by
 have sz:1000<sizeLine:=by decide
 have a:=yi (c:=c) (s.map m3) (by intro z;rw[cR.mp z]at f;simp at f) (by rw[aw];exact g) (λl b=>by
  obtain⟨p,a,rfl⟩:=aD.mp b;exact aN (mZ (d p a)) (by decide)) λl b z=>by
  obtain⟨p,a,rfl⟩:=aD.mp b;have:=xK (d p a) 44 z;lia
 rw[aI]at a;have e:gG [none] (eW (cZ (cT (cU 0) cX) (eB c))) (gR 0) (λ_=>.ok true) (lr c) (vw (dW 1 [.str (c5 (EM s))]))=.ok (s.map fr):=fE s (λp=>T.str (c5 (m3 p))) fr (j2 (dU rfl a)) (by lia) (λp a=>⟨_,rfl,rfl,dU rfl (pV (d p a))⟩) rfl
 exact dX rfl (cY (kj (dU rfl (jy _))) (dF (jf e rfl)))
end CL
namespace CL
open PySem L2 L3
variable {c:Cs}
def nQ p (h:Fq p):eD c [fr p]=.ok (.bl true):=by have d:(L3.jV (L3.fQ (ei (jT "tuple" (cU 0)))) (L3.jV (ei (de (dz true) (gq hV (cT (cU 0) cX)) (cM (.int 2)))) (L3.jV (L3.fQ (ei (cZ (cT (de fV (cU 0) (cM (.int 0))) cX) (eC c)))) (L3.fQ (ei (cZ (cT (de fV (cU 0) (cM (.int 1))) cX) (eC c))))))) (vw (dW 1 [fr p]))=.ok false:=rfl;refine dX rfl (cY (eh d rfl) (dF ?_));have b:de CI (de fV (cU 0) (cM (.int 1))) (cM (.int 0)) (vw (dW 1 [fr p]))=.ok (.bl true):=c6 (c6 rfl rfl (BK p)) rfl (by rw[Ah];simp[h.pos]);have e:de (dz false) (cZ (cT (de fV (cU 0) (cM (.int 0))) (cT (de fV (cU 0) (cM (.int 1))) cX)) (fy c)) (cM (.int 1)) (vw (dW 1 [fr p]))=.ok (.bl true):=c6 (gy (c6 rfl rfl (Gd p)) (c6 rfl rfl (BK p)) (kL p.1 p.2)) rfl (by rw[gE,h.one];rfl);have a:=dE b;simp only[oF,a,e,M.bind_ok];rfl
def wD(d:Nat) s (b:s.length=d) (h:d<=3) (e:∀p∈s,Fq p):gz c [tS s,.int d]=.ok (.bl true):=by
 have sz:1000<sizeLine:=by decide
 have a:gG [none] (eW (cU 0)) (gR 0) (λ_=>.ok true) (j7 c) (vw (dW 2 [tS s,.int d]))=.ok ((s.map λ_=>true).map T.bl):=fE s fr (λ_=>T.bl true) rfl (by lia) (λp f=>⟨_,rfl,rfl,dU rfl (nQ p (e p f))⟩) (by simp)
 have g:(L3.jV (L3.fQ (ei (jT "tuple" (cU 0)))) (ei (de (dz true) (gq hV (cT (cU 0) cX)) (cU 1)))) (vw (dW 2 [tS s,.int d]))=.ok false:=by simp[tS,b]
 exact dX rfl (cY (eh g rfl) (dF (jf a (by rw[ke];simp))))
def oG t b (i:0<b) (g:Bn 8000 b):∃p,gw c [.int t,.int b]=.ok (fr p)/\Fq p/\p.1.natAbs<=t.natAbs/\p.2.natAbs<=b.natAbs:=by
 have a:b≠0:=by lia
 have j:=Cu.BR t b a;have h:=Cu.GV t b a;have e:Cu.G t b≠0:=by lia
 have d:∀x:Int,Builtin.divisionGoesByPylong x (Cu.G t b)=false:=λx=>by refine Bn.noPy (n:=8000) ?_ (by decide);unfold Bn at *;refine cO ?_ g;lia
 have f:=Cu.xu t b a;rw[aR (by lia)]at f;refine⟨(t.fdiv (Cu.G t b),b.fdiv (Cu.G t b)),dX rfl (cY (dC (gy rfl rfl (kL t b)) rfl) (dF (Ep (c6 rfl rfl (lg e (d t))) (c6 rfl rfl (lg e (d b)))))),⟨f.pos,f.one⟩,vv (Cu.nC t b) e,vv (Cu.j4 t b) e⟩
def Cz.mono(h:Cz d B us)(b:B<=B'):Cz d B' us:=⟨λf a=>(h.gc f a).mono b,h.few,h.pw⟩
end CL
namespace CL
open PySem L2 L3
variable {c:Cs}
def BP(h:u.length=d+1)(a:f ρ=.ok (tI u)):jS f (λ_=>.ok none) (gO (vN (λi=>.int (-i)) (cM (.int 1)))) ρ=.ok (tI u.dropLast):=by
 have:=w5 a λz=>by have:=congrArg List.length z;simp at this;rw[this]at h;simp at h
 rw[<-List.map_dropLast]at this;exact this
end CL
namespace CL
open PySem L2 L3 PySem.NumText PyProof.Rows
variable {c:Cs}
def ur(l:LI)(x:Int):List Nat:=fN 44 (l.map nm)++58::nm x
def rX(l:LI)(x:Int):fV (tI (l++[x])) (.int (-1))=.ok (.int x):=by have:=Ab (l.map T.int) (T.int x);unfold tI;rw[aZ];simp only[fV]at this ⊢;exact this
section
variable {l:LI}{x:Int}
def qY(e:l.length<=3)(b:∀i∈l,Nw i):(fN 44 (l.map nm)).length<=200:=by
 have:=ko (x:=44) (B:=61) (l.map nm) λp d=>by obtain⟨i,a,rfl⟩:=aD.mp d;exact (iF (b i a)).2
 rw[aw]at this;lia
def uO(d:l.length<=3)(b:∀i∈l,Nw i)(a:Nw x):(ur l x).length<=300:=by have e:=qY d b;have f:=iF a;unfold ur;rw[aT,az];lia
def vq(d:∀i∈l,Nw i):∀y∈fN 44 (l.map nm),y=44\/y=45\/(48<=y/\y<=57):=km (.inl rfl) _ λp e y a=>by obtain⟨i,b,rfl⟩:=aD.mp e;exact .inr (nN (d i b) y a)
def zl(d:∀i∈l,Nw i)(b:Nw x):∀y∈ur l x,y=44\/y=45\/(48<=y/\y<=58):=λy a=>by
 unfold ur at a;rcases ai.mp a with q|q
 .have:=vq d y q;lia
 .rcases aF.mp q with q|q
  .lia
  .have:=nN b y q;lia
def A7(d:∀i∈l,Nw i)(b:Nw x):qV (ur l x):=λy a=>by have:=zl d b y a;lia
def yA{fo fi:Pe->M T}{e:Pe->M T}{ρ:Pe}(k:l.length<=3)(g:∀i∈l,Nw i)(f:fo ρ=.ok (.str (c5 [44])))(a:fi ρ=.ok (tI l))(h:∀i∈l,∀ρ',ρ'[0]? = some (some (.int i))->e ρ'=.ok (.str (c5 (nm i))))(d:List (Option Nat))(b:d=[none]) :
  pA fo (fu (gG d (eW fi) (gR 0) (λ_=>.ok true) e)) ρ=.ok (.str (c5 (fN 44 (l.map nm)))):=by
 have sz:1000<sizeLine:=by decide
 subst b;refine qN 44 (l.map nm) (by rw[aw];lia) (λp j=>by obtain⟨i,a,rfl⟩:=aD.mp j;exact aN (iF (g i a)).2 (by decide)) f (e7 ?_)
 rw[aI];exact fE l T.int (λi=>T.str (c5 (nm i))) (qI a) (by lia) (λi a=>⟨_,rfl,rfl,h i a _ rfl⟩) rfl
def BD{i:Int}(h:Nw i)(ρ:Pe)(e:ρ[0]? = some (some (.int i))):gq gx (cT (cU 0) cX) ρ=.ok (.str (c5 (nm i))):=jK (by simp only[cU,e]) (jI h)
def qe(f:l.length<=3)(b:∀i∈l,Nw i):iA c [tI l]=.ok (.str (c5 (fN 44 (l.map nm)))):=dX rfl (dF (yA (fo:=cM (.str ",")) (fi:=cU 0) (e:=lM c) f b rfl rfl (λi d a e=>BD (b i d) a e) _ rfl))
def wU(k:l.length<=3)(j:∀i∈l,Nw i)(h:Nw x){f g e:Pe->M T}{ρ:Pe}(m:f ρ=.ok (.str (c5 (fN 44 (l.map nm)))))(n:g ρ=.ok (.str (c5 [58])))(d:e ρ=.ok (.str (c5 (nm x)))):de eM (de eM f g) e ρ=.ok (.str (c5 (ur l x))):=by have a:=qY k j;have b:=iF h;refine c6 (c6 m n (AL _ _ (by simp;lia))) d ((AL _ _ (by simp;lia)).trans ?_);unfold ur;rw[bL];rfl
def qm(e:l.length<=3)(b:∀i∈l,Nw i)(a:Nw x):fP c [tI (l++[x])]=.ok (.str (c5 (ur l x))):=by refine dX rfl (dF (wU e b a (dU (x:=tI l) ?_ (qe e b)) rfl (jK (t:=.int x) (c6 (x:=tI (l++[x])) (y:=.int (-1)) rfl rfl (rX l x)) (jI a))));have:=BP (u:=l++[x]) (d:=l.length) (f:=cU 0) (ρ:=vw (dW 1 [tI (l++[x])])) (by simp) rfl;rw[cS]at this;exact this
def wm(h:l.length<=3)(a:∀i∈l,Nw i)(g:Nw x):eQ c [tI (l++[x])]=.ok (.str (c5 (ur l x))):=by refine dX rfl (dF (wU h a g (yA (l:=l) h a rfl ?_ (λi j b e=>BD (a i j) b e) _ rfl) rfl (jK (t:=.int x) (c6 (x:=tI (l++[x])) (y:=.int (-1)) rfl rfl (rX l x)) (jI g))));have:=BP (u:=l++[x]) (d:=l.length) (f:=cU 0) (ρ:=vw (dW 1 [tI (l++[x])])) (by simp) rfl;rw[cS]at this;exact this
def rC(h:1<=l.length)(g:l.length<=3)(b:∀i∈l,Nw i)(f:Nw x)(v:j3 l.length (tI (l++[x]))=true):gj c [.str (c5 (ur l x))]=.ok (tI (l++[x])):=by
 have sz:1000<sizeLine:=by decide
 have B:=uO g b f;have A:58∉fN 44 (l.map nm):=λz=>by have:=vq b 58 z;lia
 have o:58∉nm x:=r0 f ⟨by decide,by decide⟩;let P:T:=.lst [.str (c5 (fN 44 (l.map nm))),.str (c5 (nm x))];let R (u j m:Oq W):En:=[some (.p (.str (c5 (ur l x)))),u,j,m];have q:fu (wK (cU 0) (cM (.str ":"))) (iS (R none none none))=.ok P:=by have:=vz (fo:=cU 0) (fa:=cM (.str ":")) (ρ:=iS (R none none none)) 58 (ur l x) (by lia) rfl rfl;unfold ur at this;rw[lL 58 _ _ A,jB 58 _ o]at this;exact e7 this
 have a:=yi (c:=c) (l.map nm) (by intro z;rw[cR.mp z]at h;simp at h) (by rw[aw];exact g) (λp a=>by
  obtain⟨i,d,rfl⟩:=aD.mp a;exact aN (iF (b i d)).2 (by decide)) λp a z=>by
  obtain⟨i,d,rfl⟩:=aD.mp a;exact r0 (b i d) ⟨by decide,by decide⟩ z
 rw[aI]at a;have n:gG [none] (eW (cZ (cT (de fV (cU 1) (cM (.int 0))) cX) (eB c))) (gR 0) (λ_=>.ok true) (mH c) (iS (R (some (.p P)) none none))=.ok (l.map T.int):=fE l (λi=>T.str (c5 (nm i))) T.int (j2 (dU (c6 (x:=P) (y:=.int 0) rfl rfl rfl) a)) (by lia) (λi d=>⟨_,rfl,rfl,dU rfl (jw (b i d))⟩) rfl
 have w:gq fY (cT (fu (l7 (cU 2) (fu (lstM (cT (cZ (cT (de fV (cU 1) (cM (.int 1))) cX) (dM c)) cX))))) cX) (iS (R (some (.p P)) (some (.p (.lst (l.map T.int)))) none))=.ok (tI (l++[x])):=by refine jK (e7 (mW rfl (zq (dU (c6 (x:=P) (y:=.int 1) rfl rfl rfl) (jw f))) (by simp;lia))) ?_;unfold tI;rw[aZ];rfl
 have s:g6 c [.int (l.length:Int),tI (l++[x])]=.ok (.bl true):=by rw[oW (c:=c) l.length (by lia) (tI (l++[x])) rfl λC e=>by cases e;exact⟨by rw[aw];simp;lia,λt k=>by obtain⟨y,-,rfl⟩:=aD.mp k;rfl⟩,v]
 refine dX rfl (cY (kj (dU rfl (jy _))) (cY (ρ':=R (some (.p P)) none none) (dC q rfl) (cY (eh (dE (c6 (x:=.int 2) (y:=.int 2) rfl rfl (by rw[j6];rfl))) rfl) (cY (ρ':=R (some (.p P)) (some (.p (.lst (l.map T.int)))) none) (dC (e7 n) rfl) (cY (ρ':=R (some (.p P)) (some (.p (.lst (l.map T.int)))) (some (.p (tI (l++[x]))))) (dC w rfl) (cY (eh (f9 (dE (gy (jK (t:=.lst (l.map T.int)) (r:=.ok (.int (l.length:Int))) rfl (by simp)) rfl s)) rfl) rfl) (dF rfl)))))))
end
end CL
namespace CL
open PySem L2 L3 PySem.NumText PyProof.Rows
variable {c:Cs}
structure CW(d:Nat)(cs:LL):Prop where
 hd:1<=d/\d<=3
 gc:Cz d 200 cs
 nw:∀u∈cs,∀i∈u,Nw i
def uP(d:Nat)(u:LI):List Nat:=ur u.dropLast (vc u d)
def y6(d:Nat)(cs:LL):List Nat:=fN 32 (nm (d:Int)::cs.map (uP d))
section
variable {d:Nat}{cs:LL}
def zJ{u:LI}(h:u.length=d+1):u=u.dropLast++[vc u d]:=by
 have ne:u≠[]:=λz=>by rw[z]at h;cases h
 have e:=(List.dropLast_concat_getLast ne).symm;have:u.getLast ne=vc u d:=by rw[List.getLast_eq_getElem,pB u d (by lia)];congr 1;lia
 rw[this]at e;exact e
def jL(a:1<=d/\d<=3):Nw (d:Int):=by
 show (d:Int).natAbs<10 ^ 60;have:(3:Nat)<10 ^ 60:=by decide +kernel
 lia
def CW.cut(w:CW d cs){u:LI}(a:u∈cs):u=u.dropLast++[vc u d]/\u.dropLast.length=d/\(∀i∈u.dropLast,Nw i)/\Nw (vc u d):=by have b:=(w.gc.gc u a).gl.1;have e:=zJ b;refine⟨e,by rw[List.length_dropLast,b];rfl,λi f=>w.nw u a i (List.dropLast_subset u f),w.nw u a _ ?_⟩;rw[pB u d (by lia)];exact aV _
def CW.shown(w:CW d cs){u:LI}(h:u∈cs):fP c [tI u]=.ok (.str (c5 (uP d u)))/\eQ c [tI u]=.ok (.str (c5 (uP d u)))/\gj c [.str (c5 (uP d u))]=.ok (tI u):=by obtain⟨e,i,g,f⟩:=w.cut h;have k:=w.hd;have j:=se (w.gc.gc u h);have a:=qm (c:=c) (l:=u.dropLast) (x:=vc u d) (by lia) g f;have b:=wm (c:=c) (l:=u.dropLast) (x:=vc u d) (by lia) g f;have r:=rC (c:=c) (l:=u.dropLast) (x:=vc u d) (by lia) (by lia) g f (by rw[<-e,i];exact j);rw[<-e]at a b r;exact⟨a,b,r⟩
def CW.len(w:CW d cs){u:LI}(e:u∈cs):(uP d u).length<=300:=by obtain⟨_,f,b,a⟩:=w.cut e;exact uO (by have:=w.hd;lia) b a
def CW.asc(w:CW d cs){u:LI}(e:u∈cs):qV (uP d u):=by obtain⟨_,f,b,a⟩:=w.cut e;exact A7 b a
def vm(w:CW d cs):qV (y6 d cs):=km (Q:=λx=>x<128) (by decide) _ λl b y a=>by
 rcases aF.mp b with rfl|h
 .exact uf (jL w.hd) y a
 .obtain⟨u,e,rfl⟩:=aD.mp h;exact w.asc e y a
def Di(w:CW d cs):(y6 d cs).length<=3000:=by
 have:=ko (x:=32) (B:=300) (nm (d:Int)::cs.map (uP d)) λl a=>by
  rcases aF.mp a with rfl|h
  .exact aN (iF (jL w.hd)).2 (by decide)
  .obtain⟨u,b,rfl⟩:=aD.mp h;exact w.len b
 rw[az,aw]at this;have e:=w.gc.few;have:(cs.length+1)*(300+1)<=8*301:=cK _ (by lia);unfold y6;lia
def BY(w:CW d cs){fo a b:Pe->M T}{ρ:Pe}(e:fo ρ=.ok (.str (c5 [32])))(g:a ρ=.ok (.lst [.str (c5 (nm (d:Int)))]))(j:b ρ=.ok (.lst (cs.map λu=>T.str (c5 (uP d u))))):pA fo (fu (l7 a b)) ρ=.ok (.str (c5 (y6 d cs))):=by
 have sz:1000<sizeLine:=by decide
 have k:=w.gc.few;refine qN 32 (nm (d:Int)::cs.map (uP d)) (by simp;lia) (λl f=>by
  rcases aF.mp f with rfl|h
  .exact aN (iF (jL w.hd)).2 (by decide)
  .obtain⟨u,i,rfl⟩:=aD.mp h;exact aN (w.len i) (by decide)) e (e7 ((mW g j (by simp;lia)).trans ?_))
 rw[bw,aI];rfl
def yF(w:CW d cs):fS c [lS c d cs]=.ok (.str (c5 (y6 d cs))):=by
 have sz:1000<sizeLine:=by decide
 have b:=w.gc.few;exact dX rfl (dF (BY w rfl (zq (jK (vd d cs rfl) (jI (jL w.hd)))) (e7 (fE cs tI (λu=>T.str (c5 (uP d u))) (j2 (e7 (vA d cs rfl))) (by lia) (λu a=>⟨_,rfl,rfl,dU rfl (w.shown a).1⟩) rfl))))
def AU(w:CW d cs):gd c [.str (c5 (y6 d cs))]=.ok (lS c d cs):=by
 have sz:1000<sizeLine:=by decide
 have o:=w.gc.few;let L:List (List Nat):=nm (d:Int)::cs.map (uP d);let P:List T:=T.str (c5 (nm (d:Int)))::cs.map λu=>T.str (c5 (uP d u));let R (m b g:Oq W):En:=[some (.p (.str (c5 (y6 d cs)))),m,b,g];have k:fu (wK (cU 0) (cM (.str " "))) (iS (R none none none))=.ok (.lst P):=by
  have:=vz (fo:=cU 0) (fa:=cM (.str " ")) (ρ:=iS (R none none none)) 32 (y6 d cs) (aN (Di w) (by decide)) rfl rfl;unfold y6 at this;rw[kg 32 L (by simp[L]) λl i z=>by
   rcases aF.mp i with rfl|h
   .exact r0 (jL w.hd) ⟨by decide,by decide⟩ z
   .obtain⟨u,a,rfl⟩:=aD.mp h;obtain⟨_,_,f,j⟩:=w.cut a;have:=zl f j 32 z;lia]at this
  have e:L.map (λl=>T.str (c5 l))=P:=by simp[L,P]
  rw[e]at this;exact e7 this
 have n:gG [none] (eW (jS (cU 1) (gO (cM (.int 1))) (λ_=>.ok none))) (gR 0) (λ_=>.ok true) (jP c) (iS (R (some (.p (.lst P))) (some (.p (.int (d:Int)))) none))=.ok (cs.map tI):=fE cs (λu=>T.str (c5 (uP d u))) tI (j2 (vZ (d:=1) (ts:=P) rfl rfl)) (by lia) (λu a=>⟨_,rfl,rfl,dU rfl (w.shown a).2.2⟩) rfl
 refine dX rfl (cY (kj (dU rfl (jy _))) (cY (ρ':=R (some (.p (.lst P))) none none) (dC k rfl) (cY (ρ':=R (some (.p (.lst P))) (some (.p (.int (d:Int)))) none) (dC (dU (c6 (x:=.lst P) (y:=.int 0) rfl rfl (FW _ _)) (jw (jL w.hd))) rfl) (cY (ρ':=R (some (.p (.lst P))) (some (.p (.int (d:Int)))) (some (.p (.lst (cs.map tI))))) (dC (e7 n) rfl) (dF (gy rfl rfl (uW d 200 cs w.hd (by decide) w.gc)))))))
def AM(i:Int):eC c [.int i]=.ok (.bl true):=rfl
def uz{l:LI}(b:l.length<=1000){fi:Pe->M T}{e:Pe->M T}{ρ:Pe}(a:fi ρ=.ok (tI l)):gG [none] (eW fi) (gR 0) (fQ (ei (cZ (cT (cU 0) cX) (eC c)))) e ρ=.ok []:=by
 have sz:1000<sizeLine:=by decide
 exact zh l T.int (λi=>T.int i) (λ_=>false) (qI a) (by lia) (λi a=>⟨_,rfl,f9 (dE (dU rfl (AM i))) rfl,λz=>nomatch z⟩) (by simp)
end
end CL
namespace CL
open PySem L2 L3 PySem.NumText PyProof.Rows
variable {c:Cs}
def zU a b:vE (tI a) (tI b)=true↔a=b:=by unfold tI;rw[jl,l9,decide_eq_true_eq]
def A9(a:LL):dz true (.lst (a.map tI)) (.lst (a.map tI))=.ok (.bl false):=by have h:=nU a;have e:=(lO tI zU a a).mpr rfl;unfold dz;rw[aQ (by simp[ka];lia),p9,e];rfl
section
variable {d:Nat}{cs:LL}
def uL(w:CW d cs):dY c [.int (d:Int),.lst (cs.map tI)]=.ok (.bl true):=by
 have sz:1000<sizeLine:=by decide
 have K:=w.gc.few;let E:Oq W:=some (.p (.int (d:Int)));let v:Oq W:=some (.p (.lst (cs.map tI)));let a:Oq W:=some (.p (lS c d cs));let f:Oq W:=some (.p (.str (c5 (y6 d cs))));let R (r s q h j:Oq W):En:=[E,v,r,s,q,h,j];have B:pA (cM (.str " ")) (fu (l7 (fu (lstM (cT (gq gx (cT (cU 0) cX)) cX))) (fu (gG [none] (eW (cU 1)) (gR 0) (λ_=>.ok true) (iI c))))) (iS (R a none none none none))=.ok (.str (c5 (y6 d cs))):=BY w rfl (zq (jK rfl (jI (jL w.hd)))) (e7 (fE cs tI (λu=>T.str (c5 (uP d u))) rfl (by lia) (λu e=>⟨_,rfl,rfl,dU rfl (w.shown e).2.1⟩) rfl))
 obtain⟨A,C,n,D,rfl⟩:=jx (m:=pI 4) (g:=iH c) (λ(k:Nat)=>T.int (k:Int)) (λi=>∃q h,i=R a f q h none) (List.range 2) (R a f none none none) ⟨_,_,rfl⟩ (by rintro k-i ⟨q,h,rfl⟩;refine⟨_,R a f (some (.p (.int (k:Int)))) a none,rfl,.inl (cY (dC (dU rfl (AU w)) rfl) (eh (i6 (dE (c6 (dU rfl (yF w)) rfl ((ET (vm w) (vm w)).trans (by rw[aC rfl];rfl)))) (i6 (dE (c6 (vd d cs rfl) rfl (by rw[j6];simp))) (dE (c6 (e7 (vA d cs rfl)) rfl (A9 cs))))) rfl)),_,_,rfl⟩)
 obtain⟨t,z,J,F,rfl⟩:=jx (m:=pI 6) (g:=iG c) tI (λi=>∃h j,i=R a f n h j) cs (R a f n D none) ⟨_,_,rfl⟩ (by
  rintro u e i ⟨h,j,rfl⟩;have I:=(w.gc.gc u e).gl.1;have H:=w.hd;let o:Oq W:=some (.p (tI u));have ne:dz true (tI u) (tI u)=.ok (.bl false):=by have:=ng true u u;refine this.trans ?_;simp
  refine⟨_,R a f n o o,rfl,.inl (cY (ρ':=R a f n o o) (dC (dU (dU rfl (w.shown e).2.1) (w.shown e).2.2) rfl) (cY (eh (i6 (dE (c6 (dU rfl (w.shown e).1) (dU rfl (w.shown e).2.1) ((ET (w.asc e) (w.asc e)).trans (by rw[aC rfl];rfl)))) (i6 (f9 (dE (b:=true) rfl) rfl) (dE (c6 rfl rfl ne)))) rfl) (eh (dE (c6 (x:=.lst []) (y:=.lst []) (e7 (uz (l:=u) (by lia) rfl)) rfl rfl)) rfl))),_,_,rfl⟩)
 exact dX rfl (cY (ρ':=R a none none none none) (dC (gy rfl rfl (uW d 200 cs w.hd (by decide) w.gc)) rfl) (cY (ρ':=R a f none none none) (dC B rfl) (cY (jg (jC 2 (by decide) rfl) C) (cY (ug rfl z) (dF rfl)))))
end
def pZ(s:Int):Nat:=if s=1 then 43 else if s=0 then 48 else 45
def Sg(s:LI):Prop:=∀x∈s,x=1\/x=0\/x = -1
def vi(s:LI):List Nat:=if s=[] then [46] else s.map pZ
theorem wV:∀a:List (List Nat),Str.join (c5 []) (a.map c5)=c5 a.flatten
 |[]=>rfl
 |[p]=>by show c5 p=_;simp
 |p::q::r=>by have b:=wV (q::r);show c5 p++c5 []++Str.join (c5 []) ((q::r).map c5)=_;rw[b,nS,nS,bB];rfl
def G1{fo fa:Pe->M T}{ρ:Pe}(a:List (List Nat))(i:a.length<=1000)(f:∀l∈a,l.length<=1000)(g:fo ρ=.ok (.str (c5 [])))(h:fa ρ=.ok (.lst (a.map λl=>T.str (c5 l)))):pA fo fa ρ=.ok (.str (c5 a.flatten)):=by
 have ok:JoinOk (c5 []) (a.map c5)=true:=by
  unfold JoinOk;have:=StrLaws.joinFits (sep:=c5 []) (texts:=a.map c5) (B:=1000) (λy d=>by
   obtain⟨l,b,rfl⟩:=aD.mp d;rw[eU];exact f l b) (by
   rw[aw,eU];show a.length*1000+a.length*0<=16777216;lia)
  rw[this];rfl
 have e:Txt.join (c5 []) (a.map c5)=c5 a.flatten:=by show Builtin.Str.glued (c5 []) (a.map c5)=_;rw[StrLaws.glued_eq_join,wV]
 simp only[pA,g,h,M.bind_ok,BJ,ok,if_true,e]
def FF(s:LI):(s.map λx=>[pZ x]).flatten=s.map pZ:=by
 induction s with
 |nil=>rfl
 |cons x s ih=>rw[bw,bK,ih];rfl
section
variable {s:LI}
def nR:qV (vi s):=λx a=>by
 unfold vi at a;split at a
 .rw[aj.mp a];decide
 .obtain⟨y,_,rfl⟩:=aD.mp a;unfold pZ;split
  .decide
  .split<;>decide
def uR(s:LI)(a:Bool):dz a (tI s) (.tup [])=.ok (.bl (if a then !decide (s=[]) else decide (s=[]))):=ng a s []
def BE(h:s.length<=8){fo e fi:Pe->M T}{ρ:Pe}(b:fo ρ=.ok (.str (c5 [])))(d:fi ρ=.ok (tI s))(g:∀x∈s,∀ρ',ρ'[0]? = some (some (.int x))->e ρ'=.ok (.str (c5 [pZ x]))):pA fo (fu (gG [none] (eW fi) (gR 0) (λ_=>.ok true) e)) ρ=.ok (.str (c5 (s.map pZ))):=by
 have sz:1000<sizeLine:=by decide
 rw[<-FF];refine G1 (s.map λx=>[pZ x]) (by rw[aw];lia) (λl f=>by obtain⟨x,_,rfl⟩:=aD.mp f;show 1<=1000;decide) b (e7 ?_)
 rw[aI];exact fE s T.int (λx=>T.str (c5 [pZ x])) (qI d) (by lia) (λx a=>⟨_,rfl,rfl,g x a _ rfl⟩) rfl
def B2{x:Int}(h:x=1\/x=0\/x = -1)(ρ:Pe)(e:ρ[0]? = some (some (.int x))):GI [(1, "+"),(0, "0"),(-1, "-")] (cU 0) ρ=.ok (.str (c5 [pZ x])):=by simp only[GI,cU,e,M.bind_ok];rcases h with rfl|rfl|rfl<;>rfl
def Cv{x:Int}(h:x=1\/x=0\/x = -1)(ρ:Pe)(e:ρ[0]? = some (some (.int x))):de fV (cM (.str "-0+")) (de eM (cU 0) (cM (.int 1))) ρ=.ok (.str (c5 [pZ x])):=by refine c6 (x:=.str (c5 [45,48,43])) (y:=.int (x+1)) rfl (c6 (x:=.int x) (y:=.int 1) (by simp only[cU,e]) rfl (fg _ _)) ?_;rcases h with rfl|rfl|rfl<;>rfl
def yp(f:s.length<=8)(d:Sg s):gB c [tI s]=.ok (.str (c5 (vi s))):=by
 have t:ei (de (dz false) (cU 0) (iK cX)) (vw (dW 1 [tI s]))=.ok (decide (s=[])):=dE (c6 rfl rfl (uR s false));unfold vi;by_cases h:s=[]
 .rw[aC h]at t;rw[aQ h];exact dX rfl (jO (gI t (dF rfl)) rfl)
 .rw[aB h]at t;rw[aR h];exact dX rfl (cY (eh t rfl) (dF (BE (e:=j8 c) f rfl rfl λx b a e=>B2 (d x b) a e)))
def BW{x:Int}(h:x=1\/x=0\/x = -1):lk (⟨#[pZ x]⟩:Str) [(("+" : Str),(1:Int)),("0",0),("-",-1)]=some x:=by rcases h with rfl|rfl|rfl<;>decide +kernel
def AR(r:s.length<=8)(k:Sg s):gZ c [.str (c5 (vi s))]=.ok (tI s):=by
 have sz:1000<sizeLine:=by decide
 have j:qV [46]:=λx a=>by rw[aj.mp a];decide
 let f:En:=[some (.p (.str (c5 (vi s))))];have g:ei (de (dz false) (cU 0) (cM (.str "."))) (vw f)=.ok (decide (vi s=[46])):=dE (c6 rfl rfl (FS (b:=[46]) nR j));by_cases h:s=[]
 .subst h;exact dX rfl (cY (kj (dU rfl (jy _))) (jO (gI g (dF rfl)) rfl))
 .have e:vi s=s.map pZ:=aR h;have ne:vi s≠[46]:=λz=>by
   rw[e]at z;have:(46:Nat)∈s.map pZ:=by rw[z];simp
   obtain⟨y,_,d⟩:=aD.mp this;unfold pZ at d;split at d
   .cases d
   .split at d<;>cases d
  rw[aB ne]at g;have i:vi s≠[]:=λz=>by rw[e]at z;exact h (cR.mp z)
  have m:ei (de (dz false) (cU 0) (cM (.str ""))) (vw f)=.ok false:=dE (c6 rfl rfl ((FS (b:=[]) nR λx a=>nomatch a).trans (by rw[aB i])));have l:qd (cU 0) (vw f)=.ok (s.map λx=>T.str ⟨#[pZ x]⟩):=by show (M.ok (T.str (c5 (vi s)))).bind _=_;rw[M.bind_ok];dsimp only;rw[aQ (uC nR),fz,e,aI];rfl
  have o:gG [none] (qd (cU 0)) (gR 0) (λ_=>.ok true) (kM c) (vw f)=.ok (s.map λ_=>T.bl true):=fE s (λx=>T.str ⟨#[pZ x]⟩) (λ_=>T.bl true) l (by lia) (λx a=>⟨_,rfl,rfl,by show M.ok (T.bl (lk (⟨#[pZ x]⟩:Str) [(("+" : Str),(1:Int)),("0",0),("-",-1)]).isSome)=_;rw[BW (k x a)];rfl⟩) rfl
  have n:gG [none] (qd (cU 0)) (gR 0) (λ_=>.ok true) (kG c) (vw f)=.ok (s.map T.int):=fE s (λx=>T.str ⟨#[pZ x]⟩) T.int l (by lia) (λx a=>⟨_,rfl,rfl,by show (match lk (⟨#[pZ x]⟩:Str) [(("+" : Str),(1:Int)),("0",0),("-",-1)] with|some z=>M.ok (T.int z)|none=>.bad)=_;rw[BW (k x a)]⟩) rfl
  have q:nk [.lst (s.map λ_=>T.bl true)]=.ok (.bl true):=by have:=ke (s.map λ_=>true);rw[aI]at this;refine this.trans ?_;simp
  exact dX rfl (cY (kj (dU rfl (jy _))) (cY (eh g rfl) (cY (eh (i6 m (f9 (dE (jf o q)) rfl)) rfl) (dF (jf n rfl)))))
def vC(d:s.length<=8)(a:Sg s):eY c [tI s]=.ok (.bl true):=by
 have sz:1000<sizeLine:=by decide
 let R (n j:Oq W):En:=[some (.p (tI s)),n,j];let f:Oq W:=some (.p (.str (c5 (vi s))));let m:Oq W:=some (.p (tI s));have k:ei (de (dz true) (cU 0) (iK cX)) (iS (R none none))=.ok (!decide (s=[])):=dE (c6 rfl rfl (uR s true));have i:zF (ei (de (dz true) (cU 0) (iK cX))) (pA (cM (.str "")) (fu (gG [none] (eW (cU 0)) (gR 0) (λ_=>.ok true) (gW c)))) (cM (.str ".")) (iS (R none none))=.ok (.str (c5 (vi s))):=by
  simp only[zF,k,M.bind_ok];unfold vi;by_cases h:s=[]
  .rw[aC h,aQ h];rfl
  .rw[aB h,aR h];exact BE (e:=gW c) d rfl rfl λx g ρ' e=>Cv (a x g) ρ' e
 have ne:dz true (tI s) (tI s)=.ok (.bl false):=by have:=ng true s s;refine this.trans ?_;simp
 exact dX rfl (cY (ρ':=R f none) (dC i rfl) (cY (ρ':=R f m) (dC (dU rfl (AR d a)) rfl) (cY (eh (i6 (dE (c6 (dU rfl (yp d a)) rfl ((ET nR nR).trans (by rw[aC rfl];rfl)))) (i6 (f9 (dE (b:=true) rfl) rfl) (dE (c6 rfl rfl ne)))) rfl) (dF (c6 (x:=.lst []) (y:=.lst []) (e7 (uz (l:=s) (by lia) rfl)) rfl rfl)))))
end
end CL
namespace CL
open PySem L2 L3 PySem.NumText PyProof.Rows
variable {c:Cs}
def Gi{a b:Int}{m n:Nat}(i:Bn m a)(d:Bn n b)(g:m<=2097152)(f:n<=1000):hZ (.int a) (.int b)=.ok (.int (a*b)):=by
 refine kl ?_;have j:=aN (PyProof.Rows.intBits_le i) g;have k:=aN (PyProof.Rows.intBits_le d) f;have e:(2:Nat) ^ 20=1048576:=by decide
 have h:Builtin.Int.intTooBig (Builtin.Int.intBits a+Builtin.Int.intBits b)=false:=by unfold Builtin.Int.intTooBig bitsLine;exact aB (by omega)
 unfold IntMulOk;rw[h];simp
def yr{x:Int}(h:x.natAbs<=10 ^ 59):Nw x:=cO h (by decide +kernel)
def BN{x:Int}(h:x.natAbs<=10 ^ 59):Bn 200 x:=cO h (by decide +kernel)
def yV{t b:Int}(f:t.natAbs<=10 ^ 59)(g:0<b)(a:b.natAbs<=10 ^ 59):∃p,gw c [.int t,.int b]=.ok (fr p)/\Fw p/\p.1.natAbs<=10 ^ 59:=by obtain⟨p,e,h,d,i⟩:=oG (c:=c) t b g ((BN a).mono (by decide));exact⟨p,e,⟨h,yr (aN d f),yr (aN i a)⟩,aN d f⟩
def iM{N:Nat}(v:N<=2097152){a:Int}(h:Bn N a):∃p,dm c [.int a]=.ok (fr p)/\Fw p/\p.1.natAbs<=10 ^ 59:=by
 obtain⟨H,a1,X⟩:=eR (c:=c) a 1 25 (by decide) (by decide) (by decide) (by decide);obtain⟨K,Y,b2⟩:=eR (c:=c) a 2 12 (by decide) (by decide) (by decide) (by decide);obtain⟨Q,a3,Z⟩:=eR (c:=c) a 3 2 (by decide) (by decide) (by decide) (by decide);obtain⟨J,U,b4⟩:=eR (c:=c) a 4 (10 ^ 9) (by decide) (by decide) (by decide) (by decide);let R (L C I:Oq W):En:=[some (.p (.int a)),L,C,I];let e:Oq W:=some (.p (.int (dr c a 1 25-12)));let f:Oq W:=some (.p (.int (1+dr c a 2 12)));have w:de kU (cZ (cT (cU 0) (cT (cM (.int 1)) (cT (cM (.int 25)) cX))) (c9 c)) (cM (.int 12)) (iS (R none none none))=.ok (.int (dr c a 1 25-12)):=c6 (gQ rfl rfl rfl H) rfl (ip _ _);have r:de eM (cM (.int 1)) (cZ (cT (cU 0) (cT (cM (.int 2)) (cT (cM (.int 12)) cX))) (c9 c)) (iS (R e none none))=.ok (.int (1+dr c a 2 12)):=c6 rfl (gQ rfl rfl rfl K) (fg _ _);have l:ei (de (dz false) (cZ (cT (cU 0) (cT (cM (.int 3)) (cT (cM (.int 2)) cX))) (c9 c)) (cM (.int 1))) (vw (R e f none))=.ok (decide (dr c a 3 2=1)):=dE (c6 (gQ rfl rfl rfl Q) rfl (by rw[gE];rfl));have i:(25:Nat)<=10 ^ 59:=by decide +kernel
 by_cases u:dr c a 3 2=1
 .rw[aC u]at l;let d:Int:=27182818284590452353602874713526624977572470936999595749669;let E:Int:=10 ^ 59;have m:i9 (.int 10) (.int 59)=.ok (.int E):=rfl;have B:i9 (.int 10) (.int 9)=.ok (.int (10 ^ 9)):=rfl;have A:(1:Int)<E:=by decide +kernel
  have j:Bn 200 d:=by unfold Bn;decide +kernel
  have g:Bn 200 (d-2):=by unfold Bn;decide +kernel
  let t:Int:=(a*d+dr c a 4 (10 ^ 9)).fmod (2*E-1)-E+1;let b:Int:=1+(a*(d-2)).fmod (E-1);have x:0<2*E-1:=by lia
  have y:0<E-1:=by lia
  have f1:=cq (a*d+dr c a 4 (10 ^ 9)) x;have f2:=cu (a*d+dr c a 4 (10 ^ 9)) x;have S:=cq (a*(d-2)) y;have f4:=cu (a*(d-2)) y;have En:E.natAbs=10 ^ 59:=by decide +kernel
  have F:t.natAbs<=10 ^ 59:=by rw[<-En];show ((a*d+dr c a 4 (10 ^ 9)).fmod (2*E-1)-E+1).natAbs<=E.natAbs;generalize (a*d+dr c a 4 (10 ^ 9)).fmod (2*E-1)=z at *;generalize E=E' at *;lia
  have s:0<b/\b.natAbs<=10 ^ 59:=by rw[<-En];show 0<1+(a*(d-2)).fmod (E-1)/\(1+(a*(d-2)).fmod (E-1)).natAbs<=E.natAbs;generalize (a*(d-2)).fmod (E-1)=z at *;generalize E=E' at *;lia
  obtain⟨p,n,q,o⟩:=yV (c:=c) F s.1 s.2;let k:Oq W:=some (.p (.int d));have D:de eM (de kU (de jY (de eM (de hZ (cU 0) (cU 3)) (cZ (cT (cU 0) (cT (cM (.int 4)) (cT (de i9 (cM (.int 10)) (cM (.int 9))) cX))) (c9 c))) (de kU (de hZ (cM (.int 2)) (de i9 (cM (.int 10)) (cM (.int 59)))) (cM (.int 1)))) (de i9 (cM (.int 10)) (cM (.int 59)))) (cM (.int 1)) (iS (R e f k))=.ok (.int t):=c6 (c6 (c6 (c6 (c6 rfl rfl (Gi h j v (by decide))) (gQ rfl rfl (c6 rfl rfl B) J) (fg _ _)) (c6 (c6 rfl (c6 rfl rfl m) (fJ (by decide))) rfl (ip _ _)) (jj (by lia))) (c6 rfl rfl m) (ip _ _)) rfl (fg _ _)
  have P:de eM (cM (.int 1)) (de jY (de hZ (cU 0) (de kU (cU 3) (cM (.int 2)))) (de kU (de i9 (cM (.int 10)) (cM (.int 59))) (cM (.int 1)))) (iS (R (some (.p (.int t))) f k))=.ok (.int b):=c6 rfl (c6 (c6 rfl (c6 rfl rfl (ip _ _)) (Gi h g v (by decide))) (c6 (c6 rfl rfl m) rfl (ip _ _)) (jj (by lia))) (fg _ _)
  exact⟨p,dX rfl (cY (ρ':=R e none none) (dC w rfl) (cY (ρ':=R e f none) (dC r rfl) (cY (ρ':=R (some (.p (.int t))) (some (.p (.int b))) k) (gI l (cY (ρ':=R e f k) (dC rfl rfl) (cY (ρ':=R (some (.p (.int t))) f k) (dC D rfl) (dC P rfl)))) (dF (gy rfl rfl n))))),q,o⟩
 .rw[aB u]at l;obtain⟨p,n,q,o⟩:=yV (c:=c) (t:=dr c a 1 25-12) (b:=1+dr c a 2 12) (aN (by lia) i) (by lia) (aN (by lia) i);exact⟨p,dX rfl (cY (ρ':=R e none none) (dC w rfl) (cY (ρ':=R e f none) (dC r rfl) (cY (eh l rfl) (dF (gy rfl rfl n))))),q,o⟩
def DP(p:Int×Int):dz true (fr p) (fr p)=.ok (.bl false):=by have:=ng true [p.1,p.2] [p.1,p.2];refine this.trans ?_;simp
def Bj a b:vE (fr a) (fr b)=true↔a=b:=by obtain⟨e,d⟩:=a;obtain⟨f,g⟩:=b;simp[fr,jl,ki]
def CQ(s:List (Int×Int)):dz true (tS s) (tS s)=.ok (.bl false):=by
 have h:=CG s;have e:vE (tS s) (tS s)=true:=by unfold tS;rw[jl];exact (lO fr Bj s s).mpr rfl
 unfold dz;rw[aQ (by rw[Ee,aC (show rK (tS s)<=100 by lia)];rfl),e];rfl
def zW{s:List (Int×Int)}(d:∀p∈s,Fw p):qV (EM s):=km (Q:=λx=>x<128) (by decide) _ λl b y a=>by obtain⟨p,e,rfl⟩:=aD.mp b;exact uS (d p e) y a
def nO{N:Nat}(hN:N<=2097100){d:Int}(h:Bn N d):eZ c [.int d]=.ok (.bl true):=by
 have sz:1000<sizeLine:=by decide
 obtain⟨p,F,u,_⟩:=iM (c:=c) (by lia) h;obtain⟨Q,a6,b6⟩:=eR (c:=c) d 6 3 (by decide) (by decide) (by decide) (by decide);obtain⟨n,hn⟩:∃n:Nat,1+dr c d 6 3=(n:Int):=⟨(1+dr c d 6 3).toNat,by lia⟩;have D:1<=n/\n<=3:=by lia
 obtain⟨q,C⟩:=oV (P:=λ(j:Nat) (q:Int×Int)=>dm c [.int (d+7*(j:Int))]=.ok (fr q)/\Fw q) (List.range n) λj z=>by
  have:=aS.mp z;have K:Bn 10 (7*(j:Int)):=by
   unfold Bn;have:(7*(j:Int)).natAbs<=21:=by lia
   exact cO this (by decide)
  obtain⟨q,e,f,_⟩:=iM (c:=c) (N:=max N 10+1) (by lia) (h.add K);exact⟨q,e,f⟩
 let s:List (Int×Int):=(List.range n).map q;have U:s.length=n:=by simp[s]
 have w:∀x∈s,Fw x:=λx v=>by obtain⟨j,z,rfl⟩:=aD.mp v;exact (C j z).2
 let o:Oq W:=some (.p (fr p));let i:Oq W:=some (.p (tS s));let y:Oq W:=some (.p (.str (c5 (EM s))));let R (S H I A B:Oq W):En:=[some (.p (.int d)),S,H,I,A,B];have L:gG [none,some 0] (iz (cT (de eM (cM (.int 1)) (cZ (cT (cU 0) (cT (cM (.int 6)) (cT (cM (.int 3)) cX))) (c9 c))) cX)) (gR 0) (λ_=>.ok true) (je c) (iS (R o none none none none))=.ok (s.map fr):=fE (List.range n) (λ(j:Nat)=>T.int (j:Int)) (λj=>fr (q j)) (jC n (by lia) (c6 rfl (gQ rfl rfl rfl Q) (by rw[fg,hn]))) (by rw[cQ];lia) (λj z=>⟨_,rfl,rfl,dU (c6 rfl (c6 rfl rfl (fJ (by decide))) (fg _ _)) (C j z).1⟩) (by simp[s])
 have Y:pA (cM (.str ",")) (fu (gG [none] (eW (cU 2)) (gR 0) (λ_=>.ok true) (ji c))) (iS (R o i none none none))=.ok (.str (c5 (EM s))):=by
  refine qN 44 (s.map m3) (by rw[aw];lia) (λl J=>by obtain⟨x,v,rfl⟩:=aD.mp J;exact aN (mZ (w x v)) (by decide)) rfl (e7 ?_)
  rw[aI];exact fE s fr (λp=>T.str (c5 (m3 p))) rfl (by lia) (λx v=>⟨_,rfl,rfl,dU rfl (iL (w x v))⟩) rfl
 obtain⟨X,Z,y4,y5,rfl⟩:=jx (m:=pI 4) (g:=jc c) (λ(k:Nat)=>T.int (k:Int)) (λE=>∃A B,E=R o i y A B) (List.range 2) (R o i y none none) ⟨_,_,rfl⟩ (by rintro k-E ⟨A,B,rfl⟩;have a:=uS u;have b:=zW w;refine⟨_,R o i y (some (.p (.int (k:Int)))) i,rfl,.inl (cY (eh (i6 (dE (c6 (dU rfl (m8 u)) (dU rfl (iL u)) ((ET a a).trans (by rw[aC rfl];rfl)))) (dE (c6 (dU (dU rfl (iL u)) (pV u)) rfl (DP p)))) rfl) (cY (ρ':=R o i y (some (.p (.int (k:Int)))) i) (dC (dU rfl (Bm (by lia) (by lia) w)) rfl) (eh (i6 (dE (c6 (dU rfl (xG (by lia) w)) rfl ((ET b b).trans (by rw[aC rfl];rfl)))) (i6 (f9 (dE (gy rfl (jK (t:=tS s) (r:=.ok (.int (n:Int))) rfl (by simp[tS,s])) (wD n s U (by lia) λx v=>(w x v).fq))) rfl) (dE (c6 rfl rfl (CQ s))))) rfl))),_,_,rfl⟩)
 exact dX rfl (cY (ρ':=R o none none none none) (dC (dU rfl F) rfl) (cY (ρ':=R o i none none none) (dC (jf L rfl) rfl) (cY (ρ':=R o i y none none) (dC Y rfl) (cY (jg (jC 2 (by decide) rfl) Z) (dF (dU (dU (dU rfl (iL u)) (pV u)) (nQ p u.fq)))))))
end CL
namespace CL
open PySem L2 L3 PySem.NumText PyProof.Rows
variable {c:Cs}
def Ax{fa a:Pe->M T}{ρ:Pe}{t:T}(h:fa ρ=.ok (.bl true))(b:a ρ=.ok t):oF fa a ρ=.ok t:=by simp only[oF,dE h,M.bind_ok,b];rfl
def Ha{x:Int}(h:Bn 84 x):Nw x:=aE h (by decide +kernel)
def wt ns (Q:∀z∈ns,Builtin.Int.intBits z<=2 ^ 20):lb c [.scr ns]=.ok (.bl true):=by
 have sz:1000<sizeLine:=by decide
 obtain⟨N,hN,bN⟩:∃N:Nat,(10<=N/\N<=1048576)/\∀z∈ns,Bn N z:=⟨2 ^ 20,by decide,λz Y=>Bn.of_bits (Q z Y)⟩;have cb:∀v:Int,v=0\/v∈ns->Bn N v:=λv U=>by
  rcases U with rfl|h
  .exact BB
  .exact bN v h
 have C:∀v:Int,v.natAbs<=10->Bn N v:=λv U=>Bn.mono (m:=10) (cO U (by decide)) hN.1;obtain⟨l,hcell⟩:∃l:Nat->Int,∀k:Nat,dq c [.scr ns,.int (k:Int)]=.ok (.int (l k))/\Bn N (l k):=⟨λk=>Classical.choose (jM (c:=c) ns k),λk=>⟨(Classical.choose_spec (jM (c:=c) ns k)).1,cb _ (Classical.choose_spec (jM (c:=c) ns k)).2⟩⟩;obtain⟨d1,d1a,d1b⟩:=eR (c:=c) (l 0) 0 3 (by decide) (by decide) (by decide) (by decide);obtain⟨d2,d2a,d2b⟩:=eR (c:=c) (l 0) 1 8 (by decide) (by decide) (by decide) (by decide);obtain⟨d,hdd⟩:∃d:Nat,1+dr c (l 0) 0 3=(d:Int):=⟨(1+dr c (l 0) 0 3).toNat,by lia⟩;obtain⟨m,hmm⟩:∃m:Nat,dr c (l 0) 1 8=(m:Int):=⟨(dr c (l 0) 1 8).toNat,by lia⟩;have S:1<=d/\d<=3:=by lia
 obtain⟨cs,ec,gc,cl⟩:=sk (c:=c) ns 1 d m S (by lia);have w:CW d cs:=⟨S,gc.mono (by decide),λu L i B=>Ha ((gc.gc u L).gl.2 i B)⟩;obtain⟨q,hq⟩:=oV (P:=λ(j:Nat) (q:Int×Int)=>dm c [.int (l (9+j))]=.ok (fr q)/\Fw q/\q.1.natAbs<=10 ^ 59) (List.range d) λj D=>iM (c:=c) (by lia) (hcell (9+j)).2;obtain⟨E,e8,f8,n8⟩:=iM (c:=c) (by lia) (hcell 8).2;obtain⟨A,egl⟩:∃A:LI,A=(List.range d).map λj=>(q j).1:=⟨_,rfl⟩;have H:A.length=d:=by simp[egl]
 have Z:∀i∈A,i.natAbs<=10 ^ 59:=λi B=>by rw[egl]at B;obtain⟨j,D,rfl⟩:=aD.mp B;exact (hq j D).2.2
 let o:Oq W:=some (.p (.int (d:Int)));let t:Oq W:=some (.p (tI A));let R (x1 x2 J F:Oq W):En:=[some (.p (.scr ns)),x1,x2,J,F];have s1:de eM (cM (.int 1)) (cZ (cT (cZ (cT (cU 0) (cT (cM (.int 0)) cX)) (dq c)) (cT (cM (.int 0)) (cT (cM (.int 3)) cX))) (c9 c)) (iS (R none none none none))=.ok (.int (d:Int)):=c6 rfl (gQ (gy rfl rfl (hcell 0).1) rfl rfl d1) (by rw[fg,hdd])
 have s2:gG [none,some 0] (iz (cT (cU 1) cX)) (gR 0) (λ_=>.ok true) (pF c) (iS (R o none none none))=.ok (A.map T.int):=fE (List.range d) (λ(j:Nat)=>T.int (j:Int)) (λj=>T.int (q j).1) (jC d (by lia) rfl) (by rw[cQ];lia) (λj D=>⟨_,rfl,rfl,c6 (x:=fr (q j)) (y:=.int 0) (dU (gy rfl (c6 rfl rfl (fg _ _)) (by have:=(hcell (9+j)).1;rw[Int.natCast_add]at this;exact this)) (hq j D).1) rfl rfl⟩) (by simp[egl])
 have t2:lV (ei (de (dz true) (cU 2) (rj (iK (cT (cM (.int 0)) cX)) (cU 1)))) (L3.fQ (ei (cZ (cT (cU 1) (cT (fu (lstM (cT (de eM (cU 2) (iK (cT (de fV (cZ (cT (cZ (cT (cU 0) (cT (cM (.int 8)) cX)) (dq c)) cX) (dm c)) (cM (.int 0))) cX))) cX))) cX)) (dY c)))) (vw (R o t none none))=.ok false:=by
  have e:ei (de (dz true) (cU 2) (rj (iK (cT (cM (.int 0)) cX)) (cU 1))) (vw (R o t none none))=.ok (!decide (A=List.replicate d 0)):=dE (c6 rfl (E1 d (by lia) rfl) (ng true A (List.replicate d 0)));by_cases h:A=List.replicate d 0
  .rw[aC h]at e;exact Eg e
  .rw[aB h]at e;have I:∀i∈A++[E.1],i.natAbs<=10 ^ 59:=λi B=>by
    rcases ai.mp B with z|z
    .exact Z i z
    .rw[aj.mp z];exact n8
   have re:∃p,p<d/\vc (A++[E.1]) p≠0:=aO λz=>h (cJ.mpr ⟨H,λb Q=>aO λnb=>by obtain⟨i,B,e⟩:=List.getElem_of_mem Q;refine z ⟨i,by lia,?_⟩;rw[pB _ i (by simp;lia),List.getElem_append_left B,e];exact nb⟩)
   have w2:CW d [A++[E.1]]:=by
    refine⟨S,⟨λf hf=>?_,by simp,cP _ _⟩,λu L i B=>?_⟩
    .rw[aj.mp hf];exact⟨⟨by simp[H],λi B=>BN (I i B)⟩,re⟩
    .rw[aj.mp L]at B;exact yr (I i B)
   have g0:cZ (cT (cZ (cT (cU 0) (cT (cM (.int 8)) cX)) (dq c)) cX) (dm c) (vw (R o t none none))=.ok (fr E):=dU (gy rfl rfl (hcell 8).1) e8;have g1:de fV (cZ (cT (cZ (cT (cU 0) (cT (cM (.int 8)) cX)) (dq c)) cX) (dm c)) (cM (.int 0)) (vw (R o t none none))=.ok (.int E.1):=c6 g0 rfl rfl;have g2:de eM (cU 2) (iK (cT (de fV (cZ (cT (cZ (cT (cU 0) (cT (cM (.int 8)) cX)) (dq c)) cX) (dm c)) (cM (.int 0))) cX)) (vw (R o t none none))=.ok (tI (A++[E.1])):=c6 (x:=tI A) (y:=tI [E.1]) rfl (G5 g1) (Dm _ _ (by simp;lia));have cg:=uL (c:=c) w2;rw[List.map_singleton]at cg;have g3:=zq g2;have g4:cZ (cT (cU 1) (cT (fu (lstM (cT (de eM (cU 2) (iK (cT (de fV (cZ (cT (cZ (cT (cU 0) (cT (cM (.int 8)) cX)) (dq c)) cX) (dm c)) (cM (.int 0))) cX))) cX))) cX)) (dY c) (vw (R o t none none))=.ok (.bl true):=gy (x:=.int (d:Int)) rfl g3 cg;exact Ey e (f9 (dE g4) rfl)
 let r:LI:=iU ns (some 8) (some 20)++[0,6];obtain⟨ρ1,l1,_⟩:=jx (m:=pI 3) (g:=pj c) (λ(z:Int)=>T.int z) (λρ=>∃J F,ρ=R o t J F) r (R o t none none) ⟨_,_,rfl⟩ (by
  rintro z Y ρ ⟨J,F,rfl⟩;have bz:Bn N z:=by
   rcases ai.mp Y with h|h
   .exact bN z (List.mem_of_mem_drop (cH h))
   .have:z=0\/z=6:=by simpa using h
    exact C z (by lia)
  obtain⟨d7,a7,b7⟩:=eR (c:=c) z 7 8 (by decide) (by decide) (by decide) (by decide);obtain⟨n,hn⟩:∃n:Nat,dr c z 7 8=(n:Int):=⟨(dr c z 7 8).toNat,by lia⟩;have hn8:n<8:=by lia
  let s:LI:=(List.range n).map λ(j:Nat)=>dr c z (8+(j:Int)) 3-1;have sl:s.length=n:=by simp[s]
  have sg:Sg s:=λx X=>by obtain⟨j,D,rfl⟩:=aD.mp X;have:=aS.mp D;obtain⟨_,a,b⟩:=eR (c:=c) z (8+(j:Int)) 3 (by decide) (by decide) (by lia) (by lia);lia
  let K:Oq W:=some (.p (.int z));have e4:gG [none,some 3] (iz (cT (cZ (cT (cU 3) (cT (cM (.int 7)) (cT (cM (.int 8)) cX))) (c9 c)) cX)) (gR 0) (λ_=>.ok true) (pJ c) (iS (R o t K F))=.ok (s.map T.int):=fE (List.range n) (λ(j:Nat)=>T.int (j:Int)) (λ(j:Nat)=>T.int (dr c z (8+(j:Int)) 3-1)) (jC n (by lia) (gQ rfl rfl rfl (by rw[d7,hn]))) (by rw[cQ];lia) (λj D=>⟨_,rfl,rfl,by have:=aS.mp D;obtain⟨e,a,b⟩:=eR (c:=c) z (8+(j:Int)) 3 (by decide) (by decide) (by lia) (by lia);exact c6 (gQ rfl (c6 rfl rfl (fg _ _)) rfl e) rfl (ip _ _)⟩) (by simp[s])
  exact⟨_,R o t K (some (.p (tI s))),rfl,.inl (cY (ρ':=R o t K (some (.p (tI s)))) (dC (jf e4 rfl) rfl) (eh (i6 (f9 (dE (dU rfl (nO (by lia) bz))) rfl) (f9 (dE (dU rfl (vC (by lia) sg))) rfl)) rfl)),_,_,rfl⟩)
 have it:eW (fu (l7 (jS (cU 0) (gO (cM (.int 8))) (gO (cM (.int 20)))) (fu (lstM (cT (cM (.int 0)) (cT (cM (.int 6)) cX)))))) (iS (R o t none none))=.ok (r.map λz=>T.int z):=by
  have len:(iU ns (some 8) (some 20)).length<=20:=by
   unfold iU;rw[bF];have:HT.sIx ns.length ns.length (some 20)<=20:=by unfold HT.sIx;simp;lia
   lia
  refine j2 (e7 ((mW (a:=(iU ns (some 8) (some 20)).map T.int) (b:=[.int 0,.int 6]) rfl rfl (by rw[aw];simp;lia)).trans ?_));simp[r]
 have m5:vN (λi=>T.int (-i)) (cM (.int 5)) (vw (R o t none none))=.ok (.int (-5)):=rfl;have sn:Sg []:=λx X=>nomatch X;refine dX rfl (cY (ρ':=R o none none none) (dC s1 rfl) (cY (eh (f9 (dE (gy rfl (e7 (ts:=cs.map tI) ?_) (uL w))) rfl) rfl) (cY (ρ':=R o t none none) (dC (jf s2 rfl) rfl) (cY (eh t2 rfl) (cY (ug it l1) (dF (Ax (dU (x:=tI []) rfl (vC (by decide) sn)) (dU rfl (nO (N:=N) (by lia) (C (-5) (by decide)))))))))));exact CC rfl rfl rfl (gQ (gy rfl rfl (hcell 0).1) rfl rfl (by rw[d2,hmm])) ec
end CL
namespace K81
open PySem L2 L3 CL
def fj(i:Nat):Stmt:=PySem.Challenge.pw_cutlands_k81_texts_there_and_back.main.body.getD i (.Pass ⟨0,0,0,0⟩)
structure Er(w:World)(c:Cs)(K:W.Frag)(mg:Str->Option Value):Prop where
 here:True
 cl_Cutting:oX K c.Cutting
 na_Cutting_own_cuts:gY K c.Cutting "own_cuts"
 na_Cutting_own_dims:gY K c.Cutting "own_dims"
 mk_Cutting:W.makesIn K c.Cutting=true
 kp_Cutting:W.keepIn K (.ref c.Cutting)=true
 mg_Cutting:mg "Cutting" = some (.ref c.Cutting)
 k_FIGURES:∃t,mg "FIGURES" = some (.str "0123456789" t)
 k_MOST_CUTS:∃t,mg "MOST_CUTS" = some (.int 7 t)
 k_MOST_DIMS:∃t,mg "MOST_DIMS" = some (.int 3 t)
 k_MOST_FIGURES:∃t,mg "MOST_FIGURES" = some (.int 60 t)
 k_NO_SIGNS:∃t,mg "NO_SIGNS" = some (.str "." t)
 tb_MARKS:∃d,mg "MARKS" = some (.ref d)/\∀P,Am P w K d (([(1, "+"),(0, "0"),(-1, "-")]:List (Int×Str)).map λp=>(p.1,V.str p.2))
 tb_SIGNS:∃d,mg "SIGNS" = some (.ref d)/\∀P,vM P w K d (([("+",1),("0",0),("-",-1)]:List (Str×Int)).map λp=>(p.1,V.int p.2))
def EY{w:World}{K:W.Frag}{h:Heap}{a:Str->Option Value}{aCutting dMARKS dSIGNS:Addr}{tFIGURES tMOST_CUTS tMOST_DIMS tMOST_FIGURES tNO_SIGNS:_}{hMARKS0:Int}{pMARKS0 qMARKS0:Tok}{hMARKS1:Int}{pMARKS1 qMARKS1:Tok}{hMARKS2:Int}{pMARKS2 qMARKS2:Tok}{epMARKS:Nat}{hSIGNS0:Int}{pSIGNS0 qSIGNS0:Tok}{hSIGNS1:Int}{pSIGNS1 qSIGNS1:Tok}{hSIGNS2:Int}{pSIGNS2 qSIGNS2:Tok}{epSIGNS:Nat}(X:K.In h)(G:h.Ns mainGlobals a)(e:W.nsIn K mainGlobals "Cutting" = some (some (.ref aCutting)))(i:W.plainGet K aCutting Str.empty=true)(c:W.hasDictIn K aCutting=true)(b:W.plainOver K aCutting=true)(g:W.findIn K (.ref aCutting) "__setattr__" = some (some (.builtin "object.__setattr__")))(own_cuts:W.findIn K (.ref aCutting) "own_cuts" = some none)(own_dims:W.findIn K (.ref aCutting) "own_dims" = some none)(d:W.makesIn K aCutting=true)(f:W.keepIn K (.ref aCutting)=true)(uFIGURES:W.nsIn K mainGlobals "FIGURES" = some (some (.str "0123456789" tFIGURES)))(uMOST_CUTS:W.nsIn K mainGlobals "MOST_CUTS" = some (some (.int 7 tMOST_CUTS)))(uMOST_DIMS:W.nsIn K mainGlobals "MOST_DIMS" = some (some (.int 3 tMOST_DIMS)))(uMOST_FIGURES:W.nsIn K mainGlobals "MOST_FIGURES" = some (some (.int 60 tMOST_FIGURES)))(uNO_SIGNS:W.nsIn K mainGlobals "NO_SIGNS" = some (some (.str "." tNO_SIGNS)))(uMARKS:W.nsIn K mainGlobals "MARKS" = some (some (.ref dMARKS)))(sMARKS:(dMARKS==sysModules)=false)(lMARKS:K.lookup dMARKS=some ⟨.type "dict",none,.dict #[⟨hMARKS0,.int (1) pMARKS0,.str "+" qMARKS0⟩,⟨hMARKS1,.int (0) pMARKS1,.str "0" qMARKS1⟩,⟨hMARKS2,.int (-1) pMARKS2,.str "-" qMARKS2⟩] epMARKS,#[]⟩)(gMARKS0:hMARKS0=hashInt (1))(gMARKS1:hMARKS1=hashInt (0))(gMARKS2:hMARKS2=hashInt (-1))(uSIGNS:W.nsIn K mainGlobals "SIGNS" = some (some (.ref dSIGNS)))(sSIGNS:(dSIGNS==sysModules)=false)(lSIGNS:K.lookup dSIGNS=some ⟨.type "dict",none,.dict #[⟨hSIGNS0,.str "+" pSIGNS0,.int (1) qSIGNS0⟩,⟨hSIGNS1,.str "0" pSIGNS1,.int (0) qSIGNS1⟩,⟨hSIGNS2,.str "-" pSIGNS2,.int (-1) qSIGNS2⟩] epSIGNS,#[]⟩)(gSIGNS0:hSIGNS0=hashStr w "+")(gSIGNS1:hSIGNS1=hashStr w "0")(gSIGNS2:hSIGNS2=hashStr w "-"):Er w ⟨aCutting,0,0,0,0,0,0,0,0,0,0,0,0⟩ K a:=⟨trivial,⟨i,c,b,g⟩,own_cuts,own_dims,d,f,W.mg_of X G e,⟨_,W.mg_of X G uFIGURES⟩,⟨_,W.mg_of X G uMOST_CUTS⟩,⟨_,W.mg_of X G uMOST_DIMS⟩,⟨_,W.mg_of X G uMOST_FIGURES⟩,⟨_,W.mg_of X G uNO_SIGNS⟩,⟨_,W.mg_of X G uMARKS,λP=>Fj sMARKS lMARKS gMARKS0 gMARKS1 gMARKS2 (by decide)⟩,⟨_,W.mg_of X G uSIGNS,λP=>FL sSIGNS lSIGNS gSIGNS0 gSIGNS1 gSIGNS2 (by decide)⟩⟩
def Fk{K:W.Frag}{a g:Addr}{m q:Str}{st:Stmt}{p kV d n b h:Vq}{k i:Oq Addr}{c:Array (Option Value)}(j:W.findIn K (.ref a) m=some (some (.ref g)))(f:W.isFn K (.ref g)=true)(l:K.lookup g=some ⟨p,k,.func (W.fnOf m q (fF st) (ed st) (c8 st) .none kV d n i b h),c⟩)(o:W.codeIn K b q=true)(e:W.keepIn K (.ref g)=true):gS K a m q st:=⟨_,_,sO l o e,j,f,e⟩
set_option hygiene false in
local macro_rules|`('x')=>`(by repeat' first|(refine' cW ?_ ?_)|(refine' c7 ?_)|(exact dy)|(refine' ey _ nd ?_)|(refine' d8 ?_ ?_ ?_)|(refine' dS ?_)|(refine' rO _ nd ?_)|(refine' rl ?_)|(refine' zv ?_)|(exact ij)|(refine' rP _ nd ?_)|(exact dc _)|(exact dO)|(refine' dh ?_ ?_)|(exact dR)|(refine' yN ?_ ?_)|(refine' jk (by assumption) hr ?_)|(refine' iE ?_ ?_)|(refine' iX ?_)|(refine' jn hr ?_ ?_)|(refine' pQ hr ?_ ?_)|(refine' fR ?_)|(refine' k9 ?_)|(refine' fH ?_ ?_)|(refine' fZ ?_)|(refine' uF ?_ ?_)|(refine' q9 ?_)|(refine' dJ (eJ (K:=K)) gM (by rfl) B.len gK ?_)|(refine' fX yO xO ?_ ?_)|(refine' fX uG ve ?_ ?_)|(refine' fX xt zg ?_ ?_)|(refine' fX rm rN ?_ ?_)|(refine' fX op_notN mr_notN ?_ ?_)|(refine' fX op_isN mr_isN ?_ ?_)|(exact FO)|(exact pm_non)|(exact fK)|(refine' B1 ?_)|(refine' tf ?_ ?_)|(refine' qy ?_ ?_)|(refine' DD ?_)|(refine' sT ?_ ?_)|(refine' Ay ?_ ?_)|(refine' rD ?_ ?_ ?_)|(exact xU)|(refine' yj ?_)|(refine' gL "tuple" (by decide) B.isinstance B.tuple eS ?_)|(refine' gL "list" (by decide) B.isinstance B.list lE ?_)|(refine' gL "int" (by decide) B.isinstance B.int nF ?_)|(refine' gL "bool" (by decide) B.isinstance B.bool qx ?_)|(refine' dI (eX (K:=K)) fW (by rfl) B.tuple eS ?_)|(refine' dI call_int1 mc_int1 (by rfl) B.int nF ?_)|(refine' dJ lp qU (by rfl) B.abs pX ?_)|(refine' dJ (iR (K:=K) rfl) lR (by rfl) B.all lT ?_)|(refine' eF ?_)|(refine' AF (by assumption) hr ?_)|(refine' lU (kZ (K:=K)) nJ (by rfl) B.list lE ?_)|(refine' kW ?_)|(refine' tO ?_ ?_)|(refine' B7 ?_ ?_)|(refine' n5 ?_ ?_)|(refine' lQ ?_)|(refine' qQ ?_))
section
variable {P:Program}{w:World}{K:W.Frag}{mg:Str->Option Value}{base:Heap}{c:Cs}(Z:Zx P w K mg base)(B:Bs mg)(ER:Er w c K mg)
include Z B ER
theorem o0(D:dg K mg "is_whole" (fj 7)):CP Z "is_whole" 1 (gp c):=fU Z 0 (gp c) ["thing"] ["thing"] rfl D λnd hX hr=>⟨_,(c7 (dS (n5 (gL "int" (by decide) B.isinstance B.int nF (dc 0)) (lQ (qQ (gL "bool" (by decide) B.isinstance B.bool qx (dc 0)))))))⟩
theorem o1(D:dg K mg "common_divisor" (fj 9)):CP Z "common_divisor" 1 (fG c):=fU Z 0 (fG c) ["one","other","rest"] ["one","other"] rfl D λnd hX hr=>⟨_,(cW (sZ (λρ=>match ρ with|_::some (.p (.int j))::_=>j.natAbs+1|_=>0) PassesOwn.never 'x' 'x') (c7 (dS (dJ lp qU (by rfl) B.abs pX 'x'))))⟩
theorem o2(D:dg K mg "first_place" (fj 15)):CP Z "first_place" 1 (gA c):=fU Z 0 (gA c) ["cut","place"] ["cut"] rfl D λnd hX hr=>⟨_,(cW (ey 1 nd dO) (cW (sZ (λρ=>match ρ with|some (.p (.tup ts))::_=>ts.length+1|_=>0) PassesOwn.never 'x' 'x') 'x'))⟩
theorem o3(D:gS K c.Cutting "dims" "Cutting.dims" (kr (fj 19) 1)):g9 P w K mg base c.Cutting "dims" 1 (oJ K (eO c)):=E7 Z 0 (eO c) ["self"] ["self"] rfl ER.cl_Cutting D λnd hX hr=>⟨_,(c7 (dS (xC rfl ER.cl_Cutting ER.na_Cutting_own_dims (dc 0))))⟩
theorem o4(D:gS K c.Cutting "cuts" "Cutting.cuts" (kr (fj 19) 2)):g9 P w K mg base c.Cutting "cuts" 1 (sN K (eP c)):=DK Z 0 (eP c) ["self"] ["self"] rfl ER.cl_Cutting D λnd hX hr=>⟨_,(c7 (rl (lU (kZ (K:=K)) nJ (by rfl) B.list lE (dh (xC rfl ER.cl_Cutting ER.na_Cutting_own_cuts (dc 0)) dR))))⟩
theorem o5(D:dg K mg "shown_row" (fj 26)):CP Z "shown_row" 1 (iA c):=fU Z 0 (iA c) ["numbers"] ["numbers"] rfl D λnd hX hr=>⟨_,(c7 (dS (ja fK (eF (eV ["number"] [none] hX (eI (dc 0)) (λnd hX=>⟨(fv 0 nd),dP,(dI eA gH (by rfl) B.str ia 'x')⟩))))))⟩
theorem o6(D:dg K mg "shown_fraction" (fj 27)):CP Z "shown_fraction" 1 (eK c):=fU Z 0 (eK c) ["one"] ["one"] rfl D λnd hX hr=>⟨_,(cW (d8 'x' (c7 (dS (dI eA gH (by rfl) B.str ia 'x'))) dy) (c7 (dS (iE (iE (dI eA gH (by rfl) B.str ia 'x') fK) (dI eA gH (by rfl) B.str ia 'x')))))⟩
theorem o7(D:dg K mg "shown_signs" (fj 31)):CP Z "shown_signs" 1 (gB c):=fU Z 0 (gB c) ["signs"] ["signs"] rfl D λnd hX hr=>⟨_,(cW (d8 'x' (c7 (dS (nV "." ER.k_NO_SIGNS))) dy) (c7 (dS (ja fK (eF (eV ["sign"] [none] hX (eI (dc 0)) (λnd hX=>⟨(fv 0 nd),dP,(Be [(1, "+"),(0, "0"),(-1, "-")] (G7 ER.tb_MARKS) (dc 0))⟩)))))))⟩
theorem o8(D:dg K mg "check_text" (fj 32)):CP Z "check_text" 1 (ee c):=fU Z 0 (ee c) ["thing"] ["thing"] rfl D λnd hX hr=>⟨_,(c7 (d8 (fR (iX (gL "str" (by decide) B.isinstance B.str ia (dc 0)))) (c7 ij) dy))⟩
theorem o9(D:dg K mg "are_figures" (fj 33)):CP Z "are_figures" 1 (gC c):=fU Z 0 (gC c) ["text","most"] ["text","most"] rfl D λnd hX hr=>⟨_,(cW (d8 (k9 (fH (fR (wu rm rN rm rN dO (dJ (eJ (K:=K)) gM (by rfl) B.len gK 'x') (dc 1))) (fZ (fR (iX (dJ (iR (K:=K) rfl) lR (by rfl) B.all lT (dh (eF (eV ["sign"] [none] hX (qj (dc 0)) (λnd hX=>⟨(fv 0 nd),dP,(DG (dc 0) (nV "0123456789" ER.k_FIGURES))⟩))) dR))))))) 'x' dy) (c7 (dS (Gc (vf hr (dc 0) fK) (lQ (B0 hr 'x' fK))))))⟩
theorem Ii(D:dg K mg "parts_of_dims" (fj 36)):CP Z "parts_of_dims" 1 (eB c):=fU Z 0 (eB c) ["text","parts"] ["text"] rfl D λnd a hr=>⟨_,(cW (ey 1 nd (eF (lK (dc 0) fK))) (cW (d8 (fX uG ve (dJ (eJ (K:=K)) gM (by rfl) B.len gK 'x') (lz 3 ER.k_MOST_DIMS)) (c7 ij) dy) 'x'))⟩
theorem HB(D:dg K mg "_law_cell_at" (fj 42)):CP Z "_law_cell_at" 1 (dq c):=fU Z 0 (dq c) ["_law_script","_law_k"] ["_law_script","_law_k"] rfl D λnd a hr=>⟨_,(cW (d8 (fX yO xO (dc 1) (dJ (eJ (K:=K)) gM (by rfl) B.len gK 'x')) 'x' dy) 'x')⟩
theorem HE(D:dg K mg "_law_draw" (fj 43)):CP Z "_law_draw" 1 (c9 c):=fU Z 0 (c9 c) ["_law_cell","_law_k","_law_bound","_law_left","_law_j","_law_stir"] ["_law_cell","_law_k","_law_bound"] rfl D λnd a hr=>⟨_,(cW (d8 (fX xt zg (dc 0) (kY dO dO)) (cW 'x' (cW (jA PassesOwn.never rfl (il B.range 'x') (jE 4 nd) 'x') 'x')) dy) 'x')⟩
theorem HM(D:dg K mg "_law_whole" (fj 44)):CP Z "_law_whole" 1 (eC c):=fU Z 0 (eC c) ["_law_found"] ["_law_found"] rfl D λnd a hr=>⟨_,(c7 (dS (n5 (gL "int" (by decide) B.isinstance B.int nF (dc 0)) (lQ (qQ (gL "bool" (by decide) B.isinstance B.bool qx (dc 0)))))))⟩
theorem HL(D:dg K mg "_law_common" (fj 45)):CP Z "_law_common" 1 (fy c):=fU Z 0 (fy c) ["_law_one","_law_other"] ["_law_one","_law_other"] rfl D λnd b hr=>⟨_,(cW (ey 0 nd (dJ lp qU (by rfl) B.abs pX 'x')) (cW (ey 1 nd (dJ lp qU (by rfl) B.abs pX 'x')) (cW (sZ (λa=>match a with|_::some (.p (.int j))::_=>j.natAbs+1|_=>0) PassesOwn.never (fX uG ve (dc 1) dO) (c7 (As (i:=0) (j:=1) rfl nd rfl rfl (by decide) rfl rfl 'x' (by rfl)))) 'x')))⟩
theorem Ik(D:dg K mg "_law_same" (fj 48)):CP Z "_law_same" 1 (gJ c):=fU Z 0 (gJ c) ["_law_one","_law_other","_law_k","_law_j"] ["_law_one","_law_other"] rfl D λnd a hr=>⟨_,(cW (jA PassesOwn.never rfl (il B.range (dh (dJ (eJ (K:=K)) gM (by rfl) B.len gK 'x') dR)) (jE 2 nd) (c7 (jA PassesOwn.never rfl (il B.range 'x') (jE 3 nd) 'x'))) 'x')⟩
theorem HH(D:dg K mg "_law_shown" (fj 52)):CP Z "_law_shown" 1 (fO c):=fU Z 0 (fO c) ["_law_one"] ["_law_one"] rfl D λnd a hr=>⟨_,(cW (d8 'x' (c7 (dS (dI eA gH (by rfl) B.str ia 'x'))) dy) (c7 (dS (iE (iE (dI eA gH (by rfl) B.str ia 'x') fK) (dI eA gH (by rfl) B.str ia 'x')))))⟩
theorem Hz(D:dg K mg "_law_cut_text" (fj 54)):CP Z "_law_cut_text" 1 (eQ c):=fU Z 0 (eQ c) ["_law_cut_here"] ["_law_cut_here"] rfl D λnd a hr=>⟨_,(c7 (dS (iE (iE (ja fK (eF (eV ["_law_number"] [none] a (eI 'x') (λnd a=>⟨(fv 0 nd),dP,(dI eA gH (by rfl) B.str ia 'x')⟩)))) fK) (dI eA gH (by rfl) B.str ia 'x'))))⟩
theorem Ij(D:dg K mg "is_dims" (fj 13))(a:CP Z "is_whole" 1 (gp c)):CP Z "is_dims" 2 (iQ c):=fU Z 1 (iQ c) ["thing"] ["thing"] rfl D λnd b hr=>⟨_,(c7 (dS (n5 'x' (lQ (wO rm rN rm rN dO (dc 0) (lz 3 ER.k_MOST_DIMS))))))⟩
theorem HX(D:dg K mg "is_cut" (fj 14))(b:CP Z "is_whole" 1 (gp c)):CP Z "is_cut" 2 (g6 c):=fU Z 1 (g6 c) ["dims","thing"] ["dims","thing"] rfl D λnd a hr=>⟨_,(cW (d8 (k9 (fH (fR (iX (gL "tuple" (by decide) B.isinstance B.tuple eS (dc 1)))) (fZ (jn hr (dJ (eJ (K:=K)) gM (by rfl) B.len gK 'x') 'x')))) 'x' dy) (cW (d8 (fR (iX (dJ (iR (K:=K) rfl) lR (by rfl) B.all lT (dh (eF (eV ["number"] [none] a (eI (dc 1)) (λnd a=>⟨(fv 0 nd),dP, 'x'⟩))) dR)))) 'x' dy) (c7 (dS (dJ (pC (K:=K) rfl) zB (by rfl) B.any wX (dh (eF (eV ["number"] [none] a (eI 'x') (λnd a=>⟨(fv 0 nd),dP,(B0 hr (dc 0) dO)⟩))) dR))))))⟩
theorem HR(D:dg K mg "same_spots" (fj 16))(b:CP Z "first_place" 1 (gA c)):CP Z "same_spots" 2 (hC c):=fU Z 1 (hC c) ["one","other","place"] ["one","other"] rfl D λnd a hr=>⟨_,(cW 'x' (c7 (dS (dJ (iR (K:=K) rfl) lR (by rfl) B.all lT (dh (eF (eV ["mine","theirs","other","place","one"] [none,none,some 1,some 2,some 0] a (vB B.zip 'x') (λnd a=>⟨(xR 2 rfl (kq (fv 0 nd) (kq (fv 1 nd) qX))),dP,(vf hr 'x' 'x')⟩))) dR)))))⟩
theorem Ih(D:dg K mg "shown_spot" (fj 28))(b:CP Z "shown_fraction" 1 (eK c)):CP Z "shown_spot" 2 (gX c):=fU Z 1 (gX c) ["spot"] ["spot"] rfl D λnd a hr=>⟨_,(c7 (dS (ja fK (eF (eV ["part"] [none] a (eI (dc 0)) (λnd a=>⟨(fv 0 nd),dP, 'x'⟩))))))⟩
theorem HK(D:dg K mg "shown_cut" (fj 29))(b:CP Z "shown_row" 1 (iA c)):CP Z "shown_cut" 2 (fP c):=fU Z 1 (fP c) ["cut"] ["cut"] rfl D λnd a hr=>⟨_,(c7 (dS (iE 'x' (dI eA gH (by rfl) B.str ia 'x'))))⟩
theorem HQ(D:dg K mg "read_number" (fj 34))(a:CP Z "are_figures" 1 (gC c)):CP Z "read_number" 2 (dM c):=fU Z 1 (dM c) ["text","figures"] ["text"] rfl D λnd b hr=>⟨_,(cW (ey 1 nd (BG (iX (wF (dc 0) fK)) (Bx (dc 0)) (dc 0))) (cW (d8 (k9 (fH (fR (iX (jk a hr (dh (dc 1) (dh (lz 60 ER.k_MOST_FIGURES) dR))))) (fZ 'x'))) (c7 ij) dy) (c7 (dS (dI ou Bw (by rfl) B.int nF 'x')))))⟩
theorem HW(D:dg K mg "read_signs" (fj 40))(b:CP Z "check_text" 1 (ee c)):CP Z "read_signs" 2 (gZ c):=fU Z 1 (gZ c) ["text"] ["text"] rfl D λnd a hr=>⟨_,(cW 'x' (cW (d8 (pQ hr (dc 0) (nV "." ER.k_NO_SIGNS)) 'x' dy) (cW (d8 (k9 (fH 'x' (fZ (fR (iX (dJ (iR (K:=K) rfl) lR (by rfl) B.all lT (dh (eF (eV ["mark"] [none] a (qj (dc 0)) (λnd a=>⟨(fv 0 nd),dP,((xh [("+",1),("0",0),("-",-1)] (G7 ER.tb_SIGNS) (dc 0)))⟩))) dR))))))) (c7 ij) dy) (c7 (dS (dI (eX (K:=K)) fW (by rfl) B.tuple eS (dh (eF (eV ["mark"] [none] a (qj (dc 0)) (λnd a=>⟨(fv 0 nd),dP,(Ao [("+",1),("0",0),("-",-1)] (G7 ER.tb_SIGNS) (dc 0))⟩))) dR)))))))⟩
theorem HS(D:dg K mg "_law_lowest" (fj 46))(a:CP Z "_law_common" 1 (fy c)):CP Z "_law_lowest" 2 (gw c):=fU Z 1 (gw c) ["_law_top","_law_bottom","_law_share"] ["_law_top","_law_bottom"] rfl D λnd b hr=>⟨_, 'x'⟩
theorem Il(D:dg K mg "_law_is_fraction" (fj 47))(b:CP Z "_law_whole" 1 (eC c))(a:CP Z "_law_common" 1 (fy c)):CP Z "_law_is_fraction" 2 (eD c):=fU Z 1 (eD c) ["_law_found"] ["_law_found"] rfl D λnd d hr=>⟨_,(cW (d8 (k9 (fH (fR (iX (gL "tuple" (by decide) B.isinstance B.tuple eS (dc 0)))) (fH (jn hr (dJ (eJ (K:=K)) gM (by rfl) B.len gK 'x') dO) (fH 'x' (fZ 'x'))))) 'x' dy) (c7 (dS (n5 (ud uG ve 'x' dO) (lQ (vf hr 'x' dO))))))⟩
theorem HY(D:dg K mg "_law_cut" (fj 49))(b:CP Z "_law_draw" 1 (c9 c)):CP Z "_law_cut" 2 (iP c):=fU Z 1 (iP c) ["_law_cell","_law_dims","_law_ahead","_law_numbers","_law_c","_law_way","_law_far"] ["_law_cell","_law_dims","_law_ahead"] rfl D λnd a hr=>⟨_,(cW (qF ["_law_j","_law_cell"] [none,some 0] 3 nd a (sA.pim (il B.range 'x')) (λnd a=>⟨(fv 0 nd),dP, 'x'⟩) vk) (cW (d8 'x' (c7 (z0 3 (pv 3) 'x' 'x')) dy) (cW 'x' (cW 'x' (cW (d8 'x' (c7 (rP 3 nd (lU (kZ (K:=K)) nJ (by rfl) B.list lE (dh (rD (yN (dc 2) (jk b hr (dh (dc 0) (dh dO (dh (dJ (eJ (K:=K)) gM (by rfl) B.len gK 'x') dR))))) xU (yj (dc 1))) dR)))) dy) (cW (d8 'x' (c7 (rO 4 nd (dJ (vH (K:=K) rfl) DA (by rfl) B.sum Dn (dh (eF (eV ["_law_number","_law_part"] [none,none] a (vB B.zip 'x') (λnd a=>⟨(xR 2 rfl (kq (fv 0 nd) (kq (fv 1 nd) qX))),dP, 'x'⟩))) dR)))) dy) (cW (d8 'x' (cW (ey 6 nd (tf (iE dO (jk b hr (dh (dc 0) (dh dO (dh (kY dO dO) dR))))) (yN (eF (kW (dh dO (dh dO (dh (kY dO dO) dR))))) 'x'))) (cW (qF ["_law_number","_law_far"] [none,some 6] 3 nd a (eI (dc 3)) (λnd a=>⟨(fv 0 nd),dP, 'x'⟩) Au) 'x')) dy) (c7 (dS (dI (eX (K:=K)) fW (by rfl) B.tuple eS 'x'))))))))))⟩
theorem HJ(D:dg K mg "can_stand" (fj 17))(d:CP Z "is_cut" 2 (g6 c))(b:CP Z "same_spots" 2 (hC c)):CP Z "can_stand" 3 (gP c):=fU Z 2 (gP c) ["dims","ahead","thing"] ["dims","ahead","thing"] rfl D λnd a hr=>⟨_,(cW (d8 (k9 (fH (fX xt zg (dJ (eJ (K:=K)) gM (by rfl) B.len gK 'x') (lz 7 ER.k_MOST_CUTS)) (fZ 'x'))) 'x' dy) (c7 (dS (qQ (dJ (pC (K:=K) rfl) zB (by rfl) B.any wX (dh (eF (eV ["cut","thing"] [none,some 2] a (eI (dc 1)) (λnd a=>⟨(fv 0 nd),dP, 'x'⟩))) dR))))))⟩
theorem HG(D:dg K mg "shown_cutting" (fj 30))(b:CP Z "shown_cut" 2 (fP c))(e:g9 P w K mg base c.Cutting "dims" 1 (oJ K (eO c)))(d:g9 P w K mg base c.Cutting "cuts" 1 (sN K (eP c))):CP Z "shown_cutting" 3 (fS c):=fU Z 2 (fS c) ["cutting"] ["cutting"] rfl D λnd a hr=>⟨_,(c7 (dS (ja fK (eF (tO (eF (kW (dh (dI eA gH (by rfl) B.str ia (dh (wW e hr (dc 0)) dR)) dR))) (eF (eV ["cut"] [none] a (eI (eF (yn d hr (dc 0)))) (λnd a=>⟨(fv 0 nd),dP, 'x'⟩))))))))⟩
theorem HN(D:dg K mg "read_fraction" (fj 35))(d:CP Z "check_text" 1 (ee c))(a:CP Z "read_number" 2 (dM c))(b:CP Z "common_divisor" 1 (fG c)):CP Z "read_fraction" 3 (eG c):=fU Z 2 (eG c) ["text","parts","top","bottom"] ["text"] rfl D λnd e hr=>⟨_,(cW 'x' (cW (ey 1 nd (eF (lK (dc 0) fK))) (cW (d8 (pQ hr (dJ (eJ (K:=K)) gM (by rfl) B.len gK 'x') dO) 'x' dy) (cW (d8 (jn hr (dJ (eJ (K:=K)) gM (by rfl) B.len gK 'x') dO) (c7 ij) dy) (cW 'x' (cW 'x' (cW (d8 (k9 (fH (fX yO xO (dc 3) dO) (fZ 'x'))) (c7 ij) dy) 'x')))))))⟩
theorem Ig(D:dg K mg "read_cut" (fj 38))(f:CP Z "check_text" 1 (ee c))(d:CP Z "read_number" 2 (dM c))(a:CP Z "is_cut" 2 (g6 c))(e:CP Z "parts_of_dims" 1 (eB c)):CP Z "read_cut" 3 (gj c):=fU Z 2 (gj c) ["text","halves","numbers","cut"] ["text"] rfl D λnd b hr=>⟨_,(cW 'x' (cW (ey 1 nd (eF (lK (dc 0) fK))) (cW (d8 (jn hr (dJ (eJ (K:=K)) gM (by rfl) B.len gK 'x') dO) (c7 ij) dy) (cW (qF ["part"] [none] 2 nd b (eI 'x') (λnd b=>⟨(fv 0 nd),dP, 'x'⟩) r6) (cW (ey 3 nd (dI (eX (K:=K)) fW (by rfl) B.tuple eS 'x')) (cW (d8 (fR (iX (jk a hr (dh (dJ (eJ (K:=K)) gM (by rfl) B.len gK 'x') 'x')))) (c7 ij) dy) 'x'))))))⟩
theorem Ic(D:dg K mg "_law_cuts" (fj 50))(d:CP Z "_law_cut" 2 (iP c))(e:CP Z "_law_cell_at" 1 (dq c))(b:CP Z "_law_same" 1 (gJ c)):CF Z "_law_cuts" 3 (iV c):=FH Z 2 (iV c) ["_law_script","_law_at","_law_dims","_law_many","_law_found","_law_k","_law_cut_here"] ["_law_script","_law_at","_law_dims","_law_many"] rfl D λnd a hr=>⟨_,(cW 'x' (cW (jA PassesOwn.never rfl (il B.range 'x') (jE 5 nd) (cW 'x' (c7 (d8 (pQ hr (eF (eV ["_law_other","_law_cut_here"] [none,some 6] a (eI (dc 4)) (λnd a=>⟨(fv 0 nd),(nt 'x'),(dc 0)⟩))) (eF (kW dR))) (c7 (rZ 4 (pv 4) (dc 6))) dy)))) (c7 (yT 4 (pv 4)))))⟩
theorem Hx(D:dg K mg "_law_is_spot" (fj 51))(b:CP Z "_law_is_fraction" 2 (eD c)):CP Z "_law_is_spot" 3 (gz c):=fU Z 2 (gz c) ["_law_found","_law_dims"] ["_law_found","_law_dims"] rfl D λnd a hr=>⟨_,(cW (d8 (k9 (fH (fR (iX (gL "tuple" (by decide) B.isinstance B.tuple eS (dc 0)))) (fZ (jn hr (dJ (eJ (K:=K)) gM (by rfl) B.len gK 'x') (dc 1))))) 'x' dy) (c7 (dS (dJ (iR (K:=K) rfl) lR (by rfl) B.all lT (dh (eF (eV ["_law_part"] [none] a (eI (dc 0)) (λnd a=>⟨(fv 0 nd),dP, 'x'⟩))) dR)))))⟩
theorem Ib(D:dg K mg "_law_fraction" (fj 53))(b:CP Z "_law_lowest" 2 (gw c))(a:CP Z "_law_draw" 1 (c9 c)):CP Z "_law_fraction" 3 (dm c):=fU Z 2 (dm c) ["_law_cell","_law_top","_law_bottom","_law_far"] ["_law_cell"] rfl D λnd d hr=>⟨_,(cW 'x' (cW 'x' (cW (d8 'x' (cW (ey 3 nd dO) (cW (ey 1 nd (iE (qy (sT (iE 'x' (jk a hr (dh (dc 0) (dh dO (dh (kY dO dO) dR))))) (qy (tf dO (kY dO dO)) dO)) (kY dO dO)) dO)) (c7 (ey 2 nd (iE dO (sT 'x' (qy (kY dO dO) dO))))))) dy) 'x')))⟩
theorem HC(D:dg K mg "_law_signs_good" (fj 57))(d:CP Z "read_signs" 2 (gZ c))(e:CP Z "shown_signs" 1 (gB c))(b:CP Z "_law_whole" 1 (eC c)):CP Z "_law_signs_good" 3 (eY c):=fU Z 2 (eY c) ["_law_signs","_law_text","_law_found"] ["_law_signs"] rfl D λnd a hr=>⟨_,(cW (ey 1 nd (BG 'x' (ja fK (eF (eV ["_law_sign"] [none] a (eI (dc 0)) (λnd a=>⟨(fv 0 nd),dP, 'x'⟩)))) fK)) (cW 'x' (cW (d8 (k9 (fH 'x' (fH (fR (iX (gL "tuple" (by decide) B.isinstance B.tuple eS (dc 2)))) (fZ 'x')))) 'x' dy) (c7 (dS (vf hr (eF (eV ["_law_sign"] [none] a (eI (dc 2)) (λnd a=>⟨(fv 0 nd),(nt 'x'),(dc 0)⟩))) (eF (kW dR))))))))⟩
theorem Hy(D:dg K mg "checked_cuts" (fj 18))(b:CP Z "is_dims" 2 (iQ c))(a:CP Z "can_stand" 3 (gP c)):CP Z "checked_cuts" 4 (fL c):=fU Z 3 (fL c) ["dims","things","ahead","thing"] ["dims","things"] rfl D λnd d hr=>⟨_,(cW (d8 (k9 (fH 'x' (fZ (fR (iX (gL "list" (by decide) B.isinstance B.list lE (dc 1))))))) (c7 ij) dy) (cW 'x' (cW (qu PassesOwn.never rfl (eI (dc 1)) (jE 3 nd) (cW 'x' (c7 (rZ 2 (pv 2) (dI (eX (K:=K)) fW (by rfl) B.tuple eS 'x'))))) (c7 (dS (dI (eX (K:=K)) fW (by rfl) B.tuple eS 'x'))))))⟩
theorem Ia(D:dg K mg "read_spot" (fj 37))(e:CP Z "check_text" 1 (ee c))(d:CP Z "read_fraction" 3 (eG c))(b:CP Z "parts_of_dims" 1 (eB c)):CP Z "read_spot" 4 (iw c):=fU Z 3 (iw c) ["text"] ["text"] rfl D λnd a hr=>⟨_,(cW 'x' (c7 (dS (dI (eX (K:=K)) fW (by rfl) B.tuple eS (dh (eF (eV ["part"] [none] a (eI 'x') (λnd a=>⟨(fv 0 nd),dP, 'x'⟩))) dR)))))⟩
theorem HA(D:gS K c.Cutting "__init__" "Cutting.__init__" (kr (fj 19) 0))(a:CP Z "checked_cuts" 4 (fL c)):tG P w K mg base "Cutting" c.Cutting 5 (rk K c.Cutting (eN c)):=He Z 4 (eN c) ["self","dims","cuts"] rfl ER.cl_Cutting ER.na_Cutting_own_cuts ER.na_Cutting_own_dims ER.mk_Cutting ER.kp_Cutting ER.mg_Cutting D λhr=>G2 rfl (pv 0) (jk a hr (dh (dc 1) (dh (dc 2) dR))) (pv 0) (dc 1)
theorem HP(D:dg K mg "_law_spots_good" (fj 55))(f:CP Z "_law_fraction" 3 (dm c))(j:CP Z "_law_is_fraction" 2 (eD c))(d:CP Z "read_spot" 4 (iw c))(g:CP Z "read_fraction" 3 (eG c))(e:CP Z "_law_shown" 1 (fO c))(k:CP Z "shown_fraction" 1 (eK c))(h:CP Z "shown_spot" 2 (gX c))(b:CP Z "_law_is_spot" 3 (gz c))(i:CP Z "_law_draw" 1 (c9 c)):CP Z "_law_spots_good" 5 (eZ c):=fU Z 4 (eZ c) ["_law_cell","_law_one","_law_place","_law_text","_law_turn","_law_found"] ["_law_cell"] rfl D λnd a hr=>⟨_,(cW 'x' (cW (ey 2 nd (dI (eX (K:=K)) fW (by rfl) B.tuple eS (dh (eF (eV ["_law_j","_law_cell"] [none,some 0] a (sA.pim (il B.range 'x')) (λnd a=>⟨(fv 0 nd),dP, 'x'⟩))) dR))) (cW (ey 3 nd (ja fK (eF (eV ["_law_part"] [none] a (eI (dc 2)) (λnd a=>⟨(fv 0 nd),dP, 'x'⟩))))) (cW (jA PassesOwn.never rfl (il B.range 'x') (jE 4 nd) (cW 'x' (cW 'x' (c7 (d8 (k9 (fH 'x' (fH (fR (iX (jk b hr (dh (dc 5) (dh (dJ (eJ (K:=K)) gM (by rfl) B.len gK 'x') dR))))) (fZ 'x')))) 'x' dy))))) 'x'))))⟩
theorem H9(D:dg K mg "read_cutting" (fj 39))(f:CP Z "check_text" 1 (ee c))(d:CP Z "read_number" 2 (dM c))(a:tG P w K mg base "Cutting" c.Cutting 5 (rk K c.Cutting (eN c)))(e:CP Z "read_cut" 3 (gj c)):CP Z "read_cutting" 7 (gd c):=fU Z 6 (gd c) ["text","words","dims","cuts"] ["text"] rfl D λnd b hr=>⟨_,(cW 'x' (cW (ey 1 nd (eF (lK (dc 0) fK))) (cW 'x' (cW (qF ["word"] [none] 3 nd b (eI 'x') (λnd b=>⟨(fv 0 nd),dP, 'x'⟩) r6) (c7 (dS (BS a hr 'x')))))))⟩
theorem HD(D:dg K mg "_law_cutting_good" (fj 56))(b:tG P w K mg base "Cutting" c.Cutting 5 (rk K c.Cutting (eN c)))(j:CP Z "read_cutting" 7 (gd c))(g:CP Z "read_cut" 3 (gj c))(k:CP Z "_law_cut_text" 1 (eQ c))(f:CP Z "shown_cutting" 3 (fS c))(i:g9 P w K mg base c.Cutting "dims" 1 (oJ K (eO c)))(e:g9 P w K mg base c.Cutting "cuts" 1 (sN K (eP c)))(d:CP Z "shown_cut" 2 (fP c))(h:CP Z "_law_whole" 1 (eC c)):CP Z "_law_cutting_good" 8 (dY c):=fU Z 7 (dY c) ["_law_dims","_law_cuts_here","_law_cutting","_law_text","_law_turn","_law_found","_law_cut_here"] ["_law_dims","_law_cuts_here"] rfl D λnd a hr=>⟨_,(cW (ey 2 nd (BS b hr 'x')) (cW (ey 3 nd (ja fK (eF (tO (eF (kW (dh (dI eA gH (by rfl) B.str ia 'x') dR))) (eF (eV ["_law_cut_here"] [none] a (eI (dc 1)) (λnd a=>⟨(fv 0 nd),dP, 'x'⟩))))))) (cW (jA PassesOwn.never rfl (il B.range 'x') (jE 4 nd) (cW 'x' (c7 (d8 (k9 (fH 'x' (fH (jn hr (wW i hr (dc 5)) (dc 0)) (fZ (jn hr (eF (yn e hr (dc 5))) (dc 1)))))) 'x' dy)))) (cW (qu PassesOwn.never rfl (eI (dc 1)) (jE 6 nd) (cW 'x' (cW (d8 (k9 (fH 'x' (fH (fR (iX (gL "tuple" (by decide) B.isinstance B.tuple eS (dc 5)))) (fZ 'x')))) 'x' dy) (c7 (d8 (jn hr (eF (eV ["_law_number"] [none] a (eI (dc 5)) (λnd a=>⟨(fv 0 nd),(nt 'x'),(dc 0)⟩))) (eF (kW dR))) 'x' dy))))) 'x'))))⟩
theorem oL{b:Addr}{fd:FuncData}(D:zD K "law" "law" (fj 58) b fd)(i:CP Z "_law_draw" 1 (c9 c))(g:CP Z "_law_cutting_good" 8 (dY c))(f:CP Z "_law_signs_good" 3 (eY c))(d:CP Z "_law_spots_good" 5 (eZ c))(j:CP Z "_law_cell_at" 1 (dq c))(e:CF Z "_law_cuts" 3 (iV c))(h:CP Z "_law_fraction" 3 (dm c)):iY P w K mg base og 9 b fd ["_law_script"] (oJ K (lb c)):=Fi Z 8 (lb c) ["_law_script","_law_dims","_law_great","_law_cell","_law_signs"] ["_law_script"] rfl D λnd a hr=>⟨_,(cW 'x' (cW 'x' (cW (ey 2 nd (dI (eX (K:=K)) fW (by rfl) B.tuple eS (dh (eF (eV ["_law_j","_law_script"] [none,some 0] a (sA.pim (il B.range 'x')) (λnd a=>⟨(fv 0 nd),dP, 'x'⟩))) dR))) (cW (d8 (k9 (uF (jn hr (dc 2) (AX 'x' (dc 1))) (q9 'x'))) 'x' dy) (cW (qu PassesOwn.never rfl (eI 'x') (jE 3 nd) (cW (ey 4 nd (dI (eX (K:=K)) fW (by rfl) B.tuple eS (dh (eF (eV ["_law_j","_law_cell"] [none,some 3] a (sA.pim (il B.range 'x')) (λnd a=>⟨(fv 0 nd),dP, 'x'⟩))) dR))) 'x')) 'x')))))⟩
end
def De{l:W.OpenLaw}{w:World}{K:W.Frag}{h:Heap}{b:Str->Option Value}{c:Cs}{fa f:Addr}{oc kV q pm k ct:Vq}{od an:Oq Addr}{osl:Array (Option Value)}(X:K.In h)(G:h.Ns mainGlobals b)(hfa:b "law" = some (.ref fa))
  (a:W.nsIn K mainGlobals "law" = some (some (.ref f))) (lk:K.lookup f=some ⟨oc,od,.func (W.fnOf "law" "law" (fF (fj 58)) (ed (fj 58)) (c8 (fj 58)) .none kV q pm an k ct),osl⟩) (cc:W.codeIn K k "law" = true) (kk:W.keepIn K (.ref f)=true)
  (B:Bs b) (ER:Er w c K b) (LF:∀D:LI,(∀z∈D,Builtin.Int.intBits z<=2 ^ 20)->(lb c) [.scr D]=.ok (.bl true)) (D0:dg K b "is_whole" (fj 7)) (D1:dg K b "common_divisor" (fj 9)) (D2:dg K b "first_place" (fj 15)) (D3:dg K b "shown_row" (fj 26)) (D4:dg K b "shown_fraction" (fj 27)) (D5:dg K b "shown_signs" (fj 31)) (D6:dg K b "check_text" (fj 32)) (D7:dg K b "are_figures" (fj 33)) (D8:dg K b "parts_of_dims" (fj 36)) (D9:dg K b "_law_cell_at" (fj 42)) (D10:dg K b "_law_draw" (fj 43)) (D11:dg K b "_law_whole" (fj 44)) (D12:dg K b "_law_common" (fj 45)) (D13:dg K b "_law_same" (fj 48)) (D14:dg K b "_law_shown" (fj 52)) (R:dg K b "_law_cut_text" (fj 54)) (D16:dg K b "is_dims" (fj 13)) (D17:dg K b "is_cut" (fj 14)) (D18:dg K b "same_spots" (fj 16)) (D19:dg K b "shown_spot" (fj 28)) (S:dg K b "shown_cut" (fj 29)) (D21:dg K b "read_number" (fj 34)) (Y:dg K b "read_signs" (fj 40)) (H:dg K b "_law_lowest" (fj 46)) (D24:dg K b "_law_is_fraction" (fj 47)) (I:dg K b "_law_cut" (fj 49)) (D26:dg K b "can_stand" (fj 17)) (D27:dg K b "shown_cutting" (fj 30)) (D28:dg K b "read_fraction" (fj 35)) (D29:dg K b "read_cut" (fj 38)) (D30:dg K b "_law_cuts" (fj 50)) (P:dg K b "_law_is_spot" (fj 51)) (D32:dg K b "_law_fraction" (fj 53)) (D33:dg K b "_law_signs_good" (fj 57)) (D34:dg K b "checked_cuts" (fj 18)) (D35:dg K b "read_spot" (fj 37)) (D36:dg K b "_law_spots_good" (fj 55)) (D37:dg K b "read_cutting" (fj 39)) (L:dg K b "_law_cutting_good" (fj 56)) (M0:gS K c.Cutting "dims" "Cutting.dims" (kr (fj 19) 1)) (M1:gS K c.Cutting "cuts" "Cutting.cuts" (kr (fj 19) 2)) (M2:gS K c.Cutting "__init__" "Cutting.__init__" (kr (fj 19) 0)) :
  ∃fd:FuncData,(∀(s:Sq) (v:Vq),BindsTo s fd ⟨[v],[]⟩ [("_law_script",v)])/\∀d:Heap,K.In d->d.Ns mainGlobals b->iY l.prog w K b d og 9 fa fd ["_law_script"] (zb K):=by
 have e:=hfa.symm.trans (W.mg_of X G a);cases e;refine⟨W.fnOf "law" "law" (fF (fj 58)) (ed (fj 58)) (c8 (fj 58)) .none kV q pm an k ct,?bnd,λd _ _=>?main⟩
 case main=>have Z:Zx l.prog w K b d:=⟨trivial⟩;have O0:=o0 Z B ER D0;have O1:=o1 Z B ER D1;have O2:=o2 Z B ER D2;have O3:=o3 Z B ER M0;have O4:=o4 Z B ER M1;have O5:=o5 Z B ER D3;have O6:=o6 Z B ER D4;have O7:=o7 Z B ER D5;have o:=o8 Z B ER D6;have O9:=o9 Z B ER D7;have p:=Ii Z B ER D8;have n:=HB Z B ER D9;have g:=HE Z B ER D10;have i:=HM Z B ER D11;have C:=HL Z B ER D12;have O15:=Ik Z B ER D13;have O16:=HH Z B ER D14;have O17:=Hz Z B ER R;have O18:=Ij Z B ER D16 O0;have r:=HX Z B ER D17 O0;have O20:=HR Z B ER D18 O2;have U:=Ih Z B ER D19 O6;have t:=HK Z B ER S O5;have j:=HQ Z B ER D21 O9;have O24:=HW Z B ER Y o;have N:=HS Z B ER H C;have A:=Il Z B ER D24 i C;have O27:=HY Z B ER I g;have O28:=HJ Z B ER D26 r O20;have O29:=HG Z B ER D27 t O3 O4;have x:=HN Z B ER D28 o j O1;have y:=Ig Z B ER D29 o j r p;have O32:=Ic Z B ER D30 O27 n O15;have E:=Hx Z B ER P A;have u:=Ib Z B ER D32 N g;have J:=HC Z B ER D33 O24 O7 i;have O36:=Hy Z B ER D34 O18 O28;have O37:=Ia Z B ER D35 o x p;have m:=HA Z B ER M2 O36;have F:=HP Z B ER D36 u A O37 x O16 O6 U E g;have O40:=H9 Z B ER D37 o j m y;have Q:=HD Z B ER L m O40 y O17 O29 O3 O4 t i;exact (oL Z B ER (sO (st:=fj 58) lk cc kk) g Q J F n O32 u).imp (xl λD _ hb=>LF D hb)
 case bnd=>exact λs v=>.of_eq rfl
end K81
namespace PySem.Challenge.cw_cutlands_k81_texts_there_and_back_holds
def tw18001723363075718765:0=0:=rfl
def tw8272261398022166730:0=0:=rfl
def tw12224283476166019108:0=0:=rfl
def tw6854390030364837639:0=0:=rfl
def tw18059896654451656458:0=0:=rfl
def tw10259213100846380409:0=0:=rfl
def tw8680863387280969394:0=0:=rfl
def tw3423807358626100020:0=0:=rfl
def tw13334128386880973421:0=0:=rfl
def tw16344742839840925463:0=0:=rfl
def tw15854749947235907480:0=0:=rfl
def tw847808978682352952:0=0:=rfl
def tw8341062356242476777:0=0:=rfl
def tw6750702949378000695:0=0:=rfl
def tw14807438084259072826:0=0:=rfl
def tw6832069552305639969:0=0:=rfl
def tw9355997916469574280:0=0:=rfl
def tw10814908626250192006:0=0:=rfl
def tw8943648119807044923:0=0:=rfl
def tw14903405787715886339:0=0:=rfl
def tw11327495405682504242:0=0:=rfl
def tw7136605250577284860:0=0:=rfl
def tw12847899834795328516:0=0:=rfl
def tw10641345001935444602:0=0:=rfl
def tw16179459094867922919:0=0:=rfl
def tw12858041871737944097:0=0:=rfl
def tw10433818071946356870:0=0:=rfl
def tw2334142476324987366:0=0:=rfl
def tw11056382271831095480:0=0:=rfl
def tw6440665232833605854:0=0:=rfl
def tw6717238760037493330:0=0:=rfl
def tw16282258358720558275:0=0:=rfl
def tw10212563947806098547:0=0:=rfl
def tw2991891488706406694:0=0:=rfl
def tw6431177725841065915:0=0:=rfl
def tw3190860410389957611:0=0:=rfl
def tw14311538164517674545:0=0:=rfl
def tw11134181923959522630:0=0:=rfl
def tw5323007955072618980:0=0:=rfl
def tw8563645562284199069:0=0:=rfl
def tw15566056153562854712:0=0:=rfl
def tw6312128561587638080:0=0:=rfl
def tw7182555025616613275:0=0:=rfl
def tw17820523148852667438:0=0:=rfl
def tw1452381318708031886:0=0:=rfl
def tw16648389214608984487:0=0:=rfl
def tw2317529476255007372:0=0:=rfl
def tw11868145375098503372:0=0:=rfl
def tw8579507100992983940:0=0:=rfl
def tw10747376391908869028:0=0:=rfl
def tw18099306194084585192:0=0:=rfl
def tw8180634011067200856:0=0:=rfl
def tw15620092792534434827:0=0:=rfl
def tw4784860486128373366:0=0:=rfl
def tw5986833826300393434:0=0:=rfl
def tw1271680344440730714:0=0:=rfl
def tw10570635082573663159:0=0:=rfl
def tw11962194474036062864:0=0:=rfl
def tw891290280940146576:0=0:=rfl
def tw16333796696856503872:0=0:=rfl
def tw2012583437091870350:0=0:=rfl
def tw10961373191444271997:0=0:=rfl
def tw8687261695047261331:0=0:=rfl
def tw15167131365188275842:0=0:=rfl
def tw840174065746784653:0=0:=rfl
def tw11497886663812966435:0=0:=rfl
def tw9966249231340735729:0=0:=rfl
def tw14597482931506151659:0=0:=rfl
def tw8927040342965560724:0=0:=rfl
def tw11643067297417572704:0=0:=rfl
def tw16662526157561260854:0=0:=rfl
def tw2003550912141995816:0=0:=rfl
def tw18163411045945633502:0=0:=rfl
def tw2551423187373143413:0=0:=rfl
def tw7578103851830414501:0=0:=rfl
def tw5144819552342566390:0=0:=rfl
def tw6549588266157131635:0=0:=rfl
def tw7508887426663424005:0=0:=rfl
def tw5145758842407438153:0=0:=rfl
def tw3790214362516963314:0=0:=rfl
def tw2010953782066834914:0=0:=rfl
def tw475715108305325286:0=0:=rfl
def tw6921951407277514851:0=0:=rfl
def tw11566399786561405951:0=0:=rfl
def tw13351229532736533432:0=0:=rfl
def tw1186845205899832006:0=0:=rfl
def tw6688263345226380957:0=0:=rfl
def tw5097934375676636518:0=0:=rfl
def tw3417616284289073990:0=0:=rfl
def tw719894634713542655:0=0:=rfl
def tw7487466504441025967:0=0:=rfl
def tw1448921062125017175:0=0:=rfl
def tw3106376830441029764:0=0:=rfl
def tw15205886391931197216:0=0:=rfl
def tw1057901092354442622:0=0:=rfl
def tw9473903399360439215:0=0:=rfl
def tw5540784617353244064:0=0:=rfl
def tw15664795188386703441:0=0:=rfl
def tw10742819093293968635:0=0:=rfl
def tw16419644682409736379:0=0:=rfl
def tw4212879493207147020:0=0:=rfl
def tw7996977423068257826:0=0:=rfl
def tw11067372492351029016:0=0:=rfl
def tw422706183668711562:0=0:=rfl
def tw13411830537106137564:0=0:=rfl
def tw8074731453029623918:0=0:=rfl
def tw11858357830134555211:0=0:=rfl
def tw11535142177581483806:0=0:=rfl
def tw11296323647990389599:0=0:=rfl
def tw4343159169066350891:0=0:=rfl
def tw17409786907401676115:0=0:=rfl
def tw10267215123839635554:0=0:=rfl
def tw13688643791036636482:0=0:=rfl
def tw3532376742773829050:0=0:=rfl
def tw4373367237130683274:0=0:=rfl
def tw14225363788942697343:0=0:=rfl
def tw15822217927598440422:0=0:=rfl
def tw4298264033521005361:0=0:=rfl
def tw172414865345806050:0=0:=rfl
def tw3324401129839495211:0=0:=rfl
def tw12609698861633669790:0=0:=rfl
end PySem.Challenge.cw_cutlands_k81_texts_there_and_back_holds
open PySem PySem.W PyProof.Rows
set_option Elab.async true
theorem PySem.Challenge.cw_cutlands_k81_texts_there_and_back_holds : PySem.Challenge.rw_cutlands_k81_texts_there_and_back.Holds := by
 w_on;o_law;k_head;(case hw=>w_witness2);k_fill;refine L3.FA (l:=PySem.Challenge.rw_cutlands_k81_texts_there_and_back) (k:=9) (x:= "_law_script") rfl ⟨rfl,by decide,by decide⟩ rfl (λw h Y=>PySem.W.kIn_of Y) ?F
 case F=>intro w mg fa h KX G hmg;refine' K81.De KX G hmg ?a ?l ?c ?k ?B ?E (λns hb=>CL.wt ns hb) ?_ ?_ ?_ ?_ ?_ ?_ ?_ ?_ ?_ ?_ ?_ ?_ ?_ ?_ ?_ ?_ ?_ ?_ ?_ ?_ ?_ ?_ ?_ ?_ ?_ ?_ ?_ ?_ ?_ ?_ ?_ ?_ ?_ ?_ ?_ ?_ ?_ ?_ ?_ ?_ ?_ ?_;(case a=>k_is);(case l=>k_is);(case c=>k_is);(case k=>k_is);(case B=>constructor<;>(apply mg_none_of KX G;k_is));(case E=>apply K81.EY KX G<;>first | k_is | k_exc | decide | rfl | kernel_rfl);all_goals first | (apply L2.C1 KX G<;>k_is) | (apply K81.Fk<;>first | k_is | k_exc | decide)
