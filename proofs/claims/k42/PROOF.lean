import PyProof.Rows.All
import Wide.All
import OpenK.AllK
import Wide.FinOn
import Lean
import PyProof.EqAt
import PyProof.EqKinds
import PyProof.TupleCall
import PyProof.P3Eq
import PyProof.NeData
import PyProof.ConsumeWalk
import PyProof.Rows.SumAny
import PyProof.ZipIter
import PyProof.Rows.ZipGen
import PyProof.Rows.SeqMore
import PyProof.FactsAll.tuple
import PyProof.WalksMore
import PyProof.EnumMake
import PyProof.EnumFor
import PyProof.Rows.MinMaxN
import KE.KDictList
import KE.KRevIter
import KE.KItemsList
import PyProof.Rows.SortWalk
import PyProof.Rows.SetFrom
import PyProof.SetRoads
import PyProof.AttrMissHeap
import KE.KDictOf
import PySem.Challenge.RW_cutlands_k42_flats_of_some
set_option bootstrap.genMatcherCode false
set_option maxRecDepth 100000
set_option maxHeartbeats 0
set_option linter.all false
noncomputable section
set_option compiler.extract_closed false
set_option hygiene false
abbrev Oq:=@Option
abbrev Vq:=PySem.Value
abbrev Sq:=PySem.Shared
abbrev LI:=List Int
abbrev LL:=List LI
section
open PySem
def aa:=@List.getElem?_eq_some_iff
def ae:=@Heap.get?_push_of_some
def af:=@List.getD_eq_getElem?_getD
def ag:=@List.getElem?_eq_getElem
def ai:=@List.mem_append
def aj:=@List.mem_singleton
def ao:=@wpAny_pure
def aq:=@wpAny_bind
def ar:=@List.getElem?_set_ne
def au:=@Heap.get?_push_size
def av:=@List.mem_of_getElem?
def aw:=@List.getElem?_map
def ax:=@List.length_map
def ay:=@List.mem_append_left
def az:=@List.length_cons
def aB:=@decide_eq_false
def aC:=@decide_eq_true
def aD:=@List.mem_map
def aE:=@Nat.lt_of_lt_of_le
def aF:=@List.mem_cons
def aG:=@Nat.zero_add
def aH:=@Bool.false_ne_true
def aI:=@List.map_map
def aK:=@Nat.le_refl
def aL:=@Heap.lt_size
def aM:=@Nat.ne_of_lt
def aN:=@Nat.le_trans
def aO:=@Classical.byContradiction
def aQ:=@if_pos
def aR:=@if_neg
def aS:=@List.mem_range
def aT:=@List.length_append
def aU:=@List.mem_filter
def aV:=@List.getElem_mem
def aW:=@List.of_mem_zip
def aY:=@Int.natAbs_mul
def aZ:=@List.map_append
def a9:=@Nat.lt_irrefl
def bf:=@Nat.le_of_lt
def bg:=@List.filterMap_cons
def bh:=@List.mem_cons_self
def bj:=@List.mem_cons_of_mem
def bp:=@Array.append_assoc
def bq:=@Array.length_toList
def br:=@Nat.ne_of_gt
def bt:=@List.mem_filterMap
def bu:=@List.mem_append_right
def bx:=@Bool.eq_iff_iff
def bz:=@List.size_toArray
def bA:=@List.any_eq_false
def bB:=@List.map_cons
def bC:=@Nat.lt_succ_self
def bD:=@Nat.zero_le
def bE:=@List.append_nil
def bF:=@Nat.le_succ
def bG:=@List.nodup_cons
def bH:=@Option.isSome_iff_exists
def bI:=@List.length_take
def bJ:=@List.length_replicate
def bK:=@Int.toNat_natCast
def bL:=@List.length_drop
def bM:=@Bool.and_eq_true
def bN:=@List.replicate_succ
def bO:=@List.flatten_cons
def bP:=@List.append_assoc
def bQ:=@List.length_singleton
def bR:=@Nat.succ_mul
def bS:=@Nat.le_of_not_lt
def bT:=@List.forIn_cons
def bU:=@Bool.false_eq_true
def bV:=@List.lookup_cons
def bW:=@Nat.le_of_succ_le
def bX:=@Nat.lt_succ_of_lt
def bY:=@List.forIn_nil
def bZ:=@Nat.le_add_right
def b0:=@Nat.le_succ_of_le
def b4:=@List.range_succ_eq_map
def b5:=@List.all_cons
def b6:=@List.all_map
def b7:=@List.any_map
def b8:=@List.all_eq_true
def b9:=@List.length_range
def cf:=@Int.zero_add
def cg:=@List.getElem_toArray
def cj:=@List.countP_map
def ck:=@Int.gcd_dvd_left
def cm:=@Int.gcd_dvd_right
def cn:=@Int.dvd_mul_of_dvd_left
def cq:=@Int.fmod_nonneg_of_pos
def cu:=@Int.fmod_lt_of_pos
def cv:=@Int.mul_assoc
def cw:=@Int.mul_comm
def cy:=@List.lookup_cons_self
def cz:=@List.drop_eq_getElem_cons
def cA:=@List.mem_nil_iff
def cB:=@List.map_take
def cC:=@Nat.not_lt_zero
def cD:=@Nat.pow_le_pow_right
def cE:=@Nat.pow_succ
def cF:=@Int.natAbs_add_le
def cG:=@Int.sub_eq_add_neg
def cH:=@List.take_of_length_le
def cI:=@List.drop_of_length_le
def cJ:=@List.any_eq_true
def cK:=@Int.toNat_of_nonneg
def cL:=@List.map_congr_left
def cN:=@Int.mul_fdiv_cancel_left
def cO:=@Nat.two_pow_pos
def cP:=@List.length_nil
def cQ:=@Int.one_mul
def cR:=@Int.zero_mul
def cS:=@Int.add_zero
def cT:=@Int.mul_ne_zero
def cU:=@Int.mul_add
def cV:=@Int.mul_zero
def cW:=@Int.mul_eq_zero
def cX:=@Int.neg_mul
def cY:=@List.pairwise_cons
def cZ:=@List.pairwise_append
def c0:=@List.pairwise_singleton
def c5:=@Nat.lt_of_le_of_lt
def c6:=@List.take_length
def c7:=@List.length_erase_of_mem
def c8:=@List.mem_of_mem_erase
def c9:=@List.pairwise_map
def dc:=@List.mem_of_mem_take
def de:=@List.length_zip
def df:=@Nat.le_antisymm
end
set_option Elab.async false
namespace L2
open PySem PySem.Spec PyProof.Rows
abbrev mX:=Sum Int Str
noncomputable def CQ:mX->Value->Bool
 |.inl k,v=>Value.isInt k v
 |.inr x,v=>Value.isStrOf x v
def Hi(w:World):mX->Int
 |.inl k=>hashInt k
 |.inr x=>hashStr w x
theorem fg:∀{k} {v},CQ k v=true->(∃i t,k=Sum.inl i/\v=Value.int i t)\/(∃x t,k=Sum.inr x/\v=Value.str x t)
 |.inl i,v,h=>by obtain⟨t,e⟩:=Value.isInt_shape h;exact .inl ⟨i,t,rfl,e⟩
 |.inr x,v,h=>by obtain⟨t,e⟩:=Value.isStrOf_shape h;exact .inr ⟨x,t,rfl,e⟩
def Ez a b:decide ((Sum.inl a:mX)=Sum.inl b)=(a==b):=by
 by_cases e:a=b
 .subst e;simp
 .have h:¬(Sum.inl a:mX)=Sum.inl b:=λq=>e (Sum.inl.inj q);rw[aB h];exact (beq_eq_false_iff_ne.mpr e).symm
def Dl a b:decide ((Sum.inr a:mX)=Sum.inr b)=decide (a=b):=by
 by_cases e:a=b
 .subst e;simp
 .have h:¬(Sum.inr a:mX)=Sum.inr b:=λq=>e (Sum.inr.inj q);rw[aB h,aB e]
def ED a b:decide ((Sum.inl a:mX)=Sum.inr b)=false:=aB (λq=>nomatch q)
def E6 a b:decide ((Sum.inr a:mX)=Sum.inl b)=false:=aB (λq=>nomatch q)
noncomputable def vM(prog:Program)(w:World):PySem.KeyKind prog w mX where
 is:=CQ
 hash:=Hi w
 inj:=λv a b g f=>by
  rcases fg g with⟨i,t,rfl,rfl⟩|⟨x,t,rfl,rfl⟩
  .rcases fg f with⟨j,u,rfl,e⟩|⟨y,u,rfl,e⟩
   .injection e with c _;rw[c]
   .exact nomatch e
  .rcases fg f with⟨j,u,rfl,e⟩|⟨y,u,rfl,e⟩
   .exact nomatch e
   .injection e with c _;rw[c]
 byValue:=λk v h=>by rcases fg h with⟨i,t,rfl,rfl⟩|⟨x,t,rfl,rfl⟩<;>rfl
 pyHash:=λd h=>by
  rcases fg d with⟨i,t,rfl,rfl⟩|⟨x,t,rfl,rfl⟩
  .exact wpAny_pyHash_int h
  .exact wpAny_pyHash_str h
 eqBool:=λl d h=>by
  rcases fg l with⟨i,t,rfl,rfl⟩|⟨x,t,rfl,rfl⟩
  .rcases fg d with⟨j,u,rfl,rfl⟩|⟨y,u,rfl,rfl⟩
   .rw[Ez]at h;exact wpAny_eqBool_int h
   .rw[ED]at h;exact SeqAt.EqAt.int_str i t y u _ _ _ _ h
  .rcases fg d with⟨j,u,rfl,rfl⟩|⟨y,u,rfl,rfl⟩
   .rw[E6]at h;exact SeqAt.EqAt.str_int x t j u _ _ _ _ h
   .rw[Dl]at h;exact wpAny_eqBool_str h
 «strs»:=λk x t v h=>by
  rcases fg h with⟨i,u,rfl,e⟩|⟨y,u,rfl,e⟩
  .exact nomatch e
  .injection e with c _;subst c;cases v<;>rfl
end L2
namespace L2
open PySem PySem.Spec PyProof.Rows
inductive V where
 |non|bl (b:Bool)|int (i:Int)|str (x:Str)|byt (b:Array UInt8)|flt (b:UInt64)|ref (a:Addr)|ty (n:String)
 deriving DecidableEq
def eO:V->Value->Prop
 |.non,u=>u=Value.none
 |.bl b,u=>u=Value.bool b
 |.int i,u=>∃t,u=Value.int i t
 |.str x,u=>∃t,u=Value.str x t
 |.byt b,u=>∃t,u=Value.bytes b t
 |.flt b,u=>∃t,u=Value.float b t
 |.ref a,u=>u=Value.ref a
 |.ty n,u=>u=Value.type n
abbrev dZ:List V->List Value->Prop:=Paired eO
def dZ.length(r:dZ xs us):xs.length=us.length:=Paired.length r
theorem dZ.get:∀{a:List V} {us:List Vq} {i:Nat} {x:V},dZ a us->a[i]? = some x->∃u,us[i]? = some u/\eO x u
 |_,_,_,_,.nil,e=>by simp at e
 |_,_,0,_,.cons r _,e=>by simp at e;subst e;exact⟨_,rfl,r⟩
 |_,_,i+1,x,.cons _ t,e=>by obtain⟨u,c,b⟩:=dZ.get t (by simpa using e);exact⟨u,by simpa using c,b⟩
theorem dZ.set(r:eO x u):∀{xs} {us} i,dZ xs us->dZ (xs.set i x) (us.set i u)
 |_,_,_,.nil=>.nil
 |_,_,0,.cons _ t=>.cons r t
 |_,_,i+1,.cons q t=>.cons q (dZ.set r i t)
theorem dZ.append:∀{xs ys} {us ws},dZ xs us->dZ ys ws->dZ (xs++ys) (us++ws)
 |_,_,_,_,.nil,s=>s
 |_,_,_,_,.cons r t,s=>.cons r (dZ.append t s)
theorem dZ.take:∀{xs} {us} n,dZ xs us->dZ (xs.take n) (us.take n)
 |_,_,0,_=>.nil
 |_,_,_+1,.nil=>.nil
 |_,_,n+1,.cons r t=>.cons r (dZ.take n t)
theorem dZ.drop:∀{xs} {us} n,dZ xs us->dZ (xs.drop n) (us.drop n)
 |_,_,0,r=>r
 |_,_,_+1,.nil=>.nil
 |_,_,n+1,.cons _ t=>dZ.drop n t
def qI:Oq V->Option Value->Prop
 |some v,some u=>eO v u
 |none,none=>True
 |_,_=>False
def KV{a:Type}:List (a×V)->List (a×Value)->Prop:=Paired λ(p:a×V) (q:a×Value)=>p.1=q.1/\eO p.2 q.2
def kV:mX->V
 |.inl i=>.int i
 |.inr x=>.str x
inductive HO where
 |lst (xs:List V)
 |tup (xs:List V)
 |dK (kvs:List (mX×V))|dT (kvs:List (List mX×V))
 |set (S:Int->Bool) (n:Nat)
 |ins (C dx:Addr) (fs:List (Str×V))
 |own (x:Addr)
 |xd (fs:List (Str×V))
 |met (f x:Addr)
 |rng (lo hi:Int)
 |frz (o:Obj) (u:HO)
 |tbl (ps:Array Vq)
 |ext (φ:Heap->Prop)
abbrev Hp:=Addr->Option HO
noncomputable def fw(H:Hp)(a:Addr)(o:HO):Hp:=λb=>if b=a then some o else H b
def dA:fw H a o a=some o:=by unfold fw;rw[aQ rfl]
def dH(h:b≠a):fw H a o b=H b:=by unfold fw;rw[aR h]
def dS{H:Hp}(h:H a=some o)(c:H b=none):a≠b:=by intro e;subst e;rw[h]at c;cases c
section
variable (P:Program)(w:World)
def rj(h:Heap)(a:Addr)(b:Array Vq):Prop:=∃o,h.get? a=some o/\o.cls=.type "tuple" /\∃n,o.data=.seq b n/\o.dict=none
def rj.tup(x:rj h a items):IsTup h a items:=let ⟨o,e,c,n,d,_⟩:=x;⟨o,e,c,n,d⟩
def rj.new(h:Heap) items:rj (h.push {cls:=.type "tuple",data:=.seq items}) h.objs.size items:=⟨_,au _ rfl,rfl,_,rfl,rfl⟩
def hW(H:Hp)(h:Heap)(a:Addr):HO->Prop
 |.lst c=>c.length<=sizeLine/\∃(b:List Vq) (n:Nat),dZ c b/\h.get? a=some {cls:=.type "list",data:=.seq b.toArray n}
 |.tup c=>c.length<=sizeLine/\∃b:List Vq,dZ c b/\rj h a b.toArray
 |.dK kvs=>kvs.length<=sizeLine/\(a==sysModules)=false/\∃vs,KV kvs vs/\h.DictOf (vM P w) a vs
 |.dT kvs=>kvs.length<=sizeLine/\(a==sysModules)=false/\∃c:List (List mX×Addr×Value),
   Paired (λ(p:List mX×V) (q:List mX×Addr×Value)=>p.1=q.1/\H q.2.1=some (.tup (p.1.map kV))/\eO p.2 q.2.2) kvs c/\
   ∃o e j,h.get? a=some o/\o.ExactDict/\o.data=.dict e j/\e.toList=c.map (entryOfKey (tupleKind (vM P w)))/\(c.map (·.1)).Nodup
 |.set S n=>h.SetOf (intKind P w) a S n
 |.ins C dx fs=>H dx=some (.own a)/\fs.length<=1000/\dx≠a/\h.get? a=some (W.instObj C dx)/\
   ∃d,h.Ns1 dx d/\(∀f,qI (fs.lookup f) (d f))/\PySem.Within d (fs.map (·.1))
 |.own _=>∃o,h.get? a=some o
 |.xd fs=>∃d,h.Ns1 a d/\∀f,qI (fs.lookup f) (d f)
 |.rng lo hi=>∃t u v,h.get? a=some {cls:=.type "range",data:=.fields #[.int lo t,.int hi u,.int 1 v]}
 |.frz o u=>h.get? a=some o/\hW H h a u
 |.tbl ps=>h.get? a=some {cls:=.none,data:=.fields ps}
 |.met f x=>h.get? a=some (W.methodObj (.ref f) (.ref x))
 |.ext φ=>φ h/\(∃o,h.get? a=some o)/\∀i g:Heap,φ i->(∀o,i.get? a=some o->g.get? a=some o)->φ g
def lF(H:Hp)(h:Heap):Prop:=∀a o,H a=some o->hW P w H h a o
end
section
variable {P:Program}{w:World}{H H':Hp}{h h':Heap}{a:Addr}{o:HO}
def hW.lt(x:hW P w H h a o):a<h.objs.size:=by
 cases o with
 |lst xs=>obtain⟨_,_,_,_,e⟩:=x;exact aL e
 |tup xs=>obtain⟨_,_,_,p⟩:=x;exact (rj.tup p).lt
 |dK kvs=>obtain⟨_,_,_,_,o,_,_,e,_⟩:=x;exact aL e
 |dT kvs=>obtain⟨_,_,_,_,o,_,_,e,_⟩:=x;exact aL e
 |set S n=>obtain⟨o,_,_,_,e,_⟩:=x;exact aL e
 |ins C dx fs=>obtain⟨_,_,_,e,_⟩:=x;exact aL e
 |own y=>obtain⟨_,e⟩:=x;exact aL e
 |xd fs=>obtain⟨_,⟨_,_,_,e,_⟩,_⟩:=x;exact aL e
 |rng lo hi=>obtain⟨_,_,_,e⟩:=x;exact aL e
 |frz ob u=>obtain⟨e,_⟩:=x;exact aL e
 |tbl ps=>exact aL (x)
 |met f y=>exact aL (x)
 |ext φ=>obtain⟨_,⟨_,e⟩,_⟩:=x;exact aL e
theorem Paired.mapP{F G:α->β->Prop}:∀{l₁} {l₂},Paired F l₁ l₂->(∀a b,F a b->G a b)->Paired G l₁ l₂
 |_,_,.nil,_=>.nil
 |_,_,.cons r t,f=>.cons (f _ _ r) (Paired.mapP t f)
def Paired.imp'{F G:α->β->Prop}(f:∀a b,F a b->G a b){c:List α}{d:List β}(r:Paired F c d):Paired G c d:=Paired.mapP r f
theorem hW.stay(x:hW P w H h a o)(k:∀b u,(b=a\/H b=some (.own a))->h.get? b=some u->h'.get? b=some u)
  (D:∀b,H b=some (.own a)->H' b=some (.own a)) (E:∀b m,H b=some (.tup m)->H' b=some (.tup m)):hW P w H' h' a o:=by
 induction o with
 |lst m=>obtain⟨z,l,n,r,e⟩:=x;exact⟨z,l,n,r,k _ _ (.inl rfl) e⟩
 |tup m=>obtain⟨z,l,r,g,e,c⟩:=x;exact⟨z,l,r,g,k _ _ (.inl rfl) e,c⟩
 |dK kvs=>obtain⟨z,y,F,r,g,i,j,e,c⟩:=x;exact⟨z,y,F,r,g,i,j,k _ _ (.inl rfl) e,c⟩
 |dT kvs=>obtain⟨z,y,m,r,g,i,j,e,c⟩:=x;exact⟨z,y,m,Paired.mapP r λp q z=>⟨z.1,E _ _ z.2.1,z.2.2⟩,g,i,j,k _ _ (.inl rfl) e,c⟩
 |set S n=>obtain⟨g,i,j,t,e,c⟩:=x;exact⟨g,i,j,t,k _ _ (.inl rfl) e,c⟩
 |ins C dx fs=>obtain⟨d,z,ne,e,s,⟨A,i,j,I,c⟩,r⟩:=x;exact⟨D _ d,z,ne,k _ _ (.inl rfl) e,s,⟨A,i,j,k _ _ (.inr d) I,c⟩,r⟩
 |own y=>obtain⟨g,e⟩:=x;exact⟨g,k _ _ (.inl rfl) e⟩
 |xd fs=>obtain⟨s,⟨A,i,j,e,c⟩,r⟩:=x;exact⟨s,⟨A,i,j,k _ _ (.inl rfl) e,c⟩,r⟩
 |rng lo hi=>obtain⟨t,u,v,e⟩:=x;exact⟨t,u,v,k _ _ (.inl rfl) e⟩
 |frz g u ih=>obtain⟨e,q⟩:=x;exact⟨k _ _ (.inl rfl) e,ih q⟩
 |tbl ps=>have e:=x;exact k a _ (.inl rfl) e
 |met f y=>have e:=x;exact k a _ (.inl rfl) e
 |ext φ=>obtain⟨p,⟨o,e⟩,B⟩:=x;exact⟨B _ _ p λo q=>k _ _ (.inl rfl) q,⟨o,k _ _ (.inl rfl) e⟩,B⟩
def lF.lt(x:lF P w H h)(e:H a=some o):a<h.objs.size:=(x a o e).lt
def lF.fresh(x:lF P w H h)(e:h.objs.size<=a):H a=none:=by
 cases q:H a with
 |none=>rfl
 |some u=>exact absurd (aE (x.lt q) e) (a9 _)
def lF.kept(x:lF P w H h)(k:∀b u,h.get? b=some u->h'.get? b=some u):lF P w H h':=λa o e=>(x a o e).stay (λb u _ q=>k b u q) (λ_ q=>q) λ_ _ q=>q
def lF.laid(x:lF P w H h)(k:∀b u,h.get? b=some u->h'.get? b=some u)(g:h.objs.size<=a)(new:hW P w (fw H a o) h' a o):lF P w (fw H a o) h':=λb u e=>by
 have f:=x.fresh g;by_cases d:b=a
 .subst d;rw[dA]at e;cases e;exact new
 .rw[dH d]at e;exact (x b u e).stay (λc v _ q=>k c v q) (λc q=>by rw[dH (dS q f)];exact q) λc i q=>by rw[dH (dS q f)];exact q
end
def Rd(H:Hp)(a:Addr)(u:HO):Prop:=H a=some u\/∃o,H a=some (.frz o u)
def Rd.ok(r:Rd H a u)(x:lF P w H h):hW P w H h a u:=by
 rcases r with r|⟨o,r⟩
 .exact x a u r
 .obtain⟨_,q⟩:=x a _ r;exact q
def GT:Oq HO->Prop
 |some (.lst _)=>True
 |some (.dK _)=>True
 |some (.dT _)=>True
 |some (.set _ _)=>True
 |some (.ins _ _ _)=>True
 |some (.ext _)=>True
 |_=>False
section
variable {P:Program}{w:World}{H:Hp}{h h':Heap}{x e:Addr}{o':HO}
def lF.write(ok:lF P w H h)(g:GT (H x))(o:e=x\/H e=some (.own x))(k:∀b u,b≠e->h.get? b=some u->h'.get? b=some u)(m:∃u,h'.get? e=some u)
  (new:hW P w (fw H x o') h' x o'):lF P w (fw H x o') h':=λb u q=>by
 have d:∀c y,H c=some (.own y)->c≠x:=λc y r z=>by subst z;rw[r]at g;exact g
 have f:∀c j,H c=some (.tup j)->c≠x:=λc j r z=>by subst z;rw[r]at g;exact g
 by_cases l:b=x
 .subst l;rw[dA]at q;cases q;exact new
 .rw[dH l]at q;by_cases a:b=e
  .have n:H b=some (.own x):=by
    rcases o with z|z
    .exact absurd (a.trans z) l
    .rw[a];exact z
   rw[q]at n;cases n;obtain⟨v,p⟩:=m;exact⟨v,by rw[a];exact p⟩
  .refine (ok b u q).stay (λc v i r=>k c v ?_ r) (λc r=>by rw[dH (d c b r)];exact r) λc j r=>by rw[dH (f c j r)];exact r
   rcases i with rfl|i
   .exact a
   .rintro rfl;rcases o with z|z
    .exact d c b i z
    .rw[i]at z;cases z;exact l rfl
end
structure Un(fs ex:List Addr)(H H':Hp)(h h':Heap):Prop where
 keep:∀b o,h.get? b=some o->H b=none->b∉fs->b∉ex->h'.get? b=some o
 slot:∀b o,h.get? b=some o->H b=none->b∈fs->b∉ex->∃sl,h'.get? b=some {o with slots:=sl}
 free:∀b o,h.get? b=some o->H b=none->b∉ex->H' b=none
 there:∀b o,h.get? b=some o->b∉ex->∃o',h'.get? b=some o'
 tups:∀b xs,H b=some (.tup xs)->H' b=some (.tup xs)
 frzs:∀b o u,H b=some (.frz o u)->H' b=some (.frz o u)
 tbls:∀b ps,H b=some (.tbl ps)->∃more,H' b=some (.tbl (ps++more))
section
variable {fs fs' ex ex':List Addr}{H H1 H2:Hp}{h h1 h2 h':Heap}{a x e:Addr}{o:HO}
def Un.any(u:Un fs ex H H1 h h1)(q:h.get? b=some ob)(n:H b=none)(d:b∉ex):∃f,h1.get? b=some {ob with slots:=f}:=by
 by_cases c:b∈fs
 .exact u.slot b ob q n c d
 .exact⟨ob.slots,u.keep b ob q n c d⟩
def Un.kept(k:∀b u,h.get? b=some u->h'.get? b=some u):Un fs ex H H h h':=⟨λb c q _ _ _=>k b c q,λb c q _ _ _=>⟨c.slots,k b c q⟩,λ_ _ _ n _=>n,λb c q _=>⟨c,k b c q⟩,λ_ _ q=>q,λ_ _ _ q=>q,λ_ d q=>⟨#[],by rw[q];simp⟩⟩
def Un.refl:Un fs ex H H h h:=Un.kept λ_ _ q=>q
def Un.laid(k:∀b u,h.get? b=some u->h'.get? b=some u)(d:h.objs.size<=a)(c:H a=none):Un fs ex H (fw H a o) h h' where
 keep:=λb u q _ _ _=>k b u q
 slot:=λb u q _ _ _=>⟨u.slots,k b u q⟩
 free:=λb u q n _=>by rw[dH (aM (aE (aL q) d))];exact n
 there:=λb u q _=>⟨u,k b u q⟩
 tups:=λb f q=>by rw[dH (dS q c)];exact q
 frzs:=λb u f q=>by rw[dH (dS q c)];exact q
 tbls:=λb g q=>⟨#[],by rw[dH (dS q c),q];simp⟩
def Un.write(d:GT (H x))(p:e=x\/H e=some (.own x))(k:∀b u,b≠e->h.get? b=some u->h'.get? b=some u)(g:∃u,h'.get? e=some u):Un fs ex H (fw H x o) h h':=by
 have j:∀b,H b=none->b≠x:=λb n z=>by subst z;rw[n]at d;exact d
 have i:∀b,H b=none->b≠e:=λb n z=>by
  subst z;rcases p with r|r
  .exact j b n r
  .rw[n]at r;cases r
 have f:∀b u,H b=some u->¬GT (some u)->b≠x:=λb u q m z=>by subst z;rw[q]at d;exact m d
 refine⟨λb u q n _ _=>k b u (i b n) q,λb u q n _ _=>⟨u.slots,k b u (i b n) q⟩,λb u q n _=>by rw[dH (j b n)];exact n,λb u q _=>?_,
  λb l q=>by rw[dH (f b _ q λz=>z)];exact q,λb u l q=>by rw[dH (f b _ q λz=>z)];exact q,λb s q=>⟨#[],by rw[dH (f b _ q λz=>z),q];simp⟩⟩
 by_cases c:b=e
 .subst c;exact g
 .exact⟨u,k b u c q⟩
end
noncomputable def trk(h:Heap)(H:Hp):List Addr:=(List.range h.objs.size).filter λa=>(H a).isSome
def qo(h:Heap)(H:Hp):Heap:=W.hideAll h (trk h H)
def wK h H:(qo h H).objs.size=h.objs.size:=W.hideAll_size _ _
def zm(e:h.get? b=some o)(n:H b=none):(qo h H).get? b=some o:=W.hideAll_get _ e λa=>by have q:=(aU.mp a).2;rw[n]at q;simp at q
def Bb(e:(qo h H).get? b=some o):h.get? b=some o/\H b=none:=by
 have a:=W.of_hideAll (trk h H) e;refine⟨a,?_⟩;cases q:H b with
 |none=>rfl
 |some x=>have c:b∈trk h H:=aU.mpr ⟨aS.mpr (aL a),by simp[q]⟩;have z:(qo h H).get? b=none:=W.hideAll_none (trk h H) c;rw[z]at e;cases e
end L2
namespace L2
open PySem PySem.Spec PyProof.Rows
structure Mod(K:W.Frag)(mg:Str->Option Value)(base:Heap):Prop where
 kin:K.In base
 glob:base.Ns mainGlobals mg
 blt:∃mb,base.Ns builtinsNs mb/\∀x:Str,x≠ "__name__" ->mb x=bootBuiltins x
 nolimit:base.NoLimit
structure Cx where
 prog:Program
 w:World
 K:W.Frag
 mg:Str->Option Value
 base:Heap
 A:Around
 N:List Str
 s₀:Sq
 H₀:Hp
 env:Env
 outer:List Env
 stack:List Env
 ex:List Addr
 fn:Str->Bool
 calm:Bool
 pn:List (Addr×Obj)
 xe:Vq->Shared->Prop
noncomputable def ku(l:List Env):List Addr:=l.filterMap (·.frame)
abbrev Cx.fs(X:Cx):List Addr:=ku X.outer
def GK(a:Scope)(x:Str):Prop:=a.names.lookup x=some .local\/a.names.lookup x=some .cell\/a.names.lookup x=some .free
def tO(a:Scope)(x:Str):Prop:=a.names.lookup x=some .local\/a.names.lookup x=some .cell
def HB(a:Env)(h:Heap)(m:Str->Option Value)(x:Str)(u:Vq):Prop:=(a.kindOf x=some .local/\m x=some u)\/((a.kindOf x=some .cell\/a.kindOf x=some .free)/\∃c,a.cells.lookup x=some c/\h.IsCell c (some u))
structure Cx.Ok(X:Cx):Prop where
 mod:Mod X.K X.mg X.base
 kind:X.env.scope.kind=.function
 glob:X.env.globals=mainGlobals
 blt:X.env.builtins=builtinsNs
 above:X.s₀.heap.objs.size<=X.env.locals
 inj:∀x y c,X.env.cells.lookup x=some c->X.env.cells.lookup y=some c->x=y
 has:∀x,(X.env.kindOf x=some .cell\/X.env.kindOf x=some .free)->∃c,X.env.cells.lookup x=some c
 cab:∀x c,X.fn x=true->X.env.cells.lookup x=some c->X.s₀.heap.objs.size<=c
 hd:X.calm=true->X.A.handled=none
 frames:X.A.frames=some X.stack
 stk:X.stack=X.outer\/(X.stack=X.env::X.outer/\X.env.frame=some X.env.locals)
 exf:∀b∈X.ex,b≠X.env.locals/\∀x c,X.env.cells.lookup x=some c->c≠b
 bs:∀b o,X.base.get? b=some o->X.s₀.heap.get? b=some o/\X.H₀ b=none
 bsz:X.base.objs.size<=X.s₀.heap.objs.size
 noex:∀b o,X.base.get? b=some o->b∉X.ex
 exfs:∀b∈X.ex,b∉X.fs
 funs:X.s₀.heap.FunFrames X.base X.outer
 frf:∀b∈X.fs,X.H₀ b=none
structure dF(X:Cx)(dh:List (Addr×Obj))(σ:List (Option V))(H:Hp)(s:Sq):Prop where
 ok:X.Ok
 os:s.os=X.s₀.os
 bare:AllBare s.gens
 base:Un X.fs X.ex X.H₀ H X.s₀.heap s.heap
 loc:∃m,s.heap.Ns X.env.locals m/\∀(i:Nat) (x:Str) (v:V),X.N[i]? = some x->σ[i]? = some (some v)->GK X.env.scope x->∃u,eO v u/\HB X.env s.heap m x u
 cell:∀x c,X.env.cells.lookup x=some c->∃v,s.heap.IsCell c v
 free:H X.env.locals=none
 freeC:∀x c,X.env.cells.lookup x=some c->H c=none
 pin:∀p∈X.pn++dh,s.heap.get? p.1=some p.2/\H p.1=none/\p.1≠X.env.locals/\p.1∉X.fs/\∀v,p.2.data≠.cell v
 hok:lF X.prog X.w H s.heap
 len:σ.length=X.N.length
section
variable {X:Cx}{dh:List (Addr×Obj)}{σ:List (Option V)}{H H':Hp}{s:Sq}{h':Heap}
def Cx.Ok.nofr(ok:X.Ok)(e:X.base.get? b=some o):b∉X.fs:=λa=>by have:=(ok.funs.mem a).1;rw[e]at this;cases this
def dF.bs(I:dF X dh σ H s):∀b o,X.base.get? b=some o->s.heap.get? b=some o/\H b=none:=λb o e=>⟨I.base.keep b o (I.ok.bs b o e).1 (I.ok.bs b o e).2 (I.ok.nofr e) (I.ok.noex b o e),I.base.free b o (I.ok.bs b o e).1 (I.ok.bs b o e).2 (I.ok.noex b o e)⟩
def dF.bk(I:dF X dh σ H s):∀b o,X.base.get? b=some o->s.heap.get? b=some o:=λb o e=>(I.bs b o e).1
def dF.mod(I:dF X dh σ H s):Mod X.K X.mg X.base:=I.ok.mod
def dF.kIn(I:dF X dh σ H s):X.K.In s.heap:=I.ok.mod.kin.keeps I.bk
def dF.lt(I:dF X dh σ H s):X.env.locals<s.heap.objs.size:=let ⟨_,hn,_⟩:=I.loc;hn.lt
def dF.sz(I:dF X dh σ H s):X.s₀.heap.objs.size<=s.heap.objs.size:=aN I.ok.above (bf I.lt)
def dF.nofs(I:dF X dh σ H s)(h:s.heap.objs.size<=a):a∉X.fs:=λb=>by obtain⟨_,o,c,_⟩:=I.ok.funs.mem b;exact absurd (aE (aL c) (aN I.sz h)) (a9 _)
def dF.cne(I:dF X dh σ H s):∀x c,X.env.cells.lookup x=some c->c≠X.env.locals:=λx c e z=>by obtain⟨v,o,d,f⟩:=I.cell x c e;obtain⟨m,⟨h,i,g,b,a,_⟩,_⟩:=I.loc;rw[z,b]at d;cases d;rw[a]at f;cases f
def dF.funs(I:dF X dh σ H s):s.heap.FunFrames X.base X.outer:=by
 have all:∀(l:List Env),(∀b∈ku l,b∈X.fs)->X.s₀.heap.FunFrames X.base l->s.heap.FunFrames X.base l:=by
  intro l;induction l with
  |nil=>intro _ _;trivial
  |cons env r ih=>intro f i;obtain⟨g,⟨L,o,d,k,j,h⟩,hr⟩:=i;have a:=f L (by unfold ku;rw[bg,d];exact bh);obtain⟨m,e⟩:=I.base.slot L o j (I.ok.frf L a) a λz=>I.ok.exfs L z a;exact⟨g,⟨L,_,d,k,e,h⟩,ih (λb c=>f b (by unfold ku;rw[bg,d];exact bj _ c)) hr⟩
 exact all X.outer (λ_ c=>c) I.ok.funs
def dF.stack(I:dF X dh σ H s):s.heap.FunFrames X.base X.stack:=by
 rcases I.ok.stk with e|⟨e,a⟩
 .rw[e];exact I.funs
 .rw[e];obtain⟨m,b,_⟩:=I.loc;refine .cons (by rw[I.ok.kind];decide) a b ?_ I.funs;exact Heap.get?_none_of_le (aN I.ok.bsz I.ok.above)
def dF.stkSub(I:dF X dh σ H s):∀b∈ku X.stack,b∈X.env.locals::X.fs:=λb a=>by
 rcases I.ok.stk with e|⟨e,c⟩
 .rw[e]at a;exact bj _ a
 .rw[e]at a;unfold ku at a;rw[bg,c]at a;exact a
def dF.stkFree(I:dF X dh σ H s):∀b∈ku X.stack,H b=none:=λb a=>by
 rcases aF.mp (I.stkSub b a) with e|a
 .rw[e];exact I.free
 .obtain⟨_,o,c,_⟩:=I.ok.funs.mem a;exact I.base.free b o c (I.ok.frf b a) λz=>I.ok.exfs b z a
def dF.step{ch:List Addr}(I:dF X dh σ H s)
  (j:∀b∈ch,(b∈X.ex\/X.s₀.heap.objs.size<=b)/\b≠X.env.locals/\(∀x c,X.env.cells.lookup x=some c->c≠b)/\∀p∈X.pn++dh,p.1≠b)
  (g:∀b o,b≠X.env.locals->b∉X.fs->b∉ch->s.heap.get? b=some o->H b=none->h'.get? b=some o)
  (B:∀b o,b≠X.env.locals->b∈X.fs->b∉ch->s.heap.get? b=some o->H b=none->∃U,h'.get? b=some {o with slots:=U}) (f:∀b o,b∉ch->s.heap.get? b=some o->H b=none->H' b=none)
  (D:∀b o,b∉ch->s.heap.get? b=some o->∃L,h'.get? b=some L)
  (P:∀b C,H b=some (.tup C)->H' b=some (.tup C)) (J:∀b o u,H b=some (.frz o u)->H' b=some (.frz o u)) (K:∀b ps,H b=some (.tbl ps)->∃N,H' b=some (.tbl (ps++N)))
  (ns:∀m,s.heap.Ns X.env.locals m->h'.Ns X.env.locals m) (Y:lF X.prog X.w H' h') (hg:AllBare g') :
  dF X dh σ H' {s with heap:=h',gens:=g',drawn:=d',toks:=t'}:=by
 have Q:∀b o,X.s₀.heap.get? b=some o->b≠X.env.locals:=λb o e=>aM (aE (aL e) I.ok.above);have y:∀b o,X.s₀.heap.get? b=some o->b∉X.ex->b∉ch:=λb o e a E=>by
  rcases (j b E).1 with z|z
  .exact a z
  .exact absurd (aE (aL e) z) (a9 _)
 have t:∀x c,X.env.cells.lookup x=some c->∀v,s.heap.IsCell c v->h'.IsCell c v:=λx c e v ⟨o,F,S⟩=>by
  have h:c∉ch:=λz=>(j c z).2.2.1 x c e rfl;by_cases hc:c∈X.fs
  .obtain⟨U,q⟩:=B c o (I.cne x c e) hc h F (I.freeC x c e);exact⟨_,q,S⟩
  .exact⟨o,g c o (I.cne x c e) hc h F (I.freeC x c e),S⟩
 refine⟨I.ok,I.os,hg,⟨λb o e n E a=>?_,λb o e n E a=>?_,λb o e n a=>?_,λb o e a=>?_,λb C e=>P b C (I.base.tups b C e),λb o C e=>J b o C (I.base.frzs b o C e),λb ps e=>?_⟩,?_,λx c e=>?_,?_,λx c e=>?_,λp hp=>?_,Y,I.len⟩
 .exact g b o (Q b o e) E (y b o e a) (I.base.keep b o e n E a) (I.base.free b o e n a)
 .obtain⟨U,A⟩:=I.base.slot b o e n E a;obtain⟨Z,R⟩:=B b _ (Q b o e) E (y b o e a) A (I.base.free b o e n a);exact⟨Z,R⟩
 .obtain⟨L,A⟩:=I.base.there b o e a;exact f b L (y b o e a) A (I.base.free b o e n a)
 .obtain⟨L,A⟩:=I.base.there b o e a;exact D b L (y b o e a) A
 .obtain⟨m1,A⟩:=I.base.tbls b ps e;obtain⟨m2,R⟩:=K b _ A;exact⟨m1++m2,by rw[R,bp]⟩
 .obtain⟨m,hn,hl⟩:=I.loc;refine⟨m,ns m hn,λi x v A R e3=>?_⟩;obtain⟨u,r,l⟩:=hl i x v A R e3;refine⟨u,r,?_⟩;rcases l with l|⟨k,c,e,z⟩
  .exact .inl l
  .exact .inr ⟨k,c,e,t x c e _ z⟩
 .obtain⟨v,z⟩:=I.cell x c e;exact⟨v,t x c e v z⟩
 .obtain⟨m,⟨o,_,_,F,_⟩,_⟩:=I.loc;exact f _ o (λz=>(j _ z).2.1 rfl) F I.free
 .obtain⟨v,o,F,S⟩:=I.cell x c e;exact f c o (λz=>(j c z).2.2.1 x c e rfl) F (I.freeC x c e)
 .obtain⟨e,n,ne,nf,d⟩:=I.pin p hp;have h:p.1∉ch:=λz=>(j p.1 z).2.2.2 p hp rfl;exact⟨g p.1 p.2 ne nf h e n,f p.1 p.2 h e n,ne,nf,d⟩
def dF.un(I:dF X dh σ H s)(u:Un X.fs [] H H' s.heap h')(g:lF X.prog X.w H' h'):dF X dh σ H' {s with heap:=h',toks:=t'}:=by obtain⟨m,⟨o,l,q,h,r⟩,_⟩:=id I.loc;obtain⟨p,i⟩:=u.any h I.free (by simp);exact I.step (ch:=[]) (λ_ z=>nomatch z) (λb o _ f _ e n=>u.keep b o e n f (by simp)) (λb o _ f _ e n=>u.slot b o e n f (by simp)) (λb o _ e n=>u.free b o e n (by simp)) (λb o _ e=>u.there b o e (by simp)) u.tups u.frzs u.tbls (λv j=>by obtain⟨t,c,d,a,k⟩:=j;rw[h]at a;cases a;exact⟨_,c,d,i,k⟩) g I.bare
def dF.call(I:dF X dh σ H s)(u:Un (ku X.stack) ch H H' s.heap h')(j:lF X.prog X.w H' h')(l:AllBare g')
  (d:∀b∈ch,(b∈X.ex\/X.s₀.heap.objs.size<=b)/\b≠X.env.locals/\(∀x c,X.env.cells.lookup x=some c->c≠b)/\∀p∈X.pn++dh,p.1≠b) :
  dF X dh σ H' {s with heap:=h',gens:=g',drawn:=d',toks:=t'}:=by
 obtain⟨m,⟨o,y,B,k,r⟩,_⟩:=id I.loc;obtain⟨A,i⟩:=u.any k I.free λz=>(d _ z).2.1 rfl;exact I.step d (λb o i t a e n=>u.keep b o e n (λz=>(aF.mp (I.stkSub b z)).elim i t) a) (λb o _ _ a e n=>u.any e n a) (λb o a e n=>u.free b o e n a) (λb o a e=>u.there b o e a) u.tups u.frzs u.tbls (λD q=>by obtain⟨C,g,h,f,v⟩:=q;rw[k]at f;cases f;exact⟨_,g,h,i,v⟩) j l
def dF.turned(I:dF X dh σ H s)(k:∀b o,b≠it->s.heap.get? b=some o->h'.get? b=some o)(A:H it=none)(f:it≠X.env.locals)
  (y:it∈X.ex\/X.s₀.heap.objs.size<=it) (w:∀x c,X.env.cells.lookup x=some c->c≠it) (g:∀p∈X.pn++dh,p.1≠it):dF X dh σ H {s with heap:=h',toks:=t'}:=by
 have d:∀b u,H b=some u->b≠it:=λb u e z=>by rw[z,A]at e;cases e
 refine I.step (ch:=[it]) (λb l=>?_) (λb o _ _ a e _=>k b o (λz=>a (by simp[z])) e) (λb o _ _ a e _=>⟨o.slots,k b o (λz=>a (by simp[z])) e⟩) (λ_ _ _ _ n=>n)
  (λb o a e=>⟨o,k b o (λz=>a (by simp[z])) e⟩) (λ_ _ e=>e) (λ_ _ _ e=>e) (λb B e=>⟨#[],by rw[e];simp⟩) (λm i=>?_) (λb u e=>?_) I.bare
 .have e:b=it:=by simpa using l
  subst e;exact⟨y,f,w,g⟩
 .obtain⟨o,h,j,t,r⟩:=i;exact⟨o,h,j,k _ o (Ne.symm f) t,r⟩
 .refine (I.hok b u e).stay (λc v a q=>k c v ?_ q) (λ_ q=>q) λ_ _ q=>q;rcases a with z|z
  .rw[z];exact d b u e
  .exact d c _ z
def dF.tok(I:dF X dh σ H s) t:dF X dh σ H {s with toks:=t}:=I.un Un.refl I.hok
def dF.kept(I:dF X dh σ H s)(k:∀b u,s.heap.get? b=some u->h'.get? b=some u):dF X dh σ H {s with heap:=h',toks:=t'}:=I.un (Un.kept k) (I.hok.kept k)
def dF.laid(I:dF X dh σ H s)(k:∀b u,s.heap.get? b=some u->h'.get? b=some u)(c:s.heap.objs.size<=a)(new:hW X.prog X.w (fw H a o) h' a o) :
  dF X dh σ (fw H a o) {s with heap:=h',toks:=t'}:=I.un (Un.laid k c (I.hok.fresh c)) (I.hok.laid k c new)
def dF.write(I:dF X dh σ H s)(c:GT (H x))(d:e=x\/H e=some (.own x))(k:∀b u,b≠e->s.heap.get? b=some u->h'.get? b=some u)(a:∃u,h'.get? e=some u)
  (new:hW X.prog X.w (fw H x o) h' x o):dF X dh σ (fw H x o) {s with heap:=h',toks:=t'}:=I.un (Un.write c d k a) (I.hok.write c d k a new)
def dF.weak(I:dF X dh σ H s)(a:σ'.length=σ.length)(w:∀(i:Nat) v,σ'[i]? = some (some v)->σ[i]? = some (some v)):dF X dh σ' H s:=⟨I.ok,I.os,I.bare,I.base,let ⟨m,hn,hl'⟩:=I.loc;⟨m,hn,λi x v c b d=>hl' i x v c (w i v b) d⟩,I.cell,I.free,I.freeC,I.pin,I.hok,a.trans I.len⟩
def dF.pins_of(I:dF X dh σ H s)(h:∀p∈pins',s.heap.get? p.1=some p.2/\H p.1=none/\p.1≠X.env.locals/\p.1∉X.fs/\∀v,p.2.data≠.cell v):dF X pins' σ H s:=⟨I.ok,I.os,I.bare,I.base,I.loc,I.cell,I.free,I.freeC,λp a=>(ai.mp a).elim (λz=>I.pin p (ay _ z)) (h p),I.hok,I.len⟩
def oP{N:List Str}(e:N.Nodup){i j:Nat}(a:N[i]? = some x)(b:N[j]? = some x):i=j:=by obtain⟨g,d⟩:=aa.mp a;obtain⟨f,c⟩:=aa.mp b;exact (List.getElem_inj e).mp (d.trans c.symm)
def qc{M:Model}{A:Around}{E:Vq->Shared->Prop}{i:Nat}{x:Str}{v:V}{u:Vq}{Q:Unit->Shared->Prop}(I:dF X dh σ H s)(hN:X.N.Nodup)(Z:X.N[i]? = some x)(t:tO X.env.scope x)(r:eO v u)
  (h:∀s',dF X dh (σ.set i (some v)) H s'->(∃a,Heap.SameBut a s.heap s'.heap/\(a=X.env.locals\/X.env.cells.lookup x=some a))->Q () s') (hf:X.fn x=true\/X.env.scope.names.lookup x=some .local:=by first|exact .inl rfl|exact .inr rfl|assumption):wpAny M A (storeName X.env x u) Q E s:=by
 obtain⟨m,hn,hl⟩:=id I.loc;have Y:(X.env.scope.kind==.class||(X.env.scope.kind==.module&&X.env.locals != X.env.globals))=false:=by rw[I.ok.kind];rfl
 have F:i<σ.length:=by rw[I.len];exact (aa.mp Z).1
 have cne:=I.cne;have tracked:∀{a:Addr} {h':Heap},(∃o,s.heap.get? a=some o/\H a=none)->Heap.SameBut a s.heap h'->lF X.prog X.w H h':=λ{a h'} ha f b ob e=>by
  obtain⟨_,_,B⟩:=ha;refine (I.hok b ob e).stay (λc w' l q=>(f.2 c ?_).trans q) (λ_ q=>q) λ_ _ q=>q;rintro rfl;rcases l with rfl|l
  .rw[B]at e;cases e
  .rw[B]at l;cases l
 rcases t with D|D
 .refine wpAny_storeName_local D hn (λh' hn' f=>?_) Y;obtain⟨oL,_,_,hoL,_⟩:=id hn;refine h _ ⟨I.ok,I.os,I.bare,⟨λb o e n K t=>?_,λb o e n K t=>?_,I.base.free,λb o e t=>?_,I.base.tups,I.base.frzs,I.base.tbls⟩,⟨_,hn',λj y v' g C e3=>?_⟩,λy c e=>?_,I.free,I.freeC,λp hp=>?_,tracked ⟨oL,hoL,I.free⟩ f,by simpa using I.len⟩ ⟨_,f,.inl rfl⟩
  .exact (f.2 b (aM (aE (aL e) I.ok.above))).trans (I.base.keep b o e n K t)
  .obtain⟨sl,g⟩:=I.base.slot b o e n K t;exact⟨sl,(f.2 b (aM (aE (aL e) I.ok.above))).trans g⟩
  .obtain⟨o',g⟩:=I.base.there b o e t;exact⟨o',(f.2 b (aM (aE (aL e) I.ok.above))).trans g⟩
  .by_cases L:j=i
   .subst L;rw[Z]at g;cases g;rw[List.getElem?_set_self F]at C;cases C;exact⟨u,r,.inl ⟨D,by simp⟩⟩
   .rw[ar (Ne.symm L)]at C;obtain⟨u',r',q⟩:=hl j y v' g C e3;refine⟨u',r',?_⟩;rcases q with⟨k,e⟩|⟨k,c,e,z⟩
    .refine .inl ⟨k,?_⟩;have:y≠x:=λe=>L (oP hN g (e▸Z));simp[this,e]
    .exact .inr ⟨k,c,e,z.sameBut f (cne y c e)⟩
  .obtain⟨w',z⟩:=I.cell y c e;exact⟨w',z.sameBut f (cne y c e)⟩
  .obtain⟨e,n,ne,nf,d⟩:=I.pin p hp;exact⟨(f.2 p.1 ne).trans e,n,ne,nf,d⟩
 .have J:X.fn x=true:=by
   rcases hf with z|z
   .exact z
   .rw[z]at D;cases D
  obtain⟨c,l⟩:=I.ok.has x (.inl D);obtain⟨w',z⟩:=I.cell x c l;refine wpAny_storeName_cell I.ok.kind D l z (λh' P f=>?_);obtain⟨oc,S,U⟩:=id z;refine h {s with heap:=h'} ⟨I.ok,I.os,I.bare,⟨λb o e n K t=>?_,λb o e n K t=>?_,I.base.free,λb o e t=>?_,I.base.tups,I.base.frzs,I.base.tbls⟩,⟨m,hn.sameBut f (Ne.symm (cne x c l)),λj y v' g C e3=>?_⟩,λy c' e=>?_,I.free,I.freeC,λp hp=>?_,tracked ⟨oc,S,I.freeC x c l⟩ f,by simpa using I.len⟩ ⟨c,f,.inr l⟩
  .exact (f.2 b (aM (aE (aL e) (I.ok.cab x c J l)))).trans (I.base.keep b o e n K t)
  .obtain⟨sl,g⟩:=I.base.slot b o e n K t;exact⟨sl,(f.2 b (aM (aE (aL e) (I.ok.cab x c J l)))).trans g⟩
  .obtain⟨o',g⟩:=I.base.there b o e t;exact⟨o',(f.2 b (aM (aE (aL e) (I.ok.cab x c J l)))).trans g⟩
  .by_cases L:j=i
   .subst L;rw[Z]at g;cases g;rw[List.getElem?_set_self F]at C;cases C;exact⟨u,r,.inr ⟨.inl D,c,l,P⟩⟩
   .rw[ar (Ne.symm L)]at C;obtain⟨u',r',q⟩:=hl j y v' g C e3;refine⟨u',r',?_⟩;rcases q with q|⟨k,c',e,z'⟩
    .exact .inl q
    .refine .inr ⟨k,c',e,z'.sameBut f ?_⟩;rintro rfl;exact L (oP hN g (I.ok.inj _ _ _ e l▸Z))
  .by_cases R:c'=c
   .subst R;exact⟨_,P⟩
   .obtain⟨w2,z2⟩:=I.cell y c' e;exact⟨w2,z2.sameBut f R⟩
  .obtain⟨e,n,ne,nf,d⟩:=I.pin p hp;refine⟨(f.2 p.1 ?_).trans e,n,ne,nf,d⟩;intro q;rw[q,S]at e;have q':=Option.some.inj e;exact d w' (by rw[<-q'];exact U)
def n9{M:Model}{A:Around}{E:Vq->Shared->Prop}{i:Nat}{x:Str}{v:V}{u:Vq}{Q:Unit->Shared->Prop}(I:dF X dh σ H s)(hN:X.N.Nodup)(hi:X.N[i]? = some x)(hx:tO X.env.scope x)(r:eO v u)
  (h:∀s',dF X dh (σ.set i (some v)) H s'->Q () s') (hf:X.fn x=true\/X.env.scope.names.lookup x=some .local:=by first|exact .inl rfl|exact .inr rfl|assumption):wpAny M A (storeName X.env x u) Q E s:=
 qc I hN hi hx r (λs' I' _=>h s' I') hf
def dF.call'(I:dF X dh σ H s)(f:s'.os=s.os)(u:Un (ku X.stack) ch H H' s.heap s'.heap)(a:lF X.prog X.w H' s'.heap)(g:AllBare s'.gens)
  (d:∀b∈ch,(b∈X.ex\/X.s₀.heap.objs.size<=b)/\b≠X.env.locals/\(∀x c,X.env.cells.lookup x=some c->c≠b)/\∀p∈X.pn++dh,p.1≠b):dF X dh σ H' s':=by
 obtain⟨h',i,k,j,h⟩:=s';have e:=f;subst e;exact I.call u a g d
end
abbrev XK:=Value->Option Addr->Hp->Prop
abbrev St:=List (Option V)
abbrev VK:=V->Hp->Prop
abbrev TE:=St->Hp->VK->Prop
abbrev TT:=St->Hp->(Bool->Hp->Prop)->Prop
abbrev TA:=St->Hp->(List V->Hp->Prop)->Prop
structure kR where
 nx:St->Hp->Prop
 rt:VK
 bk:St->Hp->Prop:=λ_ _=>False
 ct:St->Hp->Prop:=λ_ _=>False
abbrev TS:=kR->St->Hp->Prop
def EP(X:Cx)(d:List (Addr×Obj))(b:St)(Q:VK)(u:Vq)(c:Sq):Prop:=∃v a,dF X d b a c/\eO v u/\Q v a
def TP(X:Cx)(e:List (Addr×Obj))(c:St)(Q:Bool->Hp->Prop)(b:Bool)(d:Sq):Prop:=∃a,dF X e c a d/\Q b a
def AP(X:Cx)(e:List (Addr×Obj))(c:St)(Q:List V->Hp->Prop)(us:List Vq)(d:Sq):Prop:=∃a b,dF X e c b d/\dZ a us/\Q a b
def SP(X:Cx)(d:List (Addr×Obj))(D:kR)(f:Flow)(c:Sq):Prop:=
 match f with
 |.next=>∃a b,dF X d a b c/\D.nx a b
 |.brk=>∃a b,dF X d a b c/\D.bk a b
 |.cont=>∃a b,dF X d a b c/\D.ct a b
 |.ret u=>∃v a b,dF X d a b c/\eO v u/\D.rt v b
def PE(X:Cx)(e:Expr)(t:TE):Prop:=∀(b:List (Addr×Obj)) (s:Sq) (a:St) (H:Hp) (Q:VK),dF X b a H s->t a H Q->wpAny (model X.prog X.w) X.A (eval e X.env) (EP X b a Q) X.xe s
def PT(X:Cx)(e:Expr)(t:TT):Prop:=∀(b:List (Addr×Obj)) (s:Sq) (a:St) (H:Hp) (Q:Bool->Hp->Prop),dF X b a H s->t a H Q->wpAny (model X.prog X.w) X.A (isTrue e X.env (eval e X.env)) (TP X b a Q) X.xe s
def PW(X:Cx)(e:Expr)(t:TT):Prop:=∀(a:Sem Vq) (c:List (Addr×Obj)) (s:Sq) (b:St) (H:Hp) (Q:Bool->Hp->Prop),dF X c b H s->t b H Q->wpAny (model X.prog X.w) X.A (isTrue e X.env a) (TP X c b Q) X.xe s
def PW.pt(h:PW X e t):PT X e t:=h _
def PA(X:Cx)(d:List Expr)(t:TA):Prop:=∀(a:Pos) (c:List (Addr×Obj)) (s:Sq) (b:St) (H:Hp) (Q:List V->Hp->Prop),dF X c b H s->t b H Q->wpAny (model X.prog X.w) X.A (spliced (backTo a (starEach d X.env))) (AP X c b Q) X.xe s
def PS(X:Cx)(st:Stmt)(t:TS):Prop:=∀(b:List (Addr×Obj)) (s:Sq) (a:St) (H:Hp) (D:kR),dF X b a H s->t D a H->wpAny (model X.prog X.w) X.A (exec st X.env) (SP X b D) X.xe s
def mW(X:Cx)(st:List Stmt)(t:TS):Prop:=∀(b:List (Addr×Obj)) (s:Sq) (a:St) (H:Hp) (D:kR),dF X b a H s->t D a H->wpAny (model X.prog X.w) X.A (execs st X.env) (SP X b D) X.xe s
def fL{c:Type}{t:Sem c}{Q b:c->Shared->Prop}{M:Model}{A:Around}{E:Vq->Shared->Prop}{s:Sq}(h:wpAny M A t Q E s)(d:∀a s,Q a s->b a s):wpAny M A t b E s:=wpAny_mono h d λ_ _ x=>x
end L2
namespace L2
open PySem PySem.Spec PyProof.Rows
section
variable {X:Cx}
def gQ(i:Nat):TE:=λa H Q=>∃v,a[i]? = some (some v)/\Q v H
def tC(v:V):TE:=λ_ H Q=>Q v H
def EO(n:X.N[i]? = some x)(q:GK X.env.scope x)(f:(x==("__debug__" : Str))=false:=by decide)(g:(x==("__classdict__" : Str))=false:=by decide):PE X (.Name x pos) (gQ i):=by
 intro k s t H Q I h;obtain⟨v,e,h⟩:=h;obtain⟨m,w,o⟩:=I.loc;obtain⟨u,r,l⟩:=o i x v n e q;have d:EP X k t Q u s:=⟨v,H,I,r,h⟩;rcases l with⟨b,p⟩|⟨b,c,j,a⟩
 .exact wpAny_Name (wpAny_loadName_local I.ok.kind b w p d) f
 .rcases b with b|b
  .exact wpAny_Name (wpAny_loadName_cell I.ok.kind b j a d) f
  .exact wpAny_Name (wpAny_loadName_free I.ok.kind b j a d g) f
def AM{i j pos}:PE X (.Constant (.int i) j pos) (tC (.int i)):=λ_ _ _ H _ I h=>wpAny_Constant_int ⟨.int i,H,I.tok _,⟨_,rfl⟩,h⟩
def za{b j pos}:PE X (.Constant (.bool b) j pos) (tC (.bl b)):=λ_ _ _ H _ I h=>Constant_bool ⟨.bl b,H,I,rfl,h⟩
def ET{j pos}:PE X (.Constant .none j pos) (tC .non):=λ_ _ _ H _ I h=>Constant_none ⟨.non,H,I,rfl,h⟩
def gJ{x j pos}:PE X (.Constant (.str x) j pos) (tC (.str x)):=λ_ _ _ H _ I h=>Calls.Constant_str ⟨.str x,H,I.tok _,⟨_,rfl⟩,h⟩
def Gl(X:Cx)(x:Str):Prop:=X.env.kindOf x=some .globalImplicit
def kJ(I:dF X dh σ H s)(a:Gl X x)(c:X.mg x=some u)(h:Q u s)
  (b:(x==("__debug__" : Str))=false:=by decide):wpAny (model X.prog X.w) X.A (eval (.Name x pos) X.env) Q E s:=
 Calls.Name_function_global I.ok.kind a (Calls.loadGlobal_global (by rw[I.ok.glob];exact I.mod.glob.keeps I.bk) c h) b
def jz(I:dF X dh σ H s)(d:Gl X x)(g:X.mg x=none)(b:bootBuiltins x=some u)(h:Q u s)
  (a:x≠ "__name__" :=by decide) (f:(x==("__debug__" : Str))=false:=by decide):wpAny (model X.prog X.w) X.A (eval (.Name x pos) X.env) Q E s:=by
 obtain⟨i,e,c⟩:=I.mod.blt;exact Calls.Name_function_global I.ok.kind d (Calls.loadGlobal_builtin (by rw[I.ok.glob];exact I.mod.glob.keeps I.bk) g (by rw[I.ok.blt];exact e.keeps I.bk) ((c x a).trans b) h) f
def gG(a:Gl X x)(c:X.mg x=some u)(r:eO v u)(b:(x==("__debug__" : Str))=false:=by decide):PE X (.Name x pos) (tC v):=λ_ _ _ H _ I h=>kJ I a c ⟨v,H,I,r,h⟩ b
def v9(c:Gl X x)(b:X.mg x=none)(a:bootBuiltins x=some u)(r:eO v u)(e:x≠ "__name__" :=by decide)(d:(x==("__debug__" : Str))=false:=by decide):PE X (.Name x pos) (tC v):=λ_ _ _ H _ I h=>jz I c b a ⟨v,H,I,r,h⟩ e d
variable {a b:Expr}{ta tb:TE}{pos:Pos}
def tB(t:TE):TT:=λe H Q=>t e H λx d=>∃c,x=.bl c/\Q c d
def tX(h:PE X e t)(i:∀c,isTrue e X.env c=(do let v <-c;standAt e.pos;holding [v] (truthy v)):=by intro _;rfl):PT X e (tB t):=by intro g s f H Q I hw;refine isTrue_plain (fL (h g s f H _ I hw) λv s1 ⟨x,H1,I1,r1,q1⟩=>?_) (i _);obtain⟨d,rfl,q⟩:=q1;cases r1;exact wpAny_truthy_bool ⟨H1,I1,q⟩
variable {tA tB':TT}{iN:List Expr}
def EY(t u:TT):TT:=λe H Q=>t e H λc d=>if c=true then u e d Q else Q false d
def GR(t u:TT):TT:=λe H Q=>t e H λc d=>if c=true then Q true d else u e d Q
def BN(t:TT):TT:=λe H Q=>t e H λc d=>Q (!c) d
def BE(f:PT X a tA):PW X (.BoolOp .And [a] pos) tA:=by
 intro i g s d H Q I h;refine isTrue_and (fL (f g s d H Q I h) λc j e=>?_);cases c with
 |true=>exact isTrue_and_nil e
 |false=>exact e
def yk(f:PT X a tA):PW X (.BoolOp .Or [a] pos) tA:=by
 intro i g s d H Q I h;refine isTrue_or (fL (f g s d H Q I h) λc j e=>?_);cases c with
 |false=>exact isTrue_or_nil e
 |true=>exact e
def Ey(i:PT X a tA)(f:PW X (.BoolOp .And (b::iN) pos) tB'):PW X (.BoolOp .And (a::b::iN) pos) (EY tA tB'):=by
 intro g e s d H Q I h;refine isTrue_and (fL (i e s d H _ I h) λc s1 ⟨H1,I1,q1⟩=>?_);cases c with
 |true=>exact f g e s1 d H1 Q I1 q1
 |false=>exact⟨H1,I1,q1⟩
def CI(i:PT X a tA)(f:PW X (.BoolOp .Or (b::iN) pos) tB'):PW X (.BoolOp .Or (a::b::iN) pos) (GR tA tB'):=by
 intro g e s d H Q I h;refine isTrue_or (fL (i e s d H _ I h) λc s1 ⟨H1,I1,q1⟩=>?_);cases c with
 |true=>exact⟨H1,I1,q1⟩
 |false=>exact f g e s1 d H1 Q I1 q1
def uD(f:PT X a tA):PT X (.UnaryOp .Not a pos) (BN tA):=by intro g s e H Q I h;exact isTrue_not (f g s e H (λc d=>Q (!c) d) I h)
def yY(ta tb:TE):TE:=λe H Q=>ta e H λx d=>∃c,x=.bl c/\if c=true then tb e d Q else Q (.bl false) d
def yc(ta:TE):TE:=λe H Q=>ta e H λx d=>∃c,x=.bl c/\Q (.bl (!c)) d
def Dw{op}(h:PE X a t):PE X (.BoolOp op [a] pos) t:=λd s c H Q I hw=>BoolOp_one (h d s c H Q I hw)
def EH(i:PE X a ta)(g:PE X (.BoolOp .And (b::iN) pos) tb):PE X (.BoolOp .And (a::b::iN) pos) (yY ta tb):=by
 intro f s e H Q I h;refine BoolOp_and (fL (i f s e H _ I h) λv s1 ⟨x,H1,I1,r1,d⟩=>?_);obtain⟨c,rfl,d⟩:=d;cases r1;refine wpAny_truthy_bool ?_;cases c with
 |true=>exact g f s1 e H1 Q I1 d
 |false=>exact⟨.bl false,H1,I1,rfl,d⟩
def EJ(f:PE X a ta):PE X (.UnaryOp .Not a pos) (yc ta):=by intro g s e H Q I h;refine UnaryOp_ (fL (f g s e H _ I h) λv s1 ⟨x,H1,I1,r1,d⟩=>?_);obtain⟨c,rfl,d⟩:=d;cases r1;exact not_of (wpAny_truthy_bool ⟨.bl (!c),H1,I1,rfl,d⟩)
end
end L2
namespace L2
open PySem PySem.Spec PyProof.Rows
def ib(K:W.Frag)(H:Hp)(a:Addr)(c:List V):Prop:=
 Rd H a (.lst c)\/
  ∃(o:Obj) (b:Array Vq) (n:Nat),K.lookup a=some o/\o.cls=.type "list" /\o.dict=none/\o.data=.seq b n/\b.size<=sizeLine/\dZ c b.toList
def jd(K:W.Frag)(H:Hp)(a:Addr)(c:List V):Prop:=
 Rd H a (.tup c)\/
  ∃(o:Obj) (b:Array Vq) (n:Nat),K.lookup a=some o/\o.cls=.type "tuple" /\o.data=.seq b n/\b.size<=sizeLine/\dZ c b.toList
def Hc:Vq->Option V
 |.none=>some .non
 |.bool b=>some (.bl b)
 |.int i _=>some (.int i)
 |.str x _=>some (.str x)
 |.bytes b _=>some (.byt b)
 |.float b _=>some (.flt b)
 |.ref a=>some (.ref a)
 |.type n=>some (.ty n)
 |_=>none
def eO.abs(r:eO x u):Hc u=some x:=by
 cases x with
 |non=>cases r;rfl
 |bl _=>cases r;rfl
 |int _=>obtain⟨t,rfl⟩:=r;rfl
 |str _=>obtain⟨t,rfl⟩:=r;rfl
 |byt _=>obtain⟨t,rfl⟩:=r;rfl
 |flt _=>obtain⟨t,rfl⟩:=r;rfl
 |ref _=>cases r;rfl
 |ty _=>cases r;rfl
def eO.inj(r:eO x u)(q:eO y u):x=y:=Option.some.inj (r.abs.symm.trans q.abs)
theorem dZ.inj:∀{xs ys} {us},dZ xs us->dZ ys us->xs=ys
 |_,_,_,.nil,.nil=>rfl
 |_,_,_,.cons r t,.cons r' t'=>by rw[r.inj r',dZ.inj t t']
section
variable {X:Cx}{dh:List (Addr×Obj)}{σ:St}{H:Hp}{s:Sq}{a:Addr}{xs ys:List V}
def ib.of{K:W.Frag}(h:H a=some (.lst xs)):ib K H a xs:=.inl (.inl h)
def jd.of{K:W.Frag}(h:H a=some (.tup xs)):jd K H a xs:=.inl (.inl h)
def dF.list(I:dF X dh σ H s)(h:ib X.K H a xs):∃b:List Vq,dZ xs b/\PlainL s.heap a b.toArray/\xs.length<=sizeLine:=by
 rcases h with h|⟨o,b,n,c,d,g,f,i,r⟩
 .obtain⟨z,b,n,r,e⟩:=h.ok I.hok;exact⟨b,r,⟨_,n,e,rfl,rfl,rfl⟩,z⟩
 .refine⟨b.toList,r,⟨o,n,I.kIn a o c,d,g,by simpa using f⟩,?_⟩;have e:=r.length;simp only[bq]at e;omega
def dF.tuple(I:dF X dh σ H s)(h:jd X.K H a xs):∃b:List Vq,dZ xs b/\IsTup s.heap a b.toArray/\xs.length<=sizeLine:=by
 rcases h with h|⟨o,b,n,c,d,f,g,r⟩
 .obtain⟨z,b,r,p⟩:=h.ok I.hok;exact⟨b,r,p.tup,z⟩
 .refine⟨b.toList,r,⟨o,I.kIn a o c,d,n,by simpa using f⟩,?_⟩;have e:=r.length;simp only[bq]at e;omega
def dF.list_inj(I:dF X dh σ H s)(h:ib X.K H a xs)(j:ib X.K H a ys):xs=ys:=by
 obtain⟨c,r,⟨o,n,e,_,_,d⟩,_⟩:=I.list h;obtain⟨b,i,⟨m,l,f,_,_,g⟩,_⟩:=I.list j;rw[e]at f;cases f;rw[d]at g;injection g with k _;have:c=b:=by simpa using congrArg Array.toList k
 subst this;exact r.inj i
def dF.tuple_inj(I:dF X dh σ H s)(h:jd X.K H a xs)(j:jd X.K H a ys):xs=ys:=by
 obtain⟨c,r,⟨o,e,_,n,d⟩,_⟩:=I.tuple h;obtain⟨b,i,⟨m,f,_,l,g⟩,_⟩:=I.tuple j;rw[e]at f;cases f;rw[d]at g;injection g with k _;have:c=b:=by simpa using congrArg Array.toList k
 subst this;exact r.inj i
end
noncomputable abbrev Cx.wish(X:Cx)(E:Vq->Shared->Prop):Cx:={X with xe:=E}
abbrev Cx.nox(X:Cx):Cx:=X.wish λ_ _=>False
def Cx.Ok.wish{X:Cx}(ok:X.Ok) E:(X.wish E).Ok:=⟨ok.mod,ok.kind,ok.glob,ok.blt,ok.above,ok.inj,ok.has,ok.cab,ok.hd,ok.frames,ok.stk,ok.exf,ok.bs,ok.bsz,ok.noex,ok.exfs,ok.funs,ok.frf⟩
def Cx.Ok.unwish{X:Cx}(ok:(X.wish E).Ok):X.Ok:=⟨ok.mod,ok.kind,ok.glob,ok.blt,ok.above,ok.inj,ok.has,ok.cab,ok.hd,ok.frames,ok.stk,ok.exf,ok.bs,ok.bsz,ok.noex,ok.exfs,ok.funs,ok.frf⟩
section
variable {X:Cx}{dh:List (Addr×Obj)}{σ:St}{H:Hp}{s:Sq}{E:Vq->Shared->Prop}
def dF.wish(I:dF X dh σ H s) E:dF (X.wish E) dh σ H s:=⟨I.ok.wish E,I.os,I.bare,I.base,I.loc,I.cell,I.free,I.freeC,I.pin,I.hok,I.len⟩
def dF.unwish(I:dF (X.wish E) dh σ H s):dF X dh σ H s:=⟨I.ok.unwish,I.os,I.bare,I.base,I.loc,I.cell,I.free,I.freeC,I.pin,I.hok,I.len⟩
def SP.unwish(h:SP (X.wish E) dh D f s'):SP X dh D f s':=by
 cases f with
 |next=>obtain⟨a,b,I,q⟩:=h;exact⟨a,b,I.unwish,q⟩
 |brk=>obtain⟨a,b,I,q⟩:=h;exact⟨a,b,I.unwish,q⟩
 |cont=>obtain⟨a,b,I,q⟩:=h;exact⟨a,b,I.unwish,q⟩
 |ret u=>obtain⟨v,a,b,I,r,q⟩:=h;exact⟨v,a,b,I.unwish,r,q⟩
def mW.nox{st:List Stmt}(h:mW X.nox st t):mW X st t:=λdh s σ H D I hw=>wpAny_mono (h dh s σ H D (I.wish _) hw) (λ_ _ q=>q.unwish) λ_ _ z=>False.elim z
end
section
variable {X:Cx}{st:Stmt}{iN:List Stmt}{t u:TS}{e:Expr}{te:TE}{pos:Pos}
def n8:TS:=λD σ H=>D.nx σ H
def ml(t u:TS):TS:=λD a H=>t {D with nx:=u D} a H
def nq:mW X [] n8:=λ_ _ a H _ I h=>wpAny_execs_nil ⟨a,H,I,h⟩
def fP(k:PS X st t)(g:mW X iN u):mW X (st::iN) (ml t u):=by
 intro b s i H D I h;refine wpAny_execs_cons (fL (k b s i H {D with nx:=u D} I h) λf d q=>?_);cases f with
 |next=>obtain⟨a,j,c,q⟩:=q;exact g b d a j D c q
 |ret v=>exact q
 |brk=>exact q
 |cont=>exact q
def kH(b:PS X st t):mW X [st] t:=by
 intro c s a H D I h;refine wpAny_execs_cons (fL (b c s a H D I h) λf d q=>?_);cases f with
 |next=>exact wpAny_execs_nil q
 |ret v=>exact q
 |brk=>exact q
 |cont=>exact q
def dF.quiet(I:dF X dh σ H s):interactive X.env=false:=by simp[interactive,I.ok.kind]
def mM(te:TE):TS:=λD a H=>te a H λ_ b=>D.nx a b
def ng(d:PE X e te)(b:swapsWith e none pos.line X.env=pure false:=by rfl):PS X (.Expr e pos) (mM te):=by intro c s a H D I h;exact wpAny_Expr_any (fL (d c s a H _ I h) λv s1 ⟨x,H1,I1,r1,q1⟩=>⟨a,H1,I1,q1⟩) I.quiet b
def sO(te:TE):TS:=λD a H=>te a H D.rt
def lu(c:PE X e te):PS X (.Return (some e) pos) (sO te):=by intro b s a H D I h;exact wpAny_Return_some (fL (c b s a H _ I h) λv s1 ⟨x,H1,I1,r1,q1⟩=>⟨x,a,H1,I1,r1,q1⟩)
def xt(c:TT)(t u:TS):TS:=λD a H=>c a H λb d=>if b=true then t D a d else u D a d
def vp(j:PT X c tc)(k:mW X a t)(i:mW X b u):PS X (.If c a b pos) (xt tc t u):=by
 intro g s f H D I h;refine wpAny_If (fL (j g s f H _ I h) λd s1 ⟨H1,I1,q1⟩=>?_);cases d with
 |true=>exact k g s1 f H1 D I1 q1
 |false=>exact i g s1 f H1 D I1 q1
def qD:TS:=λ_ _ _=>False
def yZ:PS X st qD:=λ_ _ _ _ _ _ h=>h.elim
def wI:mW X sts qD:=λ_ _ _ _ _ _ h=>h.elim
end
abbrev TG:=V->St->Hp->(St->Hp->Prop)->Prop
abbrev AO:=List V->St->Hp->(St->Hp->Prop)->Prop
def PG(X:Cx)(target:Expr)(t:TG):Prop:=
 ∀(d:List (Addr×Obj)) (s:Sq) (b:St) (H:Hp) (v:V) (u:Vq) (Q:St->Hp->Prop),dF X d b H s->eO v u->t v b H Q->
  wpAny (model X.prog X.w) X.A (assign target X.env u) (λ_ e=>∃a c,dF X d a c e/\Q a c) X.xe s
def Fh(X:Cx)(ts:List Expr)(t:AO):Prop:=
 ∀(f:List (Addr×Obj)) (s:Sq) (d:St) (H:Hp) (c:List V) (b:List Vq) (Q:St->Hp->Prop),dF X f d H s->dZ c b->t c d H Q->
  wpAny (model X.prog X.w) X.A (assignInOrder ((assignEach ts X.env).map (·.2)) b) (λ_ g=>∃a e,dF X f a e g/\Q a e) X.xe s
abbrev Fq:=V->V->V->Hp->(Hp->Prop)->Prop
def FS(X:Cx)(t:Fq):Prop:=
 ∀(e:List (Addr×Obj)) (s:Sq) (c:St) (H:Hp) (o i v:V) (d b u:Vq) (Q:Hp->Prop),dF X e c H s->eO o d->eO i b->eO v u->t o i v H Q->
  wpAny (model X.prog X.w) X.A (setItem d b u) (λ_ f=>∃a,dF X e c a f/\Q a) X.xe s
section
variable {X:Cx}{pos:Pos}
def fH(i:Nat):TG:=λv a H Q=>Q (a.set i (some v)) H
def vb(e:X.N.Nodup)(d:X.N[i]? = some x)(b:tO X.env.scope x)(c:X.fn x=true\/X.env.scope.names.lookup x=some .local:=by first|exact .inl rfl|exact .inr rfl|assumption):PG X (.Name x pos) (fH i):=by intro j s f H v u Q I r h;exact wpAny_assign_Name (n9 I e d b r (λg a=>⟨_,H,a,h⟩) c)
def xf:AO:=λa b H Q=>a=[]/\Q b H
def nA(t:TG)(u:AO):AO:=λb c H Q=>∃v r,b=v::r/\t v c H λa d=>u r a d Q
def uW:Fh X [] xf:=by intro d s a H c b Q I r h;obtain⟨e,h⟩:=h;subst e;cases r;exact assignInOrder_nil ⟨a,H,I,h⟩
theorem sZ(g:PG X e t)(c:Fh X es u)
  (f:(assignEach (e::es) X.env).map (·.2)=assign e X.env::(assignEach es X.env).map (·.2):=by rfl):Fh X (e::es) (nA t u):=by
 intro a s d H k i Q I r h;obtain⟨v,j,b,h⟩:=h;subst b;cases r with
 |cons r rr=>rw[f];refine assignInOrder_cons (fL (g a s d H _ _ _ I r h) λ_ s1 ⟨σ1,H1,I1,q1⟩=>?_);exact c a s1 σ1 H1 _ _ Q I1 rr q1
def xw(K:W.Frag)(n:Nat)(t:AO):TG:=λv c H Q=>∃a b,v=.ref a/\jd K H a b/\b.length=n/\t b c H Q
def zw(j:X.calm=true)(h:Fh X es t)
  (z:(assignEach es X.env).length=n:=by rfl) (c:(assignEach es X.env).findIdx? (·.1)=none:=by rfl):PG X (.Tuple es k pos) (xw X.K n t):=by
 intro g s y H v u Q I r hw;obtain⟨a,l,x,m,i,hw⟩:=hw;subst x;cases r;obtain⟨w,d,q,B⟩:=I.tuple m;refine assign_Tuple_tuple (I.ok.hd j) q (by simp[z,<-i,d.length]) c λA f=>?_;have p:=I.kept (t':=s.toks) λb o e=>f b o (aM (aL e)) e;exact h g _ y H l _ Q p (by simpa using d) hw
def EI(to e:TE)(t:Fq):TG:=λv a H Q=>to a H λo b=>e a b λi c=>t o i v c λd=>Q a d
def DE(c:PE X o to)(f:PE X i ti)(d:FS X t)
  (e:∀v,assign (.Subscript o i pos) X.env v=(do
   let ov <-holding [v] (eval o X.env)
   let iv <-holding [v,ov] (eval i X.env)
   standAt pos
   holding [v,ov,iv] (setItem ov iv v)
   release [v,ov,iv] []):=by intro _;rfl):PG X (.Subscript o i pos) (EI to ti t):=by
 intro b s a H v u Q I r h;rw[e];refine aq (wpAny_holding (fL (c b s a H _ I h) λov s1 ⟨x,H1,I1,r1,q1⟩=>?_));refine aq (wpAny_holding (fL (f b s1 a H1 _ I1 q1) λiv s2 ⟨y,H2,I2,r2,q2⟩=>?_));refine aq (wpAny_standAt (aq (wpAny_holding (fL (d b s2 a H2 x y v ov iv u _ I2 r1 r2 r q2) λ_ s3 ⟨H3,I3,q3⟩=>?_))));exact wpAny_release ⟨a,H3,I3,q3⟩
def ji(b:TE)(g:TG):TS:=λD a H=>b a H λx c=>g x a c D.nx
def yn(i:PE X e te)(c:PG X tg g)(d:swapsWithSole [tg] e pos.line X.env=pure false:=by rfl)(hw:swappedStores [tg] e X.env=pure none:=by rfl)
  (f:(assignEach [tg] X.env).map (·.2)=[assign tg X.env]:=by rfl):PS X (.Assign [tg] e pos) (ji te g):=by
 intro a s b H D I h;refine wpAny_Assign_stores (fL (i a s b H _ I h) λv s1 ⟨x,H1,I1,r1,q1⟩=>?_) d hw;rw[f];exact fL (c a s1 b H1 x v _ I1 r1 q1) λ_ j q=>q
def jO(c:X.N.Nodup)(k:X.N[i]? = some x)(a:tO X.env.scope x)(l:PE X e te)(g:swapsWith e (some (.Name x pos')) pos.line X.env=pure false:=by rfl)(b:X.fn x=true\/X.env.scope.names.lookup x=some .local:=by first|exact .inl rfl|exact .inr rfl|assumption) :
  PS X (.Assign [.Name x pos'] e pos) (ji te (fH i)):=by
 intro j s d H D I h;refine wpAny_Assign_Name (fL (l j s d H _ I h) λv s1 ⟨y,H1,I1,r1,q1⟩=>?_) g;exact n9 I1 c k a r1 (λm f=>⟨_,H1,f,q1⟩) b
end
section
variable {X:Cx}{pos:Pos}
def uS(c:TT)(h:TS):TS:=λD a H=>∃W:Nat->St->Hp->Prop,(∃m,W m a H)/\∀m a H,W m a H->
 c a H λb f=>if b=true then ∃N:St->Hp->Prop,(∀d g,N d g->∃e,e<m/\W e d g)/\h {D with nx:=N,ct:=N,bk:=D.nx} a f else D.nx a f
def zk(y:PassesOwn (model X.prog X.w) X.A X.env X.xe)(C:PT X c tc)(F:mW X body tb):PS X (.While c body [] pos) (uS tc tb):=by
 intro m s L H D I h;obtain⟨W,⟨z,B⟩,i⟩:=h;refine wpAny_While (codeAny_whileLoop (λn P=>∃e u,dF X m e u P/\W n e u) ?_ z ⟨L,H,I,B⟩);rintro n K ⟨d,t,E,J⟩;refine wpAny_passesOwn y (fL (C m K d t _ E (i n d t J)) λb s2 ⟨H2,I2,j⟩=>?_);cases b with
 |true=>
  obtain⟨N,x,j⟩:=j;rw[aQ rfl];refine wpAny_passesOwn y (fL (F m s2 d H2 _ I2 j) λf Q k=>?_);cases f with
  |next=>obtain⟨a,g,o,l⟩:=k;obtain⟨r,p,q⟩:=x a g l;exact⟨r,p,a,g,o,q⟩
  |cont=>obtain⟨a,g,o,l⟩:=k;obtain⟨r,p,q⟩:=x a g l;exact⟨r,p,a,g,o,q⟩
  |brk=>exact k
  |ret v=>exact k
 |false=>rw[aR aH];exact wpAny_execs_nil ⟨d,H2,I2,j⟩
end
structure It where
 go:Nat->Hp->Prop
 yld:Nat->Hp->V->Hp->Prop
 stop:Nat->Hp->Prop
def m3(X:Cx)(a:List (Addr×Obj))(H:Hp)(b:Addr):Prop:=H b=none/\b≠X.env.locals/\b∉X.fs/\(b∈X.ex\/X.s₀.heap.objs.size<=b)/\(∀x c,X.env.cells.lookup x=some c->c≠b)/\∀p∈X.pn++a,p.1≠b
def dF.fpOk(I:dF X dh σ H s)(a:s.heap.objs.size<=b)(f:H' b=none):m3 X dh H' b:=by
 refine⟨f,br (aE I.lt a),I.nofs a,.inr (aN I.sz a),λx c e z=>?_,λp d z=>?_⟩
 .obtain⟨v,q⟩:=I.cell x c e;exact absurd (aE q.lt (by rw[z];exact a)) (a9 _)
 .exact absurd (aE (aL (I.pin p d).1) (by rw[z];exact a)) (a9 _)
structure uE(P:Program)(w:World)(K:W.Frag)(tg:Expr)(J:It)(fp:List Addr)(it:Addr)(tn:Nat->Heap->Prop):Prop where
 mem:it∈fp
 obj:∀i h,tn i h->∀b∈fp,∃o,h.get? b=some o/\∀v,o.data≠.cell v
 keep:∀i h h',tn i h->(∀b∈fp,∀o,h.get? b=some o->h'.get? b=some o)->tn i h'
 item:∀(X:Cx),X.prog=P->X.w=w->X.K=K->X.calm=true->∀(i:Nat) (dh:List (Addr×Obj)) (s:Sq) (σ:St) (H:Hp) (E:Vq->Shared->Prop),dF X dh σ H s->(∀b∈fp,m3 X dh H b)->tn i s.heap->J.go i H->
  wpAny (model P w) X.A (pyNext (.ref it)) (λr s1=>∃u,r=some u/\
   wpAny (model P w) X.A (letOwnedTupleGo tg (.ref it) u) (λ_ s2=>∃x H',dF X dh σ H' s2/\eO x u/\J.yld i H x H'/\tn (i+1) s2.heap/\∀b∈fp,H' b=none) E s1) E s
 done:∀(X:Cx),X.prog=P->X.w=w->X.K=K->X.calm=true->∀(i:Nat) (dh:List (Addr×Obj)) (s:Sq) (σ:St) (H:Hp) (E:Vq->Shared->Prop),dF X dh σ H s->(∀b∈fp,m3 X dh H b)->tn i s.heap->J.stop i H->
  wpAny (model P w) X.A (pyNext (.ref it)) (λr s1=>r=none/\dF X dh σ H s1) E s
 self:∀(A:Around) (i:Nat) (s:Sq) (Q:Vq->Shared->Prop) (E:Vq->Shared->Prop),tn i s.heap->Q (.ref it) s->wpAny (model P w) A (pyIter (.ref it)) Q E s
abbrev TI:=St->Hp->(It->Hp->Prop)->Prop
def HR(X:Cx)(g:List (Addr×Obj))(h:St)(i:Expr)(R:It->Hp->Prop)(a:Vq)(f:Sq):Prop:=∃(it:Addr) (d:List Addr) (e:Nat->Heap->Prop) (J:It) (c:Hp),a=.ref it/\dF X g h c f/\uE X.prog X.w X.K i J d it e/\e 0 f.heap/\(∀b∈d,m3 X g c b)/\R J c
def PI(X:Cx)(f a:Expr)(d:TI):Prop:=
 ∀(c:List (Addr×Obj)) (s:Sq) (b:St) (H:Hp) (R:It->Hp->Prop),dF X c b H s->d b H R->
  wpAny (model X.prog X.w) X.A (eval a X.env) (λv e=>wpAny (model X.prog X.w) X.A (pyIter v) (HR X c b f R) X.xe e) X.xe s
theorem zP{M:Model}{A:Around}{E:Vq->Shared->Prop}{s:Sq}{b:Expr}{it:Addr}{u:Vq}{o:Obj}{n:String}{vs:Array Vq}{Q:Unit->Shared->Prop}(c:s.heap.get? it=some o)(d:o.cls=.type n)(e:o.data=.fields vs)
    (f:["enumerate", "zip", "dict_itemiterator", "dict_reverseitemiterator", "odict_iterator", "itertools.zip_longest", "itertools.pairwise"].contains n=false) (a:Q () s):wpAny M A (letOwnedTupleGo b (.ref it) u) Q E s:=by
  unfold letOwnedTupleGo;cases b<;>first
    |exact ao a
    | (cases u<;>first
        |exact ao a
        | (refine aq (wpAny_load c ?_)
           rw[d,e]
           show wpAny M A (if (["enumerate", "zip", "dict_itemiterator", "dict_reverseitemiterator", "odict_iterator", "itertools.zip_longest", "itertools.pairwise"].contains n&&vs[0]? == some (rawInt _))=true then _ else _) Q E s
           rw[aR (by intro h;rw[f,Bool.false_and]at h;cases h)]
           exact ao a))
noncomputable def G1(K:W.Frag)(a:Addr):It:=⟨λi H=>∃b x,ib K H a b/\b[i]? = some x,λi H x c=>c=H/\∀b,ib K H a b->b[i]? = some x,λi H=>∃b,ib K H a b/\b.length<=i⟩
noncomputable def HI(K:W.Frag)(a:Addr):It:=⟨λi H=>∃b x,jd K H a b/\b[i]? = some x,λi H x c=>c=H/\∀b,jd K H a b->b[i]? = some x,λi H=>∃b,jd K H a b/\b.length<=i⟩
noncomputable def Fs(a:Int)(n:Nat):It:=⟨λi _=>i<n,λi H x b=>b=H/\x=.int (a+i),λi _=>n<=i⟩
def wM{K:W.Frag} a it:uE P w K tg (G1 K a) [it] it (λi h=>h.IsListIter it a i) where
 mem:=by simp
 obj:=λi h f b g=>by
  have e:b=it:=by simpa using g
  subst e;obtain⟨o,e,c,d⟩:=f;exact⟨o,e,λv z=>by rw[d]at z;cases z⟩
 keep:=λi h N f k=>f.at λo e=>k it (by simp) o e
 item:=by intro X t hw J L i S s σ H E I m f r;subst t hw J;obtain⟨U,x,l,q⟩:=r;obtain⟨D,y,p,hz⟩:=I.list l;obtain⟨u,hu,R⟩:=y.get q;obtain⟨C,n,f2,B,F,A⟩:=m it (by simp);refine wpAny_pyNext_list_item f p.isList (by simpa using hu) λN j Q=>?_;have Z:=I.turned (t':=s.toks) (λb o g e=>(Q.2 b g).trans e) C n B F A;obtain⟨o,e,c,d⟩:=id j;exact⟨u,rfl,zP e c d (by decide) ⟨x,H,Z,R,⟨rfl,λys Y=>by rw[I.list_inj Y l];exact q⟩,j,λb g=>(m b g).1⟩⟩
 done:=by intro X t hw J L i S s σ H E I m f r;subst t hw J;obtain⟨U,l,q⟩:=r;obtain⟨D,y,p,hz⟩:=I.list l;obtain⟨C,n,f2,B,F,A⟩:=m it (by simp);have hl:=y.length;exact wpAny_pyNext_list_end (I.ok.hd L) f p.isList (by simp;omega) λN eb=>⟨rfl,I.turned (λb o g e=>eb b o g e) C n B F A⟩
 self:=λ_ _ _ _ _ f h=>wpAny_pyIter_listiter f h
def t5{K:W.Frag} a it:uE P w K tg (HI K a) [it] it (λi h=>h.IsTupleIter it a i) where
 mem:=by simp
 obj:=λi h f b g=>by
  have e:b=it:=by simpa using g
  subst e;obtain⟨o,e,c,d⟩:=f;exact⟨o,e,λv z=>by rw[d]at z;cases z⟩
 keep:=λi h N f k=>f.at λo e=>k it (by simp) o e
 item:=by intro X t hw J L i S s σ H E I m f r;subst t hw J;obtain⟨U,x,l,q⟩:=r;obtain⟨D,y,p,hz⟩:=I.tuple l;obtain⟨u,hu,R⟩:=y.get q;obtain⟨C,n,f2,B,F,A⟩:=m it (by simp);refine wpAny_pyNext_tuple_item f (p) (by simpa using hu) λN j Q=>?_;have Z:=I.turned (t':=s.toks) (λb o g e=>(Q.2 b g).trans e) C n B F A;obtain⟨o,e,c,d⟩:=id j;exact⟨u,rfl,zP e c d (by decide) ⟨x,H,Z,R,⟨rfl,λys Y=>by rw[I.tuple_inj Y l];exact q⟩,j,λb g=>(m b g).1⟩⟩
 done:=by intro X t hw J L i S s σ H E I m f r;subst t hw J;obtain⟨U,l,q⟩:=r;obtain⟨D,y,p,hz⟩:=I.tuple l;obtain⟨C,n,f2,B,F,A⟩:=m it (by simp);have hl:=y.length;exact wpAny_pyNext_tuple_end (I.ok.hd L) f (p) (by simp;omega) λN eb=>⟨rfl,I.turned (λb o g e=>eb b o g e) C n B F A⟩
 self:=λ_ _ _ _ _ f h=>wpAny_pyIter_tupleiter f h
def t8{K:W.Frag} it lo n:uE P w K tg (Fs lo n) [it] it (λi h=>IsRangeIter h it (lo+(i:Nat)*1) ((n:Int)-(i:Nat)) 1) where
 mem:=by simp
 obj:=λi h a b c=>by
  have e:b=it:=by simpa using c
  subst e;exact⟨_,a,λv z=>by have L:=z;cases L⟩
 keep:=λi h r a k=>k it (by simp) _ a
 item:=by intro X l hw y m i A s B H E I f a j;subst l hw y;obtain⟨u,g,J,q,x,p⟩:=f it (by simp);have W:=Walks.range (prog:=X.prog) (w:=X.w) (I.ok.hd m) it lo 1 n;refine W.item i s _ _ j a λv r C F d N=>?_;obtain⟨t,rfl⟩:=F;have D:dF X A B H {s with heap:=r,toks:=C}:=I.turned (λb o c e=>N b o (by simpa using c) e) u g q x p;refine⟨_,rfl,zP d rfl rfl (by decide) ⟨.int (lo+i),H,D,⟨t,?_⟩,⟨rfl,rfl⟩,d,λb c=>(f b c).1⟩⟩;rw[Int.mul_one]
 done:=by intro X l hw y m i A s B H E I f a j;subst l hw y;obtain⟨u,g,J,q,x,p⟩:=f it (by simp);exact wpAny_pyNext_range_end (I.ok.hd m) a (by have:n<=i:=j;omega) λr Q=>⟨rfl,I.turned (λb o c e=>Q b o c e) u g q x p⟩
 self:=λ_ _ _ _ _ a h=>wpAny_pyIter_rangeiter a h
end L2
namespace L2
open PySem PySem.Spec PyProof.Rows
section
variable {X:Cx}{tg:Expr}
def vI(K:W.Frag)(c:TE):TI:=λe H R=>c e H λx b=>∃a,x=.ref a/\(∃d,ib K b a d)/\R (G1 K a) b
def Ek(K:W.Frag)(c:TE):TI:=λe H R=>c e H λx b=>∃a,x=.ref a/\(∃d,jd K b a d)/\R (HI K a) b
def vQ(d:PE X l tl):PI X tg l (vI X.K tl):=by
 intro c s j H R I h;refine fL (d c s j H _ I h) λv s1 ⟨x,H1,I1,r1,q1⟩=>?_;obtain⟨a,e,⟨m,f⟩,q⟩:=q1;subst e;cases r1;obtain⟨i,k,p,n⟩:=I1.list f;refine wpAny_pyIter_list p.isList ?_;refine⟨s1.heap.objs.size,[s1.heap.objs.size],_,_,H1,rfl,I1.kept λb o e=>ae _ e,wM a _,⟨_,au _ rfl,rfl,rfl⟩,λb g=>?_,q⟩;have e:b=s1.heap.objs.size:=by simpa using g
 subst e;exact I1.fpOk (aK _) (I1.hok.fresh (aK _))
def Dp(d:PE X l tl):PI X tg l (Ek X.K tl):=by
 intro c s j H R I h;refine fL (d c s j H _ I h) λv s1 ⟨x,H1,I1,r1,q1⟩=>?_;obtain⟨a,e,⟨m,f⟩,q⟩:=q1;subst e;cases r1;obtain⟨i,k,p,n⟩:=I1.tuple f;refine wpAny_pyIter_tuple (p) ?_;refine⟨s1.heap.objs.size,[s1.heap.objs.size],_,_,H1,rfl,I1.kept λb o e=>ae _ e,t5 a _,⟨_,au _ rfl,rfl,rfl⟩,λb g=>?_,q⟩;have e:b=s1.heap.objs.size:=by simpa using g
 subst e;exact I1.fpOk (aK _) (I1.hok.fresh (aK _))
def xS{a c:Int}(I:dF X dh σ H s)(l:-(2 ^ 62)<=a)(j:a<2 ^ 62)(f:-(2 ^ 62)<=c)(h:c<2 ^ 62)
  (q:R (Fs a (c-a).toNat) H):wpAny (model X.prog X.w) X.A (pyIter (.ref s.heap.objs.size)) (HR X dh σ tg R) E {s with heap:=s.heap.push {cls:=.type "range",data:=.fields #[.int a t,.int c u,.int 1 v]},toks:=tk}:=by
 refine wpAny_pyIter_range (IsRange.new ..) (small_one l j f h) ?_;have d:dF X dh σ H {s with heap:=s.heap.push {cls:=.type "range",data:=.fields #[.int a t,.int c u,.int 1 v]},toks:=tk}:=I.kept λb o e=>ae _ e;refine⟨(s.heap.push {cls:=.type "range",data:=.fields #[.int a t,.int c u,.int 1 v]}).objs.size,[(s.heap.push {cls:=.type "range",data:=.fields #[.int a t,.int c u,.int 1 v]}).objs.size],_,_,H,rfl,
  d.kept λb o e=>ae _ e,t8 _ a (c-a).toNat,?_,λb g=>?_,q⟩
 .have i:a+((0:Nat):Int)*1=a:=by simp
  have k:(((c-a).toNat:Nat):Int)-((0:Nat):Int)=Builtin.Range.rangeSize a c 1:=by rw[rangeSize_one];split<;>omega
  rw[i,k];exact au _ rfl
 .have e:b=(s.heap.push {cls:=.type "range",data:=.fields #[.int a t,.int c u,.int 1 v]}).objs.size:=by simpa using g
  subst e;exact d.fpOk (aK _) (d.hok.fresh (aK _))
def zS(a:TA):TI:=λd H R=>a d H λb c=>∃j:Int,b=[.int j]/\-(2 ^ 62)<=j/\j<2 ^ 62/\R (Fs 0 j.toNat) c
def wC(f:Gl X "range")(l:X.mg "range" = none)(i:PA X [a] ta)(g:starEach [a] X.env=[(false,eval a X.env)]:=by rfl):PI X tg (.Call (.Name "range" p) [a] [] pos) (zS ta):=by
 intro k s d H R I h;refine Call_ (jz I f l boot_range (PyProof.Rows.callWith_type1 (fL (i pos k s d H _ I h) λus s1 ⟨vs,H1,I1,r1,b⟩=>?_) g rfl));obtain⟨j,e,b,c,q⟩:=b;subst e;cases r1 with
 |cons r rr=>cases rr;obtain⟨t,rfl⟩:=r;exact call_range_1 (xS I1 (by omega) (by omega) b c (by simpa using q))
def t6(j:TI)(g:TG)(h:TS):TS:=λD a H=>j a H λJ f=>∃W:Nat->Nat->St->Hp->Prop,(∃m,W 0 m a f)/\∀i m a H,W i m a H->
 (J.stop i H/\D.nx a H)\/(J.go i H/\∃N:St->Hp->Prop,(∀c b,N c b->∃e,e<m/\W (i+1) e c b)/\∀x b,J.yld i H x b->g x a b λd k=>h {D with nx:=N,ct:=N,bk:=D.nx} d k)
noncomputable def ny(a:List Addr)(h:Heap):List (Addr×Obj):=a.filterMap λb=>(h.get? b).map λo=>(b,o)
def jP(a:b∈fp)(e:h.get? b=some o):(b,o)∈ny fp h:=bt.mpr ⟨b,a,by rw[e];rfl⟩
def wG(d:p∈ny fp h):p.1∈fp/\h.get? p.1=some p.2:=by
 obtain⟨b,c,e⟩:=bt.mp d;cases q:h.get? b with
 |none=>rw[q]at e;cases e
 |some o=>rw[q]at e;have a:=Option.some.inj e;subst a;exact⟨c,q⟩
def dF.pinned(I:dF X dh σ H s)(j:∀b∈fp,m3 X dh H b)(i:∀b∈fp,∃o,s.heap.get? b=some o/\∀v,o.data≠.cell v):dF X (dh++ny fp s.heap) σ H s:=I.pins_of λp g=>(ai.mp g).elim (λz=>I.pin p (bu _ z)) λz=>by obtain⟨c,e⟩:=wG z;obtain⟨f,h,k,_⟩:=j p.1 c;obtain⟨o,a,d⟩:=i p.1 c;rw[e]at a;cases a;exact⟨e,f,h,k,d⟩
def dF.unpinned(I:dF X (dh++pl) σ H s):dF X dh σ H s:=I.pins_of λp a=>I.pin p (bu _ (ay _ a))
theorem tT(Q:PassesOwn (model X.prog X.w) X.A X.env X.xe)(hc:X.calm=true)(hi:PI X tg iter wi)(hg:PG X tg g)(l:mW X body tb)
  (hs:∀x,foldedSetIterable iter X.env x=pure x:=by intro _;rfl):PS X (.For tg iter body [] pos) (t6 wi g tb):=by
 intro B s σ H D I h;refine wpAny_For (fL (hi B s σ H _ I h) λv s1 h1=>fL h1 λitv s2 h2=>?_) hs;obtain⟨it,E,Z,J,H2,e,I2,T,S,f2,W,⟨m0,w0⟩,K⟩:=h2;subst e;have k:∀{y:Hp},(∀b∈E,y b=none)->∀b∈E,m3 X B y b:=λhn b l=>⟨hn b l,(f2 b l).2⟩;refine codeAny_forLoop_any (λn s'=>∃i c y,dF X B c y s'/\Z i s'.heap/\(∀b∈E,y b=none)/\W i n c y) ?_ m0 ⟨0,σ,H2,I2,S,λb l=>(f2 b l).1,w0⟩;rintro n s3 ⟨i,q,R,I3,F,P,w3⟩;rcases K i n q R w3 with⟨L,qn⟩|⟨go,N,hN,step⟩
 .refine wpAny_passesOwn Q (fL (T.done X rfl rfl rfl hc i B s3 q R X.xe I3 (k P) F L) λr s4 ⟨hr,I4⟩=>?_);subst hr;exact wpAny_execs_nil ⟨q,R,I4,qn⟩
 .refine wpAny_passesOwn Q (fL (T.item X rfl rfl rfl hc i B s3 q R X.xe I3 (k P) F go) λr s4 ⟨u,hr,h4⟩=>?_);subst hr;refine wpAny_passesOwn Q (fL h4 λ_ s5 ⟨x,H5,I5,r5,y5,st5,fr5⟩=>?_);have U:=I5.pinned (k fr5) (T.obj _ _ st5);refine wpAny_passesOwn Q (fL (hg _ s5 q H5 x u _ U r5 (step x H5 y5)) λ_ s6 ⟨σ6,H6,I6,q6⟩=>?_);refine wpAny_passesOwn Q (fL (l _ s6 σ6 H6 _ I6 q6) λf Y z=>?_);have p:∀{a:St} {j:Hp},dF X (B++ny E s5.heap) a j Y->N a j->∃m,m<n/\∃i c y,dF X B c y Y/\Z i Y.heap/\(∀b∈E,y b=none)/\W i m c y:=λ{a j} t C=>by obtain⟨m',hm,w7⟩:=hN a j C;refine⟨m',hm,i+1,a,j,t.unpinned,T.keep _ _ _ st5 λb l o e=>(t.pin (b,o) (bu _ (bu _ (jP l e)))).1,λb l=>?_,w7⟩;obtain⟨o,e,d⟩:=T.obj _ _ st5 b l;exact (t.pin (b,o) (bu _ (bu _ (jP l e)))).2.1
  cases f with
  |next=>obtain⟨a,j,t,C⟩:=z;exact p t C
  |cont=>obtain⟨a,j,t,C⟩:=z;exact p t C
  |brk=>obtain⟨a,j,t,z⟩:=z;exact⟨a,j,t.unpinned,z⟩
  |ret v=>obtain⟨x7,a,j,t,r7,z⟩:=z;exact⟨x7,a,j,t.unpinned,r7,z⟩
end
end L2
namespace L2
open PySem PySem.Spec PyProof.Rows
abbrev R2:=V->V->Hp->VK->Prop
def kS(X:Cx)(f:Vq->Value->Sem Value)(r:R2):Prop:=
 ∀(b:List (Addr×Obj)) (s:Sq) (a:St) (H:Hp) (x y:V) (v u:Vq) (Q:VK),dF X b a H s->eO x v->eO y u->r x y H Q->
  wpAny (model X.prog X.w) X.A (f v u) (EP X b a Q) X.xe s
def Hx(X:Cx)(f:Vq->Sem Value)(r:V->Hp->VK->Prop):Prop:=
 ∀(b:List (Addr×Obj)) (s:Sq) (a:St) (H:Hp) (x:V) (v:Vq) (Q:VK),dF X b a H s->eO x v->r x H Q->
  wpAny (model X.prog X.w) X.A (f v) (EP X b a Q) X.xe s
def gW(X:Cx)(f:Vq)(r:List V->Hp->VK->Prop):Prop:=
 ∀(d:List (Addr×Obj)) (s:Sq) (c:St) (H:Hp) (b:List V) (a:List Vq) (Q:VK),dF X d c H s->dZ b a->r b H Q->
  wpAny (model X.prog X.w) X.A (call f a) (EP X d c Q) X.xe s
def mY(r:R2)(c b:TE):TE:=λa H Q=>c a H λx d=>b a d λy e=>r x y e Q
def HH(r:V->Hp->VK->Prop)(a:TE):TE:=λc H Q=>a c H λx b=>r x b Q
def rI(C:Int->Int->Prop)(g:Int->Int->V):R2:=λx y H Q=>∃i j,x=.int i/\y=.int j/\C i j/\Q (g i j) H
def ub(g:Int->Int->V):R2:=λx y H Q=>∃i j,x=.int i/\y=.int j/\Q (g i j) H
def rU(g:Int->V):V->Hp->VK->Prop:=λx H Q=>∃i,x=.int i/\Q (g i) H
section
variable {X:Cx}{a b c:Expr}{ta tb tc:TE}{pos:Pos}
def DO(m:PE X a ta)(k:PE X b tb){R:V->V->Hp->Prop}(I:dF X dh σ H s)
  (h:ta σ H λx j=>tb σ j λy d=>R x y d) {f:Vq->Value->Sem Value}
  (l:∀v u i x y d,dF X dh σ d i->eO x v->eO y u->R x y d->wpAny (model X.prog X.w) X.A (f v u) Q X.xe i) :
  wpAny (model X.prog X.w) X.A (eval a X.env) (λv e=>wpAny (model X.prog X.w) X.A (eval b X.env) (λu g=>wpAny (model X.prog X.w) X.A (f v u) Q X.xe g) X.xe e) X.xe s:=by
 refine fL (m dh s σ H _ I h) λv s1 ⟨x,j,I1,r1,q1⟩=>?_;refine fL (k dh s1 σ j _ I1 q1) λu i ⟨y,d,I2,r2,q2⟩=>?_;exact l v u i x y d I2 r1 r2 q2
def sG(j:kS X (binaryOp op) r)(l:PE X a ta)(i:PE X b tb):PE X (.BinOp a op b pos) (mY r ta tb):=by intro e s n H Q I h;exact wpAny_BinOp (DO l i I h λv u d x y m k f g q=>j e d n m x y v u Q k f g q)
def GO(f:Hx X (unaryOp op) r)(g:PE X a ta):PE X (.UnaryOp op a pos) (HH r ta):=by intro e s d H Q I h;exact UnaryOp_ (fL (g e s d H _ I h) λv s1 ⟨x,H1,I1,r1,q1⟩=>f e s1 d H1 x v Q I1 r1 q1)
def G7{g:Int->Int->Int}
  (d:∀i j t u s Q E,C i j->Q (.int (g i j) s.toks) {s with toks:=s.toks+1}->wpAny (model X.prog X.w) X.A (f (.int i t) (.int j u)) Q E s) :
  kS X f (rI C λi j=>.int (g i j)):=by
 intro n s o H x y v u Q I l m h;obtain⟨i,j,rfl,rfl,k,q⟩:=h;obtain⟨t,rfl⟩:=l;obtain⟨e,rfl⟩:=m;exact d i j t e s _ _ k ⟨.int (g i j),H,I.tok _,⟨_,rfl⟩,q⟩
def Gi{g:Int->Int->Int}
  (d:∀i j t u s Q E,Q (.int (g i j) s.toks) {s with toks:=s.toks+1}->wpAny (model X.prog X.w) X.A (f (.int i t) (.int j u)) Q E s) :
  kS X f (ub λi j=>.int (g i j)):=by
 intro m s n H x y v u Q I k l h;obtain⟨i,j,rfl,rfl,q⟩:=h;obtain⟨t,rfl⟩:=k;obtain⟨e,rfl⟩:=l;exact d i j t e s _ _ ⟨.int (g i j),H,I.tok _,⟨_,rfl⟩,q⟩
def B2{g:Int->Int->Bool}
  (d:∀(i j:Int) (t u:Tok) (s:Sq) (Q:Vq->Shared->Prop) (E:Vq->Shared->Prop),Q (.bool (g i j)) s->wpAny (model X.prog X.w) X.A (f (.int i t) (.int j u)) Q E s) :
  kS X f (ub λi j=>.bl (g i j)):=by
 intro m s n H x y v u Q I k l h;obtain⟨i,j,rfl,rfl,q⟩:=h;obtain⟨t,rfl⟩:=k;obtain⟨e,rfl⟩:=l;exact d i j t e s _ _ ⟨.bl (g i j),H,I,rfl,q⟩
def Gc(i j:Int):Prop:=0<=j/\j<=1000000/\i.natAbs<2 ^ 64
def DB:kS X (binaryOp .Add) (ub λi j=>.int (i+j)):=Gi λ_ _ _ _ _ _ _ q=>add_int q
def C9:kS X (binaryOp .Sub) (ub λi j=>.int (i-j)):=Gi λ_ _ _ _ _ _ _ q=>sub_int q
def Bi:kS X (binaryOp .Mod) (rI (λ_ j=>j≠0) λi j=>.int (i.fmod j)):=G7 λ_ _ _ _ _ _ _ d q=>mod_int' d q
def Dm:kS X (binaryOp .Pow) (rI Gc λi j=>.int (i ^ j.toNat)):=G7 λ_ _ _ _ _ _ _ d q=>pow_int_small d.1 d.2.1 d.2.2 q
def Ii{g:Int->Int}
  (d:∀i t s Q E,Q (.int (g i) s.toks) {s with toks:=s.toks+1}->wpAny (model X.prog X.w) X.A (f (.int i t)) Q E s) :
  Hx X f (rU λi=>.int (g i)):=by
 intro k s j H x v Q I e h;obtain⟨i,rfl,q⟩:=h;obtain⟨t,rfl⟩:=e;exact d i t s _ _ ⟨.int (g i),H,I.tok _,⟨_,rfl⟩,q⟩
def Dg:Hx X (unaryOp .USub) (rU λi=>.int (-i)):=Ii λ_ _ _ _ _ q=>neg_int q
end
def Fp:V->V->Bool
 |.non,.non=>true|.non,.int _=>true|.int _,.non=>true|.non,.bl _=>true|.bl _,.non=>true|.non,.str _=>true|.str _,.non=>true
 |.int _,.int _=>true|.bl _,.bl _=>true|.str _,.str _=>true|.byt _,.byt _=>true
 |.int _,.str _=>true|.str _,.int _=>true|.bl _,.str _=>true|.str _,.bl _=>true
 |_,_=>false
def HW:R2:=λx y H Q=>Fp x y=true/\Q (.bl (decide (x=y))) H
def HN:R2:=λx y H Q=>Fp x y=true/\Q (.bl (!decide (x=y))) H
def v8:decide (V.int i=V.int j)=(i==j):=by rw[bx];simp
def ym:decide (V.bl i=V.bl j)=(i==j):=by rw[bx];simp
def vU:decide (V.str i=V.str j)=(i==j):=by rw[bx];simp
def vv:decide (V.byt i=V.byt j)=(i.toList==j.toList):=by rw[bx];cases i;cases j;simp
section
variable {X:Cx}{a b c:Expr}{ta tb tc:TE}{pos:Pos}
def eh(I:dF X dh σ H s)(q:Q (.bl k) H)(e:k=k'):EP X dh σ Q (.bool k') s:=by subst e;exact⟨.bl k,H,I,rfl,q⟩
def GI:kS X (compareOp .Eq) HW:=by
 intro l s k H x y v u Q I g d h;obtain⟨f,q⟩:=h;cases x with
 |non=>
  cases g;cases y with
  |non=>cases d;exact PySem.EqNone.eq_none_none (eh I q (by simp))
  |bl j=>cases d;exact PySem.EqNone.eq_none_bool (eh I q (by simp))
  |int j=>obtain⟨e,rfl⟩:=d;exact PySem.EqNone.eq_none_int (eh I q (by simp))
  |str j=>obtain⟨e,rfl⟩:=d;exact PySem.EqNone.eq_none_str (eh I q (by simp))
  |_=>exact absurd (f) aH
 |bl i=>
  cases g;cases y with
  |non=>cases d;exact PySem.EqNone.eq_bool_none (eh I q (by simp))
  |bl j=>cases d;exact eq_bool (eh I q ym)
  |str j=>obtain⟨e,rfl⟩:=d;exact PySem.EqMixed.eq_bool_str (eh I q (by simp))
  |_=>exact absurd (f) aH
 |int i=>
  obtain⟨t,rfl⟩:=g;cases y with
  |non=>cases d;exact PySem.EqNone.eq_int_none (eh I q (by simp))
  |int j=>obtain⟨e,rfl⟩:=d;exact eq_int (eh I q v8)
  |str j=>obtain⟨e,rfl⟩:=d;exact PySem.EqMixed.eq_int_str (eh I q (by simp))
  |_=>exact absurd (f) aH
 |str i=>
  obtain⟨t,rfl⟩:=g;cases y with
  |non=>cases d;exact PySem.EqNone.eq_str_none (eh I q (by simp))
  |bl j=>cases d;exact PySem.EqMixed.eq_str_bool (eh I q (by simp))
  |int j=>obtain⟨e,rfl⟩:=d;exact PySem.EqMixed.eq_str_int (eh I q (by simp))
  |str j=>obtain⟨e,rfl⟩:=d;exact eq_str (eh I q vU)
  |_=>exact absurd (f) aH
 |byt i=>
  obtain⟨t,rfl⟩:=g;cases y with
  |byt j=>obtain⟨e,rfl⟩:=d;exact W.eq_bytes (eh I q vv)
  |_=>exact absurd (f) aH
 |_=>cases y<;>exact absurd (f) aH
def Gf:kS X (compareOp .NotEq) HN:=by
 intro l s k H x y v u Q I g d h;obtain⟨f,q⟩:=h;cases x with
 |non=>
  cases g;cases y with
  |non=>cases d;exact PySem.EqNone.ne_none_none (eh I q (by simp))
  |bl j=>cases d;exact PySem.EqNone.ne_none_bool (eh I q (by simp))
  |int j=>obtain⟨e,rfl⟩:=d;exact PySem.EqNone.ne_none_int (eh I q (by simp))
  |str j=>obtain⟨e,rfl⟩:=d;exact PySem.EqNone.ne_none_str (eh I q (by simp))
  |_=>exact absurd (f) aH
 |bl i=>
  cases g;cases y with
  |non=>cases d;exact PySem.EqNone.ne_bool_none (eh I q (by simp))
  |bl j=>cases d;exact ne_bool (eh I q (congrArg not ym))
  |str j=>obtain⟨e,rfl⟩:=d;exact PySem.EqMixed.ne_bool_str (eh I q (by simp))
  |_=>exact absurd (f) aH
 |int i=>
  obtain⟨t,rfl⟩:=g;cases y with
  |non=>cases d;exact PySem.EqNone.ne_int_none (eh I q (by simp))
  |int j=>obtain⟨e,rfl⟩:=d;exact ne_int (eh I q (congrArg not v8))
  |str j=>obtain⟨e,rfl⟩:=d;exact PySem.EqMixed.ne_int_str (eh I q (by simp))
  |_=>exact absurd (f) aH
 |str i=>
  obtain⟨t,rfl⟩:=g;cases y with
  |non=>cases d;exact PySem.EqNone.ne_str_none (eh I q (by simp))
  |bl j=>cases d;exact PySem.EqMixed.ne_str_bool (eh I q (by simp))
  |int j=>obtain⟨e,rfl⟩:=d;exact PySem.EqMixed.ne_str_int (eh I q (by simp))
  |str j=>obtain⟨e,rfl⟩:=d;exact ne_str (eh I q (congrArg not vU))
  |_=>exact absurd (f) aH
 |byt i=>
  obtain⟨t,rfl⟩:=g;cases y with
  |byt j=>obtain⟨e,rfl⟩:=d;exact W.ne_bytes (eh I q (congrArg not vv))
  |_=>exact absurd (f) aH
 |_=>cases y<;>exact absurd (f) aH
def vY:kS X (compareOp .Lt) (ub λi j=>.bl (decide (i<j))):=B2 λ_ _ _ _ _ _ _ q=>lt_int q
def v7:kS X (compareOp .LtE) (ub λi j=>.bl (decide (i<=j))):=B2 λ_ _ _ _ _ _ _ q=>le_int q
def Am:kS X (compareOp .Gt) (ub λi j=>.bl (decide (j<i))):=B2 λ_ _ _ _ _ _ _ q=>gt_int q
def zx:kS X (compareOp .GtE) (ub λi j=>.bl (decide (j<=i))):=B2 λ_ _ _ _ _ _ _ q=>ge_int q
def wc:kS X (compareOp .IsNot) (λx y H Q=>y=.non/\Q (.bl (!decide (x=.non))) H):=by
 intro g s f H x y v u Q I d e h;obtain⟨rfl,q⟩:=h;cases e;refine isnot_none_gen (eh I q ?_);cases x<;>first
  | (cases d;rfl)
  | (obtain⟨t,rfl⟩:=d;rfl)
def j7 b (h:op≠.In:=by decide) (d:op≠.NotIn:=by decide):behindInMarks op b=false:=by
 have f:(op==CmpOp.In)=false:=by cases op<;>first|rfl|exact absurd rfl h
 have e:(op==CmpOp.NotIn)=false:=by cases op<;>first|rfl|exact absurd rfl d
 cases b<;>simp[behindInMarks,f,e]
def B1(k:kS X (compareOp op) r)(m:PE X a ta)(j:PE X b tb)(f:behindInMarks op b=false):PE X (.Compare a [op] [b] pos) (mY r ta tb):=by intro e s o H Q I h;exact wpAny_Compare1 (DO m j I h λv u d x y n l g i q=>k e d o n x y v u Q l g i q) f
def oK(t:TE):TT:=λd H Q=>t d H λx e=>∃k,x=.bl k/\Q k e
def rF(i:kS X (compareOp op) r)(j:PE X a ta)(g:PE X b tb)(l:behindInMarks op b=false):PT X (.Compare a [op] [b] pos) (oK (mY r ta tb)):=by
 intro f s d H Q I h;refine wpAny_isTrue_Compare1 (fL (j f s d H _ I h) λv s1 ⟨x,H1,I1,r1,q1⟩=>fL (g f s1 d H1 _ I1 q1) λu s2 ⟨y,H2,I2,r2,q2⟩=>fL (i f s2 d H2 x y v u _ I2 r1 r2 q2) λc s3 ⟨z,H3,I3,r3,k,e,q3⟩=>?_) l
 subst e;cases r3;exact wpAny_truthy_bool ⟨H3,I3,q3⟩
def t9(r j:R2)(ta tb tc:TE):TE:=λd H Q=>ta d H λx f=>tb d f λy g=>r x y g λz e=>∃k,z=.bl k/\
 (if k=true then tc d e λh i=>j y h i Q else Q (.bl false) e)
theorem yX(l:kS X (compareOp op) r)(i:kS X (compareOp op') r')(n:PE X a ta)(j:PE X b tb)(m:PE X c tc)
  (o:lastMarks [op,op'] [b,c]=false:=by with_unfolding_all rfl):PE X (.Compare a [op,op'] [b,c] pos) (t9 r r' ta tb tc):=by
 intro g s f H Q I h;refine Compare_chain (fL (n g s f H _ I h) λv s1 ⟨x,H1,I1,r1,q1⟩=>chain_link (fL (j g s1 f H1 _ I1 q1) λu s2 ⟨y,H2,I2,r2,q2⟩=>fL (l g s2 f H2 x y v u _ I2 r1 r2 q2) λd s3 ⟨z,H3,I3,r3,k,e,q3⟩=>?_)) o
 subst e;cases r3;refine wpAny_truthy_bool ?_;cases k with
 |false=>exact ite_ff ⟨.bl false,H3,I3,rfl,q3⟩
 |true=>exact ite_tt (chain_last (fL (m g s3 f H3 _ I3 q3) λw' s4 ⟨z',H4,I4,r4,q4⟩=>i g s4 f H4 y z' u w' Q I4 r2 r4 q4))
def q8:(sizeLine:Nat)<2 ^ 63:=by rw[sizeLine_eq];decide
def uj:kS X (binaryOp .Add) (λx y H Q=>∃i j,x=.str i/\y=.str j/\i.length+j.length<=sizeLine/\Q (.str (i++j)) H):=by intro k s m H x y v u Q I e f h;obtain⟨i,j,rfl,rfl,g,q⟩:=h;obtain⟨t,rfl⟩:=e;obtain⟨d,rfl⟩:=f;exact add_str (λd l=>⟨.str (i++j),H,I.tok _,⟨_,rfl⟩,q⟩) g
def j1(r:dZ [x] us):∃u,us=[u]/\eO x u:=by
 cases r with
 |cons r1 r2=>cases r2;exact⟨_,rfl,r1⟩
def Gz(r:dZ [x,y] us):∃u d,us=[u,d]/\eO x u/\eO y d:=by
 cases r with
 |cons r1 r2=>
  cases r2 with
  |cons r3 r4=>cases r4;exact⟨_,_,rfl,r1,r3⟩
def nY:gW X (.builtin "abs") (λd H Q=>∃i,d=[.int i]/\Q (.int (if i<0 then -i else i)) H):=by intro j s g H d f Q I r h;obtain⟨i,rfl,q⟩:=h;obtain⟨u,rfl,t,rfl⟩:=j1 r;exact call_abs_int λu e=>⟨.int (if i<0 then -i else i),H,I.tok _,⟨_,rfl⟩,q⟩
def pM:gW X (.type "int") (λd H Q=>(∃i,d=[.int i]/\Q (.int i) H)\/∃k,d=[.bl k]/\Q (.int (if k then 1 else 0)) H):=by
 intro j s g H d f Q I r h;rcases h with⟨i,rfl,q⟩|⟨k,rfl,q⟩
 .obtain⟨u,rfl,t,rfl⟩:=j1 r;exact call_int_int ⟨.int i,H,I,⟨_,rfl⟩,q⟩
 .obtain⟨u,rfl,e⟩:=j1 r;cases e;exact call_int_bool ⟨.int (if k then 1 else 0),H,I.tok _,⟨_,rfl⟩,q⟩
def E3(K:W.Frag)(x:V)(H:Hp)(n:Nat):Prop:=
 match x with
 |.str y=>y.length<=sizeLine/\n=y.length
 |.byt y=>y.size<=sizeLine/\n=y.size
 |.ref p=>(∃d,ib K H p d/\n=d.length)\/∃d,jd K H p d/\n=d.length
 |_=>False
def AJ:gW X (.builtin "len") (λf H Q=>∃x n,f=[x]/\E3 X.K x H n/\Q (.int n) H):=by
 intro v s A H f z Q I r h;obtain⟨x,n,rfl,e,q⟩:=h;obtain⟨u,rfl,i⟩:=j1 r;have w:=sizeLine_eq;cases x with
 |str y=>obtain⟨t,rfl⟩:=i;obtain⟨hy,d⟩:y.length<=sizeLine/\n=y.length:=e;subst d;exact len_str (by omega) ⟨.int _,H,I.tok _,⟨_,rfl⟩,q⟩
 |byt y=>obtain⟨t,rfl⟩:=i;obtain⟨hy,d⟩:y.size<=sizeLine/\n=y.size:=e;subst d;exact W.len_bytes (by omega) ⟨.int _,H,I.tok _,⟨_,rfl⟩,q⟩
 |ref p=>
  cases i;have d:=e;rcases d with⟨f,g,d⟩|⟨f,g,d⟩
  .subst d;obtain⟨m,k,l,o⟩:=I.list g;have j:=k.length;exact Calls.call_len_list l.isList (by simp only[bz];omega) ⟨.int f.length,H,I.tok _,⟨_,by simp only[bz];rw[j]⟩,q⟩
  .subst d;obtain⟨m,k,l,o⟩:=I.tuple g;have j:=k.length;exact len_tuple l (by simp only[bz];omega) ⟨.int f.length,H,I.tok _,⟨_,by simp only[bz];rw[j]⟩,q⟩
 |_=>exact (e).elim
end
end L2
namespace L2
open PySem PySem.Spec PyProof.Rows
structure uA(h:Heap)(x dx C:Addr)(mA:Str->Option Value):Prop where
 obj:h.get? x=some (W.instObj C dx)
 ns:h.Ns1 dx mA
 ne:dx≠x
def wj{h:Heap}(n:h.Ns1 dx mA):∃f,h.get? dx=some f/\∀b,W.lookIn b f=some (mA b):=by
 obtain⟨o,d,p,m,i,g,_,j⟩:=n;refine⟨o,m,λb=>?_⟩;have e:=j b;unfold nsFind findBy at e;rw[<-Array.find?_toList]at e;unfold W.lookIn;rw[i];dsimp only;split
 .rename_i y q;rw[q]at e;exact congrArg some e
 .rename_i q;rw[q]at e;have a:d.toList.any (·.refKey)=false:=by rw[bA];intro y k;obtain⟨z,t,c⟩:=g y (Array.mem_toList_iff.mp k);simp[DictEntry.refKey,c]
  have l:¬d.toList.any (·.refKey)=true:=by rw[a];exact aH
  rw[aR l];exact congrArg some e
def uA.look(I:uA h x dx C mA):∃b,W.InstAt h x (W.instObj C dx) C (some b)/\∀a,W.lookIn a b=some (mA a):=
 let ⟨b,ho,hl⟩:=wj I.ns
 ⟨b,⟨I.obj,rfl,rfl,ho⟩,hl⟩
section
variable {prog:Program}{w:World}{A:Around}{E:Vq->Shared->Prop}{s:Sq}{K:W.Frag}{x dx C f:Addr}{mA:Str->Option Value}{name:Str}{v:Vq}
def BL(X:K.In s.heap)(I:uA s.heap x dx C mA)(e:W.plainGet K C name=true)(c:W.hasDictIn K C=true)
  (g:W.findIn K (.ref C) name=some none) (d:mA name=some v) (a:W.handedIn v=true) (h:Q v {s with toks:=s.toks+1}) :
  wpAny (model prog w) A (getAttr (.ref x) name expr) Q E s:=by
 obtain⟨i,J,b⟩:=I.look;exact W.get_value X J (W.plainGet_of e).1 (W.findObj_own c g rfl (by rw[b,d])) a h
def yW(X:K.In s.heap)(I:uA s.heap x dx C mA)(a:W.plainGet K C name=true)
  (g:W.findIn K (.ref C) name=some (some (.ref f))) (c:W.isFn K (.ref f)=true) (e:mA name=none) (h:Q (.ref f,[.ref x]) s) :
  wpAny (model prog w) A (getMethod (.ref x) name pl) Q E s:=by
 obtain⟨d,J,b⟩:=I.look;exact W.method_fn X J (W.plainGet_of a).1 (W.plainGet_of a).2 g (beq_iff_eq.mp c) (by show (W.lookIn name d).map (·.isSome)=some false;rw[b,e];rfl) h
def Ce(X:K.In s.heap)(I:uA s.heap x dx C mA)
  (p:W.findIn K (.ref C) "__setattr__" = some (some (.builtin "object.__setattr__"))) (r:W.plainOver K C=true) (q:W.takerIn K C name=some none) (t:W.hasDictIn K C=true)
  (hw:PySem.Within mA ns) (o:ns.length<=sizeLine)
  (h:∀d,uA d x dx C (λy=>if y=name then some v else mA y)->Heap.SameBut dx s.heap d->Q () {s with heap:=d,toks:=s.toks+2}) :
  wpAny (model prog w) A (setAttr (.ref x) name v) Q E s:=by
 obtain⟨D,J,z⟩:=I.look;refine W.set_plain X J p (W.osa_open X J r q λb=>?_);obtain⟨u,n,g⟩:=W.any_some t;have k:=I.obj;refine aq (ao (aq (aq (wpAny_loadPart k (aq (W.Looks.here (W.looks_clsIn X n) ?_))))));rw[g];refine ao (aq (ao (aq ?_)));refine wpAny_nsSet1 I.ns λd c a=>?_;obtain⟨B,l,m,i,j,e⟩:=c.count (PySem.Within.cons name v hw);refine aq (wpAny_lookBehind i (by rw[j];exact pastItsLine_dict (aN e (by rw[az];omega))) ?_);exact ao (h _ ⟨(a.2 _ (Ne.symm I.ne)).trans I.obj,c,I.ne⟩ a)
def yH(X:K.In s.heap)(e:W.makesIn K C=true)
  (c:W.findIn K (.ref C) "__init__" = some (some (.ref f))) (b:W.typeIn K (.ref f)=some (.type "function"))
  (h:codeAny (model prog w) (A.under (.builtin "type.__call__" ⟨.ref C::vs,kw⟩)) (.call (.ref f) ⟨.ref (s.heap.objs.size+1)::vs,kw⟩) (W.InitBack (s.heap.objs.size+1) R)
   {s with heap:=(s.heap.push W.emptyDict).push (W.instObj C s.heap.objs.size)}) :
  codeAny (model prog w) A (.call (.ref C) ⟨vs,kw⟩) R s:=by
 obtain⟨i,g,d,t,j⟩:=s;exact W.make_core (W.makes_of X e) (W.looks_findIn X c) (λa=>W.bind_fn X a b) (.inl rfl) h
end
def j5(f:Str)(v:V):List (Str×V)->List (Str×V)
 |[]=>[(f,v)]
 | (g,x)::r=>if g=f then (g,v)::r else (g,x)::j5 f v r
theorem mR f g v:∀fs:List (Str×V),(j5 f v fs).lookup g=if g=f then some v else fs.lookup g
 |[]=>by
  show List.lookup g [(f,v)]=_;by_cases h:g=f
  .have a:=beq_iff_eq.mpr h;simp only[List.lookup,a,aQ h]
  .have a:=beq_eq_false_iff_ne.mpr h;simp only[List.lookup,a,aR h]
 | (k,x)::r=>by
  have c:=mR f g v r;rw[show j5 f v ((k,x)::r)=(if k=f then (k,v)::r else (k,x)::j5 f v r) from rfl];by_cases b:k=f
  .rw[aQ b];by_cases h:g=k
   .have a:=beq_iff_eq.mpr h;simp only[List.lookup,a,aQ (h.trans b)]
   .have a:=beq_eq_false_iff_ne.mpr h;simp only[List.lookup,a,aR (λe:g=f=>h (e.trans b.symm))]
  .rw[aR b];by_cases h:g=k
   .have a:=beq_iff_eq.mpr h;simp only[List.lookup,a,aR (λe:g=f=>b (h.symm.trans e))]
   .have a:=beq_eq_false_iff_ne.mpr h;simp only[List.lookup,a];exact c
theorem mj f v:∀fs:List (Str×V),f∈(j5 f v fs).map (·.1)/\∀g,g∈fs.map (·.1)->g∈(j5 f v fs).map (·.1)
 |[]=>⟨by simp[j5],λg h=>by simp at h⟩
 | (k,x)::r=>by
  obtain⟨c,b⟩:=mj f v r;rw[show j5 f v ((k,x)::r)=(if k=f then (k,v)::r else (k,x)::j5 f v r) from rfl];by_cases a:k=f
  .rw[aQ a];subst a;exact⟨by simp,λg h=>by simpa using h⟩
  .rw[aR a];refine⟨?_,λg h=>?_⟩
   .rw[bB];exact bj _ c
   .rw[bB]at h ⊢;rcases aF.mp h with e|e
    .exact aF.mpr (.inl e)
    .exact bj _ (b g e)
theorem mK f v:∀fs:List (Str×V),(j5 f v fs).length<=fs.length+1
 |[]=>by simp[j5]
 | (k,x)::r=>by
  have b:=mK f v r;rw[show j5 f v ((k,x)::r)=(if k=f then (k,v)::r else (k,x)::j5 f v r) from rfl];by_cases a:k=f
  .rw[aQ a,az,az];omega
  .rw[aR a,az,az];omega
def qI.some_of(r:qI (some v) o):∃u,o=some u/\eO v u:=by
 cases o with
 |none=>exact (r).elim
 |some u=>exact⟨u,rfl,r⟩
def qI.none_of(r:qI none o):o=none:=by
 cases o with
 |none=>rfl
 |some u=>exact (r).elim
def xp(r:eO v u):W.handedIn u=true:=by
 cases v with
 |non=>cases (r);rfl
 |bl b=>cases (r);rfl
 |int i=>obtain⟨t,e⟩:=(r);cases e;rfl
 |str x=>obtain⟨t,e⟩:=(r);cases e;rfl
 |byt b=>obtain⟨t,e⟩:=(r);cases e;rfl
 |flt b=>obtain⟨t,e⟩:=(r);cases e;rfl
 |ref a=>cases (r);rfl
 |ty n=>cases (r);rfl
section
variable {P:Program}{w:World}{H H':Hp}{h h':Heap}{a C dx:Addr}{fs fs':List (Str×V)}
def nv(c:lF P w H h)(e:H a=some (.ins C dx fs)):∃b,uA h a dx C b/\(∀f,qI (fs.lookup f) (b f))/\PySem.Within b (fs.map (·.1))/\fs.length<=1000/\H dx=some (.own a):=by obtain⟨d,z,ne,g,b,n,r,q⟩:=(c a _ e);exact⟨b,⟨g,n,ne⟩,r,q,z,d⟩
end
structure pR(K:W.Frag)(C:Addr):Prop where
 pg:W.plainGet K C Str.empty=true
 hd:W.hasDictIn K C=true
 po:W.plainOver K C=true
 sa:W.findIn K (.ref C) "__setattr__" = some (some (.builtin "object.__setattr__"))
def pR.get{K:W.Frag}(c:pR K C) f:W.plainGet K C f=true:=c.pg
def gY(K:W.Frag)(C:Addr)(f:Str):Prop:=W.findIn K (.ref C) f=some none
def gY.taker{K:W.Frag}(n:gY K C f):W.takerIn K C f=some none:=by unfold W.takerIn;rw[show W.findIn K (.ref C) f=some none from n];rfl
structure Ck(K:W.Frag)(C:Addr)(m:Str)(f:Addr):Prop where
 at_:W.findIn K (.ref C) m=some (some (.ref f))
 fn:W.isFn K (.ref f)=true
 kp:W.keepIn K (.ref f)=true
section
variable {X:Cx}{dh:List (Addr×Obj)}{σ:St}{H:Hp}{s:Sq}{a C dx:Addr}{fs:List (Str×V)}{f:Str}{v:V}{A:Around}{E:Vq->Shared->Prop}
def uL(I:dF X dh σ H s)(e:H a=some (.ins C dx fs))(c:pR X.K C)(n:gY X.K C f)(l:fs.lookup f=some v)
  (h:∀u g,dF X dh σ H g->eO v u->Q u g):wpAny (model X.prog X.w) A (getAttr (.ref a) f b) Q E s:=by
 obtain⟨j,O,r,_,_,_⟩:=nv I.hok e;obtain⟨u,i,d⟩:=qI.some_of (by rw[<-l];exact r f);exact BL I.kIn O (c.get f) c.hd n i (xp d) (h u _ (I.tok _) d)
def tW(I:dF X dh σ H s)(e:H a=some (.ins C dx fs))(c:pR X.K C)(k:Ck X.K C m g)(l:fs.lookup m=none)
  (h:Q (.ref g,[.ref a]) s):wpAny (model X.prog X.w) A (getMethod (.ref a) m pl) Q E s:=by
 obtain⟨d,O,r,_,_,_⟩:=nv I.hok e;have b:=qI.none_of (by rw[<-l];exact r m);exact yW I.kIn O (c.get m) k.at_ k.fn b h
def uB(I:dF X dh σ H s)(e:H a=some (.ins C dx fs))(c:pR X.K C)(n:gY X.K C f)(J:fs.length<1000)(x:eO y u)
  (h:∀k,dF X dh σ (fw H a (.ins C dx (j5 f y fs))) k->Q () k):wpAny (model X.prog X.w) A (setAttr (.ref a) f u) Q E s:=by
 obtain⟨D,O,r,i,_,j⟩:=nv I.hok e;have F:(fs.map (·.1)).length<=sizeLine:=by rw[ax,sizeLine_eq];omega
 refine Ce I.kIn O c.sa c.po n.taker c.hd i F λt d l=>h _ ?_;have p:∃o,t.get? dx=some o:=let ⟨o,_,_,e',_⟩:=d.ns;⟨o,e'⟩;refine I.write (by rw[e];exact True.intro) (.inr j) (λb q B z=>(l.2 b B).trans z) p ?_;refine⟨by rw[dH O.ne];exact j,?_,O.ne,d.obj,_,d.ns,λg=>?_,λg m=>?_⟩
 .have:=mK f y fs;omega
 .rw[mR];by_cases q:g=f
  .rw[aQ q,aQ q];exact x
  .rw[aR q,aR q];exact r g
 .by_cases q:g=f
  .rw[q];exact (mj f y fs).1
  .refine (mj f y fs).2 g (i g λz=>m ?_);show (if g=f then some u else D g)=none;rw[aR q];exact z
def dF.made(I:dF X dh σ H s):dF X dh σ (fw (fw H s.heap.objs.size (.own (s.heap.objs.size+1))) (s.heap.objs.size+1) (.ins C s.heap.objs.size []))
  {s with heap:=(s.heap.push W.emptyDict).push (W.instObj C s.heap.objs.size)}:=by
 have c:(s.heap.push W.emptyDict).get? s.heap.objs.size=some W.emptyDict:=au s.heap rfl;have h:((s.heap.push W.emptyDict).push (W.instObj C s.heap.objs.size)).get? (s.heap.objs.size+1)=some (W.instObj C s.heap.objs.size):=by have:=au (s.heap.push W.emptyDict) (o:=W.instObj C s.heap.objs.size) rfl;rwa [Heap.size_push]at this
 have i:(s.heap.push W.emptyDict).Ns s.heap.objs.size (λ_=>none):=⟨W.emptyDict,#[],_,c,rfl,(λe j=>absurd j (by simp)),λ_=>rfl⟩;have d:=I.laid (o:=.own (s.heap.objs.size+1)) (t':=s.toks) (λb u q=>ae _ q) (aK _) ⟨_,c⟩;refine d.laid (λb u q=>ae _ q) (Nat.le_of_eq (Heap.size_push _ _)) ?_;have ne:s.heap.objs.size≠s.heap.objs.size+1:=aM (bC _);refine⟨by rw[dH ne,dA],bD _,ne,h,λ_=>none,(Heap.Ns1.of_empty i).at λo q=>ae _ q,λ_=>True.intro,λy g=>absurd rfl g⟩
def BQ(c:attributeBase e f env (eval e env)=eval e env)
  (h:wpAny (model prog w) A (eval e env) (λo b=>wpAny (model prog w) A (getAttr o f true) Q E b) E s):wpAny (model prog w) A (eval (.Attribute e f pos) env) Q E s:=
 Attribute_any_ h (by rw[arm_eval_Attribute,c])
end
def Ef(K:W.Frag)(d:TE)(f:Str):TE:=λe H Q=>d e H λx b=>∃a C c fs v,x=.ref a/\b a=some (.ins C c fs)/\pR K C/\gY K C f/\fs.lookup f=some v/\Q v b
def DA(K:W.Frag)(e h:TE)(f:Str):TS:=λD b H=>h b H λy g=>e b g λx d=>∃a C c fs,x=.ref a/\d a=some (.ins C c fs)/\pR K C/\gY K C f/\fs.length<1000/\
 D.nx b (fw d a (.ins C c (j5 f y fs)))
section
variable {X:Cx}{o e value:Expr}{f:Str}{pos pos' tpos:Pos}{ta tv:TE}
def DW(k:PE X e ta)(d:attributeBase e f X.env (eval e X.env)=eval e X.env):PE X (.Attribute e f pos) (Ef X.K ta f):=by intro j s g H Q I h;refine BQ d (fL (k j s g H _ I h) λu s1 ⟨x,H1,I1,rx,a,C,dx,fs,v,ex,ea,c,n,l,q⟩=>?_);subst ex;obtain rfl:u=Value.ref a:=rx;exact uL I1 ea c n l λm p i b=>⟨v,H1,i,b,q⟩
def zJ(k:PE X o ta)(i:PE X value tv)(j:swapsWith value (some (.Attribute o f pos')) pos.line X.env=pure false):PS X (.Assign [.Attribute o f pos'] value pos) (DA X.K ta tv f):=by intro d s b H D I h;refine plainObj_wpAny_Assign_Attribute (fL (i d s b H _ I h) λu s1 ⟨y,H1,I1,ry,q⟩=>fL (k d s1 b H1 _ I1 q) λov s2 ⟨x,H2,I2,rx,a,C,dx,fs,ex,ea,c,n,l,q2⟩=>?_) j;subst ex;obtain rfl:ov=Value.ref a:=rx;exact uB I2 ea c n l ry λm g=>⟨b,_,g,q2⟩
end
section
variable {X:Cx}{dh:List (Addr×Obj)}{σ:St}{H:Hp}{s:Sq}{A:Around}{E:Vq->Shared->Prop}{Q:Vq->Shared->Prop}{c:Vq}{b:Bool}
inductive kf(K:W.Frag)(H:Hp):V->Value->Prop where
 |non:kf K H .non (.type "NoneType")
 |bl (x:Bool):kf K H (.bl x) (.type "bool")
 |int (i:Int):kf K H (.int i) (.type "int")
 |str (x:Str):kf K H (.str x) (.type "str")
 |flt (x:UInt64):kf K H (.flt x) (.type "float")
 |lst {a:Addr} {xs:List V} (e:H a=some (.lst xs)):kf K H (.ref a) (.type "list")
 |frz {a:Addr} {o:Obj} {xs:List V} (e:H a=some (.frz o (.lst xs))):kf K H (.ref a) (.type "list")
 |tup {a:Addr} {xs:List V} (e:H a=some (.tup xs)):kf K H (.ref a) (.type "tuple")
 |dK {a:Addr} {kvs:List (mX×V)} (e:H a=some (.dK kvs)):kf K H (.ref a) (.type "dict")
 |dT {a:Addr} {kvs:List (List mX×V)} (e:H a=some (.dT kvs)):kf K H (.ref a) (.type "dict")
 |ins {a C dx:Addr} {fs:List (Str×V)} (e:H a=some (.ins C dx fs)) (cl:pR K C) (ha:W.findIn K (.ref C) "__class__" = some (some (.builtin "object.__class__")))
   (hn:W.specialIn K (.builtin "object.__class__") "__get__" = some (some (.builtin "getset_descriptor.__get__"))) (htk:W.takesIn K (.builtin "object.__class__")=some true)
   (hm:W.mroIn K C (.type "object")=some true):kf K H (.ref a) (.ref C)
def wR(I:dF X dh σ H s)(d:eO x u)(l:kf X.K H x t)(e:W.kitOne X.K t c=some b)(h:∀m,Q (.bool b) {s with toks:=m}) :
  wpAny (model X.prog X.w) A (call (.builtin "isinstance") [u,c]) Q E s:=by
 cases l with
 |non=>cases (d);exact W.kia_one W.kitx_none I.kIn True.intro e (λz=>nomatch z) h
 |bl y=>cases (d);exact W.kia_one W.kitx_bool I.kIn True.intro e (λz=>nomatch z) h
 |int i=>obtain⟨t,q⟩:=(d);cases q;exact W.kia_one W.kitx_int I.kIn True.intro e (λz=>nomatch z) h
 |str y=>obtain⟨t,q⟩:=(d);cases q;exact W.kia_one W.kitx_str I.kIn True.intro e (λz=>nomatch z) h
 |flt y=>obtain⟨t,q⟩:=(d);cases q;exact W.kia_one W.kitx_float I.kIn True.intro e (λz=>nomatch z) h
 |@lst a j ea=>cases (d);obtain⟨_,_,n,_,f⟩:=(I.hok a _ ea);exact W.kia_one W.kitx_list I.kIn ⟨_,f,rfl⟩ e (λz=>nomatch z) h
 |@frz a ob j ea=>cases (d);obtain⟨_,_,_,n,_,f⟩:=(I.hok a _ ea);exact W.kia_one W.kitx_list I.kIn ⟨_,f,rfl⟩ e (λz=>nomatch z) h
 |@tup a j ea=>cases (d);obtain⟨_,_,_,p⟩:=(I.hok a _ ea);obtain⟨o,f,g,_⟩:=p;exact W.kia_one W.kitx_tuple I.kIn ⟨o,f,g⟩ e (λz=>nomatch z) h
 |@dK a kvs ea=>cases (d);obtain⟨_,_,B,_,p⟩:=(I.hok a _ ea);obtain⟨o,k,r,f,g,_⟩:=p;exact W.kia_one W.kitx_dict I.kIn ⟨o,f,g.1⟩ e (λz=>nomatch z) h
 |@dT a kvs ea=>cases (d);obtain⟨_,_,j,_,o,k,r,f,g,_⟩:=(I.hok a _ ea);exact W.kia_one W.kitx_dict I.kIn ⟨o,f,g.1⟩ e (λz=>nomatch z) h
 |@ins a C dx fs ea cl ha hn htk hm=>cases (d);obtain⟨v,O,_⟩:=nv I.hok ea;obtain⟨D,J,_⟩:=O.look;exact W.kia_one (W.kitx_own (cl.get _) cl.hd ha hn htk hm) I.kIn J e (λz=>nomatch z) h
end
end L2
namespace L2
open PySem PySem.Spec PyProof.Rows
structure eD(k:Nat)(A:Around):Prop where
 hd:A.handled=none
 dp:A.depth+3*k+5<recursionLimit
 un:A.units+16*k+200<cLine
def eD.mono(r:eD k A)(h:j<=k):eD j A:=⟨r.hd,by have:=r.dp;omega,by have:=r.un;omega⟩
def eD.deeper(r:eD (k+1) A) env:eD k (A.deeper env):=⟨r.hd,by have:=r.dp;show A.depth+1+3*k+5<_;omega,by have:=r.un;show A.units+3+16*k+200<_;omega⟩
def tK{A:Around}:(A.under (.builtin "type.__call__" ⟨.ref C::us,kw⟩)).depth=A.depth+1:=by first|rfl|simp[Around.under,Code.weight,Code.isCreation,Code.isGuard,Code.isCaller,Code.frames,Code.isFrame,guardIds]
def t7{A:Around}:(A.under (.builtin "type.__call__" ⟨.ref C::us,kw⟩)).units=A.units+1:=by first|rfl|simp[Around.under,Code.cUnits,Code.frames,Code.isFrame]
def eD.make(r:eD (k+1) A) C us kw:eD k (A.under (.builtin "type.__call__" ⟨.ref C::us,kw⟩)):=⟨r.hd,by have:=r.dp;rw[tK];omega,by have:=r.un;rw[t7];omega⟩
def eD.depth(r:eD k A):A.depth<recursionLimit:=by have:=r.dp;omega
def jW:TA:=λ_ H Q=>Q [] H
def gO(b:TE)(e:TA):TA:=λa H Q=>b a H λx c=>e a c λf d=>Q (x::f) d
section
variable {X:Cx}{e:Expr}{es:List Expr}{te:TE}{t:TA}{pos:Pos}
def eF:PA X [] jW:=λ_ _ _ _ H Q I h=>Calls.spliced_nil ⟨[],H,I,.nil,h⟩
def dz(d:PE X e te)(hr:PA X es t)(c:starEach (e::es) X.env=(false,eval e X.env)::starEach es X.env:=by rfl):PA X (e::es) (gO te t):=by intro pos a s b H Q I h;rw[c];refine Calls.spliced_cons (fL (d a s b H _ I h) λu s1 ⟨x,H1,I1,r1,q1⟩=>?_);exact fL (hr pos a s1 b H1 _ I1 q1) λus s2 ⟨xs,H2,I2,r2,q2⟩=>⟨x::xs,H2,I2,.cons r1 r2,q2⟩
def Et(t:TA):TE:=λc H Q=>t c H λb a=>b.length<=sizeLine/\∀p,a p=none->Q (.ref p) (fw a p (.tup b))
def AF(t:TA):TE:=λc H Q=>t c H λb a=>b.length<=sizeLine/\∀p,a p=none->Q (.ref p) (fw a p (.lst b))
def EA{x1}(h:PA X es t):PE X (.Tuple es x1 pos) (Et t):=by intro f s c H Q I a;refine wpAny_Tuple_spliced (fL (h pos f s c H _ I a) λus s1 ⟨xs,H1,I1,r,z,q⟩=>⟨by rw[<-r.length];exact z,?_⟩);have d:=I1.hok.fresh (aK _);refine⟨.ref s1.heap.objs.size,fw H1 s1.heap.objs.size (.tup xs),I1.laid (λb u e=>ae _ e) (aK _) ?_,rfl,q _ d⟩;exact⟨z,us,r,⟨_,au _ rfl,rfl,_,rfl,rfl⟩⟩
def oO(h:PA X es t):PE X (.List es pos) (AF t):=by intro f s c H Q I a;refine wpAny_List_spliced (fL (h pos f s c H _ I a) λus s1 ⟨xs,H1,I1,r,z,q⟩=>⟨by rw[<-r.length];exact z,?_⟩);have d:=I1.hok.fresh (aK _);refine⟨.ref s1.heap.objs.size,fw H1 s1.heap.objs.size (.lst xs),I1.laid (λb u e=>ae _ e) (aK _) ?_,rfl,q _ d⟩;exact⟨z,us,0,r,au _ rfl⟩
end
abbrev Sp:=List V->Hp->VK->XK->Prop
abbrev AW:=List Env->Hp->Shared->XK->Value->Shared->Prop
structure rB(P:Program)(w:World)(K:W.Frag)(mg:Str->Option Value)(base:Heap)(A:Around)(outer:List Env)(s:Sq)(H:Hp):Prop where
 frames:A.frames=some outer
 mod:Mod K mg base
 bs:∀b o,base.get? b=some o->s.heap.get? b=some o/\H b=none
 bsz:base.objs.size<=s.heap.objs.size
 funs:s.heap.FunFrames base outer
 frf:∀b∈ku outer,H b=none
 hok:lF P w H s.heap
 bare:AllBare s.gens
def CE(a:List Env)(P:Program)(w:World)(H:Hp)(s:Sq)(Q:VK)(u:Vq)(b:Sq):Prop:=∃v c,b.os=s.os/\AllBare b.gens/\Un (ku a) [] H c s.heap b.heap/\lF P w c b.heap/\eO v u/\Q v c
def CR(CX:AW)(a:List Env)(P:Program)(w:World)(H:Hp)(s:Sq)(Q:VK)(E:XK)(r:Result)(b:Sq):Prop:=
 match r with
 |.ok (.ret u)=>CE a P w H s Q u b
 |.ok _=>False
 |.error e=>CX a H s E e b
structure iU(P:Program)(w:World)(K:W.Frag)(mg:Str->Option Value)(base:Heap)(CX:AW)(k:Nat)(f:Addr)(fd:FuncData)(ps:List Str)(sp:Sp):Prop where
 len:∀vs H Q E,sp vs H Q E->vs.length=ps.length
 run:∀(A:Around) (outer:List Env) (s:Sq) (H:Hp) (args:Args) (us:List Vq) (vs:List V) (Q:VK) (E:XK),eD k A->rB P w K mg base A outer s H->BindsTo s fd args (ps.zip us)->dZ vs us->sp vs H Q E->
  codeAny (model P w) A (.call (.ref f) args) (CR CX outer P w H s Q E) s
def iU.mono{K:W.Frag}(F:iU P w K mg base CX j f fd ps sp)(h:j<=k) :
  iU P w K mg base CX k f fd ps sp:=⟨F.len,λA a s H b c d Q E hr=>F.run A a s H b c d Q E (hr.mono h)⟩
def iU.imp{K:W.Frag}(F:iU P w K mg base CX k f fd ps sp)
  (h:∀vs H Q E,sp' vs H Q E->sp vs H Q E):iU P w K mg base CX k f fd ps sp':=
 ⟨λvs H Q E q=>F.len vs H Q E (h _ _ _ _ q),λA a s H b c vs Q E hr i d e g=>F.run A a s H b c vs Q E hr i d e (h _ _ _ _ g)⟩
def rB.make{K:W.Frag}(e:rB P w K mg base A outer s H) C us kw :
  rB P w K mg base (A.under (.builtin "type.__call__" ⟨.ref C::us,kw⟩)) outer s H:=⟨by first|exact e.frames|(simpa[Around.under,Code.envs,Code.isFrame,pushEnvs] using e.frames),e.mod,e.bs,e.bsz,e.funs,e.frf,e.hok,e.bare⟩
section
variable {X:Cx}{dh:List (Addr×Obj)}{σ:St}{H:Hp}{s s':Sq}
def dF.env0(I:dF X dh σ H s):rB X.prog X.w X.K X.mg X.base X.A X.stack s H:=⟨I.ok.frames,I.ok.mod,I.bs,aN I.ok.bsz I.sz,I.stack,I.stkFree,I.hok,I.bare⟩
def dF.after(I:dF X dh σ H s)(h:CE X.stack X.prog X.w H s Q u s'):EP X dh σ Q u s':=by obtain⟨v,i,f,a,un,e,r,q⟩:=h;obtain⟨j,g,d,t,c⟩:=s';obtain rfl:c=s.os:=f;exact⟨v,i,I.call un e a (λb z=>absurd z (by simp)),r,q⟩
end
def lj(sp:Sp)(a:List V)(E:XK)(t:TA):TE:=λd H Q=>t d H λb c=>sp (b++a) c Q E
def pY(C:Addr)(m:Str)(sp:Sp)(b:List V)(E:XK)(f:TE)(t:TA):TE:=λd H Q=>f d H λx c=>∃a e fs,x=.ref a/\c a=some (.ins C e fs)/\fs.lookup m=none/\
 t d c λg h=>sp (x::(g++b)) h Q E
def wa(C:Addr)(sp:Sp)(b:List V)(E:XK)(t:TA):TE:=λf H Q=>t f H λd c=>∀x a,c x=none->c a=none->a≠x->
 sp (.ref x::(d++b)) (fw (fw c a (.own x)) x (.ins C a [])) (λv e=>v=.non/\Q (.ref x) e) E
def jY(K:W.Frag)(fd:FuncData)(ps:List Str)(b:List Vq):Prop:=∀(s:Sq) (a:List Vq),K.In s.heap->(a++b).length=ps.length->BindsTo s fd ⟨a,[]⟩ (ps.zip (a++b))
def jY.all{K:W.Frag}(h:∀us:List Vq,us.length=ps.length->bindArgs fd ⟨us,[]⟩=pure (ps.zip us)):jY K fd ps []:=λs us _ a=>by rw[bE]at a ⊢;exact .of_eq (h us a)
def ja(CX:AW)(X:Cx)(E:XK):Prop:=∀(c:List (Addr×Obj)) (b:St) (H:Hp) (s:Sq) (e:Vq) (a:Sq),dF X c b H s->CX X.stack H s E e a->X.xe e a
section
variable {X:Cx}{CX:AW}{k:Nat}{f C:Addr}{fd:FuncData}{ps:List Str}{sp:Sp}{dvs:List V}{ds:List Vq}{E:XK}{x m:Str}{p pos apos:Pos}{e o:Expr}{es:List Expr}{ta:TE}{t:TA}
theorem yw(F:iU X.prog X.w X.K X.mg X.base CX k f fd ps sp)(hr:eD k X.A)(d:jY X.K fd ps ds)(j:dZ dvs ds)(g:ja CX X E)
  (I:dF X dh σ H s) (r:dZ vs us) (h:sp (vs++dvs) H Q E):wpAny (model X.prog X.w) X.A (call (.ref f) us) (EP X dh σ Q) X.xe s:=by
 have b:=r.append j;have c:(us++ds).length=ps.length:=by rw[<-b.length];exact F.len _ _ _ _ h
 refine wpAny_call (codeAny_mono (F.run X.A X.stack s H ⟨us,[]⟩ (us++ds) (vs++dvs) Q E hr I.env0 (d s us I.kIn c) b h) λr i a=>?_);cases r with
 |error e=>exact g dh σ H s e i I a
 |ok fl=>
  cases fl with
  |ret u=>exact I.after a
  |next=>exact False.elim a
  |brk=>exact False.elim a
  |cont=>exact False.elim a
def vq(F:iU X.prog X.w X.K X.mg X.base CX k f fd ps sp)(hr:eD k X.A)(g:Gl X x)(l:X.mg x=some (.ref f))(c:W.keepIn X.K (.ref f)=true)(n:jY X.K fd ps ds)(j:dZ dvs ds)(d:ja CX X E)
  (u:PA X (e::es) t) (b:(x==("__debug__" : Str))=false:=by decide) (y:starEach (e::es) X.env=(false,eval e X.env)::starEach es X.env:=by rfl) (a:(backTo pos (starEach es X.env)).any (·.1)=false:=by rfl) :
  PE X (.Call (.Name x p) (e::es) [] pos) (lj sp dvs E t):=by
 intro i s v H Q I h;refine wpAny_Call_Name_kw (kJ I g l ?_ b);refine W.callWith_K I.ok.mod.kin c (fL (u pos i s v H _ I h) λus s1 ⟨vs,H1,I1,r,q⟩=>⟨I1.kIn,?_⟩) y a;exact yw F hr n j d I1 r q
def yS(n:PE X o ta)(c:pR X.K C)(b:Ck X.K C m f)(F:iU X.prog X.w X.K X.mg X.base CX k f fd ps sp)(hr:eD k X.A)(g:jY X.K fd ps ds)(v:dZ dvs ds)(i:ja CX X E)
  (d:eval (.Call (.Attribute o m apos) [] [] pos) X.env=(do
   let ov <-eval o X.env
   standAt apos.atName
   let (f,first) <-holding [ov] (getMethod ov m pl)
   callWith pos f first (backTo pos (starEach [] X.env)) (backToKw pos (keywordEach [] X.env))):=by rfl) :
  PE X (.Call (.Attribute o m apos) [] [] pos) (pY C m sp dvs E ta jW):=by
 intro j s r H Q I h;refine W.methodCall_KW (fL (n j s r H _ I h) λu s1 ⟨x,H1,I1,rx,a,dx,fs,ex,ea,l,q⟩=>?_) d;subst ex;obtain rfl:u=Value.ref a:=rx;refine tW I1 ea c b l ?_;exact W.callWith_K0 I1.kIn b.kp (yw (vs:=[.ref a]) F hr g v i I1 (.cons rfl .nil) q)
structure Mk(K:W.Frag)(C f:Addr):Prop where
 makes:W.makesIn K C=true
 init:W.findIn K (.ref C) "__init__" = some (some (.ref f))
 fn:W.isFn K (.ref f)=true
 kp:W.keepIn K (.ref C)=true
theorem zl(M:Mk X.K C f)(F:iU X.prog X.w X.K X.mg X.base CX k f fd ps sp)(hr:eD (k+1) X.A)(z:jY X.K fd ps ds)(j:dZ dvs ds)
  (g:ja CX X E) (I:dF X dh σ H s) (r:dZ vs us)
  (h:∀x dx,H x=none->H dx=none->dx≠x->sp (.ref x::(vs++dvs)) (fw (fw H dx (.own x)) x (.ins C dx [])) (λv D=>v=.non/\Q (.ref x) D) E) :
  wpAny (model X.prog X.w) X.A (call (.ref C) us) (EP X dh σ Q) X.xe s:=by
 have d:=h (s.heap.objs.size+1) s.heap.objs.size (I.hok.fresh (bF _)) (I.hok.fresh (aK _)) (aM (bC _));have b:=dF.made (C:=C) I;have c:dZ (V.ref (s.heap.objs.size+1)::(vs++dvs)) (Value.ref (s.heap.objs.size+1)::(us++ds)):=.cons rfl (r.append j);have l:(Value.ref (s.heap.objs.size+1)::us++ds).length=ps.length:=by have e:=c.length;rw[F.len _ _ _ _ d]at e;exact e.symm
 refine wpAny_call (yH I.kIn M.makes M.init (beq_iff_eq.mp M.fn) (codeAny_mono (F.run _ X.stack _ _ ⟨Value.ref (s.heap.objs.size+1)::us,[]⟩ (Value.ref (s.heap.objs.size+1)::(us++ds)) _ _ E (hr.make C us [])
  (b.env0.make C us []) (z _ (Value.ref (s.heap.objs.size+1)::us) b.kIn l) c d) λr J a=>?_))
 cases r with
 |error e=>exact g dh σ _ _ e J b a
 |ok fl=>
  cases fl with
  |ret u=>obtain⟨v,i,q,y,n,B⟩:=b.after a;subst n;exact⟨y,⟨V.ref (s.heap.objs.size+1),i,q,rfl,B⟩⟩
  |next=>exact False.elim a
  |brk=>exact False.elim a
  |cont=>exact False.elim a
def BJ(M:Mk X.K C f)(F:iU X.prog X.w X.K X.mg X.base CX k f fd ps sp)(hr:eD (k+1) X.A)(d:Gl X x)(j:X.mg x=some (.ref C))(l:jY X.K fd ps ds)(i:dZ dvs ds)(c:ja CX X E)
  (n:PA X (e::es) t) (b:(x==("__debug__" : Str))=false:=by decide) (v:starEach (e::es) X.env=(false,eval e X.env)::starEach es X.env:=by rfl) (a:(backTo pos (starEach es X.env)).any (·.1)=false:=by rfl) :
  PE X (.Call (.Name x p) (e::es) [] pos) (wa C sp dvs E t):=by
 intro g s u H Q I h;refine wpAny_Call_Name_kw (kJ I d j ?_ b);refine W.callWith_K I.ok.mod.kin M.kp (fL (n pos g s u H _ I h) λus s1 ⟨vs,H1,I1,r,q⟩=>⟨I1.kIn,?_⟩) v a;exact zl M F hr l i c I1 r q
end
structure eB(N P:List Str)(sc:Scope):Prop where
 kind:sc.kind=.function
 co:sc.isCoroutine=false
 gen:sc.isGenerator=false
 nd:N.Nodup
 pre:N.take P.length=P
 par:∀x∈P,sc.names.lookup x=some .local\/sc.names.lookup x=some .cell
 nofree:∀y∈sc.names,y.2≠.free
theorem pK{kindOf:Str->Option NameKind}:∀{binds} {m},(∀v,(x,v)∉binds)->bindL kindOf binds m x=m x
 |[],_,_=>rfl
 | (n,v)::r,m,h=>by
  unfold bindL;rw[pK λw hw=>h w (bj _ hw)];split
  .have:x≠n:=by rintro rfl;exact h v bh
   simp[this]
  .rfl
theorem pI{kindOf:Str->Option NameKind}:∀{binds} {m},(∀v,(x,v)∉binds)->bindC kindOf binds m x=m x
 |[],_,_=>rfl
 | (n,v)::r,m,h=>by
  unfold bindC;rw[pI λw hw=>h w (bj _ hw)];split
  .rfl
  .have:x≠n:=by rintro rfl;exact h v bh
   simp[this]
theorem pP{kindOf:Str->Option NameKind}:∀{P:List Str} {vs:List Vq} {i:Nat} {m:Str->Option Value},P.Nodup->P[i]? = some x->vs[i]? = some v->kindOf x=some .local->
  bindL kindOf (P.zip vs) m x=some v
 |[],_,_,_,_,h,_,_=>by simp at h
 |_::_,[],_,_,_,_,h,_=>by simp at h
 |p::P,w::vs,0,m,nd,h1,h2,hk=>by simp at h1 h2;subst h1;subst h2;show bindL kindOf ((p,w)::P.zip vs) m p=_;unfold bindL;rw[pK λv a=>(bG.mp nd).1 (aW a).1,aQ hk];simp
 |p::P,w::vs,i+1,m,nd,h1,h2,hk=>by unfold bindL;exact pP (bG.mp nd).2 (by simpa using h1) (by simpa using h2) hk
theorem pG{kindOf:Str->Option NameKind}:∀{P:List Str} {vs:List Vq} {i:Nat} {m:Str->Option Value},P.Nodup->P[i]? = some x->vs[i]? = some v->kindOf x≠some .local->
  bindC kindOf (P.zip vs) m x=some v
 |[],_,_,_,_,h,_,_=>by simp at h
 |_::_,[],_,_,_,_,h,_=>by simp at h
 |p::P,w::vs,0,m,nd,h1,h2,hk=>by simp at h1 h2;subst h1;subst h2;show bindC kindOf ((p,w)::P.zip vs) m p=_;unfold bindC;rw[pI λv a=>(bG.mp nd).1 (aW a).1,aR hk];simp
 |p::P,w::vs,i+1,m,nd,h1,h2,hk=>by unfold bindC;exact pG (bG.mp nd).2 (by simpa using h1) (by simpa using h2) hk
noncomputable def fT(N:List Str)(vs:List V):St:=vs.map some++List.replicate (N.length-vs.length) none
noncomputable def fK(CX:AW)(P:Program)(w:World)(K:W.Frag)(mg:Str->Option Value)(base:Heap)(N:List Str)(b:Str)(a:Scope)(f:Addr)(d:Vq)(A:Around)(outer:List Env)(s:Sq)(H:Hp)(E:XK):Cx where
 prog:=P
 w:=w
 K:=K
 mg:=mg
 base:=base
 A:=A.deeper (envOfC b a s.heap.objs.size f d)
 N:=N
 s₀:=s
 H₀:=H
 env:=envOfC b a s.heap.objs.size f d
 outer:=outer
 stack:=envOfC b a s.heap.objs.size f d::outer
 ex:=[]
 calm:=true
 fn:=λ_=>true
 pn:=[]
 xe:=λe h=>wpAny (model P w) (A.deeper (envOfC b a s.heap.objs.size f d)) (leaving (envOfC b a s.heap.objs.size f d) e) (λ_ c=>CX outer H s E e c) (λg c=>CX outer H s E g c) h
def gS{a:Scope}(h:a.names.lookup x=some .cell):∃c,(cellsFrom n a.names []).lookup x=some c:=by have q:=W.cellsFrom_some a.names n [] (.inl h);exact bH.mp q
theorem pF{K:W.Frag}
  (S:eB N ps scope) (D:A.handled=none) (g:rB P w K mg base A outer s H) (Q:vs.length=ps.length) (r:dZ vs us)
  (x:InCallC s s.heap.objs.size (bindL (envOfC qual scope s.heap.objs.size f cd).kindOf (ps.zip us) λ_=>none) (cellsFrom (s.heap.objs.size+1) scope.names []) (bindC (envOfC qual scope s.heap.objs.size f cd).kindOf (ps.zip us) λ_=>none) s1) :
  dF (fK CX P w K mg base N qual scope f cd A outer s H E) [] (fT N vs) H s1:=by
 have I:ps.length<=N.length:=by have:=congrArg List.length S.pre;rw[bI]at this;omega
 obtain⟨o,R,rfl,B⟩:=x.done;have j:∀b:Addr,b∉(fK CX P w K mg base N qual scope f cd A outer s H E).ex:=λb z=>absurd (show b∈([]) from z) (by simp);refine⟨⟨g.mod,S.kind,rfl,rfl,aK _,λy z c o d=>?_,λy l=>?_,λy c _ h=>?_,λ_=>D,Around.frames_deeper g.frames,.inr ⟨rfl,rfl⟩,λb z=>absurd z (j b),g.bs,g.bsz,λb _ _=>j b,λb z=>absurd z (j b),g.funs,g.frf⟩,
  rfl,g.bare,Un.kept B,⟨_,x.toInCall.ns,λi y v o d L=>?_⟩,λy c h=>⟨_,x.cell y c h⟩,g.hok.fresh (aK _),λy c h=>?_,λp n=>absurd (show p∈([]) from n) (by simp),g.hok.kept B,?_⟩
 .exact name_of_addr x.apart (PySem.mem_of_lookup o) (PySem.mem_of_lookup d)
 .have l:=l;rcases l with l|l
  .exact gS l
  .exact absurd rfl (S.nofree _ (PySem.mem_of_lookup l))
 .exact bf (x.above y c (PySem.mem_of_lookup h))
 .have t:i<vs.length:=by
   unfold fT at d;by_cases t:i<vs.length
   .exact t
   .rw[List.getElem?_append_right (by simpa using t)]at d;rw[List.getElem?_replicate]at d;split at d<;>cases d
  have J:vs[i]? = some v:=by
   unfold fT at d;rw[List.getElem?_append_left (by simpa using t),aw]at d;cases e:vs[i]? with
   |none=>rw[e]at d;cases d
   |some a=>rw[e]at d;cases d;rfl
  obtain⟨u,C,F⟩:=r.get J;have n:ps[i]? = some y:=by rw[<-S.pre,List.getElem?_take_of_lt (by omega)];exact o
  have m:ps.Nodup:=by rw[<-S.pre];exact S.nd.sublist (List.take_sublist _ _)
  refine⟨u,F,?_⟩;rcases S.par y (av n) with k|k
  .exact .inl ⟨k,pP m n C k⟩
  .obtain⟨c,e⟩:=gS k;refine .inr ⟨.inl k,c,e,?_⟩;have q:=x.cell y c e;rw[pG m n C (by show scope.names.lookup y≠_;rw[k];decide)]at q;exact q
 .exact g.hok.fresh (bf (x.above y c (PySem.mem_of_lookup h)))
 .unfold fT;show _=N.length;rw[aT,ax,bJ];omega
theorem CU{K:W.Frag}{R kV p U c X oc:Vq}(lk:K.lookup f=some ⟨oc,od,.func (W.fnOf name qual params body scope R kV p U an c X),osl⟩)(C:W.codeIn K c qual=true)(S:eB N ps scope)
  (l:∀vs H Q E,sp vs H Q E->vs.length=ps.length)
  (h:∀A a s H vs Q E,eD k (A.deeper (envOfC qual scope s.heap.objs.size f c))->sp vs H Q E->
   ∃t,mW (fK CX P w K mg base N qual scope f c A a s H E) body t/\t {nx:=λ_ g=>Q .non g,rt:=Q} (fT N vs) H) :
  iU P w K mg base CX (k+1) f (W.fnOf name qual params body scope R kV p U an c X) ps sp:=by
 refine⟨l,λA a s H Z us vs Q E hr m hb r z=>?_⟩;have hl:=l _ _ _ _ z;have KX:=m.mod.kin.keeps λb o e=>(m.bs b o e).1;have F:=m.mod.nolimit.keeps λb o e=>(m.bs b o e).1;have i:∀y∈ps.zip us,scope.names.lookup y.1=some .local\/(scope.names.lookup y.1=some .cell/\((cellsFrom (s.heap.objs.size+1) scope.names []).lookup y.1).isSome=true):=λ⟨n,v⟩ hy=>by
  rcases S.par n (aW hy).1 with q|q
  .exact .inl q
  .exact .inr ⟨q,W.cellsFrom_some _ _ _ (.inl q)⟩
 refine codeAny_call_function hr.depth (KX _ _ lk) rfl S.co S.gen rfl (W.codeRec_of KX C) (hb _ _ _ _ ?_);refine wpAny_newFunctionEnv_cells S.kind i λenv he Y x=>?_;subst he;refine⟨F.keeps x.toInCall.keep,codeAny_func ?_⟩;obtain⟨t,ht,hq⟩:=h A a s H vs Q E (hr.deeper _) z;have I:dF (fK CX P w K mg base N qual scope f c A a s H E) [] (fT N vs) H Y:=pF S hr.hd m hl r x;refine wpAny_mono (ht [] Y (fT N vs) H _ I hq) (λfl L j=>?_) λe L j=>j;have B:∀{d:St} {g:Hp} {v:V} {u:Vq},dF (fK CX P w K mg base N qual scope f c A a s H E) [] d g L->eO v u->Q v g->CE a P w H s Q u L:=λ{d g v u} J D q=>⟨v,g,J.os,J.bare,J.base,J.hok,D,q⟩
 cases fl with
 |ret u=>obtain⟨v,d,g,J,D,q⟩:=j;exact B J D q
 |next=>obtain⟨d,g,J,q⟩:=j;exact B (v:=V.non) J rfl q
 |brk=>obtain⟨_,_,_,q⟩:=j;exact False.elim q
 |cont=>obtain⟨_,_,_,q⟩:=j;exact False.elim q
end L2
namespace L2
open PySem PySem.Spec PyProof.Rows
section
variable {X:Cx}{x:Str}{p pos:Pos}{e:Expr}{es:List Expr}{t:TA}{id T:String}{r:List V->Hp->VK->Prop}
def xM(r:List V->Hp->VK->Prop)(t:TA):TE:=λc H Q=>t c H λa b=>r a b Q
def e8(g:gW X (.builtin id) r)(k:Gl X x)(m:X.mg x=none)(i:bootBuiltins x=some (.builtin id))(l:PA X (e::es) t)(f:x≠ "__name__" :=by decide)(a:(x==("__debug__" : Str))=false:=by decide)
  (j:starEach (e::es) X.env=(false,eval e X.env)::starEach es X.env:=by rfl) (b:(backTo pos (starEach es X.env)).any (·.1)=false:=by rfl):PE X (.Call (.Name x p) (e::es) [] pos) (xM r t):=by
 intro d s c H Q I h;refine wpAny_Call_Name_kw (jz I k m i ?_ f a);exact PyProof.Rows.callWith_builtin1 (fL (l pos d s c H _ I h) λus s1 ⟨vs,H1,I1,r1,q1⟩=>g d s1 c H1 vs us Q I1 r1 q1) j b
def pO(g:gW X (.type T) r)(k:Gl X x)(m:X.mg x=none)(i:bootBuiltins x=some (.type T))(l:PA X (e::es) t)(f:x≠ "__name__" :=by decide)(a:(x==("__debug__" : Str))=false:=by decide)
  (j:starEach (e::es) X.env=(false,eval e X.env)::starEach es X.env:=by rfl) (b:(backTo pos (starEach es X.env)).any (·.1)=false:=by rfl):PE X (.Call (.Name x p) (e::es) [] pos) (xM r t):=by
 intro d s c H Q I h;refine wpAny_Call_Name_kw (jz I k m i ?_ f a);exact PyProof.Rows.callWith_type1 (fL (l pos d s c H _ I h) λus s1 ⟨vs,H1,I1,r1,q1⟩=>g d s1 c H1 vs us Q I1 r1 q1) j b
end
end L2
namespace HT
open PySem PyProof.Rows
section
variable {prog:Program}{w:World}{A:Around}{E:Vq->Shared->Prop}{s:Sq}
def cat_tup(y:IsTup s.heap t vs.toArray)(u:IsTup s.heap b ws.toArray)(p:vs≠[])
  (x:ws=[]->Q (.ref t) s) (v:ws≠[]->Q (.ref s.heap.objs.size) {s with heap:=s.heap.push {cls:=.type "tuple",data:=.seq (vs++ws).toArray}})
  (j:vs.length+ws.length<=sizeLine):wpAny (model prog w) A (binaryOp .Add (.ref t) (.ref b)) Q E s:=by
 obtain⟨⟨cls,q,data,o⟩,h,m,n,l⟩:=id y;obtain⟨⟨k,d,i,f⟩,a,c,r,g⟩:=id u;simp only at m l c g;subst m l c g;have e:vs.toArray++ws.toArray=(vs++ws).toArray:=by simp
 by_cases hw:ws=[]
 .exact concat_meets ⟨_,h,rfl⟩ ⟨_,a,rfl⟩ noFill_tuple_add seq_tuple_add PySem.F.slot_tuple_add PySem.F.entry_tuple_add (PySem.F.args_tuple_add_2 _ _)
   (tuple_addW1 t b vs.toArray ws.toArray n r q d o f (by simpa using p) (by simp[hw])) ⟨h,a,x hw⟩
 .refine concat_meets ⟨_,h,rfl⟩ ⟨_,a,rfl⟩ noFill_tuple_add seq_tuple_add PySem.F.slot_tuple_add PySem.F.entry_tuple_add (PySem.F.args_tuple_add_2 _ _)
   (tuple_addW2 t b vs.toArray ws.toArray n r q d o f (by simpa using p) (by simpa using hw) (by rw[bz,bz];exact j)) ⟨h,a,?_⟩
  rw[e];exact v hw
noncomputable def sIx(n d:Nat):Oq Int->Nat
 |none=>d
 |some v=>if v<0 then (v+(n:Int)).toNat else min v.toNat n
def sIx_none n d:sIx n d none=d:=rfl
def sIx_nat(n d k:Nat):sIx n d (some (k:Int))=min k n:=by show (if k<0 then (k+(n:Int)).toNat else min (k:Int).toNat n)=min k n;rw[aR (by omega),bK]
def vR v (n d:Nat):(if v<0 then max (v+(n:Int)) 0 else min v (n:Int))=((sIx n d (some v):Nat):Int):=by
 show (if v<0 then max (v+n) 0 else min v n)=(((if v<0 then (v+n).toNat else min v.toNat n):Nat):Int);by_cases a:v<0
 .simp only[aQ a];omega
 .simp only[aR a];omega
def uH lo a (n:Nat):Builtin.Slice.sliceAdjust lo a 1 (n:Int)=(((sIx n 0 lo:Nat):Int),((sIx n n a:Nat):Int)):=by
 have b:¬(1<0):=by omega
 unfold Builtin.Slice.sliceAdjust;simp only[b,if_false];refine Prod.ext ?_ ?_
 .cases lo with
  |none=>rfl
  |some v=>exact vR v n 0
 .cases a with
  |none=>rfl
  |some v=>exact vR v n n
def tZ(i j:Nat):Builtin.Slice.slicePlaces (i:Int) (j:Int) 1=j-i:=by
 unfold Builtin.Slice.slicePlaces;have a:1>0:=by omega
 simp only[a,if_true,Int.ediv_one];split<;>omega
def nT(p:IsPart v o)(h:Q o s):wpAny (model prog w) A (Builtin.Slice.slicePartIndex v) Q E s:=by
 cases p with
 |none=>exact slicePart_none h
 |int i t=>exact slicePart_int h
def jF{a d:Oq Int}{n:Nat}(g:s.heap.IsSliceOf sl vl vu .none)(e:IsPart vl a)(i:IsPart vu d)
  (h:Q (((sIx n 0 a:Nat):Int),1,sIx n n d-sIx n 0 a) s):wpAny (model prog w) A (Builtin.Slice.sliceApplied (.ref sl) (pure (n:Int))) Q E s:=by
 obtain⟨j,c,f,b⟩:=id g;unfold Builtin.Slice.sliceApplied Builtin.Slice.sliceFields;refine aq (aq (wpAny_field c b rfl (aq (wpAny_field c b rfl (aq (wpAny_field c b rfl (ao ?_)))))));refine aq (slicePart_none ?_);rw[aR (by decide)];refine aq (nT e (aq (nT i (aq (ao ?_)))));show wpAny _ _ (match Builtin.Slice.sliceAdjust a d 1 n with|(a,d)=>pure (a,(1:Int),Builtin.Slice.slicePlaces a d 1)) _ _ s;rw[uH a d n];show wpAny _ _ (pure (((sIx n 0 a):Int),1,Builtin.Slice.slicePlaces ((sIx n 0 a):Int) ((sIx n n d):Int) 1)) _ _ s;rw[tZ];exact ao h
def yT(a:Array Vq)(i k:Nat):((List.range k).filterMap λ(m:Nat)=>a[((i:Int)+(m:Int)*1).toNat]?).toArray=((a.toList.drop i).take k).toArray:=by
 have e:(λ(m:Nat)=>a[(i+(m:Int)*1).toNat]?)=λm=>a[i+m]?:=by
  funext m;have:(i+(m:Int)*1).toNat=i+m:=by omega
  rw[this]
 rw[e];have:=pick_run a i k;rw[List.filterMap_map]at this;have b:((λx=>a[x]?) ∘ λx=>i+x)=λm=>a[i+m]?:=rfl;rw[b]at this;rw[this]
theorem getItem_tuple_cut{a b:Oq Int}(c:IsTup s.heap t items)(j:s.heap.IsSliceOf sl vl vu .none)(o:IsPart vl a)(m:IsPart vu b)
  (hw:¬(sIx items.size 0 a=0/\sIx items.size items.size b=items.size))
  (h:Q (.ref s.heap.objs.size) {s with heap:=s.heap.push {cls:=.type "tuple",data:=.seq ((items.toList.drop (sIx items.size 0 a)).take (sIx items.size items.size b-sIx items.size 0 a)).toArray}})
  (n:items.size<=sizeLine):wpAny (model prog w) A (getItem (.ref t) (.ref sl)) Q E s:=by
 have d:sizeOk (.seq ((items.toList.drop (sIx items.size 0 a)).take (sIx items.size items.size b-sIx items.size 0 a)).toArray):=by show ((items.toList.drop (sIx items.size 0 a)).take (sIx items.size items.size b-sIx items.size 0 a)).toArray.size<=sizeLine;rw[bz,bI,bL,bq];omega
 obtain⟨l,g,f,k⟩:=id j;have e:s.TypeIs (.ref sl) "slice" :=⟨l,g,f⟩;unfold getItem;try with_reducible refine wpAny_holding ?_;first|refine aq (ao ?_)|skip
 refine aq (wpAny_sequenceKey c.typeIs (by decide) ?_);refine aq (wpAny_callSpecial?_slot c.typeIs PyProof.Rows.slot_tuple_getitem
  (wpAny_call_entry PyProof.Rows.slot_tuple_getitem c.typeIs entry_tuple_getitem ?_ (args_tuple_getitem _ _)))
 show wpAny _ _ (Builtin.Tuple.tupleItemsOf (.ref t) >>= _) _ _ s;refine aq (tupleItemsOf_ c ?_);refine aq (wpAny_typeOf e ?_);rw[aQ (by decide)];refine aq (jF j o m ?_);have i:¬((((sIx items.size 0 a):Int)==0&&(1:Int)==1&&(sIx items.size items.size b-sIx items.size 0 a)==items.size)=true):=by intro q;rw[bM,bM]at q;have r:=eq_of_beq q.1.1;have p:=eq_of_beq q.2;exact hw ⟨by omega,by omega⟩
 show wpAny _ _ (if (((sIx items.size 0 a):Int)==0&&1==1&&(sIx items.size items.size b-sIx items.size 0 a)==items.size)=true then _ else _) _ _ s;rw[aR i,yT];first
  |exact aq (wpAny_newObj_type (ao ⟨_,rfl,ao h⟩) d)
  |exact aq (wpAny_newObj_type (aq (ao (ao ⟨_,rfl,ao h⟩))) d)
  |exact aq (aq (wpAny_newObj_type (ao (ao ⟨_,rfl,ao h⟩)) d))
  |exact aq (aq (wpAny_newObj_type (ao ⟨_,rfl,ao h⟩) d))
end
end HT
namespace L2
open PySem PySem.Spec PyProof.Rows
abbrev TO:=St->Hp->(Option Int->Hp->Prop)->Prop
def PO(X:Cx)(e:Oq Expr)(t:TO):Prop:=
 ∀(c:List (Addr×Obj)) (s:Sq) (a:St) (H:Hp) (Q:Oq Int->Hp->Prop),dF X c a H s->t a H Q->
  wpAny (model X.prog X.w) X.A (evalPart e X.env) (λu d=>∃o b,dF X c a b d/\IsPart u o/\Q o b) X.xe s
def vj:TO:=λ_ H Q=>Q none H
def CJ(t:TE):TO:=λb H Q=>t b H λx a=>∃i,x=.int i/\Q (some i) a
section
variable {X:Cx}{e:Expr}{te:TE}{lo hi:Oq Expr}{tl th:TO}{pos p2:Pos}
def BP:PO X none vj:=by intro b s a H Q I h;rw[evalPart_none];exact ao ⟨none,H,I,.none,h⟩
def Bg(h:PE X e te):PO X (some e) (CJ te):=by intro b s a H Q I hw;rw[evalPart_some];refine fL (h b s a H _ I hw) λu s1 ⟨x,H1,I1,r1,q1⟩=>?_;obtain⟨i,rfl,q⟩:=q1;obtain⟨t,rfl⟩:=r1;exact⟨some i,H1,I1,.int i t,q⟩
def CK(X:Cx)(r:V->Option Int->Option Int->Hp->VK->Prop):Prop:=
 ∀(f:List (Addr×Obj)) (s:Sq) (b:St) (H:Hp) (x:V) (v a d:Vq) (lo hi:Oq Int) (c:Addr) (Q:VK),dF X f b H s->eO x v->s.heap.IsSliceOf c a d .none->IsPart a lo->IsPart d hi->r x lo hi H Q->
  ∃T id,typeLookup (.type T) "__getitem__" = pure (some (.builtin id))/\s.TypeIs v T/\wpAny (model X.prog X.w) X.A (getItem v (.ref c)) (EP X f b Q) X.xe s
def CK.or(h:CK X r)(l:CK X r'):CK X (λx lo hi H Q=>r x lo hi H Q\/r' x lo hi H Q):=by
 intro b s j H x v d a lo hi c Q I f g i k q;rcases q with q|q
 .exact h b s j H x v d a lo hi c Q I f g i k q
 .exact l b s j H x v d a lo hi c Q I f g i k q
def HM(r:V->Option Int->Option Int->Hp->VK->Prop)(te:TE)(tl th:TO):TE:=λa H Q=>te a H λx b=>tl a b λl c=>th a c λu d=>r x l u d Q
def yg(hr:CK X r)(m:PE X e te)(f:PO X lo tl)(j:PO X hi th):PE X (.Subscript e (.Slice lo hi none p2) pos) (HM r te tl th):=by intro a s c H Q I h;refine Subscript_ (fL (m a s c H _ I h) λv s1 ⟨x,H1,I1,r1,q1⟩=>?_);refine wpAny_Slice (fL (f a s1 c H1 _ I1 q1) λvl s2 ⟨l,H2,I2,pl,q2⟩=>fL (j a s2 c H2 _ I2 q2) λvu s3 ⟨u,H3,I3,pu,q3⟩=>?_);rw[evalPart_none];refine ao ?_;have g:dF X a c H3 {s3 with heap:=s3.heap.push {cls:=.type "slice",data:=.fields #[vl,vu,.none]}}:=I3.kept λb n q=>ae _ q;obtain⟨T,id,i,k,d⟩:=hr a {s3 with heap:=s3.heap.push {cls:=.type "slice",data:=.fields #[vl,vu,.none]}} c H3 x v vl vu l u s3.heap.objs.size Q g r1 (Heap.IsSliceOf.new ..) pl pu q3;exact tail_any k i d (by with_unfolding_all rfl)
noncomputable def zM(a:List V)(lo hi:Oq Int):List V:=(a.drop (HT.sIx a.length 0 lo)).take (HT.sIx a.length a.length hi-HT.sIx a.length 0 lo)
def mT xs lo hi:(zM xs lo hi).length<=xs.length:=by unfold zM;rw[bI,bL];omega
def FA(K:W.Frag):V->Option Int->Option Int->Hp->VK->Prop:=λx lo hi H Q=>∃a b,x=.ref a/\jd K H a b/\
 ¬(HT.sIx b.length 0 lo=0/\HT.sIx b.length b.length hi=b.length)/\∀p,H p=none->Q (.ref p) (fw H p (.tup (zM b lo hi)))
def Ew:CK X (FA X.K):=by
 intro p s y H x v u o lo hi t Q I k l m n h;obtain⟨a,c,rfl,j,hw,q⟩:=h;cases k;obtain⟨f,r,g,i⟩:=I.tuple j;have d:f.toArray.size=c.length:=by rw[bz];exact r.length.symm
 refine⟨"tuple",_,PyProof.Rows.slot_tuple_getitem.lookup,g.typeIs,?_⟩;refine HT.getItem_tuple_cut g l m n (by rw[d];exact hw) ?_ (by rw[d];exact i);rw[d];refine⟨.ref s.heap.objs.size,_,I.laid (λb w q=>ae _ q) (aK _) ?_,rfl,q _ (I.hok.fresh (aK _))⟩;exact⟨aN (mT c lo hi) i,_,(r.drop (HT.sIx c.length 0 lo)).take (HT.sIx c.length c.length hi-HT.sIx c.length 0 lo),rj.new _ _⟩
def FG(K:W.Frag):R2:=λx y H Q=>∃a b d c,x=.ref a/\y=.ref b/\jd K H a d/\jd K H b c/\d≠[]/\d.length+c.length<=sizeLine/\
 (c=[]->Q (.ref a) H)/\(c≠[]->∀p,H p=none->Q (.ref p) (fw H p (.tup (d++c))))
def dZ.nil_iff(r:dZ xs us):us=[]↔xs=[]:=by
 cases r with
 |nil=>simp
 |cons _ _=>simp
def BF:kS X (binaryOp .Add) (FG X.K):=by intro t s D H x y v u Q I l m h;obtain⟨a,b,A,C,rfl,rfl,o,n,i,g,p,j⟩:=h;cases l;cases m;obtain⟨r,d,k,_⟩:=I.tuple o;obtain⟨f,c,p2,_⟩:=I.tuple n;refine HT.cat_tup k p2 (λz=>i (d.nil_iff.mp z)) (λz=>⟨.ref a,H,I,rfl,p (c.nil_iff.mp z)⟩) (λz=>?_) (by rw[<-d.length,<-c.length];exact g);refine⟨.ref s.heap.objs.size,_,I.laid (λb B q=>ae _ q) (aK _) ?_,rfl,j (λw=>z (c.nil_iff.mpr w)) _ (I.hok.fresh (aK _))⟩;exact⟨by rw[aT];exact g,_,d.append c,rj.new _ _⟩
end
end L2
namespace L2
open PySem PySem.Spec PyProof.Rows
noncomputable def sM(n:Nat)(i:Int):Oq Nat:=if 0<=i then (if i<n then some i.toNat else none) else if -(n:Int)<=i then some (i+n).toNat else none
noncomputable def md{b:Type}(a:List b)(i:Int):Oq b:=(sM a.length i).bind λj=>a[j]?
def vd(h:sM n i=some j):seqIndex? i n=some j/\j<n/\-(n:Int)<=i/\i<n:=by
 unfold sM at h;by_cases b:0<=i
 .rw[aQ b]at h;by_cases a:i<n
  .rw[aQ a]at h;have e:=Option.some.inj h;exact⟨by rw[seqIndex_of b a,e],by omega,by omega,a⟩
  .rw[aR a]at h;cases h
 .rw[aR b]at h;by_cases a:-n<=i
  .rw[aQ a]at h;have e:=Option.some.inj h;exact⟨by rw[seqIndex_neg (by omega) a,e],by omega,a,by omega⟩
  .rw[aR a]at h;cases h
def qP{a:List α}{v:α}(h:md a i=some v):∃j,seqIndex? i a.length=some j/\a[j]? = some v/\j<a.length/\-(a.length:Int)<=i/\i<a.length:=by
 unfold md at h;cases e:sM a.length i with
 |none=>rw[e]at h;cases h
 |some j=>rw[e]at h;obtain⟨f,d,b,c⟩:=vd e;exact⟨j,f,h,d,b,c⟩
def yl xs (v:α):md (xs++[v]) (-1)=some v:=by
 have a:(xs++[v]).length=xs.length+1:=by simp
 have e:sM (xs++[v]).length (-1)=some xs.length:=by unfold sM;rw[a,aR (by decide),aQ (by omega)];congr 1;omega
 unfold md;rw[e];simp
def uY(b:Expr):Prop:=∀o i,subscripted b false o i=operate [o,i] (getItem o i)
def B6(X:Cx)(r:R2):Prop:=
 ∀(b a:Expr) (d:List (Addr×Obj)) (s:Sq) (c:St) (H:Hp) (x y:V) (v u:Vq) (Q:VK),dF X d c H s->eO x v->eO y u->r x y H Q->
  subscripted a false v u=operate [v,u] (getItem v u)->wpAny (model X.prog X.w) X.A (subscriptTail b a v u) (EP X d c Q) X.xe s
def Iv(X:Cx)(id:String)(r:V->List V->Hp->VK->Prop):Prop:=
 ∀(d:List (Addr×Obj)) (s:Sq) (c:St) (H:Hp) (x:V) (b:List V) (v:Vq) (a:List Vq) (Q:VK),dF X d c H s->eO x v->dZ b a->r x b H Q->
  wpAny (model X.prog X.w) X.A (call (.builtin id) (v::a)) (EP X d c Q) X.xe s
section
variable {X:Cx}{a b:Expr}{ta tb:TE}{pos:Pos}
def B6.or(h:B6 X r)(k:B6 X r'):B6 X (λx y H Q=>r x y H Q\/r' x y H Q):=by
 intro d c j s g H x y v u Q I e f q i;rcases q with q|q
 .exact h d c j s g H x y v u Q I e f q i
 .exact k d c j s g H x y v u Q I e f q i
def CD(hr:B6 X r)(k:PE X a ta)(g:PE X b tb)(j:uY b):PE X (.Subscript a b pos) (mY r ta tb):=by intro d s m H Q I h;exact Subscript_ (DO k g I h λv u c x y l i e f q=>hr a b d c m l x y v u Q i e f q (j _ _))
def F9(K:W.Frag):R2:=λx y H Q=>∃p c i v,x=.ref p/\y=.int i/\ib K H p c/\md c i=some v/\Q v H
def Ft(K:W.Frag):R2:=λx y H Q=>∃p c i v,x=.ref p/\y=.int i/\jd K H p c/\md c i=some v/\Q v H
def GG:R2:=λx y H Q=>∃z i c,x=.str z/\y=.int i/\z.length<=sizeLine/\md z.cps.toList i=some c/\Q (.str ⟨#[c]⟩) H
def lX:B6 X (F9 X.K):=by
 intro f e D s R H x y v u Q I L N h A;obtain⟨p,U,i,z,rfl,rfl,F,J,q⟩:=h;cases L;obtain⟨t,rfl⟩:=N;obtain⟨m,r,l,Y⟩:=I.list F;obtain⟨j,d,P,S,C,B⟩:=qP J;obtain⟨w,o,g⟩:=r.get P;have E:=r.length;have Z:=q8;have c:EP X D R Q w s:=⟨z,H,I,g,q⟩;by_cases n:0<=i
 .have k:i.toNat=j:=by rw[seqIndex_of n B]at d;exact Option.some.inj d
  exact item_listR l.isList n (by omega) (by rw[k];simpa using o) c A
 .have k:(i+m.toArray.size).toNat=j:=by rw[seqIndex_neg (by omega) C]at d;rw[bz,<-E];exact Option.some.inj d
  exact subscriptTail_builtinR l.isList.typeIs slot_list_getitem.lookup
   (wpAny_getItem_list_neg l.isList (by omega) (by rw[bz]<;>omega) (by omega) (by rw[k];simpa using o) ⟨rfl,c⟩) A
def iO:B6 X (Ft X.K):=by
 intro d c k s J H x y v u Q I o B h D;obtain⟨p,R,i,z,rfl,rfl,m,n,q⟩:=h;cases o;obtain⟨t,rfl⟩:=B;obtain⟨F,r,g,S⟩:=I.tuple m;obtain⟨j,E,C,L,P,N⟩:=qP n;obtain⟨w,A,e⟩:=r.get C;have l:=r.length;have U:=q8;have f:EP X k J Q w s:=⟨z,H,I,e,q⟩;exact subscriptTail_builtinR g.typeIs slot_tuple_getitem.lookup
  (getItem_tuple g (by omega) (by omega) (by rw[bz,<-l];exact E) (by simpa using A) ⟨rfl,f⟩) D
def Eg:B6 X GG:=by
 intro e d D s E H x y v u Q I n o h r;obtain⟨z,i,c,rfl,rfl,F,m,q⟩:=h;obtain⟨t,rfl⟩:=n;obtain⟨C,rfl⟩:=o;obtain⟨j,f,p,B,k,g⟩:=qP m;have l:z.cps.toList.length=z.length:=by simp[Str.length]
 rw[l]at f k g;have J:=q8;exact tail_any (typeIs_str s z t) slot_str_getitem.lookup (getItem_str (by have A:decide (i < -(2 ^ 63))=false:=aB (by omega);have w:decide (i >= 2 ^ 63)=false:=aB (by omega);rw[A,w,Bool.or_false]) (by rw[f];simpa using p) ⟨.str ⟨#[c]⟩,H,I.tok _,⟨_,rfl⟩,q⟩) r
def G2(K:W.Frag):R2:=λx y H Q=>F9 K x y H Q\/Ft K x y H Q\/GG x y H Q
def ye:B6 X (G2 X.K):=lX.or (iO.or Eg)
def ua(c:List Vq) n j u:Obj.mapSeq (·.setIfInBounds j u) {cls:=.type "list",data:=.seq c.toArray n}={cls:=.type "list",data:=.seq (c.set j u).toArray n}:=by simp[Obj.mapSeq]
def dF.lst(I:dF X dh σ H s)(h:H p=some (.lst xs)) :
  ∃c n,dZ xs c/\s.heap.get? p=some {cls:=.type "list",data:=.seq c.toArray n}/\xs.length<=sizeLine:=by
 obtain⟨z,c,n,r,e⟩:=I.hok p _ h;exact⟨c,n,r,e,z⟩
def dF.lstUpd{d c:List Vq}(I:dF X dh σ H s)(h:H p=some (.lst xs))
  (j:s.heap.get? p=some {cls:=.type "list",data:=.seq d.toArray n}) (g:f {cls:=.type "list",data:=.seq d.toArray n}={cls:=.type "list",data:=.seq c.toArray n'}) (r:dZ ys c) (k:ys.length<=sizeLine) t :
  dF X dh σ (fw H p (.lst ys)) {s with heap:=s.heap.update p f,toks:=t}:=by
 have e:(s.heap.update p f).get? p=some {cls:=.type "list",data:=.seq c.toArray n'}:=by rw[Heap.get?_update_self f j (by rw[g]<;>rfl),g]
 refine I.write (by rw[h];trivial) (.inl rfl) (λb u i q=>(Heap.get?_update_other _ _ (Ne.symm i)).trans q) ⟨_,e⟩ ?_;exact⟨k,c,n',r,e⟩
def wb:V->V->V->Hp->(Hp->Prop)->Prop:=λo i v H Q=>∃p c k j,o=.ref p/\i=.int k/\H p=some (.lst c)/\sM c.length k=some j/\Q (fw H p (.lst (c.set j v)))
def yN:FS X wb:=by
 intro z s E H o i v K L u Q I J D A h;obtain⟨p,B,k,j,rfl,rfl,y,C,q⟩:=h;cases J;obtain⟨t,rfl⟩:=D;obtain⟨c,n,r,g,F⟩:=I.lst y;obtain⟨d,N,m,w⟩:=vd C;have f:=r.length;have P:=q8;have x:dF X z E (fw H p (.lst (B.set j v))) {s with heap:=s.heap.update p (Obj.mapSeq (·.setIfInBounds j u))}:=I.lstUpd y g (ua c n j u) (r.set A j) (by rw[List.length_set];exact F) s.toks
 by_cases l:0<=k
 .have e:k.toNat=j:=by rw[seqIndex_of l w]at d;exact Option.some.inj d
  exact W.ki_setAt g l (by omega) (by rw[bz,<-f];exact w) (by rw[e];exact⟨_,x,q⟩)
 .have e:(k+c.toArray.size).toNat=j:=by rw[seqIndex_neg (by omega) m]at d;rw[bz,<-f];exact Option.some.inj d
  exact W.ki_setBack g (by omega) (by rw[bz,<-f];exact m) (by omega) (by rw[e];exact⟨_,x,q⟩)
def qs lo hi n:(sliceBounds lo hi none n).1=((HT.sIx n 0 lo:Nat):Int)/\(sliceBounds lo hi none n).2.1=((HT.sIx n n hi:Nat):Int)/\(sliceBounds lo hi none n).2.2=1:=by
 refine⟨?_,?_,rfl⟩
 .cases lo with
  |none=>simp[sliceBounds,HT.sIx]
  |some i=>
   simp only[sliceBounds,HT.sIx,Option.getD_none,show 1>0 by decide,if_true];by_cases h:i<0
   .simp only[h,if_true]<;>omega
   .simp only[h,if_false]<;>omega
 .cases hi with
  |none=>simp[sliceBounds,HT.sIx]
  |some i=>
   simp only[sliceBounds,HT.sIx,Option.getD_none,show 1>0 by decide,if_true];by_cases h:i<0
   .simp only[h,if_true]<;>omega
   .simp only[h,if_false]<;>omega
def pD(c:List Vq) lo hi:slicePick c.toArray lo hi none=((c.drop (HT.sIx c.length 0 lo)).take (HT.sIx c.length c.length hi-HT.sIx c.length 0 lo)).toArray:=by obtain⟨e,d,f⟩:=qs lo hi c.toArray.size;unfold slicePick;rw[e,d,f];simp only[sliceRange_one,pick_run,bz]<;>rfl
def Fv(K:W.Frag):V->Option Int->Option Int->Hp->VK->Prop:=λx d e H Q=>∃a c,x=.ref a/\ib K H a c/\∀p,H p=none->Q (.ref p) (fw H p (.lst (zM c d e)))
def B9:CK X (Fv X.K):=by intro t s z H x v w p d f u Q I i k l o h;obtain⟨a,c,rfl,g,q⟩:=h;cases i;obtain⟨m,r,e,n⟩:=I.list g;have j:=r.length;refine⟨"list",_,slot_list_getitem.lookup,e.isList.typeIs,?_⟩;refine wpAny_getItem_list_slice e.isList k l o .none (by simp) ?_ (by rw[bz]<;>omega);rw[pD,<-j];refine⟨.ref s.heap.objs.size,_,I.laid (λb y q=>ae _ q) (aK _) ?_,rfl,q _ (I.hok.fresh (aK _))⟩;exact⟨aN (mT c d f) n,_,0,(r.drop (HT.sIx c.length 0 d)).take (HT.sIx c.length c.length f-HT.sIx c.length 0 d),au _ rfl⟩
def qU:gW X (.type "list") (λA H Q=>∃p i,A=[.ref p]/\(ib X.K H p i\/jd X.K H p i)/\∀l,H l=none->Q (.ref l) (fw H l (.lst i))):=by
 intro C s F H A J Q I r h;obtain⟨p,i,rfl,j,q⟩:=h;obtain⟨u,rfl,D⟩:=j1 r;cases D;have m:∀(c:List Vq),dZ i c->i.length<=sizeLine->∀(d:Heap) (f:Nat),(∀b B,s.heap.get? b=some B->d.get? b=some B)->
   d.get? s.heap.objs.size=some {cls:=.type "list",dict:=none,data:=.seq c.toArray f,slots:=#[]}->EP X C F Q (.ref s.heap.objs.size) {s with heap:=d}:=λc g t d f k e=>
  ⟨.ref s.heap.objs.size,_,I.laid k (aK _) (show hW X.prog X.w _ d _ (.lst i) from ⟨t,c,f,g,e⟩),rfl,q _ (I.hok.fresh (aK _))⟩
 rcases j with j|j
 .obtain⟨c,g,z,t⟩:=I.list j;have E:=g.length;obtain⟨o,y,x,n,v⟩:=z.isList;exact call_list_seq p (.inl rfl) y x v (λd f k e=>m c g t d f k e) (by simp only[bz]<;>omega)
 .obtain⟨c,g,z,t⟩:=I.tuple j;have E:=g.length;obtain⟨o,y,x,n,v⟩:=z;exact call_list_seq p (.inr rfl) y x v (λd f k e=>m c g t d f k e) (by simp only[bz]<;>omega)
def px:gW X (.type "tuple") (λk H Q=>∃p d,k=[.ref p]/\((ib X.K H p d/\∀l,H l=none->Q (.ref l) (fw H l (.tup d)))\/(jd X.K H p d/\Q (.ref p) H))):=by
 intro t s y H k A Q I r h;obtain⟨p,d,rfl,h⟩:=h;obtain⟨u,rfl,v⟩:=j1 r;cases v;rcases h with⟨f,q⟩|⟨f,q⟩
 .obtain⟨c,i,j,n⟩:=I.list f;have z:=i.length;refine call_tuple_list j.isList (λg w=>?_) (by simp only[bz]<;>omega);have m:=I.kept (t':=s.toks) w;have x:dF X t y (fw H g.objs.size (.tup d)) {s with heap:=g.push {cls:=.type "tuple",data:=.seq c.toArray}}:=
   m.laid (λb o e=>ae _ e) (aK _) (⟨n,c,i,rj.new _ _⟩)
  exact⟨.ref g.objs.size,_,x,rfl,q _ (m.hok.fresh (aK _))⟩
 .obtain⟨c,i,j,n⟩:=I.tuple f;exact call_tuple_same j ⟨.ref p,H,I,rfl,q⟩
def Gg(K:W.Frag)(T:String)(x:V)(H:Hp):Prop:=match x with
 |.str _=>T = "str"
 |.int _=>T = "int"
 |.ref p=>(T = "list" /\∃d,ib K H p d)\/(T = "tuple" /\∃o,K.lookup p=some o/\o.cls=.type "tuple" /\o.dict=none)\/
   (T = "dict" /\((∃c,H p=some (.dK c))\/∃c,H p=some (.dT c)))\/(T = "set" /\∃S n,H p=some (.set S n))
 |_=>False
theorem DF{q:List (Addr×Obj)}{A:St}{H:Hp}{s:Sq}{T:String}{x:V}{v:Vq}(I:dF X q A H s)(r:eO x v)(g:Gg X.K T x H) :
  s.TypeIs v T/\∀a,v=.ref a->∃l,s.heap.get? a=some l/\l.dict=none:=by
 cases x with
 |str z=>obtain⟨t,rfl⟩:=r;cases (g);exact⟨typeIs_str s z t,λ_ e=>nomatch e⟩
 |int i=>obtain⟨t,rfl⟩:=r;cases (g);exact⟨typeIs_int s i t,λ_ e=>nomatch e⟩
 |ref p=>
  cases r;rcases g with⟨rfl,B,w⟩|⟨rfl,o,d,u,h⟩|⟨rfl,d⟩|⟨rfl,S,n,d⟩
  .obtain⟨y,_,m,_⟩:=I.list w;refine⟨m.isList.typeIs,λa e=>?_⟩;cases e;obtain⟨o,n,e,c,h,_⟩:=m;exact⟨o,e,h⟩
  .refine⟨⟨o,I.kIn p o d,u⟩,λa e=>?_⟩;cases e;exact⟨o,I.kIn _ o d,h⟩
  .have z:∃o,s.heap.get? p=some o/\o.ExactDict:=by
    rcases d with⟨j,d⟩|⟨j,d⟩
    .obtain⟨_,_,_,_,o,_,_,e,f,_⟩:=I.hok p _ d;exact⟨o,e,f⟩
    .obtain⟨_,_,_,_,o,_,_,e,f,_⟩:=I.hok p _ d;exact⟨o,e,f⟩
   obtain⟨o,e,f⟩:=z;refine⟨⟨o,e,f.1⟩,λa k=>?_⟩;cases k;exact⟨o,e,f.2.1⟩
  .obtain⟨o,_,_,_,e,f,_⟩:=I.hok p _ d;refine⟨⟨o,e,f.1⟩,λa k=>?_⟩;cases k;exact⟨o,e,f.2.1⟩
 |_=>exact False.elim g
def He(K:W.Frag)(T:String)(r:V->List V->Hp->VK->Prop)(to:TE)(t:TA):TE:=λd H Q=>to d H λx c=>Gg K T x c/\t d c λf e=>r x f e Q
variable {o e:Expr}{es:List Expr}{to:TE}{t:TA}{name:Str}{apos cpos:Pos}{T id:String}{r:V->List V->Hp->VK->Prop}
def vh(q:PlainAttrs T)(f:Slot T name id)(i:typeOf (.builtin id)=pure (.type "method_descriptor"))(m:Iv X id r)(n:PE X o to)(w:PA X (e::es) t)
  (d:attributeBase o name X.env (eval o X.env)=eval o X.env:=by rfl)
  (g:((backTo cpos (starEach (e::es) X.env)).all (λx=>!x.1)&&(backToKw cpos (keywordEach [] X.env)).all (λx=>x.1.isSome)
   && decide ((e::es).length+([]:List Keyword).length+(if ([]:List Keyword).isEmpty then 0 else 1)<30))=true:=by rfl)
  (c:(apos.endLine==cpos.line)=true:=by rfl) (u:starEach (e::es) X.env=(false,eval e X.env)::starEach es X.env:=by rfl) (hplain:(backTo cpos (starEach es X.env)).any (·.1)=false:=by rfl) :
  PE X (.Call (.Attribute o name apos) (e::es) [] cpos) (He X.K T r to t):=by
 intro j s k H Q I h;refine wpAny_Call_method_late d g c rfl (fL (n j s k H _ I h) λv s1 ⟨x,H1,I1,r1,ty,q1⟩=>?_);obtain⟨y,p⟩:=DF I1 r1 ty;refine⟨T,id,q,f,i,y,p,?_⟩;have l:=w cpos j s1 k H1 _ I1 q1;rw[u]at l ⊢;refine Calls.callWith_builtin (by show (false||(backTo cpos (starEach es X.env)).any (·.1))=false;rw[hplain]<;>rfl) (Calls.evalArgs_plain ?_);exact fL l λus s2 ⟨vs,H2,I2,r2,q2⟩=>m j s2 k H2 x vs v us Q I2 r1 r2 q2
end
end L2
namespace L2
open PySem PySem.Spec PyProof.Rows
def HS(X:Cx)(id:String)(r:V->List V->Hp->VK->Prop):Prop:=
 ∀(d:List (Addr×Obj)) (s:Sq) (c:St) (H:Hp) (x:V) (b:List V) (v:Vq) (a:List Vq) (Q:VK),dF X d c H s->eO x v->dZ b a->r x b H Q->
  wpAny (model X.prog X.w) X.A (call (.builtin id) (v::a)) (EP X d c Q) X.xe s
theorem dZ.one:∀{x} {us},dZ [x] us->∃u,us=[u]/\eO x u
 |_,_,.cons r .nil=>⟨_,rfl,r⟩
theorem dZ.eraseIdx:∀{xs} {us} i,dZ xs us->dZ (xs.eraseIdx i) (us.eraseIdx i)
 |_,_,_,.nil=>.nil
 |_,_,0,.cons _ t=>t
 |_,_,i+1,.cons r t=>.cons r (dZ.eraseIdx i t)
theorem dZ.rep(h:dZ xs us):∀k:Nat,dZ (List.replicate k xs).flatten (List.replicate k us).flatten
 |0=>.nil
 |k+1=>by rw[bN,bN,bO,bO];exact dZ.append h (dZ.rep h k)
theorem p7{a:Type}:∀(l:List a) (i:Nat),(l.eraseIdx i).length<=l.length
 |[],_=>aK _
 |_::_,0=>bF _
 |_::r,i+1=>Nat.succ_le_succ (p7 r i)
theorem pL(b:List Vq):∀k a,
  List.foldl (λf c=>f++c) a.toArray (List.replicate k b.toArray)=(a++(List.replicate k b).flatten).toArray
 |0,a=>by simp
 |k+1,a=>by
  have e:a.toArray++b.toArray=(a++b).toArray:=by simp
  have d:(a++b)++(List.replicate k b).flatten=a++(List.replicate (k+1) b).flatten:=by rw[bN,bO,bP]
  rw[<-d,<-pL b k (a++b),<-e,bN,List.foldl_cons]
section
variable {X:Cx}{dh:List (Addr×Obj)}{σ:St}{H:Hp}{s:Sq}{l b:Addr}{xs ys zs:List V}
def dF.lset{c a:List Vq}(I:dF X dh σ H s)(k:H l=some (.lst xs))
  (e:s.heap.get? l=some {cls:=.type "list",data:=.seq c.toArray n}) (h:f c.toArray=a.toArray) (g:dZ ys a) (i:ys.length<=sizeLine) :
  dF X dh σ (fw H l (.lst ys)) {s with heap:=s.heap.update l (Obj.mapSeq f),toks:=t'}:=by
 have q:=PySem.IsL.update e f;rw[h]at q;refine I.write (by rw[k];exact trivial) (.inl rfl) (λm u d j=>(Heap.get?_update_other s.heap (Obj.mapSeq f) (Ne.symm d)).trans j) ⟨_,q⟩ ?_;exact⟨i,a,_,g,q⟩
def dF.lnew(I:dF X dh σ H s)(a:dZ ys its)(c:ys.length<=sizeLine) :
  dF X dh σ (fw H s.heap.objs.size (.lst ys)) {s with heap:=s.heap.push {cls:=.type "list",data:=.seq its.toArray},toks:=t'}:=
 I.laid (λ_ _ q=>ae _ q) (aK _) ⟨c,its,0,a,au _ rfl⟩
def dF.fresh(I:dF X dh σ H s):H s.heap.objs.size=none:=I.hok.fresh (aK _)
def dF.lstM(I:dF X dh σ H s)(c:H l=some (.lst xs)):xs.length<=sizeLine/\∃a n,dZ xs a/\xs.length=a.length/\s.heap.get? l=some {cls:=.type "list",data:=.seq a.toArray n}:=by obtain⟨z,a,n,r,e⟩:=I.hok l _ c;exact⟨z,a,n,r,r.length,e⟩
def AD(h:n<=sizeLine):Builtin.List.listTooLong n=false:=by unfold Builtin.List.listTooLong;exact aB (by omega)
end
section
variable {X:Cx}
def qO:V->List V->Hp->VK->Prop:=λx b H Q=>∃l a y,x=.ref l/\b=[y]/\H l=some (.lst a)/\a.length<sizeLine/\Q .non (fw H l (.lst (a++[y])))
def mv:HS X "list.append" qO:=by intro g s o H x m v k Q I f d h;obtain⟨l,j,y,rfl,rfl,b,p,q⟩:=h;cases f;obtain⟨u,rfl,c⟩:=d.one;obtain⟨z,a,n,r,i,e⟩:=I.lstM b;refine call_meets F.slot_list_append ⟨_,e,rfl⟩ F.entry_list_append (F.args_list_append_2 _ _) (PySem.list_append l a.toArray n u (by rw[bz];omega)) ⟨e,?_⟩;refine⟨.non,_,I.lset b e (by simp) (r.append (.cons c .nil)) ?_,rfl,q⟩;rw[aT,bQ];omega
def yL:V->List V->Hp->VK->Prop:=λx b H Q=>∃l a i k y,x=.ref l/\b=[.int i]/\H l=some (.lst a)/\-(2 ^ 63)<=i/\i<2 ^ 63/\seqIndex? i a.length=some k/\a[k]? = some y/\Q y (fw H l (.lst (a.eraseIdx k)))
def zb:HS X "list.pop" yL:=by
 intro C s J H x E v D Q I p j h;obtain⟨l,m,i,k,y,rfl,rfl,c,B,A,f,o,q⟩:=h;cases p;obtain⟨u,rfl,d⟩:=j.one;obtain⟨t,rfl⟩:=d;obtain⟨z,b,n,r,g,e⟩:=I.lstM c;obtain⟨w,hw,a⟩:=r.get o;refine call_meets F.slot_list_pop ⟨_,e,rfl⟩ F.entry_list_pop (F.args_list_pop_2 _ _)
  (MeetsSeq.list_pop_at l b.toArray n i t k w (fitsIndex_both B A) (by rw[bz,<-g];exact f) (by rw[<-Array.getElem?_toList];exact hw) (by rw[bz];omega)) ⟨e,?_⟩
 refine⟨y,_,I.lset c e ?_ (r.eraseIdx k) ?_,a,q⟩
 .rw[List.eraseIdxIfInBounds_toArray]
 .have:=p7 m k;omega
def Cz:R2:=λx y H Q=>∃l b c a,x=.ref l/\y=.ref b/\H l=some (.lst c)/\H b=some (.lst a)/\c.length+a.length<=sizeLine/\∀p,H p=none->Q (.ref p) (fw H p (.lst (c++a)))
def rH:kS X (binaryOp .Add) Cz:=by
 intro p s D H x y v u Q I i j h;obtain⟨l,b,A,t,rfl,rfl,k,m,E,q⟩:=h;cases i;cases j;obtain⟨z,c,n,r,w,e⟩:=I.lstM k;obtain⟨B,a,C,g,d,o⟩:=I.lstM m;refine PySem.P.add_list e o ?_ (by rw[bz,bz];omega);have f:c.toArray++a.toArray=(c++a).toArray:=by simp
 rw[f];exact⟨.ref _,_,I.lnew (r.append g) (by rw[aT];omega),rfl,q _ I.fresh⟩
def Gs:R2:=λx y H Q=>∃l k a,x=.ref l/\y=.int k/\H l=some (.lst a)/\-(2 ^ 63)<=k/\k<2 ^ 63/\a.length*k.toNat<=sizeLine/\
 ∀p,H p=none->Q (.ref p) (fw H p (.lst (List.replicate k.toNat a).flatten))
def B3{b:Type}(a:List b) k:(List.replicate k a).flatten.length=k*a.length:=by
 induction k with
 |zero=>simp
 |succ k ih=>rw[bN,bO,aT,ih,bR,Nat.add_comm]
def EW:kS X (binaryOp .Mult) Gs:=by
 intro L s P H x y v u Q I w A h;obtain⟨l,k,N,rfl,rfl,E,D,C,o,q⟩:=h;cases w;obtain⟨t,rfl⟩:=A;obtain⟨z,b,n,r,p,e⟩:=I.lstM E;have B:b.toArray.size*k.toNat<=sizeLine:=by rw[bz,<-p];exact o
 have g:¬b.toArray.size*k.toNat>(2 ^ 63-1) / 8:=by
  have:sizeLine<=(2 ^ 63-1) / 8:=by decide
  omega
 have f:¬(!Builtin.List.listFitsIndex k)=true:=by rw[fitsIndex_both D C];exact aH
 have c:¬Builtin.List.listTooLong (b.toArray.size*k.toNat)=true:=by rw[AD B];exact aH
 have d:List.foldl (λj i=>j++i) #[] (List.replicate (if b.toArray.isEmpty=true then 0 else k.toNat) b.toArray)=(List.replicate k.toNat b).flatten.toArray:=by
  have J:∀m:Nat,List.foldl (λj i=>j++i) #[] (List.replicate m b.toArray)=(List.replicate m b).flatten.toArray:=λm=>by have:=pL b m [];rw[List.nil_append]at this;exact this
  rw[J];cases b with
  |nil=>simp
  |cons a r'=>rw[aR (by simp)]
 refine wpAny_binaryOp_repeat_ref (by decide) ⟨_,e,rfl⟩ (λK=>typeIs_int K k t) noFill_list_mul F.fills_int_mul F.slot_int_rmul repeat_list F.slot_int_index.lookup
  (call_meets F.slot_int_rmul (typeIs_int s k t) F.entry_int_rmul (F.args_int_rmul_2 _ _) (int___rmul___int_list k t l b.toArray n)
   ⟨e,rfl,⟨_,e,rfl⟩,call_meets F.slot_list_mul ⟨_,e,rfl⟩ F.entry_list_mul (F.args_list_mul_2 _ _) (AutoListH.list___mul___list_int_3 l b.toArray n k t f g c) ⟨e,?_⟩⟩)
 rw[d];exact⟨.ref _,_,I.lnew (r.rep k.toNat) (by rw[B3,Nat.mul_comm];exact o),rfl,q _ I.fresh⟩
end
end L2
namespace Att
open PySem PySem.W PySem.Calls PyProof.Rows
def m5:∀c vs,WellAll P h vs (c.map WData.int)->IntsAre vs c:=by
 intro c;induction c with
 |nil=>intro vs w;rw[List.map_nil]at w;cases w;exact .nil
 |cons n c ih=>
  intro vs w;rw[bB]at w;cases w with
  |cons a b=>cases a;exact .cons _ _ (ih _ b)
theorem script_of{l:OpenLaw}(s:l.most=some n)
  (c:l.row.toRowW.claim.pre args=true) (g:WellAll P h vals args) :
  ∃a vs b,vals=[Value.ref a]/\args=[WData.list (b.map WData.int)]/\h.get? a=some {cls:=.type "list",data:=.seq vs.toArray}/\IntsAre vs b/\b.length<=n:=by
 have i:=(pre_splitW c).1;have j:l.pre.holds [] {args:=args}=true:=(pre_splitW c).2;obtain⟨d,r,rfl,p,o⟩:=hasAllW_cons i;obtain rfl:=hasAllW_nil o;obtain⟨t,rfl,k⟩:=hasW_list p;obtain⟨b,rfl⟩:=items_int k;have m:b.length<=n:=by
  unfold OpenLaw.pre at j;have f:(WTm.not (.lt (.lit (.int n)) (.len (.arg 0)))).holds [] {args:=[.list (b.map .int)]}=true:=by have f:=(holds_andW j).1;rw[s]at f;exact f
  have e:=condW_of f (w_not (w_lt w_lit (w_len_list (w_arg rfl))));rw[ax]at e;refine bS λq=>?_;first
   | (rw[aC q']at e;exact absurd e (by decide))
   | (simp at e;omega)
 cases g with
 |cons w1 w2=>
  cases w2;cases w1 with
  |list ho CA=>exact⟨_,_,b,rfl,rfl,ho,m5 b _ CA,m⟩
def post_true(l:OpenLaw) args:l.row.toRowW.claim.post args (.bool true) args=true:=
 postW_of
  (show WShape.has [] (.bool true) .bool=true by first|rfl|decide|simp[WShape.has,WShape.arms,WShape.armsAll])
  (w_eq_bool (w_res rfl) w_lit) rfl
end Att
namespace L2
open PySem PySem.Spec PyProof.Rows
theorem qe:∀{vs} {ns},IntsAre vs ns->dZ (ns.map V.int) vs
 |_,_,.nil=>.nil
 |_,_,.cons n t h=>.cons ⟨t,rfl⟩ (qe h)
def Dk(H:Hp):Prop:=∀b,H b=none\/∃o a,H b=some (.frz o (.lst a))
theorem yu{K:W.Frag}
  (KX:K.In s₁.heap) (p:s₁.heap.Ns mainGlobals mg) (c:s₁.heap.Ns builtinsNs mb) (R:∀x:Str,x≠ "__name__" ->mb x=bootBuiltins x) (t:s₁.heap.NoLimit) (hg:s₁.gens = #[])
  (L:s₁.heap.get? a=some {cls:=.type "list",data:=.seq vs.toArray}) (hi:IntsAre vs ns) (Z:ns.length<=sizeLine) (hr:eD k callerA)
  (F:∀f:Heap,K.In f->f.Ns mainGlobals mg->iU P w K mg f CX k fa fd [x] sp) (l:∀(s:Sq) (u:Vq),BindsTo s fd ⟨[u],[]⟩ [(x,u)])
  (X:∀H:Hp,Dk H->ib K H a (ns.map V.int)->sp [.ref a] H (λv _=>v=.bl true) λ_ _ _=>False)
  (S:∀H e g,CX [] H s₁ (λ_ _ _=>False) e g->False) :
  codeAny (model P w) callerA (.call (.ref fa) ⟨[.ref a],[]⟩) (λr g=>r=.ok (.ret (.bool true))/\OldK s₁.heap g.heap/\g.os=s₁.os/\AllBare g.gens) s₁:=by
 have rv:=qe hi;have D:=hi.length;have j:∀H:Hp,Dk H->ib K H a (ns.map V.int)->lF P w H s₁.heap->(∀b,H b≠none->b=a)->(H a≠none->K.lookup a=none)->
   codeAny (model P w) callerA (.call (.ref fa) ⟨[.ref a],[]⟩) (λr g=>r=.ok (.ret (.bool true))/\OldK s₁.heap g.heap/\g.os=s₁.os/\AllBare g.gens) s₁:=by
  intro H Y hS y hA hK;have base_of:∀{b:Addr} {o:Obj},s₁.heap.get? b=some o->H b=none->(qo s₁.heap H).get? b=some o:=λe n=>zm e n;have Q:∀{b:Addr} {o:Obj} {I:Array DictEntry} {J:Nat},s₁.heap.get? b=some o->o.data=.dict I J->H b=none:=λ{b o I J} e d=>by
   cases q:H b with
   |none=>rfl
   |some u=>have U:=hA b (by rw[q];simp);subst U;rw[L]at e;cases e;have d':=d;cases d'
  have i:∀{b:Addr} {m:Str->Option Value},s₁.heap.Ns b m->(qo s₁.heap H).Ns b m:=λ{b m} ⟨o,I,J,e,d,r⟩=>⟨o,I,J,base_of e (Q e d),d,r⟩;have B:K.In (qo s₁.heap H):=λb o e=>base_of (KX b o e) (by
   cases q:H b with
   |none=>rfl
   |some u=>have U:=hA b (by rw[q];simp);subst U;rw[hK (by rw[q];simp)]at e;cases e)
  have hM:Mod K mg (qo s₁.heap H):=⟨B,i p,⟨mb,i c,R⟩,let ⟨mc,h1,h2⟩:=t;⟨mc,i h1,h2⟩⟩;have e0:rB P w K mg (qo s₁.heap H) callerA [] s₁ H:=⟨rfl,hM,λb o e=>Bb e,Nat.le_of_eq (wK _ _),trivial,λb c=>absurd (show b∈([]) from c) (by simp),y,.of_eq hg⟩;refine codeAny_mono ((F _ B (i p)).run callerA [] s₁ H ⟨[.ref a],[]⟩ [.ref a] [.ref a] _ _ hr e0 (l s₁ (.ref a)) (.cons rfl .nil) (X H Y hS)) λr g h=>?_;cases r with
  |error e=>exact (S H e g h).elim
  |ok fl=>
   cases fl with
   |next=>exact False.elim h
   |brk=>exact False.elim h
   |cont=>exact False.elim h
   |ret u=>
    obtain⟨v,H',os,A,un,E,r',q⟩:=h;have q':=q;subst q';obtain rfl:u=Value.bool true:=r';refine⟨rfl,OldK.of_keep λb o e=>?_,os,A⟩;cases q:H b with
    |none=>exact un.keep b o e q (by intro z;exact absurd (show b∈([]) from z) (by simp)) (by simp)
    |some u=>
     rcases Y b with z|⟨ob,xs,z⟩
     .rw[q]at z;cases z
     .have z2:=un.frzs b ob _ z;obtain⟨e1,_⟩:=y b _ z;obtain⟨e2,_⟩:=E b _ z2;rw[e]at e1;cases e1;exact e2
 cases N:K.lookup a with
 |some o=>have e:=KX a o N;rw[L]at e;cases e;refine j (λ_=>none) (λ_=>.inl rfl) (.inr ⟨_,vs.toArray,_,N,rfl,rfl,rfl,by rw[bz,D];exact Z,by simpa using rv⟩) (λb u z=>by have C:=z;cases C) (λb z=>absurd rfl z) λz=>absurd rfl z
 |none=>
  refine j (λb=>if b=a then some (.frz {cls:=.type "list",data:=.seq vs.toArray} (.lst (ns.map V.int))) else none) (λb=>?_) (.inl (.inr ⟨{cls:=.type "list",data:=.seq vs.toArray},aQ rfl⟩)) (λb u z=>?_) (λb z=>?_) λ_=>N
  .by_cases c:b=a
   .exact .inr ⟨_,_,aQ c⟩
   .exact .inl (aR c)
  .by_cases c:b=a
   .have C:=(aQ c).symm.trans z;cases C;subst c;exact⟨L,by rw[ax];exact Z,vs,_,rv,L⟩
   .have C:=(aR c).symm.trans z;cases C
  .by_cases c:b=a
   .exact c
   .exact absurd (aR c) z
end L2
namespace L2
open PySem PySem.Spec PyProof.Rows
noncomputable def jn(s:Stmt)(j:Nat):Stmt:=match s with
 |.ClassDef _ _ _ body _ _ _ _ _ _ _=>body.getD j (.Pass ⟨0,0,0,0⟩)
 |_=>.Pass ⟨0,0,0,0⟩
noncomputable def eV(s:Stmt):Arguments:=match s with
 |.FunctionDef _ a _ _ _ _ _ _ _ _=>a
 |_=>{posonlyargs:=[],args:=[],vararg:=none,kwonlyargs:=[],kw_defaults:=[],kwarg:=none,defaults:=[]}
noncomputable def dU(s:Stmt):List Stmt:=match s with
 |.FunctionDef _ _ b _ _ _ _ _ _ _=>b
 |_=>[]
noncomputable def dt(s:Stmt):Scope:=match s with
 |.FunctionDef _ _ _ _ _ _ sc _ _ _=>sc
 |_=>{kind:=.function,names:=[],isGenerator:=false,isCoroutine:=false}
abbrev mx:AW:=λ_ _ _ _ _ _=>False
abbrev E0:XK:=λ_ _ _=>False
def yV:ja mx X E0:=λ_ _ _ _ _ _ _ h=>h.elim
structure AQ(K:W.Frag)(x qual:Str)(st:Stmt)(f:Addr)(fd:FuncData):Prop where
 ex:∃(oc:Vq) (od:Oq Addr) (kV doc pm:Vq) (an:Oq Addr) (cdv ct:Vq) (osl:Array (Option Value)),
  fd=W.fnOf x qual (eV st) (dU st) (dt st) .none kV doc pm an cdv ct/\K.lookup f=some ⟨oc,od,.func fd,osl⟩/\W.codeIn K cdv qual=true
 kp:W.keepIn K (.ref f)=true
section
variable {P:Program}{w:World}{K:W.Frag}{mg:Str->Option Value}{base:Heap}
def AQ.ok{st:Stmt}(F:AQ K x qual st f fd)(S:eB N ps (dt st))(d:∀vs H Q E,sp vs H Q E->vs.length=ps.length)
  (c:∀b A a s H vs Q E,eD k (A.deeper (envOfC qual (dt st) s.heap.objs.size f b))->sp vs H Q E->
   ∃t,mW (fK mx P w K mg base N qual (dt st) f b A a s H E).nox (dU st) t/\t {nx:=λ_ j=>Q .non j,rt:=Q} (fT N vs) H):iU P w K mg base mx (k+1) f fd ps sp:=by
 obtain⟨o,u,kV,i,p,n,b,r,m,rfl,l,g⟩:=F.ex;refine CU l g S d λA a s H vs Q E hr e=>?_;obtain⟨t,h,q⟩:=c b A a s H vs Q E hr e;exact⟨t,h.nox,q⟩
def AQ.binds{st:Stmt}(F:AQ K x qual st f fd)
  (h:∀(kV b c:Vq) (e:Oq Addr) (a d:Vq) (us:List Vq),us.length=ps.length->bindArgs (W.fnOf x qual (eV st) (dU st) (dt st) .none kV b c e a d) ⟨us,[]⟩=pure (ps.zip us)):jY K fd ps []:=by
 obtain⟨k,l,kV,b,c,e,a,d,g,rfl,j,i⟩:=F.ex;exact .all (h kV b c e a d)
def uU{st:Stmt}{kV b d a e:Vq}(l:K.lookup f=some ⟨oc,od,.func (W.fnOf x qual (eV st) (dU st) (dt st) .none kV b d an a e),osl⟩)
  (c:W.codeIn K a qual=true) (k:W.keepIn K (.ref f)=true):AQ K x qual st f (W.fnOf x qual (eV st) (dU st) (dt st) .none kV b d an a e):=⟨⟨oc,od,kV,b,d,an,a,e,osl,rfl,l,c⟩,k⟩
end
section
variable {X:Cx}
def pv i (d:X.N[i]? = some x:=by rfl) (b:GK X.env.scope x:=by first|exact Or.inl rfl|exact Or.inr (Or.inl rfl)|exact Or.inr (Or.inr rfl)) (c:(x==("__debug__" : Str))=false:=by decide)
  (a:(x==("__classdict__" : Str))=false:=by decide):PE X (.Name x pos) (gQ i):=EO d b c a
end
def dG(H a:Hp):Prop:=∀b o,H b=some o->a b=some o
def dG.refl H:dG H H:=λ_ _ h=>h
def dG.trans(a:dG H H1)(b:dG H1 H2):dG H H2:=λc o h=>b c o (a c o h)
def dG.seq{K:W.Frag}(e:dG H H')(h:ib K H a xs):ib K H' a xs:=by
 rcases h with (h|⟨o,h⟩)|h
 .exact .inl (.inl (e _ _ h))
 .exact .inl (.inr ⟨o,e _ _ h⟩)
 .exact .inr h
end L2
namespace L2
open PySem PySem.Spec PyProof.Rows
section
variable {P:Program}{w:World}{H:Hp}{h:Heap}{a:Addr}{o:HO}
def lF.track(ok:lF P w H h)(f:H a=none)(new:hW P w (fw H a o) h a o):lF P w (fw H a o) h:=λb u e=>by
 by_cases d:b=a
 .subst d;rw[dA]at e;cases e;exact new
 .rw[dH d]at e;refine (ok b u e).stay (λ_ _ _ q=>q) (λc q=>?_) λc g q=>?_
  .rw[dH (dS q f)];exact q
  .rw[dH (dS q f)];exact q
end
def dF.track(I:dF X dh σ H s)(d:H a=none)(j:a∈X.ex\/X.s₀.heap.objs.size<=a)
  (h:a≠X.env.locals) (i:∀x c,X.env.cells.lookup x=some c->c≠a) (g:∀p∈X.pn++dh,p.1≠a) (new:hW X.prog X.w (fw H a o) s.heap a o):dF X dh σ (fw H a o) s:=by
 have J:=I.step (t':=s.toks) (d':=s.drawn) (ch:=[a])
  (λb f=>by
   have e:b=a:=by simpa using f
   subst e;exact⟨j,h,i,g⟩)
  (λ_ _ _ _ _ e _=>e) (λ_ u _ _ _ e _=>⟨u.slots,e⟩)
  (λb u f _ n=>by rw[dH (by simpa using f)];exact n)
  (λ_ u _ e=>⟨u,e⟩)
  (λb l q=>by rw[dH (dS q d)];exact q)
  (λb u v q=>by rw[dH (dS q d)];exact q)
  (λb k q=>⟨#[],by rw[dH (dS q d),q];simp⟩)
  (λ_ q=>q) (I.hok.track d new) I.bare
 exact J
noncomputable def iL(a:Env):List (Str×NameKind)->List (Str×Addr)->List (Str×Addr)
 |[],acc=>acc
 | (n,k)::r,acc=>if k==NameKind.free then (match a.cells.lookup n with
  |some c=>iL a r ((n,c)::acc)
  |none=>iL a r acc) else iL a r acc
def kY(h:∀y∈scope.names,y.2=.free->∃c,env.cells.lookup y.1=some c):closureFor scope env=pure (iL env scope.names []):=by
 have all:∀(l:List (Str×NameKind)) b,(∀y∈l,y.2=.free->∃c,env.cells.lookup y.1=some c)->
   (forIn l b λx m=>(if (x.2==NameKind.free)=true then (do
    let a <-cellOf env x.1
    pure (ForInStep.yield ((x.1,a)::m))) else pure (ForInStep.yield m):Sem _))=pure (iL env l b):=by
  intro l;induction l with
  |nil=>intro b _;rfl
  |cons y r ih=>
   intro b g;obtain⟨n,k⟩:=y;rw[bT];by_cases f:(k==NameKind.free)=true
   .obtain⟨c,o⟩:=g (n,k) bh (by simpa using f);have d:=o;have e:cellOf env n=pure c:=by unfold cellOf;rw[d]
    simp only[f,if_true,e,pure_bind];rw[ih _ λy j=>g y (bj _ j)];show pure (iL env r ((n,c)::b))=pure (if (k==NameKind.free)=true then (match env.cells.lookup n with
     |some c=>iL env r ((n,c)::b)
     |none=>iL env r b) else iL env r b)
    rw[aQ f,d]
   .have i:(k==NameKind.free)=false:=by simpa using f
    simp only[i,bU,if_false,pure_bind];rw[ih _ λy j=>g y (bj _ j)];show pure (iL env r b)=pure (if (k==NameKind.free)=true then (match env.cells.lookup n with
     |some c=>iL env r ((n,c)::b)
     |none=>iL env r b) else iL env r b)
    rw[aR f]
 have:=all scope.names [] h;unfold closureFor;simp only[pure_bind,bind_pure]at this ⊢;exact this
theorem iE:∀{l} {acc},(∀y d,acc.lookup y=some d->env.cells.lookup y=some d)->(iL env l acc).lookup x=some c->env.cells.lookup x=some c
 |[],acc,ha,h=>ha x c h
 | (n,k)::r,acc,ha,h=>by
  unfold iL at h;by_cases b:(k==NameKind.free)=true
  .rw[aQ b]at h;cases e:env.cells.lookup n with
   |none=>rw[e]at h;exact iE ha h
   |some d=>
    rw[e]at h;refine iE (λy d' a=>?_) h;rw[bV]at a;cases q:y==n with
    |true=>rw[q]at a;cases a;rw[beq_iff_eq.mp q];exact e
    |false=>rw[q]at a;exact ha y d' a
  .rw[aR b]at h;exact iE ha h
theorem kL:∀{l} {acc},(∃c,acc.lookup x=some c)->∃c,(iL env l acc).lookup x=some c
 |[],_,h=>h
 | (n,k)::r,acc,h=>by
  unfold iL;by_cases a:(k==NameKind.free)=true
  .rw[aQ a];cases e:env.cells.lookup n with
   |none=>exact kL h
   |some d=>
    refine kL ?_;rw[bV];cases q:x==n with
    |true=>exact⟨d,rfl⟩
    |false=>exact h
  .rw[aR a];exact kL h
theorem jM:∀{l} {acc},(x,NameKind.free)∈l->(∃c,env.cells.lookup x=some c)->∃c,(iL env l acc).lookup x=some c
 | (n,k)::r,acc,b,a=>by
  rcases aF.mp b with e|b
  .cases e;obtain⟨c,a⟩:=a;unfold iL;rw[aQ (by rfl),a];refine kL ⟨c,?_⟩;rw[bV,beq_self_eq_true]
  .unfold iL;by_cases f:(k==NameKind.free)=true
   .rw[aQ f];cases env.cells.lookup n with
    |none=>exact jM b a
    |some d=>exact jM b a
   .rw[aR f];exact jM b a
def lZ(h:(relabel scope env).names.lookup x=some .cell\/(relabel scope env).names.lookup x=some .free):(x,NameKind.free)∈scope.names\/scope.names.lookup x=some .cell:=by
 have all:∀(l:List (Str×NameKind)),∀k,(k=NameKind.cell\/k=NameKind.free)->
   (l.map λ(n,k)=>if (k==NameKind.free&&env.scope.kind==.function&&env.kindOf n==some .cell) then (n,NameKind.cell) else (n,k)).lookup x=some k->(x,NameKind.free)∈l\/l.lookup x=some .cell:=by
  intro l;induction l with
  |nil=>intro k _ h;simp at h
  |cons y r ih=>
   intro k c h;obtain⟨n,b⟩:=y;rw[bB]at h;by_cases a:(b==NameKind.free&&env.scope.kind==.function&&env.kindOf n==some .cell)=true
   .have d:b=.free:=by simp only[bM,beq_iff_eq]at a;exact a.1.1
    simp only[a,if_true]at h;rw[bV]at h;cases q:x==n with
    |true=>rw[d,beq_iff_eq.mp q];exact .inl bh
    |false=>
     rw[q]at h;rcases ih k c h with z|z
     .exact .inl (bj _ z)
     .exact .inr (by rw[bV,q];exact z)
   .simp only[a,bU,if_false]at h;rw[bV]at h;cases q:x==n with
    |true=>
     rw[q]at h;have e:b=k:=by simpa using h
     rcases c with rfl|rfl
     .exact .inr (by rw[bV,q,e])
     .rw[e,beq_iff_eq.mp q];exact .inl bh
    |false=>
     rw[q]at h;rcases ih k c h with z|z
     .exact .inl (bj _ z)
     .exact .inr (by rw[bV,q];exact z)
 rcases h with h|h
 .exact all scope.names _ (.inl rfl) h
 .exact all scope.names _ (.inr rfl) h
def qw(h:scope.names.lookup x=some .free):(relabel scope env).names.lookup x=some .cell\/(relabel scope env).names.lookup x=some .free:=by
 have all:∀(l:List (Str×NameKind)),l.lookup x=some .free->
   (l.map λ(n,k)=>if (k==NameKind.free&&env.scope.kind==.function&&env.kindOf n==some .cell) then (n,NameKind.cell) else (n,k)).lookup x=some .cell\/
   (l.map λ(n,k)=>if (k==NameKind.free&&env.scope.kind==.function&&env.kindOf n==some .cell) then (n,NameKind.cell) else (n,k)).lookup x=some .free:=by
  intro l;induction l with
  |nil=>intro h;simp at h
  |cons y r ih=>
   intro h;obtain⟨n,k⟩:=y;rw[bB];rw[bV]at h;cases q:x==n with
   |true=>
    rw[q]at h;have b:k=.free:=by simpa using h
    by_cases a:(k==NameKind.free&&env.scope.kind==.function&&env.kindOf n==some .cell)=true
    .refine .inl ?_;simp only[a,if_true];rw[bV,q]
    .refine .inr ?_;simp only[a,bU,if_false];rw[bV,q,b]
   |false=>
    rw[q]at h;by_cases a:(k==NameKind.free&&env.scope.kind==.function&&env.kindOf n==some .cell)=true
    .simp only[a,if_true];rw[bV,q];exact ih h
    .simp only[a,bU,if_false];rw[bV,q];exact ih h
 exact all scope.names h
def wN(X:Cx)(a:List Expr)(t:TT):Prop:=
 ∀(d:List (Addr×Obj)) (s:Sq) (b:St) (H:Hp) (Q:Bool->Hp->Prop),dF X d b H s->t b H Q->
  wpAny (model X.prog X.w) X.A (forIn a true λc r=>if r=true then do let ok <-isTrue c X.env (eval c X.env);pure (ForInStep.yield ok) else pure (ForInStep.yield r)) (TP X d b Q) X.xe s
def DM:TT:=λ_ H Q=>Q true H
def Ct:wN X [] DM:=λ_ _ _ H _ I h=>wpAny_tests_nil ⟨H,I,h⟩
def B0(a:PT X c t):wN X [c] t:=λd s b H Q I h=>wpAny_tests_one (a d s b H Q I h)
theorem i8:∀a k b,(cellsFrom k a b).lookup x=some c->b.lookup x=some c\/(k<=c/\(x,NameKind.cell)∈a)
 |[],_,_,h=>.inl h
 | (n,kd)::r,k,b,h=>by
  unfold cellsFrom at h;split at h
  .rename_i e;rcases i8 r _ _ h with q|⟨q,m⟩
   .rw[bV]at q;cases d:x==n with
    |true=>rw[d]at q;cases q;refine .inr ⟨aK _,?_⟩;rw[beq_iff_eq.mp d,beq_iff_eq.mp e];exact bh
    |false=>rw[d]at q;exact .inl q
   .exact .inr ⟨bW q,bj _ m⟩
  .rcases i8 r _ _ h with q|⟨q,m⟩
   .exact .inl q
   .exact .inr ⟨q,bj _ m⟩
theorem iH:∀a k b,(x,NameKind.cell)∉a->(cellsFrom k a b).lookup x=b.lookup x
 |[],_,_,_=>rfl
 | (n,kd)::r,k,b,h=>by
  unfold cellsFrom;have hr:(x,NameKind.cell)∉r:=λz=>h (bj _ z);split
  .rename_i d;rw[iH r _ _ hr,bV];cases c:x==n with
   |true=>exact absurd (by rw[beq_iff_eq.mp c,beq_iff_eq.mp d];exact bh) h
   |false=>rfl
  .exact iH r _ _ hr
theorem jy:∀a k b,(x,NameKind.cell)∈a->(cellsFrom k a b).lookup x=some c->k<=c
 |[],_,_,h,_=>nomatch h
 | (n,kd)::r,k,b,h,e=>by
  unfold cellsFrom at e;by_cases hr:(x,NameKind.cell)∈r
  .split at e
   .exact bW (jy r _ _ hr e)
   .exact jy r _ _ hr e
  .rcases aF.mp h with q|q
   .cases q;rw[aQ (by rfl),iH r _ _ hr,bV,beq_self_eq_true]at e;cases e;exact aK _
   .exact absurd q hr
theorem jw:∀d k a,(∀x y c,a.lookup x=some c->a.lookup y=some c->x=y)->(∀x c,a.lookup x=some c->c<k)->
  ∀x y c,(cellsFrom k d a).lookup x=some c->(cellsFrom k d a).lookup y=some c->x=y
 |[],_,_,h,_=>h
 | (n,kd)::r,k,a,h,hl=>by
  unfold cellsFrom;split
  .refine jw r (k+1) ((n,k)::a) (λx y c b e=>?_) λx c b=>?_
   .rw[bV]at b e;cases f:x==n with
    |true=>
     cases g:y==n with
     |true=>rw[beq_iff_eq.mp f,beq_iff_eq.mp g]
     |false=>rw[f]at b;rw[g]at e;cases b;exact absurd (hl _ _ e) (a9 _)
    |false=>
     rw[f]at b;cases g:y==n with
     |true=>rw[g]at e;cases e;exact absurd (hl _ _ b) (a9 _)
     |false=>rw[g]at e;exact h x y c b e
   .rw[bV]at b;cases f:x==n with
    |true=>rw[f]at b;cases b;exact bC _
    |false=>rw[f]at b;exact bX (hl x c b)
  .exact jw r k a h hl
theorem jh:∀a h b,(cellsFrom h.objs.size a b).lookup x=some c->b.lookup x=some c\/(h.objs.size<=c/\(pushCells h a).IsCell c none)
 |[],_,_,e=>.inl e
 | (n,kd)::r,h,b,e=>by
  unfold cellsFrom at e;unfold pushCells;split at e
  .rename_i d;rw[aQ d];have g:(cellsFrom (h.push {cls:=.type "cell",data:=.cell none}).objs.size r ((n,h.objs.size)::b)).lookup x=some c:=by rw[Heap.size_push];exact e
   rcases jh r _ _ g with q|⟨q,m⟩
   .rw[bV]at q;cases f:x==n with
    |true=>rw[f]at q;cases q;exact .inr ⟨aK _,_,pushCells_keeps r _ _ _ (au _ rfl),rfl⟩
    |false=>rw[f]at q;exact .inl q
   .rw[Heap.size_push]at q;exact .inr ⟨bW q,m⟩
  .rename_i d;rw[aR d];exact jh r _ _ e
def mn{M:Model}{A:Around}{E:Vq->Shared->Prop}{s:Sq}{a:Scope}{globals:Addr}{closure:List (Str×Addr)}{c:Str}{e:Oq Addr}{d:Vq}{b:Env}{builtins:Addr}{Q:Env->Shared->Prop}
  (j:Q (newEnv a s.heap.objs.size globals (cellsFrom (s.heap.objs.size+1) a.names closure) c e d (some b) builtins) {s with heap:=pushCells (s.heap.push {cls:=.type "dict",data:=.dict #[]}) a.names}) :
  wpAny M A (newFunctionEnv a globals closure [] c e d (some b) builtins) Q E s:=by
 simp only[newFunctionEnv,Option.isSome_some,if_true];refine aq (wpAny_alloc ?_);refine aq (wpAny_layCells _ (λi f h=>by cases g:f==NameKind.cell<;>simp[g]) _ _ _ _ ?_);rw[show ({s with heap:=s.heap.push {cls:=.type "dict",data:=.dict #[]}}:Sq).heap.objs.size=s.heap.objs.size+1 from Heap.size_push ..];rw[bY];exact aq (ao (ao j))
noncomputable def iY(X:Cx)(N:List Str)(a:Scope)(C:Addr)(b:Sq)(H:Hp)(ex:List Addr)(pn:List (Addr×Obj)):Cx:={X with N:=N,s₀:=b,H₀:=H,env:=compEnvC a (cellsFrom (C+1) a.names (iL X.env a.names [])) C X.env,outer:=X.stack,ex:=ex,fn:=λx=>a.names.lookup x==some .cell,pn:=pn,xe:=λ_ _=>False}
noncomputable def pull(a:List (Option Nat))(b:St):St:=a.map fun
 |none=>none
 |some j=>(b[j]?).getD none
def HZ(J:It)(k:List (Option Nat))(g:TG)(j:TT)(l:TE)(p:St)(h:Hp)(Q:VK):Prop:=∃W:Nat->Nat->List V->Hp->Prop,(∃m,W 0 m [] h)/\∀i m c H,W i m c H->
 (J.stop i H/\∀D,H D=none->Q (.ref D) (fw H D (.lst c)))\/
 (J.go i H/\c.length<sizeLine/\∀x e,J.yld i H x e->g x (pull k p) e λa o=>j a o λb f=>if b=true then l a f λy n=>∃d,d<m/\W (i+1) d (c++[y]) n else ∃d,d<m/\W (i+1) d c f)
def zL(e:List (Option Nat))(d:TI)(g:TG)(f:TT)(b:TE):TE:=λa H Q=>d a H λJ c=>HZ J e g f b a c Q
end L2
namespace L2
open PySem PySem.Spec PyProof.Rows
section
variable {prog:Program}{w:World}{A:Around}{R:Result->Shared->Prop}{s:Sq}
theorem qq{q F g:Expr}{t:List Expr}{b:Scope}{y:Pos}{it p:Vq}{a:Env}(J:Nat->Shared->Prop)
  (C:∀n s,J n s->wpAny (model prog w) A (pyNext it) (λr d=>match r with
   |none=>R (.ok .next) d
   |some v=>wpAny (model prog w) A (letOwnedTupleGo F it v) (λ_ k=>wpAny (model prog w) A (assign F a v) (λ_ o=>
     wpAny (model prog w) A (forIn t true λc r=>if r=true then do let ok <-isTrue c a (eval c a);pure (ForInStep.yield ok) else pure (ForInStep.yield r)) (λok e=>
      if ok=true then wpAny (model prog w) A (eval q a) (λx l=>wpAny (model prog w) A (call (.builtin "list.append") [p,x]) (λ_ f=>∃m,m<n/\J m f) (λ_ _=>False) l) (λ_ _=>False) e
      else ∃m,m<n/\J m e) (λ_ _=>False) o) (λ_ _=>False) k) (λ_ _=>False) d) (λ_ _=>False) s)
  (n:Nat) (h:J n s):codeAny (model prog w) A (.compLoop (.ListComp q [⟨F,g,t,0⟩] b y) 0 it p a) R s:=by
 refine codeAny_loop rfl J (λn s H=>?_) n h;show wpAny _ A ((compTurn (.ListComp q [⟨F,g,t,0⟩] b y) 0 it p a).onRaise (λx=>do noteFrame x a;theTreesLotGoes x)) _ _ s;refine wpAny_noted ?_;rw[compTurn_list];refine aq (wpAny_standAt (aq (wpAny_mono (C n s H) (λr d j=>?_) λ_ _ z=>z.elim)));cases r with
 |none=>exact ao j
 |some v=>
  refine aq (wpAny_mono j (λ_ k u=>?_) λ_ _ z=>z.elim);refine aq (wpAny_mono u (λ_ o B=>aq (wpAny_mono B (λok e i=>?_) λ_ _ z=>z.elim)) λ_ _ z=>z.elim);cases ok with
  |false=>exact ao ⟨rfl,i⟩
  |true=>exact aq (aq (wpAny_mono i (λx l E=>aq (wpAny_mono E (λ_ f D=>ao (ao ⟨rfl,D⟩)) λ_ _ z=>z.elim)) λ_ _ z=>z.elim))
end
def jQ(d:List (Option Nat))(g:TG):Prop:=∀x a H Q,g x a H Q->g x a H λb c=>(∀i j:Nat,d[i]? = some (some j)->b[i]? = a[i]?)/\Q b c
def nX(a:ix[k]? = some none):jQ ix (fH k):=λx b H Q h=>by
 refine⟨λi j e=>?_,h⟩;have:k≠i:=by rintro rfl;rw[a]at e;cases e
 rw[ar this]
abbrev pA(us:List Vq):Obj:={cls:=.type "list",data:=.seq us.toArray us.length}
section
variable {X:Cx}{tg elt iter:Expr}{ifs:List Expr}{scope:Scope}{pos:Pos}{N:List Str}{ix:List (Option Nat)}{wi:TI}{g:TG}{tt:TT}{te:TE}
structure sR(X:Cx)(scope:Scope)(N:List Str)(ix:List (Option Nat)):Prop where
 kind:scope.kind=.function
 sep:∀y∈scope.names,y.2=.cell->scope.names.lookup y.1=some .cell
 names:∀y∈scope.names,y.2=.local->scope.names.lookup y.1=some .local
 fre:∀y∈scope.names,y.2=.free->∃c,X.env.cells.lookup y.1=some c
 len:N.length=ix.length
 ix:∀(i j:Nat) (x:Str),N[i]? = some x->ix[i]? = some (some j)->X.N[j]? = some x/\scope.names.lookup x=some .free/\GK X.env.scope x/\X.env.kindOf x≠some .local
def FZ(L:sR X scope N ix)(I:dF X dh σ H s)(f:∀b∈fp,m3 X dh H b)(i:∀b∈fp,b<s.heap.objs.size) o :
  (iY X N scope (s.heap.objs.size+1) {s with heap:=s.heap.push o} H (s.heap.objs.size::fp) (X.pn++dh)).Ok:=by
 have v:dF X dh σ H {s with heap:=s.heap.push o}:=I.kept λb u e=>ae _ e;have sound0:∀x c,(iL X.env scope.names []).lookup x=some c->X.env.cells.lookup x=some c:=λx c e=>iE (λy d z=>by simp at z) e;have cellLt:∀x c,X.env.cells.lookup x=some c->c<s.heap.objs.size:=λx c e=>let ⟨_,q⟩:=I.cell x c e;q.lt;have h:∀x c,(cellsFrom (s.heap.objs.size+1+1) scope.names (iL X.env scope.names [])).lookup x=some c->X.env.cells.lookup x=some c\/s.heap.objs.size+1+1<=c:=λx c e=>by
  rcases i8 _ _ _ e with q|⟨q,_⟩
  .exact .inl (sound0 x c q)
  .exact .inr q
 refine⟨I.ok.mod,L.kind,I.ok.glob,I.ok.blt,?_,jw _ _ _ (λx y c j m=>I.ok.inj x y c (sound0 x c j) (sound0 y c m)) (λx c j=>bX (bX (cellLt x c (sound0 x c j)))),λx t=>?_,λx c j m=>?_,I.ok.hd,I.ok.frames,.inl rfl,λb a=>?_,λb u e=>?_,?_,λb u e a=>?_,λb a=>?_,v.stack,I.stkFree⟩
 .show (s.heap.push o).objs.size<=s.heap.objs.size+1;rw[Heap.size_push];exact aK _
 .refine bH.mp (W.cellsFrom_some _ _ _ ?_);rcases lZ t with k|k
  .exact .inr (bH.mpr (jM k (L.fre _ k rfl)))
  .exact .inl k
 .have n:(scope.names.lookup x==some .cell)=true:=j;have r:scope.names.lookup x=some .cell:=by simpa using n
  show (s.heap.push o).objs.size<=c;rw[Heap.size_push];exact bW (jy _ _ _ (PySem.mem_of_lookup r) m)
 .rcases aF.mp a with rfl|a
  .refine⟨aM (bC _),λx c e z=>?_⟩;rcases h x c e with q|q
   .exact absurd (cellLt x c q) (by rw[z];exact a9 _)
   .rw[z]at q;omega
  .refine⟨aM (bX (i b a)),λx c e=>?_⟩;rcases h x c e with q|q
   .exact (f b a).2.2.2.2.1 x c q
   .intro z;rw[z]at q;exact absurd (aN (bZ _ 2) q) (Nat.not_le.mpr (i b a))
 .exact⟨ae _ (I.bs b u e).1,(I.bs b u e).2⟩
 .show X.base.objs.size<=(s.heap.push o).objs.size;rw[Heap.size_push];exact b0 (aN I.ok.bsz I.sz)
 .have l:=aL (I.bs b u e).1;rcases aF.mp a with rfl|a
  .exact a9 _ l
  .rcases (f b a).2.2.2.1 with z|z
   .exact I.ok.noex b u e z
   .exact absurd (aE (aL e) (aN I.ok.bsz z)) (a9 _)
 .intro z;have p:=I.stkSub b z;rcases aF.mp a with rfl|a
  .rcases aF.mp p with q|q
   .exact absurd I.lt (by rw[<-q];exact a9 _)
   .exact I.nofs (aK _) q
  .rcases aF.mp p with q|q
   .exact (f b a).2.1 q
   .exact (f b a).2.2.1 q
end
end L2
namespace L2
open PySem PySem.Spec PyProof.Rows
section
variable {X:Cx}{tg elt iter:Expr}{ifs:List Expr}{scope:Scope}{pos:Pos}{N:List Str}{ix:List (Option Nat)}{wi:TI}{g:TG}{tt:TT}{te:TE}
def r6{i:Nat}(h:(pull ix σ)[i]? = some (some v)):∃j,ix[i]? = some (some j)/\σ[j]? = some (some v):=by
 unfold pull at h;rw[aw]at h;cases e:ix[i]? with
 |none=>rw[e]at h;cases h
 |some k=>
  rw[e]at h;cases k with
  |none=>cases h
  |some j=>
   refine⟨j,rfl,?_⟩;have a:(σ[j]?).getD none=some v:=by simpa using h
   cases q:σ[j]? with
   |none=>rw[q]at a;cases a
   |some z=>rw[q]at a;simpa using a
theorem uZ{RR:Vq->Addr->Result->Shared->Prop}{Q:VK}{W:Nat->Nat->List V->Hp->Prop}
  (hc:X.calm=true) (L:sR X scope N ix) (hgk:jQ ix g)
  (blk:∀C F H ex pn,PG (iY X N scope C F H ex pn) tg g/\wN (iY X N scope C F H ex pn) ifs tt/\PE (iY X N scope C F H ex pn) elt te)
  (l:dF X dh σ H2 s2) (T:uE X.prog X.w X.K tg J fp it tn) (st2:tn 0 s2.heap) (f2:∀b∈fp,m3 X dh H2 b) (w0:W 0 m0 [] H2)
  (turn:∀i m Y H,W i m Y H->(J.stop i H/\∀D,H D=none->Q (.ref D) (fw H D (.lst Y)))\/
   (J.go i H/\Y.length<sizeLine/\∀x s,J.yld i H x s->g x (pull ix σ) s λσ2 H2=>tt σ2 H2 λb H3=>if b=true then te σ2 H3 λy H4=>∃m',m'<m/\W (i+1) m' (Y++[y]) H4 else ∃m',m'<m/\W (i+1) m' Y H3))
  (fin:∀D C m s S,S.heap.Ns C m->m3 X dh s C->dF X dh σ s S->Q (.ref D) s->RR (.ref D) C (.ok .next) S) :
  wpAny (model X.prog X.w) X.A (newList []) (λacc F=>wpAny (model X.prog X.w) X.A (newFunctionEnv scope X.env.globals (iL X.env scope.names []) [] X.env.qual none .none (some X.env)) (λcenv s₄=>codeAny (model X.prog X.w) X.A (.compStart (.ListComp elt [⟨tg,iter,ifs,0⟩] scope pos) 0 (.ref it) acc {cenv with scope:=relabel scope X.env}) (RR acc cenv.locals) s₄) E F) E s2:=by
 refine wpAny_newObj_type (mn ?_);have hCs:(s2.heap.push {cls:=.type "list",dict:=none,data:=.seq ([]).toArray}).objs.size=s2.heap.objs.size+1:=Heap.size_push ..;generalize R:pushCells ((s2.heap.push {cls:=.type "list",dict:=none,data:=.seq ([]).toArray}).push {cls:=.type "dict",data:=.dict #[]}) scope.names=h₁;rw[hCs];have hns₁:h₁.Ns (s2.heap.objs.size+1) (λ_=>none):=by rw[<-R,<-hCs];exact (Heap.Ns.new _ _).keeps (pushCells_keeps _ _)
 have U:∀x c,(cellsFrom (s2.heap.objs.size+1+1) scope.names (iL X.env scope.names [])).lookup x=some c->X.env.cells.lookup x=some c\/(s2.heap.objs.size+1+1<=c/\h₁.IsCell c none):=λx c e=>by
  have hs3:((s2.heap.push {cls:=.type "list",dict:=none,data:=.seq ([]).toArray}).push {cls:=.type "dict",data:=.dict #[]}).objs.size=s2.heap.objs.size+1+1:=by rw[Heap.size_push,hCs]
  rw[<-hs3]at e;rcases jh _ _ _ e with q|⟨q,m⟩
  .exact .inl (iE (λy d z=>by simp at z) q)
  .rw[hs3]at q;rw[R]at m;exact .inr ⟨q,m⟩
 have fpObj:=T.obj 0 _ st2;have hlt:∀b∈fp,b<s2.heap.objs.size:=λb h=>let ⟨_,e,_⟩:=fpObj b h;aL e;have ok:=FZ L l f2 hlt {cls:=.type "list",dict:=none,data:=.seq ([]).toArray};have DC:s2.heap.objs.size≠s2.heap.objs.size+1:=aM (bC _);have hold:∀b o,(s2.heap.push {cls:=.type "list",dict:=none,data:=.seq ([]).toArray}).get? b=some o->h₁.get? b=some o:=λb o e=>by rw[<-R];exact pushCells_keeps _ _ _ _ (ae _ e)
 have Z:∀b o,s2.heap.get? b=some o->h₁.get? b=some o:=λb o e=>hold b o (ae _ e);have sound:∀x c,(iL X.env scope.names []).lookup x=some c->X.env.cells.lookup x=some c:=λx c e=>iE (λy d z=>by simp at z) e;have cellLt:∀x c,X.env.cells.lookup x=some c->c<s2.heap.objs.size:=λx c e=>let ⟨_,q⟩:=l.cell x c e;q.lt;have hDn:=l.hok.fresh (aK _);have hCn:=l.hok.fresh (bF _);have t:∀p∈X.pn++dh,p.1<s2.heap.objs.size:=λp f=>aL (l.pin p f).1;have hDfs:s2.heap.objs.size∉ku X.stack:=λz=>by
  rcases aF.mp (l.stkSub _ z) with q|q
  .exact absurd l.lt (by rw[<-q];exact a9 _)
  .exact l.nofs (aK _) q
 have I':dF (iY X N scope (s2.heap.objs.size+1) {s2 with heap:=s2.heap.push {cls:=.type "list",dict:=none,data:=.seq ([]).toArray}} H2 (s2.heap.objs.size::fp) (X.pn++dh))
   [(s2.heap.objs.size,pA [])] (pull ix σ) H2 {s2 with heap:=h₁,toks:=s2.toks}:=by
  refine⟨ok,rfl,l.bare,Un.kept hold,⟨_,hns₁,λi x v h1 h2 h3=>?_⟩,λx c e=>?_,hCn,λx c e=>?_,λp f=>?_,l.hok.kept Z,?_⟩
  .obtain⟨j,ej,es⟩:=r6 h2;obtain⟨q1,q2,q3,q4⟩:=L.ix i j x h1 ej;obtain⟨m,_,hl⟩:=l.loc;obtain⟨u,r,lk⟩:=hl j x v q1 es q3;refine⟨u,r,?_⟩;rcases lk with⟨k,_⟩|⟨k,c,hcl,hv⟩
   .exact absurd k q4
   .obtain⟨c',hc'⟩:=jM (PySem.mem_of_lookup q2) ⟨c,hcl⟩;have:=sound x c' hc';rw[hcl]at this;cases this;have hnc:(x,NameKind.cell)∉scope.names:=λz=>by have:=L.sep _ z rfl;rw[q2]at this;cases this
    refine .inr ⟨?_,c,(iH _ _ _ hnc).trans hc',let ⟨ob,ho,hd⟩:=hv;⟨ob,Z c ob ho,hd⟩⟩;exact qw q2
  .rcases U x c e with q|⟨_,q⟩
   .obtain⟨v,ob,ho,hd⟩:=l.cell x c q;exact⟨v,ob,Z c ob ho,hd⟩
   .exact⟨none,q⟩
  .rcases U x c e with q|⟨q,_⟩
   .exact l.freeC x c q
   .exact l.hok.fresh (aN (bZ _ 2) q)
  .rcases ai.mp f with f|f
   .obtain⟨e,n,ne,nf,d⟩:=l.pin p f;refine⟨Z _ _ e,n,aM (bX (t p f)),λz=>?_,d⟩;rcases aF.mp (l.stkSub _ z) with q|q
    .exact ne q
    .exact nf q
   .have e:p=(s2.heap.objs.size,pA []):=by simpa using f
    subst e;exact⟨hold _ _ (au _ rfl),hDn,DC,hDfs,λv z=>by cases z⟩
  .unfold pull;rw[ax];exact L.len.symm
 generalize a:iY X N scope (s2.heap.objs.size+1) {s2 with heap:=s2.heap.push {cls:=.type "list",dict:=none,data:=.seq ([]).toArray}} H2 (s2.heap.objs.size::fp) (X.pn++dh)=X' at I';obtain⟨hg,hif,he⟩:=blk (s2.heap.objs.size+1) {s2 with heap:=s2.heap.push {cls:=.type "list",dict:=none,data:=.seq ([]).toArray}} H2 (s2.heap.objs.size::fp) (X.pn++dh);rw[a]at hg hif he;have stat:∀{s:Hp} {P:List Vq},(∀b∈fp,s b=none)->∀b∈fp,m3 X' [(s2.heap.objs.size,pA P)] s b:=λ{s P} hn b h=>by
  subst a;obtain⟨_,f1,f2',f3,f4,f5⟩:=f2 b h;refine⟨hn b h,aM (bX (hlt b h)),λz=>?_,.inl (bj _ h),λx c e=>?_,λp f=>?_⟩
  .rcases aF.mp (l.stkSub _ z) with q|q
   .exact f1 q
   .exact f2' q
  .rcases U x c e with q|⟨q,_⟩
   .exact f4 x c q
   .intro z;rw[z]at q;exact absurd (aN (bZ _ 2) q) (Nat.not_le.mpr (hlt b h))
  .rcases ai.mp f with f|f
   .exact f5 p f
   .have e:p=(s2.heap.objs.size,pA P):=by simpa using f
    subst e;exact Ne.symm (aM (hlt b h))
 have loop:codeAny (model X.prog X.w) X.A (.compLoop (.ListComp elt [⟨tg,iter,ifs,0⟩] scope pos) 0 (.ref it) (.ref s2.heap.objs.size) X'.env) (RR (.ref s2.heap.objs.size) (s2.heap.objs.size+1))
   {s2 with heap:=h₁,toks:=s2.toks}:=by
  refine qq (λn S=>∃i Y P s,dF X' [(s2.heap.objs.size,pA P)] (pull ix σ) s S/\dZ Y P/\Y.length<=sizeLine/\tn i S.heap/\(∀b∈fp,s b=none)/\W i n Y s) ?_ m0
   ⟨0,[],[],H2,I',.nil,bD _,T.keep _ _ _ st2 λb _ o e=>Z b o e,λb h=>(f2 b h).1,w0⟩
  rintro n s3 ⟨i,Y,P,H3,I3,rv,hz,st3,fr3,w3⟩;have hcX:X'.calm=true:=by subst a;exact hc
  have hA:X'.A=X.A:=by subst a;rfl
  rcases turn i n Y H3 w3 with⟨stop,qn⟩|⟨go,ig,step⟩
  .have hd:=T.done X' (by subst a;rfl) (by subst a;rfl) (by subst a;rfl) hcX i _ s3 _ H3 (λ_ _=>False) I3 (stat fr3) st3 stop;rw[hA]at hd;refine fL hd λr s4 ⟨hr,I4⟩=>?_;subst hr;subst a;obtain⟨m,hn,_⟩:=I4.loc;have hD3:=I4.pin (s2.heap.objs.size,pA P) (bu _ bh);have u1:Un (ku X.stack) fp H2 H3 s2.heap s4.heap:=by
    have B:=I4.base;have nD:∀b o,s2.heap.get? b=some o->b∉fp->b∉s2.heap.objs.size::fp:=λb o e h z=>by
     rcases aF.mp z with q|q
     .exact absurd (aL e) (by rw[q];exact a9 _)
     .exact h q
    exact⟨λb o e n h hx=>B.keep b o (ae _ e) n h (nD b o e hx),λb o e n h hx=>B.slot b o (ae _ e) n h (nD b o e hx),
     λb o e n hx=>B.free b o (ae _ e) n (nD b o e hx),λb o e hx=>B.there b o (ae _ e) (nD b o e hx),B.tups,B.frzs,B.tbls⟩
   have I5:=l.call' I4.os u1 I4.hok I4.bare λb h=>let ⟨_,f1,_,f3,f4,f5⟩:=f2 b h;⟨f3,f1,f4,f5⟩;have I6:dF X dh σ (fw H3 s2.heap.objs.size (.lst Y)) s4:=I5.track hD3.2.1 (.inr l.sz) (Ne.symm (aM l.lt)) (λx c e z=>absurd (cellLt x c e) (by rw[z];exact a9 _))
    (λp f=>aM (t p f)) ⟨hz,P,P.length,rv,hD3.1⟩
   refine fin _ _ m _ s4 hn ⟨?_,?_,?_,.inr (b0 l.sz),λx c e z=>?_,λp f=>?_⟩ I6 (qn _ hD3.2.1)
   .rw[dH (Ne.symm DC)];exact I4.free
   .exact Ne.symm (aM (bX l.lt))
   .exact l.nofs (bF _)
   .exact absurd (cellLt x c e) (by rw[z];exact Nat.not_lt.mpr (bF _))
   .exact aM (bX (t p f))
  .have hd:=T.item X' (by subst a;rfl) (by subst a;rfl) (by subst a;rfl) hcX i _ s3 _ H3 (λ_ _=>False) I3 (stat fr3) st3 go;rw[hA]at hd;refine fL hd λr s4 ⟨u,hr,h4⟩=>?_;subst hr;refine fL h4 λ_ s5 ⟨x,H5,I5,r5,y5,st5,fr5⟩=>?_;have I5':=I5.pinned (stat fr5) (T.obj _ _ st5);have hM:model X'.prog X'.w=model X.prog X.w:=by subst a;rfl
   have hE:X'.xe=λ_ _=>False:=by subst a;rfl
   have a6:=hg _ s5 _ H5 x u _ I5' r5 (hgk x _ H5 _ (step x H5 y5));rw[hM,hA,hE]at a6;refine fL a6 λ_ s6 ⟨σ6,H6,I6,agr,q6⟩=>?_;have a7:=hif _ s6 σ6 H6 _ I6 q6;rw[hM,hA,hE]at a7;refine fL a7 λok s7 ⟨H7,I7,q7⟩=>?_;have back:∀{S:Sq} {s:Hp} {pl:List (Addr×Obj)},dF X' pl σ6 s S->dF X' pl (pull ix σ) s S:=λ{S s pl} I=>by
    refine I.weak ?_ λk v e=>?_
    .have e1:=I.len;have e2:=I3.len;rw[e1,e2]
    .obtain⟨j,ej,_⟩:=r6 e;rw[agr k j ej];exact e
   have held:∀{S:Sq} {s:Hp},dF X' ([(s2.heap.objs.size,pA P)]++ny fp s5.heap) σ6 s S->tn (i+1) S.heap/\∀b∈fp,s b=none:=λ{S s} I=>by refine⟨T.keep _ _ _ st5 λb h o e=>(I.pin (b,o) (bu _ (bu _ (jP h e)))).1,λb h=>?_⟩;obtain⟨o,e,_⟩:=T.obj _ _ st5 b h;exact (I.pin (b,o) (bu _ (bu _ (jP h e)))).2.1
   cases ok with
   |false=>rw[aR aH]at q7 ⊢;obtain⟨m',hm,w7⟩:=q7;obtain⟨k1,k2⟩:=held I7;exact⟨m',hm,i+1,Y,P,H7,(back I7).unpinned,rv,hz,k1,k2,w7⟩
   |true=>
    rw[aQ rfl]at q7 ⊢;have a8:=he _ s7 σ6 H7 _ I7 q7;rw[hM,hA,hE]at a8;refine fL a8 λy s8 ⟨yv,H8,I8,r8,m',hm,w8⟩=>?_;obtain⟨k1,k2⟩:=held I8;have hD8:=I8.pin (s2.heap.objs.size,pA P) (bu _ (ay _ bh));have hl:=rv.length;refine append_at hD8.1 λh9 sb hD9=>?_;have I9:dF X' [] (pull ix σ) H8 s8:=(back I8).pins_of λp f=>by simp at f
    have I10:=I9.turned (t':=s8.toks) (λb o h e=>sb.extBut b o h e) hD8.2.1 hD8.2.2.1 (.inl (by subst a;exact bh))
     (λx c e z=>by
      subst a;rcases U x c e with q|⟨q,_⟩
      .exact absurd (cellLt x c q) (by rw[z];exact a9 _)
      .rw[z]at q;omega) (λp f z=>by
      subst a;rcases ai.mp f with f|f
      .exact absurd (t p f) (by rw[z];exact a9 _)
      .simp at f)
    have e9:h9.get? s2.heap.objs.size=some (pA (P++[y])):=by rw[hD9];simp
    refine⟨m',hm,i+1,Y++[yv],P++[y],H8,I10.pins_of λp f=>?_,rv.append (.cons r8 .nil),by rw[aT,bQ];omega,?_,k2,w8⟩
    .have e:p=(s2.heap.objs.size,pA (P++[y])):=by simpa using f
     subst e;exact⟨e9,hD8.2.1,hD8.2.2.1,hD8.2.2.2.1,λv z=>by cases z⟩
    .exact T.keep _ _ _ k1 λb h o e=>sb.extBut b o (aM (hlt b h)) e
 have loop':=loop;subst a;exact codeAny_compStart_list loop (T.self X.A 0 _ _ _ (T.keep _ _ _ st2 λb _ o e=>Z b o e) loop')
def Gk(u:X.calm=true)(R:PI X tg iter wi)(L:sR X scope N ix)(l:jQ ix g)
  (i:∀C a H j k,PG (iY X N scope C a H j k) tg g/\wN (iY X N scope C a H j k) ifs tt/\PE (iY X N scope C a H j k) elt te)
  (B:∀x,foldedSetIterable iter X.env x=pure x:=by intro _;rfl):PE X (.ListComp elt [⟨tg,iter,ifs,0⟩] scope pos) (zL ix wi g tt te):=by
 intro r s P H Q I h;rw[eval_ListComp];refine wpAny_comprehension_free rfl B (kY L.fre) L.kind L.names (fL (R r s P H _ I h) λv s1 F=>fL F λw Y z=>?_);obtain⟨it,fp,U,J,H2,e,A,T,d,E,W,⟨Z,t⟩,c⟩:=z;subst e;refine uZ u L l i A T d E t c λD C m p s' S f K q=>?_;refine⟨m,S,λh' n=>⟨.ref D,p,K.turned (λb o y e=>n.extBut b o y e) f.1 f.2.1 f.2.2.2.1 f.2.2.2.2.1 f.2.2.2.2.2,rfl,q⟩⟩
end
end L2
namespace L2
open PySem PySem.Spec PyProof.Rows
structure dN(K:W.Frag)(mg:Str->Option Value)(x:Str)(st:Stmt):Prop where
 ex:∃f fd,AQ K x x st f fd/\mg x=some (.ref f)
def EX{K:W.Frag}{st:Stmt}{kV d e b g:Vq}(X:K.In h)(G:h.Ns mainGlobals mg)
  (a:W.nsIn K mainGlobals x=some (some (.ref f)))
  (l:K.lookup f=some ⟨oc,od,.func (W.fnOf x x (eV st) (dU st) (dt st) .none kV d e an b g),osl⟩)
  (c:W.codeIn K b x=true) (k:W.keepIn K (.ref f)=true):dN K mg x st:=⟨f,_,uU l c k,W.mg_of X G a⟩
structure hU(P:Program)(w:World)(K:W.Frag)(mg:Str->Option Value)(base:Heap)(x:Str)(k:Nat)(sp:Sp):Prop where
 ex:∃f fd ps,iU P w K mg base mx k f fd ps sp/\mg x=some (.ref f)/\W.keepIn K (.ref f)=true/\jY K fd ps []
def hU.mono{K:W.Frag}(h:hU P w K mg base x j sp)(d:j<=k):hU P w K mg base x k sp:=
 let ⟨f,fd,ps,F,a,b,c⟩:=h.ex
 ⟨f,fd,ps,F.mono d,a,b,c⟩
def rN{K:W.Frag}{st:Stmt}(D:dN K mg x st)(S:eB N ps (dt st))
  (j:∀(kV e l:Vq) (g:Oq Addr) (a n:Vq) (us:List Vq),us.length=ps.length->bindArgs (W.fnOf x x (eV st) (dU st) (dt st) .none kV e l g a n) ⟨us,[]⟩=pure (ps.zip us))
  (d:∀vs H Q E,sp vs H Q E->vs.length=ps.length)
  (b:∀f a A c s H vs Q E,eD k (A.deeper (envOfC x (dt st) s.heap.objs.size f a))->sp vs H Q E->
   ∃t,mW (fK mx P w K mg base N x (dt st) f a A c s H E).nox (dU st) t/\t {nx:=λ_ h=>Q .non h,rt:=Q} (fT N vs) H):hU P w K mg base x (k+1) sp:=by
 obtain⟨f,i,F,m⟩:=D.ex;exact⟨f,i,ps,F.ok S d (b f),m,F.kp,F.binds j⟩
section
variable {X:Cx}{x:Str}{k:Nat}{sp:Sp}{e:Expr}{es:List Expr}{t:TA}{p pos:Pos}
def tq(h:hU X.prog X.w X.K X.mg X.base x k sp)(hr:eD k X.A)(j:PA X (e::es) t)(i:Gl X x:=by rfl)
  (d:(x==("__debug__" : Str))=false:=by decide) (l:starEach (e::es) X.env=(false,eval e X.env)::starEach es X.env:=by rfl) (g:(backTo pos (starEach es X.env)).any (·.1)=false:=by rfl) :
  PE X (.Call (.Name x p) (e::es) [] pos) (lj sp [] E0 t):=by
 obtain⟨f,n,m,F,a,b,c⟩:=h.ex;exact vq F hr i a b c .nil yV j d l g
end
def Br:kS X (binaryOp .Mult) (rI (λi j=>PySem.IntMulOk i j) λi j=>.int (i*j)):=G7 λ_ _ _ _ _ _ _ a q=>mul_int q a
def yF:kS X (binaryOp .FloorDiv) (rI (λi j=>j≠0/\Builtin.divisionGoesByPylong i j=false) λi j=>.int (i.fdiv j)):=G7 λ_ _ _ _ _ _ _ a q=>floordiv_int a.1 q (.inl a.2)
end L2
namespace L2
open PySem PySem.Spec PyProof.Rows
def hW.at_(x:hW P w H h a o):∃b,h.get? a=some b:=by
 cases o with
 |lst xs=>obtain⟨_,_,_,_,e⟩:=x;exact⟨_,e⟩
 |tup xs=>obtain⟨_,_,_,b,e,_⟩:=x;exact⟨b,e⟩
 |dK kvs=>obtain⟨_,_,_,_,b,_,_,e,_⟩:=x;exact⟨b,e⟩
 |dT kvs=>obtain⟨_,_,_,_,b,_,_,e,_⟩:=x;exact⟨b,e⟩
 |set S n=>obtain⟨b,_,_,_,e,_⟩:=x;exact⟨b,e⟩
 |ins C dx fs=>obtain⟨_,_,_,e,_⟩:=x;exact⟨_,e⟩
 |own y=>exact x
 |xd fs=>obtain⟨_,⟨b,_,_,e,_⟩,_⟩:=x;exact⟨b,e⟩
 |rng lo hi=>obtain⟨_,_,_,e⟩:=x;exact⟨_,e⟩
 |frz b u=>obtain⟨e,_⟩:=x;exact⟨b,e⟩
 |tbl ps=>exact⟨_,(x)⟩
 |met f y=>exact⟨_,(x)⟩
 |ext φ=>obtain⟨_,e,_⟩:=x;exact e
structure Ad(P:Program)(w:World)(outer:List Env)(H:Hp)(s:Sq)(ea t:Addr)(C:Vq)(vs:List Vq)(B:Heap)(H':Hp)(s':Sq):Prop where
 os:s'.os=s.os
 bare:AllBare s'.gens
 un:Un (ku outer) [] H H' s.heap s'.heap
 hok:lF P w H' s'.heap
 fly:Heap.FlyingW B outer ea C (.ref t) s'.heap
 tup:s'.heap.TupAt t vs
 tn:B.get? t=none
 he:H' ea=none
 ht:H' t=none
 old:∀b o,s.heap.get? b=some o->H b=none->b∉ku outer->B.get? b=some o
 trk:∀b o,s'.heap.get? b=some o->H' b≠none->B.get? b=some o
 ex:∀b o,s.heap.get? b=some o->b∉ku outer->∃o',B.get? b=some o'
def oV(P:Program)(w:World):AW:=λa H s E e f=>∃(b t:Addr) (C:Vq) (d:List Vq) (B:Heap) (c:Hp),e=.ref b/\Ad P w a H s b t C d B c f/\E C none c
section
variable {P:Program}{w:World}{K:W.Frag}{mg:Str->Option Value}{base:Heap}{N:List Str}{qual:Str}{scope:Scope}{f:Addr}{cd:Vq}{A:Around}{outer:List Env}{s₀:Sq}{H₀:Hp}{E:XK}
variable {dh:List (Addr×Obj)}{σ:St}{H:Hp}{s:Sq}
theorem xE{k:Sq}(I:dF (fK (oV P w) P w K mg base N qual scope f cd A outer s₀ H₀ E) dh σ H s)
  (Z:k.os=s.os) (hb:AllBare k.gens) (u:Un (ku (envOfC qual scope s₀.heap.objs.size f cd::outer)) [] H H' s.heap k.heap) (D:lF P w H' k.heap)
  (old:∀b o,s.heap.get? b=some o->H b=none->b∉ku (envOfC qual scope s₀.heap.objs.size f cd::outer)->B.get? b=some o) (trk:∀b o,k.heap.get? b=some o->H' b≠none->B.get? b=some o)
  (ex:∀b o,s.heap.get? b=some o->b∉ku (envOfC qual scope s₀.heap.objs.size f cd::outer)->∃i,B.get? b=some i)
  (he:H' ea=none) (ht:H' t=none) (tn:B.get? t=none) (p:Heap.FlyingW B outer ea C (.ref t) h2) (tup:h2.TupAt t vs) (r:k.heap.UpToSlots h2) :
  Ad P w outer H₀ s₀ ea t C vs B H' {k with heap:=h2}:=by
 have d:∀b:Addr,b∉(fK (oV P w) P w K mg base N qual scope f cd A outer s₀ H₀ E).ex:=λb z=>absurd (show b∈([]) from z) (by simp);have X:∀b,b∈ku (envOfC qual scope s₀.heap.objs.size f cd::outer)->b=s₀.heap.objs.size\/b∈ku outer:=λb a=>by
  rcases aF.mp (I.stkSub b a) with z|z
  .exact .inl z
  .exact .inr z
 have g:∀b o,s₀.heap.get? b=some o->b∉ku outer->b∉ku (envOfC qual scope s₀.heap.objs.size f cd::outer):=λb o e Y z=>by
  rcases X b z with q|q
  .exact absurd (aL e) (by rw[q];exact a9 _)
  .exact Y q
 have kept:∀b o,s₀.heap.get? b=some o->H₀ b=none->b∉ku outer->B.get? b=some o:=λb o e n a=>old b o (I.base.keep b o e n a (d b)) (I.base.free b o e n (d b)) (g b o e a)
 have j:∀b,H' b≠none->∃o,k.heap.get? b=some o/\h2.get? b=some o:=λb a=>by
  cases q:H' b with
  |none=>exact absurd q a
  |some S=>obtain⟨o,e⟩:=(D b S q).at_;exact⟨o,e,p.1 b o (trk b o e a)⟩
 refine⟨Z.trans I.os,hb,⟨λb o e n a _=>p.1 b o (kept b o e n a),λb o e n a _=>?_,λb o e n _=>?_,λb o e _=>?_,λb x e=>u.tups b x (I.base.tups b x e),λb o x e=>u.frzs b o x (I.base.frzs b o x e),λb ps e=>?_⟩,λb S e=>?_,p,tup,tn,he,ht,kept,λb o e a=>?_,λb o e a=>?_⟩
 .obtain⟨sl,h⟩:=I.base.slot b o e n a (d b);obtain⟨sl2,Q⟩:=u.any h (I.base.free b o e n (d b)) (by simp);obtain⟨_,i,y,l⟩:=I.ok.funs.mem a;have m:(fK (oV P w) P w K mg base N qual scope f cd A outer s₀ H₀ E).s₀.heap.get? b=some o:=e;rw[m]at y;cases y;obtain⟨F,e3⟩:=r b _ Q l;exact⟨F,e3⟩
 .obtain⟨i,h⟩:=I.base.there b o e (d b);exact u.free b i h (I.base.free b o e n (d b)) (by simp)
 .obtain⟨i,h⟩:=I.base.there b o e (d b);obtain⟨o2,Q⟩:=u.there b i h (by simp);by_cases Y:H' b=none
  .by_cases J:b∈ku outer
   .obtain⟨_,⟨o3,h3,l⟩⟩:=I.ok.funs.mem J;have m:(fK (oV P w) P w K mg base N qual scope f cd A outer s₀ H₀ E).s₀.heap.get? b=some o:=e;rw[m]at h3;cases h3;have L:=I.ok.frf b J;obtain⟨sl,q1⟩:=I.base.slot b o e L J (d b);obtain⟨sl2,U⟩:=u.any q1 (I.base.free b o e L (d b)) (by simp);obtain⟨F,q3⟩:=r b _ U l;exact⟨_,q3⟩
   .by_cases L:H₀ b=none
    .exact⟨o,p.1 b o (kept b o e L J)⟩
    .obtain⟨o4,q4⟩:=ex b i h (g b o e J);exact⟨o4,p.1 b o4 q4⟩
  .obtain⟨o3,_,q⟩:=j b Y;exact⟨o3,q⟩
 .obtain⟨m1,h⟩:=I.base.tbls b ps e;obtain⟨m2,Q⟩:=u.tbls b _ h;exact⟨m1++m2,by rw[Q,bp]⟩
 .have a:H' b≠none:=by rw[e];exact λz=>nomatch z
  refine (D b S e).stay (λc v hc q=>?_) (λ_ q=>q) λ_ _ q=>q;have R:H' c≠none:=by
   rcases hc with z|z
   .rw[z];exact a
   .rw[z];exact λz=>nomatch z
  exact p.1 c v (trk c v q R)
 .obtain⟨o3,q1,U⟩:=j b a;have m:=e;rw[U]at m;cases m;exact trk b _ q1 a
 .obtain⟨i,h⟩:=I.base.there b o e (d b);exact ex b i h (g b o e a)
theorem wo(I:dF (fK (oV P w) P w K mg base N qual scope f cd A outer s₀ H₀ E) dh σ H s)(d:Heap.MadeExcOf s.heap h1 ea C args)(q:E C none H) :
  (fK (oV P w) P w K mg base N qual scope f cd A outer s₀ H₀ E).xe (.ref ea) {s with heap:=h1}:=by
 have i:∀c∈(envOfC qual scope s₀.heap.objs.size f cd::outer),∀b,c.frame=some b->b∈ku (envOfC qual scope s₀.heap.objs.size f cd::outer):=λc D b a=>bt.mpr ⟨c,D,a⟩;have tracked:∀b,H b≠none->b∉ku (envOfC qual scope s₀.heap.objs.size f cd::outer):=λb a z=>a (I.stkFree b z);have g:∀b,s.heap.get? b=none->H b=none:=λb a=>by
  cases z:H b with
  |none=>rfl
  |some u=>obtain⟨o,e⟩:=(I.hok b u z).at_;rw[a]at e;cases e
 refine wpAny_leaves_madeW I.ok.frames rfl (λb o z=>W.of_hideAll _ z) (W.funFrames_hide I.stack i) d λJ t y tup l h=>?_;obtain⟨F,_,v,x⟩:=d.there;have j:H t=none:=by
  cases z:H t with
  |none=>rfl
  |some u=>obtain⟨o,e⟩:=(I.hok t u z).at_;have:=W.hideAll_get (ku (envOfC qual scope s₀.heap.objs.size f cd::outer)) e (tracked t (by rw[z];exact λk=>nomatch k));rw[l]at this;cases this
 refine⟨ea,t,C,args,_,H,rfl,xE I rfl I.bare (Un.kept d.keeps) (I.hok.kept d.keeps) (λb o e n a=>W.hideAll_get _ e a) (λb o e a=>?_) (λb o e a=>⟨o,W.hideAll_get _ e a⟩) (g ea d.new) j l y tup h,q⟩;cases z:H b with
 |none=>exact absurd z a
 |some u=>obtain⟨r,m⟩:=(I.hok b u z).at_;have B:=d.keeps b r m;have p:=e;rw[B]at p;cases p;exact W.hideAll_get _ m (tracked b a)
end
end L2
namespace L2
open PySem PySem.Spec PyProof.Rows PySem.W
theorem E5{K:Frag}(X:K.In h)(G:h.Ns mainGlobals mg)(e:nsIn K mainGlobals x=some (some (.ref C)))
  (q:excIn K C bmB newId=true):OwnCls x C bmB newId mg h:=by
 constructor
 .exact mg_of X G e
 unfold excIn at q;split at q<;>try (exact absurd q aH)
 rename_i v f i g;split at q<;>try (exact absurd q aH)
 rename_i r y t p w s n u j d;simp only[bM,beq_iff_eq,Bool.not_eq_true']at q;obtain⟨⟨⟨⟨⟨o,m⟩,b⟩,k⟩,a⟩,c⟩:=q;subst o;subst m;cases f;subst j;subst b;cases i with
 |mk l=>simp only at d;subst d;exact⟨_,_,_,_,_,_,_,_,_,_,_,_,_,_,_,_,_,X _ _ g,.of_isNs (isNs_of_in X a),nsMap_none_of_in X a c,tail_of_in X k⟩
section
variable {P:Program}{w:World}{K:W.Frag}{mg:Str->Option Value}{base:Heap}{N:List Str}{qual:Str}{scope:Scope}{f:Addr}{cd:Vq}{A:Around}{outer:List Env}{s₀:Sq}{H₀:Hp}{E:XK}
def zY{x:Str}{C:Addr}{g o:List Vq}{B Bn c l initId m:String}{y a k:Pos}{b:Expr}{j:TA}(X:nsIn K mainGlobals x=some (some (.ref C)))(q:excIn K C g c=true)
  (L:ExcBaseFacts Bn c m o) (t:g.contains (.type Bn)=true) (F:ExcBaseFacts B l initId g)
  (ha:PA (fK (oV P w) P w K mg base N qual scope f cd A outer s₀ H₀ E) [b] j) (U:∀d H R,j d H R->j d H λvs i=>vs.length<=sizeLine/\R vs i)
  (J:Gl (fK (oV P w) P w K mg base N qual scope f cd A outer s₀ H₀ E) x:=by rfl) (p:(x==("__debug__" : Str))=false:=by decide)
  (v:starEach [b] (envOfC qual scope s₀.heap.objs.size f cd)=[(false,eval b (envOfC qual scope s₀.heap.objs.size f cd))]:=by rfl) :
  PS (fK (oV P w) P w K mg base N qual scope f cd A outer s₀ H₀ E) (.Raise (some (.Call (.Name x y) [b] [] a)) none k) (λ_ d H=>j d H λ_ i=>E (.ref C) none i):=by
 intro Q s d H D I h;have O:=E5 I.mod.kin I.mod.glob X q;have Z:=O.bound;obtain⟨bm,M,nm,qn,bs,hdct,sn,sub,ab,col,dd,k0,k1,k2,k3,k5,mN,z,S,n,T⟩:=O.obj;refine wpAny_Raise_call_subU (nm:=nm) (q:=qn) (N:=M) (bs:=bs) (hdct:=hdct) (sn:=sn) (sub:=sub) (ab:=ab) (col:=col) (dd:=dd) (k0:=k0) (k1:=k1) (k2:=k2) (k3:=k3) (k5:=k5)
  L t F (mN:=mN) (T.hasType F.hasBase) (I.ok.hd rfl) ?_ n (kJ I J Z ⟨rfl,?_⟩ p)
 .show (backTo a (starEach [b] (envOfC qual scope s₀.heap.objs.size f cd))).any (·.1)=false;rw[v];rfl
 .refine (?_:wpAny (model P w) _ (evalArgs (.ref C) true (backTo a (starEach [b] (envOfC qual scope s₀.heap.objs.size f cd))) []) _ _ s);have h2:=ha a Q s d H _ I (U d H _ h);have u:wpAny (model P w) (fK (oV P w) P w K mg base N qual scope f cd A outer s₀ H₀ E).A (spliced (backTo a (starEach [b] (envOfC qual scope s₀.heap.objs.size f cd)))) _ _ s:=h2;rw[v]at u ⊢;refine Calls.evalArgs_plain (fL u λus s2 ⟨vs,i,I1,r,ig,q1⟩=>⟨rfl,?_,I1.bk _ _ z,S.keeps I1.bk,T.keeps I1.bk,λh' e Y=>wo I1 Y q1⟩);show us.length<=sizeLine;rw[<-r.length];exact ig
end
end L2
namespace L2
open PySem PySem.Spec PyProof.Rows PySem.W PySem.Calls Builtin Builtin.ObjectAttr Builtin.Getset_descriptor
structure pb(K:Frag)(D:Addr):Prop where
 ga:findIn K (.ref D) "__getattribute__" = some (some (.builtin "BaseException.__getattribute__"))
 gt:findIn K (.ref D) "__getattr__" = some none
 cl:findIn K (.ref D) "__class__" = some (some (.builtin "object.__class__"))
 gg:specialIn K (.builtin "object.__class__") "__get__" = some (some (.builtin "getset_descriptor.__get__"))
 tk:takesIn K (.builtin "object.__class__")=some true
 ob:mroIn K D (.type "object")=some true
 be:mroIn K D (.type "BaseException")=some true
 is:(clsIn K D).isSome=true
def qE(x D:Addr)(h:Heap):Prop:=∃a,h.get? x=some a/\a.cls=.ref D
def qE.type{M:Model}{x D:Addr}{h:Heap}(e:qE x D h):Looks M h (typeOf (.ref x)) (.ref D):=by obtain⟨c,b,a⟩:=e;exact a▸(Looks.ld b).andThen .now
section
variable {prog:Program}{w:World}{A:Around}{E:Vq->Shared->Prop}{s:Sq}{K:Frag}{x D:Addr}
def oX{R:Result->Shared->Prop}{a:Vq}(X:K.In s.heap)(I:qE x D s.heap)(b:mroIn K D (.type "object")=some true)
  (h:R (.ok (.ret (.ref D))) s):codeAny (model prog w) A (.call (.builtin "getset_descriptor.__get__") ⟨[.builtin "object.__class__",.ref x,a],[]⟩) R s:=by
 obtain⟨c,g,dr,t,f⟩:=s;have d:=I.type (M:=model prog w);have e:=looks_mroIn (M:=model prog w) X b;refine codeAny_call_builtin KF.slot_gs.plain KF.entry_gs (KF.slot_gs.check _ _ _ _ _ _ _ _ KF.type_class (KF.args_gs _ _ _) ?_);unfold Builtin.«getset_descriptor.__get__» descrGet;rw[dga_obj];refine aq (ao ?_);unfold descrGetter descrCheckInstance descrNameAndClass isInstance;simp only[KF.owner_class];(repeat lk);refine⟨Code.quiet_builtin _ (by decide +kernel),codeAny_builtin KF.entry_class ?_⟩;unfold Builtin.«object.__class__» shownTypeOf;(repeat lk);exact h
def w9(X:K.In s.heap)(I:qE x D s.heap)(C:pb K D)(h:Q (.done (.ret (.ref D))) s) :
  wpAny (model prog w) A (Builtin.«object.__getattribute__» ⟨[.ref x,.str "__class__" tk],[]⟩) Q E s:=by
 obtain⟨a,g,dr,t,d⟩:=s;have b:=I.type (M:=model prog w);have c:=looks_findIn (M:=model prog w) X C.cl;unfold Builtin.«object.__getattribute__» find;(repeat lk);refine (wpAny_run (oX X I C.ob ?_));(repeat lk);exact h
def xu(X:K.In s.heap)(I:qE x D s.heap)(C:pb K D)(e:Q () s) :
  wpAny (model prog w) A (checkBuiltinCall "BaseException.__getattribute__" ⟨[.ref x,nameV],[]⟩) Q E s:=by
 have a:builtinKind "BaseException.__getattribute__" = some .slot:=by decide +kernel
 have hsplit:splitId "BaseException.__getattribute__" = some ("BaseException", "__getattribute__"):=by decide +kernel
 have b:=I.type (M:=model prog w);have c:=looks_mroIn (M:=model prog w) X C.be;obtain⟨d,g,dr,t,f⟩:=s;simp only[checkBuiltinCall,a,hsplit];refine aq ?_;unfold isInstance;refine aq (b.at (c.at ?_));rw[aR (by decide)];(repeat (first|assumption|wp_step))
def oI(X:K.In s.heap)(I:qE x D s.heap)(C:pb K D)(h:Q (some (.ref D)) {s with toks:=s.toks+1}) :
  wpAny (model prog w) A (getAttr? (.ref x) "__class__") Q E s:=by
 obtain⟨m,g,d,t,l⟩:=s;have k:=I.type (M:=model prog w);have i:=looks_findIn (M:=model prog w) X C.ga;have L2:=looks_findIn (M:=model prog w) X C.gt;have c:(Value.builtin "BaseException.__getattribute__" == Value.builtin "object.__getattribute__")=false:=by decide +kernel
 unfold getAttr? getAttrBy? getAttrBy;refine aq (wpAny_mkText (aq (wpAny_attempt (wpAny_holding (aq (k.at (aq (i.at ?_))))))));dsimp only;rw[c];simp only[Bool.and_false,bU,if_false];unfold getAttrByItsOwn hookBefore;rw[aQ (show onTheHeap (Value.ref D)=true from rfl)];refine aq (L2.at (aq (wpAny_attempt (wpAny_holding ?_))));unfold callGetattribute boundAndCalled;rw[aR (by decide)];have j:bindSpecial (.builtin "BaseException.__getattribute__") (.ref x)=pure (.builtin "BaseException.__getattribute__",[.ref x]):=by
  have b:withoutEnding? "BaseException.__getattribute__" "#opaque" = none:=by decide +kernel
  have a:withoutEnding? "BaseException.__getattribute__" "#data" = none:=by decide +kernel
  have f:builtinKind "BaseException.__getattribute__" = some .slot:=by decide +kernel
  simp only[bindSpecial,typeOf,builtinType,b,a,f];rfl
 rw[j];refine aq (ao ?_);have e:=X;refine wpAny_call (codeAny_call_builtin (by decide +kernel) F.entry_bexc_ga (xu e I C (w9 e I C ?_)));dsimp only;rw[handedOut_of (rfl)];exact ao (ao h)
def nQ(C:pb K D):KitX K (.ref x) (.ref D) (qE x D) where
 ty:=λ_ _ _ I=>I.type
 it:=λ_ _ X _=>by
  obtain⟨c,a⟩:=bH.mp C.is;unfold clsIn at a;split at a
  .rename_i i j b g f;intro m t o v k q;unfold isType loadHead;exact aq (wpAny_loadPart (k _ _ (X _ _ f)) (ao q))
  .cases a
 ne:=λh u r l n p X d=>by
  obtain⟨c,a⟩:=bH.mp C.is;refine Bool.eq_false_iff.mpr λq=>?_;have e:=Value.ref.inj (beq_iff_eq.mp q);subst e;unfold clsIn at a;split at a
  .rename_i i j b g f;have z:=(X _ _ f).symm.trans d;cases z
  .cases a
 ca:=λX I k=>oI X I C k
end
end L2
namespace L2
open PySem PySem.Spec PyProof.Rows PySem.W PySem.Calls Builtin Builtin.ObjectAttr Builtin.Getset_descriptor
structure Bw(K:Frag)(D:Addr):Prop where
 is:(clsIn K D).isSome=true
 ty:typeIn K (.ref D)=some (.type "type")
 be:mroIn K D (.type "BaseException")=some true
def om:isSubtype (.type "type") (.type "tuple")=pure false:=by rw[isSubtype_type];kernel_rfl
section
variable {prog:Program}{w:World}{A:Around}{E:Vq->Shared->Prop}{s:Sq}{K:Frag}{x C D:Addr}
def sW(X:K.In s.heap)(I:qE x C s.heap)(T:Bw K D)(m:mroIn K C (.ref D)=some true)(h:Q true s) :
  wpAny (model prog w) A (excMatches (.ref x) (.ref D)) Q E s:=by
 obtain⟨b,g,dr,t,v⟩:=s;have o:=I.type (M:=model prog w);have c:=looks_mroIn (M:=model prog w) X m;have L2:=looks_mroIn (M:=model prog w) X T.be;have L3:=looks_typeIn (M:=model prog w) X T.ty;have f:Looks (model prog w) b (isType (.ref D)) true:=by
  obtain⟨j,a⟩:=bH.mp T.is;unfold clsIn at a;split at a
  .rename_i p u i n l;intro r z y B k q;unfold isType loadHead;exact aq (wpAny_loadPart (k _ _ (X _ _ l)) (ao q))
  .cases a
 unfold excMatches;have d:Looks (model prog w) b (isInstance (.ref D) (.type "tuple")) false:=L3.andThen (Looks.of_pure om);refine aq (d.at ?_);simp only[bU,if_false];refine aq (ao ?_);have e:Looks (model prog w) b (isExcClass (.ref D)) true:=f.andThen L2;simp only[bT,bY];refine aq (aq (aq (e.at ?_)));simp only[Bool.not_true,bU,if_false];refine ao (ao (aq (o.at (aq (aq (aq (c.at ?_)))))));simp only[if_true];exact ao (ao (ao h))
end
noncomputable abbrev Cx.tryB(X:Cx)(pn:List (Addr×Obj))(xe:Vq->Shared->Prop):Cx:={X with pn:=pn,xe:=xe}
abbrev Cx.exc(X:Cx)(pn:List (Addr×Obj))(ea:Addr):Cx:={X with A:=X.A.mark (some (.ref ea)),calm:=false,pn:=pn,xe:=λ_ _=>False}
section
variable {X:Cx}{dh pins' pn pn':List (Addr×Obj)}{σ:St}{H H1 H':Hp}{s s1 s':Sq}{xe:Vq->Shared->Prop}{ea t:Addr}{C:Vq}{vs:List Vq}{B h:Heap}
def Cx.Ok.tryB(ok:X.Ok):(X.tryB pn xe).Ok:=⟨ok.mod,ok.kind,ok.glob,ok.blt,ok.above,ok.inj,ok.has,ok.cab,ok.hd,ok.frames,ok.stk,ok.exf,ok.bs,ok.bsz,ok.noex,ok.exfs,ok.funs,ok.frf⟩
def Cx.Ok.exc(ok:X.Ok):(X.exc pn ea).Ok:=⟨ok.mod,ok.kind,ok.glob,ok.blt,ok.above,ok.inj,ok.has,ok.cab,λz=>absurd (z) aH,ok.frames,ok.stk,ok.exf,ok.bs,ok.bsz,ok.noex,ok.exfs,ok.funs,ok.frf⟩
def dF.tryB(I:dF X dh σ H s):dF (X.tryB (X.pn++dh) xe) [] σ H s:=⟨I.ok.tryB,I.os,I.bare,I.base,I.loc,I.cell,I.free,I.freeC,λp a=>I.pin p (by simpa using a),I.hok,I.len⟩
def dF.tryW(I:dF (X.tryB pn xe) dh σ H s):dF (X.tryB pn xe') dh σ H s:=⟨Cx.Ok.tryB (X:=X.tryB pn xe) I.ok,I.os,I.bare,I.base,I.loc,I.cell,I.free,I.freeC,I.pin,I.hok,I.len⟩
def dF.untryB(ok:X.Ok)(I:dF (X.tryB (X.pn++dh) xe) pins' σ H s):dF X dh σ H s:=⟨ok,I.os,I.bare,I.base,I.loc,I.cell,I.free,I.freeC,λp a=>I.pin p (ay _ a),I.hok,I.len⟩
def SP.untryB(ok:X.Ok)(q:SP (X.tryB (X.pn++dh) xe) pins' D f s):SP X dh D f s:=by
 cases f with
 |next=>obtain⟨a,H',I,q⟩:=q;exact⟨a,H',I.untryB ok,q⟩
 |brk=>obtain⟨a,H',I,q⟩:=q;exact⟨a,H',I.untryB ok,q⟩
 |cont=>obtain⟨a,H',I,q⟩:=q;exact⟨a,H',I.untryB ok,q⟩
 |ret u=>obtain⟨v,a,H',I,r,q⟩:=q;exact⟨v,a,H',I.untryB ok,r,q⟩
def dF.exc(I:dF X dh σ H s)(a:∀p∈pn,s.heap.get? p.1=some p.2/\H p.1=none/\p.1≠X.env.locals/\p.1∉X.fs/\∀v,p.2.data≠.cell v):dF (X.exc pn ea) [] σ H s:=⟨I.ok.exc,I.os,I.bare,I.base,I.loc,I.cell,I.free,I.freeC,λp h=>a p (by simpa using h),I.hok,I.len⟩
def dF.unexc(ok:X.Ok)(I:dF (X.exc pn ea) pins' σ H s)(a:∀p∈X.pn++dh,p∈pn):dF X dh σ H s:=⟨ok,I.os,I.bare,I.base,I.loc,I.cell,I.free,I.freeC,λp h=>I.pin p (ay _ (a p h)),I.hok,I.len⟩
def sC(I:dF X dh σ H1 s1)(F:Ad X.prog X.w X.stack H1 s1 ea t C vs B H' s')(k:B.StaysIn h)(x:s'.heap.UpToSlots h):dF X dh σ H' {s' with heap:=h}:=by
 have g:∀b,H' b≠none->∃o,s'.heap.get? b=some o/\h.get? b=some o:=λb a=>by
  cases q:H' b with
  |none=>exact absurd q a
  |some u=>obtain⟨o,e⟩:=(F.hok b u q).at_;exact⟨o,e,k b o (F.trk b o e a)⟩
 have d:∀b o,s1.heap.get? b=some o->H1 b=none->b∈ku X.stack->∃d,h.get? b=some {o with slots:=d}:=λb o e n a=>by obtain⟨d,D⟩:=F.un.slot b o e n a (by simp);obtain⟨_,i,j,m⟩:=I.stack.mem a;rw[e]at j;cases j;obtain⟨p,A⟩:=x b {o with slots:=d} D m;exact⟨p,A⟩
 refine I.call' (ch:=[]) F.os ⟨λb o e n a _=>k b o (F.old b o e n a),λb o e n a _=>d b o e n a,λb o e n _=>F.un.free b o e n (by simp),λb o e _=>?_,F.un.tups,F.un.frzs,F.un.tbls⟩ (λb u e=>?_) F.bare (λb a=>nomatch a)
 .by_cases E:H' b=none
  .by_cases a:b∈ku X.stack
   .obtain⟨y,f⟩:=d b o e (I.stkFree b a) a;exact⟨_,f⟩
   .obtain⟨i,f⟩:=F.ex b o e a;exact⟨i,k b i f⟩
  .obtain⟨i,_,f⟩:=g b E;exact⟨i,f⟩
 .have a:H' b≠none:=by rw[e];exact λz=>nomatch z
  refine (F.hok b u e).stay (λc v r q=>?_) (λ_ q=>q) λ_ _ q=>q;have l:H' c≠none:=by
   rcases r with z|z
   .rw[z];exact a
   .rw[z];exact λz=>nomatch z
  exact k c v (F.trk c v q l)
def kz{M:Model}{A:Around}{E:Vq->Shared->Prop}{i:Nat}{n:Str}{J:Pos}{Q:Unit->Shared->Prop}(I:dF X dh σ H s)(hN:X.N.Nodup)(S:X.N[i]? = some n)(hl:X.env.kindOf n=some .local)
  (h:∀s',dF X dh (σ.set i none) H s'->Q () s'):wpAny M A (do bindName X.env n .none;unbindBehindTheSuite X.env n J) Q E s:=by
 obtain⟨m,U,F⟩:=id I.loc;have u:(X.env.scope.kind==.class||(X.env.scope.kind==.module&&X.env.locals != X.env.globals))=false:=by rw[I.ok.kind];rfl
 have r:i<σ.length:=by rw[I.len];exact (aa.mp S).1
 refine wpAny_nameGoes_keeps hl U u λh' v K f=>?_;obtain⟨oL,_,_,Y,_⟩:=id U;have tracked:lF X.prog X.w H h':=λb ob e=>by
  refine (I.hok b ob e).stay (λc R x q=>(f.2 c ?_).trans q) (λ_ q=>q) λ_ _ q=>q;have a:=I.free;rintro rfl;rcases x with rfl|x
  .rw[a]at e;cases e
  .rw[a]at x;cases x
 refine h _ ⟨I.ok,I.os,I.bare,⟨λb o e n L l=>?_,λb o e n L l=>?_,I.base.free,λb o e l=>?_,I.base.tups,I.base.frzs,I.base.tbls⟩,⟨_,K,λj y v' g D e3=>?_⟩,λy c e=>?_,I.free,I.freeC,λp hp=>?_,tracked,by simpa using I.len⟩
 .exact (f.2 b (aM (aE (aL e) I.ok.above))).trans (I.base.keep b o e n L l)
 .obtain⟨sl,g⟩:=I.base.slot b o e n L l;exact⟨sl,(f.2 b (aM (aE (aL e) I.ok.above))).trans g⟩
 .obtain⟨o',g⟩:=I.base.there b o e l;exact⟨o',(f.2 b (aM (aE (aL e) I.ok.above))).trans g⟩
 .by_cases P:j=i
  .subst P;rw[List.getElem?_set_self r]at D;cases D
  .rw[ar (Ne.symm P)]at D;obtain⟨Z,r',q⟩:=F j y v' g D e3;refine⟨Z,r',?_⟩;rcases q with⟨k,e⟩|⟨k,c,e,z⟩
   .refine .inl ⟨k,?_⟩;have:y≠n:=λe=>P (oP hN g (e▸S));simp[this,e]
   .exact .inr ⟨k,c,e,z.sameBut f (I.cne y c e)⟩
 .obtain⟨R,z⟩:=I.cell y c e;exact⟨R,z.sameBut f (I.cne y c e)⟩
 .obtain⟨e,n,ne,nf,d⟩:=I.pin p hp;exact⟨(f.2 p.1 ne).trans e,n,ne,nf,d⟩
noncomputable def kR.gone(D:kR)(i:Nat):kR:={nx:=λσ H=>D.nx (σ.set i none) H,rt:=D.rt,bk:=λσ H=>D.bk (σ.set i none) H,ct:=λσ H=>D.ct (σ.set i none) H}
def Ex(K:Frag)(N:List Str)(d:Addr)(i:Nat)(b:XK->TS)(c:Addr->Addr->TS):TS:=λD σ H=>b (λe _ H'=>∃a,e=.ref a/\mroIn K a (.ref d)=some true/\∀ea,H' ea=none->c ea a (D.gone i) ((List.replicate N.length none).set i (some (.ref ea))) H') D σ H
theorem Dj
  (Z:X.N.Nodup) (hi:X.N[i]? = some n) (hl:X.env.kindOf n=some .local) (hg:Gl X x) (hm:X.mg x=some (.ref Dh)) (T:Bw X.K Dh)
  (J:X.stack=X.env::X.outer) (hfr:X.env.frame=some X.env.locals)
  (hb:∀(EK:XK) (pn:List (Addr×Obj)) (xe:Vq->Shared->Prop),ja (oV X.prog X.w) (X.tryB pn xe) EK->mW (X.tryB pn xe) body (tb EK))
  (hs:∀(pn:List (Addr×Obj)) (ea:Addr) (oe:Obj) (r:Addr),(ea,oe)∈pn->oe.cls=.ref r->mW (X.exc pn ea) (Y::suite) (th ea r))
  (hx:tO X.env.scope n:=by exact .inl rfl) (hfn:X.fn n=true\/X.env.scope.names.lookup n=some .local:=by exact .inr rfl) (hd:(x==("__debug__" : Str))=false:=by decide) :
  PS X (.Try body [.ExceptHandler (some (.Name x np)) (some n) (Y::suite) hpos] [] [] pos) (Ex X.K X.N Dh i tb th):=by
 intro dh s σ H D I h;let E0':XK:=λCv _ H'=>∃r,Cv=.ref r/\mroIn X.K r (.ref Dh)=some true/\∀ea,H' ea=none->th ea r (D.gone i) ((List.replicate X.N.length none).set i (some (.ref ea))) H';let XE:Vq->Shared->Prop:=λe s'=>∃pins' d H1 s1,dF (X.tryB (X.pn++dh) λ_ _=>False) pins' d H1 s1/\oV X.prog X.w X.stack H1 s1 E0' e s';have hB:=hb E0' (X.pn++dh) XE (λpins' d H1 s1 e s' I' q=>⟨pins',d,H1,s1,I'.tryW,q⟩);refine wpAny_Try_except (wpAny_mono (hB [] s σ H D I.tryB h) (λf s1 q=>?_) λe s' q=>?_)
 .have q':=SP.untryB I.ok q;cases f with
  |next=>exact wpAny_execs_nil q'
  |brk=>exact q'
  |cont=>exact q'
  |ret u=>exact q'
 .obtain⟨pins',d,H1,s1,I1,ea,t,Cv,vs,B,H',rfl,F,r,rfl,R,hth⟩:=q;have y:=F.fly;have hst':=J;rw[J]at y;refine wpAny_looks_onW (I.ok.frames.trans (by rw[J])) hfr y λh₄ hheld₄ hsm₄=>?_;refine wpAny_landsW hheld₄ λS b hsm₅'=>?_;have I5:=sC I1 F b.1 (hsm₄.trans hsm₅');have I5e:dF (X.exc [] ea) [] d H' {s' with heap:=S}:=(I5.untryB I.ok).exc λp k=>nomatch k;obtain⟨ob,hob,U⟩:=b.there;refine wpAny_handleBy_cons (codeAny_handlers_test (kJ I5e hg hm ?_ hd)) (by intro q;cases q);refine sW I5e.kIn ⟨ob,hob,U⟩ T R (codeAny_handlers_suite_as ?_);refine lands_againW b λl hfl₆ hsm₆=>?_;have I6:=sC I1 F hfl₆.1 ((hsm₄.trans hsm₅').trans hsm₆);obtain⟨oe,ws,P,hoec,c,hoe0⟩:=hfl₆.first;have neL:ea≠X.env.locals:=λz=>by
   obtain⟨m,⟨o,es,ep,ho,hdo,_⟩,_⟩:=I6.loc;have g:l.get? ea=some o:=by rw[z];exact ho
   rw[P]at g;cases g;rw[hdo]at c;cases c
  have nfs:ea∉X.fs:=λz=>by obtain⟨_,o,ho,hnf⟩:=I6.funs.mem z;have g:=ho;rw[P]at g;cases g;exact hnf _ c
  have I7:dF (X.exc (X.pn++dh++[(ea,oe)]) ea) [] ((List.replicate X.N.length none)) H' {s' with heap:=l}:=by
   refine dF.weak (dF.exc (I6.untryB I.ok) λp k=>?_) (by rw[bJ];exact I6.len.symm) (λj v e=>by rw[List.getElem?_replicate]at e;split at e<;>cases e);rcases ai.mp k with k|k
   .exact I6.pin p (ay _ k)
   .obtain rfl:p=(ea,oe):=by simpa using k
    exact⟨P,F.he,neL,nfs,λv z=>by rw[c]at z;cases z⟩
  refine n9 (X:=X.exc (X.pn++dh++[(ea,oe)]) ea) (v:=.ref ea) I7 Z hi hx rfl (λs7 I8=>?_) hfn;refine wpAny_mono (hs _ ea oe r (bu _ (aj.mpr rfl)) hoec [] s7 _ H' (D.gone i) I8 (hth ea F.he)) (λf s8 q=>?_) λ_ _ z=>z.elim;have sub:∀p∈X.pn++dh,p∈X.pn++dh++[(ea,oe)]:=λp k=>ay _ k;cases f with
  |next=>obtain⟨L,E,Q,A⟩:=q;exact kz (Q.unexc I.ok sub) Z hi hl λs9 a=>⟨_,E,a,A⟩
  |brk=>obtain⟨L,E,Q,A⟩:=q;exact kz (Q.unexc I.ok sub) Z hi hl λs9 a=>⟨_,E,a,A⟩
  |cont=>obtain⟨L,E,Q,A⟩:=q;exact kz (Q.unexc I.ok sub) Z hi hl λs9 a=>⟨_,E,a,A⟩
  |ret u=>obtain⟨v,L,E,Q,r9,A⟩:=q;exact kz (Q.unexc I.ok sub) Z hi hl λs9 a=>⟨v,_,E,a,r9,A⟩
end
end L2
namespace L2
open PySem PySem.Spec PyProof.Rows PySem.W PySem.Calls
inductive yP(K:Frag)(H:Hp)(Ca:Addr):V->Bool->Prop where
 |own {D:Addr} {b:Bool} (e:kitOne K (.ref Ca) (.ref D)=some b):yP K H Ca (.ref D) b
 |ty {T:String} {b:Bool} (e:kitOne K (.ref Ca) (.type T)=some b):yP K H Ca (.ty T) b
 |tup {p:Addr} {ds:List Addr} {b:Bool} (h:H p=some (.tup (ds.map V.ref))) (e:kitAny K (.ref Ca) (ds.map Value.ref)=some b):yP K H Ca (.ref p) b
theorem qd:∀{a:List Addr} {us:List Vq},dZ (a.map V.ref) us->us=a.map Value.ref
 |[],_,.nil=>rfl
 |d::a,u::us,.cons r t=>by have e:=r;rw[e,qd t];rfl
def fS{K:Frag}(t:(ea,oe)∈X.pn)(l:oe.cls=.ref Ca)(w:X.K=K:=by rfl) :
  gW X (.builtin "isinstance") (λg H Q=>∃c b,g=[.ref ea,c]/\pb K Ca/\yP K H Ca c b/\Q (.bl b) H):=by
 subst w;intro y s D H g v Q I r h;obtain⟨c,b,rfl,C,j,q⟩:=h;have f:qE ea Ca s.heap:=⟨oe,(I.pin _ (ay _ t)).1,l⟩;cases r with
 |cons r1 r2=>
  cases r2 with
  |cons r3 r4=>
   cases r4;cases (r1);cases j with
   |own e=>cases (r3);exact kia_one (nQ C) I.kIn f e (λz=>nomatch z) λa=>⟨.bl b,H,I.tok a,rfl,q⟩
   |ty e=>cases (r3);exact kia_one (nQ C) I.kIn f e (λz=>nomatch z) λa=>⟨.bl b,H,I.tok a,rfl,q⟩
   |@tup p ds b hp e=>cases (r3);obtain⟨E,v,u,o,i,d,n,k,_⟩:=(I.hok p _ hp);obtain⟨A,B,m,x⟩:=o;subst d;subst k;rw[qd u]at i;exact kia_tup (nQ C) I.kIn f i e (λz=>nomatch z) λa=>⟨.bl b,H,I.tok a,rfl,q⟩
structure iX(P:Program)(w:World)(K:W.Frag)(mg:Str->Option Value)(base:Heap)(x:Str)(k:Nat)(sp:Sp):Prop where
 ex:∃f fd ps,iU P w K mg base (oV P w) k f fd ps sp/\mg x=some (.ref f)/\W.keepIn K (.ref f)=true/\jY K fd ps []
def iX.mono{K:W.Frag}(h:iX P w K mg base x j sp)(d:j<=k):iX P w K mg base x k sp:=
 let ⟨f,fd,ps,F,a,b,c⟩:=h.ex
 ⟨f,fd,ps,F.mono d,a,b,c⟩
def Aj{K:W.Frag}{st:Stmt}(D:dN K mg x st)(S:eB N ps (dt st))
  (n:∀(kV d i:Vq) (h:Oq Addr) (a j:Vq) (us:List Vq),us.length=ps.length->bindArgs (W.fnOf x x (eV st) (dU st) (dt st) .none kV d i h a j) ⟨us,[]⟩=pure (ps.zip us))
  (e:∀vs H Q E,sp vs H Q E->vs.length=ps.length)
  (b:∀f a A c s H vs Q E,eD k (A.deeper (envOfC x (dt st) s.heap.objs.size f a))->sp vs H Q E->
   ∃t,mW (fK (oV P w) P w K mg base N x (dt st) f a A c s H E) (dU st) t/\t {nx:=λ_ l=>Q .non l,rt:=Q} (fT N vs) H):iX P w K mg base x (k+1) sp:=by
 obtain⟨f,u,F,m⟩:=D.ex;have q:=F.binds n;have o:=F.kp;obtain⟨v,y,kV,d,i,h,a,j,r,rfl,p,g⟩:=F.ex;exact⟨f,_,ps,CU p g S e (b f a),m,o,q⟩
section
variable {X:Cx}{x:Str}{k:Nat}{sp:Sp}{e:Expr}{es:List Expr}{t:TA}{p pos:Pos}{E:XK}
def wL:ja (oV X.prog X.w) X E0:=λ_ _ _ _ _ _ _ q=>by obtain⟨b,t,C,a,B,c,_,_,z⟩:=q;exact z.elim
def tj(h:iX X.prog X.w X.K X.mg X.base x k sp)(hr:eD k X.A)(i:ja (oV X.prog X.w) X E)(l:PA X (e::es) t)(j:Gl X x:=by rfl)
  (d:(x==("__debug__" : Str))=false:=by decide) (m:starEach (e::es) X.env=(false,eval e X.env)::starEach es X.env:=by rfl) (g:(backTo pos (starEach es X.env)).any (·.1)=false:=by rfl) :
  PE X (.Call (.Name x p) (e::es) [] pos) (lj sp [] E t):=by
 obtain⟨f,o,n,F,a,b,c⟩:=h.ex;exact vq F hr j a b c .nil i l d m g
end
def jV{K:Frag}(e:mroIn K C b=some r):(clsIn K C).isSome=true:=by
 unfold mroIn at e;cases h:clsIn K C with
 |none=>rw[h]at e;cases e
 |some cd=>rfl
def zQ K a:kitOne K (.ref a) (.ref a)=some true:=by unfold kitOne;rw[aQ (beq_self_eq_true _)]
def Da{K:Frag}{a:Addr}{T:String}{r:Bool}(b:kitMeta T=true)(h:mroIn K a (.type T)=some r):kitOne K (.ref a) (.type T)=some r:=by unfold kitOne;rw[aR (λq=>by cases beq_iff_eq.mp q)];show (if kitMeta T=true then subIn K (.ref a) (.type T) else none)=some r;rw[aQ b];exact h
def wd{K:Frag}(b:a≠c)(d:typeIn K (.ref c)=some (.type "type"))(e:(clsIn K c).isSome=true)(h:mroIn K a (.ref c)=some r):kitOne K (.ref a) (.ref c)=some r:=by unfold kitOne;rw[aR (λq=>b (by cases beq_iff_eq.mp q;rfl))];show (if ((clsIn K c).isSome&&typeIn K (.ref c)==some (.type "type"))=true then subIn K (.ref a) (.ref c) else none)=some r;rw[aQ (by rw[e,d];decide)];exact h
end L2
namespace L2
open PySem PySem.Spec PyProof.Rows PySem.W
mutual
inductive DV(K:Frag)(H:Hp):V->PyData->Prop
 |non:DV K H .non .none
 |bl (b:Bool):DV K H (.bl b) (.bool b)
 |int (i:Int):DV K H (.int i) (.int i)
 |str (x:Str):DV K H (.str x) (.str x)
 |lst {a:Addr} {xs:List V} {ds:List PyData} (h:ib K H a xs) (hs:qa K H xs ds):DV K H (.ref a) (.list ds)
 |tup {a:Addr} {xs:List V} {ds:List PyData} (h:jd K H a xs) (hs:qa K H xs ds):DV K H (.ref a) (.tuple ds)
inductive qa(K:Frag)(H:Hp):List V->List PyData->Prop
 |nil:qa K H [] []
 |cons {v:V} {d:PyData} {vs:List V} {ds:List PyData} (h:DV K H v d) (hs:qa K H vs ds):qa K H (v::vs) (d::ds)
end
section
variable {X:Cx}{dh:List (Addr×Obj)}{σ:St}{H:Hp}{s:Sq}
mutual
theorem DV.reads(I:dF X dh σ H s):∀{v} {d} {u},DV X.K H v d->eO v u->∃as,Reads s.heap u d as
 |_,_,_,.non,r=>by cases r;exact⟨_,.none⟩
 |_,_,_,.bl b,r=>by cases r;exact⟨_,.bool b⟩
 |_,_,_,.int i,r=>by obtain⟨t,rfl⟩:=r;exact⟨_,.int i t⟩
 |_,_,_,.str x,r=>by obtain⟨t,rfl⟩:=r;exact⟨_,.str x t⟩
 |_,_,_,.lst h hs,r=>by cases r;obtain⟨a,j,⟨o,n,e,c,k,f⟩,_⟩:=I.list h;obtain⟨as,g⟩:=qa.reads I hs j;exact⟨_,.list e c f (by simpa using g)⟩
 |_,_,_,.tup h hs,r=>by cases r;obtain⟨a,j,⟨o,e,c,n,f⟩,_⟩:=I.tuple h;obtain⟨as,g⟩:=qa.reads I hs j;exact⟨_,.tuple e c f (by simpa using g)⟩
theorem qa.reads(I:dF X dh σ H s):∀{vs} {ds} {us},qa X.K H vs ds->dZ vs us->∃as,ReadsAll s.heap us ds as
 |_,_,_,.nil,r=>by cases r;exact⟨_,.nil⟩
 |_,_,_,.cons h hs,r=>by
  cases r with
  |cons r1 r2=>obtain⟨as,b⟩:=DV.reads I h r1;obtain⟨bs,a⟩:=qa.reads I hs r2;exact⟨_,.cons b a⟩
end
def uw(K:Frag)(neg:Bool):R2:=λx y H Q=>∃a b,DV K H x a/\DV K H y b/\(a.canLay0=true/\b.canLay0=true/\a.depth<=100)/\Q (.bl (if neg then !PyData.eqv a b else PyData.eqv a b)) H
def Au(n:X.A.units+200<cLine):kS X (compareOp .Eq) (uw X.K false):=by intro k s o H x y v u Q I f g h;obtain⟨j,m,b,e,⟨d,a,l⟩,q⟩:=h;obtain⟨as,c⟩:=b.reads I f;obtain⟨bs,i⟩:=e.reads I g;exact SeqAt.eqOverData _ _ _ _ _ _ _ _ _ _ _ _ c i d a (by omega) ⟨.bl _,H,I,rfl,q⟩
def zi(n:X.A.units+200<cLine):kS X (compareOp .NotEq) (uw X.K true):=by intro k s o H x y v u Q I f g h;obtain⟨j,m,b,e,⟨d,a,l⟩,q⟩:=h;obtain⟨as,c⟩:=b.reads I f;obtain⟨bs,i⟩:=e.reads I g;exact SeqAt.neOverData _ _ _ _ _ _ _ _ _ _ _ _ c i d a (by omega) ⟨.bl _,H,I,rfl,q⟩
def GW(hr:eD k A):A.units+200<cLine:=by have:=hr.un;omega
end
end L2
namespace L2
open PySem PySem.Spec PyProof.Rows
theorem sN:∀{bs:List Bool} {us:List Vq},dZ (bs.map V.bl) us->us=bs.map Value.bool
 |[],_,.nil=>rfl
 |b::bs,u::us,.cons r t=>by have e:=r;rw[e,sN t];rfl
theorem nJ:∀{ns} {us},dZ (ns.map V.int) us->IntsAre us ns
 |[],_,.nil=>.nil
 |n::ns,u::us,.cons r t=>by obtain⟨a,e⟩:=(r);rw[e];exact .cons n a (nJ t)
def wW{bs:List Bool}:(List.range bs.length).all (λi=>bs.getD i false)=bs.all id:=by
 induction bs with
 |nil=>rfl
 |cons b bs ih=>rw[az,b4,b5,b6,b5,<-ih];rfl
def pT{bs:List Bool}:(List.range bs.length).any (λi=>bs.getD i false)=bs.any id:=by
 induction bs with
 |nil=>rfl
 |cons b bs ih=>rw[az,b4,List.any_cons,b7,List.any_cons,<-ih];rfl
section
variable {X:Cx}
def xr{bs:List Bool}:TruthOf prog w A (λi v=>(bs.map Value.bool).toArray[i]? = some v) (λi=>bs.getD i false):=λi v s Q E d a=>by
 have e:(bs.map Value.bool)[i]? = some v:=by simpa using d
 rw[aw]at e;cases c:bs[i]? with
 |none=>rw[c]at e;cases e
 |some b=>
  rw[c]at e;cases e;have:bs.getD i false=b:=by rw[af,c];rfl
  dsimp only at a;rw[this]at a;exact ao a
def Ae(j:X.calm=true):gW X (.builtin "all") (λd H Q=>∃(p:Addr) (bs:List Bool),d=[.ref p]/\ib X.K H p (bs.map V.bl)/\Q (.bl (bs.all id)) H):=by
 intro t s y H d x Q I r h;obtain⟨p,bs,rfl,m,q⟩:=h;obtain⟨u,rfl,l⟩:=j1 r;cases l;obtain⟨n,g,c,B⟩:=I.list m;have e:=sN g;subst e;have a:p<s.heap.objs.size:=by obtain⟨_,e,_⟩:=c.isList;exact aL e
 refine call_all_walk (wpAny_pyIter_list c.isList ⟨s.heap.objs.size,_,_,_,_,_,λi=>bs.getD i false,rfl,Walks.list (A:=X.A.in1) (I.ok.hd j) _ p (aM a) _,⟨⟨_,au _ rfl,rfl,rfl⟩,c.isList.push _⟩,xr,λv w f=>?_⟩);refine⟨.bl _,H,I.kept (λb o e=>f b o ?_ (ae _ e)),rfl,?_⟩
 .intro k;have:=aL e;have z:b=s.heap.objs.size:=by simpa using k
  rw[z]at this;exact a9 _ this
 .rw[<-wW]at q;simpa using q
def rK:bootBuiltins "all" = some (.builtin "all"):=by decide +kernel
def oS:bootBuiltins "any" = some (.builtin "any"):=by decide +kernel
end
end L2
namespace L2
open PySem PySem.Spec PyProof.Rows
def fq(b:Bool)(h:Heap)(l:Addr)(a:Array Vq):Prop:=if b=true then h.IsTuple l a else h.IsList l a
def iD(b:Bool)(h:Heap)(it l:Addr)(k:Nat):Prop:=if b=true then h.IsTupleIter it l k else h.IsListIter it l k
noncomputable def nR(b:Bool):String:=if b=true then "tuple_iterator" else "list_iterator"
def iD.look(x:iD b h it l k):∃o,h.get? it=some o/\o.cls=.type (nR b)/\o.data=.fields #[.ref l,.int k 0]:=by
 cases b with
 |true=>exact (x)
 |false=>exact (x)
def iD.of{k:Nat}(x:∃o,h.get? it=some o/\o.cls=.type (nR b)/\o.data=.fields #[.ref l,.int k 0]):iD b h it l k:=by
 cases b with
 |true=>exact x
 |false=>exact x
def iD.to(x:iD b h it l k)(e:∀o,h.get? it=some o->h'.get? it=some o):iD b h' it l k:=by obtain⟨o,a,q⟩:=x.look;exact .of ⟨o,e o a,q⟩
def fq.look(x:fq b h l xs):∃o n,h.get? l=some o/\o.data=.seq xs n:=by
 cases b with
 |true=>obtain⟨o,a,_,n,c⟩:=(x);exact⟨o,n,a,c⟩
 |false=>obtain⟨o,a,_,n,c⟩:=(x);exact⟨o,n,a,c⟩
def fq.to(x:fq b h l xs)(e:∀o,h.get? l=some o->h'.get? l=some o):fq b h' l xs:=by
 cases b with
 |true=>obtain⟨o,a,q⟩:=(x);exact⟨o,e o a,q⟩
 |false=>obtain⟨o,a,q⟩:=(x);exact⟨o,e o a,q⟩
section
variable {prog:Program}{w:World}{A:Around}{E:Vq->Shared->Prop}{s:Sq}
theorem A3(g:s.heap.IsTupleIter it l k)(j:s.heap.IsTuple l xs)
  (m:∀x a,xs[k]? = some x->a.IsTupleIter it l (k+1)->Heap.SameBut it s.heap a->Q x {s with heap:=a})
  (f:xs[k]? = none->A.handled=none/\∀a e,Heap.ExtBut it s.heap a->(∃o,a.get? e=some o/\o.cls=.type "StopIteration")->E (.ref e) {s with heap:=a}) :
  wpAny (model prog w) A (Builtin.SmallTypes.nextOf (.ref it)) Q E s:=by
 obtain⟨t,c,h,b⟩:=id g;obtain⟨r,q,_,n,i⟩:=j;unfold Builtin.SmallTypes.nextOf;refine aq (wpAny_callSpecial?_slot g.typeIs F.slot_tuple_iterator_next (wpAny_call_entry F.slot_tuple_iterator_next g.typeIs F.entry_tuple_iterator_next ?_ (F.args_tuple_iterator_next_1 _)));show wpAny _ _ (field (.ref it) 0 >>= _) _ _ s;refine aq (wpAny_field c b rfl ?_);have ne:(Value.ref l==Value.none)=false:=rfl;simp only[ne,bU,if_false];refine aq (wpAny_field c b rfl (aq (wpAny_seqItems q i ?_)));cases d:xs[k]? with
 |some x=>simp only[bK,d];refine aq (wpAny_setField c b (by simp) (ao ⟨x,rfl,ao (m x _ d ?_ (Heap.SameBut.update ..))⟩));refine⟨_,Heap.get?_update_self _ c (Obj.isFreed_of_fields (Obj.data_mapFields b _)),(Obj.cls_mapFields ..).trans h,?_⟩;rw[Obj.data_mapFields b];simp[rawInt]
 |none=>obtain⟨p,f⟩:=f d;simp only[bK,d];refine aq (wpAny_rule (aq (wpAny_setField c b (by simp) ?_)));show wpAny _ _ (newExc (.type "StopIteration") [] >>= _) _ _ _;simp only[newExc,newTuple];refine aq (aq (wpAny_newObj_type (aq (wpAny_of_eq (by first|rfl|(simp only[firstArgMember];rfl)) (wpAny_newObj_type ?_ (by size_fits)))) (by size_fits)));simp only[raiseNew];refine aq (wpAny_handled ?_);rw[show A.in1.handled=none from p];refine aq (ao (wpAny_throw ?_));exact f _ _ (((Heap.SameBut.update ..).extBut.push _).push _) ⟨_,au _ rfl,rfl⟩
theorem nU(m:iD b s.heap it l k)(i:fq b s.heap l xs)
  (j:∀x c,xs[k]? = some x->iD b c it l (k+1)->Heap.SameBut it s.heap c->Q x {s with heap:=c})
  (h:xs[k]? = none->A.handled=none/\∀c e,Heap.ExtBut it s.heap c->(∃o,c.get? e=some o/\o.cls=.type "StopIteration")->E (.ref e) {s with heap:=c}) :
  wpAny (model prog w) A (Builtin.SmallTypes.nextOf (.ref it)) Q E s:=by
 cases b with
 |true=>exact A3 m i j h
 |false=>
  have d:=m;have f:=i;cases g:xs[k]? with
  |some x=>exact wpAny_nextOf_list_item d f g λc a b=>j x c g a b
  |none=>obtain⟨n,h⟩:=h g;exact wpAny_nextOf_list_end n d f g h
def zE{z TI TO C I S N:Addr}{Q:Vq->Shared->Prop}(D:ZipApart z TI TO C I S N)
  (L:IsZip s.heap z TI TO .none) (hTI:IsPair s.heap TI (.ref C) (.ref I)) (hTO:IsPair s.heap TO a b)
  (h1:iD b1 s.heap C S k) (h2:iD b2 s.heap I N k) (Z:fq b1 s.heap S xs) (Y:fq b2 s.heap N ys)
  (yes:∀x y g,xs[k]? = some x->ys[k]? = some y->IsZip g z TI TO (rawInt s.heap.objs.size)->IsPair g TO x y->iD b1 g C S (k+1)->iD b2 g I N (k+1)->IsPair g s.heap.objs.size x y->g.objs.size=s.heap.objs.size+1->
   (∀c o,c≠z->c≠TO->c≠C->c≠I->s.heap.get? c=some o->g.get? c=some o)->Q (.ref s.heap.objs.size) {s with heap:=g})
  (R:xs[k]? = none\/ys[k]? = none->A.handled=none/\∀g e,(∀c o,c≠z->c≠TO->c≠C->c≠I->s.heap.get? c=some o->g.get? c=some o)->(∃o,g.get? e=some o/\o.cls=.type "StopIteration")->E (.ref e) {s with heap:=g}) :
  wpAny (model prog w) A (Builtin.«zip.__next__» ⟨[.ref z],[]⟩) (λfin s'=>∃v,fin=.done (.ret v)/\Q v s') E s:=by
 have r:∀{h:Heap} {e:Addr} {H:Obj} {f:Vq},IsZip h z TI TO f->h.get? e=some H->H.cls=.type "StopIteration" ->e≠z:=λ{h e H f} q ge ce u=>by subst u;rw[q]at ge;cases ge;simp at ce
 show wpAny _ _ (field (.ref z) 2 >>= λ_=>_) _ _ _;refine aq (wpAny_field L rfl rfl ?_);refine aq (wpAny_field L rfl rfl (aq (wpAny_seqItems hTI rfl ?_)));unfold Builtin.SmallTypes.ownedTupleIsFree;refine aq (aq (wpAny_field L rfl rfl (ao ?_)));simp only[if_true];refine aq (wpAny_rule (aq (wpAny_field L rfl rfl (aq (wpAny_setField_rec L (by simp) λg1 y1 J=>?_)))));have z1:=y1;simp only[List.zipIdx_cons,List.zipIdx_nil,bT,bY];refine aq (aq (aq (wpAny_onRaise ?_)));refine aq (nU (h1.to λo e=>J.extBut _ _ D.i1z e) (Z.to λo e=>J.extBut _ _ D.l1z e) (λx g2 P t2 p=>ao ?_) (λP=>⟨(R (.inl P)).1,λg2 e p ⟨H,ge,ce⟩=>?_⟩))
 .have p2:=p.extBut _ _ D.TOi1 (J.extBut _ _ D.TOz hTO);refine aq (wpAny_seqItems p2 rfl (aq (wpAny_updateSeq_pair p2 λg3 q3 B=>?_)));have p3:=q3;refine aq (wpAny_letGo (ao (aq (aq (wpAny_onRaise ?_)))));have l:∀c o,c≠z->c≠C->c≠TO->s.heap.get? c=some o->g3.get? c=some o:=λc o d j i e=>B.extBut _ _ i (p.extBut _ _ j (J.extBut _ _ d e));refine aq (nU (h2.to λo e=>l _ o D.i2z D.i12.symm D.TOi2.symm e) (Y.to λo e=>l _ o D.l2z D.l2i1 D.l2TO e) (λy g4 U t4 t=>ao ?_) (λU=>⟨(R (.inr U)).1,λg4 e t ⟨H,ge,ce⟩=>?_⟩))
  .have p4:=t.extBut _ _ D.TOi2 p3;refine aq (wpAny_seqItems p4 rfl (aq (wpAny_updateSeq_pair p4 λF q5 n=>?_)));have p5:IsPair F TO x y:=q5;refine aq (wpAny_letGo (ao (ao (aq (wpAny_seqItems p5 rfl (aq (wpAny_newTuple ?_)))))));have sz:F.objs.size=s.heap.objs.size:=by rw[n.1,t.1,B.1,p.1,J.1]
   have z5:=n.extBut _ _ D.TOz.symm (t.extBut _ _ D.i2z.symm (B.extBut _ _ D.TOz.symm (p.extBut _ _ D.i1z.symm z1)));have to5:∀c o,c≠z->c≠TO->c≠C->c≠I->s.heap.get? c=some o->F.get? c=some o:=λc o d j i K e=>n.extBut _ _ j (t.extBut _ _ K (l c o d i j e));unfold Builtin.SmallTypes.ownedTupleHandOut;refine aq (aq (wpAny_setField_rec (ae _ z5) (by simp) λg7 y7 k7=>?_));have z7:=y7;refine wpAny_setField_rec z7 (by simp) λX y8 k8=>?_;have z8:=y8;have up:∀c o,c≠z->(F.push {cls:=.type "tuple",data:=.seq #[x,y]}).get? c=some o->X.get? c=some o:=λc o d e=>k8.extBut _ _ d (k7.extBut _ _ d e);have m:∀c o,c≠z->F.get? c=some o->X.get? c=some o:=λc o d e=>up c o d (ae _ e);have p8:=up _ _ (br (aL z5)) (au _ rfl);have s8:X.objs.size=F.objs.size+1:=by rw[k8.1,k7.1,Heap.size_push]
   rw[sz]at z8 p8 s8;refine ao ⟨_,rfl,?_⟩;rw[sz];have e1:=t2.to λo e=>m _ o D.i1z (n.extBut _ _ D.TOi1.symm (t.extBut _ _ D.i12 (B.extBut _ _ D.TOi1.symm e)));have e2:=t4.to λo e=>m _ o D.i2z (n.extBut _ _ D.TOi2.symm e);exact yes x y X P U z8 (m _ _ D.TOz p5) e1 e2 p8 s8 λc o d j i K e=>m c o d (to5 c o d j i K e)
  .have z4:=t _ _ D.i2z.symm (B.extBut _ _ D.TOz.symm (p.extBut _ _ D.i1z.symm z1));refine wpAny_setField_rec z4 (by simp) λF _ n=>(R (.inr U)).2 F e (λc o d j i K q=>n.extBut _ _ d (t _ _ K (l c o d i j q))) ⟨H,n.extBut _ _ (r z4 ge ce) ge,ce⟩
 .have z2:=p _ _ D.i1z.symm z1;refine wpAny_setField_rec z2 (by simp) λg3 _ B=>(R (.inl P)).2 g3 e (λc o d j i K q=>B.extBut _ _ d (p _ _ i (J.extBut _ _ d q))) ⟨H,B.extBut _ _ (r z2 ge ce) ge,ce⟩
def sQ{z TI TO f g i h:Addr}(D:ZipApart z TI TO f g i h)
  (u:IsZip s.heap z TI TO .none) (p:IsPair s.heap TI (.ref f) (.ref g)) (l:IsPair s.heap TO a b)
  (N:iD b1 s.heap f i k) (J:iD b2 s.heap g h k) (n:fq b1 s.heap i xs) (j:fq b2 s.heap h ys)
  (m:∀x y d,xs[k]? = some x->ys[k]? = some y->IsZip d z TI TO (rawInt s.heap.objs.size)->IsPair d TO x y->iD b1 d f i (k+1)->iD b2 d g h (k+1)->IsPair d s.heap.objs.size x y->d.objs.size=s.heap.objs.size+1->
   (∀c o,c≠z->c≠TO->c≠f->c≠g->s.heap.get? c=some o->d.get? c=some o)->Q (some (.ref s.heap.objs.size)) {s with heap:=d})
  (r:xs[k]? = none\/ys[k]? = none->A.handled=none/\∀d,(∀c o,c≠z->c≠TO->c≠f->c≠g->s.heap.get? c=some o->d.get? c=some o)->Q none {s with heap:=d}) :
  wpAny (model prog w) A (pyNext (.ref z)) Q E s:=by
 have t:s.TypeIs (.ref z) "zip" :=⟨_,u,rfl⟩;unfold pyNext;refine aq (wpAny_attempt (wpAny_callSpecial?_slot t F.slot_zip_next (wpAny_call_entry F.slot_zip_next t F.entry_zip_next
  (zE D u p l N J n j (λx y d B L I R K H C P v=>ao (m x y d B L I R K H C P v)) λq=>⟨(r q).1,λd e hk ⟨o,ho,hc⟩=>?_⟩) (F.args_zip_next_1 _))))
 exact aq (wpAny_isInstance ⟨o,ho,hc⟩ isSubtype_stop (ao ((r q).2 d hk)))
theorem jJ(a:fq b s.heap l xs)
  (h:Q (.ref s.heap.objs.size) {s with heap:=s.heap.push {cls:=.type (nR b),data:=.fields #[.ref l,.int 0 0]}}):wpAny (model prog w) A (pyIter (.ref l)) Q E s:=by
 cases b with
 |true=>exact wpAny_pyIter_tuple (a) h
 |false=>exact wpAny_pyIter_list (a) h
end
noncomputable abbrev zo(b:Bool)(l:Addr):Obj:={cls:=.type (nR b),data:=.fields #[.ref l,.int 0 0]}
abbrev zt(x y:Vq):Obj:={cls:=.type "tuple",data:=.seq #[x,y]}
abbrev zz(p q:Addr):Obj:={cls:=.type "zip",data:=.fields #[.none,.bool false,.bool false,.ref p,.ref q]}
noncomputable abbrev rl(b1 b2:Bool)(h:Heap)(l1 l2:Addr):Heap:=
 ((((h.push (zo b1 l1)).push (zo b2 l2)).push (zt (.ref h.objs.size) (.ref (h.push (zo b1 l1)).objs.size))).push (zt .none .none)).push
  (zz ((h.push (zo b1 l1)).push (zo b2 l2)).objs.size (((h.push (zo b1 l1)).push (zo b2 l2)).push (zt (.ref h.objs.size) (.ref (h.push (zo b1 l1)).objs.size))).objs.size)
section
variable {prog:Program}{w:World}{A:Around}{E:Vq->Shared->Prop}{s:Sq}
def wV b1 b2 l1 l2 xs ys:Meets (Builtin.«zip.__new__» ⟨[.type "zip",.ref l1,.ref l2],[]⟩) (λ_ R s=>fq b1 s.heap l1 xs/\fq b2 s.heap l2 ys/\
  R (.ok (.ret (.ref ((((s.heap.push (zo b1 l1)).push (zo b2 l2)).push (zt (.ref s.heap.objs.size) (.ref (s.heap.push (zo b1 l1)).objs.size))).push (zt .none .none)).objs.size))) {s with heap:=rl b1 b2 s.heap l1 l2}):=by
 refine .of_wp λprog w A R s h=>?_;obtain⟨l,g,d,i,f⟩:=s;obtain⟨j,c,a⟩:=h;have sz:=sub_zip;have k:=j;have b:fq b2 (Shared.heap ⟨l.push (zo b1 l1),g,d,i,f⟩) l2 ys:=c.to λo e=>ae _ e;wp_walk using jJ k,jJ b;exact⟨_,rfl,a⟩
def zv(i:fq b1 s.heap l1 xs)(f:fq b2 s.heap l2 ys)
  (h:∀b,IsZip b (s.heap.objs.size+4) (s.heap.objs.size+2) (s.heap.objs.size+3) .none->IsPair b (s.heap.objs.size+2) (.ref s.heap.objs.size) (.ref (s.heap.objs.size+1))->IsPair b (s.heap.objs.size+3) .none .none->
   iD b1 b s.heap.objs.size l1 0->iD b2 b (s.heap.objs.size+1) l2 0->b.objs.size=s.heap.objs.size+5->(∀c o,s.heap.get? c=some o->b.get? c=some o)->Q (.ref (s.heap.objs.size+4)) {s with heap:=b}) :
  wpAny (model prog w) A (call (.type "zip") [.ref l1,.ref l2]) Q E s:=by
 refine callType_new F.called_zip (by decide) (F.typeCall_zip_2 _ _) (F.newCall_zip_2 _ _) (λl=>F.args_object_init_3 l _ _) F.entry_zip_new (wV b1 b2 l1 l2 xs ys) ⟨i,f,?_⟩;generalize m:s.heap.objs.size=n at *;have d:(s.heap.push (zo b1 l1)).objs.size=n+1:=by rw[Heap.size_push,m]
 have j:((s.heap.push (zo b1 l1)).push (zo b2 l2)).objs.size=n+2:=by rw[Heap.size_push,d]
 generalize a:(s.heap.push (zo b1 l1)).push (zo b2 l2)=g2 at *;have x:∀c o,s.heap.get? c=some o->g2.get? c=some o:=λc o e=>by rw[<-a];exact ae _ (ae _ e)
 have t:g2.get? n=some (zo b1 l1):=by rw[<-a,<-m];exact ae _ (au _ rfl)
 have v:g2.get? (n+1)=some (zo b2 l2):=by rw[<-a,<-d];exact au _ rfl
 have g:(g2.push (zt (.ref n) (.ref (n+1)))).objs.size=n+3:=by rw[Heap.size_push,j]
 have k:((g2.push (zt (.ref n) (.ref (n+1)))).push (zt .none .none)).objs.size=n+4:=by rw[Heap.size_push,g]
 have r:rl b1 b2 s.heap l1 l2=((g2.push (zt (.ref n) (.ref (n+1)))).push (zt .none .none)).push (zz (n+2) (n+3)):=by unfold rl;rw[m,d,a,j,g]
 rw[r,d,k];have u:(g2.push (zt (.ref n) (.ref (n+1)))).get? (n+2)=some (zt (.ref n) (.ref (n+1))):=by rw[<-j];exact au _ rfl
 have q:((g2.push (zt (.ref n) (.ref (n+1)))).push (zt .none .none)).get? (n+3)=some (zt .none .none):=by rw[<-g];exact au _ rfl
 have p:(((g2.push (zt (.ref n) (.ref (n+1)))).push (zt .none .none)).push (zz (n+2) (n+3))).get? (n+4)=some (zz (n+2) (n+3)):=by rw[<-k];exact au _ rfl
 have up:∀c o,g2.get? c=some o->(((g2.push (zt (.ref n) (.ref (n+1)))).push (zt .none .none)).push (zz (n+2) (n+3))).get? c=some o:=λc o e=>ae _ (ae _ (ae _ e));exact⟨⟨_,p,rfl⟩,h _ p (ae _ (ae _ u)) (ae _ q) (.of ⟨_,up _ _ t,rfl,rfl⟩) (.of ⟨_,up _ _ v,rfl,rfl⟩) (by rw[Heap.size_push,k]) λc o e=>up c o (x c o e)⟩
end
end L2
namespace L2
open PySem PySem.Spec PyProof.Rows
def dF.turnedL{ch:List Addr}(I:dF X dh σ H s)(k:∀b o,b∉ch->s.heap.get? b=some o->h'.get? b=some o)(f:∀b∈ch,m3 X dh H b) :
  dF X dh σ H {s with heap:=h',toks:=t'}:=by
 have d:∀b u,H b=some u->b∉ch:=λb u e z=>by rw[(f b z).1]at e;cases e
 refine I.step (λb j=>let ⟨_,f1,_,f3,f4,f5⟩:=f b j;⟨f3,f1,f4,f5⟩) (λb o _ _ a e _=>k b o a e) (λb o _ _ a e _=>⟨o.slots,k b o a e⟩) (λ_ _ _ _ n=>n)
  (λb o a e=>⟨o,k b o a e⟩) (λ_ _ e=>e) (λ_ _ _ e=>e) (λb p e=>⟨#[],by rw[e];simp⟩) (λm h=>?_) (λb u e=>?_) I.bare
 .obtain⟨o,g,i,l,r⟩:=h;exact⟨o,g,i,k _ o (λz=>(f _ z).2.1 rfl) l,r⟩
 .refine (I.hok b u e).stay (λc v a q=>k c v ?_ q) (λ_ q=>q) λ_ _ q=>q;rcases a with z|z
  .rw[z];exact d b u e
  .exact d c _ z
def oW(K:W.Frag)(H:Hp)(b:Bool)(a:Addr)(c:List V):Prop:=if b=true then jd K H a c else ib K H a c
def dF.seqB(I:dF X dh σ H s)(h:oW X.K H b a xs):∃c:List Vq,dZ xs c/\fq b s.heap a c.toArray/\xs.length<=sizeLine:=by
 cases b with
 |true=>obtain⟨c,r,p,z⟩:=I.tuple (h);exact⟨c,r,p,z⟩
 |false=>obtain⟨c,r,p,z⟩:=I.list (h);exact⟨c,r,p.isList,z⟩
def dF.seqB_inj(I:dF X dh σ H s)(h:oW X.K H b a xs)(c:oW X.K H b a ys):xs=ys:=by
 cases b with
 |true=>exact I.tuple_inj h c
 |false=>exact I.list_inj h c
noncomputable def Hv(K:W.Frag)(d e:Bool)(f c:Addr):It:=
  ⟨λi H=>∃b a x y,oW K H d f b/\oW K H e c a/\b[i]? = some x/\a[i]? = some y,
   λi H v g=>∃p x y,v=.ref p/\H p=none/\g=fw H p (.tup [x,y])/\(∀b,oW K H d f b->b[i]? = some x)/\∀a,oW K H e c a->a[i]? = some y,
   λi H=>∃b a,oW K H d f b/\oW K H e c a/\(b.length<=i\/a.length<=i)⟩
def Aa{K:W.Frag}{x1}{z TI TO l m l1 l2:Addr}(D:ZipApart z TI TO l m l1 l2) :
  uE P w K (.Tuple elts x1 pos) (Hv K b1 b2 l1 l2) [z,TI,TO,l,m] z (λi h=>IsZip h z TI TO .none/\IsPair h TI (.ref l) (.ref m)/\(∃a b,IsPair h TO a b)/\iD b1 h l l1 i/\iD b2 h m l2 i) where
 mem:=by simp
 obj:=λi h p b f=>by
  obtain⟨n,g,⟨a,c,j⟩,t,r⟩:=p;have mem:b=z\/b=TI\/b=TO\/b=l\/b=m:=by simpa using f
  rcases mem with rfl|rfl|rfl|rfl|rfl
  .exact⟨_,n,λv q=>by cases q⟩
  .exact⟨_,g,λv q=>by cases q⟩
  .exact⟨_,j,λv q=>by cases q⟩
  .obtain⟨o,e,_,d⟩:=t.look;exact⟨o,e,λv q=>by rw[d]at q;cases q⟩
  .obtain⟨o,e,_,d⟩:=r.look;exact⟨o,e,λv q=>by rw[d]at q;cases q⟩
 keep:=λi h h' p k=>by obtain⟨n,g,⟨a,c,j⟩,t,r⟩:=p;exact⟨k z (by simp) _ n,k TI (by simp) _ g,⟨a,c,k TO (by simp) _ j⟩,t.to λo e=>k l (by simp) o e,r.to λo e=>k m (by simp) o e⟩
 item:=by
  intro X hP hw hK hc i dh s σ H E I Z p hg;subst hP hw hK;obtain⟨n,g,⟨a,c,j⟩,t,r⟩:=p;obtain⟨xs,ys,x,y,q1,q2,e1,e2⟩:=hg;obtain⟨L,r1,p1,z1⟩:=I.seqB q1;obtain⟨F,r2,p2,z2⟩:=I.seqB q2;obtain⟨u,gu,ru⟩:=r1.get e1;obtain⟨v,gv,rv⟩:=r2.get e2;have C:=I.fpOk (aK _) (I.hok.fresh (aK _));refine sQ D n g j t r p1 p2 (λN Q h' B A a1 a2 a3 a4 a5 a6 S=>?_) λq=>?_
  .have eu:N=u:=by
    have:L[i]? = some N:=by simpa using B
    rw[gu]at this;cases this;rfl
   have ev:Q=v:=by
    have:F[i]? = some Q:=by simpa using A
    rw[gv]at this;cases this;rfl
   subst eu;subst ev;refine⟨_,rfl,wpAny_letOwnedTupleGo_zip a1 λU R sb=>?_⟩;have zT:=br (aL n);have I1:=I.turnedL (t':=s.toks) (ch:=[z,TO,l,m]) (λb o f e=>sb.extBut _ _ (λq=>f (by simp[q])) (S b o (λq=>f (by simp[q])) (λq=>f (by simp[q])) (λq=>f (by simp[q])) (λq=>f (by simp[q])) e))
    (λb f=>Z b (by
     have mem:b=z\/b=TO\/b=l\/b=m:=by simpa using f
     rcases mem with rfl|rfl|rfl|rfl<;>simp))
   have gT:=sb.extBut _ _ zT a5;have I2:dF X dh σ (fw H s.heap.objs.size (.tup [x,y])) {s with heap:=U}:=I1.track C.1 C.2.2.2.1 C.2.1 C.2.2.2.2.1 C.2.2.2.2.2
    ⟨by show 2<=sizeLine;decide,[N,Q],.cons ru (.cons rv .nil),⟨_,gT,rfl,_,rfl,rfl⟩⟩
   have lt:∀{b o},s.heap.get? b=some o->fw H s.heap.objs.size (.tup [x,y]) b=H b:=λ{b o} e=>dH (aM (aL e));refine⟨.ref s.heap.objs.size,_,I2,rfl,⟨_,x,y,rfl,C.1,rfl,λxs' h=>by rw[I.seqB_inj h q1];exact e1,λys' h=>by rw[I.seqB_inj h q2];exact e2⟩,?_,λb f=>?_⟩
   .have Y:∀c o,c≠z->h'.get? c=some o->U.get? c=some o:=λc o c1 e=>sb.extBut _ _ c1 e;exact⟨R,Y _ _ D.TIz (S _ _ D.TIz D.TITO D.TIi1 D.TIi2 g),⟨_,_,Y _ _ D.TOz a2⟩,a3.to λo e=>Y _ o D.i1z e,a4.to λo e=>Y _ o D.i2z e⟩
   .have mem:b=z\/b=TI\/b=TO\/b=l\/b=m:=by simpa using f
    have J:=(Z b f).1;obtain⟨o1,g1,_⟩:=t.look;obtain⟨o2,g2,_⟩:=r.look;rcases mem with rfl|rfl|rfl|rfl|rfl
    .rw[lt n];exact J
    .rw[lt g];exact J
    .rw[lt j];exact J
    .rw[lt g1];exact J
    .rw[lt g2];exact J
  .exfalso;have m1:L.toArray[i]? = some u:=by simpa using gu
   have m2:F.toArray[i]? = some v:=by simpa using gv
   rcases q with q|q
   .rw[m1]at q;cases q
   .rw[m2]at q;cases q
 done:=by
  intro X hP hw hK hc i dh s σ H E I Z p hg;subst hP hw hK;obtain⟨n,g,⟨a,c,j⟩,t,r⟩:=p;obtain⟨xs,ys,q1,q2,hl⟩:=hg;obtain⟨L,r1,p1,z1⟩:=I.seqB q1;obtain⟨F,r2,p2,z2⟩:=I.seqB q2;have n1:=r1.length;have n2:=r2.length;have fpc:∀b∈[z,TO,l,m],m3 X dh H b:=λb f=>Z b (by
   have mem:b=z\/b=TO\/b=l\/b=m:=by simpa using f
   rcases mem with rfl|rfl|rfl|rfl<;>simp)
  refine sQ D n g j t r p1 p2 (λN Q h' B A a1 a2 a3 a4 a5 a6 S=>?_) λq=>⟨I.ok.hd hc,λh' S=>⟨rfl,I.turnedL (λb o f e=>S b o (λq=>f (by simp[q])) (λq=>f (by simp[q])) (λq=>f (by simp[q])) (λq=>f (by simp[q])) e) fpc⟩⟩;exfalso;have m1:i<L.length:=by
   have:L[i]? = some N:=by simpa using B
   exact (aa.mp this).1
  have m2:i<F.length:=by
   have:F[i]? = some Q:=by simpa using A
   exact (aa.mp this).1
  omega
 self:=λ_ _ _ _ _ p h=>wpAny_pyIter_zip p.1 h
def DU:bootBuiltins "zip" = some (.type "zip"):=by decide +kernel
section
variable {X:Cx}
def DK(K:W.Frag)(d e:Bool)(f:TA):TI:=λj H R=>f j H λh b=>∃c a,h=[.ref c,.ref a]/\(∃i,oW K b d c i)/\(∃g,oW K b e a g)/\R (Hv K d e c a) b
def Ec{x1}(x:Gl X "zip")(B:X.mg "zip" = none)(L:PA X [a,b] ta)(J:starEach [a,b] X.env=[(false,eval a X.env),(false,eval b X.env)]:=by rfl)
  (c:starEach [b] X.env=[(false,eval b X.env)]:=by rfl):PI X (.Tuple elts x1 tpos) (.Call (.Name "zip" p) [a,b] [] pos) (DK X.K b1 b2 ta):=by
 intro y s U H R I h;refine Call_ (jz I x B DU (PyProof.Rows.callWith_type1 (fL (L pos y s U H _ I h) λP s1 ⟨vs,H1,I1,r1,j⟩=>?_) (by rw[J,c]) (by rw[c];rfl)));obtain⟨N,u,rfl,⟨xs,j⟩,⟨ys,w⟩,q⟩:=j;obtain⟨Y,u2,rfl,S,Q⟩:=Gz r1;cases S;cases Q;obtain⟨P,E,m,_⟩:=I1.seqB j;obtain⟨Z,z,t,_⟩:=I1.seqB w;have g:N<s1.heap.objs.size:=by obtain⟨o,n,e,_⟩:=m.look;exact aL e
 have i:u<s1.heap.objs.size:=by obtain⟨o,n,e,_⟩:=t.look;exact aL e
 refine zv m t λh' r k f A D F v=>?_;refine wpAny_pyIter_zip r ?_;refine⟨_,_,_,_,H1,rfl,I1.kept v,Aa (zipApart_new g i),⟨r,k,⟨_,_,f⟩,A,D⟩,λb C=>?_,q⟩;have d:b=s1.heap.objs.size+4\/b=s1.heap.objs.size+2\/b=s1.heap.objs.size+3\/b=s1.heap.objs.size\/b=s1.heap.objs.size+1:=by simpa using C
 have l:s1.heap.objs.size<=b:=by rcases d with rfl|rfl|rfl|rfl|rfl<;>omega
 exact I1.fpOk l (I1.hok.fresh l)
end
end L2
namespace L2
open PySem PySem.Spec PyProof.Rows
def mD(h:H p=none):dG H (fw H p o):=λb u e=>by rw[dH (dS e h)];exact e
def dG.seqT{K:W.Frag}(e:dG H H')(h:jd K H a xs):jd K H' a xs:=by
 rcases h with (h|⟨o,h⟩)|h
 .exact .inl (.inl (e _ _ h))
 .exact .inl (.inr ⟨o,e _ _ h⟩)
 .exact .inr h
noncomputable def rP(d:List Str)(b a:Scope)(N:List Str)(c:List (Option Nat)):Bool:=
 a.kind==.function&&a.names.all (λy=>!(y.2==NameKind.cell)||a.names.lookup y.1==some .cell)&&a.names.all (λy=>!(y.2==NameKind.local)||a.names.lookup y.1==some .local) &&
 a.names.all (λy=>!(y.2==NameKind.free)||b.names.lookup y.1==some .cell)&&N.length==c.length &&
 (List.range N.length).all (λi=>match c[i]?,N[i]? with
  |some (some j),some x=>d[j]? == some x&&a.names.lookup x==some .free&&b.names.lookup x==some .cell
  |_,_=>true)
def Gn(o:∀x,X.env.scope.names.lookup x=some .cell->∃c,X.env.cells.lookup x=some c)(h:rP X.N X.env.scope scope N ix=true):sR X scope N ix:=by
 unfold rP at h;simp only[bM]at h;obtain⟨⟨⟨⟨⟨q,p⟩,k⟩,n⟩,l⟩,m⟩:=h;refine⟨by simpa using q,λy d e=>?_,λy d e=>?_,λy d e=>?_,by simpa using l,λi j x f r=>?_⟩
 .have:=b8.mp p y d;rw[e]at this;simpa using this
 .have:=b8.mp k y d;rw[e]at this;simpa using this
 .have:=b8.mp n y d;rw[e]at this;exact o _ (by simpa using this)
 .have s:=(aa.mp f).1;have:=b8.mp m i (aS.mpr s);rw[f,r]at this;simp only[bM,beq_iff_eq]at this;obtain⟨⟨a,b⟩,c⟩:=this;exact⟨a,b,.inr (.inl c),λz=>by have g:X.env.scope.names.lookup x=some .local:=z;rw[c]at g;cases g⟩
def Aw(L:sR X scope N ix):∀x,(iY X N scope C s₃ H ex pn).env.scope.names.lookup x=some .cell->∃c,(iY X N scope C s₃ H ex pn).env.cells.lookup x=some c:=λx b=>by
 refine bH.mp (W.cellsFrom_some _ _ _ ?_);rcases lZ (.inl b) with a|a
 .exact .inr (bH.mpr (jM a (L.fre _ a rfl)))
 .exact .inl a
def nN{K:W.Frag}(b:ix[k]? = some none)(c:ix[l]? = some none):jQ ix (xw K 2 (nA (fH k) (nA (fH l) xf))):=by
 rintro x g H Q ⟨a,d,s,f,w,v,r,o,t,m,u,h,q⟩;refine⟨a,d,s,f,w,v,r,o,t,m,u,h,λi j e=>?_,q⟩;have n:k≠i:=by rintro rfl;rw[b]at e;cases e
 have p:l≠i:=by rintro rfl;rw[c]at e;cases e
 rw[ar p,ar n]
end L2
namespace L2
open PySem PySem.Spec PyProof.Rows
structure gB(K:W.Frag)(C:Addr)(m qual:Str)(st:Stmt):Prop where
 ex:∃f fd,AQ K m qual st f fd/\Ck K C m f
structure gX(P:Program)(w:World)(K:W.Frag)(mg:Str->Option Value)(base:Heap)(C:Addr)(m:Str)(k:Nat)(sp:Sp):Prop where
 cl:pR K C
 ex:∃f fd ps,iU P w K mg base mx k f fd ps sp/\Ck K C m f/\jY K fd ps []
def vH{K:W.Frag}{st:Stmt}(l:pR K C)(D:gB K C m qual st)(S:eB N ps (dt st))
  (j:∀(kV e n:Vq) (g:Oq Addr) (a o:Vq) (us:List Vq),us.length=ps.length->bindArgs (W.fnOf m qual (eV st) (dU st) (dt st) .none kV e n g a o) ⟨us,[]⟩=pure (ps.zip us))
  (d:∀vs H Q E,sp vs H Q E->vs.length=ps.length)
  (b:∀f a A c s H vs Q E,eD k (A.deeper (envOfC qual (dt st) s.heap.objs.size f a))->sp vs H Q E->
   ∃t,mW (fK mx P w K mg base N qual (dt st) f a A c s H E).nox (dU st) t/\t {nx:=λ_ h=>Q .non h,rt:=Q} (fT N vs) H):gX P w K mg base C m (k+1) sp:=by
 obtain⟨f,i,F,m⟩:=D.ex;exact⟨l,f,i,ps,F.ok S d (b f),m,F.binds j⟩
structure wu(P:Program)(w:World)(K:W.Frag)(mg:Str->Option Value)(base:Heap)(x:Str)(C:Addr)(k:Nat)(sp:Sp):Prop where
 ex:∃f fd ps,iU P w K mg base mx k f fd ps sp/\Mk K C f/\jY K fd ps []
 mgx:mg x=some (.ref C)
section
variable {X:Cx}{x m:Str}{C:Addr}{k:Nat}{sp:Sp}{e o:Expr}{es:List Expr}{t:TA}{ta:TE}{p pos apos:Pos}
def GM(h:wu X.prog X.w X.K X.mg X.base x C k sp)(hr:eD (k+1) X.A)(i:PA X (e::es) t)(g:Gl X x:=by rfl)
  (c:(x==("__debug__" : Str))=false:=by decide) (j:starEach (e::es) X.env=(false,eval e X.env)::starEach es X.env:=by rfl) (d:(backTo pos (starEach es X.env)).any (·.1)=false:=by rfl) :
  PE X (.Call (.Name x p) (e::es) [] pos) (wa C sp [] E0 t):=by
 obtain⟨f,n,l,F,a,b⟩:=h.ex;exact BJ a F hr g h.mgx b .nil yV i c j d
def zr(h:gX X.prog X.w X.K X.mg X.base C m k sp)(hr:eD k X.A)(d:PE X o ta)
  (c:eval (.Call (.Attribute o m apos) [] [] pos) X.env=(do
   let ov <-eval o X.env
   standAt apos.atName
   let (f,first) <-holding [ov] (getMethod ov m pl)
   callWith pos f first (backTo pos (starEach [] X.env)) (backToKw pos (keywordEach [] X.env))):=by rfl) :
  PE X (.Call (.Attribute o m apos) [] [] pos) (pY C m sp [] E0 ta jW):=by
 obtain⟨f,g,i,F,a,b⟩:=h.ex;exact yS d h.cl a F hr b .nil yV c
end
end L2
namespace L2
open PySem PySem.Spec PyProof.Rows
def zC(R:X.N.Nodup)(Z:X.N[i]? = some y)(F:tO X.env.scope y)
  (Y:X.calm=true) (hi:PI X tg iter wi) (L:sR X scope N ix) (u:jQ ix g)
  (l:∀C c H n p,PG (iY X N scope C c H n p) tg g/\wN (iY X N scope C c H n p) ifs tt/\PE (iY X N scope C c H n p) elt te)
  (hf:X.fn y=true\/X.env.scope.names.lookup y=some .local:=by first|exact .inl rfl|exact .inr rfl)
  (r:swapsWith (.ListComp elt [⟨tg,iter,ifs,0⟩] scope pos) (some (.Name y py)) spos.line X.env=pure true:=by rfl)
  (hs:∀x,foldedSetIterable iter X.env x=pure x:=by intro _;rfl):PS X (.Assign [.Name y py] (.ListComp elt [⟨tg,iter,ifs,0⟩] scope pos) spos) (ji (zL ix wi g tt te) (fH i)):=by
 intro P s A H D I h;rw[exec_Assign_Name_used _ _ _ _ r];refine aq (wpAny_standAt (aq ?_));rw[arm_evalThenUse_ListComp];refine aq (fL (wpAny_comprehension_free rfl hs (kY L.fre) L.kind L.names (fL (hi P s A H _ I h) λv s1 h1=>fL h1 λitv s2 h2=>?_)) λ_ s' q=>ao (ao q));obtain⟨it,fp,tn,J,H2,e,I2,T,j,f2,W,⟨m0,S⟩,d⟩:=h2;subst e;refine uZ (Q:=λx E=>fH i x A E D.nx) Y L u l I2 T j f2 S d λE0 C m K s' hn f I' q=>?_;refine wpAny_assign_Name (qc (v:=.ref E0) I' R Z F rfl (λs3 U k=>?_) hf);obtain⟨a,B,ha⟩:=k;have ne:C≠a:=by
  rcases ha with z|z
  .rw[z];exact f.2.1
  .exact λw=>f.2.2.2.2.1 y a z w.symm
 exact⟨m,hn.sameBut B ne,λh' t=>⟨_,K,U.turned (λb o hb e=>t.extBut b o hb e) f.1 f.2.1 f.2.2.2.1 f.2.2.2.2.1 f.2.2.2.2.2,q⟩⟩
end L2
namespace L2
open PySem PySem.Spec PyProof.Rows
section
variable {X:Cx}{dh:List (Addr×Obj)}{σ:St}{H:Hp}{s:Sq}{a:Addr}{y v:V}{u r:Vq}{o:Oq V}{A:Around}{E:Vq->Shared->Prop}
def dF.big(I:dF X dh σ H s):sysModules<s.heap.objs.size:=by have h:mainGlobals<s.heap.objs.size:=(I.mod.glob.keeps I.bk).lt;exact Nat.lt_trans (by decide) h
end
def zW(h:Heap)(a:sysModules<h.objs.size):hW P w H (h.push {cls:=.type "dict",data:=.dict #[]}) h.objs.size (.dK []):=⟨bD _,beq_eq_false_iff_ne.mpr (Ne.symm (aM a)),[],.nil,Heap.DictOf.new h⟩
def Ap:TE:=λ_ H Q=>∀p,H p=none->Q (.ref p) (fw H p (.dK []))
section
variable {X:Cx}{pos:Pos}
def zq:PE X (.Dict [] [] pos) Ap:=λc s b H Q I h=>wpAny_Dict_empty ⟨.ref s.heap.objs.size,_,I.laid (a:=s.heap.objs.size) (o:=.dK []) (t':=s.toks) (λ_ _ q=>ae _ q) (aK _) (zW s.heap I.big),rfl,h _ (I.hok.fresh (aK _))⟩
end
end L2
namespace L2
open PySem PySem.Spec PyProof.Rows Builtin
section
variable {X:Cx}
def sv:V->Option Bool
 |.bl b=>some b
 |.int i=>some (i != 0)
 |_=>none
def iM:List V->Option (List Bool)
 |[]=>some []
 |v::vs=>(sv v).bind λb=>(iM vs).bind λr=>some (b::r)
theorem pW:∀{vs} {bs} {us} {i} {u},iM vs=some bs->dZ vs us->us[i]? = some u->∃v,eO v u/\sv v=some (bs.getD i false)
 |[],_,_,_,_,_,.nil,e=>by simp at e
 |v::vs,bs,_,i,u,h,.cons r t,e=>by
  cases c:sv v with
  |none=>simp[iM,c]at h
  |some b=>
   cases hr:iM vs with
   |none=>simp[iM,c,hr]at h
   |some r'=>
    simp[iM,c,hr]at h;subst h;cases i with
    |zero=>simp at e;subst e;exact⟨v,r,by simpa using c⟩
    |succ i=>obtain⟨f,a,d⟩:=pW hr t (by simpa using e);exact⟨f,a,by simpa using d⟩
theorem qh:∀{vs} {bs},iM vs=some bs->vs.length=bs.length
 |[],_,h=>by cases h;rfl
 |v::vs,bs,h=>by
  cases a:sv v with
  |none=>simp[iM,a]at h
  |some b=>
   cases hr:iM vs with
   |none=>simp[iM,a,hr]at h
   |some r'=>simp[iM,a,hr]at h;subst h;simp[qh hr]
def nB(h:iM vs=some bs)(r:dZ vs us):TruthOf prog w A (λi v=>us.toArray[i]? = some v) (λi=>bs.getD i false):=λi u s Q E e a=>by
 obtain⟨v,d,c⟩:=pW h r (by simpa using e);dsimp only at a;cases v with
 |bl b=>
  cases d;have:b=bs.getD i false:=by simpa[sv] using c
  rw[<-this]at a;exact wpAny_truthy_bool a
 |int n=>
  obtain⟨t,rfl⟩:=d;have:(n != 0)=bs.getD i false:=by simpa[sv] using c
  rw[<-this]at a;exact PyProof.Rows.truthy_int a
 |_=>simp[sv]at c
def xo(m:X.calm=true):gW X (.builtin "any") (λn H Q=>∃p vs bs,n=[.ref p]/\(ib X.K H p vs\/jd X.K H p vs)/\iM vs=some bs/\Q (.bl (bs.any id)) H):=by
 intro C s E H n D Q I r h;obtain⟨p,vs,bs,rfl,j,d,q⟩:=h;obtain⟨u,rfl,x⟩:=j1 r;cases x;have t:=qh d;rcases j with j|j
 .obtain⟨c,g,f,y⟩:=I.list j;have B:=g.length;have a:p<s.heap.objs.size:=by obtain⟨_,e,_⟩:=f.isList;exact aL e
  refine call_any_walk (wpAny_pyIter_list f.isList ⟨s.heap.objs.size,_,_,_,_,_,λi=>bs.getD i false,rfl,Walks.list (A:=X.A.in1) (I.ok.hd m) _ p (aM a) _,⟨⟨_,au _ rfl,rfl,rfl⟩,f.isList.push _⟩,nB d g,λv w k=>?_⟩);refine⟨.bl _,H,I.kept (λb o e=>k b o (λl=>?_) (ae _ e)),rfl,?_⟩
  .have lt:=aL e;have z:b=s.heap.objs.size:=by simpa using l
   rw[z]at lt;exact a9 _ lt
  .rw[<-pT]at q;have:c.toArray.size=bs.length:=by rw[bz];omega
   rw[this];exact q
 .obtain⟨c,g,f,y⟩:=I.tuple j;have B:=g.length;have a:p<s.heap.objs.size:=by obtain⟨_,e,_⟩:=f;exact aL e
  have pt:=f;refine call_any_walk (wpAny_pyIter_tuple pt ⟨s.heap.objs.size,_,_,_,_,_,λi=>bs.getD i false,rfl,Walks.tuple (A:=X.A.in1) (I.ok.hd m) _ p (aM a) _,⟨⟨_,au _ rfl,rfl,rfl⟩,pt.push _⟩,nB d g,λv w k=>?_⟩);refine⟨.bl _,H,I.kept (λb o e=>k b o (λl=>?_) (ae _ e)),rfl,?_⟩
  .have lt:=aL e;have z:b=s.heap.objs.size:=by simpa using l
   rw[z]at lt;exact a9 _ lt
  .rw[<-pT]at q;have:c.toArray.size=bs.length:=by rw[bz];omega
   rw[this];exact q
end
end L2
namespace L2
open PySem PySem.Spec PyProof.Rows
section
variable {prog:Program}{w:World}{A:Around}{E:Vq->Shared->Prop}{s:Sq}
def xb{i:Nat}{Q:Vq->Shared->Prop}(H:IsEnum s.heap e it i old)(hi:iD b s.heap it l i)(hl:fq b s.heap l xs)(j:e≠it)
  (r:∀x h,xs[i]? = some x->IsEnumOut h e it ((i:Int)+1) x s.heap.objs.size->iD b h it l (i+1)->h.get? s.heap.objs.size=some {cls:=.type "tuple",data:=.seq #[.int i s.toks,x]}->h.objs.size=s.heap.objs.size+1->
   (∀c o,c≠e->c≠it->s.heap.get? c=some o->h.get? c=some o)->Q (.ref s.heap.objs.size) {s with heap:=h,toks:=s.toks+1})
  (U:xs[i]? = none->A.handled=none/\∀h x,Heap.ExtBut it s.heap h->(∃o,h.get? x=some o/\o.cls=.type "StopIteration")->E (.ref x) {s with heap:=h}) :
  wpAny (model prog w) A (Builtin.«enumerate.__next__» ⟨[.ref e],[]⟩) (λD s'=>∃v,D=.done (.ret v)/\Q v s') E s:=by
 obtain⟨P,g,d,J,os⟩:=s;show wpAny _ _ (field (.ref e) 2 >>= λ_=>_) _ _ _;refine aq (wpAny_field H rfl rfl (aq (nU hi hl (λx g1 X t1 k1=>?_) U)));have k:=k1;have y:=(k.2 e j).trans H;refine aq (wpAny_field y rfl rfl ?_);refine aq (wpAny_field y rfl rfl ?_);refine aq (wpAny_mkInt (aq (wpAny_setField_rec y (by simp) λg2 y2 F=>?_)));have z2:=y2;refine aq (wpAny_setField_rec z2 (by simp) λm y3 z=>?_);have z3:=y3;refine aq (wpAny_newTuple ?_);have sz:m.objs.size=P.objs.size:=by have a:=z.1;have c:=F.1;have u:=k.1;dsimp only at a c u;omega
 have t:IsEnum (m.push {cls:=.type "tuple",data:=.seq #[.int i J,x]}) e it (i+1) old:=ae _ z3;have Y:=aL H;have C:∀c o,c≠e->c≠it->P.get? c=some o->m.get? c=some o:=λc o f B q=>z.extBut c o f (F.extBut c o f (k.extBut c o B q));unfold Builtin.SmallTypes.ownedTupleIsFree;refine aq (aq (wpAny_field t rfl rfl (ao ?_)));simp only[if_true];refine aq (wpAny_rule (aq (wpAny_field t rfl rfl (aq (wpAny_setField_rec t (by simp) λg5 y5 S=>?_)))));have z5:=y5;unfold Builtin.SmallTypes.ownedTupleHandOut;refine aq (aq (wpAny_setField_rec z5 (by simp) λg6 y6 L=>?_));have Z:=y6;refine wpAny_setField_rec Z (by simp) λp y7 N=>?_;have K:=y7;have up:∀c o,c≠e->(m.push {cls:=.type "tuple",data:=.seq #[.int i J,x]}).get? c=some o->p.get? c=some o:=λc o f q=>N.extBut c o f (L.extBut c o f (S.extBut c o f q));have n:∀c o,c≠e->m.get? c=some o->p.get? c=some o:=λc o f q=>up c o f (ae _ q);have R:=up _ _ (by rw[sz];exact br Y) (au _ rfl);have I:p.objs.size=m.objs.size+1:=by have a:=N.1;have c:=L.1;have u:=S.1;dsimp only at a c u;rw[Heap.size_push]at u;omega
 refine aq (wpAny_letGo (ao ⟨_,rfl,?_⟩));rw[sz]at K R I ⊢;exact r x p X K (t1.to λo q=>n it o (Ne.symm j) (z.extBut it o (Ne.symm j) (F.extBut it o (Ne.symm j) q))) R I λc o f B q=>n c o f (C c o f B q)
def pU{i:Nat}(j:IsEnum s.heap e it i old)(v:iD b s.heap it l i)(m:fq b s.heap l xs)(f:e≠it)
  (d:∀x a,xs[i]? = some x->IsEnumOut a e it ((i:Int)+1) x s.heap.objs.size->iD b a it l (i+1)->a.get? s.heap.objs.size=some {cls:=.type "tuple",data:=.seq #[.int i s.toks,x]}->a.objs.size=s.heap.objs.size+1->
   (∀c o,c≠e->c≠it->s.heap.get? c=some o->a.get? c=some o)->Q (some (.ref s.heap.objs.size)) {s with heap:=a,toks:=s.toks+1})
  (g:xs[i]? = none->A.handled=none/\∀a,Heap.ExtBut it s.heap a->Q none {s with heap:=a}):wpAny (model prog w) A (pyNext (.ref e)) Q E s:=by
 have h:s.TypeIs (.ref e) "enumerate" :=⟨_,j,rfl⟩;unfold pyNext;refine aq (wpAny_attempt (wpAny_callSpecial?_slot h F.slot_enumerate_next (wpAny_call_entry F.slot_enumerate_next h F.entry_enumerate_next
  (xb j v m f (λx a k t p u r n=>ao (d x a k t p u r n)) λq=>⟨(g q).1,λa x hk ⟨o,ho,hc⟩=>?_⟩) (F.args_enumerate_next_1 _))))
 exact aq (wpAny_isInstance ⟨o,ho,hc⟩ isSubtype_stop (ao ((g q).2 a hk)))
noncomputable abbrev eo(b:Bool)(l:Addr):Obj:={cls:=.type (nR b),data:=.fields #[.ref l,.int 0 0]}
abbrev en(p:Addr):Obj:={cls:=.type "enumerate",data:=.fields #[.none,.bool false,.ref p,rawInt 0,.none,.none]}
def uT b l xs:Meets (Builtin.«enumerate.__new__» ⟨[.type "enumerate",.ref l],[]⟩) (λ_ R s=>fq b s.heap l xs/\
  R (.ok (.ret (.ref (s.heap.push (eo b l)).objs.size))) {s with heap:=(s.heap.push (eo b l)).push (en s.heap.objs.size)}):=by
 refine .of_wp λprog w A R s h=>?_;obtain⟨r,g,d,m,k⟩:=s;obtain⟨i,e⟩:=h;have f:=sub_enumerate;have a:=i;obtain⟨o,n,q,j⟩:=a.look;wp_walk using jJ a;refine wpAny_stack_any λp=>ao ?_;split
 .rename_i c _ _ _ _ _;cases (c==Value.type "enumerate")
  .wp_walk using jJ a;exact⟨_,rfl,e⟩
  .wp_walk using jJ a;exact⟨_,rfl,e⟩
 .wp_walk using jJ a;exact⟨_,rfl,e⟩
def wY(g:fq b s.heap l xs)
  (h:∀a,IsEnum a (s.heap.objs.size+1) s.heap.objs.size 0 .none->iD b a s.heap.objs.size l 0->a.objs.size=s.heap.objs.size+2->(∀c o,s.heap.get? c=some o->a.get? c=some o)->Q (.ref (s.heap.objs.size+1)) {s with heap:=a}) :
  wpAny (model prog w) A (call (.type "enumerate") [.ref l]) Q E s:=by
 refine callType_new F.called_enumerate (by decide) (F.typeCall_enumerate_1 _) (F.newCall_enumerate_1 _) (λe=>F.args_object_init_2 e _) F.entry_enumerate_new (uT b l xs) ⟨g,?_⟩;have d:(s.heap.push (eo b l)).objs.size=s.heap.objs.size+1:=Heap.size_push ..;have f:=au (s.heap.push (eo b l)) (o:=en s.heap.objs.size) rfl;rw[d]at f;rw[d];exact⟨⟨_,f,rfl⟩,h _ f (.of ⟨_,ae _ (au _ rfl),rfl,rfl⟩) (by rw[Heap.size_push,d]) λc o q=>ae _ (ae _ q)⟩
end
noncomputable def HG(K:W.Frag)(b:Bool)(l:Addr):It:=
  ⟨λi H=>∃a x,oW K H b l a/\a[i]? = some x,
   λi H v c=>∃p x,v=.ref p/\H p=none/\c=fw H p (.tup [.int i,x])/\∀a,oW K H b l a->a[i]? = some x,
   λi H=>∃a,oW K H b l a/\a.length<=i⟩
def xk{K:W.Frag}{x1}(p:e≠it) :
  uE P w K (.Tuple elts x1 pos) (HG K b l) [e,it] e (λi h=>(∃a,IsEnum h e it i a)/\iD b h it l i) where
 mem:=by simp
 obj:=λi h j c D=>by
  obtain⟨⟨a,g⟩,m⟩:=j;have mem:c=e\/c=it:=by simpa using D
  rcases mem with rfl|rfl
  .exact⟨_,g,λv q=>by cases q⟩
  .obtain⟨o,q,_,d⟩:=m.look;exact⟨o,q,λv Z=>by rw[d]at Z;cases Z⟩
 keep:=λi h U j k=>by obtain⟨⟨a,g⟩,m⟩:=j;exact⟨⟨a,k e (by simp) _ g⟩,m.to λo q=>k it (by simp) o q⟩
 item:=by
  intro X S hw Y D i dh s σ H E I J j N;subst S hw Y;obtain⟨⟨a,g⟩,m⟩:=j;obtain⟨xs,x,F,e1⟩:=N;obtain⟨A,L,Q,z1⟩:=I.seqB F;obtain⟨u,gu,ru⟩:=L.get e1;have t:=I.fpOk (aK _) (I.hok.fresh (aK _));refine pU g m Q p (λy U r a1 a2 a3 a4 C=>?_) λq=>?_
  .have eu:y=u:=by
    have:A[i]? = some y:=by simpa using r
    rw[gu]at this;cases this;rfl
   subst eu;refine⟨_,rfl,wpAny_letOwnedTupleGo_enum a1 λR B sb=>?_⟩;have n:=sb;have zT:=br (aL g);have I1:=I.turnedL (t':=s.toks+1) (λb o f q=>n.extBut _ _ (λz=>f (by simp[z])) (C b o (λz=>f (by simp[z])) (λz=>f (by simp[z])) q)) (λb f=>J b f);have gT:=n.extBut _ _ zT a3;have I2:dF X dh σ (fw H s.heap.objs.size (.tup [.int i,x])) {s with heap:=R,toks:=s.toks+1}:=I1.track t.1 t.2.2.2.1 t.2.1 t.2.2.2.2.1 t.2.2.2.2.2
    ⟨by show 2<=sizeLine;decide,[.int i s.toks,y],.cons ⟨_,rfl⟩ (.cons ru .nil),⟨_,gT,rfl,_,rfl,rfl⟩⟩
   have lt:∀{b o},s.heap.get? b=some o->fw H s.heap.objs.size (.tup [.int i,x]) b=H b:=λ{b o} q=>dH (aM (aL q));refine⟨.ref s.heap.objs.size,_,I2,rfl,⟨_,x,rfl,t.1,rfl,λxs' h=>by rw[I.seqB_inj h F];exact e1⟩,?_,λb f=>?_⟩
   .exact⟨⟨_,B⟩,a2.to λo q=>n.extBut _ o (Ne.symm p) q⟩
   .have mem:b=e\/b=it:=by simpa using f
    have hn:=(J b f).1;obtain⟨o1,g1,_⟩:=m.look;rcases mem with rfl|rfl
    .rw[lt g];exact hn
    .rw[lt g1];exact hn
  .exfalso;have m1:A.toArray[i]? = some u:=by simpa using gu
   rw[m1]at q;cases q
 done:=by
  intro X S hw Y D i dh s σ H E I J j N;subst S hw Y;obtain⟨⟨a,g⟩,m⟩:=j;obtain⟨xs,F,hl⟩:=N;obtain⟨A,L,Q,z1⟩:=I.seqB F;have n1:=L.length;refine pU g m Q p (λy U r a1 a2 a3 a4 C=>?_) λq=>⟨I.ok.hd D,λU C=>⟨rfl,I.turnedL (ch:=[it]) (λb o f q=>C b o (λz=>f (by simp[z])) q) λb f=>J b (by
   have:b=it:=by simpa using f
   simp[this])⟩⟩
  exfalso;have m1:i<A.length:=by
   have:A[i]? = some y:=by simpa using r
   exact (aa.mp this).1
  omega
 self:=λ_ _ _ _ _ j h=>by obtain⟨⟨a,g⟩,_⟩:=j;exact wpAny_pyIter_enum g h
section
variable {X:Cx}
def AI(K:W.Frag)(b:Bool)(c:TA):TI:=λf H R=>c f H λd a=>∃l,d=[.ref l]/\(∃e,oW K a b l e)/\R (HG K b l) a
def yy{x1}(i:Gl X "enumerate")(m:X.mg "enumerate" = none)(w:PA X [a] ta)(v:starEach [a] X.env=[(false,eval a X.env)]:=by rfl) :
  PI X (.Tuple elts x1 tpos) (.Call (.Name "enumerate" p) [a] [] pos) (AI X.K b ta):=by
 intro k s y H R I h;refine Call_ (jz I i m boot_enumerate (PyProof.Rows.callWith_type1 (fL (w pos k s y H _ I h) λx s1 ⟨vs,H1,I1,r1,d⟩=>?_) v rfl));obtain⟨l,rfl,⟨A,d⟩,q⟩:=d;obtain⟨u,rfl,n⟩:=j1 r1;cases n;obtain⟨x,r,j,_⟩:=I1.seqB d;refine wY j λB f z t g=>?_;refine wpAny_pyIter_enum f ?_;refine⟨_,_,_,_,H1,rfl,I1.kept g,xk (Nat.succ_ne_self _),⟨⟨_,f⟩,z⟩,λb o=>?_,q⟩;have c:b=s1.heap.objs.size+1\/b=s1.heap.objs.size:=by simpa using o
 have e:s1.heap.objs.size<=b:=by rcases c with rfl|rfl<;>omega
 exact I1.fpOk e (I1.hok.fresh e)
end
end L2
namespace HT
open PySem PySem.Spec PyProof.Rows
section
variable {prog:Program}{w:World}{A:Around}{E:Vq->Shared->Prop}{s:Sq}
def getItem_tuple_all{a d:Oq Int}(b:IsTup s.heap t items)(i:s.heap.IsSliceOf sl vl vu .none)(j:IsPart vl a)(m:IsPart vu d)
  (hw:sIx items.size 0 a=0/\sIx items.size items.size d=items.size) (h:Q (.ref t) s):wpAny (model prog w) A (getItem (.ref t) (.ref sl)) Q E s:=by
 obtain⟨l,f,g,k⟩:=id i;have e:s.TypeIs (.ref sl) "slice" :=⟨l,f,g⟩;unfold getItem;try with_reducible refine wpAny_holding ?_;first|refine aq (ao ?_)|skip
 refine aq (wpAny_sequenceKey b.typeIs (by decide) ?_);refine aq (wpAny_callSpecial?_slot b.typeIs PyProof.Rows.slot_tuple_getitem
  (wpAny_call_entry PyProof.Rows.slot_tuple_getitem b.typeIs entry_tuple_getitem ?_ (args_tuple_getitem _ _)))
 show wpAny _ _ (Builtin.Tuple.tupleItemsOf (.ref t) >>= _) _ _ s;refine aq (tupleItemsOf_ b ?_);refine aq (wpAny_typeOf e ?_);rw[aQ (by decide)];refine aq (jF i j m ?_);have c:(((sIx items.size 0 a):Int)==0&&(1:Int)==1&&(sIx items.size items.size d-sIx items.size 0 a)==items.size)=true:=by rw[hw.1,hw.2];simp
 show wpAny _ _ (if (((sIx items.size 0 a):Int)==0&&1==1&&(sIx items.size items.size d-sIx items.size 0 a)==items.size)=true then _ else _) _ _ s;rw[aQ c];refine aq (aq (wpAny_typeOf b.typeIs (ao ?_)));rw[aQ (by decide)];refine aq (wpAny_rule ?_);exact ao ⟨_,rfl,ao h⟩
end
end HT
namespace L2
open PySem PySem.Spec PyProof.Rows
section
variable {X:Cx}
def FH(K:W.Frag):V->Option Int->Option Int->Hp->VK->Prop:=λx c d H Q=>∃a b,x=.ref a/\jd K H a b/\(HT.sIx b.length 0 c=0/\HT.sIx b.length b.length d=b.length)/\Q (.ref a) H
def BD:CK X (FH X.K):=by
 intro m s t H x v p l n w o Q I f i j k h;obtain⟨a,e,rfl,d,hw,q⟩:=h;cases f;obtain⟨b,r,c,u⟩:=I.tuple d;have g:b.toArray.size=e.length:=by rw[bz];exact r.length.symm
 refine⟨"tuple",_,PyProof.Rows.slot_tuple_getitem.lookup,c.typeIs,?_⟩;exact HT.getItem_tuple_all c i j k (by rw[g];exact hw) ⟨.ref a,H,I,rfl,q⟩
end
end L2
namespace L2
open PySem PySem.Spec PyProof.Rows
theorem mP:∀{xs} {us},xs.length=us.length->(∀(i:Nat) v,us[i]? = some v->∃x,xs[i]? = some x/\eO x v)->dZ xs us
 |[],[],_,_=>.nil
 |x::xs,u::us,hl,h=>by obtain⟨b,e,r⟩:=h 0 u rfl;simp at e;subst e;exact .cons r (mP (by simpa using hl) λi v a=>by simpa using h (i+1) v (by simpa using a))
end L2
namespace L2
open PySem PySem.Spec PyProof.Rows PySem.W
section
variable {X:Cx}{dh:List (Addr×Obj)}{σ:St}{H:Hp}{s:Sq}
def AV(s:Sq)(dx:PyData)(u:Vq):Bool:=@decide (∃d as,Reads s.heap u d as/\d.canLay0=true/\PyData.eqv d dx=true) (Classical.propDecidable _)
def Ac(r:Reads s.heap u d as)(a:d.canLay0=true):AV s dx u=PyData.eqv d dx:=by
 unfold AV;cases h:PyData.eqv d dx with
 |true=>exact @aC _ (_) ⟨d,as,r,a,h⟩
 |false=>refine @aB _ (_) λ⟨d',as',r',hc',h'⟩=>?_;rw[SeqAt.Reads.unique d d' u as as' a r r',h']at h;cases h
theorem uC(c:Reads s.heap v dx bs)(d:dx.canLay0=true)(a:A.units+dx.depth<cLine):∀{us} {ds} {as},ReadsAll s.heap us ds as->PyData.canLayAll0 ds=true->∀u∈us,SeqAt.EqAt A s u v (AV s dx u)
 |_,_,_,.nil,_=>λu a=>by cases a
 |_,_,_,.cons r rs,h=>λu b=>by
  rw[PyData.canLayAll0,bM]at h;rcases aF.mp b with rfl|b
  .rw[Ac r h.1];exact SeqAt.eqAt_reads _ _ _ _ _ _ _ _ r c h.1 d (by omega)
  .exact uC c d a rs h.2 u b
end
end L2
namespace L2
open PySem PySem.Spec PyProof.Rows
section
variable {X:Cx}
def E9(a:LI):Nat:=(firstMet (λi=>a.getD i 0) a.length).length
def Hl(K:W.Frag)(c:TA):TE:=λe H Q=>c e H λd b=>∃l a,d=[.ref l]/\ib K b l (a.map V.int)/\a.length<64/\Q (.int (E9 a:Int)) b
def A4(x:X.calm=true)(r:Gl X "len")(A:X.mg "len" = none)(g:Gl X "set")(f:X.mg "set" = none)(P:PA X [a] ta)(N:starEach [a] X.env=[(false,eval a X.env)]:=by rfl)
  (m:starEach [Expr.Call (.Name "set" p2) [a] [] pos2] X.env=[(false,eval (.Call (.Name "set" p2) [a] [] pos2) X.env)]:=by rfl) :
  PE X (.Call (.Name "len" p1) [.Call (.Name "set" p2) [a] [] pos2] [] pos) (Hl X.K ta):=by
 intro v s σ H Q I h;refine wpAny_Call_Name_kw (jz I r A (by decide +kernel:bootBuiltins "len" = some (.builtin "len")) ?_);refine PyProof.Rows.callWith_builtin1 ?_ m rfl;rw[m];refine Calls.spliced_cons (Call_ (jz I g f (by decide +kernel:bootBuiltins "set" = some (.type "set")) (PyProof.Rows.callWith_type1 (fL (P pos2 v s σ H _ I h) λus s1 ⟨vs,H1,I1,r1,q1⟩=>?_) N rfl)));obtain⟨l,i,rfl,L,hl,q⟩:=q1;obtain⟨u,rfl,B⟩:=j1 r1;cases B;obtain⟨c,k,U,hz⟩:=I1.list L;have hi:=nJ k;have E:c.length=i.length:=by have:=k.length;rw[ax]at this;omega
 have D:c.toArray.size+1<scanBound:=by
  have:70<=scanBound:=by decide
  show c.length+1<scanBound;omega
 refine call_set_list (I1.ok.hd x) U.isList hi D λz tk d p=>Calls.spliced_nil ?_;obtain⟨o,j,ep,t,w,C,n,_,_,Z,J,y⟩:=d;have R:j.size=E9 i:=by rw[y];unfold E9;rw[<-E];rfl
 have Y:∀b o,s1.heap.get? b=some o->z.get? b=some o:=λb o e=>p b o (aL e) e;have S:scanBound<2 ^ 63:=by decide
 have F:=Nat.lt_trans Z S;refine call_len_set w C n J (by exact_mod_cast F) ?_;exact⟨.int j.size,H1,I1.kept Y,⟨_,rfl⟩,by rw[R];exact q⟩
end
end L2
namespace L2
open PySem PySem.Spec PyProof.Rows
section
variable {X:Cx}
def HF(b:TA):TE:=λd H Q=>b d H λc a=>∃n:Nat,c=[.int (n:Int)]/\n<=1000/\∀p,a p=none->Q (.ref p) (fw a p (.lst ((List.range n).map λ(i:Nat)=>V.int (i:Int))))
def Aq(B:X.calm=true)(z:Gl X "list")(C:X.mg "list" = none)(j:Gl X "range")(g:X.mg "range" = none)(J:PA X [a] ta)(F:starEach [a] X.env=[(false,eval a X.env)]:=by rfl)
  (m:starEach [Expr.Call (.Name "range" p2) [a] [] pos2] X.env=[(false,eval (.Call (.Name "range" p2) [a] [] pos2) X.env)]:=by rfl) :
  PE X (.Call (.Name "list" p1) [.Call (.Name "range" p2) [a] [] pos2] [] pos) (HF ta):=by
 intro A s K H Q I h;refine wpAny_Call_Name_kw (jz I z C (by decide +kernel:bootBuiltins "list" = some (.type "list")) ?_);refine PyProof.Rows.callWith_type1 ?_ m rfl;rw[m];refine Calls.spliced_cons (Call_ (jz I j g boot_range (PyProof.Rows.callWith_type1 (fL (J pos2 A s K H _ I h) λus s1 ⟨vs,H1,I1,r1,q1⟩=>?_) F rfl)));obtain⟨n,rfl,R,q⟩:=q1;obtain⟨u,rfl,D⟩:=j1 r1;obtain⟨t,rfl⟩:=D;refine call_range_1 (Calls.spliced_nil ?_);refine call_list_range (n:=n) (I1.ok.hd B) (IsRange.new ..) ?_ ?_ ?_ λN P c p x l d=>?_
 .exact small_one (by omega) (by omega) (by omega) (by omega)
 .unfold Builtin.Range.rangeSize;rw[aQ (by decide)];by_cases k:0<(n:Int)
  .rw[aQ k];omega
  .rw[aR k];omega
 .omega
 .have r:dZ ((List.range n).map λ(i:Nat)=>V.int i) c.toList:=by
   refine mP (by rw[ax,b9,bq];exact d.1.symm) λi v E=>?_;have f:c[i]? = some v:=by simpa using E
   obtain⟨y,rfl⟩:=d.2 i v f;have L:i<n:=by have:=(Array.getElem?_eq_some_iff.mp f).1;rw[d.1]at this;exact this
   refine⟨.int i,by rw[aw,List.getElem?_range L];rfl,y,?_⟩;rw[Int.mul_one,cf]
  have sz:(s1.heap.push {cls:=.type "range",data:=.fields #[.int 0 s1.toks,.int n t,.int 1 (s1.toks+1)]}).objs.size=s1.heap.objs.size+1:=Heap.size_push _ _;rw[sz]at l ⊢;refine⟨.ref _,_,I1.laid (λb o e=>x b o (ae _ e)) (bF _) (show hW X.prog X.w _ _ _ (.lst ((List.range n).map λ(i:Nat)=>V.int i)) from ⟨?_,c.toList,p,r,by simpa using l⟩),rfl,q _ (I1.hok.fresh (bF _))⟩;rw[ax,b9];have:1000<=sizeLine:=by decide
  omega
end
end L2
namespace L2
open PySem PySem.Spec PyProof.Rows
section
variable {X:Cx}{o e:Expr}{to:TE}{t:TA}{apos cpos:Pos}
theorem qJ:∀{us} {ds} {as},ReadsAll s.heap us ds as->PyData.canLayAll0 ds=true->us.map (AV s dx)=ds.map λd=>PyData.eqv d dx
 |_,_,_,.nil,_=>rfl
 |_,_,_,.cons r rs,h=>by rw[PyData.canLayAll0,bM]at h;rw[bB,bB,Ac r h.1,qJ rs h.2]
def FI(K:W.Frag)(to:TE)(t:TA):TE:=λh H Q=>to h H λx g=>∃p,x=.ref p/\(∃c,ib K g p c)/\t h g λi b=>∃y a f c,∃j:Nat,i=[y]/\ib K b p c/\DV K b y a/\qa K b c f/\(a.canLay0=true/\PyData.canLayAll0 f=true/\a.depth<=100)/\(f.map λd=>PyData.eqv d a)[j]? = some true/\(∀m,m<j->(f.map λd=>PyData.eqv d a)[m]? = some false)/\Q (.int (j:Int)) b
def DY(hu:X.A.units+200<cLine)(ho:PE X o to)(ha:PA X [e] t)
  (f:attributeBase o "index" X.env (eval o X.env)=eval o X.env:=by rfl)
  (i:((backTo cpos (starEach [e] X.env)).all (λx=>!x.1)&&(backToKw cpos (keywordEach [] X.env)).all (λx=>x.1.isSome)
   && decide (([e]:List Expr).length+([]:List Keyword).length+(if ([]:List Keyword).isEmpty then 0 else 1)<30))=true:=by rfl)
  (c:(apos.endLine==cpos.line)=true:=by rfl) (hs:starEach [e] X.env=(false,eval e X.env)::starEach [] X.env:=by rfl) (hplain:(backTo cpos (starEach [] X.env)).any (·.1)=false:=by rfl) :
  PE X (.Call (.Attribute o "index" apos) [e] [] cpos) (FI X.K to t):=by
 intro D s U H Q I h;refine wpAny_Call_method_late f i c rfl (fL (ho D s U H _ I h) λv s1 ⟨x,H1,I1,r1,p,ex,⟨xs0,hS⟩,q1⟩=>?_);subst ex;cases r1;obtain⟨S,r,pl,hz⟩:=I1.list hS;obtain⟨o1,n1,L,g2,g4,g3⟩:=pl;refine⟨"list", "list.index",PySem.F.plainAttrs_list,PySem.F.slot_list_index,PySem.F.type_list_index,⟨o1,L,g2⟩,λa ea=>?_,?_⟩
 .cases ea;exact⟨o1,L,g4⟩
 have N:=ha cpos D s1 U H1 _ I1 q1;rw[hs]at N ⊢;refine Calls.callWith_builtin (by show (false||(backTo cpos (starEach [] X.env)).any (·.1))=false;rw[hplain]<;>rfl) (Calls.evalArgs_plain ?_);refine fL N λus s2 ⟨vs,H2,I2,r2,y,dx,ds,xs,j,e2,hS2,hx,hd,⟨cx,cs,dp⟩,hj,hn,q2⟩=>?_;subst e2;obtain⟨u,rfl,Y⟩:=r2.one;obtain⟨bs,rb⟩:=hx.reads I2 Y;obtain⟨b,P,k,hz2⟩:=I2.list hS2;obtain⟨as,C⟩:=hd.reads I2 P;have R:=qJ (dx:=dx) C cs;have E:j<b.length:=by have:=(aa.mp hj).1;rw[<-R,ax]at this;exact this
 have hz':2*b.length<2 ^ 63:=by
  have:=P.length;have z:sizeLine<2 ^ 61:=by decide
  omega
 obtain⟨o2,n2,z,h2,h4,Z⟩:=k;obtain⟨oc,od,oda,B⟩:=o2;subst h2 Z h4;have J:∀m (g:m<b.length),AV s2 dx b[m]=((ds.map λd=>PyData.eqv d dx)[m]?).getD false:=λm g=>by rw[<-R,aw,ag g];rfl
 refine call_meets PySem.F.slot_list_index ⟨_,z,rfl⟩ PySem.F.entry_list_index (PySem.F.args_list_index_2 _ _) (SeqAt.list_indexAt p b.toArray n2 none B u (AV s2 dx) j (by simpa using E) (by omega) (by rw[cg,J j E,hj];rfl) (λm l n=>by
  have q:m<b.length:=by simpa using l
  rw[cg,J m q,hn m n];rfl)) ⟨z,λw hw=>uC rb cx (by show X.A.units+1+_<_;omega) C cs w (by simpa using hw),?_⟩
 exact⟨.int j,H2,I2.tok _,⟨s2.toks,rfl⟩,q2⟩
end
end L2
namespace L2
open PySem PySem.Spec PyProof.Rows
section
variable {X:Cx}{o e:Expr}{to:TE}{t:TA}{apos cpos:Pos}
def Gj(K:W.Frag)(to:TE)(t:TA):TE:=λh H Q=>to h H λx g=>∃p,x=.ref p/\(∃c,ib K g p c)/\t h g λi b=>∃y a f c,i=[y]/\ib K b p c/\DV K b y a/\qa K b c f/\(a.canLay0=true/\PyData.canLayAll0 f=true/\a.depth<=100)/\Q (.int ((f.countP λd=>PyData.eqv d a:Nat):Int)) b
def Bf(hu:X.A.units+200<cLine)(Z:PE X o to)(ha:PA X [e] t)
  (f:attributeBase o "count" X.env (eval o X.env)=eval o X.env:=by rfl)
  (g:((backTo cpos (starEach [e] X.env)).all (λx=>!x.1)&&(backToKw cpos (keywordEach [] X.env)).all (λx=>x.1.isSome)
   && decide (([e]:List Expr).length+([]:List Keyword).length+(if ([]:List Keyword).isEmpty then 0 else 1)<30))=true:=by rfl)
  (c:(apos.endLine==cpos.line)=true:=by rfl) (hs:starEach [e] X.env=(false,eval e X.env)::starEach [] X.env:=by rfl) (hplain:(backTo cpos (starEach [] X.env)).any (·.1)=false:=by rfl) :
  PE X (.Call (.Attribute o "count" apos) [e] [] cpos) (Gj X.K to t):=by
 intro z s E H Q I h;refine wpAny_Call_method_late f g c rfl (fL (Z z s E H _ I h) λv s1 ⟨x,H1,I1,r1,p,ex,⟨xs0,hS⟩,q1⟩=>?_);subst ex;cases r1;obtain⟨D,r,pl,hz⟩:=I1.list hS;obtain⟨o1,n1,B,Y,g4,g3⟩:=pl;refine⟨"list", "list.count",PySem.F.plainAttrs_list,PySem.F.slot_list_count,PySem.F.type_list_count,⟨o1,B,Y⟩,λa L=>?_,?_⟩
 .cases L;exact⟨o1,B,g4⟩
 have C:=ha cpos z s1 E H1 _ I1 q1;rw[hs]at C ⊢;refine Calls.callWith_builtin (by show (false||(backTo cpos (starEach [] X.env)).any (·.1))=false;rw[hplain]<;>rfl) (Calls.evalArgs_plain ?_);refine fL C λus s2 ⟨vs,H2,I2,r2,y,dx,ds,xs,e2,hS2,hx,hd,⟨cx,cs,dp⟩,q2⟩=>?_;subst e2;obtain⟨u,rfl,J⟩:=r2.one;obtain⟨bs,rb⟩:=hx.reads I2 J;obtain⟨b,R,k,N⟩:=I2.list hS2;obtain⟨as,q⟩:=hd.reads I2 R;have U:=qJ (dx:=dx) q cs;obtain⟨o2,n2,j,i,n,m⟩:=k;obtain⟨oc,od,S,l⟩:=o2;dsimp only at i m n;subst i m n;refine call_meets PySem.F.slot_list_count ⟨_,j,rfl⟩ PySem.F.entry_list_count (PySem.F.args_list_count_2 _ _) (SeqAt.list_countAt p b.toArray n2 none l u (AV s2 dx)) ⟨j,λw hw=>uC rb cx (by show X.A.units+1+_<_;omega) q cs w (by simpa using hw),?_⟩;refine⟨.int ((ds.countP λd=>PyData.eqv d dx:Nat):Int),H2,I2.tok _,⟨s2.toks,?_⟩,q2⟩;have P:b.countP (AV s2 dx)=ds.countP λd=>PyData.eqv d dx:=by
  have j:b.countP (AV s2 dx)=(b.map (AV s2 dx)).countP id:=by rw[cj];rfl
  have i:(ds.countP λd=>PyData.eqv d dx)=(ds.map λd=>PyData.eqv d dx).countP id:=by rw[cj];rfl
  rw[j,i,U]
 rw[<-P]
end
end L2
namespace L2
open PySem PySem.Spec PyProof.Rows
section
variable {P:Program}{w:World}{mg:Str->Option Value}{base:Heap}{CX:AW}{k:Nat}{f:Addr}{N ps:List Str}{name qual:Str}{params:Arguments}{body:List Stmt}{scope:Scope}{od an:Oq Addr}{osl:Array (Option Value)}{A:Around}{outer:List Env}{s:Sq}{H:Hp}{args:Args}{us:List Vq}{vs:List V}{Q:VK}{E:XK}{ea:Addr}{oe:Obj}
theorem Di{K:W.Frag}{R kV l U a X oc:Vq}(lk:K.lookup f=some ⟨oc,od,.func (W.fnOf name qual params body scope R kV l U an a X),osl⟩)(z:W.codeIn K a qual=true)(S:eB N ps scope)
  (hl:vs.length=ps.length) (hr:eD (k+1) A) (j:rB P w K mg base A outer s H) (hb:BindsTo s (W.fnOf name qual params body scope R kV l U an a X) args (ps.zip us)) (r:dZ vs us)
  (Y:s.heap.get? ea=some oe) (hn:H ea=none) (hf:ea∉ku outer) (hc:∀v,oe.data≠.cell v)
  (g:∃t,mW ((fK CX P w K mg base N qual scope f a A outer s H E).exc [(ea,oe)] ea) body t/\t {nx:=λ_ d=>Q .non d,rt:=Q} (fT N vs) H) :
  codeAny (model P w) (A.mark (some (.ref ea))) (.call (.ref f) args) (CR CX outer P w H s Q E) s:=by
 have Z:=j.mod.kin.keeps λb o e=>(j.bs b o e).1;have D:=j.mod.nolimit.keeps λb o e=>(j.bs b o e).1;have h:∀y∈ps.zip us,scope.names.lookup y.1=some .local\/(scope.names.lookup y.1=some .cell/\((cellsFrom (s.heap.objs.size+1) scope.names []).lookup y.1).isSome=true):=λ⟨n,v⟩ hy=>by
  rcases S.par n (aW hy).1 with q|q
  .exact .inl q
  .exact .inr ⟨q,W.cellsFrom_some _ _ _ (.inl q)⟩
 refine codeAny_call_function hr.depth (Z _ _ lk) rfl S.co S.gen rfl (W.codeRec_of Z z) (hb _ _ _ _ ?_);refine wpAny_newFunctionEnv_cells S.kind h λenv he F x=>?_;subst he;refine⟨D.keeps x.toInCall.keep,codeAny_func ?_⟩;obtain⟨t,ht,hq⟩:=g;have I:dF (fK CX P w K mg base N qual scope f a A outer s H E) [] (fT N vs) H F:=pF S hr.hd j hl r x;have I':dF ((fK CX P w K mg base N qual scope f a A outer s H E).exc [(ea,oe)] ea) [] (fT N vs) H F:=I.exc λp C=>by
  obtain rfl:p=(ea,oe):=by simpa using C
  refine⟨x.toInCall.keep ea oe Y,hn,?_,?_,hc⟩
  .exact aM (aL Y)
  .exact hf
 refine wpAny_mono (ht [] F (fT N vs) H _ I' hq) (λfl L i=>?_) λe L i=>i.elim;have m:∀{c:St} {d:Hp} {v:V} {u:Vq},dF ((fK CX P w K mg base N qual scope f a A outer s H E).exc [(ea,oe)] ea) [] c d L->eO v u->Q v d->CE outer P w H s Q u L:=λ{c d v u} J B q=>⟨v,d,J.os,J.bare,J.base,J.hok,B,q⟩
 cases fl with
 |ret u=>obtain⟨v,c,d,J,B,q⟩:=i;exact m J B q
 |next=>obtain⟨c,d,J,q⟩:=i;exact m (v:=V.non) J rfl q
 |brk=>obtain⟨_,_,_,q⟩:=i;exact False.elim q
 |cont=>obtain⟨_,_,_,q⟩:=i;exact False.elim q
end
section
variable {X:Cx}{pn:List (Addr×Obj)}{ea Ca:Addr}{oe:Obj}
theorem zZ{x:Str}{st:Stmt}{N ps:List Str}{k:Nat}{p c:Pos}{a:Expr}{L:TA}{sp:Hp->VK->Prop}(D:dN X.K X.mg x st)(S:eB N ps (dt st))(hr:eD (k+1) X.A)(hm:(ea,oe)∈pn)(hcl:oe.cls=.ref Ca)(j:ps.length=1)
  (hb:∀(kV g P:Vq) (J:Oq Addr) (b R:Vq) (us:List Vq),us.length=ps.length->bindArgs (W.fnOf x x (eV st) (dU st) (dt st) .none kV g P J b R) ⟨us,[]⟩=pure (ps.zip us))
  (y:X.stack=X.env::X.outer) (n:X.env.frame=some X.env.locals)
  (d:∀(f:Addr) (b:Vq) (s:Sq) (H:Hp) (Q:VK),sp H Q->∃t,mW ((fK mx X.prog X.w X.K X.mg X.base N x (dt st) f b X.A X.stack s H E0).exc [(ea,oe)] ea) (dU st) t/\t {nx:=λ_ H'=>Q .non H',rt:=Q} (fT N [.ref ea]) H)
  (ha:PA (X.exc pn ea) [a] L) (Z:Gl (X.exc pn ea) x) (B:(x==("__debug__" : Str))=false:=by decide) (he:starEach [a] X.env=(false,eval a X.env)::starEach [] X.env:=by rfl) (v:(backTo c (starEach [] X.env)).any (·.1)=false:=by rfl) :
  PE (X.exc pn ea) (.Call (.Name x p) [a] [] c) (λC H Q=>L C H λvs l=>vs=[.ref ea]/\sp l Q):=by
 intro dh s C H Q I h;obtain⟨f,fd,F,m⟩:=D.ex;have FB:=F.binds hb;have kp:=F.kp;obtain⟨oc,od,kV,g,P,J,b,R,osl,rfl,lk,o⟩:=F.ex;refine wpAny_Call_Name_kw (kJ I Z m ?_ B);refine W.callWith_K I.ok.mod.kin kp (fL (ha c dh s C H _ I h) λus s1 ⟨vs,l,I1,r,ev,q⟩=>⟨I1.kIn,?_⟩) he v;subst ev;obtain⟨u,rfl,ru⟩:=j1 r;obtain⟨g1,g2,U,g4,g5⟩:=I1.pin (ea,oe) (ay _ hm);have hf:ea∉ku X.stack:=λz=>by
  rw[y]at z;have z':ea∈X.env.locals::ku X.outer:=by simpa[ku,n] using z
  rcases aF.mp z' with w|w
  .exact U w
  .exact g4 w
 have Y:rB X.prog X.w X.K X.mg X.base X.A X.stack s1 l:=⟨I1.env0.frames,I1.env0.mod,I1.env0.bs,I1.env0.bsz,I1.env0.funs,I1.env0.frf,I1.env0.hok,I1.env0.bare⟩;refine wpAny_call (codeAny_mono (Di (CX:=mx) (E:=E0) (ea:=ea) (oe:=oe) lk o S (vs:=[.ref ea]) (by rw[j];rfl) hr Y (FB s1 [u] I1.kIn (by rw[j];rfl)) r g1 g2 hf g5 (d f b s1 l Q q)) λr s' i=>?_);cases r with
 |error e=>exact i.elim
 |ok fl=>
  cases fl with
  |ret u=>exact I1.after i
  |next=>exact False.elim i
  |brk=>exact False.elim i
  |cont=>exact False.elim i
end
end L2
namespace Cu
noncomputable def G(a b:Int):Int:=(Int.gcd a b:Nat)
def E2 a b:G b (Int.fmod a b)=G a b:=by
 unfold G;have e:=Int.fmod_def a b;rw[e];congr 1;apply Nat.dvd_antisymm
 .apply Int.dvd_gcd
  .have h:=ck b (a-b*Int.fdiv a b);have g:=cm b (a-b*Int.fdiv a b);have d:=Int.dvd_add g (cn (c:=Int.fdiv a b) h);have f:a-b*Int.fdiv a b+b*Int.fdiv a b=a:=by omega
   rw[f]at d;exact d
  .exact ck b _
 .apply Int.dvd_gcd
  .exact cm a b
  .exact Int.dvd_sub (ck a b) (cn (cm a b))
def xC a b (h:b≠0):(Int.fmod a b).natAbs<b.natAbs:=by
 rcases Int.lt_or_gt_of_ne h with c|c
 .have e:=cq (-a) (show 0 < -b by omega);have d:=cu (-a) (show 0 < -b by omega);rw[Int.neg_fmod_neg]at e d;omega
 .have e:=cq a c;have d:=cu a c;omega
def zN a:G a 0=(a.natAbs:Int):=by unfold G;rw[Int.gcd_zero_right]
def oG a b:0<=G a b:=Int.natCast_nonneg _
def tU a b:G a b ∣ a:=ck a b
def mU a b:G a b ∣ b:=cm a b
def Hu a b (h:b≠0):G a b<=(b.natAbs:Int):=by have:=Int.natAbs_dvd_natAbs.mpr (mU a b);have c:=Nat.le_of_dvd (by omega) this;have:=oG a b;omega
end Cu
namespace Cu
open PySem PyProof.Rows
open PySem.Builtin.Int (intBits)
def noPy(h:intBits y<=m)(c:m<=8000):PySem.Builtin.divisionGoesByPylong x y=false:=by
 refine PyProof.noPylong_of_log2 ?_;rcases Nat.eq_zero_or_pos y.natAbs with a|b
 .rw[a];decide
 .refine (Nat.log2_lt (br b)).mpr ?_;exact lt_pow_of_bits h (by omega)
end Cu
namespace L2
open PySem PySem.Spec PyProof.Rows
def zB:gW X (.builtin "isinstance") (λa H Q=>∃x T t b,a=[x,.ty T]/\kf X.K H x t/\W.kitOne X.K t (.type T)=some b/\Q (.bl b) H):=by
 intro f s i H a g Q I r h;obtain⟨x,T,t,b,rfl,c,e,q⟩:=h;cases r with
 |cons r1 r2=>
  cases r2 with
  |cons r3 r4=>cases r4;cases (r3);exact wR I r1 c e λd=>⟨.bl b,H,I.tok d,rfl,q⟩
def iA:bootBuiltins "isinstance" = some (.builtin "isinstance"):=by decide +kernel
def uo:bootBuiltins "abs" = some (.builtin "abs"):=by decide +kernel
def qB:bootBuiltins "int" = some (.type "int"):=by decide +kernel
def vV:bootBuiltins "bool" = some (.type "bool"):=by decide +kernel
def gj:bootBuiltins "tuple" = some (.type "tuple"):=by decide +kernel
def gh:bootBuiltins "len" = some (.builtin "len"):=by decide +kernel
end L2
namespace L2
open PySem PySem.W PySem.Spec PyProof.Rows
def xA{l:W.OpenLaw}{n k:Nat}{q:Program}{i:List Str}{XP:(Str->Option Value)->Heap->Prop}{S:World->Heap->Prop}{d:DefRec}{K:Params->W.Frag}{CX:AW}{sp:W.Frag->Sp}{x:Str}
  (hn:l.most=some n) (Q:n<=sizeLine) (N:d.params.defaults=[]) (hr:eD k callerA)
  (hY:∀(w:World) (h:Heap),S w h->(K w.params).In h)
  (F:∀(w:World) (m:Str->Option Value) (C:Addr) (h:Heap),(K w.params).In h->h.Ns mainGlobals m->m d.name=some (.ref C)->
   ∃fd:FuncData,(∀(s:Sq) (u:Vq),BindsTo s fd ⟨[u],[]⟩ [(x,u)])/\
    ∀c:Heap,(K w.params).In c->c.Ns mainGlobals m->iU l.prog w (K w.params) m c CX k C fd [x] (sp (K w.params)))
  (J:∀(K:W.Frag) (H:Hp) (a:Addr) (p:LI),p.length<=n->(∀z∈p,PySem.Builtin.Int.intBits z<=2 ^ 20)->Dk H->ib K H a (p.map V.int)->sp K [.ref a] H (λv _=>v=.bl true) λ_ _ _=>False)
  (E:∀(H:Hp) (s:Sq) (e:Vq) (D:Sq),CX [] H s (λ_ _ _=>False) e D->False) :
  W.WalkO q i XP S l.row.toRowW d [] (λf vs=>PySem.call f vs):=by
 intro w Z B m mb G Y C o pm cd doc dV kV ho hd hcd X P hg U vals as t A hrd L hlo;obtain rfl:dV=.none:=Dflts.none X N;obtain rfl:kV=.none:=Dflts.noKw X;obtain⟨a,vs,p,rfl,rfl,y,j,ig⟩:=Att.script_of hn t L;have hb:∀z∈p,PySem.Builtin.Int.intBits z<=2 ^ 20:=λz hz=>by have h1:=(layW_cons A).1;have I:=layableW_item h1 (WData.int z) (aD.mpr ⟨z,hz,rfl⟩);exact PyData.bits_of_layable (layable_int I)
 have KX:=hY w _ Y;obtain⟨fd,R,hF⟩:=F w m C _ KX G.T.g P;refine enter_call (codeAny_mono (yu KX G.T.g G.T.b G.T.builtins G.T.nolimit hg y j (aN ig Q) hr hF R (λH hO hS=>J _ H a p ig hb hO hS) λH e D=>E H B e D) λr D hq=>?_);obtain⟨rfl,I,h3,h4⟩:=hq;exact⟨.inl ⟨.bool true,.bool true,[],rfl,λ_=>rfl,.bool true,Att.post_true l _,λ_=>⟨List.Pairwise.nil,λ_ hm=>(nomatch hm)⟩⟩,I,h3,h4⟩
end L2
namespace C4
def IB(c e:LI):Prop:=∀i j,i<c.length->j<c.length->c.getD i 0*e.getD j 0=c.getD j 0*e.getD i 0
def par_of_place(a:c.getD p 0≠0)(h:∀i,i<c.length->c.getD i 0*e.getD p 0=e.getD i 0*c.getD p 0):IB c e:=λi j l g=>by have k:=h i l;have b:=h j g;refine Int.eq_of_mul_eq_mul_right a ?_;have f:c.getD i 0*e.getD j 0*c.getD p 0=c.getD i 0*(e.getD j 0*c.getD p 0):=cv _ _ _;have d:c.getD j 0*e.getD i 0*c.getD p 0=c.getD j 0*(e.getD i 0*c.getD p 0):=cv _ _ _;rw[f,d,<-k,<-b,<-cv,<-cv,cw (c.getD i 0) (c.getD j 0)]
end C4
namespace L3
open PySem L2
inductive T where
 |non|bl (b:Bool)|int (i:Int)|str (x:Str)
 |tup (ts:List T)|lst (ts:List T)|scr (ns:LI)
 |obj (C:Addr) (fs:List (Str×T))|emp
 |dic (kvs:List (LI×T))
inductive M(α:Type) where
 |bad|ok (a:α)|er (C:Addr) (n:Oq Int)
namespace M
noncomputable def bind{b c:Type}(m:M b)(k:b->M c):M c:=match m with
 |.bad=>.bad
 |.ok a=>k a
 |.er C n=>.er C n
instance:Monad M where
 pure:=.ok
 bind:=M.bind
noncomputable def res{b:Type}(m:M b)(P:b->Prop)(E:Addr->Option Int->Prop):Prop:=match m with
 |.bad=>False
 |.ok a=>P a
 |.er C n=>E C n
def res.unb{m:M α}{k:α->M β}{P:β->Prop}(h:res (m.bind k) P E):res m (λa=>res (k a) P E) E:=by cases m<;>exact h
def res.mono{m:M α}{P b:α->Prop}(h:res m P E)(c:∀a,P a->b a)(d:∀C n,E C n->E' C n):res m b E':=by
 cases m with
 |bad=>exact h
 |ok a=>exact c a h
 |er C n=>exact d C n h
noncomputable def noEr{a:Type}(m:M a):M a:=match m with
 |.er _ _=>.bad
 |m=>m
def res.noEr{m:M α}{P:α->Prop}(h:res m.noEr P E):res m P E':=by
 cases m with
 |bad=>exact h
 |ok a=>exact h
 |er C n=>exact h.elim
@[simp] theorem bind_ok a (k:α->M β):M.bind (.ok a) k=k a:=rfl
@[simp] theorem GA(k:α->M β):M.bind (.bad:M α) k=.bad:=rfl
@[simp] theorem G0 C n (k:α->M β):M.bind (.er C n:M α) k=.er C n:=rfl
noncomputable def NoE{a:Type}(m:M a):Prop:=∀C n,m≠.er C n
def res.ne{m:M α}{P:α->Prop}(h:res m P E)(ne:NoE m):res m P E':=by
 cases m with
 |bad=>exact h
 |ok a=>exact h
 |er C n=>exact absurd rfl (ne C n)
@[simp] theorem noEr_ok(a:α):noEr (.ok a)=.ok a:=rfl
end M
mutual
inductive gK(K:W.Frag)(F:Hp):V->T->Prop
 |non:gK K F .non .non
 |bl (b:Bool):gK K F (.bl b) (.bl b)
 |int (i:Int):gK K F (.int i) (.int i)
 |str (x:Str):gK K F (.str x) (.str x)
 |tup {a:Addr} {xs:List V} {ts:List T} (h:F a=some (.tup xs)) (r:dM K F xs ts):gK K F (.ref a) (.tup ts)
 |lst {a:Addr} {xs:List V} {ts:List T} (h:F a=some (.lst xs)) (r:dM K F xs ts):gK K F (.ref a) (.lst ts)
 |scr {a:Addr} {ns:LI} (h:ib K F a (ns.map V.int)):gK K F (.ref a) (.scr ns)
 |obj {a C dx:Addr} {fs:List (Str×V)} {ts:List (Str×T)} (h:F a=some (.ins C dx fs)) (r:jB K F fs ts):gK K F (.ref a) (.obj C ts)
 |emp {a:Addr} (h:F a=some (.dK [])):gK K F (.ref a) .emp
 |dic {a:Addr} {xs:List (List mX×V)} {kvs:List (LI×T)} (h:F a=some (.dT xs)) (r:rJ K F xs kvs):gK K F (.ref a) (.dic kvs)
inductive dM(K:W.Frag)(F:Hp):List V->List T->Prop
 |nil:dM K F [] []
 |cons {v:V} {t:T} {vs:List V} {ts:List T} (h:gK K F v t) (r:dM K F vs ts):dM K F (v::vs) (t::ts)
inductive jB(K:W.Frag)(F:Hp):List (Str×V)->List (Str×T)->Prop
 |nil:jB K F [] []
 |cons {x:Str} {v:V} {t:T} {vs:List (Str×V)} {ts:List (Str×T)} (h:gK K F v t) (r:jB K F vs ts):jB K F ((x,v)::vs) ((x,t)::ts)
inductive rJ(K:W.Frag)(F:Hp):List (List mX×V)->List (LI×T)->Prop
 |nil:rJ K F [] []
 |cons {k:LI} {v:V} {t:T} {vs:List (List mX×V)} {ts:List (LI×T)} (h:gK K F v t) (r:rJ K F vs ts):rJ K F ((k.map Sum.inl,v)::vs) ((k,t)::ts)
end
section
variable {K:W.Frag}{F F':Hp}
mutual
theorem gK.mono(s:dG F F'):∀{v} {t},gK K F v t->gK K F' v t
 |_,_,.non=>.non
 |_,_,.bl b=>.bl b
 |_,_,.int i=>.int i
 |_,_,.str x=>.str x
 |_,_,.tup h r=>.tup (s _ _ h) (dM.mono s r)
 |_,_,.lst h r=>.lst (s _ _ h) (dM.mono s r)
 |_,_,.scr h=>.scr (s.seq h)
 |_,_,.obj h r=>.obj (s _ _ h) (jB.mono s r)
 |_,_,.emp h=>.emp (s _ _ h)
 |_,_,.dic h r=>.dic (s _ _ h) (rJ.mono s r)
theorem dM.mono(s:dG F F'):∀{vs} {ts},dM K F vs ts->dM K F' vs ts
 |_,_,.nil=>.nil
 |_,_,.cons h r=>.cons (gK.mono s h) (dM.mono s r)
theorem jB.mono(s:dG F F'):∀{vs} {ts},jB K F vs ts->jB K F' vs ts
 |_,_,.nil=>.nil
 |_,_,.cons h r=>.cons (gK.mono s h) (jB.mono s r)
theorem rJ.mono(s:dG F F'):∀{vs} {ts},rJ K F vs ts->rJ K F' vs ts
 |_,_,.nil=>.nil
 |_,_,.cons h r=>.cons (gK.mono s h) (rJ.mono s r)
end
theorem dM.length:∀{vs} {ts},dM K F vs ts->vs.length=ts.length
 |_,_,.nil=>rfl
 |_,_,.cons _ r=>by rw[az,az,dM.length r]
theorem dM.get:∀{vs:List V} {ts:List T} {i:Nat} {t:T},dM K F vs ts->ts[i]? = some t->∃v,vs[i]? = some v/\gK K F v t
 |_,_,_,_,.nil,e=>by simp at e
 |_,_,0,_,.cons h _,e=>by simp at e;subst e;exact⟨_,rfl,h⟩
 |_,_,i+1,_,.cons _ r,e=>by obtain⟨v,a,h⟩:=dM.get r (by simpa using e);exact⟨v,by simpa using a,h⟩
def dM.at_{i:Nat}(r:dM K F vs ts)(e:vs[i]? = some v):∃t,ts[i]? = some t/\gK K F v t:=by
 have b:i<ts.length:=by rw[<-r.length];exact (aa.mp e).1
 obtain⟨c,a,h⟩:=r.get (ag b);rw[e]at a;cases a;exact⟨_,ag b,h⟩
theorem dM.append:∀{vs us} {ts ss},dM K F vs ts->dM K F us ss->dM K F (vs++us) (ts++ss)
 |_,_,_,_,.nil,q=>q
 |_,_,_,_,.cons h r,q=>.cons h (dM.append r q)
theorem dM.set(q:gK K F v t):∀{vs} {ts} i,dM K F vs ts->dM K F (vs.set i v) (ts.set i t)
 |_,_,_,.nil=>.nil
 |_,_,0,.cons _ r=>.cons q r
 |_,_,i+1,.cons h r=>.cons h (dM.set q i r)
theorem dM.take:∀{vs} {ts} n,dM K F vs ts->dM K F (vs.take n) (ts.take n)
 |_,_,0,_=>.nil
 |_,_,_+1,.nil=>.nil
 |_,_,n+1,.cons h r=>.cons h (dM.take n r)
theorem dM.drop:∀{vs} {ts} n,dM K F vs ts->dM K F (vs.drop n) (ts.drop n)
 |_,_,0,r=>r
 |_,_,_+1,.nil=>.nil
 |_,_,n+1,.cons _ r=>dM.drop n r
theorem dM.rep:∀{vs} {ts} n,dM K F vs ts->dM K F (List.replicate n vs).flatten (List.replicate n ts).flatten
 |_,_,0,_=>.nil
 |_,_,n+1,r=>by rw[bN,bN,bO,bO];exact r.append (dM.rep n r)
theorem dM.ints:∀{vs:List V} {a:LI},dM K F vs (a.map T.int)->vs=a.map V.int
 |_,[],.nil=>rfl
 |_,_::_,.cons h r=>by cases h;rw[dM.ints r];rfl
theorem dM.bls:∀{vs:List V} {a:List Bool},dM K F vs (a.map T.bl)->vs=a.map V.bl
 |_,[],.nil=>rfl
 |_,_::_,.cons h r=>by cases h;rw[dM.bls r];rfl
theorem dM.of_ints:∀(a:LI),dM K F (a.map V.int) (a.map T.int)
 |[]=>.nil
 |n::a=>.cons (.int n) (dM.of_ints a)
theorem jB.look:∀{fs} {ts},jB K F fs ts->ts.lookup f=some t->∃v,fs.lookup f=some v/\gK K F v t
 |_,_,.nil,e=>by cases e
 |_,_,.cons (x:=x) h r,e=>by
  by_cases b:f=x
  .subst b;rw[cy]at e;cases e;exact⟨_,cy,h⟩
  .have a:(f==x)=false:=by simpa using b
   rw[bV,a]at e;obtain⟨v,c,d⟩:=jB.look r e;exact⟨v,by rw[bV,a];exact c,d⟩
theorem jB.none_:∀{fs} {ts},jB K F fs ts->ts.lookup f=none->fs.lookup f=none
 |_,_,.nil,e=>rfl
 |_,_,.cons (x:=x) h r,e=>by
  by_cases a:f=x
  .subst a;rw[cy]at e;cases e
  .have b:(f==x)=false:=by simpa using a
   rw[bV,b]at e ⊢;exact jB.none_ r e
end
structure Gr(F H F' H':Hp):Prop where
 ff:dG F F'
 fh:dG F' H'
 hh:dG H H'
 nw:∀a,F' a≠none->F a≠none\/H a=none\/∃xs,H a=some (.tup xs)
def Gr.refl(h:dG F H):Gr F H F H:=⟨.refl _,h,.refl _,λ_ h=>.inl h⟩
def dP(h:dG H H')(e:H' a=none):H a=none:=by
 cases q:H a with
 |none=>rfl
 |some o=>rw[h a o q]at e;cases e
def Gr.trans(g:Gr F H F' H')(b:Gr F' H' F'' H''):Gr F H F'' H'':=
 ⟨g.ff.trans b.ff,b.fh,g.hh.trans b.hh,λa d=>by
  rcases b.nw a d with q|q|⟨c,q⟩
  .exact g.nw a q
  .exact .inr (.inl (dP g.hh q))
  .cases z:H a with
   |none=>exact .inr (.inl rfl)
   |some o=>exact .inr (.inr ⟨c,by rw[g.hh a o z]at q;exact q⟩)⟩
def Gr.new(s:dG F H)(h:H p=none):Gr F H (fw F p o) (fw H p o):=by
 have c:=dP s h;refine⟨λb u e=>?_,λb u e=>?_,λb u e=>?_,λb a=>?_⟩
 .rw[dH (dS e c)];exact e
 .by_cases q:b=p
  .subst q;rw[dA]at e ⊢;exact e
  .rw[dH q]at e ⊢;exact s b u e
 .rw[dH (dS e h)];exact e
 .by_cases q:b=p
  .subst q;exact .inr (.inl h)
  .rw[dH q]at a;exact .inl a
def Gr.new'(s:dG F H)(h:H p=none):Gr F H F (fw H p o):=by
 refine⟨.refl _,λb u e=>?_,λb u e=>?_,λb a=>.inl a⟩
 .rw[dH (dS (s b u e) h)];exact s b u e
 .rw[dH (dS e h)];exact e
def Gr.take(g:Gr F0 H0 F H)(h:H p=some o)(d:F p=none)(c:H0 p=none):Gr F0 H0 (fw F p o) H:=by
 refine⟨λb u e=>?_,λb u e=>?_,g.hh,λb a=>?_⟩
 .rw[dH (dS (g.ff b u e) d)];exact g.ff b u e
 .by_cases q:b=p
  .subst q;rw[dA]at e;rw[<-e];exact h
  .rw[dH q]at e;exact g.fh b u e
 .by_cases q:b=p
  .subst q;exact .inr (.inl c)
  .rw[dH q]at a;exact g.nw b a
def fj(a:F p=none):dG F (fw F p o):=λb u e=>by rw[dH (dS e a)];exact e
abbrev Pe:=List (Option T)
section
variable (K:W.Frag)
def ie(F:Hp)(a:St)(ρ:Pe):Prop:=∀(i:Nat) (t:T),ρ[i]? = some (some t)->∃v,a[i]? = some (some v)/\gK K F v t
def ie.mono{K:W.Frag}(h:ie K F σ ρ)(s:dG F F'):ie K F' σ ρ:=λi t e=>let ⟨v,a,b⟩:=h i t e;⟨v,a,b.mono s⟩
def Ie(E:XK)(C:Addr)(n:Oq Int)(F H:Hp):Prop:=match n with
 |none=>E (.ref C) none H
 |some i=>∀a,F a=some (.xd [("at",.int i)])->E (.ref C) (some a) H
def kE(E:XK)(F H:Hp)(C:Addr)(n:Oq Int):Prop:=∀b a,Gr F H b a->Ie E C n b a
def kE.go(h:kE E F H C n)(g:Gr F H F1 H1):kE E F1 H1 C n:=λc b a=>h c b (g.trans a)
def kV(F H:Hp)(Q:VK)(t:T):Prop:=∀v b a,Gr F H b a->gK K b v t->Q v a
def kB(F H:Hp)(Q:Bool->Hp->Prop)(b:Bool):Prop:=∀c a,Gr F H c a->Q b a
def kA(F H:Hp)(Q:List V->Hp->Prop)(ts:List T):Prop:=∀a c b,Gr F H c b->dM K c a ts->Q a b
def kF(F H:Hp)(Q:VK)(ts:List T):Prop:=∀l c b a,Gr F H b a->H l=none->b l=none->a l=some (.lst c)->dM K b c ts->Q (.ref l) a
noncomputable def ME(E:XK)(t:TE)(f:Pe->M T):Prop:=∀F H b a Q,dG F H->ie K F b a->(f a).res (kV K F H Q) (kE E F H)->t b H Q
noncomputable def MT(E:XK)(t:TT)(f:Pe->M Bool):Prop:=∀F H b a Q,dG F H->ie K F b a->(f a).res (kB F H Q) (kE E F H)->t b H Q
noncomputable def MA(E:XK)(t:TA)(f:Pe->M (List T)):Prop:=∀F H b a Q,dG F H->ie K F b a->(f a).res (kA K F H Q) (kE E F H)->t b H Q
noncomputable def MF(E:XK)(t:TE)(f:Pe->M (List T)):Prop:=∀F H b a Q,dG F H->ie K F b a->(f a).res (kF K F H Q) (kE E F H)->t b H Q
end
section
variable {K:W.Frag}{E:XK}{t u ta tb:TE}{f g fa fb:Pe->M T}
def kV.go{t:T}(h:kV K F H Q t)(g:Gr F H F1 H1):kV K F1 H1 Q t:=λv c b a r=>h v c b (g.trans a) r
def kB.go{t:Bool}(h:kB F H Q t)(g:Gr F H F1 H1):kB F1 H1 Q t:=λc b a=>h c b (g.trans a)
def kF.go{t:List T}(h:kF K F H Q t)(g:Gr F H F1 H1):kF K F1 H1 Q t:=λl e k j i a b c d=>h l e k j (g.trans i) (dP g.hh a) b c d
def kV.now{t:T}(h:kV K F H Q t)(s:dG F H)(r:gK K F v t):Q v H:=h v F H (.refl s) r
def kF.of(h:kV K F H Q (.lst ts)):kF K F H Q ts:=λl d i e g c b a r=>h (.ref l) (fw i l (.lst d)) e (g.take a b c) (.lst dA (r.mono (fj b)))
def MF.me{f:Pe->M (List T)}(h:MF K E t f):ME K E t (λρ=>(f ρ).bind λts=>.ok (.lst ts)):=λF H a ρ Q s V r=>h F H a ρ Q s V ((M.res.unb r).mono (λts q=>kF.of q) λ_ _ z=>z)
def ME.run{k:T->M α}{P:α->Prop}(h:ME K E t f)(s:dG F H)(v:ie K F σ ρ)(r:((f ρ).bind k).res P (kE E F H))
  (c:∀x w a b,Gr F H a b->gK K a w x->(k x).res P (kE E a b)->Q w b):t σ H Q:=
 h F H σ ρ Q s v ((M.res.unb r).mono (λx q w a b g d=>c x w a b g d (q.mono (λ_ z=>z) λ_ _ z=>z.go g)) λ_ _ z=>z)
def MT.run{t:TT}{f:Pe->M Bool}{k:Bool->M α}{P:α->Prop}(h:MT K E t f)(s:dG F H)(v:ie K F σ ρ)(r:((f ρ).bind k).res P (kE E F H))
  (c:∀x b a,Gr F H b a->(k x).res P (kE E b a)->Q x a):t σ H Q:=
 h F H σ ρ Q s v ((M.res.unb r).mono (λx q b a g=>c x b a g (q.mono (λ_ z=>z) λ_ _ z=>z.go g)) λ_ _ z=>z)
def MA.run{t:TA}{f:Pe->M (List T)}{k:List T->M α}{P:α->Prop}(h:MA K E t f)(s:dG F H)(v:ie K F σ ρ)(r:((f ρ).bind k).res P (kE E F H))
  (c:∀x w a b,Gr F H a b->dM K a w x->(k x).res P (kE E a b)->Q w b):t σ H Q:=
 h F H σ ρ Q s v ((M.res.unb r).mono (λx q w a b g d=>c x w a b g d (q.mono (λ_ z=>z) λ_ _ z=>z.go g)) λ_ _ z=>z)
@[simp] noncomputable def dk(i:Nat):Pe->M T:=λa=>match a[i]? with
 |some (some t)=>.ok t
 |_=>.bad
def EZ:ME K E (gQ i) (dk i):=λF H b c Q s V r=>by
 unfold dk at r;split at r
 .rename_i t e;obtain⟨v,a,h⟩:=V i t e;exact⟨v,a,r.now s h⟩
 .exact r.elim
@[simp] noncomputable def cM(t:T):Pe->M T:=λ_=>.ok t
def xR{t:T}(h:∀F,gK K F v t):ME K E (tC v) (cM t):=λF H b a Q s V r=>kV.now r s (h F)
@[simp] noncomputable def dI(o:T->T->M T)(fa fb:Pe->M T):Pe->M T:=λa=>(fa a).bind λx=>(fb a).bind λy=>o x y
structure MR(K:W.Frag)(r:R2)(o:T->T->M T):Prop where
 ne:∀x y,M.NoE (o x y)
 ok:∀F H v w x y Q,dG F H->gK K F v x->gK K F w y->(o x y).res (kV K F H Q) (λ_ _=>False)->r v w H Q
def vP(hr:MR K r o)(j:ME K E ta fa)(i:ME K E tb fb):ME K E (mY r ta tb) (dI o fa fb):=λF H p A Q s V q=>by refine j.run s V q λx v n m a c k=>?_;refine i.run a.fh (V.mono a.ff) k λy w h l b e d=>?_;exact hr.ok h l v w x y Q b.fh (c.mono b.ff) e ((d.ne (hr.ne x y)).mono (λ_ z=>z.go (a.trans b)) λ_ _ z=>z)
noncomputable def hZ(C:Int->Int->Bool)(g:Int->Int->T):T->T->M T
 |.int i,.int j=>if C i j then .ok (g i j) else .bad
 |_,_=>.bad
def sV{g:Int->Int->T} x y:M.NoE (hZ C g x y):=λa n=>by
 unfold hZ;split
 .split<;>exact λz=>nomatch z
 .exact λz=>nomatch z
def gK.int_inv(h:gK K F v (.int i)):v=.int i:=by cases h;rfl
def gK.lst_inv(h:gK K F v (.lst ts)):∃a b,v=.ref a/\F a=some (.lst b)/\dM K F b ts:=by cases h;exact⟨_,_,rfl,‹_›,‹_›⟩
def gK.tup_inv(h:gK K F v (.tup ts)):∃a b,v=.ref a/\F a=some (.tup b)/\dM K F b ts:=by cases h;exact⟨_,_,rfl,‹_›,‹_›⟩
def rO{g:Int->Int->V}(c:∀i j,Cb i j=true->C i j)(d:∀F i j,gK K F (g i j) (gt i j)):MR K (rI C g) (hZ Cb gt):=⟨sV,λF H v w x y Q s a b q=>by
 unfold hZ at q;split at q
 .rename_i i j;rw[a.int_inv,b.int_inv];by_cases h:Cb i j=true
  .rw[aQ h]at q;exact⟨i,j,rfl,rfl,c i j h,kV.now q s (d F i j)⟩
  .rw[aR h]at q;exact q.elim
 .exact q.elim⟩
def lM{g:Int->Int->V}(c:∀F i j,gK K F (g i j) (gt i j)):MR K (ub g) (hZ (λ_ _=>true) gt):=⟨sV,λF H v w x y Q s a b q=>by
 unfold hZ at q;split at q
 .rw[a.int_inv,b.int_inv];exact⟨_,_,rfl,rfl,kV.now q s (c F _ _)⟩
 .exact q.elim⟩
@[simp] noncomputable def xK(o:Int->T)(fa:Pe->M T):Pe->M T:=λa=>(fa a).bind λx=>match x with
 |.int i=>.ok (o i)
 |_=>.bad
def FV{g:Int->V}(e:∀F i,gK K F (g i) (gt i))(j:ME K E ta fa):ME K E (HH (rU g) ta) (xK gt fa):=λF H k l Q s V q=>by
 refine j.run s V q λx v a d h c b=>?_;cases c<;>first
  |exact b.elim
  |exact⟨_,rfl,b _ a d h (e a _)⟩
@[simp] noncomputable def eW(fa:Pe->M T):Pe->M Bool:=λa=>(fa a).bind λx=>match x with
 |.bl b=>.ok b
 |_=>.bad
def Bu(e:ME K E ta fa):MT K E (tB ta) (eW fa):=λF H i j Q s V q=>by
 refine e.run s V q λx v h c d b a=>?_;cases b<;>first
  |exact a.elim
  |exact⟨_,rfl,a h c d⟩
def BS(a:ME K E ta fa):MT K E (oK ta) (eW fa):=Bu a
section
variable {c d:TT}{fc fd:Pe->M Bool}
@[simp] noncomputable def m4(fc fd:Pe->M Bool):Pe->M Bool:=λa=>(fc a).bind λb=>if b then fd a else .ok false
@[simp] noncomputable def xJ(fc fd:Pe->M Bool):Pe->M Bool:=λa=>(fc a).bind λb=>if b then .ok true else fd a
@[simp] noncomputable def jr(fc:Pe->M Bool):Pe->M Bool:=λa=>(fc a).bind λb=>.ok (!b)
def Dy(j:MT K E c fc)(l:MT K E d fd):MT K E (EY c d) (m4 fc fd):=λF H k m Q s V q=>by
 refine j.run s V q λb i h a e=>?_;cases b with
 |true=>rw[aQ rfl];exact l i h k m Q a.fh (V.mono a.ff) (e.mono (λ_ z=>z.go a) λ_ _ z=>z)
 |false=>rw[aR aH];exact e i h a
def Gb(j:MT K E c fc)(l:MT K E d fd):MT K E (GR c d) (xJ fc fd):=λF H k m Q s V q=>by
 refine j.run s V q λb i h a e=>?_;cases b with
 |true=>rw[aQ rfl];exact e i h a
 |false=>rw[aR aH];exact l i h k m Q a.fh (V.mono a.ff) (e.mono (λ_ z=>z.go a) λ_ _ z=>z)
def C8(i:MT K E c fc):MT K E (BN c) (jr fc):=λF H k l Q s V q=>by refine i.run s V q λb j e h a=>?_;exact a j e h
end
@[simp] noncomputable def zA(fa fb:Pe->M T):Pe->M T:=λa=>(eW fa a).bind λb=>if b then fb a else .ok (.bl false)
@[simp] noncomputable def zf(fa:Pe->M T):Pe->M T:=λa=>(eW fa a).bind λb=>.ok (.bl (!b))
def Cd(j:ME K E ta fa)(h:ME K E tb fb):ME K E (yY ta tb) (zA fa fb):=λF H i k Q s V q=>by
 refine (Bu j).run s V q λb e d a c=>?_;cases b with
 |true=>rw[aQ rfl];exact h e d i k Q a.fh (V.mono a.ff) (c.mono (λ_ z=>z.go a) λ_ _ z=>z)
 |false=>rw[aR aH];exact c _ e d a (.bl _)
def Cp(e:ME K E ta fa):ME K E (yc ta) (zf fa):=λF H i j Q s V q=>by refine (Bu e).run s V q λb h c d a=>?_;exact a _ h c d (.bl _)
@[simp] noncomputable def dg(fa:Pe->M T)(c:Pe->M (List T)):Pe->M (List T):=λa=>(fa a).bind λx=>(c a).bind λb=>.ok (x::b)
@[simp] noncomputable def dm:Pe->M (List T):=λ_=>.ok []
def uz:MA K E jW dm:=λF H a b Q s V q=>q [] F H (.refl s) .nil
def Bq{c:TA}{b:Pe->M (List T)}(l:ME K E ta fa)(hr:MA K E c b):MA K E (gO ta c) (dg fa b):=λF H w y Q s V q=>by refine l.run s V q λx v r o a e m=>?_;refine hr.run a.fh (V.mono a.ff) m λp h k n d j i=>?_;exact i (v::h) k n (a.trans d) (.cons (e.mono d.ff) j)
@[simp] noncomputable def sd(ts:List T):M (List T):=if ts.length<=sizeLine then .ok ts else .bad
@[simp] noncomputable def kP(b:Pe->M (List T)):Pe->M T:=λc=>(b c).bind λa=>(sd a).bind λa=>.ok (.tup a)
@[simp] noncomputable def lstM(a:Pe->M (List T)):Pe->M (List T):=λb=>(a b).bind sd
def DN{e:TA}{d:Pe->M (List T)}(hr:MA K E e d):ME K E (Et e) (kP d):=λF H n o Q s V q=>by
 refine hr.run s V q λj l m k b c a=>?_;unfold sd at a;by_cases h:j.length<=sizeLine
 .rw[aQ h]at a;refine⟨by rw[c.length];exact h,λp i=>?_⟩;exact a (.ref p) _ _ (b.trans (.new b.fh i)) (.tup dA (c.mono (Gr.new b.fh i).ff))
 .rw[aR h]at a;exact a.elim
def Dz{i:TA}{e:Pe->M (List T)}(hr:MA K E i e):MF K E (AF i) (lstM e):=λF H n o Q s V q=>by
 refine hr.run s V q λk j l m b d a=>?_;unfold sd at a;by_cases h:k.length<=sizeLine
 .rw[aQ h]at a;refine⟨by rw[d.length];exact h,λp c=>?_⟩;exact a p j l _ (b.trans (.new' b.fh c)) (dP b.hh c) (dP b.fh c) dA d
 .rw[aR h]at a;exact a.elim
end
end L3
namespace L3
open PySem L2
inductive W where
 |p (t:T)|o (ts:List T)|d (kvs:List (LI×T))
abbrev En:=List (Option W)
@[simp] def Hs:Oq W->Option T
 |some (.p t)=>some t
 |_=>none
@[simp] def HU:Oq W->Option T
 |some (.p t)=>some t
 |some (.o ts)=>some (.lst ts)
 |_=>none
@[simp] noncomputable def mS(ρ:En):Pe:=ρ.map Hs
@[simp] noncomputable def vw(ρ:En):Pe:=ρ.map HU
mutual
@[simp] noncomputable def lf:T->Bool
 |.lst _=>false
 |.scr _=>false
 |.dic _=>false
 |.tup ts=>AS ts
 |.obj _ fs=>G6 fs
 |_=>true
@[simp] noncomputable def AS:List T->Bool
 |[]=>true
 |t::ts=>lf t&&AS ts
noncomputable def G6:List (Str×T)->Bool
 |[]=>true
 |t::ts=>lf t.2&&G6 ts
end
structure Fz where
 hp:Hp
 lt:List (Nat×Addr×List V)
instance:Coe Fz Hp:=⟨Fz.hp⟩
structure Lv(H0 F H:Hp)(σ:St)(ρ:En)(e:Nat×Addr×List V):Prop where
 h:H e.2.1=some (.lst e.2.2)
 f:F e.2.1=none
 z:H0 e.2.1=none
 d:∀(i:Nat) (ts:List T),ρ[i]? = some (some (.o ts))->σ[i]?≠some (some (.ref e.2.1))
def DR(K:W.Frag)(F:Hp)(b:List (List mX×V))(a:List (LI×T)):Prop:=Paired (λ(p:List mX×V) (q:LI×T)=>p.1=q.1.map Sum.inl/\gK K F p.2 q.2) b a
def DR.mono(s:dG F F')(h:DR K F xs kvs):DR K F' xs kvs:=Paired.imp' (λ_ _ q=>⟨q.1,q.2.mono s⟩) h
structure Dv(K:W.Frag)(H0 F H:Hp)(σ:St)(ρ:En):Prop where
 at_:∀(i:Nat) kvs,ρ[i]? = some (some (.d kvs))->∃a,σ[i]? = some (some (.ref a))/\F a=none/\H0 a=none/\∃xs,H a=some (.dT xs)/\DR K F xs kvs
 dj:∀(i j:Nat) kvs kvs',ρ[i]? = some (some (.d kvs))->ρ[j]? = some (some (.d kvs'))->i≠j->σ[i]?≠σ[j]?
def xv{a:Type}{l:List a}{x y:a}(h:(l.set i x)[i]? = some y):y=x:=by
 rw[List.getElem?_set]at h;simp only[if_true]at h;split at h
 .exact (Option.some.inj h).symm
 .cases h
def wt{a:Type}{l:List a}{x y:a}(h:(l.set i x)[j]? = some y):(j=i/\y=x)\/(j≠i/\l[j]? = some y):=by
 by_cases e:j=i
 .subst e;exact .inl ⟨rfl,xv h⟩
 .rw[ar (λz=>e z.symm)]at h;exact .inr ⟨e,h⟩
def Dv.heap(d:Dv K H0 F H σ ρ)(s:dG F F')(h:∀a b,H a=some (.dT b)->F a=none->F' a=none/\H' a=some (.dT b)):Dv K H0 F' H' σ ρ:=⟨λi c e=>let ⟨a,e1,e2,e3,b,e4,e5⟩:=d.at_ i c e;let ⟨h1,h2⟩:=h a b e4 e2;⟨a,e1,h1,e3,b,h2,e5.mono s⟩,d.dj⟩
def Dv.set(d:Dv K H0 F H σ ρ)(hw:∀b,w≠some (.d b)):Dv K H0 F H (σ.set i v) (ρ.set i w):=by
 refine⟨λj b e=>?_,λj k b c e l g=>?_⟩
 .rcases wt e with⟨rfl,q⟩|⟨h,q⟩
  .exact absurd q.symm (hw b)
  .obtain⟨a,n,r⟩:=d.at_ j b q;exact⟨a,by rw[ar (λz=>h z.symm)];exact n,r⟩
 .rcases wt e with⟨rfl,q⟩|⟨h,q⟩
  .exact absurd q.symm (hw b)
  .rcases wt l with⟨rfl,f⟩|⟨m,f⟩
   .exact absurd f.symm (hw c)
   .rw[ar (λz=>h z.symm),ar (λz=>m z.symm)];exact d.dj j k b c q f g
def Dv.setR(d:Dv K H0 F H σ ρ)(hw:∀a,w≠some (.d a)):Dv K H0 F H σ (ρ.set i w):=by
 refine⟨λj a e=>?_,λj k a b e g f=>?_⟩
 .rcases wt e with⟨rfl,q⟩|⟨h,q⟩
  .exact absurd q.symm (hw a)
  .exact d.at_ j a q
 .rcases wt e with⟨rfl,q⟩|⟨h,q⟩
  .exact absurd q.symm (hw a)
  .rcases wt g with⟨rfl,c⟩|⟨l,c⟩
   .exact absurd c.symm (hw b)
   .exact d.dj j k a b q c f
structure Sr(K:W.Frag)(F0:Fz)(H0 F H:Hp)(σ:St)(ρ:En):Prop where
 gr:Gr F0.hp H0 F H
 len:σ.length=ρ.length
 pv:∀(i:Nat) (t:T),ρ[i]? = some (some (.p t))->∃v,σ[i]? = some (some v)/\gK K F v t
 ov:∃ad:Nat->Addr,(∀(i:Nat) (ts:List T),ρ[i]? = some (some (.o ts))->σ[i]? = some (some (.ref (ad i)))/\F (ad i)=none/\H0 (ad i)=none/\∃vs,H (ad i)=some (.lst vs)/\dM K F vs ts)/\
  ∀(i j:Nat) (ts us:List T),ρ[i]? = some (some (.o ts))->ρ[j]? = some (some (.o us))->i≠j->ad i≠ad j
 lv:∀e∈F0.lt,Lv H0 F H σ ρ e
 sl:∀(j:Nat) (l:Addr) (vs:List V),F0.lt.lookup j=some (l,vs)->ρ[j]? = some none->σ[j]? = some (some (.ref l))
 dv:Dv K H0 F H σ ρ
section
variable {K:W.Frag}{F0:Fz}{H0 F H F' H':Hp}{σ:St}{ρ:En}
def Sr.vars(r:Sr K F0 H0 F H σ ρ):ie K F σ (mS ρ):=λi t e=>by
 unfold mS at e;rw[aw]at e;cases q:ρ[i]? with
 |none=>rw[q]at e;cases e
 |some w=>
  rw[q]at e;cases w with
  |none=>cases e
  |some w=>
   cases w with
   |p t'=>cases e;exact r.pv i _ q
   |o ts=>cases e
   |d kvs=>cases e
def Sr.grow(r:Sr K F0 H0 F H σ ρ)(g:Gr F H F' H'):Sr K F0 H0 F' H' σ ρ:=by
 obtain⟨k,o,n⟩:=r.ov;refine⟨r.gr.trans g,r.len,λi t e=>?_,⟨k,λi m e=>?_,n⟩,λe s=>?_,r.sl,r.dv.heap g.ff λa x j l=>⟨?_,g.hh _ _ j⟩⟩
 .obtain⟨v,a,b⟩:=r.pv i t e;exact⟨v,a,b.mono g.ff⟩
 .obtain⟨a,b,c,p,d,q⟩:=o i m e;refine⟨a,?_,c,p,g.hh _ _ d,q.mono g.ff⟩;cases z:F' (k i) with
  |none=>rfl
  |some u=>
   rcases g.nw (k i) (by rw[z];exact λw=>nomatch w) with y|y|⟨_,y⟩
   .exact absurd b y
   .rw[d]at y;cases y
   .rw[d]at y;cases y
 .have L:=r.lv e s;refine⟨g.hh _ _ L.h,?_,L.z,L.d⟩;cases z:F' e.2.1 with
  |none=>rfl
  |some u=>
   rcases g.nw e.2.1 (by rw[z];exact λw=>nomatch w) with y|y|⟨_,y⟩
   .exact absurd L.f y
   .rw[L.h]at y;cases y
   .rw[L.h]at y;cases y
 .cases z:F' a with
  |none=>rfl
  |some u=>
   rcases g.nw a (by rw[z];exact λw=>nomatch w) with y|y|⟨_,y⟩
   .exact absurd l y
   .rw[j]at y;cases y
   .rw[j]at y;cases y
theorem Sr.lend(r:Sr K F0 H0 F H σ ρ):∃k,dG F k/\Gr F0.hp H0 k H/\ie K k σ (vw ρ)/\
  (∀F' H',Gr k H F' H'->∃j,Gr F H j H'/\dG F j/\dG j F'/\(∀a,F' a≠none->j a=none->∃J,F' a=some (.lst J))/\(∀a,F' a≠none->j a=none->H a≠none)):=by
 classical
 obtain⟨L,m,N⟩:=r.ov;let f:Addr->Prop:=λa=>∃i h,ρ[i]? = some (some (.o h))/\L i=a;let k:Hp:=λa=>if f a then H a else F a
 have x:dG F k:=λa o e=>by
  have:¬f a:=by rintro⟨i,h,q,rfl⟩;obtain⟨_,b,_⟩:=m i h q;rw[b]at e;cases e
  show (if f a then H a else F a)=some o;rw[aR this];exact e
 have I:dG k H:=λa o e=>by
  by_cases q:f a
  .have n:(if f a then H a else F a)=some o:=e;rw[aQ q]at n;exact n
  .have n:(if f a then H a else F a)=some o:=e;rw[aR q]at n;exact r.gr.fh a o n
 have A:∀a,f a->k a=H a:=λa q=>aQ q;have C:∀a,¬f a->k a=F a:=λa q=>aR q;refine⟨k,x,⟨r.gr.ff.trans x,I,r.gr.hh,λa l=>?_⟩,λi t e=>?_,λF' H' g=>?_⟩
 .by_cases q:f a
  .obtain⟨i,h,e,rfl⟩:=q;exact .inr (.inl (m i h e).2.2.1)
  .rw[C a q]at l;exact r.gr.nw a l
 .unfold vw at e;rw[aw]at e;cases q:ρ[i]? with
  |none=>rw[q]at e;cases e
  |some w=>
   rw[q]at e;cases w with
   |none=>cases e
   |some w=>
    cases w with
    |p t'=>cases e;obtain⟨v,a,b⟩:=r.pv i _ q;exact⟨v,a,b.mono x⟩
    |o h=>cases e;obtain⟨a,b,c,y,d,z⟩:=m i h q;exact⟨_,a,.lst (by rw[A _ ⟨i,h,q,rfl⟩];exact d) (z.mono x)⟩
    |d kvs=>cases e
 .let j:Hp:=λa=>if f a then none else F' a
  have u:∀a,¬f a->j a=F' a:=λa q=>aR q;have D:∀a,f a->j a=none:=λa q=>aQ q;have E:dG F j:=λa o e=>by
   have:¬f a:=by rintro⟨i,h,q,rfl⟩;obtain⟨_,b,_⟩:=m i h q;rw[b]at e;cases e
   rw[u a this];exact g.ff _ _ (x _ _ e)
  have B:dG j F':=λa o e=>by
   by_cases q:f a
   .rw[D a q]at e;cases e
   .rw[u a q]at e;exact e
  refine⟨j,⟨E,B.trans g.fh,g.hh,λa l=>?_⟩,E,B,λa l s=>?_,λa l s=>?_⟩
  .by_cases q:f a
   .exact absurd (D a q) l
   .rw[u a q]at l;rcases g.nw a l with z|z
    .rw[C a q]at z;exact .inl z
    .exact .inr z
  .by_cases q:f a
   .obtain⟨i,h,e,rfl⟩:=id q;obtain⟨_,_,_,y,d,_⟩:=m i h e;exact⟨y,g.ff _ _ (by rw[A _ q];exact d)⟩
   .rw[u a q]at s;exact absurd s l
  .by_cases q:f a
   .obtain⟨i,h,e,rfl⟩:=id q;obtain⟨_,_,_,y,d,_⟩:=m i h e;rw[d];exact λz=>nomatch z
   .rw[u a q]at s;exact absurd s l
mutual
theorem gK.less(c:dG Fb F)(h:∀a,F a≠none->Fb a=none->∃d,F a=some (.lst d)):∀{v} {t},gK K F v t->lf t=true->gK K Fb v t
 |_,_,.non,_=>.non
 |_,_,.bl b,_=>.bl b
 |_,_,.int i,_=>.int i
 |_,_,.str x,_=>.str x
 |_,_,.tup (a:=a) e r,l=>by
  refine .tup ?_ (dM.less c h r (by simpa[lf] using l));cases q:Fb a with
  |none=>obtain⟨d,z⟩:=h a (by rw[e];exact λz=>nomatch z) q;rw[e]at z;cases z
  |some u=>rw[<-e];exact (c a u q).symm
 |_,_,.lst _ _,l=>by simp[lf]at l
 |_,_,.scr _,l=>by simp[lf]at l
 |_,_,.obj (a:=a) (dx:=dx) e r,l=>by
  refine .obj (dx:=dx) ?_ (jB.less c h r (by simpa[lf] using l));cases q:Fb a with
  |none=>obtain⟨d,z⟩:=h a (by rw[e];exact λz=>nomatch z) q;rw[e]at z;cases z
  |some u=>rw[<-e];exact (c a u q).symm
 |_,_,.dic _ _,l=>by simp[lf]at l
 |_,_,.emp (a:=a) e,l=>by
  refine .emp ?_;cases q:Fb a with
  |none=>obtain⟨d,z⟩:=h a (by rw[e];exact λz=>nomatch z) q;rw[e]at z;cases z
  |some u=>rw[<-e];exact (c a u q).symm
theorem dM.less(b:dG Fb F)(h:∀a,F a≠none->Fb a=none->∃c,F a=some (.lst c)):∀{vs} {ts},dM K F vs ts->AS ts=true->dM K Fb vs ts
 |_,_,.nil,_=>.nil
 |_,_,.cons q r,l=>by rw[AS,bM]at l;exact .cons (gK.less b h q l.1) (dM.less b h r l.2)
theorem jB.less(b:dG Fb F)(h:∀a,F a≠none->Fb a=none->∃c,F a=some (.lst c)):∀{vs} {ts},jB K F vs ts->G6 ts=true->jB K Fb vs ts
 |_,_,.nil,_=>.nil
 |_,_,.cons q r,l=>by rw[G6,bM]at l;exact .cons (gK.less b h q l.1) (jB.less b h r l.2)
end
end
end L3
namespace L3
open PySem L2
def kT(K:W.Frag)(F H:Hp)(Q:VK)(ts us:List T):Prop:=∀p l d c a b,Gr F H a b->H l=none->a l=none->H p=none->a p=none->p≠l->b l=some (.lst c)->b p=some (.tup (d++[.ref l]))->dM K a d ts->dM K a c us->Q (.ref p) b
def kT.of(h:kV K F H Q (.tup (ts++[.lst us]))):kT K F H Q ts us:=λp l q k j s g a b c d e f i r u=>by
 have t:=g.take f b a;have n:fw j l (.lst k) p=none:=by rw[dH e];exact d
 have o:dG j (fw j l (.lst k)):=fj b;have m:dG (fw j l (.lst k)) (fw (fw j l (.lst k)) p (.tup (q++[.ref l]))):=fj n;exact h (.ref p) _ s (t.take i n c) (.tup dA ((r.mono (o.trans m)).append (.cons (.lst (m _ _ dA) (u.mono (o.trans m))) .nil)))
inductive O where
 |bad|nx (ρ:En)|rt (t:T)|rf (ts:List T)|rn (ts us:List T)|bk (ρ:En)|ct (ρ:En)|er (C:Addr) (n:Oq Int)
section
variable (K:W.Frag)(E:XK)
def kN(d:Fz)(e F:Hp)(D:St->Hp->Prop)(ρ:En):Prop:=∀c b a,dG F c->Sr K d e c b a ρ->D a b
noncomputable def O.res(o:O)(b:Fz)(a F:Hp)(D:kR):Prop:=match o with
 |.bad=>False
 |.nx ρ=>kN K b a F D.nx ρ
 |.rt t=>kV K b.hp a D.rt t
 |.rf ts=>kF K b.hp a D.rt ts
 |.rn ts us=>kT K b.hp a D.rt ts us
 |.bk ρ=>kN K b a F D.bk ρ
 |.ct ρ=>kN K b a F D.ct ρ
 |.er C n=>kE E b.hp a C n
noncomputable def MS(t:TS)(g:En->O):Prop:=∀b d F H c a D,Sr K b d F H c a->(g a).res K E b d F D->t D c H
end
section
variable {K:W.Frag}{E:XK}{t u ta tb:TE}{f fa fb:Pe->M T}{F0:Fz}{H0 F H F1 H1:Hp}{σ:St}{ρ:En}{D:kR}
def kN.go(h:kN K F0 H0 F N ρ)(s:dG F F1):kN K F0 H0 F1 N ρ:=λd c a b r=>h d c a (s.trans b) r
def O.res.go{o:O}(h:o.res K E F0 H0 F D)(s:dG F F1):o.res K E F0 H0 F1 D:=by
 cases o with
 |bad=>exact h
 |nx ρ=>exact kN.go h s
 |rt t=>exact h
 |rf ts=>exact h
 |rn ts us=>exact h
 |bk ρ=>exact kN.go h s
 |ct ρ=>exact kN.go h s
 |er C n=>exact h
noncomputable def O.of{b:Type}(m:M b)(k:b->O):O:=match m with
 |.bad=>.bad
 |.ok a=>k a
 |.er C n=>.er C n
@[simp] theorem O.of_ok(a:α) k:O.of (.ok a) k=k a:=rfl
@[simp] theorem O.of_bad k:O.of (.bad:M α) k=.bad:=rfl
@[simp] theorem O.of_er C n k:O.of (.er C n:M α) k=.er C n:=rfl
def O.res_of{m:M α}{k:α->O}(h:(O.of m k).res K E F0 H0 F D):m.res (λa=>(k a).res K E F0 H0 F D) (kE E F0.hp H0):=by cases m<;>exact h
@[simp] noncomputable def dO(a b:En->O):En->O:=λρ=>match a ρ with
 |.nx ρ'=>b ρ'
 |o=>o
def EN{t u:TS}(j:MS K E t a)(h:MS K E u b):MS K E (ml t u) (dO a b):=λF0 H0 F H σ ρ D r q=>by
 refine j F0 H0 F H σ ρ _ r ?_;unfold dO at q;cases e:a ρ with
 |nx ρ'=>rw[e]at q;intro g d c s i;exact h F0 H0 g d c ρ' D i (q.go s)
 |bad=>rw[e]at q;exact q
 |rt t=>rw[e]at q;exact q
 |rf ts=>rw[e]at q;exact q
 |rn ts us=>rw[e]at q;exact q
 |bk ρ=>rw[e]at q;exact q
 |ct ρ=>rw[e]at q;exact q
 |er C n=>rw[e]at q;exact q
@[simp] noncomputable def eE:En->O:=λρ=>.nx ρ
def BB:MS K E n8 eE:=λF0 H0 F H σ ρ D r q=>q F H σ (.refl _) r
def xP:MS K E qD (λ_=>.bad):=λ_ _ _ _ _ _ _ _ q=>q
def MT.inS(p:MT K E c fc)(r:Sr K F0 H0 F H σ ρ)(q:(O.of (fc (vw ρ)) k).res K E F0 H0 F D)
  (j:∀b d a,dG F d->Sr K F0 H0 d a σ ρ->(k b).res K E F0 H0 d D->Q b a):c σ H Q:=by
 obtain⟨o,s,i,V,e⟩:=r.lend;refine p o H σ (vw ρ) Q i.fh V ((O.res_of q).mono (λb z d a g=>?_) λC n z=>z.go i);obtain⟨l,m,h,_⟩:=e d a g;exact j b l a h (r.grow m) (z.go h)
@[simp] noncomputable def jo(d:Pe->M Bool)(a b:En->O):En->O:=λρ=>.of (d (vw ρ)) λc=>if c then a ρ else b ρ
def Gw{t u:TS}(g:MT K E c fc)(i:MS K E t a)(h:MS K E u b):MS K E (xt c t u) (jo fc a b):=λF0 H0 F H σ ρ D r q=>by
 refine g.inS r q λc k j s e d=>?_;cases c with
 |true=>rw[aQ rfl];exact i _ _ _ _ _ _ _ e d
 |false=>rw[aR aH];exact h _ _ _ _ _ _ _ e d
@[simp] noncomputable def eI(f:Pe->M T):En->O:=λρ=>.of (f (vw ρ)) λt=>.rt t
def EU(h:ME K E t f):MS K E (sO t) (eI f):=λF0 H0 F H σ ρ D r q=>by obtain⟨d,e,a,V,c⟩:=r.lend;exact h d H σ (vw ρ) _ a.fh V ((O.res_of q).mono (λb z=>kV.go z a) λC n z=>z.go a)
@[simp] noncomputable def pJ(f:Pe->M (List T)):En->O:=λρ=>.of (f (vw ρ)) λt=>.rf t
def BY{f:Pe->M (List T)}(h:MF K E t f):MS K E (sO t) (pJ f):=λF0 H0 F H σ ρ D r q=>by obtain⟨d,e,a,V,c⟩:=r.lend;exact h d H σ (vw ρ) _ a.fh V ((O.res_of q).mono (λb z=>kF.go z a) λC n z=>z.go a)
@[simp] noncomputable def nh(i:Nat):En->O:=λρ=>match ρ[i]? with
 |some (some (.o ts))=>.rf ts
 |_=>.bad
def xh:MS K E (sO (gQ i)) (nh i):=λF0 H0 F H σ ρ D r q=>by
 unfold nh at q;split at q
 .rename_i g e;obtain⟨j,h,l⟩:=r.ov;obtain⟨a,b,c,k,d,z⟩:=h i g e;exact⟨_,a,q (j i) k F H r.gr c b d z⟩
 .exact q.elim
def lP{a:Type}{l:List a}{x y:a}(h:(l.set i x)[i]? = some y):y=x:=by
 rw[List.getElem?_set]at h;simp only[if_true]at h;split at h
 .exact (Option.some.inj h).symm
 .cases h
def dR{a:Type}{l:List a}{x y:a}(h:(l.set i x)[j]? = some y):(j=i/\y=x)\/(j≠i/\l[j]? = some y):=by
 by_cases e:j=i
 .subst e;exact .inl ⟨rfl,lP h⟩
 .rw[ar (λz=>e z.symm)]at h;exact .inr ⟨e,h⟩
def qK{a:Type}{l:List a}{x:a}(h:i<l.length):(l.set i x)[i]? = some x:=by rw[List.getElem?_set_self h]
def Sr.setP(r:Sr K F0 H0 F H σ ρ)(h:gK K F v x):Sr K F0 H0 F H (σ.set i (some v)) (ρ.set i (some (.p x))):=by
 obtain⟨C,B,A⟩:=r.ov;refine⟨r.gr,by simp[r.len],λj t e=>?_,⟨C,λj m e=>?_,λj k m I e y=>?_⟩,λe N=>?_,λj l J o q=>?_,r.dv.set λ_ z=>nomatch z⟩
 .have s:j<ρ.length:=by simpa using (aa.mp e).1
  rcases dR e with⟨rfl,q⟩|⟨c,q⟩
  .cases q;exact⟨v,qK (by rw[r.len];exact s),h⟩
  .obtain⟨w,a,b⟩:=r.pv j t q;exact⟨w,by rw[ar (λz=>c z.symm)];exact a,b⟩
 .rcases dR e with⟨rfl,q⟩|⟨c,q⟩
  .cases q
  .obtain⟨a,b⟩:=B j m q;exact⟨by rw[ar (λz=>c z.symm)];exact a,b⟩
 .rcases dR e with⟨rfl,q⟩|⟨c,q⟩
  .cases q
  .rcases dR y with⟨rfl,n⟩|⟨P,n⟩
   .cases n
   .exact A j k m I q n
 .have L:=r.lv e N;refine⟨L.h,L.f,L.z,λj m q=>?_⟩;rcases dR q with⟨rfl,g⟩|⟨c,g⟩
  .cases g
  .rw[ar (λz=>c z.symm)];exact L.d j m g
 .rcases dR q with⟨rfl,g⟩|⟨c,g⟩
  .cases g
  .rw[ar (λz=>c z.symm)];exact r.sl j l J o g
def Sr.setO(r:Sr K F0 H0 F H σ ρ)(g:Gr F H F1 H1)(x:H l=none)(hf:F1 l=none)(hv:H1 l=some (.lst vs))(hr:dM K F1 vs ts) :
  Sr K F0 H0 F1 H1 (σ.set i (some (.ref l))) (ρ.set i (some (.o ts))):=by
 have s:=r.grow g;obtain⟨A,N,_⟩:=r.ov;obtain⟨J,U,h2⟩:=s.ov;have S:∀j m,ρ[j]? = some (some (.o m))->J j≠l:=λj m e z=>by
  obtain⟨a,_⟩:=U j m e;obtain⟨X,_,_,Z,R,_⟩:=N j m e;rw[a]at X;have:J j=A j:=by simpa using X
  rw[<-this,z,x]at R;cases R
 refine⟨s.gr,by simp[r.len],λj t e=>?_,⟨λj=>if j=i then l else J j,λj m e=>?_,λj k m P e Q v=>?_⟩,λe Y=>?_,λj l' B I q=>?_,s.dv.set λ_ z=>nomatch z⟩
 .rcases dR e with⟨rfl,q⟩|⟨c,q⟩
  .cases q
  .obtain⟨w,a,b⟩:=s.pv j t q;exact⟨w,by rw[ar (λz=>c z.symm)];exact a,b⟩
 .have C:j<ρ.length:=by simpa using (aa.mp e).1
  rcases dR e with⟨rfl,q⟩|⟨c,q⟩
  .cases q;dsimp only;rw[aQ rfl];exact⟨qK (by rw[r.len];exact C),hf,dP r.gr.hh x,vs,hv,hr⟩
  .dsimp only;rw[aR c];obtain⟨a,b⟩:=U j m q;exact⟨by rw[ar (λz=>c z.symm)];exact a,b⟩
 .rcases dR e with⟨rfl,q⟩|⟨c,q⟩
  .rcases dR Q with⟨rfl,p⟩|⟨y,p⟩
   .exact absurd rfl v
   .dsimp only;rw[aQ rfl,aR y];exact λz=>S k P p z.symm
  .rcases dR Q with⟨rfl,p⟩|⟨y,p⟩
   .dsimp only;rw[aR c,aQ rfl];exact S j m q
   .dsimp only;rw[aR c,aR y];exact h2 j k m P q p v
 .have L:=s.lv e Y;have L0:=r.lv e Y;refine⟨L.h,L.f,L.z,λj ts q=>?_⟩;rcases dR q with⟨rfl,n⟩|⟨c,n⟩
  .intro z;have z':=lP z;have:e.2.1=l:=by simpa using z'
   rw[<-this,L0.h]at x;cases x
  .rw[ar (λz=>c z.symm)];exact L.d j ts n
 .rcases dR q with⟨rfl,n⟩|⟨c,n⟩
  .cases n
  .rw[ar (λz=>c z.symm)];exact r.sl j l' B I n
@[simp] noncomputable def f9(f:Pe->M T)(ρ:En):M T:=f (mS ρ)
@[simp] noncomputable def mH(f:Pe->M T)(ρ:En):M T:=(f (vw ρ)).bind λt=>if lf t then .ok t else .bad
def ME.inH(h:ME K E t f)(r:Sr K F0 H0 F H σ ρ)(q:(O.of (f9 f ρ) k).res K E F0 H0 F D)
  (c:∀x v a b,Gr F H a b->gK K a v x->Sr K F0 H0 a b σ ρ->(k x).res K E F0 H0 a D->Q v b):t σ H Q:=
 h F H σ (mS ρ) Q r.gr.fh r.vars ((O.res_of q).mono (λx z v a b g d=>c x v a b g d (r.grow g) (z.go g.ff)) λC n z=>z.go r.gr)
def ME.inB(h:ME K E t f)(r:Sr K F0 H0 F H σ ρ)(q:(O.of (mH f ρ) k).res K E F0 H0 F D)
  (o:∀x v b a,Gr F H b a->gK K b v x->Sr K F0 H0 b a σ ρ->(k x).res K E F0 H0 b D->Q v a):t σ H Q:=by
 obtain⟨s,y,l,V,d⟩:=r.lend;refine h s H σ (vw ρ) Q l.fh V ((M.res.unb (O.res_of q)).mono (λx z v b a g w=>?_) λC n z=>z.go l);obtain⟨p,j,m,i,c,_⟩:=d b a g;by_cases e:lf x=true
 .rw[aQ e]at z;exact o x v p a j (w.less i c e) (r.grow j) (O.res.go z m)
 .rw[aR e]at z;exact z.elim
@[simp] noncomputable def setO(i:Nat)(f:En->M T):En->O:=λρ=>.of (f ρ) λt=>.nx (ρ.set i (some (.p t)))
def vL(h:ME K E t f):MS K E (ji t (fH i)) (setO i (f9 f)):=λF0 H0 F H σ ρ D r q=>h.inH r q λx v d b g e c a=>a d b _ (.refl _) (c.setP e)
def BW(h:ME K E t f):MS K E (ji t (fH i)) (setO i (mH f)):=λF0 H0 F H σ ρ D r q=>h.inB r q λx v d b g e c a=>a d b _ (.refl _) (c.setP e)
@[simp] noncomputable def lJ(f:Pe->M (List T))(ρ:En):M (List T):=f (mS ρ)
@[simp] noncomputable def ue(f:Pe->M (List T))(ρ:En):M (List T):=(f (vw ρ)).bind λa=>if AS a then .ok a else .bad
def MF.inH{f:Pe->M (List T)}(h:MF K E t f)(r:Sr K F0 H0 F H σ ρ)(q:(O.of (lJ f ρ) k).res K E F0 H0 F D)
  (j:∀ts l vs e i,Gr F H e i->H l=none->e l=none->i l=some (.lst vs)->dM K e vs ts->(k ts).res K E F0 H0 e D->Q (.ref l) i):t σ H Q:=
 h F H σ (mS ρ) Q r.gr.fh r.vars ((O.res_of q).mono (λts z l vs e i g a b c d=>j ts l vs e i g a b c d (z.go g.ff)) λC n z=>z.go r.gr)
def MF.inB{f:Pe->M (List T)}(h:MF K E t f)(r:Sr K F0 H0 F H σ ρ)(q:(O.of (ue f ρ) k).res K E F0 H0 F D)
  (w:∀ts l vs i e,Gr F H i e->H l=none->i l=none->e l=some (.lst vs)->dM K i vs ts->(k ts).res K E F0 H0 i D->Q (.ref l) e):t σ H Q:=by
 obtain⟨A,B,s,V,o⟩:=r.lend;refine h A H σ (vw ρ) Q s.fh V ((M.res.unb (O.res_of q)).mono (λts z l vs i e g a b c d=>?_) λC n z=>z.go s);obtain⟨x,y,v,m,j,_⟩:=o i e g;by_cases p:AS ts=true
 .rw[aQ p]at z;exact w ts l vs x e y a (dP m b) c (d.less m j p) (O.res.go z v)
 .rw[aR p]at z;exact z.elim
@[simp] noncomputable def jR(i:Nat)(f:En->M (List T)):En->O:=λρ=>.of (f ρ) λa=>.nx (ρ.set i (some (.o a)))
def rQ{f:Pe->M (List T)}(h:MF K E t f):MS K E (ji t (fH i)) (jR i (lJ f)):=λF0 H0 F H σ ρ D r q=>h.inH r q λm l n k j g a b c d e=>e k j _ (.refl _) (r.setO g a b c d)
def BK{f:Pe->M (List T)}(h:MF K E t f):MS K E (ji t (fH i)) (jR i (ue f)):=λF0 H0 F H σ ρ D r q=>h.inB r q λm l n k j g a b c d e=>e k j _ (.refl _) (r.setO g a b c d)
@[simp] noncomputable def qm(f:En->M T):En->O:=λρ=>.of (f ρ) λ_=>.nx ρ
def zj(h:ME K E t f):MS K E (mM t) (qm (f9 f)):=λF0 H0 F H σ ρ D r q=>h.inH r q λx v d b g e c a=>a d b _ (.refl _) c
def Sr.change(r:Sr K F0 H0 F H σ ρ)(e:ρ[i]? = some (some (.o ts)))(hw:dM K F ws us) :
  ∃l vs,σ[i]? = some (some (.ref l))/\H l=some (.lst vs)/\dM K F vs ts/\Sr K F0 H0 F (fw H l (.lst ws)) σ (ρ.set i (some (.o us))):=by
 obtain⟨C,Q,A⟩:=r.ov;obtain⟨a,b,c,vs,d,z⟩:=Q i ts e;refine⟨C i,vs,a,d,z,⟨r.gr.ff,λp u q=>?_,λp u q=>?_,r.gr.nw⟩,by simp[r.len],λj t q=>?_,⟨C,λj s q=>?_,λj k s x q N m=>?_⟩,λP he=>?_,λj Z n B q=>?_,(r.dv.heap (.refl _) λp xs I _=>⟨by assumption,by rw[dH (λz=>by rw[z,d]at I;cases I)];exact I⟩).setR λ_ z=>nomatch z⟩
 .rw[dH (dS q b)];exact r.gr.fh p u q
 .rw[dH (dS q c)];exact r.gr.hh p u q
 .rcases dR q with⟨rfl,g⟩|⟨y,g⟩
  .cases g
  .exact r.pv j t g
 .rcases dR q with⟨rfl,g⟩|⟨y,g⟩
  .cases g;exact⟨a,b,c,ws,dA,hw⟩
  .obtain⟨Y,R,S,n,X,z'⟩:=Q j s g;exact⟨Y,R,S,n,by rw[dH (A j i s ts g e y)];exact X,z'⟩
 .rcases dR q with⟨rfl,g⟩|⟨y,g⟩
  .rcases dR N with⟨rfl,v⟩|⟨U,v⟩
   .exact absurd rfl m
   .exact A j k ts x e v m
  .rcases dR N with⟨rfl,v⟩|⟨U,v⟩
   .exact A j k s ts g e m
   .exact A j k s x g v m
 .have L:=r.lv P he;have J:P.2.1≠C i:=λw=>L.d i ts e (by rw[w];exact a);refine⟨by rw[dH J];exact L.h,L.f,L.z,λj s q=>?_⟩;rcases dR q with⟨rfl,g⟩|⟨y,g⟩
  .exact L.d _ ts e
  .exact L.d j s g
 .rcases dR q with⟨rfl,g⟩|⟨y,g⟩
  .cases g
  .exact r.sl j Z n B g
@[simp] noncomputable def iK(ρ:En)(i:Nat):M (List T):=match ρ[i]? with
 |some (some (.o ts))=>.ok ts
 |_=>.bad
def lI(h:iK ρ i=.ok ts):ρ[i]? = some (some (.o ts)):=by
 unfold iK at h;split at h
 .rename_i a e;cases h;exact e
 .cases h
@[simp] noncomputable def nG(i:Nat)(f:En->M T):En->O:=λρ=>.of (iK ρ i) λa=>.of (f ρ) λt=>if a.length<sizeLine then .nx (ρ.set i (some (.o (a++[t])))) else .bad
def tw(r:Sr K F0 H0 F H σ ρ)(e:ρ[i]? = some (some (.o ts)))(k:gK K F v x)
  (q:(if ts.length<sizeLine then O.nx (ρ.set i (some (.o (ts++[x])))) else .bad).res K E F0 H0 F D):∃l,σ[i]? = some (some (.ref l))/\qO (.ref l) [v] H λ_ H1=>D.nx σ H1:=by
 by_cases g:ts.length<sizeLine
 .rw[aQ g]at q;obtain⟨n,j,_⟩:=r.ov;obtain⟨_,_,_,p,d,z⟩:=j i ts e;obtain⟨l,b,h,c,s,m⟩:=r.change e (z.append (.cons k .nil));have:b=p:=by
   have a:=(j i ts e).1;rw[h]at a;have:l=n i:=by simpa using a
   rw[this,d]at c;cases c;rfl
  subst this;exact⟨l,h,l,b,v,rfl,rfl,c,by rw[z.length];exact g,q F _ _ (.refl _) m⟩
 .rw[aR g]at q;exact q.elim
def Cm(K:W.Frag)(i:Nat)(a:TE):TE:=He K "list" qO (gQ i) (gO a jW)
def A0(w:∀l o H,H l=some (.lst o)->Gg K "list" (.ref l) H)(h:ME K E t f):MS K E (mM (Cm K i t)) (nG i (f9 f)):=λF0 H0 F H σ ρ D r q=>by
 unfold nG at q;cases e:iK ρ i with
 |bad=>rw[e]at q;exact q.elim
 |er C n=>unfold iK at e;split at e<;>cases e
 |ok ts=>rw[e]at q;have c:=lI e;obtain⟨A,s,_⟩:=r.ov;obtain⟨a,_,_,B,d,_⟩:=s i ts c;refine⟨_,a,w _ _ _ d,?_⟩;refine h.inH r q λx v z y g m p k=>?_;obtain⟨l,j,b⟩:=tw p c m k;rw[a]at j;cases j;exact b
@[simp] noncomputable def qF(i:Nat)(b:En->M T)(f:En->M T):En->O:=λρ=>.of (iK ρ i) λa=>.of (f ρ) λt=>.of (b ρ) λk=>match k with
 |.int k=>match sM a.length k with
  |some j=>.nx (ρ.set i (some (.o (a.set j t))))
  |none=>.bad
 |_=>.bad
theorem zX{i:Nat}{ts:List T}{x y:T}{v w:V}{l:Addr}(n:Sr K F0 H0 F H σ ρ)(h:ρ[i]? = some (some (.o ts)))(p:σ[i]? = some (some (.ref l)))(s:gK K F v x)(m:gK K F w y)
  (b:(match y with
   |.int k=>match sM ts.length k with
    |some j=>O.nx (ρ.set i (some (.o (ts.set j x))))
    |none=>.bad
   |_=>.bad).res K E F0 H0 F D):wb (.ref l) w v H λA=>D.nx σ A:=by
 cases m with
 |int k=>
  dsimp only at b;cases e:sM ts.length k with
  |none=>rw[e]at b;exact b.elim
  |some j=>
   rw[e]at b;obtain⟨C,r,_⟩:=n.ov;obtain⟨_,_,_,I,d,z⟩:=r i ts h;obtain⟨J,c,q,g,L,B⟩:=n.change h (z.set s j);rw[p]at q;cases q;have:c=I:=by
    have a:=(r i ts h).1;rw[p]at a;have:l=C i:=by simpa using a
    rw[this,d]at g;cases g;rfl
   subst this;exact⟨l,c,k,j,rfl,rfl,g,by rw[z.length];exact e,b F _ _ (.refl _) B⟩
 |_=>exact b.elim
def Ea(h:ME K E t f)(j:ME K E tk fk):MS K E (ji t (EI (gQ i) tk wb)) (qF i (mH fk) (mH f)):=λF0 H0 F H σ ρ D r q=>by
 unfold qF at q;cases e:iK ρ i with
 |bad=>rw[e]at q;exact q.elim
 |er C n=>unfold iK at e;split at e<;>cases e
 |ok ts=>rw[e]at q;have c:=lI e;obtain⟨I,s,_⟩:=r.ov;have a:=(s i ts c).1;refine h.inB r q λx v A z g m p d=>⟨_,a,?_⟩;exact j.inB p d λy w B J o b l k=>zX l c a (m.mono o.ff) b k
end
end L3
namespace L3
open PySem L2
section
variable {K:W.Frag}{E:XK}{t u ta tb:TE}{f fa fb:Pe->M T}{F0:Fz}{H0 F H F1 H1:Hp}{σ:St}{ρ:En}{D:kR}
structure rm(K:W.Frag)(J:It)(its:List T)(F1:Hp):Prop where
 go:∀i H,dG F1 H->i<its.length->J.go i H
 stop:∀H,dG F1 H->J.stop its.length H
 yld:∀(i:Nat) t F H x H',dG F1 F->dG F H->its[i]? = some t->J.yld i H x H'->∃F',Gr F H F' H'/\gK K F' x t
def kI(K:W.Frag)(F H:Hp)(R:It->Hp->Prop)(a:List T):Prop:=∀J c b,Gr F H c b->rm K J a c->R J b
noncomputable def MI(K:W.Frag)(E:XK)(w:TI)(f:Pe->M (List T)):Prop:=∀F H σ ρ R,dG F H->ie K F σ ρ->(f ρ).res (kI K F H R) (kE E F H)->w σ H R
def Ic(K:W.Frag)(F H:Hp)(R:It->Hp->Prop)(a:List T):Prop:=∀J c b,Gr F H c b->(∀F1,rm K J a F1)->R J b
noncomputable def Gy(K:W.Frag)(E:XK)(w:TI)(f:Pe->M (List T)):Prop:=∀F H σ ρ R,dG F H->ie K F σ ρ->(f ρ).res (Ic K F H R) (kE E F H)->w σ H R
def Gy.mi{f:Pe->M (List T)}(h:Gy K E w f):MI K E w f:=λF H σ ρ R s V q=>h F H σ ρ R s V (q.mono (λb z J a c g i=>z J a c g (i a)) λ_ _ z=>z)
@[simp] noncomputable def G4(fa:Pe->M T):Pe->M (List T):=λρ=>(fa ρ).bind λx=>match x with
 |.lst ts=>.ok ts
 |.scr ns=>.ok (ns.map T.int)
 |_=>.bad
@[simp] noncomputable def HP(fa:Pe->M T):Pe->M (List T):=λρ=>(fa ρ).bind λx=>match x with
 |.tup ts=>.ok ts
 |_=>.bad
def vX(c:ib K F a xs)(r:dM K F xs ts):rm K (G1 K a) ts F where
 go:=λi H s m=>by have e:xs[i]? = some (xs[i]'(by rw[r.length];exact m)):=ag _;exact⟨xs,_,s.seq c,e⟩
 stop:=λH s=>⟨xs,s.seq c,by rw[r.length];exact aK _⟩
 yld:=λi t l H x o g d e y=>by obtain⟨rfl,h⟩:=y;have k:=h xs ((g.trans d).seq c);obtain⟨n,b,j⟩:=r.at_ k;rw[e]at b;cases b;exact⟨l,.refl d,j.mono g⟩
def mq(s:dG F H)(h:F a=some (.tup xs)):jd K H a xs:=jd.of (s _ _ h)
def Dd(c:F a=some (.tup xs))(r:dM K F xs ts):rm K (HI K a) ts F where
 go:=λi H s m=>by have e:xs[i]? = some (xs[i]'(by rw[r.length];exact m)):=ag _;exact⟨xs,_,mq s c,e⟩
 stop:=λH s=>⟨xs,mq s c,by rw[r.length];exact aK _⟩
 yld:=λi t l H x o g d e y=>by obtain⟨rfl,h⟩:=y;have k:=h xs (mq (g.trans d) c);obtain⟨n,b,j⟩:=r.at_ k;rw[e]at b;cases b;exact⟨l,.refl d,j.mono g⟩
def qr(d:ME K E ta fa):MI K E (vI K ta) (G4 fa):=λF H σ ρ R s V q=>by
  refine d.run s V q λx v F1 H1 a c b=>?_;cases c<;>first
    |exact b.elim
    | (rename_i h r
       exact⟨_,rfl,⟨_,ib.of (a.fh _ _ h)⟩,b _ F1 H1 a (vX (ib.of h) r)⟩)
    | (rename_i h
       exact⟨_,rfl,⟨_,a.fh.seq h⟩,b _ F1 H1 a (vX h (dM.of_ints _))⟩)
def Du(d:ME K E ta fa):MI K E (Ek K ta) (HP fa):=λF H σ ρ R s V q=>by
  refine d.run s V q λx v F1 H1 b c a=>?_;cases c<;>first
    |exact a.elim
    | (rename_i h r
       exact⟨_,rfl,⟨_,jd.of (b.fh _ _ h)⟩,a _ F1 H1 b (Dd h r)⟩)
def Hm:(2:Int) ^ 62=4611686018427387904:=by decide +kernel
def HY:(2:Int) ^ 63=9223372036854775808:=by decide +kernel
noncomputable def xI(j:Int):Bool:=decide (j.natAbs<4611686018427387904)
def ni(h:xI j=true):-(2 ^ 62)<=j/\j<2 ^ 62:=by rw[Hm];have:=of_decide_eq_true h;omega
def i7(h:j.natAbs<=1000000):xI j=true:=aC (by omega)
noncomputable def oj(a:Int)(n:Nat):List T:=(List.range n).map λ(i:Nat)=>T.int (a+(i:Int))
def Em F:rm K (Fs lo n) (oj lo n) F where
 go:=λi H s a=>by show i<n;simpa[oj] using a
 stop:=λH s=>by simp[oj,Fs]
 yld:=λi t c H x g d b e y=>by
  obtain⟨rfl,rfl⟩:=y;have a:i<n:=by simpa[oj] using (aa.mp e).1
  have:t=.int (lo+i):=by unfold oj at e;rw[aw,List.getElem?_range a]at e;cases e;rfl
  rw[this];exact⟨c,.refl b,.int _⟩
@[simp] noncomputable def ip(fa:Pe->M (List T)):Pe->M (List T):=λρ=>(fa ρ).bind λa=>match a with
 |[.int j]=>if xI j then .ok (oj 0 j.toNat) else .bad
 |_=>.bad
def A8{ta:TA}{fa:Pe->M (List T)}(h:MA K E ta fa):Gy K E (zS ta) (ip fa):=λF H σ ρ R s V q=>by
 refine h.run s V q λi k F1 H1 g e c=>?_;split at c
 .rename_i j;split at c
  .rename_i d;cases e with
   |cons a b=>cases a;cases b;exact⟨j,rfl,(ni d).1,(ni d).2,c _ F1 H1 g Em⟩
  .exact c.elim
 .exact c.elim
noncomputable def seqB(b:Bool):T->M (List T)
 |.tup ts=>if b then .ok ts else .bad
 |.lst ts=>if b then .bad else .ok ts
 |.scr ns=>if b then .bad else .ok (ns.map T.int)
 |_=>.bad
def qT(r:gK K F v x)(e:seqB b x=.ok ts):∃a c,v=.ref a/\(∀H,dG F H->oW K H b a c)/\dM K F c ts:=by
 cases r<;>try (cases e)
 .rename_i a c g h r;cases b with
  |true=>cases e;exact⟨a,c,rfl,λH s=>by unfold oW;rw[aQ rfl];exact jd.of (s _ _ h),r⟩
  |false=>cases e
 .rename_i a c g h r;cases b with
  |true=>cases e
  |false=>cases e;exact⟨a,c,rfl,λH s=>by unfold oW;rw[aR aH];exact ib.of (s _ _ h),r⟩
 .rename_i a d h;cases b with
  |true=>cases e
  |false=>cases e;exact⟨a,_,rfl,λH s=>by unfold oW;rw[aR aH];exact s.seq h,dM.of_ints d⟩
noncomputable def rG(a b:List T):List T:=(a.zip b).map λp=>T.tup [p.1,p.2]
def E7(k:∀H,dG F H->oW K H b1 l1 xs)(c:dM K F xs ts)(j:∀H,dG F H->oW K H b2 l2 ys)(d:dM K F ys us):rm K (Hv K b1 b2 l1 l2) (rG ts us) F where
 go:=λi H s J=>by
  have a:i<ts.length/\i<us.length:=by simp[rG]at J;omega
  have m:xs[i]? = some (xs[i]'(by rw[c.length];exact a.1)):=ag _;have l:ys[i]? = some (ys[i]'(by rw[d.length];exact a.2)):=ag _;exact⟨xs,ys,_,_,k H s,j H s,m,l⟩
 stop:=λH s=>⟨xs,ys,k H s,j H s,by simp[rG,c.length,d.length];omega⟩
 yld:=λi t N H x L b h e y=>by
  obtain⟨p,A,v,rfl,I,rfl,m,l⟩:=y;obtain⟨n,r,C⟩:=c.at_ (m xs (k H (b.trans h)));obtain⟨q,B,w⟩:=d.at_ (l ys (j H (b.trans h)));have:t=.tup [n,q]:=by unfold rG at e;rw[aw,(List.getElem?_zip_eq_some (z:=(n,q))).mpr ⟨r,B⟩]at e;cases e;rfl
  rw[this];have g:=Gr.new (o:=.tup [A,v]) h I;exact⟨_,g,.tup dA (.cons ((C.mono b).mono g.ff) (.cons ((w.mono b).mono g.ff) .nil))⟩
noncomputable def Es(d e:Bool)(fa:Pe->M (List T)):Pe->M (List T):=λρ=>(fa ρ).bind λc=>match c with
 |[x,y]=>(seqB d x).bind λa=>(seqB e y).bind λb=>.ok (rG a b)
 |_=>.bad
def qR:seqB b x≠.er C n:=by cases x<;>cases b<;>exact λz=>nomatch z
def yO{ta:TA}{fa:Pe->M (List T)}(v:MA K E ta fa):MI K E (DK K b1 b2 ta) (Es b1 b2 fa):=λF H σ ρ R s V q=>by
 refine v.run s V q λz A F1 H1 h k d=>?_;split at d
 .rename_i x y;cases k with
  |cons a b=>
   cases b with
   |cons b c=>
    cases c;cases g:seqB b1 x with
    |bad=>rw[g]at d;exact d.elim
    |er C n=>exact absurd g qR
    |ok ts=>
     rw[g]at d;cases e:seqB b2 y with
     |bad=>simp only[e,M.bind_ok]at d;exact d.elim
     |er C n=>exact absurd e qR
     |ok us=>simp only[e,M.bind_ok]at d;obtain⟨r,o,rfl,j,p⟩:=qT a g;obtain⟨m,l,rfl,i,w⟩:=qT b e;exact⟨r,m,rfl,⟨o,j _ h.fh⟩,⟨l,i _ h.fh⟩,d _ F1 H1 h (E7 j p i w)⟩
 .exact d.elim
def MG(K:W.Frag)(g:TG)(m:T->Pe->Option Pe):Prop:=∀F H σ (ρ:Pe) x t ρ' Q,dG F H->σ.length=ρ.length->ie K F σ ρ->gK K F x t->m t ρ=some ρ'->(∀a,a.length=ρ'.length->ie K F a ρ'->Q a H)->g x σ H Q
def Gq(K:W.Frag)(g:AO)(m:List T->Pe->Option Pe):Prop:=∀F H σ (ρ:Pe) xs ts ρ' Q,dG F H->σ.length=ρ.length->ie K F σ ρ->dM K F xs ts->m ts ρ=some ρ'->(∀a,a.length=ρ'.length->ie K F a ρ'->Q a H)->g xs σ H Q
@[simp] def gR(i:Nat):T->Pe->Option Pe:=λt ρ=>some (ρ.set i (some t))
def ie.set{ρ:Pe}(V:ie K F σ ρ)(d:σ.length=ρ.length)(h:gK K F v x):ie K F (σ.set i (some v)) (ρ.set i (some x)):=λj t e=>by
 have c:j<ρ.length:=by simpa using (aa.mp e).1
 rcases dR e with⟨rfl,q⟩|⟨c,q⟩
 .cases q;exact⟨v,qK (by rw[d];exact c),h⟩
 .obtain⟨w,a,b⟩:=V j t q;exact⟨w,by rw[ar (λz=>c z.symm)];exact a,b⟩
def B8:MG K (fH i) (gR i):=λF H σ ρ x t b Q s a V r e k=>by cases e;exact k _ (by simp[a]) (V.set a r)
@[simp] noncomputable def mm:List T->Pe->Option Pe
 |[],ρ=>some ρ
 |_::_,_=>none
@[simp] def f7(m:T->Pe->Option Pe)(n:List T->Pe->Option Pe):List T->Pe->Option Pe
 |[],_=>none
 |t::ts,ρ=>(m t ρ).bind (n ts)
def Bh:Gq K xf mm:=λF H σ ρ h g d Q s c V r e k=>by
 cases r with
 |nil=>cases e;exact⟨rfl,k σ c V⟩
 |cons a b=>cases e
def yb(w:MG K g m)(p:Gq K gs n):Gq K (nA g gs) (f7 m n):=λF H σ ρ x y c Q s l V r e k=>by
 cases r with
 |nil=>cases e
 |cons a b=>
  rename_i v t j d;have e:(m t ρ).bind (n d)=some c:=e;cases q:m t ρ with
  |none=>rw[q]at e;cases e
  |some ρ1=>rw[q]at e;refine⟨v,j,rfl,w F H σ ρ v t ρ1 _ s l V a q λh i o=>?_⟩;exact p F H h ρ1 j d c Q s i o b e k
@[simp] noncomputable def mw(k:Nat)(m:List T->Pe->Option Pe):T->Pe->Option Pe
 |.tup ts,ρ=>if ts.length=k then m ts ρ else none
 |_,_=>none
def DG(h:Gq K g m):MG K (xw K k g) (mw k m):=λF H σ ρ x t b Q s i V r e q=>by
 cases r with
 |tup hx rs=>
  rename_i a j d;have e:(if d.length=k then m d ρ else none)=some b:=e;by_cases c:d.length=k
  .rw[aQ c]at e;exact⟨_,_,rfl,jd.of (s _ _ hx),by rw[rs.length];exact c,h F H σ ρ _ _ b Q s i V rs e q⟩
  .rw[aR c]at e;cases e
 |_=>cases e
noncomputable def AR(K:W.Frag)(g:TG)(m:T->En->Option En):Prop:=∀F0 H0 F H σ ρ x t b Q,Sr K F0 H0 F H σ ρ->gK K F x t->m t ρ=some b->(∀a,Sr K F0 H0 F H a b->Q a H)->g x σ H Q
noncomputable def yM(K:W.Frag)(g:AO)(m:List T->En->Option En):Prop:=∀F0 H0 F H σ ρ d c b Q,Sr K F0 H0 F H σ ρ->dM K F d c->m c ρ=some b->(∀a,Sr K F0 H0 F H a b->Q a H)->g d σ H Q
@[simp] noncomputable def jA(i:Nat):T->En->Option En:=λt ρ=>some (ρ.set i (some (.p t)))
def ya:AR K (fH i) (jA i):=λF0 H0 F H σ ρ x t a Q s r e k=>by cases e;exact k _ (s.setP r)
@[simp] noncomputable def kU:List T->En->Option En
 |[],ρ=>some ρ
 |_::_,_=>none
@[simp] noncomputable def fX(m:T->En->Option En)(n:List T->En->Option En):List T->En->Option En
 |[],_=>none
 |t::ts,ρ=>(m t ρ).bind (n ts)
def yD:yM K xf kU:=λF0 H0 F H σ ρ g d c Q s r e k=>by
 cases r with
 |nil=>cases e;exact⟨rfl,k σ s⟩
 |cons a b=>cases e
def xi(l:AR K g m)(j:yM K gs n):yM K (nA g gs) (fX m n):=λF0 H0 F H σ ρ p w c Q s r e k=>by
 cases r with
 |nil=>cases e
 |cons a b=>
  rename_i v t i d;have e:(m t ρ).bind (n d)=some c:=e;cases q:m t ρ with
  |none=>rw[q]at e;cases e
  |some ρ1=>rw[q]at e;refine⟨v,i,rfl,l F0 H0 F H σ ρ v t ρ1 _ s a q λh o=>?_⟩;exact j F0 H0 F H h ρ1 i d c Q o b e k
@[simp] noncomputable def lp(k:Nat)(m:List T->En->Option En):T->En->Option En
 |.tup ts,ρ=>if ts.length=k then m ts ρ else none
 |_,_=>none
def Cg(h:yM K g m):AR K (xw K k g) (lp k m):=λF0 H0 F H σ ρ x t b Q s r e q=>by
 cases r with
 |tup hx rs=>
  rename_i a i d;have e:(if d.length=k then m d ρ else none)=some b:=e;by_cases c:d.length=k
  .rw[aQ c]at e;exact⟨_,_,rfl,jd.of (s.gr.fh _ _ hx),by rw[rs.length];exact c,h F0 H0 F H σ ρ _ _ b Q s rs e q⟩
  .rw[aR c]at e;cases e
 |_=>cases e
noncomputable def eX(m:T->En->Option En)(g:En->O):List T->En->O
 |[],ρ=>.nx ρ
 |t::ts,ρ=>match m t ρ with
  |none=>.bad
  |some ρ1=>match g ρ1 with
   |.nx ρ2=>eX m g ts ρ2
   |.ct ρ2=>eX m g ts ρ2
   |.bk ρ2=>.nx ρ2
   |o=>o
theorem nW{tb:TS}{J:It}(hg:AR K g m)(hb:MS K E tb gb){G:Hp->Hp->Prop}(U:∀i F H,G F H->i<its.length->J.go i H)(Q:∀F H,G F H->J.stop its.length H)(R:∀(i:Nat) t F H x c,G F H->its[i]? = some t->J.yld i H x c->∃d,Gr F H d c/\gK K d x t)
  (X:∀d c b ρ',dG F1 d->Sr K F0 H0 d c b ρ'->G d c) (r:Sr K F0 H0 F H σ ρ) (s1:dG F1 F)
  (q:(eX m gb its ρ).res K E F0 H0 F D):∃W:Nat->Nat->St->Hp->Prop,(∃m,W 0 m σ H)/\∀i m σ H,W i m σ H->
 (J.stop i H/\D.nx σ H)\/(J.go i H/\∃N:St->Hp->Prop,(∀b c,N b c->∃m',m'<m/\W (i+1) m' b c)/\∀x c,J.yld i H x c->g x σ c λS H2=>tb {D with nx:=N,ct:=N,bk:=D.nx} S H2):=by
 refine⟨λi k b c=>i<=its.length/\k=its.length-i/\∃d ρ',dG F1 d/\Sr K F0 H0 d c b ρ'/\(eX m gb (its.drop i) ρ').res K E F0 H0 d D,⟨_,bD _,rfl,F,ρ,s1,r,by simpa using q⟩,?_⟩
 rintro i k w I ⟨hi,rfl,L,B,v,p,a⟩
 by_cases h:i<its.length
 .right;refine⟨U i L I (X _ _ _ _ v p) h,λb c=>∃d ρ',dG F1 d/\Sr K F0 H0 d c b ρ'/\(eX m gb (its.drop (i+1)) ρ').res K E F0 H0 d D,λb c z=>⟨its.length-(i+1),by omega,h,rfl,z⟩,λx c y=>?_⟩;have et:=ag h;obtain⟨Z,o,rp⟩:=R i _ L I x c (X _ _ _ _ v p) et y;rw[cz h]at a;unfold eX at a;cases Y:m its[i] B with
  |none=>rw[Y]at a;exact a.elim
  |some ρ3=>
   rw[Y]at a;refine hg F0 H0 Z c w B x _ ρ3 _ (p.grow o) rp Y λb r'=>?_;refine hb F0 H0 Z c b ρ3 _ r' ?_;dsimp only at a;cases j:gb ρ3 with
   |bad=>rw[j]at a;exact a.elim
   |nx ρ4=>rw[j]at a;exact λd P A s l=>⟨d,ρ4,(v.trans o.ff).trans s,l,O.res.go a (o.ff.trans s)⟩
   |ct ρ4=>rw[j]at a;exact λd P A s l=>⟨d,ρ4,(v.trans o.ff).trans s,l,O.res.go a (o.ff.trans s)⟩
   |bk ρ4=>rw[j]at a;exact kN.go a o.ff
   |rt t=>rw[j]at a;exact a
   |rf ts=>rw[j]at a;exact a
   |rn ts us=>rw[j]at a;exact a
   |er C n=>rw[j]at a;exact a
 .left;have e:i=its.length:=by omega
  subst e;refine⟨Q L I (X _ _ _ _ v p),?_⟩;rw[List.drop_length]at a;exact a L I w (.refl _) p
def qi{tb:TS}(j:AR K g m)(k:MS K E tb gb)(b:rm K J its F1)(r:Sr K F0 H0 F H σ ρ)(n:dG F1 F)
  (q:(eX m gb its ρ).res K E F0 H0 F D):∃W:Nat->Nat->St->Hp->Prop,(∃m,W 0 m σ H)/\∀i m σ H,W i m σ H->
 (J.stop i H/\D.nx σ H)\/(J.go i H/\∃N:St->Hp->Prop,(∀c a,N c a->∃h,h<m/\W (i+1) h c a)/\∀x a,J.yld i H x a->g x σ a λd l=>tb {D with nx:=N,ct:=N,bk:=D.nx} d l):=
 nW (G:=λF H=>dG F1 F/\dG F H) j k (λi F H q o=>b.go i H (q.1.trans q.2) o) (λF H q=>b.stop H (q.1.trans q.2)) (λi t F H x a q e y=>b.yld i t F H x a q.1 q.2 e y) (λ_ _ _ _ s r=>⟨s,r.gr.fh⟩) r n q
@[simp] noncomputable def vD(j:Nat)(ts:List T):O->O
 |.nx ρ=>match ρ[j]? with
  |some none=>.nx (ρ.set j (some (.o ts)))
  |_=>.bad
 |.rt t=>.rt t
 |.rf ts=>.rf ts
 |.rn ts us=>.rn ts us
 |.er C n=>.er C n
 |_=>.bad
@[simp] noncomputable def kx(j:Nat)(m:T->En->Option En)(g:En->O):En->O:=λρ=>match ρ[j]? with
 |some (some (.o ts))=>vD j ts (eX m g ts (ρ.set j none))
 |_=>.bad
def Sr.hide(r:Sr K F0 H0 F H σ ρ)(e:ρ[j]? = some (some (.o ts))):∃l vs,σ[j]? = some (some (.ref l))/\H l=some (.lst vs)/\dM K F vs ts/\(∀s∈F0.lt,s.2.1≠l)/\Sr K ⟨F0.hp,(j,l,vs)::F0.lt⟩ H0 F H σ (ρ.set j none):=by
 obtain⟨x,I,J⟩:=r.ov;obtain⟨a,b,c,vs,d,z⟩:=I j ts e;refine⟨x j,vs,a,d,z,λs v w=>(r.lv s v).d j ts e (by rw[w];exact a),r.gr,by simp[r.len],λi t q=>?_,⟨x,λi n q=>?_,λi k n B q N C=>?_⟩,λs v=>?_,λi l A m q=>?_,r.dv.setR λ_ z=>nomatch z⟩
 .rcases dR q with⟨rfl,g⟩|⟨p,g⟩
  .cases g
  .exact r.pv i t g
 .rcases dR q with⟨rfl,g⟩|⟨p,g⟩
  .cases g
  .exact I i n g
 .rcases dR q with⟨rfl,g⟩|⟨p,g⟩
  .cases g
  .rcases dR N with⟨rfl,y⟩|⟨Q,y⟩
   .cases y
   .exact J i k n B g y C
 .rcases aF.mp v with rfl|v
  .refine⟨d,b,c,λi n q w=>?_⟩;rcases dR q with⟨rfl,g⟩|⟨p,g⟩
   .cases g
   .obtain⟨P,_⟩:=I i n g;rw[P]at w;have:x i=x j:=by simpa using w
    exact J i j n ts g e p this
  .have L:=r.lv s v;refine⟨L.h,L.f,L.z,λi n q=>?_⟩;rcases dR q with⟨rfl,g⟩|⟨p,g⟩
   .cases g
   .exact L.d i n g
 .rw[bV]at m;rcases dR q with⟨rfl,g⟩|⟨p,g⟩
  .rw[beq_self_eq_true]at m;cases m;exact a
  .rw[beq_eq_false_iff_ne.mpr p]at m;exact r.sl i l A m g
def Sr.unhide(r:Sr K ⟨F0.hp,(j,l,vs)::F0.lt⟩ H0 F H σ ρ)(e:ρ[j]? = some none)(hr:dM K F vs ts)(R:∀s∈F0.lt,s.2.1≠l):Sr K F0 H0 F H σ (ρ.set j (some (.o ts))):=by
 obtain⟨N,J,Q⟩:=r.ov;have L:=r.lv (j,l,vs) (bh ..);have I:=r.sl j l vs (by rw[bV,beq_self_eq_true]) e;have C:∀i v,ρ[i]? = some (some (.o v))->N i≠l:=λi v q w=>L.d i v q (by rw[(J i v q).1,w]);refine⟨r.gr,by simp[r.len],λi t q=>?_,⟨λi=>if i=j then l else N i,λi c q=>?_,λi k c m q B n=>?_⟩,λs P=>?_,λi S y A q=>?_,r.dv.setR λ_ z=>nomatch z⟩
 .rcases dR q with⟨rfl,a⟩|⟨b,a⟩
  .cases a
  .exact r.pv i t a
 .rcases dR q with⟨rfl,a⟩|⟨b,a⟩
  .cases a;dsimp only;rw[aQ rfl];exact⟨I,L.f,L.z,vs,L.h,hr⟩
  .dsimp only;rw[aR b];exact J i c a
 .rcases dR q with⟨rfl,a⟩|⟨b,a⟩
  .rcases dR B with⟨rfl,g⟩|⟨x,g⟩
   .exact absurd rfl n
   .dsimp only;rw[aQ rfl,aR x];exact λw=>C k m g w.symm
  .rcases dR B with⟨rfl,g⟩|⟨x,g⟩
   .dsimp only;rw[aR b,aQ rfl];exact C i c a
   .dsimp only;rw[aR b,aR x];exact Q i k c m a g n
 .have p:=r.lv s (bj _ P);refine⟨p.h,p.f,p.z,λi c q=>?_⟩;rcases dR q with⟨rfl,a⟩|⟨b,a⟩
  .rw[I];intro w;exact R s P (by simpa using w.symm)
  .exact p.d i c a
 .rcases dR q with⟨rfl,a⟩|⟨b,a⟩
  .cases a
  .exact r.sl i S y (by rw[bV,beq_eq_false_iff_ne.mpr b];exact A) a
theorem xg{tb:TS}(hw:∀σ H R l vs,σ[j]? = some (some (.ref l))->H l=some (.lst vs)->R (G1 K l) H->w σ H R)(N:AR K g m)(S:MS K E tb gb) :
  MS K E (t6 w g tb) (kx j m gb):=λF0 H0 F H σ ρ D r q=>by
 unfold kx at q;split at q
 .rename_i A e;obtain⟨l,vs,a,d,z,X,U⟩:=r.hide e;refine hw σ H _ l vs a d ?_;have B:(eX m gb A (ρ.set j none)).res K E ⟨F0.hp,(j,l,vs)::F0.lt⟩ H0 F D:=by
   cases eo:eX m gb A (ρ.set j none) with
   |bad=>rw[eo]at q;exact q.elim
   |nx ρ2=>
    rw[eo]at q;unfold vD at q;dsimp only at q;split at q
    .rename_i Z;exact λb c o s v=>q b c o s (v.unhide Z (z.mono s) X)
    .exact q.elim
   |rt t=>rw[eo]at q;exact q
   |rf us=>rw[eo]at q;exact q
   |rn A us=>rw[eo]at q;exact q
   |bk ρ2=>rw[eo]at q;exact q.elim
   |ct ρ2=>rw[eo]at q;exact q.elim
   |er C n=>rw[eo]at q;exact q
  refine nW (G:=λb c=>dG F b/\dG b c/\c l=some (.lst vs)) N S (λi b c k hi=>?_) (λb c k=>?_) (λi t b c x I k Y y=>?_) (λb c o L s v=>⟨s,v.gr.fh,(v.lv (j,l,vs) (bh ..)).h⟩) U (.refl _) B
  .have Q:vs[i]? = some (vs[i]'(by rw[z.length];exact hi)):=ag _;exact⟨vs,_,ib.of k.2.2,Q⟩
  .exact⟨vs,ib.of k.2.2,by rw[z.length];exact aK _⟩
  .obtain⟨rfl,J⟩:=y;obtain⟨t',p,P⟩:=z.at_ (J vs (ib.of k.2.2));rw[Y]at p;cases p;exact⟨b,.refl k.2.1,P.mono k.1⟩
 .exact q.elim
@[simp] noncomputable def og(b:Pe->M (List T))(m:T->En->Option En)(g:En->O):En->O:=λρ=>.of (b (mS ρ)) λa=>eX m g a ρ
def EE{tb:TS}(h:MI K E w fi)(c:AR K g m)(d:MS K E tb gb):MS K E (t6 w g tb) (og fi m gb):=λF0 H0 F H σ ρ D r q=>h F H σ (mS ρ) _ r.gr.fh r.vars ((O.res_of q).mono (λe z J j i b a=>qi c d a (r.grow b) (.refl _) (z.go b.ff)) λC n z=>z.go r.gr)
@[simp] noncomputable def lr(b:Pe->M (List T))(m:T->En->Option En)(g:En->O):En->O:=λρ=>.of (b (vw ρ)) λa=>eX m g a ρ
def Bv{tb:TS}(v:Gy K E w fi)(i:AR K g m)(o:MS K E tb gb):MS K E (t6 w g tb) (lr fi m gb):=λF0 H0 F H σ ρ D r q=>by obtain⟨k,x,d,V,a⟩:=r.lend;refine v k H σ (vw ρ) _ d.fh V ((O.res_of q).mono (λs z J l j p c=>?_) λC n z=>z.go d);obtain⟨h,b,e,_⟩:=a l j p;exact qi i o (c h) (r.grow b) (.refl _) (z.go e)
noncomputable def iP(c:Pe->M Bool)(g:En->O):Nat->En->O
 |0,_=>.bad
 |n+1,ρ=>.of (c (vw ρ)) λb=>if b then (match g ρ with
   |.nx ρ2=>iP c g n ρ2
   |.ct ρ2=>iP c g n ρ2
   |.bk ρ2=>.nx ρ2
   |o=>o) else .nx ρ
def zV{tb:TS}(h:En->Nat)(J:MT K E c fc)(L:MS K E tb gb):MS K E (uS c tb) (λρ=>iP fc gb (h ρ) ρ):=λF0 H0 F H σ ρ D r q=>by
 refine⟨λn g o=>∃e d,dG F e/\Sr K F0 H0 e o g d/\(iP fc gb n d).res K E F0 H0 e D,⟨h ρ,F,ρ,.refl _,r,q⟩,?_⟩;rintro n k N ⟨P,m,w,I,v⟩;cases n with
 |zero=>exact v.elim
 |succ n=>
  unfold iP at v;refine J.inS I v λb B x y A a=>?_;cases b with
  |true=>
   rw[aQ rfl]at a ⊢;refine⟨λg o=>∃e d,dG F e/\Sr K F0 H0 e o g d/\(iP fc gb n d).res K E F0 H0 e D,λg o z=>⟨n,bC n,z⟩,?_⟩;refine L F0 H0 B x k m _ A ?_;cases i:gb m with
   |bad=>rw[i]at a;exact a.elim
   |nx ρ4=>rw[i]at a;exact λe p l s j=>⟨e,ρ4,(w.trans y).trans s,j,O.res.go a s⟩
   |ct ρ4=>rw[i]at a;exact λe p l s j=>⟨e,ρ4,(w.trans y).trans s,j,O.res.go a s⟩
   |bk ρ4=>rw[i]at a;exact a
   |rt t=>rw[i]at a;exact a
   |rf ts=>rw[i]at a;exact a
   |rn ts us=>rw[i]at a;exact a
   |er C n=>rw[i]at a;exact a
  |false=>rw[aR aH]at a ⊢;exact a B x k (.refl _) A
@[simp] noncomputable def jk(a:List (Option Nat))(ρ:Pe):Pe:=a.map fun
 |none=>none
 |some j=>(ρ[j]?).getD none
def ie.pull{ρ:Pe}(V:ie K F σ ρ) ix:ie K F (L2.pull ix σ) (jk ix ρ):=λi t e=>by
 unfold jk at e;rw[aw]at e;cases q:ix[i]? with
 |none=>rw[q]at e;cases e
 |some w=>
  rw[q]at e;cases w with
  |none=>cases e
  |some j=>
   have c:(ρ[j]?).getD none=some t:=by simpa using e
   cases z:ρ[j]? with
   |none=>rw[z]at c;cases c
   |some y=>rw[z]at c;have:y=some t:=c;rw[this]at z;obtain⟨v,a,b⟩:=V j t z;refine⟨v,?_,b⟩;unfold L2.pull;rw[aw,q];simp[a]
@[simp] noncomputable def l3(m:T->Pe->Option Pe)(c:Pe->M Bool)(a:Pe->M T)(ρ:Pe)(t:T):M (Option T):=match m t ρ with
 |none=>.bad
 |some ρ1=>(c ρ1).bind λb=>if b then (a ρ1).bind λx=>.ok (some x) else .ok none
noncomputable def j9(k:T->M (Option T)):List T->M (List T)
 |[]=>.ok []
 |t::ts=>(k t).bind λo=>(j9 k ts).bind λr=>.ok (match o with
  |some x=>x::r
  |none=>r)
def AU:XK:=λ_ _ _=>False
def Ds:MT K E DM (λ_=>.ok true):=λF H σ ρ Q s V q=>q F H (.refl s)
theorem Ah{ρ:Pe}(hg:MG K g m)(ht:MT K AU tt ft)(he:ME K AU te fe)(V:ie K F1 σ ρ)
  (d:rm K J its F1) (s:dG F1 H1) (hl:its.length<sizeLine) (q:(j9 (l3 m ft fe (jk ix ρ)) its).res (kF K F1 H1 Q) (λ_ _=>False)):HZ J ix g tt te σ H1 Q:=by
 refine⟨λi k N H=>i<=its.length/\k=its.length-i/\∃S h,Gr F1 H1 S H/\dM K S N h/\h.length<=i/\(j9 (l3 m ft fe (jk ix ρ)) (its.drop i)).res (λZ=>kF K F1 H1 Q (h++Z)) (λ_ _=>False),
  ⟨_,bD _,rfl,F1,[],.refl s,.nil,bD _,by simpa using q⟩,?_⟩
 rintro i k N I ⟨hi,rfl,U,h,c,A,tl,p⟩;by_cases a:i<its.length
 .right;refine⟨d.go i I (c.ff.trans c.fh) a,by rw[A.length];omega,λx B y=>?_⟩;have et:=ag a;obtain⟨F3,o,rp⟩:=d.yld i _ U I x B c.ff c.fh et y;rw[cz a]at p;unfold j9 at p;have j:=M.res.unb p;unfold l3 at j;cases R:m its[i] (jk ix ρ) with
  |none=>rw[R]at j;exact j.elim
  |some ρ3=>
   rw[R]at j;have l:=c.trans o;have V3:=(V.mono l.ff).pull ix;refine hg F3 B _ _ x _ ρ3 _ o.fh (by simp[L2.pull,jk]) V3 rp R λr hl' X=>?_;have q4:=M.res.unb j;refine ht F3 B r ρ3 _ o.fh X (q4.mono (λb z F4 H4 n=>?_) λ_ _ z=>z.elim);cases b with
   |true=>rw[aQ rfl]at z ⊢;have q5:=M.res.unb z;refine he F4 H4 r ρ3 _ n.fh (X.mono n.ff) (q5.mono (λx' z' v F5 H5 Y L=>?_) λ_ _ z=>z.elim);refine⟨its.length-(i+1),by omega,a,rfl,F5,h++[x'],(l.trans n).trans Y,(A.mono (o.ff.trans (n.ff.trans Y.ff))).append (.cons L .nil),by simp;omega,?_⟩;have C:=M.res.unb z';exact C.mono (λZ w=>by rw[bP];exact w) λ_ _ w=>w
   |false=>rw[aR aH]at z ⊢;refine⟨its.length-(i+1),by omega,a,rfl,F4,h,l.trans n,A.mono (o.ff.trans n.ff),by omega,?_⟩;exact M.res.unb z
 .left;have e:i=its.length:=by omega
  subst e;rw[List.drop_length]at p;refine⟨d.stop I (c.ff.trans c.fh),λD P=>?_⟩;have j:kF K F1 H1 Q h:=by simpa[j9,M.res] using p
  exact j D N U _ (c.trans (.new' c.fh P)) (dP c.hh P) (dP c.fh P) dA A
def CO(i:MI K E w fi)(d:MG K g m)(h:MT K AU tt ft)(j:ME K AU te fe) :
  MF K E (zL ix w g tt te) (λρ=>(fi ρ).bind λa=>(if a.length<sizeLine then j9 (l3 m ft fe (jk ix ρ)) a else .bad).noEr):=λF H σ ρ Q s V q=>by
 refine i F H σ ρ _ s V ((M.res.unb q).mono (λa z J l k c b=>?_) λ_ _ z=>z);split at z
 .rename_i e;exact Ah d h j (V.mono c.ff) b c.fh e (z.noEr.mono (λ_ w=>w.go c) λ_ _ w=>w)
 .exact z.elim
end
end L3
namespace L3
open PySem L2
section
variable {K:W.Frag}{E:XK}{t u ta tb:TE}{f fa fb:Pe->M T}{F0:Fz}{H0 F H F1 H1:Hp}{σ:St}{ρ:En}{D:kR}
noncomputable def lG(K:W.Frag)(F:List T->M T):Sp:=λb H Q E=>∃a F0,dG F0 H/\dM K F0 b a/\(F a).res (kV K F0 H Q) (kE E F0 H)
noncomputable def tP(K:W.Frag)(F:List T->M (List T)):Sp:=λb H Q E=>∃a F0,dG F0 H/\dM K F0 b a/\(F a).res (kF K F0 H Q) (kE E F0 H)
@[simp] noncomputable def ve(fa:Pe->M (List T))(F:List T->M T):Pe->M T:=λρ=>(fa ρ).bind F
@[simp] noncomputable def dD(fa:Pe->M (List T))(F:List T->M T):Pe->M T:=λρ=>(fa ρ).bind λa=>(F a).noEr
@[simp] noncomputable def lz(fa:Pe->M (List T))(F:List T->M (List T)):Pe->M (List T):=λρ=>(fa ρ).bind λa=>(F a).noEr
section
variable {tr:TA}{fr:Pe->M (List T)}{Fn:List T->M T}{Ff:List T->M (List T)}{E':XK}
def AX(e:MA K E tr fr):ME K E (lj (lG K Fn) [] E tr) (ve fr Fn):=λF H σ ρ Q s V q=>by refine e.run s V q λb g F1 H1 a c d=>?_;exact⟨b,F1,a.fh,by rw[bE];exact c,d.mono (λ_ z=>z.go a) λ_ _ z=>z⟩
def sk(e:MA K E tr fr):ME K E (lj (lG K Fn) [] E' tr) (dD fr Fn):=λF H σ ρ Q s V q=>by refine e.run s V q λb g F1 H1 a c d=>?_;exact⟨b,F1,a.fh,by rw[bE];exact c,(d.mono (λ_ z=>kV.go z a) λ_ _ z=>z).noEr⟩
def xQ(e:MA K E tr fr):MF K E (lj (tP K Ff) [] E' tr) (lz fr Ff):=λF H σ ρ Q s V q=>by refine e.run s V q λb g F1 H1 a c d=>?_;exact⟨b,F1,a.fh,by rw[bE];exact c,(d.mono (λ_ z=>kF.go z a) λ_ _ z=>z).noEr⟩
@[simp] noncomputable def mG(C:Addr)(m:Str)(x:T):M Unit:=match x with
 |.obj C' fs=>if C'=C/\fs.lookup m=none then .ok () else .bad
 |_=>.bad
@[simp] noncomputable def mJ(C:Addr)(m:Str)(b:Pe->M T)(fr:Pe->M (List T))(F:List T->M T):Pe->M T:=λρ=>(b ρ).bind λx=>(mG C m x).bind λ_=>(fr ρ).bind λa=>(F (x::a)).noEr
@[simp] noncomputable def nE(C:Addr)(m:Str)(b:Pe->M T)(fr:Pe->M (List T))(F:List T->M (List T)):Pe->M (List T):=λρ=>(b ρ).bind λx=>(mG C m x).bind λ_=>(fr ρ).bind λa=>(F (x::a)).noEr
def vt(r:gK K F v x)(e:mG C m x=.ok ()):∃a dx fs,v=.ref a/\F a=some (.ins C dx fs)/\fs.lookup m=none:=by
 cases r with
 |obj h rs=>
  rename_i a b dx fs d;have e:(if b=C/\List.lookup m d=none then M.ok () else M.bad)=.ok ():=e;by_cases c:b=C/\List.lookup m d=none
  .obtain⟨rfl,g⟩:=c;exact⟨a,dx,fs,rfl,h,rs.none_ g⟩
  .rw[aR c]at e;cases e
 |_=>cases e
def vA:mG C m x≠.er C' n:=by
 unfold mG;split
 .split<;>exact λz=>nomatch z
 .exact λz=>nomatch z
def xO(r:ME K E ta fa)(hr:MA K E tr fr):ME K E (pY C m (lG K Fn) [] E' ta tr) (mJ C m fa fr Fn):=λF H σ ρ Q s V q=>by
 refine r.run s V q λx v F1 H1 b g c=>?_;cases e:mG C m x with
 |bad=>rw[e]at c;exact c.elim
 |er C n=>exact absurd e vA
 |ok u=>rw[e]at c;obtain⟨a,i,fs,rfl,h,l⟩:=vt g e;refine⟨a,i,fs,rfl,b.fh _ _ h,l,?_⟩;refine hr.run b.fh (V.mono b.ff) c λo w p y d k j=>?_;exact⟨x::o,p,d.fh,by rw[bE];exact .cons (g.mono d.ff) k,(j.mono (λ_ z=>kV.go z (b.trans d)) λ_ _ z=>z).noEr⟩
def zu(r:ME K E ta fa)(hr:MA K E tr fr):MF K E (pY C m (tP K Ff) [] E' ta tr) (nE C m fa fr Ff):=λF H σ ρ Q s V q=>by
 refine r.run s V q λx v F1 H1 b g c=>?_;cases e:mG C m x with
 |bad=>rw[e]at c;exact c.elim
 |er C n=>exact absurd e vA
 |ok u=>rw[e]at c;obtain⟨a,i,fs,rfl,h,l⟩:=vt g e;refine⟨a,i,fs,rfl,b.fh _ _ h,l,?_⟩;refine hr.run b.fh (V.mono b.ff) c λo w p y d k j=>?_;exact⟨x::o,p,d.fh,by rw[bE];exact .cons (g.mono d.ff) k,(j.mono (λ_ z=>kF.go z (b.trans d)) λ_ _ z=>z).noEr⟩
end
@[simp] noncomputable def Hw:O->M T
 |.nx _=>.ok .non
 |.rt t=>.ok t
 |.rf ts=>.ok (.lst ts)
 |.rn ts us=>.ok (.tup (ts++[.lst us]))
 |.er C n=>.er C n
 |_=>.bad
@[simp] noncomputable def Hz:O->M (List T)
 |.rf ts=>.ok ts
 |.er C n=>.er C n
 |_=>.bad
@[simp] noncomputable def ee(n:Nat)(ts:List T):En:=ts.map (λt=>some (W.p t))++List.replicate (n-ts.length) none
@[simp] noncomputable def je(k n:Nat)(g:En->O):List T->M T:=λa=>if a.length=k then Hw (g (ee n a)) else .bad
@[simp] noncomputable def wZ(k n:Nat)(g:En->O):List T->M (List T):=λa=>if a.length=k then Hz (g (ee n a)) else .bad
def pN{n i:Nat}(e:(ee n ts)[i]? = some (some (.d kvs))):False:=by
 unfold ee at e;rw[List.getElem?_append]at e;split at e
 .rw[aw]at e;cases q:ts[i]? with
  |none=>rw[q]at e;cases e
  |some x=>rw[q]at e;cases e
 .rw[List.getElem?_replicate]at e;split at e<;>cases e
def ou(s:dG F H)(r:dM K F vs ts):Sr K ⟨F,[]⟩ H F H (fT N vs) (ee N.length ts):=by
 refine⟨.refl s,?_,λi t e=>?_,⟨λ_=>0,λi g e=>?_,λi j g m e=>?_⟩,λ_ l=>(nomatch l),λ_ _ _ h=>(by cases h),⟨λi c e=>(pN e).elim,λi j c d e=>(pN e).elim⟩⟩
 .simp[L2.fT,ee,r.length]
 .unfold ee at e;rw[List.getElem?_append]at e;split at e
  .rename_i k;rw[aw]at e;cases q:ts[i]? with
   |none=>rw[q]at e;cases e
   |some x=>rw[q]at e;cases e;obtain⟨v,a,b⟩:=r.get q;refine⟨v,?_,b⟩;unfold L2.fT;rw[List.getElem?_append_left (by simpa[r.length] using k),aw,a];rfl
  .rw[List.getElem?_replicate]at e;split at e<;>cases e
 .exfalso;unfold ee at e;rw[List.getElem?_append]at e;split at e
  .rw[aw]at e;cases q:ts[i]? with
   |none=>rw[q]at e;cases e
   |some x=>rw[q]at e;cases e
  .rw[List.getElem?_replicate]at e;split at e<;>cases e
 .exfalso;unfold ee at e;rw[List.getElem?_append]at e;split at e
  .rw[aw]at e;cases q:ts[i]? with
   |none=>rw[q]at e;cases e
   |some x=>rw[q]at e;cases e
  .rw[List.getElem?_replicate]at e;split at e<;>cases e
def oo(h:lG K (je k n g) vs H Q E):vs.length=k:=by
 obtain⟨b,F0,s,r,q⟩:=h;unfold je at q;by_cases a:b.length=k
 .rw[r.length];exact a
 .rw[aR a]at q;exact q.elim
def nr{t:TS}(l:MS K E t g)(h:lG K (je k N.length g) vs H Q E):t {nx:=λ_ b=>Q .non b,rt:=Q} (fT N vs) H:=by
 obtain⟨a,F0,s,r,q⟩:=h;unfold je at q;by_cases c:a.length=k
 .rw[aQ c]at q;refine l ⟨F0,[]⟩ H F0 H _ _ _ (ou s r) ?_;cases e:g (ee N.length a) with
  |bad=>rw[e]at q;exact q
  |nx ρ=>rw[e]at q;exact λj b d _ i=>q .non j b i.gr .non
  |rt t=>rw[e]at q;exact q
  |rf a=>rw[e]at q;exact kF.of q
  |rn a us=>rw[e]at q;exact kT.of q
  |bk ρ=>rw[e]at q;exact q.elim
  |ct ρ=>rw[e]at q;exact q.elim
  |er C n=>rw[e]at q;exact q
 .rw[aR c]at q;exact q.elim
def vz(h:tP K (wZ k n g) vs H Q E):vs.length=k:=by
 obtain⟨b,F0,s,r,q⟩:=h;unfold wZ at q;by_cases a:b.length=k
 .rw[r.length];exact a
 .rw[aR a]at q;exact q.elim
def tE{t:TS}(d:MS K E t g)(h:tP K (wZ k N.length g) vs H Q E):t {nx:=λ_ c=>Q .non c,rt:=Q} (fT N vs) H:=by
 obtain⟨a,F0,s,r,q⟩:=h;unfold wZ at q;by_cases b:a.length=k
 .rw[aQ b]at q;refine d ⟨F0,[]⟩ H F0 H _ _ _ (ou s r) ?_;cases e:g (ee N.length a) with
  |bad=>rw[e]at q;exact q
  |nx ρ=>rw[e]at q;exact q.elim
  |rt t=>rw[e]at q;exact q.elim
  |rf a=>rw[e]at q;exact q
  |rn a us=>rw[e]at q;exact q.elim
  |bk ρ=>rw[e]at q;exact q.elim
  |ct ρ=>rw[e]at q;exact q.elim
  |er C n=>rw[e]at q;exact q
 .rw[aR b]at q;exact q.elim
@[simp] noncomputable def sS(C:Addr)(x:Str)(fa:Pe->M T):Pe->M T:=λρ=>(fa ρ).bind λo=>match o with
 |.obj C' fs=>if C'=C then (match fs.lookup x with
  |some t=>.ok t
  |none=>.bad) else .bad
 |_=>.bad
def C3(m:pR K C)(r:gY K C x)(n:ME K E ta fa):ME K E (Ef K ta x) (sS C x fa):=λF H σ ρ Q s V q=>by
 refine n.run s V q λo v F1 H1 d j b=>?_;cases j with
 |obj h rs=>
  rename_i a c i fs l;dsimp only at b;by_cases g:c=C
  .subst g;rw[aQ rfl]at b;cases e:List.lookup x l with
   |none=>rw[e]at b;exact b.elim
   |some y=>rw[e]at b;obtain⟨w,k,p⟩:=rs.look e;exact⟨a,c,i,fs,w,rfl,d.fh _ _ h,m,r,k,b w F1 H1 d p⟩
  .rw[aR g]at b;exact b.elim
 |_=>exact b.elim
end
end L3
namespace L3
open PySem L2 PySem.Spec PyProof.Rows
structure Pm(K:W.Frag)(E:XK)(X:Cx)(e:Expr)(t:TE)(f:Pe->M T):Prop where
 pe:PE X e t
 me:ME K E t f
structure xq(K:W.Frag)(E:XK)(X:Cx)(e:Expr)(t:TE)(f:Pe->M (List T)):Prop where
 pe:PE X e t
 mf:MF K E t f
structure vW(K:W.Frag)(E:XK)(X:Cx)(e:Expr)(t:TT)(f:Pe->M Bool):Prop where
 pt:PT X e t
 mt:MT K E t f
structure DH(K:W.Frag)(E:XK)(X:Cx)(e:Expr)(t:TT)(f:Pe->M Bool):Prop where
 pw:PW X e t
 mt:MT K E t f
structure rR(K:W.Frag)(E:XK)(X:Cx)(es:List Expr)(t:TA)(f:Pe->M (List T)):Prop where
 pa:PA X es t
 ma:MA K E t f
structure Ci(K:W.Frag)(E:XK)(X:Cx)(tg it:Expr)(w:TI)(f:Pe->M (List T)):Prop where
 pi:PI X tg it w
 mi:MI K E w f
structure r0(K:W.Frag)(E:XK)(X:Cx)(tg it:Expr)(w:TI)(f:Pe->M (List T)):Prop where
 pi:PI X tg it w
 mi:Gy K E w f
structure Fi(K:W.Frag)(X:Cx)(tg:Expr)(g:TG)(m:T->Pe->Option Pe):Prop where
 pg:PG X tg g
 mg:MG K g m
structure Bz(K:W.Frag)(X:Cx)(tg:List Expr)(g:AO)(m:List T->Pe->Option Pe):Prop where
 pg:Fh X tg g
 mg:Gq K g m
structure EM(K:W.Frag)(X:Cx)(tg:Expr)(g:TG)(m:T->En->Option En):Prop where
 pg:PG X tg g
 mg:AR K g m
structure Ba(K:W.Frag)(X:Cx)(tg:List Expr)(g:AO)(m:List T->En->Option En):Prop where
 pg:Fh X tg g
 mg:yM K g m
structure nZ(K:W.Frag)(E:XK)(X:Cx)(st:Stmt)(t:TS)(g:En->O):Prop where
 ps:PS X st t
 ms:MS K E t g
structure ju(K:W.Frag)(E:XK)(X:Cx)(sts:List Stmt)(t:TS)(g:En->O):Prop where
 ps:mW X sts t
 ms:MS K E t g
noncomputable def MO(K:W.Frag)(E:XK)(t:TO)(f:Pe->M (Option Int)):Prop:=∀F H c a Q,dG F H->ie K F c a->(f a).res (λo=>∀d b,Gr F H d b->Q o b) (kE E F H)->t c H Q
structure GY(K:W.Frag)(E:XK)(X:Cx)(e:Oq Expr)(t:TO)(f:Pe->M (Option Int)):Prop where
 po:PO X e t
 mo:MO K E t f
structure yo(K:W.Frag)(E:XK)(X:Cx)(es:List Expr)(t:TT)(f:Pe->M Bool):Prop where
 pf:wN X es t
 mt:MT K E t f
section
variable {K:W.Frag}{E:XK}{X:Cx}{a b c e o:Expr}{es:List Expr}{ta tb tc te to:TE}{fa fb fc fe fo:Pe->M T}{tr:TA}{fr:Pe->M (List T)}{pos p p2 apos:Pos}
def dC i (h:X.N[i]? = some x:=by rfl) (f:GK X.env.scope x:=by first|exact Or.inl rfl|exact Or.inr (Or.inl rfl)|exact Or.inr (Or.inr rfl)) (g:(x==("__debug__" : Str))=false:=by decide)
  (d:(x==("__classdict__" : Str))=false:=by decide):Pm K E X (.Name x pos) (gQ i) (dk i):=⟨pv i h f g d,EZ⟩
def fG{j pos}:Pm K E X (.Constant (.int i) j pos) (tC (.int i)) (cM (.int i)):=⟨AM,xR λ_=>.int i⟩
def FO{b:Bool}{j pos}:Pm K E X (.Constant (.bool b) j pos) (tC (.bl b)) (cM (.bl b)):=⟨za,xR λ_=>.bl b⟩
def uR{j pos}:Pm K E X (.Constant .none j pos) (tC .non) (cM .non):=⟨ET,xR λ_=>.non⟩
def yI{j pos}:Pm K E X (.Constant (.str x) j pos) (tC (.str x)) (cM (.str x)):=⟨gJ,xR λ_=>.str x⟩
def tf i (d:∃t,X.mg x=some (.int i t)) (g:Gl X x:=by rfl) (f:(x==("__debug__" : Str))=false:=by decide):Pm K E X (.Name x pos) (tC (.int i)) (cM (.int i)):=let ⟨t,h⟩:=d;⟨gG g h ⟨t,rfl⟩ f,xR λ_=>.int i⟩
def fR(h:xq K E X e te f):Pm K E X e te (λρ=>(f ρ).bind λts=>.ok (.lst ts)):=⟨h.pe,h.mf.me⟩
def pS(g:kS X (binaryOp op) r)(hr:MR K r m)(d:Pm K E X a ta fa)(f:Pm K E X b tb fb):Pm K E X (.BinOp a op b pos) (mY r ta tb) (dI m fa fb):=⟨sG g d.pe f.pe,vP hr d.me f.me⟩
def yz(K:W.Frag):R2:=λx y H Q=>(ub λi j=>.int (i+j)) x y H Q\/(∃i j,x=.str i/\y=.str j/\i.length+j.length<=sizeLine/\Q (.str (i++j)) H)\/Cz x y H Q\/
 ∃a b d f,x=.ref a/\y=.ref b/\H a=some (.tup d)/\H b=some (.tup f)/\d.length+f.length<=sizeLine/\(d=[]->Q (.ref b) H)/\(d≠[]->f=[]->Q (.ref a) H)/\(d≠[]->f≠[]->∀p,H p=none->Q (.ref p) (fw H p (.tup (d++f))))
def Bc(hK:X.K=K:=by rfl):kS X (binaryOp .Add) (yz K):=by
 subst hK;intro i s j H x y v u Q I d f h;rcases h with h|h|h|h
 .exact DB i s j H x y v u Q I d f h
 .exact uj i s j H x y v u Q I d f h
 .exact rH i s j H x y v u Q I d f h
 .obtain⟨a,b,n,P,rfl,rfl,w,r,hz,N,A,L⟩:=h;by_cases g:n=[]
  .subst g;cases d;cases f;obtain⟨U,z,C,_⟩:=I.tuple (jd.of w);obtain⟨t,r2,p2,_⟩:=I.tuple (jd.of r);cases z;obtain⟨⟨c1,J,e1,s1⟩,m,Y,R,k⟩:=id C;obtain⟨⟨c2,B,e2,D⟩,q,k2,Z,l⟩:=id p2;subst Y k k2 l;exact concat_meets ⟨_,m,rfl⟩ ⟨_,q,rfl⟩ noFill_tuple_add seq_tuple_add PySem.F.slot_tuple_add PySem.F.entry_tuple_add (PySem.F.args_tuple_add_2 _ _) (tuple_addW0 a b _ _ R Z J B s1 D (by simp)) ⟨m,q,⟨.ref b,H,I,rfl,N rfl⟩⟩
  .exact BF i s j H _ _ v u Q I d f ⟨a,b,n,P,rfl,rfl,jd.of w,jd.of r,g,hz,λe=>A g e,λe p S=>L g e p S⟩
noncomputable def fO:T->T->M T
 |.int i,.int j=>.ok (.int (i+j))
 |.str i,.str j=>if i.length+j.length<=sizeLine then .ok (.str (i++j)) else .bad
 |.lst a,.lst b=>if a.length+b.length<=sizeLine then .ok (.lst (a++b)) else .bad
 |.tup a,.tup b=>if a.length+b.length<=sizeLine then .ok (.tup (a++b)) else .bad
 |_,_=>.bad
def Bd x y:M.NoE (fO x y):=λC n=>by unfold fO;split<;>first|(intro z;cases z;done)|(split<;>intro z<;>cases z)
def AZ:MR K (yz K) fO:=⟨Bd,λF H v w x y Q s r l q=>by
 cases r with
 |int i=>
  cases l with
  |int j=>exact .inl ⟨i,j,rfl,rfl,kV.now q s (.int _)⟩
  |_=>exact q.elim
 |str i=>
  cases l with
  |str j=>
   have d:(if i.length+j.length<=sizeLine then M.ok (T.str (i++j)) else M.bad).res (kV K F H Q) (λ_ _=>False):=q;by_cases h:i.length+j.length<=sizeLine
   .rw[aQ h]at d;exact .inr (.inl ⟨i,j,rfl,rfl,h,kV.now d s (.str _)⟩)
   .rw[aR h]at d;exact d.elim
  |_=>exact q.elim
 |lst h1 r1=>
  cases l with
  |lst h2 r2=>
   rename_i a m f b n g;have d:(if f.length+g.length<=sizeLine then M.ok (T.lst (f++g)) else M.bad).res (kV K F H Q) (λ_ _=>False):=q;by_cases h:f.length+g.length<=sizeLine
   .rw[aQ h]at d;refine .inr (.inr (.inl ⟨a,b,m,n,rfl,rfl,s _ _ h1,s _ _ h2,by rw[r1.length,r2.length];exact h,λp k=>?_⟩));exact d (.ref p) _ _ (.new s k) (.lst dA ((r1.append r2).mono (Gr.new s k).ff))
   .rw[aR h]at d;exact d.elim
  |_=>exact q.elim
 |tup h1 r1=>
  cases l with
  |tup h2 r2=>
   rename_i a m f b n g;have d:(if f.length+g.length<=sizeLine then M.ok (T.tup (f++g)) else M.bad).res (kV K F H Q) (λ_ _=>False):=q;by_cases h:f.length+g.length<=sizeLine
   .rw[aQ h]at d;refine .inr (.inr (.inr ⟨a,b,m,n,rfl,rfl,s _ _ h1,s _ _ h2,by rw[r1.length,r2.length];exact h,λe=>?_,λ_ e=>?_,λ_ _ p k=>?_⟩))
    .subst e;cases r1;exact kV.now d s (.tup h2 r2)
    .subst e;cases r2;exact kV.now d s (.tup h1 (by rw[bE];exact r1))
    .exact d (.ref p) _ _ (.new s k) (.tup dA ((r1.append r2).mono (Gr.new s k).ff))
   .rw[aR h]at d;exact d.elim
  |_=>exact q.elim
 |_=>exact q.elim⟩
def uq(d:Pm K E X a ta fa)(g:Pm K E X b tb fb)(f:X.K=K:=by rfl):Pm K E X (.BinOp a .Add b pos) (mY (yz K) ta tb) (dI fO fa fb):=pS (Bc f) AZ d g
@[simp] noncomputable def qM(fa fb:Pe->M T):Pe->M (List T):=λd=>(fa d).bind λx=>(fb d).bind λy=>match x,y with
 |.lst a,.lst b=>if a.length+b.length<=sizeLine then .ok (a++b) else .bad
 |_,_=>.bad
def qZ(t:Pm K E X a ta fa)(r:Pm K E X b tb fb):xq K E X (.BinOp a .Add b pos) (mY Cz ta tb) (qM fa fb):=by
 refine⟨sG rH t.pe r.pe,λF H L N Q s V q=>?_⟩;refine t.me.run s V q λx v J I j u B=>?_;refine r.me.run j.fh (V.mono j.ff) B λy w n D d z i=>?_;cases u with
 |lst h1 t1=>
  cases z with
  |lst h2 t2=>
   rename_i a A k b C l;have g:(if k.length+l.length<=sizeLine then M.ok (k++l) else M.bad).res (kF K F H Q) (kE E n D):=i;by_cases h:k.length+l.length<=sizeLine
   .rw[aQ h]at g;refine⟨a,b,A,C,rfl,rfl,d.fh _ _ (d.ff _ _ h1),d.fh _ _ h2,by rw[t1.length,t2.length];exact h,λp m=>?_⟩;have f:=j.trans d;exact g p _ n _ (f.trans (.new' d.fh m)) (dP f.hh m) (dP d.fh m) dA ((t1.mono d.ff).append t2)
   .rw[aR h]at g;exact g.elim
  |_=>exact i.elim
 |_=>exact i.elim
noncomputable def nO:T->T->M T:=hZ (λ_ _=>true) λi j=>.int (i-j)
def tR(f:Pm K E X a ta fa)(d:Pm K E X b tb fb):Pm K E X (.BinOp a .Sub b pos) (mY (ub λi j=>.int (i-j)) ta tb) (dI nO fa fb):=pS C9 (lM λ_ _ _=>.int _) f d
instance {i j:Int}:Decidable (PySem.IntMulOk i j):=inferInstanceAs (Decidable (¬_))
noncomputable def iR:T->T->M T:=hZ (λi j=>decide (PySem.IntMulOk i j)) λi j=>.int (i*j)
def Df(f:Pm K E X a ta fa)(d:Pm K E X b tb fb):Pm K E X (.BinOp a .Mult b pos) (mY (rI (λi j=>PySem.IntMulOk i j) λi j=>.int (i*j)) ta tb) (dI iR fa fb):=pS Br (rO (λi j h=>of_decide_eq_true h) λ_ _ _=>.int _) f d
noncomputable def nM:T->T->M T:=hZ (λi j=>decide (j≠0)&&!Builtin.divisionGoesByPylong i j) λi j=>.int (i.fdiv j)
def A9(f:Pm K E X a ta fa)(d:Pm K E X b tb fb):Pm K E X (.BinOp a .FloorDiv b pos) (mY (rI (λi j=>j≠0/\Builtin.divisionGoesByPylong i j=false) λi j=>.int (i.fdiv j)) ta tb) (dI nM fa fb):=pS yF (rO (λi j h=>by simpa using h) λ_ _ _=>.int _) f d
noncomputable def n5:T->T->M T:=hZ (λ_ j=>decide (j≠0)) λi j=>.int (i.fmod j)
def DP(f:Pm K E X a ta fa)(d:Pm K E X b tb fb):Pm K E X (.BinOp a .Mod b pos) (mY (rI (λ_ j=>j≠0) λi j=>.int (i.fmod j)) ta tb) (dI n5 fa fb):=pS Bi (rO (λi j h=>by simpa using h) λ_ _ _=>.int _) f d
noncomputable def Ag:T->T->M T:=hZ (λi j=>decide (0<=j)&&decide (j<=1000000)&&decide (i.natAbs<18446744073709551616)) λi j=>.int (i ^ j.toNat)
def Ax(f:Pm K E X a ta fa)(d:Pm K E X b tb fb):Pm K E X (.BinOp a .Pow b pos) (mY (rI Gc λi j=>.int (i ^ j.toNat)) ta tb) (dI Ag fa fb):=pS Dm (rO (λi j h=>by simp only[bM,decide_eq_true_eq]at h;exact⟨h.1.1,h.1.2,h.2⟩) λ_ _ _=>.int _) f d
def E1(d:Pm K E X a ta fa):Pm K E X (.UnaryOp .USub a pos) (HH (rU λi=>.int (-i)) ta) (xK (λi=>.int (-i)) fa):=⟨GO Dg d.pe,FV (λ_ _=>.int _) d.me⟩
@[simp] noncomputable def Ai(fa fb:Pe->M T):Pe->M (List T):=λd=>(fa d).bind λx=>(fb d).bind λy=>match x,y with
 |.lst a,.int k=>if xI k=true/\a.length*k.toNat<=sizeLine then .ok (List.replicate k.toNat a).flatten else .bad
 |_,_=>.bad
def Ei(t:Pm K E X a ta fa)(r:Pm K E X b tb fb):xq K E X (.BinOp a .Mult b pos) (mY Gs ta tb) (Ai fa fb):=by
 refine⟨sG EW t.pe r.pe,λF H J L Q s V q=>?_⟩;refine t.me.run s V q λx v I D j u B=>?_;refine r.me.run j.fh (V.mono j.ff) B λy w n C d z i=>?_;cases u with
 |lst h1 t1=>
  cases z with
  |int k=>
   rename_i a A l;have g:(if xI k=true/\l.length*k.toNat<=sizeLine then M.ok (List.replicate k.toNat l).flatten else M.bad).res (kF K F H Q) (kE E n C):=i;by_cases h:xI k=true/\l.length*k.toNat<=sizeLine
   .rw[aQ h]at g;refine⟨a,k,A,rfl,rfl,d.fh _ _ (d.ff _ _ h1),by have:=ni h.1;rw[Hm]at this;rw[HY];omega,by have:=ni h.1;rw[Hm]at this;rw[HY];omega,by rw[t1.length];exact h.2,λp m=>?_⟩;have f:=j.trans d;exact g p _ n _ (f.trans (.new' d.fh m)) (dP f.hh m) (dP d.fh m) dA ((t1.mono d.ff).rep k.toNat)
   .rw[aR h]at g;exact g.elim
  |_=>exact i.elim
 |_=>exact i.elim
def lK(h:Pm K E X e te fe)(f:∀d,isTrue e X.env d=(do let v <-d;standAt e.pos;holding [v] (truthy v)):=by intro _;rfl):vW K E X e (tB te) (eW fe):=⟨tX h.pe f,Bu h.me⟩
section
variable {tA tD:TT}{fA fD:Pe->M Bool}{iN:List Expr}
def jm(h:vW K E X a tA fA):vW K E X (.UnaryOp .Not a pos) (BN tA) (jr fA):=⟨uD h.pt,C8 h.mt⟩
def xa(h:DH K E X a tA fA):vW K E X a tA fA:=⟨PW.pt h.pw,h.mt⟩
def oU(h:vW K E X a tA fA):DH K E X (.BoolOp .And [a] pos) tA fA:=⟨BE h.pt,h.mt⟩
def nk(h:vW K E X a tA fA):DH K E X (.BoolOp .Or [a] pos) tA fA:=⟨yk h.pt,h.mt⟩
def qp(h:vW K E X a tA fA)(d:DH K E X (.BoolOp .And (b::iN) pos) tD fD):DH K E X (.BoolOp .And (a::b::iN) pos) (EY tA tD) (m4 fA fD):=⟨Ey h.pt d.pw,Dy h.mt d.mt⟩
def q0(h:vW K E X a tA fA)(h':DH K E X (.BoolOp .Or (b::iN) pos) tD fD):DH K E X (.BoolOp .Or (a::b::iN) pos) (GR tA tD) (xJ fA fD):=⟨CI h.pt h'.pw,Gb h.mt h'.mt⟩
def qX{op}(h:Pm K E X a ta fa):Pm K E X (.BoolOp op [a] pos) ta fa:=⟨Dw h.pe,h.me⟩
def qt(h:Pm K E X a ta fa)(d:Pm K E X (.BoolOp .And (b::iN) pos) tb fb):Pm K E X (.BoolOp .And (a::b::iN) pos) (yY ta tb) (zA fa fb):=⟨EH h.pe d.pe,Cd h.me d.me⟩
def tY(h:Pm K E X a ta fa):Pm K E X (.UnaryOp .Not a pos) (yc ta) (zf fa):=⟨EJ h.pe,Cp h.me⟩
end
def AK(g:kS X (compareOp op) r)(hr:MR K r m)(f:Pm K E X a ta fa)(d:Pm K E X b tb fb)(h:behindInMarks op b=false:=by exact j7 _):Pm K E X (.Compare a [op] [b] pos) (mY r ta tb) (dI m fa fb):=⟨B1 g f.pe d.pe h,vP hr f.me d.me⟩
def fN(g:kS X (compareOp op) r)(hr:MR K r m)(f:Pm K E X a ta fa)(d:Pm K E X b tb fb)(h:behindInMarks op b=false:=by exact j7 _):vW K E X (.Compare a [op] [b] pos) (oK (mY r ta tb)) (eW (dI m fa fb)):=⟨rF g f.pe d.pe h,BS (vP hr f.me d.me)⟩
noncomputable def GD:T->T->M T:=hZ (λ_ _=>true) λi j=>.bl (decide (i<j))
noncomputable def Gx:T->T->M T:=hZ (λ_ _=>true) λi j=>.bl (decide (i<=j))
noncomputable def Fk:T->T->M T:=hZ (λ_ _=>true) λi j=>.bl (decide (j<i))
noncomputable def Ge:T->T->M T:=hZ (λ_ _=>true) λi j=>.bl (decide (j<=i))
def vG:MR K (ub λi j=>.bl (decide (i<j))) GD:=lM λ_ _ _=>.bl _
def vZ:MR K (ub λi j=>.bl (decide (i<=j))) Gx:=lM λ_ _ _=>.bl _
def ze:MR K (ub λi j=>.bl (decide (j<i))) Fk:=lM λ_ _ _=>.bl _
def AA:MR K (ub λi j=>.bl (decide (j<=i))) Ge:=lM λ_ _ _=>.bl _
@[simp] noncomputable def Hb(m f:T->T->M T)(fa fb fc:Pe->M T):Pe->M T:=λd=>(fa d).bind λx=>(fb d).bind λy=>(m x y).bind λz=>match z with
 |.bl true=>(fc d).bind λw=>f y w
 |.bl false=>.ok (.bl false)
 |_=>.bad
def zp(hr:MR K r m)(f:MR K r' m')(R:ME K E ta fa)(J:ME K E tb fb)(D:ME K E tc fc):ME K E (t9 r r' ta tb tc) (Hb m m' fa fb fc):=λF H σ ρ Q s V q=>by
 refine R.run s V q λx v F1 H1 h A U=>?_;refine J.run h.fh (V.mono h.ff) U λy w I Z i t B=>?_;refine hr.ok I Z v w x y _ i.fh (A.mono i.ff) t (((M.res.unb B).ne (hr.ne x y)).mono (λz j v3 Y C g P=>?_) λ_ _ z=>z);have d:=(h.trans i).trans g;cases P with
 |bl k=>
  refine⟨k,rfl,?_⟩;cases k with
  |true=>rw[aQ rfl];have l:=j.mono (λ_ z=>z) λ_ _ z=>z.go g;refine D.run g.fh (V.mono d.ff) l λu S F4 N n r4 L=>?_;exact f.ok F4 N w S y u Q n.fh (t.mono (g.ff.trans n.ff)) r4 ((L.ne (f.ne y u)).mono (λ_ z=>z.go (d.trans n)) λ_ _ z=>z)
  |false=>rw[aR aH];exact j _ Y C d (.bl _)
 |_=>exact j.elim
def sh(j:kS X (compareOp op) r)(hr:MR K r m)(f:kS X (compareOp op') r')(d:MR K r' m')(i:Pm K E X a ta fa)(g:Pm K E X b tb fb)(h:Pm K E X c tc fc)
  (k:lastMarks [op,op'] [b,c]=false:=by with_unfolding_all rfl):Pm K E X (.Compare a [op,op'] [b,c] pos) (t9 r r' ta tb tc) (Hb m m' fa fb fc):=⟨yX j f i.pe g.pe h.pe k,zp hr d i.me g.me h.me⟩
mutual
noncomputable def lE:T->Bool
 |.str x=>PyData.canLay0 (.str x)
 |.lst ts=>kQ ts
 |.tup ts=>kQ ts
 |.scr _=>false
 |.obj _ _=>false
 |.emp=>false
 |.dic _=>false
 |_=>true
noncomputable def kQ:List T->Bool
 |[]=>true
 |t::ts=>lE t&&kQ ts
end
mutual
def sD:T->PyData
 |.non=>.none
 |.bl b=>.bool b
 |.int i=>.int i
 |.str x=>.str x
 |.lst ts=>.list (m7 ts)
 |.tup ts=>.tuple (m7 ts)
 |.scr _=>.none
 |.obj _ _=>.none
 |.emp=>.none
 |.dic _=>.none
def m7:List T->List PyData
 |[]=>[]
 |t::ts=>sD t::m7 ts
end
mutual
theorem AG{F:Hp}:∀{v:V} {t:T},gK K F v t->lE t=true->DV K F v (sD t)
 |_,_,.non,_=>.non
 |_,_,.bl b,_=>.bl b
 |_,_,.int i,_=>.int i
 |_,_,.str x,_=>.str x
 |_,_,.lst h r,l=>.lst (ib.of h) (ud r (by simpa[lE] using l))
 |_,_,.tup h r,l=>.tup (jd.of h) (ud r (by simpa[lE] using l))
 |_,_,.scr _,l=>by simp[lE]at l
 |_,_,.obj _ _,l=>by simp[lE]at l
 |_,_,.emp _,l=>by simp[lE]at l
 |_,_,.dic _ _,l=>by simp[lE]at l
theorem ud{F:Hp}:∀{vs:List V} {ts:List T},dM K F vs ts->kQ ts=true->qa K F vs (m7 ts)
 |_,_,.nil,_=>.nil
 |_,_,.cons h r,l=>by rw[kQ,bM]at l;exact .cons (AG h l.1) (ud r l.2)
end
mutual
theorem rD:∀t,lE t=true->(sD t).canLay0=true
 |.non,_=>rfl
 |.bl b,_=>rfl
 |.int i,_=>rfl
 |.str x,h=>by simpa[lE,sD] using h
 |.lst ts,h=>by rw[sD,PyData.canLay0];exact nH ts (by simpa[lE] using h)
 |.tup ts,h=>by rw[sD,PyData.canLay0];exact nH ts (by simpa[lE] using h)
 |.scr _,h=>by simp[lE]at h
 |.obj _ _,h=>by simp[lE]at h
 |.emp,h=>by simp[lE]at h
 |.dic _,h=>by simp[lE]at h
theorem nH:∀ts,kQ ts=true->PyData.canLayAll0 (m7 ts)=true
 |[],_=>rfl
 |t::ts,h=>by rw[kQ,bM]at h;rw[m7,PyData.canLayAll0,rD t h.1,nH ts h.2];rfl
end
noncomputable def wx(x y:T):Bool:=(sD x).eqv (sD y)
noncomputable def nS(a b:List T):Bool:=PyData.eqvAll (m7 a) (m7 b)
noncomputable def rS(t:T):Nat:=(sD t).depth
noncomputable def lC(ts:List T):Nat:=PyData.depthAll (m7 ts)
@[simp] theorem G8 i:rS (.int i)=0:=rfl
@[simp] theorem Hj i:rS (.bl i)=0:=rfl
@[simp] theorem G3 i:rS (.str i)=0:=rfl
@[simp] theorem GS:rS .non=0:=rfl
@[simp] theorem GZ ts:rS (.lst ts)=lC ts+1:=by unfold rS lC;rw[sD,PyData.depth]
@[simp] theorem rh ts:rS (.tup ts)=lC ts+1:=by unfold rS lC;rw[sD,PyData.depth]
@[simp] theorem Gh:lC []=0:=rfl
@[simp] theorem mC t ts:lC (t::ts)=max (rS t) (lC ts):=by unfold rS lC;rw[m7,PyData.depthAll]
@[simp] theorem G5 i j:wx (.int i) (.int j)=(i==j):=rfl
@[simp] theorem GU i j:wx (.str i) (.str j)=(i==j):=rfl
def vO xs ys:wx (.lst xs) (.lst ys)=nS xs ys:=by unfold wx nS;rw[sD,sD,PyData.eqv]
def kr xs ys:wx (.tup xs) (.tup ys)=nS xs ys:=by unfold wx nS;rw[sD,sD,PyData.eqv]
def kD x xs y ys:nS (x::xs) (y::ys)=(wx x y&&nS xs ys):=by unfold wx nS;rw[m7,m7,PyData.eqvAll]
noncomputable def d7(neg:Bool):T->T->M T:=λx y=>if lE x&&lE y&&decide (rS x<=100) then .ok (.bl (if neg then !wx x y else wx x y)) else .bad
mutual
theorem DV.same{F H:Hp}(s:dG F H):∀{v:V} {d:PyData},DV K F v d->DV K H v d
 |_,_,.non=>.non
 |_,_,.bl b=>.bl b
 |_,_,.int i=>.int i
 |_,_,.str x=>.str x
 |_,_,.lst h r=>.lst (s.seq h) (qa.same s r)
 |_,_,.tup h r=>.tup (s.seqT h) (qa.same s r)
theorem qa.same{F H:Hp}(s:dG F H):∀{v:List V} {d:List PyData},qa K F v d->qa K H v d
 |_,_,.nil=>.nil
 |_,_,.cons h r=>.cons (DV.same s h) (qa.same s r)
end
def B4 x y:M.NoE (d7 neg x y):=λC n=>by unfold d7;split<;>exact λz=>nomatch z
def vN(neg:Bool):MR K (uw K neg) (d7 neg):=⟨B4,λF H v w x y Q s b a q=>by
 unfold d7 at q;by_cases h:(lE x&&lE y&&decide (rS x<=100))=true
 .rw[aQ h]at q;simp only[bM,decide_eq_true_eq]at h;refine⟨sD x,sD y,DV.same s (AG b h.1.1),DV.same s (AG a h.1.2),⟨rD x h.1.1,rD y h.1.2,by exact h.2⟩,?_⟩;exact kV.now q s (.bl _)
 .rw[aR h]at q;exact q.elim⟩
def AN{k:Nat}(hr:eD k X.A)(e:Pm K E X a ta fa)(c:Pm K E X b tb fb)(d:X.K=K:=by rfl)(f:behindInMarks .Eq b=false:=by exact j7 _):Pm K E X (.Compare a [.Eq] [b] pos) (mY (uw K false) ta tb) (dI (d7 false) fa fb):=AK (d▸Au (GW hr)) (vN false) e c f
def FW{k:Nat}(hr:eD k X.A)(e:Pm K E X a ta fa)(c:Pm K E X b tb fb)(d:X.K=K:=by rfl)(f:behindInMarks .NotEq b=false:=by exact j7 _):Pm K E X (.Compare a [.NotEq] [b] pos) (mY (uw K true) ta tb) (dI (d7 true) fa fb):=AK (d▸zi (GW hr)) (vN true) e c f
def uJ{k:Nat}(hr:eD k X.A)(e:Pm K E X a ta fa)(c:Pm K E X b tb fb)(d:X.K=K:=by rfl)(f:behindInMarks .Eq b=false:=by exact j7 _):vW K E X (.Compare a [.Eq] [b] pos) (oK (mY (uw K false) ta tb)) (eW (dI (d7 false) fa fb)):=fN (d▸Au (GW hr)) (vN false) e c f
def uy{k:Nat}(hr:eD k X.A)(e:Pm K E X a ta fa)(c:Pm K E X b tb fb)(d:X.K=K:=by rfl)(f:behindInMarks .NotEq b=false:=by exact j7 _):vW K E X (.Compare a [.NotEq] [b] pos) (oK (mY (uw K true) ta tb)) (eW (dI (d7 true) fa fb)):=fN (d▸zi (GW hr)) (vN true) e c f
@[simp] noncomputable def A5(neg:Bool):T->T->M T:=λx y=>match y with
 |.non=>.ok (.bl (match x with|.non=>!neg|_=>neg))
 |_=>.bad
def A1 x y:M.NoE (A5 neg x y):=λC n=>by cases y<;>exact λz=>nomatch z
def vB:MR K (λx y H Q=>y=.non/\Q (.bl (!decide (x=.non))) H) (A5 true):=⟨A1,λF H v w x y Q s b a q=>by
 cases a with
 |non=>refine⟨rfl,?_⟩;cases b<;>exact kV.now q s (.bl _)
 |_=>exact q.elim⟩
end
end L3
namespace L3
open PySem L2 PySem.Spec PyProof.Rows
section
variable {K:W.Frag}{E:XK}{X:Cx}{a b c e o tg it:Expr}{es:List Expr}{ta tb tc te to:TE}{fa fb fc fe fo:Pe->M T}{tr:TA}{fr:Pe->M (List T)}{pos p p2 apos:Pos}
def dW:rR K E X [] jW dm:=⟨eF,uz⟩
def dw(d:Pm K E X e te fe)(hr:rR K E X es tr fr)(f:starEach (e::es) X.env=(false,eval e X.env)::starEach es X.env:=by rfl):rR K E X (e::es) (gO te tr) (dg fe fr):=⟨dz d.pe hr.pa f,Bq d.me hr.ma⟩
def rL{x1}(h:rR K E X es tr fr):Pm K E X (.Tuple es x1 pos) (Et tr) (kP fr):=⟨EA h.pa,DN h.ma⟩
def uc(h:rR K E X es tr fr):xq K E X (.List es pos) (AF tr) (lstM fr):=⟨oO h.pa,Dz h.ma⟩
structure MC(K:W.Frag)(r:List V->Hp->VK->Prop)(o:List T->M T):Prop where
 ne:∀xs,M.NoE (o xs)
 ok:∀F H vs xs Q,dG F H->dM K F vs xs->(o xs).res (kV K F H Q) (λ_ _=>False)->r vs H Q
structure Ho(K:W.Frag)(r:List V->Hp->VK->Prop)(o:List T->M (List T)):Prop where
 ne:∀xs,M.NoE (o xs)
 ok:∀F H vs xs Q,dG F H->dM K F vs xs->(o xs).res (kF K F H Q) (λ_ _=>False)->r vs H Q
@[simp] noncomputable def ia(o:List T->M T)(fr:Pe->M (List T)):Pe->M T:=λd=>(fr d).bind o
@[simp] noncomputable def zc(o:List T->M (List T))(fr:Pe->M (List T)):Pe->M (List T):=λd=>(fr d).bind o
def CG{o:List T->M T}(f:MC K r o)(j:MA K E tr fr):ME K E (xM r tr) (ia o fr):=λF H n t Q s V q=>by refine j.run s V q λg m k i d h l=>?_;exact f.ok k i m g Q d.fh h ((l.ne (f.ne g)).mono (λ_ z=>z.go d) λ_ _ z=>z)
def Fx{o:List T->M (List T)}(f:Ho K r o)(j:MA K E tr fr):MF K E (xM r tr) (zc o fr):=λF H n t Q s V q=>by refine j.run s V q λg m k i d h l=>?_;exact f.ok k i m g Q d.fh h ((l.ne (f.ne g)).mono (λ_ z=>z.go d) λ_ _ z=>z)
section
variable {x:Str}{id T':String}{r:List V->Hp->VK->Prop}{m:List T->M T}{mf:List T->M (List T)}
def dQ(j:gW X (.builtin id) r)(g:MC K r m)(n:Gl X x)(q:X.mg x=none)(k:bootBuiltins x=some (.builtin id))(h:rR K E X (e::es) tr fr)(i:x≠ "__name__" :=by decide)(d:(x==("__debug__" : Str))=false:=by decide)
  (l:starEach (e::es) X.env=(false,eval e X.env)::starEach es X.env:=by rfl) (f:(backTo pos (starEach es X.env)).any (·.1)=false:=by rfl):Pm K E X (.Call (.Name x p) (e::es) [] pos) (xM r tr) (ia m fr):=⟨e8 j n q k h.pa i d l f,CG g h.ma⟩
def fV(j:gW X (.type T') r)(g:MC K r m)(n:Gl X x)(q:X.mg x=none)(k:bootBuiltins x=some (.type T'))(h:rR K E X (e::es) tr fr)(i:x≠ "__name__" :=by decide)(d:(x==("__debug__" : Str))=false:=by decide)
  (l:starEach (e::es) X.env=(false,eval e X.env)::starEach es X.env:=by rfl) (f:(backTo pos (starEach es X.env)).any (·.1)=false:=by rfl):Pm K E X (.Call (.Name x p) (e::es) [] pos) (xM r tr) (ia m fr):=⟨pO j n q k h.pa i d l f,CG g h.ma⟩
def i6(j:gW X (.type T') r)(g:Ho K r mf)(n:Gl X x)(q:X.mg x=none)(k:bootBuiltins x=some (.type T'))(h:rR K E X (e::es) tr fr)(i:x≠ "__name__" :=by decide)(d:(x==("__debug__" : Str))=false:=by decide)
  (l:starEach (e::es) X.env=(false,eval e X.env)::starEach es X.env:=by rfl) (f:(backTo pos (starEach es X.env)).any (·.1)=false:=by rfl):xq K E X (.Call (.Name x p) (e::es) [] pos) (xM r tr) (zc mf fr):=⟨pO j n q k h.pa i d l f,Fx g h.ma⟩
end
@[simp] noncomputable def gP:List T->M T
 |[.lst ts]=>.ok (.int ts.length)
 |[.tup ts]=>.ok (.int ts.length)
 |[.scr ns]=>.ok (.int ns.length)
 |[.str z]=>if z.length<=sizeLine then .ok (.int z.length) else .bad
 |_=>.bad
def Bm xs:M.NoE (gP xs):=λC n=>by unfold gP;split<;>first|(intro z;cases z;done)|(split<;>first|(intro z;cases z;done)|(split<;>intro z<;>cases z))
def gp:MC K (λg H Q=>∃x n,g=[x]/\E3 K x H n/\Q (.int n) H) gP:=⟨Bm,λF H i g Q s r q=>by
 cases r with
 |nil=>exact q.elim
 |cons h t=>
  cases t with
  |cons _ _=>cases h<;>exact q.elim
  |nil=>
   cases h with
   |lst h r=>exact⟨_,_,rfl,.inl ⟨_,ib.of (s _ _ h),rfl⟩,by rw[r.length];exact kV.now q s (.int _)⟩
   |tup h r=>exact⟨_,_,rfl,.inr ⟨_,jd.of (s _ _ h),rfl⟩,by rw[r.length];exact kV.now q s (.int _)⟩
   |scr h=>exact⟨_,_,rfl,.inl ⟨_,s.seq h,rfl⟩,by rw[ax];exact kV.now q s (.int _)⟩
   |str z=>
    have d:(if z.length<=sizeLine then M.ok (T.int z.length) else M.bad).res (kV K F H Q) (λ_ _=>False):=q;by_cases f:z.length<=sizeLine
    .rw[aQ f]at d;exact⟨_,z.length,rfl,⟨f,rfl⟩,kV.now d s (.int _)⟩
    .rw[aR f]at d;exact d.elim
   |_=>exact q.elim⟩
@[simp] noncomputable def wz:List T->M T
 |[.int i]=>.ok (.int (if i<0 then -i else i))
 |_=>.bad
def BZ xs:M.NoE (wz xs):=λC n=>by unfold wz;split<;>first|(intro z;cases z;done)|(split<;>first|(intro z;cases z;done)|(split<;>intro z<;>cases z))
def uN:MC K (λd H Q=>∃i,d=[.int i]/\Q (.int (if i<0 then -i else i)) H) wz:=⟨BZ,λF H f d Q s r q=>by
 cases r with
 |nil=>exact q.elim
 |cons h t=>
  cases t with
  |cons _ _=>cases h<;>exact q.elim
  |nil=>
   cases h with
   |int i=>exact⟨i,rfl,kV.now q s (.int _)⟩
   |_=>exact q.elim⟩
@[simp] noncomputable def rZ:List T->M T
 |[.int i]=>.ok (.int i)
 |[.bl k]=>.ok (.int (if k then 1 else 0))
 |_=>.bad
def zR xs:M.NoE (rZ xs):=λC n=>by unfold rZ;split<;>first|(intro z;cases z;done)|(split<;>first|(intro z;cases z;done)|(split<;>intro z<;>cases z))
def vF:MC K (λd H Q=>(∃i,d=[.int i]/\Q (.int i) H)\/∃k,d=[.bl k]/\Q (.int (if k then 1 else 0)) H) rZ:=⟨zR,λF H f d Q s r q=>by
 cases r with
 |nil=>exact q.elim
 |cons h t=>
  cases t with
  |cons _ _=>cases h<;>exact q.elim
  |nil=>
   cases h with
   |int i=>exact .inl ⟨i,rfl,kV.now q s (.int _)⟩
   |bl k=>exact .inr ⟨k,rfl,kV.now q s (.int _)⟩
   |_=>exact q.elim⟩
@[simp] noncomputable def gF:List T->M T
 |[.lst ts]=>.ok (.tup ts)
 |[.tup ts]=>.ok (.tup ts)
 |[.scr ns]=>.ok (.tup (ns.map T.int))
 |_=>.bad
def uG xs:M.NoE (gF xs):=λC n=>by unfold gF;split<;>first|(intro z;cases z;done)|(split<;>first|(intro z;cases z;done)|(split<;>intro z<;>cases z))
def gL:MC K (λg H Q=>∃p f,g=[.ref p]/\((ib K H p f/\∀l,H l=none->Q (.ref l) (fw H l (.tup f)))\/(jd K H p f/\Q (.ref p) H))) gF:=⟨uG,λF H i g Q s r q=>by
 cases r with
 |nil=>exact q.elim
 |cons h t=>
  cases t with
  |cons _ _=>cases h<;>exact q.elim
  |nil=>
   cases h with
   |lst h r=>exact⟨_,_,rfl,.inl ⟨ib.of (s _ _ h),λl d=>q (.ref l) _ _ (.new s d) (.tup dA (r.mono (Gr.new s d).ff))⟩⟩
   |scr h=>exact⟨_,_,rfl,.inl ⟨s.seq h,λl d=>q (.ref l) _ _ (.new s d) (.tup dA (dM.of_ints _))⟩⟩
   |tup h r=>exact⟨_,_,rfl,.inr ⟨jd.of (s _ _ h),kV.now q s (.tup h r)⟩⟩
   |_=>exact q.elim⟩
@[simp] noncomputable def jq:List T->M (List T)
 |[.lst ts]=>.ok ts
 |[.tup ts]=>.ok ts
 |[.scr ns]=>.ok (ns.map T.int)
 |_=>.bad
def wU xs:M.NoE (jq xs):=λC n=>by unfold jq;split<;>first|(intro z;cases z;done)|(split<;>first|(intro z;cases z;done)|(split<;>intro z<;>cases z))
def jK:Ho K (λg H Q=>∃p f,g=[.ref p]/\(ib K H p f\/jd K H p f)/\∀l,H l=none->Q (.ref l) (fw H l (.lst f))) jq:=⟨wU,λF H i g Q s r q=>by
 cases r with
 |nil=>exact q.elim
 |cons h t=>
  cases t with
  |cons _ _=>cases h<;>exact q.elim
  |nil=>
   cases h with
   |lst h r=>exact⟨_,_,rfl,.inl (ib.of (s _ _ h)),λl d=>q l _ F _ (.new' s d) d (dP s d) dA r⟩
   |scr h=>exact⟨_,_,rfl,.inl (s.seq h),λl d=>q l _ F _ (.new' s d) d (dP s d) dA (dM.of_ints _)⟩
   |tup h r=>exact⟨_,_,rfl,.inr (jd.of (s _ _ h)),λl d=>q l _ F _ (.new' s d) d (dP s d) dA r⟩
   |_=>exact q.elim⟩
def iB:List T->Option (LI)
 |[]=>some []
 |.int i::ts=>(iB ts).bind λr=>some (i::r)
 |_::_=>none
theorem oF:∀{ts} {ns},iB ts=some ns->ts=ns.map T.int
 |[],_,e=>by cases e;rfl
 |t::ts,ns,e=>by
  cases t with
  |int i=>
   cases q:iB ts with
   |none=>simp[iB,q]at e
   |some r=>simp[iB,q]at e;subst e;rw[oF q];rfl
  |_=>cases e
@[simp] theorem wq ns:iB (ns.map T.int)=some ns:=by
 induction ns with
 |nil=>rfl
 |cons n ns ih=>simp[iB,ih]
def k9:List T->Option (List Bool)
 |[]=>some []
 |.bl i::ts=>(k9 ts).bind λr=>some (i::r)
 |_::_=>none
theorem qf:∀{ts} {ns},k9 ts=some ns->ts=ns.map T.bl
 |[],_,e=>by cases e;rfl
 |t::ts,ns,e=>by
  cases t with
  |bl i=>
   cases q:k9 ts with
   |none=>simp[k9,q]at e
   |some r=>simp[k9,q]at e;subst e;rw[qf q];rfl
  |_=>cases e
@[simp] theorem F7 ns:k9 (ns.map T.bl)=some ns:=by
 induction ns with
 |nil=>rfl
 |cons n ns ih=>simp[k9,ih]
@[simp] noncomputable def uf:List T->M T
 |[.lst ts]=>match k9 ts with
  |some ns=>.ok (.bl (ns.all id))
  |none=>.bad
 |_=>.bad
def BM xs:M.NoE (uf xs):=λC n=>by unfold uf;split<;>first|(intro z;cases z;done)|(split<;>first|(intro z;cases z;done)|(split<;>intro z<;>cases z))
def qx:MC K (λf H Q=>∃(p:Addr) (bs:List Bool),f=[.ref p]/\ib K H p (bs.map V.bl)/\Q (.bl (bs.all id)) H) uf:=⟨BM,λF H i f Q s r q=>by
 cases r with
 |nil=>exact q.elim
 |cons h t=>
  cases t with
  |cons _ _=>cases h<;>exact q.elim
  |nil=>
   cases h with
   |lst h r=>
    rename_i a f g;have d:(match k9 g with|some ns=>M.ok (T.bl (ns.all id))|none=>M.bad).res (kV K F H Q) (λ_ _=>False):=q;cases e:k9 g with
    |none=>rw[e]at d;exact d.elim
    |some ns=>rw[e]at d;rw[qf e]at r;have:=r.bls;subst this;exact⟨a,ns,rfl,ib.of (s _ _ h),kV.now d s (.bl _)⟩
   |_=>exact q.elim⟩
@[simp] noncomputable def Fc:T->String
 |.non=> "NoneType"
 |.bl _=> "bool"
 |.int _=> "int"
 |.str _=> "str"
 |.tup _=> "tuple"
 |.lst _=> "list"
 |.scr _=> "script"
 |.obj _ _=> "object"
 |.emp=> "dict"
 |.dic _=> "table"
@[simp] noncomputable def DQ(n:String)(x:T):M T:=match x with
 |.scr _=>.bad
 |.obj _ _=>.bad
 |.dic _=>.bad
 |x=>.ok (.bl (Fc x==n||(n == "int" && Fc x == "bool")))
def FN(r:gK K F v x)(s:dG F H)(k:∀f,x≠.scr f)(g:∀C fs,x≠.obj C fs)(d:∀j,x≠.dic j):kf K H v (.type (Fc x)):=by
 cases r with
 |non=>exact .non
 |bl b=>exact .bl b
 |int i=>exact .int i
 |str x=>exact .str x
 |tup h r=>exact .tup (s _ _ h)
 |lst h r=>exact .lst (s _ _ h)
 |scr h=>exact absurd rfl (k _)
 |obj h r=>exact absurd rfl (g _ _)
 |emp h=>exact .dK (s _ _ h)
 |dic h r=>exact absurd rfl (d _)
@[simp] noncomputable def mZ(n:String)(fe:Pe->M T):Pe->M T:=λd=>(fe d).bind λx=>DQ n x
theorem C2(w:∀t∈["NoneType", "bool", "int", "str", "tuple", "list", "dict"],W.kitOne K (.type t) (.type n)=some (t==n||(n == "int" && t == "bool")))(B:ME K E te fe) :
  ME K E (xM (λy H Q=>∃x T t b,y=[x,.ty T]/\kf K H x t/\W.kitOne K t (.type T)=some b/\Q (.bl b) H) (gO te (gO (tC (.ty n)) jW))) (mZ n fe):=λF H I J Q s V q=>by
 refine B.run s V q λx v D j l u f=>?_;have d:∀b,DQ n x=.ok (.bl b)->(∀h,x≠.scr h)->(∀C fs,x≠.obj C fs)->(∀i,x≠.dic i)->b=(Fc x==n||(n == "int" && Fc x == "bool"))->∃g T t b,[v,L2.V.ty n]=[g,.ty T]/\kf K j g t/\W.kitOne K t (.type T)=some b/\Q (.bl b) j:=by
  intro b e r m k A;rw[e]at f;refine⟨v,n,_,b,rfl,FN u l.fh r m k,?_,f _ D j l (.bl _)⟩;rw[A];refine w _ ?_;cases x with
  |scr h=>exact absurd rfl (r h)
  |obj C fs=>exact absurd rfl (m C fs)
  |dic i=>exact absurd rfl (k i)
  |_=>simp[Fc]
 cases x with
 |scr h=>exact f.elim
 |obj C fs=>exact f.elim
 |dic i=>exact f.elim
 |non=>exact d _ rfl (λ_ z=>nomatch z) (λ_ _ z=>nomatch z) (λ_ z=>nomatch z) rfl
 |bl _=>exact d _ rfl (λ_ z=>nomatch z) (λ_ _ z=>nomatch z) (λ_ z=>nomatch z) rfl
 |int _=>exact d _ rfl (λ_ z=>nomatch z) (λ_ _ z=>nomatch z) (λ_ z=>nomatch z) rfl
 |str _=>exact d _ rfl (λ_ z=>nomatch z) (λ_ _ z=>nomatch z) (λ_ z=>nomatch z) rfl
 |tup _=>exact d _ rfl (λ_ z=>nomatch z) (λ_ _ z=>nomatch z) (λ_ z=>nomatch z) rfl
 |lst _=>exact d _ rfl (λ_ z=>nomatch z) (λ_ _ z=>nomatch z) (λ_ z=>nomatch z) rfl
 |emp=>exact d _ rfl (λ_ z=>nomatch z) (λ_ _ z=>nomatch z) (λ_ z=>nomatch z) rfl
def BA K:∀n∈["int", "bool", "str", "tuple", "list"],∀t∈["NoneType", "bool", "int", "str", "tuple", "list", "dict"],W.kitOne K (.type t) (.type n)=some (t==n||(n == "int" && t == "bool")):=by intro n d t f;simp only[aF,cA,or_false]at d f;rcases d with rfl|rfl|rfl|rfl|rfl<;>rcases f with rfl|rfl|rfl|rfl|rfl|rfl|rfl<;>rfl
def jx n (h:n∈["int", "bool", "str", "tuple", "list"]) (i:X.mg "isinstance" = none) (j:X.mg x=none) (l:bootBuiltins x=some (.type n)) (r:Pm K E X e te fe) (v:X.K=K:=by rfl) (m:Gl X "isinstance" :=by rfl) (q:Gl X x:=by rfl)
  (k:x≠ "__name__" :=by decide) (d:(x==("__debug__" : Str))=false:=by decide)
  (s:starEach [e,.Name x p3] X.env=(false,eval e X.env)::starEach [.Name x p3] X.env:=by rfl) (f:starEach [.Name x p3] X.env=(false,eval (.Name x p3) X.env)::starEach [] X.env:=by rfl) (g:(backTo pos (starEach [.Name x p3] X.env)).any (·.1)=false:=by rfl) :
  Pm K E X (.Call (.Name "isinstance" p) [e,.Name x p3] [] pos) (xM (λu H Q=>∃x T t b,u=[x,.ty T]/\kf K H x t/\W.kitOne K t (.type T)=some b/\Q (.bl b) H) (gO te (gO (tC (.ty n)) jW))) (mZ n fe):=by
 subst v;exact⟨e8 zB m i iA (dz r.pe (dz (v9 q j l rfl k d) eF f) s) (by decide) (by decide) s g,C2 (BA X.K n h) r.me⟩
@[simp] noncomputable def gw:T->T->M T
 |.lst ts,.int i=>match md ts i with
  |some t=>.ok t
  |none=>.bad
 |.tup ts,.int i=>match md ts i with
  |some t=>.ok t
  |none=>.bad
 |.scr ns,.int i=>match md ns i with
  |some t=>.ok (.int t)
  |none=>.bad
 |.str z,.int i=>if z.length<=sizeLine then (match md z.cps.toList i with
  |some c=>.ok (.str ⟨#[c]⟩)
  |none=>.bad) else .bad
 |_,_=>.bad
def vK(r:dM K F vs ts)(h:md ts i=some t):∃v,md vs i=some v/\gK K F v t:=by
 unfold md at h ⊢;rw[r.length];cases e:sM ts.length i with
 |none=>rw[e]at h;cases h
 |some j=>rw[e]at h;exact r.get h
def jS(f:α->β) l i:md (l.map f) i=(md l i).map f:=by
 unfold md;rw[ax];cases sM l.length i with
 |none=>rfl
 |some j=>simp
def Dt x y:M.NoE (gw x y):=λC n=>by unfold gw;split<;>first|(intro z;cases z;done)|(split<;>first|(intro z;cases z;done)|(split<;>intro z<;>cases z))
def Gv:MR K (G2 K) gw:=⟨Dt,λF H v w x y Q s d f q=>by
 unfold gw at q;split at q
 .rename_i l i;rw[f.int_inv];obtain⟨a,k,rfl,h,r⟩:=d.lst_inv;split at q
  .rename_i t e;obtain⟨v,g,j⟩:=vK r e;exact .inl ⟨a,k,i,v,rfl,rfl,ib.of (s _ _ h),g,kV.now q s j⟩
  .exact q.elim
 .rename_i l i;rw[f.int_inv];obtain⟨a,k,rfl,h,r⟩:=d.tup_inv;split at q
  .rename_i t e;obtain⟨v,g,j⟩:=vK r e;exact .inr (.inl ⟨a,k,i,v,rfl,rfl,jd.of (s _ _ h),g,kV.now q s j⟩)
  .exact q.elim
 .rename_i n i;rw[f.int_inv];cases d with
  |scr h=>
   split at q
   .rename_i t e;exact .inl ⟨_,_,i,.int t,rfl,rfl,s.seq h,by rw[jS,e];rfl,kV.now q s (.int _)⟩
   .exact q.elim
 .rename_i z i;rw[f.int_inv];cases d with
  |str z=>
   split at q
   .rename_i m;split at q
    .rename_i c e;exact .inr (.inr ⟨z,i,c,rfl,rfl,m,e,kV.now q s (.str _)⟩)
    .exact q.elim
   .exact q.elim
 .exact q.elim⟩
def yi(f:Pm K E X a ta fa)(d:Pm K E X b tb fb)(h:uY b:=by intro _ _;rfl)(g:X.K=K:=by rfl):Pm K E X (.Subscript a b pos) (mY (G2 K) ta tb) (dI gw fa fb):=⟨CD (g▸ye) f.pe d.pe h,vP Gv f.me d.me⟩
def yA:GY K E X none vj (λ_=>.ok none):=⟨BP,λF H d f Q s V q=>q F H (.refl s)⟩
@[simp] noncomputable def ir(fe:Pe->M T):Pe->M (Option Int):=λd=>(fe d).bind λx=>match x with
 |.int i=>.ok (some i)
 |_=>.bad
def zd(h:Pm K E X e te fe):GY K E X (some e) (CJ te) (ir fe):=⟨Bg h.pe,λF H l m Q s V q=>by
 refine h.me.run s V q λx v k g j f d=>?_;cases f with
 |int i=>exact⟨i,rfl,d k g j⟩
 |_=>exact d.elim⟩
noncomputable def kq{f:Type}(d:List f)(g h:Oq Int):List f:=(d.drop (HT.sIx d.length 0 g)).take (HT.sIx d.length d.length h-HT.sIx d.length 0 g)
def Ed xs lo hi:zM xs lo hi=kq xs lo hi:=rfl
def dM.cut(r:dM K F vs ts) lo hi:dM K F (kq vs lo hi) (kq ts lo hi):=by unfold kq;rw[r.length];exact (r.drop _).take _
def zF(f:α->β) l lo hi:kq (l.map f) lo hi=(kq l lo hi).map f:=by unfold kq;rw[ax,cB,List.map_drop]
section
variable {lo hi:Oq Expr}{tl th:TO}{fl fh:Pe->M (Option Int)}
def MO.run{k:Oq Int->M α}{P:α->Prop}(h:MO K E t f)(s:dG F H)(v:ie K F σ ρ)(r:((f ρ).bind k).res P (kE E F H))
  (j:∀x i d,Gr F H i d->(k x).res P (kE E i d)->Q x d):t σ H Q:=
 h F H σ ρ Q s v ((M.res.unb r).mono (λx q i d g=>j x i d g (q.mono (λ_ z=>z) λ_ _ z=>z.go g)) λ_ _ z=>z)
@[simp] noncomputable def j3(fe:Pe->M T)(fl fh:Pe->M (Option Int)):Pe->M T:=λd=>(fe d).bind λx=>(fl d).bind λl=>(fh d).bind λh=>match x with
 |.tup ts=>.ok (.tup (kq ts l h))
 |.lst ts=>.ok (.lst (kq ts l h))
 |.scr ns=>.ok (.lst ((kq ns l h).map T.int))
 |_=>.bad
def sy(y:Pm K E X e te fe)(t:GY K E X lo tl fl)(A:GY K E X hi th fh)(L:X.K=K:=by rfl):Pm K E X (.Subscript e (.Slice lo hi none p2) pos) (HM (λx lo hi H Q=>Fv K x lo hi H Q\/(FA K x lo hi H Q\/FH K x lo hi H Q)) te tl th) (j3 fe fl fh):=by
 subst L;refine⟨yg (B9.or (Ew.or BD)) y.pe t.po A.po,λF H Y Z Q s V q=>?_⟩;refine y.me.run s V q λx v S N j B J=>?_;refine t.mo.run j.fh (V.mono j.ff) J λl R U k C=>?_;refine A.mo.run k.fh ((V.mono j.ff).mono k.ff) C λu z w d m=>?_;have g:=(j.trans k).trans d;have I:=B.mono (k.ff.trans d.ff);cases I with
 |lst h r=>exact .inl ⟨_,_,rfl,ib.of (d.fh _ _ h),λp i=>m (.ref p) _ _ (g.trans (.new d.fh i)) (.lst dA ((r.cut l u).mono (Gr.new d.fh i).ff))⟩
 |scr h=>exact .inl ⟨_,_,rfl,d.fh.seq h,λp i=>m (.ref p) _ _ (g.trans (.new d.fh i)) (.lst dA (by rw[Ed,zF];exact dM.of_ints _))⟩
 |tup h r=>
  rename_i a P f;have n:(M.ok (T.tup (kq f l u))).res (kV X.K F H Q) (kE E z w):=m;by_cases hw:HT.sIx f.length 0 l=0/\HT.sIx f.length f.length u=f.length
  .have D:kq f l u=f:=by unfold kq;rw[hw.1,hw.2];simp
   rw[D]at n;exact .inr (.inr ⟨_,_,rfl,jd.of (d.fh _ _ h),by rw[r.length];exact hw,n _ z w g (.tup h r)⟩)
  .exact .inr (.inl ⟨_,_,rfl,jd.of (d.fh _ _ h),by rw[r.length];exact hw,λp i=>n (.ref p) _ _ (g.trans (.new d.fh i)) (.tup dA ((r.cut l u).mono (Gr.new d.fh i).ff))⟩)
 |_=>exact m.elim
end
section
variable {x:Str}{k:Nat}{Fn:List T->M T}{Ff:List T->M (List T)}
def fZ(h:hU X.prog X.w X.K X.mg X.base x j (lG K Fn))(hr:eD k X.A)(g:rR K E X (e::es) tr fr)(i:j<=k:=by decide)(l:Gl X x:=by rfl)
  (d:(x==("__debug__" : Str))=false:=by decide) (m:starEach (e::es) X.env=(false,eval e X.env)::starEach es X.env:=by rfl) (f:(backTo pos (starEach es X.env)).any (·.1)=false:=by rfl) :
  Pm K E X (.Call (.Name x p) (e::es) [] pos) (lj (lG K Fn) [] E0 tr) (dD fr Fn):=⟨tq (h.mono i) hr g.pa l d m f,sk g.ma⟩
def vo(h:hU X.prog X.w X.K X.mg X.base x j (tP K Ff))(hr:eD k X.A)(g:rR K E X (e::es) tr fr)(i:j<=k:=by decide)(l:Gl X x:=by rfl)
  (d:(x==("__debug__" : Str))=false:=by decide) (m:starEach (e::es) X.env=(false,eval e X.env)::starEach es X.env:=by rfl) (f:(backTo pos (starEach es X.env)).any (·.1)=false:=by rfl) :
  xq K E X (.Call (.Name x p) (e::es) [] pos) (lj (tP K Ff) [] E0 tr) (lz fr Ff):=⟨tq (h.mono i) hr g.pa l d m f,xQ g.ma⟩
end
def FK(K:W.Frag)(t:TE):TI:=λd H R=>vI K t d H R\/Ek K t d H R
@[simp] noncomputable def eT(fa:Pe->M T):Pe->M (List T):=λd=>(fa d).bind λx=>match x with
 |.lst ts=>.ok ts
 |.scr ns=>.ok (ns.map T.int)
 |.tup ts=>.ok ts
 |_=>.bad
def Dc(g:ME K E ta fa):MI K E (FK K ta) (eT fa):=λF H f d R s V q=>by
 unfold eT at q;cases e:fa d with
 |bad=>rw[e]at q;exact q.elim
 |er C n=>rw[e]at q;exact .inl (qr g F H f d R s V (by unfold G4;rw[e];exact q))
 |ok x=>
  rw[e]at q;cases x with
  |lst ts=>exact .inl (qr g F H f d R s V (by unfold G4;rw[e];exact q))
  |scr ns=>exact .inl (qr g F H f d R s V (by unfold G4;rw[e];exact q))
  |tup ts=>exact .inr (Du g F H f d R s V (by unfold HP;rw[e];exact q))
  |_=>exact q.elim
def eP(d:Pm K E X a ta fa)(i:X.K=K:=by rfl):Ci K E X tg a (FK K ta) (eT fa):=by
 subst i;refine⟨λg s f H R I h=>?_,Dc d.me⟩;rcases h with h|h
 .exact vQ d.pe g s f H R I h
 .exact Dp d.pe g s f H R I h
def CN(K:W.Frag)(ta:TA):TI:=λd H R=>∃f g,DK K f g ta d H R
@[simp] noncomputable def seqT:T->M (List T)
 |.lst ts=>.ok ts
 |.scr ns=>.ok (ns.map T.int)
 |.tup ts=>.ok ts
 |_=>.bad
@[simp] noncomputable def m6(fa:Pe->M (List T)):Pe->M (List T):=λf=>(fa f).bind λg=>match g with
 |[x,y]=>(seqT x).bind λh=>(seqT y).bind λd=>.ok (rG h d)
 |_=>.bad
noncomputable def l6:T->Bool
 |.tup _=>true
 |_=>false
def uK x:seqT x=seqB (l6 x) x:=by cases x<;>rfl
def By(h:MA K E tr fr):MI K E (CN K tr) (m6 fr):=λF H g d R s V q=>by
 unfold m6 at q;cases e:fr d with
 |bad=>rw[e]at q;exact q.elim
 |er C n=>rw[e]at q;exact⟨true,true,yO h F H g d R s V (by unfold Es;rw[e];exact q)⟩
 |ok xs=>
  rw[e]at q;match xs,e,q with
  |[],_,q=>exact q.elim
  |[_],_,q=>exact q.elim
  |[x,y],e,q=>refine⟨l6 x,l6 y,yO h F H g d R s V ?_⟩;unfold Es;rw[e];have f:((seqT x).bind λi=>(seqT y).bind λj=>M.ok (rG i j)).res (kI K F H R) (kE E F H):=q;rw[uK x,uK y]at f;exact f
  |_::_::_::_,_,q=>exact q.elim
def m8{x1}(m:X.mg "zip" = none)(f:rR K E X [a,b] tr fr)(i:X.K=K:=by rfl)(j:Gl X "zip" :=by rfl)(k:starEach [a,b] X.env=[(false,eval a X.env),(false,eval b X.env)]:=by rfl)
  (d:starEach [b] X.env=[(false,eval b X.env)]:=by rfl):Ci K E X (.Tuple elts x1 tpos) (.Call (.Name "zip" p) [a,b] [] pos) (CN K tr) (m6 fr):=by
 subst i;refine⟨λl s g H R I h=>?_,By f.ma⟩;obtain⟨n,q,h⟩:=h;exact Ec j m f.pa k d l s g H R I h
def iG(h:X.mg "range" = none)(d:rR K E X [a] tr fr)(f:Gl X "range" :=by rfl)(g:starEach [a] X.env=[(false,eval a X.env)]:=by rfl):r0 K E X tg (.Call (.Name "range" p) [a] [] pos) (zS tr) (ip fr):=⟨wC f h d.pa g,A8 d.ma⟩
def r0.pim(h:r0 K E X tg it w f):Ci K E X tg it w f:=⟨h.pi,h.mi.mi⟩
section
variable {x:Str}{g:TG}{gs:AO}{m:T->Pe->Option Pe}{ms:List T->Pe->Option Pe}{mo:T->En->Option En}{mos:List T->En->Option En}{n:Nat}
def fJ i (j:X.N.Nodup) (f:tO X.env.scope x:=by first|exact Or.inl rfl|exact Or.inr rfl) (h:X.N[i]? = some x:=by rfl) (d:X.fn x=true\/X.env.scope.names.lookup x=some .local:=by first|exact .inl rfl|exact .inr rfl|assumption):Fi K X (.Name x pos) (fH i) (gR i):=⟨vb j h f d,B8⟩
def fW i (j:X.N.Nodup) (f:tO X.env.scope x:=by first|exact Or.inl rfl|exact Or.inr rfl) (h:X.N[i]? = some x:=by rfl) (d:X.fn x=true\/X.env.scope.names.lookup x=some .local:=by first|exact .inl rfl|exact .inr rfl|assumption):EM K X (.Name x pos) (fH i) (jA i):=⟨vb j h f d,ya⟩
def jE:Bz K X [] xf mm:=⟨uW,Bh⟩
def oQ:Ba K X [] xf kU:=⟨uW,yD⟩
def eZ(f:Fi K X e g m)(d:Bz K X es gs ms)(h:(assignEach (e::es) X.env).map (·.2)=assign e X.env::(assignEach es X.env).map (·.2):=by rfl):Bz K X (e::es) (nA g gs) (f7 m ms):=⟨sZ f.pg d.pg h,yb f.mg d.mg⟩
def iZ(f:EM K X e g mo)(d:Ba K X es gs mos)(h:(assignEach (e::es) X.env).map (·.2)=assign e X.env::(assignEach es X.env).map (·.2):=by rfl):Ba K X (e::es) (nA g gs) (fX mo mos):=⟨sZ f.pg d.pg h,xi f.mg d.mg⟩
def mz n (f:X.calm=true) (h:Bz K X es gs ms) (i:X.K=K:=by rfl) (j:(assignEach es X.env).length=n:=by rfl) (d:(assignEach es X.env).findIdx? (·.1)=none:=by rfl):Fi K X (.Tuple es k pos) (xw K n gs) (mw n ms):=by subst i;exact⟨zw f h.pg j d,DG h.mg⟩
def uO n (f:X.calm=true) (h:Ba K X es gs mos) (i:X.K=K:=by rfl) (j:(assignEach es X.env).length=n:=by rfl) (d:(assignEach es X.env).findIdx? (·.1)=none:=by rfl):EM K X (.Tuple es k pos) (xw K n gs) (lp n mos):=by subst i;exact⟨zw f h.pg j d,Cg h.mg⟩
end
section
variable {elt iter:Expr}{ifs:List Expr}{scope:Scope}{N:List Str}{ix:List (Option Nat)}{wi:TI}{g:TG}{tt:TT}{fi:Pe->M (List T)}{m:T->Pe->Option Pe}{ft:Pe->M Bool}
def eK:yo K E X [] DM (λ_=>.ok true):=⟨Ct,Ds⟩
def kj(h:vW K E X c t f):yo K E X [c] t f:=⟨B0 h.pt,h.mt⟩
@[simp] noncomputable def h8(ix:List (Option Nat))(fi:Pe->M (List T))(m:T->Pe->Option Pe)(ft:Pe->M Bool)(fe:Pe->M T):Pe->M (List T):=λf=>(fi f).bind λd=>(if d.length<sizeLine then j9 (l3 m ft fe (jk ix f)) d else .bad).noEr
def Gm(n:X.calm=true)(k:Ci K E X tg iter wi fi)(L:sR X scope N ix)(j:jQ ix g)
  (f:∀C d H h i,Fi K (iY X N scope C d H h i) tg g m/\yo K AU (iY X N scope C d H h i) ifs tt ft/\Pm K AU (iY X N scope C d H h i) elt te fe)
  (r:∀x,foldedSetIterable iter X.env x=pure x:=by intro _;rfl):xq K E X (.ListComp elt [⟨tg,iter,ifs,0⟩] scope pos) (zL ix wi g tt te) (h8 ix fi m ft fe):=by
 obtain⟨q,s,l⟩:=f 0 X.s₀ X.H₀ [] [];exact⟨Gk n k.pi L j (λC d H h i=>⟨(f C d H h i).1.pg,(f C d H h i).2.1.pf,(f C d H h i).2.2.pe⟩) r,CO k.mi q.mg s.mt l.me⟩
end
end
end L3
namespace L3
open PySem L2 PySem.Spec PyProof.Rows
section
variable {K:W.Frag}{E:XK}{X:Cx}{a b c e o tg it:Expr}{es:List Expr}{ta tb tc te to:TE}{fa fb fc fe fo:Pe->M T}{tr:TA}{fr:Pe->M (List T)}{pos pos' p p2 apos:Pos}{st:Stmt}{iN:List Stmt}{t u:TS}{g g':En->O}{ff:Pe->M (List T)}{x:Str}
def eg:ju K E X [] n8 eE:=⟨nq,BB⟩
def dB(h:nZ K E X st t g):ju K E X [st] t g:=⟨kH h.ps,h.ms⟩
def dq(h:nZ K E X st t g)(d:ju K E X iN u g'):ju K E X (st::iN) (ml t u) (dO g g'):=⟨fP h.ps d.ps,EN h.ms d.ms⟩
def vg:nZ K E X st qD (λ_=>.bad):=⟨yZ,xP⟩
def eN(h:Pm K E X e te fe):nZ K E X (.Return (some e) pos) (sO te) (eI fe):=⟨lu h.pe,EU h.me⟩
def oN(h:xq K E X e te ff):nZ K E X (.Return (some e) pos) (sO te) (pJ ff):=⟨lu h.pe,BY h.mf⟩
def AC i (h:PE X (.Name x p) (gQ i)):nZ K E X (.Return (some (.Name x p)) pos) (sO (gQ i)) (nh i):=⟨lu h,xh⟩
def eY{tc:TT}{fc:Pe->M Bool}(d:vW K E X c tc fc)(h:ju K E X A t g)(f:ju K E X B u g'):nZ K E X (.If c A B pos) (xt tc t u) (jo fc g g'):=⟨vp d.pt h.ps f.ps,Gw d.mt h.ms f.ms⟩
def zI{tc:TT}{fc:Pe->M Bool}(d:En->Nat)(i:PassesOwn (model X.prog X.w) X.A X.env X.xe)(f:vW K E X c tc fc)(h:ju K E X A t g):nZ K E X (.While c A [] pos) (uS tc t) (λρ=>iP fc g (d ρ) ρ):=⟨zk i f.pt h.ps,zV d f.mt h.ms⟩
section
variable {w:TI}{fi:Pe->M (List T)}{gt:TG}{m:T->En->Option En}{A:List Stmt}
def jN(i:PassesOwn (model X.prog X.w) X.A X.env X.xe)(j:X.calm=true)(h:Ci K E X tg it w fi)(f:EM K X tg gt m)(d:ju K E X A t g)(k:∀x,foldedSetIterable it X.env x=pure x:=by intro _;rfl):nZ K E X (.For tg it A [] pos) (t6 w gt t) (og fi m g):=⟨tT i j h.pi f.pg d.ps k,EE h.mi f.mg d.ms⟩
def zG j (n:PE X (.Name x p) (gQ j)) (i:PassesOwn (model X.prog X.w) X.A X.env X.xe) (k:X.calm=true) (f:EM K X tg gt m) (d:ju K E X A t g) (q:X.K=K:=by rfl) (s:∀z,foldedSetIterable (.Name x p) X.env z=pure z:=by intro _;rfl):nZ K E X (.For tg (.Name x p) A [] pos) (t6 (vI K (gQ j)) gt t) (kx j m g):=by subst q;exact⟨tT i k (vQ n) f.pg d.ps s,xg (λy H R l v e h r=>⟨_,e,l,rfl,⟨_,ib.of h⟩,r⟩) f.mg d.ms⟩
def jH(i:PassesOwn (model X.prog X.w) X.A X.env X.xe)(j:X.calm=true)(h:r0 K E X tg it w fi)(f:EM K X tg gt m)(d:ju K E X A t g)(k:∀x,foldedSetIterable it X.env x=pure x:=by intro _;rfl):nZ K E X (.For tg it A [] pos) (t6 w gt t) (lr fi m g):=⟨tT i j h.pi f.pg d.ps k,Bv h.mi f.mg d.ms⟩
end
def DZ i (w:X.N.Nodup) (q:tO X.env.scope x)
  (y:X.calm=true) (n:Ci K E X tg iter wi fi) (L:sR X scope N ix) (l:jQ ix gt)
  (f:∀C d H h j,Fi K (iY X N scope C d H h j) tg gt m/\yo K AU (iY X N scope C d H h j) ifs tt ft/\Pm K AU (iY X N scope C d H h j) elt te fe)
  (A:MF K E (zL ix wi gt tt te) (h8 ix fi m ft fe)->MS K E (ji (zL ix wi gt tt te) (fH i)) gm)
  (z:X.N[i]? = some x:=by rfl) (D:X.fn x=true\/X.env.scope.names.lookup x=some .local:=by first|exact .inl rfl|exact .inr rfl)
  (k:swapsWith (.ListComp elt [⟨tg,iter,ifs,0⟩] scope pos) (some (.Name x py)) spos.line X.env=pure true:=by rfl)
  (B:∀x,foldedSetIterable iter X.env x=pure x:=by intro _;rfl):nZ K E X (.Assign [.Name x py] (.ListComp elt [⟨tg,iter,ifs,0⟩] scope pos) spos) (ji (zL ix wi gt tt te) (fH i)) gm:=by
 obtain⟨r,s,v⟩:=f 0 X.s₀ X.H₀ [] [];exact⟨zC w z q y n.pi L l (λC d H h j=>⟨(f C d H h j).1.pg,(f C d H h j).2.1.pf,(f C d H h j).2.2.pe⟩) D k B,A (CO n.mi r.mg s.mt v.me)⟩
def e6 i (l:X.N.Nodup) (h:Pm K E X e te fe) (d:tO X.env.scope x:=by first|exact Or.inl rfl|exact Or.inr rfl) (k:X.N[i]? = some x:=by rfl) (j:swapsWith e (some (.Name x pos')) pos.line X.env=pure false:=by rfl) (f:X.fn x=true\/X.env.scope.names.lookup x=some .local:=by first|exact .inl rfl|exact .inr rfl|assumption) :
  nZ K E X (.Assign [.Name x pos'] e pos) (ji te (fH i)) (setO i (f9 fe)):=⟨jO l k d h.pe j f,vL h.me⟩
def Az i (l:X.N.Nodup) (h:Pm K E X e te fe) (d:tO X.env.scope x:=by first|exact Or.inl rfl|exact Or.inr rfl) (k:X.N[i]? = some x:=by rfl) (j:swapsWith e (some (.Name x pos')) pos.line X.env=pure false:=by rfl) (f:X.fn x=true\/X.env.scope.names.lookup x=some .local:=by first|exact .inl rfl|exact .inr rfl|assumption) :
  nZ K E X (.Assign [.Name x pos'] e pos) (ji te (fH i)) (setO i (mH fe)):=⟨jO l k d h.pe j f,BW h.me⟩
def sf i (l:X.N.Nodup) (h:xq K E X e te ff) (d:tO X.env.scope x:=by first|exact Or.inl rfl|exact Or.inr rfl) (k:X.N[i]? = some x:=by rfl) (j:swapsWith e (some (.Name x pos')) pos.line X.env=pure false:=by rfl) (f:X.fn x=true\/X.env.scope.names.lookup x=some .local:=by first|exact .inl rfl|exact .inr rfl|assumption) :
  nZ K E X (.Assign [.Name x pos'] e pos) (ji te (fH i)) (jR i (lJ ff)):=⟨jO l k d h.pe j f,rQ h.mf⟩
def yj i (l:X.N.Nodup) (h:xq K E X e te ff) (d:tO X.env.scope x:=by first|exact Or.inl rfl|exact Or.inr rfl) (k:X.N[i]? = some x:=by rfl) (j:swapsWith e (some (.Name x pos')) pos.line X.env=pure false:=by rfl) (f:X.fn x=true\/X.env.scope.names.lookup x=some .local:=by first|exact .inl rfl|exact .inr rfl|assumption) :
  nZ K E X (.Assign [.Name x pos'] e pos) (ji te (fH i)) (jR i (ue ff)):=⟨jO l k d h.pe j f,BK h.mf⟩
def lW(h:MF K E te ff):MS K E (ji te (fH i)) (setO i (f9 λρ=>(ff ρ).bind λts=>.ok (.lst ts))):=vL h.me
def Av(h:H l=some (.lst xs)):Gg K "list" (.ref l) H:=.inl ⟨rfl,_,ib.of h⟩
def l7 i (q:PE X (.Name x p) (gQ i)) (n:Pm K E X e te fe) (m:starEach [e] X.env=(false,eval e X.env)::starEach [] X.env:=by rfl) (r:X.K=K:=by rfl)
  (f:attributeBase (.Name x p) "append" X.env (eval (.Name x p) X.env)=eval (.Name x p) X.env:=by rfl)
  (j:((backTo pos (starEach [e] X.env)).all (λx=>!x.1)&&(backToKw pos (keywordEach [] X.env)).all (λx=>x.1.isSome)&&decide (([e]:List Expr).length+([]:List Keyword).length+(if ([]:List Keyword).isEmpty then 0 else 1)<30))=true:=by rfl)
  (d:(apos.endLine==pos.line)=true:=by rfl) (hplain:(backTo pos (starEach [] X.env)).any (·.1)=false:=by rfl) (k:swapsWith (.Call (.Attribute (.Name x p) "append" apos) [e] [] pos) none pos'.line X.env=pure false:=by rfl) :
  nZ K E X (.Expr (.Call (.Attribute (.Name x p) "append" apos) [e] [] pos) pos') (mM (Cm K i te)) (nG i (f9 fe)):=by
 subst r;exact⟨ng (vh PySem.F.plainAttrs_list PySem.F.slot_list_append PySem.F.type_list_append mv q (dz n.pe eF m) f j d m hplain) k,A0 (λl s H h=>Av h) n.me⟩
def vS i (f:PE X (.Name x p) (gQ i)) (d:Pm K E X b tb fb) (h:Pm K E X e te fe)
  (k:∀v,assign (.Subscript (.Name x p) b p2) X.env v=(do
   let ov <-holding [v] (eval (.Name x p) X.env)
   let iv <-holding [v,ov] (eval b X.env)
   standAt p2
   holding [v,ov,iv] (setItem ov iv v)
   release [v,ov,iv] []):=by intro _;rfl)
  (j:swapsWithSole [.Subscript (.Name x p) b p2] e pos.line X.env=pure false:=by rfl) (hw:swappedStores [.Subscript (.Name x p) b p2] e X.env=pure none:=by rfl)
  (l:(assignEach [.Subscript (.Name x p) b p2] X.env).map (·.2)=[assign (.Subscript (.Name x p) b p2) X.env]:=by rfl) :
  nZ K E X (.Assign [.Subscript (.Name x p) b p2] e pos) (ji te (EI (gQ i) tb wb)) (qF i (mH fb) (mH fe)):=⟨yn h.pe (DE f d.pe yN k) j hw l,Ea h.me d.me⟩
def sH(h:Pm K E X e te fe)(d:swapsWith e none pos.line X.env=pure false:=by rfl):nZ K E X (.Expr e pos) (mM te) (qm (f9 fe)):=⟨ng h.pe d,zj h.me⟩
end
section
variable {P:Program}{w:World}{K:W.Frag}{mg:Str->Option Value}{base:Heap}{x:Str}{st:Stmt}{N ps:List Str}{k:Nat}{g:En->O}
def Hg(D:dN K mg x st)(S:eB N ps (dt st))
  (e:∀(kV c j:Vq) (d:Oq Addr) (b l:Vq) (us:List Vq),us.length=ps.length->bindArgs (W.fnOf x x (eV st) (dU st) (dt st) .none kV c j d b l) ⟨us,[]⟩=pure (ps.zip us))
  (i:∀(f:Addr) (b:Vq) (A:Around) (a:List Env) (s:Sq) (H:Hp) (E:XK),eD k (A.deeper (envOfC x (dt st) s.heap.objs.size f b))->∃t,ju K E (fK mx P w K mg base N x (dt st) f b A a s H E).nox (dU st) t g) :
  hU P w K mg base x (k+1) (lG K (je ps.length N.length g)):=
 rN D S e (λm H Q E h=>oo h) λf b A a s H m Q E hr h=>let ⟨t,hp⟩:=i f b A a s H E hr;⟨t,hp.ps,nr hp.ms h⟩
def HA(D:dN K mg x st)(S:eB N ps (dt st))
  (e:∀(kV c j:Vq) (d:Oq Addr) (b l:Vq) (us:List Vq),us.length=ps.length->bindArgs (W.fnOf x x (eV st) (dU st) (dt st) .none kV c j d b l) ⟨us,[]⟩=pure (ps.zip us))
  (i:∀(f:Addr) (b:Vq) (A:Around) (a:List Env) (s:Sq) (H:Hp) (E:XK),eD k (A.deeper (envOfC x (dt st) s.heap.objs.size f b))->∃t,ju K E (fK mx P w K mg base N x (dt st) f b A a s H E).nox (dU st) t g) :
  hU P w K mg base x (k+1) (tP K (wZ ps.length N.length g)):=
 rN D S e (λm H Q E h=>vz h) λf b A a s H m Q E hr h=>let ⟨t,hp⟩:=i f b A a s H E hr;⟨t,hp.ps,tE hp.ms h⟩
end
end L3
namespace L3
open PySem L2 PySem.Spec PyProof.Rows
section
variable {K:W.Frag}{E:XK}{X:Cx}{a b c e o tg it:Expr}{es:List Expr}{ta tb tc te to:TE}{fa fb fc fe fo:Pe->M T}{tr:TA}{fr:Pe->M (List T)}{pos p p2 apos:Pos}
@[simp] noncomputable def eQ(f:Pe->M (List T)):Pe->M T:=λg=>(f g).bind λd=>.ok (.lst d)
def ei(f:X.K=K:=by rfl):gW X (.builtin "len") (λd H Q=>∃x n,d=[x]/\E3 K x H n/\Q (.int n) H):=f▸AJ
def kK(d:X.calm=true)(g:X.K=K:=by rfl):gW X (.builtin "all") (λf H Q=>∃(p:Addr) (bs:List Bool),f=[.ref p]/\ib K H p (bs.map V.bl)/\Q (.bl (bs.all id)) H):=g▸Ae d
def jC(d:X.calm=true)(g:X.K=K:=by rfl):gW X (.builtin "any") (λf H Q=>∃p vs bs,f=[.ref p]/\(ib K H p vs\/jd K H p vs)/\iM vs=some bs/\Q (.bl (bs.any id)) H):=g▸xo d
def fM(g:X.K=K:=by rfl):gW X (.type "tuple") (λf H Q=>∃p d,f=[.ref p]/\((ib K H p d/\∀l,H l=none->Q (.ref l) (fw H l (.tup d)))\/(jd K H p d/\Q (.ref p) H))):=g▸px
def iy(g:X.K=K:=by rfl):gW X (.type "list") (λf H Q=>∃p d,f=[.ref p]/\(ib K H p d\/jd K H p d)/\∀l,H l=none->Q (.ref l) (fw H l (.lst d))):=g▸qU
def Bt:T->Option Bool
 |.bl b=>some b
 |.int i=>some (i != 0)
 |_=>none
def lq:List T->Option (List Bool)
 |[]=>some []
 |v::vs=>(Bt v).bind λb=>(lq vs).bind λr=>some (b::r)
theorem qu:∀{vs} {ts},dM K F vs ts->iM vs=lq ts
 |_,_,.nil=>rfl
 |v::vs,t::ts,.cons h r=>by
  have e:sv v=Bt t:=by cases h<;>rfl
  rw[iM,lq,qu r,e]
@[simp] theorem tV(d:LI):lq (d.map T.int)=some (d.map λn=>n != 0):=by
 induction d with
 |nil=>rfl
 |cons n d ih=>simp[lq,Bt,ih]
@[simp] theorem Fg ns:lq (ns.map T.bl)=some ns:=by
 induction ns with
 |nil=>rfl
 |cons n ns ih=>simp[lq,Bt,ih]
@[simp] noncomputable def lH(ts:List T):M T:=match lq ts with
 |some bs=>.ok (.bl (bs.any id))
 |none=>.bad
@[simp] noncomputable def l9:List T->M T
 |[.lst ts]=>lH ts
 |[.tup ts]=>lH ts
 |_=>.bad
def zU ts:M.NoE (lH ts):=λC n=>by unfold lH;split<;>intro z<;>cases z
def Bo xs:M.NoE (l9 xs):=λC n=>by unfold l9;split<;>first|exact zU _ C n|(intro z;cases z)
def oB:MC K (λf H Q=>∃p vs bs,f=[.ref p]/\(ib K H p vs\/jd K H p vs)/\iM vs=some bs/\Q (.bl (bs.any id)) H) l9:=⟨Bo,λF H vs f Q s r q=>by
 cases r with
 |nil=>exact q.elim
 |cons h t=>
  cases t with
  |cons _ _=>cases h<;>exact q.elim
  |nil=>
   cases h with
   |lst h r=>
    rename_i a f g;have d:(lH g).res (kV K F H Q) (λ_ _=>False):=q;unfold lH at d;cases e:lq g with
    |none=>rw[e]at d;exact d.elim
    |some bs=>rw[e]at d;exact⟨a,f,bs,rfl,.inl (ib.of (s _ _ h)),by rw[qu r];exact e,kV.now d s (.bl _)⟩
   |tup h r=>
    rename_i a f g;have d:(lH g).res (kV K F H Q) (λ_ _=>False):=q;unfold lH at d;cases e:lq g with
    |none=>rw[e]at d;exact d.elim
    |some bs=>rw[e]at d;exact⟨a,f,bs,rfl,.inr (jd.of (s _ _ h)),by rw[qu r];exact e,kV.now d s (.bl _)⟩
   |_=>exact q.elim⟩
def C6:Pm K E X (.Dict [] [] pos) Ap (cM .emp):=⟨zq,λF H f g Q s V q p d=>q (.ref p) _ _ (.new s d) (.emp dA)⟩
noncomputable def ll(d:List T):List T:=(d.zipIdx).map λp=>T.tup [.int (p.2:Int),p.1]
def yQ(K:W.Frag)(ta:TA):TI:=λd H R=>∃b,AI K b ta d H R
@[simp] noncomputable def nK(fa:Pe->M (List T)):Pe->M (List T):=λg=>(fa g).bind λd=>match d with
 |[x]=>(seqT x).bind λf=>.ok (ll f)
 |_=>.bad
def A6{b:Bool}(f:∀H,dG F H->oW K H b l xs)(d:dM K F xs ts):rm K (HG K b l) (ll ts) F where
 go:=λi H s w=>by
  have j:i<ts.length:=by simpa[ll] using w
  have h:xs[i]? = some (xs[i]'(by rw[d.length];exact j)):=ag _;exact⟨xs,_,f H s,h⟩
 stop:=λH s=>⟨xs,f H s,by simp[ll,d.length]⟩
 yld:=λi t A H x z m k e y=>by
  obtain⟨p,q,rfl,v,rfl,h⟩:=y;obtain⟨r,n,u⟩:=d.at_ (h xs (f H (m.trans k)));have:t=.tup [.int i,r]:=by unfold ll at e;rw[aw,List.getElem?_zipIdx,n]at e;simp at e;exact e.symm
  rw[this];have g:=Gr.new (o:=.tup [.int i,q]) k v;exact⟨_,g,.tup dA (.cons (.int _) (.cons ((u.mono m).mono g.ff) .nil))⟩
noncomputable def uV(b:Bool)(fa:Pe->M (List T)):Pe->M (List T):=λd=>(fa d).bind λf=>match f with
 |[x]=>(seqB b x).bind λg=>.ok (ll g)
 |_=>.bad
def sq{b:Bool}(r:MA K E tr fr):MI K E (AI K b tr) (uV b fr):=λF H w y R s V q=>by
 refine r.run s V q λu v t j g i d=>?_;split at d
 .rename_i x;cases i with
  |cons a c=>
   cases c;cases f:seqB b x with
   |bad=>rw[f]at d;exact d.elim
   |er C n=>exact absurd f qR
   |ok ts=>rw[f]at d;obtain⟨m,k,rfl,h,l⟩:=qT a f;exact⟨m,rfl,⟨k,h _ g.fh⟩,d _ t j g (A6 h l)⟩
 .exact d.elim
def Cq(h:MA K E tr fr):MI K E (yQ K tr) (nK fr):=λF H g d R s V q=>by
 unfold nK at q;cases e:fr d with
 |bad=>rw[e]at q;exact q.elim
 |er C n=>rw[e]at q;exact⟨true,sq h F H g d R s V (by unfold uV;rw[e];exact q)⟩
 |ok xs=>
  rw[e]at q;match xs,e,q with
  |[],_,q=>exact q.elim
  |[x],e,q=>refine⟨l6 x,sq h F H g d R s V ?_⟩;unfold uV;rw[e];have f:((seqT x).bind λi=>M.ok (ll i)).res (kI K F H R) (kE E F H):=q;rw[uK x]at f;exact f
  |_::_::_,_,q=>exact q.elim
def Cr{x1}(l:X.mg "enumerate" = none)(d:rR K E X [a] tr fr)(g:X.K=K:=by rfl)(i:Gl X "enumerate" :=by rfl)(j:starEach [a] X.env=[(false,eval a X.env)]:=by rfl) :
  Ci K E X (.Tuple elts x1 tpos) (.Call (.Name "enumerate" p) [a] [] pos) (yQ K tr) (nK fr):=by
 subst g;refine⟨λk s f H R I h=>?_,Cq d.ma⟩;obtain⟨b,h⟩:=h;exact yy i l d.pa j k s f H R I h
end
structure Bs(mg:Str->Option Value):Prop where
 abs:mg "abs" = none
 isinstance:mg "isinstance" = none
 int:mg "int" = none
 bool:mg "bool" = none
 len:mg "len" = none
 range:mg "range" = none
 tuple:mg "tuple" = none
 list:mg "list" = none
 str:mg "str" = none
 all:mg "all" = none
 any:mg "any" = none
 sum:mg "sum" = none
 zip:mg "zip" = none
 max:mg "max" = none
 min:mg "min" = none
 enumerate:mg "enumerate" = none
 reversed:mg "reversed" = none
 set:mg "set" = none
 dict:mg "dict" = none
 sorted:mg "sorted" = none
def iV:bootBuiltins "list" = some (.type "list"):=by decide +kernel
end L3
namespace L3
open PySem L2
section
variable {α:Type}
theorem pH enc f:∀(l:List α),(∀a∈l,k (enc a)=.ok (some (f a)))->j9 k (l.map enc)=.ok (l.map f)
 |[],_=>rfl
 |a::l,h=>by rw[bB,j9,h a (by simp),M.bind_ok,pH enc f l λb c=>h b (by simp[c])];rfl
theorem lS enc f p:∀(l:List α),(∀a∈l,k (enc a)=.ok (if p a then some (f a) else none))->j9 k (l.map enc)=.ok ((l.filter p).map f)
 |[],_=>rfl
 |a::l,h=>by
  rw[bB,j9,h a (by simp),M.bind_ok,lS enc f p l λb d=>h b (by simp[d])];by_cases c:p a=true
  .simp[c]
  .simp[c]
theorem iw enc (P:Nat->En->Prop):∀(l:List α) (k:Nat) (ρ:En),P k ρ->
  (∀i a ρ,l[i]? = some a->P (k+i) ρ->∃d c,m (enc a) ρ=some d/\(g d=.nx c\/g d=.ct c)/\P (k+i+1) c)->∃ρ',eX m g (l.map enc) ρ=.nx ρ'/\P (k+l.length) ρ'
 |[],k,ρ,h,_=>⟨ρ,rfl,h⟩
 |a::l,k,ρ,h,st=>by
  obtain⟨d,c,o,f,p⟩:=st 0 a ρ rfl h;obtain⟨ρ',e,q⟩:=iw enc P l (k+1) c p λi b ρ j n=>by have:=st (i+1) b ρ (by simpa using j) (by rw[show k+(i+1)=k+1+i by omega];exact n);rw[show k+1+i+1=k+(i+1)+1 by omega];exact this
  refine⟨ρ',?_,by rw[az,show k+(l.length+1)=k+1+l.length by omega];exact q⟩;rw[bB,eX,o];rcases f with f|f<;>(dsimp only;rw[f];exact e)
theorem kC enc (P:En->Prop):∀(l:List α) (ρ:En),P ρ->
  (∀a∈l,∀ρ,P ρ->∃d c,m (enc a) ρ=some d/\(g d=.nx c\/g d=.ct c)/\P c)->∃ρ',eX m g (l.map enc) ρ=.nx ρ'/\P ρ'
 |[],ρ,h,_=>⟨ρ,rfl,h⟩
 |a::l,ρ,h,st=>by obtain⟨d,c,k,f,n⟩:=st a (by simp) ρ h;obtain⟨ρ',e,o⟩:=kC enc P l c n λb i ρ j=>st b (by simp[i]) ρ j;refine⟨ρ',?_,o⟩;rw[bB,eX,k];rcases f with f|f<;>(dsimp only;rw[f];exact e)
theorem ly(P:En->Prop)(b:En->Nat)(R:En->Prop)(st:∀ρ,P ρ->(c (vw ρ)=.ok false/\R ρ)\/(c (vw ρ)=.ok true/\∃a,(g ρ=.nx a\/g ρ=.ct a)/\P a/\b a<b ρ)) :
  ∀n ρ,P ρ->b ρ<n->∃ρ',iP c g n ρ=.nx ρ'/\R ρ'
 |0,ρ,_,h=>absurd h (cC _)
 |n+1,ρ,hP,hn=>by
  rcases st ρ hP with⟨e,r⟩|⟨e,a,d,f,j⟩
  .exact⟨ρ,by rw[iP,e];rfl,r⟩
  .obtain⟨ρ',i,r⟩:=ly P b R st n a f (by omega);refine⟨ρ',?_,r⟩;rw[iP,e,O.of_ok,aQ rfl];rcases d with d|d<;>(rw[d];exact i)
end
def rd{j:Type}(l:List j) enc f (o:fi ρ=.ok (l.map enc)) (c:l.length<sizeLine)
  (d:∀a∈l,∃b,m (enc a) (jk ix ρ)=some b/\ft b=.ok true/\fe b=.ok (f a)):h8 ix fi m ft fe ρ=.ok (l.map f):=by
 have h:=pH (k:=l3 m ft fe (jk ix ρ)) enc f l λa n=>by obtain⟨b,g,e,i⟩:=d a n;unfold l3;rw[g];dsimp only;rw[e,M.bind_ok,aQ rfl,i];rfl
 unfold h8;rw[o,M.bind_ok,ax,aQ c,h];rfl
theorem uP{n:Type}(l:List n) enc f p (q:fi ρ=.ok (l.map enc)) (c:l.length<sizeLine)
  (d:∀a∈l,∃b,m (enc a) (jk ix ρ)=some b/\ft b=.ok (p a)/\(p a=true->fe b=.ok (f a))):h8 ix fi m ft fe ρ=.ok ((l.filter p).map f):=by
 have h:=lS (k:=l3 m ft fe (jk ix ρ)) enc f p l λa o=>by
  obtain⟨b,i,g,j⟩:=d a o;unfold l3;rw[i];dsimp only;rw[g,M.bind_ok];cases e:p a with
  |true=>rw[aQ rfl,aQ rfl,j e];rfl
  |false=>rw[aR aH,aR aH]
 unfold h8;rw[q,M.bind_ok,ax,aQ c,h];rfl
def h7{e:Type}(l:List e) enc f (g:fi ρ=.ok (l.map enc)) (c:l.length<sizeLine)
  (d:∀a∈l,∃b,m (enc a) (jk ix ρ)=some b/\ft b=.ok true/\fe b=.ok (f a)) (hr:l.map f=ts):h8 ix fi m ft fe ρ=.ok ts:=by rw[<-hr];exact rd l enc f g c d
def ot{e:Type}(l:List e) enc f p (g:fi ρ=.ok (l.map enc)) (c:l.length<sizeLine)
  (d:∀a∈l,∃b,m (enc a) (jk ix ρ)=some b/\ft b=.ok (p a)/\(p a=true->fe b=.ok (f a))) (hr:(l.filter p).map f=ts):h8 ix fi m ft fe ρ=.ok ts:=by rw[<-hr];exact uP l enc f p g c d
def sX lo n:oj lo n=(List.range n).map λ(i:Nat)=>T.int (lo+(i:Int)):=rfl
noncomputable def tI(a:LI):T:=.tup (a.map T.int)
def tL(a:LI):T:=.lst (a.map T.int)
def qY(l:List α)(i:Int)(b:0<=i)(c:i<l.length):∃a,md l i=some a/\a∈l:=by
 unfold md sM;rw[aQ b,aQ c];have d:i.toNat<l.length:=by omega
 exact⟨l[i.toNat],by simp[d],aV _⟩
def gU(h:PySem.IntMulOk i j):iR (.int i) (.int j)=.ok (.int (i*j)):=by simp[iR,hZ,h]
def oH(h:j≠0)(a:Builtin.divisionGoesByPylong i j=false):nM (.int i) (.int j)=.ok (.int (i.fdiv j)):=by simp[nM,hZ,h,a]
def lN(h:j≠0):n5 (.int i) (.int j)=.ok (.int (i.fmod j)):=by simp[n5,hZ,h]
@[simp] theorem eG i j:fO (.int i) (.int j)=.ok (.int (i+j)):=rfl
@[simp] theorem oR i j:nO (.int i) (.int j)=.ok (.int (i-j)):=rfl
@[simp] theorem G9 i j:GD (.int i) (.int j)=.ok (.bl (decide (i<j))):=rfl
@[simp] theorem GV i j:Gx (.int i) (.int j)=.ok (.bl (decide (i<=j))):=rfl
@[simp] theorem GX i j:Fk (.int i) (.int j)=.ok (.bl (decide (j<i))):=rfl
@[simp] theorem BV i j:Ge (.int i) (.int j)=.ok (.bl (decide (j<=i))):=rfl
@[simp] theorem eC i j:d7 false (.int i) (.int j)=.ok (.bl (i==j)):=by simp[d7,lE,kr]
@[simp] theorem lL i j:d7 true (.int i) (.int j)=.ok (.bl (!(i==j))):=by simp[d7,lE,kr]
def wF(h:i.natAbs<2 ^ 64):PySem.IntMulOk i j:=IntMulOk.of_left (PyProof.Rows.intBits_le h)
def Bn(n:Nat)(x:Int):Prop:=x.natAbs<2 ^ n
def Bn.mono(h:Bn m x)(a:m<=n):Bn n x:=aE h (cD (by decide) a)
def Bn.mul(h:Bn m x)(a:Bn n y):Bn (m+n) (x*y):=by unfold Bn at *;rw[aY,Nat.pow_add];exact Nat.mul_lt_mul'' h a
def Bn.add(h:Bn m x)(c:Bn n y):Bn (max m n+1) (x+y):=by have a:Bn (max m n) x:=h.mono (Nat.le_max_left _ _);have b:Bn (max m n) y:=c.mono (Nat.le_max_right _ _);unfold Bn at *;rw[cE];have:=cF x y;omega
def Bn.neg(h:Bn m x):Bn m (-x):=by unfold Bn at *;rw[Int.natAbs_neg];exact h
def Bn.sub(h:Bn m x)(a:Bn n y):Bn (max m n+1) (x-y):=by rw[cG];exact h.add a.neg
def Bn.ok(h:Bn m x)(b:Bn n y)(c:m<=2 ^ 20)(a:n<=2 ^ 20):PySem.IntMulOk x y:=IntMulOk.of_bits (aN (PyProof.Rows.intBits_le h) c) (aN (PyProof.Rows.intBits_le b) a)
def Bn.noPy(h:Bn n y)(a:n<=8000):Builtin.divisionGoesByPylong x y=false:=Cu.noPy (PyProof.Rows.intBits_le h) a
section
variable {a b g:En->O}{ρ ρ':En}{r:O}{fc:Pe->M Bool}{f:Pe->M T}{ff:Pe->M (List T)}{t:T}{ts:List T}{k n i:Nat}
def du(d:a ρ=.nx ρ')(c:b ρ'=r):dO a b ρ=r:=by unfold dO;rw[d];exact c
def iC(c:a ρ=.rt t)(hr:.rt t=r):dO a b ρ=r:=by unfold dO;rw[c];exact hr
def fv(h:fc (vw ρ)=.ok true)(c:a ρ=r):jo fc a b ρ=r:=by unfold jo;rw[h];exact c
def eR(h:fc (vw ρ)=.ok false)(c:b ρ=r):jo fc a b ρ=r:=by unfold jo;rw[h];exact c
def dX(h:f (mS ρ)=.ok t)(hr:ρ'=ρ.set i (some (.p t))):setO i (f9 f) ρ=.nx ρ':=by unfold setO f9;rw[h,hr];rfl
def BG(h:f (vw ρ)=.ok t)(c:lf t=true)(hr:ρ'=ρ.set i (some (.p t))):setO i (mH f) ρ=.nx ρ':=by unfold setO mH;rw[h,hr];simp[c]
def kn(h:ff (mS ρ)=.ok ts)(hr:ρ'=ρ.set i (some (.o ts))):jR i (lJ ff) ρ=.nx ρ':=by unfold jR lJ;rw[h,hr];rfl
def Bx(h:ff (vw ρ)=.ok ts)(c:AS ts=true)(hr:ρ'=ρ.set i (some (.o ts))):jR i (ue ff) ρ=.nx ρ':=by unfold jR ue;rw[h,hr];simp[c]
def qW(d:ρ[i]? = some (some (.o us)))(h:f (mS ρ)=.ok t)(c:us.length<sizeLine)(hr:ρ'=ρ.set i (some (.o (us++[t])))):nG i (f9 f) ρ=.nx ρ':=by unfold nG f9 iK;rw[d,h,hr];simp[c]
def Ab(e:ρ[i]? = some (some (.o us)))(h:f (vw ρ)=.ok t)(c:lf t=true)(d:fk (vw ρ)=.ok (.int j))(l:sM us.length j=some m)(hr:ρ'=ρ.set i (some (.o (us.set m t)))):qF i (mH fk) (mH f) ρ=.nx ρ':=by unfold qF mH iK;rw[e,h,d,hr];simp[c,l]
def dY(h:f (vw ρ)=.ok t):eI f ρ=.rt t:=by unfold eI;rw[h];rfl
def vE(h:ff (vw ρ)=.ok ts):pJ ff ρ=.rf ts:=by unfold pJ;rw[h];rfl
def jU(h:fi (mS ρ)=.ok its)(c:eX m g its ρ=r):og fi m g ρ=r:=by unfold og;rw[h];exact c
def jl(h:fi (vw ρ)=.ok its)(c:eX m g its ρ=r):lr fi m g ρ=r:=by unfold lr;rw[h];exact c
def wJ(e:ρ[j]? = some (some (.o us)))(h:vD j us (eX m g us (ρ.set j none))=r):kx j m g ρ=r:=by unfold kx;rw[e];exact h
def eA(c:ts.length=k)(h:g (ee n ts)=.rt t):je k n g ts=.ok t:=by unfold je;rw[aQ c,h];rfl
def FR(c:ts.length=k)(h:g (ee n ts)=.er C m):je k n g ts=.er C m:=by unfold je;rw[aQ c,h];rfl
def ui(c:ts.length=k)(h:g (ee n ts)=.rf us):wZ k n g ts=.ok us:=by unfold wZ;rw[aQ c,h];rfl
end
def B7 n:oj 0 n=(List.range n).map λ(i:Nat)=>T.int (i:Int):=by simp[oj]
theorem ko{c:Type} f:∀(l:List c),(∀a∈l,lE (f a)=true)->kQ (l.map f)=true
 |[],_=>rfl
 |a::l,h=>by rw[bB,kQ,h a (by simp),ko f l λb d=>h b (by simp[d])];rfl
theorem kh{d:Type} f n:∀(l:List d),(∀a∈l,rS (f a)<=n)->lC (l.map f)<=n
 |[],_=>bD _
 |a::l,h=>by rw[bB,mC];have g:=h a (by simp);have e:=kh f n l λb c=>h b (by simp[c]);omega
@[simp] theorem xy(a:LI):kQ (a.map T.int)=true:=ko _ _ λ_ _=>rfl
def my(a:LI):lC (a.map T.int)<=0:=kh _ _ _ λ_ _=>aK _
@[simp] theorem C7 ns:lE (tI ns)=true:=by simp[tI,lE]
def DL ns:rS (tI ns)<=1:=by unfold tI;rw[rh];have:=my ns;omega
@[simp] theorem GH(l:LL):kQ (l.map tI)=true:=ko _ _ λ_ _=>C7 _
def rW(l:LL):lC (l.map tI)<=1:=kh _ _ _ λ_ _=>DL _
@[simp] theorem yC l:nS l []=l.isEmpty:=by cases l<;>rfl
theorem rY{d:Type} f (c:∀a b,wx (f a) (f b)=true↔a=b):∀(l m:List d),nS (l.map f) (m.map f)=true↔l=m
 |[],[]=>by simp[kD]
 |[],b::m=>⟨λz=>(nomatch (show false=true from z)),λz=>nomatch z⟩
 |a::l,[]=>by simp[kD]
 |a::l,b::m=>by rw[bB,bB,kD,bM,c a b,rY f c l m];simp
def pV(l m:LI):nS (l.map T.int) (m.map T.int)=decide (l=m):=by
 have h:=rY T.int (λa b=>by simp[kr]) l m;by_cases e:l=m
 .rw[aC e];exact h.mpr e
 .rw[aB e];cases c:nS (l.map T.int) (m.map T.int) with
  |false=>rfl
  |true=>exact absurd (h.mp c) e
def An neg (l m:LI):d7 neg (.lst (l.map T.int)) (.lst (m.map T.int))=.ok (.bl (if neg then !decide (l=m) else decide (l=m))):=by have h:=my l;unfold d7;rw[aQ (by simp[lE];omega),vO,pV]
def nc neg ts (h:kQ ts=true) (a:lC ts<=90):d7 neg (.lst ts) (.lst [])=.ok (.bl (if neg then !ts.isEmpty else ts.isEmpty)):=by unfold d7;rw[aQ (by simp[lE,h,kQ];omega),vO,yC]
def yU{b a:Type} f (g:a->T) (l:List b) m:rG (l.map f) (m.map g)=(l.zip m).map λp=>T.tup [f p.1,g p.2]:=by unfold rG;rw[List.zip_map,aI];rfl
theorem vn{c:Type} f:∀(l:List c),(∀a∈l,lf (f a)=true)->AS (l.map f)=true
 |[],_=>rfl
 |a::l,h=>by rw[bB,AS,h a (by simp),vn f l λb d=>h b (by simp[d])];rfl
@[simp] theorem AH(a:LI):AS (a.map T.int)=true:=vn _ _ λ_ _=>rfl
@[simp] theorem GE ns:lf (tI ns)=true:=by simp[tI]
section
variable {α:Type}{fe fd fl:Pe->M T}{ρ:Pe}{ts:List T}{d k:Nat}
def pQ(l:List α)(d:Nat):kq l none (some (d:Int))=l.take d:=by
 unfold kq;rw[HT.sIx_none,HT.sIx_nat,List.drop_zero,Nat.sub_zero];by_cases h:d<=l.length
 .rw[Nat.min_eq_left h]
 .rw[Nat.min_eq_right (by omega),cH (aK _),cH (by omega)]
def xj(l:List α)(d:Nat):kq l (some (d:Int)) none=l.drop d:=by
 unfold kq;rw[HT.sIx_none,HT.sIx_nat];by_cases h:d<=l.length
 .rw[Nat.min_eq_left h,cH (by simp)]
 .rw[Nat.min_eq_right (by omega),cI (aK _),cI (by omega),List.take_nil]
def nV(h:fe ρ=.ok (.tup ts))(a:fd ρ=.ok (.int (d:Int)))(b:d<=ts.length):j3 fe (λ_=>.ok none) (ir fd) ρ=.ok (.tup (ts.take d)):=by simp only[j3,ir,h,a,M.bind_ok,pQ]
def wA(h:fe ρ=.ok (.lst ts))(a:fd ρ=.ok (.int (d:Int))):j3 fe (λ_=>.ok none) (ir fd) ρ=.ok (.lst (ts.take d)):=by simp only[j3,ir,h,a,M.bind_ok,pQ]
def wD(h:fe ρ=.ok (.lst ts))(a:fd ρ=.ok (.int (d:Int))):j3 fe (ir fd) (λ_=>.ok none) ρ=.ok (.lst (ts.drop d)):=by simp only[j3,ir,h,a,M.bind_ok,xj]
def l4(h:lc ρ=.ok ts)(hr:o [.lst ts]=r):ia o (dg (eQ lc) dm) ρ=r:=by simp only[ia,dg,dm,eQ,h,M.bind_ok];exact hr
def jb(h:f ρ=.ok t)(hr:o [t]=r):ia o (dg f dm) ρ=r:=by simp only[ia,dg,dm,h,M.bind_ok];exact hr
def fI(h:lc ρ=.ok ts):eQ lc ρ=.ok (.lst ts):=by simp only[eQ,h,M.bind_ok]
def xU(h:fe ρ=.ok (.tup ts)):eT fe ρ=.ok ts:=by simp only[eT,h,M.bind_ok]
def tz(h:fe ρ=.ok (.lst ts)):eT fe ρ=.ok ts:=by simp only[eT,h,M.bind_ok]
def d8(h:fe ρ=.ok (.bl b)):eW fe ρ=.ok b:=by simp only[eW,h,M.bind_ok]
def iS(h:fc ρ=.ok b)(hr:(!b)=r):L3.jr fc ρ=.ok r:=by simp only[L3.jr,h,M.bind_ok,hr]
def dy(a:fa ρ=.ok x)(b:fb ρ=.ok y)(hr:o x y=r):dI o fa fb ρ=r:=by simp only[dI,a,b,M.bind_ok];exact hr
def oy(h:f ρ=.ok x)(hr:F [x]=.ok t):dD (dg f dm) F ρ=.ok t:=by simp only[dD,dg,dm,h,hr,M.bind_ok];rfl
def iu(h:f ρ=.ok x)(a:g ρ=.ok y)(hr:F [x,y]=.ok t):dD (dg f (dg g dm)) F ρ=.ok t:=by simp only[dD,dg,dm,h,a,hr,M.bind_ok];rfl
def gZ{f g k:Pe->M T}(h:f ρ=.ok x)(b:g ρ=.ok y)(a:k ρ=.ok z)(hr:F [x,y,z]=.ok t):dD (dg f (dg g (dg k dm))) F ρ=.ok t:=by simp only[dD,dg,dm,h,b,a,hr,M.bind_ok];rfl
def Fu{f g k l:Pe->M T}(h:f ρ=.ok x)(c:g ρ=.ok y)(a:k ρ=.ok z)(b:l ρ=.ok u)(hr:F [x,y,z,u]=.ok t):dD (dg f (dg g (dg k (dg l dm)))) F ρ=.ok t:=by simp only[dD,dg,dm,h,c,a,b,hr,M.bind_ok];rfl
end
section
variable {ρ:Pe}{ts:List T}{F:List T->M (List T)}{f g k l:Pe->M T}{x y z u:T}
def yx(h:f ρ=.ok x)(a:g ρ=.ok y)(b:k ρ=.ok z)(hr:F [x,y,z]=.ok ts):lz (dg f (dg g (dg k dm))) F ρ=.ok ts:=by simp only[lz,dg,dm,h,a,b,hr,M.bind_ok];rfl
end
def rC{b a:Type}{l:List b}{m:List a}{f:b->T}{g:a->T}(e:fa ρ=.ok x)(d:seqT x=.ok (l.map f))(c:fb ρ=.ok y)(h:seqT y=.ok (m.map g)) :
  m6 (dg fa (dg fb dm)) ρ=.ok ((l.zip m).map λp=>T.tup [f p.1,g p.2]):=by
 rw[<-yU];simp only[m6,dg,dm,e,c,M.bind_ok,d,h]
end L3
namespace L3
open PySem L2 PySem.Spec PyProof.Rows
def yt(K:W.Frag):Sp:=λc H Q _=>∃(a:Addr) (b:LI),c=[.ref a]/\ib K H a (b.map V.int)/\b.length<=63/\(∀z∈b,Builtin.Int.intBits z<=2 ^ 20)/\∀d,Q (.bl true) d
def yJ{K:W.Frag}(h:∀b:LI,b.length<=63->(∀z∈b,Builtin.Int.intBits z<=2 ^ 20)->F [.scr b]=.ok (.bl true)) vs H Q E (z:yt K vs H Q E):lG K F vs H Q E:=by obtain⟨a,b,rfl,f,c,d,e⟩:=z;refine⟨[.scr b],H,λ_ _ x=>x,.cons (.scr f) .nil,?_⟩;rw[h b c d];intro v j i g r;cases r;exact e _
def HE{K:W.Frag}{st:Stmt}(F:AQ K x x st f fd)(S:eB N ps (dt st))
  (d:∀(f:Addr) (b:Vq) (A:Around) (a:List Env) (s:Sq) (H:Hp) (E:XK),eD k (A.deeper (envOfC x (dt st) s.heap.objs.size f b))->∃t,ju K E (fK mx P w K mg base N x (dt st) f b A a s H E).nox (dU st) t g) :
  iU P w K mg base mx (k+1) f fd ps (lG K (je ps.length N.length g)):=
 F.ok S (λc H Q E h=>oo h) λb A a s H c Q E hr h=>let ⟨t,hp⟩:=d f b A a s H E hr;⟨t,hp.ps,nr hp.ms h⟩
def Fo{l:W.OpenLaw}{q:Program}{k:Nat}{x:Str}{c:List Str}{p:(Str->Option Value)->Heap->Prop}{j:World->Heap->Prop}{d:DefRec}{K:Params->W.Frag}(v:l.most=some 63)(hr:eD k callerA)(g:d.params.defaults=[])
  (m:∀(w:World) (h:Heap),j w h->(K w.params).In h)
  (F:∀(w:World) (e:Str->Option Value) (i:Addr) (h:Heap),(K w.params).In h->h.Ns mainGlobals e->e d.name=some (.ref i)->
   ∃fd:FuncData,(∀(s:Sq) (u:Vq),BindsTo s fd ⟨[u],[]⟩ [(x,u)])/\∀b:Heap,(K w.params).In b->b.Ns mainGlobals e->iU l.prog w (K w.params) e b mx k i fd [x] (yt (K w.params))) :
  W.WalkO q c p j l.row.toRowW d [] (λf vs=>PySem.call f vs):=
 L2.xA v (by decide) g hr m F (λ_ _ a n o r _ t=>⟨a,n,rfl,t,o,r,λ_=>rfl⟩) λ_ _ _ _ z=>z
end L3
namespace L3
open PySem L2 PySem.Spec PyProof.Rows
section
variable {K:W.Frag}{E:XK}{t:TE}{f:Pe->M T}
def kO(K:W.Frag)(F H:Hp)(x:Addr)(Q:VK)(t:T):Prop:=∀b c,dG F b->dG b c->(∀a o,a≠x->H a=some o->c a=some o)->(∀a,b a≠none->F a≠none\/H a=none\/a=x\/∃d,H a=some (.tup d))->gK K b (.ref x) t->Q .non c
noncomputable def tQ(K:W.Frag)(C:Addr)(g:List T->M T):Sp:=λe H Q _=>∃x d b c a,e=.ref x::b/\H x=some (.ins C d [])/\a x=none/\dG a H/\dM K a b c/\(g c).noEr.res (kO K a H x Q) (λ_ _=>False)
def zH{D:Pe->M (List T)}(R:MA K E tr D):ME K E (wa C (tQ K C Fn) [] E' tr) (dD D Fn):=λF H Y Z Q s V q=>by
 refine R.run s V q λI X S m g J i=>?_;intro x j l A B;have v:fw m j (.own x) x=none:=by rw[dH (λz=>B z.symm)];exact l
 have k:dG m (fw (fw m j (.own x)) x (.ins C j [])):=(mD A).trans (mD v);refine⟨x,j,X,I,S,by rw[bE],dA,dP g.fh l,g.fh.trans k,J,?_⟩;cases e:Fn I with
 |bad=>rw[e]at i;exact i.elim
 |er C n=>rw[e]at i;exact i.elim
 |ok t=>
  rw[e]at i;intro P L a b c d r;refine⟨rfl,i (.ref x) P L ⟨g.ff.trans a,b,λp o h=>?_,λp U=>?_⟩ r⟩
  .have w:=g.hh p o h;have u:p≠x:=λz=>by rw[z,l]at w;cases w
   exact c p o u (k p o w)
  .rcases d p U with z|z|z|⟨N,z⟩
   .exact g.nw p z
   .exact .inr (.inl (dP g.hh (dP k z)))
   .rw[z];exact .inr (.inl (dP g.hh l))
   .cases y:H p with
    |none=>exact .inr (.inl rfl)
    |some o=>exact .inr (.inr ⟨N,by rw[k p o (g.hh p o y)]at z;exact z⟩)
noncomputable def qj(C:Addr)(n:Nat)(e h:Str)(g d:Pe->M T):List T->M T:=λc=>if c.length=n then (g (none::c.map some)).bind λa=>(d (none::c.map some)).bind λb=>.ok (.obj C [(e,a),(h,b)]) else .bad
structure Hn(K:W.Frag)(E:XK)(X:Cx)(body:List Stmt)(f1 f2:Str)(g1 g2:Pe->M T):Prop where
 ex:∃(t1 t2:TE),mW X body (ml (DA K (gQ 0) t1 f1) (DA K (gQ 0) t2 f2))/\ME K E t1 g1/\ME K E t2 g2
def Hr(h:X.K=K)(d:PE X o1 (gQ 0))(g:Pm K E X a1 t1 g1)(a:PE X o2 (gQ 0))(e:Pm K E X a2 t2 g2)
  (c:swapsWith a1 (some (.Attribute o1 f1 p1)) q1.line X.env=pure false:=by rfl) (b:swapsWith a2 (some (.Attribute o2 f2 p2)) q2.line X.env=pure false:=by rfl) :
  Hn K E X [.Assign [.Attribute o1 f1 p1] a1 q1,.Assign [.Attribute o2 f2 p2] a2 q2] f1 f2 g1 g2:=by
 subst h;exact⟨t1,t2,fP (zJ d g.pe c) (kH (zJ a e.pe b)),g.me,e.me⟩
theorem DS{st:Stmt}(cl:pR K C)(n1:gY K C f1)(n2:gY K C f2)(ne:f1≠f2)(D:gB K C "__init__" qual st)(S:eB N N (dt st))
  (mk:W.makesIn K C=true) (kp:W.keepIn K (.ref C)=true) (hm:mg x=some (.ref C)) (hN:N.length=n+1)
  (hb:∀(kV doc pm:Vq) (an:Oq Addr) (j ct:Vq) (us:List Vq),us.length=N.length->bindArgs (W.fnOf "__init__" qual (eV st) (dU st) (dt st) .none kV doc pm an j ct) ⟨us,[]⟩=pure (N.zip us))
  (hT:∀(f:Addr) (j:Vq) (A:Around) (d:List Env) (s:Sq) (H:Hp) (E:XK),eD k (A.deeper (envOfC qual (dt st) s.heap.objs.size f j))->Hn K E (fK mx P w K mg base N qual (dt st) f j A d s H E).nox (dU st) f1 f2 g1 g2) :
  wu P w K mg base x C (k+1) (tQ K C (qj C n f1 f2 g1 g2)):=by
 obtain⟨fi,fd,F,Mm⟩:=D.ex;refine⟨⟨fi,fd,N,F.ok S (λvs H Q E h=>?_) (λj A d s H vs Q E hr h=>?_),⟨mk,Mm.at_,Mm.fn,kp⟩,F.binds hb⟩,hm⟩
 .obtain⟨x,B,us,u,F0,rfl,R,fx,s,r,q⟩:=h;unfold qj at q;by_cases J:u.length=n
  .rw[az,r.length,J,hN]
  .rw[aR J]at q;exact q.elim
 .obtain⟨x,B,us,u,F0,rfl,R,fx,s0,r,q⟩:=h;obtain⟨t1,t2,ps,m1,m2⟩:=(hT fi j A d s H E hr).ex;refine⟨_,ps,?_⟩;unfold qj at q;by_cases J:u.length=n
  .rw[aQ J]at q;have V:ie K F0 (fT N (.ref x::us)) (none::u.map some):=λi t e=>by
    cases i with
    |zero=>cases e
    |succ i=>
     rw[List.getElem?_cons_succ,aw]at e;cases hq:u[i]? with
     |none=>rw[hq]at e;cases e
     |some y=>rw[hq]at e;cases e;obtain⟨v,a,b⟩:=r.get hq;refine⟨v,?_,b⟩;unfold L2.fT;rw[List.getElem?_append_left (by rw[ax,az];exact Nat.succ_lt_succ (aa.mp a).1),aw,List.getElem?_cons_succ,a];rfl
   cases Z:g1 (none::u.map some) with
   |bad=>rw[Z]at q;exact q.elim
   |er C n=>rw[Z]at q;exact q.elim
   |ok a=>
    rw[Z,L3.M.bind_ok]at q;cases U:g2 (none::u.map some) with
    |bad=>rw[U]at q;exact q.elim
    |er C n=>rw[U]at q;exact q.elim
    |ok b=>
     rw[U,L3.M.bind_ok]at q;refine m1 F0 H _ _ _ s0 V ?_;rw[Z];intro v X H1 c r1;have hx1:=c.hh _ _ R;have I:X x=none:=by
      cases z:X x with
      |none=>rfl
      |some o=>
       rcases c.nw x (by rw[z];exact λy=>nomatch y) with y|y|⟨_,y⟩
       .exact absurd fx y
       .rw[R]at y;cases y
       .rw[R]at y;cases y
     refine⟨.ref x,rfl,x,C,B,[],rfl,hx1,cl,n1,by decide,?_⟩;have s1:dG X (fw H1 x (.ins C B (j5 f1 v []))):=λp o h=>by
      have l:p≠x:=λz=>by rw[z,I]at h;cases h
      rw[dH l];exact c.fh p o h
     refine m2 X _ _ _ _ s1 (V.mono c.ff) ?_;rw[U];intro Y L H3 g r2;have hx3:=g.hh x _ dA;have fx2:L x=none:=by
      cases z:L x with
      |none=>rfl
      |some o=>
       rcases g.nw x (by rw[z];exact λy=>nomatch y) with y|y|⟨_,y⟩
       .exact absurd I y
       .rw[dA]at y;cases y
       .rw[dA]at y;cases y
     refine⟨.ref x,rfl,x,C,B,_,rfl,hx3,cl,n2,by show 1<1000;decide,?_⟩;have ep:j5 f2 Y (j5 f1 v [])=[(f1,v),(f2,Y)]:=by show (if f1=f2 then _ else _)=_;rw[aR ne];rfl
     have sF:dG L (fw L x (.ins C B [(f1,v),(f2,Y)])):=mD fx2;refine q (fw L x (.ins C B [(f1,v),(f2,Y)])) _ ((c.ff.trans g.ff).trans sF) (λp o h=>?_) (λp o l h=>?_) (λp l=>?_) (.obj dA (.cons (r1.mono (g.ff.trans sF)) (.cons (r2.mono sF) .nil)))
     .by_cases l:p=x
      .subst l;rw[dA]at h;rw[dA,ep];exact h
      .rw[dH l]at h ⊢;exact g.fh p o h
     .rw[dH l];exact g.hh p o (by rw[dH l];exact c.hh p o h)
     .by_cases m:p=x
      .exact .inr (.inr (.inl m))
      .rw[dH m]at l;rcases g.nw p l with z|z|⟨xs,z⟩
       .rcases c.nw p z with y|y|y
        .exact .inl y
        .exact .inr (.inl y)
        .exact .inr (.inr (.inr y))
       .rw[dH m]at z;exact .inr (.inl (dP c.hh z))
       .rw[dH m]at z;cases y:H p with
        |none=>exact .inr (.inl rfl)
        |some o=>exact .inr (.inr (.inr ⟨xs,by rw[c.hh p o y]at z;exact z⟩))
  .rw[aR J]at q;exact q.elim
end
section
variable {X:Cx}{K:W.Frag}{E:XK}{x m:Str}{C:Addr}{k:Nat}{Fn:List T->M T}{Ff:List T->M (List T)}{e o:Expr}{es:List Expr}{tr:TA}{fr:Pe->M (List T)}{ta:TE}{fa:Pe->M T}{p pos apos:Pos}
def FM(h:wu X.prog X.w X.K X.mg X.base x C j (tQ K C Fn))(hr:eD k X.A)(c:rR K E X (e::es) tr fr)(d:j+1<=k:=by decide)(f:Gl X x:=by rfl)
  (a:(x==("__debug__" : Str))=false:=by decide) (g:starEach (e::es) X.env=(false,eval e X.env)::starEach es X.env:=by rfl) (b:(backTo pos (starEach es X.env)).any (·.1)=false:=by rfl) :
  Pm K E X (.Call (.Name x p) (e::es) [] pos) (wa C (tQ K C Fn) [] E0 tr) (dD fr Fn):=⟨GM h (hr.mono d) c.pa f a g b,zH c.ma⟩
def AE(h:gX X.prog X.w X.K X.mg X.base C m j (lG K Fn))(hr:eD k X.A)(a:Pm K E X o ta fa)(c:j<=k:=by decide)
  (b:eval (.Call (.Attribute o m apos) [] [] pos) X.env=(do
   let ov <-eval o X.env
   standAt apos.atName
   let (f,first) <-holding [ov] (getMethod ov m pl)
   callWith pos f first (backTo pos (starEach [] X.env)) (backToKw pos (keywordEach [] X.env))):=by rfl) :
  Pm K E X (.Call (.Attribute o m apos) [] [] pos) (pY C m (lG K Fn) [] E0 ta jW) (mJ C m fa dm Fn):=⟨zr h (hr.mono c) a.pe b,xO a.me uz⟩
def Ej(h:gX X.prog X.w X.K X.mg X.base C m j (tP K Ff))(hr:eD k X.A)(a:Pm K E X o ta fa)(c:j<=k:=by decide)
  (b:eval (.Call (.Attribute o m apos) [] [] pos) X.env=(do
   let ov <-eval o X.env
   standAt apos.atName
   let (f,first) <-holding [ov] (getMethod ov m pl)
   callWith pos f first (backTo pos (starEach [] X.env)) (backToKw pos (keywordEach [] X.env))):=by rfl) :
  xq K E X (.Call (.Attribute o m apos) [] [] pos) (pY C m (tP K Ff) [] E0 ta jW) (nE C m fa dm Ff):=⟨zr h (hr.mono c) a.pe b,zu a.me uz⟩
def tH(d:X.K=K)(c:pR K C)(a:gY K C f)(h:Pm K E X e ta fa)(b:attributeBase e f X.env (eval e X.env)=eval e X.env:=by rfl):Pm K E X (.Attribute e f pos) (Ef X.K ta f) (sS C f fa):=by subst d;exact⟨DW h.pe b,C3 c a h.me⟩
@[simp] noncomputable def yB(f:Pe->M T)(m:T->En->Option En):En->O:=λa=>O.of (f9 f a) λt=>match m t a with
 |some ρ'=>.nx ρ'
 |none=>.bad
def Eb{m:T->En->Option En}(h:ME K E t f)(i:AR K g m):MS K E (ji t g) (yB f m):=λu n F H w d D r q=>
 h.inH r q λx v c b z j s a=>by
  cases e:m x d with
  |none=>rw[e]at a;exact a.elim
  |some ρ'=>rw[e]at a;exact i u n c b w d v x ρ' _ s j e λl y=>a c b _ (.refl _) y
def BI{m:T->En->Option En}(b:Pm K E X e t f)(a:EM K X tg g m)(c:swapsWithSole [tg] e pos.line X.env=pure false:=by rfl)(hw:swappedStores [tg] e X.env=pure none:=by rfl)
  (d:(assignEach [tg] X.env).map (·.2)=[assign tg X.env]:=by rfl):nZ K E X (.Assign [tg] e pos) (ji t g) (yB f m):=⟨yn b.pe a.pg c hw d,Eb b.me a.mg⟩
def Eo{m:T->En->Option En}(h:f (mS ρ)=.ok t)(a:m t ρ=some ρ'):yB f m ρ=.nx ρ':=by unfold yB f9;rw[h];simp[a]
end
section
variable {P:Program}{w:World}{K:W.Frag}{mg:Str->Option Value}{base:Heap}{C:Addr}{m qual:Str}{st:Stmt}{N ps:List Str}{k:Nat}{g:En->O}
def Fy(i:pR K C)(D:gB K C m qual st)(S:eB N ps (dt st))
  (e:∀(kV c l:Vq) (d:Oq Addr) (b n:Vq) (us:List Vq),us.length=ps.length->bindArgs (W.fnOf m qual (eV st) (dU st) (dt st) .none kV c l d b n) ⟨us,[]⟩=pure (ps.zip us))
  (j:∀(f:Addr) (b:Vq) (A:Around) (a:List Env) (s:Sq) (H:Hp) (E:XK),eD k (A.deeper (envOfC qual (dt st) s.heap.objs.size f b))->∃t,ju K E (fK mx P w K mg base N qual (dt st) f b A a s H E).nox (dU st) t g) :
  gX P w K mg base C m (k+1) (lG K (je ps.length N.length g)):=
 vH i D S e (λo H Q E h=>oo h) λf b A a s H o Q E hr h=>let ⟨t,hp⟩:=j f b A a s H E hr;⟨t,hp.ps,nr hp.ms h⟩
def FD(i:pR K C)(D:gB K C m qual st)(S:eB N ps (dt st))
  (e:∀(kV c l:Vq) (d:Oq Addr) (b n:Vq) (us:List Vq),us.length=ps.length->bindArgs (W.fnOf m qual (eV st) (dU st) (dt st) .none kV c l d b n) ⟨us,[]⟩=pure (ps.zip us))
  (j:∀(f:Addr) (b:Vq) (A:Around) (a:List Env) (s:Sq) (H:Hp) (E:XK),eD k (A.deeper (envOfC qual (dt st) s.heap.objs.size f b))->∃t,ju K E (fK mx P w K mg base N qual (dt st) f b A a s H E).nox (dU st) t g) :
  gX P w K mg base C m (k+1) (tP K (wZ ps.length N.length g)):=
 vH i D S e (λo H Q E h=>vz h) λf b A a s H o Q E hr h=>let ⟨t,hp⟩:=j f b A a s H E hr;⟨t,hp.ps,tE hp.ms h⟩
end
end L3
namespace L3
open PySem L2 PySem.Spec PyProof.Rows
def EV:Nat->(List Value->Prop)->Prop
 |0,P=>P []
 |k+1,P=>∀v,EV k λus=>P (v::us)
theorem iW:∀{k} {P},EV k P->∀us:List Vq,us.length=k->P us
 |0,_,h,[],_=>h
 |k+1,_,h,v::us,e=>iW (h v) us (by simpa using e)
def Fe(X:Cx):Prop:=∀x,X.env.scope.names.lookup x=some .cell->∃c,X.env.cells.lookup x=some c
structure Zx(P:Program)(w:World)(K:W.Frag)(mg:Str->Option Value)(base:Heap):Prop where
 here:True
section
variable {P:Program}{w:World}{K:W.Frag}{mg:Str->Option Value}{base:Heap}
noncomputable abbrev CP(_:Zx P w K mg base)(x:Str)(k:Nat)(F:List T->M T):Prop:=hU P w K mg base x k (lG K F)
noncomputable abbrev CF(_:Zx P w K mg base)(x:Str)(k:Nat)(F:List T->M (List T)):Prop:=hU P w K mg base x k (tP K F)
end
section
variable {P:Program}{w:World}{K:W.Frag}{mg:Str->Option Value}{base:Heap}{x m qual:Str}{C:Addr}{st:Stmt}{g:En->O}
noncomputable abbrev F6(P:Program)(w:World)(K:W.Frag)(mg:Str->Option Value)(base:Heap)(k:Nat)(qual:Str)(st:Stmt)(N:List Str)(g:En->O):Prop:=∀{f:Addr} {cdv:Vq} {A:Around} {outer:List Env} {s:Sq} {H:Hp} {E:XK},N.Nodup->Fe (fK mx P w K mg base N qual (dt st) f cdv A outer s H E).nox->eD k (A.deeper (envOfC qual (dt st) s.heap.objs.size f cdv))->∃t,ju K E (fK mx P w K mg base N qual (dt st) f cdv A outer s H E).nox (dU st) t g
abbrev CY(x qual:Str)(st:Stmt)(ps:List Str):Prop:=∀(kV doc pm:Vq) (an:Oq Addr) (cdv ct:Vq),EV ps.length λus=>bindArgs (W.fnOf x qual (eV st) (dU st) (dt st) .none kV doc pm an cdv ct) ⟨us,[]⟩=pure (ps.zip us)
def jg(_:Zx P w K mg base) k F N ps (e:F=je ps.length N.length g) (D:dN K mg x st) (n:F6 P w K mg base k x st N g) (S:eB N ps (dt st):=by constructor<;>first|rfl|decide +kernel)
  (l:CY x x st ps:=by first|exact λ_ _ _ _ _ _ _ _=>rfl|exact λ_ _ _ _ _ _ _=>rfl|exact λ_ _ _ _ _ _ _ _ _=>rfl|exact λ_ _ _ _ _ _ _ _ _ _=>rfl|exact λ_ _ _ _ _ _ _ _ _ _ _=>rfl|exact λ_ _ _ _ _ _=>rfl) :
  hU P w K mg base x (k+1) (lG K F):=e▸Hg D S (λa b c d e f i j=>iW (l a b c d e f) i j) λ_ _ _ _ _ _ _ r=>n S.nd (λ_ h=>gS h) r
def CB(_:Zx P w K mg base) k F N ps (e:F=wZ ps.length N.length g) (D:dN K mg x st) (n:F6 P w K mg base k x st N g) (S:eB N ps (dt st):=by constructor<;>first|rfl|decide +kernel)
  (l:CY x x st ps:=by first|exact λ_ _ _ _ _ _ _ _=>rfl|exact λ_ _ _ _ _ _ _=>rfl|exact λ_ _ _ _ _ _ _ _ _=>rfl|exact λ_ _ _ _ _ _ _ _ _ _=>rfl|exact λ_ _ _ _ _ _ _ _ _ _ _=>rfl|exact λ_ _ _ _ _ _=>rfl) :
  hU P w K mg base x (k+1) (tP K F):=e▸HA D S (λa b c d e f i j=>iW (l a b c d e f) i j) λ_ _ _ _ _ _ _ r=>n S.nd (λ_ h=>gS h) r
def CW(_:Zx P w K mg base) k F N ps (e:F=je ps.length N.length g) (n:pR K C) (D:gB K C m qual st) (o:F6 P w K mg base k qual st N g) (S:eB N ps (dt st):=by constructor<;>first|rfl|decide +kernel)
  (l:CY m qual st ps:=by first|exact λ_ _ _ _ _ _ _=>rfl|exact λ_ _ _ _ _ _ _ _=>rfl|exact λ_ _ _ _ _ _ _ _ _=>rfl) :
  gX P w K mg base C m (k+1) (lG K F):=e▸Fy n D S (λa b c d e f i j=>iW (l a b c d e f) i j) λ_ _ _ _ _ _ _ r=>o S.nd (λ_ h=>gS h) r
def EF(_:Zx P w K mg base) k F N ps (e:F=wZ ps.length N.length g) (n:pR K C) (D:gB K C m qual st) (o:F6 P w K mg base k qual st N g) (S:eB N ps (dt st):=by constructor<;>first|rfl|decide +kernel)
  (l:CY m qual st ps:=by first|exact λ_ _ _ _ _ _ _=>rfl|exact λ_ _ _ _ _ _ _ _=>rfl|exact λ_ _ _ _ _ _ _ _ _=>rfl) :
  gX P w K mg base C m (k+1) (tP K F):=e▸FD n D S (λa b c d e f i j=>iW (l a b c d e f) i j) λ_ _ _ _ _ _ _ r=>o S.nd (λ_ h=>gS h) r
def Gu(_:Zx P w K mg base) k F N ps (e:F=je ps.length N.length g) (D:AQ K x x st f fd) (a:F6 P w K mg base k x st N g) (S:eB N ps (dt st):=by constructor<;>first|rfl|decide +kernel) :
  iU P w K mg base mx (k+1) f fd ps (lG K F):=e▸HE D S λ_ _ _ _ _ _ _ r=>a S.nd (λ_ h=>gS h) r
def Hk(_:Zx P w K mg base) k F N (e:F=qj C n f1 f2 g1 g2) (q:pR K C) (z:gY K C f1) (B:gY K C f2) (v:W.makesIn K C=true) (u:W.keepIn K (.ref C)=true) (o:mg x=some (.ref C)) (D:gB K C "__init__" qual st)
  (t:∀{f:Addr} {i:Vq} {A:Around} {h:List Env} {s:Sq} {H:Hp} {E:XK},eD k (A.deeper (envOfC qual (dt st) s.heap.objs.size f i))->Hn K E (fK mx P w K mg base N qual (dt st) f i A h s H E).nox (dU st) f1 f2 g1 g2)
  (S:eB N N (dt st):=by constructor<;>first|rfl|decide +kernel) (p:CY "__init__" qual st N:=by exact λ_ _ _ _ _ _ _ _ _=>rfl) (ne:f1≠f2:=by decide) (j:N.length=n+1:=by rfl) :
  wu P w K mg base x C (k+1) (tQ K C F):=e▸DS q z B ne D S v u o j (λa b c d e f y l=>iW (p a b c d e f) y l) λ_ _ _ _ _ _ _ r=>t r
end
section
variable {K:W.Frag}{E:XK}{X:Cx}{tg elt iter:Expr}{ifs:List Expr}{scope:Scope}{wi:TI}{g:TG}{tt:TT}{te:TE}{fe:Pe->M T}{fi:Pe->M (List T)}{m:T->Pe->Option Pe}{ft:Pe->M Bool}{pos:Pos}{x:Str}
noncomputable abbrev HX(K:W.Frag)(X:Cx)(scope:Scope)(N:List Str)(tg elt:Expr)(ifs:List Expr)(g:TG)(tt:TT)(te:TE)(m:T->Pe->Option Pe)(ft:Pe->M Bool)(fe:Pe->M T):Prop:=∀{C s₃ H ex pn},N.Nodup->Fe (iY X N scope C s₃ H ex pn)->Fi K (iY X N scope C s₃ H ex pn) tg g m/\yo K AU (iY X N scope C s₃ H ex pn) ifs tt ft/\Pm K AU (iY X N scope C s₃ H ex pn) elt te fe
def gH N ix (d:Fe X) (h:Ci K E X tg iter wi fi) (a:HX K X scope N tg elt ifs g tt te m ft fe) (c:rP X.N X.env.scope scope N ix=true:=by rfl) (b:jQ ix g:=by first|exact nX rfl|exact nN rfl rfl) (nd:N.Nodup:=by decide) (e:X.calm=true:=by rfl)
  (f:∀x,foldedSetIterable iter X.env x=pure x:=by intro _;rfl):xq K E X (.ListComp elt [⟨tg,iter,ifs,0⟩] scope pos) (zL ix wi g tt te) (h8 ix fi m ft fe):=
 let L:=Gn d c
 Gm e h L b (λ_ _ _ _ _=>a nd (Aw L)) f
def mh N ix i (l:X.N.Nodup) (e:Fe X) (o:Ci K E X tg iter wi fi) (b:HX K X scope N tg elt ifs g tt te m ft fe)
  (p:MF K E (zL ix wi g tt te) (h8 ix fi m ft fe)->MS K E (ji (zL ix wi g tt te) (fH i)) gm) (d:rP X.N X.env.scope scope N ix=true:=by rfl) (c:jQ ix g:=by first|exact nX rfl|exact nN rfl rfl) (nd:N.Nodup:=by decide) (h:tO X.env.scope x:=by first|exact Or.inl rfl|exact Or.inr rfl) (j:X.calm=true:=by rfl)
  (f:X.N[i]? = some x:=by rfl) (k:X.fn x=true\/X.env.scope.names.lookup x=some .local:=by first|exact .inl rfl|exact .inr rfl)
  (a:swapsWith (.ListComp elt [⟨tg,iter,ifs,0⟩] scope pos) (some (.Name x py)) spos.line X.env=pure true:=by rfl)
  (n:∀x,foldedSetIterable iter X.env x=pure x:=by intro _;rfl):nZ K E X (.Assign [.Name x py] (.ListComp elt [⟨tg,iter,ifs,0⟩] scope pos) spos) (ji (zL ix wi g tt te) (fH i)) gm:=
 let L:=Gn e d
 DZ i l h j o L c (λ_ _ _ _ _=>b nd (Aw L)) p f k a n
end
end L3
namespace L3
open PySem L2 PySem.Spec PyProof.Rows
section
variable {K:W.Frag}{E:XK}{X:Cx}{a e:Expr}{es:List Expr}{tr:TA}{fr:Pe->M (List T)}{pos p p2 pos2:Pos}
noncomputable def E4:List T->M T
 |[.lst ts]=>match iB ts with
  |some b=>if b.length<64 then .ok (.int (E9 b:Int)) else .bad
  |none=>.bad
 |_=>.bad
@[simp] noncomputable def zK(fr:Pe->M (List T)):Pe->M T:=λb=>(fr b).bind E4
def FL(o:MA K E tr fr):ME K E (Hl K tr) (zK fr):=λF H w x Q s l q=>by
 refine o.run s l q λn v k g i m c=>?_;cases m with
 |nil=>exact c.elim
 |cons h t=>
  cases t with
  |cons _ _=>cases h<;>exact c.elim
  |nil=>
   cases h with
   |lst h r=>
    rename_i a n j;have b:(match iB j with|some ns=>if ns.length<64 then M.ok (T.int (E9 ns)) else .bad|none=>.bad).res (kV K F H Q) (kE E k g):=c;cases f:iB j with
    |none=>rw[f]at b;exact b.elim
    |some ns=>
     rw[f]at b;dsimp only at b;by_cases d:ns.length<64
     .rw[aQ d]at b;have e:=oF f;subst e;have u:=r.ints;subst u;exact⟨a,ns,rfl,ib.of (i.fh _ _ h),d,b _ k g i (.int _)⟩
     .rw[aR d]at b;exact b.elim
   |_=>exact c.elim
def GN(f:X.calm=true)(k:X.mg "len" = none)(c:X.mg "set" = none)(d:rR K E X [a] tr fr)(h:X.K=K:=by rfl)(i:Gl X "len" :=by rfl)(b:Gl X "set" :=by rfl)(j:starEach [a] X.env=[(false,eval a X.env)]:=by rfl)
  (g:starEach [Expr.Call (.Name "set" p2) [a] [] pos2] X.env=[(false,eval (.Call (.Name "set" p2) [a] [] pos2) X.env)]:=by rfl) :
  Pm K E X (.Call (.Name "len" p) [.Call (.Name "set" p2) [a] [] pos2] [] pos) (Hl K tr) (zK fr):=by
 subst h;exact⟨A4 f i k b c d.pa j g,FL d.ma⟩
def xB(h:ns.Nodup):E9 ns=ns.length:=by
 have go:∀i,i<=ns.length->(firstMet (λi=>ns.getD i 0) i).length=i:=λi=>by
  induction i with
  |zero=>intro _;rfl
  |succ i ih=>
   intro d;rw[firstMet_succ,step_length,ih (by omega),aR];rw[firstMet_any];intro z;rw[cJ]at z;obtain⟨x,c,e⟩:=z;obtain⟨j,b,rfl⟩:=aD.mp c;have b:=aS.mp b;have e:ns.getD j 0=ns.getD i 0:=by simpa using e
   rw[af,af,ag (by omega:j<ns.length),ag (by omega:i<ns.length)]at e;have:=(List.getElem_inj h).mp (e);omega
 exact go _ (aK _)
end
end L3
namespace L3
open PySem L2 PySem.Spec PyProof.Rows
section
variable {K:W.Frag}{E:XK}{X:Cx}{e:Expr}{es:List Expr}{te:TE}{fe:Pe->M T}{ff:Pe->M (List T)}{tr:TA}{fr:Pe->M (List T×List T)}{pos pos' p p2 p3 p4 p5 pc apos pos2:Pos}{x y:Str}
@[simp] noncomputable def Fw(fr:Pe->M (List T)):Pe->M (List T):=λb=>(fr b).bind λa=>match a with
 |[.int j]=>if 0<=j/\j<=1000 then .ok (oj 0 j.toNat) else .bad
 |_=>.bad
def FF{fr:Pe->M (List T)}(l:MA K E tr fr):MF K E (HF tr) (Fw fr):=λF H v w Q s g q=>by
 refine l.run s g q λu t m r d h c=>?_;split at c
 .rename_i j;split at c
  .rename_i k;cases h with
   |cons a b=>
    cases a;cases b;refine⟨j.toNat,by rw[cK k.1],by omega,λp f=>?_⟩;refine c p _ m _ (d.trans (.new' d.fh f)) (dP d.hh f) (dP d.fh f) dA ?_;have o:oj 0 j.toNat=((List.range j.toNat).map λ(i:Nat)=>(i:Int)).map T.int:=by rw[sX,aI];exact cL λi _=>by simp
    have n:((List.range j.toNat).map λ(i:Nat)=>V.int i)=((List.range j.toNat).map λ(i:Nat)=>(i:Int)).map V.int:=by rw[aI];rfl
    rw[o,n];exact dM.of_ints _
  .exact c.elim
 .exact c.elim
def FE{fr:Pe->M (List T)}(d:X.calm=true)(i:X.mg "list" = none)(b:X.mg "range" = none)(c:rR K E X [e] tr fr)(g:Gl X "list" :=by rfl)(a:Gl X "range" :=by rfl)(h:starEach [e] X.env=[(false,eval e X.env)]:=by rfl)
  (f:starEach [Expr.Call (.Name "range" p2) [e] [] pos2] X.env=[(false,eval (.Call (.Name "range" p2) [e] [] pos2) X.env)]:=by rfl) :
  xq K E X (.Call (.Name "list" p) [.Call (.Name "range" p2) [e] [] pos2] [] pos) (HF tr) (Fw fr):=⟨Aq d g i a b c.pa h f,FF c.ma⟩
@[simp] noncomputable def pX(i j:Nat)(d:En->M T):En->O:=λa=>.of (iK a i) λc=>.of (iK a j) λb=>.of (d a) λk=>match k with
 |.int k=>if 0<=k/\k<1000/\i≠j/\c.length<sizeLine then (match b[k.toNat]? with
  |some y=>.nx ((a.set j (some (.o (b.eraseIdx k.toNat)))).set i (some (.o (c++[y]))))
  |none=>.bad) else .bad
 |_=>.bad
theorem dM.eraseIdx:∀{vs} {ts} n,dM K F vs ts->dM K F (vs.eraseIdx n) (ts.eraseIdx n)
 |_,_,_,.nil=>.nil
 |_,_,0,.cons _ r=>r
 |_,_,n+1,.cons h r=>.cons h (dM.eraseIdx n r)
def CM(K:W.Frag)(i j:Nat)(te:TE):TE:=Cm K i (He K "list" yL (gQ j) (gO te jW))
def B5(ht:∀l xs H,H l=some (.lst xs)->Gg K "list" (.ref l) H)(h:ME K E te fe):MS K E (mM (CM K i j te)) (pX i j (mH fe)):=λF0 H0 F H σ P D r q=>by
 unfold pX at q;cases e:iK P i with
 |bad=>rw[e]at q;exact q.elim
 |er C n=>unfold iK at e;split at e<;>cases e
 |ok ts=>
  cases f:iK P j with
  |bad=>rw[e,f]at q;exact q.elim
  |er C n=>unfold iK at f;split at f<;>cases f
  |ok us=>
   rw[e,f]at q;have R:=lI e;have c:=lI f;obtain⟨ad,h1,h2⟩:=r.ov;obtain⟨a,_,_,vs,d,_⟩:=h1 i ts R;obtain⟨t,_,_,vs2,d2,_⟩:=h1 j us c;refine⟨_,a,ht _ _ _ d,_,t,ht _ _ _ d2,?_⟩;refine h.inB r q λx v F' H' g rp r' b=>?_;cases rp with
   |int k=>
    dsimp only at b;split at b
    .rename_i hc;obtain⟨Z,k1,ij,tl⟩:=hc;cases A:us[k.toNat]? with
     |none=>rw[A]at b;exact b.elim
     |some y=>
      rw[A]at b;obtain⟨B,J,h2'⟩:=r'.ov;obtain⟨Q,_,_,s,L,z3⟩:=J j us c;obtain⟨w,Y,N⟩:=z3.get A;obtain⟨l,vs',U,c2,c3,r2⟩:=r'.change c (z3.eraseIdx _);rw[t]at U;cases U;rw[t]at Q;have z:ad j=B j:=by simpa using Q
      rw[<-z]at L;rw[L]at c2;cases c2;have kl:=(aa.mp Y).1;have si:seqIndex? k s.length=some k.toNat:=by
       unfold seqIndex?;have n0:¬k<0:=by omega
       have I:k<s.length:=by omega
       simp only[n0,if_false];simp[Z,I]
      have u:(1000:Int)<2 ^ 63:=by decide
      have m:-(2 ^ 63)<=0:=by decide
      refine⟨ad j,s,k,k.toNat,w,rfl,rfl,L,Int.le_trans m Z,Int.lt_trans k1 u,si,Y,?_⟩;have e3:(P.set j (some (.o (us.eraseIdx k.toNat))))[i]? = some (some (.o ts)):=by rw[ar (Ne.symm ij)];exact R
      obtain⟨l2,S,q4⟩:=tw r2 e3 N (by rw[aQ tl];exact b);rw[a]at S;cases S;exact q4
    .exact b.elim
   |_=>exact b.elim
def yp i j (t:PE X (.Name x p) (gQ i)) (hw:PE X (.Name y p2) (gQ j)) (s:Pm K E X e te fe) (u:X.K=K:=by rfl)
  (r:starEach [e] X.env=(false,eval e X.env)::starEach [] X.env:=by rfl)
  (a:starEach [Expr.Call (.Attribute (.Name y p2) "pop" p3) [e] [] p4] X.env=(false,eval (.Call (.Attribute (.Name y p2) "pop" p3) [e] [] p4) X.env)::starEach [] X.env:=by rfl)
  (g:attributeBase (.Name x p) "append" X.env (eval (.Name x p) X.env)=eval (.Name x p) X.env:=by rfl)
  (k:attributeBase (.Name y p2) "pop" X.env (eval (.Name y p2) X.env)=eval (.Name y p2) X.env:=by rfl)
  (q:((backTo pos (starEach [Expr.Call (.Attribute (.Name y p2) "pop" p3) [e] [] p4] X.env)).all (λx=>!x.1)&&(backToKw pos (keywordEach [] X.env)).all (λx=>x.1.isSome)&&decide (([Expr.Call (.Attribute (.Name y p2) "pop" p3) [e] [] p4]:List Expr).length+([]:List Keyword).length+(if ([]:List Keyword).isEmpty then 0 else 1)<30))=true:=by rfl)
  (d:((backTo p4 (starEach [e] X.env)).all (λx=>!x.1)&&(backToKw p4 (keywordEach [] X.env)).all (λx=>x.1.isSome)&&decide (([e]:List Expr).length+([]:List Keyword).length+(if ([]:List Keyword).isEmpty then 0 else 1)<30))=true:=by rfl)
  (o:(apos.endLine==pos.line)=true:=by rfl) (c:(p3.endLine==p4.line)=true:=by rfl) (f:(backTo pos (starEach [] X.env)).any (·.1)=false:=by rfl) (n:(backTo p4 (starEach [] X.env)).any (·.1)=false:=by rfl)
  (m:swapsWith (.Call (.Attribute (.Name x p) "append" apos) [.Call (.Attribute (.Name y p2) "pop" p3) [e] [] p4] [] pos) none pos'.line X.env=pure false:=by rfl) :
  nZ K E X (.Expr (.Call (.Attribute (.Name x p) "append" apos) [.Call (.Attribute (.Name y p2) "pop" p3) [e] [] p4] [] pos) pos') (mM (CM K i j te)) (pX i j (mH fe)):=by
 subst u;have b:=vh PySem.F.plainAttrs_list PySem.F.slot_list_pop PySem.F.type_list_pop zb hw (dz s.pe eF r) k d c r n;exact⟨ng (vh PySem.F.plainAttrs_list PySem.F.slot_list_append PySem.F.type_list_append mv t (dz b eF a) g q o a f) m,B5 (λl v H h=>Av h) s.me⟩
end
end L3
namespace L3
open PySem L2 PySem.Spec PyProof.Rows
abbrev Ha:List Vq:=[.type "ValueError",.type "Exception",.type "BaseException",.type "object"]
section
variable {P:Program}{w:World}{K:W.Frag}{mg:Str->Option Value}{base:Heap}{x m qual:Str}{C:Addr}{st:Stmt}{N ps:List Str}{k j:Nat}{g:En->O}{sp:Sp}
noncomputable abbrev CE(_:Zx P w K mg base)(x:Str)(k:Nat)(F:List T->M T):Prop:=iX P w K mg base x k (lG K F)
noncomputable abbrev Hf(P:Program)(w:World)(K:W.Frag)(mg:Str->Option Value)(base:Heap)(k:Nat)(qual:Str)(st:Stmt)(N:List Str)(g:En->O):Prop:=∀{f:Addr} {cdv:Vq} {A:Around} {outer:List Env} {s:Sq} {H:Hp} {E:XK},N.Nodup->Fe (fK (oV P w) P w K mg base N qual (dt st) f cdv A outer s H E)->eD k (A.deeper (envOfC qual (dt st) s.heap.objs.size f cdv))->∃t,ju K E (fK (oV P w) P w K mg base N qual (dt st) f cdv A outer s H E) (dU st) t g
def HD(_:Zx P w K mg base) k F N ps (e:F=je ps.length N.length g) (D:dN K mg x st) (p:Hf P w K mg base k x st N g) (S:eB N ps (dt st):=by constructor<;>first|rfl|decide +kernel)
  (o:CY x x st ps:=by first|exact λ_ _ _ _ _ _ _ _=>rfl|exact λ_ _ _ _ _ _ _=>rfl|exact λ_ _ _ _ _ _ _ _ _=>rfl|exact λ_ _ _ _ _ _ _ _ _ _=>rfl) :
  iX P w K mg base x (k+1) (lG K F):=e▸Aj D S (λa b c d e f q l=>iW (o a b c d e f) q l) (λr H Q E h=>oo h) λf n A i s H r Q E hr h=>let ⟨t,hp⟩:=p S.nd (λ_ h=>gS h) hr;⟨t,hp.ps,nr hp.ms h⟩
end
section
variable {P:Program}{w:World}{K:W.Frag}{mg:Str->Option Value}{base:Heap}{N:List Str}{qual:Str}{scope:Scope}{f:Addr}{cd:Vq}{A:Around}{outer:List Env}{s₀:Sq}{H₀:Hp}{E:XK}
def wy{j}(b:W.nsIn K mainGlobals x=some (some (.ref C)))(q:W.excIn K C Ha "ValueError.__new__" = true)
  (c:Gl (fK (oV P w) P w K mg base N qual scope f cd A outer s₀ H₀ E) x:=by rfl) (a:(x==("__debug__" : Str))=false:=by decide)
  (d:starEach [.Constant (.str y) j p2] (envOfC qual scope s₀.heap.objs.size f cd)=[(false,eval (.Constant (.str y) j p2) (envOfC qual scope s₀.heap.objs.size f cd))]:=by rfl) :
  nZ K E (fK (oV P w) P w K mg base N qual scope f cd A outer s₀ H₀ E) (.Raise (some (.Call (.Name x np) [.Constant (.str y) j p2] [] cpos)) none pos) (λ_ _ H=>E (.ref C) none H) (λ_=>.er C none):=
 ⟨zY b q PySem.F.excBase_ValueError (by decide +kernel) PySem.F.excBase_ValueError (dz gJ eF) (λ_ _ _ h=>⟨(by show 1<=sizeLine;decide),h⟩) c a d,λg k F H i e D r q=>q F H r.gr⟩
end
section
variable {K:W.Frag}{E:XK}{X:Cx}{x m:Str}{C:Addr}{k j:Nat}{Fn:List T->M T}{e o:Expr}{es:List Expr}{tr:TA}{fr:Pe->M (List T)}{ta:TE}{fa:Pe->M T}{p pos apos:Pos}
def xW(h:iX X.prog X.w X.K X.mg X.base x j (lG K Fn))(hr:eD k X.A)(f:ja (oV X.prog X.w) X E)(c:rR K E X (e::es) tr fr)(d:j<=k:=by decide)(g:Gl X x:=by rfl)
  (a:(x==("__debug__" : Str))=false:=by decide) (i:starEach (e::es) X.env=(false,eval e X.env)::starEach es X.env:=by rfl) (b:(backTo pos (starEach es X.env)).any (·.1)=false:=by rfl) :
  Pm K E X (.Call (.Name x p) (e::es) [] pos) (lj (lG K Fn) [] E tr) (ve fr Fn):=⟨tj (h.mono d) hr f c.pa g a i b,AX c.ma⟩
def Af(h:ju K E X.nox sts t g):ju K E X sts t g:=⟨h.ps.nox,h.ms⟩
end
inductive Hd where
 |no|set (j:Nat) (y:Str)|ret (y:Str)
def Hd.ok(h:Hd)(D:kR)(c:L2.St)(H:Hp):Prop:=match h with
 |.no=>False
 |.set j y=>∀a b,a.length=c.length->a[j]? = some (some (.str y))->dG H b->D.nx a b
 |.ret y=>∀b,dG H b->D.rt (.str y) b
section
variable {K:W.Frag}{E:XK}
noncomputable def HC(K:W.Frag)(E:XK)(t:TS)(g:En->O):Prop:=∀(a b F H:Hp) σ ρ D,Sr K ⟨a,[]⟩ b F H σ ρ->(g ρ).res K E ⟨a,[]⟩ b F D->t D σ H
@[simp] noncomputable def Al(n:Nat)(g:En->O)(h:Addr->Hd)(a:En->O):En->O:=λb=>match g b with
 |.nx ρ'=>a ρ'
 |.er C none=>(match h C with
  |.no=>.bad
  |.ret y=>.rt (.str y)
  |.set j y=>match a ((List.replicate n none).set j (some (.p (.str y)))) with
   |.rt t=>.rt t
   |_=>.bad)
 |.er _ (some _)=>.bad
 |o=>o
def EC{f:L2.St}(g:Gr F0 H0 F H)(c:i≠j)(a:f.length=n)(o:f[j]? = some (some (.str y))):Sr K ⟨F0,[]⟩ H0 F H (f.set i none) ((List.replicate n none).set j (some (.p (.str y)))):=by
 have at_:∀(l:Nat) (u:W),((List.replicate n none).set j (some (W.p (.str y))))[l]? = some (some u)->l=j/\j<n/\u=.p (.str y):=λl u e=>by
  by_cases a:j=l
  .subst a;by_cases b:j<n
   .rw[List.getElem?_set_self (by simpa using b)]at e;cases e;exact⟨rfl,b,rfl⟩
   .rw[List.getElem?_eq_none (by simpa using b)]at e;cases e
  .rw[ar a,List.getElem?_replicate]at e;split at e<;>cases e
 refine⟨g,by simp[a],λl t e=>?_,⟨λ_=>0,λl r e=>?_,λl s r v e=>?_⟩,λ_ m=>(nomatch m),λ_ _ _ h=>(by cases h),⟨λl d e=>?_,λl s d k e=>?_⟩⟩
 .obtain⟨rfl,b,q⟩:=at_ _ _ e;cases q;exact⟨.str y,by rw[ar c,o],.str y⟩
 all_goals (obtain⟨_,_,q⟩:=at_ _ _ e;cases q)
theorem C5(R:∀x,MS K x (tb x) g)(A:MS K E u g')
  (w:∀C,h C≠.no->W.mroIn K C (.ref Dh)=some true/\∀j y,h C=.set j y->i≠j)
  (U:∀C ea H D,H ea=none->(h C).ok D ((List.replicate N.length (none:Oq V)).set i (some (.ref ea))) H->th ea C D ((List.replicate N.length (none:Oq V)).set i (some (.ref ea))) H) :
  HC K E (ml (Ex K N Dh i tb th) u) (Al N.length g h g'):=λl f F H X m D r q=>by
 refine R _ ⟨l,[]⟩ f F H X m _ r ?_;unfold Al at q;cases e:g m with
 |nx ρ'=>rw[e]at q;intro c o v s S;exact A ⟨l,[]⟩ f c o v ρ' D S (O.res.go q s)
 |bad=>rw[e]at q;exact q
 |rt t=>rw[e]at q;exact q
 |rf ts=>rw[e]at q;exact q
 |rn ts us=>rw[e]at q;exact q
 |bk m=>rw[e]at q;exact q
 |ct m=>rw[e]at q;exact q
 |er C n=>
  rw[e]at q;cases n with
  |some _=>exact q.elim
  |none=>
   have ne:h C≠.no:=λz=>by dsimp only at q;rw[z]at q;exact q
   intro c o a;refine⟨C,rfl,(w C ne).1,λea P=>U C ea o _ P ?_⟩;dsimp only at q;cases d:h C with
   |no=>exact absurd d ne
   |ret y=>rw[d]at q;exact λk b=>q (.str y) c k ⟨a.ff,a.fh.trans b,a.hh.trans b,a.nw⟩ (.str y)
   |set j y=>
    rw[d]at q;intro J k I L b;have Q:Gr l f c k:=⟨a.ff,a.fh.trans b,a.hh.trans b,a.nw⟩;refine A ⟨l,[]⟩ f c k _ _ D (EC (n:=N.length) Q ((w C ne).2 j y d) (I.trans (by simp)) L) ?_;dsimp only at q;cases B:g' ((List.replicate N.length none).set j (some (.p (.str y)))) with
    |rt t=>rw[B]at q;exact q
    |_=>rw[B]at q;exact q.elim
structure FC(K:W.Frag)(E:XK)(X:Cx)(sts:List Stmt)(t:TS)(g:En->O):Prop where
 ps:mW X sts t
 ms:HC K E t g
end
section
variable {P:Program}{w:World}{K:W.Frag}{mg:Str->Option Value}{base:Heap}{x:Str}{st:Stmt}{g:En->O}
def yh(l:HC K E t g)(h:lG K (je k N.length g) vs H Q E):t {nx:=λ_ b=>Q .non b,rt:=Q} (fT N vs) H:=by
 obtain⟨a,d,s,r,q⟩:=h;unfold je at q;by_cases c:a.length=k
 .rw[aQ c]at q;refine l d H d H _ _ _ (ou s r) ?_;cases e:g (ee N.length a) with
  |bad=>rw[e]at q;exact q
  |nx ρ=>rw[e]at q;exact λj b f _ i=>q .non j b i.gr .non
  |rt t=>rw[e]at q;exact q
  |rf a=>rw[e]at q;exact kF.of q
  |rn a us=>rw[e]at q;exact kT.of q
  |bk ρ=>rw[e]at q;exact q.elim
  |ct ρ=>rw[e]at q;exact q.elim
  |er C n=>rw[e]at q;exact q
 .rw[aR c]at q;exact q.elim
def Ht(_:Zx P w K mg base) k F N ps (e:F=je ps.length N.length g) (D:dN K mg x st)
  (n:∀{f:Addr} {j:Vq} {A:Around} {i:List Env} {s:Sq} {H:Hp} {E:XK},N.Nodup->Fe (fK mx P w K mg base N x (dt st) f j A i s H E).nox->eD k (A.deeper (envOfC x (dt st) s.heap.objs.size f j))->∃t,FC K E (fK mx P w K mg base N x (dt st) f j A i s H E).nox (dU st) t g)
  (S:eB N ps (dt st):=by constructor<;>first|rfl|decide +kernel)
  (m:CY x x st ps:=by first|exact λ_ _ _ _ _ _ _ _=>rfl|exact λ_ _ _ _ _ _ _=>rfl|exact λ_ _ _ _ _ _ _ _ _=>rfl|exact λ_ _ _ _ _ _ _ _ _ _=>rfl) :
  hU P w K mg base x (k+1) (lG K F):=e▸rN D S (λa b c d e f o l=>iW (m a b c d e f) o l) (λp H Q E h=>oo h) λf j A i s H p Q E hr h=>let ⟨t,hp⟩:=n S.nd (λ_ h=>gS h) hr;⟨t,hp.ps,yh hp.ms h⟩
end
section
variable {K:W.Frag}{E:XK}
def E8:bootBuiltins "ValueError" = some (.type "ValueError"):=by decide +kernel
structure Xk(K:W.Frag)(x:Str)(C Cut:Addr):Prop where
 ns:W.nsIn K mainGlobals x=some (some (.ref C))
 ex:W.excIn K C Ha "ValueError.__new__" = true
 xc:pb K C
 su:W.mroIn K C (.ref Cut)=some true
 va:W.kitOne K (.ref C) (.type "ValueError")=some true
def GF(f:W.nsIn K mainGlobals x=some (some (.ref C)))(i:W.excIn K C Ha "ValueError.__new__" = true)
  (k:W.findIn K (.ref C) "__getattribute__" = some (some (.builtin "BaseException.__getattribute__"))) (j:W.findIn K (.ref C) "__getattr__" = some none) (g:W.findIn K (.ref C) "__class__" = some (some (.builtin "object.__class__")))
  (h:W.specialIn K (.builtin "object.__class__") "__get__" = some (some (.builtin "getset_descriptor.__get__"))) (d:W.takesIn K (.builtin "object.__class__")=some true) (e:W.mroIn K C (.type "object")=some true) (a:W.mroIn K C (.type "BaseException")=some true)
  (c:W.mroIn K C (.ref Cut)=some true) (b:W.mroIn K C (.type "ValueError")=some true):Xk K x C Cut:=⟨f,i,⟨k,j,g,h,d,e,a,jV a⟩,c,Da (by decide +kernel) b⟩
def lT(n:C≠D)(t:W.typeIn K (.ref D)=some (.type "type"))(o:W.mroIn K D (.type "object")=some true)(s:W.mroIn K C (.ref D)=some false):W.kitOne K (.ref C) (.ref D)=some false:=wd n t (jV o) s
def yd{b a q:List Stmt} i (B:X.N.Nodup) (I:X.mg x=some (.ref Dh)) (T:Bw X.K Dh)
  (s:∀(d:XK) (c:List (Addr×Obj)) (f:Vq->Shared->Prop),ja (oV X.prog X.w) (X.tryB c f) d->ju K d (X.tryB c f) b (tb d) g)
  (J:∀(c:List (Addr×Obj)) (ea:Addr) (oe:Obj) (r:Addr),(ea,oe)∈c->oe.cls=.ref r->mW (X.exc c ea) (e::a) (th ea r))
  (t:ju K E X q u g') (m:∀C,h C≠.no->W.mroIn K C (.ref Dh)=some true/\∀j y,h C=.set j y->i≠j)
  (L:∀C ea H D,H ea=none->(h C).ok D ((List.replicate X.N.length (none:Oq V)).set i (some (.ref ea))) H->th ea C D ((List.replicate X.N.length (none:Oq V)).set i (some (.ref ea))) H)
  (P:X.K=K:=by rfl) (Q:X.N[i]? = some n:=by rfl) (F:X.env.kindOf n=some .local:=by rfl) (z:Gl X x:=by rfl) (o:X.stack=X.env::X.outer:=by rfl) (l:X.env.frame=some X.env.locals:=by rfl)
  (v:tO X.env.scope n:=by exact .inl rfl) (k:X.fn n=true\/X.env.scope.names.lookup n=some .local:=by exact .inr rfl) (A:(x==("__debug__" : Str))=false:=by decide) :
  FC K E X (.Try b [.ExceptHandler (some (.Name x np)) (some n) (e::a) hpos] [] [] pos::q) (ml (Ex X.K X.N Dh i tb th) u) (Al X.N.length g h g'):=by
 subst P;exact⟨fP (Dj B Q F z I T o l (λd c f p=>(s d c f p).ps) J v k A) t.ps,C5 (λd=>(s d [] (λ_ _=>True) λ_ _ _ _ _ _ _ _=>trivial).ms) t.ms m L⟩
end
def CV(t:TT)(c:L2.St)(H:Hp)(b:Bool):Prop:=∀Q:Bool->Hp->Prop,(∀a,dG H a->Q b a)->t c H Q
abbrev Dn(K:W.Frag)(ea C:Addr):List V->Hp->VK->Prop:=λxs H Q=>∃d b,xs=[V.ref ea,d]/\pb K C/\yP K H C d b/\Q (V.bl b) H
section
variable {K:W.Frag}{σ:L2.St}{H:Hp}{i:Nat}{ea C D:Addr}{a b:Bool}{t u:TT}
def BC(c:σ[i]? = some (some (.ref ea)))(x:pb K C)(k:W.kitOne K (.ref C) (.ref D)=some b):CV (tB (xM (Dn K ea C) (gO (gQ i) (gO (tC (.ref D)) jW)))) σ H b:=λQ q=>⟨_,c,_,b,rfl,x,.own k,b,rfl,q H (.refl _)⟩
def EG{T:String}(c:σ[i]? = some (some (.ref ea)))(x:pb K C)(k:W.kitOne K (.ref C) (.type T)=some b):CV (tB (xM (Dn K ea C) (gO (gQ i) (gO (tC (.ty T)) jW)))) σ H b:=λQ q=>⟨_,c,_,b,rfl,x,.ty k,b,rfl,q H (.refl _)⟩
def vm(h:CV t σ H a):CV (BN t) σ H (!a):=λQ q=>h _ q
def De(h:CV t σ H false)(f:∀c,dG H c->CV u σ c b):CV (GR t u) σ H b:=λQ q=>h _ λc s=>by rw[aR (by decide)];exact f c s Q λd e=>q d (s.trans e)
def A7{v w z:TS}{D:kR}(h:CV t σ H false)(k:∀c,dG H c->z D σ c):ml (xt t v n8) z D σ H:=h _ λc s=>by rw[aR (by decide)];exact k c s
end
end L3
namespace L3
open PySem L2 PySem.Spec PyProof.Rows
section
variable {K:W.Frag}{E:XK}{X:Cx}{x m:Str}{C:Addr}{k j:Nat}{Fn:List T->M T}{e o:Expr}{es:List Expr}{tr:TA}{fr:Pe->M (List T)}{ta:TE}{fa:Pe->M T}{p pos apos:Pos}
def w6(h:iX X.prog X.w X.K X.mg X.base x j (lG K Fn))(hr:eD k X.A)(c:rR K E X (e::es) tr fr)(d:j<=k:=by decide)(f:Gl X x:=by rfl)
  (a:(x==("__debug__" : Str))=false:=by decide) (g:starEach (e::es) X.env=(false,eval e X.env)::starEach es X.env:=by rfl) (b:(backTo pos (starEach es X.env)).any (·.1)=false:=by rfl) :
  Pm K E X (.Call (.Name x p) (e::es) [] pos) (lj (lG K Fn) [] E0 tr) (dD fr Fn):=⟨tj (h.mono d) hr wL c.pa f a g b,sk c.ma⟩
end
end L3
namespace L3
open PySem L2 PySem.Spec PyProof.Rows
def Hy(t:TE)(b:L2.St)(H:Hp)(v:V):Prop:=∀Q:VK,(∀a,dG H a->Q v a)->t b H Q
def Fj(t:TA)(b:L2.St)(H:Hp)(vs:List V):Prop:=∀Q:List V->Hp->Prop,(∀a,dG H a->Q vs a)->t b H Q
section
variable {K:W.Frag}{σ:L2.St}{H:Hp}{i:Nat}{ea C D:Addr}{b:Bool}{t:TE}{u:TA}{v:V}{vs:List V}
def iI(a:σ[i]? = some (some (.ref ea)))(x:pb K C)(k:W.kitOne K (.ref C) (.ref D)=some b):Hy (xM (Dn K ea C) (gO (gQ i) (gO (tC (.ref D)) jW))) σ H (.bl b):=λQ q=>⟨_,a,_,b,rfl,x,.own k,q H (.refl _)⟩
def m9:Fj jW σ H []:=λQ q=>q H (.refl _)
def gD(h:Hy t σ H v)(g:∀c,dG H c->Fj u σ c vs):Fj (gO t u) σ H (v::vs):=λQ q=>h _ λd a=>g d a _ λe f=>q e (a.trans f)
end
end L3
namespace L3
open PySem L2 PySem.Spec PyProof.Rows
section
variable {K:W.Frag}{H0 H:Hp}{σ:L2.St}{z w:TS}{D:kR}{i j:Nat}{p ea Ca:Addr}{xs vs:List V}{v:V}{u:TA}{te:TE}
def xV(h:Fj u σ H vs)(c:vs.length<=sizeLine)(k:∀a p,dG H a->H p=none->a p=some (.lst vs)->z D (σ.set j (some (.ref p))) a):ml (ji (AF u) (fH j)) z D σ H:=h _ λa s=>⟨c,λp b=>k (fw a p (.lst vs)) p (s.trans (fj b)) (dP s b) dA⟩
def Ao(f:σ[i]? = some (some (.ref p)))(d:H p=some (.lst xs))(h:Fj u σ H vs)(e:xs.length+vs.length<=sizeLine)(k:∀c p,dG H c->H p=none->c p=some (.lst (xs++vs))->z D (σ.set j (some (.ref p))) c) :
  ml (ji (mY Cz (gQ i) (AF u)) (fH j)) z D σ H:=
 ⟨_,f,h _ λg a=>⟨by omega,λq b=>⟨p,q,xs,vs,rfl,rfl,by rw[dH (dS (a _ _ d) b)];exact a _ _ d,dA,e,λr hr=>k _ r ((a.trans (fj b)).trans (fj hr)) (dP (a.trans (fj b)) hr) dA⟩⟩⟩
def Ep(f:σ[i]? = some (some (.ref p)))(a:H p=some (.lst xs))(h:Hy te σ H v)(d:xs.length<sizeLine)(k:∀c,dG H c->z D σ (fw c p (.lst (xs++[v])))):ml (mM (Cm K i te)) z D σ H:=⟨_,f,.inl ⟨rfl,xs,.inl (.inl a)⟩,h _ λe b=>⟨p,xs,v,rfl,rfl,b _ _ a,d,k e b⟩⟩
theorem qS(bs:List Bool):qa K H (bs.map V.bl) (bs.map PyData.bool)
 :=match bs with
 |[]=>.nil
 |b::bs=>.cons (.bl b) (qS bs)
theorem qV:∀bs:List Bool,PyData.canLayAll0 (bs.map PyData.bool)=true
 |[]=>rfl
 |b::bs=>by rw[bB,PyData.canLayAll0,qV bs];rfl
def qA(bs:List Bool):(bs.map PyData.bool).map (λd=>PyData.eqv d (.bool true))=bs:=by rw[aI];refine (cL λb _=>?_).trans (List.map_id bs);cases b<;>rfl
def Dq{bs:List Bool}(c:σ[i]? = some (some (.ref p)))(a:H p=some (.lst (bs.map V.bl)))(b:bs.countP id=1)(k:z D σ H):ml (xt (oK (mY HN (Gj K (gQ i) (gO (tC (.bl true)) jW)) (tC (.int 1)))) w n8) z D σ H:=by
 refine⟨_,c,p,rfl,⟨_,.inl (.inl a)⟩,.bl true,.bool true,bs.map PyData.bool,_,rfl,.inl (.inl a),.bl true,qS bs,⟨rfl,qV bs,by decide⟩,?_⟩;have e:(bs.map PyData.bool).countP (λd=>PyData.eqv d (.bool true))=1:=by have e:=congrArg (List.countP id) (qA bs);rw[cj]at e;exact e.trans b
 rw[e];exact⟨rfl,false,rfl,k⟩
def FQ{bs:List Bool}{q:Addr}{m n:Nat}(f:σ[i]? = some (some (.ref p)))(a:H p=some (.lst (bs.map V.bl)))(e:σ[j]? = some (some (.ref q)))(c:H q=some (.lst vs))(g:bs[m]? = some true)(b:∀l,l<m->bs[l]? = some false)(d:md vs (m:Int)=some v)(k:z D (σ.set n (some v)) H) :
  ml (ji (mY (G2 K) (gQ j) (FI K (gQ i) (gO (tC (.bl true)) jW))) (fH n)) z D σ H:=
 ⟨_,e,_,f,p,rfl,⟨_,.inl (.inl a)⟩,.bl true,.bool true,bs.map PyData.bool,_,m,rfl,.inl (.inl a),.bl true,qS bs,⟨rfl,qV bs,by decide⟩,by rw[qA];exact g,λl h=>by rw[qA];exact b l h,.inl ⟨q,vs,m,v,rfl,rfl,.inl (.inl c),d,k⟩⟩
def FU{x y:Str}(a:σ[i]? = some (some (.str x)))(b:x≠y)(k:z D σ H):ml (xt (oK (mY HW (gQ i) (tC (.str y)))) w n8) z D σ H:=⟨_,a,rfl,false,by rw[aB (by intro q;cases q;exact b rfl)],k⟩
theorem sU:∀(a:List Str) (H:Hp),Fj ((a.map λy=>tC (.str y)).foldr gO jW) σ H (a.map V.str)
 |[],_=>m9
 |_::a,H=>gD (λ_ q=>q H (.refl _)) λb _=>sU a b
end
end L3
namespace L3
open PySem L2 PySem.Spec PyProof.Rows
section
variable {K:W.Frag}{H H':Hp}{p A Cut:Addr}{o:HO}{y:Str}{i:Nat}
def xF(s:dG H H')(n:H p=none):dG H (fw H' p o):=λb u e=>by rw[dH (dS e n)];exact s b u e
def Do(A:Addr)(y:Str):Addr->Hd:=λC=>if C=A then .ret y else .no
def Dr(b:W.mroIn K A (.ref Cut)=some true):∀C,Do A y C≠.no->W.mroIn K C (.ref Cut)=some true/\∀l z,Do A y C=.set l z->i≠l:=λC h=>by
 unfold Do at h ⊢;by_cases a:C=A
 .subst a;exact⟨b,λl z e=>by rw[aQ rfl]at e;cases e⟩
 .exact absurd (by rw[aR a]) h
def Ee{a:Addr->L2.St}(d:∀ea,(a ea)[i]? = some (some (.ref ea))):∀C ea H D,H ea=none->(Do A y C).ok D (a ea) H->(sO (λa H Q=>gO (gQ i) jW a H λvs c=>vs=[.ref ea]/\(C=A/\∀H',dG c H'->Q (.str y) H'))) D (a ea) H:=λC ea H D _ q=>by
 unfold Do at q;by_cases b:C=A
 .rw[aQ b]at q;exact⟨_,d ea,rfl,b,q⟩
 .rw[aR b]at q;exact q.elim
end
end L3
namespace L3
open PySem L2
def HK(hr:eD (k+1) A):A.units+3+200<cLine:=by have:=hr.un;omega
end L3
namespace CL
open PySem L2 L3
structure Cs where
 Cutting:Addr
 Desk:Addr
 CutError:Addr
 NoCutting:Addr
 NoTable:Addr
 NoFraction:Addr
 NoSpot:Addr
 NoSigns:Addr
 NoLand:Addr
 NoFace:Addr
 NoNumber:Addr
 NoText:Addr
 NoDeed:Addr
def l5(c:Cs):En->O:=(dO (setO 2 (f9 (dI n5 (dk 0) (dk 1))))
  (dO (setO 0 (f9 (dk 1)))
  (setO 1 (f9 (dk 2)))))
def mE(c:Cs):En->O:=(dO (λa=>iP (eW (dI (d7 true) (dk 1) (cM (.int 0)))) (l5 c) ((λa=>match a with|_::some (.p (.int j))::_=>j.natAbs+1|_=>0) a) a)
  (eI (ia wz (dg (dk 0) dm))))
def eS(c:Cs):List T->M T:=je 2 3 (mE c)
def jt(c:Cs):En->O:=(dO (jo (eW (dI GD (dk 1) (ia gP (dg (dk 0) dm)))) (eI (dI gw (dk 0) (dk 1))) eE)
  (eI (cM (.int 0))))
def fu(c:Cs):List T->M T:=je 2 2 (jt c)
def uv(c:Cs):En->O:=(eI (zA (mZ "int" (dk 0)) (zf (mZ "bool" (dk 0)))))
def eJ(c:Cs):List T->M T:=je 1 1 (uv c)
def oA(c:Cs):En->O:=(eI (zA (dD (dg (dk 0) dm) (eJ c)) (Hb Gx GD (cM (.int 0)) (dk 0) (dk 1))))
def d6(c:Cs):List T->M T:=je 2 2 (oA c)
def xm(c:Cs):En->O:=(dO (jo (eW (dI Fk (dk 0) (cM (.int 0)))) (eI (cM (.int 1))) eE)
  (dO (jo (eW (dI GD (dk 0) (cM (.int 0)))) (eI (xK (λi=>.int (-i)) (cM (.int 1)))) eE)
  (eI (cM (.int 0)))))
def jL(c:Cs):List T->M T:=je 1 1 (xm c)
def wX(c:Cs):En->O:=(eI (zA (dD (dg (dk 0) dm) (eJ c)) (Hb Gx Gx (cM (.int 1)) (dk 0) (cM (.int 3)))))
def i5(c:Cs):List T->M T:=je 1 1 (wX c)
def mF(c:Cs):Pe->M T:=(dD (dg (dk 0) dm) (eJ c))
def mr(c:Cs):Pe->M T:=(dI (d7 true) (dk 0) (cM (.int 0)))
def zO(c:Cs):En->O:=(dO (jo (xJ (jr (eW (mZ "tuple" (dk 1)))) (eW (dI (d7 true) (ia gP (dg (dk 1) dm)) (dI fO (dk 0) (cM (.int 1)))))) (eI (cM (.bl false))) eE)
  (dO (jo (jr (eW (ia uf (dg (eQ (h8 [none] (eT (dk 1)) (gR 0) (λ_=>.ok true) (mF c))) dm)))) (eI (cM (.bl false))) eE)
  (eI (ia l9 (dg (eQ (h8 [none] (eT (j3 (dk 1) (λ_=>.ok none) (ir (dk 0)))) (gR 0) (λ_=>.ok true) (mr c))) dm)))))
def jG(c:Cs):List T->M T:=je 2 2 (zO c)
def kg(c:Cs):En->O:=(setO 1 (f9 (dI fO (dk 1) (cM (.int 1)))))
def pk(c:Cs):En->O:=(dO (setO 1 (f9 (cM (.int 0))))
  (dO (λa=>iP (eW (dI (d7 false) (dI gw (dk 0) (dk 1)) (cM (.int 0)))) (kg c) ((λa=>match a with|some (.p (.tup ts))::_=>ts.length+1|_=>0) a) a)
  (eI (dk 1))))
def gC(c:Cs):List T->M T:=je 1 2 (pk c)
def lh(c:Cs):Pe->M T:=(dI (d7 false) (dI iR (dk 0) (dI gw (dk 2) (dk 3))) (dI iR (dk 1) (dI gw (dk 4) (dk 3))))
def qN(c:Cs):En->O:=(dO (setO 2 (f9 (dD (dg (dk 0) dm) (gC c))))
  (eI (ia uf (dg (eQ (h8 [none,none,some 1,some 2,some 0] (m6 (dg (dk 0) (dg (dk 1) dm))) (mw 2 (f7 (gR 0) (f7 (gR 1) mm))) (λ_=>.ok true) (lh c))) dm))))
def hV(c:Cs):List T->M T:=je 2 3 (qN c)
def jT(c:Cs):Pe->M T:=(dD (dg (dk 0) (dg (dk 1) dm)) (hV c))
def sj(c:Cs):En->O:=(dO (jo (xJ (eW (dI Ge (ia gP (dg (dk 1) dm)) (cM (.int 7)))) (jr (eW (dD (dg (dk 0) (dg (dk 2) dm)) (jG c))))) (eI (cM (.bl false))) eE)
  (eI (zf (ia l9 (dg (eQ (h8 [none,some 2] (eT (dk 1)) (gR 0) (λ_=>.ok true) (jT c))) dm)))))
def gN(c:Cs):List T->M T:=je 3 3 (sj c)
def jZ(c:Cs):En->O:=(dO (jo (jr (eW (dD (dg (dk 0) (dg (dk 2) (dg (dk 3) dm))) (gN c)))) (λ_=>.bad) eE)
  (nG 2 (f9 (ia gF (dg (dk 3) dm)))))
def oE(c:Cs):En->O:=(dO (jo (xJ (jr (eW (dD (dg (dk 0) dm) (i5 c)))) (jr (eW (mZ "list" (dk 1))))) (λ_=>.bad) eE)
  (dO (jR 2 (lJ (lstM dm)))
  (dO (og (eT (dk 1)) (jA 3) (jZ c))
  (eI (ia gF (dg (dk 2) dm))))))
def fB(c:Cs):List T->M T:=je 2 4 (oE c)
def fy(c:Cs):List T->M T:=qj c.Cutting 2 "own_cuts" "own_dims" (dD (dg (dk 1) (dg (dk 2) dm)) (fB c)) (dk 1)
def oz(c:Cs):En->O:=(eI (sS c.Cutting "own_dims" (dk 0)))
def fC(c:Cs):List T->M T:=je 1 1 (oz c)
def nC(c:Cs):En->O:=(pJ (zc jq (dg (sS c.Cutting "own_cuts" (dk 0)) dm)))
def fF(c:Cs):List T->M (List T):=wZ 1 1 (nC c)
def oJ(c:Cs):En->O:=(eI (ia gP (dg (sS c.Cutting "own_cuts" (dk 0)) dm)))
def fE(c:Cs):List T->M T:=je 1 1 (oJ c)
def sr(c:Cs):En->O:=(setO 3 (f9 (dI nM (dk 3) (dk 2))))
def tM(c:Cs):En->O:=(dO (jo (eW (dI Ge (dk 0) (dI Ag (cM (.int 10)) (cM (.int 18))))) (dO (setO 3 (f9 (dk 0)))
  (dO (lr (ip (dg (dk 1) dm)) (jA 4) (sr c))
  (eI (dI n5 (dk 3) (dk 2))))) eE)
  (dO (setO 5 (f9 (dI n5 (dI iR (dI fO (dI fO (dI n5 (dk 0) (cM (.int 1000000007))) (dI iR (cM (.int 1009)) (dk 1))) (cM (.int 17))) (cM (.int 69621))) (cM (.int 2147483647)))))
  (dO (setO 5 (f9 (dI n5 (dI fO (dI fO (dI iR (dk 5) (dk 5)) (dI iR (cM (.int 40503)) (dk 1))) (cM (.int 5))) (cM (.int 2147483629)))))
  (eI (dI n5 (dI nM (dI n5 (dI iR (dk 5) (cM (.int 48271))) (cM (.int 2147483647))) (cM (.int 32))) (dk 2))))))
def dE(c:Cs):List T->M T:=je 3 6 (tM c)
def mQ(c:Cs):En->O:=(jo (eW (dI (d7 true) (dI iR (dI gw (dk 0) (dk 2)) (dI gw (dk 1) (dk 3))) (dI iR (dI gw (dk 0) (dk 3)) (dI gw (dk 1) (dk 2))))) (eI (cM (.bl false))) eE)
def sT(c:Cs):En->O:=(lr (ip (dg (dk 2) dm)) (jA 3) (mQ c))
def ux(c:Cs):En->O:=(dO (lr (ip (dg (ia gP (dg (dk 0) dm)) dm)) (jA 2) (sT c))
  (eI (cM (.bl true))))
def gI(c:Cs):List T->M T:=je 2 4 (ux c)
def qg(c:Cs):En->O:=(dO (setO 1 (f9 (dD (dg (dk 1) (dg (dk 2) dm)) (eS c))))
  (jo (eW (dI (d7 false) (dk 1) (cM (.int 1)))) (eI (dk 0)) eE))
def wk(c:Cs):Pe->M T:=(dI nM (dk 0) (dk 1))
def zy(c:Cs):En->O:=(dO (setO 1 (f9 (cM (.int 0))))
  (dO (og (eT (dk 0)) (jA 2) (qg c))
  (dO (jo (eW (dI (d7 false) (dk 1) (cM (.int 0)))) (eI (dk 0)) eE)
  (eI (ia gF (dg (eQ (h8 [none,some 1] (eT (dk 0)) (gR 0) (λ_=>.ok true) (wk c))) dm))))))
def kb(c:Cs):List T->M T:=je 1 3 (zy c)
def tG(c:Cs):Pe->M T:=(dI fO (dI iR (dk 2) (dk 0)) (dI iR (dk 3) (dk 1)))
def xH(c:Cs):En->O:=(dO (jo (eW (dI (d7 false) (dI gw (dk 0) (dk 2)) (cM (.int 0)))) (eI (dk 0)) eE)
  (dO (setO 3 (f9 (ia wz (dg (dI gw (dk 1) (dk 2)) dm))))
  (dO (setO 4 (f9 (dI iR (xK (λi=>.int (-i)) (dI gw (dk 0) (dk 2))) (dD (dg (dI gw (dk 1) (dk 2)) dm) (jL c)))))
  (eI (dD (dg (ia gF (dg (eQ (h8 [none,none,some 3,some 4] (m6 (dg (dk 0) (dg (dk 1) dm))) (mw 2 (f7 (gR 0) (f7 (gR 1) mm))) (λ_=>.ok true) (tG c))) dm)) dm) (kb c))))))
def gz(c:Cs):List T->M T:=je 3 5 (xH c)
def lD(c:Cs):En->O:=(setO 0 (f9 (dD (dg (dk 0) (dg (dk 3) (dg (dk 2) dm))) (gz c))))
def wQ(c:Cs):En->O:=(dO (og (eT (dk 1)) (lp 2 (fX (jA 2) (fX (jA 3) kU))) (lD c))
  (eI (dk 0)))
def fU(c:Cs):List T->M T:=je 2 4 (wQ c)
def lb(c:Cs):Pe->M T:=(kP (dg (dk 0) (dg (dD (dg (dk 1) (dg (dk 2) (dg (dk 3) dm))) (gz c)) dm)))
def qQ(c:Cs):En->O:=(pJ (qM (eQ (h8 [none,none,some 1,some 2] (eT (dk 0)) (mw 2 (f7 (gR 0) (f7 (gR 1) mm))) (λ_=>.ok true) (lb c))) (eQ (lstM (dg (kP (dg (dk 2) (dg (dk 1) dm))) dm)))))
def gx(c:Cs):List T->M (List T):=wZ 3 3 (qQ c)
def iT(c:Cs):Pe->M T:=(dk 0)
def gA(c:Cs):En->O:=(dO (setO 5 (f9 (dD (dg (dk 4) (dg (dk 2) dm)) (fU c))))
  (dO (setO 6 (f9 (eQ (h8 [none,some 5] (ip (dg (dk 1) dm)) (gR 0) (eW (dI (d7 true) (dI gw (dk 1) (dk 0)) (cM (.int 0)))) (iT c)))))
  (jo (eW (dI (d7 false) (dk 6) (eQ (lstM dm)))) (nG 3 (f9 (dk 5))) (setO 2 (f9 (eQ (lz (dg (dk 2) (dg (dk 5) (dg (dI gw (dk 6) (cM (.int 0))) dm))) (gx c))))))))
def ls(c:Cs):En->O:=(dO (setO 2 (f9 (eQ (lstM dm))))
  (dO (jR 3 (lJ (lstM dm)))
  (dO (og (eT (dk 0)) (jA 4) (gA c))
  (eI (kP (dg (dk 2) (dg (dk 3) dm)))))))
def eU(c:Cs):List T->M T:=je 2 7 (ls c)
def eM(c:Cs):Pe->M T:=(dD (dg (dk 0) (dg (mJ c.Cutting "many" (dk 1) dm (fE c)) dm)) (d6 c))
def j4(c:Cs):En->O:=(dO (jo (jr (eW (mZ "list" (dk 1)))) (eI (cM (.bl false))) eE)
  (dO (jo (jr (eW (ia uf (dg (eQ (h8 [none,some 0] (eT (dk 1)) (gR 0) (λ_=>.ok true) (eM c))) dm)))) (eI (cM (.bl false))) eE)
  (eI (dI (d7 false) (zK (dg (dk 1) dm)) (ia gP (dg (dk 1) dm))))))
def dJ(c:Cs):List T->M T:=je 2 2 (j4 c)
def uQ(c:Cs):Pe->M T:=(dI gw (dk 1) (dk 0))
def oq(c:Cs):Pe->M T:=(ia l9 (dg (dk 0) dm))
def nF(c:Cs):Pe->M T:=(dk 0)
def xn(c:Cs):En->O:=(dO (setO 3 (f9 (dD (dg (eQ (h8 [none,some 0] (eT (dk 2)) (gR 0) (λ_=>.ok true) (uQ c))) (dg (dk 1) dm)) (eU c))))
  (dO (jo (eW (ia l9 (dg (eQ (h8 [none] (eT (dI gw (dk 3) (cM (.int 1)))) (gR 0) (λ_=>.ok true) (oq c))) dm))) (eI (cM .non)) eE)
  (dO (setO 4 (f9 (dI gw (dk 3) (cM (.int 0)))))
  (dO (setO 5 (f9 (eQ (h8 [none,none,some 4] (nK (dg (dk 0) dm)) (mw 2 (f7 (gR 0) (f7 (gR 1) mm))) (jr (eW (ia l9 (dg (dD (dg (dk 1) (dg (dk 2) dm)) (fU c)) dm)))) (nF c)))))
  (eI (kP (dg (dI nO (dk 1) (ia gP (dg (dk 4) dm))) (dg (ia gF (dg (dk 5) dm)) dm))))))))
def iF(c:Cs):List T->M T:=je 3 6 (xn c)
def lV(c:Cs):Pe->M T:=(dI nO (dD (dg (dk 2) (dg (dI fO (dI fO (cM (.int 4)) (dI iR (cM (.int 4)) (dk 3))) (dk 0)) (dg (dI fO (dI iR (cM (.int 2)) (dk 1)) (cM (.int 1))) dm))) (dE c)) (dk 1))
def lO(c:Cs):Pe->M T:=(dI fO (dk 0) (dI iR (dk 2) (dk 1)))
def sP(c:Cs):En->O:=(dO (setO 4 (f9 (dI gw (eQ (lstM (dg (cM (.int 1)) (dg (cM (.int 2)) (dg (cM (.int 3)) (dg (cM (.int 5)) (dg (cM (.int 1000)) dm))))))) (dD (dg (dk 0) (dg (cM (.int 2)) (dg (cM (.int 5)) dm))) (dE c)))))
  (dO (jR 5 (lJ (h8 [none,some 4,some 0,some 1] (ip (dg (dI fO (dk 2) (cM (.int 1))) dm)) (gR 0) (λ_=>.ok true) (lV c))))
  (dO (setO 6 (f9 (dD (dg (dk 0) (dg (dI fO (cM (.int 40)) (dk 1)) (dg (cM (.int 6)) dm))) (dE c))))
  (dO (jo (m4 (eW (dI (d7 false) (dk 6) (cM (.int 1)))) (eW (dI (d7 true) (dk 3) (eQ (lstM dm))))) (jR 5 (ue (qM (eQ (zc jq (dg (j3 (dI gw (dk 3) (dD (dg (dk 0) (dg (dI fO (cM (.int 50)) (dk 1)) (dg (ia gP (dg (dk 3) dm)) dm))) (dE c))) (λ_=>.ok none) (ir (dk 2))) dm))) (j3 (dk 5) (ir (dk 2)) (λ_=>.ok none))))) eE)
  (dO (jo (eW (dI (d7 false) (dk 6) (cM (.int 2)))) (qF 5 (mH (dk 2)) (mH (cM (.int 0)))) eE)
  (dO (jo (m4 (eW (dI (d7 false) (dk 6) (cM (.int 3)))) (eW (dI Fk (ia gP (dg (dk 3) dm)) (cM (.int 1))))) (dO (setO 7 (f9 (dI gw (dk 3) (dD (dg (dk 0) (dg (dI fO (cM (.int 50)) (dk 1)) (dg (dI nO (ia gP (dg (dk 3) dm)) (cM (.int 1))) dm))) (dE c)))))
  (dO (setO 8 (f9 (dI fO (cM (.int 1)) (dD (dg (dk 0) (dg (dI fO (cM (.int 60)) (dk 1)) (dg (cM (.int 3)) dm))) (dE c)))))
  (jR 5 (lJ (h8 [none,none,some 8] (m6 (dg (dI gw (dk 3) (xK (λi=>.int (-i)) (cM (.int 1)))) (dg (dk 7) dm))) (mw 2 (f7 (gR 0) (f7 (gR 1) mm))) (λ_=>.ok true) (lO c)))))) eE)
  (dO (jo (eW (dI (d7 false) (j3 (dk 5) (λ_=>.ok none) (ir (dk 2))) (eQ (Ai (eQ (lstM (dg (cM (.int 0)) dm))) (dk 2))))) (qF 5 (mH (dD (dg (dk 0) (dg (dI fO (cM (.int 60)) (dk 1)) (dg (dk 2) dm))) (dE c))) (mH (cM (.int 1)))) eE)
  (eI (ia gF (dg (dk 5) dm))))))))))
def gq(c:Cs):List T->M T:=je 4 9 (sP c)
def jc(c:Cs):Pe->M T:=(dk 0)
def ke(c:Cs):En->O:=(dO (setO 5 (mH (dD (dg (dk 0) (dg (dk 4) (dg (dk 2) (dg (dk 3) dm)))) (gq c))))
  (jo (eW (dI (d7 false) (eQ (h8 [none,some 5] (eT (dk 3)) (gR 0) (eW (dD (dg (dk 0) (dg (dk 1) dm)) (gI c))) (jc c))) (eQ (lstM dm)))) (nG 3 (f9 (dk 5))) eE))
def oY(c:Cs):En->O:=(dO (setO 2 (f9 (dI gw (eQ (lstM (dg (cM (.int 1)) (dg (cM (.int 2)) (dg (cM (.int 2)) (dg (cM (.int 3)) (dg (cM (.int 3)) dm))))))) (dD (dg (dk 0) (dg (cM (.int 0)) (dg (cM (.int 5)) dm))) (dE c)))))
  (dO (jR 3 (lJ (lstM dm)))
  (dO (lr (ip (dg (dD (dg (dk 0) (dg (cM (.int 1)) (dg (dI fO (dk 1) (cM (.int 1))) dm))) (dE c)) dm)) (jA 4) (ke c))
  (eI (kP (dg (dk 2) (dg (dk 3) dm)))))))
def gE(c:Cs):List T->M T:=je 2 6 (oY c)
def kZ(c:Cs):Pe->M T:=(dI nO (dI iR (dI gw (dk 3) (dk 4)) (dk 0)) (dI iR (dk 2) (dk 1)))
def iJ(c:Cs):En->O:=(dO (setO 6 (f9 (dI gw (dk 3) (dk 4))))
  (setO 3 (f9 (eQ (h8 [none,none,some 6,some 5,some 4] (m6 (dg (dk 3) (dg (dk 5) dm))) (mw 2 (f7 (gR 0) (f7 (gR 1) mm))) (λ_=>.ok true) (kZ c))))))
def lg(c:Cs):Pe->M T:=(dk 0)
def jv(c:Cs):En->O:=(dO (setO 3 (f9 (eQ (zc jq (dg (dk 2) dm)))))
  (dO (kx 1 (lp 2 (fX (jA 4) (fX (jA 5) kU))) (iJ c))
  (dO (setO 7 (f9 (eQ (h8 [none,some 3] (ip (dg (ia gP (dg (dk 3) dm)) dm)) (gR 0) (eW (dI (d7 true) (dI gw (dk 1) (dk 0)) (cM (.int 0)))) (lg c)))))
  (jo (eW (dI (d7 true) (dk 7) (eQ (lstM dm)))) (nG 1 (f9 (kP (dg (dI gw (dk 7) (cM (.int 0))) (dg (dk 3) dm))))) eE))))
def qG(c:Cs):En->O:=(dO (jR 1 (lJ (lstM dm)))
  (dO (og (eT (dk 0)) (jA 2) (jv c))
  (eI (ia gP (dg (dk 1) dm)))))
def d9(c:Cs):List T->M T:=je 1 8 (qG c)
def sg(c:Cs):Pe->M T:=(dI gw (dk 1) (dk 0))
def j8(c:Cs):Pe->M T:=(j3 (dI gw (dk 1) (dk 0)) (λ_=>.ok none) (ir (dk 2)))
def mO(c:Cs):Pe->M T:=(dI gw (dk 1) (dk 0))
def mV(c:Cs):Pe->M T:=(dk 0)
def uF(c:Cs):En->O:=(dO (setO 3 (f9 (dD (dg (eQ (h8 [none,some 1] (eT (dk 2)) (gR 0) (λ_=>.ok true) (sg c))) dm) (d9 c))))
  (dO (jo (eW (dI (d7 true) (dD (dg (eQ (h8 [none,some 1,some 0] (eT (dk 2)) (gR 0) (λ_=>.ok true) (j8 c))) dm) (d9 c)) (dk 3))) (eI (cM .non)) eE)
  (dO (setO 4 (f9 (eQ (h8 [none,some 3,some 1,some 2] (ip (dg (ia gP (dg (dk 1) dm)) dm)) (gR 0) (eW (dI (d7 false) (dD (dg (eQ (qM (eQ (h8 [none,some 2] (eT (dk 3)) (gR 0) (λ_=>.ok true) (mO c))) (eQ (lstM (dg (dI gw (dk 2) (dk 0)) dm))))) dm) (d9 c)) (dk 1))) (mV c)))))
  (eI (kP (dg (dI nO (dk 0) (dk 3)) (dg (ia gF (dg (dk 4) dm)) dm)))))))
def oa(c:Cs):List T->M T:=je 3 5 (uF c)
def pB(c:Cs):Pe->M T:=(dI gw (dk 1) (dk 0))
def pj(c:Cs):Pe->M T:=(j3 (dI gw (dk 1) (dk 0)) (λ_=>.ok none) (ir (dk 2)))
def pE(c:Cs):Pe->M T:=(dI gw (dk 1) (dk 0))
def ph(c:Cs):Pe->M T:=(dk 0)
def rq(c:Cs):En->O:=(dO (setO 3 (f9 (dD (dg (eQ (h8 [none,some 1] (eT (dk 2)) (gR 0) (λ_=>.ok true) (pB c))) dm) (d9 c))))
  (dO (jo (eW (dI (d7 true) (dD (dg (eQ (h8 [none,some 1,some 0] (eT (dk 2)) (gR 0) (λ_=>.ok true) (pj c))) dm) (d9 c)) (dk 3))) (eI (cM .non)) eE)
  (dO (setO 4 (f9 (eQ (h8 [none,some 3,some 1,some 2] (ip (dg (ia gP (dg (dk 1) dm)) dm)) (gR 0) (eW (dI (d7 false) (dD (dg (eQ (qM (eQ (h8 [none,some 2] (eT (dk 3)) (gR 0) (λ_=>.ok true) (pE c))) (eQ (lstM (dg (dI gw (dk 2) (dk 0)) dm))))) dm) (d9 c)) (dk 1))) (ph c)))))
  (eI (kP (dg (dI nO (dk 0) (dk 3)) (dg (ia gF (dg (dk 4) dm)) dm)))))))
def gy(c:Cs):List T->M T:=je 3 5 (rq c)
def mL(c:Cs):En->O:=(pX 4 3 (mH (dD (dg (dk 0) (dg (dI fO (dI fO (cM (.int 80)) (dI iR (cM (.int 10)) (dk 1))) (dk 5)) (dg (ia gP (dg (dk 3) dm)) dm))) (dE c))))
def uk(c:Cs):En->O:=(dO (jR 3 (lJ (Fw (dg (dk 2) dm))))
  (dO (jR 4 (lJ (lstM dm)))
  (dO (lr (ip (dg (dD (dg (dk 0) (dg (dI fO (cM (.int 70)) (dk 1)) (dg (dI fO (dk 2) (cM (.int 1))) dm))) (dE c)) dm)) (jA 5) (mL c))
  (nh 4))))
def i9(c:Cs):List T->M (List T):=wZ 3 6 (uk c)
def rE(c:Cs):En->O:=(dO (jo (jr (eW (dD (dg (dk 0) (dg (dk 1) dm)) (dJ c)))) (λ_=>.er c.NoNumber none) eE)
  (eI (dD (dg (eQ (nE c.Cutting "cuts" (dk 0) dm (fF c))) (dg (mJ c.Cutting "dims" (dk 0) dm (fC c)) (dg (dk 1) dm))) (iF c))))
def e7(c:Cs):List T->M T:=je 2 2 (rE c)
def jX(c:Cs):En->O:=(Al 3 (qm (f9 (ve (dg (dk 0) (dg (dk 1) dm)) (e7 c)))) (Do c.NoNumber "number")
  (eI (cM (.str "told"))))
def fQ(c:Cs):List T->M T:=je 2 3 (jX c)
def p0(c:Cs):En->O:=(dO (setO 7 (f9 (eQ (lz (dg (dk 2) (dg (dk 6) (dg (ia gP (dg (dk 4) dm)) dm))) (i9 c)))))
  (dO (setO 8 (f9 (eQ (zc jq (dg (dk 7) dm)))))
  (dO (setO 9 (f9 (dD (dg (dk 5) (dg (dk 8) dm)) (e7 c))))
  (dO (jo (xJ (eW (dI (d7 true) (dk 9) (dD (dg (dk 3) (dg (dk 4) (dg (dk 7) dm))) (gy c)))) (eW (dI (d7 true) (dk 8) (dk 7)))) (eI (cM (.bl false))) eE)
  (jo (m4 (eW (dI (A5 true) (dk 9) (cM .non))) (jr (eW (mZ "tuple" (dI gw (dk 9) (cM (.int 1))))))) (eI (cM (.bl false))) eE)))))
def pZ(c:Cs):En->O:=(jo (eW (dI (d7 true) (dD (dg (dk 5) (dg (dk 11) dm)) (fQ c)) (cM (.str "number")))) (eI (cM (.bl false))) eE)
def p9(c:Cs):En->O:=(dO (setO 2 (f9 (dD (dg (dk 0) (dg (dk 1) dm)) (fu c))))
  (dO (yB (dD (dg (dk 2) (dg (dI fO (cM (.int 6)) (ia rZ (dg (dI (d7 false) (dD (dg (dk 2) (dg (cM (.int 67)) (dg (cM (.int 4)) dm))) (dE c)) (cM (.int 1))) dm))) dm)) (gE c)) (lp 2 (fX (jA 3) (fX (jA 4) kU))))
  (dO (setO 5 (f9 (dD (dg (dk 3) (dg (eQ (zc jq (dg (dk 4) dm))) dm)) (fy c))))
  (dO (lr (ip (dg (cM (.int 3)) dm)) (jA 6) (p0 c))
  (dO (setO 10 (f9 (dI fO (ia gP (dg (dk 4) dm)) (dD (dg (dk 2) (dg (cM (.int 66)) (dg (dI Ag (cM (.int 10)) (cM (.int 9))) dm))) (dE c)))))
  (og (eT (eQ (lstM (dg (cM .non) (dg (cM (.int 0)) (dg (kP dm) (dg (cM (.str "")) (dg (cM .emp) (dg (eQ (lstM (dg (dk 10) dm))) (dg (eQ (lstM (dg (xK (λi=>.int (-i)) (cM (.int 1))) dm))) (dg (eQ (lstM (dg (dI nO (xK (λi=>.int (-i)) (dk 10)) (cM (.int 1))) dm))) (dg (eQ (lstM (dg (cM (.bl true)) dm))) (dg (eQ (lstM (dg (cM (.bl false)) dm))) (dg (eQ (lstM (dg (cM (.str "0")) dm))) (dg (eQ (lstM (dg (cM .non) dm))) (dg (eQ (lstM (dg (eQ (lstM (dg (cM (.int 0)) dm))) dm))) (dg (eQ (lstM (dg (cM (.int 0)) (dg (cM (.int 0)) dm)))) dm))))))))))))))))) (jA 11) (pZ c)))))))
def AL(c:Cs):En->O:=(dO (og (eT (eQ (lstM (dg (cM (.int 0)) (dg (cM (.int 1)) (dg (cM (.int 0)) dm)))))) (jA 1) (p9 c))
  (eI (cM (.bl true))))
def lU(c:Cs):List T->M T:=je 1 12 (AL c)
variable {c:Cs}
def ug ns (k:Nat):∃v,fu c [.scr ns,.int k]=.ok (.int v)/\(v=0\/v∈ns):=by
 by_cases h:(k:Int)<ns.length
 .obtain⟨a,e,b⟩:=qY ns k (by omega) h;exact⟨a,by simp[fu,jt,h,e],.inr b⟩
 .exact⟨0,by simp[fu,jt,h],.inl rfl⟩
def gM(h:i.natAbs<2 ^ 64):iR (.int i) (.int j)=.ok (.int (i*j)):=gU (wF h)
def Cy cell (k:Nat) b (B:0<b) (E:b<2 ^ 62) (I:k<=1000000):∃d,dE c [.int cell,.int (k:Int),.int b]=.ok (.int d)/\0<=d/\d<b:=by
 have f:b≠0:=by omega
 have z:∀x:Int,0<=x.fmod b/\x.fmod b<b:=λx=>⟨cq x B,cu x B⟩;have l:Ag (.int 10) (.int 18)=.ok (.int 1000000000000000000):=by simp[Ag,hZ]
 by_cases h:(1000000000000000000:Int)<=cell
 .obtain⟨u,e,v,w,rfl⟩:=iw (m:=jA 4) (g:=setO 3 (f9 (dI nM (dk 3) (dk 2)))) (λ(i:Nat)=>T.int (i:Int)) (λ_ u=>∃v w,u=[some (.p (.int cell)),some (.p (.int k)),some (.p (.int b)),some (.p (.int v)),w,none])
   (List.range k) 0 [some (.p (.int cell)),some (.p (.int k)),some (.p (.int b)),some (.p (.int cell)),none,none] ⟨_,_,rfl⟩ (by rintro i a u K ⟨v,w,rfl⟩;have D:Builtin.divisionGoesByPylong v b=false:=Bn.noPy (n:=62) (by unfold Bn;omega) (by decide);exact⟨_,_,rfl,.inl (dX (by simp[oH f D];rfl) rfl),_,_,rfl⟩)
  refine⟨v.fmod b,eA rfl ?_,z v⟩;have r:xI (k:Int)=true:=i7 (by omega);refine iC (fv (by simp[l,h]) (du (dX (by simp) rfl) (du (jl (by simp[r,B7]) e) (dY (by simp[lN f]))))) rfl
 .have o:∀x y:Int,0<y->0<=x.fmod y/\x.fmod y<y:=λx y A=>⟨cq x A,cu x A⟩;have J:=o cell 1000000007 (by decide);have C:=o ((cell.fmod 1000000007+1009*k+17)*69621) 2147483647 (by decide);generalize s:((cell.fmod 1000000007+1009*k+17)*69621).fmod 2147483647=s1 at C;have F:=o (s1*s1+40503*k+5) 2147483629 (by decide);generalize q:(s1*s1+40503*k+5).fmod 2147483629=s2 at F;have H:Builtin.divisionGoesByPylong ((s2*48271).fmod 2147483647) 32=false:=Bn.noPy (n:=62) (by unfold Bn;decide) (by decide);refine⟨(((s2*48271).fmod 2147483647).fdiv 32).fmod b,eA rfl ?_,z _⟩;refine du (eR (by simp[l,h]) rfl) (du (dX (t:=.int s1) ?_ rfl) (du (dX (t:=.int s2) ?_ rfl) (dY ?_)))
  .rw[<-s];simp[lN,gM (i:=1009) (j:=k) (by decide),gM (i:=cell.fmod 1000000007+1009*k+17) (j:=69621) (by omega)]
  .rw[<-q];simp[lN,gM (i:=40503) (j:=k) (by decide),gM (i:=s1) (j:=s1) (by omega)]
  .simp[lN,f,oH (j:=32) (by decide) H,gM (i:=s2) (j:=48271) (by omega)]
def dr(c:Cs)(a k b:Int):Int:=match dE c [.int a,.int k,.int b] with
 |.ok (.int d)=>d
 |_=>0
def f6 cell k b (g:0<b) (a:b<2 ^ 62) (f:0<=k) (j:k<=1000000):dE c [.int cell,.int k,.int b]=.ok (.int (dr c cell k b))/\0<=dr c cell k b/\dr c cell k b<b:=by
 obtain⟨d,e,i,h⟩:=Cy cell k.toNat b g a (by omega);rw[cK f]at e;have:dr c cell k b=d:=by unfold dr;rw[e]
 rw[this];exact⟨e,i,h⟩
def vC(l:LI)(i:Int)(b:0<=i)(d:i<l.length):∃w,gw (.lst (l.map T.int)) (.int i)=.ok (.int w)/\w∈l:=by obtain⟨a,e,f⟩:=qY l i b d;exact⟨a,by simp[jS,e],f⟩
def Gd i:(if i<0 then -i else i)=(i.natAbs:Int):=by split<;>omega
def l0 a b:eS c [.int a,.int b]=.ok (.int (Cu.G a b)):=by
 obtain⟨d,e,x,w,rfl,i⟩:=ly (c:=eW (dI (d7 true) (dk 1) (cM (.int 0)))) (g:=dO (setO 2 (f9 (dI n5 (dk 0) (dk 1)))) (dO (setO 0 (f9 (dk 1))) (setO 1 (f9 (dk 2)))))
  (λd=>∃x y w,d=[some (.p (.int x)),some (.p (.int y)),w]/\Cu.G x y=Cu.G a b) (λd=>match d with|_::some (.p (.int j))::_=>j.natAbs|_=>0)
  (λd=>∃x w,d=[some (.p (.int x)),some (.p (.int 0)),w]/\Cu.G x 0=Cu.G a b) (by
   rintro d ⟨x,y,w,rfl,h⟩;by_cases f:y=0
   .subst f;exact .inl ⟨by simp,_,_,rfl,h⟩
   .refine .inr ⟨by simp[f],_,.inl (du (dX (t:=.int (x.fmod y)) (by simp[lN f]) rfl) (du (dX (by simp) rfl) (dX (by simp) rfl))),⟨y,x.fmod y,_,rfl,?_⟩,?_⟩
    .rw[<-h];exact Cu.E2 x y
    .exact Cu.xC x y f)
  (b.natAbs+1) [some (.p (.int a)),some (.p (.int b)),none] ⟨a,b,none,rfl,rfl⟩ (bC _)
 refine eA rfl (du e (dY ?_));rw[Cu.zN]at i;simp[Gd,i]
def Bj{t g:Int}(b:g ∣ t)(a:g≠0):(t.fdiv g).natAbs<=t.natAbs:=by obtain⟨k,rfl⟩:=b;rw[cN k a,aY];exact Nat.le_mul_of_pos_left _ (by omega)
noncomputable def Fm:T->Bool
 |.scr _=>false
 |.obj _ _=>false
 |.dic _=>false
 |_=>true
noncomputable def isInt:T->Bool
 |.int _=>true
 |_=>false
def sE x (h:Fm x=true):eJ c [x]=.ok (.bl (isInt x)):=by cases x<;>first|(simp[Fm]at h;done)|rfl
def Co x (h:Fm x=true):DQ "tuple" x=.ok (.bl (l6 x)):=by cases x<;>first|(simp[Fm]at h;done)|rfl
noncomputable def wm(x:Int):Int:=if 0<x then 1 else if x<0 then -1 else 0
def xG x:-1<=wm x/\wm x<=1:=by unfold wm;split<;>(try split)<;>lia
def um x:jL c [.int x]=.ok (.int (wm x)):=by
 unfold wm;by_cases h:0<x
 .rw[aQ h];exact eA rfl (iC (fv (by simp[h]) (dY (by simp))) rfl)
 .rw[aR h];by_cases a:x<0
  .rw[aQ a];exact eA rfl (du (eR (by simp[h]) rfl) (iC (fv (by simp[a]) (dY (by simp))) rfl))
  .rw[aR a];exact eA rfl (du (eR (by simp[h]) rfl) (du (eR (by simp[a]) rfl) (dY (by simp))))
def ky(bs:List Bool):uf [.lst (bs.map T.bl)]=.ok (.bl (bs.all id)):=by simp
def qH(bs:List Bool):l9 [.lst (bs.map T.bl)]=.ok (.bl (bs.any id)):=by simp
noncomputable def kW(d:Nat):T->Bool
 |.tup ts=>decide (ts.length=d+1)&&ts.all isInt&&(match iB ts with|some ns=>(ns.take d).any (· != 0)|none=>false)
 |_=>false
theorem rX:∀ts,ts.all isInt=true->∃a:LI,ts=a.map T.int
 |[],_=>⟨[],rfl⟩
 |t::ts,h=>by
  rw[b5,bM]at h;obtain⟨a,e⟩:=rX ts h.2;cases t with
  |int i=>exact⟨i::a,by rw[e];rfl⟩
  |_=>simp[isInt]at h
def wH(d:Nat)(q:d<=10) x (l:Fm x=true) (m:∀ts,x=.tup ts->ts.length<1000/\∀t∈ts,Fm t=true):jG c [.int d,x]=.ok (.bl (kW d x)):=by
 have sz:1000<sizeLine:=by decide
 by_cases f:l6 x=true
 .cases x with
  |tup ts=>
   obtain⟨r,k⟩:=m ts rfl;by_cases g:ts.length=d+1
   .have j:h8 [none] (eT (dk 1)) (gR 0) (λ_=>.ok true) (mF c) (vw (ee 2 [.int d,.tup ts]))=.ok ((ts.map isInt).map T.bl):=by rw[rd ts id (λt=>T.bl (isInt t)) (by simp) (by lia) λt f=>⟨_,rfl,rfl,by simp[mF,sE t (k t f)]⟩];simp
    have i:(L3.xJ (L3.jr (eW (mZ "tuple" (dk 1)))) (eW (dI (d7 true) (ia gP (dg (dk 1) dm)) (dI fO (dk 0) (cM (.int 1)))))) (vw (ee 2 [.int d,.tup ts]))=.ok false:=by simp[g]
    by_cases e:ts.all isInt=true
    .obtain⟨b,rfl⟩:=rX ts e;have h:b.length=d+1:=by simpa using g
     have a:kW d (.tup (b.map T.int))=(b.take d).any (· != 0):=by simp[kW,h,e]
     rw[a];have o:h8 [none] (eT (j3 (dk 1) (λ_=>.ok none) (ir (dk 0)))) (gR 0) (λ_=>.ok true) (mr c) (vw (ee 2 [.int d,.tup (b.map T.int)]))=.ok (((b.take d).map λn=>n != 0).map T.bl):=by rw[rd (b.take d) T.int (λn=>T.bl (n != 0)) (xU (by rw[cB];exact nV rfl rfl (by simp;lia))) (by simp;lia) λn g=>⟨_,rfl,rfl,by simp[mr,bne]⟩];rw[aI];rfl
     refine eA rfl (du (eR i rfl) (du (eR (iS (d8 (l4 j (ky _))) ?_) rfl) (dY (l4 o ?_))))
     .rw[b6];simpa using e
     .rw[qH,b7];rfl
    .have a:kW d (.tup ts)=false:=by simp[kW,e]
     rw[a];refine eA rfl (du (eR i rfl) (iC (fv (iS (d8 (l4 j (ky _))) ?_) (dY rfl)) rfl));rw[b6];simpa using e
   .have a:kW d (.tup ts)=false:=by simp[kW,g]
    rw[a];refine eA rfl (iC (fv ?_ (dY rfl)) rfl);have:¬(ts.length=(d:Int)+1):=by lia
    simp[this]
  |_=>simp[l6]at f
 .have a:kW d x=false:=by cases x<;>first|rfl|(simp[l6]at f;done)
  rw[a];refine eA rfl (iC (fv ?_ (dY rfl)) rfl);have p:l6 x=false:=by simpa using f
  have:=Co x l;rw[p]at this;simp only[L3.xJ,L3.jr,eW,mZ,dk,vw,ee,bB,List.map_nil,List.cons_append,List.nil_append,List.getElem?_cons_succ,List.getElem?_cons_zero,HU,M.bind_ok,this];rfl
def DI(l:List α)(h:l≠[]):md l (-1)=l.getLast?:=by obtain⟨m,a,rfl⟩:∃m a,l=m++[a]:=⟨l.dropLast,l.getLast h,(List.dropLast_concat_getLast h).symm⟩;rw[L2.yl];simp
def ur(d:Nat)(h:1<=d/\d<=3):i5 c [.int d]=.ok (.bl true):=by
 have w:eJ c [.int d]=.ok (.bl true):=rfl;have b:(1:Int)<=d:=by lia
 have a:(d:Int)<=3:=by lia
 exact eA rfl (dY (by simp[w,b,a]))
def Hq n:(List.replicate n [T.int 0]).flatten=(List.replicate n (0:Int)).map T.int:=by
 induction n with
 |zero=>rfl
 |succ n ih=>rw[bN,bO,ih,bN];rfl
def Gp(n:Nat)(d:n<=1000)(h:f ρ=.ok (.int (n:Int))):eQ (Ai (eQ (lstM (dg (cM (.int 0)) dm))) f) ρ=.ok (.lst ((List.replicate n (0:Int)).map T.int)):=by
 have sz:1000<sizeLine:=by decide
 have hr:xI n=true:=i7 (by lia);have b:1<=sizeLine:=by decide
 have a:n<=sizeLine:=by lia
 simp[h,hr,b,a,Hq]
end CL
namespace L3
open PySem L2
theorem lB{k:Type} enc (P:En->Prop) p t:∀(l:List k) (ρ:En),P ρ->
  (∀a∈l,∀ρ,P ρ->∃d,m (enc a) ρ=some d/\(p a=true->∃c,g d=.nx c/\P c)/\(p a=false->g d=.rt t))->
  (l.all p=true->∃ρ',eX m g (l.map enc) ρ=.nx ρ'/\P ρ')/\(l.all p=false->eX m g (l.map enc) ρ=.rt t)
 |[],ρ,h,_=>⟨λ_=>⟨ρ,rfl,h⟩,λh=>by simp at h⟩
 |a::l,ρ,h,st=>by
  obtain⟨d,s,q,o⟩:=st a (by simp) ρ h;rw[bB,eX,s];dsimp only;cases e:p a with
  |true=>obtain⟨c,r,f⟩:=q e;rw[r];have j:=lB enc P p t l c f λb n ρ i=>st b (by simp[n]) ρ i;rw[b5,e,Bool.true_and];exact j
  |false=>rw[o e,b5,e,Bool.false_and];exact⟨λz=>(by cases z),λ_=>rfl⟩
end L3
namespace CL
open PySem L2 L3
variable {c:Cs}
def Eu:Bn (n+1) 1:=by unfold Bn;rw[cE];have:=cO n;lia
def se ns:iB (ns.map T.int)=some ns:=by simp
end CL
namespace L3
open PySem L2
theorem sx{n:Type} enc (P:Nat->En->Prop) (R:T->Prop):∀(l:List n) (k:Nat) (ρ:En),P k ρ->
  (∀i a ρ,l[i]? = some a->P (k+i) ρ->∃d,m (enc a) ρ=some d/\((∃c,g d=.nx c/\P (k+i+1) c)\/∃t,g d=.rt t/\R t))->
  (∃ρ',eX m g (l.map enc) ρ=.nx ρ'/\P (k+l.length) ρ')\/∃t,eX m g (l.map enc) ρ=.rt t/\R t
 |[],k,ρ,h,_=>.inl ⟨ρ,rfl,h⟩
 |a::l,k,ρ,h,st=>by
  obtain⟨d,q,p⟩:=st 0 a ρ rfl h;rw[bB,eX,q];dsimp only;rcases p with⟨c,f,e⟩|⟨t,f,e⟩
  .rw[f];rw[az,show k+(l.length+1)=k+1+l.length by lia];exact sx enc P R l (k+1) c e λi b ρ o j=>by have:=st (i+1) b ρ (by simpa using o) (by rw[show k+(i+1)=k+1+i by lia];exact j);rw[show k+1+i+1=k+(i+1)+1 by lia];exact this
  .rw[f];exact .inr ⟨t,rfl,e⟩
end L3
namespace CL
open PySem L2 L3
variable {c:Cs}
def tN(l:List α)(k:Nat) h:md l (k:Int)=some l[k]:=by unfold md sM;rw[aQ (by lia),aQ (by lia)];simp[h]
def v5(l:LI) k (h:k<l.length):md l (k:Int)=some (l.getD k 0):=by rw[tN l k h,af,ag h];rfl
def getD_mem(l:LI) k (h:k<l.length):l.getD k 0∈l:=by rw[af,ag h];exact aV h
def lX(l:LI) k (h:k<l.length):gw (.lst (l.map T.int)) (.int (k:Int))=.ok (.int (l.getD k 0)):=by simp[jS,v5 l k h]
def iO l (k:Nat) (h:k<l.length):gw (tI l) (.int (k:Int))=.ok (.int (l.getD k 0)):=by simp[tI,jS,v5 l k h]
def CC x xs:gw (.lst (x::xs)) (.int 0)=.ok x:=by have h:=tN (x::xs) 0 (by simp);have a:md (x::xs) 0=some x:=h;show (match md (x::xs) 0 with|some t=>M.ok t|none=>.bad)=_;rw[a]
def tF(a:Nat)(d b:LI):LI:=(b.zip d).map λp=>d.getD a 0*p.1-b.getD a 0*p.2
def nu a row here (h:row.length=here.length):(tF a row here).length=here.length:=by simp[tF,h]
def DX a row here (i:a<row.length) (k:row.length=here.length) (hr:∀x∈row,Bn m x) (d:∀x∈here,Bn n x):∀x∈tF a row here,Bn (m+n+1) x:=λx f=>by obtain⟨p,b,rfl⟩:=aD.mp f;have j:=hr _ (getD_mem row a i);have h:=d _ (getD_mem here a (by lia));have e:=d _ (aW b).1;have g:=hr _ (aW b).2;exact ((j.mul e).sub (h.mul g)).mono (by lia)
def lQ(p:Nat×LI):T:=.tup [.int (p.1:Int),.lst (p.2.map T.int)]
def Bk(j:Nat):Nat:=51*2 ^ j-1
def Be j:Bk j+Bk j+1=Bk (j+1):=by unfold Bk;rw[cE];have:=cO j;lia
def GB(h:j<=k):Bk j<=Bk k:=by unfold Bk;have:=cD (show 0<2 by decide) h;lia
def CH(m L:Nat)(a:List (Nat×LI)):Prop:=∀(j:Nat) (p:Nat×LI),a[j]? = some p->p.1<m/\p.2.length=L/\∀x∈p.2,Bn (Bk j) x
def lx(b:List (Nat×LI))(a:LI):LI:=b.foldl (λh p=>tF p.1 p.2 h) a
def FY(g:f1 ρ=.ok a1)(e:f2 ρ=.ok a2)(a:f3 ρ=.ok a3)(d:f4 ρ=.ok a4)(b:f5 ρ=.ok a5):eQ (lstM (dg f1 (dg f2 (dg f3 (dg f4 (dg f5 dm)))))) ρ=.ok (.lst [a1,a2,a3,a4,a5]):=by
 have f:5<=sizeLine:=by decide
 simp only[eQ,lstM,dg,dm,g,e,a,d,b,M.bind_ok,sd,az,cP,f,if_true]
def HQ n (x:T):(List.replicate n [x]).flatten=List.replicate n x:=by
 induction n with
 |zero=>rfl
 |succ n ih=>rw[bN,bO,ih,bN];rfl
end CL
namespace CL
abbrev Vc:=Nat->Int
inductive Qs(P:Vc->Prop):Vc->Prop
 |of {x:Vc}:P x->Qs P x
 |zero:Qs P λ_=>0
 |lin {x y z:Vc} {s a b:Int}:Qs P x->Qs P y->s≠0->(∀i,s*z i=a*x i+b*y i)->Qs P z
def Qs.sub(h:∀x,P x->Qs P' x)(q:Qs P z):Qs P' z:=by
 induction q with
 |of p=>exact h _ p
 |zero=>exact .zero
 |lin _ _ s e i1 i2=>exact .lin i1 i2 s e
def Qs.mono(h:∀x,P x->P' x)(q:Qs P z):Qs P' z:=q.sub λx p=>.of (h x p)
def Qs.comb a b (c:Qs P x) (d:Qs P y):Qs P λi=>a*x i+b*y i:=.lin (s:=1) c d (by decide) λi=>by rw[cQ]
def FJ(P:Vc->Prop)(r:Vc):Vc->Prop:=λx=>P x\/x=r
def Qs.split(q:Qs (FJ P r) z):∃s a y,s≠0/\Qs P y/\∀i,s*z i=y i+a*r i:=by
 induction q with
 |of p=>
  rename_i x;rcases p with p|rfl
  .exact⟨1,0,x,by decide,.of p,λi=>by rw[cQ,cR,cS]⟩
  .exact⟨1,1,λ_=>0,by decide,.zero,λi=>by rw[cf]⟩
 |zero=>exact⟨1,0,λ_=>0,by decide,.zero,λi=>by simp⟩
 |lin _ _ hs e i1 i2=>
  rename_i x y z s a b _ _;obtain⟨d,g,h,m,n,t⟩:=i1;obtain⟨c,f,j,l,k,o⟩:=i2;refine⟨s*(d*c),a*c*g+b*d*f,_,cT hs (cT m l),n.comb (a*c) (b*d) k,λi=>?_⟩;calc s*(d*c)*z i=d*c*(s*z i):=by ac_rfl
   _=d*c*(a*x i+b*y i):=by rw[e]
   _=a*c*(d*x i)+b*d*(c*y i):=by rw[cU];ac_rfl
   _=a*c*(h i+g*r i)+b*d*(j i+f*r i):=by rw[t,o]
   _=a*c*h i+b*d*j i+(a*c*g+b*d*f)*r i:=by simp only[cU,Int.add_mul];ac_rfl
def Nd(P:Vc->Prop)(a:List Nat):Prop:=∀z,Qs P z->(∀p∈a,z p=0)->∀i,z i=0
def Nd.nil:Nd (λ_=>False) []:=λz q _=>by
 induction q with
 |of p=>exact p.elim
 |zero=>exact λ_=>rfl
 |lin _ _ hs e i1 i2=>
  intro i;have:=e i;rw[i1 (λp a=>nomatch a) i,i2 (λp a=>nomatch a) i,cV,cV,cS]at this;rcases cW.mp this with z|z
  .exact absurd z hs
  .exact z
def Nd.step(h:Nd P pl)(g:∀q∈pl,r q=0)(l:r p≠0):Nd (FJ P r) (pl++[p]):=λz q f i=>by
 obtain⟨s,a,y,j,m,e⟩:=q.split;have n:∀q∈pl,y q=0:=λq d=>by have:=e q;rw[f q (ay _ d),g q d,cV,cV,cS]at this;exact this.symm
 have c:=h y m n;have b:=e p;rw[f p (bu _ (aj.mpr rfl)),c p,cV,cf]at b;have k:a=0:=by
  rcases cW.mp b.symm with z|z
  .exact z
  .exact absurd z l
 have:=e i;rw[c i,k,cR,cS]at this;rcases cW.mp this with z|z
 .exact absurd z j
 .exact z
def Nd.less(h:Nd P pl)(a:∀x,P' x->Qs P x):Nd P' pl:=λz q=>h z (q.sub a)
def yR{v r y:Vc}(g:Nd P pl)(f:s≠0)(c:Qs P y)(e:∀i,r i=s*v i+a*y i)(d:∀p∈pl,r p=0):(∀i,r i=0)↔Qs P v:=by
 constructor
 .intro h;refine .lin (a:=-a) (b:=0) c .zero f λi=>?_;have:=e i;rw[h i]at this;rw[cV,cS,cX];lia
 .intro h;refine g r ?_ d;have:=funext e;rw[this];exact h.comb s a c
end CL
namespace CL
open PySem L2 L3
variable {c:Cs}
noncomputable def vc(l:LI):Vc:=λi=>l.getD i 0
def iQ l i (h:l.length<=i):vc l i=0:=by unfold vc;rw[af,List.getElem?_eq_none h];rfl
def jI l i h:vc l i=l[i]:=by unfold vc;rw[af,ag h];rfl
def DT a row here (h:row.length=here.length) i:vc (tF a row here) i=vc row a*vc here i-vc here a*vc row i:=by
 by_cases b:i<here.length
 .rw[jI (tF a row here) i (by rw[nu a row here h];exact b),jI here i b,jI row i (by lia)];simp[tF,vc]
 .rw[iQ _ i (by rw[nu a row here h];lia),iQ here i (by lia),iQ row i (by lia),cV,cV];rfl
def rT(a:List (Nat×LI)):Vc->Prop:=λx=>∃p∈a,x=vc p.2
def VP(vs:LL):Vc->Prop:=λx=>∃v∈vs,x=vc v
theorem qb m P:∀d b,(∀p∈d,p.2.length=m/\P (vc p.2)/\vc p.2 p.1≠0)->b.length=m->d.Pairwise (λp q=>vc q.2 p.1=0)->
  ∃s y,s≠0/\Qs P y/\(∀i,vc (lx d b) i=s*vc b i+1*y i)/\(∀k,vc b k=0->(∀p∈d,vc p.2 k=0)->vc (lx d b) k=0)/\∀p∈d,vc (lx d b) p.1=0
 |[],b,_,_,_=>⟨1,λ_=>0,by decide,.zero,λi=>by show vc b i=1*vc b i+1*0;lia,λk g _=>g,λp f=>nomatch f⟩
 | (a,row)::d,b,hA,hl,hw=>by
  obtain⟨A,v,o⟩:=hA (a,row) (bh ..);obtain⟨z,r⟩:=cY.mp hw;have j:(tF a row b).length=m:=by rw[nu a row b (by lia),hl]
  have l:=DT a row b (by lia);obtain⟨s,y,x,u,e,n,w⟩:=qb m P d (tF a row b) (λp f=>hA p (bj _ f)) j r;refine⟨s*vc row a,_,cT x o,(u.comb 1 (-(s*vc b a)) (.of v)),λi=>?_,λk g f=>?_,λp f=>?_⟩
  .show vc (lx d (tF a row b)) i=_;rw[e i,l i,Int.mul_sub,cG,cX,cv,cv,cQ,cQ];lia
  .refine n k ?_ λp h=>f p (bj _ h);have:=f (a,row) (bh ..);rw[l k,g,this,cV,cV];rfl
  .rcases aF.mp f with rfl|f
   .refine n _ ?_ λq t=>z q t;rw[l a,cw];lia
   .exact w p f
theorem vi x0 x1 x2 m (B:m<=20):∀d j b k l h f,j+d.length<=8->b.length=m->(∀x∈b,Bn (Bk j) x)->
  (∀i p,d[i]? = some p->p.1<m/\p.2.length=m/\∀x∈p.2,Bn (Bk (j+i)) x)->
  ∃t q o,eX (lp 2 (fX (jA 4) (fX (jA 5) kU))) (iJ c) (d.map lQ) [x0,x1,x2,some (.p (.lst (b.map T.int))),k,l,h,f]=.nx [x0,x1,x2,some (.p (.lst ((lx d b).map T.int))),t,q,o,f]/\
   (lx d b).length=m/\∀x∈lx d b,Bn (Bk (j+d.length)) x
 |[],j,b,k,l,h,f,_,hl,hb,_=>⟨k,l,h,rfl,hl,hb⟩
 | (a,row)::d,j,b,k,l,h,f,hj,hl,hb,hA=>by
  obtain⟨J,C,g⟩:=hA 0 (a,row) rfl;rw[Nat.add_zero]at g;simp only[az]at hj;have sz:1000<sizeLine:=by decide
  have I:Bk j<=20000:=aN (GB (show j<=8 by lia)) (by decide);have s:(tF a row b).length=m:=by rw[nu a row b (by lia),hl]
  have r:∀x∈tF a row b,Bn (Bk (j+1)) x:=λx y=>(DX a row b (by lia) (by lia) g hb x y).mono (by rw[Be];exact aK _);obtain⟨t,q,o,e,E,D⟩:=vi x0 x1 x2 m B d (j+1) (tF a row b) (some (.p (.int a))) (some (.p (.lst (row.map T.int)))) (some (.p (.int (b.getD a 0)))) f (by lia) s r λi p n=>by have:=hA (i+1) p (by simpa using n);rw[show j+1+i=j+(i+1) by lia];exact this
  refine⟨t,q,o,?_,E,by rw[az,show j+(d.length+1)=j+1+d.length by lia];exact D⟩;rw[bB,eX];have H:(lp 2 (fX (jA 4) (fX (jA 5) kU))) (lQ (a,row)) [x0,x1,x2,some (.p (.lst (b.map T.int))),k,l,h,f]=some [x0,x1,x2,some (.p (.lst (b.map T.int))),some (.p (.int a)),some (.p (.lst (row.map T.int))),h,f]:=rfl;rw[H];have F:h8 [none,none,some 6,some 5,some 4] (m6 (dg (dk 3) (dg (dk 5) dm))) (mw 2 (f7 (gR 0) (f7 (gR 1) mm))) (λ_=>.ok true) (kZ c) (mS [x0,x1,x2,some (.p (.lst (b.map T.int))),some (.p (.int a)),some (.p (.lst (row.map T.int))),some (.p (.int (b.getD a 0))),f])=.ok ((tF a row b).map T.int):=h7 (b.zip row) (λp=>T.tup [.int p.1,.int p.2]) (λp=>T.int (row.getD a 0*p.1-b.getD a 0*p.2)) (rC rfl rfl rfl rfl) (by simp;lia) (λp n=>⟨_,rfl,rfl,by have u:=hb _ (aW n).1;have z:=g _ (aW n).2;have v:=g _ (getD_mem row a (by lia));have w:=hb _ (getD_mem b a (by lia));exact dy (dy (dy rfl rfl (lX row a (by lia))) rfl (gU (v.ok u (by lia) (by lia)))) (dy rfl rfl (gU (w.ok z (by lia) (by lia)))) (oR _ _)⟩) (by unfold tF;rw[aI];rfl)
  have A:iJ c [x0,x1,x2,some (.p (.lst (b.map T.int))),some (.p (.int a)),some (.p (.lst (row.map T.int))),h,f]=.nx [x0,x1,x2,some (.p (.lst ((tF a row b).map T.int))),some (.p (.int a)),some (.p (.lst (row.map T.int))),some (.p (.int (b.getD a 0))),f]:=du (dX (dy rfl rfl (lX b a (by lia))) rfl) (dX (fI F) rfl)
  dsimp only;rw[A];exact e
def GQ(vs:LL)(j:Nat):Prop:=Qs (VP (vs.take j)) (vc (vs.getD j []))
structure xN(vs:LL)(m k:Nat)(ah:List (Nat×LI)):Prop where
 bd:CH m m ah
 nz:∀p∈ah,vc p.2 p.1≠0
 tri:ah.Pairwise (λp q=>vc q.2 p.1=0)
 nd:Nd (rT ah) (ah.map Prod.fst)
 sp:∀v∈vs.take k,Qs (rT ah) (vc v)
 ps:∀p∈ah,Qs (VP (vs.take k)) (vc p.2)
 le:ah.length<=k
 eq:ah.length=k↔∀j,j<k->¬GQ vs j
def iz{a:Type}(l:List a) k v (h:l[k]? = some v):l.take (k+1)=l.take k++[v]:=by rw[List.take_succ,h];rfl
def BO{a:Type}(l:List a) k v w (h:l[k]? = some v):l.getD k w=v:=by rw[af,h];rfl
def VP.succ{vs:LL}(h:vs[k]? = some v) x (q:Qs (VP (vs.take k)) x):Qs (VP (vs.take (k+1))) x:=q.mono λz ⟨w,hw,e⟩=>⟨w,by rw[iz vs k v h];exact ay _ hw,e⟩
def qk(h:CH m L ah)(b:p∈ah):p.1<m/\p.2.length=L:=by obtain⟨j,a⟩:=List.getElem?_of_mem b;exact⟨(h j p a).1,(h j p a).2.1⟩
def wB vs m k ah v (h:xN vs m k ah) (g:vs[k]? = some v) (J:v.length=m) (K:∀x∈lx ah v,Bn (Bk ah.length) x) (t:(lx ah v).length=m) :
  ((∀i,vc (lx ah v) i=0)->xN vs m (k+1) ah)/\∀j,j<m->vc (lx ah v) j≠0->xN vs m (k+1) (ah++[(j,lx ah v)]):=by
 obtain⟨s,y,D,u,e,P,E⟩:=qb m (rT ah) ah v (λp d=>⟨(qk h.bd d).2,⟨p,d,rfl⟩,h.nz p d⟩) J h.tri;have o:∀q∈ah.map Prod.fst,vc (lx ah v) q=0:=λq n=>by obtain⟨p,d,rfl⟩:=aD.mp n;exact E p d
 have f:=yR h.nd D u e o;have C:GQ vs k↔Qs (rT ah) (vc v):=by unfold GQ;rw[BO vs k v [] g];exact⟨λq=>q.sub λx ⟨w,hw,ex⟩=>by rw[ex];exact h.sp w hw,λq=>q.sub λx ⟨p,d,ex⟩=>by rw[ex];exact h.ps p d⟩
 generalize lx ah v=R at *;constructor
 .intro F;have n:=f.mp F;refine⟨h.bd,h.nz,h.tri,h.nd,λw hw=>?_,λp d=>VP.succ g _ (h.ps p d),by have:=h.le;lia,?_⟩
  .rw[iz vs k v g]at hw;rcases ai.mp hw with q|q
   .exact h.sp w q
   .rw[aj.mp q];exact n
  .constructor
   .intro z;have:=h.le;lia
   .intro z;exact absurd (C.mpr n) (z k (by lia))
 .intro j L l;have r:¬GQ vs k:=λz=>l (f.mpr (C.mp z) j);have up:∀x,Qs (rT ah) x->Qs (rT (ah++[(j,R)])) x:=λx q=>q.mono λz ⟨p,d,ez⟩=>⟨p,ay _ d,ez⟩;have H:Qs (rT (ah++[(j,R)])) (vc R):=.of ⟨(j,R),bu _ (aj.mpr rfl),rfl⟩;refine⟨λi p d=>?_,λp d=>?_,?_,?_,λw hw=>?_,λp d=>?_,?_,?_⟩
  .rw[List.getElem?_append]at d;split at d
   .exact h.bd i p d
   .have B:i=ah.length:=by have:=(aa.mp d).1;simp at this;lia
    subst B;simp at d;subst d;exact⟨L,t,K⟩
  .rcases ai.mp d with q|q
   .exact h.nz p q
   .rw[aj.mp q];exact l
  .refine cZ.mpr ⟨h.tri,c0 _ _,λp d q n=>?_⟩;rw[aj.mp n];exact E p d
  .rw[aZ];refine (Nd.step h.nd o l).less λx ⟨p,d,ex⟩=>?_;rcases ai.mp d with q|q
   .exact .of (.inl ⟨p,q,ex⟩)
   .rw[aj.mp q]at ex;exact .of (.inr ex)
  .rw[iz vs k v g]at hw;rcases ai.mp hw with q|q
   .exact up _ (h.sp w q)
   .rw[aj.mp q];exact .lin (a:=1) (b:=-1) H (up _ u) D λi=>by rw[e i];lia
  .rcases ai.mp d with q|q
   .exact VP.succ g _ (h.ps p q)
   .rw[aj.mp q];have N:Qs (VP (vs.take (k+1))) (vc v):=.of ⟨v,by rw[iz vs k v g];exact bu _ (aj.mpr rfl),rfl⟩;have I:=u.sub λx ⟨p,d,ex⟩=>by rw[ex];exact VP.succ g _ (h.ps p d)
    exact .lin (s:=1) N I (by decide) λi=>by rw[cQ];exact e i
  .have:=h.le;simp;lia
  .rw[aT,bQ];constructor
   .intro z i B;by_cases A:i=k
    .rw[A];exact r
    .exact h.eq.mp (by lia) i (by lia)
   .intro z;rw[h.eq.mpr λi B=>z i (by lia)]
theorem ki m vs (hm:m<=4) (hn:vs.length<=8) (X:∀v∈vs,v.length=m/\∀x∈v,Bn 50 x) :
  ∃a:List (Nat×LI),d9 c [.lst (vs.map tI)]=.ok (.int (a.length:Int))/\xN vs m vs.length a:=by
 have sz:1000<sizeLine:=by decide
 obtain⟨ρ,e,a,U,S,D,F,E,h,rfl,w⟩:=iw (m:=jA 2) (g:=jv c) tI
  (λk ρ=>∃(a:List (Nat×LI)) (U S D F E h:Oq W),ρ=[some (.p (.lst (vs.map tI))),some (.o (a.map lQ)),U,S,D,F,E,h]/\xN vs m k a)
  vs 0 _ ⟨[],none,none,none,none,none,none,rfl,(λj p f=>by simp at f),(λp f=>nomatch f),List.Pairwise.nil,(λz q=>Nd.nil z (q.mono λx ⟨p,f,_⟩=>nomatch f)),(λv X=>by simp at X),(λp f=>nomatch f),aK _,⟨λ_ j Z=>absurd Z (cC _),λ_=>rfl⟩⟩ (by
   rintro k v ρ hi ⟨a,U,S,D,F,E,h,rfl,w⟩;rw[aG]at w ⊢;have hil:=(aa.mp hi).1;obtain⟨I,hvb⟩:=X v (av hi);have b:=w.le;have hrm:xI (m:Int)=true:=i7 (by lia);obtain⟨H,B,C,e3,u,n⟩:=vi (c:=c) (some (.p (.lst (vs.map tI)))) none (some (.p (tI v))) m (by lia) a 0 v D F E h (by lia) I (λx hx=>hvb x hx) λi p f=>by rw[aG];exact w.bd i p f
   rw[aG]at n;obtain⟨N,K⟩:=wB vs m k a v w hi I n u;generalize hR:lx a v=R at e3 u n N K;let left:List Nat:=(List.range m).filter λj=>R.getD j 0 != 0;have e4:h8 [none,some 3] (ip (dg (ia gP (dg (dk 3) dm)) dm)) (gR 0) (eW (dI (d7 true) (dI gw (dk 1) (dk 0)) (cM (.int 0)))) (lg c) (mS [some (.p (.lst (vs.map tI))),some (.o (a.map lQ)),some (.p (tI v)),some (.p (.lst (R.map T.int))),H,B,C,h])=.ok (left.map λ(j:Nat)=>T.int (j:Int)):=ot (List.range m) (λ(j:Nat)=>T.int (j:Int)) (λ(j:Nat)=>T.int (j:Int)) (λj=>R.getD j 0 != 0) (by simp[u,hrm,B7]) (by simp;lia) (λj Z=>⟨_,rfl,d8 (dy (dy rfl rfl (lX R j (by have:=aS.mp Z;lia))) rfl (lL _ _)),λ_=>rfl⟩) rfl
   have A:kQ (left.map λ(j:Nat)=>T.int (j:Int))=true:=ko _ _ λ_ _=>rfl;have l:lC (left.map λ(j:Nat)=>T.int (j:Int))<=90:=aN (kh _ 0 _ λ_ _=>aK _) (by decide);have d:eW (dI (d7 true) (dk 7) (eQ (lstM dm))) (vw [some (.p (.lst (vs.map tI))),some (.o (a.map lQ)),some (.p (tI v)),some (.p (.lst (R.map T.int))),H,B,C,some (.p (.lst (left.map λ(j:Nat)=>T.int (j:Int))))])=.ok (!left.isEmpty):=by refine d8 (dy (x:=.lst (left.map λ(j:Nat)=>T.int (j:Int))) (y:=.lst []) rfl (by simp) ?_);rw[nc true _ A l];simp
   have J:∀r,(jo (eW (dI (d7 true) (dk 7) (eQ (lstM dm)))) (nG 1 (f9 (kP (dg (dI gw (dk 7) (cM (.int 0))) (dg (dk 3) dm))))) eE) [some (.p (.lst (vs.map tI))),some (.o (a.map lQ)),some (.p (tI v)),some (.p (.lst (R.map T.int))),H,B,C,some (.p (.lst (left.map λ(j:Nat)=>T.int (j:Int))))]=r->
     jv c [some (.p (.lst (vs.map tI))),some (.o (a.map lQ)),some (.p (tI v)),S,D,F,E,h]=r:=λr hr=>by
    refine du (dX (t:=.lst (v.map T.int)) rfl rfl) (du (ρ':=[some (.p (.lst (vs.map tI))),some (.o (a.map lQ)),some (.p (tI v)),some (.p (.lst (R.map T.int))),H,B,C,h]) (wJ (us:=a.map lQ) rfl ?_) (du (dX (t:=.lst (left.map λ(j:Nat)=>T.int (j:Int))) (fI e4) rfl) hr));show vD 1 (a.map lQ) (eX (lp 2 (fX (jA 4) (fX (jA 5) kU))) (iJ c) (a.map lQ) [some (.p (.lst (vs.map tI))),none,some (.p (tI v)),some (.p (.lst (v.map T.int))),D,F,E,h])=_;rw[e3];rfl
   cases b:left with
   |nil=>
    refine⟨_,_,rfl,.inl (J _ (eR (by rw[d,b];rfl) rfl)),a,_,_,_,_,_,_,rfl,N λi=>?_⟩;by_cases Y:i<m
    .refine aO λhc=>?_;have:i∈left:=aU.mpr ⟨aS.mpr Y,by simpa[vc] using hc⟩;rw[b]at this;exact nomatch this
    .exact iQ R i (by lia)
   |cons s js=>
    have P:s∈left:=by rw[b];exact bh ..
    have Q:s<m:=aS.mp (aU.mp P).1;have L:vc R s≠0:=by have:=(aU.mp P).2;simpa[vc] using this
    have h2z:2<=sizeLine:=by decide
    have i0:dI gw (dk 7) (cM (.int 0)) (mS [some (.p (.lst (vs.map tI))),some (.o (a.map lQ)),some (.p (tI v)),some (.p (.lst (R.map T.int))),H,B,C,some (.p (.lst (left.map λ(j:Nat)=>T.int (j:Int))))])=.ok (.int (s:Int)):=dy rfl rfl (by rw[b];exact CC _ _);have i4:dk 3 (mS [some (.p (.lst (vs.map tI))),some (.o (a.map lQ)),some (.p (tI v)),some (.p (.lst (R.map T.int))),H,B,C,some (.p (.lst (left.map λ(j:Nat)=>T.int (j:Int))))])=.ok (.lst (R.map T.int)):=rfl;refine⟨_,_,rfl,.inl (J _ (fv (by rw[d,b];rfl) (qW (t:=lQ (s,R)) rfl ?_ (by simp;lia) rfl))),a++[(s,R)],_,_,_,_,_,_,by rw[aZ];rfl,K s Q L⟩;simp only[kP,dg,dm,i0,i4,M.bind_ok,sd,az,cP,h2z,if_true];rfl)
 rw[aG]at w;refine⟨a,eA rfl (du (kn (ts:=[]) (by simp) rfl) (du (jU rfl e) (dY (jb rfl ?_)))),w⟩;simp
def DJ(h:f ρ=.ok (.int i)):xK (λi=>.int (-i)) f ρ=.ok (.int (-i)):=by simp only[xK,h,M.bind_ok]
def uX:Bn n 0:=by unfold Bn;exact cO _
def wg N (C:N<=8000) row (I:row.length<1000) (n:∀x∈row,Bn N x):∃g o,0<g/\kb c [tI row]=.ok (tI o)/\o.length=row.length/\(∀i,vc row i=g*vc o i)/\∀y∈o,Bn N y:=by
 have sz:1000<sizeLine:=by decide
 have main:=sx (m:=jA 2) (g:=qg c) T.int
  (λk A=>∃(a:Int) (r:Oq W),A=[some (.p (tI row)),some (.p (.int a)),r]/\0<=a/\Bn N a/\∀x∈row.take k,a ∣ x)
  (λt=>t=tI row) row 0 _ ⟨0,none,rfl,by decide,uX,λx j=>by simp at j⟩ (by
   rintro i x A d ⟨a,r,rfl,F,u,b⟩;rw[aG]at b ⊢;have s:=av d;refine⟨_,rfl,?_⟩;have v:setO 1 (f9 (dD (dg (dk 1) (dg (dk 2) dm)) (eS c))) [some (.p (tI row)),some (.p (.int a)),some (.p (.int x))]=.nx [some (.p (tI row)),some (.p (.int (Cu.G a x))),some (.p (.int x))]:=dX (iu rfl rfl (l0 a x)) rfl;by_cases h:Cu.G a x=1
   .right;exact⟨_,du v (fv (d8 (dy rfl rfl (by rw[eC,h];rfl))) (dY rfl)),rfl⟩
   .left;refine⟨_,du v (eR (d8 (dy rfl rfl (by rw[eC];simp[h]))) rfl),_,_,rfl,Cu.oG _ _,?_,λz w=>?_⟩
    .by_cases l:x=0
     .rw[l,Cu.zN];exact c5 (by lia) u
     .have J:=Cu.Hu a x l;have H:=Cu.oG a x;exact c5 (by lia) (n x s)
    .rw[iz row i x d]at w;rcases ai.mp w with q|q
     .exact Int.dvd_trans (Cu.tU a x) (b z q)
     .rw[aj.mp q];exact Cu.mU a x)
 rcases main with⟨B,e,a,r,rfl,F,u,b⟩|⟨t,e,rfl⟩
 .rw[aG,c6]at b;by_cases f:a=0
  .exact⟨1,row,by decide,eA rfl (du (dX rfl rfl) (du (jU rfl e) (iC (fv (d8 (dy rfl rfl (by rw[eC,f];rfl))) (dY rfl)) rfl))),rfl,λi=>by rw[cQ],n⟩
  .refine⟨a,row.map (λx=>x.fdiv a),by lia,eA rfl (du (dX rfl rfl) (du (jU rfl e) (du (eR (d8 (dy rfl rfl (by rw[eC];simp[f]))) rfl) (dY ?_)))),by simp,λi=>?_,λy E=>?_⟩
   .exact jb (fI (h7 row T.int (λx=>T.int (x.fdiv a)) rfl (by lia) (λx j=>⟨_,rfl,rfl,dy rfl rfl (oH f (u.noPy C))⟩) (by rw[aI];rfl))) rfl
   .by_cases d:i<row.length
    .rw[jI row i d,jI _ i (by simpa using d),List.getElem_map];obtain⟨q,D⟩:=b _ (aV d);rw[D,cN q f]
    .rw[iQ row i (by lia),iQ _ i (by simp;lia),cV]
   .obtain⟨x,j,rfl⟩:=aD.mp E;exact c5 (Bj (b x j) f) (n x j)
 .exact⟨1,row,by decide,eA rfl (du (dX rfl rfl) (iC (jU rfl e) rfl)),rfl,λi=>by rw[cQ],n⟩
def xD{g x:Int}(a:g≠0)(h:g*x=0):x=0:=by
 rcases cW.mp h with z|z
 .exact absurd z a
 .exact z
def Cf o:wm o*o=(o.natAbs:Int):=by
 unfold wm;split
 .rw[cQ];lia
 .split
  .rw[cX,cQ];lia
  .rw[cR];lia
def jj(p:Nat×LI):T:=.tup [.int (p.1:Int),tI p.2]
noncomputable def sm:Nat->(Nat->Int)->Int
 |0,_=>0
 |n+1,f=>f 0+sm n λi=>f (i+1)
theorem gd:∀n f g,(∀i,i<n->f i=g i)->sm n f=sm n g
 |0,_,_,_=>rfl
 |n+1,f,g,h=>by rw[sm,sm,h 0 (by lia),gd n _ _ λi a=>h (i+1) (by lia)]
theorem yq a b:∀n f g,sm n (λi=>a*f i+b*g i)=a*sm n f+b*sm n g
 |0,_,_=>by simp[sm]
 |n+1,f,g=>by rw[sm,sm,sm,yq a b n (λi=>f (i+1)) λi=>g (i+1),cU,cU];lia
theorem xY a:∀n f,sm n (λi=>a*f i)=a*sm n f
 |0,_=>by simp[sm]
 |n+1,f=>by rw[sm,sm,xY a n λi=>f (i+1),cU]
theorem kM:∀n:Nat,sm n (λ_=>0)=0
 |0=>rfl
 |n+1=>by rw[sm,kM n];rfl
theorem Ay:∀(n k:Nat) (f:Nat->Int),k<n->sm n (λi=>(if i=k then 1 else 0)*f i)=f k
 |0,k,f,h=>absurd h (cC _)
 |n+1,0,f,h=>by rw[sm,aQ rfl,cQ,gd n _ (λ_=>0) (λi _=>by rw[aR (by lia),cR]),kM,cS]
 |n+1,k+1,f,h=>by rw[sm,aR (by lia),cR,cf,gd n _ (λi=>(if i=k then 1 else 0)*f (i+1)) (λi _=>by simp),Ay n k (λi=>f (i+1)) (by lia)]
theorem oh:∀(m:Nat) (l:List Nat),l.Nodup->(∀x∈l,x<m)->l.length<=m
 |0,[],_,_=>aK _
 |0,x::l,_,h=>absurd (h x (bh ..)) (cC _)
 |m+1,l,hn,h=>by
  have a:=oh m (l.erase m) (hn.erase m) λx d=>by have q:=(hn.mem_erase_iff).mp d;have:=h x q.2;have:=q.1;lia
  by_cases b:m∈l
  .rw[c7 b]at a;lia
  .rw[List.erase_of_not_mem b]at a;lia
def qL(d:fa ρ=.ok (.lst a))(f:fb ρ=.ok (.lst b))(e:a.length+b.length<=sizeLine):qM fa fb ρ=.ok (a++b):=by simp only[qM,d,f,M.bind_ok];rw[aQ e]
def GJ(h:f ρ=.ok a):eQ (lstM (dg f dm)) ρ=.ok (.lst [a]):=by
 have b:1<=sizeLine:=by decide
 simp only[eQ,lstM,dg,dm,h,M.bind_ok,sd,az,cP,b,if_true]
def xl(h:f ρ=.ok a)(d:g ρ=.ok b):kP (dg f (dg g dm)) ρ=.ok (.tup [a,b]):=by
 have e:2<=sizeLine:=by decide
 simp only[kP,dg,dm,h,d,M.bind_ok,sd,az,cP,e,if_true]
def oZ(pv:List (Nat×LI)) left (a:Nat) (f:Nat×LI->LI) (g:pv.length<=100) (e:∀p∈pv,gz c [tI p.2,tI left,.int (a:Int)]=.ok (tI (f p))) :
  gx c [.lst (pv.map jj),tI left,.int (a:Int)]=.ok ((pv.map (λp=>(p.1,f p))++[(a,left)]).map jj):=by
 have sz:1000<sizeLine:=by decide
 have d:h8 [none,none,some 1,some 2] (eT (dk 0)) (mw 2 (f7 (gR 0) (f7 (gR 1) mm))) (λ_=>.ok true) (lb c) (vw (ee 3 [.lst (pv.map jj),tI left,.int a]))=.ok ((pv.map (λp=>(p.1,f p))).map jj):=h7 pv jj (λp=>jj (p.1,f p)) rfl (by lia) (λp b=>⟨_,rfl,rfl,xl rfl (gZ rfl rfl rfl (e p b))⟩) (by rw[aI];rfl)
 refine ui rfl (vE ?_);rw[aZ];exact qL (fI d) (GJ (xl rfl rfl)) (by simp;lia)
def mB{e d:Type}[Inhabited d]{P:e->d->Prop}(l:List e)(h:∀a∈l,∃b,P a b):∃f:e->d,∀a∈l,P a (f a):=⟨λa=>Classical.epsilon λb=>P a b,λa g=>Classical.epsilon_spec (h a g)⟩
end CL
namespace CL
noncomputable def j6(m:Nat)(A u:Vc):Int:=sm m λi=>A i*u i
def vT(h:∀i,s*z i=a*x i+b*y i):s*j6 m A z=a*j6 m A x+b*j6 m A y:=by
 unfold j6;rw[<-xY,<-yq];refine gd m _ _ λi _=>?_;have:=h i;calc s*(A i*z i)=A i*(s*z i):=by rw[Int.mul_left_comm]
  _=A i*(a*x i+b*y i):=by rw[this]
  _=a*(A i*x i)+b*(A i*y i):=by grind
theorem l8 m:∀(f:List Vc) (T:List Nat),T.Nodup->(∀t∈T,t<m)->f.length<T.length->∃v:Vc,(∃i,v i≠0)/\(∀i,i∉T->v i=0)/\∀A∈f,j6 m A v=0
 |[],T,nd,ht,hl=>by
  cases T with
  |nil=>cases hl
  |cons t T=>refine⟨λi=>if i=t then 1 else 0,⟨t,by simp⟩,λi g=>?_,λA l=>nomatch l⟩;have:i≠t:=λz=>g (by simp[z]);simp[this]
 |A::f,T,nd,ht,hl=>by
  cases T with
  |nil=>cases hl
  |cons t T=>
   obtain⟨D,p⟩:=bG.mp nd;have h:f.length<T.length:=by simp at hl;exact hl
   obtain⟨d,⟨j,u⟩,o1,F⟩:=l8 m f T p (λx o=>ht x (by simp[o])) h;have n:j∈T:=aO λz=>u (o1 j z);have r:f.length<((t::T).erase j).length:=by have E:j∈t::T:=bj _ n;rw[c7 E,az];exact h
   obtain⟨c,⟨k,C⟩,o2,w⟩:=l8 m f ((t::T).erase j) (nd.erase j) (λx o=>ht x (c8 o)) r;have q:c j=0:=o2 j (λz=>by rw[List.Nodup.mem_erase_iff nd]at z;exact z.1 rfl);by_cases l:j6 m A c=0
   .exact⟨c,⟨k,C⟩,λi g=>o2 i (λz=>g (c8 z)),λB e=>by
     rcases aF.mp e with rfl|e
     .exact l
     .exact w B e⟩
   .refine⟨λi=>j6 m A c*d i-j6 m A d*c i,⟨j,?_⟩,λi g=>?_,λB e=>?_⟩
    .dsimp only;rw[q];simp[l,u]
    .show j6 m A c*d i-j6 m A d*c i=0;rw[o1 i (λz=>g (by simp[z])),o2 i (λz=>g (c8 z))];simp
    .have:=vT (m:=m) (A:=B) (x:=d) (y:=c) (z:=λi=>j6 m A c*d i-j6 m A d*c i) (s:=1) (a:=j6 m A c) (b:=-j6 m A d) (λi=>by grind);rcases aF.mp e with rfl|e
     .rw[cQ]at this;rw[this];grind
     .rw[F B e,w B e]at this;simpa using this
end CL
namespace CL
open PySem L2 L3
variable {c:Cs}
def tu N M row other a (D:a<row.length) (L:other.length=row.length) (hs:row.length<1000) (K:N+M+1<=8000) (k:∀x∈row,Bn N x) (q:∀x∈other,Bn M x) (X:vc other a≠0) :
  ∃r,gz c [tI row,tI other,.int (a:Int)]=.ok (tI r)/\r.length=row.length/\(∀x∈r,Bn (N+M+1) x)/\vc r a=0/\∃g s b:Int,0<g/\0<s/\(∀i,g*vc r i=s*vc row i+b*vc other i)/\(vc row a≠0->s=((vc other a).natAbs:Int)/\b = -vc row a*wm (vc other a)):=by
 have sz:1000<sizeLine:=by decide
 have l:gw (tI row) (.int (a:Int))=.ok (.int (vc row a)):=iO row a D;have C:gw (tI other) (.int (a:Int))=.ok (.int (vc other a)):=iO other a (by lia);have v:Bn N (vc row a):=k _ (getD_mem row a D);have I:Bn M (vc other a):=q _ (getD_mem other a (by lia));by_cases j:vc row a=0
 .exact⟨row,eA rfl (iC (fv (d8 (dy (dy rfl rfl l) rfl (by rw[eC,j];rfl))) (dY rfl)) rfl),rfl,λx F=>(k x F).mono (by lia),j,1,1,0,by decide,by decide,λi=>by lia,λz=>absurd j z⟩
 .generalize E:vc other a=o at *;generalize U:vc row a=x0 at *;have R:wz [.int o]=.ok (.int (o.natAbs:Int)):=by simp[Gd]
  let w:Int:=-x0*wm o;have P:=xG o;have A:Bn N w:=by
   refine c5 ?_ v;show (-x0*wm o).natAbs<=_;rw[aY,Int.natAbs_neg];have:(wm o).natAbs<=1:=by lia
   exact aN (Nat.mul_le_mul_left _ this) (by lia)
  have B:Bn M (o.natAbs:Int):=c5 (by lia) I;let d:LI:=(row.zip other).map λp=>(o.natAbs:Int)*p.1+w*p.2;have Y:d.length=row.length:=by simp[d,L]
  have m:∀y∈d,Bn (N+M+1) y:=λy Q=>by obtain⟨p,h,rfl⟩:=aD.mp Q;exact ((B.mul (k _ (aW h).1)).add (A.mul (q _ (aW h).2))).mono (by lia)
  have f:∀i,vc d i=(o.natAbs:Int)*vc row i+w*vc other i:=λi=>by
   by_cases Z:i<row.length
   .rw[jI d i (by lia),jI row i Z,jI other i (by lia)];simp[d]
   .rw[iQ d i (by lia),iQ row i (by lia),iQ other i (by lia),cV,cV];rfl
  obtain⟨g,r,J,H,S,e,u⟩:=wg (c:=c) (N+M+1) K d (by lia) m;refine⟨r,eA rfl (du (eR (d8 (dy (dy rfl rfl l) rfl (by rw[eC];simp[j]))) rfl) (du (dX (t:=.int (o.natAbs:Int)) (jb (dy rfl rfl C) R) rfl) (du (dX (t:=.int w) ?_ rfl) (dY (oy (x:=tI d) ?_ H))))),by lia,u,?_,g,(o.natAbs:Int),w,J,by lia,λi=>by rw[<-e i,f i],λ_=>⟨rfl,rfl⟩⟩
  .refine dy (x:=.int (-x0)) (y:=.int (wm o)) ?_ (oy (dy rfl rfl C) (um o)) (gU ((v.neg).ok (n:=2) ?_ (by lia) (by decide)))
   .exact DJ (dy rfl rfl l)
   .unfold Bn;show _<4;lia
  .refine jb (t:=.lst (d.map T.int)) (fI (h7 (row.zip other) (λp=>T.tup [.int p.1,.int p.2]) (λp=>T.int ((o.natAbs:Int)*p.1+w*p.2)) (rC rfl rfl rfl rfl) (by simp;lia) (λp h=>⟨_,rfl,rfl,?_⟩) (by rw[aI];rfl))) rfl;exact dy (dy rfl rfl (gU (B.ok (k _ (aW h).1) (by lia) (by lia)))) (dy rfl rfl (gU (A.ok (q _ (aW h).2) (by lia) (by lia)))) (eG _ _)
  .refine xD (g:=g) (by lia) ?_;rw[<-e a,f a,E,U];show _ + -x0*wm o*o=_;rw[cv,Cf,cX,cw x0];lia
theorem kX P x1 L M (Z:L<1000):∀(pv:List (Nat×LI)) (b:LI) (N:Nat) (h j:Oq W),N+pv.length*(M+1)<=8000->b.length=L->(∀x∈b,Bn N x)->(∀p∈pv,p.1<L/\p.2.length=L/\vc p.2 p.1≠0/\(∀x∈p.2,Bn M x)/\P (vc p.2))->pv.Pairwise (λp q=>vc q.2 p.1=0)->
  ∃r D u,eX (lp 2 (fX (jA 2) (fX (jA 3) kU))) (lD c) (pv.map jj) [some (.p (tI b)),x1,h,j]=.nx [some (.p (tI r)),x1,D,u]/\r.length=L/\(∀x∈r,Bn (N+pv.length*(M+1)) x)/\
   (∃g s y,0<g/\0<s/\Qs P y/\∀i,g*vc r i=s*vc b i+1*y i)/\(∀k,vc b k=0->(∀p∈pv,vc p.2 k=0)->vc r k=0)/\∀p∈pv,vc r p.1=0
 |[],b,N,h,j,_,hl,hb,_,_=>⟨b,h,j,rfl,hl,λx o=>(hb x o).mono (by lia),⟨1,1,λ_=>0,by decide,by decide,.zero,λi=>by lia⟩,λk n _=>n,λp d=>nomatch d⟩
 | (a,prow)::pv,b,N,h,j,hN,hl,hb,hA,hw=>by
  obtain⟨h1,h2,J,R,Q⟩:=hA (a,prow) (bh ..);obtain⟨w1,K⟩:=cY.mp hw;rw[az,bR]at hN;obtain⟨m,e1,X,S,z0,f,E,q1,w,F,I,_⟩:=tu N M b prow a (by lia) (by lia) (by lia) (by lia) hb R J;obtain⟨r,D,u,e,A,C,⟨z,l,y,B,t,hy,Y⟩,H,z2⟩:=kX P x1 L M Z pv m (N+M+1) (some (.p (.int a))) (some (.p (tI prow))) (by lia) (by rw[X,hl]) S (λp d=>hA p (bj _ d)) K;refine⟨r,D,u,?_,A,λx o=>(C x o).mono (by rw[az,bR];lia),⟨f*z,l*E,_,Int.mul_pos w B,Int.mul_pos t F,Qs.comb (l*q1) f (.of Q) hy,λi=>?_⟩,λk n d=>?_,λp d=>?_⟩
  .rw[bB,eX];have E:(lp 2 (fX (jA 2) (fX (jA 3) kU))) (jj (a,prow)) [some (.p (tI b)),x1,h,j]=some [some (.p (tI b)),x1,some (.p (.int a)),some (.p (tI prow))]:=rfl;rw[E];have l:lD c [some (.p (tI b)),x1,some (.p (.int a)),some (.p (tI prow))]=.nx [some (.p (tI m)),x1,some (.p (.int a)),some (.p (tI prow))]:=dX (gZ rfl rfl rfl e1) rfl;dsimp only;rw[l];exact e
  .calc f*z*vc r i=f*(z*vc r i):=by ac_rfl
    _=l*(f*vc m i)+f*y i:=by rw[Y i,cQ,cU];congr 1;ac_rfl
    _=_:=by rw[I i,cU];simp only[cQ,cv,Int.add_assoc]
  .refine H k (xD (g:=f) (by lia) ?_) λp v=>d p (bj _ v);have:=d (a,prow) (bh ..);dsimp only at this;rw[I k,n,this,cV,cV];rfl
  .rcases aF.mp d with rfl|d
   .exact H _ z0 λq U=>w1 q U
   .exact z2 p d
def sJ P L M N (h:L<1000) (pv:List (Nat×LI)) row (d:N+pv.length*(M+1)<=8000) (f:row.length=L) (j:∀x∈row,Bn N x) (m:∀p∈pv,p.1<L/\p.2.length=L/\vc p.2 p.1≠0/\(∀x∈p.2,Bn M x)/\P (vc p.2)) (hw:pv.Pairwise (λp q=>vc q.2 p.1=0)) :
  ∃r:LI,fU c [tI row,.lst (pv.map jj)]=.ok (tI r)/\r.length=L/\(∀x∈r,Bn (N+pv.length*(M+1)) x)/\
   (∃g s y,0<g/\0<s/\Qs P y/\∀i,g*vc r i=s*vc row i+1*y i)/\∀p∈pv,vc r p.1=0:=by
 obtain⟨r,o,n,e,l,k,a,-,b⟩:=kX P (some (.p (.lst (pv.map jj)))) L M h pv row N none none d f j m hw;exact⟨r,eA rfl (du (jU rfl e) (dY rfl)),l,k,a,b⟩
noncomputable def Pq(B:Nat):Nat->Nat
 |0=>0
 |k+1=>Pq B k+(B+k*(Pq B k+1))+1
def A2 B k:Pq B k<=Pq B (k+1):=by show _<=Pq B k+(B+k*(Pq B k+1))+1;lia
def CS(h:k<=d):Pq B k<=Pq B d:=by
 induction h with
 |refl=>exact aK _
 |step _ ih=>exact aN ih (A2 B _)
structure HJ(d B:Nat):Prop where
 b1:1<=B
 le:∀k,k<=d->B+k*(Pq B k+1)<=8000
 pq:Pq B d<=8000
structure PP(d B:Nat)(rows:LL)(pv:List (Nat×LI))(rs:LL):Prop where
 pl:∀p∈pv,p.1<d/\p.2.length=d+1/\vc p.2 p.1≠0/\(∀x∈p.2,Bn (Pq B pv.length) x)/\Qs (VP rows) (vc p.2)
 pw:pv.Pairwise λp q=>p.1≠q.1/\vc q.2 p.1=0/\vc p.2 q.1=0
 rr:∀r∈rs,r.length=d+1/\(∀k,k<d->vc r k=0)/\Qs (VP rows) (vc r)
 sp:∀r∈rows,Qs (λx=>(∃p∈pv,x=vc p.2)\/∃r∈rs,x=vc r) (vc r)
section
variable {d B:Nat}{rows rs:LL}{pv:List (Nat×LI)}{row left:LI}{g s:Int}{y:Vc}
def PP.short(h:PP d B rows pv rs):pv.length<=d:=by
 have:=oh d (pv.map Prod.fst) (c9.mpr (h.pw.imp λq=>q.1)) λx b=>by obtain⟨p,a,rfl⟩:=aD.mp b;exact (h.pl p a).1
 simpa using this
def kG{x:Vc}(q:Qs (VP rows) x):Qs (VP (rows++[row])) x:=q.mono λz ⟨w,hw,e⟩=>⟨w,ay _ hw,e⟩
def nt(h:PP d B rows pv rs)(b:0<g)(a:Qs (rT pv) y)(e:∀i,g*vc left i=s*vc row i+1*y i):Qs (VP (rows++[row])) (vc left):=.lin (.of ⟨row,bu _ (aj.mpr rfl),rfl⟩) (a.sub λx ⟨p,hp,ex⟩=>by rw[ex];exact kG (h.pl p hp).2.2.2.2) (by lia) e
def Cn(h:PP d B rows pv rs)(o:0<g)(v:0<s)(j:Qs (rT pv) y)(e:∀i,g*vc left i=s*vc row i+1*y i)(t:left.length=d+1)(m:∀k,k<d->vc left k=0):PP d B (rows++[row]) pv (rs++[left]):=by
 have up:∀{x:Vc},Qs (λx=>(∃p∈pv,x=vc p.2)\/∃r∈rs,x=vc r) x->Qs (λx=>(∃p∈pv,x=vc p.2)\/∃r∈rs++[left],x=vc r) x:=λq=>q.mono λz u=>u.imp id λ⟨r,hr,ez⟩=>⟨r,ay _ hr,ez⟩;refine⟨λp f=>?_,h.pw,λr hr=>?_,λr hr=>?_⟩
 .obtain⟨a,b,l,n,q⟩:=h.pl p f;exact⟨a,b,l,n,kG q⟩
 .rcases ai.mp hr with q|q
  .obtain⟨a,b,q⟩:=h.rr r q;exact⟨a,b,kG q⟩
  .rw[aj.mp q];exact⟨t,m,nt h o j e⟩
 .rcases ai.mp hr with q|q
  .exact up (h.sp r q)
  .rw[aj.mp q];exact .lin (a:=g) (b:=-1) (.of (.inr ⟨left,bu _ (aj.mpr rfl),rfl⟩)) (j.mono λx ⟨p,f,ex⟩=>.inl ⟨p,f,ex⟩) (show s≠0 by lia) λi=>by rw[e i];lia
def yE(h:PP d B rows pv rs)(K:0<g)(Z:0<s)(H:Qs (rT pv) y)(e:∀i,g*vc left i=s*vc row i+1*y i)(Q:left.length=d+1)(v:∀p∈pv,vc left p.1=0)(R:∀x∈left,Bn (B+pv.length*(Pq B pv.length+1)) x){j:Nat}(U:j<d)(L:vc left j≠0)
  (f:Nat×LI->LI) (C:∀p∈pv,(f p).length=p.2.length/\(∀x∈f p,Bn (Pq B (pv.length+1)) x)/\vc (f p) j=0/\∃g s b:Int,0<g/\0<s/\∀i,g*vc (f p) i=s*vc p.2 i+b*vc left i):PP d B (rows++[row]) (pv.map (λp=>(p.1,f p))++[(j,left)]) rs:=by
 have S:(pv.map (λp=>(p.1,f p))++[(j,left)]).length=pv.length+1:=by simp
 have at_:∀p∈pv,∀q∈pv,vc p.2 q.1=0->vc (f p) q.1=0:=λp l q o z=>by obtain⟨_,_,_,A,J,D,I,F,t⟩:=C p l;have:=t q.1;rw[z,v q o,cV,cV,cS]at this;exact xD (Int.ne_of_gt I) this
 have n:Qs (λx=>(∃p∈pv.map (λp=>(p.1,f p))++[(j,left)],x=vc p.2)\/∃r∈rs,x=vc r) (vc left):=.of (.inl ⟨(j,left),bu _ (aj.mpr rfl),rfl⟩);have m:∀p∈pv,Qs (λx=>(∃p∈pv.map (λp=>(p.1,f p))++[(j,left)],x=vc p.2)\/∃r∈rs,x=vc r) (vc p.2):=λp l=>by obtain⟨_,_,_,A,J,D,I,F,t⟩:=C p l;exact .lin (a:=A) (b:=-D) (.of (.inl ⟨(p.1,f p),ay _ (aD.mpr ⟨p,l,rfl⟩),rfl⟩)) n (show J≠0 by lia) λi=>by rw[t i];lia
 refine⟨λp l=>?_,?_,λr hr=>?_,λr hr=>?_⟩
 .rw[S];rcases ai.mp l with q|q
  .obtain⟨p,k,rfl⟩:=aD.mp q;obtain⟨a,b,N,Y,q⟩:=h.pl p k;obtain⟨P,X,_,A,J,D,I,F,t⟩:=C p k;refine⟨a,P.trans b,λz=>?_,X,.lin (kG q) (nt h K H e) (show A≠0 by lia) t⟩;have:=t p.1;rw[show vc (f p) p.1=0 from z,v p k,cV,cV,cS]at this;exact N (xD (Int.ne_of_gt F) this.symm)
  .rw[aj.mp q];exact⟨U,Q,L,λx E=>(R x E).mono (by show _<=Pq B pv.length+(B+pv.length*(Pq B pv.length+1))+1;lia),nt h K H e⟩
 .refine cZ.mpr ⟨c9.mpr (h.pw.imp_of_mem λ{p q} l o w=>⟨w.1,at_ q o p l w.2.1,at_ p l q o w.2.2⟩),c0 _ _,λp l q o=>?_⟩;rw[aj.mp o];obtain⟨p,k,rfl⟩:=aD.mp l;exact⟨λz=>L ((show p.1=j from z)▸v p k),v p k,(C p k).2.2.1⟩
 .obtain⟨a,b,q⟩:=h.rr r hr;exact⟨a,b,kG q⟩
 .rcases ai.mp hr with q|q
  .exact (h.sp r q).sub λx E=>by
    rcases E with⟨p,l,u⟩|⟨r,hr,u⟩
    .rw[u];exact m p l
    .exact .of (.inr ⟨r,hr,u⟩)
  .rw[aj.mp q];exact .lin (a:=g) (b:=-1) n (H.sub λx ⟨p,l,u⟩=>by rw[u];exact m p l) (show s≠0 by lia) λi=>by rw[e i];lia
end
theorem BU(a:LL)(d B:Nat)(hd:d<=4)(hzl:a.length<=8)(hz:∀u∈a,u.length=d+1/\∀x∈u,Bn B x)(hB:HJ d B) :
  ∃pv n,eU c [.lst (a.map tI),.int (d:Int)]=.ok (.tup [.lst (pv.map jj),.lst (n.map tI)])/\PP d B a pv n/\n.length<=8:=by
 have sz:1000<sizeLine:=by decide
 have hrm:xI (d:Int)=true:=i7 (by lia);obtain⟨ρ,e,pv,n,x4,Z,Q,rfl,v,J⟩:=iw (m:=jA 4) (g:=gA c) tI
  (λk ρ=>∃(pv:List (Nat×LI)) (n:LL) (x4 Z Q:Oq W),ρ=[some (.p (.lst (a.map tI))),some (.p (.int (d:Int))),some (.p (.lst (pv.map jj))),some (.o (n.map tI)),x4,Z,Q]/\PP d B (a.take k) pv n/\n.length<=k)
  a 0 _ ⟨[],[],none,none,none,rfl,⟨(λp l=>nomatch l),List.Pairwise.nil,(λp l=>nomatch l),(λz hz=>by simp at hz)⟩,aK _⟩ (by
   rintro k z ρ hi ⟨pv,n,x4,Z,Q,rfl,v,J⟩;rw[aG]at v J ⊢;have X:=hz z (av hi);have hkl:=(aa.mp hi).1;have K:=v.short;have hbb:=hB.le pv.length K;obtain⟨left,el,S,Y,⟨g,s,y,hg,hs,hy,ey⟩,h0⟩:=sJ (c:=c) (rT pv) (d+1) (Pq B pv.length) B (by lia) pv z hbb X.1 X.2 (λp l=>by obtain⟨q1,q2,q3,q4,_⟩:=v.pl p l;exact⟨by lia,q2,q3,q4,p,l,rfl⟩) (v.pw.imp λh=>h.2.1)
   let C:List Nat:=(List.range d).filter λj=>left.getD j 0 != 0;let R:En:=[some (.p (.lst (a.map tI))),some (.p (.int (d:Int))),some (.p (.lst (pv.map jj))),some (.o (n.map tI)),some (.p (tI z)),some (.p (tI left)),some (.p (.lst (C.map λ(j:Nat)=>T.int (j:Int))))];have e4:h8 [none,some 5] (ip (dg (dk 1) dm)) (gR 0) (eW (dI (d7 true) (dI gw (dk 1) (dk 0)) (cM (.int 0)))) (iT c) (mS [some (.p (.lst (a.map tI))),some (.p (.int (d:Int))),some (.p (.lst (pv.map jj))),some (.o (n.map tI)),some (.p (tI z)),some (.p (tI left)),Q])=.ok (C.map λ(j:Nat)=>T.int (j:Int)):=ot (List.range d) (λ(j:Nat)=>T.int (j:Int)) (λ(j:Nat)=>T.int (j:Int)) (λj=>left.getD j 0 != 0) (by simp[hrm,B7]) (by simp;lia) (λj hj=>⟨_,rfl,d8 (dy (dy rfl rfl (iO left j (by have:=aS.mp hj;lia))) rfl (lL _ _)),λ_=>rfl⟩) rfl
   have H:kQ (C.map λ(j:Nat)=>T.int (j:Int))=true:=ko _ _ λ_ _=>rfl;have L:lC (C.map λ(j:Nat)=>T.int (j:Int))<=90:=aN (kh _ 0 _ λ_ _=>aK _) (by decide);have D:eW (dI (d7 false) (dk 6) (eQ (lstM dm))) (vw R)=.ok C.isEmpty:=by refine d8 (dy (x:=.lst (C.map λ(j:Nat)=>T.int (j:Int))) (y:=.lst []) rfl (by simp) ?_);rw[nc false _ H L];simp
   have N:∀r,(jo (eW (dI (d7 false) (dk 6) (eQ (lstM dm)))) (nG 3 (f9 (dk 5))) (setO 2 (f9 (eQ (lz (dg (dk 2) (dg (dk 5) (dg (dI gw (dk 6) (cM (.int 0))) dm))) (gx c)))))) R=r->
     gA c [some (.p (.lst (a.map tI))),some (.p (.int (d:Int))),some (.p (.lst (pv.map jj))),some (.o (n.map tI)),some (.p (tI z)),Z,Q]=r:=λr hr=>
    du (dX (t:=tI left) (iu rfl rfl el) rfl) (du (dX (t:=.lst (C.map λ(j:Nat)=>T.int (j:Int))) (fI e4) rfl) hr)
   have mono:B+pv.length*(Pq B pv.length+1)<=B+d*(Pq B d+1):=Nat.add_le_add_left (Nat.mul_le_mul K (Nat.add_le_add_right (CS K) 1)) _;have tk:a.take (k+1)=a.take k++[z]:=iz a k z hi;cases A:C with
   |nil=>refine⟨_,_,rfl,.inl (N _ (fv (by rw[D,A];rfl) (qW (t:=tI left) rfl rfl (by simp;lia) rfl))),pv,n++[left],_,_,_,by rw[aZ];rfl,?_,by simp;lia⟩;rw[tk];refine Cn v hg hs hy ey S λi him=>?_;refine aO λhc=>?_;have:i∈C:=aU.mpr ⟨aS.mpr him,by simpa[vc] using hc⟩;rw[A]at this;exact nomatch this
   |cons E js=>
    have U:E∈C:=by rw[A];exact bh ..
    have F:E<d:=aS.mp (aU.mp U).1;have w:vc left E≠0:=by have:=(aU.mp U).2;simpa[vc] using this
    have I:pv.length+1<=d:=by
     have nd:(E::pv.map Prod.fst).Nodup:=bG.mpr ⟨λhm=>by obtain⟨p,l,ep⟩:=aD.mp hm;exact w (ep▸h0 p l),c9.mpr (v.pw.imp λq=>q.1)⟩
     have:=oh d _ nd λx hx=>by
      rcases aF.mp hx with rfl|hx
      .exact F
      .obtain⟨p,l,rfl⟩:=aD.mp hx;exact (v.pl p l).1
     simpa using this
    have hP:Pq B (pv.length+1)<=8000:=aN (CS I) hB.pq;obtain⟨f,hf⟩:=mB (P:=λ(p:Nat×LI) (r:LI)=>gz c [tI p.2,tI left,.int (E:Int)]=.ok (tI r)/\r.length=p.2.length/\(∀x∈r,Bn (Pq B (pv.length+1)) x)/\vc r E=0/\∃g s b:Int,0<g/\0<s/\∀i,g*vc r i=s*vc p.2 i+b*vc left i) pv λp l=>by obtain⟨q1,q2,q3,q4,_⟩:=v.pl p l;obtain⟨r,a1,a2,a3,a4,g,s,b,a5,a6,a7,_⟩:=tu (c:=c) (Pq B pv.length) (B+pv.length*(Pq B pv.length+1)) p.2 left E (by lia) (by lia) (by lia) hP q4 Y w;exact⟨r,a1,a2,a3,a4,g,s,b,a5,a6,a7⟩
    have i0:dI gw (dk 6) (cM (.int 0)) (mS R)=.ok (.int (E:Int)):=dy (x:=.lst (C.map λ(j:Nat)=>T.int (j:Int))) rfl rfl (by rw[A];exact CC _ _);have e5:=oZ (c:=c) pv left E f (by lia) λp l=>(hf p l).1;refine⟨_,_,rfl,.inl (N _ (eR (by rw[D,A];rfl) (dX (fI (yx rfl rfl i0 e5)) rfl))),_,n,_,_,_,rfl,?_,by lia⟩;rw[tk];exact yE v hg hs hy ey S h0 Y F w f λp l=>(hf p l).2)
 rw[aG,c6]at v;rw[aG]at J;refine⟨pv,n,eA rfl (du (dX (t:=.lst []) (by simp) rfl) (du (kn (ts:=[]) (by simp) rfl) (du (jU rfl e) (dY (xl rfl rfl))))),v,by lia⟩
end CL
namespace CL
open PySem L2 L3
variable {c:Cs}
def FP(h:fc ρ=.ok false)(a:fd ρ=.ok b):L3.xJ fc fd ρ=.ok b:=by simp only[L3.xJ,h,a,M.bind_ok];rfl
def GL(d B:Nat)(a:LI):Prop:=a.length=d+1/\∀x∈a,Bn B x
structure GC(d B:Nat)(ns:LI):Prop where
 gl:GL d B ns
 re:∃p,p<d/\vc ns p≠0
def GL.mono(h:GL d B ns)(b:B<=B'):GL d B' ns:=⟨h.1,λx a=>(h.2 x a).mono b⟩
def GL.set(h:GL d B ns) k (b:Bn B v):GL d B (ns.set k v):=⟨by rw[List.length_set];exact h.1,λx a=>by
 rcases List.mem_or_eq_of_mem_set a with q|q
 .exact h.2 x q
 .rw[q];exact b⟩
def Dx ns k v i (a:k<ns.length):vc (ns.set k v) i=if k=i then v else vc ns i:=by
 unfold vc;rw[af,List.getElem?_set];by_cases h:k=i
 .subst h;rw[aQ rfl,aQ rfl,aQ a];rfl
 .rw[aR h,aR h,<-af]
def vJ n k (h:k<n):sM n (k:Int)=some k:=by unfold sM;rw[aQ (by lia),aQ (by lia)];simp
def lA(n:Nat)(h:n<=1000)(a:f ρ=.ok (.int (n:Int))):ip (dg f dm) ρ=.ok ((List.range n).map λ(i:Nat)=>T.int (i:Int)):=by have hr:xI n=true:=i7 (by lia);rw[<-B7];simp[a,hr]
def Cc cell (k d B:Nat) (fs:LL) (hk:k<=10) (hd:1<=d/\d<=3) (hB:10<=B) (hB2:B<=1000) (hf:∀f∈fs,GL d B f) (hfl:fs.length<=10) :
  ∃ns,gq c [.int cell,.int k,.int d,.lst (fs.map tI)]=.ok (tI ns)/\GC d (B+2) ns:=by
 have sz:1000<sizeLine:=by decide
 have hrd:xI ((d+1:Nat):Int)=true:=i7 (by lia);obtain⟨d1,d1a,d1b⟩:=f6 (c:=c) cell 2 5 (by decide) (by decide) (by decide) (by decide);obtain⟨h,ew,hw⟩:=vC [1,2,3,5,1000] (dr c cell 2 5) d1a (by simpa using d1b);have hw':1<=h/\h<=1000:=by simp only[aF,cA,or_false]at hw;lia
 let s:LI:=(List.range (d+1)).map λ(j:Nat)=>dr c cell (4+4*k+j) (2*h+1)-h;have g0:GL d (B+2) s:=⟨by simp[s],λx P=>by obtain⟨j,hj,rfl⟩:=aD.mp P;have hj':=aS.mp hj;obtain⟨_,a1,a2⟩:=f6 (c:=c) cell (4+4*k+j) (2*h+1) (by lia) (by lia) (by lia) (by lia);refine Bn.mono (m:=10) ?_ (by lia);unfold Bn;show _<1024;lia⟩
 obtain⟨d2,d2a,d2b⟩:=f6 (c:=c) cell (40+k) 6 (by decide) (by decide) (by lia) (by lia);let r:=dr c cell (40+k) 6;let St:LI->Option W->Option W->En:=λns D E=>[some (.p (.int cell)),some (.p (.int k)),some (.p (.int d)),some (.p (.lst (fs.map tI))),some (.p (.int h)),some (.o (ns.map T.int)),some (.p (.int r)),D,E];have e0:h8 [none,some 4,some 0,some 1] (ip (dg (dI fO (dk 2) (cM (.int 1))) dm)) (gR 0) (λ_=>.ok true) (lV c) (mS [some (.p (.int cell)),some (.p (.int k)),some (.p (.int d)),some (.p (.lst (fs.map tI))),some (.p (.int h)),none,none,none,none])=.ok (s.map T.int):=by
  refine h7 (List.range (d+1)) (λ(j:Nat)=>T.int (j:Int)) (λ(j:Nat)=>T.int (dr c cell (4+4*k+j) (2*h+1)-h)) ?_ (by simp;lia) (λj hj=>⟨_,rfl,rfl,?_⟩) (by rw[aI];rfl)
  .exact lA (d+1) (by lia) (dy rfl rfl (by rw[eG];simp))
  .have hj':=aS.mp hj;obtain⟨e,_,_⟩:=f6 (c:=c) cell (4+4*k+j) (2*h+1) (by lia) (by lia) (by lia) (by lia);exact dy (gZ (y:=.int (4+4*(k:Int)+(j:Int))) (z:=.int (2*h+1)) rfl (dy (dy rfl (dy rfl rfl (gM (by decide))) (eG _ _)) rfl (eG _ _)) (dy (dy rfl rfl (gM (by decide))) rfl (eG _ _)) e) rfl (oR _ _)
 have Y:∀neg,d7 neg (.lst (fs.map tI)) (.lst [])=.ok (.bl (if neg then !fs.isEmpty else fs.isEmpty)):=λneg=>by rw[nc neg (fs.map tI) (by simp) (aN (rW fs) (by decide))];simp
 obtain⟨A,e1,g1⟩:∃A,(jo (m4 (eW (dI (d7 false) (dk 6) (cM (.int 1)))) (eW (dI (d7 true) (dk 3) (eQ (lstM dm))))) (jR 5 (ue (qM (eQ (zc jq (dg (j3 (dI gw (dk 3) (dD (dg (dk 0) (dg (dI fO (cM (.int 50)) (dk 1)) (dg (ia gP (dg (dk 3) dm)) dm))) (dE c))) (λ_=>.ok none) (ir (dk 2))) dm))) (j3 (dk 5) (ir (dk 2)) (λ_=>.ok none))))) eE) (St s none none)=.nx (St A none none)/\GL d (B+2) A:=by
  by_cases F:r=1/\fs≠[]
  .obtain⟨L,w⟩:=F;have hlp:=List.length_pos_iff.mpr w;obtain⟨d3,J,S⟩:=f6 (c:=c) cell (50+k) fs.length (by lia) (by lia) (by lia) (by lia);obtain⟨f,ef,I⟩:=qY fs (dr c cell (50+k) fs.length) J S;have H:=hf f I;refine⟨f.take d++s.drop d,fv ?_ (Bx (ts:=(f.take d++s.drop d).map T.int) ?_ (AH _) rfl),⟨?_,λx P=>?_⟩⟩
   .have N:eW (dI (d7 false) (dk 6) (cM (.int 1))) (vw (St s none none))=.ok true:=d8 (dy (x:=.int r) rfl rfl (by rw[eC,L];rfl));have K:eW (dI (d7 true) (dk 3) (eQ (lstM dm))) (vw (St s none none))=.ok true:=d8 (dy (x:=.lst (fs.map tI)) (y:=.lst []) rfl (by simp) (by rw[Y];simp[w]));simp only[L3.m4,N,K,M.bind_ok];rfl
   .rw[aZ];refine qL (a:=(f.take d).map T.int) (b:=(s.drop d).map T.int) ?_ ?_ (by simp;have:=g0.1;lia)
    .refine fI ?_;have:=nV (fe:=dI gw (dk 3) (dD (dg (dk 0) (dg (dI fO (cM (.int 50)) (dk 1)) (dg (ia gP (dg (dk 3) dm)) dm))) (dE c))) (fd:=dk 2) (d:=d) (ts:=f.map T.int) (ρ:=vw (St s none none)) (dy (x:=.lst (fs.map tI)) (y:=.int (dr c cell (50+k) fs.length)) rfl (gZ (y:=.int (50+(k:Int))) (z:=.int (fs.length:Int)) rfl (dy rfl rfl (eG _ _)) (jb rfl (by simp)) d3) (by simp[jS,ef,tI])) rfl (by rw[ax,H.1];lia);simp only[zc,dg,dm,this,M.bind_ok];rw[cB];rfl
    .rw[List.map_drop];exact wD (ts:=s.map T.int) rfl rfl
   .rw[aT,bI,bL,H.1,g0.1];lia
   .rcases ai.mp P with q|q
    .exact (H.2 x (dc q)).mono (by lia)
    .exact g0.2 x (List.mem_of_mem_drop q)
  .refine⟨s,eR ?_ rfl,g0⟩;have N:eW (dI (d7 false) (dk 6) (cM (.int 1))) (vw (St s none none))=.ok (r==1):=d8 (dy (x:=.int r) rfl rfl (eC _ _));have K:eW (dI (d7 true) (dk 3) (eQ (lstM dm))) (vw (St s none none))=.ok (!fs.isEmpty):=d8 (dy (x:=.lst (fs.map tI)) (y:=.lst []) rfl (by simp) (by rw[Y];rfl));simp only[L3.m4,N,K,M.bind_ok];by_cases L:r=1
   .have hn:fs=[]:=by
     by_cases hn:fs=[]
     .exact hn
     .exact absurd ⟨L,hn⟩ F
    rw[L,hn];rfl
   .have:(r==1)=false:=by simpa using L
    rw[this];rfl
 obtain⟨C,e2,g2⟩:∃C,(jo (eW (dI (d7 false) (dk 6) (cM (.int 2)))) (qF 5 (mH (dk 2)) (mH (cM (.int 0)))) eE) (St A none none)=.nx (St C none none)/\GL d (B+2) C:=by
  by_cases h2:r=2
  .refine⟨A.set d 0,fv (d8 (dy (x:=.int r) rfl rfl (by rw[eC,h2];rfl))) (Ab (us:=A.map T.int) (t:=.int 0) (j:=(d:Int)) (m:=d) rfl rfl rfl rfl (vJ _ _ (by rw[ax,g1.1];lia)) ?_),g1.set d uX⟩;show St (A.set d 0) none none=_;simp only[St,List.map_set];rfl
  .exact⟨A,eR (d8 (dy (x:=.int r) rfl rfl (by rw[eC];simp[h2]))) rfl,g1⟩
 obtain⟨u,D,E,e3,g3⟩:∃u D E,(jo (m4 (eW (dI (d7 false) (dk 6) (cM (.int 3)))) (eW (dI Fk (ia gP (dg (dk 3) dm)) (cM (.int 1))))) (dO (setO 7 (f9 (dI gw (dk 3) (dD (dg (dk 0) (dg (dI fO (cM (.int 50)) (dk 1)) (dg (dI nO (ia gP (dg (dk 3) dm)) (cM (.int 1))) dm))) (dE c)))))
  (dO (setO 8 (f9 (dI fO (cM (.int 1)) (dD (dg (dk 0) (dg (dI fO (cM (.int 60)) (dk 1)) (dg (cM (.int 3)) dm))) (dE c)))))
  (jR 5 (lJ (h8 [none,none,some 8] (m6 (dg (dI gw (dk 3) (xK (λi=>.int (-i)) (cM (.int 1)))) (dg (dk 7) dm))) (mw 2 (f7 (gR 0) (f7 (gR 1) mm))) (λ_=>.ok true) (lO c)))))) eE) (St C none none)=.nx (St u D E)/\GL d (B+2) u:=by
  have N:eW (dI (d7 false) (dk 6) (cM (.int 3))) (vw (St C none none))=.ok (r==3):=d8 (dy (x:=.int r) rfl rfl (eC _ _))
  have K:eW (dI Fk (ia gP (dg (dk 3) dm)) (cM (.int 1))) (vw (St C none none))=.ok (decide (1<(fs.length:Int))):=d8 (dy (x:=.int (fs.length:Int)) (jb rfl (by simp)) rfl rfl)
  by_cases F:r=3/\1<fs.length
  .obtain⟨X,R⟩:=F;have w:fs≠[]:=by intro z;rw[z]at R;simp at R
   obtain⟨d3,J,S⟩:=f6 (c:=c) cell (50+k) (fs.length-1) (by lia) (by lia) (by lia) (by lia);obtain⟨f,ef,I⟩:=qY fs (dr c cell (50+k) (fs.length-1)) J (by lia);obtain⟨d4,d4a,d4b⟩:=f6 (c:=c) cell (60+k) 3 (by decide) (by decide) (by lia) (by lia);have C1:md fs (-1)=some (fs.getLast w):=by rw[DI _ w,List.getLast?_eq_getLast w]
   have gl:=hf _ (List.getLast_mem w);have H:=hf f I;generalize fs.getLast w=la at C1 gl;let v:Int:=1+dr c cell (60+k) 3;have hby:1<=v/\v<=3:=by show 1<=1+_/\1+_<=(3:Int);lia
   refine⟨(la.zip f).map λp=>p.1+v*p.2,some (.p (tI f)),some (.p (.int v)),fv ?_ (du (dX (t:=tI f) (dy (x:=.lst (fs.map tI)) (y:=.int (dr c cell (50+k) (fs.length-1))) rfl (gZ (y:=.int (50+(k:Int))) (z:=.int ((fs.length:Int)-1)) rfl (dy rfl rfl (eG _ _)) (dy (x:=.int (fs.length:Int)) (jb rfl (by simp)) rfl (oR _ _)) d3) (by simp[jS,ef])) rfl) (du (dX (t:=.int v) (dy rfl (gZ (y:=.int (60+(k:Int))) rfl (dy rfl rfl (eG _ _)) rfl d4) (eG _ _)) rfl) (kn (ts:=((la.zip f).map λp=>p.1+v*p.2).map T.int) ?_ rfl))),⟨by rw[ax,de,gl.1,H.1];lia,λx P=>?_⟩⟩
   .simp only[L3.m4,N,K,M.bind_ok];have:(r==3)=true:=by simpa using X
    rw[this];simp only[if_true];have:decide (1<(fs.length:Int))=true:=aC (by lia);rw[this]
   .refine h7 (la.zip f) (λp=>T.tup [.int p.1,.int p.2]) (λp=>T.int (p.1+v*p.2)) (rC (l:=la) (m:=f) (f:=T.int) (g:=T.int) (x:=tI la) (dy (x:=.lst (fs.map tI)) (y:=.int (-1)) rfl rfl (by simp[jS,C1])) rfl rfl rfl) (by rw[de,gl.1,H.1];lia) (λp Z=>⟨_,rfl,rfl,dy rfl (dy rfl rfl (gM ?_)) (eG _ _)⟩) (by rw[aI];rfl);show v.natAbs<_;lia
   .obtain⟨p,Z,rfl⟩:=aD.mp P;have L:=gl.2 _ (aW Z).1;have h2:=H.2 _ (aW Z).2;unfold Bn at *;rw[Nat.pow_add];have a1:=cF p.1 (v*p.2);have a2:(v*p.2).natAbs<=3*p.2.natAbs:=by rw[aY];exact Nat.mul_le_mul_right _ (by lia)
    lia
  .refine⟨C,none,none,eR ?_ rfl,g2⟩;simp only[L3.m4,N,K,M.bind_ok];by_cases X:r=3
   .have:(r==3)=true:=by simpa using X
    rw[this];have:decide (1<(fs.length:Int))=false:=aB (by intro z;exact F ⟨X,by lia⟩);rw[this];rfl
   .have:(r==3)=false:=by simpa using X
    rw[this];rfl
 have U:eW (dI (d7 false) (j3 (dk 5) (λ_=>.ok none) (ir (dk 2))) (eQ (Ai (eQ (lstM (dg (cM (.int 0)) dm))) (dk 2)))) (vw (St u D E))=.ok (decide (u.take d=List.replicate d 0)):=by refine d8 (dy (x:=.lst ((u.take d).map T.int)) (y:=.lst ((List.replicate d (0:Int)).map T.int)) ?_ (Gp d (by lia) rfl) (by rw[An];rfl));rw[cB];exact wA (ts:=u.map T.int) rfl rfl
 have GP:∀t,dO (jo (eW (dI (d7 false) (j3 (dk 5) (λ_=>.ok none) (ir (dk 2))) (eQ (Ai (eQ (lstM (dg (cM (.int 0)) dm))) (dk 2))))) (qF 5 (mH (dD (dg (dk 0) (dg (dI fO (cM (.int 60)) (dk 1)) (dg (dk 2) dm))) (dE c))) (mH (cM (.int 1)))) eE) (eI (ia gF (dg (dk 5) dm))) (St u D E)=.rt t->gq c [.int cell,.int k,.int d,.lst (fs.map tI)]=.ok t:=λt ht=>by refine eA rfl (du (dX (t:=.int h) (dy (x:=.lst ([1,2,3,5,1000].map T.int)) (y:=.int (dr c cell 2 5)) (FY rfl rfl rfl rfl rfl) (gZ rfl rfl rfl d1) ew) rfl) (du (kn (ts:=s.map T.int) e0 rfl) (du (dX (t:=.int r) (gZ (y:=.int (40+(k:Int))) rfl (dy rfl rfl (eG _ _)) rfl d2) rfl) (du e1 (du e2 (du e3 ht))))))
 by_cases hz:u.take d=List.replicate d 0
 .obtain⟨d5,d5a,d5b⟩:=f6 (c:=c) cell (60+k) d (by lia) (by lia) (by lia) (by lia);obtain⟨p,Z⟩:∃p:Nat,dr c cell (60+k) d=(p:Int):=⟨(dr c cell (60+k) d).toNat,by lia⟩;rw[Z]at d5 d5b;refine⟨u.set p 1,GP _ (du (ρ':=St (u.set p 1) D E) (fv (by rw[U,aC hz]) (Ab (us:=u.map T.int) (t:=.int 1) (j:=(p:Int)) (m:=p) rfl rfl rfl (gZ (y:=.int (60+(k:Int))) rfl (dy rfl rfl (eG _ _)) rfl d5) (vJ _ _ (by rw[ax,g3.1];lia)) ?_)) (dY rfl)),⟨g3.set p (by have:=hB;exact (Eu (n:=0)).mono (by lia)),p,by lia,?_⟩⟩
  .simp only[St,List.map_set];rfl
  .rw[Dx _ _ _ _ (by rw[g3.1];lia),aQ rfl];decide
 .refine⟨u,GP _ (du (ρ':=St u D E) (eR (by rw[U,aB hz]) rfl) (dY rfl)),⟨g3,?_⟩⟩;refine aO λF=>hz (List.eq_replicate_iff.mpr ⟨by rw[bI,g3.1];lia,λb hb=>?_⟩);obtain⟨i,hi⟩:=List.getElem?_of_mem hb;have Q:i<d:=by have:=(aa.mp hi).1;rw[bI]at this;lia
  refine aO λhb0=>F ⟨i,Q,?_⟩;rw[List.getElem?_take]at hi;rw[aQ Q]at hi;unfold vc;rw[af,hi];exact hb0
noncomputable def iq(a b:LI):Bool:=(List.range a.length).all λk=>(List.range k).all λj=>vc a k*vc b j==vc a j*vc b k
def rV n B a b (w:a.length=n) (N:b.length=n) (L:n<=10) (P:B<=1000) (s:∀x∈a,Bn B x) (r:∀x∈b,Bn B x):gI c [tI a,tI b]=.ok (.bl (iq a b)):=by
 have sz:1000<sizeLine:=by decide
 have i:=lB (m:=jA 2) (λ(k:Nat)=>T.int (k:Int)) (λρ=>∃o d,ρ=[some (.p (tI a)),some (.p (tI b)),o,d]) (λk=>(List.range k).all λj=>vc a k*vc b j==vc a j*vc b k) (.bl false) (List.range n) [some (.p (tI a)),some (.p (tI b)),none,none] ⟨none,none,rfl⟩ (by
  rintro k y ρ ⟨o,d,rfl⟩;have C:=aS.mp y;refine⟨_,rfl,?_⟩;have l:=lB (m:=jA 3) (g:=mQ c) (λ(j:Nat)=>T.int (j:Int)) (λρ=>∃d,ρ=[some (.p (tI a)),some (.p (tI b)),some (.p (.int (k:Int))),d]) (λj=>vc a k*vc b j==vc a j*vc b k) (.bl false) (List.range k) [some (.p (tI a)),some (.p (tI b)),some (.p (.int (k:Int))),d] ⟨d,rfl⟩ (by
   rintro j I ρ ⟨d,rfl⟩;have H:=aS.mp I;have D:=iO a k (by lia);have E:=iO b j (by lia);have K:=iO a j (by lia);have A:=iO b k (by lia);have z:=gU ((s _ (getD_mem a k (by lia))).ok (r _ (getD_mem b j (by lia))) (by lia) (by lia));have J:=gU ((s _ (getD_mem a j (by lia))).ok (r _ (getD_mem b k (by lia))) (by lia) (by lia));have u:eW (dI (d7 true) (dI iR (dI gw (dk 0) (dk 2)) (dI gw (dk 1) (dk 3))) (dI iR (dI gw (dk 0) (dk 3)) (dI gw (dk 1) (dk 2)))) (vw [some (.p (tI a)),some (.p (tI b)),some (.p (.int (k:Int))),some (.p (.int (j:Int)))])=.ok (!(vc a k*vc b j==vc a j*vc b k)):=d8 (dy (dy (dy rfl rfl D) (dy rfl rfl E) z) (dy (dy rfl rfl K) (dy rfl rfl A) J) (lL _ _))
   refine⟨_,rfl,λh=>⟨_,eR (u.trans (by rw[h];rfl)) rfl,_,rfl⟩,λh=>fv (u.trans (by rw[h];rfl)) (dY rfl)⟩)
  have hr:=lA (f:=dk 2) (ρ:=vw [some (.p (tI a)),some (.p (tI b)),some (.p (.int (k:Int))),d]) k (by lia) rfl;refine⟨λh=>?_,λh=>jl hr (l.2 h)⟩;obtain⟨q,e,F,rfl⟩:=l.1 h;exact⟨_,jl hr e,_,_,rfl⟩)
 have hr:=lA (f:=ia gP (dg (dk 0) dm)) (ρ:=vw (ee 4 [tI a,tI b])) n (by lia) (jb (t:=tI a) rfl (by simp[tI,w]));have v:iq a b=((List.range n).all λk=>(List.range k).all λj=>vc a k*vc b j==vc a j*vc b k):=by unfold iq;rw[w]
 cases h:iq a b with
 |true=>obtain⟨q,e,o,d,rfl⟩:=i.1 (by rw[<-v];exact h);exact eA rfl (du (jl hr e) (dY rfl))
 |false=>exact eA rfl (iC (jl hr (i.2 (by rw[<-v];exact h))) rfl)
def GC.mono(h:GC d B ns)(a:B<=B'):GC d B' ns:=⟨h.gl.mono a,h.re⟩
def oT a (o:a.length<=100) (h:∃p,p<a.length/\vc a p≠0):∃p:Nat,gC c [tI a]=.ok (.int (p:Int))/\p<a.length/\vc a p≠0:=by
 obtain⟨q,r,f⟩:=h;obtain⟨b,e,p,rfl,i,l⟩:=ly (c:=eW (dI (d7 false) (dI gw (dk 0) (dk 1)) (cM (.int 0)))) (g:=kg c)
  (λb=>∃k:Nat,b=[some (.p (tI a)),some (.p (.int (k:Int)))]/\k<=q) (λb=>match b with|_::some (.p (.int j))::_=>q-j.toNat|_=>0)
  (λb=>∃k:Nat,b=[some (.p (tI a)),some (.p (.int (k:Int)))]/\k<a.length/\vc a k≠0) (by
   rintro b ⟨k,rfl,hk⟩;have m:gw (tI a) (.int (k:Int))=.ok (.int (vc a k)):=iO a k (by lia);by_cases d:vc a k=0
   .have n:k≠q:=λz=>f (by rw[<-z];exact d);refine .inr ⟨d8 (dy (dy rfl rfl m) rfl (by rw[eC,d];rfl)),_,.inl (dX (dy rfl rfl (by rw[eG];simp)) rfl),⟨k+1,rfl,by lia⟩,?_⟩;show q-(((k+1:Nat):Int)).toNat<q-((k:Int)).toNat;lia
   .exact .inl ⟨d8 (dy (dy rfl rfl m) rfl (by rw[eC];simp[d])),k,rfl,by lia,d⟩)
  ((a.map T.int).length+1) [some (.p (tI a)),some (.p (.int ((0:Nat):Int)))] ⟨0,rfl,by lia⟩ (by rw[ax];lia)
 exact⟨p,eA rfl (du (dX rfl rfl) (du e (dY rfl))),i,l⟩
def pC d B a b (N:d<=3) (Q:B<=1000) (f:GC d B a) (n:GL d B b) (h:iq a b=false):hV c [tI a,tI b]=.ok (.bl false):=by
 have sz:1000<sizeLine:=by decide
 have K:=f.gl.1;have y:=n.1;obtain⟨q,P,l⟩:=f.re;obtain⟨p,C,s,m⟩:=oT a (by lia) ⟨q,by lia,l⟩;have z:=iO b p (by lia);have D:=iO a p s;have J:h8 [none,none,some 1,some 2,some 0] (m6 (dg (dk 0) (dg (dk 1) dm))) (mw 2 (f7 (gR 0) (f7 (gR 1) mm))) (λ_=>.ok true) (lh c) (vw [some (.p (tI a)),some (.p (tI b)),some (.p (.int p))])=.ok (((a.zip b).map λx=>x.1*vc b p==x.2*vc a p).map T.bl):=h7 (a.zip b) (λx=>T.tup [.int x.1,.int x.2]) (λx=>T.bl (x.1*vc b p==x.2*vc a p)) (rC rfl rfl rfl rfl) (by rw[de];lia) (λx o=>⟨_,rfl,rfl,by have I:=f.gl.2 _ (aW o).1;have F:=n.2 _ (aW o).2;have u:=n.2 _ (getD_mem b p (by lia));have w:=f.gl.2 _ (getD_mem a p s);exact dy (dy rfl (dy rfl rfl z) (gU (I.ok u (by lia) (by lia)))) (dy rfl (dy rfl rfl D) (gU (F.ok w (by lia) (by lia)))) (eC _ _)⟩) (by rw[aI];rfl)
 refine eA rfl (du (dX (oy rfl C) rfl) (dY (l4 J ?_)));rw[ky];congr 2;cases r:((a.zip b).map λx=>x.1*vc b p==x.2*vc a p).all id with
 |false=>rfl
 |true=>
  exfalso;rw[b8]at r;have e:=C4.par_of_place m λi t=>by
   have L:(a.zip b)[i]? = some (a[i],b[i]'(by lia)):=by rw[List.getElem?_zip_eq_some];exact⟨ag t,ag (by lia)⟩
   have:=r _ (aD.mpr ⟨_,av L,rfl⟩);have A:a[i]*vc b p=(b[i]'(by lia))*vc a p:=by simpa using this
   show vc a i*vc b p=vc b i*vc a p;rw[jI a i t,jI b i (by lia)];exact A
  have:iq a b=true:=by unfold iq;refine b8.mpr λk v=>b8.mpr λj H=>?_;have g:=aS.mp v;have E:=aS.mp H;have:=e k j g (by lia);simpa[vc] using this
  rw[h]at this;cases this
structure CZ(d B:Nat)(cs:LL):Prop where
 gc:∀f∈cs,GC d B f
 few:cs.length<=7
 pw:cs.Pairwise λa b=>iq a b=false
def yK(h:GC d B ns):kW d (tI ns)=true:=by
 obtain⟨p,e,a⟩:=h.re;have b:=h.gl.1;unfold tI kW;have j:(ns.map T.int).length=d+1:=by simp[b]
 have g:(ns.map T.int).all isInt=true:=b8.mpr λx f=>by obtain⟨y,-,rfl⟩:=aD.mp f;rfl
 show (decide ((ns.map T.int).length=d+1)&&(ns.map T.int).all isInt&&(match iB (ns.map T.int) with|some ns=>(ns.take d).any (· != 0)|none=>false))=true;rw[aC j,g,se];refine cJ.mpr ⟨vc ns p,?_,by simpa using a⟩;rw[jI ns p (by lia)];refine av (i:=p) ?_;rw[List.getElem?_take,aQ e,ag (by lia)]
def rM d B (b:LL) ns (k:1<=d/\d<=3) (r:B<=1000) (v:b.length<7) (p:∀f∈b,GC d B f) (g:GC d B ns) (o:∀f∈b,iq f ns=false):gN c [.int d,.lst (b.map tI),tI ns]=.ok (.bl true):=by
 have sz:1000<sizeLine:=by decide
 have h:=wH (c:=c) d (by lia) (tI ns) rfl λw e=>by cases e;refine⟨by rw[ax,g.gl.1];lia,λt s=>by obtain⟨y,-,rfl⟩:=aD.mp s;rfl⟩
 rw[yK g]at h;have u:h8 [none,some 2] (eT (dk 1)) (gR 0) (λ_=>.ok true) (jT c) (vw (ee 3 [.int d,.lst (b.map tI),tI ns]))=.ok ((b.map λ_=>false).map T.bl):=h7 b tI (λ_=>T.bl false) rfl (by lia) (λf i=>⟨_,rfl,rfl,iu rfl rfl (pC d B f ns k.2 r (p f i) g.gl (o f i))⟩) (by rw[aI];rfl)
 have q:eW (dI Ge (ia gP (dg (dk 1) dm)) (cM (.int 7))) (vw (ee 3 [.int d,.lst (b.map tI),tI ns]))=.ok false:=d8 (dy (x:=.int (b.length:Int)) (jb (t:=.lst (b.map tI)) rfl (by simp)) rfl (by rw[BV];congr 2;exact aB (by lia)))
 have j:eW (dD (dg (dk 0) (dg (dk 2) dm)) (jG c)) (vw (ee 3 [.int d,.lst (b.map tI),tI ns]))=.ok true:=d8 (iu rfl rfl h);refine eA rfl (du (eR ?_ rfl) (dY ?_))
 .simp only[L3.xJ,L3.jr,q,j,M.bind_ok];rfl
 .have m:ia l9 (dg (eQ (h8 [none,some 2] (eT (dk 1)) (gR 0) (λ_=>.ok true) (jT c))) dm) (vw (ee 3 [.int d,.lst (b.map tI),tI ns]))=.ok (.bl false):=by
   refine l4 u ?_;rw[qH];congr 2;induction b with
   |nil=>rfl
   |cons a l ih=>simp
  have n:=d8 m;simp only[zf,n,M.bind_ok];rfl
def uu d B cs (s:1<=d/\d<=3) (A:B<=1000) (h:CZ d B cs):fB c [.int d,.lst (cs.map tI)]=.ok (.tup (cs.map tI)):=by
 have sz:1000<sizeLine:=by decide
 have b:=h.few;obtain⟨r,e,l,rfl⟩:=iw (m:=jA 3) (g:=jZ c) tI
  (λk r=>∃l:Oq W,r=[some (.p (.int d)),some (.p (.lst (cs.map tI))),some (.o ((cs.take k).map tI)),l])
  cs 0 _ ⟨none,rfl⟩ (by
   rintro k a r j ⟨l,rfl⟩;rw[aG];have w:=(aa.mp j).1;have n:=rM (c:=c) d B (cs.take k) a s A (by rw[bI];lia) (λf b=>h.gc f (dc b)) (h.gc a (av j)) λf b=>by have u:=h.pw;rw[<-List.take_append_drop k cs,cZ]at u;refine u.2.2 f b a ?_;refine av (i:=0) ?_;rw[List.getElem?_drop,Nat.add_zero];exact j
   have q:eW (dD (dg (dk 0) (dg (dk 2) (dg (dk 3) dm))) (gN c)) (vw [some (.p (.int d)),some (.p (.lst (cs.map tI))),some (.o ((cs.take k).map tI)),some (.p (tI a))])=.ok true:=d8 (gZ (y:=.lst ((cs.take k).map tI)) (z:=tI a) rfl rfl rfl n);refine⟨_,_,rfl,.inl (du (eR (iS q rfl) rfl) (qW (us:=(cs.take k).map tI) (t:=tI a) rfl (jb (t:=tI a) rfl rfl) (by rw[ax,bI];lia) rfl)),some (.p (tI a)),?_⟩;rw[iz cs k a j,aZ];rfl)
 rw[aG,c6]at e;have x:eW (dD (dg (dk 0) dm) (i5 c)) (vw (ee 4 [.int d,.lst (cs.map tI)]))=.ok true:=d8 (oy rfl (ur d s));have v:eW (mZ "list" (dk 1)) (vw (ee 4 [.int d,.lst (cs.map tI)]))=.ok true:=rfl;refine eA rfl (du (eR ?_ rfl) (du (kn (ts:=[]) (by simp) rfl) (du (jU rfl e) (dY rfl))));simp only[L3.xJ,L3.jr,x,v,M.bind_ok];rfl
noncomputable def g9(c:Cs)(d:Nat)(cs:LL):T:=.obj c.Cutting [("own_cuts",.tup (cs.map tI)),("own_dims",.int d)]
def AY d B cs (b:1<=d/\d<=3) (a:B<=1000) (h:CZ d B cs):fy c [.int d,.lst (cs.map tI)]=.ok (g9 c d cs):=by have e:=uu (c:=c) d B cs b a h;have q:dD (dg (dk 1) (dg (dk 2) dm)) (fB c) (none::[T.int d,.lst (cs.map tI)].map some)=.ok (.tup (cs.map tI)):=iu rfl rfl e;unfold fy qj;rw[aQ (show [T.int d,T.lst (cs.map tI)].length=2 from rfl),q];rfl
def tJ(h:f ρ=.ok (.obj C fs))(a:fs.lookup x=some t):sS C x f ρ=.ok t:=by unfold sS;rw[h,M.bind_ok];show (if C=C then (match fs.lookup x with|some t=>M.ok t|none=>.bad) else .bad)=_;rw[aQ rfl,a]
def BR(d:Nat)(cs:LL){f:Pe->M T}{ρ:Pe}(b:f ρ=.ok (g9 c d cs)):mJ c.Cutting "dims" f dm (fC c) ρ=.ok (.int d):=by
 have e:mG c.Cutting "dims" (g9 c d cs)=.ok ():=by unfold mG g9;exact aQ ⟨rfl,rfl⟩
 have a:fC c [g9 c d cs]=.ok (.int d):=eA rfl (dY (tJ rfl rfl));simp only[mJ,b,M.bind_ok,e,dm,a,M.noEr_ok]
def Bp d cs (b:f ρ=.ok (g9 c d cs)):nE c.Cutting "cuts" f dm (fF c) ρ=.ok (cs.map tI):=by
 have e:mG c.Cutting "cuts" (g9 c d cs)=.ok ():=by unfold mG g9;exact aQ ⟨rfl,rfl⟩
 have a:fF c [g9 c d cs]=.ok (cs.map tI):=ui rfl (vE (by have:sS c.Cutting "own_cuts" (dk 0) (vw (ee 1 [g9 c d cs]))=.ok (.tup (cs.map tI)):=tJ rfl rfl;simp only[zc,dg,dm,this,M.bind_ok];rfl))
 simp only[nE,b,M.bind_ok,e,dm,a,M.noEr_ok]
def uM cell (h:Nat) (E:h<=7):∃(d:Nat) (cs:LL),gE c [.int cell,.int (h:Int)]=.ok (.tup [.int d,.lst (cs.map tI)])/\(1<=d/\d<=3)/\CZ d 30 cs/\cs.length<=h:=by
 have sz:1000<sizeLine:=by decide
 obtain⟨d1,I,L⟩:=f6 cell 0 5 (by decide) (by decide) (by decide) (by decide);obtain⟨Y,ed,u⟩:=vC [1,2,2,3,3] (dr c cell 0 5) I (by simpa using L);obtain⟨d,rfl⟩:∃d:Nat,Y=(d:Int):=⟨Y.toNat,by simp only[aF,cA,or_false]at u;lia⟩;have S:1<=d/\d<=3:=by simp only[aF,cA,or_false]at u;lia
 obtain⟨Q,d2a,K⟩:=f6 (c:=c) cell 1 ((h+1:Nat):Int) (by lia) (by lia) (by decide) (by decide);obtain⟨n,hn⟩:∃n:Nat,dr c cell 1 ((h+1:Nat):Int)=(n:Int):=⟨(dr c cell 1 ((h+1:Nat):Int)).toNat,by lia⟩;rw[hn]at Q K;obtain⟨P,e,cs,D,v,rfl,C,s,w⟩:=iw (m:=jA 4) (g:=ke c) (λ(i:Nat)=>T.int (i:Int))
  (λk P=>∃(cs:LL) (D v:Oq W),P=[some (.p (.int cell)),some (.p (.int (h:Int))),some (.p (.int d)),some (.o (cs.map tI)),D,v]/\cs.length<=k/\(∀f∈cs,GC d (10+2*k) f)/\cs.Pairwise λa b=>iq a b=false)
  (List.range n) 0 _ ⟨[],none,none,rfl,aK _,(λf r=>nomatch r),List.Pairwise.nil⟩ (by
   rintro i k P N ⟨cs,D,v,rfl,C,s,w⟩;rw[aG]at C s ⊢;have J:i<n:=by simpa using (aa.mp N).1
   have A:k=i:=by rw[List.getElem?_range J]at N;cases N;rfl
   subst A;obtain⟨j,en,H⟩:=Cc (c:=c) cell k d (10+2*k) cs (by lia) S (by lia) (by lia) (λf r=>(s f r).gl) (by lia);let R:En:=[some (.p (.int cell)),some (.p (.int (h:Int))),some (.p (.int d)),some (.o (cs.map tI)),some (.p (.int (k:Int))),some (.p (tI j))];have e1:h8 [none,some 5] (eT (dk 3)) (gR 0) (eW (dD (dg (dk 0) (dg (dk 1) dm)) (gI c))) (jc c) (vw R)=.ok ((cs.filter λf=>iq f j).map tI):=ot cs tI tI (λf=>iq f j) rfl (by lia) (λf r=>⟨_,rfl,d8 (iu rfl rfl (rV (c:=c) (d+1) (10+2*k+2) f j (s f r).gl.1 H.gl.1 (by lia) (by lia) (λx Z=>((s f r).gl.2 x Z).mono (by lia)) H.gl.2)),λ_=>rfl⟩) rfl
   have U:eW (dI (d7 false) (eQ (h8 [none,some 5] (eT (dk 3)) (gR 0) (eW (dD (dg (dk 0) (dg (dk 1) dm)) (gI c))) (jc c))) (eQ (lstM dm))) (vw R)=.ok (cs.filter λf=>iq f j).isEmpty:=by refine d8 (dy (x:=.lst ((cs.filter λf=>iq f j).map tI)) (y:=.lst []) (fI e1) (by simp) ?_);rw[nc false _ (by simp) (aN (rW _) (by decide))];simp
   have X:setO 5 (mH (dD (dg (dk 0) (dg (dk 4) (dg (dk 2) (dg (dk 3) dm)))) (gq c))) [some (.p (.int cell)),some (.p (.int (h:Int))),some (.p (.int d)),some (.o (cs.map tI)),some (.p (.int (k:Int))),v]=.nx R:=BG (t:=tI j) (Fu rfl rfl rfl rfl en) (GE j) rfl;by_cases F:(cs.filter λf=>iq f j)=[]
   .refine⟨_,_,rfl,.inl (du X (fv (U.trans (by rw[F];rfl)) (qW (us:=cs.map tI) (t:=tI j) rfl rfl (by simp;lia) rfl))),cs++[j],_,_,by rw[aZ];rfl,by simp;lia,λf r=>?_,cZ.mpr ⟨w,c0 _ _,λf r g B=>?_⟩⟩
    .rcases ai.mp r with q|q
     .exact (s f q).mono (by lia)
     .rw[aj.mp q];exact H.mono (by lia)
    .rw[aj.mp B];cases hs:iq f j with
     |false=>rfl
     |true=>have:f∈cs.filter λf=>iq f j:=aU.mpr ⟨r,hs⟩;rw[F]at this;exact nomatch this
   .refine⟨_,_,rfl,.inl (du X (eR (U.trans (by
     cases hq:(cs.filter λf=>iq f j) with
     |nil=>exact absurd hq F
     |cons a l=>rfl)) rfl)),cs,_,_,rfl,by lia,λf r=>(s f r).mono (by lia),w⟩)
 rw[aG,b9]at C s;refine⟨d,cs,eA rfl (du (dX (t:=.int d) (dy (x:=.lst ([1,2,2,3,3].map T.int)) (y:=.int (dr c cell 0 5)) (FY rfl rfl rfl rfl rfl) (gZ rfl rfl rfl d1) ed) rfl) (du (kn (ts:=[]) (by simp) rfl) (du (jl (lA n (by lia) (gZ (z:=.int ((h+1:Nat):Int)) rfl rfl (dy rfl rfl rfl) Q)) e) (dY (xl rfl rfl))))),S,⟨λf r=>(s f r).mono (by lia),by lia,w⟩,by lia⟩
def rA d us (b:f ρ=.ok (g9 c d us)):mJ c.Cutting "many" f dm (fE c) ρ=.ok (.int us.length):=by
 have e:mG c.Cutting "many" (g9 c d us)=.ok ():=by unfold mG g9;exact aQ ⟨rfl,rfl⟩
 have a:fE c [g9 c d us]=.ok (.int us.length):=eA rfl (dY (jb (tJ rfl rfl) (by simp)));simp only[mJ,b,M.bind_ok,e,dm,a,M.noEr_ok]
end CL
namespace CL
open PySem L2 L3
variable {c:Cs}
def nL(a:List Nat):T:=.lst (a.map λ(k:Nat)=>T.int (k:Int))
def CT so:nL so=tL (so.map λ(k:Nat)=>(k:Int)):=by unfold nL tL;rw[aI];rfl
def qC{a:Type}[Inhabited a](l:List a) f k w (h:k<l.length):gw (.lst (l.map f)) (.int (k:Int))=.ok (f (l.getD k w)):=by have e:=tN (l.map f) k (by rw[ax];exact h);rw[List.getElem_map]at e;show (match md (l.map f) k with|some t=>M.ok t|none=>.bad)=_;rw[e,af,ag h];rfl
def lR(k n:Nat)(h:k<n):d6 c [.int (k:Int),.int (n:Int)]=.ok (.bl true):=by
 have w:∀i:Int,eJ c [.int i]=.ok (.bl true):=λi=>rfl;refine eA rfl (dY ?_);have b:0<=k:=by omega
 have a:k<n:=by omega
 simp[w,b,a]
def nP d cs so (h:∀k∈so,k<cs.length) (nd:so.Nodup) (e:so.length<64):dJ c [g9 c d cs,nL so]=.ok (.bl true):=by
 have sz:1000<sizeLine:=by decide
 have g:h8 [none,some 0] (eT (dk 1)) (gR 0) (λ_=>.ok true) (eM c) (vw (ee 2 [g9 c d cs,nL so]))=.ok ((so.map λ_=>true).map T.bl):=h7 so (λ(k:Nat)=>T.int (k:Int)) (λ_=>T.bl true) rfl (by omega) (λk f=>⟨_,rfl,rfl,iu rfl (rA d cs rfl) (lR k _ (h k f))⟩) (by rw[aI];rfl)
 refine eA rfl (du (eR (iS (d8 rfl) rfl) rfl) (du (eR (iS (d8 (b:=true) (l4 g (by rw[ky];simp))) rfl) rfl) (dY ?_)));have i:zK (dg (dk 1) dm) (vw (ee 2 [g9 c d cs,nL so]))=.ok (.int (so.length:Int)):=by
  have:E4 [tL (so.map λ(k:Nat)=>(k:Int))]=.ok (.int (so.length:Int)):=by unfold E4 tL;simp only[wq];have a:(so.map λ(k:Nat)=>(k:Int)).Nodup:=c9.mpr (nd.imp λq z=>q (by omega));rw[aQ (by rw[ax];exact e),xB a,ax]
  rw[<-CT]at this;simp only[zK,dg,dm,M.bind_ok];exact this
 refine dy (y:=.int (so.length:Int)) i (jb rfl (by simp[nL])) ?_;rw[eC];simp
def lY m A u:j6 m A u=j6 m u A:=by unfold j6;exact gd _ _ _ λi _=>cw _ _
def Eh n k f (a:k<n) (h:∀i,i<n->i≠k->f i=0):sm n f=f k:=by
 rw[<-Ay n k f a];exact gd _ _ _ λi b=>by
  by_cases e:i=k
  .rw[aQ e];simp
  .rw[aR e,h i b e];simp
def sL{d:Nat}{v:Vc}:∀(os:List (Nat×LI)),(∀p∈os,p.1<d/\vc p.2 p.1≠0)->os.Pairwise (λp q=>vc q.2 p.1=0)->(∀p∈os,j6 d (vc p.2) v=0)->(∀i,i∉os.map Prod.fst->v i=0)->∀p∈os,v p.1=0:=λos=>by
 induction h:os.length generalizing os v with
 |zero=>have:os=[]:=List.length_eq_zero_iff.mp h;subst this;intro _ _ _ _ p a;cases a
 |succ n ih=>
  intro g f j k;rcases List.eq_nil_or_concat os with e|⟨l,x,e⟩
  .subst e;cases h
  .rw[List.concat_eq_append]at e;subst e;rw[cZ]at f;have b:x∈l++[x]:=by simp
   have m:v x.1=0:=by
    have e:=j x b;unfold j6 at e;rw[Eh d x.1 _ (g x b).1 λi o ne=>by
     by_cases q:i∈(l++[x]).map Prod.fst
     .rw[aZ,ai]at q;rcases q with q|q
      .obtain⟨p,a,rfl⟩:=aD.mp q;rw[f.2.2 p a x (by simp)];exact cR _
      .simp at q;exact absurd q ne
     .rw[k i q];exact cV _]at e
    exact xD (g x b).2 e
   have r:=ih (v:=v) l (by simpa using h) (λp a=>g p (by simp[a])) f.1 (λp a=>j p (by simp[a])) (λi o=>by
    by_cases q:i=x.1
    .rw[q];exact m
    .refine k i λz=>?_;rw[aZ,ai]at z;rcases z with z|z
     .exact o z
     .simp at z;exact q z)
   intro p a;rcases ai.mp a with q|q
   .exact r p q
   .rw[aj.mp q];exact m
def jf{P:Vc->Prop}{z v:Vc}{m:Nat}(q:Qs P z)(h:∀x,P x->j6 m x v=0):j6 m z v=0:=by
 induction q with
 |of p=>exact h _ p
 |zero=>rw[lY];unfold j6;rw[gd m _ (λ_=>0) λi _=>cV _];exact kM m
 |lin _ _ hs e i1 i2=>have:=vT (m:=m) (A:=v) e;rw[lY m v,lY m v,lY m v,i1,i2,cV,cV]at this;exact xD hs (by lia)
def EB{vs:LL}(h:xN vs m n ah):(ah.map Prod.fst).Nodup:=by rw[List.Nodup,c9];refine h.tri.imp_of_mem λ{p q} _ hq e z=>h.nz q hq ?_;rw[<-z];exact e
def oM{vs:LL}(h:xN vs m vs.length ah)(e:List Vc)(k:∀v:Vc,(∀A∈e,j6 m A v=0)->∀r∈vs,j6 m (vc r) v=0):ah.length<=e.length:=by
 refine bS λf=>?_;have lt:∀p∈ah,p.1<m/\vc p.2 p.1≠0:=λp a=>⟨(qk h.bd a).1,h.nz p a⟩;obtain⟨v,⟨j,g⟩,b,l⟩:=l8 m e (ah.map Prod.fst) (EB h) (λt i=>by obtain⟨p,a,rfl⟩:=aD.mp i;exact (lt p a).1) (by rw[ax];exact f)
 have z:=sL ah lt h.tri (λp a=>jf (h.ps p a) λx ⟨w,hw,ex⟩=>by rw[ex];exact k v l w (dc hw)) b;have d:j∈ah.map Prod.fst:=aO λz=>g (b j z);obtain⟨p,a,rfl⟩:=aD.mp d;exact g (z p a)
def sY(d:Nat)(u:LI)(v:Vc):j6 d (vc (u.take d)) v=j6 d (vc u) v:=gd _ _ _ λi a=>by unfold vc;rw[af,List.getElem?_take_of_lt a,<-af]
def BH{i j:Nat}{ρ ρ':En}{a:Pe->M T}{ts us:List T}{k:Nat}{y:T}(g:ρ[i]? = some (some (.o ts)))(f:ρ[j]? = some (some (.o us)))(b:a (vw ρ)=.ok (.int (k:Int)))(e:us[k]? = some y)(k1:k<1000)(h:i≠j)(l:ts.length<sizeLine)(hr:ρ'=(ρ.set j (some (.o (us.eraseIdx k)))).set i (some (.o (ts++[y])))):pX i j (mH a) ρ=.nx ρ':=by
 unfold pX iK mH;rw[g,f,b];have d:(0:Int)<=(k:Int):=by omega
 have m:(k:Int)<1000:=by omega
 have n:(k:Int).toNat=k:=by omega
 simp[d,m,h,l,e,hr]
theorem zD{b d:Type}(f:b->d):∀(l:List b) (k:Nat),(l.map f).eraseIdx k=(l.eraseIdx k).map f
 |[],_=>rfl
 |_::_,0=>rfl
 |a::l,k+1=>by show f a::(l.map f).eraseIdx k=f a::(l.eraseIdx k).map f;rw[zD f l k]
theorem vf{b:Type}:∀(l:List b) (q:Nat) (h:q<l.length),(l[q]::l.eraseIdx q).Perm l
 |_::_,0,_=>List.Perm.refl _
 |a::l,q+1,h=>((List.Perm.swap a _ _).trans ((vf l q (by simpa using h)).cons a))
def Ar{m:Nat}{os:List (Nat×LI)}(lt:∀p∈os,p.1<m/\vc p.2 p.1≠0)(tri:os.Pairwise λp q=>vc q.2 p.1=0)(f:List Vc)(k:∀v:Vc,(∀A∈f,j6 m A v=0)->∀p∈os,j6 m (vc p.2) v=0):os.length<=f.length:=by
 refine bS λd=>?_;have nd:(os.map Prod.fst).Nodup:=by rw[List.Nodup,c9];exact tri.imp_of_mem λ{p q} _ hq e z=>(lt q hq).2 (by rw[<-z];exact e)
 obtain⟨v,⟨j,h⟩,a,i⟩:=l8 m f (os.map Prod.fst) nd (λt l=>by obtain⟨p,g,rfl⟩:=aD.mp l;exact (lt p g).1) (by rw[ax];exact d)
 have z:=sL os lt tri (k v i) a;have b:j∈os.map Prod.fst:=aO λz=>h (a j z);obtain⟨p,g,rfl⟩:=aD.mp b;exact h (z p g)
def jD{vs:LL}{m:Nat}{a os:List (Nat×LI)}(h:xN vs m vs.length a)(lt:∀p∈os,p.1<m/\vc p.2 p.1≠0)(tri:os.Pairwise λp q=>vc q.2 p.1=0)(d:∀v:Vc,(∀r∈vs,j6 m (vc r) v=0)->∀p∈os,j6 m (vc p.2) v=0):os.length<=a.length:=by
 have:=Ar lt tri (a.map λp=>vc p.2) λv b=>d v λr hr=>jf (h.sp r (by rw[c6];exact hr)) λx ⟨p,hp,ex⟩=>by rw[ex];exact b _ (aD.mpr ⟨p,hp,rfl⟩)
 rw[ax]at this;exact this
section
variable {d B:Nat}{rows rs:LL}{pv ah ah0:List (Nat×LI)}
def PP.tri(h:PP d B rows pv rs):pv.Pairwise λp q=>vc q.2 p.1=0:=h.pw.imp λq=>q.2.1
def Ak(h:PP d B rows pv rs)(j:xN (rows.map (·.take d)) d (rows.map (·.take d)).length ah0):ah0.length=pv.length:=by
 refine df ?_ ?_
 .have:=oM j (pv.map λp=>vc p.2) λv f r hr=>by
   obtain⟨r,g,rfl⟩:=aD.mp hr;rw[sY];refine jf (h.sp r g) λx l=>?_;rcases l with⟨p,a,b⟩|⟨k,e,b⟩
   .rw[b];exact f _ (aD.mpr ⟨p,a,rfl⟩)
   .rw[b];unfold j6;rw[gd d _ (λ_=>0) λi m=>by rw[(h.rr k e).2.1 i m,cR]];exact kM d
  rw[ax]at this;exact this
 .exact jD j (λp a=>⟨(h.pl p a).1,(h.pl p a).2.2.1⟩) h.tri λv f p a=>jf (h.pl p a).2.2.2.2 λx ⟨r,hr,b⟩=>by rw[b,<-sY];exact f _ (aD.mpr ⟨r,hr,rfl⟩)
def yr(h:PP d B rows pv rs)(l:∀r∈rs,vc r d=0)(j:xN rows (d+1) rows.length ah):ah.length=pv.length:=by
 refine df ?_ (jD j (λp a=>⟨by have:=(h.pl p a).1;lia,(h.pl p a).2.2.1⟩) h.tri λv f p a=>jf (h.pl p a).2.2.2.2 λx ⟨r,hr,e⟩=>by rw[e];exact f r hr);have:=oM j (pv.map λp=>vc p.2) λv f r hr=>jf (h.sp r hr) λx k=>by
  rcases k with⟨p,a,e⟩|⟨g,b,e⟩
  .rw[e];exact f _ (aD.mpr ⟨p,a,rfl⟩)
  .rw[e];unfold j6;rw[gd (d+1) _ (λ_=>0) λi m=>by
    have:vc g i=0:=by
     by_cases z:i<d
     .exact (h.rr g b).2.1 i z
     .rw[show i=d by lia];exact l g b
    rw[this,cR]];exact kM _
 rw[ax]at this;exact this
def xx(h:PP d B rows pv rs){r:LI}(hr:r∈rs)(g:vc r d≠0)(f:xN rows (d+1) rows.length ah):pv.length<ah.length:=by
 have:=jD (os:=pv++[(d,r)]) f (λp a=>by
  rcases ai.mp a with q|q
  .exact⟨by have:=(h.pl p q).1;lia,(h.pl p q).2.2.1⟩
  .rw[aj.mp q];exact⟨by lia,g⟩) (cZ.mpr ⟨h.tri,c0 _ _,λp a q e=>by rw[aj.mp e];exact (h.rr r hr).2.1 _ (h.pl p a).1⟩) λv b p a=>by
  rcases ai.mp a with q|q
  .exact jf (h.pl p q).2.2.2.2 λx ⟨r,hr,ex⟩=>by rw[ex];exact b r hr
  .rw[aj.mp q];exact jf (h.rr r hr).2.2 λx ⟨r,hr,ex⟩=>by rw[ex];exact b r hr
 simp at this;lia
def yf(h:PP d B rows pv rs)(L:∀r∈rs,vc r d=0){u left:LI}{g s:Int}{y:Vc}(J:0<g)(Q:0<s)(t:Qs (rT pv) y)(e:∀i,g*vc left i=s*vc u i+1*y i)(I:∀p∈pv,vc left p.1=0)(N:left.length=d+1)
  (C:xN (rows++[u]) (d+1) (rows++[u]).length ah):ah.length=pv.length↔∀i,vc left i=0:=by
 have D:∀p∈pv,Qs (VP (rows++[u])) (vc p.2):=λp f=>kG (h.pl p f).2.2.2.2;have k:∀{x:Vc} {v:Vc},Qs (VP (rows++[u])) x->(∀r∈rows++[u],j6 (d+1) (vc r) v=0)->j6 (d+1) x v=0:=λq j=>jf q λx ⟨r,hr,m⟩=>by rw[m];exact j r hr
 have w:=jD C (λp f=>⟨by have:=(h.pl p f).1;lia,(h.pl p f).2.2.1⟩) h.tri λv j p f=>k (D p f) j;constructor
 .intro P i;refine aO λH=>?_;have F:i<d+1:=aO λz=>H (iQ left i (by lia));have:=jD (os:=pv++[(i,left)]) C (λp f=>by
   rcases ai.mp f with q|q
   .exact⟨by have:=(h.pl p q).1;lia,(h.pl p q).2.2.1⟩
   .rw[aj.mp q];exact⟨F,H⟩) (cZ.mpr ⟨h.tri,c0 _ _,λp f q K=>by rw[aj.mp K];exact I p f⟩) λv j p f=>by
   rcases ai.mp f with q|q
   .exact k (D p q) j
   .rw[aj.mp q];exact k (nt h J t e) j
  simp at this;lia
 .intro l;refine df ?_ w;have:=oM C (pv.map λp=>vc p.2) λv j r hr=>by
   have E:∀x,rT pv x->j6 (d+1) x v=0:=λx ⟨p,f,m⟩=>by rw[m];exact j _ (aD.mpr ⟨p,f,rfl⟩)
   rcases ai.mp hr with q|q
   .refine jf (h.sp r q) λx o=>?_;rcases o with o|⟨A,n,m⟩
    .exact E x o
    .rw[m];unfold j6;rw[gd (d+1) _ (λ_=>0) λi F=>by
      have:vc A i=0:=by
       by_cases z:i<d
       .exact (h.rr A n).2.1 i z
       .rw[show i=d by lia];exact L A n
      rw[this,cR]];exact kM _
   .rw[aj.mp q];refine jf (.lin (s:=s) (a:=-1) (b:=0) (z:=vc u) t t (by lia) λi=>?_) E;have:=e i;rw[l i]at this;lia
  rw[ax]at this;exact this
end
def w5(h:f ρ=.ok (.lst ts)):nK (dg f dm) ρ=.ok (ll ts):=by simp only[nK,dg,dm,h,M.bind_ok];rfl
def xT ns:l9 [tI ns]=.ok (.bl (ns.any λx=>x != 0)):=by simp only[tI,l9,lH,tV];rw[b7];rfl
abbrev mI(k:Nat):T:=.int (k:Int)
def km(cs:LL)(a:List Nat):LL:=a.map λz=>cs.getD z []
def nj(l:LL)(k:Nat)(h:k<l.length):l.getD k []∈l:=by rw[af,ag h];exact aV h
def C0{d:Nat}(e:1<=d/\d<=3):HJ d 30:=by
 have a:d=1\/d=2\/d=3:=by lia
 refine⟨by decide,λk b=>?_,?_⟩
 .have:k=0\/k=1\/k=2\/k=3:=by lia
  rcases this with rfl|rfl|rfl|rfl<;>decide
 .rcases a with rfl|rfl|rfl<;>decide
def vy{d:Nat}{cs:LL}{a:List Nat}(e:CZ d 30 cs)(b:∀z∈a,z<cs.length):∀u∈km cs a,u.length=d+1/\∀x∈u,Bn 30 x:=λu f=>by obtain⟨z,h,rfl⟩:=aD.mp f;have g:=nj cs z (b z h);exact (e.gc _ g).gl
def uh{cs:LL}{a:List Nat}(f:∀z∈a,z<cs.length)(d:a.length<=8){b:Pe->M (List T)}{ρ:Pe}{j:Nat}{e:Pe->M T}(g:e=dI gw (dk 1) (dk 0))(k:b ρ=.ok (a.map mI))(i:ρ[j]? = some (some (.lst (cs.map tI)))) :
  h8 [none,some j] b (gR 0) (λ_=>.ok true) e ρ=.ok ((km cs a).map tI):=by
 have sz:1000<sizeLine:=by decide
 subst g;exact h7 a mI (λz=>tI (cs.getD z [])) k (by lia) (λz h=>⟨[some (mI z),some (.lst (cs.map tI))],by simp[i],rfl,dy rfl rfl (qC cs tI z [] (f z h))⟩) (by simp[km])
def BX{d:Nat}{cs q:LL}{n:List Nat}{pv:List (Nat×LI)}(m:1<=d/\d<=3)(l:CZ d 30 cs)(h:PP d 30 (km cs n) pv q):∃f:LI->LI,∀u∈cs,fU c [tI u,.lst (pv.map jj)]=.ok (tI (f u))/\(f u).length=d+1/\(∃g s y,0<g/\0<s/\Qs (rT pv) y/\∀i,g*vc (f u) i=s*vc u i+1*y i)/\∀p∈pv,vc (f u) p.1=0:=by
 refine mB (P:=λ(u r:LI)=>fU c [tI u,.lst (pv.map jj)]=.ok (tI r)/\r.length=d+1/\(∃g s y,0<g/\0<s/\Qs (rT pv) y/\∀i,g*vc r i=s*vc u i+1*y i)/\∀p∈pv,vc r p.1=0) cs λu x=>?_;have a:=(l.gc u x).gl;obtain⟨r,e,o,_,t,j⟩:=sJ (c:=c) (rT pv) (d+1) (Pq 30 pv.length) 30 (by lia) pv u ((C0 m).le _ h.short) a.1 a.2 (λp b=>by obtain⟨z,k,v,w,_⟩:=h.pl p b;exact⟨by lia,k,v,w,p,b,rfl⟩) h.tri
 exact⟨r,e,o,t,j⟩
noncomputable def zh(d:Nat)(cs:LL)(pv:List (Nat×LI))(f:LI->LI):T:=.tup [.int ((d:Int)-(pv.length:Int)),.tup (((List.range cs.length).filter λk=>!(f (cs.getD k [])).any (· != 0)).map mI)]
theorem uI{d:Nat}{cs:LL}{b:List Nat}(j:1<=d/\d<=3)(e:CZ d 30 cs)(n:∀z∈b,z<cs.length)(v:b.length<=7){S:T}(I:seqT S=.ok (b.map mI)):∃pv a f,PP d 30 (km cs b) pv a/\
  (∀u∈cs,(f u).length=d+1/\(∃g s y,0<g/\0<s/\Qs (rT pv) y/\∀i,g*vc (f u) i=s*vc u i+1*y i)/\∀p∈pv,vc (f u) p.1=0)/\
  iF c [.lst (cs.map tI),.int d,S]=.ok (if a.any (λr=>r.any (· != 0)) then .non else zh d cs pv f):=by
 have sz:1000<sizeLine:=by decide
 have N:=e.few;obtain⟨pv,a,D,h,F⟩:=BU (c:=c) (km cs b) d 30 (by lia) (by simp[km];lia) (vy e n) (C0 j);obtain⟨f,o⟩:=BX (c:=c) j e h;refine⟨pv,a,f,h,λu J=>(o u J).2,?_⟩;have C:=h.short;let w:T:=.tup [.lst (pv.map jj),.lst (a.map tI)];let R (A E:Oq W):En:=[some (.p (.lst (cs.map tI))),some (.p (.int (d:Int))),some (.p S),some (.p w),A,E];have m:eW (ia l9 (dg (eQ (h8 [none] (eT (dI gw (dk 3) (cM (.int 1)))) (gR 0) (λ_=>.ok true) (oq c))) dm)) (vw (R none none))=.ok (a.any λr=>r.any (· != 0)):=by refine d8 (l4 (ts:=(a.map λr=>r.any (· != 0)).map T.bl) (h7 a tI (λr=>T.bl (r.any (· != 0))) (tz (dy rfl rfl rfl)) (by lia) (λr hr=>⟨_,rfl,rfl,jb rfl (xT r)⟩) (by simp)) ?_);rw[qH,b7];rfl
 have B:h8 [none,none,some 4] (nK (dg (dk 0) dm)) (mw 2 (f7 (gR 0) (f7 (gR 1) mm))) (L3.jr (eW (ia l9 (dg (dD (dg (dk 1) (dg (dk 2) dm)) (fU c)) dm)))) (nF c) (mS (R (some (.p (.lst (pv.map jj)))) none))=.ok (((List.range cs.length).filter λk=>!(f (cs.getD k [])).any (· != 0)).map mI):=by
  refine ot (List.range cs.length) (λk=>T.tup [mI k,tI (cs.getD k [])]) mI (λk=>!(f (cs.getD k [])).any (· != 0)) ?_ (by simp;lia) (λk q=>⟨[some (mI k),some (tI (cs.getD k [])),some (.lst (pv.map jj))],rfl,iS (d8 (jb (iu rfl rfl (o _ (nj cs k (aS.mp q))).1) (xT _))) rfl,λ_=>rfl⟩) rfl;rw[w5 (ts:=cs.map tI) rfl];congr 1;refine List.ext_getElem (by simp[ll]) λi L H=>?_;have K:i<cs.length:=by simpa using H
  simp[ll,K]
 refine eA rfl (du (ρ':=R none none) (dX (iu (fI (uh n (by lia) rfl (by show eT (dk 2) _=_;simp only[eT];exact I) rfl)) rfl D) rfl) ?_);cases l:a.any λr=>r.any (· != 0) with
 |true=>exact iC (fv (by rw[m,l]) (dY rfl)) rfl
 |false=>refine du (eR (by rw[m,l]) rfl) (du (ρ':=R (some (.p (.lst (pv.map jj)))) none) (dX (dy rfl rfl rfl) rfl) (du (dX (fI B) rfl) (dY ?_)));exact xl (dy (x:=.int (d:Int)) (y:=.int (pv.length:Int)) rfl (jb (t:=.lst (pv.map jj)) rfl (by simp)) rfl) (jb rfl rfl)
def rz{l:LI}:(l.any (· != 0))=false↔∀i,vc l i=0:=by
 constructor
 .intro h i;by_cases a:i<l.length
  .rw[jI l i a];have:=bA.mp h l[i] (aV a);simpa using this
  .exact iQ l i (by lia)
 .intro h;refine bA.mpr λx b=>?_;obtain⟨i,a,rfl⟩:=List.getElem_of_mem b;have:=h i;rw[jI l i a]at this;simp[this]
theorem tm{d:Nat}{cs K:LL}{e:List Nat}{pv:List (Nat×LI)}{f:LI->LI}(hd:1<=d/\d<=3)(hg:CZ d 30 cs)(H:∀z∈e,z<cs.length)(hzl:e.length<=7){S:T}(hS:seqT S=.ok (e.map mI))(h:PP d 30 (km cs e) pv K)
  (hf:∀u∈cs,(f u).length=d+1/\(∃g s y,0<g/\0<s/\Qs (rT pv) y/\∀i,g*vc (f u) i=s*vc u i+1*y i)/\∀p∈pv,vc (f u) p.1=0) :
  oa c [.int d,.lst (cs.map tI),S]=.ok (if K.any (λr=>r.any (· != 0)) then .non else zh d cs pv f):=by
 have sz:1000<sizeLine:=by decide
 have hn:=hg.few;have n:=vy hg H;have I:(km cs e).length=e.length:=by simp[km]
 have w:∀{u:LI} {m:Nat},u.length=m/\(∀x∈u,Bn 30 x)->u.length=m/\∀x∈u,Bn 50 x:=λq=>⟨q.1,λx B=>(q.2 x B).mono (by decide)⟩;have A:∀k,k<cs.length->(cs.getD k []).length=d+1/\∀x∈cs.getD k [],Bn 30 x:=λk C=>(hg.gc _ (nj cs k C)).gl;obtain⟨j,ea,ka⟩:=ki (c:=c) (d+1) (km cs e) (by lia) (by lia) λv F=>w (n v F);obtain⟨ah0,e0,k0⟩:=ki (c:=c) d ((km cs e).map (·.take d)) (by lia) (by rw[ax];lia) λv F=>by obtain⟨u,hu,rfl⟩:=aD.mp F;have q:=n u hu;exact w ⟨by rw[bI,q.1];lia,λx B=>q.2 x (dc B)⟩
 have Y:=Ak h k0;let R (x3 x4:Oq W):En:=[some (.p (.int (d:Int))),some (.p (.lst (cs.map tI))),some (.p S),x3,x4];have l:∀{g:Pe->M T} {ρ:Pe},g ρ=.ok S->eT g ρ=.ok (e.map mI):=λ{g ρ} q=>by have:eT g ρ=(g ρ).bind seqT:=rfl;rw[this,q];exact hS
 have er:h8 [none,some 1,some 0] (eT (dk 2)) (gR 0) (λ_=>.ok true) (j8 c) (vw (R (some (.p (.int (j.length:Int)))) none))=.ok (((km cs e).map (·.take d)).map tI):=h7 e mI (λz=>tI ((cs.getD z []).take d)) (l rfl) (by lia) (λz J=>⟨[some (mI z),some (.lst (cs.map tI)),some (.int (d:Int))],rfl,rfl,by have q:=A z (H z J);have:=nV (ρ:=[some (mI z),some (.lst (cs.map tI)),some (.int (d:Int))]) (fe:=dI gw (dk 1) (dk 0)) (fd:=dk 2) (ts:=(cs.getD z []).map T.int) (d:=d) (dy rfl rfl (qC cs tI z [] (H z J))) rfl (by rw[ax,q.1];lia);rw[<-cB]at this;exact this⟩) (by simp[km])
 have c1:eW (dI (d7 true) (dD (dg (eQ (h8 [none,some 1,some 0] (eT (dk 2)) (gR 0) (λ_=>.ok true) (j8 c))) dm) (d9 c)) (dk 3)) (vw (R (some (.p (.int (j.length:Int)))) none))=.ok (!((pv.length:Int)==(j.length:Int))):=by refine d8 (dy (x:=.int (pv.length:Int)) (y:=.int (j.length:Int)) (oy (fI er) (by rw[e0,Y])) rfl ?_);rw[lL]
 refine eA rfl (du (ρ':=R (some (.p (.int (j.length:Int)))) none) (dX (oy (fI (uh H (by lia) rfl (l rfl) rfl)) ea) rfl) ?_);cases hc:K.any λr=>r.any (· != 0) with
 |true=>
  obtain⟨r,hr,ha⟩:=cJ.mp hc;have Q:vc r d≠0:=λz=>by
   have:(r.any (· != 0))=false:=rz.mpr λi=>by
    by_cases hi:i<d
    .exact (h.rr r hr).2.1 i hi
    .by_cases hi':i=d
     .rw[hi'];exact z
     .exact iQ r i (by rw[(h.rr r hr).1];lia)
   rw[this]at ha;cases ha
  have m:=xx h hr Q ka;have U:((pv.length:Int)==(j.length:Int))=false:=beq_eq_false_iff_ne.mpr (by lia);exact iC (fv (by rw[c1,U];rfl) (dY rfl)) rfl
 |false=>
  have E:∀r∈K,vc r d=0:=λr hr=>by have:=bA.mp hc r hr;exact rz.mp (by simpa using this) d
  have al:=yr h E ka;have P:((pv.length:Int)==(j.length:Int))=true:=beq_iff_eq.mpr (by lia);have ek:∀k,k<cs.length->∃L:Nat,d9 c [.lst ((km cs e++[cs.getD k []]).map tI)]=.ok (.int (L:Int))/\decide (L=j.length)=!(f (cs.getD k [])).any (· != 0):=λk C=>by
   obtain⟨ak,N,k1⟩:=ki (c:=c) (d+1) (km cs e++[cs.getD k []]) (by lia) (by rw[aT,bQ];lia) λv F=>by
    rcases ai.mp F with q|q
    .exact w (n v q)
    .rw[aj.mp q];exact w (A k C)
   obtain⟨fl,⟨g,s,y,X,Z,hy,ey⟩,fz⟩:=hf _ (nj cs k C);have o:=yf h E X Z hy ey fz fl k1;refine⟨ak.length,N,?_⟩;rw[al];cases B:(f (cs.getD k [])).any (· != 0) with
   |false=>exact aC (o.mpr (rz.mp B))
   |true=>exact aB λz=>by rw[rz.mpr (o.mp z)]at B;cases B
  have e4:h8 [none,some 3,some 1,some 2] (ip (dg (ia gP (dg (dk 1) dm)) dm)) (gR 0) (eW (dI (d7 false) (dD (dg (eQ (qM (eQ (h8 [none,some 2] (eT (dk 3)) (gR 0) (λ_=>.ok true) (mO c))) (eQ (lstM (dg (dI gw (dk 2) (dk 0)) dm))))) dm) (d9 c)) (dk 1))) (mV c) (mS (R (some (.p (.int (j.length:Int)))) none))=.ok (((List.range cs.length).filter λk=>!(f (cs.getD k [])).any (· != 0)).map mI):=by refine ot (List.range cs.length) mI mI (λk=>!(f (cs.getD k [])).any (· != 0)) (lA cs.length (by lia) (jb (t:=.lst (cs.map tI)) rfl (by simp))) (by simp;lia) (λk C=>⟨[some (mI k),some (.int (j.length:Int)),some (.lst (cs.map tI)),some S],rfl,?_,λ_=>rfl⟩) rfl;have D:=aS.mp C;obtain⟨L,N,e2⟩:=ek k D;refine d8 (dy (x:=.int (L:Int)) (y:=.int (j.length:Int)) (oy (fI (qL (a:=(km cs e).map tI) (b:=[tI (cs.getD k [])]) (fI (uh H (by lia) rfl (l rfl) rfl)) (GJ (dy rfl rfl (qC cs tI k [] D))) (by simp[I];lia))) (by rw[aZ]at N;exact N)) rfl ?_);rw[eC,<-e2];congr 2;rw[bx];simp;exact Int.ofNat_inj
  refine du (eR (by rw[c1,P];rfl) rfl) (du (dX (fI e4) rfl) (dY ?_));exact xl (dy (x:=.int (d:Int)) (y:=.int (j.length:Int)) rfl rfl (by rw[al];rfl)) (jb rfl rfl)
def Ga{a:En->O}(h:t (vw ρ)=.ok true):dO (jo t (λ_=>.er C none) eE) a ρ=.er C none:=by unfold dO jo;rw[h];rfl
section
variable {d:Nat}{cs:LL}{th:T}
def Cw(h:f (mS ρ)=.er C none):qm (f9 f) ρ=.er C none:=by unfold qm f9;rw[h];rfl
end
def rg i (n:Nat) (h:i<0\/(n:Int)<=i):d6 c [.int i,.int (n:Int)]=.ok (.bl false):=by
 have w:∀i:Int,eJ c [.int i]=.ok (.bl true):=λi=>rfl;refine eA rfl (dY ?_);by_cases a:0<=i
 .have b:¬i<(n:Int):=by omega
  simp[w,a,b]
 .simp[w,a]
def vk{cs:LL}(m:ts.length<=20)(h:∀t∈ts,∃b,d6 c [t,.int (cs.length:Int)]=.ok (.bl b))(i:∃t∈ts,d6 c [t,.int (cs.length:Int)]=.ok (.bl false)):dJ c [g9 c d cs,.lst ts]=.ok (.bl false):=by
 have sz:1000<sizeLine:=by decide
 obtain⟨f,e⟩:=mB (P:=λ(t:T) (b:Bool)=>d6 c [t,.int (cs.length:Int)]=.ok (.bl b)) ts h;have k:h8 [none,some 0] (eT (dk 1)) (gR 0) (λ_=>.ok true) (eM c) (vw (ee 2 [g9 c d cs,.lst ts]))=.ok ((ts.map f).map T.bl):=h7 ts (λt=>t) (λt=>T.bl (f t)) (by rw[List.map_id'];rfl) (by omega) (λt a=>⟨_,rfl,rfl,iu rfl (rA d cs rfl) (e t a)⟩) (by simp)
 have j:(ts.map f).all id=false:=by
  obtain⟨t,a,g⟩:=i;have l:f t=false:=by have:=e t a;rw[g]at this;injection this with this;injection this with this;exact this.symm
  rw[List.all_eq_false];exact⟨false,aD.mpr ⟨t,a,l⟩,by decide⟩
 exact eA rfl (du (eR (iS (d8 (b:=true) rfl) rfl) rfl) (iC (t:=.bl false) (fv (iS (d8 (b:=false) (l4 k (by rw[ky];exact congrArg (λb=>M.ok (T.bl b)) j))) rfl) (dY rfl)) rfl))
def DD:(PyData.str "number").canLay0=true:=by rw[PyData.canLay0];decide +kernel
def Iq a (b:(PyData.str a).canLay0=true):d7 true (.str a) (.str a)=.ok (.bl false):=by simp[d7,lE,kr,b]
def AB(d:Nat)(cs:LL):dJ c [g9 c d cs,.lst [.int 0,.int 0]]=.ok (.bl false):=by
 by_cases h:cs.length=0
 .have e:d6 c [.int 0,.int (cs.length:Int)]=.ok (.bl false):=rg 0 cs.length (.inr (by omega));exact vk (by simp) (λt a=>by simp at a;subst a;exact⟨_,e⟩) ⟨.int 0,by simp,e⟩
 .have sz:1000<sizeLine:=by decide
  have f:d6 c [.int 0,.int (cs.length:Int)]=.ok (.bl true):=lR 0 cs.length (by omega);have g:h8 [none,some 0] (eT (dk 1)) (gR 0) (λ_=>.ok true) (eM c) (vw (ee 2 [g9 c d cs,.lst [.int 0,.int 0]]))=.ok ([true,true].map T.bl):=h7 [(),()] (λ_=>T.int 0) (λ_=>T.bl true) rfl (by simp;omega) (λk i=>⟨_,rfl,rfl,iu rfl (rA d cs rfl) f⟩) rfl
  exact eA rfl (du (eR (iS (d8 (b:=true) rfl) rfl) rfl) (du (eR (iS (d8 (b:=true) (l4 g (by rw[ky];rfl))) rfl) rfl) (dY rfl)))
def EL(n:Nat)(a:n<=1000)(h:f ρ=.ok (.int (n:Int))):Fw (dg f dm) ρ=.ok ((List.range n).map λ(k:Nat)=>T.int (k:Int)):=by simp only[Fw,dg,dm,h,M.bind_ok];rw[aQ (by omega),sX];simp
def ES a b:wx (tI a) (tI b)=true↔a=b:=by unfold tI;rw[kr,pV,decide_eq_true_eq]
def xZ:gy c=oa c:=rfl
def sI(d:Int)(a n:Nat)(P:a<=3)(L:n<=7):∃w:List Nat,i9 c [.int d,.int (a:Int),.int (n:Int)]=.ok (w.map λ(k:Nat)=>T.int (k:Int))/\w.Nodup/\∀k∈w,k<n:=by
 have sz:1000<sizeLine:=by decide
 obtain⟨H,v,J⟩:=f6 (c:=c) d (70+(a:Int)) ((n:Int)+1) (by omega) (by omega) (by omega) (by omega);obtain⟨m,hm⟩:∃m:Nat,dr c d (70+(a:Int)) ((n:Int)+1)=(m:Int):=⟨_,(cK v).symm⟩;let l (k:Nat):T:=.int (k:Int);let R (f h:List Nat) (r:Oq W):En:=[some (.p (.int d)),some (.p (.int (a:Int))),some (.p (.int (n:Int))),some (.o (f.map l)),some (.o (h.map l)),r];obtain⟨x,e,f,h,r,rfl,A,s⟩:=iw (m:=jA 5) (g:=mL c) (λ(k:Nat)=>T.int (k:Int))
  (λi x=>∃(f h:List Nat) (r:Oq W),x=R f h r/\f.length+i=n/\(h++f).Perm (List.range n)) (List.range m) 0 (R (List.range n) [] none) ⟨List.range n,[],none,rfl,by simp,List.Perm.refl _⟩ (by
   rintro i k x K ⟨f,h,r,rfl,A,s⟩;rw[aG]at A ⊢;obtain⟨F,B⟩:=aa.mp K;rw[List.getElem_range]at B;subst B;rw[b9]at F;obtain⟨C,I,b⟩:=f6 (c:=c) d (80+10*(a:Int)+(i:Int)) (f.length:Int) (by omega) (by omega) (by omega) (by omega);obtain⟨q,hq⟩:∃q:Nat,dr c d (80+10*(a:Int)+(i:Int)) (f.length:Int)=(q:Int):=⟨_,(cK I).symm⟩;rw[hq]at C b;have u:q<f.length:=by omega
   have N:h.length+f.length=n:=by have:=s.length_eq;rwa [aT,b9]at this
   have D:iR (.int 10) (.int (a:Int))=.ok (.int (10*(a:Int))):=gU ((show Bn 10 10 from (show (10:Int).natAbs<2 ^ 10 by decide)).ok (n:=10) (show (a:Int).natAbs<2 ^ 10 by omega) (by decide) (by decide));refine⟨_,_,rfl,.inl (BH (i:=4) (j:=3) (ts:=h.map l) (us:=f.map l) (k:=q) (y:=l f[q]) rfl rfl (gZ rfl (dy (dy rfl (dy rfl rfl D) (eG _ _)) rfl (eG _ _)) (jb (t:=.lst (f.map l)) rfl (by simp)) C) (by rw[aw,ag u];rfl) (by omega) (by decide) (by rw[ax];omega) rfl),f.eraseIdx q,h++[f[q]],some (.p (.int (i:Int))),?_,?_,?_⟩
   .simp[R,l,zD]
   .rw[List.length_eraseIdx_of_lt u];omega
   .rw[bP];exact ((vf f q u).append_left h).trans s)
 have nd:(h++f).Nodup:=s.nodup_iff.mpr List.nodup_range;refine⟨h,ui rfl (du (ρ':=[some (.p (.int d)),some (.p (.int (a:Int))),some (.p (.int (n:Int))),some (.o ((List.range n).map l)),none,none]) (kn (ts:=(List.range n).map l) (EL n (by omega) rfl) rfl) (du (ρ':=R (List.range n) [] none) (kn rfl rfl) (du (jl (lA m (by omega) (gZ (z:=.int ((n:Int)+1)) rfl (dy rfl rfl (eG _ _)) (dy rfl rfl (eG _ _)) (by rw[H,hm]))) e) rfl))),(List.nodup_append.mp nd).1,λk E=>aS.mp (s.mem_iff.mp (ay _ E))⟩
def zg{d:Nat}{cs:LL}{a:List Nat}(l:1<=d/\d<=3)(j:CZ d 30 cs)(g:∀z∈a,z<cs.length)(b:a.length<=7):∃t,iF c [.lst (cs.map tI),.int d,nL a]=.ok t/\gy c [.int d,.lst (cs.map tI),nL a]=.ok t/\(t=.non\/∃i n,t=.tup [.int i,tI n]):=by
 obtain⟨pv,o,f,h,m,e⟩:=uI (c:=c) l j g b (S:=nL a) rfl;refine⟨_,e,by rw[xZ];exact tm l j g b rfl h m,?_⟩;split
 .exact .inl rfl
 .exact .inr ⟨_,((List.range cs.length).filter λk=>!(f (cs.getD k [])).any (· != 0)).map λ(k:Nat)=>(k:Int),by unfold zh tI;rw[aI];rfl⟩
def Cj{t:T}(h:t=.non\/∃i a,t=.tup [.int i,tI a]):d7 true t t=.ok (.bl false):=by
 rcases h with rfl|⟨i,a,rfl⟩
 .rfl
 .have e:wx (tI a) (tI a)=true:=ES _ _ |>.mpr rfl
  have d:lE (tI a)=true:=xy a;have f:rS (tI a)<=1:=by unfold tI;rw[rh];have:=my a;omega
  have g:rS (.tup [.int i,tI a])<=100:=by rw[rh,mC,mC];have:rS (T.int i)=0:=rfl;have:lC []=0:=rfl;omega
  have b:rS (tI a)<=99:=by omega
  simp[d7,lE,kQ,kr,kD,e,d,b]
def xX{d:Nat}{cs:LL}{a:List Nat}(e:∀z∈a,z<cs.length)(nd:a.Nodup)(b:a.length<=7)(h:iF c [.lst (cs.map tI),.int d,nL a]=.ok t):e7 c [g9 c d cs,nL a]=.ok t:=eA rfl (du (eR (iS (d8 (iu rfl rfl (nP d cs a e nd (by omega)))) rfl) rfl) (dY (gZ (fI (Bp d cs rfl)) (BR d cs rfl) rfl h)))
def yG{d:Nat}{cs:LL}(h:dJ c [g9 c d cs,th]=.ok (.bl false)):fQ c [g9 c d cs,th]=.ok (.str "number"):=by have e:e7 c [g9 c d cs,th]=.er c.NoNumber none:=FR rfl (Ga (iS (d8 (iu rfl rfl h)) rfl));have a:qm (f9 (ve (dg (dk 0) (dg (dk 1) dm)) (e7 c))) (ee 3 [g9 c d cs,th])=.er c.NoNumber none:=Cw e;refine eA rfl ?_;unfold jX Al;rw[a];simp[Do]
def wO ns:lU c [.scr ns]=.ok (.bl true):=by
 have sz:10000<sizeLine:=by decide
 have n1:d7 true (.str "number") (.str "number")=.ok (.bl false):=Iq _ DD;let A (E I B y v q o l f e a:Oq W):En:=[some (.p (.scr ns)),E,I,B,y,v,q,o,l,f,e,a];obtain⟨ρ1,e1,y1,y2,y3,y4,y5,y6,y7,y8,y9,y10,y11,rfl⟩:=kC (m:=jA 1) (g:=p9 c) (λ(k:Nat)=>T.int (k:Int)) (λu=>∃E I B y v q o l f e a,u=A E I B y v q o l f e a) [0,1,0] (A none none none none none none none none none none none) ⟨_,_,_,_,_,_,_,_,_,_,_,rfl⟩ (by
  rintro k-u ⟨E,I,B,y,v,q,o,l,f,e,a,rfl⟩;obtain⟨b,ec,-⟩:=ug (c:=c) ns k;obtain⟨C,d67a,d67b⟩:=f6 (c:=c) b 67 4 (by decide) (by decide) (by decide) (by decide);obtain⟨Y,d66a,d66b⟩:=f6 (c:=c) b 66 1000000000 (by decide) (by decide) (by decide) (by decide);obtain⟨H,em,hmo⟩:∃H:Nat,dI fO (cM (.int 6)) (ia rZ (dg (dI (d7 false) (dD (dg (dk 2) (dg (cM (.int 67)) (dg (cM (.int 4)) dm))) (dE c)) (cM (.int 1))) dm)) (mS (A (some (.p (.int (k:Int)))) (some (.p (.int b))) B y v q o l f e a))=.ok (.int (H:Int))/\H<=7:=by
   by_cases h:dr c b 67 4=1
   .exact⟨7,dy rfl (jb (t:=.bl true) (dy (gZ rfl rfl rfl C) rfl (by rw[eC,h];rfl)) rfl) rfl,by decide⟩
   .exact⟨6,dy rfl (jb (t:=.bl false) (dy (gZ rfl rfl rfl C) rfl (by rw[eC];simp[h])) rfl) rfl,by decide⟩
  obtain⟨d,cs,ed,Z,S,hm⟩:=uM (c:=c) b H hmo;have hn:=S.few;have i0:=AY (c:=c) d 30 cs Z (by decide) S;let R (q o l f e a:Oq W):En:=A (some (.p (.int (k:Int)))) (some (.p (.int b))) (some (.p (.int (d:Int)))) (some (.p (.lst (cs.map tI)))) (some (.p (g9 c d cs))) q o l f e a;obtain⟨ρ2,e2,J,K,Q,N,rfl⟩:=kC (m:=jA 6) (g:=p0 c) (λ(k:Nat)=>T.int (k:Int)) (λu=>∃q o l f,u=R q o l f e a) (List.range 3) (R q o l f e a) ⟨_,_,_,_,rfl⟩ (by
   rintro j hj u ⟨q,o,l,f,rfl⟩;have hj:=aS.mp hj;obtain⟨r,es,nd,P⟩:=sI (c:=c) b j cs.length (by omega) hn;have sl:r.length<=7:=by have:r.length<=(List.range cs.length).length:=List.Nodup.length_le_of_subset nd λx hx=>aS.mpr (P x hx);rw[b9]at this;omega
   obtain⟨t,f1,f2,F⟩:=zg (c:=c) Z S P sl;have X:d7 true (nL r) (nL r)=.ok (.bl false):=by rw[CT];unfold tL;rw[An];simp
   have l1:zc jq (dg (dk 7) dm) (mS (R (some (.p (.int (j:Int)))) (some (.p (nL r))) l f e a))=.ok (r.map λ(k:Nat)=>T.int (k:Int)):=rfl;have D:m4 (eW (dI (A5 true) (dk 9) (cM .non))) (L3.jr (eW (mZ "tuple" (dI gw (dk 9) (cM (.int 1)))))) (vw (R (some (.p (.int (j:Int)))) (some (.p (nL r))) (some (.p (nL r))) (some (.p t)) e a))=.ok false:=by rcases F with rfl|⟨i,ks,rfl⟩<;>rfl
   exact⟨_,_,rfl,.inl (du (dX (fI (yx rfl rfl (jb (t:=.lst (cs.map tI)) rfl (by simp)) es)) rfl) (du (dX (t:=nL r) (fI l1) rfl) (du (dX (iu rfl rfl (xX P nd sl f1)) rfl) (du (eR (FP (d8 (dy rfl (gZ rfl rfl rfl f2) (Cj F))) (d8 (dy rfl rfl X))) rfl) (eR D rfl))))),_,_,_,_,rfl⟩)
  let n:Int:=(cs.length:Int);let w:Int:=n+dr c b 66 1000000000;let L:List T:=[.non,.int 0,.tup [],.str "",.emp,.lst [.int w],.lst [.int (-1)],.lst [.int (-w-1)],.lst [.bl true],.lst [.bl false],.lst [.str "0"],.lst [.non],.lst [.lst [.int 0]],.lst [.int 0,.int 0]];have one:∀s,d6 c [s,.int (cs.length:Int)]=.ok (.bl false)->dJ c [g9 c d cs,.lst [s]]=.ok (.bl false):=λs hk=>vk (c:=c) (d:=d) (cs:=cs) (ts:=[s]) (by simp) (λt F=>by rw[aj.mp F];exact⟨_,hk⟩) ⟨s,by simp,hk⟩;have hL:∀s∈L,dJ c [g9 c d cs,s]=.ok (.bl false):=by simp only[L,List.forall_mem_cons];exact⟨rfl,rfl,rfl,rfl,rfl,one _ (rg _ _ (.inr (by show (cs.length:Int)<=n+_;omega))),one _ (rg _ _ (by omega)),one _ (rg _ _ (.inl (by show -(n+_)-1<0;omega))),one _ rfl,one _ rfl,one _ rfl,one _ rfl,one _ rfl,AB d cs,λ_ z=>nomatch z⟩
  obtain⟨ρ3,e3,w11,rfl⟩:=kC (m:=jA 11) (g:=pZ c) (λt:T=>t) (λu=>∃a,u=R J K Q N (some (.p (.int w))) a) L (R J K Q N (some (.p (.int w))) a) ⟨_,rfl⟩ (by rintro s U u ⟨a,rfl⟩;exact⟨_,_,rfl,.inl (eR (d8 (dy (iu rfl rfl (yG (hL s U))) rfl n1)) rfl),_,rfl⟩)
  rw[List.map_id']at e3;have eL:eT (eQ (lstM (dg (cM .non) (dg (cM (.int 0)) (dg (kP dm) (dg (cM (.str "")) (dg (cM .emp) (dg (eQ (lstM (dg (dk 10) dm))) (dg (eQ (lstM (dg (xK (λi=>.int (-i)) (cM (.int 1))) dm))) (dg (eQ (lstM (dg (dI nO (xK (λi=>.int (-i)) (dk 10)) (cM (.int 1))) dm))) (dg (eQ (lstM (dg (cM (.bl true)) dm))) (dg (eQ (lstM (dg (cM (.bl false)) dm))) (dg (eQ (lstM (dg (cM (.str "0")) dm))) (dg (eQ (lstM (dg (cM .non) dm))) (dg (eQ (lstM (dg (eQ (lstM (dg (cM (.int 0)) dm))) dm))) (dg (eQ (lstM (dg (cM (.int 0)) (dg (cM (.int 0)) dm)))) dm)))))))))))))))) (mS (R J K Q N (some (.p (.int w))) a))=.ok L:=rfl;exact⟨_,_,rfl,.inl (du (ρ':=A (some (.p (.int (k:Int)))) (some (.p (.int b))) B y v q o l f e a) (dX (iu rfl rfl ec) rfl) (du (ρ':=A (some (.p (.int (k:Int)))) (some (.p (.int b))) (some (.p (.int (d:Int)))) (some (.p (.lst (cs.map tI)))) v q o l f e a) (Eo (iu rfl em ed) rfl) (du (dX (iu rfl (fI (ts:=cs.map tI) rfl) i0) rfl) (du (jl (lA 3 (by decide) rfl) e2) (du (dX (t:=.int w) (dy (x:=.int n) (jb (t:=.lst (cs.map tI)) rfl (by simp[n])) (gZ rfl rfl rfl Y) rfl) rfl) (jU eL e3)))))),_,_,_,_,_,_,_,_,_,_,_,rfl⟩)
 exact eA rfl (du (jU (tz rfl) e1) (dY rfl))
end CL
namespace K42
open PySem L2 L3 CL
def fY(i:Nat):Stmt:=PySem.Challenge.pw_cutlands_k42_flats_of_some.main.body.getD i (.Pass ⟨0,0,0,0⟩)
structure Er(c:Cs)(K:W.Frag)(mg:Str->Option Value):Prop where
 here:True
 cl_Cutting:pR K c.Cutting
 na_Cutting_own_cuts:gY K c.Cutting "own_cuts"
 na_Cutting_own_dims:gY K c.Cutting "own_dims"
 mk_Cutting:W.makesIn K c.Cutting=true
 kp_Cutting:W.keepIn K (.ref c.Cutting)=true
 mg_Cutting:mg "Cutting" = some (.ref c.Cutting)
 k_MOST_CUTS:∃t,mg "MOST_CUTS" = some (.int 7 t)
 k_MOST_DIMS:∃t,mg "MOST_DIMS" = some (.int 3 t)
 cut:mg "CutError" = some (.ref c.CutError)
 hct:Bw K c.CutError
 x_NoNumber:Xk K "NoNumber" c.NoNumber c.CutError
 m_NoFraction:mg "NoFraction" = some (.ref c.NoFraction)
 m_NoCutting:mg "NoCutting" = some (.ref c.NoCutting)
 m_NoSpot:mg "NoSpot" = some (.ref c.NoSpot)
 m_NoSigns:mg "NoSigns" = some (.ref c.NoSigns)
 m_NoLand:mg "NoLand" = some (.ref c.NoLand)
 m_NoFace:mg "NoFace" = some (.ref c.NoFace)
 m_NoNumber:mg "NoNumber" = some (.ref c.NoNumber)
 m_NoTable:mg "NoTable" = some (.ref c.NoTable)
 m_NoText:mg "NoText" = some (.ref c.NoText)
 m_NoDeed:mg "NoDeed" = some (.ref c.NoDeed)
 n_NoNumber_NoFraction:W.kitOne K (.ref c.NoNumber) (.ref c.NoFraction)=some false
 n_NoNumber_NoCutting:W.kitOne K (.ref c.NoNumber) (.ref c.NoCutting)=some false
 n_NoNumber_NoSpot:W.kitOne K (.ref c.NoNumber) (.ref c.NoSpot)=some false
 n_NoNumber_NoSigns:W.kitOne K (.ref c.NoNumber) (.ref c.NoSigns)=some false
 n_NoNumber_NoLand:W.kitOne K (.ref c.NoNumber) (.ref c.NoLand)=some false
 n_NoNumber_NoFace:W.kitOne K (.ref c.NoNumber) (.ref c.NoFace)=some false
 n_NoNumber_NoTable:W.kitOne K (.ref c.NoNumber) (.ref c.NoTable)=some false
 n_NoNumber_NoText:W.kitOne K (.ref c.NoNumber) (.ref c.NoText)=some false
 n_NoNumber_NoDeed:W.kitOne K (.ref c.NoNumber) (.ref c.NoDeed)=some false
 kc:W.kitOne K (.ref c.NoNumber) (.ref c.CutError)=some true
 val:mg "ValueError" = none
def FX{K:W.Frag}{h:Heap}{d:Str->Option Value}{aCutting aCutError aNoFraction aNoCutting aNoSpot aNoSigns aNoLand aNoFace aNoNumber aNoTable aNoText aNoDeed:Addr}{tMOST_CUTS tMOST_DIMS:_}(X:K.In h)(G:h.Ns mainGlobals d)(e:W.nsIn K mainGlobals "Cutting" = some (some (.ref aCutting)))(j:W.plainGet K aCutting Str.empty=true)(g:W.hasDictIn K aCutting=true)(o:W.plainOver K aCutting=true)(l:W.findIn K (.ref aCutting) "__setattr__" = some (some (.builtin "object.__setattr__")))(own_cuts:W.findIn K (.ref aCutting) "own_cuts" = some none)(own_dims:W.findIn K (.ref aCutting) "own_dims" = some none)(n:W.makesIn K aCutting=true)(m:W.keepIn K (.ref aCutting)=true)(uMOST_CUTS:W.nsIn K mainGlobals "MOST_CUTS" = some (some (.int 7 tMOST_CUTS)))(uMOST_DIMS:W.nsIn K mainGlobals "MOST_DIMS" = some (some (.int 3 tMOST_DIMS)))(eCutError:W.nsIn K mainGlobals "CutError" = some (some (.ref aCutError)))(eNoFraction:W.nsIn K mainGlobals "NoFraction" = some (some (.ref aNoFraction)))(eNoCutting:W.nsIn K mainGlobals "NoCutting" = some (some (.ref aNoCutting)))(eNoSpot:W.nsIn K mainGlobals "NoSpot" = some (some (.ref aNoSpot)))(eNoSigns:W.nsIn K mainGlobals "NoSigns" = some (some (.ref aNoSigns)))(eNoLand:W.nsIn K mainGlobals "NoLand" = some (some (.ref aNoLand)))(eNoFace:W.nsIn K mainGlobals "NoFace" = some (some (.ref aNoFace)))(eNoNumber:W.nsIn K mainGlobals "NoNumber" = some (some (.ref aNoNumber)))(eNoTable:W.nsIn K mainGlobals "NoTable" = some (some (.ref aNoTable)))(eNoText:W.nsIn K mainGlobals "NoText" = some (some (.ref aNoText)))(eNoDeed:W.nsIn K mainGlobals "NoDeed" = some (some (.ref aNoDeed)))(f:W.typeIn K (.ref aCutError)=some (.type "type"))(c:W.mroIn K aCutError (.type "BaseException")=some true)(k:W.specialIn K (.builtin "object.__class__") "__get__" = some (some (.builtin "getset_descriptor.__get__")))(i:W.takesIn K (.builtin "object.__class__")=some true)(qNoNumber:W.excIn K aNoNumber Ha "ValueError.__new__" = true)(pNoNumber:W.findIn K (.ref aNoNumber) "__getattribute__" = some (some (.builtin "BaseException.__getattribute__")))(rNoNumber:W.findIn K (.ref aNoNumber) "__getattr__" = some none)(sNoNumber:W.findIn K (.ref aNoNumber) "__class__" = some (some (.builtin "object.__class__")))(tNoNumber:W.mroIn K aNoNumber (.type "object")=some true)(uNoNumber:W.mroIn K aNoNumber (.type "BaseException")=some true)(vNoNumber:W.mroIn K aNoNumber (.ref aCutError)=some true)(wNoNumber:W.mroIn K aNoNumber (.type "ValueError")=some true)(cNoFraction:W.typeIn K (.ref aNoFraction)=some (.type "type"))(dNoFraction:W.mroIn K aNoFraction (.type "object")=some true)(cNoCutting:W.typeIn K (.ref aNoCutting)=some (.type "type"))(dNoCutting:W.mroIn K aNoCutting (.type "object")=some true)(cNoSpot:W.typeIn K (.ref aNoSpot)=some (.type "type"))(dNoSpot:W.mroIn K aNoSpot (.type "object")=some true)(cNoSigns:W.typeIn K (.ref aNoSigns)=some (.type "type"))(dNoSigns:W.mroIn K aNoSigns (.type "object")=some true)(cNoLand:W.typeIn K (.ref aNoLand)=some (.type "type"))(dNoLand:W.mroIn K aNoLand (.type "object")=some true)(cNoFace:W.typeIn K (.ref aNoFace)=some (.type "type"))(dNoFace:W.mroIn K aNoFace (.type "object")=some true)(cNoNumber:W.typeIn K (.ref aNoNumber)=some (.type "type"))(dNoNumber:W.mroIn K aNoNumber (.type "object")=some true)(cNoTable:W.typeIn K (.ref aNoTable)=some (.type "type"))(dNoTable:W.mroIn K aNoTable (.type "object")=some true)(cNoText:W.typeIn K (.ref aNoText)=some (.type "type"))(dNoText:W.mroIn K aNoText (.type "object")=some true)(cNoDeed:W.typeIn K (.ref aNoDeed)=some (.type "type"))(dNoDeed:W.mroIn K aNoDeed (.type "object")=some true)(nNoNumberNoFraction:aNoNumber≠aNoFraction)(mNoNumberNoFraction:W.mroIn K aNoNumber (.ref aNoFraction)=some false)(nNoNumberNoCutting:aNoNumber≠aNoCutting)(mNoNumberNoCutting:W.mroIn K aNoNumber (.ref aNoCutting)=some false)(nNoNumberNoSpot:aNoNumber≠aNoSpot)(mNoNumberNoSpot:W.mroIn K aNoNumber (.ref aNoSpot)=some false)(nNoNumberNoSigns:aNoNumber≠aNoSigns)(mNoNumberNoSigns:W.mroIn K aNoNumber (.ref aNoSigns)=some false)(nNoNumberNoLand:aNoNumber≠aNoLand)(mNoNumberNoLand:W.mroIn K aNoNumber (.ref aNoLand)=some false)(nNoNumberNoFace:aNoNumber≠aNoFace)(mNoNumberNoFace:W.mroIn K aNoNumber (.ref aNoFace)=some false)(nNoNumberNoTable:aNoNumber≠aNoTable)(mNoNumberNoTable:W.mroIn K aNoNumber (.ref aNoTable)=some false)(nNoNumberNoText:aNoNumber≠aNoText)(mNoNumberNoText:W.mroIn K aNoNumber (.ref aNoText)=some false)(nNoNumberNoDeed:aNoNumber≠aNoDeed)(mNoNumberNoDeed:W.mroIn K aNoNumber (.ref aNoDeed)=some false)(a:aNoNumber≠aCutError)(b:W.nsIn K mainGlobals "ValueError" = some none):Er ⟨aCutting,0,aCutError,aNoCutting,aNoTable,aNoFraction,aNoSpot,aNoSigns,aNoLand,aNoFace,aNoNumber,aNoText,aNoDeed⟩ K d:=⟨trivial,⟨j,g,o,l⟩,own_cuts,own_dims,n,m,W.mg_of X G e,⟨_,W.mg_of X G uMOST_CUTS⟩,⟨_,W.mg_of X G uMOST_DIMS⟩,W.mg_of X G eCutError,⟨jV c,f,c⟩,GF eNoNumber qNoNumber pNoNumber rNoNumber sNoNumber k i tNoNumber uNoNumber vNoNumber wNoNumber,W.mg_of X G eNoFraction,W.mg_of X G eNoCutting,W.mg_of X G eNoSpot,W.mg_of X G eNoSigns,W.mg_of X G eNoLand,W.mg_of X G eNoFace,W.mg_of X G eNoNumber,W.mg_of X G eNoTable,W.mg_of X G eNoText,W.mg_of X G eNoDeed,lT nNoNumberNoFraction cNoFraction dNoFraction mNoNumberNoFraction,lT nNoNumberNoCutting cNoCutting dNoCutting mNoNumberNoCutting,lT nNoNumberNoSpot cNoSpot dNoSpot mNoNumberNoSpot,lT nNoNumberNoSigns cNoSigns dNoSigns mNoNumberNoSigns,lT nNoNumberNoLand cNoLand dNoLand mNoNumberNoLand,lT nNoNumberNoFace cNoFace dNoFace mNoNumberNoFace,lT nNoNumberNoTable cNoTable dNoTable mNoNumberNoTable,lT nNoNumberNoText cNoText dNoText mNoNumberNoText,lT nNoNumberNoDeed cNoDeed dNoDeed mNoNumberNoDeed,wd a f (jV c) vNoNumber,W.mg_none_of X G b⟩
def F8{K:W.Frag}{a g:Addr}{m q:Str}{st:Stmt}{k kV c n b o:Vq}{p h:Oq Addr}{d:Array (Option Value)}(i:W.findIn K (.ref a) m=some (some (.ref g)))(j:W.isFn K (.ref g)=true)(l:K.lookup g=some ⟨k,p,.func (W.fnOf m q (eV st) (dU st) (dt st) .none kV c n h b o),d⟩)(f:W.codeIn K b q=true)(e:W.keepIn K (.ref g)=true):gB K a m q st:=⟨_,_,uU l f e,i,j,e⟩
set_option hygiene false in
local macro_rules|`('x')=>`(by repeat' first|(refine' dq ?_ ?_)|(refine' dB ?_)|(exact eg)|(refine' e6 _ nd ?_)|(refine' eY ?_ ?_ ?_)|(refine' eN ?_)|(refine' Az _ nd ?_)|(refine' oN ?_)|(refine' sH ?_)|(exact vg)|(refine' sf _ nd ?_)|(exact dC _)|(exact fG)|(refine' dw ?_ ?_)|(exact dW)|(refine' yi ?_ ?_)|(refine' fZ (by assumption) hr ?_)|(refine' uq ?_ ?_)|(refine' lK ?_)|(refine' uy hr ?_ ?_)|(refine' uJ hr ?_ ?_)|(refine' jm ?_)|(refine' xa ?_)|(refine' q0 ?_ ?_)|(refine' nk ?_)|(refine' qp ?_ ?_)|(refine' oU ?_)|(refine' dQ (ei (K:=K)) gp (by rfl) B.len gh ?_)|(refine' fN vY vG ?_ ?_)|(refine' fN Am ze ?_ ?_)|(refine' fN zx AA ?_ ?_)|(refine' fN v7 vZ ?_ ?_)|(refine' fN wc vB ?_ ?_)|(refine' fN op_isN mr_isN ?_ ?_)|(exact FO)|(exact uR)|(exact yI)|(refine' rL ?_)|(refine' Df ?_ ?_)|(refine' tR ?_ ?_)|(refine' E1 ?_)|(refine' DP ?_ ?_)|(refine' A9 ?_ ?_)|(refine' sy ?_ ?_ ?_)|(exact yA)|(refine' zd ?_)|(refine' jx "tuple" (by decide) B.isinstance B.tuple gj ?_)|(refine' jx "list" (by decide) B.isinstance B.list iV ?_)|(refine' jx "int" (by decide) B.isinstance B.int qB ?_)|(refine' jx "bool" (by decide) B.isinstance B.bool vV ?_)|(refine' fV (fM (K:=K)) gL (by rfl) B.tuple gj ?_)|(refine' fV pM vF (by rfl) B.int qB ?_)|(refine' dQ nY uN (by rfl) B.abs uo ?_)|(refine' dQ (kK (K:=K) rfl) qx (by rfl) B.all rK ?_)|(refine' fR ?_)|(refine' vo (by assumption) hr ?_)|(refine' i6 (iy (K:=K)) jK (by rfl) B.list iV ?_)|(refine' uc ?_)|(refine' qZ ?_ ?_)|(refine' Ei ?_ ?_)|(refine' qt ?_ ?_)|(refine' qX ?_)|(refine' tY ?_))
section
variable {P:Program}{w:World}{K:W.Frag}{mg:Str->Option Value}{base:Heap}{c:Cs}(Z:Zx P w K mg base)(B:Bs mg)(ER:Er c K mg)
include Z B ER
theorem oC{A:Around}{b:List Env}{k:Nat}{ea:Addr}{oe:Obj}{f:Addr}{e:Vq}{s:Sq}{H:Hp}{Q:VK}(hr:eD (k+1) A)(a:oe.cls=.ref c.NoNumber)(q:∀d,dG H d->Q (.str "number") d):∃t,mW ((fK mx P w K mg base ["_law_error","_law_kinds","_law_names","_law_found"] "_law_class" (dt (fY 46)) f e A b s H E0).exc [(ea,oe)] ea) (dU (fY 46)) t/\t {nx:=λ_ d=>Q .non d,rt:=Q} (fT ["_law_error","_law_kinds","_law_names","_law_found"] [.ref ea]) H:=by
 have nd:(["_law_error","_law_kinds","_law_names","_law_found"]:List Str).Nodup:=by decide
 exact⟨_,(fP (vp (PW.pt (CI (uD (tX (e8 (fS (K:=K) (aj.mpr rfl) a) rfl B.isinstance iA (dz (pv 0) (dz (gG (v:=.ref c.CutError) rfl ER.cut rfl) eF))))) (yk (uD (tX (e8 (fS (K:=K) (aj.mpr rfl) a) rfl B.isinstance iA (dz (pv 0) (dz (v9 (v:=.ty "ValueError") rfl ER.val E8 rfl) eF)))))))) (kH (lu gJ)) nq) (fP (jO (i:=1) nd rfl (Or.inl rfl) (oO (dz (e8 (fS (K:=K) (aj.mpr rfl) a) rfl B.isinstance iA (dz (pv 0) (dz (gG (v:=.ref c.NoFraction) rfl ER.m_NoFraction rfl) eF))) (dz (e8 (fS (K:=K) (aj.mpr rfl) a) rfl B.isinstance iA (dz (pv 0) (dz (gG (v:=.ref c.NoCutting) rfl ER.m_NoCutting rfl) eF))) (dz (e8 (fS (K:=K) (aj.mpr rfl) a) rfl B.isinstance iA (dz (pv 0) (dz (gG (v:=.ref c.NoSpot) rfl ER.m_NoSpot rfl) eF))) eF))))) (fP (jO (i:=1) nd rfl (Or.inl rfl) (sG rH (pv 1) (oO (dz (e8 (fS (K:=K) (aj.mpr rfl) a) rfl B.isinstance iA (dz (pv 0) (dz (gG (v:=.ref c.NoSigns) rfl ER.m_NoSigns rfl) eF))) (dz (e8 (fS (K:=K) (aj.mpr rfl) a) rfl B.isinstance iA (dz (pv 0) (dz (gG (v:=.ref c.NoLand) rfl ER.m_NoLand rfl) eF))) (dz (e8 (fS (K:=K) (aj.mpr rfl) a) rfl B.isinstance iA (dz (pv 0) (dz (gG (v:=.ref c.NoFace) rfl ER.m_NoFace rfl) eF))) eF)))))) (fP (jO (i:=1) nd rfl (Or.inl rfl) (sG rH (pv 1) (oO (dz (e8 (fS (K:=K) (aj.mpr rfl) a) rfl B.isinstance iA (dz (pv 0) (dz (gG (v:=.ref c.NoNumber) rfl ER.m_NoNumber rfl) eF))) (dz (e8 (fS (K:=K) (aj.mpr rfl) a) rfl B.isinstance iA (dz (pv 0) (dz (gG (v:=.ref c.NoTable) rfl ER.m_NoTable rfl) eF))) (dz (e8 (fS (K:=K) (aj.mpr rfl) a) rfl B.isinstance iA (dz (pv 0) (dz (gG (v:=.ref c.NoText) rfl ER.m_NoText rfl) eF))) eF)))))) (fP (ng (vh PySem.F.plainAttrs_list PySem.F.slot_list_append PySem.F.type_list_append mv (pv 1) (dz (e8 (fS (K:=K) (aj.mpr rfl) a) rfl B.isinstance iA (dz (pv 0) (dz (gG (v:=.ref c.NoDeed) rfl ER.m_NoDeed rfl) eF))) eF))) (fP (vp (rF Gf (Bf (HK hr) (pv 1) (dz za eF)) AM (j7 _)) (kH (lu gJ)) nq) (fP (jO (i:=2) nd rfl (Or.inl rfl) (oO (dz gJ (dz gJ (dz gJ (dz gJ (dz gJ (dz gJ (dz gJ (dz gJ (dz gJ (dz gJ eF)))))))))))) (fP (jO (i:=3) nd rfl (Or.inl rfl) (CD ye (pv 2) (DY (HK hr) (pv 1) (dz za eF)) (by intro _ _;rfl))) (fP (vp (rF GI (pv 3) gJ (j7 _)) wI nq) (kH (lu (pv 3)))))))))))),A7 (w:=n8) (De (vm (BC rfl ER.x_NoNumber.xc ER.kc)) λ_ _=>vm (EG rfl ER.x_NoNumber.xc ER.x_NoNumber.va)) λz l=>xV (gD (iI rfl ER.x_NoNumber.xc ER.n_NoNumber_NoFraction) λ_ _=>gD (iI rfl ER.x_NoNumber.xc ER.n_NoNumber_NoCutting) λ_ _=>gD (iI rfl ER.x_NoNumber.xc ER.n_NoNumber_NoSpot) λ_ _=>m9) (by show 3<=sizeLine;decide) λU Y g X u=>Ao rfl u (gD (iI rfl ER.x_NoNumber.xc ER.n_NoNumber_NoSigns) λ_ _=>gD (iI rfl ER.x_NoNumber.xc ER.n_NoNumber_NoLand) λ_ _=>gD (iI rfl ER.x_NoNumber.xc ER.n_NoNumber_NoFace) λ_ _=>m9) (by show 6<=sizeLine;decide) λI N h C n=>Ao rfl n (gD (iI rfl ER.x_NoNumber.xc (zQ _ _)) λ_ _=>gD (iI rfl ER.x_NoNumber.xc ER.n_NoNumber_NoTable) λ_ _=>gD (iI rfl ER.x_NoNumber.xc ER.n_NoNumber_NoText) λ_ _=>m9) (by show 9<=sizeLine;decide) λL E y x o=>Ep rfl o (iI rfl ER.x_NoNumber.xc ER.n_NoNumber_NoDeed) (by show 9<sizeLine;decide) λD r=>Dq (bs:=[false,false,false,false,false,false,true,false,false,false]) rfl dA rfl (xV (sU ["fraction","cutting","spot","signs","land","face","number","table","text","deed"] _) (by show 10<=sizeLine;decide) λS R j J p=>FQ (bs:=[false,false,false,false,false,false,true,false,false,false]) (m:=6) rfl (j _ _ dA) rfl p rfl (by decide) rfl (FU rfl (by decide) ⟨_,rfl,q _ (dG.trans (xF (l.trans (g.trans (h.trans (y.trans r)))) (dP (l.trans (g.trans h)) x)) j)⟩))⟩
theorem o0(D:dN K mg "is_whole" (fY 14)):CP Z "is_whole" 1 (eJ c):=jg Z 0 (eJ c) ["thing"] ["thing"] rfl D λnd hX hr=>⟨_,(dB (eN (qt (jx "int" (by decide) B.isinstance B.int qB (dC 0)) (qX (tY (jx "bool" (by decide) B.isinstance B.bool vV (dC 0)))))))⟩
theorem o1(D:dN K mg "sign_of" (fY 16)):CP Z "sign_of" 1 (jL c):=jg Z 0 (jL c) ["number"] ["number"] rfl D λnd hX hr=>⟨_,(dq (eY (fN Am ze (dC 0) fG) 'x' eg) (dq (eY (fN vY vG (dC 0) fG) 'x' eg) 'x'))⟩
theorem o2(D:dN K mg "common_divisor" (fY 17)):CP Z "common_divisor" 1 (eS c):=jg Z 0 (eS c) ["one","other","rest"] ["one","other"] rfl D λnd hX hr=>⟨_,(dq (zI (λρ=>match ρ with|_::some (.p (.int j))::_=>j.natAbs+1|_=>0) PassesOwn.never 'x' 'x') (dB (eN (dQ nY uN (by rfl) B.abs uo 'x'))))⟩
theorem o3(D:dN K mg "first_place" (fY 33)):CP Z "first_place" 1 (gC c):=jg Z 0 (gC c) ["cut","place"] ["cut"] rfl D λnd hX hr=>⟨_,(dq (e6 1 nd fG) (dq (zI (λρ=>match ρ with|some (.p (.tup ts))::_=>ts.length+1|_=>0) PassesOwn.never 'x' 'x') 'x'))⟩
theorem o4(D:gB K c.Cutting "dims" "Cutting.dims" (jn (fY 37) 1)):gX P w K mg base c.Cutting "dims" 1 (lG K (fC c)):=CW Z 0 (fC c) ["self"] ["self"] rfl ER.cl_Cutting D λnd hX hr=>⟨_,(dB (eN (tH rfl ER.cl_Cutting ER.na_Cutting_own_dims (dC 0))))⟩
theorem o5(D:gB K c.Cutting "cuts" "Cutting.cuts" (jn (fY 37) 2)):gX P w K mg base c.Cutting "cuts" 1 (tP K (fF c)):=EF Z 0 (fF c) ["self"] ["self"] rfl ER.cl_Cutting D λnd hX hr=>⟨_,(dB (oN (i6 (iy (K:=K)) jK (by rfl) B.list iV (dw (tH rfl ER.cl_Cutting ER.na_Cutting_own_cuts (dC 0)) dW))))⟩
theorem o6(D:gB K c.Cutting "many" "Cutting.many" (jn (fY 37) 3)):gX P w K mg base c.Cutting "many" 1 (lG K (fE c)):=CW Z 0 (fE c) ["self"] ["self"] rfl ER.cl_Cutting D λnd hX hr=>⟨_,(dB (eN (dQ (ei (K:=K)) gp (by rfl) B.len gh (dw (tH rfl ER.cl_Cutting ER.na_Cutting_own_cuts (dC 0)) dW))))⟩
theorem o7(D:dN K mg "_law_cell_at" (fY 39)):CP Z "_law_cell_at" 1 (fu c):=jg Z 0 (fu c) ["_law_script","_law_k"] ["_law_script","_law_k"] rfl D λnd hX hr=>⟨_,(dq (eY (fN vY vG (dC 1) (dQ (ei (K:=K)) gp (by rfl) B.len gh 'x')) 'x' eg) 'x')⟩
theorem o8(D:dN K mg "_law_draw" (fY 40)):CP Z "_law_draw" 1 (dE c):=jg Z 0 (dE c) ["_law_cell","_law_k","_law_bound","_law_left","_law_j","_law_stir"] ["_law_cell","_law_k","_law_bound"] rfl D λnd hX hr=>⟨_,(dq (eY (fN zx AA (dC 0) (Ax fG fG)) (dq 'x' (dq (jH PassesOwn.never rfl (iG B.range 'x') (fW 4 nd) 'x') 'x')) eg) 'x')⟩
theorem o9(D:dN K mg "_law_same" (fY 41)):CP Z "_law_same" 1 (gI c):=jg Z 0 (gI c) ["_law_one","_law_other","_law_k","_law_j"] ["_law_one","_law_other"] rfl D λnd hX hr=>⟨_,(dq (jH PassesOwn.never rfl (iG B.range (dw (dQ (ei (K:=K)) gp (by rfl) B.len gh 'x') dW)) (fW 2 nd) (dB (jH PassesOwn.never rfl (iG B.range 'x') (fW 3 nd) 'x'))) 'x')⟩
theorem Ib(D:dN K mg "_law_rank" (fY 44)):CP Z "_law_rank" 1 (d9 c):=jg Z 0 (d9 c) ["_law_rows","_law_ahead","_law_row","_law_here","_law_at","_law_other","_law_by","_law_left"] ["_law_rows"] rfl D λnd a hr=>⟨_,(dq 'x' (dq (jN PassesOwn.never rfl (eP (dC 0)) (fW 2 nd) (dq (e6 3 nd (fR (i6 (iy (K:=K)) jK (by rfl) B.list iV 'x'))) (dq (zG 1 (pv 1) PassesOwn.never rfl (uO 2 rfl (iZ (fW 4 nd) (iZ (fW 5 nd) oQ))) (dq 'x' (dB (e6 3 nd (fR (gH ["_law_one","_law_two","_law_by","_law_other","_law_at"] [none,none,some 6,some 5,some 4] a (m8 B.zip 'x') (λnd a=>⟨(mz 2 rfl (eZ (fJ 0 nd) (eZ (fJ 1 nd) jE))),eK, 'x'⟩))))))) (dq (mh ["_law_k","_law_here"] [none,some 3] 7 nd a (r0.pim (iG B.range (dw (dQ (ei (K:=K)) gp (by rfl) B.len gh 'x') dW))) (λnd a=>⟨(fJ 0 nd),(kj 'x'),(dC 0)⟩) lW) (dB (eY 'x' (dB (l7 1 (pv 1) 'x')) eg)))))) (dB (eN (dQ (ei (K:=K)) gp (by rfl) B.len gh 'x')))))⟩
theorem Ih(D:dN K mg "is_number_of" (fY 15))(b:CP Z "is_whole" 1 (eJ c)):CP Z "is_number_of" 2 (d6 c):=jg Z 1 (d6 c) ["thing","many"] ["thing","many"] rfl D λnd a hr=>⟨_,(dB (eN (qt 'x' (qX (sh v7 vZ vY vG fG (dC 0) (dC 1))))))⟩
theorem Iz(D:dN K mg "lowest" (fY 18))(b:CP Z "common_divisor" 1 (eS c)):CP Z "lowest" 2 (kb c):=jg Z 1 (kb c) ["row","divisor","number"] ["row"] rfl D λnd a hr=>⟨_,(dq (e6 1 nd fG) (dq (jN PassesOwn.never rfl (eP (dC 0)) (fW 2 nd) 'x') (dq 'x' (dB (eN (fV (fM (K:=K)) gL (by rfl) B.tuple gj (dw (fR (gH ["number","divisor"] [none,some 1] a (eP (dC 0)) (λnd a=>⟨(fJ 0 nd),eK, 'x'⟩))) dW)))))))⟩
theorem Iw(D:dN K mg "is_dims" (fY 31))(b:CP Z "is_whole" 1 (eJ c)):CP Z "is_dims" 2 (i5 c):=jg Z 1 (i5 c) ["thing"] ["thing"] rfl D λnd a hr=>⟨_,(dB (eN (qt 'x' (qX (sh v7 vZ v7 vZ fG (dC 0) (tf 3 ER.k_MOST_DIMS))))))⟩
theorem Iu(D:dN K mg "is_cut" (fY 32))(b:CP Z "is_whole" 1 (eJ c)):CP Z "is_cut" 2 (jG c):=jg Z 1 (jG c) ["dims","thing"] ["dims","thing"] rfl D λnd a hr=>⟨_,(dq (eY (xa (q0 (jm (lK (jx "tuple" (by decide) B.isinstance B.tuple gj (dC 1)))) (nk (uy hr (dQ (ei (K:=K)) gp (by rfl) B.len gh 'x') 'x')))) 'x' eg) (dq (eY (jm (lK (dQ (kK (K:=K) rfl) qx (by rfl) B.all rK (dw (fR (gH ["number"] [none] a (eP (dC 1)) (λnd a=>⟨(fJ 0 nd),eK, 'x'⟩))) dW)))) 'x' eg) (dB (eN (dQ (jC (K:=K) rfl) oB (by rfl) B.any oS (dw (fR (gH ["number"] [none] a (eP 'x') (λnd a=>⟨(fJ 0 nd),eK,(FW hr (dC 0) fG)⟩))) dW))))))⟩
theorem Ik(D:dN K mg "same_spots" (fY 34))(b:CP Z "first_place" 1 (gC c)):CP Z "same_spots" 2 (hV c):=jg Z 1 (hV c) ["one","other","place"] ["one","other"] rfl D λnd a hr=>⟨_,(dq 'x' (dB (eN (dQ (kK (K:=K) rfl) qx (by rfl) B.all rK (dw (fR (gH ["mine","theirs","other","place","one"] [none,none,some 1,some 2,some 0] a (m8 B.zip 'x') (λnd a=>⟨(mz 2 rfl (eZ (fJ 0 nd) (eZ (fJ 1 nd) jE))),eK,(AN hr 'x' 'x')⟩))) dW)))))⟩
theorem ID(D:dN K mg "_law_cut" (fY 42))(b:CP Z "_law_draw" 1 (dE c)):CP Z "_law_cut" 2 (gq c):=jg Z 1 (gq c) ["_law_cell","_law_k","_law_dims","_law_found","_law_wide","_law_cut_here","_law_way","_law_other","_law_by"] ["_law_cell","_law_k","_law_dims","_law_found"] rfl D λnd a hr=>⟨_,(dq 'x' (dq (mh ["_law_j","_law_wide","_law_cell","_law_k"] [none,some 4,some 0,some 1] 5 nd a (r0.pim (iG B.range 'x')) (λnd a=>⟨(fJ 0 nd),eK, 'x'⟩) rQ) (dq 'x' (dq (eY 'x' (dB (yj 5 nd (qZ (fR (i6 (iy (K:=K)) jK (by rfl) B.list iV (dw (sy (yi (dC 3) (fZ b hr (dw (dC 0) (dw 'x' (dw (dQ (ei (K:=K)) gp (by rfl) B.len gh 'x') dW))))) yA (zd (dC 2))) dW))) 'x'))) eg) (dq (eY 'x' (dB (vS 5 (pv 5) (dC 2) fG)) eg) (dq (eY (xa (qp 'x' (oU (fN Am ze (dQ (ei (K:=K)) gp (by rfl) B.len gh 'x') fG)))) (dq (e6 7 nd (yi (dC 3) (fZ b hr (dw (dC 0) (dw 'x' (dw (tR (dQ (ei (K:=K)) gp (by rfl) B.len gh 'x') fG) dW)))))) (dq 'x' (dB (mh ["_law_one","_law_two","_law_by"] [none,none,some 8] 5 nd a (m8 B.zip 'x') (λnd a=>⟨(mz 2 rfl (eZ (fJ 0 nd) (eZ (fJ 1 nd) jE))),eK, 'x'⟩) rQ)))) eg) (dq (eY 'x' (dB (vS 5 (pv 5) 'x' fG)) eg) (dB (eN (fV (fM (K:=K)) gL (by rfl) B.tuple gj 'x'))))))))))⟩
theorem Ig(D:dN K mg "_law_flat" (fY 45))(b:CP Z "_law_rank" 1 (d9 c)):CP Z "_law_flat" 2 (gy c):=jg Z 1 (gy c) ["_law_dims","_law_cuts","_law_some_here","_law_rank_here","_law_inside"] ["_law_dims","_law_cuts","_law_some_here"] rfl D λnd a hr=>⟨_,(dq (e6 3 nd (fZ b hr (dw (fR (gH ["_law_k","_law_cuts"] [none,some 1] a (eP (dC 2)) (λnd a=>⟨(fJ 0 nd),eK, 'x'⟩))) dW))) (dq (eY (uy hr (fZ b hr (dw (fR (gH ["_law_k","_law_cuts","_law_dims"] [none,some 1,some 0] a (eP (dC 2)) (λnd a=>⟨(fJ 0 nd),eK, 'x'⟩))) dW)) (dC 3)) 'x' eg) (dq (mh ["_law_k","_law_rank_here","_law_cuts","_law_some_here"] [none,some 3,some 1,some 2] 4 nd a (r0.pim (iG B.range (dw (dQ (ei (K:=K)) gp (by rfl) B.len gh 'x') dW))) (λnd a=>⟨(fJ 0 nd),(kj (uJ hr (fZ b hr (dw (fR (qZ (fR (gH ["_law_j","_law_cuts"] [none,some 2] a (eP (dC 3)) (λnd a=>⟨(fJ 0 nd),eK, 'x'⟩))) 'x')) dW)) (dC 1))),(dC 0)⟩) lW) (dB (eN (rL (dw 'x' (dw (fV (fM (K:=K)) gL (by rfl) B.tuple gj 'x') dW))))))))⟩
theorem Ij(D:dN K mg "_law_some" (fY 47))(a:CP Z "_law_draw" 1 (dE c)):CF Z "_law_some" 2 (i9 c):=CB Z 1 (i9 c) ["_law_cell","_law_k","_law_many","_law_left","_law_found","_law_j"] ["_law_cell","_law_k","_law_many"] rfl D λnd b hr=>⟨_,(dq (sf 3 nd (FE rfl B.list B.range 'x')) (dq 'x' (dq (jH PassesOwn.never rfl (iG B.range 'x') (fW 5 nd) (dB (yp 4 3 (pv 4) (pv 3) (fZ a hr (dw (dC 0) (dw 'x' (dw (dQ (ei (K:=K)) gp (by rfl) B.len gh 'x') dW))))))) (dB (AC 4 (pv 4))))))⟩
theorem IC(D:dN K mg "cleared" (fY 19))(a:CP Z "lowest" 2 (kb c))(d:CP Z "sign_of" 1 (jL c)):CP Z "cleared" 3 (gz c):=jg Z 2 (gz c) ["row","other","place","often","other_often"] ["row","other","place"] rfl D λnd b hr=>⟨_,(dq 'x' (dq (e6 3 nd (dQ nY uN (by rfl) B.abs uo 'x')) (dq 'x' (dB (eN (fZ a hr (dw (fV (fM (K:=K)) gL (by rfl) B.tuple gj (dw (fR (gH ["mine","theirs","often","other_often"] [none,none,some 3,some 4] b (m8 B.zip 'x') (λnd b=>⟨(mz 2 rfl (eZ (fJ 0 nd) (eZ (fJ 1 nd) jE))),eK, 'x'⟩))) dW)) dW)))))))⟩
theorem IE(D:dN K mg "are_numbers_of_cuts" (fY 24))(a:CP Z "is_number_of" 2 (d6 c))(d:gX P w K mg base c.Cutting "many" 1 (lG K (fE c))):CP Z "are_numbers_of_cuts" 3 (dJ c):=jg Z 2 (dJ c) ["cutting","thing"] ["cutting","thing"] rfl D λnd b hr=>⟨_,(dq (eY (jm (lK (jx "list" (by decide) B.isinstance B.list iV (dC 1)))) 'x' eg) (dq (eY (jm (lK (dQ (kK (K:=K) rfl) qx (by rfl) B.all rK (dw (fR (gH ["k","cutting"] [none,some 0] b (eP (dC 1)) (λnd b=>⟨(fJ 0 nd),eK,(fZ a hr (dw (dC 0) (dw (AE d hr (dC 1)) dW)))⟩))) dW)))) 'x' eg) (dB (eN (AN hr (GN rfl B.len B.set 'x') (dQ (ei (K:=K)) gp (by rfl) B.len gh 'x'))))))⟩
theorem Iy(D:dN K mg "can_stand" (fY 35))(b:CP Z "is_cut" 2 (jG c))(d:CP Z "same_spots" 2 (hV c)):CP Z "can_stand" 3 (gN c):=jg Z 2 (gN c) ["dims","ahead","thing"] ["dims","ahead","thing"] rfl D λnd a hr=>⟨_,(dq (eY (xa (q0 (fN zx AA (dQ (ei (K:=K)) gp (by rfl) B.len gh 'x') (tf 7 ER.k_MOST_CUTS)) (nk 'x'))) 'x' eg) (dB (eN (tY (dQ (jC (K:=K) rfl) oB (by rfl) B.any oS (dw (fR (gH ["cut","thing"] [none,some 2] a (eP (dC 1)) (λnd a=>⟨(fJ 0 nd),eK, 'x'⟩))) dW))))))⟩
theorem IF(D:dN K mg "_law_cutting" (fY 43))(d:CP Z "_law_draw" 1 (dE c))(b:CP Z "_law_cut" 2 (gq c))(e:CP Z "_law_same" 1 (gI c)):CP Z "_law_cutting" 3 (gE c):=jg Z 2 (gE c) ["_law_cell","_law_most","_law_dims","_law_found","_law_k","_law_cut_here"] ["_law_cell","_law_most"] rfl D λnd a hr=>⟨_,(dq 'x' (dq 'x' (dq (jH PassesOwn.never rfl (iG B.range 'x') (fW 4 nd) (dq 'x' (dB (eY (uJ hr (fR (gH ["_law_one","_law_cut_here"] [none,some 5] a (eP (dC 3)) (λnd a=>⟨(fJ 0 nd),(kj 'x'),(dC 0)⟩))) (fR (uc dW))) (dB (l7 3 (pv 3) (dC 5))) eg)))) 'x')))⟩
theorem IH(D:dN K mg "settled" (fY 21))(a:CP Z "cleared" 3 (gz c)):CP Z "settled" 4 (fU c):=jg Z 3 (fU c) ["row","pivots","place","pivot"] ["row","pivots"] rfl D λnd b hr=>⟨_,(dq (jN PassesOwn.never rfl (eP (dC 1)) (uO 2 rfl (iZ (fW 2 nd) (iZ (fW 3 nd) oQ))) 'x') 'x')⟩
theorem IG(D:dN K mg "with_pivot" (fY 22))(b:CP Z "cleared" 3 (gz c)):CF Z "with_pivot" 4 (gx c):=CB Z 3 (gx c) ["pivots","row","place"] ["pivots","row","place"] rfl D λnd a hr=>⟨_,(dB (oN (qZ (fR (gH ["other_place","pivot","row","place"] [none,none,some 1,some 2] a (eP (dC 0)) (λnd a=>⟨(mz 2 rfl (eZ (fJ 0 nd) (eZ (fJ 1 nd) jE))),eK, 'x'⟩))) 'x')))⟩
theorem Ia(D:dN K mg "checked_cuts" (fY 36))(b:CP Z "is_dims" 2 (i5 c))(a:CP Z "can_stand" 3 (gN c)):CP Z "checked_cuts" 4 (fB c):=jg Z 3 (fB c) ["dims","things","ahead","thing"] ["dims","things"] rfl D λnd d hr=>⟨_,(dq (eY (xa (q0 'x' (nk (jm (lK (jx "list" (by decide) B.isinstance B.list iV (dC 1))))))) (dB vg) eg) (dq 'x' (dq (jN PassesOwn.never rfl (eP (dC 1)) (fW 3 nd) (dq 'x' (dB (l7 2 (pv 2) (fV (fM (K:=K)) gL (by rfl) B.tuple gj 'x'))))) (dB (eN (fV (fM (K:=K)) gL (by rfl) B.tuple gj 'x'))))))⟩
theorem Ip(D:dN K mg "pivots_and_rests" (fY 23))(b:CP Z "settled" 4 (fU c))(d:CF Z "with_pivot" 4 (gx c)):CP Z "pivots_and_rests" 5 (eU c):=jg Z 4 (eU c) ["rows","dims","pivots","rests","row","left","places"] ["rows","dims"] rfl D λnd a hr=>⟨_,(dq 'x' (dq 'x' (dq (jN PassesOwn.never rfl (eP (dC 0)) (fW 4 nd) (dq 'x' (dq (mh ["place","left"] [none,some 5] 6 nd a (r0.pim (iG B.range 'x')) (λnd a=>⟨(fJ 0 nd),(kj 'x'),(dC 0)⟩) lW) (dB (eY 'x' (dB (l7 3 (pv 3) (dC 5))) 'x'))))) 'x')))⟩
theorem Io(D:gB K c.Cutting "__init__" "Cutting.__init__" (jn (fY 37) 0))(a:CP Z "checked_cuts" 4 (fB c)):wu P w K mg base "Cutting" c.Cutting 5 (tQ K c.Cutting (fy c)):=Hk Z 4 (fy c) ["self","dims","cuts"] rfl ER.cl_Cutting ER.na_Cutting_own_cuts ER.na_Cutting_own_dims ER.mk_Cutting ER.kp_Cutting ER.mg_Cutting D λhr=>Hr rfl (pv 0) (fZ a hr (dw (dC 1) (dw (dC 2) dW))) (pv 0) (dC 1)
theorem Il(D:dN K mg "flat_on" (fY 26))(b:CP Z "pivots_and_rests" 5 (eU c))(d:CP Z "settled" 4 (fU c)):CP Z "flat_on" 6 (iF c):=jg Z 5 (iF c) ["cuts","dims","some","found","pivots","around"] ["cuts","dims","some"] rfl D λnd a hr=>⟨_,(dq (e6 3 nd (fZ b hr (dw (fR (gH ["k","cuts"] [none,some 0] a (eP (dC 2)) (λnd a=>⟨(fJ 0 nd),eK, 'x'⟩))) 'x'))) (dq (eY (lK (dQ (jC (K:=K) rfl) oB (by rfl) B.any oS (dw (fR (gH ["rest"] [none] a (eP 'x') (λnd a=>⟨(fJ 0 nd),eK,(dQ (jC (K:=K) rfl) oB (by rfl) B.any oS 'x')⟩))) dW))) 'x' eg) (dq 'x' (dq (mh ["k","cut","pivots"] [none,none,some 4] 5 nd a (Cr B.enumerate 'x') (λnd a=>⟨(mz 2 rfl (eZ (fJ 0 nd) (eZ (fJ 1 nd) jE))),(kj (jm (lK (dQ (jC (K:=K) rfl) oB (by rfl) B.any oS 'x')))),(dC 0)⟩) lW) (dB (eN (rL (dw (tR (dC 1) (dQ (ei (K:=K)) gp (by rfl) B.len gh 'x')) (dw (fV (fM (K:=K)) gL (by rfl) B.tuple gj 'x') dW)))))))))⟩
theorem Ir(D:dN K mg "flat_of" (fY 27))(a:CP Z "flat_on" 6 (iF c))(b:CP Z "are_numbers_of_cuts" 3 (dJ c))(e:gX P w K mg base c.Cutting "cuts" 1 (tP K (fF c)))(d:gX P w K mg base c.Cutting "dims" 1 (lG K (fC c))):CE Z "flat_of" 7 (e7 c):=HD Z 6 (e7 c) ["cutting","some"] ["cutting","some"] rfl D λnd f hr=>⟨_,(dq (eY 'x' (dB (wy ER.x_NoNumber.ns ER.x_NoNumber.ex)) eg) (Af (dB (eN (fZ a hr (dw (fR (Ej e hr (dC 0))) (dw (AE d hr (dC 0)) 'x')))))))⟩
theorem Im(D:dN K mg "_law_refused" (fY 48))(g:CE Z "flat_of" 7 (e7 c))(o:dN K mg "_law_class" (fY 46)):CP Z "_law_refused" 8 (fQ c):=Ht Z 7 (fQ c) ["_law_cutting_here","_law_some_here","_law_error"] ["_law_cutting_here","_law_some_here"] rfl D λnd x hr=>⟨_,(yd 2 nd ER.cut ER.hct (λy n v k=>(dB (sH (xW g hr k 'x')))) (λn t u q p i=>(kH (lu (zZ (sp:=λH Q=>q=c.NoNumber/\∀h,dG H h->Q (.str "number") h) (N:=["_law_error","_law_kinds","_law_names","_law_found"]) (ps:=["_law_error"]) o (by constructor<;>first|rfl|decide +kernel) hr p i rfl (λa b c d e f r l=>iW ((show CY "_law_class" "_law_class" (fY 46) ["_law_error"] from λ_ _ _ _ _ _ _=>rfl) a b c d e f) r l) rfl rfl (λf m s H Q j=>oC Z B ER hr (i.trans (congrArg Value.ref j.1)) j.2) (dz (pv 2) eF) rfl)))) 'x' (Dr ER.x_NoNumber.su) (Ee λ_=>rfl))⟩
theorem oL{f:Addr}{fd:FuncData}(D:AQ K "law" "law" (fY 49) f fd)(k:CP Z "_law_cell_at" 1 (fu c))(d:CP Z "_law_cutting" 3 (gE c))(a:wu P w K mg base "Cutting" c.Cutting 5 (tQ K c.Cutting (fy c)))(e:CF Z "_law_some" 2 (i9 c))(b:CE Z "flat_of" 7 (e7 c))(g:CP Z "_law_draw" 1 (dE c))(h:CP Z "_law_refused" 8 (fQ c))(i:CP Z "_law_flat" 2 (gy c)):iU P w K mg base mx 9 f fd ["_law_script"] (lG K (lU c)):=Gu Z 8 (lU c) ["_law_script","_law_k","_law_cell","_law_dims","_law_cuts","_law_cutting_here","_law_j","_law_some_here","_law_handed","_law_found","_law_far","_law_wrong"] ["_law_script"] rfl D λnd j hr=>⟨_,(dq (jN PassesOwn.never rfl (eP 'x') (fW 1 nd) (dq 'x' (dq (BI (fZ d hr (dw (dC 2) (dw (uq fG (fV pM vF (by rfl) B.int qB (dw (AN hr 'x' fG) dW))) dW))) (uO 2 rfl (iZ (fW 3 nd) (iZ (fW 4 nd) oQ)))) (dq (e6 5 nd (FM a hr (dw (dC 3) (dw (fR (i6 (iy (K:=K)) jK (by rfl) B.list iV 'x')) dW)))) (dq (jH PassesOwn.never rfl (iG B.range 'x') (fW 6 nd) (dq (e6 7 nd (fR (vo e hr (dw (dC 2) (dw (dC 6) (dw (dQ (ei (K:=K)) gp (by rfl) B.len gh 'x') dW)))))) (dq (e6 8 nd (fR (i6 (iy (K:=K)) jK (by rfl) B.list iV 'x'))) (dq (e6 9 nd (w6 b hr 'x')) (dq 'x' (dB (eY (xa (qp (fN wc vB (dC 9) uR) (oU (jm (lK (jx "tuple" (by decide) B.isinstance B.tuple gj 'x')))))) 'x' eg))))))) (dq (e6 10 nd (uq (dQ (ei (K:=K)) gp (by rfl) B.len gh 'x') (fZ g hr (dw (dC 2) (dw fG (dw (Ax fG fG) dW)))))) (dB (jN PassesOwn.never rfl (eP (fR (uc (dw uR (dw fG (dw (rL dW) (dw yI (dw C6 'x')))))))) (fW 11 nd) 'x')))))))) 'x')⟩
end
def El{l:W.OpenLaw}{w:World}{K:W.Frag}{h:Heap}{b:Str->Option Value}{c:Cs}{fa f:Addr}{oc kV j pm g ct:Vq}{od an:Oq Addr}{osl:Array (Option Value)}(X:K.In h)(G:h.Ns mainGlobals b)(P:b "law" = some (.ref fa))
  (a:W.nsIn K mainGlobals "law" = some (some (.ref f))) (lk:K.lookup f=some ⟨oc,od,.func (W.fnOf "law" "law" (eV (fY 49)) (dU (fY 49)) (dt (fY 49)) .none kV j pm an g ct),osl⟩) (cc:W.codeIn K g "law" = true) (kk:W.keepIn K (.ref f)=true)
  (B:Bs b) (ER:Er c K b) (LF:∀ns:LI,(lU c) [.scr ns]=.ok (.bl true)) (D0:dN K b "is_whole" (fY 14)) (D1:dN K b "sign_of" (fY 16)) (D2:dN K b "common_divisor" (fY 17)) (D3:dN K b "first_place" (fY 33)) (D4:dN K b "_law_cell_at" (fY 39)) (D5:dN K b "_law_draw" (fY 40)) (D6:dN K b "_law_same" (fY 41)) (D7:dN K b "_law_rank" (fY 44)) (D8:dN K b "_law_class" (fY 46)) (D9:dN K b "is_number_of" (fY 15)) (L:dN K b "lowest" (fY 18)) (D11:dN K b "is_dims" (fY 31)) (D12:dN K b "is_cut" (fY 32)) (q:dN K b "same_spots" (fY 34)) (J:dN K b "_law_cut" (fY 42)) (D15:dN K b "_law_flat" (fY 45)) (F:dN K b "_law_some" (fY 47)) (S:dN K b "cleared" (fY 19)) (D18:dN K b "are_numbers_of_cuts" (fY 24)) (D19:dN K b "can_stand" (fY 35)) (p:dN K b "_law_cutting" (fY 43)) (u:dN K b "settled" (fY 21)) (Q:dN K b "with_pivot" (fY 22)) (z:dN K b "checked_cuts" (fY 36)) (E:dN K b "pivots_and_rests" (fY 23)) (D25:dN K b "flat_on" (fY 26)) (N:dN K b "flat_of" (fY 27)) (Y:dN K b "_law_refused" (fY 48)) (M0:gB K c.Cutting "dims" "Cutting.dims" (jn (fY 37) 1)) (M1:gB K c.Cutting "cuts" "Cutting.cuts" (jn (fY 37) 2)) (M2:gB K c.Cutting "many" "Cutting.many" (jn (fY 37) 3)) (M3:gB K c.Cutting "__init__" "Cutting.__init__" (jn (fY 37) 0)) :
  ∃fd:FuncData,(∀(s:Sq) (v:Vq),BindsTo s fd ⟨[v],[]⟩ [("_law_script",v)])/\∀d:Heap,K.In d->d.Ns mainGlobals b->iU l.prog w K b d mx 9 fa fd ["_law_script"] (yt K):=by
 have e:=P.symm.trans (W.mg_of X G a);cases e;refine⟨W.fnOf "law" "law" (eV (fY 49)) (dU (fY 49)) (dt (fY 49)) .none kV j pm an g ct,?bnd,λd _ _=>?main⟩
 case main=>have Z:Zx l.prog w K b d:=⟨trivial⟩;have D:=o0 Z B ER D0;have O1:=o1 Z B ER D1;have O2:=o2 Z B ER D2;have O3:=o3 Z B ER D3;have O4:=o4 Z B ER M0;have O5:=o5 Z B ER M1;have O6:=o6 Z B ER M2;have O7:=o7 Z B ER D4;have n:=o8 Z B ER D5;have O9:=o9 Z B ER D6;have t:=Ib Z B ER D7;have O11:=Ih Z B ER D9 D;have O12:=Iz Z B ER L O2;have y:=Iw Z B ER D11 D;have U:=Iu Z B ER D12 D;have O15:=Ik Z B ER q O3;have C:=ID Z B ER J n;have O17:=Ig Z B ER D15 t;have A:=Ij Z B ER F n;have i:=IC Z B ER S O12 O1;have R:=IE Z B ER D18 O11 O6;have H:=Iy Z B ER D19 U O15;have r:=IF Z B ER p n C O9;have m:=IH Z B ER u i;have O24:=IG Z B ER Q i;have o:=Ia Z B ER z y H;have x:=Ip Z B ER E m O24;have O27:=Io Z B ER M3 o;have I:=Il Z B ER D25 x m;have k:=Ir Z B ER N I R O5 O4;have O30:=Im Z B ER Y k D8;exact (oL Z B ER (uU (st:=fY 49) lk cc kk) O7 r O27 A k n O30 O17).imp (yJ λns _ _=>LF ns)
 case bnd=>exact λs v=>.of_eq rfl
end K42
namespace PySem.Challenge.cw_cutlands_k42_flats_of_some_holds
def tw8373256261813958814:0=0:=rfl
def tw5267934071031740129:0=0:=rfl
def tw16316359907225738192:0=0:=rfl
def tw2943829447332549162:0=0:=rfl
def tw3760527495329774067:0=0:=rfl
def tw15166775130046237004:0=0:=rfl
def tw11189200007462309144:0=0:=rfl
def tw16917083090973137449:0=0:=rfl
def tw1778930053481149413:0=0:=rfl
def tw13314580810753267632:0=0:=rfl
def tw9871615176514773938:0=0:=rfl
def tw15614397150858464310:0=0:=rfl
def tw4908369437167454777:0=0:=rfl
def tw7295893141977224099:0=0:=rfl
def tw15400503178260577501:0=0:=rfl
def tw361283238761802770:0=0:=rfl
def tw802838782102623157:0=0:=rfl
def tw712886528302232417:0=0:=rfl
def tw773464417685132133:0=0:=rfl
def tw5913627933312250100:0=0:=rfl
def tw599017824492800152:0=0:=rfl
def tw13036150375339533296:0=0:=rfl
def tw14625977280396129508:0=0:=rfl
def tw6912135851848981709:0=0:=rfl
def tw1875907779550277646:0=0:=rfl
def tw7282028236981574585:0=0:=rfl
def tw11806316395566283487:0=0:=rfl
def tw11102433781176702082:0=0:=rfl
def tw147875476083761158:0=0:=rfl
def tw16725665945193002976:0=0:=rfl
def tw16353167979499582842:0=0:=rfl
def tw3318539770710391342:0=0:=rfl
def tw1487300914569774888:0=0:=rfl
def tw13432007443792060607:0=0:=rfl
def tw13138975309434739350:0=0:=rfl
def tw11371673531265371844:0=0:=rfl
def tw10277581496057599498:0=0:=rfl
def tw1821794569898086011:0=0:=rfl
def tw13496695018618107067:0=0:=rfl
def tw14215005233022475566:0=0:=rfl
def tw10311181586391526389:0=0:=rfl
def tw8997461562363684020:0=0:=rfl
def tw13558821096050635650:0=0:=rfl
def tw8142752053193690673:0=0:=rfl
def tw6468323185485030549:0=0:=rfl
def tw4545534702194638814:0=0:=rfl
def tw2366780897833702903:0=0:=rfl
def tw17748013382250580538:0=0:=rfl
def tw14748322206758072467:0=0:=rfl
def tw5784031806538133749:0=0:=rfl
def tw13219001859703447064:0=0:=rfl
def tw9617419516593578737:0=0:=rfl
def tw6472905728016426564:0=0:=rfl
def tw18110200442119302588:0=0:=rfl
def tw5438863900676030742:0=0:=rfl
def tw3243323525176683503:0=0:=rfl
def tw12323081389671250921:0=0:=rfl
def tw3931677756743271834:0=0:=rfl
def tw10350139141473061949:0=0:=rfl
def tw14820930864801339828:0=0:=rfl
def tw16925160671565083702:0=0:=rfl
def tw14762884400330613368:0=0:=rfl
def tw11419532769676387043:0=0:=rfl
def tw16620258078114008251:0=0:=rfl
def tw9632293927749190140:0=0:=rfl
def tw4003395292307626598:0=0:=rfl
def tw11049260934133740786:0=0:=rfl
def tw17956811238683379261:0=0:=rfl
def tw16483350429787595752:0=0:=rfl
def tw4416483316379364323:0=0:=rfl
def tw7921701955213043575:0=0:=rfl
def tw18334552731714561718:0=0:=rfl
def tw12651054529526279345:0=0:=rfl
def tw8227039085890119035:0=0:=rfl
def tw9563016467464110508:0=0:=rfl
def tw6039255698490663792:0=0:=rfl
def tw3836680583715567819:0=0:=rfl
def tw3149326160689513806:0=0:=rfl
def tw13421575262864544603:0=0:=rfl
def tw13041960019734303644:0=0:=rfl
def tw11870698551398161534:0=0:=rfl
def tw8348047202760889017:0=0:=rfl
def tw12578146561252395408:0=0:=rfl
def tw4526342174371394329:0=0:=rfl
def tw13137436214160497964:0=0:=rfl
def tw9967410314348415780:0=0:=rfl
def tw1421536778708913769:0=0:=rfl
def tw13755404594777492048:0=0:=rfl
def tw10852913212311368531:0=0:=rfl
def tw17700729587869207147:0=0:=rfl
def tw7259179397100191286:0=0:=rfl
def tw5913892483825147989:0=0:=rfl
def tw18106266746750996992:0=0:=rfl
def tw9384236236288646429:0=0:=rfl
def tw16252896939262691633:0=0:=rfl
def tw16288970028346733837:0=0:=rfl
def tw15596008241841745842:0=0:=rfl
def tw11218038137969471644:0=0:=rfl
def tw11853881940084168125:0=0:=rfl
def tw8130519020437846150:0=0:=rfl
def tw11532666445722717618:0=0:=rfl
def tw7843154597827116268:0=0:=rfl
def tw119878199764896992:0=0:=rfl
def tw12137375688468599802:0=0:=rfl
def tw1009089804866739643:0=0:=rfl
def tw11351377961008032985:0=0:=rfl
def tw17221506929903575897:0=0:=rfl
def tw7141166782533029897:0=0:=rfl
def tw890175150148872348:0=0:=rfl
def tw11422611463820222519:0=0:=rfl
def tw17317173621554678686:0=0:=rfl
def tw17939703149845221323:0=0:=rfl
def tw12514958494535515228:0=0:=rfl
def tw9435636852462042847:0=0:=rfl
end PySem.Challenge.cw_cutlands_k42_flats_of_some_holds
open PySem PySem.W PyProof.Rows
set_option Elab.async true
theorem PySem.Challenge.cw_cutlands_k42_flats_of_some_holds : PySem.Challenge.rw_cutlands_k42_flats_of_some.Holds := by
 w_on;o_law;k_head;(case hw=>w_witness2);k_fill;refine L3.Fo (l:=PySem.Challenge.rw_cutlands_k42_flats_of_some) (k:=9) (x:= "_law_script") rfl ⟨rfl,by decide,by decide⟩ rfl (λw h Y=>PySem.W.kIn_of Y) ?F
 case F=>intro w mg fa h KX G hmg;refine' K42.El KX G hmg ?a ?l ?c ?k ?B ?E (λns=>CL.wO ns) ?_ ?_ ?_ ?_ ?_ ?_ ?_ ?_ ?_ ?_ ?_ ?_ ?_ ?_ ?_ ?_ ?_ ?_ ?_ ?_ ?_ ?_ ?_ ?_ ?_ ?_ ?_ ?_ ?_ ?_ ?_ ?_;(case a=>k_is);(case l=>k_is);(case c=>k_is);(case k=>k_is);(case B=>constructor<;>(apply mg_none_of KX G;k_is));(case E=>apply K42.FX KX G<;>first | k_is | k_exc | decide);all_goals first | (apply L2.EX KX G<;>k_is) | (apply K42.F8<;>first | k_is | k_exc | decide)
