import PyProof.Rows.All
import Wide.All
import OpenK.AllK
import Wide.FinOn
import Lean
import PyProof.EqAt
import PyProof.EqKinds
import PyProof.TupleCall
import PyProof.P3Eq
import PyProof.NeData
import PyProof.ConsumeWalk
import PyProof.Rows.SumAny
import PyProof.ZipIter
import PyProof.Rows.ZipGen
import PyProof.Rows.SeqMore
import PyProof.FactsAll.tuple
import PyProof.WalksMore
import PyProof.EnumMake
import PyProof.EnumFor
import PyProof.Rows.MinMaxN
import KE.KDictList
import KE.KRevIter
import KE.KItemsList
import PyProof.Rows.SortWalk
import PyProof.Rows.SetFrom
import PyProof.SetRoads
import PySem.Challenge.RW_cutlands_k08_whole_meeting_and_moving
set_option maxRecDepth 100000
set_option maxHeartbeats 0
set_option linter.all false
noncomputable section
abbrev LI:=List Int
abbrev LL:=List LI
section
open PySem
def aa:=@List.getElem?_eq_some_iff
def ae:=@Heap.get?_push_of_some
def af:=@List.getD_eq_getElem?_getD
def ag:=@List.getElem?_eq_getElem
def ai:=@List.mem_append
def aj:=@List.mem_singleton
def ak:=@wpAny_pure
def ao:=@wpAny_bind
def aq:=@List.getElem?_set_ne
def ar:=@Heap.get?_push_size
def au:=@List.mem_of_getElem?
def av:=@List.getElem?_map
def aw:=@List.length_map
def ax:=@List.mem_append_left
def ay:=@List.length_cons
def az:=@Int.le_of_lt
def aA:=@decide_eq_false
def aB:=@decide_eq_true
def aC:=@List.mem_map
def aD:=@Nat.lt_of_lt_of_le
def aE:=@List.mem_cons
def aF:=@Nat.zero_add
def aG:=@Bool.false_ne_true
def aH:=@List.map_map
def aJ:=@Nat.le_refl
def aK:=@Heap.lt_size
def aL:=@Nat.ne_of_lt
def aM:=@Nat.le_trans
def aN:=@Classical.byContradiction
def aP:=@if_pos
def aQ:=@if_neg
def aR:=@List.mem_range
def aS:=@List.length_append
def aT:=@List.mem_filter
def aU:=@List.getElem_mem
def aV:=@List.of_mem_zip
def aW:=@Int.mul_pos
def aX:=@Int.natAbs_mul
def aY:=@List.map_append
def aZ:=@Nat.lt_irrefl
def a9:=@List.eq_of_mem_replicate
def bc:=@Nat.le_of_lt
def bf:=@List.filterMap_cons
def bg:=@List.mem_cons_self
def bh:=@List.mem_cons_of_mem
def bj:=@Array.length_toList
def bp:=@Nat.ne_of_gt
def bq:=@Int.mul_one
def br:=@List.mem_filterMap
def bt:=@List.mem_append_right
def bu:=@List.size_toArray
def bz:=@List.map_cons
def bA:=@Nat.lt_succ_self
def bB:=@Nat.zero_le
def bC:=@List.append_nil
def bD:=@Nat.le_succ
def bE:=@List.nodup_cons
def bF:=@Option.isSome_iff_exists
def bG:=@List.length_take
def bH:=@List.length_replicate
def bI:=@Int.toNat_natCast
def bJ:=@Int.ediv_one
def bK:=@List.filterMap_map
def bL:=@List.length_drop
def bM:=@Bool.and_eq_true
def bN:=@List.length_set
def bO:=@List.all_cons
def bP:=@List.any_cons
def bQ:=@List.reverse_cons
def bR:=@List.replicate_succ
def bS:=@List.flatten_cons
def bT:=@List.append_assoc
def bU:=@List.length_singleton
def bV:=@Nat.succ_mul
def bW:=@Bool.false_eq_true
def bX:=@List.lookup_cons
def bY:=@Nat.le_of_succ_le
def bZ:=@Nat.lt_succ_of_lt
def b4:=@Nat.le_add_right
def b5:=@Nat.le_succ_of_le
def b6:=@List.range_succ_eq_map
def b7:=@List.all_map
def b8:=@List.any_map
def b9:=@List.take_of_length_le
def cf:=@List.all_eq_true
def cg:=@List.range_succ
def cj:=@List.length_reverse
def ck:=@Int.gcd_dvd_left
def cm:=@Int.gcd_dvd_right
def cn:=@Int.dvd_mul_of_dvd_left
def cq:=@Int.fmod_nonneg_of_pos
def cu:=@Int.fmod_lt_of_pos
def cv:=@Int.gcd_pos_of_ne_zero_right
def cw:=@Int.mul_assoc
def cy:=@Int.mul_comm
def cz:=@Int.mul_fdiv_cancel_left
def cA:=@List.lookup_cons_self
def cB:=@List.drop_eq_getElem_cons
def cC:=@List.map_take
def cD:=@Nat.not_lt_zero
def cE:=@Nat.pow_le_pow_right
def cF:=@Int.natAbs_add_le
def cG:=@Int.natAbs_neg
def cH:=@List.drop_of_length_le
def cI:=@Int.mul_le_mul_of_nonneg_left
def cJ:=@Int.mul_zero
def cK:=@Int.dvd_trans
def cL:=@Int.one_mul
def cN:=@Nat.lt_of_le_of_lt
def cO:=@List.take_length
def cP:=@List.getElem_map
def cQ:=@Int.neg_mul
def cR:=@Int.zero_mul
def cS:=@Int.mul_add
def cT:=@List.length_erase_of_mem
def cU:=@List.length_nil
def cV:=@List.map_set
def cW:=@List.mem_of_mem_erase
def cX:=@Rat.intCast_mul
def cY:=@Int.mul_ne_zero
def cZ:=@Nat.mul_le_mul_left
def c5:=@Int.eq_of_mul_eq_mul_left
def c6:=@List.mem_or_eq_of_mem_set
def c7:=@List.pairwise_map
def c8:=@List.pairwise_append
def c9:=@List.pairwise_singleton
def dc:=@Nat.mul_le_mul
def de:=@List.mem_iff_getElem?
def df:=@List.pairwise_iff_getElem
def dg:=@List.length_zip
def dh:=@List.mem_of_mem_take
def dk:=@List.length_range
def dm:=@List.getElem_range
def dt:=@Nat.pow_lt_pow_right
def du:=@List.mem_map_of_mem
def dw:=@Nat.lt_trichotomy
def dy:=@List.eq_nil_or_concat
def dz:=@List.concat_eq_append
def dA:=@Nat.mul_le_mul_right
def dB:=@List.mem_reverse
def dC:=@List.dropLast_subset
end
set_option Elab.async false
namespace L2
open PySem PySem.Spec PyProof.Rows
abbrev om:=Sum Int Str
def Dh:om->Value->Bool
 | .inl k,v=>Value.isInt k v
 | .inr x,v=>Value.isStrOf x v
def Hy(w:World):om->Int
 | .inl k=>hashInt k
 | .inr x=>hashStr w x
theorem fU:∀{k:om} {v:Value},Dh k v=true->(∃i t,k=Sum.inl i/\v=Value.int i t)\/(∃x t,k=Sum.inr x/\v=Value.str x t)
 | .inl i,v,h=>by obtain⟨t,e⟩:=Value.isInt_shape (k:=i) (v:=v) h;exact .inl ⟨i,t,rfl,e⟩
 | .inr x,v,h=>by obtain⟨t,e⟩:=Value.isStrOf_shape (x:=x) (v:=v) h;exact .inr ⟨x,t,rfl,e⟩
theorem DA(a b:Int):decide ((Sum.inl a:om)=Sum.inl b)=(a == b):=by
 by_cases e:a=b
 ·subst e;simp
 ·have h:¬(Sum.inl a:om)=Sum.inl b:=λq=>e (Sum.inl.inj q);rw[aA h];exact (beq_eq_false_iff_ne.mpr e).symm
theorem Fp(a b:Str):decide ((Sum.inr a:om)=Sum.inr b)=decide (a=b):=by
 by_cases e:a=b
 ·subst e;simp
 ·have h:¬(Sum.inr a:om)=Sum.inr b:=λq=>e (Sum.inr.inj q);rw[aA h,aA e]
theorem Eu(a:Int)(b:Str):decide ((Sum.inl a:om)=Sum.inr b)=false:=aA (λq=>nomatch q)
theorem DK(a:Str)(b:Int):decide ((Sum.inr a:om)=Sum.inl b)=false:=aA (λq=>nomatch q)
def wW(prog:Program)(w:World):PySem.KeyKind prog w om where
 is:=Dh
 hash:=Hy w
 inj:=λv a b ha hb=>by
  rcases fU ha with⟨i,t,rfl,rfl⟩ | ⟨x,t,rfl,rfl⟩
  ·rcases fU hb with⟨j,u,rfl,e⟩ | ⟨y,u,rfl,e⟩
   ·injection e with e1 _;rw[e1]
   ·exact nomatch e
  ·rcases fU hb with⟨j,u,rfl,e⟩ | ⟨y,u,rfl,e⟩
   ·exact nomatch e
   ·injection e with e1 _;rw[e1]
 byValue:=λk v h=>by rcases fU h with⟨i,t,rfl,rfl⟩ | ⟨x,t,rfl,rfl⟩<;>rfl
 pyHash:=λhv h=>by
  rcases fU hv with⟨i,t,rfl,rfl⟩ | ⟨x,t,rfl,rfl⟩
  ·exact wpAny_pyHash_int h
  ·exact wpAny_pyHash_str h
 eqBool:=λhu hv h=>by
  rcases fU hu with⟨i,t,rfl,rfl⟩ | ⟨x,t,rfl,rfl⟩
  ·rcases fU hv with⟨j,u,rfl,rfl⟩ | ⟨y,u,rfl,rfl⟩
   ·rw[DA] at h;exact wpAny_eqBool_int h
   ·rw[Eu] at h;exact SeqAt.EqAt.int_str i t y u _ _ _ _ h
  ·rcases fU hv with⟨j,u,rfl,rfl⟩ | ⟨y,u,rfl,rfl⟩
   ·rw[DK] at h;exact SeqAt.EqAt.str_int x t j u _ _ _ _ h
   ·rw[Fp] at h;exact wpAny_eqBool_str h
 «strs»:=λk x t v h=>by
  rcases fU h with⟨i,u,rfl,e⟩ | ⟨y,u,rfl,e⟩
  ·exact nomatch e
  ·injection e with e1 _;subst e1;cases v<;>rfl
end L2
namespace L2
open PySem PySem.Spec PyProof.Rows
inductive V where
 | non | bl (b:Bool) | int (i:Int) | str (x:Str) | byt (b:Array UInt8) | flt (b:UInt64) | ref (a:Addr) | ty (n:String)
 deriving DecidableEq
def fw:V->Value->Prop
 | .non,u=>u=Value.none
 | .bl b,u=>u=Value.bool b
 | .int i,u=>∃t,u=Value.int i t
 | .str x,u=>∃t,u=Value.str x t
 | .byt b,u=>∃t,u=Value.bytes b t
 | .flt b,u=>∃t,u=Value.float b t
 | .ref a,u=>u=Value.ref a
 | .ty n,u=>u=Value.type n
abbrev eF:List V->List Value->Prop:=Paired fw
theorem eF.length{xs:List V}{us:List Value}(r:eF xs us):xs.length=us.length:=Paired.length r
theorem eF.get:∀{xs:List V} {us:List Value} {i:Nat} {x:V},eF xs us->xs[i]? = some x->∃u,us[i]? = some u/\fw x u
 | _,_,_,_,.nil,e=>by simp at e
 | _,_,0,_,.cons r _,e=>by simp at e;subst e;exact⟨_,rfl,r⟩
 | _,_,i+1,x,.cons _ t,e=>by obtain⟨u,h1,h2⟩:=eF.get (i:=i) (x:=x) t (by simpa using e);exact⟨u,by simpa using h1,h2⟩
theorem eF.set{x:V}{u:Value}(r:fw x u):∀{xs:List V} {us:List Value} (i:Nat),eF xs us->eF (xs.set i x) (us.set i u)
 | _,_,_,.nil=>.nil
 | _,_,0,.cons _ t=>.cons r t
 | _,_,i+1,.cons q t=>.cons q (eF.set r i t)
theorem eF.append:∀{xs ys:List V} {us ws:List Value},eF xs us->eF ys ws->eF (xs++ys) (us++ws)
 | _,_,_,_,.nil,s=>s
 | _,_,_,_,.cons r t,s=>.cons r (eF.append t s)
theorem eF.take:∀{xs:List V} {us:List Value} (n:Nat),eF xs us->eF (xs.take n) (us.take n)
 | _,_,0,_=>.nil
 | _,_,_+1,.nil=>.nil
 | _,_,n+1,.cons r t=>.cons r (eF.take n t)
theorem eF.drop:∀{xs:List V} {us:List Value} (n:Nat),eF xs us->eF (xs.drop n) (us.drop n)
 | _,_,0,r=>r
 | _,_,_+1,.nil=>.nil
 | _,_,n+1,.cons _ t=>eF.drop n t
def pW:Option V->Option Value->Prop
 | some v,some u=>fw v u
 | none,none=>True
 | _,_=>False
def KV{κ:Type}:List (κ×V)->List (κ×Value)->Prop:=Paired λ(p:κ×V) (q:κ×Value)=>p.1=q.1/\fw p.2 q.2
def kV:om->V
 | .inl i=>.int i
 | .inr x=>.str x
inductive HO where
 | lst (xs:List V)
 | tup (xs:List V)
 | dK (kvs:List (om×V)) | dT (kvs:List (List om×V))
 | set (S:Int->Bool) (n:Nat)
 | ins (C dx:Addr) (fs:List (Str×V))
 | own (x:Addr)
 | xd (fs:List (Str×V))
 | met (f x:Addr)
 | rng (lo hi:Int)
 | frz (o:Obj) (u:HO)
 | tbl (ps:Array Value)
 | ext (φ:Heap->Prop)
abbrev Hp:=Addr->Option HO
def gC(H:Hp)(a:Addr)(o:HO):Hp:=λb=>if b=a then some o else H b
theorem d8{H:Hp}{a:Addr}{o:HO}:gC H a o a=some o:=by unfold gC;rw[aP rfl]
theorem ei{H:Hp}{a b:Addr}{o:HO}(h:b≠a):gC H a o b=H b:=by unfold gC;rw[aQ h]
theorem eG{H:Hp}{a b:Addr}{o:HO}(h:H a=some o)(h':H b=none):a≠b:=by intro e;subst e;rw[h] at h';cases h'
section
variable (P:Program)(w:World)
def gS(H:Hp)(h:Heap)(a:Addr):HO->Prop
 | .lst xs=>xs.length<=sizeLine/\∃(its:List Value) (n:Nat),eF xs its/\h.get? a=some {cls:=.type "list",data:=.seq its.toArray n}
 | .tup xs=>xs.length<=sizeLine/\∃its:List Value,eF xs its/\IsTup h a its.toArray
 | .dK kvs=>kvs.length<=sizeLine/\(a == sysModules)=false/\∃vs,KV kvs vs/\h.DictOf (wW P w) a vs
 | .dT kvs=>kvs.length<=sizeLine/\(a == sysModules)=false/\∃xs:List (List om×Addr×Value),
   Paired (λ(p:List om×V) (q:List om×Addr×Value)=>p.1=q.1/\H q.2.1=some (.tup (p.1.map kV))/\fw p.2 q.2.2) kvs xs/\
   ∃o es ep,h.get? a=some o/\o.ExactDict/\o.data=.dict es ep/\es.toList=xs.map (entryOfKey (tupleKind (wW P w)))/\(xs.map (·.1)).Nodup
 | .set S n=>h.SetOf (intKind P w) a S n
 | .ins C dx fs=>H dx=some (.own a)/\fs.length<=1000/\dx≠a/\h.get? a=some (W.instObj C dx)/\
   ∃mA,h.Ns1 dx mA/\(∀f,pW (fs.lookup f) (mA f))/\PySem.Within mA (fs.map (·.1))
 | .own _=>∃o,h.get? a=some o
 | .xd fs=>∃mA,h.Ns1 a mA/\∀f,pW (fs.lookup f) (mA f)
 | .rng lo hi=>∃t u v,h.get? a=some {cls:=.type "range",data:=.fields #[.int lo t,.int hi u,.int 1 v]}
 | .frz o u=>h.get? a=some o/\gS H h a u
 | .tbl ps=>h.get? a=some {cls:=.none,data:=.fields ps}
 | .met f x=>h.get? a=some (W.methodObj (.ref f) (.ref x))
 | .ext φ=>φ h/\(∃o,h.get? a=some o)/\∀h1 h2:Heap,φ h1->(∀o,h1.get? a=some o->h2.get? a=some o)->φ h2
def nh(H:Hp)(h:Heap):Prop:=∀a o,H a=some o->gS P w H h a o
end
section
variable {P:Program}{w:World}{H H':Hp}{h h':Heap}{a:Addr}{o:HO}
theorem gS.lt(x:gS P w H h a o):a<h.objs.size:=by
 cases o with
 | lst xs=>obtain⟨_,_,_,_,e⟩:=x;exact aK e
 | tup xs=>obtain⟨_,_,_,p⟩:=x;exact p.lt
 | dK kvs=>obtain⟨_,_,_,_,o,_,_,e,_⟩:=x;exact aK e
 | dT kvs=>obtain⟨_,_,_,_,o,_,_,e,_⟩:=x;exact aK e
 | set S n=>obtain⟨o,_,_,_,e,_⟩:=x;exact aK e
 | ins C dx fs=>obtain⟨_,_,_,e,_⟩:=x;exact aK e
 | own y=>obtain⟨_,e⟩:=x;exact aK e
 | xd fs=>obtain⟨_,⟨_,_,_,e,_⟩,_⟩:=x;exact aK e
 | rng lo hi=>obtain⟨_,_,_,e⟩:=x;exact aK e
 | frz ob u=>obtain⟨e,_⟩:=x;exact aK e
 | tbl ps=>exact aK (show h.get? a=some _ from x)
 | met f y=>exact aK (show h.get? a=some _ from x)
 | ext φ=>obtain⟨_,⟨_,e⟩,_⟩:=x;exact aK e
theorem Paired.mapP{α β:Type}{F G:α->β->Prop}:∀{l₁:List α} {l₂:List β},Paired F l₁ l₂->(∀a b,F a b->G a b)->Paired G l₁ l₂
 | _,_,.nil,_=>.nil
 | _,_,.cons r t,f=>.cons (f _ _ r) (Paired.mapP t f)
theorem Paired.imp'{α β:Type}{F G:α->β->Prop}(f:∀a b,F a b->G a b){l₁:List α}{l₂:List β}(r:Paired F l₁ l₂):Paired G l₁ l₂:=Paired.mapP r f
theorem gS.stay(x:gS P w H h a o)(k:∀b u,(b=a\/H b=some (.own a))->h.get? b=some u->h'.get? b=some u)
  (ho:∀b,H b=some (.own a)->H' b=some (.own a)) (ht:∀b xs,H b=some (.tup xs)->H' b=some (.tup xs)):gS P w H' h' a o:=by
 induction o with
 | lst xs=>obtain⟨z,its,n,r,e⟩:=x;exact⟨z,its,n,r,k _ _ (.inl rfl) e⟩
 | tup xs=>obtain⟨z,its,r,ob,e,c⟩:=x;exact⟨z,its,r,ob,k _ _ (.inl rfl) e,c⟩
 | dK kvs=>obtain⟨z,y,vs,r,ob,es,ep,e,c⟩:=x;exact⟨z,y,vs,r,ob,es,ep,k _ _ (.inl rfl) e,c⟩
 | dT kvs=>obtain⟨z,y,xs,r,ob,es,ep,e,c⟩:=x;exact⟨z,y,xs,Paired.mapP r λp q z=>⟨z.1,ht _ _ z.2.1,z.2.2⟩,ob,es,ep,k _ _ (.inl rfl) e,c⟩
 | set S n=>obtain⟨ob,es,ep,t,e,c⟩:=x;exact⟨ob,es,ep,t,k _ _ (.inl rfl) e,c⟩
 | ins C dx fs=>obtain⟨d,z,ne,e,mA,⟨od,es,ep,e2,c⟩,r⟩:=x;exact⟨ho _ d,z,ne,k _ _ (.inl rfl) e,mA,⟨od,es,ep,k _ _ (.inr d) e2,c⟩,r⟩
 | own y=>obtain⟨ob,e⟩:=x;exact⟨ob,k _ _ (.inl rfl) e⟩
 | xd fs=>obtain⟨mA,⟨od,es,ep,e,c⟩,r⟩:=x;exact⟨mA,⟨od,es,ep,k _ _ (.inl rfl) e,c⟩,r⟩
 | rng lo hi=>obtain⟨t,u,v,e⟩:=x;exact⟨t,u,v,k _ _ (.inl rfl) e⟩
 | frz ob u ih=>obtain⟨e,q⟩:=x;exact⟨k _ _ (.inl rfl) e,ih q⟩
 | tbl ps=>have e:h.get? a=some {cls:=.none,data:=.fields ps}:=x;show h'.get? a=some {cls:=.none,data:=.fields ps};exact k a _ (.inl rfl) e
 | met f y=>have e:h.get? a=some (W.methodObj (.ref f) (.ref y)):=x;show h'.get? a=some (W.methodObj (.ref f) (.ref y));exact k a _ (.inl rfl) e
 | ext φ=>obtain⟨p,⟨o,e⟩,st⟩:=x;exact⟨st _ _ p λo q=>k _ _ (.inl rfl) q,⟨o,k _ _ (.inl rfl) e⟩,st⟩
theorem nh.lt(x:nh P w H h)(e:H a=some o):a<h.objs.size:=(x a o e).lt
theorem nh.fresh(x:nh P w H h)(e:h.objs.size<=a):H a=none:=by
 cases q:H a with
 | none=>rfl
 | some u=>exact absurd (aD (x.lt q) e) (aZ _)
theorem nh.kept(x:nh P w H h)(k:∀b u,h.get? b=some u->h'.get? b=some u):nh P w H h':=λa o e=>(x a o e).stay (λb u _ q=>k b u q) (λ_ q=>q) λ_ _ q=>q
theorem nh.laid(x:nh P w H h)(k:∀b u,h.get? b=some u->h'.get? b=some u)(hp:h.objs.size<=a)(new:gS P w (gC H a o) h' a o):nh P w (gC H a o) h':=λb u e=>by
 have hn:=x.fresh hp;by_cases hb:b=a
 ·subst hb;rw[d8] at e;cases e;exact new
 ·rw[ei hb] at e;exact (x b u e).stay (λc v _ q=>k c v q) (λc q=>by rw[ei (eG q hn)];exact q) λc xs q=>by rw[ei (eG q hn)];exact q
end
def Rd(H:Hp)(a:Addr)(u:HO):Prop:=H a=some u\/∃o,H a=some (.frz o u)
theorem Rd.ok{P:Program}{w:World}{H:Hp}{h:Heap}{a:Addr}{u:HO}(r:Rd H a u)(x:nh P w H h):gS P w H h a u:=by
 rcases r with r | ⟨o,r⟩
 ·exact x a u r
 ·obtain⟨_,q⟩:=x a _ r;exact q
def Hq:Option HO->Prop
 | some (.lst _)=>True
 | some (.dK _)=>True
 | some (.dT _)=>True
 | some (.set _ _)=>True
 | some (.ins _ _ _)=>True
 | some (.ext _)=>True
 | _=>False
section
variable {P:Program}{w:World}{H:Hp}{h h':Heap}{x e:Addr}{o':HO}
theorem nh.write(ok:nh P w H h)(mu:Hq (H x))(he:e=x\/H e=some (.own x))(k:∀b u,b≠e->h.get? b=some u->h'.get? b=some u)(heo:∃u,h'.get? e=some u)
  (new:gS P w (gC H x o') h' x o'):nh P w (gC H x o') h':=λb u q=>by
 have nown:∀c y,H c=some (.own y)->c≠x:=λc y r z=>by subst z;rw[r] at mu;exact mu
 have ntup:∀c xs,H c=some (.tup xs)->c≠x:=λc xs r z=>by subst z;rw[r] at mu;exact mu
 by_cases hb:b=x
 ·subst hb;rw[d8] at q;cases q;exact new
 ·rw[ei hb] at q;by_cases hbe:b=e
  ·have q':H b=some (.own x):=by
    rcases he with z | z
    ·exact absurd (hbe.trans z) hb
    ·rw[hbe];exact z
   rw[q] at q';cases q';obtain⟨v,hv⟩:=heo;exact⟨v,by rw[hbe];exact hv⟩
  ·refine (ok b u q).stay (λc v hc r=>k c v ?_ r) (λc r=>by rw[ei (nown c b r)];exact r) λc xs r=>by rw[ei (ntup c xs r)];exact r
   rcases hc with rfl | hc
   ·exact hbe
   ·rintro rfl;rcases he with z | z
    ·exact nown c b hc z
    ·rw[hc] at z;cases z;exact hb rfl
end
structure Un(fs ex:List Addr)(H H':Hp)(h h':Heap):Prop where
 keep:∀b o,h.get? b=some o->H b=none->b∉fs->b∉ex->h'.get? b=some o
 slot:∀b o,h.get? b=some o->H b=none->b∈fs->b∉ex->∃sl,h'.get? b=some {o with slots:=sl}
 free:∀b o,h.get? b=some o->H b=none->b∉ex->H' b=none
 there:∀b o,h.get? b=some o->b∉ex->∃o',h'.get? b=some o'
 tups:∀b xs,H b=some (.tup xs)->H' b=some (.tup xs)
 frzs:∀b o u,H b=some (.frz o u)->H' b=some (.frz o u)
 tbls:∀b ps,H b=some (.tbl ps)->∃more,H' b=some (.tbl (ps++more))
section
variable {fs fs' ex ex':List Addr}{H H1 H2:Hp}{h h1 h2 h':Heap}{a x e:Addr}{o:HO}
theorem Un.any(u:Un fs ex H H1 h h1){b:Addr}{ob:Obj}(q:h.get? b=some ob)(n:H b=none)(hx:b∉ex):∃sl,h1.get? b=some {ob with slots:=sl}:=by
 by_cases hb:b∈fs
 ·exact u.slot b ob q n hb hx
 ·exact⟨ob.slots,u.keep b ob q n hb hx⟩
theorem Un.kept(k:∀b u,h.get? b=some u->h'.get? b=some u):Un fs ex H H h h':=⟨λb ob q _ _ _=>k b ob q,λb ob q _ _ _=>⟨ob.slots,k b ob q⟩,λ_ _ _ n _=>n,λb ob q _=>⟨ob,k b ob q⟩,λ_ _ q=>q,λ_ _ _ q=>q,λ_ ps q=>⟨#[],by rw[q];simp⟩⟩
theorem Un.refl:Un fs ex H H h h:=Un.kept λ_ _ q=>q
theorem Un.laid(k:∀b u,h.get? b=some u->h'.get? b=some u)(hp:h.objs.size<=a)(hn:H a=none):Un fs ex H (gC H a o) h h' where
 keep:=λb u q _ _ _=>k b u q
 slot:=λb u q _ _ _=>⟨u.slots,k b u q⟩
 free:=λb u q n _=>by rw[ei (aL (aD (aK q) hp))];exact n
 there:=λb u q _=>⟨u,k b u q⟩
 tups:=λb xs q=>by rw[ei (eG q hn)];exact q
 frzs:=λb u xs q=>by rw[ei (eG q hn)];exact q
 tbls:=λb ps q=>⟨#[],by rw[ei (eG q hn),q];simp⟩
theorem Un.write(mu:Hq (H x))(he:e=x\/H e=some (.own x))(k:∀b u,b≠e->h.get? b=some u->h'.get? b=some u)(heo:∃u,h'.get? e=some u):Un fs ex H (gC H x o) h h':=by
 have hx:∀b,H b=none->b≠x:=λb n z=>by subst z;rw[n] at mu;exact mu
 have hb:∀b,H b=none->b≠e:=λb n z=>by
  subst z;rcases he with r | r
  ·exact hx b n r
  ·rw[n] at r;cases r
 have hm:∀b u,H b=some u->¬Hq (some u)->b≠x:=λb u q nm z=>by subst z;rw[q] at mu;exact nm mu
 refine⟨λb u q n _ _=>k b u (hb b n) q,λb u q n _ _=>⟨u.slots,k b u (hb b n) q⟩,λb u q n _=>by rw[ei (hx b n)];exact n,λb u q _=>?_,
  λb xs q=>by rw[ei (hm b _ q λz=>z)];exact q,λb u xs q=>by rw[ei (hm b _ q λz=>z)];exact q,λb ps q=>⟨#[],by rw[ei (hm b _ q λz=>z),q];simp⟩⟩
 by_cases hbe:b=e
 ·subst hbe;exact heo
 ·exact⟨u,k b u hbe q⟩
end
def Hj(h:Heap)(H:Hp):List Addr:=(List.range h.objs.size).filter λa=>(H a).isSome
def rR(h:Heap)(H:Hp):Heap:=W.hideAll h (Hj h H)
theorem xO(h:Heap)(H:Hp):(rR h H).objs.size=h.objs.size:=W.hideAll_size _ _
theorem Ac{h:Heap}{H:Hp}{b:Addr}{o:Obj}(e:h.get? b=some o)(n:H b=none):(rR h H).get? b=some o:=W.hideAll_get _ e λhm=>by have q:(H b).isSome=true:=(aT.mp hm).2;rw[n] at q;simp at q
theorem CG{h:Heap}{H:Hp}{b:Addr}{o:Obj}(e:(rR h H).get? b=some o):h.get? b=some o/\H b=none:=by
 have e':h.get? b=some o:=W.of_hideAll (Hj h H) e;refine⟨e',?_⟩;cases q:H b with
 | none=>rfl
 | some x=>have hm:b∈Hj h H:=aT.mpr ⟨aR.mpr (aK e'),by simp[q]⟩;have z:(rR h H).get? b=none:=W.hideAll_none (Hj h H) hm;rw[z] at e;cases e
end L2
namespace L2
open PySem PySem.Spec PyProof.Rows
structure Mod(K:W.Frag)(mg:Str->Option Value)(base:Heap):Prop where
 kin:K.In base
 glob:base.Ns mainGlobals mg
 blt:∃mb,base.Ns builtinsNs mb/\∀x:Str,x≠ "__name__" ->mb x=bootBuiltins x
 nolimit:base.NoLimit
structure Cx where
 prog:Program
 w:World
 K:W.Frag
 mg:Str->Option Value
 base:Heap
 A:Around
 N:List Str
 s₀:Shared
 H₀:Hp
 env:Env
 outer:List Env
 stack:List Env
 ex:List Addr
 fn:Str->Bool
 calm:Bool
 pn:List (Addr×Obj)
 xe:Value->Shared->Prop
def yu(l:List Env):List Addr:=l.filterMap (·.frame)
abbrev Cx.fs(X:Cx):List Addr:=yu X.outer
def G3(sc:Scope)(x:Str):Prop:=sc.names.lookup x=some .local\/sc.names.lookup x=some .cell\/sc.names.lookup x=some .free
def xI(sc:Scope)(x:Str):Prop:=sc.names.lookup x=some .local\/sc.names.lookup x=some .cell
def Hz(env:Env)(h:Heap)(m:Str->Option Value)(x:Str)(u:Value):Prop:=(env.kindOf x=some .local/\m x=some u)\/((env.kindOf x=some .cell\/env.kindOf x=some .free)/\∃c,env.cells.lookup x=some c/\h.IsCell c (some u))
structure Cx.Ok(X:Cx):Prop where
 mod:Mod X.K X.mg X.base
 kind:X.env.scope.kind=.function
 glob:X.env.globals=mainGlobals
 blt:X.env.builtins=builtinsNs
 above:X.s₀.heap.objs.size<=X.env.locals
 inj:∀x y c,X.env.cells.lookup x=some c->X.env.cells.lookup y=some c->x=y
 has:∀x,(X.env.kindOf x=some .cell\/X.env.kindOf x=some .free)->∃c,X.env.cells.lookup x=some c
 cab:∀x c,X.fn x=true->X.env.cells.lookup x=some c->X.s₀.heap.objs.size<=c
 hd:X.calm=true->X.A.handled=none
 frames:X.A.frames=some X.stack
 stk:X.stack=X.outer\/(X.stack=X.env::X.outer/\X.env.frame=some X.env.locals)
 exf:∀b∈X.ex,b≠X.env.locals/\∀x c,X.env.cells.lookup x=some c->c≠b
 bs:∀b o,X.base.get? b=some o->X.s₀.heap.get? b=some o/\X.H₀ b=none
 bsz:X.base.objs.size<=X.s₀.heap.objs.size
 noex:∀b o,X.base.get? b=some o->b∉X.ex
 exfs:∀b∈X.ex,b∉X.fs
 funs:X.s₀.heap.FunFrames X.base X.outer
 frf:∀b∈X.fs,X.H₀ b=none
structure eh(X:Cx)(dH:List (Addr×Obj))(σ:List (Option V))(H:Hp)(s:Shared):Prop where
 ok:X.Ok
 os:s.os=X.s₀.os
 bare:AllBare s.gens
 base:Un X.fs X.ex X.H₀ H X.s₀.heap s.heap
 loc:∃m,s.heap.Ns X.env.locals m/\∀(i:Nat) (x:Str) (v:V),X.N[i]? = some x->σ[i]? = some (some v)->G3 X.env.scope x->∃u,fw v u/\Hz X.env s.heap m x u
 cell:∀x c,X.env.cells.lookup x=some c->∃v,s.heap.IsCell c v
 free:H X.env.locals=none
 freeC:∀x c,X.env.cells.lookup x=some c->H c=none
 pin:∀p∈X.pn++dH,s.heap.get? p.1=some p.2/\H p.1=none/\p.1≠X.env.locals/\p.1∉X.fs/\∀v,p.2.data≠.cell v
 hok:nh X.prog X.w H s.heap
 len:σ.length=X.N.length
section
variable {X:Cx}{dH:List (Addr×Obj)}{σ:List (Option V)}{H H':Hp}{s:Shared}{h':Heap}
theorem Cx.Ok.nofr(ok:X.Ok){b:Addr}{o:Obj}(e:X.base.get? b=some o):b∉X.fs:=λhb=>by have:=(ok.funs.mem hb).1;rw[e] at this;cases this
theorem eh.bs(I:eh X dH σ H s):∀b o,X.base.get? b=some o->s.heap.get? b=some o/\H b=none:=λb o e=>⟨I.base.keep b o (I.ok.bs b o e).1 (I.ok.bs b o e).2 (I.ok.nofr e) (I.ok.noex b o e),I.base.free b o (I.ok.bs b o e).1 (I.ok.bs b o e).2 (I.ok.noex b o e)⟩
theorem eh.bk(I:eh X dH σ H s):∀b o,X.base.get? b=some o->s.heap.get? b=some o:=λb o e=>(I.bs b o e).1
theorem eh.mod(I:eh X dH σ H s):Mod X.K X.mg X.base:=I.ok.mod
theorem eh.kIn(I:eh X dH σ H s):X.K.In s.heap:=I.ok.mod.kin.keeps I.bk
theorem eh.lt(I:eh X dH σ H s):X.env.locals<s.heap.objs.size:=let ⟨_,hn,_⟩:=I.loc;hn.lt
theorem eh.sz(I:eh X dH σ H s):X.s₀.heap.objs.size<=s.heap.objs.size:=aM I.ok.above (bc I.lt)
theorem eh.nofs(I:eh X dH σ H s){a:Addr}(h:s.heap.objs.size<=a):a∉X.fs:=λhb=>by obtain⟨_,o,ho,_⟩:=I.ok.funs.mem hb;exact absurd (aD (aK ho) (aM I.sz h)) (aZ _)
theorem eh.cne(I:eh X dH σ H s):∀x c,X.env.cells.lookup x=some c->c≠X.env.locals:=λx c e z=>by obtain⟨v,o,ho,hd⟩:=I.cell x c e;obtain⟨m,⟨o',es,ep,ho',hd',_⟩,_⟩:=I.loc;rw[z,ho'] at ho;cases ho;rw[hd'] at hd;cases hd
theorem eh.funs(I:eh X dH σ H s):s.heap.FunFrames X.base X.outer:=by
 have all:∀(l:List Env),(∀b∈yu l,b∈X.fs)->X.s₀.heap.FunFrames X.base l->s.heap.FunFrames X.base l:=by
  intro l;induction l with
  | nil=>intro _ _;trivial
  | cons env r ih=>intro hs hl;obtain⟨hk,⟨L,o,hf,hn,ho,hd⟩,hr⟩:=hl;have hL:L∈X.fs:=hs L (by unfold yu;rw[bf,hf];exact bg);obtain⟨sl,e⟩:=I.base.slot L o ho (I.ok.frf L hL) hL λz=>I.ok.exfs L z hL;exact⟨hk,⟨L,_,hf,hn,e,hd⟩,ih (λb hb=>hs b (by unfold yu;rw[bf,hf];exact bh _ hb)) hr⟩
 exact all X.outer (λ_ hb=>hb) I.ok.funs
theorem eh.stack(I:eh X dH σ H s):s.heap.FunFrames X.base X.stack:=by
 rcases I.ok.stk with e | ⟨e,hf⟩
 ·rw[e];exact I.funs
 ·rw[e];obtain⟨m,hn,_⟩:=I.loc;refine .cons (by rw[I.ok.kind];decide) hf hn ?_ I.funs;exact Heap.get?_none_of_le (aM I.ok.bsz I.ok.above)
theorem eh.stkSub(I:eh X dH σ H s):∀b∈yu X.stack,b∈X.env.locals::X.fs:=λb hb=>by
 rcases I.ok.stk with e | ⟨e,hf⟩
 ·rw[e] at hb;exact bh _ hb
 ·rw[e] at hb;unfold yu at hb;rw[bf,hf] at hb;exact hb
theorem eh.stkFree(I:eh X dH σ H s):∀b∈yu X.stack,H b=none:=λb hb=>by
 rcases aE.mp (I.stkSub b hb) with e | hb
 ·rw[e];exact I.free
 ·obtain⟨_,o,ho,_⟩:=I.ok.funs.mem hb;exact I.base.free b o ho (I.ok.frf b hb) λz=>I.ok.exfs b z hb
theorem eh.step{g':Array GenState}{t':Nat}{d':Drawn}{ch:List Addr}(I:eh X dH σ H s)
  (hch:∀b∈ch,(b∈X.ex\/X.s₀.heap.objs.size<=b)/\b≠X.env.locals/\(∀x c,X.env.cells.lookup x=some c->c≠b)/\∀p∈X.pn++dH,p.1≠b)
  (keep:∀b o,b≠X.env.locals->b∉X.fs->b∉ch->s.heap.get? b=some o->H b=none->h'.get? b=some o)
  (slot:∀b o,b≠X.env.locals->b∈X.fs->b∉ch->s.heap.get? b=some o->H b=none->∃sl,h'.get? b=some {o with slots:=sl}) (free:∀b o,b∉ch->s.heap.get? b=some o->H b=none->H' b=none)
  (there:∀b o,b∉ch->s.heap.get? b=some o->∃o',h'.get? b=some o')
  (tups:∀b xs,H b=some (.tup xs)->H' b=some (.tup xs)) (frzs:∀b o u,H b=some (.frz o u)->H' b=some (.frz o u)) (tbls:∀b ps,H b=some (.tbl ps)->∃more,H' b=some (.tbl (ps++more)))
  (ns:∀m,s.heap.Ns X.env.locals m->h'.Ns X.env.locals m) (hok:nh X.prog X.w H' h') (hg:AllBare g') :
  eh X dH σ H' {s with heap:=h',gens:=g',drawn:=d',toks:=t'}:=by
 have neL:∀b o,X.s₀.heap.get? b=some o->b≠X.env.locals:=λb o e=>aL (aD (aK e) I.ok.above);have neC:∀b o,X.s₀.heap.get? b=some o->b∉X.ex->b∉ch:=λb o e hx hb=>by
  rcases (hch b hb).1 with z | z
  ·exact hx z
  ·exact absurd (aD (aK e) z) (aZ _)
 have cellK:∀x c,X.env.cells.lookup x=some c->∀v,s.heap.IsCell c v->h'.IsCell c v:=λx c e v ⟨o,ho,hd⟩=>by
  have nch:c∉ch:=λz=>(hch c z).2.2.1 x c e rfl;by_cases hc:c∈X.fs
  ·obtain⟨sl,q⟩:=slot c o (I.cne x c e) hc nch ho (I.freeC x c e);exact⟨_,q,hd⟩
  ·exact⟨o,keep c o (I.cne x c e) hc nch ho (I.freeC x c e),hd⟩
 refine⟨I.ok,I.os,hg,⟨λb o e n hb hx=>?_,λb o e n hb hx=>?_,λb o e n hx=>?_,λb o e hx=>?_,λb xs e=>tups b xs (I.base.tups b xs e),λb o xs e=>frzs b o xs (I.base.frzs b o xs e),λb ps e=>?_⟩,?_,λx c e=>?_,?_,λx c e=>?_,λp hp=>?_,hok,I.len⟩
 ·exact keep b o (neL b o e) hb (neC b o e hx) (I.base.keep b o e n hb hx) (I.base.free b o e n hx)
 ·obtain⟨sl,e1⟩:=I.base.slot b o e n hb hx;obtain⟨sl',e2⟩:=slot b _ (neL b o e) hb (neC b o e hx) e1 (I.base.free b o e n hx);exact⟨sl',e2⟩
 ·obtain⟨o',e1⟩:=I.base.there b o e hx;exact free b o' (neC b o e hx) e1 (I.base.free b o e n hx)
 ·obtain⟨o',e1⟩:=I.base.there b o e hx;exact there b o' (neC b o e hx) e1
 ·obtain⟨m1,e1⟩:=I.base.tbls b ps e;obtain⟨m2,e2⟩:=tbls b _ e1;exact⟨m1++m2,by rw[e2,Array.append_assoc]⟩
 ·obtain⟨m,hn,hl⟩:=I.loc;refine⟨m,ns m hn,λi x v e1 e2 e3=>?_⟩;obtain⟨u,r,l⟩:=hl i x v e1 e2 e3;refine⟨u,r,?_⟩;rcases l with l | ⟨k,c,e,z⟩
  ·exact .inl l
  ·exact .inr ⟨k,c,e,cellK x c e _ z⟩
 ·obtain⟨v,z⟩:=I.cell x c e;exact⟨v,cellK x c e v z⟩
 ·obtain⟨m,⟨o,_,_,ho,_⟩,_⟩:=I.loc;exact free _ o (λz=>(hch _ z).2.1 rfl) ho I.free
 ·obtain⟨v,o,ho,hd⟩:=I.cell x c e;exact free c o (λz=>(hch c z).2.2.1 x c e rfl) ho (I.freeC x c e)
 ·obtain⟨e,n,ne,nf,d⟩:=I.pin p hp;have nch:p.1∉ch:=λz=>(hch p.1 z).2.2.2 p hp rfl;exact⟨keep p.1 p.2 ne nf nch e n,free p.1 p.2 nch e n,ne,nf,d⟩
theorem eh.un{t':Nat}(I:eh X dH σ H s)(u:Un X.fs [] H H' s.heap h')(hok:nh X.prog X.w H' h'):eh X dH σ H' {s with heap:=h',toks:=t'}:=by obtain⟨m,⟨o,es,ep,ho,r⟩,_⟩:=id I.loc;obtain⟨sl,hL⟩:=u.any ho I.free (by simp);exact I.step (g':=s.gens) (d':=s.drawn) (ch:=[]) (λ_ z=>nomatch z) (λb o _ hb _ e n=>u.keep b o e n hb (by simp)) (λb o _ hb _ e n=>u.slot b o e n hb (by simp)) (λb o _ e n=>u.free b o e n (by simp)) (λb o _ e=>u.there b o e (by simp)) u.tups u.frzs u.tbls (λm' hm=>by obtain⟨o',es',ep',ho',r'⟩:=hm;rw[ho] at ho';cases ho';exact⟨_,es',ep',hL,r'⟩) hok I.bare
theorem eh.call{g':Array GenState}{t':Nat}{d':Drawn}{ch:List Addr}(I:eh X dH σ H s)(u:Un (yu X.stack) ch H H' s.heap h')(hok:nh X.prog X.w H' h')(hg:AllBare g')
  (hch:∀b∈ch,(b∈X.ex\/X.s₀.heap.objs.size<=b)/\b≠X.env.locals/\(∀x c,X.env.cells.lookup x=some c->c≠b)/\∀p∈X.pn++dH,p.1≠b) :
  eh X dH σ H' {s with heap:=h',gens:=g',drawn:=d',toks:=t'}:=by
 obtain⟨m,⟨o,es,ep,ho,r⟩,_⟩:=id I.loc;obtain⟨sl,hL⟩:=u.any ho I.free λz=>(hch _ z).2.1 rfl;exact I.step (ch:=ch) hch (λb o hL hb hc e n=>u.keep b o e n (λz=>(aE.mp (I.stkSub b z)).elim hL hb) hc) (λb o _ _ hc e n=>u.any e n hc) (λb o hc e n=>u.free b o e n hc) (λb o hc e=>u.there b o e hc) u.tups u.frzs u.tbls (λm' hm=>by obtain⟨o',es',ep',ho',r'⟩:=hm;rw[ho] at ho';cases ho';exact⟨_,es',ep',hL,r'⟩) hok hg
theorem eh.turned{t':Nat}{it:Addr}(I:eh X dH σ H s)(k:∀b o,b≠it->s.heap.get? b=some o->h'.get? b=some o)(hn:H it=none)(hL:it≠X.env.locals)
  (h1:it∈X.ex\/X.s₀.heap.objs.size<=it) (h2:∀x c,X.env.cells.lookup x=some c->c≠it) (h3:∀p∈X.pn++dH,p.1≠it):eh X dH σ H {s with heap:=h',toks:=t'}:=by
 have nit:∀b u,H b=some u->b≠it:=λb u e z=>by rw[z,hn] at e;cases e
 refine I.step (g':=s.gens) (d':=s.drawn) (ch:=[it]) (λb hb=>?_) (λb o _ _ hc e _=>k b o (λz=>hc (by simp[z])) e) (λb o _ _ hc e _=>⟨o.slots,k b o (λz=>hc (by simp[z])) e⟩) (λ_ _ _ _ n=>n)
  (λb o hc e=>⟨o,k b o (λz=>hc (by simp[z])) e⟩) (λ_ _ e=>e) (λ_ _ _ e=>e) (λb ps e=>⟨#[],by rw[e];simp⟩) (λm hm=>?_) (λb u e=>?_) I.bare
 ·have e:b=it:=by simpa using hb
  subst e;exact⟨h1,hL,h2,h3⟩
 ·obtain⟨o,es,ep,ho,r⟩:=hm;exact⟨o,es,ep,k _ o (Ne.symm hL) ho,r⟩
 ·refine (I.hok b u e).stay (λc v hc q=>k c v ?_ q) (λ_ q=>q) λ_ _ q=>q;rcases hc with z | z
  ·rw[z];exact nit b u e
  ·exact nit c _ z
theorem eh.tok(I:eh X dH σ H s)(t:Nat):eh X dH σ H {s with toks:=t}:=I.un (h':=s.heap) (t':=t) Un.refl I.hok
theorem eh.kept{t':Nat}(I:eh X dH σ H s)(k:∀b u,s.heap.get? b=some u->h'.get? b=some u):eh X dH σ H {s with heap:=h',toks:=t'}:=I.un (Un.kept k) (I.hok.kept k)
theorem eh.laid{a:Addr}{o:HO}{t':Nat}(I:eh X dH σ H s)(k:∀b u,s.heap.get? b=some u->h'.get? b=some u)(hp:s.heap.objs.size<=a)(new:gS X.prog X.w (gC H a o) h' a o) :
  eh X dH σ (gC H a o) {s with heap:=h',toks:=t'}:=I.un (Un.laid k hp (I.hok.fresh hp)) (I.hok.laid k hp new)
theorem eh.write{x e:Addr}{o:HO}{t':Nat}(I:eh X dH σ H s)(mu:Hq (H x))(he:e=x\/H e=some (.own x))(k:∀b u,b≠e->s.heap.get? b=some u->h'.get? b=some u)(heo:∃u,h'.get? e=some u)
  (new:gS X.prog X.w (gC H x o) h' x o):eh X dH σ (gC H x o) {s with heap:=h',toks:=t'}:=I.un (Un.write mu he k heo) (I.hok.write mu he k heo new)
theorem eh.weak{σ':List (Option V)}(I:eh X dH σ H s)(hl:σ'.length=σ.length)(w:∀(i:Nat) v,σ'[i]? = some (some v)->σ[i]? = some (some v)):eh X dH σ' H s:=⟨I.ok,I.os,I.bare,I.base,let ⟨m,hn,hl'⟩:=I.loc;⟨m,hn,λi x v e1 e2 e3=>hl' i x v e1 (w i v e2) e3⟩,I.cell,I.free,I.freeC,I.pin,I.hok,hl.trans I.len⟩
theorem eh.pins_of{pins':List (Addr×Obj)}(I:eh X dH σ H s)(h:∀p∈pins',s.heap.get? p.1=some p.2/\H p.1=none/\p.1≠X.env.locals/\p.1∉X.fs/\∀v,p.2.data≠.cell v):eh X pins' σ H s:=⟨I.ok,I.os,I.bare,I.base,I.loc,I.cell,I.free,I.freeC,λp hp=>(ai.mp hp).elim (λz=>I.pin p (ax _ z)) (h p),I.hok,I.len⟩
theorem sU{N:List Str}(hN:N.Nodup){i j:Nat}{x:Str}(a:N[i]? = some x)(b:N[j]? = some x):i=j:=by obtain⟨h1,e1⟩:=aa.mp a;obtain⟨h2,e2⟩:=aa.mp b;exact (List.getElem_inj hN).mp (e1.trans e2.symm)
theorem qK{M:Model}{A:Around}{E:Value->Shared->Prop}{i:Nat}{x:Str}{v:V}{u:Value}{Q:Unit->Shared->Prop}(I:eh X dH σ H s)(hN:X.N.Nodup)(hi:X.N[i]? = some x)(hx:xI X.env.scope x)(r:fw v u)
  (h:∀s',eh X dH (σ.set i (some v)) H s'->(∃a,Heap.SameBut a s.heap s'.heap/\(a=X.env.locals\/X.env.cells.lookup x=some a))->Q () s') (hf:X.fn x=true\/X.env.scope.names.lookup x=some .local:=by first | exact .inl rfl | exact .inr rfl | assumption):wpAny M A (storeName X.env x u) Q E s:=by
 obtain⟨m,hn,hl⟩:=id I.loc;have hcls:(X.env.scope.kind == .class||(X.env.scope.kind == .module&&X.env.locals != X.env.globals))=false:=by rw[I.ok.kind];rfl
 have hiσ:i<σ.length:=by rw[I.len];exact (aa.mp hi).1
 have cne:=I.cne;have tracked:∀{a:Addr} {h':Heap},(∃o,s.heap.get? a=some o/\H a=none)->Heap.SameBut a s.heap h'->nh X.prog X.w H h':=λ{a h'} ha hs b ob e=>by
  obtain⟨_,_,hfree⟩:=ha;refine (I.hok b ob e).stay (λc w' hc q=>(hs.2 c ?_).trans q) (λ_ q=>q) λ_ _ q=>q;rintro rfl;rcases hc with rfl | hc
  ·rw[hfree] at e;cases e
  ·rw[hfree] at hc;cases hc
 rcases hx with hk | hk
 ·refine wpAny_storeName_local hk hn (λh' hn' hs=>?_) hcls;obtain⟨oL,_,_,hoL,_⟩:=id hn;refine h _ ⟨I.ok,I.os,I.bare,⟨λb o e n hb hx=>?_,λb o e n hb hx=>?_,I.base.free,λb o e hx=>?_,I.base.tups,I.base.frzs,I.base.tbls⟩,⟨_,hn',λj y v' e1 e2 e3=>?_⟩,λy c e=>?_,I.free,I.freeC,λp hp=>?_,tracked ⟨oL,hoL,I.free⟩ hs,by simpa using I.len⟩ ⟨_,hs,.inl rfl⟩
  ·exact (hs.2 b (aL (aD (aK e) I.ok.above))).trans (I.base.keep b o e n hb hx)
  ·obtain⟨sl,e1⟩:=I.base.slot b o e n hb hx;exact⟨sl,(hs.2 b (aL (aD (aK e) I.ok.above))).trans e1⟩
  ·obtain⟨o',e1⟩:=I.base.there b o e hx;exact⟨o',(hs.2 b (aL (aD (aK e) I.ok.above))).trans e1⟩
  ·by_cases hj:j=i
   ·subst hj;rw[hi] at e1;cases e1;rw[List.getElem?_set_self hiσ] at e2;cases e2;exact⟨u,r,.inl ⟨hk,by simp⟩⟩
   ·rw[aq (Ne.symm hj)] at e2;obtain⟨u',r',q⟩:=hl j y v' e1 e2 e3;refine⟨u',r',?_⟩;rcases q with⟨k,e⟩ | ⟨k,c,e,z⟩
    ·refine .inl ⟨k,?_⟩;have:y≠x:=λe=>hj (sU hN e1 (e▸hi));simp[this,e]
    ·exact .inr ⟨k,c,e,z.sameBut hs (cne y c e)⟩
  ·obtain⟨w',z⟩:=I.cell y c e;exact⟨w',z.sameBut hs (cne y c e)⟩
  ·obtain⟨e,n,ne,nf,d⟩:=I.pin p hp;exact⟨(hs.2 p.1 ne).trans e,n,ne,nf,d⟩
 ·have hfn:X.fn x=true:=by
   rcases hf with z | z
   ·exact z
   ·rw[z] at hk;cases hk
  obtain⟨c,hc⟩:=I.ok.has x (.inl hk);obtain⟨w',z⟩:=I.cell x c hc;refine wpAny_storeName_cell I.ok.kind hk hc z (λh' hc' hs=>?_);obtain⟨oc,hoc,hocd⟩:=id z;refine h {s with heap:=h'} ⟨I.ok,I.os,I.bare,⟨λb o e n hb hx=>?_,λb o e n hb hx=>?_,I.base.free,λb o e hx=>?_,I.base.tups,I.base.frzs,I.base.tbls⟩,⟨m,hn.sameBut hs (Ne.symm (cne x c hc)),λj y v' e1 e2 e3=>?_⟩,λy c' e=>?_,I.free,I.freeC,λp hp=>?_,tracked ⟨oc,hoc,I.freeC x c hc⟩ hs,by simpa using I.len⟩ ⟨c,hs,.inr hc⟩
  ·exact (hs.2 b (aL (aD (aK e) (I.ok.cab x c hfn hc)))).trans (I.base.keep b o e n hb hx)
  ·obtain⟨sl,e1⟩:=I.base.slot b o e n hb hx;exact⟨sl,(hs.2 b (aL (aD (aK e) (I.ok.cab x c hfn hc)))).trans e1⟩
  ·obtain⟨o',e1⟩:=I.base.there b o e hx;exact⟨o',(hs.2 b (aL (aD (aK e) (I.ok.cab x c hfn hc)))).trans e1⟩
  ·by_cases hj:j=i
   ·subst hj;rw[hi] at e1;cases e1;rw[List.getElem?_set_self hiσ] at e2;cases e2;exact⟨u,r,.inr ⟨.inl hk,c,hc,hc'⟩⟩
   ·rw[aq (Ne.symm hj)] at e2;obtain⟨u',r',q⟩:=hl j y v' e1 e2 e3;refine⟨u',r',?_⟩;rcases q with q | ⟨k,c',e,z'⟩
    ·exact .inl q
    ·refine .inr ⟨k,c',e,z'.sameBut hs ?_⟩;rintro rfl;exact hj (sU hN e1 (I.ok.inj _ _ _ e hc▸hi))
  ·by_cases hcc:c'=c
   ·subst hcc;exact⟨_,hc'⟩
   ·obtain⟨w2,z2⟩:=I.cell y c' e;exact⟨w2,z2.sameBut hs hcc⟩
  ·obtain⟨e,n,ne,nf,d⟩:=I.pin p hp;refine⟨(hs.2 p.1 ?_).trans e,n,ne,nf,d⟩;intro q;rw[q,hoc] at e;have q':oc=p.2:=Option.some.inj e;exact d w' (by rw[<-q'];exact hocd)
theorem um{M:Model}{A:Around}{E:Value->Shared->Prop}{i:Nat}{x:Str}{v:V}{u:Value}{Q:Unit->Shared->Prop}(I:eh X dH σ H s)(hN:X.N.Nodup)(hi:X.N[i]? = some x)(hx:xI X.env.scope x)(r:fw v u)
  (h:∀s',eh X dH (σ.set i (some v)) H s'->Q () s') (hf:X.fn x=true\/X.env.scope.names.lookup x=some .local:=by first | exact .inl rfl | exact .inr rfl | assumption):wpAny M A (storeName X.env x u) Q E s:=
 qK I hN hi hx r (λs' I' _=>h s' I') hf
theorem eh.call'{s':Shared}{ch:List Addr}(I:eh X dH σ H s)(ho:s'.os=s.os)(u:Un (yu X.stack) ch H H' s.heap s'.heap)(hok:nh X.prog X.w H' s'.heap)(hg:AllBare s'.gens)
  (hch:∀b∈ch,(b∈X.ex\/X.s₀.heap.objs.size<=b)/\b≠X.env.locals/\(∀x c,X.env.cells.lookup x=some c->c≠b)/\∀p∈X.pn++dH,p.1≠b):eh X dH σ H' s':=by
 obtain⟨h',g',d',t',o'⟩:=s';have e:o'=s.os:=ho;subst e;exact I.call (g':=g') (t':=t') (d':=d') u hok hg hch
end
abbrev XK:=Value->Option Addr->Hp->Prop
abbrev St:=List (Option V)
abbrev VK:=V->Hp->Prop
abbrev TE:=St->Hp->VK->Prop
abbrev TT:=St->Hp->(Bool->Hp->Prop)->Prop
abbrev TA:=St->Hp->(List V->Hp->Prop)->Prop
structure rT where
 nx:St->Hp->Prop
 rt:VK
 bk:St->Hp->Prop:=λ_ _=>False
 ct:St->Hp->Prop:=λ_ _=>False
abbrev TS:=rT->St->Hp->Prop
def EP(X:Cx)(dH:List (Addr×Obj))(σ:St)(Q:VK)(u:Value)(s':Shared):Prop:=∃v H',eh X dH σ H' s'/\fw v u/\Q v H'
def TP(X:Cx)(dH:List (Addr×Obj))(σ:St)(Q:Bool->Hp->Prop)(b:Bool)(s':Shared):Prop:=∃H',eh X dH σ H' s'/\Q b H'
def AP(X:Cx)(dH:List (Addr×Obj))(σ:St)(Q:List V->Hp->Prop)(us:List Value)(s':Shared):Prop:=∃vs H',eh X dH σ H' s'/\eF vs us/\Q vs H'
def SP(X:Cx)(dH:List (Addr×Obj))(D:rT)(f:Flow)(s':Shared):Prop:=
 match f with
 | .next=>∃σ' H',eh X dH σ' H' s'/\D.nx σ' H'
 | .brk=>∃σ' H',eh X dH σ' H' s'/\D.bk σ' H'
 | .cont=>∃σ' H',eh X dH σ' H' s'/\D.ct σ' H'
 | .ret u=>∃v σ' H',eh X dH σ' H' s'/\fw v u/\D.rt v H'
def PE(X:Cx)(e:Expr)(t:TE):Prop:=∀(dH:List (Addr×Obj)) (s:Shared) (σ:St) (H:Hp) (Q:VK),eh X dH σ H s->t σ H Q->wpAny (model X.prog X.w) X.A (eval e X.env) (EP X dH σ Q) X.xe s
def PT(X:Cx)(e:Expr)(t:TT):Prop:=∀(dH:List (Addr×Obj)) (s:Shared) (σ:St) (H:Hp) (Q:Bool->Hp->Prop),eh X dH σ H s->t σ H Q->wpAny (model X.prog X.w) X.A (isTrue e X.env (eval e X.env)) (TP X dH σ Q) X.xe s
def PW(X:Cx)(e:Expr)(t:TT):Prop:=∀(whole:Sem Value) (dH:List (Addr×Obj)) (s:Shared) (σ:St) (H:Hp) (Q:Bool->Hp->Prop),eh X dH σ H s->t σ H Q->wpAny (model X.prog X.w) X.A (isTrue e X.env whole) (TP X dH σ Q) X.xe s
theorem PW.pt{X:Cx}{e:Expr}{t:TT}(h:PW X e t):PT X e t:=h _
def PA(X:Cx)(es:List Expr)(t:TA):Prop:=∀(pos:Pos) (dH:List (Addr×Obj)) (s:Shared) (σ:St) (H:Hp) (Q:List V->Hp->Prop),eh X dH σ H s->t σ H Q->wpAny (model X.prog X.w) X.A (spliced (backTo pos (starEach es X.env))) (AP X dH σ Q) X.xe s
def PS(X:Cx)(st:Stmt)(t:TS):Prop:=∀(dH:List (Addr×Obj)) (s:Shared) (σ:St) (H:Hp) (D:rT),eh X dH σ H s->t D σ H->wpAny (model X.prog X.w) X.A (exec st X.env) (SP X dH D) X.xe s
def uk(X:Cx)(st:List Stmt)(t:TS):Prop:=∀(dH:List (Addr×Obj)) (s:Shared) (σ:St) (H:Hp) (D:rT),eh X dH σ H s->t D σ H->wpAny (model X.prog X.w) X.A (execs st X.env) (SP X dH D) X.xe s
theorem gp{α:Type}{t:Sem α}{Q Q':α->Shared->Prop}{M:Model}{A:Around}{E:Value->Shared->Prop}{s:Shared}(h:wpAny M A t Q E s)(hQ:∀a s,Q a s->Q' a s):wpAny M A t Q' E s:=wpAny_mono h hQ λ_ _ x=>x
end L2
namespace L2
open PySem PySem.Spec PyProof.Rows
section
variable {X:Cx}
def kQ(i:Nat):TE:=λσ H Q=>∃v,σ[i]? = some (some v)/\Q v H
def tC(v:V):TE:=λ_ H Q=>Q v H
theorem DS{i:Nat}{x:Str}{pos:Pos}(hN:X.N[i]? = some x)(hv:G3 X.env.scope x)(hd:(x == ("__debug__" : Str))=false:=by decide)(hcd:(x == ("__classdict__" : Str))=false:=by decide):PE X (.Name x pos) (kQ i):=by
 intro dH s σ H Q I h;obtain⟨v,e,h⟩:=h;obtain⟨m,hn,hl⟩:=I.loc;obtain⟨u,r,l⟩:=hl i x v hN e hv;have fin:EP X dH σ Q u s:=⟨v,H,I,r,h⟩;rcases l with⟨hk,hm⟩ | ⟨hk,c,hc,hcell⟩
 ·exact wpAny_Name (wpAny_loadName_local I.ok.kind hk hn hm fin) hd
 ·rcases hk with hk | hk
  ·exact wpAny_Name (wpAny_loadName_cell I.ok.kind hk hc hcell fin) hd
  ·exact wpAny_Name (wpAny_loadName_free I.ok.kind hk hc hcell fin hcd) hd
theorem EL{i j pos}:PE X (.Constant (.int i) j pos) (tC (.int i)):=λ_ _ _ H _ I h=>wpAny_Constant_int ⟨.int i,H,I.tok _,⟨_,rfl⟩,h⟩
theorem Gu{b j pos}:PE X (.Constant (.bool b) j pos) (tC (.bl b)):=λ_ _ _ H _ I h=>Constant_bool ⟨.bl b,H,I,rfl,h⟩
theorem DU{x j pos}:PE X (.Constant (.str x) j pos) (tC (.str x)):=λ_ _ _ H _ I h=>Calls.Constant_str ⟨.str x,H,I.tok _,⟨_,rfl⟩,h⟩
def Gl(X:Cx)(x:Str):Prop:=X.env.kindOf x=some .globalImplicit
theorem rJ{E:Value->Shared->Prop}{dH:List (Addr×Obj)}{s:Shared}{σ:St}{H:Hp}{x:Str}{u:Value}{pos:Pos}{Q:Value->Shared->Prop}(I:eh X dH σ H s)(hg:Gl X x)(hm:X.mg x=some u)(h:Q u s)
  (hd:(x == ("__debug__" : Str))=false:=by decide):wpAny (model X.prog X.w) X.A (eval (.Name x pos) X.env) Q E s:=
 Calls.Name_function_global I.ok.kind hg (Calls.loadGlobal_global (by rw[I.ok.glob];exact I.mod.glob.keeps I.bk) hm h) hd
theorem kl{E:Value->Shared->Prop}{dH:List (Addr×Obj)}{s:Shared}{σ:St}{H:Hp}{x:Str}{u:Value}{pos:Pos}{Q:Value->Shared->Prop}(I:eh X dH σ H s)(hg:Gl X x)(hm:X.mg x=none)(hv:bootBuiltins x=some u)(h:Q u s)
  (hn:x≠ "__name__" :=by decide) (hd:(x == ("__debug__" : Str))=false:=by decide):wpAny (model X.prog X.w) X.A (eval (.Name x pos) X.env) Q E s:=by
 obtain⟨mb,h1,h2⟩:=I.mod.blt;exact Calls.Name_function_global I.ok.kind hg (Calls.loadGlobal_builtin (by rw[I.ok.glob];exact I.mod.glob.keeps I.bk) hm (by rw[I.ok.blt];exact h1.keeps I.bk) ((h2 x hn).trans hv) h) hd
theorem Bm{x:Str}{v:V}{u:Value}{pos:Pos}(hg:Gl X x)(hm:X.mg x=some u)(r:fw v u)(hd:(x == ("__debug__" : Str))=false:=by decide):PE X (.Name x pos) (tC v):=λ_ _ _ H _ I h=>rJ I hg hm ⟨v,H,I,r,h⟩ hd
theorem Ce{x:Str}{v:V}{u:Value}{pos:Pos}(hg:Gl X x)(hm:X.mg x=none)(hv:bootBuiltins x=some u)(r:fw v u)(hn:x≠ "__name__" :=by decide)(hd:(x == ("__debug__" : Str))=false:=by decide):PE X (.Name x pos) (tC v):=λ_ _ _ H _ I h=>kl I hg hm hv ⟨v,H,I,r,h⟩ hn hd
variable {a b:Expr}{ta tb:TE}{pos:Pos}
def tB(t:TE):TT:=λσ H Q=>t σ H λx H1=>∃c,x=.bl c/\Q c H1
theorem ES{e:Expr}{t:TE}(h:PE X e t)(he:∀whole,isTrue e X.env whole=(do let v <-whole;standAt e.pos;holding [v] (truthy v)):=by intro _;rfl):PT X e (tB t):=by intro dH s σ H Q I hw;refine isTrue_plain (gp (h dH s σ H _ I hw) λv s1 ⟨x,H1,I1,r1,q1⟩=>?_) (he _);obtain⟨d,rfl,q⟩:=q1;cases r1;exact wpAny_truthy_bool ⟨H1,I1,q⟩
variable {tA tB':TT}{kn:List Expr}
def EZ(t u:TT):TT:=λσ H Q=>t σ H λc H1=>if c=true then u σ H1 Q else Q false H1
def HZ(t u:TT):TT:=λσ H Q=>t σ H λc H1=>if c=true then Q true H1 else u σ H1 Q
def DP(t:TT):TT:=λσ H Q=>t σ H λc H1=>Q (!c) H1
theorem C2(ha:PT X a tA):PW X (.BoolOp .And [a] pos) tA:=by
 intro wh dH s σ H Q I h;refine isTrue_and (gp (ha dH s σ H Q I h) λc s1 e=>?_);cases c with
 | true=>exact isTrue_and_nil e
 | false=>exact e
theorem FN(ha:PT X a tA):PW X (.BoolOp .Or [a] pos) tA:=by
 intro wh dH s σ H Q I h;refine isTrue_or (gp (ha dH s σ H Q I h) λc s1 e=>?_);cases c with
 | false=>exact isTrue_or_nil e
 | true=>exact e
theorem DX(ha:PT X a tA)(hb:PW X (.BoolOp .And (b::kn) pos) tB'):PW X (.BoolOp .And (a::b::kn) pos) (EZ tA tB'):=by
 intro wh dH s σ H Q I h;refine isTrue_and (gp (ha dH s σ H _ I h) λc s1 ⟨H1,I1,q1⟩=>?_);cases c with
 | true=>exact hb wh dH s1 σ H1 Q I1 q1
 | false=>exact⟨H1,I1,q1⟩
theorem G1(ha:PT X a tA)(hb:PW X (.BoolOp .Or (b::kn) pos) tB'):PW X (.BoolOp .Or (a::b::kn) pos) (HZ tA tB'):=by
 intro wh dH s σ H Q I h;refine isTrue_or (gp (ha dH s σ H _ I h) λc s1 ⟨H1,I1,q1⟩=>?_);cases c with
 | true=>exact⟨H1,I1,q1⟩
 | false=>exact hb wh dH s1 σ H1 Q I1 q1
theorem EO(ha:PT X a tA):PT X (.UnaryOp .Not a pos) (DP tA):=by intro dH s σ H Q I h;exact isTrue_not (ha dH s σ H (λc H1=>Q (!c) H1) I h)
def AZ(ta tb:TE):TE:=λσ H Q=>ta σ H λx H1=>∃c,x=.bl c/\if c=true then tb σ H1 Q else Q (.bl false) H1
def zO(ta:TE):TE:=λσ H Q=>ta σ H λx H1=>∃c,x=.bl c/\Q (.bl (!c)) H1
theorem Ey{op}{t:TE}(h:PE X a t):PE X (.BoolOp op [a] pos) t:=λdH s σ H Q I hw=>BoolOp_one (h dH s σ H Q I hw)
theorem FE(ha:PE X a ta)(hb:PE X (.BoolOp .And (b::kn) pos) tb):PE X (.BoolOp .And (a::b::kn) pos) (AZ ta tb):=by
 intro dH s σ H Q I h;refine BoolOp_and (gp (ha dH s σ H _ I h) λv s1 ⟨x,H1,I1,r1,q1⟩=>?_);obtain⟨c,rfl,q1⟩:=q1;cases r1;refine wpAny_truthy_bool ?_;cases c with
 | true=>exact hb dH s1 σ H1 Q I1 q1
 | false=>exact⟨.bl false,H1,I1,rfl,q1⟩
theorem EA(ha:PE X a ta):PE X (.UnaryOp .Not a pos) (zO ta):=by intro dH s σ H Q I h;refine UnaryOp_ (gp (ha dH s σ H _ I h) λv s1 ⟨x,H1,I1,r1,q1⟩=>?_);obtain⟨c,rfl,q1⟩:=q1;cases r1;exact not_of (wpAny_truthy_bool ⟨.bl (!c),H1,I1,rfl,q1⟩)
def H9(t:TT)(ta tb:TE):TE:=λσ H Q=>t σ H λc H1=>if c=true then ta σ H1 Q else tb σ H1 Q
theorem AF{c:Expr}(hc:PT X c tA)(ha:PE X a ta)(hb:PE X b tb):PE X (.IfExp c a b pos) (H9 tA ta tb):=by
 intro dH s σ H Q I h;refine wpAny_IfExp (gp (hc dH s σ H _ I h) λd s1 ⟨H1,I1,q1⟩=>?_);cases d with
 | true=>exact ha dH s1 σ H1 Q I1 q1
 | false=>exact hb dH s1 σ H1 Q I1 q1
end
end L2
namespace L2
open PySem PySem.Spec PyProof.Rows
def ig(K:W.Frag)(H:Hp)(a:Addr)(xs:List V):Prop:=
 Rd H a (.lst xs)\/
  ∃(o:Obj) (its:Array Value) (n:Nat),K.lookup a=some o/\o.cls=.type "list" /\o.dict=none/\o.data=.seq its n/\its.size<=sizeLine/\eF xs its.toList
def iL(K:W.Frag)(H:Hp)(a:Addr)(xs:List V):Prop:=
 Rd H a (.tup xs)\/
  ∃(o:Obj) (its:Array Value) (n:Nat),K.lookup a=some o/\o.cls=.type "tuple" /\o.data=.seq its n/\its.size<=sizeLine/\eF xs its.toList
def HV:Value->Option V
 | .none=>some .non
 | .bool b=>some (.bl b)
 | .int i _=>some (.int i)
 | .str x _=>some (.str x)
 | .bytes b _=>some (.byt b)
 | .float b _=>some (.flt b)
 | .ref a=>some (.ref a)
 | .type n=>some (.ty n)
 | _=>none
theorem fw.abs{x:V}{u:Value}(r:fw x u):HV u=some x:=by
 cases x with
 | non=>cases r;rfl
 | bl _=>cases r;rfl
 | int _=>obtain⟨t,rfl⟩:=r;rfl
 | str _=>obtain⟨t,rfl⟩:=r;rfl
 | byt _=>obtain⟨t,rfl⟩:=r;rfl
 | flt _=>obtain⟨t,rfl⟩:=r;rfl
 | ref _=>cases r;rfl
 | ty _=>cases r;rfl
theorem fw.inj{x y:V}{u:Value}(r:fw x u)(q:fw y u):x=y:=Option.some.inj (r.abs.symm.trans q.abs)
theorem eF.inj:∀{xs ys:List V} {us:List Value},eF xs us->eF ys us->xs=ys
 | _,_,_,.nil,.nil=>rfl
 | _,_,_,.cons r t,.cons r' t'=>by rw[r.inj r',eF.inj t t']
section
variable {X:Cx}{dH:List (Addr×Obj)}{σ:St}{H:Hp}{s:Shared}{a:Addr}{xs ys:List V}
theorem ig.of{K:W.Frag}(h:H a=some (.lst xs)):ig K H a xs:=.inl (.inl h)
theorem iL.of{K:W.Frag}(h:H a=some (.tup xs)):iL K H a xs:=.inl (.inl h)
theorem eh.list(I:eh X dH σ H s)(h:ig X.K H a xs):∃its:List Value,eF xs its/\PlainL s.heap a its.toArray/\xs.length<=sizeLine:=by
 rcases h with h | ⟨o,its,n,hk,hc,hd,hs,hz,r⟩
 ·obtain⟨z,its,n,r,e⟩:=h.ok I.hok;exact⟨its,r,⟨_,n,e,rfl,rfl,rfl⟩,z⟩
 ·refine⟨its.toList,r,⟨o,n,I.kIn a o hk,hc,hd,by simpa using hs⟩,?_⟩;have e:=r.length;simp only[bj] at e;omega
theorem eh.tuple(I:eh X dH σ H s)(h:iL X.K H a xs):∃its:List Value,eF xs its/\IsTup s.heap a its.toArray/\xs.length<=sizeLine:=by
 rcases h with h | ⟨o,its,n,hk,hc,hs,hz,r⟩
 ·obtain⟨z,its,r,p⟩:=h.ok I.hok;exact⟨its,r,p,z⟩
 ·refine⟨its.toList,r,⟨o,I.kIn a o hk,hc,n,by simpa using hs⟩,?_⟩;have e:=r.length;simp only[bj] at e;omega
theorem eh.list_inj(I:eh X dH σ H s)(h:ig X.K H a xs)(h':ig X.K H a ys):xs=ys:=by
 obtain⟨its,r,⟨o,n,e,_,_,d⟩,_⟩:=I.list h;obtain⟨its',r',⟨o',n',e',_,_,d'⟩,_⟩:=I.list h';rw[e] at e';cases e';rw[d] at d';injection d' with d1 _;have:its=its':=by simpa using congrArg Array.toList d1
 subst this;exact r.inj r'
theorem eh.tuple_inj(I:eh X dH σ H s)(h:iL X.K H a xs)(h':iL X.K H a ys):xs=ys:=by
 obtain⟨its,r,⟨o,e,_,n,d⟩,_⟩:=I.tuple h;obtain⟨its',r',⟨o',e',_,n',d'⟩,_⟩:=I.tuple h';rw[e] at e';cases e';rw[d] at d';injection d' with d1 _;have:its=its':=by simpa using congrArg Array.toList d1
 subst this;exact r.inj r'
end
abbrev Cx.wish(X:Cx)(E:Value->Shared->Prop):Cx:={X with xe:=E}
abbrev Cx.nox(X:Cx):Cx:=X.wish λ_ _=>False
theorem Cx.Ok.wish{X:Cx}(ok:X.Ok)(E:Value->Shared->Prop):(X.wish E).Ok:=⟨ok.mod,ok.kind,ok.glob,ok.blt,ok.above,ok.inj,ok.has,ok.cab,ok.hd,ok.frames,ok.stk,ok.exf,ok.bs,ok.bsz,ok.noex,ok.exfs,ok.funs,ok.frf⟩
theorem Cx.Ok.unwish{X:Cx}{E:Value->Shared->Prop}(ok:(X.wish E).Ok):X.Ok:=⟨ok.mod,ok.kind,ok.glob,ok.blt,ok.above,ok.inj,ok.has,ok.cab,ok.hd,ok.frames,ok.stk,ok.exf,ok.bs,ok.bsz,ok.noex,ok.exfs,ok.funs,ok.frf⟩
section
variable {X:Cx}{dH:List (Addr×Obj)}{σ:St}{H:Hp}{s:Shared}{E:Value->Shared->Prop}
theorem eh.wish(I:eh X dH σ H s)(E:Value->Shared->Prop):eh (X.wish E) dH σ H s:=⟨I.ok.wish E,I.os,I.bare,I.base,I.loc,I.cell,I.free,I.freeC,I.pin,I.hok,I.len⟩
theorem eh.unwish(I:eh (X.wish E) dH σ H s):eh X dH σ H s:=⟨I.ok.unwish,I.os,I.bare,I.base,I.loc,I.cell,I.free,I.freeC,I.pin,I.hok,I.len⟩
theorem SP.unwish{D:rT}{f:Flow}{s':Shared}(h:SP (X.wish E) dH D f s'):SP X dH D f s':=by
 cases f with
 | next=>obtain⟨σ',H',I,q⟩:=h;exact⟨σ',H',I.unwish,q⟩
 | brk=>obtain⟨σ',H',I,q⟩:=h;exact⟨σ',H',I.unwish,q⟩
 | cont=>obtain⟨σ',H',I,q⟩:=h;exact⟨σ',H',I.unwish,q⟩
 | ret u=>obtain⟨v,σ',H',I,r,q⟩:=h;exact⟨v,σ',H',I.unwish,r,q⟩
theorem uk.nox{st:List Stmt}{t:TS}(h:uk X.nox st t):uk X st t:=λdH s σ H D I hw=>wpAny_mono (h dH s σ H D (I.wish _) hw) (λ_ _ q=>q.unwish) λ_ _ z=>False.elim z
end
section
variable {X:Cx}{st:Stmt}{kn:List Stmt}{t u:TS}{e:Expr}{te:TE}{pos:Pos}
def yR:TS:=λD σ H=>D.nx σ H
def Bh(t u:TS):TS:=λD σ H=>t {D with nx:=u D} σ H
theorem Cj:uk X [] yR:=λ_ _ σ H _ I h=>wpAny_execs_nil ⟨σ,H,I,h⟩
theorem sR(h1:PS X st t)(h2:uk X kn u):uk X (st::kn) (Bh t u):=by
 intro dH s σ H D I h;refine wpAny_execs_cons (gp (h1 dH s σ H {D with nx:=u D} I h) λf s1 q=>?_);cases f with
 | next=>obtain⟨σ',H',I',q⟩:=q;exact h2 dH s1 σ' H' D I' q
 | ret v=>exact q
 | brk=>exact q
 | cont=>exact q
theorem wG(h1:PS X st t):uk X [st] t:=by
 intro dH s σ H D I h;refine wpAny_execs_cons (gp (h1 dH s σ H D I h) λf s1 q=>?_);cases f with
 | next=>exact wpAny_execs_nil q
 | ret v=>exact q
 | brk=>exact q
 | cont=>exact q
theorem eh.quiet{dH:List (Addr×Obj)}{σ:St}{H:Hp}{s:Shared}(I:eh X dH σ H s):interactive X.env=false:=by simp[interactive,I.ok.kind]
def tm(te:TE):TS:=λD σ H=>te σ H λ_ H1=>D.nx σ H1
theorem xc(he:PE X e te)(hs:swapsWith e none pos.line X.env=pure false:=by rfl):PS X (.Expr e pos) (tm te):=by intro dH s σ H D I h;exact wpAny_Expr_any (gp (he dH s σ H _ I h) λv s1 ⟨x,H1,I1,r1,q1⟩=>⟨σ,H1,I1,q1⟩) I.quiet hs
def vZ(te:TE):TS:=λD σ H=>te σ H D.rt
theorem uF(he:PE X e te):PS X (.Return (some e) pos) (vZ te):=by intro dH s σ H D I h;exact wpAny_Return_some (gp (he dH s σ H _ I h) λv s1 ⟨x,H1,I1,r1,q1⟩=>⟨x,σ,H1,I1,r1,q1⟩)
def Ek(c:TT)(t u:TS):TS:=λD σ H=>c σ H λb H1=>if b=true then t D σ H1 else u D σ H1
theorem F8{c:Expr}{a b:List Stmt}{tc:TT}(hc:PT X c tc)(ha:uk X a t)(hb:uk X b u):PS X (.If c a b pos) (Ek tc t u):=by
 intro dH s σ H D I h;refine wpAny_If (gp (hc dH s σ H _ I h) λd s1 ⟨H1,I1,q1⟩=>?_);cases d with
 | true=>exact ha dH s1 σ H1 D I1 q1
 | false=>exact hb dH s1 σ H1 D I1 q1
def uL:TS:=λ_ _ _=>False
theorem zm:PS X st uL:=λ_ _ _ _ _ _ h=>h.elim
end
abbrev TG:=V->St->Hp->(St->Hp->Prop)->Prop
abbrev uw:=List V->St->Hp->(St->Hp->Prop)->Prop
def PG(X:Cx)(target:Expr)(t:TG):Prop:=
 ∀(dH:List (Addr×Obj)) (s:Shared) (σ:St) (H:Hp) (v:V) (u:Value) (Q:St->Hp->Prop),eh X dH σ H s->fw v u->t v σ H Q->
  wpAny (model X.prog X.w) X.A (assign target X.env u) (λ_ s'=>∃σ' H',eh X dH σ' H' s'/\Q σ' H') X.xe s
def FX(X:Cx)(ts:List Expr)(t:uw):Prop:=
 ∀(dH:List (Addr×Obj)) (s:Shared) (σ:St) (H:Hp) (vs:List V) (us:List Value) (Q:St->Hp->Prop),eh X dH σ H s->eF vs us->t vs σ H Q->
  wpAny (model X.prog X.w) X.A (assignInOrder ((assignEach ts X.env).map (·.2)) us) (λ_ s'=>∃σ' H',eh X dH σ' H' s'/\Q σ' H') X.xe s
abbrev E4:=V->V->V->Hp->(Hp->Prop)->Prop
def GA(X:Cx)(t:E4):Prop:=
 ∀(dH:List (Addr×Obj)) (s:Shared) (σ:St) (H:Hp) (o i v:V) (ov iv u:Value) (Q:Hp->Prop),eh X dH σ H s->fw o ov->fw i iv->fw v u->t o i v H Q->
  wpAny (model X.prog X.w) X.A (setItem ov iv u) (λ_ s'=>∃H',eh X dH σ H' s'/\Q H') X.xe s
section
variable {X:Cx}{pos:Pos}
def gB(i:Nat):TG:=λv σ H Q=>Q (σ.set i (some v)) H
theorem wN{i:Nat}{x:Str}(hN:X.N.Nodup)(hi:X.N[i]? = some x)(hx:xI X.env.scope x)(hf:X.fn x=true\/X.env.scope.names.lookup x=some .local:=by first | exact .inl rfl | exact .inr rfl | assumption):PG X (.Name x pos) (gB i):=by intro dH s σ H v u Q I r h;exact wpAny_assign_Name (um I hN hi hx r (λs' I'=>⟨_,H,I',h⟩) hf)
def xo:uw:=λvs σ H Q=>vs=[]/\Q σ H
def pB(t:TG)(u:uw):uw:=λvs σ H Q=>∃v r,vs=v::r/\t v σ H λσ' H'=>u r σ' H' Q
theorem wI:FX X [] xo:=by intro dH s σ H vs us Q I r h;obtain⟨e,h⟩:=h;subst e;cases r;exact assignInOrder_nil ⟨σ,H,I,h⟩
theorem sM{e:Expr}{es:List Expr}{t:TG}{u:uw}(h1:PG X e t)(h2:FX X es u)
  (hs:(assignEach (e::es) X.env).map (·.2)=assign e X.env::(assignEach es X.env).map (·.2):=by rfl):FX X (e::es) (pB t u):=by
 intro dH s σ H vs us Q I r h;obtain⟨v,vr,e1,h⟩:=h;subst e1;cases r with
 | cons r rr=>rw[hs];refine assignInOrder_cons (gp (h1 dH s σ H _ _ _ I r h) λ_ s1 ⟨σ1,H1,I1,q1⟩=>?_);exact h2 dH s1 σ1 H1 _ _ Q I1 rr q1
def xR(K:W.Frag)(n:Nat)(t:uw):TG:=λv σ H Q=>∃a xs,v=.ref a/\iL K H a xs/\xs.length=n/\t xs σ H Q
theorem AV{es:List Expr}{k:Nat}{t:uw}{n:Nat}(hc:X.calm=true)(h:FX X es t)
  (hn:(assignEach es X.env).length=n:=by rfl) (hst:(assignEach es X.env).findIdx? (·.1)=none:=by rfl):PG X (.Tuple es k pos) (xR X.K n t):=by
 intro dH s σ H v u Q I r hw;obtain⟨a,xs,e1,hq,hl,hw⟩:=hw;subst e1;cases r;obtain⟨its,rv,ht,hz⟩:=I.tuple hq;refine assign_Tuple_tuple (I.ok.hd hc) ht (by simp[hn,<-hl,rv.length]) hst λh' hx=>?_;have I1:eh X dH σ H {s with heap:=h'}:=I.kept (t':=s.toks) λb o e=>hx b o (aL (aK e)) e;exact h dH _ σ H xs _ Q I1 (by simpa using rv) hw
def FC(to ti:TE)(t:E4):TG:=λv σ H Q=>to σ H λo H1=>ti σ H1 λi H2=>t o i v H2 λH3=>Q σ H3
theorem E2{o i:Expr}{to ti:TE}{t:E4}(ho:PE X o to)(hi:PE X i ti)(hs:GA X t)
  (ha:∀v,assign (.Subscript o i pos) X.env v=(do
   let ov <-holding [v] (eval o X.env)
   let iv <-holding [v,ov] (eval i X.env)
   standAt pos
   holding [v,ov,iv] (setItem ov iv v)
   release [v,ov,iv] []):=by intro _;rfl):PG X (.Subscript o i pos) (FC to ti t):=by
 intro dH s σ H v u Q I r h;rw[ha];refine ao (wpAny_holding (gp (ho dH s σ H _ I h) λov s1 ⟨x,H1,I1,r1,q1⟩=>?_));refine ao (wpAny_holding (gp (hi dH s1 σ H1 _ I1 q1) λiv s2 ⟨y,H2,I2,r2,q2⟩=>?_));refine ao (wpAny_standAt (ao (wpAny_holding (gp (hs dH s2 σ H2 x y v ov iv u _ I2 r1 r2 r q2) λ_ s3 ⟨H3,I3,q3⟩=>?_))));exact wpAny_release ⟨σ,H3,I3,q3⟩
def ki(te:TE)(g:TG):TS:=λD σ H=>te σ H λx H1=>g x σ H1 D.nx
theorem FM{tg e:Expr}{te:TE}{g:TG}(he:PE X e te)(hg:PG X tg g)(hs:swapsWithSole [tg] e pos.line X.env=pure false:=by rfl)(hw:swappedStores [tg] e X.env=pure none:=by rfl)
  (h1:(assignEach [tg] X.env).map (·.2)=[assign tg X.env]:=by rfl):PS X (.Assign [tg] e pos) (ki te g):=by
 intro dH s σ H D I h;refine wpAny_Assign_stores (gp (he dH s σ H _ I h) λv s1 ⟨x,H1,I1,r1,q1⟩=>?_) hs hw;rw[h1];exact gp (hg dH s1 σ H1 x v _ I1 r1 q1) λ_ s2 q=>q
theorem rV{i:Nat}{x:Str}{e:Expr}{te:TE}{pos':Pos}(hN:X.N.Nodup)(hi:X.N[i]? = some x)(hx:xI X.env.scope x)(he:PE X e te)(hs:swapsWith e (some (.Name x pos')) pos.line X.env=pure false:=by rfl)(hf:X.fn x=true\/X.env.scope.names.lookup x=some .local:=by first | exact .inl rfl | exact .inr rfl | assumption) :
  PS X (.Assign [.Name x pos'] e pos) (ki te (gB i)):=by
 intro dH s σ H D I h;refine wpAny_Assign_Name (gp (he dH s σ H _ I h) λv s1 ⟨y,H1,I1,r1,q1⟩=>?_) hs;exact um I1 hN hi hx r1 (λs2 I2=>⟨_,H1,I2,q1⟩) hf
end
section
variable {X:Cx}{pos:Pos}
def uB(c:TT)(tb:TS):TS:=λD σ H=>∃W:Nat->St->Hp->Prop,(∃m,W m σ H)/\∀m σ H,W m σ H->
 c σ H λb H1=>if b=true then ∃N:St->Hp->Prop,(∀σ' H',N σ' H'->∃m',m'<m/\W m' σ' H')/\tb {D with nx:=N,ct:=N,bk:=D.nx} σ H1 else D.nx σ H1
theorem yX{c:Expr}{body:List Stmt}{tc:TT}{tb:TS}(hp:PassesOwn (model X.prog X.w) X.A X.env X.xe)(hc:PT X c tc)(hb:uk X body tb):PS X (.While c body [] pos) (uB tc tb):=by
 intro dH s σ H D I h;obtain⟨W,⟨m0,w0⟩,turn⟩:=h;refine wpAny_While (codeAny_whileLoop (λn s'=>∃σ' H',eh X dH σ' H' s'/\W n σ' H') ?_ m0 ⟨σ,H,I,w0⟩);rintro n s1 ⟨σ1,H1,I1,w1⟩;refine wpAny_passesOwn hp (gp (hc dH s1 σ1 H1 _ I1 (turn n σ1 H1 w1)) λb s2 ⟨H2,I2,q2⟩=>?_);cases b with
 | true=>
  obtain⟨N,hN,q2⟩:=q2;rw[aP rfl];refine wpAny_passesOwn hp (gp (hb dH s2 σ1 H2 _ I2 q2) λf s3 q3=>?_);cases f with
  | next=>obtain⟨σ3,H3,I3,n3⟩:=q3;obtain⟨m',hm,w3⟩:=hN σ3 H3 n3;exact⟨m',hm,σ3,H3,I3,w3⟩
  | cont=>obtain⟨σ3,H3,I3,n3⟩:=q3;obtain⟨m',hm,w3⟩:=hN σ3 H3 n3;exact⟨m',hm,σ3,H3,I3,w3⟩
  | brk=>exact q3
  | ret v=>exact q3
 | false=>rw[aQ aG];exact wpAny_execs_nil ⟨σ1,H2,I2,q2⟩
end
structure It where
 go:Nat->Hp->Prop
 yld:Nat->Hp->V->Hp->Prop
 stop:Nat->Hp->Prop
def nX(X:Cx)(dH:List (Addr×Obj))(H:Hp)(b:Addr):Prop:=H b=none/\b≠X.env.locals/\b∉X.fs/\(b∈X.ex\/X.s₀.heap.objs.size<=b)/\(∀x c,X.env.cells.lookup x=some c->c≠b)/\∀p∈X.pn++dH,p.1≠b
theorem eh.fpOk{X:Cx}{dH:List (Addr×Obj)}{σ:St}{H H':Hp}{s:Shared}{b:Addr}(I:eh X dH σ H s)(hb:s.heap.objs.size<=b)(hn:H' b=none):nX X dH H' b:=by
 refine⟨hn,bp (aD I.lt hb),I.nofs hb,.inr (aM I.sz hb),λx c e z=>?_,λp hp z=>?_⟩
 ·obtain⟨v,q⟩:=I.cell x c e;exact absurd (aD q.lt (by rw[z];exact hb)) (aZ _)
 ·exact absurd (aD (aK (I.pin p hp).1) (by rw[z];exact hb)) (aZ _)
structure vx(P:Program)(w:World)(K:W.Frag)(tg:Expr)(J:It)(fp:List Addr)(it:Addr)(tn:Nat->Heap->Prop):Prop where
 mem:it∈fp
 obj:∀i h,tn i h->∀b∈fp,∃o,h.get? b=some o/\∀v,o.data≠.cell v
 keep:∀i h h',tn i h->(∀b∈fp,∀o,h.get? b=some o->h'.get? b=some o)->tn i h'
 item:∀(X:Cx),X.prog=P->X.w=w->X.K=K->X.calm=true->∀(i:Nat) (dH:List (Addr×Obj)) (s:Shared) (σ:St) (H:Hp) (E:Value->Shared->Prop),eh X dH σ H s->(∀b∈fp,nX X dH H b)->tn i s.heap->J.go i H->
  wpAny (model P w) X.A (pyNext (.ref it)) (λr s1=>∃u,r=some u/\
   wpAny (model P w) X.A (letOwnedTupleGo tg (.ref it) u) (λ_ s2=>∃x H',eh X dH σ H' s2/\fw x u/\J.yld i H x H'/\tn (i+1) s2.heap/\∀b∈fp,H' b=none) E s1) E s
 done:∀(X:Cx),X.prog=P->X.w=w->X.K=K->X.calm=true->∀(i:Nat) (dH:List (Addr×Obj)) (s:Shared) (σ:St) (H:Hp) (E:Value->Shared->Prop),eh X dH σ H s->(∀b∈fp,nX X dH H b)->tn i s.heap->J.stop i H->
  wpAny (model P w) X.A (pyNext (.ref it)) (λr s1=>r=none/\eh X dH σ H s1) E s
 self:∀(A:Around) (i:Nat) (s:Shared) (Q:Value->Shared->Prop) (E:Value->Shared->Prop),tn i s.heap->Q (.ref it) s->wpAny (model P w) A (pyIter (.ref it)) Q E s
abbrev TI:=St->Hp->(It->Hp->Prop)->Prop
def Io(X:Cx)(dH:List (Addr×Obj))(σ:St)(tg:Expr)(R:It->Hp->Prop)(itv:Value)(s2:Shared):Prop:=∃(it:Addr) (fp:List Addr) (tn:Nat->Heap->Prop) (J:It) (H':Hp),itv=.ref it/\eh X dH σ H' s2/\vx X.prog X.w X.K tg J fp it tn/\tn 0 s2.heap/\(∀b∈fp,nX X dH H' b)/\R J H'
def PI(X:Cx)(tg iter:Expr)(wi:TI):Prop:=
 ∀(dH:List (Addr×Obj)) (s:Shared) (σ:St) (H:Hp) (R:It->Hp->Prop),eh X dH σ H s->wi σ H R->
  wpAny (model X.prog X.w) X.A (eval iter X.env) (λv s1=>wpAny (model X.prog X.w) X.A (pyIter v) (Io X dH σ tg R) X.xe s1) X.xe s
theorem zR{M:Model}{A:Around}{E:Value->Shared->Prop}{s:Shared}{tg:Expr}{it:Addr}{u:Value}{o:Obj}{n:String}{vs:Array Value}{Q:Unit->Shared->Prop}(ho:s.heap.get? it=some o)(hc:o.cls=.type n)(hd:o.data=.fields vs)
    (hn:["enumerate", "zip", "dict_itemiterator", "dict_reverseitemiterator", "odict_iterator", "itertools.zip_longest", "itertools.pairwise"].contains n=false) (hQ:Q () s):wpAny M A (letOwnedTupleGo tg (.ref it) u) Q E s:=by
  unfold letOwnedTupleGo;cases tg<;>first
    | exact ak hQ
    | (cases u<;>first
        | exact ak hQ
        | (refine ao (wpAny_load ho ?_)
           rw[hc,hd]
           show wpAny M A (if (["enumerate", "zip", "dict_itemiterator", "dict_reverseitemiterator", "odict_iterator", "itertools.zip_longest", "itertools.pairwise"].contains n&&vs[0]? == some (rawInt _))=true then _ else _) Q E s
           rw[aQ (by intro h;rw[hn,Bool.false_and] at h;cases h)]
           exact ak hQ))
def Hu(K:W.Frag)(a:Addr):It:=⟨λi H=>∃xs x,ig K H a xs/\xs[i]? = some x,λi H x H'=>H'=H/\∀xs,ig K H a xs->xs[i]? = some x,λi H=>∃xs,ig K H a xs/\xs.length<=i⟩
def HJ(K:W.Frag)(a:Addr):It:=⟨λi H=>∃xs x,iL K H a xs/\xs[i]? = some x,λi H x H'=>H'=H/\∀xs,iL K H a xs->xs[i]? = some x,λi H=>∃xs,iL K H a xs/\xs.length<=i⟩
def FS(lo:Int)(n:Nat):It:=⟨λi _=>i<n,λi H x H'=>H'=H/\x=.int (lo+i),λi _=>n<=i⟩
theorem yo{P:Program}{w:World}{K:W.Frag}{tg:Expr}(a it:Addr):vx P w K tg (Hu K a) [it] it (λi h=>h.IsListIter it a i) where
 mem:=by simp
 obj:=λi h st b hb=>by
  have e:b=it:=by simpa using hb
  subst e;obtain⟨o,e,c,d⟩:=st;exact⟨o,e,λv z=>by rw[d] at z;cases z⟩
 keep:=λi h h' st k=>st.at λo e=>k it (by simp) o e
 item:=by intro X hP hw hK hc i dH s σ H E I hf st hg;subst hP hw hK;obtain⟨xs,x,hq,hx⟩:=hg;obtain⟨its,rv,p,hz⟩:=I.list hq;obtain⟨u,hu,ru⟩:=rv.get hx;obtain⟨f0,f1,f2,f3,f4,f5⟩:=hf it (by simp);refine wpAny_pyNext_list_item st p.isList (x:=u) (by simpa using hu) λh' st' sb=>?_;have I1:eh X dH σ H {s with heap:=h'}:=I.turned (t':=s.toks) (λb o hb e=>(sb.2 b hb).trans e) f0 f1 f3 f4 f5;obtain⟨o,e,c,d⟩:=id st';exact⟨u,rfl,zR (s:={s with heap:=h'}) e c d (by decide) ⟨x,H,I1,ru,⟨rfl,λys hy=>by rw[I.list_inj hy hq];exact hx⟩,st',λb hb=>(hf b hb).1⟩⟩
 done:=by intro X hP hw hK hc i dH s σ H E I hf st hg;subst hP hw hK;obtain⟨xs,hq,hx⟩:=hg;obtain⟨its,rv,p,hz⟩:=I.list hq;obtain⟨f0,f1,f2,f3,f4,f5⟩:=hf it (by simp);have hl:=rv.length;exact wpAny_pyNext_list_end (I.ok.hd hc) st p.isList (by simp;omega) λh' eb=>⟨rfl,I.turned (t':=s.toks) (λb o hb e=>eb b o hb e) f0 f1 f3 f4 f5⟩
 self:=λ_ _ _ _ _ st h=>wpAny_pyIter_listiter st h
theorem vj{P:Program}{w:World}{K:W.Frag}{tg:Expr}(a it:Addr):vx P w K tg (HJ K a) [it] it (λi h=>h.IsTupleIter it a i) where
 mem:=by simp
 obj:=λi h st b hb=>by
  have e:b=it:=by simpa using hb
  subst e;obtain⟨o,e,c,d⟩:=st;exact⟨o,e,λv z=>by rw[d] at z;cases z⟩
 keep:=λi h h' st k=>st.at λo e=>k it (by simp) o e
 item:=by intro X hP hw hK hc i dH s σ H E I hf st hg;subst hP hw hK;obtain⟨xs,x,hq,hx⟩:=hg;obtain⟨its,rv,p,hz⟩:=I.tuple hq;obtain⟨u,hu,ru⟩:=rv.get hx;obtain⟨f0,f1,f2,f3,f4,f5⟩:=hf it (by simp);refine wpAny_pyNext_tuple_item st (show s.heap.IsTuple a its.toArray from p) (x:=u) (by simpa using hu) λh' st' sb=>?_;have I1:eh X dH σ H {s with heap:=h'}:=I.turned (t':=s.toks) (λb o hb e=>(sb.2 b hb).trans e) f0 f1 f3 f4 f5;obtain⟨o,e,c,d⟩:=id st';exact⟨u,rfl,zR (s:={s with heap:=h'}) e c d (by decide) ⟨x,H,I1,ru,⟨rfl,λys hy=>by rw[I.tuple_inj hy hq];exact hx⟩,st',λb hb=>(hf b hb).1⟩⟩
 done:=by intro X hP hw hK hc i dH s σ H E I hf st hg;subst hP hw hK;obtain⟨xs,hq,hx⟩:=hg;obtain⟨its,rv,p,hz⟩:=I.tuple hq;obtain⟨f0,f1,f2,f3,f4,f5⟩:=hf it (by simp);have hl:=rv.length;exact wpAny_pyNext_tuple_end (I.ok.hd hc) st (show s.heap.IsTuple a its.toArray from p) (by simp;omega) λh' eb=>⟨rfl,I.turned (t':=s.toks) (λb o hb e=>eb b o hb e) f0 f1 f3 f4 f5⟩
 self:=λ_ _ _ _ _ st h=>wpAny_pyIter_tupleiter st h
theorem vo{P:Program}{w:World}{K:W.Frag}{tg:Expr}(it:Addr)(lo:Int)(n:Nat):vx P w K tg (FS lo n) [it] it (λi h=>IsRangeIter h it (lo+(i:Nat)*1) ((n:Int) - (i:Nat)) 1) where
 mem:=by simp
 obj:=λi h st b hb=>by
  have e:b=it:=by simpa using hb
  subst e;exact⟨_,st,λv z=>by have z':Data.fields _=Data.cell v:=z;cases z'⟩
 keep:=λi h h' st k=>k it (by simp) _ st
 item:=by intro X hP hw hK hc i dH s σ H E I hf st hg;subst hP hw hK;obtain⟨f0,f1,f2,f3,f4,f5⟩:=hf it (by simp);have W:=Walks.range (prog:=X.prog) (w:=X.w) (I.ok.hd hc) it lo 1 n;refine W.item i s _ _ hg st λv h' tk hv st' kk=>?_;obtain⟨t,rfl⟩:=hv;have I1:eh X dH σ H {s with heap:=h',toks:=tk}:=I.turned (λb o hb e=>kk b o (by simpa using hb) e) f0 f1 f3 f4 f5;refine⟨_,rfl,zR (s:={s with heap:=h',toks:=tk}) (n:= "range_iterator") st' rfl rfl (by decide) ⟨.int (lo+i),H,I1,⟨t,?_⟩,⟨rfl,rfl⟩,st',λb hb=>(hf b hb).1⟩⟩;rw[bq]
 done:=by intro X hP hw hK hc i dH s σ H E I hf st hg;subst hP hw hK;obtain⟨f0,f1,f2,f3,f4,f5⟩:=hf it (by simp);exact wpAny_pyNext_range_end (I.ok.hd hc) st (by have:n<=i:=hg;omega) λh' eb=>⟨rfl,I.turned (t':=s.toks) (λb o hb e=>eb b o hb e) f0 f1 f3 f4 f5⟩
 self:=λ_ _ _ _ _ st h=>wpAny_pyIter_rangeiter st h
end L2
namespace L2
open PySem PySem.Spec PyProof.Rows
section
variable {X:Cx}{tg:Expr}
def AO(K:W.Frag)(tl:TE):TI:=λσ H R=>tl σ H λx H1=>∃a,x=.ref a/\(∃xs,ig K H1 a xs)/\R (Hu K a) H1
def Fw(K:W.Frag)(tl:TE):TI:=λσ H R=>tl σ H λx H1=>∃a,x=.ref a/\(∃xs,iL K H1 a xs)/\R (HJ K a) H1
theorem C5{l:Expr}{tl:TE}(hl:PE X l tl):PI X tg l (AO X.K tl):=by
 intro dH s σ H R I h;refine gp (hl dH s σ H _ I h) λv s1 ⟨x,H1,I1,r1,q1⟩=>?_;obtain⟨a,e,⟨xs,hq⟩,q⟩:=q1;subst e;cases r1;obtain⟨its,rv,p,hz⟩:=I1.list hq;refine wpAny_pyIter_list p.isList ?_;refine⟨s1.heap.objs.size,[s1.heap.objs.size],_,_,H1,rfl,I1.kept (t':=s1.toks) λb o e=>ae _ e,yo a _,⟨_,ar _ rfl,rfl,rfl⟩,λb hb=>?_,q⟩;have e:b=s1.heap.objs.size:=by simpa using hb
 subst e;exact I1.fpOk (aJ _) (I1.hok.fresh (aJ _))
theorem Fd{l:Expr}{tl:TE}(hl:PE X l tl):PI X tg l (Fw X.K tl):=by
 intro dH s σ H R I h;refine gp (hl dH s σ H _ I h) λv s1 ⟨x,H1,I1,r1,q1⟩=>?_;obtain⟨a,e,⟨xs,hq⟩,q⟩:=q1;subst e;cases r1;obtain⟨its,rv,p,hz⟩:=I1.tuple hq;refine wpAny_pyIter_tuple (show s1.heap.IsTuple a its.toArray from p) ?_;refine⟨s1.heap.objs.size,[s1.heap.objs.size],_,_,H1,rfl,I1.kept (t':=s1.toks) λb o e=>ae _ e,vj a _,⟨_,ar _ rfl,rfl,rfl⟩,λb hb=>?_,q⟩;have e:b=s1.heap.objs.size:=by simpa using hb
 subst e;exact I1.fpOk (aJ _) (I1.hok.fresh (aJ _))
theorem s9{dH:List (Addr×Obj)}{σ:St}{H:Hp}{s:Shared}{R:It->Hp->Prop}{E:Value->Shared->Prop}{lo hi:Int}{t u v:Tok}{tk:Nat}(I:eh X dH σ H s)(h1:-(2 ^ 62)<=lo)(h2:lo<2 ^ 62)(h3:-(2 ^ 62)<=hi)(h4:hi<2 ^ 62)
  (q:R (FS lo (hi - lo).toNat) H):wpAny (model X.prog X.w) X.A (pyIter (.ref s.heap.objs.size)) (Io X dH σ tg R) E {s with heap:=s.heap.push {cls:=.type "range",data:=.fields #[.int lo t,.int hi u,.int 1 v]},toks:=tk}:=by
 refine wpAny_pyIter_range (IsRange.new ..) (small_one h1 h2 h3 h4) ?_;have I1:eh X dH σ H {s with heap:=s.heap.push {cls:=.type "range",data:=.fields #[.int lo t,.int hi u,.int 1 v]},toks:=tk}:=I.kept λb o e=>ae _ e;refine⟨(s.heap.push {cls:=.type "range",data:=.fields #[.int lo t,.int hi u,.int 1 v]}).objs.size,[(s.heap.push {cls:=.type "range",data:=.fields #[.int lo t,.int hi u,.int 1 v]}).objs.size],_,_,H,rfl,
  I1.kept (t':=tk) λb o e=>ae _ e,vo _ lo (hi - lo).toNat,?_,λb hb=>?_,q⟩
 ·have e1:lo+((0:Nat):Int)*1=lo:=by simp
  have e2:(((hi - lo).toNat:Nat):Int) - ((0:Nat):Int)=Builtin.Range.rangeSize lo hi 1:=by rw[rangeSize_one];split<;>omega
  show IsRangeIter _ _ (lo+((0:Nat):Int)*1) ((((hi - lo).toNat:Nat):Int) - ((0:Nat):Int)) 1;rw[e1,e2];exact ar _ rfl
 ·have e:b=(s.heap.push {cls:=.type "range",data:=.fields #[.int lo t,.int hi u,.int 1 v]}).objs.size:=by simpa using hb
  subst e;exact I1.fpOk (aJ _) (I1.hok.fresh (aJ _))
def zP(ta:TA):TI:=λσ H R=>ta σ H λvs H1=>∃j:Int,vs=[.int j]/\-(2 ^ 62)<=j/\j<2 ^ 62/\R (FS 0 j.toNat) H1
def AS(ta:TA):TI:=λσ H R=>ta σ H λvs H1=>∃i j:Int,vs=[.int i,.int j]/\(-(2 ^ 62)<=i/\i<2 ^ 62/\-(2 ^ 62)<=j/\j<2 ^ 62)/\R (FS i (j - i).toNat) H1
theorem xr{a:Expr}{ta:TA}{p pos:Pos}(hg:Gl X "range")(hm:X.mg "range" = none)(ha:PA X [a] ta)(hs:starEach [a] X.env=[(false,eval a X.env)]:=by rfl):PI X tg (.Call (.Name "range" p) [a] [] pos) (zP ta):=by
 intro dH s σ H R I h;refine Call_ (kl I hg hm boot_range (PyProof.Rows.callWith_type1 (gp (ha pos dH s σ H _ I h) λus s1 ⟨vs,H1,I1,r1,q1⟩=>?_) hs rfl));obtain⟨j,e,q1,q2,q⟩:=q1;subst e;cases r1 with
 | cons r rr=>cases rr;obtain⟨t,rfl⟩:=r;exact call_range_1 (s9 I1 (by omega) (by omega) q1 q2 (by simpa using q))
theorem ya{a b:Expr}{ta:TA}{p pos:Pos}(hg:Gl X "range")(hm:X.mg "range" = none)(ha:PA X [a,b] ta)(hs:starEach [a,b] X.env=[(false,eval a X.env),(false,eval b X.env)]:=by rfl)(hs2:starEach [b] X.env=[(false,eval b X.env)]:=by rfl) :
  PI X tg (.Call (.Name "range" p) [a,b] [] pos) (AS ta):=by
 intro dH s σ H R I h;refine Call_ (kl I hg hm boot_range (PyProof.Rows.callWith_type1 (gp (ha pos dH s σ H _ I h) λus s1 ⟨vs,H1,I1,r1,q1⟩=>?_) (by rw[hs,hs2]) (by rw[hs2];rfl)));obtain⟨i,j,e,⟨q1,q2,q3,q4⟩,q⟩:=q1;subst e;cases r1 with
 | cons r rr=>
  cases rr with
  | cons r' rr=>cases rr;obtain⟨t,rfl⟩:=r;obtain⟨t',rfl⟩:=r';exact call_range_2 (s9 I1 q1 q2 q3 q4 q)
def yT(wi:TI)(g:TG)(tb:TS):TS:=λD σ H=>wi σ H λJ H1=>∃W:Nat->Nat->St->Hp->Prop,(∃m,W 0 m σ H1)/\∀i m σ H,W i m σ H->
 (J.stop i H/\D.nx σ H)\/(J.go i H/\∃N:St->Hp->Prop,(∀σ' H',N σ' H'->∃m',m'<m/\W (i+1) m' σ' H')/\∀x H',J.yld i H x H'->g x σ H' λσ2 H2=>tb {D with nx:=N,ct:=N,bk:=D.nx} σ2 H2)
def oA(fp:List Addr)(h:Heap):List (Addr×Obj):=fp.filterMap λb=>(h.get? b).map λo=>(b,o)
theorem kf{fp:List Addr}{h:Heap}{b:Addr}{o:Obj}(hb:b∈fp)(e:h.get? b=some o):(b,o)∈oA fp h:=br.mpr ⟨b,hb,by rw[e];rfl⟩
theorem xD{fp:List Addr}{h:Heap}{p:Addr×Obj}(hp:p∈oA fp h):p.1∈fp/\h.get? p.1=some p.2:=by
 obtain⟨b,hb,e⟩:=br.mp hp;cases q:h.get? b with
 | none=>rw[q] at e;cases e
 | some o=>rw[q] at e;have e':(b,o)=p:=Option.some.inj e;subst e';exact⟨hb,q⟩
theorem eh.pinned{dH:List (Addr×Obj)}{σ:St}{H:Hp}{s:Shared}{fp:List Addr}(I:eh X dH σ H s)(hf:∀b∈fp,nX X dH H b)(ho:∀b∈fp,∃o,s.heap.get? b=some o/\∀v,o.data≠.cell v):eh X (dH++oA fp s.heap) σ H s:=I.pins_of λp hp=>(ai.mp hp).elim (λz=>I.pin p (bt _ z)) λz=>by obtain⟨hb,e⟩:=xD z;obtain⟨f0,f1,f2,_⟩:=hf p.1 hb;obtain⟨o,e',d⟩:=ho p.1 hb;rw[e] at e';cases e';exact⟨e,f0,f1,f2,d⟩
theorem eh.unpinned{dH pl:List (Addr×Obj)}{σ:St}{H:Hp}{s:Shared}(I:eh X (dH++pl) σ H s):eh X dH σ H s:=I.pins_of λp hp=>I.pin p (bt _ (ax _ hp))
theorem zx{iter:Expr}{body:List Stmt}{wi:TI}{g:TG}{tb:TS}{pos:Pos}(hp:PassesOwn (model X.prog X.w) X.A X.env X.xe)(hc:X.calm=true)(hi:PI X tg iter wi)(hg:PG X tg g)(hb:uk X body tb)
  (hs:∀x,foldedSetIterable iter X.env x=pure x:=by intro _;rfl):PS X (.For tg iter body [] pos) (yT wi g tb):=by
 intro dH s σ H D I h;refine wpAny_For (gp (hi dH s σ H _ I h) λv s1 h1=>gp h1 λitv s2 h2=>?_) hs;obtain⟨it,fp,tn,J,H2,e,I2,T,st2,f2,W,⟨m0,w0⟩,turn⟩:=h2;subst e;have stat:∀{H':Hp},(∀b∈fp,H' b=none)->∀b∈fp,nX X dH H' b:=λhn b hb=>⟨hn b hb,(f2 b hb).2⟩;refine codeAny_forLoop_any (λn s'=>∃i σ' H',eh X dH σ' H' s'/\tn i s'.heap/\(∀b∈fp,H' b=none)/\W i n σ' H') ?_ m0 ⟨0,σ,H2,I2,st2,λb hb=>(f2 b hb).1,w0⟩;rintro n s3 ⟨i,σ3,H3,I3,st3,fr3,w3⟩;rcases turn i n σ3 H3 w3 with⟨stop,qn⟩ | ⟨go,N,hN,step⟩
 ·refine wpAny_passesOwn hp (gp (T.done X rfl rfl rfl hc i dH s3 σ3 H3 X.xe I3 (stat fr3) st3 stop) λr s4 ⟨hr,I4⟩=>?_);subst hr;exact wpAny_execs_nil ⟨σ3,H3,I4,qn⟩
 ·refine wpAny_passesOwn hp (gp (T.item X rfl rfl rfl hc i dH s3 σ3 H3 X.xe I3 (stat fr3) st3 go) λr s4 ⟨u,hr,h4⟩=>?_);subst hr;refine wpAny_passesOwn hp (gp h4 λ_ s5 ⟨x,H5,I5,r5,y5,st5,fr5⟩=>?_);have I5':=I5.pinned (stat fr5) (T.obj _ _ st5);refine wpAny_passesOwn hp (gp (hg _ s5 σ3 H5 x u _ I5' r5 (step x H5 y5)) λ_ s6 ⟨σ6,H6,I6,q6⟩=>?_);refine wpAny_passesOwn hp (gp (hb _ s6 σ6 H6 _ I6 q6) λf s7 q7=>?_);have again:∀{σ7:St} {H7:Hp},eh X (dH++oA fp s5.heap) σ7 H7 s7->N σ7 H7->∃m,m<n/\∃i σ' H',eh X dH σ' H' s7/\tn i s7.heap/\(∀b∈fp,H' b=none)/\W i m σ' H':=λ{σ7 H7} I7 n7=>by obtain⟨m',hm,w7⟩:=hN σ7 H7 n7;refine⟨m',hm,i+1,σ7,H7,I7.unpinned,T.keep _ _ _ st5 λb hb o e=>(I7.pin (b,o) (bt _ (bt _ (kf hb e)))).1,λb hb=>?_,w7⟩;obtain⟨o,e,d⟩:=T.obj _ _ st5 b hb;exact (I7.pin (b,o) (bt _ (bt _ (kf hb e)))).2.1
  cases f with
  | next=>obtain⟨σ7,H7,I7,n7⟩:=q7;exact again I7 n7
  | cont=>obtain⟨σ7,H7,I7,n7⟩:=q7;exact again I7 n7
  | brk=>obtain⟨σ7,H7,I7,q7⟩:=q7;exact⟨σ7,H7,I7.unpinned,q7⟩
  | ret v=>obtain⟨x7,σ7,H7,I7,r7,q7⟩:=q7;exact⟨x7,σ7,H7,I7.unpinned,r7,q7⟩
end
end L2
namespace L2
open PySem PySem.Spec PyProof.Rows
abbrev R2:=V->V->Hp->VK->Prop
def kz(X:Cx)(f:Value->Value->Sem Value)(r:R2):Prop:=
 ∀(dH:List (Addr×Obj)) (s:Shared) (σ:St) (H:Hp) (x y:V) (v u:Value) (Q:VK),eh X dH σ H s->fw x v->fw y u->r x y H Q->
  wpAny (model X.prog X.w) X.A (f v u) (EP X dH σ Q) X.xe s
def HY(X:Cx)(f:Value->Sem Value)(r:V->Hp->VK->Prop):Prop:=
 ∀(dH:List (Addr×Obj)) (s:Shared) (σ:St) (H:Hp) (x:V) (v:Value) (Q:VK),eh X dH σ H s->fw x v->r x H Q->
  wpAny (model X.prog X.w) X.A (f v) (EP X dH σ Q) X.xe s
def ib(X:Cx)(f:Value)(r:List V->Hp->VK->Prop):Prop:=
 ∀(dH:List (Addr×Obj)) (s:Shared) (σ:St) (H:Hp) (xs:List V) (us:List Value) (Q:VK),eh X dH σ H s->eF xs us->r xs H Q->
  wpAny (model X.prog X.w) X.A (call f us) (EP X dH σ Q) X.xe s
def pU(r:R2)(ta tb:TE):TE:=λσ H Q=>ta σ H λx H1=>tb σ H1 λy H2=>r x y H2 Q
def HE(r:V->Hp->VK->Prop)(ta:TE):TE:=λσ H Q=>ta σ H λx H1=>r x H1 Q
def rI(C:Int->Int->Prop)(g:Int->Int->V):R2:=λx y H Q=>∃i j,x=.int i/\y=.int j/\C i j/\Q (g i j) H
def uW(g:Int->Int->V):R2:=λx y H Q=>∃i j,x=.int i/\y=.int j/\Q (g i j) H
def rU(g:Int->V):V->Hp->VK->Prop:=λx H Q=>∃i,x=.int i/\Q (g i) H
section
variable {X:Cx}{a b c:Expr}{ta tb tc:TE}{pos:Pos}
theorem DL(ha:PE X a ta)(hb:PE X b tb){dH:List (Addr×Obj)}{s:Shared}{σ:St}{H:Hp}{R:V->V->Hp->Prop}(I:eh X dH σ H s)
  (h:ta σ H λx H1=>tb σ H1 λy H2=>R x y H2) {Q:Value->Shared->Prop} {f:Value->Value->Sem Value}
  (hf:∀v u s2 x y H2,eh X dH σ H2 s2->fw x v->fw y u->R x y H2->wpAny (model X.prog X.w) X.A (f v u) Q X.xe s2) :
  wpAny (model X.prog X.w) X.A (eval a X.env) (λv s₁=>wpAny (model X.prog X.w) X.A (eval b X.env) (λu s₂=>wpAny (model X.prog X.w) X.A (f v u) Q X.xe s₂) X.xe s₁) X.xe s:=by
 refine gp (ha dH s σ H _ I h) λv s1 ⟨x,H1,I1,r1,q1⟩=>?_;refine gp (hb dH s1 σ H1 _ I1 q1) λu s2 ⟨y,H2,I2,r2,q2⟩=>?_;exact hf v u s2 x y H2 I2 r1 r2 q2
theorem An{op:Operator}{r:R2}(ho:kz X (binaryOp op) r)(ha:PE X a ta)(hb:PE X b tb):PE X (.BinOp a op b pos) (pU r ta tb):=by intro dH s σ H Q I h;exact wpAny_BinOp (DL ha hb I h λv u s2 x y H2 I2 rx ry q=>ho dH s2 σ H2 x y v u Q I2 rx ry q)
theorem GI{op:UnaryOp}{r:V->Hp->VK->Prop}(ho:HY X (unaryOp op) r)(ha:PE X a ta):PE X (.UnaryOp op a pos) (HE r ta):=by intro dH s σ H Q I h;exact UnaryOp_ (gp (ha dH s σ H _ I h) λv s1 ⟨x,H1,I1,r1,q1⟩=>ho dH s1 σ H1 x v Q I1 r1 q1)
theorem Hi{f:Value->Value->Sem Value}{C:Int->Int->Prop}{g:Int->Int->Int}
  (rule:∀(i j:Int) (t u:Tok) (s:Shared) (Q:Value->Shared->Prop) (E:Value->Shared->Prop),C i j->Q (.int (g i j) s.toks) {s with toks:=s.toks+1}->wpAny (model X.prog X.w) X.A (f (.int i t) (.int j u)) Q E s) :
  kz X f (rI C λi j=>.int (g i j)):=by
 intro dH s σ H x y v u Q I rx ry h;obtain⟨i,j,rfl,rfl,hc,q⟩:=h;obtain⟨t,rfl⟩:=rx;obtain⟨t',rfl⟩:=ry;exact rule i j t t' s _ _ hc ⟨.int (g i j),H,I.tok _,⟨_,rfl⟩,q⟩
theorem Gm{f:Value->Value->Sem Value}{g:Int->Int->Int}
  (rule:∀(i j:Int) (t u:Tok) (s:Shared) (Q:Value->Shared->Prop) (E:Value->Shared->Prop),Q (.int (g i j) s.toks) {s with toks:=s.toks+1}->wpAny (model X.prog X.w) X.A (f (.int i t) (.int j u)) Q E s) :
  kz X f (uW λi j=>.int (g i j)):=by
 intro dH s σ H x y v u Q I rx ry h;obtain⟨i,j,rfl,rfl,q⟩:=h;obtain⟨t,rfl⟩:=rx;obtain⟨t',rfl⟩:=ry;exact rule i j t t' s _ _ ⟨.int (g i j),H,I.tok _,⟨_,rfl⟩,q⟩
theorem BX{f:Value->Value->Sem Value}{g:Int->Int->Bool}
  (rule:∀(i j:Int) (t u:Tok) (s:Shared) (Q:Value->Shared->Prop) (E:Value->Shared->Prop),Q (.bool (g i j)) s->wpAny (model X.prog X.w) X.A (f (.int i t) (.int j u)) Q E s) :
  kz X f (uW λi j=>.bl (g i j)):=by
 intro dH s σ H x y v u Q I rx ry h;obtain⟨i,j,rfl,rfl,q⟩:=h;obtain⟨t,rfl⟩:=rx;obtain⟨t',rfl⟩:=ry;exact rule i j t t' s _ _ ⟨.bl (g i j),H,I,rfl,q⟩
def He(i j:Int):Prop:=0<=j/\j<=1000000/\i.natAbs<2 ^ 64
theorem EX:kz X (binaryOp .Add) (uW λi j=>.int (i+j)):=Gm λ_ _ _ _ _ _ _ q=>add_int q
theorem Eh:kz X (binaryOp .Sub) (uW λi j=>.int (i - j)):=Gm λ_ _ _ _ _ _ _ q=>sub_int q
theorem B3:kz X (binaryOp .Mod) (rI (λ_ j=>j≠0) λi j=>.int (i.fmod j)):=Hi λ_ _ _ _ _ _ _ hc q=>mod_int' hc q
theorem Et:kz X (binaryOp .Pow) (rI He λi j=>.int (i ^ j.toNat)):=Hi λ_ _ _ _ _ _ _ hc q=>pow_int_small hc.1 hc.2.1 hc.2.2 q
theorem IG{f:Value->Sem Value}{g:Int->Int}
  (rule:∀(i:Int) (t:Tok) (s:Shared) (Q:Value->Shared->Prop) (E:Value->Shared->Prop),Q (.int (g i) s.toks) {s with toks:=s.toks+1}->wpAny (model X.prog X.w) X.A (f (.int i t)) Q E s) :
  HY X f (rU λi=>.int (g i)):=by
 intro dH s σ H x v Q I rx h;obtain⟨i,rfl,q⟩:=h;obtain⟨t,rfl⟩:=rx;exact rule i t s _ _ ⟨.int (g i),H,I.tok _,⟨_,rfl⟩,q⟩
theorem FO:HY X (unaryOp .USub) (rU λi=>.int (-i)):=IG λ_ _ _ _ _ q=>neg_int q
end
section
variable {X:Cx}{a b c:Expr}{ta tb tc:TE}{pos:Pos}
theorem uo:kz X (compareOp .Lt) (uW λi j=>.bl (decide (i<j))):=BX λ_ _ _ _ _ _ _ q=>lt_int q
theorem sX:kz X (compareOp .LtE) (uW λi j=>.bl (decide (i<=j))):=BX λ_ _ _ _ _ _ _ q=>le_int q
theorem GD:kz X (compareOp .Gt) (uW λi j=>.bl (decide (j<i))):=BX λ_ _ _ _ _ _ _ q=>gt_int q
theorem xb:kz X (compareOp .GtE) (uW λi j=>.bl (decide (j<=i))):=BX λ_ _ _ _ _ _ _ q=>ge_int q
theorem nF(b:Expr){op:CmpOp}(h:op≠.In:=by decide)(h2:op≠.NotIn:=by decide):behindInMarks op b=false:=by
 have e1:(op == CmpOp.In)=false:=by cases op<;>first | rfl | exact absurd rfl h
 have e2:(op == CmpOp.NotIn)=false:=by cases op<;>first | rfl | exact absurd rfl h2
 cases b<;>simp[behindInMarks,e1,e2]
theorem Ct{op:CmpOp}{r:R2}(ho:kz X (compareOp op) r)(ha:PE X a ta)(hb:PE X b tb)(hm:behindInMarks op b=false):PE X (.Compare a [op] [b] pos) (pU r ta tb):=by intro dH s σ H Q I h;exact wpAny_Compare1 (DL ha hb I h λv u s2 x y H2 I2 rx ry q=>ho dH s2 σ H2 x y v u Q I2 rx ry q) hm
def nJ(t:TE):TT:=λσ H Q=>t σ H λx H'=>∃k,x=.bl k/\Q k H'
theorem B5{op:CmpOp}{r:R2}(ho:kz X (compareOp op) r)(ha:PE X a ta)(hb:PE X b tb)(hm:behindInMarks op b=false):PT X (.Compare a [op] [b] pos) (nJ (pU r ta tb)):=by
 intro dH s σ H Q I h;refine wpAny_isTrue_Compare1 (gp (ha dH s σ H _ I h) λv s1 ⟨x,H1,I1,r1,q1⟩=>gp (hb dH s1 σ H1 _ I1 q1) λu s2 ⟨y,H2,I2,r2,q2⟩=>gp (ho dH s2 σ H2 x y v u _ I2 r1 r2 q2) λc s3 ⟨z,H3,I3,r3,k,e,q3⟩=>?_) hm
 subst e;cases r3;exact wpAny_truthy_bool ⟨H3,I3,q3⟩
def pL(r r':R2)(ta tb tc:TE):TE:=λσ H Q=>ta σ H λx H1=>tb σ H1 λy H2=>r x y H2 λz H3=>∃k,z=.bl k/\
 (if k=true then tc σ H3 λw' H4=>r' y w' H4 Q else Q (.bl false) H3)
theorem AR{op op':CmpOp}{r r':R2}(ho:kz X (compareOp op) r)(ho':kz X (compareOp op') r')(ha:PE X a ta)(hb:PE X b tb)(hc:PE X c tc)
  (hm:lastMarks [op,op'] [b,c]=false:=by with_unfolding_all rfl):PE X (.Compare a [op,op'] [b,c] pos) (pL r r' ta tb tc):=by
 intro dH s σ H Q I h;refine Compare_chain (gp (ha dH s σ H _ I h) λv s1 ⟨x,H1,I1,r1,q1⟩=>chain_link (gp (hb dH s1 σ H1 _ I1 q1) λu s2 ⟨y,H2,I2,r2,q2⟩=>gp (ho dH s2 σ H2 x y v u _ I2 r1 r2 q2) λd s3 ⟨z,H3,I3,r3,k,e,q3⟩=>?_)) hm
 subst e;cases r3;refine wpAny_truthy_bool ?_;cases k with
 | false=>exact ite_ff ⟨.bl false,H3,I3,rfl,q3⟩
 | true=>exact ite_tt (chain_last (gp (hc dH s3 σ H3 _ I3 q3) λw' s4 ⟨z',H4,I4,r4,q4⟩=>ho' dH s4 σ H4 y z' u w' Q I4 r2 r4 q4))
theorem yP{op op':CmpOp}{r r':R2}(ho:kz X (compareOp op) r)(ho':kz X (compareOp op') r')(ha:PE X a ta)(hb:PE X b tb)(hc:PE X c tc)
  (hm:lastMarks [op,op'] [b,c]=false:=by with_unfolding_all rfl):PT X (.Compare a [op,op'] [b,c] pos) (nJ (pL r r' ta tb tc)):=by
 intro dH s σ H Q I h;refine isTrue_chain (gp (ha dH s σ H _ I h) λv s1 ⟨x,H1,I1,r1,q1⟩=>test_link (gp (hb dH s1 σ H1 _ I1 q1) λu s2 ⟨y,H2,I2,r2,q2⟩=>gp (ho dH s2 σ H2 x y v u _ I2 r1 r2 q2) λd s3 ⟨z,H3,I3,r3,k,e,q3⟩=>?_)) hm
 subst e;cases r3;refine wpAny_truthy_bool ?_;cases k with
 | false=>obtain⟨k',e',q'⟩:=q3;cases e';exact ite_ff ⟨H3,I3,q'⟩
 | true=>refine ite_tt (test_last (gp (hc dH s3 σ H3 _ I3 q3) λw' s4 ⟨z',H4,I4,r4,q4⟩=>gp (ho' dH s4 σ H4 y z' u w' _ I4 r2 r4 q4) λd' s5 ⟨z2,H5,I5,r5,k2,e2,q5⟩=>?_));subst e2;cases r5;exact wpAny_truthy_bool ⟨H5,I5,q5⟩
theorem pP:(sizeLine:Nat)<2 ^ 63:=by rw[sizeLine_eq];decide
theorem v8:kz X (binaryOp .Add) (λx y H Q=>∃i j,x=.str i/\y=.str j/\i.length+j.length<=sizeLine/\Q (.str (i++j)) H):=by intro dH s σ H x y v u Q I rx ry h;obtain⟨i,j,rfl,rfl,hz,q⟩:=h;obtain⟨t,rfl⟩:=rx;obtain⟨t',rfl⟩:=ry;exact add_str (λt' tk=>⟨.str (i++j),H,I.tok _,⟨_,rfl⟩,q⟩) hz
theorem ml{x:V}{us:List Value}(r:eF [x] us):∃u,us=[u]/\fw x u:=by
 cases r with
 | cons r1 r2=>cases r2;exact⟨_,rfl,r1⟩
theorem Do{x y:V}{us:List Value}(r:eF [x,y] us):∃u w',us=[u,w']/\fw x u/\fw y w':=by
 cases r with
 | cons r1 r2=>
  cases r2 with
  | cons r3 r4=>cases r4;exact⟨_,_,rfl,r1,r3⟩
theorem t8:ib X (.builtin "abs") (λxs H Q=>∃i,xs=[.int i]/\Q (.int (if i<0 then -i else i)) H):=by intro dH s σ H xs us Q I r h;obtain⟨i,rfl,q⟩:=h;obtain⟨u,rfl,t,rfl⟩:=ml r;exact call_abs_int λu tk=>⟨.int (if i<0 then -i else i),H,I.tok _,⟨_,rfl⟩,q⟩
theorem xy(hc:X.calm=true):ib X (.builtin "min") (λxs H Q=>∃i j,xs=[.int i,.int j]/\Q (.int (if j<i then j else i)) H):=by
 intro dH s σ H xs us Q I r h;obtain⟨i,j,rfl,q⟩:=h;obtain⟨u,w',rfl,⟨t,rfl⟩,⟨t',rfl⟩⟩:=Do r;refine min_two_ints (I.ok.hd hc) λh' tk k=>⟨_,H,I.kept k,?_,q⟩;by_cases hj:j<i
 ·rw[aP hj,aP hj];exact⟨_,rfl⟩
 ·rw[aQ hj,aQ hj];exact⟨_,rfl⟩
def Dw(K:W.Frag)(x:V)(H:Hp)(n:Nat):Prop:=
 match x with
 | .str y=>y.length<=sizeLine/\n=y.length
 | .byt y=>y.size<=sizeLine/\n=y.size
 | .ref p=>(∃xs,ig K H p xs/\n=xs.length)\/∃xs,iL K H p xs/\n=xs.length
 | _=>False
theorem yY:ib X (.builtin "len") (λxs H Q=>∃x n,xs=[x]/\Dw X.K x H n/\Q (.int n) H):=by
 intro dH s σ H xs us Q I r h;obtain⟨x,n,rfl,e,q⟩:=h;obtain⟨u,rfl,rx⟩:=ml r;have hl:=pP;have hs:sizeLine=16777216:=sizeLine_eq;cases x with
 | str y=>obtain⟨t,rfl⟩:=rx;obtain⟨hy,e'⟩:y.length<=sizeLine/\n=y.length:=e;subst e';exact len_str (by omega) ⟨.int _,H,I.tok _,⟨_,rfl⟩,q⟩
 | byt y=>obtain⟨t,rfl⟩:=rx;obtain⟨hy,e'⟩:y.size<=sizeLine/\n=y.size:=e;subst e';exact W.len_bytes (by omega) ⟨.int _,H,I.tok _,⟨_,rfl⟩,q⟩
 | ref p=>
  cases rx;have e':(∃xs,ig X.K H p xs/\n=xs.length)\/∃xs,iL X.K H p xs/\n=xs.length:=e;rcases e' with⟨xs,hx,e'⟩ | ⟨xs,hx,e'⟩
  ·subst e';obtain⟨its,r',pl,hz⟩:=I.list hx;have hZ:=r'.length;exact Calls.call_len_list pl.isList (by simp only[bu];omega) ⟨.int xs.length,H,I.tok _,⟨_,by simp only[bu];rw[hZ]⟩,q⟩
  ·subst e';obtain⟨its,r',pl,hz⟩:=I.tuple hx;have hZ:=r'.length;exact len_tuple pl (by simp only[bu];omega) ⟨.int xs.length,H,I.tok _,⟨_,by simp only[bu];rw[hZ]⟩,q⟩
 | _=>exact (show False from e).elim
end
end L2
namespace L2
open PySem PySem.Spec PyProof.Rows
structure vq(h:Heap)(x dx C:Addr)(mA:Str->Option Value):Prop where
 obj:h.get? x=some (W.instObj C dx)
 ns:h.Ns1 dx mA
 ne:dx≠x
theorem xK{h:Heap}{dx:Addr}{mA:Str->Option Value}(n:h.Ns1 dx mA):∃od,h.get? dx=some od/\∀name,W.lookIn name od=some (mA name):=by
 obtain⟨o,es,ep,ho,hd,hk,_,hm⟩:=n;refine⟨o,ho,λname=>?_⟩;have e:=hm name;unfold nsFind findBy at e;rw[<-Array.find?_toList] at e;unfold W.lookIn;rw[hd];dsimp only;split
 ·rename_i y q;rw[q] at e;exact congrArg some e
 ·rename_i q;rw[q] at e;have a:es.toList.any (·.refKey)=false:=by rw[List.any_eq_false];intro y hy;obtain⟨z,t,hkey⟩:=hk y (Array.mem_toList_iff.mp hy);simp[DictEntry.refKey,hkey]
  have a':¬es.toList.any (·.refKey)=true:=by rw[a];exact aG
  rw[aQ a'];exact congrArg some e
theorem vq.look{h:Heap}{x dx C:Addr}{mA:Str->Option Value}(I:vq h x dx C mA):∃od,W.InstAt h x (W.instObj C dx) C (some od)/\∀name,W.lookIn name od=some (mA name):=
 let ⟨od,ho,hl⟩:=xK I.ns
 ⟨od,⟨I.obj,rfl,rfl,ho⟩,hl⟩
section
variable {prog:Program}{w:World}{A:Around}{E:Value->Shared->Prop}{s:Shared}{K:W.Frag}{x dx C f:Addr}{mA:Str->Option Value}{name:Str}{v:Value}
theorem Cv{expr:Bool}{Q:Value->Shared->Prop}(X:K.In s.heap)(I:vq s.heap x dx C mA)(hg:W.plainGet K C name=true)(hh:W.hasDictIn K C=true)
  (ha:W.findIn K (.ref C) name=some none) (hv:mA name=some v) (hv':W.handedIn v=true) (h:Q v {s with toks:=s.toks+1}) :
  wpAny (model prog w) A (getAttr (.ref x) name expr) Q E s:=by
 obtain⟨od,J,hl⟩:=I.look;exact W.get_value X J (W.plainGet_of hg).1 (W.findObj_own hh ha rfl (by rw[hl,hv])) hv' h
theorem Ax{pl:Sem Bool}{Q:Value×List Value->Shared->Prop}(X:K.In s.heap)(I:vq s.heap x dx C mA)(hg:W.plainGet K C name=true)
  (hf:W.findIn K (.ref C) name=some (some (.ref f))) (ht:W.isFn K (.ref f)=true) (hv:mA name=none) (h:Q (.ref f,[.ref x]) s) :
  wpAny (model prog w) A (getMethod (.ref x) name pl) Q E s:=by
 obtain⟨od,J,hl⟩:=I.look;exact W.method_fn X J (W.plainGet_of hg).1 (W.plainGet_of hg).2 hf (beq_iff_eq.mp ht) (by show (W.lookIn name od).map (·.isSome)=some false;rw[hl,hv];rfl) h
theorem Bz{ns:List Str}{Q:Unit->Shared->Prop}(X:K.In s.heap)(I:vq s.heap x dx C mA)
  (hs:W.findIn K (.ref C) "__setattr__" = some (some (.builtin "object.__setattr__"))) (hp:W.plainOver K C=true) (ht:W.takerIn K C name=some none) (hh:W.hasDictIn K C=true)
  (hw:PySem.Within mA ns) (hsz:ns.length<=sizeLine)
  (h:∀h',vq h' x dx C (λy=>if y=name then some v else mA y)->Heap.SameBut dx s.heap h'->Q () {s with heap:=h',toks:=s.toks+2}) :
  wpAny (model prog w) A (setAttr (.ref x) name v) Q E s:=by
 obtain⟨od,J,hl⟩:=I.look;refine W.set_plain X J hs (W.osa_open (s:={s with toks:=s.toks+1}) (r:=none) X J hp ht λb=>?_);obtain⟨cd,hc,hd'⟩:=W.any_some hh;have hx:s.heap.get? x=some ⟨.ref C,some dx,.plain,#[]⟩:=I.obj;refine ao (ak (ao (ao (wpAny_loadPart hx (ao (W.Looks.here (s:={s with toks:=s.toks+1}) (W.looks_clsIn X hc) ?_))))));rw[hd'];refine ak (a:=some dx) (ao (ak (ao ?_)));refine wpAny_nsSet1 (s:={s with toks:=s.toks+1}) I.ns λh' hn2 hs2=>?_;obtain⟨oD,esD,epD,hoD,hdD,hcD⟩:=hn2.count (PySem.Within.cons name v hw);refine ao (wpAny_lookBehind hoD (by rw[hdD];exact pastItsLine_dict (aM hcD (by rw[ay];omega))) ?_);exact ak (h _ ⟨(hs2.2 _ (Ne.symm I.ne)).trans I.obj,hn2,I.ne⟩ hs2)
theorem z9{R:Result->Shared->Prop}{vs:List Value}{kw:List (Str×Value)}(X:K.In s.heap)(hm:W.makesIn K C=true)
  (hi:W.findIn K (.ref C) "__init__" = some (some (.ref f))) (hf:W.typeIn K (.ref f)=some (.type "function"))
  (h:codeAny (model prog w) (A.under (.builtin "type.__call__" ⟨.ref C::vs,kw⟩)) (.call (.ref f) ⟨.ref (s.heap.objs.size+1)::vs,kw⟩) (W.InitBack (s.heap.objs.size+1) R)
   {s with heap:=(s.heap.push W.emptyDict).push (W.instObj C s.heap.objs.size)}) :
  codeAny (model prog w) A (.call (.ref C) ⟨vs,kw⟩) R s:=by
 obtain⟨hh,g,d,t,os⟩:=s;exact W.make_core (W.makes_of X hm) (W.looks_findIn X hi) (λself=>W.bind_fn X self hf) (.inl rfl) h
end
def kg(f:Str)(v:V):List (Str×V)->List (Str×V)
 | []=>[(f,v)]
 | (g,x)::r=>if g=f then (g,v)::r else (g,x)::kg f v r
theorem nI(f g:Str)(v:V):∀fs:List (Str×V),(kg f v fs).lookup g=if g=f then some v else fs.lookup g
 | []=>by
  show List.lookup g [(f,v)]=_;by_cases h:g=f
  ·have hb:(g == f)=true:=beq_iff_eq.mpr h;simp only[List.lookup,hb,aP h]
  ·have hb:(g == f)=false:=beq_eq_false_iff_ne.mpr h;simp only[List.lookup,hb,aQ h]
 | (k,x)::r=>by
  have ih:=nI f g v r;rw[show kg f v ((k,x)::r)=(if k=f then (k,v)::r else (k,x)::kg f v r) from rfl];by_cases hk:k=f
  ·rw[aP hk];by_cases h:g=k
   ·have hb:(g == k)=true:=beq_iff_eq.mpr h;simp only[List.lookup,hb,aP (h.trans hk)]
   ·have hb:(g == k)=false:=beq_eq_false_iff_ne.mpr h;simp only[List.lookup,hb,aQ (λe:g=f=>h (e.trans hk.symm))]
  ·rw[aQ hk];by_cases h:g=k
   ·have hb:(g == k)=true:=beq_iff_eq.mpr h;simp only[List.lookup,hb,aQ (λe:g=f=>hk (h.symm.trans e))]
   ·have hb:(g == k)=false:=beq_eq_false_iff_ne.mpr h;simp only[List.lookup,hb];exact ih
theorem nj(f:Str)(v:V):∀fs:List (Str×V),f∈(kg f v fs).map (·.1)/\∀g,g∈fs.map (·.1)->g∈(kg f v fs).map (·.1)
 | []=>⟨by simp[kg],λg h=>by simp at h⟩
 | (k,x)::r=>by
  obtain⟨i1,i2⟩:=nj f v r;rw[show kg f v ((k,x)::r)=(if k=f then (k,v)::r else (k,x)::kg f v r) from rfl];by_cases hk:k=f
  ·rw[aP hk];subst hk;exact⟨by simp,λg h=>by simpa using h⟩
  ·rw[aQ hk];refine⟨?_,λg h=>?_⟩
   ·rw[bz];exact bh _ i1
   ·rw[bz] at h ⊢;rcases aE.mp h with e | e
    ·exact aE.mpr (.inl e)
    ·exact bh _ (i2 g e)
theorem nP(f:Str)(v:V):∀fs:List (Str×V),(kg f v fs).length<=fs.length+1
 | []=>by simp[kg]
 | (k,x)::r=>by
  have ih:=nP f v r;rw[show kg f v ((k,x)::r)=(if k=f then (k,v)::r else (k,x)::kg f v r) from rfl];by_cases hk:k=f
  ·rw[aP hk,ay,ay];omega
  ·rw[aQ hk,ay,ay];omega
theorem pW.some_of{v:V}{o:Option Value}(r:pW (some v) o):∃u,o=some u/\fw v u:=by
 cases o with
 | none=>exact (show False from r).elim
 | some u=>exact⟨u,rfl,r⟩
theorem pW.none_of{o:Option Value}(r:pW none o):o=none:=by
 cases o with
 | none=>rfl
 | some u=>exact (show False from r).elim
theorem xw{v:V}{u:Value}(r:fw v u):W.handedIn u=true:=by
 cases v with
 | non=>cases (show u=Value.none from r);rfl
 | bl b=>cases (show u=Value.bool b from r);rfl
 | int i=>obtain⟨t,e⟩:=(show ∃t,u=Value.int i t from r);cases e;rfl
 | str x=>obtain⟨t,e⟩:=(show ∃t,u=Value.str x t from r);cases e;rfl
 | byt b=>obtain⟨t,e⟩:=(show ∃t,u=Value.bytes b t from r);cases e;rfl
 | flt b=>obtain⟨t,e⟩:=(show ∃t,u=Value.float b t from r);cases e;rfl
 | ref a=>cases (show u=Value.ref a from r);rfl
 | ty n=>cases (show u=Value.type n from r);rfl
section
variable {P:Program}{w:World}{H H':Hp}{h h':Heap}{a C dx:Addr}{fs fs':List (Str×V)}
theorem oa(hok:nh P w H h)(e:H a=some (.ins C dx fs)):∃mA,vq h a dx C mA/\(∀f,pW (fs.lookup f) (mA f))/\PySem.Within mA (fs.map (·.1))/\fs.length<=1000/\H dx=some (.own a):=by obtain⟨d,z,ne,ob,mA,n,r,q⟩:=(show gS P w H h a (.ins C dx fs) from hok a _ e);exact⟨mA,⟨ob,n,ne⟩,r,q,z,d⟩
end
structure qB(K:W.Frag)(C:Addr):Prop where
 pg:W.plainGet K C Str.empty=true
 hd:W.hasDictIn K C=true
 po:W.plainOver K C=true
 sa:W.findIn K (.ref C) "__setattr__" = some (some (.builtin "object.__setattr__"))
theorem qB.get{K:W.Frag}{C:Addr}(c:qB K C)(f:Str):W.plainGet K C f=true:=c.pg
def iJ(K:W.Frag)(C:Addr)(f:Str):Prop:=W.findIn K (.ref C) f=some none
theorem iJ.taker{K:W.Frag}{C:Addr}{f:Str}(n:iJ K C f):W.takerIn K C f=some none:=by unfold W.takerIn;rw[show W.findIn K (.ref C) f=some none from n];rfl
structure BH(K:W.Frag)(C:Addr)(m:Str)(f:Addr):Prop where
 at_:W.findIn K (.ref C) m=some (some (.ref f))
 fn:W.isFn K (.ref f)=true
 kp:W.keepIn K (.ref f)=true
section
variable {X:Cx}{dH:List (Addr×Obj)}{σ:St}{H:Hp}{s:Shared}{a C dx:Addr}{fs:List (Str×V)}{f:Str}{v:V}{A:Around}{E:Value->Shared->Prop}
theorem vh{b:Bool}{Q:Value->Shared->Prop}(I:eh X dH σ H s)(e:H a=some (.ins C dx fs))(c:qB X.K C)(n:iJ X.K C f)(l:fs.lookup f=some v)
  (h:∀u s',eh X dH σ H s'->fw v u->Q u s'):wpAny (model X.prog X.w) A (getAttr (.ref a) f b) Q E s:=by
 obtain⟨mA,O,r,_,_,_⟩:=oa I.hok e;obtain⟨u,hu,ru⟩:=pW.some_of (v:=v) (o:=mA f) (by rw[<-l];exact r f);exact Cv I.kIn O (c.get f) c.hd n hu (xw ru) (h u _ (I.tok _) ru)
theorem uH{m:Str}{g:Addr}{pl:Sem Bool}{Q:Value×List Value->Shared->Prop}(I:eh X dH σ H s)(e:H a=some (.ins C dx fs))(c:qB X.K C)(k:BH X.K C m g)(l:fs.lookup m=none)
  (h:Q (.ref g,[.ref a]) s):wpAny (model X.prog X.w) A (getMethod (.ref a) m pl) Q E s:=by
 obtain⟨mA,O,r,_,_,_⟩:=oa I.hok e;have hn:mA m=none:=pW.none_of (by rw[<-l];exact r m);exact Ax I.kIn O (c.get m) k.at_ k.fn hn h
theorem u0{y:V}{u:Value}{Q:Unit->Shared->Prop}(I:eh X dH σ H s)(e:H a=some (.ins C dx fs))(c:qB X.K C)(n:iJ X.K C f)(hl:fs.length<1000)(ry:fw y u)
  (h:∀s',eh X dH σ (gC H a (.ins C dx (kg f y fs))) s'->Q () s'):wpAny (model X.prog X.w) A (setAttr (.ref a) f u) Q E s:=by
 obtain⟨mA,O,r,wi,_,ho⟩:=oa I.hok e;have hz:(fs.map (·.1)).length<=sizeLine:=by rw[aw,sizeLine_eq];omega
 refine Bz I.kIn O c.sa c.po n.taker c.hd wi hz λh' O' sb=>h _ ?_;have hd:∃o,h'.get? dx=some o:=let ⟨o,_,_,e',_⟩:=O'.ns;⟨o,e'⟩;refine I.write (x:=a) (e:=dx) (by rw[e];exact True.intro) (.inr ho) (λb q hb z=>(sb.2 b hb).trans z) hd ?_;refine⟨by rw[ei O.ne];exact ho,?_,O.ne,O'.obj,_,O'.ns,λg=>?_,λg hg=>?_⟩
 ·have:=nP f y fs;omega
 ·show pW ((kg f y fs).lookup g) (if g=f then some u else mA g);rw[nI];by_cases q:g=f
  ·rw[aP q,aP q];exact ry
  ·rw[aQ q,aQ q];exact r g
 ·by_cases q:g=f
  ·rw[q];exact (nj f y fs).1
  ·refine (nj f y fs).2 g (wi g λz=>hg ?_);show (if g=f then some u else mA g)=none;rw[aQ q];exact z
theorem eh.made(I:eh X dH σ H s):eh X dH σ (gC (gC H s.heap.objs.size (.own (s.heap.objs.size+1))) (s.heap.objs.size+1) (.ins C s.heap.objs.size []))
  {s with heap:=(s.heap.push W.emptyDict).push (W.instObj C s.heap.objs.size)}:=by
 have e1:(s.heap.push W.emptyDict).get? s.heap.objs.size=some W.emptyDict:=ar s.heap rfl;have e2:((s.heap.push W.emptyDict).push (W.instObj C s.heap.objs.size)).get? (s.heap.objs.size+1)=some (W.instObj C s.heap.objs.size):=by have:=ar (s.heap.push W.emptyDict) (o:=W.instObj C s.heap.objs.size) rfl;rwa [Heap.size_push] at this
 have e3:(s.heap.push W.emptyDict).Ns s.heap.objs.size (λ_=>none):=⟨W.emptyDict,#[],_,e1,rfl,(λe he=>absurd he (by simp)),λ_=>rfl⟩;have I1:=I.laid (a:=s.heap.objs.size) (o:=.own (s.heap.objs.size+1)) (h':=s.heap.push W.emptyDict) (t':=s.toks) (λb u q=>ae _ q) (aJ _) ⟨_,e1⟩;refine I1.laid (a:=s.heap.objs.size+1) (o:=.ins C s.heap.objs.size []) (t':=s.toks) (λb u q=>ae _ q) (Nat.le_of_eq (Heap.size_push _ _)) ?_;have ne:s.heap.objs.size≠s.heap.objs.size+1:=aL (bA _);refine⟨by rw[ei ne,d8],bB _,ne,e2,λ_=>none,(Heap.Ns1.of_empty e3).at λo q=>ae _ q,λ_=>True.intro,λy hy=>absurd rfl hy⟩
theorem Ci{prog:Program}{w:World}{env:Env}{e:Expr}{f:Str}{pos:Pos}{s:Shared}{Q:Value->Shared->Prop}(hb:attributeBase e f env (eval e env)=eval e env)
  (h:wpAny (model prog w) A (eval e env) (λo s₁=>wpAny (model prog w) A (getAttr o f true) Q E s₁) E s):wpAny (model prog w) A (eval (.Attribute e f pos) env) Q E s:=
 Attribute_any_ h (by rw[arm_eval_Attribute,hb])
end
def E5(K:W.Frag)(ta:TE)(f:Str):TE:=λσ H Q=>ta σ H λx H1=>∃a C dx fs v,x=.ref a/\H1 a=some (.ins C dx fs)/\qB K C/\iJ K C f/\fs.lookup f=some v/\Q v H1
def Ec(K:W.Frag)(ta tv:TE)(f:Str):TS:=λD σ H=>tv σ H λy H1=>ta σ H1 λx H2=>∃a C dx fs,x=.ref a/\H2 a=some (.ins C dx fs)/\qB K C/\iJ K C f/\fs.length<1000/\
 D.nx σ (gC H2 a (.ins C dx (kg f y fs)))
section
variable {X:Cx}{o e value:Expr}{f:Str}{pos pos' tpos:Pos}{ta tv:TE}
theorem DB(he:PE X e ta)(hb:attributeBase e f X.env (eval e X.env)=eval e X.env):PE X (.Attribute e f pos) (E5 X.K ta f):=by intro dH s σ H Q I h;refine Ci hb (gp (he dH s σ H _ I h) λu s1 ⟨x,H1,I1,rx,a,C,dx,fs,v,ex,ea,c,n,l,q⟩=>?_);subst ex;obtain rfl:u=Value.ref a:=rx;exact vh I1 ea c n l λu' s2 I2 ru=>⟨v,H1,I2,ru,q⟩
theorem zh(ha:PE X o ta)(hv:PE X value tv)(hs:swapsWith value (some (.Attribute o f pos')) pos.line X.env=pure false):PS X (.Assign [.Attribute o f pos'] value pos) (Ec X.K ta tv f):=by intro dH s σ H D I h;refine plainObj_wpAny_Assign_Attribute (gp (hv dH s σ H _ I h) λu s1 ⟨y,H1,I1,ry,q⟩=>gp (ha dH s1 σ H1 _ I1 q) λov s2 ⟨x,H2,I2,rx,a,C,dx,fs,ex,ea,c,n,l,q2⟩=>?_) hs;subst ex;obtain rfl:ov=Value.ref a:=rx;exact u0 I2 ea c n l ry λs3 I3=>⟨σ,_,I3,q2⟩
end
section
variable {X:Cx}{dH:List (Addr×Obj)}{σ:St}{H:Hp}{s:Shared}{A:Around}{E:Value->Shared->Prop}{Q:Value->Shared->Prop}{c:Value}{b:Bool}
inductive kH(K:W.Frag)(H:Hp):V->Value->Prop where
 | non:kH K H .non (.type "NoneType")
 | bl (x:Bool):kH K H (.bl x) (.type "bool")
 | int (i:Int):kH K H (.int i) (.type "int")
 | str (x:Str):kH K H (.str x) (.type "str")
 | flt (x:UInt64):kH K H (.flt x) (.type "float")
 | lst {a:Addr} {xs:List V} (e:H a=some (.lst xs)):kH K H (.ref a) (.type "list")
 | frz {a:Addr} {o:Obj} {xs:List V} (e:H a=some (.frz o (.lst xs))):kH K H (.ref a) (.type "list")
 | tup {a:Addr} {xs:List V} (e:H a=some (.tup xs)):kH K H (.ref a) (.type "tuple")
 | dK {a:Addr} {kvs:List (om×V)} (e:H a=some (.dK kvs)):kH K H (.ref a) (.type "dict")
 | dT {a:Addr} {kvs:List (List om×V)} (e:H a=some (.dT kvs)):kH K H (.ref a) (.type "dict")
 | ins {a C dx:Addr} {fs:List (Str×V)} (e:H a=some (.ins C dx fs)) (cl:qB K C) (ha:W.findIn K (.ref C) "__class__" = some (some (.builtin "object.__class__")))
   (hn:W.specialIn K (.builtin "object.__class__") "__get__" = some (some (.builtin "getset_descriptor.__get__"))) (htk:W.takesIn K (.builtin "object.__class__")=some true)
   (hm:W.mroIn K C (.type "object")=some true):kH K H (.ref a) (.ref C)
theorem xB{x:V}{u t:Value}(I:eh X dH σ H s)(rx:fw x u)(ty:kH X.K H x t)(e:W.kitOne X.K t c=some b)(h:∀tk,Q (.bool b) {s with toks:=tk}) :
  wpAny (model X.prog X.w) A (call (.builtin "isinstance") [u,c]) Q E s:=by
 cases ty with
 | non=>cases (show u=Value.none from rx);exact W.kia_one W.kitx_none I.kIn True.intro e (λz=>nomatch z) h
 | bl y=>cases (show u=Value.bool y from rx);exact W.kia_one W.kitx_bool I.kIn True.intro e (λz=>nomatch z) h
 | int i=>obtain⟨t,q⟩:=(show ∃t,u=Value.int i t from rx);cases q;exact W.kia_one W.kitx_int I.kIn True.intro e (λz=>nomatch z) h
 | str y=>obtain⟨t,q⟩:=(show ∃t,u=Value.str y t from rx);cases q;exact W.kia_one W.kitx_str I.kIn True.intro e (λz=>nomatch z) h
 | flt y=>obtain⟨t,q⟩:=(show ∃t,u=Value.float y t from rx);cases q;exact W.kia_one W.kitx_float I.kIn True.intro e (λz=>nomatch z) h
 | @lst a xs ea=>cases (show u=Value.ref a from rx);obtain⟨_,_,n,_,h1⟩:=(show gS X.prog X.w H s.heap a (.lst xs) from I.hok a _ ea);exact W.kia_one W.kitx_list I.kIn ⟨_,h1,rfl⟩ e (λz=>nomatch z) h
 | @frz a ob xs ea=>cases (show u=Value.ref a from rx);obtain⟨_,_,_,n,_,h1⟩:=(show gS X.prog X.w H s.heap a (.frz ob (.lst xs)) from I.hok a _ ea);exact W.kia_one W.kitx_list I.kIn ⟨_,h1,rfl⟩ e (λz=>nomatch z) h
 | @tup a xs ea=>cases (show u=Value.ref a from rx);obtain⟨_,_,_,p⟩:=(show gS X.prog X.w H s.heap a (.tup xs) from I.hok a _ ea);obtain⟨o,h1,h2,_⟩:=p;exact W.kia_one W.kitx_tuple I.kIn ⟨o,h1,h2⟩ e (λz=>nomatch z) h
 | @dK a kvs ea=>cases (show u=Value.ref a from rx);obtain⟨_,_,vs,_,p⟩:=(show gS X.prog X.w H s.heap a (.dK kvs) from I.hok a _ ea);obtain⟨o,es,ep,h1,h2,_⟩:=p;exact W.kia_one W.kitx_dict I.kIn ⟨o,h1,h2.1⟩ e (λz=>nomatch z) h
 | @dT a kvs ea=>cases (show u=Value.ref a from rx);obtain⟨_,_,xs,_,o,es,ep,h1,h2,_⟩:=(show gS X.prog X.w H s.heap a (.dT kvs) from I.hok a _ ea);exact W.kia_one W.kitx_dict I.kIn ⟨o,h1,h2.1⟩ e (λz=>nomatch z) h
 | @ins a C dx fs ea cl ha hn htk hm=>cases (show u=Value.ref a from rx);obtain⟨mA,O,_⟩:=oa I.hok ea;obtain⟨od,J,_⟩:=O.look;exact W.kia_one (W.kitx_own (cl.get _) cl.hd ha hn htk hm) I.kIn J e (λz=>nomatch z) h
end
end L2
namespace L2
open PySem PySem.Spec PyProof.Rows
structure fO(k:Nat)(A:Around):Prop where
 hd:A.handled=none
 dp:A.depth+3*k+5<recursionLimit
 un:A.units+16*k+200<cLine
theorem fO.mono{j k:Nat}{A:Around}(r:fO k A)(h:j<=k):fO j A:=⟨r.hd,by have:=r.dp;omega,by have:=r.un;omega⟩
theorem fO.deeper{k:Nat}{A:Around}(r:fO (k+1) A)(env:Env):fO k (A.deeper env):=⟨r.hd,by have:=r.dp;show A.depth+1+3*k+5<_;omega,by have:=r.un;show A.units+3+16*k+200<_;omega⟩
theorem uS{A:Around}{C:Addr}{us:List Value}{kw:List (Str×Value)}:(A.under (.builtin "type.__call__" ⟨.ref C::us,kw⟩)).depth=A.depth+1:=by first | rfl | simp[Around.under,Code.weight,Code.isCreation,Code.isGuard,Code.isCaller,Code.frames,Code.isFrame,guardIds]
theorem ve{A:Around}{C:Addr}{us:List Value}{kw:List (Str×Value)}:(A.under (.builtin "type.__call__" ⟨.ref C::us,kw⟩)).units=A.units+1:=by first | rfl | simp[Around.under,Code.cUnits,Code.frames,Code.isFrame]
theorem fO.make{k:Nat}{A:Around}(r:fO (k+1) A)(C:Addr)(us:List Value)(kw:List (Str×Value)):fO k (A.under (.builtin "type.__call__" ⟨.ref C::us,kw⟩)):=⟨r.hd,by have:=r.dp;rw[uS];omega,by have:=r.un;rw[ve];omega⟩
theorem fO.depth{k:Nat}{A:Around}(r:fO k A):A.depth<recursionLimit:=by have:=r.dp;omega
def qg:TA:=λ_ H Q=>Q [] H
def nU(ta:TE)(tr:TA):TA:=λσ H Q=>ta σ H λx H1=>tr σ H1 λxs H2=>Q (x::xs) H2
section
variable {X:Cx}{e:Expr}{es:List Expr}{te:TE}{t:TA}{pos:Pos}
theorem sj:PA X [] qg:=λ_ _ _ _ H Q I h=>Calls.spliced_nil ⟨[],H,I,.nil,h⟩
theorem mG(ha:PE X e te)(hr:PA X es t)(hs:starEach (e::es) X.env=(false,eval e X.env)::starEach es X.env:=by rfl):PA X (e::es) (nU te t):=by intro pos dH s σ H Q I h;rw[hs];show wpAny _ _ (spliced ((false,eval e X.env)::backTo pos (starEach es X.env))) _ _ s;refine Calls.spliced_cons (gp (ha dH s σ H _ I h) λu s1 ⟨x,H1,I1,r1,q1⟩=>?_);exact gp (hr pos dH s1 σ H1 _ I1 q1) λus s2 ⟨xs,H2,I2,r2,q2⟩=>⟨x::xs,H2,I2,.cons r1 r2,q2⟩
def EW(t:TA):TE:=λσ H Q=>t σ H λxs H1=>xs.length<=sizeLine/\∀p,H1 p=none->Q (.ref p) (gC H1 p (.tup xs))
def EC(t:TA):TE:=λσ H Q=>t σ H λxs H1=>xs.length<=sizeLine/\∀p,H1 p=none->Q (.ref p) (gC H1 p (.lst xs))
theorem Fx{x1}(h:PA X es t):PE X (.Tuple es x1 pos) (EW t):=by intro dH s σ H Q I hq;refine wpAny_Tuple_spliced (gp (h pos dH s σ H _ I hq) λus s1 ⟨xs,H1,I1,r,z,q⟩=>⟨by rw[<-r.length];exact z,?_⟩);have hf:H1 s1.heap.objs.size=none:=I1.hok.fresh (aJ _);refine⟨.ref s1.heap.objs.size,gC H1 s1.heap.objs.size (.tup xs),I1.laid (t':=s1.toks) (λb u e=>ae _ e) (aJ _) ?_,rfl,q _ hf⟩;exact⟨z,us,r,⟨_,ar _ rfl,rfl,_,rfl⟩⟩
theorem Dy(h:PA X es t):PE X (.List es pos) (EC t):=by intro dH s σ H Q I hq;refine wpAny_List_spliced (gp (h pos dH s σ H _ I hq) λus s1 ⟨xs,H1,I1,r,z,q⟩=>⟨by rw[<-r.length];exact z,?_⟩);have hf:H1 s1.heap.objs.size=none:=I1.hok.fresh (aJ _);refine⟨.ref s1.heap.objs.size,gC H1 s1.heap.objs.size (.lst xs),I1.laid (t':=s1.toks) (λb u e=>ae _ e) (aJ _) ?_,rfl,q _ hf⟩;exact⟨z,us,0,r,ar _ rfl⟩
end
abbrev Sp:=List V->Hp->VK->XK->Prop
abbrev xp:=List Env->Hp->Shared->XK->Value->Shared->Prop
structure uE(P:Program)(w:World)(K:W.Frag)(mg:Str->Option Value)(base:Heap)(A:Around)(outer:List Env)(s:Shared)(H:Hp):Prop where
 frames:A.frames=some outer
 mod:Mod K mg base
 bs:∀b o,base.get? b=some o->s.heap.get? b=some o/\H b=none
 bsz:base.objs.size<=s.heap.objs.size
 funs:s.heap.FunFrames base outer
 frf:∀b∈yu outer,H b=none
 hok:nh P w H s.heap
 bare:AllBare s.gens
def CE(outer:List Env)(P:Program)(w:World)(H:Hp)(s:Shared)(Q:VK)(u:Value)(s':Shared):Prop:=∃v H',s'.os=s.os/\AllBare s'.gens/\Un (yu outer) [] H H' s.heap s'.heap/\nh P w H' s'.heap/\fw v u/\Q v H'
def CR(CX:xp)(outer:List Env)(P:Program)(w:World)(H:Hp)(s:Shared)(Q:VK)(E:XK)(r:Result)(s':Shared):Prop:=
 match r with
 | .ok (.ret u)=>CE outer P w H s Q u s'
 | .ok _=>False
 | .error e=>CX outer H s E e s'
structure jB(P:Program)(w:World)(K:W.Frag)(mg:Str->Option Value)(base:Heap)(CX:xp)(k:Nat)(f:Addr)(fd:FuncData)(ps:List Str)(sp:Sp):Prop where
 len:∀vs H Q E,sp vs H Q E->vs.length=ps.length
 run:∀(A:Around) (outer:List Env) (s:Shared) (H:Hp) (args:Args) (us:List Value) (vs:List V) (Q:VK) (E:XK),fO k A->uE P w K mg base A outer s H->BindsTo s fd args (ps.zip us)->eF vs us->sp vs H Q E->
  codeAny (model P w) A (.call (.ref f) args) (CR CX outer P w H s Q E) s
theorem jB.mono{P:Program}{w:World}{K:W.Frag}{mg:Str->Option Value}{base:Heap}{CX:xp}{j k:Nat}{f:Addr}{fd:FuncData}{ps:List Str}{sp:Sp}(F:jB P w K mg base CX j f fd ps sp)(h:j<=k) :
  jB P w K mg base CX k f fd ps sp:=⟨F.len,λA outer s H args us vs Q E hr=>F.run A outer s H args us vs Q E (hr.mono h)⟩
theorem jB.imp{P:Program}{w:World}{K:W.Frag}{mg:Str->Option Value}{base:Heap}{CX:xp}{k:Nat}{f:Addr}{fd:FuncData}{ps:List Str}{sp sp':Sp}(F:jB P w K mg base CX k f fd ps sp)
  (h:∀vs H Q E,sp' vs H Q E->sp vs H Q E):jB P w K mg base CX k f fd ps sp':=
 ⟨λvs H Q E q=>F.len vs H Q E (h _ _ _ _ q),λA outer s H args us vs Q E hr he hb hv hs=>F.run A outer s H args us vs Q E hr he hb hv (h _ _ _ _ hs)⟩
theorem uE.make{P:Program}{w:World}{K:W.Frag}{mg:Str->Option Value}{base:Heap}{A:Around}{outer:List Env}{s:Shared}{H:Hp}(e:uE P w K mg base A outer s H)(C:Addr)(us:List Value)(kw:List (Str×Value)) :
  uE P w K mg base (A.under (.builtin "type.__call__" ⟨.ref C::us,kw⟩)) outer s H:=⟨by first | exact e.frames | (simpa[Around.under,Code.envs,Code.isFrame,pushEnvs] using e.frames),e.mod,e.bs,e.bsz,e.funs,e.frf,e.hok,e.bare⟩
section
variable {X:Cx}{dH:List (Addr×Obj)}{σ:St}{H:Hp}{s s':Shared}
theorem eh.env0(I:eh X dH σ H s):uE X.prog X.w X.K X.mg X.base X.A X.stack s H:=⟨I.ok.frames,I.ok.mod,I.bs,aM I.ok.bsz I.sz,I.stack,I.stkFree,I.hok,I.bare⟩
theorem eh.after{Q:VK}{u:Value}(I:eh X dH σ H s)(h:CE X.stack X.prog X.w H s Q u s'):EP X dH σ Q u s':=by obtain⟨v,H',os,bare,un,hok,r,q⟩:=h;obtain⟨hh,g,d,t,os'⟩:=s';obtain rfl:os'=s.os:=os;exact⟨v,H',I.call (h':=hh) (g':=g) (d':=d) (t':=t) (ch:=[]) un hok bare (λb z=>absurd z (by simp)),r,q⟩
end
def qM(sp:Sp)(dvs:List V)(E:XK)(t:TA):TE:=λσ H Q=>t σ H λvs H1=>sp (vs++dvs) H1 Q E
def qA(C:Addr)(m:Str)(sp:Sp)(dvs:List V)(E:XK)(ta:TE)(t:TA):TE:=λσ H Q=>ta σ H λx H1=>∃a dx fs,x=.ref a/\H1 a=some (.ins C dx fs)/\fs.lookup m=none/\
 t σ H1 λvs H2=>sp (x::(vs++dvs)) H2 Q E
def wR(C:Addr)(sp:Sp)(dvs:List V)(E:XK)(t:TA):TE:=λσ H Q=>t σ H λvs H1=>∀x dx,H1 x=none->H1 dx=none->dx≠x->
 sp (.ref x::(vs++dvs)) (gC (gC H1 dx (.own x)) x (.ins C dx [])) (λv H2=>v=.non/\Q (.ref x) H2) E
def kM(K:W.Frag)(fd:FuncData)(ps:List Str)(ds:List Value):Prop:=∀(s:Shared) (us:List Value),K.In s.heap->(us++ds).length=ps.length->BindsTo s fd ⟨us,[]⟩ (ps.zip (us++ds))
theorem kM.all{K:W.Frag}{fd:FuncData}{ps:List Str}(h:∀us:List Value,us.length=ps.length->bindArgs fd ⟨us,[]⟩=pure (ps.zip us)):kM K fd ps []:=λs us _ hl=>by rw[bC] at hl ⊢;exact .of_eq (h us hl)
def nc(CX:xp)(X:Cx)(E:XK):Prop:=∀(dH:List (Addr×Obj)) (σ:St) (H:Hp) (s:Shared) (e:Value) (s':Shared),eh X dH σ H s->CX X.stack H s E e s'->X.xe e s'
section
variable {X:Cx}{CX:xp}{k:Nat}{f C:Addr}{fd:FuncData}{ps:List Str}{sp:Sp}{dvs:List V}{ds:List Value}{E:XK}{x m:Str}{p pos apos:Pos}{e o:Expr}{es:List Expr}{ta:TE}{t:TA}
theorem yF{dH:List (Addr×Obj)}{σ:St}{H:Hp}{s:Shared}{Q:VK}{us:List Value}{vs:List V}(F:jB X.prog X.w X.K X.mg X.base CX k f fd ps sp)(hr:fO k X.A)(hb:kM X.K fd ps ds)(hd:eF dvs ds)(hx:nc CX X E)
  (I:eh X dH σ H s) (r:eF vs us) (h:sp (vs++dvs) H Q E):wpAny (model X.prog X.w) X.A (call (.ref f) us) (EP X dH σ Q) X.xe s:=by
 have r2:eF (vs++dvs) (us++ds):=r.append hd;have hl:(us++ds).length=ps.length:=by rw[<-r2.length];exact F.len _ _ _ _ h
 refine wpAny_call (codeAny_mono (F.run X.A X.stack s H ⟨us,[]⟩ (us++ds) (vs++dvs) Q E hr I.env0 (hb s us I.kIn hl) r2 h) λr s' hq=>?_);cases r with
 | error e=>exact hx dH σ H s e s' I hq
 | ok fl=>
  cases fl with
  | ret u=>exact I.after hq
  | next=>exact False.elim hq
  | brk=>exact False.elim hq
  | cont=>exact False.elim hq
theorem Be(F:jB X.prog X.w X.K X.mg X.base CX k f fd ps sp)(hr:fO k X.A)(hg:Gl X x)(hm:X.mg x=some (.ref f))(hk:W.keepIn X.K (.ref f)=true)(hb:kM X.K fd ps ds)(hd:eF dvs ds)(hx:nc CX X E)
  (ha:PA X (e::es) t) (hdb:(x == ("__debug__" : Str))=false:=by decide) (he:starEach (e::es) X.env=(false,eval e X.env)::starEach es X.env:=by rfl) (hpl:(backTo pos (starEach es X.env)).any (·.1)=false:=by rfl) :
  PE X (.Call (.Name x p) (e::es) [] pos) (qM sp dvs E t):=by
 intro dH s σ H Q I h;refine wpAny_Call_Name_kw (rJ I hg hm ?_ hdb);refine W.callWith_K (h₀:=X.base) I.ok.mod.kin hk (gp (ha pos dH s σ H _ I h) λus s1 ⟨vs,H1,I1,r,q⟩=>⟨I1.kIn,?_⟩) he hpl;exact yF F hr hb hd hx I1 r q
theorem Ad{pl:Sem Bool}(he:PE X o ta)(c:qB X.K C)(hm:BH X.K C m f)(F:jB X.prog X.w X.K X.mg X.base CX k f fd ps sp)(hr:fO k X.A)(hb:kM X.K fd ps ds)(hd:eF dvs ds)(hx:nc CX X E)
  (ht:eval (.Call (.Attribute o m apos) [] [] pos) X.env=(do
   let ov <-eval o X.env
   standAt apos.atName
   let (f,first) <-holding [ov] (getMethod ov m pl)
   callWith pos f first (backTo pos (starEach [] X.env)) (backToKw pos (keywordEach [] X.env))):=by rfl) :
  PE X (.Call (.Attribute o m apos) [] [] pos) (qA C m sp dvs E ta qg):=by
 intro dH s σ H Q I h;refine W.methodCall_KW (pl:=pl) (gp (he dH s σ H _ I h) λu s1 ⟨x,H1,I1,rx,a,dx,fs,ex,ea,l,q⟩=>?_) ht;subst ex;obtain rfl:u=Value.ref a:=rx;refine uH I1 ea c hm l ?_;exact W.callWith_K0 (first:=[.ref a]) I1.kIn hm.kp (yF (us:=[.ref a]) (vs:=[.ref a]) F hr hb hd hx I1 (.cons rfl .nil) q)
structure Mk(K:W.Frag)(C f:Addr):Prop where
 makes:W.makesIn K C=true
 init:W.findIn K (.ref C) "__init__" = some (some (.ref f))
 fn:W.isFn K (.ref f)=true
 kp:W.keepIn K (.ref C)=true
theorem zD{dH:List (Addr×Obj)}{σ:St}{H:Hp}{s:Shared}{Q:VK}{us:List Value}{vs:List V}(M:Mk X.K C f)(F:jB X.prog X.w X.K X.mg X.base CX k f fd ps sp)(hr:fO (k+1) X.A)(hb:kM X.K fd ps ds)(hd:eF dvs ds)
  (hx:nc CX X E) (I:eh X dH σ H s) (r:eF vs us)
  (h:∀x dx,H x=none->H dx=none->dx≠x->sp (.ref x::(vs++dvs)) (gC (gC H dx (.own x)) x (.ins C dx [])) (λv H2=>v=.non/\Q (.ref x) H2) E) :
  wpAny (model X.prog X.w) X.A (call (.ref C) us) (EP X dH σ Q) X.xe s:=by
 have hq:=h (s.heap.objs.size+1) s.heap.objs.size (I.hok.fresh (bD _)) (I.hok.fresh (aJ _)) (aL (bA _));have I2:=eh.made (C:=C) I;have r2:eF (V.ref (s.heap.objs.size+1)::(vs++dvs)) (Value.ref (s.heap.objs.size+1)::(us++ds)):=.cons rfl (r.append hd);have hl:(Value.ref (s.heap.objs.size+1)::us++ds).length=ps.length:=by have e:=r2.length;rw[F.len _ _ _ _ hq] at e;exact e.symm
 refine wpAny_call (z9 (f:=f) I.kIn M.makes M.init (beq_iff_eq.mp M.fn) (codeAny_mono (F.run _ X.stack _ _ ⟨Value.ref (s.heap.objs.size+1)::us,[]⟩ (Value.ref (s.heap.objs.size+1)::(us++ds)) _ _ E (hr.make C us [])
  (I2.env0.make C us []) (hb _ (Value.ref (s.heap.objs.size+1)::us) I2.kIn hl) r2 hq) λr s' hq'=>?_))
 cases r with
 | error e=>exact hx dH σ _ _ e s' I2 hq'
 | ok fl=>
  cases fl with
  | ret u=>obtain⟨v,H',I3,rv,ev,q3⟩:=I2.after hq';subst ev;exact⟨rv,⟨V.ref (s.heap.objs.size+1),H',I3,rfl,q3⟩⟩
  | next=>exact False.elim hq'
  | brk=>exact False.elim hq'
  | cont=>exact False.elim hq'
theorem Ck(M:Mk X.K C f)(F:jB X.prog X.w X.K X.mg X.base CX k f fd ps sp)(hr:fO (k+1) X.A)(hg:Gl X x)(hm:X.mg x=some (.ref C))(hb:kM X.K fd ps ds)(hd:eF dvs ds)(hx:nc CX X E)
  (ha:PA X (e::es) t) (hdb:(x == ("__debug__" : Str))=false:=by decide) (he:starEach (e::es) X.env=(false,eval e X.env)::starEach es X.env:=by rfl) (hpl:(backTo pos (starEach es X.env)).any (·.1)=false:=by rfl) :
  PE X (.Call (.Name x p) (e::es) [] pos) (wR C sp dvs E t):=by
 intro dH s σ H Q I h;refine wpAny_Call_Name_kw (rJ I hg hm ?_ hdb);refine W.callWith_K (h₀:=X.base) I.ok.mod.kin M.kp (gp (ha pos dH s σ H _ I h) λus s1 ⟨vs,H1,I1,r,q⟩=>⟨I1.kIn,?_⟩) he hpl;exact zD M F hr hb hd hx I1 r q
end
section
variable {X:Cx}{CX:xp}{k:Nat}{f C:Addr}{fd:FuncData}{ps ks:List Str}{sp:Sp}{E:XK}{x m:Str}{p pos apos kpos:Pos}{e o:Expr}{es:List Expr}{kws:List Keyword}{te ta:TE}{t tk:TA}{nm:Option Str}
variable {g:List Value->List Value->List Value}{gV:List V->List V->List V}
end
structure fS(N P:List Str)(sc:Scope):Prop where
 kind:sc.kind=.function
 co:sc.isCoroutine=false
 gen:sc.isGenerator=false
 nd:N.Nodup
 pre:N.take P.length=P
 par:∀x∈P,sc.names.lookup x=some .local\/sc.names.lookup x=some .cell
 nofree:∀y∈sc.names,y.2≠.free
theorem qI{kindOf:Str->Option NameKind}{x:Str}:∀{binds:List (Str×Value)} {m:Str->Option Value},(∀v,(x,v)∉binds)->bindL kindOf binds m x=m x
 | [],_,_=>rfl
 | (n,v)::r,m,h=>by
  unfold bindL;rw[qI λw hw=>h w (bh _ hw)];split
  ·have:x≠n:=by rintro rfl;exact h v bg
   simp[this]
  ·rfl
theorem qx{kindOf:Str->Option NameKind}{x:Str}:∀{binds:List (Str×Value)} {m:Str->Option Value},(∀v,(x,v)∉binds)->bindC kindOf binds m x=m x
 | [],_,_=>rfl
 | (n,v)::r,m,h=>by
  unfold bindC;rw[qx λw hw=>h w (bh _ hw)];split
  ·rfl
  ·have:x≠n:=by rintro rfl;exact h v bg
   simp[this]
theorem q9{kindOf:Str->Option NameKind}{x:Str}{v:Value}:∀{P:List Str} {vs:List Value} {i:Nat} {m:Str->Option Value},P.Nodup->P[i]? = some x->vs[i]? = some v->kindOf x=some .local->
  bindL kindOf (P.zip vs) m x=some v
 | [],_,_,_,_,h,_,_=>by simp at h
 | _::_,[],_,_,_,_,h,_=>by simp at h
 | p::P,w::vs,0,m,nd,h1,h2,hk=>by simp at h1 h2;subst h1;subst h2;show bindL kindOf ((p,w)::P.zip vs) m p=_;unfold bindL;rw[qI λv hv=>(bE.mp nd).1 (aV hv).1,aP hk];simp
 | p::P,w::vs,i+1,m,nd,h1,h2,hk=>by show bindL kindOf ((p,w)::P.zip vs) m x=_;unfold bindL;exact q9 (i:=i) (bE.mp nd).2 (by simpa using h1) (by simpa using h2) hk
theorem qW{kindOf:Str->Option NameKind}{x:Str}{v:Value}:∀{P:List Str} {vs:List Value} {i:Nat} {m:Str->Option Value},P.Nodup->P[i]? = some x->vs[i]? = some v->kindOf x≠some .local->
  bindC kindOf (P.zip vs) m x=some v
 | [],_,_,_,_,h,_,_=>by simp at h
 | _::_,[],_,_,_,_,h,_=>by simp at h
 | p::P,w::vs,0,m,nd,h1,h2,hk=>by simp at h1 h2;subst h1;subst h2;show bindC kindOf ((p,w)::P.zip vs) m p=_;unfold bindC;rw[qx λv hv=>(bE.mp nd).1 (aV hv).1,aQ hk];simp
 | p::P,w::vs,i+1,m,nd,h1,h2,hk=>by show bindC kindOf ((p,w)::P.zip vs) m x=_;unfold bindC;exact qW (i:=i) (bE.mp nd).2 (by simpa using h1) (by simpa using h2) hk
def i9(N:List Str)(vs:List V):St:=vs.map some++List.replicate (N.length - vs.length) none
def kD(CX:xp)(P:Program)(w:World)(K:W.Frag)(mg:Str->Option Value)(base:Heap)(N:List Str)(qual:Str)(scope:Scope)(f:Addr)(cd:Value)(A:Around)(outer:List Env)(s:Shared)(H:Hp)(E:XK):Cx where
 prog:=P
 w:=w
 K:=K
 mg:=mg
 base:=base
 A:=A.deeper (envOfC qual scope s.heap.objs.size f cd)
 N:=N
 s₀:=s
 H₀:=H
 env:=envOfC qual scope s.heap.objs.size f cd
 outer:=outer
 stack:=envOfC qual scope s.heap.objs.size f cd::outer
 ex:=[]
 calm:=true
 fn:=λ_=>true
 pn:=[]
 xe:=λe s'=>wpAny (model P w) (A.deeper (envOfC qual scope s.heap.objs.size f cd)) (leaving (envOfC qual scope s.heap.objs.size f cd) e) (λ_ s''=>CX outer H s E e s'') (λe' s''=>CX outer H s E e' s'') s'
theorem jw{sc:Scope}{n:Nat}{x:Str}(h:sc.names.lookup x=some .cell):∃c,(cellsFrom n sc.names []).lookup x=some c:=by have q:=W.cellsFrom_some sc.names n [] (.inl h);exact bF.mp q
theorem yi{CX:xp}{P:Program}{w:World}{K:W.Frag}{mg:Str->Option Value}{base:Heap}{N ps:List Str}{qual:Str}{scope:Scope}{f:Addr}{cd:Value}{A:Around}{outer:List Env}{s s1:Shared}{H:Hp}{E:XK}{us:List Value}{vs:List V}
  (S:fS N ps scope) (hd:A.handled=none) (e0:uE P w K mg base A outer s H) (hl:vs.length=ps.length) (r:eF vs us)
  (x:InCallC s s.heap.objs.size (bindL (envOfC qual scope s.heap.objs.size f cd).kindOf (ps.zip us) λ_=>none) (cellsFrom (s.heap.objs.size+1) scope.names []) (bindC (envOfC qual scope s.heap.objs.size f cd).kindOf (ps.zip us) λ_=>none) s1) :
  eh (kD CX P w K mg base N qual scope f cd A outer s H E) [] (i9 N vs) H s1:=by
 have hpl:ps.length<=N.length:=by have:=congrArg List.length S.pre;rw[bG] at this;omega
 obtain⟨h1,tk,rfl,hk⟩:=x.done;have noA:∀b:Addr,b∉(kD CX P w K mg base N qual scope f cd A outer s H E).ex:=λb z=>absurd (show b∈([]:List Addr) from z) (by simp);refine⟨⟨e0.mod,S.kind,rfl,rfl,aJ _,λy z c h1 h2=>?_,λy hy=>?_,λy c _ h=>?_,λ_=>hd,Around.frames_deeper e0.frames,.inr ⟨rfl,rfl⟩,λb z=>absurd z (noA b),e0.bs,e0.bsz,λb _ _=>noA b,λb z=>absurd z (noA b),e0.funs,e0.frf⟩,
  rfl,e0.bare,Un.kept hk,⟨_,x.toInCall.ns,λi y v h1 h2 h3=>?_⟩,λy c h=>⟨_,x.cell y c h⟩,e0.hok.fresh (aJ _),λy c h=>?_,λp hp=>absurd (show p∈([]:List (Addr×Obj)) from hp) (by simp),e0.hok.kept hk,?_⟩
 ·exact name_of_addr x.apart (PySem.mem_of_lookup h1) (PySem.mem_of_lookup h2)
 ·have hy:scope.names.lookup y=some .cell\/scope.names.lookup y=some .free:=hy;rcases hy with hy | hy
  ·exact jw hy
  ·exact absurd rfl (S.nofree _ (PySem.mem_of_lookup hy))
 ·exact bc (x.above y c (PySem.mem_of_lookup h))
 ·have hi:i<vs.length:=by
   unfold i9 at h2;by_cases hi:i<vs.length
   ·exact hi
   ·rw[List.getElem?_append_right (by simpa using hi)] at h2;rw[List.getElem?_replicate] at h2;split at h2<;>cases h2
  have ha:vs[i]? = some v:=by
   unfold i9 at h2;rw[List.getElem?_append_left (by simpa using hi),av] at h2;cases e:vs[i]? with
   | none=>rw[e] at h2;cases h2
   | some a=>rw[e] at h2;cases h2;rfl
  obtain⟨u,hu,rv⟩:=r.get ha;have hp:ps[i]? = some y:=by rw[<-S.pre,List.getElem?_take_of_lt (by omega)];exact h1
  have ndP:ps.Nodup:=by rw[<-S.pre];exact S.nd.sublist (List.take_sublist _ _)
  refine⟨u,rv,?_⟩;rcases S.par y (au hp) with k | k
  ·exact .inl ⟨k,q9 ndP hp hu k⟩
  ·obtain⟨c,e⟩:=jw (n:=s.heap.objs.size+1) k;refine .inr ⟨.inl k,c,e,?_⟩;have q:=x.cell y c e;rw[qW ndP hp hu (by show scope.names.lookup y≠_;rw[k];decide)] at q;exact q
 ·exact e0.hok.fresh (bc (x.above y c (PySem.mem_of_lookup h)))
 ·unfold i9;show _=N.length;rw[aS,aw,bH];omega
theorem Gw{CX:xp}{P:Program}{w:World}{K:W.Frag}{mg:Str->Option Value}{base:Heap}{k:Nat}{f:Addr}{name qual:Str}{params:Arguments}{body:List Stmt}{scope:Scope}{dV kV doc pm cdv ct oc:Value}{an od:Option Addr}
  {osl:Array (Option Value)} {N ps:List Str} {sp:Sp} (lk:K.lookup f=some ⟨oc,od,.func (W.fnOf name qual params body scope dV kV doc pm an cdv ct),osl⟩) (hcd:W.codeIn K cdv qual=true) (S:fS N ps scope)
  (len:∀vs H Q E,sp vs H Q E->vs.length=ps.length)
  (hbody:∀(A:Around) (outer:List Env) (s:Shared) (H:Hp) (vs:List V) (Q:VK) (E:XK),fO k (A.deeper (envOfC qual scope s.heap.objs.size f cdv))->sp vs H Q E->
   ∃t,uk (kD CX P w K mg base N qual scope f cdv A outer s H E) body t/\t {nx:=λ_ H'=>Q .non H',rt:=Q} (i9 N vs) H) :
  jB P w K mg base CX (k+1) f (W.fnOf name qual params body scope dV kV doc pm an cdv ct) ps sp:=by
 refine⟨len,λA outer s H args us vs Q E hr e0 hb r hsp=>?_⟩;have hl:=len _ _ _ _ hsp;have KX:K.In s.heap:=e0.mod.kin.keeps λb o e=>(e0.bs b o e).1;have lim:s.heap.NoLimit:=e0.mod.nolimit.keeps λb o e=>(e0.bs b o e).1;have hkind:∀y∈ps.zip us,scope.names.lookup y.1=some .local\/(scope.names.lookup y.1=some .cell/\((cellsFrom (s.heap.objs.size+1) scope.names []).lookup y.1).isSome=true):=λ⟨n,v⟩ hy=>by
  rcases S.par n (aV hy).1 with q | q
  ·exact .inl q
  ·exact .inr ⟨q,W.cellsFrom_some _ _ _ (.inl q)⟩
 refine codeAny_call_function hr.depth (KX _ _ lk) rfl S.co S.gen rfl (W.codeRec_of KX hcd) (hb _ _ _ _ ?_);refine wpAny_newFunctionEnv_cells S.kind hkind λenv he s1 x=>?_;subst he;refine⟨lim.keeps x.toInCall.keep,codeAny_func ?_⟩;obtain⟨t,ht,hq⟩:=hbody A outer s H vs Q E (hr.deeper _) hsp;have I:eh (kD CX P w K mg base N qual scope f cdv A outer s H E) [] (i9 N vs) H s1:=yi S hr.hd e0 hl r x;refine wpAny_mono (ht [] s1 (i9 N vs) H _ I hq) (λfl s' hs=>?_) λe s' hs=>hs;have fin:∀{σ':St} {H':Hp} {v:V} {u:Value},eh (kD CX P w K mg base N qual scope f cdv A outer s H E) [] σ' H' s'->fw v u->Q v H'->CE outer P w H s Q u s':=λ{σ' H' v u} J rv q=>⟨v,H',J.os,J.bare,J.base,J.hok,rv,q⟩
 cases fl with
 | ret u=>obtain⟨v,σ',H',J,rv,q⟩:=hs;exact fin J rv q
 | next=>obtain⟨σ',H',J,q⟩:=hs;exact fin (v:=V.non) (u:=Value.none) J rfl q
 | brk=>obtain⟨_,_,_,q⟩:=hs;exact False.elim q
 | cont=>obtain⟨_,_,_,q⟩:=hs;exact False.elim q
end L2
namespace L2
open PySem PySem.Spec PyProof.Rows
section
variable {X:Cx}{x:Str}{p pos:Pos}{e:Expr}{es:List Expr}{t:TA}{id T:String}{r:List V->Hp->VK->Prop}
def B2(r:List V->Hp->VK->Prop)(t:TA):TE:=λσ H Q=>t σ H λvs H1=>r vs H1 Q
theorem uu(hc:ib X (.builtin id) r)(hg:Gl X x)(hm:X.mg x=none)(hv:bootBuiltins x=some (.builtin id))(ha:PA X (e::es) t)(hn:x≠ "__name__" :=by decide)(hdb:(x == ("__debug__" : Str))=false:=by decide)
  (he:starEach (e::es) X.env=(false,eval e X.env)::starEach es X.env:=by rfl) (hpl:(backTo pos (starEach es X.env)).any (·.1)=false:=by rfl):PE X (.Call (.Name x p) (e::es) [] pos) (B2 r t):=by
 intro dH s σ H Q I h;refine wpAny_Call_Name_kw (kl I hg hm hv ?_ hn hdb);exact PyProof.Rows.callWith_builtin1 (gp (ha pos dH s σ H _ I h) λus s1 ⟨vs,H1,I1,r1,q1⟩=>hc dH s1 σ H1 vs us Q I1 r1 q1) he hpl
theorem qX(hc:ib X (.type T) r)(hg:Gl X x)(hm:X.mg x=none)(hv:bootBuiltins x=some (.type T))(ha:PA X (e::es) t)(hn:x≠ "__name__" :=by decide)(hdb:(x == ("__debug__" : Str))=false:=by decide)
  (he:starEach (e::es) X.env=(false,eval e X.env)::starEach es X.env:=by rfl) (hpl:(backTo pos (starEach es X.env)).any (·.1)=false:=by rfl):PE X (.Call (.Name x p) (e::es) [] pos) (B2 r t):=by
 intro dH s σ H Q I h;refine wpAny_Call_Name_kw (kl I hg hm hv ?_ hn hdb);exact PyProof.Rows.callWith_type1 (gp (ha pos dH s σ H _ I h) λus s1 ⟨vs,H1,I1,r1,q1⟩=>hc dH s1 σ H1 vs us Q I1 r1 q1) he hpl
end
end L2
namespace HT
open PySem PyProof.Rows
section
open PySem.SeqAt
open PySem.AutoSeq1 (wpAny_loadPart')
open PySem.MeetsSeq PySem.MeetsSeq2 PySem.MeetsSeq3
end
section
variable {prog:Program}{w:World}{A:Around}{E:Value->Shared->Prop}{s:Shared}
theorem cat_tup{t b:Addr}{vs ws:List Value}{Q:Value->Shared->Prop}(ht:IsTup s.heap t vs.toArray)(hb:IsTup s.heap b ws.toArray)(hv:vs≠[])
  (h1:ws=[]->Q (.ref t) s) (h2:ws≠[]->Q (.ref s.heap.objs.size) {s with heap:=s.heap.push {cls:=.type "tuple",data:=.seq (vs++ws).toArray}})
  (hsz:vs.length+ws.length<=sizeLine):wpAny (model prog w) A (binaryOp .Add (.ref t) (.ref b)) Q E s:=by
 obtain⟨⟨cls,dd,data,sl⟩,ho,hc,n,hd⟩:=id ht;obtain⟨⟨cls2,dd2,data2,sl2⟩,ho2,hc2,n2,hd2⟩:=id hb;simp only at hc hd hc2 hd2;subst hc hd hc2 hd2;have e:vs.toArray++ws.toArray=(vs++ws).toArray:=by simp
 by_cases hw:ws=[]
 ·exact concat_meets ⟨_,ho,rfl⟩ ⟨_,ho2,rfl⟩ noFill_tuple_add seq_tuple_add PySem.F.slot_tuple_add PySem.F.entry_tuple_add (PySem.F.args_tuple_add_2 _ _)
   (tuple_addW1 t b vs.toArray ws.toArray n n2 dd dd2 sl sl2 (by simpa using hv) (by simp[hw])) ⟨ho,ho2,h1 hw⟩
 ·refine concat_meets ⟨_,ho,rfl⟩ ⟨_,ho2,rfl⟩ noFill_tuple_add seq_tuple_add PySem.F.slot_tuple_add PySem.F.entry_tuple_add (PySem.F.args_tuple_add_2 _ _)
   (tuple_addW2 t b vs.toArray ws.toArray n n2 dd dd2 sl sl2 (by simpa using hv) (by simpa using hw) (by rw[bu,bu];exact hsz)) ⟨ho,ho2,?_⟩
  rw[e];exact h2 hw
def sIx(n d:Nat):Option Int->Nat
 | none=>d
 | some v=>if v<0 then (v+(n:Int)).toNat else min v.toNat n
theorem sIx_none(n d:Nat):sIx n d none=d:=rfl
theorem sIx_nat(n d k:Nat):sIx n d (some (k:Int))=min k n:=by show (if (k:Int)<0 then ((k:Int)+(n:Int)).toNat else min (k:Int).toNat n)=min k n;rw[aQ (by omega),bI]
theorem DH(n d:Nat)(hd:d<=n)(o:Option Int):sIx n d o<=n:=by
 cases o with
 | none=>exact hd
 | some v=>
  show (if v<0 then (v+(n:Int)).toNat else min v.toNat n)<=n;by_cases hv:v<0
  ·rw[aP hv];omega
  ·rw[aQ hv];exact Nat.min_le_right _ _
theorem wL(v:Int)(n d:Nat):(if v<0 then max (v+(n:Int)) 0 else min v (n:Int))=((sIx n d (some v):Nat):Int):=by
 show (if v<0 then max (v+(n:Int)) 0 else min v (n:Int))=(((if v<0 then (v+(n:Int)).toNat else min v.toNat n):Nat):Int);by_cases hv:v<0
 ·simp only[aP hv];omega
 ·simp only[aQ hv];omega
theorem vg(lo hi:Option Int)(n:Nat):Builtin.Slice.sliceAdjust lo hi 1 (n:Int)=(((sIx n 0 lo:Nat):Int),((sIx n n hi:Nat):Int)):=by
 have h1:¬((1:Int)<0):=by omega
 unfold Builtin.Slice.sliceAdjust;simp only[h1,if_false];refine Prod.ext ?_ ?_
 ·cases lo with
  | none=>rfl
  | some v=>exact wL v n 0
 ·cases hi with
  | none=>rfl
  | some v=>exact wL v n n
theorem vH(i j:Nat):Builtin.Slice.slicePlaces (i:Int) (j:Int) 1=j - i:=by
 unfold Builtin.Slice.slicePlaces;have h1:(1:Int)>0:=by omega
 simp only[h1,if_true,bJ];split<;>omega
theorem lS{v:Value}{o:Option Int}{Q:Option Int->Shared->Prop}(p:IsPart v o)(h:Q o s):wpAny (model prog w) A (Builtin.Slice.slicePartIndex v) Q E s:=by
 cases p with
 | none=>exact slicePart_none h
 | int i t=>exact slicePart_int h
theorem j5{sl:Addr}{vl vu:Value}{lo hi:Option Int}{n:Nat}{Q:Int×Int×Nat->Shared->Prop}(hs:s.heap.IsSliceOf sl vl vu .none)(pl:IsPart vl lo)(pu:IsPart vu hi)
  (h:Q (((sIx n 0 lo:Nat):Int),1,sIx n n hi - sIx n 0 lo) s):wpAny (model prog w) A (Builtin.Slice.sliceApplied (.ref sl) (pure (n:Int))) Q E s:=by
 obtain⟨os,hos,hcs,hds⟩:=id hs;unfold Builtin.Slice.sliceApplied Builtin.Slice.sliceFields;refine ao (ao (wpAny_field hos hds (x:=vl) rfl (ao (wpAny_field hos hds (x:=vu) rfl (ao (wpAny_field hos hds (x:=.none) rfl (ak ?_)))))));refine ao (slicePart_none ?_);show wpAny _ _ (if ((1:Int) == 0)=true then _ else _) _ _ s;rw[aQ (by decide)];refine ao (lS pl (ao (lS pu (ao (ak ?_)))));show wpAny _ _ (match Builtin.Slice.sliceAdjust lo hi 1 (n:Int) with | (lo,hi)=>pure (lo,(1:Int),Builtin.Slice.slicePlaces lo hi 1)) _ _ s;rw[vg lo hi n];show wpAny _ _ (pure (((sIx n 0 lo:Nat):Int),(1:Int),Builtin.Slice.slicePlaces ((sIx n 0 lo:Nat):Int) ((sIx n n hi:Nat):Int) 1)) _ _ s;rw[vH];exact ak h
theorem Ah(xs:Array Value)(i k:Nat):((List.range k).filterMap λ(m:Nat)=>xs[((i:Int)+(m:Int)*1).toNat]?).toArray=((xs.toList.drop i).take k).toArray:=by
 have e:(λ(m:Nat)=>xs[((i:Int)+(m:Int)*1).toNat]?)=λm=>xs[i+m]?:=by
  funext m;have:((i:Int)+(m:Int)*1).toNat=i+m:=by omega
  rw[this]
 rw[e];have:=pick_run xs i k;rw[bK] at this;have e2:((λx=>xs[x]?) ∘ λx=>i+x)=λm=>xs[i+m]?:=rfl;rw[e2] at this;rw[this]
theorem getItem_tuple_cut{t sl:Addr}{items:Array Value}{vl vu:Value}{lo hi:Option Int}{Q:Value->Shared->Prop}(ht:IsTup s.heap t items)(hs:s.heap.IsSliceOf sl vl vu .none)(pl:IsPart vl lo)(pu:IsPart vu hi)
  (hw:¬(sIx items.size 0 lo=0/\sIx items.size items.size hi=items.size))
  (h:Q (.ref s.heap.objs.size) {s with heap:=s.heap.push {cls:=.type "tuple",data:=.seq ((items.toList.drop (sIx items.size 0 lo)).take (sIx items.size items.size hi - sIx items.size 0 lo)).toArray}})
  (hsz:items.size<=sizeLine):wpAny (model prog w) A (getItem (.ref t) (.ref sl)) Q E s:=by
 have m4:sizeOk (.seq ((items.toList.drop (sIx items.size 0 lo)).take (sIx items.size items.size hi - sIx items.size 0 lo)).toArray):=by show ((items.toList.drop (sIx items.size 0 lo)).take (sIx items.size items.size hi - sIx items.size 0 lo)).toArray.size<=sizeLine;rw[bu,bG,bL,bj];omega
 have hj:sIx items.size items.size hi<=items.size:=DH _ _ (aJ _) hi;obtain⟨os,hos,hcs,hds⟩:=id hs;have hTs:s.TypeIs (.ref sl) "slice" :=⟨os,hos,hcs⟩;unfold getItem;try with_reducible refine wpAny_holding ?_;first | refine ao (ak ?_) | skip
 refine ao (wpAny_sequenceKey ht.typeIs (by decide) ?_);refine ao (wpAny_callSpecial?_slot (name:=Str.ofString "__getitem__") ht.typeIs PyProof.Rows.slot_tuple_getitem
  (wpAny_call_entry PyProof.Rows.slot_tuple_getitem ht.typeIs entry_tuple_getitem ?_ (args_tuple_getitem _ _)))
 show wpAny _ _ (Builtin.Tuple.tupleItemsOf (.ref t) >>= _) _ _ s;refine ao (tupleItemsOf_ ht ?_);refine ao (wpAny_typeOf hTs ?_);rw[aP (by decide)];refine ao (j5 hs pl pu ?_);have hno:¬((((sIx items.size 0 lo:Nat):Int) == 0&&(1:Int) == 1&&(sIx items.size items.size hi - sIx items.size 0 lo) == items.size)=true):=by intro q;rw[bM,bM] at q;have q1:((sIx items.size 0 lo:Nat):Int)=0:=eq_of_beq q.1.1;have q2:sIx items.size items.size hi - sIx items.size 0 lo=items.size:=eq_of_beq q.2;exact hw ⟨by omega,by omega⟩
 show wpAny _ _ (if (((sIx items.size 0 lo:Nat):Int) == 0&&(1:Int) == 1&&(sIx items.size items.size hi - sIx items.size 0 lo) == items.size)=true then _ else _) _ _ s;rw[aQ hno,Ah];first
  | exact ao (m:=Builtin.Tuple.tupleExact _) (wpAny_newObj_type (ak ⟨_,rfl,ak h⟩) m4)
  | exact ao (m:=Builtin.Tuple.tupleExact _) (wpAny_newObj_type (ao (ak (ak ⟨_,rfl,ak h⟩))) m4)
  | exact ao (ao (m:=Builtin.Tuple.tupleExact _) (wpAny_newObj_type (ak (ak ⟨_,rfl,ak h⟩)) m4))
  | exact ao (ao (m:=Builtin.Tuple.tupleExact _) (wpAny_newObj_type (ak ⟨_,rfl,ak h⟩) m4))
end
end HT
namespace L2
open PySem PySem.Spec PyProof.Rows
abbrev TO:=St->Hp->(Option Int->Hp->Prop)->Prop
def PO(X:Cx)(e:Option Expr)(t:TO):Prop:=
 ∀(dH:List (Addr×Obj)) (s:Shared) (σ:St) (H:Hp) (Q:Option Int->Hp->Prop),eh X dH σ H s->t σ H Q->
  wpAny (model X.prog X.w) X.A (evalPart e X.env) (λu s'=>∃o H',eh X dH σ H' s'/\IsPart u o/\Q o H') X.xe s
def we:TO:=λ_ H Q=>Q none H
def Al(t:TE):TO:=λσ H Q=>t σ H λx H1=>∃i,x=.int i/\Q (some i) H1
section
variable {X:Cx}{e:Expr}{te:TE}{lo hi:Option Expr}{tl th:TO}{pos p2:Pos}
theorem CN:PO X none we:=by intro dH s σ H Q I h;rw[evalPart_none];exact ak ⟨none,H,I,.none,h⟩
theorem xa(h:PE X e te):PO X (some e) (Al te):=by intro dH s σ H Q I hw;rw[evalPart_some];refine gp (h dH s σ H _ I hw) λu s1 ⟨x,H1,I1,r1,q1⟩=>?_;obtain⟨i,rfl,q⟩:=q1;obtain⟨t,rfl⟩:=r1;exact⟨some i,H1,I1,.int i t,q⟩
def Dr(X:Cx)(r:V->Option Int->Option Int->Hp->VK->Prop):Prop:=
 ∀(dH:List (Addr×Obj)) (s:Shared) (σ:St) (H:Hp) (x:V) (v vl vu:Value) (lo hi:Option Int) (sl:Addr) (Q:VK),eh X dH σ H s->fw x v->s.heap.IsSliceOf sl vl vu .none->IsPart vl lo->IsPart vu hi->r x lo hi H Q->
  ∃T id,typeLookup (.type T) "__getitem__" = pure (some (.builtin id))/\s.TypeIs v T/\wpAny (model X.prog X.w) X.A (getItem v (.ref sl)) (EP X dH σ Q) X.xe s
theorem Dr.or{r r':V->Option Int->Option Int->Hp->VK->Prop}(h:Dr X r)(h':Dr X r'):Dr X (λx lo hi H Q=>r x lo hi H Q\/r' x lo hi H Q):=by
 intro dH s σ H x v vl vu lo hi sl Q I rx hs pl pu q;rcases q with q | q
 ·exact h dH s σ H x v vl vu lo hi sl Q I rx hs pl pu q
 ·exact h' dH s σ H x v vl vu lo hi sl Q I rx hs pl pu q
def Ip(r:V->Option Int->Option Int->Hp->VK->Prop)(te:TE)(tl th:TO):TE:=λσ H Q=>te σ H λx H1=>tl σ H1 λl H2=>th σ H2 λu H3=>r x l u H3 Q
theorem AA{r:V->Option Int->Option Int->Hp->VK->Prop}(hr:Dr X r)(he:PE X e te)(hl:PO X lo tl)(hu:PO X hi th):PE X (.Subscript e (.Slice lo hi none p2) pos) (Ip r te tl th):=by intro dH s σ H Q I h;refine Subscript_ (gp (he dH s σ H _ I h) λv s1 ⟨x,H1,I1,r1,q1⟩=>?_);refine wpAny_Slice (gp (hl dH s1 σ H1 _ I1 q1) λvl s2 ⟨l,H2,I2,pl,q2⟩=>gp (hu dH s2 σ H2 _ I2 q2) λvu s3 ⟨u,H3,I3,pu,q3⟩=>?_);rw[evalPart_none];refine ak ?_;have I4:eh X dH σ H3 {s3 with heap:=s3.heap.push {cls:=.type "slice",data:=.fields #[vl,vu,.none]}}:=I3.kept (t':=s3.toks) λb ob q=>ae _ q;obtain⟨T,id,hT,ht,hg⟩:=hr dH {s3 with heap:=s3.heap.push {cls:=.type "slice",data:=.fields #[vl,vu,.none]}} σ H3 x v vl vu l u s3.heap.objs.size Q I4 r1 (Heap.IsSliceOf.new ..) pl pu q3;show wpAny (model X.prog X.w) X.A (subscriptTail e (.Slice lo hi none p2) v (.ref s3.heap.objs.size)) (EP X dH σ Q) X.xe {s3 with heap:=s3.heap.push {cls:=.type "slice",data:=.fields #[vl,vu,.none]}};exact tail_any (ops:=[.ref s3.heap.objs.size,v]) ht hT hg (by with_unfolding_all rfl)
def uJ(xs:List V)(lo hi:Option Int):List V:=(xs.drop (HT.sIx xs.length 0 lo)).take (HT.sIx xs.length xs.length hi - HT.sIx xs.length 0 lo)
theorem nK(xs:List V)(lo hi:Option Int):(uJ xs lo hi).length<=xs.length:=by unfold uJ;rw[bG,bL];omega
def F9(K:W.Frag):V->Option Int->Option Int->Hp->VK->Prop:=λx lo hi H Q=>∃a xs,x=.ref a/\iL K H a xs/\
 ¬(HT.sIx xs.length 0 lo=0/\HT.sIx xs.length xs.length hi=xs.length)/\∀p,H p=none->Q (.ref p) (gC H p (.tup (uJ xs lo hi)))
theorem DO:Dr X (F9 X.K):=by
 intro dH s σ H x v vl vu lo hi sl Q I rx hs pl pu h;obtain⟨a,xs,rfl,hx,hw,q⟩:=h;cases rx;obtain⟨its,r,ht,hz⟩:=I.tuple hx;have hZ:its.toArray.size=xs.length:=by rw[bu];exact r.length.symm
 refine⟨"tuple",_,PyProof.Rows.slot_tuple_getitem.lookup,ht.typeIs,?_⟩;refine HT.getItem_tuple_cut ht hs pl pu (by rw[hZ];exact hw) ?_ (by rw[hZ];exact hz);rw[hZ];refine⟨.ref s.heap.objs.size,_,I.laid (t':=s.toks) (o:=.tup (uJ xs lo hi)) (λb ob q=>ae _ q) (aJ _) ?_,rfl,q _ (I.hok.fresh (aJ _))⟩;exact⟨aM (nK xs lo hi) hz,_,(r.drop (HT.sIx xs.length 0 lo)).take (HT.sIx xs.length xs.length hi - HT.sIx xs.length 0 lo),IsTup.new _ _⟩
def Gi(K:W.Frag):R2:=λx y H Q=>∃a b xs ys,x=.ref a/\y=.ref b/\iL K H a xs/\iL K H b ys/\xs≠[]/\xs.length+ys.length<=sizeLine/\
 (ys=[]->Q (.ref a) H)/\(ys≠[]->∀p,H p=none->Q (.ref p) (gC H p (.tup (xs++ys))))
theorem eF.nil_iff{xs:List V}{us:List Value}(r:eF xs us):us=[]↔xs=[]:=by
 cases r with
 | nil=>simp
 | cons _ _=>simp
theorem BS:kz X (binaryOp .Add) (Gi X.K):=by intro dH s σ H x y v u Q I rx ry h;obtain⟨a,b,xs,ys,rfl,rfl,ha,hb,hx,hz,q1,q2⟩:=h;cases rx;cases ry;obtain⟨its,r1,p1,_⟩:=I.tuple ha;obtain⟨its2,r2,p2,_⟩:=I.tuple hb;refine HT.cat_tup p1 p2 (λz=>hx (r1.nil_iff.mp z)) (λz=>⟨.ref a,H,I,rfl,q1 (r2.nil_iff.mp z)⟩) (λz=>?_) (by rw[<-r1.length,<-r2.length];exact hz);refine⟨.ref s.heap.objs.size,_,I.laid (t':=s.toks) (o:=.tup (xs++ys)) (λb ob q=>ae _ q) (aJ _) ?_,rfl,q2 (λw=>z (r2.nil_iff.mpr w)) _ (I.hok.fresh (aJ _))⟩;exact⟨by rw[aS];exact hz,_,r1.append r2,IsTup.new _ _⟩
end
end L2
namespace L2
open PySem PySem.Spec PyProof.Rows
def qJ(n:Nat)(i:Int):Option Nat:=if 0<=i then (if i<n then some i.toNat else none) else if -(n:Int)<=i then some (i+n).toNat else none
def lu{α:Type}(xs:List α)(i:Int):Option α:=(qJ xs.length i).bind λj=>xs[j]?
theorem w9{n:Nat}{i:Int}{j:Nat}(h:qJ n i=some j):seqIndex? i n=some j/\j<n/\-(n:Int)<=i/\i<n:=by
 unfold qJ at h;by_cases h0:0<=i
 ·rw[aP h0] at h;by_cases h1:i<n
  ·rw[aP h1] at h;have e:i.toNat=j:=Option.some.inj h;exact⟨by rw[seqIndex_of h0 h1,e],by omega,by omega,h1⟩
  ·rw[aQ h1] at h;cases h
 ·rw[aQ h0] at h;by_cases h1:-(n:Int)<=i
  ·rw[aP h1] at h;have e:(i+n).toNat=j:=Option.some.inj h;exact⟨by rw[seqIndex_neg (by omega) h1,e],by omega,h1,by omega⟩
  ·rw[aQ h1] at h;cases h
theorem sr{α:Type}{xs:List α}{i:Int}{v:α}(h:lu xs i=some v):∃j,seqIndex? i xs.length=some j/\xs[j]? = some v/\j<xs.length/\-(xs.length:Int)<=i/\i<xs.length:=by
 unfold lu at h;cases e:qJ xs.length i with
 | none=>rw[e] at h;cases h
 | some j=>rw[e] at h;obtain⟨h1,h2,h3,h4⟩:=w9 e;exact⟨j,h1,h,h2,h3,h4⟩
def wJ(b:Expr):Prop:=∀o i,subscripted b false o i=operate [o,i] (getItem o i)
def BQ(X:Cx)(r:R2):Prop:=
 ∀(value slice:Expr) (dH:List (Addr×Obj)) (s:Shared) (σ:St) (H:Hp) (x y:V) (v u:Value) (Q:VK),eh X dH σ H s->fw x v->fw y u->r x y H Q->
  subscripted slice false v u=operate [v,u] (getItem v u)->wpAny (model X.prog X.w) X.A (subscriptTail value slice v u) (EP X dH σ Q) X.xe s
def Ja(X:Cx)(id:String)(r:V->List V->Hp->VK->Prop):Prop:=
 ∀(dH:List (Addr×Obj)) (s:Shared) (σ:St) (H:Hp) (x:V) (xs:List V) (v:Value) (us:List Value) (Q:VK),eh X dH σ H s->fw x v->eF xs us->r x xs H Q->
  wpAny (model X.prog X.w) X.A (call (.builtin id) (v::us)) (EP X dH σ Q) X.xe s
section
variable {X:Cx}{a b:Expr}{ta tb:TE}{pos:Pos}
theorem BQ.or{r r':R2}(h:BQ X r)(h':BQ X r'):BQ X (λx y H Q=>r x y H Q\/r' x y H Q):=by
 intro value slice dH s σ H x y v u Q I rx ry q hs;rcases q with q | q
 ·exact h value slice dH s σ H x y v u Q I rx ry q hs
 ·exact h' value slice dH s σ H x y v u Q I rx ry q hs
theorem GJ{r:R2}(hr:BQ X r)(ha:PE X a ta)(hb:PE X b tb)(hs:wJ b):PE X (.Subscript a b pos) (pU r ta tb):=by intro dH s σ H Q I h;exact Subscript_ (DL ha hb I h λv u s2 x y H2 I2 rx ry q=>hr a b dH s2 σ H2 x y v u Q I2 rx ry q (hs _ _))
def G8(K:W.Frag):R2:=λx y H Q=>∃p xs i v,x=.ref p/\y=.int i/\ig K H p xs/\lu xs i=some v/\Q v H
def Gj(K:W.Frag):R2:=λx y H Q=>∃p xs i v,x=.ref p/\y=.int i/\iL K H p xs/\lu xs i=some v/\Q v H
def GT:R2:=λx y H Q=>∃z i c,x=.str z/\y=.int i/\z.length<=sizeLine/\lu z.cps.toList i=some c/\Q (.str ⟨#[c]⟩) H
theorem sg:BQ X (G8 X.K):=by
 intro value slice dH s σ H x y v u Q I rx ry h hs;obtain⟨p,xs,i,z,rfl,rfl,hq,he,q⟩:=h;cases rx;obtain⟨t,rfl⟩:=ry;obtain⟨its,r,pl,hz⟩:=I.list hq;obtain⟨j,h1,h2,h3,h4,h5⟩:=sr he;obtain⟨w,ew,rw'⟩:=r.get h2;have hl:=r.length;have hn:=pP;have fin:EP X dH σ Q w s:=⟨z,H,I,rw',q⟩;by_cases h0:0<=i
 ·have hj:i.toNat=j:=by rw[seqIndex_of h0 h5] at h1;exact Option.some.inj h1
  exact item_listR pl.isList h0 (by omega) (by rw[hj];simpa using ew) fin hs
 ·have hj:(i+(its.toArray.size:Int)).toNat=j:=by rw[seqIndex_neg (by omega) h4] at h1;rw[bu,<-hl];exact Option.some.inj h1
  exact subscriptTail_builtinR (x:=w) pl.isList.typeIs slot_list_getitem.lookup
   (wpAny_getItem_list_neg (Q:=λr s'=>r=w/\EP X dH σ Q r s') pl.isList (by omega) (by rw[bu]<;>omega) (by omega) (by rw[hj];simpa using ew) ⟨rfl,fin⟩) hs
theorem gF:BQ X (Gj X.K):=by
 intro value slice dH s σ H x y v u Q I rx ry h hs;obtain⟨p,xs,i,z,rfl,rfl,hq,he,q⟩:=h;cases rx;obtain⟨t,rfl⟩:=ry;obtain⟨its,r,pl,hz⟩:=I.tuple hq;obtain⟨j,h1,h2,h3,h4,h5⟩:=sr he;obtain⟨w,ew,rw'⟩:=r.get h2;have hl:=r.length;have hn:=pP;have fin:EP X dH σ Q w s:=⟨z,H,I,rw',q⟩;exact subscriptTail_builtinR (x:=w) pl.typeIs slot_tuple_getitem.lookup
  (getItem_tuple (j:=j) (Q:=λr s'=>r=w/\EP X dH σ Q r s') pl (by omega) (by omega) (by rw[bu,<-hl];exact h1) (by simpa using ew) ⟨rfl,fin⟩) hs
theorem EB:BQ X GT:=by
 intro value slice dH s σ H x y v u Q I rx ry h hs;obtain⟨z,i,c,rfl,rfl,hz,he,q⟩:=h;obtain⟨t,rfl⟩:=rx;obtain⟨t',rfl⟩:=ry;obtain⟨j,h1,h2,h3,h4,h5⟩:=sr he;have hl:z.cps.toList.length=z.length:=by simp[Str.length]
 rw[hl] at h1 h4 h5;have hn:=pP;exact tail_any (typeIs_str s z t) slot_str_getitem.lookup (getItem_str (c:=c) (by have e1:decide (i < -(2 ^ 63:Int))=false:=aA (by omega);have e2:decide (i >= 2 ^ 63)=false:=aA (by omega);rw[e1,e2,Bool.or_false]) (by rw[h1];simpa using h2) ⟨.str ⟨#[c]⟩,H,I.tok _,⟨_,rfl⟩,q⟩) hs
def Ic(K:W.Frag):R2:=λx y H Q=>G8 K x y H Q\/Gj K x y H Q\/GT x y H Q
theorem Fg:BQ X (Ic X.K):=sg.or (gF.or EB)
theorem vV(its:List Value)(n j:Nat)(u:Value):Obj.mapSeq (·.setIfInBounds j u) {cls:=.type "list",data:=.seq its.toArray n}={cls:=.type "list",data:=.seq (its.set j u).toArray n}:=by simp[Obj.mapSeq]
theorem eh.lst{dH:List (Addr×Obj)}{σ:St}{H:Hp}{s:Shared}{p:Addr}{xs:List V}(I:eh X dH σ H s)(h:H p=some (.lst xs)) :
  ∃(its:List Value) (n:Nat),eF xs its/\s.heap.get? p=some {cls:=.type "list",data:=.seq its.toArray n}/\xs.length<=sizeLine:=by
 obtain⟨z,its,n,r,e⟩:=I.hok p _ h;exact⟨its,n,r,e,z⟩
theorem eh.lstUpd{dH:List (Addr×Obj)}{σ:St}{H:Hp}{s:Shared}{p:Addr}{xs ys:List V}{its its':List Value}{n n':Nat}{f:Obj->Obj}(I:eh X dH σ H s)(h:H p=some (.lst xs))
  (ho:s.heap.get? p=some {cls:=.type "list",data:=.seq its.toArray n}) (hf:f {cls:=.type "list",data:=.seq its.toArray n}={cls:=.type "list",data:=.seq its'.toArray n'}) (r:eF ys its') (hz:ys.length<=sizeLine) (t:Nat) :
  eh X dH σ (gC H p (.lst ys)) {s with heap:=s.heap.update p f,toks:=t}:=by
 have e:(s.heap.update p f).get? p=some {cls:=.type "list",data:=.seq its'.toArray n'}:=by rw[Heap.get?_update_self f ho (by rw[hf]<;>rfl),hf]
 refine I.write (x:=p) (e:=p) (by rw[h];trivial) (.inl rfl) (λb u hb q=>(Heap.get?_update_other _ _ (Ne.symm hb)).trans q) ⟨_,e⟩ ?_;exact⟨hz,its',n',r,e⟩
def wu:V->V->V->Hp->(Hp->Prop)->Prop:=λo i v H Q=>∃p xs k j,o=.ref p/\i=.int k/\H p=some (.lst xs)/\qJ xs.length k=some j/\Q (gC H p (.lst (xs.set j v)))
theorem zM:GA X wu:=by
 intro dH s σ H o i v ov iv u Q I ro ri rv h;obtain⟨p,xs,k,j,rfl,rfl,hp,hj,q⟩:=h;cases ro;obtain⟨t,rfl⟩:=ri;obtain⟨its,n,r,ho,hz⟩:=I.lst hp;obtain⟨h1,h2,h3,h4⟩:=w9 hj;have hl:=r.length;have hn:=pP;have I':eh X dH σ (gC H p (.lst (xs.set j v))) {s with heap:=s.heap.update p (Obj.mapSeq (·.setIfInBounds j u))}:=I.lstUpd hp ho (vV its n j u) (r.set rv j) (by rw[bN];exact hz) s.toks
 by_cases h0:0<=k
 ·have hk:k.toNat=j:=by rw[seqIndex_of h0 h4] at h1;exact Option.some.inj h1
  exact W.ki_setAt ho h0 (by omega) (by rw[bu,<-hl];exact h4) (by rw[hk];exact⟨_,I',q⟩)
 ·have hk:(k+(its.toArray.size:Int)).toNat=j:=by rw[seqIndex_neg (by omega) h3] at h1;rw[bu,<-hl];exact Option.some.inj h1
  exact W.ki_setBack ho (by omega) (by rw[bu,<-hl];exact h3) (by omega) (by rw[hk];exact⟨_,I',q⟩)
theorem rW(lo hi:Option Int)(n:Nat):(sliceBounds lo hi none n).1=((HT.sIx n 0 lo:Nat):Int)/\(sliceBounds lo hi none n).2.1=((HT.sIx n n hi:Nat):Int)/\(sliceBounds lo hi none n).2.2=1:=by
 refine⟨?_,?_,rfl⟩
 ·cases lo with
  | none=>simp[sliceBounds,HT.sIx]
  | some i=>
   simp only[sliceBounds,HT.sIx,Option.getD_none,show (1:Int)>0 by decide,if_true];by_cases h:i<0
   ·simp only[h,if_true]<;>omega
   ·simp only[h,if_false]<;>omega
 ·cases hi with
  | none=>simp[sliceBounds,HT.sIx]
  | some i=>
   simp only[sliceBounds,HT.sIx,Option.getD_none,show (1:Int)>0 by decide,if_true];by_cases h:i<0
   ·simp only[h,if_true]<;>omega
   ·simp only[h,if_false]<;>omega
theorem qd(its:List Value)(lo hi:Option Int):slicePick its.toArray lo hi none=((its.drop (HT.sIx its.length 0 lo)).take (HT.sIx its.length its.length hi - HT.sIx its.length 0 lo)).toArray:=by obtain⟨h1,h2,h3⟩:=rW lo hi its.toArray.size;unfold slicePick;rw[h1,h2,h3];simp only[sliceRange_one,pick_run,bu]<;>rfl
def Hd(K:W.Frag):V->Option Int->Option Int->Hp->VK->Prop:=λx lo hi H Q=>∃a xs,x=.ref a/\ig K H a xs/\∀p,H p=none->Q (.ref p) (gC H p (.lst (uJ xs lo hi)))
theorem C1:Dr X (Hd X.K):=by intro dH s σ H x v vl vu lo hi sl Q I rx hs pl pu h;obtain⟨a,xs,rfl,hx,q⟩:=h;cases rx;obtain⟨its,r,ht,hz⟩:=I.list hx;have hZ:=r.length;refine⟨"list",_,slot_list_getitem.lookup,ht.isList.typeIs,?_⟩;refine wpAny_getItem_list_slice ht.isList hs pl pu .none (by simp) ?_ (by rw[bu]<;>omega);rw[qd,<-hZ];refine⟨.ref s.heap.objs.size,_,I.laid (t':=s.toks) (o:=.lst (uJ xs lo hi)) (λb ob q=>ae _ q) (aJ _) ?_,rfl,q _ (I.hok.fresh (aJ _))⟩;exact⟨aM (nK xs lo hi) hz,_,0,(r.drop (HT.sIx xs.length 0 lo)).take (HT.sIx xs.length xs.length hi - HT.sIx xs.length 0 lo),ar _ rfl⟩
def lN:V->Bool
 | .non=>true
 | .bl _=>true
 | .int _=>true
 | .str _=>true
 | _=>false
def Bb:V->V->Bool
 | .non,.non=>true
 | .bl a,.bl b=>a == b
 | .bl a,.int b=>(if a then 1 else 0) == b
 | .int a,.bl b=>a == (if b then 1 else 0)
 | .int a,.int b=>a == b
 | .str a,.str b=>a == b
 | _,_=>false
theorem FA{A:Around}{s:Shared}{y x:V}{u v:Value}(ry:fw y u)(rx:fw x v)(fy:lN y=true)(fx:lN x=true):SeqAt.EqAt A s u v (Bb y x):=by
 cases y with
 | non=>
  cases ry;cases x with
  | non=>cases rx;exact SeqAt.EqAt.same _
  | bl b=>cases rx;exact SeqAt.EqAt.none_bool b
  | int b=>obtain⟨t,rfl⟩:=rx;exact SeqAt.EqAt.none_int b t
  | str b=>obtain⟨t,rfl⟩:=rx;exact SeqAt.EqAt.none_str b t
  | _=>exact absurd (show false=true from fx) aG
 | bl a=>
  cases ry;cases x with
  | non=>cases rx;exact SeqAt.EqAt.bool_none a
  | bl b=>cases rx;exact SeqAt.EqAt.bool_bool a b
  | int b=>obtain⟨t,rfl⟩:=rx;exact SeqAt.EqAt.bool_int a b t
  | str b=>obtain⟨t,rfl⟩:=rx;exact SeqAt.EqAt.bool_str a b t
  | _=>exact absurd (show false=true from fx) aG
 | int a=>
  obtain⟨t',rfl⟩:=ry;cases x with
  | non=>cases rx;exact SeqAt.EqAt.int_none a t'
  | bl b=>cases rx;exact SeqAt.EqAt.int_bool a t' b
  | int b=>obtain⟨t,rfl⟩:=rx;exact SeqAt.EqAt.int_int a t' b t
  | str b=>obtain⟨t,rfl⟩:=rx;exact SeqAt.EqAt.int_str a t' b t
  | _=>exact absurd (show false=true from fx) aG
 | str a=>
  obtain⟨t',rfl⟩:=ry;cases x with
  | non=>cases rx;exact SeqAt.EqAt.str_none a t'
  | bl b=>cases rx;exact SeqAt.EqAt.str_bool a t' b
  | int b=>obtain⟨t,rfl⟩:=rx;exact SeqAt.EqAt.str_int a t' b t
  | str b=>obtain⟨t,rfl⟩:=rx;exact SeqAt.EqAt.str_str a t' b t
  | _=>exact absurd (show false=true from fx) aG
 | _=>exact absurd (show false=true from fy) aG
def BU(x:V)(u:Value):Bool:=match u with
 | .none=>Bb .non x
 | .bool b=>Bb (.bl b) x
 | .int i _=>Bb (.int i) x
 | .str z _=>Bb (.str z) x
 | _=>false
theorem A0{x y:V}{u:Value}(r:fw y u)(f:lN y=true):BU x u=Bb y x:=by
 cases y with
 | non=>cases r;rfl
 | bl b=>cases r;rfl
 | int i=>obtain⟨t,rfl⟩:=r;rfl
 | str z=>obtain⟨t,rfl⟩:=r;rfl
 | _=>exact absurd (show false=true from f) aG
theorem rA{x:V}:∀{xs:List V} {us:List Value},eF xs us->xs.all lN=true->us.any (BU x)=xs.any λy=>Bb y x
 | _,_,.nil,_=>rfl
 | y::xs,u::us,.cons r t,f=>by rw[bO,bM] at f;rw[bP,bP,A0 r f.1,rA t f.2]
theorem oI{A:Around}{s:Shared}{x:V}{v:Value}(rx:fw x v)(fx:lN x=true):∀{xs:List V} {us:List Value},eF xs us->xs.all lN=true->∀u∈us,SeqAt.EqAt A s u v (BU x u)
 | _,_,.nil,_=>λu hu=>by cases hu
 | y::xs,u::us,.cons r t,f=>λu' hu=>by
  rw[bO,bM] at f;rcases aE.mp hu with rfl | hu
  ·rw[A0 r f.1];exact FA r rx f.1 fx
  ·exact oI rx fx t f.2 u' hu
def Ho(x:V)(xs:List V):Bool:=xs.any λy=>Bb y x
def HA(K:W.Frag)(neg:Bool):R2:=λx y H Q=>∃p xs,y=.ref p/\(ig K H p xs\/iL K H p xs)/\lN x=true/\xs.all lN=true/\Q (.bl (if neg then !Ho x xs else Ho x xs)) H
theorem rg:kz X (compareOp .NotIn) (HA X.K true):=by
 intro dH s σ H x y v u Q I rx ry h;obtain⟨p,xs,rfl,hq,fx,fs,q⟩:=h;cases ry;rcases hq with hq | hq
 ·obtain⟨its,r,pl,hz⟩:=I.list hq;refine SeqAt.notIn_listAt (BU x) pl.isList (λw hw=>oI rx fx r fs w (by simpa using hw)) ⟨.bl _,H,I,rfl,?_⟩;rw[show its.toArray.any (BU x)=its.any (BU x) by simp,rA r fs];exact q
 ·obtain⟨its,r,pl,hz⟩:=I.tuple hq;refine SeqAt.notIn_tupleAt (BU x) pl (λw hw=>oI rx fx r fs w (by simpa using hw)) ⟨.bl _,H,I,rfl,?_⟩;rw[show its.toArray.any (BU x)=its.any (BU x) by simp,rA r fs];exact q
theorem rC:ib X (.type "list") (λxs H Q=>∃p ys,xs=[.ref p]/\(ig X.K H p ys\/iL X.K H p ys)/\∀l,H l=none->Q (.ref l) (gC H l (.lst ys))):=by
 intro dH s σ H xs us Q I r h;obtain⟨p,ys,rfl,hq,q⟩:=h;obtain⟨u,rfl,rx⟩:=ml r;cases rx;have fin:∀(its:List Value),eF ys its->ys.length<=sizeLine->∀(h':Heap) (c':Nat),(∀b o',s.heap.get? b=some o'->h'.get? b=some o')->
   h'.get? s.heap.objs.size=some {cls:=.type "list",dict:=none,data:=.seq its.toArray c',slots:=#[]}->EP X dH σ Q (.ref s.heap.objs.size) {s with heap:=h'}:=λits r' hz h' c' kp e=>
  ⟨.ref s.heap.objs.size,_,I.laid (t':=s.toks) kp (aJ _) (show gS X.prog X.w _ h' _ (.lst ys) from ⟨hz,its,c',r',e⟩),rfl,q _ (I.hok.fresh (aJ _))⟩
 rcases hq with hq | hq
 ·obtain⟨its,r',pl,hz⟩:=I.list hq;have hZ:=r'.length;obtain⟨o,ho,hc,n,hd⟩:=pl.isList;exact call_list_seq p (.inl rfl) ho hc hd (λh' c' kp e=>fin its r' hz h' c' kp e) (by simp only[bu]<;>omega)
 ·obtain⟨its,r',pl,hz⟩:=I.tuple hq;have hZ:=r'.length;obtain⟨o,ho,hc,n,hd⟩:=pl;exact call_list_seq p (.inr rfl) ho hc hd (λh' c' kp e=>fin its r' hz h' c' kp e) (by simp only[bu]<;>omega)
theorem p9:ib X (.type "tuple") (λxs H Q=>∃p ys,xs=[.ref p]/\((ig X.K H p ys/\∀l,H l=none->Q (.ref l) (gC H l (.tup ys)))\/(iL X.K H p ys/\Q (.ref p) H))):=by
 intro dH s σ H xs us Q I r h;obtain⟨p,ys,rfl,h⟩:=h;obtain⟨u,rfl,rx⟩:=ml r;cases rx;rcases h with⟨hq,q⟩ | ⟨hq,q⟩
 ·obtain⟨its,r',pl,hz⟩:=I.list hq;have hZ:=r'.length;refine call_tuple_list pl.isList (λh' kp=>?_) (by simp only[bu]<;>omega);have I1:eh X dH σ H {s with heap:=h'}:=I.kept (t':=s.toks) kp;have I2:eh X dH σ (gC H h'.objs.size (.tup ys)) {s with heap:=h'.push {cls:=.type "tuple",data:=.seq its.toArray}}:=
   I1.laid (t':=s.toks) (λb o e=>ae _ e) (aJ _) (show gS X.prog X.w _ _ _ (.tup ys) from ⟨hz,its,r',IsTup.new _ _⟩)
  exact⟨.ref h'.objs.size,_,I2,rfl,q _ (I1.hok.fresh (aJ _))⟩
 ·obtain⟨its,r',pl,hz⟩:=I.tuple hq;exact call_tuple_same pl ⟨.ref p,H,I,rfl,q⟩
def Hb(K:W.Frag)(T:String)(x:V)(H:Hp):Prop:=match x with
 | .str _=>T = "str"
 | .int _=>T = "int"
 | .ref p=>(T = "list" /\∃xs,ig K H p xs)\/(T = "tuple" /\∃o,K.lookup p=some o/\o.cls=.type "tuple" /\o.dict=none)\/
   (T = "dict" /\((∃kvs,H p=some (.dK kvs))\/∃kvs,H p=some (.dT kvs)))\/(T = "set" /\∃S n,H p=some (.set S n))
 | _=>False
theorem Dt{dH:List (Addr×Obj)}{σ:St}{H:Hp}{s:Shared}{T:String}{x:V}{v:Value}(I:eh X dH σ H s)(r:fw x v)(ty:Hb X.K T x H) :
  s.TypeIs v T/\∀a,v=.ref a->∃ob,s.heap.get? a=some ob/\ob.dict=none:=by
 cases x with
 | str z=>obtain⟨t,rfl⟩:=r;cases (show T = "str" from ty);exact⟨typeIs_str s z t,λ_ e=>nomatch e⟩
 | int i=>obtain⟨t,rfl⟩:=r;cases (show T = "int" from ty);exact⟨typeIs_int s i t,λ_ e=>nomatch e⟩
 | ref p=>
  cases r;rcases ty with⟨rfl,xs,hq⟩ | ⟨rfl,o,hk,hc,hd⟩ | ⟨rfl,hk⟩ | ⟨rfl,S,n,hk⟩
  ·obtain⟨its,_,pl,_⟩:=I.list hq;refine⟨pl.isList.typeIs,λa e=>?_⟩;cases e;obtain⟨o,n,e,c,hd,_⟩:=pl;exact⟨o,e,hd⟩
  ·refine⟨⟨o,I.kIn p o hk,hc⟩,λa e=>?_⟩;cases e;exact⟨o,I.kIn _ o hk,hd⟩
  ·have z:∃o,s.heap.get? p=some o/\o.ExactDict:=by
    rcases hk with⟨kvs,hk⟩ | ⟨kvs,hk⟩
    ·obtain⟨_,_,_,_,o,_,_,e,ex,_⟩:=I.hok p _ hk;exact⟨o,e,ex⟩
    ·obtain⟨_,_,_,_,o,_,_,e,ex,_⟩:=I.hok p _ hk;exact⟨o,e,ex⟩
   obtain⟨o,e,ex⟩:=z;refine⟨⟨o,e,ex.1⟩,λa e2=>?_⟩;cases e2;exact⟨o,e,ex.2.1⟩
  ·obtain⟨o,_,_,_,e,ex,_⟩:=I.hok p _ hk;refine⟨⟨o,e,ex.1⟩,λa e2=>?_⟩;cases e2;exact⟨o,e,ex.2.1⟩
 | _=>exact False.elim ty
def Iw(K:W.Frag)(T:String)(r:V->List V->Hp->VK->Prop)(to:TE)(t:TA):TE:=λσ H Q=>to σ H λx H1=>Hb K T x H1/\t σ H1 λxs H2=>r x xs H2 Q
variable {o e:Expr}{es:List Expr}{to:TE}{t:TA}{name:Str}{apos cpos:Pos}{T id:String}{r:V->List V->Hp->VK->Prop}
theorem Dd(pa:PlainAttrs T)(slot:Slot T name id)(hty:typeOf (.builtin id)=pure (.type "method_descriptor"))(hm:Ja X id r)(ho:PE X o to)(ha:PA X (e::es) t)
  (hbase:attributeBase o name X.env (eval o X.env)=eval o X.env:=by rfl)
  (hfew:((backTo cpos (starEach (e::es) X.env)).all (λx=>!x.1)&&(backToKw cpos (keywordEach [] X.env)).all (λx=>x.1.isSome)
   && decide ((e::es).length+([]:List Keyword).length+(if ([]:List Keyword).isEmpty then 0 else 1)<30))=true:=by rfl)
  (hline:(apos.endLine == cpos.line)=true:=by rfl) (hs:starEach (e::es) X.env=(false,eval e X.env)::starEach es X.env:=by rfl) (hplain:(backTo cpos (starEach es X.env)).any (·.1)=false:=by rfl) :
  PE X (.Call (.Attribute o name apos) (e::es) [] cpos) (Iw X.K T r to t):=by
 intro dH s σ H Q I h;refine wpAny_Call_method_late hbase hfew hline rfl (gp (ho dH s σ H _ I h) λv s1 ⟨x,H1,I1,r1,ty,q1⟩=>?_);obtain⟨h1,h2⟩:=Dt I1 r1 ty;refine⟨T,id,pa,slot,hty,h1,h2,?_⟩;have hA:=ha cpos dH s1 σ H1 _ I1 q1;rw[hs] at hA ⊢;refine Calls.callWith_builtin (by show (false||(backTo cpos (starEach es X.env)).any (·.1))=false;rw[hplain]<;>rfl) (Calls.evalArgs_plain ?_);exact gp hA λus s2 ⟨vs,H2,I2,r2,q2⟩=>hm dH s2 σ H2 x vs v us Q I2 r1 r2 q2
end
end L2
namespace L2
open PySem PySem.Spec PyProof.Rows
def IQ(X:Cx)(id:String)(r:V->List V->Hp->VK->Prop):Prop:=
 ∀(dH:List (Addr×Obj)) (s:Shared) (σ:St) (H:Hp) (x:V) (xs:List V) (v:Value) (us:List Value) (Q:VK),eh X dH σ H s->fw x v->eF xs us->r x xs H Q->
  wpAny (model X.prog X.w) X.A (call (.builtin id) (v::us)) (EP X dH σ Q) X.xe s
theorem eF.one:∀{x:V} {us:List Value},eF [x] us->∃u,us=[u]/\fw x u
 | _,_,.cons r .nil=>⟨_,rfl,r⟩
theorem eF.reverse{xs:List V}{us:List Value}(h:eF xs us):eF xs.reverse us.reverse:=by
 induction h with
 | nil=>exact .nil
 | cons r t ih=>rw[bQ,bQ];exact eF.append ih (.cons r .nil)
theorem eF.rep{xs:List V}{us:List Value}(h:eF xs us):∀k:Nat,eF (List.replicate k xs).flatten (List.replicate k us).flatten
 | 0=>.nil
 | k+1=>by rw[bR,bR,bS,bS];exact eF.append h (eF.rep h k)
theorem rd(its:List Value):∀(k:Nat) (acc:List Value),
  List.foldl (λx1 x2=>x1++x2) acc.toArray (List.replicate k its.toArray)=(acc++(List.replicate k its).flatten).toArray
 | 0,acc=>by simp
 | k+1,acc=>by
  have e:acc.toArray++its.toArray=(acc++its).toArray:=by simp
  have e2:(acc++its)++(List.replicate k its).flatten=acc++(List.replicate (k+1) its).flatten:=by rw[bR,bS,bT]
  rw[<-e2,<-rd its k (acc++its),<-e,bR,List.foldl_cons]
section
variable {X:Cx}{dH:List (Addr×Obj)}{σ:St}{H:Hp}{s:Shared}{l b:Addr}{xs ys zs:List V}
theorem eh.lset{its its':List Value}{n:Nat}{f:Array Value->Array Value}{t':Nat}(I:eh X dH σ H s)(hH:H l=some (.lst xs))
  (e:s.heap.get? l=some {cls:=.type "list",data:=.seq its.toArray n}) (hf:f its.toArray=its'.toArray) (hv:eF ys its') (hz:ys.length<=sizeLine) :
  eh X dH σ (gC H l (.lst ys)) {s with heap:=s.heap.update l (Obj.mapSeq f),toks:=t'}:=by
 have q:=PySem.IsL.update e f;rw[hf] at q;refine I.write (x:=l) (e:=l) (by rw[hH];exact trivial) (.inl rfl) (λb' u hb hu=>(Heap.get?_update_other s.heap (Obj.mapSeq f) (Ne.symm hb)).trans hu) ⟨_,q⟩ ?_;exact⟨hz,its',_,hv,q⟩
theorem eh.lnew{its:List Value}{t':Nat}(I:eh X dH σ H s)(hv:eF ys its)(hz:ys.length<=sizeLine) :
  eh X dH σ (gC H s.heap.objs.size (.lst ys)) {s with heap:=s.heap.push {cls:=.type "list",data:=.seq its.toArray},toks:=t'}:=
 I.laid (λ_ _ q=>ae _ q) (aJ _) ⟨hz,its,0,hv,ar _ rfl⟩
theorem eh.fresh(I:eh X dH σ H s):H s.heap.objs.size=none:=I.hok.fresh (aJ _)
theorem eh.lstM(I:eh X dH σ H s)(hH:H l=some (.lst xs)):xs.length<=sizeLine/\∃(its:List Value) (n:Nat),eF xs its/\xs.length=its.length/\s.heap.get? l=some {cls:=.type "list",data:=.seq its.toArray n}:=by obtain⟨z,its,n,r,e⟩:=I.hok l _ hH;exact⟨z,its,n,r,r.length,e⟩
theorem AK{n:Nat}(h:n<=sizeLine):Builtin.List.listTooLong n=false:=by unfold Builtin.List.listTooLong;exact aA (by omega)
end
section
variable {X:Cx}
def rB:V->List V->Hp->VK->Prop:=λx vs H Q=>∃l xs y,x=.ref l/\vs=[y]/\H l=some (.lst xs)/\xs.length<sizeLine/\Q .non (gC H l (.lst (xs++[y])))
theorem qO:IQ X "list.append" rB:=by intro dH s σ H x vs v us Q I rx rv h;obtain⟨l,xs,y,rfl,rfl,hH,hz,q⟩:=h;cases rx;obtain⟨u,rfl,ru⟩:=rv.one;obtain⟨z,its,n,r,hl,e⟩:=I.lstM hH;refine call_meets F.slot_list_append ⟨_,e,rfl⟩ F.entry_list_append (F.args_list_append_2 _ _) (PySem.list_append l its.toArray n u (by rw[bu];omega)) ⟨e,?_⟩;refine⟨.non,_,I.lset (its':=its++[u]) hH e (by simp) (r.append (.cons ru .nil)) ?_,rfl,q⟩;rw[aS,bU];omega
def FI:R2:=λx y H Q=>∃l b xs zs,x=.ref l/\y=.ref b/\H l=some (.lst xs)/\H b=some (.lst zs)/\xs.length+zs.length<=sizeLine/\∀p,H p=none->Q (.ref p) (gC H p (.lst (xs++zs)))
theorem zC:kz X (binaryOp .Add) FI:=by
 intro dH s σ H x y v u Q I rx ry h;obtain⟨l,b,xs,zs,rfl,rfl,hH,hB,hz,q⟩:=h;cases rx;cases ry;obtain⟨z,its,n,r,hl,e⟩:=I.lstM hH;obtain⟨z2,its2,n2,r2,hl2,e2⟩:=I.lstM hB;refine PySem.P.add_list e e2 ?_ (by rw[bu,bu];omega);have ea:its.toArray++its2.toArray=(its++its2).toArray:=by simp
 rw[ea];exact⟨.ref _,_,I.lnew (t':=s.toks) (r.append r2) (by rw[aS];omega),rfl,q _ I.fresh⟩
def Gv:R2:=λx y H Q=>∃l k xs,x=.ref l/\y=.int k/\H l=some (.lst xs)/\-(2 ^ 63)<=k/\k<2 ^ 63/\xs.length*k.toNat<=sizeLine/\
 ∀p,H p=none->Q (.ref p) (gC H p (.lst (List.replicate k.toNat xs).flatten))
theorem Bu{α:Type}(xs:List α)(k:Nat):(List.replicate k xs).flatten.length=k*xs.length:=by
 induction k with
 | zero=>simp
 | succ k ih=>rw[bR,bS,aS,ih,bV,Nat.add_comm]
theorem EE:kz X (binaryOp .Mult) Gv:=by
 intro dH s σ H x y v u Q I rx ry h;obtain⟨l,k,xs,rfl,rfl,hH,h1,h2,hz,q⟩:=h;cases rx;obtain⟨t,rfl⟩:=ry;obtain⟨z,its,n,r,hl,e⟩:=I.lstM hH;have hZ:its.toArray.size*k.toNat<=sizeLine:=by rw[bu,<-hl];exact hz
 have hcap:¬its.toArray.size*k.toNat>(2 ^ 63 - 1) / 8:=by
  have:(sizeLine:Nat)<=(2 ^ 63 - 1) / 8:=by decide
  omega
 have hfit:¬(!Builtin.List.listFitsIndex k)=true:=by rw[fitsIndex_both h1 h2];exact aG
 have hlong:¬Builtin.List.listTooLong (its.toArray.size*k.toNat)=true:=by rw[AK hZ];exact aG
 have hnew:List.foldl (λx1 x2=>x1++x2) #[] (List.replicate (if its.toArray.isEmpty=true then 0 else k.toNat) its.toArray)=(List.replicate k.toNat its).flatten.toArray:=by
  have f0:∀m:Nat,List.foldl (λx1 x2=>x1++x2) #[] (List.replicate m its.toArray)=(List.replicate m its).flatten.toArray:=λm=>by have:=rd its m [];rw[List.nil_append] at this;exact this
  rw[f0];cases its with
  | nil=>simp
  | cons a r'=>rw[aQ (by simp)]
 refine wpAny_binaryOp_repeat_ref (T:= "list") (U:= "int") (by decide) ⟨_,e,rfl⟩ (λs'=>typeIs_int s' k t) noFill_list_mul F.fills_int_mul F.slot_int_rmul repeat_list F.slot_int_index.lookup
  (call_meets F.slot_int_rmul (typeIs_int s k t) F.entry_int_rmul (F.args_int_rmul_2 _ _) (int___rmul___int_list k t l its.toArray n)
   ⟨e,rfl,⟨_,e,rfl⟩,call_meets F.slot_list_mul ⟨_,e,rfl⟩ F.entry_list_mul (F.args_list_mul_2 _ _) (AutoListH.list___mul___list_int_3 l its.toArray n k t hfit hcap hlong) ⟨e,?_⟩⟩)
 rw[hnew];exact⟨.ref _,_,I.lnew (t':=s.toks) (r.rep k.toNat) (by rw[Bu,Nat.mul_comm];exact hz),rfl,q _ I.fresh⟩
end
section
variable {prog:Program}{w:World}{A:Around}{E:Value->Shared->Prop}{s:Shared}
end
section
variable {X:Cx}
end
end L2
namespace Att
open PySem PySem.W PySem.Calls PyProof.Rows
theorem n5{P:Params}{h:Heap}:∀(ns:LI) (vs:List Value),WellAll P h vs (ns.map WData.int)->IntsAre vs ns:=by
 intro ns;induction ns with
 | nil=>intro vs w;rw[List.map_nil] at w;cases w;exact .nil
 | cons n ns ih=>
  intro vs w;rw[bz] at w;cases w with
  | cons a b=>cases a;exact .cons _ _ (ih _ b)
theorem script_of{l:OpenLaw}{n:Nat}(hn:l.most=some n){P:Params}{h:Heap}{args:List WData}{vals:List Value}
  (hpre:l.row.toRowW.claim.pre args=true) (hwl:WellAll P h vals args) :
  ∃a vs ns,vals=[Value.ref a]/\args=[WData.list (ns.map WData.int)]/\h.get? a=some {cls:=.type "list",data:=.seq vs.toArray}/\IntsAre vs ns/\ns.length<=n:=by
 have hsh:WShape.hasAll [] args [.list .int]=true:=(pre_splitW hpre).1;have hc:l.pre.holds [] {args:=args}=true:=(pre_splitW hpre).2;obtain⟨d,r,rfl,h1,h2⟩:=hasAllW_cons hsh;obtain rfl:=hasAllW_nil h2;obtain⟨xs,rfl,h3⟩:=hasW_list h1;obtain⟨ns,rfl⟩:=items_int h3;have hZ:ns.length<=n:=by
  unfold OpenLaw.pre at hc;have h4:(WTm.not (.lt (.lit (.int (n:Int))) (.len (.arg 0)))).holds [] {args:=[.list (ns.map .int)]}=true:=by have h4:=(holds_andW hc).1;rw[hn] at h4;exact h4
  have h5:=condW_of h4 (w_not (w_lt w_lit (w_len_list (w_arg rfl))));rw[aw] at h5;refine Nat.le_of_not_lt λq=>?_;have q':(n:Int)<((ns.length:Nat):Int):=by omega
  first
   | (rw[aB q'] at h5;exact absurd h5 (by decide))
   | (simp at h5;omega)
 cases hwl with
 | cons w1 w2=>
  cases w2;cases w1 with
  | list ho C7=>exact⟨_,_,ns,rfl,rfl,ho,n5 ns _ C7,hZ⟩
theorem post_true(l:OpenLaw)(args:List WData):l.row.toRowW.claim.post args (.bool true) args=true:=
 postW_of (r:=l.row.toRowW) (X:=(true == true))
  (show WShape.has [] (.bool true) .bool=true by first | rfl | decide | simp[WShape.has,WShape.arms,WShape.armsAll])
  (show (WTm.eq .res (.lit (.bool true))).value [] {args:=args,res:=some (.bool true),after:=args}=some (.bool (true == true)) from w_eq_bool (w_res rfl) w_lit) rfl
section
variable {prog:Program}{w:World}{A:Around}{E:Value->Shared->Prop}{s:Shared}{K:Frag}
end
end Att
namespace L2
open PySem PySem.Spec PyProof.Rows
theorem q8:∀{vs:List Value} {ns:LI},IntsAre vs ns->eF (ns.map V.int) vs
 | _,_,.nil=>.nil
 | _,_,.cons n t h=>.cons ⟨t,rfl⟩ (q8 h)
def E6(H:Hp):Prop:=∀b,H b=none\/∃o xs,H b=some (.frz o (.lst xs))
theorem yI{P:Program}{w:World}{K:W.Frag}{mg mb:Str->Option Value}{CX:xp}{k:Nat}{fa a:Addr}{fd:FuncData}{x:Str}{sp:Sp}{s₁:Shared}{vs:List Value}{ns:LI}
  (KX:K.In s₁.heap) (hns:s₁.heap.Ns mainGlobals mg) (hb:s₁.heap.Ns builtinsNs mb) (hbb:∀x:Str,x≠ "__name__" ->mb x=bootBuiltins x) (hlim:s₁.heap.NoLimit) (hg:s₁.gens = #[])
  (ha:s₁.heap.get? a=some {cls:=.type "list",data:=.seq vs.toArray}) (hi:IntsAre vs ns) (hl:ns.length<=sizeLine) (hr:fO k callerA)
  (F:∀base:Heap,K.In base->base.Ns mainGlobals mg->jB P w K mg base CX k fa fd [x] sp) (hbind:∀(s:Shared) (u:Value),BindsTo s fd ⟨[u],[]⟩ [(x,u)])
  (hsp:∀H:Hp,E6 H->ig K H a (ns.map V.int)->sp [.ref a] H (λv _=>v=.bl true) λ_ _ _=>False)
  (hCX:∀H e s',CX [] H s₁ (λ_ _ _=>False) e s'->False) :
  codeAny (model P w) callerA (.call (.ref fa) ⟨[.ref a],[]⟩) (λr s'=>r=.ok (.ret (.bool true))/\OldK s₁.heap s'.heap/\s'.os=s₁.os/\AllBare s'.gens) s₁:=by
 have rv:=q8 hi;have lenV:=hi.length;have core:∀H:Hp,E6 H->ig K H a (ns.map V.int)->nh P w H s₁.heap->(∀b,H b≠none->b=a)->(H a≠none->K.lookup a=none)->
   codeAny (model P w) callerA (.call (.ref fa) ⟨[.ref a],[]⟩) (λr s'=>r=.ok (.ret (.bool true))/\OldK s₁.heap s'.heap/\s'.os=s₁.os/\AllBare s'.gens) s₁:=by
  intro H hO hS hok hA hK;have base_of:∀{b:Addr} {o:Obj},s₁.heap.get? b=some o->H b=none->(rR s₁.heap H).get? b=some o:=λe n=>Ac e n;have noA:∀{b:Addr} {o:Obj} {es:Array DictEntry} {ep:Nat},s₁.heap.get? b=some o->o.data=.dict es ep->H b=none:=λ{b o es ep} e d=>by
   cases q:H b with
   | none=>rfl
   | some u=>have e':b=a:=hA b (by rw[q];simp);subst e';rw[ha] at e;cases e;have d':Data.seq vs.toArray _=Data.dict es ep:=d;cases d'
  have nsK:∀{b:Addr} {m:Str->Option Value},s₁.heap.Ns b m->(rR s₁.heap H).Ns b m:=λ{b m} ⟨o,es,ep,e,d,r⟩=>⟨o,es,ep,base_of e (noA e d),d,r⟩;have hKb:K.In (rR s₁.heap H):=λb o e=>base_of (KX b o e) (by
   cases q:H b with
   | none=>rfl
   | some u=>have e':b=a:=hA b (by rw[q];simp);subst e';rw[hK (by rw[q];simp)] at e;cases e)
  have hM:Mod K mg (rR s₁.heap H):=⟨hKb,nsK hns,⟨mb,nsK hb,hbb⟩,let ⟨mc,h1,h2⟩:=hlim;⟨mc,nsK h1,h2⟩⟩;have e0:uE P w K mg (rR s₁.heap H) callerA [] s₁ H:=⟨rfl,hM,λb o e=>CG e,Nat.le_of_eq (xO _ _),trivial,λb hb=>absurd (show b∈([]:List Addr) from hb) (by simp),hok,.of_eq hg⟩;refine codeAny_mono ((F _ hKb (nsK hns)).run callerA [] s₁ H ⟨[.ref a],[]⟩ [.ref a] [.ref a] _ _ hr e0 (hbind s₁ (.ref a)) (.cons rfl .nil) (hsp H hO hS)) λr s' h=>?_;cases r with
  | error e=>exact (hCX H e s' h).elim
  | ok fl=>
   cases fl with
   | next=>exact False.elim h
   | brk=>exact False.elim h
   | cont=>exact False.elim h
   | ret u=>
    obtain⟨v,H',os,bare,un,hok',r',q⟩:=h;have q':v=.bl true:=q;subst q';obtain rfl:u=Value.bool true:=r';refine⟨rfl,OldK.of_keep λb o e=>?_,os,bare⟩;cases q:H b with
    | none=>exact un.keep b o e q (by intro z;exact absurd (show b∈([]:List Addr) from z) (by simp)) (by simp)
    | some u=>
     rcases hO b with z | ⟨ob,xs,z⟩
     ·rw[q] at z;cases z
     ·have z2:=un.frzs b ob _ z;obtain⟨e1,_⟩:=hok b _ z;obtain⟨e2,_⟩:=hok' b _ z2;rw[e] at e1;cases e1;exact e2
 cases hk:K.lookup a with
 | some o=>have e:=KX a o hk;rw[ha] at e;cases e;refine core (λ_=>none) (λ_=>.inl rfl) (.inr ⟨_,vs.toArray,_,hk,rfl,rfl,rfl,by rw[bu,lenV];exact hl,by simpa using rv⟩) (λb u z=>by have z':(none:Option HO)=some u:=z;cases z') (λb z=>absurd rfl z) λz=>absurd rfl z
 | none=>
  refine core (λb=>if b=a then some (.frz {cls:=.type "list",data:=.seq vs.toArray} (.lst (ns.map V.int))) else none) (λb=>?_) (.inl (.inr ⟨{cls:=.type "list",data:=.seq vs.toArray},aP rfl⟩)) (λb u z=>?_) (λb z=>?_) λ_=>hk
  ·by_cases hb:b=a
   ·exact .inr ⟨_,_,aP hb⟩
   ·exact .inl (aQ hb)
  ·by_cases hb:b=a
   ·have z':=(aP hb).symm.trans z;cases z';subst hb;exact⟨ha,by rw[aw];exact hl,vs,_,rv,ha⟩
   ·have z':=(aQ hb).symm.trans z;cases z'
  ·by_cases hb:b=a
   ·exact hb
   ·exact absurd (aQ hb) z
end L2
namespace L2
open PySem PySem.Spec PyProof.Rows
end L2
namespace L2
open PySem PySem.Spec PyProof.Rows
def jJ(s:Stmt)(j:Nat):Stmt:=match s with
 | .ClassDef _ _ _ body _ _ _ _ _ _ _=>body.getD j (.Pass ⟨0,0,0,0⟩)
 | _=>.Pass ⟨0,0,0,0⟩
def fY(s:Stmt):Arguments:=match s with
 | .FunctionDef _ a _ _ _ _ _ _ _ _=>a
 | _=>{posonlyargs:=[],args:=[],vararg:=none,kwonlyargs:=[],kw_defaults:=[],kwarg:=none,defaults:=[]}
def eQ(s:Stmt):List Stmt:=match s with
 | .FunctionDef _ _ b _ _ _ _ _ _ _=>b
 | _=>[]
def dR(s:Stmt):Scope:=match s with
 | .FunctionDef _ _ _ _ _ _ sc _ _ _=>sc
 | _=>{kind:=.function,names:=[],isGenerator:=false,isCoroutine:=false}
abbrev oU:xp:=λ_ _ _ _ _ _=>False
abbrev E0:XK:=λ_ _ _=>False
theorem yM{X:Cx}:nc oU X E0:=λ_ _ _ _ _ _ _ h=>h.elim
structure A9(K:W.Frag)(x qual:Str)(st:Stmt)(f:Addr)(fd:FuncData):Prop where
 ex:∃(oc:Value) (od:Option Addr) (kV doc pm:Value) (an:Option Addr) (cdv ct:Value) (osl:Array (Option Value)),
  fd=W.fnOf x qual (fY st) (eQ st) (dR st) .none kV doc pm an cdv ct/\K.lookup f=some ⟨oc,od,.func fd,osl⟩/\W.codeIn K cdv qual=true
 kp:W.keepIn K (.ref f)=true
section
variable {P:Program}{w:World}{K:W.Frag}{mg:Str->Option Value}{base:Heap}
theorem A9.ok{x qual:Str}{st:Stmt}{f:Addr}{fd:FuncData}{N ps:List Str}{k:Nat}{sp:Sp}(F:A9 K x qual st f fd)(S:fS N ps (dR st))(len:∀vs H Q E,sp vs H Q E->vs.length=ps.length)
  (hbody:∀(cdv:Value) (A:Around) (outer:List Env) (s:Shared) (H:Hp) (vs:List V) (Q:VK) (E:XK),fO k (A.deeper (envOfC qual (dR st) s.heap.objs.size f cdv))->sp vs H Q E->
   ∃t,uk (kD oU P w K mg base N qual (dR st) f cdv A outer s H E).nox (eQ st) t/\t {nx:=λ_ H'=>Q .non H',rt:=Q} (i9 N vs) H):jB P w K mg base oU (k+1) f fd ps sp:=by
 obtain⟨oc,od,kV,doc,pm,an,cdv,ct,osl,rfl,lk,hcd⟩:=F.ex;refine Gw lk hcd S len λA outer s H vs Q E hr hsp=>?_;obtain⟨t,h,q⟩:=hbody cdv A outer s H vs Q E hr hsp;exact⟨t,h.nox,q⟩
theorem A9.binds{x qual:Str}{st:Stmt}{f:Addr}{fd:FuncData}{ps:List Str}(F:A9 K x qual st f fd)
  (h:∀(kV doc pm:Value) (an:Option Addr) (cdv ct:Value) (us:List Value),us.length=ps.length->bindArgs (W.fnOf x qual (fY st) (eQ st) (dR st) .none kV doc pm an cdv ct) ⟨us,[]⟩=pure (ps.zip us)):kM K fd ps []:=by
 obtain⟨oc,od,kV,doc,pm,an,cdv,ct,osl,rfl,lk,hcd⟩:=F.ex;exact .all (h kV doc pm an cdv ct)
theorem vU{x qual:Str}{st:Stmt}{f:Addr}{oc:Value}{od an:Option Addr}{osl:Array (Option Value)}{kV doc pm cdv ct:Value}(l:K.lookup f=some ⟨oc,od,.func (W.fnOf x qual (fY st) (eQ st) (dR st) .none kV doc pm an cdv ct),osl⟩)
  (c:W.codeIn K cdv qual=true) (k:W.keepIn K (.ref f)=true):A9 K x qual st f (W.fnOf x qual (fY st) (eQ st) (dR st) .none kV doc pm an cdv ct):=⟨⟨oc,od,kV,doc,pm,an,cdv,ct,osl,rfl,l,c⟩,k⟩
end
section
variable {X:Cx}
theorem pv(i:Nat){x:Str}{pos:Pos}(hN:X.N[i]? = some x:=by rfl)(hv:G3 X.env.scope x:=by first | exact Or.inl rfl | exact Or.inr (Or.inl rfl) | exact Or.inr (Or.inr rfl))(hd:(x == ("__debug__" : Str))=false:=by decide)
  (hcd:(x == ("__classdict__" : Str))=false:=by decide):PE X (.Name x pos) (kQ i):=DS hN hv hd hcd
end
def eB(H H':Hp):Prop:=∀b o,H b=some o->H' b=some o
theorem eB.refl(H:Hp):eB H H:=λ_ _ h=>h
theorem eB.trans{H H1 H2:Hp}(a:eB H H1)(b:eB H1 H2):eB H H2:=λc o h=>b c o (a c o h)
theorem eB.seq{K:W.Frag}{H H':Hp}{a:Addr}{xs:List V}(e:eB H H')(h:ig K H a xs):ig K H' a xs:=by
 rcases h with (h | ⟨o,h⟩) | h
 ·exact .inl (.inl (e _ _ h))
 ·exact .inl (.inr ⟨o,e _ _ h⟩)
 ·exact .inr h
end L2
namespace L2
open PySem PySem.Spec PyProof.Rows
section
variable {P:Program}{w:World}{H:Hp}{h:Heap}{a:Addr}{o:HO}
theorem nh.track(ok:nh P w H h)(hn:H a=none)(new:gS P w (gC H a o) h a o):nh P w (gC H a o) h:=λb u e=>by
 by_cases hb:b=a
 ·subst hb;rw[d8] at e;cases e;exact new
 ·rw[ei hb] at e;refine (ok b u e).stay (λ_ _ _ q=>q) (λc q=>?_) λc xs q=>?_
  ·rw[ei (eG q hn)];exact q
  ·rw[ei (eG q hn)];exact q
end
theorem eh.track{X:Cx}{dH:List (Addr×Obj)}{σ:St}{H:Hp}{s:Shared}{a:Addr}{o:HO}(I:eh X dH σ H s)(hn:H a=none)(h1:a∈X.ex\/X.s₀.heap.objs.size<=a)
  (hL:a≠X.env.locals) (h2:∀x c,X.env.cells.lookup x=some c->c≠a) (h3:∀p∈X.pn++dH,p.1≠a) (new:gS X.prog X.w (gC H a o) s.heap a o):eh X dH σ (gC H a o) s:=by
 have J:=I.step (h':=s.heap) (H':=gC H a o) (g':=s.gens) (t':=s.toks) (d':=s.drawn) (ch:=[a])
  (λb hb=>by
   have e:b=a:=by simpa using hb
   subst e;exact⟨h1,hL,h2,h3⟩)
  (λ_ _ _ _ _ e _=>e) (λ_ u _ _ _ e _=>⟨u.slots,e⟩)
  (λb u hb _ n=>by rw[ei (by simpa using hb)];exact n)
  (λ_ u _ e=>⟨u,e⟩)
  (λb xs q=>by rw[ei (eG q hn)];exact q)
  (λb u v q=>by rw[ei (eG q hn)];exact q)
  (λb ps q=>⟨#[],by rw[ei (eG q hn),q];simp⟩)
  (λ_ q=>q) (I.hok.track hn new) I.bare
 exact J
def i8(env:Env):List (Str×NameKind)->List (Str×Addr)->List (Str×Addr)
 | [],acc=>acc
 | (n,k)::r,acc=>if k == NameKind.free then (match env.cells.lookup n with
  | some c=>i8 env r ((n,c)::acc)
  | none=>i8 env r acc) else i8 env r acc
theorem lJ{scope:Scope}{env:Env}(h:∀y∈scope.names,y.2=.free->∃c,env.cells.lookup y.1=some c):closureFor scope env=pure (i8 env scope.names []):=by
 have all:∀(l:List (Str×NameKind)) (acc:List (Str×Addr)),(∀y∈l,y.2=.free->∃c,env.cells.lookup y.1=some c)->
   (forIn l acc λ(x:Str×NameKind) (cs:List (Str×Addr))=>(if (x.2 == NameKind.free)=true then (do
    let a <-cellOf env x.1
    pure (ForInStep.yield ((x.1,a)::cs))) else pure (ForInStep.yield cs):Sem _))=pure (i8 env l acc):=by
  intro l;induction l with
  | nil=>intro acc _;rfl
  | cons y r ih=>
   intro acc hl;obtain⟨n,k⟩:=y;rw[List.forIn_cons];by_cases hk:(k == NameKind.free)=true
   ·obtain⟨c,hc⟩:=hl (n,k) bg (by simpa using hk);have hc':env.cells.lookup n=some c:=hc;have e:cellOf env n=pure c:=by unfold cellOf;rw[hc']
    simp only[hk,if_true,e,pure_bind];rw[ih _ λy hy=>hl y (bh _ hy)];show pure (i8 env r ((n,c)::acc))=pure (if (k == NameKind.free)=true then (match env.cells.lookup n with
     | some c=>i8 env r ((n,c)::acc)
     | none=>i8 env r acc) else i8 env r acc)
    rw[aP hk,hc']
   ·have hk':(k == NameKind.free)=false:=by simpa using hk
    simp only[hk',bW,if_false,pure_bind];rw[ih _ λy hy=>hl y (bh _ hy)];show pure (i8 env r acc)=pure (if (k == NameKind.free)=true then (match env.cells.lookup n with
     | some c=>i8 env r ((n,c)::acc)
     | none=>i8 env r acc) else i8 env r acc)
    rw[aQ hk]
 have:=all scope.names [] h;unfold closureFor;simp only[pure_bind,bind_pure] at this ⊢;exact this
theorem iQ{env:Env}{x:Str}{c:Addr}:∀{l:List (Str×NameKind)} {acc:List (Str×Addr)},(∀y d,acc.lookup y=some d->env.cells.lookup y=some d)->(i8 env l acc).lookup x=some c->env.cells.lookup x=some c
 | [],acc,ha,h=>ha x c h
 | (n,k)::r,acc,ha,h=>by
  unfold i8 at h;by_cases hk:(k == NameKind.free)=true
  ·rw[aP hk] at h;cases e:env.cells.lookup n with
   | none=>rw[e] at h;exact iQ ha h
   | some d=>
    rw[e] at h;refine iQ (λy d' hy=>?_) h;rw[bX] at hy;cases q:y == n with
    | true=>rw[q] at hy;cases hy;rw[beq_iff_eq.mp q];exact e
    | false=>rw[q] at hy;exact ha y d' hy
  ·rw[aQ hk] at h;exact iQ ha h
theorem lj{env:Env}{x:Str}:∀{l:List (Str×NameKind)} {acc:List (Str×Addr)},(∃c,acc.lookup x=some c)->∃c,(i8 env l acc).lookup x=some c
 | [],_,h=>h
 | (n,k)::r,acc,h=>by
  unfold i8;by_cases hk:(k == NameKind.free)=true
  ·rw[aP hk];cases e:env.cells.lookup n with
   | none=>exact lj h
   | some d=>
    refine lj ?_;rw[bX];cases q:x == n with
    | true=>exact⟨d,rfl⟩
    | false=>exact h
  ·rw[aQ hk];exact lj h
theorem j2{env:Env}{x:Str}:∀{l:List (Str×NameKind)} {acc:List (Str×Addr)},(x,NameKind.free)∈l->(∃c,env.cells.lookup x=some c)->∃c,(i8 env l acc).lookup x=some c
 | (n,k)::r,acc,hm,hc=>by
  rcases aE.mp hm with e | hm
  ·cases e;obtain⟨c,hc⟩:=hc;unfold i8;rw[aP (by rfl),hc];refine lj ⟨c,?_⟩;rw[bX,beq_self_eq_true]
  ·unfold i8;by_cases hk:(k == NameKind.free)=true
   ·rw[aP hk];cases env.cells.lookup n with
    | none=>exact j2 hm hc
    | some d=>exact j2 hm hc
   ·rw[aQ hk];exact j2 hm hc
theorem mE{scope:Scope}{env:Env}{x:Str}(h:(relabel scope env).names.lookup x=some .cell\/(relabel scope env).names.lookup x=some .free):(x,NameKind.free)∈scope.names\/scope.names.lookup x=some .cell:=by
 have all:∀(l:List (Str×NameKind)),∀k,(k=NameKind.cell\/k=NameKind.free)->
   (l.map λ(n,k)=>if (k == NameKind.free&&env.scope.kind == .function&&env.kindOf n == some .cell) then (n,NameKind.cell) else (n,k)).lookup x=some k->(x,NameKind.free)∈l\/l.lookup x=some .cell:=by
  intro l;induction l with
  | nil=>intro k _ h;simp at h
  | cons y r ih=>
   intro k hk h;obtain⟨n,k0⟩:=y;rw[bz] at h;by_cases hc:(k0 == NameKind.free&&env.scope.kind == .function&&env.kindOf n == some .cell)=true
   ·have hf:k0=.free:=by simp only[bM,beq_iff_eq] at hc;exact hc.1.1
    simp only[hc,if_true] at h;rw[bX] at h;cases q:x == n with
    | true=>rw[hf,beq_iff_eq.mp q];exact .inl bg
    | false=>
     rw[q] at h;rcases ih k hk h with z | z
     ·exact .inl (bh _ z)
     ·exact .inr (by rw[bX,q];exact z)
   ·simp only[hc,bW,if_false] at h;rw[bX] at h;cases q:x == n with
    | true=>
     rw[q] at h;have e:k0=k:=by simpa using h
     rcases hk with rfl | rfl
     ·exact .inr (by rw[bX,q,e])
     ·rw[e,beq_iff_eq.mp q];exact .inl bg
    | false=>
     rw[q] at h;rcases ih k hk h with z | z
     ·exact .inl (bh _ z)
     ·exact .inr (by rw[bX,q];exact z)
 rcases h with h | h
 ·exact all scope.names _ (.inl rfl) h
 ·exact all scope.names _ (.inr rfl) h
theorem sv{scope:Scope}{env:Env}{x:Str}(h:scope.names.lookup x=some .free):(relabel scope env).names.lookup x=some .cell\/(relabel scope env).names.lookup x=some .free:=by
 have all:∀(l:List (Str×NameKind)),l.lookup x=some .free->
   (l.map λ(n,k)=>if (k == NameKind.free&&env.scope.kind == .function&&env.kindOf n == some .cell) then (n,NameKind.cell) else (n,k)).lookup x=some .cell\/
   (l.map λ(n,k)=>if (k == NameKind.free&&env.scope.kind == .function&&env.kindOf n == some .cell) then (n,NameKind.cell) else (n,k)).lookup x=some .free:=by
  intro l;induction l with
  | nil=>intro h;simp at h
  | cons y r ih=>
   intro h;obtain⟨n,k⟩:=y;rw[bz];rw[bX] at h;cases q:x == n with
   | true=>
    rw[q] at h;have hk:k=.free:=by simpa using h
    by_cases hc:(k == NameKind.free&&env.scope.kind == .function&&env.kindOf n == some .cell)=true
    ·refine .inl ?_;simp only[hc,if_true];rw[bX,q]
    ·refine .inr ?_;simp only[hc,bW,if_false];rw[bX,q,hk]
   | false=>
    rw[q] at h;by_cases hc:(k == NameKind.free&&env.scope.kind == .function&&env.kindOf n == some .cell)=true
    ·simp only[hc,if_true];rw[bX,q];exact ih h
    ·simp only[hc,bW,if_false];rw[bX,q];exact ih h
 exact all scope.names h
def xF(X:Cx)(ifs:List Expr)(t:TT):Prop:=
 ∀(dH:List (Addr×Obj)) (s:Shared) (σ:St) (H:Hp) (Q:Bool->Hp->Prop),eh X dH σ H s->t σ H Q->
  wpAny (model X.prog X.w) X.A (forIn ifs true λc r=>if r=true then do let ok <-isTrue c X.env (eval c X.env);pure (ForInStep.yield ok) else pure (ForInStep.yield r)) (TP X dH σ Q) X.xe s
def Ez:TT:=λ_ H Q=>Q true H
theorem BF{X:Cx}:xF X [] Ez:=λ_ _ _ H _ I h=>wpAny_tests_nil ⟨H,I,h⟩
theorem CH{X:Cx}{c:Expr}{t:TT}(hc:PT X c t):xF X [c] t:=λdH s σ H Q I h=>wpAny_tests_one (hc dH s σ H Q I h)
theorem jz{x:Str}{c:Addr}:∀(names:List (Str×NameKind)) (k:Nat) (acc:List (Str×Addr)),(cellsFrom k names acc).lookup x=some c->acc.lookup x=some c\/(k<=c/\(x,NameKind.cell)∈names)
 | [],_,_,h=>.inl h
 | (n,kd)::r,k,acc,h=>by
  unfold cellsFrom at h;split at h
  ·rename_i hk;rcases jz r _ _ h with q | ⟨q,m⟩
   ·rw[bX] at q;cases hb:x == n with
    | true=>rw[hb] at q;cases q;refine .inr ⟨aJ _,?_⟩;rw[beq_iff_eq.mp hb,beq_iff_eq.mp hk];exact bg
    | false=>rw[hb] at q;exact .inl q
   ·exact .inr ⟨bY q,bh _ m⟩
  ·rcases jz r _ _ h with q | ⟨q,m⟩
   ·exact .inl q
   ·exact .inr ⟨q,bh _ m⟩
theorem iX{x:Str}:∀(names:List (Str×NameKind)) (k:Nat) (acc:List (Str×Addr)),(x,NameKind.cell)∉names->(cellsFrom k names acc).lookup x=acc.lookup x
 | [],_,_,_=>rfl
 | (n,kd)::r,k,acc,h=>by
  unfold cellsFrom;have hr:(x,NameKind.cell)∉r:=λz=>h (bh _ z);split
  ·rename_i hk;rw[iX r _ _ hr,bX];cases hb:x == n with
   | true=>exact absurd (by rw[beq_iff_eq.mp hb,beq_iff_eq.mp hk];exact bg) h
   | false=>rfl
  ·exact iX r _ _ hr
theorem jQ{x:Str}{c:Addr}:∀(names:List (Str×NameKind)) (k:Nat) (acc:List (Str×Addr)),(x,NameKind.cell)∈names->(cellsFrom k names acc).lookup x=some c->k<=c
 | [],_,_,h,_=>nomatch h
 | (n,kd)::r,k,acc,h,e=>by
  unfold cellsFrom at e;by_cases hr:(x,NameKind.cell)∈r
  ·split at e
   ·exact bY (jQ r _ _ hr e)
   ·exact jQ r _ _ hr e
  ·rcases aE.mp h with q | q
   ·cases q;rw[aP (by rfl),iX r _ _ hr,bX,beq_self_eq_true] at e;cases e;exact aJ _
   ·exact absurd q hr
theorem jO:∀(names:List (Str×NameKind)) (k:Nat) (acc:List (Str×Addr)),(∀x y c,acc.lookup x=some c->acc.lookup y=some c->x=y)->(∀x c,acc.lookup x=some c->c<k)->
  ∀x y c,(cellsFrom k names acc).lookup x=some c->(cellsFrom k names acc).lookup y=some c->x=y
 | [],_,_,h,_=>h
 | (n,kd)::r,k,acc,h,hl=>by
  unfold cellsFrom;split
  ·refine jO r (k+1) ((n,k)::acc) (λx y c h1 h2=>?_) λx c h1=>?_
   ·rw[bX] at h1 h2;cases e1:x == n with
    | true=>
     cases e2:y == n with
     | true=>rw[beq_iff_eq.mp e1,beq_iff_eq.mp e2]
     | false=>rw[e1] at h1;rw[e2] at h2;cases h1;exact absurd (hl _ _ h2) (aZ _)
    | false=>
     rw[e1] at h1;cases e2:y == n with
     | true=>rw[e2] at h2;cases h2;exact absurd (hl _ _ h1) (aZ _)
     | false=>rw[e2] at h2;exact h x y c h1 h2
   ·rw[bX] at h1;cases e1:x == n with
    | true=>rw[e1] at h1;cases h1;exact bA _
    | false=>rw[e1] at h1;exact bZ (hl x c h1)
  ·exact jO r k acc h hl
theorem jv{x:Str}{c:Addr}:∀(names:List (Str×NameKind)) (h:Heap) (acc:List (Str×Addr)),(cellsFrom h.objs.size names acc).lookup x=some c->acc.lookup x=some c\/(h.objs.size<=c/\(pushCells h names).IsCell c none)
 | [],_,_,e=>.inl e
 | (n,kd)::r,h,acc,e=>by
  unfold cellsFrom at e;unfold pushCells;split at e
  ·rename_i hk;rw[aP hk];have e':(cellsFrom (h.push {cls:=.type "cell",data:=.cell none}).objs.size r ((n,h.objs.size)::acc)).lookup x=some c:=by rw[Heap.size_push];exact e
   rcases jv r _ _ e' with q | ⟨q,m⟩
   ·rw[bX] at q;cases hb:x == n with
    | true=>rw[hb] at q;cases q;exact .inr ⟨aJ _,_,pushCells_keeps r _ _ _ (ar _ rfl),rfl⟩
    | false=>rw[hb] at q;exact .inl q
   ·rw[Heap.size_push] at q;exact .inr ⟨bY q,m⟩
  ·rename_i hk;rw[aQ hk];exact jv r _ _ e
theorem nt{M:Model}{A:Around}{E:Value->Shared->Prop}{s:Shared}{scope:Scope}{globals:Addr}{closure:List (Str×Addr)}{qual:Str}{func:Option Addr}{code:Value}{outer:Env}{builtins:Addr}{Q:Env->Shared->Prop}
  (hQ:Q (newEnv scope s.heap.objs.size globals (cellsFrom (s.heap.objs.size+1) scope.names closure) qual func code (some outer) builtins) {s with heap:=pushCells (s.heap.push {cls:=.type "dict",data:=.dict #[]}) scope.names}) :
  wpAny M A (newFunctionEnv scope globals closure [] qual func code (some outer) builtins) Q E s:=by
 simp only[newFunctionEnv,Option.isSome_some,if_true];refine ao (wpAny_alloc ?_);refine ao (wpAny_layCells _ (λname kind cells=>by cases hkc:kind == NameKind.cell<;>simp[hkc]) _ _ _ _ ?_);rw[show ({s with heap:=s.heap.push {cls:=.type "dict",data:=.dict #[]}}:Shared).heap.objs.size=s.heap.objs.size+1 from Heap.size_push ..];rw[List.forIn_nil];exact ao (ak (ak hQ))
def jh(X:Cx)(N:List Str)(scope:Scope)(C:Addr)(s₃:Shared)(H:Hp)(ex:List Addr)(pn:List (Addr×Obj)):Cx:={X with N:=N,s₀:=s₃,H₀:=H,env:=compEnvC scope (cellsFrom (C+1) scope.names (i8 X.env scope.names [])) C X.env,outer:=X.stack,ex:=ex,fn:=λx=>scope.names.lookup x == some .cell,pn:=pn,xe:=λ_ _=>False}
def pull(ix:List (Option Nat))(σ:St):St:=ix.map fun
 | none=>none
 | some j=>(σ[j]?).getD none
def Ik(J:It)(ix:List (Option Nat))(g:TG)(tt:TT)(te:TE)(σ:St)(H1:Hp)(Q:VK):Prop:=∃W:Nat->Nat->List V->Hp->Prop,(∃m,W 0 m [] H1)/\∀i m ys H,W i m ys H->
 (J.stop i H/\∀D,H D=none->Q (.ref D) (gC H D (.lst ys)))\/
 (J.go i H/\ys.length<sizeLine/\∀x H',J.yld i H x H'->g x (pull ix σ) H' λσ2 H2=>tt σ2 H2 λb H3=>if b=true then te σ2 H3 λy H4=>∃m',m'<m/\W (i+1) m' (ys++[y]) H4 else ∃m',m'<m/\W (i+1) m' ys H3)
def zG(ix:List (Option Nat))(wi:TI)(g:TG)(tt:TT)(te:TE):TE:=λσ H Q=>wi σ H λJ H1=>Ik J ix g tt te σ H1 Q
end L2
namespace L2
open PySem PySem.Spec PyProof.Rows
section
variable {prog:Program}{w:World}{A:Around}{R:Result->Shared->Prop}{s:Shared}
theorem rH{elt tg iter:Expr}{ifs:List Expr}{scope:Scope}{pos:Pos}{it acc:Value}{env:Env}(J:Nat->Shared->Prop)
  (turn:∀n s,J n s->wpAny (model prog w) A (pyNext it) (λr s₁=>match r with
   | none=>R (.ok .next) s₁
   | some v=>wpAny (model prog w) A (letOwnedTupleGo tg it v) (λ_ s₂=>wpAny (model prog w) A (assign tg env v) (λ_ s₃=>
     wpAny (model prog w) A (forIn ifs true λc r=>if r=true then do let ok <-isTrue c env (eval c env);pure (ForInStep.yield ok) else pure (ForInStep.yield r)) (λok s₄=>
      if ok=true then wpAny (model prog w) A (eval elt env) (λx s₅=>wpAny (model prog w) A (call (.builtin "list.append") [acc,x]) (λ_ s₆=>∃m,m<n/\J m s₆) (λ_ _=>False) s₅) (λ_ _=>False) s₄
      else ∃m,m<n/\J m s₄) (λ_ _=>False) s₃) (λ_ _=>False) s₂) (λ_ _=>False) s₁) (λ_ _=>False) s)
  (n:Nat) (h:J n s):codeAny (model prog w) A (.compLoop (.ListComp elt [⟨tg,iter,ifs,0⟩] scope pos) 0 it acc env) R s:=by
 refine codeAny_loop rfl J (λn s hJ=>?_) n h;show wpAny _ A ((compTurn (.ListComp elt [⟨tg,iter,ifs,0⟩] scope pos) 0 it acc env).onRaise (λx=>do noteFrame x env;theTreesLotGoes x)) _ _ s;refine wpAny_noted ?_;rw[compTurn_list];refine ao (wpAny_standAt (ao (wpAny_mono (turn n s hJ) (λr s₁ h₁=>?_) λ_ _ z=>z.elim)));cases r with
 | none=>exact ak h₁
 | some v=>
  refine ao (wpAny_mono h₁ (λ_ s₂ h₂=>?_) λ_ _ z=>z.elim);refine ao (wpAny_mono h₂ (λ_ s₃ h₃=>ao (wpAny_mono h₃ (λok s₄ h₄=>?_) λ_ _ z=>z.elim)) λ_ _ z=>z.elim);cases ok with
  | false=>exact ak ⟨rfl,h₄⟩
  | true=>exact ao (ao (wpAny_mono h₄ (λx s₅ h₅=>ao (wpAny_mono h₅ (λ_ s₆ h₆=>ak (ak ⟨rfl,h₆⟩)) λ_ _ z=>z.elim)) λ_ _ z=>z.elim))
end
def ke(ix:List (Option Nat))(g:TG):Prop:=∀x σ1 H Q,g x σ1 H Q->g x σ1 H λσ2 H2=>(∀i j:Nat,ix[i]? = some (some j)->σ2[i]? = σ1[i]?)/\Q σ2 H2
theorem oK{ix:List (Option Nat)}{k:Nat}(hk:ix[k]? = some none):ke ix (gB k):=λx σ1 H Q h=>by
 refine⟨λi j e=>?_,h⟩;have:k≠i:=by rintro rfl;rw[hk] at e;cases e
 rw[aq this]
abbrev qh(us:List Value):Obj:={cls:=.type "list",data:=.seq us.toArray us.length}
section
variable {X:Cx}{tg elt iter:Expr}{ifs:List Expr}{scope:Scope}{pos:Pos}{N:List Str}{ix:List (Option Nat)}{wi:TI}{g:TG}{tt:TT}{te:TE}
structure t5(X:Cx)(scope:Scope)(N:List Str)(ix:List (Option Nat)):Prop where
 kind:scope.kind=.function
 sep:∀y∈scope.names,y.2=.cell->scope.names.lookup y.1=some .cell
 names:∀y∈scope.names,y.2=.local->scope.names.lookup y.1=some .local
 fre:∀y∈scope.names,y.2=.free->∃c,X.env.cells.lookup y.1=some c
 len:N.length=ix.length
 ix:∀(i j:Nat) (x:Str),N[i]? = some x->ix[i]? = some (some j)->X.N[j]? = some x/\scope.names.lookup x=some .free/\G3 X.env.scope x/\X.env.kindOf x≠some .local
theorem Ge{dH:List (Addr×Obj)}{σ:St}{H:Hp}{s:Shared}{fp:List Addr}(L:t5 X scope N ix)(I:eh X dH σ H s)(f:∀b∈fp,nX X dH H b)(hlt:∀b∈fp,b<s.heap.objs.size)(o:Obj) :
  (jh X N scope (s.heap.objs.size+1) {s with heap:=s.heap.push o} H (s.heap.objs.size::fp) (X.pn++dH)).Ok:=by
 have I1:eh X dH σ H {s with heap:=s.heap.push o}:=I.kept (t':=s.toks) λb u e=>ae _ e;have sound0:∀x c,(i8 X.env scope.names []).lookup x=some c->X.env.cells.lookup x=some c:=λx c e=>iQ (λy d z=>by simp at z) e;have cellLt:∀x c,X.env.cells.lookup x=some c->c<s.heap.objs.size:=λx c e=>let ⟨_,q⟩:=I.cell x c e;q.lt;have sound:∀x c,(cellsFrom (s.heap.objs.size+1+1) scope.names (i8 X.env scope.names [])).lookup x=some c->X.env.cells.lookup x=some c\/s.heap.objs.size+1+1<=c:=λx c e=>by
  rcases jz _ _ _ e with q | ⟨q,_⟩
  ·exact .inl (sound0 x c q)
  ·exact .inr q
 refine⟨I.ok.mod,L.kind,I.ok.glob,I.ok.blt,?_,jO _ _ _ (λx y c h1 h2=>I.ok.inj x y c (sound0 x c h1) (sound0 y c h2)) (λx c h1=>bZ (bZ (cellLt x c (sound0 x c h1)))),λx hx=>?_,λx c h1 h2=>?_,I.ok.hd,I.ok.frames,.inl rfl,λb hb=>?_,λb u e=>?_,?_,λb u e hb=>?_,λb hb=>?_,I1.stack,I.stkFree⟩
 ·show (s.heap.push o).objs.size<=s.heap.objs.size+1;rw[Heap.size_push];exact aJ _
 ·refine bF.mp (W.cellsFrom_some _ _ _ ?_);rcases mE hx with hm | hm
  ·exact .inr (bF.mpr (j2 hm (L.fre _ hm rfl)))
  ·exact .inl hm
 ·have h1':(scope.names.lookup x == some .cell)=true:=h1;have hk:scope.names.lookup x=some .cell:=by simpa using h1'
  show (s.heap.push o).objs.size<=c;rw[Heap.size_push];exact bY (jQ _ _ _ (PySem.mem_of_lookup hk) h2)
 ·rcases aE.mp hb with rfl | hb
  ·refine⟨aL (bA _),λx c e z=>?_⟩;rcases sound x c e with q | q
   ·exact absurd (cellLt x c q) (by rw[z];exact aZ _)
   ·rw[z] at q;omega
  ·refine⟨aL (bZ (hlt b hb)),λx c e=>?_⟩;rcases sound x c e with q | q
   ·exact (f b hb).2.2.2.2.1 x c q
   ·intro z;rw[z] at q;exact absurd (aM (b4 _ 2) q) (Nat.not_le.mpr (hlt b hb))
 ·exact⟨ae _ (I.bs b u e).1,(I.bs b u e).2⟩
 ·show X.base.objs.size<=(s.heap.push o).objs.size;rw[Heap.size_push];exact b5 (aM I.ok.bsz I.sz)
 ·have hb':=aK (I.bs b u e).1;rcases aE.mp hb with rfl | hb
  ·exact aZ _ hb'
  ·rcases (f b hb).2.2.2.1 with z | z
   ·exact I.ok.noex b u e z
   ·exact absurd (aD (aK e) (aM I.ok.bsz z)) (aZ _)
 ·intro z;have hs:=I.stkSub b z;rcases aE.mp hb with rfl | hb
  ·rcases aE.mp hs with q | q
   ·exact absurd I.lt (by rw[<-q];exact aZ _)
   ·exact I.nofs (aJ _) q
  ·rcases aE.mp hs with q | q
   ·exact (f b hb).2.1 q
   ·exact (f b hb).2.2.1 q
end
end L2
namespace L2
open PySem PySem.Spec PyProof.Rows
section
variable {X:Cx}{tg elt iter:Expr}{ifs:List Expr}{scope:Scope}{pos:Pos}{N:List Str}{ix:List (Option Nat)}{wi:TI}{g:TG}{tt:TT}{te:TE}
theorem ua{ix:List (Option Nat)}{σ:St}{i:Nat}{v:V}(h:(pull ix σ)[i]? = some (some v)):∃j,ix[i]? = some (some j)/\σ[j]? = some (some v):=by
 unfold pull at h;rw[av] at h;cases e:ix[i]? with
 | none=>rw[e] at h;cases h
 | some k=>
  rw[e] at h;cases k with
  | none=>cases h
  | some j=>
   refine⟨j,rfl,?_⟩;have h':(σ[j]?).getD none=some v:=by simpa using h
   cases q:σ[j]? with
   | none=>rw[q] at h';cases h'
   | some z=>rw[q] at h';simpa using h'
theorem wm{dH:List (Addr×Obj)}{σ:St}{RR:Value->Addr->Result->Shared->Prop}{Q:VK}{E:Value->Shared->Prop}{it:Addr}{fp:List Addr}{tn:Nat->Heap->Prop}{J:It}{H2:Hp}{s2:Shared}{W:Nat->Nat->List V->Hp->Prop}{m0:Nat}
  (hc:X.calm=true) (L:t5 X scope N ix) (hgk:ke ix g)
  (blk:∀C s₃ H ex pn,PG (jh X N scope C s₃ H ex pn) tg g/\xF (jh X N scope C s₃ H ex pn) ifs tt/\PE (jh X N scope C s₃ H ex pn) elt te)
  (I2:eh X dH σ H2 s2) (T:vx X.prog X.w X.K tg J fp it tn) (st2:tn 0 s2.heap) (f2:∀b∈fp,nX X dH H2 b) (w0:W 0 m0 [] H2)
  (turn:∀i m ys H,W i m ys H->(J.stop i H/\∀D,H D=none->Q (.ref D) (gC H D (.lst ys)))\/
   (J.go i H/\ys.length<sizeLine/\∀x H',J.yld i H x H'->g x (pull ix σ) H' λσ2 H2=>tt σ2 H2 λb H3=>if b=true then te σ2 H3 λy H4=>∃m',m'<m/\W (i+1) m' (ys++[y]) H4 else ∃m',m'<m/\W (i+1) m' ys H3))
  (fin:∀D C m H' s',s'.heap.Ns C m->nX X dH H' C->eh X dH σ H' s'->Q (.ref D) H'->RR (.ref D) C (.ok .next) s') :
  wpAny (model X.prog X.w) X.A (newList []) (λacc s₃=>wpAny (model X.prog X.w) X.A (newFunctionEnv scope X.env.globals (i8 X.env scope.names []) [] X.env.qual none .none (some X.env)) (λcenv s₄=>codeAny (model X.prog X.w) X.A (.compStart (.ListComp elt [⟨tg,iter,ifs,0⟩] scope pos) 0 (.ref it) acc {cenv with scope:=relabel scope X.env}) (RR acc cenv.locals) s₄) E s₃) E s2:=by
 refine wpAny_newObj_type (nt ?_);dsimp only;have hCs:(s2.heap.push {cls:=.type "list",dict:=none,data:=.seq ([]:List Value).toArray}).objs.size=s2.heap.objs.size+1:=Heap.size_push ..;generalize hh₁:pushCells ((s2.heap.push {cls:=.type "list",dict:=none,data:=.seq ([]:List Value).toArray}).push {cls:=.type "dict",data:=.dict #[]}) scope.names=h₁;rw[hCs];have hns₁:h₁.Ns (s2.heap.objs.size+1) (λ_=>none):=by rw[<-hh₁,<-hCs];exact (Heap.Ns.new _ _).keeps (pushCells_keeps _ _)
 have hnew:∀x c,(cellsFrom (s2.heap.objs.size+1+1) scope.names (i8 X.env scope.names [])).lookup x=some c->X.env.cells.lookup x=some c\/(s2.heap.objs.size+1+1<=c/\h₁.IsCell c none):=λx c e=>by
  have hs3:((s2.heap.push {cls:=.type "list",dict:=none,data:=.seq ([]:List Value).toArray}).push {cls:=.type "dict",data:=.dict #[]}).objs.size=s2.heap.objs.size+1+1:=by rw[Heap.size_push,hCs]
  rw[<-hs3] at e;rcases jv _ _ _ e with q | ⟨q,m⟩
  ·exact .inl (iQ (λy d z=>by simp at z) q)
  ·rw[hs3] at q;rw[hh₁] at m;exact .inr ⟨q,m⟩
 have fpObj:=T.obj 0 _ st2;have hlt:∀b∈fp,b<s2.heap.objs.size:=λb hb=>let ⟨_,e,_⟩:=fpObj b hb;aK e;have ok:=Ge L I2 f2 hlt {cls:=.type "list",dict:=none,data:=.seq ([]:List Value).toArray};have DC:s2.heap.objs.size≠s2.heap.objs.size+1:=aL (bA _);have hold:∀b o,(s2.heap.push {cls:=.type "list",dict:=none,data:=.seq ([]:List Value).toArray}).get? b=some o->h₁.get? b=some o:=λb o e=>by rw[<-hh₁];exact pushCells_keeps _ _ _ _ (ae _ e)
 have old:∀b o,s2.heap.get? b=some o->h₁.get? b=some o:=λb o e=>hold b o (ae _ e);have sound:∀x c,(i8 X.env scope.names []).lookup x=some c->X.env.cells.lookup x=some c:=λx c e=>iQ (λy d z=>by simp at z) e;have cellLt:∀x c,X.env.cells.lookup x=some c->c<s2.heap.objs.size:=λx c e=>let ⟨_,q⟩:=I2.cell x c e;q.lt;have hDn:H2 s2.heap.objs.size=none:=I2.hok.fresh (aJ _);have hCn:H2 (s2.heap.objs.size+1)=none:=I2.hok.fresh (bD _);have pinLt:∀p∈X.pn++dH,p.1<s2.heap.objs.size:=λp hp=>aK (I2.pin p hp).1;have hDfs:s2.heap.objs.size∉yu X.stack:=λz=>by
  rcases aE.mp (I2.stkSub _ z) with q | q
  ·exact absurd I2.lt (by rw[<-q];exact aZ _)
  ·exact I2.nofs (aJ _) q
 have I':eh (jh X N scope (s2.heap.objs.size+1) {s2 with heap:=s2.heap.push {cls:=.type "list",dict:=none,data:=.seq ([]:List Value).toArray}} H2 (s2.heap.objs.size::fp) (X.pn++dH))
   [(s2.heap.objs.size,qh [])] (pull ix σ) H2 {s2 with heap:=h₁,toks:=s2.toks}:=by
  refine⟨ok,rfl,I2.bare,Un.kept hold,⟨_,hns₁,λi x v h1 h2 h3=>?_⟩,λx c e=>?_,hCn,λx c e=>?_,λp hp=>?_,I2.hok.kept old,?_⟩
  ·obtain⟨j,ej,es⟩:=ua h2;obtain⟨q1,q2,q3,q4⟩:=L.ix i j x h1 ej;obtain⟨m,_,hl⟩:=I2.loc;obtain⟨u,r,lk⟩:=hl j x v q1 es q3;refine⟨u,r,?_⟩;rcases lk with⟨k,_⟩ | ⟨k,c,hcl,hv⟩
   ·exact absurd k q4
   ·obtain⟨c',hc'⟩:=j2 (acc:=[]) (PySem.mem_of_lookup q2) ⟨c,hcl⟩;have:=sound x c' hc';rw[hcl] at this;cases this;have hnc:(x,NameKind.cell)∉scope.names:=λz=>by have:=L.sep _ z rfl;rw[q2] at this;cases this
    refine .inr ⟨?_,c,(iX _ _ _ hnc).trans hc',let ⟨ob,ho,hd⟩:=hv;⟨ob,old c ob ho,hd⟩⟩;exact sv q2
  ·rcases hnew x c e with q | ⟨_,q⟩
   ·obtain⟨v,ob,ho,hd⟩:=I2.cell x c q;exact⟨v,ob,old c ob ho,hd⟩
   ·exact⟨none,q⟩
  ·rcases hnew x c e with q | ⟨q,_⟩
   ·exact I2.freeC x c q
   ·exact I2.hok.fresh (aM (b4 _ 2) q)
  ·rcases ai.mp hp with hp | hp
   ·obtain⟨e,n,ne,nf,d⟩:=I2.pin p hp;refine⟨old _ _ e,n,aL (bZ (pinLt p hp)),λz=>?_,d⟩;rcases aE.mp (I2.stkSub _ z) with q | q
    ·exact ne q
    ·exact nf q
   ·have e:p=(s2.heap.objs.size,qh []):=by simpa using hp
    subst e;exact⟨hold _ _ (ar _ rfl),hDn,DC,hDfs,λv z=>by cases z⟩
  ·unfold pull;rw[aw];exact L.len.symm
 generalize hX':jh X N scope (s2.heap.objs.size+1) {s2 with heap:=s2.heap.push {cls:=.type "list",dict:=none,data:=.seq ([]:List Value).toArray}} H2 (s2.heap.objs.size::fp) (X.pn++dH)=X' at I';obtain⟨hg,hif,he⟩:=blk (s2.heap.objs.size+1) {s2 with heap:=s2.heap.push {cls:=.type "list",dict:=none,data:=.seq ([]:List Value).toArray}} H2 (s2.heap.objs.size::fp) (X.pn++dH);rw[hX'] at hg hif he;have stat:∀{H':Hp} {us:List Value},(∀b∈fp,H' b=none)->∀b∈fp,nX X' [(s2.heap.objs.size,qh us)] H' b:=λ{H' us} hn b hb=>by
  subst hX';obtain⟨_,f1,f2',f3,f4,f5⟩:=f2 b hb;refine⟨hn b hb,aL (bZ (hlt b hb)),λz=>?_,.inl (bh _ hb),λx c e=>?_,λp hp=>?_⟩
  ·rcases aE.mp (I2.stkSub _ z) with q | q
   ·exact f1 q
   ·exact f2' q
  ·rcases hnew x c e with q | ⟨q,_⟩
   ·exact f4 x c q
   ·intro z;rw[z] at q;exact absurd (aM (b4 _ 2) q) (Nat.not_le.mpr (hlt b hb))
  ·rcases ai.mp hp with hp | hp
   ·exact f5 p hp
   ·have e:p=(s2.heap.objs.size,qh us):=by simpa using hp
    subst e;exact Ne.symm (aL (hlt b hb))
 have loop:codeAny (model X.prog X.w) X.A (.compLoop (.ListComp elt [⟨tg,iter,ifs,0⟩] scope pos) 0 (.ref it) (.ref s2.heap.objs.size) X'.env) (RR (.ref s2.heap.objs.size) (s2.heap.objs.size+1))
   {s2 with heap:=h₁,toks:=s2.toks}:=by
  refine rH (λn s'=>∃i ys us H',eh X' [(s2.heap.objs.size,qh us)] (pull ix σ) H' s'/\eF ys us/\ys.length<=sizeLine/\tn i s'.heap/\(∀b∈fp,H' b=none)/\W i n ys H') ?_ m0
   ⟨0,[],[],H2,I',.nil,bB _,T.keep _ _ _ st2 λb _ o e=>old b o e,λb hb=>(f2 b hb).1,w0⟩
  rintro n s3 ⟨i,ys,us,H3,I3,rv,hz,st3,fr3,w3⟩;have hcX:X'.calm=true:=by subst hX';exact hc
  have hA:X'.A=X.A:=by subst hX';rfl
  rcases turn i n ys H3 w3 with⟨stop,qn⟩ | ⟨go,hZ,step⟩
  ·have hd:=T.done X' (by subst hX';rfl) (by subst hX';rfl) (by subst hX';rfl) hcX i _ s3 _ H3 (λ_ _=>False) I3 (stat fr3) st3 stop;rw[hA] at hd;refine gp hd λr s4 ⟨hr,I4⟩=>?_;subst hr;subst hX';obtain⟨m,hn,_⟩:=I4.loc;have hD3:=I4.pin (s2.heap.objs.size,qh us) (bt _ bg);have u1:Un (yu X.stack) fp H2 H3 s2.heap s4.heap:=by
    have B:=I4.base;have nD:∀b o,s2.heap.get? b=some o->b∉fp->b∉s2.heap.objs.size::fp:=λb o e hb z=>by
     rcases aE.mp z with q | q
     ·exact absurd (aK e) (by rw[q];exact aZ _)
     ·exact hb q
    exact⟨λb o e n hb hx=>B.keep b o (ae _ e) n hb (nD b o e hx),λb o e n hb hx=>B.slot b o (ae _ e) n hb (nD b o e hx),
     λb o e n hx=>B.free b o (ae _ e) n (nD b o e hx),λb o e hx=>B.there b o (ae _ e) (nD b o e hx),B.tups,B.frzs,B.tbls⟩
   have I5:eh X dH σ H3 s4:=I2.call' (ch:=fp) I4.os u1 I4.hok I4.bare λb hb=>let ⟨_,f1,_,f3,f4,f5⟩:=f2 b hb;⟨f3,f1,f4,f5⟩;have I6:eh X dH σ (gC H3 s2.heap.objs.size (.lst ys)) s4:=I5.track hD3.2.1 (.inr I2.sz) (Ne.symm (aL I2.lt)) (λx c e z=>absurd (cellLt x c e) (by rw[z];exact aZ _))
    (λp hp=>aL (pinLt p hp)) ⟨hz,us,us.length,rv,hD3.1⟩
   refine fin _ _ m _ s4 hn ⟨?_,?_,?_,.inr (b5 I2.sz),λx c e z=>?_,λp hp=>?_⟩ I6 (qn _ hD3.2.1)
   ·rw[ei (Ne.symm DC)];exact I4.free
   ·exact Ne.symm (aL (bZ I2.lt))
   ·exact I2.nofs (bD _)
   ·exact absurd (cellLt x c e) (by rw[z];exact Nat.not_lt.mpr (bD _))
   ·exact aL (bZ (pinLt p hp))
  ·have hd:=T.item X' (by subst hX';rfl) (by subst hX';rfl) (by subst hX';rfl) hcX i _ s3 _ H3 (λ_ _=>False) I3 (stat fr3) st3 go;rw[hA] at hd;refine gp hd λr s4 ⟨u,hr,h4⟩=>?_;subst hr;refine gp h4 λ_ s5 ⟨x,H5,I5,r5,y5,st5,fr5⟩=>?_;have I5':=I5.pinned (stat fr5) (T.obj _ _ st5);have hM:model X'.prog X'.w=model X.prog X.w:=by subst hX';rfl
   have hE:X'.xe=λ_ _=>False:=by subst hX';rfl
   have a6:=hg _ s5 _ H5 x u _ I5' r5 (hgk x _ H5 _ (step x H5 y5));rw[hM,hA,hE] at a6;refine gp a6 λ_ s6 ⟨σ6,H6,I6,agr,q6⟩=>?_;have a7:=hif _ s6 σ6 H6 _ I6 q6;rw[hM,hA,hE] at a7;refine gp a7 λok s7 ⟨H7,I7,q7⟩=>?_;have back:∀{s':Shared} {H':Hp} {pl:List (Addr×Obj)},eh X' pl σ6 H' s'->eh X' pl (pull ix σ) H' s':=λ{s' H' pl} I=>by
    refine I.weak ?_ λk v e=>?_
    ·have e1:=I.len;have e2:=I3.len;rw[e1,e2]
    ·obtain⟨j,ej,_⟩:=ua e;rw[agr k j ej];exact e
   have held:∀{s':Shared} {H':Hp},eh X' ([(s2.heap.objs.size,qh us)]++oA fp s5.heap) σ6 H' s'->tn (i+1) s'.heap/\∀b∈fp,H' b=none:=λ{s' H'} I=>by refine⟨T.keep _ _ _ st5 λb hb o e=>(I.pin (b,o) (bt _ (bt _ (kf hb e)))).1,λb hb=>?_⟩;obtain⟨o,e,_⟩:=T.obj _ _ st5 b hb;exact (I.pin (b,o) (bt _ (bt _ (kf hb e)))).2.1
   cases ok with
   | false=>rw[aQ aG] at q7 ⊢;obtain⟨m',hm,w7⟩:=q7;obtain⟨k1,k2⟩:=held I7;exact⟨m',hm,i+1,ys,us,H7,(back I7).unpinned,rv,hz,k1,k2,w7⟩
   | true=>
    rw[aP rfl] at q7 ⊢;have a8:=he _ s7 σ6 H7 _ I7 q7;rw[hM,hA,hE] at a8;refine gp a8 λy s8 ⟨yv,H8,I8,r8,m',hm,w8⟩=>?_;obtain⟨k1,k2⟩:=held I8;have hD8:=I8.pin (s2.heap.objs.size,qh us) (bt _ (ax _ bg));have hl:=rv.length;refine append_at (hsz:=by rw[bu];omega) hD8.1 λh9 sb hD9=>?_;have I9:eh X' [] (pull ix σ) H8 s8:=(back I8).pins_of λp hp=>by simp at hp
    have I10:eh X' [] (pull ix σ) H8 {s8 with heap:=h9}:=I9.turned (t':=s8.toks) (it:=s2.heap.objs.size) (λb o hb e=>sb.extBut b o hb e) hD8.2.1 hD8.2.2.1 (.inl (by subst hX';exact bg))
     (λx c e z=>by
      subst hX';rcases hnew x c e with q | ⟨q,_⟩
      ·exact absurd (cellLt x c q) (by rw[z];exact aZ _)
      ·rw[z] at q;omega) (λp hp z=>by
      subst hX';rcases ai.mp hp with hp | hp
      ·exact absurd (pinLt p hp) (by rw[z];exact aZ _)
      ·simp at hp)
    have e9:h9.get? s2.heap.objs.size=some (qh (us++[y])):=by rw[hD9];simp
    refine⟨m',hm,i+1,ys++[yv],us++[y],H8,I10.pins_of λp hp=>?_,rv.append (.cons r8 .nil),by rw[aS,bU];omega,?_,k2,w8⟩
    ·have e:p=(s2.heap.objs.size,qh (us++[y])):=by simpa using hp
     subst e;exact⟨e9,hD8.2.1,hD8.2.2.1,hD8.2.2.2.1,λv z=>by cases z⟩
    ·exact T.keep _ _ _ k1 λb hb o e=>sb.extBut b o (aL (hlt b hb)) e
 have loop':=loop;subst hX';exact codeAny_compStart_list loop (T.self X.A 0 _ _ _ (T.keep _ _ _ st2 λb _ o e=>old b o e) loop')
theorem Gb(hc:X.calm=true)(hi:PI X tg iter wi)(L:t5 X scope N ix)(hgk:ke ix g)
  (blk:∀C s₃ H ex pn,PG (jh X N scope C s₃ H ex pn) tg g/\xF (jh X N scope C s₃ H ex pn) ifs tt/\PE (jh X N scope C s₃ H ex pn) elt te)
  (hs:∀x,foldedSetIterable iter X.env x=pure x:=by intro _;rfl):PE X (.ListComp elt [⟨tg,iter,ifs,0⟩] scope pos) (zG ix wi g tt te):=by
 intro dH s σ H Q I h;rw[eval_ListComp];refine wpAny_comprehension_free (use:=none) rfl hs (lJ L.fre) L.kind L.names (gp (hi dH s σ H _ I h) λv s1 h1=>gp h1 λitv s2 h2=>?_);obtain⟨it,fp,tn,J,H2,e,I2,T,st2,f2,W,⟨m0,w0⟩,turn⟩:=h2;subst e;refine wm (RR:=λacc C=>compPost (model X.prog X.w) X.A X.xe none (EP X dH σ Q) acc C) hc L hgk blk I2 T st2 f2 w0 turn λD C m H' s' hn f I' q=>?_;refine⟨m,hn,λh' sb=>⟨.ref D,H',I'.turned (t':=s'.toks) (λb o hb e=>sb.extBut b o hb e) f.1 f.2.1 f.2.2.2.1 f.2.2.2.2.1 f.2.2.2.2.2,rfl,q⟩⟩
end
end L2
namespace L2
open PySem PySem.Spec PyProof.Rows
structure dZ(K:W.Frag)(mg:Str->Option Value)(x:Str)(st:Stmt):Prop where
 ex:∃f fd,A9 K x x st f fd/\mg x=some (.ref f)
theorem FD{K:W.Frag}{h:Heap}{mg:Str->Option Value}{x:Str}{st:Stmt}{f:Addr}{oc:Value}{od an:Option Addr}{osl:Array (Option Value)}{kV doc pm cdv ct:Value}(X:K.In h)(G:h.Ns mainGlobals mg)
  (a:W.nsIn K mainGlobals x=some (some (.ref f)))
  (l:K.lookup f=some ⟨oc,od,.func (W.fnOf x x (fY st) (eQ st) (dR st) .none kV doc pm an cdv ct),osl⟩)
  (c:W.codeIn K cdv x=true) (k:W.keepIn K (.ref f)=true):dZ K mg x st:=⟨f,_,vU l c k,W.mg_of X G a⟩
structure iU(P:Program)(w:World)(K:W.Frag)(mg:Str->Option Value)(base:Heap)(x:Str)(k:Nat)(sp:Sp):Prop where
 ex:∃f fd ps,jB P w K mg base oU k f fd ps sp/\mg x=some (.ref f)/\W.keepIn K (.ref f)=true/\kM K fd ps []
theorem iU.mono{P:Program}{w:World}{K:W.Frag}{mg:Str->Option Value}{base:Heap}{x:Str}{j k:Nat}{sp:Sp}(h:iU P w K mg base x j sp)(hk:j<=k):iU P w K mg base x k sp:=
 let ⟨f,fd,ps,F,a,b,c⟩:=h.ex
 ⟨f,fd,ps,F.mono hk,a,b,c⟩
theorem w5{P:Program}{w:World}{K:W.Frag}{mg:Str->Option Value}{base:Heap}{x:Str}{st:Stmt}{N ps:List Str}{k:Nat}{sp:Sp}(D:dZ K mg x st)(S:fS N ps (dR st))
  (hb:∀(kV doc pm:Value) (an:Option Addr) (cdv ct:Value) (us:List Value),us.length=ps.length->bindArgs (W.fnOf x x (fY st) (eQ st) (dR st) .none kV doc pm an cdv ct) ⟨us,[]⟩=pure (ps.zip us))
  (len:∀vs H Q E,sp vs H Q E->vs.length=ps.length)
  (hbody:∀(f:Addr) (cdv:Value) (A:Around) (outer:List Env) (s:Shared) (H:Hp) (vs:List V) (Q:VK) (E:XK),fO k (A.deeper (envOfC x (dR st) s.heap.objs.size f cdv))->sp vs H Q E->
   ∃t,uk (kD oU P w K mg base N x (dR st) f cdv A outer s H E).nox (eQ st) t/\t {nx:=λ_ H'=>Q .non H',rt:=Q} (i9 N vs) H):iU P w K mg base x (k+1) sp:=by
 obtain⟨f,fd,F,m⟩:=D.ex;exact⟨f,fd,ps,F.ok S len (hbody f),m,F.kp,F.binds hb⟩
section
variable {X:Cx}{x:Str}{k:Nat}{sp:Sp}{e:Expr}{es:List Expr}{t:TA}{p pos:Pos}
theorem sN(h:iU X.prog X.w X.K X.mg X.base x k sp)(hr:fO k X.A)(ha:PA X (e::es) t)(hg:Gl X x:=by rfl)
  (hdb:(x == ("__debug__" : Str))=false:=by decide) (he:starEach (e::es) X.env=(false,eval e X.env)::starEach es X.env:=by rfl) (hpl:(backTo pos (starEach es X.env)).any (·.1)=false:=by rfl) :
  PE X (.Call (.Name x p) (e::es) [] pos) (qM sp [] E0 t):=by
 obtain⟨f,fd,ps,F,a,b,c⟩:=h.ex;exact Be F hr hg a b c .nil yM ha hdb he hpl
end
theorem Bg{X:Cx}:kz X (binaryOp .Mult) (rI (λi j=>PySem.IntMulOk i j) λi j=>.int (i*j)):=Hi λ_ _ _ _ _ _ _ hc q=>mul_int q hc
theorem zd{X:Cx}:kz X (binaryOp .FloorDiv) (rI (λi j=>j≠0/\Builtin.divisionGoesByPylong i j=false) λi j=>.int (i.fdiv j)):=Hi λ_ _ _ _ _ _ _ hc q=>floordiv_int hc.1 q (.inl hc.2)
end L2
namespace L2
open PySem PySem.Spec PyProof.Rows
section
variable {P:Program}{w:World}{K:W.Frag}{mg:Str->Option Value}{base:Heap}{N:List Str}{qual:Str}{scope:Scope}{f:Addr}{cd:Value}{A:Around}{outer:List Env}{s₀:Shared}{H₀:Hp}{E:XK}
variable {dH:List (Addr×Obj)}{σ:St}{H:Hp}{s:Shared}
end
end L2
namespace L2
open PySem PySem.Spec PyProof.Rows PySem.W
section
variable {P:Program}{w:World}{K:W.Frag}{mg:Str->Option Value}{base:Heap}{N:List Str}{qual:Str}{scope:Scope}{f:Addr}{cd:Value}{A:Around}{outer:List Env}{s₀:Shared}{H₀:Hp}{E:XK}
end
end L2
namespace L2
open PySem PySem.Spec PyProof.Rows PySem.W PySem.Calls Builtin Builtin.ObjectAttr Builtin.Getset_descriptor
section
variable {prog:Program}{w:World}{A:Around}{E:Value->Shared->Prop}{s:Shared}{K:Frag}{x D:Addr}
end
end L2
namespace L2
open PySem PySem.Spec PyProof.Rows PySem.W PySem.Calls Builtin Builtin.ObjectAttr Builtin.Getset_descriptor
section
variable {prog:Program}{w:World}{A:Around}{E:Value->Shared->Prop}{s:Shared}{K:Frag}{x C D:Addr}
end
section
variable {X:Cx}{dH pins' pn pn':List (Addr×Obj)}{σ:St}{H H1 H':Hp}{s s1 s':Shared}{xe:Value->Shared->Prop}{ea t:Addr}{C:Value}{vs:List Value}{B h:Heap}
end
end L2
namespace L2
open PySem PySem.Spec PyProof.Rows PySem.W PySem.Calls
section
variable {X:Cx}{x:Str}{k:Nat}{sp:Sp}{e:Expr}{es:List Expr}{t:TA}{p pos:Pos}{E:XK}
end
end L2
namespace L2
open PySem PySem.Spec PyProof.Rows PySem.W
mutual
inductive DV(K:Frag)(H:Hp):V->PyData->Prop
 | non:DV K H .non .none
 | bl (b:Bool):DV K H (.bl b) (.bool b)
 | int (i:Int):DV K H (.int i) (.int i)
 | str (x:Str):DV K H (.str x) (.str x)
 | lst {a:Addr} {xs:List V} {ds:List PyData} (h:ig K H a xs) (hs:rG K H xs ds):DV K H (.ref a) (.list ds)
 | tup {a:Addr} {xs:List V} {ds:List PyData} (h:iL K H a xs) (hs:rG K H xs ds):DV K H (.ref a) (.tuple ds)
inductive rG(K:Frag)(H:Hp):List V->List PyData->Prop
 | nil:rG K H [] []
 | cons {v:V} {d:PyData} {vs:List V} {ds:List PyData} (h:DV K H v d) (hs:rG K H vs ds):rG K H (v::vs) (d::ds)
end
section
variable {X:Cx}{dH:List (Addr×Obj)}{σ:St}{H:Hp}{s:Shared}
mutual
theorem DV.reads(I:eh X dH σ H s):∀{v:V} {d:PyData} {u:Value},DV X.K H v d->fw v u->∃as,Reads s.heap u d as
 | _,_,_,.non,r=>by cases r;exact⟨_,.none⟩
 | _,_,_,.bl b,r=>by cases r;exact⟨_,.bool b⟩
 | _,_,_,.int i,r=>by obtain⟨t,rfl⟩:=r;exact⟨_,.int i t⟩
 | _,_,_,.str x,r=>by obtain⟨t,rfl⟩:=r;exact⟨_,.str x t⟩
 | _,_,_,.lst h hs,r=>by cases r;obtain⟨its,r',⟨o,n,e,hc,hd,hq⟩,_⟩:=I.list h;obtain⟨as,ra⟩:=rG.reads I hs r';exact⟨_,.list e hc hq (by simpa using ra)⟩
 | _,_,_,.tup h hs,r=>by cases r;obtain⟨its,r',⟨o,e,hc,n,hq⟩,_⟩:=I.tuple h;obtain⟨as,ra⟩:=rG.reads I hs r';exact⟨_,.tuple e hc hq (by simpa using ra)⟩
theorem rG.reads(I:eh X dH σ H s):∀{vs:List V} {ds:List PyData} {us:List Value},rG X.K H vs ds->eF vs us->∃as,ReadsAll s.heap us ds as
 | _,_,_,.nil,r=>by cases r;exact⟨_,.nil⟩
 | _,_,_,.cons h hs,r=>by
  cases r with
  | cons r1 r2=>obtain⟨as,ra⟩:=DV.reads I h r1;obtain⟨bs,rb⟩:=rG.reads I hs r2;exact⟨_,.cons ra rb⟩
end
def uO(K:Frag)(neg:Bool):R2:=λx y H Q=>∃da db,DV K H x da/\DV K H y db/\(da.canLay0=true/\db.canLay0=true/\da.depth<=100)/\Q (.bl (if neg then !PyData.eqv da db else PyData.eqv da db)) H
theorem AU(hu:X.A.units+200<cLine):kz X (compareOp .Eq) (uO X.K false):=by intro dH s σ H x y v u Q I rx ry h;obtain⟨da,db,hx,hy,⟨ca,cb,hd⟩,q⟩:=h;obtain⟨as,ra⟩:=hx.reads I rx;obtain⟨bs,rb⟩:=hy.reads I ry;exact SeqAt.eqOverData _ _ _ _ _ _ _ _ _ _ _ _ ra rb ca cb (by omega) ⟨.bl _,H,I,rfl,q⟩
theorem zj(hu:X.A.units+200<cLine):kz X (compareOp .NotEq) (uO X.K true):=by intro dH s σ H x y v u Q I rx ry h;obtain⟨da,db,hx,hy,⟨ca,cb,hd⟩,q⟩:=h;obtain⟨as,ra⟩:=hx.reads I rx;obtain⟨bs,rb⟩:=hy.reads I ry;exact SeqAt.neOverData _ _ _ _ _ _ _ _ _ _ _ _ ra rb ca cb (by omega) ⟨.bl _,H,I,rfl,q⟩
theorem GQ{A:Around}{k:Nat}(hr:fO k A):A.units+200<cLine:=by have:=hr.un;omega
end
end L2
namespace L2
open PySem PySem.Spec PyProof.Rows
theorem sS:∀{bs:List Bool} {us:List Value},eF (bs.map V.bl) us->us=bs.map Value.bool
 | [],_,.nil=>rfl
 | b::bs,u::us,.cons r t=>by have e:u=Value.bool b:=r;rw[e,sS t];rfl
theorem lW:∀{ns:LI} {us:List Value},eF (ns.map V.int) us->IntsAre us ns
 | [],_,.nil=>.nil
 | n::ns,u::us,.cons r t=>by obtain⟨tk,e⟩:=(show ∃tk,u=Value.int n tk from r);rw[e];exact .cons n tk (lW t)
theorem xT{bs:List Bool}:(List.range bs.length).all (λi=>bs.getD i false)=bs.all id:=by
 induction bs with
 | nil=>rfl
 | cons b bs ih=>rw[ay,b6,bO,b7,bO,<-ih];rfl
theorem qw{bs:List Bool}:(List.range bs.length).any (λi=>bs.getD i false)=bs.any id:=by
 induction bs with
 | nil=>rfl
 | cons b bs ih=>rw[ay,b6,bP,b8,bP,<-ih];rfl
section
variable {X:Cx}
theorem yh{prog:Program}{w:World}{A:Around}{bs:List Bool}:TruthOf prog w A (λi v=>(bs.map Value.bool).toArray[i]? = some v) (λi=>bs.getD i false):=λi v s Q E hP hQ=>by
 have e:(bs.map Value.bool)[i]? = some v:=by simpa using hP
 rw[av] at e;cases hb:bs[i]? with
 | none=>rw[hb] at e;cases e
 | some b=>
  rw[hb] at e;cases e;have:bs.getD i false=b:=by rw[af,hb];rfl
  dsimp only at hQ;rw[this] at hQ;exact ak hQ
theorem yG(hc:X.calm=true):ib X (.builtin "all") (λxs H Q=>∃(p:Addr) (bs:List Bool),xs=[.ref p]/\ig X.K H p (bs.map V.bl)/\Q (.bl (bs.all id)) H):=by
 intro dH s σ H xs us Q I r h;obtain⟨p,bs,rfl,hS,q⟩:=h;obtain⟨u,rfl,rx⟩:=ml r;cases rx;obtain⟨its,rv,pl,hz⟩:=I.list hS;have e:=sS rv;subst e;have hlt:p<s.heap.objs.size:=by obtain⟨_,e,_⟩:=pl.isList;exact aK e
 refine call_all_walk (wpAny_pyIter_list pl.isList ⟨s.heap.objs.size,_,_,_,_,_,λi=>bs.getD i false,rfl,Walks.list (A:=X.A.in1) (I.ok.hd hc) _ p (aL hlt) _,⟨⟨_,ar _ rfl,rfl,rfl⟩,pl.isList.push _⟩,yh,λh' tk hk=>?_⟩);refine⟨.bl _,H,I.kept (t':=tk) (λb o e=>hk b o ?_ (ae _ e)),rfl,?_⟩
 ·intro hm;have:=aK e;have z:b=s.heap.objs.size:=by simpa using hm
  rw[z] at this;exact aZ _ this
 ·rw[<-xT] at q;simpa using q
theorem zf(hc:X.calm=true):ib X (.builtin "sum") (λxs H Q=>∃(p:Addr) (ns:LI),xs=[.ref p]/\ig X.K H p (ns.map V.int)/\Q (.int ns.sum) H):=by intro dH s σ H xs us Q I r h;obtain⟨p,ns,rfl,hS,q⟩:=h;obtain⟨u,rfl,rx⟩:=ml r;cases rx;obtain⟨its,rv,pl,hz⟩:=I.list hS;have hi:=lW rv;obtain⟨xs,e⟩:=hi.allInts.items;have hl:=pl.isList;rw[e] at hl;refine sum_intListG (I.ok.hd hc) hl λh' tk t' hk=>⟨.int ns.sum,H,I.kept (t':=tk) hk,⟨t',?_⟩,q⟩;rw[preSum_eq,b9 (by simp),<-nums_intItems,<-e,show its.toArray.toList=its from rfl,hi.numsOf]
theorem uI:bootBuiltins "all" = some (.builtin "all"):=by decide +kernel
theorem AD:bootBuiltins "any" = some (.builtin "any"):=by decide +kernel
theorem A6:bootBuiltins "sum" = some (.builtin "sum"):=by decide +kernel
end
end L2
namespace L2
open PySem PySem.Spec PyProof.Rows
def fL(b:Bool)(h:Heap)(l:Addr)(xs:Array Value):Prop:=if b=true then h.IsTuple l xs else h.IsList l xs
def iI(b:Bool)(h:Heap)(it l:Addr)(k:Nat):Prop:=if b=true then h.IsTupleIter it l k else h.IsListIter it l k
def pz(b:Bool):String:=if b=true then "tuple_iterator" else "list_iterator"
theorem iI.look{b:Bool}{h:Heap}{it l:Addr}{k:Nat}(x:iI b h it l k):∃o,h.get? it=some o/\o.cls=.type (pz b)/\o.data=.fields #[.ref l,.int k 0]:=by
 cases b with
 | true=>exact (show h.IsTupleIter it l k from x)
 | false=>exact (show h.IsListIter it l k from x)
theorem iI.of{b:Bool}{h:Heap}{it l:Addr}{k:Nat}(x:∃o,h.get? it=some o/\o.cls=.type (pz b)/\o.data=.fields #[.ref l,.int k 0]):iI b h it l k:=by
 cases b with
 | true=>exact x
 | false=>exact x
theorem iI.to{b:Bool}{h h':Heap}{it l:Addr}{k:Nat}(x:iI b h it l k)(e:∀o,h.get? it=some o->h'.get? it=some o):iI b h' it l k:=by obtain⟨o,ho,q⟩:=x.look;exact .of ⟨o,e o ho,q⟩
theorem fL.look{b:Bool}{h:Heap}{l:Addr}{xs:Array Value}(x:fL b h l xs):∃o n,h.get? l=some o/\o.data=.seq xs n:=by
 cases b with
 | true=>obtain⟨o,ho,_,n,hd⟩:=(show h.IsTuple l xs from x);exact⟨o,n,ho,hd⟩
 | false=>obtain⟨o,ho,_,n,hd⟩:=(show h.IsList l xs from x);exact⟨o,n,ho,hd⟩
theorem fL.to{b:Bool}{h h':Heap}{l:Addr}{xs:Array Value}(x:fL b h l xs)(e:∀o,h.get? l=some o->h'.get? l=some o):fL b h' l xs:=by
 cases b with
 | true=>obtain⟨o,ho,q⟩:=(show h.IsTuple l xs from x);exact⟨o,e o ho,q⟩
 | false=>obtain⟨o,ho,q⟩:=(show h.IsList l xs from x);exact⟨o,e o ho,q⟩
section
variable {prog:Program}{w:World}{A:Around}{E:Value->Shared->Prop}{s:Shared}
theorem Ca{it l:Addr}{k:Nat}{xs:Array Value}{Q:Value->Shared->Prop}(hi:s.heap.IsTupleIter it l k)(hl:s.heap.IsTuple l xs)
  (h1:∀x h',xs[k]? = some x->h'.IsTupleIter it l (k+1)->Heap.SameBut it s.heap h'->Q x {s with heap:=h'})
  (h2:xs[k]? = none->A.handled=none/\∀h' e,Heap.ExtBut it s.heap h'->(∃o,h'.get? e=some o/\o.cls=.type "StopIteration")->E (.ref e) {s with heap:=h'}) :
  wpAny (model prog w) A (Builtin.SmallTypes.nextOf (.ref it)) Q E s:=by
 obtain⟨oi,gi,ci,di⟩:=id hi;obtain⟨ol,gl,_,n,dl⟩:=hl;unfold Builtin.SmallTypes.nextOf;refine ao (wpAny_callSpecial?_slot (name:=Str.ofString "__next__") hi.typeIs F.slot_tuple_iterator_next (wpAny_call_entry F.slot_tuple_iterator_next hi.typeIs F.entry_tuple_iterator_next ?_ (F.args_tuple_iterator_next_1 _)));show wpAny _ _ (field (.ref it) 0 >>= _) _ _ s;refine ao (wpAny_field gi di (x:=.ref l) rfl ?_);show wpAny _ _ (if (Value.ref l == Value.none)=true then _ else field (.ref it) 1 >>= _) _ _ s;have ne:(Value.ref l == Value.none)=false:=rfl;simp only[ne,bW,if_false];refine ao (wpAny_field gi di (x:=.int k 0) rfl (ao (wpAny_seqItems gl dl ?_)));cases hx:xs[k]? with
 | some x=>simp only[bI,hx];refine ao (wpAny_setField gi di (by simp) (ak ⟨x,rfl,ak (h1 x _ hx ?_ (Heap.SameBut.update ..))⟩));refine⟨_,Heap.get?_update_self _ gi (Obj.isFreed_of_fields (Obj.data_mapFields di _)),(Obj.cls_mapFields ..).trans ci,?_⟩;rw[Obj.data_mapFields di];simp[rawInt]
 | none=>obtain⟨hh,h2⟩:=h2 hx;simp only[bI,hx];refine ao (wpAny_rule (ao (wpAny_setField gi di (by simp) ?_)));show wpAny _ _ (newExc (.type "StopIteration") [] >>= _) _ _ _;simp only[newExc,newTuple];refine ao (ao (wpAny_newObj_type (ao (m:=firstArgMember _ _) (wpAny_of_eq (a:=Value.none) (by first | rfl | (simp only[firstArgMember];rfl)) (wpAny_newObj_type ?_ (by size_fits)))) (by size_fits)));simp only[raiseNew];refine ao (wpAny_handled ?_);rw[show A.in1.handled=none from hh];refine ao (ak (wpAny_throw ?_));exact h2 _ _ (((Heap.SameBut.update ..).extBut.push _).push _) ⟨_,ar _ rfl,rfl⟩
theorem pM{b:Bool}{it l:Addr}{k:Nat}{xs:Array Value}{Q:Value->Shared->Prop}(hi:iI b s.heap it l k)(hl:fL b s.heap l xs)
  (h1:∀x h',xs[k]? = some x->iI b h' it l (k+1)->Heap.SameBut it s.heap h'->Q x {s with heap:=h'})
  (h2:xs[k]? = none->A.handled=none/\∀h' e,Heap.ExtBut it s.heap h'->(∃o,h'.get? e=some o/\o.cls=.type "StopIteration")->E (.ref e) {s with heap:=h'}) :
  wpAny (model prog w) A (Builtin.SmallTypes.nextOf (.ref it)) Q E s:=by
 cases b with
 | true=>exact Ca hi hl h1 h2
 | false=>
  have hi':s.heap.IsListIter it l k:=hi;have hl':s.heap.IsList l xs:=hl;cases hx:xs[k]? with
  | some x=>exact wpAny_nextOf_list_item hi' hl' hx λh' a b=>h1 x h' hx a b
  | none=>obtain⟨hh,h2⟩:=h2 hx;exact wpAny_nextOf_list_end hh hi' hl' hx h2
theorem AJ{b1 b2:Bool}{z TI TO i1 i2 l1 l2:Addr}{k:Nat}{xs ys:Array Value}{a b:Value}{Q:Value->Shared->Prop}(D:ZipApart z TI TO i1 i2 l1 l2)
  (hz:IsZip s.heap z TI TO .none) (hTI:IsPair s.heap TI (.ref i1) (.ref i2)) (hTO:IsPair s.heap TO a b)
  (h1:iI b1 s.heap i1 l1 k) (h2:iI b2 s.heap i2 l2 k) (hl1:fL b1 s.heap l1 xs) (hl2:fL b2 s.heap l2 ys)
  (yes:∀x y h',xs[k]? = some x->ys[k]? = some y->IsZip h' z TI TO (rawInt s.heap.objs.size)->IsPair h' TO x y->iI b1 h' i1 l1 (k+1)->iI b2 h' i2 l2 (k+1)->IsPair h' s.heap.objs.size x y->h'.objs.size=s.heap.objs.size+1->
   (∀c o,c≠z->c≠TO->c≠i1->c≠i2->s.heap.get? c=some o->h'.get? c=some o)->Q (.ref s.heap.objs.size) {s with heap:=h'})
  (no:xs[k]? = none\/ys[k]? = none->A.handled=none/\∀h' e,(∀c o,c≠z->c≠TO->c≠i1->c≠i2->s.heap.get? c=some o->h'.get? c=some o)->(∃o,h'.get? e=some o/\o.cls=.type "StopIteration")->E (.ref e) {s with heap:=h'}) :
  wpAny (model prog w) A (Builtin.«zip.__next__» ⟨[.ref z],[]⟩) (λfin s'=>∃v,fin=.done (.ret v)/\Q v s') E s:=by
 have notZ:∀{h:Heap} {e:Addr} {oe:Obj} {f:Value},IsZip h z TI TO f->h.get? e=some oe->oe.cls=.type "StopIteration" ->e≠z:=λ{h e oe f} q ge ce u=>by subst u;rw[q] at ge;cases ge;simp at ce
 show wpAny _ _ (field (.ref z) 2 >>= λ_=>_) _ _ _;refine ao (wpAny_field hz rfl (x:=.bool false) rfl ?_);show wpAny _ _ (field (.ref z) 3 >>= λ_=>_) _ _ _;refine ao (wpAny_field hz rfl (x:=.ref TI) rfl (ao (wpAny_seqItems hTI rfl ?_)));show wpAny _ _ (Builtin.SmallTypes.ownedTupleIsFree (.ref z) >>= λ_=>_) _ _ _;unfold Builtin.SmallTypes.ownedTupleIsFree;refine ao (ao (wpAny_field hz rfl (x:=.none) rfl (ak ?_)));simp only[if_true];refine ao (wpAny_rule (ao (wpAny_field hz rfl (x:=.ref TO) rfl (ao (wpAny_setField_rec hz (by simp) λg1 y1 k1=>?_)))));have z1:IsZip g1 z TI TO .ellipsis:=y1;simp only[List.zipIdx_cons,List.zipIdx_nil,List.forIn_cons,List.forIn_nil];refine ao (ao (ao (wpAny_onRaise ?_)));show wpAny _ _ (Builtin.SmallTypes.nextOf (.ref i1) >>= λ_=>_) _ _ _;refine ao (pM (h1.to λo e=>k1.extBut _ _ D.i1z e) (hl1.to λo e=>k1.extBut _ _ D.l1z e) (λx g2 hx t2 k2=>ak ?_) (λhx=>⟨(no (.inl hx)).1,λg2 e k2 ⟨oe,ge,ce⟩=>?_⟩))
 ·have p2:IsPair g2 TO a b:=k2.extBut _ _ D.TOi1 (k1.extBut _ _ D.TOz hTO);refine ao (wpAny_seqItems p2 rfl (ao (wpAny_updateSeq_pair p2 λg3 q3 k3=>?_)));have p3:IsPair g3 TO x b:=q3;refine ao (wpAny_letGo (ak (ao (ao (wpAny_onRaise ?_)))));show wpAny _ _ (Builtin.SmallTypes.nextOf (.ref i2) >>= λ_=>_) _ _ _;have to3:∀c o,c≠z->c≠i1->c≠TO->s.heap.get? c=some o->g3.get? c=some o:=λc o c1 c2 c3 e=>k3.extBut _ _ c3 (k2.extBut _ _ c2 (k1.extBut _ _ c1 e));refine ao (pM (h2.to λo e=>to3 _ o D.i2z D.i12.symm D.TOi2.symm e) (hl2.to λo e=>to3 _ o D.l2z D.l2i1 D.l2TO e) (λy g4 hy t4 k4=>ak ?_) (λhy=>⟨(no (.inr hy)).1,λg4 e k4 ⟨oe,ge,ce⟩=>?_⟩))
  ·have p4:IsPair g4 TO x b:=k4.extBut _ _ D.TOi2 p3;refine ao (wpAny_seqItems p4 rfl (ao (wpAny_updateSeq_pair p4 λg5 q5 k5=>?_)));have p5:IsPair g5 TO x y:=q5;refine ao (wpAny_letGo (ak (ak (ao (wpAny_seqItems p5 rfl (ao (wpAny_newTuple ?_)))))));have sz:g5.objs.size=s.heap.objs.size:=by rw[k5.1,k4.1,k3.1,k2.1,k1.1]
   have z5:IsZip g5 z TI TO .ellipsis:=k5.extBut _ _ D.TOz.symm (k4.extBut _ _ D.i2z.symm (k3.extBut _ _ D.TOz.symm (k2.extBut _ _ D.i1z.symm z1)));have to5:∀c o,c≠z->c≠TO->c≠i1->c≠i2->s.heap.get? c=some o->g5.get? c=some o:=λc o c1 c2 c3 c4 e=>k5.extBut _ _ c2 (k4.extBut _ _ c4 (to3 c o c1 c3 c2 e));show wpAny _ _ (Builtin.SmallTypes.ownedTupleHandOut (.ref z) (.ref g5.objs.size) >>= λ_=>_) _ _ _;unfold Builtin.SmallTypes.ownedTupleHandOut;refine ao (ao (wpAny_setField_rec (show IsZip (g5.push {cls:=.type "tuple",data:=.seq #[x,y]}) z TI TO .ellipsis from ae _ z5) (by simp) λg7 y7 k7=>?_));have z7:IsZip g7 z TI TO (rawInt g5.objs.size):=y7;refine wpAny_setField_rec z7 (by simp) λg8 y8 k8=>?_;have z8:IsZip g8 z TI TO (rawInt g5.objs.size):=y8;have up:∀c o,c≠z->(g5.push {cls:=.type "tuple",data:=.seq #[x,y]}).get? c=some o->g8.get? c=some o:=λc o c1 e=>k8.extBut _ _ c1 (k7.extBut _ _ c1 e);have up5:∀c o,c≠z->g5.get? c=some o->g8.get? c=some o:=λc o c1 e=>up c o c1 (ae _ e);have p8:IsPair g8 g5.objs.size x y:=up _ _ (bp (aK z5)) (ar _ rfl);have s8:g8.objs.size=g5.objs.size+1:=by rw[k8.1,k7.1,Heap.size_push]
   rw[sz] at z8 p8 s8;refine ak ⟨_,rfl,?_⟩;show Q (.ref g5.objs.size) {s with heap:=g8};rw[sz];have e1:iI b1 g8 i1 l1 (k+1):=t2.to λo e=>up5 _ o D.i1z (k5.extBut _ _ D.TOi1.symm (k4.extBut _ _ D.i12 (k3.extBut _ _ D.TOi1.symm e)));have e2:iI b2 g8 i2 l2 (k+1):=t4.to λo e=>up5 _ o D.i2z (k5.extBut _ _ D.TOi2.symm e);exact yes x y g8 hx hy z8 (up5 _ _ D.TOz p5) e1 e2 p8 s8 λc o c1 c2 c3 c4 e=>up5 c o c1 (to5 c o c1 c2 c3 c4 e)
  ·have z4:IsZip g4 z TI TO .ellipsis:=k4 _ _ D.i2z.symm (k3.extBut _ _ D.TOz.symm (k2.extBut _ _ D.i1z.symm z1));refine wpAny_setField_rec z4 (by simp) λg5 _ k5=>(no (.inr hy)).2 g5 e (λc o c1 c2 c3 c4 q=>k5.extBut _ _ c1 (k4 _ _ c4 (to3 c o c1 c3 c2 q))) ⟨oe,k5.extBut _ _ (notZ z4 ge ce) ge,ce⟩
 ·have z2:IsZip g2 z TI TO .ellipsis:=k2 _ _ D.i1z.symm z1;refine wpAny_setField_rec z2 (by simp) λg3 _ k3=>(no (.inl hx)).2 g3 e (λc o c1 c2 c3 c4 q=>k3.extBut _ _ c1 (k2 _ _ c3 (k1.extBut _ _ c1 q))) ⟨oe,k3.extBut _ _ (notZ z2 ge ce) ge,ce⟩
theorem tJ{b1 b2:Bool}{z TI TO i1 i2 l1 l2:Addr}{k:Nat}{xs ys:Array Value}{a b:Value}{Q:Option Value->Shared->Prop}(D:ZipApart z TI TO i1 i2 l1 l2)
  (hz:IsZip s.heap z TI TO .none) (hTI:IsPair s.heap TI (.ref i1) (.ref i2)) (hTO:IsPair s.heap TO a b)
  (h1:iI b1 s.heap i1 l1 k) (h2:iI b2 s.heap i2 l2 k) (hl1:fL b1 s.heap l1 xs) (hl2:fL b2 s.heap l2 ys)
  (yes:∀x y h',xs[k]? = some x->ys[k]? = some y->IsZip h' z TI TO (rawInt s.heap.objs.size)->IsPair h' TO x y->iI b1 h' i1 l1 (k+1)->iI b2 h' i2 l2 (k+1)->IsPair h' s.heap.objs.size x y->h'.objs.size=s.heap.objs.size+1->
   (∀c o,c≠z->c≠TO->c≠i1->c≠i2->s.heap.get? c=some o->h'.get? c=some o)->Q (some (.ref s.heap.objs.size)) {s with heap:=h'})
  (no:xs[k]? = none\/ys[k]? = none->A.handled=none/\∀h',(∀c o,c≠z->c≠TO->c≠i1->c≠i2->s.heap.get? c=some o->h'.get? c=some o)->Q none {s with heap:=h'}) :
  wpAny (model prog w) A (pyNext (.ref z)) Q E s:=by
 have ty:s.TypeIs (.ref z) "zip" :=⟨_,hz,rfl⟩;unfold pyNext;refine ao (wpAny_attempt (wpAny_callSpecial?_slot (name:=Str.ofString "__next__") ty F.slot_zip_next (wpAny_call_entry F.slot_zip_next ty F.entry_zip_next
  (AJ D hz hTI hTO h1 h2 hl1 hl2 (λx y h' u1 u2 u3 u4 u5 u6 u7 u8 u9=>ak (yes x y h' u1 u2 u3 u4 u5 u6 u7 u8 u9)) λq=>⟨(no q).1,λh' e hk ⟨o,ho,hc⟩=>?_⟩) (F.args_zip_next_1 _))))
 exact ao (wpAny_isInstance (T:= "StopIteration") (b:=true) ⟨o,ho,hc⟩ isSubtype_stop (ak ((no q).2 h' hk)))
theorem jT{b:Bool}{l:Addr}{xs:Array Value}{Q:Value->Shared->Prop}(hl:fL b s.heap l xs)
  (h:Q (.ref s.heap.objs.size) {s with heap:=s.heap.push {cls:=.type (pz b),data:=.fields #[.ref l,.int 0 0]}}):wpAny (model prog w) A (pyIter (.ref l)) Q E s:=by
 cases b with
 | true=>exact wpAny_pyIter_tuple (show s.heap.IsTuple l xs from hl) h
 | false=>exact wpAny_pyIter_list (show s.heap.IsList l xs from hl) h
end
abbrev zo(b:Bool)(l:Addr):Obj:={cls:=.type (pz b),data:=.fields #[.ref l,.int 0 0]}
abbrev zt(x y:Value):Obj:={cls:=.type "tuple",data:=.seq #[x,y]}
abbrev zz(p q:Addr):Obj:={cls:=.type "zip",data:=.fields #[.none,.bool false,.bool false,.ref p,.ref q]}
abbrev rQ(b1 b2:Bool)(h:Heap)(l1 l2:Addr):Heap:=
 ((((h.push (zo b1 l1)).push (zo b2 l2)).push (zt (.ref h.objs.size) (.ref (h.push (zo b1 l1)).objs.size))).push (zt .none .none)).push
  (zz ((h.push (zo b1 l1)).push (zo b2 l2)).objs.size (((h.push (zo b1 l1)).push (zo b2 l2)).push (zt (.ref h.objs.size) (.ref (h.push (zo b1 l1)).objs.size))).objs.size)
section
variable {prog:Program}{w:World}{A:Around}{E:Value->Shared->Prop}{s:Shared}
theorem xx(b1 b2:Bool)(l1 l2:Addr)(xs ys:Array Value):Meets (Builtin.«zip.__new__» ⟨[.type "zip",.ref l1,.ref l2],[]⟩) (λ_ R s=>fL b1 s.heap l1 xs/\fL b2 s.heap l2 ys/\
  R (.ok (.ret (.ref ((((s.heap.push (zo b1 l1)).push (zo b2 l2)).push (zt (.ref s.heap.objs.size) (.ref (s.heap.push (zo b1 l1)).objs.size))).push (zt .none .none)).objs.size))) {s with heap:=rQ b1 b2 s.heap l1 l2}):=by
 refine .of_wp λprog w A R s h=>?_;obtain⟨hp,g,d,tk,os⟩:=s;obtain⟨a1,a2,hR⟩:=h;have sz:=sub_zip;have q1:fL b1 (Shared.heap ⟨hp,g,d,tk,os⟩) l1 xs:=a1;have q2:fL b2 (Shared.heap ⟨hp.push (zo b1 l1),g,d,tk,os⟩) l2 ys:=a2.to λo e=>ae _ e;wp_walk using jT q1,jT q2;exact⟨_,rfl,hR⟩
theorem A4{b1 b2:Bool}{l1 l2:Addr}{xs ys:Array Value}{Q:Value->Shared->Prop}(hl1:fL b1 s.heap l1 xs)(hl2:fL b2 s.heap l2 ys)
  (h:∀h',IsZip h' (s.heap.objs.size+4) (s.heap.objs.size+2) (s.heap.objs.size+3) .none->IsPair h' (s.heap.objs.size+2) (.ref s.heap.objs.size) (.ref (s.heap.objs.size+1))->IsPair h' (s.heap.objs.size+3) .none .none->
   iI b1 h' s.heap.objs.size l1 0->iI b2 h' (s.heap.objs.size+1) l2 0->h'.objs.size=s.heap.objs.size+5->(∀c o,s.heap.get? c=some o->h'.get? c=some o)->Q (.ref (s.heap.objs.size+4)) {s with heap:=h'}) :
  wpAny (model prog w) A (call (.type "zip") [.ref l1,.ref l2]) Q E s:=by
 refine callType_new F.called_zip (by decide) (F.typeCall_zip_2 _ _) (F.newCall_zip_2 _ _) (λobj=>F.args_object_init_3 obj _ _) F.entry_zip_new (xx b1 b2 l1 l2 xs ys) ⟨hl1,hl2,?_⟩;generalize hn:s.heap.objs.size=n at *;have n1:(s.heap.push (zo b1 l1)).objs.size=n+1:=by rw[Heap.size_push,hn]
 have n2:((s.heap.push (zo b1 l1)).push (zo b2 l2)).objs.size=n+2:=by rw[Heap.size_push,n1]
 generalize hg2:(s.heap.push (zo b1 l1)).push (zo b2 l2)=g2 at *;have k2:∀c o,s.heap.get? c=some o->g2.get? c=some o:=λc o e=>by rw[<-hg2];exact ae _ (ae _ e)
 have t1:g2.get? n=some (zo b1 l1):=by rw[<-hg2,<-hn];exact ae _ (ar _ rfl)
 have t2:g2.get? (n+1)=some (zo b2 l2):=by rw[<-hg2,<-n1];exact ar _ rfl
 have n3:(g2.push (zt (.ref n) (.ref (n+1)))).objs.size=n+3:=by rw[Heap.size_push,n2]
 have n4:((g2.push (zt (.ref n) (.ref (n+1)))).push (zt .none .none)).objs.size=n+4:=by rw[Heap.size_push,n3]
 have eH:rQ b1 b2 s.heap l1 l2=((g2.push (zt (.ref n) (.ref (n+1)))).push (zt .none .none)).push (zz (n+2) (n+3)):=by unfold rQ;rw[hn,n1,hg2,n2,n3]
 rw[eH,n1,n4];have p3:(g2.push (zt (.ref n) (.ref (n+1)))).get? (n+2)=some (zt (.ref n) (.ref (n+1))):=by rw[<-n2];exact ar _ rfl
 have p4:((g2.push (zt (.ref n) (.ref (n+1)))).push (zt .none .none)).get? (n+3)=some (zt .none .none):=by rw[<-n3];exact ar _ rfl
 have p5:(((g2.push (zt (.ref n) (.ref (n+1)))).push (zt .none .none)).push (zz (n+2) (n+3))).get? (n+4)=some (zz (n+2) (n+3)):=by rw[<-n4];exact ar _ rfl
 have up:∀c o,g2.get? c=some o->(((g2.push (zt (.ref n) (.ref (n+1)))).push (zt .none .none)).push (zz (n+2) (n+3))).get? c=some o:=λc o e=>ae _ (ae _ (ae _ e));exact⟨⟨_,p5,rfl⟩,h _ p5 (ae _ (ae _ p3)) (ae _ p4) (.of ⟨_,up _ _ t1,rfl,rfl⟩) (.of ⟨_,up _ _ t2,rfl,rfl⟩) (by rw[Heap.size_push,n4]) λc o e=>up c o (k2 c o e)⟩
end
end L2
namespace L2
open PySem PySem.Spec PyProof.Rows
theorem eh.turnedL{X:Cx}{dH:List (Addr×Obj)}{σ:St}{H:Hp}{s:Shared}{h':Heap}{t':Nat}{ch:List Addr}(I:eh X dH σ H s)(k:∀b o,b∉ch->s.heap.get? b=some o->h'.get? b=some o)(hf:∀b∈ch,nX X dH H b) :
  eh X dH σ H {s with heap:=h',toks:=t'}:=by
 have nit:∀b u,H b=some u->b∉ch:=λb u e z=>by rw[(hf b z).1] at e;cases e
 refine I.step (g':=s.gens) (d':=s.drawn) (ch:=ch) (λb hb=>let ⟨_,f1,_,f3,f4,f5⟩:=hf b hb;⟨f3,f1,f4,f5⟩) (λb o _ _ hc e _=>k b o hc e) (λb o _ _ hc e _=>⟨o.slots,k b o hc e⟩) (λ_ _ _ _ n=>n)
  (λb o hc e=>⟨o,k b o hc e⟩) (λ_ _ e=>e) (λ_ _ _ e=>e) (λb ps e=>⟨#[],by rw[e];simp⟩) (λm hm=>?_) (λb u e=>?_) I.bare
 ·obtain⟨o,es,ep,ho,r⟩:=hm;exact⟨o,es,ep,k _ o (λz=>(hf _ z).2.1 rfl) ho,r⟩
 ·refine (I.hok b u e).stay (λc v hc q=>k c v ?_ q) (λ_ q=>q) λ_ _ q=>q;rcases hc with z | z
  ·rw[z];exact nit b u e
  ·exact nit c _ z
def pT(K:W.Frag)(H:Hp)(b:Bool)(a:Addr)(xs:List V):Prop:=if b=true then iL K H a xs else ig K H a xs
theorem eh.seqB{X:Cx}{dH:List (Addr×Obj)}{σ:St}{H:Hp}{s:Shared}{b:Bool}{a:Addr}{xs:List V}(I:eh X dH σ H s)(h:pT X.K H b a xs):∃its:List Value,eF xs its/\fL b s.heap a its.toArray/\xs.length<=sizeLine:=by
 cases b with
 | true=>obtain⟨its,r,p,z⟩:=I.tuple (show iL X.K H a xs from h);exact⟨its,r,p,z⟩
 | false=>obtain⟨its,r,p,z⟩:=I.list (show ig X.K H a xs from h);exact⟨its,r,p.isList,z⟩
theorem eh.seqB_inj{X:Cx}{dH:List (Addr×Obj)}{σ:St}{H:Hp}{s:Shared}{b:Bool}{a:Addr}{xs ys:List V}(I:eh X dH σ H s)(h:pT X.K H b a xs)(h':pT X.K H b a ys):xs=ys:=by
 cases b with
 | true=>exact I.tuple_inj h h'
 | false=>exact I.list_inj h h'
def HI(K:W.Frag)(b1 b2:Bool)(l1 l2:Addr):It:=
  ⟨λi H=>∃xs ys x y,pT K H b1 l1 xs/\pT K H b2 l2 ys/\xs[i]? = some x/\ys[i]? = some y,
   λi H v H'=>∃p x y,v=.ref p/\H p=none/\H'=gC H p (.tup [x,y])/\(∀xs,pT K H b1 l1 xs->xs[i]? = some x)/\∀ys,pT K H b2 l2 ys->ys[i]? = some y,
   λi H=>∃xs ys,pT K H b1 l1 xs/\pT K H b2 l2 ys/\(xs.length<=i\/ys.length<=i)⟩
theorem zS{P:Program}{w:World}{K:W.Frag}{elts:List Expr}{x1}{pos:Pos}{b1 b2:Bool}{z TI TO i1 i2 l1 l2:Addr}(D:ZipApart z TI TO i1 i2 l1 l2) :
  vx P w K (.Tuple elts x1 pos) (HI K b1 b2 l1 l2) [z,TI,TO,i1,i2] z (λi h=>IsZip h z TI TO .none/\IsPair h TI (.ref i1) (.ref i2)/\(∃a b,IsPair h TO a b)/\iI b1 h i1 l1 i/\iI b2 h i2 l2 i) where
 mem:=by simp
 obj:=λi h st b hb=>by
  obtain⟨hz,hTI,⟨a,c,hTO⟩,h1,h2⟩:=st;have mem:b=z\/b=TI\/b=TO\/b=i1\/b=i2:=by simpa using hb
  rcases mem with rfl | rfl | rfl | rfl | rfl
  ·exact⟨_,hz,λv q=>by cases q⟩
  ·exact⟨_,hTI,λv q=>by cases q⟩
  ·exact⟨_,hTO,λv q=>by cases q⟩
  ·obtain⟨o,e,_,d⟩:=h1.look;exact⟨o,e,λv q=>by rw[d] at q;cases q⟩
  ·obtain⟨o,e,_,d⟩:=h2.look;exact⟨o,e,λv q=>by rw[d] at q;cases q⟩
 keep:=λi h h' st k=>by obtain⟨hz,hTI,⟨a,c,hTO⟩,h1,h2⟩:=st;exact⟨k z (by simp) _ hz,k TI (by simp) _ hTI,⟨a,c,k TO (by simp) _ hTO⟩,h1.to λo e=>k i1 (by simp) o e,h2.to λo e=>k i2 (by simp) o e⟩
 item:=by
  intro X hP hw hK hc i dH s σ H E I hf st hg;subst hP hw hK;obtain⟨hz,hTI,⟨a,c,hTO⟩,h1,h2⟩:=st;obtain⟨xs,ys,x,y,q1,q2,e1,e2⟩:=hg;obtain⟨us,r1,p1,z1⟩:=I.seqB q1;obtain⟨vs,r2,p2,z2⟩:=I.seqB q2;obtain⟨u,gu,ru⟩:=r1.get e1;obtain⟨v,gv,rv⟩:=r2.get e2;have FT:=I.fpOk (b:=s.heap.objs.size) (aJ _) (I.hok.fresh (aJ _));refine tJ D hz hTI hTO h1 h2 p1 p2 (λu' v' h' gu' gv' a1 a2 a3 a4 a5 a6 hk=>?_) λq=>?_
  ·have eu:u'=u:=by
    have:us[i]? = some u':=by simpa using gu'
    rw[gu] at this;cases this;rfl
   have ev:v'=v:=by
    have:vs[i]? = some v':=by simpa using gv'
    rw[gv] at this;cases this;rfl
   subst eu;subst ev;refine⟨_,rfl,wpAny_letOwnedTupleGo_zip a1 λh'' hz'' sb=>?_⟩;have zT:s.heap.objs.size≠z:=bp (aK hz);have I1:eh X dH σ H {s with heap:=h''}:=I.turnedL (t':=s.toks) (ch:=[z,TO,i1,i2]) (λb o hb e=>sb.extBut _ _ (λq=>hb (by simp[q])) (hk b o (λq=>hb (by simp[q])) (λq=>hb (by simp[q])) (λq=>hb (by simp[q])) (λq=>hb (by simp[q])) e))
    (λb hb=>hf b (by
     have mem:b=z\/b=TO\/b=i1\/b=i2:=by simpa using hb
     rcases mem with rfl | rfl | rfl | rfl<;>simp))
   have gT:h''.get? s.heap.objs.size=some {cls:=.type "tuple",data:=.seq #[u',v']}:=sb.extBut _ _ zT a5;have I2:eh X dH σ (gC H s.heap.objs.size (.tup [x,y])) {s with heap:=h''}:=I1.track FT.1 FT.2.2.2.1 FT.2.1 FT.2.2.2.2.1 FT.2.2.2.2.2
    ⟨by show 2<=sizeLine;decide,[u',v'],.cons ru (.cons rv .nil),⟨_,gT,rfl,_,rfl⟩⟩
   have lt:∀{b o},s.heap.get? b=some o->gC H s.heap.objs.size (.tup [x,y]) b=H b:=λ{b o} e=>ei (aL (aK e));refine⟨.ref s.heap.objs.size,_,I2,rfl,⟨_,x,y,rfl,FT.1,rfl,λxs' h=>by rw[I.seqB_inj h q1];exact e1,λys' h=>by rw[I.seqB_inj h q2];exact e2⟩,?_,λb hb=>?_⟩
   ·have k2:∀c o,c≠z->h'.get? c=some o->h''.get? c=some o:=λc o c1 e=>sb.extBut _ _ c1 e;exact⟨hz'',k2 _ _ D.TIz (hk _ _ D.TIz D.TITO D.TIi1 D.TIi2 hTI),⟨_,_,k2 _ _ D.TOz a2⟩,a3.to λo e=>k2 _ o D.i1z e,a4.to λo e=>k2 _ o D.i2z e⟩
   ·have mem:b=z\/b=TI\/b=TO\/b=i1\/b=i2:=by simpa using hb
    have hn:=(hf b hb).1;obtain⟨o1,g1,_⟩:=h1.look;obtain⟨o2,g2,_⟩:=h2.look;rcases mem with rfl | rfl | rfl | rfl | rfl
    ·rw[lt hz];exact hn
    ·rw[lt hTI];exact hn
    ·rw[lt hTO];exact hn
    ·rw[lt g1];exact hn
    ·rw[lt g2];exact hn
  ·exfalso;have m1:us.toArray[i]? = some u:=by simpa using gu
   have m2:vs.toArray[i]? = some v:=by simpa using gv
   rcases q with q | q
   ·rw[m1] at q;cases q
   ·rw[m2] at q;cases q
 done:=by
  intro X hP hw hK hc i dH s σ H E I hf st hg;subst hP hw hK;obtain⟨hz,hTI,⟨a,c,hTO⟩,h1,h2⟩:=st;obtain⟨xs,ys,q1,q2,hl⟩:=hg;obtain⟨us,r1,p1,z1⟩:=I.seqB q1;obtain⟨vs,r2,p2,z2⟩:=I.seqB q2;have n1:=r1.length;have n2:=r2.length;have fpc:∀b∈[z,TO,i1,i2],nX X dH H b:=λb hb=>hf b (by
   have mem:b=z\/b=TO\/b=i1\/b=i2:=by simpa using hb
   rcases mem with rfl | rfl | rfl | rfl<;>simp)
  refine tJ D hz hTI hTO h1 h2 p1 p2 (λu' v' h' gu' gv' a1 a2 a3 a4 a5 a6 hk=>?_) λq=>⟨I.ok.hd hc,λh' hk=>⟨rfl,I.turnedL (t':=s.toks) (ch:=[z,TO,i1,i2]) (λb o hb e=>hk b o (λq=>hb (by simp[q])) (λq=>hb (by simp[q])) (λq=>hb (by simp[q])) (λq=>hb (by simp[q])) e) fpc⟩⟩;exfalso;have m1:i<us.length:=by
   have:us[i]? = some u':=by simpa using gu'
   exact (aa.mp this).1
  have m2:i<vs.length:=by
   have:vs[i]? = some v':=by simpa using gv'
   exact (aa.mp this).1
  omega
 self:=λ_ _ _ _ _ st h=>wpAny_pyIter_zip st.1 h
theorem Fk:bootBuiltins "zip" = some (.type "zip"):=by decide +kernel
section
variable {X:Cx}
def DG(K:W.Frag)(b1 b2:Bool)(ta:TA):TI:=λσ H R=>ta σ H λvs H1=>∃l1 l2,vs=[.ref l1,.ref l2]/\(∃xs,pT K H1 b1 l1 xs)/\(∃ys,pT K H1 b2 l2 ys)/\R (HI K b1 b2 l1 l2) H1
theorem Fe{b1 b2:Bool}{elts:List Expr}{x1}{tpos:Pos}{a b:Expr}{ta:TA}{p pos:Pos}(hg:Gl X "zip")(hm:X.mg "zip" = none)(ha:PA X [a,b] ta)(hs:starEach [a,b] X.env=[(false,eval a X.env),(false,eval b X.env)]:=by rfl)
  (hs2:starEach [b] X.env=[(false,eval b X.env)]:=by rfl):PI X (.Tuple elts x1 tpos) (.Call (.Name "zip" p) [a,b] [] pos) (DG X.K b1 b2 ta):=by
 intro dH s σ H R I h;refine Call_ (kl I hg hm Fk (PyProof.Rows.callWith_type1 (gp (ha pos dH s σ H _ I h) λus s1 ⟨vs,H1,I1,r1,q1⟩=>?_) (by rw[hs,hs2]) (by rw[hs2];rfl)));obtain⟨l1,l2,rfl,⟨xs,q1⟩,⟨ys,q2⟩,q⟩:=q1;obtain⟨u1,u2,rfl,e1,e2⟩:=Do r1;cases e1;cases e2;obtain⟨us,rv1,p1,_⟩:=I1.seqB q1;obtain⟨ws,rv2,p2,_⟩:=I1.seqB q2;have lt1:l1<s1.heap.objs.size:=by obtain⟨o,n,e,_⟩:=p1.look;exact aK e
 have lt2:l2<s1.heap.objs.size:=by obtain⟨o,n,e,_⟩:=p2.look;exact aK e
 refine A4 p1 p2 λh' hz hTI hTO i1 i2 hsz hk=>?_;refine wpAny_pyIter_zip hz ?_;refine⟨_,_,_,_,H1,rfl,I1.kept (t':=s1.toks) hk,zS (zipApart_new lt1 lt2),⟨hz,hTI,⟨_,_,hTO⟩,i1,i2⟩,λb hb=>?_,q⟩;have mem:b=s1.heap.objs.size+4\/b=s1.heap.objs.size+2\/b=s1.heap.objs.size+3\/b=s1.heap.objs.size\/b=s1.heap.objs.size+1:=by simpa using hb
 have ge:s1.heap.objs.size<=b:=by rcases mem with rfl | rfl | rfl | rfl | rfl<;>omega
 exact I1.fpOk ge (I1.hok.fresh ge)
end
end L2
namespace L2
open PySem PySem.Spec PyProof.Rows
theorem nr{H:Hp}{p:Addr}{o:HO}(h:H p=none):eB H (gC H p o):=λb u e=>by rw[ei (eG e h)];exact e
theorem eB.seqT{K:W.Frag}{H H':Hp}{a:Addr}{xs:List V}(e:eB H H')(h:iL K H a xs):iL K H' a xs:=by
 rcases h with (h | ⟨o,h⟩) | h
 ·exact .inl (.inl (e _ _ h))
 ·exact .inl (.inr ⟨o,e _ _ h⟩)
 ·exact .inr h
def rN(N0:List Str)(sc0 scope:Scope)(N:List Str)(ix:List (Option Nat)):Bool:=
 scope.kind == .function&&scope.names.all (λy=>!(y.2 == NameKind.cell)||scope.names.lookup y.1 == some .cell)&&scope.names.all (λy=>!(y.2 == NameKind.local)||scope.names.lookup y.1 == some .local) &&
 scope.names.all (λy=>!(y.2 == NameKind.free)||sc0.names.lookup y.1 == some .cell)&&N.length == ix.length &&
 (List.range N.length).all (λi=>match ix[i]?,N[i]? with
  | some (some j),some x=>N0[j]? == some x&&scope.names.lookup x == some .free&&sc0.names.lookup x == some .cell
  | _,_=>true)
theorem GG{X:Cx}{scope:Scope}{N:List Str}{ix:List (Option Nat)}(hX:∀x,X.env.scope.names.lookup x=some .cell->∃c,X.env.cells.lookup x=some c)(h:rN X.N X.env.scope scope N ix=true):t5 X scope N ix:=by
 unfold rN at h;simp only[bM] at h;obtain⟨⟨⟨⟨⟨h1,h2⟩,h3⟩,h4⟩,h5⟩,h6⟩:=h;refine⟨by simpa using h1,λy hy e=>?_,λy hy e=>?_,λy hy e=>?_,by simpa using h5,λi j x e1 e2=>?_⟩
 ·have:=cf.mp h2 y hy;rw[e] at this;simpa using this
 ·have:=cf.mp h3 y hy;rw[e] at this;simpa using this
 ·have:=cf.mp h4 y hy;rw[e] at this;exact hX _ (by simpa using this)
 ·have hi:i<N.length:=(aa.mp e1).1;have:=cf.mp h6 i (aR.mpr hi);rw[e1,e2] at this;simp only[bM,beq_iff_eq] at this;obtain⟨⟨a,b⟩,c⟩:=this;exact⟨a,b,.inr (.inl c),λz=>by have z':X.env.scope.names.lookup x=some .local:=z;rw[c] at z';cases z'⟩
theorem Aa{X:Cx}{scope:Scope}{N:List Str}{ix:List (Option Nat)}{C:Addr}{s₃:Shared}{H:Hp}{ex:List Addr}{pn:List (Addr×Obj)}(L:t5 X scope N ix):∀x,(jh X N scope C s₃ H ex pn).env.scope.names.lookup x=some .cell->∃c,(jh X N scope C s₃ H ex pn).env.cells.lookup x=some c:=λx hx=>by
 refine bF.mp (W.cellsFrom_some _ _ _ ?_);rcases mE (.inl hx) with hm | hm
 ·exact .inr (bF.mpr (j2 hm (L.fre _ hm rfl)))
 ·exact .inl hm
theorem pH{K:W.Frag}{ix:List (Option Nat)}{k l:Nat}(hk:ix[k]? = some none)(hl:ix[l]? = some none):ke ix (xR K 2 (pB (gB k) (pB (gB l) xo))):=by
 rintro x σ1 H Q ⟨a,xs,e1,hq,hn,v,r,e2,v',r',e3,e4,q⟩;refine⟨a,xs,e1,hq,hn,v,r,e2,v',r',e3,e4,λi j e=>?_,q⟩;have n1:k≠i:=by rintro rfl;rw[hk] at e;cases e
 have n2:l≠i:=by rintro rfl;rw[hl] at e;cases e
 rw[aq n2,aq n1]
section
variable {ix:List (Option Nat)}{g:TG}{tt:TT}{te:TE}{σ:St}{Q:VK}{H1:Hp}{J:It}
end
section
variable {ix:List (Option Nat)}{g:TG}{te:TE}{σ:St}{Q:VK}{H1:Hp}{K:W.Frag}
end
end L2
namespace L2
open PySem PySem.Spec PyProof.Rows
section
variable {X:Cx}
end
end L2
namespace L2
open PySem PySem.Spec PyProof.Rows
section
variable {X:Cx}{K:W.Frag}
end
end L2
namespace L2
open PySem PySem.Spec PyProof.Rows
structure gU(K:W.Frag)(C:Addr)(m qual:Str)(st:Stmt):Prop where
 ex:∃f fd,A9 K m qual st f fd/\BH K C m f
structure iA(P:Program)(w:World)(K:W.Frag)(mg:Str->Option Value)(base:Heap)(C:Addr)(m:Str)(k:Nat)(sp:Sp):Prop where
 cl:qB K C
 ex:∃f fd ps,jB P w K mg base oU k f fd ps sp/\BH K C m f/\kM K fd ps []
theorem wz{P:Program}{w:World}{K:W.Frag}{mg:Str->Option Value}{base:Heap}{C:Addr}{m qual:Str}{st:Stmt}{N ps:List Str}{k:Nat}{sp:Sp}(cl:qB K C)(D:gU K C m qual st)(S:fS N ps (dR st))
  (hb:∀(kV doc pm:Value) (an:Option Addr) (cdv ct:Value) (us:List Value),us.length=ps.length->bindArgs (W.fnOf m qual (fY st) (eQ st) (dR st) .none kV doc pm an cdv ct) ⟨us,[]⟩=pure (ps.zip us))
  (len:∀vs H Q E,sp vs H Q E->vs.length=ps.length)
  (hbody:∀(f:Addr) (cdv:Value) (A:Around) (outer:List Env) (s:Shared) (H:Hp) (vs:List V) (Q:VK) (E:XK),fO k (A.deeper (envOfC qual (dR st) s.heap.objs.size f cdv))->sp vs H Q E->
   ∃t,uk (kD oU P w K mg base N qual (dR st) f cdv A outer s H E).nox (eQ st) t/\t {nx:=λ_ H'=>Q .non H',rt:=Q} (i9 N vs) H):iA P w K mg base C m (k+1) sp:=by
 obtain⟨f,fd,F,m⟩:=D.ex;exact⟨cl,f,fd,ps,F.ok S len (hbody f),m,F.binds hb⟩
structure xn(P:Program)(w:World)(K:W.Frag)(mg:Str->Option Value)(base:Heap)(x:Str)(C:Addr)(k:Nat)(sp:Sp):Prop where
 ex:∃f fd ps,jB P w K mg base oU k f fd ps sp/\Mk K C f/\kM K fd ps []
 mgx:mg x=some (.ref C)
section
variable {X:Cx}{x m:Str}{C:Addr}{k:Nat}{sp:Sp}{e o:Expr}{es:List Expr}{t:TA}{ta:TE}{p pos apos:Pos}
theorem G5(h:xn X.prog X.w X.K X.mg X.base x C k sp)(hr:fO (k+1) X.A)(ha:PA X (e::es) t)(hg:Gl X x:=by rfl)
  (hdb:(x == ("__debug__" : Str))=false:=by decide) (he:starEach (e::es) X.env=(false,eval e X.env)::starEach es X.env:=by rfl) (hpl:(backTo pos (starEach es X.env)).any (·.1)=false:=by rfl) :
  PE X (.Call (.Name x p) (e::es) [] pos) (wR C sp [] E0 t):=by
 obtain⟨f,fd,ps,F,a,b⟩:=h.ex;exact Ck a F hr hg h.mgx b .nil yM ha hdb he hpl
theorem yJ{pl:Sem Bool}(h:iA X.prog X.w X.K X.mg X.base C m k sp)(hr:fO k X.A)(ho:PE X o ta)
  (ht:eval (.Call (.Attribute o m apos) [] [] pos) X.env=(do
   let ov <-eval o X.env
   standAt apos.atName
   let (f,first) <-holding [ov] (getMethod ov m pl)
   callWith pos f first (backTo pos (starEach [] X.env)) (backToKw pos (keywordEach [] X.env))):=by rfl) :
  PE X (.Call (.Attribute o m apos) [] [] pos) (qA C m sp [] E0 ta qg):=by
 obtain⟨f,fd,ps,F,a,b⟩:=h.ex;exact Ad ho h.cl a F hr b .nil yM ht
end
end L2
namespace L2
end L2
namespace L2
end L2
namespace L2
end L2
namespace L2
open PySem PySem.Spec PyProof.Rows
theorem zF{X:Cx}{tg elt iter:Expr}{ifs:List Expr}{scope:Scope}{pos spos py:Pos}{N:List Str}{ix:List (Option Nat)}{wi:TI}{g:TG}{tt:TT}{te:TE}{i:Nat}{y:Str}(hN:X.N.Nodup)(hy:X.N[i]? = some y)(hx:xI X.env.scope y)
  (hc:X.calm=true) (hi:PI X tg iter wi) (L:t5 X scope N ix) (hgk:ke ix g)
  (blk:∀C s₃ H ex pn,PG (jh X N scope C s₃ H ex pn) tg g/\xF (jh X N scope C s₃ H ex pn) ifs tt/\PE (jh X N scope C s₃ H ex pn) elt te)
  (hf:X.fn y=true\/X.env.scope.names.lookup y=some .local:=by first | exact .inl rfl | exact .inr rfl)
  (hsw:swapsWith (.ListComp elt [⟨tg,iter,ifs,0⟩] scope pos) (some (.Name y py)) spos.line X.env=pure true:=by rfl)
  (hs:∀x,foldedSetIterable iter X.env x=pure x:=by intro _;rfl):PS X (.Assign [.Name y py] (.ListComp elt [⟨tg,iter,ifs,0⟩] scope pos) spos) (ki (zG ix wi g tt te) (gB i)):=by
 intro dH s σ H D I h;rw[exec_Assign_Name_used _ _ _ _ hsw];refine ao (wpAny_standAt (ao ?_));rw[arm_evalThenUse_ListComp];refine ao (gp (wpAny_comprehension_free (use:=some (assign (.Name y py) X.env)) (Q:=λ_ s'=>SP X dH D .next s') rfl hs (lJ L.fre) L.kind L.names (gp (hi dH s σ H _ I h) λv s1 h1=>gp h1 λitv s2 h2=>?_)) λ_ s' q=>ak (ak q));obtain⟨it,fp,tn,J,H2,e,I2,T,st2,f2,W,⟨m0,w0⟩,turn⟩:=h2;subst e;refine wm (Q:=λx H1=>gB i x σ H1 D.nx) (RR:=λacc C=>compPost (model X.prog X.w) X.A X.xe (some (assign (.Name y py) X.env)) (λ_ s'=>SP X dH D .next s') acc C) hc L hgk blk I2 T st2 f2 w0 turn λE0 C m H' s' hn f I' q=>?_;refine wpAny_assign_Name (qK (v:=.ref E0) I' hN hy hx rfl (λs3 I3 hch=>?_) hf);obtain⟨a,sb,ha⟩:=hch;have ne:C≠a:=by
  rcases ha with z | z
  ·rw[z];exact f.2.1
  ·exact λw=>f.2.2.2.2.1 y a z w.symm
 exact⟨m,hn.sameBut sb ne,λh' sb'=>⟨_,H',I3.turned (t':=s3.toks) (λb o hb e=>sb'.extBut b o hb e) f.1 f.2.1 f.2.2.2.1 f.2.2.2.2.1 f.2.2.2.2.2,q⟩⟩
end L2
namespace L2
open PySem PySem.Spec PyProof.Rows
section
variable {κ:Type}[DecidableEq κ]
end
section
variable {P:Program}{w:World}{H:Hp}{h:Heap}{a:Addr}
end
section
variable {X:Cx}{dH:List (Addr×Obj)}{σ:St}{H:Hp}{s:Shared}{a:Addr}{y v:V}{u r:Value}{o:Option V}{A:Around}{E:Value->Shared->Prop}
end
section
variable {X:Cx}{dH:List (Addr×Obj)}{σ:St}{H:Hp}{s:Shared}{a:Addr}{kvs:List (om×V)}{k:om}{u:Value}{A:Around}{E:Value->Shared->Prop}
end
section
variable {X:Cx}{o i e value:Expr}{pos pos' tpos:Pos}{td ty tv:TE}
end
section
variable {X:Cx}{pos:Pos}
end
section
variable {X:Cx}{dH:List (Addr×Obj)}{σ:St}{H:Hp}{s:Shared}{a:Addr}{y d:V}{u r:Value}{o:Option V}{A:Around}{E:Value->Shared->Prop}
end
section
variable {X:Cx}{o e f:Expr}{apos cpos:Pos}{td ty tx:TE}
end
section
variable {X:Cx}{dH:List (Addr×Obj)}{σ:St}{H:Hp}{s:Shared}{a:Addr}{kvs:List (om×V)}{A:Around}{E:Value->Shared->Prop}
end
section
variable {X:Cx}{dH:List (Addr×Obj)}{σ:St}{H:Hp}{s:Shared}{a:Addr}{y:V}{u:Value}{A:Around}{E:Value->Shared->Prop}
end
end L2
namespace L2
open PySem PySem.Spec PyProof.Rows Builtin
section
variable {X:Cx}
def tf:V->Option Bool
 | .bl b=>some b
 | .int i=>some (i != 0)
 | _=>none
def iZ:List V->Option (List Bool)
 | []=>some []
 | v::vs=>(tf v).bind λb=>(iZ vs).bind λr=>some (b::r)
theorem qC:∀{vs:List V} {bs:List Bool} {us:List Value} {i:Nat} {u:Value},iZ vs=some bs->eF vs us->us[i]? = some u->∃v,fw v u/\tf v=some (bs.getD i false)
 | [],_,_,_,_,_,.nil,e=>by simp at e
 | v::vs,bs,_,i,u,h,.cons r t,e=>by
  cases hv:tf v with
  | none=>simp[iZ,hv] at h
  | some b=>
   cases hr:iZ vs with
   | none=>simp[iZ,hv,hr] at h
   | some r'=>
    simp[iZ,hv,hr] at h;subst h;cases i with
    | zero=>simp at e;subst e;exact⟨v,r,by simpa using hv⟩
    | succ i=>obtain⟨v',a,b'⟩:=qC (i:=i) hr t (by simpa using e);exact⟨v',a,by simpa using b'⟩
theorem qY:∀{vs:List V} {bs:List Bool},iZ vs=some bs->vs.length=bs.length
 | [],_,h=>by cases h;rfl
 | v::vs,bs,h=>by
  cases hv:tf v with
  | none=>simp[iZ,hv] at h
  | some b=>
   cases hr:iZ vs with
   | none=>simp[iZ,hv,hr] at h
   | some r'=>simp[iZ,hv,hr] at h;subst h;simp[qY hr]
theorem oG{prog:Program}{w:World}{A:Around}{vs:List V}{us:List Value}{bs:List Bool}(h:iZ vs=some bs)(r:eF vs us):TruthOf prog w A (λi v=>us.toArray[i]? = some v) (λi=>bs.getD i false):=λi u s Q E hP hQ=>by
 obtain⟨v,rv,tv⟩:=qC h r (by simpa using hP);dsimp only at hQ;cases v with
 | bl b=>
  cases rv;have:b=bs.getD i false:=by simpa[tf] using tv
  rw[<-this] at hQ;exact wpAny_truthy_bool hQ
 | int n=>
  obtain⟨t,rfl⟩:=rv;have:(n != 0)=bs.getD i false:=by simpa[tf] using tv
  rw[<-this] at hQ;exact PyProof.Rows.truthy_int hQ
 | _=>simp[tf] at tv
theorem ye(hc:X.calm=true):ib X (.builtin "any") (λxs H Q=>∃(p:Addr) (vs:List V) (bs:List Bool),xs=[.ref p]/\(ig X.K H p vs\/iL X.K H p vs)/\iZ vs=some bs/\Q (.bl (bs.any id)) H):=by
 intro dH s σ H xs us Q I r h;obtain⟨p,vs,bs,rfl,hS,htr,q⟩:=h;obtain⟨u,rfl,rx⟩:=ml r;cases rx;have hbl:=qY htr;rcases hS with hS | hS
 ·obtain⟨its,rv,pl,hz⟩:=I.list hS;have hn:=rv.length;have hlt:p<s.heap.objs.size:=by obtain⟨_,e,_⟩:=pl.isList;exact aK e
  refine call_any_walk (wpAny_pyIter_list pl.isList ⟨s.heap.objs.size,_,_,_,_,_,λi=>bs.getD i false,rfl,Walks.list (A:=X.A.in1) (I.ok.hd hc) _ p (aL hlt) _,⟨⟨_,ar _ rfl,rfl,rfl⟩,pl.isList.push _⟩,oG htr rv,λh' tk hk=>?_⟩);refine⟨.bl _,H,I.kept (t':=tk) (λb o e=>hk b o (λhm=>?_) (ae _ e)),rfl,?_⟩
  ·have lt:=aK e;have z:b=s.heap.objs.size:=by simpa using hm
   rw[z] at lt;exact aZ _ lt
  ·rw[<-qw] at q;have:its.toArray.size=bs.length:=by rw[bu];omega
   rw[this];exact q
 ·obtain⟨its,rv,pl,hz⟩:=I.tuple hS;have hn:=rv.length;have hlt:p<s.heap.objs.size:=by obtain⟨_,e,_⟩:=pl;exact aK e
  have pt:s.heap.IsTuple p its.toArray:=pl;refine call_any_walk (wpAny_pyIter_tuple pt ⟨s.heap.objs.size,_,_,_,_,_,λi=>bs.getD i false,rfl,Walks.tuple (A:=X.A.in1) (I.ok.hd hc) _ p (aL hlt) _,⟨⟨_,ar _ rfl,rfl,rfl⟩,pt.push _⟩,oG htr rv,λh' tk hk=>?_⟩);refine⟨.bl _,H,I.kept (t':=tk) (λb o e=>hk b o (λhm=>?_) (ae _ e)),rfl,?_⟩
  ·have lt:=aK e;have z:b=s.heap.objs.size:=by simpa using hm
   rw[z] at lt;exact aZ _ lt
  ·rw[<-qw] at q;have:its.toArray.size=bs.length:=by rw[bu];omega
   rw[this];exact q
end
end L2
namespace L2
open PySem PySem.Spec PyProof.Rows
section
variable {prog:Program}{w:World}{A:Around}{E:Value->Shared->Prop}{s:Shared}
theorem xW{b:Bool}{e it l:Addr}{i:Nat}{xs:Array Value}{old:Value}{Q:Value->Shared->Prop}(he:IsEnum s.heap e it i old)(hi:iI b s.heap it l i)(hl:fL b s.heap l xs)(hne:e≠it)
  (yes:∀x h',xs[i]? = some x->IsEnumOut h' e it ((i:Int)+1) x s.heap.objs.size->iI b h' it l (i+1)->h'.get? s.heap.objs.size=some {cls:=.type "tuple",data:=.seq #[.int i s.toks,x]}->h'.objs.size=s.heap.objs.size+1->
   (∀c o,c≠e->c≠it->s.heap.get? c=some o->h'.get? c=some o)->Q (.ref s.heap.objs.size) {s with heap:=h',toks:=s.toks+1})
  (no:xs[i]? = none->A.handled=none/\∀h' x,Heap.ExtBut it s.heap h'->(∃o,h'.get? x=some o/\o.cls=.type "StopIteration")->E (.ref x) {s with heap:=h'}) :
  wpAny (model prog w) A (Builtin.«enumerate.__next__» ⟨[.ref e],[]⟩) (λfin s'=>∃v,fin=.done (.ret v)/\Q v s') E s:=by
 obtain⟨hp,g,d,tk,os⟩:=s;show wpAny _ _ (field (.ref e) 2 >>= λ_=>_) _ _ _;refine ao (wpAny_field he rfl (x:=.ref it) rfl (ao (pM hi hl (λx g1 hx t1 k1=>?_) no)));have k1':Heap.SameBut it hp g1:=k1;have z1:IsEnum g1 e it i old:=(k1'.2 e hne).trans he;show wpAny _ _ (field (.ref e) 3 >>= λ_=>_) _ _ ⟨g1,g,d,tk,os⟩;refine ao (wpAny_field z1 rfl (x:=rawInt i) rfl ?_);show wpAny _ _ (field (.ref e) 4 >>= λ_=>_) _ _ ⟨g1,g,d,tk,os⟩;refine ao (wpAny_field z1 rfl (x:=.none) rfl ?_);show wpAny _ _ (mkInt i >>= λ_=>_) _ _ ⟨g1,g,d,tk,os⟩;refine ao (wpAny_mkInt (ao (wpAny_setField_rec z1 (by simp) λg2 y2 k2=>?_)));have z2:IsEnum g2 e it ((i:Int)+1) old:=y2;refine ao (wpAny_setField_rec z2 (by simp) λg3 y3 k3=>?_);have z3:IsEnum g3 e it ((i:Int)+1) old:=y3;refine ao (wpAny_newTuple ?_);have sz:g3.objs.size=hp.objs.size:=by have a:=k3.1;have c:=k2.1;have u:=k1'.1;dsimp only at a c u;omega
 have z4:IsEnum (g3.push {cls:=.type "tuple",data:=.seq #[.int i tk,x]}) e it ((i:Int)+1) old:=ae _ z3;have el:e<hp.objs.size:=aK he;have to3:∀c o,c≠e->c≠it->hp.get? c=some o->g3.get? c=some o:=λc o c1 c2 q=>k3.extBut c o c1 (k2.extBut c o c1 (k1'.extBut c o c2 q));show wpAny _ _ (Builtin.SmallTypes.ownedTupleIsFree (.ref e) >>= λ_=>_) _ _ _;unfold Builtin.SmallTypes.ownedTupleIsFree;refine ao (ao (wpAny_field z4 rfl (x:=.none) rfl (ak ?_)));simp only[if_true];refine ao (wpAny_rule (ao (wpAny_field z4 rfl (x:=old) rfl (ao (wpAny_setField_rec z4 (by simp) λg5 y5 k5=>?_)))));have z5:IsEnum g5 e it ((i:Int)+1) x:=y5;show wpAny _ _ (Builtin.SmallTypes.ownedTupleHandOut (.ref e) (.ref g3.objs.size) >>= λ_=>_) _ _ _;unfold Builtin.SmallTypes.ownedTupleHandOut;refine ao (ao (wpAny_setField_rec z5 (by simp) λg6 y6 k6=>?_));have z6:IsEnumOut g6 e it ((i:Int)+1) x g3.objs.size:=y6;refine wpAny_setField_rec z6 (by simp) λg7 y7 k7=>?_;have z7:IsEnumOut g7 e it ((i:Int)+1) x g3.objs.size:=y7;have up:∀c o,c≠e->(g3.push {cls:=.type "tuple",data:=.seq #[.int i tk,x]}).get? c=some o->g7.get? c=some o:=λc o c1 q=>k7.extBut c o c1 (k6.extBut c o c1 (k5.extBut c o c1 q));have up3:∀c o,c≠e->g3.get? c=some o->g7.get? c=some o:=λc o c1 q=>up c o c1 (ae _ q);have tp:g7.get? g3.objs.size=some {cls:=.type "tuple",data:=.seq #[.int i tk,x]}:=up _ _ (by rw[sz];exact bp el) (ar _ rfl);have s7:g7.objs.size=g3.objs.size+1:=by have a:=k7.1;have c:=k6.1;have u:=k5.1;dsimp only at a c u;rw[Heap.size_push] at u;omega
 refine ao (wpAny_letGo (ak ⟨_,rfl,?_⟩));show Q (.ref g3.objs.size) ⟨g7,g,d,tk+1,os⟩;rw[sz] at z7 tp s7 ⊢;exact yes x g7 hx z7 (t1.to λo q=>up3 it o (Ne.symm hne) (k3.extBut it o (Ne.symm hne) (k2.extBut it o (Ne.symm hne) q))) tp s7 λc o c1 c2 q=>up3 c o c1 (to3 c o c1 c2 q)
theorem qq{b:Bool}{e it l:Addr}{i:Nat}{xs:Array Value}{old:Value}{Q:Option Value->Shared->Prop}(he:IsEnum s.heap e it i old)(hi:iI b s.heap it l i)(hl:fL b s.heap l xs)(hne:e≠it)
  (yes:∀x h',xs[i]? = some x->IsEnumOut h' e it ((i:Int)+1) x s.heap.objs.size->iI b h' it l (i+1)->h'.get? s.heap.objs.size=some {cls:=.type "tuple",data:=.seq #[.int i s.toks,x]}->h'.objs.size=s.heap.objs.size+1->
   (∀c o,c≠e->c≠it->s.heap.get? c=some o->h'.get? c=some o)->Q (some (.ref s.heap.objs.size)) {s with heap:=h',toks:=s.toks+1})
  (no:xs[i]? = none->A.handled=none/\∀h',Heap.ExtBut it s.heap h'->Q none {s with heap:=h'}):wpAny (model prog w) A (pyNext (.ref e)) Q E s:=by
 have ty:s.TypeIs (.ref e) "enumerate" :=⟨_,he,rfl⟩;unfold pyNext;refine ao (wpAny_attempt (wpAny_callSpecial?_slot (name:=Str.ofString "__next__") ty F.slot_enumerate_next (wpAny_call_entry F.slot_enumerate_next ty F.entry_enumerate_next
  (xW he hi hl hne (λx h' u1 u2 u3 u4 u5 u6=>ak (yes x h' u1 u2 u3 u4 u5 u6)) λq=>⟨(no q).1,λh' x hk ⟨o,ho,hc⟩=>?_⟩) (F.args_enumerate_next_1 _))))
 exact ao (wpAny_isInstance (T:= "StopIteration") (b:=true) ⟨o,ho,hc⟩ isSubtype_stop (ak ((no q).2 h' hk)))
abbrev eo(b:Bool)(l:Addr):Obj:={cls:=.type (pz b),data:=.fields #[.ref l,.int 0 0]}
abbrev en(p:Addr):Obj:={cls:=.type "enumerate",data:=.fields #[.none,.bool false,.ref p,rawInt 0,.none,.none]}
theorem uZ(b:Bool)(l:Addr)(xs:Array Value):Meets (Builtin.«enumerate.__new__» ⟨[.type "enumerate",.ref l],[]⟩) (λ_ R s=>fL b s.heap l xs/\
  R (.ok (.ret (.ref (s.heap.push (eo b l)).objs.size))) {s with heap:=(s.heap.push (eo b l)).push (en s.heap.objs.size)}):=by
 refine .of_wp λprog w A R s h=>?_;obtain⟨hp,g,d,tk,os⟩:=s;obtain⟨a1,hR⟩:=h;have hsub:=sub_enumerate;have q1:fL b (Shared.heap ⟨hp,g,d,tk,os⟩) l xs:=a1;obtain⟨o,n,ho,hd⟩:=q1.look;wp_walk using jT q1;refine wpAny_stack_any λst=>ak ?_;split
 ·rename_i c _ _ _ _ _;cases (c == Value.type "enumerate")
  ·wp_walk using jT q1;exact⟨_,rfl,hR⟩
  ·wp_walk using jT q1;exact⟨_,rfl,hR⟩
 ·wp_walk using jT q1;exact⟨_,rfl,hR⟩
theorem xM{b:Bool}{l:Addr}{xs:Array Value}{Q:Value->Shared->Prop}(hl:fL b s.heap l xs)
  (h:∀h',IsEnum h' (s.heap.objs.size+1) s.heap.objs.size 0 .none->iI b h' s.heap.objs.size l 0->h'.objs.size=s.heap.objs.size+2->(∀c o,s.heap.get? c=some o->h'.get? c=some o)->Q (.ref (s.heap.objs.size+1)) {s with heap:=h'}) :
  wpAny (model prog w) A (call (.type "enumerate") [.ref l]) Q E s:=by
 refine callType_new F.called_enumerate (by decide) (F.typeCall_enumerate_1 _) (F.newCall_enumerate_1 _) (λobj=>F.args_object_init_2 obj _) F.entry_enumerate_new (uZ b l xs) ⟨hl,?_⟩;have n1:(s.heap.push (eo b l)).objs.size=s.heap.objs.size+1:=Heap.size_push ..;have ge:=ar (s.heap.push (eo b l)) (o:=en s.heap.objs.size) rfl;rw[n1] at ge;show _/\_;rw[n1];exact⟨⟨_,ge,rfl⟩,h _ ge (.of ⟨_,ae _ (ar _ rfl),rfl,rfl⟩) (by rw[Heap.size_push,n1]) λc o q=>ae _ (ae _ q)⟩
end
def HR(K:W.Frag)(b:Bool)(l:Addr):It:=
  ⟨λi H=>∃xs x,pT K H b l xs/\xs[i]? = some x,
   λi H v H'=>∃p x,v=.ref p/\H p=none/\H'=gC H p (.tup [.int i,x])/\∀xs,pT K H b l xs->xs[i]? = some x,
   λi H=>∃xs,pT K H b l xs/\xs.length<=i⟩
theorem yd{P:Program}{w:World}{K:W.Frag}{elts:List Expr}{x1}{pos:Pos}{b:Bool}{e it l:Addr}(hne:e≠it) :
  vx P w K (.Tuple elts x1 pos) (HR K b l) [e,it] e (λi h=>(∃old,IsEnum h e it i old)/\iI b h it l i) where
 mem:=by simp
 obj:=λi h st c hc=>by
  obtain⟨⟨old,he⟩,hi⟩:=st;have mem:c=e\/c=it:=by simpa using hc
  rcases mem with rfl | rfl
  ·exact⟨_,he,λv q=>by cases q⟩
  ·obtain⟨o,q,_,d⟩:=hi.look;exact⟨o,q,λv q'=>by rw[d] at q';cases q'⟩
 keep:=λi h h' st k=>by obtain⟨⟨old,he⟩,hi⟩:=st;exact⟨⟨old,k e (by simp) _ he⟩,hi.to λo q=>k it (by simp) o q⟩
 item:=by
  intro X hP hw hK hc i dH s σ H E I hf st hg;subst hP hw hK;obtain⟨⟨old,he⟩,hi⟩:=st;obtain⟨xs,x,q1,e1⟩:=hg;obtain⟨us,r1,p1,z1⟩:=I.seqB q1;obtain⟨u,gu,ru⟩:=r1.get e1;have FT:=I.fpOk (b:=s.heap.objs.size) (aJ _) (I.hok.fresh (aJ _));refine qq he hi p1 hne (λu' h' gu' a1 a2 a3 a4 hk=>?_) λq=>?_
  ·have eu:u'=u:=by
    have:us[i]? = some u':=by simpa using gu'
    rw[gu] at this;cases this;rfl
   subst eu;refine⟨_,rfl,wpAny_letOwnedTupleGo_enum a1 λh'' hz'' sb=>?_⟩;have sb':Heap.SameBut e h' h'':=sb;have zT:s.heap.objs.size≠e:=bp (aK he);have I1:eh X dH σ H {s with heap:=h'',toks:=s.toks+1}:=I.turnedL (t':=s.toks+1) (ch:=[e,it]) (λb o hb q=>sb'.extBut _ _ (λz=>hb (by simp[z])) (hk b o (λz=>hb (by simp[z])) (λz=>hb (by simp[z])) q)) (λb hb=>hf b hb);have gT:h''.get? s.heap.objs.size=some {cls:=.type "tuple",data:=.seq #[.int i s.toks,u']}:=sb'.extBut _ _ zT a3;have I2:eh X dH σ (gC H s.heap.objs.size (.tup [.int i,x])) {s with heap:=h'',toks:=s.toks+1}:=I1.track FT.1 FT.2.2.2.1 FT.2.1 FT.2.2.2.2.1 FT.2.2.2.2.2
    ⟨by show 2<=sizeLine;decide,[.int i s.toks,u'],.cons ⟨_,rfl⟩ (.cons ru .nil),⟨_,gT,rfl,_,rfl⟩⟩
   have lt:∀{b o},s.heap.get? b=some o->gC H s.heap.objs.size (.tup [.int i,x]) b=H b:=λ{b o} q=>ei (aL (aK q));refine⟨.ref s.heap.objs.size,_,I2,rfl,⟨_,x,rfl,FT.1,rfl,λxs' h=>by rw[I.seqB_inj h q1];exact e1⟩,?_,λb hb=>?_⟩
   ·exact⟨⟨_,hz''⟩,a2.to λo q=>sb'.extBut _ o (Ne.symm hne) q⟩
   ·have mem:b=e\/b=it:=by simpa using hb
    have hn:=(hf b hb).1;obtain⟨o1,g1,_⟩:=hi.look;rcases mem with rfl | rfl
    ·rw[lt he];exact hn
    ·rw[lt g1];exact hn
  ·exfalso;have m1:us.toArray[i]? = some u:=by simpa using gu
   rw[m1] at q;cases q
 done:=by
  intro X hP hw hK hc i dH s σ H E I hf st hg;subst hP hw hK;obtain⟨⟨old,he⟩,hi⟩:=st;obtain⟨xs,q1,hl⟩:=hg;obtain⟨us,r1,p1,z1⟩:=I.seqB q1;have n1:=r1.length;refine qq he hi p1 hne (λu' h' gu' a1 a2 a3 a4 hk=>?_) λq=>⟨I.ok.hd hc,λh' hk=>⟨rfl,I.turnedL (t':=s.toks) (ch:=[it]) (λb o hb q=>hk b o (λz=>hb (by simp[z])) q) λb hb=>hf b (by
   have:b=it:=by simpa using hb
   simp[this])⟩⟩
  exfalso;have m1:i<us.length:=by
   have:us[i]? = some u':=by simpa using gu'
   exact (aa.mp this).1
  omega
 self:=λ_ _ _ _ _ st h=>by obtain⟨⟨old,he⟩,_⟩:=st;exact wpAny_pyIter_enum he h
section
variable {X:Cx}
def y9(K:W.Frag)(b:Bool)(ta:TA):TI:=λσ H R=>ta σ H λvs H1=>∃l,vs=[.ref l]/\(∃xs,pT K H1 b l xs)/\R (HR K b l) H1
theorem A3{b:Bool}{elts:List Expr}{x1}{tpos:Pos}{a:Expr}{ta:TA}{p pos:Pos}(hg:Gl X "enumerate")(hm:X.mg "enumerate" = none)(ha:PA X [a] ta)(hs:starEach [a] X.env=[(false,eval a X.env)]:=by rfl) :
  PI X (.Tuple elts x1 tpos) (.Call (.Name "enumerate" p) [a] [] pos) (y9 X.K b ta):=by
 intro dH s σ H R I h;refine Call_ (kl I hg hm boot_enumerate (PyProof.Rows.callWith_type1 (gp (ha pos dH s σ H _ I h) λus s1 ⟨vs,H1,I1,r1,q1⟩=>?_) hs rfl));obtain⟨l,rfl,⟨xs,q1⟩,q⟩:=q1;obtain⟨u,rfl,rx⟩:=ml r1;cases rx;obtain⟨us,rv1,p1,_⟩:=I1.seqB q1;refine xM p1 λh' he hi hsz hk=>?_;refine wpAny_pyIter_enum he ?_;refine⟨_,_,_,_,H1,rfl,I1.kept (t':=s1.toks) hk,yd (e:=s1.heap.objs.size+1) (it:=s1.heap.objs.size) (Nat.succ_ne_self _),⟨⟨_,he⟩,hi⟩,λb hb=>?_,q⟩;have mem:b=s1.heap.objs.size+1\/b=s1.heap.objs.size:=by simpa using hb
 have ge:s1.heap.objs.size<=b:=by rcases mem with rfl | rfl<;>omega
 exact I1.fpOk ge (I1.hok.fresh ge)
end
end L2
namespace L2
open PySem PySem.Spec PyProof.Rows
section
variable {X:Cx}
end
end L2
namespace HT
open PySem PySem.Spec PyProof.Rows
section
variable {prog:Program}{w:World}{A:Around}{E:Value->Shared->Prop}{s:Shared}
theorem getItem_tuple_all{t sl:Addr}{items:Array Value}{vl vu:Value}{lo hi:Option Int}{Q:Value->Shared->Prop}(ht:IsTup s.heap t items)(hs:s.heap.IsSliceOf sl vl vu .none)(pl:IsPart vl lo)(pu:IsPart vu hi)
  (hw:sIx items.size 0 lo=0/\sIx items.size items.size hi=items.size) (h:Q (.ref t) s):wpAny (model prog w) A (getItem (.ref t) (.ref sl)) Q E s:=by
 obtain⟨os,hos,hcs,hds⟩:=id hs;have hTs:s.TypeIs (.ref sl) "slice" :=⟨os,hos,hcs⟩;unfold getItem;try with_reducible refine wpAny_holding ?_;first | refine ao (ak ?_) | skip
 refine ao (wpAny_sequenceKey ht.typeIs (by decide) ?_);refine ao (wpAny_callSpecial?_slot (name:=Str.ofString "__getitem__") ht.typeIs PyProof.Rows.slot_tuple_getitem
  (wpAny_call_entry PyProof.Rows.slot_tuple_getitem ht.typeIs entry_tuple_getitem ?_ (args_tuple_getitem _ _)))
 show wpAny _ _ (Builtin.Tuple.tupleItemsOf (.ref t) >>= _) _ _ s;refine ao (tupleItemsOf_ ht ?_);refine ao (wpAny_typeOf hTs ?_);rw[aP (by decide)];refine ao (j5 hs pl pu ?_);have hyes:(((sIx items.size 0 lo:Nat):Int) == 0&&(1:Int) == 1&&(sIx items.size items.size hi - sIx items.size 0 lo) == items.size)=true:=by rw[hw.1,hw.2];simp
 show wpAny _ _ (if (((sIx items.size 0 lo:Nat):Int) == 0&&(1:Int) == 1&&(sIx items.size items.size hi - sIx items.size 0 lo) == items.size)=true then _ else _) _ _ s;rw[aP hyes];refine ao (ao (wpAny_typeOf ht.typeIs (ak ?_)));rw[aP (by decide)];refine ao (wpAny_rule ?_);exact ak ⟨_,rfl,ak h⟩
end
end HT
namespace L2
open PySem PySem.Spec PyProof.Rows
section
variable {X:Cx}
def F6(K:W.Frag):V->Option Int->Option Int->Hp->VK->Prop:=λx lo hi H Q=>∃a xs,x=.ref a/\iL K H a xs/\(HT.sIx xs.length 0 lo=0/\HT.sIx xs.length xs.length hi=xs.length)/\Q (.ref a) H
theorem BZ:Dr X (F6 X.K):=by
 intro dH s σ H x v vl vu lo hi sl Q I rx hs pl pu h;obtain⟨a,xs,rfl,hx,hw,q⟩:=h;cases rx;obtain⟨its,r,ht,hz⟩:=I.tuple hx;have hZ:its.toArray.size=xs.length:=by rw[bu];exact r.length.symm
 refine⟨"tuple",_,PyProof.Rows.slot_tuple_getitem.lookup,ht.typeIs,?_⟩;exact HT.getItem_tuple_all ht hs pl pu (by rw[hZ];exact hw) ⟨.ref a,H,I,rfl,q⟩
end
end L2
namespace L2
open PySem PySem.Spec PyProof.Rows
section
variable {prog:Program}{w:World}{A:Around}{E:Value->Shared->Prop}{s:Shared}{d it:Addr}{es:Array DictEntry}{ep i:Nat}
end
section
variable {X:Cx}
end
end L2
namespace L2
open PySem PySem.Spec PyProof.Rows
section
variable {X:Cx}{tg:Expr}
end
end L2
namespace L2
open PySem PySem.Spec PyProof.Rows
section
variable {prog:Program}{w:World}{A:Around}{E:Value->Shared->Prop}{s:Shared}
section
variable {R:Result->Shared->Prop}{us:List Value}{b:Bool}
end
end
end L2
namespace L2
open PySem PySem.Spec PyProof.Rows
section
variable {X:Cx}
end
end L2
namespace HT
open PySem PySem.Spec PyProof.Rows
section
variable {prog:Program}{w:World}{A:Around}{E:Value->Shared->Prop}{s:Shared}
theorem pick_rev(xs:Array Value):((List.range xs.size).filterMap λ(m:Nat)=>xs[(((xs.size:Int) - 1)+(m:Int)*(-1)).toNat]?).toArray=xs.toList.reverse.toArray:=by
 congr 1;have e:∀n,n<=xs.size->(List.range n).filterMap (λ(m:Nat)=>xs[(((xs.size:Int) - 1)+(m:Int)*(-1)).toNat]?)=(xs.toList.reverse).take n:=by
  intro n;induction n with
  | zero=>intro _;simp
  | succ n ih=>
   intro h;have hn:n<xs.toList.reverse.length:=by simp;omega
   rw[cg,List.filterMap_append,ih (by omega),List.take_succ,ag hn];congr 1;have k:(((xs.size:Int) - 1)+(n:Int)*(-1)).toNat=xs.size - 1 - n:=by omega
   simp only[bf,List.filterMap_nil,k];rw[Array.getElem?_eq_getElem (by omega)];simp
 rw[e xs.size (aJ _),b9 (by simp)]
theorem nq{sl:Addr}{tk:Tok}{n:Nat}{Q:Int×Int×Nat->Shared->Prop}(hs:s.heap.IsSliceOf sl .none .none (.int (-1) tk))
  (h:Q ((n:Int) - 1,-1,n) s):wpAny (model prog w) A (Builtin.Slice.sliceApplied (.ref sl) (pure (n:Int))) Q E s:=by
 obtain⟨os,hos,hcs,hds⟩:=id hs;unfold Builtin.Slice.sliceApplied Builtin.Slice.sliceFields;refine ao (ao (wpAny_field hos hds (x:=.none) rfl (ao (wpAny_field hos hds (x:=.none) rfl (ao (wpAny_field hos hds (x:=.int (-1) tk) rfl (ak ?_)))))));refine ao (lS (o:=some (-1)) (.int (-1) tk) ?_);show wpAny _ _ (if ((-1:Int) == 0)=true then _ else _) _ _ s;rw[aQ (by decide)];refine ao (slicePart_none (ao (slicePart_none (ao (ak ?_)))));have hp:Builtin.Slice.slicePlaces ((n:Int) - 1) (-1) (-1)=n:=by
  unfold Builtin.Slice.slicePlaces;by_cases h0:n=0
  ·subst h0;decide
  ·rw[aQ (by decide),aP (by omega)];have:((n:Int) - 1 - -1 - 1) / (- -1)=(n:Int) - 1:=by rw[show (- -1:Int)=1 by decide,bJ];omega
   rw[this];omega
 show wpAny _ _ (pure ((n:Int) - 1,(-1:Int),Builtin.Slice.slicePlaces ((n:Int) - 1) (-1) (-1))) _ _ s;rw[hp];exact ak h
theorem getItem_tuple_rev{t sl:Addr}{tk:Tok}{items:Array Value}{Q:Value->Shared->Prop}(ht:IsTup s.heap t items)(hs:s.heap.IsSliceOf sl .none .none (.int (-1) tk))
  (h:Q (.ref s.heap.objs.size) {s with heap:=s.heap.push {cls:=.type "tuple",data:=.seq items.toList.reverse.toArray}})
  (hsz:items.size<=sizeLine):wpAny (model prog w) A (getItem (.ref t) (.ref sl)) Q E s:=by
 have m4:sizeOk (.seq items.toList.reverse.toArray):=by show items.toList.reverse.toArray.size<=sizeLine;rw[bu,cj,bj];exact hsz
 obtain⟨os,hos,hcs,hds⟩:=id hs;have hTs:s.TypeIs (.ref sl) "slice" :=⟨os,hos,hcs⟩;unfold getItem;try with_reducible refine wpAny_holding ?_;first | refine ao (ak ?_) | skip
 refine ao (wpAny_sequenceKey ht.typeIs (by decide) ?_);refine ao (wpAny_callSpecial?_slot (name:=Str.ofString "__getitem__") ht.typeIs PyProof.Rows.slot_tuple_getitem
  (wpAny_call_entry PyProof.Rows.slot_tuple_getitem ht.typeIs entry_tuple_getitem ?_ (args_tuple_getitem _ _)))
 show wpAny _ _ (Builtin.Tuple.tupleItemsOf (.ref t) >>= _) _ _ s;refine ao (tupleItemsOf_ ht ?_);refine ao (wpAny_typeOf hTs ?_);rw[aP (by decide)];refine ao (nq (n:=items.size) hs ?_);have hno:¬((((items.size:Int) - 1) == 0&&(-1:Int) == 1&&items.size == items.size)=true):=by intro q;rw[bM,bM] at q;exact absurd q.1.2 (by decide)
 show wpAny _ _ (if (((items.size:Int) - 1) == 0&&(-1:Int) == 1&&items.size == items.size)=true then _ else _) _ _ s;rw[aQ hno,pick_rev];first
  | exact ao (m:=Builtin.Tuple.tupleExact _) (wpAny_newObj_type (ak ⟨_,rfl,ak h⟩) m4)
  | exact ao (m:=Builtin.Tuple.tupleExact _) (wpAny_newObj_type (ao (ak (ak ⟨_,rfl,ak h⟩))) m4)
  | exact ao (ao (m:=Builtin.Tuple.tupleExact _) (wpAny_newObj_type (ak (ak ⟨_,rfl,ak h⟩)) m4))
  | exact ao (ao (m:=Builtin.Tuple.tupleExact _) (wpAny_newObj_type (ak ⟨_,rfl,ak h⟩) m4))
end
end HT
namespace L2
open PySem PySem.Spec PyProof.Rows
theorem qc(its:List Value):slicePick its.toArray none none (some (-1))=its.reverse.toArray:=by
 unfold slicePick;have h:sliceBounds none none (some (-1)) its.toArray.size=((its.toArray.size:Int) - 1,-1,-1):=by simp[sliceBounds]
 rw[h];have:sliceRange ((its.toArray.size:Int) - 1) (-1) (-1)=(List.range its.toArray.size).map λ(m:Nat)=>(((its.toArray.size:Int) - 1)+(m:Int)*(-1)).toNat:=by
  generalize its.toArray.size=n;unfold sliceRange;have hc:(if (-1:Int)>0 then (if (n:Int) - 1 < -1 then (-1 - ((n:Int) - 1) + -1 - 1) / -1 else 0) else (if (n:Int) - 1 > -1 then ((n:Int) - 1 - -1 - -1 - 1) / (- -1) else 0))=(n:Int):=by
   rw[aQ (by decide)];by_cases h0:n=0
   ·subst h0;decide
   ·rw[aP (by omega),show (- -1:Int)=1 by decide,bJ];omega
  simp only[hc];rw[bI];refine List.map_congr_left λk _=>?_;congr 1;omega
 rw[this,bK];exact HT.pick_rev its.toArray
section
variable {X:Cx}{e st:Expr}{te ts:TE}{p2 pos:Pos}
def Ij(K:W.Frag):V->Hp->VK->Prop:=λx H Q=>(∃a xs,x=.ref a/\ig K H a xs/\∀p,H p=none->Q (.ref p) (gC H p (.lst xs.reverse)))\/∃a xs,x=.ref a/\iL K H a xs/\∀p,H p=none->Q (.ref p) (gC H p (.tup xs.reverse))
def Ir(K:W.Frag)(te ts:TE):TE:=λσ H Q=>te σ H λx H1=>Al ts σ H1 λo H2=>o=some (-1)/\Ij K x H2 Q
theorem EM(he:PE X e te)(hs:PE X st ts):PE X (.Subscript e (.Slice none none (some st) p2) pos) (Ir X.K te ts):=by
 intro dH s σ H Q I h;refine Subscript_ (gp (he dH s σ H _ I h) λv s1 ⟨x,H1,I1,r1,q1⟩=>?_);refine wpAny_Slice ?_;rw[evalPart_none];refine ak ?_;refine ak ?_;refine gp (xa hs dH s1 σ H1 (λo H2=>o=some (-1)/\Ij X.K x H2 Q) I1 q1) λvs s2 ⟨o,H2,I2,ps,ho,q2⟩=>?_;subst ho;cases ps with
 | int i tk=>
 have I4:eh X dH σ H2 {s2 with heap:=s2.heap.push {cls:=.type "slice",data:=.fields #[.none,.none,.int (-1) tk]}}:=I2.kept (t':=s2.toks) λb ob q=>ae _ q;have hsl:({s2 with heap:=s2.heap.push {cls:=.type "slice",data:=.fields #[.none,.none,.int (-1) tk]}}:Shared).heap.IsSliceOf s2.heap.objs.size .none .none (.int (-1) tk):=Heap.IsSliceOf.new ..;have key:∃T id,typeLookup (.type T) "__getitem__" = pure (some (.builtin id))/\({s2 with heap:=s2.heap.push {cls:=.type "slice",data:=.fields #[.none,.none,.int (-1) tk]}}:Shared).TypeIs v T/\wpAny (model X.prog X.w) X.A (getItem v (.ref s2.heap.objs.size)) (EP X dH σ Q) X.xe {s2 with heap:=s2.heap.push {cls:=.type "slice",data:=.fields #[.none,.none,.int (-1) tk]}}:=by
  generalize ({s2 with heap:=s2.heap.push {cls:=.type "slice",data:=.fields #[.none,.none,.int (-1) tk]}}:Shared)=s4 at I4 hsl ⊢;rcases q2 with⟨a,xs,rfl,hx,q⟩ | ⟨a,xs,rfl,hx,q⟩
  ·cases r1;obtain⟨its,r,ht,hz⟩:=I4.list hx;have hZ:=r.length;refine⟨"list",_,slot_list_getitem.lookup,ht.isList.typeIs,?_⟩;refine wpAny_getItem_list_slice ht.isList hsl .none .none (.int (-1) tk) (by simp) ?_ (by rw[bu]<;>omega);rw[qc];refine⟨.ref s4.heap.objs.size,_,I4.laid (t':=s4.toks) (o:=.lst xs.reverse) (λb ob q=>ae _ q) (aJ _) ?_,rfl,q _ (I4.hok.fresh (aJ _))⟩;exact⟨by rw[cj];exact hz,_,0,r.reverse,ar _ rfl⟩
  ·cases r1;obtain⟨its,r,ht,hz⟩:=I4.tuple hx;have hZ:its.toArray.size=xs.length:=by rw[bu];exact r.length.symm
   refine⟨"tuple",_,PyProof.Rows.slot_tuple_getitem.lookup,ht.typeIs,?_⟩;refine HT.getItem_tuple_rev ht hsl ?_ (by rw[hZ];exact hz);refine⟨.ref s4.heap.objs.size,_,I4.laid (t':=s4.toks) (o:=.tup xs.reverse) (λb ob q=>ae _ q) (aJ _) ?_,rfl,q _ (I4.hok.fresh (aJ _))⟩;exact⟨by rw[cj];exact hz,_,r.reverse,IsTup.new _ _⟩
 obtain⟨T,id,hT,ht,hg⟩:=key;show wpAny (model X.prog X.w) X.A (subscriptTail e (.Slice none none (some st) p2) v (.ref s2.heap.objs.size)) (EP X dH σ Q) X.xe {s2 with heap:=s2.heap.push {cls:=.type "slice",data:=.fields #[.none,.none,.int (-1) tk]}};exact tail_any (ops:=[v,.ref s2.heap.objs.size]) ht hT hg (by with_unfolding_all rfl)
end
end L2
namespace L2
open PySem PySem.Spec PyProof.Rows PySem.W
section
variable {X:Cx}{dH:List (Addr×Obj)}{σ:St}{H:Hp}{s:Shared}
def Bc(s:Shared)(dx:PyData)(u:Value):Bool:=@decide (∃d as,Reads s.heap u d as/\d.canLay0=true/\PyData.eqv d dx=true) (Classical.propDecidable _)
theorem zQ{dx d:PyData}{u:Value}{as:List Addr}(r:Reads s.heap u d as)(hc:d.canLay0=true):Bc s dx u=PyData.eqv d dx:=by
 unfold Bc;cases h:PyData.eqv d dx with
 | true=>exact @aB _ (_) ⟨d,as,r,hc,h⟩
 | false=>refine @aA _ (_) λ⟨d',as',r',hc',h'⟩=>?_;rw[SeqAt.Reads.unique d d' u as as' hc r r',h'] at h;cases h
theorem sD{dx:PyData}:∀{us:List Value} {ds:List PyData} {as:List Addr},ReadsAll s.heap us ds as->PyData.canLayAll0 ds=true->us.any (Bc s dx)=ds.any λd=>PyData.eqv d dx
 | _,_,_,.nil,_=>rfl
 | _,_,_,.cons r rs,h=>by rw[PyData.canLayAll0,bM] at h;rw[bP,bP,zQ r h.1,sD rs h.2]
theorem uG{A:Around}{dx:PyData}{v:Value}{bs:List Addr}(rx:Reads s.heap v dx bs)(hx:dx.canLay0=true)(hu:A.units+dx.depth<cLine):∀{us:List Value} {ds:List PyData} {as:List Addr},ReadsAll s.heap us ds as->PyData.canLayAll0 ds=true->∀u∈us,SeqAt.EqAt A s u v (Bc s dx u)
 | _,_,_,.nil,_=>λu hu=>by cases hu
 | _,_,_,.cons r rs,h=>λu hm=>by
  rw[PyData.canLayAll0,bM] at h;rcases aE.mp hm with rfl | hm
  ·rw[zQ r h.1];exact SeqAt.eqAt_reads _ _ _ _ _ _ _ _ r rx h.1 hx (by omega)
  ·exact uG rx hx hu rs h.2 u hm
def BG(K:W.Frag)(neg:Bool):R2:=λx y H Q=>∃dx ds p xs,y=.ref p/\(ig K H p xs\/iL K H p xs)/\DV K H x dx/\rG K H xs ds/\(dx.canLay0=true/\PyData.canLayAll0 ds=true/\dx.depth<=100)/\Q (.bl (if neg then !(ds.any λd=>PyData.eqv d dx) else ds.any λd=>PyData.eqv d dx)) H
theorem xG(hu:X.A.units+200<cLine):kz X (compareOp .NotIn) (BG X.K true):=by
 intro dH s σ H x y v u Q I rx ry h;obtain⟨dx,ds,p,xs,rfl,hq,hx,hs,⟨cx,cs,hd⟩,q⟩:=h;cases ry;obtain⟨bs,rb⟩:=hx.reads I rx;have hu':X.A.in1.units+dx.depth<cLine:=by show X.A.units+1+_<_;omega
 rcases hq with hq | hq
 ·obtain⟨its,r,pl,hz⟩:=I.list hq;obtain⟨as,ra⟩:=hs.reads I r;refine SeqAt.notIn_listAt (Bc s dx) pl.isList (λw hw=>uG rb cx hu' ra cs w (by simpa using hw)) ⟨.bl _,H,I,rfl,?_⟩;rw[show its.toArray.any (Bc s dx)=its.any (Bc s dx) by simp,sD ra cs];exact q
 ·obtain⟨its,r,pl,hz⟩:=I.tuple hq;obtain⟨as,ra⟩:=hs.reads I r;refine SeqAt.notIn_tupleAt (Bc s dx) pl (λw hw=>uG rb cx hu' ra cs w (by simpa using hw)) ⟨.bl _,H,I,rfl,?_⟩;rw[show its.toArray.any (Bc s dx)=its.any (Bc s dx) by simp,sD ra cs];exact q
end
end L2
namespace L2
open PySem PySem.Spec PyProof.Rows
section
variable {X:Cx}
end
end L2
namespace L2
open PySem PySem.Spec PyProof.Rows
section
variable {X:Cx}
def FR(ns:LI):Nat:=(firstMet (λi=>ns.getD i 0) ns.length).length
def HM(K:W.Frag)(ta:TA):TE:=λσ H Q=>ta σ H λvs H1=>∃l ns,vs=[.ref l]/\ig K H1 l (ns.map V.int)/\ns.length<64/\Q (.int (FR ns:Int)) H1
theorem BO{a:Expr}{ta:TA}{p1 p2 pos pos2:Pos}(hc:X.calm=true)(hg:Gl X "len")(hm:X.mg "len" = none)(hg2:Gl X "set")(hm2:X.mg "set" = none)(ha:PA X [a] ta)(hs:starEach [a] X.env=[(false,eval a X.env)]:=by rfl)
  (he:starEach [Expr.Call (.Name "set" p2) [a] [] pos2] X.env=[(false,eval (.Call (.Name "set" p2) [a] [] pos2) X.env)]:=by rfl) :
  PE X (.Call (.Name "len" p1) [.Call (.Name "set" p2) [a] [] pos2] [] pos) (HM X.K ta):=by
 intro dH s σ H Q I h;refine wpAny_Call_Name_kw (kl I hg hm (by decide +kernel:bootBuiltins "len" = some (.builtin "len")) ?_);refine PyProof.Rows.callWith_builtin1 ?_ he rfl;rw[he];show wpAny _ _ (spliced ((false,eval (.Call (.Name "set" p2) [a] [] pos2) X.env)::[])) _ _ s;refine Calls.spliced_cons (Call_ (kl I hg2 hm2 (by decide +kernel:bootBuiltins "set" = some (.type "set")) (PyProof.Rows.callWith_type1 (gp (ha pos2 dH s σ H _ I h) λus s1 ⟨vs,H1,I1,r1,q1⟩=>?_) hs rfl)));obtain⟨l,ns,rfl,hS,hl,q⟩:=q1;obtain⟨u,rfl,rx⟩:=ml r1;cases rx;obtain⟨its,rv,pl,hz⟩:=I1.list hS;have hi:=lW rv;have hZ:its.length=ns.length:=by have:=rv.length;rw[aw] at this;omega
 have hb:its.toArray.size+1<scanBound:=by
  have:70<=scanBound:=by decide
  show its.length+1<scanBound;omega
 refine call_set_list (I1.ok.hd hc) pl.isList hi hb λh' tk hset hk=>Calls.spliced_nil ?_;obtain⟨o,es,ep,t,g1,g2,g3,_,_,g4,g5,g6⟩:=hset;have hu:es.size=FR ns:=by rw[g6];unfold FR;rw[<-hZ];rfl
 have kk:∀b o,s1.heap.get? b=some o->h'.get? b=some o:=λb o e=>hk b o (aK e) e;have h1:scanBound<2 ^ 63:=by decide
 have h2:es.size<2 ^ 63:=Nat.lt_trans g4 h1;refine call_len_set (s:={s1 with heap:=h',toks:=tk}) g1 g2 g3 g5 (by exact_mod_cast h2) ?_;exact⟨.int (es.size:Int),H1,I1.kept (t':=tk+1+1) kk,⟨_,rfl⟩,by rw[hu];exact q⟩
end
end L2
namespace Cu
def G(a b:Int):Int:=(Int.gcd a b:Nat)
theorem Ep(a b:Int):G b (Int.fmod a b)=G a b:=by
 unfold G;have e:Int.fmod a b=a - b*Int.fdiv a b:=Int.fmod_def a b;rw[e];congr 1;apply Nat.dvd_antisymm
 ·apply Int.dvd_gcd
  ·have h1:=ck b (a - b*Int.fdiv a b);have h2:=cm b (a - b*Int.fdiv a b);have h3:=Int.dvd_add h2 (cn (c:=Int.fdiv a b) h1);have h4:a - b*Int.fdiv a b+b*Int.fdiv a b=a:=by omega
   rw[h4] at h3;exact h3
  ·exact ck b _
 ·apply Int.dvd_gcd
  ·exact cm a b
  ·exact Int.dvd_sub (ck a b) (cn (cm a b))
theorem yp(a b:Int)(h:b≠0):(Int.fmod a b).natAbs<b.natAbs:=by
 rcases Int.lt_or_gt_of_ne h with h' | h'
 ·have h1:=cq (-a) (show 0 < -b by omega);have h2:=cu (-a) (show 0 < -b by omega);rw[Int.neg_fmod_neg] at h1 h2;omega
 ·have h1:=cq a h';have h2:=cu a h';omega
theorem zE(a:Int):G a 0=(a.natAbs:Int):=by unfold G;rw[Int.gcd_zero_right]
theorem pR(a b:Int):0<=G a b:=Int.natCast_nonneg _
theorem wX(a b:Int)(h:b≠0):0<G a b:=by have:0<Int.gcd a b:=cv a h;unfold G;omega
theorem iO(a b:Int):G a b ∣ a:=ck a b
theorem iu(a b:Int):G a b ∣ b:=cm a b
theorem EI(a b:Int)(h:b≠0):G a b<=(b.natAbs:Int):=by have:=Int.natAbs_dvd_natAbs.mpr (iu a b);have h2:=Nat.le_of_dvd (by omega) this;have:=pR a b;omega
structure Im(t b p q:Int):Prop where
 pos:0<q
 one:G p q=1
 is:p*b=t*q
theorem oB{t b g p q:Int}(hb:b≠0)(hg:g≠0)(hG:g=G t b\/g = - G t b)(hs:0<q)(ht:t=g*p)(hb':b=g*q):Im t b p q:=by
 refine⟨hs,?_,?_⟩
 ·have h1:Int.gcd t b=g.natAbs*Int.gcd p q:=by rw[ht,hb',Int.gcd_mul_left]
  have h2:g.natAbs=Int.gcd t b:=by unfold G at hG;omega
  rw[h2] at h1;have h3:0<Int.gcd t b:=cv t hb;have h4:Int.gcd p q=1:=by
   have:Int.gcd t b*1=Int.gcd t b*Int.gcd p q:=by rw[<-h1,Nat.mul_one]
   exact (Nat.eq_of_mul_eq_mul_left h3 this).symm
  unfold G;rw[h4];rfl
 ·have:p*(g*q)=g*p*q:=by rw[<-cw,cy p g]
  rw[<-hb',<-ht] at this;exact this
theorem jN(g p:Int)(hg:g≠0):Int.fdiv (g*p) g=p:=by exact cz p hg
theorem yK(t b:Int)(hb:b≠0):Im t b (Int.fdiv t (if b<0 then - G t b else G t b)) (Int.fdiv b (if b<0 then - G t b else G t b)):=by
 have hG:=wX t b hb;obtain⟨p,hp⟩:=iO t b;obtain⟨q,hq⟩:=iu t b;by_cases h:b<0
 ·rw[aP h];have ht:t=(-G t b)*(-p):=by rw[Int.neg_mul_neg];exact hp
  have hb':b=(-G t b)*(-q):=by rw[Int.neg_mul_neg];exact hq
  have e1:Int.fdiv t (-G t b) = -p:=by have:=jN (-G t b) (-p) (by omega);rw[<-ht] at this;exact this
  have e2:Int.fdiv b (-G t b) = -q:=by have:=jN (-G t b) (-q) (by omega);rw[<-hb'] at this;exact this
  rw[e1,e2];refine oB (g:=-G t b) hb (by omega) (Or.inr rfl) ?_ ht hb';by_cases hq':0 < -q
  ·exact hq'
  ·exfalso;have:0<=q:=by omega
   have:=Int.mul_nonneg (az hG) this;omega
 ·rw[aQ h];have e1:Int.fdiv t (G t b)=p:=by have:=jN (G t b) p (by omega);rw[<-hp] at this;exact this
  have e2:Int.fdiv b (G t b)=q:=by have:=jN (G t b) q (by omega);rw[<-hq] at this;exact this
  rw[e1,e2];refine oB (g:=G t b) hb (by omega) (Or.inl rfl) ?_ hp hq;by_cases hq':0<q
  ·exact hq'
  ·exfalso;have:0<=-q:=by omega
   have:=Int.mul_nonneg (az hG) this;rw[Int.mul_neg] at this;omega
end Cu
namespace Cu
open PySem PyProof.Rows
open PySem.Builtin.Int (intBits)
theorem noPy{x y:Int}{m:Nat}(h:intBits y<=m)(hm:m<=8000):PySem.Builtin.divisionGoesByPylong x y=false:=by
 refine PyProof.noPylong_of_log2 ?_;rcases Nat.eq_zero_or_pos y.natAbs with h0 | hp
 ·rw[h0];decide
 ·refine (Nat.log2_lt (bp hp)).mpr ?_;exact lt_pow_of_bits h (by omega)
end Cu
namespace L2
open PySem PySem.Spec PyProof.Rows
theorem zZ{X:Cx}:ib X (.builtin "isinstance") (λxs H Q=>∃x T t b,xs=[x,.ty T]/\kH X.K H x t/\W.kitOne X.K t (.type T)=some b/\Q (.bl b) H):=by
 intro dH s σ H xs us Q I r h;obtain⟨x,T,t,b,rfl,ty,e,q⟩:=h;cases r with
 | cons r1 r2=>
  cases r2 with
  | cons r3 r4=>cases r4;cases (show _=Value.type T from r3);exact xB I r1 ty e λtk=>⟨.bl b,H,I.tok tk,rfl,q⟩
theorem Ft:bootBuiltins "isinstance" = some (.builtin "isinstance"):=by decide +kernel
theorem AM:bootBuiltins "abs" = some (.builtin "abs"):=by decide +kernel
theorem DM:bootBuiltins "int" = some (.type "int"):=by decide +kernel
theorem BN:bootBuiltins "bool" = some (.type "bool"):=by decide +kernel
theorem g9:bootBuiltins "tuple" = some (.type "tuple"):=by decide +kernel
theorem iS:bootBuiltins "len" = some (.builtin "len"):=by decide +kernel
end L2
namespace L2
open PySem PySem.W PySem.Spec PyProof.Rows
theorem yr{l:W.OpenLaw}{n k:Nat}{q:Program}{loose:List Str}{XP:(Str->Option Value)->Heap->Prop}{YP:World->Heap->Prop}{d:DefRec}{K:Params->W.Frag}{CX:xp}{sp:W.Frag->Sp}{x:Str}
  (hn:l.most=some n) (hn2:n<=sizeLine) (hdf:d.params.defaults=[]) (hr:fO k callerA)
  (hY:∀(w:World) (h:Heap),YP w h->(K w.params).In h)
  (F:∀(w:World) (mg:Str->Option Value) (fa:Addr) (h:Heap),(K w.params).In h->h.Ns mainGlobals mg->mg d.name=some (.ref fa)->
   ∃fd:FuncData,(∀(s:Shared) (u:Value),BindsTo s fd ⟨[u],[]⟩ [(x,u)])/\
    ∀base:Heap,(K w.params).In base->base.Ns mainGlobals mg->jB l.prog w (K w.params) mg base CX k fa fd [x] (sp (K w.params)))
  (hsp:∀(K:W.Frag) (H:Hp) (a:Addr) (ns:LI),ns.length<=n->(∀z∈ns,PySem.Builtin.Int.intBits z<=2 ^ 20)->E6 H->ig K H a (ns.map V.int)->sp K [.ref a] H (λv _=>v=.bl true) λ_ _ _=>False)
  (hCX:∀(H:Hp) (s:Shared) (e:Value) (s':Shared),CX [] H s (λ_ _ _=>False) e s'->False) :
  W.WalkO q loose XP YP l.row.toRowW d [] (λf vs=>PySem.call f vs):=by
 intro w s₀ s₁ mg mb G Y fa o pm cd doc dV kV ho hd hcd hD hmg hg args vals as hpre hlay hrd hwl hlo;obtain rfl:dV=.none:=Dflts.none hD hdf;obtain rfl:kV=.none:=Dflts.noKw hD;obtain⟨a,vs,ns,rfl,rfl,hobj,hints,hZ⟩:=Att.script_of hn hpre hwl;have hb:∀z∈ns,PySem.Builtin.Int.intBits z<=2 ^ 20:=λz hz=>by have h1:=(layW_cons hlay).1;have h2:=layableW_item h1 (WData.int z) (aC.mpr ⟨z,hz,rfl⟩);exact PyData.bits_of_layable (layable_int h2)
 have KX:=hY w _ Y;obtain⟨fd,hbd,hF⟩:=F w mg fa _ KX G.T.g hmg;refine enter_call (codeAny_mono (yI KX G.T.g G.T.b G.T.builtins G.T.nolimit hg hobj hints (aM hZ hn2) hr hF hbd (λH hO hS=>hsp _ H a ns hZ hb hO hS) λH e s'=>hCX H s₁ e s') λr s' hq=>?_);obtain⟨rfl,h2,h3,h4⟩:=hq;exact⟨.inl ⟨.bool true,.bool true,[],rfl,λ_=>rfl,.bool true,Att.post_true l _,λ_=>⟨List.Pairwise.nil,λ_ hm=>(nomatch hm)⟩⟩,h2,h3,h4⟩
end L2
namespace Cu
open PySem PyProof.Rows
open PySem.Builtin.Int (intBits)
end Cu
namespace L2
end L2
namespace Cu
open PySem PyProof.Rows
open PySem.Builtin.Int (intBits)
end Cu
namespace L2
open PySem PySem.Spec PyProof.Rows
end L2
namespace C4
def Par(c e:LI):Prop:=∀i j,i<c.length->j<c.length->c.getD i 0*e.getD j 0=c.getD j 0*e.getD i 0
theorem par_of_place{c e:LI}{p:Nat}(hp:c.getD p 0≠0)(h:∀i,i<c.length->c.getD i 0*e.getD p 0=e.getD i 0*c.getD p 0):Par c e:=λi j hi hj=>by have h1:=h i hi;have h2:=h j hj;refine Int.eq_of_mul_eq_mul_right hp ?_;have a1:c.getD i 0*e.getD j 0*c.getD p 0=c.getD i 0*(e.getD j 0*c.getD p 0):=cw _ _ _;have a2:c.getD j 0*e.getD i 0*c.getD p 0=c.getD j 0*(e.getD i 0*c.getD p 0):=cw _ _ _;rw[a1,a2,<-h1,<-h2,<-cw,<-cw,cy (c.getD i 0) (c.getD j 0)]
end C4
namespace L3
open PySem L2
inductive T where
 | non | bl (b:Bool) | int (i:Int) | str (x:Str)
 | tup (ts:List T) | lst (ts:List T) | scr (ns:LI)
 | obj (C:Addr) (fs:List (Str×T)) | emp
inductive M(α:Type) where
 | bad | ok (a:α) | er (C:Addr) (n:Option Int)
namespace M
noncomputable def bind{α β:Type}(m:M α)(k:α->M β):M β:=match m with
 | .bad=>.bad
 | .ok a=>k a
 | .er C n=>.er C n
instance:Monad M where
 pure:=.ok
 bind:=M.bind
noncomputable def res{α:Type}(m:M α)(P:α->Prop)(E:Addr->Option Int->Prop):Prop:=match m with
 | .bad=>False
 | .ok a=>P a
 | .er C n=>E C n
theorem res.unb{α β:Type}{m:M α}{k:α->M β}{P:β->Prop}{E:Addr->Option Int->Prop}(h:res (m.bind k) P E):res m (λa=>res (k a) P E) E:=by cases m<;>exact h
theorem res.mono{α:Type}{m:M α}{P P':α->Prop}{E E':Addr->Option Int->Prop}(h:res m P E)(hP:∀a,P a->P' a)(hE:∀C n,E C n->E' C n):res m P' E':=by
 cases m with
 | bad=>exact h
 | ok a=>exact hP a h
 | er C n=>exact hE C n h
noncomputable def noEr{α:Type}(m:M α):M α:=match m with
 | .er _ _=>.bad
 | m=>m
theorem res.noEr{α:Type}{m:M α}{P:α->Prop}{E E':Addr->Option Int->Prop}(h:res m.noEr P E):res m P E':=by
 cases m with
 | bad=>exact h
 | ok a=>exact h
 | er C n=>exact h.elim
@[simp] theorem bind_ok{α β:Type}(a:α)(k:α->M β):M.bind (.ok a) k=k a:=rfl
@[simp] theorem Gz{α β:Type}(k:α->M β):M.bind (.bad:M α) k=.bad:=rfl
@[simp] theorem Hr{α β:Type}(C:Addr)(n:Option Int)(k:α->M β):M.bind (.er C n:M α) k=.er C n:=rfl
noncomputable def NoE{α:Type}(m:M α):Prop:=∀C n,m≠.er C n
theorem res.ne{α:Type}{m:M α}{P:α->Prop}{E E':Addr->Option Int->Prop}(h:res m P E)(ne:NoE m):res m P E':=by
 cases m with
 | bad=>exact h
 | ok a=>exact h
 | er C n=>exact absurd rfl (ne C n)
@[simp] theorem noEr_ok{α:Type}(a:α):noEr (.ok a)=.ok a:=rfl
end M
mutual
inductive iz(K:W.Frag)(F:Hp):V->T->Prop
 | non:iz K F .non .non
 | bl (b:Bool):iz K F (.bl b) (.bl b)
 | int (i:Int):iz K F (.int i) (.int i)
 | str (x:Str):iz K F (.str x) (.str x)
 | tup {a:Addr} {xs:List V} {ts:List T} (h:F a=some (.tup xs)) (r:ek K F xs ts):iz K F (.ref a) (.tup ts)
 | lst {a:Addr} {xs:List V} {ts:List T} (h:F a=some (.lst xs)) (r:ek K F xs ts):iz K F (.ref a) (.lst ts)
 | scr {a:Addr} {ns:LI} (h:ig K F a (ns.map V.int)):iz K F (.ref a) (.scr ns)
 | obj {a C dx:Addr} {fs:List (Str×V)} {ts:List (Str×T)} (h:F a=some (.ins C dx fs)) (r:jW K F fs ts):iz K F (.ref a) (.obj C ts)
 | emp {a:Addr} (h:F a=some (.dK [])):iz K F (.ref a) .emp
inductive ek(K:W.Frag)(F:Hp):List V->List T->Prop
 | nil:ek K F [] []
 | cons {v:V} {t:T} {vs:List V} {ts:List T} (h:iz K F v t) (r:ek K F vs ts):ek K F (v::vs) (t::ts)
inductive jW(K:W.Frag)(F:Hp):List (Str×V)->List (Str×T)->Prop
 | nil:jW K F [] []
 | cons {x:Str} {v:V} {t:T} {vs:List (Str×V)} {ts:List (Str×T)} (h:iz K F v t) (r:jW K F vs ts):jW K F ((x,v)::vs) ((x,t)::ts)
end
section
variable {K:W.Frag}{F F':Hp}
mutual
theorem iz.mono(s:eB F F'):∀{v:V} {t:T},iz K F v t->iz K F' v t
 | _,_,.non=>.non
 | _,_,.bl b=>.bl b
 | _,_,.int i=>.int i
 | _,_,.str x=>.str x
 | _,_,.tup h r=>.tup (s _ _ h) (ek.mono s r)
 | _,_,.lst h r=>.lst (s _ _ h) (ek.mono s r)
 | _,_,.scr h=>.scr (s.seq h)
 | _,_,.obj h r=>.obj (s _ _ h) (jW.mono s r)
 | _,_,.emp h=>.emp (s _ _ h)
theorem ek.mono(s:eB F F'):∀{vs:List V} {ts:List T},ek K F vs ts->ek K F' vs ts
 | _,_,.nil=>.nil
 | _,_,.cons h r=>.cons (iz.mono s h) (ek.mono s r)
theorem jW.mono(s:eB F F'):∀{vs:List (Str×V)} {ts:List (Str×T)},jW K F vs ts->jW K F' vs ts
 | _,_,.nil=>.nil
 | _,_,.cons h r=>.cons (iz.mono s h) (jW.mono s r)
end
theorem ek.length:∀{vs:List V} {ts:List T},ek K F vs ts->vs.length=ts.length
 | _,_,.nil=>rfl
 | _,_,.cons _ r=>by rw[ay,ay,ek.length r]
theorem ek.get:∀{vs:List V} {ts:List T} {i:Nat} {t:T},ek K F vs ts->ts[i]? = some t->∃v,vs[i]? = some v/\iz K F v t
 | _,_,_,_,.nil,e=>by simp at e
 | _,_,0,_,.cons h _,e=>by simp at e;subst e;exact⟨_,rfl,h⟩
 | _,_,i+1,_,.cons _ r,e=>by obtain⟨v,e',h⟩:=ek.get (i:=i) r (by simpa using e);exact⟨v,by simpa using e',h⟩
theorem ek.at_{vs:List V}{ts:List T}{i:Nat}{v:V}(r:ek K F vs ts)(e:vs[i]? = some v):∃t,ts[i]? = some t/\iz K F v t:=by
 have hi:i<ts.length:=by rw[<-r.length];exact (aa.mp e).1
 obtain⟨v',e',h⟩:=r.get (ag hi);rw[e] at e';cases e';exact⟨_,ag hi,h⟩
theorem ek.append:∀{vs us:List V} {ts ss:List T},ek K F vs ts->ek K F us ss->ek K F (vs++us) (ts++ss)
 | _,_,_,_,.nil,q=>q
 | _,_,_,_,.cons h r,q=>.cons h (ek.append r q)
theorem ek.set{v:V}{t:T}(q:iz K F v t):∀{vs:List V} {ts:List T} (i:Nat),ek K F vs ts->ek K F (vs.set i v) (ts.set i t)
 | _,_,_,.nil=>.nil
 | _,_,0,.cons _ r=>.cons q r
 | _,_,i+1,.cons h r=>.cons h (ek.set q i r)
theorem ek.take:∀{vs:List V} {ts:List T} (n:Nat),ek K F vs ts->ek K F (vs.take n) (ts.take n)
 | _,_,0,_=>.nil
 | _,_,_+1,.nil=>.nil
 | _,_,n+1,.cons h r=>.cons h (ek.take n r)
theorem ek.drop:∀{vs:List V} {ts:List T} (n:Nat),ek K F vs ts->ek K F (vs.drop n) (ts.drop n)
 | _,_,0,r=>r
 | _,_,_+1,.nil=>.nil
 | _,_,n+1,.cons _ r=>ek.drop n r
theorem ek.rep:∀{vs:List V} {ts:List T} (n:Nat),ek K F vs ts->ek K F (List.replicate n vs).flatten (List.replicate n ts).flatten
 | _,_,0,_=>.nil
 | _,_,n+1,r=>by rw[bR,bR,bS,bS];exact r.append (ek.rep n r)
theorem ek.ints:∀{vs:List V} {ns:LI},ek K F vs (ns.map T.int)->vs=ns.map V.int
 | _,[],.nil=>rfl
 | _,_::_,.cons h r=>by cases h;rw[ek.ints r];rfl
theorem ek.bls:∀{vs:List V} {ns:List Bool},ek K F vs (ns.map T.bl)->vs=ns.map V.bl
 | _,[],.nil=>rfl
 | _,_::_,.cons h r=>by cases h;rw[ek.bls r];rfl
theorem ek.of_ints:∀(ns:LI),ek K F (ns.map V.int) (ns.map T.int)
 | []=>.nil
 | n::ns=>.cons (.int n) (ek.of_ints ns)
theorem jW.look{f:Str}{t:T}:∀{fs:List (Str×V)} {ts:List (Str×T)},jW K F fs ts->ts.lookup f=some t->∃v,fs.lookup f=some v/\iz K F v t
 | _,_,.nil,e=>by cases e
 | _,_,.cons (x:=x) h r,e=>by
  by_cases hx:f=x
  ·subst hx;rw[cA] at e;cases e;exact⟨_,cA,h⟩
  ·have hb:(f == x)=false:=by simpa using hx
   rw[bX,hb] at e;obtain⟨v,e',h'⟩:=jW.look r e;exact⟨v,by rw[bX,hb];exact e',h'⟩
theorem jW.none_{f:Str}:∀{fs:List (Str×V)} {ts:List (Str×T)},jW K F fs ts->ts.lookup f=none->fs.lookup f=none
 | _,_,.nil,e=>rfl
 | _,_,.cons (x:=x) h r,e=>by
  by_cases hx:f=x
  ·subst hx;rw[cA] at e;cases e
  ·have hb:(f == x)=false:=by simpa using hx
   rw[bX,hb] at e ⊢;exact jW.none_ r e
end
structure Gr(F H F' H':Hp):Prop where
 ff:eB F F'
 fh:eB F' H'
 hh:eB H H'
 nw:∀a,F' a≠none->F a≠none\/H a=none\/∃xs,H a=some (.tup xs)
theorem Gr.refl{F H:Hp}(h:eB F H):Gr F H F H:=⟨.refl _,h,.refl _,λ_ h=>.inl h⟩
theorem eJ{H H':Hp}(h:eB H H'){a:Addr}(e:H' a=none):H a=none:=by
 cases q:H a with
 | none=>rfl
 | some o=>rw[h a o q] at e;cases e
theorem Gr.trans{F H F' H' F'' H'':Hp}(g:Gr F H F' H')(g':Gr F' H' F'' H''):Gr F H F'' H'':=
 ⟨g.ff.trans g'.ff,g'.fh,g.hh.trans g'.hh,λa ha=>by
  rcases g'.nw a ha with q | q | ⟨xs,q⟩
  ·exact g.nw a q
  ·exact .inr (.inl (eJ g.hh q))
  ·cases z:H a with
   | none=>exact .inr (.inl rfl)
   | some o=>exact .inr (.inr ⟨xs,by rw[g.hh a o z] at q;exact q⟩)⟩
theorem Gr.new{F H:Hp}{p:Addr}{o:HO}(s:eB F H)(h:H p=none):Gr F H (gC F p o) (gC H p o):=by
 have hf:F p=none:=eJ s h;refine⟨λb u e=>?_,λb u e=>?_,λb u e=>?_,λb hb=>?_⟩
 ·rw[ei (eG e hf)];exact e
 ·by_cases q:b=p
  ·subst q;rw[d8] at e ⊢;exact e
  ·rw[ei q] at e ⊢;exact s b u e
 ·rw[ei (eG e h)];exact e
 ·by_cases q:b=p
  ·subst q;exact .inr (.inl h)
  ·rw[ei q] at hb;exact .inl hb
theorem Gr.new'{F H:Hp}{p:Addr}{o:HO}(s:eB F H)(h:H p=none):Gr F H F (gC H p o):=by
 refine⟨.refl _,λb u e=>?_,λb u e=>?_,λb hb=>.inl hb⟩
 ·rw[ei (eG (s b u e) h)];exact s b u e
 ·rw[ei (eG e h)];exact e
theorem Gr.take{F0 H0 F H:Hp}{p:Addr}{o:HO}(g:Gr F0 H0 F H)(h:H p=some o)(hf:F p=none)(h0:H0 p=none):Gr F0 H0 (gC F p o) H:=by
 refine⟨λb u e=>?_,λb u e=>?_,g.hh,λb hb=>?_⟩
 ·rw[ei (eG (g.ff b u e) hf)];exact g.ff b u e
 ·by_cases q:b=p
  ·subst q;rw[d8] at e;rw[<-e];exact h
  ·rw[ei q] at e;exact g.fh b u e
 ·by_cases q:b=p
  ·subst q;exact .inr (.inl h0)
  ·rw[ei q] at hb;exact g.nw b hb
theorem jR{F:Hp}{p:Addr}{o:HO}(hf:F p=none):eB F (gC F p o):=λb u e=>by rw[ei (eG e hf)];exact e
abbrev Pe:=List (Option T)
section
variable (K:W.Frag)
def iE(F:Hp)(σ:St)(ρ:Pe):Prop:=∀(i:Nat) (t:T),ρ[i]? = some (some t)->∃v,σ[i]? = some (some v)/\iz K F v t
theorem iE.mono{K:W.Frag}{F F':Hp}{σ:St}{ρ:Pe}(h:iE K F σ ρ)(s:eB F F'):iE K F' σ ρ:=λi t e=>let ⟨v,a,b⟩:=h i t e;⟨v,a,b.mono s⟩
def IA(E:XK)(C:Addr)(n:Option Int)(F H:Hp):Prop:=match n with
 | none=>E (.ref C) none H
 | some i=>∀dx,F dx=some (.xd [("at",.int i)])->E (.ref C) (some dx) H
def kE(E:XK)(F H:Hp)(C:Addr)(n:Option Int):Prop:=∀F' H',Gr F H F' H'->IA E C n F' H'
theorem kE.go{E:XK}{F H F1 H1:Hp}{C:Addr}{n:Option Int}(h:kE E F H C n)(g:Gr F H F1 H1):kE E F1 H1 C n:=λF' H' g'=>h F' H' (g.trans g')
def kV(F H:Hp)(Q:VK)(t:T):Prop:=∀v F' H',Gr F H F' H'->iz K F' v t->Q v H'
def kB(F H:Hp)(Q:Bool->Hp->Prop)(b:Bool):Prop:=∀F' H',Gr F H F' H'->Q b H'
def kA(F H:Hp)(Q:List V->Hp->Prop)(ts:List T):Prop:=∀vs F' H',Gr F H F' H'->ek K F' vs ts->Q vs H'
def kF(F H:Hp)(Q:VK)(ts:List T):Prop:=∀l vs F' H',Gr F H F' H'->H l=none->F' l=none->H' l=some (.lst vs)->ek K F' vs ts->Q (.ref l) H'
noncomputable def ME(E:XK)(t:TE)(f:Pe->M T):Prop:=∀F H σ ρ Q,eB F H->iE K F σ ρ->(f ρ).res (kV K F H Q) (kE E F H)->t σ H Q
noncomputable def MT(E:XK)(t:TT)(f:Pe->M Bool):Prop:=∀F H σ ρ Q,eB F H->iE K F σ ρ->(f ρ).res (kB F H Q) (kE E F H)->t σ H Q
noncomputable def MA(E:XK)(t:TA)(f:Pe->M (List T)):Prop:=∀F H σ ρ Q,eB F H->iE K F σ ρ->(f ρ).res (kA K F H Q) (kE E F H)->t σ H Q
noncomputable def MF(E:XK)(t:TE)(f:Pe->M (List T)):Prop:=∀F H σ ρ Q,eB F H->iE K F σ ρ->(f ρ).res (kF K F H Q) (kE E F H)->t σ H Q
end
section
variable {K:W.Frag}{E:XK}{t u ta tb:TE}{f g fa fb:Pe->M T}
theorem kV.go{F H F1 H1:Hp}{Q:VK}{t:T}(h:kV K F H Q t)(g:Gr F H F1 H1):kV K F1 H1 Q t:=λv F' H' g' r=>h v F' H' (g.trans g') r
theorem kB.go{F H F1 H1:Hp}{Q:Bool->Hp->Prop}{t:Bool}(h:kB F H Q t)(g:Gr F H F1 H1):kB F1 H1 Q t:=λF' H' g'=>h F' H' (g.trans g')
theorem kF.go{F H F1 H1:Hp}{Q:VK}{t:List T}(h:kF K F H Q t)(g:Gr F H F1 H1):kF K F1 H1 Q t:=λl vs F' H' g' a b c d=>h l vs F' H' (g.trans g') (eJ g.hh a) b c d
theorem kV.now{F H:Hp}{Q:VK}{t:T}{v:V}(h:kV K F H Q t)(s:eB F H)(r:iz K F v t):Q v H:=h v F H (.refl s) r
theorem kF.of{F H:Hp}{Q:VK}{ts:List T}(h:kV K F H Q (.lst ts)):kF K F H Q ts:=λl vs F' H' g hl hf hl' r=>h (.ref l) (gC F' l (.lst vs)) H' (g.take hl' hf hl) (.lst d8 (r.mono (jR hf)))
theorem MF.me{f:Pe->M (List T)}(h:MF K E t f):ME K E t (λρ=>(f ρ).bind λts=>.ok (.lst ts)):=λF H σ ρ Q s V r=>h F H σ ρ Q s V ((M.res.unb r).mono (λts q=>kF.of q) λ_ _ z=>z)
theorem ME.run{F H:Hp}{σ:St}{ρ:Pe}{Q:VK}{α:Type}{k:T->M α}{P:α->Prop}(h:ME K E t f)(s:eB F H)(v:iE K F σ ρ)(r:((f ρ).bind k).res P (kE E F H))
  (hk:∀x w F' H',Gr F H F' H'->iz K F' w x->(k x).res P (kE E F' H')->Q w H'):t σ H Q:=
 h F H σ ρ Q s v ((M.res.unb r).mono (λx q w F' H' g rp=>hk x w F' H' g rp (q.mono (λ_ z=>z) λ_ _ z=>z.go g)) λ_ _ z=>z)
theorem MT.run{t:TT}{f:Pe->M Bool}{F H:Hp}{σ:St}{ρ:Pe}{Q:Bool->Hp->Prop}{α:Type}{k:Bool->M α}{P:α->Prop}(h:MT K E t f)(s:eB F H)(v:iE K F σ ρ)(r:((f ρ).bind k).res P (kE E F H))
  (hk:∀x F' H',Gr F H F' H'->(k x).res P (kE E F' H')->Q x H'):t σ H Q:=
 h F H σ ρ Q s v ((M.res.unb r).mono (λx q F' H' g=>hk x F' H' g (q.mono (λ_ z=>z) λ_ _ z=>z.go g)) λ_ _ z=>z)
theorem MA.run{t:TA}{f:Pe->M (List T)}{F H:Hp}{σ:St}{ρ:Pe}{Q:List V->Hp->Prop}{α:Type}{k:List T->M α}{P:α->Prop}(h:MA K E t f)(s:eB F H)(v:iE K F σ ρ)(r:((f ρ).bind k).res P (kE E F H))
  (hk:∀x w F' H',Gr F H F' H'->ek K F' w x->(k x).res P (kE E F' H')->Q w H'):t σ H Q:=
 h F H σ ρ Q s v ((M.res.unb r).mono (λx q w F' H' g rp=>hk x w F' H' g rp (q.mono (λ_ z=>z) λ_ _ z=>z.go g)) λ_ _ z=>z)
@[simp] noncomputable def dG(i:Nat):Pe->M T:=λρ=>match ρ[i]? with
 | some (some t)=>.ok t
 | _=>.bad
theorem Fi{i:Nat}:ME K E (kQ i) (dG i):=λF H σ ρ Q s V r=>by
 unfold dG at r;split at r
 ·rename_i t e;obtain⟨v,e',h⟩:=V i t e;exact⟨v,e',r.now s h⟩
 ·exact r.elim
@[simp] noncomputable def cM(t:T):Pe->M T:=λ_=>.ok t
theorem B7{v:V}{t:T}(h:∀F,iz K F v t):ME K E (tC v) (cM t):=λF H σ ρ Q s V r=>kV.now r s (h F)
@[simp] noncomputable def dY(o:T->T->M T)(fa fb:Pe->M T):Pe->M T:=λρ=>(fa ρ).bind λx=>(fb ρ).bind λy=>o x y
structure MR(K:W.Frag)(r:R2)(o:T->T->M T):Prop where
 ne:∀x y,M.NoE (o x y)
 ok:∀F H v w x y Q,eB F H->iz K F v x->iz K F w y->(o x y).res (kV K F H Q) (λ_ _=>False)->r v w H Q
theorem wO{r:R2}{o:T->T->M T}(hr:MR K r o)(ha:ME K E ta fa)(hb:ME K E tb fb):ME K E (pU r ta tb) (dY o fa fb):=λF H σ ρ Q s V q=>by refine ha.run s V q λx v F1 H1 g1 r1 q1=>?_;refine hb.run (P:=kV K F H Q) g1.fh (V.mono g1.ff) q1 λy w F2 H2 g2 r2 q2=>?_;exact hr.ok F2 H2 v w x y Q g2.fh (r1.mono g2.ff) r2 ((q2.ne (hr.ne x y)).mono (λ_ z=>z.go (g1.trans g2)) λ_ _ z=>z)
noncomputable def ir(C:Int->Int->Bool)(g:Int->Int->T):T->T->M T
 | .int i,.int j=>if C i j then .ok (g i j) else .bad
 | _,_=>.bad
theorem sQ{C:Int->Int->Bool}{g:Int->Int->T}(x y:T):M.NoE (ir C g x y):=λC' n=>by
 unfold ir;split
 ·split<;>exact λz=>nomatch z
 ·exact λz=>nomatch z
theorem sC{C:Int->Int->Prop}{Cb:Int->Int->Bool}{g:Int->Int->V}{gt:Int->Int->T}(hc:∀i j,Cb i j=true->C i j)(hg:∀F i j,iz K F (g i j) (gt i j)):MR K (rI C g) (ir Cb gt):=⟨sQ,λF H v w x y Q s a b q=>by
  cases a<;>cases b<;>first
    | exact q.elim
    | (rename_i i j
       unfold ir at q
       by_cases h:Cb i j=true
       · simp only[h,if_true] at q
         exact⟨i,j,rfl,rfl,hc i j h,kV.now q s (hg F i j)⟩
       · simp only[h] at q
         exact q.elim)⟩
theorem mI{g:Int->Int->V}{gt:Int->Int->T}(hg:∀F i j,iz K F (g i j) (gt i j)):MR K (uW g) (ir (λ_ _=>true) gt):=⟨sQ,λF H v w x y Q s a b q=>by
 cases a<;>cases b<;>first
  | exact q.elim
  | exact⟨_,_,rfl,rfl,kV.now q s (hg F _ _)⟩⟩
@[simp] noncomputable def qG(o:Int->T)(fa:Pe->M T):Pe->M T:=λρ=>(fa ρ).bind λx=>match x with
 | .int i=>.ok (o i)
 | _=>.bad
theorem Ha{g:Int->V}{gt:Int->T}(hg:∀F i,iz K F (g i) (gt i))(ha:ME K E ta fa):ME K E (HE (rU g) ta) (qG gt fa):=λF H σ ρ Q s V q=>by
 refine ha.run s V q λx v F1 H1 g1 r1 q1=>?_;cases r1<;>first
  | exact q1.elim
  | exact⟨_,rfl,(q1:kV K F H Q _) _ F1 H1 g1 (hg F1 _)⟩
@[simp] noncomputable def fM(fa:Pe->M T):Pe->M Bool:=λρ=>(fa ρ).bind λx=>match x with
 | .bl b=>.ok b
 | _=>.bad
theorem Bf(ha:ME K E ta fa):MT K E (tB ta) (fM fa):=λF H σ ρ Q s V q=>by
 refine ha.run s V q λx v F1 H1 g1 r1 q1=>?_;cases r1<;>first
  | exact q1.elim
  | exact⟨_,rfl,(q1:kB F H Q _) F1 H1 g1⟩
theorem wD(ha:ME K E ta fa):MT K E (nJ ta) (fM fa):=Bf ha
section
variable {c d:TT}{fc fd:Pe->M Bool}
@[simp] noncomputable def m8(fc fd:Pe->M Bool):Pe->M Bool:=λρ=>(fc ρ).bind λb=>if b then fd ρ else .ok false
@[simp] noncomputable def tq(fc fd:Pe->M Bool):Pe->M Bool:=λρ=>(fc ρ).bind λb=>if b then .ok true else fd ρ
@[simp] noncomputable def kv(fc:Pe->M Bool):Pe->M Bool:=λρ=>(fc ρ).bind λb=>.ok (!b)
theorem Ee(hc:MT K E c fc)(hd:MT K E d fd):MT K E (EZ c d) (m8 fc fd):=λF H σ ρ Q s V q=>by
 refine hc.run s V q λb F1 H1 g1 q1=>?_;cases b with
 | true=>rw[aP rfl];exact hd F1 H1 σ ρ Q g1.fh (V.mono g1.ff) (q1.mono (λ_ z=>z.go g1) λ_ _ z=>z)
 | false=>rw[aQ aG];exact (q1:kB F H Q false) F1 H1 g1
theorem GE(hc:MT K E c fc)(hd:MT K E d fd):MT K E (HZ c d) (tq fc fd):=λF H σ ρ Q s V q=>by
 refine hc.run s V q λb F1 H1 g1 q1=>?_;cases b with
 | true=>rw[aP rfl];exact (q1:kB F H Q true) F1 H1 g1
 | false=>rw[aQ aG];exact hd F1 H1 σ ρ Q g1.fh (V.mono g1.ff) (q1.mono (λ_ z=>z.go g1) λ_ _ z=>z)
theorem Fs(hc:MT K E c fc):MT K E (DP c) (kv fc):=λF H σ ρ Q s V q=>by refine hc.run s V q λb F1 H1 g1 q1=>?_;exact (q1:kB F H Q (!b)) F1 H1 g1
@[simp] noncomputable def FW(fc:Pe->M Bool)(fa fb:Pe->M T):Pe->M T:=λρ=>(fc ρ).bind λb=>if b then fa ρ else fb ρ
theorem G2(hc:MT K E c fc)(ha:ME K E ta fa)(hb:ME K E tb fb):ME K E (H9 c ta tb) (FW fc fa fb):=λF H σ ρ Q s V q=>by
 refine hc.run s V q λb F1 H1 g1 q1=>?_;cases b with
 | true=>rw[aP rfl];exact ha F1 H1 σ ρ Q g1.fh (V.mono g1.ff) (q1.mono (λ_ z=>z.go g1) λ_ _ z=>z)
 | false=>rw[aQ aG];exact hb F1 H1 σ ρ Q g1.fh (V.mono g1.ff) (q1.mono (λ_ z=>z.go g1) λ_ _ z=>z)
end
@[simp] noncomputable def zY(fa fb:Pe->M T):Pe->M T:=λρ=>(fM fa ρ).bind λb=>if b then fb ρ else .ok (.bl false)
@[simp] noncomputable def yQ(fa:Pe->M T):Pe->M T:=λρ=>(fM fa ρ).bind λb=>.ok (.bl (!b))
theorem CQ(ha:ME K E ta fa)(hb:ME K E tb fb):ME K E (AZ ta tb) (zY fa fb):=λF H σ ρ Q s V q=>by
 refine (Bf ha).run (Q:=λc H1=>if c=true then tb σ H1 Q else Q (.bl false) H1) s V q λb F1 H1 g1 q1=>?_;cases b with
 | true=>rw[aP rfl];exact hb F1 H1 σ ρ Q g1.fh (V.mono g1.ff) (q1.mono (λ_ z=>z.go g1) λ_ _ z=>z)
 | false=>rw[aQ aG];exact (q1:kV K F H Q _) _ F1 H1 g1 (.bl _)
theorem BV(ha:ME K E ta fa):ME K E (zO ta) (yQ fa):=λF H σ ρ Q s V q=>by refine (Bf ha).run (Q:=λc H1=>Q (.bl (!c)) H1) s V q λb F1 H1 g1 q1=>?_;exact (q1:kV K F H Q _) _ F1 H1 g1 (.bl _)
@[simp] noncomputable def dF(fa:Pe->M T)(fr:Pe->M (List T)):Pe->M (List T):=λρ=>(fa ρ).bind λx=>(fr ρ).bind λxs=>.ok (x::xs)
@[simp] noncomputable def dM:Pe->M (List T):=λ_=>.ok []
theorem vz:MA K E qg dM:=λF H σ ρ Q s V q=>(q:kA K F H Q []) [] F H (.refl s) .nil
theorem CY{tr:TA}{fr:Pe->M (List T)}(ha:ME K E ta fa)(hr:MA K E tr fr):MA K E (nU ta tr) (dF fa fr):=λF H σ ρ Q s V q=>by refine ha.run s V q λx v F1 H1 g1 r1 q1=>?_;refine hr.run (P:=kA K F H Q) g1.fh (V.mono g1.ff) q1 λxs ws F2 H2 g2 r2 q2=>?_;exact (q2:kA K F H Q (x::xs)) (v::ws) F2 H2 (g1.trans g2) (.cons (r1.mono g2.ff) r2)
@[simp] noncomputable def rZ(ts:List T):M (List T):=if ts.length<=sizeLine then .ok ts else .bad
@[simp] noncomputable def jt(fr:Pe->M (List T)):Pe->M T:=λρ=>(fr ρ).bind λts=>(rZ ts).bind λts=>.ok (.tup ts)
@[simp] noncomputable def lstM(fr:Pe->M (List T)):Pe->M (List T):=λρ=>(fr ρ).bind rZ
theorem DY{tr:TA}{fr:Pe->M (List T)}(hr:MA K E tr fr):ME K E (EW tr) (jt fr):=λF H σ ρ Q s V q=>by
 refine hr.run s V q λxs ws F1 H1 g1 r1 q1=>?_;unfold rZ at q1;by_cases h:xs.length<=sizeLine
 ·rw[aP h] at q1;refine⟨by rw[r1.length];exact h,λp hp=>?_⟩;exact (q1:kV K F H Q (.tup xs)) (.ref p) _ _ (g1.trans (.new g1.fh hp)) (.tup d8 (r1.mono (Gr.new g1.fh hp).ff))
 ·rw[aQ h] at q1;exact q1.elim
theorem Fc{tr:TA}{fr:Pe->M (List T)}(hr:MA K E tr fr):MF K E (EC tr) (lstM fr):=λF H σ ρ Q s V q=>by
 refine hr.run s V q λxs ws F1 H1 g1 r1 q1=>?_;unfold rZ at q1;by_cases h:xs.length<=sizeLine
 ·rw[aP h] at q1;refine⟨by rw[r1.length];exact h,λp hp=>?_⟩;exact (q1:kF K F H Q xs) p ws F1 _ (g1.trans (.new' g1.fh hp)) (eJ g1.hh hp) (eJ g1.fh hp) d8 r1
 ·rw[aQ h] at q1;exact q1.elim
end
end L3
namespace L3
open PySem L2
inductive W where
 | p (t:T) | o (ts:List T) | d (kvs:List (LI×T))
abbrev En:=List (Option W)
@[simp] def Ie:Option W->Option T
 | some (.p t)=>some t
 | _=>none
@[simp] def Iu:Option W->Option T
 | some (.p t)=>some t
 | some (.o ts)=>some (.lst ts)
 | _=>none
@[simp] def lE(ρ:En):Pe:=ρ.map Ie
@[simp] def vw(ρ:En):Pe:=ρ.map Iu
mutual
@[simp] def lf:T->Bool
 | .lst _=>false
 | .scr _=>false
 | .tup ts=>yB ts
 | .obj _ fs=>Hg fs
 | _=>true
@[simp] def yB:List T->Bool
 | []=>true
 | t::ts=>lf t&&yB ts
def Hg:List (Str×T)->Bool
 | []=>true
 | t::ts=>lf t.2&&Hg ts
end
structure Fz where
 hp:Hp
 lt:List (Nat×Addr×List V)
instance:Coe Fz Hp:=⟨Fz.hp⟩
structure Lv(H0 F H:Hp)(σ:St)(ρ:En)(e:Nat×Addr×List V):Prop where
 h:H e.2.1=some (.lst e.2.2)
 f:F e.2.1=none
 z:H0 e.2.1=none
 d:∀(i:Nat) (ts:List T),ρ[i]? = some (some (.o ts))->σ[i]?≠some (some (.ref e.2.1))
def DR(K:W.Frag)(F:Hp)(xs:List (List om×V))(kvs:List (LI×T)):Prop:=Paired (λ(p:List om×V) (q:LI×T)=>p.1=q.1.map Sum.inl/\iz K F p.2 q.2) xs kvs
theorem DR.mono{K:W.Frag}{F F':Hp}(s:eB F F'){xs:List (List om×V)}{kvs:List (LI×T)}(h:DR K F xs kvs):DR K F' xs kvs:=Paired.imp' (λ_ _ q=>⟨q.1,q.2.mono s⟩) h
structure Dv(K:W.Frag)(H0 F H:Hp)(σ:St)(ρ:En):Prop where
 at_:∀(i:Nat) kvs,ρ[i]? = some (some (.d kvs))->∃a,σ[i]? = some (some (.ref a))/\F a=none/\H0 a=none/\∃xs,H a=some (.dT xs)/\DR K F xs kvs
 dj:∀(i j:Nat) kvs kvs',ρ[i]? = some (some (.d kvs))->ρ[j]? = some (some (.d kvs'))->i≠j->σ[i]?≠σ[j]?
theorem xX{α:Type}{l:List α}{i:Nat}{x y:α}(h:(l.set i x)[i]? = some y):y=x:=by
 rw[List.getElem?_set] at h;simp only[if_true] at h;split at h
 ·exact (Option.some.inj h).symm
 ·cases h
theorem yb{α:Type}{l:List α}{i j:Nat}{x y:α}(h:(l.set i x)[j]? = some y):(j=i/\y=x)\/(j≠i/\l[j]? = some y):=by
 by_cases e:j=i
 ·subst e;exact .inl ⟨rfl,xX h⟩
 ·rw[aq (λz=>e z.symm)] at h;exact .inr ⟨e,h⟩
theorem Dv.heap{K:W.Frag}{H0 F H F' H':Hp}{σ:St}{ρ:En}(d:Dv K H0 F H σ ρ)(s:eB F F')(h:∀a xs,H a=some (.dT xs)->F a=none->F' a=none/\H' a=some (.dT xs)):Dv K H0 F' H' σ ρ:=⟨λi kvs e=>let ⟨a,e1,e2,e3,xs,e4,e5⟩:=d.at_ i kvs e;let ⟨h1,h2⟩:=h a xs e4 e2;⟨a,e1,h1,e3,xs,h2,e5.mono s⟩,d.dj⟩
theorem Dv.set{K:W.Frag}{H0 F H:Hp}{σ:St}{ρ:En}(d:Dv K H0 F H σ ρ){i:Nat}{v:Option V}{w:Option W}(hw:∀kvs,w≠some (.d kvs)):Dv K H0 F H (σ.set i v) (ρ.set i w):=by
 refine⟨λj kvs e=>?_,λj k kvs kvs' e e' hjk=>?_⟩
 ·rcases yb e with⟨rfl,q⟩ | ⟨hj,q⟩
  ·exact absurd q.symm (hw kvs)
  ·obtain⟨a,e1,r⟩:=d.at_ j kvs q;exact⟨a,by rw[aq (λz=>hj z.symm)];exact e1,r⟩
 ·rcases yb e with⟨rfl,q⟩ | ⟨hj,q⟩
  ·exact absurd q.symm (hw kvs)
  ·rcases yb e' with⟨rfl,q'⟩ | ⟨hk,q'⟩
   ·exact absurd q'.symm (hw kvs')
   ·rw[aq (λz=>hj z.symm),aq (λz=>hk z.symm)];exact d.dj j k kvs kvs' q q' hjk
theorem Dv.setR{K:W.Frag}{H0 F H:Hp}{σ:St}{ρ:En}(d:Dv K H0 F H σ ρ){i:Nat}{w:Option W}(hw:∀kvs,w≠some (.d kvs)):Dv K H0 F H σ (ρ.set i w):=by
 refine⟨λj kvs e=>?_,λj k kvs kvs' e e' hjk=>?_⟩
 ·rcases yb e with⟨rfl,q⟩ | ⟨hj,q⟩
  ·exact absurd q.symm (hw kvs)
  ·exact d.at_ j kvs q
 ·rcases yb e with⟨rfl,q⟩ | ⟨hj,q⟩
  ·exact absurd q.symm (hw kvs)
  ·rcases yb e' with⟨rfl,q'⟩ | ⟨hk,q'⟩
   ·exact absurd q'.symm (hw kvs')
   ·exact d.dj j k kvs kvs' q q' hjk
structure Sr(K:W.Frag)(F0:Fz)(H0 F H:Hp)(σ:St)(ρ:En):Prop where
 gr:Gr F0.hp H0 F H
 len:σ.length=ρ.length
 pv:∀(i:Nat) (t:T),ρ[i]? = some (some (.p t))->∃v,σ[i]? = some (some v)/\iz K F v t
 ov:∃ad:Nat->Addr,(∀(i:Nat) (ts:List T),ρ[i]? = some (some (.o ts))->σ[i]? = some (some (.ref (ad i)))/\F (ad i)=none/\H0 (ad i)=none/\∃vs,H (ad i)=some (.lst vs)/\ek K F vs ts)/\
  ∀(i j:Nat) (ts us:List T),ρ[i]? = some (some (.o ts))->ρ[j]? = some (some (.o us))->i≠j->ad i≠ad j
 lv:∀e∈F0.lt,Lv H0 F H σ ρ e
 sl:∀(j:Nat) (l:Addr) (vs:List V),F0.lt.lookup j=some (l,vs)->ρ[j]? = some none->σ[j]? = some (some (.ref l))
 dv:Dv K H0 F H σ ρ
section
variable {K:W.Frag}{F0:Fz}{H0 F H F' H':Hp}{σ:St}{ρ:En}
theorem Sr.vars(r:Sr K F0 H0 F H σ ρ):iE K F σ (lE ρ):=λi t e=>by
 unfold lE at e;rw[av] at e;cases q:ρ[i]? with
 | none=>rw[q] at e;cases e
 | some w=>
  rw[q] at e;cases w with
  | none=>cases e
  | some w=>
   cases w with
   | p t'=>cases e;exact r.pv i _ q
   | o ts=>cases e
   | d kvs=>cases e
theorem Sr.grow(r:Sr K F0 H0 F H σ ρ)(g:Gr F H F' H'):Sr K F0 H0 F' H' σ ρ:=by
 obtain⟨ad,h1,h2⟩:=r.ov;refine⟨r.gr.trans g,r.len,λi t e=>?_,⟨ad,λi ts e=>?_,h2⟩,λe he=>?_,r.sl,r.dv.heap g.ff λa xs ha fa=>⟨?_,g.hh _ _ ha⟩⟩
 ·obtain⟨v,a,b⟩:=r.pv i t e;exact⟨v,a,b.mono g.ff⟩
 ·obtain⟨a,b,c,vs,d,q⟩:=h1 i ts e;refine⟨a,?_,c,vs,g.hh _ _ d,q.mono g.ff⟩;cases z:F' (ad i) with
  | none=>rfl
  | some u=>
   rcases g.nw (ad i) (by rw[z];exact λw=>nomatch w) with y | y | ⟨_,y⟩
   ·exact absurd b y
   ·rw[d] at y;cases y
   ·rw[d] at y;cases y
 ·have L:=r.lv e he;refine⟨g.hh _ _ L.h,?_,L.z,L.d⟩;cases z:F' e.2.1 with
  | none=>rfl
  | some u=>
   rcases g.nw e.2.1 (by rw[z];exact λw=>nomatch w) with y | y | ⟨_,y⟩
   ·exact absurd L.f y
   ·rw[L.h] at y;cases y
   ·rw[L.h] at y;cases y
 ·cases z:F' a with
  | none=>rfl
  | some u=>
   rcases g.nw a (by rw[z];exact λw=>nomatch w) with y | y | ⟨_,y⟩
   ·exact absurd fa y
   ·rw[ha] at y;cases y
   ·rw[ha] at y;cases y
theorem Sr.lend(r:Sr K F0 H0 F H σ ρ):∃Fl,eB F Fl/\Gr F0.hp H0 Fl H/\iE K Fl σ (vw ρ)/\
  (∀F' H',Gr Fl H F' H'->∃Fb,Gr F H Fb H'/\eB F Fb/\eB Fb F'/\(∀a,F' a≠none->Fb a=none->∃xs,F' a=some (.lst xs))/\(∀a,F' a≠none->Fb a=none->H a≠none)):=by
 classical
 obtain⟨ad,h1,h2⟩:=r.ov;let isOwn:Addr->Prop:=λa=>∃i ts,ρ[i]? = some (some (.o ts))/\ad i=a;let Fl:Hp:=λa=>if isOwn a then H a else F a
 have hs:eB F Fl:=λa o e=>by
  have:¬isOwn a:=by rintro⟨i,ts,q,rfl⟩;obtain⟨_,b,_⟩:=h1 i ts q;rw[b] at e;cases e
  show (if isOwn a then H a else F a)=some o;rw[aQ this];exact e
 have hl:eB Fl H:=λa o e=>by
  by_cases q:isOwn a
  ·have e':(if isOwn a then H a else F a)=some o:=e;rw[aP q] at e';exact e'
  ·have e':(if isOwn a then H a else F a)=some o:=e;rw[aQ q] at e';exact r.gr.fh a o e'
 have ow:∀a,isOwn a->Fl a=H a:=λa q=>aP q;have nw:∀a,¬isOwn a->Fl a=F a:=λa q=>aQ q;refine⟨Fl,hs,⟨r.gr.ff.trans hs,hl,r.gr.hh,λa ha=>?_⟩,λi t e=>?_,λF' H' g=>?_⟩
 ·by_cases q:isOwn a
  ·obtain⟨i,ts,e,rfl⟩:=q;exact .inr (.inl (h1 i ts e).2.2.1)
  ·rw[nw a q] at ha;exact r.gr.nw a ha
 ·unfold vw at e;rw[av] at e;cases q:ρ[i]? with
  | none=>rw[q] at e;cases e
  | some w=>
   rw[q] at e;cases w with
   | none=>cases e
   | some w=>
    cases w with
    | p t'=>cases e;obtain⟨v,a,b⟩:=r.pv i _ q;exact⟨v,a,b.mono hs⟩
    | o ts=>cases e;obtain⟨a,b,c,vs,d,z⟩:=h1 i ts q;exact⟨_,a,.lst (by rw[ow _ ⟨i,ts,q,rfl⟩];exact d) (z.mono hs)⟩
    | d kvs=>cases e
 ·let Fb:Hp:=λa=>if isOwn a then none else F' a
  have fb:∀a,¬isOwn a->Fb a=F' a:=λa q=>aQ q;have fo:∀a,isOwn a->Fb a=none:=λa q=>aP q;have s1:eB F Fb:=λa o e=>by
   have:¬isOwn a:=by rintro⟨i,ts,q,rfl⟩;obtain⟨_,b,_⟩:=h1 i ts q;rw[b] at e;cases e
   rw[fb a this];exact g.ff _ _ (hs _ _ e)
  have s2:eB Fb F':=λa o e=>by
   by_cases q:isOwn a
   ·rw[fo a q] at e;cases e
   ·rw[fb a q] at e;exact e
  refine⟨Fb,⟨s1,s2.trans g.fh,g.hh,λa ha=>?_⟩,s1,s2,λa ha hb=>?_,λa ha hb=>?_⟩
  ·by_cases q:isOwn a
   ·exact absurd (fo a q) ha
   ·rw[fb a q] at ha;rcases g.nw a ha with z | z
    ·rw[nw a q] at z;exact .inl z
    ·exact .inr z
  ·by_cases q:isOwn a
   ·obtain⟨i,ts,e,rfl⟩:=id q;obtain⟨_,_,_,vs,d,_⟩:=h1 i ts e;exact⟨vs,g.ff _ _ (by rw[ow _ q];exact d)⟩
   ·rw[fb a q] at hb;exact absurd hb ha
  ·by_cases q:isOwn a
   ·obtain⟨i,ts,e,rfl⟩:=id q;obtain⟨_,_,_,vs,d,_⟩:=h1 i ts e;rw[d];exact λz=>nomatch z
   ·rw[fb a q] at hb;exact absurd hb ha
mutual
theorem iz.less{Fb:Hp}(sb:eB Fb F)(h:∀a,F a≠none->Fb a=none->∃xs,F a=some (.lst xs)):∀{v:V} {t:T},iz K F v t->lf t=true->iz K Fb v t
 | _,_,.non,_=>.non
 | _,_,.bl b,_=>.bl b
 | _,_,.int i,_=>.int i
 | _,_,.str x,_=>.str x
 | _,_,.tup (a:=a) e r,l=>by
  refine .tup ?_ (ek.less sb h r (by simpa[lf] using l));cases q:Fb a with
  | none=>obtain⟨xs,z⟩:=h a (by rw[e];exact λz=>nomatch z) q;rw[e] at z;cases z
  | some u=>rw[<-e];exact (sb a u q).symm
 | _,_,.lst _ _,l=>by simp[lf] at l
 | _,_,.scr _,l=>by simp[lf] at l
 | _,_,.obj (a:=a) (dx:=dx) e r,l=>by
  refine .obj (dx:=dx) ?_ (jW.less sb h r (by simpa[lf] using l));cases q:Fb a with
  | none=>obtain⟨xs,z⟩:=h a (by rw[e];exact λz=>nomatch z) q;rw[e] at z;cases z
  | some u=>rw[<-e];exact (sb a u q).symm
 | _,_,.emp (a:=a) e,l=>by
  refine .emp ?_;cases q:Fb a with
  | none=>obtain⟨xs,z⟩:=h a (by rw[e];exact λz=>nomatch z) q;rw[e] at z;cases z
  | some u=>rw[<-e];exact (sb a u q).symm
theorem ek.less{Fb:Hp}(sb:eB Fb F)(h:∀a,F a≠none->Fb a=none->∃xs,F a=some (.lst xs)):∀{vs:List V} {ts:List T},ek K F vs ts->yB ts=true->ek K Fb vs ts
 | _,_,.nil,_=>.nil
 | _,_,.cons q r,l=>by rw[yB,bM] at l;exact .cons (iz.less sb h q l.1) (ek.less sb h r l.2)
theorem jW.less{Fb:Hp}(sb:eB Fb F)(h:∀a,F a≠none->Fb a=none->∃xs,F a=some (.lst xs)):∀{vs:List (Str×V)} {ts:List (Str×T)},jW K F vs ts->Hg ts=true->jW K Fb vs ts
 | _,_,.nil,_=>.nil
 | _,_,.cons q r,l=>by rw[Hg,bM] at l;exact .cons (iz.less sb h q l.1) (jW.less sb h r l.2)
end
end
end L3
namespace L3
open PySem L2
inductive O where
 | bad | nx (ρ:En) | rt (t:T) | rf (ts:List T) | bk (ρ:En) | ct (ρ:En) | er (C:Addr) (n:Option Int)
section
variable (K:W.Frag)(E:XK)
def kN(F0:Fz)(H0 F:Hp)(D:St->Hp->Prop)(ρ:En):Prop:=∀F' H' σ',eB F F'->Sr K F0 H0 F' H' σ' ρ->D σ' H'
noncomputable def O.res(o:O)(F0:Fz)(H0 F:Hp)(D:rT):Prop:=match o with
 | .bad=>False
 | .nx ρ=>kN K F0 H0 F D.nx ρ
 | .rt t=>kV K F0.hp H0 D.rt t
 | .rf ts=>kF K F0.hp H0 D.rt ts
 | .bk ρ=>kN K F0 H0 F D.bk ρ
 | .ct ρ=>kN K F0 H0 F D.ct ρ
 | .er C n=>kE E F0.hp H0 C n
noncomputable def MS(t:TS)(g:En->O):Prop:=∀F0 H0 F H σ ρ D,Sr K F0 H0 F H σ ρ->(g ρ).res K E F0 H0 F D->t D σ H
end
section
variable {K:W.Frag}{E:XK}{t u ta tb:TE}{f fa fb:Pe->M T}{F0:Fz}{H0 F H F1 H1:Hp}{σ:St}{ρ:En}{D:rT}
theorem kN.go{N:St->Hp->Prop}(h:kN K F0 H0 F N ρ)(s:eB F F1):kN K F0 H0 F1 N ρ:=λF' H' σ' s' r=>h F' H' σ' (s.trans s') r
theorem O.res.go{o:O}(h:o.res K E F0 H0 F D)(s:eB F F1):o.res K E F0 H0 F1 D:=by
 cases o with
 | bad=>exact h
 | nx ρ=>exact kN.go h s
 | rt t=>exact h
 | rf ts=>exact h
 | bk ρ=>exact kN.go h s
 | ct ρ=>exact kN.go h s
 | er C n=>exact h
noncomputable def O.of{α:Type}(m:M α)(k:α->O):O:=match m with
 | .bad=>.bad
 | .ok a=>k a
 | .er C n=>.er C n
@[simp] theorem O.of_ok{α:Type}(a:α)(k:α->O):O.of (.ok a) k=k a:=rfl
@[simp] theorem O.of_bad{α:Type}(k:α->O):O.of (.bad:M α) k=.bad:=rfl
@[simp] theorem O.of_er{α:Type}(C:Addr)(n:Option Int)(k:α->O):O.of (.er C n:M α) k=.er C n:=rfl
theorem O.res_of{α:Type}{m:M α}{k:α->O}(h:(O.of m k).res K E F0 H0 F D):m.res (λa=>(k a).res K E F0 H0 F D) (kE E F0.hp H0):=by cases m<;>exact h
@[simp] noncomputable def ed(a b:En->O):En->O:=λρ=>match a ρ with
 | .nx ρ'=>b ρ'
 | o=>o
theorem FG{t u:TS}{a b:En->O}(h1:MS K E t a)(h2:MS K E u b):MS K E (Bh t u) (ed a b):=λF0 H0 F H σ ρ D r q=>by
 refine h1 F0 H0 F H σ ρ _ r ?_;unfold ed at q;cases e:a ρ with
 | nx ρ'=>rw[e] at q;intro F' H' σ' s r';exact h2 F0 H0 F' H' σ' ρ' D r' (q.go s)
 | bad=>rw[e] at q;exact q
 | rt t=>rw[e] at q;exact q
 | rf ts=>rw[e] at q;exact q
 | bk ρ=>rw[e] at q;exact q
 | ct ρ=>rw[e] at q;exact q
 | er C n=>rw[e] at q;exact q
@[simp] noncomputable def fv:En->O:=λρ=>.nx ρ
theorem CT:MS K E yR fv:=λF0 H0 F H σ ρ D r q=>(q:kN K F0 H0 F D.nx ρ) F H σ (.refl _) r
theorem Au:MS K E uL (λ_=>.bad):=λ_ _ _ _ _ _ _ _ q=>q
theorem MT.inS{c:TT}{fc:Pe->M Bool}{Q:Bool->Hp->Prop}{k:Bool->O}(hc:MT K E c fc)(r:Sr K F0 H0 F H σ ρ)(q:(O.of (fc (vw ρ)) k).res K E F0 H0 F D)
  (hk:∀b F' H',eB F F'->Sr K F0 H0 F' H' σ ρ->(k b).res K E F0 H0 F' D->Q b H'):c σ H Q:=by
 obtain⟨Fl,s0,g0,V,back⟩:=r.lend;refine hc Fl H σ (vw ρ) Q g0.fh V ((O.res_of q).mono (λb z F' H' g=>?_) λC n z=>z.go g0);obtain⟨Fb,gb,sb,_⟩:=back F' H' g;exact hk b Fb H' sb (r.grow gb) (z.go sb)
@[simp] noncomputable def j7(fc:Pe->M Bool)(a b:En->O):En->O:=λρ=>.of (fc (vw ρ)) λc=>if c then a ρ else b ρ
theorem GX{c:TT}{fc:Pe->M Bool}{t u:TS}{a b:En->O}(hc:MT K E c fc)(h1:MS K E t a)(h2:MS K E u b):MS K E (Ek c t u) (j7 fc a b):=λF0 H0 F H σ ρ D r q=>by
 refine hc.inS r q λc F' H' s r' q'=>?_;cases c with
 | true=>rw[aP rfl];exact h1 _ _ _ _ _ _ _ r' q'
 | false=>rw[aQ aG];exact h2 _ _ _ _ _ _ _ r' q'
@[simp] noncomputable def eY(f:Pe->M T):En->O:=λρ=>.of (f (vw ρ)) λt=>.rt t
theorem Ed(h:ME K E t f):MS K E (vZ t) (eY f):=λF0 H0 F H σ ρ D r q=>by obtain⟨Fl,s0,g0,V,back⟩:=r.lend;exact h Fl H σ (vw ρ) _ g0.fh V ((O.res_of q).mono (λb z=>kV.go z g0) λC n z=>z.go g0)
@[simp] noncomputable def nS(f:Pe->M (List T)):En->O:=λρ=>.of (f (vw ρ)) λt=>.rf t
theorem B9{f:Pe->M (List T)}(h:MF K E t f):MS K E (vZ t) (nS f):=λF0 H0 F H σ ρ D r q=>by obtain⟨Fl,s0,g0,V,back⟩:=r.lend;exact h Fl H σ (vw ρ) _ g0.fh V ((O.res_of q).mono (λb z=>kF.go z g0) λC n z=>z.go g0)
@[simp] noncomputable def mD(i:Nat):En->O:=λρ=>match ρ[i]? with
 | some (some (.o ts))=>.rf ts
 | _=>.bad
theorem xZ{i:Nat}:MS K E (vZ (kQ i)) (mD i):=λF0 H0 F H σ ρ D r q=>by
 unfold mD at q;split at q
 ·rename_i ts e;obtain⟨ad,h1,h2⟩:=r.ov;obtain⟨a,b,c,vs,d,z⟩:=h1 i ts e;exact⟨_,a,(q:kF K F0 H0 D.rt ts) (ad i) vs F H r.gr c b d z⟩
 ·exact q.elim
theorem mY{α:Type}{l:List α}{i:Nat}{x y:α}(h:(l.set i x)[i]? = some y):y=x:=by
 rw[List.getElem?_set] at h;simp only[if_true] at h;split at h
 ·exact (Option.some.inj h).symm
 ·cases h
theorem fg{α:Type}{l:List α}{i j:Nat}{x y:α}(h:(l.set i x)[j]? = some y):(j=i/\y=x)\/(j≠i/\l[j]? = some y):=by
 by_cases e:j=i
 ·subst e;exact .inl ⟨rfl,mY h⟩
 ·rw[aq (λz=>e z.symm)] at h;exact .inr ⟨e,h⟩
theorem rL{α:Type}{l:List α}{i:Nat}{x:α}(h:i<l.length):(l.set i x)[i]? = some x:=by rw[List.getElem?_set_self h]
theorem Sr.setP{i:Nat}{v:V}{x:T}(r:Sr K F0 H0 F H σ ρ)(h:iz K F v x):Sr K F0 H0 F H (σ.set i (some v)) (ρ.set i (some (.p x))):=by
 obtain⟨ad,h1,h2⟩:=r.ov;refine⟨r.gr,by simp[r.len],λj t e=>?_,⟨ad,λj ts e=>?_,λj k ts us e e'=>?_⟩,λe he=>?_,λj l vs hlt q=>?_,r.dv.set λ_ z=>nomatch z⟩
 ·have hl:j<ρ.length:=by simpa using (aa.mp e).1
  rcases fg e with⟨rfl,q⟩ | ⟨hj,q⟩
  ·cases q;exact⟨v,rL (by rw[r.len];exact hl),h⟩
  ·obtain⟨w,a,b⟩:=r.pv j t q;exact⟨w,by rw[aq (λz=>hj z.symm)];exact a,b⟩
 ·rcases fg e with⟨rfl,q⟩ | ⟨hj,q⟩
  ·cases q
  ·obtain⟨a,b⟩:=h1 j ts q;exact⟨by rw[aq (λz=>hj z.symm)];exact a,b⟩
 ·rcases fg e with⟨rfl,q⟩ | ⟨hj,q⟩
  ·cases q
  ·rcases fg e' with⟨rfl,q'⟩ | ⟨hk,q'⟩
   ·cases q'
   ·exact h2 j k ts us q q'
 ·have L:=r.lv e he;refine⟨L.h,L.f,L.z,λj ts q=>?_⟩;rcases fg q with⟨rfl,q1⟩ | ⟨hj,q1⟩
  ·cases q1
  ·rw[aq (λz=>hj z.symm)];exact L.d j ts q1
 ·rcases fg q with⟨rfl,q1⟩ | ⟨hj,q1⟩
  ·cases q1
  ·rw[aq (λz=>hj z.symm)];exact r.sl j l vs hlt q1
theorem Sr.setO{i:Nat}{l:Addr}{vs:List V}{ts:List T}(r:Sr K F0 H0 F H σ ρ)(g:Gr F H F1 H1)(hl:H l=none)(hf:F1 l=none)(hv:H1 l=some (.lst vs))(hr:ek K F1 vs ts) :
  Sr K F0 H0 F1 H1 (σ.set i (some (.ref l))) (ρ.set i (some (.o ts))):=by
 have r1:=r.grow g;obtain⟨ad0,h10,_⟩:=r.ov;obtain⟨ad,h1,h2⟩:=r1.ov;have nl:∀j us,ρ[j]? = some (some (.o us))->ad j≠l:=λj us e z=>by
  obtain⟨a,_⟩:=h1 j us e;obtain⟨a0,_,_,vs0,d0,_⟩:=h10 j us e;rw[a] at a0;have:ad j=ad0 j:=by simpa using a0
  rw[<-this,z,hl] at d0;cases d0
 refine⟨r1.gr,by simp[r.len],λj t e=>?_,⟨λj=>if j=i then l else ad j,λj us e=>?_,λj k us ws e e' hjk=>?_⟩,λe he=>?_,λj l' vs' hlt q=>?_,r1.dv.set λ_ z=>nomatch z⟩
 ·rcases fg e with⟨rfl,q⟩ | ⟨hj,q⟩
  ·cases q
  ·obtain⟨w,a,b⟩:=r1.pv j t q;exact⟨w,by rw[aq (λz=>hj z.symm)];exact a,b⟩
 ·have hln:j<ρ.length:=by simpa using (aa.mp e).1
  rcases fg e with⟨rfl,q⟩ | ⟨hj,q⟩
  ·cases q;dsimp only;rw[aP rfl];exact⟨rL (by rw[r.len];exact hln),hf,eJ r.gr.hh hl,vs,hv,hr⟩
  ·dsimp only;rw[aQ hj];obtain⟨a,b⟩:=h1 j us q;exact⟨by rw[aq (λz=>hj z.symm)];exact a,b⟩
 ·rcases fg e with⟨rfl,q⟩ | ⟨hj,q⟩
  ·rcases fg e' with⟨rfl,q'⟩ | ⟨hk,q'⟩
   ·exact absurd rfl hjk
   ·dsimp only;rw[aP rfl,aQ hk];exact λz=>nl k ws q' z.symm
  ·rcases fg e' with⟨rfl,q'⟩ | ⟨hk,q'⟩
   ·dsimp only;rw[aQ hj,aP rfl];exact nl j us q
   ·dsimp only;rw[aQ hj,aQ hk];exact h2 j k us ws q q' hjk
 ·have L:=r1.lv e he;have L0:=r.lv e he;refine⟨L.h,L.f,L.z,λj ts q=>?_⟩;rcases fg q with⟨rfl,q1⟩ | ⟨hj,q1⟩
  ·intro z;have z':=mY z;have:e.2.1=l:=by simpa using z'
   rw[<-this,L0.h] at hl;cases hl
  ·rw[aq (λz=>hj z.symm)];exact L.d j ts q1
 ·rcases fg q with⟨rfl,q1⟩ | ⟨hj,q1⟩
  ·cases q1
  ·rw[aq (λz=>hj z.symm)];exact r.sl j l' vs' hlt q1
@[simp] noncomputable def gJ(f:Pe->M T)(ρ:En):M T:=f (lE ρ)
@[simp] noncomputable def lz(f:Pe->M T)(ρ:En):M T:=(f (vw ρ)).bind λt=>if lf t then .ok t else .bad
theorem ME.inH{Q:VK}{k:T->O}(h:ME K E t f)(r:Sr K F0 H0 F H σ ρ)(q:(O.of (gJ f ρ) k).res K E F0 H0 F D)
  (hk:∀x v F' H',Gr F H F' H'->iz K F' v x->Sr K F0 H0 F' H' σ ρ->(k x).res K E F0 H0 F' D->Q v H'):t σ H Q:=
 h F H σ (lE ρ) Q r.gr.fh r.vars ((O.res_of q).mono (λx z v F' H' g rp=>hk x v F' H' g rp (r.grow g) (z.go g.ff)) λC n z=>z.go r.gr)
theorem ME.inB{Q:VK}{k:T->O}(h:ME K E t f)(r:Sr K F0 H0 F H σ ρ)(q:(O.of (lz f ρ) k).res K E F0 H0 F D)
  (hk:∀x v F' H',Gr F H F' H'->iz K F' v x->Sr K F0 H0 F' H' σ ρ->(k x).res K E F0 H0 F' D->Q v H'):t σ H Q:=by
 obtain⟨Fl,s0,g0,V,back⟩:=r.lend;refine h Fl H σ (vw ρ) Q g0.fh V ((M.res.unb (O.res_of q)).mono (λx z v F' H' g rp=>?_) λC n z=>z.go g0);obtain⟨Fb,gb,sb,sb',hlst,_⟩:=back F' H' g;by_cases hl:lf x=true
 ·rw[aP hl] at z;exact hk x v Fb H' gb (rp.less sb' hlst hl) (r.grow gb) (O.res.go z sb)
 ·rw[aQ hl] at z;exact z.elim
@[simp] noncomputable def setO(i:Nat)(f:En->M T):En->O:=λρ=>.of (f ρ) λt=>.nx (ρ.set i (some (.p t)))
theorem xk{i:Nat}(h:ME K E t f):MS K E (ki t (gB i)) (setO i (gJ f)):=λF0 H0 F H σ ρ D r q=>h.inH r q λx v F' H' g rp r' q'=>(q':kN K F0 H0 F' D.nx _) F' H' _ (.refl _) (r'.setP rp)
theorem Cc{i:Nat}(h:ME K E t f):MS K E (ki t (gB i)) (setO i (lz f)):=λF0 H0 F H σ ρ D r q=>h.inB r q λx v F' H' g rp r' q'=>(q':kN K F0 H0 F' D.nx _) F' H' _ (.refl _) (r'.setP rp)
@[simp] noncomputable def kG(f:Pe->M (List T))(ρ:En):M (List T):=f (lE ρ)
@[simp] noncomputable def p6(f:Pe->M (List T))(ρ:En):M (List T):=(f (vw ρ)).bind λts=>if yB ts then .ok ts else .bad
theorem MF.inH{f:Pe->M (List T)}{Q:VK}{k:List T->O}(h:MF K E t f)(r:Sr K F0 H0 F H σ ρ)(q:(O.of (kG f ρ) k).res K E F0 H0 F D)
  (hk:∀ts l vs F' H',Gr F H F' H'->H l=none->F' l=none->H' l=some (.lst vs)->ek K F' vs ts->(k ts).res K E F0 H0 F' D->Q (.ref l) H'):t σ H Q:=
 h F H σ (lE ρ) Q r.gr.fh r.vars ((O.res_of q).mono (λts z l vs F' H' g a b c d=>hk ts l vs F' H' g a b c d (z.go g.ff)) λC n z=>z.go r.gr)
theorem MF.inB{f:Pe->M (List T)}{Q:VK}{k:List T->O}(h:MF K E t f)(r:Sr K F0 H0 F H σ ρ)(q:(O.of (p6 f ρ) k).res K E F0 H0 F D)
  (hk:∀ts l vs F' H',Gr F H F' H'->H l=none->F' l=none->H' l=some (.lst vs)->ek K F' vs ts->(k ts).res K E F0 H0 F' D->Q (.ref l) H'):t σ H Q:=by
 obtain⟨Fl,s0,g0,V,back⟩:=r.lend;refine h Fl H σ (vw ρ) Q g0.fh V ((M.res.unb (O.res_of q)).mono (λts z l vs F' H' g a b c d=>?_) λC n z=>z.go g0);obtain⟨Fb,gb,sb,sb',hlst,_⟩:=back F' H' g;by_cases hl:yB ts=true
 ·rw[aP hl] at z;exact hk ts l vs Fb H' gb a (eJ sb' b) c (d.less sb' hlst hl) (O.res.go z sb)
 ·rw[aQ hl] at z;exact z.elim
@[simp] noncomputable def jY(i:Nat)(f:En->M (List T)):En->O:=λρ=>.of (f ρ) λts=>.nx (ρ.set i (some (.o ts)))
@[simp] noncomputable def tQ(i:Nat)(f:En->M (List T)):En->O:=λρ=>.of (f ρ) λts=>.nx (ρ.set i (some (.p (.lst ts))))
theorem wM{i:Nat}{f:Pe->M (List T)}(h:MF K E t f):MS K E (ki t (gB i)) (jY i (kG f)):=λF0 H0 F H σ ρ D r q=>h.inH r q λts l vs F' H' g a b c d q'=>(q':kN K F0 H0 F' D.nx _) F' H' _ (.refl _) (r.setO g a b c d)
theorem B0{i:Nat}{f:Pe->M (List T)}(h:MF K E t f):MS K E (ki t (gB i)) (jY i (p6 f)):=λF0 H0 F H σ ρ D r q=>h.inB r q λts l vs F' H' g a b c d q'=>(q':kN K F0 H0 F' D.nx _) F' H' _ (.refl _) (r.setO g a b c d)
theorem za{i:Nat}{f:Pe->M (List T)}(h:MF K E t f):MS K E (ki t (gB i)) (tQ i (p6 f)):=λF0 H0 F H σ ρ D r q=>h.inB r q λts l vs F' H' g a b c d q'=>by have g':Gr F H (gC F' l (.lst vs)) H':=g.take c b a;exact (q':kN K F0 H0 F' D.nx _) (gC F' l (.lst vs)) H' _ (jR b) ((r.grow g').setP (.lst d8 (d.mono (jR b))))
theorem Sr.change{i:Nat}{ts us:List T}{ws:List V}(r:Sr K F0 H0 F H σ ρ)(e:ρ[i]? = some (some (.o ts)))(hw:ek K F ws us) :
  ∃l vs,σ[i]? = some (some (.ref l))/\H l=some (.lst vs)/\ek K F vs ts/\Sr K F0 H0 F (gC H l (.lst ws)) σ (ρ.set i (some (.o us))):=by
 obtain⟨ad,h1,h2⟩:=r.ov;obtain⟨a,b,c,vs,d,z⟩:=h1 i ts e;have hZ:i<ρ.length:=(aa.mp e).1;refine⟨ad i,vs,a,d,z,⟨r.gr.ff,λp u q=>?_,λp u q=>?_,r.gr.nw⟩,by simp[r.len],λj t q=>?_,⟨ad,λj ss q=>?_,λj k ss ss' q q' hjk=>?_⟩,λe' he=>?_,λj l' vs' hlt q=>?_,(r.dv.heap (.refl _) λp xs hp _=>⟨by assumption,by rw[ei (λz=>by rw[z,d] at hp;cases hp)];exact hp⟩).setR λ_ z=>nomatch z⟩
 ·rw[ei (eG q b)];exact r.gr.fh p u q
 ·rw[ei (eG q c)];exact r.gr.hh p u q
 ·rcases fg q with⟨rfl,q1⟩ | ⟨hj,q1⟩
  ·cases q1
  ·exact r.pv j t q1
 ·rcases fg q with⟨rfl,q1⟩ | ⟨hj,q1⟩
  ·cases q1;exact⟨a,b,c,ws,d8,hw⟩
  ·obtain⟨a',b',c',vs',d',z'⟩:=h1 j ss q1;exact⟨a',b',c',vs',by rw[ei (h2 j i ss ts q1 e hj)];exact d',z'⟩
 ·rcases fg q with⟨rfl,q1⟩ | ⟨hj,q1⟩
  ·rcases fg q' with⟨rfl,q2⟩ | ⟨hk,q2⟩
   ·exact absurd rfl hjk
   ·exact h2 j k ts ss' e q2 hjk
  ·rcases fg q' with⟨rfl,q2⟩ | ⟨hk,q2⟩
   ·exact h2 j k ss ts q1 e hjk
   ·exact h2 j k ss ss' q1 q2 hjk
 ·have L:=r.lv e' he;have hne:e'.2.1≠ad i:=λw=>L.d i ts e (by rw[w];exact a);refine⟨by rw[ei hne];exact L.h,L.f,L.z,λj ss q=>?_⟩;rcases fg q with⟨rfl,q1⟩ | ⟨hj,q1⟩
  ·exact L.d _ ts e
  ·exact L.d j ss q1
 ·rcases fg q with⟨rfl,q1⟩ | ⟨hj,q1⟩
  ·cases q1
  ·exact r.sl j l' vs' hlt q1
@[simp] noncomputable def j1(ρ:En)(i:Nat):M (List T):=match ρ[i]? with
 | some (some (.o ts))=>.ok ts
 | _=>.bad
theorem ph{ρ:En}{i:Nat}{ts:List T}(h:j1 ρ i=.ok ts):ρ[i]? = some (some (.o ts)):=by
 unfold j1 at h;split at h
 ·rename_i ts' e;cases h;exact e
 ·cases h
@[simp] noncomputable def kL(i:Nat)(f:En->M T):En->O:=λρ=>.of (j1 ρ i) λts=>.of (f ρ) λt=>if ts.length<sizeLine then .nx (ρ.set i (some (.o (ts++[t])))) else .bad
theorem tw{i:Nat}{ts:List T}{x:T}{v:V}(r:Sr K F0 H0 F H σ ρ)(e:ρ[i]? = some (some (.o ts)))(rp:iz K F v x)
  (q:(if ts.length<sizeLine then O.nx (ρ.set i (some (.o (ts++[x])))) else .bad).res K E F0 H0 F D):∃l,σ[i]? = some (some (.ref l))/\rB (.ref l) [v] H λ_ H1=>D.nx σ H1:=by
 by_cases hl:ts.length<sizeLine
 ·rw[aP hl] at q;obtain⟨ad,h1,_⟩:=r.ov;obtain⟨_,_,_,vs,d,z⟩:=h1 i ts e;obtain⟨l,vs',a',d',z',r'⟩:=r.change e (us:=ts++[x]) (ws:=vs++[v]) (z.append (.cons rp .nil));have:vs'=vs:=by
   have a:=(h1 i ts e).1;rw[a'] at a;have:l=ad i:=by simpa using a
   rw[this,d] at d';cases d';rfl
  subst this;exact⟨l,a',l,vs',v,rfl,rfl,d',by rw[z.length];exact hl,(q:kN K F0 H0 F D.nx _) F _ _ (.refl _) r'⟩
 ·rw[aQ hl] at q;exact q.elim
def Bq(K:W.Frag)(i:Nat)(te:TE):TE:=Iw K "list" rB (kQ i) (nU te qg)
theorem Co{i:Nat}(ht:∀l xs H,H l=some (.lst xs)->Hb K "list" (.ref l) H)(h:ME K E t f):MS K E (tm (Bq K i t)) (kL i (gJ f)):=λF0 H0 F H σ ρ D r q=>by
 unfold kL at q;cases e:j1 ρ i with
 | bad=>rw[e] at q;exact q.elim
 | er C n=>unfold j1 at e;split at e<;>cases e
 | ok ts=>rw[e] at q;have e':=ph e;obtain⟨ad,h1,_⟩:=r.ov;obtain⟨a,_,_,vs,d,_⟩:=h1 i ts e';refine⟨_,a,ht _ _ _ d,?_⟩;refine h.inH r q λx v F' H' g rp r' q'=>?_;obtain⟨l,a',q''⟩:=tw r' e' rp q';rw[a] at a';cases a';exact q''
theorem CD{i:Nat}(ht:∀l xs H,H l=some (.lst xs)->Hb K "list" (.ref l) H)(h:ME K E t f):MS K E (tm (Bq K i t)) (kL i (lz f)):=λF0 H0 F H σ ρ D r q=>by
 unfold kL at q;cases e:j1 ρ i with
 | bad=>rw[e] at q;exact q.elim
 | er C n=>unfold j1 at e;split at e<;>cases e
 | ok ts=>rw[e] at q;have e':=ph e;obtain⟨ad,h1,_⟩:=r.ov;obtain⟨a,_,_,vs,d,_⟩:=h1 i ts e';refine⟨_,a,ht _ _ _ d,?_⟩;refine h.inB r q λx v F' H' g rp r' q'=>?_;obtain⟨l,a',q''⟩:=tw r' e' rp q';rw[a] at a';cases a';exact q''
@[simp] noncomputable def oy(i:Nat)(fk:En->M T)(f:En->M T):En->O:=λρ=>.of (j1 ρ i) λts=>.of (f ρ) λt=>.of (fk ρ) λk=>match k with
 | .int k=>match qJ ts.length k with
  | some j=>.nx (ρ.set i (some (.o (ts.set j t))))
  | none=>.bad
 | _=>.bad
theorem zL{i:Nat}{ts:List T}{x y:T}{v w:V}{l:Addr}(r2:Sr K F0 H0 F H σ ρ)(e':ρ[i]? = some (some (.o ts)))(hl:σ[i]? = some (some (.ref l)))(rp:iz K F v x)(rw_:iz K F w y)
  (q2:(match y with
   | .int k=>match qJ ts.length k with
    | some j=>O.nx (ρ.set i (some (.o (ts.set j x))))
    | none=>.bad
   | _=>.bad).res K E F0 H0 F D):wu (.ref l) w v H λH3=>D.nx σ H3:=by
 cases rw_ with
 | int k=>
  dsimp only at q2;cases hx:qJ ts.length k with
  | none=>rw[hx] at q2;exact q2.elim
  | some j=>
   rw[hx] at q2;obtain⟨ad,h1,_⟩:=r2.ov;obtain⟨_,_,_,vs,d,z⟩:=h1 i ts e';obtain⟨l',vs',a',d',z',r3⟩:=r2.change e' (us:=ts.set j x) (ws:=vs.set j v) (z.set rp j);rw[hl] at a';cases a';have:vs'=vs:=by
    have a:=(h1 i ts e').1;rw[hl] at a;have:l=ad i:=by simpa using a
    rw[this,d] at d';cases d';rfl
   subst this;exact⟨l,vs',k,j,rfl,rfl,d',by rw[z.length];exact hx,(q2:kN K F0 H0 F D.nx _) F _ _ (.refl _) r3⟩
 | _=>exact q2.elim
theorem DF{i:Nat}{tk:TE}{fk:Pe->M T}(h:ME K E t f)(hk:ME K E tk fk):MS K E (ki t (FC (kQ i) tk wu)) (oy i (lz fk) (lz f)):=λF0 H0 F H σ ρ D r q=>by
 unfold oy at q;cases e:j1 ρ i with
 | bad=>rw[e] at q;exact q.elim
 | er C n=>unfold j1 at e;split at e<;>cases e
 | ok ts=>rw[e] at q;have e':=ph e;obtain⟨ad,h1,_⟩:=r.ov;have a:=(h1 i ts e').1;refine h.inB r q λx v F' H' g rp r' q'=>⟨_,a,?_⟩;exact hk.inB r' q' λy w F2 H2 g2 rw_ r2 q2=>zL r2 e' a (rp.mono g2.ff) rw_ q2
end
end L3
namespace L3
open PySem L2
section
variable {K:W.Frag}{E:XK}{t u ta tb:TE}{f fa fb:Pe->M T}{F0:Fz}{H0 F H F1 H1:Hp}{σ:St}{ρ:En}{D:rT}
structure rE(K:W.Frag)(J:It)(its:List T)(F1:Hp):Prop where
 go:∀i H,eB F1 H->i<its.length->J.go i H
 stop:∀H,eB F1 H->J.stop its.length H
 yld:∀(i:Nat) t F H x H',eB F1 F->eB F H->its[i]? = some t->J.yld i H x H'->∃F',Gr F H F' H'/\iz K F' x t
def kI(K:W.Frag)(F H:Hp)(R:It->Hp->Prop)(its:List T):Prop:=∀J F' H',Gr F H F' H'->rE K J its F'->R J H'
noncomputable def MI(K:W.Frag)(E:XK)(w:TI)(f:Pe->M (List T)):Prop:=∀F H σ ρ R,eB F H->iE K F σ ρ->(f ρ).res (kI K F H R) (kE E F H)->w σ H R
def HC(K:W.Frag)(F H:Hp)(R:It->Hp->Prop)(its:List T):Prop:=∀J F' H',Gr F H F' H'->(∀F1,rE K J its F1)->R J H'
noncomputable def FV(K:W.Frag)(E:XK)(w:TI)(f:Pe->M (List T)):Prop:=∀F H σ ρ R,eB F H->iE K F σ ρ->(f ρ).res (HC K F H R) (kE E F H)->w σ H R
theorem FV.mi{w:TI}{f:Pe->M (List T)}(h:FV K E w f):MI K E w f:=λF H σ ρ R s V q=>h F H σ ρ R s V (q.mono (λits z J F' H' g i=>z J F' H' g (i F')) λ_ _ z=>z)
@[simp] noncomputable def Hk(fa:Pe->M T):Pe->M (List T):=λρ=>(fa ρ).bind λx=>match x with
 | .lst ts=>.ok ts
 | .scr ns=>.ok (ns.map T.int)
 | _=>.bad
@[simp] noncomputable def Ii(fa:Pe->M T):Pe->M (List T):=λρ=>(fa ρ).bind λx=>match x with
 | .tup ts=>.ok ts
 | _=>.bad
theorem w6{a:Addr}{xs:List V}{ts:List T}(hs:ig K F a xs)(r:ek K F xs ts):rE K (Hu K a) ts F where
 go:=λi H s hi=>by have e:xs[i]? = some (xs[i]'(by rw[r.length];exact hi)):=ag _;exact⟨xs,_,s.seq hs,e⟩
 stop:=λH s=>⟨xs,s.seq hs,by rw[r.length];exact aJ _⟩
 yld:=λi t F' H x H' s1 s2 e y=>by obtain⟨rfl,hx⟩:=y;have e':=hx xs ((s1.trans s2).seq hs);obtain⟨t',e'',rp⟩:=r.at_ e';rw[e] at e'';cases e'';exact⟨F',.refl s2,rp.mono s1⟩
theorem nv{F H:Hp}{a:Addr}{xs:List V}(s:eB F H)(h:F a=some (.tup xs)):iL K H a xs:=iL.of (s _ _ h)
theorem EG{a:Addr}{xs:List V}{ts:List T}(hs:F a=some (.tup xs))(r:ek K F xs ts):rE K (HJ K a) ts F where
 go:=λi H s hi=>by have e:xs[i]? = some (xs[i]'(by rw[r.length];exact hi)):=ag _;exact⟨xs,_,nv s hs,e⟩
 stop:=λH s=>⟨xs,nv s hs,by rw[r.length];exact aJ _⟩
 yld:=λi t F' H x H' s1 s2 e y=>by obtain⟨rfl,hx⟩:=y;have e':=hx xs (nv (s1.trans s2) hs);obtain⟨t',e'',rp⟩:=r.at_ e';rw[e] at e'';cases e'';exact⟨F',.refl s2,rp.mono s1⟩
theorem rM(ha:ME K E ta fa):MI K E (AO K ta) (Hk fa):=λF H σ ρ R s V q=>by
  refine ha.run s V q λx v F1 H1 g1 r1 q1=>?_;cases r1<;>first
    | exact q1.elim
    | (rename_i h r
       exact⟨_,rfl,⟨_,ig.of (g1.fh _ _ h)⟩,(q1:kI K F H R _) _ F1 H1 g1 (w6 (ig.of h) r)⟩)
    | (rename_i h
       exact⟨_,rfl,⟨_,g1.fh.seq h⟩,(q1:kI K F H R _) _ F1 H1 g1 (w6 h (ek.of_ints _))⟩)
theorem Du(ha:ME K E ta fa):MI K E (Fw K ta) (Ii fa):=λF H σ ρ R s V q=>by
  refine ha.run s V q λx v F1 H1 g1 r1 q1=>?_;cases r1<;>first
    | exact q1.elim
    | (rename_i h r
       exact⟨_,rfl,⟨_,iL.of (g1.fh _ _ h)⟩,(q1:kI K F H R _) _ F1 H1 g1 (EG h r)⟩)
theorem HG:(2:Int) ^ 62=4611686018427387904:=by decide +kernel
theorem Ig:(2:Int) ^ 63=9223372036854775808:=by decide +kernel
def sG(j:Int):Bool:=decide (j.natAbs<4611686018427387904)
theorem jH{j:Int}(h:sG j=true):-(2 ^ 62)<=j/\j<2 ^ 62:=by rw[HG];have:=of_decide_eq_true h;omega
theorem ip{j:Int}(h:j.natAbs<=1000000):sG j=true:=aB (by omega)
def pD(lo:Int)(n:Nat):List T:=(List.range n).map λ(i:Nat)=>T.int (lo+(i:Int))
theorem ze{lo:Int}{n:Nat}(F:Hp):rE K (FS lo n) (pD lo n) F where
 go:=λi H s hi=>by show i<n;simpa[pD] using hi
 stop:=λH s=>by simp[pD,FS]
 yld:=λi t F' H x H' s1 s2 e y=>by
  obtain⟨rfl,rfl⟩:=y;have hi:i<n:=by simpa[pD] using (aa.mp e).1
  have:t=.int (lo+i):=by unfold pD at e;rw[av,List.getElem?_range hi] at e;cases e;rfl
  rw[this];exact⟨F',.refl s2,.int _⟩
@[simp] noncomputable def iM(fa:Pe->M (List T)):Pe->M (List T):=λρ=>(fa ρ).bind λxs=>match xs with
 | [.int j]=>if sG j then .ok (pD 0 j.toNat) else .bad
 | _=>.bad
@[simp] noncomputable def tY(fa:Pe->M (List T)):Pe->M (List T):=λρ=>(fa ρ).bind λxs=>match xs with
 | [.int i,.int j]=>if sG i&&sG j then .ok (pD i (j - i).toNat) else .bad
 | _=>.bad
theorem Cd{ta:TA}{fa:Pe->M (List T)}(ha:MA K E ta fa):FV K E (zP ta) (iM fa):=λF H σ ρ R s V q=>by
 refine ha.run s V q λxs vs F1 H1 g1 r1 q1=>?_;split at q1
 ·rename_i j;split at q1
  ·rename_i hj;cases r1 with
   | cons a b=>cases a;cases b;exact⟨j,rfl,(jH hj).1,(jH hj).2,(q1:HC K F H R _) _ F1 H1 g1 ze⟩
  ·exact q1.elim
 ·exact q1.elim
theorem Cm{ta:TA}{fa:Pe->M (List T)}(ha:MA K E ta fa):FV K E (AS ta) (tY fa):=λF H σ ρ R s V q=>by
 refine ha.run s V q λxs vs F1 H1 g1 r1 q1=>?_;split at q1
 ·rename_i i j;split at q1
  ·rename_i hj;cases r1 with
   | cons a b=>
    cases b with
    | cons b c=>cases a;cases b;cases c;rw[bM] at hj;exact⟨i,j,rfl,⟨(jH hj.1).1,(jH hj.1).2,(jH hj.2).1,(jH hj.2).2⟩,(q1:HC K F H R _) _ F1 H1 g1 ze⟩
  ·exact q1.elim
 ·exact q1.elim
noncomputable def seqB(b:Bool):T->M (List T)
 | .tup ts=>if b then .ok ts else .bad
 | .lst ts=>if b then .bad else .ok ts
 | .scr ns=>if b then .bad else .ok (ns.map T.int)
 | _=>.bad
theorem rk{b:Bool}{x:T}{v:V}{ts:List T}(r:iz K F v x)(e:seqB b x=.ok ts):∃a xs,v=.ref a/\(∀H,eB F H->pT K H b a xs)/\ek K F xs ts:=by
 cases r<;>try (cases e)
 ·rename_i a xs ss h r;cases b with
  | true=>cases e;exact⟨a,xs,rfl,λH s=>by unfold pT;rw[aP rfl];exact iL.of (s _ _ h),r⟩
  | false=>cases e
 ·rename_i a xs ss h r;cases b with
  | true=>cases e
  | false=>cases e;exact⟨a,xs,rfl,λH s=>by unfold pT;rw[aQ aG];exact ig.of (s _ _ h),r⟩
 ·rename_i a ns h;cases b with
  | true=>cases e
  | false=>cases e;exact⟨a,_,rfl,λH s=>by unfold pT;rw[aQ aG];exact s.seq h,ek.of_ints ns⟩
def r9(xs ys:List T):List T:=(xs.zip ys).map λp=>T.tup [p.1,p.2]
theorem EF{b1 b2:Bool}{l1 l2:Addr}{xs ys:List V}{ts us:List T}(h1:∀H,eB F H->pT K H b1 l1 xs)(r1:ek K F xs ts)(h2:∀H,eB F H->pT K H b2 l2 ys)(r2:ek K F ys us):rE K (HI K b1 b2 l1 l2) (r9 ts us) F where
 go:=λi H s hi=>by
  have hi':i<ts.length/\i<us.length:=by simp[r9] at hi;omega
  have e1:xs[i]? = some (xs[i]'(by rw[r1.length];exact hi'.1)):=ag _;have e2:ys[i]? = some (ys[i]'(by rw[r2.length];exact hi'.2)):=ag _;exact⟨xs,ys,_,_,h1 H s,h2 H s,e1,e2⟩
 stop:=λH s=>⟨xs,ys,h1 H s,h2 H s,by simp[r9,r1.length,r2.length];omega⟩
 yld:=λi t F' H x H' s1 s2 e y=>by
  obtain⟨p,x1,x2,rfl,hp,rfl,e1,e2⟩:=y;obtain⟨t1,f1,q1⟩:=r1.at_ (e1 xs (h1 H (s1.trans s2)));obtain⟨t2,f2,q2⟩:=r2.at_ (e2 ys (h2 H (s1.trans s2)));have:t=.tup [t1,t2]:=by unfold r9 at e;rw[av,(List.getElem?_zip_eq_some (z:=(t1,t2))).mpr ⟨f1,f2⟩] at e;cases e;rfl
  rw[this];have g:=Gr.new (o:=.tup [x1,x2]) s2 hp;exact⟨_,g,.tup d8 (.cons ((q1.mono s1).mono g.ff) (.cons ((q2.mono s1).mono g.ff) .nil))⟩
noncomputable def Es(b1 b2:Bool)(fa:Pe->M (List T)):Pe->M (List T):=λρ=>(fa ρ).bind λxs=>match xs with
 | [x,y]=>(seqB b1 x).bind λts=>(seqB b2 y).bind λus=>.ok (r9 ts us)
 | _=>.bad
theorem sd{b:Bool}{x:T}{C:Addr}{n:Option Int}:seqB b x≠.er C n:=by cases x<;>cases b<;>exact λz=>nomatch z
theorem Aq{b1 b2:Bool}{ta:TA}{fa:Pe->M (List T)}(ha:MA K E ta fa):MI K E (DG K b1 b2 ta) (Es b1 b2 fa):=λF H σ ρ R s V q=>by
 refine ha.run s V q λxs vs F1 H1 g1 r1 q1=>?_;split at q1
 ·rename_i x y;cases r1 with
  | cons a b=>
   cases b with
   | cons b c=>
    cases c;cases e1:seqB b1 x with
    | bad=>rw[e1] at q1;exact q1.elim
    | er C n=>exact absurd e1 sd
    | ok ts=>
     rw[e1] at q1;cases e2:seqB b2 y with
     | bad=>simp only[e2,M.bind_ok] at q1;exact q1.elim
     | er C n=>exact absurd e2 sd
     | ok us=>simp only[e2,M.bind_ok] at q1;obtain⟨a1,x1,rfl,s1,t1⟩:=rk a e1;obtain⟨a2,x2,rfl,s2,t2⟩:=rk b e2;exact⟨a1,a2,rfl,⟨x1,s1 _ g1.fh⟩,⟨x2,s2 _ g1.fh⟩,(q1:kI K F H R _) _ F1 H1 g1 (EF s1 t1 s2 t2)⟩
 ·exact q1.elim
def MG(K:W.Frag)(g:TG)(m:T->Pe->Option Pe):Prop:=∀F H σ (ρ:Pe) x t ρ' Q,eB F H->σ.length=ρ.length->iE K F σ ρ->iz K F x t->m t ρ=some ρ'->(∀σ',σ'.length=ρ'.length->iE K F σ' ρ'->Q σ' H)->g x σ H Q
def GY(K:W.Frag)(g:uw)(m:List T->Pe->Option Pe):Prop:=∀F H σ (ρ:Pe) xs ts ρ' Q,eB F H->σ.length=ρ.length->iE K F σ ρ->ek K F xs ts->m ts ρ=some ρ'->(∀σ',σ'.length=ρ'.length->iE K F σ' ρ'->Q σ' H)->g xs σ H Q
@[simp] def iy(i:Nat):T->Pe->Option Pe:=λt ρ=>some (ρ.set i (some t))
theorem iE.set{σ:St}{ρ:Pe}{i:Nat}{v:V}{x:T}(V:iE K F σ ρ)(hl:σ.length=ρ.length)(h:iz K F v x):iE K F (σ.set i (some v)) (ρ.set i (some x)):=λj t e=>by
 have hj:j<ρ.length:=by simpa using (aa.mp e).1
 rcases fg e with⟨rfl,q⟩ | ⟨hj,q⟩
 ·cases q;exact⟨v,rL (by rw[hl];exact hj),h⟩
 ·obtain⟨w,a,b⟩:=V j t q;exact⟨w,by rw[aq (λz=>hj z.symm)];exact a,b⟩
theorem Bk{i:Nat}:MG K (gB i) (iy i):=λF H σ ρ x t ρ' Q s hl V r e k=>by cases e;exact k _ (by simp[hl]) (V.set hl r)
@[simp] def n0:List T->Pe->Option Pe
 | [],ρ=>some ρ
 | _::_,_=>none
@[simp] def gR(m:T->Pe->Option Pe)(n:List T->Pe->Option Pe):List T->Pe->Option Pe
 | [],_=>none
 | t::ts,ρ=>(m t ρ).bind (n ts)
theorem B4:GY K xo n0:=λF H σ ρ xs ts ρ' Q s hl V r e k=>by
 cases r with
 | nil=>cases e;exact⟨rfl,k σ hl V⟩
 | cons a b=>cases e
theorem Ar{g:TG}{gs:uw}{m:T->Pe->Option Pe}{n:List T->Pe->Option Pe}(h1:MG K g m)(h2:GY K gs n):GY K (pB g gs) (gR m n):=λF H σ ρ xs ts ρ' Q s hl V r e k=>by
 cases r with
 | nil=>cases e
 | cons a b=>
  rename_i v t vs ts';have e:(m t ρ).bind (n ts')=some ρ':=e;cases q:m t ρ with
  | none=>rw[q] at e;cases e
  | some ρ1=>rw[q] at e;refine⟨v,vs,rfl,h1 F H σ ρ v t ρ1 _ s hl V a q λσ' hl' V'=>?_⟩;exact h2 F H σ' ρ1 vs ts' ρ' Q s hl' V' b e k
@[simp] def nZ(k:Nat)(m:List T->Pe->Option Pe):T->Pe->Option Pe
 | .tup ts,ρ=>if ts.length=k then m ts ρ else none
 | _,_=>none
theorem FJ{k:Nat}{g:uw}{m:List T->Pe->Option Pe}(h:GY K g m):MG K (xR K k g) (nZ k m):=λF H σ ρ x t ρ' Q s hl V r e q=>by
 cases r with
 | tup hx rs=>
  rename_i a xs ts;have e:(if ts.length=k then m ts ρ else none)=some ρ':=e;by_cases hk:ts.length=k
  ·rw[aP hk] at e;exact⟨_,_,rfl,iL.of (s _ _ hx),by rw[rs.length];exact hk,h F H σ ρ _ _ ρ' Q s hl V rs e q⟩
  ·rw[aQ hk] at e;cases e
 | _=>cases e
noncomputable def Dp(K:W.Frag)(g:TG)(m:T->En->Option En):Prop:=∀F0 H0 F H σ ρ x t ρ' Q,Sr K F0 H0 F H σ ρ->iz K F x t->m t ρ=some ρ'->(∀σ',Sr K F0 H0 F H σ' ρ'->Q σ' H)->g x σ H Q
noncomputable def yN(K:W.Frag)(g:uw)(m:List T->En->Option En):Prop:=∀F0 H0 F H σ ρ xs ts ρ' Q,Sr K F0 H0 F H σ ρ->ek K F xs ts->m ts ρ=some ρ'->(∀σ',Sr K F0 H0 F H σ' ρ'->Q σ' H)->g xs σ H Q
@[simp] noncomputable def iY(i:Nat):T->En->Option En:=λt ρ=>some (ρ.set i (some (.p t)))
theorem zi{i:Nat}:Dp K (gB i) (iY i):=λF0 H0 F H σ ρ x t ρ' Q s r e k=>by cases e;exact k _ (s.setP r)
@[simp] noncomputable def jI:List T->En->Option En
 | [],ρ=>some ρ
 | _::_,_=>none
@[simp] noncomputable def fu(m:T->En->Option En)(n:List T->En->Option En):List T->En->Option En
 | [],_=>none
 | t::ts,ρ=>(m t ρ).bind (n ts)
theorem zH:yN K xo jI:=λF0 H0 F H σ ρ xs ts ρ' Q s r e k=>by
 cases r with
 | nil=>cases e;exact⟨rfl,k σ s⟩
 | cons a b=>cases e
theorem xC{g:TG}{gs:uw}{m:T->En->Option En}{n:List T->En->Option En}(h1:Dp K g m)(h2:yN K gs n):yN K (pB g gs) (fu m n):=λF0 H0 F H σ ρ xs ts ρ' Q s r e k=>by
 cases r with
 | nil=>cases e
 | cons a b=>
  rename_i v t vs ts';have e:(m t ρ).bind (n ts')=some ρ':=e;cases q:m t ρ with
  | none=>rw[q] at e;cases e
  | some ρ1=>rw[q] at e;refine⟨v,vs,rfl,h1 F0 H0 F H σ ρ v t ρ1 _ s a q λσ' s'=>?_⟩;exact h2 F0 H0 F H σ' ρ1 vs ts' ρ' Q s' b e k
@[simp] noncomputable def jG(k:Nat)(m:List T->En->Option En):T->En->Option En
 | .tup ts,ρ=>if ts.length=k then m ts ρ else none
 | _,_=>none
theorem CV{k:Nat}{g:uw}{m:List T->En->Option En}(h:yN K g m):Dp K (xR K k g) (jG k m):=λF0 H0 F H σ ρ x t ρ' Q s r e q=>by
 cases r with
 | tup hx rs=>
  rename_i a xs ts;have e:(if ts.length=k then m ts ρ else none)=some ρ':=e;by_cases hk:ts.length=k
  ·rw[aP hk] at e;exact⟨_,_,rfl,iL.of (s.gr.fh _ _ hx),by rw[rs.length];exact hk,h F0 H0 F H σ ρ _ _ ρ' Q s rs e q⟩
  ·rw[aQ hk] at e;cases e
 | _=>cases e
noncomputable def gA(m:T->En->Option En)(g:En->O):List T->En->O
 | [],ρ=>.nx ρ
 | t::ts,ρ=>match m t ρ with
  | none=>.bad
  | some ρ1=>match g ρ1 with
   | .nx ρ2=>gA m g ts ρ2
   | .ct ρ2=>gA m g ts ρ2
   | .bk ρ2=>.nx ρ2
   | o=>o
theorem v5{g:TG}{tb:TS}{m:T->En->Option En}{gb:En->O}{J:It}{its:List T}(hg:Dp K g m)(hb:MS K E tb gb){G:Hp->Hp->Prop}(igo:∀i F H,G F H->i<its.length->J.go i H)(isp:∀F H,G F H->J.stop its.length H)(iyl:∀(i:Nat) t F H x H',G F H->its[i]? = some t->J.yld i H x H'->∃F',Gr F H F' H'/\iz K F' x t)
  (hG:∀F' H' σ' ρ',eB F1 F'->Sr K F0 H0 F' H' σ' ρ'->G F' H') (r:Sr K F0 H0 F H σ ρ) (s1:eB F1 F)
  (q:(gA m gb its ρ).res K E F0 H0 F D):∃W:Nat->Nat->St->Hp->Prop,(∃m,W 0 m σ H)/\∀i m σ H,W i m σ H->
 (J.stop i H/\D.nx σ H)\/(J.go i H/\∃N:St->Hp->Prop,(∀σ' H',N σ' H'->∃m',m'<m/\W (i+1) m' σ' H')/\∀x H',J.yld i H x H'->g x σ H' λσ2 H2=>tb {D with nx:=N,ct:=N,bk:=D.nx} σ2 H2):=by
 refine⟨λi k σ' H'=>i<=its.length/\k=its.length - i/\∃F' ρ',eB F1 F'/\Sr K F0 H0 F' H' σ' ρ'/\(gA m gb (its.drop i) ρ').res K E F0 H0 F' D,⟨_,bB _,rfl,F,ρ,s1,r,by simpa using q⟩,?_⟩
 rintro i k σ1 Hh ⟨hi,rfl,F2,ρ2,s2,r2,q2⟩
 by_cases hlt:i<its.length
 ·right;refine⟨igo i F2 Hh (hG _ _ _ _ s2 r2) hlt,λσ' H'=>∃F' ρ',eB F1 F'/\Sr K F0 H0 F' H' σ' ρ'/\(gA m gb (its.drop (i+1)) ρ').res K E F0 H0 F' D,λσ' H' z=>⟨its.length - (i+1),by omega,hlt,rfl,z⟩,λx H' y=>?_⟩;have et:its[i]? = some its[i]:=ag hlt;obtain⟨F3,g3,rp⟩:=iyl i _ F2 Hh x H' (hG _ _ _ _ s2 r2) et y;rw[cB hlt] at q2;unfold gA at q2;cases em:m its[i] ρ2 with
  | none=>rw[em] at q2;exact q2.elim
  | some ρ3=>
   rw[em] at q2;refine hg F0 H0 F3 H' σ1 ρ2 x _ ρ3 _ (r2.grow g3) rp em λσ' r'=>?_;refine hb F0 H0 F3 H' σ' ρ3 _ r' ?_;dsimp only at q2;cases eb:gb ρ3 with
   | bad=>rw[eb] at q2;exact q2.elim
   | nx ρ4=>rw[eb] at q2;exact λF' H'' σ'' s r''=>⟨F',ρ4,(s2.trans g3.ff).trans s,r'',O.res.go q2 (g3.ff.trans s)⟩
   | ct ρ4=>rw[eb] at q2;exact λF' H'' σ'' s r''=>⟨F',ρ4,(s2.trans g3.ff).trans s,r'',O.res.go q2 (g3.ff.trans s)⟩
   | bk ρ4=>rw[eb] at q2;exact kN.go q2 g3.ff
   | rt t=>rw[eb] at q2;exact q2
   | rf ts=>rw[eb] at q2;exact q2
   | er C n=>rw[eb] at q2;exact q2
 ·left;have e:i=its.length:=by omega
  subst e;refine⟨isp F2 Hh (hG _ _ _ _ s2 r2),?_⟩;rw[List.drop_length] at q2;exact (q2:kN K F0 H0 F2 D.nx ρ2) F2 Hh σ1 (.refl _) r2
theorem qR{g:TG}{tb:TS}{m:T->En->Option En}{gb:En->O}{J:It}{its:List T}(hg:Dp K g m)(hb:MS K E tb gb)(iok:rE K J its F1)(r:Sr K F0 H0 F H σ ρ)(s1:eB F1 F)
  (q:(gA m gb its ρ).res K E F0 H0 F D):∃W:Nat->Nat->St->Hp->Prop,(∃m,W 0 m σ H)/\∀i m σ H,W i m σ H->
 (J.stop i H/\D.nx σ H)\/(J.go i H/\∃N:St->Hp->Prop,(∀σ' H',N σ' H'->∃m',m'<m/\W (i+1) m' σ' H')/\∀x H',J.yld i H x H'->g x σ H' λσ2 H2=>tb {D with nx:=N,ct:=N,bk:=D.nx} σ2 H2):=
 v5 (G:=λF H=>eB F1 F/\eB F H) hg hb (λi F H q hi=>iok.go i H (q.1.trans q.2) hi) (λF H q=>iok.stop H (q.1.trans q.2)) (λi t F H x H' q e y=>iok.yld i t F H x H' q.1 q.2 e y) (λ_ _ _ _ s r=>⟨s,r.gr.fh⟩) r s1 q
@[simp] noncomputable def kJ(fi:Pe->M (List T))(m:T->En->Option En)(g:En->O):En->O:=λρ=>.of (fi (lE ρ)) λits=>gA m g its ρ
theorem EK{w:TI}{fi:Pe->M (List T)}{g:TG}{tb:TS}{m:T->En->Option En}{gb:En->O}(hi:MI K E w fi)(hg:Dp K g m)(hb:MS K E tb gb):MS K E (yT w g tb) (kJ fi m gb):=λF0 H0 F H σ ρ D r q=>hi F H σ (lE ρ) _ r.gr.fh r.vars ((O.res_of q).mono (λits z J F' H' gr iok=>qR hg hb iok (r.grow gr) (.refl _) (z.go gr.ff)) λC n z=>z.go r.gr)
@[simp] noncomputable def lx(fi:Pe->M (List T))(m:T->En->Option En)(g:En->O):En->O:=λρ=>.of (fi (vw ρ)) λits=>gA m g its ρ
theorem CB{w:TI}{fi:Pe->M (List T)}{g:TG}{tb:TS}{m:T->En->Option En}{gb:En->O}(hi:FV K E w fi)(hg:Dp K g m)(hb:MS K E tb gb):MS K E (yT w g tb) (lx fi m gb):=λF0 H0 F H σ ρ D r q=>by obtain⟨Fl,s0,g0,V,back⟩:=r.lend;refine hi Fl H σ (vw ρ) _ g0.fh V ((O.res_of q).mono (λits z J F' H' gr iok=>?_) λC n z=>z.go g0);obtain⟨Fb,gb',sb,_⟩:=back F' H' gr;exact qR hg hb (iok Fb) (r.grow gb') (.refl _) (z.go sb)
noncomputable def jd(c:Pe->M Bool)(g:En->O):Nat->En->O
 | 0,_=>.bad
 | n+1,ρ=>.of (c (vw ρ)) λb=>if b then (match g ρ with
   | .nx ρ2=>jd c g n ρ2
   | .ct ρ2=>jd c g n ρ2
   | .bk ρ2=>.nx ρ2
   | o=>o) else .nx ρ
theorem zK{c:TT}{fc:Pe->M Bool}{tb:TS}{gb:En->O}(fuel:En->Nat)(hc:MT K E c fc)(hb:MS K E tb gb):MS K E (uB c tb) (λρ=>jd fc gb (fuel ρ) ρ):=λF0 H0 F H σ ρ D r q=>by
 refine⟨λn σ' H'=>∃F' ρ',eB F F'/\Sr K F0 H0 F' H' σ' ρ'/\(jd fc gb n ρ').res K E F0 H0 F' D,⟨fuel ρ,F,ρ,.refl _,r,q⟩,?_⟩;rintro n σ1 Hh ⟨F2,ρ2,s2,r2,q2⟩;cases n with
 | zero=>exact q2.elim
 | succ n=>
  unfold jd at q2;refine hc.inS r2 q2 λb F3 H3 s3 r3 q3=>?_;cases b with
  | true=>
   rw[aP rfl] at q3 ⊢;refine⟨λσ' H'=>∃F' ρ',eB F F'/\Sr K F0 H0 F' H' σ' ρ'/\(jd fc gb n ρ').res K E F0 H0 F' D,λσ' H' z=>⟨n,bA n,z⟩,?_⟩;refine hb F0 H0 F3 H3 σ1 ρ2 _ r3 ?_;cases eb:gb ρ2 with
   | bad=>rw[eb] at q3;exact q3.elim
   | nx ρ4=>rw[eb] at q3;exact λF' H'' σ'' s r''=>⟨F',ρ4,(s2.trans s3).trans s,r'',O.res.go q3 s⟩
   | ct ρ4=>rw[eb] at q3;exact λF' H'' σ'' s r''=>⟨F',ρ4,(s2.trans s3).trans s,r'',O.res.go q3 s⟩
   | bk ρ4=>rw[eb] at q3;exact q3
   | rt t=>rw[eb] at q3;exact q3
   | rf ts=>rw[eb] at q3;exact q3
   | er C n=>rw[eb] at q3;exact q3
  | false=>rw[aQ aG] at q3 ⊢;exact (q3:kN K F0 H0 F3 D.nx ρ2) F3 H3 σ1 (.refl _) r3
@[simp] def je(ix:List (Option Nat))(ρ:Pe):Pe:=ix.map fun
 | none=>none
 | some j=>(ρ[j]?).getD none
theorem iE.pull{σ:St}{ρ:Pe}(V:iE K F σ ρ)(ix:List (Option Nat)):iE K F (L2.pull ix σ) (je ix ρ):=λi t e=>by
 unfold je at e;rw[av] at e;cases q:ix[i]? with
 | none=>rw[q] at e;cases e
 | some w=>
  rw[q] at e;cases w with
  | none=>cases e
  | some j=>
   have e':(ρ[j]?).getD none=some t:=by simpa using e
   cases z:ρ[j]? with
   | none=>rw[z] at e';cases e'
   | some y=>rw[z] at e';have:y=some t:=e';rw[this] at z;obtain⟨v,a,b⟩:=V j t z;refine⟨v,?_,b⟩;show (L2.pull ix σ)[i]? = _;unfold L2.pull;rw[av,q];simp[a]
@[simp] noncomputable def lH(m:T->Pe->Option Pe)(tt:Pe->M Bool)(te:Pe->M T)(ρ:Pe)(t:T):M (Option T):=match m t ρ with
 | none=>.bad
 | some ρ1=>(tt ρ1).bind λb=>if b then (te ρ1).bind λx=>.ok (some x) else .ok none
noncomputable def ku(k:T->M (Option T)):List T->M (List T)
 | []=>.ok []
 | t::ts=>(k t).bind λo=>(ku k ts).bind λr=>.ok (match o with
  | some x=>x::r
  | none=>r)
def Bd:XK:=λ_ _ _=>False
theorem DZ:MT K E Ez (λ_=>.ok true):=λF H σ ρ Q s V q=>(q:kB F H Q true) F H (.refl s)
theorem AW{ix:List (Option Nat)}{g:TG}{tt:TT}{te:TE}{m:T->Pe->Option Pe}{ft:Pe->M Bool}{fe:Pe->M T}{J:It}{its:List T}{ρ:Pe}{Q:VK}(hg:MG K g m)(ht:MT K Bd tt ft)(he:ME K Bd te fe)(V:iE K F1 σ ρ)
  (iok:rE K J its F1) (s:eB F1 H1) (hl:its.length<sizeLine) (q:(ku (lH m ft fe (je ix ρ)) its).res (kF K F1 H1 Q) (λ_ _=>False)):Ik J ix g tt te σ H1 Q:=by
 refine⟨λi k ys H=>i<=its.length/\k=its.length - i/\∃F' ts,Gr F1 H1 F' H/\ek K F' ys ts/\ts.length<=i/\(ku (lH m ft fe (je ix ρ)) (its.drop i)).res (λus=>kF K F1 H1 Q (ts++us)) (λ_ _=>False),
  ⟨_,bB _,rfl,F1,[],.refl s,.nil,bB _,by simpa using q⟩,?_⟩
 rintro i k ys Hh ⟨hi,rfl,F2,ts,g2,r2,tl,q2⟩;by_cases hlt:i<its.length
 ·right;refine⟨iok.go i Hh (g2.ff.trans g2.fh) hlt,by rw[r2.length];omega,λx H' y=>?_⟩;have et:its[i]? = some its[i]:=ag hlt;obtain⟨F3,g3,rp⟩:=iok.yld i _ F2 Hh x H' g2.ff g2.fh et y;rw[cB hlt] at q2;unfold ku at q2;have q3:=M.res.unb q2;unfold lH at q3;cases em:m its[i] (je ix ρ) with
  | none=>rw[em] at q3;exact q3.elim
  | some ρ3=>
   rw[em] at q3;have g23:=g2.trans g3;have V3:iE K F3 (L2.pull ix σ) (je ix ρ):=(V.mono g23.ff).pull ix;refine hg F3 H' _ _ x _ ρ3 _ g3.fh (by simp[L2.pull,je]) V3 rp em λσ' hl' V'=>?_;have q4:=M.res.unb q3;refine ht F3 H' σ' ρ3 _ g3.fh V' (q4.mono (λb z F4 H4 g4=>?_) λ_ _ z=>z.elim);cases b with
   | true=>rw[aP rfl] at z ⊢;have q5:=M.res.unb z;refine he F4 H4 σ' ρ3 _ g4.fh (V'.mono g4.ff) (q5.mono (λx' z' v F5 H5 g5 rp'=>?_) λ_ _ z=>z.elim);refine⟨its.length - (i+1),by omega,hlt,rfl,F5,ts++[x'],(g23.trans g4).trans g5,(r2.mono (g3.ff.trans (g4.ff.trans g5.ff))).append (.cons rp' .nil),by simp;omega,?_⟩;have z'':(ku (lH m ft fe (je ix ρ)) (its.drop (i+1))).res (λus=>kF K F1 H1 Q (ts++(x'::us))) (λ_ _=>False):=M.res.unb z';exact z''.mono (λus w=>by rw[bT];exact w) λ_ _ w=>w
   | false=>rw[aQ aG] at z ⊢;refine⟨its.length - (i+1),by omega,hlt,rfl,F4,ts,g23.trans g4,r2.mono (g3.ff.trans g4.ff),by omega,?_⟩;exact M.res.unb z
 ·left;have e:i=its.length:=by omega
  subst e;rw[List.drop_length] at q2;refine⟨iok.stop Hh (g2.ff.trans g2.fh),λD hD=>?_⟩;have q3:kF K F1 H1 Q ts:=by simpa[ku,M.res] using q2
  exact q3 D ys F2 _ (g2.trans (.new' g2.fh hD)) (eJ g2.hh hD) (eJ g2.fh hD) d8 r2
theorem C9{ix:List (Option Nat)}{w:TI}{g:TG}{tt:TT}{te:TE}{fi:Pe->M (List T)}{m:T->Pe->Option Pe}{ft:Pe->M Bool}{fe:Pe->M T}(hi:MI K E w fi)(hg:MG K g m)(ht:MT K Bd tt ft)(he:ME K Bd te fe) :
  MF K E (zG ix w g tt te) (λρ=>(fi ρ).bind λits=>(if its.length<sizeLine then ku (lH m ft fe (je ix ρ)) its else .bad).noEr):=λF H σ ρ Q s V q=>by
 refine hi F H σ ρ _ s V ((M.res.unb q).mono (λits z J F' H' gr iok=>?_) λ_ _ z=>z);split at z
 ·rename_i hl;exact AW hg ht he (V.mono gr.ff) iok gr.fh hl (z.noEr.mono (λ_ w=>w.go gr) λ_ _ w=>w)
 ·exact z.elim
end
end L3
namespace L3
open PySem L2
section
variable {K:W.Frag}{E:XK}{t u ta tb:TE}{f fa fb:Pe->M T}{F0:Fz}{H0 F H F1 H1:Hp}{σ:St}{ρ:En}{D:rT}
noncomputable def p0(K:W.Frag)(F:List T->M T):Sp:=λvs H Q E=>∃ts F0,eB F0 H/\ek K F0 vs ts/\(F ts).res (kV K F0 H Q) (kE E F0 H)
noncomputable def uX(K:W.Frag)(F:List T->M (List T)):Sp:=λvs H Q E=>∃ts F0,eB F0 H/\ek K F0 vs ts/\(F ts).res (kF K F0 H Q) (kE E F0 H)
@[simp] noncomputable def dW(fa:Pe->M (List T))(F:List T->M T):Pe->M T:=λρ=>(fa ρ).bind λts=>(F ts).noEr
@[simp] noncomputable def gW(fa:Pe->M (List T))(F:List T->M (List T)):Pe->M (List T):=λρ=>(fa ρ).bind λts=>(F ts).noEr
section
variable {tr:TA}{fr:Pe->M (List T)}{Fn:List T->M T}{Ff:List T->M (List T)}{E':XK}
theorem y0(ha:MA K E tr fr):ME K E (qM (p0 K Fn) [] E' tr) (dW fr Fn):=λF H σ ρ Q s V q=>by refine ha.run s V q λts vs F1 H1 g1 r1 q1=>?_;exact⟨ts,F1,g1.fh,by rw[bC];exact r1,(q1.mono (λ_ z=>kV.go z g1) λ_ _ z=>z).noEr⟩
theorem yW(ha:MA K E tr fr):MF K E (qM (uX K Ff) [] E' tr) (gW fr Ff):=λF H σ ρ Q s V q=>by refine ha.run s V q λts vs F1 H1 g1 r1 q1=>?_;exact⟨ts,F1,g1.fh,by rw[bC];exact r1,(q1.mono (λ_ z=>kF.go z g1) λ_ _ z=>z).noEr⟩
@[simp] def nH(C:Addr)(m:Str)(x:T):M Unit:=match x with
 | .obj C' fs=>if C'=C/\fs.lookup m=none then .ok () else .bad
 | _=>.bad
@[simp] noncomputable def nR(C:Addr)(m:Str)(fo:Pe->M T)(fr:Pe->M (List T))(F:List T->M T):Pe->M T:=λρ=>(fo ρ).bind λx=>(nH C m x).bind λ_=>(fr ρ).bind λxs=>(F (x::xs)).noEr
@[simp] noncomputable def oP(C:Addr)(m:Str)(fo:Pe->M T)(fr:Pe->M (List T))(F:List T->M (List T)):Pe->M (List T):=λρ=>(fo ρ).bind λx=>(nH C m x).bind λ_=>(fr ρ).bind λxs=>(F (x::xs)).noEr
theorem xj{C:Addr}{m:Str}{x:T}{v:V}(r:iz K F v x)(e:nH C m x=.ok ()):∃a dx fs,v=.ref a/\F a=some (.ins C dx fs)/\fs.lookup m=none:=by
 cases r with
 | obj h rs=>
  rename_i a C' dx fs ts;have e:(if C'=C/\List.lookup m ts=none then M.ok () else M.bad)=.ok ():=e;by_cases hc:C'=C/\List.lookup m ts=none
  ·obtain⟨rfl,hl⟩:=hc;exact⟨a,dx,fs,rfl,h,rs.none_ hl⟩
  ·rw[aQ hc] at e;cases e
 | _=>cases e
theorem xh{C C':Addr}{m:Str}{x:T}{n:Option Int}:nH C m x≠.er C' n:=by
 unfold nH;split
 ·split<;>exact λz=>nomatch z
 ·exact λz=>nomatch z
theorem yC{C:Addr}{m:Str}(ho:ME K E ta fa)(hr:MA K E tr fr):ME K E (qA C m (p0 K Fn) [] E' ta tr) (nR C m fa fr Fn):=λF H σ ρ Q s V q=>by
 refine ho.run s V q λx v F1 H1 g1 r1 q1=>?_;cases e:nH C m x with
 | bad=>rw[e] at q1;exact q1.elim
 | er C n=>exact absurd e xh
 | ok u=>rw[e] at q1;obtain⟨a,dx,fs,rfl,h,hl⟩:=xj r1 e;refine⟨a,dx,fs,rfl,g1.fh _ _ h,hl,?_⟩;refine hr.run (P:=kV K F _ Q) g1.fh (V.mono g1.ff) q1 λts vs F2 H2 g2 r2 q2=>?_;exact⟨x::ts,F2,g2.fh,by rw[bC];exact .cons (r1.mono g2.ff) r2,(q2.mono (λ_ z=>kV.go z (g1.trans g2)) λ_ _ z=>z).noEr⟩
theorem zk{C:Addr}{m:Str}(ho:ME K E ta fa)(hr:MA K E tr fr):MF K E (qA C m (uX K Ff) [] E' ta tr) (oP C m fa fr Ff):=λF H σ ρ Q s V q=>by
 refine ho.run s V q λx v F1 H1 g1 r1 q1=>?_;cases e:nH C m x with
 | bad=>rw[e] at q1;exact q1.elim
 | er C n=>exact absurd e xh
 | ok u=>rw[e] at q1;obtain⟨a,dx,fs,rfl,h,hl⟩:=xj r1 e;refine⟨a,dx,fs,rfl,g1.fh _ _ h,hl,?_⟩;refine hr.run (P:=kF K F _ Q) g1.fh (V.mono g1.ff) q1 λts vs F2 H2 g2 r2 q2=>?_;exact⟨x::ts,F2,g2.fh,by rw[bC];exact .cons (r1.mono g2.ff) r2,(q2.mono (λ_ z=>kF.go z (g1.trans g2)) λ_ _ z=>z).noEr⟩
end
@[simp] noncomputable def HU:O->M T
 | .nx _=>.ok .non
 | .rt t=>.ok t
 | .rf ts=>.ok (.lst ts)
 | .er C n=>.er C n
 | _=>.bad
@[simp] noncomputable def HP:O->M (List T)
 | .rf ts=>.ok ts
 | .er C n=>.er C n
 | _=>.bad
@[simp] def eT(n:Nat)(ts:List T):En:=ts.map (λt=>some (W.p t))++List.replicate (n - ts.length) none
@[simp] noncomputable def jE(k n:Nat)(g:En->O):List T->M T:=λts=>if ts.length=k then HU (g (eT n ts)) else .bad
@[simp] noncomputable def ux(k n:Nat)(g:En->O):List T->M (List T):=λts=>if ts.length=k then HP (g (eT n ts)) else .bad
theorem qm{n i:Nat}{ts:List T}{kvs:List (LI×T)}(e:(eT n ts)[i]? = some (some (.d kvs))):False:=by
 unfold eT at e;rw[List.getElem?_append] at e;split at e
 ·rw[av] at e;cases q:ts[i]? with
  | none=>rw[q] at e;cases e
  | some x=>rw[q] at e;cases e
 ·rw[List.getElem?_replicate] at e;split at e<;>cases e
theorem uj{N:List Str}{vs:List V}{ts:List T}(s:eB F H)(r:ek K F vs ts):Sr K ⟨F,[]⟩ H F H (i9 N vs) (eT N.length ts):=by
 refine⟨.refl s,?_,λi t e=>?_,⟨λ_=>0,λi us e=>?_,λi j us ws e=>?_⟩,λ_ he=>(nomatch he),λ_ _ _ h=>(by cases h),⟨λi kvs e=>(qm e).elim,λi j kvs kvs' e=>(qm e).elim⟩⟩
 ·simp[L2.i9,eT,r.length]
 ·unfold eT at e;rw[List.getElem?_append] at e;split at e
  ·rename_i hi;rw[av] at e;cases q:ts[i]? with
   | none=>rw[q] at e;cases e
   | some x=>rw[q] at e;cases e;obtain⟨v,a,b⟩:=r.get q;refine⟨v,?_,b⟩;unfold L2.i9;rw[List.getElem?_append_left (by simpa[r.length] using hi),av,a];rfl
  ·rw[List.getElem?_replicate] at e;split at e<;>cases e
 ·exfalso;unfold eT at e;rw[List.getElem?_append] at e;split at e
  ·rw[av] at e;cases q:ts[i]? with
   | none=>rw[q] at e;cases e
   | some x=>rw[q] at e;cases e
  ·rw[List.getElem?_replicate] at e;split at e<;>cases e
 ·exfalso;unfold eT at e;rw[List.getElem?_append] at e;split at e
  ·rw[av] at e;cases q:ts[i]? with
   | none=>rw[q] at e;cases e
   | some x=>rw[q] at e;cases e
  ·rw[List.getElem?_replicate] at e;split at e<;>cases e
theorem uA{k n:Nat}{g:En->O}{vs:List V}{Q:VK}(h:p0 K (jE k n g) vs H Q E):vs.length=k:=by
 obtain⟨ts,F0,s,r,q⟩:=h;unfold jE at q;by_cases hk:ts.length=k
 ·rw[r.length];exact hk
 ·rw[aQ hk] at q;exact q.elim
theorem sA{k:Nat}{N:List Str}{g:En->O}{t:TS}{vs:List V}{Q:VK}(hm:MS K E t g)(h:p0 K (jE k N.length g) vs H Q E):t {nx:=λ_ H'=>Q .non H',rt:=Q} (i9 N vs) H:=by
 obtain⟨ts,F0,s,r,q⟩:=h;unfold jE at q;by_cases hk:ts.length=k
 ·rw[aP hk] at q;refine hm ⟨F0,[]⟩ H F0 H _ _ _ (uj s r) ?_;cases e:g (eT N.length ts) with
  | bad=>rw[e] at q;exact q
  | nx ρ=>rw[e] at q;exact λF' H' σ' _ r'=>(q:kV K F0 H Q .non) .non F' H' r'.gr .non
  | rt t=>rw[e] at q;exact q
  | rf ts=>rw[e] at q;exact kF.of q
  | bk ρ=>rw[e] at q;exact q.elim
  | ct ρ=>rw[e] at q;exact q.elim
  | er C n=>rw[e] at q;exact q
 ·rw[aQ hk] at q;exact q.elim
theorem xf{k n:Nat}{g:En->O}{vs:List V}{Q:VK}(h:uX K (ux k n g) vs H Q E):vs.length=k:=by
 obtain⟨ts,F0,s,r,q⟩:=h;unfold ux at q;by_cases hk:ts.length=k
 ·rw[r.length];exact hk
 ·rw[aQ hk] at q;exact q.elim
theorem tX{k:Nat}{N:List Str}{g:En->O}{t:TS}{vs:List V}{Q:VK}(hm:MS K E t g)(h:uX K (ux k N.length g) vs H Q E):t {nx:=λ_ H'=>Q .non H',rt:=Q} (i9 N vs) H:=by
 obtain⟨ts,F0,s,r,q⟩:=h;unfold ux at q;by_cases hk:ts.length=k
 ·rw[aP hk] at q;refine hm ⟨F0,[]⟩ H F0 H _ _ _ (uj s r) ?_;cases e:g (eT N.length ts) with
  | bad=>rw[e] at q;exact q
  | nx ρ=>rw[e] at q;exact q.elim
  | rt t=>rw[e] at q;exact q.elim
  | rf ts=>rw[e] at q;exact q
  | bk ρ=>rw[e] at q;exact q.elim
  | ct ρ=>rw[e] at q;exact q.elim
  | er C n=>rw[e] at q;exact q
 ·rw[aQ hk] at q;exact q.elim
@[simp] noncomputable def tz(C:Addr)(x:Str)(fa:Pe->M T):Pe->M T:=λρ=>(fa ρ).bind λo=>match o with
 | .obj C' fs=>if C'=C then (match fs.lookup x with
  | some t=>.ok t
  | none=>.bad) else .bad
 | _=>.bad
theorem EV{C:Addr}{x:Str}(cl:qB K C)(na:iJ K C x)(ha:ME K E ta fa):ME K E (E5 K ta x) (tz C x fa):=λF H σ ρ Q s V q=>by
 refine ha.run s V q λo v F1 H1 g1 r1 q1=>?_;cases r1 with
 | obj h rs=>
  rename_i a C' dx fs ts;dsimp only at q1;by_cases hc:C'=C
  ·subst hc;rw[aP rfl] at q1;cases e:List.lookup x ts with
   | none=>rw[e] at q1;exact q1.elim
   | some y=>rw[e] at q1;obtain⟨w,e',r'⟩:=rs.look e;exact⟨a,C',dx,fs,w,rfl,g1.fh _ _ h,cl,na,e',(q1:kV K F _ Q y) w F1 H1 g1 r'⟩
  ·rw[aQ hc] at q1;exact q1.elim
 | _=>exact q1.elim
end
end L3
namespace L3
open PySem L2 PySem.Spec PyProof.Rows
structure Pm(K:W.Frag)(E:XK)(X:Cx)(e:Expr)(t:TE)(f:Pe->M T):Prop where
 pe:PE X e t
 me:ME K E t f
structure yA(K:W.Frag)(E:XK)(X:Cx)(e:Expr)(t:TE)(f:Pe->M (List T)):Prop where
 pe:PE X e t
 mf:MF K E t f
structure uh(K:W.Frag)(E:XK)(X:Cx)(e:Expr)(t:TT)(f:Pe->M Bool):Prop where
 pt:PT X e t
 mt:MT K E t f
structure Eo(K:W.Frag)(E:XK)(X:Cx)(e:Expr)(t:TT)(f:Pe->M Bool):Prop where
 pw:PW X e t
 mt:MT K E t f
structure uy(K:W.Frag)(E:XK)(X:Cx)(es:List Expr)(t:TA)(f:Pe->M (List T)):Prop where
 pa:PA X es t
 ma:MA K E t f
structure Cr(K:W.Frag)(E:XK)(X:Cx)(tg it:Expr)(w:TI)(f:Pe->M (List T)):Prop where
 pi:PI X tg it w
 mi:MI K E w f
structure pI(K:W.Frag)(E:XK)(X:Cx)(tg it:Expr)(w:TI)(f:Pe->M (List T)):Prop where
 pi:PI X tg it w
 mi:FV K E w f
structure FP(K:W.Frag)(X:Cx)(tg:Expr)(g:TG)(m:T->Pe->Option Pe):Prop where
 pg:PG X tg g
 mg:MG K g m
structure BL(K:W.Frag)(X:Cx)(tg:List Expr)(g:uw)(m:List T->Pe->Option Pe):Prop where
 pg:FX X tg g
 mg:GY K g m
structure GM(K:W.Frag)(X:Cx)(tg:Expr)(g:TG)(m:T->En->Option En):Prop where
 pg:PG X tg g
 mg:Dp K g m
structure B6(K:W.Frag)(X:Cx)(tg:List Expr)(g:uw)(m:List T->En->Option En):Prop where
 pg:FX X tg g
 mg:yN K g m
structure rD(K:W.Frag)(E:XK)(X:Cx)(st:Stmt)(t:TS)(g:En->O):Prop where
 ps:PS X st t
 ms:MS K E t g
structure lU(K:W.Frag)(E:XK)(X:Cx)(sts:List Stmt)(t:TS)(g:En->O):Prop where
 ps:uk X sts t
 ms:MS K E t g
noncomputable def MO(K:W.Frag)(E:XK)(t:TO)(f:Pe->M (Option Int)):Prop:=∀F H σ ρ Q,eB F H->iE K F σ ρ->(f ρ).res (λo=>∀F' H',Gr F H F' H'->Q o H') (kE E F H)->t σ H Q
structure Hl(K:W.Frag)(E:XK)(X:Cx)(e:Option Expr)(t:TO)(f:Pe->M (Option Int)):Prop where
 po:PO X e t
 mo:MO K E t f
structure zy(K:W.Frag)(E:XK)(X:Cx)(es:List Expr)(t:TT)(f:Pe->M Bool):Prop where
 pf:xF X es t
 mt:MT K E t f
section
variable {K:W.Frag}{E:XK}{X:Cx}{a b c e o:Expr}{es:List Expr}{ta tb tc te to:TE}{fa fb fc fe fo:Pe->M T}{tr:TA}{fr:Pe->M (List T)}{pos p p2 apos:Pos}
theorem dE(i:Nat){x:Str}{pos:Pos}(hN:X.N[i]? = some x:=by rfl)(hv:G3 X.env.scope x:=by first | exact Or.inl rfl | exact Or.inr (Or.inl rfl) | exact Or.inr (Or.inr rfl))(hd:(x == ("__debug__" : Str))=false:=by decide)
  (hcd:(x == ("__classdict__" : Str))=false:=by decide):Pm K E X (.Name x pos) (kQ i) (dG i):=⟨pv i hN hv hd hcd,Fi⟩
theorem dO{i:Int}{j pos}:Pm K E X (.Constant (.int i) j pos) (tC (.int i)) (cM (.int i)):=⟨EL,B7 λ_=>.int i⟩
theorem lD{b:Bool}{j pos}:Pm K E X (.Constant (.bool b) j pos) (tC (.bl b)) (cM (.bl b)):=⟨Gu,B7 λ_=>.bl b⟩
theorem vW{x:Str}{j pos}:Pm K E X (.Constant (.str x) j pos) (tC (.str x)) (cM (.str x)):=⟨DU,B7 λ_=>.str x⟩
theorem tN(i:Int){x:Str}(hm:∃t,X.mg x=some (.int i t))(hg:Gl X x:=by rfl)(hd:(x == ("__debug__" : Str))=false:=by decide):Pm K E X (.Name x pos) (tC (.int i)) (cM (.int i)):=let ⟨t,h⟩:=hm;⟨Bm hg h ⟨t,rfl⟩ hd,B7 λ_=>.int i⟩
theorem eI{f:Pe->M (List T)}(h:yA K E X e te f):Pm K E X e te (λρ=>(f ρ).bind λts=>.ok (.lst ts)):=⟨h.pe,h.mf.me⟩
theorem qy{op:Operator}{r:R2}{m:T->T->M T}(ho:kz X (binaryOp op) r)(hr:MR K r m)(ha:Pm K E X a ta fa)(hb:Pm K E X b tb fb):Pm K E X (.BinOp a op b pos) (pU r ta tb) (dY m fa fb):=⟨An ho ha.pe hb.pe,wO hr ha.me hb.me⟩
def Av(K:W.Frag):R2:=λx y H Q=>(uW λi j=>.int (i+j)) x y H Q\/(∃i j,x=.str i/\y=.str j/\i.length+j.length<=sizeLine/\Q (.str (i++j)) H)\/FI x y H Q\/
 ∃a b xs ys,x=.ref a/\y=.ref b/\H a=some (.tup xs)/\H b=some (.tup ys)/\xs.length+ys.length<=sizeLine/\(xs=[]->Q (.ref b) H)/\(xs≠[]->ys=[]->Q (.ref a) H)/\(xs≠[]->ys≠[]->∀p,H p=none->Q (.ref p) (gC H p (.tup (xs++ys))))
theorem CJ(hK:X.K=K:=by rfl):kz X (binaryOp .Add) (Av K):=by
 subst hK;intro dH s σ H x y v u Q I rx ry h;rcases h with h | h | h | h
 ·exact EX dH s σ H x y v u Q I rx ry h
 ·exact v8 dH s σ H x y v u Q I rx ry h
 ·exact zC dH s σ H x y v u Q I rx ry h
 ·obtain⟨a,b,xs,ys,rfl,rfl,ha,hb,hz,q1,q2,q3⟩:=h;by_cases hx:xs=[]
  ·subst hx;cases rx;cases ry;obtain⟨its,r1,p1,_⟩:=I.tuple (iL.of ha);obtain⟨its2,r2,p2,_⟩:=I.tuple (iL.of hb);cases r1;obtain⟨⟨c1,d1,e1,s1⟩,g1,k1,n1,q1'⟩:=id p1;obtain⟨⟨c2,d2,e2,s2⟩,g2,k2,n2,q2'⟩:=id p2;dsimp only at k1 q1' k2 q2';subst k1 q1' k2 q2';exact concat_meets ⟨_,g1,rfl⟩ ⟨_,g2,rfl⟩ noFill_tuple_add seq_tuple_add PySem.F.slot_tuple_add PySem.F.entry_tuple_add (PySem.F.args_tuple_add_2 _ _) (tuple_addW0 a b _ _ n1 n2 d1 d2 s1 s2 (by simp)) ⟨g1,g2,⟨.ref b,H,I,rfl,q1 rfl⟩⟩
  ·exact BS dH s σ H _ _ v u Q I rx ry ⟨a,b,xs,ys,rfl,rfl,iL.of ha,iL.of hb,hx,hz,λe=>q2 hx e,λe p hp=>q3 hx e p hp⟩
noncomputable def gx:T->T->M T
 | .int i,.int j=>.ok (.int (i+j))
 | .str i,.str j=>if i.length+j.length<=sizeLine then .ok (.str (i++j)) else .bad
 | .lst a,.lst b=>if a.length+b.length<=sizeLine then .ok (.lst (a++b)) else .bad
 | .tup a,.tup b=>if a.length+b.length<=sizeLine then .ok (.tup (a++b)) else .bad
 | _,_=>.bad
theorem CS(x y:T):M.NoE (gx x y):=λC n=>by unfold gx;split<;>first | (intro z;cases z;done) | (split<;>intro z<;>cases z)
theorem CM:MR K (Av K) gx:=⟨CS,λF H v w x y Q s ra rb q=>by
 cases ra with
 | int i=>
  cases rb with
  | int j=>exact .inl ⟨i,j,rfl,rfl,kV.now q s (.int _)⟩
  | _=>exact q.elim
 | str i=>
  cases rb with
  | str j=>
   have q':(if i.length+j.length<=sizeLine then M.ok (T.str (i++j)) else M.bad).res (kV K F H Q) (λ_ _=>False):=q;by_cases h:i.length+j.length<=sizeLine
   ·rw[aP h] at q';exact .inr (.inl ⟨i,j,rfl,rfl,h,kV.now q' s (.str _)⟩)
   ·rw[aQ h] at q';exact q'.elim
  | _=>exact q.elim
 | lst h1 r1=>
  cases rb with
  | lst h2 r2=>
   rename_i a xs ts b ys us;have q':(if ts.length+us.length<=sizeLine then M.ok (T.lst (ts++us)) else M.bad).res (kV K F H Q) (λ_ _=>False):=q;by_cases h:ts.length+us.length<=sizeLine
   ·rw[aP h] at q';refine .inr (.inr (.inl ⟨a,b,xs,ys,rfl,rfl,s _ _ h1,s _ _ h2,by rw[r1.length,r2.length];exact h,λp hp=>?_⟩));exact (q':kV K F H Q _) (.ref p) _ _ (.new s hp) (.lst d8 ((r1.append r2).mono (Gr.new s hp).ff))
   ·rw[aQ h] at q';exact q'.elim
  | _=>exact q.elim
 | tup h1 r1=>
  cases rb with
  | tup h2 r2=>
   rename_i a xs ts b ys us;have q':(if ts.length+us.length<=sizeLine then M.ok (T.tup (ts++us)) else M.bad).res (kV K F H Q) (λ_ _=>False):=q;by_cases h:ts.length+us.length<=sizeLine
   ·rw[aP h] at q';refine .inr (.inr (.inr ⟨a,b,xs,ys,rfl,rfl,s _ _ h1,s _ _ h2,by rw[r1.length,r2.length];exact h,λe=>?_,λ_ e=>?_,λ_ _ p hp=>?_⟩))
    ·subst e;cases r1;exact kV.now q' s (.tup h2 r2)
    ·subst e;cases r2;exact kV.now q' s (.tup h1 (by rw[bC];exact r1))
    ·exact (q':kV K F H Q _) (.ref p) _ _ (.new s hp) (.tup d8 ((r1.append r2).mono (Gr.new s hp).ff))
   ·rw[aQ h] at q';exact q'.elim
  | _=>exact q.elim
 | _=>exact q.elim⟩
theorem gj(ha:Pm K E X a ta fa)(hb:Pm K E X b tb fb)(hK:X.K=K:=by rfl):Pm K E X (.BinOp a .Add b pos) (pU (Av K) ta tb) (dY gx fa fb):=qy (CJ hK) CM ha hb
@[simp] noncomputable def oV(fa fb:Pe->M T):Pe->M (List T):=λρ=>(fa ρ).bind λx=>(fb ρ).bind λy=>match x,y with
 | .lst a,.lst b=>if a.length+b.length<=sizeLine then .ok (a++b) else .bad
 | _,_=>.bad
theorem pC(ha:Pm K E X a ta fa)(hb:Pm K E X b tb fb):yA K E X (.BinOp a .Add b pos) (pU FI ta tb) (oV fa fb):=by
 refine⟨An zC ha.pe hb.pe,λF H σ ρ Q s V q=>?_⟩;refine ha.me.run s V q λx v F1 H1 g1 r1 q1=>?_;refine hb.me.run (P:=kF K F H Q) g1.fh (V.mono g1.ff) q1 λy w F2 H2 g2 r2 q2=>?_;cases r1 with
 | lst h1 t1=>
  cases r2 with
  | lst h2 t2=>
   rename_i a xs ts b ys us;have q':(if ts.length+us.length<=sizeLine then M.ok (ts++us) else M.bad).res (kF K F H Q) (kE E F2 H2):=q2;by_cases h:ts.length+us.length<=sizeLine
   ·rw[aP h] at q';refine⟨a,b,xs,ys,rfl,rfl,g2.fh _ _ (g2.ff _ _ h1),g2.fh _ _ h2,by rw[t1.length,t2.length];exact h,λp hp=>?_⟩;have g12:=g1.trans g2;exact (q':kF K F H Q _) p _ F2 _ (g12.trans (.new' g2.fh hp)) (eJ g12.hh hp) (eJ g2.fh hp) d8 ((t1.mono g2.ff).append t2)
   ·rw[aQ h] at q';exact q'.elim
  | _=>exact q2.elim
 | _=>exact q2.elim
noncomputable def xP:T->T->M T:=ir (λ_ _=>true) λi j=>.int (i - j)
theorem su(ha:Pm K E X a ta fa)(hb:Pm K E X b tb fb):Pm K E X (.BinOp a .Sub b pos) (pU (uW λi j=>.int (i - j)) ta tb) (dY xP fa fb):=qy Eh (mI λ_ _ _=>.int _) ha hb
instance {i j:Int}:Decidable (PySem.IntMulOk i j):=inferInstanceAs (Decidable (¬_))
noncomputable def gH:T->T->M T:=ir (λi j=>decide (PySem.IntMulOk i j)) λi j=>.int (i*j)
theorem eZ(ha:Pm K E X a ta fa)(hb:Pm K E X b tb fb):Pm K E X (.BinOp a .Mult b pos) (pU (rI (λi j=>PySem.IntMulOk i j) λi j=>.int (i*j)) ta tb) (dY gH fa fb):=qy Bg (sC (λi j h=>of_decide_eq_true h) λ_ _ _=>.int _) ha hb
noncomputable def ko:T->T->M T:=ir (λi j=>decide (j≠0)&&!Builtin.divisionGoesByPylong i j) λi j=>.int (i.fdiv j)
theorem kh(ha:Pm K E X a ta fa)(hb:Pm K E X b tb fb):Pm K E X (.BinOp a .FloorDiv b pos) (pU (rI (λi j=>j≠0/\Builtin.divisionGoesByPylong i j=false) λi j=>.int (i.fdiv j)) ta tb) (dY ko fa fb):=qy zd (sC (λi j h=>by simpa using h) λ_ _ _=>.int _) ha hb
noncomputable def oF:T->T->M T:=ir (λ_ j=>decide (j≠0)) λi j=>.int (i.fmod j)
theorem lQ(ha:Pm K E X a ta fa)(hb:Pm K E X b tb fb):Pm K E X (.BinOp a .Mod b pos) (pU (rI (λ_ j=>j≠0) λi j=>.int (i.fmod j)) ta tb) (dY oF fa fb):=qy B3 (sC (λi j h=>by simpa using h) λ_ _ _=>.int _) ha hb
noncomputable def nY:T->T->M T:=ir (λi j=>decide (0<=j)&&decide (j<=1000000)&&decide (i.natAbs<18446744073709551616)) λi j=>.int (i ^ j.toNat)
theorem uT(ha:Pm K E X a ta fa)(hb:Pm K E X b tb fb):Pm K E X (.BinOp a .Pow b pos) (pU (rI He λi j=>.int (i ^ j.toNat)) ta tb) (dY nY fa fb):=qy Et (sC (λi j h=>by simp only[bM,decide_eq_true_eq] at h;exact⟨h.1.1,h.1.2,h.2⟩) λ_ _ _=>.int _) ha hb
theorem jn(ha:Pm K E X a ta fa):Pm K E X (.UnaryOp .USub a pos) (HE (rU λi=>.int (-i)) ta) (qG (λi=>.int (-i)) fa):=⟨GI FO ha.pe,Ha (λ_ _=>.int _) ha.me⟩
@[simp] noncomputable def qf(fa fb:Pe->M T):Pe->M (List T):=λρ=>(fa ρ).bind λx=>(fb ρ).bind λy=>match x,y with
 | .lst a,.int k=>if sG k=true/\a.length*k.toNat<=sizeLine then .ok (List.replicate k.toNat a).flatten else .bad
 | _,_=>.bad
theorem rj(ha:Pm K E X a ta fa)(hb:Pm K E X b tb fb):yA K E X (.BinOp a .Mult b pos) (pU Gv ta tb) (qf fa fb):=by
 refine⟨An EE ha.pe hb.pe,λF H σ ρ Q s V q=>?_⟩;refine ha.me.run s V q λx v F1 H1 g1 r1 q1=>?_;refine hb.me.run (P:=kF K F H Q) g1.fh (V.mono g1.ff) q1 λy w F2 H2 g2 r2 q2=>?_;cases r1 with
 | lst h1 t1=>
  cases r2 with
  | int k=>
   rename_i a xs ts;have q':(if sG k=true/\ts.length*k.toNat<=sizeLine then M.ok (List.replicate k.toNat ts).flatten else M.bad).res (kF K F H Q) (kE E F2 H2):=q2;by_cases h:sG k=true/\ts.length*k.toNat<=sizeLine
   ·rw[aP h] at q';refine⟨a,k,xs,rfl,rfl,g2.fh _ _ (g2.ff _ _ h1),by have:=jH h.1;rw[HG] at this;rw[Ig];omega,by have:=jH h.1;rw[HG] at this;rw[Ig];omega,by rw[t1.length];exact h.2,λp hp=>?_⟩;have g12:=g1.trans g2;exact (q':kF K F H Q _) p _ F2 _ (g12.trans (.new' g2.fh hp)) (eJ g12.hh hp) (eJ g2.fh hp) d8 ((t1.mono g2.ff).rep k.toNat)
   ·rw[aQ h] at q';exact q'.elim
  | _=>exact q2.elim
 | _=>exact q2.elim
theorem lI(h:Pm K E X e te fe)(he:∀whole,isTrue e X.env whole=(do let v <-whole;standAt e.pos;holding [v] (truthy v)):=by intro _;rfl):uh K E X e (tB te) (fM fe):=⟨ES h.pe he,Bf h.me⟩
section
variable {tA tD:TT}{fA fD:Pe->M Bool}{kn:List Expr}
theorem iW(h:uh K E X a tA fA):uh K E X (.UnaryOp .Not a pos) (DP tA) (kv fA):=⟨EO h.pt,Fs h.mt⟩
theorem sy(h:Eo K E X a tA fA):uh K E X a tA fA:=⟨PW.pt h.pw,h.mt⟩
theorem oH(h:uh K E X a tA fA):Eo K E X (.BoolOp .And [a] pos) tA fA:=⟨C2 h.pt,h.mt⟩
theorem lh(h:uh K E X a tA fA):Eo K E X (.BoolOp .Or [a] pos) tA fA:=⟨FN h.pt,h.mt⟩
theorem rn(h:uh K E X a tA fA)(h':Eo K E X (.BoolOp .And (b::kn) pos) tD fD):Eo K E X (.BoolOp .And (a::b::kn) pos) (EZ tA tD) (m8 fA fD):=⟨DX h.pt h'.pw,Ee h.mt h'.mt⟩
theorem ng(h:uh K E X a tA fA)(h':Eo K E X (.BoolOp .Or (b::kn) pos) tD fD):Eo K E X (.BoolOp .Or (a::b::kn) pos) (HZ tA tD) (tq fA fD):=⟨G1 h.pt h'.pw,GE h.mt h'.mt⟩
theorem vp{op}(h:Pm K E X a ta fa):Pm K E X (.BoolOp op [a] pos) ta fa:=⟨Ey h.pe,h.me⟩
theorem uM(h:Pm K E X a ta fa)(h':Pm K E X (.BoolOp .And (b::kn) pos) tb fb):Pm K E X (.BoolOp .And (a::b::kn) pos) (AZ ta tb) (zY fa fb):=⟨FE h.pe h'.pe,CQ h.me h'.me⟩
theorem AH(h:Pm K E X a ta fa):Pm K E X (.UnaryOp .Not a pos) (zO ta) (yQ fa):=⟨EA h.pe,BV h.me⟩
theorem GZ(h:uh K E X c tA fA)(ha:Pm K E X a ta fa)(hb:Pm K E X b tb fb):Pm K E X (.IfExp c a b pos) (H9 tA ta tb) (FW fA fa fb):=⟨AF h.pt ha.pe hb.pe,G2 h.mt ha.me hb.me⟩
end
theorem zg{op:CmpOp}{r:R2}{m:T->T->M T}(ho:kz X (compareOp op) r)(hr:MR K r m)(ha:Pm K E X a ta fa)(hb:Pm K E X b tb fb)(hm:behindInMarks op b=false:=by exact nF _):Pm K E X (.Compare a [op] [b] pos) (pU r ta tb) (dY m fa fb):=⟨Ct ho ha.pe hb.pe hm,wO hr ha.me hb.me⟩
theorem gK{op:CmpOp}{r:R2}{m:T->T->M T}(ho:kz X (compareOp op) r)(hr:MR K r m)(ha:Pm K E X a ta fa)(hb:Pm K E X b tb fb)(hm:behindInMarks op b=false:=by exact nF _):uh K E X (.Compare a [op] [b] pos) (nJ (pU r ta tb)) (fM (dY m fa fb)):=⟨B5 ho ha.pe hb.pe hm,wD (wO hr ha.me hb.me)⟩
noncomputable def DT:T->T->M T:=ir (λ_ _=>true) λi j=>.bl (decide (i<j))
noncomputable def Az:T->T->M T:=ir (λ_ _=>true) λi j=>.bl (decide (i<=j))
noncomputable def Ia:T->T->M T:=ir (λ_ _=>true) λi j=>.bl (decide (j<i))
noncomputable def Dc:T->T->M T:=ir (λ_ _=>true) λi j=>.bl (decide (j<=i))
theorem sH:MR K (uW λi j=>.bl (decide (i<j))) DT:=mI λ_ _ _=>.bl _
theorem tU:MR K (uW λi j=>.bl (decide (i<=j))) Az:=mI λ_ _ _=>.bl _
theorem GV:MR K (uW λi j=>.bl (decide (j<i))) Ia:=mI λ_ _ _=>.bl _
theorem wA:MR K (uW λi j=>.bl (decide (j<=i))) Dc:=mI λ_ _ _=>.bl _
@[simp] noncomputable def Dn(m m':T->T->M T)(fa fb fc:Pe->M T):Pe->M T:=λρ=>(fa ρ).bind λx=>(fb ρ).bind λy=>(m x y).bind λz=>match z with
 | .bl true=>(fc ρ).bind λw=>m' y w
 | .bl false=>.ok (.bl false)
 | _=>.bad
theorem sW{r r':R2}{m m':T->T->M T}(hr:MR K r m)(hr':MR K r' m')(ha:ME K E ta fa)(hb:ME K E tb fb)(hc:ME K E tc fc):ME K E (pL r r' ta tb tc) (Dn m m' fa fb fc):=λF H σ ρ Q s V q=>by
 refine ha.run s V q λx v F1 H1 g1 r1 q1=>?_;refine hb.run (P:=kV K F H Q) g1.fh (V.mono g1.ff) q1 λy w F2 H2 g2 r2 q2=>?_;refine hr.ok F2 H2 v w x y _ g2.fh (r1.mono g2.ff) r2 (((M.res.unb q2).ne (hr.ne x y)).mono (λz qz v3 F3 H3 g3 r3=>?_) λ_ _ z=>z);have g123:=(g1.trans g2).trans g3;cases r3 with
 | bl k=>
  refine⟨k,rfl,?_⟩;cases k with
  | true=>rw[aP rfl];have qz':((fc ρ).bind λw=>m' y w).res (kV K F H Q) (kE E F3 H3):=qz.mono (λ_ z=>z) λ_ _ z=>z.go g3;refine hc.run (P:=kV K F H Q) g3.fh (V.mono g123.ff) qz' λx4 w4 F4 H4 g4 r4 q4=>?_;exact hr'.ok F4 H4 w w4 y x4 Q g4.fh (r2.mono (g3.ff.trans g4.ff)) r4 ((q4.ne (hr'.ne y x4)).mono (λ_ z=>z.go (g123.trans g4)) λ_ _ z=>z)
  | false=>rw[aQ aG];exact (qz:kV K F H Q _) _ F3 H3 g123 (.bl _)
 | _=>exact qz.elim
theorem tO{op op':CmpOp}{r r':R2}{m m':T->T->M T}(ho:kz X (compareOp op) r)(hr:MR K r m)(ho':kz X (compareOp op') r')(hr':MR K r' m')(ha:Pm K E X a ta fa)(hb:Pm K E X b tb fb)(hc:Pm K E X c tc fc)
  (hm:lastMarks [op,op'] [b,c]=false:=by with_unfolding_all rfl):Pm K E X (.Compare a [op,op'] [b,c] pos) (pL r r' ta tb tc) (Dn m m' fa fb fc):=⟨AR ho ho' ha.pe hb.pe hc.pe hm,sW hr hr' ha.me hb.me hc.me⟩
theorem yc{op op':CmpOp}{r r':R2}{m m':T->T->M T}(ho:kz X (compareOp op) r)(hr:MR K r m)(ho':kz X (compareOp op') r')(hr':MR K r' m')(ha:Pm K E X a ta fa)(hb:Pm K E X b tb fb)(hc:Pm K E X c tc fc)
  (hm:lastMarks [op,op'] [b,c]=false:=by with_unfolding_all rfl):uh K E X (.Compare a [op,op'] [b,c] pos) (nJ (pL r r' ta tb tc)) (fM (Dn m m' fa fb fc)):=⟨yP ho ho' ha.pe hb.pe hc.pe hm,wD (sW hr hr' ha.me hb.me hc.me)⟩
mutual
def lA:T->T->Bool
 | .non,.non=>true
 | .bl a,.bl b=>a == b
 | .bl a,.int j=>(if a then 1 else 0) == j
 | .int i,.bl b=>i == (if b then 1 else 0)
 | .int i,.int j=>i == j
 | .str x,.str y=>x == y
 | .lst xs,.lst ys=>lY xs ys
 | .tup xs,.tup ys=>lY xs ys
 | _,_=>false
def lY:List T->List T->Bool
 | [],[]=>true
 | x::xs,y::ys=>lA x y&&lY xs ys
 | _,_=>false
end
mutual
def ja:T->Bool
 | .str x=>PyData.canLay0 (.str x)
 | .lst ts=>iR ts
 | .tup ts=>iR ts
 | .scr _=>false
 | .obj _ _=>false
 | .emp=>false
 | _=>true
def iR:List T->Bool
 | []=>true
 | t::ts=>ja t&&iR ts
end
mutual
def qD:T->Nat
 | .lst ts=>mB ts+1
 | .tup ts=>mB ts+1
 | _=>0
def mB:List T->Nat
 | []=>0
 | t::ts=>max (qD t) (mB ts)
end
mutual
def ls:T->PyData
 | .non=>.none
 | .bl b=>.bool b
 | .int i=>.int i
 | .str x=>.str x
 | .lst ts=>.list (kK ts)
 | .tup ts=>.tuple (kK ts)
 | .scr _=>.none
 | .obj _ _=>.none
 | .emp=>.none
def kK:List T->List PyData
 | []=>[]
 | t::ts=>ls t::kK ts
end
mutual
theorem wQ{F:Hp}:∀{v:V} {t:T},iz K F v t->ja t=true->DV K F v (ls t)
 | _,_,.non,_=>.non
 | _,_,.bl b,_=>.bl b
 | _,_,.int i,_=>.int i
 | _,_,.str x,_=>.str x
 | _,_,.lst h r,l=>.lst (ig.of h) (sf r (by simpa[ja] using l))
 | _,_,.tup h r,l=>.tup (iL.of h) (sf r (by simpa[ja] using l))
 | _,_,.scr _,l=>by simp[ja] at l
 | _,_,.obj _ _,l=>by simp[ja] at l
 | _,_,.emp _,l=>by simp[ja] at l
theorem sf{F:Hp}:∀{vs:List V} {ts:List T},ek K F vs ts->iR ts=true->rG K F vs (kK ts)
 | _,_,.nil,_=>.nil
 | _,_,.cons h r,l=>by rw[iR,bM] at l;exact .cons (wQ h l.1) (sf r l.2)
end
mutual
theorem oj:∀(t:T),ja t=true->(ls t).canLay0=true
 | .non,_=>rfl
 | .bl b,_=>rfl
 | .int i,_=>rfl
 | .str x,h=>by simpa[ja,ls] using h
 | .lst ts,h=>by rw[ls,PyData.canLay0];exact mT ts (by simpa[ja] using h)
 | .tup ts,h=>by rw[ls,PyData.canLay0];exact mT ts (by simpa[ja] using h)
 | .scr _,h=>by simp[ja] at h
 | .obj _ _,h=>by simp[ja] at h
 | .emp,h=>by simp[ja] at h
theorem mT:∀(ts:List T),iR ts=true->PyData.canLayAll0 (kK ts)=true
 | [],_=>rfl
 | t::ts,h=>by rw[iR,bM] at h;rw[kK,PyData.canLayAll0,oj t h.1,mT ts h.2];rfl
end
mutual
theorem Ak:∀(t:T),(ls t).depth=qD t
 | .non=>rfl
 | .bl b=>rfl
 | .int i=>rfl
 | .str x=>rfl
 | .lst ts=>by rw[ls,PyData.depth,qD,vD ts]
 | .tup ts=>by rw[ls,PyData.depth,qD,vD ts]
 | .scr _=>rfl
 | .obj _ _=>rfl
 | .emp=>rfl
theorem vD:∀(ts:List T),PyData.depthAll (kK ts)=mB ts
 | []=>rfl
 | t::ts=>by rw[kK,PyData.depthAll,mB,Ak t,vD ts]
end
mutual
theorem Ao:∀(x y:T),ja x=true->ja y=true->PyData.eqv (ls x) (ls y)=lA x y
 | .lst xs,.lst ys,a,b=>by rw[ls,ls,PyData.eqv,lA];exact vF xs ys (by simpa[ja] using a) (by simpa[ja] using b)
 | .tup xs,.tup ys,a,b=>by rw[ls,ls,PyData.eqv,lA];exact vF xs ys (by simpa[ja] using a) (by simpa[ja] using b)
 | .scr _,_,a,_=>by simp[ja] at a
 | .obj _ _,_,a,_=>by simp[ja] at a
 | .emp,_,a,_=>by simp[ja] at a
 | .non,y,_,b=>by cases y<;>first | (exfalso;simp[ja] at b;done) | simp[ls,PyData.eqv,lA]
 | .bl _,y,_,b=>by cases y<;>first | (exfalso;simp[ja] at b;done) | simp[ls,PyData.eqv,lA]
 | .int _,y,_,b=>by cases y<;>first | (exfalso;simp[ja] at b;done) | simp[ls,PyData.eqv,lA]
 | .str _,y,_,b=>by cases y<;>first | (exfalso;simp[ja] at b;done) | simp[ls,PyData.eqv,lA]
 | .lst _,.tup _,_,_=>by simp[ls,PyData.eqv,lA]
 | .lst _,.non,_,_=>by simp[ls,PyData.eqv,lA]
 | .lst _,.bl _,_,_=>by simp[ls,PyData.eqv,lA]
 | .lst _,.int _,_,_=>by simp[ls,PyData.eqv,lA]
 | .lst _,.str _,_,_=>by simp[ls,PyData.eqv,lA]
 | .lst _,.scr _,_,b=>by simp[ja] at b
 | .lst _,.obj _ _,_,b=>by simp[ja] at b
 | .lst _,.emp,_,b=>by simp[ja] at b
 | .tup _,.lst _,_,_=>by simp[ls,PyData.eqv,lA]
 | .tup _,.non,_,_=>by simp[ls,PyData.eqv,lA]
 | .tup _,.bl _,_,_=>by simp[ls,PyData.eqv,lA]
 | .tup _,.int _,_,_=>by simp[ls,PyData.eqv,lA]
 | .tup _,.str _,_,_=>by simp[ls,PyData.eqv,lA]
 | .tup _,.scr _,_,b=>by simp[ja] at b
 | .tup _,.obj _ _,_,b=>by simp[ja] at b
 | .tup _,.emp,_,b=>by simp[ja] at b
theorem vF:∀(xs ys:List T),iR xs=true->iR ys=true->PyData.eqvAll (kK xs) (kK ys)=lY xs ys
 | [],[],_,_=>rfl
 | [],_::_,_,_=>by simp[kK,PyData.eqvAll,lY]
 | _::_,[],_,_=>by simp[kK,PyData.eqvAll,lY]
 | x::xs,y::ys,a,b=>by rw[iR,bM] at a b;rw[kK,kK,PyData.eqvAll,lY,Ao x y a.1 b.1,vF xs ys a.2 b.2]
end
noncomputable def eM(neg:Bool):T->T->M T:=λx y=>if ja x&&ja y&&decide (qD x<=100) then .ok (.bl (if neg then !lA x y else lA x y)) else .bad
mutual
theorem DV.same{F H:Hp}(s:eB F H):∀{v:V} {d:PyData},DV K F v d->DV K H v d
 | _,_,.non=>.non
 | _,_,.bl b=>.bl b
 | _,_,.int i=>.int i
 | _,_,.str x=>.str x
 | _,_,.lst h r=>.lst (s.seq h) (rG.same s r)
 | _,_,.tup h r=>.tup (s.seqT h) (rG.same s r)
theorem rG.same{F H:Hp}(s:eB F H):∀{v:List V} {d:List PyData},rG K F v d->rG K H v d
 | _,_,.nil=>.nil
 | _,_,.cons h r=>.cons (DV.same s h) (rG.same s r)
end
theorem CZ{neg:Bool}(x y:T):M.NoE (eM neg x y):=λC n=>by unfold eM;split<;>exact λz=>nomatch z
theorem wK(neg:Bool):MR K (uO K neg) (eM neg):=⟨CZ,λF H v w x y Q s ra rb q=>by
 unfold eM at q;by_cases h:(ja x&&ja y&&decide (qD x<=100))=true
 ·rw[aP h] at q;simp only[bM,decide_eq_true_eq] at h;refine⟨ls x,ls y,DV.same s (wQ ra h.1.1),DV.same s (wQ rb h.1.2),⟨oj x h.1.1,oj y h.1.2,by rw[Ak];exact h.2⟩,?_⟩;rw[Ao x y h.1.1 h.1.2];exact kV.now q s (.bl _)
 ·rw[aQ h] at q;exact q.elim⟩
theorem Dj{k:Nat}(hr:fO k X.A)(ha:Pm K E X a ta fa)(hb:Pm K E X b tb fb)(hK:X.K=K:=by rfl)(hm:behindInMarks .Eq b=false:=by exact nF _):Pm K E X (.Compare a [.Eq] [b] pos) (pU (uO K false) ta tb) (dY (eM false) fa fb):=zg (hK▸AU (GQ hr)) (wK false) ha hb hm
theorem GS{k:Nat}(hr:fO k X.A)(ha:Pm K E X a ta fa)(hb:Pm K E X b tb fb)(hK:X.K=K:=by rfl)(hm:behindInMarks .NotEq b=false:=by exact nF _):Pm K E X (.Compare a [.NotEq] [b] pos) (pU (uO K true) ta tb) (dY (eM true) fa fb):=zg (hK▸zj (GQ hr)) (wK true) ha hb hm
theorem iG{k:Nat}(hr:fO k X.A)(ha:Pm K E X a ta fa)(hb:Pm K E X b tb fb)(hK:X.K=K:=by rfl)(hm:behindInMarks .Eq b=false:=by exact nF _):uh K E X (.Compare a [.Eq] [b] pos) (nJ (pU (uO K false) ta tb)) (fM (dY (eM false) fa fb)):=gK (hK▸AU (GQ hr)) (wK false) ha hb hm
theorem jP{k:Nat}(hr:fO k X.A)(ha:Pm K E X a ta fa)(hb:Pm K E X b tb fb)(hK:X.K=K:=by rfl)(hm:behindInMarks .NotEq b=false:=by exact nF _):uh K E X (.Compare a [.NotEq] [b] pos) (nJ (pU (uO K true) ta tb)) (fM (dY (eM true) fa fb)):=gK (hK▸zj (GQ hr)) (wK true) ha hb hm
def gG:T->Bool
 | .non=>true
 | .bl _=>true
 | .int _=>true
 | .str _=>true
 | _=>false
def jb(x:T)(ts:List T):Bool:=ts.any λy=>lA y x
theorem iz.flat{F:Hp}{v:V}{x:T}(r:iz K F v x)(h:gG x=true):lN v=true:=by cases r<;>first | rfl | (simp[gG] at h;done)
theorem ek.flat{F:Hp}:∀{vs:List V} {xs:List T},ek K F vs xs->xs.all gG=true->vs.all lN=true
 | _,_,.nil,_=>rfl
 | _,_,.cons h r,q=>by rw[bO,bM] at q ⊢;exact⟨h.flat q.1,ek.flat r q.2⟩
theorem G6{F:Hp}{v w:V}{x y:T}(r:iz K F v x)(r':iz K F w y)(h:gG x=true)(h':gG y=true):Bb v w=lA x y:=by cases r<;>first | (exfalso;simp[gG] at h;done) | (cases r'<;>first | (exfalso;simp[gG] at h';done) | rfl | simp[Bb,lA])
theorem zc{F:Hp}{v:V}{x:T}(r:iz K F v x)(h:gG x=true):∀{vs:List V} {xs:List T},ek K F vs xs->xs.all gG=true->Ho v vs=jb x xs
 | _,_,.nil,_=>rfl
 | _,_,.cons q rs,l=>by rw[bO,bM] at l;have ih:=zc r h rs l.2;unfold Ho jb at ih ⊢;rw[bP,bP,ih,G6 q r l.1 h]
noncomputable def Ag(neg:Bool):T->T->M T:=λx y=>match y with
 | .lst ts=>if gG x&&ts.all gG then .ok (.bl (if neg then !jb x ts else jb x ts)) else .bad
 | .tup ts=>if gG x&&ts.all gG then .ok (.bl (if neg then !jb x ts else jb x ts)) else .bad
 | _=>.bad
theorem BK{neg:Bool}(x y:T):M.NoE (Ag neg x y):=λC n=>by unfold Ag;split<;>first | (intro z;cases z;done) | (split<;>intro z<;>cases z)
theorem GB(neg:Bool):MR K (HA K neg) (Ag neg):=⟨BK,λF H v w x y Q s ra rb q=>by
 cases rb with
 | lst h r=>
  rename_i a xs ts;have q':(if gG x&&ts.all gG then M.ok (T.bl (if neg then !jb x ts else jb x ts)) else M.bad).res (kV K F H Q) (λ_ _=>False):=q;by_cases hc:(gG x&&ts.all gG)=true
  ·rw[aP hc] at q';rw[bM] at hc;exact⟨a,xs,rfl,.inl (ig.of (s _ _ h)),ra.flat hc.1,r.flat hc.2,by rw[zc ra hc.1 r hc.2];exact kV.now q' s (.bl _)⟩
  ·rw[aQ hc] at q';exact q'.elim
 | tup h r=>
  rename_i a xs ts;have q':(if gG x&&ts.all gG then M.ok (T.bl (if neg then !jb x ts else jb x ts)) else M.bad).res (kV K F H Q) (λ_ _=>False):=q;by_cases hc:(gG x&&ts.all gG)=true
  ·rw[aP hc] at q';rw[bM] at hc;exact⟨a,xs,rfl,.inr (iL.of (s _ _ h)),ra.flat hc.1,r.flat hc.2,by rw[zc ra hc.1 r hc.2];exact kV.now q' s (.bl _)⟩
  ·rw[aQ hc] at q';exact q'.elim
 | _=>exact q.elim⟩
end
end L3
namespace L3
open PySem L2 PySem.Spec PyProof.Rows
section
variable {K:W.Frag}{E:XK}{X:Cx}{a b c e o tg it:Expr}{es:List Expr}{ta tb tc te to:TE}{fa fb fc fe fo:Pe->M T}{tr:TA}{fr:Pe->M (List T)}{pos p p2 apos:Pos}
theorem dI:uy K E X [] qg dM:=⟨sj,vz⟩
theorem dD(ha:Pm K E X e te fe)(hr:uy K E X es tr fr)(hs:starEach (e::es) X.env=(false,eval e X.env)::starEach es X.env:=by rfl):uy K E X (e::es) (nU te tr) (dF fe fr):=⟨mG ha.pe hr.pa hs,CY ha.me hr.ma⟩
theorem iP{x1}(h:uy K E X es tr fr):Pm K E X (.Tuple es x1 pos) (EW tr) (jt fr):=⟨Fx h.pa,DY h.ma⟩
theorem eX(h:uy K E X es tr fr):yA K E X (.List es pos) (EC tr) (lstM fr):=⟨Dy h.pa,Fc h.ma⟩
structure MC(K:W.Frag)(r:List V->Hp->VK->Prop)(o:List T->M T):Prop where
 ne:∀xs,M.NoE (o xs)
 ok:∀F H vs xs Q,eB F H->ek K F vs xs->(o xs).res (kV K F H Q) (λ_ _=>False)->r vs H Q
structure HB(K:W.Frag)(r:List V->Hp->VK->Prop)(o:List T->M (List T)):Prop where
 ne:∀xs,M.NoE (o xs)
 ok:∀F H vs xs Q,eB F H->ek K F vs xs->(o xs).res (kF K F H Q) (λ_ _=>False)->r vs H Q
@[simp] noncomputable def ji(o:List T->M T)(fr:Pe->M (List T)):Pe->M T:=λρ=>(fr ρ).bind o
@[simp] noncomputable def zN(o:List T->M (List T))(fr:Pe->M (List T)):Pe->M (List T):=λρ=>(fr ρ).bind o
theorem Dk{r:List V->Hp->VK->Prop}{o:List T->M T}(hc:MC K r o)(ha:MA K E tr fr):ME K E (B2 r tr) (ji o fr):=λF H σ ρ Q s V q=>by refine ha.run s V q λxs vs F1 H1 g1 r1 q1=>?_;exact hc.ok F1 H1 vs xs Q g1.fh r1 ((q1.ne (hc.ne xs)).mono (λ_ z=>z.go g1) λ_ _ z=>z)
theorem Ga{r:List V->Hp->VK->Prop}{o:List T->M (List T)}(hc:HB K r o)(ha:MA K E tr fr):MF K E (B2 r tr) (zN o fr):=λF H σ ρ Q s V q=>by refine ha.run s V q λxs vs F1 H1 g1 r1 q1=>?_;exact hc.ok F1 H1 vs xs Q g1.fh r1 ((q1.ne (hc.ne xs)).mono (λ_ z=>z.go g1) λ_ _ z=>z)
section
variable {x:Str}{id T':String}{r:List V->Hp->VK->Prop}{m:List T->M T}{mf:List T->M (List T)}
theorem eO(hc:ib X (.builtin id) r)(hm':MC K r m)(hg:Gl X x)(hm:X.mg x=none)(hv:bootBuiltins x=some (.builtin id))(ha:uy K E X (e::es) tr fr)(hn:x≠ "__name__" :=by decide)(hdb:(x == ("__debug__" : Str))=false:=by decide)
  (he:starEach (e::es) X.env=(false,eval e X.env)::starEach es X.env:=by rfl) (hpl:(backTo pos (starEach es X.env)).any (·.1)=false:=by rfl):Pm K E X (.Call (.Name x p) (e::es) [] pos) (B2 r tr) (ji m fr):=⟨uu hc hg hm hv ha.pa hn hdb he hpl,Dk hm' ha.ma⟩
theorem gQ(hc:ib X (.type T') r)(hm':MC K r m)(hg:Gl X x)(hm:X.mg x=none)(hv:bootBuiltins x=some (.type T'))(ha:uy K E X (e::es) tr fr)(hn:x≠ "__name__" :=by decide)(hdb:(x == ("__debug__" : Str))=false:=by decide)
  (he:starEach (e::es) X.env=(false,eval e X.env)::starEach es X.env:=by rfl) (hpl:(backTo pos (starEach es X.env)).any (·.1)=false:=by rfl):Pm K E X (.Call (.Name x p) (e::es) [] pos) (B2 r tr) (ji m fr):=⟨qX hc hg hm hv ha.pa hn hdb he hpl,Dk hm' ha.ma⟩
theorem lb(hc:ib X (.type T') r)(hm':HB K r mf)(hg:Gl X x)(hm:X.mg x=none)(hv:bootBuiltins x=some (.type T'))(ha:uy K E X (e::es) tr fr)(hn:x≠ "__name__" :=by decide)(hdb:(x == ("__debug__" : Str))=false:=by decide)
  (he:starEach (e::es) X.env=(false,eval e X.env)::starEach es X.env:=by rfl) (hpl:(backTo pos (starEach es X.env)).any (·.1)=false:=by rfl):yA K E X (.Call (.Name x p) (e::es) [] pos) (B2 r tr) (zN mf fr):=⟨qX hc hg hm hv ha.pa hn hdb he hpl,Ga hm' ha.ma⟩
end
@[simp] noncomputable def jF:List T->M T
 | [.lst ts]=>.ok (.int ts.length)
 | [.tup ts]=>.ok (.int ts.length)
 | [.scr ns]=>.ok (.int ns.length)
 | [.str z]=>if z.length<=sizeLine then .ok (.int z.length) else .bad
 | _=>.bad
theorem BM(xs:List T):M.NoE (jF xs):=λC n=>by unfold jF;split<;>first | (intro z;cases z;done) | (split<;>first | (intro z;cases z;done) | (split<;>intro z<;>cases z))
theorem iV:MC K (λxs H Q=>∃x n,xs=[x]/\Dw K x H n/\Q (.int n) H) jF:=⟨BM,λF H vs xs Q s r q=>by
 cases r with
 | nil=>exact q.elim
 | cons h t=>
  cases t with
  | cons _ _=>cases h<;>exact q.elim
  | nil=>
   cases h with
   | lst h r=>exact⟨_,_,rfl,.inl ⟨_,ig.of (s _ _ h),rfl⟩,by rw[r.length];exact kV.now q s (.int _)⟩
   | tup h r=>exact⟨_,_,rfl,.inr ⟨_,iL.of (s _ _ h),rfl⟩,by rw[r.length];exact kV.now q s (.int _)⟩
   | scr h=>exact⟨_,_,rfl,.inl ⟨_,s.seq h,rfl⟩,by rw[aw];exact kV.now q s (.int _)⟩
   | str z=>
    have q':(if z.length<=sizeLine then M.ok (T.int z.length) else M.bad).res (kV K F H Q) (λ_ _=>False):=q;by_cases hz:z.length<=sizeLine
    ·rw[aP hz] at q';exact⟨_,z.length,rfl,⟨hz,rfl⟩,kV.now q' s (.int _)⟩
    ·rw[aQ hz] at q';exact q'.elim
   | _=>exact q.elim⟩
@[simp] noncomputable def xq:List T->M T
 | [.int i]=>.ok (.int (if i<0 then -i else i))
 | _=>.bad
theorem Bj(xs:List T):M.NoE (xq xs):=λC n=>by unfold xq;split<;>first | (intro z;cases z;done) | (split<;>first | (intro z;cases z;done) | (split<;>intro z<;>cases z))
theorem yE:MC K (λxs H Q=>∃i,xs=[.int i]/\Q (.int (if i<0 then -i else i)) H) xq:=⟨Bj,λF H vs xs Q s r q=>by
 cases r with
 | nil=>exact q.elim
 | cons h t=>
  cases t with
  | cons _ _=>cases h<;>exact q.elim
  | nil=>
   cases h with
   | int i=>exact⟨i,rfl,kV.now q s (.int _)⟩
   | _=>exact q.elim⟩
@[simp] noncomputable def gP:List T->M T
 | [.lst ts]=>.ok (.tup ts)
 | [.tup ts]=>.ok (.tup ts)
 | [.scr ns]=>.ok (.tup (ns.map T.int))
 | _=>.bad
theorem vY(xs:List T):M.NoE (gP xs):=λC n=>by unfold gP;split<;>first | (intro z;cases z;done) | (split<;>first | (intro z;cases z;done) | (split<;>intro z<;>cases z))
theorem gM:MC K (λxs H Q=>∃p ys,xs=[.ref p]/\((ig K H p ys/\∀l,H l=none->Q (.ref l) (gC H l (.tup ys)))\/(iL K H p ys/\Q (.ref p) H))) gP:=⟨vY,λF H vs xs Q s r q=>by
 cases r with
 | nil=>exact q.elim
 | cons h t=>
  cases t with
  | cons _ _=>cases h<;>exact q.elim
  | nil=>
   cases h with
   | lst h r=>exact⟨_,_,rfl,.inl ⟨ig.of (s _ _ h),λl hl=>(q:kV K F H Q _) (.ref l) _ _ (.new s hl) (.tup d8 (r.mono (Gr.new s hl).ff))⟩⟩
   | scr h=>exact⟨_,_,rfl,.inl ⟨s.seq h,λl hl=>(q:kV K F H Q _) (.ref l) _ _ (.new s hl) (.tup d8 (ek.of_ints _))⟩⟩
   | tup h r=>exact⟨_,_,rfl,.inr ⟨iL.of (s _ _ h),kV.now q s (.tup h r)⟩⟩
   | _=>exact q.elim⟩
@[simp] noncomputable def j9:List T->M (List T)
 | [.lst ts]=>.ok ts
 | [.tup ts]=>.ok ts
 | [.scr ns]=>.ok (ns.map T.int)
 | _=>.bad
theorem yy(xs:List T):M.NoE (j9 xs):=λC n=>by unfold j9;split<;>first | (intro z;cases z;done) | (split<;>first | (intro z;cases z;done) | (split<;>intro z<;>cases z))
theorem mm:HB K (λxs H Q=>∃p ys,xs=[.ref p]/\(ig K H p ys\/iL K H p ys)/\∀l,H l=none->Q (.ref l) (gC H l (.lst ys))) j9:=⟨yy,λF H vs xs Q s r q=>by
 cases r with
 | nil=>exact q.elim
 | cons h t=>
  cases t with
  | cons _ _=>cases h<;>exact q.elim
  | nil=>
   cases h with
   | lst h r=>exact⟨_,_,rfl,.inl (ig.of (s _ _ h)),λl hl=>(q:kF K F H Q _) l _ F _ (.new' s hl) hl (eJ s hl) d8 r⟩
   | scr h=>exact⟨_,_,rfl,.inl (s.seq h),λl hl=>(q:kF K F H Q _) l _ F _ (.new' s hl) hl (eJ s hl) d8 (ek.of_ints _)⟩
   | tup h r=>exact⟨_,_,rfl,.inr (iL.of (s _ _ h)),λl hl=>(q:kF K F H Q _) l _ F _ (.new' s hl) hl (eJ s hl) d8 r⟩
   | _=>exact q.elim⟩
def gY:List T->Option (LI)
 | []=>some []
 | .int i::ts=>(gY ts).bind λr=>some (i::r)
 | _::_=>none
theorem l3:∀{ts:List T} {ns:LI},gY ts=some ns->ts=ns.map T.int
 | [],_,e=>by cases e;rfl
 | t::ts,ns,e=>by
  cases t with
  | int i=>
   cases q:gY ts with
   | none=>simp[gY,q] at e
   | some r=>simp[gY,q] at e;subst e;rw[l3 q];rfl
  | _=>cases e
@[simp] theorem xN(ns:LI):gY (ns.map T.int)=some ns:=by
 induction ns with
 | nil=>rfl
 | cons n ns ih=>simp[gY,ih]
def lF:List T->Option (List Bool)
 | []=>some []
 | .bl i::ts=>(lF ts).bind λr=>some (i::r)
 | _::_=>none
theorem qE:∀{ts:List T} {ns:List Bool},lF ts=some ns->ts=ns.map T.bl
 | [],_,e=>by cases e;rfl
 | t::ts,ns,e=>by
  cases t with
  | bl i=>
   cases q:lF ts with
   | none=>simp[lF,q] at e
   | some r=>simp[lF,q] at e;subst e;rw[qE q];rfl
  | _=>cases e
@[simp] theorem Gx(ns:List Bool):lF (ns.map T.bl)=some ns:=by
 induction ns with
 | nil=>rfl
 | cons n ns ih=>simp[lF,ih]
@[simp] noncomputable def yx:List T->M T
 | [.lst ts]=>match gY ts with
  | some ns=>.ok (.int ns.sum)
  | none=>.bad
 | _=>.bad
theorem BD(xs:List T):M.NoE (yx xs):=λC n=>by unfold yx;split<;>first | (intro z;cases z;done) | (split<;>first | (intro z;cases z;done) | (split<;>intro z<;>cases z))
theorem AG:MC K (λxs H Q=>∃(p:Addr) (ns:LI),xs=[.ref p]/\ig K H p (ns.map V.int)/\Q (.int ns.sum) H) yx:=⟨BD,λF H vs xs Q s r q=>by
 cases r with
 | nil=>exact q.elim
 | cons h t=>
  cases t with
  | cons _ _=>cases h<;>exact q.elim
  | nil=>
   cases h with
   | lst h r=>
    rename_i a xs ts;have q':(match gY ts with | some ns=>M.ok (T.int ns.sum) | none=>M.bad).res (kV K F H Q) (λ_ _=>False):=q;cases e:gY ts with
    | none=>rw[e] at q';exact q'.elim
    | some ns=>rw[e] at q';rw[l3 e] at r;have:=r.ints;subst this;exact⟨a,ns,rfl,ig.of (s _ _ h),kV.now q' s (.int _)⟩
   | _=>exact q.elim⟩
@[simp] noncomputable def vn:List T->M T
 | [.lst ts]=>match lF ts with
  | some ns=>.ok (.bl (ns.all id))
  | none=>.bad
 | _=>.bad
theorem By(xs:List T):M.NoE (vn xs):=λC n=>by unfold vn;split<;>first | (intro z;cases z;done) | (split<;>first | (intro z;cases z;done) | (split<;>intro z<;>cases z))
theorem uY:MC K (λxs H Q=>∃(p:Addr) (bs:List Bool),xs=[.ref p]/\ig K H p (bs.map V.bl)/\Q (.bl (bs.all id)) H) vn:=⟨By,λF H vs xs Q s r q=>by
 cases r with
 | nil=>exact q.elim
 | cons h t=>
  cases t with
  | cons _ _=>cases h<;>exact q.elim
  | nil=>
   cases h with
   | lst h r=>
    rename_i a xs ts;have q':(match lF ts with | some ns=>M.ok (T.bl (ns.all id)) | none=>M.bad).res (kV K F H Q) (λ_ _=>False):=q;cases e:lF ts with
    | none=>rw[e] at q';exact q'.elim
    | some ns=>rw[e] at q';rw[qE e] at r;have:=r.bls;subst this;exact⟨a,ns,rfl,ig.of (s _ _ h),kV.now q' s (.bl _)⟩
   | _=>exact q.elim⟩
@[simp] def FU:T->String
 | .non=> "NoneType"
 | .bl _=> "bool"
 | .int _=> "int"
 | .str _=> "str"
 | .tup _=> "tuple"
 | .lst _=> "list"
 | .scr _=> "script"
 | .obj _ _=> "object"
 | .emp=> "dict"
@[simp] noncomputable def FB(n:String)(x:T):M T:=match x with
 | .scr _=>.bad
 | .obj _ _=>.bad
 | x=>.ok (.bl (FU x == n||(n == "int" && FU x == "bool")))
theorem G4{F H:Hp}{v:V}{x:T}(r:iz K F v x)(s:eB F H)(h1:∀ns,x≠.scr ns)(h2:∀C fs,x≠.obj C fs):kH K H v (.type (FU x)):=by
 cases r with
 | non=>exact .non
 | bl b=>exact .bl b
 | int i=>exact .int i
 | str x=>exact .str x
 | tup h r=>exact .tup (s _ _ h)
 | lst h r=>exact .lst (s _ _ h)
 | scr h=>exact absurd rfl (h1 _)
 | obj h r=>exact absurd rfl (h2 _ _)
 | emp h=>exact .dK (s _ _ h)
@[simp] noncomputable def pV(n:String)(fe:Pe->M T):Pe->M T:=λρ=>(fe ρ).bind λx=>FB n x
theorem ED{n:String}(hk:∀t∈["NoneType", "bool", "int", "str", "tuple", "list", "dict"],W.kitOne K (.type t) (.type n)=some (t == n||(n == "int" && t == "bool")))(ha:ME K E te fe) :
  ME K E (B2 (λxs H Q=>∃x T t b,xs=[x,.ty T]/\kH K H x t/\W.kitOne K t (.type T)=some b/\Q (.bl b) H) (nU te (nU (tC (.ty n)) qg))) (pV n fe):=λF H σ ρ Q s V q=>by
 refine ha.run s V q λx v F1 H1 g1 r1 q1=>?_;have key:∀b,FB n x=.ok (.bl b)->(∀ns,x≠.scr ns)->(∀C fs,x≠.obj C fs)->b=(FU x == n||(n == "int" && FU x == "bool"))->∃x_1 T t b,[v,L2.V.ty n]=[x_1,.ty T]/\kH K H1 x_1 t/\W.kitOne K t (.type T)=some b/\Q (.bl b) H1:=by
  intro b e h1 h2 hb;rw[e] at q1;refine⟨v,n,_,b,rfl,G4 r1 g1.fh h1 h2,?_,(q1:kV K F H Q _) _ F1 H1 g1 (.bl _)⟩;rw[hb];refine hk _ ?_;cases x with
  | scr ns=>exact absurd rfl (h1 ns)
  | obj C fs=>exact absurd rfl (h2 C fs)
  | _=>simp[FU]
 cases x with
 | scr ns=>exact q1.elim
 | obj C fs=>exact q1.elim
 | non=>exact key _ rfl (λ_ z=>nomatch z) (λ_ _ z=>nomatch z) rfl
 | bl _=>exact key _ rfl (λ_ z=>nomatch z) (λ_ _ z=>nomatch z) rfl
 | int _=>exact key _ rfl (λ_ z=>nomatch z) (λ_ _ z=>nomatch z) rfl
 | str _=>exact key _ rfl (λ_ z=>nomatch z) (λ_ _ z=>nomatch z) rfl
 | tup _=>exact key _ rfl (λ_ z=>nomatch z) (λ_ _ z=>nomatch z) rfl
 | lst _=>exact key _ rfl (λ_ z=>nomatch z) (λ_ _ z=>nomatch z) rfl
 | emp=>exact key _ rfl (λ_ z=>nomatch z) (λ_ _ z=>nomatch z) rfl
theorem CU(K:W.Frag):∀n∈["int", "bool", "str", "tuple", "list"],∀t∈["NoneType", "bool", "int", "str", "tuple", "list", "dict"],W.kitOne K (.type t) (.type n)=some (t == n||(n == "int" && t == "bool")):=by intro n hn t ht;simp only[aE,List.mem_nil_iff,or_false] at hn ht;rcases hn with rfl | rfl | rfl | rfl | rfl<;>rcases ht with rfl | rfl | rfl | rfl | rfl | rfl | rfl<;>rfl
theorem pK(n:String){x:Str}{p3:Pos}(hn':n∈["int", "bool", "str", "tuple", "list"])(hmi:X.mg "isinstance" = none)(hmx:X.mg x=none)(hvx:bootBuiltins x=some (.type n))(ha:Pm K E X e te fe)(hK:X.K=K:=by rfl)(hgi:Gl X "isinstance" :=by rfl)(hgx:Gl X x:=by rfl)
  (hxn:x≠ "__name__" :=by decide) (hxd:(x == ("__debug__" : Str))=false:=by decide)
  (he:starEach [e,.Name x p3] X.env=(false,eval e X.env)::starEach [.Name x p3] X.env:=by rfl) (he2:starEach [.Name x p3] X.env=(false,eval (.Name x p3) X.env)::starEach [] X.env:=by rfl) (hpl:(backTo pos (starEach [.Name x p3] X.env)).any (·.1)=false:=by rfl) :
  Pm K E X (.Call (.Name "isinstance" p) [e,.Name x p3] [] pos) (B2 (λxs H Q=>∃x T t b,xs=[x,.ty T]/\kH K H x t/\W.kitOne K t (.type T)=some b/\Q (.bl b) H) (nU te (nU (tC (.ty n)) qg))) (pV n fe):=by
 subst hK;exact⟨uu zZ hgi hmi Ft (mG ha.pe (mG (Ce (v:=.ty n) hgx hmx hvx rfl hxn hxd) sj he2) he) (by decide) (by decide) he hpl,ED (CU X.K n hn') ha.me⟩
@[simp] noncomputable def fC:T->T->M T
 | .lst ts,.int i=>match lu ts i with
  | some t=>.ok t
  | none=>.bad
 | .tup ts,.int i=>match lu ts i with
  | some t=>.ok t
  | none=>.bad
 | .scr ns,.int i=>match lu ns i with
  | some t=>.ok (.int t)
  | none=>.bad
 | .str z,.int i=>if z.length<=sizeLine then (match lu z.cps.toList i with
  | some c=>.ok (.str ⟨#[c]⟩)
  | none=>.bad) else .bad
 | _,_=>.bad
theorem wH{F:Hp}{vs:List V}{ts:List T}{i:Int}{t:T}(r:ek K F vs ts)(h:lu ts i=some t):∃v,lu vs i=some v/\iz K F v t:=by
 unfold lu at h ⊢;rw[r.length];cases e:qJ ts.length i with
 | none=>rw[e] at h;cases h
 | some j=>rw[e] at h;exact r.get h
theorem mz{α β:Type}(f:α->β)(l:List α)(i:Int):lu (l.map f) i=(lu l i).map f:=by
 unfold lu;rw[aw];cases qJ l.length i with
 | none=>rfl
 | some j=>simp
theorem Fj(x y:T):M.NoE (fC x y):=λC n=>by unfold fC;split<;>first | (intro z;cases z;done) | (split<;>first | (intro z;cases z;done) | (split<;>intro z<;>cases z))
theorem GU:MR K (Ic K) fC:=⟨Fj,λF H v w x y Q s ra rb q=>by
 cases rb with
 | int i=>
  cases ra with
  | lst h r=>
   rename_i a xs ts;have q':(match lu ts i with | some t=>M.ok t | none=>M.bad).res (kV K F H Q) (λ_ _=>False):=q;cases e:lu ts i with
   | none=>rw[e] at q';exact q'.elim
   | some t=>rw[e] at q';obtain⟨v,e',rv⟩:=wH r e;exact .inl ⟨a,xs,i,v,rfl,rfl,ig.of (s _ _ h),e',kV.now q' s rv⟩
  | tup h r=>
   rename_i a xs ts;have q':(match lu ts i with | some t=>M.ok t | none=>M.bad).res (kV K F H Q) (λ_ _=>False):=q;cases e:lu ts i with
   | none=>rw[e] at q';exact q'.elim
   | some t=>rw[e] at q';obtain⟨v,e',rv⟩:=wH r e;exact .inr (.inl ⟨a,xs,i,v,rfl,rfl,iL.of (s _ _ h),e',kV.now q' s rv⟩)
  | scr h=>
   rename_i a ns;have q':(match lu ns i with | some t=>M.ok (T.int t) | none=>M.bad).res (kV K F H Q) (λ_ _=>False):=q;cases e:lu ns i with
   | none=>rw[e] at q';exact q'.elim
   | some t=>rw[e] at q';exact .inl ⟨a,_,i,.int t,rfl,rfl,s.seq h,by rw[mz,e];rfl,kV.now q' s (.int _)⟩
  | str z=>
   have q':(if z.length<=sizeLine then (match lu z.cps.toList i with | some c=>M.ok (T.str ⟨#[c]⟩) | none=>M.bad) else M.bad).res (kV K F H Q) (λ_ _=>False):=q;by_cases hz:z.length<=sizeLine
   ·rw[aP hz] at q';cases e:lu z.cps.toList i with
    | none=>rw[e] at q';exact q'.elim
    | some c=>rw[e] at q';exact .inr (.inr ⟨z,i,c,rfl,rfl,hz,e,kV.now q' s (.str _)⟩)
   ·rw[aQ hz] at q';exact q'.elim
  | _=>exact q.elim
 | _=>cases ra<;>exact q.elim⟩
theorem eE(ha:Pm K E X a ta fa)(hb:Pm K E X b tb fb)(hs:wJ b:=by intro _ _;rfl)(hK:X.K=K:=by rfl):Pm K E X (.Subscript a b pos) (pU (Ic K) ta tb) (dY fC fa fb):=⟨GJ (hK▸Fg) ha.pe hb.pe hs,wO GU ha.me hb.me⟩
theorem ox:Hl K E X none we (λ_=>.ok none):=⟨CN,λF H σ ρ Q s V q=>q F H (.refl s)⟩
@[simp] noncomputable def jM(fe:Pe->M T):Pe->M (Option Int):=λρ=>(fe ρ).bind λx=>match x with
 | .int i=>.ok (some i)
 | _=>.bad
theorem oW(h:Pm K E X e te fe):Hl K E X (some e) (Al te) (jM fe):=⟨xa h.pe,λF H σ ρ Q s V q=>by
 refine h.me.run s V q λx v F1 H1 g1 r1 q1=>?_;cases r1 with
 | int i=>exact⟨i,rfl,q1 F1 H1 g1⟩
 | _=>exact q1.elim⟩
def j4{α:Type}(xs:List α)(lo hi:Option Int):List α:=(xs.drop (HT.sIx xs.length 0 lo)).take (HT.sIx xs.length xs.length hi - HT.sIx xs.length 0 lo)
theorem ET(xs:List V)(lo hi:Option Int):uJ xs lo hi=j4 xs lo hi:=rfl
theorem ek.cut{F:Hp}{vs:List V}{ts:List T}(r:ek K F vs ts)(lo hi:Option Int):ek K F (j4 vs lo hi) (j4 ts lo hi):=by unfold j4;rw[r.length];exact (r.drop _).take _
theorem Aw{α β:Type}(f:α->β)(l:List α)(lo hi:Option Int):j4 (l.map f) lo hi=(j4 l lo hi).map f:=by unfold j4;rw[aw,cC,List.map_drop]
section
variable {lo hi:Option Expr}{tl th:TO}{fl fh:Pe->M (Option Int)}
theorem MO.run{t:TO}{f:Pe->M (Option Int)}{F H:Hp}{σ:L2.St}{ρ:Pe}{Q:Option Int->Hp->Prop}{α:Type}{k:Option Int->M α}{P:α->Prop}(h:MO K E t f)(s:eB F H)(v:iE K F σ ρ)(r:((f ρ).bind k).res P (kE E F H))
  (hk:∀x F' H',Gr F H F' H'->(k x).res P (kE E F' H')->Q x H'):t σ H Q:=
 h F H σ ρ Q s v ((M.res.unb r).mono (λx q F' H' g=>hk x F' H' g (q.mono (λ_ z=>z) λ_ _ z=>z.go g)) λ_ _ z=>z)
@[simp] noncomputable def mj(fe:Pe->M T)(fl fh:Pe->M (Option Int)):Pe->M T:=λρ=>(fe ρ).bind λx=>(fl ρ).bind λl=>(fh ρ).bind λh=>match x with
 | .tup ts=>.ok (.tup (j4 ts l h))
 | .lst ts=>.ok (.lst (j4 ts l h))
 | .scr ns=>.ok (.lst ((j4 ns l h).map T.int))
 | _=>.bad
theorem k9(he:Pm K E X e te fe)(hl:Hl K E X lo tl fl)(hh:Hl K E X hi th fh)(hK:X.K=K:=by rfl):Pm K E X (.Subscript e (.Slice lo hi none p2) pos) (Ip (λx lo hi H Q=>Hd K x lo hi H Q\/(F9 K x lo hi H Q\/F6 K x lo hi H Q)) te tl th) (mj fe fl fh):=by
 subst hK;refine⟨AA (C1.or (DO.or BZ)) he.pe hl.po hh.po,λF H σ ρ Q s V q=>?_⟩;refine he.me.run s V q λx v F1 H1 g1 r1 q1=>?_;refine hl.mo.run (P:=kV X.K F H Q) g1.fh (V.mono g1.ff) q1 λl F2 H2 g2 q2=>?_;refine hh.mo.run (P:=kV X.K F H Q) g2.fh ((V.mono g1.ff).mono g2.ff) q2 λu F3 H3 g3 q3=>?_;have g:=(g1.trans g2).trans g3;have r3:=r1.mono (g2.ff.trans g3.ff);cases r3 with
 | lst h r=>exact .inl ⟨_,_,rfl,ig.of (g3.fh _ _ h),λp hp=>(q3:kV X.K F H Q _) (.ref p) _ _ (g.trans (.new g3.fh hp)) (.lst d8 ((r.cut l u).mono (Gr.new g3.fh hp).ff))⟩
 | scr h=>exact .inl ⟨_,_,rfl,g3.fh.seq h,λp hp=>(q3:kV X.K F H Q _) (.ref p) _ _ (g.trans (.new g3.fh hp)) (.lst d8 (by rw[ET,Aw];exact ek.of_ints _))⟩
 | tup h r=>
  rename_i a xs ts;have q':(M.ok (T.tup (j4 ts l u))).res (kV X.K F H Q) (kE E F3 H3):=q3;by_cases hw:HT.sIx ts.length 0 l=0/\HT.sIx ts.length ts.length u=ts.length
  ·have ec:j4 ts l u=ts:=by unfold j4;rw[hw.1,hw.2];simp
   rw[ec] at q';exact .inr (.inr ⟨_,_,rfl,iL.of (g3.fh _ _ h),by rw[r.length];exact hw,(q':kV X.K F H Q _) _ F3 H3 g (.tup h r)⟩)
  ·exact .inr (.inl ⟨_,_,rfl,iL.of (g3.fh _ _ h),by rw[r.length];exact hw,λp hp=>(q':kV X.K F H Q _) (.ref p) _ _ (g.trans (.new g3.fh hp)) (.tup d8 ((r.cut l u).mono (Gr.new g3.fh hp).ff))⟩)
 | _=>exact q3.elim
end
section
variable {x:Str}{k:Nat}{Fn:List T->M T}{Ff:List T->M (List T)}
theorem dS{j:Nat}(h:iU X.prog X.w X.K X.mg X.base x j (p0 K Fn))(hr:fO k X.A)(ha:uy K E X (e::es) tr fr)(hk:j<=k:=by decide)(hg:Gl X x:=by rfl)
  (hdb:(x == ("__debug__" : Str))=false:=by decide) (he:starEach (e::es) X.env=(false,eval e X.env)::starEach es X.env:=by rfl) (hpl:(backTo pos (starEach es X.env)).any (·.1)=false:=by rfl) :
  Pm K E X (.Call (.Name x p) (e::es) [] pos) (qM (p0 K Fn) [] E0 tr) (dW fr Fn):=⟨sN (h.mono hk) hr ha.pa hg hdb he hpl,y0 ha.ma⟩
theorem mK{j:Nat}(h:iU X.prog X.w X.K X.mg X.base x j (uX K Ff))(hr:fO k X.A)(ha:uy K E X (e::es) tr fr)(hk:j<=k:=by decide)(hg:Gl X x:=by rfl)
  (hdb:(x == ("__debug__" : Str))=false:=by decide) (he:starEach (e::es) X.env=(false,eval e X.env)::starEach es X.env:=by rfl) (hpl:(backTo pos (starEach es X.env)).any (·.1)=false:=by rfl) :
  yA K E X (.Call (.Name x p) (e::es) [] pos) (qM (uX K Ff) [] E0 tr) (gW fr Ff):=⟨sN (h.mono hk) hr ha.pa hg hdb he hpl,yW ha.ma⟩
end
def GW(K:W.Frag)(t:TE):TI:=λσ H R=>AO K t σ H R\/Fw K t σ H R
@[simp] noncomputable def fB(fa:Pe->M T):Pe->M (List T):=λρ=>(fa ρ).bind λx=>match x with
 | .lst ts=>.ok ts
 | .scr ns=>.ok (ns.map T.int)
 | .tup ts=>.ok ts
 | _=>.bad
theorem FF(ha:ME K E ta fa):MI K E (GW K ta) (fB fa):=λF H σ ρ R s V q=>by
 unfold fB at q;cases e:fa ρ with
 | bad=>rw[e] at q;exact q.elim
 | er C n=>rw[e] at q;exact .inl (rM ha F H σ ρ R s V (by unfold Hk;rw[e];exact q))
 | ok x=>
  rw[e] at q;cases x with
  | lst ts=>exact .inl (rM ha F H σ ρ R s V (by unfold Hk;rw[e];exact q))
  | scr ns=>exact .inl (rM ha F H σ ρ R s V (by unfold Hk;rw[e];exact q))
  | tup ts=>exact .inr (Du ha F H σ ρ R s V (by unfold Ii;rw[e];exact q))
  | _=>exact q.elim
theorem eS(ha:Pm K E X a ta fa)(hK:X.K=K:=by rfl):Cr K E X tg a (GW K ta) (fB fa):=by
 subst hK;refine⟨λdH s σ H R I h=>?_,FF ha.me⟩;rcases h with h | h
 ·exact C5 ha.pe dH s σ H R I h
 ·exact Fd ha.pe dH s σ H R I h
def Dq(K:W.Frag)(ta:TA):TI:=λσ H R=>∃b1 b2,DG K b1 b2 ta σ H R
@[simp] noncomputable def seqT:T->M (List T)
 | .lst ts=>.ok ts
 | .scr ns=>.ok (ns.map T.int)
 | .tup ts=>.ok ts
 | _=>.bad
@[simp] noncomputable def nz(fa:Pe->M (List T)):Pe->M (List T):=λρ=>(fa ρ).bind λxs=>match xs with
 | [x,y]=>(seqT x).bind λts=>(seqT y).bind λus=>.ok (r9 ts us)
 | _=>.bad
def mn:T->Bool
 | .tup _=>true
 | _=>false
theorem vS(x:T):seqT x=seqB (mn x) x:=by cases x<;>rfl
theorem Cz(ha:MA K E tr fr):MI K E (Dq K tr) (nz fr):=λF H σ ρ R s V q=>by
 unfold nz at q;cases e:fr ρ with
 | bad=>rw[e] at q;exact q.elim
 | er C n=>rw[e] at q;exact⟨true,true,Aq ha F H σ ρ R s V (by unfold Es;rw[e];exact q)⟩
 | ok xs=>
  rw[e] at q;match xs,e,q with
  | [],_,q=>exact q.elim
  | [_],_,q=>exact q.elim
  | [x,y],e,q=>refine⟨mn x,mn y,Aq ha F H σ ρ R s V ?_⟩;unfold Es;rw[e];have q':((seqT x).bind λts=>(seqT y).bind λus=>M.ok (r9 ts us)).res (kI K F H R) (kE E F H):=q;rw[vS x,vS y] at q';exact q'
  | _::_::_::_,_,q=>exact q.elim
theorem l6{elts:List Expr}{x1}{tpos:Pos}(hm:X.mg "zip" = none)(ha:uy K E X [a,b] tr fr)(hK:X.K=K:=by rfl)(hg:Gl X "zip" :=by rfl)(hs:starEach [a,b] X.env=[(false,eval a X.env),(false,eval b X.env)]:=by rfl)
  (hs2:starEach [b] X.env=[(false,eval b X.env)]:=by rfl):Cr K E X (.Tuple elts x1 tpos) (.Call (.Name "zip" p) [a,b] [] pos) (Dq K tr) (nz fr):=by
 subst hK;refine⟨λdH s σ H R I h=>?_,Cz ha.ma⟩;obtain⟨b1,b2,h⟩:=h;exact Fe hg hm ha.pa hs hs2 dH s σ H R I h
theorem iF(hm:X.mg "range" = none)(ha:uy K E X [a] tr fr)(hg:Gl X "range" :=by rfl)(hs:starEach [a] X.env=[(false,eval a X.env)]:=by rfl):pI K E X tg (.Call (.Name "range" p) [a] [] pos) (zP tr) (iM fr):=⟨xr hg hm ha.pa hs,Cd ha.ma⟩
theorem C0(hm:X.mg "range" = none)(ha:uy K E X [a,b] tr fr)(hg:Gl X "range" :=by rfl)(hs:starEach [a,b] X.env=[(false,eval a X.env),(false,eval b X.env)]:=by rfl)(hs2:starEach [b] X.env=[(false,eval b X.env)]:=by rfl) :
  pI K E X tg (.Call (.Name "range" p) [a,b] [] pos) (AS tr) (tY fr):=⟨ya hg hm ha.pa hs hs2,Cm ha.ma⟩
theorem pI.pim{w:TI}{f:Pe->M (List T)}(h:pI K E X tg it w f):Cr K E X tg it w f:=⟨h.pi,h.mi.mi⟩
section
variable {x:Str}{g:TG}{gs:uw}{m:T->Pe->Option Pe}{ms:List T->Pe->Option Pe}{mo:T->En->Option En}{mos:List T->En->Option En}{n:Nat}
theorem fG(i:Nat)(hN:X.N.Nodup)(hx:xI X.env.scope x:=by first | exact Or.inl rfl | exact Or.inr rfl)(hi:X.N[i]? = some x:=by rfl)(hf:X.fn x=true\/X.env.scope.names.lookup x=some .local:=by first | exact .inl rfl | exact .inr rfl | assumption):FP K X (.Name x pos) (gB i) (iy i):=⟨wN hN hi hx hf,Bk⟩
theorem fH(i:Nat)(hN:X.N.Nodup)(hx:xI X.env.scope x:=by first | exact Or.inl rfl | exact Or.inr rfl)(hi:X.N[i]? = some x:=by rfl)(hf:X.fn x=true\/X.env.scope.names.lookup x=some .local:=by first | exact .inl rfl | exact .inr rfl | assumption):GM K X (.Name x pos) (gB i) (iY i):=⟨wN hN hi hx hf,zi⟩
theorem jV:BL K X [] xo n0:=⟨wI,B4⟩
theorem kR:B6 K X [] xo jI:=⟨wI,zH⟩
theorem fR(h1:FP K X e g m)(h2:BL K X es gs ms)(hs:(assignEach (e::es) X.env).map (·.2)=assign e X.env::(assignEach es X.env).map (·.2):=by rfl):BL K X (e::es) (pB g gs) (gR m ms):=⟨sM h1.pg h2.pg hs,Ar h1.mg h2.mg⟩
theorem gE(h1:GM K X e g mo)(h2:B6 K X es gs mos)(hs:(assignEach (e::es) X.env).map (·.2)=assign e X.env::(assignEach es X.env).map (·.2):=by rfl):B6 K X (e::es) (pB g gs) (fu mo mos):=⟨sM h1.pg h2.pg hs,xC h1.mg h2.mg⟩
theorem m7{k:Nat}(n:Nat)(hc:X.calm=true)(h:BL K X es gs ms)(hK:X.K=K:=by rfl)(hn:(assignEach es X.env).length=n:=by rfl)(hst:(assignEach es X.env).findIdx? (·.1)=none:=by rfl):FP K X (.Tuple es k pos) (xR K n gs) (nZ n ms):=by subst hK;exact⟨AV hc h.pg hn hst,FJ h.mg⟩
theorem pF{k:Nat}(n:Nat)(hc:X.calm=true)(h:B6 K X es gs mos)(hK:X.K=K:=by rfl)(hn:(assignEach es X.env).length=n:=by rfl)(hst:(assignEach es X.env).findIdx? (·.1)=none:=by rfl):GM K X (.Tuple es k pos) (xR K n gs) (jG n mos):=by subst hK;exact⟨AV hc h.pg hn hst,CV h.mg⟩
end
section
variable {elt iter:Expr}{ifs:List Expr}{scope:Scope}{N:List Str}{ix:List (Option Nat)}{wi:TI}{g:TG}{tt:TT}{fi:Pe->M (List T)}{m:T->Pe->Option Pe}{ft:Pe->M Bool}
theorem eR:zy K E X [] Ez (λ_=>.ok true):=⟨BF,DZ⟩
theorem mM{t:TT}{f:Pe->M Bool}(h:uh K E X c t f):zy K E X [c] t f:=⟨CH h.pt,h.mt⟩
@[simp] noncomputable def iK(ix:List (Option Nat))(fi:Pe->M (List T))(m:T->Pe->Option Pe)(ft:Pe->M Bool)(fe:Pe->M T):Pe->M (List T):=λρ=>(fi ρ).bind λits=>(if its.length<sizeLine then ku (lH m ft fe (je ix ρ)) its else .bad).noEr
theorem Gc(hc:X.calm=true)(hi:Cr K E X tg iter wi fi)(L:t5 X scope N ix)(hgk:ke ix g)
  (blk:∀C s₃ H ex pn,FP K (jh X N scope C s₃ H ex pn) tg g m/\zy K Bd (jh X N scope C s₃ H ex pn) ifs tt ft/\Pm K Bd (jh X N scope C s₃ H ex pn) elt te fe)
  (hs:∀x,foldedSetIterable iter X.env x=pure x:=by intro _;rfl):yA K E X (.ListComp elt [⟨tg,iter,ifs,0⟩] scope pos) (zG ix wi g tt te) (iK ix fi m ft fe):=by
 obtain⟨b1,b2,b3⟩:=blk 0 X.s₀ X.H₀ [] [];exact⟨Gb hc hi.pi L hgk (λC s₃ H ex pn=>⟨(blk C s₃ H ex pn).1.pg,(blk C s₃ H ex pn).2.1.pf,(blk C s₃ H ex pn).2.2.pe⟩) hs,C9 hi.mi b1.mg b2.mt b3.me⟩
end
end
end L3
namespace L3
open PySem L2 PySem.Spec PyProof.Rows
section
variable {K:W.Frag}{E:XK}{X:Cx}{a b c e o tg it:Expr}{es:List Expr}{ta tb tc te to:TE}{fa fb fc fe fo:Pe->M T}{tr:TA}{fr:Pe->M (List T)}{pos pos' p p2 apos:Pos}{st:Stmt}{kn:List Stmt}{t u:TS}{g g':En->O}{ff:Pe->M (List T)}{x:Str}
theorem eA:lU K E X [] yR fv:=⟨Cj,CT⟩
theorem dN(h:rD K E X st t g):lU K E X [st] t g:=⟨wG h.ps,h.ms⟩
theorem dJ(h:rD K E X st t g)(h':lU K E X kn u g'):lU K E X (st::kn) (Bh t u) (ed g g'):=⟨sR h.ps h'.ps,FG h.ms h'.ms⟩
theorem l7:rD K E X st uL (λ_=>.bad):=⟨zm,Au⟩
theorem dX(h:Pm K E X e te fe):rD K E X (.Return (some e) pos) (vZ te) (eY fe):=⟨uF h.pe,Ed h.me⟩
theorem mH(h:yA K E X e te ff):rD K E X (.Return (some e) pos) (vZ te) (nS ff):=⟨uF h.pe,B9 h.mf⟩
theorem ui(i:Nat){x:Str}(h:PE X (.Name x p) (kQ i)):rD K E X (.Return (some (.Name x p)) pos) (vZ (kQ i)) (mD i):=⟨uF h,xZ⟩
theorem eU{tc:TT}{fc:Pe->M Bool}{A B:List Stmt}(hc:uh K E X c tc fc)(h:lU K E X A t g)(h':lU K E X B u g'):rD K E X (.If c A B pos) (Ek tc t u) (j7 fc g g'):=⟨F8 hc.pt h.ps h'.ps,GX hc.mt h.ms h'.ms⟩
theorem zA{tc:TT}{fc:Pe->M Bool}{A:List Stmt}(fuel:En->Nat)(hp:PassesOwn (model X.prog X.w) X.A X.env X.xe)(hc:uh K E X c tc fc)(h:lU K E X A t g):rD K E X (.While c A [] pos) (uB tc t) (λρ=>jd fc g (fuel ρ) ρ):=⟨yX hp hc.pt h.ps,zK fuel hc.mt h.ms⟩
section
variable {w:TI}{fi:Pe->M (List T)}{gt:TG}{m:T->En->Option En}{A:List Stmt}
theorem h7(hp:PassesOwn (model X.prog X.w) X.A X.env X.xe)(hc:X.calm=true)(hi:Cr K E X tg it w fi)(hg:GM K X tg gt m)(hb:lU K E X A t g)(hs:∀x,foldedSetIterable it X.env x=pure x:=by intro _;rfl):rD K E X (.For tg it A [] pos) (yT w gt t) (kJ fi m g):=⟨zx hp hc hi.pi hg.pg hb.ps hs,EK hi.mi hg.mg hb.ms⟩
theorem jU(hp:PassesOwn (model X.prog X.w) X.A X.env X.xe)(hc:X.calm=true)(hi:pI K E X tg it w fi)(hg:GM K X tg gt m)(hb:lU K E X A t g)(hs:∀x,foldedSetIterable it X.env x=pure x:=by intro _;rfl):rD K E X (.For tg it A [] pos) (yT w gt t) (lx fi m g):=⟨zx hp hc hi.pi hg.pg hb.ps hs,CB hi.mi hg.mg hb.ms⟩
end
theorem Eg{gm:En->O}{elt iter:Expr}{ifs:List Expr}{scope:Scope}{N:List Str}{ix:List (Option Nat)}{wi:TI}{gt:TG}{tt:TT}{fi:Pe->M (List T)}{m:T->Pe->Option Pe}{ft:Pe->M Bool}{spos py:Pos}(i:Nat)(hN:X.N.Nodup)(hx:xI X.env.scope x)
  (hc:X.calm=true) (hi:Cr K E X tg iter wi fi) (L:t5 X scope N ix) (hgk:ke ix gt)
  (blk:∀C s₃ H ex pn,FP K (jh X N scope C s₃ H ex pn) tg gt m/\zy K Bd (jh X N scope C s₃ H ex pn) ifs tt ft/\Pm K Bd (jh X N scope C s₃ H ex pn) elt te fe)
  (hm:MF K E (zG ix wi gt tt te) (iK ix fi m ft fe)->MS K E (ki (zG ix wi gt tt te) (gB i)) gm)
  (hy:X.N[i]? = some x:=by rfl) (hf:X.fn x=true\/X.env.scope.names.lookup x=some .local:=by first | exact .inl rfl | exact .inr rfl)
  (hsw:swapsWith (.ListComp elt [⟨tg,iter,ifs,0⟩] scope pos) (some (.Name x py)) spos.line X.env=pure true:=by rfl)
  (hs:∀x,foldedSetIterable iter X.env x=pure x:=by intro _;rfl):rD K E X (.Assign [.Name x py] (.ListComp elt [⟨tg,iter,ifs,0⟩] scope pos) spos) (ki (zG ix wi gt tt te) (gB i)) gm:=by
 obtain⟨b1,b2,b3⟩:=blk 0 X.s₀ X.H₀ [] [];exact⟨zF hN hy hx hc hi.pi L hgk (λC s₃ H ex pn=>⟨(blk C s₃ H ex pn).1.pg,(blk C s₃ H ex pn).2.1.pf,(blk C s₃ H ex pn).2.2.pe⟩) hf hsw hs,hm (C9 hi.mi b1.mg b2.mt b3.me)⟩
theorem dU(i:Nat)(hN:X.N.Nodup)(h:Pm K E X e te fe)(hx:xI X.env.scope x:=by first | exact Or.inl rfl | exact Or.inr rfl)(hi:X.N[i]? = some x:=by rfl)(hs:swapsWith e (some (.Name x pos')) pos.line X.env=pure false:=by rfl)(hf:X.fn x=true\/X.env.scope.names.lookup x=some .local:=by first | exact .inl rfl | exact .inr rfl | assumption) :
  rD K E X (.Assign [.Name x pos'] e pos) (ki te (gB i)) (setO i (gJ fe)):=⟨rV hN hi hx h.pe hs hf,xk h.me⟩
theorem tj(i:Nat)(hN:X.N.Nodup)(h:Pm K E X e te fe)(hx:xI X.env.scope x:=by first | exact Or.inl rfl | exact Or.inr rfl)(hi:X.N[i]? = some x:=by rfl)(hs:swapsWith e (some (.Name x pos')) pos.line X.env=pure false:=by rfl)(hf:X.fn x=true\/X.env.scope.names.lookup x=some .local:=by first | exact .inl rfl | exact .inr rfl | assumption) :
  rD K E X (.Assign [.Name x pos'] e pos) (ki te (gB i)) (setO i (lz fe)):=⟨rV hN hi hx h.pe hs hf,Cc h.me⟩
theorem hC(i:Nat)(hN:X.N.Nodup)(h:yA K E X e te ff)(hx:xI X.env.scope x:=by first | exact Or.inl rfl | exact Or.inr rfl)(hi:X.N[i]? = some x:=by rfl)(hs:swapsWith e (some (.Name x pos')) pos.line X.env=pure false:=by rfl)(hf:X.fn x=true\/X.env.scope.names.lookup x=some .local:=by first | exact .inl rfl | exact .inr rfl | assumption) :
  rD K E X (.Assign [.Name x pos'] e pos) (ki te (gB i)) (jY i (kG ff)):=⟨rV hN hi hx h.pe hs hf,wM h.mf⟩
theorem yk(i:Nat)(hN:X.N.Nodup)(h:yA K E X e te ff)(hx:xI X.env.scope x:=by first | exact Or.inl rfl | exact Or.inr rfl)(hi:X.N[i]? = some x:=by rfl)(hs:swapsWith e (some (.Name x pos')) pos.line X.env=pure false:=by rfl)(hf:X.fn x=true\/X.env.scope.names.lookup x=some .local:=by first | exact .inl rfl | exact .inr rfl | assumption) :
  rD K E X (.Assign [.Name x pos'] e pos) (ki te (gB i)) (tQ i (p6 ff)):=⟨rV hN hi hx h.pe hs hf,za h.mf⟩
theorem tW{i:Nat}(h:MF K E te ff):MS K E (ki te (gB i)) (setO i (gJ λρ=>(ff ρ).bind λts=>.ok (.lst ts))):=xk h.me
theorem A8{l:Addr}{xs:List V}{H:Hp}(h:H l=some (.lst xs)):Hb K "list" (.ref l) H:=.inl ⟨rfl,_,ig.of h⟩
theorem kP(i:Nat){x:Str}(hv:PE X (.Name x p) (kQ i))(ha:Pm K E X e te fe)(hs:starEach [e] X.env=(false,eval e X.env)::starEach [] X.env:=by rfl)(hK:X.K=K:=by rfl)
  (hbase:attributeBase (.Name x p) "append" X.env (eval (.Name x p) X.env)=eval (.Name x p) X.env:=by rfl)
  (hfew:((backTo pos (starEach [e] X.env)).all (λx=>!x.1)&&(backToKw pos (keywordEach [] X.env)).all (λx=>x.1.isSome)&&decide (([e]:List Expr).length+([]:List Keyword).length+(if ([]:List Keyword).isEmpty then 0 else 1)<30))=true:=by rfl)
  (hline:(apos.endLine == pos.line)=true:=by rfl) (hplain:(backTo pos (starEach [] X.env)).any (·.1)=false:=by rfl) (hsw:swapsWith (.Call (.Attribute (.Name x p) "append" apos) [e] [] pos) none pos'.line X.env=pure false:=by rfl) :
  rD K E X (.Expr (.Call (.Attribute (.Name x p) "append" apos) [e] [] pos) pos') (tm (Bq K i te)) (kL i (gJ fe)):=by
 subst hK;exact⟨xc (Dd PySem.F.plainAttrs_list PySem.F.slot_list_append PySem.F.type_list_append qO hv (mG ha.pe sj hs) hbase hfew hline hs hplain) hsw,Co (λl xs H h=>A8 h) ha.me⟩
theorem zW(i:Nat){x:Str}(hv:PE X (.Name x p) (kQ i))(ha:Pm K E X e te fe)(hs:starEach [e] X.env=(false,eval e X.env)::starEach [] X.env:=by rfl)(hK:X.K=K:=by rfl)
  (hbase:attributeBase (.Name x p) "append" X.env (eval (.Name x p) X.env)=eval (.Name x p) X.env:=by rfl)
  (hfew:((backTo pos (starEach [e] X.env)).all (λx=>!x.1)&&(backToKw pos (keywordEach [] X.env)).all (λx=>x.1.isSome)&&decide (([e]:List Expr).length+([]:List Keyword).length+(if ([]:List Keyword).isEmpty then 0 else 1)<30))=true:=by rfl)
  (hline:(apos.endLine == pos.line)=true:=by rfl) (hplain:(backTo pos (starEach [] X.env)).any (·.1)=false:=by rfl) (hsw:swapsWith (.Call (.Attribute (.Name x p) "append" apos) [e] [] pos) none pos'.line X.env=pure false:=by rfl) :
  rD K E X (.Expr (.Call (.Attribute (.Name x p) "append" apos) [e] [] pos) pos') (tm (Bq K i te)) (kL i (lz fe)):=by
 subst hK;exact⟨xc (Dd PySem.F.plainAttrs_list PySem.F.slot_list_append PySem.F.type_list_append qO hv (mG ha.pe sj hs) hbase hfew hline hs hplain) hsw,CD (λl xs H h=>A8 h) ha.me⟩
theorem mZ(i:Nat){x:Str}(hv:PE X (.Name x p) (kQ i))(hk:Pm K E X b tb fb)(h:Pm K E X e te fe)
  (ha:∀v,assign (.Subscript (.Name x p) b p2) X.env v=(do
   let ov <-holding [v] (eval (.Name x p) X.env)
   let iv <-holding [v,ov] (eval b X.env)
   standAt p2
   holding [v,ov,iv] (setItem ov iv v)
   release [v,ov,iv] []):=by intro _;rfl)
  (hs:swapsWithSole [.Subscript (.Name x p) b p2] e pos.line X.env=pure false:=by rfl) (hw:swappedStores [.Subscript (.Name x p) b p2] e X.env=pure none:=by rfl)
  (h1:(assignEach [.Subscript (.Name x p) b p2] X.env).map (·.2)=[assign (.Subscript (.Name x p) b p2) X.env]:=by rfl) :
  rD K E X (.Assign [.Subscript (.Name x p) b p2] e pos) (ki te (FC (kQ i) tb wu)) (oy i (lz fb) (lz fe)):=⟨FM h.pe (E2 hv hk.pe zM ha) hs hw h1,DF h.me hk.me⟩
end
section
variable {P:Program}{w:World}{K:W.Frag}{mg:Str->Option Value}{base:Heap}{x:Str}{st:Stmt}{N ps:List Str}{k:Nat}{g:En->O}
theorem Hv(D:dZ K mg x st)(S:fS N ps (dR st))
  (hb:∀(kV doc pm:Value) (an:Option Addr) (cdv ct:Value) (us:List Value),us.length=ps.length->bindArgs (W.fnOf x x (fY st) (eQ st) (dR st) .none kV doc pm an cdv ct) ⟨us,[]⟩=pure (ps.zip us))
  (hT:∀(f:Addr) (cdv:Value) (A:Around) (outer:List Env) (s:Shared) (H:Hp) (E:XK),fO k (A.deeper (envOfC x (dR st) s.heap.objs.size f cdv))->∃t,lU K E (kD oU P w K mg base N x (dR st) f cdv A outer s H E).nox (eQ st) t g) :
  iU P w K mg base x (k+1) (p0 K (jE ps.length N.length g)):=
 w5 D S hb (λvs H Q E h=>uA h) λf cdv A outer s H vs Q E hr h=>let ⟨t,hp⟩:=hT f cdv A outer s H E hr;⟨t,hp.ps,sA hp.ms h⟩
theorem Hw(D:dZ K mg x st)(S:fS N ps (dR st))
  (hb:∀(kV doc pm:Value) (an:Option Addr) (cdv ct:Value) (us:List Value),us.length=ps.length->bindArgs (W.fnOf x x (fY st) (eQ st) (dR st) .none kV doc pm an cdv ct) ⟨us,[]⟩=pure (ps.zip us))
  (hT:∀(f:Addr) (cdv:Value) (A:Around) (outer:List Env) (s:Shared) (H:Hp) (E:XK),fO k (A.deeper (envOfC x (dR st) s.heap.objs.size f cdv))->∃t,lU K E (kD oU P w K mg base N x (dR st) f cdv A outer s H E).nox (eQ st) t g) :
  iU P w K mg base x (k+1) (uX K (ux ps.length N.length g)):=
 w5 D S hb (λvs H Q E h=>xf h) λf cdv A outer s H vs Q E hr h=>let ⟨t,hp⟩:=hT f cdv A outer s H E hr;⟨t,hp.ps,tX hp.ms h⟩
end
end L3
namespace L3
open PySem L2 PySem.Spec PyProof.Rows
section
variable {K:W.Frag}{E:XK}{X:Cx}{a b c e o tg it:Expr}{es:List Expr}{ta tb tc te to:TE}{fa fb fc fe fo:Pe->M T}{tr:TA}{fr:Pe->M (List T)}{pos p p2 apos:Pos}
@[simp] noncomputable def fE(f:Pe->M (List T)):Pe->M T:=λρ=>(f ρ).bind λts=>.ok (.lst ts)
theorem fF(hK:X.K=K:=by rfl):ib X (.builtin "len") (λxs H Q=>∃x n,xs=[x]/\Dw K x H n/\Q (.int n) H):=hK▸yY
theorem qU(hc:X.calm=true)(hK:X.K=K:=by rfl):ib X (.builtin "sum") (λxs H Q=>∃(p:Addr) (ns:LI),xs=[.ref p]/\ig K H p (ns.map V.int)/\Q (.int ns.sum) H):=hK▸zf hc
theorem nE(hc:X.calm=true)(hK:X.K=K:=by rfl):ib X (.builtin "all") (λxs H Q=>∃(p:Addr) (bs:List Bool),xs=[.ref p]/\ig K H p (bs.map V.bl)/\Q (.bl (bs.all id)) H):=hK▸yG hc
theorem qF(hc:X.calm=true)(hK:X.K=K:=by rfl):ib X (.builtin "any") (λxs H Q=>∃(p:Addr) (vs:List V) (bs:List Bool),xs=[.ref p]/\(ig K H p vs\/iL K H p vs)/\iZ vs=some bs/\Q (.bl (bs.any id)) H):=hK▸ye hc
theorem fT(hK:X.K=K:=by rfl):ib X (.type "tuple") (λxs H Q=>∃p ys,xs=[.ref p]/\((ig K H p ys/\∀l,H l=none->Q (.ref l) (gC H l (.tup ys)))\/(iL K H p ys/\Q (.ref p) H))):=hK▸p9
theorem ka(hK:X.K=K:=by rfl):ib X (.type "list") (λxs H Q=>∃p ys,xs=[.ref p]/\(ig K H p ys\/iL K H p ys)/\∀l,H l=none->Q (.ref l) (gC H l (.lst ys))):=hK▸rC
theorem yf(hK:X.K=K:=by rfl):kz X (compareOp .NotIn) (HA K true):=hK▸rg
def DE:T->Option Bool
 | .bl b=>some b
 | .int i=>some (i != 0)
 | _=>none
def nM:List T->Option (List Bool)
 | []=>some []
 | v::vs=>(DE v).bind λb=>(nM vs).bind λr=>some (b::r)
theorem r0{F:Hp}:∀{vs:List V} {ts:List T},ek K F vs ts->iZ vs=nM ts
 | _,_,.nil=>rfl
 | v::vs,t::ts,.cons h r=>by
  have e:tf v=DE t:=by cases h<;>rfl
  rw[iZ,nM,r0 r,e]
@[simp] theorem FQ(ns:List Bool):nM (ns.map T.bl)=some ns:=by
 induction ns with
 | nil=>rfl
 | cons n ns ih=>simp[nM,DE,ih]
@[simp] noncomputable def nW(ts:List T):M T:=match nM ts with
 | some bs=>.ok (.bl (bs.any id))
 | none=>.bad
@[simp] noncomputable def vR:List T->M T
 | [.lst ts]=>nW ts
 | [.tup ts]=>nW ts
 | _=>.bad
theorem zV(ts:List T):M.NoE (nW ts):=λC n=>by unfold nW;split<;>intro z<;>cases z
theorem B1(xs:List T):M.NoE (vR xs):=λC n=>by unfold vR;split<;>first | exact zV _ C n | (intro z;cases z)
theorem Aj:MC K (λxs H Q=>∃(p:Addr) (vs:List V) (bs:List Bool),xs=[.ref p]/\(ig K H p vs\/iL K H p vs)/\iZ vs=some bs/\Q (.bl (bs.any id)) H) vR:=⟨B1,λF H vs xs Q s r q=>by
 cases r with
 | nil=>exact q.elim
 | cons h t=>
  cases t with
  | cons _ _=>cases h<;>exact q.elim
  | nil=>
   cases h with
   | lst h r=>
    rename_i a xs ts;have q':(nW ts).res (kV K F H Q) (λ_ _=>False):=q;unfold nW at q';cases e:nM ts with
    | none=>rw[e] at q';exact q'.elim
    | some bs=>rw[e] at q';exact⟨a,xs,bs,rfl,.inl (ig.of (s _ _ h)),by rw[r0 r];exact e,kV.now q' s (.bl _)⟩
   | tup h r=>
    rename_i a xs ts;have q':(nW ts).res (kV K F H Q) (λ_ _=>False):=q;unfold nW at q';cases e:nM ts with
    | none=>rw[e] at q';exact q'.elim
    | some bs=>rw[e] at q';exact⟨a,xs,bs,rfl,.inr (iL.of (s _ _ h)),by rw[r0 r];exact e,kV.now q' s (.bl _)⟩
   | _=>exact q.elim⟩
def mh(xs:List T):List T:=(xs.zipIdx).map λp=>T.tup [.int (p.2:Int),p.1]
def Ab(K:W.Frag)(ta:TA):TI:=λσ H R=>∃b,y9 K b ta σ H R
@[simp] noncomputable def wg(fa:Pe->M (List T)):Pe->M (List T):=λρ=>(fa ρ).bind λxs=>match xs with
 | [x]=>(seqT x).bind λts=>.ok (mh ts)
 | _=>.bad
theorem Bx{F:Hp}{b:Bool}{l:Addr}{xs:List V}{ts:List T}(h1:∀H,eB F H->pT K H b l xs)(r1:ek K F xs ts):rE K (HR K b l) (mh ts) F where
 go:=λi H s hi=>by
  have hi':i<ts.length:=by simpa[mh] using hi
  have e1:xs[i]? = some (xs[i]'(by rw[r1.length];exact hi')):=ag _;exact⟨xs,_,h1 H s,e1⟩
 stop:=λH s=>⟨xs,h1 H s,by simp[mh,r1.length]⟩
 yld:=λi t F' H x H' s1 s2 e y=>by
  obtain⟨p,x1,rfl,hp,rfl,e1⟩:=y;obtain⟨t1,f1,q1⟩:=r1.at_ (e1 xs (h1 H (s1.trans s2)));have:t=.tup [.int (i:Int),t1]:=by unfold mh at e;rw[av,List.getElem?_zipIdx,f1] at e;simp at e;exact e.symm
  rw[this];have g:=Gr.new (o:=.tup [.int i,x1]) s2 hp;exact⟨_,g,.tup d8 (.cons (.int _) (.cons ((q1.mono s1).mono g.ff) .nil))⟩
noncomputable def vf(b:Bool)(fa:Pe->M (List T)):Pe->M (List T):=λρ=>(fa ρ).bind λxs=>match xs with
 | [x]=>(seqB b x).bind λts=>.ok (mh ts)
 | _=>.bad
theorem sP{b:Bool}(ha:MA K E tr fr):MI K E (y9 K b tr) (vf b fr):=λF H σ ρ R s V q=>by
 refine ha.run s V q λxs vs F1 H1 g1 r1 q1=>?_;split at q1
 ·rename_i x;cases r1 with
  | cons a c=>
   cases c;cases e1:seqB b x with
   | bad=>rw[e1] at q1;exact q1.elim
   | er C n=>exact absurd e1 sd
   | ok ts=>rw[e1] at q1;obtain⟨a1,x1,rfl,s1,t1⟩:=rk a e1;exact⟨a1,rfl,⟨x1,s1 _ g1.fh⟩,(q1:kI K F H R _) _ F1 H1 g1 (Bx s1 t1)⟩
 ·exact q1.elim
theorem Cw(ha:MA K E tr fr):MI K E (Ab K tr) (wg fr):=λF H σ ρ R s V q=>by
 unfold wg at q;cases e:fr ρ with
 | bad=>rw[e] at q;exact q.elim
 | er C n=>rw[e] at q;exact⟨true,sP ha F H σ ρ R s V (by unfold vf;rw[e];exact q)⟩
 | ok xs=>
  rw[e] at q;match xs,e,q with
  | [],_,q=>exact q.elim
  | [x],e,q=>refine⟨mn x,sP ha F H σ ρ R s V ?_⟩;unfold vf;rw[e];have q':((seqT x).bind λts=>M.ok (mh ts)).res (kI K F H R) (kE E F H):=q;rw[vS x] at q';exact q'
  | _::_::_,_,q=>exact q.elim
theorem Bt{elts:List Expr}{x1}{tpos:Pos}(hm:X.mg "enumerate" = none)(ha:uy K E X [a] tr fr)(hK:X.K=K:=by rfl)(hg:Gl X "enumerate" :=by rfl)(hs:starEach [a] X.env=[(false,eval a X.env)]:=by rfl) :
  Cr K E X (.Tuple elts x1 tpos) (.Call (.Name "enumerate" p) [a] [] pos) (Ab K tr) (wg fr):=by
 subst hK;refine⟨λdH s σ H R I h=>?_,Cw ha.ma⟩;obtain⟨b,h⟩:=h;exact A3 hg hm ha.pa hs dH s σ H R I h
end
structure Bs(mg:Str->Option Value):Prop where
 abs:mg "abs" = none
 isinstance:mg "isinstance" = none
 int:mg "int" = none
 bool:mg "bool" = none
 len:mg "len" = none
 range:mg "range" = none
 tuple:mg "tuple" = none
 list:mg "list" = none
 str:mg "str" = none
 all:mg "all" = none
 any:mg "any" = none
 sum:mg "sum" = none
 zip:mg "zip" = none
 max:mg "max" = none
 min:mg "min" = none
 enumerate:mg "enumerate" = none
 reversed:mg "reversed" = none
 set:mg "set" = none
 dict:mg "dict" = none
 sorted:mg "sorted" = none
theorem lr:bootBuiltins "list" = some (.type "list"):=by decide +kernel
theorem EU:bootBuiltins "min" = some (.builtin "min"):=by decide +kernel
end L3
namespace L3
open PySem L2
section
variable {α:Type}
theorem qH{k:T->M (Option T)}(enc f:α->T):∀(l:List α),(∀a∈l,k (enc a)=.ok (some (f a)))->ku k (l.map enc)=.ok (l.map f)
 | [],_=>rfl
 | a::l,h=>by rw[bz,ku,h a (by simp),M.bind_ok,qH enc f l λb hb=>h b (by simp[hb])];rfl
theorem mF{k:T->M (Option T)}(enc f:α->T)(p:α->Bool):∀(l:List α),(∀a∈l,k (enc a)=.ok (if p a then some (f a) else none))->ku k (l.map enc)=.ok ((l.filter p).map f)
 | [],_=>rfl
 | a::l,h=>by
  rw[bz,ku,h a (by simp),M.bind_ok,mF enc f p l λb hb=>h b (by simp[hb])];by_cases hp:p a=true
  ·simp[hp]
  ·simp[hp]
theorem fQ{m:T->En->Option En}{g:En->O}(enc:α->T)(P:Nat->En->Prop):∀(l:List α) (k:Nat) (ρ:En),P k ρ->
  (∀i a ρ,l[i]? = some a->P (k+i) ρ->∃ρ1 ρ2,m (enc a) ρ=some ρ1/\(g ρ1=.nx ρ2\/g ρ1=.ct ρ2)/\P (k+i+1) ρ2)->∃ρ',gA m g (l.map enc) ρ=.nx ρ'/\P (k+l.length) ρ'
 | [],k,ρ,h,_=>⟨ρ,rfl,h⟩
 | a::l,k,ρ,h,st=>by
  obtain⟨ρ1,ρ2,e1,e2,h2⟩:=st 0 a ρ rfl h;obtain⟨ρ',e,h'⟩:=fQ enc P l (k+1) ρ2 h2 λi b ρ hb hP=>by have:=st (i+1) b ρ (by simpa using hb) (by rw[show k+(i+1)=k+1+i by omega];exact hP);rw[show k+1+i+1=k+(i+1)+1 by omega];exact this
  refine⟨ρ',?_,by rw[ay,show k+(l.length+1)=k+1+l.length by omega];exact h'⟩;rw[bz,gA,e1];rcases e2 with e2 | e2<;>(dsimp only;rw[e2];exact e)
theorem qk{m:T->En->Option En}{g:En->O}(enc:α->T)(P:En->Prop):∀(l:List α) (ρ:En),P ρ->
  (∀a∈l,∀ρ,P ρ->∃ρ1 ρ2,m (enc a) ρ=some ρ1/\(g ρ1=.nx ρ2\/g ρ1=.ct ρ2)/\P ρ2)->∃ρ',gA m g (l.map enc) ρ=.nx ρ'/\P ρ'
 | [],ρ,h,_=>⟨ρ,rfl,h⟩
 | a::l,ρ,h,st=>by obtain⟨ρ1,ρ2,e1,e2,h2⟩:=st a (by simp) ρ h;obtain⟨ρ',e,h'⟩:=qk enc P l ρ2 h2 λb hb ρ hP=>st b (by simp[hb]) ρ hP;refine⟨ρ',?_,h'⟩;rw[bz,gA,e1];rcases e2 with e2 | e2<;>(dsimp only;rw[e2];exact e)
theorem lT{c:Pe->M Bool}{g:En->O}(P:En->Prop)(μ:En->Nat)(R:En->Prop)(st:∀ρ,P ρ->(c (vw ρ)=.ok false/\R ρ)\/(c (vw ρ)=.ok true/\∃ρ2,(g ρ=.nx ρ2\/g ρ=.ct ρ2)/\P ρ2/\μ ρ2<μ ρ)) :
  ∀(n:Nat) (ρ:En),P ρ->μ ρ<n->∃ρ',jd c g n ρ=.nx ρ'/\R ρ'
 | 0,ρ,_,h=>absurd h (cD _)
 | n+1,ρ,hP,hn=>by
  rcases st ρ hP with⟨e,r⟩ | ⟨e,ρ2,e2,hP2,hm⟩
  ·exact⟨ρ,by rw[jd,e];rfl,r⟩
  ·obtain⟨ρ',e',r⟩:=lT P μ R st n ρ2 hP2 (by omega);refine⟨ρ',?_,r⟩;rw[jd,e,O.of_ok,aP rfl];rcases e2 with e2 | e2<;>(rw[e2];exact e')
end
theorem sx{α:Type}{ix:List (Option Nat)}{fi:Pe->M (List T)}{m:T->Pe->Option Pe}{ft:Pe->M Bool}{fe:Pe->M T}{ρ:Pe}(l:List α)(enc f:α->T)(hi:fi ρ=.ok (l.map enc))(hl:l.length<sizeLine)
  (ht:∀a∈l,∃ρ1,m (enc a) (je ix ρ)=some ρ1/\ft ρ1=.ok true/\fe ρ1=.ok (f a)):iK ix fi m ft fe ρ=.ok (l.map f):=by
 have h:=qH (k:=lH m ft fe (je ix ρ)) enc f l λa ha=>by obtain⟨ρ1,e1,e2,e3⟩:=ht a ha;unfold lH;rw[e1];dsimp only;rw[e2,M.bind_ok,aP rfl,e3];rfl
 unfold iK;rw[hi,M.bind_ok,aw,aP hl,h];rfl
theorem uU{α:Type}{ix:List (Option Nat)}{fi:Pe->M (List T)}{m:T->Pe->Option Pe}{ft:Pe->M Bool}{fe:Pe->M T}{ρ:Pe}(l:List α)(enc f:α->T)(p:α->Bool)(hi:fi ρ=.ok (l.map enc))(hl:l.length<sizeLine)
  (ht:∀a∈l,∃ρ1,m (enc a) (je ix ρ)=some ρ1/\ft ρ1=.ok (p a)/\(p a=true->fe ρ1=.ok (f a))):iK ix fi m ft fe ρ=.ok ((l.filter p).map f):=by
 have h:=mF (k:=lH m ft fe (je ix ρ)) enc f p l λa ha=>by
  obtain⟨ρ1,e1,e2,e3⟩:=ht a ha;unfold lH;rw[e1];dsimp only;rw[e2,M.bind_ok];cases hp:p a with
  | true=>rw[aP rfl,aP rfl,e3 hp];rfl
  | false=>rw[aQ aG,aQ aG]
 unfold iK;rw[hi,M.bind_ok,aw,aP hl,h];rfl
theorem gw{α:Type}{ix:List (Option Nat)}{fi:Pe->M (List T)}{m:T->Pe->Option Pe}{ft:Pe->M Bool}{fe:Pe->M T}{ρ:Pe}{ts:List T}(l:List α)(enc f:α->T)(hi:fi ρ=.ok (l.map enc))(hl:l.length<sizeLine)
  (ht:∀a∈l,∃ρ1,m (enc a) (je ix ρ)=some ρ1/\ft ρ1=.ok true/\fe ρ1=.ok (f a)) (hr:l.map f=ts):iK ix fi m ft fe ρ=.ok ts:=by rw[<-hr];exact sx l enc f hi hl ht
theorem sE{α:Type}{ix:List (Option Nat)}{fi:Pe->M (List T)}{m:T->Pe->Option Pe}{ft:Pe->M Bool}{fe:Pe->M T}{ρ:Pe}{ts:List T}(l:List α)(enc f:α->T)(p:α->Bool)(hi:fi ρ=.ok (l.map enc))(hl:l.length<sizeLine)
  (ht:∀a∈l,∃ρ1,m (enc a) (je ix ρ)=some ρ1/\ft ρ1=.ok (p a)/\(p a=true->fe ρ1=.ok (f a))) (hr:(l.filter p).map f=ts):iK ix fi m ft fe ρ=.ok ts:=by rw[<-hr];exact uU l enc f p hi hl ht
theorem yV(lo:Int)(n:Nat):pD lo n=(List.range n).map λ(i:Nat)=>T.int (lo+(i:Int)):=rfl
def tI(ns:LI):T:=.tup (ns.map T.int)
def tL(ns:LI):T:=.lst (ns.map T.int)
def fr(p:Int×Int):T:=.tup [.int p.1,.int p.2]
def tS(s:List (Int×Int)):T:=.tup (s.map fr)
theorem vB{α:Type}(l:List α)(i:Int)(h0:0<=i)(h1:i<l.length):∃a,lu l i=some a/\a∈l:=by
 unfold lu qJ;rw[aP h0,aP h1];have hn:i.toNat<l.length:=by omega
 exact⟨l[i.toNat],by simp[hn],aU _⟩
theorem fN{i j:Int}(h:PySem.IntMulOk i j):gH (.int i) (.int j)=.ok (.int (i*j)):=by simp[gH,ir,h]
theorem jq{i j:Int}(h:j≠0)(h2:Builtin.divisionGoesByPylong i j=false):ko (.int i) (.int j)=.ok (.int (i.fdiv j)):=by simp[ko,ir,h,h2]
theorem mN{i j:Int}(h:j≠0):oF (.int i) (.int j)=.ok (.int (i.fmod j)):=by simp[oF,ir,h]
@[simp] theorem gz(i j:Int):gx (.int i) (.int j)=.ok (.int (i+j)):=rfl
@[simp] theorem mr(i j:Int):xP (.int i) (.int j)=.ok (.int (i - j)):=rfl
@[simp] theorem mQ(i j:Int):DT (.int i) (.int j)=.ok (.bl (decide (i<j))):=rfl
@[simp] theorem wc(i j:Int):Az (.int i) (.int j)=.ok (.bl (decide (i<=j))):=rfl
@[simp] theorem Hn(i j:Int):Ia (.int i) (.int j)=.ok (.bl (decide (j<i))):=rfl
@[simp] theorem rK(i j:Int):Dc (.int i) (.int j)=.ok (.bl (decide (j<=i))):=rfl
@[simp] theorem fV(i j:Int):eM false (.int i) (.int j)=.ok (.bl (i == j)):=by simp[eM,ja,qD,lA]
@[simp] theorem kX(i j:Int):eM true (.int i) (.int j)=.ok (.bl (!(i == j))):=by simp[eM,ja,qD,lA]
theorem qo{i j:Int}(h:i.natAbs<2 ^ 64):PySem.IntMulOk i j:=IntMulOk.of_left (PyProof.Rows.intBits_le h)
theorem wa{i j:Int}(h:j.natAbs<2 ^ 64):PySem.IntMulOk i j:=PySem.IntMulOk.of_right (PyProof.Rows.intBits_le h)
def Bn(n:Nat)(x:Int):Prop:=x.natAbs<2 ^ n
theorem Bn.mono{m n:Nat}{x:Int}(h:Bn m x)(hm:m<=n):Bn n x:=aD h (cE (by decide) hm)
theorem Bn.mul{m n:Nat}{x y:Int}(h:Bn m x)(h':Bn n y):Bn (m+n) (x*y):=by unfold Bn at *;rw[aX,Nat.pow_add];exact Nat.mul_lt_mul'' h h'
theorem Bn.add{m n:Nat}{x y:Int}(h:Bn m x)(h':Bn n y):Bn (max m n+1) (x+y):=by have a:Bn (max m n) x:=h.mono (Nat.le_max_left _ _);have b:Bn (max m n) y:=h'.mono (Nat.le_max_right _ _);unfold Bn at *;rw[Nat.pow_succ];have:=cF x y;omega
theorem Bn.neg{m:Nat}{x:Int}(h:Bn m x):Bn m (-x):=by unfold Bn at *;rw[cG];exact h
theorem Bn.sub{m n:Nat}{x y:Int}(h:Bn m x)(h':Bn n y):Bn (max m n+1) (x - y):=by rw[Int.sub_eq_add_neg];exact h.add h'.neg
theorem Bn.ok{m n:Nat}{x y:Int}(h:Bn m x)(h':Bn n y)(hm:m<=2 ^ 20)(hn:n<=2 ^ 20):PySem.IntMulOk x y:=IntMulOk.of_bits (aM (PyProof.Rows.intBits_le h) hm) (aM (PyProof.Rows.intBits_le h') hn)
theorem Bn.noPy{n:Nat}{x y:Int}(h:Bn n y)(hn:n<=8000):Builtin.divisionGoesByPylong x y=false:=Cu.noPy (PyProof.Rows.intBits_le h) hn
section
variable {a b g:En->O}{ρ ρ':En}{r:O}{fc:Pe->M Bool}{f:Pe->M T}{ff:Pe->M (List T)}{t:T}{ts:List T}{k n i:Nat}
theorem dP(h1:a ρ=.nx ρ')(h2:b ρ'=r):ed a b ρ=r:=by unfold ed;rw[h1];exact h2
theorem jc(h1:a ρ=.rt t)(hr:.rt t=r):ed a b ρ=r:=by unfold ed;rw[h1];exact hr
theorem gd(h:fc (vw ρ)=.ok true)(h2:a ρ=r):j7 fc a b ρ=r:=by unfold j7;rw[h];exact h2
theorem eV(h:fc (vw ρ)=.ok false)(h2:b ρ=r):j7 fc a b ρ=r:=by unfold j7;rw[h];exact h2
theorem ee(h:f (lE ρ)=.ok t)(hr:ρ'=ρ.set i (some (.p t))):setO i (gJ f) ρ=.nx ρ':=by unfold setO gJ;rw[h,hr];rfl
theorem wZ(h:f (vw ρ)=.ok t)(hl:lf t=true)(hr:ρ'=ρ.set i (some (.p t))):setO i (lz f) ρ=.nx ρ':=by unfold setO lz;rw[h,hr];simp[hl]
theorem jx(h:ff (lE ρ)=.ok ts)(hr:ρ'=ρ.set i (some (.o ts))):jY i (kG ff) ρ=.nx ρ':=by unfold jY kG;rw[h,hr];rfl
theorem Cn(h:ff (vw ρ)=.ok ts)(hl:yB ts=true)(hr:ρ'=ρ.set i (some (.o ts))):jY i (p6 ff) ρ=.nx ρ':=by unfold jY p6;rw[h,hr];simp[hl]
theorem Bp(h:ff (vw ρ)=.ok ts)(hl:yB ts=true)(hr:ρ'=ρ.set i (some (.p (.lst ts)))):tQ i (p6 ff) ρ=.nx ρ':=by unfold tQ p6;rw[h,hr];simp[hl]
theorem pJ{us:List T}(ho:ρ[i]? = some (some (.o us)))(h:f (lE ρ)=.ok t)(hz:us.length<sizeLine)(hr:ρ'=ρ.set i (some (.o (us++[t])))):kL i (gJ f) ρ=.nx ρ':=by unfold kL gJ j1;rw[ho,h,hr];simp[hz]
theorem BW{us:List T}(ho:ρ[i]? = some (some (.o us)))(h:f (vw ρ)=.ok t)(hl:lf t=true)(hz:us.length<sizeLine)(hr:ρ'=ρ.set i (some (.o (us++[t])))):kL i (lz f) ρ=.nx ρ':=by unfold kL lz j1;rw[ho,h,hr];simp[hz,hl]
theorem oN{us:List T}{fk:Pe->M T}{j:Int}{m:Nat}(ho:ρ[i]? = some (some (.o us)))(h:f (vw ρ)=.ok t)(hl:lf t=true)(hk:fk (vw ρ)=.ok (.int j))(hj:qJ us.length j=some m)(hr:ρ'=ρ.set i (some (.o (us.set m t)))):oy i (lz fk) (lz f) ρ=.nx ρ':=by unfold oy lz j1;rw[ho,h,hk,hr];simp[hl,hj]
theorem eC(h:f (vw ρ)=.ok t):eY f ρ=.rt t:=by unfold eY;rw[h];rfl
theorem n8(h:ff (vw ρ)=.ok ts):nS ff ρ=.rf ts:=by unfold nS;rw[h];rfl
theorem h8{fi:Pe->M (List T)}{m:T->En->Option En}{its:List T}(h:fi (lE ρ)=.ok its)(h2:gA m g its ρ=r):kJ fi m g ρ=r:=by unfold kJ;rw[h];exact h2
theorem jL{fi:Pe->M (List T)}{m:T->En->Option En}{its:List T}(h:fi (vw ρ)=.ok its)(h2:gA m g its ρ=r):lx fi m g ρ=r:=by unfold lx;rw[h];exact h2
theorem eP(hk:ts.length=k)(h:g (eT n ts)=.rt t):jE k n g ts=.ok t:=by unfold jE;rw[aP hk,h];rfl
theorem nG{us:List T}(hk:ts.length=k)(h:g (eT n ts)=.rf us):ux k n g ts=.ok us:=by unfold ux;rw[aP hk,h];rfl
end
theorem CA(n:Nat):pD 0 n=(List.range n).map λ(i:Nat)=>T.int (i:Int):=by simp[pD]
theorem mw{α:Type}(f:α->T):∀(l:List α),(∀a∈l,ja (f a)=true)->iR (l.map f)=true
 | [],_=>rfl
 | a::l,h=>by rw[bz,iR,h a (by simp),mw f l λb hb=>h b (by simp[hb])];rfl
theorem mx{α:Type}(f:α->T)(n:Nat):∀(l:List α),(∀a∈l,qD (f a)<=n)->mB (l.map f)<=n
 | [],_=>bB _
 | a::l,h=>by rw[bz,mB];have h1:=h a (by simp);have h2:=mx f n l λb hb=>h b (by simp[hb]);omega
@[simp] theorem FY(ns:LI):iR (ns.map T.int)=true:=mw _ _ λ_ _=>rfl
theorem qV(ns:LI):mB (ns.map T.int)<=0:=mx _ _ _ λ_ _=>aJ _
@[simp] theorem E1(ns:LI):ja (tI ns)=true:=by simp[tI,ja]
theorem E7(ns:LI):qD (tI ns)<=1:=by unfold tI;rw[qD];have:=qV ns;omega
@[simp] theorem G9(l:LL):iR (l.map tI)=true:=mw _ _ λ_ _=>E1 _
theorem uv(l:LL):mB (l.map tI)<=1:=mx _ _ _ λ_ _=>E7 _
@[simp] theorem yH(l:List T):lY l []=l.isEmpty:=by cases l<;>rfl
theorem sL{α:Type}(f:α->T)(he:∀a b,lA (f a) (f b)=true↔a=b):∀(l m:List α),lY (l.map f) (m.map f)=true↔l=m
 | [],[]=>by simp[lY]
 | [],b::m=>by simp[lY]
 | a::l,[]=>by simp[lY]
 | a::l,b::m=>by rw[bz,bz,lY,bM,he a b,sL f he l m];simp
theorem yz(l m:LI):lY (l.map T.int) (m.map T.int)=decide (l=m):=by
 have h:=sL T.int (λa b=>by simp[lA]) l m;by_cases e:l=m
 ·rw[aB e];exact h.mpr e
 ·rw[aA e];cases hb:lY (l.map T.int) (m.map T.int) with
  | false=>rfl
  | true=>exact absurd (h.mp hb) e
theorem vP(neg:Bool)(l m:LI):eM neg (.lst (l.map T.int)) (.lst (m.map T.int))=.ok (.bl (if neg then !decide (l=m) else decide (l=m))):=by have h:=qV l;unfold eM;rw[aP (by simp[ja,qD];omega),lA,yz]
theorem rP(neg:Bool)(ts:List T)(h:iR ts=true)(hd:mB ts<=90):eM neg (.lst ts) (.lst [])=.ok (.bl (if neg then !ts.isEmpty else ts.isEmpty)):=by unfold eM;rw[aP (by simp[ja,qD,h,iR];omega),lA,yH]
theorem xE{α:Type}(f:α->T)(l:List α):mh (l.map f)=l.zipIdx.map λp=>T.tup [.int (p.2:Int),f p.1]:=by unfold mh;rw[List.zipIdx_map,aH];rfl
theorem Ap{α β:Type}(f:α->T)(g:β->T)(l:List α)(m:List β):r9 (l.map f) (m.map g)=(l.zip m).map λp=>T.tup [f p.1,g p.2]:=by unfold r9;rw[List.zip_map,aH];rfl
theorem n6{α:Type}(f:α->T):∀(l:List α),(∀a∈l,lf (f a)=true)->yB (l.map f)=true
 | [],_=>rfl
 | a::l,h=>by rw[bz,yB,h a (by simp),n6 f l λb hb=>h b (by simp[hb])];rfl
@[simp] theorem yD(ns:LI):yB (ns.map T.int)=true:=n6 _ _ λ_ _=>rfl
@[simp] theorem Df(ns:LI):lf (tI ns)=true:=by simp[tI]
@[simp] theorem Ht(l:LL):yB (l.map tI)=true:=n6 _ _ λ_ _=>Df _
section
variable {α:Type}{fe fd fl:Pe->M T}{ρ:Pe}{ts:List T}{d k:Nat}
theorem xJ(l:List α)(d:Nat):j4 l none (some (d:Int))=l.take d:=by
 unfold j4;rw[HT.sIx_none,HT.sIx_nat,List.drop_zero,Nat.sub_zero];by_cases h:d<=l.length
 ·rw[Nat.min_eq_left h]
 ·rw[Nat.min_eq_right (by omega),b9 (aJ _),b9 (by omega)]
theorem xu(l:List α)(d:Nat):j4 l (some (d:Int)) none=l.drop d:=by
 unfold j4;rw[HT.sIx_none,HT.sIx_nat];by_cases h:d<=l.length
 ·rw[Nat.min_eq_left h,b9 (by simp)]
 ·rw[Nat.min_eq_right (by omega),cH (aJ _),cH (by omega),List.take_nil]
theorem Fu(n d:Nat):HT.sIx n d (some (-1))=n - 1:=by unfold HT.sIx;dsimp only;rw[aP (by decide)];omega
theorem yn(l:List α):j4 l none (some (-1))=l.dropLast:=by unfold j4;rw[HT.sIx_none,Fu,List.drop_zero,Nat.sub_zero,List.dropLast_eq_take]
theorem pO(h:fe ρ=.ok (.tup ts))(hd:fd ρ=.ok (.int (d:Int)))(hl:d<=ts.length):mj fe (λ_=>.ok none) (jM fd) ρ=.ok (.tup (ts.take d)):=by simp only[mj,jM,h,hd,M.bind_ok,xJ]
theorem mS{o:List T->M T}{lc:Pe->M (List T)}{r:M T}(h:lc ρ=.ok ts)(hr:o [.lst ts]=r):ji o (dF (fE lc) dM) ρ=r:=by simp only[ji,dF,dM,fE,h,M.bind_ok];exact hr
theorem kx{o:List T->M T}{f:Pe->M T}{t:T}{r:M T}(h:f ρ=.ok t)(hr:o [t]=r):ji o (dF f dM) ρ=r:=by simp only[ji,dF,dM,h,M.bind_ok];exact hr
theorem fI{lc:Pe->M (List T)}(h:lc ρ=.ok ts):fE lc ρ=.ok (.lst ts):=by simp only[fE,h,M.bind_ok]
theorem Af(h:fe ρ=.ok (.tup ts)):fB fe ρ=.ok ts:=by simp only[fB,h,M.bind_ok]
theorem tG(h:fe ρ=.ok (.lst ts)):fB fe ρ=.ok ts:=by simp only[fB,h,M.bind_ok]
theorem eN{b:Bool}(h:fe ρ=.ok (.bl b)):fM fe ρ=.ok b:=by simp only[fM,h,M.bind_ok]
theorem lX{fc:Pe->M Bool}{b r:Bool}(h:fc ρ=.ok b)(hr:(!b)=r):L3.kv fc ρ=.ok r:=by simp only[L3.kv,h,M.bind_ok,hr]
theorem dQ{o:T->T->M T}{fa fb:Pe->M T}{x y:T}{r:M T}(ha:fa ρ=.ok x)(hb:fb ρ=.ok y)(hr:o x y=r):dY o fa fb ρ=r:=by simp only[dY,ha,hb,M.bind_ok];exact hr
theorem qN{F:List T->M T}{f:Pe->M T}{x t:T}(h:f ρ=.ok x)(hr:F [x]=.ok t):dW (dF f dM) F ρ=.ok t:=by simp only[dW,dF,dM,h,hr,M.bind_ok];rfl
theorem e7{F:List T->M T}{f g:Pe->M T}{x y t:T}(h:f ρ=.ok x)(h2:g ρ=.ok y)(hr:F [x,y]=.ok t):dW (dF f (dF g dM)) F ρ=.ok t:=by simp only[dW,dF,dM,h,h2,hr,M.bind_ok];rfl
theorem iN{F:List T->M T}{f g k:Pe->M T}{x y z t:T}(h:f ρ=.ok x)(h2:g ρ=.ok y)(h3:k ρ=.ok z)(hr:F [x,y,z]=.ok t):dW (dF f (dF g (dF k dM))) F ρ=.ok t:=by simp only[dW,dF,dM,h,h2,h3,hr,M.bind_ok];rfl
end
section
variable {ρ:Pe}{ts:List T}{F:List T->M (List T)}{f g k l:Pe->M T}{x y z u:T}
theorem FL(h:f ρ=.ok x)(hr:F [x]=.ok ts):gW (dF f dM) F ρ=.ok ts:=by simp only[gW,dF,dM,h,hr,M.bind_ok];rfl
theorem A5(h:f ρ=.ok x)(h2:g ρ=.ok y)(hr:F [x,y]=.ok ts):gW (dF f (dF g dM)) F ρ=.ok ts:=by simp only[gW,dF,dM,h,h2,hr,M.bind_ok];rfl
theorem DD(h:f ρ=.ok x)(h2:g ρ=.ok y)(h3:k ρ=.ok z)(hr:F [x,y,z]=.ok ts):gW (dF f (dF g (dF k dM))) F ρ=.ok ts:=by simp only[gW,dF,dM,h,h2,h3,hr,M.bind_ok];rfl
theorem DW(h:f ρ=.ok x)(h2:g ρ=.ok y)(h3:k ρ=.ok z)(h4:l ρ=.ok u)(hr:F [x,y,z,u]=.ok ts):gW (dF f (dF g (dF k (dF l dM)))) F ρ=.ok ts:=by simp only[gW,dF,dM,h,h2,h3,h4,hr,M.bind_ok];rfl
end
theorem pj{α β:Type}{fa fb:Pe->M T}{ρ:Pe}{x y:T}{l:List α}{m:List β}{f:α->T}{g:β->T}(ha:fa ρ=.ok x)(hx:seqT x=.ok (l.map f))(hb:fb ρ=.ok y)(hy:seqT y=.ok (m.map g)) :
  nz (dF fa (dF fb dM)) ρ=.ok ((l.zip m).map λp=>T.tup [f p.1,g p.2]):=by
 rw[<-Ap];simp only[nz,dF,dM,ha,hb,M.bind_ok,hx,hy]
end L3
namespace L3
open PySem L2 PySem.Spec PyProof.Rows
section
variable {K:W.Frag}{E:XK}{X:Cx}{a b c e o tg it:Expr}{es:List Expr}{ta tb tc te to:TE}{fa fb fc fe fo:Pe->M T}{tr:TA}{fr:Pe->M (List T)}{pos p p2 apos:Pos}
@[simp] noncomputable def qQ:List T->M T
 | [.int i,.int j]=>.ok (.int (if j<i then j else i))
 | _=>.bad
theorem yL(xs:List T):M.NoE (qQ xs):=λC n=>by unfold qQ;split<;>intro z<;>cases z
theorem BP:MC K (λxs H Q=>∃i j,xs=[.int i,.int j]/\Q (.int (if j<i then j else i)) H) qQ:=⟨yL,λF H vs xs Q s r q=>by
 cases r with
 | nil=>exact q.elim
 | cons h t=>
  cases t with
  | nil=>cases h<;>exact q.elim
  | cons h2 t=>
   cases t with
   | cons _ _=>cases h<;>first | exact q.elim | (cases h2<;>exact q.elim)
   | nil=>
    cases h with
    | int i=>
     cases h2 with
     | int j=>exact⟨i,j,rfl,kV.now q s (.int _)⟩
     | _=>exact q.elim
    | _=>exact q.elim⟩
end
section
variable {K:W.Frag}{E:XK}{X:Cx}{F0:Fz}{H0 F H:Hp}{σ:L2.St}{ρ:En}
end
def xi(K:W.Frag):Sp:=λvs H Q _=>∃(a:Addr) (ns:LI),vs=[.ref a]/\ig K H a (ns.map V.int)/\ns.length<=63/\(∀z∈ns,Builtin.Int.intBits z<=2 ^ 20)/\∀H',Q (.bl true) H'
theorem zJ{K:W.Frag}{F:List T->M T}(h:∀ns:LI,ns.length<=63->(∀z∈ns,Builtin.Int.intBits z<=2 ^ 20)->F [.scr ns]=.ok (.bl true))(vs:List V)(H:Hp)(Q:VK)(E:XK)(z:xi K vs H Q E):p0 K F vs H Q E:=by obtain⟨a,ns,rfl,hS,hl,hb,hq⟩:=z;refine⟨[.scr ns],H,λ_ _ x=>x,.cons (.scr hS) .nil,?_⟩;rw[h ns hl hb];intro v F' H' g r;cases r;exact hq _
theorem HD{P:Program}{w:World}{K:W.Frag}{mg:Str->Option Value}{base:Heap}{x:Str}{st:Stmt}{N ps:List Str}{k:Nat}{g:En->O}{f:Addr}{fd:FuncData}(F:A9 K x x st f fd)(S:fS N ps (dR st))
  (hT:∀(f:Addr) (cdv:Value) (A:Around) (outer:List Env) (s:Shared) (H:Hp) (E:XK),fO k (A.deeper (envOfC x (dR st) s.heap.objs.size f cdv))->∃t,lU K E (kD oU P w K mg base N x (dR st) f cdv A outer s H E).nox (eQ st) t g) :
  jB P w K mg base oU (k+1) f fd ps (p0 K (jE ps.length N.length g)):=
 F.ok S (λvs H Q E h=>uA h) λcdv A outer s H vs Q E hr h=>let ⟨t,hp⟩:=hT f cdv A outer s H E hr;⟨t,hp.ps,sA hp.ms h⟩
theorem Hc{l:W.OpenLaw}{q:Program}{k:Nat}{x:Str}{loose:List Str}{XP:(Str->Option Value)->Heap->Prop}{YP:World->Heap->Prop}{d:DefRec}{K:Params->W.Frag}(hn:l.most=some 63)(hr:fO k callerA)(hdf:d.params.defaults=[])
  (hY:∀(w:World) (h:Heap),YP w h->(K w.params).In h)
  (F:∀(w:World) (mg:Str->Option Value) (fa:Addr) (h:Heap),(K w.params).In h->h.Ns mainGlobals mg->mg d.name=some (.ref fa)->
   ∃fd:FuncData,(∀(s:Shared) (u:Value),BindsTo s fd ⟨[u],[]⟩ [(x,u)])/\∀base:Heap,(K w.params).In base->base.Ns mainGlobals mg->jB l.prog w (K w.params) mg base oU k fa fd [x] (xi (K w.params))) :
  W.WalkO q loose XP YP l.row.toRowW d [] (λf vs=>PySem.call f vs):=
 L2.yr (n:=63) (k:=k) (x:=x) (CX:=oU) (sp:=xi) hn (by decide) hdf hr hY F (λ_ _ a ns hl hb _ hS=>⟨a,ns,rfl,hS,hl,hb,λ_=>rfl⟩) λ_ _ _ _ z=>z
end L3
namespace L3
open PySem L2 PySem.Spec PyProof.Rows
section
variable {K:W.Frag}{E:XK}{t:TE}{f:Pe->M T}
def kO(K:W.Frag)(F H:Hp)(x:Addr)(Q:VK)(t:T):Prop:=∀F' H',eB F F'->eB F' H'->(∀a o,a≠x->H a=some o->H' a=some o)->(∀a,F' a≠none->F a≠none\/H a=none\/a=x\/∃xs,H a=some (.tup xs))->iz K F' (.ref x) t->Q .non H'
noncomputable def vC(K:W.Frag)(C:Addr)(Fn:List T->M T):Sp:=λvs H Q _=>∃x dx us ts F0,vs=.ref x::us/\H x=some (.ins C dx [])/\F0 x=none/\eB F0 H/\ek K F0 us ts/\(Fn ts).noEr.res (kO K F0 H x Q) (λ_ _=>False)
theorem AL{C:Addr}{tr:TA}{fr:Pe->M (List T)}{Fn:List T->M T}{E':XK}(ha:MA K E tr fr):ME K E (wR C (vC K C Fn) [] E' tr) (dW fr Fn):=λF H σ ρ Q s V q=>by
 refine ha.run s V q λts vs F1 H1 g1 r1 q1=>?_;intro x dx hx hdx hne;have hx':gC H1 dx (.own x) x=none:=by rw[ei (λz=>hne z.symm)];exact hx
 have s0:eB H1 (gC (gC H1 dx (.own x)) x (.ins C dx [])):=(nr hdx).trans (nr hx');refine⟨x,dx,vs,ts,F1,by rw[bC],d8,eJ g1.fh hx,g1.fh.trans s0,r1,?_⟩;cases e:Fn ts with
 | bad=>rw[e] at q1;exact q1.elim
 | er C n=>rw[e] at q1;exact q1.elim
 | ok t=>
  rw[e] at q1;intro F' H' a b c d r;refine⟨rfl,(q1:kV K F H Q t) (.ref x) F' H' ⟨g1.ff.trans a,b,λp o h=>?_,λp hp=>?_⟩ r⟩
  ·have h1:=g1.hh p o h;have hpx:p≠x:=λz=>by rw[z,hx] at h1;cases h1
   exact c p o hpx (s0 p o h1)
  ·rcases d p hp with z | z | z | ⟨xs,z⟩
   ·exact g1.nw p z
   ·exact .inr (.inl (eJ g1.hh (eJ s0 z)))
   ·rw[z];exact .inr (.inl (eJ g1.hh hx))
   ·cases y:H p with
    | none=>exact .inr (.inl rfl)
    | some o=>exact .inr (.inr ⟨xs,by rw[s0 p o (g1.hh p o y)] at z;exact z⟩)
noncomputable def qu(C:Addr)(n:Nat)(f1 f2:Str)(g1 g2:Pe->M T):List T->M T:=λts=>if ts.length=n then (g1 (none::ts.map some)).bind λa=>(g2 (none::ts.map some)).bind λb=>.ok (.obj C [(f1,a),(f2,b)]) else .bad
structure Ib(K:W.Frag)(E:XK)(X:Cx)(body:List Stmt)(f1 f2:Str)(g1 g2:Pe->M T):Prop where
 ex:∃(t1 t2:TE),uk X body (Bh (Ec K (kQ 0) t1 f1) (Ec K (kQ 0) t2 f2))/\ME K E t1 g1/\ME K E t2 g2
theorem HH{X:Cx}{o1 o2 a1 a2:Expr}{t1 t2:TE}{g1 g2:Pe->M T}{f1 f2:Str}{p1 p2 q1 q2:Pos}(hK:X.K=K)(o1v:PE X o1 (kQ 0))(h1:Pm K E X a1 t1 g1)(o2v:PE X o2 (kQ 0))(h2:Pm K E X a2 t2 g2)
  (hs1:swapsWith a1 (some (.Attribute o1 f1 p1)) q1.line X.env=pure false:=by rfl) (hs2:swapsWith a2 (some (.Attribute o2 f2 p2)) q2.line X.env=pure false:=by rfl) :
  Ib K E X [.Assign [.Attribute o1 f1 p1] a1 q1,.Assign [.Attribute o2 f2 p2] a2 q2] f1 f2 g1 g2:=by
 subst hK;exact⟨t1,t2,sR (zh o1v h1.pe hs1) (wG (zh o2v h2.pe hs2)),h1.me,h2.me⟩
theorem DN{P:Program}{w:World}{mg:Str->Option Value}{base:Heap}{x qual:Str}{C:Addr}{st:Stmt}{N:List Str}{k n:Nat}{f1 f2:Str}{g1 g2:Pe->M T}(cl:qB K C)(n1:iJ K C f1)(n2:iJ K C f2)(ne:f1≠f2)(D:gU K C "__init__" qual st)(S:fS N N (dR st))
  (mk:W.makesIn K C=true) (kp:W.keepIn K (.ref C)=true) (hm:mg x=some (.ref C)) (hN:N.length=n+1)
  (hb:∀(kV doc pm:Value) (an:Option Addr) (cdv ct:Value) (us:List Value),us.length=N.length->bindArgs (W.fnOf "__init__" qual (fY st) (eQ st) (dR st) .none kV doc pm an cdv ct) ⟨us,[]⟩=pure (N.zip us))
  (hT:∀(f:Addr) (cdv:Value) (A:Around) (outer:List Env) (s:Shared) (H:Hp) (E:XK),fO k (A.deeper (envOfC qual (dR st) s.heap.objs.size f cdv))->Ib K E (kD oU P w K mg base N qual (dR st) f cdv A outer s H E).nox (eQ st) f1 f2 g1 g2) :
  xn P w K mg base x C (k+1) (vC K C (qu C n f1 f2 g1 g2)):=by
 obtain⟨fi,fd,F,Mm⟩:=D.ex;refine⟨⟨fi,fd,N,F.ok S (λvs H Q E h=>?_) (λcdv A outer s H vs Q E hr h=>?_),⟨mk,Mm.at_,Mm.fn,kp⟩,F.binds hb⟩,hm⟩
 ·obtain⟨x,dx,us,ts,F0,rfl,hx,fx,s,r,q⟩:=h;unfold qu at q;by_cases hl:ts.length=n
  ·rw[ay,r.length,hl,hN]
  ·rw[aQ hl] at q;exact q.elim
 ·obtain⟨x,dx,us,ts,F0,rfl,hx,fx,s0,r,q⟩:=h;obtain⟨t1,t2,ps,m1,m2⟩:=(hT fi cdv A outer s H E hr).ex;refine⟨_,ps,?_⟩;unfold qu at q;by_cases hl:ts.length=n
  ·rw[aP hl] at q;have V:iE K F0 (i9 N (.ref x::us)) (none::ts.map some):=λi t e=>by
    cases i with
    | zero=>cases e
    | succ i=>
     rw[List.getElem?_cons_succ,av] at e;cases hq:ts[i]? with
     | none=>rw[hq] at e;cases e
     | some y=>rw[hq] at e;cases e;obtain⟨v,a,b⟩:=r.get hq;refine⟨v,?_,b⟩;unfold L2.i9;rw[List.getElem?_append_left (by rw[aw,ay];exact Nat.succ_lt_succ (aa.mp a).1),av,List.getElem?_cons_succ,a];rfl
   cases e1:g1 (none::ts.map some) with
   | bad=>rw[e1] at q;exact q.elim
   | er C n=>rw[e1] at q;exact q.elim
   | ok a=>
    rw[e1,L3.M.bind_ok] at q;cases e2:g2 (none::ts.map some) with
    | bad=>rw[e2] at q;exact q.elim
    | er C n=>rw[e2] at q;exact q.elim
    | ok b=>
     rw[e2,L3.M.bind_ok] at q;refine m1 F0 H _ _ _ s0 V ?_;rw[e1];intro v F1 H1 gr1 r1;have hx1:=gr1.hh _ _ hx;have fx1:F1 x=none:=by
      cases z:F1 x with
      | none=>rfl
      | some o=>
       rcases gr1.nw x (by rw[z];exact λy=>nomatch y) with y | y | ⟨_,y⟩
       ·exact absurd fx y
       ·rw[hx] at y;cases y
       ·rw[hx] at y;cases y
     refine⟨.ref x,rfl,x,C,dx,[],rfl,hx1,cl,n1,by show 0<1000;decide,?_⟩;have s1:eB F1 (gC H1 x (.ins C dx (kg f1 v []))):=λp o h=>by
      have hp:p≠x:=λz=>by rw[z,fx1] at h;cases h
      rw[ei hp];exact gr1.fh p o h
     refine m2 F1 _ _ _ _ s1 (V.mono gr1.ff) ?_;rw[e2];intro v2 F2 H3 gr2 r2;have hx3:=gr2.hh x _ d8;have fx2:F2 x=none:=by
      cases z:F2 x with
      | none=>rfl
      | some o=>
       rcases gr2.nw x (by rw[z];exact λy=>nomatch y) with y | y | ⟨_,y⟩
       ·exact absurd fx1 y
       ·rw[d8] at y;cases y
       ·rw[d8] at y;cases y
     refine⟨.ref x,rfl,x,C,dx,_,rfl,hx3,cl,n2,by show 1<1000;decide,?_⟩;have ep:kg f2 v2 (kg f1 v [])=[(f1,v),(f2,v2)]:=by show (if f1=f2 then _ else _)=_;rw[aQ ne];rfl
     have sF:eB F2 (gC F2 x (.ins C dx [(f1,v),(f2,v2)])):=nr fx2;refine (q:kO K F0 H x Q _) (gC F2 x (.ins C dx [(f1,v),(f2,v2)])) _ ((gr1.ff.trans gr2.ff).trans sF) (λp o h=>?_) (λp o hp h=>?_) (λp hp=>?_) (.obj d8 (.cons (r1.mono (gr2.ff.trans sF)) (.cons (r2.mono sF) .nil)))
     ·by_cases hp:p=x
      ·subst hp;rw[d8] at h;rw[d8,ep];exact h
      ·rw[ei hp] at h ⊢;exact gr2.fh p o h
     ·rw[ei hp];exact gr2.hh p o (by rw[ei hp];exact gr1.hh p o h)
     ·by_cases hpx:p=x
      ·exact .inr (.inr (.inl hpx))
      ·rw[ei hpx] at hp;rcases gr2.nw p hp with z | z | ⟨xs,z⟩
       ·rcases gr1.nw p z with y | y | y
        ·exact .inl y
        ·exact .inr (.inl y)
        ·exact .inr (.inr (.inr y))
       ·rw[ei hpx] at z;exact .inr (.inl (eJ gr1.hh z))
       ·rw[ei hpx] at z;cases y:H p with
        | none=>exact .inr (.inl rfl)
        | some o=>exact .inr (.inr (.inr ⟨xs,by rw[gr1.hh p o y] at z;exact z⟩))
  ·rw[aQ hl] at q;exact q.elim
end
section
variable {X:Cx}{K:W.Frag}{E:XK}{x m:Str}{C:Addr}{k:Nat}{Fn:List T->M T}{Ff:List T->M (List T)}{e o:Expr}{es:List Expr}{tr:TA}{fr:Pe->M (List T)}{ta:TE}{fa:Pe->M T}{p pos apos:Pos}
theorem AY{j:Nat}(h:xn X.prog X.w X.K X.mg X.base x C j (vC K C Fn))(hr:fO k X.A)(ha:uy K E X (e::es) tr fr)(hk:j+1<=k:=by decide)(hg:Gl X x:=by rfl)
  (hdb:(x == ("__debug__" : Str))=false:=by decide) (he:starEach (e::es) X.env=(false,eval e X.env)::starEach es X.env:=by rfl) (hpl:(backTo pos (starEach es X.env)).any (·.1)=false:=by rfl) :
  Pm K E X (.Call (.Name x p) (e::es) [] pos) (wR C (vC K C Fn) [] E0 tr) (dW fr Fn):=⟨G5 h (hr.mono hk) ha.pa hg hdb he hpl,AL ha.ma⟩
theorem yZ{pl:Sem Bool}{j:Nat}(h:iA X.prog X.w X.K X.mg X.base C m j (p0 K Fn))(hr:fO k X.A)(ho:Pm K E X o ta fa)(hk:j<=k:=by decide)
  (ht:eval (.Call (.Attribute o m apos) [] [] pos) X.env=(do
   let ov <-eval o X.env
   standAt apos.atName
   let (f,first) <-holding [ov] (getMethod ov m pl)
   callWith pos f first (backTo pos (starEach [] X.env)) (backToKw pos (keywordEach [] X.env))):=by rfl) :
  Pm K E X (.Call (.Attribute o m apos) [] [] pos) (qA C m (p0 K Fn) [] E0 ta qg) (nR C m fa dM Fn):=⟨yJ h (hr.mono hk) ho.pe ht,yC ho.me vz⟩
theorem EH{pl:Sem Bool}{j:Nat}(h:iA X.prog X.w X.K X.mg X.base C m j (uX K Ff))(hr:fO k X.A)(ho:Pm K E X o ta fa)(hk:j<=k:=by decide)
  (ht:eval (.Call (.Attribute o m apos) [] [] pos) X.env=(do
   let ov <-eval o X.env
   standAt apos.atName
   let (f,first) <-holding [ov] (getMethod ov m pl)
   callWith pos f first (backTo pos (starEach [] X.env)) (backToKw pos (keywordEach [] X.env))):=by rfl) :
  yA K E X (.Call (.Attribute o m apos) [] [] pos) (qA C m (uX K Ff) [] E0 ta qg) (oP C m fa dM Ff):=⟨yJ h (hr.mono hk) ho.pe ht,zk ho.me vz⟩
theorem v9{f:Str}(hK:X.K=K)(cl:qB K C)(na:iJ K C f)(h:Pm K E X e ta fa)(hb:attributeBase e f X.env (eval e X.env)=eval e X.env:=by rfl):Pm K E X (.Attribute e f pos) (E5 X.K ta f) (tz C f fa):=by subst hK;exact⟨DB h.pe hb,EV cl na h.me⟩
end
section
variable {P:Program}{w:World}{K:W.Frag}{mg:Str->Option Value}{base:Heap}{C:Addr}{m qual:Str}{st:Stmt}{N ps:List Str}{k:Nat}{g:En->O}
theorem GR(cl:qB K C)(D:gU K C m qual st)(S:fS N ps (dR st))
  (hb:∀(kV doc pm:Value) (an:Option Addr) (cdv ct:Value) (us:List Value),us.length=ps.length->bindArgs (W.fnOf m qual (fY st) (eQ st) (dR st) .none kV doc pm an cdv ct) ⟨us,[]⟩=pure (ps.zip us))
  (hT:∀(f:Addr) (cdv:Value) (A:Around) (outer:List Env) (s:Shared) (H:Hp) (E:XK),fO k (A.deeper (envOfC qual (dR st) s.heap.objs.size f cdv))->∃t,lU K E (kD oU P w K mg base N qual (dR st) f cdv A outer s H E).nox (eQ st) t g) :
  iA P w K mg base C m (k+1) (p0 K (jE ps.length N.length g)):=
 wz cl D S hb (λvs H Q E h=>uA h) λf cdv A outer s H vs Q E hr h=>let ⟨t,hp⟩:=hT f cdv A outer s H E hr;⟨t,hp.ps,sA hp.ms h⟩
theorem Gf(cl:qB K C)(D:gU K C m qual st)(S:fS N ps (dR st))
  (hb:∀(kV doc pm:Value) (an:Option Addr) (cdv ct:Value) (us:List Value),us.length=ps.length->bindArgs (W.fnOf m qual (fY st) (eQ st) (dR st) .none kV doc pm an cdv ct) ⟨us,[]⟩=pure (ps.zip us))
  (hT:∀(f:Addr) (cdv:Value) (A:Around) (outer:List Env) (s:Shared) (H:Hp) (E:XK),fO k (A.deeper (envOfC qual (dR st) s.heap.objs.size f cdv))->∃t,lU K E (kD oU P w K mg base N qual (dR st) f cdv A outer s H E).nox (eQ st) t g) :
  iA P w K mg base C m (k+1) (uX K (ux ps.length N.length g)):=
 wz cl D S hb (λvs H Q E h=>xf h) λf cdv A outer s H vs Q E hr h=>let ⟨t,hp⟩:=hT f cdv A outer s H E hr;⟨t,hp.ps,tX hp.ms h⟩
end
end L3
namespace L3
open PySem L2 PySem.Spec PyProof.Rows
section
variable {K:W.Frag}{E:XK}{X:Cx}{a tg:Expr}{tr:TA}{fr:Pe->M (List T)}{p p2 pos pos2:Pos}{F:Hp}
end
section
variable {K:W.Frag}{E:XK}{X:Cx}{F0:Fz}{H0 F H:Hp}{σ:L2.St}{ρ:En}{x:Str}{e:Expr}{pos pos' p pd:Pos}
end
section
variable {K:W.Frag}{E:XK}{X:Cx}{t:TE}
variable {e:Expr}{te:TE}{ff:Pe->M (List T)}{p apos pos pos':Pos}
end
end L3
namespace L3
open PySem L2 PySem.Spec PyProof.Rows
theorem ek.reverse{K:W.Frag}{F:Hp}:∀{vs:List V} {ts:List T},ek K F vs ts->ek K F vs.reverse ts.reverse
 | _,_,.nil=>.nil
 | _,_,.cons q r=>by rw[bQ,bQ];exact (ek.reverse r).append (.cons q .nil)
@[simp] noncomputable def Hs:T->T->M T
 | .tup ts,.int i=>if i = -1 then .ok (.tup ts.reverse) else .bad
 | .lst ts,.int i=>if i = -1 then .ok (.lst ts.reverse) else .bad
 | _,_=>.bad
section
variable {K:W.Frag}{E:XK}{X:Cx}{e st:Expr}{te ts:TE}{fe fs:Pe->M T}{p2 pos:Pos}
theorem Fo(he:Pm K E X e te fe)(hs:Pm K E X st ts fs)(hK:X.K=K:=by rfl):Pm K E X (.Subscript e (.Slice none none (some st) p2) pos) (Ir K te ts) (dY Hs fe fs):=by
 subst hK;refine⟨EM he.pe hs.pe,λF H σ ρ Q s V q=>?_⟩;refine he.me.run s V q λx v F1 H1 g1 r1 q1=>?_;refine hs.me.run (P:=kV X.K F H Q) g1.fh (V.mono g1.ff) q1 λy v2 F2 H2 g2 r2 q2=>?_;have g:=g1.trans g2;have r3:=r1.mono g2.ff;cases r2 with
 | int=>
  rename_i i;cases r3 with
  | lst h r=>
   have q':(if i = -1 then M.ok (T.lst _) else .bad).res (kV X.K F H Q) (kE E F2 H2):=q2;by_cases hi:i = -1
   ·rw[aP hi] at q';subst hi;exact⟨_,rfl,rfl,.inl ⟨_,_,rfl,ig.of (g2.fh _ _ h),λp hp=>(q':kV X.K F H Q _) (.ref p) _ _ (g.trans (.new g2.fh hp)) (.lst d8 (r.reverse.mono (Gr.new g2.fh hp).ff))⟩⟩
   ·rw[aQ hi] at q';exact q'.elim
  | tup h r=>
   have q':(if i = -1 then M.ok (T.tup _) else .bad).res (kV X.K F H Q) (kE E F2 H2):=q2;by_cases hi:i = -1
   ·rw[aP hi] at q';subst hi;exact⟨_,rfl,rfl,.inr ⟨_,_,rfl,iL.of (g2.fh _ _ h),λp hp=>(q':kV X.K F H Q _) (.ref p) _ _ (g.trans (.new g2.fh hp)) (.tup d8 (r.reverse.mono (Gr.new g2.fh hp).ff))⟩⟩
   ·rw[aQ hi] at q';exact q'.elim
  | _=>exact q2.elim
 | _=>cases r3<;>exact q2.elim
end
end L3
namespace L3
open PySem L2 PySem.Spec PyProof.Rows
section
variable {K:W.Frag}{E:XK}{X:Cx}{a b:Expr}{ta tb:TE}{fa fb:Pe->M T}{pos:Pos}
noncomputable def ue(neg:Bool):T->T->M T:=λx y=>match y with
 | .lst ts=>if ja x&&iR ts&&decide (qD x<=100) then .ok (.bl (if neg then !jb x ts else jb x ts)) else .bad
 | .tup ts=>if ja x&&iR ts&&decide (qD x<=100) then .ok (.bl (if neg then !jb x ts else jb x ts)) else .bad
 | _=>.bad
theorem ur{x:T}(hx:ja x=true):∀{ts:List T},iR ts=true->((kK ts).any λd=>PyData.eqv d (ls x))=jb x ts
 | [],_=>rfl
 | t::ts,h=>by rw[iR,bM] at h;have:=ur hx h.2;unfold jb at this ⊢;rw[kK,bP,bP,Ao t x h.1 hx,this]
theorem Cp{neg:Bool}(x y:T):M.NoE (ue neg x y):=λC n=>by unfold ue;split<;>first | (intro z;cases z;done) | (split<;>intro z<;>cases z)
theorem Ei(neg:Bool):MR K (BG K neg) (ue neg):=⟨Cp,λF H v w x y Q s ra rb q=>by
 have go:∀{p:Addr} {xs:List V} {ts:List T},ig K H p xs\/iL K H p xs->ek K F xs ts->(if ja x&&iR ts&&decide (qD x<=100) then M.ok (T.bl (if neg then !jb x ts else jb x ts)) else M.bad).res (kV K F H Q) (λ_ _=>False)->BG K neg v (.ref p) H Q:=λ{p xs ts} hp r q=>by
  by_cases h:(ja x&&iR ts&&decide (qD x<=100))=true
  ·rw[aP h] at q;simp only[bM,decide_eq_true_eq] at h;refine⟨ls x,kK ts,p,xs,rfl,hp,DV.same s (wQ ra h.1.1),rG.same s (sf r h.1.2),⟨oj x h.1.1,mT ts h.1.2,by rw[Ak];exact h.2⟩,?_⟩;rw[ur h.1.1 h.1.2];exact kV.now q s (.bl _)
  ·rw[aQ h] at q;exact q.elim
 cases rb with
 | lst h r=>exact go (.inl (ig.of (s _ _ h))) r q
 | tup h r=>exact go (.inr (iL.of (s _ _ h))) r q
 | _=>exact q.elim⟩
theorem vQ{k:Nat}(hr:fO k X.A)(ha:Pm K E X a ta fa)(hb:Pm K E X b tb fb)(hK:X.K=K:=by rfl)(hm:behindInMarks .NotIn b=false:=by rfl):uh K E X (.Compare a [.NotIn] [b] pos) (nJ (pU (BG K true) ta tb)) (fM (dY (ue true) fa fb)):=gK (hK▸xG (GQ hr)) (Ei true) ha hb hm
end
end L3
namespace L3
open PySem L2 PySem.Spec PyProof.Rows
section
variable {K:W.Frag}{E:XK}{X:Cx}{e:Expr}{es:List Expr}{tr:TA}{fr:Pe->M (List T)}{pos p apos:Pos}{pos':Pos}
end
end L3
namespace L3
open PySem L2 PySem.Spec PyProof.Rows
def Dx:Nat->(List Value->Prop)->Prop
 | 0,P=>P []
 | k+1,P=>∀v,Dx k λus=>P (v::us)
theorem lg:∀{k:Nat} {P:List Value->Prop},Dx k P->∀us:List Value,us.length=k->P us
 | 0,_,h,[],_=>h
 | k+1,_,h,v::us,e=>lg (h v) us (by simpa using e)
def Hm(X:Cx):Prop:=∀x,X.env.scope.names.lookup x=some .cell->∃c,X.env.cells.lookup x=some c
structure Zx(P:Program)(w:World)(K:W.Frag)(mg:Str->Option Value)(base:Heap):Prop where
 here:True
section
variable {P:Program}{w:World}{K:W.Frag}{mg:Str->Option Value}{base:Heap}
noncomputable abbrev CP(_:Zx P w K mg base)(x:Str)(k:Nat)(F:List T->M T):Prop:=iU P w K mg base x k (p0 K F)
noncomputable abbrev CF(_:Zx P w K mg base)(x:Str)(k:Nat)(F:List T->M (List T)):Prop:=iU P w K mg base x k (uX K F)
end
section
variable {P:Program}{w:World}{K:W.Frag}{mg:Str->Option Value}{base:Heap}{x m qual:Str}{C:Addr}{st:Stmt}{g:En->O}
noncomputable abbrev GO(P:Program)(w:World)(K:W.Frag)(mg:Str->Option Value)(base:Heap)(k:Nat)(qual:Str)(st:Stmt)(N:List Str)(g:En->O):Prop:=∀{f:Addr} {cdv:Value} {A:Around} {outer:List Env} {s:Shared} {H:Hp} {E:XK},N.Nodup->Hm (kD oU P w K mg base N qual (dR st) f cdv A outer s H E).nox->fO k (A.deeper (envOfC qual (dR st) s.heap.objs.size f cdv))->∃t,lU K E (kD oU P w K mg base N qual (dR st) f cdv A outer s H E).nox (eQ st) t g
abbrev Gq(x qual:Str)(st:Stmt)(ps:List Str):Prop:=∀(kV doc pm:Value) (an:Option Addr) (cdv ct:Value),Dx ps.length λus=>bindArgs (W.fnOf x qual (fY st) (eQ st) (dR st) .none kV doc pm an cdv ct) ⟨us,[]⟩=pure (ps.zip us)
theorem iw(_:Zx P w K mg base)(k:Nat)(F:List T->M T)(N ps:List Str)(e:F=jE ps.length N.length g)(D:dZ K mg x st)(hT:GO P w K mg base k x st N g)(S:fS N ps (dR st):=by constructor<;>first | rfl | decide +kernel)
  (hb:Gq x x st ps:=by first | exact λ_ _ _ _ _ _ _ _=>rfl | exact λ_ _ _ _ _ _ _=>rfl | exact λ_ _ _ _ _ _ _ _ _=>rfl | exact λ_ _ _ _ _ _ _ _ _ _=>rfl | exact λ_ _ _ _ _ _ _ _ _ _ _=>rfl | exact λ_ _ _ _ _ _=>rfl) :
  iU P w K mg base x (k+1) (p0 K F):=e▸Hv D S (λa b c d e f us hl=>lg (hb a b c d e f) us hl) λ_ _ _ _ _ _ _ r=>hT S.nd (λ_ h=>jw h) r
theorem t7(_:Zx P w K mg base)(k:Nat)(F:List T->M (List T))(N ps:List Str)(e:F=ux ps.length N.length g)(D:dZ K mg x st)(hT:GO P w K mg base k x st N g)(S:fS N ps (dR st):=by constructor<;>first | rfl | decide +kernel)
  (hb:Gq x x st ps:=by first | exact λ_ _ _ _ _ _ _ _=>rfl | exact λ_ _ _ _ _ _ _=>rfl | exact λ_ _ _ _ _ _ _ _ _=>rfl | exact λ_ _ _ _ _ _ _ _ _ _=>rfl | exact λ_ _ _ _ _ _ _ _ _ _ _=>rfl | exact λ_ _ _ _ _ _=>rfl) :
  iU P w K mg base x (k+1) (uX K F):=e▸Hw D S (λa b c d e f us hl=>lg (hb a b c d e f) us hl) λ_ _ _ _ _ _ _ r=>hT S.nd (λ_ h=>jw h) r
theorem Dl(_:Zx P w K mg base)(k:Nat)(F:List T->M T)(N ps:List Str)(e:F=jE ps.length N.length g)(cl:qB K C)(D:gU K C m qual st)(hT:GO P w K mg base k qual st N g)(S:fS N ps (dR st):=by constructor<;>first | rfl | decide +kernel)
  (hb:Gq m qual st ps:=by first | exact λ_ _ _ _ _ _ _=>rfl | exact λ_ _ _ _ _ _ _ _=>rfl | exact λ_ _ _ _ _ _ _ _ _=>rfl) :
  iA P w K mg base C m (k+1) (p0 K F):=e▸GR cl D S (λa b c d e f us hl=>lg (hb a b c d e f) us hl) λ_ _ _ _ _ _ _ r=>hT S.nd (λ_ h=>jw h) r
theorem E3(_:Zx P w K mg base)(k:Nat)(F:List T->M (List T))(N ps:List Str)(e:F=ux ps.length N.length g)(cl:qB K C)(D:gU K C m qual st)(hT:GO P w K mg base k qual st N g)(S:fS N ps (dR st):=by constructor<;>first | rfl | decide +kernel)
  (hb:Gq m qual st ps:=by first | exact λ_ _ _ _ _ _ _=>rfl | exact λ_ _ _ _ _ _ _ _=>rfl | exact λ_ _ _ _ _ _ _ _ _=>rfl) :
  iA P w K mg base C m (k+1) (uX K F):=e▸Gf cl D S (λa b c d e f us hl=>lg (hb a b c d e f) us hl) λ_ _ _ _ _ _ _ r=>hT S.nd (λ_ h=>jw h) r
theorem F7(_:Zx P w K mg base)(k:Nat)(F:List T->M T)(N ps:List Str)(e:F=jE ps.length N.length g){f:Addr}{fd:FuncData}(D:A9 K x x st f fd)(hT:GO P w K mg base k x st N g)(S:fS N ps (dR st):=by constructor<;>first | rfl | decide +kernel) :
  jB P w K mg base oU (k+1) f fd ps (p0 K F):=e▸HD D S λ_ _ _ _ _ _ _ r=>hT S.nd (λ_ h=>jw h) r
theorem HX(_:Zx P w K mg base)(k:Nat)(F:List T->M T)(N:List Str){n:Nat}{f1 f2:Str}{g1 g2:Pe->M T}(e:F=qu C n f1 f2 g1 g2)(cl:qB K C)(n1:iJ K C f1)(n2:iJ K C f2)(mk:W.makesIn K C=true)(kp:W.keepIn K (.ref C)=true)(hm:mg x=some (.ref C))(D:gU K C "__init__" qual st)
  (hT:∀{f:Addr} {cdv:Value} {A:Around} {outer:List Env} {s:Shared} {H:Hp} {E:XK},fO k (A.deeper (envOfC qual (dR st) s.heap.objs.size f cdv))->Ib K E (kD oU P w K mg base N qual (dR st) f cdv A outer s H E).nox (eQ st) f1 f2 g1 g2)
  (S:fS N N (dR st):=by constructor<;>first | rfl | decide +kernel) (hb:Gq "__init__" qual st N:=by exact λ_ _ _ _ _ _ _ _ _=>rfl) (ne:f1≠f2:=by decide) (hN:N.length=n+1:=by rfl) :
  xn P w K mg base x C (k+1) (vC K C F):=e▸DN cl n1 n2 ne D S mk kp hm hN (λa b c d e f us hl=>lg (hb a b c d e f) us hl) λ_ _ _ _ _ _ _ r=>hT r
end
section
variable {K:W.Frag}{E:XK}{X:Cx}{tg elt iter:Expr}{ifs:List Expr}{scope:Scope}{wi:TI}{g:TG}{tt:TT}{te:TE}{fe:Pe->M T}{fi:Pe->M (List T)}{m:T->Pe->Option Pe}{ft:Pe->M Bool}{pos:Pos}{x:Str}
noncomputable abbrev Iq(K:W.Frag)(X:Cx)(scope:Scope)(N:List Str)(tg elt:Expr)(ifs:List Expr)(g:TG)(tt:TT)(te:TE)(m:T->Pe->Option Pe)(ft:Pe->M Bool)(fe:Pe->M T):Prop:=∀{C s₃ H ex pn},N.Nodup->Hm (jh X N scope C s₃ H ex pn)->FP K (jh X N scope C s₃ H ex pn) tg g m/\zy K Bd (jh X N scope C s₃ H ex pn) ifs tt ft/\Pm K Bd (jh X N scope C s₃ H ex pn) elt te fe
theorem fW(N:List Str)(ix:List (Option Nat))(hX:Hm X)(hi:Cr K E X tg iter wi fi)(blk:Iq K X scope N tg elt ifs g tt te m ft fe)(hl:rN X.N X.env.scope scope N ix=true:=by rfl)(hgk:ke ix g:=by first | exact oK rfl | exact pH rfl rfl)(nd:N.Nodup:=by decide)(hc:X.calm=true:=by rfl)
  (hs:∀x,foldedSetIterable iter X.env x=pure x:=by intro _;rfl):yA K E X (.ListComp elt [⟨tg,iter,ifs,0⟩] scope pos) (zG ix wi g tt te) (iK ix fi m ft fe):=
 let L:=GG hX hl
 Gc hc hi L hgk (λ_ _ _ _ _=>blk nd (Aa L)) hs
theorem sq{gm:En->O}{spos py:Pos}(N:List Str)(ix:List (Option Nat))(i:Nat)(hN:X.N.Nodup)(hX:Hm X)(hi:Cr K E X tg iter wi fi)(blk:Iq K X scope N tg elt ifs g tt te m ft fe)
  (hm:MF K E (zG ix wi g tt te) (iK ix fi m ft fe)->MS K E (ki (zG ix wi g tt te) (gB i)) gm) (hl:rN X.N X.env.scope scope N ix=true:=by rfl) (hgk:ke ix g:=by first | exact oK rfl | exact pH rfl rfl) (nd:N.Nodup:=by decide) (hx:xI X.env.scope x:=by first | exact Or.inl rfl | exact Or.inr rfl) (hc:X.calm=true:=by rfl)
  (hy:X.N[i]? = some x:=by rfl) (hf:X.fn x=true\/X.env.scope.names.lookup x=some .local:=by first | exact .inl rfl | exact .inr rfl)
  (hsw:swapsWith (.ListComp elt [⟨tg,iter,ifs,0⟩] scope pos) (some (.Name x py)) spos.line X.env=pure true:=by rfl)
  (hs:∀x,foldedSetIterable iter X.env x=pure x:=by intro _;rfl):rD K E X (.Assign [.Name x py] (.ListComp elt [⟨tg,iter,ifs,0⟩] scope pos) spos) (ki (zG ix wi g tt te) (gB i)) gm:=
 let L:=GG hX hl
 Eg i hN hx hc hi L hgk (λ_ _ _ _ _=>blk nd (Aa L)) hm hy hf hsw hs
end
end L3
namespace L3
open PySem L2 PySem.Spec PyProof.Rows
section
variable {K:W.Frag}{E:XK}{X:Cx}{a e:Expr}{es:List Expr}{tr:TA}{fr:Pe->M (List T)}{pos p p2 pos2:Pos}
noncomputable def DQ:List T->M T
 | [.lst ts]=>match gY ts with
  | some ns=>if ns.length<64 then .ok (.int (FR ns:Int)) else .bad
  | none=>.bad
 | _=>.bad
@[simp] noncomputable def zX(fr:Pe->M (List T)):Pe->M T:=λρ=>(fr ρ).bind DQ
theorem Gn(ha:MA K E tr fr):ME K E (HM K tr) (zX fr):=λF H σ ρ Q s va q=>by
 refine ha.run s va q λxs ws F1 H1 g1 r1 q1=>?_;cases r1 with
 | nil=>exact q1.elim
 | cons h t=>
  cases t with
  | cons _ _=>cases h<;>exact q1.elim
  | nil=>
   cases h with
   | lst h r=>
    rename_i a xs ts;have q':(match gY ts with | some ns=>if ns.length<64 then M.ok (T.int (FR ns:Int)) else .bad | none=>.bad).res (kV K F H Q) (kE E F1 H1):=q1;cases hi:gY ts with
    | none=>rw[hi] at q';exact q'.elim
    | some ns=>
     rw[hi] at q';dsimp only at q';by_cases hl:ns.length<64
     ·rw[aP hl] at q';have e:=l3 hi;subst e;have e2:=r.ints;subst e2;exact⟨a,ns,rfl,ig.of (g1.fh _ _ h),hl,(q':kV K F H Q _) _ F1 H1 g1 (.int _)⟩
     ·rw[aQ hl] at q';exact q'.elim
   | _=>exact q1.elim
theorem Gk(hc:X.calm=true)(hm:X.mg "len" = none)(hm2:X.mg "set" = none)(ha:uy K E X [a] tr fr)(hK:X.K=K:=by rfl)(hg:Gl X "len" :=by rfl)(hg2:Gl X "set" :=by rfl)(hs:starEach [a] X.env=[(false,eval a X.env)]:=by rfl)
  (he:starEach [Expr.Call (.Name "set" p2) [a] [] pos2] X.env=[(false,eval (.Call (.Name "set" p2) [a] [] pos2) X.env)]:=by rfl) :
  Pm K E X (.Call (.Name "len" p) [.Call (.Name "set" p2) [a] [] pos2] [] pos) (HM K tr) (zX fr):=by
 subst hK;exact⟨BO hc hg hm hg2 hm2 ha.pa hs he,Gn ha.ma⟩
theorem xS{ns:LI}(h:ns.Nodup):FR ns=ns.length:=by
 have go:∀i,i<=ns.length->(firstMet (λi=>ns.getD i 0) i).length=i:=λi=>by
  induction i with
  | zero=>intro _;rfl
  | succ i ih=>
   intro hi;rw[firstMet_succ,step_length,ih (by omega),aQ];rw[firstMet_any];intro z;rw[List.any_eq_true] at z;obtain⟨x,hx,e⟩:=z;obtain⟨j,hj,rfl⟩:=aC.mp hx;have hj:=aR.mp hj;have e:ns.getD j 0=ns.getD i 0:=by simpa using e
   rw[af,af,ag (by omega:j<ns.length),ag (by omega:i<ns.length)] at e;have:=(List.getElem_inj h).mp (show ns[j]'(by omega)=ns[i]'(by omega) from e);omega
 exact go _ (aJ _)
end
end L3
namespace CL
open PySem L2 L3
structure Cs where
 Cutting:Addr
 Desk:Addr
 CutError:Addr
 NoCutting:Addr
 NoTable:Addr
 NoFraction:Addr
 NoSpot:Addr
 NoSigns:Addr
 NoLand:Addr
 NoFace:Addr
 NoNumber:Addr
 NoText:Addr
 NoDeed:Addr
def mC(c:Cs):En->O:=(ed (setO 2 (gJ (dY oF (dG 0) (dG 1))))
  (ed (setO 0 (gJ (dG 1)))
  (setO 1 (gJ (dG 2)))))
def nB(c:Cs):En->O:=(ed (λρ=>jd (fM (dY (eM true) (dG 1) (cM (.int 0)))) (mC c) ((λρ=>match ρ with | _::some (.p (.int j))::_=>j.natAbs+1 | _=>0) ρ) ρ)
  (eY (ji xq (dF (dG 0) dM))))
def eK(c:Cs):List T->M T:=jE 2 3 (nB c)
def Fv(c:Cs):En->O:=(ed (j7 (fM (dY (eM false) (dG 1) (cM (.int 0)))) (λ_=>.bad) fv)
  (ed (setO 2 (gJ (dW (dF (dG 0) (dF (dG 1) dM)) (eK c))))
  (ed (j7 (fM (dY DT (dG 1) (cM (.int 0)))) (setO 2 (gJ (qG (λi=>.int (-i)) (dG 2)))) fv)
  (eY (jt (dF (dY ko (dG 0) (dG 2)) (dF (dY ko (dG 1) (dG 2)) dM)))))))
def jy(c:Cs):List T->M T:=jE 2 3 (Fv c)
def FH(c:Cs):En->O:=(ed (j7 (fM (dY (eM false) (dY fC (dG 1) (cM (.int 0))) (cM (.int 0)))) (λ_=>.bad) fv)
  (eY (dW (dF (dY gH (dY fC (dG 0) (cM (.int 0))) (dY fC (dG 1) (cM (.int 1)))) (dF (dY gH (dY fC (dG 0) (cM (.int 1))) (dY fC (dG 1) (cM (.int 0)))) dM)) (jy c))))
def pA(c:Cs):List T->M T:=jE 2 2 (FH c)
def jS(c:Cs):En->O:=(ed (j7 (fM (dY DT (dG 1) (ji jF (dF (dG 0) dM)))) (eY (dY fC (dG 0) (dG 1))) fv)
  (eY (cM (.int 0))))
def eD(c:Cs):List T->M T:=jE 2 2 (jS c)
def BR(c:Cs):En->O:=(eY (dW (dF (dY xP (dY gH (dY fC (dG 0) (cM (.int 0))) (dY fC (dG 1) (cM (.int 1)))) (dY gH (dY fC (dG 1) (cM (.int 0))) (dY fC (dG 0) (cM (.int 1))))) (dF (dY gH (dY fC (dG 0) (cM (.int 1))) (dY fC (dG 1) (cM (.int 1)))) dM)) (jy c)))
def mq(c:Cs):List T->M T:=jE 2 2 (BR c)
def CW(c:Cs):En->O:=(eY (dW (dF (dY gH (dY fC (dG 0) (cM (.int 0))) (dY fC (dG 1) (cM (.int 0)))) (dF (dY gH (dY fC (dG 0) (cM (.int 1))) (dY fC (dG 1) (cM (.int 1)))) dM)) (jy c)))
def mR(c:Cs):List T->M T:=jE 2 2 (CW c)
def vk(c:Cs):En->O:=(eY (zY (pV "int" (dG 0)) (yQ (pV "bool" (dG 0)))))
def fJ(c:Cs):List T->M T:=jE 1 1 (vk c)
def pE(c:Cs):En->O:=(eY (zY (dW (dF (dG 0) dM) (fJ c)) (Dn Az DT (cM (.int 0)) (dG 0) (dG 1))))
def gI(c:Cs):List T->M T:=jE 2 2 (pE c)
def xv(c:Cs):En->O:=(ed (j7 (fM (dY Ia (dG 0) (cM (.int 0)))) (eY (cM (.int 1))) fv)
  (ed (j7 (fM (dY DT (dG 0) (cM (.int 0)))) (eY (qG (λi=>.int (-i)) (cM (.int 1)))) fv)
  (eY (cM (.int 0)))))
def jZ(c:Cs):List T->M T:=jE 1 1 (xv c)
def yj(c:Cs):En->O:=(eY (zY (dW (dF (dG 0) dM) (fJ c)) (Dn Az Az (cM (.int 1)) (dG 0) (cM (.int 3)))))
def jm(c:Cs):List T->M T:=jE 1 1 (yj c)
def nC(c:Cs):Pe->M T:=(dW (dF (dG 0) dM) (fJ c))
def nu(c:Cs):Pe->M T:=(dY (eM true) (dG 0) (cM (.int 0)))
def zI(c:Cs):En->O:=(ed (j7 (tq (kv (fM (pV "tuple" (dG 1)))) (fM (dY (eM true) (ji jF (dF (dG 1) dM)) (dY gx (dG 0) (cM (.int 1)))))) (eY (cM (.bl false))) fv)
  (ed (j7 (kv (fM (ji vn (dF (fE (iK [none] (fB (dG 1)) (iy 0) (λ_=>.ok true) (nC c))) dM)))) (eY (cM (.bl false))) fv)
  (eY (ji vR (dF (fE (iK [none] (fB (mj (dG 1) (λ_=>.ok none) (jM (dG 0)))) (iy 0) (λ_=>.ok true) (nu c))) dM)))))
def jX(c:Cs):List T->M T:=jE 2 2 (zI c)
def kU(c:Cs):En->O:=(setO 1 (gJ (dY gx (dG 1) (cM (.int 1)))))
def qi(c:Cs):En->O:=(ed (setO 1 (gJ (cM (.int 0))))
  (ed (λρ=>jd (fM (dY (eM false) (dY fC (dG 0) (dG 1)) (cM (.int 0)))) (kU c) ((λρ=>match ρ with | some (.p (.tup ts))::_=>ts.length+1 | _=>0) ρ) ρ)
  (eY (dG 1))))
def hW(c:Cs):List T->M T:=jE 1 2 (qi c)
def lM(c:Cs):Pe->M T:=(dY (eM false) (dY gH (dG 0) (dY fC (dG 2) (dG 3))) (dY gH (dG 1) (dY fC (dG 4) (dG 3))))
def r6(c:Cs):En->O:=(ed (setO 2 (gJ (dW (dF (dG 0) dM) (hW c))))
  (eY (ji vn (dF (fE (iK [none,none,some 1,some 2,some 0] (nz (dF (dG 0) (dF (dG 1) dM))) (nZ 2 (gR (iy 0) (gR (iy 1) n0))) (λ_=>.ok true) (lM c))) dM))))
def iD(c:Cs):List T->M T:=jE 2 3 (r6 c)
def j8(c:Cs):Pe->M T:=(dW (dF (dG 0) (dF (dG 1) dM)) (iD c))
def tT(c:Cs):En->O:=(ed (j7 (tq (fM (dY Dc (ji jF (dF (dG 1) dM)) (cM (.int 7)))) (kv (fM (dW (dF (dG 0) (dF (dG 2) dM)) (jX c))))) (eY (cM (.bl false))) fv)
  (eY (yQ (ji vR (dF (fE (iK [none,some 2] (fB (dG 1)) (iy 0) (λ_=>.ok true) (j8 c))) dM)))))
def iq(c:Cs):List T->M T:=jE 3 3 (tT c)
def kq(c:Cs):En->O:=(ed (j7 (kv (fM (dW (dF (dG 0) (dF (dG 2) (dF (dG 3) dM))) (iq c)))) (λ_=>.bad) fv)
  (kL 2 (gJ (ji gP (dF (dG 3) dM)))))
def pb(c:Cs):En->O:=(ed (j7 (tq (kv (fM (dW (dF (dG 0) dM) (jm c)))) (kv (fM (pV "list" (dG 1))))) (λ_=>.bad) fv)
  (ed (jY 2 (kG (lstM dM)))
  (ed (kJ (fB (dG 1)) (iY 3) (kq c))
  (eY (ji gP (dF (dG 2) dM))))))
def f6(c:Cs):List T->M T:=jE 2 4 (pb c)
def fj(c:Cs):List T->M T:=qu c.Cutting 2 "own_cuts" "own_dims" (dW (dF (dG 1) (dF (dG 2) dM)) (f6 c)) (dG 1)
def pQ(c:Cs):En->O:=(eY (tz c.Cutting "own_dims" (dG 0)))
def f7(c:Cs):List T->M T:=jE 1 1 (pQ c)
def pG(c:Cs):En->O:=(nS (zN j9 (dF (tz c.Cutting "own_cuts" (dG 0)) dM)))
def gh(c:Cs):List T->M (List T):=ux 1 1 (pG c)
def oQ(c:Cs):En->O:=(eY (ji jF (dF (tz c.Cutting "own_cuts" (dG 0)) dM)))
def f9(c:Cs):List T->M T:=jE 1 1 (oQ c)
def tu(c:Cs):En->O:=(setO 3 (gJ (dY ko (dG 3) (dG 2))))
def vG(c:Cs):En->O:=(ed (j7 (fM (dY Dc (dG 0) (dY nY (cM (.int 10)) (cM (.int 18))))) (ed (setO 3 (gJ (dG 0)))
  (ed (lx (iM (dF (dG 1) dM)) (iY 4) (tu c))
  (eY (dY oF (dG 3) (dG 2))))) fv)
  (ed (setO 5 (gJ (dY oF (dY gH (dY gx (dY gx (dY oF (dG 0) (cM (.int 1000000007))) (dY gH (cM (.int 1009)) (dG 1))) (cM (.int 17))) (cM (.int 69621))) (cM (.int 2147483647)))))
  (ed (setO 5 (gJ (dY oF (dY gx (dY gx (dY gH (dG 5) (dG 5)) (dY gH (cM (.int 40503)) (dG 1))) (cM (.int 5))) (cM (.int 2147483629)))))
  (eY (dY oF (dY ko (dY oF (dY gH (dG 5) (cM (.int 48271))) (cM (.int 2147483647))) (cM (.int 32))) (dG 2))))))
def eg(c:Cs):List T->M T:=jE 3 6 (vG c)
def nN(c:Cs):En->O:=(j7 (fM (dY (eM true) (dY gH (dY fC (dG 0) (dG 2)) (dY fC (dG 1) (dG 3))) (dY gH (dY fC (dG 0) (dG 3)) (dY fC (dG 1) (dG 2))))) (eY (cM (.bl false))) fv)
def nT(c:Cs):En->O:=(lx (iM (dF (dG 2) dM)) (iY 3) (nN c))
def vv(c:Cs):En->O:=(ed (lx (iM (dF (ji jF (dF (dG 0) dM)) dM)) (iY 2) (nT c))
  (eY (cM (.bl true))))
def ia(c:Cs):List T->M T:=jE 2 4 (vv c)
def oC(c:Cs):Pe->M T:=(dY xP (dW (dF (dG 1) (dF (dG 0) (dF (cM (.int 7)) dM))) (eg c)) (cM (.int 3)))
def oO(c:Cs):Pe->M T:=(dY gH (dG 0) (dG 1))
def pN(c:Cs):Pe->M T:=(dY gH (dG 0) (dG 1))
def qT(c:Cs):En->O:=(ed (jY 3 (kG (iK [none,some 0] (iM (dF (dG 1) dM)) (iy 0) (λ_=>.ok true) (oC c))))
  (ed (j7 (fM (dY (eM false) (dG 3) (fE (qf (fE (lstM (dF (cM (.int 0)) dM))) (dG 1))))) (oy 3 (lz (dW (dF (dG 0) (dF (cM (.int 4)) (dF (dG 1) dM))) (eg c))) (lz (dY gx (cM (.int 1)) (dW (dF (dG 0) (dF (cM (.int 5)) (dF (cM (.int 3)) dM))) (eg c))))) fv)
  (ed (setO 4 (gJ (dY xP (dW (dF (dG 0) (dF (cM (.int 6)) (dF (cM (.int 9)) dM))) (eg c)) (cM (.int 4)))))
  (ed (setO 5 (gJ (dW (dF (dG 0) (dF (cM (.int 7)) (dF (cM (.int 7)) dM))) (eg c))))
  (ed (j7 (m8 (fM (dY (eM false) (dG 5) (cM (.int 1)))) (fM (dY (eM true) (dG 2) (fE (lstM dM))))) (jY 3 (kG (zN j9 (dF (mj (dY fC (dG 2) (dW (dF (dG 0) (dF (cM (.int 8)) (dF (ji jF (dF (dG 2) dM)) dM))) (eg c))) (λ_=>.ok none) (jM (dG 1))) dM)))) fv)
  (ed (j7 (tq (fM (dY (eM false) (dG 5) (cM (.int 2)))) (fM (dY (eM false) (dG 5) (cM (.int 3))))) (setO 4 (lz (ji yx (dF (fE (iK [none,none] (nz (dF (dG 3) (dF (fE (lstM (dF (cM (.int 1)) (dF (cM (.int 2)) (dF (qG (λi=>.int (-i)) (cM (.int 1))) dM))))) dM))) (nZ 2 (gR (iy 0) (gR (iy 1) n0))) (λ_=>.ok true) (oO c))) dM)))) fv)
  (ed (j7 (fM (dY (eM false) (dG 5) (cM (.int 4)))) (ed (setO 6 (gJ (dY gH (dY gx (cM (.int 1)) (dW (dF (dG 0) (dF (cM (.int 9)) (dF (dY nY (cM (.int 10)) (cM (.int 6))) dM))) (eg c))) (dY fC (fE (lstM (dF (cM (.int 1)) (dF (cM (.int 1)) (dF (dY nY (cM (.int 10)) (cM (.int 18))) dM))))) (dW (dF (dG 0) (dF (cM (.int 11)) (dF (cM (.int 3)) dM))) (eg c))))))
  (ed (jY 3 (p6 (iK [none,some 6] (fB (dG 3)) (iy 0) (λ_=>.ok true) (pN c))))
  (setO 4 (gJ (dY gx (dY gH (dG 4) (dG 6)) (dW (dF (dG 0) (dF (cM (.int 10)) (dF (cM (.int 7)) dM))) (eg c))))))) fv)
  (eY (ji gP (dF (fE (oV (dG 3) (fE (lstM (dF (dG 4) dM))))) dM))))))))))
def jk(c:Cs):List T->M T:=jE 3 7 (qT c)
def kT(c:Cs):Pe->M T:=(dG 0)
def nV(c:Cs):En->O:=(ed (setO 6 (lz (dW (dF (dW (dF (dG 0) (dF (dY gx (dG 1) (dG 5)) dM)) (eD c)) (dF (dG 2) (dF (dG 4) dM))) (jk c))))
  (j7 (fM (dY (eM false) (fE (iK [none,some 6] (fB (dG 4)) (iy 0) (fM (dW (dF (dG 1) (dF (dG 0) dM)) (ia c))) (kT c))) (fE (lstM dM)))) (kL 4 (gJ (dG 6))) fv))
def vN(c:Cs):En->O:=(ed (jY 4 (kG (lstM dM)))
  (ed (lx (iM (dF (dG 3) dM)) (iY 5) (nV c))
  (mD 4)))
def ju(c:Cs):List T->M (List T):=ux 4 7 (vN c)
def qS(c:Cs):En->O:=(ed (setO 1 (gJ (dW (dF (dG 1) (dF (dG 2) dM)) (eK c))))
  (j7 (fM (dY (eM false) (dG 1) (cM (.int 1)))) (eY (dG 0)) fv))
def xA(c:Cs):Pe->M T:=(dY ko (dG 0) (dG 1))
def zl(c:Cs):En->O:=(ed (setO 1 (gJ (cM (.int 0))))
  (ed (kJ (fB (dG 0)) (iY 2) (qS c))
  (ed (j7 (fM (dY (eM false) (dG 1) (cM (.int 0)))) (eY (dG 0)) fv)
  (eY (ji gP (dF (fE (iK [none,some 1] (fB (dG 0)) (iy 0) (λ_=>.ok true) (xA c))) dM))))))
def jr(c:Cs):List T->M T:=jE 1 3 (zl c)
def vi(c:Cs):Pe->M T:=(dY gx (dY gH (dG 2) (dG 0)) (dY gH (dG 3) (dG 1)))
def xt(c:Cs):En->O:=(ed (j7 (fM (dY (eM false) (dY fC (dG 0) (dG 2)) (cM (.int 0)))) (eY (dG 0)) fv)
  (ed (setO 3 (gJ (ji xq (dF (dY fC (dG 1) (dG 2)) dM))))
  (ed (setO 4 (gJ (dY gH (qG (λi=>.int (-i)) (dY fC (dG 0) (dG 2))) (dW (dF (dY fC (dG 1) (dG 2)) dM) (jZ c)))))
  (eY (dW (dF (ji gP (dF (fE (iK [none,none,some 3,some 4] (nz (dF (dG 0) (dF (dG 1) dM))) (nZ 2 (gR (iy 0) (gR (iy 1) n0))) (λ_=>.ok true) (vi c))) dM)) dM) (jr c))))))
def gL(c:Cs):List T->M T:=jE 3 5 (xt c)
def nQ(c:Cs):En->O:=(ed (jY 4 (kG (qf (fE (lstM (dF (cM (.int 0)) dM))) (ji jF (dF (dG 0) dM)))))
  (ed (oy 4 (lz (dG 2)) (lz (cM (.int 1))))
  (kL 1 (lz (dY gx (dG 3) (ji gP (dF (dG 4) dM)))))))
def vm(c:Cs):En->O:=(ed (jY 1 (kG (lstM dM)))
  (ed (kJ (wg (dF (dG 0) dM)) (jG 2 (fu (iY 2) (fu (iY 3) jI))) (nQ c))
  (mD 1)))
def jo(c:Cs):List T->M (List T):=ux 1 5 (vm c)
def lR(c:Cs):En->O:=(setO 0 (gJ (dW (dF (dG 0) (dF (dG 3) (dF (dG 2) dM))) (gL c))))
def xY(c:Cs):En->O:=(ed (kJ (fB (dG 1)) (jG 2 (fu (iY 2) (fu (iY 3) jI))) (lR c))
  (eY (dG 0)))
def j3(c:Cs):List T->M T:=jE 2 4 (xY c)
def lK(c:Cs):Pe->M T:=(jt (dF (dG 0) (dF (dW (dF (dG 1) (dF (dG 2) (dF (dG 3) dM))) (gL c)) dM)))
def rm(c:Cs):En->O:=(nS (oV (fE (iK [none,none,some 1,some 2] (fB (dG 0)) (nZ 2 (gR (iy 0) (gR (iy 1) n0))) (λ_=>.ok true) (lK c))) (fE (lstM (dF (jt (dF (dG 2) (dF (dG 1) dM))) dM)))))
def gO(c:Cs):List T->M (List T):=ux 3 3 (rm c)
def jf(c:Cs):Pe->M T:=(dG 0)
def gX(c:Cs):En->O:=(ed (setO 5 (gJ (dW (dF (dG 4) (dF (dG 2) dM)) (j3 c))))
  (ed (setO 6 (gJ (fE (iK [none,some 5] (iM (dF (dG 1) dM)) (iy 0) (fM (dY (eM true) (dY fC (dG 1) (dG 0)) (cM (.int 0)))) (jf c)))))
  (j7 (fM (dY (eM false) (dG 6) (fE (lstM dM)))) (kL 3 (gJ (dG 5))) (setO 2 (gJ (fE (gW (dF (dG 2) (dF (dG 5) (dF (dY fC (dG 6) (cM (.int 0))) dM))) (gO c))))))))
def l4(c:Cs):En->O:=(ed (setO 2 (gJ (fE (lstM dM))))
  (ed (jY 3 (kG (lstM dM)))
  (ed (kJ (fB (dG 0)) (iY 4) (gX c))
  (eY (jt (dF (dG 2) (dF (dG 3) dM)))))))
def fK(c:Cs):List T->M T:=jE 2 7 (l4 c)
def oY(c:Cs):Pe->M T:=(dG 0)
def oX(c:Cs):Pe->M T:=(dG 0)
def p7(c:Cs):En->O:=(ed (setO 2 (gJ (fE (iK [none,none] (fB (dG 0)) (nZ 2 (gR (iy 0) (gR (iy 1) n0))) (λ_=>.ok true) (oY c)))))
  (nS (iK [none,some 2] (iM (dF (dG 1) dM)) (iy 0) (fM (dY (Ag true) (dG 0) (dG 1))) (oX c))))
def gZ(c:Cs):List T->M (List T):=ux 2 3 (p7 c)
def kY(c:Cs):En->O:=(setO 2 (gJ (dW (dF (dG 2) (dF (dW (dF (jt (dF (dG 3) (dF (cM (.int 1)) dM))) (dF (dG 4) dM)) (mR c)) dM)) (mq c))))
def vM(c:Cs):En->O:=(ed (setO 2 (gJ (jt (dF (dY fC (dG 0) (ji jF (dF (dG 1) dM))) (dF (cM (.int 1)) dM)))))
  (ed (kJ (nz (dF (dG 0) (dF (dG 1) dM))) (jG 2 (fu (iY 3) (fu (iY 4) jI))) (kY c))
  (eY (dG 2))))
def jD(c:Cs):List T->M T:=jE 2 5 (vM c)
def ni(c:Cs):En->O:=(oy 2 (lz (dG 3)) (lz (dW (dF (dW (dF (dG 4) (dF (dG 1) dM)) (jD c)) (dF (jt (dF (dY fC (dG 4) (dG 3)) (dF (cM (.int 1)) dM))) dM)) (pA c))))
def AN(c:Cs):En->O:=(ed (jY 2 (kG (zN j9 (dF (dG 1) dM))))
  (ed (kJ (fB (dG 0)) (jG 2 (fu (iY 3) (fu (iY 4) jI))) (ni c))
  (eY (ji gP (dF (dG 2) dM)))))
def kS(c:Cs):List T->M T:=jE 2 5 (AN c)
def mP(c:Cs):En->O:=(setO 1 (gJ (dY ko (dY gH (dG 1) (dY fC (dG 2) (cM (.int 1)))) (dW (dF (dG 1) (dF (dY fC (dG 2) (cM (.int 1))) dM)) (eK c)))))
def l9(c:Cs):Pe->M T:=(dY gH (dY fC (dG 0) (cM (.int 0))) (dY ko (dG 1) (dY fC (dG 0) (cM (.int 1)))))
def sT(c:Cs):En->O:=(ed (setO 1 (gJ (cM (.int 1))))
  (ed (kJ (fB (dG 0)) (iY 2) (mP c))
  (eY (dW (dF (ji gP (dF (fE (iK [none,some 1] (fB (dG 0)) (iy 0) (λ_=>.ok true) (l9 c))) dM)) dM) (jr c)))))
def i7(c:Cs):List T->M T:=jE 1 3 (sT c)
def kc(c:Cs):En->O:=(oy 3 (lz (dG 4)) (lz (dW (dF (qG (λi=>.int (-i)) (dY fC (dG 5) (dG 2))) (dF (dY fC (dG 5) (dG 4)) dM)) (jy c))))
def tV(c:Cs):En->O:=(ed (jY 3 (kG (qf (fE (lstM (dF (jt (dF (cM (.int 0)) (dF (cM (.int 1)) dM))) dM))) (dG 1))))
  (ed (oy 3 (lz (dG 2)) (lz (jt (dF (cM (.int 1)) (dF (cM (.int 1)) dM)))))
  (ed (kJ (fB (dG 0)) (jG 2 (fu (iY 4) (fu (iY 5) jI))) (kc c))
  (eY (dW (dF (dG 3) dM) (i7 c))))))
def ij(c:Cs):List T->M T:=jE 3 6 (tV c)
def pY(c:Cs):Pe->M T:=(dW (dF (dG 1) (dF (dG 2) (dF (dG 0) dM))) (ij c))
def rF(c:Cs):En->O:=(nS (iK [none,some 0,some 1] (fB (fE (gW (dF (dG 0) (dF (dG 1) dM)) (gZ c)))) (iy 0) (λ_=>.ok true) (pY c)))
def iB(c:Cs):List T->M (List T):=ux 2 2 (rF c)
def iC(c:Cs):Pe->M T:=(dW (dF (dG 0) (dF (nR c.Cutting "many" (dG 1) dM (f9 c)) dM)) (gI c))
def kC(c:Cs):En->O:=(ed (j7 (kv (fM (pV "list" (dG 1)))) (eY (cM (.bl false))) fv)
  (ed (j7 (kv (fM (ji vn (dF (fE (iK [none,some 0] (fB (dG 1)) (iy 0) (λ_=>.ok true) (iC c))) dM)))) (eY (cM (.bl false))) fv)
  (eY (dY (eM false) (zX (dF (dG 1) dM)) (ji jF (dF (dG 1) dM))))))
def eW(c:Cs):List T->M T:=jE 2 2 (kC c)
def wd(c:Cs):Pe->M T:=(dY fC (dG 1) (dG 0))
def si(c:Cs):En->O:=(j7 (fM (dY (eM true) (dY fC (dG 5) (dG 2)) (cM (.int 0)))) (eY (jt (dF (cM (.str "apart")) (dF (fE (zN j9 (dF (mj (dG 5) (jM (dY gx (dG 2) (cM (.int 1)))) (λ_=>.ok none)) dM))) dM)))) fv)
def AX(c:Cs):En->O:=(ed (j7 (kv (fM (dW (dF (dG 0) (dF (dG 1) dM)) (eW c)))) (λ_=>.bad) fv)
  (ed (setO 2 (gJ (nR c.Cutting "dims" (dG 0) dM (f7 c))))
  (ed (setO 3 (gJ (fE (oP c.Cutting "cuts" (dG 0) dM (gh c)))))
  (ed (setO 4 (gJ (dW (dF (fE (gW (dF (fE (iK [none,some 3] (fB (dG 1)) (iy 0) (λ_=>.ok true) (wd c))) dM) (jo c))) (dF (dG 2) dM)) (fK c))))
  (ed (kJ (fB (dY fC (dG 4) (cM (.int 1)))) (iY 5) (si c))
  (ed (setO 6 (gJ (dY fC (dG 4) (cM (.int 0)))))
  (eY (jt (dF (cM (.str "met")) (dF (dW (dF (dG 6) (dF (fE (qf (fE (lstM (dF (jt (dF (cM (.int 0)) (dF (cM (.int 1)) dM))) dM))) (dG 2))) dM)) (kS c)) (dF (fE (gW (dF (dG 6) (dF (dG 2) dM)) (iB c))) dM)))))))))))
def ny(c:Cs):List T->M T:=jE 2 7 (AX c)
def uQ(c:Cs):En->O:=(ed (setO 2 (gJ (dW (dF (dG 0) (dF (dG 1) dM)) (ny c))))
  (ed (j7 (fM (dY (eM false) (dY fC (dG 2) (cM (.int 0))) (cM (.str "apart")))) (eY (qG (λi=>.int (-i)) (cM (.int 1)))) fv)
  (eY (ji jF (dF (dY fC (dG 2) (cM (.int 2))) dM)))))
def gy(c:Cs):List T->M T:=jE 2 3 (uQ c)
def mV(c:Cs):Pe->M T:=(fE (oV (dG 1) (fE (lstM (dF (dG 0) dM)))))
def mJ(c:Cs):En->O:=(ed (setO 6 (gJ (FW (fM (dY (eM true) (dG 5) (fE (lstM dM)))) (dY gx (dY fC (dG 5) (qG (λi=>.int (-i)) (cM (.int 1)))) (cM (.int 1))) (cM (.int 0)))))
  (setO 4 (gJ (fE (oV (dG 4) (fE (iK [none,some 5] (tY (dF (dG 6) (dF (dG 0) dM))) (iy 0) (λ_=>.ok true) (mV c))))))))
def mv(c:Cs):Pe->M T:=(dG 0)
def my(c:Cs):En->O:=(ed (setO 4 (gJ (fE (lstM dM))))
  (ed (kJ (fB (dG 2)) (iY 5) (mJ c))
  (setO 2 (gJ (fE (oV (dG 2) (fE (iK [none,some 2] (fB (dG 4)) (iy 0) (fM (dY (ue true) (dG 0) (dG 1))) (mv c)))))))))
def tH(c:Cs):En->O:=(ed (setO 2 (gJ (fE (lstM (dF (fE (lstM dM)) dM)))))
  (ed (lx (iM (dF (dG 1) dM)) (iY 3) (my c))
  (eY (dG 2))))
def i5(c:Cs):List T->M T:=jE 2 7 (tH c)
def t6(c:Cs):Pe->M T:=(dY fC (fE (lstM (dF (cM (.int 2)) (dF (qG (λi=>.int (-i)) (cM (.int 1))) (dF (cM (.int 1)) (dF (qG (λi=>.int (-i)) (cM (.int 5))) dM)))))) (dW (dF (dW (dF (dG 1) (dF (cM (.int 8)) dM)) (eD c)) (dF (dG 0) (dF (cM (.int 4)) dM))) (eg c)))
def t9(c:Cs):Pe->M T:=(dY xP (dW (dF (dW (dF (dG 1) (dF (cM (.int 9)) dM)) (eD c)) (dF (dG 0) (dF (cM (.int 19)) dM))) (eg c)) (cM (.int 9)))
def sJ(c:Cs):Pe->M T:=(dY gH (dY fC (dG 1) (dG 2)) (dG 0))
def uc(c:Cs):Pe->M T:=(dY gH (dG 0) (dG 1))
def tF(c:Cs):En->O:=(ed (kL 5 (gJ (ji gP (dF (fE (iK [none,some 3,some 7] (fB (dY fC (dG 2) (dG 7))) (iy 0) (λ_=>.ok true) (sJ c))) dM))))
  (ed (setO 8 (gJ (ji yx (dF (fE (iK [none,none] (nz (dF (dY fC (dG 2) (dG 7)) (dF (dG 4) dM))) (nZ 2 (gR (iy 0) (gR (iy 1) n0))) (λ_=>.ok true) (uc c))) dM))))
  (kL 6 (gJ (dY gx (mj (dY fC (dG 2) (dG 7)) (λ_=>.ok none) (jM (dG 1))) (jt (dF (dY gx (dY fC (dY fC (dG 2) (dG 7)) (dG 1)) (dG 8)) dM)))))))
def pS(c:Cs):Pe->M T:=(dW (dF (dG 0) (dF (dG 1) dM)) (gy c))
def oE(c:Cs):En->O:=(ed (setO 12 (gJ (dW (dF (dG 9) (dF (dG 11) dM)) (gy c))))
  (ed (j7 (tq (fM (dY (eM true) (dW (dF (dG 9) (dF (dY Hs (dG 11) (qG (λi=>.int (-i)) (cM (.int 1)))) dM)) (gy c)) (dG 12))) (fM (dY (eM true) (fE (iK [none,some 11] (fB (dG 10)) (iy 0) (λ_=>.ok true) (pS c))) (fE (lstM (dF (dG 12) (dF (dG 12) dM))))))) (eY (cM (.bl false))) fv)
  (j7 (fM (dY (eM true) (dG 11) (fE (lstM dM)))) (ed (setO 13 (gJ (dW (dF (dG 9) (dF (mj (dG 11) (λ_=>.ok none) (jM (qG (λi=>.int (-i)) (cM (.int 1))))) dM)) (gy c))))
  (j7 (tq (m8 (fM (dY Dc (dG 12) (cM (.int 0)))) (kv (fM (Dn Az Az (dG 12) (dG 13) (dY gx (dG 12) (cM (.int 1))))))) (m8 (fM (dY DT (dG 13) (cM (.int 0)))) (fM (dY Dc (dG 12) (cM (.int 0)))))) (eY (cM (.bl false))) fv)) fv)))
def CI(c:Cs):En->O:=(ed (setO 1 (gJ (dY gx (cM (.int 1)) (dW (dF (dW (dF (dG 0) (dF (cM (.int 0)) dM)) (eD c)) (dF (cM (.int 0)) (dF (cM (.int 3)) dM))) (eg c)))))
  (ed (setO 2 (gJ (fE (gW (dF (dG 0) (dF (cM (.int 1)) (dF (dG 1) (dF (dY gx (cM (.int 1)) (dW (dF (dW (dF (dG 0) (dF (cM (.int 0)) dM)) (eD c)) (dF (cM (.int 1)) (dF (cM (.int 6)) dM))) (eg c))) dM)))) (ju c)))))
  (ed (setO 3 (gJ (fE (iK [none,some 0] (iM (dF (ji jF (dF (dG 2) dM)) dM)) (iy 0) (λ_=>.ok true) (t6 c)))))
  (ed (setO 4 (gJ (fE (iK [none,some 0] (iM (dF (dG 1) dM)) (iy 0) (λ_=>.ok true) (t9 c)))))
  (ed (jY 5 (kG (lstM dM)))
  (ed (jY 6 (kG (lstM dM)))
  (ed (lx (iM (dF (ji jF (dF (dG 2) dM)) dM)) (iY 7) (tF c))
  (ed (setO 9 (gJ (dW (dF (dG 1) (dF (dG 2) dM)) (fj c))))
  (ed (tQ 10 (p6 (lstM (dF (dW (dF (dG 1) (dF (dG 5) dM)) (fj c)) (dF (dW (dF (dG 1) (dF (dG 6) dM)) (fj c)) dM)))))
  (ed (kJ (fB (dW (dF (ji jF (dF (dG 2) dM)) (dF (ji qQ (dF (cM (.int 3)) (dF (dY gx (dG 1) (cM (.int 1))) dM))) dM)) (i5 c))) (iY 11) (oE c))
  (eY (cM (.bl true)))))))))))))
def og(c:Cs):List T->M T:=jE 1 14 (CI c)
variable {c:Cs}
theorem lV(ns:LI)(k:Nat):∃v,eD c [.scr ns,.int k]=.ok (.int v)/\(v=0\/v∈ns):=by
 by_cases h:(k:Int)<ns.length
 ·obtain⟨a,e,hm⟩:=vB ns k (by omega) h;exact⟨a,by simp[eD,jS,h,e],.inr hm⟩
 ·exact⟨0,by simp[eD,jS,h],.inl rfl⟩
theorem gD{i j:Int}(h:i.natAbs<2 ^ 64):gH (.int i) (.int j)=.ok (.int (i*j)):=fN (qo h)
theorem BC(cell:Int)(k:Nat)(b:Int)(hb:0<b)(hb2:b<2 ^ 62)(hk:k<=1000000):∃d,eg c [.int cell,.int (k:Int),.int b]=.ok (.int d)/\0<=d/\d<b:=by
 have hbn:b≠0:=by omega
 have fm:∀x:Int,0<=x.fmod b/\x.fmod b<b:=λx=>⟨cq x hb,cu x hb⟩;have e18:nY (.int 10) (.int 18)=.ok (.int 1000000000000000000):=by simp[nY,ir]
 by_cases h:(1000000000000000000:Int)<=cell
 ·obtain⟨ρ,e,v,w,rfl⟩:=fQ (m:=iY 4) (g:=setO 3 (gJ (dY ko (dG 3) (dG 2)))) (λ(i:Nat)=>T.int (i:Int)) (λ_ ρ=>∃v w,ρ=[some (.p (.int cell)),some (.p (.int k)),some (.p (.int b)),some (.p (.int v)),w,none])
   (List.range k) 0 [some (.p (.int cell)),some (.p (.int k)),some (.p (.int b)),some (.p (.int cell)),none,none] ⟨_,_,rfl⟩ (by rintro i a ρ ha ⟨v,w,rfl⟩;have hd:Builtin.divisionGoesByPylong v b=false:=Bn.noPy (n:=62) (by unfold Bn;omega) (by decide);exact⟨_,_,rfl,.inl (ee (by simp[jq hbn hd];rfl) rfl),_,_,rfl⟩)
  refine⟨v.fmod b,eP rfl ?_,fm v⟩;have hr':sG (k:Int)=true:=ip (by omega);refine jc (gd (by simp[e18,h]) (dP (ee (by simp) rfl) (dP (jL (by simp[hr',CA]) e) (eC (by simp[mN hbn]))))) rfl
 ·have m1:∀x y:Int,0<y->0<=x.fmod y/\x.fmod y<y:=λx y hy=>⟨cq x hy,cu x hy⟩;have a1:=m1 cell 1000000007 (by decide);have a2:=m1 ((cell.fmod 1000000007+1009*k+17)*69621) 2147483647 (by decide);generalize hs1:((cell.fmod 1000000007+1009*k+17)*69621).fmod 2147483647=s1 at a2;have a3:=m1 (s1*s1+40503*k+5) 2147483629 (by decide);generalize hs2:(s1*s1+40503*k+5).fmod 2147483629=s2 at a3;have hp:Builtin.divisionGoesByPylong ((s2*48271).fmod 2147483647) 32=false:=Bn.noPy (n:=62) (by unfold Bn;decide) (by decide);refine⟨(((s2*48271).fmod 2147483647).fdiv 32).fmod b,eP rfl ?_,fm _⟩;refine dP (eV (by simp[e18,h]) rfl) (dP (ee (t:=.int s1) ?_ rfl) (dP (ee (t:=.int s2) ?_ rfl) (eC ?_)))
  ·rw[<-hs1];simp[mN,gD (i:=1009) (j:=k) (by decide),gD (i:=cell.fmod 1000000007+1009*k+17) (j:=69621) (by omega)]
  ·rw[<-hs2];simp[mN,gD (i:=40503) (j:=k) (by decide),gD (i:=s1) (j:=s1) (by omega)]
  ·simp[mN,hbn,jq (j:=32) (by decide) hp,gD (i:=s2) (j:=48271) (by omega)]
def dr(c:Cs)(cell k b:Int):Int:=match eg c [.int cell,.int k,.int b] with
 | .ok (.int d)=>d
 | _=>0
theorem fZ(cell k b:Int)(hb:0<b)(hb2:b<2 ^ 62)(h0:0<=k)(hk:k<=1000000):eg c [.int cell,.int k,.int b]=.ok (.int (dr c cell k b))/\0<=dr c cell k b/\dr c cell k b<b:=by
 obtain⟨d,e,h1,h2⟩:=BC (c:=c) cell k.toNat b hb hb2 (by omega);rw[Int.toNat_of_nonneg h0] at e;have:dr c cell k b=d:=by unfold dr;rw[e]
 rw[this];exact⟨e,h1,h2⟩
theorem wV(l:LI)(i:Int)(h0:0<=i)(h1:i<l.length):∃w,fC (.lst (l.map T.int)) (.int i)=.ok (.int w)/\w∈l:=by obtain⟨a,e,hm⟩:=vB l i h0 h1;exact⟨a,by simp[mz,e],hm⟩
theorem Gh(i:Int):(if i<0 then -i else i)=(i.natAbs:Int):=by split<;>omega
theorem iH(a b:Int):eK c [.int a,.int b]=.ok (.int (Cu.G a b)):=by
 obtain⟨ρ,e,x,w,rfl,hx⟩:=lT (c:=fM (dY (eM true) (dG 1) (cM (.int 0)))) (g:=ed (setO 2 (gJ (dY oF (dG 0) (dG 1)))) (ed (setO 0 (gJ (dG 1))) (setO 1 (gJ (dG 2)))))
  (λρ=>∃x y w,ρ=[some (.p (.int x)),some (.p (.int y)),w]/\Cu.G x y=Cu.G a b) (λρ=>match ρ with | _::some (.p (.int j))::_=>j.natAbs | _=>0)
  (λρ=>∃x w,ρ=[some (.p (.int x)),some (.p (.int 0)),w]/\Cu.G x 0=Cu.G a b) (by
   rintro ρ ⟨x,y,w,rfl,h⟩;by_cases hy:y=0
   ·subst hy;exact .inl ⟨by simp,_,_,rfl,h⟩
   ·refine .inr ⟨by simp[hy],_,.inl (dP (ee (t:=.int (x.fmod y)) (by simp[mN hy]) rfl) (dP (ee (t:=.int y) (by simp) rfl) (ee (t:=.int (x.fmod y)) (by simp) rfl))),⟨y,x.fmod y,_,rfl,?_⟩,?_⟩
    ·rw[<-h];exact Cu.Ep x y
    ·exact Cu.yp x y hy)
  (b.natAbs+1) [some (.p (.int a)),some (.p (.int b)),none] ⟨a,b,none,rfl,rfl⟩ (bA _)
 refine eP rfl (dP (ρ':=[some (.p (.int x)),some (.p (.int 0)),w]) e (eC ?_));rw[Cu.zE] at hx;simp[Gh,hx]
theorem md{t g:Int}(hg:g ∣ t)(h0:g≠0):(t.fdiv g).natAbs<=t.natAbs:=by obtain⟨k,rfl⟩:=hg;rw[cz k h0,aX];exact Nat.le_mul_of_pos_left _ (by omega)
def FZ:T->Bool
 | .scr _=>false
 | .obj _ _=>false
 | _=>true
def isInt:T->Bool
 | .int _=>true
 | _=>false
theorem tP(x:T)(h:FZ x=true):fJ c [x]=.ok (.bl (isInt x)):=by cases x<;>first | (simp[FZ] at h;done) | rfl
theorem Bo(x:T)(h:FZ x=true):FB "tuple" x=.ok (.bl (mn x)):=by cases x<;>first | (simp[FZ] at h;done) | rfl
def xm(x:Int):Int:=if 0<x then 1 else if x<0 then -1 else 0
theorem yq(x:Int):-1<=xm x/\xm x<=1:=by unfold xm;split<;>(try split)<;>omega
theorem vt(x:Int):jZ c [.int x]=.ok (.int (xm x)):=by
 unfold xm;by_cases h:0<x
 ·rw[aP h];exact eP rfl (jc (gd (by simp[h]) (eC (by simp))) rfl)
 ·rw[aQ h];by_cases h2:x<0
  ·rw[aP h2];exact eP rfl (dP (eV (by simp[h]) rfl) (jc (gd (by simp[h2]) (eC (by simp))) rfl))
  ·rw[aQ h2];exact eP rfl (dP (eV (by simp[h]) rfl) (dP (eV (by simp[h2]) rfl) (eC (by simp))))
theorem oh(bs:List Bool):vn [.lst (bs.map T.bl)]=.ok (.bl (bs.all id)):=by simp
theorem wo(bs:List Bool):vR [.lst (bs.map T.bl)]=.ok (.bl (bs.any id)):=by simp
def lC(d:Nat):T->Bool
 | .tup ts=>decide (ts.length=d+1)&&ts.all isInt&&(match gY ts with | some ns=>(ns.take d).any (· != 0) | none=>false)
 | _=>false
theorem ud:∀(ts:List T),ts.all isInt=true->∃ns:LI,ts=ns.map T.int
 | [],_=>⟨[],rfl⟩
 | t::ts,h=>by
  rw[bO,bM] at h;obtain⟨ns,e⟩:=ud ts h.2;cases t with
  | int i=>exact⟨i::ns,by rw[e];rfl⟩
  | _=>simp[isInt] at h
theorem xH(d:Nat)(hd:d<=10)(x:T)(hx:FZ x=true)(hs:∀ts,x=.tup ts->ts.length<1000/\∀t∈ts,FZ t=true):jX c [.int d,x]=.ok (.bl (lC d x)):=by
 have sz:1000<sizeLine:=by decide
 by_cases ht:mn x=true
 ·cases x with
  | tup ts=>
   obtain⟨hl,hk⟩:=hs ts rfl;by_cases hn:ts.length=d+1
   ·have e1:iK [none] (fB (dG 1)) (iy 0) (λ_=>.ok true) (nC c) (vw (eT 2 [.int d,.tup ts]))=.ok ((ts.map isInt).map T.bl):=by rw[sx ts id (λt=>T.bl (isInt t)) (by simp) (by omega) λt ht=>⟨_,rfl,rfl,by simp[nC,tP t (hk t ht)]⟩];simp
    have e0:(L3.tq (L3.kv (fM (pV "tuple" (dG 1)))) (fM (dY (eM true) (ji jF (dF (dG 1) dM)) (dY gx (dG 0) (cM (.int 1)))))) (vw (eT 2 [.int d,.tup ts]))=.ok false:=by simp[hn]
    by_cases ha:ts.all isInt=true
    ·obtain⟨ns,rfl⟩:=ud ts ha;have hns:ns.length=d+1:=by simpa using hn
     have hb:lC d (.tup (ns.map T.int))=(ns.take d).any (· != 0):=by simp[lC,hns,ha]
     rw[hb];have e2:iK [none] (fB (mj (dG 1) (λ_=>.ok none) (jM (dG 0)))) (iy 0) (λ_=>.ok true) (nu c) (vw (eT 2 [.int d,.tup (ns.map T.int)]))=.ok (((ns.take d).map λn=>n != 0).map T.bl):=by rw[sx (ns.take d) T.int (λn=>T.bl (n != 0)) (Af (by rw[cC];exact pO rfl rfl (by simp;omega))) (by simp;omega) λn hn=>⟨_,rfl,rfl,by simp[nu,bne]⟩];rw[aH];rfl
     refine eP rfl (dP (eV e0 rfl) (dP (eV (lX (eN (mS e1 (oh _))) ?_) rfl) (eC (mS e2 ?_))))
     ·rw[b7];simpa using ha
     ·rw[wo,b8];rfl
    ·have hb:lC d (.tup ts)=false:=by simp[lC,ha]
     rw[hb];refine eP rfl (dP (eV e0 rfl) (jc (gd (lX (eN (mS e1 (oh _))) ?_) (eC rfl)) rfl));rw[b7];simpa using ha
   ·have hb:lC d (.tup ts)=false:=by simp[lC,hn]
    rw[hb];refine eP rfl (jc (gd ?_ (eC rfl)) rfl);have:¬((ts.length:Int)=(d:Int)+1):=by omega
    simp[this]
  | _=>simp[mn] at ht
 ·have hb:lC d x=false:=by cases x<;>first | rfl | (simp[mn] at ht;done)
  rw[hb];refine eP rfl (jc (gd ?_ (eC rfl)) rfl);have hf:mn x=false:=by simpa using ht
  have:=Bo x hx;rw[hf] at this;simp only[L3.tq,L3.kv,fM,pV,dG,vw,eT,bz,List.map_nil,List.cons_append,List.nil_append,List.getElem?_cons_succ,List.getElem?_cons_zero,Iu,M.bind_ok,this];rfl
theorem uK(d:Nat)(h:1<=d/\d<=3):jm c [.int d]=.ok (.bl true):=by
 have w:fJ c [.int d]=.ok (.bl true):=rfl;have h1:(1:Int)<=d:=by omega
 have h2:(d:Int)<=3:=by omega
 exact eP rfl (eC (by simp[w,h1,h2]))
theorem Hx(n:Nat):(List.replicate n [T.int 0]).flatten=(List.replicate n (0:Int)).map T.int:=by
 induction n with
 | zero=>rfl
 | succ n ih=>rw[bR,bS,ih,bR];rfl
theorem Di(n:Nat)(hn:n<=1000){f:Pe->M T}{ρ:Pe}(h:f ρ=.ok (.int (n:Int))):fE (qf (fE (lstM (dF (cM (.int 0)) dM))) f) ρ=.ok (.lst ((List.replicate n (0:Int)).map T.int)):=by
 have sz:1000<sizeLine:=by decide
 have hr:sG (n:Int)=true:=ip (by omega);have h1:1<=sizeLine:=by decide
 have h2:n<=sizeLine:=by omega
 simp[h,hr,h1,h2,Hx]
end CL
namespace L3
open PySem L2
theorem lZ{α:Type}{m:T->En->Option En}{g:En->O}(enc:α->T)(P:En->Prop)(p:α->Bool)(t:T):∀(l:List α) (ρ:En),P ρ->
  (∀a∈l,∀ρ,P ρ->∃ρ1,m (enc a) ρ=some ρ1/\(p a=true->∃ρ2,g ρ1=.nx ρ2/\P ρ2)/\(p a=false->g ρ1=.rt t))->
  (l.all p=true->∃ρ',gA m g (l.map enc) ρ=.nx ρ'/\P ρ')/\(l.all p=false->gA m g (l.map enc) ρ=.rt t)
 | [],ρ,h,_=>⟨λ_=>⟨ρ,rfl,h⟩,λh=>by simp at h⟩
 | a::l,ρ,h,st=>by
  obtain⟨ρ1,e1,h1,h2⟩:=st a (by simp) ρ h;rw[bz,gA,e1];dsimp only;cases hp:p a with
  | true=>obtain⟨ρ2,e2,q2⟩:=h1 hp;rw[e2];have ih:=lZ enc P p t l ρ2 q2 λb hb ρ hP=>st b (by simp[hb]) ρ hP;rw[bO,hp,Bool.true_and];exact ih
  | false=>rw[h2 hp,bO,hp,Bool.false_and];exact⟨λz=>(by cases z),λ_=>rfl⟩
end L3
namespace CL
open PySem L2 L3
variable {c:Cs}
theorem Jf(a b:Int):fC (fr (a,b)) (.int 0)=.ok (.int a):=rfl
theorem HW(a b:Int):fC (fr (a,b)) (.int 1)=.ok (.int b):=rfl
theorem sI(ns:LI):gY (ns.map T.int)=some ns:=by simp
theorem yO(ws:LI):yx [.lst (ws.map T.int)]=.ok (.int ws.sum):=by simp
end CL
namespace L3
open PySem L2
theorem px{α:Type}{m:T->En->Option En}{g:En->O}(enc:α->T)(P:Nat->En->Prop)(R:T->Prop):∀(l:List α) (k:Nat) (ρ:En),P k ρ->
  (∀i a ρ,l[i]? = some a->P (k+i) ρ->∃ρ1,m (enc a) ρ=some ρ1/\((∃ρ2,g ρ1=.nx ρ2/\P (k+i+1) ρ2)\/∃t,g ρ1=.rt t/\R t))->
  (∃ρ',gA m g (l.map enc) ρ=.nx ρ'/\P (k+l.length) ρ')\/∃t,gA m g (l.map enc) ρ=.rt t/\R t
 | [],k,ρ,h,_=>.inl ⟨ρ,rfl,h⟩
 | a::l,k,ρ,h,st=>by
  obtain⟨ρ1,e1,h1⟩:=st 0 a ρ rfl h;rw[bz,gA,e1];dsimp only;rcases h1 with⟨ρ2,e2,h2⟩ | ⟨t,e2,h2⟩
  ·rw[e2];rw[ay,show k+(l.length+1)=k+1+l.length by omega];exact px enc P R l (k+1) ρ2 h2 λi b ρ hb hP=>by have:=st (i+1) b ρ (by simpa using hb) (by rw[show k+(i+1)=k+1+i by omega];exact hP);rw[show k+1+i+1=k+(i+1)+1 by omega];exact this
  ·rw[e2];exact .inr ⟨t,rfl,h2⟩
end L3
namespace CL
open PySem L2 L3
variable {c:Cs}
theorem zp(S b:Int)(hS:0<S)(hb:0<b):0<(S*b).fdiv (Cu.G S b)/\S ∣ (S*b).fdiv (Cu.G S b)/\b ∣ (S*b).fdiv (Cu.G S b)/\((S*b).fdiv (Cu.G S b)).natAbs<=(S*b).natAbs:=by
 have hG:=Cu.wX S b (by omega);have h0:Cu.G S b≠0:=by omega
 obtain⟨u,hu⟩:=Cu.iO S b;obtain⟨v,hv⟩:=Cu.iu S b;have e1:(S*b).fdiv (Cu.G S b)=u*b:=by
  conv=>lhs;arg 1;rw[hu]
  rw[cw];exact cz _ h0
 have e2:u*b=S*v:=by
  conv=>lhs;rw[hv]
  conv=>rhs;rw[hu]
  ac_rfl
 have hu0:0<u:=by
  refine aN λhc=>?_;have hu1:u<=0:=by omega
  have:=cI hu1 (az hG);rw[<-hu,cJ] at this;omega
 refine⟨?_,?_,?_,md ?_ h0⟩
 ·rw[e1];exact aW hu0 hb
 ·rw[e1,e2];exact⟨v,rfl⟩
 ·rw[e1];exact⟨u,cy _ _⟩
 ·exact cK (Cu.iO S b) ⟨b,rfl⟩
theorem vE{α:Type}(l:List α)(k:Nat)(h:k<l.length):lu l (k:Int)=some l[k]:=by unfold lu qJ;rw[aP (by omega),aP (by omega)];simp[h]
theorem xl(l:LI)(k:Nat)(h:k<l.length):lu l (k:Int)=some (l.getD k 0):=by rw[vE l k h,af,ag h];rfl
theorem getD_mem(l:LI)(k:Nat)(h:k<l.length):l.getD k 0∈l:=by rw[af,ag h];exact aU h
theorem sg(l:LI)(k:Nat)(h:k<l.length):fC (.lst (l.map T.int)) (.int (k:Int))=.ok (.int (l.getD k 0)):=by simp[mz,xl l k h]
theorem gF(l:LI)(k:Nat)(h:k<l.length):fC (tI l) (.int (k:Int))=.ok (.int (l.getD k 0)):=by simp[tI,mz,xl l k h]
theorem GK(x:T)(xs:List T):fC (.lst (x::xs)) (.int 0)=.ok x:=by have h:=vE (x::xs) 0 (by simp);have h':lu (x::xs) (0:Int)=some x:=h;show (match lu (x::xs) (0:Int) with | some t=>M.ok t | none=>.bad)=_;rw[h']
theorem uN{ρ:Pe}{fa fb:Pe->M T}{a b:List T}(ha:fa ρ=.ok (.lst a))(hb:fb ρ=.ok (.lst b))(hz:a.length+b.length<=sizeLine):fE (oV fa fb) ρ=.ok (.lst (a++b)):=by simp only[fE,oV,ha,hb,M.bind_ok];rw[aP hz];rfl
theorem Ih(n:Nat)(x:T):(List.replicate n [x]).flatten=List.replicate n x:=by
 induction n with
 | zero=>rfl
 | succ n ih=>rw[bR,bS,ih,bR];rfl
end CL
namespace CL
abbrev Vc:=Nat->Int
inductive Qs(P:Vc->Prop):Vc->Prop
 | of {x:Vc}:P x->Qs P x
 | zero:Qs P λ_=>0
 | lin {x y z:Vc} {s a b:Int}:Qs P x->Qs P y->s≠0->(∀i,s*z i=a*x i+b*y i)->Qs P z
theorem Qs.sub{P P':Vc->Prop}(h:∀x,P x->Qs P' x){z:Vc}(q:Qs P z):Qs P' z:=by
 induction q with
 | of p=>exact h _ p
 | zero=>exact .zero
 | lin _ _ s e i1 i2=>exact .lin i1 i2 s e
theorem Qs.mono{P P':Vc->Prop}(h:∀x,P x->P' x){z:Vc}(q:Qs P z):Qs P' z:=q.sub λx p=>.of (h x p)
theorem Qs.comb{P:Vc->Prop}{x y:Vc}(a b:Int)(hx:Qs P x)(hy:Qs P y):Qs P λi=>a*x i+b*y i:=.lin (s:=1) hx hy (by decide) λi=>by rw[cL]
end CL
namespace CL
open PySem L2 L3
variable {c:Cs}
def vc(l:LI):Vc:=λi=>l.getD i 0
theorem m9(l:LI)(i:Nat)(h:l.length<=i):vc l i=0:=by unfold vc;rw[af,List.getElem?_eq_none h];rfl
theorem mW(l:LI)(i:Nat)(h:i<l.length):vc l i=l[i]:=by unfold vc;rw[af,ag h];rfl
def HL(ah:List (Nat×LI)):Vc->Prop:=λx=>∃p∈ah,x=vc p.2
theorem ie{α:Type}(l:List α)(k:Nat)(v:α)(h:l[k]? = some v):l.take (k+1)=l.take k++[v]:=by rw[List.take_succ,h];rfl
theorem wy{α:Type}(l:List α)(k:Nat)(v w:α)(h:l[k]? = some v):l.getD k w=v:=by rw[af,h];rfl
theorem uC{f:Pe->M T}{ρ:Pe}{i:Int}(h:f ρ=.ok (.int i)):qG (λi=>.int (-i)) f ρ=.ok (.int (-i)):=by simp only[qG,h,M.bind_ok]
theorem mX{n:Nat}:Bn n 0:=by unfold Bn;exact Nat.two_pow_pos _
theorem qZ(N:Nat)(hN:N<=8000)(row:LI)(hl:row.length<1000)(hb:∀x∈row,Bn N x):∃(g:Int) (ys:LI),0<g/\jr c [tI row]=.ok (tI ys)/\ys.length=row.length/\(∀i,vc row i=g*vc ys i)/\∀y∈ys,Bn N y:=by
 have sz:1000<sizeLine:=by decide
 have main:=px (m:=iY 2) (g:=qS c) T.int
  (λk ρ=>∃(dv:Int) (x2:Option W),ρ=[some (.p (tI row)),some (.p (.int dv)),x2]/\0<=dv/\Bn N dv/\∀x∈row.take k,dv ∣ x)
  (λt=>t=tI row) row 0 _ ⟨0,none,rfl,by decide,mX,λx hx=>by simp at hx⟩ (by
   rintro i x ρ hi ⟨dv,x2,rfl,h1,h2,h3⟩;rw[aF] at h3 ⊢;have hxm:=au hi;refine⟨_,rfl,?_⟩;have e1:setO 1 (gJ (dW (dF (dG 1) (dF (dG 2) dM)) (eK c))) [some (.p (tI row)),some (.p (.int dv)),some (.p (.int x))]=.nx [some (.p (tI row)),some (.p (.int (Cu.G dv x))),some (.p (.int x))]:=ee (e7 rfl rfl (iH dv x)) rfl;by_cases h:Cu.G dv x=1
   ·right;exact⟨_,dP e1 (gd (eN (dQ rfl rfl (by rw[fV,h];rfl))) (eC rfl)),rfl⟩
   ·left;refine⟨_,dP e1 (eV (eN (dQ rfl rfl (by rw[fV];simp[h]))) rfl),_,_,rfl,Cu.pR _ _,?_,λz hz=>?_⟩
    ·by_cases hx0:x=0
     ·rw[hx0,Cu.zE];exact cN (by omega) h2
     ·have q1:=Cu.EI dv x hx0;have q2:=Cu.pR dv x;exact cN (by omega) (hb x hxm)
    ·rw[ie row i x hi] at hz;rcases ai.mp hz with q | q
     ·exact cK (Cu.iO dv x) (h3 z q)
     ·rw[aj.mp q];exact Cu.iu dv x)
 rcases main with⟨ρ',e,dv,x2,rfl,h1,h2,h3⟩ | ⟨t,e,rfl⟩
 ·rw[aF,cO] at h3;by_cases h0:dv=0
  ·exact⟨1,row,by decide,eP rfl (dP (ee (t:=.int 0) rfl rfl) (dP (h8 rfl e) (jc (gd (eN (dQ rfl rfl (by rw[fV,h0];rfl))) (eC rfl)) rfl))),rfl,λi=>by rw[cL],hb⟩
  ·refine⟨dv,row.map (λx=>x.fdiv dv),by omega,eP rfl (dP (ee (t:=.int 0) rfl rfl) (dP (h8 rfl e) (dP (eV (eN (dQ rfl rfl (by rw[fV];simp[h0]))) rfl) (eC ?_)))),by simp,λi=>?_,λy hy=>?_⟩
   ·exact kx (t:=.lst ((row.map (λx=>x.fdiv dv)).map T.int)) (fI (gw row T.int (λx=>T.int (x.fdiv dv)) rfl (by omega) (λx hx=>⟨_,rfl,rfl,dQ rfl rfl (jq h0 (h2.noPy hN))⟩) (by rw[aH];rfl))) rfl
   ·by_cases hi:i<row.length
    ·rw[mW row i hi,mW _ i (by simpa using hi),cP];obtain⟨q,hq⟩:=h3 _ (aU hi);rw[hq,cz q h0]
    ·rw[m9 row i (by omega),m9 _ i (by simp;omega),cJ]
   ·obtain⟨x,hx,rfl⟩:=aC.mp hy;exact cN (md (h3 x hx) h0) (hb x hx)
 ·exact⟨1,row,by decide,eP rfl (dP (ee (t:=.int 0) rfl rfl) (jc (h8 rfl e) rfl)),rfl,λi=>by rw[cL],hb⟩
theorem nk{g x:Int}(hg:g≠0)(h:g*x=0):x=0:=by
 rcases Int.mul_eq_zero.mp h with z | z
 ·exact absurd z hg
 ·exact z
theorem Br(o:Int):xm o*o=(o.natAbs:Int):=by
 unfold xm;split
 ·rw[cL];omega
 ·split
  ·rw[cQ,cL];omega
  ·rw[cR];omega
def iT(p:Nat×LI):T:=.tup [.int (p.1:Int),tI p.2]
def sm:Nat->(Nat->Int)->Int
 | 0,_=>0
 | n+1,f=>f 0+sm n λi=>f (i+1)
theorem fz:∀(n:Nat) (f g:Nat->Int),(∀i,i<n->f i=g i)->sm n f=sm n g
 | 0,_,_,_=>rfl
 | n+1,f,g,h=>by rw[sm,sm,h 0 (by omega),fz n _ _ λi hi=>h (i+1) (by omega)]
theorem vI(a b:Int):∀(n:Nat) (f g:Nat->Int),sm n (λi=>a*f i+b*g i)=a*sm n f+b*sm n g
 | 0,_,_=>by simp[sm]
 | n+1,f,g=>by rw[sm,sm,sm,vI a b n (λi=>f (i+1)) λi=>g (i+1),cS,cS];omega
theorem nA(a:Int):∀(n:Nat) (f:Nat->Int),sm n (λi=>a*f i)=a*sm n f
 | 0,_=>by simp[sm]
 | n+1,f=>by rw[sm,sm,nA a n λi=>f (i+1),cS]
theorem lq:∀n:Nat,sm n (λ_=>0)=0
 | 0=>rfl
 | n+1=>by rw[sm,lq n];rfl
theorem uP:∀(n k:Nat) (f:Nat->Int),k<n->sm n (λi=>(if i=k then 1 else 0)*f i)=f k
 | 0,k,f,h=>absurd h (cD _)
 | n+1,0,f,h=>by rw[sm,aP rfl,cL,fz n _ (λ_=>0) (λi _=>by rw[aQ (by omega),cR]),lq,Int.add_zero]
 | n+1,k+1,f,h=>by rw[sm,aQ (by omega),cR,Int.zero_add,fz n _ (λi=>(if i=k then 1 else 0)*f (i+1)) (λi _=>by simp),uP n k (λi=>f (i+1)) (by omega)]
theorem Qs.at0{P:Vc->Prop}{k:Nat}(h:∀x,P x->x k=0){z:Vc}(q:Qs P z):z k=0:=by
 induction q with
 | of p=>exact h _ p
 | zero=>rfl
 | lin _ _ hs e i1 i2=>exact nk hs (by rw[e k,i1,i2,cJ,cJ];rfl)
theorem oR:∀(m:Nat) (l:List Nat),l.Nodup->(∀x∈l,x<m)->l.length<=m
 | 0,[],_,_=>aJ _
 | 0,x::l,_,h=>absurd (h x (bg ..)) (cD _)
 | m+1,l,hn,h=>by
  have h1:=oR m (l.erase m) (hn.erase m) λx hx=>by have q:=(hn.mem_erase_iff).mp hx;have:=h x q.2;have:=q.1;omega
  by_cases hm:m∈l
  ·rw[cT hm] at h1;omega
  ·rw[List.erase_of_not_mem hm] at h1;omega
theorem xg{ρ:Pe}{fa fb:Pe->M T}{a b:List T}(ha:fa ρ=.ok (.lst a))(hb:fb ρ=.ok (.lst b))(hz:a.length+b.length<=sizeLine):oV fa fb ρ=.ok (a++b):=by simp only[oV,ha,hb,M.bind_ok];rw[aP hz]
theorem AE{ρ:Pe}{f:Pe->M T}{a:T}(h:f ρ=.ok a):fE (lstM (dF f dM)) ρ=.ok (.lst [a]):=by
 have hz:1<=sizeLine:=by decide
 simp only[fE,lstM,dF,dM,h,M.bind_ok,rZ,ay,cU,hz,if_true]
theorem HF{ρ:Pe}{f:Pe->M T}{a:T}(h:f ρ=.ok a):jt (dF f dM) ρ=.ok (.tup [a]):=by
 have hz:1<=sizeLine:=by decide
 simp only[jt,dF,dM,h,M.bind_ok,rZ,ay,cU,hz,if_true]
theorem pX{ρ:Pe}{f g:Pe->M T}{a b:T}(h:f ρ=.ok a)(h2:g ρ=.ok b):jt (dF f (dF g dM)) ρ=.ok (.tup [a,b]):=by
 have hz:2<=sizeLine:=by decide
 simp only[jt,dF,dM,h,h2,M.bind_ok,rZ,ay,cU,hz,if_true]
theorem uV{ρ:Pe}{f:Pe->M (List T)}{ts:List T}(h:fE f ρ=.ok (.lst ts)):f ρ=.ok ts:=by
 unfold fE at h;cases hf:f ρ with
 | ok us=>rw[hf] at h;cases h;rfl
 | bad=>rw[hf] at h;cases h
 | er a b=>rw[hf] at h;cases h
theorem wF(a b:List T)(h:a.length+b.length<=sizeLine):gx (.tup a) (.tup b)=.ok (.tup (a++b)):=by unfold gx;exact aP h
theorem Em(a b:LI)(h:a.length+b.length<=1000):gx (tI a) (tI b)=.ok (tI (a++b)):=by
 have sz:1000<sizeLine:=by decide
 unfold tI;rw[wF _ _ (by simp;omega),aY]
theorem qe(pv:List (Nat×LI))(left:LI)(a:Nat)(f:Nat×LI->LI)(hl:pv.length<=100)(hf:∀p∈pv,gL c [tI p.2,tI left,.int (a:Int)]=.ok (tI (f p))) :
  gO c [.lst (pv.map iT),tI left,.int (a:Int)]=.ok ((pv.map (λp=>(p.1,f p))++[(a,left)]).map iT):=by
 have sz:1000<sizeLine:=by decide
 have e1:iK [none,none,some 1,some 2] (fB (dG 0)) (nZ 2 (gR (iy 0) (gR (iy 1) n0))) (λ_=>.ok true) (lK c) (vw (eT 3 [.lst (pv.map iT),tI left,.int (a:Int)]))=.ok ((pv.map (λp=>(p.1,f p))).map iT):=gw pv iT (λp=>iT (p.1,f p)) rfl (by omega) (λp hp=>⟨_,rfl,rfl,pX rfl (iN rfl rfl rfl (hf p hp))⟩) (by rw[aH];rfl)
 refine nG rfl (n8 ?_);rw[aY];exact xg (fI e1) (AE (pX rfl rfl)) (by simp;omega)
theorem m6{α β:Type}[Inhabited β]{P:α->β->Prop}(l:List α)(h:∀a∈l,∃b,P a b):∃f:α->β,∀a∈l,P a (f a):=⟨λa=>Classical.epsilon λb=>P a b,λa ha=>Classical.epsilon_spec (h a ha)⟩
theorem sZ(rows:LL)(hn:rows.length<=8)(hl:∀r∈rows,r.length<=100):jo c [.lst (rows.map tI)]=.ok ((rows.zipIdx.map λp=>p.1++(List.replicate rows.length (0:Int)).set p.2 1).map tI):=by
 have sz:1000<sizeLine:=by decide
 obtain⟨ρ,e,x2,x3,x4,rfl⟩:=fQ (m:=jG 2 (fu (iY 2) (fu (iY 3) jI))) (g:=nQ c) (λ(p:LI×Nat)=>T.tup [.int (p.2:Int),tI p.1])
  (λk ρ=>∃x2 x3 x4:Option W,ρ=[some (.p (.lst (rows.map tI))),some (.o (((rows.zipIdx.take k).map λp=>p.1++(List.replicate rows.length (0:Int)).set p.2 1).map tI)),x2,x3,x4])
  rows.zipIdx 0 _ ⟨none,none,none,rfl⟩ (by
   rintro i ⟨r,k⟩ ρ hi ⟨x2,x3,x4,rfl⟩;rw[aF];have hmem:=au hi;have hj2:=List.mem_zipIdx hmem;have hkl:k<rows.length:=by omega
   have hrl:r.length<=100:=hl r (by rw[hj2.2.2];exact aU _);have hil:i<rows.length:=by have:=(aa.mp hi).1;simpa using this
   have hix:qJ ((List.replicate rows.length (0:Int)).map T.int).length (k:Int)=some k:=by unfold qJ;rw[aP (by omega),aP (by rw[aw,bH];omega)];simp
   refine⟨_,_,rfl,.inl (dP (jx (ts:=(List.replicate rows.length (0:Int)).map T.int) (uV (Di rows.length (by omega) (kx rfl (by simp)))) rfl) (dP (oN (us:=(List.replicate rows.length (0:Int)).map T.int) (t:=.int 1) (j:=(k:Int)) (m:=k) rfl rfl rfl rfl hix rfl) (BW (t:=tI (r++(List.replicate rows.length (0:Int)).set k 1)) rfl ?_ (by simp) (by simp;omega) rfl))),some (.p (.int (k:Int))),some (.p (tI r)),some (.o (((List.replicate rows.length (0:Int)).map T.int).set k (.int 1))),?_⟩
   ·refine dQ (x:=tI r) (y:=tI ((List.replicate rows.length (0:Int)).set k 1)) rfl (kx (t:=.lst (((List.replicate rows.length (0:Int)).set k 1).map T.int)) ?_ rfl) (Em _ _ (by simp;omega));show (M.ok (T.lst (((List.replicate rows.length (0:Int)).map T.int).set k (.int 1))))=_;rw[<-cV]
   ·rw[ie _ i (r,k) hi,aY,aY];rfl)
 rw[aF,cO] at e;refine nG rfl (dP (jx (ts:=[]) (by simp) rfl) (dP (h8 ?_ e) rfl));rw[<-xE];rfl
end CL
namespace CL
def jg(m:Nat)(A u:Vc):Int:=sm m λi=>A i*u i
theorem rO{m:Nat}{A x y z:Vc}{s a b:Int}(h:∀i,s*z i=a*x i+b*y i):s*jg m A z=a*jg m A x+b*jg m A y:=by
 unfold jg;rw[<-nA,<-vI];refine fz m _ _ λi _=>?_;have:=h i;calc s*(A i*z i)=A i*(s*z i):=by rw[Int.mul_left_comm]
  _=A i*(a*x i+b*y i):=by rw[this]
  _=a*(A i*x i)+b*(A i*y i):=by grind
theorem oJ(m:Nat):∀(As:List Vc) (T:List Nat),T.Nodup->(∀t∈T,t<m)->As.length<T.length->∃v:Vc,(∃i,v i≠0)/\(∀i,i∉T->v i=0)/\∀A∈As,jg m A v=0
 | [],T,nd,ht,hl=>by
  cases T with
  | nil=>cases hl
  | cons t T=>refine⟨λi=>if i=t then 1 else 0,⟨t,by simp⟩,λi hi=>?_,λA hA=>nomatch hA⟩;have:i≠t:=λz=>hi (by simp[z]);simp[this]
 | A::As,T,nd,ht,hl=>by
  cases T with
  | nil=>cases hl
  | cons t T=>
   obtain⟨nd1,nd2⟩:=bE.mp nd;have hl':As.length<T.length:=by simp at hl;exact hl
   obtain⟨v1,⟨j,hj⟩,o1,e1⟩:=oJ m As T nd2 (λx hx=>ht x (by simp[hx])) hl';have hjT:j∈T:=aN λz=>hj (o1 j z);have lt2:As.length<((t::T).erase j).length:=by have hm:j∈t::T:=bh _ hjT;rw[cT hm,ay];exact hl'
   obtain⟨v2,⟨k,hk⟩,o2,e2⟩:=oJ m As ((t::T).erase j) (nd.erase j) (λx hx=>ht x (cW hx)) lt2;have v2j:v2 j=0:=o2 j (λz=>by rw[List.Nodup.mem_erase_iff nd] at z;exact z.1 rfl);by_cases hA:jg m A v2=0
   ·exact⟨v2,⟨k,hk⟩,λi hi=>o2 i (λz=>hi (cW z)),λB hB=>by
     rcases aE.mp hB with rfl | hB
     ·exact hA
     ·exact e2 B hB⟩
   ·refine⟨λi=>jg m A v2*v1 i - jg m A v1*v2 i,⟨j,?_⟩,λi hi=>?_,λB hB=>?_⟩
    ·dsimp only;rw[v2j];simp[hA,hj]
    ·show jg m A v2*v1 i - jg m A v1*v2 i=0;rw[o1 i (λz=>hi (by simp[z])),o2 i (λz=>hi (cW z))];simp
    ·have:=rO (m:=m) (A:=B) (x:=v1) (y:=v2) (z:=λi=>jg m A v2*v1 i - jg m A v1*v2 i) (s:=1) (a:=jg m A v2) (b:=-jg m A v1) (λi=>by grind);rcases aE.mp hB with rfl | hB
     ·rw[cL] at this;rw[this];grind
     ·rw[e1 B hB,e2 B hB] at this;simpa using this
end CL
namespace CL
open PySem L2 L3
variable {c:Cs}
def qv(p:Int×Int):Rat:=(p.1:Rat) / (p.2:Rat)
structure GF(A B:Nat)(p:Int×Int):Prop where
 pos:0<p.2
 one:Cu.G p.1 p.2=1
 b1:Bn A p.1
 b2:Bn B p.2
theorem GF.mono{A B A' B':Nat}{p:Int×Int}(h:GF A B p)(h1:A<=A')(h2:B<=B'):GF A' B' p:=⟨h.pos,h.one,h.b1.mono h1,h.b2.mono h2⟩
theorem Ba{i:Int}(h:i≠0):(i:Rat)≠0:=λz=>by
 have e:(i:Rat)=((0:Int):Rat):=by simpa using z
 exact h (Rat.intCast_inj.mp e)
theorem Gy(a:Int):Cu.G a 1=1:=by simp[Cu.G]
@[simp] theorem ot(p:Int×Int):fC (fr p) (.int 0)=.ok (.int p.1):=rfl
@[simp] theorem nO(p:Int×Int):fC (fr p) (.int 1)=.ok (.int p.2):=rfl
theorem mL(A B:Nat)(t b:Int)(hb:b≠0)(h1:Bn A t)(h2:Bn B b)(hB:B<=8000):∃p,jy c [.int t,.int b]=.ok (fr p)/\GF A B p/\qv p=(t:Rat) / (b:Rat):=by
 have hG:=Cu.wX t b hb;have hle:=Cu.EI t b hb;have hsm:∀x:Int,Builtin.divisionGoesByPylong x (if b<0 then -Cu.G t b else Cu.G t b)=false:=λx=>by refine Bn.noPy (n:=B) ?_ hB;unfold Bn at *;refine cN ?_ h2;split<;>omega
 have hn:(if b<0 then -Cu.G t b else Cu.G t b)≠0:=by split<;>omega
 have hd1:(if b<0 then -Cu.G t b else Cu.G t b) ∣ t:=by split<;>first | exact Int.neg_dvd.mpr (Cu.iO t b) | exact Cu.iO t b
 have hd2:(if b<0 then -Cu.G t b else Cu.G t b) ∣ b:=by split<;>first | exact Int.neg_dvd.mpr (Cu.iu t b) | exact Cu.iu t b
 have hl:=Cu.yK t b hb;refine⟨(t.fdiv (if b<0 then -Cu.G t b else Cu.G t b),b.fdiv (if b<0 then -Cu.G t b else Cu.G t b)),eP rfl (dP (eV (eN (dQ rfl rfl (by rw[fV];simp[hb]))) rfl) (dP (ee (e7 rfl rfl (iH t b)) rfl) (dP (ρ':=[some (.p (.int t)),some (.p (.int b)),some (.p (.int (if b<0 then -Cu.G t b else Cu.G t b)))]) ?_ (eC (pX (dQ rfl rfl (jq hn (hsm t))) (dQ rfl rfl (jq hn (hsm b)))))))),⟨hl.pos,hl.one,cN (md hd1 hn) h1,cN (md hd2 hn) h2⟩,?_⟩
 ·by_cases h:b<0
  ·exact gd (eN (dQ rfl rfl (by rw[mQ];simp[h]))) (ee (t:=.int (-Cu.G t b)) (uC rfl) (by simp[h]))
  ·exact eV (eN (dQ rfl rfl (by rw[mQ];simp[h]))) (by simp[h])
 ·have e:=hl.is;generalize t.fdiv (if b<0 then -Cu.G t b else Cu.G t b)=x at *;generalize hy:b.fdiv (if b<0 then -Cu.G t b else Cu.G t b)=y at *;have hp:0<y:=hl.pos;have e':(x:Rat)*(b:Rat)=(t:Rat)*(y:Rat):=by rw[<-cX,<-cX,e]
  have n1:=Ba hb;have n2:(y:Rat)≠0:=Ba (by omega);show (x:Rat) / (y:Rat)=_;grind
theorem xQ{A B A' B':Nat}{p r:Int×Int}(hp:GF A B p)(hr:GF A' B' r)(hB:B+B'<=8000)(hA:A<=20000)(hA':A'<=20000):∃s,mq c [fr p,fr r]=.ok (fr s)/\GF (max (A+B') (A'+B)+1) (B+B') s/\qv s=qv p - qv r:=by have hpp:=hp.pos;have hrp:=hr.pos;obtain⟨s,e,g,q⟩:=mL (c:=c) (max (A+B') (A'+B)+1) (B+B') (p.1*r.2 - r.1*p.2) (p.2*r.2) (cY (by omega) (by omega)) ((hp.b1.mul hr.b2).sub (hr.b1.mul hp.b2)) (hp.b2.mul hr.b2) hB;refine⟨s,eP rfl (eC (e7 (dQ (dQ (dQ rfl rfl (ot p)) (dQ rfl rfl (nO r)) (fN (hp.b1.ok hr.b2 (by omega) (by omega)))) (dQ (dQ rfl rfl (ot r)) (dQ rfl rfl (nO p)) (fN (hr.b1.ok hp.b2 (by omega) (by omega)))) (mr _ _)) (dQ (dQ rfl rfl (nO p)) (dQ rfl rfl (nO r)) (fN (hp.b2.ok hr.b2 (by omega) (by omega)))) e)),g,?_⟩;rw[q];have n1:(p.2:Rat)≠0:=Ba (by omega);have n2:(r.2:Rat)≠0:=Ba (by omega);unfold qv;simp only[Rat.intCast_sub,cX];grind
theorem uD{N A B:Nat}{k:Int}{r:Int×Int}(hk:Bn N k)(hr:GF A B r)(hB:B<=8000)(hN:N<=20000)(hA:A<=20000):∃s,mR c [fr (k,1),fr r]=.ok (fr s)/\GF (N+A) B s/\qv s=(k:Rat)*qv r:=by have hrp:=hr.pos;obtain⟨s,e,g,q⟩:=mL (c:=c) (N+A) B (k*r.1) (1*r.2) (by omega) (hk.mul hr.b1) (by rw[cL];exact hr.b2) hB;refine⟨s,eP rfl (eC (e7 (dQ (dQ rfl rfl (ot (k,1))) (dQ rfl rfl (ot r)) (fN (hk.ok hr.b1 (by omega) (by omega)))) (dQ (dQ rfl rfl (nO (k,1))) (dQ rfl rfl (nO r)) (fN (qo (show (1:Int).natAbs<2 ^ 64 by decide)))) e)),g,?_⟩;rw[q,cL];have n2:(r.2:Rat)≠0:=Ba (by omega);unfold qv;simp only[cX];grind
theorem yw{N A B:Nat}{k:Int}{r:Int×Int}(h0:k≠0)(hk:Bn N k)(hr:GF A B r)(hB:B+N<=8000)(hA:A<=20000):∃s,pA c [fr r,fr (k,1)]=.ok (fr s)/\GF A (B+N) s/\qv s=qv r / (k:Rat):=by have hrp:=hr.pos;obtain⟨s,e,g,q⟩:=mL (c:=c) A (B+N) (r.1*1) (r.2*k) (cY (by omega) h0) (by rw[bq];exact hr.b1) (hr.b2.mul hk) hB;refine⟨s,eP rfl (dP (eV (eN (dQ (dQ rfl rfl (ot (k,1))) rfl (by rw[fV];simp[h0]))) rfl) (eC (e7 (dQ (dQ rfl rfl (ot r)) (dQ rfl rfl (nO (k,1))) (fN (wa (show (1:Int).natAbs<2 ^ 64 by decide)))) (dQ (dQ rfl rfl (nO r)) (dQ rfl rfl (ot (k,1))) (fN (hr.b2.ok hk (by omega) (by omega)))) e))),g,?_⟩;rw[q,bq];have n1:=Ba h0;have n2:(r.2:Rat)≠0:=Ba (by omega);unfold qv;simp only[cX];grind
def nb(x:Int):Nat:=x.natAbs.log2+1
theorem De(x:Int):Bn (nb x) x:=Nat.lt_log2_self
theorem Dg{E:Nat}{x:Int}(h:Bn E x)(hE:1<=E):nb x<=E:=by
 unfold nb Bn at *;by_cases h0:x.natAbs=0
 ·rw[h0];simp;exact hE
 ·have:=(Nat.log2_lt h0).mpr h;omega
def wt(p:Int×Int):Nat:=max (nb p.1) (nb p.2)
def ky(s:List (Int×Int)):Nat:=(s.map wt).sum
structure Fq(p:Int×Int):Prop where
 pos:0<p.2
 one:Cu.G p.1 p.2=1
theorem Fq.gf{p:Int×Int}(h:Fq p):GF (wt p) (wt p) p:=⟨h.pos,h.one,(De _).mono (Nat.le_max_left _ _),(De _).mono (Nat.le_max_right _ _)⟩
theorem GF.fq{A B:Nat}{p:Int×Int}(h:GF A B p):Fq p:=⟨h.pos,h.one⟩
theorem GF.wt{A B E:Nat}{p:Int×Int}(h:GF A B p)(h1:A<=E)(h2:B<=E)(h3:1<=E):wt p<=E:=Nat.max_le.mpr ⟨Dg (h.b1.mono h1) h3,Dg (h.b2.mono h2) h3⟩
def GN(p:Int×(Int×Int)):T:=.tup [.int p.1,fr p.2]
theorem qP(x0 x1:Option W)(N:Nat)(hN:N<=8000):∀(ps:List (Int×(Int×Int))) (left:Int×Int) (B j:Nat) (x3 x4:Option W),j+ps.length<=100->(∀p∈ps,Bn N p.1/\Fq p.2)->B+ky (ps.map Prod.snd)<=8000->GF (N+B+j) B left->
  ∃(s:Int×Int) (y3 y4:Option W),gA (jG 2 (fu (iY 3) (fu (iY 4) jI))) (kY c) (ps.map GN) [x0,x1,some (.p (fr left)),x3,x4]=.nx [x0,x1,some (.p (fr s)),y3,y4]/\GF (N+(B+ky (ps.map Prod.snd))+(j+ps.length)) (B+ky (ps.map Prod.snd)) s/\
   qv s=qv left - (ps.map λp=>(p.1:Rat)*qv p.2).sum
 | [],left,B,j,x3,x4,_,_,_,hg=>⟨left,x3,x4,rfl,by simpa[ky] using hg,by simp;grind⟩
 | p::ps,left,B,j,x3,x4,hj,hp,hB,hg=>by
  obtain⟨h1,h2⟩:=hp p (by simp);have hB':B+wt p.2+ky (ps.map Prod.snd)<=8000:=by simp[ky] at hB ⊢;omega
  obtain⟨t,e1,g1,q1⟩:=uD (c:=c) h1 h2.gf (by omega) (by omega) (by omega);simp at hj;obtain⟨l2,e2,g2,q2⟩:=xQ (c:=c) hg g1 (by omega) (by omega) (by omega);have g3:GF (N+(B+wt p.2)+(j+1)) (B+wt p.2) l2:=g2.mono (by omega) (by omega);obtain⟨s,y3,y4,e,g,q⟩:=qP x0 x1 N hN ps l2 (B+wt p.2) (j+1) (some (.p (.int p.1))) (some (.p (fr p.2))) (by omega) (λr hr=>hp r (by simp[hr])) hB' g3;refine⟨s,y3,y4,?_,?_,?_⟩
  ·rw[bz,gA];have s1:(jG 2 (fu (iY 3) (fu (iY 4) jI))) (GN p) [x0,x1,some (.p (fr left)),x3,x4]=some [x0,x1,some (.p (fr left)),some (.p (.int p.1)),some (.p (fr p.2))]:=rfl;rw[s1];have s2:kY c [x0,x1,some (.p (fr left)),some (.p (.int p.1)),some (.p (fr p.2))]=.nx [x0,x1,some (.p (fr l2)),some (.p (.int p.1)),some (.p (fr p.2))]:=ee (e7 (x:=fr left) (y:=fr t) rfl (e7 (x:=fr (p.1,1)) (y:=fr p.2) (pX rfl rfl) rfl e1) e2) rfl;dsimp only;rw[s2];exact e
  ·have e1:B+wt p.2+ky (ps.map Prod.snd)=B+ky ((p::ps).map Prod.snd):=by simp[ky];omega
   rw[e1] at g;exact g.mono (by simp;omega) (aJ _)
  ·rw[q,q2,q1];simp only[bz,List.sum_cons];grind
def zU(row:LI)(s:List (Int×Int)):Rat:=((row.zip s).map λp=>(p.1:Rat)*qv p.2).sum
theorem tZ(N:Nat)(hN:N<=8000)(h1:1<=N)(row:LI)(s:List (Int×Int))(hl:s.length<row.length)(hs:s.length<=10)(hb:∀x∈row,Bn N x)(hq:∀p∈s,Fq p)(hB:1+ky s<=8000) :
  ∃r,jD c [tI row,.lst (s.map fr)]=.ok (fr r)/\GF (N+ky s+20) (1+ky s) r/\qv r=(vc row s.length:Rat) - zU row s:=by
 have sz:1000<sizeLine:=by decide
 have ix:fC (tI row) (.int (s.length:Int))=.ok (.int (vc row s.length)):=gF row s.length hl;have em:(row.zip s).map Prod.snd=s:=by rw[List.map_snd_zip];omega
 have hc:Bn N (vc row s.length):=hb _ (getD_mem row s.length hl);obtain⟨r,y3,y4,e,g,q⟩:=qP (c:=c) (some (.p (tI row))) (some (.p (.lst (s.map fr)))) N hN (row.zip s) (vc row s.length,1) 1 0 none none (by simp;omega) (λp hp=>⟨hb _ (aV hp).1,hq _ (aV hp).2⟩) (by rw[em];exact hB) ⟨show (0:Int)<1 by decide,Gy _,hc.mono (by omega),show Bn 1 1 by unfold Bn;decide⟩;rw[em] at g;refine⟨r,eP rfl (dP (ee (t:=fr (vc row s.length,1)) (pX (dQ rfl (kx (t:=.lst (s.map fr)) (r:=.ok (.int (s.length:Int))) rfl (by simp)) ?_) rfl) rfl) (dP (h8 (pj (f:=T.int) (g:=fr) rfl rfl rfl rfl) e) (eC rfl))),g.mono (by simp;omega) (aJ _),?_⟩
 ·exact ix
 ·rw[q];unfold zU;have:qv (vc row s.length,1)=(vc row s.length:Rat):=by unfold qv;simp;grind
  rw[this]
theorem uR{ρ:Pe}{fc fd:Pe->M Bool}(h:fc ρ=.ok false):m8 fc fd ρ=.ok false:=by simp only[L3.m8,h,M.bind_ok];rfl
theorem AQ{ρ:Pe}{fc fd:Pe->M Bool}{b:Bool}(h:fc ρ=.ok true)(h2:fd ρ=.ok b):m8 fc fd ρ=.ok b:=by simp only[L3.m8,h,h2,M.bind_ok];rfl
theorem sY(N M:Nat)(row other:LI)(a:Nat)(ha:a<row.length)(hl:other.length=row.length)(hs:row.length<1000)(hN:N+M+1<=8000)(hb:∀x∈row,Bn N x)(ho:∀x∈other,Bn M x)(hne:vc other a≠0) :
  ∃r,gL c [tI row,tI other,.int (a:Int)]=.ok (tI r)/\r.length=row.length/\(∀x∈r,Bn (N+M+1) x)/\vc r a=0/\∃g s b:Int,0<g/\0<s/\(∀i,g*vc r i=s*vc row i+b*vc other i)/\(vc row a≠0->s=((vc other a).natAbs:Int)/\b = -vc row a*xm (vc other a)):=by
 have sz:1000<sizeLine:=by decide
 have i1:fC (tI row) (.int (a:Int))=.ok (.int (vc row a)):=gF row a ha;have i2:fC (tI other) (.int (a:Int))=.ok (.int (vc other a)):=gF other a (by omega);have b1:Bn N (vc row a):=hb _ (getD_mem row a ha);have b2:Bn M (vc other a):=ho _ (getD_mem other a (by omega));by_cases h0:vc row a=0
 ·exact⟨row,eP rfl (jc (gd (eN (dQ (dQ rfl rfl i1) rfl (by rw[fV,h0];rfl))) (eC rfl)) rfl),rfl,λx hx=>(hb x hx).mono (by omega),h0,1,1,0,by decide,by decide,λi=>by omega,λz=>absurd h0 z⟩
 ·generalize hO:vc other a=o at *;generalize hX:vc row a=x0 at *;have ab:xq [.int o]=.ok (.int (o.natAbs:Int)):=by simp[Gh]
  let w:Int:=-x0*xm o;have hsg:=yq o;have bw:Bn N w:=by
   refine cN ?_ b1;show (-x0*xm o).natAbs<=_;rw[aX,cG];have:(xm o).natAbs<=1:=by omega
   exact aM (cZ _ this) (by omega)
  have bo:Bn M (o.natAbs:Int):=cN (by omega) b2;let ys:LI:=(row.zip other).map λp=>(o.natAbs:Int)*p.1+w*p.2;have hyl:ys.length=row.length:=by simp[ys,hl]
  have hyb:∀y∈ys,Bn (N+M+1) y:=λy hy=>by obtain⟨p,hp,rfl⟩:=aC.mp hy;exact ((bo.mul (hb _ (aV hp).1)).add (bw.mul (ho _ (aV hp).2))).mono (by omega)
  have hyv:∀i,vc ys i=(o.natAbs:Int)*vc row i+w*vc other i:=λi=>by
   by_cases hi:i<row.length
   ·rw[mW ys i (by omega),mW row i hi,mW other i (by omega)];simp[ys]
   ·rw[m9 ys i (by omega),m9 row i (by omega),m9 other i (by omega),cJ,cJ];rfl
  obtain⟨g,r,hg,er,hrl,hrv,hrb⟩:=qZ (c:=c) (N+M+1) hN ys (by omega) hyb;refine⟨r,eP rfl (dP (eV (eN (dQ (dQ rfl rfl i1) rfl (by rw[fV];simp[h0]))) rfl) (dP (ee (t:=.int (o.natAbs:Int)) (kx (dQ rfl rfl i2) ab) rfl) (dP (ee (t:=.int w) ?_ rfl) (eC (qN (x:=tI ys) ?_ er))))),by omega,hrb,?_,g,(o.natAbs:Int),w,hg,by omega,λi=>by rw[<-hrv i,hyv i],λ_=>⟨rfl,rfl⟩⟩
  ·refine dQ (x:=.int (-x0)) (y:=.int (xm o)) ?_ (qN (dQ rfl rfl i2) (vt o)) (fN ((b1.neg).ok (n:=2) ?_ (by omega) (by decide)))
   ·exact uC (dQ rfl rfl i1)
   ·unfold Bn;show _<4;omega
  ·refine kx (t:=.lst (ys.map T.int)) (fI (gw (row.zip other) (λp=>T.tup [.int p.1,.int p.2]) (λp=>T.int ((o.natAbs:Int)*p.1+w*p.2)) (pj rfl rfl rfl rfl) (by simp;omega) (λp hp=>⟨_,rfl,rfl,?_⟩) (by rw[aH];rfl))) rfl;exact dQ (dQ rfl rfl (fN (bo.ok (hb _ (aV hp).1) (by omega) (by omega)))) (dQ rfl rfl (fN (bw.ok (ho _ (aV hp).2) (by omega) (by omega)))) (gz _ _)
  ·refine nk (g:=g) (by omega) ?_;rw[<-hrv a,hyv a,hO,hX];show _ + -x0*xm o*o=_;rw[cw,Br,cQ,cy x0];omega
theorem lP(P:Vc->Prop)(x1:Option W)(L M:Nat)(hL:L<1000):∀(pv:List (Nat×LI)) (row:LI) (N:Nat) (x2 x3:Option W),N+pv.length*(M+1)<=8000->row.length=L->(∀x∈row,Bn N x)->(∀p∈pv,p.1<L/\p.2.length=L/\vc p.2 p.1≠0/\(∀x∈p.2,Bn M x)/\P (vc p.2))->pv.Pairwise (λp q=>vc q.2 p.1=0)->
  ∃(r:LI) (y2 y3:Option W),gA (jG 2 (fu (iY 2) (fu (iY 3) jI))) (lR c) (pv.map iT) [some (.p (tI row)),x1,x2,x3]=.nx [some (.p (tI r)),x1,y2,y3]/\r.length=L/\(∀x∈r,Bn (N+pv.length*(M+1)) x)/\
   (∃(g s:Int) (y:Vc),0<g/\0<s/\Qs P y/\∀i,g*vc r i=s*vc row i+1*y i)/\(∀k,vc row k=0->(∀p∈pv,vc p.2 k=0)->vc r k=0)/\∀p∈pv,vc r p.1=0
 | [],row,N,x2,x3,_,hl,hb,_,_=>⟨row,x2,x3,rfl,hl,λx hx=>(hb x hx).mono (by omega),⟨1,1,λ_=>0,by decide,by decide,.zero,λi=>by show 1*vc row i=1*vc row i+1*0;omega⟩,λk hk _=>hk,λp hp=>nomatch hp⟩
 | (a,prow)::pv,row,N,x2,x3,hN,hl,hb,hA,hw=>by
  obtain⟨h1,h2,h3,h4,h5⟩:=hA (a,prow) (bg ..);dsimp only at h1 h2 h3 h4 h5;obtain⟨w1,w2⟩:=List.pairwise_cons.mp hw;rw[ay,bV] at hN;obtain⟨r1,e1,c1,b1,z0,g1,s1,q1,hg1,hs1,v1,_⟩:=sY (c:=c) N M row prow a (by omega) (by omega) (by omega) (by omega) hb h4 h3;obtain⟨r,y2,y3,e,hrl,hrb,⟨g2,s2,y,hg2,hs2,hy,v2⟩,z1,z2⟩:=lP P x1 L M hL pv r1 (N+M+1) (some (.p (.int (a:Int)))) (some (.p (tI prow))) (by omega) (by rw[c1,hl]) b1 (λp hp=>hA p (bh _ hp)) w2;refine⟨r,y2,y3,?_,hrl,λx hx=>(hrb x hx).mono (by rw[ay,bV];omega),⟨g1*g2,s2*s1,_,aW hg1 hg2,aW hs2 hs1,Qs.comb (s2*q1) g1 (.of h5) hy,λi=>?_⟩,λk hk hp=>?_,λp hp=>?_⟩
  ·rw[bz,gA];have s1:(jG 2 (fu (iY 2) (fu (iY 3) jI))) (iT (a,prow)) [some (.p (tI row)),x1,x2,x3]=some [some (.p (tI row)),x1,some (.p (.int (a:Int))),some (.p (tI prow))]:=rfl;rw[s1];have s2:lR c [some (.p (tI row)),x1,some (.p (.int (a:Int))),some (.p (tI prow))]=.nx [some (.p (tI r1)),x1,some (.p (.int (a:Int))),some (.p (tI prow))]:=ee (iN rfl rfl rfl e1) rfl;dsimp only;rw[s2];exact e
  ·calc g1*g2*vc r i=g1*(g2*vc r i):=by ac_rfl
    _=s2*(g1*vc r1 i)+g1*y i:=by rw[v2 i,cL,cS];congr 1;ac_rfl
    _=_:=by rw[v1 i,cS];simp only[cL,cw,Int.add_assoc]
  ·refine z1 k (nk (g:=g1) (by omega) ?_) λp hp'=>hp p (bh _ hp');have:=hp (a,prow) (bg ..);dsimp only at this;rw[v1 k,hk,this,cJ,cJ];rfl
  ·rcases aE.mp hp with rfl | hp
   ·exact z1 _ z0 λq hq=>w1 q hq
   ·exact z2 p hp
theorem A1(P:Vc->Prop)(L M N:Nat)(hL:L<1000)(pv:List (Nat×LI))(row:LI)(hN:N+pv.length*(M+1)<=8000)(hl:row.length=L)(hb:∀x∈row,Bn N x)(hp:∀p∈pv,p.1<L/\p.2.length=L/\vc p.2 p.1≠0/\(∀x∈p.2,Bn M x)/\P (vc p.2))(hw:pv.Pairwise (λp q=>vc q.2 p.1=0)) :
  ∃r:LI,j3 c [tI row,.lst (pv.map iT)]=.ok (tI r)/\r.length=L/\(∀x∈r,Bn (N+pv.length*(M+1)) x)/\
   (∃(g s:Int) (y:Vc),0<g/\0<s/\Qs P y/\∀i,g*vc r i=s*vc row i+1*y i)/\∀p∈pv,vc r p.1=0:=by
 obtain⟨r,y2,y3,e,h1,h2,h3,-,h4⟩:=lP (c:=c) P (some (.p (.lst (pv.map iT)))) L M hL pv row N none none hN hl hb hp hw;exact⟨r,eP rfl (dP (h8 rfl e) (eC rfl)),h1,h2,h3,h4⟩
def kj(us:LL)(d:Nat)(x:Vc):Prop:=∀k,k<=d->x k=sm us.length λi=>x (d+1+i)*vc (us.getD i []) k
theorem kj.comb{us:LL}{d:Nat}{x y z:Vc}{g a b:Int}(hg:g≠0)(hx:kj us d x)(hy:kj us d y)(e:∀i,g*z i=a*x i+b*y i):kj us d z:=λk hk=>by refine c5 hg ?_;rw[e k,hx k hk,hy k hk,<-vI,<-nA];refine fz _ _ _ λi _=>?_;have:=e (d+1+i);rw[<-cw g,this];grind
theorem kj.zero{us:LL}{d:Nat}:kj us d λ_=>0:=λk _=>by
 have:(λi=>(0:Int)*vc (us.getD i []) k)=λ_=>0:=by funext i;simp
 rw[this,lq]
theorem kj.qs{us:LL}{d:Nat}{P:Vc->Prop}(h:∀x,P x->kj us d x){z:Vc}(q:Qs P z):kj us d z:=by
 induction q with
 | zero=>exact .zero
 | of p=>exact h _ p
 | lin _ _ hs e i1 i2=>exact i1.comb hs i2 e
def wr(us:LL)(k:Nat):LI:=us.getD k []++(List.replicate us.length (0:Int)).set k 1
theorem ug(us:LL)(d k:Nat)(hk:k<us.length)(hl:∀u∈us,u.length=d+1)(i:Nat):vc (wr us k) i=if i<d+1 then vc (us.getD k []) i else if i - (d+1)=k then 1 else 0:=by
 have hm:us.getD k []∈us:=by rw[af,ag hk];exact aU hk
 have hZ:=hl _ hm;unfold wr;generalize us.getD k []=u at *;unfold vc;rw[af,List.getElem?_append,hZ];split
 ·rw[af]
 ·rw[List.getElem?_set];split
  ·rename_i h;rw[aP h.symm];rw[bH];rw[aP (by omega)];rfl
  ·rename_i h;rw[aQ (λz=>h z.symm),List.getElem?_replicate];split<;>rfl
theorem Dz(us:LL)(d k:Nat)(hk:k<us.length)(hl:∀u∈us,u.length=d+1):(wr us k).length=d+1+us.length:=by
 have hm:us.getD k []∈us:=by rw[af,ag hk];exact aU hk
 have hZ:=hl _ hm;unfold wr;generalize us.getD k []=u at *;simp[hZ]
theorem GP{B:Nat}(hB:1<=B)(us:LL)(k:Nat)(hk:k<us.length)(hb:∀u∈us,∀x∈u,Bn B x):∀x∈wr us k,Bn B x:=λx hx=>by
 have hm:us.getD k []∈us:=by rw[af,ag hk];exact aU hk
 rcases ai.mp hx with h | h
 ·exact hb _ hm x h
 ·rcases c6 h with h | h
  ·rw[a9 h];exact mX
  ·rw[h];have:Bn 1 1:=by unfold Bn;decide
   exact this.mono hB
theorem Fm(us:LL)(d k:Nat)(hk:k<us.length)(hl:∀u∈us,u.length=d+1):kj us d (vc (wr us k)):=λp hp=>by
 rw[ug us d k hk hl p,aP (by omega)];have:(λi=>vc (wr us k) (d+1+i)*vc (us.getD i []) p)=λi=>(if i=k then 1 else 0)*vc (us.getD i []) p:=by funext i;rw[ug us d k hk hl (d+1+i),aQ (by omega),show d+1+i - (d+1)=i by omega]
 rw[this,uP _ k _ hk]
def Pq(B:Nat):Nat->Nat
 | 0=>0
 | k+1=>Pq B k+(B+k*(Pq B k+1))+1
theorem BY(B:Nat)(k:Nat):Pq B k<=Pq B (k+1):=by show _<=Pq B k+(B+k*(Pq B k+1))+1;omega
structure PV(us:LL)(d B:Nat)(dn:List Nat)(pv:List (Nat×LI))(rs:LL)(ix:List Nat):Prop where
 len:pv.length=ix.length
 pl:∀p∈pv,p.1<d/\p.2.length=d+1+us.length/\vc p.2 p.1≠0/\(∀x∈p.2,Bn (Pq B pv.length) x)/\kj us d (vc p.2)/\∀i,i∉ix->vc p.2 (d+1+i)=0
 pw:pv.Pairwise λp q=>p.1≠q.1/\vc q.2 p.1=0/\vc p.2 q.1=0
 rr:∀r∈rs,r.length=d+1+us.length/\(∀k,k<d->vc r k=0)/\kj us d (vc r)/\(∀i,i∉dn->vc r (d+1+i)=0)/\∀x∈r,Bn (B+d*(Pq B d+1)) x
 sub:∀i∈ix,i∈dn
 sp:∀z∈dn,Qs (λx=>(∃p∈pv,x=vc p.2)\/∃r∈rs,x=vc r) (vc (wr us z))
theorem PV.short{us:LL}{d B:Nat}{dn:List Nat}{pv:List (Nat×LI)}{rs:LL}{ix:List Nat}(h:PV us d B dn pv rs ix):pv.length<=d:=by
 have nd:(pv.map Prod.fst).Nodup:=c7.mpr (h.pw.imp λq=>q.1);have:=oR d (pv.map Prod.fst) nd λx hx=>by obtain⟨p,hp,rfl⟩:=aC.mp hx;exact (h.pl p hp).1
 simpa using this
theorem tE{B k d:Nat}(h:k<=d):Pq B k<=Pq B d:=by
 induction h with
 | refl=>exact aJ _
 | step _ ih=>exact aM ih (BY B _)
theorem Qs.at_zero{P:Vc->Prop}{k:Nat}(h:∀x,P x->x k=0){z:Vc}(q:Qs P z):z k=0:=Qs.at0 h q
theorem Bi{us:LL}{d B:Nat}{dn:List Nat}{pv:List (Nat×LI)}{rs:LL}{ix:List Nat}(h:PV us d B dn pv rs ix){z:Nat}{left:LI}(hz:kj us d (vc (wr us z)))(hw:∀i,i≠z->vc (wr us z) (d+1+i)=0){g s:Int}{y:Vc}(hg:0<g)(hs:0<s)(hy:Qs (HL pv) y)(e:∀i,g*vc left i=s*vc (wr us z) i+1*y i)
  (hl:left.length=d+1+us.length) (h0:∀k,k<d->vc left k=0) (hb:∀x∈left,Bn (B+d*(Pq B d+1)) x):PV us d B (dn++[z]) pv (rs++[left]) ix:=by
 have ly:kj us d y:=kj.qs (λx ⟨p,hp,ex⟩=>by rw[ex];exact (h.pl p hp).2.2.2.2.1) hy;refine⟨h.len,h.pl,h.pw,λr hr=>?_,λi hi=>ax _ (h.sub i hi),λz' hz'=>?_⟩
 ·rcases ai.mp hr with hr | hr
  ·obtain⟨a1,a2,a3,a4,a5⟩:=h.rr r hr;exact⟨a1,a2,a3,λi hi=>a4 i (λq=>hi (ax _ q)),a5⟩
  ·rw[aj.mp hr];refine⟨hl,h0,hz.comb (by omega) ly e,λi hi=>?_,hb⟩;refine nk (g:=g) (by omega) ?_;rw[e,hw i (λq=>hi (by simp[q]))];have:y (d+1+i)=0:=Qs.at_zero (λx ⟨p,hp,ex⟩=>by rw[ex];exact (h.pl p hp).2.2.2.2.2 i (λq=>hi (ax _ (h.sub i q)))) hy;rw[this];simp
 ·rcases ai.mp hz' with q | q
  ·exact (h.sp z' q).mono λx hx=>by
    rcases hx with⟨p,hp,ex⟩ | ⟨r,hr,ex⟩
    ·exact .inl ⟨p,hp,ex⟩
    ·exact .inr ⟨r,ax _ hr,ex⟩
  ·rw[aj.mp q];exact .lin (s:=s) (a:=g) (b:=-1) (.of (.inr ⟨left,by simp,rfl⟩)) (hy.mono λx ⟨p,hp,ex⟩=>.inl ⟨p,hp,ex⟩) (by omega) λi=>by have:=e i;omega
theorem zB{us:LL}{d B:Nat}{dn:List Nat}{pv:List (Nat×LI)}{rs:LL}{ix:List Nat}(h:PV us d B dn pv rs ix){z:Nat}{left:LI}(hz:kj us d (vc (wr us z)))(hw:∀i,i≠z->vc (wr us z) (d+1+i)=0){g s:Int}{y:Vc}(hg:0<g)(hs:0<s)(hy:Qs (HL pv) y)(e:∀i,g*vc left i=s*vc (wr us z) i+1*y i)
  (hl:left.length=d+1+us.length) (hp0:∀p∈pv,vc left p.1=0) (hb:∀x∈left,Bn (B+pv.length*(Pq B pv.length+1)) x) {a:Nat} (ha:a<d) (hna:vc left a≠0) (f:Nat×LI->LI)
  (hf:∀p∈pv,(f p).length=p.2.length/\(∀x∈f p,Bn (Pq B (pv.length+1)) x)/\vc (f p) a=0/\∃g s b:Int,0<g/\0<s/\∀i,g*vc (f p) i=s*vc p.2 i+b*vc left i) :
  PV us d B (dn++[z]) (pv.map (λp=>(p.1,f p))++[(a,left)]) rs (ix++[z]):=by
 have ly:kj us d y:=kj.qs (λx ⟨p,hp,ex⟩=>by rw[ex];exact (h.pl p hp).2.2.2.2.1) hy;have ll:kj us d (vc left):=hz.comb (by omega) ly e;have wl:∀i,i∉ix++[z]->vc left (d+1+i)=0:=λi hi=>by refine nk (g:=g) (by omega) ?_;rw[e,hw i (λq=>hi (by simp[q]))];have:y (d+1+i)=0:=Qs.at_zero (λx ⟨p,hp,ex⟩=>by rw[ex];exact (h.pl p hp).2.2.2.2.2 i (λq=>hi (ax _ q))) hy;rw[this];simp
 have ne:∀p∈pv,p.1≠a:=λp hp q=>hna (q▸hp0 p hp);refine⟨by simp[h.len],λp hp=>?_,?_,λr hr=>?_,λi hi=>?_,λz' hz'=>?_⟩
 ·simp only[aS,aw,bU];rcases ai.mp hp with hp | hp
  ·obtain⟨p',hp',rfl⟩:=aC.mp hp;obtain⟨a1,a2,a3,a4,a5,a6⟩:=h.pl p' hp';obtain⟨f1,f2,f3,g1,s1,b1,hg1,hs1,v1⟩:=hf p' hp';refine⟨a1,by rw[f1,a2],λq=>a3 ?_,f2,a5.comb (by omega) ll v1,λi hi=>?_⟩
   ·have:=v1 p'.1;rw[q,hp0 p' hp',cJ,cJ,Int.add_zero] at this;exact nk (g:=s1) (by omega) this.symm
   ·refine nk (g:=g1) (by omega) ?_;rw[v1,a6 i (λq=>hi (ax _ q)),wl i hi];simp
  ·rw[aj.mp hp];exact⟨ha,hl,hna,λx hx=>(hb x hx).mono (by show _<=Pq B pv.length+(B+pv.length*(Pq B pv.length+1))+1;omega),ll,wl⟩
 ·refine c8.mpr ⟨c7.mpr (h.pw.imp_of_mem λ{p q} hp hq r=>?_),c9 _ _,λp hp q hq=>?_⟩
  ·obtain⟨r1,r2,r3⟩:=r;obtain⟨_,_,_,g1,s1,b1,hg1,hs1,v1⟩:=hf p hp;obtain⟨_,_,_,g2,s2,b2,hg2,hs2,v2⟩:=hf q hq;refine⟨r1,nk (g:=g2) (by omega) ?_,nk (g:=g1) (by omega) ?_⟩
   ·rw[v2,r2,hp0 p hp];simp
   ·rw[v1,r3,hp0 q hq];simp
  ·obtain⟨p',hp',rfl⟩:=aC.mp hp;rw[aj.mp hq];exact⟨ne p' hp',hp0 p' hp',(hf p' hp').2.2.1⟩
 ·obtain⟨a1,a2,a3,a4,a5⟩:=h.rr r hr;exact⟨a1,a2,a3,λi hi=>a4 i (λq=>hi (ax _ q)),a5⟩
 ·rcases ai.mp hi with hi | hi
  ·exact ax _ (h.sub i hi)
  ·exact bt _ hi
 ·let Pn:Vc->Prop:=λx=>(∃p∈pv.map (λp=>(p.1,f p))++[(a,left)],x=vc p.2)\/∃r∈rs,x=vc r;have ql:Qs Pn (vc left):=.of (.inl ⟨(a,left),by simp,rfl⟩);have qp:∀p∈pv,Qs Pn (vc p.2):=λp hp=>by obtain⟨_,_,_,g1,s1,b1,hg1,hs1,v1⟩:=hf p hp;exact .lin (s:=s1) (a:=g1) (b:=-b1) (.of (.inl ⟨(p.1,f p),ax _ (aC.mpr ⟨p,hp,rfl⟩),rfl⟩)) ql (by omega) λi=>by have:=v1 i;have e2:-b1*vc left i = -(b1*vc left i):=cQ _ _;dsimp only at this ⊢;omega
  rcases ai.mp hz' with q | q
  ·exact (h.sp z' q).sub λx hx=>by
    rcases hx with⟨p,hp,ex⟩ | ⟨r,hr,ex⟩
    ·rw[ex];exact qp p hp
    ·exact .of (.inr ⟨r,hr,ex⟩)
  ·rw[aj.mp q];exact .lin (s:=s) (a:=g) (b:=-1) ql (hy.sub λx ⟨p,hp,ex⟩=>by rw[ex];exact qp p hp) (by omega) λi=>by have:=e i;omega
structure Il(d B:Nat):Prop where
 b1:1<=B
 le:∀k,k<=d->B+k*(Pq B k+1)<=8000
 pq:Pq B d<=8000
theorem HK(us:LL)(d k:Nat)(hk:k<us.length)(hl:∀u∈us,u.length=d+1):∀i,i≠k->vc (wr us k) (d+1+i)=0:=λi hi=>by rw[ug us d k hk hl,aQ (by omega),aQ (by omega)]
theorem vA(us:LL)(d B:Nat)(hd:d<=4)(hn:us.length<=8)(hl:∀u∈us,u.length=d+1)(hb:∀u∈us,∀x∈u,Bn B x)(hB:Il d B)(zs:List Nat)(hz:∀z∈zs,z<us.length)(hzl:zs.length<=8) :
  ∃pv rs ix,fK c [.lst ((zs.map (wr us)).map tI),.int (d:Int)]=.ok (.tup [.lst (pv.map iT),.lst (rs.map tI)])/\PV us d B zs pv rs ix/\rs.length<=8:=by
 have sz:1000<sizeLine:=by decide
 have hrm:sG (d:Int)=true:=ip (by omega);obtain⟨ρ,e,pv,rs,ix,x4,x5,x6,rfl,hI,hrs⟩:=fQ (m:=iY 4) (g:=gX c) (λz=>tI (wr us z))
  (λk ρ=>∃(pv:List (Nat×LI)) (rs:LL) (ix:List Nat) (x4 x5 x6:Option W),ρ=[some (.p (.lst ((zs.map (wr us)).map tI))),some (.p (.int (d:Int))),some (.p (.lst (pv.map iT))),some (.o (rs.map tI)),x4,x5,x6]/\PV us d B (zs.take k) pv rs ix/\rs.length<=k)
  zs 0 _ ⟨[],[],[],none,none,none,rfl,⟨rfl,(λp hp=>nomatch hp),List.Pairwise.nil,(λp hp=>nomatch hp),(λp hp=>nomatch hp),(λz hz=>by simp at hz)⟩,aJ _⟩ (by
   rintro k z ρ hi ⟨pv,rs,ix,x4,x5,x6,rfl,hI,hrs⟩;rw[aF] at hI hrs ⊢;have hzk:=hz z (au hi);have hkl:k<zs.length:=(aa.mp hi).1;have hpl:=hI.short;have hlin:=Fm us d z hzk hl;have hww:=HK us d z hzk hl;have hbb:=hB.le pv.length hpl;obtain⟨left,el,hll,hlb,⟨g,s,y,hg,hs,hy,ey⟩,h0⟩:=A1 (c:=c) (HL pv) (d+1+us.length) (Pq B pv.length) B (by omega) pv (wr us z) hbb (Dz us d z hzk hl) (GP hB.b1 us z hzk hb) (λp hp=>by obtain⟨q1,q2,q3,q4,_⟩:=hI.pl p hp;exact⟨by omega,q2,q3,q4,p,hp,rfl⟩) (hI.pw.imp λh=>h.2.1)
   let pl:List Nat:=(List.range d).filter λj=>left.getD j 0 != 0;let R:En:=[some (.p (.lst ((zs.map (wr us)).map tI))),some (.p (.int (d:Int))),some (.p (.lst (pv.map iT))),some (.o (rs.map tI)),some (.p (tI (wr us z))),some (.p (tI left)),some (.p (.lst (pl.map λ(j:Nat)=>T.int (j:Int))))];have e4:iK [none,some 5] (iM (dF (dG 1) dM)) (iy 0) (fM (dY (eM true) (dY fC (dG 1) (dG 0)) (cM (.int 0)))) (jf c) (lE [some (.p (.lst ((zs.map (wr us)).map tI))),some (.p (.int (d:Int))),some (.p (.lst (pv.map iT))),some (.o (rs.map tI)),some (.p (tI (wr us z))),some (.p (tI left)),x6])=.ok (pl.map λ(j:Nat)=>T.int (j:Int)):=sE (List.range d) (λ(j:Nat)=>T.int (j:Int)) (λ(j:Nat)=>T.int (j:Int)) (λj=>left.getD j 0 != 0) (by simp[hrm,CA]) (by simp;omega) (λj hj=>⟨_,rfl,eN (dQ (dQ rfl rfl (gF left j (by have:=aR.mp hj;omega))) rfl (kX _ _)),λ_=>rfl⟩) rfl
   have hlays:iR (pl.map λ(j:Nat)=>T.int (j:Int))=true:=mw _ _ λ_ _=>rfl;have hdeps:mB (pl.map λ(j:Nat)=>T.int (j:Int))<=90:=aM (mx _ 0 _ λ_ _=>aJ _) (by decide);have hcond:fM (dY (eM false) (dG 6) (fE (lstM dM))) (vw R)=.ok pl.isEmpty:=by refine eN (dQ (x:=.lst (pl.map λ(j:Nat)=>T.int (j:Int))) (y:=.lst []) rfl (by simp) ?_);rw[rP false _ hlays hdeps];simp
   have pre:∀r,(j7 (fM (dY (eM false) (dG 6) (fE (lstM dM)))) (kL 3 (gJ (dG 5))) (setO 2 (gJ (fE (gW (dF (dG 2) (dF (dG 5) (dF (dY fC (dG 6) (cM (.int 0))) dM))) (gO c)))))) R=r->
     gX c [some (.p (.lst ((zs.map (wr us)).map tI))),some (.p (.int (d:Int))),some (.p (.lst (pv.map iT))),some (.o (rs.map tI)),some (.p (tI (wr us z))),x5,x6]=r:=λr hr=>
    dP (ee (t:=tI left) (e7 rfl rfl el) rfl) (dP (ee (t:=.lst (pl.map λ(j:Nat)=>T.int (j:Int))) (fI e4) rfl) hr)
   have mono:B+pv.length*(Pq B pv.length+1)<=B+d*(Pq B d+1):=Nat.add_le_add_left (dc hpl (Nat.add_le_add_right (tE hpl) 1)) _;have tk:zs.take (k+1)=zs.take k++[z]:=ie zs k z hi;cases hle:pl with
   | nil=>refine⟨_,_,rfl,.inl (pre _ (gd (by rw[hcond,hle];rfl) (pJ (t:=tI left) rfl rfl (by simp;omega) rfl))),pv,rs++[left],ix,_,_,_,by rw[aY];rfl,?_,by simp;omega⟩;rw[tk];refine Bi hI hlin hww hg hs hy ey hll (λi him=>?_) (λx hx=>(hlb x hx).mono mono);refine aN λhc=>?_;have:i∈pl:=aT.mpr ⟨aR.mpr him,by simpa[vc] using hc⟩;rw[hle] at this;exact nomatch this
   | cons j0 js=>
    have hj0:j0∈pl:=by rw[hle];exact bg ..
    have hj0m:j0<d:=aR.mp (aT.mp hj0).1;have hj0n:vc left j0≠0:=by have:=(aT.mp hj0).2;simpa[vc] using this
    have hroom:pv.length+1<=d:=by
     have nd:(j0::pv.map Prod.fst).Nodup:=bE.mpr ⟨λhm=>by obtain⟨p,hp,ep⟩:=aC.mp hm;exact hj0n (ep▸h0 p hp),c7.mpr (hI.pw.imp λq=>q.1)⟩
     have:=oR d _ nd λx hx=>by
      rcases aE.mp hx with rfl | hx
      ·exact hj0m
      ·obtain⟨p,hp,rfl⟩:=aC.mp hx;exact (hI.pl p hp).1
     simpa using this
    have hP:Pq B (pv.length+1)<=8000:=aM (tE hroom) hB.pq;obtain⟨f,hf⟩:=m6 (P:=λ(p:Nat×LI) (r:LI)=>gL c [tI p.2,tI left,.int (j0:Int)]=.ok (tI r)/\r.length=p.2.length/\(∀x∈r,Bn (Pq B (pv.length+1)) x)/\vc r j0=0/\∃g s b:Int,0<g/\0<s/\∀i,g*vc r i=s*vc p.2 i+b*vc left i) pv λp hp=>by obtain⟨q1,q2,q3,q4,_⟩:=hI.pl p hp;obtain⟨r,a1,a2,a3,a4,g,s,b,a5,a6,a7,_⟩:=sY (c:=c) (Pq B pv.length) (B+pv.length*(Pq B pv.length+1)) p.2 left j0 (by omega) (by omega) (by omega) hP q4 hlb hj0n;exact⟨r,a1,a2,a3,a4,g,s,b,a5,a6,a7⟩
    have i0:dY fC (dG 6) (cM (.int 0)) (lE R)=.ok (.int (j0:Int)):=dQ (x:=.lst (pl.map λ(j:Nat)=>T.int (j:Int))) rfl rfl (by rw[hle];exact GK _ _);have e5:=qe (c:=c) pv left j0 f (by omega) λp hp=>(hf p hp).1;refine⟨_,_,rfl,.inl (pre _ (eV (by rw[hcond,hle];rfl) (ee (fI (DD rfl rfl i0 e5)) rfl))),_,rs,ix++[z],_,_,_,rfl,?_,by omega⟩;rw[tk];exact zB hI hlin hww hg hs hy ey hll h0 hlb hj0m hj0n f λp hp=>(hf p hp).2)
 rw[aF,cO] at hI;rw[aF] at hrs;refine⟨pv,rs,ix,eP rfl (dP (ee (t:=.lst []) (by simp) rfl) (dP (jx (ts:=[]) (by simp) rfl) (dP (h8 (by rw[aH];rfl) e) (eC (pX rfl rfl))))),hI,by omega⟩
def jC(pv:List (Nat×LI))(d:Nat):List Nat:=(List.range d).filter λk=>!(pv.map Prod.fst).contains k
theorem zq(neg:Bool)(k:Nat)(l:List Nat):Ag neg (.int (k:Int)) (.lst (l.map λ(j:Nat)=>T.int (j:Int)))=.ok (.bl (if neg then !l.contains k else l.contains k)):=by
 have h1:(l.map λ(j:Nat)=>T.int (j:Int)).all gG=true:=cf.mpr λx hx=>by obtain⟨y,-,rfl⟩:=aC.mp hx;rfl
 have h2:jb (.int (k:Int)) (l.map λ(j:Nat)=>T.int (j:Int))=l.contains k:=by
  unfold jb;rw[b8,List.contains_eq_any_beq];congr 1;funext a;show lA (T.int (a:Int)) (T.int (k:Int))=(k == a);rw[lA];by_cases h:k=a
  ·subst h;simp
  ·have h':¬((a:Int)=(k:Int)):=by omega
   rw[beq_eq_false_iff_ne.mpr h',beq_eq_false_iff_ne.mpr h]
 show (if gG (T.int (k:Int))&&(l.map λ(j:Nat)=>T.int (j:Int)).all gG then _ else _)=_;rw[h1,h2];rfl
theorem oS(pv:List (Nat×LI))(d:Nat)(hd:d<=10)(hp:pv.length<=100):gZ c [.lst (pv.map iT),.int (d:Int)]=.ok ((jC pv d).map λ(j:Nat)=>T.int (j:Int)):=by
 have sz:1000<sizeLine:=by decide
 have hrm:sG (d:Int)=true:=ip (by omega);refine nG rfl (dP (ee (t:=.lst ((pv.map Prod.fst).map λ(j:Nat)=>T.int (j:Int))) (fI (gw pv iT (λp=>T.int (p.1:Int)) rfl (by omega) (λp hp=>⟨_,rfl,rfl,rfl⟩) (by rw[aH];rfl))) rfl) (n8 ?_));exact sE (List.range d) (λ(j:Nat)=>T.int (j:Int)) (λ(j:Nat)=>T.int (j:Int)) (λk=>!(pv.map Prod.fst).contains k) (by simp[hrm,CA]) (by simp;omega) (λj hj=>⟨_,rfl,eN (dQ rfl rfl (zq true j _)),λ_=>rfl⟩) rfl
theorem uz(r:LI)(d:Nat){f:Pe->M T}{ρ:Pe}(h:f ρ=.ok (tI r)){fd:Pe->M T}(hd:fd ρ=.ok (.int (d:Int))):mj f (jM (dY gx fd (cM (.int 1)))) (λ_=>.ok none) ρ=.ok (tI (r.drop (d+1))):=by
 have e1:jM (dY gx fd (cM (.int 1))) ρ=.ok (some ((d+1:Nat):Int)):=by simp_all
 simp only[mj,h,e1,M.bind_ok,tI];rw[xu,List.map_drop]
theorem CK{f:Pe->M T}{ρ:Pe}{r:LI}(h:f ρ=.ok (tI r)):fB f ρ=.ok (r.map T.int):=by unfold fB;rw[h];rfl
theorem CO(xs:List T)(x:T):fC (.lst (xs++[x])) (.int (-1))=.ok x:=by
 have h:lu (xs++[x]) (-1)=some x:=by
  unfold lu qJ;have h1:¬((0:Int)<=-1):=by decide
  have h2:1<=(xs.length:Int)+1:=by omega
  have h3:(-1+((xs.length:Int)+1)).toNat=xs.length:=by omega
  simp[h2,h3]
 simp[fC,h]
end CL
namespace CL
def Lt(m:Nat)(g:Nat->Vc)(t:Vc):Vc:=λq=>sm m λj=>t j*g j q
theorem wx{α:Type}[DecidableEq α]:∀{l m:List α},l.Nodup->(∀x∈l,x∈m)->l.length<=m.length
 | [],_,_,_=>bB _
 | a::l,m,nd,h=>by
  obtain⟨n1,n2⟩:=bE.mp nd;have hm:a∈m:=h a (by simp);have:=wx (m:=m.erase a) n2 λx hx=>by have ne:x≠a:=λz=>n1 (z▸hx);exact (List.mem_erase_of_ne ne).mpr (h x (by simp[hx]))
  rw[cT hm] at this;have:0<m.length:=List.length_pos_of_mem hm;simp only[ay];omega
end CL
namespace CL
open PySem L2 L3
variable {c:Cs}
def kZ:Nat->(Nat->Rat)->Rat
 | 0,_=>0
 | n+1,f=>f 0+kZ n λi=>f (i+1)
theorem gN:∀(n:Nat) (f g:Nat->Rat),(∀i,i<n->f i=g i)->kZ n f=kZ n g
 | 0,_,_,_=>rfl
 | n+1,f,g,h=>by unfold kZ;rw[h 0 (by omega),gN n _ _ λi hi=>h (i+1) (by omega)]
theorem n9(a b:Rat):∀(n:Nat) (f g:Nat->Rat),kZ n (λi=>a*f i+b*g i)=a*kZ n f+b*kZ n g
 | 0,_,_=>by unfold kZ;grind
 | n+1,f,g=>by unfold kZ;rw[n9 a b n (λi=>f (i+1)) λi=>g (i+1)];grind
theorem uq:∀n:Nat,kZ n (λ_=>0)=0
 | 0=>rfl
 | n+1=>by unfold kZ;rw[uq n];grind
theorem Cf(x X:Nat->Rat)(v:Rat):∀(n a:Nat),a<n->kZ n (λi=>x i*(if i=a then v else X i))=kZ n (λi=>x i*X i)+x a*(v - X a):=by
 intro n;induction n generalizing x X with
 | zero=>intro a h;cases h
 | succ n ih=>
  intro a ha;unfold kZ;cases a with
  | zero=>
   have:kZ n (λi=>x (i+1)*(if i+1=0 then v else X (i+1)))=kZ n (λi=>x (i+1)*X (i+1)):=gN n _ _ λi _=>by simp
   rw[this];simp;grind
  | succ a=>
   have:=ih (λi=>x (i+1)) (λi=>X (i+1)) a (by omega);have e:kZ n (λi=>x (i+1)*(if i+1=a+1 then v else X (i+1)))=kZ n (λi=>x (i+1)*(if i=a then v else X (i+1))):=gN n _ _ λi _=>by simp
   rw[e,this];simp;grind
def lp(d:Nat)(X:Nat->Rat)(x:Vc):Rat:=kZ d (λp=>(x p:Rat)*X p) - (x d:Rat)
theorem rq{d:Nat}{X:Nat->Rat}(x y z:Vc)(s a b:Int)(h:∀i,s*z i=a*x i+b*y i):(s:Rat)*lp d X z=(a:Rat)*lp d X x+(b:Rat)*lp d X y:=by
 have hq:∀i,(s:Rat)*(z i:Rat)=(a:Rat)*(x i:Rat)+(b:Rat)*(y i:Rat):=λi=>by
  have:=h i;have e:((s*z i:Int):Rat)=((a*x i+b*y i:Int):Rat):=by rw[this]
  simpa using e
 unfold lp;have e1:(s:Rat)*kZ d (λp=>(z p:Rat)*X p)=(a:Rat)*kZ d (λp=>(x p:Rat)*X p)+(b:Rat)*kZ d (λp=>(y p:Rat)*X p):=by
  have:=n9 (s:Rat) 0 d (λp=>(z p:Rat)*X p) (λ_=>0);have t2:=n9 (a:Rat) (b:Rat) d (λp=>(x p:Rat)*X p) (λp=>(y p:Rat)*X p);have t3:kZ d (λi=>(s:Rat)*((z i:Rat)*X i)+0*0)=kZ d (λi=>(a:Rat)*((x i:Rat)*X i)+(b:Rat)*((y i:Rat)*X i)):=gN d _ _ λi _=>by have:=hq i;grind
  rw[t3,t2] at this;grind
 have:=hq d;grind
theorem CC{d a:Nat}(ha:a<d)(X:Nat->Rat)(v:Rat)(x:Vc):lp d (λq=>if q=a then v else X q) x=lp d X x+(x a:Rat)*(v - X a):=by unfold lp;have:=Cf (λi=>(x i:Rat)) X v d a ha;rw[this];grind
theorem mU{d:Nat}{X:Nat->Rat}{x:Vc}(h:∀p,p<d->x p=0):lp d X x = -(x d:Rat):=by
 unfold lp;have e:kZ d (λp=>(x p:Rat)*X p)=0:=by rw[gN d _ (λ_=>0) λp hp=>by rw[h p hp];simp];exact uq d
 rw[e];grind
def Xs(s:List (Int×Int)):Nat->Rat:=λq=>qv (s.getD q (0,1))
theorem Fy(s:List (Int×Int))(a:Nat)(f:Int×Int)(ha:a<s.length):Xs (s.set a f)=λq=>if q=a then qv f else Xs s q:=by
 funext q;unfold Xs;rw[af,List.getElem?_set];by_cases h:q=a
 ·subst h;simp[ha]
 ·rw[aQ (λz=>h z.symm),aQ h,af]
theorem Jg:qv (0,1)=0:=by unfold qv;simp;grind
theorem Am(d:Nat):∀(s:List (Int×Int)) (row:LI),s.length=d->d<=row.length->zU row s=kZ d (λp=>(vc row p:Rat)*Xs s p):=by
 induction d with
 | zero=>intro s row h1 _;have:s=[]:=List.length_eq_zero_iff.mp h1;subst this;simp[zU,kZ]
 | succ d ih=>
  intro s row h1 h2;cases s with
  | nil=>cases h1
  | cons p s=>
   cases row with
   | nil=>simp at h2
   | cons x row=>have:=ih s row (by simpa using h1) (by simpa using h2);unfold zU at this ⊢;rw[List.zip_cons_cons,bz,List.sum_cons,this];rfl
theorem Ae{ρ:Pe}{fc fd:Pe->M Bool}{b:Bool}(h:fc ρ=.ok false)(h2:fd ρ=.ok b):L3.tq fc fd ρ=.ok b:=by simp only[L3.tq,h,h2,M.bind_ok];rfl
theorem C6(s:List (Int×Int))(a:Nat)(f:Int×Int):ky (s.set a f)<=ky s+wt f:=by
 induction s generalizing a with
 | nil=>simp[ky]
 | cons p s ih=>
  cases a with
  | zero=>simp[ky];omega
  | succ a=>
   have:=ih a;have e1:ky ((p::s).set (a+1) f)=wt p+ky (s.set a f):=by rw[List.set_cons_succ];simp[ky]
   have e2:ky (p::s)=wt p+ky s:=by simp[ky]
   omega
theorem oz(n k:Nat)(h:k<n):qJ n (k:Int)=some k:=by unfold qJ;rw[aP (by omega),aP (by omega)];simp
theorem yg(d M L:Nat)(hdL:d<L)(hd:d<=10)(hM:1<=M)(pv:List (Nat×LI))(s:List (Int×Int))(hs:s.length=d)(V:Nat)(hq:∀p∈s,Fq p/\Bn V p.2)(hp:∀p∈pv,p.1<d/\p.2.length=L/\vc p.2 p.1≠0/\∀x∈p.2,Bn M x)(hw:pv.Pairwise λp q=>p.1≠q.1/\vc q.2 p.1=0/\vc p.2 q.1=0)(h0:∀p∈pv,s.getD p.1 (0,1)=(0,1))(hE:pv≠[]->M+ky s+20<=8000)(hV:pv≠[]->M+ky s+1<=V) :
  ∃s',kS c [.lst (pv.map iT),.lst (s.map fr)]=.ok (tS s')/\s'.length=d/\(∀p∈s',Fq p/\Bn V p.2)/\ky s'<=ky s+pv.length*(M+ky s+20)/\(∀p∈pv,lp d (Xs s') (vc p.2)=0)/\∀r:Vc,(∀p∈pv,r p.1=0)->lp d (Xs s') r=lp d (Xs s) r:=by
 have sz:1000<sizeLine:=by decide
 let R (s':List (Int×Int)) (x3 x4:Option W):En:=[some (.p (.lst (pv.map iT))),some (.p (.lst (s.map fr))),some (.o (s'.map fr)),x3,x4];obtain⟨ρ,e,s',x3,x4,rfl,k1,k2,k3,k4,k5,k6⟩:=fQ (m:=jG 2 (fu (iY 3) (fu (iY 4) jI))) (g:=ni c) iT
  (λi ρ=>∃(s':List (Int×Int)) (x3 x4:Option W),ρ=R s' x3 x4/\s'.length=d/\(∀p∈s',Fq p/\Bn V p.2)/\ky s'<=ky s+i*(M+ky s+20)/\(∀p∈pv.take i,lp d (Xs s') (vc p.2)=0)/\(∀r:Vc,(∀p∈pv.take i,r p.1=0)->lp d (Xs s') r=lp d (Xs s) r)/\∀q,(∀p∈pv.take i,p.1≠q)->s'.getD q (0,1)=s.getD q (0,1))
  pv 0 (R s none none) ⟨s,none,none,rfl,hs,hq,by omega,λp hp=>by simp at hp,λr _=>rfl,λq _=>rfl⟩ (by
   rintro i ⟨a,pr⟩ ρ hi ⟨s',x3,x4,rfl,k1,k2,k3,k4,k5,k6⟩;rw[aF] at k3 k4 k5 k6 ⊢;have hm:=au hi;have hV:=hV (λz=>by rw[z] at hm;cases hm);have hE:=hE (λz=>by rw[z] at hm;cases hm);obtain⟨ha,hl,hne,hb⟩:=hp _ hm;simp only at ha hl hne hb;have il:=(aa.mp hi).1;have hpre:∀p∈pv.take i,p.1≠a/\vc pr p.1=0/\vc p.2 a=0:=λp hp'=>by
    obtain⟨j,hj⟩:=de.mp hp';rw[List.getElem?_take] at hj;split at hj
    ·rename_i jl;have h1:=aa.mp hj;have h2:=aa.mp hi;have:=df.mp hw j i h1.1 h2.1 jl;rw[h1.2,h2.2] at this;exact this
    ·cases hj
   obtain⟨r,e1,g1,v1⟩:=tZ (c:=c) M (by omega) hM pr s (by omega) (by omega) hb (λp hp=>(hq p hp).1) (by omega);obtain⟨o,e2,g2,v2⟩:=yw (c:=c) (k:=vc pr a) hne (hb _ (by unfold vc;rw[af,ag (show a<pr.length by omega)];exact aU _)) g1 (by omega) (by omega)
   have st:ni c (R s' (some (.p (.int (a:Int)))) (some (.p (tI pr))))=.nx (R (s'.set a o) (some (.p (.int (a:Int)))) (some (.p (tI pr)))):=by
    refine oN (us:=s'.map fr) rfl (e7 (x:=fr r) (y:=fr (vc pr a,1)) (e7 rfl rfl e1) (pX (dQ rfl rfl (gF pr a (by omega))) rfl) e2) rfl (j:=(a:Int)) (m:=a) rfl ?_ ?_
    ·rw[aw];exact oz _ _ (by omega)
    ·simp[R,cV]
   have Xa:Xs s' a=0:=by have h1:=k6 a λp hp'=>(hpre p hp').1;have h2:=h0 _ hm;simp only at h2;unfold Xs;rw[h1,h2,Jg]
   have ev:∀r:Vc,lp d (Xs (s'.set a o)) r=lp d (Xs s') r+(r a:Rat)*qv o:=λr=>by rw[Fy s' a o (by omega),CC ha,Xa];grind
   have tk:=ie _ i (a,pr) hi;refine⟨_,_,rfl,.inl st,s'.set a o,_,_,rfl,by rw[bN,k1],λp hp'=>?_,?_,?_,?_,?_⟩
   ·rcases c6 hp' with q | q
    ·exact k2 p q
    ·rw[q];exact⟨g2.fq,g2.b2.mono (by omega)⟩
   ·have w1:=C6 s' a o;have w2:wt o<=M+ky s+20:=g2.wt (by omega) (by omega) (by omega);rw[Nat.add_mul];omega
   ·intro p hp';rw[tk] at hp';rw[ev];rcases ai.mp hp' with q | q
    ·rw[k4 p q,(hpre p q).2.2];simp;grind
    ·have:p=(a,pr):=by simpa using q
     subst this;simp only;rw[k5 (vc pr) λp hp'=>(hpre p hp').2.1,v2,v1];have dq:=Am d s pr hs (by omega);rw[dq,hs];unfold lp;have ne:(vc pr a:Rat)≠0:=by intro z;exact hne (by exact_mod_cast z)
     generalize kZ d (λp=>(vc pr p:Rat)*Xs s p)=A;generalize (vc pr a:Rat)=v at *;grind
   ·intro r hr;rw[ev,hr (a,pr) (by rw[tk];simp),k5 r λp hp'=>hr p (by rw[tk];simp[hp'])];simp;grind
   ·intro q hq';have qa:a≠q:=hq' (a,pr) (by rw[tk];simp);rw[af,aq qa,<-af];exact k6 q λp hp'=>hq' p (by rw[tk];simp[hp']))
 rw[aF,cO] at k4 k5;rw[aF] at k3;exact⟨s',eP rfl (dP (jx (ts:=s.map fr) rfl rfl) (dP (h8 rfl e) (eC rfl))),k1,k2,k3,k4,k5⟩
theorem jA(row:LI)(s:Int)(i:Nat):vc (row.map λx=>s*x) i=s*vc row i:=by unfold vc;rw[af,af,av];cases row[i]?<;>simp
theorem C3{f:Pe->M T}{ρ:Pe}{ys:LI}(h:f ρ=.ok (tI ys)):fE (zN j9 (dF f dM)) ρ=.ok (tL ys):=by simp only[fE,zN,dF,dM,h,M.bind_ok];rfl
theorem Bw(us:LL):(us.zipIdx.map λp=>p.1++(List.replicate us.length (0:Int)).set p.2 1)=(List.range us.length).map (wr us):=by
 apply List.ext_getElem
 ·simp
 ·intro i h1 h2;simp only[aw,List.length_zipIdx] at h1;simp[wr,List.getElem_zipIdx,h1]
theorem yl{d:Nat}{X:Nat->Rat}{x y:Vc}(h:∀i,i<=d->x i=y i):lp d X x=lp d X y:=by unfold lp;rw[gN d _ (λp=>(y p:Rat)*X p) λp hp=>by rw[h p (by omega)],h d (aJ _)]
theorem Qs.evl0{d:Nat}{X:Nat->Rat}{P:Vc->Prop}(h:∀x,P x->lp d X x=0){z:Vc}(q:Qs P z):lp d X z=0:=by
 induction q with
 | of p=>exact h _ p
 | zero=>rw[mU λ_ _=>rfl];simp
 | lin hx hy hs e i1 i2=>
  rename_i x y z s a b;have:=rq (d:=d) (X:=X) x y z s a b e;rw[i1,i2] at this;have s0:(s:Rat)≠0:=by intro z;exact hs (by exact_mod_cast z)
  grind
theorem BA(r:LI)(k i:Nat):vc (r.drop k) i=vc r (k+i):=by unfold vc;rw[af,af,List.getElem?_drop]
theorem j6{pv:List (Nat×LI)}{d k:Nat}:k∈jC pv d↔k<d/\∀p∈pv,p.1≠k:=by
 unfold jC;rw[aT,aR];simp;intro _;constructor
 ·intro h a b hm z;subst z;exact h b hm
 ·intro h x hm;exact h k x hm rfl
theorem zw(pv:List (Nat×LI))(d:Nat):(jC pv d).Nodup:=(List.nodup_range).sublist List.filter_sublist
theorem yt{us:LL}{d B:Nat}{dn:List Nat}{pv:List (Nat×LI)}{rs:LL}{ix:List Nat}(h:PV us d B dn pv rs ix):pv.length+(jC pv d).length<=d:=by
 have nd:(pv.map Prod.fst++jC pv d).Nodup:=by rw[List.nodup_append];refine⟨c7.mpr (h.pw.imp λq=>q.1),zw pv d,λa ha b hb z=>?_⟩;obtain⟨p,hp,rfl⟩:=aC.mp ha;exact (j6.mp hb).2 p hp z
 have:=wx (m:=List.range d) nd λx hx=>by
  rcases ai.mp hx with q | q
  ·obtain⟨p,hp,rfl⟩:=aC.mp q;exact aR.mpr (h.pl p hp).1
  ·exact aR.mpr (j6.mp q).1
 simpa using this
theorem Da(n:Nat)(hn:n<=1000){f:Pe->M T}{ρ:Pe}(h:f ρ=.ok (.int (n:Int))):fE (qf (fE (lstM (dF (jt (dF (cM (.int 0)) (dF (cM (.int 1)) dM))) dM))) f) ρ=.ok (.lst ((List.replicate n ((0,1):Int×Int)).map fr)):=by
 have sz:1000<sizeLine:=by decide
 have hr:sG (n:Int)=true:=ip (by omega);have h1:1<=sizeLine:=by decide
 have h3:2<=sizeLine:=by decide
 have h2:n<=sizeLine:=by omega
 have e:(List.replicate n [T.tup [T.int 0,T.int 1]]).flatten=(List.replicate n ((0,1):Int×Int)).map fr:=by
  clear h hr h2 hn;induction n with
  | zero=>rfl
  | succ n ih=>rw[bR,bS,ih,bR];rfl
 have e0:fE (lstM (dF (jt (dF (cM (.int 0)) (dF (cM (.int 1)) dM))) dM)) ρ=.ok (.lst [T.tup [T.int 0,T.int 1]]):=AE (pX rfl rfl);refine fI ?_;unfold qf;rw[e0,h];simp[hr,h2];exact .inr rfl
theorem Ai{S b:Int}(h:b ∣ S)(h0:b≠0):S.fdiv b*b=S:=by obtain⟨k,rfl⟩:=h;rw[cz k h0,cy]
theorem Ew{α:Type}(l:List α)(f:α->Int)(k:Nat)(a:α)(h:l[k]? = some a):vc (l.map f) k=f a:=by unfold vc;rw[af,av,h];rfl
def GL(d B:Nat)(ns:LI):Prop:=ns.length=d+1/\∀x∈ns,Bn B x
structure GC(d B:Nat)(ns:LI):Prop where
 gl:GL d B ns
 re:∃p,p<d/\vc ns p≠0
theorem GL.mono{d B B':Nat}{ns:LI}(h:GL d B ns)(hB:B<=B'):GL d B' ns:=⟨h.1,λx hx=>(h.2 x hx).mono hB⟩
theorem Ej(ns:LI)(k:Nat)(v:Int)(i:Nat)(hk:k<ns.length):vc (ns.set k v) i=if k=i then v else vc ns i:=by
 unfold vc;rw[af,List.getElem?_set];by_cases h:k=i
 ·subst h;rw[aP rfl,aP rfl,aP hk];rfl
 ·rw[aQ h,aQ h,<-af]
theorem BI(n k:Nat)(h:k<n):qJ n (k:Int)=some k:=by unfold qJ;rw[aP (by omega),aP (by omega)];simp
theorem kW(n:Nat)(h:n<=1000){f:Pe->M T}{ρ:Pe}(hf:f ρ=.ok (.int (n:Int))):iM (dF f dM) ρ=.ok ((List.range n).map λ(i:Nat)=>T.int (i:Int)):=by have hr:sG (n:Int)=true:=ip (by omega);rw[<-CA];simp[hf,hr]
def fP(a b:LI):Bool:=(List.range a.length).all λk=>(List.range k).all λj=>vc a k*vc b j == vc a j*vc b k
theorem sV(n B:Nat)(a b:LI)(ha:a.length=n)(hb:b.length=n)(hn:n<=10)(hB:B<=1000)(ba:∀x∈a,Bn B x)(bb:∀x∈b,Bn B x):ia c [tI a,tI b]=.ok (.bl (fP a b)):=by
 have sz:1000<sizeLine:=by decide
 have hout:=lZ (m:=iY 2) (g:=nT c) (λ(k:Nat)=>T.int (k:Int)) (λρ=>∃x2 x3,ρ=[some (.p (tI a)),some (.p (tI b)),x2,x3]) (λk=>(List.range k).all λj=>vc a k*vc b j == vc a j*vc b k) (.bl false) (List.range n) [some (.p (tI a)),some (.p (tI b)),none,none] ⟨none,none,rfl⟩ (by
  rintro k hk ρ ⟨x2,x3,rfl⟩;have hkn:=aR.mp hk;refine⟨_,rfl,?_⟩;have hin:=lZ (m:=iY 3) (g:=nN c) (λ(j:Nat)=>T.int (j:Int)) (λρ=>∃x3,ρ=[some (.p (tI a)),some (.p (tI b)),some (.p (.int (k:Int))),x3]) (λj=>vc a k*vc b j == vc a j*vc b k) (.bl false) (List.range k) [some (.p (tI a)),some (.p (tI b)),some (.p (.int (k:Int))),x3] ⟨x3,rfl⟩ (by
   rintro j hj ρ ⟨x3,rfl⟩;have hjk:=aR.mp hj;have i1:fC (tI a) (.int (k:Int))=.ok (.int (vc a k)):=gF a k (by omega);have i2:fC (tI b) (.int (j:Int))=.ok (.int (vc b j)):=gF b j (by omega);have i3:fC (tI a) (.int (j:Int))=.ok (.int (vc a j)):=gF a j (by omega);have i4:fC (tI b) (.int (k:Int))=.ok (.int (vc b k)):=gF b k (by omega);have m1:gH (.int (vc a k)) (.int (vc b j))=.ok (.int (vc a k*vc b j)):=fN ((ba _ (getD_mem a k (by omega))).ok (bb _ (getD_mem b j (by omega))) (by omega) (by omega));have m2:gH (.int (vc a j)) (.int (vc b k))=.ok (.int (vc a j*vc b k)):=fN ((ba _ (getD_mem a j (by omega))).ok (bb _ (getD_mem b k (by omega))) (by omega) (by omega));have hc:fM (dY (eM true) (dY gH (dY fC (dG 0) (dG 2)) (dY fC (dG 1) (dG 3))) (dY gH (dY fC (dG 0) (dG 3)) (dY fC (dG 1) (dG 2)))) (vw [some (.p (tI a)),some (.p (tI b)),some (.p (.int (k:Int))),some (.p (.int (j:Int)))])=.ok (!(vc a k*vc b j == vc a j*vc b k)):=eN (dQ (dQ (dQ rfl rfl i1) (dQ rfl rfl i2) m1) (dQ (dQ rfl rfl i3) (dQ rfl rfl i4) m2) (kX _ _))
   refine⟨_,rfl,λh=>⟨_,eV (hc.trans (by rw[h];rfl)) rfl,_,rfl⟩,λh=>gd (hc.trans (by rw[h];rfl)) (eC rfl)⟩)
  have hr:=kW (f:=dG 2) (ρ:=vw [some (.p (tI a)),some (.p (tI b)),some (.p (.int (k:Int))),x3]) k (by omega) rfl;refine⟨λh=>?_,λh=>jL hr (hin.2 h)⟩;obtain⟨ρ',e,x3',rfl⟩:=hin.1 h;exact⟨_,jL hr e,_,_,rfl⟩)
 have hr:=kW (f:=ji jF (dF (dG 0) dM)) (ρ:=vw (eT 4 [tI a,tI b])) n (by omega) (kx (t:=tI a) rfl (by simp[tI,ha]));have hs:fP a b=((List.range n).all λk=>(List.range k).all λj=>vc a k*vc b j == vc a j*vc b k):=by unfold fP;rw[ha]
 cases h:fP a b with
 | true=>obtain⟨ρ',e,x2,x3,rfl⟩:=hout.1 (by rw[<-hs];exact h);exact eP rfl (dP (jL hr e) (eC rfl))
 | false=>exact eP rfl (jc (jL hr (hout.2 (by rw[<-hs];exact h))) rfl)
theorem GC.mono{d B B':Nat}{ns:LI}(h:GC d B ns)(hB:B<=B'):GC d B' ns:=⟨h.gl.mono hB,h.re⟩
theorem ou(a:LI)(hl:a.length<=100)(h:∃p,p<a.length/\vc a p≠0):∃p:Nat,hW c [tI a]=.ok (.int (p:Int))/\p<a.length/\vc a p≠0:=by
 obtain⟨q,hq,hq0⟩:=h;obtain⟨ρ,e,p,rfl,hp1,hp2⟩:=lT (c:=fM (dY (eM false) (dY fC (dG 0) (dG 1)) (cM (.int 0)))) (g:=kU c)
  (λρ=>∃k:Nat,ρ=[some (.p (tI a)),some (.p (.int (k:Int)))]/\k<=q) (λρ=>match ρ with | _::some (.p (.int j))::_=>q - j.toNat | _=>0)
  (λρ=>∃k:Nat,ρ=[some (.p (tI a)),some (.p (.int (k:Int)))]/\k<a.length/\vc a k≠0) (by
   rintro ρ ⟨k,rfl,hk⟩;have i1:fC (tI a) (.int (k:Int))=.ok (.int (vc a k)):=gF a k (by omega);by_cases h0:vc a k=0
   ·have hne:k≠q:=λz=>hq0 (by rw[<-z];exact h0);refine .inr ⟨eN (dQ (dQ rfl rfl i1) rfl (by rw[fV,h0];rfl)),_,.inl (ee (t:=.int ((k+1:Nat):Int)) (dQ rfl rfl (by rw[gz];simp)) rfl),⟨k+1,rfl,by omega⟩,?_⟩;show q - (((k+1:Nat):Int)).toNat<q - ((k:Int)).toNat;omega
   ·exact .inl ⟨eN (dQ (dQ rfl rfl i1) rfl (by rw[fV];simp[h0])),k,rfl,by omega,h0⟩)
  ((a.map T.int).length+1) [some (.p (tI a)),some (.p (.int ((0:Nat):Int)))] ⟨0,rfl,by omega⟩ (by show q - _<_;rw[aw];omega)
 exact⟨p,eP rfl (dP (ee (t:=.int 0) rfl rfl) (dP e (eC rfl))),hp1,hp2⟩
theorem pZ(d B:Nat)(a b:LI)(hd:d<=3)(hB:B<=1000)(ga:GC d B a)(gb:GL d B b)(h:fP a b=false):iD c [tI a,tI b]=.ok (.bl false):=by
 have sz:1000<sizeLine:=by decide
 have hal:=ga.gl.1;have hbl:=gb.1;obtain⟨q,hq,hq0⟩:=ga.re;obtain⟨p,ep,hp,hp0⟩:=ou (c:=c) a (by omega) ⟨q,by omega,hq0⟩;have i1:fC (tI b) (.int (p:Int))=.ok (.int (vc b p)):=gF b p (by omega);have i2:fC (tI a) (.int (p:Int))=.ok (.int (vc a p)):=gF a p hp;have e1:iK [none,none,some 1,some 2,some 0] (nz (dF (dG 0) (dF (dG 1) dM))) (nZ 2 (gR (iy 0) (gR (iy 1) n0))) (λ_=>.ok true) (lM c) (vw [some (.p (tI a)),some (.p (tI b)),some (.p (.int (p:Int)))])=.ok (((a.zip b).map λx=>x.1*vc b p == x.2*vc a p).map T.bl):=gw (a.zip b) (λx=>T.tup [.int x.1,.int x.2]) (λx=>T.bl (x.1*vc b p == x.2*vc a p)) (pj rfl rfl rfl rfl) (by rw[dg];omega) (λx hx=>⟨_,rfl,rfl,by have h1:=ga.gl.2 _ (aV hx).1;have h2:=gb.2 _ (aV hx).2;have h3:=gb.2 _ (getD_mem b p (by omega));have h4:=ga.gl.2 _ (getD_mem a p hp);exact dQ (dQ rfl (dQ rfl rfl i1) (fN (h1.ok h3 (by omega) (by omega)))) (dQ rfl (dQ rfl rfl i2) (fN (h2.ok h4 (by omega) (by omega)))) (fV _ _)⟩) (by rw[aH];rfl)
 refine eP rfl (dP (ee (t:=.int (p:Int)) (qN rfl ep) rfl) (eC (mS e1 ?_)));rw[oh];congr 2;cases C7:((a.zip b).map λx=>x.1*vc b p == x.2*vc a p).all id with
 | false=>rfl
 | true=>
  exfalso;rw[cf] at C7;have hpar:C4.Par a b:=C4.par_of_place hp0 λi hi=>by
   have hz:(a.zip b)[i]? = some (a[i],b[i]'(by omega)):=by rw[List.getElem?_zip_eq_some];exact⟨ag hi,ag (by omega)⟩
   have:=C7 _ (aC.mpr ⟨_,au hz,rfl⟩);have h':a[i]*vc b p=(b[i]'(by omega))*vc a p:=by simpa using this
   show vc a i*vc b p=vc b i*vc a p;rw[mW a i hi,mW b i (by omega)];exact h'
  have:fP a b=true:=by unfold fP;refine cf.mpr λk hk=>cf.mpr λj hj=>?_;have hk':=aR.mp hk;have hj':=aR.mp hj;have:=hpar k j hk' (by omega);simpa[vc] using this
  rw[h] at this;cases this
structure vX(d B:Nat)(cs:LL):Prop where
 gc:∀f∈cs,GC d B f
 few:cs.length<=7
 pw:cs.Pairwise λa b=>fP a b=false
theorem yU{d B:Nat}{ns:LI}(h:GC d B ns):lC d (tI ns)=true:=by
 obtain⟨p,hp,hp0⟩:=h.re;have hl:=h.gl.1;unfold tI lC;have h1:(ns.map T.int).length=d+1:=by simp[hl]
 have h2:(ns.map T.int).all isInt=true:=cf.mpr λx hx=>by obtain⟨y,-,rfl⟩:=aC.mp hx;rfl
 show (decide ((ns.map T.int).length=d+1)&&(ns.map T.int).all isInt&&(match gY (ns.map T.int) with | some ns=>(ns.take d).any (· != 0) | none=>false))=true;rw[aB h1,h2,sI];show (ns.take d).any (· != 0)=true;refine List.any_eq_true.mpr ⟨vc ns p,?_,by simpa using hp0⟩;rw[mW ns p (by omega)];refine au (i:=p) ?_;rw[List.getElem?_take,aP hp,ag (by omega)]
theorem se(d B:Nat)(ah:LL)(ns:LI)(hd:1<=d/\d<=3)(hB:B<=1000)(hl:ah.length<7)(ha:∀f∈ah,GC d B f)(hn:GC d B ns)(hs:∀f∈ah,fP f ns=false):iq c [.int d,.lst (ah.map tI),tI ns]=.ok (.bl true):=by
 have sz:1000<sizeLine:=by decide
 have ic:=xH (c:=c) d (by omega) (tI ns) rfl λts e=>by cases e;refine⟨by rw[aw,hn.gl.1];omega,λt ht=>by obtain⟨y,-,rfl⟩:=aC.mp ht;rfl⟩
 rw[yU hn] at ic;have e1:iK [none,some 2] (fB (dG 1)) (iy 0) (λ_=>.ok true) (j8 c) (vw (eT 3 [.int d,.lst (ah.map tI),tI ns]))=.ok ((ah.map λ_=>false).map T.bl):=gw ah tI (λ_=>T.bl false) rfl (by omega) (λf hf=>⟨_,rfl,rfl,e7 rfl rfl (pZ (c:=c) d B f ns hd.2 hB (ha f hf) hn.gl (hs f hf))⟩) (by rw[aH];rfl)
 have q1:fM (dY Dc (ji jF (dF (dG 1) dM)) (cM (.int 7))) (vw (eT 3 [.int d,.lst (ah.map tI),tI ns]))=.ok false:=eN (dQ (x:=.int (ah.length:Int)) (kx (t:=.lst (ah.map tI)) rfl (by simp)) rfl (by rw[rK];congr 2;exact aA (by omega)))
 have q2:fM (dW (dF (dG 0) (dF (dG 2) dM)) (jX c)) (vw (eT 3 [.int d,.lst (ah.map tI),tI ns]))=.ok true:=eN (e7 rfl rfl ic);refine eP rfl (dP (eV ?_ rfl) (eC ?_))
 ·simp only[L3.tq,L3.kv,q1,q2,M.bind_ok];rfl
 ·have q3:ji vR (dF (fE (iK [none,some 2] (fB (dG 1)) (iy 0) (λ_=>.ok true) (j8 c))) dM) (vw (eT 3 [.int d,.lst (ah.map tI),tI ns]))=.ok (.bl false):=by
   refine mS e1 ?_;rw[wo];congr 2;induction ah with
   | nil=>rfl
   | cons a l ih=>simp
  have q4:=eN q3;simp only[yQ,q4,M.bind_ok];rfl
theorem vJ(d B:Nat)(cs:LL)(hd:1<=d/\d<=3)(hB:B<=1000)(h:vX d B cs):f6 c [.int d,.lst (cs.map tI)]=.ok (.tup (cs.map tI)):=by
 have sz:1000<sizeLine:=by decide
 have hf:=h.few;obtain⟨ρ,e,x3,rfl⟩:=fQ (m:=iY 3) (g:=kq c) tI
  (λk ρ=>∃x3:Option W,ρ=[some (.p (.int d)),some (.p (.lst (cs.map tI))),some (.o ((cs.take k).map tI)),x3])
  cs 0 _ ⟨none,rfl⟩ (by
   rintro k ns ρ hi ⟨x3,rfl⟩;rw[aF];have hkl:k<cs.length:=(aa.mp hi).1;have hst:=se (c:=c) d B (cs.take k) ns hd hB (by rw[bG];omega) (λf hf=>h.gc f (dh hf)) (h.gc ns (au hi)) λf hf=>by have hp:=h.pw;rw[<-List.take_append_drop k cs,c8] at hp;refine hp.2.2 f hf ns ?_;refine au (i:=0) ?_;rw[List.getElem?_drop,Nat.add_zero];exact hi
   have q:fM (dW (dF (dG 0) (dF (dG 2) (dF (dG 3) dM))) (iq c)) (vw [some (.p (.int d)),some (.p (.lst (cs.map tI))),some (.o ((cs.take k).map tI)),some (.p (tI ns))])=.ok true:=eN (iN (y:=.lst ((cs.take k).map tI)) (z:=tI ns) rfl rfl rfl hst);refine⟨_,_,rfl,.inl (dP (eV (lX q rfl) rfl) (pJ (us:=(cs.take k).map tI) (t:=tI ns) rfl (kx (t:=tI ns) rfl rfl) (by rw[aw,bG];omega) rfl)),some (.p (tI ns)),?_⟩;rw[ie cs k ns hi,aY];rfl)
 rw[aF,cO] at e;have q1:fM (dW (dF (dG 0) dM) (jm c)) (vw (eT 4 [.int d,.lst (cs.map tI)]))=.ok true:=eN (qN rfl (uK d hd));have q2:fM (pV "list" (dG 1)) (vw (eT 4 [.int d,.lst (cs.map tI)]))=.ok true:=rfl;refine eP rfl (dP (eV ?_ rfl) (dP (jx (ts:=[]) (by simp) rfl) (dP (h8 rfl e) (eC rfl))));simp only[L3.tq,L3.kv,q1,q2,M.bind_ok];rfl
def i6(c:Cs)(d:Nat)(cs:LL):T:=.obj c.Cutting [("own_cuts",.tup (cs.map tI)),("own_dims",.int d)]
theorem rX(d B:Nat)(cs:LL)(hd:1<=d/\d<=3)(hB:B<=1000)(h:vX d B cs):fj c [.int d,.lst (cs.map tI)]=.ok (i6 c d cs):=by have e:=vJ (c:=c) d B cs hd hB h;have q:dW (dF (dG 1) (dF (dG 2) dM)) (f6 c) (none::[T.int d,.lst (cs.map tI)].map some)=.ok (.tup (cs.map tI)):=e7 rfl rfl e;unfold fj qu;rw[aP (show [T.int (d:Int),T.lst (cs.map tI)].length=2 from rfl),q];rfl
theorem v7{C:Addr}{x:Str}{fs:List (Str×T)}{t:T}{f:Pe->M T}{ρ:Pe}(h:f ρ=.ok (.obj C fs))(hl:fs.lookup x=some t):tz C x f ρ=.ok t:=by unfold tz;rw[h,M.bind_ok];show (if C=C then (match fs.lookup x with | some t=>M.ok t | none=>.bad) else .bad)=_;rw[aP rfl,hl]
theorem B8(d:Nat)(cs:LL){f:Pe->M T}{ρ:Pe}(hf:f ρ=.ok (i6 c d cs)):nR c.Cutting "dims" f dM (f7 c) ρ=.ok (.int d):=by
 have h1:nH c.Cutting "dims" (i6 c d cs)=.ok ():=by unfold nH i6;exact aP ⟨rfl,rfl⟩
 have h2:f7 c [i6 c d cs]=.ok (.int d):=eP rfl (eC (v7 (C:=c.Cutting) (x:= "own_dims") (fs:=[("own_cuts",.tup (cs.map tI)),("own_dims",.int d)]) rfl rfl));simp only[nR,hf,M.bind_ok,h1,dM,h2,M.noEr_ok]
theorem BE(d:Nat)(cs:LL){f:Pe->M T}{ρ:Pe}(hf:f ρ=.ok (i6 c d cs)):oP c.Cutting "cuts" f dM (gh c) ρ=.ok (cs.map tI):=by
 have h1:nH c.Cutting "cuts" (i6 c d cs)=.ok ():=by unfold nH i6;exact aP ⟨rfl,rfl⟩
 have h2:gh c [i6 c d cs]=.ok (cs.map tI):=nG rfl (n8 (by have:tz c.Cutting "own_cuts" (dG 0) (vw (eT 1 [i6 c d cs]))=.ok (.tup (cs.map tI)):=v7 (C:=c.Cutting) (x:= "own_cuts") (fs:=[("own_cuts",.tup (cs.map tI)),("own_dims",.int d)]) rfl rfl;simp only[zN,dF,dM,this,M.bind_ok];rfl))
 simp only[oP,hf,M.bind_ok,h1,dM,h2,M.noEr_ok]
theorem HS{ρ:Pe}{f g h:Pe->M T}{a b e:T}(h1:f ρ=.ok a)(h2:g ρ=.ok b)(h3:h ρ=.ok e):jt (dF f (dF g (dF h dM))) ρ=.ok (.tup [a,b,e]):=by
 have hz:3<=sizeLine:=by decide
 simp only[jt,dF,dM,h1,h2,h3,M.bind_ok,rZ,ay,cU,hz,if_true]
theorem G0{ρ:Pe}{f1 f2:Pe->M T}{a1 a2:T}(h1:f1 ρ=.ok a1)(h2:f2 ρ=.ok a2):fE (lstM (dF f1 (dF f2 dM))) ρ=.ok (.lst [a1,a2]):=by
 have hz:2<=sizeLine:=by decide
 simp only[fE,lstM,dF,dM,h1,h2,M.bind_ok,rZ,ay,cU,hz,if_true]
theorem rh{d:Nat}{ns:LI}{v:Int}(hl:ns.length=d)(hb:∀x∈ns,Bn 84 x)(hv:Bn 84 v)(hr:∃p,p<d/\vc ns p≠0):GC d 84 (ns++[v]):=by
 refine⟨⟨by simp[hl],λx hx=>?_⟩,?_⟩
 ·rcases ai.mp hx with q | q
  ·exact hb x q
  ·rw[aj.mp q];exact hv
 ·obtain⟨p,hp,h⟩:=hr;refine⟨p,hp,?_⟩;unfold vc at *;rw[af,List.getElem?_append_left (by omega),<-af];exact h
theorem BJ{d:Nat}{ns:LI}(hl:ns.length=d)(h:ns≠List.replicate d 0):∃p,p<d/\vc ns p≠0:=by
 refine aN λhc=>h (List.eq_replicate_iff.mpr ⟨hl,λb hb=>?_⟩);obtain⟨i,hi⟩:=List.getElem?_of_mem hb;have hil:i<d:=by have:=(aa.mp hi).1;omega
 refine aN λhb0=>hc ⟨i,hil,?_⟩;unfold vc;rw[af,hi];exact hb0
theorem Ea(ns:LI)(hb:∀x∈ns,x.natAbs<=3):(((ns.zip [1,2,(-1:Int)]).map λ(p:Int×Int)=>p.1*p.2).sum).natAbs<=1000:=by
 match ns,hb with
 | [],_=>simp
 | [a],b1=>have:=b1 a (by simp);show ((a*1+0).natAbs)<=1000;omega
 | [a,b],b1=>have h1:=b1 a (by simp);have h2:=b1 b (by simp);show ((a*1+(b*2+0)).natAbs)<=1000;omega
 | a::b::e::l,b1=>
  have h1:=b1 a (by simp);have h2:=b1 b (by simp);have h3:=b1 e (by simp);have:((a::b::e::l).zip [1,2,(-1:Int)])=[(a,1),(b,2),(e,-1)]:=by cases l<;>rfl
  rw[this];show ((a*1+(b*2+(e * -1+0))).natAbs)<=1000;omega
theorem vy(cell:Int)(d:Nat)(fs:LL)(hd:1<=d/\d<=3)(hf:∀f∈fs,GC d 84 f)(hfl:fs.length<=10) :
  ∃ns,jk c [.int cell,.int d,.lst (fs.map tI)]=.ok (tI ns)/\GC d 84 ns:=by
 have sz:1000<sizeLine:=by decide
 let ns0:LI:=(List.range d).map λ(j:Nat)=>dr c cell j 7 - 3;have l0:ns0.length=d:=by simp[ns0]
 have b0:∀x∈ns0,x.natAbs<=3:=λx hx=>by obtain⟨j,hj,rfl⟩:=aC.mp hx;have hj':=aR.mp hj;obtain⟨_,a1,a2⟩:=fZ (c:=c) cell j 7 (by omega) (by omega) (by omega) (by omega);omega
 obtain⟨d6,d6a,d6b⟩:=fZ (c:=c) cell 6 9 (by decide) (by decide) (by omega) (by omega);obtain⟨d7,d7a,d7b⟩:=fZ (c:=c) cell 7 7 (by decide) (by decide) (by omega) (by omega);generalize dr c cell 6 9=c0 at d6 d6a d6b;generalize dr c cell 7 7=way at d7 d7a d7b;let St:LI->Option W->Option W->Option W->En:=λns x4 x5 x6=>[some (.p (.int cell)),some (.p (.int d)),some (.p (.lst (fs.map tI))),some (.o (ns.map T.int)),x4,x5,x6];have e0:iK [none,some 0] (iM (dF (dG 1) dM)) (iy 0) (λ_=>.ok true) (oC c) (lE [some (.p (.int cell)),some (.p (.int d)),some (.p (.lst (fs.map tI))),none,none,none,none])=.ok (ns0.map T.int):=by refine gw (List.range d) (λ(j:Nat)=>T.int (j:Int)) (λ(j:Nat)=>T.int (dr c cell j 7 - 3)) (kW d (by omega) rfl) (by simp;omega) (λj hj=>⟨_,rfl,rfl,?_⟩) (by rw[aH];rfl);have hj':=aR.mp hj;obtain⟨e,_,_⟩:=fZ (c:=c) cell j 7 (by omega) (by omega) (by omega) (by omega);exact dQ (iN rfl rfl rfl e) rfl (mr _ _)
 obtain⟨ns1,e1,l1,b1,r1⟩:∃ns1,(j7 (fM (dY (eM false) (dG 3) (fE (qf (fE (lstM (dF (cM (.int 0)) dM))) (dG 1))))) (oy 3 (lz (dW (dF (dG 0) (dF (cM (.int 4)) (dF (dG 1) dM))) (eg c))) (lz (dY gx (cM (.int 1)) (dW (dF (dG 0) (dF (cM (.int 5)) (dF (cM (.int 3)) dM))) (eg c))))) fv) (St ns0 none none none)=.nx (St ns1 none none none)/\ns1.length=d/\(∀x∈ns1,x.natAbs<=3)/\∃p,p<d/\vc ns1 p≠0:=by
  have ec:fM (dY (eM false) (dG 3) (fE (qf (fE (lstM (dF (cM (.int 0)) dM))) (dG 1)))) (vw (St ns0 none none none))=.ok (decide (ns0=List.replicate d 0)):=eN (dQ (x:=.lst (ns0.map T.int)) (y:=.lst ((List.replicate d (0:Int)).map T.int)) rfl (Di d (by omega) rfl) (by rw[vP];rfl))
  by_cases hz:ns0=List.replicate d 0
  ·obtain⟨d4,d4a,d4b⟩:=fZ (c:=c) cell 4 d (by omega) (by omega) (by omega) (by omega);obtain⟨d5,d5a,d5b⟩:=fZ (c:=c) cell 5 3 (by omega) (by omega) (by omega) (by omega);obtain⟨p,hp⟩:∃p:Nat,dr c cell 4 d=(p:Int):=⟨(dr c cell 4 d).toNat,by omega⟩;rw[hp] at d4 d4b;refine⟨ns0.set p (1+dr c cell 5 3),gd (by rw[ec,aB hz]) (oN (us:=ns0.map T.int) (t:=.int (1+dr c cell 5 3)) (j:=(p:Int)) (m:=p) rfl (dQ rfl (iN rfl rfl rfl d5) (gz _ _)) rfl (iN rfl rfl rfl d4) (BI _ _ (by rw[aw];omega)) ?_),by rw[bN];exact l0,λx hx=>?_,p,by omega,?_⟩
   ·simp only[St,cV];rfl
   ·rcases c6 hx with q | q
    ·exact b0 x q
    ·rw[q];omega
   ·rw[Ej _ _ _ _ (by omega),aP rfl];omega
  ·exact⟨ns0,eV (by rw[ec,aA hz]) rfl,l0,b0,BJ l0 hz⟩
 have sm84:∀x:Int,x.natAbs<=1000->Bn 84 x:=λx hx=>Bn.mono (m:=10) (by unfold Bn;omega) (by decide);have hfe:∀neg,eM neg (.lst (fs.map tI)) (.lst [])=.ok (.bl (if neg then !fs.isEmpty else fs.isEmpty)):=λneg=>by rw[rP neg (fs.map tI) (by simp) (aM (uv fs) (by decide))];simp
 let x4:Int->Option W:=λv=>some (.p (.int v));let x5:Option W:=some (.p (.int way));have wb:∀{o:O},(ed (j7 (m8 (fM (dY (eM false) (dG 5) (cM (.int 1)))) (fM (dY (eM true) (dG 2) (fE (lstM dM))))) (jY 3 (kG (zN j9 (dF (mj (dY fC (dG 2) (dW (dF (dG 0) (dF (cM (.int 8)) (dF (ji jF (dF (dG 2) dM)) dM))) (eg c))) (λ_=>.ok none) (jM (dG 1))) dM)))) fv) _) (St ns1 (x4 (c0 - 4)) x5 none)=o->qT c (eT 7 [.int cell,.int d,.lst (fs.map tI)])=o:=λ{o} h=>dP (ρ':=St ns0 none none none) (jx e0 rfl) (dP (ρ':=St ns1 none none none) e1 (dP (ρ':=St ns1 (x4 (c0 - 4)) none none) (ee (dQ (iN rfl rfl rfl d6) rfl (mr _ _)) rfl) (dP (ρ':=St ns1 (x4 (c0 - 4)) x5 none) (ee (iN rfl rfl rfl d7) rfl) h)))
 have q1:fM (dY (eM false) (dG 5) (cM (.int 1))) (vw (St ns1 (x4 (c0 - 4)) x5 none))=.ok (way == 1):=eN (dQ (x:=.int way) rfl rfl (fV _ _));have q2:fM (dY (eM true) (dG 2) (fE (lstM dM))) (vw (St ns1 (x4 (c0 - 4)) x5 none))=.ok (!fs.isEmpty):=eN (dQ (x:=.lst (fs.map tI)) (y:=.lst []) rfl (by simp) (by rw[hfe];rfl));have wq:∀(ns:LI) (v k:Int) x6,fM (dY (eM false) (dG 5) (cM (.int k))) (vw (St ns (x4 v) x5 x6))=.ok (way == k):=λns v k x6=>eN (dQ (x:=.int way) rfl rfl (fV _ _));have retq:∀(ns:LI) (v:Int) x6,ns.length=d->eY (ji gP (dF (fE (oV (dG 3) (fE (lstM (dF (dG 4) dM))))) dM)) (St ns (x4 v) x5 x6)=.rt (tI (ns++[v])):=λns v x6 hl=>eC (kx (t:=.lst (ns.map T.int++[.int v])) (fI (xg (a:=ns.map T.int) (b:=[.int v]) rfl (AE rfl) (by simp;omega))) (by simp[tI]))
 have or23:∀(ns:LI) (v:Int) x6,(L3.tq (fM (dY (eM false) (dG 5) (cM (.int 2)))) (fM (dY (eM false) (dG 5) (cM (.int 3))))) (vw (St ns (x4 v) x5 x6))=.ok (way == 2||way == 3):=λns v x6=>by simp only[L3.tq,wq,M.bind_ok];cases way == 2<;>rfl
 have noA:¬(way=1/\fs≠[])->(L3.m8 (fM (dY (eM false) (dG 5) (cM (.int 1)))) (fM (dY (eM true) (dG 2) (fE (lstM dM))))) (vw (St ns1 (x4 (c0 - 4)) x5 none))=.ok false:=λhc=>by
  simp only[L3.m8,q1,q2,M.bind_ok];by_cases h1:way=1
  ·have hn:fs=[]:=by
    by_cases hn:fs=[]
    ·exact hn
    ·exact absurd ⟨h1,hn⟩ hc
   rw[h1,hn];rfl
  ·have:(way == 1)=false:=by simpa using h1
   rw[this];rfl
 by_cases hA:way=1/\fs≠[]
 ·obtain⟨h1,hne⟩:=hA;have hlp:0<fs.length:=List.length_pos_iff.mpr hne;obtain⟨d3,d3a,d3b⟩:=fZ (c:=c) cell 8 fs.length (by omega) (by omega) (by omega) (by omega);obtain⟨f,ef,hfm⟩:=vB fs (dr c cell 8 fs.length) d3a d3b;have gf:=hf f hfm;have tl:(f.take d).length=d:=by rw[bG,gf.gl.1];omega
  have nd:∀k:Int,k≠1->(way == k)=false:=λk hk=>by simp[h1];omega
  refine⟨f.take d++[c0 - 4],eP rfl (wb (dP (ρ':=St (f.take d) (x4 (c0 - 4)) x5 none) (gd ?_ (jx (ts:=(f.take d).map T.int) ?_ rfl)) (dP (eV (by rw[or23,nd 2 (by decide),nd 3 (by decide)];rfl) rfl) (dP (eV (by rw[wq,nd 4 (by decide)]) rfl) (retq _ _ _ tl))))),rh tl (λx hx=>gf.gl.2 x (dh hx)) (sm84 _ (by omega)) ?_⟩
  ·simp only[L3.m8,q1,q2,M.bind_ok];rw[h1];simp[hne]
  ·have:=pO (fe:=dY fC (dG 2) (dW (dF (dG 0) (dF (cM (.int 8)) (dF (ji jF (dF (dG 2) dM)) dM))) (eg c))) (fd:=dG 1) (d:=d) (ts:=f.map T.int) (ρ:=lE (St ns1 (x4 (c0 - 4)) x5 none)) (dQ (x:=.lst (fs.map tI)) (y:=.int (dr c cell 8 fs.length)) rfl (iN (z:=.int (fs.length:Int)) rfl rfl (kx rfl (by simp)) d3) (by simp[mz,ef,tI])) rfl (by rw[aw,gf.gl.1];omega);simp only[zN,dF,dM,this,M.bind_ok];rw[cC];rfl
  ·obtain⟨p,hp,h⟩:=gf.re;refine⟨p,hp,?_⟩;unfold vc at *;rw[af,List.getElem?_take,aP hp,<-af];exact h
 ·have b84:∀x∈ns1,Bn 84 x:=λx hx=>sm84 x (by have:=b1 x hx;omega);by_cases h23:way=2\/way=3
  ·have t23:(way == 2||way == 3)=true:=by rcases h23 with h | h<;>rw[h]<;>rfl
   have n4:(way == 4)=false:=by rcases h23 with h | h<;>rw[h]<;>rfl
   let v:Int:=((ns1.zip [1,2,-1]).map λp=>p.1*p.2).sum;have ez:iK [none,none] (nz (dF (dG 3) (dF (fE (lstM (dF (cM (.int 1)) (dF (cM (.int 2)) (dF (qG (λi=>.int (-i)) (cM (.int 1))) dM))))) dM))) (nZ 2 (gR (iy 0) (gR (iy 1) n0))) (λ_=>.ok true) (oO c) (vw (St ns1 (x4 (c0 - 4)) x5 none))=.ok (((ns1.zip [1,2,-1]).map λp=>p.1*p.2).map T.int):=gw (ns1.zip [1,2,-1]) (λp=>T.tup [.int p.1,.int p.2]) (λp=>T.int (p.1*p.2)) (pj (x:=.lst (ns1.map T.int)) (y:=.lst ([1,2,-1].map T.int)) rfl rfl (fI rfl) rfl) (by rw[dg];omega) (λp hp=>⟨_,rfl,rfl,dQ rfl rfl (gD (by have:=b1 _ (aV hp).1;omega))⟩) (by rw[aH];rfl)
   have vb:v.natAbs<=1000:=Ea ns1 b1;exact⟨ns1++[v],eP rfl (wb (dP (eV (noA hA) rfl) (dP (ρ':=St ns1 (x4 v) x5 none) (gd (by rw[or23,t23]) (wZ (mS ez (yO _)) rfl rfl)) (dP (eV (by rw[wq,n4]) rfl) (retq _ _ _ l1))))),rh l1 b84 (sm84 _ vb) r1⟩
  ·have f23:(way == 2||way == 3)=false:=by have h2:¬way=2:=λz=>h23 (.inl z);have h3:¬way=3:=λz=>h23 (.inr z);simp[h2,h3]
   by_cases h4:way=4
   ·obtain⟨d9,d9a,d9b⟩:=fZ (c:=c) cell 9 1000000 (by decide) (by decide) (by omega) (by omega);obtain⟨d11,d11a,d11b⟩:=fZ (c:=c) cell 11 3 (by decide) (by decide) (by omega) (by omega);obtain⟨d10,d10a,d10b⟩:=fZ (c:=c) cell 10 7 (by decide) (by decide) (by omega) (by omega);obtain⟨w,ew,hw⟩:=wV [1,1,1000000000000000000] (dr c cell 11 3) d11a (by simpa using d11b);have e18:nY (.int 10) (.int 18)=.ok (.int 1000000000000000000):=by simp[nY,ir]
    have e6:nY (.int 10) (.int 6)=.ok (.int 1000000):=by simp[nY,ir]
    generalize dr c cell 9 1000000=f0 at d9 d9a d9b;generalize dr c cell 10 7=g0 at d10 d10a d10b;let far:Int:=(1+f0)*w;have hw':1<=w/\w<=1000000000000000000:=by simp only[aE,List.mem_nil_iff,or_false] at hw;omega
    have hfar:far.natAbs<=1000000*1000000000000000000:=by show ((1+f0)*w).natAbs<=_;rw[aX];exact dc (by omega) (by omega)
    have hfar1:1<=far:=by have:0<(1+f0)*w:=aW (by omega) (by omega);show 1<=(1+f0)*w;omega
    have hl3:fE (lstM (dF (cM (.int 1)) (dF (cM (.int 1)) (dF (dY nY (cM (.int 10)) (cM (.int 18))) dM)))) (lE (St ns1 (x4 (c0 - 4)) x5 none))=.ok (.lst ([1,1,1000000000000000000].map T.int)):=by
     have o:dY nY (cM (.int 10)) (cM (.int 18)) (lE (St ns1 (x4 (c0 - 4)) x5 none))=.ok (.int 1000000000000000000):=dQ rfl rfl e18;have h3:3<=sizeLine:=by decide
     simp only[fE,lstM,dF,dM,cM,o,M.bind_ok];rfl
    let ns2:LI:=ns1.map λx=>x*far;have es:iK [none,some 6] (fB (dG 3)) (iy 0) (λ_=>.ok true) (pN c) (vw (St ns1 (x4 (c0 - 4)) x5 (some (.p (.int far)))))=.ok (ns2.map T.int):=gw ns1 T.int (λx=>T.int (x*far)) rfl (by omega) (λx hx=>⟨_,rfl,rfl,dQ rfl rfl (gD (by have:=b1 x hx;omega))⟩) (by rw[aH];rfl)
    refine⟨ns2++[(c0 - 4)*far+g0],eP rfl (wb (dP (eV (noA hA) rfl) (dP (eV (by rw[or23,f23]) rfl) (dP (ρ':=St ns2 (x4 ((c0 - 4)*far+g0)) x5 (some (.p (.int far)))) (gd (by rw[wq,h4];rfl) (dP (ρ':=St ns1 (x4 (c0 - 4)) x5 (some (.p (.int far)))) (ee (dQ (dQ rfl (iN (z:=.int 1000000) rfl rfl (dQ rfl rfl e6) d9) (gz _ _)) (dQ (x:=.lst ([1,1,1000000000000000000].map T.int)) (y:=.int (dr c cell 11 3)) hl3 (iN rfl rfl rfl d11) ew) (gD (by omega))) rfl) (dP (ρ':=St ns2 (x4 (c0 - 4)) x5 (some (.p (.int far)))) (Cn es (yD _) rfl) (ee (dQ (dQ rfl rfl (gD (by omega))) (iN rfl rfl rfl d10) (gz _ _)) rfl)))) (retq _ _ _ (by simp[ns2,l1])))))),rh (by simp[ns2,l1]) (λx hx=>?_) ?_ ?_⟩
    ·obtain⟨y,hy,rfl⟩:=aC.mp hx;have:=b1 y hy;unfold Bn;rw[aX];refine cN (dc this hfar) (by decide)
    ·unfold Bn;have h1:((c0 - 4)*far).natAbs<=5*(1000000*1000000000000000000):=by rw[aX];exact dc (by omega) hfar
     have h2:=cF ((c0 - 4)*far) g0;refine cN (aM h2 (Nat.add_le_add h1 (show g0.natAbs<=7 by omega))) (by decide)
    ·obtain⟨p,hp,h⟩:=r1;refine⟨p,hp,?_⟩;have:vc ns2 p=vc ns1 p*far:=by unfold vc;rw[af,af,av];cases ns1[p]?<;>simp
     rw[this];exact cY h (by omega)
   ·exact⟨ns1++[c0 - 4],eP rfl (wb (dP (eV (noA hA) rfl) (dP (eV (by rw[or23,f23]) rfl) (dP (eV (by rw[wq];simp[h4]) rfl) (retq _ _ _ l1))))),rh l1 b84 (sm84 _ (by omega)) r1⟩
theorem vT{a b:LI}(h:a.length=b.length):fP a b=fP b a:=by
 unfold fP;rw[h];congr 1;funext k;congr 1;funext j;rw[cy (vc a k),cy (vc a j)];by_cases q:vc b j*vc a k=vc b k*vc a j
 ·rw[beq_iff_eq.mpr q,beq_iff_eq.mpr q.symm]
 ·rw[beq_eq_false_iff_ne.mpr q,beq_eq_false_iff_ne.mpr λz=>q z.symm]
theorem tM(ns:LI)(k0 d many:Nat)(hd:1<=d/\d<=3)(hm:many<=7):∃cs:LL,ju c [.scr ns,.int k0,.int d,.int many]=.ok (cs.map tI)/\vX d 84 cs/\cs.length<=many:=by
 have sz:1000<sizeLine:=by decide
 obtain⟨ρ,e,cs,x5,x6,rfl,hl,hg,hp⟩:=fQ (m:=iY 5) (g:=nV c) (λ(i:Nat)=>T.int (i:Int))
  (λk ρ=>∃(cs:LL) (x5 x6:Option W),ρ=[some (.p (.scr ns)),some (.p (.int k0)),some (.p (.int d)),some (.p (.int many)),some (.o (cs.map tI)),x5,x6]/\cs.length<=k/\(∀f∈cs,GC d 84 f)/\cs.Pairwise λa b=>fP a b=false)
  (List.range many) 0 _ ⟨[],none,none,rfl,aJ _,(λf hf=>nomatch hf),List.Pairwise.nil⟩ (by
   rintro i k ρ hi ⟨cs,x5,x6,rfl,hl,hg,hp⟩;rw[aF] at hl ⊢;have hin:i<many:=by simpa using (aa.mp hi).1
   have hki:k=i:=by rw[List.getElem?_range hin] at hi;cases hi;rfl
   subst hki;obtain⟨v,ev,-⟩:=lV (c:=c) ns (k0+k);obtain⟨nx,en,gn⟩:=vy (c:=c) v d cs hd hg (by omega);let R:En:=[some (.p (.scr ns)),some (.p (.int k0)),some (.p (.int d)),some (.p (.int many)),some (.o (cs.map tI)),some (.p (.int (k:Int))),some (.p (tI nx))];have e1:iK [none,some 6] (fB (dG 4)) (iy 0) (fM (dW (dF (dG 1) (dF (dG 0) dM)) (ia c))) (kT c) (vw R)=.ok ((cs.filter λf=>fP nx f).map tI):=sE cs tI tI (λf=>fP nx f) rfl (by omega) (λf hf=>⟨_,rfl,eN (e7 rfl rfl (sV (c:=c) (d+1) 84 nx f gn.gl.1 (hg f hf).gl.1 (by omega) (by omega) gn.gl.2 (hg f hf).gl.2)),λ_=>rfl⟩) rfl
   have hc:fM (dY (eM false) (fE (iK [none,some 6] (fB (dG 4)) (iy 0) (fM (dW (dF (dG 1) (dF (dG 0) dM)) (ia c))) (kT c))) (fE (lstM dM))) (vw R)=.ok (cs.filter λf=>fP nx f).isEmpty:=by refine eN (dQ (x:=.lst ((cs.filter λf=>fP nx f).map tI)) (y:=.lst []) (fI e1) (by simp) ?_);rw[rP false _ (by simp) (aM (uv _) (by decide))];simp
   have s1:setO 6 (lz (dW (dF (dW (dF (dG 0) (dF (dY gx (dG 1) (dG 5)) dM)) (eD c)) (dF (dG 2) (dF (dG 4) dM))) (jk c))) [some (.p (.scr ns)),some (.p (.int k0)),some (.p (.int d)),some (.p (.int many)),some (.o (cs.map tI)),some (.p (.int (k:Int))),x6]=.nx R:=wZ (t:=tI nx) (iN (e7 (x:=.scr ns) (y:=.int ((k0+k:Nat):Int)) rfl (dQ rfl rfl (by rw[gz];simp)) ev) rfl rfl en) (Df nx) rfl
   by_cases he:(cs.filter λf=>fP nx f)=[]
   ·refine⟨_,_,rfl,.inl (dP s1 (gd (hc.trans (by rw[he];rfl)) (pJ (us:=cs.map tI) (t:=tI nx) rfl rfl (by simp;omega) rfl))),cs++[nx],_,_,by rw[aY];rfl,by simp;omega,λf hf=>?_,c8.mpr ⟨hp,c9 _ _,λf hf g hg'=>?_⟩⟩
    ·rcases ai.mp hf with q | q
     ·exact hg f q
     ·rw[aj.mp q];exact gn
    ·rw[aj.mp hg',vT (by rw[(hg f hf).gl.1,gn.gl.1])];cases hs:fP nx f with
     | false=>rfl
     | true=>have:f∈cs.filter λf=>fP nx f:=aT.mpr ⟨hf,hs⟩;rw[he] at this;exact nomatch this
   ·refine⟨_,_,rfl,.inl (dP s1 (eV (hc.trans (by
     cases hq:(cs.filter λf=>fP nx f) with
     | nil=>exact absurd hq he
     | cons a l=>rfl)) rfl)),cs,_,_,rfl,by omega,hg,hp⟩)
 rw[aF,dk] at hl;exact⟨cs,nG rfl (dP (jx (ts:=[]) (by simp) rfl) (dP (jL (kW many (by omega) rfl) e) rfl)),⟨hg,by omega,hp⟩,hl⟩
theorem Cy(d:Nat)(us:LL){f:Pe->M T}{ρ:Pe}(hf:f ρ=.ok (i6 c d us)):nR c.Cutting "many" f dM (f9 c) ρ=.ok (.int us.length):=by
 have h1:nH c.Cutting "many" (i6 c d us)=.ok ():=by unfold nH i6;exact aP ⟨rfl,rfl⟩
 have h2:f9 c [i6 c d us]=.ok (.int us.length):=eP rfl (eC (kx (v7 (C:=c.Cutting) (x:= "own_cuts") (fs:=[("own_cuts",.tup (us.map tI)),("own_dims",.int d)]) rfl rfl) (by simp)));simp only[nR,hf,M.bind_ok,h1,dM,h2,M.noEr_ok]
theorem HQ{ρ:Pe}{f1 f2 f3 f4:Pe->M T}{a1 a2 a3 a4:T}(h1:f1 ρ=.ok a1)(h2:f2 ρ=.ok a2)(h3:f3 ρ=.ok a3)(h4:f4 ρ=.ok a4):lstM (dF f1 (dF f2 (dF f3 (dF f4 dM)))) ρ=.ok [a1,a2,a3,a4]:=by simp only[lstM,dF,dM,h1,h2,h3,h4,M.bind_ok];rfl
theorem Iv(a b:Str)(ha:(PyData.str a).canLay0=true)(hb:(PyData.str b).canLay0=true):eM false (.str a) (.str b)=.ok (.bl (a == b)):=by simp[eM,ja,qD,lA,ha,hb]
theorem zu{d:Nat}{X:Nat->Rat}(u:LI)(k:Int):lp d X (vc (u.map λx=>k*x))=(k:Rat)*lp d X (vc u):=by have:=rq (d:=d) (X:=X) (vc u) (vc u) (vc (u.map λx=>k*x)) 1 k 0 (λi=>by rw[jA];omega);have h1:((1:Int):Rat)=1:=rfl;have h0:((0:Int):Rat)=0:=rfl;rw[h1,h0] at this;grind
def ym(k:Nat->Int)(us:LL):LL:=(List.range us.length).map λi=>(us.getD i []).map λx=>k i*x
theorem AC(a b:LI){k m:Int}(hk:k≠0)(hm:m≠0):fP (a.map λx=>k*x) (b.map λx=>m*x)=fP a b:=by
 unfold fP;rw[aw];congr 1;funext i;congr 1;funext j;rw[jA,jA,jA,jA];have e1:k*vc a i*(m*vc b j)=(k*m)*(vc a i*vc b j):=by grind
 have e2:k*vc a j*(m*vc b i)=(k*m)*(vc a j*vc b i):=by grind
 rw[e1,e2];have km:k*m≠0:=cY hk hm;by_cases q:vc a i*vc b j=vc a j*vc b i
 ·rw[q,beq_self_eq_true,beq_self_eq_true]
 ·rw[beq_eq_false_iff_ne.mpr q,beq_eq_false_iff_ne.mpr λz=>q (c5 km z)]
theorem EN{d B:Nat}{us:LL}(h:vX d B us)(k:Nat->Int)(hk:∀i,i<us.length->k i≠0/\(k i).natAbs<8):vX d (B+3) (ym k us):=by
 refine⟨λf hf=>?_,by unfold ym;rw[aw,dk];exact h.few,?_⟩
 ·obtain⟨i,hi,rfl⟩:=aC.mp hf;have il:=aR.mp hi;obtain⟨k0,k8⟩:=hk i il;have eu:us.getD i []=us[i]:=by rw[af,ag il];rfl
  rw[eu];have g:=h.gc _ (aU il);refine⟨⟨by rw[aw];exact g.gl.1,λx hx=>?_⟩,?_⟩
  ·obtain⟨y,hy,rfl⟩:=aC.mp hx;exact (Bn.mul (m:=3) (by unfold Bn;exact k8) (g.gl.2 y hy)).mono (by omega)
  ·obtain⟨p,hp,hne⟩:=g.re;exact⟨p,hp,by rw[jA];exact cY k0 hne⟩
 ·rw[df];intro i j hi hj hij;unfold ym at hi hj ⊢;rw[aw,dk] at hi hj;rw[cP,cP,dm,dm,AC _ _ (hk i hi).1 (hk j hj).1];have e1:us.getD i []=us[i]:=by rw[af,ag hi];rfl
  have e2:us.getD j []=us[j]:=by rw[af,ag hj];rfl
  rw[e1,e2];exact df.mp h.pw i j hi hj hij
theorem vX.mono{d B B':Nat}{us:LL}(h:vX d B us)(hB:B<=B'):vX d B' us:=⟨λf hf=>(h.gc f hf).mono hB,h.few,h.pw⟩
theorem EY{p:Int×Int}{t b:Int}(hp:0<p.2)(hb:b≠0)(h:qv p=(t:Rat) / (b:Rat)):p.1*b=t*p.2:=by
 have h1:=Ba hb;have h2:=Ba (show p.2≠0 by omega);unfold qv at h;have h3:(p.1:Rat)*(b:Rat)=(t:Rat)*(p.2:Rat):=by grind
 exact_mod_cast h3
theorem vL(M:Nat)(hM:4*M+1<=8000)(h1M:1<=M)(s:List (Int×Int))(hl:s.length<=3)(hs:∀p∈s,0<p.2/\Bn M p.1/\Bn M p.2):∃(u:LI) (g S:Int),i7 c [.lst (s.map fr)]=.ok (tI u)/\u.length=s.length/\(∀x∈u,Bn (4*M+1) x)/\0<g/\0<S/\∀k p,s[k]? = some p->g*vc u k*p.2=S*p.1:=by
 have sz:1000<sizeLine:=by decide
 obtain⟨ρ,e,S,y2,rfl,h1,h2,h3⟩:=fQ (m:=iY 2) (g:=mP c) fr
  (λk ρ=>∃(S:Int) (y2:Option W),ρ=[some (.p (.lst (s.map fr))),some (.p (.int S)),y2]/\0<S/\S.natAbs<=2 ^ (M*k)/\∀p∈s.take k,p.2 ∣ S)
  s 0 _ ⟨1,none,rfl,by decide,by simp,λp hp=>by simp at hp⟩ (by
   rintro i ⟨a,b⟩ ρ hi ⟨S,y2,rfl,h1,h2,h3⟩;rw[aF] at h2 h3 ⊢;have hG:=hs _ (au hi);have il:=(aa.mp hi).1;have hb0:=hG.1;have hb:=hG.2.2;dsimp only at hb0 hb;have hS:Bn (3*M+1) S:=by unfold Bn;have:M*i<=M*3:=cZ _ (by omega);exact cN h2 (dt (by decide) (by omega))
   have m1:gH (.int S) (.int b)=.ok (.int (S*b)):=fN (hS.ok hb (by omega) (by omega));have hGp:=Cu.wX S b (by omega);have hGl:=Cu.EI S b (by omega);have f1:ko (.int (S*b)) (.int (Cu.G S b))=.ok (.int ((S*b).fdiv (Cu.G S b))):=jq (by omega) (by refine Bn.noPy (n:=M) ?_ (by omega);unfold Bn at *;omega)
   obtain⟨q1,q2,q3,q4⟩:=zp S b h1 hb0;refine⟨_,_,rfl,.inl (ee (t:=.int ((S*b).fdiv (Cu.G S b))) (dQ (dQ rfl (dQ rfl rfl (HW a b)) m1) (e7 rfl (dQ rfl rfl (HW a b)) (iH S b)) f1) rfl),_,_,rfl,q1,?_,λp hp=>?_⟩
   ·refine aM q4 ?_;rw[aX,Nat.mul_add,Nat.pow_add,Nat.mul_one];exact dc h2 (bc hb)
   ·rw[ie _ i _ hi] at hp;rcases ai.mp hp with q | q
    ·exact cK (h3 p q) q2
    ·rw[aj.mp q];exact q3)
 rw[aF,cO] at h3;rw[aF] at h2;have hS:Bn (3*M+1) S:=by unfold Bn;have:M*s.length<=M*3:=cZ _ hl;exact cN h2 (dt (by decide) (by omega))
 let ws:LI:=s.map λ(p:Int×Int)=>p.1*S.fdiv p.2;have hq:∀p∈s,Bn (3*M+1) (S.fdiv p.2):=λp hp=>cN (md (h3 p hp) (by have:=(hs p hp).1;omega)) hS;have hwb:∀x∈ws,Bn (4*M+1) x:=λx hx=>by obtain⟨p,hp,rfl⟩:=aC.mp hx;exact ((hs p hp).2.1.mul (hq p hp)).mono (by omega)
 have hwl:ws.length=s.length:=by simp[ws]
 obtain⟨g,u,hg0,eu,hul,huv,hub⟩:=qZ (c:=c) (4*M+1) hM ws (by omega) hwb;have e1:iK [none,some 1] (fB (dG 0)) (iy 0) (λ_=>.ok true) (l9 c) (vw [some (.p (.lst (s.map fr))),some (.p (.int S)),y2])=.ok (ws.map T.int):=gw s fr (λp=>T.int (p.1*S.fdiv p.2)) rfl (by omega) (λp hp=>⟨_,rfl,rfl,by obtain⟨a,b⟩:=p;have hG:=hs _ hp;have hb0:=hG.1;have hb:=hG.2.2;have ha:=hG.2.1;have hq1:=hq _ hp;dsimp only at hb0 hb ha hq1;exact dQ (dQ rfl rfl (Jf a b)) (dQ rfl (dQ rfl rfl (HW a b)) (jq (by omega) (hb.noPy (by omega)))) (fN (ha.ok hq1 (by omega) (by omega)))⟩) (by rw[aH];rfl)
 refine⟨u,g,S,eP rfl (dP (ee (t:=.int 1) rfl rfl) (dP (h8 rfl e) (eC (qN (x:=tI ws) (kx (t:=.lst (ws.map T.int)) (fI e1) rfl) eu)))),by omega,hub,hg0,h1,λk p hk=>?_⟩;have hm:=au hk;have wk:vc ws k=p.1*S.fdiv p.2:=Ew s (λ(p:Int×Int)=>p.1*S.fdiv p.2) k _ hk;rw[<-huv k,wk,cw,Ai (h3 _ hm) (by have:=(hs _ hm).1;omega),cy]
structure Wy(d:Nat)(pv:List (Nat×LI))(f:Nat)(u:LI):Prop where
 len:u.length=d
 pos:0<vc u f
 oth:∀k,k<d->k≠f->(∀p∈pv,p.1≠k)->vc u k=0
 piv:∀p∈pv,vc p.2 p.1*vc u p.1 = -(vc p.2 f*vc u f)
theorem lB{α:Type}(l:List α)(k:Nat)(v w:α)(h:k<l.length):(l.set k v).getD k w=v:=by rw[af,List.getElem?_set_self h];rfl
theorem jK{α:Type}(l:List α){k j:Nat}(v w:α)(h:k≠j):(l.set k v).getD j w=l.getD j w:=by rw[af,aq h,<-af]
theorem rS(d M L:Nat)(hd:d<=3)(hM:4*M+1<=8000)(h1M:1<=M)(hdL:d<L)(pv:List (Nat×LI))(hp:∀p∈pv,p.1<d/\p.2.length=L/\vc p.2 p.1≠0/\∀x∈p.2,Bn M x)(hw:pv.Pairwise λp q=>p.1≠q.1/\vc q.2 p.1=0/\vc p.2 q.1=0)(f:Nat)(hf:f<d)(hff:∀p∈pv,p.1≠f) :
  ∃u,ij c [.lst (pv.map iT),.int (d:Int),.int (f:Int)]=.ok (tI u)/\Wy d pv f u/\∀x∈u,Bn (4*M+1) x:=by
 have sz:1000<sizeLine:=by decide
 have b1:Bn M (1:Int):=by unfold Bn;exact Nat.one_lt_two_pow (by omega)
 let s0:List (Int×Int):=(List.replicate d ((0,1):Int×Int)).set f (1,1);have l0:s0.length=d:=by simp[s0]
 let R (s':List (Int×Int)) (x3 x4:Option W):En:=[some (.p (.lst (pv.map iT))),some (.p (.int (d:Int))),some (.p (.int (f:Int))),some (.o (s'.map fr)),x3,x4];have z0:∀k,k≠f->s0.getD k (0,1)=(0,1):=λk hk=>by show ((List.replicate d ((0,1):Int×Int)).set f (1,1)).getD k (0,1)=(0,1);rw[jK _ _ _ (Ne.symm hk),af,List.getElem?_replicate];split<;>rfl
 obtain⟨ρ,e,s',x3,x4,rfl,k1,k2,k3,k4,k5⟩:=fQ (m:=jG 2 (fu (iY 4) (fu (iY 5) jI))) (g:=kc c) iT
  (λi ρ=>∃(s':List (Int×Int)) (x3 x4:Option W),ρ=R s' x3 x4/\s'.length=d/\(∀p∈s',0<p.2/\Bn M p.1/\Bn M p.2)/\s'.getD f (0,1)=(1,1)/\(∀k,k≠f->(∀p∈pv.take i,p.1≠k)->s'.getD k (0,1)=(0,1))/\∀p∈pv.take i,(s'.getD p.1 (0,1)).1*vc p.2 p.1 = -(vc p.2 f)*(s'.getD p.1 (0,1)).2)
  pv 0 (R s0 none none) ⟨s0,none,none,rfl,l0,(λp hp=>by
   rcases c6 hp with q | q
   ·rw[a9 q];exact⟨by decide,mX,b1⟩
   ·rw[q];exact⟨by decide,b1,b1⟩),lB _ _ _ _ (by simpa using hf),λk hk _=>z0 k hk,λp hp=>by simp at hp⟩ (by
   rintro i ⟨a,pr⟩ ρ hi ⟨s',x3,x4,rfl,k1,k2,k3,k4,k5⟩;rw[aF] at k4 k5 ⊢;have hm:=au hi;obtain⟨ha,hl,hne,hb⟩:=hp _ hm;have haf:=hff _ hm;simp only at ha hl hne hb haf;have hpre:∀p∈pv.take i,p.1≠a:=λp hp'=>by
    obtain⟨j,hj⟩:=de.mp hp';rw[List.getElem?_take] at hj;split at hj
    ·rename_i jl;have h1:=aa.mp hj;have h2:=aa.mp hi;have:=df.mp hw j i h1.1 h2.1 jl;rw[h1.2,h2.2] at this;exact this.1
    ·cases hj
   have bx:∀k,k<L->Bn M (vc pr k):=λk hk=>hb _ (by unfold vc;rw[af,ag (show k<pr.length by omega)];exact aU _)
   obtain⟨o,e2,g2,v2⟩:=mL (c:=c) M M (-(vc pr f)) (vc pr a) hne (by unfold Bn;rw[cG];exact bx f (by omega)) (bx a (by omega)) (by omega);have cr:=EY g2.pos hne v2;have st:kc c (R s' (some (.p (.int (a:Int)))) (some (.p (tI pr))))=.nx (R (s'.set a o) (some (.p (.int (a:Int)))) (some (.p (tI pr)))):=by
    refine oN (us:=s'.map fr) rfl (e7 (x:=.int (-(vc pr f))) (y:=.int (vc pr a)) (uC (dQ rfl rfl (gF pr f (by omega)))) (dQ rfl rfl (gF pr a (by omega))) e2) rfl (j:=(a:Int)) (m:=a) rfl ?_ ?_
    ·rw[aw];exact oz _ _ (by omega)
    ·simp[R,cV]
   have tk:=ie _ i (a,pr) hi;refine⟨_,_,rfl,.inl st,s'.set a o,_,_,rfl,by rw[bN,k1],λp hp'=>?_,?_,?_,?_⟩
   ·rcases c6 hp' with q | q
    ·exact k2 p q
    ·rw[q];exact⟨g2.pos,g2.b1,g2.b2⟩
   ·rw[jK _ _ _ haf];exact k3
   ·intro k hk hk';have qa:a≠k:=hk' (a,pr) (by rw[tk];simp);rw[jK _ _ _ qa];exact k4 k hk λp hp'=>hk' p (by rw[tk];simp[hp'])
   ·intro p hp';rw[tk] at hp';rcases ai.mp hp' with q | q
    ·rw[jK _ _ _ (Ne.symm (hpre p q))];exact k5 p q
    ·have:p=(a,pr):=by simpa using q
     subst this;simp only;rw[lB _ _ _ _ (by omega)];exact cr)
 rw[aF,cO] at k4 k5;obtain⟨u,g,S,e3,ul,ub,hg,hS,hu⟩:=vL (c:=c) M hM h1M s' (by omega) k2;have hu':∀k,k<d->g*vc u k*(s'.getD k (0,1)).2=S*(s'.getD k (0,1)).1:=λk hk=>hu k _ (by rw[af,ag (by omega)];rfl);have uf:g*vc u f=S:=by have:=hu' f hf;rw[k3] at this;simpa using this
 refine⟨u,eP rfl (dP (ρ':=R (List.replicate d (0,1)) none none) (jx (uV (Da d (by omega) rfl)) rfl) (dP (ρ':=R s0 none none) (oN (us:=(List.replicate d ((0,1):Int×Int)).map fr) (t:=fr (1,1)) rfl (pX rfl rfl) rfl (j:=(f:Int)) (m:=f) rfl (by rw[aw,bH];exact oz _ _ hf) (by simp[R,s0,cV])) (dP (h8 rfl e) (eC (qN rfl e3))))),⟨by omega,?_,λk hk hkf hkp=>?_,λp hp'=>?_⟩,ub⟩
 ·refine aN λhc=>?_;have:g*vc u f<=g*0:=cI (by omega) (by omega);rw[uf,cJ] at this;omega
 ·have:=hu' k hk;rw[k4 k hkf hkp] at this;have z:g*vc u k=0:=by simpa using this
  exact nk (by omega) z
 ·have h1:=hu' p.1 (hp p hp').1;have h2:=k5 p hp';have hq:0<(s'.getD p.1 (0,1)).2:=(k2 _ (by rw[af,ag (show p.1<s'.length by have:=(hp p hp').1;omega)];exact aU _)).1
  generalize (s'.getD p.1 (0,1)).2=q2 at *;generalize (s'.getD p.1 (0,1)).1=q1 at *;have gq:g*q2≠0:=cY (by omega) (by omega);refine c5 gq ?_;calc g*q2*(vc p.2 p.1*vc u p.1)=(g*vc u p.1*q2)*vc p.2 p.1:=by ac_rfl
   _=S*(q1*vc p.2 p.1):=by rw[h1];ac_rfl
   _=(g*vc u f)*(-(vc p.2 f)*q2):=by rw[h2,uf]
   _=g*q2 * -(vc p.2 f*vc u f):=by grind
def nL(so:List Nat):T:=.lst (so.map λ(k:Nat)=>T.int (k:Int))
theorem Dm(so:List Nat):nL so=tL (so.map λ(k:Nat)=>(k:Int)):=by unfold nL tL;rw[aH];rfl
theorem wU{α:Type}[Inhabited α](l:List α)(f:α->T)(k:Nat)(w:α)(h:k<l.length):fC (.lst (l.map f)) (.int (k:Int))=.ok (f (l.getD k w)):=by have e:=vE (l.map f) k (by rw[aw];exact h);rw[cP] at e;show (match lu (l.map f) (k:Int) with | some t=>M.ok t | none=>.bad)=_;rw[e,af,ag h];rfl
theorem rY(k n:Nat)(h:k<n):gI c [.int (k:Int),.int (n:Int)]=.ok (.bl true):=by
 have w:∀i:Int,fJ c [.int i]=.ok (.bl true):=λi=>rfl;refine eP rfl (eC ?_);have h1:(0:Int)<=(k:Int):=by omega
 have h2:(k:Int)<(n:Int):=by omega
 simp[w,h1,h2]
theorem oM(d:Nat)(cs:LL)(so:List Nat)(hs:∀k∈so,k<cs.length)(nd:so.Nodup)(hl:so.length<64):eW c [i6 c d cs,nL so]=.ok (.bl true):=by
 have sz:1000<sizeLine:=by decide
 have e1:iK [none,some 0] (fB (dG 1)) (iy 0) (λ_=>.ok true) (iC c) (vw (eT 2 [i6 c d cs,nL so]))=.ok ((so.map λ_=>true).map T.bl):=gw so (λ(k:Nat)=>T.int (k:Int)) (λ_=>T.bl true) rfl (by omega) (λk hk=>⟨_,rfl,rfl,e7 rfl (Cy d cs rfl) (rY k _ (hs k hk))⟩) (by rw[aH];rfl)
 refine eP rfl (dP (eV (lX (eN (b:=true) rfl) rfl) rfl) (dP (eV (lX (eN (b:=true) (mS e1 (by rw[oh];simp))) rfl) rfl) (eC ?_)));have h1:zX (dF (dG 1) dM) (vw (eT 2 [i6 c d cs,nL so]))=.ok (.int (so.length:Int)):=by
  have:DQ [tL (so.map λ(k:Nat)=>(k:Int))]=.ok (.int (so.length:Int)):=by unfold DQ tL;simp only[xN];have nd':(so.map λ(k:Nat)=>(k:Int)).Nodup:=c7.mpr (nd.imp λq z=>q (by omega));rw[aP (by rw[aw];exact hl),xS nd',aw]
  rw[<-Dm] at this;simp only[zX,dF,dM,M.bind_ok];exact this
 refine dQ (y:=.int (so.length:Int)) h1 (kx (t:=nL so) rfl (by simp[nL])) ?_;rw[fV];simp
theorem Gp(d:Nat)(hd:d<=3):Il d 92:=⟨by decide,λk hk=>by
 have:k=0\/k=1\/k=2\/k=3:=by omega
 rcases this with rfl | rfl | rfl | rfl<;>decide,aM (tE hd) (by decide)⟩
theorem qt{us:LL}{d B:Nat}{dn:List Nat}{pv:List (Nat×LI)}{rs:LL}{ix:List Nat}(h:PV us d B dn pv rs ix):pv.length+(jC pv d).length=d:=by
 refine Nat.le_antisymm (yt h) ?_;have:(List.range d).length<=(pv.map Prod.fst++jC pv d).length:=List.Nodup.length_le_of_subset List.nodup_range λx hx=>by
  have hx:=aR.mp hx;by_cases q:∃p∈pv,p.1=x
  ·obtain⟨p,hp,rfl⟩:=q;exact ax _ (du hp)
  ·exact bt _ (j6.mpr ⟨hx,λp hp e=>q ⟨p,hp,e⟩⟩)
 rw[dk,aS,aw] at this;exact this
structure Iz(us:LL)(d:Nat)(pv:List (Nat×LI))(rs:LL)(s:List (Int×Int))(W:LL):Prop where
 pvs:∃ix,PV us d 92 (List.range us.length) pv rs ix
 rz:∀r∈rs,vc r d=0
 len:s.length=d
 fq:∀p∈s,Fq p/\Bn 1000 p.2
 ky:ky s<=9000
 on:∀u∈us,lp d (Xs s) (vc u)=0
 ways:∃U:Nat->LI,W=(jC pv d).map U/\∀f∈jC pv d,Wy d pv f (U f)/\∀x∈U f,Bn 4000 x
structure HN(us:LL)(d:Nat)(ws:LI):Prop where
 len:ws.length=us.length
 bn:∀x∈ws,Bn 8000 x
 zer:∀k,k<d->sm us.length (λi=>vc ws i*vc (us.getD i []) k)=0
 fin:sm us.length (λi=>vc ws i*vc (us.getD i []) d)≠0
def oq(cs:LL)(so:List Nat):LL:=so.map λk=>cs.getD k []
theorem BB(d:Nat)(cs:LL)(hd:1<=d/\d<=3)(h:vX d 92 cs)(so:List Nat)(hs:∀k∈so,k<cs.length)(nd:so.Nodup) :
  (∃ws,ny c [i6 c d cs,nL so]=.ok (.tup [.str "apart",tL ws])/\HN (oq cs so) d ws)\/
  ∃pv rs s W,ny c [i6 c d cs,nL so]=.ok (.tup [.str "met",tS s,.lst (W.map tI)])/\Iz (oq cs so) d pv rs s W:=by
 have sz:1000<sizeLine:=by decide
 have sol:so.length<=7:=by have:so.length<=(List.range cs.length).length:=List.Nodup.length_le_of_subset nd λx hx=>aR.mpr (hs x hx);rw[dk] at this;have:=h.few;omega
 have gt:∀k∈so,cs.getD k []∈cs:=λk hk=>by rw[af,ag (hs k hk)];exact aU _
 have ul:(oq cs so).length=so.length:=by simp[oq]
 have hl:∀u∈oq cs so,u.length=d+1:=λu hu=>by obtain⟨k,hk,rfl⟩:=aC.mp hu;exact (h.gc _ (gt k hk)).gl.1
 have hb:∀u∈oq cs so,∀x∈u,Bn 92 x:=λu hu=>by obtain⟨k,hk,rfl⟩:=aC.mp hu;exact (h.gc _ (gt k hk)).gl.2
 generalize hus:oq cs so=us at *;have hn:us.length<=8:=by omega
 have hB:=Gp d hd.2;obtain⟨pv,rs,ix,e4,hP,rsl⟩:=vA (c:=c) us d 92 (by omega) hn hl hb hB (List.range us.length) (λz hz=>aR.mp hz) (by rw[dk];exact hn);have ew:=sZ (c:=c) us hn (λr hr=>by have:=hl r hr;omega);rw[Bw] at ew;let R (x4 x5 x6:Option W):En:=[some (.p (i6 c d cs)),some (.p (nL so)),some (.p (.int (d:Int))),some (.p (.lst (cs.map tI))),x4,x5,x6];let fo:T:=.tup [.lst (pv.map iT),.lst (rs.map tI)];have lc1:iK [none,some 3] (fB (dG 1)) (iy 0) (λ_=>.ok true) (wd c) (lE (R none none none))=.ok (us.map tI):=gw so (λ(k:Nat)=>T.int (k:Int)) (λk=>tI (cs.getD k [])) rfl (by omega) (λk hk=>⟨_,rfl,rfl,dQ (x:=.lst (cs.map tI)) rfl rfl (wU cs tI k [] (hs k hk))⟩) (by rw[<-hus];unfold oq;rw[aH];rfl)
 have wb:∀{o:O},(ed (kJ (fB (dY fC (dG 4) (cM (.int 1)))) (iY 5) (si c)) _) (R (some (.p fo)) none none)=o->AX c (eT 7 [i6 c d cs,nL so])=o:=λ{o} h=>dP (eV (lX (eN (e7 rfl rfl (oM d cs so hs nd (by omega)))) rfl) rfl) (dP (ee (B8 d cs rfl) rfl) (dP (ρ':=R none none none) (ee (fI (BE d cs rfl)) rfl) (dP (ρ':=R (some (.p fo)) none none) (ee (e7 (fI (FL (fI lc1) ew)) rfl e4) rfl) h)))
 have hlr:∀r∈rs,r.length=d+1+us.length:=λr hr=>(hP.rr r hr).1;have main:=px (m:=iY 5) (g:=si c) tI
  (λk ρ=>∃(x5:Option W),ρ=R (some (.p fo)) x5 none/\∀r∈rs.take k,vc r d=0)
  (λt=>∃r∈rs,vc r d≠0/\t=.tup [.str "apart",tL (r.drop (d+1))]) rs 0 _ ⟨none,rfl,λr h=>by simp at h⟩ (by
   rintro i r ρ hi ⟨x5,rfl,h⟩;rw[aF] at h ⊢;have hm:=au hi;have hix:fC (tI r) (.int (d:Int))=.ok (.int (vc r d)):=gF r d (by have:=hlr r hm;omega);refine⟨_,rfl,?_⟩;by_cases h0:vc r d=0
   ·left;refine⟨_,eV (eN (dQ (dQ rfl rfl hix) rfl (by rw[kX,h0];rfl))) rfl,_,rfl,λr' hr'=>?_⟩;rw[ie _ i r hi] at hr';rcases ai.mp hr' with q | q
    ·exact h r' q
    ·rw[aj.mp q];exact h0
   ·right;exact⟨_,gd (eN (dQ (dQ rfl rfl hix) rfl (by rw[kX];simp[h0]))) (eC (pX rfl (C3 (uz _ d rfl rfl)))),r,hm,h0,rfl⟩)
 rcases main with⟨ρ,e,x5,rfl,hz⟩ | ⟨t,e,r,hm,h0,rfl⟩
 ·right;rw[aF,cO] at hz;have pq:Pq 92 pv.length<=935:=aM (tE hP.short) (aM (tE hd.2) (by decide));let s0:List (Int×Int):=List.replicate d (0,1);have w0:ky s0<=3:=by
   show ky (List.replicate d (0,1))<=3;have w1:wt (0,1)=1:=by decide
   simp[ky,w1];exact hd.2
  have z0:∀k,s0.getD k (0,1)=(0,1):=λk=>by show (List.replicate d ((0,1):Int×Int)).getD k (0,1)=(0,1);rw[af,List.getElem?_replicate];split<;>rfl
  have pl:∀p∈pv,p.1<d/\p.2.length=d+1+us.length/\vc p.2 p.1≠0/\∀x∈p.2,Bn 936 x:=λp hp=>by obtain⟨h1,h2,h3,h4,-⟩:=hP.pl p hp;exact⟨h1,h2,h3,λx hx=>(h4 x hx).mono (by omega)⟩
  obtain⟨s',q1,q2,q3,q4,q5,q6⟩:=yg (c:=c) d 936 (d+1+us.length) (by omega) (by omega) (by decide) pv s0 (by simp[s0]) 1000 (λp hp=>by rw[a9 hp];exact⟨⟨by decide,by decide⟩,(show Bn 1 (1:Int) by unfold Bn;decide).mono (by decide)⟩) pl hP.pw (λp hp=>z0 p.1) (λ_=>by omega) (λ_=>by omega)
  obtain⟨U,hU⟩:=m6 (P:=λ(f:Nat) (u:LI)=>ij c [.lst (pv.map iT),.int (d:Int),.int (f:Int)]=.ok (tI u)/\Wy d pv f u/\∀x∈u,Bn (4*936+1) x) (jC pv d) λf hf=>rS (c:=c) d 936 (d+1+us.length) hd.2 (by decide) (by decide) (by omega) pv pl hP.pw f (j6.mp hf).1 (j6.mp hf).2
  have e8:=oS (c:=c) pv d (by omega) (by have:=hP.short;omega);have fl:=qt hP;have e9:iB c [.lst (pv.map iT),.int (d:Int)]=.ok (((jC pv d).map U).map tI):=nG rfl (n8 (gw (jC pv d) (λ(k:Nat)=>T.int (k:Int)) (λf=>tI (U f)) (tG (fI (A5 rfl rfl e8))) (by omega) (λf hf=>⟨_,rfl,rfl,iN rfl rfl rfl (hU f hf).1⟩) (by rw[aH];rfl)))
  refine⟨pv,rs,s',(jC pv d).map U,eP rfl (wb (dP (h8 rfl e) (dP (ρ':=R (some (.p fo)) x5 (some (.p (.lst (pv.map iT))))) (ee (dQ rfl rfl rfl) rfl) (eC (HS rfl (e7 rfl (Da d (by omega) rfl) q1) (fI (A5 rfl rfl e9))))))),⟨⟨ix,hP⟩,hz,q2,q3,?_,λu hu=>?_,⟨U,rfl,λf hf=>⟨(hU f hf).2.1,λx hx=>((hU f hf).2.2 x hx).mono (by decide)⟩⟩⟩⟩
  ·have:pv.length*(936+ky s0+20)<=3*(936+3+20):=dc (by have:=hP.short;omega) (by omega);omega
  ·obtain⟨i,hi⟩:=de.mp hu;have il:=(aa.mp hi).1;have ew':lp d (Xs s') (vc (wr us i))=lp d (Xs s') (vc u):=yl λk hk=>by rw[ug us d i il hl,aP (by omega),wy us i u [] hi]
   rw[<-ew'];refine Qs.evl0 (λx hx=>?_) (hP.sp i (aR.mpr il));rcases hx with⟨p,hp,rfl⟩ | ⟨r,hr,rfl⟩
   ·exact q5 p hp
   ·rw[mU (hP.rr r hr).2.1,hz r hr];simp
 ·left;obtain⟨rl,rz,lin,-,rb⟩:=hP.rr r hm;have vd:∀i,vc (r.drop (d+1)) i=vc r (d+1+i):=λi=>BA _ _ _;have Hf:∀k,k<=d->sm us.length (λi=>vc (r.drop (d+1)) i*vc (us.getD i []) k)=vc r k:=λk hk=>by rw[lin k hk];exact fz _ _ _ λi _=>by rw[vd]
  refine⟨_,eP rfl (wb (jc (h8 rfl e) rfl)),by rw[bL];omega,λx hx=>(rb x (List.mem_of_mem_drop hx)).mono (hB.le d (aJ _)),λk hk=>by rw[Hf k (by omega)];exact rz k hk,by rw[Hf d (aJ _)];exact h0⟩
theorem l5(m:Nat)(A u:Vc):jg m A u=jg m u A:=by unfold jg;exact fz _ _ _ λi _=>cy _ _
theorem Qs.lfn0{d:Nat}{v:Vc}{P:Vc->Prop}(h:∀x,P x->jg d v x=0){z:Vc}(q:Qs P z):jg d v z=0:=by
 induction q with
 | of p=>exact h _ p
 | zero=>unfold jg;rw[fz d _ (λ_=>0) λi _=>cJ _,lq]
 | lin hx hy hs e i1 i2=>have:=rO (m:=d) (A:=v) e;rw[i1,i2] at this;exact nk hs (by rw[this];simp)
theorem wC{d:Nat}{v:Vc}:∀(n:Nat) (g:Nat->Vc) (t:Vc),(∀i,i<n->jg d v (g i)=0)->jg d v (Lt n g t)=0
 | 0,g,t,_=>by show sm d (λi=>v i*0)=0;rw[fz d _ (λ_=>0) λi _=>cJ _,lq]
 | n+1,g,t,h=>by
  have q:=wC n (λj=>g (j+1)) (λj=>t (j+1)) λi hi=>h (i+1) (by omega);have l:=rO (m:=d) (A:=v) (x:=g 0) (y:=Lt n (λj=>g (j+1)) (λj=>t (j+1))) (z:=Lt (n+1) g t) (s:=1) (a:=t 0) (b:=1) (λi=>by show 1*(t 0*g 0 i+sm n λj=>t (j+1)*g (j+1) i)=t 0*g 0 i+1*(sm n λj=>t (j+1)*g (j+1) i);omega)
  rw[q,h 0 (by omega)] at l;simpa using l
theorem Ay{d:Nat}{X:Nat->Rat}:∀(n:Nat) (g:Nat->Vc) (t:Vc),(∀i,i<n->lp d X (g i)=0)->lp d X (Lt n g t)=0
 | 0,g,t,_=>by have z:Lt 0 g t=λ_=>0:=rfl;rw[z,mU λ_ _=>rfl];simp
 | n+1,g,t,h=>by
  have q:=Ay n (λj=>g (j+1)) (λj=>t (j+1)) λi hi=>h (i+1) (by omega);have l:=rq (d:=d) (X:=X) (g 0) (Lt n (λj=>g (j+1)) (λj=>t (j+1))) (Lt (n+1) g t) 1 (t 0) 1 (λi=>by show 1*(t 0*g 0 i+sm n λj=>t (j+1)*g (j+1) i)=t 0*g 0 i+1*(sm n λj=>t (j+1)*g (j+1) i);omega)
  have h1:((1:Int):Rat)=1:=rfl;rw[q,h 0 (by omega),h1] at l;grind
theorem DI(n k:Nat)(f:Nat->Int)(hk:k<n)(h:∀i,i<n->i≠k->f i=0):sm n f=f k:=by
 rw[<-uP n k f hk];exact fz _ _ _ λi hi=>by
  by_cases e:i=k
  ·rw[aP e];simp
  ·rw[aQ e,h i hi e];simp
section
variable {us us':LL}{d B B':Nat}{dn dn' ix ix':List Nat}{pv pv':List (Nat×LI)}{rs rs':LL}
theorem PV.off(h:PV us d B dn pv rs ix){p q:Nat×LI}(hp:p∈pv)(hq:q∈pv)(ne:p.1≠q.1):vc p.2 q.1=0:=by
 obtain⟨i,hi⟩:=de.mp hp;obtain⟨j,hj⟩:=de.mp hq;have hi':=aa.mp hi;have hj':=aa.mp hj;rcases dw i j with z | z | z
 ·have:=df.mp h.pw i j hi'.1 hj'.1 z;rw[hi'.2,hj'.2] at this;exact this.2.2
 ·subst z;rw[hi] at hj;cases hj;exact absurd rfl ne
 ·have:=df.mp h.pw j i hj'.1 hi'.1 z;rw[hi'.2,hj'.2] at this;exact this.2.1
theorem PV.null(hl:∀u∈us,u.length=d+1)(h:PV us d B (List.range us.length) pv rs ix){v:Vc}(hv:∀p∈pv,jg d (vc p.2) v=0):∀u∈us,jg d (vc u) v=0:=λu hu=>by
 obtain⟨i,hi⟩:=de.mp hu;have il:=(aa.mp hi).1;have e:jg d (vc (wr us i)) v=jg d (vc u) v:=fz _ _ _ λk hk=>by rw[ug us d i il hl,aP (by omega),wy us i u [] hi]
 rw[<-e,l5];refine Qs.lfn0 (λx hx=>?_) (h.sp i (aR.mpr il));rcases hx with⟨p,hp,rfl⟩ | ⟨r,hr,rfl⟩
 ·rw[l5];exact hv p hp
 ·show sm d (λi=>v i*vc r i)=0;rw[fz d _ (λ_=>0) λi hi=>by rw[(h.rr r hr).2.1 i hi];exact cJ _,lq]
theorem PV.null'(h:PV us d B dn pv rs ix){v:Vc}(hv:∀u∈us,jg d (vc u) v=0):∀p∈pv,jg d (vc p.2) v=0:=λp hp=>by
 have lin:=(h.pl p hp).2.2.2.2.1;have e:jg d (vc p.2) v=jg d (Lt us.length (λi=>vc (us.getD i [])) (λi=>vc p.2 (d+1+i))) v:=fz _ _ _ λk hk=>by rw[lin k (by omega)];rfl
 rw[e,l5];refine wC _ _ _ λi hi=>?_;rw[l5];refine hv _ ?_;rw[af,ag hi];exact aU _
theorem oo(hl:∀u∈us,u.length=d+1)(h:PV us d B (List.range us.length) pv rs ix)(h':PV us' d B' dn' pv' rs' ix')(ex:List Vc)
  (hx:∀v:Vc,(∀u∈us,jg d (vc u) v=0)->(∀e∈ex,jg d e v=0)->∀u∈us',jg d (vc u) v=0):pv'.length<=pv.length+ex.length:=by
 refine Nat.le_of_not_lt λhlt=>?_;have nd:(pv'.map Prod.fst).Nodup:=c7.mpr (h'.pw.imp λq=>q.1);obtain⟨v,⟨j,hj⟩,out,eq⟩:=oJ d (pv.map (λp=>vc p.2)++ex) (pv'.map Prod.fst) nd (λt ht=>by obtain⟨p,hp,rfl⟩:=aC.mp ht;exact (h'.pl p hp).1) (by rw[aS,aw,aw];exact hlt)
 have hu:=PV.null hl h λp hp=>eq _ (ax _ (du (f:=λp:Nat×LI=>vc p.2) hp));have hu':=hx v hu λe he=>eq e (bt _ he);have hp':=PV.null' h' hu';have hjm:j∈pv'.map Prod.fst:=aN λz=>hj (out j z);obtain⟨p,hp,rfl⟩:=aC.mp hjm;have e:=hp' p hp;unfold jg at e;rw[DI d p.1 _ (h'.pl p hp).1 λi hi ne=>by
  by_cases q:i∈pv'.map Prod.fst
  ·obtain⟨q,hq,rfl⟩:=aC.mp q;rw[h'.off hp hq (Ne.symm ne)];exact cR _
  ·rw[out i q];exact cJ _] at e
 exact hj (nk (h'.pl p hp).2.2.1 e)
end
theorem vK:(PyData.str "apart").canLay0=true:=by decide +kernel
theorem E8:(PyData.str "met").canLay0=true:=by decide +kernel
theorem FK:eM false (.str "apart") (.str "apart")=.ok (.bl true):=by rw[Iv _ _ vK vK];congr 2
theorem Eb:eM false (.str "met") (.str "apart")=.ok (.bl false):=by rw[Iv _ _ E8 vK];congr 2
def Ex(d:Nat)(us:LL):Prop:=∃X:Nat->Rat,∀u∈us,lp d X (vc u)=0
def xU(us:LL)(d:Nat)(k:Int):Prop:=(k = -1/\¬Ex d us)\/(Ex d us/\∃pv rs ix,PV us d 92 (List.range us.length) pv rs ix/\k=(d:Int) - pv.length)
theorem HN.noEx{us:LL}{d:Nat}{ws:LI}(h:HN us d ws):¬Ex d us:=λ⟨X,hX⟩=>by
 have z:=Ay us.length (λi=>vc (us.getD i [])) (vc ws) λi hi=>hX _ (by rw[af,ag hi];exact aU _)
 rw[mU (x:=Lt us.length (λi=>vc (us.getD i [])) (vc ws)) λk hk=>h.zer k hk] at z;have e:((Lt us.length (λi=>vc (us.getD i [])) (vc ws) d:Int):Rat)=0:=by grind
 exact h.fin (by exact_mod_cast e)
theorem mO(d:Nat)(cs:LL)(hd:1<=d/\d<=3)(h:vX d 92 cs)(so:List Nat)(hs:∀k∈so,k<cs.length)(nd:so.Nodup):∃k,gy c [i6 c d cs,nL so]=.ok (.int k)/\xU (oq cs so) d k:=by
 rcases BB (c:=c) d cs hd h so hs nd with⟨ws,e,a⟩ | ⟨pv,rs,s,W,e,m⟩
 ·exact⟨-1,eP rfl (dP (ee (e7 rfl rfl e) rfl) (jc (gd (eN (b:=true) (dQ (dQ rfl rfl rfl) rfl FK)) (eC rfl)) rfl)),.inl ⟨rfl,a.noEx⟩⟩
 ·obtain⟨ix,hP⟩:=m.pvs;obtain⟨U,rfl,-⟩:=m.ways;have fl:=qt hP;refine⟨((jC pv d).length:Int),eP rfl (dP (ee (e7 rfl rfl e) rfl) (dP (eV (eN (b:=false) (dQ (dQ rfl rfl rfl) rfl Eb)) rfl) (eC (kx (dQ rfl rfl rfl) ?_)))),.inr ⟨⟨Xs s,m.on⟩,pv,rs,ix,hP,by omega⟩⟩;simp
theorem A7{us us':LL}{d:Nat}{k k':Int}(hl:∀u∈us,u.length=d+1)(hl':∀u∈us',u.length=d+1)(he:Ex d us↔Ex d us')(hv:∀v:Vc,(∀u∈us,jg d (vc u) v=0)↔∀u∈us',jg d (vc u) v=0)(a:xU us d k)(b:xU us' d k'):k=k':=by
 rcases a with⟨rfl,n⟩ | ⟨x,pv,rs,ix,hP,rfl⟩<;>rcases b with⟨rfl,n'⟩ | ⟨x',pv',rs',ix',hP',rfl⟩
 ·rfl
 ·exact absurd (he.mpr x') n
 ·exact absurd (he.mp x) n'
 ·have h1:=oo hl hP hP' [] λv z _=>(hv v).mp z;have h2:=oo hl' hP' hP [] λv z _=>(hv v).mpr z;simp only[cU] at h1 h2;omega
theorem Cg{us us':LL}{d:Nat}{k k':Int}{e:Vc}(hl:∀u∈us,u.length=d+1)(hl':∀u∈us',u.length=d+1)(hs:∀u∈us',u∈us)(hv:∀u∈us,u∈us'\/vc u=e)(a:xU us d k)(b:xU us' d k'):k = -1\/(0<=k/\k<=k'/\k'<=k+1):=by
 rcases a with⟨rfl,n⟩ | ⟨⟨X,hX⟩,pv,rs,ix,hP,rfl⟩
 ·exact .inl rfl
 ·right;have sh:=hP.short;rcases b with⟨rfl,n'⟩ | ⟨x',pv',rs',ix',hP',rfl⟩
  ·exact absurd ⟨X,λu hu=>hX u (hs u hu)⟩ n'
  ·have h1:=oo hl hP hP' [] λv z _ u hu=>z u (hs u hu);have h2:=oo hl' hP' hP [e] λv z y u hu=>by
    rcases hv u hu with q | q
    ·exact z u q
    ·rw[q];exact y e (by simp)
   simp only[cU,bU] at h1 h2;omega
structure Fh(n m:Nat)(so:List Nat):Prop where
 pw:so.Pairwise (· < ·)
 lt:∀k∈so,k<n
 len:so.length<=m
theorem qL:∀so:List Nat,iR (so.map λ(k:Nat)=>T.int (k:Int))=true
 | []=>rfl
 | k::so=>by simp[iR,ja,qL so]
theorem qj:∀so:List Nat,mB (so.map λ(k:Nat)=>T.int (k:Int))=0
 | []=>rfl
 | k::so=>by simp[mB,qD,qj so]
theorem zv(so:List Nat):ja (nL so)=true:=qL so
theorem EJ(so:List Nat):qD (nL so)=1:=by show mB _+1=1;rw[qj]
theorem tR:∀L:List (List Nat),iR (L.map nL)=true
 | []=>rfl
 | so::L=>by simp[iR,zv,tR L]
theorem wB(so:List Nat):eM true (nL so) (.lst [])=.ok (.bl (!decide (so=[]))):=by have h:=vP true (so.map λ(k:Nat)=>(k:Int)) [];rw[Dm];refine Eq.trans h ?_;simp
theorem xV(so:List Nat)(L:List (List Nat)):ue true (nL so) (.lst (L.map nL))=.ok (.bl (!jb (nL so) (L.map nL))):=by unfold ue;simp[zv,tR,EJ]
def lO(so:List Nat):Nat:=match so.getLast? with
 | some k=>k+1
 | none=>0
theorem Ds(so:List Nat){f:Pe->M T}{ρ:Pe}(hf:f ρ=.ok (nL so)):FW (fM (dY (eM true) f (fE (lstM dM)))) (dY gx (dY fC f (qG (λi=>.int (-i)) (cM (.int 1)))) (cM (.int 1))) (cM (.int 0)) ρ=.ok (.int (lO so:Int)):=by
 have e0:fE (lstM dM) ρ=.ok (.lst []):=rfl;rcases dy so with rfl | ⟨l,k,rfl⟩
 ·have h:fM (dY (eM true) f (fE (lstM dM))) ρ=.ok false:=eN (dQ hf e0 (by rw[wB];rfl));simp only[FW,h,M.bind_ok];rfl
 ·have h:fM (dY (eM true) f (fE (lstM dM))) ρ=.ok true:=eN (dQ hf e0 (by rw[wB];simp));have hi:dY fC f (qG (λi=>.int (-i)) (cM (.int 1))) ρ=.ok (.int (k:Int)):=dQ hf (y:=.int (-1)) rfl (by unfold nL;rw[dz,aY];exact CO _ _)
  have hb:lO (l.concat k)=k+1:=by unfold lO;rw[dz,List.getLast?_append];rfl
  simp only[FW,h,M.bind_ok,if_true];rw[hb];exact dQ hi rfl (gz _ _)
theorem Ef{n m:Nat}{so:List Nat}(h:Fh n m so):∀k∈so,k<lO so:=λk hk=>by
 rcases dy so with rfl | ⟨l,x,rfl⟩
 ·cases hk
 ·have hb:lO (l.concat x)=x+1:=by unfold lO;rw[dz,List.getLast?_append];rfl
  rw[hb];rw[dz] at hk;have pw:=h.pw;rw[dz,c8] at pw;rcases ai.mp hk with q | q
  ·have:=pw.2.2 k q x (by simp);omega
  ·rw[aj.mp q];omega
theorem Fh.snoc{n m:Nat}{so:List Nat}(h:Fh n m so){k:Nat}(hk:lO so<=k)(hn:k<n):Fh n (m+1) (so++[k]):=by
 refine⟨?_,λx hx=>?_,by rw[aS];have:=h.len;simp;omega⟩
 ·rw[c8];refine⟨h.pw,c9 _ _,λa ha b hb=>?_⟩;rw[aj.mp hb];have:=Ef h a ha;omega
 ·rcases ai.mp hx with q | q
  ·exact h.lt x q
  ·rw[aj.mp q];exact hn
theorem sk(n m:Nat)(hn:n<=7)(hm:m<=3):∃L:List (List Nat),i5 c [.int (n:Int),.int (m:Int)]=.ok (.lst (L.map nL))/\(∀so∈L,Fh n m so)/\L.length<=512:=by
 have sz:10000<sizeLine:=by decide
 let R (L:List (List Nat)) (x3 x4 x5 x6:Option W):En:=[some (.p (.int (n:Int))),some (.p (.int (m:Int))),some (.p (.lst (L.map nL))),x3,x4,x5,x6];have p8:∀j,j<=3->8 ^ j<=512:=λj hj=>aM (cE (by decide) hj) (by decide);obtain⟨ρ,e,L,x3,x4,x5,x6,rfl,hL,lL⟩:=fQ (m:=iY 3) (g:=my c) (λ(k:Nat)=>T.int (k:Int))
  (λj ρ=>∃(L:List (List Nat)) (x3 x4 x5 x6:Option W),ρ=R L x3 x4 x5 x6/\(∀so∈L,Fh n j so)/\L.length<=8 ^ j)
  (List.range m) 0 (R [[]] none none none none) ⟨[[]],none,none,none,none,rfl,(λso hso=>by
   rw[aj.mp hso];exact⟨List.Pairwise.nil,(λk hk=>nomatch hk),aJ _⟩),by decide⟩ (by
   rintro j k ρ hj ⟨L,x3,x4,x5,x6,rfl,hL,lL⟩;rw[aF] at hL lL ⊢;have jl:=(aa.mp hj).1;rw[dk] at jl;have l8:=p8 j (by omega);let R2 (G:List (List Nat)) (x5 x6:Option W):En:=R L (some (.p (.int (k:Int)))) (some (.p (.lst (G.map nL)))) x5 x6;obtain⟨ρ,e,G,y5,y6,rfl,hG,lG⟩:=fQ (m:=iY 5) (g:=mJ c) nL
    (λi ρ=>∃(G:List (List Nat)) (y5 y6:Option W),ρ=R2 G y5 y6/\(∀so∈G,Fh n (j+1) so)/\G.length<=i*7)
    L 0 (R2 [] x5 x6) ⟨[],x5,x6,rfl,(λso hso=>nomatch hso),bB _⟩ (by
     rintro i so ρ hi ⟨G,y5,y6,rfl,hG,lG⟩;rw[aF] at lG ⊢;have il:=(aa.mp hi).1;have hso:=hL so (au hi);have bl:lO so<=n:=by
      rcases dy so with rfl | ⟨l,x,rfl⟩
      ·exact bB _
      ·have hb:lO (l.concat x)=x+1:=by unfold lO;rw[dz,List.getLast?_append];rfl
       rw[hb];exact hso.lt x (by simp)
     have s1:=Ds (f:=dG 5) (ρ:=lE (R2 G (some (.p (nL so))) y6)) so rfl;have hr0:sG (lO so:Int)=true:=ip (by omega);have hr1:sG (n:Int)=true:=ip (by omega);have hn':((n:Int) - (lO so:Int)).toNat=n - lO so:=by omega
     have er:tY (dF (dG 6) (dF (dG 0) dM)) (lE (R2 G (some (.p (nL so))) (some (.p (.int (lO so:Int))))))=.ok ((List.range (n - lO so)).map λ(i:Nat)=>T.int ((lO so:Int)+(i:Int))):=by show (if sG (lO so:Int)&&sG (n:Int) then M.ok (pD (lO so:Int) ((n:Int) - (lO so:Int)).toNat) else .bad)=_;rw[hr0,hr1,hn',yV];rfl
     have lc:iK [none,some 5] (tY (dF (dG 6) (dF (dG 0) dM))) (iy 0) (λ_=>.ok true) (mV c) (lE (R2 G (some (.p (nL so))) (some (.p (.int (lO so:Int))))))=.ok (((List.range (n - lO so)).map λi=>so++[lO so+i]).map nL):=
      gw (List.range (n - lO so)) (λ(i:Nat)=>T.int ((lO so:Int)+(i:Int))) (λi=>nL (so++[lO so+i])) er (by rw[dk];omega) (λi hi'=>⟨_,rfl,rfl,by
       refine Eq.trans (uN (a:=so.map λ(k:Nat)=>T.int (k:Int)) (b:=[T.int ((lO so:Int)+(i:Int))]) rfl (AE rfl) ?_) ?_
       ·rw[aw];have:=hso.len;simp;omega
       ·unfold nL;rw[aY];have:((lO so+i:Nat):Int)=(lO so:Int)+(i:Int):=by omega
        simp[this]⟩) (by rw[aH];rfl)
     refine⟨_,_,rfl,.inl (dP (ρ':=R2 G (some (.p (nL so))) (some (.p (.int (lO so:Int))))) (ee s1 rfl) (ee (uN (a:=G.map nL) rfl (fI lc) ?_) ?_)),G++(List.range (n - lO so)).map (λi=>so++[lO so+i]),some (.p (nL so)),some (.p (.int (lO so:Int))),rfl,λg hg=>?_,?_⟩
     ·rw[aw,aw,aw,dk];have:i*7<=512*7:=dA _ (by omega);omega
     ·simp[R2,R]
     ·rcases ai.mp hg with q | q
      ·exact hG g q
      ·obtain⟨t,ht,rfl⟩:=aC.mp q;have:=aR.mp ht;exact hso.snoc (by omega) (by omega)
     ·rw[aS,aw,dk];omega)
   rw[aF] at lG;have lG':G.length<=512*7:=aM lG (dA _ (by omega));have lc:iK [none,some 2] (fB (dG 4)) (iy 0) (fM (dY (ue true) (dG 0) (dG 1))) (mv c) (lE (R2 G y5 y6))=.ok ((G.filter λso=>!jb (nL so) (L.map nL)).map nL):=sE G nL nL (λso=>!jb (nL so) (L.map nL)) rfl (by omega) (λso hso=>⟨_,rfl,eN (dQ rfl rfl (xV so L)),λ_=>rfl⟩) rfl
   have fl:(G.filter λso=>!jb (nL so) (L.map nL)).length<=G.length:=List.length_filter_le _ _;refine⟨_,_,rfl,.inl (dP (ρ':=R2 [] x5 x6) (ee rfl rfl) (dP (ρ':=R2 G y5 y6) (h8 rfl e) (ee (uN (a:=L.map nL) rfl (fI lc) ?_) ?_))),L++G.filter (λso=>!jb (nL so) (L.map nL)),some (.p (.int (k:Int))),some (.p (.lst (G.map nL))),y5,y6,rfl,λg hg=>?_,?_⟩
   ·rw[aw,aw];omega
   ·simp[R2,R]
   ·rcases ai.mp hg with q | q
    ·exact⟨(hL g q).pw,(hL g q).lt,b5 (hL g q).len⟩
    ·exact hG g (aT.mp q).1
   ·rw[aS,Nat.pow_succ];omega)
 rw[aF,dk] at hL lL;exact⟨L,eP rfl (dP (ρ':=R [[]] none none none none) (ee (t:=.lst [nL []]) (AE rfl) rfl) (dP (jL (kW m (by omega) rfl) e) (eC rfl))),hL,aM lL (p8 m hm)⟩
def m5(d:Nat)(st u:LI):LI:=u.take d++[vc u d+((u.zip st).map λp=>p.1*p.2).sum]
theorem vO:∀(st u:LI),st.length<=u.length->((u.zip st).map λp=>p.1*p.2).sum=sm st.length λi=>vc u i*vc st i
 | [],u,_=>by simp[sm]
 | s::st,x::u,h=>by have:=vO st u (by simpa using h);show x*s+((u.zip st).map λp=>p.1*p.2).sum=vc (x::u) 0*vc (s::st) 0+sm st.length λi=>vc (x::u) (i+1)*vc (s::st) (i+1);rw[this];rfl
 | s::st,[],h=>by simp at h
theorem sO{d:Nat}{st u:LI}(hu:u.length=d+1)(hs:st.length=d)(k:Nat):vc (m5 d st u) k=if k<d then vc u k else if k=d then vc u d+jg d (vc u) (vc st) else 0:=by
 unfold m5;rw[vO st u (by omega),hs];have hl:(u.take d).length=d:=by rw[bG];omega
 unfold vc;by_cases h1:k<d
 ·rw[aP h1,af,List.getElem?_append_left (by omega),List.getElem?_take_of_lt h1,<-af]
 ·rw[aQ h1,af,List.getElem?_append_right (by omega),hl];by_cases h2:k=d
  ·rw[aP h2,h2,Nat.sub_self];rfl
  ·rw[aQ h2,List.getElem?_eq_none (by simp;omega)];rfl
theorem oZ{d:Nat}{st u:LI}(hu:u.length=d+1)(hs:st.length=d){k:Nat}(h:k<d):vc (m5 d st u) k=vc u k:=by rw[sO hu hs,aP h]
theorem Gg{d:Nat}{st u:LI}(hu:u.length=d+1)(hs:st.length=d):vc (m5 d st u) d=vc u d+jg d (vc u) (vc st):=by rw[sO hu hs,aQ (aZ _),aP rfl]
theorem wY:∀(n:Nat) (f:Nat->Int),((sm n f:Int):Rat)=kZ n λi=>(f i:Rat)
 | 0,_=>rfl
 | n+1,f=>by unfold sm kZ;rw[<-wY n λi=>f (i+1)];simp
theorem A2{d:Nat}{st u:LI}(hu:u.length=d+1)(hs:st.length=d)(X:Nat->Rat):lp d X (vc (m5 d st u))=lp d (λi=>X i - (vc st i:Rat)) (vc u):=by
 unfold lp;rw[sO hu hs d,aQ (by omega),aP rfl];have e1:kZ d (λp=>(vc (m5 d st u) p:Rat)*X p)=kZ d (λp=>(vc u p:Rat)*X p):=gN d _ _ λi hi=>by rw[sO hu hs i,aP hi]
 have e2:((jg d (vc u) (vc st):Int):Rat)=kZ d λi=>(vc u i:Rat)*(vc st i:Rat):=by unfold jg;rw[wY];exact gN d _ _ λi _=>by simp
 have e3:=n9 1 (-1) d (λp=>(vc u p:Rat)*X p) (λp=>(vc u p:Rat)*(vc st p:Rat));have e4:kZ d (λi=>1*((vc u i:Rat)*X i) + -1*((vc u i:Rat)*(vc st i:Rat)))=kZ d (λp=>(vc u p:Rat)*(X p - (vc st p:Rat))):=gN d _ _ λi _=>by grind
 rw[e4] at e3;rw[e1,e3];have e5:((vc u d+jg d (vc u) (vc st):Int):Rat)=(vc u d:Rat)+((jg d (vc u) (vc st):Int):Rat):=by simp
 rw[e5,e2];grind
theorem C8{N:Nat}:∀(n:Nat) (f:Nat->Int),(∀i,i<n->Bn N (f i))->Bn (N+n) (sm n f)
 | 0,f,_=>mX
 | n+1,f,h=>by have:=C8 n (λi=>f (i+1)) λi hi=>h (i+1) (by omega);show Bn (N+(n+1)) (f 0+sm n λi=>f (i+1));exact ((h 0 (by omega)).add this).mono (by omega)
theorem AI{B:Nat}{u:LI}(h:∀x∈u,Bn B x)(k:Nat):Bn B (vc u k):=by
 by_cases hk:k<u.length
 ·rw[mW u k hk];exact h _ (aU _)
 ·rw[m9 u k (by omega)];exact mX
theorem tK{a b:LI}{n:Nat}(ha:a.length=n):fP a b=true↔∀k,k<n->∀j,j<k->vc a k*vc b j=vc a j*vc b k:=by unfold fP;simp only[cf,aR,beq_iff_eq,ha]
theorem Cq{d:Nat}{st a b:LI}(ha:a.length=d+1)(hb:b.length=d+1)(hs:st.length=d)(h:fP a b=false):fP (m5 d st a) (m5 d st b)=false:=by
 have la:(m5 d st a).length=d+1:=by unfold m5;rw[aS,bG];simp;omega
 cases q:fP (m5 d st a) (m5 d st b) with
 | false=>rfl
 | true=>
  exfalso;have q:=(tK la).mp q;have:fP a b=true:=(tK ha).mpr λk hk j hj=>by
   have lo:∀k,k<d->∀j,j<k->vc a k*vc b j=vc a j*vc b k:=λk hk j hj=>by have:=q k (by omega) j hj;rw[oZ ha hs hk,oZ hb hs hk,oZ ha hs (by omega),oZ hb hs (by omega)] at this;exact this
   by_cases hkd:k<d
   ·exact lo k hkd j hj
   ·have e:k=d:=by omega
    subst e;have:=q k (by omega) j hj;rw[Gg ha hs,Gg hb hs,oZ ha hs hj,oZ hb hs hj] at this;have al:jg k (vc a) (vc st)*vc b j=vc a j*jg k (vc b) (vc st):=by
     unfold jg;rw[cy,<-nA,<-nA];refine fz _ _ _ λi hi=>?_;have:vc a i*vc b j=vc a j*vc b i:=by
      rcases dw i j with z | z | z
      ·exact (lo j hj i z).symm
      ·rw[z]
      ·exact lo i hi j z
     calc vc b j*(vc a i*vc st i)=(vc a i*vc b j)*vc st i:=by ac_rfl
      _=(vc a j*vc b i)*vc st i:=by rw[this]
      _=vc a j*(vc b i*vc st i):=by ac_rfl
    grind
  rw[h] at this;cases this
theorem El{d B:Nat}{cs:LL}(h:vX d B cs){st:LI}(hd:d<=3)(hs:st.length=d)(hst:∀x∈st,x.natAbs<16):vX d (B+8) (cs.map (m5 d st)):=by
 refine⟨λf hf=>?_,by rw[aw];exact h.few,?_⟩
 ·obtain⟨u,hu,rfl⟩:=aC.mp hf;have g:=h.gc u hu;refine⟨⟨by unfold m5;rw[aS,bG,g.gl.1];simp,λx hx=>?_⟩,?_⟩
  ·unfold m5 at hx;rcases ai.mp hx with q | q
   ·exact (g.gl.2 x (dh q)).mono (by omega)
   ·rw[aj.mp q,vO st u (by rw[g.gl.1];omega),hs];have b1:Bn (B+4+d) (sm d λi=>vc u i*vc st i):=C8 d _ λi _=>(AI g.gl.2 i).mul (AI (B:=4) (λx hx=>by unfold Bn;exact hst x hx) i);exact ((AI g.gl.2 d).add b1).mono (by omega)
  ·obtain⟨p,hp,hne⟩:=g.re;exact⟨p,hp,by rw[sO g.gl.1 hs,aP hp];exact hne⟩
 ·rw[c7];exact h.pw.imp_of_mem λ{a b} ha hb q=>Cq (h.gc a ha).gl.1 (h.gc b hb).gl.1 hs q
theorem AB(d:Nat)(u:LI)(k:Int)(v:Vc):jg d (vc (u.map λx=>k*x)) v=k*jg d (vc u) v:=by unfold jg;rw[<-nA];exact fz _ _ _ λi _=>by rw[jA];ac_rfl
theorem pk{α:Type}(n:Nat)(f:Nat->α)(k:Nat)(w:α)(h:k<n):((List.range n).map f).getD k w=f k:=by rw[af,av,List.getElem?_range h];rfl
theorem wj(cs:LL)(f:LI->LI):(List.range cs.length).map (λj=>f (cs.getD j []))=cs.map f:=by
 apply List.ext_getElem
 ·simp
 ·intro i h1 h2;simp at h1 h2;rw[cP,cP,dm,af,ag h2];rfl
section
variable {d:Nat}{cs:LL}{so:List Nat}
theorem jj(h:∀u∈cs,u.length=d+1)(hs:∀k∈so,k<cs.length):∀u∈oq cs so,u.length=d+1:=λu hu=>by obtain⟨k,hk,rfl⟩:=aC.mp hu;rw[af,ag (hs k hk)];exact h _ (aU _)
theorem DJ{k k':Int}(h:∀u∈cs,u.length=d+1)(hs:∀k∈so,k<cs.length)(a:xU (oq cs so) d k)(b:xU (oq cs so.reverse) d k'):k'=k:=by
 have m:∀u,u∈oq cs so.reverse↔u∈oq cs so:=λu=>by unfold oq;rw[List.map_reverse,dB]
 refine A7 (jj h λk hk=>hs k (dB.mp hk)) (jj h hs) ?_ (λv=>?_) b a
 ·exact⟨λ⟨X,q⟩=>⟨X,λu hu=>q u ((m u).mpr hu)⟩,λ⟨X,q⟩=>⟨X,λu hu=>q u ((m u).mp hu)⟩⟩
 ·exact⟨λq u hu=>q u ((m u).mpr hu),λq u hu=>q u ((m u).mp hu)⟩
theorem G7{k k':Int}(h:∀u∈cs,u.length=d+1)(hs:∀k∈so,k<cs.length)(f:Nat->Int)(hf:∀i,i<cs.length->f i≠0)(a:xU (oq cs so) d k)(b:xU (oq (ym f cs) so) d k'):k'=k:=by
 have g:∀i∈so,(ym f cs).getD i []=(cs.getD i []).map λx=>f i*x:=λi hi=>pk _ _ _ _ (hs i hi);have mem:∀i∈so,(cs.getD i []).map (λx=>f i*x)∈oq (ym f cs) so:=λi hi=>by rw[<-g i hi];exact du (f:=λk=>(ym f cs).getD k []) hi
 refine A7 (jj (λu hu=>?_) λi hi=>by unfold ym;simpa using hs i hi) (jj h hs) ?_ (λv=>?_) b a
 ·obtain⟨i,hi,rfl⟩:=aC.mp hu;rw[aw,af,ag (aR.mp hi)];exact h _ (aU _)
 ·constructor
  ·rintro⟨X,q⟩;refine⟨X,λu hu=>?_⟩;obtain⟨i,hi,rfl⟩:=aC.mp hu;have:=q _ (mem i hi);rw[zu] at this;have ne:=Ba (hf i (hs i hi));rcases Rat.mul_eq_zero.mp this with z | z
   ·exact absurd z ne
   ·exact z
  ·rintro⟨X,q⟩;refine⟨X,λu hu=>?_⟩;obtain⟨i,hi,rfl⟩:=aC.mp hu;rw[g i hi,zu,q _ (du hi)];simp
 ·constructor
  ·intro q u hu;obtain⟨i,hi,rfl⟩:=aC.mp hu;have:=q _ (mem i hi);rw[AB] at this;exact nk (hf i (hs i hi)) this
  ·intro q u hu;obtain⟨i,hi,rfl⟩:=aC.mp hu;rw[g i hi,AB,q _ (du hi)];simp
theorem Gs{k k':Int}(h:∀u∈cs,u.length=d+1)(hs:∀k∈so,k<cs.length){st:LI}(hst:st.length=d)(a:xU (oq cs so) d k)(b:xU (oq (cs.map (m5 d st)) so) d k'):k'=k:=by
 have gl:∀i∈so,(cs.getD i []).length=d+1:=λi hi=>jj h hs _ (du hi);have g:∀i∈so,(cs.map (m5 d st)).getD i []=m5 d st (cs.getD i []):=λi hi=>by rw[<-wj];exact pk _ _ _ _ (hs i hi)
 have mem:∀i∈so,m5 d st (cs.getD i [])∈oq (cs.map (m5 d st)) so:=λi hi=>by rw[<-g i hi];exact du (f:=λk=>(cs.map (m5 d st)).getD k []) hi
 have lf:∀i∈so,∀v,jg d (vc (m5 d st (cs.getD i []))) v=jg d (vc (cs.getD i [])) v:=λi hi v=>fz _ _ _ λj hj=>by rw[oZ (gl i hi) hst hj]
 refine A7 (jj (λu hu=>?_) λi hi=>by rw[aw];exact hs i hi) (jj h hs) ?_ (λv=>?_) b a
 ·obtain⟨w,hw,rfl⟩:=aC.mp hu;unfold m5;rw[aS,bG,h w hw];simp
 ·constructor
  ·rintro⟨X,q⟩;refine⟨λi=>X i - (vc st i:Rat),λu hu=>?_⟩;obtain⟨i,hi,rfl⟩:=aC.mp hu;rw[<-A2 (gl i hi) hst X];exact q _ (mem i hi)
  ·rintro⟨X,q⟩;refine⟨λi=>X i+(vc st i:Rat),λu hu=>?_⟩;obtain⟨i,hi,rfl⟩:=aC.mp hu;rw[g i hi,A2 (gl i hi) hst];have:(λi=>X i+(vc st i:Rat) - (vc st i:Rat))=X:=by funext j;grind
   rw[this];exact q _ (du hi)
 ·constructor
  ·intro q u hu;obtain⟨i,hi,rfl⟩:=aC.mp hu;rw[<-lf i hi];exact q _ (mem i hi)
  ·intro q u hu;obtain⟨i,hi,rfl⟩:=aC.mp hu;rw[g i hi,lf i hi];exact q _ (du hi)
theorem Bv{k k':Int}(h:∀u∈cs,u.length=d+1)(hs:∀k∈so,k<cs.length)(hne:so≠[])(a:xU (oq cs so) d k)(b:xU (oq cs so.dropLast) d k'):k = -1\/(0<=k/\k<=k'/\k'<=k+1):=by
 refine Cg (e:=vc (cs.getD (so.getLast hne) [])) (jj h hs) (jj h λk hk=>hs k (dC _ hk)) (λu hu=>?_) (λu hu=>?_) a b
 ·obtain⟨i,hi,rfl⟩:=aC.mp hu;exact du (dC _ hi)
 ·obtain⟨i,hi,rfl⟩:=aC.mp hu;rw[<-List.dropLast_concat_getLast hne] at hi;rcases ai.mp hi with q | q
  ·exact .inl (du q)
  ·rw[aj.mp q];exact .inr rfl
end
theorem yS(ns:LI):og c [.scr ns]=.ok (.bl true):=by
 have sz:10000<sizeLine:=by decide
 obtain⟨cell,hcell⟩:∃cell:Nat->Int,∀k:Nat,eD c [.scr ns,.int (k:Int)]=.ok (.int (cell k)):=⟨λk=>Classical.choose (lV (c:=c) ns k),λk=>(Classical.choose_spec (lV (c:=c) ns k)).1⟩;obtain⟨d1,d1a,d1b⟩:=fZ (c:=c) (cell 0) 0 3 (by decide) (by decide) (by decide) (by decide);obtain⟨d2,d2a,d2b⟩:=fZ (c:=c) (cell 0) 1 6 (by decide) (by decide) (by decide) (by decide);obtain⟨d,hdd⟩:∃d:Nat,1+dr c (cell 0) 0 3=(d:Int):=⟨(1+dr c (cell 0) 0 3).toNat,by omega⟩;obtain⟨m,hmm⟩:∃d:Nat,1+dr c (cell 0) 1 6=(d:Int):=⟨(1+dr c (cell 0) 1 6).toNat,by omega⟩;have hd:1<=d/\d<=3:=by omega
 obtain⟨cs,ec,gc,cl⟩:=tM (c:=c) ns 1 d m hd (by omega);have hul:∀u∈cs,u.length=d+1:=λu hu=>(gc.gc u hu).gl.1;generalize hn:cs.length=n at *;obtain⟨of,hof⟩:=m6 (P:=λ(k:Nat) (w:Int)=>fC (.lst ([2,-1,1,-5].map T.int)) (.int (dr c (cell 8) k 4))=.ok (.int w)/\w∈[2,-1,1,-5]) (List.range n) λk hk=>by have:=aR.mp hk;obtain⟨e,a,b⟩:=fZ (c:=c) (cell 8) k 4 (by decide) (by decide) (by omega) (by omega);exact wV _ _ a (by simpa using b)
 have of8:∀k,k<n->of k≠0/\(of k).natAbs<8:=λk hk=>by have:=(hof k (aR.mpr hk)).2;simp at this;omega
 let st:LI:=(List.range d).map λ(j:Nat)=>dr c (cell 9) j 19 - 9;have stl:st.length=d:=by simp[st]
 have stb:∀x∈st,x.natAbs<16:=λx hx=>by obtain⟨j,hj,rfl⟩:=aC.mp hx;have:=aR.mp hj;obtain⟨e,a,b⟩:=fZ (c:=c) (cell 9) j 19 (by decide) (by decide) (by omega) (by omega);omega
 let oT:Option W:=some (.p (tL ((List.range n).map of)));let sT':Option W:=some (.p (tL st));let x2:Option W:=some (.p (.lst (cs.map tI)));let R (x3 x4 x5 x6 x7 x8 x9 x10 x11 x12 x13:Option W):En:=[some (.p (.scr ns)),some (.p (.int (d:Int))),x2,x3,x4,x5,x6,x7,x8,x9,x10,x11,x12,x13];have s1:dY gx (cM (.int 1)) (dW (dF (dW (dF (dG 0) (dF (cM (.int 0)) dM)) (eD c)) (dF (cM (.int 0)) (dF (cM (.int 3)) dM))) (eg c)) (lE (eT 14 [.scr ns]))=.ok (.int (d:Int)):=dQ rfl (iN (e7 rfl rfl (hcell 0)) rfl rfl d1) (by rw[gz,hdd])
 have s3:iK [none,some 0] (iM (dF (ji jF (dF (dG 2) dM)) dM)) (iy 0) (λ_=>.ok true) (t6 c) (lE (R none none none none none none none none none none none))=.ok (((List.range n).map of).map T.int):=gw (List.range n) (λ(k:Nat)=>T.int (k:Int)) (λk=>T.int (of k)) (kW n (by omega) (kx rfl (by simp[hn]))) (by simp;omega) (λk hk=>⟨_,rfl,rfl,by have:=aR.mp hk;obtain⟨e,a,b⟩:=fZ (c:=c) (cell 8) k 4 (by decide) (by decide) (by omega) (by omega);exact dQ (fI (HQ rfl rfl rfl rfl)) (iN (e7 rfl rfl (hcell 8)) rfl rfl e) (hof k hk).1⟩) (by rw[aH];rfl)
 have s4:iK [none,some 0] (iM (dF (dG 1) dM)) (iy 0) (λ_=>.ok true) (t9 c) (lE (R oT none none none none none none none none none none))=.ok (st.map T.int):=gw (List.range d) (λ(k:Nat)=>T.int (k:Int)) (λk=>T.int (dr c (cell 9) k 19 - 9)) (kW d (by omega) rfl) (by simp;omega) (λk hk=>⟨_,rfl,rfl,by have:=aR.mp hk;obtain⟨e,a,b⟩:=fZ (c:=c) (cell 9) k 19 (by decide) (by decide) (by omega) (by omega);exact dQ (iN (e7 rfl rfl (hcell 9)) rfl rfl e) rfl (mr _ _)⟩) (by rw[aH];rfl)
 let scI (i:Nat):LL:=(List.range i).map λj=>(cs.getD j []).map λx=>of j*x;let shI (i:Nat):LL:=(List.range i).map λj=>m5 d st (cs.getD j []);obtain⟨ρ,e,x7,x8,rfl⟩:=fQ (m:=iY 7) (g:=tF c) (λ(k:Nat)=>T.int (k:Int))
  (λi ρ=>∃x7 x8:Option W,ρ=R oT sT' (some (.o ((scI i).map tI))) (some (.o ((shI i).map tI))) x7 x8 none none none none none)
  (List.range n) 0 (R oT sT' (some (.o [])) (some (.o [])) none none none none none none none) ⟨none,none,rfl⟩ (by
   rintro i k ρ hi ⟨x7,x8,rfl⟩;rw[aF];have hk:=aa.mp hi;obtain⟨il,ik⟩:=hk;rw[dm] at ik;subst ik;rw[dk] at il;let u:=cs.getD i [];have hu:u∈cs:=by show cs.getD i []∈cs;rw[af,ag (by omega)];exact aU _
   have gu:=(gc.gc u hu).gl;have ix:fC (.lst (cs.map tI)) (.int (i:Int))=.ok (tI u):=wU cs tI i [] (by omega);have ixo:fC (tL ((List.range n).map of)) (.int (i:Int))=.ok (.int (of i)):=by have:=sg ((List.range n).map of) i (by simpa using il);rw[pk _ _ _ _ il] at this;exact this
   let y7:Option W:=some (.p (.int (i:Int)));have l1:iK [none,some 3,some 7] (fB (dY fC (dG 2) (dG 7))) (iy 0) (λ_=>.ok true) (sJ c) (lE (R oT sT' (some (.o ((scI i).map tI))) (some (.o ((shI i).map tI))) y7 x8 none none none none none))=.ok ((u.map λx=>of i*x).map T.int):=gw u T.int (λx=>T.int (of i*x)) (CK (dQ rfl rfl ix)) (by rw[gu.1];omega) (λx hx=>⟨_,rfl,rfl,dQ (dQ rfl rfl ixo) rfl (gD (by have:=(of8 i il).2;omega))⟩) (by rw[aH];rfl)
   have l2:iK [none,none] (nz (dF (dY fC (dG 2) (dG 7)) (dF (dG 4) dM))) (nZ 2 (gR (iy 0) (gR (iy 1) n0))) (λ_=>.ok true) (uc c) (lE (R oT sT' (some (.o ((scI (i+1)).map tI))) (some (.o ((shI i).map tI))) y7 x8 none none none none none))=.ok (((u.zip st).map λp=>p.1*p.2).map T.int):=gw (u.zip st) (λp=>T.tup [.int p.1,.int p.2]) (λp=>T.int (p.1*p.2)) (pj (dQ rfl rfl ix) rfl rfl rfl) (by rw[dg];omega) (λp hp=>⟨_,rfl,rfl,dQ rfl rfl (fN ((gu.2 _ (aV hp).1).ok (show Bn 4 p.2 by unfold Bn;exact stb _ (aV hp).2) (by omega) (by omega)))⟩) (by rw[aH];rfl)
   have sl:mj (dY fC (dG 2) (dG 7)) (λ_=>.ok none) (jM (dG 1)) (lE (R oT sT' (some (.o ((scI (i+1)).map tI))) (some (.o ((shI i).map tI))) y7 (some (.p (.int ((u.zip st).map λp=>p.1*p.2).sum))) none none none none none))=.ok (.tup ((u.map T.int).take d)):=pO (dQ rfl rfl ix) rfl (by rw[aw,gu.1];omega);refine⟨_,_,rfl,.inl (dP (ρ':=R oT sT' (some (.o ((scI (i+1)).map tI))) (some (.o ((shI i).map tI))) y7 x8 none none none none none) (pJ (us:=(scI i).map tI) (t:=tI (u.map λx=>of i*x)) rfl (mS l1 rfl) (by simp[scI];omega) ?_) (dP (ρ':=R oT sT' (some (.o ((scI (i+1)).map tI))) (some (.o ((shI i).map tI))) y7 (some (.p (.int ((u.zip st).map λp=>p.1*p.2).sum))) none none none none none) (ee (mS l2 (yO _)) rfl) (pJ (us:=(shI i).map tI) (t:=tI (m5 d st u)) rfl (dQ sl (HF (dQ (dQ (dQ rfl rfl ix) rfl (gF u d (by rw[gu.1];omega))) rfl (gz _ _))) ?_) (by simp[shI];omega) ?_))),y7,some (.p (.int ((u.zip st).map λp=>p.1*p.2).sum)),rfl⟩
   ·simp[R,scI,cg,u,y7]
   ·rw[wF _ _ (by rw[bG,aw];simp;omega),<-cC];unfold m5 tI;rw[aY];rfl
   ·simp[R,shI,cg,u,y7])
 rw[aF,dk] at e;let sc:=ym of cs;let sh:=cs.map (m5 d st);have esc:scI n=sc:=by show scI n=ym of cs;unfold ym;rw[hn]
 have esh:shI n=sh:=by show (List.range n).map _=_;rw[<-hn];exact wj cs (m5 d st)
 have gsc:vX d 92 sc:=(EN gc of λi hi=>of8 i (by omega)).mono (by decide);have gsh:vX d 92 sh:=El gc hd.2 stl stb;have g92:vX d 92 cs:=gc.mono (by decide);rw[esc,esh] at e;have i0:=rX (c:=c) d 84 cs hd (by decide) gc;have i1:=rX (c:=c) d 92 sc hd (by decide) gsc;have i2:=rX (c:=c) d 92 sh hd (by decide) gsh;have scl:sc.length=n:=by show (ym of cs).length=n;unfold ym;simp[hn]
 have shl:sh.length=n:=by show (cs.map _).length=n;simp[hn]
 let m3:=min 3 (d+1);obtain⟨L,eL,hL,lL⟩:=sk (c:=c) n m3 (by omega) (by omega);let x9:Option W:=some (.p (i6 c d cs));let x10:Option W:=some (.p (.lst ([sc,sh].map (i6 c d))));let R2 (x11 x12 x13:Option W):En:=R oT sT' (some (.o (sc.map tI))) (some (.o (sh.map tI))) x7 x8 x9 x10 x11 x12 x13;obtain⟨ρ,e',x11,x12,x13,rfl⟩:=qk (m:=iY 11) (g:=oE c) nL (λρ=>∃x11 x12 x13:Option W,ρ=R2 x11 x12 x13) L (R2 none none none) ⟨none,none,none,rfl⟩ (by
  rintro so hso ρ ⟨x11,x12,x13,rfl⟩;have I:=hL so hso;have nd:so.Nodup:=I.pw.imp λh=>aL h;have lt:∀k∈so,k<cs.length:=λk hk=>by rw[hn];exact I.lt k hk
  obtain⟨k0,e0,q0⟩:=mO (c:=c) d cs hd g92 so lt nd;obtain⟨kr,er,qr⟩:=mO (c:=c) d cs hd g92 so.reverse (λk hk=>lt k (dB.mp hk)) (List.pairwise_reverse.mpr (nd.imp λh=>Ne.symm h));obtain⟨k1,e1,q1⟩:=mO (c:=c) d sc hd gsc so (λk hk=>by rw[scl];exact I.lt k hk) nd;obtain⟨k2,e2,q2⟩:=mO (c:=c) d sh hd gsh so (λk hk=>by rw[shl];exact I.lt k hk) nd;have zr:=DJ hul lt q0 qr;have z1:=G7 hul lt of (λi hi=>(of8 i (by omega)).1) q0 q1;have z2:=Gs hul lt stl q0 q2;subst zr z1 z2;let y11:Option W:=some (.p (nL so));let y12:Option W:=some (.p (.int k2));have rv:Hs (nL so) (.int (-1))=.ok (nL so.reverse):=by show (if (-1:Int) = -1 then M.ok (T.lst (so.map λ(k:Nat)=>T.int (k:Int)).reverse) else .bad)=_;rw[aP rfl,<-List.map_reverse];rfl
  have lc:iK [none,some 11] (fB (dG 10)) (iy 0) (λ_=>.ok true) (pS c) (vw (R2 y11 y12 x13))=.ok [.int k2,.int k2]:=
   gw [sc,sh] (i6 c d) (λ_=>T.int k2) rfl (by show 2<_;omega) (λu hu=>⟨_,rfl,rfl,by
    rcases aE.mp hu with rfl | hu
    ·exact e7 rfl rfl e1
    ·rw[aj.mp hu];exact e7 rfl rfl e2⟩) rfl
  have eq2:eM true (.lst [.int k2,.int k2]) (.lst [.int k2,.int k2])=.ok (.bl false):=by have:=vP true [k2,k2] [k2,k2];refine Eq.trans this ?_;simp
  have c1:(L3.tq (fM (dY (eM true) (dW (dF (dG 9) (dF (dY Hs (dG 11) (qG (λi=>.int (-i)) (cM (.int 1)))) dM)) (gy c)) (dG 12))) (fM (dY (eM true) (fE (iK [none,some 11] (fB (dG 10)) (iy 0) (λ_=>.ok true) (pS c))) (fE (lstM (dF (dG 12) (dF (dG 12) dM))))))) (vw (R2 y11 y12 x13))=.ok false:=Ae (eN (dQ (e7 rfl (dQ (x:=nL so) (y:=.int (-1)) rfl rfl rv) er) rfl (by rw[kX];simp))) (eN (dQ (fI lc) (G0 rfl rfl) eq2))
  have f1:oE c (R2 y11 x12 x13)=(j7 (fM (dY (eM true) (dG 11) (fE (lstM dM)))) _ fv) (R2 y11 y12 x13):=dP (ρ':=R2 y11 y12 x13) (ee (e7 rfl rfl e0) rfl) (dP (eV c1 rfl) rfl);by_cases hne:so=[]
  ·refine⟨_,_,rfl,.inl (f1.trans (eV (eN (dQ (x:=nL so) (y:=.lst []) rfl rfl (by rw[wB,hne];rfl))) rfl)),y11,y12,x13,rfl⟩
  ·obtain⟨kb,eb,qb⟩:=mO (c:=c) d cs hd g92 so.dropLast (λk hk=>lt k (dC _ hk)) (nd.sublist (List.dropLast_sublist _));have zb:=Bv hul lt hne q0 qb;let y13:Option W:=some (.p (.int kb));have sl:mj (dG 11) (λ_=>.ok none) (jM (qG (λi=>.int (-i)) (cM (.int 1)))) (lE (R2 y11 y12 x13))=.ok (nL so.dropLast):=by show M.ok (T.lst (j4 (so.map λ(k:Nat)=>T.int (k:Int)) none (some (-1))))=_;rw[yn,<-List.map_dropLast];rfl
   refine⟨_,_,rfl,.inl (f1.trans (gd (eN (dQ (x:=nL so) (y:=.lst []) rfl rfl (by rw[wB];simp[hne]))) (dP (ρ':=R2 y11 y12 y13) (ee (e7 rfl sl eb) rfl) (eV ?_ rfl)))),y11,y12,y13,rfl⟩;rcases zb with z | ⟨z1,z2,z3⟩
   ·have g1:fM (dY Dc (dG 12) (cM (.int 0))) (vw (R2 y11 y12 y13))=.ok false:=eN (dQ rfl rfl (by rw[rK,z];rfl));refine Ae (uR g1) ?_;by_cases hb:kb<0
    ·exact AQ (eN (dQ rfl rfl (by rw[mQ];simp[hb]))) g1
    ·exact uR (eN (dQ rfl rfl (by rw[mQ];simp[hb])))
   ·refine Ae (AQ (b:=false) (eN (dQ rfl rfl (by rw[rK];simp[z1]))) (lX (b:=true) (eN ?_) rfl)) (uR (eN (dQ rfl rfl (by rw[mQ];simp;omega))));show Dn Az Az (dG 12) (dG 13) (dY gx (dG 12) (cM (.int 1))) (vw (R2 y11 y12 y13))=.ok (.bl true);have a1:Az (.int k2) (.int kb)=.ok (.bl true):=by rw[wc];simp[z2]
    have a2:Az (.int kb) (.int (k2+1))=.ok (.bl true):=by rw[wc];simp[z3]
    have a3:dY gx (dG 12) (cM (.int 1)) (vw (R2 y11 y12 y13))=.ok (.int (k2+1)):=dQ rfl rfl (gz _ _);have v1:dG 12 (vw (R2 y11 y12 y13))=.ok (.int k2):=rfl;have v2:dG 13 (vw (R2 y11 y12 y13))=.ok (.int kb):=rfl;unfold Dn;rw[v1,M.bind_ok,v2,M.bind_ok,a1,M.bind_ok];simp only;rw[a3,M.bind_ok,a2])
 have em:ji qQ (dF (cM (.int 3)) (dF (dY gx (dG 1) (cM (.int 1))) dM)) (lE (R2 none none none))=.ok (.int (m3:Int)):=by have a3:dY gx (dG 1) (cM (.int 1)) (lE (R2 none none none))=.ok (.int ((d:Int)+1)):=dQ rfl rfl (gz _ _);simp only[ji,dF,dM,cM,a3,M.bind_ok,qQ];congr 2;show (if (d:Int)+1<3 then (d:Int)+1 else 3)=((min 3 (d+1):Nat):Int);split<;>omega
 exact eP rfl (dP (ρ':=[some (.p (.scr ns)),some (.p (.int (d:Int))),none,none,none,none,none,none,none,none,none,none,none,none]) (ee s1 rfl) (dP (ρ':=R none none none none none none none none none none none) (ee (fI (DW (u:=.int (m:Int)) rfl rfl rfl (dQ rfl (iN (e7 rfl rfl (hcell 0)) rfl rfl d2) (by rw[gz,hmm])) ec)) rfl) (dP (ρ':=R oT none none none none none none none none none none) (ee (fI s3) rfl) (dP (ρ':=R oT sT' none none none none none none none none none) (ee (fI s4) rfl) (dP (ρ':=R oT sT' (some (.o [])) none none none none none none none none) (jx rfl rfl) (dP (ρ':=R oT sT' (some (.o [])) (some (.o [])) none none none none none none none) (jx rfl rfl) (dP (jL (kW n (by omega) (kx rfl (by simp[hn]))) e) (dP (ρ':=R oT sT' (some (.o (sc.map tI))) (some (.o (sh.map tI))) x7 x8 x9 none none none none) (ee (e7 rfl rfl i0) rfl) (dP (ρ':=R2 none none none) (Bp (ts:=[sc,sh].map (i6 c d)) (uV (G0 (e7 rfl rfl i1) (e7 rfl rfl i2))) (n6 _ _ λu _=>by show (lf (.tup (u.map tI))&&(lf (.int (d:Int))&&true))=true;simp) rfl) (dP (h8 (tG (e7 (x:=.int (n:Int)) (kx rfl (by simp[hn])) em eL)) e') (eC rfl)))))))))))
end CL
namespace K08
open PySem L2 L3 CL
def fX(i:Nat):Stmt:=PySem.Challenge.pw_cutlands_k08_whole_meeting_and_moving.main.body.getD i (.Pass ⟨0,0,0,0⟩)
structure Er(c:Cs)(K:W.Frag)(mg:Str->Option Value):Prop where
 here:True
 cl_Cutting:qB K c.Cutting
 na_Cutting_own_cuts:iJ K c.Cutting "own_cuts"
 na_Cutting_own_dims:iJ K c.Cutting "own_dims"
 mk_Cutting:W.makesIn K c.Cutting=true
 kp_Cutting:W.keepIn K (.ref c.Cutting)=true
 mg_Cutting:mg "Cutting" = some (.ref c.Cutting)
 k_MOST_CUTS:∃t,mg "MOST_CUTS" = some (.int 7 t)
 k_MOST_DIMS:∃t,mg "MOST_DIMS" = some (.int 3 t)
theorem GH{K:W.Frag}{h:Heap}{mg:Str->Option Value}{aCutting:Addr}{tMOST_CUTS tMOST_DIMS:_}(X:K.In h)(G:h.Ns mainGlobals mg)(e:W.nsIn K mainGlobals "Cutting" = some (some (.ref aCutting)))(pg:W.plainGet K aCutting Str.empty=true)(hd:W.hasDictIn K aCutting=true)(po:W.plainOver K aCutting=true)(sa:W.findIn K (.ref aCutting) "__setattr__" = some (some (.builtin "object.__setattr__")))(own_cuts:W.findIn K (.ref aCutting) "own_cuts" = some none)(own_dims:W.findIn K (.ref aCutting) "own_dims" = some none)(mk:W.makesIn K aCutting=true)(kp:W.keepIn K (.ref aCutting)=true)(uMOST_CUTS:W.nsIn K mainGlobals "MOST_CUTS" = some (some (.int 7 tMOST_CUTS)))(uMOST_DIMS:W.nsIn K mainGlobals "MOST_DIMS" = some (some (.int 3 tMOST_DIMS))):Er ⟨aCutting,0,0,0,0,0,0,0,0,0,0,0,0⟩ K mg:=⟨trivial,⟨pg,hd,po,sa⟩,own_cuts,own_dims,mk,kp,W.mg_of X G e,⟨_,W.mg_of X G uMOST_CUTS⟩,⟨_,W.mg_of X G uMOST_DIMS⟩⟩
theorem Gd{K:W.Frag}{a g:Addr}{m q:Str}{st:Stmt}{oc kV doc pm cdv ct:Value}{od an:Option Addr}{osl:Array (Option Value)}(gf:W.findIn K (.ref a) m=some (some (.ref g)))(gi:W.isFn K (.ref g)=true)(l:K.lookup g=some ⟨oc,od,.func (W.fnOf m q (fY st) (eQ st) (dR st) .none kV doc pm an cdv ct),osl⟩)(gc:W.codeIn K cdv q=true)(gk:W.keepIn K (.ref g)=true):gU K a m q st:=⟨_,_,vU l gc gk,gf,gi,gk⟩
section
variable {P:Program}{w:World}{K:W.Frag}{mg:Str->Option Value}{base:Heap}{c:Cs}(Z:Zx P w K mg base)(B:Bs mg)(ER:Er c K mg)
include Z B ER
theorem o0(D:dZ K mg "is_whole" (fX 7)):CP Z "is_whole" 1 (fJ c):=iw Z 0 (fJ c) ["thing"] ["thing"] rfl D λnd hX hr=>⟨_,(dN (dX (uM (pK "int" (by decide) B.isinstance B.int DM (dE 0)) (vp (AH (pK "bool" (by decide) B.isinstance B.bool BN (dE 0)))))))⟩
theorem o1(D:dZ K mg "sign_of" (fX 9)):CP Z "sign_of" 1 (jZ c):=iw Z 0 (jZ c) ["number"] ["number"] rfl D λnd hX hr=>⟨_,(dJ (eU (gK GD GV (dE 0) dO) (dN (dX dO)) eA)
  (dJ (eU (gK uo sH (dE 0) dO) (dN (dX (jn dO))) eA)
  (dN (dX dO))))⟩
theorem o2(D:dZ K mg "common_divisor" (fX 10)):CP Z "common_divisor" 1 (eK c):=iw Z 0 (eK c) ["one","other","rest"] ["one","other"] rfl D λnd hX hr=>⟨_,(dJ (zA (λρ=>match ρ with | _::some (.p (.int j))::_=>j.natAbs+1 | _=>0) PassesOwn.never (jP hr (dE 1) dO) (dJ (dU 2 nd (lQ (dE 0) (dE 1)))
  (dJ (dU 0 nd (dE 1))
  (dN (dU 1 nd (dE 2))))))
  (dN (dX (eO t8 yE (by rfl) B.abs AM (dD (dE 0) dI)))))⟩
theorem o3(D:dZ K mg "weighted" (fX 19)):CF Z "weighted" 1 (jo c):=t7 Z 0 (jo c) ["cuts","rows","k","cut","weights"] ["cuts"] rfl D λnd hX hr=>⟨_,(dJ (hC 1 nd (eX dI))
  (dJ (h7 PassesOwn.never rfl (Bt B.enumerate (dD (dE 0) dI)) (pF 2 rfl (gE (fH 2 nd) (gE (fH 3 nd) kR))) (dJ (hC 4 nd (rj (eI (eX (dD dO dI))) (eO (fF (K:=K)) iV (by rfl) B.len iS (dD (dE 0) dI))))
  (dJ (mZ 4 (pv 4) (dE 2) dO)
  (dN (zW 1 (pv 1) (gj (dE 3) (gQ (fT (K:=K)) gM (by rfl) B.tuple g9 (dD (dE 4) dI))))))))
  (dN (ui 1 (pv 1)))))⟩
theorem o4(D:dZ K mg "free_places" (fX 23)):CF Z "free_places" 1 (gZ c):=t7 Z 0 (gZ c) ["pivots","dims","taken"] ["pivots","dims"] rfl D λnd hX hr=>⟨_,(dJ (dU 2 nd (eI (fW ["place","pivot"] [none,none] hX (eS (dE 0)) (λnd hX=>⟨(m7 2 rfl (fR (fG 0 nd) (fR (fG 1 nd) jV))),eR,(dE 0)⟩))))
  (dN (mH (fW ["place","taken"] [none,some 2] hX (pI.pim (iF B.range (dD (dE 1) dI))) (λnd hX=>⟨(fG 0 nd),(mM (gK (yf (K:=K)) (GB true) (dE 0) (dE 1) (by rfl))),(dE 0)⟩)))))⟩
theorem o5(D:dZ K mg "first_place" (fX 36)):CP Z "first_place" 1 (hW c):=iw Z 0 (hW c) ["cut","place"] ["cut"] rfl D λnd hX hr=>⟨_,(dJ (dU 1 nd dO)
  (dJ (zA (λρ=>match ρ with | some (.p (.tup ts))::_=>ts.length+1 | _=>0) PassesOwn.never (iG hr (eE (dE 0) (dE 1)) dO) (dN (dU 1 nd (gj (dE 1) dO))))
  (dN (dX (dE 1)))))⟩
theorem o6(D:gU K c.Cutting "dims" "Cutting.dims" (jJ (fX 40) 1)):iA P w K mg base c.Cutting "dims" 1 (p0 K (f7 c)):=Dl Z 0 (f7 c) ["self"] ["self"] rfl ER.cl_Cutting D λnd hX hr=>⟨_,(dN (dX (v9 rfl ER.cl_Cutting ER.na_Cutting_own_dims (dE 0))))⟩
theorem o7(D:gU K c.Cutting "cuts" "Cutting.cuts" (jJ (fX 40) 2)):iA P w K mg base c.Cutting "cuts" 1 (uX K (gh c)):=E3 Z 0 (gh c) ["self"] ["self"] rfl ER.cl_Cutting D λnd hX hr=>⟨_,(dN (mH (lb (ka (K:=K)) mm (by rfl) B.list lr (dD (v9 rfl ER.cl_Cutting ER.na_Cutting_own_cuts (dE 0)) dI))))⟩
theorem o8(D:gU K c.Cutting "many" "Cutting.many" (jJ (fX 40) 3)):iA P w K mg base c.Cutting "many" 1 (p0 K (f9 c)):=Dl Z 0 (f9 c) ["self"] ["self"] rfl ER.cl_Cutting D λnd hX hr=>⟨_,(dN (dX (eO (fF (K:=K)) iV (by rfl) B.len iS (dD (v9 rfl ER.cl_Cutting ER.na_Cutting_own_cuts (dE 0)) dI))))⟩
theorem o9(D:dZ K mg "_law_cell_at" (fX 42)):CP Z "_law_cell_at" 1 (eD c):=iw Z 0 (eD c) ["_law_script","_law_k"] ["_law_script","_law_k"] rfl D λnd hX hr=>⟨_,(dJ (eU (gK uo sH (dE 1) (eO (fF (K:=K)) iV (by rfl) B.len iS (dD (dE 0) dI))) (dN (dX (eE (dE 0) (dE 1)))) eA)
  (dN (dX dO)))⟩
theorem IR(D:dZ K mg "_law_draw" (fX 43)):CP Z "_law_draw" 1 (eg c):=iw Z 0 (eg c) ["_law_cell","_law_k","_law_bound","_law_left","_law_j","_law_stir"] ["_law_cell","_law_k","_law_bound"] rfl D λnd hX hr=>⟨_,(dJ (eU (gK xb wA (dE 0) (uT dO dO)) (dJ (dU 3 nd (dE 0))
  (dJ (jU PassesOwn.never rfl (iF B.range (dD (dE 1) dI)) (fH 4 nd) (dN (dU 3 nd (kh (dE 3) (dE 2)))))
  (dN (dX (lQ (dE 3) (dE 2)))))) eA)
  (dJ (dU 5 nd (lQ (eZ (gj (gj (lQ (dE 0) dO) (eZ dO (dE 1))) dO) dO) dO))
  (dJ (dU 5 nd (lQ (gj (gj (eZ (dE 5) (dE 5)) (eZ dO (dE 1))) dO) dO))
  (dN (dX (lQ (kh (lQ (eZ (dE 5) dO) dO) dO) (dE 2)))))))⟩
theorem IC(D:dZ K mg "_law_same" (fX 44)):CP Z "_law_same" 1 (ia c):=iw Z 0 (ia c) ["_law_one","_law_other","_law_k","_law_j"] ["_law_one","_law_other"] rfl D λnd hX hr=>⟨_,(dJ (jU PassesOwn.never rfl (iF B.range (dD (eO (fF (K:=K)) iV (by rfl) B.len iS (dD (dE 0) dI)) dI)) (fH 2 nd) (dN (jU PassesOwn.never rfl (iF B.range (dD (dE 2) dI)) (fH 3 nd) (dN (eU (jP hr (eZ (eE (dE 0) (dE 2)) (eE (dE 1) (dE 3))) (eZ (eE (dE 0) (dE 3)) (eE (dE 1) (dE 2)))) (dN (dX lD)) eA)))))
  (dN (dX lD)))⟩
theorem IK(D:dZ K mg "_law_lists" (fX 48)):CP Z "_law_lists" 1 (i5 c):=iw Z 0 (i5 c) ["_law_many","_law_most","_law_found","_law_size","_law_longer","_law_some","_law_begin"] ["_law_many","_law_most"] rfl D λnd hX hr=>⟨_,(dJ (dU 2 nd (eI (eX (dD (eI (eX dI)) dI))))
  (dJ (jU PassesOwn.never rfl (iF B.range (dD (dE 1) dI)) (fH 3 nd) (dJ (dU 4 nd (eI (eX dI)))
  (dJ (h7 PassesOwn.never rfl (eS (dE 2)) (fH 5 nd) (dJ (dU 6 nd (GZ (jP hr (dE 5) (eI (eX dI))) (gj (eE (dE 5) (jn dO)) dO) dO))
  (dN (dU 4 nd (eI (pC (dE 4) (eI (fW ["_law_k","_law_some"] [none,some 5] hX (pI.pim (C0 B.range (dD (dE 6) (dD (dE 0) dI)))) (λnd hX=>⟨(fG 0 nd),eR,(eI (pC (dE 1) (eI (eX (dD (dE 0) dI)))))⟩)))))))))
  (dN (dU 2 nd (eI (pC (dE 2) (eI (fW ["_law_some","_law_found"] [none,some 2] hX (eS (dE 4)) (λnd hX=>⟨(fG 0 nd),(mM (vQ hr (dE 0) (dE 1))),(dE 0)⟩))))))))))
  (dN (dX (dE 2)))))⟩
theorem Jh(D:dZ K mg "is_number_of" (fX 8))(O0:CP Z "is_whole" 1 (fJ c)):CP Z "is_number_of" 2 (gI c):=iw Z 1 (gI c) ["thing","many"] ["thing","many"] rfl D λnd hX hr=>⟨_,(dN (dX (uM (dS O0 hr (dD (dE 0) dI)) (vp (tO sX tU uo sH dO (dE 0) (dE 1))))))⟩
theorem Jb(D:dZ K mg "lowest" (fX 11))(O2:CP Z "common_divisor" 1 (eK c)):CP Z "lowest" 2 (jr c):=iw Z 1 (jr c) ["row","divisor","number"] ["row"] rfl D λnd hX hr=>⟨_,(dJ (dU 1 nd dO)
  (dJ (h7 PassesOwn.never rfl (eS (dE 0)) (fH 2 nd) (dJ (dU 1 nd (dS O2 hr (dD (dE 1) (dD (dE 2) dI))))
  (dN (eU (iG hr (dE 1) dO) (dN (dX (dE 0))) eA))))
  (dJ (eU (iG hr (dE 1) dO) (dN (dX (dE 0))) eA)
  (dN (dX (gQ (fT (K:=K)) gM (by rfl) B.tuple g9 (dD (eI (fW ["number","divisor"] [none,some 1] hX (eS (dE 0)) (λnd hX=>⟨(fG 0 nd),eR,(kh (dE 0) (dE 1))⟩))) dI)))))))⟩
theorem IV(D:dZ K mg "made" (fX 14))(O2:CP Z "common_divisor" 1 (eK c)):CP Z "made" 2 (jy c):=iw Z 1 (jy c) ["top","bottom","divisor"] ["top","bottom"] rfl D λnd hX hr=>⟨_,(dJ (eU (iG hr (dE 1) dO) (dN l7) eA)
  (dJ (dU 2 nd (dS O2 hr (dD (dE 0) (dD (dE 1) dI))))
  (dJ (eU (gK uo sH (dE 1) dO) (dN (dU 2 nd (jn (dE 2)))) eA)
  (dN (dX (iP (dD (kh (dE 0) (dE 2)) (dD (kh (dE 1) (dE 2)) dI))))))))⟩
theorem Iy(D:dZ K mg "is_dims" (fX 34))(O0:CP Z "is_whole" 1 (fJ c)):CP Z "is_dims" 2 (jm c):=iw Z 1 (jm c) ["thing"] ["thing"] rfl D λnd hX hr=>⟨_,(dN (dX (uM (dS O0 hr (dD (dE 0) dI)) (vp (tO sX tU sX tU dO (dE 0) (tN 3 ER.k_MOST_DIMS))))))⟩
theorem IJ(D:dZ K mg "is_cut" (fX 35))(O0:CP Z "is_whole" 1 (fJ c)):CP Z "is_cut" 2 (jX c):=iw Z 1 (jX c) ["dims","thing"] ["dims","thing"] rfl D λnd hX hr=>⟨_,(dJ (eU (sy (ng (iW (lI (pK "tuple" (by decide) B.isinstance B.tuple g9 (dE 1)))) (lh (jP hr (eO (fF (K:=K)) iV (by rfl) B.len iS (dD (dE 1) dI)) (gj (dE 0) dO))))) (dN (dX lD)) eA)
  (dJ (eU (iW (lI (eO (nE (K:=K) rfl) uY (by rfl) B.all uI (dD (eI (fW ["number"] [none] hX (eS (dE 1)) (λnd hX=>⟨(fG 0 nd),eR,(dS O0 hr (dD (dE 0) dI))⟩))) dI)))) (dN (dX lD)) eA)
  (dN (dX (eO (qF (K:=K) rfl) Aj (by rfl) B.any AD (dD (eI (fW ["number"] [none] hX (eS (k9 (dE 1) ox (oW (dE 0)))) (λnd hX=>⟨(fG 0 nd),eR,(GS hr (dE 0) dO)⟩))) dI))))))⟩
theorem IZ(D:dZ K mg "same_spots" (fX 37))(O5:CP Z "first_place" 1 (hW c)):CP Z "same_spots" 2 (iD c):=iw Z 1 (iD c) ["one","other","place"] ["one","other"] rfl D λnd hX hr=>⟨_,(dJ (dU 2 nd (dS O5 hr (dD (dE 0) dI)))
  (dN (dX (eO (nE (K:=K) rfl) uY (by rfl) B.all uI (dD (eI (fW ["mine","theirs","other","place","one"] [none,none,some 1,some 2,some 0] hX (l6 B.zip (dD (dE 0) (dD (dE 1) dI))) (λnd hX=>⟨(m7 2 rfl (fR (fG 0 nd) (fR (fG 1 nd) jV))),eR,(Dj hr (eZ (dE 0) (eE (dE 2) (dE 3))) (eZ (dE 1) (eE (dE 4) (dE 3))))⟩))) dI)))))⟩
theorem IP(D:dZ K mg "_law_cut" (fX 45))(O10:CP Z "_law_draw" 1 (eg c)):CP Z "_law_cut" 2 (jk c):=iw Z 1 (jk c) ["_law_cell","_law_dims","_law_ahead","_law_numbers","_law_c","_law_way","_law_far"] ["_law_cell","_law_dims","_law_ahead"] rfl D λnd hX hr=>⟨_,(dJ (sq ["_law_j","_law_cell"] [none,some 0] 3 nd hX (pI.pim (iF B.range (dD (dE 1) dI))) (λnd hX=>⟨(fG 0 nd),eR,(su (dS O10 hr (dD (dE 1) (dD (dE 0) (dD dO dI)))) dO)⟩) wM)
  (dJ (eU (iG hr (dE 3) (eI (rj (eI (eX (dD dO dI))) (dE 1)))) (dN (mZ 3 (pv 3) (dS O10 hr (dD (dE 0) (dD dO (dD (dE 1) dI)))) (gj dO (dS O10 hr (dD (dE 0) (dD dO (dD dO dI))))))) eA)
  (dJ (dU 4 nd (su (dS O10 hr (dD (dE 0) (dD dO (dD dO dI)))) dO))
  (dJ (dU 5 nd (dS O10 hr (dD (dE 0) (dD dO (dD dO dI)))))
  (dJ (eU (sy (rn (iG hr (dE 5) dO) (oH (jP hr (dE 2) (eI (eX dI)))))) (dN (hC 3 nd (lb (ka (K:=K)) mm (by rfl) B.list lr (dD (k9 (eE (dE 2) (dS O10 hr (dD (dE 0) (dD dO (dD (eO (fF (K:=K)) iV (by rfl) B.len iS (dD (dE 2) dI)) dI))))) ox (oW (dE 1))) dI)))) eA)
  (dJ (eU (sy (ng (iG hr (dE 5) dO) (lh (iG hr (dE 5) dO)))) (dN (tj 4 nd (eO (qU (K:=K) rfl) AG (by rfl) B.sum A6 (dD (eI (fW ["_law_number","_law_part"] [none,none] hX (l6 B.zip (dD (dE 3) (dD (eI (eX (dD dO (dD dO (dD (jn dO) dI))))) dI))) (λnd hX=>⟨(m7 2 rfl (fR (fG 0 nd) (fR (fG 1 nd) jV))),eR,(eZ (dE 0) (dE 1))⟩))) dI)))) eA)
  (dJ (eU (iG hr (dE 5) dO) (dJ (dU 6 nd (eZ (gj dO (dS O10 hr (dD (dE 0) (dD dO (dD (uT dO dO) dI))))) (eE (eI (eX (dD dO (dD dO (dD (uT dO dO) dI))))) (dS O10 hr (dD (dE 0) (dD dO (dD dO dI)))))))
  (dJ (sq ["_law_number","_law_far"] [none,some 6] 3 nd hX (eS (dE 3)) (λnd hX=>⟨(fG 0 nd),eR,(eZ (dE 0) (dE 1))⟩) B0)
  (dN (dU 4 nd (gj (eZ (dE 4) (dE 6)) (dS O10 hr (dD (dE 0) (dD dO (dD dO dI))))))))) eA)
  (dN (dX (gQ (fT (K:=K)) gM (by rfl) B.tuple g9 (dD (eI (pC (dE 3) (eI (eX (dD (dE 4) dI))))) dI)))))))))))⟩
theorem IY(D:dZ K mg "cleared" (fX 12))(O14:CP Z "lowest" 2 (jr c))(O1:CP Z "sign_of" 1 (jZ c)):CP Z "cleared" 3 (gL c):=iw Z 2 (gL c) ["row","other","place","often","other_often"] ["row","other","place"] rfl D λnd hX hr=>⟨_,(dJ (eU (iG hr (eE (dE 0) (dE 2)) dO) (dN (dX (dE 0))) eA)
  (dJ (dU 3 nd (eO t8 yE (by rfl) B.abs AM (dD (eE (dE 1) (dE 2)) dI)))
  (dJ (dU 4 nd (eZ (jn (eE (dE 0) (dE 2))) (dS O1 hr (dD (eE (dE 1) (dE 2)) dI))))
  (dN (dX (dS O14 hr (dD (gQ (fT (K:=K)) gM (by rfl) B.tuple g9 (dD (eI (fW ["mine","theirs","often","other_often"] [none,none,some 3,some 4] hX (l6 B.zip (dD (dE 0) (dD (dE 1) dI))) (λnd hX=>⟨(m7 2 rfl (fR (fG 0 nd) (fR (fG 1 nd) jV))),eR,(gj (eZ (dE 2) (dE 0)) (eZ (dE 3) (dE 1)))⟩))) dI)) dI)))))))⟩
theorem Jc(D:dZ K mg "minus" (fX 15))(O15:CP Z "made" 2 (jy c)):CP Z "minus" 3 (mq c):=iw Z 2 (mq c) ["one","other"] ["one","other"] rfl D λnd hX hr=>⟨_,(dN (dX (dS O15 hr (dD (su (eZ (eE (dE 0) dO) (eE (dE 1) dO)) (eZ (eE (dE 1) dO) (eE (dE 0) dO))) (dD (eZ (eE (dE 0) dO) (eE (dE 1) dO)) dI)))))⟩
theorem Je(D:dZ K mg "times" (fX 16))(O15:CP Z "made" 2 (jy c)):CP Z "times" 3 (mR c):=iw Z 2 (mR c) ["one","other"] ["one","other"] rfl D λnd hX hr=>⟨_,(dN (dX (dS O15 hr (dD (eZ (eE (dE 0) dO) (eE (dE 1) dO)) (dD (eZ (eE (dE 0) dO) (eE (dE 1) dO)) dI)))))⟩
theorem IU(D:dZ K mg "over" (fX 17))(O15:CP Z "made" 2 (jy c)):CP Z "over" 3 (pA c):=iw Z 2 (pA c) ["one","other"] ["one","other"] rfl D λnd hX hr=>⟨_,(dJ (eU (iG hr (eE (dE 1) dO) dO) (dN l7) eA)
  (dN (dX (dS O15 hr (dD (eZ (eE (dE 0) dO) (eE (dE 1) dO)) (dD (eZ (eE (dE 0) dO) (eE (dE 1) dO)) dI))))))⟩
theorem ID(D:dZ K mg "whole_way" (fX 26))(O14:CP Z "lowest" 2 (jr c))(O2:CP Z "common_divisor" 1 (eK c)):CP Z "whole_way" 3 (i7 c):=iw Z 2 (i7 c) ["parts","bottoms","part"] ["parts"] rfl D λnd hX hr=>⟨_,(dJ (dU 1 nd dO)
  (dJ (h7 PassesOwn.never rfl (eS (dE 0)) (fH 2 nd) (dN (dU 1 nd (kh (eZ (dE 1) (eE (dE 2) dO)) (dS O2 hr (dD (dE 1) (dD (eE (dE 2) dO) dI)))))))
  (dN (dX (dS O14 hr (dD (gQ (fT (K:=K)) gM (by rfl) B.tuple g9 (dD (eI (fW ["part","bottoms"] [none,some 1] hX (eS (dE 0)) (λnd hX=>⟨(fG 0 nd),eR,(eZ (eE (dE 0) dO) (kh (dE 1) (eE (dE 0) dO)))⟩))) dI)) dI))))))⟩
theorem IX(D:dZ K mg "are_numbers_of_cuts" (fX 29))(O13:CP Z "is_number_of" 2 (gI c))(O8:iA P w K mg base c.Cutting "many" 1 (p0 K (f9 c))):CP Z "are_numbers_of_cuts" 3 (eW c):=iw Z 2 (eW c) ["cutting","thing"] ["cutting","thing"] rfl D λnd hX hr=>⟨_,(dJ (eU (iW (lI (pK "list" (by decide) B.isinstance B.list lr (dE 1)))) (dN (dX lD)) eA)
  (dJ (eU (iW (lI (eO (nE (K:=K) rfl) uY (by rfl) B.all uI (dD (eI (fW ["k","cutting"] [none,some 0] hX (eS (dE 1)) (λnd hX=>⟨(fG 0 nd),eR,(dS O13 hr (dD (dE 0) (dD (yZ O8 hr (dE 1)) dI)))⟩))) dI)))) (dN (dX lD)) eA)
  (dN (dX (Dj hr (Gk rfl B.len B.set (dD (dE 1) dI)) (eO (fF (K:=K)) iV (by rfl) B.len iS (dD (dE 1) dI)))))))⟩
theorem IT(D:dZ K mg "can_stand" (fX 38))(O17:CP Z "is_cut" 2 (jX c))(O18:CP Z "same_spots" 2 (iD c)):CP Z "can_stand" 3 (iq c):=iw Z 2 (iq c) ["dims","ahead","thing"] ["dims","ahead","thing"] rfl D λnd hX hr=>⟨_,(dJ (eU (sy (ng (gK xb wA (eO (fF (K:=K)) iV (by rfl) B.len iS (dD (dE 1) dI)) (tN 7 ER.k_MOST_CUTS)) (lh (iW (lI (dS O17 hr (dD (dE 0) (dD (dE 2) dI)))))))) (dN (dX lD)) eA)
  (dN (dX (AH (eO (qF (K:=K) rfl) Aj (by rfl) B.any AD (dD (eI (fW ["cut","thing"] [none,some 2] hX (eS (dE 1)) (λnd hX=>⟨(fG 0 nd),eR,(dS O18 hr (dD (dE 0) (dD (dE 1) dI)))⟩))) dI))))))⟩
theorem I0(D:dZ K mg "_law_cuts" (fX 46))(O19:CP Z "_law_cut" 2 (jk c))(O9:CP Z "_law_cell_at" 1 (eD c))(O11:CP Z "_law_same" 1 (ia c)):CF Z "_law_cuts" 3 (ju c):=t7 Z 2 (ju c) ["_law_script","_law_at","_law_dims","_law_many","_law_found","_law_k","_law_cut_here"] ["_law_script","_law_at","_law_dims","_law_many"] rfl D λnd hX hr=>⟨_,(dJ (hC 4 nd (eX dI))
  (dJ (jU PassesOwn.never rfl (iF B.range (dD (dE 3) dI)) (fH 5 nd) (dJ (tj 6 nd (dS O19 hr (dD (dS O9 hr (dD (dE 0) (dD (gj (dE 1) (dE 5)) dI))) (dD (dE 2) (dD (dE 4) dI)))))
  (dN (eU (iG hr (eI (fW ["_law_other","_law_cut_here"] [none,some 6] hX (eS (dE 4)) (λnd hX=>⟨(fG 0 nd),(mM (lI (dS O11 hr (dD (dE 1) (dD (dE 0) dI))))),(dE 0)⟩))) (eI (eX dI))) (dN (kP 4 (pv 4) (dE 6))) eA))))
  (dN (ui 4 (pv 4)))))⟩
theorem IM(D:dZ K mg "settled" (fX 20))(O20:CP Z "cleared" 3 (gL c)):CP Z "settled" 4 (j3 c):=iw Z 3 (j3 c) ["row","pivots","place","pivot"] ["row","pivots"] rfl D λnd hX hr=>⟨_,(dJ (h7 PassesOwn.never rfl (eS (dE 1)) (pF 2 rfl (gE (fH 2 nd) (gE (fH 3 nd) kR))) (dN (dU 0 nd (dS O20 hr (dD (dE 0) (dD (dE 3) (dD (dE 2) dI)))))))
  (dN (dX (dE 0))))⟩
theorem IS(D:dZ K mg "with_pivot" (fX 21))(O20:CP Z "cleared" 3 (gL c)):CF Z "with_pivot" 4 (gO c):=t7 Z 3 (gO c) ["pivots","row","place"] ["pivots","row","place"] rfl D λnd hX hr=>⟨_,(dN (mH (pC (eI (fW ["other_place","pivot","row","place"] [none,none,some 1,some 2] hX (eS (dE 0)) (λnd hX=>⟨(m7 2 rfl (fR (fG 0 nd) (fR (fG 1 nd) jV))),eR,(iP (dD (dE 0) (dD (dS O20 hr (dD (dE 1) (dD (dE 2) (dD (dE 3) dI)))) dI)))⟩))) (eI (eX (dD (iP (dD (dE 2) (dD (dE 1) dI))) dI))))))⟩
theorem IB(D:dZ K mg "left_for" (fX 24))(O21:CP Z "minus" 3 (mq c))(O22:CP Z "times" 3 (mR c)):CP Z "left_for" 4 (jD c):=iw Z 3 (jD c) ["row","parts","left","number","part"] ["row","parts"] rfl D λnd hX hr=>⟨_,(dJ (dU 2 nd (iP (dD (eE (dE 0) (eO (fF (K:=K)) iV (by rfl) B.len iS (dD (dE 1) dI))) (dD dO dI))))
  (dJ (h7 PassesOwn.never rfl (l6 B.zip (dD (dE 0) (dD (dE 1) dI))) (pF 2 rfl (gE (fH 3 nd) (gE (fH 4 nd) kR))) (dN (dU 2 nd (dS O21 hr (dD (dE 2) (dD (dS O22 hr (dD (iP (dD (dE 3) (dD dO dI))) (dD (dE 4) dI))) dI))))))
  (dN (dX (dE 2)))))⟩
theorem IH(D:dZ K mg "way_along" (fX 27))(O24:CP Z "whole_way" 3 (i7 c))(O15:CP Z "made" 2 (jy c)):CP Z "way_along" 4 (ij c):=iw Z 3 (ij c) ["pivots","dims","free","parts","place","pivot"] ["pivots","dims","free"] rfl D λnd hX hr=>⟨_,(dJ (hC 3 nd (rj (eI (eX (dD (iP (dD dO (dD dO dI))) dI))) (dE 1)))
  (dJ (mZ 3 (pv 3) (dE 2) (iP (dD dO (dD dO dI))))
  (dJ (h7 PassesOwn.never rfl (eS (dE 0)) (pF 2 rfl (gE (fH 4 nd) (gE (fH 5 nd) kR))) (dN (mZ 3 (pv 3) (dE 4) (dS O15 hr (dD (jn (eE (dE 5) (dE 2))) (dD (eE (dE 5) (dE 4)) dI))))))
  (dN (dX (dS O24 hr (dD (dE 3) dI)))))))⟩
theorem II(D:dZ K mg "checked_cuts" (fX 39))(O16:CP Z "is_dims" 2 (jm c))(O26:CP Z "can_stand" 3 (iq c)):CP Z "checked_cuts" 4 (f6 c):=iw Z 3 (f6 c) ["dims","things","ahead","thing"] ["dims","things"] rfl D λnd hX hr=>⟨_,(dJ (eU (sy (ng (iW (lI (dS O16 hr (dD (dE 0) dI)))) (lh (iW (lI (pK "list" (by decide) B.isinstance B.list lr (dE 1))))))) (dN l7) eA)
  (dJ (hC 2 nd (eX dI))
  (dJ (h7 PassesOwn.never rfl (eS (dE 1)) (fH 3 nd) (dJ (eU (iW (lI (dS O26 hr (dD (dE 0) (dD (dE 2) (dD (dE 3) dI)))))) (dN l7) eA)
  (dN (kP 2 (pv 2) (gQ (fT (K:=K)) gM (by rfl) B.tuple g9 (dD (dE 3) dI))))))
  (dN (dX (gQ (fT (K:=K)) gM (by rfl) B.tuple g9 (dD (dE 2) dI)))))))⟩
theorem IL(D:dZ K mg "pivots_and_rests" (fX 22))(O28:CP Z "settled" 4 (j3 c))(O29:CF Z "with_pivot" 4 (gO c)):CP Z "pivots_and_rests" 5 (fK c):=iw Z 4 (fK c) ["rows","dims","pivots","rests","row","left","places"] ["rows","dims"] rfl D λnd hX hr=>⟨_,(dJ (dU 2 nd (eI (eX dI)))
  (dJ (hC 3 nd (eX dI))
  (dJ (h7 PassesOwn.never rfl (eS (dE 0)) (fH 4 nd) (dJ (dU 5 nd (dS O28 hr (dD (dE 4) (dD (dE 2) dI))))
  (dJ (sq ["place","left"] [none,some 5] 6 nd hX (pI.pim (iF B.range (dD (dE 1) dI))) (λnd hX=>⟨(fG 0 nd),(mM (jP hr (eE (dE 1) (dE 0)) dO)),(dE 0)⟩) tW)
  (dN (eU (iG hr (dE 6) (eI (eX dI))) (dN (kP 3 (pv 3) (dE 5))) (dN (dU 2 nd (eI (mK O29 hr (dD (dE 2) (dD (dE 5) (dD (eE (dE 6) dO) dI))))))))))))
  (dN (dX (iP (dD (dE 2) (dD (dE 3) dI))))))))⟩
theorem IW(D:dZ K mg "filled" (fX 25))(O23:CP Z "over" 3 (pA c))(O30:CP Z "left_for" 4 (jD c)):CP Z "filled" 5 (kS c):=iw Z 4 (kS c) ["pivots","parts","spot","place","pivot"] ["pivots","parts"] rfl D λnd hX hr=>⟨_,(dJ (hC 2 nd (lb (ka (K:=K)) mm (by rfl) B.list lr (dD (dE 1) dI)))
  (dJ (h7 PassesOwn.never rfl (eS (dE 0)) (pF 2 rfl (gE (fH 3 nd) (gE (fH 4 nd) kR))) (dN (mZ 2 (pv 2) (dE 3) (dS O23 hr (dD (dS O30 hr (dD (dE 4) (dD (dE 1) dI))) (dD (iP (dD (eE (dE 4) (dE 3)) (dD dO dI))) dI))))))
  (dN (dX (gQ (fT (K:=K)) gM (by rfl) B.tuple g9 (dD (dE 2) dI))))))⟩
theorem IF(D:dZ K mg "ways_along" (fX 28))(O31:CP Z "way_along" 4 (ij c))(O4:CF Z "free_places" 1 (gZ c)):CF Z "ways_along" 5 (iB c):=t7 Z 4 (iB c) ["pivots","dims"] ["pivots","dims"] rfl D λnd hX hr=>⟨_,(dN (mH (fW ["free","pivots","dims"] [none,some 0,some 1] hX (eS (eI (mK O4 hr (dD (dE 0) (dD (dE 1) dI))))) (λnd hX=>⟨(fG 0 nd),eR,(dS O31 hr (dD (dE 1) (dD (dE 2) (dD (dE 0) dI))))⟩))))⟩
theorem IE(D:gU K c.Cutting "__init__" "Cutting.__init__" (jJ (fX 40) 0))(O32:CP Z "checked_cuts" 4 (f6 c)):xn P w K mg base "Cutting" c.Cutting 5 (vC K c.Cutting (fj c)):=HX Z 4 (fj c) ["self","dims","cuts"] rfl ER.cl_Cutting ER.na_Cutting_own_cuts ER.na_Cutting_own_dims ER.mk_Cutting ER.kp_Cutting ER.mg_Cutting D λhr=>HH rfl (pv 0) (dS O32 hr (dD (dE 1) (dD (dE 2) dI))) (pv 0) (dE 1)
theorem Ji(D:dZ K mg "meet" (fX 30))(O6:iA P w K mg base c.Cutting "dims" 1 (p0 K (f7 c)))(O7:iA P w K mg base c.Cutting "cuts" 1 (uX K (gh c)))(O33:CP Z "pivots_and_rests" 5 (fK c))(O25:CP Z "are_numbers_of_cuts" 3 (eW c))(O3:CF Z "weighted" 1 (jo c))(O34:CP Z "filled" 5 (kS c))(O35:CF Z "ways_along" 5 (iB c)):CP Z "meet" 6 (ny c):=iw Z 5 (ny c) ["cutting","some","dims","cuts","found","rest","pivots"] ["cutting","some"] rfl D λnd hX hr=>⟨_,(dJ (eU (iW (lI (dS O25 hr (dD (dE 0) (dD (dE 1) dI))))) (dN l7) eA)
  (dJ (dU 2 nd (yZ O6 hr (dE 0)))
  (dJ (dU 3 nd (eI (EH O7 hr (dE 0))))
  (dJ (dU 4 nd (dS O33 hr (dD (eI (mK O3 hr (dD (eI (fW ["k","cuts"] [none,some 3] hX (eS (dE 1)) (λnd hX=>⟨(fG 0 nd),eR,(eE (dE 1) (dE 0))⟩))) dI))) (dD (dE 2) dI))))
  (dJ (h7 PassesOwn.never rfl (eS (eE (dE 4) dO)) (fH 5 nd) (dN (eU (jP hr (eE (dE 5) (dE 2)) dO) (dN (dX (iP (dD vW (dD (eI (lb (ka (K:=K)) mm (by rfl) B.list lr (dD (k9 (dE 5) (oW (gj (dE 2) dO)) ox) dI))) dI))))) eA)))
  (dJ (dU 6 nd (eE (dE 4) dO))
  (dN (dX (iP (dD vW (dD (dS O34 hr (dD (dE 6) (dD (eI (rj (eI (eX (dD (iP (dD dO (dD dO dI))) dI))) (dE 2))) dI))) (dD (eI (mK O35 hr (dD (dE 6) (dD (dE 2) dI)))) dI))))))))))))⟩
theorem Jd(D:dZ K mg "_law_kind" (fX 47))(O37:CP Z "meet" 6 (ny c)):CP Z "_law_kind" 7 (gy c):=iw Z 6 (gy c) ["_law_cutting","_law_some","_law_found"] ["_law_cutting","_law_some"] rfl D λnd hX hr=>⟨_,(dJ (dU 2 nd (dS O37 hr (dD (dE 0) (dD (dE 1) dI))))
  (dJ (eU (iG hr (eE (dE 2) dO) vW) (dN (dX (jn dO))) eA)
  (dN (dX (eO (fF (K:=K)) iV (by rfl) B.len iS (dD (eE (dE 2) dO) dI))))))⟩
theorem oL{f0:Addr}{fd:FuncData}(D:A9 K "law" "law" (fX 49) f0 fd)(O27:CF Z "_law_cuts" 3 (ju c))(O36:xn P w K mg base "Cutting" c.Cutting 5 (vC K c.Cutting (fj c)))(O12:CP Z "_law_lists" 1 (i5 c))(O10:CP Z "_law_draw" 1 (eg c))(O38:CP Z "_law_kind" 7 (gy c))(O9:CP Z "_law_cell_at" 1 (eD c)):jB P w K mg base oU 8 f0 fd ["_law_script"] (p0 K (og c)):=F7 Z 7 (og c) ["_law_script","_law_dims","_law_cuts_here","_law_often","_law_steps","_law_scaled","_law_shifted","_law_k","_law_more","_law_cutting","_law_others","_law_some","_law_due","_law_before"] ["_law_script"] rfl D λnd hX hr=>⟨_,(dJ (dU 1 nd (gj dO (dS O10 hr (dD (dS O9 hr (dD (dE 0) (dD dO dI))) (dD dO (dD dO dI))))))
  (dJ (dU 2 nd (eI (mK O27 hr (dD (dE 0) (dD dO (dD (dE 1) (dD (gj dO (dS O10 hr (dD (dS O9 hr (dD (dE 0) (dD dO dI))) (dD dO (dD dO dI))))) dI)))))))
  (dJ (dU 3 nd (eI (fW ["_law_k","_law_script"] [none,some 0] hX (pI.pim (iF B.range (dD (eO (fF (K:=K)) iV (by rfl) B.len iS (dD (dE 2) dI)) dI))) (λnd hX=>⟨(fG 0 nd),eR,(eE (eI (eX (dD dO (dD (jn dO) (dD dO (dD (jn dO) dI)))))) (dS O10 hr (dD (dS O9 hr (dD (dE 1) (dD dO dI))) (dD (dE 0) (dD dO dI)))))⟩))))
  (dJ (sq ["_law_j","_law_script"] [none,some 0] 4 nd hX (pI.pim (iF B.range (dD (dE 1) dI))) (λnd hX=>⟨(fG 0 nd),eR,(su (dS O10 hr (dD (dS O9 hr (dD (dE 1) (dD dO dI))) (dD (dE 0) (dD dO dI)))) dO)⟩) tW)
  (dJ (hC 5 nd (eX dI))
  (dJ (hC 6 nd (eX dI))
  (dJ (jU PassesOwn.never rfl (iF B.range (dD (eO (fF (K:=K)) iV (by rfl) B.len iS (dD (dE 2) dI)) dI)) (fH 7 nd) (dJ (kP 5 (pv 5) (gQ (fT (K:=K)) gM (by rfl) B.tuple g9 (dD (eI (fW ["_law_number","_law_often","_law_k"] [none,some 3,some 7] hX (eS (eE (dE 2) (dE 7))) (λnd hX=>⟨(fG 0 nd),eR,(eZ (eE (dE 1) (dE 2)) (dE 0))⟩))) dI)))
  (dJ (dU 8 nd (eO (qU (K:=K) rfl) AG (by rfl) B.sum A6 (dD (eI (fW ["_law_number","_law_step"] [none,none] hX (l6 B.zip (dD (eE (dE 2) (dE 7)) (dD (dE 4) dI))) (λnd hX=>⟨(m7 2 rfl (fR (fG 0 nd) (fR (fG 1 nd) jV))),eR,(eZ (dE 0) (dE 1))⟩))) dI)))
  (dN (kP 6 (pv 6) (gj (k9 (eE (dE 2) (dE 7)) ox (oW (dE 1))) (iP (dD (gj (eE (eE (dE 2) (dE 7)) (dE 1)) (dE 8)) dI))))))))
  (dJ (dU 9 nd (AY O36 hr (dD (dE 1) (dD (dE 2) dI))))
  (dJ (yk 10 nd (eX (dD (AY O36 hr (dD (dE 1) (dD (dE 5) dI))) (dD (AY O36 hr (dD (dE 1) (dD (dE 6) dI))) dI))))
  (dJ (h7 PassesOwn.never rfl (eS (dS O12 hr (dD (eO (fF (K:=K)) iV (by rfl) B.len iS (dD (dE 2) dI)) (dD (eO (xy rfl) BP (by rfl) B.min EU (dD dO (dD (gj (dE 1) dO) dI))) dI)))) (fH 11 nd) (dJ (dU 12 nd (dS O38 hr (dD (dE 9) (dD (dE 11) dI))))
  (dJ (eU (sy (ng (jP hr (dS O38 hr (dD (dE 9) (dD (Fo (dE 11) (jn dO)) dI))) (dE 12)) (lh (jP hr (eI (fW ["_law_other","_law_some"] [none,some 11] hX (eS (dE 10)) (λnd hX=>⟨(fG 0 nd),eR,(dS O38 hr (dD (dE 0) (dD (dE 1) dI)))⟩))) (eI (eX (dD (dE 12) (dD (dE 12) dI)))))))) (dN (dX lD)) eA)
  (dN (eU (jP hr (dE 11) (eI (eX dI))) (dJ (dU 13 nd (dS O38 hr (dD (dE 9) (dD (k9 (dE 11) ox (oW (jn dO))) dI))))
  (dN (eU (sy (ng (sy (rn (gK xb wA (dE 12) dO) (oH (iW (yc sX tU sX tU (dE 12) (dE 13) (gj (dE 12) dO)))))) (lh (sy (rn (gK uo sH (dE 13) dO) (oH (gK xb wA (dE 12) dO))))))) (dN (dX lD)) eA))) eA)))))
  (dN (dX lD))))))))))))⟩
end
theorem E9{l:W.OpenLaw}{w:World}{K:W.Frag}{h:Heap}{mg:Str->Option Value}{c:Cs}{fa f:Addr}{oc kV doc pm cdv ct:Value}{od an:Option Addr}{osl:Array (Option Value)}(X:K.In h)(G:h.Ns mainGlobals mg)(hfa:mg "law" = some (.ref fa))
  (a:W.nsIn K mainGlobals "law" = some (some (.ref f))) (lk:K.lookup f=some ⟨oc,od,.func (W.fnOf "law" "law" (fY (fX 49)) (eQ (fX 49)) (dR (fX 49)) .none kV doc pm an cdv ct),osl⟩) (cc:W.codeIn K cdv "law" = true) (kk:W.keepIn K (.ref f)=true)
  (B:Bs mg) (ER:Er c K mg) (LF:∀ns:LI,(og c) [.scr ns]=.ok (.bl true)) (D0:dZ K mg "is_whole" (fX 7)) (D1:dZ K mg "sign_of" (fX 9)) (D2:dZ K mg "common_divisor" (fX 10)) (D3:dZ K mg "weighted" (fX 19)) (D4:dZ K mg "free_places" (fX 23)) (D5:dZ K mg "first_place" (fX 36)) (D6:dZ K mg "_law_cell_at" (fX 42)) (D7:dZ K mg "_law_draw" (fX 43)) (D8:dZ K mg "_law_same" (fX 44)) (D9:dZ K mg "_law_lists" (fX 48)) (D10:dZ K mg "is_number_of" (fX 8)) (D11:dZ K mg "lowest" (fX 11)) (D12:dZ K mg "made" (fX 14)) (D13:dZ K mg "is_dims" (fX 34)) (D14:dZ K mg "is_cut" (fX 35)) (D15:dZ K mg "same_spots" (fX 37)) (D16:dZ K mg "_law_cut" (fX 45)) (D17:dZ K mg "cleared" (fX 12)) (D18:dZ K mg "minus" (fX 15)) (D19:dZ K mg "times" (fX 16)) (D20:dZ K mg "over" (fX 17)) (D21:dZ K mg "whole_way" (fX 26)) (D22:dZ K mg "are_numbers_of_cuts" (fX 29)) (D23:dZ K mg "can_stand" (fX 38)) (D24:dZ K mg "_law_cuts" (fX 46)) (D25:dZ K mg "settled" (fX 20)) (D26:dZ K mg "with_pivot" (fX 21)) (D27:dZ K mg "left_for" (fX 24)) (D28:dZ K mg "way_along" (fX 27)) (D29:dZ K mg "checked_cuts" (fX 39)) (D30:dZ K mg "pivots_and_rests" (fX 22)) (D31:dZ K mg "filled" (fX 25)) (D32:dZ K mg "ways_along" (fX 28)) (D33:dZ K mg "meet" (fX 30)) (D34:dZ K mg "_law_kind" (fX 47)) (M0:gU K c.Cutting "dims" "Cutting.dims" (jJ (fX 40) 1)) (M1:gU K c.Cutting "cuts" "Cutting.cuts" (jJ (fX 40) 2)) (M2:gU K c.Cutting "many" "Cutting.many" (jJ (fX 40) 3)) (M3:gU K c.Cutting "__init__" "Cutting.__init__" (jJ (fX 40) 0)) :
  ∃fd:FuncData,(∀(s:Shared) (v:Value),BindsTo s fd ⟨[v],[]⟩ [("_law_script",v)])/\∀base:Heap,K.In base->base.Ns mainGlobals mg->jB l.prog w K mg base oU 8 fa fd ["_law_script"] (xi K):=by
 have e:=hfa.symm.trans (W.mg_of X G a);cases e;refine⟨W.fnOf "law" "law" (fY (fX 49)) (eQ (fX 49)) (dR (fX 49)) .none kV doc pm an cdv ct,?bnd,λbase _ _=>?main⟩
 case main=>have Z:Zx l.prog w K mg base:=⟨trivial⟩;have O0:=o0 Z B ER D0;have O1:=o1 Z B ER D1;have O2:=o2 Z B ER D2;have O3:=o3 Z B ER D3;have O4:=o4 Z B ER D4;have O5:=o5 Z B ER D5;have O6:=o6 Z B ER M0;have O7:=o7 Z B ER M1;have O8:=o8 Z B ER M2;have O9:=o9 Z B ER D6;have O10:=IR Z B ER D7;have O11:=IC Z B ER D8;have O12:=IK Z B ER D9;have O13:=Jh Z B ER D10 O0;have O14:=Jb Z B ER D11 O2;have O15:=IV Z B ER D12 O2;have O16:=Iy Z B ER D13 O0;have O17:=IJ Z B ER D14 O0;have O18:=IZ Z B ER D15 O5;have O19:=IP Z B ER D16 O10;have O20:=IY Z B ER D17 O14 O1;have O21:=Jc Z B ER D18 O15;have O22:=Je Z B ER D19 O15;have O23:=IU Z B ER D20 O15;have O24:=ID Z B ER D21 O14 O2;have O25:=IX Z B ER D22 O13 O8;have O26:=IT Z B ER D23 O17 O18;have O27:=I0 Z B ER D24 O19 O9 O11;have O28:=IM Z B ER D25 O20;have O29:=IS Z B ER D26 O20;have O30:=IB Z B ER D27 O21 O22;have O31:=IH Z B ER D28 O24 O15;have O32:=II Z B ER D29 O16 O26;have O33:=IL Z B ER D30 O28 O29;have O34:=IW Z B ER D31 O23 O30;have O35:=IF Z B ER D32 O31 O4;have O36:=IE Z B ER M3 O32;have O37:=Ji Z B ER D33 O6 O7 O33 O25 O3 O34 O35;have O38:=Jd Z B ER D34 O37;exact (oL Z B ER (vU (st:=fX 49) lk cc kk) O27 O36 O12 O10 O38 O9).imp (zJ λns _ _=>LF ns)
 case bnd=>exact λs v=>.of_eq rfl
end K08
namespace PySem.Challenge.cw_cutlands_k08_whole_meeting_and_moving_holds
theorem tw13436829300032454865:0=0:=rfl
theorem tw16229960905865577259:0=0:=rfl
theorem tw433305961305257795:0=0:=rfl
theorem tw12818300942867542303:0=0:=rfl
theorem tw6804477894219957235:0=0:=rfl
theorem tw10148810281609401292:0=0:=rfl
theorem tw11708450671225423339:0=0:=rfl
theorem tw12202493126547590075:0=0:=rfl
theorem tw12274316887237250529:0=0:=rfl
theorem tw15822047887022160911:0=0:=rfl
theorem tw15967010135307735960:0=0:=rfl
theorem tw4509738781845850002:0=0:=rfl
theorem tw1374704307357439061:0=0:=rfl
theorem tw15171169247088874024:0=0:=rfl
theorem tw2368914948243504785:0=0:=rfl
theorem tw5496480143457269981:0=0:=rfl
theorem tw3123718910525707341:0=0:=rfl
theorem tw7503396588826084744:0=0:=rfl
theorem tw13819995353952801738:0=0:=rfl
theorem tw1653066272577244200:0=0:=rfl
theorem tw14429439262155653931:0=0:=rfl
theorem tw11409168186245304514:0=0:=rfl
theorem tw11229045941465810663:0=0:=rfl
theorem tw13361205919880296224:0=0:=rfl
theorem tw4799472846532353839:0=0:=rfl
theorem tw6559789052910157454:0=0:=rfl
theorem tw15161705974377337899:0=0:=rfl
theorem tw13375639667361175590:0=0:=rfl
theorem tw13988517194187918942:0=0:=rfl
theorem tw3823174547422082512:0=0:=rfl
theorem tw9729245639288909665:0=0:=rfl
theorem tw16623718535318947941:0=0:=rfl
theorem tw2613440617737979092:0=0:=rfl
theorem tw757416192448275795:0=0:=rfl
theorem tw16610108856307135705:0=0:=rfl
theorem tw18219998145933737497:0=0:=rfl
theorem tw2484070965602594160:0=0:=rfl
theorem tw10658730482655432320:0=0:=rfl
theorem tw17288398564461711306:0=0:=rfl
theorem tw1425079642277300809:0=0:=rfl
theorem tw4729125324307165241:0=0:=rfl
theorem tw4580426586852390008:0=0:=rfl
theorem tw2189471166522012604:0=0:=rfl
theorem tw15682437675038535291:0=0:=rfl
theorem tw686499246385109010:0=0:=rfl
theorem tw512806250622797193:0=0:=rfl
theorem tw13588181566572650196:0=0:=rfl
theorem tw9510572053275117238:0=0:=rfl
theorem tw4756613289304966929:0=0:=rfl
theorem tw11652663902353005626:0=0:=rfl
theorem tw8896874068586033580:0=0:=rfl
theorem tw17972322135593959489:0=0:=rfl
theorem tw4242125408442976180:0=0:=rfl
theorem tw8065484214915425172:0=0:=rfl
theorem tw11479712899043009811:0=0:=rfl
theorem tw11970713189962768813:0=0:=rfl
theorem tw14536092673280009821:0=0:=rfl
theorem tw10958244338641156243:0=0:=rfl
theorem tw9966597882829152210:0=0:=rfl
theorem tw15009854629436663482:0=0:=rfl
theorem tw11730416886789506549:0=0:=rfl
theorem tw7262366517320138444:0=0:=rfl
theorem tw10728905626099304423:0=0:=rfl
theorem tw5711646948710395340:0=0:=rfl
theorem tw8353607136230911229:0=0:=rfl
theorem tw5705061745238356964:0=0:=rfl
theorem tw84660809170642630:0=0:=rfl
theorem tw12452181860470800623:0=0:=rfl
theorem tw11060141053361411564:0=0:=rfl
theorem tw1239231094677689162:0=0:=rfl
theorem tw4298982996153143731:0=0:=rfl
theorem tw12176556858837825798:0=0:=rfl
theorem tw16229709077678127519:0=0:=rfl
theorem tw11766169452448718059:0=0:=rfl
theorem tw17551675850846624262:0=0:=rfl
theorem tw7091901418404487722:0=0:=rfl
theorem tw14505377708255751859:0=0:=rfl
theorem tw16114301167234657436:0=0:=rfl
theorem tw3585381028642554956:0=0:=rfl
theorem tw16141217742913494162:0=0:=rfl
theorem tw13499800179624579472:0=0:=rfl
theorem tw9558210465644314264:0=0:=rfl
theorem tw12348424146682924599:0=0:=rfl
theorem tw1903968165360899288:0=0:=rfl
theorem tw6685033256498640588:0=0:=rfl
theorem tw13274380143650068854:0=0:=rfl
theorem tw11559169050241330623:0=0:=rfl
theorem tw16908494900800223978:0=0:=rfl
theorem tw13003037603671669243:0=0:=rfl
theorem tw3207630835982175507:0=0:=rfl
theorem tw10293582057311574199:0=0:=rfl
theorem tw530004141535596100:0=0:=rfl
theorem tw7735062613277977606:0=0:=rfl
theorem tw6092651881471700950:0=0:=rfl
theorem tw13839944442500083879:0=0:=rfl
theorem tw12719245344493152335:0=0:=rfl
theorem tw12618225556072597181:0=0:=rfl
theorem tw333590734453635241:0=0:=rfl
theorem tw4916699104393195282:0=0:=rfl
theorem tw1553338751890948440:0=0:=rfl
theorem tw11476584188913627270:0=0:=rfl
theorem tw8263282708353215358:0=0:=rfl
theorem tw15023227141719365289:0=0:=rfl
theorem tw8782009482025900329:0=0:=rfl
theorem tw12782756893264098424:0=0:=rfl
theorem tw2265811743114503134:0=0:=rfl
theorem tw14859547776664720572:0=0:=rfl
end PySem.Challenge.cw_cutlands_k08_whole_meeting_and_moving_holds
open PySem PySem.W PyProof.Rows
set_option Elab.async true
theorem PySem.Challenge.cw_cutlands_k08_whole_meeting_and_moving_holds : PySem.Challenge.rw_cutlands_k08_whole_meeting_and_moving.Holds := by
 w_on;o_law;k_head;(case hw=>w_witness2);k_fill;refine L3.Hc (l:=PySem.Challenge.rw_cutlands_k08_whole_meeting_and_moving) (k:=8) (x:= "_law_script") rfl ⟨rfl,by decide,by decide⟩ rfl (λw h Y=>PySem.W.kIn_of Y) ?F
 case F=>intro w mg fa h KX G hmg;refine' K08.E9 KX G hmg ?a ?l ?c ?k ?B ?E (λns=>CL.yS ns) ?_ ?_ ?_ ?_ ?_ ?_ ?_ ?_ ?_ ?_ ?_ ?_ ?_ ?_ ?_ ?_ ?_ ?_ ?_ ?_ ?_ ?_ ?_ ?_ ?_ ?_ ?_ ?_ ?_ ?_ ?_ ?_ ?_ ?_ ?_ ?_ ?_ ?_ ?_;(case a=>k_is);(case l=>k_is);(case c=>k_is);(case k=>k_is);(case B=>constructor<;>(apply mg_none_of KX G;k_is));(case E=>apply K08.GH KX G<;>first | k_is | k_exc | decide);all_goals first | (apply L2.FD KX G<;>k_is) | (apply K08.Gd<;>first | k_is | k_exc | decide)
