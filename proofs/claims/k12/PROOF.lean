import PyProof.Rows.All
import Wide.All
import OpenK.AllK
import Wide.FinOn
import Lean
import PyProof.EqAt
import PyProof.EqKinds
import PyProof.TupleCall
import PyProof.P3Eq
import PyProof.NeData
import PyProof.ConsumeWalk
import PyProof.Rows.SumAny
import PyProof.ZipIter
import PyProof.Rows.ZipGen
import PyProof.Rows.SeqMore
import PyProof.FactsAll.tuple
import PyProof.WalksMore
import PyProof.EnumMake
import PyProof.EnumFor
import PyProof.Rows.MinMaxN
import KE.KDictList
import KE.KRevIter
import KE.KItemsList
import PySem.Challenge.RW_cutlands_k12_papers_looked_at
set_option maxRecDepth 100000
set_option maxHeartbeats 0
set_option linter.all false
noncomputable section
section
open PySem
def aa:=@List.getElem?_eq_some_iff
def ae:=@Heap.get?_push_of_some
def af:=@List.getD_eq_getElem?_getD
def ag:=@List.getElem?_eq_getElem
def ai:=@List.mem_append
def aj:=@List.mem_singleton
def ak:=@wpAny_pure
def ao:=@wpAny_bind
def aq:=@List.getElem?_set_ne
def ar:=@Heap.get?_push_size
def au:=@List.mem_of_getElem?
def av:=@List.getElem?_map
def aw:=@List.length_map
def ax:=@List.mem_append_left
def ay:=@List.length_cons
def az:=@Int.le_of_lt
def aA:=@decide_eq_false
def aB:=@decide_eq_true
def aC:=@List.mem_map
def aD:=@Nat.lt_of_lt_of_le
def aE:=@List.mem_cons
def aF:=@Nat.zero_add
def aG:=@Bool.false_ne_true
def aH:=@List.map_map
def aI:=@Int.mul_le_mul_of_nonneg_right
def aJ:=@Nat.le_refl
def aK:=@Heap.lt_size
def aL:=@Nat.ne_of_lt
def aM:=@Nat.le_trans
def aN:=@Classical.byContradiction
def aO:=@Int.mul_nonneg
def aP:=@if_pos
def aQ:=@if_neg
def aR:=@List.mem_range
def aS:=@List.length_append
def aT:=@List.mem_filter
def aU:=@List.getElem_mem
def aV:=@List.of_mem_zip
def aW:=@Int.mul_pos
def aX:=@Int.natAbs_mul
def aY:=@List.map_append
def aZ:=@Nat.lt_irrefl
def a9:=@List.eq_of_mem_replicate
def bc:=@List.filterMap_cons
def bf:=@List.mem_cons_self
def bg:=@List.mem_cons_of_mem
def bh:=@Array.length_toList
def bj:=@Nat.ne_of_gt
def bq:=@List.mem_append_right
def bu:=@List.size_toArray
def bx:=@List.map_cons
def bz:=@Nat.lt_succ_self
def bA:=@Nat.zero_le
def bB:=@List.append_nil
def bC:=@Nat.le_succ
def bD:=@List.nodup_cons
def bE:=@Option.isSome_iff_exists
def bF:=@List.length_take
def bG:=@List.length_replicate
def bH:=@Int.toNat_natCast
def bI:=@List.length_drop
def bJ:=@Bool.and_eq_true
def bK:=@List.length_set
def bL:=@List.all_cons
def bM:=@List.any_cons
def bN:=@List.replicate_succ
def bO:=@List.flatten_cons
def bP:=@List.length_singleton
def bQ:=@Nat.succ_mul
def bR:=@List.nil_append
def bS:=@List.map_nil
def bT:=@Nat.lt_of_le_of_lt
def bU:=@Bool.false_eq_true
def bV:=@List.lookup_cons
def bW:=@Nat.le_of_succ_le
def bX:=@Nat.lt_succ_of_lt
def bY:=@Nat.le_add_right
def bZ:=@List.all_map
def b4:=@List.any_map
def b5:=@List.take_of_length_le
def b6:=@List.all_eq_true
def b7:=@List.length_nil
def b8:=@List.pairwise_iff_getElem
def b9:=@Int.gcd_dvd_left
def cf:=@Int.gcd_dvd_right
def cg:=@Int.fmod_nonneg_of_pos
def cj:=@Int.fmod_lt_of_pos
def ck:=@Int.gcd_pos_of_ne_zero_right
def cm:=@Int.mul_assoc
def cq:=@Int.mul_comm
def cu:=@Int.mul_fdiv_cancel_left
def cv:=@List.lookup_cons_self
def cw:=@List.drop_eq_getElem_cons
def cx:=@List.mem_nil_iff
def cy:=@List.map_take
def cA:=@Nat.not_lt_zero
def cB:=@Nat.pow_le_pow_right
def cC:=@Nat.pow_succ
def cD:=@Int.natAbs_neg
def cE:=@List.drop_zero
def cF:=@List.mem_iff_getElem?
def cG:=@List.eq_replicate_iff
def cH:=@List.any_eq_true
def cI:=@Nat.two_pow_pos
def cJ:=@Int.one_mul
def cK:=@List.take_length
def cL:=@Int.mul_zero
def cN:=@Int.mul_eq_zero
def cO:=@Int.zero_mul
def cP:=@Int.mul_add
def cQ:=@List.length_erase_of_mem
def cR:=@List.map_set
def cS:=@Int.le_refl
def cT:=@Nat.lt_or_ge
def cU:=@List.mem_of_mem_erase
def cV:=@List.countP_eq_length_filter
def cW:=@List.nodup_range
def cX:=@Int.mul_neg_of_pos_of_neg
def cY:=@Int.lt_trichotomy
def cZ:=@Rat.intCast_mul
def c6:=@Int.mul_ne_zero
def c7:=@Rat.mul_pos
def c8:=@Rat.mul_lt_mul_of_pos_right
def c9:=@Rat.lt_of_mul_lt_mul_right
def dc:=@Rat.le_of_lt
def de:=@Int.fdiv_nonneg
def df:=@Int.mul_le_mul_of_nonneg_left
def dg:=@Int.not_lt
def dh:=@Int.lt_of_mul_lt_mul_right
def dk:=@Int.pow_pos
def dm:=@Int.mul_le_mul
def du:=@Nat.mul_le_mul_left
def dw:=@List.mem_or_eq_of_mem_set
def dy:=@List.pairwise_map
def dz:=@List.pairwise_append
def dA:=@List.pairwise_singleton
def dB:=@Nat.mul_le_mul
def dC:=@List.length_filter_le
def dD:=@List.mem_flatMap
def dE:=@Rat.lt_of_mul_lt_mul_left
def dF:=@Int.lt_of_mul_lt_mul_left
def dG:=@List.filter_sublist
def dH:=@List.length_range
def dI:=@List.length_zip
def dJ:=@List.mem_of_mem_drop
def dM:=@List.mem_of_mem_take
end
set_option Elab.async false
namespace L2
open PySem PySem.Spec PyProof.Rows
noncomputable abbrev kr:=Sum Int Str
noncomputable def xW:kr→Value→Bool
 | .inl k,v=>Value.isInt k v
 | .inr x,v=>Value.isStrOf x v
noncomputable def Qf(w:World):kr→Int
 | .inl k=>hashInt k
 | .inr x=>hashStr w x
theorem ik:∀{k:kr} {v:Value},xW k v=true→(∃i t,k=Sum.inl i∧v=Value.int i t)∨(∃x t,k=Sum.inr x∧v=Value.str x t)
 | .inl i,v,h=>by obtain⟨t,e⟩:=Value.isInt_shape (k:=i) (v:=v) h;exact .inl ⟨i,t,rfl,e⟩
 | .inr x,v,h=>by obtain⟨t,e⟩:=Value.isStrOf_shape (x:=x) (v:=v) h;exact .inr ⟨x,t,rfl,e⟩
theorem Fh(i:Int)(t:Tok):xW (.inl i) (.int i t)=true:=by simp[xW,Value.isInt]
theorem DX(x:Str)(t:Tok):xW (.inr x) (.str x t)=true:=by simp[xW,Value.isStrOf]
theorem Mf(a b:Int):decide ((Sum.inl a:kr)=Sum.inl b)=(a == b):=by
 by_cases e:a=b
 ·subst e;simp
 ·have h:¬(Sum.inl a:kr)=Sum.inl b:=fun q=>e (Sum.inl.inj q);rw[aA h];exact (beq_eq_false_iff_ne.mpr e).symm
theorem Me(a b:Str):decide ((Sum.inr a:kr)=Sum.inr b)=decide (a=b):=by
 by_cases e:a=b
 ·subst e;simp
 ·have h:¬(Sum.inr a:kr)=Sum.inr b:=fun q=>e (Sum.inr.inj q);rw[aA h,aA e]
theorem Md(a:Int)(b:Str):decide ((Sum.inl a:kr)=Sum.inr b)=false:=aA (fun q=>nomatch q)
theorem LB(a:Str)(b:Int):decide ((Sum.inr a:kr)=Sum.inl b)=false:=aA (fun q=>nomatch q)
noncomputable def jj(prog:Program)(w:World):PySem.KeyKind prog w kr where
 is:=xW
 hash:=Qf w
 inj:=fun v a b ha hb=>by
  rcases ik ha with⟨i,t,rfl,rfl⟩ | ⟨x,t,rfl,rfl⟩
  ·rcases ik hb with⟨j,u,rfl,e⟩ | ⟨y,u,rfl,e⟩
   ·injection e with e1 _;rw[e1]
   ·exact nomatch e
  ·rcases ik hb with⟨j,u,rfl,e⟩ | ⟨y,u,rfl,e⟩
   ·exact nomatch e
   ·injection e with e1 _;rw[e1]
 byValue:=fun k v h=>by rcases ik h with⟨i,t,rfl,rfl⟩ | ⟨x,t,rfl,rfl⟩<;>rfl
 pyHash:=fun hv h=>by
  rcases ik hv with⟨i,t,rfl,rfl⟩ | ⟨x,t,rfl,rfl⟩
  ·exact wpAny_pyHash_int h
  ·exact wpAny_pyHash_str h
 eqBool:=fun hu hv h=>by
  rcases ik hu with⟨i,t,rfl,rfl⟩ | ⟨x,t,rfl,rfl⟩
  ·rcases ik hv with⟨j,u,rfl,rfl⟩ | ⟨y,u,rfl,rfl⟩
   ·rw[Mf] at h;exact wpAny_eqBool_int h
   ·rw[Md] at h;exact SeqAt.EqAt.int_str i t y u _ _ _ _ h
  ·rcases ik hv with⟨j,u,rfl,rfl⟩ | ⟨y,u,rfl,rfl⟩
   ·rw[LB] at h;exact SeqAt.EqAt.str_int x t j u _ _ _ _ h
   ·rw[Me] at h;exact wpAny_eqBool_str h
 «strs»:=fun k x t v h=>by
  rcases ik h with⟨i,u,rfl,e⟩ | ⟨y,u,rfl,e⟩
  ·exact nomatch e
  ·injection e with e1 _;subst e1;cases v<;>rfl
theorem A3(prog:Program)(w:World)(i:Int)(t:Tok):(jj prog w).is (.inl i) (.int i t)=true:=Fh i t
theorem AN(prog:Program)(w:World)(x:Str)(t:Tok):(jj prog w).is (.inr x) (.str x t)=true:=DX x t
end L2
namespace L2
open PySem PySem.Spec PyProof.Rows
inductive V where
 | non | bl (b:Bool) | int (i:Int) | str (x:Str) | byt (b:Array UInt8) | flt (b:UInt64) | ref (a:Addr) | ty (n:String)
 deriving DecidableEq
noncomputable def gD:V→Value→Prop
 | .non,u=>u=Value.none
 | .bl b,u=>u=Value.bool b
 | .int i,u=>∃t,u=Value.int i t
 | .str x,u=>∃t,u=Value.str x t
 | .byt b,u=>∃t,u=Value.bytes b t
 | .flt b,u=>∃t,u=Value.float b t
 | .ref a,u=>u=Value.ref a
 | .ty n,u=>u=Value.type n
noncomputable abbrev fP:List V→List Value→Prop:=Paired gD
theorem fP.length{xs:List V}{us:List Value}(r:fP xs us):xs.length=us.length:=Paired.length r
theorem fP.get:∀{xs:List V} {us:List Value} {i:Nat} {x:V},fP xs us→xs[i]? = some x→∃u,us[i]? = some u∧gD x u
 | _,_,_,_,.nil,e=>by simp at e
 | _,_,0,_,.cons r _,e=>by simp at e;subst e;exact⟨_,rfl,r⟩
 | _,_,i+1,x,.cons _ t,e=>by obtain⟨u,h1,h2⟩:=fP.get (i:=i) (x:=x) t (by simpa using e);exact⟨u,by simpa using h1,h2⟩
theorem fP.set{x:V}{u:Value}(r:gD x u):∀{xs:List V} {us:List Value} (i:Nat),fP xs us→fP (xs.set i x) (us.set i u)
 | _,_,_,.nil=>.nil
 | _,_,0,.cons _ t=>.cons r t
 | _,_,i+1,.cons q t=>.cons q (fP.set r i t)
theorem fP.append:∀{xs ys:List V} {us ws:List Value},fP xs us→fP ys ws→fP (xs++ys) (us++ws)
 | _,_,_,_,.nil,s=>s
 | _,_,_,_,.cons r t,s=>.cons r (fP.append t s)
theorem fP.take:∀{xs:List V} {us:List Value} (n:Nat),fP xs us→fP (xs.take n) (us.take n)
 | _,_,0,_=>.nil
 | _,_,_+1,.nil=>.nil
 | _,_,n+1,.cons r t=>.cons r (fP.take n t)
theorem fP.drop:∀{xs:List V} {us:List Value} (n:Nat),fP xs us→fP (xs.drop n) (us.drop n)
 | _,_,0,r=>r
 | _,_,_+1,.nil=>.nil
 | _,_,n+1,.cons _ t=>fP.drop n t
noncomputable def rX:Option V→Option Value→Prop
 | some v,some u=>gD v u
 | none,none=>True
 | _,_=>False
noncomputable def KV{κ:Type}:List (κ×V)→List (κ×Value)→Prop:=Paired fun (p:κ×V) (q:κ×Value)=>p.1=q.1∧gD p.2 q.2
noncomputable def kV:kr→V
 | .inl i=>.int i
 | .inr x=>.str x
inductive HO where
 | lst (xs:List V)
 | tup (xs:List V)
 | dK (kvs:List (kr×V)) | dT (kvs:List (List kr×V))
 | set (S:Int→Bool) (n:Nat)
 | ins (C dx:Addr) (fs:List (Str×V))
 | own (x:Addr)
 | xd (fs:List (Str×V))
 | met (f x:Addr)
 | rng (lo hi:Int)
 | frz (o:Obj) (u:HO)
 | tbl (ps:Array Value)
 | ext (φ:Heap→Prop)
noncomputable abbrev Hp:=Addr→Option HO
noncomputable def ij(H:Hp)(a:Addr)(o:HO):Hp:=fun b=>if b=a then some o else H b
theorem eP{H:Hp}{a:Addr}{o:HO}:ij H a o a=some o:=by unfold ij;rw[aP rfl]
theorem eO{H:Hp}{a b:Addr}{o:HO}(h:b≠a):ij H a o b=H b:=by unfold ij;rw[aQ h]
theorem Oz{H:Hp}{a b:Addr}{o u:HO}(h:H a=some o)(h':H b=some u)(d:o≠u):a≠b:=by intro e;subst e;rw[h] at h';exact d (Option.some.inj h')
theorem fH{H:Hp}{a b:Addr}{o:HO}(h:H a=some o)(h':H b=none):a≠b:=by intro e;subst e;rw[h] at h';cases h'
section
variable (P:Program)(w:World)
noncomputable def gS(H:Hp)(h:Heap)(a:Addr):HO→Prop
 | .lst xs=>xs.length≤sizeLine∧∃(its:List Value) (n:Nat),fP xs its∧h.get? a=some {cls:=.type "list",data:=.seq its.toArray n}
 | .tup xs=>xs.length≤sizeLine∧∃its:List Value,fP xs its∧IsTup h a its.toArray
 | .dK kvs=>kvs.length≤sizeLine∧(a == sysModules)=false∧∃vs,KV kvs vs∧h.DictOf (jj P w) a vs
 | .dT kvs=>kvs.length≤sizeLine∧(a == sysModules)=false∧∃xs:List (List kr×Addr×Value),
   Paired (fun (p:List kr×V) (q:List kr×Addr×Value)=>p.1=q.1∧H q.2.1=some (.tup (p.1.map kV))∧gD p.2 q.2.2) kvs xs∧
   ∃o es ep,h.get? a=some o∧o.ExactDict∧o.data=.dict es ep∧es.toList=xs.map (entryOfKey (tupleKind (jj P w)))∧(xs.map (·.1)).Nodup
 | .set S n=>h.SetOf (intKind P w) a S n
 | .ins C dx fs=>H dx=some (.own a)∧fs.length≤1000∧dx≠a∧h.get? a=some (W.instObj C dx)∧
   ∃mA,h.Ns1 dx mA∧(∀f,rX (fs.lookup f) (mA f))∧PySem.Within mA (fs.map (·.1))
 | .own _=>∃o,h.get? a=some o
 | .xd fs=>∃mA,h.Ns1 a mA∧∀f,rX (fs.lookup f) (mA f)
 | .rng lo hi=>∃t u v,h.get? a=some {cls:=.type "range",data:=.fields #[.int lo t,.int hi u,.int 1 v]}
 | .frz o u=>h.get? a=some o∧gS H h a u
 | .tbl ps=>h.get? a=some {cls:=.none,data:=.fields ps}
 | .met f x=>h.get? a=some (W.methodObj (.ref f) (.ref x))
 | .ext φ=>φ h∧(∃o,h.get? a=some o)∧∀h1 h2:Heap,φ h1→(∀o,h1.get? a=some o→h2.get? a=some o)→φ h2
def pG(H:Hp)(h:Heap):Prop:=∀a o,H a=some o→gS P w H h a o
end
section
variable {P:Program}{w:World}{H H':Hp}{h h':Heap}{a:Addr}{o:HO}
theorem gS.lt(x:gS P w H h a o):a<h.objs.size:=by
 cases o with
 | lst xs=>obtain⟨_,_,_,_,e⟩:=x;exact aK e
 | tup xs=>obtain⟨_,_,_,p⟩:=x;exact p.lt
 | dK kvs=>obtain⟨_,_,_,_,o,_,_,e,_⟩:=x;exact aK e
 | dT kvs=>obtain⟨_,_,_,_,o,_,_,e,_⟩:=x;exact aK e
 | set S n=>obtain⟨o,_,_,_,e,_⟩:=x;exact aK e
 | ins C dx fs=>obtain⟨_,_,_,e,_⟩:=x;exact aK e
 | own y=>obtain⟨_,e⟩:=x;exact aK e
 | xd fs=>obtain⟨_,⟨_,_,_,e,_⟩,_⟩:=x;exact aK e
 | rng lo hi=>obtain⟨_,_,_,e⟩:=x;exact aK e
 | frz ob u=>obtain⟨e,_⟩:=x;exact aK e
 | tbl ps=>exact aK (show h.get? a=some _ from x)
 | met f y=>exact aK (show h.get? a=some _ from x)
 | ext φ=>obtain⟨_,⟨_,e⟩,_⟩:=x;exact aK e
theorem Paired.mapP{α β:Type}{F G:α→β→Prop}:∀{l₁:List α} {l₂:List β},Paired F l₁ l₂→(∀a b,F a b→G a b)→Paired G l₁ l₂
 | _,_,.nil,_=>.nil
 | _,_,.cons r t,f=>.cons (f _ _ r) (Paired.mapP t f)
theorem Paired.imp'{α β:Type}{F G:α→β→Prop}(f:∀a b,F a b→G a b){l₁:List α}{l₂:List β}(r:Paired F l₁ l₂):Paired G l₁ l₂:=Paired.mapP r f
theorem gS.stay(x:gS P w H h a o)(k:∀b u,(b=a∨H b=some (.own a))→h.get? b=some u→h'.get? b=some u)
  (ho:∀b,H b=some (.own a)→H' b=some (.own a)) (ht:∀b xs,H b=some (.tup xs)→H' b=some (.tup xs)):gS P w H' h' a o:=by
 induction o with
 | lst xs=>obtain⟨z,its,n,r,e⟩:=x;exact⟨z,its,n,r,k _ _ (.inl rfl) e⟩
 | tup xs=>obtain⟨z,its,r,ob,e,c⟩:=x;exact⟨z,its,r,ob,k _ _ (.inl rfl) e,c⟩
 | dK kvs=>obtain⟨z,y,vs,r,ob,es,ep,e,c⟩:=x;exact⟨z,y,vs,r,ob,es,ep,k _ _ (.inl rfl) e,c⟩
 | dT kvs=>obtain⟨z,y,xs,r,ob,es,ep,e,c⟩:=x;exact⟨z,y,xs,Paired.mapP r fun p q z=>⟨z.1,ht _ _ z.2.1,z.2.2⟩,ob,es,ep,k _ _ (.inl rfl) e,c⟩
 | set S n=>obtain⟨ob,es,ep,t,e,c⟩:=x;exact⟨ob,es,ep,t,k _ _ (.inl rfl) e,c⟩
 | ins C dx fs=>obtain⟨d,z,ne,e,mA,⟨od,es,ep,e2,c⟩,r⟩:=x;exact⟨ho _ d,z,ne,k _ _ (.inl rfl) e,mA,⟨od,es,ep,k _ _ (.inr d) e2,c⟩,r⟩
 | own y=>obtain⟨ob,e⟩:=x;exact⟨ob,k _ _ (.inl rfl) e⟩
 | xd fs=>obtain⟨mA,⟨od,es,ep,e,c⟩,r⟩:=x;exact⟨mA,⟨od,es,ep,k _ _ (.inl rfl) e,c⟩,r⟩
 | rng lo hi=>obtain⟨t,u,v,e⟩:=x;exact⟨t,u,v,k _ _ (.inl rfl) e⟩
 | frz ob u ih=>obtain⟨e,q⟩:=x;exact⟨k _ _ (.inl rfl) e,ih q⟩
 | tbl ps=>have e:h.get? a=some {cls:=.none,data:=.fields ps}:=x;show h'.get? a=some {cls:=.none,data:=.fields ps};exact k a _ (.inl rfl) e
 | met f y=>have e:h.get? a=some (W.methodObj (.ref f) (.ref y)):=x;show h'.get? a=some (W.methodObj (.ref f) (.ref y));exact k a _ (.inl rfl) e
 | ext φ=>obtain⟨p,⟨o,e⟩,st⟩:=x;exact⟨st _ _ p fun o q=>k _ _ (.inl rfl) q,⟨o,k _ _ (.inl rfl) e⟩,st⟩
theorem pG.lt(x:pG P w H h)(e:H a=some o):a<h.objs.size:=(x a o e).lt
theorem pG.fresh(x:pG P w H h)(e:h.objs.size≤a):H a=none:=by
 cases q:H a with
 | none=>rfl
 | some u=>exact absurd (aD (x.lt q) e) (aZ _)
theorem pG.kept(x:pG P w H h)(k:∀b u,h.get? b=some u→h'.get? b=some u):pG P w H h':=fun a o e=>(x a o e).stay (fun b u _ q=>k b u q) (fun _ q=>q) fun _ _ q=>q
theorem pG.laid(x:pG P w H h)(k:∀b u,h.get? b=some u→h'.get? b=some u)(hp:h.objs.size≤a)(new:gS P w (ij H a o) h' a o):pG P w (ij H a o) h':=fun b u e=>by
 have hn:=x.fresh hp;by_cases hb:b=a
 ·subst hb;rw[eP] at e;cases e;exact new
 ·rw[eO hb] at e;exact (x b u e).stay (fun c v _ q=>k c v q) (fun c q=>by rw[eO (fH q hn)];exact q) fun c xs q=>by rw[eO (fH q hn)];exact q
end
def Rd(H:Hp)(a:Addr)(u:HO):Prop:=H a=some u∨∃o,H a=some (.frz o u)
theorem Rd.ok{P:Program}{w:World}{H:Hp}{h:Heap}{a:Addr}{u:HO}(r:Rd H a u)(x:pG P w H h):gS P w H h a u:=by
 rcases r with r | ⟨o,r⟩
 ·exact x a u r
 ·obtain⟨_,q⟩:=x a _ r;exact q
noncomputable def N2:Option HO→Prop
 | some (.lst _)=>True
 | some (.dK _)=>True
 | some (.dT _)=>True
 | some (.set _ _)=>True
 | some (.ins _ _ _)=>True
 | some (.ext _)=>True
 | _=>False
section
variable {P:Program}{w:World}{H:Hp}{h h':Heap}{x e:Addr}{o':HO}
theorem pG.write(ok:pG P w H h)(mu:N2 (H x))(he:e=x∨H e=some (.own x))(k:∀b u,b≠e→h.get? b=some u→h'.get? b=some u)(heo:∃u,h'.get? e=some u)
  (new:gS P w (ij H x o') h' x o'):pG P w (ij H x o') h':=fun b u q=>by
 have nown:∀c y,H c=some (.own y)→c≠x:=fun c y r z=>by subst z;rw[r] at mu;exact mu
 have ntup:∀c xs,H c=some (.tup xs)→c≠x:=fun c xs r z=>by subst z;rw[r] at mu;exact mu
 by_cases hb:b=x
 ·subst hb;rw[eP] at q;cases q;exact new
 ·rw[eO hb] at q;by_cases hbe:b=e
  ·have q':H b=some (.own x):=by
    rcases he with z | z
    ·exact absurd (hbe.trans z) hb
    ·rw[hbe];exact z
   rw[q] at q';cases q';obtain⟨v,hv⟩:=heo;exact⟨v,by rw[hbe];exact hv⟩
  ·refine (ok b u q).stay (fun c v hc r=>k c v ?_ r) (fun c r=>by rw[eO (nown c b r)];exact r) fun c xs r=>by rw[eO (ntup c xs r)];exact r
   rcases hc with rfl | hc
   ·exact hbe
   ·rintro rfl;rcases he with z | z
    ·exact nown c b hc z
    ·rw[hc] at z;cases z;exact hb rfl
end
structure Un(fs ex:List Addr)(H H':Hp)(h h':Heap):Prop where
 keep:∀b o,h.get? b=some o→H b=none→b∉fs→b∉ex→h'.get? b=some o
 slot:∀b o,h.get? b=some o→H b=none→b∈fs→b∉ex→∃sl,h'.get? b=some {o with slots:=sl}
 free:∀b o,h.get? b=some o→H b=none→b∉ex→H' b=none
 there:∀b o,h.get? b=some o→b∉ex→∃o',h'.get? b=some o'
 tups:∀b xs,H b=some (.tup xs)→H' b=some (.tup xs)
 frzs:∀b o u,H b=some (.frz o u)→H' b=some (.frz o u)
 tbls:∀b ps,H b=some (.tbl ps)→∃more,H' b=some (.tbl (ps++more))
section
variable {fs fs' ex ex':List Addr}{H H1 H2:Hp}{h h1 h2 h':Heap}{a x e:Addr}{o:HO}
theorem Un.any(u:Un fs ex H H1 h h1){b:Addr}{ob:Obj}(q:h.get? b=some ob)(n:H b=none)(hx:b∉ex):∃sl,h1.get? b=some {ob with slots:=sl}:=by
 by_cases hb:b∈fs
 ·exact u.slot b ob q n hb hx
 ·exact⟨ob.slots,u.keep b ob q n hb hx⟩
theorem Un.kept(k:∀b u,h.get? b=some u→h'.get? b=some u):Un fs ex H H h h':=⟨fun b ob q _ _ _=>k b ob q,fun b ob q _ _ _=>⟨ob.slots,k b ob q⟩,fun _ _ _ n _=>n,fun b ob q _=>⟨ob,k b ob q⟩,fun _ _ q=>q,fun _ _ _ q=>q,fun _ ps q=>⟨#[],by rw[q];simp⟩⟩
theorem Un.refl:Un fs ex H H h h:=Un.kept fun _ _ q=>q
theorem Un.laid(k:∀b u,h.get? b=some u→h'.get? b=some u)(hp:h.objs.size≤a)(hn:H a=none):Un fs ex H (ij H a o) h h' where
 keep:=fun b u q _ _ _=>k b u q
 slot:=fun b u q _ _ _=>⟨u.slots,k b u q⟩
 free:=fun b u q n _=>by rw[eO (aL (aD (aK q) hp))];exact n
 there:=fun b u q _=>⟨u,k b u q⟩
 tups:=fun b xs q=>by rw[eO (fH q hn)];exact q
 frzs:=fun b u xs q=>by rw[eO (fH q hn)];exact q
 tbls:=fun b ps q=>⟨#[],by rw[eO (fH q hn),q];simp⟩
theorem Un.write(mu:N2 (H x))(he:e=x∨H e=some (.own x))(k:∀b u,b≠e→h.get? b=some u→h'.get? b=some u)(heo:∃u,h'.get? e=some u):Un fs ex H (ij H x o) h h':=by
 have hx:∀b,H b=none→b≠x:=fun b n z=>by subst z;rw[n] at mu;exact mu
 have hb:∀b,H b=none→b≠e:=fun b n z=>by
  subst z;rcases he with r | r
  ·exact hx b n r
  ·rw[n] at r;cases r
 have hm:∀b u,H b=some u→¬N2 (some u)→b≠x:=fun b u q nm z=>by subst z;rw[q] at mu;exact nm mu
 refine⟨fun b u q n _ _=>k b u (hb b n) q,fun b u q n _ _=>⟨u.slots,k b u (hb b n) q⟩,fun b u q n _=>by rw[eO (hx b n)];exact n,fun b u q _=>?_,
  fun b xs q=>by rw[eO (hm b _ q fun z=>z)];exact q,fun b u xs q=>by rw[eO (hm b _ q fun z=>z)];exact q,fun b ps q=>⟨#[],by rw[eO (hm b _ q fun z=>z),q];simp⟩⟩
 by_cases hbe:b=e
 ·subst hbe;exact heo
 ·exact⟨u,k b u hbe q⟩
end
noncomputable def PN(h:Heap)(H:Hp):List Addr:=(List.range h.objs.size).filter fun a=>(H a).isSome
noncomputable def yE(h:Heap)(H:Hp):Heap:=W.hideAll h (PN h H)
theorem Ec(h:Heap)(H:Hp):(yE h H).objs.size=h.objs.size:=W.hideAll_size _ _
theorem FG{h:Heap}{H:Hp}{b:Addr}{o:Obj}(e:h.get? b=some o)(n:H b=none):(yE h H).get? b=some o:=W.hideAll_get _ e fun hm=>by have q:(H b).isSome=true:=(aT.mp hm).2;rw[n] at q;simp at q
theorem KL{h:Heap}{H:Hp}{b:Addr}{o:Obj}(e:(yE h H).get? b=some o):h.get? b=some o∧H b=none:=by
 have e':h.get? b=some o:=W.of_hideAll (PN h H) e;refine⟨e',?_⟩;cases q:H b with
 | none=>rfl
 | some x=>have hm:b∈PN h H:=aT.mpr ⟨aR.mpr (aK e'),by simp[q]⟩;have z:(yE h H).get? b=none:=W.hideAll_none (PN h H) hm;rw[z] at e;cases e
end L2
namespace L2
open PySem PySem.Spec PyProof.Rows
structure Mod(K:W.Frag)(mg:Str→Option Value)(base:Heap):Prop where
 kin:K.In base
 glob:base.Ns mainGlobals mg
 blt:∃mb,base.Ns builtinsNs mb∧∀x:Str,x≠ "__name__" →mb x=bootBuiltins x
 nolimit:base.NoLimit
structure Cx where
 prog:Program
 w:World
 K:W.Frag
 mg:Str→Option Value
 base:Heap
 A:Around
 N:List Str
 s₀:Shared
 H₀:Hp
 env:Env
 outer:List Env
 stack:List Env
 ex:List Addr
 fn:Str→Bool
 calm:Bool
 pn:List (Addr×Obj)
 xe:Value→Shared→Prop
noncomputable def Fw(l:List Env):List Addr:=l.filterMap (·.frame)
noncomputable abbrev Cx.fs(X:Cx):List Addr:=Fw X.outer
def OV(sc:Scope)(x:Str):Prop:=sc.names.lookup x=some .local∨sc.names.lookup x=some .cell∨sc.names.lookup x=some .free
def Fy(sc:Scope)(x:Str):Prop:=sc.names.lookup x=some .local∨sc.names.lookup x=some .cell
def Qm(env:Env)(h:Heap)(m:Str→Option Value)(x:Str)(u:Value):Prop:=(env.kindOf x=some .local∧m x=some u)∨((env.kindOf x=some .cell∨env.kindOf x=some .free)∧∃c,env.cells.lookup x=some c∧h.IsCell c (some u))
structure Cx.Ok(X:Cx):Prop where
 mod:Mod X.K X.mg X.base
 kind:X.env.scope.kind=.function
 glob:X.env.globals=mainGlobals
 blt:X.env.builtins=builtinsNs
 above:X.s₀.heap.objs.size≤X.env.locals
 inj:∀x y c,X.env.cells.lookup x=some c→X.env.cells.lookup y=some c→x=y
 has:∀x,(X.env.kindOf x=some .cell∨X.env.kindOf x=some .free)→∃c,X.env.cells.lookup x=some c
 cab:∀x c,X.fn x=true→X.env.cells.lookup x=some c→X.s₀.heap.objs.size≤c
 hd:X.calm=true→X.A.handled=none
 frames:X.A.frames=some X.stack
 stk:X.stack=X.outer∨(X.stack=X.env::X.outer∧X.env.frame=some X.env.locals)
 exf:∀b∈X.ex,b≠X.env.locals∧∀x c,X.env.cells.lookup x=some c→c≠b
 bs:∀b o,X.base.get? b=some o→X.s₀.heap.get? b=some o∧X.H₀ b=none
 bsz:X.base.objs.size≤X.s₀.heap.objs.size
 noex:∀b o,X.base.get? b=some o→b∉X.ex
 exfs:∀b∈X.ex,b∉X.fs
 funs:X.s₀.heap.FunFrames X.base X.outer
 frf:∀b∈X.fs,X.H₀ b=none
structure eW(X:Cx)(dU:List (Addr×Obj))(σ:List (Option V))(H:Hp)(s:Shared):Prop where
 ok:X.Ok
 os:s.os=X.s₀.os
 bare:AllBare s.gens
 base:Un X.fs X.ex X.H₀ H X.s₀.heap s.heap
 loc:∃m,s.heap.Ns X.env.locals m∧∀(i:Nat) (x:Str) (v:V),X.N[i]? = some x→σ[i]? = some (some v)→OV X.env.scope x→∃u,gD v u∧Qm X.env s.heap m x u
 cell:∀x c,X.env.cells.lookup x=some c→∃v,s.heap.IsCell c v
 free:H X.env.locals=none
 freeC:∀x c,X.env.cells.lookup x=some c→H c=none
 pin:∀p∈X.pn++dU,s.heap.get? p.1=some p.2∧H p.1=none∧p.1≠X.env.locals∧p.1∉X.fs∧∀v,p.2.data≠.cell v
 hok:pG X.prog X.w H s.heap
 len:σ.length=X.N.length
section
variable {X:Cx}{dU:List (Addr×Obj)}{σ:List (Option V)}{H H':Hp}{s:Shared}{h':Heap}
theorem Cx.Ok.nofr(ok:X.Ok){b:Addr}{o:Obj}(e:X.base.get? b=some o):b∉X.fs:=fun hb=>by have:=(ok.funs.mem hb).1;rw[e] at this;cases this
theorem eW.bs(I:eW X dU σ H s):∀b o,X.base.get? b=some o→s.heap.get? b=some o∧H b=none:=fun b o e=>⟨I.base.keep b o (I.ok.bs b o e).1 (I.ok.bs b o e).2 (I.ok.nofr e) (I.ok.noex b o e),I.base.free b o (I.ok.bs b o e).1 (I.ok.bs b o e).2 (I.ok.noex b o e)⟩
theorem eW.bk(I:eW X dU σ H s):∀b o,X.base.get? b=some o→s.heap.get? b=some o:=fun b o e=>(I.bs b o e).1
theorem eW.mod(I:eW X dU σ H s):Mod X.K X.mg X.base:=I.ok.mod
theorem eW.kIn(I:eW X dU σ H s):X.K.In s.heap:=I.ok.mod.kin.keeps I.bk
theorem eW.lt(I:eW X dU σ H s):X.env.locals<s.heap.objs.size:=let ⟨_,hn,_⟩:=I.loc;hn.lt
theorem eW.sz(I:eW X dU σ H s):X.s₀.heap.objs.size≤s.heap.objs.size:=aM I.ok.above (Nat.le_of_lt I.lt)
theorem eW.nofs(I:eW X dU σ H s){a:Addr}(h:s.heap.objs.size≤a):a∉X.fs:=fun hb=>by obtain⟨_,o,ho,_⟩:=I.ok.funs.mem hb;exact absurd (aD (aK ho) (aM I.sz h)) (aZ _)
theorem eW.cne(I:eW X dU σ H s):∀x c,X.env.cells.lookup x=some c→c≠X.env.locals:=fun x c e z=>by obtain⟨v,o,ho,hd⟩:=I.cell x c e;obtain⟨m,⟨o',es,ep,ho',hd',_⟩,_⟩:=I.loc;rw[z,ho'] at ho;cases ho;rw[hd'] at hd;cases hd
theorem eW.funs(I:eW X dU σ H s):s.heap.FunFrames X.base X.outer:=by
 have all:∀(l:List Env),(∀b∈Fw l,b∈X.fs)→X.s₀.heap.FunFrames X.base l→s.heap.FunFrames X.base l:=by
  intro l;induction l with
  | nil=>intro _ _;trivial
  | cons env r ih=>intro hs hl;obtain⟨hk,⟨L,o,hf,hn,ho,hd⟩,hr⟩:=hl;have hL:L∈X.fs:=hs L (by unfold Fw;rw[bc,hf];exact bf);obtain⟨sl,e⟩:=I.base.slot L o ho (I.ok.frf L hL) hL fun z=>I.ok.exfs L z hL;exact⟨hk,⟨L,_,hf,hn,e,hd⟩,ih (fun b hb=>hs b (by unfold Fw;rw[bc,hf];exact bg _ hb)) hr⟩
 exact all X.outer (fun _ hb=>hb) I.ok.funs
theorem eW.stack(I:eW X dU σ H s):s.heap.FunFrames X.base X.stack:=by
 rcases I.ok.stk with e | ⟨e,hf⟩
 ·rw[e];exact I.funs
 ·rw[e];obtain⟨m,hn,_⟩:=I.loc;refine .cons (by rw[I.ok.kind];decide) hf hn ?_ I.funs;exact Heap.get?_none_of_le (aM I.ok.bsz I.ok.above)
theorem eW.stkSub(I:eW X dU σ H s):∀b∈Fw X.stack,b∈X.env.locals::X.fs:=fun b hb=>by
 rcases I.ok.stk with e | ⟨e,hf⟩
 ·rw[e] at hb;exact bg _ hb
 ·rw[e] at hb;unfold Fw at hb;rw[bc,hf] at hb;exact hb
theorem eW.stkFree(I:eW X dU σ H s):∀b∈Fw X.stack,H b=none:=fun b hb=>by
 rcases aE.mp (I.stkSub b hb) with e | hb
 ·rw[e];exact I.free
 ·obtain⟨_,o,ho,_⟩:=I.ok.funs.mem hb;exact I.base.free b o ho (I.ok.frf b hb) fun z=>I.ok.exfs b z hb
theorem eW.step{g':Array GenState}{t':Nat}{d':Drawn}{ch:List Addr}(I:eW X dU σ H s)
  (hch:∀b∈ch,(b∈X.ex∨X.s₀.heap.objs.size≤b)∧b≠X.env.locals∧(∀x c,X.env.cells.lookup x=some c→c≠b)∧∀p∈X.pn++dU,p.1≠b)
  (keep:∀b o,b≠X.env.locals→b∉X.fs→b∉ch→s.heap.get? b=some o→H b=none→h'.get? b=some o)
  (slot:∀b o,b≠X.env.locals→b∈X.fs→b∉ch→s.heap.get? b=some o→H b=none→∃sl,h'.get? b=some {o with slots:=sl}) (free:∀b o,b∉ch→s.heap.get? b=some o→H b=none→H' b=none)
  (there:∀b o,b∉ch→s.heap.get? b=some o→∃o',h'.get? b=some o')
  (tups:∀b xs,H b=some (.tup xs)→H' b=some (.tup xs)) (frzs:∀b o u,H b=some (.frz o u)→H' b=some (.frz o u)) (tbls:∀b ps,H b=some (.tbl ps)→∃more,H' b=some (.tbl (ps++more)))
  (ns:∀m,s.heap.Ns X.env.locals m→h'.Ns X.env.locals m) (hok:pG X.prog X.w H' h') (hg:AllBare g') :
  eW X dU σ H' {s with heap:=h',gens:=g',drawn:=d',toks:=t'}:=by
 have neL:∀b o,X.s₀.heap.get? b=some o→b≠X.env.locals:=fun b o e=>aL (aD (aK e) I.ok.above);have neC:∀b o,X.s₀.heap.get? b=some o→b∉X.ex→b∉ch:=fun b o e hx hb=>by
  rcases (hch b hb).1 with z | z
  ·exact hx z
  ·exact absurd (aD (aK e) z) (aZ _)
 have cellK:∀x c,X.env.cells.lookup x=some c→∀v,s.heap.IsCell c v→h'.IsCell c v:=fun x c e v ⟨o,ho,hd⟩=>by
  have nch:c∉ch:=fun z=>(hch c z).2.2.1 x c e rfl;by_cases hc:c∈X.fs
  ·obtain⟨sl,q⟩:=slot c o (I.cne x c e) hc nch ho (I.freeC x c e);exact⟨_,q,hd⟩
  ·exact⟨o,keep c o (I.cne x c e) hc nch ho (I.freeC x c e),hd⟩
 refine⟨I.ok,I.os,hg,⟨fun b o e n hb hx=>?_,fun b o e n hb hx=>?_,fun b o e n hx=>?_,fun b o e hx=>?_,fun b xs e=>tups b xs (I.base.tups b xs e),fun b o xs e=>frzs b o xs (I.base.frzs b o xs e),fun b ps e=>?_⟩,?_,fun x c e=>?_,?_,fun x c e=>?_,fun p hp=>?_,hok,I.len⟩
 ·exact keep b o (neL b o e) hb (neC b o e hx) (I.base.keep b o e n hb hx) (I.base.free b o e n hx)
 ·obtain⟨sl,e1⟩:=I.base.slot b o e n hb hx;obtain⟨sl',e2⟩:=slot b _ (neL b o e) hb (neC b o e hx) e1 (I.base.free b o e n hx);exact⟨sl',e2⟩
 ·obtain⟨o',e1⟩:=I.base.there b o e hx;exact free b o' (neC b o e hx) e1 (I.base.free b o e n hx)
 ·obtain⟨o',e1⟩:=I.base.there b o e hx;exact there b o' (neC b o e hx) e1
 ·obtain⟨m1,e1⟩:=I.base.tbls b ps e;obtain⟨m2,e2⟩:=tbls b _ e1;exact⟨m1++m2,by rw[e2,Array.append_assoc]⟩
 ·obtain⟨m,hn,hl⟩:=I.loc;refine⟨m,ns m hn,fun i x v e1 e2 e3=>?_⟩;obtain⟨u,r,l⟩:=hl i x v e1 e2 e3;refine⟨u,r,?_⟩;rcases l with l | ⟨k,c,e,z⟩
  ·exact .inl l
  ·exact .inr ⟨k,c,e,cellK x c e _ z⟩
 ·obtain⟨v,z⟩:=I.cell x c e;exact⟨v,cellK x c e v z⟩
 ·obtain⟨m,⟨o,_,_,ho,_⟩,_⟩:=I.loc;exact free _ o (fun z=>(hch _ z).2.1 rfl) ho I.free
 ·obtain⟨v,o,ho,hd⟩:=I.cell x c e;exact free c o (fun z=>(hch c z).2.2.1 x c e rfl) ho (I.freeC x c e)
 ·obtain⟨e,n,ne,nf,d⟩:=I.pin p hp;have nch:p.1∉ch:=fun z=>(hch p.1 z).2.2.2 p hp rfl;exact⟨keep p.1 p.2 ne nf nch e n,free p.1 p.2 nch e n,ne,nf,d⟩
theorem eW.un{t':Nat}(I:eW X dU σ H s)(u:Un X.fs [] H H' s.heap h')(hok:pG X.prog X.w H' h'):eW X dU σ H' {s with heap:=h',toks:=t'}:=by obtain⟨m,⟨o,es,ep,ho,r⟩,_⟩:=id I.loc;obtain⟨sl,hL⟩:=u.any ho I.free (by simp);exact I.step (g':=s.gens) (d':=s.drawn) (ch:=[]) (fun _ z=>nomatch z) (fun b o _ hb _ e n=>u.keep b o e n hb (by simp)) (fun b o _ hb _ e n=>u.slot b o e n hb (by simp)) (fun b o _ e n=>u.free b o e n (by simp)) (fun b o _ e=>u.there b o e (by simp)) u.tups u.frzs u.tbls (fun m' hm=>by obtain⟨o',es',ep',ho',r'⟩:=hm;rw[ho] at ho';cases ho';exact⟨_,es',ep',hL,r'⟩) hok I.bare
theorem eW.call{g':Array GenState}{t':Nat}{d':Drawn}{ch:List Addr}(I:eW X dU σ H s)(u:Un (Fw X.stack) ch H H' s.heap h')(hok:pG X.prog X.w H' h')(hg:AllBare g')
  (hch:∀b∈ch,(b∈X.ex∨X.s₀.heap.objs.size≤b)∧b≠X.env.locals∧(∀x c,X.env.cells.lookup x=some c→c≠b)∧∀p∈X.pn++dU,p.1≠b) :
  eW X dU σ H' {s with heap:=h',gens:=g',drawn:=d',toks:=t'}:=by
 obtain⟨m,⟨o,es,ep,ho,r⟩,_⟩:=id I.loc;obtain⟨sl,hL⟩:=u.any ho I.free fun z=>(hch _ z).2.1 rfl;exact I.step (ch:=ch) hch (fun b o hL hb hc e n=>u.keep b o e n (fun z=>(aE.mp (I.stkSub b z)).elim hL hb) hc) (fun b o _ _ hc e n=>u.any e n hc) (fun b o hc e n=>u.free b o e n hc) (fun b o hc e=>u.there b o e hc) u.tups u.frzs u.tbls (fun m' hm=>by obtain⟨o',es',ep',ho',r'⟩:=hm;rw[ho] at ho';cases ho';exact⟨_,es',ep',hL,r'⟩) hok hg
theorem eW.turned{t':Nat}{it:Addr}(I:eW X dU σ H s)(k:∀b o,b≠it→s.heap.get? b=some o→h'.get? b=some o)(hn:H it=none)(hL:it≠X.env.locals)
  (h1:it∈X.ex∨X.s₀.heap.objs.size≤it) (h2:∀x c,X.env.cells.lookup x=some c→c≠it) (h3:∀p∈X.pn++dU,p.1≠it):eW X dU σ H {s with heap:=h',toks:=t'}:=by
 have nit:∀b u,H b=some u→b≠it:=fun b u e z=>by rw[z,hn] at e;cases e
 refine I.step (g':=s.gens) (d':=s.drawn) (ch:=[it]) (fun b hb=>?_) (fun b o _ _ hc e _=>k b o (fun z=>hc (by simp[z])) e) (fun b o _ _ hc e _=>⟨o.slots,k b o (fun z=>hc (by simp[z])) e⟩) (fun _ _ _ _ n=>n)
  (fun b o hc e=>⟨o,k b o (fun z=>hc (by simp[z])) e⟩) (fun _ _ e=>e) (fun _ _ _ e=>e) (fun b ps e=>⟨#[],by rw[e];simp⟩) (fun m hm=>?_) (fun b u e=>?_) I.bare
 ·have e:b=it:=by simpa using hb
  subst e;exact⟨h1,hL,h2,h3⟩
 ·obtain⟨o,es,ep,ho,r⟩:=hm;exact⟨o,es,ep,k _ o (Ne.symm hL) ho,r⟩
 ·refine (I.hok b u e).stay (fun c v hc q=>k c v ?_ q) (fun _ q=>q) fun _ _ q=>q;rcases hc with z | z
  ·rw[z];exact nit b u e
  ·exact nit c _ z
theorem eW.tok(I:eW X dU σ H s)(t:Nat):eW X dU σ H {s with toks:=t}:=I.un (h':=s.heap) (t':=t) Un.refl I.hok
theorem eW.kept{t':Nat}(I:eW X dU σ H s)(k:∀b u,s.heap.get? b=some u→h'.get? b=some u):eW X dU σ H {s with heap:=h',toks:=t'}:=I.un (Un.kept k) (I.hok.kept k)
theorem eW.laid{a:Addr}{o:HO}{t':Nat}(I:eW X dU σ H s)(k:∀b u,s.heap.get? b=some u→h'.get? b=some u)(hp:s.heap.objs.size≤a)(new:gS X.prog X.w (ij H a o) h' a o) :
  eW X dU σ (ij H a o) {s with heap:=h',toks:=t'}:=I.un (Un.laid k hp (I.hok.fresh hp)) (I.hok.laid k hp new)
theorem eW.write{x e:Addr}{o:HO}{t':Nat}(I:eW X dU σ H s)(mu:N2 (H x))(he:e=x∨H e=some (.own x))(k:∀b u,b≠e→s.heap.get? b=some u→h'.get? b=some u)(heo:∃u,h'.get? e=some u)
  (new:gS X.prog X.w (ij H x o) h' x o):eW X dU σ (ij H x o) {s with heap:=h',toks:=t'}:=I.un (Un.write mu he k heo) (I.hok.write mu he k heo new)
theorem eW.weak{σ':List (Option V)}(I:eW X dU σ H s)(hl:σ'.length=σ.length)(w:∀(i:Nat) v,σ'[i]? = some (some v)→σ[i]? = some (some v)):eW X dU σ' H s:=⟨I.ok,I.os,I.bare,I.base,let ⟨m,hn,hl'⟩:=I.loc;⟨m,hn,fun i x v e1 e2 e3=>hl' i x v e1 (w i v e2) e3⟩,I.cell,I.free,I.freeC,I.pin,I.hok,hl.trans I.len⟩
theorem eW.pins_of{pins':List (Addr×Obj)}(I:eW X dU σ H s)(h:∀p∈pins',s.heap.get? p.1=some p.2∧H p.1=none∧p.1≠X.env.locals∧p.1∉X.fs∧∀v,p.2.data≠.cell v):eW X pins' σ H s:=⟨I.ok,I.os,I.bare,I.base,I.loc,I.cell,I.free,I.freeC,fun p hp=>(ai.mp hp).elim (fun z=>I.pin p (ax _ z)) (h p),I.hok,I.len⟩
theorem zE{N:List Str}(hN:N.Nodup){i j:Nat}{x:Str}(a:N[i]? = some x)(b:N[j]? = some x):i=j:=by obtain⟨h1,e1⟩:=aa.mp a;obtain⟨h2,e2⟩:=aa.mp b;exact (List.getElem_inj hN).mp (e1.trans e2.symm)
theorem xD{M:Model}{A:Around}{E:Value→Shared→Prop}{i:Nat}{x:Str}{v:V}{u:Value}{Q:Unit→Shared→Prop}(I:eW X dU σ H s)(hN:X.N.Nodup)(hi:X.N[i]? = some x)(hx:Fy X.env.scope x)(r:gD v u)
  (h:∀s',eW X dU (σ.set i (some v)) H s'→(∃a,Heap.SameBut a s.heap s'.heap∧(a=X.env.locals∨X.env.cells.lookup x=some a))→Q () s') (hf:X.fn x=true∨X.env.scope.names.lookup x=some .local:=by first | exact .inl rfl | exact .inr rfl | assumption):wpAny M A (storeName X.env x u) Q E s:=by
 obtain⟨m,hn,hl⟩:=id I.loc;have hcls:(X.env.scope.kind == .class||(X.env.scope.kind == .module&&X.env.locals != X.env.globals))=false:=by rw[I.ok.kind];rfl
 have hiσ:i<σ.length:=by rw[I.len];exact (aa.mp hi).1
 have cne:=I.cne;have tracked:∀{a:Addr} {h':Heap},(∃o,s.heap.get? a=some o∧H a=none)→Heap.SameBut a s.heap h'→pG X.prog X.w H h':=fun {a h'} ha hs b ob e=>by
  obtain⟨_,_,hfree⟩:=ha;refine (I.hok b ob e).stay (fun c w' hc q=>(hs.2 c ?_).trans q) (fun _ q=>q) fun _ _ q=>q;rintro rfl;rcases hc with rfl | hc
  ·rw[hfree] at e;cases e
  ·rw[hfree] at hc;cases hc
 rcases hx with hk | hk
 ·refine wpAny_storeName_local hk hn (fun h' hn' hs=>?_) hcls;obtain⟨oL,_,_,hoL,_⟩:=id hn;refine h _ ⟨I.ok,I.os,I.bare,⟨fun b o e n hb hx=>?_,fun b o e n hb hx=>?_,I.base.free,fun b o e hx=>?_,I.base.tups,I.base.frzs,I.base.tbls⟩,⟨_,hn',fun j y v' e1 e2 e3=>?_⟩,fun y c e=>?_,I.free,I.freeC,fun p hp=>?_,tracked ⟨oL,hoL,I.free⟩ hs,by simpa using I.len⟩ ⟨_,hs,.inl rfl⟩
  ·exact (hs.2 b (aL (aD (aK e) I.ok.above))).trans (I.base.keep b o e n hb hx)
  ·obtain⟨sl,e1⟩:=I.base.slot b o e n hb hx;exact⟨sl,(hs.2 b (aL (aD (aK e) I.ok.above))).trans e1⟩
  ·obtain⟨o',e1⟩:=I.base.there b o e hx;exact⟨o',(hs.2 b (aL (aD (aK e) I.ok.above))).trans e1⟩
  ·by_cases hj:j=i
   ·subst hj;rw[hi] at e1;cases e1;rw[List.getElem?_set_self hiσ] at e2;cases e2;exact⟨u,r,.inl ⟨hk,by simp⟩⟩
   ·rw[aq (Ne.symm hj)] at e2;obtain⟨u',r',q⟩:=hl j y v' e1 e2 e3;refine⟨u',r',?_⟩;rcases q with⟨k,e⟩ | ⟨k,c,e,z⟩
    ·refine .inl ⟨k,?_⟩;have:y≠x:=fun e=>hj (zE hN e1 (e▸hi));simp[this,e]
    ·exact .inr ⟨k,c,e,z.sameBut hs (cne y c e)⟩
  ·obtain⟨w',z⟩:=I.cell y c e;exact⟨w',z.sameBut hs (cne y c e)⟩
  ·obtain⟨e,n,ne,nf,d⟩:=I.pin p hp;exact⟨(hs.2 p.1 ne).trans e,n,ne,nf,d⟩
 ·have hfn:X.fn x=true:=by
   rcases hf with z | z
   ·exact z
   ·rw[z] at hk;cases hk
  obtain⟨c,hc⟩:=I.ok.has x (.inl hk);obtain⟨w',z⟩:=I.cell x c hc;refine wpAny_storeName_cell I.ok.kind hk hc z (fun h' hc' hs=>?_);obtain⟨oc,hoc,hocd⟩:=id z;refine h {s with heap:=h'} ⟨I.ok,I.os,I.bare,⟨fun b o e n hb hx=>?_,fun b o e n hb hx=>?_,I.base.free,fun b o e hx=>?_,I.base.tups,I.base.frzs,I.base.tbls⟩,⟨m,hn.sameBut hs (Ne.symm (cne x c hc)),fun j y v' e1 e2 e3=>?_⟩,fun y c' e=>?_,I.free,I.freeC,fun p hp=>?_,tracked ⟨oc,hoc,I.freeC x c hc⟩ hs,by simpa using I.len⟩ ⟨c,hs,.inr hc⟩
  ·exact (hs.2 b (aL (aD (aK e) (I.ok.cab x c hfn hc)))).trans (I.base.keep b o e n hb hx)
  ·obtain⟨sl,e1⟩:=I.base.slot b o e n hb hx;exact⟨sl,(hs.2 b (aL (aD (aK e) (I.ok.cab x c hfn hc)))).trans e1⟩
  ·obtain⟨o',e1⟩:=I.base.there b o e hx;exact⟨o',(hs.2 b (aL (aD (aK e) (I.ok.cab x c hfn hc)))).trans e1⟩
  ·by_cases hj:j=i
   ·subst hj;rw[hi] at e1;cases e1;rw[List.getElem?_set_self hiσ] at e2;cases e2;exact⟨u,r,.inr ⟨.inl hk,c,hc,hc'⟩⟩
   ·rw[aq (Ne.symm hj)] at e2;obtain⟨u',r',q⟩:=hl j y v' e1 e2 e3;refine⟨u',r',?_⟩;rcases q with q | ⟨k,c',e,z'⟩
    ·exact .inl q
    ·refine .inr ⟨k,c',e,z'.sameBut hs ?_⟩;rintro rfl;exact hj (zE hN e1 (I.ok.inj _ _ _ e hc▸hi))
  ·by_cases hcc:c'=c
   ·subst hcc;exact⟨_,hc'⟩
   ·obtain⟨w2,z2⟩:=I.cell y c' e;exact⟨w2,z2.sameBut hs hcc⟩
  ·obtain⟨e,n,ne,nf,d⟩:=I.pin p hp;refine⟨(hs.2 p.1 ?_).trans e,n,ne,nf,d⟩;intro q;rw[q,hoc] at e;have q':oc=p.2:=Option.some.inj e;exact d w' (by rw[←q'];exact hocd)
theorem zR{M:Model}{A:Around}{E:Value→Shared→Prop}{i:Nat}{x:Str}{v:V}{u:Value}{Q:Unit→Shared→Prop}(I:eW X dU σ H s)(hN:X.N.Nodup)(hi:X.N[i]? = some x)(hx:Fy X.env.scope x)(r:gD v u)
  (h:∀s',eW X dU (σ.set i (some v)) H s'→Q () s') (hf:X.fn x=true∨X.env.scope.names.lookup x=some .local:=by first | exact .inl rfl | exact .inr rfl | assumption):wpAny M A (storeName X.env x u) Q E s:=
 xD I hN hi hx r (fun s' I' _=>h s' I') hf
theorem eW.call'{s':Shared}{ch:List Addr}(I:eW X dU σ H s)(ho:s'.os=s.os)(u:Un (Fw X.stack) ch H H' s.heap s'.heap)(hok:pG X.prog X.w H' s'.heap)(hg:AllBare s'.gens)
  (hch:∀b∈ch,(b∈X.ex∨X.s₀.heap.objs.size≤b)∧b≠X.env.locals∧(∀x c,X.env.cells.lookup x=some c→c≠b)∧∀p∈X.pn++dU,p.1≠b):eW X dU σ H' s':=by
 obtain⟨h',g',d',t',o'⟩:=s';have e:o'=s.os:=ho;subst e;exact I.call (g':=g') (t':=t') (d':=d') u hok hg hch
end
noncomputable abbrev XK:=Value→Option Addr→Hp→Prop
noncomputable abbrev St:=List (Option V)
noncomputable abbrev VK:=V→Hp→Prop
noncomputable abbrev TE:=St→Hp→VK→Prop
noncomputable abbrev TT:=St→Hp→(Bool→Hp→Prop)→Prop
noncomputable abbrev TA:=St→Hp→(List V→Hp→Prop)→Prop
structure yz where
 nx:St→Hp→Prop
 rt:VK
 bk:St→Hp→Prop:=fun _ _=>False
 ct:St→Hp→Prop:=fun _ _=>False
noncomputable abbrev TS:=yz→St→Hp→Prop
def EP(X:Cx)(dU:List (Addr×Obj))(σ:St)(Q:VK)(u:Value)(s':Shared):Prop:=∃v H',eW X dU σ H' s'∧gD v u∧Q v H'
def TP(X:Cx)(dU:List (Addr×Obj))(σ:St)(Q:Bool→Hp→Prop)(b:Bool)(s':Shared):Prop:=∃H',eW X dU σ H' s'∧Q b H'
def AP(X:Cx)(dU:List (Addr×Obj))(σ:St)(Q:List V→Hp→Prop)(us:List Value)(s':Shared):Prop:=∃vs H',eW X dU σ H' s'∧fP vs us∧Q vs H'
def SP(X:Cx)(dU:List (Addr×Obj))(D:yz)(f:Flow)(s':Shared):Prop:=
 match f with
 | .next=>∃σ' H',eW X dU σ' H' s'∧D.nx σ' H'
 | .brk=>∃σ' H',eW X dU σ' H' s'∧D.bk σ' H'
 | .cont=>∃σ' H',eW X dU σ' H' s'∧D.ct σ' H'
 | .ret u=>∃v σ' H',eW X dU σ' H' s'∧gD v u∧D.rt v H'
def PE(X:Cx)(e:Expr)(t:TE):Prop:=∀(dU:List (Addr×Obj)) (s:Shared) (σ:St) (H:Hp) (Q:VK),eW X dU σ H s→t σ H Q→wpAny (model X.prog X.w) X.A (eval e X.env) (EP X dU σ Q) X.xe s
def PT(X:Cx)(e:Expr)(t:TT):Prop:=∀(dU:List (Addr×Obj)) (s:Shared) (σ:St) (H:Hp) (Q:Bool→Hp→Prop),eW X dU σ H s→t σ H Q→wpAny (model X.prog X.w) X.A (isTrue e X.env (eval e X.env)) (TP X dU σ Q) X.xe s
def PW(X:Cx)(e:Expr)(t:TT):Prop:=∀(whole:Sem Value) (dU:List (Addr×Obj)) (s:Shared) (σ:St) (H:Hp) (Q:Bool→Hp→Prop),eW X dU σ H s→t σ H Q→wpAny (model X.prog X.w) X.A (isTrue e X.env whole) (TP X dU σ Q) X.xe s
theorem PW.pt{X:Cx}{e:Expr}{t:TT}(h:PW X e t):PT X e t:=h _
def PA(X:Cx)(es:List Expr)(t:TA):Prop:=∀(pos:Pos) (dU:List (Addr×Obj)) (s:Shared) (σ:St) (H:Hp) (Q:List V→Hp→Prop),eW X dU σ H s→t σ H Q→wpAny (model X.prog X.w) X.A (spliced (backTo pos (starEach es X.env))) (AP X dU σ Q) X.xe s
def PS(X:Cx)(st:Stmt)(t:TS):Prop:=∀(dU:List (Addr×Obj)) (s:Shared) (σ:St) (H:Hp) (D:yz),eW X dU σ H s→t D σ H→wpAny (model X.prog X.w) X.A (exec st X.env) (SP X dU D) X.xe s
def Af(X:Cx)(st:List Stmt)(t:TS):Prop:=∀(dU:List (Addr×Obj)) (s:Shared) (σ:St) (H:Hp) (D:yz),eW X dU σ H s→t D σ H→wpAny (model X.prog X.w) X.A (execs st X.env) (SP X dU D) X.xe s
theorem iL{α:Type}{t:Sem α}{Q Q':α→Shared→Prop}{M:Model}{A:Around}{E:Value→Shared→Prop}{s:Shared}(h:wpAny M A t Q E s)(hQ:∀a s,Q a s→Q' a s):wpAny M A t Q' E s:=wpAny_mono h hQ fun _ _ x=>x
end L2
namespace L2
open PySem PySem.Spec PyProof.Rows
section
variable {X:Cx}
def lO(i:Nat):TE:=fun σ H Q=>∃v,σ[i]? = some (some v)∧Q v H
def tC(v:V):TE:=fun _ H Q=>Q v H
theorem LJ{i:Nat}{x:Str}{pos:Pos}(hN:X.N[i]? = some x)(hv:OV X.env.scope x)(hd:(x == ("__debug__" : Str))=false:=by decide)(hcd:(x == ("__classdict__" : Str))=false:=by decide):PE X (.Name x pos) (lO i):=by
 intro dU s σ H Q I h;obtain⟨v,e,h⟩:=h;obtain⟨m,hn,hl⟩:=I.loc;obtain⟨u,r,l⟩:=hl i x v hN e hv;have fin:EP X dU σ Q u s:=⟨v,H,I,r,h⟩;rcases l with⟨hk,hm⟩ | ⟨hk,c,hc,hcell⟩
 ·exact wpAny_Name (wpAny_loadName_local I.ok.kind hk hn hm fin) hd
 ·rcases hk with hk | hk
  ·exact wpAny_Name (wpAny_loadName_cell I.ok.kind hk hc hcell fin) hd
  ·exact wpAny_Name (wpAny_loadName_free I.ok.kind hk hc hcell fin hcd) hd
theorem LX{i j pos}:PE X (.Constant (.int i) j pos) (tC (.int i)):=fun _ _ _ H _ I h=>wpAny_Constant_int ⟨.int i,H,I.tok _,⟨_,rfl⟩,h⟩
theorem Ol{b j pos}:PE X (.Constant (.bool b) j pos) (tC (.bl b)):=fun _ _ _ H _ I h=>Constant_bool ⟨.bl b,H,I,rfl,h⟩
theorem NI{j pos}:PE X (.Constant .none j pos) (tC .non):=fun _ _ _ H _ I h=>Constant_none ⟨.non,H,I,rfl,h⟩
theorem LY{x j pos}:PE X (.Constant (.str x) j pos) (tC (.str x)):=fun _ _ _ H _ I h=>Calls.Constant_str ⟨.str x,H,I.tok _,⟨_,rfl⟩,h⟩
def Gl(X:Cx)(x:Str):Prop:=X.env.kindOf x=some .globalImplicit
theorem zu{E:Value→Shared→Prop}{dU:List (Addr×Obj)}{s:Shared}{σ:St}{H:Hp}{x:Str}{u:Value}{pos:Pos}{Q:Value→Shared→Prop}(I:eW X dU σ H s)(hg:Gl X x)(hm:X.mg x=some u)(h:Q u s)
  (hd:(x == ("__debug__" : Str))=false:=by decide):wpAny (model X.prog X.w) X.A (eval (.Name x pos) X.env) Q E s:=
 Calls.Name_function_global I.ok.kind hg (Calls.loadGlobal_global (by rw[I.ok.glob];exact I.mod.glob.keeps I.bk) hm h) hd
theorem nN{E:Value→Shared→Prop}{dU:List (Addr×Obj)}{s:Shared}{σ:St}{H:Hp}{x:Str}{u:Value}{pos:Pos}{Q:Value→Shared→Prop}(I:eW X dU σ H s)(hg:Gl X x)(hm:X.mg x=none)(hv:bootBuiltins x=some u)(h:Q u s)
  (hn:x≠ "__name__" :=by decide) (hd:(x == ("__debug__" : Str))=false:=by decide):wpAny (model X.prog X.w) X.A (eval (.Name x pos) X.env) Q E s:=by
 obtain⟨mb,h1,h2⟩:=I.mod.blt;exact Calls.Name_function_global I.ok.kind hg (Calls.loadGlobal_builtin (by rw[I.ok.glob];exact I.mod.glob.keeps I.bk) hm (by rw[I.ok.blt];exact h1.keeps I.bk) ((h2 x hn).trans hv) h) hd
theorem Kt{x:Str}{v:V}{u:Value}{pos:Pos}(hg:Gl X x)(hm:X.mg x=some u)(r:gD v u)(hd:(x == ("__debug__" : Str))=false:=by decide):PE X (.Name x pos) (tC v):=fun _ _ _ H _ I h=>zu I hg hm ⟨v,H,I,r,h⟩ hd
theorem Js{x:Str}{v:V}{u:Value}{pos:Pos}(hg:Gl X x)(hm:X.mg x=none)(hv:bootBuiltins x=some u)(r:gD v u)(hn:x≠ "__name__" :=by decide)(hd:(x == ("__debug__" : Str))=false:=by decide):PE X (.Name x pos) (tC v):=fun _ _ _ H _ I h=>nN I hg hm hv ⟨v,H,I,r,h⟩ hn hd
variable {a b:Expr}{ta tb:TE}{pos:Pos}
def tB(t:TE):TT:=fun σ H Q=>t σ H fun x H1=>∃c,x=.bl c∧Q c H1
theorem MU{e:Expr}{t:TE}(h:PE X e t)(he:∀whole,isTrue e X.env whole=(do let v ←whole;standAt e.pos;holding [v] (truthy v)):=by intro _;rfl):PT X e (tB t):=by intro dU s σ H Q I hw;refine isTrue_plain (iL (h dU s σ H _ I hw) fun v s1 ⟨x,H1,I1,r1,q1⟩=>?_) (he _);obtain⟨d,rfl,q⟩:=q1;cases r1;exact wpAny_truthy_bool ⟨H1,I1,q⟩
variable {tA tB':TT}{rest:List Expr}
def Nh(t u:TT):TT:=fun σ H Q=>t σ H fun c H1=>if c=true then u σ H1 Q else Q false H1
def Qk(t u:TT):TT:=fun σ H Q=>t σ H fun c H1=>if c=true then Q true H1 else u σ H1 Q
def Mz(t:TT):TT:=fun σ H Q=>t σ H fun c H1=>Q (!c) H1
theorem IP(ha:PT X a tA):PW X (.BoolOp .And [a] pos) tA:=by
 intro wh dU s σ H Q I h;refine isTrue_and (iL (ha dU s σ H Q I h) fun c s1 e=>?_);cases c with
 | true=>exact isTrue_and_nil e
 | false=>exact e
theorem Nu(ha:PT X a tA):PW X (.BoolOp .Or [a] pos) tA:=by
 intro wh dU s σ H Q I h;refine isTrue_or (iL (ha dU s σ H Q I h) fun c s1 e=>?_);cases c with
 | false=>exact isTrue_or_nil e
 | true=>exact e
theorem NF(ha:PT X a tA)(hb:PW X (.BoolOp .And (b::rest) pos) tB'):PW X (.BoolOp .And (a::b::rest) pos) (Nh tA tB'):=by
 intro wh dU s σ H Q I h;refine isTrue_and (iL (ha dU s σ H _ I h) fun c s1 ⟨H1,I1,q1⟩=>?_);cases c with
 | true=>exact hb wh dU s1 σ H1 Q I1 q1
 | false=>exact⟨H1,I1,q1⟩
theorem OY(ha:PT X a tA)(hb:PW X (.BoolOp .Or (b::rest) pos) tB'):PW X (.BoolOp .Or (a::b::rest) pos) (Qk tA tB'):=by
 intro wh dU s σ H Q I h;refine isTrue_or (iL (ha dU s σ H _ I h) fun c s1 ⟨H1,I1,q1⟩=>?_);cases c with
 | true=>exact⟨H1,I1,q1⟩
 | false=>exact hb wh dU s1 σ H1 Q I1 q1
theorem Mq(ha:PT X a tA):PT X (.UnaryOp .Not a pos) (Mz tA):=by intro dU s σ H Q I h;exact isTrue_not (ha dU s σ H (fun c H1=>Q (!c) H1) I h)
def IC(ta tb:TE):TE:=fun σ H Q=>ta σ H fun x H1=>∃c,x=.bl c∧if c=true then tb σ H1 Q else Q (.bl false) H1
def Mo(ta tb:TE):TE:=fun σ H Q=>ta σ H fun x H1=>∃c,x=.bl c∧if c=true then Q (.bl true) H1 else tb σ H1 Q
def HS(ta:TE):TE:=fun σ H Q=>ta σ H fun x H1=>∃c,x=.bl c∧Q (.bl (!c)) H1
theorem LW{op}{t:TE}(h:PE X a t):PE X (.BoolOp op [a] pos) t:=fun dU s σ H Q I hw=>BoolOp_one (h dU s σ H Q I hw)
theorem Nt(ha:PE X a ta)(hb:PE X (.BoolOp .And (b::rest) pos) tb):PE X (.BoolOp .And (a::b::rest) pos) (IC ta tb):=by
 intro dU s σ H Q I h;refine BoolOp_and (iL (ha dU s σ H _ I h) fun v s1 ⟨x,H1,I1,r1,q1⟩=>?_);obtain⟨c,rfl,q1⟩:=q1;cases r1;refine wpAny_truthy_bool ?_;cases c with
 | true=>exact hb dU s1 σ H1 Q I1 q1
 | false=>exact⟨.bl false,H1,I1,rfl,q1⟩
theorem Ph(ha:PE X a ta)(hb:PE X (.BoolOp .Or (b::rest) pos) tb):PE X (.BoolOp .Or (a::b::rest) pos) (Mo ta tb):=by
 intro dU s σ H Q I h;refine BoolOp_or (iL (ha dU s σ H _ I h) fun v s1 ⟨x,H1,I1,r1,q1⟩=>?_);obtain⟨c,rfl,q1⟩:=q1;cases r1;refine wpAny_truthy_bool ?_;cases c with
 | false=>exact hb dU s1 σ H1 Q I1 q1
 | true=>exact⟨.bl true,H1,I1,rfl,q1⟩
theorem L4(ha:PE X a ta):PE X (.UnaryOp .Not a pos) (HS ta):=by intro dU s σ H Q I h;refine UnaryOp_ (iL (ha dU s σ H _ I h) fun v s1 ⟨x,H1,I1,r1,q1⟩=>?_);obtain⟨c,rfl,q1⟩:=q1;cases r1;exact not_of (wpAny_truthy_bool ⟨.bl (!c),H1,I1,rfl,q1⟩)
def PY(t:TT)(ta tb:TE):TE:=fun σ H Q=>t σ H fun c H1=>if c=true then ta σ H1 Q else tb σ H1 Q
theorem GX{c:Expr}(hc:PT X c tA)(ha:PE X a ta)(hb:PE X b tb):PE X (.IfExp c a b pos) (PY tA ta tb):=by
 intro dU s σ H Q I h;refine wpAny_IfExp (iL (hc dU s σ H _ I h) fun d s1 ⟨H1,I1,q1⟩=>?_);cases d with
 | true=>exact ha dU s1 σ H1 Q I1 q1
 | false=>exact hb dU s1 σ H1 Q I1 q1
end
end L2
namespace L2
open PySem PySem.Spec PyProof.Rows
def jI(K:W.Frag)(H:Hp)(a:Addr)(xs:List V):Prop:=
 Rd H a (.lst xs)∨
  ∃(o:Obj) (its:Array Value) (n:Nat),K.lookup a=some o∧o.cls=.type "list" ∧o.dict=none∧o.data=.seq its n∧its.size≤sizeLine∧fP xs its.toList
def kR(K:W.Frag)(H:Hp)(a:Addr)(xs:List V):Prop:=
 Rd H a (.tup xs)∨
  ∃(o:Obj) (its:Array Value) (n:Nat),K.lookup a=some o∧o.cls=.type "tuple" ∧o.data=.seq its n∧its.size≤sizeLine∧fP xs its.toList
noncomputable def Qh:Value→Option V
 | .none=>some .non
 | .bool b=>some (.bl b)
 | .int i _=>some (.int i)
 | .str x _=>some (.str x)
 | .bytes b _=>some (.byt b)
 | .float b _=>some (.flt b)
 | .ref a=>some (.ref a)
 | .type n=>some (.ty n)
 | _=>none
theorem gD.abs{x:V}{u:Value}(r:gD x u):Qh u=some x:=by
 cases x with
 | non=>cases r;rfl
 | bl _=>cases r;rfl
 | int _=>obtain⟨t,rfl⟩:=r;rfl
 | str _=>obtain⟨t,rfl⟩:=r;rfl
 | byt _=>obtain⟨t,rfl⟩:=r;rfl
 | flt _=>obtain⟨t,rfl⟩:=r;rfl
 | ref _=>cases r;rfl
 | ty _=>cases r;rfl
theorem gD.inj{x y:V}{u:Value}(r:gD x u)(q:gD y u):x=y:=Option.some.inj (r.abs.symm.trans q.abs)
theorem fP.inj:∀{xs ys:List V} {us:List Value},fP xs us→fP ys us→xs=ys
 | _,_,_,.nil,.nil=>rfl
 | _,_,_,.cons r t,.cons r' t'=>by rw[r.inj r',fP.inj t t']
section
variable {X:Cx}{dU:List (Addr×Obj)}{σ:St}{H:Hp}{s:Shared}{a:Addr}{xs ys:List V}
theorem jI.of{K:W.Frag}(h:H a=some (.lst xs)):jI K H a xs:=.inl (.inl h)
theorem kR.of{K:W.Frag}(h:H a=some (.tup xs)):kR K H a xs:=.inl (.inl h)
theorem eW.list(I:eW X dU σ H s)(h:jI X.K H a xs):∃its:List Value,fP xs its∧PlainL s.heap a its.toArray∧xs.length≤sizeLine:=by
 rcases h with h | ⟨o,its,n,hk,hc,hd,hs,hz,r⟩
 ·obtain⟨z,its,n,r,e⟩:=h.ok I.hok;exact⟨its,r,⟨_,n,e,rfl,rfl,rfl⟩,z⟩
 ·refine⟨its.toList,r,⟨o,n,I.kIn a o hk,hc,hd,by simpa using hs⟩,?_⟩;have e:=r.length;simp only[bh] at e;omega
theorem eW.tuple(I:eW X dU σ H s)(h:kR X.K H a xs):∃its:List Value,fP xs its∧IsTup s.heap a its.toArray∧xs.length≤sizeLine:=by
 rcases h with h | ⟨o,its,n,hk,hc,hs,hz,r⟩
 ·obtain⟨z,its,r,p⟩:=h.ok I.hok;exact⟨its,r,p,z⟩
 ·refine⟨its.toList,r,⟨o,I.kIn a o hk,hc,n,by simpa using hs⟩,?_⟩;have e:=r.length;simp only[bh] at e;omega
theorem eW.list_inj(I:eW X dU σ H s)(h:jI X.K H a xs)(h':jI X.K H a ys):xs=ys:=by
 obtain⟨its,r,⟨o,n,e,_,_,d⟩,_⟩:=I.list h;obtain⟨its',r',⟨o',n',e',_,_,d'⟩,_⟩:=I.list h';rw[e] at e';cases e';rw[d] at d';injection d' with d1 _;have:its=its':=by simpa using congrArg Array.toList d1
 subst this;exact r.inj r'
theorem eW.tuple_inj(I:eW X dU σ H s)(h:kR X.K H a xs)(h':kR X.K H a ys):xs=ys:=by
 obtain⟨its,r,⟨o,e,_,n,d⟩,_⟩:=I.tuple h;obtain⟨its',r',⟨o',e',_,n',d'⟩,_⟩:=I.tuple h';rw[e] at e';cases e';rw[d] at d';injection d' with d1 _;have:its=its':=by simpa using congrArg Array.toList d1
 subst this;exact r.inj r'
end
noncomputable abbrev Cx.wish(X:Cx)(E:Value→Shared→Prop):Cx:={X with xe:=E}
noncomputable abbrev Cx.nox(X:Cx):Cx:=X.wish fun _ _=>False
theorem Cx.Ok.wish{X:Cx}(ok:X.Ok)(E:Value→Shared→Prop):(X.wish E).Ok:=⟨ok.mod,ok.kind,ok.glob,ok.blt,ok.above,ok.inj,ok.has,ok.cab,ok.hd,ok.frames,ok.stk,ok.exf,ok.bs,ok.bsz,ok.noex,ok.exfs,ok.funs,ok.frf⟩
theorem Cx.Ok.unwish{X:Cx}{E:Value→Shared→Prop}(ok:(X.wish E).Ok):X.Ok:=⟨ok.mod,ok.kind,ok.glob,ok.blt,ok.above,ok.inj,ok.has,ok.cab,ok.hd,ok.frames,ok.stk,ok.exf,ok.bs,ok.bsz,ok.noex,ok.exfs,ok.funs,ok.frf⟩
section
variable {X:Cx}{dU:List (Addr×Obj)}{σ:St}{H:Hp}{s:Shared}{E:Value→Shared→Prop}
theorem eW.wish(I:eW X dU σ H s)(E:Value→Shared→Prop):eW (X.wish E) dU σ H s:=⟨I.ok.wish E,I.os,I.bare,I.base,I.loc,I.cell,I.free,I.freeC,I.pin,I.hok,I.len⟩
theorem eW.unwish(I:eW (X.wish E) dU σ H s):eW X dU σ H s:=⟨I.ok.unwish,I.os,I.bare,I.base,I.loc,I.cell,I.free,I.freeC,I.pin,I.hok,I.len⟩
theorem SP.unwish{D:yz}{f:Flow}{s':Shared}(h:SP (X.wish E) dU D f s'):SP X dU D f s':=by
 cases f with
 | next=>obtain⟨σ',H',I,q⟩:=h;exact⟨σ',H',I.unwish,q⟩
 | brk=>obtain⟨σ',H',I,q⟩:=h;exact⟨σ',H',I.unwish,q⟩
 | cont=>obtain⟨σ',H',I,q⟩:=h;exact⟨σ',H',I.unwish,q⟩
 | ret u=>obtain⟨v,σ',H',I,r,q⟩:=h;exact⟨v,σ',H',I.unwish,r,q⟩
theorem Af.nox{st:List Stmt}{t:TS}(h:Af X.nox st t):Af X st t:=fun dU s σ H D I hw=>wpAny_mono (h dU s σ H D (I.wish _) hw) (fun _ _ q=>q.unwish) fun _ _ z=>False.elim z
end
section
variable {X:Cx}{st:Stmt}{rest:List Stmt}{t u:TS}{e:Expr}{te:TE}{pos:Pos}
noncomputable def HK:TS:=fun D σ H=>D.nx σ H
noncomputable def Ku(t u:TS):TS:=fun D σ H=>t {D with nx:=u D} σ H
theorem J9:Af X [] HK:=fun _ _ σ H _ I h=>wpAny_execs_nil ⟨σ,H,I,h⟩
theorem Av(h1:PS X st t)(h2:Af X rest u):Af X (st::rest) (Ku t u):=by
 intro dU s σ H D I h;refine wpAny_execs_cons (iL (h1 dU s σ H {D with nx:=u D} I h) fun f s1 q=>?_);cases f with
 | next=>obtain⟨σ',H',I',q⟩:=q;exact h2 dU s1 σ' H' D I' q
 | ret v=>exact q
 | brk=>exact q
 | cont=>exact q
theorem CW(h1:PS X st t):Af X [st] t:=by
 intro dU s σ H D I h;refine wpAny_execs_cons (iL (h1 dU s σ H D I h) fun f s1 q=>?_);cases f with
 | next=>exact wpAny_execs_nil q
 | ret v=>exact q
 | brk=>exact q
 | cont=>exact q
theorem eW.quiet{dU:List (Addr×Obj)}{σ:St}{H:Hp}{s:Shared}(I:eW X dU σ H s):interactive X.env=false:=by simp[interactive,I.ok.kind]
noncomputable def qY(te:TE):TS:=fun D σ H=>te σ H fun _ H1=>D.nx σ H1
theorem uu(he:PE X e te)(hs:swapsWith e none pos.line X.env=pure false:=by rfl):PS X (.Expr e pos) (qY te):=by intro dU s σ H D I h;exact wpAny_Expr_any (iL (he dU s σ H _ I h) fun v s1 ⟨x,H1,I1,r1,q1⟩=>⟨σ,H1,I1,q1⟩) I.quiet hs
noncomputable def zx(te:TE):TS:=fun D σ H=>te σ H D.rt
theorem yT(he:PE X e te):PS X (.Return (some e) pos) (zx te):=by intro dU s σ H D I h;exact wpAny_Return_some (iL (he dU s σ H _ I h) fun v s1 ⟨x,H1,I1,r1,q1⟩=>⟨x,σ,H1,I1,r1,q1⟩)
noncomputable def LO(c:TT)(t u:TS):TS:=fun D σ H=>c σ H fun b H1=>if b=true then t D σ H1 else u D σ H1
theorem Oh{c:Expr}{a b:List Stmt}{tc:TT}(hc:PT X c tc)(ha:Af X a t)(hb:Af X b u):PS X (.If c a b pos) (LO tc t u):=by
 intro dU s σ H D I h;refine wpAny_If (iL (hc dU s σ H _ I h) fun d s1 ⟨H1,I1,q1⟩=>?_);cases d with
 | true=>exact ha dU s1 σ H1 D I1 q1
 | false=>exact hb dU s1 σ H1 D I1 q1
noncomputable def BK:TS:=fun _ _ _=>False
theorem FS:PS X st BK:=fun _ _ _ _ _ _ h=>h.elim
end
noncomputable abbrev TG:=V→St→Hp→(St→Hp→Prop)→Prop
noncomputable abbrev A4:=List V→St→Hp→(St→Hp→Prop)→Prop
def PG(X:Cx)(target:Expr)(t:TG):Prop:=
 ∀(dU:List (Addr×Obj)) (s:Shared) (σ:St) (H:Hp) (v:V) (u:Value) (Q:St→Hp→Prop),eW X dU σ H s→gD v u→t v σ H Q→
  wpAny (model X.prog X.w) X.A (assign target X.env u) (fun _ s'=>∃σ' H',eW X dU σ' H' s'∧Q σ' H') X.xe s
def NS(X:Cx)(ts:List Expr)(t:A4):Prop:=
 ∀(dU:List (Addr×Obj)) (s:Shared) (σ:St) (H:Hp) (vs:List V) (us:List Value) (Q:St→Hp→Prop),eW X dU σ H s→fP vs us→t vs σ H Q→
  wpAny (model X.prog X.w) X.A (assignInOrder ((assignEach ts X.env).map (·.2)) us) (fun _ s'=>∃σ' H',eW X dU σ' H' s'∧Q σ' H') X.xe s
noncomputable abbrev MM:=V→V→V→Hp→(Hp→Prop)→Prop
def Oc(X:Cx)(t:MM):Prop:=
 ∀(dU:List (Addr×Obj)) (s:Shared) (σ:St) (H:Hp) (o i v:V) (ov iv u:Value) (Q:Hp→Prop),eW X dU σ H s→gD o ov→gD i iv→gD v u→t o i v H Q→
  wpAny (model X.prog X.w) X.A (setItem ov iv u) (fun _ s'=>∃H',eW X dU σ H' s'∧Q H') X.xe s
section
variable {X:Cx}{pos:Pos}
def ji(i:Nat):TG:=fun v σ H Q=>Q (σ.set i (some v)) H
theorem Ds{i:Nat}{x:Str}(hN:X.N.Nodup)(hi:X.N[i]? = some x)(hx:Fy X.env.scope x)(hf:X.fn x=true∨X.env.scope.names.lookup x=some .local:=by first | exact .inl rfl | exact .inr rfl | assumption):PG X (.Name x pos) (ji i):=by intro dU s σ H v u Q I r h;exact wpAny_assign_Name (zR I hN hi hx r (fun s' I'=>⟨_,H,I',h⟩) hf)
noncomputable def Ej:A4:=fun vs σ H Q=>vs=[]∧Q σ H
noncomputable def vA(t:TG)(u:A4):A4:=fun vs σ H Q=>∃v r,vs=v::r∧t v σ H fun σ' H'=>u r σ' H' Q
theorem Dy:NS X [] Ej:=by intro dU s σ H vs us Q I r h;obtain⟨e,h⟩:=h;subst e;cases r;exact assignInOrder_nil ⟨σ,H,I,h⟩
theorem Aq{e:Expr}{es:List Expr}{t:TG}{u:A4}(h1:PG X e t)(h2:NS X es u)
  (hs:(assignEach (e::es) X.env).map (·.2)=assign e X.env::(assignEach es X.env).map (·.2):=by rfl):NS X (e::es) (vA t u):=by
 intro dU s σ H vs us Q I r h;obtain⟨v,vr,e1,h⟩:=h;subst e1;cases r with
 | cons r rr=>rw[hs];refine assignInOrder_cons (iL (h1 dU s σ H _ _ _ I r h) fun _ s1 ⟨σ1,H1,I1,q1⟩=>?_);exact h2 dU s1 σ1 H1 _ _ Q I1 rr q1
def EW(K:W.Frag)(n:Nat)(t:A4):TG:=fun v σ H Q=>∃a xs,v=.ref a∧kR K H a xs∧xs.length=n∧t xs σ H Q
theorem G8{es:List Expr}{k:Nat}{t:A4}{n:Nat}(hc:X.calm=true)(h:NS X es t)
  (hn:(assignEach es X.env).length=n:=by rfl) (hst:(assignEach es X.env).findIdx? (·.1)=none:=by rfl):PG X (.Tuple es k pos) (EW X.K n t):=by
 intro dU s σ H v u Q I r hw;obtain⟨a,xs,e1,hq,hl,hw⟩:=hw;subst e1;cases r;obtain⟨its,rv,ht,hz⟩:=I.tuple hq;refine assign_Tuple_tuple (I.ok.hd hc) ht (by simp[hn,←hl,rv.length]) hst fun h' hx=>?_;have I1:eW X dU σ H {s with heap:=h'}:=I.kept (t':=s.toks) fun b o e=>hx b o (aL (aK e)) e;exact h dU _ σ H xs _ Q I1 (by simpa using rv) hw
def M8(to ti:TE)(t:MM):TG:=fun v σ H Q=>to σ H fun o H1=>ti σ H1 fun i H2=>t o i v H2 fun H3=>Q σ H3
theorem Ls{o i:Expr}{to ti:TE}{t:MM}(ho:PE X o to)(hi:PE X i ti)(hs:Oc X t)
  (ha:∀v,assign (.Subscript o i pos) X.env v=(do
   let ov ←holding [v] (eval o X.env)
   let iv ←holding [v,ov] (eval i X.env)
   standAt pos
   holding [v,ov,iv] (setItem ov iv v)
   release [v,ov,iv] []):=by intro _;rfl):PG X (.Subscript o i pos) (M8 to ti t):=by
 intro dU s σ H v u Q I r h;rw[ha];refine ao (wpAny_holding (iL (ho dU s σ H _ I h) fun ov s1 ⟨x,H1,I1,r1,q1⟩=>?_));refine ao (wpAny_holding (iL (hi dU s1 σ H1 _ I1 q1) fun iv s2 ⟨y,H2,I2,r2,q2⟩=>?_));refine ao (wpAny_standAt (ao (wpAny_holding (iL (hs dU s2 σ H2 x y v ov iv u _ I2 r1 r2 r q2) fun _ s3 ⟨H3,I3,q3⟩=>?_))));exact wpAny_release ⟨σ,H3,I3,q3⟩
noncomputable def nJ(te:TE)(g:TG):TS:=fun D σ H=>te σ H fun x H1=>g x σ H1 D.nx
theorem Ig{tg e:Expr}{te:TE}{g:TG}(he:PE X e te)(hg:PG X tg g)(hs:swapsWithSole [tg] e pos.line X.env=pure false:=by rfl)(hw:swappedStores [tg] e X.env=pure none:=by rfl)
  (h1:(assignEach [tg] X.env).map (·.2)=[assign tg X.env]:=by rfl):PS X (.Assign [tg] e pos) (nJ te g):=by
 intro dU s σ H D I h;refine wpAny_Assign_stores (iL (he dU s σ H _ I h) fun v s1 ⟨x,H1,I1,r1,q1⟩=>?_) hs hw;rw[h1];exact iL (hg dU s1 σ H1 x v _ I1 r1 q1) fun _ s2 q=>q
theorem yZ{i:Nat}{x:Str}{e:Expr}{te:TE}{pos':Pos}(hN:X.N.Nodup)(hi:X.N[i]? = some x)(hx:Fy X.env.scope x)(he:PE X e te)(hs:swapsWith e (some (.Name x pos')) pos.line X.env=pure false:=by rfl)(hf:X.fn x=true∨X.env.scope.names.lookup x=some .local:=by first | exact .inl rfl | exact .inr rfl | assumption) :
  PS X (.Assign [.Name x pos'] e pos) (nJ te (ji i)):=by
 intro dU s σ H D I h;refine wpAny_Assign_Name (iL (he dU s σ H _ I h) fun v s1 ⟨y,H1,I1,r1,q1⟩=>?_) hs;exact zR I1 hN hi hx r1 (fun s2 I2=>⟨_,H1,I2,q1⟩) hf
end
section
variable {X:Cx}{pos:Pos}
noncomputable def CP(c:TT)(tb:TS):TS:=fun D σ H=>∃W:Nat→St→Hp→Prop,(∃m,W m σ H)∧∀m σ H,W m σ H→
 c σ H fun b H1=>if b=true then ∃N:St→Hp→Prop,(∀σ' H',N σ' H'→∃m',m'<m∧W m' σ' H')∧tb {D with nx:=N,ct:=N,bk:=D.nx} σ H1 else D.nx σ H1
theorem Ii{c:Expr}{body:List Stmt}{tc:TT}{tb:TS}(hp:PassesOwn (model X.prog X.w) X.A X.env X.xe)(hc:PT X c tc)(hb:Af X body tb):PS X (.While c body [] pos) (CP tc tb):=by
 intro dU s σ H D I h;obtain⟨W,⟨m0,w0⟩,turn⟩:=h;refine wpAny_While (codeAny_whileLoop (fun n s'=>∃σ' H',eW X dU σ' H' s'∧W n σ' H') ?_ m0 ⟨σ,H,I,w0⟩);rintro n s1 ⟨σ1,H1,I1,w1⟩;refine wpAny_passesOwn hp (iL (hc dU s1 σ1 H1 _ I1 (turn n σ1 H1 w1)) fun b s2 ⟨H2,I2,q2⟩=>?_);cases b with
 | true=>
  obtain⟨N,hN,q2⟩:=q2;rw[aP rfl];refine wpAny_passesOwn hp (iL (hb dU s2 σ1 H2 _ I2 q2) fun f s3 q3=>?_);cases f with
  | next=>obtain⟨σ3,H3,I3,n3⟩:=q3;obtain⟨m',hm,w3⟩:=hN σ3 H3 n3;exact⟨m',hm,σ3,H3,I3,w3⟩
  | cont=>obtain⟨σ3,H3,I3,n3⟩:=q3;obtain⟨m',hm,w3⟩:=hN σ3 H3 n3;exact⟨m',hm,σ3,H3,I3,w3⟩
  | brk=>exact q3
  | ret v=>exact q3
 | false=>rw[aQ aG];exact wpAny_execs_nil ⟨σ1,H2,I2,q2⟩
end
structure It where
 go:Nat→Hp→Prop
 yld:Nat→Hp→V→Hp→Prop
 stop:Nat→Hp→Prop
def qJ(X:Cx)(dU:List (Addr×Obj))(H:Hp)(b:Addr):Prop:=H b=none∧b≠X.env.locals∧b∉X.fs∧(b∈X.ex∨X.s₀.heap.objs.size≤b)∧(∀x c,X.env.cells.lookup x=some c→c≠b)∧∀p∈X.pn++dU,p.1≠b
theorem eW.fpOk{X:Cx}{dU:List (Addr×Obj)}{σ:St}{H H':Hp}{s:Shared}{b:Addr}(I:eW X dU σ H s)(hb:s.heap.objs.size≤b)(hn:H' b=none):qJ X dU H' b:=by
 refine⟨hn,bj (aD I.lt hb),I.nofs hb,.inr (aM I.sz hb),fun x c e z=>?_,fun p hp z=>?_⟩
 ·obtain⟨v,q⟩:=I.cell x c e;exact absurd (aD q.lt (by rw[z];exact hb)) (aZ _)
 ·exact absurd (aD (aK (I.pin p hp).1) (by rw[z];exact hb)) (aZ _)
structure zV(P:Program)(w:World)(K:W.Frag)(tg:Expr)(J:It)(fp:List Addr)(it:Addr)(tn:Nat→Heap→Prop):Prop where
 mem:it∈fp
 obj:∀i h,tn i h→∀b∈fp,∃o,h.get? b=some o∧∀v,o.data≠.cell v
 keep:∀i h h',tn i h→(∀b∈fp,∀o,h.get? b=some o→h'.get? b=some o)→tn i h'
 item:∀(X:Cx),X.prog=P→X.w=w→X.K=K→X.calm=true→∀(i:Nat) (dU:List (Addr×Obj)) (s:Shared) (σ:St) (H:Hp) (E:Value→Shared→Prop),eW X dU σ H s→(∀b∈fp,qJ X dU H b)→tn i s.heap→J.go i H→
  wpAny (model P w) X.A (pyNext (.ref it)) (fun r s1=>∃u,r=some u∧
   wpAny (model P w) X.A (letOwnedTupleGo tg (.ref it) u) (fun _ s2=>∃x H',eW X dU σ H' s2∧gD x u∧J.yld i H x H'∧tn (i+1) s2.heap∧∀b∈fp,H' b=none) E s1) E s
 done:∀(X:Cx),X.prog=P→X.w=w→X.K=K→X.calm=true→∀(i:Nat) (dU:List (Addr×Obj)) (s:Shared) (σ:St) (H:Hp) (E:Value→Shared→Prop),eW X dU σ H s→(∀b∈fp,qJ X dU H b)→tn i s.heap→J.stop i H→
  wpAny (model P w) X.A (pyNext (.ref it)) (fun r s1=>r=none∧eW X dU σ H s1) E s
 self:∀(A:Around) (i:Nat) (s:Shared) (Q:Value→Shared→Prop) (E:Value→Shared→Prop),tn i s.heap→Q (.ref it) s→wpAny (model P w) A (pyIter (.ref it)) Q E s
noncomputable abbrev TI:=St→Hp→(It→Hp→Prop)→Prop
def Qw(X:Cx)(dU:List (Addr×Obj))(σ:St)(tg:Expr)(R:It→Hp→Prop)(itv:Value)(s2:Shared):Prop:=∃(it:Addr) (fp:List Addr) (tn:Nat→Heap→Prop) (J:It) (H':Hp),itv=.ref it∧eW X dU σ H' s2∧zV X.prog X.w X.K tg J fp it tn∧tn 0 s2.heap∧(∀b∈fp,qJ X dU H' b)∧R J H'
def PI(X:Cx)(tg iter:Expr)(wi:TI):Prop:=
 ∀(dU:List (Addr×Obj)) (s:Shared) (σ:St) (H:Hp) (R:It→Hp→Prop),eW X dU σ H s→wi σ H R→
  wpAny (model X.prog X.w) X.A (eval iter X.env) (fun v s1=>wpAny (model X.prog X.w) X.A (pyIter v) (Qw X dU σ tg R) X.xe s1) X.xe s
theorem C6{M:Model}{A:Around}{E:Value→Shared→Prop}{s:Shared}{tg:Expr}{it:Addr}{u:Value}{o:Obj}{n:String}{vs:Array Value}{Q:Unit→Shared→Prop}(ho:s.heap.get? it=some o)(hc:o.cls=.type n)(hd:o.data=.fields vs)
    (hn:["enumerate", "zip", "dict_itemiterator", "dict_reverseitemiterator", "odict_iterator", "itertools.zip_longest", "itertools.pairwise"].contains n=false) (hQ:Q () s):wpAny M A (letOwnedTupleGo tg (.ref it) u) Q E s:=by
  unfold letOwnedTupleGo;cases tg<;>first
    | exact ak hQ
    | (cases u<;>first
        | exact ak hQ
        | (refine ao (wpAny_load ho ?_)
           rw[hc,hd]
           show wpAny M A (if (["enumerate", "zip", "dict_itemiterator", "dict_reverseitemiterator", "odict_iterator", "itertools.zip_longest", "itertools.pairwise"].contains n&&vs[0]? == some (rawInt _))=true then _ else _) Q E s
           rw[aQ (by intro h;rw[hn,Bool.false_and] at h;cases h)]
           exact ak hQ))
noncomputable def Qo(K:W.Frag)(a:Addr):It:=⟨fun i H=>∃xs x,jI K H a xs∧xs[i]? = some x,fun i H x H'=>H'=H∧∀xs,jI K H a xs→xs[i]? = some x,fun i H=>∃xs,jI K H a xs∧xs.length≤i⟩
noncomputable def P5(K:W.Frag)(a:Addr):It:=⟨fun i H=>∃xs x,kR K H a xs∧xs[i]? = some x,fun i H x H'=>H'=H∧∀xs,kR K H a xs→xs[i]? = some x,fun i H=>∃xs,kR K H a xs∧xs.length≤i⟩
noncomputable def Pk(lo:Int)(n:Nat):It:=⟨fun i _=>i<n,fun i H x H'=>H'=H∧x=.int (lo+i),fun i _=>n≤i⟩
theorem EZ{P:Program}{w:World}{K:W.Frag}{tg:Expr}(a it:Addr):zV P w K tg (Qo K a) [it] it (fun i h=>h.IsListIter it a i) where
 mem:=by simp
 obj:=fun i h st b hb=>by
  have e:b=it:=by simpa using hb
  subst e;obtain⟨o,e,c,d⟩:=st;exact⟨o,e,fun v z=>by rw[d] at z;cases z⟩
 keep:=fun i h h' st k=>st.at fun o e=>k it (by simp) o e
 item:=by intro X hP hw hK hc i dU s σ H E I hf st hg;subst hP hw hK;obtain⟨xs,x,hq,hx⟩:=hg;obtain⟨its,rv,p,hz⟩:=I.list hq;obtain⟨u,hu,ru⟩:=rv.get hx;obtain⟨f0,f1,f2,f3,f4,f5⟩:=hf it (by simp);refine wpAny_pyNext_list_item st p.isList (x:=u) (by simpa using hu) fun h' st' sb=>?_;have I1:eW X dU σ H {s with heap:=h'}:=I.turned (t':=s.toks) (fun b o hb e=>(sb.2 b hb).trans e) f0 f1 f3 f4 f5;obtain⟨o,e,c,d⟩:=id st';exact⟨u,rfl,C6 (s:={s with heap:=h'}) e c d (by decide) ⟨x,H,I1,ru,⟨rfl,fun ys hy=>by rw[I.list_inj hy hq];exact hx⟩,st',fun b hb=>(hf b hb).1⟩⟩
 done:=by intro X hP hw hK hc i dU s σ H E I hf st hg;subst hP hw hK;obtain⟨xs,hq,hx⟩:=hg;obtain⟨its,rv,p,hz⟩:=I.list hq;obtain⟨f0,f1,f2,f3,f4,f5⟩:=hf it (by simp);have hl:=rv.length;exact wpAny_pyNext_list_end (I.ok.hd hc) st p.isList (by simp;omega) fun h' eb=>⟨rfl,I.turned (t':=s.toks) (fun b o hb e=>eb b o hb e) f0 f1 f3 f4 f5⟩
 self:=fun _ _ _ _ _ st h=>wpAny_pyIter_listiter st h
theorem BA{P:Program}{w:World}{K:W.Frag}{tg:Expr}(a it:Addr):zV P w K tg (P5 K a) [it] it (fun i h=>h.IsTupleIter it a i) where
 mem:=by simp
 obj:=fun i h st b hb=>by
  have e:b=it:=by simpa using hb
  subst e;obtain⟨o,e,c,d⟩:=st;exact⟨o,e,fun v z=>by rw[d] at z;cases z⟩
 keep:=fun i h h' st k=>st.at fun o e=>k it (by simp) o e
 item:=by intro X hP hw hK hc i dU s σ H E I hf st hg;subst hP hw hK;obtain⟨xs,x,hq,hx⟩:=hg;obtain⟨its,rv,p,hz⟩:=I.tuple hq;obtain⟨u,hu,ru⟩:=rv.get hx;obtain⟨f0,f1,f2,f3,f4,f5⟩:=hf it (by simp);refine wpAny_pyNext_tuple_item st (show s.heap.IsTuple a its.toArray from p) (x:=u) (by simpa using hu) fun h' st' sb=>?_;have I1:eW X dU σ H {s with heap:=h'}:=I.turned (t':=s.toks) (fun b o hb e=>(sb.2 b hb).trans e) f0 f1 f3 f4 f5;obtain⟨o,e,c,d⟩:=id st';exact⟨u,rfl,C6 (s:={s with heap:=h'}) e c d (by decide) ⟨x,H,I1,ru,⟨rfl,fun ys hy=>by rw[I.tuple_inj hy hq];exact hx⟩,st',fun b hb=>(hf b hb).1⟩⟩
 done:=by intro X hP hw hK hc i dU s σ H E I hf st hg;subst hP hw hK;obtain⟨xs,hq,hx⟩:=hg;obtain⟨its,rv,p,hz⟩:=I.tuple hq;obtain⟨f0,f1,f2,f3,f4,f5⟩:=hf it (by simp);have hl:=rv.length;exact wpAny_pyNext_tuple_end (I.ok.hd hc) st (show s.heap.IsTuple a its.toArray from p) (by simp;omega) fun h' eb=>⟨rfl,I.turned (t':=s.toks) (fun b o hb e=>eb b o hb e) f0 f1 f3 f4 f5⟩
 self:=fun _ _ _ _ _ st h=>wpAny_pyIter_tupleiter st h
theorem CC{P:Program}{w:World}{K:W.Frag}{tg:Expr}(it:Addr)(lo:Int)(n:Nat):zV P w K tg (Pk lo n) [it] it (fun i h=>IsRangeIter h it (lo+(i:Nat)*1) ((n:Int) - (i:Nat)) 1) where
 mem:=by simp
 obj:=fun i h st b hb=>by
  have e:b=it:=by simpa using hb
  subst e;exact⟨_,st,fun v z=>by have z':Data.fields _=Data.cell v:=z;cases z'⟩
 keep:=fun i h h' st k=>k it (by simp) _ st
 item:=by intro X hP hw hK hc i dU s σ H E I hf st hg;subst hP hw hK;obtain⟨f0,f1,f2,f3,f4,f5⟩:=hf it (by simp);have W:=Walks.range (prog:=X.prog) (w:=X.w) (I.ok.hd hc) it lo 1 n;refine W.item i s _ _ hg st fun v h' tk hv st' kk=>?_;obtain⟨t,rfl⟩:=hv;have I1:eW X dU σ H {s with heap:=h',toks:=tk}:=I.turned (fun b o hb e=>kk b o (by simpa using hb) e) f0 f1 f3 f4 f5;refine⟨_,rfl,C6 (s:={s with heap:=h',toks:=tk}) (n:= "range_iterator") st' rfl rfl (by decide) ⟨.int (lo+i),H,I1,⟨t,?_⟩,⟨rfl,rfl⟩,st',fun b hb=>(hf b hb).1⟩⟩;rw[Int.mul_one]
 done:=by intro X hP hw hK hc i dU s σ H E I hf st hg;subst hP hw hK;obtain⟨f0,f1,f2,f3,f4,f5⟩:=hf it (by simp);exact wpAny_pyNext_range_end (I.ok.hd hc) st (by have:n≤i:=hg;omega) fun h' eb=>⟨rfl,I.turned (t':=s.toks) (fun b o hb e=>eb b o hb e) f0 f1 f3 f4 f5⟩
 self:=fun _ _ _ _ _ st h=>wpAny_pyIter_rangeiter st h
end L2
namespace L2
open PySem PySem.Spec PyProof.Rows
section
variable {X:Cx}{tg:Expr}
def Hq(K:W.Frag)(tl:TE):TI:=fun σ H R=>tl σ H fun x H1=>∃a,x=.ref a∧(∃xs,jI K H1 a xs)∧R (Qo K a) H1
def Mg(K:W.Frag)(tl:TE):TI:=fun σ H R=>tl σ H fun x H1=>∃a,x=.ref a∧(∃xs,kR K H1 a xs)∧R (P5 K a) H1
theorem Jo{l:Expr}{tl:TE}(hl:PE X l tl):PI X tg l (Hq X.K tl):=by
 intro dU s σ H R I h;refine iL (hl dU s σ H _ I h) fun v s1 ⟨x,H1,I1,r1,q1⟩=>?_;obtain⟨a,e,⟨xs,hq⟩,q⟩:=q1;subst e;cases r1;obtain⟨its,rv,p,hz⟩:=I1.list hq;refine wpAny_pyIter_list p.isList ?_;refine⟨s1.heap.objs.size,[s1.heap.objs.size],_,_,H1,rfl,I1.kept (t':=s1.toks) fun b o e=>ae _ e,EZ a _,⟨_,ar _ rfl,rfl,rfl⟩,fun b hb=>?_,q⟩;have e:b=s1.heap.objs.size:=by simpa using hb
 subst e;exact I1.fpOk (aJ _) (I1.hok.fresh (aJ _))
theorem Lu{l:Expr}{tl:TE}(hl:PE X l tl):PI X tg l (Mg X.K tl):=by
 intro dU s σ H R I h;refine iL (hl dU s σ H _ I h) fun v s1 ⟨x,H1,I1,r1,q1⟩=>?_;obtain⟨a,e,⟨xs,hq⟩,q⟩:=q1;subst e;cases r1;obtain⟨its,rv,p,hz⟩:=I1.tuple hq;refine wpAny_pyIter_tuple (show s1.heap.IsTuple a its.toArray from p) ?_;refine⟨s1.heap.objs.size,[s1.heap.objs.size],_,_,H1,rfl,I1.kept (t':=s1.toks) fun b o e=>ae _ e,BA a _,⟨_,ar _ rfl,rfl,rfl⟩,fun b hb=>?_,q⟩;have e:b=s1.heap.objs.size:=by simpa using hb
 subst e;exact I1.fpOk (aJ _) (I1.hok.fresh (aJ _))
theorem Ia{dU:List (Addr×Obj)}{σ:St}{H:Hp}{s:Shared}{R:It→Hp→Prop}{E:Value→Shared→Prop}{lo hi:Int}{t u v:Tok}{tk:Nat}(I:eW X dU σ H s)(h1:-(2 ^ 62)≤lo)(h2:lo<2 ^ 62)(h3:-(2 ^ 62)≤hi)(h4:hi<2 ^ 62)
  (q:R (Pk lo (hi - lo).toNat) H):wpAny (model X.prog X.w) X.A (pyIter (.ref s.heap.objs.size)) (Qw X dU σ tg R) E {s with heap:=s.heap.push {cls:=.type "range",data:=.fields #[.int lo t,.int hi u,.int 1 v]},toks:=tk}:=by
 refine wpAny_pyIter_range (IsRange.new ..) (small_one h1 h2 h3 h4) ?_;have I1:eW X dU σ H {s with heap:=s.heap.push {cls:=.type "range",data:=.fields #[.int lo t,.int hi u,.int 1 v]},toks:=tk}:=I.kept fun b o e=>ae _ e;refine⟨(s.heap.push {cls:=.type "range",data:=.fields #[.int lo t,.int hi u,.int 1 v]}).objs.size,[(s.heap.push {cls:=.type "range",data:=.fields #[.int lo t,.int hi u,.int 1 v]}).objs.size],_,_,H,rfl,
  I1.kept (t':=tk) fun b o e=>ae _ e,CC _ lo (hi - lo).toNat,?_,fun b hb=>?_,q⟩
 ·have e1:lo+((0:Nat):Int)*1=lo:=by simp
  have e2:(((hi - lo).toNat:Nat):Int) - ((0:Nat):Int)=Builtin.Range.rangeSize lo hi 1:=by rw[rangeSize_one];split<;>omega
  show IsRangeIter _ _ (lo+((0:Nat):Int)*1) ((((hi - lo).toNat:Nat):Int) - ((0:Nat):Int)) 1;rw[e1,e2];exact ar _ rfl
 ·have e:b=(s.heap.push {cls:=.type "range",data:=.fields #[.int lo t,.int hi u,.int 1 v]}).objs.size:=by simpa using hb
  subst e;exact I1.fpOk (aJ _) (I1.hok.fresh (aJ _))
def IB(ta:TA):TI:=fun σ H R=>ta σ H fun vs H1=>∃j:Int,vs=[.int j]∧-(2 ^ 62)≤j∧j<2 ^ 62∧R (Pk 0 j.toNat) H1
theorem Eg{a:Expr}{ta:TA}{p pos:Pos}(hg:Gl X "range")(hm:X.mg "range" = none)(ha:PA X [a] ta)(hs:starEach [a] X.env=[(false,eval a X.env)]:=by rfl):PI X tg (.Call (.Name "range" p) [a] [] pos) (IB ta):=by
 intro dU s σ H R I h;refine Call_ (nN I hg hm boot_range (PyProof.Rows.callWith_type1 (iL (ha pos dU s σ H _ I h) fun us s1 ⟨vs,H1,I1,r1,q1⟩=>?_) hs rfl));obtain⟨j,e,q1,q2,q⟩:=q1;subst e;cases r1 with
 | cons r rr=>cases rr;obtain⟨t,rfl⟩:=r;exact call_range_1 (Ia I1 (by omega) (by omega) q1 q2 (by simpa using q))
noncomputable def Hj(wi:TI)(g:TG)(tb:TS):TS:=fun D σ H=>wi σ H fun J H1=>∃W:Nat→Nat→St→Hp→Prop,(∃m,W 0 m σ H1)∧∀i m σ H,W i m σ H→
 (J.stop i H∧D.nx σ H)∨(J.go i H∧∃N:St→Hp→Prop,(∀σ' H',N σ' H'→∃m',m'<m∧W (i+1) m' σ' H')∧∀x H',J.yld i H x H'→g x σ H' fun σ2 H2=>tb {D with nx:=N,ct:=N,bk:=D.nx} σ2 H2)
noncomputable def vR(fp:List Addr)(h:Heap):List (Addr×Obj):=fp.filterMap fun b=>(h.get? b).map fun o=>(b,o)
theorem nK{fp:List Addr}{h:Heap}{b:Addr}{o:Obj}(hb:b∈fp)(e:h.get? b=some o):(b,o)∈vR fp h:=List.mem_filterMap.mpr ⟨b,hb,by rw[e];rfl⟩
theorem DW{fp:List Addr}{h:Heap}{p:Addr×Obj}(hp:p∈vR fp h):p.1∈fp∧h.get? p.1=some p.2:=by
 obtain⟨b,hb,e⟩:=List.mem_filterMap.mp hp;cases q:h.get? b with
 | none=>rw[q] at e;cases e
 | some o=>rw[q] at e;have e':(b,o)=p:=Option.some.inj e;subst e';exact⟨hb,q⟩
theorem eW.pinned{dU:List (Addr×Obj)}{σ:St}{H:Hp}{s:Shared}{fp:List Addr}(I:eW X dU σ H s)(hf:∀b∈fp,qJ X dU H b)(ho:∀b∈fp,∃o,s.heap.get? b=some o∧∀v,o.data≠.cell v):eW X (dU++vR fp s.heap) σ H s:=I.pins_of fun p hp=>(ai.mp hp).elim (fun z=>I.pin p (bq _ z)) fun z=>by obtain⟨hb,e⟩:=DW z;obtain⟨f0,f1,f2,_⟩:=hf p.1 hb;obtain⟨o,e',d⟩:=ho p.1 hb;rw[e] at e';cases e';exact⟨e,f0,f1,f2,d⟩
theorem eW.unpinned{dU pl:List (Addr×Obj)}{σ:St}{H:Hp}{s:Shared}(I:eW X (dU++pl) σ H s):eW X dU σ H s:=I.pins_of fun p hp=>I.pin p (bq _ (ax _ hp))
theorem IF{iter:Expr}{body:List Stmt}{wi:TI}{g:TG}{tb:TS}{pos:Pos}(hp:PassesOwn (model X.prog X.w) X.A X.env X.xe)(hc:X.calm=true)(hi:PI X tg iter wi)(hg:PG X tg g)(hb:Af X body tb)
  (hs:∀x,foldedSetIterable iter X.env x=pure x:=by intro _;rfl):PS X (.For tg iter body [] pos) (Hj wi g tb):=by
 intro dU s σ H D I h;refine wpAny_For (iL (hi dU s σ H _ I h) fun v s1 h1=>iL h1 fun itv s2 h2=>?_) hs;obtain⟨it,fp,tn,J,H2,e,I2,T,st2,f2,W,⟨m0,w0⟩,turn⟩:=h2;subst e;have stat:∀{H':Hp},(∀b∈fp,H' b=none)→∀b∈fp,qJ X dU H' b:=fun hn b hb=>⟨hn b hb,(f2 b hb).2⟩;refine codeAny_forLoop_any (fun n s'=>∃i σ' H',eW X dU σ' H' s'∧tn i s'.heap∧(∀b∈fp,H' b=none)∧W i n σ' H') ?_ m0 ⟨0,σ,H2,I2,st2,fun b hb=>(f2 b hb).1,w0⟩;rintro n s3 ⟨i,σ3,H3,I3,st3,fr3,w3⟩;rcases turn i n σ3 H3 w3 with⟨stop,qn⟩ | ⟨go,N,hN,step⟩
 ·refine wpAny_passesOwn hp (iL (T.done X rfl rfl rfl hc i dU s3 σ3 H3 X.xe I3 (stat fr3) st3 stop) fun r s4 ⟨hr,I4⟩=>?_);subst hr;exact wpAny_execs_nil ⟨σ3,H3,I4,qn⟩
 ·refine wpAny_passesOwn hp (iL (T.item X rfl rfl rfl hc i dU s3 σ3 H3 X.xe I3 (stat fr3) st3 go) fun r s4 ⟨u,hr,h4⟩=>?_);subst hr;refine wpAny_passesOwn hp (iL h4 fun _ s5 ⟨x,H5,I5,r5,y5,st5,fr5⟩=>?_);have I5':=I5.pinned (stat fr5) (T.obj _ _ st5);refine wpAny_passesOwn hp (iL (hg _ s5 σ3 H5 x u _ I5' r5 (step x H5 y5)) fun _ s6 ⟨σ6,H6,I6,q6⟩=>?_);refine wpAny_passesOwn hp (iL (hb _ s6 σ6 H6 _ I6 q6) fun f s7 q7=>?_);have again:∀{σ7:St} {H7:Hp},eW X (dU++vR fp s5.heap) σ7 H7 s7→N σ7 H7→∃m,m<n∧∃i σ' H',eW X dU σ' H' s7∧tn i s7.heap∧(∀b∈fp,H' b=none)∧W i m σ' H':=fun {σ7 H7} I7 n7=>by obtain⟨m',hm,w7⟩:=hN σ7 H7 n7;refine⟨m',hm,i+1,σ7,H7,I7.unpinned,T.keep _ _ _ st5 fun b hb o e=>(I7.pin (b,o) (bq _ (bq _ (nK hb e)))).1,fun b hb=>?_,w7⟩;obtain⟨o,e,d⟩:=T.obj _ _ st5 b hb;exact (I7.pin (b,o) (bq _ (bq _ (nK hb e)))).2.1
  cases f with
  | next=>obtain⟨σ7,H7,I7,n7⟩:=q7;exact again I7 n7
  | cont=>obtain⟨σ7,H7,I7,n7⟩:=q7;exact again I7 n7
  | brk=>obtain⟨σ7,H7,I7,q7⟩:=q7;exact⟨σ7,H7,I7.unpinned,q7⟩
  | ret v=>obtain⟨x7,σ7,H7,I7,r7,q7⟩:=q7;exact⟨x7,σ7,H7,I7.unpinned,r7,q7⟩
end
end L2
namespace L2
open PySem PySem.Spec PyProof.Rows
noncomputable abbrev R2:=V→V→Hp→VK→Prop
def oo(X:Cx)(f:Value→Value→Sem Value)(r:R2):Prop:=
 ∀(dU:List (Addr×Obj)) (s:Shared) (σ:St) (H:Hp) (x y:V) (v u:Value) (Q:VK),eW X dU σ H s→gD x v→gD y u→r x y H Q→
  wpAny (model X.prog X.w) X.A (f v u) (EP X dU σ Q) X.xe s
def Qp(X:Cx)(f:Value→Sem Value)(r:V→Hp→VK→Prop):Prop:=
 ∀(dU:List (Addr×Obj)) (s:Shared) (σ:St) (H:Hp) (x:V) (v:Value) (Q:VK),eW X dU σ H s→gD x v→r x H Q→
  wpAny (model X.prog X.w) X.A (f v) (EP X dU σ Q) X.xe s
def jz(X:Cx)(f:Value)(r:List V→Hp→VK→Prop):Prop:=
 ∀(dU:List (Addr×Obj)) (s:Shared) (σ:St) (H:Hp) (xs:List V) (us:List Value) (Q:VK),eW X dU σ H s→fP xs us→r xs H Q→
  wpAny (model X.prog X.w) X.A (call f us) (EP X dU σ Q) X.xe s
def wg(r:R2)(ta tb:TE):TE:=fun σ H Q=>ta σ H fun x H1=>tb σ H1 fun y H2=>r x y H2 Q
def Qd(r:V→Hp→VK→Prop)(ta:TE):TE:=fun σ H Q=>ta σ H fun x H1=>r x H1 Q
def rI(C:Int→Int→Prop)(g:Int→Int→V):R2:=fun x y H Q=>∃i j,x=.int i∧y=.int j∧C i j∧Q (g i j) H
def Ci(g:Int→Int→V):R2:=fun x y H Q=>∃i j,x=.int i∧y=.int j∧Q (g i j) H
noncomputable def rU(g:Int→V):V→Hp→VK→Prop:=fun x H Q=>∃i,x=.int i∧Q (g i) H
section
variable {X:Cx}{a b c:Expr}{ta tb tc:TE}{pos:Pos}
theorem Mc(ha:PE X a ta)(hb:PE X b tb){dU:List (Addr×Obj)}{s:Shared}{σ:St}{H:Hp}{R:V→V→Hp→Prop}(I:eW X dU σ H s)
  (h:ta σ H fun x H1=>tb σ H1 fun y H2=>R x y H2) {Q:Value→Shared→Prop} {f:Value→Value→Sem Value}
  (hf:∀v u s2 x y H2,eW X dU σ H2 s2→gD x v→gD y u→R x y H2→wpAny (model X.prog X.w) X.A (f v u) Q X.xe s2) :
  wpAny (model X.prog X.w) X.A (eval a X.env) (fun v s₁=>wpAny (model X.prog X.w) X.A (eval b X.env) (fun u s₂=>wpAny (model X.prog X.w) X.A (f v u) Q X.xe s₂) X.xe s₁) X.xe s:=by
 refine iL (ha dU s σ H _ I h) fun v s1 ⟨x,H1,I1,r1,q1⟩=>?_;refine iL (hb dU s1 σ H1 _ I1 q1) fun u s2 ⟨y,H2,I2,r2,q2⟩=>?_;exact hf v u s2 x y H2 I2 r1 r2 q2
theorem GR{op:Operator}{r:R2}(ho:oo X (binaryOp op) r)(ha:PE X a ta)(hb:PE X b tb):PE X (.BinOp a op b pos) (wg r ta tb):=by intro dU s σ H Q I h;exact wpAny_BinOp (Mc ha hb I h fun v u s2 x y H2 I2 rx ry q=>ho dU s2 σ H2 x y v u Q I2 rx ry q)
theorem N1{op:UnaryOp}{r:V→Hp→VK→Prop}(ho:Qp X (unaryOp op) r)(ha:PE X a ta):PE X (.UnaryOp op a pos) (Qd r ta):=by intro dU s σ H Q I h;exact UnaryOp_ (iL (ha dU s σ H _ I h) fun v s1 ⟨x,H1,I1,r1,q1⟩=>ho dU s1 σ H1 x v Q I1 r1 q1)
theorem Pv{f:Value→Value→Sem Value}{C:Int→Int→Prop}{g:Int→Int→Int}
  (rule:∀(i j:Int) (t u:Tok) (s:Shared) (Q:Value→Shared→Prop) (E:Value→Shared→Prop),C i j→Q (.int (g i j) s.toks) {s with toks:=s.toks+1}→wpAny (model X.prog X.w) X.A (f (.int i t) (.int j u)) Q E s) :
  oo X f (rI C fun i j=>.int (g i j)):=by
 intro dU s σ H x y v u Q I rx ry h;obtain⟨i,j,rfl,rfl,hc,q⟩:=h;obtain⟨t,rfl⟩:=rx;obtain⟨t',rfl⟩:=ry;exact rule i j t t' s _ _ hc ⟨.int (g i j),H,I.tok _,⟨_,rfl⟩,q⟩
theorem OR{f:Value→Value→Sem Value}{g:Int→Int→Int}
  (rule:∀(i j:Int) (t u:Tok) (s:Shared) (Q:Value→Shared→Prop) (E:Value→Shared→Prop),Q (.int (g i j) s.toks) {s with toks:=s.toks+1}→wpAny (model X.prog X.w) X.A (f (.int i t) (.int j u)) Q E s) :
  oo X f (Ci fun i j=>.int (g i j)):=by
 intro dU s σ H x y v u Q I rx ry h;obtain⟨i,j,rfl,rfl,q⟩:=h;obtain⟨t,rfl⟩:=rx;obtain⟨t',rfl⟩:=ry;exact rule i j t t' s _ _ ⟨.int (g i j),H,I.tok _,⟨_,rfl⟩,q⟩
theorem J8{f:Value→Value→Sem Value}{g:Int→Int→Bool}
  (rule:∀(i j:Int) (t u:Tok) (s:Shared) (Q:Value→Shared→Prop) (E:Value→Shared→Prop),Q (.bool (g i j)) s→wpAny (model X.prog X.w) X.A (f (.int i t) (.int j u)) Q E s) :
  oo X f (Ci fun i j=>.bl (g i j)):=by
 intro dU s σ H x y v u Q I rx ry h;obtain⟨i,j,rfl,rfl,q⟩:=h;obtain⟨t,rfl⟩:=rx;obtain⟨t',rfl⟩:=ry;exact rule i j t t' s _ _ ⟨.bl (g i j),H,I,rfl,q⟩
def OS(i j:Int):Prop:=0≤j∧j≤1000000∧i.natAbs<2 ^ 64
theorem LP:oo X (binaryOp .Add) (Ci fun i j=>.int (i+j)):=OR fun _ _ _ _ _ _ _ q=>add_int q
theorem Nv:oo X (binaryOp .Sub) (Ci fun i j=>.int (i - j)):=OR fun _ _ _ _ _ _ _ q=>sub_int q
theorem Kx:oo X (binaryOp .Mod) (rI (fun _ j=>j≠0) fun i j=>.int (i.fmod j)):=Pv fun _ _ _ _ _ _ _ hc q=>mod_int' hc q
theorem Mt:oo X (binaryOp .Pow) (rI OS fun i j=>.int (i ^ j.toNat)):=Pv fun _ _ _ _ _ _ _ hc q=>pow_int_small hc.1 hc.2.1 hc.2.2 q
theorem QF{f:Value→Sem Value}{g:Int→Int}
  (rule:∀(i:Int) (t:Tok) (s:Shared) (Q:Value→Shared→Prop) (E:Value→Shared→Prop),Q (.int (g i) s.toks) {s with toks:=s.toks+1}→wpAny (model X.prog X.w) X.A (f (.int i t)) Q E s) :
  Qp X f (rU fun i=>.int (g i)):=by
 intro dU s σ H x v Q I rx h;obtain⟨i,rfl,q⟩:=h;obtain⟨t,rfl⟩:=rx;exact rule i t s _ _ ⟨.int (g i),H,I.tok _,⟨_,rfl⟩,q⟩
theorem LG:Qp X (unaryOp .USub) (rU fun i=>.int (-i)):=QF fun _ _ _ _ _ q=>neg_int q
end
section
variable {X:Cx}{a b c:Expr}{ta tb tc:TE}{pos:Pos}
theorem G9{dU:List (Addr×Obj)}{σ:St}{H:Hp}{s:Shared}{Q:VK}{k k':Bool}(I:eW X dU σ H s)(q:Q (.bl k) H)(e:k=k'):EP X dU σ Q (.bool k') s:=by subst e;exact⟨.bl k,H,I,rfl,q⟩
theorem vj:oo X (compareOp .Lt) (Ci fun i j=>.bl (decide (i<j))):=J8 fun _ _ _ _ _ _ _ q=>lt_int q
theorem xO:oo X (compareOp .LtE) (Ci fun i j=>.bl (decide (i≤j))):=J8 fun _ _ _ _ _ _ _ q=>le_int q
theorem Ao:oo X (compareOp .Gt) (Ci fun i j=>.bl (decide (j<i))):=J8 fun _ _ _ _ _ _ _ q=>gt_int q
theorem Dh:oo X (compareOp .GtE) (Ci fun i j=>.bl (decide (j≤i))):=J8 fun _ _ _ _ _ _ _ q=>ge_int q
theorem Cq:oo X (compareOp .Is) (fun x y H Q=>y=.non∧Q (.bl (decide (x=.non))) H):=by
 intro dU s σ H x y v u Q I rx ry h;obtain⟨rfl,q⟩:=h;cases ry;refine is_none_gen (G9 I q ?_);cases x<;>first
  | (cases rx;rfl)
  | (obtain⟨t,rfl⟩:=rx;rfl)
theorem ph:oo X (compareOp .IsNot) (fun x y H Q=>y=.non∧Q (.bl (!decide (x=.non))) H):=by
 intro dU s σ H x y v u Q I rx ry h;obtain⟨rfl,q⟩:=h;cases ry;refine isnot_none_gen (G9 I q ?_);cases x<;>first
  | (cases rx;rfl)
  | (obtain⟨t,rfl⟩:=rx;rfl)
theorem rG(b:Expr){op:CmpOp}(h:op≠.In:=by decide)(h2:op≠.NotIn:=by decide):behindInMarks op b=false:=by
 have e1:(op == CmpOp.In)=false:=by cases op<;>first | rfl | exact absurd rfl h
 have e2:(op == CmpOp.NotIn)=false:=by cases op<;>first | rfl | exact absurd rfl h2
 cases b<;>simp[behindInMarks,e1,e2]
theorem Jx{op:CmpOp}{r:R2}(ho:oo X (compareOp op) r)(ha:PE X a ta)(hb:PE X b tb)(hm:behindInMarks op b=false):PE X (.Compare a [op] [b] pos) (wg r ta tb):=by intro dU s σ H Q I h;exact wpAny_Compare1 (Mc ha hb I h fun v u s2 x y H2 I2 rx ry q=>ho dU s2 σ H2 x y v u Q I2 rx ry q) hm
def zN(t:TE):TT:=fun σ H Q=>t σ H fun x H'=>∃k,x=.bl k∧Q k H'
theorem Kj{op:CmpOp}{r:R2}(ho:oo X (compareOp op) r)(ha:PE X a ta)(hb:PE X b tb)(hm:behindInMarks op b=false):PT X (.Compare a [op] [b] pos) (zN (wg r ta tb)):=by
 intro dU s σ H Q I h;refine wpAny_isTrue_Compare1 (iL (ha dU s σ H _ I h) fun v s1 ⟨x,H1,I1,r1,q1⟩=>iL (hb dU s1 σ H1 _ I1 q1) fun u s2 ⟨y,H2,I2,r2,q2⟩=>iL (ho dU s2 σ H2 x y v u _ I2 r1 r2 q2) fun c s3 ⟨z,H3,I3,r3,k,e,q3⟩=>?_) hm
 subst e;cases r3;exact wpAny_truthy_bool ⟨H3,I3,q3⟩
def Bm(r r':R2)(ta tb tc:TE):TE:=fun σ H Q=>ta σ H fun x H1=>tb σ H1 fun y H2=>r x y H2 fun z H3=>∃k,z=.bl k∧
 (if k=true then tc σ H3 fun w' H4=>r' y w' H4 Q else Q (.bl false) H3)
theorem FK{op op':CmpOp}{r r':R2}(ho:oo X (compareOp op) r)(ho':oo X (compareOp op') r')(ha:PE X a ta)(hb:PE X b tb)(hc:PE X c tc)
  (hm:lastMarks [op,op'] [b,c]=false:=by with_unfolding_all rfl):PE X (.Compare a [op,op'] [b,c] pos) (Bm r r' ta tb tc):=by
 intro dU s σ H Q I h;refine Compare_chain (iL (ha dU s σ H _ I h) fun v s1 ⟨x,H1,I1,r1,q1⟩=>chain_link (iL (hb dU s1 σ H1 _ I1 q1) fun u s2 ⟨y,H2,I2,r2,q2⟩=>iL (ho dU s2 σ H2 x y v u _ I2 r1 r2 q2) fun d s3 ⟨z,H3,I3,r3,k,e,q3⟩=>?_)) hm
 subst e;cases r3;refine wpAny_truthy_bool ?_;cases k with
 | false=>exact ite_ff ⟨.bl false,H3,I3,rfl,q3⟩
 | true=>exact ite_tt (chain_last (iL (hc dU s3 σ H3 _ I3 q3) fun w' s4 ⟨z',H4,I4,r4,q4⟩=>ho' dU s4 σ H4 y z' u w' Q I4 r2 r4 q4))
theorem vn:(sizeLine:Nat)<2 ^ 63:=by rw[sizeLine_eq];decide
theorem CH:oo X (binaryOp .Add) (fun x y H Q=>∃i j,x=.str i∧y=.str j∧i.length+j.length≤sizeLine∧Q (.str (i++j)) H):=by intro dU s σ H x y v u Q I rx ry h;obtain⟨i,j,rfl,rfl,hz,q⟩:=h;obtain⟨t,rfl⟩:=rx;obtain⟨t',rfl⟩:=ry;exact add_str (fun t' tk=>⟨.str (i++j),H,I.tok _,⟨_,rfl⟩,q⟩) hz
theorem oB{x:V}{us:List Value}(r:fP [x] us):∃u,us=[u]∧gD x u:=by
 cases r with
 | cons r1 r2=>cases r2;exact⟨_,rfl,r1⟩
theorem K9{x y:V}{us:List Value}(r:fP [x,y] us):∃u w',us=[u,w']∧gD x u∧gD y w':=by
 cases r with
 | cons r1 r2=>
  cases r2 with
  | cons r3 r4=>cases r4;exact⟨_,_,rfl,r1,r3⟩
theorem AB:jz X (.builtin "abs") (fun xs H Q=>∃i,xs=[.int i]∧Q (.int (if i<0 then -i else i)) H):=by intro dU s σ H xs us Q I r h;obtain⟨i,rfl,q⟩:=h;obtain⟨u,rfl,t,rfl⟩:=oB r;exact call_abs_int fun u tk=>⟨.int (if i<0 then -i else i),H,I.tok _,⟨_,rfl⟩,q⟩
theorem rK(hc:X.calm=true):jz X (.builtin "min") (fun xs H Q=>∃i j,xs=[.int i,.int j]∧Q (.int (if j<i then j else i)) H):=by
 intro dU s σ H xs us Q I r h;obtain⟨i,j,rfl,q⟩:=h;obtain⟨u,w',rfl,⟨t,rfl⟩,⟨t',rfl⟩⟩:=K9 r;refine min_two_ints (I.ok.hd hc) fun h' tk k=>⟨_,H,I.kept k,?_,q⟩;by_cases hj:j<i
 ·rw[aP hj,aP hj];exact⟨_,rfl⟩
 ·rw[aQ hj,aQ hj];exact⟨_,rfl⟩
def LL(K:W.Frag)(x:V)(H:Hp)(n:Nat):Prop:=
 match x with
 | .str y=>y.length≤sizeLine∧n=y.length
 | .byt y=>y.size≤sizeLine∧n=y.size
 | .ref p=>(∃xs,jI K H p xs∧n=xs.length)∨∃xs,kR K H p xs∧n=xs.length
 | _=>False
theorem Hd:jz X (.builtin "len") (fun xs H Q=>∃x n,xs=[x]∧LL X.K x H n∧Q (.int n) H):=by
 intro dU s σ H xs us Q I r h;obtain⟨x,n,rfl,e,q⟩:=h;obtain⟨u,rfl,rx⟩:=oB r;have hl:=vn;have hs:sizeLine=16777216:=sizeLine_eq;cases x with
 | str y=>obtain⟨t,rfl⟩:=rx;obtain⟨hy,e'⟩:y.length≤sizeLine∧n=y.length:=e;subst e';exact len_str (by omega) ⟨.int _,H,I.tok _,⟨_,rfl⟩,q⟩
 | byt y=>obtain⟨t,rfl⟩:=rx;obtain⟨hy,e'⟩:y.size≤sizeLine∧n=y.size:=e;subst e';exact W.len_bytes (by omega) ⟨.int _,H,I.tok _,⟨_,rfl⟩,q⟩
 | ref p=>
  cases rx;have e':(∃xs,jI X.K H p xs∧n=xs.length)∨∃xs,kR X.K H p xs∧n=xs.length:=e;rcases e' with⟨xs,hx,e'⟩ | ⟨xs,hx,e'⟩
  ·subst e';obtain⟨its,r',pl,hz⟩:=I.list hx;have jx:=r'.length;exact Calls.call_len_list pl.isList (by simp only[bu];omega) ⟨.int xs.length,H,I.tok _,⟨_,by simp only[bu];rw[jx]⟩,q⟩
  ·subst e';obtain⟨its,r',pl,hz⟩:=I.tuple hx;have jx:=r'.length;exact len_tuple pl (by simp only[bu];omega) ⟨.int xs.length,H,I.tok _,⟨_,by simp only[bu];rw[jx]⟩,q⟩
 | _=>exact (show False from e).elim
end
end L2
namespace L2
open PySem PySem.Spec PyProof.Rows
structure CF(h:Heap)(x dx C:Addr)(mA:Str→Option Value):Prop where
 obj:h.get? x=some (W.instObj C dx)
 ns:h.Ns1 dx mA
 ne:dx≠x
theorem Em{h:Heap}{dx:Addr}{mA:Str→Option Value}(n:h.Ns1 dx mA):∃od,h.get? dx=some od∧∀name,W.lookIn name od=some (mA name):=by
 obtain⟨o,es,ep,ho,hd,hk,_,hm⟩:=n;refine⟨o,ho,fun name=>?_⟩;have e:=hm name;unfold nsFind findBy at e;rw[←Array.find?_toList] at e;unfold W.lookIn;rw[hd];dsimp only;split
 ·rename_i y q;rw[q] at e;exact congrArg some e
 ·rename_i q;rw[q] at e;have a:es.toList.any (·.refKey)=false:=by rw[List.any_eq_false];intro y hy;obtain⟨z,t,hkey⟩:=hk y (Array.mem_toList_iff.mp hy);simp[DictEntry.refKey,hkey]
  have a':¬es.toList.any (·.refKey)=true:=by rw[a];exact aG
  rw[aQ a'];exact congrArg some e
theorem CF.look{h:Heap}{x dx C:Addr}{mA:Str→Option Value}(I:CF h x dx C mA):∃od,W.InstAt h x (W.instObj C dx) C (some od)∧∀name,W.lookIn name od=some (mA name):=
 let ⟨od,ho,hl⟩:=Em I.ns
 ⟨od,⟨I.obj,rfl,rfl,ho⟩,hl⟩
section
variable {prog:Program}{w:World}{A:Around}{E:Value→Shared→Prop}{s:Shared}{K:W.Frag}{x dx C f:Addr}{mA:Str→Option Value}{name:Str}{v:Value}
theorem Jf{expr:Bool}{Q:Value→Shared→Prop}(X:K.In s.heap)(I:CF s.heap x dx C mA)(hg:W.plainGet K C name=true)(hh:W.hasDictIn K C=true)
  (ha:W.findIn K (.ref C) name=some none) (hv:mA name=some v) (hv':W.handedIn v=true) (h:Q v {s with toks:=s.toks+1}) :
  wpAny (model prog w) A (getAttr (.ref x) name expr) Q E s:=by
 obtain⟨od,J,hl⟩:=I.look;exact W.get_value X J (W.plainGet_of hg).1 (W.findObj_own hh ha rfl (by rw[hl,hv])) hv' h
theorem FL{pl:Sem Bool}{Q:Value×List Value→Shared→Prop}(X:K.In s.heap)(I:CF s.heap x dx C mA)(hg:W.plainGet K C name=true)
  (hf:W.findIn K (.ref C) name=some (some (.ref f))) (ht:W.isFn K (.ref f)=true) (hv:mA name=none) (h:Q (.ref f,[.ref x]) s) :
  wpAny (model prog w) A (getMethod (.ref x) name pl) Q E s:=by
 obtain⟨od,J,hl⟩:=I.look;exact W.method_fn X J (W.plainGet_of hg).1 (W.plainGet_of hg).2 hf (beq_iff_eq.mp ht) (by show (W.lookIn name od).map (·.isSome)=some false;rw[hl,hv];rfl) h
theorem KN{ns:List Str}{Q:Unit→Shared→Prop}(X:K.In s.heap)(I:CF s.heap x dx C mA)
  (hs:W.findIn K (.ref C) "__setattr__" = some (some (.builtin "object.__setattr__"))) (hp:W.plainOver K C=true) (ht:W.takerIn K C name=some none) (hh:W.hasDictIn K C=true)
  (hw:PySem.Within mA ns) (hsz:ns.length≤sizeLine)
  (h:∀h',CF h' x dx C (fun y=>if y=name then some v else mA y)→Heap.SameBut dx s.heap h'→Q () {s with heap:=h',toks:=s.toks+2}) :
  wpAny (model prog w) A (setAttr (.ref x) name v) Q E s:=by
 obtain⟨od,J,hl⟩:=I.look;refine W.set_plain X J hs (W.osa_open (s:={s with toks:=s.toks+1}) (r:=none) X J hp ht fun b=>?_);obtain⟨cd,hc,hd'⟩:=W.any_some hh;have hx:s.heap.get? x=some ⟨.ref C,some dx,.plain,#[]⟩:=I.obj;refine ao (ak (ao (ao (wpAny_loadPart hx (ao (W.Looks.here (s:={s with toks:=s.toks+1}) (W.looks_clsIn X hc) ?_))))));rw[hd'];refine ak (a:=some dx) (ao (ak (ao ?_)));refine wpAny_nsSet1 (s:={s with toks:=s.toks+1}) I.ns fun h' hn2 hs2=>?_;obtain⟨oD,esD,epD,hoD,hdD,hcD⟩:=hn2.count (PySem.Within.cons name v hw);refine ao (wpAny_lookBehind hoD (by rw[hdD];exact pastItsLine_dict (aM hcD (by rw[ay];omega))) ?_);exact ak (h _ ⟨(hs2.2 _ (Ne.symm I.ne)).trans I.obj,hn2,I.ne⟩ hs2)
theorem ID{R:Result→Shared→Prop}{vs:List Value}{kw:List (Str×Value)}(X:K.In s.heap)(hm:W.makesIn K C=true)
  (hi:W.findIn K (.ref C) "__init__" = some (some (.ref f))) (hf:W.typeIn K (.ref f)=some (.type "function"))
  (h:codeAny (model prog w) (A.under (.builtin "type.__call__" ⟨.ref C::vs,kw⟩)) (.call (.ref f) ⟨.ref (s.heap.objs.size+1)::vs,kw⟩) (W.InitBack (s.heap.objs.size+1) R)
   {s with heap:=(s.heap.push W.emptyDict).push (W.instObj C s.heap.objs.size)}) :
  codeAny (model prog w) A (.call (.ref C) ⟨vs,kw⟩) R s:=by
 obtain⟨hh,g,d,t,os⟩:=s;exact W.make_core (W.makes_of X hm) (W.looks_findIn X hi) (fun self=>W.bind_fn X self hf) (.inl rfl) h
end
noncomputable def nO(f:Str)(v:V):List (Str×V)→List (Str×V)
 | []=>[(f,v)]
 | (g,x)::r=>if g=f then (g,v)::r else (g,x)::nO f v r
theorem tf(f g:Str)(v:V):∀fs:List (Str×V),(nO f v fs).lookup g=if g=f then some v else fs.lookup g
 | []=>by
  show List.lookup g [(f,v)]=_;by_cases h:g=f
  ·have hb:(g == f)=true:=beq_iff_eq.mpr h;simp only[List.lookup,hb,aP h]
  ·have hb:(g == f)=false:=beq_eq_false_iff_ne.mpr h;simp only[List.lookup,hb,aQ h]
 | (k,x)::r=>by
  have ih:=tf f g v r;rw[show nO f v ((k,x)::r)=(if k=f then (k,v)::r else (k,x)::nO f v r) from rfl];by_cases hk:k=f
  ·rw[aP hk];by_cases h:g=k
   ·have hb:(g == k)=true:=beq_iff_eq.mpr h;simp only[List.lookup,hb,aP (h.trans hk)]
   ·have hb:(g == k)=false:=beq_eq_false_iff_ne.mpr h;simp only[List.lookup,hb,aQ (fun e:g=f=>h (e.trans hk.symm))]
  ·rw[aQ hk];by_cases h:g=k
   ·have hb:(g == k)=true:=beq_iff_eq.mpr h;simp only[List.lookup,hb,aQ (fun e:g=f=>hk (h.symm.trans e))]
   ·have hb:(g == k)=false:=beq_eq_false_iff_ne.mpr h;simp only[List.lookup,hb];exact ih
theorem rP(f:Str)(v:V):∀fs:List (Str×V),f∈(nO f v fs).map (·.1)∧∀g,g∈fs.map (·.1)→g∈(nO f v fs).map (·.1)
 | []=>⟨by simp[nO],fun g h=>by simp at h⟩
 | (k,x)::r=>by
  obtain⟨i1,i2⟩:=rP f v r;rw[show nO f v ((k,x)::r)=(if k=f then (k,v)::r else (k,x)::nO f v r) from rfl];by_cases hk:k=f
  ·rw[aP hk];subst hk;exact⟨by simp,fun g h=>by simpa using h⟩
  ·rw[aQ hk];refine⟨?_,fun g h=>?_⟩
   ·rw[bx];exact bg _ i1
   ·rw[bx] at h ⊢;rcases aE.mp h with e | e
    ·exact aE.mpr (.inl e)
    ·exact bg _ (i2 g e)
theorem sW(f:Str)(v:V):∀fs:List (Str×V),(nO f v fs).length≤fs.length+1
 | []=>by simp[nO]
 | (k,x)::r=>by
  have ih:=sW f v r;rw[show nO f v ((k,x)::r)=(if k=f then (k,v)::r else (k,x)::nO f v r) from rfl];by_cases hk:k=f
  ·rw[aP hk,ay,ay];omega
  ·rw[aQ hk,ay,ay];omega
theorem rX.some_of{v:V}{o:Option Value}(r:rX (some v) o):∃u,o=some u∧gD v u:=by
 cases o with
 | none=>exact (show False from r).elim
 | some u=>exact⟨u,rfl,r⟩
theorem rX.none_of{o:Option Value}(r:rX none o):o=none:=by
 cases o with
 | none=>rfl
 | some u=>exact (show False from r).elim
theorem EA{v:V}{u:Value}(r:gD v u):W.handedIn u=true:=by
 cases v with
 | non=>cases (show u=Value.none from r);rfl
 | bl b=>cases (show u=Value.bool b from r);rfl
 | int i=>obtain⟨t,e⟩:=(show ∃t,u=Value.int i t from r);cases e;rfl
 | str x=>obtain⟨t,e⟩:=(show ∃t,u=Value.str x t from r);cases e;rfl
 | byt b=>obtain⟨t,e⟩:=(show ∃t,u=Value.bytes b t from r);cases e;rfl
 | flt b=>obtain⟨t,e⟩:=(show ∃t,u=Value.float b t from r);cases e;rfl
 | ref a=>cases (show u=Value.ref a from r);rfl
 | ty n=>cases (show u=Value.type n from r);rfl
section
variable {P:Program}{w:World}{H H':Hp}{h h':Heap}{a C dx:Addr}{fs fs':List (Str×V)}
theorem uy(hok:pG P w H h)(e:H a=some (.ins C dx fs)):∃mA,CF h a dx C mA∧(∀f,rX (fs.lookup f) (mA f))∧PySem.Within mA (fs.map (·.1))∧fs.length≤1000∧H dx=some (.own a):=by obtain⟨d,z,ne,ob,mA,n,r,q⟩:=(show gS P w H h a (.ins C dx fs) from hok a _ e);exact⟨mA,⟨ob,n,ne⟩,r,q,z,d⟩
end
structure Ae(K:W.Frag)(C:Addr):Prop where
 pg:W.plainGet K C Str.empty=true
 hd:W.hasDictIn K C=true
 po:W.plainOver K C=true
 sa:W.findIn K (.ref C) "__setattr__" = some (some (.builtin "object.__setattr__"))
theorem Ae.get{K:W.Frag}{C:Addr}(c:Ae K C)(f:Str):W.plainGet K C f=true:=c.pg
def lq(K:W.Frag)(C:Addr)(f:Str):Prop:=W.findIn K (.ref C) f=some none
theorem lq.taker{K:W.Frag}{C:Addr}{f:Str}(n:lq K C f):W.takerIn K C f=some none:=by unfold W.takerIn;rw[show W.findIn K (.ref C) f=some none from n];rfl
structure Ja(K:W.Frag)(C:Addr)(m:Str)(f:Addr):Prop where
 at_:W.findIn K (.ref C) m=some (some (.ref f))
 fn:W.isFn K (.ref f)=true
 kp:W.keepIn K (.ref f)=true
section
variable {X:Cx}{dU:List (Addr×Obj)}{σ:St}{H:Hp}{s:Shared}{a C dx:Addr}{fs:List (Str×V)}{f:Str}{v:V}{A:Around}{E:Value→Shared→Prop}
theorem CK{b:Bool}{Q:Value→Shared→Prop}(I:eW X dU σ H s)(e:H a=some (.ins C dx fs))(c:Ae X.K C)(n:lq X.K C f)(l:fs.lookup f=some v)
  (h:∀u s',eW X dU σ H s'→gD v u→Q u s'):wpAny (model X.prog X.w) A (getAttr (.ref a) f b) Q E s:=by
 obtain⟨mA,O,r,_,_,_⟩:=uy I.hok e;obtain⟨u,hu,ru⟩:=rX.some_of (v:=v) (o:=mA f) (by rw[←l];exact r f);exact Jf I.kIn O (c.get f) c.hd n hu (EA ru) (h u _ (I.tok _) ru)
theorem B8{m:Str}{g:Addr}{pl:Sem Bool}{Q:Value×List Value→Shared→Prop}(I:eW X dU σ H s)(e:H a=some (.ins C dx fs))(c:Ae X.K C)(k:Ja X.K C m g)(l:fs.lookup m=none)
  (h:Q (.ref g,[.ref a]) s):wpAny (model X.prog X.w) A (getMethod (.ref a) m pl) Q E s:=by
 obtain⟨mA,O,r,_,_,_⟩:=uy I.hok e;have hn:mA m=none:=rX.none_of (by rw[←l];exact r m);exact FL I.kIn O (c.get m) k.at_ k.fn hn h
theorem Cr{y:V}{u:Value}{Q:Unit→Shared→Prop}(I:eW X dU σ H s)(e:H a=some (.ins C dx fs))(c:Ae X.K C)(n:lq X.K C f)(hl:fs.length<1000)(ry:gD y u)
  (h:∀s',eW X dU σ (ij H a (.ins C dx (nO f y fs))) s'→Q () s'):wpAny (model X.prog X.w) A (setAttr (.ref a) f u) Q E s:=by
 obtain⟨mA,O,r,wi,_,ho⟩:=uy I.hok e;have hz:(fs.map (·.1)).length≤sizeLine:=by rw[aw,sizeLine_eq];omega
 refine KN I.kIn O c.sa c.po n.taker c.hd wi hz fun h' O' sb=>h _ ?_;have hd:∃o,h'.get? dx=some o:=let ⟨o,_,_,e',_⟩:=O'.ns;⟨o,e'⟩;refine I.write (x:=a) (e:=dx) (by rw[e];exact True.intro) (.inr ho) (fun b q hb z=>(sb.2 b hb).trans z) hd ?_;refine⟨by rw[eO O.ne];exact ho,?_,O.ne,O'.obj,_,O'.ns,fun g=>?_,fun g hg=>?_⟩
 ·have:=sW f y fs;omega
 ·show rX ((nO f y fs).lookup g) (if g=f then some u else mA g);rw[tf];by_cases q:g=f
  ·rw[aP q,aP q];exact ry
  ·rw[aQ q,aQ q];exact r g
 ·by_cases q:g=f
  ·rw[q];exact (rP f y fs).1
  ·refine (rP f y fs).2 g (wi g fun z=>hg ?_);show (if g=f then some u else mA g)=none;rw[aQ q];exact z
theorem eW.made(I:eW X dU σ H s):eW X dU σ (ij (ij H s.heap.objs.size (.own (s.heap.objs.size+1))) (s.heap.objs.size+1) (.ins C s.heap.objs.size []))
  {s with heap:=(s.heap.push W.emptyDict).push (W.instObj C s.heap.objs.size)}:=by
 have e1:(s.heap.push W.emptyDict).get? s.heap.objs.size=some W.emptyDict:=ar s.heap rfl;have e2:((s.heap.push W.emptyDict).push (W.instObj C s.heap.objs.size)).get? (s.heap.objs.size+1)=some (W.instObj C s.heap.objs.size):=by have:=ar (s.heap.push W.emptyDict) (o:=W.instObj C s.heap.objs.size) rfl;rwa [Heap.size_push] at this
 have e3:(s.heap.push W.emptyDict).Ns s.heap.objs.size (fun _=>none):=⟨W.emptyDict,#[],_,e1,rfl,(fun e he=>absurd he (by simp)),fun _=>rfl⟩;have I1:=I.laid (a:=s.heap.objs.size) (o:=.own (s.heap.objs.size+1)) (h':=s.heap.push W.emptyDict) (t':=s.toks) (fun b u q=>ae _ q) (aJ _) ⟨_,e1⟩;refine I1.laid (a:=s.heap.objs.size+1) (o:=.ins C s.heap.objs.size []) (t':=s.toks) (fun b u q=>ae _ q) (Nat.le_of_eq (Heap.size_push _ _)) ?_;have ne:s.heap.objs.size≠s.heap.objs.size+1:=aL (bz _);refine⟨by rw[eO ne,eP],bA _,ne,e2,fun _=>none,(Heap.Ns1.of_empty e3).at fun o q=>ae _ q,fun _=>True.intro,fun y hy=>absurd rfl hy⟩
theorem Jw{prog:Program}{w:World}{env:Env}{e:Expr}{f:Str}{pos:Pos}{s:Shared}{Q:Value→Shared→Prop}(hb:attributeBase e f env (eval e env)=eval e env)
  (h:wpAny (model prog w) A (eval e env) (fun o s₁=>wpAny (model prog w) A (getAttr o f true) Q E s₁) E s):wpAny (model prog w) A (eval (.Attribute e f pos) env) Q E s:=
 Attribute_any_ h (by rw[arm_eval_Attribute,hb])
end
def Lz(K:W.Frag)(ta:TE)(f:Str):TE:=fun σ H Q=>ta σ H fun x H1=>∃a C dx fs v,x=.ref a∧H1 a=some (.ins C dx fs)∧Ae K C∧lq K C f∧fs.lookup f=some v∧Q v H1
noncomputable def Mw(K:W.Frag)(ta tv:TE)(f:Str):TS:=fun D σ H=>tv σ H fun y H1=>ta σ H1 fun x H2=>∃a C dx fs,x=.ref a∧H2 a=some (.ins C dx fs)∧Ae K C∧lq K C f∧fs.length<1000∧
 D.nx σ (ij H2 a (.ins C dx (nO f y fs)))
section
variable {X:Cx}{o e value:Expr}{f:Str}{pos pos' tpos:Pos}{ta tv:TE}
theorem LU(he:PE X e ta)(hb:attributeBase e f X.env (eval e X.env)=eval e X.env):PE X (.Attribute e f pos) (Lz X.K ta f):=by intro dU s σ H Q I h;refine Jw hb (iL (he dU s σ H _ I h) fun u s1 ⟨x,H1,I1,rx,a,C,dx,fs,v,ex,ea,c,n,l,q⟩=>?_);subst ex;obtain rfl:u=Value.ref a:=rx;exact CK I1 ea c n l fun u' s2 I2 ru=>⟨v,H1,I2,ru,q⟩
theorem F9(ha:PE X o ta)(hv:PE X value tv)(hs:swapsWith value (some (.Attribute o f pos')) pos.line X.env=pure false):PS X (.Assign [.Attribute o f pos'] value pos) (Mw X.K ta tv f):=by intro dU s σ H D I h;refine plainObj_wpAny_Assign_Attribute (iL (hv dU s σ H _ I h) fun u s1 ⟨y,H1,I1,ry,q⟩=>iL (ha dU s1 σ H1 _ I1 q) fun ov s2 ⟨x,H2,I2,rx,a,C,dx,fs,ex,ea,c,n,l,q2⟩=>?_) hs;subst ex;obtain rfl:ov=Value.ref a:=rx;exact Cr I2 ea c n l ry fun s3 I3=>⟨σ,_,I3,q2⟩
end
section
variable {X:Cx}{dU:List (Addr×Obj)}{σ:St}{H:Hp}{s:Shared}{A:Around}{E:Value→Shared→Prop}{Q:Value→Shared→Prop}{c:Value}{b:Bool}
inductive oJ(K:W.Frag)(H:Hp):V→Value→Prop where
 | non:oJ K H .non (.type "NoneType")
 | bl (x:Bool):oJ K H (.bl x) (.type "bool")
 | int (i:Int):oJ K H (.int i) (.type "int")
 | str (x:Str):oJ K H (.str x) (.type "str")
 | flt (x:UInt64):oJ K H (.flt x) (.type "float")
 | lst {a:Addr} {xs:List V} (e:H a=some (.lst xs)):oJ K H (.ref a) (.type "list")
 | frz {a:Addr} {o:Obj} {xs:List V} (e:H a=some (.frz o (.lst xs))):oJ K H (.ref a) (.type "list")
 | tup {a:Addr} {xs:List V} (e:H a=some (.tup xs)):oJ K H (.ref a) (.type "tuple")
 | dK {a:Addr} {kvs:List (kr×V)} (e:H a=some (.dK kvs)):oJ K H (.ref a) (.type "dict")
 | dT {a:Addr} {kvs:List (List kr×V)} (e:H a=some (.dT kvs)):oJ K H (.ref a) (.type "dict")
 | ins {a C dx:Addr} {fs:List (Str×V)} (e:H a=some (.ins C dx fs)) (cl:Ae K C) (ha:W.findIn K (.ref C) "__class__" = some (some (.builtin "object.__class__")))
   (hn:W.specialIn K (.builtin "object.__class__") "__get__" = some (some (.builtin "getset_descriptor.__get__"))) (htk:W.takesIn K (.builtin "object.__class__")=some true)
   (hm:W.mroIn K C (.type "object")=some true):oJ K H (.ref a) (.ref C)
theorem EO{x:V}{u t:Value}(I:eW X dU σ H s)(rx:gD x u)(ty:oJ X.K H x t)(e:W.kitOne X.K t c=some b)(h:∀tk,Q (.bool b) {s with toks:=tk}) :
  wpAny (model X.prog X.w) A (call (.builtin "isinstance") [u,c]) Q E s:=by
 cases ty with
 | non=>cases (show u=Value.none from rx);exact W.kia_one W.kitx_none I.kIn True.intro e (fun z=>nomatch z) h
 | bl y=>cases (show u=Value.bool y from rx);exact W.kia_one W.kitx_bool I.kIn True.intro e (fun z=>nomatch z) h
 | int i=>obtain⟨t,q⟩:=(show ∃t,u=Value.int i t from rx);cases q;exact W.kia_one W.kitx_int I.kIn True.intro e (fun z=>nomatch z) h
 | str y=>obtain⟨t,q⟩:=(show ∃t,u=Value.str y t from rx);cases q;exact W.kia_one W.kitx_str I.kIn True.intro e (fun z=>nomatch z) h
 | flt y=>obtain⟨t,q⟩:=(show ∃t,u=Value.float y t from rx);cases q;exact W.kia_one W.kitx_float I.kIn True.intro e (fun z=>nomatch z) h
 | @lst a xs ea=>cases (show u=Value.ref a from rx);obtain⟨_,_,n,_,h1⟩:=(show gS X.prog X.w H s.heap a (.lst xs) from I.hok a _ ea);exact W.kia_one W.kitx_list I.kIn ⟨_,h1,rfl⟩ e (fun z=>nomatch z) h
 | @frz a ob xs ea=>cases (show u=Value.ref a from rx);obtain⟨_,_,_,n,_,h1⟩:=(show gS X.prog X.w H s.heap a (.frz ob (.lst xs)) from I.hok a _ ea);exact W.kia_one W.kitx_list I.kIn ⟨_,h1,rfl⟩ e (fun z=>nomatch z) h
 | @tup a xs ea=>cases (show u=Value.ref a from rx);obtain⟨_,_,_,p⟩:=(show gS X.prog X.w H s.heap a (.tup xs) from I.hok a _ ea);obtain⟨o,h1,h2,_⟩:=p;exact W.kia_one W.kitx_tuple I.kIn ⟨o,h1,h2⟩ e (fun z=>nomatch z) h
 | @dK a kvs ea=>cases (show u=Value.ref a from rx);obtain⟨_,_,vs,_,p⟩:=(show gS X.prog X.w H s.heap a (.dK kvs) from I.hok a _ ea);obtain⟨o,es,ep,h1,h2,_⟩:=p;exact W.kia_one W.kitx_dict I.kIn ⟨o,h1,h2.1⟩ e (fun z=>nomatch z) h
 | @dT a kvs ea=>cases (show u=Value.ref a from rx);obtain⟨_,_,xs,_,o,es,ep,h1,h2,_⟩:=(show gS X.prog X.w H s.heap a (.dT kvs) from I.hok a _ ea);exact W.kia_one W.kitx_dict I.kIn ⟨o,h1,h2.1⟩ e (fun z=>nomatch z) h
 | @ins a C dx fs ea cl ha hn htk hm=>cases (show u=Value.ref a from rx);obtain⟨mA,O,_⟩:=uy I.hok ea;obtain⟨od,J,_⟩:=O.look;exact W.kia_one (W.kitx_own (cl.get _) cl.hd ha hn htk hm) I.kIn J e (fun z=>nomatch z) h
end
end L2
namespace L2
open PySem PySem.Spec PyProof.Rows
structure hV(k:Nat)(A:Around):Prop where
 hd:A.handled=none
 dp:A.depth+3*k+5<recursionLimit
 un:A.units+16*k+200<cLine
theorem hV.mono{j k:Nat}{A:Around}(r:hV k A)(h:j≤k):hV j A:=⟨r.hd,by have:=r.dp;omega,by have:=r.un;omega⟩
theorem hV.deeper{k:Nat}{A:Around}(r:hV (k+1) A)(env:Env):hV k (A.deeper env):=⟨r.hd,by have:=r.dp;show A.depth+1+3*k+5<_;omega,by have:=r.un;show A.units+3+16*k+200<_;omega⟩
theorem Bj{A:Around}{C:Addr}{us:List Value}{kw:List (Str×Value)}:(A.under (.builtin "type.__call__" ⟨.ref C::us,kw⟩)).depth=A.depth+1:=by first | rfl | simp[Around.under,Code.weight,Code.isCreation,Code.isGuard,Code.isCaller,Code.frames,Code.isFrame,guardIds]
theorem Cj{A:Around}{C:Addr}{us:List Value}{kw:List (Str×Value)}:(A.under (.builtin "type.__call__" ⟨.ref C::us,kw⟩)).units=A.units+1:=by first | rfl | simp[Around.under,Code.cUnits,Code.frames,Code.isFrame]
theorem hV.make{k:Nat}{A:Around}(r:hV (k+1) A)(C:Addr)(us:List Value)(kw:List (Str×Value)):hV k (A.under (.builtin "type.__call__" ⟨.ref C::us,kw⟩)):=⟨r.hd,by have:=r.dp;rw[Bj];omega,by have:=r.un;rw[Cj];omega⟩
theorem hV.depth{k:Nat}{A:Around}(r:hV k A):A.depth<recursionLimit:=by have:=r.dp;omega
theorem hV.units{k:Nat}{A:Around}(r:hV k A):A.units+64<cLine:=by have:=r.un;omega
def tW:TA:=fun _ H Q=>Q [] H
def pX(ta:TE)(tr:TA):TA:=fun σ H Q=>ta σ H fun x H1=>tr σ H1 fun xs H2=>Q (x::xs) H2
section
variable {X:Cx}{e:Expr}{es:List Expr}{te:TE}{t:TA}{pos:Pos}
theorem rO:PA X [] tW:=fun _ _ _ _ H Q I h=>Calls.spliced_nil ⟨[],H,I,.nil,h⟩
theorem nL(ha:PE X e te)(hr:PA X es t)(hs:starEach (e::es) X.env=(false,eval e X.env)::starEach es X.env:=by rfl):PA X (e::es) (pX te t):=by intro pos dU s σ H Q I h;rw[hs];show wpAny _ _ (spliced ((false,eval e X.env)::backTo pos (starEach es X.env))) _ _ s;refine Calls.spliced_cons (iL (ha dU s σ H _ I h) fun u s1 ⟨x,H1,I1,r1,q1⟩=>?_);exact iL (hr pos dU s1 σ H1 _ I1 q1) fun us s2 ⟨xs,H2,I2,r2,q2⟩=>⟨x::xs,H2,I2,.cons r1 r2,q2⟩
def Ln(t:TA):TE:=fun σ H Q=>t σ H fun xs H1=>xs.length≤sizeLine∧∀p,H1 p=none→Q (.ref p) (ij H1 p (.tup xs))
def Mx(t:TA):TE:=fun σ H Q=>t σ H fun xs H1=>xs.length≤sizeLine∧∀p,H1 p=none→Q (.ref p) (ij H1 p (.lst xs))
theorem Mp{x1}(h:PA X es t):PE X (.Tuple es x1 pos) (Ln t):=by intro dU s σ H Q I hq;refine wpAny_Tuple_spliced (iL (h pos dU s σ H _ I hq) fun us s1 ⟨xs,H1,I1,r,z,q⟩=>⟨by rw[←r.length];exact z,?_⟩);have hf:H1 s1.heap.objs.size=none:=I1.hok.fresh (aJ _);refine⟨.ref s1.heap.objs.size,ij H1 s1.heap.objs.size (.tup xs),I1.laid (t':=s1.toks) (fun b u e=>ae _ e) (aJ _) ?_,rfl,q _ hf⟩;exact⟨z,us,r,⟨_,ar _ rfl,rfl,_,rfl⟩⟩
theorem M6(h:PA X es t):PE X (.List es pos) (Mx t):=by intro dU s σ H Q I hq;refine wpAny_List_spliced (iL (h pos dU s σ H _ I hq) fun us s1 ⟨xs,H1,I1,r,z,q⟩=>⟨by rw[←r.length];exact z,?_⟩);have hf:H1 s1.heap.objs.size=none:=I1.hok.fresh (aJ _);refine⟨.ref s1.heap.objs.size,ij H1 s1.heap.objs.size (.lst xs),I1.laid (t':=s1.toks) (fun b u e=>ae _ e) (aJ _) ?_,rfl,q _ hf⟩;exact⟨z,us,0,r,ar _ rfl⟩
end
noncomputable abbrev Sp:=List V→Hp→VK→XK→Prop
noncomputable abbrev Fd:=List Env→Hp→Shared→XK→Value→Shared→Prop
structure Bp(P:Program)(w:World)(K:W.Frag)(mg:Str→Option Value)(base:Heap)(A:Around)(outer:List Env)(s:Shared)(H:Hp):Prop where
 frames:A.frames=some outer
 mod:Mod K mg base
 bs:∀b o,base.get? b=some o→s.heap.get? b=some o∧H b=none
 bsz:base.objs.size≤s.heap.objs.size
 funs:s.heap.FunFrames base outer
 frf:∀b∈Fw outer,H b=none
 hok:pG P w H s.heap
 bare:AllBare s.gens
def CE(outer:List Env)(P:Program)(w:World)(H:Hp)(s:Shared)(Q:VK)(u:Value)(s':Shared):Prop:=∃v H',s'.os=s.os∧AllBare s'.gens∧Un (Fw outer) [] H H' s.heap s'.heap∧pG P w H' s'.heap∧gD v u∧Q v H'
def CR(CX:Fd)(outer:List Env)(P:Program)(w:World)(H:Hp)(s:Shared)(Q:VK)(E:XK)(r:Result)(s':Shared):Prop:=
 match r with
 | .ok (.ret u)=>CE outer P w H s Q u s'
 | .ok _=>False
 | .error e=>CX outer H s E e s'
structure mC(P:Program)(w:World)(K:W.Frag)(mg:Str→Option Value)(base:Heap)(CX:Fd)(k:Nat)(f:Addr)(fd:FuncData)(ps:List Str)(sp:Sp):Prop where
 len:∀vs H Q E,sp vs H Q E→vs.length=ps.length
 run:∀(A:Around) (outer:List Env) (s:Shared) (H:Hp) (args:Args) (us:List Value) (vs:List V) (Q:VK) (E:XK),hV k A→Bp P w K mg base A outer s H→BindsTo s fd args (ps.zip us)→fP vs us→sp vs H Q E→
  codeAny (model P w) A (.call (.ref f) args) (CR CX outer P w H s Q E) s
theorem mC.mono{P:Program}{w:World}{K:W.Frag}{mg:Str→Option Value}{base:Heap}{CX:Fd}{j k:Nat}{f:Addr}{fd:FuncData}{ps:List Str}{sp:Sp}(F:mC P w K mg base CX j f fd ps sp)(h:j≤k) :
  mC P w K mg base CX k f fd ps sp:=⟨F.len,fun A outer s H args us vs Q E hr=>F.run A outer s H args us vs Q E (hr.mono h)⟩
theorem mC.imp{P:Program}{w:World}{K:W.Frag}{mg:Str→Option Value}{base:Heap}{CX:Fd}{k:Nat}{f:Addr}{fd:FuncData}{ps:List Str}{sp sp':Sp}(F:mC P w K mg base CX k f fd ps sp)
  (h:∀vs H Q E,sp' vs H Q E→sp vs H Q E):mC P w K mg base CX k f fd ps sp':=
 ⟨fun vs H Q E q=>F.len vs H Q E (h _ _ _ _ q),fun A outer s H args us vs Q E hr he hb hv hs=>F.run A outer s H args us vs Q E hr he hb hv (h _ _ _ _ hs)⟩
theorem Bp.make{P:Program}{w:World}{K:W.Frag}{mg:Str→Option Value}{base:Heap}{A:Around}{outer:List Env}{s:Shared}{H:Hp}(e:Bp P w K mg base A outer s H)(C:Addr)(us:List Value)(kw:List (Str×Value)) :
  Bp P w K mg base (A.under (.builtin "type.__call__" ⟨.ref C::us,kw⟩)) outer s H:=⟨by first | exact e.frames | (simpa[Around.under,Code.envs,Code.isFrame,pushEnvs] using e.frames),e.mod,e.bs,e.bsz,e.funs,e.frf,e.hok,e.bare⟩
section
variable {X:Cx}{dU:List (Addr×Obj)}{σ:St}{H:Hp}{s s':Shared}
theorem eW.env0(I:eW X dU σ H s):Bp X.prog X.w X.K X.mg X.base X.A X.stack s H:=⟨I.ok.frames,I.ok.mod,I.bs,aM I.ok.bsz I.sz,I.stack,I.stkFree,I.hok,I.bare⟩
theorem eW.after{Q:VK}{u:Value}(I:eW X dU σ H s)(h:CE X.stack X.prog X.w H s Q u s'):EP X dU σ Q u s':=by obtain⟨v,H',os,bare,un,hok,r,q⟩:=h;obtain⟨hh,g,d,t,os'⟩:=s';obtain rfl:os'=s.os:=os;exact⟨v,H',I.call (h':=hh) (g':=g) (d':=d) (t':=t) (ch:=[]) un hok bare (fun b z=>absurd z (by simp)),r,q⟩
end
def xv(sp:Sp)(dvs:List V)(E:XK)(t:TA):TE:=fun σ H Q=>t σ H fun vs H1=>sp (vs++dvs) H1 Q E
def xQ(C:Addr)(m:Str)(sp:Sp)(dvs:List V)(E:XK)(ta:TE)(t:TA):TE:=fun σ H Q=>ta σ H fun x H1=>∃a dx fs,x=.ref a∧H1 a=some (.ins C dx fs)∧fs.lookup m=none∧
 t σ H1 fun vs H2=>sp (x::(vs++dvs)) H2 Q E
def DI(C:Addr)(sp:Sp)(dvs:List V)(E:XK)(t:TA):TE:=fun σ H Q=>t σ H fun vs H1=>∀x dx,H1 x=none→H1 dx=none→dx≠x→
 sp (.ref x::(vs++dvs)) (ij (ij H1 dx (.own x)) x (.ins C dx [])) (fun v H2=>v=.non∧Q (.ref x) H2) E
def oC(K:W.Frag)(fd:FuncData)(ps:List Str)(ds:List Value):Prop:=∀(s:Shared) (us:List Value),K.In s.heap→(us++ds).length=ps.length→BindsTo s fd ⟨us,[]⟩ (ps.zip (us++ds))
theorem oC.all{K:W.Frag}{fd:FuncData}{ps:List Str}(h:∀us:List Value,us.length=ps.length→bindArgs fd ⟨us,[]⟩=pure (ps.zip us)):oC K fd ps []:=fun s us _ hl=>by rw[bB] at hl ⊢;exact .of_eq (h us hl)
def sA(CX:Fd)(X:Cx)(E:XK):Prop:=∀(dU:List (Addr×Obj)) (σ:St) (H:Hp) (s:Shared) (e:Value) (s':Shared),eW X dU σ H s→CX X.stack H s E e s'→X.xe e s'
section
variable {X:Cx}{CX:Fd}{k:Nat}{f C:Addr}{fd:FuncData}{ps:List Str}{sp:Sp}{dvs:List V}{ds:List Value}{E:XK}{x m:Str}{p pos apos:Pos}{e o:Expr}{es:List Expr}{ta:TE}{t:TA}
theorem Hb{dU:List (Addr×Obj)}{σ:St}{H:Hp}{s:Shared}{Q:VK}{us:List Value}{vs:List V}(F:mC X.prog X.w X.K X.mg X.base CX k f fd ps sp)(hr:hV k X.A)(hb:oC X.K fd ps ds)(hd:fP dvs ds)(hx:sA CX X E)
  (I:eW X dU σ H s) (r:fP vs us) (h:sp (vs++dvs) H Q E):wpAny (model X.prog X.w) X.A (call (.ref f) us) (EP X dU σ Q) X.xe s:=by
 have r2:fP (vs++dvs) (us++ds):=r.append hd;have hl:(us++ds).length=ps.length:=by rw[←r2.length];exact F.len _ _ _ _ h
 refine wpAny_call (codeAny_mono (F.run X.A X.stack s H ⟨us,[]⟩ (us++ds) (vs++dvs) Q E hr I.env0 (hb s us I.kIn hl) r2 h) fun r s' hq=>?_);cases r with
 | error e=>exact hx dU σ H s e s' I hq
 | ok fl=>
  cases fl with
  | ret u=>exact I.after hq
  | next=>exact False.elim hq
  | brk=>exact False.elim hq
  | cont=>exact False.elim hq
theorem IX(F:mC X.prog X.w X.K X.mg X.base CX k f fd ps sp)(hr:hV k X.A)(hg:Gl X x)(hm:X.mg x=some (.ref f))(hk:W.keepIn X.K (.ref f)=true)(hb:oC X.K fd ps ds)(hd:fP dvs ds)(hx:sA CX X E)
  (ha:PA X (e::es) t) (hdb:(x == ("__debug__" : Str))=false:=by decide) (he:starEach (e::es) X.env=(false,eval e X.env)::starEach es X.env:=by rfl) (hpl:(backTo pos (starEach es X.env)).any (·.1)=false:=by rfl) :
  PE X (.Call (.Name x p) (e::es) [] pos) (xv sp dvs E t):=by
 intro dU s σ H Q I h;refine wpAny_Call_Name_kw (zu I hg hm ?_ hdb);refine W.callWith_K (h₀:=X.base) I.ok.mod.kin hk (iL (ha pos dU s σ H _ I h) fun us s1 ⟨vs,H1,I1,r,q⟩=>⟨I1.kIn,?_⟩) he hpl;exact Hb F hr hb hd hx I1 r q
theorem HY{pl:Sem Bool}(he:PE X o ta)(c:Ae X.K C)(hm:Ja X.K C m f)(F:mC X.prog X.w X.K X.mg X.base CX k f fd ps sp)(hr:hV k X.A)(hb:oC X.K fd ps ds)(hd:fP dvs ds)(hx:sA CX X E)
  (ht:eval (.Call (.Attribute o m apos) [] [] pos) X.env=(do
   let ov ←eval o X.env
   standAt apos.atName
   let (f,first) ←holding [ov] (getMethod ov m pl)
   callWith pos f first (backTo pos (starEach [] X.env)) (backToKw pos (keywordEach [] X.env))):=by rfl) :
  PE X (.Call (.Attribute o m apos) [] [] pos) (xQ C m sp dvs E ta tW):=by
 intro dU s σ H Q I h;refine W.methodCall_KW (pl:=pl) (iL (he dU s σ H _ I h) fun u s1 ⟨x,H1,I1,rx,a,dx,fs,ex,ea,l,q⟩=>?_) ht;subst ex;obtain rfl:u=Value.ref a:=rx;refine B8 I1 ea c hm l ?_;exact W.callWith_K0 (first:=[.ref a]) I1.kIn hm.kp (Hb (us:=[.ref a]) (vs:=[.ref a]) F hr hb hd hx I1 (.cons rfl .nil) q)
structure Mk(K:W.Frag)(C f:Addr):Prop where
 makes:W.makesIn K C=true
 init:W.findIn K (.ref C) "__init__" = some (some (.ref f))
 fn:W.isFn K (.ref f)=true
 kp:W.keepIn K (.ref C)=true
theorem Gj{dU:List (Addr×Obj)}{σ:St}{H:Hp}{s:Shared}{Q:VK}{us:List Value}{vs:List V}(M:Mk X.K C f)(F:mC X.prog X.w X.K X.mg X.base CX k f fd ps sp)(hr:hV (k+1) X.A)(hb:oC X.K fd ps ds)(hd:fP dvs ds)
  (hx:sA CX X E) (I:eW X dU σ H s) (r:fP vs us)
  (h:∀x dx,H x=none→H dx=none→dx≠x→sp (.ref x::(vs++dvs)) (ij (ij H dx (.own x)) x (.ins C dx [])) (fun v H2=>v=.non∧Q (.ref x) H2) E) :
  wpAny (model X.prog X.w) X.A (call (.ref C) us) (EP X dU σ Q) X.xe s:=by
 have hq:=h (s.heap.objs.size+1) s.heap.objs.size (I.hok.fresh (bC _)) (I.hok.fresh (aJ _)) (aL (bz _));have I2:=eW.made (C:=C) I;have r2:fP (V.ref (s.heap.objs.size+1)::(vs++dvs)) (Value.ref (s.heap.objs.size+1)::(us++ds)):=.cons rfl (r.append hd);have hl:(Value.ref (s.heap.objs.size+1)::us++ds).length=ps.length:=by have e:=r2.length;rw[F.len _ _ _ _ hq] at e;exact e.symm
 refine wpAny_call (ID (f:=f) I.kIn M.makes M.init (beq_iff_eq.mp M.fn) (codeAny_mono (F.run _ X.stack _ _ ⟨Value.ref (s.heap.objs.size+1)::us,[]⟩ (Value.ref (s.heap.objs.size+1)::(us++ds)) _ _ E (hr.make C us [])
  (I2.env0.make C us []) (hb _ (Value.ref (s.heap.objs.size+1)::us) I2.kIn hl) r2 hq) fun r s' hq'=>?_))
 cases r with
 | error e=>exact hx dU σ _ _ e s' I2 hq'
 | ok fl=>
  cases fl with
  | ret u=>obtain⟨v,H',I3,rv,ev,q3⟩:=I2.after hq';subst ev;exact⟨rv,⟨V.ref (s.heap.objs.size+1),H',I3,rfl,q3⟩⟩
  | next=>exact False.elim hq'
  | brk=>exact False.elim hq'
  | cont=>exact False.elim hq'
theorem IT(M:Mk X.K C f)(F:mC X.prog X.w X.K X.mg X.base CX k f fd ps sp)(hr:hV (k+1) X.A)(hg:Gl X x)(hm:X.mg x=some (.ref C))(hb:oC X.K fd ps ds)(hd:fP dvs ds)(hx:sA CX X E)
  (ha:PA X (e::es) t) (hdb:(x == ("__debug__" : Str))=false:=by decide) (he:starEach (e::es) X.env=(false,eval e X.env)::starEach es X.env:=by rfl) (hpl:(backTo pos (starEach es X.env)).any (·.1)=false:=by rfl) :
  PE X (.Call (.Name x p) (e::es) [] pos) (DI C sp dvs E t):=by
 intro dU s σ H Q I h;refine wpAny_Call_Name_kw (zu I hg hm ?_ hdb);refine W.callWith_K (h₀:=X.base) I.ok.mod.kin M.kp (iL (ha pos dU s σ H _ I h) fun us s1 ⟨vs,H1,I1,r,q⟩=>⟨I1.kIn,?_⟩) he hpl;exact Gj M F hr hb hd hx I1 r q
end
section
variable {X:Cx}{CX:Fd}{k:Nat}{f C:Addr}{fd:FuncData}{ps ks:List Str}{sp:Sp}{E:XK}{x m:Str}{p pos apos kpos:Pos}{e o:Expr}{es:List Expr}{kws:List Keyword}{te ta:TE}{t tk:TA}{nm:Option Str}
variable {g:List Value→List Value→List Value}{gV:List V→List V→List V}
end
structure eF(N P:List Str)(sc:Scope):Prop where
 kind:sc.kind=.function
 co:sc.isCoroutine=false
 gen:sc.isGenerator=false
 nd:N.Nodup
 pre:N.take P.length=P
 par:∀x∈P,sc.names.lookup x=some .local∨sc.names.lookup x=some .cell
 nofree:∀y∈sc.names,y.2≠.free
theorem xG{kindOf:Str→Option NameKind}{x:Str}:∀{binds:List (Str×Value)} {m:Str→Option Value},(∀v,(x,v)∉binds)→bindL kindOf binds m x=m x
 | [],_,_=>rfl
 | (n,v)::r,m,h=>by
  unfold bindL;rw[xG fun w hw=>h w (bg _ hw)];split
  ·have:x≠n:=by rintro rfl;exact h v bf
   simp[this]
  ·rfl
theorem xB{kindOf:Str→Option NameKind}{x:Str}:∀{binds:List (Str×Value)} {m:Str→Option Value},(∀v,(x,v)∉binds)→bindC kindOf binds m x=m x
 | [],_,_=>rfl
 | (n,v)::r,m,h=>by
  unfold bindC;rw[xB fun w hw=>h w (bg _ hw)];split
  ·rfl
  ·have:x≠n:=by rintro rfl;exact h v bf
   simp[this]
theorem xE{kindOf:Str→Option NameKind}{x:Str}{v:Value}:∀{P:List Str} {vs:List Value} {i:Nat} {m:Str→Option Value},P.Nodup→P[i]? = some x→vs[i]? = some v→kindOf x=some .local→
  bindL kindOf (P.zip vs) m x=some v
 | [],_,_,_,_,h,_,_=>by simp at h
 | _::_,[],_,_,_,_,h,_=>by simp at h
 | p::P,w::vs,0,m,nd,h1,h2,hk=>by simp at h1 h2;subst h1;subst h2;show bindL kindOf ((p,w)::P.zip vs) m p=_;unfold bindL;rw[xG fun v hv=>(bD.mp nd).1 (aV hv).1,aP hk];simp
 | p::P,w::vs,i+1,m,nd,h1,h2,hk=>by show bindL kindOf ((p,w)::P.zip vs) m x=_;unfold bindL;exact xE (i:=i) (bD.mp nd).2 (by simpa using h1) (by simpa using h2) hk
theorem xV{kindOf:Str→Option NameKind}{x:Str}{v:Value}:∀{P:List Str} {vs:List Value} {i:Nat} {m:Str→Option Value},P.Nodup→P[i]? = some x→vs[i]? = some v→kindOf x≠some .local→
  bindC kindOf (P.zip vs) m x=some v
 | [],_,_,_,_,h,_,_=>by simp at h
 | _::_,[],_,_,_,_,h,_=>by simp at h
 | p::P,w::vs,0,m,nd,h1,h2,hk=>by simp at h1 h2;subst h1;subst h2;show bindC kindOf ((p,w)::P.zip vs) m p=_;unfold bindC;rw[xB fun v hv=>(bD.mp nd).1 (aV hv).1,aQ hk];simp
 | p::P,w::vs,i+1,m,nd,h1,h2,hk=>by show bindC kindOf ((p,w)::P.zip vs) m x=_;unfold bindC;exact xV (i:=i) (bD.mp nd).2 (by simpa using h1) (by simpa using h2) hk
noncomputable def kQ(N:List Str)(vs:List V):St:=vs.map some++List.replicate (N.length - vs.length) none
noncomputable def rz(CX:Fd)(P:Program)(w:World)(K:W.Frag)(mg:Str→Option Value)(base:Heap)(N:List Str)(qual:Str)(scope:Scope)(f:Addr)(cd:Value)(A:Around)(outer:List Env)(s:Shared)(H:Hp)(E:XK):Cx where
 prog:=P
 w:=w
 K:=K
 mg:=mg
 base:=base
 A:=A.deeper (envOfC qual scope s.heap.objs.size f cd)
 N:=N
 s₀:=s
 H₀:=H
 env:=envOfC qual scope s.heap.objs.size f cd
 outer:=outer
 stack:=envOfC qual scope s.heap.objs.size f cd::outer
 ex:=[]
 calm:=true
 fn:=fun _=>true
 pn:=[]
 xe:=fun e s'=>wpAny (model P w) (A.deeper (envOfC qual scope s.heap.objs.size f cd)) (leaving (envOfC qual scope s.heap.objs.size f cd) e) (fun _ s''=>CX outer H s E e s'') (fun e' s''=>CX outer H s E e' s'') s'
theorem eS{sc:Scope}{n:Nat}{x:Str}(h:sc.names.lookup x=some .cell):∃c,(cellsFrom n sc.names []).lookup x=some c:=by have q:=W.cellsFrom_some sc.names n [] (.inl h);exact bE.mp q
theorem E1{CX:Fd}{P:Program}{w:World}{K:W.Frag}{mg:Str→Option Value}{base:Heap}{N ps:List Str}{qual:Str}{scope:Scope}{f:Addr}{cd:Value}{A:Around}{outer:List Env}{s s1:Shared}{H:Hp}{E:XK}{us:List Value}{vs:List V}
  (S:eF N ps scope) (hd:A.handled=none) (e0:Bp P w K mg base A outer s H) (hl:vs.length=ps.length) (r:fP vs us)
  (x:InCallC s s.heap.objs.size (bindL (envOfC qual scope s.heap.objs.size f cd).kindOf (ps.zip us) fun _=>none) (cellsFrom (s.heap.objs.size+1) scope.names []) (bindC (envOfC qual scope s.heap.objs.size f cd).kindOf (ps.zip us) fun _=>none) s1) :
  eW (rz CX P w K mg base N qual scope f cd A outer s H E) [] (kQ N vs) H s1:=by
 have hpl:ps.length≤N.length:=by have:=congrArg List.length S.pre;rw[bF] at this;omega
 obtain⟨h1,tk,rfl,hk⟩:=x.done;have noA:∀b:Addr,b∉(rz CX P w K mg base N qual scope f cd A outer s H E).ex:=fun b z=>absurd (show b∈([]:List Addr) from z) (by simp);refine⟨⟨e0.mod,S.kind,rfl,rfl,aJ _,fun y z c h1 h2=>?_,fun y hy=>?_,fun y c _ h=>?_,fun _=>hd,Around.frames_deeper e0.frames,.inr ⟨rfl,rfl⟩,fun b z=>absurd z (noA b),e0.bs,e0.bsz,fun b _ _=>noA b,fun b z=>absurd z (noA b),e0.funs,e0.frf⟩,
  rfl,e0.bare,Un.kept hk,⟨_,x.toInCall.ns,fun i y v h1 h2 h3=>?_⟩,fun y c h=>⟨_,x.cell y c h⟩,e0.hok.fresh (aJ _),fun y c h=>?_,fun p hp=>absurd (show p∈([]:List (Addr×Obj)) from hp) (by simp),e0.hok.kept hk,?_⟩
 ·exact name_of_addr x.apart (PySem.mem_of_lookup h1) (PySem.mem_of_lookup h2)
 ·have hy:scope.names.lookup y=some .cell∨scope.names.lookup y=some .free:=hy;rcases hy with hy | hy
  ·exact eS hy
  ·exact absurd rfl (S.nofree _ (PySem.mem_of_lookup hy))
 ·exact Nat.le_of_lt (x.above y c (PySem.mem_of_lookup h))
 ·have hi:i<vs.length:=by
   unfold kQ at h2;by_cases hi:i<vs.length
   ·exact hi
   ·rw[List.getElem?_append_right (by simpa using hi)] at h2;rw[List.getElem?_replicate] at h2;split at h2<;>cases h2
  have ha:vs[i]? = some v:=by
   unfold kQ at h2;rw[List.getElem?_append_left (by simpa using hi),av] at h2;cases e:vs[i]? with
   | none=>rw[e] at h2;cases h2
   | some a=>rw[e] at h2;cases h2;rfl
  obtain⟨u,hu,rv⟩:=r.get ha;have hp:ps[i]? = some y:=by rw[←S.pre,List.getElem?_take_of_lt (by omega)];exact h1
  have ndP:ps.Nodup:=by rw[←S.pre];exact S.nd.sublist (List.take_sublist _ _)
  refine⟨u,rv,?_⟩;rcases S.par y (au hp) with k | k
  ·exact .inl ⟨k,xE ndP hp hu k⟩
  ·obtain⟨c,e⟩:=eS (n:=s.heap.objs.size+1) k;refine .inr ⟨.inl k,c,e,?_⟩;have q:=x.cell y c e;rw[xV ndP hp hu (by show scope.names.lookup y≠_;rw[k];decide)] at q;exact q
 ·exact e0.hok.fresh (Nat.le_of_lt (x.above y c (PySem.mem_of_lookup h)))
 ·unfold kQ;show _=N.length;rw[aS,aw,bG];omega
theorem OO{CX:Fd}{P:Program}{w:World}{K:W.Frag}{mg:Str→Option Value}{base:Heap}{k:Nat}{f:Addr}{name qual:Str}{params:Arguments}{body:List Stmt}{scope:Scope}{dV kV doc pm cdv ct oc:Value}{an od:Option Addr}
  {osl:Array (Option Value)} {N ps:List Str} {sp:Sp} (lk:K.lookup f=some ⟨oc,od,.func (W.fnOf name qual params body scope dV kV doc pm an cdv ct),osl⟩) (hcd:W.codeIn K cdv qual=true) (S:eF N ps scope)
  (len:∀vs H Q E,sp vs H Q E→vs.length=ps.length)
  (hbody:∀(A:Around) (outer:List Env) (s:Shared) (H:Hp) (vs:List V) (Q:VK) (E:XK),hV k (A.deeper (envOfC qual scope s.heap.objs.size f cdv))→sp vs H Q E→
   ∃t,Af (rz CX P w K mg base N qual scope f cdv A outer s H E) body t∧t {nx:=fun _ H'=>Q .non H',rt:=Q} (kQ N vs) H) :
  mC P w K mg base CX (k+1) f (W.fnOf name qual params body scope dV kV doc pm an cdv ct) ps sp:=by
 refine⟨len,fun A outer s H args us vs Q E hr e0 hb r hsp=>?_⟩;have hl:=len _ _ _ _ hsp;have KX:K.In s.heap:=e0.mod.kin.keeps fun b o e=>(e0.bs b o e).1;have lim:s.heap.NoLimit:=e0.mod.nolimit.keeps fun b o e=>(e0.bs b o e).1;have hkind:∀y∈ps.zip us,scope.names.lookup y.1=some .local∨(scope.names.lookup y.1=some .cell∧((cellsFrom (s.heap.objs.size+1) scope.names []).lookup y.1).isSome=true):=fun ⟨n,v⟩ hy=>by
  rcases S.par n (aV hy).1 with q | q
  ·exact .inl q
  ·exact .inr ⟨q,W.cellsFrom_some _ _ _ (.inl q)⟩
 refine codeAny_call_function hr.depth (KX _ _ lk) rfl S.co S.gen rfl (W.codeRec_of KX hcd) (hb _ _ _ _ ?_);refine wpAny_newFunctionEnv_cells S.kind hkind fun env he s1 x=>?_;subst he;refine⟨lim.keeps x.toInCall.keep,codeAny_func ?_⟩;obtain⟨t,ht,hq⟩:=hbody A outer s H vs Q E (hr.deeper _) hsp;have I:eW (rz CX P w K mg base N qual scope f cdv A outer s H E) [] (kQ N vs) H s1:=E1 S hr.hd e0 hl r x;refine wpAny_mono (ht [] s1 (kQ N vs) H _ I hq) (fun fl s' hs=>?_) fun e s' hs=>hs;have fin:∀{σ':St} {H':Hp} {v:V} {u:Value},eW (rz CX P w K mg base N qual scope f cdv A outer s H E) [] σ' H' s'→gD v u→Q v H'→CE outer P w H s Q u s':=fun {σ' H' v u} J rv q=>⟨v,H',J.os,J.bare,J.base,J.hok,rv,q⟩
 cases fl with
 | ret u=>obtain⟨v,σ',H',J,rv,q⟩:=hs;exact fin J rv q
 | next=>obtain⟨σ',H',J,q⟩:=hs;exact fin (v:=V.non) (u:=Value.none) J rfl q
 | brk=>obtain⟨_,_,_,q⟩:=hs;exact False.elim q
 | cont=>obtain⟨_,_,_,q⟩:=hs;exact False.elim q
end L2
namespace L2
open PySem PySem.Spec PyProof.Rows
section
variable {X:Cx}{x:Str}{p pos:Pos}{e:Expr}{es:List Expr}{t:TA}{id T:String}{r:List V→Hp→VK→Prop}
def Ic(r:List V→Hp→VK→Prop)(t:TA):TE:=fun σ H Q=>t σ H fun vs H1=>r vs H1 Q
theorem AA(hc:jz X (.builtin id) r)(hg:Gl X x)(hm:X.mg x=none)(hv:bootBuiltins x=some (.builtin id))(ha:PA X (e::es) t)(hn:x≠ "__name__" :=by decide)(hdb:(x == ("__debug__" : Str))=false:=by decide)
  (he:starEach (e::es) X.env=(false,eval e X.env)::starEach es X.env:=by rfl) (hpl:(backTo pos (starEach es X.env)).any (·.1)=false:=by rfl):PE X (.Call (.Name x p) (e::es) [] pos) (Ic r t):=by
 intro dU s σ H Q I h;refine wpAny_Call_Name_kw (nN I hg hm hv ?_ hn hdb);exact PyProof.Rows.callWith_builtin1 (iL (ha pos dU s σ H _ I h) fun us s1 ⟨vs,H1,I1,r1,q1⟩=>hc dU s1 σ H1 vs us Q I1 r1 q1) he hpl
theorem rN(hc:jz X (.type T) r)(hg:Gl X x)(hm:X.mg x=none)(hv:bootBuiltins x=some (.type T))(ha:PA X (e::es) t)(hn:x≠ "__name__" :=by decide)(hdb:(x == ("__debug__" : Str))=false:=by decide)
  (he:starEach (e::es) X.env=(false,eval e X.env)::starEach es X.env:=by rfl) (hpl:(backTo pos (starEach es X.env)).any (·.1)=false:=by rfl):PE X (.Call (.Name x p) (e::es) [] pos) (Ic r t):=by
 intro dU s σ H Q I h;refine wpAny_Call_Name_kw (nN I hg hm hv ?_ hn hdb);exact PyProof.Rows.callWith_type1 (iL (ha pos dU s σ H _ I h) fun us s1 ⟨vs,H1,I1,r1,q1⟩=>hc dU s1 σ H1 vs us Q I1 r1 q1) he hpl
end
end L2
namespace HT
open PySem PyProof.Rows
section
open PySem.SeqAt
open PySem.AutoSeq1 (wpAny_loadPart')
open PySem.MeetsSeq PySem.MeetsSeq2 PySem.MeetsSeq3
end
section
variable {prog:Program}{w:World}{A:Around}{E:Value→Shared→Prop}{s:Shared}
theorem cat_tup{t b:Addr}{vs ws:List Value}{Q:Value→Shared→Prop}(ht:IsTup s.heap t vs.toArray)(hb:IsTup s.heap b ws.toArray)(hv:vs≠[])
  (h1:ws=[]→Q (.ref t) s) (h2:ws≠[]→Q (.ref s.heap.objs.size) {s with heap:=s.heap.push {cls:=.type "tuple",data:=.seq (vs++ws).toArray}})
  (hsz:vs.length+ws.length≤sizeLine):wpAny (model prog w) A (binaryOp .Add (.ref t) (.ref b)) Q E s:=by
 obtain⟨⟨cls,dd,data,sl⟩,ho,hc,n,hd⟩:=id ht;obtain⟨⟨cls2,dd2,data2,sl2⟩,ho2,hc2,n2,hd2⟩:=id hb;simp only at hc hd hc2 hd2;subst hc hd hc2 hd2;have e:vs.toArray++ws.toArray=(vs++ws).toArray:=by simp
 by_cases hw:ws=[]
 ·exact concat_meets ⟨_,ho,rfl⟩ ⟨_,ho2,rfl⟩ noFill_tuple_add seq_tuple_add PySem.F.slot_tuple_add PySem.F.entry_tuple_add (PySem.F.args_tuple_add_2 _ _)
   (tuple_addW1 t b vs.toArray ws.toArray n n2 dd dd2 sl sl2 (by simpa using hv) (by simp[hw])) ⟨ho,ho2,h1 hw⟩
 ·refine concat_meets ⟨_,ho,rfl⟩ ⟨_,ho2,rfl⟩ noFill_tuple_add seq_tuple_add PySem.F.slot_tuple_add PySem.F.entry_tuple_add (PySem.F.args_tuple_add_2 _ _)
   (tuple_addW2 t b vs.toArray ws.toArray n n2 dd dd2 sl sl2 (by simpa using hv) (by simpa using hw) (by rw[bu,bu];exact hsz)) ⟨ho,ho2,?_⟩
  rw[e];exact h2 hw
noncomputable def sIx(n d:Nat):Option Int→Nat
 | none=>d
 | some v=>if v<0 then (v+(n:Int)).toNat else min v.toNat n
theorem sIx_none(n d:Nat):sIx n d none=d:=rfl
theorem sIx_nat(n d k:Nat):sIx n d (some (k:Int))=min k n:=by show (if (k:Int)<0 then ((k:Int)+(n:Int)).toNat else min (k:Int).toNat n)=min k n;rw[aQ (by omega),bH]
theorem Nm(n d:Nat)(hd:d≤n)(o:Option Int):sIx n d o≤n:=by
 cases o with
 | none=>exact hd
 | some v=>
  show (if v<0 then (v+(n:Int)).toNat else min v.toNat n)≤n;by_cases hv:v<0
  ·rw[aP hv];omega
  ·rw[aQ hv];exact Nat.min_le_right _ _
theorem DM(v:Int)(n d:Nat):(if v<0 then max (v+(n:Int)) 0 else min v (n:Int))=((sIx n d (some v):Nat):Int):=by
 show (if v<0 then max (v+(n:Int)) 0 else min v (n:Int))=(((if v<0 then (v+(n:Int)).toNat else min v.toNat n):Nat):Int);by_cases hv:v<0
 ·simp only[aP hv];omega
 ·simp only[aQ hv];omega
theorem A8(lo hi:Option Int)(n:Nat):Builtin.Slice.sliceAdjust lo hi 1 (n:Int)=(((sIx n 0 lo:Nat):Int),((sIx n n hi:Nat):Int)):=by
 have h1:¬((1:Int)<0):=by omega
 unfold Builtin.Slice.sliceAdjust;simp only[h1,if_false];refine Prod.ext ?_ ?_
 ·cases lo with
  | none=>rfl
  | some v=>exact DM v n 0
 ·cases hi with
  | none=>rfl
  | some v=>exact DM v n n
theorem CG(i j:Nat):Builtin.Slice.slicePlaces (i:Int) (j:Int) 1=j - i:=by
 unfold Builtin.Slice.slicePlaces;have h1:(1:Int)>0:=by omega
 simp only[h1,if_true,Int.ediv_one];split<;>omega
theorem uI{v:Value}{o:Option Int}{Q:Option Int→Shared→Prop}(p:IsPart v o)(h:Q o s):wpAny (model prog w) A (Builtin.Slice.slicePartIndex v) Q E s:=by
 cases p with
 | none=>exact slicePart_none h
 | int i t=>exact slicePart_int h
theorem nj{sl:Addr}{vl vu:Value}{lo hi:Option Int}{n:Nat}{Q:Int×Int×Nat→Shared→Prop}(hs:s.heap.IsSliceOf sl vl vu .none)(pl:IsPart vl lo)(pu:IsPart vu hi)
  (h:Q (((sIx n 0 lo:Nat):Int),1,sIx n n hi - sIx n 0 lo) s):wpAny (model prog w) A (Builtin.Slice.sliceApplied (.ref sl) (pure (n:Int))) Q E s:=by
 obtain⟨os,hos,hcs,hds⟩:=id hs;unfold Builtin.Slice.sliceApplied Builtin.Slice.sliceFields;refine ao (ao (wpAny_field hos hds (x:=vl) rfl (ao (wpAny_field hos hds (x:=vu) rfl (ao (wpAny_field hos hds (x:=.none) rfl (ak ?_)))))));refine ao (slicePart_none ?_);show wpAny _ _ (if ((1:Int) == 0)=true then _ else _) _ _ s;rw[aQ (by decide)];refine ao (uI pl (ao (uI pu (ao (ak ?_)))));show wpAny _ _ (match Builtin.Slice.sliceAdjust lo hi 1 (n:Int) with | (lo,hi)=>pure (lo,(1:Int),Builtin.Slice.slicePlaces lo hi 1)) _ _ s;rw[A8 lo hi n];show wpAny _ _ (pure (((sIx n 0 lo:Nat):Int),(1:Int),Builtin.Slice.slicePlaces ((sIx n 0 lo:Nat):Int) ((sIx n n hi:Nat):Int) 1)) _ _ s;rw[CG];exact ak h
theorem GH(xs:Array Value)(i k:Nat):((List.range k).filterMap fun (m:Nat)=>xs[((i:Int)+(m:Int)*1).toNat]?).toArray=((xs.toList.drop i).take k).toArray:=by
 have e:(fun (m:Nat)=>xs[((i:Int)+(m:Int)*1).toNat]?)=fun m=>xs[i+m]?:=by
  funext m;have:((i:Int)+(m:Int)*1).toNat=i+m:=by omega
  rw[this]
 rw[e];have:=pick_run xs i k;rw[List.filterMap_map] at this;have e2:((fun x=>xs[x]?) ∘ fun x=>i+x)=fun m=>xs[i+m]?:=rfl;rw[e2] at this;rw[this]
theorem getItem_tuple_cut{t sl:Addr}{items:Array Value}{vl vu:Value}{lo hi:Option Int}{Q:Value→Shared→Prop}(ht:IsTup s.heap t items)(hs:s.heap.IsSliceOf sl vl vu .none)(pl:IsPart vl lo)(pu:IsPart vu hi)
  (hw:¬(sIx items.size 0 lo=0∧sIx items.size items.size hi=items.size))
  (h:Q (.ref s.heap.objs.size) {s with heap:=s.heap.push {cls:=.type "tuple",data:=.seq ((items.toList.drop (sIx items.size 0 lo)).take (sIx items.size items.size hi - sIx items.size 0 lo)).toArray}})
  (hsz:items.size≤sizeLine):wpAny (model prog w) A (getItem (.ref t) (.ref sl)) Q E s:=by
 have htake:sizeOk (.seq ((items.toList.drop (sIx items.size 0 lo)).take (sIx items.size items.size hi - sIx items.size 0 lo)).toArray):=by show ((items.toList.drop (sIx items.size 0 lo)).take (sIx items.size items.size hi - sIx items.size 0 lo)).toArray.size≤sizeLine;rw[bu,bF,bI,bh];omega
 have hj:sIx items.size items.size hi≤items.size:=Nm _ _ (aJ _) hi;obtain⟨os,hos,hcs,hds⟩:=id hs;have hTs:s.TypeIs (.ref sl) "slice" :=⟨os,hos,hcs⟩;unfold getItem;try with_reducible refine wpAny_holding ?_;first | refine ao (ak ?_) | skip
 refine ao (wpAny_sequenceKey ht.typeIs (by decide) ?_);refine ao (wpAny_callSpecial?_slot (name:=Str.ofString "__getitem__") ht.typeIs PyProof.Rows.slot_tuple_getitem
  (wpAny_call_entry PyProof.Rows.slot_tuple_getitem ht.typeIs entry_tuple_getitem ?_ (args_tuple_getitem _ _)))
 show wpAny _ _ (Builtin.Tuple.tupleItemsOf (.ref t) >>= _) _ _ s;refine ao (tupleItemsOf_ ht ?_);refine ao (wpAny_typeOf hTs ?_);rw[aP (by decide)];refine ao (nj hs pl pu ?_);have hno:¬((((sIx items.size 0 lo:Nat):Int) == 0&&(1:Int) == 1&&(sIx items.size items.size hi - sIx items.size 0 lo) == items.size)=true):=by intro q;rw[bJ,bJ] at q;have q1:((sIx items.size 0 lo:Nat):Int)=0:=eq_of_beq q.1.1;have q2:sIx items.size items.size hi - sIx items.size 0 lo=items.size:=eq_of_beq q.2;exact hw ⟨by omega,by omega⟩
 show wpAny _ _ (if (((sIx items.size 0 lo:Nat):Int) == 0&&(1:Int) == 1&&(sIx items.size items.size hi - sIx items.size 0 lo) == items.size)=true then _ else _) _ _ s;rw[aQ hno,GH];first
  | exact ao (m:=Builtin.Tuple.tupleExact _) (wpAny_newObj_type (ak ⟨_,rfl,ak h⟩) htake)
  | exact ao (m:=Builtin.Tuple.tupleExact _) (wpAny_newObj_type (ao (ak (ak ⟨_,rfl,ak h⟩))) htake)
  | exact ao (ao (m:=Builtin.Tuple.tupleExact _) (wpAny_newObj_type (ak (ak ⟨_,rfl,ak h⟩)) htake))
  | exact ao (ao (m:=Builtin.Tuple.tupleExact _) (wpAny_newObj_type (ak ⟨_,rfl,ak h⟩) htake))
end
end HT
namespace L2
open PySem PySem.Spec PyProof.Rows
noncomputable abbrev TO:=St→Hp→(Option Int→Hp→Prop)→Prop
def PO(X:Cx)(e:Option Expr)(t:TO):Prop:=
 ∀(dU:List (Addr×Obj)) (s:Shared) (σ:St) (H:Hp) (Q:Option Int→Hp→Prop),eW X dU σ H s→t σ H Q→
  wpAny (model X.prog X.w) X.A (evalPart e X.env) (fun u s'=>∃o H',eW X dU σ H' s'∧IsPart u o∧Q o H') X.xe s
def Dq:TO:=fun _ H Q=>Q none H
def Lf(t:TE):TO:=fun σ H Q=>t σ H fun x H1=>∃i,x=.int i∧Q (some i) H1
section
variable {X:Cx}{e:Expr}{te:TE}{lo hi:Option Expr}{tl th:TO}{pos p2:Pos}
theorem IK:PO X none Dq:=by intro dU s σ H Q I h;rw[evalPart_none];exact ak ⟨none,H,I,.none,h⟩
theorem JG(h:PE X e te):PO X (some e) (Lf te):=by intro dU s σ H Q I hw;rw[evalPart_some];refine iL (h dU s σ H _ I hw) fun u s1 ⟨x,H1,I1,r1,q1⟩=>?_;obtain⟨i,rfl,q⟩:=q1;obtain⟨t,rfl⟩:=r1;exact⟨some i,H1,I1,.int i t,q⟩
def Lc(X:Cx)(r:V→Option Int→Option Int→Hp→VK→Prop):Prop:=
 ∀(dU:List (Addr×Obj)) (s:Shared) (σ:St) (H:Hp) (x:V) (v vl vu:Value) (lo hi:Option Int) (sl:Addr) (Q:VK),eW X dU σ H s→gD x v→s.heap.IsSliceOf sl vl vu .none→IsPart vl lo→IsPart vu hi→r x lo hi H Q→
  ∃T id,typeLookup (.type T) "__getitem__" = pure (some (.builtin id))∧s.TypeIs v T∧wpAny (model X.prog X.w) X.A (getItem v (.ref sl)) (EP X dU σ Q) X.xe s
theorem Lc.or{r r':V→Option Int→Option Int→Hp→VK→Prop}(h:Lc X r)(h':Lc X r'):Lc X (fun x lo hi H Q=>r x lo hi H Q∨r' x lo hi H Q):=by
 intro dU s σ H x v vl vu lo hi sl Q I rx hs pl pu q;rcases q with q | q
 ·exact h dU s σ H x v vl vu lo hi sl Q I rx hs pl pu q
 ·exact h' dU s σ H x v vl vu lo hi sl Q I rx hs pl pu q
def QD(r:V→Option Int→Option Int→Hp→VK→Prop)(te:TE)(tl th:TO):TE:=fun σ H Q=>te σ H fun x H1=>tl σ H1 fun l H2=>th σ H2 fun u H3=>r x l u H3 Q
theorem Gp{r:V→Option Int→Option Int→Hp→VK→Prop}(hr:Lc X r)(he:PE X e te)(hl:PO X lo tl)(hu:PO X hi th):PE X (.Subscript e (.Slice lo hi none p2) pos) (QD r te tl th):=by intro dU s σ H Q I h;refine Subscript_ (iL (he dU s σ H _ I h) fun v s1 ⟨x,H1,I1,r1,q1⟩=>?_);refine wpAny_Slice (iL (hl dU s1 σ H1 _ I1 q1) fun vl s2 ⟨l,H2,I2,pl,q2⟩=>iL (hu dU s2 σ H2 _ I2 q2) fun vu s3 ⟨u,H3,I3,pu,q3⟩=>?_);rw[evalPart_none];refine ak ?_;have I4:eW X dU σ H3 {s3 with heap:=s3.heap.push {cls:=.type "slice",data:=.fields #[vl,vu,.none]}}:=I3.kept (t':=s3.toks) fun b ob q=>ae _ q;obtain⟨T,id,hT,ht,hg⟩:=hr dU {s3 with heap:=s3.heap.push {cls:=.type "slice",data:=.fields #[vl,vu,.none]}} σ H3 x v vl vu l u s3.heap.objs.size Q I4 r1 (Heap.IsSliceOf.new ..) pl pu q3;show wpAny (model X.prog X.w) X.A (subscriptTail e (.Slice lo hi none p2) v (.ref s3.heap.objs.size)) (EP X dU σ Q) X.xe {s3 with heap:=s3.heap.push {cls:=.type "slice",data:=.fields #[vl,vu,.none]}};exact tail_any (ops:=[.ref s3.heap.objs.size,v]) ht hT hg (by with_unfolding_all rfl)
noncomputable def Bd(xs:List V)(lo hi:Option Int):List V:=(xs.drop (HT.sIx xs.length 0 lo)).take (HT.sIx xs.length xs.length hi - HT.sIx xs.length 0 lo)
theorem sV(xs:List V)(lo hi:Option Int):(Bd xs lo hi).length≤xs.length:=by unfold Bd;rw[bF,bI];omega
noncomputable def Pa(K:W.Frag):V→Option Int→Option Int→Hp→VK→Prop:=fun x lo hi H Q=>∃a xs,x=.ref a∧kR K H a xs∧
 ¬(HT.sIx xs.length 0 lo=0∧HT.sIx xs.length xs.length hi=xs.length)∧∀p,H p=none→Q (.ref p) (ij H p (.tup (Bd xs lo hi)))
theorem Mu:Lc X (Pa X.K):=by
 intro dU s σ H x v vl vu lo hi sl Q I rx hs pl pu h;obtain⟨a,xs,rfl,hx,hw,q⟩:=h;cases rx;obtain⟨its,r,ht,hz⟩:=I.tuple hx;have jx:its.toArray.size=xs.length:=by rw[bu];exact r.length.symm
 refine⟨"tuple",_,PyProof.Rows.slot_tuple_getitem.lookup,ht.typeIs,?_⟩;refine HT.getItem_tuple_cut ht hs pl pu (by rw[jx];exact hw) ?_ (by rw[jx];exact hz);rw[jx];refine⟨.ref s.heap.objs.size,_,I.laid (t':=s.toks) (o:=.tup (Bd xs lo hi)) (fun b ob q=>ae _ q) (aJ _) ?_,rfl,q _ (I.hok.fresh (aJ _))⟩;exact⟨aM (sV xs lo hi) hz,_,(r.drop (HT.sIx xs.length 0 lo)).take (HT.sIx xs.length xs.length hi - HT.sIx xs.length 0 lo),IsTup.new _ _⟩
def OE(K:W.Frag):R2:=fun x y H Q=>∃a b xs ys,x=.ref a∧y=.ref b∧kR K H a xs∧kR K H b ys∧xs≠[]∧xs.length+ys.length≤sizeLine∧
 (ys=[]→Q (.ref a) H)∧(ys≠[]→∀p,H p=none→Q (.ref p) (ij H p (.tup (xs++ys))))
theorem fP.nil_iff{xs:List V}{us:List Value}(r:fP xs us):us=[]↔xs=[]:=by
 cases r with
 | nil=>simp
 | cons _ _=>simp
theorem J4:oo X (binaryOp .Add) (OE X.K):=by intro dU s σ H x y v u Q I rx ry h;obtain⟨a,b,xs,ys,rfl,rfl,ha,hb,hx,hz,q1,q2⟩:=h;cases rx;cases ry;obtain⟨its,r1,p1,_⟩:=I.tuple ha;obtain⟨its2,r2,p2,_⟩:=I.tuple hb;refine HT.cat_tup p1 p2 (fun z=>hx (r1.nil_iff.mp z)) (fun z=>⟨.ref a,H,I,rfl,q1 (r2.nil_iff.mp z)⟩) (fun z=>?_) (by rw[←r1.length,←r2.length];exact hz);refine⟨.ref s.heap.objs.size,_,I.laid (t':=s.toks) (o:=.tup (xs++ys)) (fun b ob q=>ae _ q) (aJ _) ?_,rfl,q2 (fun w=>z (r2.nil_iff.mpr w)) _ (I.hok.fresh (aJ _))⟩;exact⟨by rw[aS];exact hz,_,r1.append r2,IsTup.new _ _⟩
end
end L2
namespace L2
open PySem PySem.Spec PyProof.Rows
noncomputable def xH(n:Nat)(i:Int):Option Nat:=if 0≤i then (if i<n then some i.toNat else none) else if -(n:Int)≤i then some (i+n).toNat else none
noncomputable def oY{α:Type}(xs:List α)(i:Int):Option α:=(xH xs.length i).bind fun j=>xs[j]?
theorem Dn{n:Nat}{i:Int}{j:Nat}(h:xH n i=some j):seqIndex? i n=some j∧j<n∧-(n:Int)≤i∧i<n:=by
 unfold xH at h;by_cases h0:0≤i
 ·rw[aP h0] at h;by_cases h1:i<n
  ·rw[aP h1] at h;have e:i.toNat=j:=Option.some.inj h;exact⟨by rw[seqIndex_of h0 h1,e],by omega,by omega,h1⟩
  ·rw[aQ h1] at h;cases h
 ·rw[aQ h0] at h;by_cases h1:-(n:Int)≤i
  ·rw[aP h1] at h;have e:(i+n).toNat=j:=Option.some.inj h;exact⟨by rw[seqIndex_neg (by omega) h1,e],by omega,h1,by omega⟩
  ·rw[aQ h1] at h;cases h
theorem ze{α:Type}{xs:List α}{i:Int}{v:α}(h:oY xs i=some v):∃j,seqIndex? i xs.length=some j∧xs[j]? = some v∧j<xs.length∧-(xs.length:Int)≤i∧i<xs.length:=by
 unfold oY at h;cases e:xH xs.length i with
 | none=>rw[e] at h;cases h
 | some j=>rw[e] at h;obtain⟨h1,h2,h3,h4⟩:=Dn e;exact⟨j,h1,h,h2,h3,h4⟩
def DB(b:Expr):Prop:=∀o i,subscripted b false o i=operate [o,i] (getItem o i)
def JV(X:Cx)(r:R2):Prop:=
 ∀(value slice:Expr) (dU:List (Addr×Obj)) (s:Shared) (σ:St) (H:Hp) (x y:V) (v u:Value) (Q:VK),eW X dU σ H s→gD x v→gD y u→r x y H Q→
  subscripted slice false v u=operate [v,u] (getItem v u)→wpAny (model X.prog X.w) X.A (subscriptTail value slice v u) (EP X dU σ Q) X.xe s
def QG(X:Cx)(id:String)(r:V→List V→Hp→VK→Prop):Prop:=
 ∀(dU:List (Addr×Obj)) (s:Shared) (σ:St) (H:Hp) (x:V) (xs:List V) (v:Value) (us:List Value) (Q:VK),eW X dU σ H s→gD x v→fP xs us→r x xs H Q→
  wpAny (model X.prog X.w) X.A (call (.builtin id) (v::us)) (EP X dU σ Q) X.xe s
section
variable {X:Cx}{a b:Expr}{ta tb:TE}{pos:Pos}
theorem JV.or{r r':R2}(h:JV X r)(h':JV X r'):JV X (fun x y H Q=>r x y H Q∨r' x y H Q):=by
 intro value slice dU s σ H x y v u Q I rx ry q hs;rcases q with q | q
 ·exact h value slice dU s σ H x y v u Q I rx ry q hs
 ·exact h' value slice dU s σ H x y v u Q I rx ry q hs
theorem OU{r:R2}(hr:JV X r)(ha:PE X a ta)(hb:PE X b tb)(hs:DB b):PE X (.Subscript a b pos) (wg r ta tb):=by intro dU s σ H Q I h;exact Subscript_ (Mc ha hb I h fun v u s2 x y H2 I2 rx ry q=>hr a b dU s2 σ H2 x y v u Q I2 rx ry q (hs _ _))
def Pb(K:W.Frag):R2:=fun x y H Q=>∃p xs i v,x=.ref p∧y=.int i∧jI K H p xs∧oY xs i=some v∧Q v H
def OL(K:W.Frag):R2:=fun x y H Q=>∃p xs i v,x=.ref p∧y=.int i∧kR K H p xs∧oY xs i=some v∧Q v H
def Oj:R2:=fun x y H Q=>∃z i c,x=.str z∧y=.int i∧z.length≤sizeLine∧oY z.cps.toList i=some c∧Q (.str ⟨#[c]⟩) H
theorem uw:JV X (Pb X.K):=by
 intro value slice dU s σ H x y v u Q I rx ry h hs;obtain⟨p,xs,i,z,rfl,rfl,hq,he,q⟩:=h;cases rx;obtain⟨t,rfl⟩:=ry;obtain⟨its,r,pl,hz⟩:=I.list hq;obtain⟨j,h1,h2,h3,h4,h5⟩:=ze he;obtain⟨w,ew,rw'⟩:=r.get h2;have hl:=r.length;have hn:=vn;have fin:EP X dU σ Q w s:=⟨z,H,I,rw',q⟩;by_cases h0:0≤i
 ·have hj:i.toNat=j:=by rw[seqIndex_of h0 h5] at h1;exact Option.some.inj h1
  exact item_listR pl.isList h0 (by omega) (by rw[hj];simpa using ew) fin hs
 ·have hj:(i+(its.toArray.size:Int)).toNat=j:=by rw[seqIndex_neg (by omega) h4] at h1;rw[bu,←hl];exact Option.some.inj h1
  exact subscriptTail_builtinR (x:=w) pl.isList.typeIs slot_list_getitem.lookup
   (wpAny_getItem_list_neg (Q:=fun r s'=>r=w∧EP X dU σ Q r s') pl.isList (by omega) (by rw[bu]<;>omega) (by omega) (by rw[hj];simpa using ew) ⟨rfl,fin⟩) hs
theorem iB:JV X (OL X.K):=by
 intro value slice dU s σ H x y v u Q I rx ry h hs;obtain⟨p,xs,i,z,rfl,rfl,hq,he,q⟩:=h;cases rx;obtain⟨t,rfl⟩:=ry;obtain⟨its,r,pl,hz⟩:=I.tuple hq;obtain⟨j,h1,h2,h3,h4,h5⟩:=ze he;obtain⟨w,ew,rw'⟩:=r.get h2;have hl:=r.length;have hn:=vn;have fin:EP X dU σ Q w s:=⟨z,H,I,rw',q⟩;exact subscriptTail_builtinR (x:=w) pl.typeIs slot_tuple_getitem.lookup
  (getItem_tuple (j:=j) (Q:=fun r s'=>r=w∧EP X dU σ Q r s') pl (by omega) (by omega) (by rw[bu,←hl];exact h1) (by simpa using ew) ⟨rfl,fin⟩) hs
theorem Lx:JV X Oj:=by
 intro value slice dU s σ H x y v u Q I rx ry h hs;obtain⟨z,i,c,rfl,rfl,hz,he,q⟩:=h;obtain⟨t,rfl⟩:=rx;obtain⟨t',rfl⟩:=ry;obtain⟨j,h1,h2,h3,h4,h5⟩:=ze he;have hl:z.cps.toList.length=z.length:=by simp[Str.length]
 rw[hl] at h1 h4 h5;have hn:=vn;exact tail_any (typeIs_str s z t) slot_str_getitem.lookup (getItem_str (c:=c) (by have e1:decide (i < -(2 ^ 63:Int))=false:=aA (by omega);have e2:decide (i ≥ 2 ^ 63)=false:=aA (by omega);rw[e1,e2,Bool.or_false]) (by rw[h1];simpa using h2) ⟨.str ⟨#[c]⟩,H,I.tok _,⟨_,rfl⟩,q⟩) hs
def Qj(K:W.Frag):R2:=fun x y H Q=>Pb K x y H Q∨OL K x y H Q∨Oj x y H Q
theorem Lq:JV X (Qj X.K):=uw.or (iB.or Lx)
theorem CD(its:List Value)(n j:Nat)(u:Value):Obj.mapSeq (·.setIfInBounds j u) {cls:=.type "list",data:=.seq its.toArray n}={cls:=.type "list",data:=.seq (its.set j u).toArray n}:=by simp[Obj.mapSeq]
theorem eW.lst{dU:List (Addr×Obj)}{σ:St}{H:Hp}{s:Shared}{p:Addr}{xs:List V}(I:eW X dU σ H s)(h:H p=some (.lst xs)) :
  ∃(its:List Value) (n:Nat),fP xs its∧s.heap.get? p=some {cls:=.type "list",data:=.seq its.toArray n}∧xs.length≤sizeLine:=by
 obtain⟨z,its,n,r,e⟩:=I.hok p _ h;exact⟨its,n,r,e,z⟩
theorem eW.lstUpd{dU:List (Addr×Obj)}{σ:St}{H:Hp}{s:Shared}{p:Addr}{xs ys:List V}{its its':List Value}{n n':Nat}{f:Obj→Obj}(I:eW X dU σ H s)(h:H p=some (.lst xs))
  (ho:s.heap.get? p=some {cls:=.type "list",data:=.seq its.toArray n}) (hf:f {cls:=.type "list",data:=.seq its.toArray n}={cls:=.type "list",data:=.seq its'.toArray n'}) (r:fP ys its') (hz:ys.length≤sizeLine) (t:Nat) :
  eW X dU σ (ij H p (.lst ys)) {s with heap:=s.heap.update p f,toks:=t}:=by
 have e:(s.heap.update p f).get? p=some {cls:=.type "list",data:=.seq its'.toArray n'}:=by rw[Heap.get?_update_self f ho (by rw[hf]<;>rfl),hf]
 refine I.write (x:=p) (e:=p) (by rw[h];trivial) (.inl rfl) (fun b u hb q=>(Heap.get?_update_other _ _ (Ne.symm hb)).trans q) ⟨_,e⟩ ?_;exact⟨hz,its',n',r,e⟩
noncomputable def CZ:V→V→V→Hp→(Hp→Prop)→Prop:=fun o i v H Q=>∃p xs k j,o=.ref p∧i=.int k∧H p=some (.lst xs)∧xH xs.length k=some j∧Q (ij H p (.lst (xs.set j v)))
theorem GV:Oc X CZ:=by
 intro dU s σ H o i v ov iv u Q I ro ri rv h;obtain⟨p,xs,k,j,rfl,rfl,hp,hj,q⟩:=h;cases ro;obtain⟨t,rfl⟩:=ri;obtain⟨its,n,r,ho,hz⟩:=I.lst hp;obtain⟨h1,h2,h3,h4⟩:=Dn hj;have hl:=r.length;have hn:=vn;have I':eW X dU σ (ij H p (.lst (xs.set j v))) {s with heap:=s.heap.update p (Obj.mapSeq (·.setIfInBounds j u))}:=I.lstUpd hp ho (CD its n j u) (r.set rv j) (by rw[bK];exact hz) s.toks
 by_cases h0:0≤k
 ·have hk:k.toNat=j:=by rw[seqIndex_of h0 h4] at h1;exact Option.some.inj h1
  exact W.ki_setAt ho h0 (by omega) (by rw[bu,←hl];exact h4) (by rw[hk];exact⟨_,I',q⟩)
 ·have hk:(k+(its.toArray.size:Int)).toNat=j:=by rw[seqIndex_neg (by omega) h3] at h1;rw[bu,←hl];exact Option.some.inj h1
  exact W.ki_setBack ho (by omega) (by rw[bu,←hl];exact h3) (by omega) (by rw[hk];exact⟨_,I',q⟩)
theorem zv(lo hi:Option Int)(n:Nat):(sliceBounds lo hi none n).1=((HT.sIx n 0 lo:Nat):Int)∧(sliceBounds lo hi none n).2.1=((HT.sIx n n hi:Nat):Int)∧(sliceBounds lo hi none n).2.2=1:=by
 refine⟨?_,?_,rfl⟩
 ·cases lo with
  | none=>simp[sliceBounds,HT.sIx]
  | some i=>
   simp only[sliceBounds,HT.sIx,Option.getD_none,show (1:Int)>0 by decide,if_true];by_cases h:i<0
   ·simp only[h,if_true]<;>omega
   ·simp only[h,if_false]<;>omega
 ·cases hi with
  | none=>simp[sliceBounds,HT.sIx]
  | some i=>
   simp only[sliceBounds,HT.sIx,Option.getD_none,show (1:Int)>0 by decide,if_true];by_cases h:i<0
   ·simp only[h,if_true]<;>omega
   ·simp only[h,if_false]<;>omega
theorem wK(its:List Value)(lo hi:Option Int):slicePick its.toArray lo hi none=((its.drop (HT.sIx its.length 0 lo)).take (HT.sIx its.length its.length hi - HT.sIx its.length 0 lo)).toArray:=by obtain⟨h1,h2,h3⟩:=zv lo hi its.toArray.size;unfold slicePick;rw[h1,h2,h3];simp only[sliceRange_one,pick_run,bu]<;>rfl
noncomputable def OW(K:W.Frag):V→Option Int→Option Int→Hp→VK→Prop:=fun x lo hi H Q=>∃a xs,x=.ref a∧jI K H a xs∧∀p,H p=none→Q (.ref p) (ij H p (.lst (Bd xs lo hi)))
theorem IZ:Lc X (OW X.K):=by intro dU s σ H x v vl vu lo hi sl Q I rx hs pl pu h;obtain⟨a,xs,rfl,hx,q⟩:=h;cases rx;obtain⟨its,r,ht,hz⟩:=I.list hx;have jx:=r.length;refine⟨"list",_,slot_list_getitem.lookup,ht.isList.typeIs,?_⟩;refine wpAny_getItem_list_slice ht.isList hs pl pu .none (by simp) ?_ (by rw[bu]<;>omega);rw[wK,←jx];refine⟨.ref s.heap.objs.size,_,I.laid (t':=s.toks) (o:=.lst (Bd xs lo hi)) (fun b ob q=>ae _ q) (aJ _) ?_,rfl,q _ (I.hok.fresh (aJ _))⟩;exact⟨aM (sV xs lo hi) hz,_,0,(r.drop (HT.sIx xs.length 0 lo)).take (HT.sIx xs.length xs.length hi - HT.sIx xs.length 0 lo),ar _ rfl⟩
noncomputable def pM:V→Bool
 | .non=>true
 | .bl _=>true
 | .int _=>true
 | .str _=>true
 | _=>false
noncomputable def IH:V→V→Bool
 | .non,.non=>true
 | .bl a,.bl b=>a == b
 | .bl a,.int b=>(if a then 1 else 0) == b
 | .int a,.bl b=>a == (if b then 1 else 0)
 | .int a,.int b=>a == b
 | .str a,.str b=>a == b
 | _,_=>false
theorem L9{A:Around}{s:Shared}{y x:V}{u v:Value}(ry:gD y u)(rx:gD x v)(fy:pM y=true)(fx:pM x=true):SeqAt.EqAt A s u v (IH y x):=by
 cases y with
 | non=>
  cases ry;cases x with
  | non=>cases rx;exact SeqAt.EqAt.same _
  | bl b=>cases rx;exact SeqAt.EqAt.none_bool b
  | int b=>obtain⟨t,rfl⟩:=rx;exact SeqAt.EqAt.none_int b t
  | str b=>obtain⟨t,rfl⟩:=rx;exact SeqAt.EqAt.none_str b t
  | _=>exact absurd (show false=true from fx) aG
 | bl a=>
  cases ry;cases x with
  | non=>cases rx;exact SeqAt.EqAt.bool_none a
  | bl b=>cases rx;exact SeqAt.EqAt.bool_bool a b
  | int b=>obtain⟨t,rfl⟩:=rx;exact SeqAt.EqAt.bool_int a b t
  | str b=>obtain⟨t,rfl⟩:=rx;exact SeqAt.EqAt.bool_str a b t
  | _=>exact absurd (show false=true from fx) aG
 | int a=>
  obtain⟨t',rfl⟩:=ry;cases x with
  | non=>cases rx;exact SeqAt.EqAt.int_none a t'
  | bl b=>cases rx;exact SeqAt.EqAt.int_bool a t' b
  | int b=>obtain⟨t,rfl⟩:=rx;exact SeqAt.EqAt.int_int a t' b t
  | str b=>obtain⟨t,rfl⟩:=rx;exact SeqAt.EqAt.int_str a t' b t
  | _=>exact absurd (show false=true from fx) aG
 | str a=>
  obtain⟨t',rfl⟩:=ry;cases x with
  | non=>cases rx;exact SeqAt.EqAt.str_none a t'
  | bl b=>cases rx;exact SeqAt.EqAt.str_bool a t' b
  | int b=>obtain⟨t,rfl⟩:=rx;exact SeqAt.EqAt.str_int a t' b t
  | str b=>obtain⟨t,rfl⟩:=rx;exact SeqAt.EqAt.str_str a t' b t
  | _=>exact absurd (show false=true from fx) aG
 | _=>exact absurd (show false=true from fy) aG
noncomputable def KO(x:V)(u:Value):Bool:=match u with
 | .none=>IH .non x
 | .bool b=>IH (.bl b) x
 | .int i _=>IH (.int i) x
 | .str z _=>IH (.str z) x
 | _=>false
theorem GG{x y:V}{u:Value}(r:gD y u)(f:pM y=true):KO x u=IH y x:=by
 cases y with
 | non=>cases r;rfl
 | bl b=>cases r;rfl
 | int i=>obtain⟨t,rfl⟩:=r;rfl
 | str z=>obtain⟨t,rfl⟩:=r;rfl
 | _=>exact absurd (show false=true from f) aG
theorem zg{x:V}:∀{xs:List V} {us:List Value},fP xs us→xs.all pM=true→us.any (KO x)=xs.any fun y=>IH y x
 | _,_,.nil,_=>rfl
 | y::xs,u::us,.cons r t,f=>by rw[bL,bJ] at f;rw[bM,bM,GG r f.1,zg t f.2]
theorem uM{A:Around}{s:Shared}{x:V}{v:Value}(rx:gD x v)(fx:pM x=true):∀{xs:List V} {us:List Value},fP xs us→xs.all pM=true→∀u∈us,SeqAt.EqAt A s u v (KO x u)
 | _,_,.nil,_=>fun u hu=>by cases hu
 | y::xs,u::us,.cons r t,f=>fun u' hu=>by
  rw[bL,bJ] at f;rcases aE.mp hu with rfl | hu
  ·rw[GG r f.1];exact L9 r rx f.1 fx
  ·exact uM rx fx t f.2 u' hu
noncomputable def Px(x:V)(xs:List V):Bool:=xs.any fun y=>IH y x
def P8(K:W.Frag)(neg:Bool):R2:=fun x y H Q=>∃p xs,y=.ref p∧(jI K H p xs∨kR K H p xs)∧pM x=true∧xs.all pM=true∧Q (.bl (if neg then !Px x xs else Px x xs)) H
theorem yD:oo X (compareOp .NotIn) (P8 X.K true):=by
 intro dU s σ H x y v u Q I rx ry h;obtain⟨p,xs,rfl,hq,fx,fs,q⟩:=h;cases ry;rcases hq with hq | hq
 ·obtain⟨its,r,pl,hz⟩:=I.list hq;refine SeqAt.notIn_listAt (KO x) pl.isList (fun w hw=>uM rx fx r fs w (by simpa using hw)) ⟨.bl _,H,I,rfl,?_⟩;rw[show its.toArray.any (KO x)=its.any (KO x) by simp,zg r fs];exact q
 ·obtain⟨its,r,pl,hz⟩:=I.tuple hq;refine SeqAt.notIn_tupleAt (KO x) pl (fun w hw=>uM rx fx r fs w (by simpa using hw)) ⟨.bl _,H,I,rfl,?_⟩;rw[show its.toArray.any (KO x)=its.any (KO x) by simp,zg r fs];exact q
theorem yP:jz X (.type "list") (fun xs H Q=>∃p ys,xs=[.ref p]∧(jI X.K H p ys∨kR X.K H p ys)∧∀l,H l=none→Q (.ref l) (ij H l (.lst ys))):=by
 intro dU s σ H xs us Q I r h;obtain⟨p,ys,rfl,hq,q⟩:=h;obtain⟨u,rfl,rx⟩:=oB r;cases rx;have fin:∀(its:List Value),fP ys its→ys.length≤sizeLine→∀(h':Heap) (c':Nat),(∀b o',s.heap.get? b=some o'→h'.get? b=some o')→
   h'.get? s.heap.objs.size=some {cls:=.type "list",dict:=none,data:=.seq its.toArray c',slots:=#[]}→EP X dU σ Q (.ref s.heap.objs.size) {s with heap:=h'}:=fun its r' hz h' c' kp e=>
  ⟨.ref s.heap.objs.size,_,I.laid (t':=s.toks) kp (aJ _) (show gS X.prog X.w _ h' _ (.lst ys) from ⟨hz,its,c',r',e⟩),rfl,q _ (I.hok.fresh (aJ _))⟩
 rcases hq with hq | hq
 ·obtain⟨its,r',pl,hz⟩:=I.list hq;have jx:=r'.length;obtain⟨o,ho,hc,n,hd⟩:=pl.isList;exact call_list_seq p (.inl rfl) ho hc hd (fun h' c' kp e=>fin its r' hz h' c' kp e) (by simp only[bu]<;>omega)
 ·obtain⟨its,r',pl,hz⟩:=I.tuple hq;have jx:=r'.length;obtain⟨o,ho,hc,n,hd⟩:=pl;exact call_list_seq p (.inr rfl) ho hc hd (fun h' c' kp e=>fin its r' hz h' c' kp e) (by simp only[bu]<;>omega)
theorem wu:jz X (.type "tuple") (fun xs H Q=>∃p ys,xs=[.ref p]∧((jI X.K H p ys∧∀l,H l=none→Q (.ref l) (ij H l (.tup ys)))∨(kR X.K H p ys∧Q (.ref p) H))):=by
 intro dU s σ H xs us Q I r h;obtain⟨p,ys,rfl,h⟩:=h;obtain⟨u,rfl,rx⟩:=oB r;cases rx;rcases h with⟨hq,q⟩ | ⟨hq,q⟩
 ·obtain⟨its,r',pl,hz⟩:=I.list hq;have jx:=r'.length;refine call_tuple_list pl.isList (fun h' kp=>?_) (by simp only[bu]<;>omega);have I1:eW X dU σ H {s with heap:=h'}:=I.kept (t':=s.toks) kp;have I2:eW X dU σ (ij H h'.objs.size (.tup ys)) {s with heap:=h'.push {cls:=.type "tuple",data:=.seq its.toArray}}:=
   I1.laid (t':=s.toks) (fun b o e=>ae _ e) (aJ _) (show gS X.prog X.w _ _ _ (.tup ys) from ⟨hz,its,r',IsTup.new _ _⟩)
  exact⟨.ref h'.objs.size,_,I2,rfl,q _ (I1.hok.fresh (aJ _))⟩
 ·obtain⟨its,r',pl,hz⟩:=I.tuple hq;exact call_tuple_same pl ⟨.ref p,H,I,rfl,q⟩
def NO(K:W.Frag)(T:String)(x:V)(H:Hp):Prop:=match x with
 | .str _=>T = "str"
 | .int _=>T = "int"
 | .ref p=>(T = "list" ∧∃xs,jI K H p xs)∨(T = "tuple" ∧∃o,K.lookup p=some o∧o.cls=.type "tuple" ∧o.dict=none)∨
   (T = "dict" ∧((∃kvs,H p=some (.dK kvs))∨∃kvs,H p=some (.dT kvs)))∨(T = "set" ∧∃S n,H p=some (.set S n))
 | _=>False
theorem L7{dU:List (Addr×Obj)}{σ:St}{H:Hp}{s:Shared}{T:String}{x:V}{v:Value}(I:eW X dU σ H s)(r:gD x v)(ty:NO X.K T x H) :
  s.TypeIs v T∧∀a,v=.ref a→∃ob,s.heap.get? a=some ob∧ob.dict=none:=by
 cases x with
 | str z=>obtain⟨t,rfl⟩:=r;cases (show T = "str" from ty);exact⟨typeIs_str s z t,fun _ e=>nomatch e⟩
 | int i=>obtain⟨t,rfl⟩:=r;cases (show T = "int" from ty);exact⟨typeIs_int s i t,fun _ e=>nomatch e⟩
 | ref p=>
  cases r;rcases ty with⟨rfl,xs,hq⟩ | ⟨rfl,o,hk,hc,hd⟩ | ⟨rfl,hk⟩ | ⟨rfl,S,n,hk⟩
  ·obtain⟨its,_,pl,_⟩:=I.list hq;refine⟨pl.isList.typeIs,fun a e=>?_⟩;cases e;obtain⟨o,n,e,c,hd,_⟩:=pl;exact⟨o,e,hd⟩
  ·refine⟨⟨o,I.kIn p o hk,hc⟩,fun a e=>?_⟩;cases e;exact⟨o,I.kIn _ o hk,hd⟩
  ·have z:∃o,s.heap.get? p=some o∧o.ExactDict:=by
    rcases hk with⟨kvs,hk⟩ | ⟨kvs,hk⟩
    ·obtain⟨_,_,_,_,o,_,_,e,ex,_⟩:=I.hok p _ hk;exact⟨o,e,ex⟩
    ·obtain⟨_,_,_,_,o,_,_,e,ex,_⟩:=I.hok p _ hk;exact⟨o,e,ex⟩
   obtain⟨o,e,ex⟩:=z;refine⟨⟨o,e,ex.1⟩,fun a e2=>?_⟩;cases e2;exact⟨o,e,ex.2.1⟩
  ·obtain⟨o,_,_,_,e,ex,_⟩:=I.hok p _ hk;refine⟨⟨o,e,ex.1⟩,fun a e2=>?_⟩;cases e2;exact⟨o,e,ex.2.1⟩
 | _=>exact False.elim ty
def QB(K:W.Frag)(T:String)(r:V→List V→Hp→VK→Prop)(to:TE)(t:TA):TE:=fun σ H Q=>to σ H fun x H1=>NO K T x H1∧t σ H1 fun xs H2=>r x xs H2 Q
variable {o e:Expr}{es:List Expr}{to:TE}{t:TA}{name:Str}{apos cpos:Pos}{T id:String}{r:V→List V→Hp→VK→Prop}
theorem G4(pa:PlainAttrs T)(slot:Slot T name id)(hty:typeOf (.builtin id)=pure (.type "method_descriptor"))(hm:QG X id r)(ho:PE X o to)(ha:PA X (e::es) t)
  (hbase:attributeBase o name X.env (eval o X.env)=eval o X.env:=by rfl)
  (hfew:((backTo cpos (starEach (e::es) X.env)).all (fun x=>!x.1)&&(backToKw cpos (keywordEach [] X.env)).all (fun x=>x.1.isSome)
   && decide ((e::es).length+([]:List Keyword).length+(if ([]:List Keyword).isEmpty then 0 else 1)<30))=true:=by rfl)
  (hline:(apos.endLine == cpos.line)=true:=by rfl) (hs:starEach (e::es) X.env=(false,eval e X.env)::starEach es X.env:=by rfl) (hplain:(backTo cpos (starEach es X.env)).any (·.1)=false:=by rfl) :
  PE X (.Call (.Attribute o name apos) (e::es) [] cpos) (QB X.K T r to t):=by
 intro dU s σ H Q I h;refine wpAny_Call_method_late hbase hfew hline rfl (iL (ho dU s σ H _ I h) fun v s1 ⟨x,H1,I1,r1,ty,q1⟩=>?_);obtain⟨h1,h2⟩:=L7 I1 r1 ty;refine⟨T,id,pa,slot,hty,h1,h2,?_⟩;have hA:=ha cpos dU s1 σ H1 _ I1 q1;rw[hs] at hA ⊢;refine Calls.callWith_builtin (by show (false||(backTo cpos (starEach es X.env)).any (·.1))=false;rw[hplain]<;>rfl) (Calls.evalArgs_plain ?_);exact iL hA fun us s2 ⟨vs,H2,I2,r2,q2⟩=>hm dU s2 σ H2 x vs v us Q I2 r1 r2 q2
end
end L2
namespace L2
open PySem PySem.Spec PyProof.Rows
def QH(X:Cx)(id:String)(r:V→List V→Hp→VK→Prop):Prop:=
 ∀(dU:List (Addr×Obj)) (s:Shared) (σ:St) (H:Hp) (x:V) (xs:List V) (v:Value) (us:List Value) (Q:VK),eW X dU σ H s→gD x v→fP xs us→r x xs H Q→
  wpAny (model X.prog X.w) X.A (call (.builtin id) (v::us)) (EP X dU σ Q) X.xe s
theorem fP.one:∀{x:V} {us:List Value},fP [x] us→∃u,us=[u]∧gD x u
 | _,_,.cons r .nil=>⟨_,rfl,r⟩
theorem fP.rep{xs:List V}{us:List Value}(h:fP xs us):∀k:Nat,fP (List.replicate k xs).flatten (List.replicate k us).flatten
 | 0=>.nil
 | k+1=>by rw[bN,bN,bO,bO];exact fP.append h (fP.rep h k)
theorem o6(its:List Value):∀(k:Nat) (acc:List Value),
  List.foldl (fun x1 x2=>x1++x2) acc.toArray (List.replicate k its.toArray)=(acc++(List.replicate k its).flatten).toArray
 | 0,acc=>by simp
 | k+1,acc=>by
  have e:acc.toArray++its.toArray=(acc++its).toArray:=by simp
  have e2:(acc++its)++(List.replicate k its).flatten=acc++(List.replicate (k+1) its).flatten:=by rw[bN,bO,List.append_assoc]
  rw[←e2,←o6 its k (acc++its),←e,bN,List.foldl_cons]
section
variable {X:Cx}{dU:List (Addr×Obj)}{σ:St}{H:Hp}{s:Shared}{l b:Addr}{xs ys zs:List V}
theorem eW.lset{its its':List Value}{n:Nat}{f:Array Value→Array Value}{t':Nat}(I:eW X dU σ H s)(hH:H l=some (.lst xs))
  (e:s.heap.get? l=some {cls:=.type "list",data:=.seq its.toArray n}) (hf:f its.toArray=its'.toArray) (hv:fP ys its') (hz:ys.length≤sizeLine) :
  eW X dU σ (ij H l (.lst ys)) {s with heap:=s.heap.update l (Obj.mapSeq f),toks:=t'}:=by
 have q:=PySem.IsL.update e f;rw[hf] at q;refine I.write (x:=l) (e:=l) (by rw[hH];exact trivial) (.inl rfl) (fun b' u hb hu=>(Heap.get?_update_other s.heap (Obj.mapSeq f) (Ne.symm hb)).trans hu) ⟨_,q⟩ ?_;exact⟨hz,its',_,hv,q⟩
theorem eW.lnew{its:List Value}{t':Nat}(I:eW X dU σ H s)(hv:fP ys its)(hz:ys.length≤sizeLine) :
  eW X dU σ (ij H s.heap.objs.size (.lst ys)) {s with heap:=s.heap.push {cls:=.type "list",data:=.seq its.toArray},toks:=t'}:=
 I.laid (fun _ _ q=>ae _ q) (aJ _) ⟨hz,its,0,hv,ar _ rfl⟩
theorem eW.fresh(I:eW X dU σ H s):H s.heap.objs.size=none:=I.hok.fresh (aJ _)
theorem eW.lstM(I:eW X dU σ H s)(hH:H l=some (.lst xs)):xs.length≤sizeLine∧∃(its:List Value) (n:Nat),fP xs its∧xs.length=its.length∧s.heap.get? l=some {cls:=.type "list",data:=.seq its.toArray n}:=by obtain⟨z,its,n,r,e⟩:=I.hok l _ hH;exact⟨z,its,n,r,r.length,e⟩
theorem Gf{n:Nat}(h:n≤sizeLine):Builtin.List.listTooLong n=false:=by unfold Builtin.List.listTooLong;exact aA (by omega)
end
section
variable {X:Cx}
noncomputable def ye:V→List V→Hp→VK→Prop:=fun x vs H Q=>∃l xs y,x=.ref l∧vs=[y]∧H l=some (.lst xs)∧xs.length<sizeLine∧Q .non (ij H l (.lst (xs++[y])))
theorem r6:QH X "list.append" ye:=by intro dU s σ H x vs v us Q I rx rv h;obtain⟨l,xs,y,rfl,rfl,hH,hz,q⟩:=h;cases rx;obtain⟨u,rfl,ru⟩:=rv.one;obtain⟨z,its,n,r,hl,e⟩:=I.lstM hH;refine call_meets F.slot_list_append ⟨_,e,rfl⟩ F.entry_list_append (F.args_list_append_2 _ _) (PySem.list_append l its.toArray n u (by rw[bu];omega)) ⟨e,?_⟩;refine⟨.non,_,I.lset (its':=its++[u]) hH e (by simp) (r.append (.cons ru .nil)) ?_,rfl,q⟩;rw[aS,bP];omega
def M9:R2:=fun x y H Q=>∃l b xs zs,x=.ref l∧y=.ref b∧H l=some (.lst xs)∧H b=some (.lst zs)∧xs.length+zs.length≤sizeLine∧∀p,H p=none→Q (.ref p) (ij H p (.lst (xs++zs)))
theorem F8:oo X (binaryOp .Add) M9:=by
 intro dU s σ H x y v u Q I rx ry h;obtain⟨l,b,xs,zs,rfl,rfl,hH,hB,hz,q⟩:=h;cases rx;cases ry;obtain⟨z,its,n,r,hl,e⟩:=I.lstM hH;obtain⟨z2,its2,n2,r2,hl2,e2⟩:=I.lstM hB;refine PySem.P.add_list e e2 ?_ (by rw[bu,bu];omega);have ea:its.toArray++its2.toArray=(its++its2).toArray:=by simp
 rw[ea];exact⟨.ref _,_,I.lnew (t':=s.toks) (r.append r2) (by rw[aS];omega),rfl,q _ I.fresh⟩
def Oy:R2:=fun x y H Q=>∃l k xs,x=.ref l∧y=.int k∧H l=some (.lst xs)∧-(2 ^ 63)≤k∧k<2 ^ 63∧xs.length*k.toNat≤sizeLine∧
 ∀p,H p=none→Q (.ref p) (ij H p (.lst (List.replicate k.toNat xs).flatten))
theorem y9{α:Type}(xs:List α)(k:Nat):(List.replicate k xs).flatten.length=k*xs.length:=by
 induction k with
 | zero=>simp
 | succ k ih=>rw[bN,bO,aS,ih,bQ,Nat.add_comm]
theorem MZ:oo X (binaryOp .Mult) Oy:=by
 intro dU s σ H x y v u Q I rx ry h;obtain⟨l,k,xs,rfl,rfl,hH,h1,h2,hz,q⟩:=h;cases rx;obtain⟨t,rfl⟩:=ry;obtain⟨z,its,n,r,hl,e⟩:=I.lstM hH;have jx:its.toArray.size*k.toNat≤sizeLine:=by rw[bu,←hl];exact hz
 have hcap:¬its.toArray.size*k.toNat>(2 ^ 63 - 1) / 8:=by
  have:(sizeLine:Nat)≤(2 ^ 63 - 1) / 8:=by decide
  omega
 have hfit:¬(!Builtin.List.listFitsIndex k)=true:=by rw[fitsIndex_both h1 h2];exact aG
 have hlong:¬Builtin.List.listTooLong (its.toArray.size*k.toNat)=true:=by rw[Gf jx];exact aG
 have hnew:List.foldl (fun x1 x2=>x1++x2) #[] (List.replicate (if its.toArray.isEmpty=true then 0 else k.toNat) its.toArray)=(List.replicate k.toNat its).flatten.toArray:=by
  have f0:∀m:Nat,List.foldl (fun x1 x2=>x1++x2) #[] (List.replicate m its.toArray)=(List.replicate m its).flatten.toArray:=fun m=>by have:=o6 its m [];rw[bR] at this;exact this
  rw[f0];cases its with
  | nil=>simp
  | cons a r'=>rw[aQ (by simp)]
 refine wpAny_binaryOp_repeat_ref (T:= "list") (U:= "int") (by decide) ⟨_,e,rfl⟩ (fun s'=>typeIs_int s' k t) noFill_list_mul F.fills_int_mul F.slot_int_rmul repeat_list F.slot_int_index.lookup
  (call_meets F.slot_int_rmul (typeIs_int s k t) F.entry_int_rmul (F.args_int_rmul_2 _ _) (int___rmul___int_list k t l its.toArray n)
   ⟨e,rfl,⟨_,e,rfl⟩,call_meets F.slot_list_mul ⟨_,e,rfl⟩ F.entry_list_mul (F.args_list_mul_2 _ _) (AutoListH.list___mul___list_int_3 l its.toArray n k t hfit hcap hlong) ⟨e,?_⟩⟩)
 rw[hnew];exact⟨.ref _,_,I.lnew (t':=s.toks) (r.rep k.toNat) (by rw[y9,Nat.mul_comm];exact hz),rfl,q _ I.fresh⟩
end
section
variable {prog:Program}{w:World}{A:Around}{E:Value→Shared→Prop}{s:Shared}
end
section
variable {X:Cx}
end
end L2
namespace Att
open PySem PySem.W PySem.Calls PyProof.Rows
theorem tU{P:Params}{h:Heap}:∀(ns:List Int) (vs:List Value),WellAll P h vs (ns.map WData.int)→IntsAre vs ns:=by
 intro ns;induction ns with
 | nil=>intro vs w;rw[bS] at w;cases w;exact .nil
 | cons n ns ih=>
  intro vs w;rw[bx] at w;cases w with
  | cons a b=>cases a;exact .cons _ _ (ih _ b)
theorem script_of{l:OpenLaw}{n:Nat}(hn:l.most=some n){P:Params}{h:Heap}{args:List WData}{vals:List Value}
  (hpre:l.row.toRowW.claim.pre args=true) (hwl:WellAll P h vals args) :
  ∃a vs ns,vals=[Value.ref a]∧args=[WData.list (ns.map WData.int)]∧h.get? a=some {cls:=.type "list",data:=.seq vs.toArray}∧IntsAre vs ns∧ns.length≤n:=by
 have hsh:WShape.hasAll [] args [.list .int]=true:=(pre_splitW hpre).1;have hc:l.pre.holds [] {args:=args}=true:=(pre_splitW hpre).2;obtain⟨d,r,rfl,h1,h2⟩:=hasAllW_cons hsh;obtain rfl:=hasAllW_nil h2;obtain⟨xs,rfl,h3⟩:=hasW_list h1;obtain⟨ns,rfl⟩:=items_int h3;have jx:ns.length≤n:=by
  unfold OpenLaw.pre at hc;have h4:(WTm.not (.lt (.lit (.int (n:Int))) (.len (.arg 0)))).holds [] {args:=[.list (ns.map .int)]}=true:=by have h4:=(holds_andW hc).1;rw[hn] at h4;exact h4
  have h5:=condW_of h4 (w_not (w_lt w_lit (w_len_list (w_arg rfl))));rw[aw] at h5;refine Nat.le_of_not_lt fun q=>?_;have q':(n:Int)<((ns.length:Nat):Int):=by omega
  first
   | (rw[aB q'] at h5;exact absurd h5 (by decide))
   | (simp at h5;omega)
 cases hwl with
 | cons w1 w2=>
  cases w2;cases w1 with
  | list ho zC=>exact⟨_,_,ns,rfl,rfl,ho,tU ns _ zC,jx⟩
theorem post_true(l:OpenLaw)(args:List WData):l.row.toRowW.claim.post args (.bool true) args=true:=
 postW_of (r:=l.row.toRowW) (X:=(true == true))
  (show WShape.has [] (.bool true) .bool=true by first | rfl | decide | simp[WShape.has,WShape.arms,WShape.armsAll])
  (show (WTm.eq .res (.lit (.bool true))).value [] {args:=args,res:=some (.bool true),after:=args}=some (.bool (true == true)) from w_eq_bool (w_res rfl) w_lit) rfl
section
variable {prog:Program}{w:World}{A:Around}{E:Value→Shared→Prop}{s:Shared}{K:Frag}
end
end Att
namespace L2
open PySem PySem.Spec PyProof.Rows
theorem xj:∀{vs:List Value} {ns:List Int},IntsAre vs ns→fP (ns.map V.int) vs
 | _,_,.nil=>.nil
 | _,_,.cons n t h=>.cons ⟨t,rfl⟩ (xj h)
def Lr(H:Hp):Prop:=∀b,H b=none∨∃o xs,H b=some (.frz o (.lst xs))
theorem FY{P:Program}{w:World}{K:W.Frag}{mg mb:Str→Option Value}{CX:Fd}{k:Nat}{fa a:Addr}{fd:FuncData}{x:Str}{sp:Sp}{s₁:Shared}{vs:List Value}{ns:List Int}
  (KX:K.In s₁.heap) (hns:s₁.heap.Ns mainGlobals mg) (hb:s₁.heap.Ns builtinsNs mb) (hbb:∀x:Str,x≠ "__name__" →mb x=bootBuiltins x) (hlim:s₁.heap.NoLimit) (hg:s₁.gens = #[])
  (ha:s₁.heap.get? a=some {cls:=.type "list",data:=.seq vs.toArray}) (hi:IntsAre vs ns) (hl:ns.length≤sizeLine) (hr:hV k callerA)
  (F:∀base:Heap,K.In base→base.Ns mainGlobals mg→mC P w K mg base CX k fa fd [x] sp) (hbind:∀(s:Shared) (u:Value),BindsTo s fd ⟨[u],[]⟩ [(x,u)])
  (hsp:∀H:Hp,Lr H→jI K H a (ns.map V.int)→sp [.ref a] H (fun v _=>v=.bl true) fun _ _ _=>False)
  (hCX:∀H e s',CX [] H s₁ (fun _ _ _=>False) e s'→False) :
  codeAny (model P w) callerA (.call (.ref fa) ⟨[.ref a],[]⟩) (fun r s'=>r=.ok (.ret (.bool true))∧OldK s₁.heap s'.heap∧s'.os=s₁.os∧AllBare s'.gens) s₁:=by
 have rv:=xj hi;have lenV:=hi.length;have core:∀H:Hp,Lr H→jI K H a (ns.map V.int)→pG P w H s₁.heap→(∀b,H b≠none→b=a)→(H a≠none→K.lookup a=none)→
   codeAny (model P w) callerA (.call (.ref fa) ⟨[.ref a],[]⟩) (fun r s'=>r=.ok (.ret (.bool true))∧OldK s₁.heap s'.heap∧s'.os=s₁.os∧AllBare s'.gens) s₁:=by
  intro H hO hS hok hA hK;have base_of:∀{b:Addr} {o:Obj},s₁.heap.get? b=some o→H b=none→(yE s₁.heap H).get? b=some o:=fun e n=>FG e n;have noA:∀{b:Addr} {o:Obj} {es:Array DictEntry} {ep:Nat},s₁.heap.get? b=some o→o.data=.dict es ep→H b=none:=fun {b o es ep} e d=>by
   cases q:H b with
   | none=>rfl
   | some u=>have e':b=a:=hA b (by rw[q];simp);subst e';rw[ha] at e;cases e;have d':Data.seq vs.toArray _=Data.dict es ep:=d;cases d'
  have nsK:∀{b:Addr} {m:Str→Option Value},s₁.heap.Ns b m→(yE s₁.heap H).Ns b m:=fun {b m} ⟨o,es,ep,e,d,r⟩=>⟨o,es,ep,base_of e (noA e d),d,r⟩;have hKb:K.In (yE s₁.heap H):=fun b o e=>base_of (KX b o e) (by
   cases q:H b with
   | none=>rfl
   | some u=>have e':b=a:=hA b (by rw[q];simp);subst e';rw[hK (by rw[q];simp)] at e;cases e)
  have hM:Mod K mg (yE s₁.heap H):=⟨hKb,nsK hns,⟨mb,nsK hb,hbb⟩,let ⟨mc,h1,h2⟩:=hlim;⟨mc,nsK h1,h2⟩⟩;have e0:Bp P w K mg (yE s₁.heap H) callerA [] s₁ H:=⟨rfl,hM,fun b o e=>KL e,Nat.le_of_eq (Ec _ _),trivial,fun b hb=>absurd (show b∈([]:List Addr) from hb) (by simp),hok,.of_eq hg⟩;refine codeAny_mono ((F _ hKb (nsK hns)).run callerA [] s₁ H ⟨[.ref a],[]⟩ [.ref a] [.ref a] _ _ hr e0 (hbind s₁ (.ref a)) (.cons rfl .nil) (hsp H hO hS)) fun r s' h=>?_;cases r with
  | error e=>exact (hCX H e s' h).elim
  | ok fl=>
   cases fl with
   | next=>exact False.elim h
   | brk=>exact False.elim h
   | cont=>exact False.elim h
   | ret u=>
    obtain⟨v,H',os,bare,un,hok',r',q⟩:=h;have q':v=.bl true:=q;subst q';obtain rfl:u=Value.bool true:=r';refine⟨rfl,OldK.of_keep fun b o e=>?_,os,bare⟩;cases q:H b with
    | none=>exact un.keep b o e q (by intro z;exact absurd (show b∈([]:List Addr) from z) (by simp)) (by simp)
    | some u=>
     rcases hO b with z | ⟨ob,xs,z⟩
     ·rw[q] at z;cases z
     ·have z2:=un.frzs b ob _ z;obtain⟨e1,_⟩:=hok b _ z;obtain⟨e2,_⟩:=hok' b _ z2;rw[e] at e1;cases e1;exact e2
 cases hk:K.lookup a with
 | some o=>have e:=KX a o hk;rw[ha] at e;cases e;refine core (fun _=>none) (fun _=>.inl rfl) (.inr ⟨_,vs.toArray,_,hk,rfl,rfl,rfl,by rw[bu,lenV];exact hl,by simpa using rv⟩) (fun b u z=>by have z':(none:Option HO)=some u:=z;cases z') (fun b z=>absurd rfl z) fun z=>absurd rfl z
 | none=>
  refine core (fun b=>if b=a then some (.frz {cls:=.type "list",data:=.seq vs.toArray} (.lst (ns.map V.int))) else none) (fun b=>?_) (.inl (.inr ⟨{cls:=.type "list",data:=.seq vs.toArray},aP rfl⟩)) (fun b u z=>?_) (fun b z=>?_) fun _=>hk
  ·by_cases hb:b=a
   ·exact .inr ⟨_,_,aP hb⟩
   ·exact .inl (aQ hb)
  ·by_cases hb:b=a
   ·have z':=(aP hb).symm.trans z;cases z';subst hb;exact⟨ha,by rw[aw];exact hl,vs,_,rv,ha⟩
   ·have z':=(aQ hb).symm.trans z;cases z'
  ·by_cases hb:b=a
   ·exact hb
   ·exact absurd (aQ hb) z
end L2
namespace L2
open PySem PySem.Spec PyProof.Rows
end L2
namespace L2
open PySem PySem.Spec PyProof.Rows
noncomputable def jF(s:Stmt)(j:Nat):Stmt:=match s with
 | .ClassDef _ _ _ body _ _ _ _ _ _ _=>body.getD j (.Pass ⟨0,0,0,0⟩)
 | _=>.Pass ⟨0,0,0,0⟩
noncomputable def iG(s:Stmt):Arguments:=match s with
 | .FunctionDef _ a _ _ _ _ _ _ _ _=>a
 | _=>{posonlyargs:=[],args:=[],vararg:=none,kwonlyargs:=[],kw_defaults:=[],kwarg:=none,defaults:=[]}
noncomputable def gC(s:Stmt):List Stmt:=match s with
 | .FunctionDef _ _ b _ _ _ _ _ _ _=>b
 | _=>[]
noncomputable def eg(s:Stmt):Scope:=match s with
 | .FunctionDef _ _ _ _ _ _ sc _ _ _=>sc
 | _=>{kind:=.function,names:=[],isGenerator:=false,isCoroutine:=false}
noncomputable abbrev yh:Fd:=fun _ _ _ _ _ _=>False
noncomputable abbrev E0:XK:=fun _ _ _=>False
theorem Gb{X:Cx}:sA yh X E0:=fun _ _ _ _ _ _ _ h=>h.elim
structure JM(K:W.Frag)(x qual:Str)(st:Stmt)(f:Addr)(fd:FuncData):Prop where
 ex:∃(oc:Value) (od:Option Addr) (kV doc pm:Value) (an:Option Addr) (cdv ct:Value) (osl:Array (Option Value)),
  fd=W.fnOf x qual (iG st) (gC st) (eg st) .none kV doc pm an cdv ct∧K.lookup f=some ⟨oc,od,.func fd,osl⟩∧W.codeIn K cdv qual=true
 kp:W.keepIn K (.ref f)=true
section
variable {P:Program}{w:World}{K:W.Frag}{mg:Str→Option Value}{base:Heap}
theorem JM.ok{x qual:Str}{st:Stmt}{f:Addr}{fd:FuncData}{N ps:List Str}{k:Nat}{sp:Sp}(F:JM K x qual st f fd)(S:eF N ps (eg st))(len:∀vs H Q E,sp vs H Q E→vs.length=ps.length)
  (hbody:∀(cdv:Value) (A:Around) (outer:List Env) (s:Shared) (H:Hp) (vs:List V) (Q:VK) (E:XK),hV k (A.deeper (envOfC qual (eg st) s.heap.objs.size f cdv))→sp vs H Q E→
   ∃t,Af (rz yh P w K mg base N qual (eg st) f cdv A outer s H E).nox (gC st) t∧t {nx:=fun _ H'=>Q .non H',rt:=Q} (kQ N vs) H):mC P w K mg base yh (k+1) f fd ps sp:=by
 obtain⟨oc,od,kV,doc,pm,an,cdv,ct,osl,rfl,lk,hcd⟩:=F.ex;refine OO lk hcd S len fun A outer s H vs Q E hr hsp=>?_;obtain⟨t,h,q⟩:=hbody cdv A outer s H vs Q E hr hsp;exact⟨t,h.nox,q⟩
theorem JM.binds{x qual:Str}{st:Stmt}{f:Addr}{fd:FuncData}{ps:List Str}(F:JM K x qual st f fd)
  (h:∀(kV doc pm:Value) (an:Option Addr) (cdv ct:Value) (us:List Value),us.length=ps.length→bindArgs (W.fnOf x qual (iG st) (gC st) (eg st) .none kV doc pm an cdv ct) ⟨us,[]⟩=pure (ps.zip us)):oC K fd ps []:=by
 obtain⟨oc,od,kV,doc,pm,an,cdv,ct,osl,rfl,lk,hcd⟩:=F.ex;exact .all (h kV doc pm an cdv ct)
theorem Cd{x qual:Str}{st:Stmt}{f:Addr}{oc:Value}{od an:Option Addr}{osl:Array (Option Value)}{kV doc pm cdv ct:Value}(l:K.lookup f=some ⟨oc,od,.func (W.fnOf x qual (iG st) (gC st) (eg st) .none kV doc pm an cdv ct),osl⟩)
  (c:W.codeIn K cdv qual=true) (k:W.keepIn K (.ref f)=true):JM K x qual st f (W.fnOf x qual (iG st) (gC st) (eg st) .none kV doc pm an cdv ct):=⟨⟨oc,od,kV,doc,pm,an,cdv,ct,osl,rfl,l,c⟩,k⟩
end
theorem OD{A:Around}{k:Nat}(hr:hV k A):A.units+1<cLine:=bT (Nat.add_le_add_left (by decide:1≤64) _) hr.units
section
variable {X:Cx}
theorem pv(i:Nat){x:Str}{pos:Pos}(hN:X.N[i]? = some x:=by rfl)(hv:OV X.env.scope x:=by first | exact Or.inl rfl | exact Or.inr (Or.inl rfl) | exact Or.inr (Or.inr rfl))(hd:(x == ("__debug__" : Str))=false:=by decide)
  (hcd:(x == ("__classdict__" : Str))=false:=by decide):PE X (.Name x pos) (lO i):=LJ hN hv hd hcd
end
def fv(H H':Hp):Prop:=∀b o,H b=some o→H' b=some o
theorem fv.refl(H:Hp):fv H H:=fun _ _ h=>h
theorem fv.trans{H H1 H2:Hp}(a:fv H H1)(b:fv H1 H2):fv H H2:=fun c o h=>b c o (a c o h)
theorem fv.seq{K:W.Frag}{H H':Hp}{a:Addr}{xs:List V}(e:fv H H')(h:jI K H a xs):jI K H' a xs:=by
 rcases h with (h | ⟨o,h⟩) | h
 ·exact .inl (.inl (e _ _ h))
 ·exact .inl (.inr ⟨o,e _ _ h⟩)
 ·exact .inr h
end L2
namespace L2
open PySem PySem.Spec PyProof.Rows
section
variable {P:Program}{w:World}{H:Hp}{h:Heap}{a:Addr}{o:HO}
theorem pG.track(ok:pG P w H h)(hn:H a=none)(new:gS P w (ij H a o) h a o):pG P w (ij H a o) h:=fun b u e=>by
 by_cases hb:b=a
 ·subst hb;rw[eP] at e;cases e;exact new
 ·rw[eO hb] at e;refine (ok b u e).stay (fun _ _ _ q=>q) (fun c q=>?_) fun c xs q=>?_
  ·rw[eO (fH q hn)];exact q
  ·rw[eO (fH q hn)];exact q
end
theorem eW.track{X:Cx}{dU:List (Addr×Obj)}{σ:St}{H:Hp}{s:Shared}{a:Addr}{o:HO}(I:eW X dU σ H s)(hn:H a=none)(h1:a∈X.ex∨X.s₀.heap.objs.size≤a)
  (hL:a≠X.env.locals) (h2:∀x c,X.env.cells.lookup x=some c→c≠a) (h3:∀p∈X.pn++dU,p.1≠a) (new:gS X.prog X.w (ij H a o) s.heap a o):eW X dU σ (ij H a o) s:=by
 have J:=I.step (h':=s.heap) (H':=ij H a o) (g':=s.gens) (t':=s.toks) (d':=s.drawn) (ch:=[a])
  (fun b hb=>by
   have e:b=a:=by simpa using hb
   subst e;exact⟨h1,hL,h2,h3⟩)
  (fun _ _ _ _ _ e _=>e) (fun _ u _ _ _ e _=>⟨u.slots,e⟩)
  (fun b u hb _ n=>by rw[eO (by simpa using hb)];exact n)
  (fun _ u _ e=>⟨u,e⟩)
  (fun b xs q=>by rw[eO (fH q hn)];exact q)
  (fun b u v q=>by rw[eO (fH q hn)];exact q)
  (fun b ps q=>⟨#[],by rw[eO (fH q hn),q];simp⟩)
  (fun _ q=>q) (I.hok.track hn new) I.bare
 exact J
noncomputable def kY(env:Env):List (Str×NameKind)→List (Str×Addr)→List (Str×Addr)
 | [],acc=>acc
 | (n,k)::r,acc=>if k == NameKind.free then (match env.cells.lookup n with
  | some c=>kY env r ((n,c)::acc)
  | none=>kY env r acc) else kY env r acc
theorem pS{scope:Scope}{env:Env}(h:∀y∈scope.names,y.2=.free→∃c,env.cells.lookup y.1=some c):closureFor scope env=pure (kY env scope.names []):=by
 have all:∀(l:List (Str×NameKind)) (acc:List (Str×Addr)),(∀y∈l,y.2=.free→∃c,env.cells.lookup y.1=some c)→
   (forIn l acc fun (x:Str×NameKind) (cs:List (Str×Addr))=>(if (x.2 == NameKind.free)=true then (do
    let a ←cellOf env x.1
    pure (ForInStep.yield ((x.1,a)::cs))) else pure (ForInStep.yield cs):Sem _))=pure (kY env l acc):=by
  intro l;induction l with
  | nil=>intro acc _;rfl
  | cons y r ih=>
   intro acc hl;obtain⟨n,k⟩:=y;rw[List.forIn_cons];by_cases hk:(k == NameKind.free)=true
   ·obtain⟨c,hc⟩:=hl (n,k) bf (by simpa using hk);have hc':env.cells.lookup n=some c:=hc;have e:cellOf env n=pure c:=by unfold cellOf;rw[hc']
    simp only[hk,if_true,e,pure_bind];rw[ih _ fun y hy=>hl y (bg _ hy)];show pure (kY env r ((n,c)::acc))=pure (if (k == NameKind.free)=true then (match env.cells.lookup n with
     | some c=>kY env r ((n,c)::acc)
     | none=>kY env r acc) else kY env r acc)
    rw[aP hk,hc']
   ·have hk':(k == NameKind.free)=false:=by simpa using hk
    simp only[hk',bU,if_false,pure_bind];rw[ih _ fun y hy=>hl y (bg _ hy)];show pure (kY env r acc)=pure (if (k == NameKind.free)=true then (match env.cells.lookup n with
     | some c=>kY env r ((n,c)::acc)
     | none=>kY env r acc) else kY env r acc)
    rw[aQ hk]
 have:=all scope.names [] h;unfold closureFor;simp only[pure_bind,bind_pure] at this ⊢;exact this
theorem ki{env:Env}{x:Str}{c:Addr}:∀{l:List (Str×NameKind)} {acc:List (Str×Addr)},(∀y d,acc.lookup y=some d→env.cells.lookup y=some d)→(kY env l acc).lookup x=some c→env.cells.lookup x=some c
 | [],acc,ha,h=>ha x c h
 | (n,k)::r,acc,ha,h=>by
  unfold kY at h;by_cases hk:(k == NameKind.free)=true
  ·rw[aP hk] at h;cases e:env.cells.lookup n with
   | none=>rw[e] at h;exact ki ha h
   | some d=>
    rw[e] at h;refine ki (fun y d' hy=>?_) h;rw[bV] at hy;cases q:y == n with
    | true=>rw[q] at hy;cases hy;rw[beq_iff_eq.mp q];exact e
    | false=>rw[q] at hy;exact ha y d' hy
  ·rw[aQ hk] at h;exact ki ha h
theorem o5{env:Env}{x:Str}:∀{l:List (Str×NameKind)} {acc:List (Str×Addr)},(∃c,acc.lookup x=some c)→∃c,(kY env l acc).lookup x=some c
 | [],_,h=>h
 | (n,k)::r,acc,h=>by
  unfold kY;by_cases hk:(k == NameKind.free)=true
  ·rw[aP hk];cases e:env.cells.lookup n with
   | none=>exact o5 h
   | some d=>
    refine o5 ?_;rw[bV];cases q:x == n with
    | true=>exact⟨d,rfl⟩
    | false=>exact h
  ·rw[aQ hk];exact o5 h
theorem ng{env:Env}{x:Str}:∀{l:List (Str×NameKind)} {acc:List (Str×Addr)},(x,NameKind.free)∈l→(∃c,env.cells.lookup x=some c)→∃c,(kY env l acc).lookup x=some c
 | (n,k)::r,acc,hm,hc=>by
  rcases aE.mp hm with e | hm
  ·cases e;obtain⟨c,hc⟩:=hc;unfold kY;rw[aP (by rfl),hc];refine o5 ⟨c,?_⟩;rw[bV,beq_self_eq_true]
  ·unfold kY;by_cases hk:(k == NameKind.free)=true
   ·rw[aP hk];cases env.cells.lookup n with
    | none=>exact ng hm hc
    | some d=>exact ng hm hc
   ·rw[aQ hk];exact ng hm hc
theorem qW{scope:Scope}{env:Env}{x:Str}(h:(relabel scope env).names.lookup x=some .cell∨(relabel scope env).names.lookup x=some .free):(x,NameKind.free)∈scope.names∨scope.names.lookup x=some .cell:=by
 have all:∀(l:List (Str×NameKind)),∀k,(k=NameKind.cell∨k=NameKind.free)→
   (l.map fun (n,k)=>if (k == NameKind.free&&env.scope.kind == .function&&env.kindOf n == some .cell) then (n,NameKind.cell) else (n,k)).lookup x=some k→(x,NameKind.free)∈l∨l.lookup x=some .cell:=by
  intro l;induction l with
  | nil=>intro k _ h;simp at h
  | cons y r ih=>
   intro k hk h;obtain⟨n,k0⟩:=y;rw[bx] at h;by_cases hc:(k0 == NameKind.free&&env.scope.kind == .function&&env.kindOf n == some .cell)=true
   ·have hf:k0=.free:=by simp only[bJ,beq_iff_eq] at hc;exact hc.1.1
    simp only[hc,if_true] at h;rw[bV] at h;cases q:x == n with
    | true=>rw[hf,beq_iff_eq.mp q];exact .inl bf
    | false=>
     rw[q] at h;rcases ih k hk h with z | z
     ·exact .inl (bg _ z)
     ·exact .inr (by rw[bV,q];exact z)
   ·simp only[hc,bU,if_false] at h;rw[bV] at h;cases q:x == n with
    | true=>
     rw[q] at h;have e:k0=k:=by simpa using h
     rcases hk with rfl | rfl
     ·exact .inr (by rw[bV,q,e])
     ·rw[e,beq_iff_eq.mp q];exact .inl bf
    | false=>
     rw[q] at h;rcases ih k hk h with z | z
     ·exact .inl (bg _ z)
     ·exact .inr (by rw[bV,q];exact z)
 rcases h with h | h
 ·exact all scope.names _ (.inl rfl) h
 ·exact all scope.names _ (.inr rfl) h
theorem yx{scope:Scope}{env:Env}{x:Str}(h:scope.names.lookup x=some .free):(relabel scope env).names.lookup x=some .cell∨(relabel scope env).names.lookup x=some .free:=by
 have all:∀(l:List (Str×NameKind)),l.lookup x=some .free→
   (l.map fun (n,k)=>if (k == NameKind.free&&env.scope.kind == .function&&env.kindOf n == some .cell) then (n,NameKind.cell) else (n,k)).lookup x=some .cell∨
   (l.map fun (n,k)=>if (k == NameKind.free&&env.scope.kind == .function&&env.kindOf n == some .cell) then (n,NameKind.cell) else (n,k)).lookup x=some .free:=by
  intro l;induction l with
  | nil=>intro h;simp at h
  | cons y r ih=>
   intro h;obtain⟨n,k⟩:=y;rw[bx];rw[bV] at h;cases q:x == n with
   | true=>
    rw[q] at h;have hk:k=.free:=by simpa using h
    by_cases hc:(k == NameKind.free&&env.scope.kind == .function&&env.kindOf n == some .cell)=true
    ·refine .inl ?_;simp only[hc,if_true];rw[bV,q]
    ·refine .inr ?_;simp only[hc,bU,if_false];rw[bV,q,hk]
   | false=>
    rw[q] at h;by_cases hc:(k == NameKind.free&&env.scope.kind == .function&&env.kindOf n == some .cell)=true
    ·simp only[hc,if_true];rw[bV,q];exact ih h
    ·simp only[hc,bU,if_false];rw[bV,q];exact ih h
 exact all scope.names h
def EI(X:Cx)(ifs:List Expr)(t:TT):Prop:=
 ∀(dU:List (Addr×Obj)) (s:Shared) (σ:St) (H:Hp) (Q:Bool→Hp→Prop),eW X dU σ H s→t σ H Q→
  wpAny (model X.prog X.w) X.A (forIn ifs true fun c r=>if r=true then do let ok ←isTrue c X.env (eval c X.env);pure (ForInStep.yield ok) else pure (ForInStep.yield r)) (TP X dU σ Q) X.xe s
def LD:TT:=fun _ H Q=>Q true H
theorem JT{X:Cx}:EI X [] LD:=fun _ _ _ H _ I h=>wpAny_tests_nil ⟨H,I,h⟩
theorem KG{X:Cx}{c:Expr}{t:TT}(hc:PT X c t):EI X [c] t:=fun dU s σ H Q I h=>wpAny_tests_one (hc dU s σ H Q I h)
theorem mj{x:Str}{c:Addr}:∀(names:List (Str×NameKind)) (k:Nat) (acc:List (Str×Addr)),(cellsFrom k names acc).lookup x=some c→acc.lookup x=some c∨(k≤c∧(x,NameKind.cell)∈names)
 | [],_,_,h=>.inl h
 | (n,kd)::r,k,acc,h=>by
  unfold cellsFrom at h;split at h
  ·rename_i hk;rcases mj r _ _ h with q | ⟨q,m⟩
   ·rw[bV] at q;cases hb:x == n with
    | true=>rw[hb] at q;cases q;refine .inr ⟨aJ _,?_⟩;rw[beq_iff_eq.mp hb,beq_iff_eq.mp hk];exact bf
    | false=>rw[hb] at q;exact .inl q
   ·exact .inr ⟨bW q,bg _ m⟩
  ·rcases mj r _ _ h with q | ⟨q,m⟩
   ·exact .inl q
   ·exact .inr ⟨q,bg _ m⟩
theorem kj{x:Str}:∀(names:List (Str×NameKind)) (k:Nat) (acc:List (Str×Addr)),(x,NameKind.cell)∉names→(cellsFrom k names acc).lookup x=acc.lookup x
 | [],_,_,_=>rfl
 | (n,kd)::r,k,acc,h=>by
  unfold cellsFrom;have hr:(x,NameKind.cell)∉r:=fun z=>h (bg _ z);split
  ·rename_i hk;rw[kj r _ _ hr,bV];cases hb:x == n with
   | true=>exact absurd (by rw[beq_iff_eq.mp hb,beq_iff_eq.mp hk];exact bf) h
   | false=>rfl
  ·exact kj r _ _ hr
theorem mW{x:Str}{c:Addr}:∀(names:List (Str×NameKind)) (k:Nat) (acc:List (Str×Addr)),(x,NameKind.cell)∈names→(cellsFrom k names acc).lookup x=some c→k≤c
 | [],_,_,h,_=>nomatch h
 | (n,kd)::r,k,acc,h,e=>by
  unfold cellsFrom at e;by_cases hr:(x,NameKind.cell)∈r
  ·split at e
   ·exact bW (mW r _ _ hr e)
   ·exact mW r _ _ hr e
  ·rcases aE.mp h with q | q
   ·cases q;rw[aP (by rfl),kj r _ _ hr,bV,beq_self_eq_true] at e;cases e;exact aJ _
   ·exact absurd q hr
theorem mP:∀(names:List (Str×NameKind)) (k:Nat) (acc:List (Str×Addr)),(∀x y c,acc.lookup x=some c→acc.lookup y=some c→x=y)→(∀x c,acc.lookup x=some c→c<k)→
  ∀x y c,(cellsFrom k names acc).lookup x=some c→(cellsFrom k names acc).lookup y=some c→x=y
 | [],_,_,h,_=>h
 | (n,kd)::r,k,acc,h,hl=>by
  unfold cellsFrom;split
  ·refine mP r (k+1) ((n,k)::acc) (fun x y c h1 h2=>?_) fun x c h1=>?_
   ·rw[bV] at h1 h2;cases e1:x == n with
    | true=>
     cases e2:y == n with
     | true=>rw[beq_iff_eq.mp e1,beq_iff_eq.mp e2]
     | false=>rw[e1] at h1;rw[e2] at h2;cases h1;exact absurd (hl _ _ h2) (aZ _)
    | false=>
     rw[e1] at h1;cases e2:y == n with
     | true=>rw[e2] at h2;cases h2;exact absurd (hl _ _ h1) (aZ _)
     | false=>rw[e2] at h2;exact h x y c h1 h2
   ·rw[bV] at h1;cases e1:x == n with
    | true=>rw[e1] at h1;cases h1;exact bz _
    | false=>rw[e1] at h1;exact bX (hl x c h1)
  ·exact mP r k acc h hl
theorem mh{x:Str}{c:Addr}:∀(names:List (Str×NameKind)) (h:Heap) (acc:List (Str×Addr)),(cellsFrom h.objs.size names acc).lookup x=some c→acc.lookup x=some c∨(h.objs.size≤c∧(pushCells h names).IsCell c none)
 | [],_,_,e=>.inl e
 | (n,kd)::r,h,acc,e=>by
  unfold cellsFrom at e;unfold pushCells;split at e
  ·rename_i hk;rw[aP hk];have e':(cellsFrom (h.push {cls:=.type "cell",data:=.cell none}).objs.size r ((n,h.objs.size)::acc)).lookup x=some c:=by rw[Heap.size_push];exact e
   rcases mh r _ _ e' with q | ⟨q,m⟩
   ·rw[bV] at q;cases hb:x == n with
    | true=>rw[hb] at q;cases q;exact .inr ⟨aJ _,_,pushCells_keeps r _ _ _ (ar _ rfl),rfl⟩
    | false=>rw[hb] at q;exact .inl q
   ·rw[Heap.size_push] at q;exact .inr ⟨bW q,m⟩
  ·rename_i hk;rw[aQ hk];exact mh r _ _ e
theorem rY{M:Model}{A:Around}{E:Value→Shared→Prop}{s:Shared}{scope:Scope}{globals:Addr}{closure:List (Str×Addr)}{qual:Str}{func:Option Addr}{code:Value}{outer:Env}{builtins:Addr}{Q:Env→Shared→Prop}
  (hQ:Q (newEnv scope s.heap.objs.size globals (cellsFrom (s.heap.objs.size+1) scope.names closure) qual func code (some outer) builtins) {s with heap:=pushCells (s.heap.push {cls:=.type "dict",data:=.dict #[]}) scope.names}) :
  wpAny M A (newFunctionEnv scope globals closure [] qual func code (some outer) builtins) Q E s:=by
 simp only[newFunctionEnv,Option.isSome_some,if_true];refine ao (wpAny_alloc ?_);refine ao (wpAny_layCells _ (fun name kind cells=>by cases hkc:kind == NameKind.cell<;>simp[hkc]) _ _ _ _ ?_);rw[show ({s with heap:=s.heap.push {cls:=.type "dict",data:=.dict #[]}}:Shared).heap.objs.size=s.heap.objs.size+1 from Heap.size_push ..];rw[List.forIn_nil];exact ao (ak (ak hQ))
noncomputable def nc(X:Cx)(N:List Str)(scope:Scope)(C:Addr)(s₃:Shared)(H:Hp)(ex:List Addr)(pn:List (Addr×Obj)):Cx:={X with N:=N,s₀:=s₃,H₀:=H,env:=compEnvC scope (cellsFrom (C+1) scope.names (kY X.env scope.names [])) C X.env,outer:=X.stack,ex:=ex,fn:=fun x=>scope.names.lookup x == some .cell,pn:=pn,xe:=fun _ _=>False}
noncomputable def pull(ix:List (Option Nat))(σ:St):St:=ix.map fun
 | none=>none
 | some j=>(σ[j]?).getD none
def Qz(J:It)(ix:List (Option Nat))(g:TG)(tt:TT)(te:TE)(σ:St)(H1:Hp)(Q:VK):Prop:=∃W:Nat→Nat→List V→Hp→Prop,(∃m,W 0 m [] H1)∧∀i m ys H,W i m ys H→
 (J.stop i H∧∀D,H D=none→Q (.ref D) (ij H D (.lst ys)))∨
 (J.go i H∧ys.length<sizeLine∧∀x H',J.yld i H x H'→g x (pull ix σ) H' fun σ2 H2=>tt σ2 H2 fun b H3=>if b=true then te σ2 H3 fun y H4=>∃m',m'<m∧W (i+1) m' (ys++[y]) H4 else ∃m',m'<m∧W (i+1) m' ys H3)
def Ma(ix:List (Option Nat))(wi:TI)(g:TG)(tt:TT)(te:TE):TE:=fun σ H Q=>wi σ H fun J H1=>Qz J ix g tt te σ H1 Q
end L2
namespace L2
open PySem PySem.Spec PyProof.Rows
section
variable {prog:Program}{w:World}{A:Around}{R:Result→Shared→Prop}{s:Shared}
theorem yR{elt tg iter:Expr}{ifs:List Expr}{scope:Scope}{pos:Pos}{it acc:Value}{env:Env}(J:Nat→Shared→Prop)
  (turn:∀n s,J n s→wpAny (model prog w) A (pyNext it) (fun r s₁=>match r with
   | none=>R (.ok .next) s₁
   | some v=>wpAny (model prog w) A (letOwnedTupleGo tg it v) (fun _ s₂=>wpAny (model prog w) A (assign tg env v) (fun _ s₃=>
     wpAny (model prog w) A (forIn ifs true fun c r=>if r=true then do let ok ←isTrue c env (eval c env);pure (ForInStep.yield ok) else pure (ForInStep.yield r)) (fun ok s₄=>
      if ok=true then wpAny (model prog w) A (eval elt env) (fun x s₅=>wpAny (model prog w) A (call (.builtin "list.append") [acc,x]) (fun _ s₆=>∃m,m<n∧J m s₆) (fun _ _=>False) s₅) (fun _ _=>False) s₄
      else ∃m,m<n∧J m s₄) (fun _ _=>False) s₃) (fun _ _=>False) s₂) (fun _ _=>False) s₁) (fun _ _=>False) s)
  (n:Nat) (h:J n s):codeAny (model prog w) A (.compLoop (.ListComp elt [⟨tg,iter,ifs,0⟩] scope pos) 0 it acc env) R s:=by
 refine codeAny_loop rfl J (fun n s hJ=>?_) n h;show wpAny _ A ((compTurn (.ListComp elt [⟨tg,iter,ifs,0⟩] scope pos) 0 it acc env).onRaise (fun x=>do noteFrame x env;theTreesLotGoes x)) _ _ s;refine wpAny_noted ?_;rw[compTurn_list];refine ao (wpAny_standAt (ao (wpAny_mono (turn n s hJ) (fun r s₁ h₁=>?_) fun _ _ z=>z.elim)));cases r with
 | none=>exact ak h₁
 | some v=>
  refine ao (wpAny_mono h₁ (fun _ s₂ h₂=>?_) fun _ _ z=>z.elim);refine ao (wpAny_mono h₂ (fun _ s₃ h₃=>ao (wpAny_mono h₃ (fun ok s₄ h₄=>?_) fun _ _ z=>z.elim)) fun _ _ z=>z.elim);cases ok with
  | false=>exact ak ⟨rfl,h₄⟩
  | true=>exact ao (ao (wpAny_mono h₄ (fun x s₅ h₅=>ao (wpAny_mono h₅ (fun _ s₆ h₆=>ak (ak ⟨rfl,h₆⟩)) fun _ _ z=>z.elim)) fun _ _ z=>z.elim))
end
def qD(ix:List (Option Nat))(g:TG):Prop:=∀x σ1 H Q,g x σ1 H Q→g x σ1 H fun σ2 H2=>(∀i j:Nat,ix[i]? = some (some j)→σ2[i]? = σ1[i]?)∧Q σ2 H2
theorem eX{ix:List (Option Nat)}{k:Nat}(hk:ix[k]? = some none):qD ix (ji k):=fun x σ1 H Q h=>by
 refine⟨fun i j e=>?_,h⟩;have:k≠i:=by rintro rfl;rw[hk] at e;cases e
 rw[aq this]
noncomputable abbrev wz(us:List Value):Obj:={cls:=.type "list",data:=.seq us.toArray us.length}
section
variable {X:Cx}{tg elt iter:Expr}{ifs:List Expr}{scope:Scope}{pos:Pos}{N:List Str}{ix:List (Option Nat)}{wi:TI}{g:TG}{tt:TT}{te:TE}
structure AX(X:Cx)(scope:Scope)(N:List Str)(ix:List (Option Nat)):Prop where
 kind:scope.kind=.function
 sep:∀y∈scope.names,y.2=.cell→scope.names.lookup y.1=some .cell
 names:∀y∈scope.names,y.2=.local→scope.names.lookup y.1=some .local
 fre:∀y∈scope.names,y.2=.free→∃c,X.env.cells.lookup y.1=some c
 len:N.length=ix.length
 ix:∀(i j:Nat) (x:Str),N[i]? = some x→ix[i]? = some (some j)→X.N[j]? = some x∧scope.names.lookup x=some .free∧OV X.env.scope x∧X.env.kindOf x≠some .local
theorem OF{dU:List (Addr×Obj)}{σ:St}{H:Hp}{s:Shared}{fp:List Addr}(L:AX X scope N ix)(I:eW X dU σ H s)(f:∀b∈fp,qJ X dU H b)(hlt:∀b∈fp,b<s.heap.objs.size)(o:Obj) :
  (nc X N scope (s.heap.objs.size+1) {s with heap:=s.heap.push o} H (s.heap.objs.size::fp) (X.pn++dU)).Ok:=by
 have I1:eW X dU σ H {s with heap:=s.heap.push o}:=I.kept (t':=s.toks) fun b u e=>ae _ e;have sound0:∀x c,(kY X.env scope.names []).lookup x=some c→X.env.cells.lookup x=some c:=fun x c e=>ki (fun y d z=>by simp at z) e;have cellLt:∀x c,X.env.cells.lookup x=some c→c<s.heap.objs.size:=fun x c e=>let ⟨_,q⟩:=I.cell x c e;q.lt;have sound:∀x c,(cellsFrom (s.heap.objs.size+1+1) scope.names (kY X.env scope.names [])).lookup x=some c→X.env.cells.lookup x=some c∨s.heap.objs.size+1+1≤c:=fun x c e=>by
  rcases mj _ _ _ e with q | ⟨q,_⟩
  ·exact .inl (sound0 x c q)
  ·exact .inr q
 refine⟨I.ok.mod,L.kind,I.ok.glob,I.ok.blt,?_,mP _ _ _ (fun x y c h1 h2=>I.ok.inj x y c (sound0 x c h1) (sound0 y c h2)) (fun x c h1=>bX (bX (cellLt x c (sound0 x c h1)))),fun x hx=>?_,fun x c h1 h2=>?_,I.ok.hd,I.ok.frames,.inl rfl,fun b hb=>?_,fun b u e=>?_,?_,fun b u e hb=>?_,fun b hb=>?_,I1.stack,I.stkFree⟩
 ·show (s.heap.push o).objs.size≤s.heap.objs.size+1;rw[Heap.size_push];exact aJ _
 ·refine bE.mp (W.cellsFrom_some _ _ _ ?_);rcases qW hx with hm | hm
  ·exact .inr (bE.mpr (ng hm (L.fre _ hm rfl)))
  ·exact .inl hm
 ·have h1':(scope.names.lookup x == some .cell)=true:=h1;have hk:scope.names.lookup x=some .cell:=by simpa using h1'
  show (s.heap.push o).objs.size≤c;rw[Heap.size_push];exact bW (mW _ _ _ (PySem.mem_of_lookup hk) h2)
 ·rcases aE.mp hb with rfl | hb
  ·refine⟨aL (bz _),fun x c e z=>?_⟩;rcases sound x c e with q | q
   ·exact absurd (cellLt x c q) (by rw[z];exact aZ _)
   ·rw[z] at q;omega
  ·refine⟨aL (bX (hlt b hb)),fun x c e=>?_⟩;rcases sound x c e with q | q
   ·exact (f b hb).2.2.2.2.1 x c q
   ·intro z;rw[z] at q;exact absurd (aM (bY _ 2) q) (Nat.not_le.mpr (hlt b hb))
 ·exact⟨ae _ (I.bs b u e).1,(I.bs b u e).2⟩
 ·show X.base.objs.size≤(s.heap.push o).objs.size;rw[Heap.size_push];exact Nat.le_succ_of_le (aM I.ok.bsz I.sz)
 ·have hb':=aK (I.bs b u e).1;rcases aE.mp hb with rfl | hb
  ·exact aZ _ hb'
  ·rcases (f b hb).2.2.2.1 with z | z
   ·exact I.ok.noex b u e z
   ·exact absurd (aD (aK e) (aM I.ok.bsz z)) (aZ _)
 ·intro z;have hs:=I.stkSub b z;rcases aE.mp hb with rfl | hb
  ·rcases aE.mp hs with q | q
   ·exact absurd I.lt (by rw[←q];exact aZ _)
   ·exact I.nofs (aJ _) q
  ·rcases aE.mp hs with q | q
   ·exact (f b hb).2.1 q
   ·exact (f b hb).2.2.1 q
end
end L2
namespace L2
open PySem PySem.Spec PyProof.Rows
section
variable {X:Cx}{tg elt iter:Expr}{ifs:List Expr}{scope:Scope}{pos:Pos}{N:List Str}{ix:List (Option Nat)}{wi:TI}{g:TG}{tt:TT}{te:TE}
theorem Ai{ix:List (Option Nat)}{σ:St}{i:Nat}{v:V}(h:(pull ix σ)[i]? = some (some v)):∃j,ix[i]? = some (some j)∧σ[j]? = some (some v):=by
 unfold pull at h;rw[av] at h;cases e:ix[i]? with
 | none=>rw[e] at h;cases h
 | some k=>
  rw[e] at h;cases k with
  | none=>cases h
  | some j=>
   refine⟨j,rfl,?_⟩;have h':(σ[j]?).getD none=some v:=by simpa using h
   cases q:σ[j]? with
   | none=>rw[q] at h';cases h'
   | some z=>rw[q] at h';simpa using h'
theorem DE{dU:List (Addr×Obj)}{σ:St}{RR:Value→Addr→Result→Shared→Prop}{Q:VK}{E:Value→Shared→Prop}{it:Addr}{fp:List Addr}{tn:Nat→Heap→Prop}{J:It}{H2:Hp}{s2:Shared}{W:Nat→Nat→List V→Hp→Prop}{m0:Nat}
  (hc:X.calm=true) (L:AX X scope N ix) (hgk:qD ix g)
  (blk:∀C s₃ H ex pn,PG (nc X N scope C s₃ H ex pn) tg g∧EI (nc X N scope C s₃ H ex pn) ifs tt∧PE (nc X N scope C s₃ H ex pn) elt te)
  (I2:eW X dU σ H2 s2) (T:zV X.prog X.w X.K tg J fp it tn) (st2:tn 0 s2.heap) (f2:∀b∈fp,qJ X dU H2 b) (w0:W 0 m0 [] H2)
  (turn:∀i m ys H,W i m ys H→(J.stop i H∧∀D,H D=none→Q (.ref D) (ij H D (.lst ys)))∨
   (J.go i H∧ys.length<sizeLine∧∀x H',J.yld i H x H'→g x (pull ix σ) H' fun σ2 H2=>tt σ2 H2 fun b H3=>if b=true then te σ2 H3 fun y H4=>∃m',m'<m∧W (i+1) m' (ys++[y]) H4 else ∃m',m'<m∧W (i+1) m' ys H3))
  (fin:∀D C m H' s',s'.heap.Ns C m→qJ X dU H' C→eW X dU σ H' s'→Q (.ref D) H'→RR (.ref D) C (.ok .next) s') :
  wpAny (model X.prog X.w) X.A (newList []) (fun acc s₃=>wpAny (model X.prog X.w) X.A (newFunctionEnv scope X.env.globals (kY X.env scope.names []) [] X.env.qual none .none (some X.env)) (fun cenv s₄=>codeAny (model X.prog X.w) X.A (.compStart (.ListComp elt [⟨tg,iter,ifs,0⟩] scope pos) 0 (.ref it) acc {cenv with scope:=relabel scope X.env}) (RR acc cenv.locals) s₄) E s₃) E s2:=by
 refine wpAny_newObj_type (rY ?_);dsimp only;have hCs:(s2.heap.push {cls:=.type "list",dict:=none,data:=.seq ([]:List Value).toArray}).objs.size=s2.heap.objs.size+1:=Heap.size_push ..;generalize hh₁:pushCells ((s2.heap.push {cls:=.type "list",dict:=none,data:=.seq ([]:List Value).toArray}).push {cls:=.type "dict",data:=.dict #[]}) scope.names=h₁;rw[hCs];have hns₁:h₁.Ns (s2.heap.objs.size+1) (fun _=>none):=by rw[←hh₁,←hCs];exact (Heap.Ns.new _ _).keeps (pushCells_keeps _ _)
 have hnew:∀x c,(cellsFrom (s2.heap.objs.size+1+1) scope.names (kY X.env scope.names [])).lookup x=some c→X.env.cells.lookup x=some c∨(s2.heap.objs.size+1+1≤c∧h₁.IsCell c none):=fun x c e=>by
  have hs3:((s2.heap.push {cls:=.type "list",dict:=none,data:=.seq ([]:List Value).toArray}).push {cls:=.type "dict",data:=.dict #[]}).objs.size=s2.heap.objs.size+1+1:=by rw[Heap.size_push,hCs]
  rw[←hs3] at e;rcases mh _ _ _ e with q | ⟨q,m⟩
  ·exact .inl (ki (fun y d z=>by simp at z) q)
  ·rw[hs3] at q;rw[hh₁] at m;exact .inr ⟨q,m⟩
 have fpObj:=T.obj 0 _ st2;have hlt:∀b∈fp,b<s2.heap.objs.size:=fun b hb=>let ⟨_,e,_⟩:=fpObj b hb;aK e;have ok:=OF L I2 f2 hlt {cls:=.type "list",dict:=none,data:=.seq ([]:List Value).toArray};have DC:s2.heap.objs.size≠s2.heap.objs.size+1:=aL (bz _);have hold:∀b o,(s2.heap.push {cls:=.type "list",dict:=none,data:=.seq ([]:List Value).toArray}).get? b=some o→h₁.get? b=some o:=fun b o e=>by rw[←hh₁];exact pushCells_keeps _ _ _ _ (ae _ e)
 have old:∀b o,s2.heap.get? b=some o→h₁.get? b=some o:=fun b o e=>hold b o (ae _ e);have sound:∀x c,(kY X.env scope.names []).lookup x=some c→X.env.cells.lookup x=some c:=fun x c e=>ki (fun y d z=>by simp at z) e;have cellLt:∀x c,X.env.cells.lookup x=some c→c<s2.heap.objs.size:=fun x c e=>let ⟨_,q⟩:=I2.cell x c e;q.lt;have hDn:H2 s2.heap.objs.size=none:=I2.hok.fresh (aJ _);have hCn:H2 (s2.heap.objs.size+1)=none:=I2.hok.fresh (bC _);have pinLt:∀p∈X.pn++dU,p.1<s2.heap.objs.size:=fun p hp=>aK (I2.pin p hp).1;have hDfs:s2.heap.objs.size∉Fw X.stack:=fun z=>by
  rcases aE.mp (I2.stkSub _ z) with q | q
  ·exact absurd I2.lt (by rw[←q];exact aZ _)
  ·exact I2.nofs (aJ _) q
 have I':eW (nc X N scope (s2.heap.objs.size+1) {s2 with heap:=s2.heap.push {cls:=.type "list",dict:=none,data:=.seq ([]:List Value).toArray}} H2 (s2.heap.objs.size::fp) (X.pn++dU))
   [(s2.heap.objs.size,wz [])] (pull ix σ) H2 {s2 with heap:=h₁,toks:=s2.toks}:=by
  refine⟨ok,rfl,I2.bare,Un.kept hold,⟨_,hns₁,fun i x v h1 h2 h3=>?_⟩,fun x c e=>?_,hCn,fun x c e=>?_,fun p hp=>?_,I2.hok.kept old,?_⟩
  ·obtain⟨j,ej,es⟩:=Ai h2;obtain⟨q1,q2,q3,q4⟩:=L.ix i j x h1 ej;obtain⟨m,_,hl⟩:=I2.loc;obtain⟨u,r,lk⟩:=hl j x v q1 es q3;refine⟨u,r,?_⟩;rcases lk with⟨k,_⟩ | ⟨k,c,hcl,hv⟩
   ·exact absurd k q4
   ·obtain⟨c',hc'⟩:=ng (acc:=[]) (PySem.mem_of_lookup q2) ⟨c,hcl⟩;have:=sound x c' hc';rw[hcl] at this;cases this;have hnc:(x,NameKind.cell)∉scope.names:=fun z=>by have:=L.sep _ z rfl;rw[q2] at this;cases this
    refine .inr ⟨?_,c,(kj _ _ _ hnc).trans hc',let ⟨ob,ho,hd⟩:=hv;⟨ob,old c ob ho,hd⟩⟩;exact yx q2
  ·rcases hnew x c e with q | ⟨_,q⟩
   ·obtain⟨v,ob,ho,hd⟩:=I2.cell x c q;exact⟨v,ob,old c ob ho,hd⟩
   ·exact⟨none,q⟩
  ·rcases hnew x c e with q | ⟨q,_⟩
   ·exact I2.freeC x c q
   ·exact I2.hok.fresh (aM (bY _ 2) q)
  ·rcases ai.mp hp with hp | hp
   ·obtain⟨e,n,ne,nf,d⟩:=I2.pin p hp;refine⟨old _ _ e,n,aL (bX (pinLt p hp)),fun z=>?_,d⟩;rcases aE.mp (I2.stkSub _ z) with q | q
    ·exact ne q
    ·exact nf q
   ·have e:p=(s2.heap.objs.size,wz []):=by simpa using hp
    subst e;exact⟨hold _ _ (ar _ rfl),hDn,DC,hDfs,fun v z=>by cases z⟩
  ·unfold pull;rw[aw];exact L.len.symm
 generalize hX':nc X N scope (s2.heap.objs.size+1) {s2 with heap:=s2.heap.push {cls:=.type "list",dict:=none,data:=.seq ([]:List Value).toArray}} H2 (s2.heap.objs.size::fp) (X.pn++dU)=X' at I';obtain⟨hg,hif,he⟩:=blk (s2.heap.objs.size+1) {s2 with heap:=s2.heap.push {cls:=.type "list",dict:=none,data:=.seq ([]:List Value).toArray}} H2 (s2.heap.objs.size::fp) (X.pn++dU);rw[hX'] at hg hif he;have stat:∀{H':Hp} {us:List Value},(∀b∈fp,H' b=none)→∀b∈fp,qJ X' [(s2.heap.objs.size,wz us)] H' b:=fun {H' us} hn b hb=>by
  subst hX';obtain⟨_,f1,f2',f3,f4,f5⟩:=f2 b hb;refine⟨hn b hb,aL (bX (hlt b hb)),fun z=>?_,.inl (bg _ hb),fun x c e=>?_,fun p hp=>?_⟩
  ·rcases aE.mp (I2.stkSub _ z) with q | q
   ·exact f1 q
   ·exact f2' q
  ·rcases hnew x c e with q | ⟨q,_⟩
   ·exact f4 x c q
   ·intro z;rw[z] at q;exact absurd (aM (bY _ 2) q) (Nat.not_le.mpr (hlt b hb))
  ·rcases ai.mp hp with hp | hp
   ·exact f5 p hp
   ·have e:p=(s2.heap.objs.size,wz us):=by simpa using hp
    subst e;exact Ne.symm (aL (hlt b hb))
 have loop:codeAny (model X.prog X.w) X.A (.compLoop (.ListComp elt [⟨tg,iter,ifs,0⟩] scope pos) 0 (.ref it) (.ref s2.heap.objs.size) X'.env) (RR (.ref s2.heap.objs.size) (s2.heap.objs.size+1))
   {s2 with heap:=h₁,toks:=s2.toks}:=by
  refine yR (fun n s'=>∃i ys us H',eW X' [(s2.heap.objs.size,wz us)] (pull ix σ) H' s'∧fP ys us∧ys.length≤sizeLine∧tn i s'.heap∧(∀b∈fp,H' b=none)∧W i n ys H') ?_ m0
   ⟨0,[],[],H2,I',.nil,bA _,T.keep _ _ _ st2 fun b _ o e=>old b o e,fun b hb=>(f2 b hb).1,w0⟩
  rintro n s3 ⟨i,ys,us,H3,I3,rv,hz,st3,fr3,w3⟩;have hcX:X'.calm=true:=by subst hX';exact hc
  have hA:X'.A=X.A:=by subst hX';rfl
  rcases turn i n ys H3 w3 with⟨stop,qn⟩ | ⟨go,jx,step⟩
  ·have hd:=T.done X' (by subst hX';rfl) (by subst hX';rfl) (by subst hX';rfl) hcX i _ s3 _ H3 (fun _ _=>False) I3 (stat fr3) st3 stop;rw[hA] at hd;refine iL hd fun r s4 ⟨hr,I4⟩=>?_;subst hr;subst hX';obtain⟨m,hn,_⟩:=I4.loc;have hD3:=I4.pin (s2.heap.objs.size,wz us) (bq _ bf);have u1:Un (Fw X.stack) fp H2 H3 s2.heap s4.heap:=by
    have B:=I4.base;have nD:∀b o,s2.heap.get? b=some o→b∉fp→b∉s2.heap.objs.size::fp:=fun b o e hb z=>by
     rcases aE.mp z with q | q
     ·exact absurd (aK e) (by rw[q];exact aZ _)
     ·exact hb q
    exact⟨fun b o e n hb hx=>B.keep b o (ae _ e) n hb (nD b o e hx),fun b o e n hb hx=>B.slot b o (ae _ e) n hb (nD b o e hx),
     fun b o e n hx=>B.free b o (ae _ e) n (nD b o e hx),fun b o e hx=>B.there b o (ae _ e) (nD b o e hx),B.tups,B.frzs,B.tbls⟩
   have I5:eW X dU σ H3 s4:=I2.call' (ch:=fp) I4.os u1 I4.hok I4.bare fun b hb=>let ⟨_,f1,_,f3,f4,f5⟩:=f2 b hb;⟨f3,f1,f4,f5⟩;have I6:eW X dU σ (ij H3 s2.heap.objs.size (.lst ys)) s4:=I5.track hD3.2.1 (.inr I2.sz) (Ne.symm (aL I2.lt)) (fun x c e z=>absurd (cellLt x c e) (by rw[z];exact aZ _))
    (fun p hp=>aL (pinLt p hp)) ⟨hz,us,us.length,rv,hD3.1⟩
   refine fin _ _ m _ s4 hn ⟨?_,?_,?_,.inr (Nat.le_succ_of_le I2.sz),fun x c e z=>?_,fun p hp=>?_⟩ I6 (qn _ hD3.2.1)
   ·rw[eO (Ne.symm DC)];exact I4.free
   ·exact Ne.symm (aL (bX I2.lt))
   ·exact I2.nofs (bC _)
   ·exact absurd (cellLt x c e) (by rw[z];exact Nat.not_lt.mpr (bC _))
   ·exact aL (bX (pinLt p hp))
  ·have hd:=T.item X' (by subst hX';rfl) (by subst hX';rfl) (by subst hX';rfl) hcX i _ s3 _ H3 (fun _ _=>False) I3 (stat fr3) st3 go;rw[hA] at hd;refine iL hd fun r s4 ⟨u,hr,h4⟩=>?_;subst hr;refine iL h4 fun _ s5 ⟨x,H5,I5,r5,y5,st5,fr5⟩=>?_;have I5':=I5.pinned (stat fr5) (T.obj _ _ st5);have hM:model X'.prog X'.w=model X.prog X.w:=by subst hX';rfl
   have hE:X'.xe=fun _ _=>False:=by subst hX';rfl
   have a6:=hg _ s5 _ H5 x u _ I5' r5 (hgk x _ H5 _ (step x H5 y5));rw[hM,hA,hE] at a6;refine iL a6 fun _ s6 ⟨σ6,H6,I6,agr,q6⟩=>?_;have a7:=hif _ s6 σ6 H6 _ I6 q6;rw[hM,hA,hE] at a7;refine iL a7 fun ok s7 ⟨H7,I7,q7⟩=>?_;have back:∀{s':Shared} {H':Hp} {pl:List (Addr×Obj)},eW X' pl σ6 H' s'→eW X' pl (pull ix σ) H' s':=fun {s' H' pl} I=>by
    refine I.weak ?_ fun k v e=>?_
    ·have e1:=I.len;have e2:=I3.len;rw[e1,e2]
    ·obtain⟨j,ej,_⟩:=Ai e;rw[agr k j ej];exact e
   have held:∀{s':Shared} {H':Hp},eW X' ([(s2.heap.objs.size,wz us)]++vR fp s5.heap) σ6 H' s'→tn (i+1) s'.heap∧∀b∈fp,H' b=none:=fun {s' H'} I=>by refine⟨T.keep _ _ _ st5 fun b hb o e=>(I.pin (b,o) (bq _ (bq _ (nK hb e)))).1,fun b hb=>?_⟩;obtain⟨o,e,_⟩:=T.obj _ _ st5 b hb;exact (I.pin (b,o) (bq _ (bq _ (nK hb e)))).2.1
   cases ok with
   | false=>rw[aQ aG] at q7 ⊢;obtain⟨m',hm,w7⟩:=q7;obtain⟨k1,k2⟩:=held I7;exact⟨m',hm,i+1,ys,us,H7,(back I7).unpinned,rv,hz,k1,k2,w7⟩
   | true=>
    rw[aP rfl] at q7 ⊢;have a8:=he _ s7 σ6 H7 _ I7 q7;rw[hM,hA,hE] at a8;refine iL a8 fun y s8 ⟨yv,H8,I8,r8,m',hm,w8⟩=>?_;obtain⟨k1,k2⟩:=held I8;have hD8:=I8.pin (s2.heap.objs.size,wz us) (bq _ (ax _ bf));have hl:=rv.length;refine append_at (hsz:=by rw[bu];omega) hD8.1 fun h9 sb hD9=>?_;have I9:eW X' [] (pull ix σ) H8 s8:=(back I8).pins_of fun p hp=>by simp at hp
    have I10:eW X' [] (pull ix σ) H8 {s8 with heap:=h9}:=I9.turned (t':=s8.toks) (it:=s2.heap.objs.size) (fun b o hb e=>sb.extBut b o hb e) hD8.2.1 hD8.2.2.1 (.inl (by subst hX';exact bf))
     (fun x c e z=>by
      subst hX';rcases hnew x c e with q | ⟨q,_⟩
      ·exact absurd (cellLt x c q) (by rw[z];exact aZ _)
      ·rw[z] at q;omega) (fun p hp z=>by
      subst hX';rcases ai.mp hp with hp | hp
      ·exact absurd (pinLt p hp) (by rw[z];exact aZ _)
      ·simp at hp)
    have e9:h9.get? s2.heap.objs.size=some (wz (us++[y])):=by rw[hD9];simp
    refine⟨m',hm,i+1,ys++[yv],us++[y],H8,I10.pins_of fun p hp=>?_,rv.append (.cons r8 .nil),by rw[aS,bP];omega,?_,k2,w8⟩
    ·have e:p=(s2.heap.objs.size,wz (us++[y])):=by simpa using hp
     subst e;exact⟨e9,hD8.2.1,hD8.2.2.1,hD8.2.2.2.1,fun v z=>by cases z⟩
    ·exact T.keep _ _ _ k1 fun b hb o e=>sb.extBut b o (aL (hlt b hb)) e
 have loop':=loop;subst hX';exact codeAny_compStart_list loop (T.self X.A 0 _ _ _ (T.keep _ _ _ st2 fun b _ o e=>old b o e) loop')
theorem Pl(hc:X.calm=true)(hi:PI X tg iter wi)(L:AX X scope N ix)(hgk:qD ix g)
  (blk:∀C s₃ H ex pn,PG (nc X N scope C s₃ H ex pn) tg g∧EI (nc X N scope C s₃ H ex pn) ifs tt∧PE (nc X N scope C s₃ H ex pn) elt te)
  (hs:∀x,foldedSetIterable iter X.env x=pure x:=by intro _;rfl):PE X (.ListComp elt [⟨tg,iter,ifs,0⟩] scope pos) (Ma ix wi g tt te):=by
 intro dU s σ H Q I h;rw[eval_ListComp];refine wpAny_comprehension_free (use:=none) rfl hs (pS L.fre) L.kind L.names (iL (hi dU s σ H _ I h) fun v s1 h1=>iL h1 fun itv s2 h2=>?_);obtain⟨it,fp,tn,J,H2,e,I2,T,st2,f2,W,⟨m0,w0⟩,turn⟩:=h2;subst e;refine DE (RR:=fun acc C=>compPost (model X.prog X.w) X.A X.xe none (EP X dU σ Q) acc C) hc L hgk blk I2 T st2 f2 w0 turn fun D C m H' s' hn f I' q=>?_;refine⟨m,hn,fun h' sb=>⟨.ref D,H',I'.turned (t':=s'.toks) (fun b o hb e=>sb.extBut b o hb e) f.1 f.2.1 f.2.2.2.1 f.2.2.2.2.1 f.2.2.2.2.2,rfl,q⟩⟩
end
end L2
namespace L2
open PySem PySem.Spec PyProof.Rows
structure eI(K:W.Frag)(mg:Str→Option Value)(x:Str)(st:Stmt):Prop where
 ex:∃f fd,JM K x x st f fd∧mg x=some (.ref f)
theorem Mj{K:W.Frag}{h:Heap}{mg:Str→Option Value}{x:Str}{st:Stmt}{f:Addr}{oc:Value}{od an:Option Addr}{osl:Array (Option Value)}{kV doc pm cdv ct:Value}(X:K.In h)(G:h.Ns mainGlobals mg)
  (a:W.nsIn K mainGlobals x=some (some (.ref f)))
  (l:K.lookup f=some ⟨oc,od,.func (W.fnOf x x (iG st) (gC st) (eg st) .none kV doc pm an cdv ct),osl⟩)
  (c:W.codeIn K cdv x=true) (k:W.keepIn K (.ref f)=true):eI K mg x st:=⟨f,_,Cd l c k,W.mg_of X G a⟩
structure ek(P:Program)(w:World)(K:W.Frag)(mg:Str→Option Value)(base:Heap)(x:Str)(k:Nat)(sp:Sp):Prop where
 ex:∃f fd ps,mC P w K mg base yh k f fd ps sp∧mg x=some (.ref f)∧W.keepIn K (.ref f)=true∧oC K fd ps []
theorem ek.mono{P:Program}{w:World}{K:W.Frag}{mg:Str→Option Value}{base:Heap}{x:Str}{j k:Nat}{sp:Sp}(h:ek P w K mg base x j sp)(hk:j≤k):ek P w K mg base x k sp:=
 let ⟨f,fd,ps,F,a,b,c⟩:=h.ex
 ⟨f,fd,ps,F.mono hk,a,b,c⟩
theorem DF{P:Program}{w:World}{K:W.Frag}{mg:Str→Option Value}{base:Heap}{x:Str}{st:Stmt}{N ps:List Str}{k:Nat}{sp:Sp}(D:eI K mg x st)(S:eF N ps (eg st))
  (hb:∀(kV doc pm:Value) (an:Option Addr) (cdv ct:Value) (us:List Value),us.length=ps.length→bindArgs (W.fnOf x x (iG st) (gC st) (eg st) .none kV doc pm an cdv ct) ⟨us,[]⟩=pure (ps.zip us))
  (len:∀vs H Q E,sp vs H Q E→vs.length=ps.length)
  (hbody:∀(f:Addr) (cdv:Value) (A:Around) (outer:List Env) (s:Shared) (H:Hp) (vs:List V) (Q:VK) (E:XK),hV k (A.deeper (envOfC x (eg st) s.heap.objs.size f cdv))→sp vs H Q E→
   ∃t,Af (rz yh P w K mg base N x (eg st) f cdv A outer s H E).nox (gC st) t∧t {nx:=fun _ H'=>Q .non H',rt:=Q} (kQ N vs) H):ek P w K mg base x (k+1) sp:=by
 obtain⟨f,fd,F,m⟩:=D.ex;exact⟨f,fd,ps,F.ok S len (hbody f),m,F.kp,F.binds hb⟩
section
variable {X:Cx}{x:Str}{k:Nat}{sp:Sp}{e:Expr}{es:List Expr}{t:TA}{p pos:Pos}
theorem AW(h:ek X.prog X.w X.K X.mg X.base x k sp)(hr:hV k X.A)(ha:PA X (e::es) t)(hg:Gl X x:=by rfl)
  (hdb:(x == ("__debug__" : Str))=false:=by decide) (he:starEach (e::es) X.env=(false,eval e X.env)::starEach es X.env:=by rfl) (hpl:(backTo pos (starEach es X.env)).any (·.1)=false:=by rfl) :
  PE X (.Call (.Name x p) (e::es) [] pos) (xv sp [] E0 t):=by
 obtain⟨f,fd,ps,F,a,b,c⟩:=h.ex;exact IX F hr hg a b c .nil Gb ha hdb he hpl
end
theorem IJ{X:Cx}:oo X (binaryOp .Mult) (rI (fun i j=>PySem.IntMulOk i j) fun i j=>.int (i*j)):=Pv fun _ _ _ _ _ _ _ hc q=>mul_int q hc
theorem Hu{X:Cx}:oo X (binaryOp .FloorDiv) (rI (fun i j=>j≠0∧Builtin.divisionGoesByPylong i j=false) fun i j=>.int (i.fdiv j)):=Pv fun _ _ _ _ _ _ _ hc q=>floordiv_int hc.1 q (.inl hc.2)
end L2
namespace L2
open PySem PySem.Spec PyProof.Rows
section
variable {P:Program}{w:World}{K:W.Frag}{mg:Str→Option Value}{base:Heap}{N:List Str}{qual:Str}{scope:Scope}{f:Addr}{cd:Value}{A:Around}{outer:List Env}{s₀:Shared}{H₀:Hp}{E:XK}
variable {dU:List (Addr×Obj)}{σ:St}{H:Hp}{s:Shared}
end
end L2
namespace L2
open PySem PySem.Spec PyProof.Rows PySem.W
section
variable {P:Program}{w:World}{K:W.Frag}{mg:Str→Option Value}{base:Heap}{N:List Str}{qual:Str}{scope:Scope}{f:Addr}{cd:Value}{A:Around}{outer:List Env}{s₀:Shared}{H₀:Hp}{E:XK}
end
end L2
namespace L2
open PySem PySem.Spec PyProof.Rows PySem.W PySem.Calls Builtin Builtin.ObjectAttr Builtin.Getset_descriptor
section
variable {prog:Program}{w:World}{A:Around}{E:Value→Shared→Prop}{s:Shared}{K:Frag}{x D:Addr}
end
end L2
namespace L2
open PySem PySem.Spec PyProof.Rows PySem.W PySem.Calls Builtin Builtin.ObjectAttr Builtin.Getset_descriptor
section
variable {prog:Program}{w:World}{A:Around}{E:Value→Shared→Prop}{s:Shared}{K:Frag}{x C D:Addr}
end
section
variable {X:Cx}{dU pins' pn pn':List (Addr×Obj)}{σ:St}{H H1 H':Hp}{s s1 s':Shared}{xe:Value→Shared→Prop}{ea t:Addr}{C:Value}{vs:List Value}{B h:Heap}
end
end L2
namespace L2
open PySem PySem.Spec PyProof.Rows PySem.W PySem.Calls
section
variable {X:Cx}{x:Str}{k:Nat}{sp:Sp}{e:Expr}{es:List Expr}{t:TA}{p pos:Pos}{E:XK}
end
end L2
namespace L2
open PySem PySem.Spec PyProof.Rows PySem.W
mutual
inductive DV(K:Frag)(H:Hp):V→PyData→Prop
 | non:DV K H .non .none
 | bl (b:Bool):DV K H (.bl b) (.bool b)
 | int (i:Int):DV K H (.int i) (.int i)
 | str (x:Str):DV K H (.str x) (.str x)
 | lst {a:Addr} {xs:List V} {ds:List PyData} (h:jI K H a xs) (hs:AD K H xs ds):DV K H (.ref a) (.list ds)
 | tup {a:Addr} {xs:List V} {ds:List PyData} (h:kR K H a xs) (hs:AD K H xs ds):DV K H (.ref a) (.tuple ds)
inductive AD(K:Frag)(H:Hp):List V→List PyData→Prop
 | nil:AD K H [] []
 | cons {v:V} {d:PyData} {vs:List V} {ds:List PyData} (h:DV K H v d) (hs:AD K H vs ds):AD K H (v::vs) (d::ds)
end
section
variable {X:Cx}{dU:List (Addr×Obj)}{σ:St}{H:Hp}{s:Shared}
mutual
theorem DV.reads(I:eW X dU σ H s):∀{v:V} {d:PyData} {u:Value},DV X.K H v d→gD v u→∃as,Reads s.heap u d as
 | _,_,_,.non,r=>by cases r;exact⟨_,.none⟩
 | _,_,_,.bl b,r=>by cases r;exact⟨_,.bool b⟩
 | _,_,_,.int i,r=>by obtain⟨t,rfl⟩:=r;exact⟨_,.int i t⟩
 | _,_,_,.str x,r=>by obtain⟨t,rfl⟩:=r;exact⟨_,.str x t⟩
 | _,_,_,.lst h hs,r=>by cases r;obtain⟨its,r',⟨o,n,e,hc,hd,hq⟩,_⟩:=I.list h;obtain⟨as,ra⟩:=AD.reads I hs r';exact⟨_,.list e hc hq (by simpa using ra)⟩
 | _,_,_,.tup h hs,r=>by cases r;obtain⟨its,r',⟨o,e,hc,n,hq⟩,_⟩:=I.tuple h;obtain⟨as,ra⟩:=AD.reads I hs r';exact⟨_,.tuple e hc hq (by simpa using ra)⟩
theorem AD.reads(I:eW X dU σ H s):∀{vs:List V} {ds:List PyData} {us:List Value},AD X.K H vs ds→fP vs us→∃as,ReadsAll s.heap us ds as
 | _,_,_,.nil,r=>by cases r;exact⟨_,.nil⟩
 | _,_,_,.cons h hs,r=>by
  cases r with
  | cons r1 r2=>obtain⟨as,ra⟩:=DV.reads I h r1;obtain⟨bs,rb⟩:=AD.reads I hs r2;exact⟨_,.cons ra rb⟩
end
def Co(K:Frag)(neg:Bool):R2:=fun x y H Q=>∃da db,DV K H x da∧DV K H y db∧(da.canLay0=true∧db.canLay0=true∧da.depth≤100)∧Q (.bl (if neg then !PyData.eqv da db else PyData.eqv da db)) H
theorem Iq(hu:X.A.units+200<cLine):oo X (compareOp .Eq) (Co X.K false):=by intro dU s σ H x y v u Q I rx ry h;obtain⟨da,db,hx,hy,⟨ca,cb,hd⟩,q⟩:=h;obtain⟨as,ra⟩:=hx.reads I rx;obtain⟨bs,rb⟩:=hy.reads I ry;exact SeqAt.eqOverData _ _ _ _ _ _ _ _ _ _ _ _ ra rb ca cb (by omega) ⟨.bl _,H,I,rfl,q⟩
theorem Hs(hu:X.A.units+200<cLine):oo X (compareOp .NotEq) (Co X.K true):=by intro dU s σ H x y v u Q I rx ry h;obtain⟨da,db,hx,hy,⟨ca,cb,hd⟩,q⟩:=h;obtain⟨as,ra⟩:=hx.reads I rx;obtain⟨bs,rb⟩:=hy.reads I ry;exact SeqAt.neOverData _ _ _ _ _ _ _ _ _ _ _ _ ra rb ca cb (by omega) ⟨.bl _,H,I,rfl,q⟩
theorem Pu{A:Around}{k:Nat}(hr:hV k A):A.units+200<cLine:=by have:=hr.un;omega
end
end L2
namespace L2
open PySem PySem.Spec PyProof.Rows
theorem zH:∀{bs:List Bool} {us:List Value},fP (bs.map V.bl) us→us=bs.map Value.bool
 | [],_,.nil=>rfl
 | b::bs,u::us,.cons r t=>by have e:u=Value.bool b:=r;rw[e,zH t];rfl
theorem uU:∀{ns:List Int} {us:List Value},fP (ns.map V.int) us→IntsAre us ns
 | [],_,.nil=>.nil
 | n::ns,u::us,.cons r t=>by obtain⟨tk,e⟩:=(show ∃tk,u=Value.int n tk from r);rw[e];exact .cons n tk (uU t)
theorem Et{bs:List Bool}:(List.range bs.length).all (fun i=>bs.getD i false)=bs.all id:=by
 induction bs with
 | nil=>rfl
 | cons b bs ih=>rw[ay,List.range_succ_eq_map,bL,bZ,bL,←ih];rfl
theorem w6{bs:List Bool}:(List.range bs.length).any (fun i=>bs.getD i false)=bs.any id:=by
 induction bs with
 | nil=>rfl
 | cons b bs ih=>rw[ay,List.range_succ_eq_map,bM,b4,bM,←ih];rfl
section
variable {X:Cx}
theorem EG{prog:Program}{w:World}{A:Around}{bs:List Bool}:TruthOf prog w A (fun i v=>(bs.map Value.bool).toArray[i]? = some v) (fun i=>bs.getD i false):=fun i v s Q E hP hQ=>by
 have e:(bs.map Value.bool)[i]? = some v:=by simpa using hP
 rw[av] at e;cases hb:bs[i]? with
 | none=>rw[hb] at e;cases e
 | some b=>
  rw[hb] at e;cases e;have:bs.getD i false=b:=by rw[af,hb];rfl
  dsimp only at hQ;rw[this] at hQ;exact ak hQ
theorem HX(hc:X.calm=true):jz X (.builtin "all") (fun xs H Q=>∃(p:Addr) (bs:List Bool),xs=[.ref p]∧jI X.K H p (bs.map V.bl)∧Q (.bl (bs.all id)) H):=by
 intro dU s σ H xs us Q I r h;obtain⟨p,bs,rfl,hS,q⟩:=h;obtain⟨u,rfl,rx⟩:=oB r;cases rx;obtain⟨its,rv,pl,hz⟩:=I.list hS;have e:=zH rv;subst e;have hlt:p<s.heap.objs.size:=by obtain⟨_,e,_⟩:=pl.isList;exact aK e
 refine call_all_walk (wpAny_pyIter_list pl.isList ⟨s.heap.objs.size,_,_,_,_,_,fun i=>bs.getD i false,rfl,Walks.list (A:=X.A.in1) (I.ok.hd hc) _ p (aL hlt) _,⟨⟨_,ar _ rfl,rfl,rfl⟩,pl.isList.push _⟩,EG,fun h' tk hk=>?_⟩);refine⟨.bl _,H,I.kept (t':=tk) (fun b o e=>hk b o ?_ (ae _ e)),rfl,?_⟩
 ·intro hm;have:=aK e;have z:b=s.heap.objs.size:=by simpa using hm
  rw[z] at this;exact aZ _ this
 ·rw[←Et] at q;simpa using q
theorem GY(hc:X.calm=true):jz X (.builtin "sum") (fun xs H Q=>∃(p:Addr) (ns:List Int),xs=[.ref p]∧jI X.K H p (ns.map V.int)∧Q (.int ns.sum) H):=by intro dU s σ H xs us Q I r h;obtain⟨p,ns,rfl,hS,q⟩:=h;obtain⟨u,rfl,rx⟩:=oB r;cases rx;obtain⟨its,rv,pl,hz⟩:=I.list hS;have hi:=uU rv;obtain⟨xs,e⟩:=hi.allInts.items;have hl:=pl.isList;rw[e] at hl;refine sum_intListG (I.ok.hd hc) hl fun h' tk t' hk=>⟨.int ns.sum,H,I.kept (t':=tk) hk,⟨t',?_⟩,q⟩;rw[preSum_eq,b5 (by simp),←nums_intItems,←e,show its.toArray.toList=its from rfl,hi.numsOf]
theorem vh:bootBuiltins "all" = some (.builtin "all"):=by decide +kernel
theorem yg:bootBuiltins "any" = some (.builtin "any"):=by decide +kernel
theorem BC:bootBuiltins "sum" = some (.builtin "sum"):=by decide +kernel
end
end L2
namespace L2
open PySem PySem.Spec PyProof.Rows
def gG(b:Bool)(h:Heap)(l:Addr)(xs:Array Value):Prop:=if b=true then h.IsTuple l xs else h.IsList l xs
def i7(b:Bool)(h:Heap)(it l:Addr)(k:Nat):Prop:=if b=true then h.IsTupleIter it l k else h.IsListIter it l k
noncomputable def vN(b:Bool):String:=if b=true then "tuple_iterator" else "list_iterator"
theorem i7.look{b:Bool}{h:Heap}{it l:Addr}{k:Nat}(x:i7 b h it l k):∃o,h.get? it=some o∧o.cls=.type (vN b)∧o.data=.fields #[.ref l,.int k 0]:=by
 cases b with
 | true=>exact (show h.IsTupleIter it l k from x)
 | false=>exact (show h.IsListIter it l k from x)
theorem i7.of{b:Bool}{h:Heap}{it l:Addr}{k:Nat}(x:∃o,h.get? it=some o∧o.cls=.type (vN b)∧o.data=.fields #[.ref l,.int k 0]):i7 b h it l k:=by
 cases b with
 | true=>exact x
 | false=>exact x
theorem i7.to{b:Bool}{h h':Heap}{it l:Addr}{k:Nat}(x:i7 b h it l k)(e:∀o,h.get? it=some o→h'.get? it=some o):i7 b h' it l k:=by obtain⟨o,ho,q⟩:=x.look;exact .of ⟨o,e o ho,q⟩
theorem gG.look{b:Bool}{h:Heap}{l:Addr}{xs:Array Value}(x:gG b h l xs):∃o n,h.get? l=some o∧o.data=.seq xs n:=by
 cases b with
 | true=>obtain⟨o,ho,_,n,hd⟩:=(show h.IsTuple l xs from x);exact⟨o,n,ho,hd⟩
 | false=>obtain⟨o,ho,_,n,hd⟩:=(show h.IsList l xs from x);exact⟨o,n,ho,hd⟩
theorem gG.to{b:Bool}{h h':Heap}{l:Addr}{xs:Array Value}(x:gG b h l xs)(e:∀o,h.get? l=some o→h'.get? l=some o):gG b h' l xs:=by
 cases b with
 | true=>obtain⟨o,ho,q⟩:=(show h.IsTuple l xs from x);exact⟨o,e o ho,q⟩
 | false=>obtain⟨o,ho,q⟩:=(show h.IsList l xs from x);exact⟨o,e o ho,q⟩
section
variable {prog:Program}{w:World}{A:Around}{E:Value→Shared→Prop}{s:Shared}
theorem IM{it l:Addr}{k:Nat}{xs:Array Value}{Q:Value→Shared→Prop}(hi:s.heap.IsTupleIter it l k)(hl:s.heap.IsTuple l xs)
  (h1:∀x h',xs[k]? = some x→h'.IsTupleIter it l (k+1)→Heap.SameBut it s.heap h'→Q x {s with heap:=h'})
  (h2:xs[k]? = none→A.handled=none∧∀h' e,Heap.ExtBut it s.heap h'→(∃o,h'.get? e=some o∧o.cls=.type "StopIteration")→E (.ref e) {s with heap:=h'}) :
  wpAny (model prog w) A (Builtin.SmallTypes.nextOf (.ref it)) Q E s:=by
 obtain⟨oi,gi,ci,di⟩:=id hi;obtain⟨ol,gl,_,n,dl⟩:=hl;unfold Builtin.SmallTypes.nextOf;refine ao (wpAny_callSpecial?_slot (name:=Str.ofString "__next__") hi.typeIs F.slot_tuple_iterator_next (wpAny_call_entry F.slot_tuple_iterator_next hi.typeIs F.entry_tuple_iterator_next ?_ (F.args_tuple_iterator_next_1 _)));show wpAny _ _ (field (.ref it) 0 >>= _) _ _ s;refine ao (wpAny_field gi di (x:=.ref l) rfl ?_);show wpAny _ _ (if (Value.ref l == Value.none)=true then _ else field (.ref it) 1 >>= _) _ _ s;have ne:(Value.ref l == Value.none)=false:=rfl;simp only[ne,bU,if_false];refine ao (wpAny_field gi di (x:=.int k 0) rfl (ao (wpAny_seqItems gl dl ?_)));cases hx:xs[k]? with
 | some x=>simp only[bH,hx];refine ao (wpAny_setField gi di (by simp) (ak ⟨x,rfl,ak (h1 x _ hx ?_ (Heap.SameBut.update ..))⟩));refine⟨_,Heap.get?_update_self _ gi (Obj.isFreed_of_fields (Obj.data_mapFields di _)),(Obj.cls_mapFields ..).trans ci,?_⟩;rw[Obj.data_mapFields di];simp[rawInt]
 | none=>obtain⟨hh,h2⟩:=h2 hx;simp only[bH,hx];refine ao (wpAny_rule (ao (wpAny_setField gi di (by simp) ?_)));show wpAny _ _ (newExc (.type "StopIteration") [] >>= _) _ _ _;simp only[newExc,newTuple];refine ao (ao (wpAny_newObj_type (ao (m:=firstArgMember _ _) (wpAny_of_eq (a:=Value.none) (by first | rfl | (simp only[firstArgMember];rfl)) (wpAny_newObj_type ?_ (by size_fits)))) (by size_fits)));simp only[raiseNew];refine ao (wpAny_handled ?_);rw[show A.in1.handled=none from hh];refine ao (ak (wpAny_throw ?_));exact h2 _ _ (((Heap.SameBut.update ..).extBut.push _).push _) ⟨_,ar _ rfl,rfl⟩
theorem qO{b:Bool}{it l:Addr}{k:Nat}{xs:Array Value}{Q:Value→Shared→Prop}(hi:i7 b s.heap it l k)(hl:gG b s.heap l xs)
  (h1:∀x h',xs[k]? = some x→i7 b h' it l (k+1)→Heap.SameBut it s.heap h'→Q x {s with heap:=h'})
  (h2:xs[k]? = none→A.handled=none∧∀h' e,Heap.ExtBut it s.heap h'→(∃o,h'.get? e=some o∧o.cls=.type "StopIteration")→E (.ref e) {s with heap:=h'}) :
  wpAny (model prog w) A (Builtin.SmallTypes.nextOf (.ref it)) Q E s:=by
 cases b with
 | true=>exact IM hi hl h1 h2
 | false=>
  have hi':s.heap.IsListIter it l k:=hi;have hl':s.heap.IsList l xs:=hl;cases hx:xs[k]? with
  | some x=>exact wpAny_nextOf_list_item hi' hl' hx fun h' a b=>h1 x h' hx a b
  | none=>obtain⟨hh,h2⟩:=h2 hx;exact wpAny_nextOf_list_end hh hi' hl' hx h2
theorem Iv{b1 b2:Bool}{z TI TO i1 i2 l1 l2:Addr}{k:Nat}{xs ys:Array Value}{a b:Value}{Q:Value→Shared→Prop}(D:ZipApart z TI TO i1 i2 l1 l2)
  (hz:IsZip s.heap z TI TO .none) (hTI:IsPair s.heap TI (.ref i1) (.ref i2)) (hTO:IsPair s.heap TO a b)
  (h1:i7 b1 s.heap i1 l1 k) (h2:i7 b2 s.heap i2 l2 k) (hl1:gG b1 s.heap l1 xs) (hl2:gG b2 s.heap l2 ys)
  (yes:∀x y h',xs[k]? = some x→ys[k]? = some y→IsZip h' z TI TO (rawInt s.heap.objs.size)→IsPair h' TO x y→i7 b1 h' i1 l1 (k+1)→i7 b2 h' i2 l2 (k+1)→IsPair h' s.heap.objs.size x y→h'.objs.size=s.heap.objs.size+1→
   (∀c o,c≠z→c≠TO→c≠i1→c≠i2→s.heap.get? c=some o→h'.get? c=some o)→Q (.ref s.heap.objs.size) {s with heap:=h'})
  (no:xs[k]? = none∨ys[k]? = none→A.handled=none∧∀h' e,(∀c o,c≠z→c≠TO→c≠i1→c≠i2→s.heap.get? c=some o→h'.get? c=some o)→(∃o,h'.get? e=some o∧o.cls=.type "StopIteration")→E (.ref e) {s with heap:=h'}) :
  wpAny (model prog w) A (Builtin.«zip.__next__» ⟨[.ref z],[]⟩) (fun fin s'=>∃v,fin=.done (.ret v)∧Q v s') E s:=by
 have notZ:∀{h:Heap} {e:Addr} {oe:Obj} {f:Value},IsZip h z TI TO f→h.get? e=some oe→oe.cls=.type "StopIteration" →e≠z:=fun {h e oe f} q ge ce u=>by subst u;rw[q] at ge;cases ge;simp at ce
 show wpAny _ _ (field (.ref z) 2 >>= fun _=>_) _ _ _;refine ao (wpAny_field hz rfl (x:=.bool false) rfl ?_);show wpAny _ _ (field (.ref z) 3 >>= fun _=>_) _ _ _;refine ao (wpAny_field hz rfl (x:=.ref TI) rfl (ao (wpAny_seqItems hTI rfl ?_)));show wpAny _ _ (Builtin.SmallTypes.ownedTupleIsFree (.ref z) >>= fun _=>_) _ _ _;unfold Builtin.SmallTypes.ownedTupleIsFree;refine ao (ao (wpAny_field hz rfl (x:=.none) rfl (ak ?_)));simp only[if_true];refine ao (wpAny_rule (ao (wpAny_field hz rfl (x:=.ref TO) rfl (ao (wpAny_setField_rec hz (by simp) fun g1 y1 k1=>?_)))));have z1:IsZip g1 z TI TO .ellipsis:=y1;simp only[List.zipIdx_cons,List.zipIdx_nil,List.forIn_cons,List.forIn_nil];refine ao (ao (ao (wpAny_onRaise ?_)));show wpAny _ _ (Builtin.SmallTypes.nextOf (.ref i1) >>= fun _=>_) _ _ _;refine ao (qO (h1.to fun o e=>k1.extBut _ _ D.i1z e) (hl1.to fun o e=>k1.extBut _ _ D.l1z e) (fun x g2 hx t2 k2=>ak ?_) (fun hx=>⟨(no (.inl hx)).1,fun g2 e k2 ⟨oe,ge,ce⟩=>?_⟩))
 ·have p2:IsPair g2 TO a b:=k2.extBut _ _ D.TOi1 (k1.extBut _ _ D.TOz hTO);refine ao (wpAny_seqItems p2 rfl (ao (wpAny_updateSeq_pair p2 fun g3 q3 k3=>?_)));have p3:IsPair g3 TO x b:=q3;refine ao (wpAny_letGo (ak (ao (ao (wpAny_onRaise ?_)))));show wpAny _ _ (Builtin.SmallTypes.nextOf (.ref i2) >>= fun _=>_) _ _ _;have to3:∀c o,c≠z→c≠i1→c≠TO→s.heap.get? c=some o→g3.get? c=some o:=fun c o c1 c2 c3 e=>k3.extBut _ _ c3 (k2.extBut _ _ c2 (k1.extBut _ _ c1 e));refine ao (qO (h2.to fun o e=>to3 _ o D.i2z D.i12.symm D.TOi2.symm e) (hl2.to fun o e=>to3 _ o D.l2z D.l2i1 D.l2TO e) (fun y g4 hy t4 k4=>ak ?_) (fun hy=>⟨(no (.inr hy)).1,fun g4 e k4 ⟨oe,ge,ce⟩=>?_⟩))
  ·have p4:IsPair g4 TO x b:=k4.extBut _ _ D.TOi2 p3;refine ao (wpAny_seqItems p4 rfl (ao (wpAny_updateSeq_pair p4 fun g5 q5 k5=>?_)));have p5:IsPair g5 TO x y:=q5;refine ao (wpAny_letGo (ak (ak (ao (wpAny_seqItems p5 rfl (ao (wpAny_newTuple ?_)))))));have sz:g5.objs.size=s.heap.objs.size:=by rw[k5.1,k4.1,k3.1,k2.1,k1.1]
   have z5:IsZip g5 z TI TO .ellipsis:=k5.extBut _ _ D.TOz.symm (k4.extBut _ _ D.i2z.symm (k3.extBut _ _ D.TOz.symm (k2.extBut _ _ D.i1z.symm z1)));have to5:∀c o,c≠z→c≠TO→c≠i1→c≠i2→s.heap.get? c=some o→g5.get? c=some o:=fun c o c1 c2 c3 c4 e=>k5.extBut _ _ c2 (k4.extBut _ _ c4 (to3 c o c1 c3 c2 e));show wpAny _ _ (Builtin.SmallTypes.ownedTupleHandOut (.ref z) (.ref g5.objs.size) >>= fun _=>_) _ _ _;unfold Builtin.SmallTypes.ownedTupleHandOut;refine ao (ao (wpAny_setField_rec (show IsZip (g5.push {cls:=.type "tuple",data:=.seq #[x,y]}) z TI TO .ellipsis from ae _ z5) (by simp) fun g7 y7 k7=>?_));have z7:IsZip g7 z TI TO (rawInt g5.objs.size):=y7;refine wpAny_setField_rec z7 (by simp) fun g8 y8 k8=>?_;have z8:IsZip g8 z TI TO (rawInt g5.objs.size):=y8;have up:∀c o,c≠z→(g5.push {cls:=.type "tuple",data:=.seq #[x,y]}).get? c=some o→g8.get? c=some o:=fun c o c1 e=>k8.extBut _ _ c1 (k7.extBut _ _ c1 e);have up5:∀c o,c≠z→g5.get? c=some o→g8.get? c=some o:=fun c o c1 e=>up c o c1 (ae _ e);have p8:IsPair g8 g5.objs.size x y:=up _ _ (bj (aK z5)) (ar _ rfl);have s8:g8.objs.size=g5.objs.size+1:=by rw[k8.1,k7.1,Heap.size_push]
   rw[sz] at z8 p8 s8;refine ak ⟨_,rfl,?_⟩;show Q (.ref g5.objs.size) {s with heap:=g8};rw[sz];have e1:i7 b1 g8 i1 l1 (k+1):=t2.to fun o e=>up5 _ o D.i1z (k5.extBut _ _ D.TOi1.symm (k4.extBut _ _ D.i12 (k3.extBut _ _ D.TOi1.symm e)));have e2:i7 b2 g8 i2 l2 (k+1):=t4.to fun o e=>up5 _ o D.i2z (k5.extBut _ _ D.TOi2.symm e);exact yes x y g8 hx hy z8 (up5 _ _ D.TOz p5) e1 e2 p8 s8 fun c o c1 c2 c3 c4 e=>up5 c o c1 (to5 c o c1 c2 c3 c4 e)
  ·have z4:IsZip g4 z TI TO .ellipsis:=k4 _ _ D.i2z.symm (k3.extBut _ _ D.TOz.symm (k2.extBut _ _ D.i1z.symm z1));refine wpAny_setField_rec z4 (by simp) fun g5 _ k5=>(no (.inr hy)).2 g5 e (fun c o c1 c2 c3 c4 q=>k5.extBut _ _ c1 (k4 _ _ c4 (to3 c o c1 c3 c2 q))) ⟨oe,k5.extBut _ _ (notZ z4 ge ce) ge,ce⟩
 ·have z2:IsZip g2 z TI TO .ellipsis:=k2 _ _ D.i1z.symm z1;refine wpAny_setField_rec z2 (by simp) fun g3 _ k3=>(no (.inl hx)).2 g3 e (fun c o c1 c2 c3 c4 q=>k3.extBut _ _ c1 (k2 _ _ c3 (k1.extBut _ _ c1 q))) ⟨oe,k3.extBut _ _ (notZ z2 ge ce) ge,ce⟩
theorem AC{b1 b2:Bool}{z TI TO i1 i2 l1 l2:Addr}{k:Nat}{xs ys:Array Value}{a b:Value}{Q:Option Value→Shared→Prop}(D:ZipApart z TI TO i1 i2 l1 l2)
  (hz:IsZip s.heap z TI TO .none) (hTI:IsPair s.heap TI (.ref i1) (.ref i2)) (hTO:IsPair s.heap TO a b)
  (h1:i7 b1 s.heap i1 l1 k) (h2:i7 b2 s.heap i2 l2 k) (hl1:gG b1 s.heap l1 xs) (hl2:gG b2 s.heap l2 ys)
  (yes:∀x y h',xs[k]? = some x→ys[k]? = some y→IsZip h' z TI TO (rawInt s.heap.objs.size)→IsPair h' TO x y→i7 b1 h' i1 l1 (k+1)→i7 b2 h' i2 l2 (k+1)→IsPair h' s.heap.objs.size x y→h'.objs.size=s.heap.objs.size+1→
   (∀c o,c≠z→c≠TO→c≠i1→c≠i2→s.heap.get? c=some o→h'.get? c=some o)→Q (some (.ref s.heap.objs.size)) {s with heap:=h'})
  (no:xs[k]? = none∨ys[k]? = none→A.handled=none∧∀h',(∀c o,c≠z→c≠TO→c≠i1→c≠i2→s.heap.get? c=some o→h'.get? c=some o)→Q none {s with heap:=h'}) :
  wpAny (model prog w) A (pyNext (.ref z)) Q E s:=by
 have ty:s.TypeIs (.ref z) "zip" :=⟨_,hz,rfl⟩;unfold pyNext;refine ao (wpAny_attempt (wpAny_callSpecial?_slot (name:=Str.ofString "__next__") ty F.slot_zip_next (wpAny_call_entry F.slot_zip_next ty F.entry_zip_next
  (Iv D hz hTI hTO h1 h2 hl1 hl2 (fun x y h' u1 u2 u3 u4 u5 u6 u7 u8 u9=>ak (yes x y h' u1 u2 u3 u4 u5 u6 u7 u8 u9)) fun q=>⟨(no q).1,fun h' e hk ⟨o,ho,hc⟩=>?_⟩) (F.args_zip_next_1 _))))
 exact ao (wpAny_isInstance (T:= "StopIteration") (b:=true) ⟨o,ho,hc⟩ isSubtype_stop (ak ((no q).2 h' hk)))
theorem mZ{b:Bool}{l:Addr}{xs:Array Value}{Q:Value→Shared→Prop}(hl:gG b s.heap l xs)
  (h:Q (.ref s.heap.objs.size) {s with heap:=s.heap.push {cls:=.type (vN b),data:=.fields #[.ref l,.int 0 0]}}):wpAny (model prog w) A (pyIter (.ref l)) Q E s:=by
 cases b with
 | true=>exact wpAny_pyIter_tuple (show s.heap.IsTuple l xs from hl) h
 | false=>exact wpAny_pyIter_list (show s.heap.IsList l xs from hl) h
end
noncomputable abbrev zo(b:Bool)(l:Addr):Obj:={cls:=.type (vN b),data:=.fields #[.ref l,.int 0 0]}
noncomputable abbrev zt(x y:Value):Obj:={cls:=.type "tuple",data:=.seq #[x,y]}
noncomputable abbrev zz(p q:Addr):Obj:={cls:=.type "zip",data:=.fields #[.none,.bool false,.bool false,.ref p,.ref q]}
noncomputable abbrev yu(b1 b2:Bool)(h:Heap)(l1 l2:Addr):Heap:=
 ((((h.push (zo b1 l1)).push (zo b2 l2)).push (zt (.ref h.objs.size) (.ref (h.push (zo b1 l1)).objs.size))).push (zt .none .none)).push
  (zz ((h.push (zo b1 l1)).push (zo b2 l2)).objs.size (((h.push (zo b1 l1)).push (zo b2 l2)).push (zt (.ref h.objs.size) (.ref (h.push (zo b1 l1)).objs.size))).objs.size)
section
variable {prog:Program}{w:World}{A:Around}{E:Value→Shared→Prop}{s:Shared}
theorem Eo(b1 b2:Bool)(l1 l2:Addr)(xs ys:Array Value):Meets (Builtin.«zip.__new__» ⟨[.type "zip",.ref l1,.ref l2],[]⟩) (fun _ R s=>gG b1 s.heap l1 xs∧gG b2 s.heap l2 ys∧
  R (.ok (.ret (.ref ((((s.heap.push (zo b1 l1)).push (zo b2 l2)).push (zt (.ref s.heap.objs.size) (.ref (s.heap.push (zo b1 l1)).objs.size))).push (zt .none .none)).objs.size))) {s with heap:=yu b1 b2 s.heap l1 l2}):=by
 refine .of_wp fun prog w A R s h=>?_;obtain⟨hp,g,d,tk,os⟩:=s;obtain⟨a1,a2,hR⟩:=h;have sz:=sub_zip;have q1:gG b1 (Shared.heap ⟨hp,g,d,tk,os⟩) l1 xs:=a1;have q2:gG b2 (Shared.heap ⟨hp.push (zo b1 l1),g,d,tk,os⟩) l2 ys:=a2.to fun o e=>ae _ e;wp_walk using mZ q1,mZ q2;exact⟨_,rfl,hR⟩
theorem FN{b1 b2:Bool}{l1 l2:Addr}{xs ys:Array Value}{Q:Value→Shared→Prop}(hl1:gG b1 s.heap l1 xs)(hl2:gG b2 s.heap l2 ys)
  (h:∀h',IsZip h' (s.heap.objs.size+4) (s.heap.objs.size+2) (s.heap.objs.size+3) .none→IsPair h' (s.heap.objs.size+2) (.ref s.heap.objs.size) (.ref (s.heap.objs.size+1))→IsPair h' (s.heap.objs.size+3) .none .none→
   i7 b1 h' s.heap.objs.size l1 0→i7 b2 h' (s.heap.objs.size+1) l2 0→h'.objs.size=s.heap.objs.size+5→(∀c o,s.heap.get? c=some o→h'.get? c=some o)→Q (.ref (s.heap.objs.size+4)) {s with heap:=h'}) :
  wpAny (model prog w) A (call (.type "zip") [.ref l1,.ref l2]) Q E s:=by
 refine callType_new F.called_zip (by decide) (F.typeCall_zip_2 _ _) (F.newCall_zip_2 _ _) (fun obj=>F.args_object_init_3 obj _ _) F.entry_zip_new (Eo b1 b2 l1 l2 xs ys) ⟨hl1,hl2,?_⟩;generalize hn:s.heap.objs.size=n at *;have n1:(s.heap.push (zo b1 l1)).objs.size=n+1:=by rw[Heap.size_push,hn]
 have n2:((s.heap.push (zo b1 l1)).push (zo b2 l2)).objs.size=n+2:=by rw[Heap.size_push,n1]
 generalize hg2:(s.heap.push (zo b1 l1)).push (zo b2 l2)=g2 at *;have k2:∀c o,s.heap.get? c=some o→g2.get? c=some o:=fun c o e=>by rw[←hg2];exact ae _ (ae _ e)
 have t1:g2.get? n=some (zo b1 l1):=by rw[←hg2,←hn];exact ae _ (ar _ rfl)
 have t2:g2.get? (n+1)=some (zo b2 l2):=by rw[←hg2,←n1];exact ar _ rfl
 have n3:(g2.push (zt (.ref n) (.ref (n+1)))).objs.size=n+3:=by rw[Heap.size_push,n2]
 have n4:((g2.push (zt (.ref n) (.ref (n+1)))).push (zt .none .none)).objs.size=n+4:=by rw[Heap.size_push,n3]
 have eH:yu b1 b2 s.heap l1 l2=((g2.push (zt (.ref n) (.ref (n+1)))).push (zt .none .none)).push (zz (n+2) (n+3)):=by unfold yu;rw[hn,n1,hg2,n2,n3]
 rw[eH,n1,n4];have p3:(g2.push (zt (.ref n) (.ref (n+1)))).get? (n+2)=some (zt (.ref n) (.ref (n+1))):=by rw[←n2];exact ar _ rfl
 have p4:((g2.push (zt (.ref n) (.ref (n+1)))).push (zt .none .none)).get? (n+3)=some (zt .none .none):=by rw[←n3];exact ar _ rfl
 have p5:(((g2.push (zt (.ref n) (.ref (n+1)))).push (zt .none .none)).push (zz (n+2) (n+3))).get? (n+4)=some (zz (n+2) (n+3)):=by rw[←n4];exact ar _ rfl
 have up:∀c o,g2.get? c=some o→(((g2.push (zt (.ref n) (.ref (n+1)))).push (zt .none .none)).push (zz (n+2) (n+3))).get? c=some o:=fun c o e=>ae _ (ae _ (ae _ e));exact⟨⟨_,p5,rfl⟩,h _ p5 (ae _ (ae _ p3)) (ae _ p4) (.of ⟨_,up _ _ t1,rfl,rfl⟩) (.of ⟨_,up _ _ t2,rfl,rfl⟩) (by rw[Heap.size_push,n4]) fun c o e=>up c o (k2 c o e)⟩
end
end L2
namespace L2
open PySem PySem.Spec PyProof.Rows
theorem eW.turnedL{X:Cx}{dU:List (Addr×Obj)}{σ:St}{H:Hp}{s:Shared}{h':Heap}{t':Nat}{ch:List Addr}(I:eW X dU σ H s)(k:∀b o,b∉ch→s.heap.get? b=some o→h'.get? b=some o)(hf:∀b∈ch,qJ X dU H b) :
  eW X dU σ H {s with heap:=h',toks:=t'}:=by
 have nit:∀b u,H b=some u→b∉ch:=fun b u e z=>by rw[(hf b z).1] at e;cases e
 refine I.step (g':=s.gens) (d':=s.drawn) (ch:=ch) (fun b hb=>let ⟨_,f1,_,f3,f4,f5⟩:=hf b hb;⟨f3,f1,f4,f5⟩) (fun b o _ _ hc e _=>k b o hc e) (fun b o _ _ hc e _=>⟨o.slots,k b o hc e⟩) (fun _ _ _ _ n=>n)
  (fun b o hc e=>⟨o,k b o hc e⟩) (fun _ _ e=>e) (fun _ _ _ e=>e) (fun b ps e=>⟨#[],by rw[e];simp⟩) (fun m hm=>?_) (fun b u e=>?_) I.bare
 ·obtain⟨o,es,ep,ho,r⟩:=hm;exact⟨o,es,ep,k _ o (fun z=>(hf _ z).2.1 rfl) ho,r⟩
 ·refine (I.hok b u e).stay (fun c v hc q=>k c v ?_ q) (fun _ q=>q) fun _ _ q=>q;rcases hc with z | z
  ·rw[z];exact nit b u e
  ·exact nit c _ z
def t8(K:W.Frag)(H:Hp)(b:Bool)(a:Addr)(xs:List V):Prop:=if b=true then kR K H a xs else jI K H a xs
theorem eW.seqB{X:Cx}{dU:List (Addr×Obj)}{σ:St}{H:Hp}{s:Shared}{b:Bool}{a:Addr}{xs:List V}(I:eW X dU σ H s)(h:t8 X.K H b a xs):∃its:List Value,fP xs its∧gG b s.heap a its.toArray∧xs.length≤sizeLine:=by
 cases b with
 | true=>obtain⟨its,r,p,z⟩:=I.tuple (show kR X.K H a xs from h);exact⟨its,r,p,z⟩
 | false=>obtain⟨its,r,p,z⟩:=I.list (show jI X.K H a xs from h);exact⟨its,r,p.isList,z⟩
theorem eW.seqB_inj{X:Cx}{dU:List (Addr×Obj)}{σ:St}{H:Hp}{s:Shared}{b:Bool}{a:Addr}{xs ys:List V}(I:eW X dU σ H s)(h:t8 X.K H b a xs)(h':t8 X.K H b a ys):xs=ys:=by
 cases b with
 | true=>exact I.tuple_inj h h'
 | false=>exact I.list_inj h h'
noncomputable def P7(K:W.Frag)(b1 b2:Bool)(l1 l2:Addr):It:=
  ⟨fun i H=>∃xs ys x y,t8 K H b1 l1 xs∧t8 K H b2 l2 ys∧xs[i]? = some x∧ys[i]? = some y,
   fun i H v H'=>∃p x y,v=.ref p∧H p=none∧H'=ij H p (.tup [x,y])∧(∀xs,t8 K H b1 l1 xs→xs[i]? = some x)∧∀ys,t8 K H b2 l2 ys→ys[i]? = some y,
   fun i H=>∃xs ys,t8 K H b1 l1 xs∧t8 K H b2 l2 ys∧(xs.length≤i∨ys.length≤i)⟩
theorem Ij{P:Program}{w:World}{K:W.Frag}{elts:List Expr}{x1}{pos:Pos}{b1 b2:Bool}{z TI TO i1 i2 l1 l2:Addr}(D:ZipApart z TI TO i1 i2 l1 l2) :
  zV P w K (.Tuple elts x1 pos) (P7 K b1 b2 l1 l2) [z,TI,TO,i1,i2] z (fun i h=>IsZip h z TI TO .none∧IsPair h TI (.ref i1) (.ref i2)∧(∃a b,IsPair h TO a b)∧i7 b1 h i1 l1 i∧i7 b2 h i2 l2 i) where
 mem:=by simp
 obj:=fun i h st b hb=>by
  obtain⟨hz,hTI,⟨a,c,hTO⟩,h1,h2⟩:=st;have mem:b=z∨b=TI∨b=TO∨b=i1∨b=i2:=by simpa using hb
  rcases mem with rfl | rfl | rfl | rfl | rfl
  ·exact⟨_,hz,fun v q=>by cases q⟩
  ·exact⟨_,hTI,fun v q=>by cases q⟩
  ·exact⟨_,hTO,fun v q=>by cases q⟩
  ·obtain⟨o,e,_,d⟩:=h1.look;exact⟨o,e,fun v q=>by rw[d] at q;cases q⟩
  ·obtain⟨o,e,_,d⟩:=h2.look;exact⟨o,e,fun v q=>by rw[d] at q;cases q⟩
 keep:=fun i h h' st k=>by obtain⟨hz,hTI,⟨a,c,hTO⟩,h1,h2⟩:=st;exact⟨k z (by simp) _ hz,k TI (by simp) _ hTI,⟨a,c,k TO (by simp) _ hTO⟩,h1.to fun o e=>k i1 (by simp) o e,h2.to fun o e=>k i2 (by simp) o e⟩
 item:=by
  intro X hP hw hK hc i dU s σ H E I hf st hg;subst hP hw hK;obtain⟨hz,hTI,⟨a,c,hTO⟩,h1,h2⟩:=st;obtain⟨xs,ys,x,y,q1,q2,e1,e2⟩:=hg;obtain⟨us,r1,p1,z1⟩:=I.seqB q1;obtain⟨vs,r2,p2,z2⟩:=I.seqB q2;obtain⟨u,gu,ru⟩:=r1.get e1;obtain⟨v,gv,rv⟩:=r2.get e2;have FT:=I.fpOk (b:=s.heap.objs.size) (aJ _) (I.hok.fresh (aJ _));refine AC D hz hTI hTO h1 h2 p1 p2 (fun u' v' h' gu' gv' a1 a2 a3 a4 a5 a6 hk=>?_) fun q=>?_
  ·have eu:u'=u:=by
    have:us[i]? = some u':=by simpa using gu'
    rw[gu] at this;cases this;rfl
   have ev:v'=v:=by
    have:vs[i]? = some v':=by simpa using gv'
    rw[gv] at this;cases this;rfl
   subst eu;subst ev;refine⟨_,rfl,wpAny_letOwnedTupleGo_zip a1 fun h'' hz'' sb=>?_⟩;have zT:s.heap.objs.size≠z:=bj (aK hz);have I1:eW X dU σ H {s with heap:=h''}:=I.turnedL (t':=s.toks) (ch:=[z,TO,i1,i2]) (fun b o hb e=>sb.extBut _ _ (fun q=>hb (by simp[q])) (hk b o (fun q=>hb (by simp[q])) (fun q=>hb (by simp[q])) (fun q=>hb (by simp[q])) (fun q=>hb (by simp[q])) e))
    (fun b hb=>hf b (by
     have mem:b=z∨b=TO∨b=i1∨b=i2:=by simpa using hb
     rcases mem with rfl | rfl | rfl | rfl<;>simp))
   have gT:h''.get? s.heap.objs.size=some {cls:=.type "tuple",data:=.seq #[u',v']}:=sb.extBut _ _ zT a5;have I2:eW X dU σ (ij H s.heap.objs.size (.tup [x,y])) {s with heap:=h''}:=I1.track FT.1 FT.2.2.2.1 FT.2.1 FT.2.2.2.2.1 FT.2.2.2.2.2
    ⟨by show 2≤sizeLine;decide,[u',v'],.cons ru (.cons rv .nil),⟨_,gT,rfl,_,rfl⟩⟩
   have lt:∀{b o},s.heap.get? b=some o→ij H s.heap.objs.size (.tup [x,y]) b=H b:=fun {b o} e=>eO (aL (aK e));refine⟨.ref s.heap.objs.size,_,I2,rfl,⟨_,x,y,rfl,FT.1,rfl,fun xs' h=>by rw[I.seqB_inj h q1];exact e1,fun ys' h=>by rw[I.seqB_inj h q2];exact e2⟩,?_,fun b hb=>?_⟩
   ·have k2:∀c o,c≠z→h'.get? c=some o→h''.get? c=some o:=fun c o c1 e=>sb.extBut _ _ c1 e;exact⟨hz'',k2 _ _ D.TIz (hk _ _ D.TIz D.TITO D.TIi1 D.TIi2 hTI),⟨_,_,k2 _ _ D.TOz a2⟩,a3.to fun o e=>k2 _ o D.i1z e,a4.to fun o e=>k2 _ o D.i2z e⟩
   ·have mem:b=z∨b=TI∨b=TO∨b=i1∨b=i2:=by simpa using hb
    have hn:=(hf b hb).1;obtain⟨o1,g1,_⟩:=h1.look;obtain⟨o2,g2,_⟩:=h2.look;rcases mem with rfl | rfl | rfl | rfl | rfl
    ·rw[lt hz];exact hn
    ·rw[lt hTI];exact hn
    ·rw[lt hTO];exact hn
    ·rw[lt g1];exact hn
    ·rw[lt g2];exact hn
  ·exfalso;have m1:us.toArray[i]? = some u:=by simpa using gu
   have m2:vs.toArray[i]? = some v:=by simpa using gv
   rcases q with q | q
   ·rw[m1] at q;cases q
   ·rw[m2] at q;cases q
 done:=by
  intro X hP hw hK hc i dU s σ H E I hf st hg;subst hP hw hK;obtain⟨hz,hTI,⟨a,c,hTO⟩,h1,h2⟩:=st;obtain⟨xs,ys,q1,q2,hl⟩:=hg;obtain⟨us,r1,p1,z1⟩:=I.seqB q1;obtain⟨vs,r2,p2,z2⟩:=I.seqB q2;have n1:=r1.length;have n2:=r2.length;have fpc:∀b∈[z,TO,i1,i2],qJ X dU H b:=fun b hb=>hf b (by
   have mem:b=z∨b=TO∨b=i1∨b=i2:=by simpa using hb
   rcases mem with rfl | rfl | rfl | rfl<;>simp)
  refine AC D hz hTI hTO h1 h2 p1 p2 (fun u' v' h' gu' gv' a1 a2 a3 a4 a5 a6 hk=>?_) fun q=>⟨I.ok.hd hc,fun h' hk=>⟨rfl,I.turnedL (t':=s.toks) (ch:=[z,TO,i1,i2]) (fun b o hb e=>hk b o (fun q=>hb (by simp[q])) (fun q=>hb (by simp[q])) (fun q=>hb (by simp[q])) (fun q=>hb (by simp[q])) e) fpc⟩⟩;exfalso;have m1:i<us.length:=by
   have:us[i]? = some u':=by simpa using gu'
   exact (aa.mp this).1
  have m2:i<vs.length:=by
   have:vs[i]? = some v':=by simpa using gv'
   exact (aa.mp this).1
  omega
 self:=fun _ _ _ _ _ st h=>wpAny_pyIter_zip st.1 h
theorem NH:bootBuiltins "zip" = some (.type "zip"):=by decide +kernel
section
variable {X:Cx}
def Mn(K:W.Frag)(b1 b2:Bool)(ta:TA):TI:=fun σ H R=>ta σ H fun vs H1=>∃l1 l2,vs=[.ref l1,.ref l2]∧(∃xs,t8 K H1 b1 l1 xs)∧(∃ys,t8 K H1 b2 l2 ys)∧R (P7 K b1 b2 l1 l2) H1
theorem NJ{b1 b2:Bool}{elts:List Expr}{x1}{tpos:Pos}{a b:Expr}{ta:TA}{p pos:Pos}(hg:Gl X "zip")(hm:X.mg "zip" = none)(ha:PA X [a,b] ta)(hs:starEach [a,b] X.env=[(false,eval a X.env),(false,eval b X.env)]:=by rfl)
  (hs2:starEach [b] X.env=[(false,eval b X.env)]:=by rfl):PI X (.Tuple elts x1 tpos) (.Call (.Name "zip" p) [a,b] [] pos) (Mn X.K b1 b2 ta):=by
 intro dU s σ H R I h;refine Call_ (nN I hg hm NH (PyProof.Rows.callWith_type1 (iL (ha pos dU s σ H _ I h) fun us s1 ⟨vs,H1,I1,r1,q1⟩=>?_) (by rw[hs,hs2]) (by rw[hs2];rfl)));obtain⟨l1,l2,rfl,⟨xs,q1⟩,⟨ys,q2⟩,q⟩:=q1;obtain⟨u1,u2,rfl,e1,e2⟩:=K9 r1;cases e1;cases e2;obtain⟨us,rv1,p1,_⟩:=I1.seqB q1;obtain⟨ws,rv2,p2,_⟩:=I1.seqB q2;have lt1:l1<s1.heap.objs.size:=by obtain⟨o,n,e,_⟩:=p1.look;exact aK e
 have lt2:l2<s1.heap.objs.size:=by obtain⟨o,n,e,_⟩:=p2.look;exact aK e
 refine FN p1 p2 fun h' hz hTI hTO i1 i2 hsz hk=>?_;refine wpAny_pyIter_zip hz ?_;refine⟨_,_,_,_,H1,rfl,I1.kept (t':=s1.toks) hk,Ij (zipApart_new lt1 lt2),⟨hz,hTI,⟨_,_,hTO⟩,i1,i2⟩,fun b hb=>?_,q⟩;have mem:b=s1.heap.objs.size+4∨b=s1.heap.objs.size+2∨b=s1.heap.objs.size+3∨b=s1.heap.objs.size∨b=s1.heap.objs.size+1:=by simpa using hb
 have ge:s1.heap.objs.size≤b:=by rcases mem with rfl | rfl | rfl | rfl | rfl<;>omega
 exact I1.fpOk ge (I1.hok.fresh ge)
end
end L2
namespace L2
open PySem PySem.Spec PyProof.Rows
theorem l3{H:Hp}{p:Addr}{o:HO}(h:H p=none):fv H (ij H p o):=fun b u e=>by rw[eO (fH e h)];exact e
theorem fv.seqT{K:W.Frag}{H H':Hp}{a:Addr}{xs:List V}(e:fv H H')(h:kR K H a xs):kR K H' a xs:=by
 rcases h with (h | ⟨o,h⟩) | h
 ·exact .inl (.inl (e _ _ h))
 ·exact .inl (.inr ⟨o,e _ _ h⟩)
 ·exact .inr h
noncomputable def Gu(N0:List Str)(sc0 scope:Scope)(N:List Str)(ix:List (Option Nat)):Bool:=
 scope.kind == .function&&scope.names.all (fun y=>!(y.2 == NameKind.cell)||scope.names.lookup y.1 == some .cell)&&scope.names.all (fun y=>!(y.2 == NameKind.local)||scope.names.lookup y.1 == some .local) &&
 scope.names.all (fun y=>!(y.2 == NameKind.free)||sc0.names.lookup y.1 == some .cell)&&N.length == ix.length &&
 (List.range N.length).all (fun i=>match ix[i]?,N[i]? with
  | some (some j),some x=>N0[j]? == some x&&scope.names.lookup x == some .free&&sc0.names.lookup x == some .cell
  | _,_=>true)
theorem iD{X:Cx}{scope:Scope}{N:List Str}{ix:List (Option Nat)}(hX:∀x,X.env.scope.names.lookup x=some .cell→∃c,X.env.cells.lookup x=some c)(h:Gu X.N X.env.scope scope N ix=true):AX X scope N ix:=by
 unfold Gu at h;simp only[bJ] at h;obtain⟨⟨⟨⟨⟨h1,h2⟩,h3⟩,h4⟩,h5⟩,h6⟩:=h;refine⟨by simpa using h1,fun y hy e=>?_,fun y hy e=>?_,fun y hy e=>?_,by simpa using h5,fun i j x e1 e2=>?_⟩
 ·have:=b6.mp h2 y hy;rw[e] at this;simpa using this
 ·have:=b6.mp h3 y hy;rw[e] at this;simpa using this
 ·have:=b6.mp h4 y hy;rw[e] at this;exact hX _ (by simpa using this)
 ·have hi:i<N.length:=(aa.mp e1).1;have:=b6.mp h6 i (aR.mpr hi);rw[e1,e2] at this;simp only[bJ,beq_iff_eq] at this;obtain⟨⟨a,b⟩,c⟩:=this;exact⟨a,b,.inr (.inl c),fun z=>by have z':X.env.scope.names.lookup x=some .local:=z;rw[c] at z';cases z'⟩
theorem Bv{X:Cx}{scope:Scope}{N:List Str}{ix:List (Option Nat)}{C:Addr}{s₃:Shared}{H:Hp}{ex:List Addr}{pn:List (Addr×Obj)}(L:AX X scope N ix):∀x,(nc X N scope C s₃ H ex pn).env.scope.names.lookup x=some .cell→∃c,(nc X N scope C s₃ H ex pn).env.cells.lookup x=some c:=fun x hx=>by
 refine bE.mp (W.cellsFrom_some _ _ _ ?_);rcases qW (.inl hx) with hm | hm
 ·exact .inr (bE.mpr (ng hm (L.fre _ hm rfl)))
 ·exact .inl hm
theorem gR{K:W.Frag}{ix:List (Option Nat)}{k l:Nat}(hk:ix[k]? = some none)(hl:ix[l]? = some none):qD ix (EW K 2 (vA (ji k) (vA (ji l) Ej))):=by
 rintro x σ1 H Q ⟨a,xs,e1,hq,hn,v,r,e2,v',r',e3,e4,q⟩;refine⟨a,xs,e1,hq,hn,v,r,e2,v',r',e3,e4,fun i j e=>?_,q⟩;have n1:k≠i:=by rintro rfl;rw[hk] at e;cases e
 have n2:l≠i:=by rintro rfl;rw[hl] at e;cases e
 rw[aq n2,aq n1]
section
variable {ix:List (Option Nat)}{g:TG}{tt:TT}{te:TE}{σ:St}{Q:VK}{H1:Hp}{J:It}
end
section
variable {ix:List (Option Nat)}{g:TG}{te:TE}{σ:St}{Q:VK}{H1:Hp}{K:W.Frag}
end
end L2
namespace L2
open PySem PySem.Spec PyProof.Rows
section
variable {X:Cx}
end
end L2
namespace L2
open PySem PySem.Spec PyProof.Rows
section
variable {X:Cx}{K:W.Frag}
end
end L2
namespace L2
open PySem PySem.Spec PyProof.Rows
structure ke(K:W.Frag)(C:Addr)(m qual:Str)(st:Stmt):Prop where
 ex:∃f fd,JM K m qual st f fd∧Ja K C m f
structure iT(P:Program)(w:World)(K:W.Frag)(mg:Str→Option Value)(base:Heap)(C:Addr)(m:Str)(k:Nat)(sp:Sp):Prop where
 cl:Ae K C
 ex:∃f fd ps,mC P w K mg base yh k f fd ps sp∧Ja K C m f∧oC K fd ps []
theorem iT.mono{P:Program}{w:World}{K:W.Frag}{mg:Str→Option Value}{base:Heap}{C:Addr}{x:Str}{j k:Nat}{sp:Sp}(h:iT P w K mg base C x j sp)(hk:j≤k):iT P w K mg base C x k sp:=
 let ⟨f,fd,ps,F,a,b⟩:=h.ex
 ⟨h.cl,f,fd,ps,F.mono hk,a,b⟩
theorem Dg{P:Program}{w:World}{K:W.Frag}{mg:Str→Option Value}{base:Heap}{C:Addr}{m qual:Str}{st:Stmt}{N ps:List Str}{k:Nat}{sp:Sp}(cl:Ae K C)(D:ke K C m qual st)(S:eF N ps (eg st))
  (hb:∀(kV doc pm:Value) (an:Option Addr) (cdv ct:Value) (us:List Value),us.length=ps.length→bindArgs (W.fnOf m qual (iG st) (gC st) (eg st) .none kV doc pm an cdv ct) ⟨us,[]⟩=pure (ps.zip us))
  (len:∀vs H Q E,sp vs H Q E→vs.length=ps.length)
  (hbody:∀(f:Addr) (cdv:Value) (A:Around) (outer:List Env) (s:Shared) (H:Hp) (vs:List V) (Q:VK) (E:XK),hV k (A.deeper (envOfC qual (eg st) s.heap.objs.size f cdv))→sp vs H Q E→
   ∃t,Af (rz yh P w K mg base N qual (eg st) f cdv A outer s H E).nox (gC st) t∧t {nx:=fun _ H'=>Q .non H',rt:=Q} (kQ N vs) H):iT P w K mg base C m (k+1) sp:=by
 obtain⟨f,fd,F,m⟩:=D.ex;exact⟨cl,f,fd,ps,F.ok S len (hbody f),m,F.binds hb⟩
structure Aj(P:Program)(w:World)(K:W.Frag)(mg:Str→Option Value)(base:Heap)(x:Str)(C:Addr)(k:Nat)(sp:Sp):Prop where
 ex:∃f fd ps,mC P w K mg base yh k f fd ps sp∧Mk K C f∧oC K fd ps []
 mgx:mg x=some (.ref C)
theorem Aj.mono{P:Program}{w:World}{K:W.Frag}{mg:Str→Option Value}{base:Heap}{C:Addr}{x:Str}{j k:Nat}{sp:Sp}(h:Aj P w K mg base x C j sp)(hk:j≤k):Aj P w K mg base x C k sp:=
 let ⟨f,fd,ps,F,a,b⟩:=h.ex
 ⟨⟨f,fd,ps,F.mono hk,a,b⟩,h.mgx⟩
section
variable {X:Cx}{x m:Str}{C:Addr}{k:Nat}{sp:Sp}{e o:Expr}{es:List Expr}{t:TA}{ta:TE}{p pos apos:Pos}
theorem OH(h:Aj X.prog X.w X.K X.mg X.base x C k sp)(hr:hV (k+1) X.A)(ha:PA X (e::es) t)(hg:Gl X x:=by rfl)
  (hdb:(x == ("__debug__" : Str))=false:=by decide) (he:starEach (e::es) X.env=(false,eval e X.env)::starEach es X.env:=by rfl) (hpl:(backTo pos (starEach es X.env)).any (·.1)=false:=by rfl) :
  PE X (.Call (.Name x p) (e::es) [] pos) (DI C sp [] E0 t):=by
 obtain⟨f,fd,ps,F,a,b⟩:=h.ex;exact IT a F hr hg h.mgx b .nil Gb ha hdb he hpl
theorem Hc{pl:Sem Bool}(h:iT X.prog X.w X.K X.mg X.base C m k sp)(hr:hV k X.A)(ho:PE X o ta)
  (ht:eval (.Call (.Attribute o m apos) [] [] pos) X.env=(do
   let ov ←eval o X.env
   standAt apos.atName
   let (f,first) ←holding [ov] (getMethod ov m pl)
   callWith pos f first (backTo pos (starEach [] X.env)) (backToKw pos (keywordEach [] X.env))):=by rfl) :
  PE X (.Call (.Attribute o m apos) [] [] pos) (xQ C m sp [] E0 ta tW):=by
 obtain⟨f,fd,ps,F,a,b⟩:=h.ex;exact HY ho h.cl a F hr b .nil Gb ht
end
end L2
namespace L2
end L2
namespace L2
end L2
namespace L2
end L2
namespace L2
open PySem PySem.Spec PyProof.Rows
theorem Il{X:Cx}{tg elt iter:Expr}{ifs:List Expr}{scope:Scope}{pos spos py:Pos}{N:List Str}{ix:List (Option Nat)}{wi:TI}{g:TG}{tt:TT}{te:TE}{i:Nat}{y:Str}(hN:X.N.Nodup)(hy:X.N[i]? = some y)(hx:Fy X.env.scope y)
  (hc:X.calm=true) (hi:PI X tg iter wi) (L:AX X scope N ix) (hgk:qD ix g)
  (blk:∀C s₃ H ex pn,PG (nc X N scope C s₃ H ex pn) tg g∧EI (nc X N scope C s₃ H ex pn) ifs tt∧PE (nc X N scope C s₃ H ex pn) elt te)
  (hf:X.fn y=true∨X.env.scope.names.lookup y=some .local:=by first | exact .inl rfl | exact .inr rfl)
  (hsw:swapsWith (.ListComp elt [⟨tg,iter,ifs,0⟩] scope pos) (some (.Name y py)) spos.line X.env=pure true:=by rfl)
  (hs:∀x,foldedSetIterable iter X.env x=pure x:=by intro _;rfl):PS X (.Assign [.Name y py] (.ListComp elt [⟨tg,iter,ifs,0⟩] scope pos) spos) (nJ (Ma ix wi g tt te) (ji i)):=by
 intro dU s σ H D I h;rw[exec_Assign_Name_used _ _ _ _ hsw];refine ao (wpAny_standAt (ao ?_));rw[arm_evalThenUse_ListComp];refine ao (iL (wpAny_comprehension_free (use:=some (assign (.Name y py) X.env)) (Q:=fun _ s'=>SP X dU D .next s') rfl hs (pS L.fre) L.kind L.names (iL (hi dU s σ H _ I h) fun v s1 h1=>iL h1 fun itv s2 h2=>?_)) fun _ s' q=>ak (ak q));obtain⟨it,fp,tn,J,H2,e,I2,T,st2,f2,W,⟨m0,w0⟩,turn⟩:=h2;subst e;refine DE (Q:=fun x H1=>ji i x σ H1 D.nx) (RR:=fun acc C=>compPost (model X.prog X.w) X.A X.xe (some (assign (.Name y py) X.env)) (fun _ s'=>SP X dU D .next s') acc C) hc L hgk blk I2 T st2 f2 w0 turn fun E0 C m H' s' hn f I' q=>?_;refine wpAny_assign_Name (xD (v:=.ref E0) I' hN hy hx rfl (fun s3 I3 hch=>?_) hf);obtain⟨a,sb,ha⟩:=hch;have ne:C≠a:=by
  rcases ha with z | z
  ·rw[z];exact f.2.1
  ·exact fun w=>f.2.2.2.2.1 y a z w.symm
 exact⟨m,hn.sameBut sb ne,fun h' sb'=>⟨_,H',I3.turned (t':=s3.toks) (fun b o hb e=>sb'.extBut b o hb e) f.1 f.2.1 f.2.2.2.1 f.2.2.2.2.1 f.2.2.2.2.2,q⟩⟩
end L2
namespace L2
open PySem PySem.Spec PyProof.Rows
section
variable {κ:Type}[DecidableEq κ]
noncomputable def Bh(kvs:List (κ×V))(k:κ):Option V:=(kvs.find? fun kv=>decide (kv.1=k)).map (·.2)
noncomputable def sC(kvs:List (κ×V))(k:κ)(v:V):List (κ×V):=if (kvs.any fun kv=>decide (kv.1=k))=true then kvs.map (fun kv=>if kv.1=k then (kv.1,v) else kv) else kvs++[(k,v)]
theorem AF{p:κ×V}{r:List (κ×V)}{k:κ}(e:p.1=k):Bh (p::r) k=some p.2:=by simp[Bh,List.find?_cons,e]
theorem zI{p:κ×V}{r:List (κ×V)}{k:κ}(e:¬p.1=k):Bh (p::r) k=Bh r k:=by simp[Bh,List.find?_cons,e]
theorem zW(k:κ):∀kvs:List (κ×V),(kvs.any fun kv=>decide (kv.1=k))=(Bh kvs k).isSome
 | []=>rfl
 | p::r=>by
  rw[bM];by_cases e:p.1=k
  ·simp only[AF e,aB e,Bool.true_or,Option.isSome_some]
  ·rw[zI e,aA e,Bool.false_or];exact zW k r
theorem sQ(kvs:List (κ×V))(k:κ)(v:V):(sC kvs k v).length≤kvs.length+1:=by
 unfold sC;split
 ·rw[aw];omega
 ·rw[aS,ay,b7];omega
theorem rX.isSome_eq{o:Option V}{u:Option Value}(r:rX o u):o.isSome=u.isSome:=by
 cases o with
 | none=>cases u with
  | none=>rfl
  | some _=>exact (show False from r).elim
 | some _=>cases u with
  | none=>exact (show False from r).elim
  | some _=>rfl
theorem KV.any{kvs:List (κ×V)}{vs:List (κ×Value)}(r:KV kvs vs)(k:κ):(kvs.any fun kv=>decide (kv.1=k))=vs.any fun kv=>decide (kv.1=k):=by
 unfold KV at r;induction r with
 | nil=>rfl
 | cons h t ih=>rw[bM,bM,ih,h.1]
theorem KV.repl{kvs:List (κ×V)}{vs:List (κ×Value)}(r:KV kvs vs)(k:κ){y:V}{u:Value}(ry:gD y u) :
  KV (kvs.map fun kv=>if kv.1=k then (kv.1,y) else kv) (vs.map fun kv=>if kv.1=k then (kv.1,u) else kv):=by
 unfold KV at r ⊢;induction r with
 | nil=>exact .nil
 | @cons p q ps qs h t ih=>
  rw[bx,bx];refine .cons ?_ ih;obtain⟨h1,h2⟩:=h;by_cases e:p.1=k
  ·rw[aP e,aP (h1.symm.trans e)];exact⟨h1,ry⟩
  ·rw[aQ e,aQ (fun z=>e (h1.trans z))];exact⟨h1,h2⟩
theorem KV.put{kvs:List (κ×V)}{vs:List (κ×Value)}(r:KV kvs vs)(k:κ){y:V}{u:Value}(ry:gD y u):KV (sC kvs k y) (stored vs k u):=by
 unfold sC stored;rw[r.any k];by_cases e:(vs.any fun kv=>decide (kv.1=k))=true
 ·rw[aP e,aP e];exact r.repl k ry
 ·rw[aQ e,aQ e];exact Paired.snoc r ⟨rfl,ry⟩
theorem KV.length{kvs:List (κ×V)}{vs:List (κ×Value)}(r:KV kvs vs):kvs.length=vs.length:=Paired.length r
end
theorem KZ{P:Program}{w:World}{k:kr}{u:Value}(r:gD (kV k) u):(jj P w).is k u=true:=by
 cases k with
 | inl i=>obtain⟨t,e⟩:=(show ∃t,u=Value.int i t from r);subst e;exact A3 P w i t
 | inr x=>obtain⟨t,e⟩:=(show ∃t,u=Value.str x t from r);subst e;exact AN P w x t
theorem xx{P:Program}{w:World}:∀{ks:List kr} {us:List Value},fP (ks.map kV) us→ItemsAre (jj P w) ks us
 | [],_,r=>by rw[bS] at r;cases r;exact .nil
 | k::ks,_,r=>by
  rw[bx] at r;cases r with
  | cons h t=>exact .cons (KZ h) (xx t)
noncomputable abbrev KT(H:Hp):List (List kr×V)→List (List kr×Addr×Value)→Prop:=Paired fun p q=>p.1=q.1∧H q.2.1=some (.tup (p.1.map kV))∧gD p.2 q.2.2
theorem KT.val{H:Hp}{kvs:List (List kr×V)}{xs:List (List kr×Addr×Value)}(r:KT H kvs xs)(k:List kr):rX (Bh kvs k) ((atKey xs k).map (·.2)):=by
 induction r with
 | nil=>exact True.intro
 | @cons p q ps qs h t ih=>
  obtain⟨h1,_,h2⟩:=h;by_cases e:p.1=k
  ·have e':q.1=k:=h1.symm.trans e;have b:atKey (q::qs) k=some q.2:=by simp[atKey,List.find?_cons,e']
   rw[AF e,b];exact h2
  ·have e':¬q.1=k:=fun z=>e (h1.trans z);have b:atKey (q::qs) k=atKey qs k:=by simp[atKey,List.find?_cons,e']
   rw[zI e,b];exact ih
theorem KT.repl{H:Hp}{kvs:List (List kr×V)}{xs:List (List kr×Addr×Value)}(r:KT H kvs xs)(k:List kr){y:V}{u:Value}(ry:gD y u) :
  KT H (kvs.map fun kv=>if kv.1=k then (kv.1,y) else kv) (xs.map (putAt k u)):=by
 induction r with
 | nil=>exact .nil
 | @cons p q ps qs h t ih=>
  rw[bx,bx];refine .cons ?_ ih;obtain⟨h1,h2,h3⟩:=h;unfold putAt;by_cases e:p.1=k
  ·rw[aP e,aP (h1.symm.trans e)];exact⟨h1,h2,ry⟩
  ·rw[aQ e,aQ (fun z=>e (h1.trans z))];exact⟨h1,h2,h3⟩
theorem KT.put{H:Hp}{kvs:List (List kr×V)}{xs:List (List kr×Addr×Value)}(r:KT H kvs xs)(k:List kr){b:Addr}{y:V}{u:Value}(hb:H b=some (.tup (k.map kV)))(ry:gD y u) :
  KT H (sC kvs k y) (storedH xs k b u):=by
 have e:(kvs.any fun kv=>decide (kv.1=k))=(atKey xs k).isSome:=by rw[zW,(r.val k).isSome_eq,Option.isSome_map]
 unfold sC storedH;rw[e];by_cases q:(atKey xs k).isSome=true
 ·rw[aP q,aP q];exact r.repl k ry
 ·rw[aQ q,aQ q];exact Paired.snoc r ⟨rfl,hb,ry⟩
theorem KT.keeps{H H':Hp}{kvs:List (List kr×V)}{xs:List (List kr×Addr×Value)}(r:KT H kvs xs)(ht:∀b ys,H b=some (.tup ys)→H' b=some (.tup ys)):KT H' kvs xs:=Paired.mapP r fun _ _ z=>⟨z.1,ht _ _ z.2.1,z.2.2⟩
section
variable {P:Program}{w:World}{H:Hp}{h:Heap}{a:Addr}
theorem K7{u:HO}(ok:pG P w H h)(e:Rd H a u):gS P w H h a u:=e.ok ok
theorem Ow{kvs:List (kr×V)}(ok:pG P w H h)(e:Rd H a (.dK kvs)):kvs.length≤sizeLine∧(a == sysModules)=false∧∃vs,KV kvs vs∧h.DictOf (jj P w) a vs:=show gS P w H h a (.dK kvs) from K7 ok e
theorem Pr{kvs:List (kr×V)}(ok:pG P w H h)(e:H a=some (.dK kvs)):kvs.length≤sizeLine∧(a == sysModules)=false∧∃vs,KV kvs vs∧h.DictOf (jj P w) a vs:=Ow ok (.inl e)
theorem Io{ks:List kr}(ok:pG P w H h)(e:H a=some (.tup (ks.map kV))):(tupleKind (jj P w)).is h ks a:=by obtain⟨_,its,r,o,h1,h2,n,h3⟩:=(show gS P w H h a (.tup (ks.map kV)) from ok a _ e);exact⟨o,its.toArray,n,h1,h2,h3,by simpa using xx r⟩
theorem OP{kvs:List (List kr×V)}(ok:pG P w H h)(e:Rd H a (.dT kvs)):kvs.length≤sizeLine∧(a == sysModules)=false∧
  ∃xs,KT H kvs xs∧h.DictOfH (tupleKind (jj P w)) a xs:=by
 obtain⟨z,y,xs,r,o,es,ep,h1,h2,h3,h4,h5⟩:=(show gS P w H h a (.dT kvs) from K7 ok e);refine⟨z,y,xs,r,o,es,ep,h1,h2,h3,h4,fun x hx=>?_,h5⟩;have all:∀{l:List (List kr×V)} {m:List (List kr×Addr×Value)},KT H l m→∀x∈m,(tupleKind (jj P w)).is h x.1 x.2.1:=by
  intro l m q;induction q with
  | nil=>intro x hx;exact nomatch hx
  | @cons p q ps qs hq t ih=>
   intro x hx;rcases aE.mp hx with e | hx
   ·subst e;exact Io ok (by rw[←hq.1];exact hq.2.1)
   ·exact ih x hx
 exact all r x hx
theorem OC{kvs:List (List kr×V)}(ok:pG P w H h)(e:H a=some (.dT kvs)):kvs.length≤sizeLine∧(a == sysModules)=false∧
  ∃xs,KT H kvs xs∧h.DictOfH (tupleKind (jj P w)) a xs:=OP ok (.inl e)
end
def GB(H:Hp)(a:Addr)(y v:V)(H':Hp):Prop:=
 (∃kvs k,H a=some (.dK kvs)∧y=kV k∧kvs.length<sizeLine∧H'=ij H a (.dK (sC kvs k v)))∨
 ∃kvs k b,H a=some (.dT kvs)∧y=.ref b∧H b=some (.tup (k.map kV))∧kvs.length<sizeLine∧H'=ij H a (.dT (sC kvs k v))
theorem GB.t{H:Hp}{a b:Addr}{kvs:List (List kr×V)}{k:List kr}{v:V}(e:H a=some (.dT kvs))(eb:H b=some (.tup (k.map kV)))(hl:kvs.length<sizeLine) :
  GB H a (.ref b) v (ij H a (.dT (sC kvs k v))):=.inr ⟨kvs,k,b,e,rfl,eb,hl,rfl⟩
section
variable {X:Cx}{dU:List (Addr×Obj)}{σ:St}{H:Hp}{s:Shared}{a:Addr}{y v:V}{u r:Value}{o:Option V}{A:Around}{E:Value→Shared→Prop}
theorem eW.big(I:eW X dU σ H s):sysModules<s.heap.objs.size:=by have h:mainGlobals<s.heap.objs.size:=(I.mod.glob.keeps I.bk).lt;exact Nat.lt_trans (by decide) h
theorem C1{h':Heap}{t':Nat}{ob:HO}(I:eW X dU σ H s)(mu:N2 (H a))(hs:Heap.SameBut a s.heap h')(he:∃q,h'.get? a=some q)(new:gS X.prog X.w (ij H a ob) h' a ob) :
  eW X dU σ (ij H a ob) {s with heap:=h',toks:=t'}:=
 I.write (x:=a) (e:=a) mu (.inl rfl) (fun b q hb z=>(hs.2 b hb).trans z) he new
theorem MN{P:Program}{w:World}{H':Hp}{h':Heap}{kvs:List (kr×V)}{vs:List (kr×Value)}(z:kvs.length≤sizeLine)(hd:(a == sysModules)=false)(rel:KV kvs vs)(dd:h'.DictOf (jj P w) a vs) :
  gS P w H' h' a (.dK kvs):=⟨z,hd,vs,rel,dd⟩
theorem Fu{H':Hp}{Q:Unit→Shared→Prop}(hu:A.units+1<cLine)(I:eW X dU σ H s)(g:GB H a y v H')(ry:gD y u)(rv:gD v r)(h:∀s',eW X dU σ H' s'→Q () s') :
  wpAny (model X.prog X.w) A (setItem (.ref a) u r) Q E s:=by
 rcases g with⟨kvs,k,e,ey,l,eH⟩ | ⟨kvs,k,b,e,ey,eb,l,eH⟩
 ·subst ey eH;obtain⟨z,hd,vs,rel,dd⟩:=Pr I.hok e;have hz:vs.length≤sizeLine:=by rw[←rel.length];exact z
  have hl:(sC kvs k v).length≤sizeLine:=by have:=sQ kvs k v;omega
  refine wpAny_setItem_pairs (hsz:=hz) (KZ ry) dd fun h' dd' hs=>h _ ?_;have he:∃q,h'.get? a=some q:=let ⟨q,_,_,hq,_⟩:=dd';⟨q,hq⟩;exact C1 I (by rw[e];exact True.intro) hs he (MN hl hd (rel.put k rv) dd')
 ·subst ey eH;cases (show u=Value.ref b from ry);obtain⟨z,hd,xs,rel,dd⟩:=OC I.hok e;have hz:xs.length≤sizeLine:=by rw[←Paired.length rel];exact z
  have hl:(sC kvs k v).length≤sizeLine:=by have:=sQ kvs k v;omega
  refine wpAny_setItem_heap (hsz:=hz) (tupleKind_room_in1 hu) (Io I.hok eb) dd fun h' dd' hs=>h _ ?_;obtain⟨q,es,ep,hq,h2,h3,h4,_,h5⟩:=dd';refine C1 I (by rw[e];exact True.intro) hs ⟨q,hq⟩ ⟨hl,hd,_,(rel.put k eb rv).keeps fun c ys ec=>?_,q,es,ep,hq,h2,h3,h4,h5⟩;rw[eO (Oz ec e (fun z=>nomatch z))];exact ec
end
section
variable {X:Cx}{dU:List (Addr×Obj)}{σ:St}{H:Hp}{s:Shared}{a:Addr}{kvs:List (kr×V)}{k:kr}{u:Value}{A:Around}{E:Value→Shared→Prop}
end
noncomputable def FI(td ty tv:TE):TS:=fun D σ H=>tv σ H fun v H1=>td σ H1 fun x H2=>ty σ H2 fun y H3=>∃a H4,x=.ref a∧GB H3 a y v H4∧D.nx σ H4
section
variable {X:Cx}{o i e value:Expr}{pos pos' tpos:Pos}{td ty tv:TE}
theorem Jc(hu:X.A.units+1<cLine)(ho:PE X o td)(hi:PE X i ty)(hv:PE X value tv)(hs:swapsWith value (some (.Subscript o i pos')) pos.line X.env=pure false) :
  PS X (.Assign [.Subscript o i pos'] value pos) (FI td ty tv):=by
 intro dU s σ H D I h;refine wpAny_Assign_Subscript (iL (hv dU s σ H _ I h) fun r s1 ⟨v,H1,I1,rv,q1⟩=>iL (ho dU s1 σ H1 _ I1 q1) fun u s2 ⟨x,H2,I2,rx,q2⟩=>iL (hi dU s2 σ H2 _ I2 q2) fun iv s3 ⟨y,H3,I3,ry,a,H4,ex,g,q3⟩=>?_) hs;subst ex;obtain rfl:u=Value.ref a:=rx;exact Fu hu I3 g ry rv fun s4 I4=>⟨σ,H4,I4,q3⟩
end
theorem HA{P:Program}{w:World}{H:Hp}(h:Heap)(hb:sysModules<h.objs.size):gS P w H (h.push {cls:=.type "dict",data:=.dict #[]}) h.objs.size (.dK []):=⟨bA _,beq_eq_false_iff_ne.mpr (Ne.symm (aL hb)),[],.nil,Heap.DictOf.new h⟩
theorem GQ{P:Program}{w:World}{H:Hp}(h:Heap)(hb:sysModules<h.objs.size):gS P w H (h.push {cls:=.type "dict",data:=.dict #[]}) h.objs.size (.dT []):=⟨bA _,beq_eq_false_iff_ne.mpr (Ne.symm (aL hb)),[],.nil,_,#[],0,ar _ rfl,⟨rfl,rfl,rfl⟩,rfl,rfl,List.nodup_nil⟩
def HG:TE:=fun _ H Q=>∀p,H p=none→Q (.ref p) (ij H p (.dK []))
def CN:TE:=fun _ H Q=>∀p,H p=none→Q (.ref p) (ij H p (.dT []))
section
variable {X:Cx}{pos:Pos}
theorem FX:PE X (.Dict [] [] pos) HG:=fun dU s σ H Q I h=>wpAny_Dict_empty ⟨.ref s.heap.objs.size,_,I.laid (a:=s.heap.objs.size) (o:=.dK []) (t':=s.toks) (fun _ _ q=>ae _ q) (aJ _) (HA s.heap I.big),rfl,h _ (I.hok.fresh (aJ _))⟩
theorem GS:PE X (.Dict [] [] pos) CN:=fun dU s σ H Q I h=>wpAny_Dict_empty ⟨.ref s.heap.objs.size,_,I.laid (a:=s.heap.objs.size) (o:=.dT []) (t':=s.toks) (fun _ _ q=>ae _ q) (aJ _) (GQ s.heap I.big),rfl,h _ (I.hok.fresh (aJ _))⟩
end
section
variable {X:Cx}{dU:List (Addr×Obj)}{σ:St}{H:Hp}{s:Shared}{a:Addr}{y d:V}{u r:Value}{o:Option V}{A:Around}{E:Value→Shared→Prop}
end
section
variable {X:Cx}{o e f:Expr}{apos cpos:Pos}{td ty tx:TE}
end
section
variable {X:Cx}{dU:List (Addr×Obj)}{σ:St}{H:Hp}{s:Shared}{a:Addr}{kvs:List (kr×V)}{A:Around}{E:Value→Shared→Prop}
end
section
variable {X:Cx}{dU:List (Addr×Obj)}{σ:St}{H:Hp}{s:Shared}{a:Addr}{y:V}{u:Value}{A:Around}{E:Value→Shared→Prop}
end
end L2
namespace L2
open PySem PySem.Spec PyProof.Rows Builtin
theorem tP:fillsNumberSlot (.type "tuple") "mul" = pure false:=PySem.fillsNumberSlot_seq (id:= "tuple.__mul__") (r:=some (.builtin "tuple.__rmul__")) F.slot_tuple_mul.lookup (by decide +kernel) F.slot_tuple_rmul.lookup (by decide +kernel)
theorem yq:seqRepeat? (.type "tuple")=pure (some (.builtin "tuple.__mul__")):=by unfold seqRepeat?;rw[PySem.seqSlot_of (T:= "tuple") (name:= "__mul__") (id:= "tuple.__mul__") F.slot_tuple_mul.lookup (by decide +kernel),PySem.seqSlot_of (T:= "tuple") (name:= "__rmul__") (id:= "tuple.__rmul__") F.slot_tuple_rmul.lookup (by decide +kernel)];rfl
theorem uD(a:Int)(t:Tok)(l:Addr)(dct:Option Addr)(its:Array Value)(n:Nat)(sl:Array (Option Value)) :
  Meets (Builtin.«int.__rmul__» ⟨[.int a t,.ref l],[]⟩) (fun _ R s=>s.heap.get? l=some ⟨.type "tuple",dct,.seq its n,sl⟩∧R (.ok (.ret Value.notImplemented)) s):=
 .of_wp fun prog w A R s h=>by obtain⟨hp,g,d,tk,os⟩:=s;obtain⟨hl,h⟩:=h;wp_walk;exact⟨_,rfl,h⟩
theorem wm(a:Int)(t:Tok)(l:Addr)(dct:Option Addr)(its:Array Value)(n:Nat)(sl:Array (Option Value))(h1:-(2 ^ 63)≤a)(h2:a<2 ^ 63)(hz:its.size*a.toNat≤sizeLine) :
  Meets (Builtin.«tuple.__mul__» ⟨[.ref l,.int a t],[]⟩) (fun _ R s=>s.heap.get? l=some ⟨.type "tuple",dct,.seq its n,sl⟩∧((its.isEmpty=true∨a=1)→R (.ok (.ret (.ref l))) s)∧
   (¬(its.isEmpty=true∨a=1)→a≤0→R (.ok (.ret (.ref s.heap.objs.size))) {s with heap:=s.heap.push {cls:=.type "tuple",data:=.seq #[]}})∧
   (¬(its.isEmpty=true∨a=1)→0<a→R (.ok (.ret (.ref s.heap.objs.size))) {s with heap:=s.heap.push {cls:=.type "tuple",data:=.seq ((List.replicate a.toNat its).foldl (·++·) #[])}})):=
 .of_wp fun prog w A R s h=>by
  obtain⟨hp,g,d,tk,os⟩:=s;obtain⟨hl,q1,q2,q3⟩:=h;have c0:¬(decide (a < -2 ^ 63)||decide (a ≥ 2 ^ 63))=true:=by simp;omega
  wp_walk;rw[aQ c0];wp_walk;by_cases c1:its.isEmpty=true∨a=1
  ·rw[aP (by rcases c1 with c | c<;>simp[c])];wp_walk;exact⟨_,rfl,q1 c1⟩
  ·rw[aQ (by intro z;exact c1 (by simpa using z))];by_cases c2:a≤0
   ·rw[aP (by simp[c2])];wp_walk;exact⟨_,rfl,q2 c1 c2⟩
   ·have ce:¬its.isEmpty=true:=fun z=>c1 (.inl z);have hm:(its.size:Int)*a≤sizeLine:=by
     have:((its.size*a.toNat:Nat):Int)≤(sizeLine:Nat):=by exact_mod_cast hz
     rw[Int.natCast_mul,Int.toNat_of_nonneg (by omega)] at this;exact this
    have hs:(sizeLine:Int)=2 ^ 24:=by decide
    rw[aQ (by simp[c2,ce]),aQ (by omega)];dsimp only;rw[aQ (by simp[Tuple.tupleTooMany];omega)];have hsz:(List.foldl (fun x1 x2=>x1++x2) #[] (List.replicate a.toNat its)).size≤sizeLine:=by
     have e:=o6 its.toList a.toNat [];simp only[bR] at e;have e':List.foldl (fun x1 x2=>x1++x2) #[] (List.replicate a.toNat its)=(List.replicate a.toNat its.toList).flatten.toArray:=by simpa using e
     rw[e',bu,y9,Nat.mul_comm];simpa using hz
    wp_walk;exact⟨_,rfl,q3 c1 (by omega)⟩
section
variable {X:Cx}
def HB:R2:=fun x y H Q=>∃l k xs,x=.ref l∧y=.int k∧H l=some (.tup xs)∧-(2 ^ 63)≤k∧k<2 ^ 63∧xs.length*k.toNat≤sizeLine∧((xs=[]∨k=1)→Q (.ref l) H)∧
 (¬(xs=[]∨k=1)→∀p,H p=none→Q (.ref p) (ij H p (.tup (List.replicate k.toNat xs).flatten)))
theorem Kk:oo X (binaryOp .Mult) HB:=by
 intro dU s σ H x y v u Q I rx ry h;obtain⟨l,k,xs,rfl,rfl,hH,h1,h2,hz,qa,qb⟩:=h;cases rx;obtain⟨t,rfl⟩:=ry;obtain⟨its,r,⟨⟨c,d,dt,sl⟩,e,hc,n,hd⟩,_⟩:=I.tuple (kR.of hH);dsimp only at hc hd;subst hc;subst hd;have hl:=r.length;have jx:its.toArray.size*k.toNat≤sizeLine:=by rw[bu,←hl];exact hz
 have hem:its.toArray.isEmpty=true↔xs=[]:=by
  cases r with
  | nil=>simp
  | cons _ _=>simp
 have hcs:(its.toArray.isEmpty=true∨k=1)↔(xs=[]∨k=1):=by rw[hem]
 have hrep:List.foldl (fun x1 x2=>x1++x2) #[] (List.replicate k.toNat its.toArray)=(List.replicate k.toNat its).flatten.toArray:=by have:=o6 its k.toNat [];rw[bR] at this;exact this
 have fr:=I.fresh;refine wpAny_binaryOp_repeat_ref (T:= "tuple") (U:= "int") (by decide) ⟨_,e,rfl⟩ (fun s'=>typeIs_int s' k t) tP F.fills_int_mul F.slot_int_rmul yq F.slot_int_index.lookup
  (call_meets F.slot_int_rmul (typeIs_int s k t) F.entry_int_rmul (F.args_int_rmul_2 _ _) (uD k t l d its.toArray n sl)
   ⟨e,rfl,⟨_,e,rfl⟩,call_meets F.slot_tuple_mul ⟨_,e,rfl⟩ F.entry_tuple_mul (F.args_tuple_mul_2 _ _) (wm k t l d its.toArray n sl h1 h2 jx) ⟨e,fun z=>?_,fun z w=>?_,fun z w=>?_⟩⟩)
 ·exact⟨.ref l,H,I,rfl,qa (hcs.mp z)⟩
 ·have e0:k.toNat=0:=by omega
  have q:=qb (fun y=>z (hcs.mpr y)) s.heap.objs.size fr;rw[e0] at q;exact⟨.ref _,_,I.laid (t':=s.toks) (o:=.tup []) (fun b ob q=>ae _ q) (aJ _) ⟨bA _,[],.nil,IsTup.new _ _⟩,rfl,q⟩
 ·rw[hrep];refine⟨.ref _,_,I.laid (t':=s.toks) (o:=.tup (List.replicate k.toNat xs).flatten) (fun b ob q=>ae _ q) (aJ _) ⟨?_,_,r.rep k.toNat,IsTup.new _ _⟩,rfl,qb (fun y=>z (hcs.mpr y)) _ fr⟩;rw[y9,Nat.mul_comm];exact hz
noncomputable def Az:V→Option Bool
 | .bl b=>some b
 | .int i=>some (i != 0)
 | _=>none
noncomputable def kG:List V→Option (List Bool)
 | []=>some []
 | v::vs=>(Az v).bind fun b=>(kG vs).bind fun r=>some (b::r)
theorem xI:∀{vs:List V} {bs:List Bool} {us:List Value} {i:Nat} {u:Value},kG vs=some bs→fP vs us→us[i]? = some u→∃v,gD v u∧Az v=some (bs.getD i false)
 | [],_,_,_,_,_,.nil,e=>by simp at e
 | v::vs,bs,_,i,u,h,.cons r t,e=>by
  cases hv:Az v with
  | none=>simp[kG,hv] at h
  | some b=>
   cases hr:kG vs with
   | none=>simp[kG,hv,hr] at h
   | some r'=>
    simp[kG,hv,hr] at h;subst h;cases i with
    | zero=>simp at e;subst e;exact⟨v,r,by simpa using hv⟩
    | succ i=>obtain⟨v',a,b'⟩:=xI (i:=i) hr t (by simpa using e);exact⟨v',a,by simpa using b'⟩
theorem xb:∀{vs:List V} {bs:List Bool},kG vs=some bs→vs.length=bs.length
 | [],_,h=>by cases h;rfl
 | v::vs,bs,h=>by
  cases hv:Az v with
  | none=>simp[kG,hv] at h
  | some b=>
   cases hr:kG vs with
   | none=>simp[kG,hv,hr] at h
   | some r'=>simp[kG,hv,hr] at h;subst h;simp[xb hr]
theorem vq{prog:Program}{w:World}{A:Around}{vs:List V}{us:List Value}{bs:List Bool}(h:kG vs=some bs)(r:fP vs us):TruthOf prog w A (fun i v=>us.toArray[i]? = some v) (fun i=>bs.getD i false):=fun i u s Q E hP hQ=>by
 obtain⟨v,rv,tv⟩:=xI h r (by simpa using hP);dsimp only at hQ;cases v with
 | bl b=>
  cases rv;have:b=bs.getD i false:=by simpa[Az] using tv
  rw[←this] at hQ;exact wpAny_truthy_bool hQ
 | int n=>
  obtain⟨t,rfl⟩:=rv;have:(n != 0)=bs.getD i false:=by simpa[Az] using tv
  rw[←this] at hQ;exact PyProof.Rows.truthy_int hQ
 | _=>simp[Az] at tv
theorem Eh(hc:X.calm=true):jz X (.builtin "any") (fun xs H Q=>∃(p:Addr) (vs:List V) (bs:List Bool),xs=[.ref p]∧(jI X.K H p vs∨kR X.K H p vs)∧kG vs=some bs∧Q (.bl (bs.any id)) H):=by
 intro dU s σ H xs us Q I r h;obtain⟨p,vs,bs,rfl,hS,htr,q⟩:=h;obtain⟨u,rfl,rx⟩:=oB r;cases rx;have hbl:=xb htr;rcases hS with hS | hS
 ·obtain⟨its,rv,pl,hz⟩:=I.list hS;have hn:=rv.length;have hlt:p<s.heap.objs.size:=by obtain⟨_,e,_⟩:=pl.isList;exact aK e
  refine call_any_walk (wpAny_pyIter_list pl.isList ⟨s.heap.objs.size,_,_,_,_,_,fun i=>bs.getD i false,rfl,Walks.list (A:=X.A.in1) (I.ok.hd hc) _ p (aL hlt) _,⟨⟨_,ar _ rfl,rfl,rfl⟩,pl.isList.push _⟩,vq htr rv,fun h' tk hk=>?_⟩);refine⟨.bl _,H,I.kept (t':=tk) (fun b o e=>hk b o (fun hm=>?_) (ae _ e)),rfl,?_⟩
  ·have lt:=aK e;have z:b=s.heap.objs.size:=by simpa using hm
   rw[z] at lt;exact aZ _ lt
  ·rw[←w6] at q;have:its.toArray.size=bs.length:=by rw[bu];omega
   rw[this];exact q
 ·obtain⟨its,rv,pl,hz⟩:=I.tuple hS;have hn:=rv.length;have hlt:p<s.heap.objs.size:=by obtain⟨_,e,_⟩:=pl;exact aK e
  have pt:s.heap.IsTuple p its.toArray:=pl;refine call_any_walk (wpAny_pyIter_tuple pt ⟨s.heap.objs.size,_,_,_,_,_,fun i=>bs.getD i false,rfl,Walks.tuple (A:=X.A.in1) (I.ok.hd hc) _ p (aL hlt) _,⟨⟨_,ar _ rfl,rfl,rfl⟩,pt.push _⟩,vq htr rv,fun h' tk hk=>?_⟩);refine⟨.bl _,H,I.kept (t':=tk) (fun b o e=>hk b o (fun hm=>?_) (ae _ e)),rfl,?_⟩
  ·have lt:=aK e;have z:b=s.heap.objs.size:=by simpa using hm
   rw[z] at lt;exact aZ _ lt
  ·rw[←w6] at q;have:its.toArray.size=bs.length:=by rw[bu];omega
   rw[this];exact q
theorem Fx:oo X (compareOp .IsNot) (fun x y H Q=>∃a b,x=.bl a∧y=.bl b∧Q (.bl (!(a == b))) H):=by intro dU s σ H x y v u Q I rx ry h;obtain⟨a,b,rfl,rfl,q⟩:=h;cases rx;cases ry;exact ak ⟨.bl (!(a == b)),H,I,by cases a<;>cases b<;>rfl,q⟩
end
end L2
namespace L2
open PySem PySem.Spec PyProof.Rows
section
variable {prog:Program}{w:World}{A:Around}{E:Value→Shared→Prop}{s:Shared}
theorem Es{b:Bool}{e it l:Addr}{i:Nat}{xs:Array Value}{old:Value}{Q:Value→Shared→Prop}(he:IsEnum s.heap e it i old)(hi:i7 b s.heap it l i)(hl:gG b s.heap l xs)(hne:e≠it)
  (yes:∀x h',xs[i]? = some x→IsEnumOut h' e it ((i:Int)+1) x s.heap.objs.size→i7 b h' it l (i+1)→h'.get? s.heap.objs.size=some {cls:=.type "tuple",data:=.seq #[.int i s.toks,x]}→h'.objs.size=s.heap.objs.size+1→
   (∀c o,c≠e→c≠it→s.heap.get? c=some o→h'.get? c=some o)→Q (.ref s.heap.objs.size) {s with heap:=h',toks:=s.toks+1})
  (no:xs[i]? = none→A.handled=none∧∀h' x,Heap.ExtBut it s.heap h'→(∃o,h'.get? x=some o∧o.cls=.type "StopIteration")→E (.ref x) {s with heap:=h'}) :
  wpAny (model prog w) A (Builtin.«enumerate.__next__» ⟨[.ref e],[]⟩) (fun fin s'=>∃v,fin=.done (.ret v)∧Q v s') E s:=by
 obtain⟨hp,g,d,tk,os⟩:=s;show wpAny _ _ (field (.ref e) 2 >>= fun _=>_) _ _ _;refine ao (wpAny_field he rfl (x:=.ref it) rfl (ao (qO hi hl (fun x g1 hx t1 k1=>?_) no)));have k1':Heap.SameBut it hp g1:=k1;have z1:IsEnum g1 e it i old:=(k1'.2 e hne).trans he;show wpAny _ _ (field (.ref e) 3 >>= fun _=>_) _ _ ⟨g1,g,d,tk,os⟩;refine ao (wpAny_field z1 rfl (x:=rawInt i) rfl ?_);show wpAny _ _ (field (.ref e) 4 >>= fun _=>_) _ _ ⟨g1,g,d,tk,os⟩;refine ao (wpAny_field z1 rfl (x:=.none) rfl ?_);show wpAny _ _ (mkInt i >>= fun _=>_) _ _ ⟨g1,g,d,tk,os⟩;refine ao (wpAny_mkInt (ao (wpAny_setField_rec z1 (by simp) fun g2 y2 k2=>?_)));have z2:IsEnum g2 e it ((i:Int)+1) old:=y2;refine ao (wpAny_setField_rec z2 (by simp) fun g3 y3 k3=>?_);have z3:IsEnum g3 e it ((i:Int)+1) old:=y3;refine ao (wpAny_newTuple ?_);have sz:g3.objs.size=hp.objs.size:=by have a:=k3.1;have c:=k2.1;have u:=k1'.1;dsimp only at a c u;omega
 have z4:IsEnum (g3.push {cls:=.type "tuple",data:=.seq #[.int i tk,x]}) e it ((i:Int)+1) old:=ae _ z3;have el:e<hp.objs.size:=aK he;have to3:∀c o,c≠e→c≠it→hp.get? c=some o→g3.get? c=some o:=fun c o c1 c2 q=>k3.extBut c o c1 (k2.extBut c o c1 (k1'.extBut c o c2 q));show wpAny _ _ (Builtin.SmallTypes.ownedTupleIsFree (.ref e) >>= fun _=>_) _ _ _;unfold Builtin.SmallTypes.ownedTupleIsFree;refine ao (ao (wpAny_field z4 rfl (x:=.none) rfl (ak ?_)));simp only[if_true];refine ao (wpAny_rule (ao (wpAny_field z4 rfl (x:=old) rfl (ao (wpAny_setField_rec z4 (by simp) fun g5 y5 k5=>?_)))));have z5:IsEnum g5 e it ((i:Int)+1) x:=y5;show wpAny _ _ (Builtin.SmallTypes.ownedTupleHandOut (.ref e) (.ref g3.objs.size) >>= fun _=>_) _ _ _;unfold Builtin.SmallTypes.ownedTupleHandOut;refine ao (ao (wpAny_setField_rec z5 (by simp) fun g6 y6 k6=>?_));have z6:IsEnumOut g6 e it ((i:Int)+1) x g3.objs.size:=y6;refine wpAny_setField_rec z6 (by simp) fun g7 y7 k7=>?_;have z7:IsEnumOut g7 e it ((i:Int)+1) x g3.objs.size:=y7;have up:∀c o,c≠e→(g3.push {cls:=.type "tuple",data:=.seq #[.int i tk,x]}).get? c=some o→g7.get? c=some o:=fun c o c1 q=>k7.extBut c o c1 (k6.extBut c o c1 (k5.extBut c o c1 q));have up3:∀c o,c≠e→g3.get? c=some o→g7.get? c=some o:=fun c o c1 q=>up c o c1 (ae _ q);have tp:g7.get? g3.objs.size=some {cls:=.type "tuple",data:=.seq #[.int i tk,x]}:=up _ _ (by rw[sz];exact bj el) (ar _ rfl);have s7:g7.objs.size=g3.objs.size+1:=by have a:=k7.1;have c:=k6.1;have u:=k5.1;dsimp only at a c u;rw[Heap.size_push] at u;omega
 refine ao (wpAny_letGo (ak ⟨_,rfl,?_⟩));show Q (.ref g3.objs.size) ⟨g7,g,d,tk+1,os⟩;rw[sz] at z7 tp s7 ⊢;exact yes x g7 hx z7 (t1.to fun o q=>up3 it o (Ne.symm hne) (k3.extBut it o (Ne.symm hne) (k2.extBut it o (Ne.symm hne) q))) tp s7 fun c o c1 c2 q=>up3 c o c1 (to3 c o c1 c2 q)
theorem rT{b:Bool}{e it l:Addr}{i:Nat}{xs:Array Value}{old:Value}{Q:Option Value→Shared→Prop}(he:IsEnum s.heap e it i old)(hi:i7 b s.heap it l i)(hl:gG b s.heap l xs)(hne:e≠it)
  (yes:∀x h',xs[i]? = some x→IsEnumOut h' e it ((i:Int)+1) x s.heap.objs.size→i7 b h' it l (i+1)→h'.get? s.heap.objs.size=some {cls:=.type "tuple",data:=.seq #[.int i s.toks,x]}→h'.objs.size=s.heap.objs.size+1→
   (∀c o,c≠e→c≠it→s.heap.get? c=some o→h'.get? c=some o)→Q (some (.ref s.heap.objs.size)) {s with heap:=h',toks:=s.toks+1})
  (no:xs[i]? = none→A.handled=none∧∀h',Heap.ExtBut it s.heap h'→Q none {s with heap:=h'}):wpAny (model prog w) A (pyNext (.ref e)) Q E s:=by
 have ty:s.TypeIs (.ref e) "enumerate" :=⟨_,he,rfl⟩;unfold pyNext;refine ao (wpAny_attempt (wpAny_callSpecial?_slot (name:=Str.ofString "__next__") ty F.slot_enumerate_next (wpAny_call_entry F.slot_enumerate_next ty F.entry_enumerate_next
  (Es he hi hl hne (fun x h' u1 u2 u3 u4 u5 u6=>ak (yes x h' u1 u2 u3 u4 u5 u6)) fun q=>⟨(no q).1,fun h' x hk ⟨o,ho,hc⟩=>?_⟩) (F.args_enumerate_next_1 _))))
 exact ao (wpAny_isInstance (T:= "StopIteration") (b:=true) ⟨o,ho,hc⟩ isSubtype_stop (ak ((no q).2 h' hk)))
noncomputable abbrev eo(b:Bool)(l:Addr):Obj:={cls:=.type (vN b),data:=.fields #[.ref l,.int 0 0]}
noncomputable abbrev en(p:Addr):Obj:={cls:=.type "enumerate",data:=.fields #[.none,.bool false,.ref p,rawInt 0,.none,.none]}
theorem Bi(b:Bool)(l:Addr)(xs:Array Value):Meets (Builtin.«enumerate.__new__» ⟨[.type "enumerate",.ref l],[]⟩) (fun _ R s=>gG b s.heap l xs∧
  R (.ok (.ret (.ref (s.heap.push (eo b l)).objs.size))) {s with heap:=(s.heap.push (eo b l)).push (en s.heap.objs.size)}):=by
 refine .of_wp fun prog w A R s h=>?_;obtain⟨hp,g,d,tk,os⟩:=s;obtain⟨a1,hR⟩:=h;have hsub:=sub_enumerate;have q1:gG b (Shared.heap ⟨hp,g,d,tk,os⟩) l xs:=a1;obtain⟨o,n,ho,hd⟩:=q1.look;wp_walk using mZ q1;refine wpAny_stack_any fun st=>ak ?_;split
 ·rename_i c _ _ _ _ _;cases (c == Value.type "enumerate")
  ·wp_walk using mZ q1;exact⟨_,rfl,hR⟩
  ·wp_walk using mZ q1;exact⟨_,rfl,hR⟩
 ·wp_walk using mZ q1;exact⟨_,rfl,hR⟩
theorem xA{b:Bool}{l:Addr}{xs:Array Value}{Q:Value→Shared→Prop}(hl:gG b s.heap l xs)
  (h:∀h',IsEnum h' (s.heap.objs.size+1) s.heap.objs.size 0 .none→i7 b h' s.heap.objs.size l 0→h'.objs.size=s.heap.objs.size+2→(∀c o,s.heap.get? c=some o→h'.get? c=some o)→Q (.ref (s.heap.objs.size+1)) {s with heap:=h'}) :
  wpAny (model prog w) A (call (.type "enumerate") [.ref l]) Q E s:=by
 refine callType_new F.called_enumerate (by decide) (F.typeCall_enumerate_1 _) (F.newCall_enumerate_1 _) (fun obj=>F.args_object_init_2 obj _) F.entry_enumerate_new (Bi b l xs) ⟨hl,?_⟩;have n1:(s.heap.push (eo b l)).objs.size=s.heap.objs.size+1:=Heap.size_push ..;have ge:=ar (s.heap.push (eo b l)) (o:=en s.heap.objs.size) rfl;rw[n1] at ge;show _∧_;rw[n1];exact⟨⟨_,ge,rfl⟩,h _ ge (.of ⟨_,ae _ (ar _ rfl),rfl,rfl⟩) (by rw[Heap.size_push,n1]) fun c o q=>ae _ (ae _ q)⟩
end
noncomputable def PR(K:W.Frag)(b:Bool)(l:Addr):It:=
  ⟨fun i H=>∃xs x,t8 K H b l xs∧xs[i]? = some x,
   fun i H v H'=>∃p x,v=.ref p∧H p=none∧H'=ij H p (.tup [.int i,x])∧∀xs,t8 K H b l xs→xs[i]? = some x,
   fun i H=>∃xs,t8 K H b l xs∧xs.length≤i⟩
theorem DZ{P:Program}{w:World}{K:W.Frag}{elts:List Expr}{x1}{pos:Pos}{b:Bool}{e it l:Addr}(hne:e≠it) :
  zV P w K (.Tuple elts x1 pos) (PR K b l) [e,it] e (fun i h=>(∃old,IsEnum h e it i old)∧i7 b h it l i) where
 mem:=by simp
 obj:=fun i h st c hc=>by
  obtain⟨⟨old,he⟩,hi⟩:=st;have mem:c=e∨c=it:=by simpa using hc
  rcases mem with rfl | rfl
  ·exact⟨_,he,fun v q=>by cases q⟩
  ·obtain⟨o,q,_,d⟩:=hi.look;exact⟨o,q,fun v q'=>by rw[d] at q';cases q'⟩
 keep:=fun i h h' st k=>by obtain⟨⟨old,he⟩,hi⟩:=st;exact⟨⟨old,k e (by simp) _ he⟩,hi.to fun o q=>k it (by simp) o q⟩
 item:=by
  intro X hP hw hK hc i dU s σ H E I hf st hg;subst hP hw hK;obtain⟨⟨old,he⟩,hi⟩:=st;obtain⟨xs,x,q1,e1⟩:=hg;obtain⟨us,r1,p1,z1⟩:=I.seqB q1;obtain⟨u,gu,ru⟩:=r1.get e1;have FT:=I.fpOk (b:=s.heap.objs.size) (aJ _) (I.hok.fresh (aJ _));refine rT he hi p1 hne (fun u' h' gu' a1 a2 a3 a4 hk=>?_) fun q=>?_
  ·have eu:u'=u:=by
    have:us[i]? = some u':=by simpa using gu'
    rw[gu] at this;cases this;rfl
   subst eu;refine⟨_,rfl,wpAny_letOwnedTupleGo_enum a1 fun h'' hz'' sb=>?_⟩;have sb':Heap.SameBut e h' h'':=sb;have zT:s.heap.objs.size≠e:=bj (aK he);have I1:eW X dU σ H {s with heap:=h'',toks:=s.toks+1}:=I.turnedL (t':=s.toks+1) (ch:=[e,it]) (fun b o hb q=>sb'.extBut _ _ (fun z=>hb (by simp[z])) (hk b o (fun z=>hb (by simp[z])) (fun z=>hb (by simp[z])) q)) (fun b hb=>hf b hb);have gT:h''.get? s.heap.objs.size=some {cls:=.type "tuple",data:=.seq #[.int i s.toks,u']}:=sb'.extBut _ _ zT a3;have I2:eW X dU σ (ij H s.heap.objs.size (.tup [.int i,x])) {s with heap:=h'',toks:=s.toks+1}:=I1.track FT.1 FT.2.2.2.1 FT.2.1 FT.2.2.2.2.1 FT.2.2.2.2.2
    ⟨by show 2≤sizeLine;decide,[.int i s.toks,u'],.cons ⟨_,rfl⟩ (.cons ru .nil),⟨_,gT,rfl,_,rfl⟩⟩
   have lt:∀{b o},s.heap.get? b=some o→ij H s.heap.objs.size (.tup [.int i,x]) b=H b:=fun {b o} q=>eO (aL (aK q));refine⟨.ref s.heap.objs.size,_,I2,rfl,⟨_,x,rfl,FT.1,rfl,fun xs' h=>by rw[I.seqB_inj h q1];exact e1⟩,?_,fun b hb=>?_⟩
   ·exact⟨⟨_,hz''⟩,a2.to fun o q=>sb'.extBut _ o (Ne.symm hne) q⟩
   ·have mem:b=e∨b=it:=by simpa using hb
    have hn:=(hf b hb).1;obtain⟨o1,g1,_⟩:=hi.look;rcases mem with rfl | rfl
    ·rw[lt he];exact hn
    ·rw[lt g1];exact hn
  ·exfalso;have m1:us.toArray[i]? = some u:=by simpa using gu
   rw[m1] at q;cases q
 done:=by
  intro X hP hw hK hc i dU s σ H E I hf st hg;subst hP hw hK;obtain⟨⟨old,he⟩,hi⟩:=st;obtain⟨xs,q1,hl⟩:=hg;obtain⟨us,r1,p1,z1⟩:=I.seqB q1;have n1:=r1.length;refine rT he hi p1 hne (fun u' h' gu' a1 a2 a3 a4 hk=>?_) fun q=>⟨I.ok.hd hc,fun h' hk=>⟨rfl,I.turnedL (t':=s.toks) (ch:=[it]) (fun b o hb q=>hk b o (fun z=>hb (by simp[z])) q) fun b hb=>hf b (by
   have:b=it:=by simpa using hb
   simp[this])⟩⟩
  exfalso;have m1:i<us.length:=by
   have:us[i]? = some u':=by simpa using gu'
   exact (aa.mp this).1
  omega
 self:=fun _ _ _ _ _ st h=>by obtain⟨⟨old,he⟩,_⟩:=st;exact wpAny_pyIter_enum he h
section
variable {X:Cx}
def Iy(K:W.Frag)(b:Bool)(ta:TA):TI:=fun σ H R=>ta σ H fun vs H1=>∃l,vs=[.ref l]∧(∃xs,t8 K H1 b l xs)∧R (PR K b l) H1
theorem HV{b:Bool}{elts:List Expr}{x1}{tpos:Pos}{a:Expr}{ta:TA}{p pos:Pos}(hg:Gl X "enumerate")(hm:X.mg "enumerate" = none)(ha:PA X [a] ta)(hs:starEach [a] X.env=[(false,eval a X.env)]:=by rfl) :
  PI X (.Tuple elts x1 tpos) (.Call (.Name "enumerate" p) [a] [] pos) (Iy X.K b ta):=by
 intro dU s σ H R I h;refine Call_ (nN I hg hm boot_enumerate (PyProof.Rows.callWith_type1 (iL (ha pos dU s σ H _ I h) fun us s1 ⟨vs,H1,I1,r1,q1⟩=>?_) hs rfl));obtain⟨l,rfl,⟨xs,q1⟩,q⟩:=q1;obtain⟨u,rfl,rx⟩:=oB r1;cases rx;obtain⟨us,rv1,p1,_⟩:=I1.seqB q1;refine xA p1 fun h' he hi hsz hk=>?_;refine wpAny_pyIter_enum he ?_;refine⟨_,_,_,_,H1,rfl,I1.kept (t':=s1.toks) hk,DZ (e:=s1.heap.objs.size+1) (it:=s1.heap.objs.size) (Nat.succ_ne_self _),⟨⟨_,he⟩,hi⟩,fun b hb=>?_,q⟩;have mem:b=s1.heap.objs.size+1∨b=s1.heap.objs.size:=by simpa using hb
 have ge:s1.heap.objs.size≤b:=by rcases mem with rfl | rfl<;>omega
 exact I1.fpOk ge (I1.hok.fresh ge)
end
end L2
namespace L2
open PySem PySem.Spec PyProof.Rows
section
variable {X:Cx}
end
end L2
namespace HT
open PySem PySem.Spec PyProof.Rows
section
variable {prog:Program}{w:World}{A:Around}{E:Value→Shared→Prop}{s:Shared}
theorem getItem_tuple_all{t sl:Addr}{items:Array Value}{vl vu:Value}{lo hi:Option Int}{Q:Value→Shared→Prop}(ht:IsTup s.heap t items)(hs:s.heap.IsSliceOf sl vl vu .none)(pl:IsPart vl lo)(pu:IsPart vu hi)
  (hw:sIx items.size 0 lo=0∧sIx items.size items.size hi=items.size) (h:Q (.ref t) s):wpAny (model prog w) A (getItem (.ref t) (.ref sl)) Q E s:=by
 obtain⟨os,hos,hcs,hds⟩:=id hs;have hTs:s.TypeIs (.ref sl) "slice" :=⟨os,hos,hcs⟩;unfold getItem;try with_reducible refine wpAny_holding ?_;first | refine ao (ak ?_) | skip
 refine ao (wpAny_sequenceKey ht.typeIs (by decide) ?_);refine ao (wpAny_callSpecial?_slot (name:=Str.ofString "__getitem__") ht.typeIs PyProof.Rows.slot_tuple_getitem
  (wpAny_call_entry PyProof.Rows.slot_tuple_getitem ht.typeIs entry_tuple_getitem ?_ (args_tuple_getitem _ _)))
 show wpAny _ _ (Builtin.Tuple.tupleItemsOf (.ref t) >>= _) _ _ s;refine ao (tupleItemsOf_ ht ?_);refine ao (wpAny_typeOf hTs ?_);rw[aP (by decide)];refine ao (nj hs pl pu ?_);have hyes:(((sIx items.size 0 lo:Nat):Int) == 0&&(1:Int) == 1&&(sIx items.size items.size hi - sIx items.size 0 lo) == items.size)=true:=by rw[hw.1,hw.2];simp
 show wpAny _ _ (if (((sIx items.size 0 lo:Nat):Int) == 0&&(1:Int) == 1&&(sIx items.size items.size hi - sIx items.size 0 lo) == items.size)=true then _ else _) _ _ s;rw[aP hyes];refine ao (ao (wpAny_typeOf ht.typeIs (ak ?_)));rw[aP (by decide)];refine ao (wpAny_rule ?_);exact ak ⟨_,rfl,ak h⟩
end
end HT
namespace L2
open PySem PySem.Spec PyProof.Rows
section
variable {X:Cx}
noncomputable def Pd(K:W.Frag):V→Option Int→Option Int→Hp→VK→Prop:=fun x lo hi H Q=>∃a xs,x=.ref a∧kR K H a xs∧(HT.sIx xs.length 0 lo=0∧HT.sIx xs.length xs.length hi=xs.length)∧Q (.ref a) H
theorem Ki:Lc X (Pd X.K):=by
 intro dU s σ H x v vl vu lo hi sl Q I rx hs pl pu h;obtain⟨a,xs,rfl,hx,hw,q⟩:=h;cases rx;obtain⟨its,r,ht,hz⟩:=I.tuple hx;have jx:its.toArray.size=xs.length:=by rw[bu];exact r.length.symm
 refine⟨"tuple",_,PyProof.Rows.slot_tuple_getitem.lookup,ht.typeIs,?_⟩;exact HT.getItem_tuple_all ht hs pl pu (by rw[jx];exact hw) ⟨.ref a,H,I,rfl,q⟩
end
end L2
namespace L2
open PySem PySem.Spec PyProof.Rows
section
variable {prog:Program}{w:World}{A:Around}{E:Value→Shared→Prop}{s:Shared}{d it:Addr}{es:Array DictEntry}{ep i:Nat}
def r0(h:Heap)(d:Addr)(es:Array DictEntry)(ep:Nat):Prop:=∃o,h.get? d=some o∧o.ExactDict∧o.data=.dict es ep
theorem r0.to{h h':Heap}(x:r0 h d es ep)(k:∀o,h.get? d=some o→h'.get? d=some o):r0 h' d es ep:=let ⟨o,a,r⟩:=x;⟨o,k o a,r⟩
theorem r0.lt{h:Heap}(x:r0 h d es ep):d<h.objs.size:=let ⟨_,a,_⟩:=x;aK a
theorem r0.ty(x:r0 s.heap d es ep):s.TypeIs (.ref d) "dict" :=let ⟨o,a,c,_⟩:=x;⟨o,a,c.1⟩
theorem Hf{Q:Value→Shared→Prop}(lo:(d == sysModules)=false)(x:r0 s.heap d es ep)
  (q:Q (.ref s.heap.objs.size) {s with heap:=s.heap.push {cls:=.type "dict_keyiterator",data:=.fields #[.ref d,.int 0 0,.int es.size 0,.int ep 0]}}):wpAny (model prog w) A (pyIter (.ref d)) Q E s:=by
 obtain⟨o,a,c,dt⟩:=id x;refine wpAny_pyIter_slot x.ty F.slot_dict_iter (wpAny_call_entry F.slot_dict_iter x.ty F.entry_dict_iter ?_ (F.args_dict_iter_1 _));unfold Builtin.«dict.__iter__»;refine ao ?_;unfold Builtin.Dict.dictSlotNone;refine ao (wpAny_notOrdered_dict x.ty ?_);show wpAny _ _ (pure (Value.ref d)) _ _ s;refine ak ?_;show wpAny _ _ (Builtin.Dict.showsAll d >>= fun _=>_) _ _ s;unfold Builtin.Dict.showsAll;rw[aQ (by rw[lo];exact fun z=>nomatch z)];refine ao (ak (ao (wpAny_dictEntries a dt (ao (wpAny_dictEpoch a dt ?_)))));refine ao (wpAny_newObj_type (ak ⟨_,rfl, "dict_keyiterator",_,⟨_,ar _ rfl,rfl⟩,F.slot_dict_keyiterator_next.lookup,?_⟩));simpa[rawInt] using q
theorem Nq{Q:Option Value→Shared→Prop}(j:s.heap.IsKeyIter it d i es.size ep)(x:r0 s.heap d es ep)(hi:i<es.size)
  (q:∀h',h'.IsKeyIter it d (i+1) es.size ep→Heap.SameBut it s.heap h'→Q (some es[i].key) {s with heap:=h'}):wpAny (model prog w) A (pyNext (.ref it)) Q E s:=by
 obtain⟨o,a,c,dt⟩:=id j;obtain⟨od,ad,cd,dd⟩:=id x;have own:Builtin.Dict_items.ownsTuple "dict_keyiterator" = false:=by decide
 unfold pyNext;refine ao (wpAny_attempt (wpAny_callSpecial?_slot (name:=Str.ofString "__next__") j.typeIs F.slot_dict_keyiterator_next (wpAny_call_entry F.slot_dict_keyiterator_next j.typeIs F.entry_dict_keyiterator_next ?_ (F.args_dict_keyiterator_next_1 _))));refine ao (ak (ao (ao ?_)));first | refine ao (wpAny_typeNameOfWhole_keyiter j.typeIs (ak (ao (wpAny_fieldsOf a dt ?_)))) | refine ao (wpAny_typeNameOf_keyiter j.typeIs (ak (ao (wpAny_fieldsOf a dt ?_))))
 simp only[own,bU,if_false];show wpAny _ _ (if (Value.ref d == Value.none)=true then _ else _) _ _ s;rw[aQ (show ¬((Value.ref d == Value.none)=true) from fun z=>nomatch z)];refine ao (ak (ao (wpAny_dictEntries ad dd ?_)));rw[aQ (by simp)];refine ao (ak (ao (wpAny_dictEpoch ad dd ?_)));rw[aQ (by simp)];refine ak ?_;simp only[show ¬((i:Int)<0) from by omega,if_false,bH,Array.getElem?_eq_getElem hi];refine ao ?_;first | refine ao (wpAny_typeNameOfWhole_keyiter j.typeIs (ak (ao (wpAny_isOneOf_keyiter j.typeIs ?_)))) | refine ao (wpAny_typeNameOf_keyiter j.typeIs (ak (ao (wpAny_isOneOf_keyiter j.typeIs ?_))))
 show wpAny _ _ (setField (.ref it) 1 (rawInt ((i:Int)+1)) >>= fun _=>_) _ _ s;refine ao (wpAny_setField a dt (by simp) ?_);have j2:(s.heap.update it (Obj.mapFields (·.setIfInBounds 1 (rawInt ((i:Int)+1))))).IsKeyIter it d (i+1) es.size ep:=⟨_,Heap.get?_update_self _ a (Obj.isFreed_of_fields (Obj.data_mapFields dt _)),(Obj.cls_mapFields ..).trans c,by rw[Obj.data_mapFields dt];simp[rawInt]⟩
 refine ao (wpAny_holding (ao (wpAny_isOneOf_keyiter (s:={s with heap:=s.heap.update it (Obj.mapFields (·.setIfInBounds 1 (rawInt ((i:Int)+1))))}) j2.typeIs ?_)));show wpAny _ _ (pure es[i].key) _ _ _;exact ak (ak ⟨_,rfl,ak (q _ j2 (Heap.SameBut.update ..))⟩)
theorem KB{Q:Option Value→Shared→Prop}(hh:A.handled=none)(j:s.heap.IsKeyIter it d es.size es.size ep)(x:r0 s.heap d es ep)(q:∀h',Heap.ExtBut it s.heap h'→Q none {s with heap:=h'}) :
  wpAny (model prog w) A (pyNext (.ref it)) Q E s:=by
 obtain⟨o,a,c,dt⟩:=id j;obtain⟨od,ad,cd,dd⟩:=id x;have own:Builtin.Dict_items.ownsTuple "dict_keyiterator" = false:=by decide
 unfold pyNext;refine ao (wpAny_attempt (wpAny_callSpecial?_slot (name:=Str.ofString "__next__") j.typeIs F.slot_dict_keyiterator_next (wpAny_call_entry F.slot_dict_keyiterator_next j.typeIs F.entry_dict_keyiterator_next ?_ (F.args_dict_keyiterator_next_1 _))));refine ao (ak (ao (ao ?_)));first | refine ao (wpAny_typeNameOfWhole_keyiter j.typeIs (ak (ao (wpAny_fieldsOf a dt ?_)))) | refine ao (wpAny_typeNameOf_keyiter j.typeIs (ak (ao (wpAny_fieldsOf a dt ?_))))
 simp only[own,bU,if_false];show wpAny _ _ (if (Value.ref d == Value.none)=true then _ else _) _ _ s;rw[aQ (show ¬((Value.ref d == Value.none)=true) from fun z=>nomatch z)];refine ao (ak (ao (wpAny_dictEntries ad dd ?_)));rw[aQ (by simp)];refine ao (ak (ao (wpAny_dictEpoch ad dd ?_)));rw[aQ (by simp)];refine ak ?_;simp only[show ¬((es.size:Int)<0) from by omega,if_false,bH,Array.getElem?_eq_none (aJ es.size)];refine ao ?_;first | refine ao (wpAny_typeNameOfWhole_keyiter j.typeIs (ak ?_)) | refine ao (wpAny_typeNameOf_keyiter j.typeIs (ak ?_))
 show wpAny _ _ (setField (.ref it) 0 .none >>= fun _=>_) _ _ s;refine ao (wpAny_setField a dt (by simp) ?_);show wpAny _ _ (newExc (.type "StopIteration") [] >>= fun _=>_) _ _ _;refine ao ?_;simp only[newExc,newTuple];refine ao (wpAny_newObj_type ?_ (by size_fits));refine ao (m:=firstArgMember _ _) (wpAny_of_eq (a:=Value.none) (by first | rfl | (simp only[firstArgMember];rfl)) ?_);refine wpAny_newObj_type ?_ (by size_fits);simp only[raiseNew];refine ao (wpAny_handled ?_);rw[show A.in1.handled=none from hh];refine ao (ak (wpAny_throw ?_));refine ao (wpAny_isInstance (T:= "StopIteration") (b:=true) ⟨_,ar _ rfl,rfl⟩ isSubtype_stop ?_);exact ak (q _ (((Heap.SameBut.update ..).extBut.push _).push _))
theorem Ex(hh:A.handled=none)(I d:Addr)(ne:d≠I)(es:Array DictEntry)(ep:Nat) :
  Walks prog w A I [I,d] [I] es.size (fun i v=>∃e,es[i]? = some e∧v=e.key) (fun i h=>h.IsKeyIter I d i es.size ep∧r0 h d es ep) where
 sub:=fun b hb=>by simp at hb;simp[hb]
 frame:=fun _ _ _ x k=>⟨x.1.at fun o e=>k I (by simp) o e,x.2.to fun o e=>k d (by simp) o e⟩
 item:=fun i s Q E hi x q=>Nq x.1 x.2 hi fun h' j k=>q _ h' s.toks ⟨es[i],by simp[hi],rfl⟩ ⟨j,x.2.to fun o e=>k.extBut d o ne e⟩ fun b o hb e=>k.extBut b o (fun z=>hb (by simp[z])) e
 done:=fun s Q E x q=>KB hh x.1 x.2 fun h' k=>q h' s.toks fun b o hb e=>k b o (fun z=>hb (by simp[z])) e
 self:=fun _ _ _ _ x q=>wpAny_pyIter_keyiter x.1 q
theorem KF(lo:(d == sysModules)=false):W.KdlSrc prog w "dict" d d es.size (fun i v=>∃e,es[i]? = some e∧v=e.key) (fun h=>r0 h d es ep) where
 type:=fun _ x=>x.ty
 there:=fun _ x=>⟨x.lt,x.lt⟩
 keep:=fun _ _ x k=>x.to fun o e=>k d (.inl rfl) o e
 notList:=by decide
 notTuple:=by decide
 hint:=fun _ _ _ _ x q=>W.kdl_hint_dict x.ty q
 iter:=fun _ _ hh x=>⟨_,_,(fun _ _ q=>Hf lo x q),Ex hh _ d (aL x.lt) es ep,⟨⟨_,ar _ rfl,rfl,rfl⟩,x.to fun o e=>ae _ e⟩⟩
end
theorem oM:∀{xs:List V} {us:List Value},xs.length=us.length→(∀(i:Nat) v,us[i]? = some v→∃x,xs[i]? = some x∧gD x v)→fP xs us
 | [],[],_,_=>.nil
 | x::xs,u::us,hl,h=>by obtain⟨x',e,r⟩:=h 0 u rfl;simp at e;subst e;exact .cons r (oM (by simpa using hl) fun i v hv=>by simpa using h (i+1) v (by simpa using hv))
theorem sJ{α β:Type}{F:α→β→Prop}:∀{l:List α} {m:List β} {i:Nat} {a:α},Paired F l m→l[i]? = some a→∃b,m[i]? = some b∧F a b
 | _::_,_::_,0,_,.cons h _,e=>by simp at e;subst e;exact⟨_,rfl,h⟩
 | _::_,_::_,i+1,_,.cons _ r,e=>by simpa using sJ (i:=i) r (by simpa using e)
section
variable {X:Cx}
theorem BW(hc:X.calm=true):jz X (.type "list") (fun xs H Q=>∃a kvs,xs=[.ref a]∧H a=some (.dT kvs)∧∀(l:Addr) (bs:List Addr),H l=none→bs.length=kvs.length→
  (∀(i:Nat) (b:Addr),bs[i]? = some b→∃k v,kvs[i]? = some (k,v)∧H b=some (.tup (k.map kV)))→Q (.ref l) (ij H l (.lst (bs.map V.ref)))):=by
 intro dU s σ H xs us Q I r h;obtain⟨a,kvs,rfl,e,q⟩:=h;obtain⟨u,rfl,rx⟩:=oB r;cases rx;obtain⟨z,lo,ys,pr,o,es,ep,ho,ex,dt,he,nd⟩:=(show gS X.prog X.w H s.heap a (.dT kvs) from I.hok a _ e);have sz:es.size=ys.length:=by rw[←bh,he,aw]
 have pl:kvs.length=ys.length:=Paired.length pr;refine W.kdl_call (KF lo) (I.ok.hd hc) (⟨o,ho,ex,dt⟩:r0 s.heap a es ep) (by rw[sz,←pl];exact z) fun h' tk acc c' kp hl hacc=>?_;have key:∀(i:Nat) v,acc[i]? = some v→∃y,ys[i]? = some y∧v=.ref y.2.1:=fun i v hv=>by
  obtain⟨en,h1,h2⟩:=hacc.2 i v hv;have h3:es.toList[i]? = some en:=by simpa using h1
  rw[he,av] at h3;cases hy:ys[i]? with
  | none=>rw[hy] at h3;cases h3
  | some y=>rw[hy] at h3;cases h3;exact⟨y,rfl,h2⟩
 have al:acc.size=ys.length:=by rw[←sz];exact hacc.1
 have va:fP ((ys.map fun y=>y.2.1).map V.ref) acc.toList:=by refine oM (by simp[al]) fun i v hv=>?_;obtain⟨y,e1,e2⟩:=key i v (by simpa using hv);exact⟨.ref y.2.1,by simp[e1],by rw[e2];rfl⟩
 refine⟨.ref s.heap.objs.size,_,I.laid (t':=tk) kp (aJ _) (show gS X.prog X.w _ h' _ (.lst ((ys.map fun y=>y.2.1).map V.ref)) from ⟨by simp[←pl];exact z,acc.toList,c',va,by simpa using hl⟩),rfl,q _ _ (I.hok.fresh (aJ _)) (by simp[pl]) fun i b hb=>?_⟩;rw[av] at hb;cases hy:ys[i]? with
 | none=>rw[hy] at hb;cases hb
 | some y=>
  rw[hy] at hb;cases hb;have hi:i<kvs.length:=by rw[pl];exact (aa.mp hy).1
  obtain⟨y',e1,e2,e3,e4⟩:=sJ pr (ag hi);rw[hy] at e1;cases e1;exact⟨_,_,ag hi,e3⟩
end
end L2
namespace L2
open PySem PySem.Spec PyProof.Rows
noncomputable def Qb(K:W.Frag)(a:Addr)(n:Nat):It:=⟨fun i H=>i<n∧∃xs x,jI K H a xs∧xs.length=n∧xs[n - 1 - i]? = some x,fun i H x H'=>H'=H∧∀xs,jI K H a xs→xs[n - 1 - i]? = some x,fun i H=>i=n∧∃xs,jI K H a xs⟩
theorem FW{P:Program}{w:World}{K:W.Frag}{tg:Expr}(a it:Addr)(n:Nat):zV P w K tg (Qb K a n) [it] it (fun i h=>h.IsRevIter it a ((n:Int) - 1 - i)) where
 mem:=by simp
 obj:=fun i h st b hb=>by
  obtain rfl:b=it:=by simpa using hb
  obtain⟨o,e,c,d⟩:=st;exact⟨o,e,fun v z=>by rw[d] at z;cases z⟩
 keep:=fun i h h' st k=>st.at fun o e=>k it (by simp) o e
 item:=by
  intro X hP hw hK hc i dU s σ H E I hf st hg;subst hP hw hK;obtain⟨hi,xs,x,hq,hn,hx⟩:=hg;obtain⟨its,rv,p,hz⟩:=I.list hq;obtain⟨u,hu,ru⟩:=rv.get hx;obtain⟨f0,f1,f2,f3,f4,f5⟩:=hf it (by simp);have ei:(n:Int) - 1 - i=((n - 1 - i:Nat):Int):=by omega
  rw[ei] at st;refine wpAny_pyNext_rev_item st p.isList (x:=u) (by simpa using hu) fun h' st' sb=>?_;have I1:eW X dU σ H {s with heap:=h'}:=I.turned (t':=s.toks) (fun b o hb e=>(sb.2 b hb).trans e) f0 f1 f3 f4 f5;have e2:((n - 1 - i:Nat):Int) - 1=(n:Int) - 1 - ((i+1:Nat):Int):=by omega
  rw[e2] at st';obtain⟨o,e,c,d⟩:=id st';exact⟨u,rfl,C6 (s:={s with heap:=h'}) e c d (by decide) ⟨x,H,I1,ru,⟨rfl,fun ys hy=>by rw[I.list_inj hy hq];exact hx⟩,st',fun b hb=>(hf b hb).1⟩⟩
 done:=by
  intro X hP hw hK hc i dU s σ H E I hf st hg;subst hP hw hK;obtain⟨rfl,xs,hq⟩:=hg;obtain⟨f0,f1,f2,f3,f4,f5⟩:=hf it (by simp);have ei:(i:Int) - 1 - i = -1:=by omega
  rw[ei] at st;exact wpAny_pyNext_rev_end (I.ok.hd hc) st fun h' eb=>⟨rfl,I.turned (t':=s.toks) (fun b o hb e=>eb b o hb e) f0 f1 f3 f4 f5⟩
 self:=fun _ _ _ _ _ st h=>wpAny_pyIter_revIter st h
section
variable {X:Cx}{tg:Expr}
def MH(K:W.Frag)(ta:TA):TI:=fun σ H R=>ta σ H fun vs H1=>∃l xs,vs=[.ref l]∧jI K H1 l xs∧R (Qb K l xs.length) H1
theorem IY{a:Expr}{ta:TA}{p pos:Pos}(hg:Gl X "reversed")(hm:X.mg "reversed" = none)(ha:PA X [a] ta)(hs:starEach [a] X.env=[(false,eval a X.env)]:=by rfl) :
  PI X tg (.Call (.Name "reversed" p) [a] [] pos) (MH X.K ta):=by
 intro dU s σ H R I h;refine Call_ (nN I hg hm (by decide +kernel:bootBuiltins "reversed" = some (.type "reversed")) (PyProof.Rows.callWith_type1 (iL (ha pos dU s σ H _ I h) fun us s1 ⟨vs,H1,I1,r1,q1⟩=>?_) hs rfl));obtain⟨l,xs,rfl,hq,q⟩:=q1;obtain⟨u,rfl,rx⟩:=oB r1;cases rx;obtain⟨its,rv,pl,hz⟩:=I1.list hq;have hl:=rv.length;refine call_reversed_list pl.isList ?_;have I2:eW X dU σ H1 {s1 with heap:=s1.heap.push (revObj l ((its.toArray.size:Int) - 1))}:=I1.kept (t':=s1.toks) fun b o e=>ae _ e;have st:(s1.heap.push (revObj l ((its.toArray.size:Int) - 1))).IsRevIter s1.heap.objs.size l ((xs.length:Int) - 1 - ((0:Nat):Int)):=⟨_,ar _ rfl,rfl,by simp[revObj,hl]⟩;refine wpAny_pyIter_revIter st ?_;refine⟨s1.heap.objs.size,[s1.heap.objs.size],_,_,H1,rfl,I2,FW l _ xs.length,st,fun b hb=>?_,q⟩;obtain rfl:b=s1.heap.objs.size:=by simpa using hb
 exact I1.fpOk (aJ _) (I1.hok.fresh (aJ _))
end
end L2
namespace L2
open PySem PySem.Spec PyProof.Rows
abbrev Le(h:Heap)(e it:Addr)(i:Int)(item:Value)(a:Addr)(f:Bool):Prop:=h.get? e=some {cls:=.type "enumerate",dict:=none,data:=.fields #[rawInt a,.bool f,.ref it,rawInt i,.none,item],slots:=#[]}
section
variable {prog:Program}{w:World}{A:Around}{E:Value→Shared→Prop}{s:Shared}
theorem BR{b f:Bool}{e it l a:Addr}{oa:Obj}{i:Nat}{xs:Array Value}{old:Value}{Q:Value→Shared→Prop}(he:Le s.heap e it i old a f)(ha:s.heap.get? a=some oa)(hae:a≠e)(hai:a≠it)(hi:i7 b s.heap it l i)(hl:gG b s.heap l xs)(hne:e≠it)
  (yes:∀x h',xs[i]? = some x→Le h' e it ((i:Int)+1) old a true→i7 b h' it l (i+1)→h'.get? s.heap.objs.size=some {cls:=.type "tuple",data:=.seq #[.int i s.toks,x]}→h'.objs.size=s.heap.objs.size+1→
   (∀c o,c≠e→c≠it→s.heap.get? c=some o→h'.get? c=some o)→Q (.ref s.heap.objs.size) {s with heap:=h',toks:=s.toks+1})
  (no:xs[i]? = none→A.handled=none∧∀h' x,Heap.ExtBut it s.heap h'→(∃o,h'.get? x=some o∧o.cls=.type "StopIteration")→E (.ref x) {s with heap:=h'}) :
  wpAny (model prog w) A (Builtin.«enumerate.__next__» ⟨[.ref e],[]⟩) (fun fin s'=>∃v,fin=.done (.ret v)∧Q v s') E s:=by
 obtain⟨hp,g,d,tk,os⟩:=s;show wpAny _ _ (field (.ref e) 2 >>= fun _=>_) _ _ _;refine ao (wpAny_field he rfl (x:=.ref it) rfl (ao (qO hi hl (fun x g1 hx t1 k1=>?_) no)));have k1':Heap.SameBut it hp g1:=k1;have z1:Le g1 e it i old a f:=(k1'.2 e hne).trans he;show wpAny _ _ (field (.ref e) 3 >>= fun _=>_) _ _ ⟨g1,g,d,tk,os⟩;refine ao (wpAny_field z1 rfl (x:=rawInt i) rfl ?_);show wpAny _ _ (field (.ref e) 4 >>= fun _=>_) _ _ ⟨g1,g,d,tk,os⟩;refine ao (wpAny_field z1 rfl (x:=.none) rfl ?_);show wpAny _ _ (mkInt i >>= fun _=>_) _ _ ⟨g1,g,d,tk,os⟩;refine ao (wpAny_mkInt (ao (wpAny_setField_rec z1 (by simp) fun g2 y2 k2=>?_)));have z2:Le g2 e it ((i:Int)+1) old a f:=y2;refine ao (wpAny_setField_rec z2 (by simp) fun g3 y3 k3=>?_);have z3:Le g3 e it ((i:Int)+1) old a f:=y3;refine ao (wpAny_newTuple ?_);have sz:g3.objs.size=hp.objs.size:=by have a:=k3.1;have c:=k2.1;have u:=k1'.1;dsimp only at a c u;omega
 have z4:Le (g3.push {cls:=.type "tuple",data:=.seq #[.int i tk,x]}) e it ((i:Int)+1) old a f:=ae _ z3;have el:e<hp.objs.size:=aK he;have to3:∀c o,c≠e→c≠it→hp.get? c=some o→g3.get? c=some o:=fun c o c1 c2 q=>k3.extBut c o c1 (k2.extBut c o c1 (k1'.extBut c o c2 q));have a4:(g3.push {cls:=.type "tuple",data:=.seq #[.int i tk,x]}).get? a=some oa:=ae _ (to3 a oa hae hai ha);have tp:(g3.push {cls:=.type "tuple",data:=.seq #[.int i tk,x]}).get? g3.objs.size=some {cls:=.type "tuple",data:=.seq #[.int i tk,x]}:=ar _ rfl;have up:∀c o,c≠e→c≠it→hp.get? c=some o→(g3.push {cls:=.type "tuple",data:=.seq #[.int i tk,x]}).get? c=some o:=fun c o c1 c2 q=>ae _ (to3 c o c1 c2 q);have ti:∀o,g1.get? it=some o→(g3.push {cls:=.type "tuple",data:=.seq #[.int i tk,x]}).get? it=some o:=fun o q=>ae _ (k3.extBut it o (Ne.symm hne) (k2.extBut it o (Ne.symm hne) q));show wpAny _ _ (Builtin.SmallTypes.ownedTupleIsFree (.ref e) >>= fun _=>_) _ _ _;unfold Builtin.SmallTypes.ownedTupleIsFree;refine ao (ao (wpAny_field z4 rfl (x:=rawInt a) rfl ?_));show wpAny _ _ (loadIfAlive ((a:Int).toNat) >>= fun _=>_) _ _ _;rw[bH];refine ao (W.kdx_alive a4 ?_);simp only[Option.isNone_some,bU,if_false];refine ao (wpAny_field z4 rfl (x:=.bool f) rfl ?_);cases f with
 | true=>rw[aQ (show ¬((Value.bool true != Value.bool true)=true) from fun z=>nomatch z)];refine ak ?_;simp only[bU,if_false];refine ak ⟨_,rfl,?_⟩;rw[sz] at tp ⊢;exact yes x _ hx z4 (t1.to ti) tp (by rw[Heap.size_push,sz]) up
 | false=>rw[aP (show (Value.bool false != Value.bool true)=true from rfl)];refine ao (wpAny_setField_rec z4 (by simp) fun g5 y5 k5=>?_);have z5:Le g5 e it ((i:Int)+1) old a true:=y5;have k5':Heap.SameBut e (g3.push {cls:=.type "tuple",data:=.seq #[.int i tk,x]}) g5:=k5;refine ak ?_;simp only[bU,if_false];refine ak ⟨_,rfl,?_⟩;have tp5:=k5'.extBut _ _ (by rw[sz];exact bj el) tp;rw[sz] at tp5 ⊢;exact yes x g5 hx z5 (t1.to fun o q=>k5'.extBut it o (Ne.symm hne) (ti o q)) tp5 (by rw[k5'.1,Heap.size_push,sz]) fun c o c1 c2 q=>k5'.extBut c o c1 (up c o c1 c2 q)
def Eb(h:Heap)(e it:Addr)(i:Nat):Prop:=(i=0∧∃old,IsEnum h e it 0 old)∨∃old a f oa,Le h e it i old a f∧h.get? a=some oa∧a≠e∧a≠it
theorem Eb.keep{h h':Heap}{e it:Addr}{i:Nat}{S:Addr}(x:Eb h e it i)(hS:∀o,h.get? S=some o→o.cls=.type "list")(hk:∀b o,b≠S→h.get? b=some o→h'.get? b=some o)(hS':∀o,h.get? S=some o→∃o',h'.get? S=some o')(he:e≠S):Eb h' e it i:=by
 rcases x with⟨z,old,q⟩ | ⟨old,a,f,oa,q,ha,h1,h2⟩
 ·exact .inl ⟨z,old,hk _ _ he q⟩
 ·by_cases hq:a=S
  ·subst hq;obtain⟨o',ho'⟩:=hS' oa ha;exact .inr ⟨old,a,f,o',hk _ _ he q,ho',h1,h2⟩
  ·exact .inr ⟨old,a,f,oa,hk _ _ he q,hk _ _ hq ha,h1,h2⟩
theorem wa{b:Bool}{e it l:Addr}{i:Nat}{xs:Array Value}{Q:Option Value→Shared→Prop}(st:Eb s.heap e it i)(hi:i7 b s.heap it l i)(hl:gG b s.heap l xs)(hne:e≠it)(hel:e<s.heap.objs.size)(hil:it<s.heap.objs.size)
  (yes:∀x h',xs[i]? = some x→Eb h' e it (i+1)→i7 b h' it l (i+1)→h'.get? s.heap.objs.size=some {cls:=.type "tuple",data:=.seq #[.int i s.toks,x]}→h'.objs.size=s.heap.objs.size+1→
   (∀c o,c≠e→c≠it→s.heap.get? c=some o→h'.get? c=some o)→Q (some (.ref s.heap.objs.size)) {s with heap:=h',toks:=s.toks+1})
  (no:xs[i]? = none→A.handled=none∧∀h',Heap.ExtBut it s.heap h'→Q none {s with heap:=h'}):wpAny (model prog w) A (pyNext (.ref e)) Q E s:=by
 rcases st with⟨rfl,old,he⟩ | ⟨old,a,f,oa,he,ha,h1,h2⟩
 ·exact rT he hi hl hne (fun x h' u1 u2 u3 u4 u5 u6=>yes x h' u1 (.inr ⟨x,_,false,_,by simpa using u2,u4,bj hel,bj hil⟩) u3 u4 u5 u6) no
 ·have ty:s.TypeIs (.ref e) "enumerate" :=⟨_,he,rfl⟩;unfold pyNext;refine ao (wpAny_attempt (wpAny_callSpecial?_slot (name:=Str.ofString "__next__") ty F.slot_enumerate_next (wpAny_call_entry F.slot_enumerate_next ty F.entry_enumerate_next
   (BR he ha h1 h2 hi hl hne (fun x h' u1 u2 u3 u4 u5 u6=>ak (yes x h' u1 (.inr ⟨old,a,true,oa,by simpa using u2,u6 a oa h1 h2 ha,h1,h2⟩) u3 u4 u5 u6)) fun q=>⟨(no q).1,fun h' x hk ⟨o,ho,hc⟩=>?_⟩) (F.args_enumerate_next_1 _))))
  exact ao (wpAny_isInstance (T:= "StopIteration") (b:=true) ⟨o,ho,hc⟩ isSubtype_stop (ak ((no q).2 h' hk)))
theorem El:typeLookup (.type "enumerate") "__len__" = pure none:=by rw[typeLookup_type,builtinLookup_eq_fast];kernel_rfl
theorem BE:typeLookup (.type "enumerate") "__length_hint__" = pure none:=by rw[typeLookup_type,builtinLookup_eq_fast];kernel_rfl
def PZ(us:List Value)(lo:Addr)(h:Heap)(as:List Addr):Prop:=∀(j:Nat) (a:Addr),as[j]? = some a→lo<a∧∃t x,us[j]? = some x∧h.get? a=some {cls:=.type "tuple",data:=.seq #[.int j t,x]}
section
variable {R:Result→Shared→Prop}{us:List Value}{b:Bool}
theorem IV{S e it l:Addr}(hh:A.handled=none)(heS:e≠S)(hiS:it≠S)(hlS:l≠S)(hle:l≠e)(hli:l≠it)(hne:e≠it)(hn:us.length≤sizeLine)(res:Value){h1:Heap}(zl:e<h1.objs.size∧it<h1.objs.size∧S<h1.objs.size)
  (hR:∀h' tk acc c as,(∀c o,c≠S→c≠e→c≠it→h1.get? c=some o→h'.get? c=some o)→h'.get? S=some {cls:=.type "list",dict:=none,data:=.seq acc c,slots:=#[]}→as.length=us.length→(∀a∈as,h1.objs.size≤a)→PZ us 0 h' as→
   acc.toList=as.map Value.ref→R (.ok (.ret res)) {s with heap:=h',toks:=tk}) :
  ∀(k i:Nat) (h:Heap) (tk c:Nat) (acc:Array Value) (as:List Addr),us.length - i=k→i≤us.length→Eb h e it i→i7 b h it l i→gG b h l us.toArray→(∀c o,c≠S→c≠e→c≠it→h1.get? c=some o→h.get? c=some o)→h1.objs.size≤h.objs.size→
   h.get? S=some {cls:=.type "list",dict:=none,data:=.seq acc c,slots:=#[]}→acc.toList=as.map Value.ref→as.length=i→(∀a∈as,h1.objs.size≤a)→PZ us 0 h as→
   codeAny (model prog w) A (.builtin "list.extend.loop" ⟨[.ref S,.ref e,res],[]⟩) R {s with heap:=h,toks:=tk}:=by
 intro k;induction k with
 | zero=>
  intro i h tk c acc as hk hi hst hit hsq hkeep hsz hS hacc hal hab hG;refine codeAny_builtin PySem.F.entry_extend_loop ?_;rw[Around.under_plainId PySem.F.plain_extend_loop _];show wpAny _ A.in1 (pyNext (.ref e) >>= fun _=>_) _ _ _;refine ao (wa (s:={s with heap:=h,toks:=tk}) (A:=A.in1) hst hit hsq hne (aD zl.1 hsz) (aD zl.2.1 hsz) (fun x h' hx=>?_) fun _=>⟨hh,fun h' ex=>?_⟩)
  ·have:us[i]? = none:=List.getElem?_eq_none (by omega);have hx':us[i]? = some x:=by simpa using hx
   rw[this] at hx';cases hx'
  ·refine ak (hR h' tk acc c as (fun c o q1 q2 q3 e=>ex c o q3 (hkeep c o q1 q2 q3 e)) (ex S _ (Ne.symm hiS) hS) (by omega) hab (fun j a hj=>?_) hacc);obtain⟨y,t,x,e1,e2⟩:=hG j a hj;have hb:=hab a (au hj);exact⟨y,t,x,e1,ex a _ (bj (aD zl.2.1 hb)) e2⟩
 | succ k ih=>
  intro i h tk c acc as hk hi hst hit hsq hkeep hsz hS hacc hal hab hG;have hsize:acc.size=i:=by rw[←bh,hacc,aw,hal]
  refine codeAny_builtin PySem.F.entry_extend_loop ?_;rw[Around.under_plainId PySem.F.plain_extend_loop _];show wpAny _ A.in1 (pyNext (.ref e) >>= fun _=>_) _ _ _;refine ao (wa (s:={s with heap:=h,toks:=tk}) (A:=A.in1) hst hit hsq hne (aD zl.1 hsz) (aD zl.2.1 hsz) (fun x h' hx st' it' ht hz hkp=>?_) fun q=>?_)
  ·dsimp only at ht hz hkp ⊢;have hS':=hkp S _ (Ne.symm heS) (Ne.symm hiS) hS;have up:∀c o,c≠S→h'.get? c=some o→(h'.update S (Obj.mapSeq (·.push (Value.ref h.objs.size)))).get? c=some o:=fun c o hb e=>(Heap.get?_update_other _ _ (Ne.symm hb)).trans e;have hsl:S<h.objs.size:=aD zl.2.2 hsz;show wpAny _ A.in1 (updateSeq S (·.push (Value.ref h.objs.size)) >>= fun _=>_) _ _ _;refine ao (wpAny_updateSeq hS' rfl (ak ⟨plainId_quiet PySem.F.plain_extend_loop _,ih (i+1) _ (tk+1) _ (acc.push (Value.ref h.objs.size)) (as++[h.objs.size]) (by omega) (by omega)
    (st'.keep (S:=S) (fun o ho=>by rw[hS'] at ho;cases ho;rfl) up (fun o ho=>⟨_,Heap.get?_update_self _ hS' rfl⟩) heS) (it'.to fun o q=>up it o hiS q) (hsq.to fun o q=>up l o hlS (hkp l o hle hli q))
    (fun c o q1 q2 q3 e=>up c o q1 (hkp c o q2 q3 (hkeep c o q1 q2 q3 e))) (by rw[Heap.size_update];show h1.objs.size≤h'.objs.size;omega) (Heap.get?_update_self _ hS' rfl) (by rw[Array.toList_push,hacc,aY];rfl) (by rw[aS,hal];rfl) (fun a ha=>?_) (fun j a hj=>?_)⟩) (by rw[hsize];omega) (by show (acc.push (Value.ref h.objs.size)).size≤sizeLine+1;rw[Array.size_push,hsize];omega))
   ·rcases ai.mp ha with ha | ha
    ·exact hab a ha
    ·rw[aj.mp ha];exact hsz
   ·rcases Nat.lt_trichotomy j as.length with q | q | q
    ·rw[List.getElem?_append_left q] at hj;obtain⟨y,t,x',e1,e2⟩:=hG j a hj;have hb:=hab a (au hj);have n1:a≠S:=bj (aD zl.2.2 hb);have n2:a≠e:=bj (aD zl.1 hb);have n3:a≠it:=bj (aD zl.2.1 hb);exact⟨y,t,x',e1,up a _ n1 (hkp a _ n2 n3 e2)⟩
    ·subst q;have hb:h.objs.size=a:=by simpa using hj
     subst hb;refine⟨bT (bA _) hsl,tk,x,by rw[hal];simpa using hx,?_⟩;rw[hal];exact up _ _ (bj hsl) ht
    ·have hnone:(as++[h.objs.size])[j]? = none:=List.getElem?_eq_none (by rw[aS,bP];omega);rw[hnone] at hj;cases hj
  ·exfalso;have:i<us.length:=by omega
   simp[this] at q
theorem BJ{e it l:Addr}{Q:Value→Shared→Prop}(hh:A.handled=none)(he:IsEnum s.heap e it 0 .none)(hi:i7 b s.heap it l 0)(hl:gG b s.heap l us.toArray)(hle:l≠e)(hli:l≠it)(hne:e≠it)(hn:us.length≤sizeLine)(hil:it<s.heap.objs.size)(hll:l<s.heap.objs.size)
  (q:∀h' tk acc c as,(∀c o,c≠e→c≠it→s.heap.get? c=some o→h'.get? c=some o)→h'.get? s.heap.objs.size=some {cls:=.type "list",dict:=none,data:=.seq acc c,slots:=#[]}→as.length=us.length→(∀a∈as,s.heap.objs.size<a)→PZ us 0 h' as→
   acc.toList=as.map Value.ref→Q (.ref s.heap.objs.size) {s with heap:=h',toks:=tk}):wpAny (model prog w) A (call (.type "list") [.ref e]) Q E s:=by
 have hel:e<s.heap.objs.size:=aK he;refine callType_codes (Q₁:=fun obj s₁=>obj=.ref s.heap.objs.size∧s₁={s with heap:=s.heap.push {cls:=.type "list",data:=.seq #[]}}) PySem.F.called_list (PySem.F.typeCall_list_1 _) PySem.F.entry_list_init
  (code_list_new _ ⟨rfl,rfl⟩) fun obj s₁ h₁=>?_
 obtain⟨rfl,rfl⟩:=h₁;generalize hSe:s.heap.objs.size=S at *;have hS:(s.heap.push {cls:=.type "list",data:=.seq #[]}).get? S=some {cls:=.type "list",data:=.seq #[]}:=by rw[←hSe];exact ar _ rfl
 have kp:∀c o,s.heap.get? c=some o→(s.heap.push {cls:=.type "list",data:=.seq #[]}).get? c=some o:=fun c o z=>ae _ z;refine⟨⟨_,hS,rfl⟩,PySem.F.args_list_init_2 _ _,?_⟩;show wpAny _ _ (do let old ←Builtin.List.listItems (.ref S);Builtin.List.listUpdate (.ref S) (fun _=>#[]);letGo old.toList.reverse;Builtin.List.listExtendWith (.ref S) (.ref e) .none) _ _ {s with heap:=s.heap.push {cls:=.type "list",data:=.seq #[]}};refine ao ?_;unfold Builtin.List.listItems;refine ao (wpAny_seqItems hS rfl (ak ?_));show wpAny _ _ (updateSeq S (fun _=>#[]) >>= fun _=>letGo (#[]:Array Value).toList.reverse >>= fun _=>Builtin.List.listExtendWith (.ref S) (.ref e) .none) _ _ {s with heap:=s.heap.push {cls:=.type "list",data:=.seq #[]}};refine ao (wpAny_updateSeq hS rfl ?_);have hS2:=Heap.get?_update_self (Obj.mapSeq (fun _=>(#[]:Array Value))) hS rfl;have k2:∀c o,c≠S→s.heap.get? c=some o→((s.heap.push {cls:=.type "list",data:=.seq #[]}).update S (Obj.mapSeq (fun _=>(#[]:Array Value)))).get? c=some o:=fun c o hb z=>(Heap.get?_update_other _ _ (Ne.symm hb)).trans (kp c o z);refine ao (wpAny_letGo ?_);have heS:e≠S:=aL hel;have hiS:it≠S:=aL hil;have hlS:l≠S:=aL hll;have he2:((s.heap.push {cls:=.type "list",data:=.seq #[]}).update S (Obj.mapSeq (fun _=>(#[]:Array Value)))).get? e=_:=k2 e _ heS he;unfold Builtin.List.listExtendWith;have ty2:Shared.TypeIs {s with heap:=(s.heap.push {cls:=.type "list",data:=.seq #[]}).update S (Obj.mapSeq (fun _=>(#[]:Array Value)))} (.ref e) "enumerate" :=⟨_,he2,rfl⟩;refine ao (wpAny_typeOf (T:= "enumerate") ty2 ?_);have g1:Builtin.List.listSameRef (.ref S) (.ref e)=false:=by simp[Builtin.List.listSameRef,Ne.symm heS]
 have g2:(Value.type "enumerate" == Value.type "list")=false:=by decide
 have g3:(Value.type "enumerate" == Value.type "tuple")=false:=by decide
 simp only[g1,g2,g3,Bool.or_false,bU,if_false];refine ao (wpAny_pyIter_enum (s:={s with heap:=(s.heap.push {cls:=.type "list",data:=.seq #[]}).update S (Obj.mapSeq (fun _=>(#[]:Array Value)))}) he2 ?_);refine ao (wpAny_holding ?_);unfold Builtin.List.listLengthHint;refine ao (wpAny_specialOf ty2 El ?_);show wpAny _ _ (specialOf (Value.ref e) (Str.ofString "__length_hint__") >>= fun _=>_) _ _ _;refine ao (wpAny_specialOf ty2 BE ?_);refine ak ?_;show wpAny _ _ (rule "list.extend.makes-room" >>= fun _=>Builtin.List.listTouch (.ref S) >>= fun _=>again (.builtin "list.extend.loop" ⟨[.ref S,.ref e,.none],[]⟩)) _ _ _;refine ao (wpAny_rule (ao ?_));show wpAny _ _ (updateSeq S (·.push .none) >>= fun _=>updateSeq S (·.pop)) _ _ _;refine ao (wpAny_updateSeq hS2 rfl ?_);have hS3:=Heap.get?_update_self (Obj.mapSeq (·.push Value.none)) hS2 rfl;refine wpAny_updateSeq (hz:=by seq_fits) hS3 rfl ?_;have hS4:=Heap.get?_update_self (Obj.mapSeq (·.pop)) hS3 rfl;have k4:∀c o,c≠S→s.heap.get? c=some o→((((s.heap.push {cls:=.type "list",data:=.seq #[]}).update S (Obj.mapSeq (fun _=>(#[]:Array Value)))).update S (Obj.mapSeq (·.push Value.none))).update S (Obj.mapSeq (·.pop))).get? c=some o:=fun c o hb z=>(Heap.get?_update_other _ _ (Ne.symm hb)).trans ((Heap.get?_update_other _ _ (Ne.symm hb)).trans (k2 c o hb z))
 have sz4:((((s.heap.push {cls:=.type "list",data:=.seq #[]}).update S (Obj.mapSeq (fun _=>(#[]:Array Value)))).update S (Obj.mapSeq (·.push Value.none))).update S (Obj.mapSeq (·.pop))).objs.size=S+1:=by rw[Heap.size_update,Heap.size_update,Heap.size_update,Heap.size_push,hSe]
 refine ak ⟨plainId_quiet PySem.F.plain_extend_loop _,?_⟩;generalize hh4:((((s.heap.push {cls:=.type "list",data:=.seq #[]}).update S (Obj.mapSeq (fun _=>(#[]:Array Value)))).update S (Obj.mapSeq (·.push Value.none))).update S (Obj.mapSeq (·.pop)))=h4 at *;refine IV (s:=s) (b:=b) (us:=us) (A:=A.in1) hh heS hiS hlS hle hli hne hn .none (h1:=h4) ⟨by rw[sz4];exact bX hel,by rw[sz4];exact bX hil,by rw[sz4];exact bz _⟩ (fun h' tk acc c as kk hl' e1 e2 e3 e4=>⟨rfl,?_⟩)
  us.length 0 h4 _ _ #[] [] (Nat.sub_zero _) (bA _) (.inl ⟨rfl,_,k4 e _ heS he⟩) (hi.to fun o z=>k4 it o hiS z) (hl.to fun o z=>k4 l o hlS z) (fun _ _ _ _ _ z=>z) (aJ _) hS4 rfl rfl (fun a ha=>nomatch ha) (fun j a hj=>by simp at hj)
 exact q h' tk acc c as (fun c o z1 z2 z3=>kk c o (fun zz=>by rw[zz] at z3;exact absurd (aK z3) (by rw[hSe];exact aZ _)) z1 z2 (k4 c o (fun zz=>by rw[zz] at z3;exact absurd (aK z3) (by rw[hSe];exact aZ _)) z3)) hl' e1 (fun a ha=>by have:=e2 a ha;rw[sz4] at this;omega) e3 e4
end
end
end L2
namespace L2
open PySem PySem.Spec PyProof.Rows
section
variable {X:Cx}
theorem vX{dU:List (Addr×Obj)}{σ:St}{s:Shared}{us:List Value}{xs:List V}(va:fP xs us)(hsm:2≤sizeLine):∀(as:List Addr) (j:Nat) (H:Hp),eW X dU σ H s→(∀a∈as,qJ X dU H a)→as.Nodup→
  (∀(i:Nat) (a:Addr),as[i]? = some a→∃t x,us[j+i]? = some x∧s.heap.get? a=some {cls:=.type "tuple",data:=.seq #[.int ((j+i:Nat):Int) t,x]})→
  ∃H',eW X dU σ H' s∧fv H H'∧(∀a,a∉as→H' a=H a)∧∀(i:Nat) (a:Addr),as[i]? = some a→∃x,xs[j+i]? = some x∧H' a=some (.tup [.int ((j+i:Nat):Int),x])
 | [],j,H,I,_,_,_=>⟨H,I,.refl _,fun _ _=>rfl,fun i a h=>by simp at h⟩
 | a::as,j,H,I,hf,nd,hg=>by
  obtain⟨t,u,e1,e2⟩:=hg 0 a rfl;obtain⟨f0,f1,f2,f3,f4,f5⟩:=hf a (by simp);have hj:j+0<xs.length:=by rw[va.length];exact (aa.mp e1).1
  have hx:xs[j+0]? = some xs[j+0]:=ag hj;obtain⟨u',e3,ru⟩:=va.get hx;rw[e1] at e3;cases e3;have I1:eW X dU σ (ij H a (.tup [.int ((j+0:Nat):Int),xs[j+0]])) s:=I.track f0 f3 f1 f4 f5 ⟨hsm,[.int ((j+0:Nat):Int) t,u],.cons ⟨_,rfl⟩ (.cons ru .nil),⟨_,e2,rfl,_,rfl⟩⟩;obtain⟨nd1,nd2⟩:=bD.mp nd;obtain⟨H',I',s',o',g'⟩:=vX va hsm as (j+1) _ I1 (fun b hb=>by obtain⟨g0,gr⟩:=hf b (by simp[hb]);have ne:b≠a:=fun z=>nd1 (z▸hb);exact⟨by rw[eO ne];exact g0,gr⟩) nd2 (fun i b hb=>by obtain⟨t',x',q1,q2⟩:=hg (i+1) b (by simpa using hb);rw[show j+(i+1)=j+1+i by omega] at q1 q2;exact⟨t',x',q1,q2⟩)
  refine⟨H',I',(l3 f0).trans s',fun b hb=>?_,fun i b hb=>?_⟩
  ·rw[o' b (fun z=>hb (by simp[z])),eO (fun z=>hb (by simp[z]))]
  ·cases i with
   | zero=>simp at hb;subst hb;exact⟨_,hx,s' _ _ eP⟩
   | succ i=>obtain⟨x',q1,q2⟩:=g' i b (by simpa using hb);rw[show j+1+i=j+(i+1) by omega] at q1 q2;exact⟨x',q1,q2⟩
def Qn(K:W.Frag)(ta:TA):TE:=fun σ H Q=>ta σ H fun vs H1=>∃b l xs,vs=[.ref l]∧t8 K H1 b l xs∧∀(p:Addr) (as:List Addr) (H':Hp),fv H1 H'→H1 p=none→H' p=some (.lst (as.map V.ref))→as.length=xs.length→
 (∀(i:Nat) (a:Addr),as[i]? = some a→H1 a=none∧a≠p∧∃x,xs[i]? = some x∧H' a=some (.tup [.int (i:Int),x]))→Q (.ref p) H'
theorem GA{a:Expr}{ta:TA}{p1 p2 pos pos2:Pos}(hc:X.calm=true)(hg:Gl X "list")(hm:X.mg "list" = none)(hg2:Gl X "enumerate")(hm2:X.mg "enumerate" = none)(ha:PA X [a] ta)(hs:starEach [a] X.env=[(false,eval a X.env)]:=by rfl)
  (he:starEach [Expr.Call (.Name "enumerate" p2) [a] [] pos2] X.env=[(false,eval (.Call (.Name "enumerate" p2) [a] [] pos2) X.env)]:=by rfl) :
  PE X (.Call (.Name "list" p1) [.Call (.Name "enumerate" p2) [a] [] pos2] [] pos) (Qn X.K ta):=by
 intro dU s σ H Q I h;refine wpAny_Call_Name_kw (nN I hg hm (by decide +kernel:bootBuiltins "list" = some (.type "list")) ?_);refine PyProof.Rows.callWith_type1 ?_ he rfl;rw[he];show wpAny _ _ (spliced ((false,eval (.Call (.Name "enumerate" p2) [a] [] pos2) X.env)::[])) _ _ s;refine Calls.spliced_cons (Call_ (nN I hg2 hm2 boot_enumerate (PyProof.Rows.callWith_type1 (iL (ha pos2 dU s σ H _ I h) fun us s1 ⟨vs,H1,I1,r1,q1⟩=>?_) hs rfl)));obtain⟨b,l,xs,rfl,hq,q⟩:=q1;obtain⟨u,rfl,rx⟩:=oB r1;cases rx;obtain⟨us,rv,p1',hz⟩:=I1.seqB hq;refine xA p1' fun h' hen hit hsz hk=>Calls.spliced_nil ?_;have ll:l<s1.heap.objs.size:=by obtain⟨o,n,e,_⟩:=p1'.look;exact aK e
 have jx:=rv.length;refine BJ (s:={s1 with heap:=h'}) (b:=b) (us:=us) (I1.ok.hd hc) hen hit (p1'.to fun o e=>hk l o e) (aL (bX ll)) (aL ll) (Nat.succ_ne_self _) (by rw[←jx];exact hz) (by show _<h'.objs.size;rw[hsz];omega) (by show _<h'.objs.size;rw[hsz];exact aD ll (bY _ _)) fun h2 tk acc c as k2 hS hal hab hG hacc=>?_;dsimp only at k2 hS hab;have kk:∀b o,s1.heap.get? b=some o→h2.get? b=some o:=fun b o e=>by have lt:=aK e;exact k2 b o (aL (bX lt)) (aL lt) (hk b o e)
 have I2:eW X dU σ H1 {s1 with heap:=h2,toks:=tk}:=I1.kept (t':=tk) kk;have fp:∀b,s1.heap.objs.size≤b→qJ X dU H1 b:=fun b hb=>I1.fpOk hb (I1.hok.fresh hb);have hab':∀a∈as,s1.heap.objs.size≤a:=fun a ha=>by have:=hab a ha;rw[hsz] at this;omega
 have nd:as.Nodup:=by refine b8.mpr fun i j hi hj hij e=>?_;obtain⟨_,t1,x1,_,g1⟩:=hG i _ (ag hi);obtain⟨_,t2,x2,_,g2⟩:=hG j _ (ag hj);rw[e,g2] at g1;simp at g1;omega
 obtain⟨H',I3,s3,o3,g3⟩:=vX rv (by decide) as 0 H1 I2 (fun a ha=>fp a (hab' a ha)) nd (fun i a ha=>by obtain⟨_,t,x,e1,e2⟩:=hG i a ha;rw[aF];exact⟨t,x,e1,e2⟩)
 have pn:h'.objs.size∉as:=fun hm=>aZ _ (hab _ hm);have hp1:H1 h'.objs.size=none:=I1.hok.fresh (by rw[hsz];omega);obtain⟨f0,f1,f2,f3,f4,f5⟩:=fp h'.objs.size (by rw[hsz];omega);have va:fP (as.map V.ref) acc.toList:=by
  rw[hacc];refine oM (by simp) fun i v hv=>?_;rw[av] at hv ⊢;cases hi:as[i]? with
  | none=>rw[hi] at hv;cases hv
  | some a'=>rw[hi] at hv;cases hv;exact⟨_,rfl,rfl⟩
 have I4:eW X dU σ (ij H' h'.objs.size (.lst (as.map V.ref))) {s1 with heap:=h2,toks:=tk}:=I3.track (by rw[o3 _ pn];exact f0) f3 f1 f4 f5 ⟨by rw[aw,hal,←jx];exact hz,acc.toList,c,va,by simpa using hS⟩;refine⟨.ref h'.objs.size,_,I4,rfl,q _ as _ (s3.trans (l3 (by rw[o3 _ pn];exact f0))) hp1 eP (by rw[hal,jx]) fun i a ha=>?_⟩;have hm:=au ha;have ne:a≠h'.objs.size:=fun z=>pn (z▸hm);obtain⟨x,e1,e2⟩:=g3 i a ha;rw[aF] at e1 e2;exact⟨I1.hok.fresh (hab' a hm),ne,x,e1,by rw[eO ne];exact e2⟩
end
end L2
namespace Cu
noncomputable def G(a b:Int):Int:=(Int.gcd a b:Nat)
theorem CA(a b:Int):G b (Int.fmod a b)=G a b:=by
 unfold G;have e:Int.fmod a b=a - b*Int.fdiv a b:=Int.fmod_def a b;rw[e];congr 1;apply Nat.dvd_antisymm
 ·apply Int.dvd_gcd
  ·have h1:=b9 b (a - b*Int.fdiv a b);have h2:=cf b (a - b*Int.fdiv a b);have h3:=Int.dvd_add h2 (Int.dvd_mul_of_dvd_left (c:=Int.fdiv a b) h1);have h4:a - b*Int.fdiv a b+b*Int.fdiv a b=a:=by omega
   rw[h4] at h3;exact h3
  ·exact b9 b _
 ·apply Int.dvd_gcd
  ·exact cf a b
  ·exact Int.dvd_sub (b9 a b) (Int.dvd_mul_of_dvd_left (cf a b))
theorem EM(a b:Int)(h:b≠0):(Int.fmod a b).natAbs<b.natAbs:=by
 rcases Int.lt_or_gt_of_ne h with h' | h'
 ·have h1:=cg (-a) (show 0 < -b by omega);have h2:=cj (-a) (show 0 < -b by omega);rw[Int.neg_fmod_neg] at h1 h2;omega
 ·have h1:=cg a h';have h2:=cj a h';omega
theorem G7(a:Int):G a 0=(a.natAbs:Int):=by unfold G;rw[Int.gcd_zero_right]
theorem uP(a b:Int):0≤G a b:=Int.natCast_nonneg _
theorem KW(a b:Int)(h:b≠0):0<G a b:=by have:0<Int.gcd a b:=ck a h;unfold G;omega
theorem nQ(a b:Int):G a b ∣ a:=b9 a b
theorem kU(a b:Int):G a b ∣ b:=cf a b
theorem N6(a b:Int)(h:b≠0):G a b≤(b.natAbs:Int):=by have:=Int.natAbs_dvd_natAbs.mpr (kU a b);have h2:=Nat.le_of_dvd (by omega) this;have:=uP a b;omega
structure Qv(t b p q:Int):Prop where
 pos:0<q
 one:G p q=1
 is:p*b=t*q
theorem uE{t b g p q:Int}(hb:b≠0)(hg:g≠0)(hG:g=G t b∨g = - G t b)(hs:0<q)(ht:t=g*p)(hb':b=g*q):Qv t b p q:=by
 refine⟨hs,?_,?_⟩
 ·have h1:Int.gcd t b=g.natAbs*Int.gcd p q:=by rw[ht,hb',Int.gcd_mul_left]
  have h2:g.natAbs=Int.gcd t b:=by unfold G at hG;omega
  rw[h2] at h1;have h3:0<Int.gcd t b:=ck t hb;have h4:Int.gcd p q=1:=by
   have:Int.gcd t b*1=Int.gcd t b*Int.gcd p q:=by rw[←h1,Nat.mul_one]
   exact (Nat.eq_of_mul_eq_mul_left h3 this).symm
  unfold G;rw[h4];rfl
 ·have:p*(g*q)=g*p*q:=by rw[←cm,cq p g]
  rw[←hb',←ht] at this;exact this
theorem mH(g p:Int)(hg:g≠0):Int.fdiv (g*p) g=p:=by exact cu p hg
theorem Ip(t b:Int)(hb:b≠0):Qv t b (Int.fdiv t (if b<0 then - G t b else G t b)) (Int.fdiv b (if b<0 then - G t b else G t b)):=by
 have hG:=KW t b hb;obtain⟨p,hp⟩:=nQ t b;obtain⟨q,hq⟩:=kU t b;by_cases h:b<0
 ·rw[aP h];have ht:t=(-G t b)*(-p):=by rw[Int.neg_mul_neg];exact hp
  have hb':b=(-G t b)*(-q):=by rw[Int.neg_mul_neg];exact hq
  have e1:Int.fdiv t (-G t b) = -p:=by have:=mH (-G t b) (-p) (by omega);rw[←ht] at this;exact this
  have e2:Int.fdiv b (-G t b) = -q:=by have:=mH (-G t b) (-q) (by omega);rw[←hb'] at this;exact this
  rw[e1,e2];refine uE (g:=-G t b) hb (by omega) (Or.inr rfl) ?_ ht hb';by_cases hq':0 < -q
  ·exact hq'
  ·exfalso;have:0≤q:=by omega
   have:=aO (az hG) this;omega
 ·rw[aQ h];have e1:Int.fdiv t (G t b)=p:=by have:=mH (G t b) p (by omega);rw[←hp] at this;exact this
  have e2:Int.fdiv b (G t b)=q:=by have:=mH (G t b) q (by omega);rw[←hq] at this;exact this
  rw[e1,e2];refine uE (g:=G t b) hb (by omega) (Or.inl rfl) ?_ hp hq;by_cases hq':0<q
  ·exact hq'
  ·exfalso;have:0≤-q:=by omega
   have:=aO (az hG) this;rw[Int.mul_neg] at this;omega
end Cu
namespace Cu
open PySem PyProof.Rows
open PySem.Builtin.Int (intBits)
theorem noPy{x y:Int}{m:Nat}(h:intBits y≤m)(hm:m≤8000):PySem.Builtin.divisionGoesByPylong x y=false:=by
 refine PyProof.noPylong_of_log2 ?_;rcases Nat.eq_zero_or_pos y.natAbs with h0 | hp
 ·rw[h0];decide
 ·refine (Nat.log2_lt (bj hp)).mpr ?_;exact lt_pow_of_bits h (by omega)
end Cu
namespace L2
open PySem PySem.Spec PyProof.Rows
theorem GD{X:Cx}:jz X (.builtin "isinstance") (fun xs H Q=>∃x T t b,xs=[x,.ty T]∧oJ X.K H x t∧W.kitOne X.K t (.type T)=some b∧Q (.bl b) H):=by
 intro dU s σ H xs us Q I r h;obtain⟨x,T,t,b,rfl,ty,e,q⟩:=h;cases r with
 | cons r1 r2=>
  cases r2 with
  | cons r3 r4=>cases r4;cases (show _=Value.type T from r3);exact EO I r1 ty e fun tk=>⟨.bl b,H,I.tok tk,rfl,q⟩
theorem Lw:bootBuiltins "isinstance" = some (.builtin "isinstance"):=by decide +kernel
theorem FH:bootBuiltins "abs" = some (.builtin "abs"):=by decide +kernel
theorem NA:bootBuiltins "int" = some (.type "int"):=by decide +kernel
theorem Dj:bootBuiltins "bool" = some (.type "bool"):=by decide +kernel
theorem jc:bootBuiltins "tuple" = some (.type "tuple"):=by decide +kernel
theorem iw:bootBuiltins "len" = some (.builtin "len"):=by decide +kernel
end L2
namespace L2
open PySem PySem.W PySem.Spec PyProof.Rows
theorem E4{l:W.OpenLaw}{n k:Nat}{q:Program}{loose:List Str}{XP:(Str→Option Value)→Heap→Prop}{YP:World→Heap→Prop}{d:DefRec}{K:Params→W.Frag}{CX:Fd}{sp:W.Frag→Sp}{x:Str}
  (hn:l.most=some n) (hn2:n≤sizeLine) (hdf:d.params.defaults=[]) (hr:hV k callerA)
  (hY:∀(w:World) (h:Heap),YP w h→(K w.params).In h)
  (F:∀(w:World) (mg:Str→Option Value) (fa:Addr) (h:Heap),(K w.params).In h→h.Ns mainGlobals mg→mg d.name=some (.ref fa)→
   ∃fd:FuncData,(∀(s:Shared) (u:Value),BindsTo s fd ⟨[u],[]⟩ [(x,u)])∧
    ∀base:Heap,(K w.params).In base→base.Ns mainGlobals mg→mC l.prog w (K w.params) mg base CX k fa fd [x] (sp (K w.params)))
  (hsp:∀(K:W.Frag) (H:Hp) (a:Addr) (ns:List Int),ns.length≤n→(∀z∈ns,PySem.Builtin.Int.intBits z≤2 ^ 20)→Lr H→jI K H a (ns.map V.int)→sp K [.ref a] H (fun v _=>v=.bl true) fun _ _ _=>False)
  (hCX:∀(H:Hp) (s:Shared) (e:Value) (s':Shared),CX [] H s (fun _ _ _=>False) e s'→False) :
  W.WalkO q loose XP YP l.row.toRowW d [] (fun f vs=>PySem.call f vs):=by
 intro w s₀ s₁ mg mb G Y fa o pm cd doc dV kV ho hd hcd hD hmg hg args vals as hpre hlay hrd hwl hlo;obtain rfl:dV=.none:=Dflts.none hD hdf;obtain rfl:kV=.none:=Dflts.noKw hD;obtain⟨a,vs,ns,rfl,rfl,hobj,hints,jx⟩:=Att.script_of hn hpre hwl;have hb:∀z∈ns,PySem.Builtin.Int.intBits z≤2 ^ 20:=fun z hz=>by have h1:=(layW_cons hlay).1;have h2:=layableW_item h1 (WData.int z) (aC.mpr ⟨z,hz,rfl⟩);exact PyData.bits_of_layable (layable_int h2)
 have KX:=hY w _ Y;obtain⟨fd,hbd,hF⟩:=F w mg fa _ KX G.T.g hmg;refine enter_call (codeAny_mono (FY KX G.T.g G.T.b G.T.builtins G.T.nolimit hg hobj hints (aM jx hn2) hr hF hbd (fun H hO hS=>hsp _ H a ns jx hb hO hS) fun H e s'=>hCX H s₁ e s') fun r s' hq=>?_);obtain⟨rfl,h2,h3,h4⟩:=hq;exact⟨.inl ⟨.bool true,.bool true,[],rfl,fun _=>rfl,.bool true,Att.post_true l _,fun _=>⟨List.Pairwise.nil,fun _ hm=>(nomatch hm)⟩⟩,h2,h3,h4⟩
end L2
namespace Cu
open PySem PyProof.Rows
open PySem.Builtin.Int (intBits)
end Cu
namespace L2
end L2
namespace Cu
open PySem PyProof.Rows
open PySem.Builtin.Int (intBits)
end Cu
namespace L2
open PySem PySem.Spec PyProof.Rows
end L2
namespace C4
def Par(c e:List Int):Prop:=∀i j,i<c.length→j<c.length→c.getD i 0*e.getD j 0=c.getD j 0*e.getD i 0
theorem par_of_place{c e:List Int}{p:Nat}(hp:c.getD p 0≠0)(h:∀i,i<c.length→c.getD i 0*e.getD p 0=e.getD i 0*c.getD p 0):Par c e:=fun i j hi hj=>by have h1:=h i hi;have h2:=h j hj;refine Int.eq_of_mul_eq_mul_right hp ?_;have a1:c.getD i 0*e.getD j 0*c.getD p 0=c.getD i 0*(e.getD j 0*c.getD p 0):=cm _ _ _;have a2:c.getD j 0*e.getD i 0*c.getD p 0=c.getD j 0*(e.getD i 0*c.getD p 0):=cm _ _ _;rw[a1,a2,←h1,←h2,←cm,←cm,cq (c.getD i 0) (c.getD j 0)]
end C4
namespace L3
open PySem L2
inductive T where
 | non | bl (b:Bool) | int (i:Int) | str (x:Str)
 | tup (ts:List T) | lst (ts:List T) | scr (ns:List Int)
 | obj (C:Addr) (fs:List (Str×T)) | emp
inductive M(α:Type) where
 | bad | ok (a:α) | er (C:Addr) (n:Option Int)
namespace M
noncomputable def bind{α β:Type}(m:M α)(k:α→M β):M β:=match m with
 | .bad=>.bad
 | .ok a=>k a
 | .er C n=>.er C n
instance:Monad M where
 pure:=.ok
 bind:=M.bind
def res{α:Type}(m:M α)(P:α→Prop)(E:Addr→Option Int→Prop):Prop:=match m with
 | .bad=>False
 | .ok a=>P a
 | .er C n=>E C n
theorem res.unb{α β:Type}{m:M α}{k:α→M β}{P:β→Prop}{E:Addr→Option Int→Prop}(h:res (m.bind k) P E):res m (fun a=>res (k a) P E) E:=by cases m<;>exact h
theorem res.mono{α:Type}{m:M α}{P P':α→Prop}{E E':Addr→Option Int→Prop}(h:res m P E)(hP:∀a,P a→P' a)(hE:∀C n,E C n→E' C n):res m P' E':=by
 cases m with
 | bad=>exact h
 | ok a=>exact hP a h
 | er C n=>exact hE C n h
noncomputable def noEr{α:Type}(m:M α):M α:=match m with
 | .er _ _=>.bad
 | m=>m
theorem res.noEr{α:Type}{m:M α}{P:α→Prop}{E E':Addr→Option Int→Prop}(h:res m.noEr P E):res m P E':=by
 cases m with
 | bad=>exact h
 | ok a=>exact h
 | er C n=>exact h.elim
@[simp] theorem bind_ok{α β:Type}(a:α)(k:α→M β):M.bind (.ok a) k=k a:=rfl
@[simp] theorem NV{α β:Type}(k:α→M β):M.bind (.bad:M α) k=.bad:=rfl
@[simp] theorem PB{α β:Type}(C:Addr)(n:Option Int)(k:α→M β):M.bind (.er C n:M α) k=.er C n:=rfl
def NoE{α:Type}(m:M α):Prop:=∀C n,m≠.er C n
theorem res.ne{α:Type}{m:M α}{P:α→Prop}{E E':Addr→Option Int→Prop}(h:res m P E)(ne:NoE m):res m P E':=by
 cases m with
 | bad=>exact h
 | ok a=>exact h
 | er C n=>exact absurd rfl (ne C n)
@[simp] theorem noEr_ok{α:Type}(a:α):noEr (.ok a)=.ok a:=rfl
end M
mutual
inductive jT(K:W.Frag)(F:Hp):V→T→Prop
 | non:jT K F .non .non
 | bl (b:Bool):jT K F (.bl b) (.bl b)
 | int (i:Int):jT K F (.int i) (.int i)
 | str (x:Str):jT K F (.str x) (.str x)
 | tup {a:Addr} {xs:List V} {ts:List T} (h:F a=some (.tup xs)) (r:eZ K F xs ts):jT K F (.ref a) (.tup ts)
 | lst {a:Addr} {xs:List V} {ts:List T} (h:F a=some (.lst xs)) (r:eZ K F xs ts):jT K F (.ref a) (.lst ts)
 | scr {a:Addr} {ns:List Int} (h:jI K F a (ns.map V.int)):jT K F (.ref a) (.scr ns)
 | obj {a C dx:Addr} {fs:List (Str×V)} {ts:List (Str×T)} (h:F a=some (.ins C dx fs)) (r:mY K F fs ts):jT K F (.ref a) (.obj C ts)
 | emp {a:Addr} (h:F a=some (.dK [])):jT K F (.ref a) .emp
inductive eZ(K:W.Frag)(F:Hp):List V→List T→Prop
 | nil:eZ K F [] []
 | cons {v:V} {t:T} {vs:List V} {ts:List T} (h:jT K F v t) (r:eZ K F vs ts):eZ K F (v::vs) (t::ts)
inductive mY(K:W.Frag)(F:Hp):List (Str×V)→List (Str×T)→Prop
 | nil:mY K F [] []
 | cons {x:Str} {v:V} {t:T} {vs:List (Str×V)} {ts:List (Str×T)} (h:jT K F v t) (r:mY K F vs ts):mY K F ((x,v)::vs) ((x,t)::ts)
end
section
variable {K:W.Frag}{F F':Hp}
mutual
theorem jT.mono(s:fv F F'):∀{v:V} {t:T},jT K F v t→jT K F' v t
 | _,_,.non=>.non
 | _,_,.bl b=>.bl b
 | _,_,.int i=>.int i
 | _,_,.str x=>.str x
 | _,_,.tup h r=>.tup (s _ _ h) (eZ.mono s r)
 | _,_,.lst h r=>.lst (s _ _ h) (eZ.mono s r)
 | _,_,.scr h=>.scr (s.seq h)
 | _,_,.obj h r=>.obj (s _ _ h) (mY.mono s r)
 | _,_,.emp h=>.emp (s _ _ h)
theorem eZ.mono(s:fv F F'):∀{vs:List V} {ts:List T},eZ K F vs ts→eZ K F' vs ts
 | _,_,.nil=>.nil
 | _,_,.cons h r=>.cons (jT.mono s h) (eZ.mono s r)
theorem mY.mono(s:fv F F'):∀{vs:List (Str×V)} {ts:List (Str×T)},mY K F vs ts→mY K F' vs ts
 | _,_,.nil=>.nil
 | _,_,.cons h r=>.cons (jT.mono s h) (mY.mono s r)
end
theorem eZ.length:∀{vs:List V} {ts:List T},eZ K F vs ts→vs.length=ts.length
 | _,_,.nil=>rfl
 | _,_,.cons _ r=>by rw[ay,ay,eZ.length r]
theorem eZ.get:∀{vs:List V} {ts:List T} {i:Nat} {t:T},eZ K F vs ts→ts[i]? = some t→∃v,vs[i]? = some v∧jT K F v t
 | _,_,_,_,.nil,e=>by simp at e
 | _,_,0,_,.cons h _,e=>by simp at e;subst e;exact⟨_,rfl,h⟩
 | _,_,i+1,_,.cons _ r,e=>by obtain⟨v,e',h⟩:=eZ.get (i:=i) r (by simpa using e);exact⟨v,by simpa using e',h⟩
theorem eZ.at_{vs:List V}{ts:List T}{i:Nat}{v:V}(r:eZ K F vs ts)(e:vs[i]? = some v):∃t,ts[i]? = some t∧jT K F v t:=by
 have hi:i<ts.length:=by rw[←r.length];exact (aa.mp e).1
 obtain⟨v',e',h⟩:=r.get (ag hi);rw[e] at e';cases e';exact⟨_,ag hi,h⟩
theorem eZ.append:∀{vs us:List V} {ts ss:List T},eZ K F vs ts→eZ K F us ss→eZ K F (vs++us) (ts++ss)
 | _,_,_,_,.nil,q=>q
 | _,_,_,_,.cons h r,q=>.cons h (eZ.append r q)
theorem eZ.set{v:V}{t:T}(q:jT K F v t):∀{vs:List V} {ts:List T} (i:Nat),eZ K F vs ts→eZ K F (vs.set i v) (ts.set i t)
 | _,_,_,.nil=>.nil
 | _,_,0,.cons _ r=>.cons q r
 | _,_,i+1,.cons h r=>.cons h (eZ.set q i r)
theorem eZ.take:∀{vs:List V} {ts:List T} (n:Nat),eZ K F vs ts→eZ K F (vs.take n) (ts.take n)
 | _,_,0,_=>.nil
 | _,_,_+1,.nil=>.nil
 | _,_,n+1,.cons h r=>.cons h (eZ.take n r)
theorem eZ.drop:∀{vs:List V} {ts:List T} (n:Nat),eZ K F vs ts→eZ K F (vs.drop n) (ts.drop n)
 | _,_,0,r=>r
 | _,_,_+1,.nil=>.nil
 | _,_,n+1,.cons _ r=>eZ.drop n r
theorem eZ.rep:∀{vs:List V} {ts:List T} (n:Nat),eZ K F vs ts→eZ K F (List.replicate n vs).flatten (List.replicate n ts).flatten
 | _,_,0,_=>.nil
 | _,_,n+1,r=>by rw[bN,bN,bO,bO];exact r.append (eZ.rep n r)
theorem eZ.ints:∀{vs:List V} {ns:List Int},eZ K F vs (ns.map T.int)→vs=ns.map V.int
 | _,[],.nil=>rfl
 | _,_::_,.cons h r=>by cases h;rw[eZ.ints r];rfl
theorem eZ.bls:∀{vs:List V} {ns:List Bool},eZ K F vs (ns.map T.bl)→vs=ns.map V.bl
 | _,[],.nil=>rfl
 | _,_::_,.cons h r=>by cases h;rw[eZ.bls r];rfl
theorem eZ.of_ints:∀(ns:List Int),eZ K F (ns.map V.int) (ns.map T.int)
 | []=>.nil
 | n::ns=>.cons (.int n) (eZ.of_ints ns)
theorem mY.look{f:Str}{t:T}:∀{fs:List (Str×V)} {ts:List (Str×T)},mY K F fs ts→ts.lookup f=some t→∃v,fs.lookup f=some v∧jT K F v t
 | _,_,.nil,e=>by cases e
 | _,_,.cons (x:=x) h r,e=>by
  by_cases hx:f=x
  ·subst hx;rw[cv] at e;cases e;exact⟨_,cv,h⟩
  ·have hb:(f == x)=false:=by simpa using hx
   rw[bV,hb] at e;obtain⟨v,e',h'⟩:=mY.look r e;exact⟨v,by rw[bV,hb];exact e',h'⟩
theorem mY.none_{f:Str}:∀{fs:List (Str×V)} {ts:List (Str×T)},mY K F fs ts→ts.lookup f=none→fs.lookup f=none
 | _,_,.nil,e=>rfl
 | _,_,.cons (x:=x) h r,e=>by
  by_cases hx:f=x
  ·subst hx;rw[cv] at e;cases e
  ·have hb:(f == x)=false:=by simpa using hx
   rw[bV,hb] at e ⊢;exact mY.none_ r e
end
structure Gr(F H F' H':Hp):Prop where
 ff:fv F F'
 fh:fv F' H'
 hh:fv H H'
 nw:∀a,F' a≠none→F a≠none∨H a=none∨∃xs,H a=some (.tup xs)
theorem Gr.refl{F H:Hp}(h:fv F H):Gr F H F H:=⟨.refl _,h,.refl _,fun _ h=>.inl h⟩
theorem fg{H H':Hp}(h:fv H H'){a:Addr}(e:H' a=none):H a=none:=by
 cases q:H a with
 | none=>rfl
 | some o=>rw[h a o q] at e;cases e
theorem Gr.trans{F H F' H' F'' H'':Hp}(g:Gr F H F' H')(g':Gr F' H' F'' H''):Gr F H F'' H'':=
 ⟨g.ff.trans g'.ff,g'.fh,g.hh.trans g'.hh,fun a ha=>by
  rcases g'.nw a ha with q | q | ⟨xs,q⟩
  ·exact g.nw a q
  ·exact .inr (.inl (fg g.hh q))
  ·cases z:H a with
   | none=>exact .inr (.inl rfl)
   | some o=>exact .inr (.inr ⟨xs,by rw[g.hh a o z] at q;exact q⟩)⟩
theorem Gr.new{F H:Hp}{p:Addr}{o:HO}(s:fv F H)(h:H p=none):Gr F H (ij F p o) (ij H p o):=by
 have hf:F p=none:=fg s h;refine⟨fun b u e=>?_,fun b u e=>?_,fun b u e=>?_,fun b hb=>?_⟩
 ·rw[eO (fH e hf)];exact e
 ·by_cases q:b=p
  ·subst q;rw[eP] at e ⊢;exact e
  ·rw[eO q] at e ⊢;exact s b u e
 ·rw[eO (fH e h)];exact e
 ·by_cases q:b=p
  ·subst q;exact .inr (.inl h)
  ·rw[eO q] at hb;exact .inl hb
theorem Gr.new'{F H:Hp}{p:Addr}{o:HO}(s:fv F H)(h:H p=none):Gr F H F (ij H p o):=by
 refine⟨.refl _,fun b u e=>?_,fun b u e=>?_,fun b hb=>.inl hb⟩
 ·rw[eO (fH (s b u e) h)];exact s b u e
 ·rw[eO (fH e h)];exact e
theorem Gr.take{F0 H0 F H:Hp}{p:Addr}{o:HO}(g:Gr F0 H0 F H)(h:H p=some o)(hf:F p=none)(h0:H0 p=none):Gr F0 H0 (ij F p o) H:=by
 refine⟨fun b u e=>?_,fun b u e=>?_,g.hh,fun b hb=>?_⟩
 ·rw[eO (fH (g.ff b u e) hf)];exact g.ff b u e
 ·by_cases q:b=p
  ·subst q;rw[eP] at e;rw[←e];exact h
  ·rw[eO q] at e;exact g.fh b u e
 ·by_cases q:b=p
  ·subst q;exact .inr (.inl h0)
  ·rw[eO q] at hb;exact g.nw b hb
theorem kC{F:Hp}{p:Addr}{o:HO}(hf:F p=none):fv F (ij F p o):=fun b u e=>by rw[eO (fH e hf)];exact e
noncomputable abbrev Pe:=List (Option T)
section
variable (K:W.Frag)
def jW(F:Hp)(σ:St)(ρ:Pe):Prop:=∀(i:Nat) (t:T),ρ[i]? = some (some t)→∃v,σ[i]? = some (some v)∧jT K F v t
theorem jW.mono{K:W.Frag}{F F':Hp}{σ:St}{ρ:Pe}(h:jW K F σ ρ)(s:fv F F'):jW K F' σ ρ:=fun i t e=>let ⟨v,a,b⟩:=h i t e;⟨v,a,b.mono s⟩
def QE(E:XK)(C:Addr)(n:Option Int)(F H:Hp):Prop:=match n with
 | none=>E (.ref C) none H
 | some i=>∀dx,F dx=some (.xd [("at",.int i)])→E (.ref C) (some dx) H
def kE(E:XK)(F H:Hp)(C:Addr)(n:Option Int):Prop:=∀F' H',Gr F H F' H'→QE E C n F' H'
theorem kE.go{E:XK}{F H F1 H1:Hp}{C:Addr}{n:Option Int}(h:kE E F H C n)(g:Gr F H F1 H1):kE E F1 H1 C n:=fun F' H' g'=>h F' H' (g.trans g')
def kV(F H:Hp)(Q:VK)(t:T):Prop:=∀v F' H',Gr F H F' H'→jT K F' v t→Q v H'
def kB(F H:Hp)(Q:Bool→Hp→Prop)(b:Bool):Prop:=∀F' H',Gr F H F' H'→Q b H'
def kA(F H:Hp)(Q:List V→Hp→Prop)(ts:List T):Prop:=∀vs F' H',Gr F H F' H'→eZ K F' vs ts→Q vs H'
def kF(F H:Hp)(Q:VK)(ts:List T):Prop:=∀l vs F' H',Gr F H F' H'→H l=none→F' l=none→H' l=some (.lst vs)→eZ K F' vs ts→Q (.ref l) H'
def ME(E:XK)(t:TE)(f:Pe→M T):Prop:=∀F H σ ρ Q,fv F H→jW K F σ ρ→(f ρ).res (kV K F H Q) (kE E F H)→t σ H Q
def MT(E:XK)(t:TT)(f:Pe→M Bool):Prop:=∀F H σ ρ Q,fv F H→jW K F σ ρ→(f ρ).res (kB F H Q) (kE E F H)→t σ H Q
def MA(E:XK)(t:TA)(f:Pe→M (List T)):Prop:=∀F H σ ρ Q,fv F H→jW K F σ ρ→(f ρ).res (kA K F H Q) (kE E F H)→t σ H Q
def MF(E:XK)(t:TE)(f:Pe→M (List T)):Prop:=∀F H σ ρ Q,fv F H→jW K F σ ρ→(f ρ).res (kF K F H Q) (kE E F H)→t σ H Q
end
section
variable {K:W.Frag}{E:XK}{t u ta tb:TE}{f g fa fb:Pe→M T}
theorem kV.go{F H F1 H1:Hp}{Q:VK}{t:T}(h:kV K F H Q t)(g:Gr F H F1 H1):kV K F1 H1 Q t:=fun v F' H' g' r=>h v F' H' (g.trans g') r
theorem kB.go{F H F1 H1:Hp}{Q:Bool→Hp→Prop}{t:Bool}(h:kB F H Q t)(g:Gr F H F1 H1):kB F1 H1 Q t:=fun F' H' g'=>h F' H' (g.trans g')
theorem kF.go{F H F1 H1:Hp}{Q:VK}{t:List T}(h:kF K F H Q t)(g:Gr F H F1 H1):kF K F1 H1 Q t:=fun l vs F' H' g' a b c d=>h l vs F' H' (g.trans g') (fg g.hh a) b c d
theorem kV.now{F H:Hp}{Q:VK}{t:T}{v:V}(h:kV K F H Q t)(s:fv F H)(r:jT K F v t):Q v H:=h v F H (.refl s) r
theorem kF.of{F H:Hp}{Q:VK}{ts:List T}(h:kV K F H Q (.lst ts)):kF K F H Q ts:=fun l vs F' H' g hl hf hl' r=>h (.ref l) (ij F' l (.lst vs)) H' (g.take hl' hf hl) (.lst eP (r.mono (kC hf)))
theorem MF.me{f:Pe→M (List T)}(h:MF K E t f):ME K E t (fun ρ=>(f ρ).bind fun ts=>.ok (.lst ts)):=fun F H σ ρ Q s V r=>h F H σ ρ Q s V ((M.res.unb r).mono (fun ts q=>kF.of q) fun _ _ z=>z)
theorem ME.run{F H:Hp}{σ:St}{ρ:Pe}{Q:VK}{α:Type}{k:T→M α}{P:α→Prop}(h:ME K E t f)(s:fv F H)(v:jW K F σ ρ)(r:((f ρ).bind k).res P (kE E F H))
  (hk:∀x w F' H',Gr F H F' H'→jT K F' w x→(k x).res P (kE E F' H')→Q w H'):t σ H Q:=
 h F H σ ρ Q s v ((M.res.unb r).mono (fun x q w F' H' g rp=>hk x w F' H' g rp (q.mono (fun _ z=>z) fun _ _ z=>z.go g)) fun _ _ z=>z)
theorem MT.run{t:TT}{f:Pe→M Bool}{F H:Hp}{σ:St}{ρ:Pe}{Q:Bool→Hp→Prop}{α:Type}{k:Bool→M α}{P:α→Prop}(h:MT K E t f)(s:fv F H)(v:jW K F σ ρ)(r:((f ρ).bind k).res P (kE E F H))
  (hk:∀x F' H',Gr F H F' H'→(k x).res P (kE E F' H')→Q x H'):t σ H Q:=
 h F H σ ρ Q s v ((M.res.unb r).mono (fun x q F' H' g=>hk x F' H' g (q.mono (fun _ z=>z) fun _ _ z=>z.go g)) fun _ _ z=>z)
theorem MA.run{t:TA}{f:Pe→M (List T)}{F H:Hp}{σ:St}{ρ:Pe}{Q:List V→Hp→Prop}{α:Type}{k:List T→M α}{P:α→Prop}(h:MA K E t f)(s:fv F H)(v:jW K F σ ρ)(r:((f ρ).bind k).res P (kE E F H))
  (hk:∀x w F' H',Gr F H F' H'→eZ K F' w x→(k x).res P (kE E F' H')→Q w H'):t σ H Q:=
 h F H σ ρ Q s v ((M.res.unb r).mono (fun x q w F' H' g rp=>hk x w F' H' g rp (q.mono (fun _ z=>z) fun _ _ z=>z.go g)) fun _ _ z=>z)
@[simp] noncomputable def dQ(i:Nat):Pe→M T:=fun ρ=>match ρ[i]? with
 | some (some t)=>.ok t
 | _=>.bad
theorem LV{i:Nat}:ME K E (lO i) (dQ i):=fun F H σ ρ Q s V r=>by
 unfold dQ at r;split at r
 ·rename_i t e;obtain⟨v,e',h⟩:=V i t e;exact⟨v,e',r.now s h⟩
 ·exact r.elim
@[simp] noncomputable def cM(t:T):Pe→M T:=fun _=>.ok t
theorem HI{v:V}{t:T}(h:∀F,jT K F v t):ME K E (tC v) (cM t):=fun F H σ ρ Q s V r=>kV.now r s (h F)
@[simp] noncomputable def eC(o:T→T→M T)(fa fb:Pe→M T):Pe→M T:=fun ρ=>(fa ρ).bind fun x=>(fb ρ).bind fun y=>o x y
structure MR(K:W.Frag)(r:R2)(o:T→T→M T):Prop where
 ne:∀x y,M.NoE (o x y)
 ok:∀F H v w x y Q,fv F H→jT K F v x→jT K F w y→(o x y).res (kV K F H Q) (fun _ _=>False)→r v w H Q
theorem DK{r:R2}{o:T→T→M T}(hr:MR K r o)(ha:ME K E ta fa)(hb:ME K E tb fb):ME K E (wg r ta tb) (eC o fa fb):=fun F H σ ρ Q s V q=>by refine ha.run s V q fun x v F1 H1 g1 r1 q1=>?_;refine hb.run (P:=kV K F H Q) g1.fh (V.mono g1.ff) q1 fun y w F2 H2 g2 r2 q2=>?_;exact hr.ok F2 H2 v w x y Q g2.fh (r1.mono g2.ff) r2 ((q2.ne (hr.ne x y)).mono (fun _ z=>z.go (g1.trans g2)) fun _ _ z=>z)
noncomputable def jR(C:Int→Int→Bool)(g:Int→Int→T):T→T→M T
 | .int i,.int j=>if C i j then .ok (g i j) else .bad
 | _,_=>.bad
theorem zZ{C:Int→Int→Bool}{g:Int→Int→T}(x y:T):M.NoE (jR C g x y):=fun C' n=>by
 unfold jR;split
 ·split<;>exact fun z=>nomatch z
 ·exact fun z=>nomatch z
theorem yQ{C:Int→Int→Prop}{Cb:Int→Int→Bool}{g:Int→Int→V}{gt:Int→Int→T}(hc:∀i j,Cb i j=true→C i j)(hg:∀F i j,jT K F (g i j) (gt i j)):MR K (rI C g) (jR Cb gt):=⟨zZ,fun F H v w x y Q s a b q=>by
  cases a<;>cases b<;>first
    | exact q.elim
    | (rename_i i j
       unfold jR at q
       by_cases h:Cb i j=true
       · simp only[h,if_true] at q
         exact⟨i,j,rfl,rfl,hc i j h,kV.now q s (hg F i j)⟩
       · simp only[h] at q
         exact q.elim)⟩
theorem q9{g:Int→Int→V}{gt:Int→Int→T}(hg:∀F i j,jT K F (g i j) (gt i j)):MR K (Ci g) (jR (fun _ _=>true) gt):=⟨zZ,fun F H v w x y Q s a b q=>by
 cases a<;>cases b<;>first
  | exact q.elim
  | exact⟨_,_,rfl,rfl,kV.now q s (hg F _ _)⟩⟩
@[simp] noncomputable def wj(o:Int→T)(fa:Pe→M T):Pe→M T:=fun ρ=>(fa ρ).bind fun x=>match x with
 | .int i=>.ok (o i)
 | _=>.bad
theorem OZ{g:Int→V}{gt:Int→T}(hg:∀F i,jT K F (g i) (gt i))(ha:ME K E ta fa):ME K E (Qd (rU g) ta) (wj gt fa):=fun F H σ ρ Q s V q=>by
 refine ha.run s V q fun x v F1 H1 g1 r1 q1=>?_;cases r1<;>first
  | exact q1.elim
  | exact⟨_,rfl,(q1:kV K F H Q _) _ F1 H1 g1 (hg F1 _)⟩
@[simp] noncomputable def fN(fa:Pe→M T):Pe→M Bool:=fun ρ=>(fa ρ).bind fun x=>match x with
 | .bl b=>.ok b
 | _=>.bad
theorem G6(ha:ME K E ta fa):MT K E (tB ta) (fN fa):=fun F H σ ρ Q s V q=>by
 refine ha.run s V q fun x v F1 H1 g1 r1 q1=>?_;cases r1<;>first
  | exact q1.elim
  | exact⟨_,rfl,(q1:kB F H Q _) F1 H1 g1⟩
theorem JX(ha:ME K E ta fa):MT K E (zN ta) (fN fa):=G6 ha
section
variable {c d:TT}{fc fd:Pe→M Bool}
@[simp] noncomputable def kJ(fc fd:Pe→M Bool):Pe→M Bool:=fun ρ=>(fc ρ).bind fun b=>if b then fd ρ else .ok false
@[simp] noncomputable def ud(fc fd:Pe→M Bool):Pe→M Bool:=fun ρ=>(fc ρ).bind fun b=>if b then .ok true else fd ρ
@[simp] noncomputable def j8(fc:Pe→M Bool):Pe→M Bool:=fun ρ=>(fc ρ).bind fun b=>.ok (!b)
theorem LK(hc:MT K E c fc)(hd:MT K E d fd):MT K E (Nh c d) (kJ fc fd):=fun F H σ ρ Q s V q=>by
 refine hc.run s V q fun b F1 H1 g1 q1=>?_;cases b with
 | true=>rw[aP rfl];exact hd F1 H1 σ ρ Q g1.fh (V.mono g1.ff) (q1.mono (fun _ z=>z.go g1) fun _ _ z=>z)
 | false=>rw[aQ aG];exact (q1:kB F H Q false) F1 H1 g1
theorem Ov(hc:MT K E c fc)(hd:MT K E d fd):MT K E (Qk c d) (ud fc fd):=fun F H σ ρ Q s V q=>by
 refine hc.run s V q fun b F1 H1 g1 q1=>?_;cases b with
 | true=>rw[aP rfl];exact (q1:kB F H Q true) F1 H1 g1
 | false=>rw[aQ aG];exact hd F1 H1 σ ρ Q g1.fh (V.mono g1.ff) (q1.mono (fun _ z=>z.go g1) fun _ _ z=>z)
theorem Nk(hc:MT K E c fc):MT K E (Mz c) (j8 fc):=fun F H σ ρ Q s V q=>by refine hc.run s V q fun b F1 H1 g1 q1=>?_;exact (q1:kB F H Q (!b)) F1 H1 g1
@[simp] noncomputable def PH(fc:Pe→M Bool)(fa fb:Pe→M T):Pe→M T:=fun ρ=>(fc ρ).bind fun b=>if b then fa ρ else fb ρ
theorem NU(hc:MT K E c fc)(ha:ME K E ta fa)(hb:ME K E tb fb):ME K E (PY c ta tb) (PH fc fa fb):=fun F H σ ρ Q s V q=>by
 refine hc.run s V q fun b F1 H1 g1 q1=>?_;cases b with
 | true=>rw[aP rfl];exact ha F1 H1 σ ρ Q g1.fh (V.mono g1.ff) (q1.mono (fun _ z=>z.go g1) fun _ _ z=>z)
 | false=>rw[aQ aG];exact hb F1 H1 σ ρ Q g1.fh (V.mono g1.ff) (q1.mono (fun _ z=>z.go g1) fun _ _ z=>z)
end
@[simp] noncomputable def tT(fa fb:Pe→M T):Pe→M T:=fun ρ=>(fN fa ρ).bind fun b=>if b then fb ρ else .ok (.bl false)
@[simp] noncomputable def MD(fa fb:Pe→M T):Pe→M T:=fun ρ=>(fN fa ρ).bind fun b=>if b then .ok (.bl true) else fb ρ
@[simp] noncomputable def HN(fa:Pe→M T):Pe→M T:=fun ρ=>(fN fa ρ).bind fun b=>.ok (.bl (!b))
theorem Kl(ha:ME K E ta fa)(hb:ME K E tb fb):ME K E (IC ta tb) (tT fa fb):=fun F H σ ρ Q s V q=>by
 refine (G6 ha).run (Q:=fun c H1=>if c=true then tb σ H1 Q else Q (.bl false) H1) s V q fun b F1 H1 g1 q1=>?_;cases b with
 | true=>rw[aP rfl];exact hb F1 H1 σ ρ Q g1.fh (V.mono g1.ff) (q1.mono (fun _ z=>z.go g1) fun _ _ z=>z)
 | false=>rw[aQ aG];exact (q1:kV K F H Q _) _ F1 H1 g1 (.bl _)
theorem Nl(ha:ME K E ta fa)(hb:ME K E tb fb):ME K E (Mo ta tb) (MD fa fb):=fun F H σ ρ Q s V q=>by
 refine (G6 ha).run (Q:=fun c H1=>if c=true then Q (.bl true) H1 else tb σ H1 Q) s V q fun b F1 H1 g1 q1=>?_;cases b with
 | true=>rw[aP rfl];exact (q1:kV K F H Q _) _ F1 H1 g1 (.bl _)
 | false=>rw[aQ aG];exact hb F1 H1 σ ρ Q g1.fh (V.mono g1.ff) (q1.mono (fun _ z=>z.go g1) fun _ _ z=>z)
theorem Kg(ha:ME K E ta fa):ME K E (HS ta) (HN fa):=fun F H σ ρ Q s V q=>by refine (G6 ha).run (Q:=fun c H1=>Q (.bl (!c)) H1) s V q fun b F1 H1 g1 q1=>?_;exact (q1:kV K F H Q _) _ F1 H1 g1 (.bl _)
@[simp] noncomputable def dP(fa:Pe→M T)(fr:Pe→M (List T)):Pe→M (List T):=fun ρ=>(fa ρ).bind fun x=>(fr ρ).bind fun xs=>.ok (x::xs)
@[simp] noncomputable def dW:Pe→M (List T):=fun _=>.ok []
theorem B2:MA K E tW dW:=fun F H σ ρ Q s V q=>(q:kA K F H Q []) [] F H (.refl s) .nil
theorem Ju{tr:TA}{fr:Pe→M (List T)}(ha:ME K E ta fa)(hr:MA K E tr fr):MA K E (pX ta tr) (dP fa fr):=fun F H σ ρ Q s V q=>by refine ha.run s V q fun x v F1 H1 g1 r1 q1=>?_;refine hr.run (P:=kA K F H Q) g1.fh (V.mono g1.ff) q1 fun xs ws F2 H2 g2 r2 q2=>?_;exact (q2:kA K F H Q (x::xs)) (v::ws) F2 H2 (g1.trans g2) (.cons (r1.mono g2.ff) r2)
@[simp] noncomputable def vT(ts:List T):M (List T):=if ts.length≤sizeLine then .ok ts else .bad
@[simp] noncomputable def gX(fr:Pe→M (List T)):Pe→M T:=fun ρ=>(fr ρ).bind fun ts=>(vT ts).bind fun ts=>.ok (.tup ts)
@[simp] noncomputable def lstM(fr:Pe→M (List T)):Pe→M (List T):=fun ρ=>(fr ρ).bind vT
theorem Ms{tr:TA}{fr:Pe→M (List T)}(hr:MA K E tr fr):ME K E (Ln tr) (gX fr):=fun F H σ ρ Q s V q=>by
 refine hr.run s V q fun xs ws F1 H1 g1 r1 q1=>?_;unfold vT at q1;by_cases h:xs.length≤sizeLine
 ·rw[aP h] at q1;refine⟨by rw[r1.length];exact h,fun p hp=>?_⟩;exact (q1:kV K F H Q (.tup xs)) (.ref p) _ _ (g1.trans (.new g1.fh hp)) (.tup eP (r1.mono (Gr.new g1.fh hp).ff))
 ·rw[aQ h] at q1;exact q1.elim
theorem LS{tr:TA}{fr:Pe→M (List T)}(hr:MA K E tr fr):MF K E (Mx tr) (lstM fr):=fun F H σ ρ Q s V q=>by
 refine hr.run s V q fun xs ws F1 H1 g1 r1 q1=>?_;unfold vT at q1;by_cases h:xs.length≤sizeLine
 ·rw[aP h] at q1;refine⟨by rw[r1.length];exact h,fun p hp=>?_⟩;exact (q1:kF K F H Q xs) p ws F1 _ (g1.trans (.new' g1.fh hp)) (fg g1.hh hp) (fg g1.fh hp) eP r1
 ·rw[aQ h] at q1;exact q1.elim
end
end L3
namespace L3
open PySem L2
inductive W where
 | p (t:T) | o (ts:List T) | d (kvs:List (List Int×T))
noncomputable abbrev En:=List (Option W)
@[simp] noncomputable def Qe:Option W→Option T
 | some (.p t)=>some t
 | _=>none
@[simp] noncomputable def Qg:Option W→Option T
 | some (.p t)=>some t
 | some (.o ts)=>some (.lst ts)
 | _=>none
@[simp] noncomputable def kf(ρ:En):Pe:=ρ.map Qe
@[simp] noncomputable def vw(ρ:En):Pe:=ρ.map Qg
mutual
@[simp] noncomputable def lf:T→Bool
 | .lst _=>false
 | .scr _=>false
 | .tup ts=>FA ts
 | .obj _ fs=>PM fs
 | _=>true
@[simp] noncomputable def FA:List T→Bool
 | []=>true
 | t::ts=>lf t&&FA ts
noncomputable def PM:List (Str×T)→Bool
 | []=>true
 | t::ts=>lf t.2&&PM ts
end
structure Fz where
 hp:Hp
 lt:List (Nat×Addr×List V)
instance:Coe Fz Hp:=⟨Fz.hp⟩
structure Lv(H0 F H:Hp)(σ:St)(ρ:En)(e:Nat×Addr×List V):Prop where
 h:H e.2.1=some (.lst e.2.2)
 f:F e.2.1=none
 z:H0 e.2.1=none
 d:∀(i:Nat) (ts:List T),ρ[i]? = some (some (.o ts))→σ[i]?≠some (some (.ref e.2.1))
def DR(K:W.Frag)(F:Hp)(xs:List (List kr×V))(kvs:List (List Int×T)):Prop:=Paired (fun (p:List kr×V) (q:List Int×T)=>p.1=q.1.map Sum.inl∧jT K F p.2 q.2) xs kvs
theorem DR.mono{K:W.Frag}{F F':Hp}(s:fv F F'){xs:List (List kr×V)}{kvs:List (List Int×T)}(h:DR K F xs kvs):DR K F' xs kvs:=Paired.imp' (fun _ _ q=>⟨q.1,q.2.mono s⟩) h
structure Dv(K:W.Frag)(H0 F H:Hp)(σ:St)(ρ:En):Prop where
 at_:∀(i:Nat) kvs,ρ[i]? = some (some (.d kvs))→∃a,σ[i]? = some (some (.ref a))∧F a=none∧H0 a=none∧∃xs,H a=some (.dT xs)∧DR K F xs kvs
 dj:∀(i j:Nat) kvs kvs',ρ[i]? = some (some (.d kvs))→ρ[j]? = some (some (.d kvs'))→i≠j→σ[i]?≠σ[j]?
theorem Ft{α:Type}{l:List α}{i:Nat}{x y:α}(h:(l.set i x)[i]? = some y):y=x:=by
 rw[List.getElem?_set] at h;simp only[if_true] at h;split at h
 ·exact (Option.some.inj h).symm
 ·cases h
theorem DU{α:Type}{l:List α}{i j:Nat}{x y:α}(h:(l.set i x)[j]? = some y):(j=i∧y=x)∨(j≠i∧l[j]? = some y):=by
 by_cases e:j=i
 ·subst e;exact .inl ⟨rfl,Ft h⟩
 ·rw[aq (fun z=>e z.symm)] at h;exact .inr ⟨e,h⟩
theorem Dv.heap{K:W.Frag}{H0 F H F' H':Hp}{σ:St}{ρ:En}(d:Dv K H0 F H σ ρ)(s:fv F F')(h:∀a xs,H a=some (.dT xs)→F a=none→F' a=none∧H' a=some (.dT xs)):Dv K H0 F' H' σ ρ:=⟨fun i kvs e=>let ⟨a,e1,e2,e3,xs,e4,e5⟩:=d.at_ i kvs e;let ⟨h1,h2⟩:=h a xs e4 e2;⟨a,e1,h1,e3,xs,h2,e5.mono s⟩,d.dj⟩
theorem Dv.set{K:W.Frag}{H0 F H:Hp}{σ:St}{ρ:En}(d:Dv K H0 F H σ ρ){i:Nat}{v:Option V}{w:Option W}(hw:∀kvs,w≠some (.d kvs)):Dv K H0 F H (σ.set i v) (ρ.set i w):=by
 refine⟨fun j kvs e=>?_,fun j k kvs kvs' e e' hjk=>?_⟩
 ·rcases DU e with⟨rfl,q⟩ | ⟨hj,q⟩
  ·exact absurd q.symm (hw kvs)
  ·obtain⟨a,e1,r⟩:=d.at_ j kvs q;exact⟨a,by rw[aq (fun z=>hj z.symm)];exact e1,r⟩
 ·rcases DU e with⟨rfl,q⟩ | ⟨hj,q⟩
  ·exact absurd q.symm (hw kvs)
  ·rcases DU e' with⟨rfl,q'⟩ | ⟨hk,q'⟩
   ·exact absurd q'.symm (hw kvs')
   ·rw[aq (fun z=>hj z.symm),aq (fun z=>hk z.symm)];exact d.dj j k kvs kvs' q q' hjk
theorem Dv.setR{K:W.Frag}{H0 F H:Hp}{σ:St}{ρ:En}(d:Dv K H0 F H σ ρ){i:Nat}{w:Option W}(hw:∀kvs,w≠some (.d kvs)):Dv K H0 F H σ (ρ.set i w):=by
 refine⟨fun j kvs e=>?_,fun j k kvs kvs' e e' hjk=>?_⟩
 ·rcases DU e with⟨rfl,q⟩ | ⟨hj,q⟩
  ·exact absurd q.symm (hw kvs)
  ·exact d.at_ j kvs q
 ·rcases DU e with⟨rfl,q⟩ | ⟨hj,q⟩
  ·exact absurd q.symm (hw kvs)
  ·rcases DU e' with⟨rfl,q'⟩ | ⟨hk,q'⟩
   ·exact absurd q'.symm (hw kvs')
   ·exact d.dj j k kvs kvs' q q' hjk
structure Sr(K:W.Frag)(F0:Fz)(H0 F H:Hp)(σ:St)(ρ:En):Prop where
 gr:Gr F0.hp H0 F H
 len:σ.length=ρ.length
 pv:∀(i:Nat) (t:T),ρ[i]? = some (some (.p t))→∃v,σ[i]? = some (some v)∧jT K F v t
 ov:∃ad:Nat→Addr,(∀(i:Nat) (ts:List T),ρ[i]? = some (some (.o ts))→σ[i]? = some (some (.ref (ad i)))∧F (ad i)=none∧H0 (ad i)=none∧∃vs,H (ad i)=some (.lst vs)∧eZ K F vs ts)∧
  ∀(i j:Nat) (ts us:List T),ρ[i]? = some (some (.o ts))→ρ[j]? = some (some (.o us))→i≠j→ad i≠ad j
 lv:∀e∈F0.lt,Lv H0 F H σ ρ e
 sl:∀(j:Nat) (l:Addr) (vs:List V),F0.lt.lookup j=some (l,vs)→ρ[j]? = some none→σ[j]? = some (some (.ref l))
 dv:Dv K H0 F H σ ρ
section
variable {K:W.Frag}{F0:Fz}{H0 F H F' H':Hp}{σ:St}{ρ:En}
theorem Sr.vars(r:Sr K F0 H0 F H σ ρ):jW K F σ (kf ρ):=fun i t e=>by
 unfold kf at e;rw[av] at e;cases q:ρ[i]? with
 | none=>rw[q] at e;cases e
 | some w=>
  rw[q] at e;cases w with
  | none=>cases e
  | some w=>
   cases w with
   | p t'=>cases e;exact r.pv i _ q
   | o ts=>cases e
   | d kvs=>cases e
theorem Sr.grow(r:Sr K F0 H0 F H σ ρ)(g:Gr F H F' H'):Sr K F0 H0 F' H' σ ρ:=by
 obtain⟨ad,h1,h2⟩:=r.ov;refine⟨r.gr.trans g,r.len,fun i t e=>?_,⟨ad,fun i ts e=>?_,h2⟩,fun e he=>?_,r.sl,r.dv.heap g.ff fun a xs ha fa=>⟨?_,g.hh _ _ ha⟩⟩
 ·obtain⟨v,a,b⟩:=r.pv i t e;exact⟨v,a,b.mono g.ff⟩
 ·obtain⟨a,b,c,vs,d,q⟩:=h1 i ts e;refine⟨a,?_,c,vs,g.hh _ _ d,q.mono g.ff⟩;cases z:F' (ad i) with
  | none=>rfl
  | some u=>
   rcases g.nw (ad i) (by rw[z];exact fun w=>nomatch w) with y | y | ⟨_,y⟩
   ·exact absurd b y
   ·rw[d] at y;cases y
   ·rw[d] at y;cases y
 ·have L:=r.lv e he;refine⟨g.hh _ _ L.h,?_,L.z,L.d⟩;cases z:F' e.2.1 with
  | none=>rfl
  | some u=>
   rcases g.nw e.2.1 (by rw[z];exact fun w=>nomatch w) with y | y | ⟨_,y⟩
   ·exact absurd L.f y
   ·rw[L.h] at y;cases y
   ·rw[L.h] at y;cases y
 ·cases z:F' a with
  | none=>rfl
  | some u=>
   rcases g.nw a (by rw[z];exact fun w=>nomatch w) with y | y | ⟨_,y⟩
   ·exact absurd fa y
   ·rw[ha] at y;cases y
   ·rw[ha] at y;cases y
theorem Sr.lend(r:Sr K F0 H0 F H σ ρ):∃Fl,fv F Fl∧Gr F0.hp H0 Fl H∧jW K Fl σ (vw ρ)∧
  (∀F' H',Gr Fl H F' H'→∃Fb,Gr F H Fb H'∧fv F Fb∧fv Fb F'∧(∀a,F' a≠none→Fb a=none→∃xs,F' a=some (.lst xs))∧(∀a,F' a≠none→Fb a=none→H a≠none)):=by
 classical
 obtain⟨ad,h1,h2⟩:=r.ov;let isOwn:Addr→Prop:=fun a=>∃i ts,ρ[i]? = some (some (.o ts))∧ad i=a;let Fl:Hp:=fun a=>if isOwn a then H a else F a
 have hs:fv F Fl:=fun a o e=>by
  have:¬isOwn a:=by rintro⟨i,ts,q,rfl⟩;obtain⟨_,b,_⟩:=h1 i ts q;rw[b] at e;cases e
  show (if isOwn a then H a else F a)=some o;rw[aQ this];exact e
 have hl:fv Fl H:=fun a o e=>by
  by_cases q:isOwn a
  ·have e':(if isOwn a then H a else F a)=some o:=e;rw[aP q] at e';exact e'
  ·have e':(if isOwn a then H a else F a)=some o:=e;rw[aQ q] at e';exact r.gr.fh a o e'
 have ow:∀a,isOwn a→Fl a=H a:=fun a q=>aP q;have nw:∀a,¬isOwn a→Fl a=F a:=fun a q=>aQ q;refine⟨Fl,hs,⟨r.gr.ff.trans hs,hl,r.gr.hh,fun a ha=>?_⟩,fun i t e=>?_,fun F' H' g=>?_⟩
 ·by_cases q:isOwn a
  ·obtain⟨i,ts,e,rfl⟩:=q;exact .inr (.inl (h1 i ts e).2.2.1)
  ·rw[nw a q] at ha;exact r.gr.nw a ha
 ·unfold vw at e;rw[av] at e;cases q:ρ[i]? with
  | none=>rw[q] at e;cases e
  | some w=>
   rw[q] at e;cases w with
   | none=>cases e
   | some w=>
    cases w with
    | p t'=>cases e;obtain⟨v,a,b⟩:=r.pv i _ q;exact⟨v,a,b.mono hs⟩
    | o ts=>cases e;obtain⟨a,b,c,vs,d,z⟩:=h1 i ts q;exact⟨_,a,.lst (by rw[ow _ ⟨i,ts,q,rfl⟩];exact d) (z.mono hs)⟩
    | d kvs=>cases e
 ·let Fb:Hp:=fun a=>if isOwn a then none else F' a
  have fb:∀a,¬isOwn a→Fb a=F' a:=fun a q=>aQ q;have fo:∀a,isOwn a→Fb a=none:=fun a q=>aP q;have s1:fv F Fb:=fun a o e=>by
   have:¬isOwn a:=by rintro⟨i,ts,q,rfl⟩;obtain⟨_,b,_⟩:=h1 i ts q;rw[b] at e;cases e
   rw[fb a this];exact g.ff _ _ (hs _ _ e)
  have s2:fv Fb F':=fun a o e=>by
   by_cases q:isOwn a
   ·rw[fo a q] at e;cases e
   ·rw[fb a q] at e;exact e
  refine⟨Fb,⟨s1,s2.trans g.fh,g.hh,fun a ha=>?_⟩,s1,s2,fun a ha hb=>?_,fun a ha hb=>?_⟩
  ·by_cases q:isOwn a
   ·exact absurd (fo a q) ha
   ·rw[fb a q] at ha;rcases g.nw a ha with z | z
    ·rw[nw a q] at z;exact .inl z
    ·exact .inr z
  ·by_cases q:isOwn a
   ·obtain⟨i,ts,e,rfl⟩:=id q;obtain⟨_,_,_,vs,d,_⟩:=h1 i ts e;exact⟨vs,g.ff _ _ (by rw[ow _ q];exact d)⟩
   ·rw[fb a q] at hb;exact absurd hb ha
  ·by_cases q:isOwn a
   ·obtain⟨i,ts,e,rfl⟩:=id q;obtain⟨_,_,_,vs,d,_⟩:=h1 i ts e;rw[d];exact fun z=>nomatch z
   ·rw[fb a q] at hb;exact absurd hb ha
mutual
theorem jT.less{Fb:Hp}(sb:fv Fb F)(h:∀a,F a≠none→Fb a=none→∃xs,F a=some (.lst xs)):∀{v:V} {t:T},jT K F v t→lf t=true→jT K Fb v t
 | _,_,.non,_=>.non
 | _,_,.bl b,_=>.bl b
 | _,_,.int i,_=>.int i
 | _,_,.str x,_=>.str x
 | _,_,.tup (a:=a) e r,l=>by
  refine .tup ?_ (eZ.less sb h r (by simpa[lf] using l));cases q:Fb a with
  | none=>obtain⟨xs,z⟩:=h a (by rw[e];exact fun z=>nomatch z) q;rw[e] at z;cases z
  | some u=>rw[←e];exact (sb a u q).symm
 | _,_,.lst _ _,l=>by simp[lf] at l
 | _,_,.scr _,l=>by simp[lf] at l
 | _,_,.obj (a:=a) (dx:=dx) e r,l=>by
  refine .obj (dx:=dx) ?_ (mY.less sb h r (by simpa[lf] using l));cases q:Fb a with
  | none=>obtain⟨xs,z⟩:=h a (by rw[e];exact fun z=>nomatch z) q;rw[e] at z;cases z
  | some u=>rw[←e];exact (sb a u q).symm
 | _,_,.emp (a:=a) e,l=>by
  refine .emp ?_;cases q:Fb a with
  | none=>obtain⟨xs,z⟩:=h a (by rw[e];exact fun z=>nomatch z) q;rw[e] at z;cases z
  | some u=>rw[←e];exact (sb a u q).symm
theorem eZ.less{Fb:Hp}(sb:fv Fb F)(h:∀a,F a≠none→Fb a=none→∃xs,F a=some (.lst xs)):∀{vs:List V} {ts:List T},eZ K F vs ts→FA ts=true→eZ K Fb vs ts
 | _,_,.nil,_=>.nil
 | _,_,.cons q r,l=>by rw[FA,bJ] at l;exact .cons (jT.less sb h q l.1) (eZ.less sb h r l.2)
theorem mY.less{Fb:Hp}(sb:fv Fb F)(h:∀a,F a≠none→Fb a=none→∃xs,F a=some (.lst xs)):∀{vs:List (Str×V)} {ts:List (Str×T)},mY K F vs ts→PM ts=true→mY K Fb vs ts
 | _,_,.nil,_=>.nil
 | _,_,.cons q r,l=>by rw[PM,bJ] at l;exact .cons (jT.less sb h q l.1) (mY.less sb h r l.2)
end
end
end L3
namespace L3
open PySem L2
inductive O where
 | bad | nx (ρ:En) | rt (t:T) | rf (ts:List T) | bk (ρ:En) | ct (ρ:En) | er (C:Addr) (n:Option Int)
section
variable (K:W.Frag)(E:XK)
def kN(F0:Fz)(H0 F:Hp)(D:St→Hp→Prop)(ρ:En):Prop:=∀F' H' σ',fv F F'→Sr K F0 H0 F' H' σ' ρ→D σ' H'
def O.res(o:O)(F0:Fz)(H0 F:Hp)(D:yz):Prop:=match o with
 | .bad=>False
 | .nx ρ=>kN K F0 H0 F D.nx ρ
 | .rt t=>kV K F0.hp H0 D.rt t
 | .rf ts=>kF K F0.hp H0 D.rt ts
 | .bk ρ=>kN K F0 H0 F D.bk ρ
 | .ct ρ=>kN K F0 H0 F D.ct ρ
 | .er C n=>kE E F0.hp H0 C n
def MS(t:TS)(g:En→O):Prop:=∀F0 H0 F H σ ρ D,Sr K F0 H0 F H σ ρ→(g ρ).res K E F0 H0 F D→t D σ H
end
section
variable {K:W.Frag}{E:XK}{t u ta tb:TE}{f fa fb:Pe→M T}{F0:Fz}{H0 F H F1 H1:Hp}{σ:St}{ρ:En}{D:yz}
theorem kN.go{N:St→Hp→Prop}(h:kN K F0 H0 F N ρ)(s:fv F F1):kN K F0 H0 F1 N ρ:=fun F' H' σ' s' r=>h F' H' σ' (s.trans s') r
theorem O.res.go{o:O}(h:o.res K E F0 H0 F D)(s:fv F F1):o.res K E F0 H0 F1 D:=by
 cases o with
 | bad=>exact h
 | nx ρ=>exact kN.go h s
 | rt t=>exact h
 | rf ts=>exact h
 | bk ρ=>exact kN.go h s
 | ct ρ=>exact kN.go h s
 | er C n=>exact h
noncomputable def O.of{α:Type}(m:M α)(k:α→O):O:=match m with
 | .bad=>.bad
 | .ok a=>k a
 | .er C n=>.er C n
@[simp] theorem O.of_ok{α:Type}(a:α)(k:α→O):O.of (.ok a) k=k a:=rfl
@[simp] theorem O.of_bad{α:Type}(k:α→O):O.of (.bad:M α) k=.bad:=rfl
@[simp] theorem O.of_er{α:Type}(C:Addr)(n:Option Int)(k:α→O):O.of (.er C n:M α) k=.er C n:=rfl
theorem O.res_of{α:Type}{m:M α}{k:α→O}(h:(O.of m k).res K E F0 H0 F D):m.res (fun a=>(k a).res K E F0 H0 F D) (kE E F0.hp H0):=by cases m<;>exact h
@[simp] noncomputable def eJ(a b:En→O):En→O:=fun ρ=>match a ρ with
 | .nx ρ'=>b ρ'
 | o=>o
theorem Nd{t u:TS}{a b:En→O}(h1:MS K E t a)(h2:MS K E u b):MS K E (Ku t u) (eJ a b):=fun F0 H0 F H σ ρ D r q=>by
 refine h1 F0 H0 F H σ ρ _ r ?_;unfold eJ at q;cases e:a ρ with
 | nx ρ'=>rw[e] at q;intro F' H' σ' s r';exact h2 F0 H0 F' H' σ' ρ' D r' (q.go s)
 | bad=>rw[e] at q;exact q
 | rt t=>rw[e] at q;exact q
 | rf ts=>rw[e] at q;exact q
 | bk ρ=>rw[e] at q;exact q
 | ct ρ=>rw[e] at q;exact q
 | er C n=>rw[e] at q;exact q
@[simp] noncomputable def fF:En→O:=fun ρ=>.nx ρ
theorem IQ:MS K E HK fF:=fun F0 H0 F H σ ρ D r q=>(q:kN K F0 H0 F D.nx ρ) F H σ (.refl _) r
theorem IE:MS K E BK (fun _=>.bad):=fun _ _ _ _ _ _ _ _ q=>q
theorem MT.inS{c:TT}{fc:Pe→M Bool}{Q:Bool→Hp→Prop}{k:Bool→O}(hc:MT K E c fc)(r:Sr K F0 H0 F H σ ρ)(q:(O.of (fc (vw ρ)) k).res K E F0 H0 F D)
  (hk:∀b F' H',fv F F'→Sr K F0 H0 F' H' σ ρ→(k b).res K E F0 H0 F' D→Q b H'):c σ H Q:=by
 obtain⟨Fl,s0,g0,V,back⟩:=r.lend;refine hc Fl H σ (vw ρ) Q g0.fh V ((O.res_of q).mono (fun b z F' H' g=>?_) fun C n z=>z.go g0);obtain⟨Fb,gb,sb,_⟩:=back F' H' g;exact hk b Fb H' sb (r.grow gb) (z.go sb)
@[simp] noncomputable def jy(fc:Pe→M Bool)(a b:En→O):En→O:=fun ρ=>.of (fc (vw ρ)) fun c=>if c then a ρ else b ρ
theorem N8{c:TT}{fc:Pe→M Bool}{t u:TS}{a b:En→O}(hc:MT K E c fc)(h1:MS K E t a)(h2:MS K E u b):MS K E (LO c t u) (jy fc a b):=fun F0 H0 F H σ ρ D r q=>by
 refine hc.inS r q fun c F' H' s r' q'=>?_;cases c with
 | true=>rw[aP rfl];exact h1 _ _ _ _ _ _ _ r' q'
 | false=>rw[aQ aG];exact h2 _ _ _ _ _ _ _ r' q'
@[simp] noncomputable def fT(f:Pe→M T):En→O:=fun ρ=>.of (f (vw ρ)) fun t=>.rt t
theorem MJ(h:ME K E t f):MS K E (zx t) (fT f):=fun F0 H0 F H σ ρ D r q=>by obtain⟨Fl,s0,g0,V,back⟩:=r.lend;exact h Fl H σ (vw ρ) _ g0.fh V ((O.res_of q).mono (fun b z=>kV.go z g0) fun C n z=>z.go g0)
@[simp] noncomputable def pQ(f:Pe→M (List T)):En→O:=fun ρ=>.of (f (vw ρ)) fun t=>.rf t
theorem JB{f:Pe→M (List T)}(h:MF K E t f):MS K E (zx t) (pQ f):=fun F0 H0 F H σ ρ D r q=>by obtain⟨Fl,s0,g0,V,back⟩:=r.lend;exact h Fl H σ (vw ρ) _ g0.fh V ((O.res_of q).mono (fun b z=>kF.go z g0) fun C n z=>z.go g0)
@[simp] noncomputable def mK(i:Nat):En→O:=fun ρ=>match ρ[i]? with
 | some (some (.o ts))=>.rf ts
 | _=>.bad
theorem Ey{i:Nat}:MS K E (zx (lO i)) (mK i):=fun F0 H0 F H σ ρ D r q=>by
 unfold mK at q;split at q
 ·rename_i ts e;obtain⟨ad,h1,h2⟩:=r.ov;obtain⟨a,b,c,vs,d,z⟩:=h1 i ts e;exact⟨_,a,(q:kF K F0 H0 D.rt ts) (ad i) vs F H r.gr c b d z⟩
 ·exact q.elim
theorem rB{α:Type}{l:List α}{i:Nat}{x y:α}(h:(l.set i x)[i]? = some y):y=x:=by
 rw[List.getElem?_set] at h;simp only[if_true] at h;split at h
 ·exact (Option.some.inj h).symm
 ·cases h
theorem eR{α:Type}{l:List α}{i j:Nat}{x y:α}(h:(l.set i x)[j]? = some y):(j=i∧y=x)∨(j≠i∧l[j]? = some y):=by
 by_cases e:j=i
 ·subst e;exact .inl ⟨rfl,rB h⟩
 ·rw[aq (fun z=>e z.symm)] at h;exact .inr ⟨e,h⟩
theorem pj{α:Type}{l:List α}{i:Nat}{x:α}(h:i<l.length):(l.set i x)[i]? = some x:=by rw[List.getElem?_set_self h]
theorem Sr.setP{i:Nat}{v:V}{x:T}(r:Sr K F0 H0 F H σ ρ)(h:jT K F v x):Sr K F0 H0 F H (σ.set i (some v)) (ρ.set i (some (.p x))):=by
 obtain⟨ad,h1,h2⟩:=r.ov;refine⟨r.gr,by simp[r.len],fun j t e=>?_,⟨ad,fun j ts e=>?_,fun j k ts us e e'=>?_⟩,fun e he=>?_,fun j l vs hlt q=>?_,r.dv.set fun _ z=>nomatch z⟩
 ·have hl:j<ρ.length:=by simpa using (aa.mp e).1
  rcases eR e with⟨rfl,q⟩ | ⟨hj,q⟩
  ·cases q;exact⟨v,pj (by rw[r.len];exact hl),h⟩
  ·obtain⟨w,a,b⟩:=r.pv j t q;exact⟨w,by rw[aq (fun z=>hj z.symm)];exact a,b⟩
 ·rcases eR e with⟨rfl,q⟩ | ⟨hj,q⟩
  ·cases q
  ·obtain⟨a,b⟩:=h1 j ts q;exact⟨by rw[aq (fun z=>hj z.symm)];exact a,b⟩
 ·rcases eR e with⟨rfl,q⟩ | ⟨hj,q⟩
  ·cases q
  ·rcases eR e' with⟨rfl,q'⟩ | ⟨hk,q'⟩
   ·cases q'
   ·exact h2 j k ts us q q'
 ·have L:=r.lv e he;refine⟨L.h,L.f,L.z,fun j ts q=>?_⟩;rcases eR q with⟨rfl,q1⟩ | ⟨hj,q1⟩
  ·cases q1
  ·rw[aq (fun z=>hj z.symm)];exact L.d j ts q1
 ·rcases eR q with⟨rfl,q1⟩ | ⟨hj,q1⟩
  ·cases q1
  ·rw[aq (fun z=>hj z.symm)];exact r.sl j l vs hlt q1
theorem Sr.setO{i:Nat}{l:Addr}{vs:List V}{ts:List T}(r:Sr K F0 H0 F H σ ρ)(g:Gr F H F1 H1)(hl:H l=none)(hf:F1 l=none)(hv:H1 l=some (.lst vs))(hr:eZ K F1 vs ts) :
  Sr K F0 H0 F1 H1 (σ.set i (some (.ref l))) (ρ.set i (some (.o ts))):=by
 have r1:=r.grow g;obtain⟨ad0,h10,_⟩:=r.ov;obtain⟨ad,h1,h2⟩:=r1.ov;have nl:∀j us,ρ[j]? = some (some (.o us))→ad j≠l:=fun j us e z=>by
  obtain⟨a,_⟩:=h1 j us e;obtain⟨a0,_,_,vs0,d0,_⟩:=h10 j us e;rw[a] at a0;have:ad j=ad0 j:=by simpa using a0
  rw[←this,z,hl] at d0;cases d0
 refine⟨r1.gr,by simp[r.len],fun j t e=>?_,⟨fun j=>if j=i then l else ad j,fun j us e=>?_,fun j k us ws e e' hjk=>?_⟩,fun e he=>?_,fun j l' vs' hlt q=>?_,r1.dv.set fun _ z=>nomatch z⟩
 ·rcases eR e with⟨rfl,q⟩ | ⟨hj,q⟩
  ·cases q
  ·obtain⟨w,a,b⟩:=r1.pv j t q;exact⟨w,by rw[aq (fun z=>hj z.symm)];exact a,b⟩
 ·have hln:j<ρ.length:=by simpa using (aa.mp e).1
  rcases eR e with⟨rfl,q⟩ | ⟨hj,q⟩
  ·cases q;dsimp only;rw[aP rfl];exact⟨pj (by rw[r.len];exact hln),hf,fg r.gr.hh hl,vs,hv,hr⟩
  ·dsimp only;rw[aQ hj];obtain⟨a,b⟩:=h1 j us q;exact⟨by rw[aq (fun z=>hj z.symm)];exact a,b⟩
 ·rcases eR e with⟨rfl,q⟩ | ⟨hj,q⟩
  ·rcases eR e' with⟨rfl,q'⟩ | ⟨hk,q'⟩
   ·exact absurd rfl hjk
   ·dsimp only;rw[aP rfl,aQ hk];exact fun z=>nl k ws q' z.symm
  ·rcases eR e' with⟨rfl,q'⟩ | ⟨hk,q'⟩
   ·dsimp only;rw[aQ hj,aP rfl];exact nl j us q
   ·dsimp only;rw[aQ hj,aQ hk];exact h2 j k us ws q q' hjk
 ·have L:=r1.lv e he;have L0:=r.lv e he;refine⟨L.h,L.f,L.z,fun j ts q=>?_⟩;rcases eR q with⟨rfl,q1⟩ | ⟨hj,q1⟩
  ·intro z;have z':=rB z;have:e.2.1=l:=by simpa using z'
   rw[←this,L0.h] at hl;cases hl
  ·rw[aq (fun z=>hj z.symm)];exact L.d j ts q1
 ·rcases eR q with⟨rfl,q1⟩ | ⟨hj,q1⟩
  ·cases q1
  ·rw[aq (fun z=>hj z.symm)];exact r.sl j l' vs' hlt q1
@[simp] noncomputable def gE(f:Pe→M T)(ρ:En):M T:=f (kf ρ)
@[simp] noncomputable def mB(f:Pe→M T)(ρ:En):M T:=(f (vw ρ)).bind fun t=>if lf t then .ok t else .bad
theorem ME.inH{Q:VK}{k:T→O}(h:ME K E t f)(r:Sr K F0 H0 F H σ ρ)(q:(O.of (gE f ρ) k).res K E F0 H0 F D)
  (hk:∀x v F' H',Gr F H F' H'→jT K F' v x→Sr K F0 H0 F' H' σ ρ→(k x).res K E F0 H0 F' D→Q v H'):t σ H Q:=
 h F H σ (kf ρ) Q r.gr.fh r.vars ((O.res_of q).mono (fun x z v F' H' g rp=>hk x v F' H' g rp (r.grow g) (z.go g.ff)) fun C n z=>z.go r.gr)
theorem ME.inB{Q:VK}{k:T→O}(h:ME K E t f)(r:Sr K F0 H0 F H σ ρ)(q:(O.of (mB f ρ) k).res K E F0 H0 F D)
  (hk:∀x v F' H',Gr F H F' H'→jT K F' v x→Sr K F0 H0 F' H' σ ρ→(k x).res K E F0 H0 F' D→Q v H'):t σ H Q:=by
 obtain⟨Fl,s0,g0,V,back⟩:=r.lend;refine h Fl H σ (vw ρ) Q g0.fh V ((M.res.unb (O.res_of q)).mono (fun x z v F' H' g rp=>?_) fun C n z=>z.go g0);obtain⟨Fb,gb,sb,sb',hlst,_⟩:=back F' H' g;by_cases hl:lf x=true
 ·rw[aP hl] at z;exact hk x v Fb H' gb (rp.less sb' hlst hl) (r.grow gb) (O.res.go z sb)
 ·rw[aQ hl] at z;exact z.elim
@[simp] noncomputable def setO(i:Nat)(f:En→M T):En→O:=fun ρ=>.of (f ρ) fun t=>.nx (ρ.set i (some (.p t)))
theorem Dr{i:Nat}(h:ME K E t f):MS K E (nJ t (ji i)) (setO i (gE f)):=fun F0 H0 F H σ ρ D r q=>h.inH r q fun x v F' H' g rp r' q'=>(q':kN K F0 H0 F' D.nx _) F' H' _ (.refl _) (r'.setP rp)
theorem JU{i:Nat}(h:ME K E t f):MS K E (nJ t (ji i)) (setO i (mB f)):=fun F0 H0 F H σ ρ D r q=>h.inB r q fun x v F' H' g rp r' q'=>(q':kN K F0 H0 F' D.nx _) F' H' _ (.refl _) (r'.setP rp)
@[simp] noncomputable def om(f:Pe→M (List T))(ρ:En):M (List T):=f (kf ρ)
@[simp] noncomputable def wO(f:Pe→M (List T))(ρ:En):M (List T):=(f (vw ρ)).bind fun ts=>if FA ts then .ok ts else .bad
theorem MF.inH{f:Pe→M (List T)}{Q:VK}{k:List T→O}(h:MF K E t f)(r:Sr K F0 H0 F H σ ρ)(q:(O.of (om f ρ) k).res K E F0 H0 F D)
  (hk:∀ts l vs F' H',Gr F H F' H'→H l=none→F' l=none→H' l=some (.lst vs)→eZ K F' vs ts→(k ts).res K E F0 H0 F' D→Q (.ref l) H'):t σ H Q:=
 h F H σ (kf ρ) Q r.gr.fh r.vars ((O.res_of q).mono (fun ts z l vs F' H' g a b c d=>hk ts l vs F' H' g a b c d (z.go g.ff)) fun C n z=>z.go r.gr)
theorem MF.inB{f:Pe→M (List T)}{Q:VK}{k:List T→O}(h:MF K E t f)(r:Sr K F0 H0 F H σ ρ)(q:(O.of (wO f ρ) k).res K E F0 H0 F D)
  (hk:∀ts l vs F' H',Gr F H F' H'→H l=none→F' l=none→H' l=some (.lst vs)→eZ K F' vs ts→(k ts).res K E F0 H0 F' D→Q (.ref l) H'):t σ H Q:=by
 obtain⟨Fl,s0,g0,V,back⟩:=r.lend;refine h Fl H σ (vw ρ) Q g0.fh V ((M.res.unb (O.res_of q)).mono (fun ts z l vs F' H' g a b c d=>?_) fun C n z=>z.go g0);obtain⟨Fb,gb,sb,sb',hlst,_⟩:=back F' H' g;by_cases hl:FA ts=true
 ·rw[aP hl] at z;exact hk ts l vs Fb H' gb a (fg sb' b) c (d.less sb' hlst hl) (O.res.go z sb)
 ·rw[aQ hl] at z;exact z.elim
@[simp] noncomputable def mU(i:Nat)(f:En→M (List T)):En→O:=fun ρ=>.of (f ρ) fun ts=>.nx (ρ.set i (some (.o ts)))
theorem C9{i:Nat}{f:Pe→M (List T)}(h:MF K E t f):MS K E (nJ t (ji i)) (mU i (om f)):=fun F0 H0 F H σ ρ D r q=>h.inH r q fun ts l vs F' H' g a b c d q'=>(q':kN K F0 H0 F' D.nx _) F' H' _ (.refl _) (r.setO g a b c d)
theorem Jb{i:Nat}{f:Pe→M (List T)}(h:MF K E t f):MS K E (nJ t (ji i)) (mU i (wO f)):=fun F0 H0 F H σ ρ D r q=>h.inB r q fun ts l vs F' H' g a b c d q'=>(q':kN K F0 H0 F' D.nx _) F' H' _ (.refl _) (r.setO g a b c d)
@[simp] noncomputable def yc(f:En→M T):En→O:=fun ρ=>.of (f ρ) fun _=>.nx ρ
theorem Ht(h:ME K E t f):MS K E (qY t) (yc (gE f)):=fun F0 H0 F H σ ρ D r q=>h.inH r q fun x v F' H' g rp r' q'=>(q':kN K F0 H0 F' D.nx _) F' H' _ (.refl _) r'
theorem Sr.change{i:Nat}{ts us:List T}{ws:List V}(r:Sr K F0 H0 F H σ ρ)(e:ρ[i]? = some (some (.o ts)))(hw:eZ K F ws us) :
  ∃l vs,σ[i]? = some (some (.ref l))∧H l=some (.lst vs)∧eZ K F vs ts∧Sr K F0 H0 F (ij H l (.lst ws)) σ (ρ.set i (some (.o us))):=by
 obtain⟨ad,h1,h2⟩:=r.ov;obtain⟨a,b,c,vs,d,z⟩:=h1 i ts e;have jx:i<ρ.length:=(aa.mp e).1;refine⟨ad i,vs,a,d,z,⟨r.gr.ff,fun p u q=>?_,fun p u q=>?_,r.gr.nw⟩,by simp[r.len],fun j t q=>?_,⟨ad,fun j ss q=>?_,fun j k ss ss' q q' hjk=>?_⟩,fun e' he=>?_,fun j l' vs' hlt q=>?_,(r.dv.heap (.refl _) fun p xs hp _=>⟨by assumption,by rw[eO (fun z=>by rw[z,d] at hp;cases hp)];exact hp⟩).setR fun _ z=>nomatch z⟩
 ·rw[eO (fH q b)];exact r.gr.fh p u q
 ·rw[eO (fH q c)];exact r.gr.hh p u q
 ·rcases eR q with⟨rfl,q1⟩ | ⟨hj,q1⟩
  ·cases q1
  ·exact r.pv j t q1
 ·rcases eR q with⟨rfl,q1⟩ | ⟨hj,q1⟩
  ·cases q1;exact⟨a,b,c,ws,eP,hw⟩
  ·obtain⟨a',b',c',vs',d',z'⟩:=h1 j ss q1;exact⟨a',b',c',vs',by rw[eO (h2 j i ss ts q1 e hj)];exact d',z'⟩
 ·rcases eR q with⟨rfl,q1⟩ | ⟨hj,q1⟩
  ·rcases eR q' with⟨rfl,q2⟩ | ⟨hk,q2⟩
   ·exact absurd rfl hjk
   ·exact h2 j k ts ss' e q2 hjk
  ·rcases eR q' with⟨rfl,q2⟩ | ⟨hk,q2⟩
   ·exact h2 j k ss ts q1 e hjk
   ·exact h2 j k ss ss' q1 q2 hjk
 ·have L:=r.lv e' he;have hne:e'.2.1≠ad i:=fun w=>L.d i ts e (by rw[w];exact a);refine⟨by rw[eO hne];exact L.h,L.f,L.z,fun j ss q=>?_⟩;rcases eR q with⟨rfl,q1⟩ | ⟨hj,q1⟩
  ·exact L.d _ ts e
  ·exact L.d j ss q1
 ·rcases eR q with⟨rfl,q1⟩ | ⟨hj,q1⟩
  ·cases q1
  ·exact r.sl j l' vs' hlt q1
@[simp] noncomputable def kW(ρ:En)(i:Nat):M (List T):=match ρ[i]? with
 | some (some (.o ts))=>.ok ts
 | _=>.bad
theorem qU{ρ:En}{i:Nat}{ts:List T}(h:kW ρ i=.ok ts):ρ[i]? = some (some (.o ts)):=by
 unfold kW at h;split at h
 ·rename_i ts' e;cases h;exact e
 ·cases h
@[simp] noncomputable def nX(i:Nat)(f:En→M T):En→O:=fun ρ=>.of (kW ρ i) fun ts=>.of (f ρ) fun t=>if ts.length<sizeLine then .nx (ρ.set i (some (.o (ts++[t])))) else .bad
theorem uz{i:Nat}{ts:List T}{x:T}{v:V}(r:Sr K F0 H0 F H σ ρ)(e:ρ[i]? = some (some (.o ts)))(rp:jT K F v x)
  (q:(if ts.length<sizeLine then O.nx (ρ.set i (some (.o (ts++[x])))) else .bad).res K E F0 H0 F D):∃l,σ[i]? = some (some (.ref l))∧ye (.ref l) [v] H fun _ H1=>D.nx σ H1:=by
 by_cases hl:ts.length<sizeLine
 ·rw[aP hl] at q;obtain⟨ad,h1,_⟩:=r.ov;obtain⟨_,_,_,vs,d,z⟩:=h1 i ts e;obtain⟨l,vs',a',d',z',r'⟩:=r.change e (us:=ts++[x]) (ws:=vs++[v]) (z.append (.cons rp .nil));have:vs'=vs:=by
   have a:=(h1 i ts e).1;rw[a'] at a;have:l=ad i:=by simpa using a
   rw[this,d] at d';cases d';rfl
  subst this;exact⟨l,a',l,vs',v,rfl,rfl,d',by rw[z.length];exact hl,(q:kN K F0 H0 F D.nx _) F _ _ (.refl _) r'⟩
 ·rw[aQ hl] at q;exact q.elim
def Fo(K:W.Frag)(i:Nat)(te:TE):TE:=QB K "list" ye (lO i) (pX te tW)
theorem JA{i:Nat}(ht:∀l xs H,H l=some (.lst xs)→NO K "list" (.ref l) H)(h:ME K E t f):MS K E (qY (Fo K i t)) (nX i (gE f)):=fun F0 H0 F H σ ρ D r q=>by
 unfold nX at q;cases e:kW ρ i with
 | bad=>rw[e] at q;exact q.elim
 | er C n=>unfold kW at e;split at e<;>cases e
 | ok ts=>rw[e] at q;have e':=qU e;obtain⟨ad,h1,_⟩:=r.ov;obtain⟨a,_,_,vs,d,_⟩:=h1 i ts e';refine⟨_,a,ht _ _ _ d,?_⟩;refine h.inH r q fun x v F' H' g rp r' q'=>?_;obtain⟨l,a',q''⟩:=uz r' e' rp q';rw[a] at a';cases a';exact q''
theorem Ko{i:Nat}(ht:∀l xs H,H l=some (.lst xs)→NO K "list" (.ref l) H)(h:ME K E t f):MS K E (qY (Fo K i t)) (nX i (mB f)):=fun F0 H0 F H σ ρ D r q=>by
 unfold nX at q;cases e:kW ρ i with
 | bad=>rw[e] at q;exact q.elim
 | er C n=>unfold kW at e;split at e<;>cases e
 | ok ts=>rw[e] at q;have e':=qU e;obtain⟨ad,h1,_⟩:=r.ov;obtain⟨a,_,_,vs,d,_⟩:=h1 i ts e';refine⟨_,a,ht _ _ _ d,?_⟩;refine h.inB r q fun x v F' H' g rp r' q'=>?_;obtain⟨l,a',q''⟩:=uz r' e' rp q';rw[a] at a';cases a';exact q''
@[simp] noncomputable def vO(i:Nat)(fk:En→M T)(f:En→M T):En→O:=fun ρ=>.of (kW ρ i) fun ts=>.of (f ρ) fun t=>.of (fk ρ) fun k=>match k with
 | .int k=>match xH ts.length k with
  | some j=>.nx (ρ.set i (some (.o (ts.set j t))))
  | none=>.bad
 | _=>.bad
theorem Gy{i:Nat}{ts:List T}{x y:T}{v w:V}{l:Addr}(r2:Sr K F0 H0 F H σ ρ)(e':ρ[i]? = some (some (.o ts)))(hl:σ[i]? = some (some (.ref l)))(rp:jT K F v x)(rw_:jT K F w y)
  (q2:(match y with
   | .int k=>match xH ts.length k with
    | some j=>O.nx (ρ.set i (some (.o (ts.set j x))))
    | none=>.bad
   | _=>.bad).res K E F0 H0 F D):CZ (.ref l) w v H fun H3=>D.nx σ H3:=by
 cases rw_ with
 | int k=>
  dsimp only at q2;cases hx:xH ts.length k with
  | none=>rw[hx] at q2;exact q2.elim
  | some j=>
   rw[hx] at q2;obtain⟨ad,h1,_⟩:=r2.ov;obtain⟨_,_,_,vs,d,z⟩:=h1 i ts e';obtain⟨l',vs',a',d',z',r3⟩:=r2.change e' (us:=ts.set j x) (ws:=vs.set j v) (z.set rp j);rw[hl] at a';cases a';have:vs'=vs:=by
    have a:=(h1 i ts e').1;rw[hl] at a;have:l=ad i:=by simpa using a
    rw[this,d] at d';cases d';rfl
   subst this;exact⟨l,vs',k,j,rfl,rfl,d',by rw[z.length];exact hx,(q2:kN K F0 H0 F D.nx _) F _ _ (.refl _) r3⟩
 | _=>exact q2.elim
theorem LC{i:Nat}{tk:TE}{fk:Pe→M T}(h:ME K E t f)(hk:ME K E tk fk):MS K E (nJ t (M8 (lO i) tk CZ)) (vO i (mB fk) (mB f)):=fun F0 H0 F H σ ρ D r q=>by
 unfold vO at q;cases e:kW ρ i with
 | bad=>rw[e] at q;exact q.elim
 | er C n=>unfold kW at e;split at e<;>cases e
 | ok ts=>rw[e] at q;have e':=qU e;obtain⟨ad,h1,_⟩:=r.ov;have a:=(h1 i ts e').1;refine h.inB r q fun x v F' H' g rp r' q'=>⟨_,a,?_⟩;exact hk.inB r' q' fun y w F2 H2 g2 rw_ r2 q2=>Gy r2 e' a (rp.mono g2.ff) rw_ q2
end
end L3
namespace L3
open PySem L2
section
variable {K:W.Frag}{E:XK}{t u ta tb:TE}{f fa fb:Pe→M T}{F0:Fz}{H0 F H F1 H1:Hp}{σ:St}{ρ:En}{D:yz}
structure wJ(K:W.Frag)(J:It)(its:List T)(F1:Hp):Prop where
 go:∀i H,fv F1 H→i<its.length→J.go i H
 stop:∀H,fv F1 H→J.stop its.length H
 yld:∀(i:Nat) t F H x H',fv F1 F→fv F H→its[i]? = some t→J.yld i H x H'→∃F',Gr F H F' H'∧jT K F' x t
def kI(K:W.Frag)(F H:Hp)(R:It→Hp→Prop)(its:List T):Prop:=∀J F' H',Gr F H F' H'→wJ K J its F'→R J H'
def MI(K:W.Frag)(E:XK)(w:TI)(f:Pe→M (List T)):Prop:=∀F H σ ρ R,fv F H→jW K F σ ρ→(f ρ).res (kI K F H R) (kE E F H)→w σ H R
def Qx(K:W.Frag)(F H:Hp)(R:It→Hp→Prop)(its:List T):Prop:=∀J F' H',Gr F H F' H'→(∀F1,wJ K J its F1)→R J H'
def Os(K:W.Frag)(E:XK)(w:TI)(f:Pe→M (List T)):Prop:=∀F H σ ρ R,fv F H→jW K F σ ρ→(f ρ).res (Qx K F H R) (kE E F H)→w σ H R
theorem Os.mi{w:TI}{f:Pe→M (List T)}(h:Os K E w f):MI K E w f:=fun F H σ ρ R s V q=>h F H σ ρ R s V (q.mono (fun its z J F' H' g i=>z J F' H' g (i F')) fun _ _ z=>z)
@[simp] noncomputable def PD(fa:Pe→M T):Pe→M (List T):=fun ρ=>(fa ρ).bind fun x=>match x with
 | .lst ts=>.ok ts
 | .scr ns=>.ok (ns.map T.int)
 | _=>.bad
@[simp] noncomputable def QC(fa:Pe→M T):Pe→M (List T):=fun ρ=>(fa ρ).bind fun x=>match x with
 | .tup ts=>.ok ts
 | _=>.bad
theorem Dk{a:Addr}{xs:List V}{ts:List T}(hs:jI K F a xs)(r:eZ K F xs ts):wJ K (Qo K a) ts F where
 go:=fun i H s hi=>by have e:xs[i]? = some (xs[i]'(by rw[r.length];exact hi)):=ag _;exact⟨xs,_,s.seq hs,e⟩
 stop:=fun H s=>⟨xs,s.seq hs,by rw[r.length];exact aJ _⟩
 yld:=fun i t F' H x H' s1 s2 e y=>by obtain⟨rfl,hx⟩:=y;have e':=hx xs ((s1.trans s2).seq hs);obtain⟨t',e'',rp⟩:=r.at_ e';rw[e] at e'';cases e'';exact⟨F',.refl s2,rp.mono s1⟩
theorem sI{F H:Hp}{a:Addr}{xs:List V}(s:fv F H)(h:F a=some (.tup xs)):kR K H a xs:=kR.of (s _ _ h)
theorem My{a:Addr}{xs:List V}{ts:List T}(hs:F a=some (.tup xs))(r:eZ K F xs ts):wJ K (P5 K a) ts F where
 go:=fun i H s hi=>by have e:xs[i]? = some (xs[i]'(by rw[r.length];exact hi)):=ag _;exact⟨xs,_,sI s hs,e⟩
 stop:=fun H s=>⟨xs,sI s hs,by rw[r.length];exact aJ _⟩
 yld:=fun i t F' H x H' s1 s2 e y=>by obtain⟨rfl,hx⟩:=y;have e':=hx xs (sI (s1.trans s2) hs);obtain⟨t',e'',rp⟩:=r.at_ e';rw[e] at e'';cases e'';exact⟨F',.refl s2,rp.mono s1⟩
theorem zm(ha:ME K E ta fa):MI K E (Hq K ta) (PD fa):=fun F H σ ρ R s V q=>by
  refine ha.run s V q fun x v F1 H1 g1 r1 q1=>?_;cases r1<;>first
    | exact q1.elim
    | (rename_i h r
       exact⟨_,rfl,⟨_,jI.of (g1.fh _ _ h)⟩,(q1:kI K F H R _) _ F1 H1 g1 (Dk (jI.of h) r)⟩)
    | (rename_i h
       exact⟨_,rfl,⟨_,g1.fh.seq h⟩,(q1:kI K F H R _) _ F1 H1 g1 (Dk h (eZ.of_ints _))⟩)
theorem MQ(ha:ME K E ta fa):MI K E (Mg K ta) (QC fa):=fun F H σ ρ R s V q=>by
  refine ha.run s V q fun x v F1 H1 g1 r1 q1=>?_;cases r1<;>first
    | exact q1.elim
    | (rename_i h r
       exact⟨_,rfl,⟨_,kR.of (g1.fh _ _ h)⟩,(q1:kI K F H R _) _ F1 H1 g1 (My h r)⟩)
theorem Pp:(2:Int) ^ 62=4611686018427387904:=by decide +kernel
theorem PF:(2:Int) ^ 63=9223372036854775808:=by decide +kernel
noncomputable def yM(j:Int):Bool:=decide (j.natAbs<4611686018427387904)
theorem o9{j:Int}(h:yM j=true):-(2 ^ 62)≤j∧j<2 ^ 62:=by rw[Pp];have:=of_decide_eq_true h;omega
theorem iQ{j:Int}(h:j.natAbs≤1000000):yM j=true:=aB (by omega)
noncomputable def zh(lo:Int)(n:Nat):List T:=(List.range n).map fun (i:Nat)=>T.int (lo+(i:Int))
theorem MX{lo:Int}{n:Nat}(F:Hp):wJ K (Pk lo n) (zh lo n) F where
 go:=fun i H s hi=>by show i<n;simpa[zh] using hi
 stop:=fun H s=>by simp[zh,Pk]
 yld:=fun i t F' H x H' s1 s2 e y=>by
  obtain⟨rfl,rfl⟩:=y;have hi:i<n:=by simpa[zh] using (aa.mp e).1
  have:t=.int (lo+i):=by unfold zh at e;rw[av,List.getElem?_range hi] at e;cases e;rfl
  rw[this];exact⟨F',.refl s2,.int _⟩
@[simp] noncomputable def jh(fa:Pe→M (List T)):Pe→M (List T):=fun ρ=>(fa ρ).bind fun xs=>match xs with
 | [.int j]=>if yM j then .ok (zh 0 j.toNat) else .bad
 | _=>.bad
theorem KR{ta:TA}{fa:Pe→M (List T)}(ha:MA K E ta fa):Os K E (IB ta) (jh fa):=fun F H σ ρ R s V q=>by
 refine ha.run s V q fun xs vs F1 H1 g1 r1 q1=>?_;split at q1
 ·rename_i j;split at q1
  ·rename_i hj;cases r1 with
   | cons a b=>cases a;cases b;exact⟨j,rfl,(o9 hj).1,(o9 hj).2,(q1:Qx K F H R _) _ F1 H1 g1 MX⟩
  ·exact q1.elim
 ·exact q1.elim
noncomputable def seqB(b:Bool):T→M (List T)
 | .tup ts=>if b then .ok ts else .bad
 | .lst ts=>if b then .bad else .ok ts
 | .scr ns=>if b then .bad else .ok (ns.map T.int)
 | _=>.bad
theorem yC{b:Bool}{x:T}{v:V}{ts:List T}(r:jT K F v x)(e:seqB b x=.ok ts):∃a xs,v=.ref a∧(∀H,fv F H→t8 K H b a xs)∧eZ K F xs ts:=by
 cases r<;>try (cases e)
 ·rename_i a xs ss h r;cases b with
  | true=>cases e;exact⟨a,xs,rfl,fun H s=>by unfold t8;rw[aP rfl];exact kR.of (s _ _ h),r⟩
  | false=>cases e
 ·rename_i a xs ss h r;cases b with
  | true=>cases e
  | false=>cases e;exact⟨a,xs,rfl,fun H s=>by unfold t8;rw[aQ aG];exact jI.of (s _ _ h),r⟩
 ·rename_i a ns h;cases b with
  | true=>cases e
  | false=>cases e;exact⟨a,_,rfl,fun H s=>by unfold t8;rw[aQ aG];exact s.seq h,eZ.of_ints ns⟩
noncomputable def yy(xs ys:List T):List T:=(xs.zip ys).map fun p=>T.tup [p.1,p.2]
theorem LF{b1 b2:Bool}{l1 l2:Addr}{xs ys:List V}{ts us:List T}(h1:∀H,fv F H→t8 K H b1 l1 xs)(r1:eZ K F xs ts)(h2:∀H,fv F H→t8 K H b2 l2 ys)(r2:eZ K F ys us):wJ K (P7 K b1 b2 l1 l2) (yy ts us) F where
 go:=fun i H s hi=>by
  have hi':i<ts.length∧i<us.length:=by simp[yy] at hi;omega
  have e1:xs[i]? = some (xs[i]'(by rw[r1.length];exact hi'.1)):=ag _;have e2:ys[i]? = some (ys[i]'(by rw[r2.length];exact hi'.2)):=ag _;exact⟨xs,ys,_,_,h1 H s,h2 H s,e1,e2⟩
 stop:=fun H s=>⟨xs,ys,h1 H s,h2 H s,by simp[yy,r1.length,r2.length];omega⟩
 yld:=fun i t F' H x H' s1 s2 e y=>by
  obtain⟨p,x1,x2,rfl,hp,rfl,e1,e2⟩:=y;obtain⟨t1,f1,q1⟩:=r1.at_ (e1 xs (h1 H (s1.trans s2)));obtain⟨t2,f2,q2⟩:=r2.at_ (e2 ys (h2 H (s1.trans s2)));have:t=.tup [t1,t2]:=by unfold yy at e;rw[av,(List.getElem?_zip_eq_some (z:=(t1,t2))).mpr ⟨f1,f2⟩] at e;cases e;rfl
  rw[this];have g:=Gr.new (o:=.tup [x1,x2]) s2 hp;exact⟨_,g,.tup eP (.cons ((q1.mono s1).mono g.ff) (.cons ((q2.mono s1).mono g.ff) .nil))⟩
noncomputable def LA(b1 b2:Bool)(fa:Pe→M (List T)):Pe→M (List T):=fun ρ=>(fa ρ).bind fun xs=>match xs with
 | [x,y]=>(seqB b1 x).bind fun ts=>(seqB b2 y).bind fun us=>.ok (yy ts us)
 | _=>.bad
theorem zk{b:Bool}{x:T}{C:Addr}{n:Option Int}:seqB b x≠.er C n:=by cases x<;>cases b<;>exact fun z=>nomatch z
theorem HR{b1 b2:Bool}{ta:TA}{fa:Pe→M (List T)}(ha:MA K E ta fa):MI K E (Mn K b1 b2 ta) (LA b1 b2 fa):=fun F H σ ρ R s V q=>by
 refine ha.run s V q fun xs vs F1 H1 g1 r1 q1=>?_;split at q1
 ·rename_i x y;cases r1 with
  | cons a b=>
   cases b with
   | cons b c=>
    cases c;cases e1:seqB b1 x with
    | bad=>rw[e1] at q1;exact q1.elim
    | er C n=>exact absurd e1 zk
    | ok ts=>
     rw[e1] at q1;cases e2:seqB b2 y with
     | bad=>simp only[e2,M.bind_ok] at q1;exact q1.elim
     | er C n=>exact absurd e2 zk
     | ok us=>simp only[e2,M.bind_ok] at q1;obtain⟨a1,x1,rfl,s1,t1⟩:=yC a e1;obtain⟨a2,x2,rfl,s2,t2⟩:=yC b e2;exact⟨a1,a2,rfl,⟨x1,s1 _ g1.fh⟩,⟨x2,s2 _ g1.fh⟩,(q1:kI K F H R _) _ F1 H1 g1 (LF s1 t1 s2 t2)⟩
 ·exact q1.elim
def MG(K:W.Frag)(g:TG)(m:T→Pe→Option Pe):Prop:=∀F H σ (ρ:Pe) x t ρ' Q,fv F H→σ.length=ρ.length→jW K F σ ρ→jT K F x t→m t ρ=some ρ'→(∀σ',σ'.length=ρ'.length→jW K F σ' ρ'→Q σ' H)→g x σ H Q
def Oa(K:W.Frag)(g:A4)(m:List T→Pe→Option Pe):Prop:=∀F H σ (ρ:Pe) xs ts ρ' Q,fv F H→σ.length=ρ.length→jW K F σ ρ→eZ K F xs ts→m ts ρ=some ρ'→(∀σ',σ'.length=ρ'.length→jW K F σ' ρ'→Q σ' H)→g xs σ H Q
@[simp] noncomputable def gZ(i:Nat):T→Pe→Option Pe:=fun t ρ=>some (ρ.set i (some t))
theorem jW.set{σ:St}{ρ:Pe}{i:Nat}{v:V}{x:T}(V:jW K F σ ρ)(hl:σ.length=ρ.length)(h:jT K F v x):jW K F (σ.set i (some v)) (ρ.set i (some x)):=fun j t e=>by
 have hj:j<ρ.length:=by simpa using (aa.mp e).1
 rcases eR e with⟨rfl,q⟩ | ⟨hj,q⟩
 ·cases q;exact⟨v,pj (by rw[hl];exact hj),h⟩
 ·obtain⟨w,a,b⟩:=V j t q;exact⟨w,by rw[aq (fun z=>hj z.symm)];exact a,b⟩
theorem J2{i:Nat}:MG K (ji i) (gZ i):=fun F H σ ρ x t ρ' Q s hl V r e k=>by cases e;exact k _ (by simp[hl]) (V.set hl r)
@[simp] noncomputable def lV:List T→Pe→Option Pe
 | [],ρ=>some ρ
 | _::_,_=>none
@[simp] noncomputable def gh(m:T→Pe→Option Pe)(n:List T→Pe→Option Pe):List T→Pe→Option Pe
 | [],_=>none
 | t::ts,ρ=>(m t ρ).bind (n ts)
theorem Kf:Oa K Ej lV:=fun F H σ ρ xs ts ρ' Q s hl V r e k=>by
 cases r with
 | nil=>cases e;exact⟨rfl,k σ hl V⟩
 | cons a b=>cases e
theorem Gz{g:TG}{gs:A4}{m:T→Pe→Option Pe}{n:List T→Pe→Option Pe}(h1:MG K g m)(h2:Oa K gs n):Oa K (vA g gs) (gh m n):=fun F H σ ρ xs ts ρ' Q s hl V r e k=>by
 cases r with
 | nil=>cases e
 | cons a b=>
  rename_i v t vs ts';have e:(m t ρ).bind (n ts')=some ρ':=e;cases q:m t ρ with
  | none=>rw[q] at e;cases e
  | some ρ1=>rw[q] at e;refine⟨v,vs,rfl,h1 F H σ ρ v t ρ1 _ s hl V a q fun σ' hl' V'=>?_⟩;exact h2 F H σ' ρ1 vs ts' ρ' Q s hl' V' b e k
@[simp] noncomputable def lW(k:Nat)(m:List T→Pe→Option Pe):T→Pe→Option Pe
 | .tup ts,ρ=>if ts.length=k then m ts ρ else none
 | _,_=>none
theorem Ny{k:Nat}{g:A4}{m:List T→Pe→Option Pe}(h:Oa K g m):MG K (EW K k g) (lW k m):=fun F H σ ρ x t ρ' Q s hl V r e q=>by
 cases r with
 | tup hx rs=>
  rename_i a xs ts;have e:(if ts.length=k then m ts ρ else none)=some ρ':=e;by_cases hk:ts.length=k
  ·rw[aP hk] at e;exact⟨_,_,rfl,kR.of (s _ _ hx),by rw[rs.length];exact hk,h F H σ ρ _ _ ρ' Q s hl V rs e q⟩
  ·rw[aQ hk] at e;cases e
 | _=>cases e
def J5(K:W.Frag)(g:TG)(m:T→En→Option En):Prop:=∀F0 H0 F H σ ρ x t ρ' Q,Sr K F0 H0 F H σ ρ→jT K F x t→m t ρ=some ρ'→(∀σ',Sr K F0 H0 F H σ' ρ'→Q σ' H)→g x σ H Q
def HZ(K:W.Frag)(g:A4)(m:List T→En→Option En):Prop:=∀F0 H0 F H σ ρ xs ts ρ' Q,Sr K F0 H0 F H σ ρ→eZ K F xs ts→m ts ρ=some ρ'→(∀σ',Sr K F0 H0 F H σ' ρ'→Q σ' H)→g xs σ H Q
@[simp] noncomputable def iK(i:Nat):T→En→Option En:=fun t ρ=>some (ρ.set i (some (.p t)))
theorem HJ{i:Nat}:J5 K (ji i) (iK i):=fun F0 H0 F H σ ρ x t ρ' Q s r e k=>by cases e;exact k _ (s.setP r)
@[simp] noncomputable def k9:List T→En→Option En
 | [],ρ=>some ρ
 | _::_,_=>none
@[simp] noncomputable def gy(m:T→En→Option En)(n:List T→En→Option En):List T→En→Option En
 | [],_=>none
 | t::ts,ρ=>(m t ρ).bind (n ts)
theorem FU:HZ K Ej k9:=fun F0 H0 F H σ ρ xs ts ρ' Q s r e k=>by
 cases r with
 | nil=>cases e;exact⟨rfl,k σ s⟩
 | cons a b=>cases e
theorem EX{g:TG}{gs:A4}{m:T→En→Option En}{n:List T→En→Option En}(h1:J5 K g m)(h2:HZ K gs n):HZ K (vA g gs) (gy m n):=fun F0 H0 F H σ ρ xs ts ρ' Q s r e k=>by
 cases r with
 | nil=>cases e
 | cons a b=>
  rename_i v t vs ts';have e:(m t ρ).bind (n ts')=some ρ':=e;cases q:m t ρ with
  | none=>rw[q] at e;cases e
  | some ρ1=>rw[q] at e;refine⟨v,vs,rfl,h1 F0 H0 F H σ ρ v t ρ1 _ s a q fun σ' s'=>?_⟩;exact h2 F0 H0 F H σ' ρ1 vs ts' ρ' Q s' b e k
@[simp] noncomputable def kL(k:Nat)(m:List T→En→Option En):T→En→Option En
 | .tup ts,ρ=>if ts.length=k then m ts ρ else none
 | _,_=>none
theorem Jt{k:Nat}{g:A4}{m:List T→En→Option En}(h:HZ K g m):J5 K (EW K k g) (kL k m):=fun F0 H0 F H σ ρ x t ρ' Q s r e q=>by
 cases r with
 | tup hx rs=>
  rename_i a xs ts;have e:(if ts.length=k then m ts ρ else none)=some ρ':=e;by_cases hk:ts.length=k
  ·rw[aP hk] at e;exact⟨_,_,rfl,kR.of (s.gr.fh _ _ hx),by rw[rs.length];exact hk,h F0 H0 F H σ ρ _ _ ρ' Q s rs e q⟩
  ·rw[aQ hk] at e;cases e
 | _=>cases e
noncomputable def iA(m:T→En→Option En)(g:En→O):List T→En→O
 | [],ρ=>.nx ρ
 | t::ts,ρ=>match m t ρ with
  | none=>.bad
  | some ρ1=>match g ρ1 with
   | .nx ρ2=>iA m g ts ρ2
   | .ct ρ2=>iA m g ts ρ2
   | .bk ρ2=>.nx ρ2
   | o=>o
theorem BP{g:TG}{tb:TS}{m:T→En→Option En}{gb:En→O}{J:It}{its:List T}(hg:J5 K g m)(hb:MS K E tb gb){G:Hp→Hp→Prop}(igo:∀i F H,G F H→i<its.length→J.go i H)(isp:∀F H,G F H→J.stop its.length H)(iyl:∀(i:Nat) t F H x H',G F H→its[i]? = some t→J.yld i H x H'→∃F',Gr F H F' H'∧jT K F' x t)
  (hG:∀F' H' σ' ρ',fv F1 F'→Sr K F0 H0 F' H' σ' ρ'→G F' H') (r:Sr K F0 H0 F H σ ρ) (s1:fv F1 F)
  (q:(iA m gb its ρ).res K E F0 H0 F D):∃W:Nat→Nat→St→Hp→Prop,(∃m,W 0 m σ H)∧∀i m σ H,W i m σ H→
 (J.stop i H∧D.nx σ H)∨(J.go i H∧∃N:St→Hp→Prop,(∀σ' H',N σ' H'→∃m',m'<m∧W (i+1) m' σ' H')∧∀x H',J.yld i H x H'→g x σ H' fun σ2 H2=>tb {D with nx:=N,ct:=N,bk:=D.nx} σ2 H2):=by
 refine⟨fun i k σ' H'=>i≤its.length∧k=its.length - i∧∃F' ρ',fv F1 F'∧Sr K F0 H0 F' H' σ' ρ'∧(iA m gb (its.drop i) ρ').res K E F0 H0 F' D,⟨_,bA _,rfl,F,ρ,s1,r,by simpa using q⟩,?_⟩
 rintro i k σ1 Hh ⟨hi,rfl,F2,ρ2,s2,r2,q2⟩
 by_cases hlt:i<its.length
 ·right;refine⟨igo i F2 Hh (hG _ _ _ _ s2 r2) hlt,fun σ' H'=>∃F' ρ',fv F1 F'∧Sr K F0 H0 F' H' σ' ρ'∧(iA m gb (its.drop (i+1)) ρ').res K E F0 H0 F' D,fun σ' H' z=>⟨its.length - (i+1),by omega,hlt,rfl,z⟩,fun x H' y=>?_⟩;have et:its[i]? = some its[i]:=ag hlt;obtain⟨F3,g3,rp⟩:=iyl i _ F2 Hh x H' (hG _ _ _ _ s2 r2) et y;rw[cw hlt] at q2;unfold iA at q2;cases em:m its[i] ρ2 with
  | none=>rw[em] at q2;exact q2.elim
  | some ρ3=>
   rw[em] at q2;refine hg F0 H0 F3 H' σ1 ρ2 x _ ρ3 _ (r2.grow g3) rp em fun σ' r'=>?_;refine hb F0 H0 F3 H' σ' ρ3 _ r' ?_;dsimp only at q2;cases eb:gb ρ3 with
   | bad=>rw[eb] at q2;exact q2.elim
   | nx ρ4=>rw[eb] at q2;exact fun F' H'' σ'' s r''=>⟨F',ρ4,(s2.trans g3.ff).trans s,r'',O.res.go q2 (g3.ff.trans s)⟩
   | ct ρ4=>rw[eb] at q2;exact fun F' H'' σ'' s r''=>⟨F',ρ4,(s2.trans g3.ff).trans s,r'',O.res.go q2 (g3.ff.trans s)⟩
   | bk ρ4=>rw[eb] at q2;exact kN.go q2 g3.ff
   | rt t=>rw[eb] at q2;exact q2
   | rf ts=>rw[eb] at q2;exact q2
   | er C n=>rw[eb] at q2;exact q2
 ·left;have e:i=its.length:=by omega
  subst e;refine⟨isp F2 Hh (hG _ _ _ _ s2 r2),?_⟩;rw[List.drop_length] at q2;exact (q2:kN K F0 H0 F2 D.nx ρ2) F2 Hh σ1 (.refl _) r2
theorem xK{g:TG}{tb:TS}{m:T→En→Option En}{gb:En→O}{J:It}{its:List T}(hg:J5 K g m)(hb:MS K E tb gb)(iok:wJ K J its F1)(r:Sr K F0 H0 F H σ ρ)(s1:fv F1 F)
  (q:(iA m gb its ρ).res K E F0 H0 F D):∃W:Nat→Nat→St→Hp→Prop,(∃m,W 0 m σ H)∧∀i m σ H,W i m σ H→
 (J.stop i H∧D.nx σ H)∨(J.go i H∧∃N:St→Hp→Prop,(∀σ' H',N σ' H'→∃m',m'<m∧W (i+1) m' σ' H')∧∀x H',J.yld i H x H'→g x σ H' fun σ2 H2=>tb {D with nx:=N,ct:=N,bk:=D.nx} σ2 H2):=
 BP (G:=fun F H=>fv F1 F∧fv F H) hg hb (fun i F H q hi=>iok.go i H (q.1.trans q.2) hi) (fun F H q=>iok.stop H (q.1.trans q.2)) (fun i t F H x H' q e y=>iok.yld i t F H x H' q.1 q.2 e y) (fun _ _ _ _ s r=>⟨s,r.gr.fh⟩) r s1 q
@[simp] noncomputable def kM(fi:Pe→M (List T))(m:T→En→Option En)(g:En→O):En→O:=fun ρ=>.of (fi (kf ρ)) fun its=>iA m g its ρ
theorem LI{w:TI}{fi:Pe→M (List T)}{g:TG}{tb:TS}{m:T→En→Option En}{gb:En→O}(hi:MI K E w fi)(hg:J5 K g m)(hb:MS K E tb gb):MS K E (Hj w g tb) (kM fi m gb):=fun F0 H0 F H σ ρ D r q=>hi F H σ (kf ρ) _ r.gr.fh r.vars ((O.res_of q).mono (fun its z J F' H' gr iok=>xK hg hb iok (r.grow gr) (.refl _) (z.go gr.ff)) fun C n z=>z.go r.gr)
@[simp] noncomputable def ox(fi:Pe→M (List T))(m:T→En→Option En)(g:En→O):En→O:=fun ρ=>.of (fi (vw ρ)) fun its=>iA m g its ρ
theorem Kr{w:TI}{fi:Pe→M (List T)}{g:TG}{tb:TS}{m:T→En→Option En}{gb:En→O}(hi:Os K E w fi)(hg:J5 K g m)(hb:MS K E tb gb):MS K E (Hj w g tb) (ox fi m gb):=fun F0 H0 F H σ ρ D r q=>by obtain⟨Fl,s0,g0,V,back⟩:=r.lend;refine hi Fl H σ (vw ρ) _ g0.fh V ((O.res_of q).mono (fun its z J F' H' gr iok=>?_) fun C n z=>z.go g0);obtain⟨Fb,gb',sb,_⟩:=back F' H' gr;exact xK hg hb (iok Fb) (r.grow gb') (.refl _) (z.go sb)
noncomputable def kh(c:Pe→M Bool)(g:En→O):Nat→En→O
 | 0,_=>.bad
 | n+1,ρ=>.of (c (vw ρ)) fun b=>if b then (match g ρ with
   | .nx ρ2=>kh c g n ρ2
   | .ct ρ2=>kh c g n ρ2
   | .bk ρ2=>.nx ρ2
   | o=>o) else .nx ρ
theorem HU{c:TT}{fc:Pe→M Bool}{tb:TS}{gb:En→O}(fuel:En→Nat)(hc:MT K E c fc)(hb:MS K E tb gb):MS K E (CP c tb) (fun ρ=>kh fc gb (fuel ρ) ρ):=fun F0 H0 F H σ ρ D r q=>by
 refine⟨fun n σ' H'=>∃F' ρ',fv F F'∧Sr K F0 H0 F' H' σ' ρ'∧(kh fc gb n ρ').res K E F0 H0 F' D,⟨fuel ρ,F,ρ,.refl _,r,q⟩,?_⟩;rintro n σ1 Hh ⟨F2,ρ2,s2,r2,q2⟩;cases n with
 | zero=>exact q2.elim
 | succ n=>
  unfold kh at q2;refine hc.inS r2 q2 fun b F3 H3 s3 r3 q3=>?_;cases b with
  | true=>
   rw[aP rfl] at q3 ⊢;refine⟨fun σ' H'=>∃F' ρ',fv F F'∧Sr K F0 H0 F' H' σ' ρ'∧(kh fc gb n ρ').res K E F0 H0 F' D,fun σ' H' z=>⟨n,bz n,z⟩,?_⟩;refine hb F0 H0 F3 H3 σ1 ρ2 _ r3 ?_;cases eb:gb ρ2 with
   | bad=>rw[eb] at q3;exact q3.elim
   | nx ρ4=>rw[eb] at q3;exact fun F' H'' σ'' s r''=>⟨F',ρ4,(s2.trans s3).trans s,r'',O.res.go q3 s⟩
   | ct ρ4=>rw[eb] at q3;exact fun F' H'' σ'' s r''=>⟨F',ρ4,(s2.trans s3).trans s,r'',O.res.go q3 s⟩
   | bk ρ4=>rw[eb] at q3;exact q3
   | rt t=>rw[eb] at q3;exact q3
   | rf ts=>rw[eb] at q3;exact q3
   | er C n=>rw[eb] at q3;exact q3
  | false=>rw[aQ aG] at q3 ⊢;exact (q3:kN K F0 H0 F3 D.nx ρ2) F3 H3 σ1 (.refl _) r3
@[simp] noncomputable def lJ(ix:List (Option Nat))(ρ:Pe):Pe:=ix.map fun
 | none=>none
 | some j=>(ρ[j]?).getD none
theorem jW.pull{σ:St}{ρ:Pe}(V:jW K F σ ρ)(ix:List (Option Nat)):jW K F (L2.pull ix σ) (lJ ix ρ):=fun i t e=>by
 unfold lJ at e;rw[av] at e;cases q:ix[i]? with
 | none=>rw[q] at e;cases e
 | some w=>
  rw[q] at e;cases w with
  | none=>cases e
  | some j=>
   have e':(ρ[j]?).getD none=some t:=by simpa using e
   cases z:ρ[j]? with
   | none=>rw[z] at e';cases e'
   | some y=>rw[z] at e';have:y=some t:=e';rw[this] at z;obtain⟨v,a,b⟩:=V j t z;refine⟨v,?_,b⟩;show (L2.pull ix σ)[i]? = _;unfold L2.pull;rw[av,q];simp[a]
@[simp] noncomputable def qc(m:T→Pe→Option Pe)(tt:Pe→M Bool)(te:Pe→M T)(ρ:Pe)(t:T):M (Option T):=match m t ρ with
 | none=>.bad
 | some ρ1=>(tt ρ1).bind fun b=>if b then (te ρ1).bind fun x=>.ok (some x) else .ok none
noncomputable def oj(k:T→M (Option T)):List T→M (List T)
 | []=>.ok []
 | t::ts=>(k t).bind fun o=>(oj k ts).bind fun r=>.ok (match o with
  | some x=>x::r
  | none=>r)
noncomputable def K8:XK:=fun _ _ _=>False
theorem Nz:MT K E LD (fun _=>.ok true):=fun F H σ ρ Q s V q=>(q:kB F H Q true) F H (.refl s)
theorem HD{ix:List (Option Nat)}{g:TG}{tt:TT}{te:TE}{m:T→Pe→Option Pe}{ft:Pe→M Bool}{fe:Pe→M T}{J:It}{its:List T}{ρ:Pe}{Q:VK}(hg:MG K g m)(ht:MT K K8 tt ft)(he:ME K K8 te fe)(V:jW K F1 σ ρ)
  (iok:wJ K J its F1) (s:fv F1 H1) (hl:its.length<sizeLine) (q:(oj (qc m ft fe (lJ ix ρ)) its).res (kF K F1 H1 Q) (fun _ _=>False)):Qz J ix g tt te σ H1 Q:=by
 refine⟨fun i k ys H=>i≤its.length∧k=its.length - i∧∃F' ts,Gr F1 H1 F' H∧eZ K F' ys ts∧ts.length≤i∧(oj (qc m ft fe (lJ ix ρ)) (its.drop i)).res (fun us=>kF K F1 H1 Q (ts++us)) (fun _ _=>False),
  ⟨_,bA _,rfl,F1,[],.refl s,.nil,bA _,by simpa using q⟩,?_⟩
 rintro i k ys Hh ⟨hi,rfl,F2,ts,g2,r2,tl,q2⟩;by_cases hlt:i<its.length
 ·right;refine⟨iok.go i Hh (g2.ff.trans g2.fh) hlt,by rw[r2.length];omega,fun x H' y=>?_⟩;have et:its[i]? = some its[i]:=ag hlt;obtain⟨F3,g3,rp⟩:=iok.yld i _ F2 Hh x H' g2.ff g2.fh et y;rw[cw hlt] at q2;unfold oj at q2;have q3:=M.res.unb q2;unfold qc at q3;cases em:m its[i] (lJ ix ρ) with
  | none=>rw[em] at q3;exact q3.elim
  | some ρ3=>
   rw[em] at q3;have g23:=g2.trans g3;have V3:jW K F3 (L2.pull ix σ) (lJ ix ρ):=(V.mono g23.ff).pull ix;refine hg F3 H' _ _ x _ ρ3 _ g3.fh (by simp[L2.pull,lJ]) V3 rp em fun σ' hl' V'=>?_;have q4:=M.res.unb q3;refine ht F3 H' σ' ρ3 _ g3.fh V' (q4.mono (fun b z F4 H4 g4=>?_) fun _ _ z=>z.elim);cases b with
   | true=>rw[aP rfl] at z ⊢;have q5:=M.res.unb z;refine he F4 H4 σ' ρ3 _ g4.fh (V'.mono g4.ff) (q5.mono (fun x' z' v F5 H5 g5 rp'=>?_) fun _ _ z=>z.elim);refine⟨its.length - (i+1),by omega,hlt,rfl,F5,ts++[x'],(g23.trans g4).trans g5,(r2.mono (g3.ff.trans (g4.ff.trans g5.ff))).append (.cons rp' .nil),by simp;omega,?_⟩;have z'':(oj (qc m ft fe (lJ ix ρ)) (its.drop (i+1))).res (fun us=>kF K F1 H1 Q (ts++(x'::us))) (fun _ _=>False):=M.res.unb z';exact z''.mono (fun us w=>by rw[List.append_assoc];exact w) fun _ _ w=>w
   | false=>rw[aQ aG] at z ⊢;refine⟨its.length - (i+1),by omega,hlt,rfl,F4,ts,g23.trans g4,r2.mono (g3.ff.trans g4.ff),by omega,?_⟩;exact M.res.unb z
 ·left;have e:i=its.length:=by omega
  subst e;rw[List.drop_length] at q2;refine⟨iok.stop Hh (g2.ff.trans g2.fh),fun D hD=>?_⟩;have q3:kF K F1 H1 Q ts:=by simpa[oj,M.res] using q2
  exact q3 D ys F2 _ (g2.trans (.new' g2.fh hD)) (fg g2.hh hD) (fg g2.fh hD) eP r2
theorem K3{ix:List (Option Nat)}{w:TI}{g:TG}{tt:TT}{te:TE}{fi:Pe→M (List T)}{m:T→Pe→Option Pe}{ft:Pe→M Bool}{fe:Pe→M T}(hi:MI K E w fi)(hg:MG K g m)(ht:MT K K8 tt ft)(he:ME K K8 te fe) :
  MF K E (Ma ix w g tt te) (fun ρ=>(fi ρ).bind fun its=>(if its.length<sizeLine then oj (qc m ft fe (lJ ix ρ)) its else .bad).noEr):=fun F H σ ρ Q s V q=>by
 refine hi F H σ ρ _ s V ((M.res.unb q).mono (fun its z J F' H' gr iok=>?_) fun _ _ z=>z);split at z
 ·rename_i hl;exact HD hg ht he (V.mono gr.ff) iok gr.fh hl (z.noEr.mono (fun _ w=>w.go gr) fun _ _ w=>w)
 ·exact z.elim
end
end L3
namespace L3
open PySem L2
section
variable {K:W.Frag}{E:XK}{t u ta tb:TE}{f fa fb:Pe→M T}{F0:Fz}{H0 F H F1 H1:Hp}{σ:St}{ρ:En}{D:yz}
def gA(K:W.Frag)(F:List T→M T):Sp:=fun vs H Q E=>∃ts F0,fv F0 H∧eZ K F0 vs ts∧(F ts).res (kV K F0 H Q) (kE E F0 H)
def pC(K:W.Frag)(F:List T→M (List T)):Sp:=fun vs H Q E=>∃ts F0,fv F0 H∧eZ K F0 vs ts∧(F ts).res (kF K F0 H Q) (kE E F0 H)
@[simp] noncomputable def eD(fa:Pe→M (List T))(F:List T→M T):Pe→M T:=fun ρ=>(fa ρ).bind fun ts=>(F ts).noEr
@[simp] noncomputable def ig(fa:Pe→M (List T))(F:List T→M (List T)):Pe→M (List T):=fun ρ=>(fa ρ).bind fun ts=>(F ts).noEr
section
variable {tr:TA}{fr:Pe→M (List T)}{Fn:List T→M T}{Ff:List T→M (List T)}{E':XK}
theorem Hz(ha:MA K E tr fr):ME K E (xv (gA K Fn) [] E' tr) (eD fr Fn):=fun F H σ ρ Q s V q=>by refine ha.run s V q fun ts vs F1 H1 g1 r1 q1=>?_;exact⟨ts,F1,g1.fh,by rw[bB];exact r1,(q1.mono (fun _ z=>kV.go z g1) fun _ _ z=>z).noEr⟩
theorem GK(ha:MA K E tr fr):MF K E (xv (pC K Ff) [] E' tr) (ig fr Ff):=fun F H σ ρ Q s V q=>by refine ha.run s V q fun ts vs F1 H1 g1 r1 q1=>?_;exact⟨ts,F1,g1.fh,by rw[bB];exact r1,(q1.mono (fun _ z=>kF.go z g1) fun _ _ z=>z).noEr⟩
@[simp] noncomputable def rJ(C:Addr)(m:Str)(x:T):M Unit:=match x with
 | .obj C' fs=>if C'=C∧fs.lookup m=none then .ok () else .bad
 | _=>.bad
@[simp] noncomputable def pN(C:Addr)(m:Str)(fo:Pe→M T)(fr:Pe→M (List T))(F:List T→M T):Pe→M T:=fun ρ=>(fo ρ).bind fun x=>(rJ C m x).bind fun _=>(fr ρ).bind fun xs=>(F (x::xs)).noEr
@[simp] noncomputable def rE(C:Addr)(m:Str)(fo:Pe→M T)(fr:Pe→M (List T))(F:List T→M (List T)):Pe→M (List T):=fun ρ=>(fo ρ).bind fun x=>(rJ C m x).bind fun _=>(fr ρ).bind fun xs=>(F (x::xs)).noEr
theorem Da{C:Addr}{m:Str}{x:T}{v:V}(r:jT K F v x)(e:rJ C m x=.ok ()):∃a dx fs,v=.ref a∧F a=some (.ins C dx fs)∧fs.lookup m=none:=by
 cases r with
 | obj h rs=>
  rename_i a C' dx fs ts;have e:(if C'=C∧List.lookup m ts=none then M.ok () else M.bad)=.ok ():=e;by_cases hc:C'=C∧List.lookup m ts=none
  ·obtain⟨rfl,hl⟩:=hc;exact⟨a,dx,fs,rfl,h,rs.none_ hl⟩
  ·rw[aQ hc] at e;cases e
 | _=>cases e
theorem Di{C C':Addr}{m:Str}{x:T}{n:Option Int}:rJ C m x≠.er C' n:=by
 unfold rJ;split
 ·split<;>exact fun z=>nomatch z
 ·exact fun z=>nomatch z
theorem Ik{C:Addr}{m:Str}(ho:ME K E ta fa)(hr:MA K E tr fr):ME K E (xQ C m (gA K Fn) [] E' ta tr) (pN C m fa fr Fn):=fun F H σ ρ Q s V q=>by
 refine ho.run s V q fun x v F1 H1 g1 r1 q1=>?_;cases e:rJ C m x with
 | bad=>rw[e] at q1;exact q1.elim
 | er C n=>exact absurd e Di
 | ok u=>rw[e] at q1;obtain⟨a,dx,fs,rfl,h,hl⟩:=Da r1 e;refine⟨a,dx,fs,rfl,g1.fh _ _ h,hl,?_⟩;refine hr.run (P:=kV K F _ Q) g1.fh (V.mono g1.ff) q1 fun ts vs F2 H2 g2 r2 q2=>?_;exact⟨x::ts,F2,g2.fh,by rw[bB];exact .cons (r1.mono g2.ff) r2,(q2.mono (fun _ z=>kV.go z (g1.trans g2)) fun _ _ z=>z).noEr⟩
theorem Hw{C:Addr}{m:Str}(ho:ME K E ta fa)(hr:MA K E tr fr):MF K E (xQ C m (pC K Ff) [] E' ta tr) (rE C m fa fr Ff):=fun F H σ ρ Q s V q=>by
 refine ho.run s V q fun x v F1 H1 g1 r1 q1=>?_;cases e:rJ C m x with
 | bad=>rw[e] at q1;exact q1.elim
 | er C n=>exact absurd e Di
 | ok u=>rw[e] at q1;obtain⟨a,dx,fs,rfl,h,hl⟩:=Da r1 e;refine⟨a,dx,fs,rfl,g1.fh _ _ h,hl,?_⟩;refine hr.run (P:=kF K F _ Q) g1.fh (V.mono g1.ff) q1 fun ts vs F2 H2 g2 r2 q2=>?_;exact⟨x::ts,F2,g2.fh,by rw[bB];exact .cons (r1.mono g2.ff) r2,(q2.mono (fun _ z=>kF.go z (g1.trans g2)) fun _ _ z=>z).noEr⟩
end
@[simp] noncomputable def PX:O→M T
 | .nx _=>.ok .non
 | .rt t=>.ok t
 | .rf ts=>.ok (.lst ts)
 | .er C n=>.er C n
 | _=>.bad
@[simp] noncomputable def Qi:O→M (List T)
 | .rf ts=>.ok ts
 | .er C n=>.er C n
 | _=>.bad
@[simp] noncomputable def fQ(n:Nat)(ts:List T):En:=ts.map (fun t=>some (W.p t))++List.replicate (n - ts.length) none
@[simp] noncomputable def j7(k n:Nat)(g:En→O):List T→M T:=fun ts=>if ts.length=k then PX (g (fQ n ts)) else .bad
@[simp] noncomputable def yG(k n:Nat)(g:En→O):List T→M (List T):=fun ts=>if ts.length=k then Qi (g (fQ n ts)) else .bad
theorem xX{n i:Nat}{ts:List T}{kvs:List (List Int×T)}(e:(fQ n ts)[i]? = some (some (.d kvs))):False:=by
 unfold fQ at e;rw[List.getElem?_append] at e;split at e
 ·rw[av] at e;cases q:ts[i]? with
  | none=>rw[q] at e;cases e
  | some x=>rw[q] at e;cases e
 ·rw[List.getElem?_replicate] at e;split at e<;>cases e
theorem AL{N:List Str}{vs:List V}{ts:List T}(s:fv F H)(r:eZ K F vs ts):Sr K ⟨F,[]⟩ H F H (kQ N vs) (fQ N.length ts):=by
 refine⟨.refl s,?_,fun i t e=>?_,⟨fun _=>0,fun i us e=>?_,fun i j us ws e=>?_⟩,fun _ he=>(nomatch he),fun _ _ _ h=>(by cases h),⟨fun i kvs e=>(xX e).elim,fun i j kvs kvs' e=>(xX e).elim⟩⟩
 ·simp[L2.kQ,fQ,r.length]
 ·unfold fQ at e;rw[List.getElem?_append] at e;split at e
  ·rename_i hi;rw[av] at e;cases q:ts[i]? with
   | none=>rw[q] at e;cases e
   | some x=>rw[q] at e;cases e;obtain⟨v,a,b⟩:=r.get q;refine⟨v,?_,b⟩;unfold L2.kQ;rw[List.getElem?_append_left (by simpa[r.length] using hi),av,a];rfl
  ·rw[List.getElem?_replicate] at e;split at e<;>cases e
 ·exfalso;unfold fQ at e;rw[List.getElem?_append] at e;split at e
  ·rw[av] at e;cases q:ts[i]? with
   | none=>rw[q] at e;cases e
   | some x=>rw[q] at e;cases e
  ·rw[List.getElem?_replicate] at e;split at e<;>cases e
 ·exfalso;unfold fQ at e;rw[List.getElem?_append] at e;split at e
  ·rw[av] at e;cases q:ts[i]? with
   | none=>rw[q] at e;cases e
   | some x=>rw[q] at e;cases e
  ·rw[List.getElem?_replicate] at e;split at e<;>cases e
theorem By{k n:Nat}{g:En→O}{vs:List V}{Q:VK}(h:gA K (j7 k n g) vs H Q E):vs.length=k:=by
 obtain⟨ts,F0,s,r,q⟩:=h;unfold j7 at q;by_cases hk:ts.length=k
 ·rw[r.length];exact hk
 ·rw[aQ hk] at q;exact q.elim
theorem zb{k:Nat}{N:List Str}{g:En→O}{t:TS}{vs:List V}{Q:VK}(hm:MS K E t g)(h:gA K (j7 k N.length g) vs H Q E):t {nx:=fun _ H'=>Q .non H',rt:=Q} (kQ N vs) H:=by
 obtain⟨ts,F0,s,r,q⟩:=h;unfold j7 at q;by_cases hk:ts.length=k
 ·rw[aP hk] at q;refine hm ⟨F0,[]⟩ H F0 H _ _ _ (AL s r) ?_;cases e:g (fQ N.length ts) with
  | bad=>rw[e] at q;exact q
  | nx ρ=>rw[e] at q;exact fun F' H' σ' _ r'=>(q:kV K F0 H Q .non) .non F' H' r'.gr .non
  | rt t=>rw[e] at q;exact q
  | rf ts=>rw[e] at q;exact kF.of q
  | bk ρ=>rw[e] at q;exact q.elim
  | ct ρ=>rw[e] at q;exact q.elim
  | er C n=>rw[e] at q;exact q
 ·rw[aQ hk] at q;exact q.elim
theorem Dl{k n:Nat}{g:En→O}{vs:List V}{Q:VK}(h:pC K (yG k n g) vs H Q E):vs.length=k:=by
 obtain⟨ts,F0,s,r,q⟩:=h;unfold yG at q;by_cases hk:ts.length=k
 ·rw[r.length];exact hk
 ·rw[aQ hk] at q;exact q.elim
theorem An{k:Nat}{N:List Str}{g:En→O}{t:TS}{vs:List V}{Q:VK}(hm:MS K E t g)(h:pC K (yG k N.length g) vs H Q E):t {nx:=fun _ H'=>Q .non H',rt:=Q} (kQ N vs) H:=by
 obtain⟨ts,F0,s,r,q⟩:=h;unfold yG at q;by_cases hk:ts.length=k
 ·rw[aP hk] at q;refine hm ⟨F0,[]⟩ H F0 H _ _ _ (AL s r) ?_;cases e:g (fQ N.length ts) with
  | bad=>rw[e] at q;exact q
  | nx ρ=>rw[e] at q;exact q.elim
  | rt t=>rw[e] at q;exact q.elim
  | rf ts=>rw[e] at q;exact q
  | bk ρ=>rw[e] at q;exact q.elim
  | ct ρ=>rw[e] at q;exact q.elim
  | er C n=>rw[e] at q;exact q
 ·rw[aQ hk] at q;exact q.elim
@[simp] noncomputable def Ar(C:Addr)(x:Str)(fa:Pe→M T):Pe→M T:=fun ρ=>(fa ρ).bind fun o=>match o with
 | .obj C' fs=>if C'=C then (match fs.lookup x with
  | some t=>.ok t
  | none=>.bad) else .bad
 | _=>.bad
theorem NK{C:Addr}{x:Str}(cl:Ae K C)(na:lq K C x)(ha:ME K E ta fa):ME K E (Lz K ta x) (Ar C x fa):=fun F H σ ρ Q s V q=>by
 refine ha.run s V q fun o v F1 H1 g1 r1 q1=>?_;cases r1 with
 | obj h rs=>
  rename_i a C' dx fs ts;dsimp only at q1;by_cases hc:C'=C
  ·subst hc;rw[aP rfl] at q1;cases e:List.lookup x ts with
   | none=>rw[e] at q1;exact q1.elim
   | some y=>rw[e] at q1;obtain⟨w,e',r'⟩:=rs.look e;exact⟨a,C',dx,fs,w,rfl,g1.fh _ _ h,cl,na,e',(q1:kV K F _ Q y) w F1 H1 g1 r'⟩
  ·rw[aQ hc] at q1;exact q1.elim
 | _=>exact q1.elim
end
end L3
namespace L3
open PySem L2 PySem.Spec PyProof.Rows
structure Pm(K:W.Frag)(E:XK)(X:Cx)(e:Expr)(t:TE)(f:Pe→M T):Prop where
 pe:PE X e t
 me:ME K E t f
structure FD(K:W.Frag)(E:XK)(X:Cx)(e:Expr)(t:TE)(f:Pe→M (List T)):Prop where
 pe:PE X e t
 mf:MF K E t f
structure Ba(K:W.Frag)(E:XK)(X:Cx)(e:Expr)(t:TT)(f:Pe→M Bool):Prop where
 pt:PT X e t
 mt:MT K E t f
structure ND(K:W.Frag)(E:XK)(X:Cx)(e:Expr)(t:TT)(f:Pe→M Bool):Prop where
 pw:PW X e t
 mt:MT K E t f
structure A5(K:W.Frag)(E:XK)(X:Cx)(es:List Expr)(t:TA)(f:Pe→M (List T)):Prop where
 pa:PA X es t
 ma:MA K E t f
structure Lj(K:W.Frag)(E:XK)(X:Cx)(tg it:Expr)(w:TI)(f:Pe→M (List T)):Prop where
 pi:PI X tg it w
 mi:MI K E w f
structure tH(K:W.Frag)(E:XK)(X:Cx)(tg it:Expr)(w:TI)(f:Pe→M (List T)):Prop where
 pi:PI X tg it w
 mi:Os K E w f
structure Pc(K:W.Frag)(X:Cx)(tg:Expr)(g:TG)(m:T→Pe→Option Pe):Prop where
 pg:PG X tg g
 mg:MG K g m
structure Kp(K:W.Frag)(X:Cx)(tg:List Expr)(g:A4)(m:List T→Pe→Option Pe):Prop where
 pg:NS X tg g
 mg:Oa K g m
structure NM(K:W.Frag)(X:Cx)(tg:Expr)(g:TG)(m:T→En→Option En):Prop where
 pg:PG X tg g
 mg:J5 K g m
structure Jq(K:W.Frag)(X:Cx)(tg:List Expr)(g:A4)(m:List T→En→Option En):Prop where
 pg:NS X tg g
 mg:HZ K g m
structure t7(K:W.Frag)(E:XK)(X:Cx)(st:Stmt)(t:TS)(g:En→O):Prop where
 ps:PS X st t
 ms:MS K E t g
structure qP(K:W.Frag)(E:XK)(X:Cx)(sts:List Stmt)(t:TS)(g:En→O):Prop where
 ps:Af X sts t
 ms:MS K E t g
def MO(K:W.Frag)(E:XK)(t:TO)(f:Pe→M (Option Int)):Prop:=∀F H σ ρ Q,fv F H→jW K F σ ρ→(f ρ).res (fun o=>∀F' H',Gr F H F' H'→Q o H') (kE E F H)→t σ H Q
structure PJ(K:W.Frag)(E:XK)(X:Cx)(e:Option Expr)(t:TO)(f:Pe→M (Option Int)):Prop where
 po:PO X e t
 mo:MO K E t f
structure Kq(K:W.Frag)(E:XK)(X:Cx)(es:List Expr)(t:TT)(f:Pe→M Bool):Prop where
 pf:EI X es t
 mt:MT K E t f
section
variable {K:W.Frag}{E:XK}{X:Cx}{a b c e o:Expr}{es:List Expr}{ta tb tc te to:TE}{fa fb fc fe fo:Pe→M T}{tr:TA}{fr:Pe→M (List T)}{pos p p2 apos:Pos}
theorem dO(i:Nat){x:Str}{pos:Pos}(hN:X.N[i]? = some x:=by rfl)(hv:OV X.env.scope x:=by first | exact Or.inl rfl | exact Or.inr (Or.inl rfl) | exact Or.inr (Or.inr rfl))(hd:(x == ("__debug__" : Str))=false:=by decide)
  (hcd:(x == ("__classdict__" : Str))=false:=by decide):Pm K E X (.Name x pos) (lO i) (dQ i):=⟨pv i hN hv hd hcd,LV⟩
theorem dX{i:Int}{j pos}:Pm K E X (.Constant (.int i) j pos) (tC (.int i)) (cM (.int i)):=⟨LX,HI fun _=>.int i⟩
theorem jS{b:Bool}{j pos}:Pm K E X (.Constant (.bool b) j pos) (tC (.bl b)) (cM (.bl b)):=⟨Ol,HI fun _=>.bl b⟩
theorem iS{j pos}:Pm K E X (.Constant .none j pos) (tC .non) (cM .non):=⟨NI,HI fun _=>.non⟩
theorem sD{x:Str}{j pos}:Pm K E X (.Constant (.str x) j pos) (tC (.str x)) (cM (.str x)):=⟨LY,HI fun _=>.str x⟩
theorem AI(i:Int){x:Str}(hm:∃t,X.mg x=some (.int i t))(hg:Gl X x:=by rfl)(hd:(x == ("__debug__" : Str))=false:=by decide):Pm K E X (.Name x pos) (tC (.int i)) (cM (.int i)):=let ⟨t,h⟩:=hm;⟨Kt hg h ⟨t,rfl⟩ hd,HI fun _=>.int i⟩
theorem eL{f:Pe→M (List T)}(h:FD K E X e te f):Pm K E X e te (fun ρ=>(f ρ).bind fun ts=>.ok (.lst ts)):=⟨h.pe,h.mf.me⟩
theorem uZ{op:Operator}{r:R2}{m:T→T→M T}(ho:oo X (binaryOp op) r)(hr:MR K r m)(ha:Pm K E X a ta fa)(hb:Pm K E X b tb fb):Pm K E X (.BinOp a op b pos) (wg r ta tb) (eC m fa fb):=⟨GR ho ha.pe hb.pe,DK hr ha.me hb.me⟩
def GT(K:W.Frag):R2:=fun x y H Q=>(Ci fun i j=>.int (i+j)) x y H Q∨(∃i j,x=.str i∧y=.str j∧i.length+j.length≤sizeLine∧Q (.str (i++j)) H)∨M9 x y H Q∨
 ∃a b xs ys,x=.ref a∧y=.ref b∧H a=some (.tup xs)∧H b=some (.tup ys)∧xs.length+ys.length≤sizeLine∧(xs=[]→Q (.ref b) H)∧(xs≠[]→ys=[]→Q (.ref a) H)∧(xs≠[]→ys≠[]→∀p,H p=none→Q (.ref p) (ij H p (.tup (xs++ys))))
theorem Jp(hK:X.K=K:=by rfl):oo X (binaryOp .Add) (GT K):=by
 subst hK;intro dU s σ H x y v u Q I rx ry h;rcases h with h | h | h | h
 ·exact LP dU s σ H x y v u Q I rx ry h
 ·exact CH dU s σ H x y v u Q I rx ry h
 ·exact F8 dU s σ H x y v u Q I rx ry h
 ·obtain⟨a,b,xs,ys,rfl,rfl,ha,hb,hz,q1,q2,q3⟩:=h;by_cases hx:xs=[]
  ·subst hx;cases rx;cases ry;obtain⟨its,r1,p1,_⟩:=I.tuple (kR.of ha);obtain⟨its2,r2,p2,_⟩:=I.tuple (kR.of hb);cases r1;obtain⟨⟨c1,d1,e1,s1⟩,g1,k1,n1,q1'⟩:=id p1;obtain⟨⟨c2,d2,e2,s2⟩,g2,k2,n2,q2'⟩:=id p2;dsimp only at k1 q1' k2 q2';subst k1 q1' k2 q2';exact concat_meets ⟨_,g1,rfl⟩ ⟨_,g2,rfl⟩ noFill_tuple_add seq_tuple_add PySem.F.slot_tuple_add PySem.F.entry_tuple_add (PySem.F.args_tuple_add_2 _ _) (tuple_addW0 a b _ _ n1 n2 d1 d2 s1 s2 (by simp)) ⟨g1,g2,⟨.ref b,H,I,rfl,q1 rfl⟩⟩
  ·exact J4 dU s σ H _ _ v u Q I rx ry ⟨a,b,xs,ys,rfl,rfl,kR.of ha,kR.of hb,hx,hz,fun e=>q2 hx e,fun e p hp=>q3 hx e p hp⟩
noncomputable def gB:T→T→M T
 | .int i,.int j=>.ok (.int (i+j))
 | .str i,.str j=>if i.length+j.length≤sizeLine then .ok (.str (i++j)) else .bad
 | .lst a,.lst b=>if a.length+b.length≤sizeLine then .ok (.lst (a++b)) else .bad
 | .tup a,.tup b=>if a.length+b.length≤sizeLine then .ok (.tup (a++b)) else .bad
 | _,_=>.bad
theorem Jl(x y:T):M.NoE (gB x y):=fun C n=>by unfold gB;split<;>first | (intro z;cases z;done) | (split<;>intro z<;>cases z)
theorem Kb:MR K (GT K) gB:=⟨Jl,fun F H v w x y Q s ra rb q=>by
 cases ra with
 | int i=>
  cases rb with
  | int j=>exact .inl ⟨i,j,rfl,rfl,kV.now q s (.int _)⟩
  | _=>exact q.elim
 | str i=>
  cases rb with
  | str j=>
   have q':(if i.length+j.length≤sizeLine then M.ok (T.str (i++j)) else M.bad).res (kV K F H Q) (fun _ _=>False):=q;by_cases h:i.length+j.length≤sizeLine
   ·rw[aP h] at q';exact .inr (.inl ⟨i,j,rfl,rfl,h,kV.now q' s (.str _)⟩)
   ·rw[aQ h] at q';exact q'.elim
  | _=>exact q.elim
 | lst h1 r1=>
  cases rb with
  | lst h2 r2=>
   rename_i a xs ts b ys us;have q':(if ts.length+us.length≤sizeLine then M.ok (T.lst (ts++us)) else M.bad).res (kV K F H Q) (fun _ _=>False):=q;by_cases h:ts.length+us.length≤sizeLine
   ·rw[aP h] at q';refine .inr (.inr (.inl ⟨a,b,xs,ys,rfl,rfl,s _ _ h1,s _ _ h2,by rw[r1.length,r2.length];exact h,fun p hp=>?_⟩));exact (q':kV K F H Q _) (.ref p) _ _ (.new s hp) (.lst eP ((r1.append r2).mono (Gr.new s hp).ff))
   ·rw[aQ h] at q';exact q'.elim
  | _=>exact q.elim
 | tup h1 r1=>
  cases rb with
  | tup h2 r2=>
   rename_i a xs ts b ys us;have q':(if ts.length+us.length≤sizeLine then M.ok (T.tup (ts++us)) else M.bad).res (kV K F H Q) (fun _ _=>False):=q;by_cases h:ts.length+us.length≤sizeLine
   ·rw[aP h] at q';refine .inr (.inr (.inr ⟨a,b,xs,ys,rfl,rfl,s _ _ h1,s _ _ h2,by rw[r1.length,r2.length];exact h,fun e=>?_,fun _ e=>?_,fun _ _ p hp=>?_⟩))
    ·subst e;cases r1;exact kV.now q' s (.tup h2 r2)
    ·subst e;cases r2;exact kV.now q' s (.tup h1 (by rw[bB];exact r1))
    ·exact (q':kV K F H Q _) (.ref p) _ _ (.new s hp) (.tup eP ((r1.append r2).mono (Gr.new s hp).ff))
   ·rw[aQ h] at q';exact q'.elim
  | _=>exact q.elim
 | _=>exact q.elim⟩
theorem f9(ha:Pm K E X a ta fa)(hb:Pm K E X b tb fb)(hK:X.K=K:=by rfl):Pm K E X (.BinOp a .Add b pos) (wg (GT K) ta tb) (eC gB fa fb):=uZ (Jp hK) Kb ha hb
@[simp] noncomputable def mR(fa fb:Pe→M T):Pe→M (List T):=fun ρ=>(fa ρ).bind fun x=>(fb ρ).bind fun y=>match x,y with
 | .lst a,.lst b=>if a.length+b.length≤sizeLine then .ok (a++b) else .bad
 | _,_=>.bad
theorem lx(ha:Pm K E X a ta fa)(hb:Pm K E X b tb fb):FD K E X (.BinOp a .Add b pos) (wg M9 ta tb) (mR fa fb):=by
 refine⟨GR F8 ha.pe hb.pe,fun F H σ ρ Q s V q=>?_⟩;refine ha.me.run s V q fun x v F1 H1 g1 r1 q1=>?_;refine hb.me.run (P:=kF K F H Q) g1.fh (V.mono g1.ff) q1 fun y w F2 H2 g2 r2 q2=>?_;cases r1 with
 | lst h1 t1=>
  cases r2 with
  | lst h2 t2=>
   rename_i a xs ts b ys us;have q':(if ts.length+us.length≤sizeLine then M.ok (ts++us) else M.bad).res (kF K F H Q) (kE E F2 H2):=q2;by_cases h:ts.length+us.length≤sizeLine
   ·rw[aP h] at q';refine⟨a,b,xs,ys,rfl,rfl,g2.fh _ _ (g2.ff _ _ h1),g2.fh _ _ h2,by rw[t1.length,t2.length];exact h,fun p hp=>?_⟩;have g12:=g1.trans g2;exact (q':kF K F H Q _) p _ F2 _ (g12.trans (.new' g2.fh hp)) (fg g12.hh hp) (fg g2.fh hp) eP ((t1.mono g2.ff).append t2)
   ·rw[aQ h] at q';exact q'.elim
  | _=>exact q2.elim
 | _=>exact q2.elim
noncomputable def mV:T→T→M T:=jR (fun _ _=>true) fun i j=>.int (i - j)
theorem lj(ha:Pm K E X a ta fa)(hb:Pm K E X b tb fb):Pm K E X (.BinOp a .Sub b pos) (wg (Ci fun i j=>.int (i - j)) ta tb) (eC mV fa fb):=uZ Nv (q9 fun _ _ _=>.int _) ha hb
instance {i j:Int}:Decidable (PySem.IntMulOk i j):=inferInstanceAs (Decidable (¬_))
noncomputable def ie:T→T→M T:=jR (fun i j=>decide (PySem.IntMulOk i j)) fun i j=>.int (i*j)
theorem f7(ha:Pm K E X a ta fa)(hb:Pm K E X b tb fb):Pm K E X (.BinOp a .Mult b pos) (wg (rI (fun i j=>PySem.IntMulOk i j) fun i j=>.int (i*j)) ta tb) (eC ie fa fb):=uZ IJ (yQ (fun i j h=>of_decide_eq_true h) fun _ _ _=>.int _) ha hb
noncomputable def oy:T→T→M T:=jR (fun i j=>decide (j≠0)&&!Builtin.divisionGoesByPylong i j) fun i j=>.int (i.fdiv j)
theorem nG(ha:Pm K E X a ta fa)(hb:Pm K E X b tb fb):Pm K E X (.BinOp a .FloorDiv b pos) (wg (rI (fun i j=>j≠0∧Builtin.divisionGoesByPylong i j=false) fun i j=>.int (i.fdiv j)) ta tb) (eC oy fa fb):=uZ Hu (yQ (fun i j h=>by simpa using h) fun _ _ _=>.int _) ha hb
noncomputable def rS:T→T→M T:=jR (fun _ j=>decide (j≠0)) fun i j=>.int (i.fmod j)
theorem oA(ha:Pm K E X a ta fa)(hb:Pm K E X b tb fb):Pm K E X (.BinOp a .Mod b pos) (wg (rI (fun _ j=>j≠0) fun i j=>.int (i.fmod j)) ta tb) (eC rS fa fb):=uZ Kx (yQ (fun i j h=>by simpa using h) fun _ _ _=>.int _) ha hb
noncomputable def tO:T→T→M T:=jR (fun i j=>decide (0≤j)&&decide (j≤1000000)&&decide (i.natAbs<18446744073709551616)) fun i j=>.int (i ^ j.toNat)
theorem Cv(ha:Pm K E X a ta fa)(hb:Pm K E X b tb fb):Pm K E X (.BinOp a .Pow b pos) (wg (rI OS fun i j=>.int (i ^ j.toNat)) ta tb) (eC tO fa fb):=uZ Mt (yQ (fun i j h=>by simp only[bJ,decide_eq_true_eq] at h;exact⟨h.1.1,h.1.2,h.2⟩) fun _ _ _=>.int _) ha hb
theorem lA(ha:Pm K E X a ta fa):Pm K E X (.UnaryOp .USub a pos) (Qd (rU fun i=>.int (-i)) ta) (wj (fun i=>.int (-i)) fa):=⟨N1 LG ha.pe,OZ (fun _ _=>.int _) ha.me⟩
@[simp] noncomputable def jU(fa fb:Pe→M T):Pe→M (List T):=fun ρ=>(fa ρ).bind fun x=>(fb ρ).bind fun y=>match x,y with
 | .lst a,.int k=>if yM k=true∧a.length*k.toNat≤sizeLine then .ok (List.replicate k.toNat a).flatten else .bad
 | _,_=>.bad
theorem lu(ha:Pm K E X a ta fa)(hb:Pm K E X b tb fb):FD K E X (.BinOp a .Mult b pos) (wg Oy ta tb) (jU fa fb):=by
 refine⟨GR MZ ha.pe hb.pe,fun F H σ ρ Q s V q=>?_⟩;refine ha.me.run s V q fun x v F1 H1 g1 r1 q1=>?_;refine hb.me.run (P:=kF K F H Q) g1.fh (V.mono g1.ff) q1 fun y w F2 H2 g2 r2 q2=>?_;cases r1 with
 | lst h1 t1=>
  cases r2 with
  | int k=>
   rename_i a xs ts;have q':(if yM k=true∧ts.length*k.toNat≤sizeLine then M.ok (List.replicate k.toNat ts).flatten else M.bad).res (kF K F H Q) (kE E F2 H2):=q2;by_cases h:yM k=true∧ts.length*k.toNat≤sizeLine
   ·rw[aP h] at q';refine⟨a,k,xs,rfl,rfl,g2.fh _ _ (g2.ff _ _ h1),by have:=o9 h.1;rw[Pp] at this;rw[PF];omega,by have:=o9 h.1;rw[Pp] at this;rw[PF];omega,by rw[t1.length];exact h.2,fun p hp=>?_⟩;have g12:=g1.trans g2;exact (q':kF K F H Q _) p _ F2 _ (g12.trans (.new' g2.fh hp)) (fg g12.hh hp) (fg g2.fh hp) eP ((t1.mono g2.ff).rep k.toNat)
   ·rw[aQ h] at q';exact q'.elim
  | _=>exact q2.elim
 | _=>exact q2.elim
theorem ka(h:Pm K E X e te fe)(he:∀whole,isTrue e X.env whole=(do let v ←whole;standAt e.pos;holding [v] (truthy v)):=by intro _;rfl):Ba K E X e (tB te) (fN fe):=⟨MU h.pe he,G6 h.me⟩
section
variable {tA tD:TT}{fA fD:Pe→M Bool}{rest:List Expr}
theorem iX(h:Ba K E X a tA fA):Ba K E X (.UnaryOp .Not a pos) (Mz tA) (j8 fA):=⟨Mq h.pt,Nk h.mt⟩
theorem pJ(h:ND K E X a tA fA):Ba K E X a tA fA:=⟨PW.pt h.pw,h.mt⟩
theorem kX(h:Ba K E X a tA fA):ND K E X (.BoolOp .And [a] pos) tA fA:=⟨IP h.pt,h.mt⟩
theorem mG(h:Ba K E X a tA fA):ND K E X (.BoolOp .Or [a] pos) tA fA:=⟨Nu h.pt,h.mt⟩
theorem mN(h:Ba K E X a tA fA)(h':ND K E X (.BoolOp .And (b::rest) pos) tD fD):ND K E X (.BoolOp .And (a::b::rest) pos) (Nh tA tD) (kJ fA fD):=⟨NF h.pt h'.pw,LK h.mt h'.mt⟩
theorem oV(h:Ba K E X a tA fA)(h':ND K E X (.BoolOp .Or (b::rest) pos) tD fD):ND K E X (.BoolOp .Or (a::b::rest) pos) (Qk tA tD) (ud fA fD):=⟨OY h.pt h'.pw,Ov h.mt h'.mt⟩
theorem oU{op}(h:Pm K E X a ta fa):Pm K E X (.BoolOp op [a] pos) ta fa:=⟨LW h.pe,h.me⟩
theorem rF(h:Pm K E X a ta fa)(h':Pm K E X (.BoolOp .And (b::rest) pos) tb fb):Pm K E X (.BoolOp .And (a::b::rest) pos) (IC ta tb) (tT fa fb):=⟨Nt h.pe h'.pe,Kl h.me h'.me⟩
theorem GU(h:Pm K E X a ta fa)(h':Pm K E X (.BoolOp .Or (b::rest) pos) tb fb):Pm K E X (.BoolOp .Or (a::b::rest) pos) (Mo ta tb) (MD fa fb):=⟨Ph h.pe h'.pe,Nl h.me h'.me⟩
theorem F7(h:Pm K E X a ta fa):Pm K E X (.UnaryOp .Not a pos) (HS ta) (HN fa):=⟨L4 h.pe,Kg h.me⟩
theorem OB(h:Ba K E X c tA fA)(ha:Pm K E X a ta fa)(hb:Pm K E X b tb fb):Pm K E X (.IfExp c a b pos) (PY tA ta tb) (PH fA fa fb):=⟨GX h.pt ha.pe hb.pe,NU h.mt ha.me hb.me⟩
end
theorem vE{op:CmpOp}{r:R2}{m:T→T→M T}(ho:oo X (compareOp op) r)(hr:MR K r m)(ha:Pm K E X a ta fa)(hb:Pm K E X b tb fb)(hm:behindInMarks op b=false:=by exact rG _):Pm K E X (.Compare a [op] [b] pos) (wg r ta tb) (eC m fa fb):=⟨Jx ho ha.pe hb.pe hm,DK hr ha.me hb.me⟩
theorem fZ{op:CmpOp}{r:R2}{m:T→T→M T}(ho:oo X (compareOp op) r)(hr:MR K r m)(ha:Pm K E X a ta fa)(hb:Pm K E X b tb fb)(hm:behindInMarks op b=false:=by exact rG _):Ba K E X (.Compare a [op] [b] pos) (zN (wg r ta tb)) (fN (eC m fa fb)):=⟨Kj ho ha.pe hb.pe hm,JX (DK hr ha.me hb.me)⟩
noncomputable def C3:T→T→M T:=jR (fun _ _=>true) fun i j=>.bl (decide (i<j))
noncomputable def HL:T→T→M T:=jR (fun _ _=>true) fun i j=>.bl (decide (i≤j))
noncomputable def FB:T→T→M T:=jR (fun _ _=>true) fun i j=>.bl (decide (j<i))
noncomputable def K5:T→T→M T:=jR (fun _ _=>true) fun i j=>.bl (decide (j≤i))
theorem vI:MR K (Ci fun i j=>.bl (decide (i<j))) C3:=q9 fun _ _ _=>.bl _
theorem xF:MR K (Ci fun i j=>.bl (decide (i≤j))) HL:=q9 fun _ _ _=>.bl _
theorem zK:MR K (Ci fun i j=>.bl (decide (j<i))) FB:=q9 fun _ _ _=>.bl _
theorem C8:MR K (Ci fun i j=>.bl (decide (j≤i))) K5:=q9 fun _ _ _=>.bl _
@[simp] noncomputable def Pw(m m':T→T→M T)(fa fb fc:Pe→M T):Pe→M T:=fun ρ=>(fa ρ).bind fun x=>(fb ρ).bind fun y=>(m x y).bind fun z=>match z with
 | .bl true=>(fc ρ).bind fun w=>m' y w
 | .bl false=>.ok (.bl false)
 | _=>.bad
theorem IG{r r':R2}{m m':T→T→M T}(hr:MR K r m)(hr':MR K r' m')(ha:ME K E ta fa)(hb:ME K E tb fb)(hc:ME K E tc fc):ME K E (Bm r r' ta tb tc) (Pw m m' fa fb fc):=fun F H σ ρ Q s V q=>by
 refine ha.run s V q fun x v F1 H1 g1 r1 q1=>?_;refine hb.run (P:=kV K F H Q) g1.fh (V.mono g1.ff) q1 fun y w F2 H2 g2 r2 q2=>?_;refine hr.ok F2 H2 v w x y _ g2.fh (r1.mono g2.ff) r2 (((M.res.unb q2).ne (hr.ne x y)).mono (fun z qz v3 F3 H3 g3 r3=>?_) fun _ _ z=>z);have g123:=(g1.trans g2).trans g3;cases r3 with
 | bl k=>
  refine⟨k,rfl,?_⟩;cases k with
  | true=>rw[aP rfl];have qz':((fc ρ).bind fun w=>m' y w).res (kV K F H Q) (kE E F3 H3):=qz.mono (fun _ z=>z) fun _ _ z=>z.go g3;refine hc.run (P:=kV K F H Q) g3.fh (V.mono g123.ff) qz' fun x4 w4 F4 H4 g4 r4 q4=>?_;exact hr'.ok F4 H4 w w4 y x4 Q g4.fh (r2.mono (g3.ff.trans g4.ff)) r4 ((q4.ne (hr'.ne y x4)).mono (fun _ z=>z.go (g123.trans g4)) fun _ _ z=>z)
  | false=>rw[aQ aG];exact (qz:kV K F H Q _) _ F3 H3 g123 (.bl _)
 | _=>exact qz.elim
theorem Al{op op':CmpOp}{r r':R2}{m m':T→T→M T}(ho:oo X (compareOp op) r)(hr:MR K r m)(ho':oo X (compareOp op') r')(hr':MR K r' m')(ha:Pm K E X a ta fa)(hb:Pm K E X b tb fb)(hc:Pm K E X c tc fc)
  (hm:lastMarks [op,op'] [b,c]=false:=by with_unfolding_all rfl):Pm K E X (.Compare a [op,op'] [b,c] pos) (Bm r r' ta tb tc) (Pw m m' fa fb fc):=⟨FK ho ho' ha.pe hb.pe hc.pe hm,IG hr hr' ha.me hb.me hc.me⟩
mutual
noncomputable def pB:T→T→Bool
 | .non,.non=>true
 | .bl a,.bl b=>a == b
 | .bl a,.int j=>(if a then 1 else 0) == j
 | .int i,.bl b=>i == (if b then 1 else 0)
 | .int i,.int j=>i == j
 | .str x,.str y=>x == y
 | .lst xs,.lst ys=>qm xs ys
 | .tup xs,.tup ys=>qm xs ys
 | _,_=>false
noncomputable def qm:List T→List T→Bool
 | [],[]=>true
 | x::xs,y::ys=>pB x y&&qm xs ys
 | _,_=>false
end
mutual
noncomputable def mz:T→Bool
 | .str x=>PyData.canLay0 (.str x)
 | .lst ts=>ou ts
 | .tup ts=>ou ts
 | .scr _=>false
 | .obj _ _=>false
 | .emp=>false
 | _=>true
noncomputable def ou:List T→Bool
 | []=>true
 | t::ts=>mz t&&ou ts
end
mutual
noncomputable def CO:T→Nat
 | .lst ts=>v7 ts+1
 | .tup ts=>v7 ts+1
 | _=>0
noncomputable def v7:List T→Nat
 | []=>0
 | t::ts=>max (CO t) (v7 ts)
end
mutual
noncomputable def qA:T→PyData
 | .non=>.none
 | .bl b=>.bool b
 | .int i=>.int i
 | .str x=>.str x
 | .lst ts=>.list (rg ts)
 | .tup ts=>.tuple (rg ts)
 | .scr _=>.none
 | .obj _ _=>.none
 | .emp=>.none
noncomputable def rg:List T→List PyData
 | []=>[]
 | t::ts=>qA t::rg ts
end
mutual
theorem Gm{F:Hp}:∀{v:V} {t:T},jT K F v t→mz t=true→DV K F v (qA t)
 | _,_,.non,_=>.non
 | _,_,.bl b,_=>.bl b
 | _,_,.int i,_=>.int i
 | _,_,.str x,_=>.str x
 | _,_,.lst h r,l=>.lst (jI.of h) (Bx r (by simpa[mz] using l))
 | _,_,.tup h r,l=>.tup (kR.of h) (Bx r (by simpa[mz] using l))
 | _,_,.scr _,l=>by simp[mz] at l
 | _,_,.obj _ _,l=>by simp[mz] at l
 | _,_,.emp _,l=>by simp[mz] at l
theorem Bx{F:Hp}:∀{vs:List V} {ts:List T},eZ K F vs ts→ou ts=true→AD K F vs (rg ts)
 | _,_,.nil,_=>.nil
 | _,_,.cons h r,l=>by rw[ou,bJ] at l;exact .cons (Gm h l.1) (Bx r l.2)
end
mutual
theorem yK:∀(t:T),mz t=true→(qA t).canLay0=true
 | .non,_=>rfl
 | .bl b,_=>rfl
 | .int i,_=>rfl
 | .str x,h=>by simpa[mz,qA] using h
 | .lst ts,h=>by rw[qA,PyData.canLay0];exact vg ts (by simpa[mz] using h)
 | .tup ts,h=>by rw[qA,PyData.canLay0];exact vg ts (by simpa[mz] using h)
 | .scr _,h=>by simp[mz] at h
 | .obj _ _,h=>by simp[mz] at h
 | .emp,h=>by simp[mz] at h
theorem vg:∀(ts:List T),ou ts=true→PyData.canLayAll0 (rg ts)=true
 | [],_=>rfl
 | t::ts,h=>by rw[ou,bJ] at h;rw[rg,PyData.canLayAll0,yK t h.1,vg ts h.2];rfl
end
mutual
theorem K0:∀(t:T),(qA t).depth=CO t
 | .non=>rfl
 | .bl b=>rfl
 | .int i=>rfl
 | .str x=>rfl
 | .lst ts=>by rw[qA,PyData.depth,CO,B7 ts]
 | .tup ts=>by rw[qA,PyData.depth,CO,B7 ts]
 | .scr _=>rfl
 | .obj _ _=>rfl
 | .emp=>rfl
theorem B7:∀(ts:List T),PyData.depthAll (rg ts)=v7 ts
 | []=>rfl
 | t::ts=>by rw[rg,PyData.depthAll,v7,K0 t,B7 ts]
end
mutual
theorem K1:∀(x y:T),mz x=true→mz y=true→PyData.eqv (qA x) (qA y)=pB x y
 | .lst xs,.lst ys,a,b=>by rw[qA,qA,PyData.eqv,pB];exact CB xs ys (by simpa[mz] using a) (by simpa[mz] using b)
 | .tup xs,.tup ys,a,b=>by rw[qA,qA,PyData.eqv,pB];exact CB xs ys (by simpa[mz] using a) (by simpa[mz] using b)
 | .scr _,_,a,_=>by simp[mz] at a
 | .obj _ _,_,a,_=>by simp[mz] at a
 | .emp,_,a,_=>by simp[mz] at a
 | .non,y,_,b=>by cases y<;>first | (exfalso;simp[mz] at b;done) | simp[qA,PyData.eqv,pB]
 | .bl _,y,_,b=>by cases y<;>first | (exfalso;simp[mz] at b;done) | simp[qA,PyData.eqv,pB]
 | .int _,y,_,b=>by cases y<;>first | (exfalso;simp[mz] at b;done) | simp[qA,PyData.eqv,pB]
 | .str _,y,_,b=>by cases y<;>first | (exfalso;simp[mz] at b;done) | simp[qA,PyData.eqv,pB]
 | .lst _,.tup _,_,_=>by simp[qA,PyData.eqv,pB]
 | .lst _,.non,_,_=>by simp[qA,PyData.eqv,pB]
 | .lst _,.bl _,_,_=>by simp[qA,PyData.eqv,pB]
 | .lst _,.int _,_,_=>by simp[qA,PyData.eqv,pB]
 | .lst _,.str _,_,_=>by simp[qA,PyData.eqv,pB]
 | .lst _,.scr _,_,b=>by simp[mz] at b
 | .lst _,.obj _ _,_,b=>by simp[mz] at b
 | .lst _,.emp,_,b=>by simp[mz] at b
 | .tup _,.lst _,_,_=>by simp[qA,PyData.eqv,pB]
 | .tup _,.non,_,_=>by simp[qA,PyData.eqv,pB]
 | .tup _,.bl _,_,_=>by simp[qA,PyData.eqv,pB]
 | .tup _,.int _,_,_=>by simp[qA,PyData.eqv,pB]
 | .tup _,.str _,_,_=>by simp[qA,PyData.eqv,pB]
 | .tup _,.scr _,_,b=>by simp[mz] at b
 | .tup _,.obj _ _,_,b=>by simp[mz] at b
 | .tup _,.emp,_,b=>by simp[mz] at b
theorem CB:∀(xs ys:List T),ou xs=true→ou ys=true→PyData.eqvAll (rg xs) (rg ys)=qm xs ys
 | [],[],_,_=>rfl
 | [],_::_,_,_=>by simp[rg,PyData.eqvAll,qm]
 | _::_,[],_,_=>by simp[rg,PyData.eqvAll,qm]
 | x::xs,y::ys,a,b=>by rw[ou,bJ] at a b;rw[rg,rg,PyData.eqvAll,qm,K1 x y a.1 b.1,CB xs ys a.2 b.2]
end
noncomputable def eU(neg:Bool):T→T→M T:=fun x y=>if mz x&&mz y&&decide (CO x≤100) then .ok (.bl (if neg then !pB x y else pB x y)) else .bad
mutual
theorem DV.same{F H:Hp}(s:fv F H):∀{v:V} {d:PyData},DV K F v d→DV K H v d
 | _,_,.non=>.non
 | _,_,.bl b=>.bl b
 | _,_,.int i=>.int i
 | _,_,.str x=>.str x
 | _,_,.lst h r=>.lst (s.seq h) (AD.same s r)
 | _,_,.tup h r=>.tup (s.seqT h) (AD.same s r)
theorem AD.same{F H:Hp}(s:fv F H):∀{v:List V} {d:List PyData},AD K F v d→AD K H v d
 | _,_,.nil=>.nil
 | _,_,.cons h r=>.cons (DV.same s h) (AD.same s r)
end
theorem Jm{neg:Bool}(x y:T):M.NoE (eU neg x y):=fun C n=>by unfold eU;split<;>exact fun z=>nomatch z
theorem DJ(neg:Bool):MR K (Co K neg) (eU neg):=⟨Jm,fun F H v w x y Q s ra rb q=>by
 unfold eU at q;by_cases h:(mz x&&mz y&&decide (CO x≤100))=true
 ·rw[aP h] at q;simp only[bJ,decide_eq_true_eq] at h;refine⟨qA x,qA y,DV.same s (Gm ra h.1.1),DV.same s (Gm rb h.1.2),⟨yK x h.1.1,yK y h.1.2,by rw[K0];exact h.2⟩,?_⟩;rw[K1 x y h.1.1 h.1.2];exact kV.now q s (.bl _)
 ·rw[aQ h] at q;exact q.elim⟩
theorem xu{k:Nat}(hr:hV k X.A)(ha:Pm K E X a ta fa)(hb:Pm K E X b tb fb)(hK:X.K=K:=by rfl)(hm:behindInMarks .Eq b=false:=by exact rG _):Pm K E X (.Compare a [.Eq] [b] pos) (wg (Co K false) ta tb) (eC (eU false) fa fb):=vE (hK▸Iq (Pu hr)) (DJ false) ha hb hm
theorem C2{k:Nat}(hr:hV k X.A)(ha:Pm K E X a ta fa)(hb:Pm K E X b tb fb)(hK:X.K=K:=by rfl)(hm:behindInMarks .NotEq b=false:=by exact rG _):Pm K E X (.Compare a [.NotEq] [b] pos) (wg (Co K true) ta tb) (eC (eU true) fa fb):=vE (hK▸Hs (Pu hr)) (DJ true) ha hb hm
theorem iu{k:Nat}(hr:hV k X.A)(ha:Pm K E X a ta fa)(hb:Pm K E X b tb fb)(hK:X.K=K:=by rfl)(hm:behindInMarks .Eq b=false:=by exact rG _):Ba K E X (.Compare a [.Eq] [b] pos) (zN (wg (Co K false) ta tb)) (fN (eC (eU false) fa fb)):=fZ (hK▸Iq (Pu hr)) (DJ false) ha hb hm
theorem j5{k:Nat}(hr:hV k X.A)(ha:Pm K E X a ta fa)(hb:Pm K E X b tb fb)(hK:X.K=K:=by rfl)(hm:behindInMarks .NotEq b=false:=by exact rG _):Ba K E X (.Compare a [.NotEq] [b] pos) (zN (wg (Co K true) ta tb)) (fN (eC (eU true) fa fb)):=fZ (hK▸Hs (Pu hr)) (DJ true) ha hb hm
@[simp] noncomputable def iV(neg:Bool):T→T→M T:=fun x y=>match y with
 | .non=>.ok (.bl (match x with | .non=>!neg | _=>neg))
 | _=>.bad
theorem CV{neg:Bool}(x y:T):M.NoE (iV neg x y):=fun C n=>by cases y<;>exact fun z=>nomatch z
theorem Bu:MR K (fun x y H Q=>y=.non∧Q (.bl (decide (x=.non))) H) (iV false):=⟨CV,fun F H v w x y Q s ra rb q=>by
 cases rb with
 | non=>refine⟨rfl,?_⟩;cases ra<;>exact kV.now q s (.bl _)
 | _=>exact q.elim⟩
theorem pk:MR K (fun x y H Q=>y=.non∧Q (.bl (!decide (x=.non))) H) (iV true):=⟨CV,fun F H v w x y Q s ra rb q=>by
 cases rb with
 | non=>refine⟨rfl,?_⟩;cases ra<;>exact kV.now q s (.bl _)
 | _=>exact q.elim⟩
noncomputable def iY:T→Bool
 | .non=>true
 | .bl _=>true
 | .int _=>true
 | .str _=>true
 | _=>false
noncomputable def tE(x:T)(ts:List T):Bool:=ts.any fun y=>pB y x
theorem jT.flat{F:Hp}{v:V}{x:T}(r:jT K F v x)(h:iY x=true):pM v=true:=by cases r<;>first | rfl | (simp[iY] at h;done)
theorem eZ.flat{F:Hp}:∀{vs:List V} {xs:List T},eZ K F vs xs→xs.all iY=true→vs.all pM=true
 | _,_,.nil,_=>rfl
 | _,_,.cons h r,q=>by rw[bL,bJ] at q ⊢;exact⟨h.flat q.1,eZ.flat r q.2⟩
theorem Ob{F:Hp}{v w:V}{x y:T}(r:jT K F v x)(r':jT K F w y)(h:iY x=true)(h':iY y=true):IH v w=pB x y:=by cases r<;>first | (exfalso;simp[iY] at h;done) | (cases r'<;>first | (exfalso;simp[iY] at h';done) | rfl | simp[IH,pB])
theorem Hv{F:Hp}{v:V}{x:T}(r:jT K F v x)(h:iY x=true):∀{vs:List V} {xs:List T},eZ K F vs xs→xs.all iY=true→Px v vs=tE x xs
 | _,_,.nil,_=>rfl
 | _,_,.cons q rs,l=>by rw[bL,bJ] at l;have ih:=Hv r h rs l.2;unfold Px tE at ih ⊢;rw[bM,bM,ih,Ob q r l.1 h]
noncomputable def GJ(neg:Bool):T→T→M T:=fun x y=>match y with
 | .lst ts=>if iY x&&ts.all iY then .ok (.bl (if neg then !tE x ts else tE x ts)) else .bad
 | .tup ts=>if iY x&&ts.all iY then .ok (.bl (if neg then !tE x ts else tE x ts)) else .bad
 | _=>.bad
theorem Jj{neg:Bool}(x y:T):M.NoE (GJ neg x y):=fun C n=>by unfold GJ;split<;>first | (intro z;cases z;done) | (split<;>intro z<;>cases z)
theorem N4(neg:Bool):MR K (P8 K neg) (GJ neg):=⟨Jj,fun F H v w x y Q s ra rb q=>by
 cases rb with
 | lst h r=>
  rename_i a xs ts;have q':(if iY x&&ts.all iY then M.ok (T.bl (if neg then !tE x ts else tE x ts)) else M.bad).res (kV K F H Q) (fun _ _=>False):=q;by_cases hc:(iY x&&ts.all iY)=true
  ·rw[aP hc] at q';rw[bJ] at hc;exact⟨a,xs,rfl,.inl (jI.of (s _ _ h)),ra.flat hc.1,r.flat hc.2,by rw[Hv ra hc.1 r hc.2];exact kV.now q' s (.bl _)⟩
  ·rw[aQ hc] at q';exact q'.elim
 | tup h r=>
  rename_i a xs ts;have q':(if iY x&&ts.all iY then M.ok (T.bl (if neg then !tE x ts else tE x ts)) else M.bad).res (kV K F H Q) (fun _ _=>False):=q;by_cases hc:(iY x&&ts.all iY)=true
  ·rw[aP hc] at q';rw[bJ] at hc;exact⟨a,xs,rfl,.inr (kR.of (s _ _ h)),ra.flat hc.1,r.flat hc.2,by rw[Hv ra hc.1 r hc.2];exact kV.now q' s (.bl _)⟩
  ·rw[aQ hc] at q';exact q'.elim
 | _=>exact q.elim⟩
end
end L3
namespace L3
open PySem L2 PySem.Spec PyProof.Rows
section
variable {K:W.Frag}{E:XK}{X:Cx}{a b c e o tg it:Expr}{es:List Expr}{ta tb tc te to:TE}{fa fb fc fe fo:Pe→M T}{tr:TA}{fr:Pe→M (List T)}{pos p p2 apos:Pos}
theorem dR:A5 K E X [] tW dW:=⟨rO,B2⟩
theorem dN(ha:Pm K E X e te fe)(hr:A5 K E X es tr fr)(hs:starEach (e::es) X.env=(false,eval e X.env)::starEach es X.env:=by rfl):A5 K E X (e::es) (pX te tr) (dP fe fr):=⟨nL ha.pe hr.pa hs,Ju ha.me hr.ma⟩
theorem gJ{x1}(h:A5 K E X es tr fr):Pm K E X (.Tuple es x1 pos) (Ln tr) (gX fr):=⟨Mp h.pa,Ms h.ma⟩
theorem fE(h:A5 K E X es tr fr):FD K E X (.List es pos) (Mx tr) (lstM fr):=⟨M6 h.pa,LS h.ma⟩
structure MC(K:W.Frag)(r:List V→Hp→VK→Prop)(o:List T→M T):Prop where
 ne:∀xs,M.NoE (o xs)
 ok:∀F H vs xs Q,fv F H→eZ K F vs xs→(o xs).res (kV K F H Q) (fun _ _=>False)→r vs H Q
structure Qq(K:W.Frag)(r:List V→Hp→VK→Prop)(o:List T→M (List T)):Prop where
 ne:∀xs,M.NoE (o xs)
 ok:∀F H vs xs Q,fv F H→eZ K F vs xs→(o xs).res (kF K F H Q) (fun _ _=>False)→r vs H Q
@[simp] noncomputable def iU(o:List T→M T)(fr:Pe→M (List T)):Pe→M T:=fun ρ=>(fr ρ).bind o
@[simp] noncomputable def EL(o:List T→M (List T))(fr:Pe→M (List T)):Pe→M (List T):=fun ρ=>(fr ρ).bind o
theorem K6{r:List V→Hp→VK→Prop}{o:List T→M T}(hc:MC K r o)(ha:MA K E tr fr):ME K E (Ic r tr) (iU o fr):=fun F H σ ρ Q s V q=>by refine ha.run s V q fun xs vs F1 H1 g1 r1 q1=>?_;exact hc.ok F1 H1 vs xs Q g1.fh r1 ((q1.ne (hc.ne xs)).mono (fun _ z=>z.go g1) fun _ _ z=>z)
theorem NW{r:List V→Hp→VK→Prop}{o:List T→M (List T)}(hc:Qq K r o)(ha:MA K E tr fr):MF K E (Ic r tr) (EL o fr):=fun F H σ ρ Q s V q=>by refine ha.run s V q fun xs vs F1 H1 g1 r1 q1=>?_;exact hc.ok F1 H1 vs xs Q g1.fh r1 ((q1.ne (hc.ne xs)).mono (fun _ z=>z.go g1) fun _ _ z=>z)
section
variable {x:Str}{id T':String}{r:List V→Hp→VK→Prop}{m:List T→M T}{mf:List T→M (List T)}
theorem eT(hc:jz X (.builtin id) r)(hm':MC K r m)(hg:Gl X x)(hm:X.mg x=none)(hv:bootBuiltins x=some (.builtin id))(ha:A5 K E X (e::es) tr fr)(hn:x≠ "__name__" :=by decide)(hdb:(x == ("__debug__" : Str))=false:=by decide)
  (he:starEach (e::es) X.env=(false,eval e X.env)::starEach es X.env:=by rfl) (hpl:(backTo pos (starEach es X.env)).any (·.1)=false:=by rfl):Pm K E X (.Call (.Name x p) (e::es) [] pos) (Ic r tr) (iU m fr):=⟨AA hc hg hm hv ha.pa hn hdb he hpl,K6 hm' ha.ma⟩
theorem jq(hc:jz X (.type T') r)(hm':MC K r m)(hg:Gl X x)(hm:X.mg x=none)(hv:bootBuiltins x=some (.type T'))(ha:A5 K E X (e::es) tr fr)(hn:x≠ "__name__" :=by decide)(hdb:(x == ("__debug__" : Str))=false:=by decide)
  (he:starEach (e::es) X.env=(false,eval e X.env)::starEach es X.env:=by rfl) (hpl:(backTo pos (starEach es X.env)).any (·.1)=false:=by rfl):Pm K E X (.Call (.Name x p) (e::es) [] pos) (Ic r tr) (iU m fr):=⟨rN hc hg hm hv ha.pa hn hdb he hpl,K6 hm' ha.ma⟩
theorem l5(hc:jz X (.type T') r)(hm':Qq K r mf)(hg:Gl X x)(hm:X.mg x=none)(hv:bootBuiltins x=some (.type T'))(ha:A5 K E X (e::es) tr fr)(hn:x≠ "__name__" :=by decide)(hdb:(x == ("__debug__" : Str))=false:=by decide)
  (he:starEach (e::es) X.env=(false,eval e X.env)::starEach es X.env:=by rfl) (hpl:(backTo pos (starEach es X.env)).any (·.1)=false:=by rfl):FD K E X (.Call (.Name x p) (e::es) [] pos) (Ic r tr) (EL mf fr):=⟨rN hc hg hm hv ha.pa hn hdb he hpl,NW hm' ha.ma⟩
end
@[simp] noncomputable def iZ:List T→M T
 | [.lst ts]=>.ok (.int ts.length)
 | [.tup ts]=>.ok (.int ts.length)
 | [.scr ns]=>.ok (.int ns.length)
 | [.str z]=>if z.length≤sizeLine then .ok (.int z.length) else .bad
 | _=>.bad
theorem JP(xs:List T):M.NoE (iZ xs):=fun C n=>by unfold iZ;split<;>first | (intro z;cases z;done) | (split<;>first | (intro z;cases z;done) | (split<;>intro z<;>cases z))
theorem ir:MC K (fun xs H Q=>∃x n,xs=[x]∧LL K x H n∧Q (.int n) H) iZ:=⟨JP,fun F H vs xs Q s r q=>by
 cases r with
 | nil=>exact q.elim
 | cons h t=>
  cases t with
  | cons _ _=>cases h<;>exact q.elim
  | nil=>
   cases h with
   | lst h r=>exact⟨_,_,rfl,.inl ⟨_,jI.of (s _ _ h),rfl⟩,by rw[r.length];exact kV.now q s (.int _)⟩
   | tup h r=>exact⟨_,_,rfl,.inr ⟨_,kR.of (s _ _ h),rfl⟩,by rw[r.length];exact kV.now q s (.int _)⟩
   | scr h=>exact⟨_,_,rfl,.inl ⟨_,s.seq h,rfl⟩,by rw[aw];exact kV.now q s (.int _)⟩
   | str z=>
    have q':(if z.length≤sizeLine then M.ok (T.int z.length) else M.bad).res (kV K F H Q) (fun _ _=>False):=q;by_cases hz:z.length≤sizeLine
    ·rw[aP hz] at q';exact⟨_,z.length,rfl,⟨hz,rfl⟩,kV.now q' s (.int _)⟩
    ·rw[aQ hz] at q';exact q'.elim
   | _=>exact q.elim⟩
@[simp] noncomputable def ED:List T→M T
 | [.int i]=>.ok (.int (if i<0 then -i else i))
 | _=>.bad
theorem JW(xs:List T):M.NoE (ED xs):=fun C n=>by unfold ED;split<;>first | (intro z;cases z;done) | (split<;>first | (intro z;cases z;done) | (split<;>intro z<;>cases z))
theorem Ih:MC K (fun xs H Q=>∃i,xs=[.int i]∧Q (.int (if i<0 then -i else i)) H) ED:=⟨JW,fun F H vs xs Q s r q=>by
 cases r with
 | nil=>exact q.elim
 | cons h t=>
  cases t with
  | cons _ _=>cases h<;>exact q.elim
  | nil=>
   cases h with
   | int i=>exact⟨i,rfl,kV.now q s (.int _)⟩
   | _=>exact q.elim⟩
@[simp] noncomputable def jo:List T→M T
 | [.lst ts]=>.ok (.tup ts)
 | [.tup ts]=>.ok (.tup ts)
 | [.scr ns]=>.ok (.tup (ns.map T.int))
 | _=>.bad
theorem BY(xs:List T):M.NoE (jo xs):=fun C n=>by unfold jo;split<;>first | (intro z;cases z;done) | (split<;>first | (intro z;cases z;done) | (split<;>intro z<;>cases z))
theorem jk:MC K (fun xs H Q=>∃p ys,xs=[.ref p]∧((jI K H p ys∧∀l,H l=none→Q (.ref l) (ij H l (.tup ys)))∨(kR K H p ys∧Q (.ref p) H))) jo:=⟨BY,fun F H vs xs Q s r q=>by
 cases r with
 | nil=>exact q.elim
 | cons h t=>
  cases t with
  | cons _ _=>cases h<;>exact q.elim
  | nil=>
   cases h with
   | lst h r=>exact⟨_,_,rfl,.inl ⟨jI.of (s _ _ h),fun l hl=>(q:kV K F H Q _) (.ref l) _ _ (.new s hl) (.tup eP (r.mono (Gr.new s hl).ff))⟩⟩
   | scr h=>exact⟨_,_,rfl,.inl ⟨s.seq h,fun l hl=>(q:kV K F H Q _) (.ref l) _ _ (.new s hl) (.tup eP (eZ.of_ints _))⟩⟩
   | tup h r=>exact⟨_,_,rfl,.inr ⟨kR.of (s _ _ h),kV.now q s (.tup h r)⟩⟩
   | _=>exact q.elim⟩
@[simp] noncomputable def mv:List T→M (List T)
 | [.lst ts]=>.ok ts
 | [.tup ts]=>.ok ts
 | [.scr ns]=>.ok (ns.map T.int)
 | _=>.bad
theorem Fj(xs:List T):M.NoE (mv xs):=fun C n=>by unfold mv;split<;>first | (intro z;cases z;done) | (split<;>first | (intro z;cases z;done) | (split<;>intro z<;>cases z))
theorem nr:Qq K (fun xs H Q=>∃p ys,xs=[.ref p]∧(jI K H p ys∨kR K H p ys)∧∀l,H l=none→Q (.ref l) (ij H l (.lst ys))) mv:=⟨Fj,fun F H vs xs Q s r q=>by
 cases r with
 | nil=>exact q.elim
 | cons h t=>
  cases t with
  | cons _ _=>cases h<;>exact q.elim
  | nil=>
   cases h with
   | lst h r=>exact⟨_,_,rfl,.inl (jI.of (s _ _ h)),fun l hl=>(q:kF K F H Q _) l _ F _ (.new' s hl) hl (fg s hl) eP r⟩
   | scr h=>exact⟨_,_,rfl,.inl (s.seq h),fun l hl=>(q:kF K F H Q _) l _ F _ (.new' s hl) hl (fg s hl) eP (eZ.of_ints _)⟩
   | tup h r=>exact⟨_,_,rfl,.inr (kR.of (s _ _ h)),fun l hl=>(q:kF K F H Q _) l _ F _ (.new' s hl) hl (fg s hl) eP r⟩
   | _=>exact q.elim⟩
noncomputable def i6:List T→Option (List Int)
 | []=>some []
 | .int i::ts=>(i6 ts).bind fun r=>some (i::r)
 | _::_=>none
theorem qu:∀{ts:List T} {ns:List Int},i6 ts=some ns→ts=ns.map T.int
 | [],_,e=>by cases e;rfl
 | t::ts,ns,e=>by
  cases t with
  | int i=>
   cases q:i6 ts with
   | none=>simp[i6,q] at e
   | some r=>simp[i6,q] at e;subst e;rw[qu q];rfl
  | _=>cases e
@[simp] theorem Fv(ns:List Int):i6 (ns.map T.int)=some ns:=by
 induction ns with
 | nil=>rfl
 | cons n ns ih=>simp[i6,ih]
noncomputable def pW:List T→Option (List Bool)
 | []=>some []
 | .bl i::ts=>(pW ts).bind fun r=>some (i::r)
 | _::_=>none
theorem xZ:∀{ts:List T} {ns:List Bool},pW ts=some ns→ts=ns.map T.bl
 | [],_,e=>by cases e;rfl
 | t::ts,ns,e=>by
  cases t with
  | bl i=>
   cases q:pW ts with
   | none=>simp[pW,q] at e
   | some r=>simp[pW,q] at e;subst e;rw[xZ q];rfl
  | _=>cases e
@[simp] theorem Oq(ns:List Bool):pW (ns.map T.bl)=some ns:=by
 induction ns with
 | nil=>rfl
 | cons n ns ih=>simp[pW,ih]
@[simp] noncomputable def BG:List T→M T
 | [.lst ts]=>match i6 ts with
  | some ns=>.ok (.int ns.sum)
  | none=>.bad
 | _=>.bad
theorem J3(xs:List T):M.NoE (BG xs):=fun C n=>by unfold BG;split<;>first | (intro z;cases z;done) | (split<;>first | (intro z;cases z;done) | (split<;>intro z<;>cases z))
theorem BU:MC K (fun xs H Q=>∃(p:Addr) (ns:List Int),xs=[.ref p]∧jI K H p (ns.map V.int)∧Q (.int ns.sum) H) BG:=⟨J3,fun F H vs xs Q s r q=>by
 cases r with
 | nil=>exact q.elim
 | cons h t=>
  cases t with
  | cons _ _=>cases h<;>exact q.elim
  | nil=>
   cases h with
   | lst h r=>
    rename_i a xs ts;have q':(match i6 ts with | some ns=>M.ok (T.int ns.sum) | none=>M.bad).res (kV K F H Q) (fun _ _=>False):=q;cases e:i6 ts with
    | none=>rw[e] at q';exact q'.elim
    | some ns=>rw[e] at q';rw[qu e] at r;have:=r.ints;subst this;exact⟨a,ns,rfl,jI.of (s _ _ h),kV.now q' s (.int _)⟩
   | _=>exact q.elim⟩
@[simp] noncomputable def yA:List T→M T
 | [.lst ts]=>match pW ts with
  | some ns=>.ok (.bl (ns.all id))
  | none=>.bad
 | _=>.bad
theorem J7(xs:List T):M.NoE (yA xs):=fun C n=>by unfold yA;split<;>first | (intro z;cases z;done) | (split<;>first | (intro z;cases z;done) | (split<;>intro z<;>cases z))
theorem vB:MC K (fun xs H Q=>∃(p:Addr) (bs:List Bool),xs=[.ref p]∧jI K H p (bs.map V.bl)∧Q (.bl (bs.all id)) H) yA:=⟨J7,fun F H vs xs Q s r q=>by
 cases r with
 | nil=>exact q.elim
 | cons h t=>
  cases t with
  | cons _ _=>cases h<;>exact q.elim
  | nil=>
   cases h with
   | lst h r=>
    rename_i a xs ts;have q':(match pW ts with | some ns=>M.ok (T.bl (ns.all id)) | none=>M.bad).res (kV K F H Q) (fun _ _=>False):=q;cases e:pW ts with
    | none=>rw[e] at q';exact q'.elim
    | some ns=>rw[e] at q';rw[xZ e] at r;have:=r.bls;subst this;exact⟨a,ns,rfl,jI.of (s _ _ h),kV.now q' s (.bl _)⟩
   | _=>exact q.elim⟩
@[simp] noncomputable def NR:T→String
 | .non=> "NoneType"
 | .bl _=> "bool"
 | .int _=> "int"
 | .str _=> "str"
 | .tup _=> "tuple"
 | .lst _=> "list"
 | .scr _=> "script"
 | .obj _ _=> "object"
 | .emp=> "dict"
@[simp] noncomputable def Jy(n:String)(x:T):M T:=match x with
 | .scr _=>.bad
 | .obj _ _=>.bad
 | x=>.ok (.bl (NR x == n||(n == "int" && NR x == "bool")))
theorem OT{F H:Hp}{v:V}{x:T}(r:jT K F v x)(s:fv F H)(h1:∀ns,x≠.scr ns)(h2:∀C fs,x≠.obj C fs):oJ K H v (.type (NR x)):=by
 cases r with
 | non=>exact .non
 | bl b=>exact .bl b
 | int i=>exact .int i
 | str x=>exact .str x
 | tup h r=>exact .tup (s _ _ h)
 | lst h r=>exact .lst (s _ _ h)
 | scr h=>exact absurd rfl (h1 _)
 | obj h r=>exact absurd rfl (h2 _ _)
 | emp h=>exact .dK (s _ _ h)
@[simp] noncomputable def pH(n:String)(fe:Pe→M T):Pe→M T:=fun ρ=>(fe ρ).bind fun x=>Jy n x
theorem Nx{n:String}(hk:∀t∈["NoneType", "bool", "int", "str", "tuple", "list", "dict"],W.kitOne K (.type t) (.type n)=some (t == n||(n == "int" && t == "bool")))(ha:ME K E te fe) :
  ME K E (Ic (fun xs H Q=>∃x T t b,xs=[x,.ty T]∧oJ K H x t∧W.kitOne K t (.type T)=some b∧Q (.bl b) H) (pX te (pX (tC (.ty n)) tW))) (pH n fe):=fun F H σ ρ Q s V q=>by
 refine ha.run s V q fun x v F1 H1 g1 r1 q1=>?_;have key:∀b,Jy n x=.ok (.bl b)→(∀ns,x≠.scr ns)→(∀C fs,x≠.obj C fs)→b=(NR x == n||(n == "int" && NR x == "bool"))→∃x_1 T t b,[v,L2.V.ty n]=[x_1,.ty T]∧oJ K H1 x_1 t∧W.kitOne K t (.type T)=some b∧Q (.bl b) H1:=by
  intro b e h1 h2 hb;rw[e] at q1;refine⟨v,n,_,b,rfl,OT r1 g1.fh h1 h2,?_,(q1:kV K F H Q _) _ F1 H1 g1 (.bl _)⟩;rw[hb];refine hk _ ?_;cases x with
  | scr ns=>exact absurd rfl (h1 ns)
  | obj C fs=>exact absurd rfl (h2 C fs)
  | _=>simp[NR]
 cases x with
 | scr ns=>exact q1.elim
 | obj C fs=>exact q1.elim
 | non=>exact key _ rfl (fun _ z=>nomatch z) (fun _ _ z=>nomatch z) rfl
 | bl _=>exact key _ rfl (fun _ z=>nomatch z) (fun _ _ z=>nomatch z) rfl
 | int _=>exact key _ rfl (fun _ z=>nomatch z) (fun _ _ z=>nomatch z) rfl
 | str _=>exact key _ rfl (fun _ z=>nomatch z) (fun _ _ z=>nomatch z) rfl
 | tup _=>exact key _ rfl (fun _ z=>nomatch z) (fun _ _ z=>nomatch z) rfl
 | lst _=>exact key _ rfl (fun _ z=>nomatch z) (fun _ _ z=>nomatch z) rfl
 | emp=>exact key _ rfl (fun _ z=>nomatch z) (fun _ _ z=>nomatch z) rfl
theorem JC(K:W.Frag):∀n∈["int", "bool", "str", "tuple", "list"],∀t∈["NoneType", "bool", "int", "str", "tuple", "list", "dict"],W.kitOne K (.type t) (.type n)=some (t == n||(n == "int" && t == "bool")):=by intro n hn t ht;simp only[aE,cx,or_false] at hn ht;rcases hn with rfl | rfl | rfl | rfl | rfl<;>rcases ht with rfl | rfl | rfl | rfl | rfl | rfl | rfl<;>rfl
theorem qo(n:String){x:Str}{p3:Pos}(hn':n∈["int", "bool", "str", "tuple", "list"])(hmi:X.mg "isinstance" = none)(hmx:X.mg x=none)(hvx:bootBuiltins x=some (.type n))(ha:Pm K E X e te fe)(hK:X.K=K:=by rfl)(hgi:Gl X "isinstance" :=by rfl)(hgx:Gl X x:=by rfl)
  (hxn:x≠ "__name__" :=by decide) (hxd:(x == ("__debug__" : Str))=false:=by decide)
  (he:starEach [e,.Name x p3] X.env=(false,eval e X.env)::starEach [.Name x p3] X.env:=by rfl) (he2:starEach [.Name x p3] X.env=(false,eval (.Name x p3) X.env)::starEach [] X.env:=by rfl) (hpl:(backTo pos (starEach [.Name x p3] X.env)).any (·.1)=false:=by rfl) :
  Pm K E X (.Call (.Name "isinstance" p) [e,.Name x p3] [] pos) (Ic (fun xs H Q=>∃x T t b,xs=[x,.ty T]∧oJ K H x t∧W.kitOne K t (.type T)=some b∧Q (.bl b) H) (pX te (pX (tC (.ty n)) tW))) (pH n fe):=by
 subst hK;exact⟨AA GD hgi hmi Lw (nL ha.pe (nL (Js (v:=.ty n) hgx hmx hvx rfl hxn hxd) rO he2) he) (by decide) (by decide) he hpl,Nx (JC X.K n hn') ha.me⟩
@[simp] noncomputable def fV:T→T→M T
 | .lst ts,.int i=>match oY ts i with
  | some t=>.ok t
  | none=>.bad
 | .tup ts,.int i=>match oY ts i with
  | some t=>.ok t
  | none=>.bad
 | .scr ns,.int i=>match oY ns i with
  | some t=>.ok (.int t)
  | none=>.bad
 | .str z,.int i=>if z.length≤sizeLine then (match oY z.cps.toList i with
  | some c=>.ok (.str ⟨#[c]⟩)
  | none=>.bad) else .bad
 | _,_=>.bad
theorem DA{F:Hp}{vs:List V}{ts:List T}{i:Int}{t:T}(r:eZ K F vs ts)(h:oY ts i=some t):∃v,oY vs i=some v∧jT K F v t:=by
 unfold oY at h ⊢;rw[r.length];cases e:xH ts.length i with
 | none=>rw[e] at h;cases h
 | some j=>rw[e] at h;exact r.get h
theorem q0{α β:Type}(f:α→β)(l:List α)(i:Int):oY (l.map f) i=(oY l i).map f:=by
 unfold oY;rw[aw];cases xH l.length i with
 | none=>rfl
 | some j=>simp
theorem NG(x y:T):M.NoE (fV x y):=fun C n=>by unfold fV;split<;>first | (intro z;cases z;done) | (split<;>first | (intro z;cases z;done) | (split<;>intro z<;>cases z))
theorem Og:MR K (Qj K) fV:=⟨NG,fun F H v w x y Q s ra rb q=>by
 cases rb with
 | int i=>
  cases ra with
  | lst h r=>
   rename_i a xs ts;have q':(match oY ts i with | some t=>M.ok t | none=>M.bad).res (kV K F H Q) (fun _ _=>False):=q;cases e:oY ts i with
   | none=>rw[e] at q';exact q'.elim
   | some t=>rw[e] at q';obtain⟨v,e',rv⟩:=DA r e;exact .inl ⟨a,xs,i,v,rfl,rfl,jI.of (s _ _ h),e',kV.now q' s rv⟩
  | tup h r=>
   rename_i a xs ts;have q':(match oY ts i with | some t=>M.ok t | none=>M.bad).res (kV K F H Q) (fun _ _=>False):=q;cases e:oY ts i with
   | none=>rw[e] at q';exact q'.elim
   | some t=>rw[e] at q';obtain⟨v,e',rv⟩:=DA r e;exact .inr (.inl ⟨a,xs,i,v,rfl,rfl,kR.of (s _ _ h),e',kV.now q' s rv⟩)
  | scr h=>
   rename_i a ns;have q':(match oY ns i with | some t=>M.ok (T.int t) | none=>M.bad).res (kV K F H Q) (fun _ _=>False):=q;cases e:oY ns i with
   | none=>rw[e] at q';exact q'.elim
   | some t=>rw[e] at q';exact .inl ⟨a,_,i,.int t,rfl,rfl,s.seq h,by rw[q0,e];rfl,kV.now q' s (.int _)⟩
  | str z=>
   have q':(if z.length≤sizeLine then (match oY z.cps.toList i with | some c=>M.ok (T.str ⟨#[c]⟩) | none=>M.bad) else M.bad).res (kV K F H Q) (fun _ _=>False):=q;by_cases hz:z.length≤sizeLine
   ·rw[aP hz] at q';cases e:oY z.cps.toList i with
    | none=>rw[e] at q';exact q'.elim
    | some c=>rw[e] at q';exact .inr (.inr ⟨z,i,c,rfl,rfl,hz,e,kV.now q' s (.str _)⟩)
   ·rw[aQ hz] at q';exact q'.elim
  | _=>exact q.elim
 | _=>cases ra<;>exact q.elim⟩
theorem eQ(ha:Pm K E X a ta fa)(hb:Pm K E X b tb fb)(hs:DB b:=by intro _ _;rfl)(hK:X.K=K:=by rfl):Pm K E X (.Subscript a b pos) (wg (Qj K) ta tb) (eC fV fa fb):=⟨OU (hK▸Lq) ha.pe hb.pe hs,DK Og ha.me hb.me⟩
theorem md:PJ K E X none Dq (fun _=>.ok none):=⟨IK,fun F H σ ρ Q s V q=>q F H (.refl s)⟩
@[simp] noncomputable def gU(fe:Pe→M T):Pe→M (Option Int):=fun ρ=>(fe ρ).bind fun x=>match x with
 | .int i=>.ok (some i)
 | _=>.bad
theorem mx(h:Pm K E X e te fe):PJ K E X (some e) (Lf te) (gU fe):=⟨JG h.pe,fun F H σ ρ Q s V q=>by
 refine h.me.run s V q fun x v F1 H1 g1 r1 q1=>?_;cases r1 with
 | int i=>exact⟨i,rfl,q1 F1 H1 g1⟩
 | _=>exact q1.elim⟩
noncomputable def oS{α:Type}(xs:List α)(lo hi:Option Int):List α:=(xs.drop (HT.sIx xs.length 0 lo)).take (HT.sIx xs.length xs.length hi - HT.sIx xs.length 0 lo)
theorem LQ(xs:List V)(lo hi:Option Int):Bd xs lo hi=oS xs lo hi:=rfl
theorem eZ.cut{F:Hp}{vs:List V}{ts:List T}(r:eZ K F vs ts)(lo hi:Option Int):eZ K F (oS vs lo hi) (oS ts lo hi):=by unfold oS;rw[r.length];exact (r.drop _).take _
theorem Gc{α β:Type}(f:α→β)(l:List α)(lo hi:Option Int):oS (l.map f) lo hi=(oS l lo hi).map f:=by unfold oS;rw[aw,cy,List.map_drop]
section
variable {lo hi:Option Expr}{tl th:TO}{fl fh:Pe→M (Option Int)}
theorem MO.run{t:TO}{f:Pe→M (Option Int)}{F H:Hp}{σ:L2.St}{ρ:Pe}{Q:Option Int→Hp→Prop}{α:Type}{k:Option Int→M α}{P:α→Prop}(h:MO K E t f)(s:fv F H)(v:jW K F σ ρ)(r:((f ρ).bind k).res P (kE E F H))
  (hk:∀x F' H',Gr F H F' H'→(k x).res P (kE E F' H')→Q x H'):t σ H Q:=
 h F H σ ρ Q s v ((M.res.unb r).mono (fun x q F' H' g=>hk x F' H' g (q.mono (fun _ z=>z) fun _ _ z=>z.go g)) fun _ _ z=>z)
@[simp] noncomputable def jN(fe:Pe→M T)(fl fh:Pe→M (Option Int)):Pe→M T:=fun ρ=>(fe ρ).bind fun x=>(fl ρ).bind fun l=>(fh ρ).bind fun h=>match x with
 | .tup ts=>.ok (.tup (oS ts l h))
 | .lst ts=>.ok (.lst (oS ts l h))
 | .scr ns=>.ok (.lst ((oS ns l h).map T.int))
 | _=>.bad
theorem i8(he:Pm K E X e te fe)(hl:PJ K E X lo tl fl)(hh:PJ K E X hi th fh)(hK:X.K=K:=by rfl):Pm K E X (.Subscript e (.Slice lo hi none p2) pos) (QD (fun x lo hi H Q=>OW K x lo hi H Q∨(Pa K x lo hi H Q∨Pd K x lo hi H Q)) te tl th) (jN fe fl fh):=by
 subst hK;refine⟨Gp (IZ.or (Mu.or Ki)) he.pe hl.po hh.po,fun F H σ ρ Q s V q=>?_⟩;refine he.me.run s V q fun x v F1 H1 g1 r1 q1=>?_;refine hl.mo.run (P:=kV X.K F H Q) g1.fh (V.mono g1.ff) q1 fun l F2 H2 g2 q2=>?_;refine hh.mo.run (P:=kV X.K F H Q) g2.fh ((V.mono g1.ff).mono g2.ff) q2 fun u F3 H3 g3 q3=>?_;have g:=(g1.trans g2).trans g3;have r3:=r1.mono (g2.ff.trans g3.ff);cases r3 with
 | lst h r=>exact .inl ⟨_,_,rfl,jI.of (g3.fh _ _ h),fun p hp=>(q3:kV X.K F H Q _) (.ref p) _ _ (g.trans (.new g3.fh hp)) (.lst eP ((r.cut l u).mono (Gr.new g3.fh hp).ff))⟩
 | scr h=>exact .inl ⟨_,_,rfl,g3.fh.seq h,fun p hp=>(q3:kV X.K F H Q _) (.ref p) _ _ (g.trans (.new g3.fh hp)) (.lst eP (by rw[LQ,Gc];exact eZ.of_ints _))⟩
 | tup h r=>
  rename_i a xs ts;have q':(M.ok (T.tup (oS ts l u))).res (kV X.K F H Q) (kE E F3 H3):=q3;by_cases hw:HT.sIx ts.length 0 l=0∧HT.sIx ts.length ts.length u=ts.length
  ·have ec:oS ts l u=ts:=by unfold oS;rw[hw.1,hw.2];simp
   rw[ec] at q';exact .inr (.inr ⟨_,_,rfl,kR.of (g3.fh _ _ h),by rw[r.length];exact hw,(q':kV X.K F H Q _) _ F3 H3 g (.tup h r)⟩)
  ·exact .inr (.inl ⟨_,_,rfl,kR.of (g3.fh _ _ h),by rw[r.length];exact hw,fun p hp=>(q':kV X.K F H Q _) (.ref p) _ _ (g.trans (.new g3.fh hp)) (.tup eP ((r.cut l u).mono (Gr.new g3.fh hp).ff))⟩)
 | _=>exact q3.elim
end
section
variable {x:Str}{k:Nat}{Fn:List T→M T}{Ff:List T→M (List T)}
theorem eB(h:ek X.prog X.w X.K X.mg X.base x k (gA K Fn))(hr:hV k X.A)(ha:A5 K E X (e::es) tr fr)(hg:Gl X x:=by rfl)
  (hdb:(x == ("__debug__" : Str))=false:=by decide) (he:starEach (e::es) X.env=(false,eval e X.env)::starEach es X.env:=by rfl) (hpl:(backTo pos (starEach es X.env)).any (·.1)=false:=by rfl) :
  Pm K E X (.Call (.Name x p) (e::es) [] pos) (xv (gA K Fn) [] E0 tr) (eD fr Fn):=⟨AW h hr ha.pa hg hdb he hpl,Hz ha.ma⟩
theorem kD(h:ek X.prog X.w X.K X.mg X.base x k (pC K Ff))(hr:hV k X.A)(ha:A5 K E X (e::es) tr fr)(hg:Gl X x:=by rfl)
  (hdb:(x == ("__debug__" : Str))=false:=by decide) (he:starEach (e::es) X.env=(false,eval e X.env)::starEach es X.env:=by rfl) (hpl:(backTo pos (starEach es X.env)).any (·.1)=false:=by rfl) :
  FD K E X (.Call (.Name x p) (e::es) [] pos) (xv (pC K Ff) [] E0 tr) (ig fr Ff):=⟨AW h hr ha.pa hg hdb he hpl,GK ha.ma⟩
end
def NT(K:W.Frag)(t:TE):TI:=fun σ H R=>Hq K t σ H R∨Mg K t σ H R
@[simp] noncomputable def fY(fa:Pe→M T):Pe→M (List T):=fun ρ=>(fa ρ).bind fun x=>match x with
 | .lst ts=>.ok ts
 | .scr ns=>.ok (ns.map T.int)
 | .tup ts=>.ok ts
 | _=>.bad
theorem LZ(ha:ME K E ta fa):MI K E (NT K ta) (fY fa):=fun F H σ ρ R s V q=>by
 unfold fY at q;cases e:fa ρ with
 | bad=>rw[e] at q;exact q.elim
 | er C n=>rw[e] at q;exact .inl (zm ha F H σ ρ R s V (by unfold PD;rw[e];exact q))
 | ok x=>
  rw[e] at q;cases x with
  | lst ts=>exact .inl (zm ha F H σ ρ R s V (by unfold PD;rw[e];exact q))
  | scr ns=>exact .inl (zm ha F H σ ρ R s V (by unfold PD;rw[e];exact q))
  | tup ts=>exact .inr (MQ ha F H σ ρ R s V (by unfold QC;rw[e];exact q))
  | _=>exact q.elim
theorem fI(ha:Pm K E X a ta fa)(hK:X.K=K:=by rfl):Lj K E X tg a (NT K ta) (fY fa):=by
 subst hK;refine⟨fun dU s σ H R I h=>?_,LZ ha.me⟩;rcases h with h | h
 ·exact Jo ha.pe dU s σ H R I h
 ·exact Lu ha.pe dU s σ H R I h
def K2(K:W.Frag)(ta:TA):TI:=fun σ H R=>∃b1 b2,Mn K b1 b2 ta σ H R
@[simp] noncomputable def seqT:T→M (List T)
 | .lst ts=>.ok ts
 | .scr ns=>.ok (ns.map T.int)
 | .tup ts=>.ok ts
 | _=>.bad
@[simp] noncomputable def j9(fa:Pe→M (List T)):Pe→M (List T):=fun ρ=>(fa ρ).bind fun xs=>match xs with
 | [x,y]=>(seqT x).bind fun ts=>(seqT y).bind fun us=>.ok (yy ts us)
 | _=>.bad
noncomputable def rh:T→Bool
 | .tup _=>true
 | _=>false
theorem BD(x:T):seqT x=seqB (rh x) x:=by cases x<;>rfl
theorem JK(ha:MA K E tr fr):MI K E (K2 K tr) (j9 fr):=fun F H σ ρ R s V q=>by
 unfold j9 at q;cases e:fr ρ with
 | bad=>rw[e] at q;exact q.elim
 | er C n=>rw[e] at q;exact⟨true,true,HR ha F H σ ρ R s V (by unfold LA;rw[e];exact q)⟩
 | ok xs=>
  rw[e] at q;match xs,e,q with
  | [],_,q=>exact q.elim
  | [_],_,q=>exact q.elim
  | [x,y],e,q=>refine⟨rh x,rh y,HR ha F H σ ρ R s V ?_⟩;unfold LA;rw[e];have q':((seqT x).bind fun ts=>(seqT y).bind fun us=>M.ok (yy ts us)).res (kI K F H R) (kE E F H):=q;rw[BD x,BD y] at q';exact q'
  | _::_::_::_,_,q=>exact q.elim
theorem jE{elts:List Expr}{x1}{tpos:Pos}(hm:X.mg "zip" = none)(ha:A5 K E X [a,b] tr fr)(hK:X.K=K:=by rfl)(hg:Gl X "zip" :=by rfl)(hs:starEach [a,b] X.env=[(false,eval a X.env),(false,eval b X.env)]:=by rfl)
  (hs2:starEach [b] X.env=[(false,eval b X.env)]:=by rfl):Lj K E X (.Tuple elts x1 tpos) (.Call (.Name "zip" p) [a,b] [] pos) (K2 K tr) (j9 fr):=by
 subst hK;refine⟨fun dU s σ H R I h=>?_,JK ha.ma⟩;obtain⟨b1,b2,h⟩:=h;exact NJ hg hm ha.pa hs hs2 dU s σ H R I h
theorem iH(hm:X.mg "range" = none)(ha:A5 K E X [a] tr fr)(hg:Gl X "range" :=by rfl)(hs:starEach [a] X.env=[(false,eval a X.env)]:=by rfl):tH K E X tg (.Call (.Name "range" p) [a] [] pos) (IB tr) (jh fr):=⟨Eg hg hm ha.pa hs,KR ha.ma⟩
theorem tH.pim{w:TI}{f:Pe→M (List T)}(h:tH K E X tg it w f):Lj K E X tg it w f:=⟨h.pi,h.mi.mi⟩
section
variable {x:Str}{g:TG}{gs:A4}{m:T→Pe→Option Pe}{ms:List T→Pe→Option Pe}{mo:T→En→Option En}{mos:List T→En→Option En}{n:Nat}
theorem fW(i:Nat)(hN:X.N.Nodup)(hx:Fy X.env.scope x)(hi:X.N[i]? = some x:=by rfl)(hf:X.fn x=true∨X.env.scope.names.lookup x=some .local:=by first | exact .inl rfl | exact .inr rfl | assumption):Pc K X (.Name x pos) (ji i) (gZ i):=⟨Ds hN hi hx hf,J2⟩
theorem f6(i:Nat)(hN:X.N.Nodup)(hx:Fy X.env.scope x)(hi:X.N[i]? = some x:=by rfl)(hf:X.fn x=true∨X.env.scope.names.lookup x=some .local:=by first | exact .inl rfl | exact .inr rfl | assumption):NM K X (.Name x pos) (ji i) (iK i):=⟨Ds hN hi hx hf,HJ⟩
theorem iN:Kp K X [] Ej lV:=⟨Dy,Kf⟩
theorem l6:Jq K X [] Ej k9:=⟨Dy,FU⟩
theorem fJ(h1:Pc K X e g m)(h2:Kp K X es gs ms)(hs:(assignEach (e::es) X.env).map (·.2)=assign e X.env::(assignEach es X.env).map (·.2):=by rfl):Kp K X (e::es) (vA g gs) (gh m ms):=⟨Aq h1.pg h2.pg hs,Gz h1.mg h2.mg⟩
theorem gM(h1:NM K X e g mo)(h2:Jq K X es gs mos)(hs:(assignEach (e::es) X.env).map (·.2)=assign e X.env::(assignEach es X.env).map (·.2):=by rfl):Jq K X (e::es) (vA g gs) (gy mo mos):=⟨Aq h1.pg h2.pg hs,EX h1.mg h2.mg⟩
theorem lh{k:Nat}(n:Nat)(hc:X.calm=true)(h:Kp K X es gs ms)(hK:X.K=K:=by rfl)(hn:(assignEach es X.env).length=n:=by rfl)(hst:(assignEach es X.env).findIdx? (·.1)=none:=by rfl):Pc K X (.Tuple es k pos) (EW K n gs) (lW n ms):=by subst hK;exact⟨G8 hc h.pg hn hst,Ny h.mg⟩
theorem qh{k:Nat}(n:Nat)(hc:X.calm=true)(h:Jq K X es gs mos)(hK:X.K=K:=by rfl)(hn:(assignEach es X.env).length=n:=by rfl)(hst:(assignEach es X.env).findIdx? (·.1)=none:=by rfl):NM K X (.Tuple es k pos) (EW K n gs) (kL n mos):=by subst hK;exact⟨G8 hc h.pg hn hst,Jt h.mg⟩
end
section
variable {elt iter:Expr}{ifs:List Expr}{scope:Scope}{N:List Str}{ix:List (Option Nat)}{wi:TI}{g:TG}{tt:TT}{fi:Pe→M (List T)}{m:T→Pe→Option Pe}{ft:Pe→M Bool}
theorem fK:Kq K E X [] LD (fun _=>.ok true):=⟨JT,Nz⟩
theorem jY{t:TT}{f:Pe→M Bool}(h:Ba K E X c t f):Kq K E X [c] t f:=⟨KG h.pt,h.mt⟩
@[simp] noncomputable def iE(ix:List (Option Nat))(fi:Pe→M (List T))(m:T→Pe→Option Pe)(ft:Pe→M Bool)(fe:Pe→M T):Pe→M (List T):=fun ρ=>(fi ρ).bind fun its=>(if its.length<sizeLine then oj (qc m ft fe (lJ ix ρ)) its else .bad).noEr
theorem ib(hc:X.calm=true)(hi:Lj K E X tg iter wi fi)(L:AX X scope N ix)(hgk:qD ix g)
  (blk:∀C s₃ H ex pn,Pc K (nc X N scope C s₃ H ex pn) tg g m∧Kq K K8 (nc X N scope C s₃ H ex pn) ifs tt ft∧Pm K K8 (nc X N scope C s₃ H ex pn) elt te fe)
  (hs:∀x,foldedSetIterable iter X.env x=pure x:=by intro _;rfl):FD K E X (.ListComp elt [⟨tg,iter,ifs,0⟩] scope pos) (Ma ix wi g tt te) (iE ix fi m ft fe):=by
 obtain⟨b1,b2,b3⟩:=blk 0 X.s₀ X.H₀ [] [];exact⟨Pl hc hi.pi L hgk (fun C s₃ H ex pn=>⟨(blk C s₃ H ex pn).1.pg,(blk C s₃ H ex pn).2.1.pf,(blk C s₃ H ex pn).2.2.pe⟩) hs,K3 hi.mi b1.mg b2.mt b3.me⟩
end
end
end L3
namespace L3
open PySem L2 PySem.Spec PyProof.Rows
section
variable {K:W.Frag}{E:XK}{X:Cx}{a b c e o tg it:Expr}{es:List Expr}{ta tb tc te to:TE}{fa fb fc fe fo:Pe→M T}{tr:TA}{fr:Pe→M (List T)}{pos pos' p p2 apos:Pos}{st:Stmt}{rest:List Stmt}{t u:TS}{g g':En→O}{ff:Pe→M (List T)}{x:Str}
theorem eM:qP K E X [] HK fF:=⟨J9,IQ⟩
theorem dY(h:t7 K E X st t g):qP K E X [st] t g:=⟨CW h.ps,h.ms⟩
theorem dS(h:t7 K E X st t g)(h':qP K E X rest u g'):qP K E X (st::rest) (Ku t u) (eJ g g'):=⟨Av h.ps h'.ps,Nd h.ms h'.ms⟩
theorem qZ:t7 K E X st BK (fun _=>.bad):=⟨FS,IE⟩
theorem eE(h:Pm K E X e te fe):t7 K E X (.Return (some e) pos) (zx te) (fT fe):=⟨yT h.pe,MJ h.me⟩
theorem nq(h:FD K E X e te ff):t7 K E X (.Return (some e) pos) (zx te) (pQ ff):=⟨yT h.pe,JB h.mf⟩
theorem oO(i:Nat){x:Str}(h:PE X (.Name x p) (lO i)):t7 K E X (.Return (some (.Name x p)) pos) (zx (lO i)) (mK i):=⟨yT h,Ey⟩
theorem eY{tc:TT}{fc:Pe→M Bool}{A B:List Stmt}(hc:Ba K E X c tc fc)(h:qP K E X A t g)(h':qP K E X B u g'):t7 K E X (.If c A B pos) (LO tc t u) (jy fc g g'):=⟨Oh hc.pt h.ps h'.ps,N8 hc.mt h.ms h'.ms⟩
theorem BQ{tc:TT}{fc:Pe→M Bool}{A:List Stmt}(fuel:En→Nat)(hp:PassesOwn (model X.prog X.w) X.A X.env X.xe)(hc:Ba K E X c tc fc)(h:qP K E X A t g):t7 K E X (.While c A [] pos) (CP tc t) (fun ρ=>kh fc g (fuel ρ) ρ):=⟨Ii hp hc.pt h.ps,HU fuel hc.mt h.ms⟩
section
variable {w:TI}{fi:Pe→M (List T)}{gt:TG}{m:T→En→Option En}{A:List Stmt}
theorem gL(hp:PassesOwn (model X.prog X.w) X.A X.env X.xe)(hc:X.calm=true)(hi:Lj K E X tg it w fi)(hg:NM K X tg gt m)(hb:qP K E X A t g)(hs:∀x,foldedSetIterable it X.env x=pure x:=by intro _;rfl):t7 K E X (.For tg it A [] pos) (Hj w gt t) (kM fi m g):=⟨IF hp hc hi.pi hg.pg hb.ps hs,LI hi.mi hg.mg hb.ms⟩
theorem l9(hp:PassesOwn (model X.prog X.w) X.A X.env X.xe)(hc:X.calm=true)(hi:tH K E X tg it w fi)(hg:NM K X tg gt m)(hb:qP K E X A t g)(hs:∀x,foldedSetIterable it X.env x=pure x:=by intro _;rfl):t7 K E X (.For tg it A [] pos) (Hj w gt t) (ox fi m g):=⟨IF hp hc hi.pi hg.pg hb.ps hs,Kr hi.mi hg.mg hb.ms⟩
end
theorem qF{gm:En→O}{elt iter:Expr}{ifs:List Expr}{scope:Scope}{N:List Str}{ix:List (Option Nat)}{wi:TI}{gt:TG}{tt:TT}{fi:Pe→M (List T)}{m:T→Pe→Option Pe}{ft:Pe→M Bool}{spos py:Pos}(i:Nat)(hN:X.N.Nodup)(hx:Fy X.env.scope x)
  (hc:X.calm=true) (hi:Lj K E X tg iter wi fi) (L:AX X scope N ix) (hgk:qD ix gt)
  (blk:∀C s₃ H ex pn,Pc K (nc X N scope C s₃ H ex pn) tg gt m∧Kq K K8 (nc X N scope C s₃ H ex pn) ifs tt ft∧Pm K K8 (nc X N scope C s₃ H ex pn) elt te fe)
  (hm:MF K E (Ma ix wi gt tt te) (iE ix fi m ft fe)→MS K E (nJ (Ma ix wi gt tt te) (ji i)) gm)
  (hy:X.N[i]? = some x:=by rfl) (hf:X.fn x=true∨X.env.scope.names.lookup x=some .local:=by first | exact .inl rfl | exact .inr rfl)
  (hsw:swapsWith (.ListComp elt [⟨tg,iter,ifs,0⟩] scope pos) (some (.Name x py)) spos.line X.env=pure true:=by rfl)
  (hs:∀x,foldedSetIterable iter X.env x=pure x:=by intro _;rfl):t7 K E X (.Assign [.Name x py] (.ListComp elt [⟨tg,iter,ifs,0⟩] scope pos) spos) (nJ (Ma ix wi gt tt te) (ji i)) gm:=by
 obtain⟨b1,b2,b3⟩:=blk 0 X.s₀ X.H₀ [] [];exact⟨Il hN hy hx hc hi.pi L hgk (fun C s₃ H ex pn=>⟨(blk C s₃ H ex pn).1.pg,(blk C s₃ H ex pn).2.1.pf,(blk C s₃ H ex pn).2.2.pe⟩) hf hsw hs,hm (K3 hi.mi b1.mg b2.mt b3.me)⟩
theorem eA(i:Nat)(hN:X.N.Nodup)(hx:Fy X.env.scope x)(h:Pm K E X e te fe)(hi:X.N[i]? = some x:=by rfl)(hs:swapsWith e (some (.Name x pos')) pos.line X.env=pure false:=by rfl)(hf:X.fn x=true∨X.env.scope.names.lookup x=some .local:=by first | exact .inl rfl | exact .inr rfl | assumption) :
  t7 K E X (.Assign [.Name x pos'] e pos) (nJ te (ji i)) (setO i (gE fe)):=⟨yZ hN hi hx h.pe hs hf,Dr h.me⟩
theorem qM(i:Nat)(hN:X.N.Nodup)(hx:Fy X.env.scope x)(h:Pm K E X e te fe)(hi:X.N[i]? = some x:=by rfl)(hs:swapsWith e (some (.Name x pos')) pos.line X.env=pure false:=by rfl)(hf:X.fn x=true∨X.env.scope.names.lookup x=some .local:=by first | exact .inl rfl | exact .inr rfl | assumption) :
  t7 K E X (.Assign [.Name x pos'] e pos) (nJ te (ji i)) (setO i (mB fe)):=⟨yZ hN hi hx h.pe hs hf,JU h.me⟩
theorem jd(i:Nat)(hN:X.N.Nodup)(hx:Fy X.env.scope x)(h:FD K E X e te ff)(hi:X.N[i]? = some x:=by rfl)(hs:swapsWith e (some (.Name x pos')) pos.line X.env=pure false:=by rfl)(hf:X.fn x=true∨X.env.scope.names.lookup x=some .local:=by first | exact .inl rfl | exact .inr rfl | assumption) :
  t7 K E X (.Assign [.Name x pos'] e pos) (nJ te (ji i)) (mU i (om ff)):=⟨yZ hN hi hx h.pe hs hf,C9 h.mf⟩
theorem oK{i:Nat}(h:MF K E te ff):MS K E (nJ te (ji i)) (setO i (gE fun ρ=>(ff ρ).bind fun ts=>.ok (.lst ts))):=Dr h.me
theorem B9{l:Addr}{xs:List V}{H:Hp}(h:H l=some (.lst xs)):NO K "list" (.ref l) H:=.inl ⟨rfl,_,jI.of h⟩
theorem mm(i:Nat){x:Str}(hv:PE X (.Name x p) (lO i))(ha:Pm K E X e te fe)(hs:starEach [e] X.env=(false,eval e X.env)::starEach [] X.env:=by rfl)(hK:X.K=K:=by rfl)
  (hbase:attributeBase (.Name x p) "append" X.env (eval (.Name x p) X.env)=eval (.Name x p) X.env:=by rfl)
  (hfew:((backTo pos (starEach [e] X.env)).all (fun x=>!x.1)&&(backToKw pos (keywordEach [] X.env)).all (fun x=>x.1.isSome)&&decide (([e]:List Expr).length+([]:List Keyword).length+(if ([]:List Keyword).isEmpty then 0 else 1)<30))=true:=by rfl)
  (hline:(apos.endLine == pos.line)=true:=by rfl) (hplain:(backTo pos (starEach [] X.env)).any (·.1)=false:=by rfl) (hsw:swapsWith (.Call (.Attribute (.Name x p) "append" apos) [e] [] pos) none pos'.line X.env=pure false:=by rfl) :
  t7 K E X (.Expr (.Call (.Attribute (.Name x p) "append" apos) [e] [] pos) pos') (qY (Fo K i te)) (nX i (gE fe)):=by
 subst hK;exact⟨uu (G4 PySem.F.plainAttrs_list PySem.F.slot_list_append PySem.F.type_list_append r6 hv (nL ha.pe rO hs) hbase hfew hline hs hplain) hsw,JA (fun l xs H h=>B9 h) ha.me⟩
theorem FP(i:Nat){x:Str}(hv:PE X (.Name x p) (lO i))(ha:Pm K E X e te fe)(hs:starEach [e] X.env=(false,eval e X.env)::starEach [] X.env:=by rfl)(hK:X.K=K:=by rfl)
  (hbase:attributeBase (.Name x p) "append" X.env (eval (.Name x p) X.env)=eval (.Name x p) X.env:=by rfl)
  (hfew:((backTo pos (starEach [e] X.env)).all (fun x=>!x.1)&&(backToKw pos (keywordEach [] X.env)).all (fun x=>x.1.isSome)&&decide (([e]:List Expr).length+([]:List Keyword).length+(if ([]:List Keyword).isEmpty then 0 else 1)<30))=true:=by rfl)
  (hline:(apos.endLine == pos.line)=true:=by rfl) (hplain:(backTo pos (starEach [] X.env)).any (·.1)=false:=by rfl) (hsw:swapsWith (.Call (.Attribute (.Name x p) "append" apos) [e] [] pos) none pos'.line X.env=pure false:=by rfl) :
  t7 K E X (.Expr (.Call (.Attribute (.Name x p) "append" apos) [e] [] pos) pos') (qY (Fo K i te)) (nX i (mB fe)):=by
 subst hK;exact⟨uu (G4 PySem.F.plainAttrs_list PySem.F.slot_list_append PySem.F.type_list_append r6 hv (nL ha.pe rO hs) hbase hfew hline hs hplain) hsw,Ko (fun l xs H h=>B9 h) ha.me⟩
theorem um(i:Nat){x:Str}(hv:PE X (.Name x p) (lO i))(hk:Pm K E X b tb fb)(h:Pm K E X e te fe)
  (ha:∀v,assign (.Subscript (.Name x p) b p2) X.env v=(do
   let ov ←holding [v] (eval (.Name x p) X.env)
   let iv ←holding [v,ov] (eval b X.env)
   standAt p2
   holding [v,ov,iv] (setItem ov iv v)
   release [v,ov,iv] []):=by intro _;rfl)
  (hs:swapsWithSole [.Subscript (.Name x p) b p2] e pos.line X.env=pure false:=by rfl) (hw:swappedStores [.Subscript (.Name x p) b p2] e X.env=pure none:=by rfl)
  (h1:(assignEach [.Subscript (.Name x p) b p2] X.env).map (·.2)=[assign (.Subscript (.Name x p) b p2) X.env]:=by rfl) :
  t7 K E X (.Assign [.Subscript (.Name x p) b p2] e pos) (nJ te (M8 (lO i) tb CZ)) (vO i (mB fb) (mB fe)):=⟨Ig h.pe (Ls hv hk.pe GV ha) hs hw h1,LC h.me hk.me⟩
theorem zY(h:Pm K E X e te fe)(hs:swapsWith e none pos.line X.env=pure false:=by rfl):t7 K E X (.Expr e pos) (qY te) (yc (gE fe)):=⟨uu h.pe hs,Ht h.me⟩
end
section
variable {P:Program}{w:World}{K:W.Frag}{mg:Str→Option Value}{base:Heap}{x:Str}{st:Stmt}{N ps:List Str}{k:Nat}{g:En→O}
theorem iy(D:eI K mg x st)(S:eF N ps (eg st))
  (hb:∀(kV doc pm:Value) (an:Option Addr) (cdv ct:Value) (us:List Value),us.length=ps.length→bindArgs (W.fnOf x x (iG st) (gC st) (eg st) .none kV doc pm an cdv ct) ⟨us,[]⟩=pure (ps.zip us))
  (hT:∀(f:Addr) (cdv:Value) (A:Around) (outer:List Env) (s:Shared) (H:Hp) (E:XK),hV k (A.deeper (envOfC x (eg st) s.heap.objs.size f cdv))→∃t,qP K E (rz yh P w K mg base N x (eg st) f cdv A outer s H E).nox (gC st) t g) :
  ek P w K mg base x (k+1) (gA K (j7 ps.length N.length g)):=
 DF D S hb (fun vs H Q E h=>By h) fun f cdv A outer s H vs Q E hr h=>let ⟨t,hp⟩:=hT f cdv A outer s H E hr;⟨t,hp.ps,zb hp.ms h⟩
theorem wN(D:eI K mg x st)(S:eF N ps (eg st))
  (hb:∀(kV doc pm:Value) (an:Option Addr) (cdv ct:Value) (us:List Value),us.length=ps.length→bindArgs (W.fnOf x x (iG st) (gC st) (eg st) .none kV doc pm an cdv ct) ⟨us,[]⟩=pure (ps.zip us))
  (hT:∀(f:Addr) (cdv:Value) (A:Around) (outer:List Env) (s:Shared) (H:Hp) (E:XK),hV k (A.deeper (envOfC x (eg st) s.heap.objs.size f cdv))→∃t,qP K E (rz yh P w K mg base N x (eg st) f cdv A outer s H E).nox (gC st) t g) :
  ek P w K mg base x (k+1) (pC K (yG ps.length N.length g)):=
 DF D S hb (fun vs H Q E h=>Dl h) fun f cdv A outer s H vs Q E hr h=>let ⟨t,hp⟩:=hT f cdv A outer s H E hr;⟨t,hp.ps,An hp.ms h⟩
end
end L3
namespace L3
open PySem L2 PySem.Spec PyProof.Rows
section
variable {K:W.Frag}{E:XK}{X:Cx}{a b c e o tg it:Expr}{es:List Expr}{ta tb tc te to:TE}{fa fb fc fe fo:Pe→M T}{tr:TA}{fr:Pe→M (List T)}{pos p p2 apos:Pos}
@[simp] noncomputable def fj(f:Pe→M (List T)):Pe→M T:=fun ρ=>(f ρ).bind fun ts=>.ok (.lst ts)
theorem fU(hK:X.K=K:=by rfl):jz X (.builtin "len") (fun xs H Q=>∃x n,xs=[x]∧LL K x H n∧Q (.int n) H):=hK▸Hd
theorem sj(hc:X.calm=true)(hK:X.K=K:=by rfl):jz X (.builtin "sum") (fun xs H Q=>∃(p:Addr) (ns:List Int),xs=[.ref p]∧jI K H p (ns.map V.int)∧Q (.int ns.sum) H):=hK▸GY hc
theorem mX(hc:X.calm=true)(hK:X.K=K:=by rfl):jz X (.builtin "all") (fun xs H Q=>∃(p:Addr) (bs:List Bool),xs=[.ref p]∧jI K H p (bs.map V.bl)∧Q (.bl (bs.all id)) H):=hK▸HX hc
theorem pb(hc:X.calm=true)(hK:X.K=K:=by rfl):jz X (.builtin "any") (fun xs H Q=>∃(p:Addr) (vs:List V) (bs:List Bool),xs=[.ref p]∧(jI K H p vs∨kR K H p vs)∧kG vs=some bs∧Q (.bl (bs.any id)) H):=hK▸Eh hc
theorem iq(hK:X.K=K:=by rfl):jz X (.type "tuple") (fun xs H Q=>∃p ys,xs=[.ref p]∧((jI K H p ys∧∀l,H l=none→Q (.ref l) (ij H l (.tup ys)))∨(kR K H p ys∧Q (.ref p) H))):=hK▸wu
theorem kg(hK:X.K=K:=by rfl):jz X (.type "list") (fun xs H Q=>∃p ys,xs=[.ref p]∧(jI K H p ys∨kR K H p ys)∧∀l,H l=none→Q (.ref l) (ij H l (.lst ys))):=hK▸yP
theorem EY(hK:X.K=K:=by rfl):oo X (compareOp .NotIn) (P8 K true):=hK▸yD
noncomputable def Ka:T→Option Bool
 | .bl b=>some b
 | .int i=>some (i != 0)
 | _=>none
noncomputable def qf:List T→Option (List Bool)
 | []=>some []
 | v::vs=>(Ka v).bind fun b=>(qf vs).bind fun r=>some (b::r)
theorem yJ{F:Hp}:∀{vs:List V} {ts:List T},eZ K F vs ts→kG vs=qf ts
 | _,_,.nil=>rfl
 | v::vs,t::ts,.cons h r=>by
  have e:Az v=Ka t:=by cases h<;>rfl
  rw[kG,qf,yJ r,e]
@[simp] theorem BI(ns:List Int):qf (ns.map T.int)=some (ns.map fun n=>n != 0):=by
 induction ns with
 | nil=>rfl
 | cons n ns ih=>simp[qf,Ka,ih]
@[simp] theorem NL(ns:List Bool):qf (ns.map T.bl)=some ns:=by
 induction ns with
 | nil=>rfl
 | cons n ns ih=>simp[qf,Ka,ih]
@[simp] noncomputable def rq(ts:List T):M T:=match qf ts with
 | some bs=>.ok (.bl (bs.any id))
 | none=>.bad
@[simp] noncomputable def uY:List T→M T
 | [.lst ts]=>rq ts
 | [.tup ts]=>rq ts
 | _=>.bad
theorem GP(ts:List T):M.NoE (rq ts):=fun C n=>by unfold rq;split<;>intro z<;>cases z
theorem IW(xs:List T):M.NoE (uY xs):=fun C n=>by unfold uY;split<;>first | exact GP _ C n | (intro z;cases z)
theorem zr:MC K (fun xs H Q=>∃(p:Addr) (vs:List V) (bs:List Bool),xs=[.ref p]∧(jI K H p vs∨kR K H p vs)∧kG vs=some bs∧Q (.bl (bs.any id)) H) uY:=⟨IW,fun F H vs xs Q s r q=>by
 cases r with
 | nil=>exact q.elim
 | cons h t=>
  cases t with
  | cons _ _=>cases h<;>exact q.elim
  | nil=>
   cases h with
   | lst h r=>
    rename_i a xs ts;have q':(rq ts).res (kV K F H Q) (fun _ _=>False):=q;unfold rq at q';cases e:qf ts with
    | none=>rw[e] at q';exact q'.elim
    | some bs=>rw[e] at q';exact⟨a,xs,bs,rfl,.inl (jI.of (s _ _ h)),by rw[yJ r];exact e,kV.now q' s (.bl _)⟩
   | tup h r=>
    rename_i a xs ts;have q':(rq ts).res (kV K F H Q) (fun _ _=>False):=q;unfold rq at q';cases e:qf ts with
    | none=>rw[e] at q';exact q'.elim
    | some bs=>rw[e] at q';exact⟨a,xs,bs,rfl,.inr (kR.of (s _ _ h)),by rw[yJ r];exact e,kV.now q' s (.bl _)⟩
   | _=>exact q.elim⟩
@[simp] noncomputable def IU(neg:Bool):T→T→M T
 | .bl a,.bl b=>.ok (.bl (if neg then !(a == b) else a == b))
 | _,_=>.bad
theorem Ky{neg:Bool}(x y:T):M.NoE (IU neg x y):=fun C n=>by unfold IU;split<;>intro z<;>cases z
theorem EU:MR K (fun x y H Q=>∃a b,x=.bl a∧y=.bl b∧Q (.bl (!(a == b))) H) (IU true):=⟨Ky,fun F H v w x y Q s ra rb q=>by
 cases ra with
 | bl a=>
  cases rb with
  | bl b=>exact⟨_,_,rfl,rfl,kV.now q s (.bl _)⟩
  | _=>exact q.elim
 | _=>exact q.elim⟩
theorem Nc:Pm K E X (.Dict [] [] pos) HG (cM .emp):=⟨FX,fun F H σ ρ Q s V q p hp=>(q:kV K F H Q .emp) (.ref p) _ _ (.new s hp) (.emp eP)⟩
noncomputable def xR:T→T→M T
 | .tup a,.int k=>if yM k=true∧a.length*k.toNat≤sizeLine then .ok (.tup (List.replicate k.toNat a).flatten) else .bad
 | _,_=>.bad
theorem FO(x y:T):M.NoE (xR x y):=fun C n=>by unfold xR;split<;>first | (split<;>intro z<;>cases z) | (intro z;cases z)
theorem Kd:MR K HB xR:=⟨FO,fun F H v w x y Q s ra rb q=>by
 cases ra with
 | tup h r=>
  cases rb with
  | int k=>
   rename_i a xs ts;have q':(if yM k=true∧ts.length*k.toNat≤sizeLine then M.ok (T.tup (List.replicate k.toNat ts).flatten) else M.bad).res (kV K F H Q) (fun _ _=>False):=q;by_cases hc:yM k=true∧ts.length*k.toNat≤sizeLine
   ·rw[aP hc] at q';refine⟨a,k,xs,rfl,rfl,s _ _ h,by have:=o9 hc.1;rw[Pp] at this;rw[PF];omega,by have:=o9 hc.1;rw[Pp] at this;rw[PF];omega,by rw[r.length];exact hc.2,fun z=>?_,fun z p hp=>?_⟩
    ·have:(List.replicate k.toNat ts).flatten=ts:=by
      rcases z with z | z
      ·subst z;cases r;simp
      ·subst z;simp
     rw[this] at q';exact kV.now q' s (.tup h r)
    ·exact (q':kV K F H Q _) (.ref p) _ _ (.new s hp) (.tup eP ((r.rep k.toNat).mono (Gr.new s hp).ff))
   ·rw[aQ hc] at q';exact q'.elim
  | _=>exact q.elim
 | _=>exact q.elim⟩
@[simp] noncomputable def sO(fa fb:Pe→M T):Pe→M T:=eC xR fa fb
theorem yi(ha:Pm K E X a ta fa)(hb:Pm K E X b tb fb):Pm K E X (.BinOp a .Mult b pos) (wg HB ta tb) (sO fa fb):=uZ Kk Kd ha hb
noncomputable def mD(xs:List T):List T:=(xs.zipIdx).map fun p=>T.tup [.int (p.2:Int),p.1]
def HF(K:W.Frag)(ta:TA):TI:=fun σ H R=>∃b,Iy K b ta σ H R
@[simp] noncomputable def C7(fa:Pe→M (List T)):Pe→M (List T):=fun ρ=>(fa ρ).bind fun xs=>match xs with
 | [x]=>(seqT x).bind fun ts=>.ok (mD ts)
 | _=>.bad
theorem Kh{F:Hp}{b:Bool}{l:Addr}{xs:List V}{ts:List T}(h1:∀H,fv F H→t8 K H b l xs)(r1:eZ K F xs ts):wJ K (PR K b l) (mD ts) F where
 go:=fun i H s hi=>by
  have hi':i<ts.length:=by simpa[mD] using hi
  have e1:xs[i]? = some (xs[i]'(by rw[r1.length];exact hi')):=ag _;exact⟨xs,_,h1 H s,e1⟩
 stop:=fun H s=>⟨xs,h1 H s,by simp[mD,r1.length]⟩
 yld:=fun i t F' H x H' s1 s2 e y=>by
  obtain⟨p,x1,rfl,hp,rfl,e1⟩:=y;obtain⟨t1,f1,q1⟩:=r1.at_ (e1 xs (h1 H (s1.trans s2)));have:t=.tup [.int (i:Int),t1]:=by unfold mD at e;rw[av,List.getElem?_zipIdx,f1] at e;simp at e;exact e.symm
  rw[this];have g:=Gr.new (o:=.tup [.int i,x1]) s2 hp;exact⟨_,g,.tup eP (.cons (.int _) (.cons ((q1.mono s1).mono g.ff) .nil))⟩
noncomputable def Ca(b:Bool)(fa:Pe→M (List T)):Pe→M (List T):=fun ρ=>(fa ρ).bind fun xs=>match xs with
 | [x]=>(seqB b x).bind fun ts=>.ok (mD ts)
 | _=>.bad
theorem Ay{b:Bool}(ha:MA K E tr fr):MI K E (Iy K b tr) (Ca b fr):=fun F H σ ρ R s V q=>by
 refine ha.run s V q fun xs vs F1 H1 g1 r1 q1=>?_;split at q1
 ·rename_i x;cases r1 with
  | cons a c=>
   cases c;cases e1:seqB b x with
   | bad=>rw[e1] at q1;exact q1.elim
   | er C n=>exact absurd e1 zk
   | ok ts=>rw[e1] at q1;obtain⟨a1,x1,rfl,s1,t1⟩:=yC a e1;exact⟨a1,rfl,⟨x1,s1 _ g1.fh⟩,(q1:kI K F H R _) _ F1 H1 g1 (Kh s1 t1)⟩
 ·exact q1.elim
theorem KJ(ha:MA K E tr fr):MI K E (HF K tr) (C7 fr):=fun F H σ ρ R s V q=>by
 unfold C7 at q;cases e:fr ρ with
 | bad=>rw[e] at q;exact q.elim
 | er C n=>rw[e] at q;exact⟨true,Ay ha F H σ ρ R s V (by unfold Ca;rw[e];exact q)⟩
 | ok xs=>
  rw[e] at q;match xs,e,q with
  | [],_,q=>exact q.elim
  | [x],e,q=>refine⟨rh x,Ay ha F H σ ρ R s V ?_⟩;unfold Ca;rw[e];have q':((seqT x).bind fun ts=>M.ok (mD ts)).res (kI K F H R) (kE E F H):=q;rw[BD x] at q';exact q'
  | _::_::_,_,q=>exact q.elim
theorem KQ{elts:List Expr}{x1}{tpos:Pos}(hm:X.mg "enumerate" = none)(ha:A5 K E X [a] tr fr)(hK:X.K=K:=by rfl)(hg:Gl X "enumerate" :=by rfl)(hs:starEach [a] X.env=[(false,eval a X.env)]:=by rfl) :
  Lj K E X (.Tuple elts x1 tpos) (.Call (.Name "enumerate" p) [a] [] pos) (HF K tr) (C7 fr):=by
 subst hK;refine⟨fun dU s σ H R I h=>?_,KJ ha.ma⟩;obtain⟨b,h⟩:=h;exact HV hg hm ha.pa hs dU s σ H R I h
end
structure Bs(mg:Str→Option Value):Prop where
 abs:mg "abs" = none
 isinstance:mg "isinstance" = none
 int:mg "int" = none
 bool:mg "bool" = none
 len:mg "len" = none
 range:mg "range" = none
 tuple:mg "tuple" = none
 list:mg "list" = none
 str:mg "str" = none
 all:mg "all" = none
 any:mg "any" = none
 sum:mg "sum" = none
 zip:mg "zip" = none
 max:mg "max" = none
 min:mg "min" = none
 enumerate:mg "enumerate" = none
 reversed:mg "reversed" = none
 set:mg "set" = none
 dict:mg "dict" = none
 sorted:mg "sorted" = none
theorem lT:bootBuiltins "list" = some (.type "list"):=by decide +kernel
theorem BB:bootBuiltins "min" = some (.builtin "min"):=by decide +kernel
end L3
namespace L3
open PySem L2
section
variable {α:Type}
theorem xC{k:T→M (Option T)}(enc f:α→T):∀(l:List α),(∀a∈l,k (enc a)=.ok (some (f a)))→oj k (l.map enc)=.ok (l.map f)
 | [],_=>rfl
 | a::l,h=>by rw[bx,oj,h a (by simp),M.bind_ok,xC enc f l fun b hb=>h b (by simp[hb])];rfl
theorem qH{k:T→M (Option T)}(enc f:α→T)(p:α→Bool):∀(l:List α),(∀a∈l,k (enc a)=.ok (if p a then some (f a) else none))→oj k (l.map enc)=.ok ((l.filter p).map f)
 | [],_=>rfl
 | a::l,h=>by
  rw[bx,oj,h a (by simp),M.bind_ok,qH enc f p l fun b hb=>h b (by simp[hb])];by_cases hp:p a=true
  ·simp[hp]
  ·simp[hp]
theorem gq{m:T→En→Option En}{g:En→O}(enc:α→T)(P:Nat→En→Prop):∀(l:List α) (k:Nat) (ρ:En),P k ρ→
  (∀i a ρ,l[i]? = some a→P (k+i) ρ→∃ρ1 ρ2,m (enc a) ρ=some ρ1∧(g ρ1=.nx ρ2∨g ρ1=.ct ρ2)∧P (k+i+1) ρ2)→∃ρ',iA m g (l.map enc) ρ=.nx ρ'∧P (k+l.length) ρ'
 | [],k,ρ,h,_=>⟨ρ,rfl,h⟩
 | a::l,k,ρ,h,st=>by
  obtain⟨ρ1,ρ2,e1,e2,h2⟩:=st 0 a ρ rfl h;obtain⟨ρ',e,h'⟩:=gq enc P l (k+1) ρ2 h2 fun i b ρ hb hP=>by have:=st (i+1) b ρ (by simpa using hb) (by rw[show k+(i+1)=k+1+i by omega];exact hP);rw[show k+1+i+1=k+(i+1)+1 by omega];exact this
  refine⟨ρ',?_,by rw[ay,show k+(l.length+1)=k+1+l.length by omega];exact h'⟩;rw[bx,iA,e1];rcases e2 with e2 | e2<;>(dsimp only;rw[e2];exact e)
theorem n0{c:Pe→M Bool}{g:En→O}(P:En→Prop)(μ:En→Nat)(R:En→Prop)(st:∀ρ,P ρ→(c (vw ρ)=.ok false∧R ρ)∨(c (vw ρ)=.ok true∧∃ρ2,(g ρ=.nx ρ2∨g ρ=.ct ρ2)∧P ρ2∧μ ρ2<μ ρ)) :
  ∀(n:Nat) (ρ:En),P ρ→μ ρ<n→∃ρ',kh c g n ρ=.nx ρ'∧R ρ'
 | 0,ρ,_,h=>absurd h (cA _)
 | n+1,ρ,hP,hn=>by
  rcases st ρ hP with⟨e,r⟩ | ⟨e,ρ2,e2,hP2,hm⟩
  ·exact⟨ρ,by rw[kh,e];rfl,r⟩
  ·obtain⟨ρ',e',r⟩:=n0 P μ R st n ρ2 hP2 (by omega);refine⟨ρ',?_,r⟩;rw[kh,e,O.of_ok,aP rfl];rcases e2 with e2 | e2<;>(rw[e2];exact e')
end
theorem ug{α:Type}{ix:List (Option Nat)}{fi:Pe→M (List T)}{m:T→Pe→Option Pe}{ft:Pe→M Bool}{fe:Pe→M T}{ρ:Pe}(l:List α)(enc f:α→T)(hi:fi ρ=.ok (l.map enc))(hl:l.length<sizeLine)
  (ht:∀a∈l,∃ρ1,m (enc a) (lJ ix ρ)=some ρ1∧ft ρ1=.ok true∧fe ρ1=.ok (f a)):iE ix fi m ft fe ρ=.ok (l.map f):=by
 have h:=xC (k:=qc m ft fe (lJ ix ρ)) enc f l fun a ha=>by obtain⟨ρ1,e1,e2,e3⟩:=ht a ha;unfold qc;rw[e1];dsimp only;rw[e2,M.bind_ok,aP rfl,e3];rfl
 unfold iE;rw[hi,M.bind_ok,aw,aP hl,h];rfl
theorem Cg{α:Type}{ix:List (Option Nat)}{fi:Pe→M (List T)}{m:T→Pe→Option Pe}{ft:Pe→M Bool}{fe:Pe→M T}{ρ:Pe}(l:List α)(enc f:α→T)(p:α→Bool)(hi:fi ρ=.ok (l.map enc))(hl:l.length<sizeLine)
  (ht:∀a∈l,∃ρ1,m (enc a) (lJ ix ρ)=some ρ1∧ft ρ1=.ok (p a)∧(p a=true→fe ρ1=.ok (f a))):iE ix fi m ft fe ρ=.ok ((l.filter p).map f):=by
 have h:=qH (k:=qc m ft fe (lJ ix ρ)) enc f p l fun a ha=>by
  obtain⟨ρ1,e1,e2,e3⟩:=ht a ha;unfold qc;rw[e1];dsimp only;rw[e2,M.bind_ok];cases hp:p a with
  | true=>rw[aP rfl,aP rfl,e3 hp];rfl
  | false=>rw[aQ aG,aQ aG]
 unfold iE;rw[hi,M.bind_ok,aw,aP hl,h];rfl
theorem gQ{α:Type}{ix:List (Option Nat)}{fi:Pe→M (List T)}{m:T→Pe→Option Pe}{ft:Pe→M Bool}{fe:Pe→M T}{ρ:Pe}{ts:List T}(l:List α)(enc f:α→T)(hi:fi ρ=.ok (l.map enc))(hl:l.length<sizeLine)
  (ht:∀a∈l,∃ρ1,m (enc a) (lJ ix ρ)=some ρ1∧ft ρ1=.ok true∧fe ρ1=.ok (f a)) (hr:l.map f=ts):iE ix fi m ft fe ρ=.ok ts:=by rw[←hr];exact ug l enc f hi hl ht
theorem nP{α:Type}{ix:List (Option Nat)}{fi:Pe→M (List T)}{m:T→Pe→Option Pe}{ft:Pe→M Bool}{fe:Pe→M T}{ρ:Pe}{ts:List T}(l:List α)(enc f:α→T)(p:α→Bool)(hi:fi ρ=.ok (l.map enc))(hl:l.length<sizeLine)
  (ht:∀a∈l,∃ρ1,m (enc a) (lJ ix ρ)=some ρ1∧ft ρ1=.ok (p a)∧(p a=true→fe ρ1=.ok (f a))) (hr:(l.filter p).map f=ts):iE ix fi m ft fe ρ=.ok ts:=by rw[←hr];exact Cg l enc f p hi hl ht
theorem Po(lo:Int)(n:Nat):zh lo n=(List.range n).map fun (i:Nat)=>T.int (lo+(i:Int)):=rfl
noncomputable def tI(ns:List Int):T:=.tup (ns.map T.int)
noncomputable def tL(ns:List Int):T:=.lst (ns.map T.int)
noncomputable def fr(p:Int×Int):T:=.tup [.int p.1,.int p.2]
noncomputable def tS(s:List (Int×Int)):T:=.tup (s.map fr)
theorem Bc{α:Type}(l:List α)(i:Int)(h0:0≤i)(h1:i<l.length):∃a,oY l i=some a∧a∈l:=by
 unfold oY xH;rw[aP h0,aP h1];have hn:i.toNat<l.length:=by omega
 exact⟨l[i.toNat],by simp[hn],aU _⟩
theorem gz{i j:Int}(h:PySem.IntMulOk i j):ie (.int i) (.int j)=.ok (.int (i*j)):=by simp[ie,jR,h]
theorem my{i j:Int}(h:j≠0)(h2:Builtin.divisionGoesByPylong i j=false):oy (.int i) (.int j)=.ok (.int (i.fdiv j)):=by simp[oy,jR,h,h2]
theorem oX{i j:Int}(h:j≠0):rS (.int i) (.int j)=.ok (.int (i.fmod j)):=by simp[rS,jR,h]
@[simp] theorem gw(i j:Int):gB (.int i) (.int j)=.ok (.int (i+j)):=rfl
@[simp] theorem jB(i j:Int):mV (.int i) (.int j)=.ok (.int (i - j)):=rfl
@[simp] theorem nE(i j:Int):C3 (.int i) (.int j)=.ok (.bl (decide (i<j))):=rfl
@[simp] theorem yV(i j:Int):HL (.int i) (.int j)=.ok (.bl (decide (i≤j))):=rfl
@[simp] theorem rA(i j:Int):FB (.int i) (.int j)=.ok (.bl (decide (j<i))):=rfl
@[simp] theorem qR(i j:Int):K5 (.int i) (.int j)=.ok (.bl (decide (j≤i))):=rfl
@[simp] theorem fS(i j:Int):eU false (.int i) (.int j)=.ok (.bl (i == j)):=by simp[eU,mz,CO,pB]
@[simp] theorem iz(i j:Int):eU true (.int i) (.int j)=.ok (.bl (!(i == j))):=by simp[eU,mz,CO,pB]
theorem r9{i j:Int}(h:i.natAbs<2 ^ 64):PySem.IntMulOk i j:=IntMulOk.of_left (PyProof.Rows.intBits_le h)
theorem qj{i j:Int}(h:j.natAbs<2 ^ 64):PySem.IntMulOk i j:=PySem.IntMulOk.of_right (PyProof.Rows.intBits_le h)
def Bn(n:Nat)(x:Int):Prop:=x.natAbs<2 ^ n
theorem Bn.mono{m n:Nat}{x:Int}(h:Bn m x)(hm:m≤n):Bn n x:=aD h (cB (by decide) hm)
theorem Bn.mul{m n:Nat}{x y:Int}(h:Bn m x)(h':Bn n y):Bn (m+n) (x*y):=by unfold Bn at *;rw[aX,Nat.pow_add];exact Nat.mul_lt_mul'' h h'
theorem Bn.add{m n:Nat}{x y:Int}(h:Bn m x)(h':Bn n y):Bn (max m n+1) (x+y):=by have a:Bn (max m n) x:=h.mono (Nat.le_max_left _ _);have b:Bn (max m n) y:=h'.mono (Nat.le_max_right _ _);unfold Bn at *;rw[cC];have:=Int.natAbs_add_le x y;omega
theorem Bn.neg{m:Nat}{x:Int}(h:Bn m x):Bn m (-x):=by unfold Bn at *;rw[cD];exact h
theorem Bn.sub{m n:Nat}{x y:Int}(h:Bn m x)(h':Bn n y):Bn (max m n+1) (x - y):=by rw[Int.sub_eq_add_neg];exact h.add h'.neg
theorem Bn.ok{m n:Nat}{x y:Int}(h:Bn m x)(h':Bn n y)(hm:m≤2 ^ 20)(hn:n≤2 ^ 20):PySem.IntMulOk x y:=IntMulOk.of_bits (aM (PyProof.Rows.intBits_le h) hm) (aM (PyProof.Rows.intBits_le h') hn)
theorem Bn.noPy{n:Nat}{x y:Int}(h:Bn n y)(hn:n≤8000):Builtin.divisionGoesByPylong x y=false:=Cu.noPy (PyProof.Rows.intBits_le h) hn
section
variable {a b g:En→O}{ρ ρ':En}{r:O}{fc:Pe→M Bool}{f:Pe→M T}{ff:Pe→M (List T)}{t:T}{ts:List T}{k n i:Nat}
theorem d8(h1:a ρ=.nx ρ')(h2:b ρ'=r):eJ a b ρ=r:=by unfold eJ;rw[h1];exact h2
theorem hU(h1:a ρ=.rt t)(hr:.rt t=r):eJ a b ρ=r:=by unfold eJ;rw[h1];exact hr
theorem fG(h:fc (vw ρ)=.ok true)(h2:a ρ=r):jy fc a b ρ=r:=by unfold jy;rw[h];exact h2
theorem fz(h:fc (vw ρ)=.ok false)(h2:b ρ=r):jy fc a b ρ=r:=by unfold jy;rw[h];exact h2
theorem eG(h:f (kf ρ)=.ok t)(hr:ρ'=ρ.set i (some (.p t))):setO i (gE f) ρ=.nx ρ':=by unfold setO gE;rw[h,hr];rfl
theorem ua(h:f (vw ρ)=.ok t)(hl:lf t=true)(hr:ρ'=ρ.set i (some (.p t))):setO i (mB f) ρ=.nx ρ':=by unfold setO mB;rw[h,hr];simp[hl]
theorem lF(h:ff (kf ρ)=.ok ts)(hr:ρ'=ρ.set i (some (.o ts))):mU i (om ff) ρ=.nx ρ':=by unfold mU om;rw[h,hr];rfl
theorem Jz(h:ff (vw ρ)=.ok ts)(hl:FA ts=true)(hr:ρ'=ρ.set i (some (.o ts))):mU i (wO ff) ρ=.nx ρ':=by unfold mU wO;rw[h,hr];simp[hl]
theorem qg{us:List T}(ho:ρ[i]? = some (some (.o us)))(h:f (kf ρ)=.ok t)(hz:us.length<sizeLine)(hr:ρ'=ρ.set i (some (.o (us++[t])))):nX i (gE f) ρ=.nx ρ':=by unfold nX gE kW;rw[ho,h,hr];simp[hz]
theorem JS{us:List T}(ho:ρ[i]? = some (some (.o us)))(h:f (vw ρ)=.ok t)(hl:lf t=true)(hz:us.length<sizeLine)(hr:ρ'=ρ.set i (some (.o (us++[t])))):nX i (mB f) ρ=.nx ρ':=by unfold nX mB kW;rw[ho,h,hr];simp[hz,hl]
theorem yY{us:List T}{fk:Pe→M T}{j:Int}{m:Nat}(ho:ρ[i]? = some (some (.o us)))(h:f (vw ρ)=.ok t)(hl:lf t=true)(hk:fk (vw ρ)=.ok (.int j))(hj:xH us.length j=some m)(hr:ρ'=ρ.set i (some (.o (us.set m t)))):vO i (mB fk) (mB f) ρ=.nx ρ':=by unfold vO mB kW;rw[ho,h,hk,hr];simp[hl,hj]
theorem eN(h:f (vw ρ)=.ok t):fT f ρ=.rt t:=by unfold fT;rw[h];rfl
theorem oW(h:ff (vw ρ)=.ok ts):pQ ff ρ=.rf ts:=by unfold pQ;rw[h];rfl
theorem zw(h:f (kf ρ)=.ok t):yc (gE f) ρ=.nx ρ:=by unfold yc gE;rw[h];rfl
theorem gN{fi:Pe→M (List T)}{m:T→En→Option En}{its:List T}(h:fi (kf ρ)=.ok its)(h2:iA m g its ρ=r):kM fi m g ρ=r:=by unfold kM;rw[h];exact h2
theorem lR{fi:Pe→M (List T)}{m:T→En→Option En}{its:List T}(h:fi (vw ρ)=.ok its)(h2:iA m g its ρ=r):ox fi m g ρ=r:=by unfold ox;rw[h];exact h2
theorem fw(hk:ts.length=k)(h:g (fQ n ts)=.rt t):j7 k n g ts=.ok t:=by unfold j7;rw[aP hk,h];rfl
theorem N9(hk:ts.length=k)(h:g (fQ n ts)=.nx ρ):j7 k n g ts=.ok .non:=by unfold j7;rw[aP hk,h];rfl
theorem lC{us:List T}(hk:ts.length=k)(h:g (fQ n ts)=.rf us):yG k n g ts=.ok us:=by unfold yG;rw[aP hk,h];rfl
end
theorem JQ(n:Nat):zh 0 n=(List.range n).map fun (i:Nat)=>T.int (i:Int):=by simp[zh]
theorem qQ{α:Type}(f:α→T):∀(l:List α),(∀a∈l,mz (f a)=true)→ou (l.map f)=true
 | [],_=>rfl
 | a::l,h=>by rw[bx,ou,h a (by simp),qQ f l fun b hb=>h b (by simp[hb])];rfl
theorem qN{α:Type}(f:α→T)(n:Nat):∀(l:List α),(∀a∈l,CO (f a)≤n)→v7 (l.map f)≤n
 | [],_=>bA _
 | a::l,h=>by rw[bx,v7];have h1:=h a (by simp);have h2:=qN f n l fun b hb=>h b (by simp[hb]);omega
@[simp] theorem NN(ns:List Int):ou (ns.map T.int)=true:=qQ _ _ fun _ _=>rfl
theorem se(ns:List Int):v7 (ns.map T.int)≤0:=qN _ _ _ fun _ _=>aJ _
@[simp] theorem NB(ns:List Int):mz (tI ns)=true:=by simp[tI,mz]
theorem LN(ns:List Int):CO (tI ns)≤1:=by unfold tI;rw[CO];have:=se ns;omega
@[simp] theorem ON(l:List (List Int)):ou (l.map tI)=true:=qQ _ _ fun _ _=>NB _
theorem vx(l:List (List Int)):v7 (l.map tI)≤1:=qN _ _ _ fun _ _=>LN _
@[simp] theorem GN(l:List T):qm l []=l.isEmpty:=by cases l<;>rfl
theorem Ah{α:Type}(f:α→T)(he:∀a b,pB (f a) (f b)=true↔a=b):∀(l m:List α),qm (l.map f) (m.map f)=true↔l=m
 | [],[]=>by simp[qm]
 | [],b::m=>by simp[qm]
 | a::l,[]=>by simp[qm]
 | a::l,b::m=>by rw[bx,bx,qm,bJ,he a b,Ah f he l m];simp
theorem xy(l m:List Int):qm (l.map T.int) (m.map T.int)=decide (l=m):=by
 have h:=Ah T.int (fun a b=>by simp[pB]) l m;by_cases e:l=m
 ·rw[aB e];exact h.mpr e
 ·rw[aA e];cases hb:qm (l.map T.int) (m.map T.int) with
  | false=>rfl
  | true=>exact absurd (h.mp hb) e
theorem MP(neg:Bool)(l m:List Int):eU neg (.tup (l.map T.int)) (.tup (m.map T.int))=.ok (.bl (if neg then !decide (l=m) else decide (l=m))):=by have h:=se l;unfold eU;rw[aP (by simp[mz,CO];omega),pB,xy]
theorem Br(neg:Bool)(l m:List Int):eU neg (.lst (l.map T.int)) (.lst (m.map T.int))=.ok (.bl (if neg then !decide (l=m) else decide (l=m))):=by have h:=se l;unfold eU;rw[aP (by simp[mz,CO];omega),pB,xy]
theorem uv(neg:Bool)(ts:List T)(h:ou ts=true)(hd:v7 ts≤90):eU neg (.lst ts) (.lst [])=.ok (.bl (if neg then !ts.isEmpty else ts.isEmpty)):=by unfold eU;rw[aP (by simp[mz,CO,h,ou];omega),pB,GN]
theorem w9{α:Type}(f:α→T)(l:List α):mD (l.map f)=l.zipIdx.map fun p=>T.tup [.int (p.2:Int),f p.1]:=by unfold mD;rw[List.zipIdx_map,aH];rfl
theorem FQ{α β:Type}(f:α→T)(g:β→T)(l:List α)(m:List β):yy (l.map f) (m.map g)=(l.zip m).map fun p=>T.tup [f p.1,g p.2]:=by unfold yy;rw[List.zip_map,aH];rfl
theorem yO{α:Type}(f:α→T):∀(l:List α),(∀a∈l,lf (f a)=true)→FA (l.map f)=true
 | [],_=>rfl
 | a::l,h=>by rw[bx,FA,h a (by simp),yO f l fun b hb=>h b (by simp[hb])];rfl
@[simp] theorem HP(ns:List Int):FA (ns.map T.int)=true:=yO _ _ fun _ _=>rfl
@[simp] theorem HH(ns:List Int):lf (tI ns)=true:=by simp[tI]
@[simp] theorem IL(l:List (List Int)):FA (l.map tI)=true:=yO _ _ fun _ _=>HH _
section
variable {α:Type}{fe fd fl:Pe→M T}{ρ:Pe}{ts:List T}{d k:Nat}
theorem xh(l:List α)(d:Nat):oS l none (some (d:Int))=l.take d:=by
 unfold oS;rw[HT.sIx_none,HT.sIx_nat,cE,Nat.sub_zero];by_cases h:d≤l.length
 ·rw[Nat.min_eq_left h]
 ·rw[Nat.min_eq_right (by omega),b5 (aJ _),b5 (by omega)]
theorem ya(l:List α)(d:Nat):oS l (some (d:Int)) none=l.drop d:=by
 unfold oS;rw[HT.sIx_none,HT.sIx_nat];by_cases h:d≤l.length
 ·rw[Nat.min_eq_left h,b5 (by simp)]
 ·rw[Nat.min_eq_right (by omega),List.drop_of_length_le (aJ _),List.drop_of_length_le (by omega),List.take_nil]
theorem Ap(h:fe ρ=.ok (.tup ts))(hd:fd ρ=.ok (.int (d:Int)))(hl:d≤ts.length):jN fe (fun _=>.ok none) (gU fd) ρ=.ok (.tup (ts.take d)):=by simp only[jN,gU,h,hd,M.bind_ok,xh]
theorem rW(h:fe ρ=.ok (.lst ts))(hd:fd ρ=.ok (.int (d:Int))):jN fe (fun _=>.ok none) (gU fd) ρ=.ok (.lst (ts.take d)):=by simp only[jN,gU,h,hd,M.bind_ok,xh]
theorem E8(h:fe ρ=.ok (.lst ts))(hd:fd ρ=.ok (.int (d:Int))):jN fe (gU fd) (fun _=>.ok none) ρ=.ok (.lst (ts.drop d)):=by simp only[jN,gU,h,hd,M.bind_ok,ya]
theorem mF{o:List T→M T}{lc:Pe→M (List T)}{r:M T}(h:lc ρ=.ok ts)(hr:o [.lst ts]=r):iU o (dP (fj lc) dW) ρ=r:=by simp only[iU,dP,dW,fj,h,M.bind_ok];exact hr
theorem lD{o:List T→M T}{f:Pe→M T}{t:T}{r:M T}(h:f ρ=.ok t)(hr:o [t]=r):iU o (dP f dW) ρ=r:=by simp only[iU,dP,dW,h,M.bind_ok];exact hr
theorem fM{lc:Pe→M (List T)}(h:lc ρ=.ok ts):fj lc ρ=.ok (.lst ts):=by simp only[fj,h,M.bind_ok]
theorem FV(h:fe ρ=.ok (.tup ts)):fY fe ρ=.ok ts:=by simp only[fY,h,M.bind_ok]
theorem uX(h:fe ρ=.ok (.lst ts)):fY fe ρ=.ok ts:=by simp only[fY,h,M.bind_ok]
theorem eK{b:Bool}(h:fe ρ=.ok (.bl b)):fN fe ρ=.ok b:=by simp only[fN,h,M.bind_ok]
theorem nV{fc:Pe→M Bool}{b r:Bool}(h:fc ρ=.ok b)(hr:(!b)=r):L3.j8 fc ρ=.ok r:=by simp only[L3.j8,h,M.bind_ok,hr]
theorem dZ{o:T→T→M T}{fa fb:Pe→M T}{x y:T}{r:M T}(ha:fa ρ=.ok x)(hb:fb ρ=.ok y)(hr:o x y=r):eC o fa fb ρ=r:=by simp only[eC,ha,hb,M.bind_ok];exact hr
theorem pU{F:List T→M T}{f:Pe→M T}{x t:T}(h:f ρ=.ok x)(hr:F [x]=.ok t):eD (dP f dW) F ρ=.ok t:=by simp only[eD,dP,dW,h,hr,M.bind_ok];rfl
theorem fX{F:List T→M T}{f g:Pe→M T}{x y t:T}(h:f ρ=.ok x)(h2:g ρ=.ok y)(hr:F [x,y]=.ok t):eD (dP f (dP g dW)) F ρ=.ok t:=by simp only[eD,dP,dW,h,h2,hr,M.bind_ok];rfl
theorem iP{F:List T→M T}{f g k:Pe→M T}{x y z t:T}(h:f ρ=.ok x)(h2:g ρ=.ok y)(h3:k ρ=.ok z)(hr:F [x,y,z]=.ok t):eD (dP f (dP g (dP k dW))) F ρ=.ok t:=by simp only[eD,dP,dW,h,h2,h3,hr,M.bind_ok];rfl
theorem Oi{F:List T→M T}{f g k l:Pe→M T}{x y z u t:T}(h:f ρ=.ok x)(h2:g ρ=.ok y)(h3:k ρ=.ok z)(h4:l ρ=.ok u)(hr:F [x,y,z,u]=.ok t):eD (dP f (dP g (dP k (dP l dW)))) F ρ=.ok t:=by simp only[eD,dP,dW,h,h2,h3,h4,hr,M.bind_ok];rfl
end
section
variable {ρ:Pe}{ts:List T}{F:List T→M (List T)}{f g k l:Pe→M T}{x y z u:T}
theorem Ga(h:f ρ=.ok x)(hr:F [x]=.ok ts):ig (dP f dW) F ρ=.ok ts:=by simp only[ig,dP,dW,h,hr,M.bind_ok];rfl
theorem GO(h:f ρ=.ok x)(h2:g ρ=.ok y)(hr:F [x,y]=.ok ts):ig (dP f (dP g dW)) F ρ=.ok ts:=by simp only[ig,dP,dW,h,h2,hr,M.bind_ok];rfl
theorem Bk(h:f ρ=.ok x)(h2:g ρ=.ok y)(h3:k ρ=.ok z)(hr:F [x,y,z]=.ok ts):ig (dP f (dP g (dP k dW))) F ρ=.ok ts:=by simp only[ig,dP,dW,h,h2,h3,hr,M.bind_ok];rfl
theorem B3(h:f ρ=.ok x)(h2:g ρ=.ok y)(h3:k ρ=.ok z)(h4:l ρ=.ok u)(hr:F [x,y,z,u]=.ok ts):ig (dP f (dP g (dP k (dP l dW)))) F ρ=.ok ts:=by simp only[ig,dP,dW,h,h2,h3,h4,hr,M.bind_ok];rfl
end
theorem mw{α β:Type}{fa fb:Pe→M T}{ρ:Pe}{x y:T}{l:List α}{m:List β}{f:α→T}{g:β→T}(ha:fa ρ=.ok x)(hx:seqT x=.ok (l.map f))(hb:fb ρ=.ok y)(hy:seqT y=.ok (m.map g)) :
  j9 (dP fa (dP fb dW)) ρ=.ok ((l.zip m).map fun p=>T.tup [f p.1,g p.2]):=by
 rw[←FQ];simp only[j9,dP,dW,ha,hb,M.bind_ok,hx,hy]
end L3
namespace L3
open PySem L2 PySem.Spec PyProof.Rows
section
variable {K:W.Frag}{E:XK}{X:Cx}{a b c e o tg it:Expr}{es:List Expr}{ta tb tc te to:TE}{fa fb fc fe fo:Pe→M T}{tr:TA}{fr:Pe→M (List T)}{pos p p2 apos:Pos}
@[simp] noncomputable def mM:List T→M T
 | [.int i,.int j]=>.ok (.int (if j<i then j else i))
 | _=>.bad
theorem HM(xs:List T):M.NoE (mM xs):=fun C n=>by unfold mM;split<;>intro z<;>cases z
theorem yB:MC K (fun xs H Q=>∃i j,xs=[.int i,.int j]∧Q (.int (if j<i then j else i)) H) mM:=⟨HM,fun F H vs xs Q s r q=>by
 cases r with
 | nil=>exact q.elim
 | cons h t=>
  cases t with
  | nil=>cases h<;>exact q.elim
  | cons h2 t=>
   cases t with
   | cons _ _=>cases h<;>first | exact q.elim | (cases h2<;>exact q.elim)
   | nil=>
    cases h with
    | int i=>
     cases h2 with
     | int j=>exact⟨i,j,rfl,kV.now q s (.int _)⟩
     | _=>exact q.elim
    | _=>exact q.elim⟩
end
section
variable {K:W.Frag}{E:XK}{X:Cx}{F0:Fz}{H0 F H:Hp}{σ:L2.St}{ρ:En}
theorem Sr.freeze{j:Nat}{ts:List T}(r:Sr K F0 H0 F H σ ρ)(e:ρ[j]? = some (some (.o ts))):∃F',fv F F'∧Sr K F0 H0 F' H σ (ρ.set j (some (.p (.lst ts)))):=by
 obtain⟨ad,h1,h2⟩:=r.ov;obtain⟨a,b,c,vs,d,z⟩:=h1 j ts e;have sf:fv F (ij F (ad j) (.lst vs)):=kC b;refine⟨ij F (ad j) (.lst vs),sf,⟨r.gr.ff.trans sf,fun p u q=>?_,r.gr.hh,fun p hp=>?_⟩,by simp[r.len],fun i t q=>?_,⟨ad,fun i ss q=>?_,fun i k ss ss' q q' hik=>?_⟩,fun e' he=>?_,fun i l' vs' hlt q=>?_,(r.dv.heap sf fun p xs hp fp=>⟨by rw[eO (fun z=>by rw[z,d] at hp;cases hp)];exact fp,hp⟩).setR fun _ z=>nomatch z⟩
 ·by_cases hp:p=ad j
  ·subst hp;rw[eP] at q;cases q;exact d
  ·rw[eO hp] at q;exact r.gr.fh p u q
 ·by_cases hq:p=ad j
  ·subst hq;exact .inr (.inl c)
  ·rw[eO hq] at hp;exact r.gr.nw p hp
 ·rcases eR q with⟨rfl,q1⟩ | ⟨hj,q1⟩
  ·cases q1;exact⟨_,a,.lst eP (z.mono sf)⟩
  ·obtain⟨v,x,y⟩:=r.pv i t q1;exact⟨v,x,y.mono sf⟩
 ·rcases eR q with⟨rfl,q1⟩ | ⟨hj,q1⟩
  ·cases q1
  ·obtain⟨a',b',c',vs',d',z'⟩:=h1 i ss q1;exact⟨a',by rw[eO (h2 i j ss ts q1 e hj)];exact b',c',vs',d',z'.mono sf⟩
 ·rcases eR q with⟨rfl,q1⟩ | ⟨hj,q1⟩
  ·cases q1
  ·rcases eR q' with⟨rfl,q2⟩ | ⟨hk,q2⟩
   ·cases q2
   ·exact h2 i k ss ss' q1 q2 hik
 ·have L:=r.lv e' he;have hne:e'.2.1≠ad j:=fun w=>L.d j ts e (by rw[w];exact a);refine⟨L.h,by rw[eO hne];exact L.f,L.z,fun i ss q=>?_⟩;rcases eR q with⟨rfl,q1⟩ | ⟨hj,q1⟩
  ·cases q1
  ·exact L.d i ss q1
 ·rcases eR q with⟨rfl,q1⟩ | ⟨hj,q1⟩
  ·cases q1
  ·exact r.sl i l' vs' hlt q1
@[simp] noncomputable def NP(j:Nat)(g:En→O):En→O:=fun ρ=>match ρ[j]? with
 | some (some (.o ts))=>g (ρ.set j (some (.p (.lst ts))))
 | _=>.bad
theorem Pf{t:TS}{g:En→O}(j:Nat)(h:MS K E t g):MS K E t (NP j g):=fun F0 H0 F H σ ρ D r q=>by
 unfold NP at q;split at q
 ·rename_i ts e;obtain⟨F',s,r'⟩:=r.freeze e;exact h F0 H0 F' H σ _ D r' (q.go s)
 ·exact q.elim
theorem M7{s:Stmt}{t:TS}{g:En→O}(j:Nat)(h:t7 K E X s t g):t7 K E X s t (NP j g):=⟨h.ps,Pf j h.ms⟩
theorem Ox{j:Nat}{ts:List T}{g:En→O}{r:O}(e:ρ[j]? = some (some (.o ts)))(h:g (ρ.set j (some (.p (.lst ts))))=r):NP j g ρ=r:=by unfold NP;rw[e];exact h
end
def DD(K:W.Frag):Sp:=fun vs H Q _=>∃(a:Addr) (ns:List Int),vs=[.ref a]∧jI K H a (ns.map V.int)∧ns.length≤63∧(∀z∈ns,Builtin.Int.intBits z≤2 ^ 20)∧∀H',Q (.bl true) H'
theorem Gs{K:W.Frag}{F:List T→M T}(h:∀ns:List Int,ns.length≤63→(∀z∈ns,Builtin.Int.intBits z≤2 ^ 20)→F [.scr ns]=.ok (.bl true))(vs:List V)(H:Hp)(Q:VK)(E:XK)(z:DD K vs H Q E):gA K F vs H Q E:=by obtain⟨a,ns,rfl,hS,hl,hb,hq⟩:=z;refine⟨[.scr ns],H,fun _ _ x=>x,.cons (.scr hS) .nil,?_⟩;rw[h ns hl hb];intro v F' H' g r;cases r;exact hq _
theorem P6{P:Program}{w:World}{K:W.Frag}{mg:Str→Option Value}{base:Heap}{x:Str}{st:Stmt}{N ps:List Str}{k:Nat}{g:En→O}{f:Addr}{fd:FuncData}(F:JM K x x st f fd)(S:eF N ps (eg st))
  (hT:∀(f:Addr) (cdv:Value) (A:Around) (outer:List Env) (s:Shared) (H:Hp) (E:XK),hV k (A.deeper (envOfC x (eg st) s.heap.objs.size f cdv))→∃t,qP K E (rz yh P w K mg base N x (eg st) f cdv A outer s H E).nox (gC st) t g) :
  mC P w K mg base yh (k+1) f fd ps (gA K (j7 ps.length N.length g)):=
 F.ok S (fun vs H Q E h=>By h) fun cdv A outer s H vs Q E hr h=>let ⟨t,hp⟩:=hT f cdv A outer s H E hr;⟨t,hp.ps,zb hp.ms h⟩
theorem OG{l:W.OpenLaw}{q:Program}{k:Nat}{x:Str}{loose:List Str}{XP:(Str→Option Value)→Heap→Prop}{YP:World→Heap→Prop}{d:DefRec}{K:Params→W.Frag}(hn:l.most=some 63)(hr:hV k callerA)(hdf:d.params.defaults=[])
  (hY:∀(w:World) (h:Heap),YP w h→(K w.params).In h)
  (F:∀(w:World) (mg:Str→Option Value) (fa:Addr) (h:Heap),(K w.params).In h→h.Ns mainGlobals mg→mg d.name=some (.ref fa)→
   ∃fd:FuncData,(∀(s:Shared) (u:Value),BindsTo s fd ⟨[u],[]⟩ [(x,u)])∧∀base:Heap,(K w.params).In base→base.Ns mainGlobals mg→mC l.prog w (K w.params) mg base yh k fa fd [x] (DD (K w.params))) :
  W.WalkO q loose XP YP l.row.toRowW d [] (fun f vs=>PySem.call f vs):=
 L2.E4 (n:=63) (k:=k) (x:=x) (CX:=yh) (sp:=DD) hn (by decide) hdf hr hY F (fun _ _ a ns hl hb _ hS=>⟨a,ns,rfl,hS,hl,hb,fun _=>rfl⟩) fun _ _ _ _ z=>z
end L3
namespace L3
open PySem L2 PySem.Spec PyProof.Rows
section
variable {K:W.Frag}{E:XK}{t:TE}{f:Pe→M T}
def kO(K:W.Frag)(F H:Hp)(x:Addr)(Q:VK)(t:T):Prop:=∀F' H',fv F F'→fv F' H'→(∀a o,a≠x→H a=some o→H' a=some o)→(∀a,F' a≠none→F a≠none∨H a=none∨a=x∨∃xs,H a=some (.tup xs))→jT K F' (.ref x) t→Q .non H'
def E3(K:W.Frag)(C:Addr)(Fn:List T→M T):Sp:=fun vs H Q _=>∃x dx us ts F0,vs=.ref x::us∧H x=some (.ins C dx [])∧F0 x=none∧fv F0 H∧eZ K F0 us ts∧(Fn ts).noEr.res (kO K F0 H x Q) (fun _ _=>False)
theorem Hi{C:Addr}{tr:TA}{fr:Pe→M (List T)}{Fn:List T→M T}{E':XK}(ha:MA K E tr fr):ME K E (DI C (E3 K C Fn) [] E' tr) (eD fr Fn):=fun F H σ ρ Q s V q=>by
 refine ha.run s V q fun ts vs F1 H1 g1 r1 q1=>?_;intro x dx hx hdx hne;have hx':ij H1 dx (.own x) x=none:=by rw[eO (fun z=>hne z.symm)];exact hx
 have s0:fv H1 (ij (ij H1 dx (.own x)) x (.ins C dx [])):=(l3 hdx).trans (l3 hx');refine⟨x,dx,vs,ts,F1,by rw[bB],eP,fg g1.fh hx,g1.fh.trans s0,r1,?_⟩;cases e:Fn ts with
 | bad=>rw[e] at q1;exact q1.elim
 | er C n=>rw[e] at q1;exact q1.elim
 | ok t=>
  rw[e] at q1;intro F' H' a b c d r;refine⟨rfl,(q1:kV K F H Q t) (.ref x) F' H' ⟨g1.ff.trans a,b,fun p o h=>?_,fun p hp=>?_⟩ r⟩
  ·have h1:=g1.hh p o h;have hpx:p≠x:=fun z=>by rw[z,hx] at h1;cases h1
   exact c p o hpx (s0 p o h1)
  ·rcases d p hp with z | z | z | ⟨xs,z⟩
   ·exact g1.nw p z
   ·exact .inr (.inl (fg g1.hh (fg s0 z)))
   ·rw[z];exact .inr (.inl (fg g1.hh hx))
   ·cases y:H p with
    | none=>exact .inr (.inl rfl)
    | some o=>exact .inr (.inr ⟨xs,by rw[s0 p o (g1.hh p o y)] at z;exact z⟩)
noncomputable def AS(C:Addr)(n:Nat)(f1 f2:Str)(g1 g2:Pe→M T):List T→M T:=fun ts=>if ts.length=n then (g1 (none::ts.map some)).bind fun a=>(g2 (none::ts.map some)).bind fun b=>.ok (.obj C [(f1,a),(f2,b)]) else .bad
structure Qy(K:W.Frag)(E:XK)(X:Cx)(body:List Stmt)(f1 f2:Str)(g1 g2:Pe→M T):Prop where
 ex:∃(t1 t2:TE),Af X body (Ku (Mw K (lO 0) t1 f1) (Mw K (lO 0) t2 f2))∧ME K E t1 g1∧ME K E t2 g2
theorem P9{X:Cx}{o1 o2 a1 a2:Expr}{t1 t2:TE}{g1 g2:Pe→M T}{f1 f2:Str}{p1 p2 q1 q2:Pos}(hK:X.K=K)(o1v:PE X o1 (lO 0))(h1:Pm K E X a1 t1 g1)(o2v:PE X o2 (lO 0))(h2:Pm K E X a2 t2 g2)
  (hs1:swapsWith a1 (some (.Attribute o1 f1 p1)) q1.line X.env=pure false:=by rfl) (hs2:swapsWith a2 (some (.Attribute o2 f2 p2)) q2.line X.env=pure false:=by rfl) :
  Qy K E X [.Assign [.Attribute o1 f1 p1] a1 q1,.Assign [.Attribute o2 f2 p2] a2 q2] f1 f2 g1 g2:=by
 subst hK;exact⟨t1,t2,Av (F9 o1v h1.pe hs1) (CW (F9 o2v h2.pe hs2)),h1.me,h2.me⟩
theorem M4{P:Program}{w:World}{mg:Str→Option Value}{base:Heap}{x qual:Str}{C:Addr}{st:Stmt}{N:List Str}{k n:Nat}{f1 f2:Str}{g1 g2:Pe→M T}(cl:Ae K C)(n1:lq K C f1)(n2:lq K C f2)(ne:f1≠f2)(D:ke K C "__init__" qual st)(S:eF N N (eg st))
  (mk:W.makesIn K C=true) (kp:W.keepIn K (.ref C)=true) (hm:mg x=some (.ref C)) (hN:N.length=n+1)
  (hb:∀(kV doc pm:Value) (an:Option Addr) (cdv ct:Value) (us:List Value),us.length=N.length→bindArgs (W.fnOf "__init__" qual (iG st) (gC st) (eg st) .none kV doc pm an cdv ct) ⟨us,[]⟩=pure (N.zip us))
  (hT:∀(f:Addr) (cdv:Value) (A:Around) (outer:List Env) (s:Shared) (H:Hp) (E:XK),hV k (A.deeper (envOfC qual (eg st) s.heap.objs.size f cdv))→Qy K E (rz yh P w K mg base N qual (eg st) f cdv A outer s H E).nox (gC st) f1 f2 g1 g2) :
  Aj P w K mg base x C (k+1) (E3 K C (AS C n f1 f2 g1 g2)):=by
 obtain⟨fi,fd,F,Mm⟩:=D.ex;refine⟨⟨fi,fd,N,F.ok S (fun vs H Q E h=>?_) (fun cdv A outer s H vs Q E hr h=>?_),⟨mk,Mm.at_,Mm.fn,kp⟩,F.binds hb⟩,hm⟩
 ·obtain⟨x,dx,us,ts,F0,rfl,hx,fx,s,r,q⟩:=h;unfold AS at q;by_cases hl:ts.length=n
  ·rw[ay,r.length,hl,hN]
  ·rw[aQ hl] at q;exact q.elim
 ·obtain⟨x,dx,us,ts,F0,rfl,hx,fx,s0,r,q⟩:=h;obtain⟨t1,t2,ps,m1,m2⟩:=(hT fi cdv A outer s H E hr).ex;refine⟨_,ps,?_⟩;unfold AS at q;by_cases hl:ts.length=n
  ·rw[aP hl] at q;have V:jW K F0 (kQ N (.ref x::us)) (none::ts.map some):=fun i t e=>by
    cases i with
    | zero=>cases e
    | succ i=>
     rw[List.getElem?_cons_succ,av] at e;cases hq:ts[i]? with
     | none=>rw[hq] at e;cases e
     | some y=>rw[hq] at e;cases e;obtain⟨v,a,b⟩:=r.get hq;refine⟨v,?_,b⟩;unfold L2.kQ;rw[List.getElem?_append_left (by rw[aw,ay];exact Nat.succ_lt_succ (aa.mp a).1),av,List.getElem?_cons_succ,a];rfl
   cases e1:g1 (none::ts.map some) with
   | bad=>rw[e1] at q;exact q.elim
   | er C n=>rw[e1] at q;exact q.elim
   | ok a=>
    rw[e1,L3.M.bind_ok] at q;cases e2:g2 (none::ts.map some) with
    | bad=>rw[e2] at q;exact q.elim
    | er C n=>rw[e2] at q;exact q.elim
    | ok b=>
     rw[e2,L3.M.bind_ok] at q;refine m1 F0 H _ _ _ s0 V ?_;rw[e1];intro v F1 H1 gr1 r1;have hx1:=gr1.hh _ _ hx;have fx1:F1 x=none:=by
      cases z:F1 x with
      | none=>rfl
      | some o=>
       rcases gr1.nw x (by rw[z];exact fun y=>nomatch y) with y | y | ⟨_,y⟩
       ·exact absurd fx y
       ·rw[hx] at y;cases y
       ·rw[hx] at y;cases y
     refine⟨.ref x,rfl,x,C,dx,[],rfl,hx1,cl,n1,by show 0<1000;decide,?_⟩;have s1:fv F1 (ij H1 x (.ins C dx (nO f1 v []))):=fun p o h=>by
      have hp:p≠x:=fun z=>by rw[z,fx1] at h;cases h
      rw[eO hp];exact gr1.fh p o h
     refine m2 F1 _ _ _ _ s1 (V.mono gr1.ff) ?_;rw[e2];intro v2 F2 H3 gr2 r2;have hx3:=gr2.hh x _ eP;have fx2:F2 x=none:=by
      cases z:F2 x with
      | none=>rfl
      | some o=>
       rcases gr2.nw x (by rw[z];exact fun y=>nomatch y) with y | y | ⟨_,y⟩
       ·exact absurd fx1 y
       ·rw[eP] at y;cases y
       ·rw[eP] at y;cases y
     refine⟨.ref x,rfl,x,C,dx,_,rfl,hx3,cl,n2,by show 1<1000;decide,?_⟩;have ep:nO f2 v2 (nO f1 v [])=[(f1,v),(f2,v2)]:=by show (if f1=f2 then _ else _)=_;rw[aQ ne];rfl
     have sF:fv F2 (ij F2 x (.ins C dx [(f1,v),(f2,v2)])):=l3 fx2;refine (q:kO K F0 H x Q _) (ij F2 x (.ins C dx [(f1,v),(f2,v2)])) _ ((gr1.ff.trans gr2.ff).trans sF) (fun p o h=>?_) (fun p o hp h=>?_) (fun p hp=>?_) (.obj eP (.cons (r1.mono (gr2.ff.trans sF)) (.cons (r2.mono sF) .nil)))
     ·by_cases hp:p=x
      ·subst hp;rw[eP] at h;rw[eP,ep];exact h
      ·rw[eO hp] at h ⊢;exact gr2.fh p o h
     ·rw[eO hp];exact gr2.hh p o (by rw[eO hp];exact gr1.hh p o h)
     ·by_cases hpx:p=x
      ·exact .inr (.inr (.inl hpx))
      ·rw[eO hpx] at hp;rcases gr2.nw p hp with z | z | ⟨xs,z⟩
       ·rcases gr1.nw p z with y | y | y
        ·exact .inl y
        ·exact .inr (.inl y)
        ·exact .inr (.inr (.inr y))
       ·rw[eO hpx] at z;exact .inr (.inl (fg gr1.hh z))
       ·rw[eO hpx] at z;cases y:H p with
        | none=>exact .inr (.inl rfl)
        | some o=>exact .inr (.inr (.inr ⟨xs,by rw[gr1.hh p o y] at z;exact z⟩))
  ·rw[aQ hl] at q;exact q.elim
end
section
variable {X:Cx}{K:W.Frag}{E:XK}{x m:Str}{C:Addr}{k:Nat}{Fn:List T→M T}{Ff:List T→M (List T)}{e o:Expr}{es:List Expr}{tr:TA}{fr:Pe→M (List T)}{ta:TE}{fa:Pe→M T}{p pos apos:Pos}
theorem OI(h:Aj X.prog X.w X.K X.mg X.base x C k (E3 K C Fn))(hr:hV (k+1) X.A)(ha:A5 K E X (e::es) tr fr)(hg:Gl X x:=by rfl)
  (hdb:(x == ("__debug__" : Str))=false:=by decide) (he:starEach (e::es) X.env=(false,eval e X.env)::starEach es X.env:=by rfl) (hpl:(backTo pos (starEach es X.env)).any (·.1)=false:=by rfl) :
  Pm K E X (.Call (.Name x p) (e::es) [] pos) (DI C (E3 K C Fn) [] E0 tr) (eD fr Fn):=⟨OH h hr ha.pa hg hdb he hpl,Hi ha.ma⟩
theorem zf{pl:Sem Bool}(h:iT X.prog X.w X.K X.mg X.base C m k (gA K Fn))(hr:hV k X.A)(ho:Pm K E X o ta fa)
  (ht:eval (.Call (.Attribute o m apos) [] [] pos) X.env=(do
   let ov ←eval o X.env
   standAt apos.atName
   let (f,first) ←holding [ov] (getMethod ov m pl)
   callWith pos f first (backTo pos (starEach [] X.env)) (backToKw pos (keywordEach [] X.env))):=by rfl) :
  Pm K E X (.Call (.Attribute o m apos) [] [] pos) (xQ C m (gA K Fn) [] E0 ta tW) (pN C m fa dW Fn):=⟨Hc h hr ho.pe ht,Ik ho.me B2⟩
theorem FR{pl:Sem Bool}(h:iT X.prog X.w X.K X.mg X.base C m k (pC K Ff))(hr:hV k X.A)(ho:Pm K E X o ta fa)
  (ht:eval (.Call (.Attribute o m apos) [] [] pos) X.env=(do
   let ov ←eval o X.env
   standAt apos.atName
   let (f,first) ←holding [ov] (getMethod ov m pl)
   callWith pos f first (backTo pos (starEach [] X.env)) (backToKw pos (keywordEach [] X.env))):=by rfl) :
  FD K E X (.Call (.Attribute o m apos) [] [] pos) (xQ C m (pC K Ff) [] E0 ta tW) (rE C m fa dW Ff):=⟨Hc h hr ho.pe ht,Hw ho.me B2⟩
theorem Ck{f:Str}(hK:X.K=K)(cl:Ae K C)(na:lq K C f)(h:Pm K E X e ta fa)(hb:attributeBase e f X.env (eval e X.env)=eval e X.env:=by rfl):Pm K E X (.Attribute e f pos) (Lz X.K ta f) (Ar C f fa):=by subst hK;exact⟨LU h.pe hb,NK cl na h.me⟩
@[simp] noncomputable def Ha(f:Pe→M T)(m:T→En→Option En):En→O:=fun ρ=>O.of (gE f ρ) fun t=>match m t ρ with
 | some ρ'=>.nx ρ'
 | none=>.bad
theorem Nn{g:TG}{m:T→En→Option En}{f:Pe→M T}{t:TE}(h:ME K E t f)(hg:J5 K g m):MS K E (nJ t g) (Ha f m):=fun F0 H0 F H σ ρ D r q=>
 h.inH r q fun x v F' H' g' rp r' q'=>by
  cases e:m x ρ with
  | none=>rw[e] at q';exact q'.elim
  | some ρ'=>rw[e] at q';exact hg F0 H0 F' H' σ ρ v x ρ' _ r' rp e fun σ' s'=>(q':kN K F0 H0 F' D.nx _) F' H' _ (.refl _) s'
theorem KM{tg:Expr}{g:TG}{m:T→En→Option En}{f:Pe→M T}{t:TE}(he:Pm K E X e t f)(hg:NM K X tg g m)(hs:swapsWithSole [tg] e pos.line X.env=pure false:=by rfl)(hw:swappedStores [tg] e X.env=pure none:=by rfl)
  (h1:(assignEach [tg] X.env).map (·.2)=[assign tg X.env]:=by rfl):t7 K E X (.Assign [tg] e pos) (nJ t g) (Ha f m):=⟨Ig he.pe hg.pg hs hw h1,Nn he.me hg.mg⟩
theorem Np{f:Pe→M T}{m:T→En→Option En}{ρ ρ':En}{t:T}(h:f (kf ρ)=.ok t)(hm:m t ρ=some ρ'):Ha f m ρ=.nx ρ':=by unfold Ha gE;rw[h];simp[hm]
end
section
variable {P:Program}{w:World}{K:W.Frag}{mg:Str→Option Value}{base:Heap}{C:Addr}{m qual:Str}{st:Stmt}{N ps:List Str}{k:Nat}{g:En→O}
theorem K4(cl:Ae K C)(D:ke K C m qual st)(S:eF N ps (eg st))
  (hb:∀(kV doc pm:Value) (an:Option Addr) (cdv ct:Value) (us:List Value),us.length=ps.length→bindArgs (W.fnOf m qual (iG st) (gC st) (eg st) .none kV doc pm an cdv ct) ⟨us,[]⟩=pure (ps.zip us))
  (hT:∀(f:Addr) (cdv:Value) (A:Around) (outer:List Env) (s:Shared) (H:Hp) (E:XK),hV k (A.deeper (envOfC qual (eg st) s.heap.objs.size f cdv))→∃t,qP K E (rz yh P w K mg base N qual (eg st) f cdv A outer s H E).nox (gC st) t g) :
  iT P w K mg base C m (k+1) (gA K (j7 ps.length N.length g)):=
 Dg cl D S hb (fun vs H Q E h=>By h) fun f cdv A outer s H vs Q E hr h=>let ⟨t,hp⟩:=hT f cdv A outer s H E hr;⟨t,hp.ps,zb hp.ms h⟩
theorem OX(cl:Ae K C)(D:ke K C m qual st)(S:eF N ps (eg st))
  (hb:∀(kV doc pm:Value) (an:Option Addr) (cdv ct:Value) (us:List Value),us.length=ps.length→bindArgs (W.fnOf m qual (iG st) (gC st) (eg st) .none kV doc pm an cdv ct) ⟨us,[]⟩=pure (ps.zip us))
  (hT:∀(f:Addr) (cdv:Value) (A:Around) (outer:List Env) (s:Shared) (H:Hp) (E:XK),hV k (A.deeper (envOfC qual (eg st) s.heap.objs.size f cdv))→∃t,qP K E (rz yh P w K mg base N qual (eg st) f cdv A outer s H E).nox (gC st) t g) :
  iT P w K mg base C m (k+1) (pC K (yG ps.length N.length g)):=
 Dg cl D S hb (fun vs H Q E h=>Dl h) fun f cdv A outer s H vs Q E hr h=>let ⟨t,hp⟩:=hT f cdv A outer s H E hr;⟨t,hp.ps,An hp.ms h⟩
end
end L3
namespace L3
open PySem L2 PySem.Spec PyProof.Rows
section
variable {K:W.Frag}{E:XK}{X:Cx}{a tg:Expr}{tr:TA}{fr:Pe→M (List T)}{p p2 pos pos2:Pos}{F:Hp}
theorem Nj{l:Addr}{xs:List V}{ts:List T}(hs:jI K F l xs)(r:eZ K F xs ts):wJ K (Qb K l xs.length) ts.reverse F where
 go:=fun i H s hi=>by rw[List.length_reverse,←r.length] at hi;exact⟨hi,xs,_,s.seq hs,rfl,ag (by omega)⟩
 stop:=fun H s=>⟨by rw[List.length_reverse,r.length],xs,s.seq hs⟩
 yld:=fun i t F' H x H' s1 s2 e y=>by
  obtain⟨rfl,hx⟩:=y;have e':=hx xs ((s1.trans s2).seq hs);obtain⟨t',e'',rp⟩:=r.at_ e';have hi:i<ts.length:=by simpa using (aa.mp e).1
  rw[List.getElem?_reverse hi,←r.length] at e;rw[e] at e'';cases e'';exact⟨F',.refl s2,rp.mono s1⟩
@[simp] noncomputable def Ef(fa:Pe→M (List T)):Pe→M (List T):=fun ρ=>(fa ρ).bind fun xs=>match xs with
 | [.lst ts]=>.ok ts.reverse
 | _=>.bad
theorem M5(ha:MA K E tr fr):MI K E (MH K tr) (Ef fr):=fun F H σ ρ R s V q=>by
 refine ha.run s V q fun xs ws F1 H1 g1 r1 q1=>?_;cases r1 with
 | nil=>exact q1.elim
 | cons h t=>
  cases t with
  | cons _ _=>cases h<;>exact q1.elim
  | nil=>
   cases h with
   | lst h r=>rename_i l ys us;refine⟨l,ys,rfl,jI.of (g1.fh _ _ h),(q1:kI K F H R _) _ F1 H1 g1 (Nj (jI.of h) r)⟩
   | _=>exact q1.elim
theorem CU(hm:X.mg "reversed" = none)(ha:A5 K E X [a] tr fr)(hK:X.K=K:=by rfl)(hg:Gl X "reversed" :=by rfl)(hs:starEach [a] X.env=[(false,eval a X.env)]:=by rfl):Lj K E X tg (.Call (.Name "reversed" p) [a] [] pos) (MH K tr) (Ef fr):=by subst hK;exact⟨IY hg hm ha.pa hs,M5 ha.ma⟩
@[simp] noncomputable def Of(fa:Pe→M (List T)):Pe→M (List T):=fun ρ=>(fa ρ).bind fun xs=>match xs with
 | [x]=>(seqT x).bind fun ts=>.ok (mD ts)
 | _=>.bad
theorem vY:∀{vs:List V} {ts:List T},vs.length=ts.length→(∀(i:Nat) t,ts[i]? = some t→∃v,vs[i]? = some v∧jT K F v t)→eZ K F vs ts
 | [],[],_,_=>.nil
 | v::vs,t::ts,hl,h=>by obtain⟨v',e,r⟩:=h 0 t rfl;simp at e;subst e;exact .cons r (vY (by simpa using hl) fun i t ht=>by simpa using h (i+1) t (by simpa using ht))
theorem OJ(ha:MA K E tr fr):MF K E (Qn K tr) (Of fr):=fun F H σ ρ Q s va q=>by
 classical
 refine ha.run s va q fun xs ws F1 H1 g1 r1 q1=>?_;have fin:∀(b:Bool) (l:Addr) (ys:List V) (ts:List T),t8 K H1 b l ys→eZ K F1 ys ts→kF K F H Q (mD ts)→∃b' l' ys',[V.ref l]=[.ref l']∧t8 K H1 b' l' ys'∧∀(p:Addr) (as:List Addr) (H':Hp),fv H1 H'→H1 p=none→H' p=some (.lst (as.map V.ref))→as.length=ys'.length→
   (∀(i:Nat) (a:Addr),as[i]? = some a→H1 a=none∧a≠p∧∃x,ys'[i]? = some x∧H' a=some (.tup [.int (i:Int),x]))→Q (.ref p) H':=fun b l ys ts hq r qk=>by
  refine⟨b,l,ys,rfl,hq,fun p as H' sm hp hl hal hg=>?_⟩;let F':Hp:=fun c=>if c∈as then H' c else F1 c
  have fin_:∀c,c∈as→F' c=H' c:=fun c hc=>aP hc;have fout:∀c,c∉as→F' c=F1 c:=fun c hc=>aQ hc;have new:∀c,c∈as→H1 c=none:=fun c hc=>by obtain⟨i,hi⟩:=cF.mp hc;exact (hg i c hi).1
  have sF:fv F1 F':=fun c o e=>by rw[fout c (fun hc=>by have:=new c hc;rw[g1.fh c o e] at this;cases this)];exact e
  have pn:p∉as:=fun hc=>by obtain⟨i,hi⟩:=cF.mp hc;exact (hg i p hi).2.1 rfl
  have gr:Gr F1 H1 F' H':=⟨sF,fun c o e=>by
   by_cases hc:c∈as
   ·rw[fin_ c hc] at e;exact e
   ·rw[fout c hc] at e;exact sm c o (g1.fh c o e),sm,fun c hc=>by
   by_cases hm:c∈as
   ·exact .inr (.inl (new c hm))
   ·rw[fout c hm] at hc;exact .inl hc⟩
  refine qk p (as.map V.ref) F' H' (g1.trans gr) (fg g1.hh hp) (by rw[fout p pn];exact fg g1.fh hp) hl (vY (by simp[mD,hal,r.length]) fun i t ht=>?_);unfold mD at ht;rw[av,List.getElem?_zipIdx] at ht;cases hi:ts[i]? with
  | none=>rw[hi] at ht;cases ht
  | some u=>
   rw[hi] at ht;simp at ht;have hlt:i<as.length:=by rw[hal,r.length];exact (aa.mp hi).1
   obtain⟨h1,h2,x,e1,e2⟩:=hg i _ (ag hlt);obtain⟨x',e3,rx⟩:=r.get hi;rw[e1] at e3;cases e3;refine⟨.ref as[i],by rw[av,ag hlt];rfl,?_⟩;rw[←ht];exact .tup (by rw[fin_ _ (aU hlt)];exact e2) (.cons (.int _) (.cons (rx.mono sF) .nil))
 cases r1 with
 | nil=>exact q1.elim
 | cons h t=>
  cases t with
  | cons _ _=>cases h<;>exact q1.elim
  | nil=>
   cases h with
   | lst h r=>exact fin false _ _ _ (jI.of (g1.fh _ _ h)) r q1
   | tup h r=>exact fin true _ _ _ (kR.of (g1.fh _ _ h)) r q1
   | scr h=>exact fin false _ _ _ (g1.fh.seq h) (eZ.of_ints _) q1
   | _=>exact q1.elim
theorem OA(hc:X.calm=true)(hm:X.mg "list" = none)(hm2:X.mg "enumerate" = none)(ha:A5 K E X [a] tr fr)(hK:X.K=K:=by rfl)(hg:Gl X "list" :=by rfl)(hg2:Gl X "enumerate" :=by rfl)(hs:starEach [a] X.env=[(false,eval a X.env)]:=by rfl)
  (he:starEach [Expr.Call (.Name "enumerate" p2) [a] [] pos2] X.env=[(false,eval (.Call (.Name "enumerate" p2) [a] [] pos2) X.env)]:=by rfl) :
  FD K E X (.Call (.Name "list" p) [.Call (.Name "enumerate" p2) [a] [] pos2] [] pos) (Qn K tr) (Of fr):=by
 subst hK;exact⟨GA hc hg hm hg2 hm2 ha.pa hs he,OJ ha.ma⟩
end
section
variable {K:W.Frag}{E:XK}{X:Cx}{F0:Fz}{H0 F H:Hp}{σ:L2.St}{ρ:En}{x:Str}{e:Expr}{pos pos' p pd:Pos}
noncomputable def tJ(kvs:List (List Int×T))(k:List Int)(v:T):List (List Int×T):=if (kvs.any fun kv=>decide (kv.1=k))=true then kvs.map (fun kv=>if kv.1=k then (kv.1,v) else kv) else kvs++[(k,v)]
theorem zy:∀{a b:List Int},a.map (Sum.inl:Int→kr)=b.map Sum.inl→a=b
 | [],[],_=>rfl
 | [],_::_,h=>nomatch h
 | _::_,[],h=>nomatch h
 | x::a,y::b,h=>by simp only[bx,List.cons.injEq] at h;rw[Sum.inl.inj h.1,zy h.2]
theorem DR.put{xs:List (List kr×V)}{kvs:List (List Int×T)}(h:DR K F xs kvs)(k:List Int){v:V}{t:T}(r:jT K F v t):DR K F (sC xs (k.map Sum.inl) v) (tJ kvs k t):=by
 have ha:(xs.any fun kv=>decide (kv.1=k.map Sum.inl))=kvs.any fun kv=>decide (kv.1=k):=by
  induction h with
  | nil=>rfl
  | cons q _ ih=>
   rename_i x y _ _ _;rw[bM,bM,ih];congr 1;by_cases z:y.1=k
   ·rw[aB z,aB (by rw[q.1,z])]
   ·rw[aA z,aA (fun w=>z (zy (by rw[←q.1,w])))]
 unfold sC tJ;rw[ha];generalize (kvs.any fun kv=>decide (kv.1=k))=bb;split
 ·clear ha;unfold DR at h ⊢;induction h with
  | nil=>exact .nil
  | cons q _ ih=>
   rename_i x y _ _ _;refine .cons ?_ ih;dsimp only;by_cases z:y.1=k
   ·rw[aP (by rw[q.1,z]),aP z];exact⟨q.1,r⟩
   ·rw[aQ (fun w=>z (zy (by rw[←q.1,w]))),aQ z];exact q
 ·clear ha;unfold DR at h ⊢;induction h with
  | nil=>exact .cons ⟨rfl,r⟩ .nil
  | cons q _ ih=>exact .cons q ih
@[simp] noncomputable def GI(i:Nat):En→O:=fun ρ=>.nx (ρ.set i (some (.d [])))
theorem Sr.setD{i:Nat}{p:Addr}(r:Sr K F0 H0 F H σ ρ)(hp:H p=none):Sr K F0 H0 F (ij H p (.dT [])) (σ.set i (some (.ref p))) (ρ.set i (some (.d []))):=by
 have hf:F p=none:=fg r.gr.fh hp;have r1:=r.grow (Gr.new' (o:=.dT []) r.gr.fh hp);obtain⟨ad,h1,h2⟩:=r1.ov;refine⟨r1.gr,by simp[r.len],fun j t e=>?_,⟨ad,fun j us e=>?_,fun j k us ws e e' hjk=>?_⟩,fun e he=>?_,fun j l' vs' hlt q=>?_,⟨fun j kvs e=>?_,fun j k kvs kvs' e e' hjk=>?_⟩⟩
 ·rcases eR e with⟨rfl,q⟩ | ⟨hj,q⟩
  ·cases q
  ·obtain⟨w,a,b⟩:=r1.pv j t q;exact⟨w,by rw[aq (fun z=>hj z.symm)];exact a,b⟩
 ·rcases eR e with⟨rfl,q⟩ | ⟨hj,q⟩
  ·cases q
  ·obtain⟨a,b⟩:=h1 j us q;exact⟨by rw[aq (fun z=>hj z.symm)];exact a,b⟩
 ·rcases eR e with⟨rfl,q⟩ | ⟨hj,q⟩
  ·cases q
  ·rcases eR e' with⟨rfl,q'⟩ | ⟨hk,q'⟩
   ·cases q'
   ·exact h2 j k us ws q q' hjk
 ·have L:=r1.lv e he;refine⟨L.h,L.f,L.z,fun j ts q=>?_⟩;rcases eR q with⟨rfl,q1⟩ | ⟨hj,q1⟩
  ·cases q1
  ·rw[aq (fun z=>hj z.symm)];exact L.d j ts q1
 ·rcases eR q with⟨rfl,q1⟩ | ⟨hj,q1⟩
  ·cases q1
  ·rw[aq (fun z=>hj z.symm)];exact r.sl j l' vs' hlt q1
 ·have hln:j<ρ.length:=by simpa using (aa.mp e).1
  rcases eR e with⟨rfl,q⟩ | ⟨hj,q⟩
  ·cases q;exact⟨p,pj (by rw[r.len];exact hln),hf,fg r.gr.hh hp,[],eP,.nil⟩
  ·obtain⟨a,e1,rr⟩:=r1.dv.at_ j kvs q;exact⟨a,by rw[aq (fun z=>hj z.symm)];exact e1,rr⟩
 ·have old:∀(m:Nat) kvs,ρ[m]? = some (some (.d kvs))→σ[m]?≠some (some (.ref p)):=fun m kvs q w=>by
   obtain⟨a,e1,_,_,xs,e4,_⟩:=r.dv.at_ m kvs q;rw[e1] at w;have:a=p:=by simpa using w
   rw[this,hp] at e4;cases e4
  have hln:∀{m:Nat} {z},(ρ.set i (some (W.d [])))[m]? = some z→m<σ.length:=fun {m z} q=>by rw[r.len];simpa using (aa.mp q).1
  rcases eR e with⟨rfl,q⟩ | ⟨hj,q⟩
  ·rcases eR e' with⟨rfl,q'⟩ | ⟨hk,q'⟩
   ·exact absurd rfl hjk
   ·rw[pj (hln e),aq (fun z=>hk z.symm)];exact fun w=>old k kvs' q' w.symm
  ·rcases eR e' with⟨rfl,q'⟩ | ⟨hk,q'⟩
   ·rw[pj (hln e'),aq (fun z=>hj z.symm)];exact old j kvs q
   ·rw[aq (fun z=>hj z.symm),aq (fun z=>hk z.symm)];exact r.dv.dj j k kvs kvs' q q' hjk
theorem Kz{i:Nat}:MS K E (nJ CN (ji i)) (GI i):=fun F0 H0 F H σ ρ D r q p hp=>(q:kN K F0 H0 F D.nx _) F _ _ (.refl _) (r.setD hp)
theorem Hg(i:Nat)(hN:X.N.Nodup)(hx:Fy X.env.scope x)(hi:X.N[i]? = some x:=by rfl)(hs:swapsWith (.Dict [] [] pd) (some (.Name x pos')) pos.line X.env=pure false:=by rfl)(hf:X.fn x=true∨X.env.scope.names.lookup x=some .local:=by first | exact .inl rfl | exact .inr rfl | assumption) :
  t7 K E X (.Assign [.Name x pos'] (.Dict [] [] pd) pos) (nJ CN (ji i)) (GI i):=⟨yZ hN hi hx GS hs hf,Kz⟩
@[simp] noncomputable def sv(ρ:En)(i:Nat):M (List (List Int×T)):=match ρ[i]? with
 | some (some (.d kvs))=>.ok kvs
 | _=>.bad
theorem Ea{i:Nat}{kvs:List (List Int×T)}(h:sv ρ i=.ok kvs):ρ[i]? = some (some (.d kvs)):=by
 unfold sv at h;split at h
 ·rename_i ts' e;cases h;exact e
 ·cases h
noncomputable def Pj(ρ:En)(i:Nat)(kvs:List (List Int×T))(t:T):T→O
 | .tup ks=>match i6 ks with
  | some ns=>if kvs.length<sizeLine then .nx (ρ.set i (some (.d (tJ kvs ns t)))) else .bad
  | none=>.bad
 | _=>.bad
@[simp] noncomputable def vy(i:Nat)(fk f:En→M T):En→O:=fun ρ=>.of (sv ρ i) fun kvs=>.of (f ρ) fun t=>.of (fk ρ) fun k=>Pj ρ i kvs t k
theorem Sr.changeD{i:Nat}{kvs kvs':List (List Int×T)}{a:Addr}{xs ys:List (List kr×V)}(r:Sr K F0 H0 F H σ ρ)(e:ρ[i]? = some (some (.d kvs)))(ea:σ[i]? = some (some (.ref a)))(fa:F a=none)(za:H0 a=none)(ha:H a=some (.dT xs))(hy:DR K F ys kvs'):Sr K F0 H0 F (ij H a (.dT ys)) σ (ρ.set i (some (.d kvs'))):=by
 obtain⟨ad,h1,h2⟩:=r.ov;refine⟨⟨r.gr.ff,fun p u q=>?_,fun p u q=>?_,r.gr.nw⟩,by simp[r.len],fun j t q=>?_,⟨ad,fun j ss q=>?_,fun j k ss ss' q q' hjk=>?_⟩,fun e' he=>?_,fun j l' vs' hlt q=>?_,⟨fun j kv q=>?_,fun j k kv kv' q q' hjk=>?_⟩⟩
 ·rw[eO (fH q fa)];exact r.gr.fh p u q
 ·rw[eO (fH q za)];exact r.gr.hh p u q
 ·rcases eR q with⟨rfl,q1⟩ | ⟨hj,q1⟩
  ·cases q1
  ·exact r.pv j t q1
 ·rcases eR q with⟨rfl,q1⟩ | ⟨hj,q1⟩
  ·cases q1
  ·obtain⟨a',b',c',vs',d',z'⟩:=h1 j ss q1;exact⟨a',b',c',vs',by rw[eO (fun z=>by rw[z,ha] at d';cases d')];exact d',z'⟩
 ·rcases eR q with⟨rfl,q1⟩ | ⟨hj,q1⟩
  ·cases q1
  ·rcases eR q' with⟨rfl,q2⟩ | ⟨hk,q2⟩
   ·cases q2
   ·exact h2 j k ss ss' q1 q2 hjk
 ·have L:=r.lv e' he;have hne:e'.2.1≠a:=fun w=>by have:=L.h;rw[w,ha] at this;cases this
  refine⟨by rw[eO hne];exact L.h,L.f,L.z,fun j ss q=>?_⟩;rcases eR q with⟨rfl,q1⟩ | ⟨hj,q1⟩
  ·cases q1
  ·exact L.d j ss q1
 ·rcases eR q with⟨rfl,q1⟩ | ⟨hj,q1⟩
  ·cases q1
  ·exact r.sl j l' vs' hlt q1
 ·rcases eR q with⟨rfl,q1⟩ | ⟨hj,q1⟩
  ·cases q1;exact⟨a,ea,fa,za,ys,eP,hy⟩
  ·obtain⟨b,e1,e2,e3,zs,e4,e5⟩:=r.dv.at_ j kv q1;have:b≠a:=fun z=>r.dv.dj j i kv kvs q1 e hj (by rw[e1,ea,z]);exact⟨b,e1,e2,e3,zs,by rw[eO this];exact e4,e5⟩
 ·rcases eR q with⟨rfl,q1⟩ | ⟨hj,q1⟩
  ·rcases eR q' with⟨rfl,q2⟩ | ⟨hk,q2⟩
   ·exact absurd rfl hjk
   ·exact r.dv.dj j k kvs kv' e q2 hjk
  ·rcases eR q' with⟨rfl,q2⟩ | ⟨hk,q2⟩
   ·exact r.dv.dj j k kv kvs q1 e hjk
   ·exact r.dv.dj j k kv kv' q1 q2 hjk
theorem JZ{i:Nat}{tk t:TE}{fk f:Pe→M T}(h:ME K E t f)(hk:ME K E tk fk):MS K E (FI (lO i) tk t) (vy i (mB fk) (mB f)):=fun F0 H0 F H σ ρ D r q=>by
 unfold vy at q;cases e:sv ρ i with
 | bad=>rw[e] at q;exact q.elim
 | er C n=>unfold sv at e;split at e<;>cases e
 | ok kvs=>
  rw[e] at q;have e':=Ea e;obtain⟨a,ea,_⟩:=r.dv.at_ i kvs e';refine h.inB r q fun x v F' H' g rp r' q'=>⟨_,ea,?_⟩;refine hk.inB r' q' fun y w F2 H2 g2 rw_ r2 q2=>?_;obtain⟨a2,ea2,fa,za,xs,hx,dr⟩:=r2.dv.at_ i kvs e';rw[ea] at ea2;have:a=a2:=by simpa using ea2
  subst this;cases rw_ with
  | tup h rs=>
   rename_i b vs ts;have q3:(match i6 ts with
    | some ns=>if kvs.length<sizeLine then O.nx (ρ.set i (some (.d (tJ kvs ns x)))) else .bad
    | none=>.bad).res K E F0 H0 F2 D:=q2
   cases hi:i6 ts with
   | none=>rw[hi] at q3;exact q3.elim
   | some ns=>
    rw[hi] at q3;dsimp only at q3;by_cases hl:kvs.length<sizeLine
    ·rw[aP hl] at q3;have et:=qu hi;rw[et] at rs;have ev:=rs.ints;have eb:H2 b=some (.tup ((ns.map (Sum.inl:Int→kr)).map L2.kV)):=by rw[aH,g2.fh _ _ h,ev];rfl
     refine⟨a,_,rfl,GB.t hx eb (by rw[Paired.length dr];exact hl),?_⟩;exact (q3:kN K F0 H0 F2 D.nx _) F2 _ _ (.refl _) (r2.changeD e' ea fa za hx (dr.put ns (rp.mono g2.ff)))
    ·rw[aQ hl] at q3;exact q3.elim
  | _=>exact q2.elim
theorem Ad{k:Nat}{v i_:Expr}{tk t:TE}{fk f:Pe→M T}(i:Nat)(hr:hV k X.A)(ho:PE X (.Name x p) (lO i))(hk:Pm K E X i_ tk fk)(hv:Pm K E X v t f)(hs:swapsWith v (some (.Subscript (.Name x p) i_ pos')) pos.line X.env=pure false:=by rfl) :
  t7 K E X (.Assign [.Subscript (.Name x p) i_ pos'] v pos) (FI (lO i) tk t) (vy i (mB fk) (mB f)):=⟨Jc (OD hr) ho hk.pe hv.pe hs,JZ hv.me hk.me⟩
@[simp] noncomputable def qX(i:Nat):En→O:=fun ρ=>match ρ[i]? with
 | some (some (.d kvs))=>.rf (kvs.map fun kv=>tI kv.1)
 | _=>.bad
noncomputable def Lm:List V→Hp→VK→Prop:=fun xs H Q=>∃a kvs,xs=[.ref a]∧H a=some (.dT kvs)∧∀(l:Addr) (bs:List Addr),H l=none→bs.length=kvs.length→
  (∀(i:Nat) (b:Addr),bs[i]? = some b→∃k v,kvs[i]? = some (k,v)∧H b=some (.tup (k.map L2.kV)))→Q (.ref l) (ij H l (.lst (bs.map V.ref)))
theorem BZ{i:Nat}:MS K E (zx (Ic Lm (pX (lO i) tW))) (qX i):=fun F0 H0 F H σ ρ D r q=>by
 classical
 unfold qX at q;split at q
 ·rename_i kvs e;obtain⟨a,ea,fa,za,xs,hx,dr⟩:=r.dv.at_ i kvs e;refine⟨_,ea,a,xs,rfl,hx,fun l bs hl hbl hb=>?_⟩;let F':Hp:=fun c=>if c∈bs then H c else F c
  have fin_:∀c,c∈bs→F' c=H c:=fun c hc=>aP hc;have fout:∀c,c∉bs→F' c=F c:=fun c hc=>aQ hc;have tp:∀c,c∈bs→∃ys,H c=some (.tup ys):=fun c hc=>by obtain⟨j,hj⟩:=cF.mp hc;obtain⟨k,v,_,h⟩:=hb j c hj;exact⟨_,h⟩
  have sF:fv F F':=fun c o h=>by
   by_cases hc:c∈bs
   ·rw[fin_ c hc];exact r.gr.fh c o h
   ·rw[fout c hc];exact h
  have ln:l∉bs:=fun hc=>by obtain⟨ys,h⟩:=tp l hc;rw[hl] at h;cases h
  have sH:fv H (ij H l (.lst (bs.map V.ref))):=l3 hl;refine (q:kF K F0.hp H0 D.rt _) l (bs.map V.ref) F' _ ⟨r.gr.ff.trans sF,fun c o h=>?_,r.gr.hh.trans sH,fun c hc=>?_⟩ (fg r.gr.hh hl) (by rw[fout l ln];exact fg r.gr.fh hl) eP (vY (by simp[hbl,Paired.length dr]) fun j t ht=>?_)
  ·by_cases hc:c∈bs
   ·rw[fin_ c hc] at h;exact sH c o h
   ·rw[fout c hc] at h;exact sH c o (r.gr.fh c o h)
  ·by_cases hm:c∈bs
   ·obtain⟨ys,h⟩:=tp c hm;cases z:H0 c with
    | none=>exact .inr (.inl rfl)
    | some o=>exact .inr (.inr ⟨ys,by rw[r.gr.hh c o z] at h;exact h⟩)
   ·rw[fout c hm] at hc;exact r.gr.nw c hc
  ·rw[av] at ht;cases hk:kvs[j]? with
   | none=>rw[hk] at ht;cases ht
   | some kv=>
    rw[hk] at ht;have ht':tI kv.1=t:=by simpa using ht
    have hlt:j<bs.length:=by rw[hbl,Paired.length dr];exact (aa.mp hk).1
    obtain⟨k,v,e1,e2⟩:=hb j _ (ag hlt);obtain⟨kv',e3,e4,_⟩:=sJ dr e1;rw[hk] at e3;cases e3;refine⟨.ref bs[j],by rw[av,ag hlt];rfl,?_⟩;rw[←ht'];have e5:k=kv.1.map Sum.inl:=e4;rw[e5,aH] at e2;exact .tup (xs:=kv.1.map V.int) (by rw[fin_ _ (aU hlt)];exact e2) (eZ.of_ints _)
 ·exact q.elim
theorem Gk(i:Nat)(hc:X.calm=true)(hm:X.mg "list" = none)(ho:PE X (.Name x p) (lO i)){p1 pos1:Pos}(hg:Gl X "list" :=by rfl)(hs:starEach [Expr.Name x p] X.env=[(false,eval (.Name x p) X.env)]:=by rfl) :
  t7 K E X (.Return (some (.Call (.Name "list" p1) [.Name x p] [] pos1)) pos) (zx (Ic Lm (pX (lO i) tW))) (qX i):=
 ⟨yT (rN (BW hc) hg hm lT (nL ho rO hs) (by decide) (by decide) hs rfl),BZ⟩
end
section
variable {K:W.Frag}{E:XK}{X:Cx}{t:TE}
@[simp] noncomputable def xS(i:Nat)(f:En→M (List T)):En→O:=fun ρ=>.of (kW ρ i) fun ts=>.of (f ρ) fun us=>if ts.length<sizeLine then .nx (ρ.set i (some (.o (ts++[.lst us])))) else .bad
theorem Iu{i:Nat}{f:Pe→M (List T)}(ht:∀l xs H,H l=some (.lst xs)→NO K "list" (.ref l) H)(h:MF K E t f):MS K E (qY (Fo K i t)) (xS i (wO f)):=fun F0 H0 F H σ ρ D r q=>by
 unfold xS at q;cases e:kW ρ i with
 | bad=>rw[e] at q;exact q.elim
 | er C n=>unfold kW at e;split at e<;>cases e
 | ok ts=>rw[e] at q;have e':=qU e;obtain⟨ad,h1,_⟩:=r.ov;obtain⟨a,_,_,vs,d,_⟩:=h1 i ts e';refine⟨_,a,ht _ _ _ d,?_⟩;refine h.inB r q fun us l ws F' H' g hl hf hv hr q'=>?_;have g':Gr F H (ij F' l (.lst ws)) H':=g.take hv hf hl;obtain⟨l',a',q''⟩:=uz (E:=E) (D:=D) (r.grow g') e' (x:=.lst us) (v:=.ref l) (.lst eP (hr.mono (kC hf))) (q'.go (kC hf));rw[a] at a';cases a';exact q''
variable {e:Expr}{te:TE}{ff:Pe→M (List T)}{p apos pos pos':Pos}
theorem Fe(i:Nat){x:Str}(hv:PE X (.Name x p) (lO i))(ha:FD K E X e te ff)(hs:starEach [e] X.env=(false,eval e X.env)::starEach [] X.env:=by rfl)(hK:X.K=K:=by rfl)
  (hbase:attributeBase (.Name x p) "append" X.env (eval (.Name x p) X.env)=eval (.Name x p) X.env:=by rfl)
  (hfew:((backTo pos (starEach [e] X.env)).all (fun x=>!x.1)&&(backToKw pos (keywordEach [] X.env)).all (fun x=>x.1.isSome)&&decide (([e]:List Expr).length+([]:List Keyword).length+(if ([]:List Keyword).isEmpty then 0 else 1)<30))=true:=by rfl)
  (hline:(apos.endLine == pos.line)=true:=by rfl) (hplain:(backTo pos (starEach [] X.env)).any (·.1)=false:=by rfl) (hsw:swapsWith (.Call (.Attribute (.Name x p) "append" apos) [e] [] pos) none pos'.line X.env=pure false:=by rfl) :
  t7 K E X (.Expr (.Call (.Attribute (.Name x p) "append" apos) [e] [] pos) pos') (qY (Fo K i te)) (xS i (wO ff)):=by
 subst hK;exact⟨uu (G4 PySem.F.plainAttrs_list PySem.F.slot_list_append PySem.F.type_list_append r6 hv (nL ha.pe rO hs) hbase hfew hline hs hplain) hsw,Iu (fun l xs H h=>B9 h) ha.mf⟩
end
end L3
namespace CL
open PySem L2 L3
structure Cs where
 Cutting:Addr
 Desk:Addr
 CutError:Addr
 NoCutting:Addr
 NoTable:Addr
 NoFraction:Addr
 NoSpot:Addr
 NoSigns:Addr
 NoLand:Addr
 NoFace:Addr
 NoNumber:Addr
 NoText:Addr
 NoDeed:Addr
def rk(c:Cs):En→O:=(eJ (setO 2 (gE (eC rS (dQ 0) (dQ 1))))
  (eJ (setO 0 (gE (dQ 1)))
  (setO 1 (gE (dQ 2)))))
def sh(c:Cs):En→O:=(eJ (fun ρ=>kh (fN (eC (eU true) (dQ 1) (cM (.int 0)))) (rk c) ((fun ρ=>match ρ with | _::some (.p (.int j))::_=>j.natAbs+1 | _=>0) ρ) ρ)
  (fT (iU ED (dP (dQ 0) dW))))
def gF(c:Cs):List T→M T:=j7 2 3 (sh c)
def Nr(c:Cs):En→O:=(eJ (jy (fN (eC (eU false) (dQ 1) (cM (.int 0)))) (fun _=>.bad) fF)
  (eJ (setO 2 (gE (eD (dP (dQ 0) (dP (dQ 1) dW)) (gF c))))
  (eJ (jy (fN (eC C3 (dQ 1) (cM (.int 0)))) (setO 2 (gE (wj (fun i=>.int (-i)) (dQ 2)))) fF)
  (fT (gX (dP (eC oy (dQ 0) (dQ 2)) (dP (eC oy (dQ 1) (dQ 2)) dW)))))))
def oR(c:Cs):List T→M T:=j7 2 3 (Nr c)
def Nw(c:Cs):En→O:=(eJ (jy (fN (eC (eU false) (eC fV (dQ 1) (cM (.int 0))) (cM (.int 0)))) (fun _=>.bad) fF)
  (fT (eD (dP (eC ie (eC fV (dQ 0) (cM (.int 0))) (eC fV (dQ 1) (cM (.int 1)))) (dP (eC ie (eC fV (dQ 0) (cM (.int 1))) (eC fV (dQ 1) (cM (.int 0)))) dW)) (oR c))))
def qi(c:Cs):List T→M T:=j7 2 2 (Nw c)
def mO(c:Cs):En→O:=(eJ (jy (fN (eC C3 (dQ 1) (iU iZ (dP (dQ 0) dW)))) (fT (eC fV (dQ 0) (dQ 1))) fF)
  (fT (cM (.int 0))))
def fO(c:Cs):List T→M T:=j7 2 2 (mO c)
def JD(c:Cs):En→O:=(fT (eD (dP (eC mV (eC ie (eC fV (dQ 0) (cM (.int 0))) (eC fV (dQ 1) (cM (.int 1)))) (eC ie (eC fV (dQ 1) (cM (.int 0))) (eC fV (dQ 0) (cM (.int 1))))) (dP (eC ie (eC fV (dQ 0) (cM (.int 1))) (eC fV (dQ 1) (cM (.int 1)))) dW)) (oR c)))
def uq(c:Cs):List T→M T:=j7 2 2 (JD c)
def KP(c:Cs):En→O:=(fT (eD (dP (eC ie (eC fV (dQ 0) (cM (.int 0))) (eC fV (dQ 1) (cM (.int 0)))) (dP (eC ie (eC fV (dQ 0) (cM (.int 1))) (eC fV (dQ 1) (cM (.int 1)))) dW)) (oR c)))
def ue(c:Cs):List T→M T:=j7 2 2 (KP c)
def L5(c:Cs):En→O:=(fT (eC C3 (eC ie (eC fV (dQ 0) (cM (.int 0))) (eC fV (dQ 1) (cM (.int 1)))) (eC ie (eC fV (dQ 1) (cM (.int 0))) (eC fV (dQ 0) (cM (.int 1))))))
def je(c:Cs):List T→M T:=j7 2 2 (L5 c)
def Cf(c:Cs):En→O:=(fT (eC oy (eC fV (dQ 0) (cM (.int 0))) (eC fV (dQ 0) (cM (.int 1)))))
def jG(c:Cs):List T→M T:=j7 1 1 (Cf c)
def yL(c:Cs):En→O:=(fT (wj (fun i=>.int (-i)) (eC oy (wj (fun i=>.int (-i)) (eC fV (dQ 0) (cM (.int 0)))) (eC fV (dQ 0) (cM (.int 1))))))
def jt(c:Cs):List T→M T:=j7 1 1 (yL c)
def BV(c:Cs):En→O:=(fT (tT (pH "int" (dQ 0)) (HN (pH "bool" (dQ 0)))))
def gO(c:Cs):List T→M T:=j7 1 1 (BV c)
def E7(c:Cs):En→O:=(eJ (jy (fN (eC FB (dQ 0) (cM (.int 0)))) (fT (cM (.int 1))) fF)
  (eJ (jy (fN (eC C3 (dQ 0) (cM (.int 0)))) (fT (wj (fun i=>.int (-i)) (cM (.int 1)))) fF)
  (fT (cM (.int 0)))))
def jr(c:Cs):List T→M T:=j7 1 1 (E7 c)
def Ep(c:Cs):En→O:=(fT (tT (eD (dP (dQ 0) dW) (gO c)) (Pw HL HL (cM (.int 1)) (dQ 0) (cM (.int 3)))))
def nA(c:Cs):List T→M T:=j7 1 1 (Ep c)
def sE(c:Cs):Pe→M T:=(eD (dP (dQ 0) dW) (gO c))
def rM(c:Cs):Pe→M T:=(eC (eU true) (dQ 0) (cM (.int 0)))
def Hn(c:Cs):En→O:=(eJ (jy (ud (j8 (fN (pH "tuple" (dQ 1)))) (fN (eC (eU true) (iU iZ (dP (dQ 1) dW)) (eC gB (dQ 0) (cM (.int 1)))))) (fT (cM (.bl false))) fF)
  (eJ (jy (j8 (fN (iU yA (dP (fj (iE [none] (fY (dQ 1)) (gZ 0) (fun _=>.ok true) (sE c))) dW)))) (fT (cM (.bl false))) fF)
  (fT (iU uY (dP (fj (iE [none] (fY (jN (dQ 1) (fun _=>.ok none) (gU (dQ 0)))) (gZ 0) (fun _=>.ok true) (rM c))) dW)))))
def oH(c:Cs):List T→M T:=j7 2 2 (Hn c)
def oF(c:Cs):En→O:=(setO 1 (gE (eC gB (dQ 1) (cM (.int 1)))))
def wU(c:Cs):En→O:=(eJ (setO 1 (gE (cM (.int 0))))
  (eJ (fun ρ=>kh (fN (eC (eU false) (eC fV (dQ 0) (dQ 1)) (cM (.int 0)))) (oF c) ((fun ρ=>match ρ with | some (.p (.tup ts))::_=>ts.length+1 | _=>0) ρ) ρ)
  (fT (dQ 1))))
def ky(c:Cs):List T→M T:=j7 1 2 (wU c)
def pV(c:Cs):Pe→M T:=(eC (eU false) (eC ie (dQ 0) (eC fV (dQ 2) (dQ 3))) (eC ie (dQ 1) (eC fV (dQ 4) (dQ 3))))
def yN(c:Cs):En→O:=(eJ (setO 2 (gE (eD (dP (dQ 0) dW) (ky c))))
  (fT (iU yA (dP (fj (iE [none,none,some 1,some 2,some 0] (j9 (dP (dQ 0) (dP (dQ 1) dW))) (lW 2 (gh (gZ 0) (gh (gZ 1) lV))) (fun _=>.ok true) (pV c))) dW))))
def lQ(c:Cs):List T→M T:=j7 2 3 (yN c)
def nF(c:Cs):Pe→M T:=(eD (dP (dQ 0) (dP (dQ 1) dW)) (lQ c))
def AY(c:Cs):En→O:=(eJ (jy (ud (fN (eC K5 (iU iZ (dP (dQ 1) dW)) (cM (.int 7)))) (j8 (fN (eD (dP (dQ 0) (dP (dQ 2) dW)) (oH c))))) (fT (cM (.bl false))) fF)
  (fT (HN (iU uY (dP (fj (iE [none,some 2] (fY (dQ 1)) (gZ 0) (fun _=>.ok true) (nF c))) dW)))))
def kP(c:Cs):List T→M T:=j7 3 3 (AY c)
def n9(c:Cs):En→O:=(eJ (jy (j8 (fN (eD (dP (dQ 0) (dP (dQ 2) (dP (dQ 3) dW))) (kP c)))) (fun _=>.bad) fF)
  (nX 2 (gE (iU jo (dP (dQ 3) dW)))))
def vM(c:Cs):En→O:=(eJ (jy (ud (j8 (fN (eD (dP (dQ 0) dW) (nA c)))) (j8 (fN (pH "list" (dQ 1))))) (fun _=>.bad) fF)
  (eJ (mU 2 (om (lstM dW)))
  (eJ (kM (fY (dQ 1)) (iK 3) (n9 c))
  (fT (iU jo (dP (dQ 2) dW))))))
def jb(c:Cs):List T→M T:=j7 2 4 (vM c)
def jg(c:Cs):List T→M T:=AS c.Cutting 2 "own_cuts" "own_dims" (eD (dP (dQ 1) (dP (dQ 2) dW)) (jb c)) (dQ 1)
def uC(c:Cs):En→O:=(fT (Ar c.Cutting "own_dims" (dQ 0)))
def g9(c:Cs):List T→M T:=j7 1 1 (uC c)
def uK(c:Cs):En→O:=(pQ (EL mv (dP (Ar c.Cutting "own_cuts" (dQ 0)) dW)))
def hC(c:Cs):List T→M (List T):=yG 1 1 (uK c)
def wd(c:Cs):En→O:=(fT (iU iZ (dP (Ar c.Cutting "own_cuts" (dQ 0)) dW)))
def hW(c:Cs):List T→M T:=j7 1 1 (wd c)
def zO(c:Cs):En→O:=(setO 3 (gE (eC oy (dQ 3) (dQ 2))))
def B5(c:Cs):En→O:=(eJ (jy (fN (eC K5 (dQ 0) (eC tO (cM (.int 10)) (cM (.int 18))))) (eJ (setO 3 (gE (dQ 0)))
  (eJ (ox (jh (dP (dQ 1) dW)) (iK 4) (zO c))
  (fT (eC rS (dQ 3) (dQ 2))))) fF)
  (eJ (setO 5 (gE (eC rS (eC ie (eC gB (eC gB (eC rS (dQ 0) (cM (.int 1000000007))) (eC ie (cM (.int 1009)) (dQ 1))) (cM (.int 17))) (cM (.int 69621))) (cM (.int 2147483647)))))
  (eJ (setO 5 (gE (eC rS (eC gB (eC gB (eC ie (dQ 5) (dQ 5)) (eC ie (cM (.int 40503)) (dQ 1))) (cM (.int 5))) (cM (.int 2147483629)))))
  (fT (eC rS (eC oy (eC rS (eC ie (dQ 5) (cM (.int 48271))) (cM (.int 2147483647))) (cM (.int 32))) (dQ 2))))))
def eV(c:Cs):List T→M T:=j7 3 6 (B5 c)
def tq(c:Cs):En→O:=(jy (fN (eC (eU true) (eC ie (eC fV (dQ 0) (dQ 2)) (eC fV (dQ 1) (dQ 3))) (eC ie (eC fV (dQ 0) (dQ 3)) (eC fV (dQ 1) (dQ 2))))) (fT (cM (.bl false))) fF)
def tm(c:Cs):En→O:=(ox (jh (dP (dQ 2) dW)) (iK 3) (tq c))
def Cz(c:Cs):En→O:=(eJ (ox (jh (dP (iU iZ (dP (dQ 0) dW)) dW)) (iK 2) (tm c))
  (fT (cM (.bl true))))
def kc(c:Cs):List T→M T:=j7 2 4 (Cz c)
def vH(c:Cs):Pe→M T:=(eC mV (eD (dP (dQ 1) (dP (dQ 0) (dP (cM (.int 7)) dW))) (eV c)) (cM (.int 3)))
def uB(c:Cs):Pe→M T:=(eC ie (dQ 0) (dQ 1))
def uF(c:Cs):Pe→M T:=(eC ie (dQ 0) (dQ 1))
def xN(c:Cs):En→O:=(eJ (mU 3 (om (iE [none,some 0] (jh (dP (dQ 1) dW)) (gZ 0) (fun _=>.ok true) (vH c))))
  (eJ (jy (fN (eC (eU false) (dQ 3) (fj (jU (fj (lstM (dP (cM (.int 0)) dW))) (dQ 1))))) (vO 3 (mB (eD (dP (dQ 0) (dP (cM (.int 4)) (dP (dQ 1) dW))) (eV c))) (mB (eC gB (cM (.int 1)) (eD (dP (dQ 0) (dP (cM (.int 5)) (dP (cM (.int 3)) dW))) (eV c))))) fF)
  (eJ (setO 4 (gE (eC mV (eD (dP (dQ 0) (dP (cM (.int 6)) (dP (cM (.int 9)) dW))) (eV c)) (cM (.int 4)))))
  (eJ (setO 5 (gE (eD (dP (dQ 0) (dP (cM (.int 7)) (dP (cM (.int 7)) dW))) (eV c))))
  (eJ (jy (kJ (fN (eC (eU false) (dQ 5) (cM (.int 1)))) (fN (eC (eU true) (dQ 2) (fj (lstM dW))))) (mU 3 (om (EL mv (dP (jN (eC fV (dQ 2) (eD (dP (dQ 0) (dP (cM (.int 8)) (dP (iU iZ (dP (dQ 2) dW)) dW))) (eV c))) (fun _=>.ok none) (gU (dQ 1))) dW)))) fF)
  (eJ (jy (ud (fN (eC (eU false) (dQ 5) (cM (.int 2)))) (fN (eC (eU false) (dQ 5) (cM (.int 3))))) (setO 4 (mB (iU BG (dP (fj (iE [none,none] (j9 (dP (dQ 3) (dP (fj (lstM (dP (cM (.int 1)) (dP (cM (.int 2)) (dP (wj (fun i=>.int (-i)) (cM (.int 1))) dW))))) dW))) (lW 2 (gh (gZ 0) (gh (gZ 1) lV))) (fun _=>.ok true) (uB c))) dW)))) fF)
  (eJ (jy (fN (eC (eU false) (dQ 5) (cM (.int 4)))) (eJ (setO 6 (gE (eC ie (eC gB (cM (.int 1)) (eD (dP (dQ 0) (dP (cM (.int 9)) (dP (eC tO (cM (.int 10)) (cM (.int 6))) dW))) (eV c))) (eC fV (fj (lstM (dP (cM (.int 1)) (dP (cM (.int 1)) (dP (eC tO (cM (.int 10)) (cM (.int 18))) dW))))) (eD (dP (dQ 0) (dP (cM (.int 11)) (dP (cM (.int 3)) dW))) (eV c))))))
  (eJ (mU 3 (wO (iE [none,some 6] (fY (dQ 3)) (gZ 0) (fun _=>.ok true) (uF c))))
  (setO 4 (gE (eC gB (eC ie (dQ 4) (dQ 6)) (eD (dP (dQ 0) (dP (cM (.int 10)) (dP (cM (.int 7)) dW))) (eV c))))))) fF)
  (fT (iU jo (dP (fj (mR (dQ 3) (fj (lstM (dP (dQ 4) dW))))) dW))))))))))
def nB(c:Cs):List T→M T:=j7 3 7 (xN c)
def oQ(c:Cs):Pe→M T:=(dQ 0)
def sL(c:Cs):En→O:=(eJ (setO 6 (mB (eD (dP (eD (dP (dQ 0) (dP (eC gB (dQ 1) (dQ 5)) dW)) (fO c)) (dP (dQ 2) (dP (dQ 4) dW))) (nB c))))
  (jy (fN (eC (eU false) (fj (iE [none,some 6] (fY (dQ 4)) (gZ 0) (fN (eD (dP (dQ 1) (dP (dQ 0) dW)) (kc c))) (oQ c))) (fj (lstM dW)))) (nX 4 (gE (dQ 6))) fF))
def Bt(c:Cs):En→O:=(eJ (mU 4 (om (lstM dW)))
  (eJ (ox (jh (dP (dQ 3) dW)) (iK 5) (sL c))
  (mK 4)))
def nW(c:Cs):List T→M (List T):=yG 4 7 (Bt c)
def Gg(c:Cs):Pe→M T:=(eC ie (dQ 0) (dQ 1))
def NY(c:Cs):En→O:=(fT (iU BG (dP (fj (iE [none,none] (j9 (dP (dQ 0) (dP (dQ 1) dW))) (lW 2 (gh (gZ 0) (gh (gZ 1) lV))) (fun _=>.ok true) (Gg c))) dW)))
def DQ(c:Cs):List T→M T:=j7 2 2 (NY c)
def xM(c:Cs):En→O:=(eJ (setO 1 (gE (eD (dP (dQ 1) (dP (dQ 2) dW)) (gF c))))
  (jy (fN (eC (eU false) (dQ 1) (cM (.int 1)))) (fT (dQ 0)) fF))
def EH(c:Cs):Pe→M T:=(eC oy (dQ 0) (dQ 1))
def Ge(c:Cs):En→O:=(eJ (setO 1 (gE (cM (.int 0))))
  (eJ (kM (fY (dQ 0)) (iK 2) (xM c))
  (eJ (jy (fN (eC (eU false) (dQ 1) (cM (.int 0)))) (fT (dQ 0)) fF)
  (fT (iU jo (dP (fj (iE [none,some 1] (fY (dQ 0)) (gZ 0) (fun _=>.ok true) (EH c))) dW))))))
def qI(c:Cs):List T→M T:=j7 1 3 (Ge c)
def BL(c:Cs):Pe→M T:=(eC gB (eC ie (dQ 2) (dQ 0)) (eC ie (dQ 3) (dQ 1)))
def EE(c:Cs):En→O:=(eJ (jy (fN (eC (eU false) (eC fV (dQ 0) (dQ 2)) (cM (.int 0)))) (fT (dQ 0)) fF)
  (eJ (setO 3 (gE (iU ED (dP (eC fV (dQ 1) (dQ 2)) dW))))
  (eJ (setO 4 (gE (eC ie (wj (fun i=>.int (-i)) (eC fV (dQ 0) (dQ 2))) (eD (dP (eC fV (dQ 1) (dQ 2)) dW) (jr c)))))
  (fT (eD (dP (iU jo (dP (fj (iE [none,none,some 3,some 4] (j9 (dP (dQ 0) (dP (dQ 1) dW))) (lW 2 (gh (gZ 0) (gh (gZ 1) lV))) (fun _=>.ok true) (BL c))) dW)) dW) (qI c))))))
def gI(c:Cs):List T→M T:=j7 3 5 (EE c)
def sP(c:Cs):En→O:=(eJ (mU 4 (om (jU (fj (lstM (dP (cM (.int 0)) dW))) (iU iZ (dP (dQ 0) dW)))))
  (eJ (vO 4 (mB (dQ 2)) (mB (cM (.int 1))))
  (nX 1 (mB (eC gB (dQ 3) (iU jo (dP (dQ 4) dW)))))))
def CJ(c:Cs):En→O:=(eJ (mU 1 (om (lstM dW)))
  (eJ (kM (C7 (dP (dQ 0) dW)) (kL 2 (gy (iK 2) (gy (iK 3) k9))) (sP c))
  (mK 1)))
def nU(c:Cs):List T→M (List T):=yG 1 5 (CJ c)
def qC(c:Cs):En→O:=(setO 0 (gE (eD (dP (dQ 0) (dP (dQ 3) (dP (dQ 2) dW))) (gI c))))
def DY(c:Cs):En→O:=(eJ (kM (fY (dQ 1)) (kL 2 (gy (iK 2) (gy (iK 3) k9))) (qC c))
  (fT (dQ 0)))
def jP(c:Cs):List T→M T:=j7 2 4 (DY c)
def pO(c:Cs):Pe→M T:=(gX (dP (dQ 0) (dP (eD (dP (dQ 1) (dP (dQ 2) (dP (dQ 3) dW))) (gI c)) dW)))
def yr(c:Cs):En→O:=(pQ (mR (fj (iE [none,none,some 1,some 2] (fY (dQ 0)) (lW 2 (gh (gZ 0) (gh (gZ 1) lV))) (fun _=>.ok true) (pO c))) (fj (lstM (dP (gX (dP (dQ 2) (dP (dQ 1) dW))) dW)))))
def jV(c:Cs):List T→M (List T):=yG 3 3 (yr c)
def lG(c:Cs):Pe→M T:=(dQ 0)
def jv(c:Cs):En→O:=(eJ (setO 5 (gE (eD (dP (dQ 4) (dP (dQ 2) dW)) (jP c))))
  (eJ (setO 6 (gE (fj (iE [none,some 5] (jh (dP (dQ 1) dW)) (gZ 0) (fN (eC (eU true) (eC fV (dQ 1) (dQ 0)) (cM (.int 0)))) (lG c)))))
  (jy (fN (eC (eU false) (dQ 6) (fj (lstM dW)))) (nX 3 (gE (dQ 5))) (setO 2 (gE (fj (ig (dP (dQ 2) (dP (dQ 5) (dP (eC fV (dQ 6) (cM (.int 0))) dW))) (jV c))))))))
def qB(c:Cs):En→O:=(eJ (setO 2 (gE (fj (lstM dW))))
  (eJ (mU 3 (om (lstM dW)))
  (eJ (kM (fY (dQ 0)) (iK 4) (jv c))
  (fT (gX (dP (dQ 2) (dP (dQ 3) dW)))))))
def iF(c:Cs):List T→M T:=j7 2 7 (qB c)
def uT(c:Cs):Pe→M T:=(dQ 0)
def vK(c:Cs):Pe→M T:=(dQ 0)
def wQ(c:Cs):En→O:=(eJ (setO 2 (gE (fj (iE [none,none] (fY (dQ 0)) (lW 2 (gh (gZ 0) (gh (gZ 1) lV))) (fun _=>.ok true) (uT c)))))
  (pQ (iE [none,some 2] (jh (dP (dQ 1) dW)) (gZ 0) (fN (eC (GJ true) (dQ 0) (dQ 1))) (vK c))))
def kz(c:Cs):List T→M (List T):=yG 2 3 (wQ c)
def oN(c:Cs):En→O:=(setO 2 (gE (eD (dP (dQ 2) (dP (eD (dP (gX (dP (dQ 3) (dP (cM (.int 1)) dW))) (dP (dQ 4) dW)) (ue c)) dW)) (uq c))))
def BO(c:Cs):En→O:=(eJ (setO 2 (gE (gX (dP (eC fV (dQ 0) (iU iZ (dP (dQ 1) dW))) (dP (cM (.int 1)) dW)))))
  (eJ (kM (j9 (dP (dQ 0) (dP (dQ 1) dW))) (kL 2 (gy (iK 3) (gy (iK 4) k9))) (oN c))
  (fT (dQ 2))))
def jM(c:Cs):List T→M T:=j7 2 5 (BO c)
def rQ(c:Cs):En→O:=(vO 2 (mB (dQ 3)) (mB (eD (dP (eD (dP (dQ 4) (dP (dQ 1) dW)) (jM c)) (dP (gX (dP (eC fV (dQ 4) (dQ 3)) (dP (cM (.int 1)) dW))) dW)) (qi c))))
def Gq(c:Cs):En→O:=(eJ (mU 2 (om (EL mv (dP (dQ 1) dW))))
  (eJ (kM (fY (dQ 0)) (kL 2 (gy (iK 3) (gy (iK 4) k9))) (rQ c))
  (fT (iU jo (dP (dQ 2) dW)))))
def qT(c:Cs):List T→M T:=j7 2 5 (Gq c)
def oP(c:Cs):Pe→M T:=(tT (eD (dP (dQ 0) dW) (gO c)) (Pw HL HL (wj (fun i=>.int (-i)) (cM (.int 1))) (dQ 0) (cM (.int 1))))
def B0(c:Cs):En→O:=(eJ (jy (ud (j8 (fN (pH "tuple" (dQ 1)))) (fN (eC (eU true) (iU iZ (dP (dQ 1) dW)) (dQ 0)))) (fT (cM (.bl false))) fF)
  (fT (iU yA (dP (fj (iE [none] (fY (dQ 1)) (gZ 0) (fun _=>.ok true) (oP c))) dW))))
def nM(c:Cs):List T→M T:=j7 2 2 (B0 c)
def wV(c:Cs):En→O:=(jy (j8 (fN (eD (dP (pN c.Cutting "many" (dQ 0) dW (hW c)) (dP (dQ 1) dW)) (nM c)))) (fun _=>.bad) fF)
def iR(c:Cs):List T→M T:=j7 2 2 (wV c)
def Ed(c:Cs):Pe→M T:=(eC ie (dQ 1) (dQ 0))
def GE(c:Cs):En→O:=(fT (iU jo (dP (fj (iE [none,some 1] (fY (dQ 0)) (gZ 0) (fun _=>.ok true) (Ed c))) dW)))
def m9(c:Cs):List T→M T:=j7 2 2 (GE c)
def xY(c:Cs):En→O:=(jy (fN (eC (eU false) (eC fV (dQ 5) (dQ 2)) (cM (.int 0)))) (vy 4 (mB (dQ 5)) (mB (cM (.bl true)))) fF)
def rL(c:Cs):Pe→M T:=(dQ 0)
def rR(c:Cs):Pe→M T:=(dQ 0)
def sr(c:Cs):Pe→M T:=(dQ 0)
def rZ(c:Cs):En→O:=(eJ (setO 8 (gE (eD (dP (dQ 6) (dP (dQ 7) (dP (dQ 2) dW))) (gI c))))
  (jy (fN (eC HL (iU iZ (dP (fj (iE [none] (fY (jN (dQ 8) (gU (eC gB (dQ 1) (cM (.int 1)))) (fun _=>.ok none))) (gZ 0) (fN (eC (eU true) (dQ 0) (cM (.int 0)))) (sr c))) dW)) (dQ 3))) (vy 4 (mB (dQ 8)) (mB (cM (.bl true)))) fF))
def xP(c:Cs):En→O:=(kM (fY (fj (iE [none,some 2] (fY (dQ 0)) (gZ 0) (fN (eC C3 (eC fV (dQ 0) (dQ 1)) (cM (.int 0)))) (rR c)))) (iK 7) (rZ c))
def Ir(c:Cs):En→O:=(eJ (GI 4)
  (eJ (kM (fY (dQ 0)) (iK 5) (xY c))
  (eJ (kM (fY (fj (iE [none,some 2] (fY (dQ 0)) (gZ 0) (fN (eC FB (eC fV (dQ 0) (dQ 1)) (cM (.int 0)))) (rL c)))) (iK 6) (xP c))
  (qX 4))))
def qK(c:Cs):List T→M (List T):=yG 4 9 (Ir c)
def vJ(c:Cs):En→O:=(eJ (setO 6 (mB (eC gB (eC gB (iU iZ (dP (dQ 4) dW)) (cM (.int 1))) (iU iZ (dP (dQ 3) dW)))))
  (xS 4 (wO (ig (dP (eC fV (dQ 4) (wj (fun i=>.int (-i)) (cM (.int 1)))) (dP (dQ 1) (dP (dQ 5) (dP (dQ 6) dW)))) (qK c)))))
def Fm(c:Cs):En→O:=(eJ (mU 4 (om (lstM (dP (dQ 0) dW))))
  (eJ (kM (fY (dQ 2)) (iK 5) (vJ c))
  (mK 4)))
def oZ(c:Cs):List T→M (List T):=yG 4 7 (Fm c)
def vU(c:Cs):En→O:=(jy (fN (eC (eU true) (eC fV (dQ 5) (dQ 1)) (cM (.int 0)))) (eJ (setO 6 (gE (eD (dP (eD (dP (dQ 5) (dP (dQ 2) dW)) (jM c)) (dP (gX (dP (eC fV (dQ 5) (dQ 1)) (dP (cM (.int 1)) dW))) dW)) (qi c))))
  (eJ (jy (kJ (fN (eC FB (eC fV (dQ 5) (dQ 1)) (cM (.int 0)))) (ud (fN (eC (iV false) (dQ 3) (cM .non))) (fN (eD (dP (dQ 3) (dP (dQ 6) dW)) (je c))))) (setO 3 (gE (dQ 6))) fF)
  (jy (kJ (fN (eC C3 (eC fV (dQ 5) (dQ 1)) (cM (.int 0)))) (ud (fN (eC (iV false) (dQ 4) (cM .non))) (fN (eD (dP (dQ 6) (dP (dQ 4) dW)) (je c))))) (setO 4 (gE (dQ 6))) fF))) fF)
def Fs(c:Cs):En→O:=(eJ (setO 3 (gE (cM .non)))
  (eJ (setO 4 (gE (cM .non)))
  (eJ (kM (fY (dQ 0)) (iK 5) (vU c))
  (fT (gX (dP (dQ 3) (dP (dQ 4) dW)))))))
def nh(c:Cs):List T→M T:=j7 3 7 (Fs c)
def tR(c:Cs):En→O:=(eJ (setO 2 (gE (cM (.int 0))))
  (eJ (jy (kJ (fN (eC (iV true) (dQ 0) (cM .non))) (fN (eC K5 (eC fV (dQ 0) (cM (.int 0))) (cM (.int 0))))) (setO 2 (gE (eC gB (eD (dP (dQ 0) dW) (jG c)) (cM (.int 1))))) (jy (kJ (fN (eC (iV true) (dQ 1) (cM .non))) (fN (eC HL (eC fV (dQ 1) (cM (.int 0))) (cM (.int 0))))) (setO 2 (gE (eC mV (eD (dP (dQ 1) dW) (jt c)) (cM (.int 1))))) fF))
  (eJ (jy (kJ (fN (eC (iV true) (dQ 0) (cM .non))) (j8 (fN (eD (dP (dQ 0) (dP (gX (dP (dQ 2) (dP (cM (.int 1)) dW))) dW)) (je c))))) (fT (cM .non)) fF)
  (eJ (jy (kJ (fN (eC (iV true) (dQ 1) (cM .non))) (j8 (fN (eD (dP (gX (dP (dQ 2) (dP (cM (.int 1)) dW))) (dP (dQ 1) dW)) (je c))))) (fT (cM .non)) fF)
  (fT (dQ 2))))))
def iM(c:Cs):List T→M T:=j7 2 3 (tR c)
def j3(c:Cs):En→O:=(eJ (setO 4 (gE (eD (dP (dQ 0) dW) (jG c))))
  (eJ (nX 2 (gE (dQ 4)))
  (eJ (setO 5 (gE (eC mV (eC fV (dQ 0) (cM (.int 0))) (eC ie (dQ 4) (eC fV (dQ 0) (cM (.int 1)))))))
  (eJ (setO 6 (gE (PH (fN (eC (eU false) (dQ 5) (cM (.int 0)))) (cM .non) (gX (dP (eC fV (dQ 0) (cM (.int 1))) (dP (dQ 5) dW))))))
  (eJ (setO 0 (gE (gX (dP (eC fV (dQ 1) (cM (.int 1))) (dP (eC mV (eC fV (dQ 1) (cM (.int 0))) (eC ie (dQ 4) (eC fV (dQ 1) (cM (.int 1))))) dW)))))
  (eJ (setO 1 (gE (dQ 6)))
  (setO 3 (gE (eD (dP (dQ 0) (dP (dQ 1) dW)) (iM c))))))))))
def j6(c:Cs):En→O:=(setO 7 (gE (gX (dP (eC gB (eC ie (dQ 4) (eC fV (dQ 7) (cM (.int 0)))) (eC fV (dQ 7) (cM (.int 1)))) (dP (eC fV (dQ 7) (cM (.int 0))) dW)))))
def wk(c:Cs):En→O:=(eJ (jy (kJ (fN (eC (iV true) (dQ 0) (cM .non))) (fN (eC (eU false) (dQ 0) (dQ 1)))) (fT (dQ 0)) fF)
  (eJ (mU 2 (om (lstM dW)))
  (eJ (setO 3 (gE (eD (dP (dQ 0) (dP (dQ 1) dW)) (iM c))))
  (eJ (fun ρ=>kh (fN (eC (iV false) (dQ 3) (cM .non))) (j3 c) ((fun ρ=>match ρ with | some (.p (.tup [_,.int a]))::some (.p (.tup [_,.int b]))::_=>a.natAbs+b.natAbs+2 | _=>1) ρ) ρ)
  (eJ (setO 7 (gE (gX (dP (dQ 3) (dP (cM (.int 1)) dW)))))
  (eJ (NP 2 (kM (Ef (dP (dQ 2) dW)) (iK 4) (j6 c)))
  (fT (dQ 7))))))))
def jD(c:Cs):List T→M T:=j7 2 8 (wk c)
def n6(c:Cs):En→O:=(eJ (setO 6 (mB (eD (dP (eC fV (dQ 0) (dQ 4)) (dP (dQ 5) (dP (dQ 3) dW))) (nh c))))
  (vO 3 (mB (dQ 5)) (mB (eD (dP (eC fV (dQ 6) (cM (.int 0))) (dP (eC fV (dQ 6) (cM (.int 1))) dW)) (jD c)))))
def uV(c:Cs):En→O:=(eJ (mU 3 (om (EL mv (dP (dQ 2) dW))))
  (eJ (kM (Ef (dP (fj (Of (dP (dQ 1) dW))) dW)) (kL 2 (gy (iK 4) (gy (iK 5) k9))) (n6 c))
  (mK 3)))
def j4(c:Cs):List T→M (List T):=yG 3 7 (uV c)
def lK(c:Cs):En→O:=(jy (fN (eC (eU true) (eC fV (dQ 2) (dQ 1)) (cM (.int 0)))) (fT (fj (EL mv (dP (jN (eD (dP (dQ 2) (dP (eD (dP (eC fV (dQ 2) (dQ 1)) dW) (jr c)) dW)) (m9 c)) (gU (eC gB (dQ 1) (cM (.int 1)))) (fun _=>.ok none)) dW)))) fF)
def qE(c:Cs):En→O:=(eJ (kM (fY (dQ 0)) (iK 2) (lK c))
  (fT (cM .non)))
def gH(c:Cs):List T→M T:=j7 2 3 (qE c)
def lH(c:Cs):Pe→M T:=(dQ 0)
def lL(c:Cs):Pe→M T:=(eD (dP (eD (dP (dQ 0) (dP (dQ 1) dW)) (m9 c)) (dP (dQ 2) dW)) (jP c))
def jw(c:Cs):En→O:=(jy (fN (eC K5 (eC fV (dQ 10) (dQ 1)) (cM (.int 0)))) (fT (gX (dP (cM (.str "paper")) (dP (fj (EL mv (dP (jN (dQ 10) (gU (eC gB (dQ 1) (cM (.int 1)))) (fun _=>.ok none)) dW))) dW)))) fF)
def jL(c:Cs):En→O:=(eJ (setO 3 (gE (fj (ig (dP (dQ 0) dW) (nU c)))))
  (eJ (setO 4 (gE (eD (dP (fj (iE [none,none] (j9 (dP (dQ 3) (dP (dQ 2) dW))) (lW 2 (gh (gZ 0) (gh (gZ 1) lV))) (fN (eC (eU false) (dQ 1) (cM (.int 0)))) (lH c))) (dP (dQ 1) dW)) (iF c))))
  (eJ (setO 5 (gE (eD (dP (eC fV (dQ 4) (cM (.int 1))) (dP (dQ 1) dW)) (gH c))))
  (eJ (jy (fN (eC (iV true) (dQ 5) (cM .non))) (fT (gX (dP (cM (.str "paper")) (dP (dQ 5) dW)))) fF)
  (eJ (setO 6 (gE (eC fV (dQ 4) (cM (.int 0)))))
  (eJ (setO 7 (gE (fj (iE [none,none,some 6] (j9 (dP (dQ 3) (dP (dQ 2) dW))) (lW 2 (gh (gZ 0) (gh (gZ 1) lV))) (fN (eC (eU true) (dQ 1) (cM (.int 0)))) (lL c)))))
  (eJ (setO 8 (gE (fj (ig (dP (dQ 6) (dP (dQ 1) dW)) (kz c)))))
  (eJ (setO 9 (gE (fj (ig (dP (dQ 7) (dP (dQ 1) (dP (dQ 8) (dP (dQ 6) dW)))) (oZ c)))))
  (eJ (kM (fY (eC fV (dQ 9) (wj (fun i=>.int (-i)) (cM (.int 1))))) (iK 10) (jw c))
  (fT (gX (dP (cM (.str "spot")) (dP (eD (dP (dQ 6) (dP (fj (ig (dP (dQ 9) (dP (dQ 8) (dP (fj (jU (fj (lstM (dP (gX (dP (cM (.int 0)) (dP (cM (.int 1)) dW))) dW))) (dQ 1))) dW))) (j4 c))) dW)) (qT c)) dW)))))))))))))
def gK(c:Cs):List T→M T:=j7 3 11 (jL c)
def Ng(c:Cs):En→O:=(eJ (yc (gE (eD (dP (dQ 0) (dP (dQ 1) dW)) (iR c))))
  (fT (eD (dP (fj (rE c.Cutting "cuts" (dQ 0) dW (hC c))) (dP (pN c.Cutting "dims" (dQ 0) dW (g9 c)) (dP (dQ 1) dW))) (gK c))))
def rH(c:Cs):List T→M T:=j7 2 2 (Ng c)
def sT(c:Cs):En→O:=(jy (fN (eC C3 (eC ie (dQ 4) (dQ 5)) (cM (.int 0)))) (fT (cM (.bl false))) fF)
def sR(c:Cs):Pe→M T:=(eC ie (dQ 0) (eC fV (dQ 1) (dQ 2)))
def tw(c:Cs):Pe→M T:=(iU BG (dP (fj (iE [none,none,some 0] (j9 (dP (dQ 1) (dP (dQ 2) dW))) (lW 2 (gh (gZ 0) (gh (gZ 1) lV))) (fun _=>.ok true) (sR c))) dW))
def s9(c:Cs):Pe→M T:=(dQ 0)
def A9(c:Cs):En→O:=(eJ (kM (j9 (dP (dQ 3) (dP (dQ 2) dW))) (kL 2 (gy (iK 4) (gy (iK 5) k9))) (sT c))
  (eJ (setO 6 (gE (fj (iE [none,some 3,some 0] (jh (dP (eC gB (dQ 1) (cM (.int 1))) dW)) (gZ 0) (fun _=>.ok true) (tw c)))))
  (eJ (jy (fN (eC (eU true) (jN (dQ 6) (fun _=>.ok none) (gU (dQ 1))) (fj (jU (fj (lstM (dP (cM (.int 0)) dW))) (dQ 1))))) (fT (cM (.bl false))) fF)
  (eJ (setO 7 (gE (fj (iE [none,none] (j9 (dP (dQ 3) (dP (dQ 2) dW))) (lW 2 (gh (gZ 0) (gh (gZ 1) lV))) (fN (eC (eU true) (eC ie (dQ 0) (dQ 1)) (cM (.int 0)))) (s9 c)))))
  (fT (MD (eC FB (eC fV (dQ 6) (dQ 1)) (cM (.int 0))) (tT (eC (eU false) (eC fV (dQ 6) (dQ 1)) (cM (.int 0))) (eC (eU true) (dQ 7) (fj (lstM dW))))))))))
def ml(c:Cs):List T→M T:=j7 4 8 (A9 c)
def p7(c:Cs):Pe→M T:=(eD (dP (dQ 0) dW) (gO c))
def zp(c:Cs):En→O:=(eJ (jy (ud (j8 (fN (pH "list" (dQ 1)))) (fN (eC (eU true) (iU iZ (dP (dQ 1) dW)) (dQ 0)))) (fT (cM (.bl false))) fF)
  (fT (iU yA (dP (fj (iE [none] (fY (dQ 1)) (gZ 0) (fun _=>.ok true) (p7 c))) dW))))
def lN(c:Cs):List T→M T:=j7 2 2 (zp c)
def oE(c:Cs):Pe→M T:=(eC fV (dQ 0) (dQ 1))
def wc(c:Cs):Pe→M T:=(eD (dP (dQ 1) (dP (fj (iE [none,some 0] (fY (dQ 2)) (gZ 0) (fun _=>.ok true) (oE c))) dW)) (DQ c))
def wY(c:Cs):En→O:=(pQ (iE [none,some 1,some 0] (jh (dP (dQ 2) dW)) (gZ 0) (fun _=>.ok true) (wc c)))
def kq(c:Cs):List T→M (List T):=yG 3 3 (wY c)
def Ax(c:Cs):En→O:=(fT (MD (eC (eU false) (dQ 0) (cM (.int 0))) (MD (eC (eU false) (dQ 1) (cM (.int 0))) (eC (eU false) (eD (dP (dQ 1) dW) (jr c)) (dQ 0)))))
def mJ(c:Cs):List T→M T:=j7 2 2 (Ax c)
def pT(c:Cs):Pe→M T:=(eD (dP (dQ 0) (dP (dQ 1) dW)) (mJ c))
def ku(c:Cs):Pe→M T:=(tT (eC (eU true) (dQ 0) (cM (.int 0))) (eC (eU true) (dQ 1) (cM (.int 0))))
def yI(c:Cs):En→O:=(eJ (yc (gE (eD (dP (dQ 0) (dP (dQ 1) dW)) (iR c))))
  (eJ (jy (j8 (fN (eD (dP (pN c.Cutting "many" (dQ 0) dW (hW c)) (dP (dQ 2) dW)) (lN c)))) (fT (cM (.bl false))) fF)
  (eJ (jy (j8 (fN (iU yA (dP (fj (iE [none,none] (j9 (dP (dQ 1) (dP (dQ 2) dW))) (lW 2 (gh (gZ 0) (gh (gZ 1) lV))) (fun _=>.ok true) (pT c))) dW)))) (fT (cM (.bl false))) fF)
  (eJ (setO 3 (gE (pN c.Cutting "dims" (dQ 0) dW (g9 c))))
  (eJ (setO 4 (gE (fj (ig (dP (fj (rE c.Cutting "cuts" (dQ 0) dW (hC c))) (dP (dQ 2) (dP (eC gB (dQ 3) (cM (.int 1))) dW))) (kq c)))))
  (eJ (jy (fN (iU uY (dP (jN (dQ 4) (fun _=>.ok none) (gU (dQ 3))) dW))) (fT (cM (.bl false))) fF)
  (eJ (jy (fN (eC (eU true) (eC fV (dQ 4) (dQ 3)) (cM (.int 0)))) (fT (eC FB (eC fV (dQ 4) (dQ 3)) (cM (.int 0)))) fF)
  (fT (iU uY (dP (fj (iE [none,none] (j9 (dP (dQ 1) (dP (dQ 2) dW))) (lW 2 (gh (gZ 0) (gh (gZ 1) lV))) (fun _=>.ok true) (ku c))) dW))))))))))
def iJ(c:Cs):List T→M T:=j7 3 5 (yI c)
def vP(c:Cs):Pe→M T:=(eC gB (dQ 1) (gX (dP (dQ 0) dW)))
def we(c:Cs):En→O:=(setO 4 (gE (fj (mR (dQ 4) (fj (iE [none,some 5] (fY (dQ 0)) (gZ 0) (fun _=>.ok true) (vP c)))))))
def uS(c:Cs):En→O:=(eJ (setO 4 (gE (fj (lstM dW))))
  (eJ (kM (fY (dQ 2)) (iK 5) (we c))
  (setO 2 (gE (dQ 4)))))
def Ei(c:Cs):En→O:=(eJ (setO 2 (gE (fj (lstM (dP (gX dW) dW)))))
  (eJ (ox (jh (dP (dQ 1) dW)) (iK 3) (uS c))
  (fT (dQ 2))))
def nv(c:Cs):List T→M T:=j7 2 6 (Ei c)
def wo(c:Cs):En→O:=(eJ (setO 3 (gE (eD (dP (dQ 0) (dP (dQ 1) dW)) (fO c))))
  (eJ (setO 4 (gE (eC gB (cM (.int 1)) (eD (dP (dQ 3) (dP (cM (.int 0)) (dP (cM (.int 3)) dW))) (eV c)))))
  (eJ (setO 5 (gE (eD (dP (dQ 3) (dP (cM (.int 1)) (dP (eC gB (dQ 2) (cM (.int 1))) dW))) (eV c))))
  (eJ (jy (fN (eC (eU false) (dQ 4) (cM (.int 3)))) (setO 5 (gE (iU mM (dP (dQ 5) (dP (cM (.int 5)) dW))))) fF)
  (fT (gX (dP (dQ 4) (dP (fj (ig (dP (dQ 0) (dP (eC gB (dQ 1) (cM (.int 1))) (dP (dQ 4) (dP (dQ 5) dW)))) (nW c))) dW))))))))
def ko(c:Cs):List T→M T:=j7 3 6 (wo c)
def CM(c:Cs):En→O:=(eJ (setO 5 (gE (eD (dP (dQ 0) (dP (dQ 3) (dP (dQ 4) dW))) (iJ c))))
  (fT (tT (pH "bool" (dQ 5)) (eC (eU false) (dQ 5) (eD (dP (dQ 1) (dP (dQ 2) (dP (dQ 3) (dP (dQ 4) dW)))) (ml c))))))
def nC(c:Cs):List T→M T:=j7 5 6 (CM c)
def sM(c:Cs):Pe→M T:=(eC ie (cM (.int 3)) (dQ 0))
def sZ(c:Cs):Pe→M T:=(wj (fun i=>.int (-i)) (dQ 0))
def sU(c:Cs):Pe→M T:=(eC mV (eD (dP (dQ 1) (dP (eC gB (eC gB (cM (.int 2)) (eC ie (dQ 2) (dQ 3))) (dQ 0)) (dP (cM (.int 7)) dW))) (eV c)) (cM (.int 3)))
def sS(c:Cs):En→O:=(nX 5 (gE (fj (iE [none,some 1,some 2,some 6] (jh (dP (dQ 2) dW)) (gZ 0) (fun _=>.ok true) (sU c)))))
def CS(c:Cs):En→O:=(eJ (setO 2 (gE (iU iZ (dP (dQ 0) dW))))
  (eJ (setO 3 (gE (eD (dP (dQ 1) (dP (cM (.int 0)) (dP (dQ 2) dW))) (eV c))))
  (eJ (setO 4 (gE (eC fV (fj (lstM (dP (cM (.int 1)) (dP (wj (fun i=>.int (-i)) (cM (.int 1))) (dP (cM (.int 7)) dW))))) (eD (dP (dQ 1) (dP (cM (.int 1)) (dP (cM (.int 3)) dW))) (eV c)))))
  (eJ (mU 5 (om (lstM (dP (dQ 0) (dP (fj (iE [none] (fY (dQ 0)) (gZ 0) (fun _=>.ok true) (sZ c))) (dP (fj (iE [none] (fY (dQ 0)) (gZ 0) (fun _=>.ok true) (sM c))) (dP (fj (jU (fj (lstM (dP (cM (.int 0)) dW))) (dQ 2))) dW)))))))
  (eJ (nX 5 (gE (fj (mR (fj (mR (jN (dQ 0) (fun _=>.ok none) (gU (dQ 3))) (fj (lstM (dP (eC gB (eC fV (dQ 0) (dQ 3)) (dQ 4)) dW))))) (jN (dQ 0) (gU (eC gB (dQ 3) (cM (.int 1)))) (fun _=>.ok none))))))
  (eJ (nX 5 (gE (fj (mR (fj (mR (jN (dQ 0) (fun _=>.ok none) (gU (dQ 3))) (fj (lstM (dP (cM (.int 0)) dW))))) (jN (dQ 0) (gU (eC gB (dQ 3) (cM (.int 1)))) (fun _=>.ok none))))))
  (eJ (ox (jh (dP (cM (.int 4)) dW)) (iK 6) (sS c))
  (mK 5))))))))
def l8(c:Cs):List T→M (List T):=yG 2 7 (CS c)
def AU(c:Cs):En→O:=(eJ (setO 1 (gE (fj (lstM (dP (cM .non) (dP (cM (.int 5)) (dP (cM (.str "0")) (dP (sO (gX (dP (cM (.int 0)) dW)) (dQ 0)) (dP (fj (jU (fj (lstM (dP (cM (.int 0)) dW))) (eC gB (dQ 0) (cM (.int 1))))) (dP (fj (mR (fj (jU (fj (lstM (dP (cM (.int 0)) dW))) (eC mV (dQ 0) (cM (.int 1))))) (fj (lstM (dP (cM .non) dW))))) (dP (cM .emp) (dP (fj (jU (fj (lstM (dP (cM (.bl true)) dW))) (dQ 0))) (dP (fj (jU (fj (lstM (dP (fj (lstM (dP (cM (.int 0)) dW))) dW))) (dQ 0))) dW)))))))))))))
  (eJ (jy (fN (eC (eU false) (dQ 0) (cM (.int 1)))) (pQ (mR (dQ 1) (fj (lstM (dP (fj (lstM dW)) (dP (fj (lstM (dP (cM .non) dW))) (dP (fj (lstM (dP (cM (.str "1")) dW))) dW))))))) fF)
  (pQ (mR (dQ 1) (fj (lstM (dP (fj (jU (fj (lstM (dP (cM (.int 0)) dW))) (eC mV (dQ 0) (cM (.int 1))))) (dP (fj (mR (fj (jU (fj (lstM (dP (cM (.int 0)) dW))) (eC mV (dQ 0) (cM (.int 1))))) (fj (lstM (dP (cM (.bl false)) dW))))) dW))))))))
def mL(c:Cs):List T→M (List T):=yG 1 2 (AU c)
def E5(c:Cs):Pe→M T:=(eC mV (eD (dP (eD (dP (dQ 1) (dP (eC gB (cM (.int 8)) (dQ 2)) dW)) (fO c)) (dP (dQ 0) (dP (cM (.int 3)) dW))) (eV c)) (cM (.int 1)))
def xU(c:Cs):Pe→M T:=(iU jo (dP (fj (iE [none,some 1,some 0] (jh (dP (iU iZ (dP (dQ 2) dW)) dW)) (gZ 0) (fun _=>.ok true) (E5 c))) dW))
def xo(c:Cs):Pe→M T:=(eC gB (dQ 0) (sO (gX (dP (cM (.int 1)) dW)) (eC mV (iU iZ (dP (dQ 1) dW)) (iU mM (dP (cM (.int 3)) (dP (iU iZ (dP (dQ 1) dW)) dW))))))
def sk(c:Cs):En→O:=(jy (j8 (fN (eD (dP (dQ 3) (dP (dQ 2) (dP (dQ 1) (dP (eC fV (dQ 4) (dQ 5)) (dP (dQ 8) dW))))) (nC c)))) (fT (cM (.bl false))) fF)
def xa(c:Cs):En→O:=(eJ (setO 6 (gE (eD (dP (dQ 3) (dP (eC fV (dQ 4) (dQ 5)) dW)) (rH c))))
  (eJ (setO 7 (gE (fj (jU (fj (lstM (dP (cM (.int 1)) dW))) (iU iZ (dP (dQ 2) dW))))))
  (eJ (jy (fN (eC (eU false) (eC fV (dQ 6) (cM (.int 0))) (cM (.str "paper")))) (setO 7 (gE (eC fV (dQ 6) (cM (.int 1))))) fF)
  (kM (fY (fj (ig (dP (dQ 7) (dP (eD (dP (dQ 0) (dP (eC gB (cM (.int 15)) (eC rS (dQ 5) (cM (.int 9)))) dW)) (fO c)) dW)) (l8 c)))) (iK 8) (sk c)))))
def xg(c:Cs):En→O:=(jy (fN (eC (IU true) (eD (dP (dQ 3) (dP (eC fV (dQ 4) (cM (.int 0))) (dP (dQ 9) dW))) (iJ c)) (cM (.bl false)))) (fT (cM (.bl false))) fF)
def Gh(c:Cs):En→O:=(eJ (Ha (eD (dP (dQ 0) (dP (cM (.int 0)) (dP (cM (.int 5)) dW))) (ko c)) (kL 2 (gy (iK 1) (gy (iK 2) k9))))
  (eJ (jy (fN (eC (eU false) (dQ 2) (fj (lstM dW)))) (setO 2 (gE (fj (lstM (dP (eC gB (gX (dP (cM (.int 1)) dW)) (sO (gX (dP (cM (.int 0)) dW)) (dQ 1))) dW))))) fF)
  (eJ (setO 3 (gE (eD (dP (dQ 1) (dP (dQ 2) dW)) (jg c))))
  (eJ (setO 4 (gE (fj (iE [none,some 0,some 2] (jh (dP (cM (.int 6)) dW)) (gZ 0) (fun _=>.ok true) (xU c)))))
  (eJ (setO 4 (gE (fj (mR (dQ 4) (fj (iE [none,some 2] (fY (eD (dP (gX (dP (wj (fun i=>.int (-i)) (cM (.int 1))) (dP (cM (.int 0)) (dP (cM (.int 1)) dW)))) (dP (iU mM (dP (cM (.int 3)) (dP (iU iZ (dP (dQ 2) dW)) dW))) dW)) (nv c))) (gZ 0) (fun _=>.ok true) (xo c)))))))
  (eJ (ox (jh (dP (iU iZ (dP (dQ 4) dW)) dW)) (iK 5) (xa c))
  (eJ (kM (fY (fj (ig (dP (iU iZ (dP (dQ 2) dW)) dW) (mL c)))) (iK 9) (xg c))
  (fT (cM (.bl true))))))))))
def AH(c:Cs):List T→M T:=j7 1 10 (Gh c)
variable {c:Cs}
theorem nR(ns:List Int)(k:Nat):∃v,fO c [.scr ns,.int k]=.ok (.int v)∧(v=0∨v∈ns):=by
 by_cases h:(k:Int)<ns.length
 ·obtain⟨a,e,hm⟩:=Bc ns k (by omega) h;exact⟨a,by simp[fO,mO,h,e],.inr hm⟩
 ·exact⟨0,by simp[fO,mO,h],.inl rfl⟩
theorem iC{i j:Int}(h:i.natAbs<2 ^ 64):ie (.int i) (.int j)=.ok (.int (i*j)):=gz (r9 h)
theorem Kn(cell:Int)(k:Nat)(b:Int)(hb:0<b)(hb2:b<2 ^ 62)(hk:k≤1000000):∃d,eV c [.int cell,.int (k:Int),.int b]=.ok (.int d)∧0≤d∧d<b:=by
 have hbn:b≠0:=by omega
 have fm:∀x:Int,0≤x.fmod b∧x.fmod b<b:=fun x=>⟨cg x hb,cj x hb⟩;have e18:tO (.int 10) (.int 18)=.ok (.int 1000000000000000000):=by simp[tO,jR]
 by_cases h:(1000000000000000000:Int)≤cell
 ·obtain⟨ρ,e,v,w,rfl⟩:=gq (m:=iK 4) (g:=setO 3 (gE (eC oy (dQ 3) (dQ 2)))) (fun (i:Nat)=>T.int (i:Int)) (fun _ ρ=>∃v w,ρ=[some (.p (.int cell)),some (.p (.int k)),some (.p (.int b)),some (.p (.int v)),w,none])
   (List.range k) 0 [some (.p (.int cell)),some (.p (.int k)),some (.p (.int b)),some (.p (.int cell)),none,none] ⟨_,_,rfl⟩ (by rintro i a ρ ha ⟨v,w,rfl⟩;have hd:Builtin.divisionGoesByPylong v b=false:=Bn.noPy (n:=62) (by unfold Bn;omega) (by decide);exact⟨_,_,rfl,.inl (eG (by simp[my hbn hd];rfl) rfl),_,_,rfl⟩)
  refine⟨v.fmod b,fw rfl ?_,fm v⟩;have hr':yM (k:Int)=true:=iQ (by omega);refine hU (fG (by simp[e18,h]) (d8 (eG (by simp) rfl) (d8 (lR (by simp[hr',JQ]) e) (eN (by simp[oX hbn]))))) rfl
 ·have m1:∀x y:Int,0<y→0≤x.fmod y∧x.fmod y<y:=fun x y hy=>⟨cg x hy,cj x hy⟩;have a1:=m1 cell 1000000007 (by decide);have a2:=m1 ((cell.fmod 1000000007+1009*k+17)*69621) 2147483647 (by decide);generalize hs1:((cell.fmod 1000000007+1009*k+17)*69621).fmod 2147483647=s1 at a2;have a3:=m1 (s1*s1+40503*k+5) 2147483629 (by decide);generalize hs2:(s1*s1+40503*k+5).fmod 2147483629=s2 at a3;have hp:Builtin.divisionGoesByPylong ((s2*48271).fmod 2147483647) 32=false:=Bn.noPy (n:=62) (by unfold Bn;decide) (by decide);refine⟨(((s2*48271).fmod 2147483647).fdiv 32).fmod b,fw rfl ?_,fm _⟩;refine d8 (fz (by simp[e18,h]) rfl) (d8 (eG (t:=.int s1) ?_ rfl) (d8 (eG (t:=.int s2) ?_ rfl) (eN ?_)))
  ·rw[←hs1];simp[oX,iC (i:=1009) (j:=k) (by decide),iC (i:=cell.fmod 1000000007+1009*k+17) (j:=69621) (by omega)]
  ·rw[←hs2];simp[oX,iC (i:=40503) (j:=k) (by decide),iC (i:=s1) (j:=s1) (by omega)]
  ·simp[oX,hbn,my (j:=32) (by decide) hp,iC (i:=s2) (j:=48271) (by omega)]
def dr(c:Cs)(cell k b:Int):Int:=match eV c [.int cell,.int k,.int b] with
 | .ok (.int d)=>d
 | _=>0
theorem ia(cell k b:Int)(hb:0<b)(hb2:b<2 ^ 62)(h0:0≤k)(hk:k≤1000000):eV c [.int cell,.int k,.int b]=.ok (.int (dr c cell k b))∧0≤dr c cell k b∧dr c cell k b<b:=by
 obtain⟨d,e,h1,h2⟩:=Kn (c:=c) cell k.toNat b hb hb2 (by omega);rw[Int.toNat_of_nonneg h0] at e;have:dr c cell k b=d:=by unfold dr;rw[e]
 rw[this];exact⟨e,h1,h2⟩
theorem Dd(l:List Int)(i:Int)(h0:0≤i)(h1:i<l.length):∃w,fV (.lst (l.map T.int)) (.int i)=.ok (.int w)∧w∈l:=by obtain⟨a,e,hm⟩:=Bc l i h0 h1;exact⟨a,by simp[q0,e],hm⟩
theorem N7(i:Int):(if i<0 then -i else i)=(i.natAbs:Int):=by split<;>omega
theorem mI(a b:Int):gF c [.int a,.int b]=.ok (.int (Cu.G a b)):=by
 obtain⟨ρ,e,x,w,rfl,hx⟩:=n0 (c:=fN (eC (eU true) (dQ 1) (cM (.int 0)))) (g:=eJ (setO 2 (gE (eC rS (dQ 0) (dQ 1)))) (eJ (setO 0 (gE (dQ 1))) (setO 1 (gE (dQ 2)))))
  (fun ρ=>∃x y w,ρ=[some (.p (.int x)),some (.p (.int y)),w]∧Cu.G x y=Cu.G a b) (fun ρ=>match ρ with | _::some (.p (.int j))::_=>j.natAbs | _=>0)
  (fun ρ=>∃x w,ρ=[some (.p (.int x)),some (.p (.int 0)),w]∧Cu.G x 0=Cu.G a b) (by
   rintro ρ ⟨x,y,w,rfl,h⟩;by_cases hy:y=0
   ·subst hy;exact .inl ⟨by simp,_,_,rfl,h⟩
   ·refine .inr ⟨by simp[hy],_,.inl (d8 (eG (t:=.int (x.fmod y)) (by simp[oX hy]) rfl) (d8 (eG (t:=.int y) (by simp) rfl) (eG (t:=.int (x.fmod y)) (by simp) rfl))),⟨y,x.fmod y,_,rfl,?_⟩,?_⟩
    ·rw[←h];exact Cu.CA x y
    ·exact Cu.EM x y hy)
  (b.natAbs+1) [some (.p (.int a)),some (.p (.int b)),none] ⟨a,b,none,rfl,rfl⟩ (bz _)
 refine fw rfl (d8 (ρ':=[some (.p (.int x)),some (.p (.int 0)),w]) e (eN ?_));rw[Cu.G7] at hx;simp[N7,hx]
theorem yl{t g:Int}(hg:g ∣ t)(h0:g≠0):(t.fdiv g).natAbs≤t.natAbs:=by obtain⟨k,rfl⟩:=hg;rw[cu k h0,aX];exact Nat.le_mul_of_pos_left _ (by omega)
def yX:T→Bool
 | .scr _=>false
 | .obj _ _=>false
 | _=>true
def isInt:T→Bool
 | .int _=>true
 | _=>false
theorem sX(x:T)(h:yX x=true):gO c [x]=.ok (.bl (isInt x)):=by cases x<;>first | (simp[yX] at h;done) | rfl
theorem Km(x:T)(h:yX x=true):Jy "tuple" x=.ok (.bl (rh x)):=by cases x<;>first | (simp[yX] at h;done) | rfl
def vV:T→Bool
 | .lst _=>true
 | _=>false
theorem JH(x:T)(h:yX x=true):Jy "list" x=.ok (.bl (vV x)):=by cases x<;>first | (simp[yX] at h;done) | rfl
def pY(x:Int):Int:=if 0<x then 1 else if x<0 then -1 else 0
theorem EF(x:Int):-1≤pY x∧pY x≤1:=by unfold pY;split<;>(try split)<;>omega
theorem qw(x:Int):jr c [.int x]=.ok (.int (pY x)):=by
 unfold pY;by_cases h:0<x
 ·rw[aP h];exact fw rfl (hU (fG (by simp[h]) (eN (by simp))) rfl)
 ·rw[aQ h];by_cases h2:x<0
  ·rw[aP h2];exact fw rfl (d8 (fz (by simp[h]) rfl) (hU (fG (by simp[h2]) (eN (by simp))) rfl))
  ·rw[aQ h2];exact fw rfl (d8 (fz (by simp[h]) rfl) (d8 (fz (by simp[h2]) rfl) (eN (by simp))))
theorem nY(bs:List Bool):yA [.lst (bs.map T.bl)]=.ok (.bl (bs.all id)):=by simp
theorem yF(bs:List Bool):uY [.lst (bs.map T.bl)]=.ok (.bl (bs.any id)):=by simp
def pZ(d:Nat):T→Bool
 | .tup ts=>decide (ts.length=d+1)&&ts.all isInt&&(match i6 ts with | some ns=>(ns.take d).any (· != 0) | none=>false)
 | _=>false
theorem Aa:∀(ts:List T),ts.all isInt=true→∃ns:List Int,ts=ns.map T.int
 | [],_=>⟨[],rfl⟩
 | t::ts,h=>by
  rw[bL,bJ] at h;obtain⟨ns,e⟩:=Aa ts h.2;cases t with
  | int i=>exact⟨i::ns,by rw[e];rfl⟩
  | _=>simp[isInt] at h
theorem DT(d:Nat)(hd:d≤10)(x:T)(hx:yX x=true)(hs:∀ts,x=.tup ts→ts.length<1000∧∀t∈ts,yX t=true):oH c [.int d,x]=.ok (.bl (pZ d x)):=by
 have sz:1000<sizeLine:=by decide
 by_cases ht:rh x=true
 ·cases x with
  | tup ts=>
   obtain⟨hl,hk⟩:=hs ts rfl;by_cases hn:ts.length=d+1
   ·have e1:iE [none] (fY (dQ 1)) (gZ 0) (fun _=>.ok true) (sE c) (vw (fQ 2 [.int d,.tup ts]))=.ok ((ts.map isInt).map T.bl):=by rw[ug ts id (fun t=>T.bl (isInt t)) (by simp) (by omega) fun t ht=>⟨_,rfl,rfl,by simp[sE,sX t (hk t ht)]⟩];simp
    have e0:(L3.ud (L3.j8 (fN (pH "tuple" (dQ 1)))) (fN (eC (eU true) (iU iZ (dP (dQ 1) dW)) (eC gB (dQ 0) (cM (.int 1)))))) (vw (fQ 2 [.int d,.tup ts]))=.ok false:=by simp[hn]
    by_cases ha:ts.all isInt=true
    ·obtain⟨ns,rfl⟩:=Aa ts ha;have hns:ns.length=d+1:=by simpa using hn
     have hb:pZ d (.tup (ns.map T.int))=(ns.take d).any (· != 0):=by simp[pZ,hns,ha]
     rw[hb];have e2:iE [none] (fY (jN (dQ 1) (fun _=>.ok none) (gU (dQ 0)))) (gZ 0) (fun _=>.ok true) (rM c) (vw (fQ 2 [.int d,.tup (ns.map T.int)]))=.ok (((ns.take d).map fun n=>n != 0).map T.bl):=by rw[ug (ns.take d) T.int (fun n=>T.bl (n != 0)) (FV (by rw[cy];exact Ap rfl rfl (by simp;omega))) (by simp;omega) fun n hn=>⟨_,rfl,rfl,by simp[rM,bne]⟩];rw[aH];rfl
     refine fw rfl (d8 (fz e0 rfl) (d8 (fz (nV (eK (mF e1 (nY _))) ?_) rfl) (eN (mF e2 ?_))))
     ·rw[bZ];simpa using ha
     ·rw[yF,b4];rfl
    ·have hb:pZ d (.tup ts)=false:=by simp[pZ,ha]
     rw[hb];refine fw rfl (d8 (fz e0 rfl) (hU (fG (nV (eK (mF e1 (nY _))) ?_) (eN rfl)) rfl));rw[bZ];simpa using ha
   ·have hb:pZ d (.tup ts)=false:=by simp[pZ,hn]
    rw[hb];refine fw rfl (hU (fG ?_ (eN rfl)) rfl);have:¬((ts.length:Int)=(d:Int)+1):=by omega
    simp[this]
  | _=>simp[rh] at ht
 ·have hb:pZ d x=false:=by cases x<;>first | rfl | (simp[rh] at ht;done)
  rw[hb];refine fw rfl (hU (fG ?_ (eN rfl)) rfl);have hf:rh x=false:=by simpa using ht
  have:=Km x hx;rw[hf] at this;simp only[L3.ud,L3.j8,fN,pH,dQ,vw,fQ,bx,bS,List.cons_append,bR,List.getElem?_cons_succ,List.getElem?_cons_zero,Qg,M.bind_ok,this];rfl
theorem Cw(d:Nat)(h:1≤d∧d≤3):nA c [.int d]=.ok (.bl true):=by
 have w:gO c [.int d]=.ok (.bl true):=rfl;have h1:(1:Int)≤d:=by omega
 have h2:(d:Int)≤3:=by omega
 exact fw rfl (eN (by simp[w,h1,h2]))
theorem AR(n:Nat)(r:List Int)(hl:r.length=n)(hn:n≤100)(h:∀x∈r,-1≤x∧x≤1):nM c [.int n,tI r]=.ok (.bl true):=by
 have sz:1000<sizeLine:=by decide
 have w:∀i:Int,gO c [.int i]=.ok (.bl true):=fun i=>rfl;have e1:iE [none] (fY (dQ 1)) (gZ 0) (fun _=>.ok true) (oP c) (vw (fQ 2 [.int n,tI r]))=.ok ((r.map fun _=>true).map T.bl):=by rw[ug r T.int (fun _=>T.bl true) rfl (by omega) fun x hx=>⟨_,rfl,rfl,by simp[oP,w,(h x hx).1,(h x hx).2]⟩];simp
 refine fw rfl (d8 (fz (by simp[tI,hl]) rfl) (eN (mF e1 ?_)));rw[nY];simp
theorem OM(n:Nat):(List.replicate n [T.int 0]).flatten=(List.replicate n (0:Int)).map T.int:=by
 induction n with
 | zero=>rfl
 | succ n ih=>rw[bN,bO,ih,bN];rfl
theorem De(n:Nat)(hn:n≤1000){f:Pe→M T}{ρ:Pe}(h:f ρ=.ok (.int (n:Int))):fj (jU (fj (lstM (dP (cM (.int 0)) dW))) f) ρ=.ok (.lst ((List.replicate n (0:Int)).map T.int)):=by
 have sz:1000<sizeLine:=by decide
 have hr:yM (n:Int)=true:=iQ (by omega);have h1:1≤sizeLine:=by decide
 have h2:n≤sizeLine:=by omega
 simp[h,hr,h1,h2,OM]
theorem KY(n:Nat)(hn:n≤1000){f:Pe→M T}{ρ:Pe}(h:f ρ=.ok (.int (n:Int))):sO (gX (dP (cM (.int 0)) dW)) f ρ=.ok (.tup ((List.replicate n (0:Int)).map T.int)):=by
 have sz:1000<sizeLine:=by decide
 have hr:yM (n:Int)=true:=iQ (by omega);have h1:1≤sizeLine:=by decide
 have h2:n≤sizeLine:=by omega
 simp[h,xR,hr,h1,h2,OM]
theorem Ml(l:List Int)(n:Nat)(h:l.length=n):(l.any (· != 0))=!decide (l=List.replicate n 0):=by
 by_cases e:l=List.replicate n 0
 ·rw[aB e,e];simp
 ·rw[aA e];have:∃x∈l,x≠0:=by refine aN fun hc=>e (cG.mpr ⟨h,fun b hb=>?_⟩);refine aN fun hb0=>hc ⟨b,hb,hb0⟩
  obtain⟨x,hx,hx0⟩:=this;exact cH.mpr ⟨x,hx,by simp[hx0]⟩
end CL
namespace L3
open PySem L2
theorem nS{α:Type}{m:T→En→Option En}{g:En→O}(enc:α→T)(P:En→Prop)(p:α→Bool)(t:T):∀(l:List α) (ρ:En),P ρ→
  (∀a∈l,∀ρ,P ρ→∃ρ1,m (enc a) ρ=some ρ1∧(p a=true→∃ρ2,g ρ1=.nx ρ2∧P ρ2)∧(p a=false→g ρ1=.rt t))→
  (l.all p=true→∃ρ',iA m g (l.map enc) ρ=.nx ρ'∧P ρ')∧(l.all p=false→iA m g (l.map enc) ρ=.rt t)
 | [],ρ,h,_=>⟨fun _=>⟨ρ,rfl,h⟩,fun h=>by simp at h⟩
 | a::l,ρ,h,st=>by
  obtain⟨ρ1,e1,h1,h2⟩:=st a (by simp) ρ h;rw[bx,iA,e1];dsimp only;cases hp:p a with
  | true=>obtain⟨ρ2,e2,q2⟩:=h1 hp;rw[e2];have ih:=nS enc P p t l ρ2 q2 fun b hb ρ hP=>st b (by simp[hb]) ρ hP;rw[bL,hp,Bool.true_and];exact ih
  | false=>rw[h2 hp,bL,hp,Bool.false_and];exact⟨fun z=>(by cases z),fun _=>rfl⟩
end L3
namespace CL
open PySem L2 L3
variable {c:Cs}
theorem Gx{n:Nat}:Bn (n+1) 1:=by unfold Bn;rw[cC];have:=cI n;show 1<_;omega
def rm(n:Nat):T→Bool
 | .lst ts=>decide (ts.length=n)&&ts.all isInt
 | _=>false
theorem p9(n:Nat)(x:T)(hx:yX x=true)(hs:∀ts,x=.lst ts→ts.length<1000∧∀t∈ts,yX t=true):lN c [.int n,x]=.ok (.bl (rm n x)):=by
 have sz:1000<sizeLine:=by decide
 by_cases ht:vV x=true
 ·cases x with
  | lst ts=>
   obtain⟨hl,hk⟩:=hs ts rfl;by_cases hn:ts.length=n
   ·have e1:iE [none] (fY (dQ 1)) (gZ 0) (fun _=>.ok true) (p7 c) (vw (fQ 2 [.int n,.lst ts]))=.ok ((ts.map isInt).map T.bl):=
     gQ ts id (fun t=>T.bl (isInt t)) (by simp) (by omega) (fun t ht=>⟨_,rfl,rfl,pU rfl (sX t (hk t ht))⟩) (by rw[aH];rfl)
    have e0:(L3.ud (L3.j8 (fN (pH "list" (dQ 1)))) (fN (eC (eU true) (iU iZ (dP (dQ 1) dW)) (dQ 0)))) (vw (fQ 2 [.int n,.lst ts]))=.ok false:=by simp[hn]
    refine fw rfl (d8 (fz e0 rfl) (eN (mF e1 ?_)));rw[nY,bZ];simp[rm,hn,Function.comp_def]
   ·have hb:rm n (.lst ts)=false:=by simp[rm,hn]
    rw[hb];refine fw rfl (hU (fG ?_ (eN rfl)) rfl);have:¬((ts.length:Int)=(n:Int)):=by omega
    simp[this]
  | _=>simp[vV] at ht
 ·have hb:rm n x=false:=by cases x<;>first | rfl | (simp[vV] at ht;done)
  rw[hb];refine fw rfl (hU (fG ?_ (eN rfl)) rfl);have hf:vV x=false:=by simpa using ht
  have:=JH x hx;rw[hf] at this;simp only[L3.ud,L3.j8,fN,pH,dQ,vw,fQ,bx,bS,List.cons_append,bR,List.getElem?_cons_succ,List.getElem?_cons_zero,Qg,M.bind_ok,this];rfl
def wH(s w:Int):Bool:=s == 0||(w == 0||pY w == s)
theorem yf(s w:Int):mJ c [.int s,.int w]=.ok (.bl (wH s w)):=by refine fw rfl (eN ?_);have e:eC (eU false) (eD (dP (dQ 1) dW) (jr c)) (dQ 0) (vw (fQ 2 [.int s,.int w]))=.ok (.bl (pY w == s)):=dZ (pU rfl (qw w)) rfl (fS _ _);have e2:eC (eU false) (dQ 1) (cM (.int 0)) (vw (fQ 2 [.int s,.int w]))=.ok (.bl (w == 0)):=dZ rfl rfl (fS _ _);have e3:eC (eU false) (dQ 0) (cM (.int 0)) (vw (fQ 2 [.int s,.int w]))=.ok (.bl (s == 0)):=dZ rfl rfl (fS _ _);simp only[MD,fN,e,e2,e3,M.bind_ok,wH];cases s == 0<;>cases w == 0<;>rfl
theorem AZ(ns:List Int):i6 (ns.map T.int)=some ns:=by simp
theorem Bq(ws:List Int):BG [.lst (ws.map T.int)]=.ok (.int ws.sum):=by simp
end CL
namespace L3
open PySem L2
theorem qG{α:Type}{m:T→En→Option En}{g:En→O}(enc:α→T)(P:Nat→En→Prop)(R:T→Prop):∀(l:List α) (k:Nat) (ρ:En),P k ρ→
  (∀i a ρ,l[i]? = some a→P (k+i) ρ→∃ρ1,m (enc a) ρ=some ρ1∧((∃ρ2,g ρ1=.nx ρ2∧P (k+i+1) ρ2)∨∃t,g ρ1=.rt t∧R t))→
  (∃ρ',iA m g (l.map enc) ρ=.nx ρ'∧P (k+l.length) ρ')∨∃t,iA m g (l.map enc) ρ=.rt t∧R t
 | [],k,ρ,h,_=>.inl ⟨ρ,rfl,h⟩
 | a::l,k,ρ,h,st=>by
  obtain⟨ρ1,e1,h1⟩:=st 0 a ρ rfl h;rw[bx,iA,e1];dsimp only;rcases h1 with⟨ρ2,e2,h2⟩ | ⟨t,e2,h2⟩
  ·rw[e2];rw[ay,show k+(l.length+1)=k+1+l.length by omega];exact qG enc P R l (k+1) ρ2 h2 fun i b ρ hb hP=>by have:=st (i+1) b ρ (by simpa using hb) (by rw[show k+(i+1)=k+1+i by omega];exact hP);rw[show k+1+i+1=k+(i+1)+1 by omega];exact this
  ·rw[e2];exact .inr ⟨t,rfl,h2⟩
end L3
namespace CL
open PySem L2 L3
variable {c:Cs}
theorem Hk{α:Type}(l:List α)(k:Nat)(h:k<l.length):oY l (k:Int)=some l[k]:=by unfold oY xH;rw[aP (by omega),aP (by omega)];simp[h]
theorem Dz(l:List Int)(k:Nat)(h:k<l.length):oY l (k:Int)=some (l.getD k 0):=by rw[Hk l k h,af,ag h];rfl
theorem jA(l:List Int)(k:Nat)(h:k<l.length):l.getD k 0∈l:=by rw[af,ag h];exact aU h
theorem uw(l:List Int)(k:Nat)(h:k<l.length):fV (.lst (l.map T.int)) (.int (k:Int))=.ok (.int (l.getD k 0)):=by simp[q0,Dz l k h]
theorem iB(l:List Int)(k:Nat)(h:k<l.length):fV (tI l) (.int (k:Int))=.ok (.int (l.getD k 0)):=by simp[tI,q0,Dz l k h]
theorem N3(x:T)(xs:List T):fV (.lst (x::xs)) (.int 0)=.ok x:=by have h:=Hk (x::xs) 0 (by simp);have h':oY (x::xs) (0:Int)=some x:=h;show (match oY (x::xs) (0:Int) with | some t=>M.ok t | none=>.bad)=_;rw[h']
theorem PU{ρ:Pe}{f1 f2 f3:Pe→M T}{a1 a2 a3:T}(h1:f1 ρ=.ok a1)(h2:f2 ρ=.ok a2)(h3:f3 ρ=.ok a3):fj (lstM (dP f1 (dP f2 (dP f3 dW)))) ρ=.ok (.lst [a1,a2,a3]):=by
 have hz:3≤sizeLine:=by decide
 simp only[fj,lstM,dP,dW,h1,h2,h3,M.bind_ok,vT,ay,b7,hz,if_true]
theorem Hx(n:Nat)(x:T):(List.replicate n [x]).flatten=List.replicate n x:=by
 induction n with
 | zero=>rfl
 | succ n ih=>rw[bN,bO,ih,bN];rfl
theorem v5(n:Nat)(hn:n≤1000)(x:T){f:Pe→M T}{ρ:Pe}(h:f ρ=.ok (.int (n:Int))):fj (jU (fj (lstM (dP (cM x) dW))) f) ρ=.ok (.lst (List.replicate n x)):=by
 have sz:1000<sizeLine:=by decide
 have hr:yM (n:Int)=true:=iQ (by omega);have h1:1≤sizeLine:=by decide
 have h2:n≤sizeLine:=by omega
 simp[h,hr,h1,h2,Hx]
end CL
namespace CL
abbrev Vc:=Nat→Int
inductive Qs(P:Vc→Prop):Vc→Prop
 | of {x:Vc}:P x→Qs P x
 | zero:Qs P fun _=>0
 | lin {x y z:Vc} {s a b:Int}:Qs P x→Qs P y→s≠0→(∀i,s*z i=a*x i+b*y i)→Qs P z
theorem Qs.sub{P P':Vc→Prop}(h:∀x,P x→Qs P' x){z:Vc}(q:Qs P z):Qs P' z:=by
 induction q with
 | of p=>exact h _ p
 | zero=>exact .zero
 | lin _ _ s e i1 i2=>exact .lin i1 i2 s e
theorem Qs.mono{P P':Vc→Prop}(h:∀x,P x→P' x){z:Vc}(q:Qs P z):Qs P' z:=q.sub fun x p=>.of (h x p)
theorem Qs.comb{P:Vc→Prop}{x y:Vc}(a b:Int)(hx:Qs P x)(hy:Qs P y):Qs P fun i=>a*x i+b*y i:=.lin (s:=1) hx hy (by decide) fun i=>by rw[cJ]
end CL
namespace CL
open PySem L2 L3
variable {c:Cs}
def vc(l:List Int):Vc:=fun i=>l.getD i 0
theorem vF(l:List Int)(i:Nat)(h:l.length≤i):vc l i=0:=by unfold vc;rw[af,List.getElem?_eq_none h];rfl
theorem rn(l:List Int)(i:Nat)(h:i<l.length):vc l i=l[i]:=by unfold vc;rw[af,ag h];rfl
def NX(ah:List (Nat×List Int)):Vc→Prop:=fun x=>∃p∈ah,x=vc p.2
theorem gW{α:Type}(l:List α)(k:Nat)(v:α)(h:l[k]? = some v):l.take (k+1)=l.take k++[v]:=by rw[List.take_succ,h];rfl
theorem uH{f:Pe→M T}{ρ:Pe}{i:Int}(h:f ρ=.ok (.int i)):wj (fun i=>.int (-i)) f ρ=.ok (.int (-i)):=by simp only[wj,h,M.bind_ok]
theorem rj{n:Nat}:Bn n 0:=by unfold Bn;exact cI _
theorem E9(N:Nat)(hN:N≤8000)(row:List Int)(hl:row.length<1000)(hb:∀x∈row,Bn N x):∃(g:Int) (ys:List Int),0<g∧qI c [tI row]=.ok (tI ys)∧ys.length=row.length∧(∀i,vc row i=g*vc ys i)∧∀y∈ys,Bn N y:=by
 have sz:1000<sizeLine:=by decide
 have main:=qG (m:=iK 2) (g:=xM c) T.int
  (fun k ρ=>∃(dv:Int) (x2:Option W),ρ=[some (.p (tI row)),some (.p (.int dv)),x2]∧0≤dv∧Bn N dv∧∀x∈row.take k,dv ∣ x)
  (fun t=>t=tI row) row 0 _ ⟨0,none,rfl,by decide,rj,fun x hx=>by simp at hx⟩ (by
   rintro i x ρ hi ⟨dv,x2,rfl,h1,h2,h3⟩;rw[aF] at h3 ⊢;have hxm:=au hi;refine⟨_,rfl,?_⟩;have e1:setO 1 (gE (eD (dP (dQ 1) (dP (dQ 2) dW)) (gF c))) [some (.p (tI row)),some (.p (.int dv)),some (.p (.int x))]=.nx [some (.p (tI row)),some (.p (.int (Cu.G dv x))),some (.p (.int x))]:=eG (fX rfl rfl (mI dv x)) rfl;by_cases h:Cu.G dv x=1
   ·right;exact⟨_,d8 e1 (fG (eK (dZ rfl rfl (by rw[fS,h];rfl))) (eN rfl)),rfl⟩
   ·left;refine⟨_,d8 e1 (fz (eK (dZ rfl rfl (by rw[fS];simp[h]))) rfl),_,_,rfl,Cu.uP _ _,?_,fun z hz=>?_⟩
    ·by_cases hx0:x=0
     ·rw[hx0,Cu.G7];exact bT (by omega) h2
     ·have q1:=Cu.N6 dv x hx0;have q2:=Cu.uP dv x;exact bT (by omega) (hb x hxm)
    ·rw[gW row i x hi] at hz;rcases ai.mp hz with q | q
     ·exact Int.dvd_trans (Cu.nQ dv x) (h3 z q)
     ·rw[aj.mp q];exact Cu.kU dv x)
 rcases main with⟨ρ',e,dv,x2,rfl,h1,h2,h3⟩ | ⟨t,e,rfl⟩
 ·rw[aF,cK] at h3;by_cases h0:dv=0
  ·exact⟨1,row,by decide,fw rfl (d8 (eG (t:=.int 0) rfl rfl) (d8 (gN rfl e) (hU (fG (eK (dZ rfl rfl (by rw[fS,h0];rfl))) (eN rfl)) rfl))),rfl,fun i=>by rw[cJ],hb⟩
  ·refine⟨dv,row.map (fun x=>x.fdiv dv),by omega,fw rfl (d8 (eG (t:=.int 0) rfl rfl) (d8 (gN rfl e) (d8 (fz (eK (dZ rfl rfl (by rw[fS];simp[h0]))) rfl) (eN ?_)))),by simp,fun i=>?_,fun y hy=>?_⟩
   ·exact lD (t:=.lst ((row.map (fun x=>x.fdiv dv)).map T.int)) (fM (gQ row T.int (fun x=>T.int (x.fdiv dv)) rfl (by omega) (fun x hx=>⟨_,rfl,rfl,dZ rfl rfl (my h0 (h2.noPy hN))⟩) (by rw[aH];rfl))) rfl
   ·by_cases hi:i<row.length
    ·rw[rn row i hi,rn _ i (by simpa using hi),List.getElem_map];obtain⟨q,hq⟩:=h3 _ (aU hi);rw[hq,cu q h0]
    ·rw[vF row i (by omega),vF _ i (by simp;omega),cL]
   ·obtain⟨x,hx,rfl⟩:=aC.mp hy;exact bT (yl (h3 x hx) h0) (hb x hx)
 ·exact⟨1,row,by decide,fw rfl (d8 (eG (t:=.int 0) rfl rfl) (hU (gN rfl e) rfl)),rfl,fun i=>by rw[cJ],hb⟩
theorem sG{g x:Int}(hg:g≠0)(h:g*x=0):x=0:=by
 rcases cN.mp h with z | z
 ·exact absurd z hg
 ·exact z
theorem KC(o:Int):pY o*o=(o.natAbs:Int):=by
 unfold pY;split
 ·rw[cJ];omega
 ·split
  ·rw[Int.neg_mul,cJ];omega
  ·rw[cO];omega
def jZ(p:Nat×List Int):T:=.tup [.int (p.1:Int),tI p.2]
def sm:Nat→(Nat→Int)→Int
 | 0,_=>0
 | n+1,f=>f 0+sm n fun i=>f (i+1)
theorem i9:∀(n:Nat) (f g:Nat→Int),(∀i,i<n→f i=g i)→sm n f=sm n g
 | 0,_,_,_=>rfl
 | n+1,f,g,h=>by rw[sm,sm,h 0 (by omega),i9 n _ _ fun i hi=>h (i+1) (by omega)]
theorem yW(a b:Int):∀(n:Nat) (f g:Nat→Int),sm n (fun i=>a*f i+b*g i)=a*sm n f+b*sm n g
 | 0,_,_=>by simp[sm]
 | n+1,f,g=>by rw[sm,sm,sm,yW a b n (fun i=>f (i+1)) fun i=>g (i+1),cP,cP];omega
theorem vW(a:Int):∀(n:Nat) (f:Nat→Int),sm n (fun i=>a*f i)=a*sm n f
 | 0,_=>by simp[sm]
 | n+1,f=>by rw[sm,sm,vW a n fun i=>f (i+1),cP]
theorem uh:∀n:Nat,sm n (fun _=>0)=0
 | 0=>rfl
 | n+1=>by rw[sm,uh n];rfl
theorem yt:∀(n k:Nat) (f:Nat→Int),k<n→sm n (fun i=>(if i=k then 1 else 0)*f i)=f k
 | 0,k,f,h=>absurd h (cA _)
 | n+1,0,f,h=>by rw[sm,aP rfl,cJ,i9 n _ (fun _=>0) (fun i _=>by rw[aQ (by omega),cO]),uh,Int.add_zero]
 | n+1,k+1,f,h=>by rw[sm,aQ (by omega),cO,Int.zero_add,i9 n _ (fun i=>(if i=k then 1 else 0)*f (i+1)) (fun i _=>by simp),yt n k (fun i=>f (i+1)) (by omega)]
theorem Qs.at0{P:Vc→Prop}{k:Nat}(h:∀x,P x→x k=0){z:Vc}(q:Qs P z):z k=0:=by
 induction q with
 | of p=>exact h _ p
 | zero=>rfl
 | lin _ _ hs e i1 i2=>exact sG hs (by rw[e k,i1,i2,cL,cL];rfl)
theorem vC:∀(m:Nat) (l:List Nat),l.Nodup→(∀x∈l,x<m)→l.length≤m
 | 0,[],_,_=>aJ _
 | 0,x::l,_,h=>absurd (h x (bf ..)) (cA _)
 | m+1,l,hn,h=>by
  have h1:=vC m (l.erase m) (hn.erase m) fun x hx=>by have q:=(hn.mem_erase_iff).mp hx;have:=h x q.2;have:=q.1;omega
  by_cases hm:m∈l
  ·rw[cQ hm] at h1;omega
  ·rw[List.erase_of_not_mem hm] at h1;omega
theorem lM{ρ:Pe}{fa fb:Pe→M T}{a b:List T}(ha:fa ρ=.ok (.lst a))(hb:fb ρ=.ok (.lst b))(hz:a.length+b.length≤sizeLine):mR fa fb ρ=.ok (a++b):=by simp only[mR,ha,hb,M.bind_ok];rw[aP hz]
theorem tN{ρ:Pe}{f:Pe→M T}{a:T}(h:f ρ=.ok a):fj (lstM (dP f dW)) ρ=.ok (.lst [a]):=by
 have hz:1≤sizeLine:=by decide
 simp only[fj,lstM,dP,dW,h,M.bind_ok,vT,ay,b7,hz,if_true]
theorem Od{ρ:Pe}{f:Pe→M T}{a:T}(h:f ρ=.ok a):gX (dP f dW) ρ=.ok (.tup [a]):=by
 have hz:1≤sizeLine:=by decide
 simp only[gX,dP,dW,h,M.bind_ok,vT,ay,b7,hz,if_true]
theorem nt{ρ:Pe}{f g:Pe→M T}{a b:T}(h:f ρ=.ok a)(h2:g ρ=.ok b):gX (dP f (dP g dW)) ρ=.ok (.tup [a,b]):=by
 have hz:2≤sizeLine:=by decide
 simp only[gX,dP,dW,h,h2,M.bind_ok,vT,ay,b7,hz,if_true]
theorem H9{ρ:Pe}{f:Pe→M (List T)}{ts:List T}(h:fj f ρ=.ok (.lst ts)):f ρ=.ok ts:=by
 unfold fj at h;cases hf:f ρ with
 | ok us=>rw[hf] at h;cases h;rfl
 | bad=>rw[hf] at h;cases h
 | er a b=>rw[hf] at h;cases h
theorem JI(a b:List T)(h:a.length+b.length≤sizeLine):gB (.tup a) (.tup b)=.ok (.tup (a++b)):=by unfold gB;exact aP h
theorem yH(a b:List Int)(h:a.length+b.length≤1000):gB (tI a) (tI b)=.ok (tI (a++b)):=by
 have sz:1000<sizeLine:=by decide
 unfold tI;rw[JI _ _ (by simp;omega),aY]
theorem wL(pv:List (Nat×List Int))(left:List Int)(a:Nat)(f:Nat×List Int→List Int)(hl:pv.length≤100)(hf:∀p∈pv,gI c [tI p.2,tI left,.int (a:Int)]=.ok (tI (f p))) :
  jV c [.lst (pv.map jZ),tI left,.int (a:Int)]=.ok ((pv.map (fun p=>(p.1,f p))++[(a,left)]).map jZ):=by
 have sz:1000<sizeLine:=by decide
 have e1:iE [none,none,some 1,some 2] (fY (dQ 0)) (lW 2 (gh (gZ 0) (gh (gZ 1) lV))) (fun _=>.ok true) (pO c) (vw (fQ 3 [.lst (pv.map jZ),tI left,.int (a:Int)]))=.ok ((pv.map (fun p=>(p.1,f p))).map jZ):=gQ pv jZ (fun p=>jZ (p.1,f p)) rfl (by omega) (fun p hp=>⟨_,rfl,rfl,nt rfl (iP rfl rfl rfl (hf p hp))⟩) (by rw[aH];rfl)
 refine lC rfl (oW ?_);rw[aY];exact lM (fM e1) (tN (nt rfl rfl)) (by simp;omega)
theorem su{α β:Type}[Inhabited β]{P:α→β→Prop}(l:List α)(h:∀a∈l,∃b,P a b):∃f:α→β,∀a∈l,P a (f a):=⟨fun a=>Classical.epsilon fun b=>P a b,fun a ha=>Classical.epsilon_spec (h a ha)⟩
theorem AE(rows:List (List Int))(hn:rows.length≤8)(hl:∀r∈rows,r.length≤100):nU c [.lst (rows.map tI)]=.ok ((rows.zipIdx.map fun p=>p.1++(List.replicate rows.length (0:Int)).set p.2 1).map tI):=by
 have sz:1000<sizeLine:=by decide
 obtain⟨ρ,e,x2,x3,x4,rfl⟩:=gq (m:=kL 2 (gy (iK 2) (gy (iK 3) k9))) (g:=sP c) (fun (p:List Int×Nat)=>T.tup [.int (p.2:Int),tI p.1])
  (fun k ρ=>∃x2 x3 x4:Option W,ρ=[some (.p (.lst (rows.map tI))),some (.o (((rows.zipIdx.take k).map fun p=>p.1++(List.replicate rows.length (0:Int)).set p.2 1).map tI)),x2,x3,x4])
  rows.zipIdx 0 _ ⟨none,none,none,rfl⟩ (by
   rintro i ⟨r,k⟩ ρ hi ⟨x2,x3,x4,rfl⟩;rw[aF];have hmem:=au hi;have hj2:=List.mem_zipIdx hmem;have hkl:k<rows.length:=by omega
   have hrl:r.length≤100:=hl r (by rw[hj2.2.2];exact aU _);have hil:i<rows.length:=by have:=(aa.mp hi).1;simpa using this
   have hix:xH ((List.replicate rows.length (0:Int)).map T.int).length (k:Int)=some k:=by unfold xH;rw[aP (by omega),aP (by rw[aw,bG];omega)];simp
   refine⟨_,_,rfl,.inl (d8 (lF (ts:=(List.replicate rows.length (0:Int)).map T.int) (H9 (De rows.length (by omega) (lD rfl (by simp)))) rfl) (d8 (yY (us:=(List.replicate rows.length (0:Int)).map T.int) (t:=.int 1) (j:=(k:Int)) (m:=k) rfl rfl rfl rfl hix rfl) (JS (t:=tI (r++(List.replicate rows.length (0:Int)).set k 1)) rfl ?_ (by simp) (by simp;omega) rfl))),some (.p (.int (k:Int))),some (.p (tI r)),some (.o (((List.replicate rows.length (0:Int)).map T.int).set k (.int 1))),?_⟩
   ·refine dZ (x:=tI r) (y:=tI ((List.replicate rows.length (0:Int)).set k 1)) rfl (lD (t:=.lst (((List.replicate rows.length (0:Int)).set k 1).map T.int)) ?_ rfl) (yH _ _ (by simp;omega));show (M.ok (T.lst (((List.replicate rows.length (0:Int)).map T.int).set k (.int 1))))=_;rw[←cR]
   ·rw[gW _ i (r,k) hi,aY,aY];rfl)
 rw[aF,cK] at e;refine lC rfl (d8 (lF (ts:=[]) (by simp) rfl) (d8 (gN ?_ e) rfl));rw[←w9];rfl
end CL
namespace CL
def gP(m:Nat)(A u:Vc):Int:=sm m fun i=>A i*u i
theorem nH{m:Nat}{A x y z:Vc}{s a b:Int}(h:∀i,s*z i=a*x i+b*y i):s*gP m A z=a*gP m A x+b*gP m A y:=by
 unfold gP;rw[←vW,←yW];refine i9 m _ _ fun i _=>?_;have:=h i;calc s*(A i*z i)=A i*(s*z i):=by rw[Int.mul_left_comm]
  _=A i*(a*x i+b*y i):=by rw[this]
  _=a*(A i*x i)+b*(A i*y i):=by grind
structure ja(m:Nat)(As:List Vc)(u:Vc):Prop where
 nn:∀i,0≤u i
 out:∀i,m≤i→u i=0
 ne:∃i,u i≠0
 eq:∀A∈As,gP m A u=0
def cs(m:Nat)(u:Vc):Nat:=(List.range m).countP fun i=>decide (u i≠0)
theorem Oo{m:Nat}{u v:Vc}(h:∀i,i<m→v i=0→u i=0):cs m u≤cs m v:=by unfold cs;refine List.countP_mono_left fun i hi q=>?_;have hi':=aR.mp hi;simp only[decide_eq_true_eq] at q ⊢;exact fun z=>q (h i hi' z)
theorem xr{α:Type}{p q:α→Bool}:∀{l:List α},(∀a∈l,p a=true→q a=true)→(∃a∈l,q a=true∧p a=false)→l.countP p<l.countP q
 | [],_,⟨_,h,_⟩=>by cases h
 | a::l,h,⟨b,hb,h1,h2⟩=>by
  rw[List.countP_cons,List.countP_cons];have mono:l.countP p≤l.countP q:=List.countP_mono_left fun c hc=>h c (by simp[hc]);rcases aE.mp hb with rfl | hb
  ·rw[h1,h2];simp;omega
  ·have ih:=xr (fun c hc=>h c (by simp[hc])) ⟨b,hb,h1,h2⟩;cases hp:p a with
   | true=>rw[h a (by simp) hp];simp;omega
   | false=>cases hq:q a<;>simp<;>omega
theorem Aw{m:Nat}{u v:Vc}(h:∀i,i<m→v i=0→u i=0){k:Nat}(hk:k<m)(h1:v k≠0)(h2:u k=0):cs m u<cs m v:=by unfold cs;refine xr (fun i hi q=>?_) ⟨k,aR.mpr hk,by simpa using h1,by simpa using h2⟩;have hi':=aR.mp hi;simp only[decide_eq_true_eq] at q ⊢;exact fun z=>q (h i hi' z)
theorem Lk(u v:Vc):∀m,(∃j,j<m∧0<v j)→∃k,k<m∧0<v k∧∀i,i<m→0<v i→u k*v i≤u i*v k
 | 0,⟨_,h,_⟩=>absurd h (cA _)
 | m+1,⟨j,hj,hv⟩=>by
  by_cases he:∃j,j<m∧0<v j
  ·obtain⟨k,hk,h1,h2⟩:=Lk u v m he;by_cases hm:0<v m
   ·by_cases hc:u k*v m≤u m*v k
    ·refine⟨k,by omega,h1,fun i hi hvi=>?_⟩;by_cases e:i=m
     ·subst e;exact hc
     ·exact h2 i (by omega) hvi
    ·refine⟨m,by omega,hm,fun i hi hvi=>?_⟩;by_cases e:i=m
     ·subst e;exact cS _
     ·have a:=h2 i (by omega) hvi;have hc':u m*v k≤u k*v m:=az (Int.not_le.mp hc);have e1:u m*v i*v k≤u i*v m*v k:=by
       have x1:=aI hc' (az hvi);have x2:=aI a (az hm);have y1:u m*v i*v k=u m*v k*v i:=by grind
       have y2:u k*v m*v i=u k*v i*v m:=by grind
       have y3:u i*v m*v k=u i*v k*v m:=by grind
       rw[y1,y3];rw[y2] at x1;exact Int.le_trans x1 x2
      exact Int.le_of_mul_le_mul_right e1 h1
   ·refine⟨k,by omega,h1,fun i hi hvi=>?_⟩;by_cases e:i=m
    ·subst e;exact absurd hvi hm
    ·exact h2 i (by omega) hvi
  ·have jm:j=m:=by
    rcases cT j m with h | h
    ·exact absurd ⟨j,h,hv⟩ he
    ·omega
   subst jm;refine⟨j,by omega,hv,fun i hi hvi=>?_⟩;by_cases e:i=j
   ·subst e;exact cS _
   ·exact absurd ⟨i,by omega,hvi⟩ he
theorem vG{m:Nat}{As:List Vc}{u v:Vc}(hu:ja m As u)(vo:∀i,m≤i→v i=0)(ve:∀A∈As,gP m A v=0)(vp:∃j,j<m∧0<v j)(vs:∀i,u i=0→v i=0) :
  ∃k,k<m∧0<v k∧0<u k∧(∀i,0≤v k*u i - u k*v i)∧(∀i,m≤i→v k*u i - u k*v i=0)∧(∀A∈As,gP m A (fun i=>v k*u i - u k*v i)=0)∧cs m (fun i=>v k*u i - u k*v i)<cs m u:=by
 obtain⟨k,hk,h1,h2⟩:=Lk u v m vp;have uk:u k≠0:=fun z=>by rw[vs k z] at h1;exact absurd h1 (by decide)
 have uk0:0<u k:=by have:=hu.nn k;omega
 refine⟨k,hk,h1,uk0,fun i=>?_,fun i hi=>?_,fun A hA=>?_,?_⟩
 ·by_cases hi:i<m
  ·by_cases hv:0<v i
   ·have:=h2 i hi hv;rw[cq (v k)];omega
   ·have a:0≤v k*u i:=aO (az h1) (hu.nn i);have b:u k*v i≤0:=Int.mul_nonpos_of_nonneg_of_nonpos (az uk0) (by omega);omega
  ·rw[hu.out i (by omega),vo i (by omega)];simp
 ·rw[hu.out i hi,vo i hi];simp
 ·have:=nH (m:=m) (A:=A) (x:=u) (y:=v) (z:=fun i=>v k*u i - u k*v i) (s:=1) (a:=v k) (b:=-u k) (fun i=>by grind);rw[hu.eq A hA,ve A hA] at this;simpa using this
 ·refine Aw (fun i _ z=>?_) hk uk ?_
  ·rw[z,vs i z];simp
  ·rw[cq];omega
theorem vQ(m:Nat):∀(As:List Vc) (T:List Nat),T.Nodup→(∀t∈T,t<m)→As.length<T.length→∃v:Vc,(∃i,v i≠0)∧(∀i,i∉T→v i=0)∧∀A∈As,gP m A v=0
 | [],T,nd,ht,hl=>by
  cases T with
  | nil=>cases hl
  | cons t T=>refine⟨fun i=>if i=t then 1 else 0,⟨t,by simp⟩,fun i hi=>?_,fun A hA=>nomatch hA⟩;have:i≠t:=fun z=>hi (by simp[z]);simp[this]
 | A::As,T,nd,ht,hl=>by
  cases T with
  | nil=>cases hl
  | cons t T=>
   obtain⟨nd1,nd2⟩:=bD.mp nd;have hl':As.length<T.length:=by simp at hl;exact hl
   obtain⟨v1,⟨j,hj⟩,o1,e1⟩:=vQ m As T nd2 (fun x hx=>ht x (by simp[hx])) hl';have hjT:j∈T:=aN fun z=>hj (o1 j z);have lt2:As.length<((t::T).erase j).length:=by have hm:j∈t::T:=bg _ hjT;rw[cQ hm,ay];exact hl'
   obtain⟨v2,⟨k,hk⟩,o2,e2⟩:=vQ m As ((t::T).erase j) (nd.erase j) (fun x hx=>ht x (cU hx)) lt2;have v2j:v2 j=0:=o2 j (fun z=>by rw[List.Nodup.mem_erase_iff nd] at z;exact z.1 rfl);by_cases hA:gP m A v2=0
   ·exact⟨v2,⟨k,hk⟩,fun i hi=>o2 i (fun z=>hi (cU z)),fun B hB=>by
     rcases aE.mp hB with rfl | hB
     ·exact hA
     ·exact e2 B hB⟩
   ·refine⟨fun i=>gP m A v2*v1 i - gP m A v1*v2 i,⟨j,?_⟩,fun i hi=>?_,fun B hB=>?_⟩
    ·dsimp only;rw[v2j];simp[hA,hj]
    ·show gP m A v2*v1 i - gP m A v1*v2 i=0;rw[o1 i (fun z=>hi (by simp[z])),o2 i (fun z=>hi (cU z))];simp
    ·have:=nH (m:=m) (A:=B) (x:=v1) (y:=v2) (z:=fun i=>gP m A v2*v1 i - gP m A v1*v2 i) (s:=1) (a:=gP m A v2) (b:=-gP m A v1) (fun i=>by grind);rcases aE.mp hB with rfl | hB
     ·rw[cJ] at this;rw[this];grind
     ·rw[e1 B hB,e2 B hB] at this;simpa using this
def MW(m:Nat)(As:List Vc)(u:Vc):Prop:=ja m As u∧∀v,ja m As v→(∀i,u i=0→v i=0)→∀i,v i=0→u i=0
theorem HE{m:Nat}{As:List Vc}{u:Vc}(h:MW m As u):cs m u≤As.length+1:=by
 obtain⟨hu,hm⟩:=h;refine Nat.le_of_not_lt fun hlt=>?_;let S:=(List.range m).filter fun i=>decide (u i≠0);have hS:S.length=cs m u:=by show (List.filter _ _).length=_;unfold cs;rw[cV]
 have mS:∀i,i∈S↔i<m∧u i≠0:=fun i=>by show i∈List.filter _ _↔_;simp
 have ndS:S.Nodup:=List.Pairwise.filter _ cW;cases hSc:S with
 | nil=>rw[hSc] at hS;simp at hS;omega
 | cons t T=>
  rw[hSc] at hS ndS;simp only[ay] at hS;obtain⟨nd1,nd2⟩:=bD.mp ndS;have mT:∀i∈T,i<m∧u i≠0:=fun i hi=>(mS i).mp (by rw[hSc];simp[hi]);obtain⟨v0,⟨j,hj⟩,o0,e0⟩:=vQ m As T nd2 (fun i hi=>(mT i hi).1) (by omega);obtain⟨v,vo,ve,vp,vt⟩:∃v:Vc,(∀i,i∉T→v i=0)∧(∀A∈As,gP m A v=0)∧(∃j,j<m∧0<v j)∧v t=0:=by
   have hjT:j∈T:=aN fun z=>hj (o0 j z);by_cases hp:0<v0 j
   ·exact⟨v0,o0,e0,⟨j,(mT j hjT).1,hp⟩,o0 t nd1⟩
   ·refine⟨fun i=>-v0 i,fun i hi=>by show -v0 i=0;rw[o0 i hi];rfl,fun A hA=>?_,⟨j,(mT j hjT).1,by show 0 < -v0 j;omega⟩,by show -v0 t=0;rw[o0 t nd1];rfl⟩;have:=nH (m:=m) (A:=A) (x:=v0) (y:=v0) (z:=fun i=>-v0 i) (s:=1) (a:=-1) (b:=0) (fun i=>by grind);rw[e0 A hA] at this;simpa using this
  have tu:t<m∧u t≠0:=(mS t).mp (by rw[hSc];simp);obtain⟨k,hk,a1,a2,a3,a4,a5,a6⟩:=vG hu (fun i hi=>vo i (fun z=>by have:=(mT i z).1;omega)) ve vp (fun i z=>vo i (fun w=>(mT i w).2 z));have cn:ja m As (fun i=>v k*u i - u k*v i):=⟨a3,a4,⟨t,by rw[vt];simp;exact⟨by omega,tu.2⟩⟩,a5⟩;have uk:=hm _ cn (fun i z=>by rw[z,vo i (fun w=>(mT i w).2 z)];simp) k (by rw[cq];omega);omega
theorem Dx{m:Nat}{As Bs:List Vc}{u:Vc}(h:ja m Bs u)(hs:∀A∈As,A∈Bs):ja m As u:=⟨h.nn,h.out,h.ne,fun A hA=>h.eq A (hs A hA)⟩
inductive Cn(P:Vc→Prop):Vc→Prop
 | of {x:Vc}:P x→Cn P x
 | lin {x y z:Vc} {s a b:Int}:Cn P x→Cn P y→0<s→0≤a→0≤b→0<a+b→(∀i,s*z i=a*x i+b*y i)→Cn P z
theorem Cn.mono{P P':Vc→Prop}(h:∀x,P x→P' x){z:Vc}(q:Cn P z):Cn P' z:=by
 induction q with
 | of q=>exact .of (h _ q)
 | lin _ _ hs ha hb hab e i1 i2=>exact .lin i1 i2 hs ha hb hab e
theorem Cn.parts{P:Vc→Prop}(hP:∀x,P x→∀i,0≤x i){f:Vc→Int}(hf:∀x y z s a b,(∀i,s*z i=a*x i+b*y i)→s*f z=a*f x+b*f y){z:Vc}(h:Cn P z) :
  (∀i,0≤z i)∧(0<f z→∃g,P g∧(∀i,z i=0→g i=0)∧0<f g)∧(f z<0→∃g,P g∧(∀i,z i=0→g i=0)∧f g<0)∧
   (f z=0→(∃g,P g∧(∀i,z i=0→g i=0)∧f g=0)∨∃g g',P g∧P g'∧(∀i,z i=0→g i=0)∧(∀i,z i=0→g' i=0)∧0<f g∧f g'<0):=by
 induction h with
 | of h=>rename_i x;exact⟨hP _ h,fun q=>⟨x,h,fun _ z=>z,q⟩,fun q=>⟨x,h,fun _ z=>z,q⟩,fun q=>.inl ⟨x,h,fun _ z=>z,q⟩⟩
 | lin _ _ hs ha hb hab e i1 i2=>
  rename_i x y z s a b _ _;obtain⟨n1,p1,m1,z1⟩:=i1;obtain⟨n2,p2,m2,z2⟩:=i2;have q:=hf _ _ _ _ _ _ e;have nz:∀i,0≤z i:=fun i=>by
   have h1:=aO ha (n1 i);have h2:=aO hb (n2 i);have h3:0≤s*z i:=by rw[e i];omega
   exact Int.le_of_mul_le_mul_left (a:=s) (by simpa using h3) hs
  have sx:0<a→∀i,z i=0→x i=0:=fun ha' i zi=>by
   have:=e i;rw[zi,cL] at this;have h1:=aO ha (n1 i);have h2:=aO hb (n2 i);have h3:a*x i=0:=by omega
   rcases cN.mp h3 with h | h
   ·omega
   ·exact h
  have sy:0<b→∀i,z i=0→y i=0:=fun hb' i zi=>by
   have:=e i;rw[zi,cL] at this;have h1:=aO ha (n1 i);have h2:=aO hb (n2 i);have h3:b*y i=0:=by omega
   rcases cN.mp h3 with h | h
   ·omega
   ·exact h
  have up:∀{g w:Vc},(∀i,z i=0→w i=0)→(∀i,w i=0→g i=0)→∀i,z i=0→g i=0:=fun h1 h2 i zi=>h2 i (h1 i zi);have fa:0<a→(0<f x→0<a*f x)∧(f x<0→a*f x<0):=fun ha'=>⟨fun h=>aW ha' h,fun h=>cX ha' h⟩;have fb:0<b→(0<f y→0<b*f y)∧(f y<0→b*f y<0):=fun hb'=>⟨fun h=>aW hb' h,fun h=>cX hb' h⟩;have fs:(0<f z→0<s*f z)∧(f z<0→s*f z<0):=⟨fun h=>aW hs h,fun h=>cX hs h⟩;by_cases a0:a=0
  ·subst a0;have hb':0<b:=by omega
   rw[cO,Int.zero_add] at q;refine⟨nz,fun h=>?_,fun h=>?_,fun h=>?_⟩
   ·have h1:=fs.1 h;have h2:0<f y:=by
     rcases cY 0 (f y) with h3 | h3 | h3
     ·exact h3
     ·rw[←h3] at q;omega
     ·have:=(fb hb').2 h3;omega
    obtain⟨g,g1,g2,g3⟩:=p2 h2;exact⟨g,g1,up (sy hb') g2,g3⟩
   ·have h1:=fs.2 h;have h2:f y<0:=by
     rcases cY 0 (f y) with h3 | h3 | h3
     ·have:=(fb hb').1 h3;omega
     ·rw[←h3] at q;omega
     ·exact h3
    obtain⟨g,g1,g2,g3⟩:=m2 h2;exact⟨g,g1,up (sy hb') g2,g3⟩
   ·rw[h,cL] at q;have h2:f y=0:=by rcases cN.mp q.symm with h | h<;>omega
    rcases z2 h2 with⟨g,g1,g2,g3⟩ | ⟨g,g',g1,g2,g3,g4,g5⟩
    ·exact .inl ⟨g,g1,up (sy hb') g2,g3⟩
    ·exact .inr ⟨g,g',g1,g2,up (sy hb') g3,up (sy hb') g4,g5⟩
  ·have ha':0<a:=by omega
   by_cases b0:b=0
   ·subst b0;rw[cO,Int.add_zero] at q;refine⟨nz,fun h=>?_,fun h=>?_,fun h=>?_⟩
    ·have h1:=fs.1 h;have h2:0<f x:=by
      rcases cY 0 (f x) with h3 | h3 | h3
      ·exact h3
      ·rw[←h3] at q;omega
      ·have:=(fa ha').2 h3;omega
     obtain⟨g,g1,g2,g3⟩:=p1 h2;exact⟨g,g1,up (sx ha') g2,g3⟩
    ·have h1:=fs.2 h;have h2:f x<0:=by
      rcases cY 0 (f x) with h3 | h3 | h3
      ·have:=(fa ha').1 h3;omega
      ·rw[←h3] at q;omega
      ·exact h3
     obtain⟨g,g1,g2,g3⟩:=m1 h2;exact⟨g,g1,up (sx ha') g2,g3⟩
    ·rw[h,cL] at q;have h2:f x=0:=by rcases cN.mp q.symm with h | h<;>omega
     rcases z1 h2 with⟨g,g1,g2,g3⟩ | ⟨g,g',g1,g2,g3,g4,g5⟩
     ·exact .inl ⟨g,g1,up (sx ha') g2,g3⟩
     ·exact .inr ⟨g,g',g1,g2,up (sx ha') g3,up (sx ha') g4,g5⟩
   ·have hb':0<b:=by omega
    have A1:=fa ha';have B1:=fb hb';have a00:f x=0→a*f x=0:=fun h=>by rw[h,cL]
    have b00:f y=0→b*f y=0:=fun h=>by rw[h,cL]
    refine⟨nz,fun h=>?_,fun h=>?_,fun h=>?_⟩
    ·have h1:=fs.1 h;by_cases hx:0<f x
     ·obtain⟨g,g1,g2,g3⟩:=p1 hx;exact⟨g,g1,up (sx ha') g2,g3⟩
     ·have hy:0<f y:=by
       rcases cY 0 (f y) with h3 | h3 | h3
       ·exact h3
       ·have:=b00 h3.symm;rcases cY 0 (f x) with h4 | h4 | h4
        ·omega
        ·have:=a00 h4.symm;omega
        ·have:=A1.2 h4;omega
       ·have:=B1.2 h3;rcases cY 0 (f x) with h4 | h4 | h4
        ·omega
        ·have:=a00 h4.symm;omega
        ·have:=A1.2 h4;omega
      obtain⟨g,g1,g2,g3⟩:=p2 hy;exact⟨g,g1,up (sy hb') g2,g3⟩
    ·have h1:=fs.2 h;by_cases hx:f x<0
     ·obtain⟨g,g1,g2,g3⟩:=m1 hx;exact⟨g,g1,up (sx ha') g2,g3⟩
     ·have hy:f y<0:=by
       rcases cY 0 (f y) with h3 | h3 | h3
       ·have:=B1.1 h3;rcases cY 0 (f x) with h4 | h4 | h4
        ·have:=A1.1 h4;omega
        ·have:=a00 h4.symm;omega
        ·omega
       ·have:=b00 h3.symm;rcases cY 0 (f x) with h4 | h4 | h4
        ·have:=A1.1 h4;omega
        ·have:=a00 h4.symm;omega
        ·omega
       ·exact h3
      obtain⟨g,g1,g2,g3⟩:=m2 hy;exact⟨g,g1,up (sy hb') g2,g3⟩
    ·rw[h,cL] at q;rcases cY 0 (f x) with h4 | h4 | h4
     ·have h5:=A1.1 h4;have hy:f y<0:=by
       rcases cY 0 (f y) with h3 | h3 | h3
       ·have:=B1.1 h3;omega
       ·have:=b00 h3.symm;omega
       ·exact h3
      obtain⟨g,g1,g2,g3⟩:=p1 h4;obtain⟨k,k1,k2,k3⟩:=m2 hy;exact .inr ⟨g,k,g1,k1,up (sx ha') g2,up (sy hb') k2,g3,k3⟩
     ·rcases z1 h4.symm with⟨g,g1,g2,g3⟩ | ⟨g,g',g1,g2,g3,g4,g5⟩
      ·exact .inl ⟨g,g1,up (sx ha') g2,g3⟩
      ·exact .inr ⟨g,g',g1,g2,up (sx ha') g3,up (sx ha') g4,g5⟩
     ·have h5:=A1.2 h4;have hy:0<f y:=by
       rcases cY 0 (f y) with h3 | h3 | h3
       ·exact h3
       ·have:=b00 h3.symm;omega
       ·have:=B1.2 h3;omega
      obtain⟨g,g1,g2,g3⟩:=m1 h4;obtain⟨k,k1,k2,k3⟩:=p2 hy;exact .inr ⟨k,g,k1,g1,up (sy hb') k2,up (sx ha') g2,k3,g3⟩
theorem EJ{m:Nat}{As:List Vc}{u z:Vc}(hu:MW m As u)(hz:ja m As z)(hs:∀i,u i=0→z i=0):∃s a:Int,0<s∧0<a∧∀i,s*u i=a*z i:=by
 obtain⟨j,hj⟩:=hz.ne;have jm:j<m:=by
  rcases cT j m with h | h
  ·exact h
  ·exact absurd (hz.out j h) hj
 have jp:0<z j:=by have:=hz.nn j;omega
 obtain⟨k,hk,a1,a2,a3,a4,a5,a6⟩:=vG hu.1 hz.out hz.eq ⟨j,jm,jp⟩ hs;refine⟨z k,u k,a1,a2,fun i=>?_⟩;refine aN fun hne=>?_;have cn:ja m As (fun i=>z k*u i - u k*z i):=⟨a3,a4,⟨i,by omega⟩,a5⟩;have:=hu.2 _ cn (fun i z=>by rw[z,hs i z];simp) k (by rw[cq];omega);omega
theorem ML(m:Nat)(A:Vc):∀(x y z:Vc) (s a b:Int),(∀i,s*z i=a*x i+b*y i)→s*gP m A z=a*gP m A x+b*gP m A y:=fun _ _ _ _ _ _ h=>nH h
theorem LR{m:Nat}{As:List Vc}{A:Vc}{P P':Vc→Prop}(hP:∀x,P x→ja m As x)(gen:∀u,ja m As u→Cn P u)(h0:∀x,P x→gP m A x=0→P' x)
  (h1:∀x y,P x→P y→0<gP m A x→gP m A y<0→cs m (fun i=>(-gP m A y)*x i+gP m A x*y i)≤As.length+2→P' (fun i=>(-gP m A y)*x i+gP m A x*y i)) :
  ∀(n:Nat) (u:Vc),cs m u≤n→ja m (A::As) u→Cn P' u:=by
 intro n;induction n with
 | zero=>
  intro u hn hu;obtain⟨i,hi⟩:=hu.ne;have im:i<m:=by
   rcases cT i m with h | h
   ·exact h
   ·exact absurd (hu.out i h) hi
  have:=Aw (m:=m) (u:=fun _=>0) (v:=u) (fun _ _ _=>rfl) im hi rfl;omega
 | succ n ih=>
  intro u hn hu;by_cases hm:MW m (A::As) u
  ·have hu':ja m As u:=Dx hu fun B hB=>by simp[hB]
   have hz:∃z,P' z∧ja m (A::As) z∧∀i,u i=0→z i=0:=by
    obtain⟨_,_,_,hp⟩:=(gen u hu').parts (fun x hx=>(hP x hx).nn) (ML m A);rcases hp (hu.eq A (by simp)) with⟨g,g1,g2,g3⟩ | ⟨g,g',g1,g2,g3,g4,g5,g6⟩
    ·exact⟨g,h0 g g1 g3,⟨(hP g g1).nn,(hP g g1).out,(hP g g1).ne,fun B hB=>by
      rcases aE.mp hB with rfl | hB
      ·exact g3
      ·exact (hP g g1).eq B hB⟩,g2⟩
    ·have c1:=hP g g1;have c2:=hP g' g2;have lin:∀B,gP m B (fun i=>(-gP m A g')*g i+gP m A g*g' i)=(-gP m A g')*gP m B g+gP m A g*gP m B g':=fun B=>by have:=nH (m:=m) (A:=B) (x:=g) (y:=g') (z:=fun i=>(-gP m A g')*g i+gP m A g*g' i) (s:=1) (a:=-gP m A g') (b:=gP m A g) (fun i=>by grind);simpa using this
     have p1:0 < -gP m A g':=by omega
     obtain⟨j,hj⟩:=c1.ne;have cz:ja m (A::As) (fun i=>(-gP m A g')*g i+gP m A g*g' i):=by
      refine⟨fun i=>?_,fun i hi=>?_,⟨j,?_⟩,fun B hB=>?_⟩
      ·have x1:=aO (az p1) (c1.nn i);have x2:=aO (az g5) (c2.nn i);omega
      ·rw[c1.out i hi,c2.out i hi];simp
      ·have gj:0<g j:=by have:=c1.nn j;omega
       have x1:=aW p1 gj;have x2:=aO (az g5) (c2.nn j);omega
      ·rw[lin B];rcases aE.mp hB with rfl | hB
       ·grind
       ·rw[c1.eq B hB,c2.eq B hB];simp
     have sz:∀i,u i=0→(-gP m A g')*g i+gP m A g*g' i=0:=fun i hi=>by rw[g3 i hi,g4 i hi];simp
     refine⟨_,h1 g g' g1 g2 g5 g6 ?_,cz,sz⟩;have f1:=HE hm;have f2:cs m (fun i=>(-gP m A g')*g i+gP m A g*g' i)≤cs m u:=Oo fun i _ z=>sz i z;simp only[ay] at f1;omega
   obtain⟨z,pz,cz,sz⟩:=hz;obtain⟨s,a,hs,ha,e⟩:=EJ hm cz sz;exact .lin (.of pz) (.of pz) hs (az ha) (cS 0) (by omega) fun i=>by rw[e i];simp
  ·obtain⟨v,hv,vs,k,vk,uk⟩:∃v,ja m (A::As) v∧(∀i,u i=0→v i=0)∧∃k,v k=0∧u k≠0:=by refine aN fun hne=>hm ⟨hu,fun v hv vs i vi=>aN fun ui=>hne ⟨v,hv,vs,i,vi,ui⟩⟩
   have km:k<m:=by
    rcases cT k m with h | h
    ·exact h
    ·exact absurd (hu.out k h) uk
   obtain⟨j,hj⟩:=hv.ne;have jm:j<m:=by
    rcases cT j m with h | h
    ·exact h
    ·exact absurd (hv.out j h) hj
   have jp:0<v j:=by have:=hv.nn j;omega
   obtain⟨t,ht,a1,a2,a3,a4,a5,a6⟩:=vG hu hv.out hv.eq ⟨j,jm,jp⟩ vs;have kp:0<u k:=by have:=hu.nn k;omega
   have cn:ja m (A::As) (fun i=>v t*u i - u t*v i):=⟨a3,a4,⟨k,by rw[vk];simp;exact⟨by omega,uk⟩⟩,a5⟩;have l1:=Aw (m:=m) (u:=v) (v:=u) (fun i _ z=>vs i z) km uk vk;exact .lin (ih _ (by omega) cn) (ih v (by omega) hv) a1 (by decide:(0:Int)≤1) (az a2) (by omega) fun i=>by grind
end CL
namespace CL
open PySem L2 L3
variable {c:Cs}
def qv(p:Int×Int):Rat:=(p.1:Rat) / (p.2:Rat)
structure GF(A B:Nat)(p:Int×Int):Prop where
 pos:0<p.2
 one:Cu.G p.1 p.2=1
 b1:Bn A p.1
 b2:Bn B p.2
theorem GF.mono{A B A' B':Nat}{p:Int×Int}(h:GF A B p)(h1:A≤A')(h2:B≤B'):GF A' B' p:=⟨h.pos,h.one,h.b1.mono h1,h.b2.mono h2⟩
theorem pA{i:Int}(h:0<i):(0:Rat)<(i:Rat):=by have:=(Rat.intCast_lt_intCast (a:=0) (b:=i)).mpr h;simpa using this
theorem JE{i:Int}(h:i≠0):(i:Rat)≠0:=fun z=>by
 have e:(i:Rat)=((0:Int):Rat):=by simpa using z
 exact h (Rat.intCast_inj.mp e)
theorem FF(a:Int):Cu.G a 1=1:=by simp[Cu.G]
@[simp] theorem l7(p:Int×Int):fV (fr p) (.int 0)=.ok (.int p.1):=rfl
@[simp] theorem kH(p:Int×Int):fV (fr p) (.int 1)=.ok (.int p.2):=rfl
theorem uR(A B:Nat)(t b:Int)(hb:b≠0)(h1:Bn A t)(h2:Bn B b)(hB:B≤8000):∃p,oR c [.int t,.int b]=.ok (fr p)∧GF A B p∧qv p=(t:Rat) / (b:Rat):=by
 have hG:=Cu.KW t b hb;have hle:=Cu.N6 t b hb;have hsm:∀x:Int,Builtin.divisionGoesByPylong x (if b<0 then -Cu.G t b else Cu.G t b)=false:=fun x=>by refine Bn.noPy (n:=B) ?_ hB;unfold Bn at *;refine bT ?_ h2;split<;>omega
 have hn:(if b<0 then -Cu.G t b else Cu.G t b)≠0:=by split<;>omega
 have hd1:(if b<0 then -Cu.G t b else Cu.G t b) ∣ t:=by split<;>first | exact Int.neg_dvd.mpr (Cu.nQ t b) | exact Cu.nQ t b
 have hd2:(if b<0 then -Cu.G t b else Cu.G t b) ∣ b:=by split<;>first | exact Int.neg_dvd.mpr (Cu.kU t b) | exact Cu.kU t b
 have hl:=Cu.Ip t b hb;refine⟨(t.fdiv (if b<0 then -Cu.G t b else Cu.G t b),b.fdiv (if b<0 then -Cu.G t b else Cu.G t b)),fw rfl (d8 (fz (eK (dZ rfl rfl (by rw[fS];simp[hb]))) rfl) (d8 (eG (fX rfl rfl (mI t b)) rfl) (d8 (ρ':=[some (.p (.int t)),some (.p (.int b)),some (.p (.int (if b<0 then -Cu.G t b else Cu.G t b)))]) ?_ (eN (nt (dZ rfl rfl (my hn (hsm t))) (dZ rfl rfl (my hn (hsm b)))))))),⟨hl.pos,hl.one,bT (yl hd1 hn) h1,bT (yl hd2 hn) h2⟩,?_⟩
 ·by_cases h:b<0
  ·exact fG (eK (dZ rfl rfl (by rw[nE];simp[h]))) (eG (t:=.int (-Cu.G t b)) (uH rfl) (by simp[h]))
  ·exact fz (eK (dZ rfl rfl (by rw[nE];simp[h]))) (by simp[h])
 ·have e:=hl.is;generalize t.fdiv (if b<0 then -Cu.G t b else Cu.G t b)=x at *;generalize hy:b.fdiv (if b<0 then -Cu.G t b else Cu.G t b)=y at *;have hp:0<y:=hl.pos;have e':(x:Rat)*(b:Rat)=(t:Rat)*(y:Rat):=by rw[←cZ,←cZ,e]
  have n1:=JE hb;have n2:(y:Rat)≠0:=JE (by omega);show (x:Rat) / (y:Rat)=_;grind
theorem DS{A B A' B':Nat}{p r:Int×Int}(hp:GF A B p)(hr:GF A' B' r)(hB:B+B'≤8000)(hA:A≤20000)(hA':A'≤20000):∃s,uq c [fr p,fr r]=.ok (fr s)∧GF (max (A+B') (A'+B)+1) (B+B') s∧qv s=qv p - qv r:=by have hpp:=hp.pos;have hrp:=hr.pos;obtain⟨s,e,g,q⟩:=uR (c:=c) (max (A+B') (A'+B)+1) (B+B') (p.1*r.2 - r.1*p.2) (p.2*r.2) (c6 (by omega) (by omega)) ((hp.b1.mul hr.b2).sub (hr.b1.mul hp.b2)) (hp.b2.mul hr.b2) hB;refine⟨s,fw rfl (eN (fX (dZ (dZ (dZ rfl rfl (l7 p)) (dZ rfl rfl (kH r)) (gz (hp.b1.ok hr.b2 (by omega) (by omega)))) (dZ (dZ rfl rfl (l7 r)) (dZ rfl rfl (kH p)) (gz (hr.b1.ok hp.b2 (by omega) (by omega)))) (jB _ _)) (dZ (dZ rfl rfl (kH p)) (dZ rfl rfl (kH r)) (gz (hp.b2.ok hr.b2 (by omega) (by omega)))) e)),g,?_⟩;rw[q];have n1:(p.2:Rat)≠0:=JE (by omega);have n2:(r.2:Rat)≠0:=JE (by omega);unfold qv;simp only[Rat.intCast_sub,cZ];grind
theorem Bw{N A B:Nat}{k:Int}{r:Int×Int}(hk:Bn N k)(hr:GF A B r)(hB:B≤8000)(hN:N≤20000)(hA:A≤20000):∃s,ue c [fr (k,1),fr r]=.ok (fr s)∧GF (N+A) B s∧qv s=(k:Rat)*qv r:=by have hrp:=hr.pos;obtain⟨s,e,g,q⟩:=uR (c:=c) (N+A) B (k*r.1) (1*r.2) (by omega) (hk.mul hr.b1) (by rw[cJ];exact hr.b2) hB;refine⟨s,fw rfl (eN (fX (dZ (dZ rfl rfl (l7 (k,1))) (dZ rfl rfl (l7 r)) (gz (hk.ok hr.b1 (by omega) (by omega)))) (dZ (dZ rfl rfl (kH (k,1))) (dZ rfl rfl (kH r)) (gz (r9 (show (1:Int).natAbs<2 ^ 64 by decide)))) e)),g,?_⟩;rw[q,cJ];have n2:(r.2:Rat)≠0:=JE (by omega);unfold qv;simp only[cZ];grind
theorem xT{N A B:Nat}{k:Int}{r:Int×Int}(h0:k≠0)(hk:Bn N k)(hr:GF A B r)(hB:B+N≤8000)(hA:A≤20000):∃s,qi c [fr r,fr (k,1)]=.ok (fr s)∧GF A (B+N) s∧qv s=qv r / (k:Rat):=by have hrp:=hr.pos;obtain⟨s,e,g,q⟩:=uR (c:=c) A (B+N) (r.1*1) (r.2*k) (c6 (by omega) h0) (by rw[Int.mul_one];exact hr.b1) (hr.b2.mul hk) hB;refine⟨s,fw rfl (d8 (fz (eK (dZ (dZ rfl rfl (l7 (k,1))) rfl (by rw[fS];simp[h0]))) rfl) (eN (fX (dZ (dZ rfl rfl (l7 r)) (dZ rfl rfl (kH (k,1))) (gz (qj (show (1:Int).natAbs<2 ^ 64 by decide)))) (dZ (dZ rfl rfl (kH r)) (dZ rfl rfl (l7 (k,1))) (gz (hr.b2.ok hk (by omega) (by omega)))) e))),g,?_⟩;rw[q,Int.mul_one];have n1:=JE h0;have n2:(r.2:Rat)≠0:=JE (by omega);unfold qv;simp only[cZ];grind
theorem Df{p r:Int×Int}(hp:0<p.2)(hr:0<r.2):qv p<qv r↔p.1*r.2<r.1*p.2:=by
 have a:=pA hp;have b:=pA hr;have n1:(p.2:Rat)≠0:=JE (by omega);have n2:(r.2:Rat)≠0:=JE (by omega);have e1:qv p*((p.2:Rat)*(r.2:Rat))=((p.1*r.2:Int):Rat):=by unfold qv;rw[cZ];grind
 have e2:qv r*((p.2:Rat)*(r.2:Rat))=((r.1*p.2:Int):Rat):=by unfold qv;rw[cZ];grind
 have ab:=c7 a b;rw[←Rat.intCast_lt_intCast,←e1,←e2];exact⟨fun h=>c8 h ab,fun h=>c9 h (dc ab)⟩
theorem uW{p r:Int×Int}(hp:0<p.2)(hr:0<r.2)(m1:IntMulOk p.1 r.2)(m2:IntMulOk r.1 p.2):je c [fr p,fr r]=.ok (.bl (decide (qv p<qv r))):=by
 refine fw rfl (eN (dZ (dZ (dZ rfl rfl (l7 p)) (dZ rfl rfl (kH r)) (gz m1)) (dZ (dZ rfl rfl (l7 r)) (dZ rfl rfl (kH p)) (gz m2)) ?_));rw[nE];have:=Df hp hr;by_cases h:p.1*r.2<r.1*p.2
 ·rw[aB h,aB (this.mpr h)]
 ·rw[aA h,aA (fun z=>h (this.mp z))]
def nb(x:Int):Nat:=x.natAbs.log2+1
theorem KU(x:Int):Bn (nb x) x:=Nat.lt_log2_self
theorem Dm{E:Nat}{x:Int}(h:Bn E x)(hE:1≤E):nb x≤E:=by
 unfold nb Bn at *;by_cases h0:x.natAbs=0
 ·rw[h0];simp;exact hE
 ·have:=(Nat.log2_lt h0).mpr h;omega
def wt(p:Int×Int):Nat:=max (nb p.1) (nb p.2)
def lp(s:List (Int×Int)):Nat:=(s.map wt).sum
structure Fq(p:Int×Int):Prop where
 pos:0<p.2
 one:Cu.G p.1 p.2=1
theorem Fq.gf{p:Int×Int}(h:Fq p):GF (wt p) (wt p) p:=⟨h.pos,h.one,(KU _).mono (Nat.le_max_left _ _),(KU _).mono (Nat.le_max_right _ _)⟩
theorem GF.fq{A B:Nat}{p:Int×Int}(h:GF A B p):Fq p:=⟨h.pos,h.one⟩
theorem GF.wt{A B E:Nat}{p:Int×Int}(h:GF A B p)(h1:A≤E)(h2:B≤E)(h3:1≤E):wt p≤E:=Nat.max_le.mpr ⟨Dm (h.b1.mono h1) h3,Dm (h.b2.mono h2) h3⟩
def Pg(p:Int×(Int×Int)):T:=.tup [.int p.1,fr p.2]
theorem xi(x0 x1:Option W)(N:Nat)(hN:N≤8000):∀(ps:List (Int×(Int×Int))) (left:Int×Int) (B j:Nat) (x3 x4:Option W),j+ps.length≤100→(∀p∈ps,Bn N p.1∧Fq p.2)→B+lp (ps.map Prod.snd)≤8000→GF (N+B+j) B left→
  ∃(s:Int×Int) (y3 y4:Option W),iA (kL 2 (gy (iK 3) (gy (iK 4) k9))) (oN c) (ps.map Pg) [x0,x1,some (.p (fr left)),x3,x4]=.nx [x0,x1,some (.p (fr s)),y3,y4]∧GF (N+(B+lp (ps.map Prod.snd))+(j+ps.length)) (B+lp (ps.map Prod.snd)) s∧
   qv s=qv left - (ps.map fun p=>(p.1:Rat)*qv p.2).sum
 | [],left,B,j,x3,x4,_,_,_,hg=>⟨left,x3,x4,rfl,by simpa[lp] using hg,by simp;grind⟩
 | p::ps,left,B,j,x3,x4,hj,hp,hB,hg=>by
  obtain⟨h1,h2⟩:=hp p (by simp);have hB':B+wt p.2+lp (ps.map Prod.snd)≤8000:=by simp[lp] at hB ⊢;omega
  obtain⟨t,e1,g1,q1⟩:=Bw (c:=c) h1 h2.gf (by omega) (by omega) (by omega);simp at hj;obtain⟨l2,e2,g2,q2⟩:=DS (c:=c) hg g1 (by omega) (by omega) (by omega);have g3:GF (N+(B+wt p.2)+(j+1)) (B+wt p.2) l2:=g2.mono (by omega) (by omega);obtain⟨s,y3,y4,e,g,q⟩:=xi x0 x1 N hN ps l2 (B+wt p.2) (j+1) (some (.p (.int p.1))) (some (.p (fr p.2))) (by omega) (fun r hr=>hp r (by simp[hr])) hB' g3;refine⟨s,y3,y4,?_,?_,?_⟩
  ·rw[bx,iA];have s1:(kL 2 (gy (iK 3) (gy (iK 4) k9))) (Pg p) [x0,x1,some (.p (fr left)),x3,x4]=some [x0,x1,some (.p (fr left)),some (.p (.int p.1)),some (.p (fr p.2))]:=rfl;rw[s1];have s2:oN c [x0,x1,some (.p (fr left)),some (.p (.int p.1)),some (.p (fr p.2))]=.nx [x0,x1,some (.p (fr l2)),some (.p (.int p.1)),some (.p (fr p.2))]:=eG (fX (x:=fr left) (y:=fr t) rfl (fX (x:=fr (p.1,1)) (y:=fr p.2) (nt rfl rfl) rfl e1) e2) rfl;dsimp only;rw[s2];exact e
  ·have e1:B+wt p.2+lp (ps.map Prod.snd)=B+lp ((p::ps).map Prod.snd):=by simp[lp];omega
   rw[e1] at g;exact g.mono (by simp;omega) (aJ _)
  ·rw[q,q2,q1];simp only[bx,List.sum_cons];grind
def Hl(row:List Int)(s:List (Int×Int)):Rat:=((row.zip s).map fun p=>(p.1:Rat)*qv p.2).sum
theorem sY(N:Nat)(hN:N≤8000)(h1:1≤N)(row:List Int)(s:List (Int×Int))(hl:s.length<row.length)(hs:s.length≤10)(hb:∀x∈row,Bn N x)(hq:∀p∈s,Fq p)(hB:1+lp s≤8000) :
  ∃r,jM c [tI row,.lst (s.map fr)]=.ok (fr r)∧GF (N+lp s+20) (1+lp s) r∧qv r=(vc row s.length:Rat) - Hl row s:=by
 have sz:1000<sizeLine:=by decide
 have ix:fV (tI row) (.int (s.length:Int))=.ok (.int (vc row s.length)):=iB row s.length hl;have em:(row.zip s).map Prod.snd=s:=by rw[List.map_snd_zip];omega
 have hc:Bn N (vc row s.length):=hb _ (jA row s.length hl);obtain⟨r,y3,y4,e,g,q⟩:=xi (c:=c) (some (.p (tI row))) (some (.p (.lst (s.map fr)))) N hN (row.zip s) (vc row s.length,1) 1 0 none none (by simp;omega) (fun p hp=>⟨hb _ (aV hp).1,hq _ (aV hp).2⟩) (by rw[em];exact hB) ⟨show (0:Int)<1 by decide,FF _,hc.mono (by omega),show Bn 1 1 by unfold Bn;decide⟩;rw[em] at g;refine⟨r,fw rfl (d8 (eG (t:=fr (vc row s.length,1)) (nt (dZ rfl (lD (t:=.lst (s.map fr)) (r:=.ok (.int (s.length:Int))) rfl (by simp)) ?_) rfl) rfl) (d8 (gN (mw (f:=T.int) (g:=fr) rfl rfl rfl rfl) e) (eN rfl))),g.mono (by simp;omega) (aJ _),?_⟩
 ·exact ix
 ·rw[q];unfold Hl;have:qv (vc row s.length,1)=(vc row s.length:Rat):=by unfold qv;simp;grind
  rw[this]
def oT:Option (Int×Int)→T
 | none=>.non
 | some p=>fr p
def m7(lo:Option (Int×Int))(q:Rat):Prop:=∀p,lo=some p→qv p<q
def m8(hi:Option (Int×Int))(q:Rat):Prop:=∀r,hi=some r→q<qv r
def IR:Option (Int×Int)→Int
 | some r=>if r.1≤0 then -((-r.1).fdiv r.2) - 1 else 0
 | none=>0
def wb(lo hi:Option (Int×Int)):Int:=match lo with
 | some p=>if 0≤p.1 then p.1.fdiv p.2+1 else IR hi
 | none=>IR hi
instance (lo:Option (Int×Int)) (q:Rat):Decidable (m7 lo q):=match lo with
 | none=>.isTrue fun _ h=>nomatch h
 | some p=>if h:qv p<q then .isTrue fun r e=>by cases e;exact h else .isFalse fun z=>h (z p rfl)
instance (hi:Option (Int×Int)) (q:Rat):Decidable (m8 hi q):=match hi with
 | none=>.isTrue fun _ h=>nomatch h
 | some p=>if h:q<qv p then .isTrue fun r e=>by cases e;exact h else .isFalse fun z=>h (z p rfl)
def FC(lo hi:Option (Int×Int)):T:=if m7 lo (wb lo hi:Rat)∧m8 hi (wb lo hi:Rat) then .int (wb lo hi) else .non
def Oe(E:Nat)(o:Option (Int×Int)):Prop:=∀p,o=some p→0<p.2∧Bn E p.1∧Bn E p.2
theorem Ew(i:Int):qv (i,1)=(i:Rat):=by unfold qv;simp;grind
theorem pP(a b:Int)(hb:0<b):a.fdiv b*b≤a∧a<(a.fdiv b+1)*b:=by
 have e:=Int.fmod_def a b;have h1:=cg a hb;have h2:=cj a hb;have h3:b*a.fdiv b=a.fdiv b*b:=cq _ _;constructor
 ·omega
 ·have h4:(a.fdiv b+1)*b=a.fdiv b*b+b:=by grind
  omega
theorem ym(a b:Int)(hb:0<b):(a.fdiv b).natAbs≤a.natAbs:=by
 obtain⟨h1,h2⟩:=pP a b hb;rcases Int.le_total 0 a with h | h
 ·have h3:0≤a.fdiv b:=de h (az hb);have h4:a.fdiv b≤a.fdiv b*b:=by have:=df (show (1:Int)≤b by omega) h3;omega
  omega
 ·have h3:a.fdiv b+1≤1:=by
   refine dg.mp fun z=>?_;have h4:1≤a.fdiv b:=by omega
   have:=aI h4 (az hb);omega
  have h5:a.fdiv b≤0:=by omega
  by_cases h0:a=0
  ·subst h0;simp
  ·have h6:a≤a.fdiv b:=by
    refine dg.mp fun z=>?_;have h7:a.fdiv b+1≤a:=by omega
    have h8:(a.fdiv b+1)*b≤a*b:=aI h7 (az hb);have h9:a*b≤a*1:=Int.mul_le_mul_of_nonpos_left h (by omega);omega
   omega
theorem Ld{E:Nat}{lo hi:Option (Int×Int)}(h1:Oe E lo)(h2:Oe E hi):(wb lo hi).natAbs<2 ^ E+1:=by
 have p0:0<2 ^ E:=cI E;have hh:(IR hi).natAbs<2 ^ E+1:=by
  cases e:hi with
  | none=>simp[IR]
  | some r=>
   obtain⟨a,b,_⟩:=h2 r e;show (if r.1≤0 then -((-r.1).fdiv r.2) - 1 else (0:Int)).natAbs<2 ^ E+1;split
   ·have:=ym (-r.1) r.2 a;unfold Bn at b;rw[cD] at this;omega
   ·simp
 unfold wb;cases e:lo with
 | none=>exact hh
 | some p=>
  obtain⟨a,b,_⟩:=h1 p e;dsimp only;split
  ·have:=ym p.1 p.2 a;unfold Bn at b;omega
  ·exact hh
theorem og(neg:Bool)(o:Option (Int×Int)):iV neg (oT o) .non=.ok (.bl (if neg then o.isSome else o.isNone)):=by cases o<;>cases neg<;>rfl
theorem KH{E:Nat}{p:Int×Int}{i:Int}(hp:0<p.2∧Bn E p.1∧Bn E p.2)(hE:E≤8000)(hi:Bn (E+1) i):je c [fr p,fr (i,1)]=.ok (.bl (decide (qv p<(i:Rat)))):=by have:=uW (c:=c) (p:=p) (r:=(i,1)) hp.1 (by decide:(0:Int)<1) (hp.2.1.ok (n:=1) (show Bn 1 1 by unfold Bn;decide) (by omega) (by omega)) (hi.ok hp.2.2 (by omega) (by omega));rw[Ew] at this;exact this
theorem JY{E:Nat}{p:Int×Int}{i:Int}(hp:0<p.2∧Bn E p.1∧Bn E p.2)(hE:E≤8000)(hi:Bn (E+1) i):je c [fr (i,1),fr p]=.ok (.bl (decide ((i:Rat)<qv p))):=by have:=uW (c:=c) (p:=(i,1)) (r:=p) (by decide:(0:Int)<1) hp.1 (hi.ok hp.2.2 (by omega) (by omega)) (hp.2.1.ok (n:=1) (show Bn 1 1 by unfold Bn;decide) (by omega) (by omega));rw[Ew] at this;exact this
theorem qq{ρ:Pe}{fc fd:Pe→M Bool}(h:fc ρ=.ok false):kJ fc fd ρ=.ok false:=by simp only[L3.kJ,h,M.bind_ok];rfl
theorem jX{ρ:Pe}{fc fd:Pe→M Bool}{b:Bool}(h:fc ρ=.ok true)(h2:fd ρ=.ok b):kJ fc fd ρ=.ok b:=by simp only[L3.kJ,h,h2,M.bind_ok];rfl
theorem Hm{ρ:Pe}{fc:Pe→M Bool}{b:Bool}(h:fc ρ=.ok b):j8 fc ρ=.ok (!b):=by simp only[L3.j8,h,M.bind_ok]
theorem Ho{E:Nat}{p:Int×Int}(hp:0<p.2∧Bn E p.1∧Bn E p.2)(hE:E≤8000):jG c [fr p]=.ok (.int (p.1.fdiv p.2)):=by have:=hp.1;exact fw rfl (eN (dZ (dZ rfl rfl (l7 p)) (dZ rfl rfl (kH p)) (my (by omega) (hp.2.2.noPy hE))))
theorem OK{E:Nat}{p:Int×Int}(hp:0<p.2∧Bn E p.1∧Bn E p.2)(hE:E≤8000):jt c [fr p]=.ok (.int (-((-p.1).fdiv p.2))):=by have:=hp.1;exact fw rfl (eN (uH (dZ (uH (dZ rfl rfl (l7 p))) (dZ rfl rfl (kH p)) (my (by omega) (hp.2.2.noPy hE)))))
theorem ni(E:Nat)(hE:E≤8000)(lo hi:Option (Int×Int))(h1:Oe E lo)(h2:Oe E hi):iM c [oT lo,oT hi]=.ok (FC lo hi):=by
 have hw:=Ld h1 h2;have bw:Bn (E+1) (wb lo hi):=by unfold Bn;have:0<2 ^ E:=cI E;rw[cC];omega
 let R (w:Option W):En:=[some (.p (oT lo)),some (.p (oT hi)),w];have s1:setO 2 (gE (cM (.int 0))) (R none)=.nx (R (some (.p (.int 0)))):=eG (t:=.int 0) rfl rfl;have lead:jy (kJ (fN (eC (iV true) (dQ 0) (cM .non))) (fN (eC K5 (eC fV (dQ 0) (cM (.int 0))) (cM (.int 0))))) (setO 2 (gE (eC gB (eD (dP (dQ 0) dW) (jG c)) (cM (.int 1))))) (jy (kJ (fN (eC (iV true) (dQ 1) (cM .non))) (fN (eC HL (eC fV (dQ 1) (cM (.int 0))) (cM (.int 0))))) (setO 2 (gE (eC mV (eD (dP (dQ 1) dW) (jt c)) (cM (.int 1))))) fF) (R (some (.p (.int 0))))=.nx (R (some (.p (.int (wb lo hi))))):=by
  have hiP:∀w',(w'=IR hi)→(jy (kJ (fN (eC (iV true) (dQ 1) (cM .non))) (fN (eC HL (eC fV (dQ 1) (cM (.int 0))) (cM (.int 0))))) (setO 2 (gE (eC mV (eD (dP (dQ 1) dW) (jt c)) (cM (.int 1))))) fF) (R (some (.p (.int 0))))=.nx (R (some (.p (.int w')))):=fun w' hw'=>by
   cases e:hi with
   | none=>rw[e,IR] at hw';subst hw';exact fz (qq (eK (dZ rfl rfl (by show iV true (oT hi) .non=_;rw[og,e];rfl)))) rfl
   | some r=>
    rw[e,IR] at hw';have is1:iV true (oT hi) .non=.ok (.bl true):=by rw[og,e];rfl
    have ix1:fV (oT hi) (.int 0)=.ok (.int r.1):=by rw[e];rfl
    by_cases hr:r.1≤0
    ·rw[aP hr] at hw';subst hw';exact fG (jX (eK (dZ rfl rfl is1)) (eK (dZ (dZ rfl rfl ix1) rfl (by rw[yV];simp[hr])))) (eG (dZ (pU (x:=oT hi) rfl (by rw[e];exact OK (h2 r e) hE)) rfl (jB _ _)) rfl)
    ·rw[aQ hr] at hw';subst hw';exact fz (jX (eK (dZ rfl rfl is1)) (eK (dZ (dZ rfl rfl ix1) rfl (by rw[yV];simp[hr])))) rfl
  cases e:lo with
  | none=>exact fz (qq (eK (dZ rfl rfl (by show iV true (oT lo) .non=_;rw[og,e];rfl)))) (hiP _ rfl)
  | some p=>
   have is1:iV true (oT lo) .non=.ok (.bl true):=by rw[og,e];rfl
   have ix1:fV (oT lo) (.int 0)=.ok (.int p.1):=by rw[e];rfl
   by_cases hp:0≤p.1
   ·refine fG (jX (eK (dZ rfl rfl is1)) (eK (dZ (dZ rfl rfl ix1) rfl (by rw[qR];simp[hp])))) (eG (dZ (pU (x:=oT lo) rfl (by rw[e];exact Ho (h1 p e) hE)) rfl (gw _ _)) ?_);simp[wb,hp,R]
   ·exact fz (jX (eK (dZ rfl rfl is1)) (eK (dZ (dZ rfl rfl ix1) rfl (by rw[qR];simp[hp])))) (hiP _ (by simp[wb,hp]))
 have testlo:kJ (fN (eC (iV true) (dQ 0) (cM .non))) (j8 (fN (eD (dP (dQ 0) (dP (gX (dP (dQ 2) (dP (cM (.int 1)) dW))) dW)) (je c)))) (vw (R (some (.p (.int (wb lo hi))))))=.ok (!decide (m7 lo (wb lo hi:Rat))):=by
  cases e:lo with
  | none=>have:m7 none (wb none hi:Rat):=fun _ z=>nomatch z;rw[←e,aB (by rw[e];exact this)];exact qq (eK (dZ rfl rfl (by show iV true (oT lo) .non=_;rw[og,e];rfl)))
  | some p=>
   have is1:iV true (oT lo) .non=.ok (.bl true):=by rw[og,e];rfl
   rw[←e];refine jX (eK (dZ rfl rfl is1)) (Hm (eK (fX (x:=oT lo) (y:=fr (wb lo hi,1)) rfl (nt rfl rfl) ?_)));have q:=KH (c:=c) (i:=wb lo hi) (h1 p e) hE bw;have hd:decide (m7 lo (wb lo hi:Rat))=decide (qv p<(wb lo hi:Rat)):=by
    by_cases z:qv p<(wb lo hi:Rat)
    ·rw[aB z,aB];intro r er;rw[e] at er;cases er;exact z
    ·rw[aA z,aA];exact fun y=>z (y p e)
   rw[hd];rw[show oT lo=fr p by rw[e];rfl];exact q
 have testhi:kJ (fN (eC (iV true) (dQ 1) (cM .non))) (j8 (fN (eD (dP (gX (dP (dQ 2) (dP (cM (.int 1)) dW))) (dP (dQ 1) dW)) (je c)))) (vw (R (some (.p (.int (wb lo hi))))))=.ok (!decide (m8 hi (wb lo hi:Rat))):=by
  cases e:hi with
  | none=>have:m8 none (wb lo none:Rat):=fun _ z=>nomatch z;rw[←e,aB (by rw[e];exact this)];exact qq (eK (dZ rfl rfl (by show iV true (oT hi) .non=_;rw[og,e];rfl)))
  | some p=>
   have is1:iV true (oT hi) .non=.ok (.bl true):=by rw[og,e];rfl
   rw[←e];refine jX (eK (dZ rfl rfl is1)) (Hm (eK (fX (x:=fr (wb lo hi,1)) (y:=oT hi) (nt rfl rfl) rfl ?_)));have q:=JY (c:=c) (i:=wb lo hi) (h2 p e) hE bw;have hd:decide (m8 hi (wb lo hi:Rat))=decide ((wb lo hi:Rat)<qv p):=by
    by_cases z:(wb lo hi:Rat)<qv p
    ·rw[aB z,aB];intro r er;rw[e] at er;cases er;exact z
    ·rw[aA z,aA];exact fun y=>z (y p e)
   rw[hd];rw[show oT hi=fr p by rw[e];rfl];exact q
 refine fw rfl (d8 s1 (d8 lead ?_));unfold FC;by_cases l:m7 lo (wb lo hi:Rat)
 ·rw[aB l] at testlo;refine d8 (fz testlo rfl) ?_;by_cases h:m8 hi (wb lo hi:Rat)
  ·rw[aB h] at testhi;rw[aP ⟨l,h⟩];exact d8 (fz testhi rfl) (eN rfl)
  ·rw[aA h] at testhi;rw[aQ (fun z=>h z.2)];exact hU (fG testhi (eN rfl)) rfl
 ·rw[aA l] at testlo;rw[aQ (fun z=>l z.1)];exact hU (fG testlo (eN rfl)) rfl
theorem lP{i:Int}:0<((i,1):Int×Int).2:=by show (0:Int)<1;decide
def rb(fs:List Int)(x:Int×Int):Int×Int:=fs.foldr (fun f x=>(f*x.1+x.2,x.1)) x
structure PQ(lo hi:Option (Int×Int))(f:Int)(lo1 hi1:Option (Int×Int)):Prop where
 ex:∃p r:Int×Int,lo=some p∧hi=some r∧f=p.1.fdiv p.2∧lo1=some (r.2,r.1 - f*r.2)∧hi1=(if p.1 - f*p.2=0 then none else some (p.2,p.1 - f*p.2))∧0<p.2∧0<r.2∧p.1*r.2<r.1*p.2∧r.1≤(f+1)*r.2
inductive wy:Option (Int×Int)→Option (Int×Int)→List Int→Option (Int×Int)→Option (Int×Int)→Prop
 | nil {lo hi:Option (Int×Int)}:wy lo hi [] lo hi
 | cons {lo hi lo1 hi1 lo2 hi2:Option (Int×Int)} {f:Int} {fs:List Int}:PQ lo hi f lo1 hi1→wy lo1 hi1 fs lo2 hi2→wy lo hi (f::fs) lo2 hi2
theorem wy.snoc{lo hi lo1 hi1 lo2 hi2:Option (Int×Int)}{f:Int}{fs:List Int}(h:wy lo hi fs lo1 hi1)(s:PQ lo1 hi1 f lo2 hi2):wy lo hi (fs++[f]) lo2 hi2:=by
 induction h with
 | nil=>exact .cons s .nil
 | cons s' _ ih=>exact .cons s' (ih s)
structure Gd(lo hi:Option (Int×Int))(x:Int×Int):Prop where
 lo:m7 lo (qv x)
 hi:m8 hi (qv x)
 pos:0<x.2
 one:Cu.G x.1 x.2=1
def tp:Option (Int×Int)→Int
 | some p=>p.1
 | none=>1
def bt:Option (Int×Int)→Int
 | some p=>p.2
 | none=>0
theorem Kv(f a b:Int):Cu.G (f*a+b) a=Cu.G b a:=by
 have h:=Cu.CA (f*a+b) a;have h2:=Cu.CA b a;have e:(f*a+b).fmod a=b.fmod a:=by rw[Int.add_comm];have:=Int.add_mul_fmod_self_right b f a;exact this
 rw[←h,e,h2]
theorem L6(a b:Int):Cu.G a b=Cu.G b a:=by unfold Cu.G;rw[Int.gcd_comm]
theorem Dp{lo hi lo1 hi1:Option (Int×Int)}{f:Int}{x:Int×Int}(s:PQ lo hi f lo1 hi1)(h:Gd lo1 hi1 x)(hx:0<x.1):Gd lo hi (f*x.1+x.2,x.1):=by
 obtain⟨p,r,rfl,rfl,hf,rfl,rfl,hp,hr,hlt,hle⟩:=s.ex;obtain⟨hl,hh,h2,h1⟩:=h;obtain⟨fl1,fl2⟩:=pP p.1 p.2 hp;rw[←hf] at fl1 fl2;have hrf:0<r.1 - f*r.2:=by
  have a1:f*p.2*r.2≤p.1*r.2:=aI fl1 (az hr);have a2:f*r.2*p.2<r.1*p.2:=by
   have:f*r.2*p.2=f*p.2*r.2:=by grind
   omega
  have:=dh a2 (az hp);omega
 have q1:=(Df (p:=(r.2,r.1 - f*r.2)) (r:=x) hrf h2).mp (hl _ rfl);dsimp only at q1;refine⟨fun p' e=>?_,fun r' e=>?_,hx,?_⟩
 ·cases e;rw[Df hp hx];dsimp only;by_cases h0:p.1 - f*p.2=0
  ·have:p.1=f*p.2:=by omega
   rw[this];have:=aW h2 hp;have e3:(f*x.1+x.2)*p.2=f*p.2*x.1+x.2*p.2:=by grind
   omega
  ·have q2:=hh (p.2,p.1 - f*p.2) (by rw[aQ h0]);have hb:0<p.1 - f*p.2:=by omega
   have q3:=(Df (p:=x) (r:=(p.2,p.1 - f*p.2)) h2 hb).mp q2;dsimp only at q3;have e3:(f*x.1+x.2)*p.2=f*x.1*p.2+p.2*x.2:=by grind
   have e4:x.1*(p.1 - f*p.2)=p.1*x.1 - f*x.1*p.2:=by grind
   omega
 ·cases e;rw[Df hx hr];dsimp only;have e3:(f*x.1+x.2)*r.2=f*r.2*x.1+r.2*x.2:=by grind
  have e4:x.1*(r.1 - f*r.2)=r.1*x.1 - f*r.2*x.1:=by grind
  omega
 ·show Cu.G (f*x.1+x.2) x.1=1;rw[Kv,L6];exact h1
theorem Im{lo hi:Option (Int×Int)}{p:Int×Int}(e:lo=some p)(hp:0<p.2)(h0:0<p.1)(hr:∀r,hi=some r→0<r.2)(hl:m7 lo (wb lo hi:Rat))(hh:m8 hi (wb lo hi:Rat)) :
  Gd lo hi (wb lo hi,1)∧0<wb lo hi∧wb lo hi≤tp lo+tp hi∧1≤bt lo+bt hi:=by
 have ew:wb lo hi=p.1.fdiv p.2+1:=by unfold wb;rw[e];simp;omega
 have f0:0≤p.1.fdiv p.2:=de (by omega) (by omega);have fa:=ym p.1 p.2 hp;refine⟨⟨by rw[Ew];exact hl,by rw[Ew];exact hh,lP,FF _⟩,by omega,?_,?_⟩
 ·cases eh:hi with
  | none=>rw[eh] at ew;rw[e];show wb (some p) none≤p.1+1;rw[←e];omega
  | some r=>have h1:=hr r eh;have h2:=hh r eh;rw[←Ew,Df lP h1] at h2;dsimp only at h2;rw[←eh,e];show wb (some p) hi≤p.1+tp hi;rw[eh];show wb (some p) (some r)≤p.1+r.1;rw[←e,←eh];have h3:wb lo hi*1≤wb lo hi*r.2:=df (by omega) (by omega);omega
 ·rw[e];show 1≤p.2+bt hi;have:0≤bt hi:=by
   cases eh:hi with
   | none=>exact cS _
   | some r=>have:=hr r eh;show 0≤r.2;omega
  omega
theorem GZ{lo hi lo2 hi2:Option (Int×Int)}{fs:List Int}(h:wy lo hi fs lo2 hi2):∀p,lo=some p→0<p.2→0<p.1→(∀r,hi=some r→0<r.2)→(∀r,hi2=some r→0<r.2)→m7 lo2 (wb lo2 hi2:Rat)→m8 hi2 (wb lo2 hi2:Rat)→
  Gd lo hi (rb fs (wb lo2 hi2,1))∧0<(rb fs (wb lo2 hi2,1)).1∧(rb fs (wb lo2 hi2,1)).1≤tp lo+tp hi∧(rb fs (wb lo2 hi2,1)).2≤bt lo+bt hi:=by
 induction h with
 | nil=>intro p e hp h0 hr _ hl hh;exact Im e hp h0 hr hl hh
 | cons s _ ih=>
  rename_i lo hi lo1 hi1 lo2 hi2 f fs _;intro p e hp h0 hr hr2 hl hh;obtain⟨p',r,e1,e2,hf,e3,e4,g1,g2,g3,g4⟩:=s.ex;rw[e] at e1;cases e1;obtain⟨fl1,fl2⟩:=pP p.1 p.2 hp;rw[←hf] at fl1 fl2;have f0:0≤f:=by rw[hf];exact de (by omega) (by omega)
  have hrf:0<r.1 - f*r.2:=by
   have a1:f*p.2*r.2≤p.1*r.2:=aI fl1 (az g2);have a2:f*r.2*p.2<r.1*p.2:=by
    have:f*r.2*p.2=f*p.2*r.2:=by grind
    omega
   have:=dh a2 (az hp);omega
  have hr1:∀r',hi1=some r'→0<r'.2:=fun r' e'=>by
   rw[e4] at e';split at e'
   ·cases e'
   ·cases e';dsimp only;omega
  obtain⟨i1,i2,i3,i4⟩:=ih (r.2,r.1 - f*r.2) e3 hrf g2 hr1 hr2 hl hh;refine⟨Dp s i1 i2,?_,?_,?_⟩
  ·show 0<f*(rb fs (wb lo2 hi2,1)).1+(rb fs (wb lo2 hi2,1)).2;have:=i1.pos;have:=aO f0 (az i2);omega
  ·show f*(rb fs (wb lo2 hi2,1)).1+(rb fs (wb lo2 hi2,1)).2≤_;rw[e,e2];show _≤p.1+r.1;have t1:tp lo1+tp hi1≤r.2+p.2:=by
    rw[e3,e4];split
    ·show r.2+1≤_;omega
    ·exact cS _
   have t2:bt lo1+bt hi1=(r.1 - f*r.2)+(p.1 - f*p.2):=by
    rw[e3,e4];split
    ·rename_i z;rw[z];rfl
    ·rfl
   have m1:f*(rb fs (wb lo2 hi2,1)).1≤f*(r.2+p.2):=df (by omega) f0;have m2:f*(r.2+p.2)=f*r.2+f*p.2:=cP _ _ _;omega
  ·show (rb fs (wb lo2 hi2,1)).1≤_;rw[e,e2];show _≤p.2+r.2;have t1:tp lo1+tp hi1≤r.2+p.2:=by
    rw[e3,e4];split
    ·show r.2+1≤_;omega
    ·exact cS _
   omega
theorem Gn{lo hi:Option (Int×Int)}(h1:∀p,lo=some p→0<p.2)(h2:∀r,hi=some r→0<r.2)(hlt:∀p r,lo=some p→hi=some r→qv p<qv r)(hn:¬(m7 lo (wb lo hi:Rat)∧m8 hi (wb lo hi:Rat))) :
  ∃p r,lo=some p∧hi=some r∧p.1*r.2<r.1*p.2∧r.1≤(p.1.fdiv p.2+1)*r.2:=by
 have up:∀p:Int×Int,lo=some p→qv p<((p.1.fdiv p.2+1:Int):Rat):=fun p e=>by rw[←Ew,Df (h1 p e) lP];have:=(pP p.1 p.2 (h1 p e)).2;dsimp only;omega
 have dn:∀r:Int×Int,hi=some r→((-((-r.1).fdiv r.2) - 1:Int):Rat)<qv r:=fun r e=>by
  rw[←Ew,Df lP (h2 r e)];have:=(pP (-r.1) r.2 (h2 r e)).2;dsimp only;have e3:(-((-r.1).fdiv r.2) - 1)*r.2 = -(((-r.1).fdiv r.2+1)*r.2):=by grind
  omega
 have up0:∀p:Int×Int,lo=some p→p.1<0→qv p<((0:Int):Rat):=fun p e z=>by rw[←Ew,Df (h1 p e) lP];dsimp only;omega
 have dn0:∀r:Int×Int,hi=some r→0<r.1→((0:Int):Rat)<qv r:=fun r e z=>by rw[←Ew,Df lP (h2 r e)];dsimp only;omega
 cases el:lo with
 | none=>
  exfalso;refine hn ⟨fun p e=>(by rw[el] at e;cases e),fun r e=>?_⟩;have ew:wb lo hi=if r.1≤0 then -((-r.1).fdiv r.2) - 1 else 0:=by unfold wb;rw[el,e];rfl
  rw[ew];split
  ·exact dn r e
  ·exact dn0 r e (by omega)
 | some p=>
  cases eh:hi with
  | none=>
   exfalso;refine hn ⟨fun p' e=>?_,fun r e=>(by rw[eh] at e;cases e)⟩;rw[el] at e;cases e;have ew:wb lo hi=if 0≤p.1 then p.1.fdiv p.2+1 else 0:=by unfold wb;rw[el,eh];rfl
   rw[ew];split
   ·exact up p el
   ·exact up0 p el (by omega)
  | some r=>
   have lt:=(Df (h1 p el) (h2 r eh)).mp (hlt p r el eh);refine⟨p,r,rfl,rfl,lt,?_⟩;by_cases hp:0≤p.1
   ·have ew:wb lo hi=p.1.fdiv p.2+1:=by unfold wb;rw[el];simp[hp]
    refine dg.mp fun z=>hn ⟨fun p' e=>?_,fun r' e=>?_⟩
    ·rw[el] at e;cases e;rw[ew];exact up p el
    ·rw[eh] at e;cases e;rw[ew,←Ew,Df lP (h2 r eh)];dsimp only;omega
   ·by_cases hr:r.1≤0
    ·have ew:wb lo hi = -((-r.1).fdiv r.2) - 1:=by unfold wb;rw[el,eh];simp[hp,IR,hr]
     refine dg.mp fun z=>hn ⟨fun p' e=>?_,fun r' e=>?_⟩
     ·rw[el] at e;cases e;rw[ew,←Ew,Df (h1 p el) lP];dsimp only;have c1:=(pP (-r.1) r.2 (h2 r eh)).1;have c2:=(pP p.1 p.2 (h1 p el)).2;have hr2:=h2 r eh;have e3:-((-r.1).fdiv r.2)*r.2 = -((-r.1).fdiv r.2*r.2):=by grind
      have c3:(p.1.fdiv p.2+1)*r.2 < -((-r.1).fdiv r.2)*r.2:=by omega
      have c4:=dh c3 (az hr2);have c5:(p.1.fdiv p.2+1)*p.2≤(-((-r.1).fdiv r.2) - 1)*p.2:=aI (by omega) (az (h1 p el));omega
     ·rw[eh] at e;cases e;rw[ew];exact dn r eh
    ·have ew:wb lo hi=0:=by unfold wb;rw[el,eh];simp[hp,IR,hr]
     exfalso;refine hn ⟨fun p' e=>?_,fun r' e=>?_⟩
     ·rw[el] at e;cases e;rw[ew];exact up0 p el (by omega)
     ·rw[eh] at e;cases e;rw[ew];exact dn0 r eh (by omega)
def NQ:En→Nat:=fun ρ=>match ρ with | some (.p (.tup [_,.int a]))::some (.p (.tup [_,.int b]))::_=>a.natAbs+b.natAbs+2 | _=>1
def A6:En→Nat:=fun ρ=>match ρ with | some (.p (.tup [_,.int a]))::some (.p (.tup [_,.int b]))::_::some (.p .non)::_=>a.natAbs+b.natAbs+1 | _=>0
def uc(lo hi:Option (Int×Int))(fs:List Int)(x4 x5 x6:Option W):En:=[some (.p (oT lo)),some (.p (oT hi)),some (.o (fs.map T.int)),some (.p (FC lo hi)),x4,x5,x6,none]
structure Lh(E:Nat)(lo hi:Option (Int×Int))(fs:List Int)(lo' hi':Option (Int×Int)):Prop where
 path:wy lo hi fs lo' hi'
 l:Oe E lo'
 h:Oe E hi'
 lt:∀p r,lo'=some p→hi'=some r→qv p<qv r
 fb:∀f∈fs,Bn E f
 few:fs≠[]→∃p,lo'=some p∧p.2≤p.1∧∀r,hi'=some r→0<r.1∧4 ^ (fs.length - 1)*(p.1*p.2*(r.1*r.2))≤2 ^ (4*E)
theorem qd{E:Nat}{x:Int}(h:Bn E x):x<2 ^ E∧-(2 ^ E)<x:=by
 unfold Bn at h;have:((2 ^ E:Nat):Int)=2 ^ E:=by simp
 omega
theorem qL{E:Nat}{x:Int}(h1:x<2 ^ E)(h2:-(2 ^ E)<x):Bn E x:=by
 unfold Bn;have:((2 ^ E:Nat):Int)=2 ^ E:=by simp
 omega
theorem HC{E:Nat}{lo hi lo' hi':Option (Int×Int)}{fs:List Int}(h:Lh E lo hi fs lo' hi')(hn:¬(m7 lo' (wb lo' hi':Rat)∧m8 hi' (wb lo' hi':Rat))) :
  ∃(p r:Int×Int) (f:Int),p.1.fdiv p.2=f∧lo'=some p∧hi'=some r∧fs.length≤2*E+1∧0<p.2∧0<r.2∧0<r.1 - f*r.2∧r.1 - f*r.2≤r.2∧0≤p.1 - f*p.2∧p.1 - f*p.2<p.2∧Bn E (f)∧
   Lh E lo hi (fs++[f]) (some (r.2,r.1 - f*r.2)) (if p.1 - f*p.2=0 then none else some (p.2,p.1 - f*p.2)):=by
 obtain⟨p,r,e1,e2,lt,le⟩:=Gn (fun p e=>(h.l p e).1) (fun r e=>(h.h r e).1) h.lt hn;obtain⟨p2,pb1,pb2⟩:=h.l p e1;obtain⟨r2,rb1,rb2⟩:=h.h r e2;obtain⟨fl1,fl2⟩:=pP p.1 p.2 p2;have fb:Bn E (p.1.fdiv p.2):=bT (ym p.1 p.2 p2) pb1;generalize hf:p.1.fdiv p.2=f at *;have g4:(f+1)*r.2=f*r.2+r.2:=by grind
 have g5:(f+1)*p.2=f*p.2+p.2:=by grind
 have hrf:0<r.1 - f*r.2:=by
  have a1:f*p.2*r.2≤p.1*r.2:=aI fl1 (az r2);have a2:f*r.2*p.2<r.1*p.2:=by
   have:f*r.2*p.2=f*p.2*r.2:=by grind
   omega
  have:=dh a2 (az p2);omega
 have st:PQ lo' hi' f (some (r.2,r.1 - f*r.2)) (if p.1 - f*p.2=0 then none else some (p.2,p.1 - f*p.2)):=⟨p,r,e1,e2,hf.symm,rfl,rfl,p2,r2,lt,le⟩;have rlt:=(qd rb2).1;have plt:=(qd pb2).1;have few:fs.length≤2*E+1:=by
  by_cases hz:fs=[]
  ·subst hz;simp
  ·obtain⟨p',q1,q2,q3⟩:=h.few hz;rw[e1] at q1;cases q1;obtain⟨q4,q5⟩:=q3 r e2;have m1:1≤p.1*p.2:=by have:=aW (show 0<p.1 by omega) p2;omega
   have m2:1≤r.1*r.2:=by have:=aW q4 r2;omega
   have m3:1≤p.1*p.2*(r.1*r.2):=by have:=aW (show 0<p.1*p.2 by omega) (show 0<r.1*r.2 by omega);omega
   have m4:(4:Int) ^ (fs.length - 1)*1≤2 ^ (4*E):=Int.le_trans (df m3 (az (dk (by decide)))) q5;have m5:(4:Nat) ^ (fs.length - 1)≤2 ^ (4*E):=by
    have:(((4:Nat) ^ (fs.length - 1):Nat):Int)≤((2 ^ (4*E):Nat):Int):=by push_cast;omega
    exact Int.ofNat_le.mp this
   rw[show (4:Nat)=2 ^ 2 by decide,←Nat.pow_mul] at m5;have m6:=(Nat.pow_le_pow_iff_right (show 1<2 by decide)).mp m5;omega
 refine⟨p,r,f,hf,e1,e2,few,p2,r2,hrf,by omega,by omega,by omega,fb,h.path.snoc st,fun p' e=>?_,fun r' e=>?_,fun p' r' e e'=>?_,fun g hg=>?_,fun _=>⟨_,rfl,?_,fun r' e'=>?_⟩⟩
 ·cases e;exact⟨hrf,rb2,qL (by dsimp only;omega) (by dsimp only;omega)⟩
 ·split at e
  ·cases e
  ·cases e;exact⟨by dsimp only;omega,pb2,qL (by dsimp only;omega) (by dsimp only;omega)⟩
 ·cases e;split at e'
  ·cases e'
  ·cases e';rw[Df hrf (by dsimp only;omega)];dsimp only;have x1:r.2*(p.1 - f*p.2)=p.1*r.2 - f*r.2*p.2:=by grind
   have x2:p.2*(r.1 - f*r.2)=r.1*p.2 - f*r.2*p.2:=by grind
   omega
 ·rcases ai.mp hg with hg | hg
  ·exact h.fb g hg
  ·rw[aj.mp hg];exact fb
 ·dsimp only;omega
 ·split at e'
  ·cases e'
  ·rename_i hR;cases e';refine⟨p2,?_⟩;dsimp only;rw[aS,bP,Nat.add_sub_cancel];by_cases hz:fs=[]
   ·subst hz;simp only[b7,Int.pow_zero,cJ];have E2:(2:Int) ^ (4*E)=2 ^ E*2 ^ E*(2 ^ E*2 ^ E):=by rw[show 4*E=E+E+(E+E) by omega,Int.pow_add,Int.pow_add]
    rw[E2];have P0:(0:Int)≤2 ^ E:=az (dk (by decide));have y1:r.2*(r.1 - f*r.2)≤2 ^ E*2 ^ E:=dm (by omega) (by omega) (by omega) P0;have y2:p.2*(p.1 - f*p.2)≤2 ^ E*2 ^ E:=dm (by omega) (by omega) (by omega) P0;exact dm y1 y2 (aO (by omega) (by omega)) (aO P0 P0)
   ·obtain⟨p',q1,q2,q3⟩:=h.few hz;rw[e1] at q1;cases q1;obtain⟨q4,q5⟩:=q3 r e2;have f1:1≤f:=by
     refine dg.mp fun z=>?_;have:f+1≤1:=by omega
     have:=aI this (az p2);omega
    have z1:p.2≤f*p.2:=by have:=aI f1 (az p2);omega
    have z2:r.2≤f*r.2:=by have:=aI f1 (az r2);omega
    have w1:r.2*(2*(r.1 - f*r.2))≤r.2*r.1:=df (by omega) (by omega);have w2:p.2*(2*(p.1 - f*p.2))≤p.2*p.1:=df (by omega) (by omega);have w3:=dm w1 w2 (aO (by omega) (by omega)) (aO (by omega) (by omega));have l1:fs.length=fs.length - 1+1:=by
     cases fs with
     | nil=>exact absurd rfl hz
     | cons _ _=>simp
    rw[l1,Int.pow_succ];refine Int.le_trans ?_ q5;have P4:(0:Int)≤4 ^ (fs.length - 1):=az (dk (by decide));have w4:r.2*(r.1 - f*r.2)*(p.2*(p.1 - f*p.2))*4=r.2*(2*(r.1 - f*r.2))*(p.2*(2*(p.1 - f*p.2))):=by grind
    have w5:r.2*r.1*(p.2*p.1)=p.1*p.2*(r.1*r.2):=by grind
    rw[cm,cq 4];refine df ?_ P4;rw[w4,←w5];exact w3
theorem ub{lo hi:Option (Int×Int)}(h:¬(m7 lo (wb lo hi:Rat)∧m8 hi (wb lo hi:Rat))):FC lo hi=.non:=aQ h
theorem uo{lo hi:Option (Int×Int)}(h:m7 lo (wb lo hi:Rat)∧m8 hi (wb lo hi:Rat)):FC lo hi=.int (wb lo hi):=aP h
theorem J0(E:Nat)(hE:E≤7000)(lo hi:Option (Int×Int)):∀ρ,(∃lo' hi' fs x4 x5 x6,ρ=uc lo' hi' fs x4 x5 x6∧Lh E lo hi fs lo' hi')→
  (fN (eC (iV false) (dQ 3) (cM .non)) (vw ρ)=.ok false∧∃lo' hi' fs x4 x5 x6,ρ=uc lo' hi' fs x4 x5 x6∧Lh E lo hi fs lo' hi'∧m7 lo' (wb lo' hi':Rat)∧m8 hi' (wb lo' hi':Rat))∨
  (fN (eC (iV false) (dQ 3) (cM .non)) (vw ρ)=.ok true∧∃ρ2,(j3 c ρ=.nx ρ2∨j3 c ρ=.ct ρ2)∧(∃lo' hi' fs x4 x5 x6,ρ2=uc lo' hi' fs x4 x5 x6∧Lh E lo hi fs lo' hi')∧A6 ρ2<A6 ρ):=by
 rintro ρ ⟨lo',hi',fs,x4,x5,x6,rfl,h⟩;by_cases hn:m7 lo' (wb lo' hi':Rat)∧m8 hi' (wb lo' hi':Rat)
 ·left;refine⟨eK (dZ rfl rfl ?_),lo',hi',fs,x4,x5,x6,rfl,h,hn⟩;show iV false (FC lo' hi') .non=_;rw[uo hn];rfl
 ·right;have sz:20000<sizeLine:=by decide
  refine⟨eK (dZ rfl rfl (by show iV false (FC lo' hi') .non=_;rw[ub hn];rfl)),?_⟩;obtain⟨p,r,f,hf,e1,e2,few,p2,r2,a1,a2,a3,a4,fb,h'⟩:=HC h hn;obtain⟨_,pb1,pb2⟩:=h.l p e1;obtain⟨_,rb1,rb2⟩:=h.h r e2;subst e1 e2;have wn:=ub hn;let hi1:Option (Int×Int):=if p.1 - f*p.2=0 then none else some (p.2,p.1 - f*p.2)
  have e6:PH (fN (eC (eU false) (dQ 5) (cM (.int 0)))) (cM .non) (gX (dP (eC fV (dQ 0) (cM (.int 1))) (dP (dQ 5) dW))) (kf [some (.p (fr p)),some (.p (fr r)),some (.o ((fs++[f]).map T.int)),some (.p (FC (some p) (some r))),some (.p (.int f)),some (.p (.int (p.1 - f*p.2))),x6,none])=.ok (oT hi1):=by
   by_cases h0:p.1 - f*p.2=0
   ·have:hi1=none:=aP h0;rw[this,h0];rfl
   ·have:hi1=some (p.2,p.1 - f*p.2):=aQ h0;rw[this];have t1:fN (eC (eU false) (dQ 5) (cM (.int 0))) (kf [some (.p (fr p)),some (.p (fr r)),some (.o ((fs++[f]).map T.int)),some (.p (FC (some p) (some r))),some (.p (.int f)),some (.p (.int (p.1 - f*p.2))),x6,none])=.ok false:=eK (dZ rfl rfl (by rw[fS];simp[h0]));show (fN _ _).bind _=_;rw[t1];show gX (dP (eC fV (dQ 0) (cM (.int 1))) (dP (dQ 5) dW)) (kf [some (.p (fr p)),some (.p (fr r)),some (.o ((fs++[f]).map T.int)),some (.p (FC (some p) (some r))),some (.p (.int f)),some (.p (.int (p.1 - f*p.2))),x6,none])=_;exact nt (dZ rfl rfl (kH p)) rfl
  have e7:=ni (c:=c) E (by omega) (some (r.2,r.1 - f*r.2)) hi1 h'.l h'.h;refine⟨uc (some (r.2,r.1 - f*r.2)) hi1 (fs++[f]) (some (.p (.int f))) (some (.p (.int (p.1 - f*p.2)))) (some (.p (oT hi1))),.inl ?_,⟨_,_,_,_,_,_,rfl,h'⟩,?_⟩
  ·refine d8 (eG (t:=.int f) (pU rfl (by rw[←hf];exact Ho ⟨p2,pb1,pb2⟩ (by omega))) rfl) ?_;refine d8 (qg (us:=fs.map T.int) rfl (t:=.int f) rfl (by simp;omega) rfl) ?_;refine d8 (eG (t:=.int (p.1 - f*p.2)) (dZ (dZ rfl rfl (l7 p)) (dZ rfl (dZ rfl rfl (kH p)) (gz (fb.ok pb2 (by omega) (by omega)))) (jB _ _)) rfl) ?_;refine d8 (eG (t:=oT hi1) ?_ rfl) ?_
   ·have:=e6;rw[aY] at this;exact this
   refine d8 (eG (t:=fr (r.2,r.1 - f*r.2)) (nt (dZ rfl rfl (kH r)) (dZ (dZ rfl rfl (l7 r)) (dZ rfl (dZ rfl rfl (kH r)) (gz (fb.ok rb2 (by omega) (by omega)))) (jB _ _))) rfl) ?_;refine d8 (eG (t:=oT hi1) rfl rfl) ?_;refine eG (fX rfl rfl e7) ?_;unfold uc;rw[aY];rfl
  ·have m0:A6 (uc (some p) (some r) fs x4 x5 x6)=p.2.natAbs+r.2.natAbs+1:=by unfold uc A6;rw[wn];rfl
   rw[m0];by_cases hw:m7 (some (r.2,r.1 - f*r.2)) (wb (some (r.2,r.1 - f*r.2)) hi1:Rat)∧m8 hi1 (wb (some (r.2,r.1 - f*r.2)) hi1:Rat)
   ·have:A6 (uc (some (r.2,r.1 - f*r.2)) hi1 (fs++[f]) (some (.p (.int f))) (some (.p (.int (p.1 - f*p.2)))) (some (.p (oT hi1))))=0:=by unfold uc A6;rw[uo hw];cases hi1<;>rfl
    rw[this];omega
   ·by_cases h0:p.1 - f*p.2=0
    ·have:hi1=none:=aP h0;have h0':A6 (uc (some (r.2,r.1 - f*r.2)) hi1 (fs++[f]) (some (.p (.int f))) (some (.p (.int (p.1 - f*p.2)))) (some (.p (oT hi1))))=0:=by unfold uc A6;rw[this];rfl
     rw[h0'];omega
    ·have:hi1=some (p.2,p.1 - f*p.2):=aQ h0;have h0':A6 (uc (some (r.2,r.1 - f*r.2)) hi1 (fs++[f]) (some (.p (.int f))) (some (.p (.int (p.1 - f*p.2)))) (some (.p (oT hi1))))=(r.1 - f*r.2).natAbs+(p.1 - f*p.2).natAbs+1:=by unfold uc A6;rw[ub hw,this];rfl
     rw[h0'];omega
theorem xm{E:Nat}{lo hi lo2 hi2:Option (Int×Int)}{fs:List Int}(h:wy lo hi fs lo2 hi2)(p:Int×Int)(e:lo=some p)(hp:0<p.2)(h0:0<p.1)(hl:Oe E lo)(hh:Oe E hi)(hh2:Oe E hi2)(l2:m7 lo2 (wb lo2 hi2:Rat))(u2:m8 hi2 (wb lo2 hi2:Rat)) :
  Gd lo hi (rb fs (wb lo2 hi2,1))∧0<(rb fs (wb lo2 hi2,1)).1∧Bn (E+1) (rb fs (wb lo2 hi2,1)).1∧Bn (E+1) (rb fs (wb lo2 hi2,1)).2:=by
 obtain⟨g,a1,a2,a3⟩:=GZ h p e hp h0 (fun r er=>(hh r er).1) (fun r er=>(hh2 r er).1) l2 u2;have P:(2:Int) ^ (E+1)=2*2 ^ E:=by rw[Int.pow_succ,cq]
 have P1:(1:Int)≤2 ^ E:=by have:=dk (n:=2) (m:=E) (by decide);omega
 have b1:=qd (hl p e).2.1;have b2:=qd (hl p e).2.2;have tl:tp lo=p.1:=by rw[e];rfl
 have bl:bt lo=p.2:=by rw[e];rfl
 have th:tp hi≤2 ^ E∧bt hi≤2 ^ E:=by
  cases eh:hi with
  | none=>exact⟨P1,by show (0:Int)≤_;omega⟩
  | some r=>have c1:=qd (hh r eh).2.1;have c2:=qd (hh r eh).2.2;exact⟨by show r.1≤_;omega,by show r.2≤_;omega⟩
 have gp:=g.pos;exact⟨g,a1,qL (by omega) (by omega),qL (by omega) (by omega)⟩
def On(z:Int×Int)(f:Int):Int×Int:=(f*z.1+z.2,z.1)
theorem Ac(E:Nat)(hE:E≤7000)(x0 x1 x2 x3 x5 x6:Option W):∀(gs:List Int) (z:Int×Int) (x4:Option W),(∀f∈gs,Bn E f)→(∀k,k≤gs.length→Bn (2*E+10) ((gs.take k).foldl On z).1)→
  ∃y4,iA (iK 4) (j6 c) (gs.map T.int) [x0,x1,x2,x3,x4,x5,x6,some (.p (fr z))]=.nx [x0,x1,x2,x3,y4,x5,x6,some (.p (fr (gs.foldl On z)))]
 | [],z,x4,_,_=>⟨x4,rfl⟩
 | f::gs,z,x4,hf,hb=>by
  have fB:Bn E f:=hf f (by simp);have zB:Bn (2*E+10) z.1:=by simpa using hb 0 (bA _)
  obtain⟨y4,e⟩:=Ac E hE x0 x1 x2 x3 x5 x6 gs (On z f) (some (.p (.int f))) (fun g hg=>hf g (by simp[hg])) (fun k hk=>by simpa using hb (k+1) (by simpa using hk));refine⟨y4,?_⟩;have s1:j6 c [x0,x1,x2,x3,some (.p (.int f)),x5,x6,some (.p (fr z))]=.nx [x0,x1,x2,x3,some (.p (.int f)),x5,x6,some (.p (fr (On z f)))]:=eG (nt (dZ (dZ rfl (dZ rfl rfl (l7 z)) (gz (fB.ok zB (by omega) (by omega)))) (dZ rfl rfl (kH z)) (gw _ _)) (dZ rfl rfl (l7 z))) rfl
  rw[bx,iA];have s0:iK 4 (.int f) [x0,x1,x2,x3,x4,x5,x6,some (.p (fr z))]=some [x0,x1,x2,x3,some (.p (.int f)),x5,x6,some (.p (fr z))]:=rfl;rw[s0];dsimp only;rw[s1];exact e
theorem Am(fs:List Int)(y:Int×Int):fs.reverse.foldl On y=rb fs y:=by rw[List.foldl_reverse];rfl
theorem KA(E:Nat)(hE:E≤7000)(x0 x1 x2 x3 x5 x6:Option W)(fs:List Int)(y:Int×Int)(x4:Option W)(hf:∀f∈fs,Bn E f)(hb:∀k,k≤fs.length→Bn (2*E+10) (rb (fs.drop k) y).1) :
  ∃y4,iA (iK 4) (j6 c) (fs.reverse.map T.int) [x0,x1,x2,x3,x4,x5,x6,some (.p (fr y))]=.nx [x0,x1,x2,x3,y4,x5,x6,some (.p (fr (rb fs y)))]:=by
 obtain⟨y4,e⟩:=Ac (c:=c) E hE x0 x1 x2 x3 x5 x6 fs.reverse y x4 (fun f hf'=>hf f (by simpa using hf')) (fun k hk=>by
  have h2:fs.reverse.take k=(fs.drop (fs.length - k)).reverse:=by rw[List.take_reverse]
  rw[h2,Am];exact hb _ (by omega))
 rw[Am] at e;exact⟨y4,e⟩
theorem Lo(p r:Int×Int):eU false (fr p) (fr r)=.ok (.bl (decide (p=r))):=by
 have:=MP false [p.1,p.2] [r.1,r.2];have e:decide ([p.1,p.2]=[r.1,r.2])=decide (p=r):=by
  by_cases h:p=r
  ·rw[aB h,aB (by rw[h])]
  ·rw[aA h,aA];intro z;simp at z;exact h (Prod.ext z.1 z.2)
 simp only[bU,if_false] at this;rw[e] at this;exact this
theorem uN(E:Nat)(hE:E≤7000)(lo hi:Option (Int×Int))(h1:Oe E lo)(h2:Oe E hi)(hlt:∀p r,lo=some p→hi=some r→qv p<qv r) :
  ∃x,jD c [oT lo,oT hi]=.ok (fr x)∧Gd lo hi x∧Bn (2*E+4) x.1∧Bn (E+1) x.2:=by
 have w0:=ni (c:=c) E (by omega) lo hi h1 h2;have i0:Lh E lo hi [] lo hi:=⟨.nil,h1,h2,hlt,fun f hf=>(nomatch hf),fun z=>absurd rfl z⟩;have fu:A6 (uc lo hi [] none none none)<NQ (uc lo hi [] none none none):=by
  cases el:lo with
  | none=>cases eh:hi<;>(unfold uc A6 NQ oT;simp)
  | some p=>
   cases eh:hi with
   | none=>unfold uc A6 NQ oT;simp[fr]
   | some r=>
    by_cases hw:m7 (some p) (wb (some p) (some r):Rat)∧m8 (some r) (wb (some p) (some r):Rat)
    ·unfold uc A6 NQ oT;rw[uo hw];simp[fr]
    ·unfold uc A6 NQ oT;rw[ub hw];simp[fr]
 obtain⟨ρ',e,lo',hi',fs,x4,x5,x6,rfl,hO,hl,hh⟩:=n0 (g:=j3 c) (fun ρ=>∃lo' hi' fs x4 x5 x6,ρ=uc lo' hi' fs x4 x5 x6∧Lh E lo hi fs lo' hi') A6
  (fun ρ=>∃lo' hi' fs x4 x5 x6,ρ=uc lo' hi' fs x4 x5 x6∧Lh E lo hi fs lo' hi'∧m7 lo' (wb lo' hi':Rat)∧m8 hi' (wb lo' hi':Rat)) (J0 E hE lo hi) (NQ (uc lo hi [] none none none)) (uc lo hi [] none none none) ⟨lo,hi,[],none,none,none,rfl,i0⟩ fu
 have wi:=uo ⟨hl,hh⟩;have P:(2:Int) ^ (E+1)=2*2 ^ E:=by rw[Int.pow_succ,cq]
 have P1:(1:Int)≤2 ^ E:=by have:=dk (n:=2) (m:=E) (by decide);omega
 have wB:Bn (E+1) (wb lo' hi'):=by have:=Ld hO.l hO.h;unfold Bn;have p0:0<2 ^ E:=cI E;rw[cC];omega
 have fin:Gd lo hi (rb fs (wb lo' hi',1))∧Bn (2*E+4) (rb fs (wb lo' hi',1)).1∧Bn (E+1) (rb fs (wb lo' hi',1)).2∧∀k,k≤fs.length→Bn (2*E+10) (rb (fs.drop k) (wb lo' hi',1)).1:=by
  have hp:=hO.path;have hfb:=hO.fb;cases hp with
  | nil=>exact⟨⟨by show m7 lo (qv (wb lo hi,1));rw[Ew];exact hl,by show m8 hi (qv (wb lo hi,1));rw[Ew];exact hh,lP,FF _⟩,wB.mono (by omega),by show Bn (E+1) 1;exact qL (by omega) (by omega),fun k _=>by rw[List.drop_nil];exact wB.mono (by omega)⟩
  | cons s hp=>
   rename_i lo1 hi1 f fs';obtain⟨p,r,e1,e2,hf,e3,e4,p2,r2,g3,g4⟩:=s.ex;obtain⟨fl1,fl2⟩:=pP p.1 p.2 p2;rw[←hf] at fl1 fl2;have q4:(f+1)*r.2=f*r.2+r.2:=by grind
   have q5:(f+1)*p.2=f*p.2+p.2:=by grind
   have hrf:0<r.1 - f*r.2:=by
    have a1:f*p.2*r.2≤p.1*r.2:=aI fl1 (az r2);have a2:f*r.2*p.2<r.1*p.2:=by
     have:f*r.2*p.2=f*p.2*r.2:=by grind
     omega
    have:=dh a2 (az p2);omega
   have bp:=qd (h1 p e1).2.2;have br:=qd (h2 r e2).2.2;have ol:Oe E lo1:=fun p' e'=>by rw[e3] at e';cases e';exact⟨hrf,(h2 r e2).2.2,qL (by dsimp only;omega) (by dsimp only;omega)⟩
   have oh:Oe E hi1:=fun r' e'=>by
    rw[e4] at e';split at e'
    ·cases e'
    ·cases e';exact⟨by dsimp only;omega,(h1 p e1).2.2,qL (by dsimp only;omega) (by dsimp only;omega)⟩
   obtain⟨g,a1,a2,a3⟩:=xm hp (r.2,r.1 - f*r.2) e3 hrf r2 ol oh hO.h hl hh;have fB:Bn E f:=hfb f (by simp);have fC:Bn (2*E+4) (f*(rb fs' (wb lo' hi',1)).1+(rb fs' (wb lo' hi',1)).2):=((fB.mul a2).add a3).mono (by omega);refine⟨Dp s g a1,fC,a2,fun k hk=>?_⟩;have sm:∀(fs:List Int) (lo1 hi1:Option (Int×Int)),wy lo1 hi1 fs lo' hi'→(∃p,lo1=some p∧0<p.2∧0<p.1)→Oe E lo1→Oe E hi1→∀k,k≤fs.length→Bn (2*E+10) (rb (fs.drop k) (wb lo' hi',1)).1:=by
    intro fs;induction fs with
    | nil=>intro _ _ _ _ _ _ k _;rw[List.drop_nil];exact wB.mono (by omega)
    | cons f2 fs2 ih=>
     rintro lo1 hi1 hp ⟨p,e,c1,c2⟩ ol oh k hk;cases k with
     | zero=>obtain⟨_,_,b2,_⟩:=xm hp p e c1 c2 ol oh hO.h hl hh;rw[cE];exact b2.mono (by omega)
     | succ k=>
      cases hp with
      | cons s2 hp2=>
       obtain⟨p',r',e1',e2',hf',e3',e4',p2',r2',g3',g4'⟩:=s2.ex;obtain⟨fl1',fl2'⟩:=pP p'.1 p'.2 p2';rw[←hf'] at fl1' fl2';have q4':(f2+1)*r'.2=f2*r'.2+r'.2:=by grind
       have q5':(f2+1)*p'.2=f2*p'.2+p'.2:=by grind
       have hrf':0<r'.1 - f2*r'.2:=by
        have a1:f2*p'.2*r'.2≤p'.1*r'.2:=aI fl1' (az r2');have a2:f2*r'.2*p'.2<r'.1*p'.2:=by
         have:f2*r'.2*p'.2=f2*p'.2*r'.2:=by grind
         omega
        have:=dh a2 (az p2');omega
       have bp':=qd (ol p' e1').2.2;have br':=qd (oh r' e2').2.2;have:=ih _ _ hp2 ⟨_,e3',hrf',r2'⟩ (fun p'' e'=>by rw[e3'] at e';cases e';exact⟨hrf',(oh r' e2').2.2,qL (by dsimp only;omega) (by dsimp only;omega)⟩) (fun r'' e'=>by
        rw[e4'] at e';split at e'
        ·cases e'
        ·cases e';exact⟨by dsimp only;omega,(ol p' e1').2.2,qL (by dsimp only;omega) (by dsimp only;omega)⟩) k (by simpa using hk)
       simpa using this
   cases k with
   | zero=>rw[cE];exact fC.mono (by omega)
   | succ k=>simpa using sm fs' lo1 hi1 hp ⟨_,e3,hrf,r2⟩ ol oh k (by simpa using hk)
 obtain⟨f1,f2,f3,f4⟩:=fin;obtain⟨y4,eb⟩:=KA (c:=c) E hE (some (.p (oT lo'))) (some (.p (oT hi'))) (some (.p (.lst (fs.map T.int)))) (some (.p (FC lo' hi'))) x5 x6 fs (wb lo' hi',1) x4 hO.fb f4;refine⟨rb fs (wb lo' hi',1),?_,f1,f2,f3⟩;have t0:L3.kJ (fN (eC (iV true) (dQ 0) (cM .non))) (fN (eC (eU false) (dQ 0) (dQ 1))) (vw (fQ 8 [oT lo,oT hi]))=.ok false:=by
  cases el:lo with
  | none=>exact qq (eK (dZ rfl rfl rfl))
  | some p=>
   cases eh:hi with
   | none=>exact jX (eK (dZ rfl rfl rfl)) (eK (dZ rfl rfl (by show eU false (fr p) .non=_;rfl)))
   | some r=>refine jX (eK (dZ rfl rfl rfl)) (eK (dZ rfl rfl ?_));show eU false (fr p) (fr r)=_;rw[Lo,aA];intro z;have:=hlt p r el eh;rw[z] at this;exact absurd this (by grind)
 refine fw rfl (d8 (fz t0 rfl) (d8 (lF (ts:=[]) rfl rfl) (d8 (eG (t:=FC lo hi) (fX rfl rfl w0) rfl) (d8 (ρ':=uc lo' hi' fs x4 x5 x6) e (d8 (eG (t:=fr (wb lo' hi',1)) (nt (by show dQ 3 _=.ok (.int (wb lo' hi'));rw[←wi];rfl) rfl) rfl) (d8 (Ox (ts:=fs.map T.int) rfl (gN (its:=fs.reverse.map T.int) (by rw[List.map_reverse];rfl) eb)) (eN rfl)))))))
theorem vf(N M:Nat)(row other:List Int)(a:Nat)(ha:a<row.length)(hl:other.length=row.length)(hs:row.length<1000)(hN:N+M+1≤8000)(hb:∀x∈row,Bn N x)(ho:∀x∈other,Bn M x)(hne:vc other a≠0) :
  ∃r,gI c [tI row,tI other,.int (a:Int)]=.ok (tI r)∧r.length=row.length∧(∀x∈r,Bn (N+M+1) x)∧vc r a=0∧∃g s b:Int,0<g∧0<s∧(∀i,g*vc r i=s*vc row i+b*vc other i)∧(vc row a≠0→s=((vc other a).natAbs:Int)∧b = -vc row a*pY (vc other a)):=by
 have sz:1000<sizeLine:=by decide
 have i1:fV (tI row) (.int (a:Int))=.ok (.int (vc row a)):=iB row a ha;have i2:fV (tI other) (.int (a:Int))=.ok (.int (vc other a)):=iB other a (by omega);have b1:Bn N (vc row a):=hb _ (jA row a ha);have b2:Bn M (vc other a):=ho _ (jA other a (by omega));by_cases h0:vc row a=0
 ·exact⟨row,fw rfl (hU (fG (eK (dZ (dZ rfl rfl i1) rfl (by rw[fS,h0];rfl))) (eN rfl)) rfl),rfl,fun x hx=>(hb x hx).mono (by omega),h0,1,1,0,by decide,by decide,fun i=>by omega,fun z=>absurd h0 z⟩
 ·generalize hO:vc other a=o at *;generalize hX:vc row a=x0 at *;have ab:ED [.int o]=.ok (.int (o.natAbs:Int)):=by simp[N7]
  let w:Int:=-x0*pY o;have hsg:=EF o;have bw:Bn N w:=by
   refine bT ?_ b1;show (-x0*pY o).natAbs≤_;rw[aX,cD];have:(pY o).natAbs≤1:=by omega
   exact aM (du _ this) (by omega)
  have bo:Bn M (o.natAbs:Int):=bT (by omega) b2;let ys:List Int:=(row.zip other).map fun p=>(o.natAbs:Int)*p.1+w*p.2;have hyl:ys.length=row.length:=by simp[ys,hl]
  have hyb:∀y∈ys,Bn (N+M+1) y:=fun y hy=>by obtain⟨p,hp,rfl⟩:=aC.mp hy;exact ((bo.mul (hb _ (aV hp).1)).add (bw.mul (ho _ (aV hp).2))).mono (by omega)
  have hyv:∀i,vc ys i=(o.natAbs:Int)*vc row i+w*vc other i:=fun i=>by
   by_cases hi:i<row.length
   ·rw[rn ys i (by omega),rn row i hi,rn other i (by omega)];simp[ys]
   ·rw[vF ys i (by omega),vF row i (by omega),vF other i (by omega),cL,cL];rfl
  obtain⟨g,r,hg,er,hrl,hrv,hrb⟩:=E9 (c:=c) (N+M+1) hN ys (by omega) hyb;refine⟨r,fw rfl (d8 (fz (eK (dZ (dZ rfl rfl i1) rfl (by rw[fS];simp[h0]))) rfl) (d8 (eG (t:=.int (o.natAbs:Int)) (lD (dZ rfl rfl i2) ab) rfl) (d8 (eG (t:=.int w) ?_ rfl) (eN (pU (x:=tI ys) ?_ er))))),by omega,hrb,?_,g,(o.natAbs:Int),w,hg,by omega,fun i=>by rw[←hrv i,hyv i],fun _=>⟨rfl,rfl⟩⟩
  ·refine dZ (x:=.int (-x0)) (y:=.int (pY o)) ?_ (pU (dZ rfl rfl i2) (qw o)) (gz ((b1.neg).ok (n:=2) ?_ (by omega) (by decide)))
   ·exact uH (dZ rfl rfl i1)
   ·unfold Bn;show _<4;omega
  ·refine lD (t:=.lst (ys.map T.int)) (fM (gQ (row.zip other) (fun p=>T.tup [.int p.1,.int p.2]) (fun p=>T.int ((o.natAbs:Int)*p.1+w*p.2)) (mw rfl rfl rfl rfl) (by simp;omega) (fun p hp=>⟨_,rfl,rfl,?_⟩) (by rw[aH];rfl))) rfl;exact dZ (dZ rfl rfl (gz (bo.ok (hb _ (aV hp).1) (by omega) (by omega)))) (dZ rfl rfl (gz (bw.ok (ho _ (aV hp).2) (by omega) (by omega)))) (gw _ _)
  ·refine sG (g:=g) (by omega) ?_;rw[←hrv a,hyv a,hO,hX];show _ + -x0*pY o*o=_;rw[cm,KC,Int.neg_mul,cq x0];omega
theorem pK(P:Vc→Prop)(x1:Option W)(L M:Nat)(hL:L<1000):∀(pv:List (Nat×List Int)) (row:List Int) (N:Nat) (x2 x3:Option W),N+pv.length*(M+1)≤8000→row.length=L→(∀x∈row,Bn N x)→(∀p∈pv,p.1<L∧p.2.length=L∧vc p.2 p.1≠0∧(∀x∈p.2,Bn M x)∧P (vc p.2))→pv.Pairwise (fun p q=>vc q.2 p.1=0)→
  ∃(r:List Int) (y2 y3:Option W),iA (kL 2 (gy (iK 2) (gy (iK 3) k9))) (qC c) (pv.map jZ) [some (.p (tI row)),x1,x2,x3]=.nx [some (.p (tI r)),x1,y2,y3]∧r.length=L∧(∀x∈r,Bn (N+pv.length*(M+1)) x)∧
   (∃(g s:Int) (y:Vc),0<g∧0<s∧Qs P y∧∀i,g*vc r i=s*vc row i+1*y i)∧(∀k,vc row k=0→(∀p∈pv,vc p.2 k=0)→vc r k=0)∧∀p∈pv,vc r p.1=0
 | [],row,N,x2,x3,_,hl,hb,_,_=>⟨row,x2,x3,rfl,hl,fun x hx=>(hb x hx).mono (by omega),⟨1,1,fun _=>0,by decide,by decide,.zero,fun i=>by show 1*vc row i=1*vc row i+1*0;omega⟩,fun k hk _=>hk,fun p hp=>nomatch hp⟩
 | (a,prow)::pv,row,N,x2,x3,hN,hl,hb,hA,hw=>by
  obtain⟨h1,h2,h3,h4,h5⟩:=hA (a,prow) (bf ..);dsimp only at h1 h2 h3 h4 h5;obtain⟨w1,w2⟩:=List.pairwise_cons.mp hw;rw[ay,bQ] at hN;obtain⟨r1,e1,c1,b1,z0,g1,s1,q1,hg1,hs1,v1,_⟩:=vf (c:=c) N M row prow a (by omega) (by omega) (by omega) (by omega) hb h4 h3;obtain⟨r,y2,y3,e,hrl,hrb,⟨g2,s2,y,hg2,hs2,hy,v2⟩,z1,z2⟩:=pK P x1 L M hL pv r1 (N+M+1) (some (.p (.int (a:Int)))) (some (.p (tI prow))) (by omega) (by rw[c1,hl]) b1 (fun p hp=>hA p (bg _ hp)) w2;refine⟨r,y2,y3,?_,hrl,fun x hx=>(hrb x hx).mono (by rw[ay,bQ];omega),⟨g1*g2,s2*s1,_,aW hg1 hg2,aW hs2 hs1,Qs.comb (s2*q1) g1 (.of h5) hy,fun i=>?_⟩,fun k hk hp=>?_,fun p hp=>?_⟩
  ·rw[bx,iA];have s1:(kL 2 (gy (iK 2) (gy (iK 3) k9))) (jZ (a,prow)) [some (.p (tI row)),x1,x2,x3]=some [some (.p (tI row)),x1,some (.p (.int (a:Int))),some (.p (tI prow))]:=rfl;rw[s1];have s2:qC c [some (.p (tI row)),x1,some (.p (.int (a:Int))),some (.p (tI prow))]=.nx [some (.p (tI r1)),x1,some (.p (.int (a:Int))),some (.p (tI prow))]:=eG (iP rfl rfl rfl e1) rfl;dsimp only;rw[s2];exact e
  ·calc g1*g2*vc r i=g1*(g2*vc r i):=by ac_rfl
    _=s2*(g1*vc r1 i)+g1*y i:=by rw[v2 i,cJ,cP];congr 1;ac_rfl
    _=_:=by rw[v1 i,cP];simp only[cJ,cm,Int.add_assoc]
  ·refine z1 k (sG (g:=g1) (by omega) ?_) fun p hp'=>hp p (bg _ hp');have:=hp (a,prow) (bf ..);dsimp only at this;rw[v1 k,hk,this,cL,cL];rfl
  ·rcases aE.mp hp with rfl | hp
   ·exact z1 _ z0 fun q hq=>w1 q hq
   ·exact z2 p hp
theorem A2(P:Vc→Prop)(L M N:Nat)(hL:L<1000)(pv:List (Nat×List Int))(row:List Int)(hN:N+pv.length*(M+1)≤8000)(hl:row.length=L)(hb:∀x∈row,Bn N x)(hp:∀p∈pv,p.1<L∧p.2.length=L∧vc p.2 p.1≠0∧(∀x∈p.2,Bn M x)∧P (vc p.2))(hw:pv.Pairwise (fun p q=>vc q.2 p.1=0)) :
  ∃r:List Int,jP c [tI row,.lst (pv.map jZ)]=.ok (tI r)∧r.length=L∧(∀x∈r,Bn (N+pv.length*(M+1)) x)∧
   (∃(g s:Int) (y:Vc),0<g∧0<s∧Qs P y∧∀i,g*vc r i=s*vc row i+1*y i)∧∀p∈pv,vc r p.1=0:=by
 obtain⟨r,y2,y3,e,h1,h2,h3,-,h4⟩:=pK (c:=c) P (some (.p (.lst (pv.map jZ)))) L M hL pv row N none none hN hl hb hp hw;exact⟨r,fw rfl (d8 (gN rfl e) (eN rfl)),h1,h2,h3,h4⟩
def jK(us:List (List Int))(d:Nat)(x:Vc):Prop:=∀k,k≤d→x k=sm us.length fun i=>x (d+1+i)*vc (us.getD i []) k
theorem jK.comb{us:List (List Int)}{d:Nat}{x y z:Vc}{g a b:Int}(hg:g≠0)(hx:jK us d x)(hy:jK us d y)(e:∀i,g*z i=a*x i+b*y i):jK us d z:=fun k hk=>by refine Int.eq_of_mul_eq_mul_left hg ?_;rw[e k,hx k hk,hy k hk,←yW,←vW];refine i9 _ _ _ fun i _=>?_;have:=e (d+1+i);rw[←cm g,this];grind
theorem jK.zero{us:List (List Int)}{d:Nat}:jK us d fun _=>0:=fun k _=>by
 have:(fun i=>(0:Int)*vc (us.getD i []) k)=fun _=>0:=by funext i;simp
 rw[this,uh]
theorem jK.qs{us:List (List Int)}{d:Nat}{P:Vc→Prop}(h:∀x,P x→jK us d x){z:Vc}(q:Qs P z):jK us d z:=by
 induction q with
 | zero=>exact .zero
 | of p=>exact h _ p
 | lin _ _ hs e i1 i2=>exact i1.comb hs i2 e
def wr(us:List (List Int))(k:Nat):List Int:=us.getD k []++(List.replicate us.length (0:Int)).set k 1
theorem Ak(us:List (List Int))(d k:Nat)(hk:k<us.length)(hl:∀u∈us,u.length=d+1)(i:Nat):vc (wr us k) i=if i<d+1 then vc (us.getD k []) i else if i - (d+1)=k then 1 else 0:=by
 have hm:us.getD k []∈us:=by rw[af,ag hk];exact aU hk
 have jx:=hl _ hm;unfold wr;generalize us.getD k []=u at *;unfold vc;rw[af,List.getElem?_append,jx];split
 ·rw[af]
 ·rw[List.getElem?_set];split
  ·rename_i h;rw[aP h.symm];rw[bG];rw[aP (by omega)];rfl
  ·rename_i h;rw[aQ (fun z=>h z.symm),List.getElem?_replicate];split<;>rfl
theorem A7(us:List (List Int))(d k:Nat)(hk:k<us.length)(hl:∀u∈us,u.length=d+1):(wr us k).length=d+1+us.length:=by
 have hm:us.getD k []∈us:=by rw[af,ag hk];exact aU hk
 have jx:=hl _ hm;unfold wr;generalize us.getD k []=u at *;simp[jx]
theorem Lg{B:Nat}(hB:1≤B)(us:List (List Int))(k:Nat)(hk:k<us.length)(hb:∀u∈us,∀x∈u,Bn B x):∀x∈wr us k,Bn B x:=fun x hx=>by
 have hm:us.getD k []∈us:=by rw[af,ag hk];exact aU hk
 rcases ai.mp hx with h | h
 ·exact hb _ hm x h
 ·rcases dw h with h | h
  ·rw[a9 h];exact rj
  ·rw[h];have:Bn 1 1:=by unfold Bn;decide
   exact this.mono hB
theorem He(us:List (List Int))(d k:Nat)(hk:k<us.length)(hl:∀u∈us,u.length=d+1):jK us d (vc (wr us k)):=fun p hp=>by
 rw[Ak us d k hk hl p,aP (by omega)];have:(fun i=>vc (wr us k) (d+1+i)*vc (us.getD i []) p)=fun i=>(if i=k then 1 else 0)*vc (us.getD i []) p:=by funext i;rw[Ak us d k hk hl (d+1+i),aQ (by omega),show d+1+i - (d+1)=i by omega]
 rw[this,yt _ k _ hk]
def Pq(B:Nat):Nat→Nat
 | 0=>0
 | k+1=>Pq B k+(B+k*(Pq B k+1))+1
theorem KI(B:Nat)(k:Nat):Pq B k≤Pq B (k+1):=by show _≤Pq B k+(B+k*(Pq B k+1))+1;omega
structure PV(us:List (List Int))(d B:Nat)(dn:List Nat)(pv:List (Nat×List Int))(rs:List (List Int))(ix:List Nat):Prop where
 len:pv.length=ix.length
 pl:∀p∈pv,p.1<d∧p.2.length=d+1+us.length∧vc p.2 p.1≠0∧(∀x∈p.2,Bn (Pq B pv.length) x)∧jK us d (vc p.2)∧∀i,i∉ix→vc p.2 (d+1+i)=0
 pw:pv.Pairwise fun p q=>p.1≠q.1∧vc q.2 p.1=0∧vc p.2 q.1=0
 rr:∀r∈rs,r.length=d+1+us.length∧(∀k,k<d→vc r k=0)∧jK us d (vc r)∧(∀i,i∉dn→vc r (d+1+i)=0)∧∀x∈r,Bn (B+d*(Pq B d+1)) x
 sub:∀i∈ix,i∈dn
 sp:∀z∈dn,Qs (fun x=>(∃p∈pv,x=vc p.2)∨∃r∈rs,x=vc r) (vc (wr us z))
theorem PV.short{us:List (List Int)}{d B:Nat}{dn:List Nat}{pv:List (Nat×List Int)}{rs:List (List Int)}{ix:List Nat}(h:PV us d B dn pv rs ix):pv.length≤d:=by
 have nd:(pv.map Prod.fst).Nodup:=dy.mpr (h.pw.imp fun q=>q.1);have:=vC d (pv.map Prod.fst) nd fun x hx=>by obtain⟨p,hp,rfl⟩:=aC.mp hx;exact (h.pl p hp).1
 simpa using this
theorem Li{B k d:Nat}(h:k≤d):Pq B k≤Pq B d:=by
 induction h with
 | refl=>exact aJ _
 | step _ ih=>exact aM ih (KI B _)
theorem Qs.at_zero{P:Vc→Prop}{k:Nat}(h:∀x,P x→x k=0){z:Vc}(q:Qs P z):z k=0:=Qs.at0 h q
theorem Jv{us:List (List Int)}{d B:Nat}{dn:List Nat}{pv:List (Nat×List Int)}{rs:List (List Int)}{ix:List Nat}(h:PV us d B dn pv rs ix){z:Nat}{left:List Int}(hz:jK us d (vc (wr us z)))(hw:∀i,i≠z→vc (wr us z) (d+1+i)=0){g s:Int}{y:Vc}(hg:0<g)(hs:0<s)(hy:Qs (NX pv) y)(e:∀i,g*vc left i=s*vc (wr us z) i+1*y i)
  (hl:left.length=d+1+us.length) (h0:∀k,k<d→vc left k=0) (hb:∀x∈left,Bn (B+d*(Pq B d+1)) x):PV us d B (dn++[z]) pv (rs++[left]) ix:=by
 have ly:jK us d y:=jK.qs (fun x ⟨p,hp,ex⟩=>by rw[ex];exact (h.pl p hp).2.2.2.2.1) hy;refine⟨h.len,h.pl,h.pw,fun r hr=>?_,fun i hi=>ax _ (h.sub i hi),fun z' hz'=>?_⟩
 ·rcases ai.mp hr with hr | hr
  ·obtain⟨a1,a2,a3,a4,a5⟩:=h.rr r hr;exact⟨a1,a2,a3,fun i hi=>a4 i (fun q=>hi (ax _ q)),a5⟩
  ·rw[aj.mp hr];refine⟨hl,h0,hz.comb (by omega) ly e,fun i hi=>?_,hb⟩;refine sG (g:=g) (by omega) ?_;rw[e,hw i (fun q=>hi (by simp[q]))];have:y (d+1+i)=0:=Qs.at_zero (fun x ⟨p,hp,ex⟩=>by rw[ex];exact (h.pl p hp).2.2.2.2.2 i (fun q=>hi (ax _ (h.sub i q)))) hy;rw[this];simp
 ·rcases ai.mp hz' with q | q
  ·exact (h.sp z' q).mono fun x hx=>by
    rcases hx with⟨p,hp,ex⟩ | ⟨r,hr,ex⟩
    ·exact .inl ⟨p,hp,ex⟩
    ·exact .inr ⟨r,ax _ hr,ex⟩
  ·rw[aj.mp q];exact .lin (s:=s) (a:=g) (b:=-1) (.of (.inr ⟨left,by simp,rfl⟩)) (hy.mono fun x ⟨p,hp,ex⟩=>.inl ⟨p,hp,ex⟩) (by omega) fun i=>by have:=e i;omega
theorem G5{us:List (List Int)}{d B:Nat}{dn:List Nat}{pv:List (Nat×List Int)}{rs:List (List Int)}{ix:List Nat}(h:PV us d B dn pv rs ix){z:Nat}{left:List Int}(hz:jK us d (vc (wr us z)))(hw:∀i,i≠z→vc (wr us z) (d+1+i)=0){g s:Int}{y:Vc}(hg:0<g)(hs:0<s)(hy:Qs (NX pv) y)(e:∀i,g*vc left i=s*vc (wr us z) i+1*y i)
  (hl:left.length=d+1+us.length) (hp0:∀p∈pv,vc left p.1=0) (hb:∀x∈left,Bn (B+pv.length*(Pq B pv.length+1)) x) {a:Nat} (ha:a<d) (hna:vc left a≠0) (f:Nat×List Int→List Int)
  (hf:∀p∈pv,(f p).length=p.2.length∧(∀x∈f p,Bn (Pq B (pv.length+1)) x)∧vc (f p) a=0∧∃g s b:Int,0<g∧0<s∧∀i,g*vc (f p) i=s*vc p.2 i+b*vc left i) :
  PV us d B (dn++[z]) (pv.map (fun p=>(p.1,f p))++[(a,left)]) rs (ix++[z]):=by
 have ly:jK us d y:=jK.qs (fun x ⟨p,hp,ex⟩=>by rw[ex];exact (h.pl p hp).2.2.2.2.1) hy;have ll:jK us d (vc left):=hz.comb (by omega) ly e;have wl:∀i,i∉ix++[z]→vc left (d+1+i)=0:=fun i hi=>by refine sG (g:=g) (by omega) ?_;rw[e,hw i (fun q=>hi (by simp[q]))];have:y (d+1+i)=0:=Qs.at_zero (fun x ⟨p,hp,ex⟩=>by rw[ex];exact (h.pl p hp).2.2.2.2.2 i (fun q=>hi (ax _ q))) hy;rw[this];simp
 have ne:∀p∈pv,p.1≠a:=fun p hp q=>hna (q▸hp0 p hp);refine⟨by simp[h.len],fun p hp=>?_,?_,fun r hr=>?_,fun i hi=>?_,fun z' hz'=>?_⟩
 ·simp only[aS,aw,bP];rcases ai.mp hp with hp | hp
  ·obtain⟨p',hp',rfl⟩:=aC.mp hp;obtain⟨a1,a2,a3,a4,a5,a6⟩:=h.pl p' hp';obtain⟨f1,f2,f3,g1,s1,b1,hg1,hs1,v1⟩:=hf p' hp';refine⟨a1,by rw[f1,a2],fun q=>a3 ?_,f2,a5.comb (by omega) ll v1,fun i hi=>?_⟩
   ·have:=v1 p'.1;rw[q,hp0 p' hp',cL,cL,Int.add_zero] at this;exact sG (g:=s1) (by omega) this.symm
   ·refine sG (g:=g1) (by omega) ?_;rw[v1,a6 i (fun q=>hi (ax _ q)),wl i hi];simp
  ·rw[aj.mp hp];exact⟨ha,hl,hna,fun x hx=>(hb x hx).mono (by show _≤Pq B pv.length+(B+pv.length*(Pq B pv.length+1))+1;omega),ll,wl⟩
 ·refine dz.mpr ⟨dy.mpr (h.pw.imp_of_mem fun {p q} hp hq r=>?_),dA _ _,fun p hp q hq=>?_⟩
  ·obtain⟨r1,r2,r3⟩:=r;obtain⟨_,_,_,g1,s1,b1,hg1,hs1,v1⟩:=hf p hp;obtain⟨_,_,_,g2,s2,b2,hg2,hs2,v2⟩:=hf q hq;refine⟨r1,sG (g:=g2) (by omega) ?_,sG (g:=g1) (by omega) ?_⟩
   ·rw[v2,r2,hp0 p hp];simp
   ·rw[v1,r3,hp0 q hq];simp
  ·obtain⟨p',hp',rfl⟩:=aC.mp hp;rw[aj.mp hq];exact⟨ne p' hp',hp0 p' hp',(hf p' hp').2.2.1⟩
 ·obtain⟨a1,a2,a3,a4,a5⟩:=h.rr r hr;exact⟨a1,a2,a3,fun i hi=>a4 i (fun q=>hi (ax _ q)),a5⟩
 ·rcases ai.mp hi with hi | hi
  ·exact ax _ (h.sub i hi)
  ·exact bq _ hi
 ·let Pn:Vc→Prop:=fun x=>(∃p∈pv.map (fun p=>(p.1,f p))++[(a,left)],x=vc p.2)∨∃r∈rs,x=vc r;have ql:Qs Pn (vc left):=.of (.inl ⟨(a,left),by simp,rfl⟩);have qp:∀p∈pv,Qs Pn (vc p.2):=fun p hp=>by obtain⟨_,_,_,g1,s1,b1,hg1,hs1,v1⟩:=hf p hp;exact .lin (s:=s1) (a:=g1) (b:=-b1) (.of (.inl ⟨(p.1,f p),ax _ (aC.mpr ⟨p,hp,rfl⟩),rfl⟩)) ql (by omega) fun i=>by have:=v1 i;have e2:-b1*vc left i = -(b1*vc left i):=Int.neg_mul _ _;dsimp only at this ⊢;omega
  rcases ai.mp hz' with q | q
  ·exact (h.sp z' q).sub fun x hx=>by
    rcases hx with⟨p,hp,ex⟩ | ⟨r,hr,ex⟩
    ·rw[ex];exact qp p hp
    ·exact .of (.inr ⟨r,hr,ex⟩)
  ·rw[aj.mp q];exact .lin (s:=s) (a:=g) (b:=-1) ql (hy.sub fun x ⟨p,hp,ex⟩=>by rw[ex];exact qp p hp) (by omega) fun i=>by have:=e i;omega
structure Qr(d B:Nat):Prop where
 b1:1≤B
 le:∀k,k≤d→B+k*(Pq B k+1)≤8000
 pq:Pq B d≤8000
theorem Pi(us:List (List Int))(d k:Nat)(hk:k<us.length)(hl:∀u∈us,u.length=d+1):∀i,i≠k→vc (wr us k) (d+1+i)=0:=fun i hi=>by rw[Ak us d k hk hl,aQ (by omega),aQ (by omega)]
theorem Cc(us:List (List Int))(d B:Nat)(hd:d≤4)(hn:us.length≤8)(hl:∀u∈us,u.length=d+1)(hb:∀u∈us,∀x∈u,Bn B x)(hB:Qr d B)(zs:List Nat)(hz:∀z∈zs,z<us.length)(hzl:zs.length≤8) :
  ∃pv rs ix,iF c [.lst ((zs.map (wr us)).map tI),.int (d:Int)]=.ok (.tup [.lst (pv.map jZ),.lst (rs.map tI)])∧PV us d B zs pv rs ix∧rs.length≤8:=by
 have sz:1000<sizeLine:=by decide
 have hrm:yM (d:Int)=true:=iQ (by omega);obtain⟨ρ,e,pv,rs,ix,x4,x5,x6,rfl,hI,hrs⟩:=gq (m:=iK 4) (g:=jv c) (fun z=>tI (wr us z))
  (fun k ρ=>∃(pv:List (Nat×List Int)) (rs:List (List Int)) (ix:List Nat) (x4 x5 x6:Option W),ρ=[some (.p (.lst ((zs.map (wr us)).map tI))),some (.p (.int (d:Int))),some (.p (.lst (pv.map jZ))),some (.o (rs.map tI)),x4,x5,x6]∧PV us d B (zs.take k) pv rs ix∧rs.length≤k)
  zs 0 _ ⟨[],[],[],none,none,none,rfl,⟨rfl,(fun p hp=>nomatch hp),List.Pairwise.nil,(fun p hp=>nomatch hp),(fun p hp=>nomatch hp),(fun z hz=>by simp at hz)⟩,aJ _⟩ (by
   rintro k z ρ hi ⟨pv,rs,ix,x4,x5,x6,rfl,hI,hrs⟩;rw[aF] at hI hrs ⊢;have hzk:=hz z (au hi);have hkl:k<zs.length:=(aa.mp hi).1;have hpl:=hI.short;have hlin:=He us d z hzk hl;have hww:=Pi us d z hzk hl;have hbb:=hB.le pv.length hpl;obtain⟨left,el,hll,hlb,⟨g,s,y,hg,hs,hy,ey⟩,h0⟩:=A2 (c:=c) (NX pv) (d+1+us.length) (Pq B pv.length) B (by omega) pv (wr us z) hbb (A7 us d z hzk hl) (Lg hB.b1 us z hzk hb) (fun p hp=>by obtain⟨q1,q2,q3,q4,_⟩:=hI.pl p hp;exact⟨by omega,q2,q3,q4,p,hp,rfl⟩) (hI.pw.imp fun h=>h.2.1)
   let pl:List Nat:=(List.range d).filter fun j=>left.getD j 0 != 0;let R:En:=[some (.p (.lst ((zs.map (wr us)).map tI))),some (.p (.int (d:Int))),some (.p (.lst (pv.map jZ))),some (.o (rs.map tI)),some (.p (tI (wr us z))),some (.p (tI left)),some (.p (.lst (pl.map fun (j:Nat)=>T.int (j:Int))))];have e4:iE [none,some 5] (jh (dP (dQ 1) dW)) (gZ 0) (fN (eC (eU true) (eC fV (dQ 1) (dQ 0)) (cM (.int 0)))) (lG c) (kf [some (.p (.lst ((zs.map (wr us)).map tI))),some (.p (.int (d:Int))),some (.p (.lst (pv.map jZ))),some (.o (rs.map tI)),some (.p (tI (wr us z))),some (.p (tI left)),x6])=.ok (pl.map fun (j:Nat)=>T.int (j:Int)):=nP (List.range d) (fun (j:Nat)=>T.int (j:Int)) (fun (j:Nat)=>T.int (j:Int)) (fun j=>left.getD j 0 != 0) (by simp[hrm,JQ]) (by simp;omega) (fun j hj=>⟨_,rfl,eK (dZ (dZ rfl rfl (iB left j (by have:=aR.mp hj;omega))) rfl (iz _ _)),fun _=>rfl⟩) rfl
   have hlays:ou (pl.map fun (j:Nat)=>T.int (j:Int))=true:=qQ _ _ fun _ _=>rfl;have hdeps:v7 (pl.map fun (j:Nat)=>T.int (j:Int))≤90:=aM (qN _ 0 _ fun _ _=>aJ _) (by decide);have hcond:fN (eC (eU false) (dQ 6) (fj (lstM dW))) (vw R)=.ok pl.isEmpty:=by refine eK (dZ (x:=.lst (pl.map fun (j:Nat)=>T.int (j:Int))) (y:=.lst []) rfl (by simp) ?_);rw[uv false _ hlays hdeps];simp
   have pre:∀r,(jy (fN (eC (eU false) (dQ 6) (fj (lstM dW)))) (nX 3 (gE (dQ 5))) (setO 2 (gE (fj (ig (dP (dQ 2) (dP (dQ 5) (dP (eC fV (dQ 6) (cM (.int 0))) dW))) (jV c)))))) R=r→
     jv c [some (.p (.lst ((zs.map (wr us)).map tI))),some (.p (.int (d:Int))),some (.p (.lst (pv.map jZ))),some (.o (rs.map tI)),some (.p (tI (wr us z))),x5,x6]=r:=fun r hr=>
    d8 (eG (t:=tI left) (fX rfl rfl el) rfl) (d8 (eG (t:=.lst (pl.map fun (j:Nat)=>T.int (j:Int))) (fM e4) rfl) hr)
   have mono:B+pv.length*(Pq B pv.length+1)≤B+d*(Pq B d+1):=Nat.add_le_add_left (dB hpl (Nat.add_le_add_right (Li hpl) 1)) _;have tk:zs.take (k+1)=zs.take k++[z]:=gW zs k z hi;cases hle:pl with
   | nil=>refine⟨_,_,rfl,.inl (pre _ (fG (by rw[hcond,hle];rfl) (qg (t:=tI left) rfl rfl (by simp;omega) rfl))),pv,rs++[left],ix,_,_,_,by rw[aY];rfl,?_,by simp;omega⟩;rw[tk];refine Jv hI hlin hww hg hs hy ey hll (fun i him=>?_) (fun x hx=>(hlb x hx).mono mono);refine aN fun hc=>?_;have:i∈pl:=aT.mpr ⟨aR.mpr him,by simpa[vc] using hc⟩;rw[hle] at this;exact nomatch this
   | cons j0 js=>
    have hj0:j0∈pl:=by rw[hle];exact bf ..
    have hj0m:j0<d:=aR.mp (aT.mp hj0).1;have hj0n:vc left j0≠0:=by have:=(aT.mp hj0).2;simpa[vc] using this
    have hroom:pv.length+1≤d:=by
     have nd:(j0::pv.map Prod.fst).Nodup:=bD.mpr ⟨fun hm=>by obtain⟨p,hp,ep⟩:=aC.mp hm;exact hj0n (ep▸h0 p hp),dy.mpr (hI.pw.imp fun q=>q.1)⟩
     have:=vC d _ nd fun x hx=>by
      rcases aE.mp hx with rfl | hx
      ·exact hj0m
      ·obtain⟨p,hp,rfl⟩:=aC.mp hx;exact (hI.pl p hp).1
     simpa using this
    have hP:Pq B (pv.length+1)≤8000:=aM (Li hroom) hB.pq;obtain⟨f,hf⟩:=su (P:=fun (p:Nat×List Int) (r:List Int)=>gI c [tI p.2,tI left,.int (j0:Int)]=.ok (tI r)∧r.length=p.2.length∧(∀x∈r,Bn (Pq B (pv.length+1)) x)∧vc r j0=0∧∃g s b:Int,0<g∧0<s∧∀i,g*vc r i=s*vc p.2 i+b*vc left i) pv fun p hp=>by obtain⟨q1,q2,q3,q4,_⟩:=hI.pl p hp;obtain⟨r,a1,a2,a3,a4,g,s,b,a5,a6,a7,_⟩:=vf (c:=c) (Pq B pv.length) (B+pv.length*(Pq B pv.length+1)) p.2 left j0 (by omega) (by omega) (by omega) hP q4 hlb hj0n;exact⟨r,a1,a2,a3,a4,g,s,b,a5,a6,a7⟩
    have i0:eC fV (dQ 6) (cM (.int 0)) (kf R)=.ok (.int (j0:Int)):=dZ (x:=.lst (pl.map fun (j:Nat)=>T.int (j:Int))) rfl rfl (by rw[hle];exact N3 _ _);have e5:=wL (c:=c) pv left j0 f (by omega) fun p hp=>(hf p hp).1;refine⟨_,_,rfl,.inl (pre _ (fz (by rw[hcond,hle];rfl) (eG (fM (Bk rfl rfl i0 e5)) rfl))),_,rs,ix++[z],_,_,_,rfl,?_,by omega⟩;rw[tk];exact G5 hI hlin hww hg hs hy ey hll h0 hlb hj0m hj0n f fun p hp=>(hf p hp).2)
 rw[aF,cK] at hI;rw[aF] at hrs;refine⟨pv,rs,ix,fw rfl (d8 (eG (t:=.lst []) (by simp) rfl) (d8 (lF (ts:=[]) (by simp) rfl) (d8 (gN (by rw[aH];rfl) e) (eN (nt rfl rfl))))),hI,by omega⟩
def n8(pv:List (Nat×List Int))(d:Nat):List Nat:=(List.range d).filter fun k=>!(pv.map Prod.fst).contains k
theorem Gw(neg:Bool)(k:Nat)(l:List Nat):GJ neg (.int (k:Int)) (.lst (l.map fun (j:Nat)=>T.int (j:Int)))=.ok (.bl (if neg then !l.contains k else l.contains k)):=by
 have h1:(l.map fun (j:Nat)=>T.int (j:Int)).all iY=true:=b6.mpr fun x hx=>by obtain⟨y,-,rfl⟩:=aC.mp hx;rfl
 have h2:tE (.int (k:Int)) (l.map fun (j:Nat)=>T.int (j:Int))=l.contains k:=by
  unfold tE;rw[b4,List.contains_eq_any_beq];congr 1;funext a;show pB (T.int (a:Int)) (T.int (k:Int))=(k == a);rw[pB];by_cases h:k=a
  ·subst h;simp
  ·have h':¬((a:Int)=(k:Int)):=by omega
   rw[beq_eq_false_iff_ne.mpr h',beq_eq_false_iff_ne.mpr h]
 show (if iY (T.int (k:Int))&&(l.map fun (j:Nat)=>T.int (j:Int)).all iY then _ else _)=_;rw[h1,h2];rfl
theorem uO(pv:List (Nat×List Int))(d:Nat)(hd:d≤10)(hp:pv.length≤100):kz c [.lst (pv.map jZ),.int (d:Int)]=.ok ((n8 pv d).map fun (j:Nat)=>T.int (j:Int)):=by
 have sz:1000<sizeLine:=by decide
 have hrm:yM (d:Int)=true:=iQ (by omega);refine lC rfl (d8 (eG (t:=.lst ((pv.map Prod.fst).map fun (j:Nat)=>T.int (j:Int))) (fM (gQ pv jZ (fun p=>T.int (p.1:Int)) rfl (by omega) (fun p hp=>⟨_,rfl,rfl,rfl⟩) (by rw[aH];rfl))) rfl) (oW ?_));exact nP (List.range d) (fun (j:Nat)=>T.int (j:Int)) (fun (j:Nat)=>T.int (j:Int)) (fun k=>!(pv.map Prod.fst).contains k) (by simp[hrm,JQ]) (by simp;omega) (fun j hj=>⟨_,rfl,eK (dZ rfl rfl (Gw true j _)),fun _=>rfl⟩) rfl
structure Jn(a:Nat)(x y r:List Int):Prop where
 len:r.length=x.length
 at0:vc r a=0
 ex:∃g:Int,0<g∧∀i,g*vc r i = -vc y a*vc x i+vc x a*vc y i
theorem Ez(N:Nat)(x y:List Int)(a:Nat)(ha:a<x.length)(hl:y.length=x.length)(hs:x.length<1000)(hN:2*N+1≤8000)(hx:∀i∈x,Bn N i)(hy:∀i∈y,Bn N i)(hp:0<vc x a)(hn:vc y a<0) :
  ∃r,gI c [tI x,tI y,.int (a:Int)]=.ok (tI r)∧Jn a x y r∧∀i∈r,Bn (2*N+1) i:=by
 obtain⟨r,e,l,b,z,g,s,w,hg,hs',v,q⟩:=vf (c:=c) N N x y a ha hl hs (by omega) hx hy (by omega);obtain⟨q1,q2⟩:=q (by omega);have sg:pY (vc y a) = -1:=by unfold pY;rw[aQ (by omega),aP hn]
 refine⟨r,e,⟨l,z,g,hg,fun i=>?_⟩,fun i hi=>(b i hi).mono (by omega)⟩;have e1:s = -vc y a:=by omega
 have e2:w=vc x a:=by rw[q2,sg];omega
 rw[v i,e1,e2]
def E6(d:Nat)(r:List Int):Nat:=((r.drop (d+1)).filter fun w=>w != 0).length
theorem zU(kvs:List (List Int×T))(k:List Int)(t:T):(tJ kvs k t).map Prod.fst=if (kvs.map Prod.fst).contains k then kvs.map Prod.fst else kvs.map Prod.fst++[k]:=by
 have h:(kvs.any fun kv=>decide (kv.1=k))=(kvs.map Prod.fst).contains k:=by
  rw[List.contains_eq_any_beq,b4];congr 1;funext kv;by_cases q:kv.1=k
  ·simp[q]
  ·have:¬(k=kv.1):=fun z=>q z.symm;simp[q,this]
 unfold tJ;rw[h];split
 ·rw[aH];refine List.map_congr_left fun kv _=>?_;show (if kv.1=k then (kv.1,t) else kv).1=kv.1;split<;>rfl
 ·simp
theorem DL{kvs:List (List Int×T)}{k r:List Int}{t:T}:r∈(tJ kvs k t).map Prod.fst↔r∈kvs.map Prod.fst∨r=k:=by
 rw[zU];split
 ·rename_i h;constructor
  ·exact .inl
  ·rintro (q | rfl)
   ·exact q
   ·simpa using h
 ·simp
theorem Dt(kvs:List (List Int×T))(k:List Int)(t:T):(tJ kvs k t).length≤kvs.length+1:=by have:=congrArg List.length (zU kvs k t);rw[aw] at this;rw[this];split<;>simp
theorem qt(r:List Int)(d:Nat){f:Pe→M T}{ρ:Pe}(h:f ρ=.ok (tI r)){fd:Pe→M T}(hd:fd ρ=.ok (.int (d:Int))):jN f (gU (eC gB fd (cM (.int 1)))) (fun _=>.ok none) ρ=.ok (tI (r.drop (d+1))):=by
 have e1:gU (eC gB fd (cM (.int 1))) ρ=.ok (some ((d+1:Nat):Int)):=by have:eC gB fd (cM (.int 1)) ρ=.ok (.int ((d+1:Nat):Int)):=dZ hd rfl (by rw[gw];simp);simp only[gU,this,M.bind_ok]
 simp only[jN,h,e1,M.bind_ok,tI];rw[ya,List.map_drop]
theorem J6{f:Pe→M T}{ρ:Pe}{r:List Int}(h:f ρ=.ok (tI r)):fY f ρ=.ok (r.map T.int):=by unfold fY;rw[h];rfl
structure Sh(d a:Nat)(rows:List (List Int))(most N:Nat)(ks:List (List Int)):Prop where
 from_:∀r∈ks,(r∈rows∧vc r a=0)∨∃x∈rows,∃y∈rows,0<vc x a∧vc y a<0∧Jn a x y r
 bn:∀r∈ks,∀i∈r,Bn (2*N+1) i
theorem C0{i:Nat}{ρ:En}{fk f:Pe→M T}{kvs:List (List Int×T)}{k:List Int}{t:T}(ho:ρ[i]? = some (some (.d kvs)))(hk:fk (vw ρ)=.ok (tI k))(hf:f (vw ρ)=.ok t)(hl:lf t=true)(hz:kvs.length<sizeLine):vy i (mB fk) (mB f) ρ=.nx (ρ.set i (some (.d (tJ kvs k t)))):=by
 unfold vy sv mB;rw[ho,hk,hf];have hl2:lf (tI k)=true:=HH k;simp only[M.bind_ok,hl,hl2,if_true,O.of_ok];show (match i6 (k.map T.int) with
  | some ns=>if kvs.length<sizeLine then O.nx (ρ.set i (some (.d (tJ kvs ns t)))) else .bad
  | none=>.bad)=_
 rw[Fv];simp only[hz,if_true]
theorem EK(d a most N:Nat)(L:Nat)(hL:L<1000)(hd:d<L)(ha:a<L)(hN:2*N+1≤8000)(rows:List (List Int))(hrl:rows.length≤2000)(hr:∀r∈rows,r.length=L∧∀i∈r,Bn N i) :
  ∃ks:List (List Int),qK c [.lst (rows.map tI),.int (d:Int),.int (a:Int),.int (most:Int)]=.ok (ks.map tI)∧Sh d a rows most N ks∧(∀m,4≤m→rows.length≤m→4*ks.length≤m*m)∧(∀r∈rows,vc r a=0→r∈ks)∧∀x∈rows,∀y∈rows,0<vc x a→vc y a<0→∃r,Jn a x y r∧(E6 d r≤most→r∈ks):=by
 have sz:10000000<sizeLine:=by decide
 have ixr:∀r∈rows,fV (tI r) (.int (a:Int))=.ok (.int (vc r a)):=fun r hr'=>iB r a (by rw[(hr r hr').1];exact ha);let R0 (kvs:List (List Int×T)) (x5 x6 x7 x8:Option W):En:=[some (.p (.lst (rows.map tI))),some (.p (.int (d:Int))),some (.p (.int (a:Int))),some (.p (.int (most:Int))),some (.d kvs),x5,x6,x7,x8];obtain⟨ρ1,e1,kvs1,x5,rfl,h1,h1l⟩:=gq (m:=iK 5) (g:=xY c) tI
  (fun k ρ=>∃(kvs:List (List Int×T)) (x5:Option W),ρ=R0 kvs x5 none none none∧(∀r,r∈kvs.map Prod.fst↔r∈rows.take k∧vc r a=0)∧kvs.length≤((rows.take k).filter fun r=>decide (vc r a=0)).length)
  rows 0 (R0 [] none none none none) ⟨[],none,rfl,fun r=>by simp,by simp⟩ (by
   rintro k r ρ hi ⟨kvs,x5,rfl,h,hk⟩;rw[aF] at h hk ⊢;have hm:=au hi;have hkr:k<rows.length:=(aa.mp hi).1;have tk:rows.take (k+1)=rows.take k++[r]:=gW rows k r hi;have tl:((rows.take k).filter fun r=>decide (vc r a=0)).length≤k:=aM (dC _ _) (by simp;omega);by_cases h0:vc r a=0
   ·refine⟨_,_,rfl,.inl (fG (eK (dZ (dZ rfl rfl (ixr r hm)) rfl (by rw[fS,h0];rfl))) (C0 (k:=r) (t:=.bl true) rfl rfl rfl rfl (by omega))),tJ kvs r (.bl true),some (.p (tI r)),rfl,fun r'=>?_,aM (Dt _ _ _) (by rw[tk,List.filter_append,aS];simp[h0];exact hk)⟩;rw[DL,h,tk];constructor
    ·rintro (⟨q1,q2⟩ | rfl)
     ·exact⟨ax _ q1,q2⟩
     ·exact⟨by simp,h0⟩
    ·rintro⟨q1,q2⟩;rcases ai.mp q1 with q | q
     ·exact .inl ⟨q,q2⟩
     ·exact .inr (aj.mp q)
   ·refine⟨_,_,rfl,.inl (fz (eK (dZ (dZ rfl rfl (ixr r hm)) rfl (by rw[fS];simp[h0]))) rfl),kvs,some (.p (tI r)),rfl,fun r'=>?_,aM hk (by rw[tk,List.filter_append,aS];omega)⟩;rw[h,tk];constructor
    ·rintro⟨q1,q2⟩;exact⟨ax _ q1,q2⟩
    ·rintro⟨q1,q2⟩;rcases ai.mp q1 with q | q
     ·exact⟨q,q2⟩
     ·rw[aj.mp q] at q2;exact absurd q2 h0)
 rw[aF,cK] at h1 h1l;have zl:(rows.filter fun r=>decide (vc r a=0)).length≤rows.length:=dC _ _;let ps:=rows.filter fun r=>decide (0<vc r a);let ns:=rows.filter fun r=>decide (vc r a<0);have mp:∀x,x∈ps↔x∈rows∧0<vc x a:=fun x=>by show x∈List.filter _ _↔_;simp
 have mn:∀x,x∈ns↔x∈rows∧vc x a<0:=fun x=>by show x∈List.filter _ _↔_;simp
 have pl:ps.length≤rows.length:=dC _ _;have nl:ns.length≤rows.length:=dC _ _;obtain⟨J,hJ⟩:∃J:List Int×List Int→List Int,∀p∈(ps.flatMap fun x=>ns.map fun y=>(x,y)),gI c [tI p.1,tI p.2,.int (a:Int)]=.ok (tI (J p))∧Jn a p.1 p.2 (J p)∧∀i∈J p,Bn (2*N+1) i:=su (P:=fun (p:List Int×List Int) (r:List Int)=>gI c [tI p.1,tI p.2,.int (a:Int)]=.ok (tI r)∧Jn a p.1 p.2 r∧∀i∈r,Bn (2*N+1) i) _ fun p hp=>by obtain⟨x,hx,hp⟩:=dD.mp hp;obtain⟨y,hy,rfl⟩:=aC.mp hp;obtain⟨x1,x2⟩:=(mp x).mp hx;obtain⟨y1,y2⟩:=(mn y).mp hy;exact Ez (c:=c) N x y a (by rw[(hr x x1).1];exact ha) (by rw[(hr x x1).1,(hr y y1).1]) (by rw[(hr x x1).1];exact hL) hN (hr x x1).2 (hr y y1).2 x2 y2
 have hJm:∀x∈ps,∀y∈ns,gI c [tI x,tI y,.int (a:Int)]=.ok (tI (J (x,y)))∧Jn a x y (J (x,y))∧∀i∈J (x,y),Bn (2*N+1) i:=fun x hx y hy=>hJ (x,y) (dD.mpr ⟨x,hx,aC.mpr ⟨y,hy,rfl⟩⟩);have ePs:∀ρ:En,ρ[0]? = some (some (.p (.lst (rows.map tI))))→ρ[2]? = some (some (.p (.int (a:Int))))→True:=fun _ _ _=>trivial;have inner:∀(x:List Int),x∈ps→∀(kvs:List (List Int×T)) (x5 x7 x8:Option W),kvs.length+ns.length≤9000000→∃(kvs':List (List Int×T)) (y7 y8:Option W),iA (iK 7) (rZ c) (ns.map tI) (R0 kvs x5 (some (.p (tI x))) x7 x8)=.nx (R0 kvs' x5 (some (.p (tI x))) y7 y8)∧
   (∀r,r∈kvs'.map Prod.fst↔r∈kvs.map Prod.fst∨∃y∈ns,r=J (x,y)∧E6 d (J (x,y))≤most)∧kvs'.length≤kvs.length+ns.length:=by
  intro x hx kvs x5 x7 x8 hsz;obtain⟨ρ2,e2,kvs',y7,y8,rfl,h2,h2l⟩:=gq (m:=iK 7) (g:=rZ c) tI
   (fun k ρ=>∃(kvs':List (List Int×T)) (y7 y8:Option W),ρ=R0 kvs' x5 (some (.p (tI x))) y7 y8∧(∀r,r∈kvs'.map Prod.fst↔r∈kvs.map Prod.fst∨∃y∈ns.take k,r=J (x,y)∧E6 d (J (x,y))≤most)∧kvs'.length≤kvs.length+k)
   ns 0 (R0 kvs x5 (some (.p (tI x))) x7 x8) ⟨kvs,x7,x8,rfl,fun r=>by simp,aJ _⟩ (by
    rintro k y ρ hi ⟨kvs',y7,y8,rfl,h,hk⟩;rw[aF] at h hk ⊢;have hm:=au hi;have hkr:k<ns.length:=(aa.mp hi).1;have tk:ns.take (k+1)=ns.take k++[y]:=gW ns k y hi;obtain⟨f1,f2,f3⟩:=hJm x hx y hm;have sl:jN (dQ 8) (gU (eC gB (dQ 1) (cM (.int 1)))) (fun _=>.ok none) (vw (R0 kvs' x5 (some (.p (tI x))) (some (.p (tI y))) (some (.p (tI (J (x,y)))))))=.ok (tI ((J (x,y)).drop (d+1))):=qt (J (x,y)) d rfl rfl;have lenJ:(J (x,y)).length=L:=by rw[f2.len,(hr x ((mp x).mp hx).1).1]
    have lc:iE [none] (fY (jN (dQ 8) (gU (eC gB (dQ 1) (cM (.int 1)))) (fun _=>.ok none))) (gZ 0) (fN (eC (eU true) (dQ 0) (cM (.int 0)))) (sr c) (vw (R0 kvs' x5 (some (.p (tI x))) (some (.p (tI y))) (some (.p (tI (J (x,y)))))))=.ok ((((J (x,y)).drop (d+1)).filter fun w=>w != 0).map T.int):=nP ((J (x,y)).drop (d+1)) T.int T.int (fun w=>w != 0) (J6 sl) (by simp;omega) (fun w hw=>⟨_,rfl,eK (dZ rfl rfl (by rw[iz];rfl)),fun _=>rfl⟩) rfl
    have cond:fN (eC HL (iU iZ (dP (fj (iE [none] (fY (jN (dQ 8) (gU (eC gB (dQ 1) (cM (.int 1)))) (fun _=>.ok none))) (gZ 0) (fN (eC (eU true) (dQ 0) (cM (.int 0)))) (sr c))) dW)) (dQ 3)) (vw (R0 kvs' x5 (some (.p (tI x))) (some (.p (tI y))) (some (.p (tI (J (x,y)))))))=.ok (decide (E6 d (J (x,y))≤most)):=by
     refine eK (dZ (x:=.int (E6 d (J (x,y)):Int)) (y:=.int (most:Int)) (lD (fM lc) (by simp[E6])) rfl ?_);rw[yV];by_cases q:E6 d (J (x,y))≤most
     ·rw[aB q,aB (by omega)]
     ·rw[aA q,aA (by omega)]
    have st1:setO 8 (gE (eD (dP (dQ 6) (dP (dQ 7) (dP (dQ 2) dW))) (gI c))) (R0 kvs' x5 (some (.p (tI x))) (some (.p (tI y))) y8)=.nx (R0 kvs' x5 (some (.p (tI x))) (some (.p (tI y))) (some (.p (tI (J (x,y)))))):=eG (iP rfl rfl rfl f1) rfl;by_cases q:E6 d (J (x,y))≤most
    ·refine⟨_,_,rfl,.inl (d8 st1 (fG (by rw[cond,aB q]) (C0 (k:=J (x,y)) (t:=.bl true) rfl rfl rfl rfl (by omega)))),tJ kvs' (J (x,y)) (.bl true),some (.p (tI y)),some (.p (tI (J (x,y)))),rfl,fun r=>?_,aM (Dt _ _ _) (by omega)⟩;rw[DL,h,tk];constructor
     ·rintro ((q1 | ⟨y',q1,q2⟩) | rfl)
      ·exact .inl q1
      ·exact .inr ⟨y',ax _ q1,q2⟩
      ·exact .inr ⟨y,by simp,rfl,q⟩
     ·rintro (q1 | ⟨y',q1,q2⟩)
      ·exact .inl (.inl q1)
      ·rcases ai.mp q1 with q3 | q3
       ·exact .inl (.inr ⟨y',q3,q2⟩)
       ·rw[aj.mp q3] at q2;exact .inr q2.1
    ·refine⟨_,_,rfl,.inl (d8 st1 (fz (by rw[cond,aA q]) rfl)),kvs',some (.p (tI y)),some (.p (tI (J (x,y)))),rfl,fun r=>?_,by omega⟩;rw[h,tk];constructor
     ·rintro (q1 | ⟨y',q1,q2⟩)
      ·exact .inl q1
      ·exact .inr ⟨y',ax _ q1,q2⟩
     ·rintro (q1 | ⟨y',q1,q2⟩)
      ·exact .inl q1
      ·rcases ai.mp q1 with q3 | q3
       ·exact .inr ⟨y',q3,q2⟩
       ·rw[aj.mp q3] at q2;exact absurd q2.2 q)
  rw[aF,cK] at h2;rw[aF] at h2l;exact⟨kvs',y7,y8,e2,h2,h2l⟩
 have sq:rows.length*rows.length≤2000*2000:=dB hrl hrl;obtain⟨ρ3,e3,kvs3,y6,y7,y8,rfl,h3,h3l⟩:=gq (m:=iK 6) (g:=xP c) tI
  (fun k ρ=>∃(kvs:List (List Int×T)) (y6 y7 y8:Option W),ρ=R0 kvs x5 y6 y7 y8∧(∀r,r∈kvs.map Prod.fst↔(r∈rows∧vc r a=0)∨∃x∈ps.take k,∃y∈ns,r=J (x,y)∧E6 d (J (x,y))≤most)∧kvs.length≤(rows.filter fun r=>decide (vc r a=0)).length+k*ns.length)
  ps 0 (R0 kvs1 x5 none none none) ⟨kvs1,none,none,none,rfl,fun r=>by rw[h1];simp,by rw[Nat.zero_mul];exact h1l⟩ (by
   rintro k x ρ hi ⟨kvs,y6,y7,y8,rfl,h,hk⟩;rw[aF] at h hk ⊢;have hm:=au hi;have hkr:k<ps.length:=(aa.mp hi).1;have tk:ps.take (k+1)=ps.take k++[x]:=gW ps k x hi;have kn:(k+1)*ns.length≤rows.length*rows.length:=dB (by omega) nl;have kn':(k+1)*ns.length=k*ns.length+ns.length:=bQ _ _;obtain⟨kvs',z7,z8,e,h',hl'⟩:=inner x hm kvs x5 y7 y8 (by omega);have it:fY (fj (iE [none,some 2] (fY (dQ 0)) (gZ 0) (fN (eC C3 (eC fV (dQ 0) (dQ 1)) (cM (.int 0)))) (rR c))) (kf (R0 kvs x5 (some (.p (tI x))) y7 y8))=.ok (ns.map tI):=by
    have:iE [none,some 2] (fY (dQ 0)) (gZ 0) (fN (eC C3 (eC fV (dQ 0) (dQ 1)) (cM (.int 0)))) (rR c) (kf (R0 kvs x5 (some (.p (tI x))) y7 y8))=.ok (ns.map tI):=nP rows tI tI (fun r=>decide (vc r a<0)) rfl (by omega) (fun r hr'=>⟨_,rfl,eK (dZ (dZ rfl rfl (ixr r hr')) rfl (by rw[nE])),fun _=>rfl⟩) rfl
    simp only[fY,fj,this,M.bind_ok]
   refine⟨_,_,rfl,.inl (gN it e),kvs',some (.p (tI x)),z7,z8,rfl,fun r=>?_,by omega⟩;rw[h',h,tk];constructor
   ·rintro ((q1 | ⟨x',q1,q2⟩) | ⟨y,q1,q2⟩)
    ·exact .inl q1
    ·exact .inr ⟨x',ax _ q1,q2⟩
    ·exact .inr ⟨x,by simp,y,q1,q2⟩
   ·rintro (q1 | ⟨x',q1,y,q2,q3⟩)
    ·exact .inl (.inl q1)
    ·rcases ai.mp q1 with q4 | q4
     ·exact .inl (.inr ⟨x',q4,y,q2,q3⟩)
     ·rw[aj.mp q4] at q3;exact .inr ⟨y,q2,q3⟩)
 rw[aF,cK] at h3;rw[aF] at h3l;have it:fY (fj (iE [none,some 2] (fY (dQ 0)) (gZ 0) (fN (eC FB (eC fV (dQ 0) (dQ 1)) (cM (.int 0)))) (rL c))) (kf (R0 kvs1 x5 none none none))=.ok (ps.map tI):=by
  have:iE [none,some 2] (fY (dQ 0)) (gZ 0) (fN (eC FB (eC fV (dQ 0) (dQ 1)) (cM (.int 0)))) (rL c) (kf (R0 kvs1 x5 none none none))=.ok (ps.map tI):=nP rows tI tI (fun r=>decide (0<vc r a)) rfl (by omega) (fun r hr'=>⟨_,rfl,eK (dZ (dZ rfl rfl (ixr r hr')) rfl (by rw[rA])),fun _=>rfl⟩) rfl
  simp only[fY,fj,this,M.bind_ok]
 have kl:ps.length*ns.length≤rows.length*rows.length:=dB pl nl;refine⟨kvs3.map Prod.fst,?_,⟨fun r hr'=>?_,fun r hr'=>?_⟩,fun m hm hrm=>?_,fun r hr' h0=>(h3 r).mpr (.inl ⟨hr',h0⟩),fun x hx y hy px ny=>⟨J (x,y),(hJm x ((mp x).mpr ⟨hx,px⟩) y ((mn y).mpr ⟨hy,ny⟩)).2.1,fun q=>(h3 _).mpr (.inr ⟨x,(mp x).mpr ⟨hx,px⟩,y,(mn y).mpr ⟨hy,ny⟩,rfl,q⟩)⟩⟩
 ·refine lC rfl (d8 (ρ':=R0 [] none none none none) rfl (d8 (gN rfl e1) (d8 (gN it e3) ?_)));show O.rf _=O.rf _;rw[aH];rfl
 ·rcases (h3 r).mp hr' with q | ⟨x,qx,y,qy,rfl,_⟩
  ·exact .inl q
  ·exact .inr ⟨x,((mp x).mp qx).1,y,((mn y).mp qy).1,((mp x).mp qx).2,((mn y).mp qy).2,(hJm x qx y qy).2.1⟩
 ·rcases (h3 r).mp hr' with q | ⟨x,qx,y,qy,rfl,_⟩
  ·exact fun i hi=>((hr r q.1).2 i hi).mono (by omega)
  ·exact (hJm x qx y qy).2.2
 ·have cnt3:(rows.filter fun r=>decide (vc r a=0)).length+ps.length+ns.length=rows.length:=by
   show (List.filter _ _).length+(List.filter _ _).length+(List.filter _ _).length=_;clear hrl hr ixr R0 e1 h1 h1l hJ hJm inner sq e3 h3 h3l it kl mp mn pl nl zl hrm ePs;induction rows with
   | nil=>rfl
   | cons r rows ih=>
    simp only[List.filter_cons,ay];rcases cY (vc r a) 0 with q | q | q
    ·have q1:¬vc r a=0:=by omega
     have q2:¬0<vc r a:=by omega
     simp only[q,q1,q2,decide_true,decide_false,if_true,if_false,ay,bU];omega
    ·have q1:¬vc r a<0:=by omega
     have q2:¬0<vc r a:=by omega
     simp only[q,q1,q2,decide_true,decide_false,if_true,if_false,ay,bU];simp only[Int.lt_irrefl,decide_false,if_false,bU];omega
    ·have q1:¬vc r a<0:=by omega
     have q2:¬vc r a=0:=by omega
     simp only[q,q1,q2,decide_true,decide_false,if_true,if_false,ay,bU];omega
  rw[aw];generalize (rows.filter fun r=>decide (vc r a=0)).length=z at *;generalize ps.length=p at *;generalize ns.length=n at *;refine aM (du 4 h3l) ?_;have a1:4*(p*n)≤(p+n)*(p+n):=by
   have h1:(4*(p*n):Int)≤((p:Int)+n)*(p+n):=by
    have:0≤((p:Int) - n)*(p - n):=by
     rcases Int.le_total (p:Int) n with q | q
     ·exact Int.mul_nonneg_of_nonpos_of_nonpos (by omega) (by omega)
     ·exact aO (by omega) (by omega)
    grind
   have:((4*(p*n):Nat):Int)≤(((p+n)*(p+n):Nat):Int):=by push_cast;exact h1
   exact Int.ofNat_le.mp this
  have a2:4*z+(p+n)*(p+n)≤m*m:=by
   have e:∃k,m=z+(p+n)+k:=⟨m - (z+(p+n)),by omega⟩;obtain⟨k,rfl⟩:=e;have e2:(z+(p+n)+k)*(z+(p+n)+k)=(p+n)*(p+n)+(z+k)*(z+k+2*(p+n)):=by grind
   rw[e2];have:4*z≤(z+k)*(z+k+2*(p+n)):=by
    by_cases h0:z+k+2*(p+n)<4
    ·have:p+n=0∨p+n=1:=by omega
     rcases this with q | q
     ·rw[q];have hz:4≤z+k:=by omega
      have:=dB (bY z k) (show 4≤z+k+2*0 by omega);omega
     ·exfalso;omega
    ·have:=dB (bY z k) (show 4≤z+k+2*(p+n) by omega);omega
   omega
  omega
structure Py(d k j a:Nat)(G G':List (List Int)):Prop where
 from_:∀r∈G',(r∈G∧vc r a=0)∨∃x∈G,∃y∈G,0<vc x a∧vc y a<0∧Jn a x y r
 stay:∀r∈G,vc r a=0→r∈G'
 join:∀x∈G,∀y∈G,0<vc x a→vc y a<0→∃r,Jn a x y r∧(E6 d r≤j+2+k→r∈G')
inductive II(d k:Nat):Nat→List (List Int)→List Nat→List (List (List Int))→Prop
 | nil {j:Nat} {G:List (List Int)}:II d k j G [] [G]
 | cons {j a:Nat} {G G':List (List Int)} {pls:List Nat} {ls:List (List (List Int))}:Py d k j a G G'→II d k (j+1) G' pls ls→II d k j G (a::pls) (G::ls)
theorem II.snoc{d k j:Nat}{G0 G G':List (List Int)}{pls:List Nat}{ls:List (List (List Int))}{a:Nat}(h:II d k j G0 pls (ls++[G]))(s:Py d k (j+pls.length) a G G'):II d k j G0 (pls++[a]) (ls++[G,G']):=by
 generalize hm:ls++[G]=m at h;induction h generalizing ls with
 | nil=>
  rename_i j G1;cases ls with
  | nil=>simp at hm;subst hm;exact .cons s .nil
  | cons x ls=>simp at hm
 | cons s' h' ih=>
  cases ls with
  | nil=>simp at hm;obtain⟨rfl,rfl⟩:=hm;cases h'
  | cons x ls=>simp at hm;obtain⟨rfl,hm⟩:=hm;refine .cons s' (ih ?_ hm);rw[ay] at s;rw[Nat.add_assoc,Nat.add_comm 1];exact s
def Nb(N:Nat):Nat→Nat
 | 0=>N
 | j+1=>2*Nb N j+1
def Mb:Nat→Nat
 | 0=>8
 | j+1=>Mb j*Mb j / 4
theorem DG(N:Nat){i j:Nat}(h:i≤j):Nb N i≤Nb N j:=by
 induction h with
 | refl=>exact aJ _
 | step _ ih=>exact aM ih (by show _≤2*Nb N _+1;omega)
theorem JR{i:Nat}{ρ ρ':En}{us ts:List T}{f:Pe→M (List T)}(ho:ρ[i]? = some (some (.o us)))(h:f (vw ρ)=.ok ts)(hl:FA ts=true)(hz:us.length<sizeLine)(hr:ρ'=ρ.set i (some (.o (us++[.lst ts])))):xS i (wO f) ρ=.nx ρ':=by unfold xS wO kW;rw[ho,h,hr];simp[hz,hl]
theorem CT(xs:List T)(x:T):fV (.lst (xs++[x])) (.int (-1))=.ok x:=by
 have h:oY (xs++[x]) (-1)=some x:=by
  unfold oY xH;have h1:¬((0:Int)≤-1):=by decide
  have h2:1≤(xs.length:Int)+1:=by omega
  have h3:(-1+((xs.length:Int)+1)).toNat=xs.length:=by omega
  simp[h2,h3]
 simp[fV,h]
theorem OQ{ρ:Pe}{f:Pe→M T}{a:T}(h:f ρ=.ok a):lstM (dP f dW) ρ=.ok [a]:=H9 (tN h)
theorem BN(d L N:Nat)(hL:L<1000)(hd:d<L)(rows:List (List Int))(hrl:rows.length≤8)(hr:∀r∈rows,r.length=L∧∀i∈r,Bn N i)(pv:List (Nat×List Int))(hp:pv.length≤100)(pls:List Nat)(hpl:pls.length≤4)(ha:∀a∈pls,a<L)(hN:Nb N pls.length≤8000) :
  ∃ls,oZ c [.lst (rows.map tI),.int (d:Int),.lst (pls.map fun (j:Nat)=>T.int (j:Int)),.lst (pv.map jZ)]=.ok (ls.map fun g=>T.lst (g.map tI))∧II d pv.length 0 rows pls ls∧∀(i:Nat) G,ls[i]? = some G→∀r∈G,r.length=L∧∀x∈r,Bn (Nb N i) x:=by
 have sz:1000<sizeLine:=by decide
 let R (ls:List (List (List Int))) (x5 x6:Option W):En:=[some (.p (.lst (rows.map tI))),some (.p (.int (d:Int))),some (.p (.lst (pls.map fun (j:Nat)=>T.int (j:Int)))),some (.p (.lst (pv.map jZ))),some (.o (ls.map fun g=>T.lst (g.map tI))),x5,x6];obtain⟨ρ,e,ls,G,x5,x6,rfl,h1,h2,h3,h4⟩:=gq (m:=iK 5) (g:=vJ c) (fun (j:Nat)=>T.int (j:Int))
  (fun k ρ=>∃(ls:List (List (List Int))) (G:List (List Int)) (x5 x6:Option W),ρ=R (ls++[G]) x5 x6∧II d pv.length 0 rows (pls.take k) (ls++[G])∧ls.length=k∧G.length≤Mb k∧∀(i:Nat) H,(ls++[G])[i]? = some H→∀r∈H,r.length=L∧∀x∈r,Bn (Nb N i) x)
  pls 0 (R [rows] none none) ⟨[],rows,none,none,rfl,.nil,rfl,hrl,fun i H hi=>by
   cases i with
   | zero=>simp at hi;subst hi;exact hr
   | succ i=>simp at hi⟩ (by
   rintro k a ρ hi ⟨ls,G,x5,x6,rfl,h1,h2,h3,h4⟩;rw[aF] at h1 h2 h3 ⊢;have hm:=au hi;have hk:k<pls.length:=(aa.mp hi).1;have tk:pls.take (k+1)=pls.take k++[a]:=gW pls k a hi;have hG:∀r∈G,r.length=L∧∀x∈r,Bn (Nb N k) x:=h4 k G (by rw[List.getElem?_append_right (by omega),h2];simp);have hM:Mb k≤1024∧4≤Mb k:=by
    have:k=0∨k=1∨k=2∨k=3:=by omega
    rcases this with rfl | rfl | rfl | rfl<;>decide
   have hNk:2*Nb N k+1≤8000:=aM (DG N (show k+1≤pls.length by omega)) hN;obtain⟨G',f1,f2,f3,f4,f5⟩:=EK (c:=c) d a (k+2+pv.length) (Nb N k) L hL hd (ha a hm) hNk G (by omega) hG;have hlenls:(ls++[G]).length=k+1:=by simp[h2]
   have step:Py d pv.length (0+(pls.take k).length) a G G':=⟨f2.from_,f4,fun x hx y hy px ny=>by obtain⟨r,q1,q2⟩:=f5 x hx y hy px ny;refine⟨r,q1,fun q=>q2 ?_⟩;rw[bF] at q;omega⟩
   have e6:eC gB (eC gB (iU iZ (dP (dQ 4) dW)) (cM (.int 1))) (iU iZ (dP (dQ 3) dW)) (vw (R (ls++[G]) (some (.p (.int (a:Int)))) x6))=.ok (.int ((k+2+pv.length:Nat):Int)):=by refine dZ (x:=.int ((k+2:Nat):Int)) (y:=.int (pv.length:Int)) (dZ (x:=.int ((k+1:Nat):Int)) (lD (t:=.lst ((ls++[G]).map fun g=>T.lst (g.map tI))) rfl (by simp[h2])) rfl (by rw[gw];congr 2)) (lD (t:=.lst (pv.map jZ)) rfl (by simp)) (by rw[gw];congr 2)
   have e7:fV (.lst ((ls++[G]).map fun g=>T.lst (g.map tI))) (.int (-1))=.ok (.lst (G.map tI)):=by rw[aY];exact CT _ _
   refine⟨_,_,rfl,.inl (d8 (ua e6 rfl rfl) (JR (us:=(ls++[G]).map fun g=>T.lst (g.map tI)) rfl (ts:=G'.map tI) (B3 (x:=.lst (G.map tI)) (dZ rfl (uH rfl) e7) rfl rfl rfl f1) (IL _) (by simp[h2];omega) rfl)),ls++[G],G',some (.p (.int (a:Int))),some (.p (.int ((k+2+pv.length:Nat):Int))),?_,?_,by simp[h2],?_,fun i H hH r hr'=>?_⟩
   ·show List.set _ _ _=_;simp[R]
   ·rw[tk];have:=h1.snoc step;simpa using this
   ·have:=f3 (Mb k) hM.2 h3;show _≤Mb k*Mb k / 4;omega
   ·by_cases hik:i<(ls++[G]).length
    ·rw[List.getElem?_append_left hik] at hH;exact h4 i H hH r hr'
    ·rw[List.getElem?_append_right (by omega)] at hH;have hi0:i - (ls++[G]).length=0:=by
      rcases Nat.eq_zero_or_pos (i - (ls++[G]).length) with q | q
      ·exact q
      ·rw[List.getElem?_eq_none (by simp;omega)] at hH;cases hH
     rw[hi0] at hH;simp at hH;subst hH;have hik':i=k+1:=by omega
     subst hik';refine⟨?_,f2.bn r hr'⟩;rcases f2.from_ r hr' with q | ⟨x,hx,y,hy,_,_,hj⟩
     ·exact (hG r q.1).1
     ·rw[hj.len];exact (hG x hx).1)
 rw[aF,cK] at h1;exact⟨ls++[G],lC rfl (d8 (lF (ts:=[.lst (rows.map tI)]) (OQ rfl) rfl) (d8 (gN rfl e) rfl)),h1,h4⟩
end CL
namespace CL
theorem Cn.posQ{P:Vc→Prop}{f:Vc→Rat}(hf:∀x y z (s a b:Int),(∀i,s*z i=a*x i+b*y i)→(s:Rat)*f z=(a:Rat)*f x+(b:Rat)*f y)(hp:∀x,P x→0<f x){z:Vc}(h:Cn P z):0<f z:=by
 induction h with
 | of h=>exact hp _ h
 | lin _ _ hs ha hb hab e i1 i2=>
  rename_i x y z s a b _ _;have q:=hf _ _ _ _ _ _ e;have s0:(0:Rat)<(s:Rat):=pA hs;have:0<(a:Rat)*f x+(b:Rat)*f y:=by
   by_cases h0:a=0
   ·subst h0;have hb':(0:Rat)<(b:Rat):=pA (by omega);have:=c7 hb' i2;simp;grind
   ·have ha':(0:Rat)<(a:Rat):=pA (by omega);have h1:=c7 ha' i1;by_cases b0:b=0
    ·subst b0;simp;grind
    ·have hb':(0:Rat)<(b:Rat):=pA (by omega);have h2:=c7 hb' i2;grind
  rw[←q] at this;refine dE (c:=(s:Rat)) ?_ (dc s0);simpa using this
def Lt(m:Nat)(g:Nat→Vc)(t:Vc):Vc:=fun q=>sm m fun j=>t j*g j q
theorem HW{m:Nat}{g:Nat→Vc}{x y z:Vc}{s a b:Int}(h:∀i,s*z i=a*x i+b*y i)(q:Nat):s*Lt m g z q=a*Lt m g x q+b*Lt m g y q:=by unfold Lt;rw[←vW,←yW];refine i9 m _ _ fun i _=>?_;rw[←cm,h i];grind
theorem Iz(m:Nat)(g:Nat→Vc)(t:Vc)(p:Nat):gP m (fun i=>g i p) t=Lt m g t p:=by unfold gP Lt;exact i9 m _ _ fun i _=>cq _ _
def n5(i:Nat):Vc:=fun j=>if j=i then 1 else 0
theorem ur(m:Nat)(g:Nat→Vc)(i:Nat)(hi:i<m)(q:Nat):Lt m g (n5 i) q=g i q:=by unfold Lt n5;exact yt m i (fun j=>g j q) hi
theorem xw(m:Nat):∀(n:Nat) (u:Vc),cs m u≤n→ja m [] u→Cn (fun x=>∃i,i<m∧x=n5 i) u:=by
 intro n;induction n with
 | zero=>
  intro u hn hu;obtain⟨i,hi⟩:=hu.ne;have im:i<m:=by
   rcases cT i m with h | h
   ·exact h
   ·exact absurd (hu.out i h) hi
  have:=Aw (m:=m) (u:=fun _=>0) (v:=u) (fun _ _ _=>rfl) im hi rfl;omega
 | succ n ih=>
  intro u hn hu;obtain⟨i,hi⟩:=hu.ne;have im:i<m:=by
   rcases cT i m with h | h
   ·exact h
   ·exact absurd (hu.out i h) hi
  have ip:0<u i:=by have:=hu.nn i;omega
  by_cases he:∃j,j≠i∧u j≠0
  ·obtain⟨j,hj,uj⟩:=he;have cn:ja m [] (fun k=>if k=i then 0 else u k):=⟨fun k=>by split;exact cS _;exact hu.nn k,fun k hk=>by split;rfl;exact hu.out k hk,⟨j,by simp[hj,uj]⟩,fun A hA=>nomatch hA⟩;have l:=Aw (m:=m) (u:=fun k=>if k=i then 0 else u k) (v:=u) (fun k _ z=>by split;rfl;exact z) im hi (by simp);refine .lin (s:=1) (a:=u i) (b:=1) (.of ⟨i,im,rfl⟩) (ih _ (by omega) cn) (by decide) (by omega) (by decide) (by omega) fun k=>?_;unfold n5;by_cases q:k=i
   ·subst q;simp
   ·simp[q]
  ·refine .lin (s:=1) (a:=u i) (b:=0) (.of ⟨i,im,rfl⟩) (.of ⟨i,im,rfl⟩) (by decide) (by omega) (by decide) (by omega) fun k=>?_;unfold n5;by_cases q:k=i
   ·subst q;simp
   ·have:u k=0:=aN fun z=>he ⟨k,q,z⟩;simp[q,this]
theorem ux{α:Type}[DecidableEq α]:∀{l m:List α},l.Nodup→(∀x∈l,x∈m)→l.length≤m.length
 | [],_,_,_=>bA _
 | a::l,m,nd,h=>by
  obtain⟨n1,n2⟩:=bD.mp nd;have hm:a∈m:=h a (by simp);have:=ux (m:=m.erase a) n2 fun x hx=>by have ne:x≠a:=fun z=>n1 (z▸hx);exact (List.mem_erase_of_ne ne).mpr (h x (by simp[hx]))
  rw[cQ hm] at this;have:0<m.length:=List.length_pos_of_mem hm;simp only[ay];omega
structure Je(d n:Nat)(ss ix:List Nat)(sd:List (List Int)):Prop where
 len:sd.length=ss.length
 nd:ss.Nodup
 lt:∀i∈ss,i<n
 l:∀r∈sd,r.length=d+1+n
 own:∀j,j<sd.length→vc (sd.getD j []) (d+1+ss.getD j 0)≠0
 oth:∀j,j<sd.length→∀i,i∉ix→i≠ss.getD j 0→vc (sd.getD j []) (d+1+i)=0
def Ly(sd:List (List Int))(As:List Vc)(G:List (List Int))(t:Vc):Prop:=ja sd.length As t∧∃r∈G,∃s:Int,0<s∧∀q,s*vc r q=Lt sd.length (fun j=>vc (sd.getD j [])) t q
theorem LH{d n:Nat}{ss ix:List Nat}{sd:List (List Int)}(h:Je d n ss ix sd){r:List Int}(hl:r.length=d+1+n){t:Vc}{s:Int}(hs:0<s)(e:∀q,s*vc r q=Lt sd.length (fun j=>vc (sd.getD j [])) t q):E6 d r≤cs sd.length t+ix.length:=by
 let A:=((List.range sd.length).filter fun j=>decide (t j≠0)).map fun j=>ss.getD j 0;have hA:A.length=cs sd.length t:=by show (List.map _ _).length=_;rw[aw];unfold cs;rw[cV]
 let I:=(List.range n).filter fun i=>decide (vc r (d+1+i)≠0);have hI:E6 d r=I.length:=by
  unfold E6;have:r.drop (d+1)=(List.range n).map fun i=>vc r (d+1+i):=by refine List.ext_getElem (by simp[hl]) fun i h1 h2=>?_;simp at h1;rw[List.getElem_drop,List.getElem_map,List.getElem_range,rn r (d+1+i) (by omega)]
  rw[this,List.filter_map,aw];congr 2;funext i;simp[bne];rfl
 rw[hI,←hA,←aS];refine ux (List.Pairwise.filter _ cW) fun i hi=>?_;have hi':i<n∧vc r (d+1+i)≠0:=by have:i∈List.filter _ _:=hi;simpa using this
 refine aN fun hne=>hi'.2 ?_;have n1:i∉A:=fun z=>hne (ax _ z);have n2:i∉ix:=fun z=>hne (bq _ z);refine sG (g:=s) (by omega) ?_;rw[e];show sm sd.length (fun j=>t j*vc (sd.getD j []) (d+1+i))=0;rw[i9 sd.length _ (fun _=>0) fun j hj=>?_,uh];by_cases tj:t j=0
 ·rw[tj,cO]
 ·have:i≠ss.getD j 0:=fun z=>n1 (by show i∈List.map _ _;exact aC.mpr ⟨j,aT.mpr ⟨aR.mpr hj,by simpa using tj⟩,z.symm⟩)
  rw[h.oth j hj i n2 this,cL]
theorem ET{d n:Nat}{ss ix:List Nat}{sd:List (List Int)}(h:Je d n ss ix sd){a:Nat}{As:List Vc}{G G':List (List Int)}(hG:∀r∈G,r.length=d+1+n∧∃t,ja sd.length As t∧∃s:Int,0<s∧∀q,s*vc r q=Lt sd.length (fun j=>vc (sd.getD j [])) t q)
  (gen:∀u,ja sd.length As u→Cn (Ly sd As G) u) (st:Py d ix.length As.length a G G') :
  (∀r∈G',r.length=d+1+n∧∃t,ja sd.length ((fun j=>vc (sd.getD j []) a)::As) t∧∃s:Int,0<s∧∀q,s*vc r q=Lt sd.length (fun j=>vc (sd.getD j [])) t q)∧
  ∀u,ja sd.length ((fun j=>vc (sd.getD j []) a)::As) u→Cn (Ly sd ((fun j=>vc (sd.getD j []) a)::As) G') u:=by
 let A:Vc:=fun j=>vc (sd.getD j []) a;have la:∀t,gP sd.length A t=Lt sd.length (fun j=>vc (sd.getD j [])) t a:=fun t=>Iz sd.length (fun j=>vc (sd.getD j [])) t a;have joinP:∀{x y r:List Int} {t t':Vc} {s s':Int},0<s→0<s'→(∀q,s*vc x q=Lt sd.length (fun j=>vc (sd.getD j [])) t q)→(∀q,s'*vc y q=Lt sd.length (fun j=>vc (sd.getD j [])) t' q)→Jn a x y r→
   ∃s2:Int,0<s2∧∀q,s2*vc r q=Lt sd.length (fun j=>vc (sd.getD j [])) (fun i=>(-gP sd.length A t')*t i+gP sd.length A t*t' i) q:=by
  intro x y r t t' s s' hs hs' e e' hj;obtain⟨g,hg,v⟩:=hj.ex;refine⟨s*s'*g,aW (aW hs hs') hg,fun q=>?_⟩;have l1:=HW (m:=sd.length) (g:=fun j=>vc (sd.getD j [])) (x:=t) (y:=t') (z:=fun i=>(-gP sd.length A t')*t i+gP sd.length A t*t' i) (s:=1) (a:=-gP sd.length A t') (b:=gP sd.length A t) (fun i=>by grind) q;rw[cJ] at l1;rw[l1,la,la,←e a,←e' a,←e q,←e' q];have:=v q;calc s*s'*g*vc r q=s*s'*(g*vc r q):=by grind
   _=s*s'*(-vc y a*vc x q+vc x a*vc y q):=by rw[this]
   _=_:=by grind
 have coneJ:∀{t t':Vc},ja sd.length As t→ja sd.length As t'→0<gP sd.length A t→gP sd.length A t'<0→ja sd.length (A::As) (fun i=>(-gP sd.length A t')*t i+gP sd.length A t*t' i):=by
  intro t t' c1 c2 p1 p2;have lin:∀B,gP sd.length B (fun i=>(-gP sd.length A t')*t i+gP sd.length A t*t' i)=(-gP sd.length A t')*gP sd.length B t+gP sd.length A t*gP sd.length B t':=fun B=>by have:=nH (m:=sd.length) (A:=B) (x:=t) (y:=t') (z:=fun i=>(-gP sd.length A t')*t i+gP sd.length A t*t' i) (s:=1) (a:=-gP sd.length A t') (b:=gP sd.length A t) (fun i=>by grind);simpa using this
  obtain⟨j,hj⟩:=c1.ne;have q1:0 < -gP sd.length A t':=by omega
  refine⟨fun i=>?_,fun i hi=>?_,⟨j,?_⟩,fun B hB=>?_⟩
  ·have x1:=aO (az q1) (c1.nn i);have x2:=aO (az p1) (c2.nn i);omega
  ·rw[c1.out i hi,c2.out i hi];simp
  ·have gj:0<t j:=by have:=c1.nn j;omega
   have x1:=aW q1 gj;have x2:=aO (az p1) (c2.nn j);omega
  ·rw[lin B];rcases aE.mp hB with rfl | hB
   ·grind
   ·rw[c1.eq B hB,c2.eq B hB];simp
 have sgnA:∀{r:List Int} {t:Vc} {s:Int},0<s→(∀q,s*vc r q=Lt sd.length (fun j=>vc (sd.getD j [])) t q)→(0<vc r a↔0<gP sd.length A t)∧(vc r a<0↔gP sd.length A t<0)∧(vc r a=0↔gP sd.length A t=0):=fun {r t s} hs e=>by
  rw[la,←e a];refine⟨⟨fun q=>aW hs q,fun q=>?_⟩,⟨fun q=>cX hs q,fun q=>?_⟩,⟨fun q=>by rw[q,cL],fun q=>sG (by omega) q⟩⟩
  ·exact dF (a:=s) (by simpa using q) (az hs)
  ·exact dF (a:=s) (by simpa using q) (az hs)
 refine⟨fun r hr=>?_,fun u hu=>?_⟩
 ·rcases st.from_ r hr with⟨h1,h2⟩ | ⟨x,hx,y,hy,px,ny,hj⟩
  ·obtain⟨l,t,ct,s,hs,e⟩:=hG r h1;exact⟨l,t,⟨ct.nn,ct.out,ct.ne,fun B hB=>by
    rcases aE.mp hB with rfl | hB
    ·exact (sgnA hs e).2.2.mp h2
    ·exact ct.eq B hB⟩,s,hs,e⟩
  ·obtain⟨l,t,ct,s,hs,e⟩:=hG x hx;obtain⟨_,t',ct',s',hs',e'⟩:=hG y hy;obtain⟨s2,h2,e2⟩:=joinP hs hs' e e' hj;exact⟨by rw[hj.len,l],_,coneJ ct ct' ((sgnA hs e).1.mp px) ((sgnA hs' e').2.1.mp ny),s2,h2,e2⟩
 ·refine LR (A:=A) (P:=Ly sd As G) (P':=Ly sd (A::As) G') (fun x hx=>hx.1) gen (fun t ⟨ct,r,hr,s,hs,e⟩ h0=>?_) (fun t t' ⟨ct,x,hx,s,hs,e⟩ ⟨ct',y,hy,s',hs',e'⟩ p1 p2 hcs=>?_) (cs sd.length u) u (aJ _) hu
  ·exact⟨⟨ct.nn,ct.out,ct.ne,fun B hB=>by
    rcases aE.mp hB with rfl | hB
    ·exact h0
    ·exact ct.eq B hB⟩,r,st.stay r hr ((sgnA hs e).2.2.mpr h0),s,hs,e⟩
  ·obtain⟨r,hj,hk⟩:=st.join x hx y hy ((sgnA hs e).1.mpr p1) ((sgnA hs' e').2.1.mpr p2);obtain⟨s2,h2,e2⟩:=joinP hs hs' e e' hj;have rl:r.length=d+1+n:=by rw[hj.len,(hG x hx).1]
   have cl:=LH h rl h2 e2;exact⟨coneJ ct ct' p1 p2,r,hk (by omega),s2,h2,e2⟩
end CL
namespace CL
open PySem L2 L3
variable {c:Cs}
def rD:Nat→(Nat→Rat)→Rat
 | 0,_=>0
 | n+1,f=>f 0+rD n fun i=>f (i+1)
theorem lX:∀(n:Nat) (f g:Nat→Rat),(∀i,i<n→f i=g i)→rD n f=rD n g
 | 0,_,_,_=>rfl
 | n+1,f,g,h=>by unfold rD;rw[h 0 (by omega),lX n _ _ fun i hi=>h (i+1) (by omega)]
theorem yo(a b:Rat):∀(n:Nat) (f g:Nat→Rat),rD n (fun i=>a*f i+b*g i)=a*rD n f+b*rD n g
 | 0,_,_=>by unfold rD;grind
 | n+1,f,g=>by unfold rD;rw[yo a b n (fun i=>f (i+1)) fun i=>g (i+1)];grind
theorem zX:∀n:Nat,rD n (fun _=>0)=0
 | 0=>rfl
 | n+1=>by unfold rD;rw[zX n];grind
theorem JJ(x X:Nat→Rat)(v:Rat):∀(n a:Nat),a<n→rD n (fun i=>x i*(if i=a then v else X i))=rD n (fun i=>x i*X i)+x a*(v - X a):=by
 intro n;induction n generalizing x X with
 | zero=>intro a h;cases h
 | succ n ih=>
  intro a ha;unfold rD;cases a with
  | zero=>
   have:rD n (fun i=>x (i+1)*(if i+1=0 then v else X (i+1)))=rD n (fun i=>x (i+1)*X (i+1)):=lX n _ _ fun i _=>by simp
   rw[this];simp;grind
  | succ a=>
   have:=ih (fun i=>x (i+1)) (fun i=>X (i+1)) a (by omega);have e:rD n (fun i=>x (i+1)*(if i+1=a+1 then v else X (i+1)))=rD n (fun i=>x (i+1)*(if i=a then v else X (i+1))):=lX n _ _ fun i _=>by simp
   rw[e,this];simp;grind
def lg(d:Nat)(X:Nat→Rat)(x:Vc):Rat:=rD d (fun p=>(x p:Rat)*X p) - (x d:Rat)
theorem t9{d:Nat}{X:Nat→Rat}(x y z:Vc)(s a b:Int)(h:∀i,s*z i=a*x i+b*y i):(s:Rat)*lg d X z=(a:Rat)*lg d X x+(b:Rat)*lg d X y:=by
 have hq:∀i,(s:Rat)*(z i:Rat)=(a:Rat)*(x i:Rat)+(b:Rat)*(y i:Rat):=fun i=>by
  have:=h i;have e:((s*z i:Int):Rat)=((a*x i+b*y i:Int):Rat):=by rw[this]
  simpa using e
 unfold lg;have e1:(s:Rat)*rD d (fun p=>(z p:Rat)*X p)=(a:Rat)*rD d (fun p=>(x p:Rat)*X p)+(b:Rat)*rD d (fun p=>(y p:Rat)*X p):=by
  have:=yo (s:Rat) 0 d (fun p=>(z p:Rat)*X p) (fun _=>0);have t2:=yo (a:Rat) (b:Rat) d (fun p=>(x p:Rat)*X p) (fun p=>(y p:Rat)*X p);have t3:rD d (fun i=>(s:Rat)*((z i:Rat)*X i)+0*0)=rD d (fun i=>(a:Rat)*((x i:Rat)*X i)+(b:Rat)*((y i:Rat)*X i)):=lX d _ _ fun i _=>by have:=hq i;grind
  rw[t3,t2] at this;grind
 have:=hq d;grind
theorem CY{d a:Nat}(ha:a<d)(X:Nat→Rat)(v:Rat)(x:Vc):lg d (fun q=>if q=a then v else X q) x=lg d X x+(x a:Rat)*(v - X a):=by unfold lg;have:=JJ (fun i=>(x i:Rat)) X v d a ha;rw[this];grind
theorem v9{d:Nat}{X:Nat→Rat}{x:Vc}(h:∀p,p<d→x p=0):lg d X x = -(x d:Rat):=by
 unfold lg;have e:rD d (fun p=>(x p:Rat)*X p)=0:=by rw[lX d _ (fun _=>0) fun p hp=>by rw[h p hp];simp];exact zX d
 rw[e];grind
def Xs(s:List (Int×Int)):Nat→Rat:=fun q=>qv (s.getD q (0,1))
theorem Iw(s:List (Int×Int))(a:Nat)(f:Int×Int)(ha:a<s.length):Xs (s.set a f)=fun q=>if q=a then qv f else Xs s q:=by
 funext q;unfold Xs;rw[af,List.getElem?_set];by_cases h:q=a
 ·subst h;simp[ha]
 ·rw[aQ (fun z=>h z.symm),aQ h,af]
theorem QA:qv (0,1)=0:=by unfold qv;simp;grind
theorem zF(d:Nat):∀(s:List (Int×Int)) (row:List Int),s.length=d→d≤row.length→Hl row s=rD d (fun p=>(vc row p:Rat)*Xs s p):=by
 induction d with
 | zero=>intro s row h1 _;have:s=[]:=List.length_eq_zero_iff.mp h1;subst this;simp[Hl,rD]
 | succ d ih=>
  intro s row h1 h2;cases s with
  | nil=>cases h1
  | cons p s=>
   cases row with
   | nil=>simp at h2
   | cons x row=>have:=ih s row (by simpa using h1) (by simpa using h2);unfold Hl at this ⊢;rw[List.zip_cons_cons,bx,List.sum_cons,this];rfl
def oG(d:Nat)(X:Nat→Rat)(a:Nat)(r:List Int):Rat:=-(lg d X (vc r)) / (vc r a:Rat)
structure La(d:Nat)(X:Nat→Rat)(a E:Nat)(G:List (List Int))(lo hi:Option (Int×Int)):Prop where
 l:Oe E lo
 h:Oe E hi
 lo1:∀r∈G,0<vc r a→∃p,lo=some p∧oG d X a r≤qv p
 lo2:∀p,lo=some p→∃r∈G,0<vc r a∧qv p=oG d X a r
 hi1:∀r∈G,vc r a<0→∃p,hi=some p∧qv p≤oG d X a r
 hi2:∀p,hi=some p→∃r∈G,vc r a<0∧qv p=oG d X a r
theorem Du{ρ:Pe}{fc fd:Pe→M Bool}{b:Bool}(h:fc ρ=.ok false)(h2:fd ρ=.ok b):L3.ud fc fd ρ=.ok b:=by simp only[L3.ud,h,h2,M.bind_ok];rfl
theorem GM{ρ:Pe}{fc fd:Pe→M Bool}(h:fc ρ=.ok true):L3.ud fc fd ρ=.ok true:=by simp only[L3.ud,h,M.bind_ok];rfl
theorem C5{E:Nat}{p r:Int×Int}(hp:0<p.2∧Bn E p.1∧Bn E p.2)(hr:0<r.2∧Bn E r.1∧Bn E r.2)(hE:E≤8000):je c [fr p,fr r]=.ok (.bl (decide (qv p<qv r))):=uW hp.1 hr.1 (hp.2.1.ok hr.2.2 (by omega) (by omega)) (hr.2.1.ok hp.2.2 (by omega) (by omega))
theorem Cm(d a N L:Nat)(hL:d<L)(had:a<d)(hd:d≤10)(h1:1≤N)(s:List (Int×Int))(hs:s.length=d)(hq:∀p∈s,Fq p)(hE:N+lp s+20≤8000)(G:List (List Int))(hG:∀r∈G,r.length=L∧∀x∈r,Bn N x) :
  ∃lo hi,nh c [.lst (G.map tI),.int (a:Int),.lst (s.map fr)]=.ok (.tup [oT lo,oT hi])∧La d (Xs s) a (N+lp s+20) G lo hi:=by
 let R (lo hi:Option (Int×Int)) (x5 x6:Option W):En:=[some (.p (.lst (G.map tI))),some (.p (.int (a:Int))),some (.p (.lst (s.map fr))),some (.p (oT lo)),some (.p (oT hi)),x5,x6];obtain⟨ρ,e,lo,hi,x5,x6,rfl,hI⟩:=gq (m:=iK 5) (g:=vU c) tI
  (fun k ρ=>∃(lo hi:Option (Int×Int)) (x5 x6:Option W),ρ=R lo hi x5 x6∧La d (Xs s) a (N+lp s+20) (G.take k) lo hi)
  G 0 (R none none none none) ⟨none,none,none,none,rfl,⟨(fun _ z=>nomatch z),(fun _ z=>nomatch z),fun r hr=>by simp at hr,(fun _ z=>nomatch z),fun r hr=>by simp at hr,(fun _ z=>nomatch z)⟩⟩ (by
   rintro k r ρ hi' ⟨lo,hi,x5,x6,rfl,I⟩;rw[aF] at I ⊢;have hm:=au hi';have tk:G.take (k+1)=G.take k++[r]:=gW G k r hi';obtain⟨rl,rb⟩:=hG r hm;have ix:fV (tI r) (.int (a:Int))=.ok (.int (vc r a)):=iB r a (by omega);by_cases h0:vc r a=0
   ·refine⟨_,_,rfl,.inl (fz (eK (dZ (dZ rfl rfl ix) rfl (by rw[iz,h0];rfl))) rfl),lo,hi,some (.p (tI r)),x6,rfl,?_⟩;rw[tk];refine⟨I.l,I.h,fun r' hr' p'=>?_,fun p e=>?_,fun r' hr' p'=>?_,fun p e=>?_⟩
    ·rcases ai.mp hr' with q | q
     ·exact I.lo1 r' q p'
     ·rw[aj.mp q] at p';omega
    ·obtain⟨r',q1,q2⟩:=I.lo2 p e;exact⟨r',ax _ q1,q2⟩
    ·rcases ai.mp hr' with q | q
     ·exact I.hi1 r' q p'
     ·rw[aj.mp q] at p';omega
    ·obtain⟨r',q1,q2⟩:=I.hi2 p e;exact⟨r',ax _ q1,q2⟩
   ·obtain⟨left,el,gl,ql⟩:=sY (c:=c) N (by omega) h1 r s (by omega) (by omega) rb hq (by omega);have ra:Bn N (vc r a):=rb _ (jA r a (by omega));obtain⟨en,ee,ge,qe⟩:=xT (c:=c) h0 ra gl (by omega) (by omega);have eq:qv en=oG d (Xs s) a r:=by rw[qe,ql,hs,zF d s r hs (by omega)];unfold oG lg;congr 1;grind
    have oe:0<en.2∧Bn (N+lp s+20) en.1∧Bn (N+lp s+20) en.2:=⟨ge.pos,ge.b1,ge.b2.mono (by omega)⟩;have s1:∀x6,setO 6 (gE (eD (dP (eD (dP (dQ 5) (dP (dQ 2) dW)) (jM c)) (dP (gX (dP (eC fV (dQ 5) (dQ 1)) (dP (cM (.int 1)) dW))) dW)) (qi c))) (R lo hi (some (.p (tI r))) x6)=.nx (R lo hi (some (.p (tI r))) (some (.p (fr en)))):=fun x6=>eG (fX (x:=fr left) (y:=fr (vc r a,1)) (fX rfl rfl el) (nt (dZ rfl rfl ix) rfl) ee) rfl;obtain⟨lo',s2,M1,M2,M3⟩:∃lo':Option (Int×Int),jy (L3.kJ (fN (eC FB (eC fV (dQ 5) (dQ 1)) (cM (.int 0)))) (L3.ud (fN (eC (iV false) (dQ 3) (cM .non))) (fN (eD (dP (dQ 3) (dP (dQ 6) dW)) (je c))))) (setO 3 (gE (dQ 6))) fF (R lo hi (some (.p (tI r))) (some (.p (fr en))))=.nx (R lo' hi (some (.p (tI r))) (some (.p (fr en))))∧
      Oe (N+lp s+20) lo'∧(∀r'∈G.take k++[r],0<vc r' a→∃p,lo'=some p∧oG d (Xs s) a r'≤qv p)∧(∀p,lo'=some p→∃r'∈G.take k++[r],0<vc r' a∧qv p=oG d (Xs s) a r'):=by
     by_cases hp:0<vc r a
     ·have g1:fN (eC FB (eC fV (dQ 5) (dQ 1)) (cM (.int 0))) (vw (R lo hi (some (.p (tI r))) (some (.p (fr en)))))=.ok true:=eK (dZ (dZ rfl rfl ix) rfl (by rw[rA];simp[hp]));have new:∀(_:∀p,lo=some p→qv p<qv en),Oe (N+lp s+20) (some en)∧(∀r'∈G.take k++[r],0<vc r' a→∃p,some en=some p∧oG d (Xs s) a r'≤qv p)∧(∀p,some en=some p→∃r'∈G.take k++[r],0<vc r' a∧qv p=oG d (Xs s) a r'):=fun hlt=>by
       refine⟨fun p z=>by cases z;exact oe,fun r' hr' p'=>⟨en,rfl,?_⟩,fun p z=>by cases z;exact⟨r,by simp,hp,eq⟩⟩;rcases ai.mp hr' with q | q
       ·obtain⟨p,e1,e2⟩:=I.lo1 r' q p';have:=hlt p e1;grind
       ·rw[aj.mp q,eq];grind
      cases el':lo with
      | none=>refine⟨some en,?_,new fun p z=>by rw[el'] at z;cases z⟩;rw[←el'];refine fG (jX g1 (GM (eK (dZ rfl rfl ?_)))) (eG (t:=fr en) rfl rfl);show iV false (oT lo) .non=_;rw[og,el'];rfl
      | some p=>
       have is1:iV false (oT lo) .non=.ok (.bl false):=by rw[og,el'];rfl
       have ls:je c [oT lo,fr en]=.ok (.bl (decide (qv p<qv en))):=by rw[el'];exact C5 (I.l p el') oe hE
       by_cases hlt:qv p<qv en
       ·refine⟨some en,?_,new fun p' z=>by rw[el'] at z;cases z;exact hlt⟩;rw[←el'];exact fG (jX g1 (Du (eK (dZ rfl rfl is1)) (eK (fX rfl rfl (by rw[ls,aB hlt]))))) (eG (t:=fr en) rfl rfl)
       ·refine⟨lo,?_,I.l,fun r' hr' p'=>?_,fun p' z=>?_⟩
        ·rw[←el'];exact fz (jX g1 (Du (eK (dZ rfl rfl is1)) (eK (fX rfl rfl (by rw[ls,aA hlt]))))) rfl
        ·rcases ai.mp hr' with q | q
         ·exact I.lo1 r' q p'
         ·rw[aj.mp q,←eq];exact⟨p,el',by grind⟩
        ·obtain⟨r',q1,q2⟩:=I.lo2 p' z;exact⟨r',ax _ q1,q2⟩
     ·refine⟨lo,fz (qq (eK (dZ (dZ rfl rfl ix) rfl (by rw[rA];simp[hp])))) rfl,I.l,fun r' hr' p'=>?_,fun p' z=>?_⟩
      ·rcases ai.mp hr' with q | q
       ·exact I.lo1 r' q p'
       ·rw[aj.mp q] at p';exact absurd p' hp
      ·obtain⟨r',q1,q2⟩:=I.lo2 p' z;exact⟨r',ax _ q1,q2⟩
    obtain⟨hi',s3,H1,H2,H3⟩:∃hi':Option (Int×Int),jy (L3.kJ (fN (eC C3 (eC fV (dQ 5) (dQ 1)) (cM (.int 0)))) (L3.ud (fN (eC (iV false) (dQ 4) (cM .non))) (fN (eD (dP (dQ 6) (dP (dQ 4) dW)) (je c))))) (setO 4 (gE (dQ 6))) fF (R lo' hi (some (.p (tI r))) (some (.p (fr en))))=.nx (R lo' hi' (some (.p (tI r))) (some (.p (fr en))))∧
      Oe (N+lp s+20) hi'∧(∀r'∈G.take k++[r],vc r' a<0→∃p,hi'=some p∧qv p≤oG d (Xs s) a r')∧(∀p,hi'=some p→∃r'∈G.take k++[r],vc r' a<0∧qv p=oG d (Xs s) a r'):=by
     by_cases hp:vc r a<0
     ·have g1:fN (eC C3 (eC fV (dQ 5) (dQ 1)) (cM (.int 0))) (vw (R lo' hi (some (.p (tI r))) (some (.p (fr en)))))=.ok true:=eK (dZ (dZ rfl rfl ix) rfl (by rw[nE];simp[hp]));have new:∀(_:∀p,hi=some p→qv en<qv p),Oe (N+lp s+20) (some en)∧(∀r'∈G.take k++[r],vc r' a<0→∃p,some en=some p∧qv p≤oG d (Xs s) a r')∧(∀p,some en=some p→∃r'∈G.take k++[r],vc r' a<0∧qv p=oG d (Xs s) a r'):=fun hlt=>by
       refine⟨fun p z=>by cases z;exact oe,fun r' hr' p'=>⟨en,rfl,?_⟩,fun p z=>by cases z;exact⟨r,by simp,hp,eq⟩⟩;rcases ai.mp hr' with q | q
       ·obtain⟨p,e1,e2⟩:=I.hi1 r' q p';have:=hlt p e1;grind
       ·rw[aj.mp q,eq];grind
      cases el':hi with
      | none=>refine⟨some en,?_,new fun p z=>by rw[el'] at z;cases z⟩;rw[←el'];refine fG (jX g1 (GM (eK (dZ rfl rfl ?_)))) (eG (t:=fr en) rfl rfl);show iV false (oT hi) .non=_;rw[og,el'];rfl
      | some p=>
       have is1:iV false (oT hi) .non=.ok (.bl false):=by rw[og,el'];rfl
       have ls:je c [fr en,oT hi]=.ok (.bl (decide (qv en<qv p))):=by rw[el'];exact C5 oe (I.h p el') hE
       by_cases hlt:qv en<qv p
       ·refine⟨some en,?_,new fun p' z=>by rw[el'] at z;cases z;exact hlt⟩;rw[←el'];exact fG (jX g1 (Du (eK (dZ rfl rfl is1)) (eK (fX rfl rfl (by rw[ls,aB hlt]))))) (eG (t:=fr en) rfl rfl)
       ·refine⟨hi,?_,I.h,fun r' hr' p'=>?_,fun p' z=>?_⟩
        ·rw[←el'];exact fz (jX g1 (Du (eK (dZ rfl rfl is1)) (eK (fX rfl rfl (by rw[ls,aA hlt]))))) rfl
        ·rcases ai.mp hr' with q | q
         ·exact I.hi1 r' q p'
         ·rw[aj.mp q,←eq];exact⟨p,el',by grind⟩
        ·obtain⟨r',q1,q2⟩:=I.hi2 p' z;exact⟨r',ax _ q1,q2⟩
     ·refine⟨hi,fz (qq (eK (dZ (dZ rfl rfl ix) rfl (by rw[nE];simp[hp])))) rfl,I.h,fun r' hr' p'=>?_,fun p' z=>?_⟩
      ·rcases ai.mp hr' with q | q
       ·exact I.hi1 r' q p'
       ·rw[aj.mp q] at p';exact absurd p' hp
      ·obtain⟨r',q1,q2⟩:=I.hi2 p' z;exact⟨r',ax _ q1,q2⟩
    refine⟨_,_,rfl,.inl (fG (eK (dZ (dZ rfl rfl ix) rfl (by rw[iz];simp[h0]))) (d8 (s1 x6) (d8 s2 s3))),lo',hi',some (.p (tI r)),some (.p (fr en)),rfl,?_⟩;rw[tk];exact⟨M1,H1,M2,M3,H2,H3⟩)
 rw[aF,cK] at hI;exact⟨lo,hi,fw rfl (d8 (eG (t:=.non) rfl rfl) (d8 (eG (t:=.non) rfl rfl) (d8 (gN rfl e) (eN (nt rfl rfl))))),hI⟩
theorem si{d:Nat}{X:Nat→Rat}{r y:Vc}{s:Int}(e:∀q,s*r q=y q):(s:Rat)*lg d X r=lg d X y:=by have:=t9 (d:=d) (X:=X) y y r s 1 0 (fun i=>by rw[e i];omega);have h1:((1:Int):Rat)=1:=rfl;have h0:((0:Int):Rat)=0:=rfl;rw[h1,h0] at this;grind
theorem Gv{d n:Nat}{ss ix:List Nat}{sd:List (List Int)}(h:Je d n ss ix sd){j:Nat}{G:List (List Int)}{pls:List Nat}{ls:List (List (List Int))}(hy:II d ix.length j G pls ls) :
  ∀(As:List Vc),As.length=j→(∀r∈G,r.length=d+1+n∧∃t,ja sd.length As t∧∃s:Int,0<s∧∀q,s*vc r q=Lt sd.length (fun j=>vc (sd.getD j [])) t q)→(∀u,ja sd.length As u→Cn (Ly sd As G) u)→∀(Z:Nat→Prop),(∀r∈G,∀p,Z p→vc r p=0)→
  (∀(i a:Nat),pls[i]? = some a→∃Gi Gi',ls[i]? = some Gi∧ls[i+1]? = some Gi'∧(∀r∈Gi,vc r a=0→r∈Gi')∧∀X:Nat→Rat,(∀r∈Gi',0<lg d X (vc r))→∀x∈Gi,∀y∈Gi,0<vc x a→vc y a<0→0 < -(vc y a:Rat)*lg d X (vc x)+(vc x a:Rat)*lg d X (vc y))∧
  ∃Gl,ls[pls.length]? = some Gl∧ls.getLast? = some Gl∧(∀r∈Gl,∀p,(Z p∨p∈pls)→vc r p=0)∧∀r∈Gl,r.length=d+1+n∧∃t,ja sd.length [] t∧∃s:Int,0<s∧∀q,s*vc r q=Lt sd.length (fun j=>vc (sd.getD j [])) t q:=by
 induction hy with
 | nil=>
  rename_i j G;intro As hA hG gen Z hz;refine⟨fun i a q=>by simp at q,G,rfl,rfl,fun r hr p hp=>?_,fun r hr=>?_⟩
  ·rcases hp with hp | hp
   ·exact hz r hr p hp
   ·cases hp
  ·obtain⟨l,t,ct,q⟩:=hG r hr;exact⟨l,t,Dx ct fun A hA=>(nomatch hA),q⟩
 | cons st hy ih=>
  rename_i j a G G' pls ls;intro As hA hG gen Z hz;subst hA;obtain⟨hG',gen'⟩:=ET h hG gen st;obtain⟨i1,Gl,i2,i3,i4,i5⟩:=ih ((fun j=>vc (sd.getD j []) a)::As) (by simp) hG' gen' (fun p=>Z p∨p=a) (fun r hr p hp=>by
   rcases st.from_ r hr with⟨q1,q2⟩ | ⟨x,hx,y,hy,px,ny,hj⟩
   ·rcases hp with hp | rfl
    ·exact hz r q1 p hp
    ·exact q2
   ·rcases hp with hp | rfl
    ·obtain⟨g,hg,v⟩:=hj.ex;refine sG (g:=g) (by omega) ?_;rw[v p,hz x hx p hp,hz y hy p hp];simp
    ·exact hj.at0)
  have l0:ls[0]? = some G':=by cases hy<;>rfl
  have lne:ls≠[]:=fun z=>by rw[z] at l0;cases l0
  refine⟨fun i b q=>?_,Gl,?_,?_,fun r hr p hp=>i4 r hr p ?_,i5⟩
  ·cases i with
   | zero=>
    simp at q;subst q;refine⟨G,G',rfl,by simpa using l0,st.stay,fun X hX x hx y hy' px ny=>?_⟩;obtain⟨_,t,ct,s,hs,e⟩:=hG x hx;obtain⟨_,t',ct',s',hs',e'⟩:=hG y hy';let A:Vc:=fun j=>vc (sd.getD j []) a;have la:∀t,gP sd.length A t=Lt sd.length (fun j=>vc (sd.getD j [])) t a:=fun t=>Iz sd.length (fun j=>vc (sd.getD j [])) t a;have p1:0<gP sd.length A t:=by rw[la,←e a];exact aW hs px
    have p2:gP sd.length A t'<0:=by rw[la,←e' a];exact cX hs' ny
    have cz:ja sd.length (A::As) (fun i=>(-gP sd.length A t')*t i+gP sd.length A t*t' i):=by
     have lin:∀B,gP sd.length B (fun i=>(-gP sd.length A t')*t i+gP sd.length A t*t' i)=(-gP sd.length A t')*gP sd.length B t+gP sd.length A t*gP sd.length B t':=fun B=>by have:=nH (m:=sd.length) (A:=B) (x:=t) (y:=t') (z:=fun i=>(-gP sd.length A t')*t i+gP sd.length A t*t' i) (s:=1) (a:=-gP sd.length A t') (b:=gP sd.length A t) (fun i=>by grind);simpa using this
     obtain⟨j,hj⟩:=ct.ne;have q1:0 < -gP sd.length A t':=by omega
     refine⟨fun i=>?_,fun i hi=>?_,⟨j,?_⟩,fun B hB=>?_⟩
     ·have x1:=aO (az q1) (ct.nn i);have x2:=aO (az p1) (ct'.nn i);omega
     ·rw[ct.out i hi,ct'.out i hi];simp
     ·have gj:0<t j:=by have:=ct.nn j;omega
      have x1:=aW q1 gj;have x2:=aO (az p1) (ct'.nn j);omega
     ·rw[lin B];rcases aE.mp hB with rfl | hB
      ·grind
      ·rw[ct.eq B hB,ct'.eq B hB];simp
    have hf:∀x y z (s a b:Int),(∀i,s*z i=a*x i+b*y i)→(s:Rat)*lg d X (Lt sd.length (fun j=>vc (sd.getD j [])) z)=(a:Rat)*lg d X (Lt sd.length (fun j=>vc (sd.getD j [])) x)+(b:Rat)*lg d X (Lt sd.length (fun j=>vc (sd.getD j [])) y):=fun x y z s a b hh=>t9 _ _ _ s a b fun i=>HW hh i;have pos:=Cn.posQ hf (fun u ⟨_,r,hr,s2,hs2,e2⟩=>by rw[←si (fun q=>e2 q)];exact c7 (pA hs2) (hX r hr)) (gen' _ cz)
    have lz:=hf t t' (fun i=>(-gP sd.length A t')*t i+gP sd.length A t*t' i) 1 (-gP sd.length A t') (gP sd.length A t) (fun i=>by grind);have e1:=si (d:=d) (X:=X) (fun q=>e q);have e2:=si (d:=d) (X:=X) (fun q=>e' q);have a1:(gP sd.length A t:Rat)=(s:Rat)*(vc x a:Rat):=by rw[la,←e a];simp
    have a2:(gP sd.length A t':Rat)=(s':Rat)*(vc y a:Rat):=by rw[la,←e' a];simp
    have ss0:(0:Rat)<(s:Rat)*(s':Rat):=c7 (pA hs) (pA hs');refine dE (c:=(s:Rat)*(s':Rat)) ?_ (dc ss0);have ev:lg d X (Lt sd.length (fun j=>vc (sd.getD j [])) (fun i=>(-gP sd.length A t')*t i+gP sd.length A t*t' i))=(s:Rat)*(s':Rat)*(-(vc y a:Rat)*lg d X (vc x)+(vc x a:Rat)*lg d X (vc y)):=by
     have l2:(1:Rat)*lg d X (Lt sd.length (fun j=>vc (sd.getD j [])) (fun i=>(-gP sd.length A t')*t i+gP sd.length A t*t' i))=(-(gP sd.length A t':Rat))*lg d X (Lt sd.length (fun j=>vc (sd.getD j [])) t)+(gP sd.length A t:Rat)*lg d X (Lt sd.length (fun j=>vc (sd.getD j [])) t'):=by simpa using lz
     rw[←e1,←e2,a1,a2] at l2;grind
    rw[←ev];simpa using pos
   | succ i=>obtain⟨Gi,Gi',q1,q2,q3⟩:=i1 i b (by simpa using q);exact⟨Gi,Gi',by simpa using q1,by simpa using q2,q3⟩
  ·simpa using i2
  ·rw[List.getLast?_cons_of_ne_nil lne];exact i3
  ·rcases hp with hp | hp
   ·exact .inl (.inl hp)
   ·rcases aE.mp hp with hp | hp
    ·exact .inl (.inr hp)
    ·exact .inr hp
def Sb(N d m:Nat):Nat→Nat
 | 0=>d
 | i+1=>3*Sb N d m i+2*Nb N (m - 1 - i)+44
theorem DP(s:List (Int×Int))(a:Nat)(f:Int×Int):lp (s.set a f)≤lp s+wt f:=by
 induction s generalizing a with
 | nil=>simp[lp]
 | cons p s ih=>
  cases a with
  | zero=>simp[lp];omega
  | succ a=>
   have:=ih a;have e1:lp ((p::s).set (a+1) f)=wt p+lp (s.set a f):=by rw[List.set_cons_succ];simp[lp]
   have e2:lp (p::s)=wt p+lp s:=by simp[lp]
   omega
theorem vL(n k:Nat)(h:k<n):xH n (k:Int)=some k:=by unfold xH;rw[aP (by omega),aP (by omega)];simp
theorem Ie(l:List T)(k:Nat)(t:T)(h:l[k]? = some t):fV (.lst l) (.int (k:Int))=.ok t:=by
 have hl:=(aa.mp h).1;have:oY l (k:Int)=some t:=by unfold oY;rw[vL _ _ hl];exact h
 simp[this]
theorem Au{l:List Nat}(h:l.Nodup){i j a:Nat}(hi:l[i]? = some a)(hj:l[j]? = some a):i=j:=by
 obtain⟨i1,i2⟩:=aa.mp hi;obtain⟨j1,j2⟩:=aa.mp hj;have hp:=b8.mp h;rcases Nat.lt_trichotomy i j with q | q | q
 ·exact absurd (i2.trans j2.symm) (hp i j i1 j1 q)
 ·exact q
 ·exact absurd (j2.trans i2.symm) (hp j i j1 i1 q)
theorem tZ{d n:Nat}{ss ix:List Nat}{sd:List (List Int)}(h:Je d n ss ix sd)(N:Nat)(h1N:1≤N)(hd:d≤10){pls:List Nat}{ls:List (List (List Int))}(hy:II d ix.length 0 sd pls ls)(hpm:pls.length≤10)(hpd:∀a∈pls,a<d)(hnd:pls.Nodup)(hb:∀(i:Nat) G,ls[i]? = some G→∀r∈G,r.length=d+1+n∧∀x∈r,Bn (Nb N i) x)
  (Z:Nat→Prop) (hZ:∀r∈sd,∀p,Z p→vc r p=0) (zC:∀p,p<d→Z p∨p∈pls) (Pt:∀Gl,ls.getLast? = some Gl→∀r∈Gl,vc r d<0) (hE:∀i,i<pls.length→Nb N (pls.length - 1 - i)+Sb N d pls.length i+20≤7000) :
  ∃s:List (Int×Int),j4 c [.lst (ls.map fun g=>T.lst (g.map tI)),.lst (pls.map fun (j:Nat)=>T.int (j:Int)),.lst ((List.replicate d ((0,1):Int×Int)).map fr)]=.ok (s.map fr)∧s.length=d∧(∀p∈s,Fq p)∧lp s≤Sb N d pls.length pls.length∧(∀p,p<d→p∉pls→s.getD p (0,1)=(0,1))∧∀r∈sd,0<lg d (Xs s) (vc r):=by
 have sz:1000<sizeLine:=by decide
 have g0:∀r∈sd,r.length=d+1+n∧∃t,ja sd.length [] t∧∃s:Int,0<s∧∀q,s*vc r q=Lt sd.length (fun j=>vc (sd.getD j [])) t q:=fun r hr=>by
  obtain⟨j,hj⟩:=cF.mp hr;have jl:j<sd.length:=(aa.mp hj).1;have ej:sd.getD j []=r:=by rw[af,hj];rfl
  refine⟨h.l r hr,n5 j,⟨fun i=>by unfold n5;split<;>omega,fun i hi=>by unfold n5;rw[aQ (by omega)],⟨j,by simp[n5]⟩,fun A hA=>(nomatch hA)⟩,1,by decide,fun q=>?_⟩;rw[ur sd.length _ j jl q,ej,cJ]
 have gen0:∀u,ja sd.length [] u→Cn (Ly sd [] sd) u:=fun u hu=>(xw sd.length (cs sd.length u) u (aJ _) hu).mono fun x ⟨i,hi,ex⟩=>by
  subst ex;have hm:sd.getD i []∈sd:=by rw[af,ag hi];exact aU hi
  refine⟨⟨fun k=>by unfold n5;split<;>omega,fun k hk=>by unfold n5;rw[aQ (by omega)],⟨i,by simp[n5]⟩,fun A hA=>(nomatch hA)⟩,sd.getD i [],hm,1,by decide,fun q=>?_⟩;rw[ur sd.length _ i hi q,cJ]
 obtain⟨at_,Gl,la1,la2,la3,la4⟩:=Gv h hy [] rfl g0 gen0 Z hZ;let m:=pls.length;let s0:List (Int×Int):=List.replicate d (0,1);let R (s:List (Int×Int)) (x4 x5 x6:Option W):En:=[some (.p (.lst (ls.map fun g=>T.lst (g.map tI)))),some (.p (.lst (pls.map fun (j:Nat)=>T.int (j:Int)))),some (.p (.lst (s0.map fr))),some (.o (s.map fr)),x4,x5,x6];have fq0:Fq (0,1):=⟨by decide,by decide⟩;obtain⟨ρ,e,s,x4,x5,x6,rfl,k1,k2,k3,k4,G,k5,k6⟩:=gq (m:=kL 2 (gy (iK 4) (gy (iK 5) k9))) (g:=n6 c) (fun (p:Nat×Nat)=>T.tup [.int (p.2:Int),.int (p.1:Int)])
  (fun i ρ=>∃(s:List (Int×Int)) (x4 x5 x6:Option W),ρ=R s x4 x5 x6∧s.length=d∧(∀p∈s,Fq p)∧lp s≤Sb N d m i∧(∀p,p<d→p∉pls.drop (m - i)→s.getD p (0,1)=(0,1))∧∃G,ls[m - i]? = some G∧∀r∈G,0<lg d (Xs s) (vc r))
  pls.zipIdx.reverse 0 (R s0 none none none) ⟨s0,none,none,none,rfl,by simp[s0],fun p hp=>by rw[a9 hp];exact fq0,by
   show lp (List.replicate d (0,1))≤d;have w1:wt (0,1)=1:=by decide
   simp[lp,w1],fun p hp _=>by
   show (List.replicate d ((0,1):Int×Int)).getD p (0,1)=(0,1);rw[af,List.getElem?_replicate];split<;>rfl,Gl,by simpa[m] using la1,fun r hr=>by
   rw[v9 fun p hp=>la3 r hr p (zC p hp)];have:=Pt Gl la2 r hr;have q:=pA (show 0 < -vc r d by omega);simpa using q⟩ (by
   rintro i ⟨a,jn⟩ ρ hi ⟨s,x4,x5,x6,rfl,k1,k2,k3,k4,G',k5,k6⟩;rw[aF] at k3 k4 k5 ⊢;have il:i<m:=by have:=(aa.mp hi).1;simpa[m] using this
   rw[List.getElem?_reverse (by simpa[m] using il)] at hi;have hz:pls.zipIdx.length - 1 - i=m - 1 - i:=by simp[m]
   rw[hz,List.getElem?_zipIdx] at hi;have hpl:pls[m - 1 - i]? = some a∧jn=m - 1 - i:=by
    cases q:pls[m - 1 - i]? with
    | none=>rw[q] at hi;cases hi
    | some a'=>rw[q] at hi;simp at hi;exact⟨by rw[hi.1],hi.2.symm⟩
   obtain⟨hpa,hjn⟩:=hpl;subst hjn;have am:a∈pls:=au hpa;have ad:=hpd a am;obtain⟨G,G2,q1,q2,q3,q4⟩:=at_ (m - 1 - i) a hpa;have e2:m - 1 - i+1=m - i:=by omega
   rw[e2,k5] at q2;cases q2;have hGb:=hb (m - 1 - i) G q1;have hEi:Nb N (m - 1 - i)+Sb N d m i+20≤7000:=hE i il;have k3':lp s≤Sb N d m i:=k3;have hE2:Nb N (m - 1 - i)+lp s+20≤7000:=by show Nb N (m - 1 - i)+lp s+20≤7000;omega
   have n1:1≤Nb N (m - 1 - i):=aM h1N (DG N (bA _));obtain⟨lo,hi',ee,E_⟩:=Cm (c:=c) d a (Nb N (m - 1 - i)) (d+1+n) (by omega) ad hd n1 s k1 k2 (by omega) G hGb;have sa:s.getD a (0,1)=(0,1):=k4 a ad fun hm=>by obtain⟨q,hq⟩:=cF.mp hm;rw[List.getElem?_drop] at hq;have:=Au hnd hpa hq;omega
   have Xa:Xs s a=0:=by unfold Xs;rw[sa,QA]
   have lt:∀p r,lo=some p→hi'=some r→qv p<qv r:=fun p r ep er=>by
    obtain⟨x,hx,px,ex⟩:=E_.lo2 p ep;obtain⟨y,hy',ny,ey⟩:=E_.hi2 r er;have key:=q4 (Xs s) k6 x hx y hy' px ny;rw[ex,ey];unfold oG;have a1:(0:Rat)<(vc x a:Rat):=pA px;have a2:(0:Rat) < -(vc y a:Rat):=by have:=pA (show 0 < -vc y a by omega);simpa using this
    generalize lg d (Xs s) (vc x)=e1 at *;generalize lg d (Xs s) (vc y)=e2 at *;generalize (vc x a:Rat)=u at *;generalize (vc y a:Rat)=v at *;refine c9 (c:=u * -v) ?_ (dc (c7 a1 a2));have u0:u≠0:=by grind
    have v0:v≠0:=by grind
    have t1:-e1 / u*(u * -v)=e1*v:=by grind
    have t2:-e2 / v*(u * -v)=e2*u:=by grind
    rw[t1,t2];grind
   obtain⟨x,ex,gd,bx1,bx2⟩:=uN (c:=c) (Nb N (m - 1 - i)+lp s+20) hE2 lo hi' E_.l E_.h lt;have wx:wt x≤2*(Nb N (m - 1 - i)+lp s+20)+4:=Nat.max_le.mpr ⟨Dm bx1 (by omega),Dm (bx2.mono (by omega)) (by omega)⟩;have ixl:fV (.lst (ls.map fun g=>T.lst (g.map tI))) (.int ((m - 1 - i:Nat):Int))=.ok (.lst (G.map tI)):=by
    have q:(ls.map fun g=>T.lst (g.map tI))[m - 1 - i]? = some (T.lst (G.map tI)):=by rw[av,q1];rfl
    exact Ie _ _ _ q
   have s1:setO 6 (mB (eD (dP (eC fV (dQ 0) (dQ 4)) (dP (dQ 5) (dP (dQ 3) dW))) (nh c))) (R s (some (.p (.int ((m - 1 - i:Nat):Int)))) (some (.p (.int (a:Int)))) x6)=.nx (R s (some (.p (.int ((m - 1 - i:Nat):Int)))) (some (.p (.int (a:Int)))) (some (.p (.tup [oT lo,oT hi'])))):=by refine ua (iP (x:=.lst (G.map tI)) (dZ rfl rfl ixl) rfl rfl ee) ?_ rfl;cases lo<;>cases hi'<;>rfl
   have s2:vO 3 (mB (dQ 5)) (mB (eD (dP (eC fV (dQ 6) (cM (.int 0))) (dP (eC fV (dQ 6) (cM (.int 1))) dW)) (jD c))) (R s (some (.p (.int ((m - 1 - i:Nat):Int)))) (some (.p (.int (a:Int)))) (some (.p (.tup [oT lo,oT hi']))))=.nx (R (s.set a x) (some (.p (.int ((m - 1 - i:Nat):Int)))) (some (.p (.int (a:Int)))) (some (.p (.tup [oT lo,oT hi'])))):=by
    refine yY (us:=s.map fr) rfl (fX (x:=oT lo) (y:=oT hi') (dZ rfl rfl rfl) (dZ rfl rfl rfl) ex) rfl (j:=(a:Int)) (m:=a) rfl ?_ ?_
    ·rw[aw];exact vL _ _ (by omega)
    ·show _=List.set _ _ _;simp[R,cR]
   refine⟨_,_,rfl,.inl (d8 s1 s2),s.set a x,some (.p (.int ((m - 1 - i:Nat):Int))),some (.p (.int (a:Int))),some (.p (.tup [oT lo,oT hi'])),rfl,by rw[bK,k1],fun p hp=>?_,?_,fun p hp hn=>?_,G,by rw[show m - (i+1)=m - 1 - i by omega];exact q1,fun r hr=>?_⟩
   ·rcases dw hp with q | q
    ·exact k2 p q
    ·rw[q];exact⟨gd.pos,gd.one⟩
   ·have:=DP s a x;show _≤3*Sb N d m i+2*Nb N (m - 1 - i)+44;omega
   ·rw[show m - (i+1)=m - 1 - i by omega] at hn;have dr:pls.drop (m - 1 - i)=a::pls.drop (m - i):=by have hlt:=(aa.mp hpa).1;rw[cw hlt,e2];congr 1;exact (aa.mp hpa).2
    rw[dr] at hn;have pa:p≠a:=fun z=>hn (by simp[z]);rw[af,aq (fun z=>pa z.symm),←af];exact k4 p hp fun z=>hn (by simp[z])
   ·rw[Iw s a x (by omega),CY ad,Xa];have nx:(0:Rat)<lg d (Xs s) (vc r)+(vc r a:Rat)*(qv x - 0):=by
     rcases cY (vc r a) 0 with q | q | q
     ·obtain⟨p,ep,le⟩:=E_.hi1 r hr q;have lt2:=gd.hi p ep;unfold oG at le;have a2:(0:Rat) < -(vc r a:Rat):=by have:=pA (show 0 < -vc r a by omega);simpa using this
      generalize lg d (Xs s) (vc r)=e1 at *;generalize (vc r a:Rat)=v at *;have v0:v≠0:=by grind
      have t:qv x < -e1 / v:=by grind
      have:=c8 t a2;have t1:-e1 / v * -v=e1:=by grind
      rw[t1] at this;grind
     ·have:=k6 r (q3 r hr q);rw[q];simp;grind
     ·obtain⟨p,ep,le⟩:=E_.lo1 r hr q;have lt2:=gd.lo p ep;unfold oG at le;have a2:(0:Rat)<(vc r a:Rat):=pA q;generalize lg d (Xs s) (vc r)=e1 at *;generalize (vc r a:Rat)=v at *;have v0:v≠0:=by grind
      have t:-e1 / v<qv x:=by grind
      have:=c8 t a2;have t1:-e1 / v*v = -e1:=by grind
      rw[t1] at this;grind
    exact nx)
 have fl:(pls.zipIdx.reverse).length=m:=by simp[m]
 rw[aF,fl] at k3 k4 k5;rw[Nat.sub_self] at k4 k5;have G0:ls[0]? = some sd:=by cases hy<;>rfl
 rw[G0] at k5;cases k5;have ito:Ef (dP (fj (Of (dP (dQ 1) dW))) dW) (kf (R s0 none none none))=.ok (pls.zipIdx.reverse.map fun (p:Nat×Nat)=>T.tup [.int (p.2:Int),.int (p.1:Int)]):=by have le:Of (dP (dQ 1) dW) (kf (R s0 none none none))=.ok (mD (pls.map fun (j:Nat)=>T.int (j:Int))):=rfl;simp only[Ef,dP,dW,fj,le,M.bind_ok];rw[w9,List.map_reverse]
 refine⟨s,lC rfl (d8 (lF (ts:=s0.map fr) rfl rfl) (d8 (gN ito e) rfl)),k1,k2,k3,fun p hp hn=>k4 p hp (by simpa using hn),k6⟩
theorem Fp(d M L:Nat)(hdL:d<L)(hd:d≤10)(hM:1≤M)(pv:List (Nat×List Int))(s:List (Int×Int))(hs:s.length=d)(hq:∀p∈s,Fq p)(hp:∀p∈pv,p.1<d∧p.2.length=L∧vc p.2 p.1≠0∧∀x∈p.2,Bn M x)(hw:pv.Pairwise fun p q=>p.1≠q.1∧vc q.2 p.1=0∧vc p.2 q.1=0)(h0:∀p∈pv,s.getD p.1 (0,1)=(0,1))(hE:pv≠[]→M+lp s+20≤8000) :
  ∃s',qT c [.lst (pv.map jZ),.lst (s.map fr)]=.ok (tS s')∧s'.length=d∧(∀p∈s',Fq p)∧lp s'≤lp s+pv.length*(M+lp s+20)∧(∀p∈pv,lg d (Xs s') (vc p.2)=0)∧∀r:Vc,(∀p∈pv,r p.1=0)→lg d (Xs s') r=lg d (Xs s) r:=by
 have sz:1000<sizeLine:=by decide
 let R (s':List (Int×Int)) (x3 x4:Option W):En:=[some (.p (.lst (pv.map jZ))),some (.p (.lst (s.map fr))),some (.o (s'.map fr)),x3,x4];obtain⟨ρ,e,s',x3,x4,rfl,k1,k2,k3,k4,k5,k6⟩:=gq (m:=kL 2 (gy (iK 3) (gy (iK 4) k9))) (g:=rQ c) jZ
  (fun i ρ=>∃(s':List (Int×Int)) (x3 x4:Option W),ρ=R s' x3 x4∧s'.length=d∧(∀p∈s',Fq p)∧lp s'≤lp s+i*(M+lp s+20)∧(∀p∈pv.take i,lg d (Xs s') (vc p.2)=0)∧(∀r:Vc,(∀p∈pv.take i,r p.1=0)→lg d (Xs s') r=lg d (Xs s) r)∧∀q,(∀p∈pv.take i,p.1≠q)→s'.getD q (0,1)=s.getD q (0,1))
  pv 0 (R s none none) ⟨s,none,none,rfl,hs,hq,by omega,fun p hp=>by simp at hp,fun r _=>rfl,fun q _=>rfl⟩ (by
   rintro i ⟨a,pr⟩ ρ hi ⟨s',x3,x4,rfl,k1,k2,k3,k4,k5,k6⟩;rw[aF] at k3 k4 k5 k6 ⊢;have hm:=au hi;have hE:=hE (fun z=>by rw[z] at hm;cases hm);obtain⟨ha,hl,hne,hb⟩:=hp _ hm;simp only at ha hl hne hb;have il:=(aa.mp hi).1;have hpre:∀p∈pv.take i,p.1≠a∧vc pr p.1=0∧vc p.2 a=0:=fun p hp'=>by
    obtain⟨j,hj⟩:=cF.mp hp';rw[List.getElem?_take] at hj;split at hj
    ·rename_i jl;have h1:=aa.mp hj;have h2:=aa.mp hi;have:=b8.mp hw j i h1.1 h2.1 jl;rw[h1.2,h2.2] at this;exact this
    ·cases hj
   obtain⟨r,e1,g1,v1⟩:=sY (c:=c) M (by omega) hM pr s (by omega) (by omega) hb hq (by omega);obtain⟨o,e2,g2,v2⟩:=xT (c:=c) (k:=vc pr a) hne (hb _ (by unfold vc;rw[af,ag (show a<pr.length by omega)];exact aU _)) g1 (by omega) (by omega)
   have st:rQ c (R s' (some (.p (.int (a:Int)))) (some (.p (tI pr))))=.nx (R (s'.set a o) (some (.p (.int (a:Int)))) (some (.p (tI pr)))):=by
    refine yY (us:=s'.map fr) rfl (fX (x:=fr r) (y:=fr (vc pr a,1)) (fX rfl rfl e1) (nt (dZ rfl rfl (iB pr a (by omega))) rfl) e2) rfl (j:=(a:Int)) (m:=a) rfl ?_ ?_
    ·rw[aw];exact vL _ _ (by omega)
    ·simp[R,cR]
   have Xa:Xs s' a=0:=by have h1:=k6 a fun p hp'=>(hpre p hp').1;have h2:=h0 _ hm;simp only at h2;unfold Xs;rw[h1,h2,QA]
   have ev:∀r:Vc,lg d (Xs (s'.set a o)) r=lg d (Xs s') r+(r a:Rat)*qv o:=fun r=>by rw[Iw s' a o (by omega),CY ha,Xa];grind
   have tk:=gW _ i (a,pr) hi;refine⟨_,_,rfl,.inl st,s'.set a o,_,_,rfl,by rw[bK,k1],fun p hp'=>?_,?_,?_,?_,?_⟩
   ·rcases dw hp' with q | q
    ·exact k2 p q
    ·rw[q];exact g2.fq
   ·have w1:=DP s' a o;have w2:wt o≤M+lp s+20:=g2.wt (by omega) (by omega) (by omega);rw[Nat.add_mul];omega
   ·intro p hp';rw[tk] at hp';rw[ev];rcases ai.mp hp' with q | q
    ·rw[k4 p q,(hpre p q).2.2];simp;grind
    ·have:p=(a,pr):=by simpa using q
     subst this;simp only;rw[k5 (vc pr) fun p hp'=>(hpre p hp').2.1,v2,v1];have dq:=zF d s pr hs (by omega);rw[dq,hs];unfold lg;have ne:(vc pr a:Rat)≠0:=by intro z;exact hne (by exact_mod_cast z)
     generalize rD d (fun p=>(vc pr p:Rat)*Xs s p)=A;generalize (vc pr a:Rat)=v at *;grind
   ·intro r hr;rw[ev,hr (a,pr) (by rw[tk];simp),k5 r fun p hp'=>hr p (by rw[tk];simp[hp'])];simp;grind
   ·intro q hq';have qa:a≠q:=hq' (a,pr) (by rw[tk];simp);rw[af,aq qa,←af];exact k6 q fun p hp'=>hq' p (by rw[tk];simp[hp']))
 rw[aF,cK] at k4 k5;rw[aF] at k3;exact⟨s',fw rfl (d8 (lF (ts:=s.map fr) rfl rfl) (d8 (gN rfl e) (eN rfl))),k1,k2,k3,k4,k5⟩
theorem yb(row:List Int)(s:Int)(hs:s.natAbs≤1)(hl:row.length≤1000):m9 c [tI row,.int s]=.ok (tI (row.map fun x=>s*x)):=by
 have sz:1000<sizeLine:=by decide
 refine fw rfl (eN (lD (t:=.lst ((row.map fun x=>s*x).map T.int)) (fM (gQ row T.int (fun x=>T.int (s*x)) rfl (by omega) (fun x hx=>⟨_,rfl,rfl,dZ rfl rfl (gz (r9 (by omega)))⟩) (by rw[aH];rfl))) rfl))
theorem A0(row:List Int)(s:Int)(i:Nat):vc (row.map fun x=>s*x) i=s*vc row i:=by unfold vc;rw[af,af,av];cases row[i]?<;>simp
theorem KS{N:Nat}{s x:Int}(hs:s.natAbs≤1)(h:Bn N x):Bn N (s*x):=by unfold Bn at *;rw[aX];refine bT ?_ h;exact aM (Nat.mul_le_mul_right _ hs) (by omega)
theorem Dw{f:Pe→M T}{ρ:Pe}{ys:List Int}(h:f ρ=.ok (tI ys)):fj (EL mv (dP f dW)) ρ=.ok (tL ys):=by simp only[fj,EL,dP,dW,h,M.bind_ok];rfl
theorem Be(d L:Nat)(hdL:d<L)(hL:L≤1000)(rs:List (List Int))(hr:∀r∈rs,r.length=L) :
  (gH c [.lst (rs.map tI),.int (d:Int)]=.ok .non∧∀r∈rs,vc r d=0)∨
  ∃r∈rs,vc r d≠0∧gH c [.lst (rs.map tI),.int (d:Int)]=.ok (tL ((r.map fun x=>pY (vc r d)*x).drop (d+1))):=by
 have main:=qG (m:=iK 2) (g:=lK c) tI
  (fun k ρ=>∃(x2:Option W),ρ=[some (.p (.lst (rs.map tI))),some (.p (.int (d:Int))),x2]∧∀r∈rs.take k,vc r d=0)
  (fun t=>∃r∈rs,vc r d≠0∧t=tL ((r.map fun x=>pY (vc r d)*x).drop (d+1))) rs 0 _ ⟨none,rfl,fun r h=>by simp at h⟩ (by
   rintro i r ρ hi ⟨x2,rfl,h⟩;rw[aF] at h ⊢;have hm:=au hi;have hl:=hr r hm;refine⟨_,rfl,?_⟩;have hix:fV (tI r) (.int (d:Int))=.ok (.int (vc r d)):=iB r d (by omega);by_cases h0:vc r d=0
   ·left;refine⟨_,fz (eK (dZ (dZ rfl rfl hix) rfl (by rw[iz,h0];rfl))) rfl,_,rfl,fun r' hr'=>?_⟩;rw[gW _ i r hi] at hr';rcases ai.mp hr' with q | q
    ·exact h r' q
    ·rw[aj.mp q];exact h0
   ·right;have sg1:(pY (vc r d)).natAbs≤1:=by unfold pY;split<;>(try split)<;>simp
    exact⟨_,fG (eK (dZ (dZ rfl rfl hix) rfl (by rw[iz];simp[h0]))) (eN (Dw (qt _ d (fX (x:=tI r) (y:=.int (pY (vc r d))) rfl (pU (dZ rfl rfl hix) (qw _)) (yb r _ sg1 (by omega))) rfl))),r,hm,h0,rfl⟩)
 rcases main with⟨ρ,e,x2,rfl,h⟩ | ⟨t,e,r,hm,h0,rfl⟩
 ·left;rw[aF,cK] at h;exact⟨fw rfl (d8 (gN rfl e) (eN rfl)),h⟩
 ·right;exact⟨r,hm,h0,fw rfl (hU (gN rfl e) rfl)⟩
theorem Jr(us:List (List Int)):(us.zipIdx.map fun p=>p.1++(List.replicate us.length (0:Int)).set p.2 1)=(List.range us.length).map (wr us):=by
 apply List.ext_getElem
 ·simp
 ·intro i h1 h2;simp only[aw,List.length_zipIdx] at h1;simp[wr,List.getElem_zipIdx,h1]
theorem BX{n:Nat}{sg:List Int}{k:Nat}{s:Int}:(k,s)∈(List.range n).zip sg↔k<n∧sg[k]? = some s:=by
 rw[cF];constructor
 ·rintro⟨i,hi⟩;rw[List.getElem?_zip_eq_some] at hi;obtain⟨h1,h2⟩:=hi;simp only at h1 h2;have:=aa.mp h1;simp at this;obtain⟨a,b⟩:=this;subst b;exact⟨a,h2⟩
 ·rintro⟨h1,h2⟩;exact⟨k,List.getElem?_zip_eq_some.mpr ⟨by simp[h1],h2⟩⟩
structure FE(n:Nat)(sg:List Int):Prop where
 len:sg.length=n
 one:∀x∈sg,x.natAbs≤1
def zer(n:Nat)(sg:List Int):List Nat:=(((List.range n).zip sg).filter fun p=>p.2 == 0).map Prod.fst
def uf(n:Nat)(sg:List Int):List (Nat×Int):=((List.range n).zip sg).filter fun p=>p.2 != 0
theorem o4{n:Nat}{sg:List Int}{k:Nat}:k∈zer n sg↔k<n∧sg[k]? = some 0:=by
 unfold zer;rw[aC];constructor
 ·rintro⟨⟨k',s⟩,h,rfl⟩;obtain⟨h1,h2⟩:=aT.mp h;have:=BX.mp h1;have e:s=0:=by simpa using h2
  subst e;exact this
 ·rintro⟨h1,h2⟩;exact⟨(k,0),aT.mpr ⟨BX.mpr ⟨h1,h2⟩,by simp⟩,rfl⟩
theorem nZ{n:Nat}{sg:List Int}{k:Nat}{s:Int}:(k,s)∈uf n sg↔k<n∧sg[k]? = some s∧s≠0:=by unfold uf;rw[aT,BX];simp[and_assoc]
theorem oq{α β:Type}:∀(a:List α) (b:List β),((a.zip b).map Prod.fst).Sublist a
 | [],_=>by simp
 | _::_,[]=>by simp
 | x::a,y::b=>by simp[oq a b]
theorem MY{g v:Int}(hg:0<g)(h:0<g*v):0<v:=aN fun q=>by have:=df (show v≤0 by omega) (az hg);rw[cL] at this;omega
theorem G3(n:Nat)(sg:List Int):((uf n sg).map Prod.fst).Nodup:=by have h1:((uf n sg).map Prod.fst).Sublist (((List.range n).zip sg).map Prod.fst):=(dG).map _;have h2:(((List.range n).zip sg).map Prod.fst).Sublist (List.range n):=oq _ _;exact (cW).sublist (h1.trans h2)
theorem EB{d:Nat}{X:Nat→Rat}{x y:Vc}(h:∀i,i≤d→x i=y i):lg d X x=lg d X y:=by unfold lg;rw[lX d _ (fun p=>(y p:Rat)*X p) fun p hp=>by rw[h p (by omega)],h d (aJ _)]
theorem Qs.evl0{d:Nat}{X:Nat→Rat}{P:Vc→Prop}(h:∀x,P x→lg d X x=0){z:Vc}(q:Qs P z):lg d X z=0:=by
 induction q with
 | of p=>exact h _ p
 | zero=>rw[v9 fun _ _=>rfl];simp
 | lin hx hy hs e i1 i2=>
  rename_i x y z s a b;have:=t9 (d:=d) (X:=X) x y z s a b e;rw[i1,i2] at this;have s0:(s:Rat)≠0:=by intro z;exact hs (by exact_mod_cast z)
  grind
structure Pz(us:List (List Int))(d N:Nat)(pv:List (Nat×List Int))(ix:List Nat)(k:Nat)(s:Int)(r:List Int):Prop where
 len:r.length=d+1+us.length
 own:0<s*vc r (d+1+k)
 oth:∀i,i∉ix→i≠k→vc r (d+1+i)=0
 lin:jK us d (vc r)
 zer:∀p∈pv,vc r p.1=0
 ex:∃(g s':Int) (y:Vc),0<g∧0<s'∧Qs (NX pv) y∧∀i,g*vc r i=s'*(s*vc (wr us k) i)+1*y i
 bn:∀x∈r,Bn N x
theorem FJ{us:List (List Int)}{d B:Nat}{zs:List Nat}{pv:List (Nat×List Int)}{rs:List (List Int)}{ix:List Nat}(hd:d≤4)(hn:us.length≤8)(hl:∀u∈us,u.length=d+1)(hb:∀u∈us,∀x∈u,Bn B x)(hB:Qr d B)(h:PV us d B zs pv rs ix){k:Nat}{s:Int}(hk:k<us.length)(hkz:k∉zs)(hs:s.natAbs≤1)(h0:s≠0) :
  ∃r,jP c [tI ((wr us k).map fun x=>s*x),.lst (pv.map jZ)]=.ok (tI r)∧Pz us d (B+pv.length*(Pq B pv.length+1)) pv ix k s r:=by
 have wl:=A7 us d k hk hl;have kx:k∉ix:=fun z=>hkz (h.sub k z);have hle:=hB.le pv.length h.short;obtain⟨r,e,l,b,⟨g,s',y,hg,hs',hy,ey⟩,z⟩:=A2 (c:=c) (NX pv) (d+1+us.length) (Pq B pv.length) B (by omega) pv ((wr us k).map fun x=>s*x) hle (by rw[aw,wl]) (fun x hx=>by
  obtain⟨x',hx',rfl⟩:=aC.mp hx;exact KS hs (Lg hB.b1 us k hk hb x' hx')) (fun p hp=>by
  obtain⟨q1,q2,q3,q4,-⟩:=h.pl p hp;exact⟨by omega,q2,q3,q4,⟨p,hp,rfl⟩⟩) (h.pw.imp fun q=>q.2.1)
 have ey':∀i,g*vc r i=s'*(s*vc (wr us k) i)+1*y i:=fun i=>by rw[ey i,A0]
 have yw:∀i,i∉ix→y (d+1+i)=0:=fun i hi=>Qs.at0 (fun x ⟨p,hp,ex⟩=>by rw[ex];exact (h.pl p hp).2.2.2.2.2 i hi) hy;refine⟨r,e,l,?_,fun i hi hik=>?_,?_,z,⟨g,s',y,hg,hs',hy,ey'⟩,b⟩
 ·have q:=ey' (d+1+k);rw[yw k kx,Ak us d k hk hl,aQ (by omega),aP (by omega)] at q;have ss:s*s=1:=by
   have:s=1∨s = -1:=by omega
   rcases this with e | e<;>rw[e]<;>decide
  have q2:g*(s*vc r (d+1+k))=s':=by
   have:g*(s*vc r (d+1+k))=s*(g*vc r (d+1+k)):=by grind
   rw[this,q];grind
  exact MY hg (by omega)
 ·have q:=ey' (d+1+i);rw[yw i hi,Pi us d k hk hl i hik] at q;exact sG (g:=g) (by omega) (by rw[q];simp)
 ·have ly:jK us d y:=jK.qs (fun x ⟨p,hp,ex⟩=>by rw[ex];exact (h.pl p hp).2.2.2.2.1) hy;exact jK.comb (g:=g) (a:=s'*s) (b:=1) (by omega) (He us d k hk hl) ly fun i=>by rw[ey' i];grind
structure PL(us:List (List Int))(d:Nat)(sg ws:List Int):Prop where
 len:ws.length=us.length
 may:∀i s,sg[i]? = some s→0≤s*vc ws i
 zer:∀k,k<d→sm us.length (fun i=>vc ws i*vc (us.getD i []) k)=0
 fin:0<sm us.length (fun i=>vc ws i*vc (us.getD i []) d)∨(sm us.length (fun i=>vc ws i*vc (us.getD i []) d)=0∧∃i s,sg[i]? = some s∧s*vc ws i≠0)
theorem yU(r:List Int)(k i:Nat):vc (r.drop k) i=vc r (k+i):=by unfold vc;rw[af,af,List.getElem?_drop]
theorem DN{us:List (List Int)}{d:Nat}:∀(m:Nat) (g:Nat→Vc) (t:Vc),(∀j,j<m→jK us d (g j))→jK us d (Lt m g t)
 | 0,g,t,_=>by have:Lt 0 g t=fun _=>0:=rfl;rw[this];exact jK.zero
 | m+1,g,t,h=>by refine jK.comb (g:=1) (a:=t 0) (b:=1) (by decide) (h 0 (by omega)) (DN m (fun j=>g (j+1)) (fun j=>t (j+1)) fun j hj=>h (j+1) (by omega)) fun i=>?_;show 1*(t 0*g 0 i+sm m fun j=>t (j+1)*g (j+1) i)=t 0*g 0 i+1*(sm m fun j=>t (j+1)*g (j+1) i);omega
theorem JN(m j0:Nat)(hj:j0<m)(f:Nat→Int)(h:∀j,j<m→j≠j0→f j=0):sm m f=f j0:=by
 rw[←yt m j0 f hj];refine i9 m _ _ fun j hj'=>?_;by_cases q:j=j0
 ·rw[aP q];omega
 ·rw[aQ q,h j hj' q];rfl
theorem Na{us:List (List Int)}{d N:Nat}{sg:List Int}{pv:List (Nat×List Int)}{ix:List Nat}(hsg:FE us.length sg)(hix:∀i∈ix,i∈zer us.length sg){f:Nat×Int→List Int}(hf:∀p∈uf us.length sg,Pz us d N pv ix p.1 p.2 (f p)){r:List Int}(hl:r.length=d+1+us.length){t:Vc}(ct:ja ((uf us.length sg).map f).length [] t){s:Int}(hs:0<s)(e:∀q,s*vc r q=Lt ((uf us.length sg).map f).length (fun j=>vc (((uf us.length sg).map f).getD j [])) t q)
  (h0:∀k,k<d→vc r k=0) (hd:0≤vc r d):PL us d sg (r.drop (d+1)):=by
 generalize hsd:(uf us.length sg).map f=sd at *;have gj:∀j,j<sd.length→∃p,(uf us.length sg)[j]? = some p∧sd.getD j []=f p:=fun j hj=>by subst hsd;rw[aw] at hj;refine⟨_,ag hj,?_⟩;rw[af,av,ag hj];rfl
 have lr:jK us d (vc r):=by
  have:jK us d (Lt sd.length (fun j=>vc (sd.getD j [])) t):=DN _ _ _ fun j hj=>by obtain⟨p,h1,h2⟩:=gj j hj;rw[h2];exact (hf p (au h1)).lin
  exact jK.comb (g:=s) (a:=1) (b:=0) (by omega) this jK.zero fun i=>by rw[e i];omega
 have key:∀j k s',(uf us.length sg)[j]? = some (k,s')→j<sd.length∧s*(s'*vc r (d+1+k))=t j*(s'*vc (sd.getD j []) (d+1+k))∧0<s'*vc (sd.getD j []) (d+1+k):=fun j k s' h=>by
  have hm:=au h;have hj:j<sd.length:=by rw[←hsd,aw];exact (aa.mp h).1
  have ej:sd.getD j []=f (k,s'):=by obtain⟨p,h1,h2⟩:=gj j hj;rw[h1] at h;cases h;exact h2
  obtain⟨k1,k2,k3⟩:=nZ.mp hm;have kx:k∉ix:=fun z=>by have:=(o4.mp (hix k z)).2;rw[k2] at this;exact k3 (Option.some.inj this)
  refine⟨hj,?_,by rw[ej];exact (hf _ hm).own⟩;have q:=e (d+1+k);have:Lt sd.length (fun j=>vc (sd.getD j [])) t (d+1+k)=t j*vc (sd.getD j []) (d+1+k):=JN sd.length j hj _ fun j' hj' hne=>by
   obtain⟨p,h1,h2⟩:=gj j' hj';have:p.1≠k:=fun z=>by
    have nd:=G3 us.length sg;refine hne (Au nd (a:=k) ?_ ?_)
    ·rw[av,h1];simp[z]
    ·rw[av,h];rfl
   show t j'*vc (sd.getD j' []) (d+1+k)=0;rw[h2,(hf p (au h1)).oth k kx (fun z=>this z.symm)];simp
  rw[this] at q;grind
 have vd:∀i,vc (r.drop (d+1)) i=vc r (d+1+i):=fun i=>yU r (d+1) i;have sums:∀k,k≤d→sm us.length (fun i=>vc (r.drop (d+1)) i*vc (us.getD i []) k)=vc r k:=fun k hk=>by rw[lr k hk];exact i9 _ _ _ fun i _=>by rw[vd]
 refine⟨by rw[bI];omega,fun i s' hi=>?_,fun k hk=>by rw[sums k (by omega),h0 k hk],?_⟩
 ·rw[vd];by_cases z:s'=0
  ·rw[z];simp
  ·have il:i<us.length:=by rw[←hsg.len];exact (aa.mp hi).1
   have hm:(i,s')∈uf us.length sg:=nZ.mpr ⟨il,hi,z⟩;obtain⟨j,hj⟩:=cF.mp hm;obtain⟨-,k2,k3⟩:=key j i s' hj;have:=aO (ct.nn j) (az k3);rw[←k2] at this;exact aN fun q=>by have:=cX hs (show s'*vc r (d+1+i)<0 by omega);omega
 ·rw[sums d (aJ _)];rcases Int.lt_or_eq_of_le hd with q | q
  ·exact .inl q
  ·right;refine⟨q.symm,?_⟩;obtain⟨j,hj⟩:=ct.ne;have jl:j<sd.length:=by
    rcases cT j sd.length with h | h
    ·exact h
    ·exact absurd (ct.out j h) hj
   obtain⟨⟨k,s'⟩,h1,-⟩:=gj j jl;obtain⟨-,k2,k3⟩:=key j k s' h1;have kk:=nZ.mp (au h1);refine⟨k,s',kk.2.1,fun z=>?_⟩;rw[vd] at z;rw[z,cL] at k2;have:=aW (show 0<t j by have:=ct.nn j;omega) k3;omega
theorem Hr{us:List (List Int)}{d B:Nat}{sg:List Int}{pv:List (Nat×List Int)}{rs:List (List Int)}{ix:List Nat}(hsg:FE us.length sg)(h:PV us d B (zer us.length sg) pv rs ix){r:List Int}(hr:r∈rs)(h0:vc r d≠0):PL us d sg ((r.map fun x=>pY (vc r d)*x).drop (d+1)):=by
 obtain⟨l,z,lin,w,-⟩:=h.rr r hr;have vd:∀i,vc ((r.map fun x=>pY (vc r d)*x).drop (d+1)) i=pY (vc r d)*vc r (d+1+i):=fun i=>by rw[yU,A0]
 have sums:∀k,k≤d→sm us.length (fun i=>vc ((r.map fun x=>pY (vc r d)*x).drop (d+1)) i*vc (us.getD i []) k)=pY (vc r d)*vc r k:=fun k hk=>by rw[lin k hk,←vW];exact i9 _ _ _ fun i _=>by rw[vd];grind
 refine⟨by rw[bI,aw];omega,fun i s' hi=>?_,fun k hk=>by rw[sums k (by omega),z k hk];simp,.inl ?_⟩
 ·by_cases q:s'=0
  ·rw[q];simp
  ·rw[vd,w i fun hz=>?_]
   ·simp
   ·have:=(o4.mp hz).2;rw[hi] at this;exact q (Option.some.inj this)
 ·rw[sums d (aJ _)];unfold pY;split
  ·omega
  ·split
   ·omega
   ·omega
structure Qt(us:List (List Int))(d Wb:Nat)(sg:List Int)(s:List (Int×Int)):Prop where
 len:s.length=d
 fq:∀p∈s,Fq p
 lp:lp s≤Wb
 side:∀(i:Nat) (v:Int),sg[i]? = some v→(v=0→lg d (Xs s) (vc (us.getD i []))=0)∧(v≠0→0<(v:Rat)*lg d (Xs s) (vc (us.getD i [])))
def Ns(B k:Nat):Nat:=B+k*(Pq B k+1)
structure Bg(d B Wb:Nat):Prop where
 sml:Qr d B
 ok:∀k m,k+m≤d→Nb (Ns B k) m≤8000∧(∀i,i<m→Nb (Ns B k) (m - 1 - i)+Sb (Ns B k) d m i+20≤7000)∧(k≠0→Pq B k+Sb (Ns B k) d m m+21≤8000)∧Sb (Ns B k) d m m+k*(Pq B k+Sb (Ns B k) d m m+21)≤Wb
theorem lY{pv:List (Nat×List Int)}{d k:Nat}:k∈n8 pv d↔k<d∧∀p∈pv,p.1≠k:=by
 unfold n8;rw[aT,aR];simp;intro _;constructor
 ·intro h a b hm z;subst z;exact h b hm
 ·intro h x hm;exact h k x hm rfl
theorem AM(pv:List (Nat×List Int))(d:Nat):(n8 pv d).Nodup:=(cW).sublist dG
theorem ES{us:List (List Int)}{d B:Nat}{dn:List Nat}{pv:List (Nat×List Int)}{rs:List (List Int)}{ix:List Nat}(h:PV us d B dn pv rs ix):pv.length+(n8 pv d).length≤d:=by
 have nd:(pv.map Prod.fst++n8 pv d).Nodup:=by rw[List.nodup_append];refine⟨dy.mpr (h.pw.imp fun q=>q.1),AM pv d,fun a ha b hb z=>?_⟩;obtain⟨p,hp,rfl⟩:=aC.mp ha;exact (lY.mp hb).2 p hp z
 have:=ux (m:=List.range d) nd fun x hx=>by
  rcases ai.mp hx with q | q
  ·obtain⟨p,hp,rfl⟩:=aC.mp q;exact aR.mpr (h.pl p hp).1
  ·exact aR.mpr (lY.mp q).1
 simpa using this
theorem Ot(n:Nat)(hn:n≤1000){f:Pe→M T}{ρ:Pe}(h:f ρ=.ok (.int (n:Int))):fj (jU (fj (lstM (dP (gX (dP (cM (.int 0)) (dP (cM (.int 1)) dW))) dW))) f) ρ=.ok (.lst ((List.replicate n ((0,1):Int×Int)).map fr)):=by
 have sz:1000<sizeLine:=by decide
 have hr:yM (n:Int)=true:=iQ (by omega);have h1:1≤sizeLine:=by decide
 have h3:2≤sizeLine:=by decide
 have h2:n≤sizeLine:=by omega
 have e:(List.replicate n [T.tup [T.int 0,T.int 1]]).flatten=(List.replicate n ((0,1):Int×Int)).map fr:=by
  clear h hr h2 hn;induction n with
  | zero=>rfl
  | succ n ih=>rw[bN,bO,ih,bN];rfl
 have e0:fj (lstM (dP (gX (dP (cM (.int 0)) (dP (cM (.int 1)) dW))) dW)) ρ=.ok (.lst [T.tup [T.int 0,T.int 1]]):=tN (nt rfl rfl);refine fM ?_;unfold jU;rw[e0,h];simp[hr,h2];exact .inr rfl
theorem Je.g0{d n:Nat}{ss ix:List Nat}{sd:List (List Int)}(h:Je d n ss ix sd):∀r∈sd,r.length=d+1+n∧∃t,ja sd.length [] t∧∃s:Int,0<s∧∀q,s*vc r q=Lt sd.length (fun j=>vc (sd.getD j [])) t q:=fun r hr=>by
 obtain⟨j,hj⟩:=cF.mp hr;have jl:j<sd.length:=(aa.mp hj).1;have ej:sd.getD j []=r:=by rw[af,hj];rfl
 refine⟨h.l r hr,n5 j,⟨fun i=>by unfold n5;split<;>omega,fun i hi=>by unfold n5;rw[aQ (by omega)],⟨j,by simp[n5]⟩,fun A hA=>(nomatch hA)⟩,1,by decide,fun q=>?_⟩;rw[ur sd.length _ j jl q,ej,cJ]
theorem Je.gen0{d n:Nat}{ss ix:List Nat}{sd:List (List Int)}(_:Je d n ss ix sd):∀u,ja sd.length [] u→Cn (Ly sd [] sd) u:=fun u hu=>(xw sd.length (cs sd.length u) u (aJ _) hu).mono fun x ⟨i,hi,ex⟩=>by
 subst ex;have hm:sd.getD i []∈sd:=by rw[af,ag hi];exact aU hi
 refine⟨⟨fun k=>by unfold n5;split<;>omega,fun k hk=>by unfold n5;rw[aQ (by omega)],⟨i,by simp[n5]⟩,fun A hA=>(nomatch hA)⟩,sd.getD i [],hm,1,by decide,fun q=>?_⟩;rw[ur sd.length _ i hi q,cJ]
theorem Lp{us:List (List Int)}{d N:Nat}{sg:List Int}{pv:List (Nat×List Int)}{ix:List Nat}{f:Nat×Int→List Int}(hf:∀p∈uf us.length sg,Pz us d N pv ix p.1 p.2 (f p)):Je d us.length ((uf us.length sg).map Prod.fst) ix ((uf us.length sg).map f):=by
 have gj:∀j,j<((uf us.length sg).map f).length→∃p,p∈uf us.length sg∧((uf us.length sg).map f).getD j []=f p∧((uf us.length sg).map Prod.fst).getD j 0=p.1:=fun j hj=>by
  rw[aw] at hj;refine⟨_,aU hj,?_,?_⟩
  ·rw[af,av,ag hj];rfl
  ·rw[af,av,ag hj];rfl
 refine⟨by simp,G3 _ _,fun i hi=>?_,fun r hr=>?_,fun j hj=>?_,fun j hj i hi hne=>?_⟩
 ·obtain⟨⟨k,s⟩,hp,rfl⟩:=aC.mp hi;exact (nZ.mp hp).1
 ·obtain⟨p,hp,rfl⟩:=aC.mp hr;exact (hf p hp).len
 ·obtain⟨p,hp,e1,e2⟩:=gj j hj;rw[e1,e2];intro z;have:=(hf p hp).own;rw[z] at this;simp at this
 ·obtain⟨p,hp,e1,e2⟩:=gj j hj;rw[e2] at hne;rw[e1];exact (hf p hp).oth i hi hne
theorem pF(us:List (List Int))(d B Wb:Nat)(hd:d≤4)(hn:us.length≤8)(hl:∀u∈us,u.length=d+1)(hb:∀u∈us,∀x∈u,Bn B x)(hB:Bg d B Wb)(sg:List Int)(hsg:FE us.length sg) :
  (∃ws,gK c [.lst (us.map tI),.int (d:Int),tI sg]=.ok (.tup [.str "paper",tL ws])∧PL us d sg ws∧∀x∈ws,Bn 8000 x)∨∃s,gK c [.lst (us.map tI),.int (d:Int),tI sg]=.ok (.tup [.str "spot",tS s])∧Qt us d Wb sg s:=by
 have sz:1000<sizeLine:=by decide
 obtain⟨pv,rs,ix,e4,hP,hrs⟩:=Cc (c:=c) us d B hd hn hl hb hB.sml (zer us.length sg) (fun z hz=>(o4.mp hz).1) (by
  have:=ux (m:=List.range us.length) (l:=zer us.length sg) (by have h1:(zer us.length sg).Sublist (((List.range us.length).zip sg).map Prod.fst):=(dG).map _;exact (cW).sublist (h1.trans (oq _ _))) fun x hx=>aR.mpr (o4.mp hx).1
  rw[dH] at this;omega)
 have ew:=AE (c:=c) us hn (fun r hr=>by have:=hl r hr;omega);rw[Jr] at ew;let vs:T:=.lst (((List.range us.length).map (wr us)).map tI);let R (x4 x5 x6 x7 x8 x9 x10:Option W):En:=[some (.p (.lst (us.map tI))),some (.p (.int (d:Int))),some (.p (tI sg)),some (.p vs),x4,x5,x6,x7,x8,x9,x10];have zo:∀x4 x5 x6 x7 x8 x9 x10,j9 (dP (dQ 3) (dP (dQ 2) dW)) (kf (R x4 x5 x6 x7 x8 x9 x10))=.ok (((List.range us.length).zip sg).map fun p=>T.tup [tI (wr us p.1),.int p.2]):=fun x4 x5 x6 x7 x8 x9 x10=>mw (x:=vs) (y:=tI sg) (l:=List.range us.length) (m:=sg) (f:=fun k=>tI (wr us k)) (g:=T.int) rfl (by show M.ok _=_;rw[aH];rfl) rfl rfl
 have zl:((List.range us.length).zip sg).length<sizeLine:=by rw[dI,dH];omega
 have lc1:iE [none,none] (j9 (dP (dQ 3) (dP (dQ 2) dW))) (lW 2 (gh (gZ 0) (gh (gZ 1) lV))) (fN (eC (eU false) (dQ 1) (cM (.int 0)))) (lH c) (kf (R none none none none none none none))=.ok (((zer us.length sg).map (wr us)).map tI):=nP _ _ (fun p=>tI (wr us p.1)) (fun p=>p.2 == 0) (zo _ _ _ _ _ _ _) zl (fun p hp=>⟨_,rfl,eK (dZ rfl rfl (fS _ _)),fun _=>rfl⟩) (by unfold zer;rw[aH,aH];rfl)
 let fo:T:=.tup [.lst (pv.map jZ),.lst (rs.map tI)];have head:∀{o:O},(eJ (setO 5 (gE (eD (dP (eC fV (dQ 4) (cM (.int 1))) (dP (dQ 1) dW)) (gH c)))) _) (R (some (.p fo)) none none none none none none)=o→jL c (fQ 11 [.lst (us.map tI),.int (d:Int),tI sg])=o:=fun {o} h=>d8 (ρ':=R none none none none none none none) (eG (fM (Ga rfl ew)) rfl) (d8 (ρ':=R (some (.p fo)) none none none none none none) (eG (fX (fM lc1) rfl e4) rfl) h)
 have hlr:∀r∈rs,r.length=d+1+us.length:=fun r hr=>(hP.rr r hr).1;rcases Be (c:=c) d (d+1+us.length) (by omega) (by omega) rs hlr with⟨e5,hz⟩ | ⟨r,hr,h0,e5⟩
 case inr=>
  left;refine⟨_,fw rfl (head (d8 (ρ':=R (some (.p fo)) (some (.p (tL ((r.map fun x=>pY (vc r d)*x).drop (d+1))))) none none none none none) (eG (fX (dZ rfl rfl rfl) rfl e5) rfl) (hU (fG (eK (dZ rfl rfl rfl)) (eN (nt rfl rfl))) rfl))),Hr hsg hP hr h0,fun x hx=>?_⟩;obtain⟨y,hy,rfl⟩:=aC.mp (dJ hx);have b:=(hP.rr r hr).2.2.2.2 y hy;have sg1:(pY (vc r d)).natAbs≤1:=by unfold pY;split<;>(try split)<;>simp
  exact KS sg1 (b.mono (hB.sml.le d (aJ _)))
 obtain⟨f,hf⟩:=su (P:=fun (p:Nat×Int) r=>jP c [tI ((wr us p.1).map fun x=>p.2*x),.lst (pv.map jZ)]=.ok (tI r)∧Pz us d (Ns B pv.length) pv ix p.1 p.2 r) (uf us.length sg) fun p hp=>by obtain⟨k,s⟩:=p;obtain⟨k1,k2,k3⟩:=nZ.mp hp;exact FJ hd hn hl hb hB.sml hP k1 (fun z=>by have:=(o4.mp z).2;rw[k2] at this;exact k3 (Option.some.inj this)) (hsg.one s (au k2)) k3
 have hf2:=fun p hp=>(hf p hp).2;generalize hsd:(uf us.length sg).map f=sd;have hS:=Lp hf2;rw[hsd] at hS;have sdl:sd.length≤8:=by rw[←hsd,aw];have:(uf us.length sg).length≤((List.range us.length).zip sg).length:=dC _ _;rw[dI,dH] at this;omega
 have sdr:∀r∈sd,r.length=d+1+us.length∧∀x∈r,Bn (Ns B pv.length) x:=fun r hr=>by rw[←hsd] at hr;obtain⟨p,hp,rfl⟩:=aC.mp hr;exact⟨(hf2 p hp).len,(hf2 p hp).bn⟩
 let xf:Option W:=some (.p fo);let xn:Option W:=some (.p .non);let xp:Option W:=some (.p (.lst (pv.map jZ)));have lc2:iE [none,none,some 6] (j9 (dP (dQ 3) (dP (dQ 2) dW))) (lW 2 (gh (gZ 0) (gh (gZ 1) lV))) (fN (eC (eU true) (dQ 1) (cM (.int 0)))) (lL c) (kf (R xf xn xp none none none none))=.ok (sd.map tI):=nP _ _ (fun p=>tI (f p)) (fun p=>p.2 != 0) (zo _ _ _ _ _ _ _) zl (fun p hp=>⟨_,rfl,eK (dZ rfl rfl (iz _ _)),fun hne=>by have hm:p∈uf us.length sg:=aT.mpr ⟨hp,hne⟩;have km:=nZ.mp (show (p.1,p.2)∈_ from hm);refine fX (x:=tI ((wr us p.1).map fun x=>p.2*x)) (y:=.lst (pv.map jZ)) (fX rfl rfl (yb _ _ (hsg.one _ (au km.2.1)) ?_)) rfl (hf p hm).1;rw[A7 us d p.1 km.1 hl];omega⟩) (by rw[←hsd,aH];rfl)
 have fl:=ES hP;obtain⟨ok1,ok2,ok3,ok4⟩:=hB.ok pv.length (n8 pv d).length fl;have e8:=uO (c:=c) pv d (by omega) (by omega);obtain⟨ls,e9,hy,hbl⟩:=BN (c:=c) d (d+1+us.length) (Ns B pv.length) (by omega) (by omega) sd sdl sdr pv (by omega) (n8 pv d) (by omega) (fun a ha=>by have:=(lY.mp ha).1;omega) ok1;rw[hP.len] at hy;let Z:Nat→Prop:=fun p=>∃q∈pv,q.1=p;have hZ:∀r∈sd,∀p,Z p→vc r p=0:=fun r hr p ⟨q,hq,e⟩=>by rw[←hsd] at hr;obtain⟨p',hp',rfl⟩:=aC.mp hr;rw[←e];exact (hf2 p' hp').zer q hq
 have zC:∀p,p<d→Z p∨p∈n8 pv d:=fun p hp=>by
  by_cases q:Z p
  ·exact .inl q
  ·exact .inr (lY.mpr ⟨hp,fun p' hp' e=>q ⟨p',hp',e⟩⟩)
 obtain⟨-,Gl,la1,la2,la3,la4⟩:=Gv hS hy [] rfl hS.g0 hS.gen0 Z hZ;let xs:Option W:=some (.p (.lst (sd.map tI)));let xq:Option W:=some (.p (.lst ((n8 pv d).map fun (j:Nat)=>T.int (j:Int))));let xl:Option W:=some (.p (.lst (ls.map fun g=>T.lst (g.map tI))));have tail:∀{o:O},(eJ (kM (fY (eC fV (dQ 9) (wj (fun i=>.int (-i)) (cM (.int 1))))) (iK 10) (jw c)) _) (R xf xn xp xs xq xl none)=o→jL c (fQ 11 [.lst (us.map tI),.int (d:Int),tI sg])=o:=fun {o} h=>head (d8 (ρ':=R xf xn none none none none none) (eG (fX (dZ rfl rfl rfl) rfl e5) rfl) (d8 (ρ':=R xf xn none none none none none) (fz (eK (dZ rfl rfl rfl)) rfl) (d8 (ρ':=R xf xn xp none none none none) (eG (dZ rfl rfl rfl) rfl) (d8 (ρ':=R xf xn xp xs none none none) (eG (fM lc2) rfl) (d8 (ρ':=R xf xn xp xs xq none none) (eG (fM (GO rfl rfl e8)) rfl) (d8 (ρ':=R xf xn xp xs xq xl none) (eG (fM (B3 rfl rfl rfl rfl e9)) rfl) h))))))
 have glast:fY (eC fV (dQ 9) (wj (fun i=>.int (-i)) (cM (.int 1)))) (kf (R xf xn xp xs xq xl none))=.ok (Gl.map tI):=by
  have e1:ls.map (fun g=>T.lst (g.map tI))=(ls.dropLast.map fun g=>T.lst (g.map tI))++[T.lst (Gl.map tI)]:=by
   have hne:ls≠[]:=fun z=>by rw[z] at la2;cases la2
   have h1:=List.dropLast_concat_getLast hne;have h2:ls.getLast hne=Gl:=by rw[List.getLast?_eq_getLast hne] at la2;exact Option.some.inj la2
   rw[h2] at h1;conv=>lhs;rw[←h1]
   rw[aY];rfl
  have e2:eC fV (dQ 9) (wj (fun i=>.int (-i)) (cM (.int 1))) (kf (R xf xn xp xs xq xl none))=.ok (T.lst (Gl.map tI)):=dZ (x:=.lst (ls.map fun g=>T.lst (g.map tI))) (y:=.int (-1)) rfl rfl (by rw[e1];exact CT _ _);unfold fY;rw[e2];rfl
 have gll:∀r∈Gl,r.length=d+1+us.length:=fun r hr=>(la4 r hr).1;have main:=qG (m:=iK 10) (g:=jw c) tI
  (fun k ρ=>∃(x10:Option W),ρ=R xf xn xp xs xq xl x10∧∀r∈Gl.take k,vc r d<0)
  (fun t=>∃r∈Gl,0≤vc r d∧t=.tup [.str "paper",tL (r.drop (d+1))]) Gl 0 _ ⟨none,rfl,fun r h=>by simp at h⟩ (by
   rintro i r ρ hi ⟨x10,rfl,h⟩;rw[aF] at h ⊢;have hm:=au hi;have hix:fV (tI r) (.int (d:Int))=.ok (.int (vc r d)):=iB r d (by have:=gll r hm;omega);refine⟨_,rfl,?_⟩;by_cases h0:0≤vc r d
   ·right;exact⟨_,fG (eK (dZ (dZ rfl rfl hix) rfl (by rw[qR];simp[h0]))) (eN (nt rfl (Dw (qt _ d rfl rfl)))),r,hm,h0,rfl⟩
   ·left;refine⟨_,fz (eK (dZ (dZ rfl rfl hix) rfl (by rw[qR];simp[h0]))) rfl,_,rfl,fun r' hr'=>?_⟩;rw[gW _ i r hi] at hr';rcases ai.mp hr' with q | q
    ·exact h r' q
    ·rw[aj.mp q];omega)
 rcases main with⟨ρ,e,x10,rfl,h⟩ | ⟨t,e,r,hm,h0,rfl⟩
 ·right;rw[aF,cK] at h;have n1:1≤Ns B pv.length:=aM hB.sml.b1 (bY _ _);obtain⟨s,p1,p2,p3,p4,p5,p6⟩:=tZ (c:=c) hS (Ns B pv.length) n1 (by omega) hy (by omega) (fun a ha=>(lY.mp ha).1) (AM pv d) hbl Z hZ zC (fun G hG r hr=>by rw[la2] at hG;cases hG;exact h r hr) ok2;obtain⟨s',q1,q2,q3,q4,q5,q6⟩:=Fp (c:=c) d (Pq B pv.length+1) (d+1+us.length) (by omega) (by omega) (by omega) pv s p2 p3 (fun p hp=>by
   obtain⟨h1,h2,h3,h4,-⟩:=hP.pl p hp;exact⟨h1,h2,h3,fun x hx=>(h4 x hx).mono (by omega)⟩) hP.pw (fun p hp=>p5 p.1 (hP.pl p hp).1 fun z=>(lY.mp z).2 p hp rfl) (fun hne=>by
   have:pv.length≠0:=fun z=>hne (List.length_eq_zero_iff.mp z);have:=ok3 this;omega)
  refine⟨s',fw rfl (tail (d8 (gN glast e) (eN (nt rfl (fX (x:=.lst (pv.map jZ)) rfl (fM (Bk rfl rfl (Ot d (by omega) rfl) p1)) q1))))),q2,q3,?_,fun i v hi=>?_⟩
  ·have m1:pv.length*(Pq B pv.length+1+lp s+20)≤pv.length*(Pq B pv.length+Sb (Ns B pv.length) d (n8 pv d).length (n8 pv d).length+21):=du _ (by omega);omega
  ·have il:i<us.length:=by rw[←hsg.len];exact (aa.mp hi).1
   have ew':lg d (Xs s') (vc (wr us i))=lg d (Xs s') (vc (us.getD i [])):=EB fun k hk=>by rw[Ak us d i il hl,aP (by omega)]
   rw[←ew'];refine⟨fun hv=>?_,fun hv=>?_⟩
   ·subst hv;refine Qs.evl0 (fun x hx=>?_) (hP.sp i (o4.mpr ⟨il,hi⟩));rcases hx with⟨p,hp,rfl⟩ | ⟨r,hr,rfl⟩
    ·exact q5 p hp
    ·rw[v9 (hP.rr r hr).2.1,hz r hr];simp
   ·have hm:(i,v)∈uf us.length sg:=nZ.mpr ⟨il,hi,hv⟩;have S:=hf2 _ hm;obtain⟨g,s2,y,hg,hs2,hy',ey⟩:=S.ex;have y0:lg d (Xs s') y=0:=Qs.evl0 (fun x ⟨p,hp,ex⟩=>by rw[ex];exact q5 p hp) hy';have rp:0<lg d (Xs s') (vc (f (i,v))):=by rw[q6 _ fun p hp=>S.zer p hp];exact p6 _ (by rw[←hsd];exact aC.mpr ⟨_,hm,rfl⟩)
    have l:=t9 (d:=d) (X:=Xs s') (vc (wr us i)) y (vc (f (i,v))) g (s2*v) 1 (fun j=>by rw[ey j];grind);rw[y0] at l;have a1:=c7 (pA hg) rp;rw[l] at a1;have c1:((s2*v:Int):Rat)=(s2:Rat)*(v:Rat):=by simp
    rw[c1] at a1;have a2:=pA hs2;refine dE (c:=(s2:Rat)) ?_ (dc a2);grind
 ·left;obtain⟨l4,t,ct,s,hs,e3⟩:=la4 r hm;have hix:∀i∈ix,i∈zer us.length sg:=hP.sub;subst hsd;refine⟨_,fw rfl (tail (hU (gN glast e) rfl)),Na hsg hix hf2 l4 ct hs e3 (fun k hk=>la3 r hm k (zC k hk)) h0,fun x hx=>?_⟩;exact ((hbl _ Gl la1 r hm).2 x (dJ hx)).mono ok1
def GL(d B:Nat)(ns:List Int):Prop:=ns.length=d+1∧∀x∈ns,Bn B x
structure GC(d B:Nat)(ns:List Int):Prop where
 gl:GL d B ns
 re:∃p,p<d∧vc ns p≠0
theorem MK(ns:List Int)(k:Nat)(v:Int)(i:Nat)(hk:k<ns.length):vc (ns.set k v) i=if k=i then v else vc ns i:=by
 unfold vc;rw[af,List.getElem?_set];by_cases h:k=i
 ·subst h;rw[aP rfl,aP rfl,aP hk];rfl
 ·rw[aQ h,aQ h,←af]
theorem Kc(n k:Nat)(h:k<n):xH n (k:Int)=some k:=by unfold xH;rw[aP (by omega),aP (by omega)];simp
theorem lB(n:Nat)(h:n≤1000){f:Pe→M T}{ρ:Pe}(hf:f ρ=.ok (.int (n:Int))):jh (dP f dW) ρ=.ok ((List.range n).map fun (i:Nat)=>T.int (i:Int)):=by have hr:yM (n:Int)=true:=iQ (by omega);rw[←JQ];simp[hf,hr]
def jC(a b:List Int):Bool:=(List.range a.length).all fun k=>(List.range k).all fun j=>vc a k*vc b j == vc a j*vc b k
theorem z9(n B:Nat)(a b:List Int)(ha:a.length=n)(hb:b.length=n)(hn:n≤10)(hB:B≤1000)(ba:∀x∈a,Bn B x)(bb:∀x∈b,Bn B x):kc c [tI a,tI b]=.ok (.bl (jC a b)):=by
 have sz:1000<sizeLine:=by decide
 have hout:=nS (m:=iK 2) (g:=tm c) (fun (k:Nat)=>T.int (k:Int)) (fun ρ=>∃x2 x3,ρ=[some (.p (tI a)),some (.p (tI b)),x2,x3]) (fun k=>(List.range k).all fun j=>vc a k*vc b j == vc a j*vc b k) (.bl false) (List.range n) [some (.p (tI a)),some (.p (tI b)),none,none] ⟨none,none,rfl⟩ (by
  rintro k hk ρ ⟨x2,x3,rfl⟩;have hkn:=aR.mp hk;refine⟨_,rfl,?_⟩;have hin:=nS (m:=iK 3) (g:=tq c) (fun (j:Nat)=>T.int (j:Int)) (fun ρ=>∃x3,ρ=[some (.p (tI a)),some (.p (tI b)),some (.p (.int (k:Int))),x3]) (fun j=>vc a k*vc b j == vc a j*vc b k) (.bl false) (List.range k) [some (.p (tI a)),some (.p (tI b)),some (.p (.int (k:Int))),x3] ⟨x3,rfl⟩ (by
   rintro j hj ρ ⟨x3,rfl⟩;have hjk:=aR.mp hj;have i1:fV (tI a) (.int (k:Int))=.ok (.int (vc a k)):=iB a k (by omega);have i2:fV (tI b) (.int (j:Int))=.ok (.int (vc b j)):=iB b j (by omega);have i3:fV (tI a) (.int (j:Int))=.ok (.int (vc a j)):=iB a j (by omega);have i4:fV (tI b) (.int (k:Int))=.ok (.int (vc b k)):=iB b k (by omega);have m1:ie (.int (vc a k)) (.int (vc b j))=.ok (.int (vc a k*vc b j)):=gz ((ba _ (jA a k (by omega))).ok (bb _ (jA b j (by omega))) (by omega) (by omega));have m2:ie (.int (vc a j)) (.int (vc b k))=.ok (.int (vc a j*vc b k)):=gz ((ba _ (jA a j (by omega))).ok (bb _ (jA b k (by omega))) (by omega) (by omega));have hc:fN (eC (eU true) (eC ie (eC fV (dQ 0) (dQ 2)) (eC fV (dQ 1) (dQ 3))) (eC ie (eC fV (dQ 0) (dQ 3)) (eC fV (dQ 1) (dQ 2)))) (vw [some (.p (tI a)),some (.p (tI b)),some (.p (.int (k:Int))),some (.p (.int (j:Int)))])=.ok (!(vc a k*vc b j == vc a j*vc b k)):=eK (dZ (dZ (dZ rfl rfl i1) (dZ rfl rfl i2) m1) (dZ (dZ rfl rfl i3) (dZ rfl rfl i4) m2) (iz _ _))
   refine⟨_,rfl,fun h=>⟨_,fz (hc.trans (by rw[h];rfl)) rfl,_,rfl⟩,fun h=>fG (hc.trans (by rw[h];rfl)) (eN rfl)⟩)
  have hr:=lB (f:=dQ 2) (ρ:=vw [some (.p (tI a)),some (.p (tI b)),some (.p (.int (k:Int))),x3]) k (by omega) rfl;refine⟨fun h=>?_,fun h=>lR hr (hin.2 h)⟩;obtain⟨ρ',e,x3',rfl⟩:=hin.1 h;exact⟨_,lR hr e,_,_,rfl⟩)
 have hr:=lB (f:=iU iZ (dP (dQ 0) dW)) (ρ:=vw (fQ 4 [tI a,tI b])) n (by omega) (lD (t:=tI a) rfl (by simp[tI,ha]));have hs:jC a b=((List.range n).all fun k=>(List.range k).all fun j=>vc a k*vc b j == vc a j*vc b k):=by unfold jC;rw[ha]
 cases h:jC a b with
 | true=>obtain⟨ρ',e,x2,x3,rfl⟩:=hout.1 (by rw[←hs];exact h);exact fw rfl (d8 (lR hr e) (eN rfl))
 | false=>exact fw rfl (hU (lR hr (hout.2 (by rw[←hs];exact h))) rfl)
theorem vZ(a:List Int)(hl:a.length≤100)(h:∃p,p<a.length∧vc a p≠0):∃p:Nat,ky c [tI a]=.ok (.int (p:Int))∧p<a.length∧vc a p≠0:=by
 obtain⟨q,hq,hq0⟩:=h;obtain⟨ρ,e,p,rfl,hp1,hp2⟩:=n0 (c:=fN (eC (eU false) (eC fV (dQ 0) (dQ 1)) (cM (.int 0)))) (g:=oF c)
  (fun ρ=>∃k:Nat,ρ=[some (.p (tI a)),some (.p (.int (k:Int)))]∧k≤q) (fun ρ=>match ρ with | _::some (.p (.int j))::_=>q - j.toNat | _=>0)
  (fun ρ=>∃k:Nat,ρ=[some (.p (tI a)),some (.p (.int (k:Int)))]∧k<a.length∧vc a k≠0) (by
   rintro ρ ⟨k,rfl,hk⟩;have i1:fV (tI a) (.int (k:Int))=.ok (.int (vc a k)):=iB a k (by omega);by_cases h0:vc a k=0
   ·have hne:k≠q:=fun z=>hq0 (by rw[←z];exact h0);refine .inr ⟨eK (dZ (dZ rfl rfl i1) rfl (by rw[fS,h0];rfl)),_,.inl (eG (t:=.int ((k+1:Nat):Int)) (dZ rfl rfl (by rw[gw];simp)) rfl),⟨k+1,rfl,by omega⟩,?_⟩;show q - (((k+1:Nat):Int)).toNat<q - ((k:Int)).toNat;omega
   ·exact .inl ⟨eK (dZ (dZ rfl rfl i1) rfl (by rw[fS];simp[h0])),k,rfl,by omega,h0⟩)
  ((a.map T.int).length+1) [some (.p (tI a)),some (.p (.int ((0:Nat):Int)))] ⟨0,rfl,by omega⟩ (by show q - _<_;rw[aw];omega)
 exact⟨p,fw rfl (d8 (eG (t:=.int 0) rfl rfl) (d8 e (eN rfl))),hp1,hp2⟩
theorem wR(d B:Nat)(a b:List Int)(hd:d≤3)(hB:B≤1000)(ga:GC d B a)(gb:GL d B b)(h:jC a b=false):lQ c [tI a,tI b]=.ok (.bl false):=by
 have sz:1000<sizeLine:=by decide
 have hal:=ga.gl.1;have hbl:=gb.1;obtain⟨q,hq,hq0⟩:=ga.re;obtain⟨p,ep,hp,hp0⟩:=vZ (c:=c) a (by omega) ⟨q,by omega,hq0⟩;have i1:fV (tI b) (.int (p:Int))=.ok (.int (vc b p)):=iB b p (by omega);have i2:fV (tI a) (.int (p:Int))=.ok (.int (vc a p)):=iB a p hp;have e1:iE [none,none,some 1,some 2,some 0] (j9 (dP (dQ 0) (dP (dQ 1) dW))) (lW 2 (gh (gZ 0) (gh (gZ 1) lV))) (fun _=>.ok true) (pV c) (vw [some (.p (tI a)),some (.p (tI b)),some (.p (.int (p:Int)))])=.ok (((a.zip b).map fun x=>x.1*vc b p == x.2*vc a p).map T.bl):=gQ (a.zip b) (fun x=>T.tup [.int x.1,.int x.2]) (fun x=>T.bl (x.1*vc b p == x.2*vc a p)) (mw rfl rfl rfl rfl) (by rw[dI];omega) (fun x hx=>⟨_,rfl,rfl,by have h1:=ga.gl.2 _ (aV hx).1;have h2:=gb.2 _ (aV hx).2;have h3:=gb.2 _ (jA b p (by omega));have h4:=ga.gl.2 _ (jA a p hp);exact dZ (dZ rfl (dZ rfl rfl i1) (gz (h1.ok h3 (by omega) (by omega)))) (dZ rfl (dZ rfl rfl i2) (gz (h2.ok h4 (by omega) (by omega)))) (fS _ _)⟩) (by rw[aH];rfl)
 refine fw rfl (d8 (eG (t:=.int (p:Int)) (pU rfl ep) rfl) (eN (mF e1 ?_)));rw[nY];congr 2;cases zC:((a.zip b).map fun x=>x.1*vc b p == x.2*vc a p).all id with
 | false=>rfl
 | true=>
  exfalso;rw[b6] at zC;have hpar:C4.Par a b:=C4.par_of_place hp0 fun i hi=>by
   have hz:(a.zip b)[i]? = some (a[i],b[i]'(by omega)):=by rw[List.getElem?_zip_eq_some];exact⟨ag hi,ag (by omega)⟩
   have:=zC _ (aC.mpr ⟨_,au hz,rfl⟩);have h':a[i]*vc b p=(b[i]'(by omega))*vc a p:=by simpa using this
   show vc a i*vc b p=vc b i*vc a p;rw[rn a i hi,rn b i (by omega)];exact h'
  have:jC a b=true:=by unfold jC;refine b6.mpr fun k hk=>b6.mpr fun j hj=>?_;have hk':=aR.mp hk;have hj':=aR.mp hj;have:=hpar k j hk' (by omega);simpa[vc] using this
  rw[h] at this;cases this
structure Ji(d B:Nat)(cs:List (List Int)):Prop where
 gc:∀f∈cs,GC d B f
 few:cs.length≤7
 pw:cs.Pairwise fun a b=>jC a b=false
theorem FM{d B:Nat}{ns:List Int}(h:GC d B ns):pZ d (tI ns)=true:=by
 obtain⟨p,hp,hp0⟩:=h.re;have hl:=h.gl.1;unfold tI pZ;have h1:(ns.map T.int).length=d+1:=by simp[hl]
 have h2:(ns.map T.int).all isInt=true:=b6.mpr fun x hx=>by obtain⟨y,-,rfl⟩:=aC.mp hx;rfl
 show (decide ((ns.map T.int).length=d+1)&&(ns.map T.int).all isInt&&(match i6 (ns.map T.int) with | some ns=>(ns.take d).any (· != 0) | none=>false))=true;rw[aB h1,h2,AZ];show (ns.take d).any (· != 0)=true;refine cH.mpr ⟨vc ns p,?_,by simpa using hp0⟩;rw[rn ns p (by omega)];refine au (i:=p) ?_;rw[List.getElem?_take,aP hp,ag (by omega)]
theorem yS(d B:Nat)(ah:List (List Int))(ns:List Int)(hd:1≤d∧d≤3)(hB:B≤1000)(hl:ah.length<7)(ha:∀f∈ah,GC d B f)(hn:GC d B ns)(hs:∀f∈ah,jC f ns=false):kP c [.int d,.lst (ah.map tI),tI ns]=.ok (.bl true):=by
 have sz:1000<sizeLine:=by decide
 have ic:=DT (c:=c) d (by omega) (tI ns) rfl fun ts e=>by cases e;refine⟨by rw[aw,hn.gl.1];omega,fun t ht=>by obtain⟨y,-,rfl⟩:=aC.mp ht;rfl⟩
 rw[FM hn] at ic;have e1:iE [none,some 2] (fY (dQ 1)) (gZ 0) (fun _=>.ok true) (nF c) (vw (fQ 3 [.int d,.lst (ah.map tI),tI ns]))=.ok ((ah.map fun _=>false).map T.bl):=gQ ah tI (fun _=>T.bl false) rfl (by omega) (fun f hf=>⟨_,rfl,rfl,fX rfl rfl (wR (c:=c) d B f ns hd.2 hB (ha f hf) hn.gl (hs f hf))⟩) (by rw[aH];rfl)
 have q1:fN (eC K5 (iU iZ (dP (dQ 1) dW)) (cM (.int 7))) (vw (fQ 3 [.int d,.lst (ah.map tI),tI ns]))=.ok false:=eK (dZ (x:=.int (ah.length:Int)) (lD (t:=.lst (ah.map tI)) rfl (by simp)) rfl (by rw[qR];congr 2;exact aA (by omega)))
 have q2:fN (eD (dP (dQ 0) (dP (dQ 2) dW)) (oH c)) (vw (fQ 3 [.int d,.lst (ah.map tI),tI ns]))=.ok true:=eK (fX rfl rfl ic);refine fw rfl (d8 (fz ?_ rfl) (eN ?_))
 ·simp only[L3.ud,L3.j8,q1,q2,M.bind_ok];rfl
 ·have q3:iU uY (dP (fj (iE [none,some 2] (fY (dQ 1)) (gZ 0) (fun _=>.ok true) (nF c))) dW) (vw (fQ 3 [.int d,.lst (ah.map tI),tI ns]))=.ok (.bl false):=by
   refine mF e1 ?_;rw[yF];congr 2;induction ah with
   | nil=>rfl
   | cons a l ih=>simp
  have q4:=eK q3;simp only[HN,q4,M.bind_ok];rfl
theorem CQ(d B:Nat)(cs:List (List Int))(hd:1≤d∧d≤3)(hB:B≤1000)(h:Ji d B cs):jb c [.int d,.lst (cs.map tI)]=.ok (.tup (cs.map tI)):=by
 have sz:1000<sizeLine:=by decide
 have hf:=h.few;obtain⟨ρ,e,x3,rfl⟩:=gq (m:=iK 3) (g:=n9 c) tI
  (fun k ρ=>∃x3:Option W,ρ=[some (.p (.int d)),some (.p (.lst (cs.map tI))),some (.o ((cs.take k).map tI)),x3])
  cs 0 _ ⟨none,rfl⟩ (by
   rintro k ns ρ hi ⟨x3,rfl⟩;rw[aF];have hkl:k<cs.length:=(aa.mp hi).1;have hst:=yS (c:=c) d B (cs.take k) ns hd hB (by rw[bF];omega) (fun f hf=>h.gc f (dM hf)) (h.gc ns (au hi)) fun f hf=>by have hp:=h.pw;rw[←List.take_append_drop k cs,dz] at hp;refine hp.2.2 f hf ns ?_;refine au (i:=0) ?_;rw[List.getElem?_drop,Nat.add_zero];exact hi
   have q:fN (eD (dP (dQ 0) (dP (dQ 2) (dP (dQ 3) dW))) (kP c)) (vw [some (.p (.int d)),some (.p (.lst (cs.map tI))),some (.o ((cs.take k).map tI)),some (.p (tI ns))])=.ok true:=eK (iP (y:=.lst ((cs.take k).map tI)) (z:=tI ns) rfl rfl rfl hst);refine⟨_,_,rfl,.inl (d8 (fz (nV q rfl) rfl) (qg (us:=(cs.take k).map tI) (t:=tI ns) rfl (lD (t:=tI ns) rfl rfl) (by rw[aw,bF];omega) rfl)),some (.p (tI ns)),?_⟩;rw[gW cs k ns hi,aY];rfl)
 rw[aF,cK] at e;have q1:fN (eD (dP (dQ 0) dW) (nA c)) (vw (fQ 4 [.int d,.lst (cs.map tI)]))=.ok true:=eK (pU rfl (Cw d hd));have q2:fN (pH "list" (dQ 1)) (vw (fQ 4 [.int d,.lst (cs.map tI)]))=.ok true:=rfl;refine fw rfl (d8 (fz ?_ rfl) (d8 (lF (ts:=[]) (by simp) rfl) (d8 (gN rfl e) (eN rfl))));simp only[L3.ud,L3.j8,q1,q2,M.bind_ok];rfl
def kb(c:Cs)(d:Nat)(cs:List (List Int)):T:=.obj c.Cutting [("own_cuts",.tup (cs.map tI)),("own_dims",.int d)]
theorem Ks(d B:Nat)(cs:List (List Int))(hd:1≤d∧d≤3)(hB:B≤1000)(h:Ji d B cs):jg c [.int d,.lst (cs.map tI)]=.ok (kb c d cs):=by have e:=CQ (c:=c) d B cs hd hB h;have q:eD (dP (dQ 1) (dP (dQ 2) dW)) (jb c) (none::[T.int d,.lst (cs.map tI)].map some)=.ok (.tup (cs.map tI)):=fX rfl rfl e;unfold jg AS;rw[aP (show [T.int (d:Int),T.lst (cs.map tI)].length=2 from rfl),q];rfl
theorem BM{C:Addr}{x:Str}{fs:List (Str×T)}{t:T}{f:Pe→M T}{ρ:Pe}(h:f ρ=.ok (.obj C fs))(hl:fs.lookup x=some t):Ar C x f ρ=.ok t:=by unfold Ar;rw[h,M.bind_ok];show (if C=C then (match fs.lookup x with | some t=>M.ok t | none=>.bad) else .bad)=_;rw[aP rfl,hl]
theorem Dc(d:Nat)(cs:List (List Int)){f:Pe→M T}{ρ:Pe}(hf:f ρ=.ok (kb c d cs)):pN c.Cutting "dims" f dW (g9 c) ρ=.ok (.int d):=by
 have h1:rJ c.Cutting "dims" (kb c d cs)=.ok ():=by unfold rJ kb;exact aP ⟨rfl,rfl⟩
 have h2:g9 c [kb c d cs]=.ok (.int d):=fw rfl (eN (BM (C:=c.Cutting) (x:= "own_dims") (fs:=[("own_cuts",.tup (cs.map tI)),("own_dims",.int d)]) rfl rfl));simp only[pN,hf,M.bind_ok,h1,dW,h2,M.noEr_ok]
theorem DO(d:Nat)(cs:List (List Int)){f:Pe→M T}{ρ:Pe}(hf:f ρ=.ok (kb c d cs)):rE c.Cutting "cuts" f dW (hC c) ρ=.ok (cs.map tI):=by
 have h1:rJ c.Cutting "cuts" (kb c d cs)=.ok ():=by unfold rJ kb;exact aP ⟨rfl,rfl⟩
 have h2:hC c [kb c d cs]=.ok (cs.map tI):=lC rfl (oW (by have:Ar c.Cutting "own_cuts" (dQ 0) (vw (fQ 1 [kb c d cs]))=.ok (.tup (cs.map tI)):=BM (C:=c.Cutting) (x:= "own_cuts") (fs:=[("own_cuts",.tup (cs.map tI)),("own_dims",.int d)]) rfl rfl;simp only[EL,dP,dW,this,M.bind_ok];rfl))
 simp only[rE,hf,M.bind_ok,h1,dW,h2,M.noEr_ok]
theorem P2{ρ:Pe}{f g h:Pe→M T}{a b e:T}(h1:f ρ=.ok a)(h2:g ρ=.ok b)(h3:h ρ=.ok e):gX (dP f (dP g (dP h dW))) ρ=.ok (.tup [a,b,e]):=by
 have hz:3≤sizeLine:=by decide
 simp only[gX,dP,dW,h1,h2,h3,M.bind_ok,vT,ay,b7,hz,if_true]
theorem Ql{ρ:Pe}{f1 f2:Pe→M T}{a1 a2:T}(h1:f1 ρ=.ok a1)(h2:f2 ρ=.ok a2):fj (lstM (dP f1 (dP f2 dW))) ρ=.ok (.lst [a1,a2]):=by
 have hz:2≤sizeLine:=by decide
 simp only[fj,lstM,dP,dW,h1,h2,M.bind_ok,vT,ay,b7,hz,if_true]
theorem yp{d:Nat}{ns:List Int}{v:Int}(hl:ns.length=d)(hb:∀x∈ns,Bn 84 x)(hv:Bn 84 v)(hr:∃p,p<d∧vc ns p≠0):GC d 84 (ns++[v]):=by
 refine⟨⟨by simp[hl],fun x hx=>?_⟩,?_⟩
 ·rcases ai.mp hx with q | q
  ·exact hb x q
  ·rw[aj.mp q];exact hv
 ·obtain⟨p,hp,h⟩:=hr;refine⟨p,hp,?_⟩;unfold vc at *;rw[af,List.getElem?_append_left (by omega),←af];exact h
theorem JF{d:Nat}{ns:List Int}(hl:ns.length=d)(h:ns≠List.replicate d 0):∃p,p<d∧vc ns p≠0:=by
 refine aN fun hc=>h (cG.mpr ⟨hl,fun b hb=>?_⟩);obtain⟨i,hi⟩:=List.getElem?_of_mem hb;have hil:i<d:=by have:=(aa.mp hi).1;omega
 refine aN fun hb0=>hc ⟨i,hil,?_⟩;unfold vc;rw[af,hi];exact hb0
theorem LM(ns:List Int)(hb:∀x∈ns,x.natAbs≤3):(((ns.zip [1,2,(-1:Int)]).map fun (p:Int×Int)=>p.1*p.2).sum).natAbs≤1000:=by
 match ns,hb with
 | [],_=>simp
 | [a],b1=>have:=b1 a (by simp);show ((a*1+0).natAbs)≤1000;omega
 | [a,b],b1=>have h1:=b1 a (by simp);have h2:=b1 b (by simp);show ((a*1+(b*2+0)).natAbs)≤1000;omega
 | a::b::e::l,b1=>
  have h1:=b1 a (by simp);have h2:=b1 b (by simp);have h3:=b1 e (by simp);have:((a::b::e::l).zip [1,2,(-1:Int)])=[(a,1),(b,2),(e,-1)]:=by cases l<;>rfl
  rw[this];show ((a*1+(b*2+(e * -1+0))).natAbs)≤1000;omega
theorem Bz(cell:Int)(d:Nat)(fs:List (List Int))(hd:1≤d∧d≤3)(hf:∀f∈fs,GC d 84 f)(hfl:fs.length≤10) :
  ∃ns,nB c [.int cell,.int d,.lst (fs.map tI)]=.ok (tI ns)∧GC d 84 ns:=by
 have sz:1000<sizeLine:=by decide
 let ns0:List Int:=(List.range d).map fun (j:Nat)=>dr c cell j 7 - 3;have l0:ns0.length=d:=by simp[ns0]
 have b0:∀x∈ns0,x.natAbs≤3:=fun x hx=>by obtain⟨j,hj,rfl⟩:=aC.mp hx;have hj':=aR.mp hj;obtain⟨_,a1,a2⟩:=ia (c:=c) cell j 7 (by omega) (by omega) (by omega) (by omega);omega
 obtain⟨d6,d6a,d6b⟩:=ia (c:=c) cell 6 9 (by decide) (by decide) (by omega) (by omega);obtain⟨d7,d7a,d7b⟩:=ia (c:=c) cell 7 7 (by decide) (by decide) (by omega) (by omega);generalize dr c cell 6 9=c0 at d6 d6a d6b;generalize dr c cell 7 7=way at d7 d7a d7b;let St:List Int→Option W→Option W→Option W→En:=fun ns x4 x5 x6=>[some (.p (.int cell)),some (.p (.int d)),some (.p (.lst (fs.map tI))),some (.o (ns.map T.int)),x4,x5,x6];have e0:iE [none,some 0] (jh (dP (dQ 1) dW)) (gZ 0) (fun _=>.ok true) (vH c) (kf [some (.p (.int cell)),some (.p (.int d)),some (.p (.lst (fs.map tI))),none,none,none,none])=.ok (ns0.map T.int):=by refine gQ (List.range d) (fun (j:Nat)=>T.int (j:Int)) (fun (j:Nat)=>T.int (dr c cell j 7 - 3)) (lB d (by omega) rfl) (by simp;omega) (fun j hj=>⟨_,rfl,rfl,?_⟩) (by rw[aH];rfl);have hj':=aR.mp hj;obtain⟨e,_,_⟩:=ia (c:=c) cell j 7 (by omega) (by omega) (by omega) (by omega);exact dZ (iP rfl rfl rfl e) rfl (jB _ _)
 obtain⟨ns1,e1,l1,b1,r1⟩:∃ns1,(jy (fN (eC (eU false) (dQ 3) (fj (jU (fj (lstM (dP (cM (.int 0)) dW))) (dQ 1))))) (vO 3 (mB (eD (dP (dQ 0) (dP (cM (.int 4)) (dP (dQ 1) dW))) (eV c))) (mB (eC gB (cM (.int 1)) (eD (dP (dQ 0) (dP (cM (.int 5)) (dP (cM (.int 3)) dW))) (eV c))))) fF) (St ns0 none none none)=.nx (St ns1 none none none)∧ns1.length=d∧(∀x∈ns1,x.natAbs≤3)∧∃p,p<d∧vc ns1 p≠0:=by
  have ec:fN (eC (eU false) (dQ 3) (fj (jU (fj (lstM (dP (cM (.int 0)) dW))) (dQ 1)))) (vw (St ns0 none none none))=.ok (decide (ns0=List.replicate d 0)):=eK (dZ (x:=.lst (ns0.map T.int)) (y:=.lst ((List.replicate d (0:Int)).map T.int)) rfl (De d (by omega) rfl) (by rw[Br];rfl))
  by_cases hz:ns0=List.replicate d 0
  ·obtain⟨d4,d4a,d4b⟩:=ia (c:=c) cell 4 d (by omega) (by omega) (by omega) (by omega);obtain⟨d5,d5a,d5b⟩:=ia (c:=c) cell 5 3 (by omega) (by omega) (by omega) (by omega);obtain⟨p,hp⟩:∃p:Nat,dr c cell 4 d=(p:Int):=⟨(dr c cell 4 d).toNat,by omega⟩;rw[hp] at d4 d4b;refine⟨ns0.set p (1+dr c cell 5 3),fG (by rw[ec,aB hz]) (yY (us:=ns0.map T.int) (t:=.int (1+dr c cell 5 3)) (j:=(p:Int)) (m:=p) rfl (dZ rfl (iP rfl rfl rfl d5) (gw _ _)) rfl (iP rfl rfl rfl d4) (Kc _ _ (by rw[aw];omega)) ?_),by rw[bK];exact l0,fun x hx=>?_,p,by omega,?_⟩
   ·simp only[St,cR];rfl
   ·rcases dw hx with q | q
    ·exact b0 x q
    ·rw[q];omega
   ·rw[MK _ _ _ _ (by omega),aP rfl];omega
  ·exact⟨ns0,fz (by rw[ec,aA hz]) rfl,l0,b0,JF l0 hz⟩
 have sm84:∀x:Int,x.natAbs≤1000→Bn 84 x:=fun x hx=>Bn.mono (m:=10) (by unfold Bn;omega) (by decide);have hfe:∀neg,eU neg (.lst (fs.map tI)) (.lst [])=.ok (.bl (if neg then !fs.isEmpty else fs.isEmpty)):=fun neg=>by rw[uv neg (fs.map tI) (by simp) (aM (vx fs) (by decide))];simp
 let x4:Int→Option W:=fun v=>some (.p (.int v));let x5:Option W:=some (.p (.int way));have head:∀{o:O},(eJ (jy (kJ (fN (eC (eU false) (dQ 5) (cM (.int 1)))) (fN (eC (eU true) (dQ 2) (fj (lstM dW))))) (mU 3 (om (EL mv (dP (jN (eC fV (dQ 2) (eD (dP (dQ 0) (dP (cM (.int 8)) (dP (iU iZ (dP (dQ 2) dW)) dW))) (eV c))) (fun _=>.ok none) (gU (dQ 1))) dW)))) fF) _) (St ns1 (x4 (c0 - 4)) x5 none)=o→xN c (fQ 7 [.int cell,.int d,.lst (fs.map tI)])=o:=fun {o} h=>d8 (ρ':=St ns0 none none none) (lF e0 rfl) (d8 (ρ':=St ns1 none none none) e1 (d8 (ρ':=St ns1 (x4 (c0 - 4)) none none) (eG (dZ (iP rfl rfl rfl d6) rfl (jB _ _)) rfl) (d8 (ρ':=St ns1 (x4 (c0 - 4)) x5 none) (eG (iP rfl rfl rfl d7) rfl) h)))
 have q1:fN (eC (eU false) (dQ 5) (cM (.int 1))) (vw (St ns1 (x4 (c0 - 4)) x5 none))=.ok (way == 1):=eK (dZ (x:=.int way) rfl rfl (fS _ _));have q2:fN (eC (eU true) (dQ 2) (fj (lstM dW))) (vw (St ns1 (x4 (c0 - 4)) x5 none))=.ok (!fs.isEmpty):=eK (dZ (x:=.lst (fs.map tI)) (y:=.lst []) rfl (by simp) (by rw[hfe];rfl));have wq:∀(ns:List Int) (v k:Int) x6,fN (eC (eU false) (dQ 5) (cM (.int k))) (vw (St ns (x4 v) x5 x6))=.ok (way == k):=fun ns v k x6=>eK (dZ (x:=.int way) rfl rfl (fS _ _));have retq:∀(ns:List Int) (v:Int) x6,ns.length=d→fT (iU jo (dP (fj (mR (dQ 3) (fj (lstM (dP (dQ 4) dW))))) dW)) (St ns (x4 v) x5 x6)=.rt (tI (ns++[v])):=fun ns v x6 hl=>eN (lD (t:=.lst (ns.map T.int++[.int v])) (fM (lM (a:=ns.map T.int) (b:=[.int v]) rfl (tN rfl) (by simp;omega))) (by simp[tI]))
 have or23:∀(ns:List Int) (v:Int) x6,(L3.ud (fN (eC (eU false) (dQ 5) (cM (.int 2)))) (fN (eC (eU false) (dQ 5) (cM (.int 3))))) (vw (St ns (x4 v) x5 x6))=.ok (way == 2||way == 3):=fun ns v x6=>by simp only[L3.ud,wq,M.bind_ok];cases way == 2<;>rfl
 have noA:¬(way=1∧fs≠[])→(L3.kJ (fN (eC (eU false) (dQ 5) (cM (.int 1)))) (fN (eC (eU true) (dQ 2) (fj (lstM dW))))) (vw (St ns1 (x4 (c0 - 4)) x5 none))=.ok false:=fun hc=>by
  simp only[L3.kJ,q1,q2,M.bind_ok];by_cases h1:way=1
  ·have hn:fs=[]:=by
    by_cases hn:fs=[]
    ·exact hn
    ·exact absurd ⟨h1,hn⟩ hc
   rw[h1,hn];rfl
  ·have:(way == 1)=false:=by simpa using h1
   rw[this];rfl
 by_cases hA:way=1∧fs≠[]
 ·obtain⟨h1,hne⟩:=hA;have hlp:0<fs.length:=List.length_pos_iff.mpr hne;obtain⟨d3,d3a,d3b⟩:=ia (c:=c) cell 8 fs.length (by omega) (by omega) (by omega) (by omega);obtain⟨f,ef,hfm⟩:=Bc fs (dr c cell 8 fs.length) d3a d3b;have gf:=hf f hfm;have tl:(f.take d).length=d:=by rw[bF,gf.gl.1];omega
  have nd:∀k:Int,k≠1→(way == k)=false:=fun k hk=>by simp[h1];omega
  refine⟨f.take d++[c0 - 4],fw rfl (head (d8 (ρ':=St (f.take d) (x4 (c0 - 4)) x5 none) (fG ?_ (lF (ts:=(f.take d).map T.int) ?_ rfl)) (d8 (fz (by rw[or23,nd 2 (by decide),nd 3 (by decide)];rfl) rfl) (d8 (fz (by rw[wq,nd 4 (by decide)]) rfl) (retq _ _ _ tl))))),yp tl (fun x hx=>gf.gl.2 x (dM hx)) (sm84 _ (by omega)) ?_⟩
  ·simp only[L3.kJ,q1,q2,M.bind_ok];rw[h1];simp[hne]
  ·have:=Ap (fe:=eC fV (dQ 2) (eD (dP (dQ 0) (dP (cM (.int 8)) (dP (iU iZ (dP (dQ 2) dW)) dW))) (eV c))) (fd:=dQ 1) (d:=d) (ts:=f.map T.int) (ρ:=kf (St ns1 (x4 (c0 - 4)) x5 none)) (dZ (x:=.lst (fs.map tI)) (y:=.int (dr c cell 8 fs.length)) rfl (iP (z:=.int (fs.length:Int)) rfl rfl (lD rfl (by simp)) d3) (by simp[q0,ef,tI])) rfl (by rw[aw,gf.gl.1];omega);simp only[EL,dP,dW,this,M.bind_ok];rw[cy];rfl
  ·obtain⟨p,hp,h⟩:=gf.re;refine⟨p,hp,?_⟩;unfold vc at *;rw[af,List.getElem?_take,aP hp,←af];exact h
 ·have b84:∀x∈ns1,Bn 84 x:=fun x hx=>sm84 x (by have:=b1 x hx;omega);by_cases h23:way=2∨way=3
  ·have t23:(way == 2||way == 3)=true:=by rcases h23 with h | h<;>rw[h]<;>rfl
   have n4:(way == 4)=false:=by rcases h23 with h | h<;>rw[h]<;>rfl
   let v:Int:=((ns1.zip [1,2,-1]).map fun p=>p.1*p.2).sum;have ez:iE [none,none] (j9 (dP (dQ 3) (dP (fj (lstM (dP (cM (.int 1)) (dP (cM (.int 2)) (dP (wj (fun i=>.int (-i)) (cM (.int 1))) dW))))) dW))) (lW 2 (gh (gZ 0) (gh (gZ 1) lV))) (fun _=>.ok true) (uB c) (vw (St ns1 (x4 (c0 - 4)) x5 none))=.ok (((ns1.zip [1,2,-1]).map fun p=>p.1*p.2).map T.int):=gQ (ns1.zip [1,2,-1]) (fun p=>T.tup [.int p.1,.int p.2]) (fun p=>T.int (p.1*p.2)) (mw (x:=.lst (ns1.map T.int)) (y:=.lst ([1,2,-1].map T.int)) rfl rfl (fM rfl) rfl) (by rw[dI];omega) (fun p hp=>⟨_,rfl,rfl,dZ rfl rfl (iC (by have:=b1 _ (aV hp).1;omega))⟩) (by rw[aH];rfl)
   have vb:v.natAbs≤1000:=LM ns1 b1;exact⟨ns1++[v],fw rfl (head (d8 (fz (noA hA) rfl) (d8 (ρ':=St ns1 (x4 v) x5 none) (fG (by rw[or23,t23]) (ua (mF ez (Bq _)) rfl rfl)) (d8 (fz (by rw[wq,n4]) rfl) (retq _ _ _ l1))))),yp l1 b84 (sm84 _ vb) r1⟩
  ·have f23:(way == 2||way == 3)=false:=by have h2:¬way=2:=fun z=>h23 (.inl z);have h3:¬way=3:=fun z=>h23 (.inr z);simp[h2,h3]
   by_cases h4:way=4
   ·obtain⟨d9,d9a,d9b⟩:=ia (c:=c) cell 9 1000000 (by decide) (by decide) (by omega) (by omega);obtain⟨d11,d11a,d11b⟩:=ia (c:=c) cell 11 3 (by decide) (by decide) (by omega) (by omega);obtain⟨d10,d10a,d10b⟩:=ia (c:=c) cell 10 7 (by decide) (by decide) (by omega) (by omega);obtain⟨w,ew,hw⟩:=Dd [1,1,1000000000000000000] (dr c cell 11 3) d11a (by simpa using d11b);have e18:tO (.int 10) (.int 18)=.ok (.int 1000000000000000000):=by simp[tO,jR]
    have e6:tO (.int 10) (.int 6)=.ok (.int 1000000):=by simp[tO,jR]
    generalize dr c cell 9 1000000=f0 at d9 d9a d9b;generalize dr c cell 10 7=g0 at d10 d10a d10b;let far:Int:=(1+f0)*w;have hw':1≤w∧w≤1000000000000000000:=by simp only[aE,cx,or_false] at hw;omega
    have hfar:far.natAbs≤1000000*1000000000000000000:=by show ((1+f0)*w).natAbs≤_;rw[aX];exact dB (by omega) (by omega)
    have hfar1:1≤far:=by have:0<(1+f0)*w:=aW (by omega) (by omega);show 1≤(1+f0)*w;omega
    have hl3:fj (lstM (dP (cM (.int 1)) (dP (cM (.int 1)) (dP (eC tO (cM (.int 10)) (cM (.int 18))) dW)))) (kf (St ns1 (x4 (c0 - 4)) x5 none))=.ok (.lst ([1,1,1000000000000000000].map T.int)):=by
     have o:eC tO (cM (.int 10)) (cM (.int 18)) (kf (St ns1 (x4 (c0 - 4)) x5 none))=.ok (.int 1000000000000000000):=dZ rfl rfl e18;have h3:3≤sizeLine:=by decide
     simp only[fj,lstM,dP,dW,cM,o,M.bind_ok];rfl
    let ns2:List Int:=ns1.map fun x=>x*far;have es:iE [none,some 6] (fY (dQ 3)) (gZ 0) (fun _=>.ok true) (uF c) (vw (St ns1 (x4 (c0 - 4)) x5 (some (.p (.int far)))))=.ok (ns2.map T.int):=gQ ns1 T.int (fun x=>T.int (x*far)) rfl (by omega) (fun x hx=>⟨_,rfl,rfl,dZ rfl rfl (iC (by have:=b1 x hx;omega))⟩) (by rw[aH];rfl)
    refine⟨ns2++[(c0 - 4)*far+g0],fw rfl (head (d8 (fz (noA hA) rfl) (d8 (fz (by rw[or23,f23]) rfl) (d8 (ρ':=St ns2 (x4 ((c0 - 4)*far+g0)) x5 (some (.p (.int far)))) (fG (by rw[wq,h4];rfl) (d8 (ρ':=St ns1 (x4 (c0 - 4)) x5 (some (.p (.int far)))) (eG (dZ (dZ rfl (iP (z:=.int 1000000) rfl rfl (dZ rfl rfl e6) d9) (gw _ _)) (dZ (x:=.lst ([1,1,1000000000000000000].map T.int)) (y:=.int (dr c cell 11 3)) hl3 (iP rfl rfl rfl d11) ew) (iC (by omega))) rfl) (d8 (ρ':=St ns2 (x4 (c0 - 4)) x5 (some (.p (.int far)))) (Jz es (HP _) rfl) (eG (dZ (dZ rfl rfl (iC (by omega))) (iP rfl rfl rfl d10) (gw _ _)) rfl)))) (retq _ _ _ (by simp[ns2,l1])))))),yp (by simp[ns2,l1]) (fun x hx=>?_) ?_ ?_⟩
    ·obtain⟨y,hy,rfl⟩:=aC.mp hx;have:=b1 y hy;unfold Bn;rw[aX];refine bT (dB this hfar) (by decide)
    ·unfold Bn;have h1:((c0 - 4)*far).natAbs≤5*(1000000*1000000000000000000):=by rw[aX];exact dB (by omega) hfar
     have h2:=Int.natAbs_add_le ((c0 - 4)*far) g0;refine bT (aM h2 (Nat.add_le_add h1 (show g0.natAbs≤7 by omega))) (by decide)
    ·obtain⟨p,hp,h⟩:=r1;refine⟨p,hp,?_⟩;have:vc ns2 p=vc ns1 p*far:=by unfold vc;rw[af,af,av];cases ns1[p]?<;>simp
     rw[this];exact c6 h (by omega)
   ·exact⟨ns1++[c0 - 4],fw rfl (head (d8 (fz (noA hA) rfl) (d8 (fz (by rw[or23,f23]) rfl) (d8 (fz (by rw[wq];simp[h4]) rfl) (retq _ _ _ l1))))),yp l1 b84 (sm84 _ (by omega)) r1⟩
theorem Cp{a b:List Int}(h:a.length=b.length):jC a b=jC b a:=by
 unfold jC;rw[h];congr 1;funext k;congr 1;funext j;rw[cq (vc a k),cq (vc a j)];by_cases q:vc b j*vc a k=vc b k*vc a j
 ·rw[beq_iff_eq.mpr q,beq_iff_eq.mpr q.symm]
 ·rw[beq_eq_false_iff_ne.mpr q,beq_eq_false_iff_ne.mpr fun z=>q z.symm]
theorem zD(ns:List Int)(k0 d many:Nat)(hd:1≤d∧d≤3)(hm:many≤7):∃cs:List (List Int),nW c [.scr ns,.int k0,.int d,.int many]=.ok (cs.map tI)∧Ji d 84 cs∧cs.length≤many:=by
 have sz:1000<sizeLine:=by decide
 obtain⟨ρ,e,cs,x5,x6,rfl,hl,hg,hp⟩:=gq (m:=iK 5) (g:=sL c) (fun (i:Nat)=>T.int (i:Int))
  (fun k ρ=>∃(cs:List (List Int)) (x5 x6:Option W),ρ=[some (.p (.scr ns)),some (.p (.int k0)),some (.p (.int d)),some (.p (.int many)),some (.o (cs.map tI)),x5,x6]∧cs.length≤k∧(∀f∈cs,GC d 84 f)∧cs.Pairwise fun a b=>jC a b=false)
  (List.range many) 0 _ ⟨[],none,none,rfl,aJ _,(fun f hf=>nomatch hf),List.Pairwise.nil⟩ (by
   rintro i k ρ hi ⟨cs,x5,x6,rfl,hl,hg,hp⟩;rw[aF] at hl ⊢;have hin:i<many:=by simpa using (aa.mp hi).1
   have hki:k=i:=by rw[List.getElem?_range hin] at hi;cases hi;rfl
   subst hki;obtain⟨v,ev,-⟩:=nR (c:=c) ns (k0+k);obtain⟨nx,en,gn⟩:=Bz (c:=c) v d cs hd hg (by omega);let R:En:=[some (.p (.scr ns)),some (.p (.int k0)),some (.p (.int d)),some (.p (.int many)),some (.o (cs.map tI)),some (.p (.int (k:Int))),some (.p (tI nx))];have e1:iE [none,some 6] (fY (dQ 4)) (gZ 0) (fN (eD (dP (dQ 1) (dP (dQ 0) dW)) (kc c))) (oQ c) (vw R)=.ok ((cs.filter fun f=>jC nx f).map tI):=nP cs tI tI (fun f=>jC nx f) rfl (by omega) (fun f hf=>⟨_,rfl,eK (fX rfl rfl (z9 (c:=c) (d+1) 84 nx f gn.gl.1 (hg f hf).gl.1 (by omega) (by omega) gn.gl.2 (hg f hf).gl.2)),fun _=>rfl⟩) rfl
   have hc:fN (eC (eU false) (fj (iE [none,some 6] (fY (dQ 4)) (gZ 0) (fN (eD (dP (dQ 1) (dP (dQ 0) dW)) (kc c))) (oQ c))) (fj (lstM dW))) (vw R)=.ok (cs.filter fun f=>jC nx f).isEmpty:=by refine eK (dZ (x:=.lst ((cs.filter fun f=>jC nx f).map tI)) (y:=.lst []) (fM e1) (by simp) ?_);rw[uv false _ (by simp) (aM (vx _) (by decide))];simp
   have s1:setO 6 (mB (eD (dP (eD (dP (dQ 0) (dP (eC gB (dQ 1) (dQ 5)) dW)) (fO c)) (dP (dQ 2) (dP (dQ 4) dW))) (nB c))) [some (.p (.scr ns)),some (.p (.int k0)),some (.p (.int d)),some (.p (.int many)),some (.o (cs.map tI)),some (.p (.int (k:Int))),x6]=.nx R:=ua (t:=tI nx) (iP (fX (x:=.scr ns) (y:=.int ((k0+k:Nat):Int)) rfl (dZ rfl rfl (by rw[gw];simp)) ev) rfl rfl en) (HH nx) rfl
   by_cases he:(cs.filter fun f=>jC nx f)=[]
   ·refine⟨_,_,rfl,.inl (d8 s1 (fG (hc.trans (by rw[he];rfl)) (qg (us:=cs.map tI) (t:=tI nx) rfl rfl (by simp;omega) rfl))),cs++[nx],_,_,by rw[aY];rfl,by simp;omega,fun f hf=>?_,dz.mpr ⟨hp,dA _ _,fun f hf g hg'=>?_⟩⟩
    ·rcases ai.mp hf with q | q
     ·exact hg f q
     ·rw[aj.mp q];exact gn
    ·rw[aj.mp hg',Cp (by rw[(hg f hf).gl.1,gn.gl.1])];cases hs:jC nx f with
     | false=>rfl
     | true=>have:f∈cs.filter fun f=>jC nx f:=aT.mpr ⟨hf,hs⟩;rw[he] at this;exact nomatch this
   ·refine⟨_,_,rfl,.inl (d8 s1 (fz (hc.trans (by
     cases hq:(cs.filter fun f=>jC nx f) with
     | nil=>exact absurd hq he
     | cons a l=>rfl)) rfl)),cs,_,_,rfl,by omega,hg,hp⟩)
 rw[aF,dH] at hl;exact⟨cs,lC rfl (d8 (lF (ts:=[]) (by simp) rfl) (d8 (lR (lB many (by omega) rfl) e) rfl)),⟨hg,by omega,hp⟩,hl⟩
theorem Fc(ns:List Int)(most:Nat)(hm:most≤7):∃(d:Nat) (cs:List (List Int)),ko c [.scr ns,.int 0,.int most]=.ok (.tup [.int d,.lst (cs.map tI)])∧(1≤d∧d≤3)∧Ji d 84 cs∧cs.length≤most:=by
 obtain⟨v,ev,-⟩:=nR (c:=c) ns 0;obtain⟨d1,d1a,d1b⟩:=ia (c:=c) v 0 3 (by decide) (by decide) (by decide) (by decide);obtain⟨d2,d2a,d2b⟩:=ia (c:=c) v 1 (most+1) (by omega) (by omega) (by decide) (by decide);obtain⟨d,hd⟩:∃d:Nat,1+dr c v 0 3=(d:Int):=⟨(1+dr c v 0 3).toNat,by omega⟩;obtain⟨m,hmm⟩:∃d:Nat,dr c v 1 (most+1)=(d:Int):=⟨(dr c v 1 (most+1)).toNat,by omega⟩;have hd':1≤d∧d≤3:=by omega
 rw[hmm] at d2 d2b;let R (m:Nat):En:=[some (.p (.scr ns)),some (.p (.int 0)),some (.p (.int most)),some (.p (.int v)),some (.p (.int d)),some (.p (.int m))];obtain⟨m',hm',e5⟩:∃m':Nat,m'≤most∧(jy (fN (eC (eU false) (dQ 4) (cM (.int 3)))) (setO 5 (gE (iU mM (dP (dQ 5) (dP (cM (.int 5)) dW))))) fF) (R m)=.nx (R m'):=by
  by_cases h3:d=3
  ·refine⟨min m 5,by omega,fG (eK (dZ rfl rfl (by rw[fS,h3];rfl))) (eG (t:=.int (min m 5:Nat)) ?_ rfl)⟩;show iU mM _ _=_;have:mM [.int (m:Int),.int 5]=.ok (.int ((min m 5:Nat):Int)):=by simp[mM];omega
   simpa[iU,dP,dW,R] using this
  ·exact⟨m,by omega,fz (eK (dZ rfl rfl (by rw[fS];simp;omega))) rfl⟩
 obtain⟨cs,ec,gc,cl⟩:=zD (c:=c) ns 1 d m' hd' (by omega);refine⟨d,cs,fw rfl (d8 (eG (t:=.int v) (fX rfl rfl ev) rfl) (d8 (eG (t:=.int d) (dZ rfl (iP rfl rfl rfl d1) (by rw[gw,hd])) rfl) (d8 (ρ':=R m) (eG (t:=.int m) (iP (z:=.int ((most:Int)+1)) rfl rfl (dZ rfl rfl (gw _ _)) d2) rfl) (d8 e5 (eN (nt rfl (fM (B3 (y:=.int 1) rfl (dZ rfl rfl rfl) rfl rfl ec)))))))),hd',gc,by omega⟩
theorem Qa(d:Nat)(hd:d≤3):Bg d 84 8000:=by
 have k1:∀d,d<4→∀k,k<4→k≤d→84+k*(Pq 84 k+1)≤8000:=by decide
 have k2:∀d,d<4→Pq 84 d≤8000:=by decide
 have k3:∀d,d<4→∀k,k<4→∀m,m<4→k+m≤d→Nb (Ns 84 k) m≤8000:=by decide
 have k4:∀d,d<4→∀k,k<4→∀m,m<4→k+m≤d→∀i,i<m→Nb (Ns 84 k) (m - 1 - i)+Sb (Ns 84 k) d m i+20≤7000:=by decide
 have k5:∀d,d<4→∀k,k<4→∀m,m<4→k+m≤d→1≤k→Pq 84 k+Sb (Ns 84 k) d m m+21≤8000:=by decide
 have k6:∀d,d<4→∀k,k<4→∀m,m<4→k+m≤d→Sb (Ns 84 k) d m m+k*(Pq 84 k+Sb (Ns 84 k) d m m+21)≤8000:=by decide
 exact⟨⟨by decide,fun k hk=>k1 d (by omega) k (by omega) hk,k2 d (by omega)⟩,fun k m h=>⟨k3 d (by omega) k (by omega) m (by omega) h,k4 d (by omega) k (by omega) m (by omega) h,fun hk=>k5 d (by omega) k (by omega) m (by omega) h (by omega),k6 d (by omega) k (by omega) m (by omega) h⟩⟩
theorem zq(d:Nat)(us:List (List Int)){f:Pe→M T}{ρ:Pe}(hf:f ρ=.ok (kb c d us)):pN c.Cutting "many" f dW (hW c) ρ=.ok (.int us.length):=by
 have h1:rJ c.Cutting "many" (kb c d us)=.ok ():=by unfold rJ kb;exact aP ⟨rfl,rfl⟩
 have h2:hW c [kb c d us]=.ok (.int us.length):=fw rfl (eN (lD (BM (C:=c.Cutting) (x:= "own_cuts") (fs:=[("own_cuts",.tup (us.map tI)),("own_dims",.int d)]) rfl rfl) (by simp)));simp only[pN,hf,M.bind_ok,h1,dW,h2,M.noEr_ok]
theorem mr(d:Nat)(us:List (List Int))(hn:us.length≤7)(sg:List Int)(hs:FE us.length sg):iR c [kb c d us,tI sg]=.ok .non:=N9 rfl (fz (nV (eK (fX (zq d us rfl) rfl (AR us.length sg hs.len (by omega) fun x hx=>by have:=hs.one x hx;omega))) rfl) rfl)
theorem Jk(d:Nat)(us:List (List Int))(hd:1≤d∧d≤3)(h:Ji d 84 us)(sg:List Int)(hs:FE us.length sg) :
  (∃ws,rH c [kb c d us,tI sg]=.ok (.tup [.str "paper",tL ws])∧PL us d sg ws∧∀x∈ws,Bn 8000 x)∨∃s,rH c [kb c d us,tI sg]=.ok (.tup [.str "spot",tS s])∧Qt us d 8000 sg s:=by
 have hn:=h.few;have key:=pF (c:=c) us d 84 8000 (by omega) (by omega) (fun u hu=>(h.gc u hu).gl.1) (fun u hu=>(h.gc u hu).gl.2) (Qa d (by omega)) sg hs;have run:∀t,gK c [.lst (us.map tI),.int (d:Int),tI sg]=.ok t→rH c [kb c d us,tI sg]=.ok t:=fun t ht=>fw rfl (d8 (zw (fX rfl rfl (mr d us hn sg hs))) (eN (iP (fM (DO d us rfl)) (Dc d us rfl) rfl ht)))
 rcases key with⟨ws,e,p,b⟩ | ⟨s,e,p⟩
 ·exact .inl ⟨ws,run _ e,p,b⟩
 ·exact .inr ⟨s,run _ e,p⟩
def qS(us:List (List Int))(ws:List Int)(k:Nat):Int:=((ws.zip us).map fun p=>p.1*vc p.2 k).sum
def rC(us:List (List Int))(d:Nat)(sg ws:List Int):Bool:=((sg.zip ws).all fun p=>wH p.1 p.2)&&((decide ((List.range d).map (qS us ws)=List.replicate d 0))&&(if qS us ws d=0 then (sg.zip ws).any fun p=>p.1 != 0&&p.2 != 0 else decide (0<qS us ws d)))
theorem DH{s w:Int}(hs:s.natAbs≤1):wH s w=!decide (w*s<0):=by
 unfold wH pY;have:s=0∨s=1∨s = -1:=by omega
 rcases this with rfl | rfl | rfl
 ·simp
 ·rcases cY w 0 with h | h | h
  ·have h1:¬(0<w):=by omega
   have h2:w≠0:=by omega
   simp[h,h1,h2]
  ·subst h;simp
  ·have h2:w≠0:=by omega
   have h3:¬w<0:=by omega
   simp[h,h2,h3]
 ·rcases cY w 0 with h | h | h
  ·have h1:¬(0<w):=by omega
   have h2:w≠0:=by omega
   have h4:¬(w * -1<0):=by omega
   simp[h,h1,h2,h4]
  ·subst h;simp
  ·have h2:w≠0:=by omega
   have h3:¬w<0:=by omega
   have h4:(w * -1<0):=by omega
   simp[h,h2,h4]
theorem Ke{N:Nat}(hN:N≤20000)(a b:List Int)(hl:a.length≤100)(ha:∀x∈a,Bn N x)(hb:∀x∈b,Bn N x):DQ c [tL a,tL b]=.ok (.int (((a.zip b).map fun p=>p.1*p.2).sum)):=by
 have sz:1000<sizeLine:=by decide
 have e1:iE [none,none] (j9 (dP (dQ 0) (dP (dQ 1) dW))) (lW 2 (gh (gZ 0) (gh (gZ 1) lV))) (fun _=>.ok true) (Gg c) (vw (fQ 2 [tL a,tL b]))=.ok (((a.zip b).map fun p=>p.1*p.2).map T.int):=gQ (a.zip b) (fun p=>T.tup [.int p.1,.int p.2]) (fun p=>T.int (p.1*p.2)) (mw rfl rfl rfl rfl) (by rw[dI];omega) (fun p hp=>⟨_,rfl,rfl,dZ rfl rfl (gz ((ha _ (aV hp).1).ok (hb _ (aV hp).2) (by omega) (by omega)))⟩) (by rw[aH];rfl)
 exact fw rfl (eN (mF e1 (Bq _)))
theorem Ib(us:List (List Int))(d:Nat)(hd:d≤3)(hl:∀u∈us,u.length=d+1)(hb:∀u∈us,∀x∈u,Bn 84 x)(hn:us.length≤8)(ws:List Int)(hw:ws.length=us.length)(hwb:∀x∈ws,Bn 9000 x):kq c [.lst (us.map tI),tL ws,.int ((d:Int)+1)]=.ok (((List.range (d+1)).map (qS us ws)).map T.int):=by
 have sz:1000<sizeLine:=by decide
 refine lC rfl (oW (gQ (List.range (d+1)) (fun (k:Nat)=>T.int (k:Int)) (fun k=>T.int (qS us ws k)) (lB (d+1) (by omega) rfl) (by simp;omega) (fun k hk=>⟨_,rfl,rfl,?_⟩) (by rw[aH];rfl)));have hk':=aR.mp hk;have e4:iE [none,some 0] (fY (dQ 2)) (gZ 0) (fun _=>.ok true) (oE c) [some (.int (k:Int)),some (tL ws),some (.lst (us.map tI))]=.ok ((us.map fun u=>vc u k).map T.int):=gQ us tI (fun u=>T.int (vc u k)) rfl (by omega) (fun u hu=>⟨_,rfl,rfl,dZ rfl rfl (iB u k (by rw[hl u hu];omega))⟩) (by rw[aH];rfl)
 have:=Ke (c:=c) (N:=9000) (by omega) ws (us.map fun u=>vc u k) (by omega) hwb fun x hx=>by obtain⟨u,hu,rfl⟩:=aC.mp hx;refine Bn.mono (m:=84) ?_ (by omega);exact hb u hu _ (by unfold vc;rw[af,ag (show k<u.length by rw[hl u hu];omega)];exact aU _)
 have et:((ws.zip (us.map fun u=>vc u k)).map fun p=>p.1*p.2).sum=qS us ws k:=by unfold qS;rw[List.zip_map_right,aH];rfl
 rw[et] at this;exact fX (x:=tL ws) rfl (fM e4) this
theorem HQ(p:Int→Int→Bool):∀a b:List Int,(a.zip b).any (fun x=>p x.1 x.2)=(b.zip a).any (fun x=>p x.2 x.1)
 | [],b=>by simp
 | _::_,[]=>by simp
 | x::a,y::b=>by simp[HQ p a b]
theorem Hy(p:Int→Int→Bool):∀a b:List Int,(a.zip b).all (fun x=>p x.1 x.2)=(b.zip a).all (fun x=>p x.2 x.1)
 | [],b=>by simp
 | _::_,[]=>by simp
 | x::a,y::b=>by simp[Hy p a b]
theorem xJ(us:List (List Int))(ws:List Int)(d:Nat):((List.range (d+1)).map (qS us ws)).take d=(List.range d).map (qS us ws):=by rw[List.range_succ,aY,List.take_left' (by simp)]
theorem Do(us:List (List Int))(ws:List Int)(d:Nat):fV (.lst (((List.range (d+1)).map (qS us ws)).map T.int)) (.int (d:Int))=.ok (.int (qS us ws d)):=by rw[uw _ d (by simp)];congr 2;rw[af,av,List.getElem?_range (by omega)];rfl
theorem J1(a b:Int):ku c [some (.int a),some (.int b)]=.ok (.bl (a != 0&&b != 0)):=by have q1:eC (eU true) (dQ 0) (cM (.int 0)) [some (.int a),some (.int b)]=.ok (.bl (!(a == 0))):=dZ rfl rfl (iz _ _);have q2:eC (eU true) (dQ 1) (cM (.int 0)) [some (.int a),some (.int b)]=.ok (.bl (!(b == 0))):=dZ rfl rfl (iz _ _);simp only[ku,tT,fN,q1,q2,M.bind_ok,bne];cases a == 0<;>cases b == 0<;>rfl
theorem wZ(d:Nat)(us:List (List Int))(hn:us.length≤7)(sg:List Int)(hs:FE us.length sg)(x:T)(hx:yX x=true)(hxs:∀ts,x=.lst ts→ts.length<1000∧∀t∈ts,yX t=true)(hw:rm us.length x=false):iJ c [kb c d us,tI sg,x]=.ok (.bl false):=by have e0:=p9 (c:=c) us.length x hx hxs;rw[hw] at e0;exact fw rfl (d8 (zw (fX rfl rfl (mr d us hn sg hs))) (hU (fG (nV (eK (fX (zq d us rfl) rfl e0)) rfl) (eN rfl)) rfl))
theorem wG(d:Nat)(us:List (List Int))(hd:1≤d∧d≤3)(h:Ji d 84 us)(sg:List Int)(hs:FE us.length sg)(ws:List Int)(hw:ws.length=us.length)(hwb:∀x∈ws,Bn 9000 x):iJ c [kb c d us,tI sg,tL ws]=.ok (.bl (rC us d sg ws)):=by
 have sz:1000<sizeLine:=by decide
 have hn:=h.few;have e0:=p9 (c:=c) us.length (tL ws) rfl (fun ts e=>by unfold tL at e;cases e;refine⟨by simp;omega,fun t ht=>?_⟩;obtain⟨y,-,rfl⟩:=aC.mp ht;rfl)
 have e0':rm us.length (tL ws)=true:=by simp[rm,tL,hw,isInt]
 rw[e0'] at e0;let R (x3 x4:Option W):En:=[some (.p (kb c d us)),some (.p (tI sg)),some (.p (tL ws)),x3,x4];have e1:iE [none,none] (j9 (dP (dQ 1) (dP (dQ 2) dW))) (lW 2 (gh (gZ 0) (gh (gZ 1) lV))) (fun _=>.ok true) (pT c) (vw (R none none))=.ok (((sg.zip ws).map fun p=>wH p.1 p.2).map T.bl):=gQ (sg.zip ws) (fun p=>T.tup [.int p.1,.int p.2]) (fun p=>T.bl (wH p.1 p.2)) (mw rfl rfl rfl rfl) (by simp;omega) (fun p hp=>⟨_,rfl,rfl,fX rfl rfl (yf p.1 p.2)⟩) (by rw[aH];rfl)
 let xt:Option W:=some (.p (.lst (((List.range (d+1)).map (qS us ws)).map T.int)));let xd:Option W:=some (.p (.int d));have e2:iE [none,none] (j9 (dP (dQ 1) (dP (dQ 2) dW))) (lW 2 (gh (gZ 0) (gh (gZ 1) lV))) (fun _=>.ok true) (ku c) (vw (R xd xt))=.ok (((sg.zip ws).map fun p=>p.1 != 0&&p.2 != 0).map T.bl):=gQ (sg.zip ws) (fun p=>T.tup [.int p.1,.int p.2]) (fun p=>T.bl (p.1 != 0&&p.2 != 0)) (mw rfl rfl rfl rfl) (by simp;omega) (fun p hp=>⟨_,rfl,rfl,J1 p.1 p.2⟩) (by rw[aH];rfl)
 have e4:=Ib (c:=c) us d hd.2 (fun u hu=>(h.gc u hu).gl.1) (fun u hu=>(h.gc u hu).gl.2) (by omega) ws hw hwb;unfold rC;refine fw rfl (d8 (zw (fX rfl rfl (mr d us hn sg hs))) (d8 (ρ':=R none none) (fz (nV (eK (fX (zq d us rfl) rfl e0)) rfl) rfl) ?_));cases h1:((sg.zip ws).all fun p=>wH p.1 p.2) with
 | false=>exact hU (fG (nV (eK (mF e1 (by rw[nY,bZ]))) (by simpa using h1)) (eN rfl)) rfl
 | true=>
  refine d8 (fz (nV (eK (mF e1 (by rw[nY,bZ]))) (by simpa using h1)) rfl) (d8 (ρ':=R xd none) (eG (Dc d us rfl) rfl) (d8 (ρ':=R xd xt) (eG (fM (Bk (z:=.int ((d:Int)+1)) (fM (DO d us rfl)) rfl (dZ rfl rfl (gw _ _)) e4)) rfl) ?_));have e5:fN (iU uY (dP (jN (dQ 4) (fun _=>.ok none) (gU (dQ 3))) dW)) (vw (R xd xt))=.ok (!decide ((List.range d).map (qS us ws)=List.replicate d 0)):=by
   refine eK (lD (t:=.lst (((List.range d).map (qS us ws)).map T.int)) ?_ ?_)
   ·have:=rW (fe:=dQ 4) (fd:=dQ 3) (d:=d) (ts:=((List.range (d+1)).map (qS us ws)).map T.int) (ρ:=vw (R xd xt)) rfl rfl;rw[←cy,xJ] at this;exact this
   ·simp only[uY,rq,BI];rw[←Ml _ d (by simp)];congr 2;rw[b4];congr 1
  cases h2:decide ((List.range d).map (qS us ws)=List.replicate d 0) with
  | false=>exact hU (fG (by rw[e5,h2];rfl) (eN rfl)) rfl
  | true=>
   refine d8 (fz (by rw[e5,h2];rfl) rfl) ?_;have ix:=Do us ws d;by_cases h3:qS us ws d=0
   ·rw[aP h3];refine d8 (fz (eK (dZ (dZ rfl rfl ix) rfl (by rw[iz,h3];rfl))) rfl) (eN (mF e2 ?_));rw[yF,b4];rfl
   ·rw[aQ h3];exact hU (fG (eK (dZ (dZ rfl rfl ix) rfl (by rw[iz];simp[h3]))) (eN (dZ (dZ rfl rfl ix) rfl (rA _ _)))) rfl
theorem zL(d:Nat)(us:List (List Int))(hd:1≤d∧d≤3)(h:Ji d 84 us)(sg:List Int)(hs:FE us.length sg)(ws:List Int)(hw:ws.length=us.length)(hwb:∀x∈ws,Bn 9000 x):ml c [.lst (us.map tI),.int d,tI sg,tL ws]=.ok (.bl (rC us d sg ws)):=by
 have sz:1000<sizeLine:=by decide
 have hn:=h.few;let R (x4 x5 x6 x7:Option W):En:=[some (.p (.lst (us.map tI))),some (.p (.int d)),some (.p (tI sg)),some (.p (tL ws)),x4,x5,x6,x7];have scan:=nS (m:=kL 2 (gy (iK 4) (gy (iK 5) k9))) (g:=sT c) (fun (p:Int×Int)=>T.tup [.int p.1,.int p.2]) (fun ρ=>∃x4 x5,ρ=R x4 x5 none none)
  (fun p=>!decide (p.1*p.2<0)) (.bl false) (ws.zip sg) (R none none none none) ⟨none,none,rfl⟩ (by rintro⟨w,s⟩ hp ρ ⟨x4,x5,rfl⟩;have hs1:=hs.one s (aV hp).2;have hc:fN (eC C3 (eC ie (dQ 4) (dQ 5)) (cM (.int 0))) (vw (R (some (.p (.int w))) (some (.p (.int s))) none none))=.ok (decide (w*s<0)):=eK (dZ (dZ rfl rfl (gz (qj (by omega)))) rfl (nE _ _));refine⟨_,rfl,fun hq=>⟨_,fz (hc.trans (by simpa using hq)) rfl,_,_,rfl⟩,fun hq=>fG (hc.trans (by simpa using hq)) (eN rfl)⟩)
 have eall:((ws.zip sg).all fun p=>!decide (p.1*p.2<0))=((sg.zip ws).all fun p=>wH p.1 p.2):=by rw[Hy (fun a b=>!decide (a*b<0)) ws sg,Bool.eq_iff_iff,b6,b6];exact⟨fun q p hp=>by rw[DH (hs.one _ (aV hp).1)];exact q p hp,fun q p hp=>by have:=q p hp;rw[DH (hs.one _ (aV hp).1)] at this;exact this⟩
 rw[eall] at scan;have zi:j9 (dP (dQ 3) (dP (dQ 2) dW)) (kf (R none none none none))=.ok ((ws.zip sg).map fun p=>T.tup [.int p.1,.int p.2]):=mw rfl rfl rfl rfl;unfold rC;cases h1:((sg.zip ws).all fun p=>wH p.1 p.2) with
 | false=>exact fw rfl (hU (gN zi (scan.2 h1)) rfl)
 | true=>
  obtain⟨ρ,e,x4,x5,rfl⟩:=scan.1 h1;let xt:Option W:=some (.p (.lst (((List.range (d+1)).map (qS us ws)).map T.int)));have e6:iE [none,some 3,some 0] (jh (dP (eC gB (dQ 1) (cM (.int 1))) dW)) (gZ 0) (fun _=>.ok true) (tw c) (kf (R x4 x5 none none))=.ok (((List.range (d+1)).map (qS us ws)).map T.int):=by
   refine gQ (List.range (d+1)) (fun (k:Nat)=>T.int (k:Int)) (fun k=>T.int (qS us ws k)) (lB (d+1) (by omega) (dZ rfl rfl (by rw[gw];simp))) (by simp;omega) (fun k hk=>⟨_,rfl,rfl,?_⟩) (by rw[aH];rfl);have hk':=aR.mp hk;have e7:iE [none,none,some 0] (j9 (dP (dQ 1) (dP (dQ 2) dW))) (lW 2 (gh (gZ 0) (gh (gZ 1) lV))) (fun _=>.ok true) (sR c) [some (.int (k:Int)),some (tL ws),some (.lst (us.map tI))]=.ok (((ws.zip us).map fun p=>p.1*vc p.2 k).map T.int):=gQ (ws.zip us) (fun p=>T.tup [.int p.1,tI p.2]) (fun p=>T.int (p.1*vc p.2 k)) (mw rfl rfl rfl rfl) (by rw[dI];omega) (fun p hp=>⟨_,rfl,rfl,dZ rfl (dZ rfl rfl (iB p.2 k (by rw[(h.gc _ (aV hp).2).gl.1];omega))) (gz ((hwb _ (aV hp).1).ok (n:=84) (by refine (h.gc _ (aV hp).2).gl.2 _ ?_;rw[af,ag (show k<p.2.length by rw[(h.gc _ (aV hp).2).gl.1];omega)];exact aU _) (by omega) (by decide)))⟩) (by rw[aH];rfl)
   exact mF e7 (Bq _)
  let ps:List Int:=((ws.zip sg).filter fun p=>p.1*p.2 != 0).map Prod.fst;have e8:iE [none,none] (j9 (dP (dQ 3) (dP (dQ 2) dW))) (lW 2 (gh (gZ 0) (gh (gZ 1) lV))) (fN (eC (eU true) (eC ie (dQ 0) (dQ 1)) (cM (.int 0)))) (s9 c) (kf (R x4 x5 xt none))=.ok (ps.map T.int):=nP (ws.zip sg) (fun p=>T.tup [.int p.1,.int p.2]) (fun p=>T.int p.1) (fun p=>p.1*p.2 != 0) (mw rfl rfl rfl rfl) (by rw[dI];omega) (fun p hp=>⟨_,rfl,eK (dZ (dZ rfl rfl (gz (qj (by have:=hs.one _ (aV hp).2;omega)))) rfl (iz _ _)),fun _=>rfl⟩) (by rw[aH];rfl)
  have ips:(!decide (ps=[]))=((sg.zip ws).any fun p=>p.1 != 0&&p.2 != 0):=by
   rw[HQ (fun a b=>a != 0&&b != 0) sg ws];by_cases q:ps=[]
   ·rw[aB q];have:(ws.zip sg).filter (fun p=>p.1*p.2 != 0)=[]:=List.map_eq_nil_iff.mp q;rw[List.filter_eq_nil_iff] at this;symm;rw[Bool.not_true,List.any_eq_false];intro p hp z;refine this p hp ?_;simp at z ⊢;exact⟨z.2,z.1⟩
   ·rw[aA q,Bool.not_false];symm;obtain⟨x,hx⟩:=List.exists_mem_of_ne_nil _ q;obtain⟨p,hp,-⟩:=aC.mp hx;obtain⟨hp1,hp2⟩:=aT.mp hp;rw[cH];refine⟨p,hp1,?_⟩;simp at hp2 ⊢;exact⟨hp2.2,hp2.1⟩
  refine fw rfl (d8 (gN zi e) (d8 (ρ':=R x4 x5 xt none) (eG (fM e6) rfl) ?_));have e9:fN (eC (eU true) (jN (dQ 6) (fun _=>.ok none) (gU (dQ 1))) (fj (jU (fj (lstM (dP (cM (.int 0)) dW))) (dQ 1)))) (vw (R x4 x5 xt none))=.ok (!decide ((List.range d).map (qS us ws)=List.replicate d 0)):=by refine eK (dZ (x:=.lst (((List.range d).map (qS us ws)).map T.int)) (y:=.lst ((List.replicate d (0:Int)).map T.int)) ?_ (De d (by omega) rfl) (by rw[Br];rfl));have:=rW (fe:=dQ 6) (fd:=dQ 1) (d:=d) (ts:=((List.range (d+1)).map (qS us ws)).map T.int) (ρ:=vw (R x4 x5 xt none)) rfl rfl;rw[←cy,xJ] at this;exact this
  cases h2:decide ((List.range d).map (qS us ws)=List.replicate d 0) with
  | false=>exact hU (fG (by rw[e9,h2];rfl) (eN rfl)) rfl
  | true=>
   let xp:Option W:=some (.p (.lst (ps.map T.int)));refine d8 (fz (by rw[e9,h2];rfl) rfl) (d8 (ρ':=R x4 x5 xt xp) (eG (fM e8) rfl) (eN ?_));have ix:=Do us ws d;have g1:eC FB (eC fV (dQ 6) (dQ 1)) (cM (.int 0)) (vw (R x4 x5 xt xp))=.ok (.bl (decide (0<qS us ws d))):=dZ (dZ rfl rfl ix) rfl (rA _ _);have g2:eC (eU false) (eC fV (dQ 6) (dQ 1)) (cM (.int 0)) (vw (R x4 x5 xt xp))=.ok (.bl (qS us ws d == 0)):=dZ (dZ rfl rfl ix) rfl (fS _ _);have g3:eC (eU true) (dQ 7) (fj (lstM dW)) (vw (R x4 x5 xt xp))=.ok (.bl (!decide (ps=[]))):=dZ (x:=.lst (ps.map T.int)) (y:=.lst (([]:List Int).map T.int)) rfl (by simp) (by rw[Br];rfl);simp only[MD,tT,fN,g1,g2,g3,M.bind_ok,ips];by_cases h3:qS us ws d=0
   ·rw[aP h3,h3];rfl
   ·rw[aQ h3];have:(qS us ws d == 0)=false:=by simpa using h3
    rw[this];cases decide (0<qS us ws d)<;>rfl
theorem MV(d:Nat)(us:List (List Int))(hd:1≤d∧d≤3)(h:Ji d 84 us)(sg:List Int)(hs:FE us.length sg)(ws:List Int)(hw:ws.length=us.length)(hwb:∀x∈ws,Bn 9000 x):nC c [kb c d us,.lst (us.map tI),.int d,tI sg,tL ws]=.ok (.bl true):=by have e1:=wG (c:=c) d us hd h sg hs ws hw hwb;have e2:=zL (c:=c) d us hd h sg hs ws hw hwb;refine fw rfl (d8 (eG (iP rfl rfl rfl e1) rfl) (eN ?_));have g:=Oi (ρ:=vw [some (.p (kb c d us)),some (.p (.lst (us.map tI))),some (.p (.int d)),some (.p (tI sg)),some (.p (tL ws)),some (.p (.bl (rC us d sg ws)))]) (f:=dQ 1) (g:=dQ 2) (k:=dQ 3) (l:=dQ 4) rfl rfl rfl rfl e2;have g2:eC (eU false) (dQ 5) (eD (dP (dQ 1) (dP (dQ 2) (dP (dQ 3) (dP (dQ 4) dW)))) (ml c)) (vw [some (.p (kb c d us)),some (.p (.lst (us.map tI))),some (.p (.int d)),some (.p (tI sg)),some (.p (tL ws)),some (.p (.bl (rC us d sg ws)))])=.ok (.bl true):=dZ rfl g (by cases rC us d sg ws<;>rfl);show tT (pH "bool" (dQ 5)) _ (vw [some (.p (kb c d us)),some (.p (.lst (us.map tI))),some (.p (.int d)),some (.p (tI sg)),some (.p (tL ws)),some (.p (.bl (rC us d sg ws)))])=_;have g0:fN (pH "bool" (dQ 5)) (vw [some (.p (kb c d us)),some (.p (.lst (us.map tI))),some (.p (.int d)),some (.p (tI sg)),some (.p (tL ws)),some (.p (.bl (rC us d sg ws)))])=.ok true:=rfl;simp only[tT,g0,g2,M.bind_ok];rfl
def kT:Nat→List (List Int)
 | 0=>[[]]
 | k+1=>(kT k).flatMap fun s=>[-1,0,1].map fun x=>s++[x]
theorem vm:∀k,(kT k).length=3 ^ k
 | 0=>rfl
 | k+1=>by
  show ((kT k).flatMap fun s=>[-1,0,1].map fun x=>s++[x]).length=_;rw[List.length_flatMap];have:(kT k).map (fun a=>([-1,0,1].map fun (x:Int)=>a++[x]).length)=List.replicate (kT k).length 3:=by apply cG.mpr;refine⟨by simp,fun b hb=>?_⟩;obtain⟨s,-,rfl⟩:=aC.mp hb;rfl
  rw[this];simp[vm k,cC]
theorem qV:∀k,∀s∈kT k,FE k s
 | 0,s,h=>by
  have:s=[]:=by simpa[kT] using h
  subst this;exact⟨rfl,fun x hx=>nomatch hx⟩
 | k+1,s,h=>by
  obtain⟨s',h1,h2⟩:=dD.mp h;obtain⟨x,hx,rfl⟩:=aC.mp h2;have:=qV k s' h1;refine⟨by simp[this.len],fun y hy=>?_⟩;rcases ai.mp hy with q | q
  ·exact this.one y q
  ·rw[aj.mp q];simp only[aE,cx,or_false] at hx;omega
theorem zj{α β:Type}(f:α→List β)(l:List α)(a:α):(l++[a]).flatMap f=l.flatMap f++f a:=by simp
theorem BF(m:Nat)(hm:m≤5):nv c [tI [-1,0,1],.int m]=.ok (.lst ((kT m).map tI)):=by
 have sz:1000<sizeLine:=by decide
 let R (f:List (List Int)) (x3 x4 x5:Option W):En:=[some (.p (tI [-1,0,1])),some (.p (.int m)),some (.p (.lst (f.map tI))),x3,x4,x5];obtain⟨ρ,e,x3,x4,x5,rfl⟩:=gq (m:=iK 3) (g:=uS c) (fun (i:Nat)=>T.int (i:Int))
  (fun k ρ=>∃x3 x4 x5:Option W,ρ=R (kT k) x3 x4 x5) (List.range m) 0 (R [[]] none none none) ⟨none,none,none,rfl⟩ (by
   rintro k k' ρ hi ⟨x3,x4,x5,rfl⟩;rw[aF];have hin:k<m:=by simpa using (aa.mp hi).1
   have hl3:(kT k).length≤81:=by rw[vm];exact aM (cB (by decide) (show k≤4 by omega)) (by decide)
   let G:List Int→List (List Int):=fun s=>[-1,0,1].map fun x=>s++[x];obtain⟨ρ,e,y5,rfl⟩:=gq (m:=iK 5) (g:=we c) tI
    (fun j ρ=>∃y5:Option W,ρ=R (kT k) (some (.p (.int k'))) (some (.p (.lst ((((kT k).take j).flatMap G).map tI)))) y5) (kT k) 0 (R (kT k) (some (.p (.int k'))) (some (.p (.lst []))) x5) ⟨x5,rfl⟩ (by
     rintro j s ρ hj ⟨y5,rfl⟩;rw[aF];have jl:j<(kT k).length:=(aa.mp hj).1;have sl:=(qV k s (au hj)).len;have e1:iE [none,some 5] (fY (dQ 0)) (gZ 0) (fun _=>.ok true) (vP c) (kf (R (kT k) (some (.p (.int k'))) (some (.p (.lst ((((kT k).take j).flatMap G).map tI)))) (some (.p (tI s)))))=.ok ((G s).map tI):=gQ [-1,0,1] T.int (fun x=>tI (s++[x])) rfl (by show 3<_;omega) (fun x hx=>⟨_,rfl,rfl,dZ (x:=tI s) (y:=tI [x]) rfl (Od rfl) (yH _ _ (by simp;omega))⟩) (by rw[aH];rfl)
     have ln:(((kT k).take j).flatMap G).length≤3*j:=by
      rw[List.length_flatMap];have:((kT k).take j).map (fun a=>(G a).length)=List.replicate ((kT k).take j).length 3:=by apply cG.mpr;refine⟨by simp,fun b hb=>?_⟩;obtain⟨s,-,rfl⟩:=aC.mp hb;rfl
      rw[this];simp;omega
     refine⟨_,_,rfl,.inl (eG (fM (lM (a:=(((kT k).take j).flatMap G).map tI) (b:=(G s).map tI) rfl (fM e1) (by simp only[aw];show _+3≤_;omega))) rfl),some (.p (tI s)),?_⟩;rw[gW _ j s hj,zj,aY];rfl)
   rw[aF,cK] at e;exact⟨_,_,rfl,.inl (d8 (ρ':=R (kT k) (some (.p (.int k'))) (some (.p (.lst []))) x5) (eG (by simp) rfl) (d8 (gN rfl e) (eG (t:=.lst ((kT (k+1)).map tI)) rfl rfl))),_,_,_,rfl⟩)
 rw[aF,dH] at e;exact fw rfl (d8 (ρ':=R [[]] none none none) (eG (tN rfl) rfl) (d8 (lR (lB m (by omega) rfl) e) (eN rfl)))
theorem P3{ρ:Pe}{f1 f2 f3 f4:Pe→M T}{a1 a2 a3 a4:T}(h1:f1 ρ=.ok a1)(h2:f2 ρ=.ok a2)(h3:f3 ρ=.ok a3)(h4:f4 ρ=.ok a4):lstM (dP f1 (dP f2 (dP f3 (dP f4 dW)))) ρ=.ok [a1,a2,a3,a4]:=by simp only[lstM,dP,dW,h1,h2,h3,h4,M.bind_ok];rfl
theorem Jd(ws:List Int)(n:Nat)(hl:ws.length=n)(hn:1≤n∧n≤8)(hb:∀x∈ws,Bn 8000 x)(cell:Int):∃L:List (List Int),l8 c [tL ws,.int cell]=.ok (L.map tL)∧L.length≤20∧∀l∈L,l.length=n∧∀x∈l,Bn 9000 x:=by
 have sz:1000<sizeLine:=by decide
 obtain⟨d3,d3a,d3b⟩:=ia (c:=c) cell 0 n (by omega) (by omega) (by omega) (by omega);obtain⟨a,ha⟩:∃p:Nat,dr c cell 0 n=(p:Int):=⟨(dr c cell 0 n).toNat,by omega⟩;rw[ha] at d3 d3b;have al:a<ws.length:=by omega
 obtain⟨d4,d4a,d4b⟩:=ia (c:=c) cell 1 3 (by omega) (by omega) (by omega) (by omega);obtain⟨w,ew,hw⟩:=Dd [1,-1,7] (dr c cell 1 3) d4a (by simpa using d4b);have hw':w.natAbs≤7:=by simp only[aE,cx,or_false] at hw;omega
 let R (L:List (List Int)) (x6:Option W):En:=[some (.p (tL ws)),some (.p (.int cell)),some (.p (.int n)),some (.p (.int a)),some (.p (.int w)),some (.o (L.map tL)),x6];let R0:En:=[some (.p (tL ws)),some (.p (.int cell)),some (.p (.int n)),some (.p (.int a)),some (.p (.int w)),none,none];let v:=ws.getD a 0;have hv:v∈ws:=by show ws.getD a 0∈ws;rw[af,ag al];exact aU _
 let L1:List (List Int):=[ws,ws.map fun x=>-x,ws.map fun x=>3*x,List.replicate n 0];let la:List Int:=ws.take a++[v+w]++ws.drop (a+1);let lb:List Int:=ws.take a++[0]++ws.drop (a+1);have n1:iE [none] (fY (dQ 0)) (gZ 0) (fun _=>.ok true) (sZ c) (kf R0)=.ok ((ws.map fun x=>-x).map T.int):=gQ ws T.int (fun x=>T.int (-x)) rfl (by omega) (fun x hx=>⟨_,rfl,rfl,rfl⟩) (by rw[aH];rfl)
 have n2:iE [none] (fY (dQ 0)) (gZ 0) (fun _=>.ok true) (sM c) (kf R0)=.ok ((ws.map fun x=>3*x).map T.int):=gQ ws T.int (fun x=>T.int (3*x)) rfl (by omega) (fun x hx=>⟨_,rfl,rfl,dZ rfl rfl (iC (by decide))⟩) (by rw[aH];rfl)
 have s1:∀L x6,jN (dQ 0) (fun _=>.ok none) (gU (dQ 3)) (kf (R L x6))=.ok (.lst ((ws.take a).map T.int)):=fun L x6=>by rw[cy];exact rW (ts:=ws.map T.int) rfl rfl
 have s2:∀L x6,jN (dQ 0) (gU (eC gB (dQ 3) (cM (.int 1)))) (fun _=>.ok none) (kf (R L x6))=.ok (.lst ((ws.drop (a+1)).map T.int)):=fun L x6=>by rw[List.map_drop];exact E8 (ts:=ws.map T.int) (d:=a+1) rfl (dZ rfl rfl (by rw[gw];simp))
 have bend:∀L x6 (f:Pe→M T) (u:Int),f (kf (R L x6))=.ok (.int u)→fj (mR (fj (mR (jN (dQ 0) (fun _=>.ok none) (gU (dQ 3))) (fj (lstM (dP f dW))))) (jN (dQ 0) (gU (eC gB (dQ 3) (cM (.int 1)))) (fun _=>.ok none))) (kf (R L x6))=.ok (tL (ws.take a++[u]++ws.drop (a+1))):=fun L x6 f u hu=>by have:=fM (lM (fM (lM (s1 L x6) (tN hu) (by simp;omega))) (s2 L x6) (by simp;omega));rw[this];simp[tL]
 have lens:∀u:Int,(ws.take a++[u]++ws.drop (a+1)).length=n:=fun u=>by simp;omega
 have bnd:∀u:Int,Bn 9000 u→∀x∈ws.take a++[u]++ws.drop (a+1),Bn 9000 x:=fun u hu x hx=>by
  rcases ai.mp hx with q | q
  ·rcases ai.mp q with q | q
   ·exact (hb x (dM q)).mono (by omega)
   ·rw[aj.mp q];exact hu
  ·exact (hb x (dJ q)).mono (by omega)
 have b3:Bn 3 w:=by unfold Bn;omega
 let P (L:List (List Int)):Prop:=∀l∈L,l.length=n∧∀x∈l,Bn 9000 x;have p1:P (L1++[la]++[lb]):=fun l hl'=>by
  simp only[L1,ai,aE,cx,or_false] at hl';rcases hl' with ((h | h | h | h) | h) | h
  ·rw[h];exact⟨hl,fun x hx=>(hb x hx).mono (by omega)⟩
  ·rw[h];refine⟨by simp[hl],fun x hx=>?_⟩;obtain⟨y,hy,rfl⟩:=aC.mp hx;exact ((hb y hy).neg).mono (by omega)
  ·rw[h];refine⟨by simp[hl],fun x hx=>?_⟩;obtain⟨y,hy,rfl⟩:=aC.mp hx;exact (Bn.mul (m:=2) (by unfold Bn;decide) (hb y hy)).mono (by omega)
  ·rw[h];refine⟨by simp,fun x hx=>?_⟩;rw[a9 hx];exact rj
  ·rw[h];exact⟨lens _,bnd _ (((hb v hv).add b3).mono (by omega))⟩
  ·rw[h];exact⟨lens _,bnd _ rj⟩
 obtain⟨ρ,e,L,x6,rfl,hL,pL⟩:=gq (m:=iK 6) (g:=sS c) (fun (i:Nat)=>T.int (i:Int))
  (fun k ρ=>∃(L:List (List Int)) (x6:Option W),ρ=R L x6∧L.length=6+k∧P L) (List.range 4) 0 (R (L1++[la]++[lb]) none) ⟨_,none,rfl,rfl,p1⟩ (by
   rintro k k' ρ hi ⟨L,x6,rfl,hL,pL⟩;rw[aF] at hL ⊢;have hin:k<4:=by simpa using (aa.mp hi).1
   have hki:k'=k:=by rw[List.getElem?_range hin] at hi;cases hi;rfl
   subst hki;let nl:List Int:=(List.range n).map fun (j:Nat)=>dr c cell (2+(n:Int)*k'+j) 7 - 3;have e1:iE [none,some 1,some 2,some 6] (jh (dP (dQ 2) dW)) (gZ 0) (fun _=>.ok true) (sU c) (kf (R L (some (.p (.int k')))))=.ok (nl.map T.int):=by
    refine gQ (List.range n) (fun (j:Nat)=>T.int (j:Int)) (fun (j:Nat)=>T.int (dr c cell (2+(n:Int)*k'+j) 7 - 3)) (lB n (by omega) rfl) (by simp;omega) (fun j hj=>⟨_,rfl,rfl,?_⟩) (by rw[aH];rfl);have hj':=aR.mp hj;have nk:(n:Int)*k'≤8*4:=by have:n*k'≤8*4:=dB (by omega) (by omega);exact_mod_cast this
    have nk0:0≤(n:Int)*k':=aO (by omega) (by omega);obtain⟨e,_,_⟩:=ia (c:=c) cell (2+(n:Int)*k'+j) 7 (by omega) (by omega) (by omega) (by omega);exact dZ (iP (y:=.int (2+(n:Int)*k'+j)) rfl (dZ (dZ rfl (dZ rfl rfl (iC (by omega))) (gw _ _)) rfl (gw _ _)) rfl e) rfl (jB _ _)
   refine⟨_,_,rfl,.inl (qg (us:=L.map tL) (t:=tL nl) rfl (fM e1) (by simp;omega) rfl),L++[nl],some (.p (.int k')),by simp[R],by simp;omega,fun l hl'=>?_⟩;rcases ai.mp hl' with q | q
   ·exact pL l q
   ·rw[aj.mp q];refine⟨by simp[nl],fun x hx=>?_⟩;obtain⟨j,hj,rfl⟩:=aC.mp hx;have hj':=aR.mp hj;have nk:(n:Int)*k'≤8*4:=by have:n*k'≤8*4:=dB (by omega) (by omega);exact_mod_cast this
    have nk0:0≤(n:Int)*k':=aO (by omega) (by omega);obtain⟨_,q1,q2⟩:=ia (c:=c) cell (2+(n:Int)*k'+j) 7 (by omega) (by omega) (by omega) (by omega);refine Bn.mono (m:=3) ?_ (by omega);unfold Bn;omega)
 rw[aF,dH] at hL;have hl3:∀ρ:Pe,fj (lstM (dP (cM (.int 1)) (dP (wj (fun i=>.int (-i)) (cM (.int 1))) (dP (cM (.int 7)) dW)))) ρ=.ok (.lst ([1,-1,7].map T.int)):=fun ρ=>fM rfl;refine⟨L,lC rfl (d8 (eG (t:=.int n) (lD rfl (by simp[tL,hl])) rfl) (d8 (eG (t:=.int a) (iP rfl rfl rfl d3) rfl) (d8 (ρ':=R0) (eG (t:=.int w) (dZ (hl3 _) (iP rfl rfl rfl d4) ew) rfl) (d8 (ρ':=R L1 none) (lF (ts:=L1.map tL) (P3 rfl (fM n1) (fM n2) (De n (by omega) rfl)) rfl) (d8 (ρ':=R (L1++[la]) none) (qg (us:=L1.map tL) (t:=tL la) rfl (bend _ _ _ (v+w) (dZ (dZ rfl rfl (uw ws a al)) rfl (gw _ _))) (by simp[L1];omega) rfl) (d8 (ρ':=R (L1++[la]++[lb]) none) (qg (us:=(L1++[la]).map tL) (t:=tL lb) rfl (bend _ _ _ 0 rfl) (by simp[L1];omega) (by simp[R])) (d8 (lR (lB 4 (by omega) rfl) e) rfl))))))),by omega,pL⟩
theorem Nf(n:Nat)(hn:n≤1000){x:T}{g f:Pe→M T}{ρ:Pe}(hx:g ρ=.ok x)(h:f ρ=.ok (.int (n:Int))):fj (jU (fj (lstM (dP g dW))) f) ρ=.ok (.lst (List.replicate n x)):=by
 have sz:1000<sizeLine:=by decide
 have hr:yM (n:Int)=true:=iQ (by omega);have h2:n≤sizeLine:=by omega
 refine fM ?_;unfold jU;rw[tN hx,h];simp[hr,h2,Hx]
theorem NZ(n:Nat)(hn:n≤1000){f:Pe→M T}{ρ:Pe}(h:f ρ=.ok (.int (n:Int))):sO (gX (dP (cM (.int 1)) dW)) f ρ=.ok (tI (List.replicate n 1)):=by
 have sz:1000<sizeLine:=by decide
 have hr:yM (n:Int)=true:=iQ (by omega);have h1:1≤sizeLine:=by decide
 have h2:n≤sizeLine:=by omega
 have e:(List.replicate n [T.int 1]).flatten=(List.replicate n (1:Int)).map T.int:=by rw[Hx,List.map_replicate]
 simp[h,xR,hr,h1,h2,e,tI]
theorem lS{f:Pe→M T}{g:Pe→M (List T)}{ρ:Pe}{x:T}{xs:List T}(h:f ρ=.ok x)(h2:g ρ=.ok xs):dP f g ρ=.ok (x::xs):=by simp only[dP,h,h2,M.bind_ok]
theorem Mv{g:Pe→M (List T)}{ρ:Pe}{xs:List T}(h:g ρ=.ok xs)(hz:xs.length≤sizeLine):lstM g ρ=.ok xs:=by simp only[lstM,h,M.bind_ok,vT,hz,if_true]
theorem N5{ρ:Pe}{F:List T→M T}{f1 f2 f3 f4 f5:Pe→M T}{x1 x2 x3 x4 x5 t:T}(h1:f1 ρ=.ok x1)(h2:f2 ρ=.ok x2)(h3:f3 ρ=.ok x3)(h4:f4 ρ=.ok x4)(h5:f5 ρ=.ok x5)(hr:F [x1,x2,x3,x4,x5]=.ok t):eD (dP f1 (dP f2 (dP f3 (dP f4 (dP f5 dW))))) F ρ=.ok t:=by simp only[eD,dP,dW,h1,h2,h3,h4,h5,hr,M.bind_ok];rfl
theorem Mr{a b:En→O}{ρ:En}{ts:List T}{r:O}(h1:a ρ=.rf ts)(hr:.rf ts=r):eJ a b ρ=r:=by unfold eJ;rw[h1];exact hr
theorem Qu(a b:Str)(ha:(PyData.str a).canLay0=true)(hb:(PyData.str b).canLay0=true):eU false (.str a) (.str b)=.ok (.bl (a == b)):=by simp[eU,mz,CO,pB,ha,hb]
theorem BH:(PyData.str "paper").canLay0=true:=by rw[PyData.canLay0];decide +kernel
theorem L8:(PyData.str "spot").canLay0=true:=by rw[PyData.canLay0];decide +kernel
theorem MB:eU false (.str "paper") (.str "paper")=.ok (.bl true):=by rw[Qu _ _ BH BH];congr 2
theorem NC:eU false (.str "spot") (.str "paper")=.ok (.bl false):=by rw[Qu _ _ L8 BH];congr 2
structure PP(n:Nat)(x:T):Prop where
 ok:yX x=true
 ls:∀ts,x=.lst ts→ts.length<1000∧∀t∈ts,yX t=true
 no:rm n x=false
theorem lU{n:Nat}{ts:List T}(hl:ts.length<1000)(ho:∀t∈ts,yX t=true)(h:ts.length≠n∨∃t∈ts,isInt t=false):PP n (.lst ts):=by
 refine⟨rfl,fun us e=>by cases e;exact⟨hl,ho⟩,?_⟩;show (decide (ts.length=n)&&ts.all isInt)=false;rcases h with h | ⟨t,ht,hi⟩
 ·rw[aA h];rfl
 ·have:ts.all isInt=false:=by
   cases q:ts.all isInt with
   | false=>rfl
   | true=>have:=b6.mp q t ht;rw[hi] at this;cases this
  rw[this];simp
theorem oz{n:Nat}{x:T}(h:yX x=true)(hl:vV x=false):PP n x:=by refine⟨h,fun ts e=>(by rw[e] at hl;cases hl),?_⟩;cases x<;>first | rfl | (simp[vV] at hl;done)
theorem Qc{n:Nat}{x t:T}(hx:yX x=true)(h:t∈List.replicate n x):yX t=true:=by rw[a9 h];exact hx
theorem KD(n:Nat)(hn:1≤n∧n≤8):∃ts:List T,mL c [.int n]=.ok ts∧∀t∈ts,PP n t:=by
 have sz:1000<sizeLine:=by decide
 let z:Nat→List T:=fun m=>List.replicate m (.int 0);let L:List T:=[.non,.int 5,.str "0",.tup (z n),.lst (z (n+1)),.lst (z (n - 1)++[.non]),.emp,.lst (List.replicate n (.bl true)),.lst (List.replicate n (.lst [.int 0]))];have zl:∀m,(z m).length=m:=fun m=>by simp[z]
 have zo:∀m,∀t∈z m,yX t=true:=fun m t h=>Qc rfl h;have hL:∀t∈L,PP n t:=fun t ht=>by
  simp only[L,aE,cx,or_false] at ht;rcases ht with h | h | h | h | h | h | h | h | h<;>rw[h]
  ·exact oz rfl rfl
  ·exact oz rfl rfl
  ·exact oz rfl rfl
  ·exact oz rfl rfl
  ·exact lU (by rw[zl];omega) (zo _) (.inl (by rw[zl];omega))
  ·exact lU (by simp[zl];omega) (fun t ht=>by
    rcases ai.mp ht with q | q
    ·exact zo _ t q
    ·rw[aj.mp q];rfl) (.inr ⟨.non,by simp,rfl⟩)
  ·exact oz rfl rfl
  ·exact lU (by simp;omega) (fun t ht=>Qc rfl ht) (.inr ⟨.bl true,List.mem_replicate.mpr ⟨by omega,rfl⟩,rfl⟩)
  ·exact lU (by simp;omega) (fun t ht=>Qc rfl ht) (.inr ⟨.lst [.int 0],List.mem_replicate.mpr ⟨by omega,rfl⟩,rfl⟩)
 let ρ0:En:=[some (.p (.int n)),none];have sb:∀ρ:Pe,dQ 0 ρ=.ok (.int n)→eC mV (dQ 0) (cM (.int 1)) ρ=.ok (.int ((n - 1:Nat):Int)):=fun ρ h=>dZ h rfl (by rw[jB];congr 2;omega);have zc:∀(ρ:Pe) (x:T),dQ 0 ρ=.ok (.int n)→fj (mR (fj (jU (fj (lstM (dP (cM (.int 0)) dW))) (eC mV (dQ 0) (cM (.int 1))))) (fj (lstM (dP (cM x) dW)))) ρ=.ok (.lst (z (n - 1)++[x])):=fun ρ x h=>fM (lM (v5 (n - 1) (by omega) _ (sb ρ h)) (tN rfl) (by simp[zl];omega));have e1:fj (lstM (dP (cM .non) (dP (cM (.int 5)) (dP (cM (.str "0")) (dP (sO (gX (dP (cM (.int 0)) dW)) (dQ 0)) (dP (fj (jU (fj (lstM (dP (cM (.int 0)) dW))) (eC gB (dQ 0) (cM (.int 1))))) (dP (fj (mR (fj (jU (fj (lstM (dP (cM (.int 0)) dW))) (eC mV (dQ 0) (cM (.int 1))))) (fj (lstM (dP (cM .non) dW))))) (dP (cM .emp) (dP (fj (jU (fj (lstM (dP (cM (.bl true)) dW))) (dQ 0))) (dP (fj (jU (fj (lstM (dP (fj (lstM (dP (cM (.int 0)) dW))) dW))) (dQ 0))) dW)))))))))) (kf ρ0)=.ok (.lst L):=by have t1:=KY n (by omega) (f:=dQ 0) (ρ:=kf ρ0) rfl;have t2:=v5 (n+1) (by omega) (.int 0) (f:=eC gB (dQ 0) (cM (.int 1))) (ρ:=kf ρ0) (dZ rfl rfl (by rw[gw];simp));have t3:=zc (kf ρ0) .non rfl;have t4:=v5 n (by omega) (.bl true) (f:=dQ 0) (ρ:=kf ρ0) rfl;have t5:=Nf n (by omega) (x:=.lst [.int 0]) (g:=fj (lstM (dP (cM (.int 0)) dW))) (f:=dQ 0) (ρ:=kf ρ0) (tN rfl) rfl;rw[List.map_replicate] at t1;exact fM (Mv (lS rfl (lS rfl (lS rfl (lS t1 (lS t2 (lS t3 (lS rfl (lS t4 (lS t5 rfl))))))))) (by show 9≤_;omega))
 let ρ1:En:=[some (.p (.int n)),some (.p (.lst L))];by_cases h1:n=1
 ·let M1:List T:=[.lst [],.lst [.non],.lst [.str "1"]];have e3:fj (lstM (dP (fj (lstM dW)) (dP (fj (lstM (dP (cM .non) dW))) (dP (fj (lstM (dP (cM (.str "1")) dW))) dW)))) (vw ρ1)=.ok (.lst M1):=PU (by simp) (tN rfl) (tN rfl);refine⟨L++M1,lC rfl (d8 (ρ':=ρ1) (eG e1 rfl) (Mr (fG (eK (dZ rfl rfl (by rw[fS,h1];rfl))) (oW (lM rfl e3 (by simp[L,M1];omega)))) rfl)),fun t ht=>?_⟩;rcases ai.mp ht with q | q
  ·exact hL t q
  ·simp only[M1,aE,cx,or_false] at q;rcases q with h | h | h<;>rw[h]
   ·exact lU (by decide) (fun t ht=>nomatch ht) (.inl (by show 0≠n;omega))
   ·exact lU (by decide) (fun t ht=>by rw[aj.mp ht];rfl) (.inr ⟨.non,by simp,rfl⟩)
   ·exact lU (by decide) (fun t ht=>by rw[aj.mp ht];rfl) (.inr ⟨.str "1",by simp,rfl⟩)
 ·let M1:List T:=[.lst (z (n - 1)),.lst (z (n - 1)++[.bl false])];have e3:fj (lstM (dP (fj (jU (fj (lstM (dP (cM (.int 0)) dW))) (eC mV (dQ 0) (cM (.int 1))))) (dP (fj (mR (fj (jU (fj (lstM (dP (cM (.int 0)) dW))) (eC mV (dQ 0) (cM (.int 1))))) (fj (lstM (dP (cM (.bl false)) dW))))) dW))) (vw ρ1)=.ok (.lst M1):=Ql (v5 (n - 1) (by omega) _ (sb (vw ρ1) rfl)) (zc (vw ρ1) (.bl false) rfl);refine⟨L++M1,lC rfl (d8 (ρ':=ρ1) (eG e1 rfl) (d8 (fz (eK (dZ rfl rfl (by rw[fS];simp;omega))) rfl) (oW (lM rfl e3 (by simp[L,M1];omega))))),fun t ht=>?_⟩;rcases ai.mp ht with q | q
  ·exact hL t q
  ·simp only[M1,aE,cx,or_false] at q;rcases q with h | h<;>rw[h]
   ·exact lU (by rw[zl];omega) (zo _) (.inl (by rw[zl];omega))
   ·exact lU (by simp[zl];omega) (fun t ht=>by
     rcases ai.mp ht with q | q
     ·exact zo _ t q
     ·rw[aj.mp q];rfl) (.inr ⟨.bl false,by simp,rfl⟩)
theorem Fg(ns:List Int):AH c [.scr ns]=.ok (.bl true):=by
 have sz:1000<sizeLine:=by decide
 obtain⟨d,us0,ed,hd,g0,l0⟩:=Fc (c:=c) ns 5 (by omega);let R (us:List (List Int)) (x3 x4 x5 x6 x7 x8 x9:Option W):En:=[some (.p (.scr ns)),some (.p (.int d)),some (.p (.lst (us.map tI))),x3,x4,x5,x6,x7,x8,x9];obtain⟨us,e2,gu,nu⟩:∃us:List (List Int),(jy (fN (eC (eU false) (dQ 2) (fj (lstM dW)))) (setO 2 (gE (fj (lstM (dP (eC gB (gX (dP (cM (.int 1)) dW)) (sO (gX (dP (cM (.int 0)) dW)) (dQ 1))) dW))))) fF) (R us0 none none none none none none none)=.nx (R us none none none none none none none)∧Ji d 84 us∧1≤us.length∧us.length≤5:=by
  have hc:fN (eC (eU false) (dQ 2) (fj (lstM dW))) (vw (R us0 none none none none none none none))=.ok us0.isEmpty:=by refine eK (dZ (x:=.lst (us0.map tI)) (y:=.lst []) rfl (by simp) ?_);rw[uv false _ (by simp) (aM (vx _) (by decide))];simp
  by_cases he:us0=[]
  ·let u:List Int:=[1]++List.replicate d 0;refine⟨[u],fG (by rw[hc,he];rfl) (eG (tN (dZ (x:=tI [1]) (y:=tI (List.replicate d 0)) (Od rfl) (KY d (by omega) rfl) (yH _ _ (by simp;omega)))) rfl),⟨fun f hf=>?_,by simp,dA _ _⟩,by simp,by simp⟩;rw[aj.mp hf];refine⟨⟨by simp[u],fun x hx=>?_⟩,0,by omega,by show (1:Int)≠0;decide⟩;rcases ai.mp hx with q | q
   ·rw[aj.mp q];exact Gx
   ·rw[a9 q];exact rj
  ·exact⟨us0,fz (by rw[hc];simp[he]) rfl,g0,by have:=List.length_pos_iff.mpr he;omega,l0⟩
 let n:=us.length;have hn:1≤n∧n≤5:=nu;let xc:Option W:=some (.p (kb c d us));have e3:=Ks (c:=c) d 84 us hd (by decide) gu;obtain⟨cell,hcell⟩:∃cell:Nat→Int,∀k:Nat,fO c [.scr ns,.int (k:Int)]=.ok (.int (cell k)):=⟨fun k=>Classical.choose (nR (c:=c) ns k),fun k=>(Classical.choose_spec (nR (c:=c) ns k)).1⟩;let sgk:Nat→List Int:=fun k=>(List.range n).map fun (j:Nat)=>dr c (cell (8+k)) j 3 - 1;have sgs:∀k,FE n (sgk k):=fun k=>⟨by simp[sgk],fun x hx=>by obtain⟨j,hj,rfl⟩:=aC.mp hx;have:=aR.mp hj;obtain⟨_,a,b⟩:=ia (c:=c) (cell (8+k)) j 3 (by omega) (by omega) (by omega) (by omega);omega⟩
 have e4:iE [none,some 0,some 2] (jh (dP (cM (.int 6)) dW)) (gZ 0) (fun _=>.ok true) (xU c) (kf (R us xc none none none none none none))=.ok (((List.range 6).map sgk).map tI):=by refine gQ (List.range 6) (fun (k:Nat)=>T.int (k:Int)) (fun k=>tI (sgk k)) (lB 6 (by omega) rfl) (by simp;omega) (fun k hk=>⟨_,rfl,rfl,?_⟩) (by rw[aH];rfl);refine mF (ts:=(sgk k).map T.int) (gQ (List.range n) (fun (j:Nat)=>T.int (j:Int)) (fun (j:Nat)=>T.int (dr c (cell (8+k)) j 3 - 1)) (lB n (by omega) (lD rfl (by simp[n]))) (by simp;omega) (fun j hj=>⟨_,rfl,rfl,?_⟩) (by rw[aH];rfl)) rfl;have hj':=aR.mp hj;obtain⟨e,_,_⟩:=ia (c:=c) (cell (8+k)) j 3 (by omega) (by omega) (by omega) (by omega);exact dZ (iP (fX (x:=.scr ns) (y:=.int ((8+k:Nat):Int)) rfl (dZ rfl rfl (by rw[gw];simp)) (hcell (8+k))) rfl rfl e) rfl (jB _ _)
 let m3:=min 3 n;have emin:∀(ρ:Pe) (f:Pe→M T),f ρ=.ok (.int n)→iU mM (dP (cM (.int 3)) (dP f dW)) ρ=.ok (.int (m3:Int)):=fun ρ f hf=>by
  have:mM [.int 3,.int (n:Int)]=.ok (.int (m3:Int)):=by simp[mM,m3];omega
  simpa[iU,dP,dW,hf] using this
 let L2':List (List Int):=(kT m3).map fun s=>s++List.replicate (n - m3) 1;let L:List (List Int):=(List.range 6).map sgk++L2';have hL:∀s∈L,FE n s:=fun s hs=>by
  rcases ai.mp hs with q | q
  ·obtain⟨k,-,rfl⟩:=aC.mp q;exact sgs k
  ·obtain⟨s',h',rfl⟩:=aC.mp q;have:=qV m3 s' h';refine⟨by simp[this.len];omega,fun x hx=>?_⟩;rcases ai.mp hx with q | q
   ·exact this.one x q
   ·rw[a9 q];decide
 have al:(kT m3).length≤27:=by rw[vm];exact aM (cB (by decide) (show m3≤3 by omega)) (by decide)
 have Ll:L.length≤40∧1≤L.length:=by simp[L,L2'];omega
 let x4:Option W:=some (.p (.lst (((List.range 6).map sgk).map tI)));let xL:Option W:=some (.p (.lst (L.map tI)));have e5:iE [none,some 2] (fY (eD (dP (gX (dP (wj (fun i=>.int (-i)) (cM (.int 1))) (dP (cM (.int 0)) (dP (cM (.int 1)) dW)))) (dP (iU mM (dP (cM (.int 3)) (dP (iU iZ (dP (dQ 2) dW)) dW))) dW)) (nv c))) (gZ 0) (fun _=>.ok true) (xo c) (kf (R us xc x4 none none none none none))=.ok (L2'.map tI):=by refine gQ (kT m3) tI (fun s=>tI (s++List.replicate (n - m3) 1)) (uX (fX (x:=tI [-1,0,1]) (P2 rfl rfl rfl) (emin _ _ (lD rfl (by simp[n]))) (BF m3 (by omega)))) (by omega) (fun s hs=>⟨_,rfl,rfl,?_⟩) (by rw[aH];rfl);have:=(qV m3 s hs).len;exact dZ (x:=tI s) rfl (NZ (n - m3) (by omega) (dZ (x:=.int n) (lD rfl (by simp[n])) (emin _ _ (lD rfl (by simp[n]))) (by rw[jB];congr 2;omega))) (yH _ _ (by simp;omega))
 obtain⟨ρ,e6,x5,x6,x7,x8,rfl⟩:=gq (m:=iK 5) (g:=xa c) (fun (k:Nat)=>T.int (k:Int))
  (fun _ ρ=>∃x5 x6 x7 x8:Option W,ρ=R us xc xL x5 x6 x7 x8 none) (List.range L.length) 0 (R us xc xL none none none none none) ⟨none,none,none,none,rfl⟩ (by
   rintro k k' ρ hi ⟨x5,x6,x7,x8,rfl⟩;have hin:k<L.length:=by simpa using (aa.mp hi).1
   have hki:k'=k:=by rw[List.getElem?_range hin] at hi;cases hi;rfl
   subst hki;have hix:fV (.lst (L.map tI)) (.int (k':Int))=.ok (tI L[k']):=Ie _ _ _ (by rw[av,ag hin];rfl);have hsg:=hL L[k'] (aU hin);generalize L[k']=sg at hix hsg;let xk:Option W:=some (.p (.int k'));have rest:∀(fo:T) (ws:List Int) (y8:Option W),ws.length=n→(∀x∈ws,Bn 8000 x)→∃z8,(kM (fY (fj (ig (dP (dQ 7) (dP (eD (dP (dQ 0) (dP (eC gB (cM (.int 15)) (eC rS (dQ 5) (cM (.int 9)))) dW)) (fO c)) dW)) (l8 c)))) (iK 8) (sk c)) (R us xc xL xk (some (.p fo)) (some (.p (tL ws))) y8 none)=.nx (R us xc xL xk (some (.p fo)) (some (.p (tL ws))) z8 none):=fun fo ws y8 hwl hwb=>by
    obtain⟨Lb,eb,lb,hb⟩:=Jd (c:=c) ws n hwl (by omega) hwb (cell (15+k' % 9));obtain⟨ρ,e,z8,rfl⟩:=gq (m:=iK 8) (g:=sk c) tL (fun _ ρ=>∃z8:Option W,ρ=R us xc xL xk (some (.p fo)) (some (.p (tL ws))) z8 none) Lb 0 _ ⟨y8,rfl⟩ (by rintro i l ρ hi ⟨z8,rfl⟩;obtain⟨b1,b2⟩:=hb l (au hi);have:=MV (c:=c) d us hd gu sg hsg l b1 b2;exact⟨_,_,rfl,.inl (fz (nV (eK (N5 rfl rfl rfl (dZ rfl rfl hix) rfl this)) rfl) rfl),_,rfl⟩)
    refine⟨z8,gN (uX (fM (GO (x:=tL ws) rfl (fX (x:=.scr ns) (y:=.int ((15+k' % 9:Nat):Int)) rfl (dZ rfl (dZ rfl rfl (oX (by decide))) ?_) (hcell _)) eb))) e⟩;rw[gw];have:((k':Int).fmod 9)=((k' % 9:Nat):Int):=by rw[Int.fmod_eq_emod_of_nonneg _ (by decide)];simp
    rw[this];simp
   let ones:List Int:=List.replicate n 1;have eo:∀fo,fj (jU (fj (lstM (dP (cM (.int 1)) dW))) (iU iZ (dP (dQ 2) dW))) (kf (R us xc xL xk fo x7 x8 none))=.ok (tL ones):=fun fo=>by have:=v5 n (by omega) (.int 1) (f:=iU iZ (dP (dQ 2) dW)) (ρ:=kf (R us xc xL xk fo x7 x8 none)) (lD rfl (by simp[n]));rw[this];simp[tL,ones]
   rcases Jk (c:=c) d us hd gu sg hsg with⟨ws,eh,hp,hb⟩ | ⟨s,eh,hsp⟩
   ·obtain⟨z8,er⟩:=rest (.tup [.str "paper",tL ws]) ws x8 hp.len hb;exact⟨_,_,rfl,.inl (d8 (ρ':=R us xc xL xk (some (.p (.tup [.str "paper",tL ws]))) x7 x8 none) (eG (fX rfl (dZ rfl rfl hix) eh) rfl) (d8 (ρ':=R us xc xL xk (some (.p (.tup [.str "paper",tL ws]))) (some (.p (tL ones))) x8 none) (eG (eo _) rfl) (d8 (ρ':=R us xc xL xk (some (.p (.tup [.str "paper",tL ws]))) (some (.p (tL ws))) x8 none) (fG (eK (dZ (x:=.str "paper") (dZ rfl rfl rfl) rfl MB)) (eG (dZ rfl rfl rfl) rfl)) er))),_,_,_,_,rfl⟩
   ·obtain⟨z8,er⟩:=rest (.tup [.str "spot",tS s]) ones x8 (by simp[ones]) (fun x hx=>by rw[a9 hx];exact Gx);exact⟨_,_,rfl,.inl (d8 (ρ':=R us xc xL xk (some (.p (.tup [.str "spot",tS s]))) x7 x8 none) (eG (fX rfl (dZ rfl rfl hix) eh) rfl) (d8 (ρ':=R us xc xL xk (some (.p (.tup [.str "spot",tS s]))) (some (.p (tL ones))) x8 none) (eG (eo _) rfl) (d8 (fz (eK (dZ (x:=.str "spot") (dZ rfl rfl rfl) rfl NC)) rfl) er))),_,_,_,_,rfl⟩)
 obtain⟨ts,eo,hts⟩:=KD (c:=c) n (by omega);have h0:fV (.lst (L.map tI)) (.int 0)=.ok (tI L[0]):=Ie _ 0 _ (by rw[av,ag (by omega)];rfl);have hs0:=hL L[0] (aU (by omega));generalize L[0]=sg at h0 hs0;obtain⟨ρ,e7,x9,rfl⟩:=gq (m:=iK 9) (g:=xg c) (fun t=>t) (fun _ ρ=>∃x9:Option W,ρ=R us xc xL x5 x6 x7 x8 x9) ts 0 _ ⟨none,rfl⟩ (by rintro i t ρ hi ⟨x9,rfl⟩;have O:=hts t (au hi);have:=wZ (c:=c) d us (by omega) sg hs0 t O.ok O.ls O.no;exact⟨_,_,rfl,.inl (fz (eK (dZ (iP rfl (dZ rfl rfl h0) rfl this) rfl rfl)) rfl),_,rfl⟩)
 rw[List.map_id'] at e7;exact fw rfl (d8 (Np (t:=.tup [.int d,.lst (us0.map tI)]) (ρ':=R us0 none none none none none none none) (iP rfl rfl rfl ed) rfl) (d8 e2 (d8 (ρ':=R us xc none none none none none none) (eG (fX rfl rfl e3) rfl) (d8 (ρ':=R us xc x4 none none none none none) (eG (fM e4) rfl) (d8 (ρ':=R us xc xL none none none none none) (eG (fM (lM rfl (fM e5) (by simp[L2'];omega))) (by simp[R,xL,L])) (d8 (lR (lB L.length (by omega) (lD rfl (by simp))) e6) (d8 (gN (uX (fM (Ga (lD rfl (by simp[n])) eo))) e7) (eN rfl))))))))
end CL
namespace K12
open PySem L2 L3 CL
def fC(i:Nat):Stmt:=PySem.Challenge.pw_cutlands_k12_papers_looked_at.main.body.getD i (.Pass ⟨0,0,0,0⟩)
structure Er(c:Cs)(K:W.Frag)(mg:Str→Option Value):Prop where
 here:True
 cl_Cutting:Ae K c.Cutting
 na_Cutting_own_cuts:lq K c.Cutting "own_cuts"
 na_Cutting_own_dims:lq K c.Cutting "own_dims"
 mk_Cutting:W.makesIn K c.Cutting=true
 kp_Cutting:W.keepIn K (.ref c.Cutting)=true
 mg_Cutting:mg "Cutting" = some (.ref c.Cutting)
 k_MOST_CUTS:∃t,mg "MOST_CUTS" = some (.int 7 t)
 k_MOST_DIMS:∃t,mg "MOST_DIMS" = some (.int 3 t)
section
variable {P:Program}{w:World}{K:W.Frag}{mg:Str→Option Value}{base:Heap}{c:Cs}
theorem zQ:eF ["thing"] ["thing"] (eg (fC 8)):=by constructor<;>first|rfl|decide +kernel
theorem AJ(D:eI K mg "is_whole" (fC 8))(B:Bs mg)(ER:Er c K mg):ek P w K mg base "is_whole" 1 (gA K (gO c)):=iy D zQ (fun | _,_,_,_,_,_,[_],_=>rfl) fun f cdv A outer s H E hr=>⟨_,(dY (eE (rF (qo "int" (by decide) B.isinstance B.int NA (dO 0)) (oU (F7 (qo "bool" (by decide) B.isinstance B.bool Dj (dO 0)))))))⟩
theorem Bb:eF ["number"] ["number"] (eg (fC 10)):=by constructor<;>first|rfl|decide +kernel
theorem Bf(D:eI K mg "sign_of" (fC 10))(B:Bs mg)(ER:Er c K mg):ek P w K mg base "sign_of" 1 (gA K (jr c)):=
 iy D Bb (fun | _,_,_,_,_,_,[_],_=>rfl) fun f cdv A outer s H E hr=>⟨_,(dS (eY (fZ Ao zK (dO 0) dX) (dY (eE dX)) eM)
  (dS (eY (fZ vj vI (dO 0) dX) (dY (eE (lA dX))) eM)
  (dY (eE dX))))⟩
theorem iW:eF ["one", "other", "rest"] ["one", "other"] (eg (fC 11)):=by constructor<;>first|rfl|decide +kernel
theorem q8(D:eI K mg "common_divisor" (fC 11))(B:Bs mg)(ER:Er c K mg):ek P w K mg base "common_divisor" 1 (gA K (gF c)):=
 iy D iW (fun | _,_,_,_,_,_,[_,_],_=>rfl) fun f cdv A outer s H E hr=>⟨_,(dS (BQ (fun ρ=>match ρ with | _::some (.p (.int j))::_=>j.natAbs+1 | _=>0) PassesOwn.never (j5 hr (dO 1) dX) (dS (eA 2 iW.nd (Or.inl rfl) (oA (dO 0) (dO 1)))
  (dS (eA 0 iW.nd (Or.inl rfl) (dO 1))
  (dY (eA 1 iW.nd (Or.inl rfl) (dO 2))))))
  (dY (eE (eT AB Ih (by rfl) B.abs FH (dN (dO 0) dR)))))⟩
theorem Mh:eF ["numbers", "others"] ["numbers", "others"] (eg (fC 12)):=by constructor<;>first|rfl|decide +kernel
theorem Mi(D:eI K mg "dot" (fC 12))(B:Bs mg)(ER:Er c K mg):ek P w K mg base "dot" 1 (gA K (DQ c)):=iy D Mh (fun | _,_,_,_,_,_,[_,_],_=>rfl) fun f cdv A outer s H E hr=>⟨_,(dY (eE (eT (sj (K:=K) rfl) BU (by rfl) B.sum BC (dN (eL (ib (N:=["one", "other"]) (ix:=[none,none]) rfl (jE B.zip (dN (dO 0) (dN (dO 1) dR))) (iD (N:=["one", "other"]) (ix:=[none,none]) (fun _ h=>eS h) (by rfl)) (gR rfl rfl) (fun _ _ _ _ _=>⟨(lh 2 rfl (fJ (fW 0 (show List.Nodup (α:=Str) ["one", "other"] by decide) (Or.inl rfl)) (fJ (fW 1 (show List.Nodup (α:=Str) ["one", "other"] by decide) (Or.inl rfl)) iN))),fK,(f7 (dO 0) (dO 1))⟩))) dR))))⟩
theorem JL:eF ["one", "other"] ["one", "other"] (eg (fC 20)):=by constructor<;>first|rfl|decide +kernel
theorem Jg(D:eI K mg "less" (fC 20))(B:Bs mg)(ER:Er c K mg):ek P w K mg base "less" 1 (gA K (je c)):=iy D JL (fun | _,_,_,_,_,_,[_,_],_=>rfl) fun f cdv A outer s H E hr=>⟨_,(dY (eE (vE vj vI (f7 (eQ (dO 0) dX) (eQ (dO 1) dX)) (f7 (eQ (dO 1) dX) (eQ (dO 0) dX)))))⟩
theorem zM:eF ["one"] ["one"] (eg (fC 21)):=by constructor<;>first|rfl|decide +kernel
theorem Ab(D:eI K mg "floor_of" (fC 21))(B:Bs mg)(ER:Er c K mg):ek P w K mg base "floor_of" 1 (gA K (jG c)):=iy D zM (fun | _,_,_,_,_,_,[_],_=>rfl) fun f cdv A outer s H E hr=>⟨_,(dY (eE (nG (eQ (dO 0) dX) (eQ (dO 0) dX))))⟩
theorem wD:eF ["one"] ["one"] (eg (fC 22)):=by constructor<;>first|rfl|decide +kernel
theorem wX(D:eI K mg "ceiling_of" (fC 22))(B:Bs mg)(ER:Er c K mg):ek P w K mg base "ceiling_of" 1 (gA K (jt c)):=iy D wD (fun | _,_,_,_,_,_,[_],_=>rfl) fun f cdv A outer s H E hr=>⟨_,(dY (eE (lA (nG (lA (eQ (dO 0) dX)) (eQ (dO 0) dX)))))⟩
theorem kS:eF ["cuts", "rows", "k", "cut", "weights"] ["cuts"] (eg (fC 24)):=by constructor<;>first|rfl|decide +kernel
theorem AV(D:eI K mg "weighted" (fC 24))(B:Bs mg)(ER:Er c K mg):ek P w K mg base "weighted" 1 (pC K (nU c)):=
 wN D kS (fun | _,_,_,_,_,_,[_],_=>rfl) fun f cdv A outer s H E hr=>⟨_,(dS (jd 1 kS.nd (Or.inl rfl) (fE dR))
  (dS (gL PassesOwn.never rfl (KQ B.enumerate (dN (dO 0) dR)) (qh 2 rfl (gM (f6 2 kS.nd (Or.inl rfl)) (gM (f6 3 kS.nd (Or.inl rfl)) l6))) (dS (jd 4 kS.nd (Or.inl rfl) (lu (eL (fE (dN dX dR))) (eT (fU (K:=K)) ir (by rfl) B.len iw (dN (dO 0) dR))))
  (dS (um 4 (pv 4) (dO 2) dX)
  (dY (FP 1 (pv 1) (f9 (dO 3) (jq (iq (K:=K)) jk (by rfl) B.tuple jc (dN (dO 4) dR))))))))
  (dY (oO 1 (pv 1)))))⟩
theorem oI:eF ["pivots", "dims", "taken"] ["pivots", "dims"] (eg (fC 28)):=by constructor<;>first|rfl|decide +kernel
theorem vD(D:eI K mg "free_places" (fC 28))(B:Bs mg)(ER:Er c K mg):ek P w K mg base "free_places" 1 (pC K (kz c)):=
 wN D oI (fun | _,_,_,_,_,_,[_,_],_=>rfl) fun f cdv A outer s H E hr=>⟨_,(dS (eA 2 oI.nd (Or.inr rfl) (eL (ib (N:=["place", "pivot"]) (ix:=[none,none]) rfl (fI (dO 0)) (iD (N:=["place", "pivot"]) (ix:=[none,none]) (fun _ h=>eS h) (by rfl)) (gR rfl rfl) (fun _ _ _ _ _=>⟨(lh 2 rfl (fJ (fW 0 (show List.Nodup (α:=Str) ["place", "pivot"] by decide) (Or.inl rfl)) (fJ (fW 1 (show List.Nodup (α:=Str) ["place", "pivot"] by decide) (Or.inl rfl)) iN))),fK,(dO 0)⟩))))
  (dY (nq (ib (N:=["place", "taken"]) (ix:=[none,some 2]) rfl (tH.pim (iH B.range (dN (dO 1) dR))) (iD (N:=["place", "taken"]) (ix:=[none,some 2]) (fun _ h=>eS h) (by rfl)) (eX rfl) (fun _ _ _ _ _=>⟨(fW 0 (show List.Nodup (α:=Str) ["place", "taken"] by decide) (Or.inl rfl)),(jY (fZ (EY (K:=K)) (N4 true) (dO 0) (dO 1) (by rfl))),(dO 0)⟩)))))⟩
theorem EN:eF ["row", "sign"] ["row", "sign"] (eg (fC 36)):=by constructor<;>first|rfl|decide +kernel
theorem EV(D:eI K mg "turned" (fC 36))(B:Bs mg)(ER:Er c K mg):ek P w K mg base "turned" 1 (gA K (m9 c)):=iy D EN (fun | _,_,_,_,_,_,[_,_],_=>rfl) fun f cdv A outer s H E hr=>⟨_,(dY (eE (jq (iq (K:=K)) jk (by rfl) B.tuple jc (dN (eL (ib (N:=["number", "sign"]) (ix:=[none,some 1]) rfl (fI (dO 0)) (iD (N:=["number", "sign"]) (ix:=[none,some 1]) (fun _ h=>eS h) (by rfl)) (eX rfl) (fun _ _ _ _ _=>⟨(fW 0 (show List.Nodup (α:=Str) ["number", "sign"] by decide) (Or.inl rfl)),fK,(f7 (dO 1) (dO 0))⟩))) dR))))⟩
theorem mq:eF ["cut", "place"] ["cut"] (eg (fC 53)):=by constructor<;>first|rfl|decide +kernel
theorem uL(D:eI K mg "first_place" (fC 53))(B:Bs mg)(ER:Er c K mg):ek P w K mg base "first_place" 1 (gA K (ky c)):=
 iy D mq (fun | _,_,_,_,_,_,[_],_=>rfl) fun f cdv A outer s H E hr=>⟨_,(dS (eA 1 mq.nd (Or.inl rfl) dX)
  (dS (BQ (fun ρ=>match ρ with | some (.p (.tup ts))::_=>ts.length+1 | _=>0) PassesOwn.never (iu hr (eQ (dO 0) (dO 1)) dX) (dY (eA 1 mq.nd (Or.inl rfl) (f9 (dO 1) dX))))
  (dY (eE (dO 1)))))⟩
theorem tX:eF ["self"] ["self"] (eg (jF (fC 57) 1)):=by constructor<;>first|rfl|decide +kernel
theorem tV(D:ke K c.Cutting "dims" "Cutting.dims" (jF (fC 57) 1))(B:Bs mg)(ER:Er c K mg):iT P w K mg base c.Cutting "dims" 1 (gA K (g9 c)):=K4 ER.cl_Cutting D tX (fun | _,_,_,_,_,_,[_],_=>rfl) fun f cdv A outer s H E hr=>⟨_,(dY (eE (Ck rfl ER.cl_Cutting ER.na_Cutting_own_dims (dO 0))))⟩
theorem tz:eF ["self"] ["self"] (eg (jF (fC 57) 2)):=by constructor<;>first|rfl|decide +kernel
theorem tG(D:ke K c.Cutting "cuts" "Cutting.cuts" (jF (fC 57) 2))(B:Bs mg)(ER:Er c K mg):iT P w K mg base c.Cutting "cuts" 1 (pC K (hC c)):=OX ER.cl_Cutting D tz (fun | _,_,_,_,_,_,[_],_=>rfl) fun f cdv A outer s H E hr=>⟨_,(dY (nq (l5 (kg (K:=K)) nr (by rfl) B.list lT (dN (Ck rfl ER.cl_Cutting ER.na_Cutting_own_cuts (dO 0)) dR))))⟩
theorem tM:eF ["self"] ["self"] (eg (jF (fC 57) 3)):=by constructor<;>first|rfl|decide +kernel
theorem t6(D:ke K c.Cutting "many" "Cutting.many" (jF (fC 57) 3))(B:Bs mg)(ER:Er c K mg):iT P w K mg base c.Cutting "many" 1 (gA K (hW c)):=K4 ER.cl_Cutting D tM (fun | _,_,_,_,_,_,[_],_=>rfl) fun f cdv A outer s H E hr=>⟨_,(dY (eE (eT (fU (K:=K)) ir (by rfl) B.len iw (dN (Ck rfl ER.cl_Cutting ER.na_Cutting_own_cuts (dO 0)) dR))))⟩
theorem vz:eF ["_law_script", "_law_k"] ["_law_script", "_law_k"] (eg (fC 59)):=by constructor<;>first|rfl|decide +kernel
theorem uJ(D:eI K mg "_law_cell_at" (fC 59))(B:Bs mg)(ER:Er c K mg):ek P w K mg base "_law_cell_at" 1 (gA K (fO c)):=
 iy D vz (fun | _,_,_,_,_,_,[_,_],_=>rfl) fun f cdv A outer s H E hr=>⟨_,(dS (eY (fZ vj vI (dO 1) (eT (fU (K:=K)) ir (by rfl) B.len iw (dN (dO 0) dR))) (dY (eE (eQ (dO 0) (dO 1)))) eM)
  (dY (eE dX)))⟩
theorem jQ:eF ["_law_cell", "_law_k", "_law_bound", "_law_left", "_law_j", "_law_stir"] ["_law_cell", "_law_k", "_law_bound"] (eg (fC 60)):=by constructor<;>first|rfl|decide +kernel
theorem zG(D:eI K mg "_law_draw" (fC 60))(B:Bs mg)(ER:Er c K mg):ek P w K mg base "_law_draw" 1 (gA K (eV c)):=
 iy D jQ (fun | _,_,_,_,_,_,[_,_,_],_=>rfl) fun f cdv A outer s H E hr=>⟨_,(dS (eY (fZ Dh C8 (dO 0) (Cv dX dX)) (dS (eA 3 jQ.nd (Or.inl rfl) (dO 0))
  (dS (l9 PassesOwn.never rfl (iH B.range (dN (dO 1) dR)) (f6 4 jQ.nd (Or.inl rfl)) (dY (eA 3 jQ.nd (Or.inl rfl) (nG (dO 3) (dO 2)))))
  (dY (eE (oA (dO 3) (dO 2)))))) eM)
  (dS (eA 5 jQ.nd (Or.inl rfl) (oA (f7 (f9 (f9 (oA (dO 0) dX) (f7 dX (dO 1))) dX) dX) dX))
  (dS (eA 5 jQ.nd (Or.inl rfl) (oA (f9 (f9 (f7 (dO 5) (dO 5)) (f7 dX (dO 1))) dX) dX))
  (dY (eE (oA (nG (oA (f7 (dO 5) dX) dX) dX) (dO 2)))))))⟩
theorem ot:eF ["_law_one", "_law_other", "_law_k", "_law_j"] ["_law_one", "_law_other"] (eg (fC 62)):=by constructor<;>first|rfl|decide +kernel
theorem AO(D:eI K mg "_law_same" (fC 62))(B:Bs mg)(ER:Er c K mg):ek P w K mg base "_law_same" 1 (gA K (kc c)):=
 iy D ot (fun | _,_,_,_,_,_,[_,_],_=>rfl) fun f cdv A outer s H E hr=>⟨_,(dS (l9 PassesOwn.never rfl (iH B.range (dN (eT (fU (K:=K)) ir (by rfl) B.len iw (dN (dO 0) dR)) dR)) (f6 2 ot.nd (Or.inl rfl)) (dY (l9 PassesOwn.never rfl (iH B.range (dN (dO 2) dR)) (f6 3 ot.nd (Or.inl rfl)) (dY (eY (j5 hr (f7 (eQ (dO 0) (dO 2)) (eQ (dO 1) (dO 3))) (f7 (eQ (dO 0) (dO 3)) (eQ (dO 1) (dO 2)))) (dY (eE jS)) eM)))))
  (dY (eE jS)))⟩
theorem kK:eF ["_law_cuts_here", "_law_dims", "_law_signs", "_law_weights", "_law_weight", "_law_sign", "_law_totals", "_law_pushing"] ["_law_cuts_here", "_law_dims", "_law_signs", "_law_weights"] (eg (fC 65)):=by constructor<;>first|rfl|decide +kernel
theorem AK(D:eI K mg "_law_none" (fC 65))(B:Bs mg)(ER:Er c K mg):ek P w K mg base "_law_none" 1 (gA K (ml c)):=
 iy D kK (fun | _,_,_,_,_,_,[_,_,_,_],_=>rfl) fun f cdv A outer s H E hr=>⟨_,(dS (gL PassesOwn.never rfl (jE B.zip (dN (dO 3) (dN (dO 2) dR))) (qh 2 rfl (gM (f6 4 kK.nd (Or.inl rfl)) (gM (f6 5 kK.nd (Or.inl rfl)) l6))) (dY (eY (fZ vj vI (f7 (dO 4) (dO 5)) dX) (dY (eE jS)) eM)))
  (dS (qF (N:=["_law_k", "_law_weights", "_law_cuts_here"]) (ix:=[none,some 3,some 0]) 6 kK.nd (Or.inl rfl) rfl (tH.pim (iH B.range (dN (f9 (dO 1) dX) dR))) (iD (N:=["_law_k", "_law_weights", "_law_cuts_here"]) (ix:=[none,some 3,some 0]) (fun _ h=>eS h) (by rfl)) (eX rfl) (fun _ _ _ _ _=>⟨(fW 0 (show List.Nodup (α:=Str) ["_law_k", "_law_weights", "_law_cuts_here"] by decide) (Or.inr rfl)),fK,(eT (sj (K:=K) rfl) BU (by rfl) B.sum BC (dN (eL (ib (N:=["_law_weight", "_law_cut_here", "_law_k"]) (ix:=[none,none,some 0]) rfl (jE B.zip (dN (dO 1) (dN (dO 2) dR))) (iD (N:=["_law_weight", "_law_cut_here", "_law_k"]) (ix:=[none,none,some 0]) (Bv (iD (N:=["_law_k", "_law_weights", "_law_cuts_here"]) (ix:=[none,some 3,some 0]) (fun _ h=>eS h) (by rfl))) (by rfl)) (gR rfl rfl) (fun _ _ _ _ _=>⟨(lh 2 rfl (fJ (fW 0 (show List.Nodup (α:=Str) ["_law_weight", "_law_cut_here", "_law_k"] by decide) (Or.inl rfl)) (fJ (fW 1 (show List.Nodup (α:=Str) ["_law_weight", "_law_cut_here", "_law_k"] by decide) (Or.inl rfl)) iN))),fK,(f7 (dO 0) (eQ (dO 1) (dO 2)))⟩))) dR))⟩) oK)
  (dS (eY (j5 hr (i8 (dO 6) md (mx (dO 1))) (eL (lu (eL (fE (dN dX dR))) (dO 1)))) (dY (eE jS)) eM)
  (dS (qF (N:=["_law_weight", "_law_sign"]) (ix:=[none,none]) 7 kK.nd (Or.inl rfl) rfl (jE B.zip (dN (dO 3) (dN (dO 2) dR))) (iD (N:=["_law_weight", "_law_sign"]) (ix:=[none,none]) (fun _ h=>eS h) (by rfl)) (gR rfl rfl) (fun _ _ _ _ _=>⟨(lh 2 rfl (fJ (fW 0 (show List.Nodup (α:=Str) ["_law_weight", "_law_sign"] by decide) (Or.inl rfl)) (fJ (fW 1 (show List.Nodup (α:=Str) ["_law_weight", "_law_sign"] by decide) (Or.inl rfl)) iN))),(jY (j5 hr (f7 (dO 0) (dO 1)) dX)),(dO 0)⟩) oK)
  (dY (eE (GU (vE Ao zK (eQ (dO 6) (dO 1)) dX) (oU (rF (xu hr (eQ (dO 6) (dO 1)) dX) (oU (C2 hr (dO 7) (eL (fE dR)))))))))))))⟩
theorem jJ:eF ["_law_kinds", "_law_many", "_law_found", "_law_k", "_law_longer", "_law_signs"] ["_law_kinds", "_law_many"] (eg (fC 66)):=by constructor<;>first|rfl|decide +kernel
theorem Bo(D:eI K mg "_law_all" (fC 66))(B:Bs mg)(ER:Er c K mg):ek P w K mg base "_law_all" 1 (gA K (nv c)):=
 iy D jJ (fun | _,_,_,_,_,_,[_,_],_=>rfl) fun f cdv A outer s H E hr=>⟨_,(dS (eA 2 jJ.nd (Or.inl rfl) (eL (fE (dN (gJ dR) dR))))
  (dS (l9 PassesOwn.never rfl (iH B.range (dN (dO 1) dR)) (f6 3 jJ.nd (Or.inl rfl)) (dS (eA 4 jJ.nd (Or.inl rfl) (eL (fE dR)))
  (dS (gL PassesOwn.never rfl (fI (dO 2)) (f6 5 jJ.nd (Or.inr rfl)) (dY (eA 4 jJ.nd (Or.inl rfl) (eL (lx (dO 4) (eL (ib (N:=["_law_kind", "_law_signs"]) (ix:=[none,some 5]) rfl (fI (dO 0)) (iD (N:=["_law_kind", "_law_signs"]) (ix:=[none,some 5]) (fun _ h=>eS h) (by rfl)) (eX rfl) (fun _ _ _ _ _=>⟨(fW 0 (show List.Nodup (α:=Str) ["_law_kind", "_law_signs"] by decide) (Or.inl rfl)),fK,(f9 (dO 1) (gJ (dN (dO 0) dR)))⟩))))))))
  (dY (eA 2 jJ.nd (Or.inl rfl) (dO 4))))))
  (dY (eE (dO 2)))))⟩
theorem rd:eF ["_law_many", "_law_some"] ["_law_many"] (eg (fC 70)):=by constructor<;>first|rfl|decide +kernel
theorem zd(D:eI K mg "_law_odd" (fC 70))(B:Bs mg)(ER:Er c K mg):ek P w K mg base "_law_odd" 1 (pC K (mL c)):=
 wN D rd (fun | _,_,_,_,_,_,[_],_=>rfl) fun f cdv A outer s H E hr=>⟨_,(dS (eA 1 rd.nd (Or.inl rfl) (eL (fE (dN iS (dN dX (dN sD (dN (yi (gJ (dN dX dR)) (dO 0)) (dN (eL (lu (eL (fE (dN dX dR))) (f9 (dO 0) dX))) (dN (eL (lx (eL (lu (eL (fE (dN dX dR))) (lj (dO 0) dX))) (eL (fE (dN iS dR))))) (dN Nc (dN (eL (lu (eL (fE (dN jS dR))) (dO 0))) (dN (eL (lu (eL (fE (dN (eL (fE (dN dX dR))) dR))) (dO 0))) dR))))))))))))
  (dS (eY (iu hr (dO 0) dX) (dY (nq (lx (dO 1) (eL (fE (dN (eL (fE dR)) (dN (eL (fE (dN iS dR))) (dN (eL (fE (dN sD dR))) dR)))))))) eM)
  (dY (nq (lx (dO 1) (eL (fE (dN (eL (lu (eL (fE (dN dX dR))) (lj (dO 0) dX))) (dN (eL (lx (eL (lu (eL (fE (dN dX dR))) (lj (dO 0) dX))) (eL (fE (dN jS dR))))) dR)))))))))⟩
theorem o8:eF ["row", "divisor", "number"] ["row"] (eg (fC 13)):=by constructor<;>first|rfl|decide +kernel
theorem Fi(D:eI K mg "lowest" (fC 13))(B:Bs mg)(ER:Er c K mg)(C_common_divisor:ek P w K mg base "common_divisor" 1 (gA K (gF c))):ek P w K mg base "lowest" 2 (gA K (qI c)):=
 iy D o8 (fun | _,_,_,_,_,_,[_],_=>rfl) fun f cdv A outer s H E hr=>⟨_,(dS (eA 1 o8.nd (Or.inr rfl) dX)
  (dS (gL PassesOwn.never rfl (fI (dO 0)) (f6 2 o8.nd (Or.inl rfl)) (dS (eA 1 o8.nd (Or.inr rfl) (eB C_common_divisor hr (dN (dO 1) (dN (dO 2) dR))))
  (dY (eY (iu hr (dO 1) dX) (dY (eE (dO 0))) eM))))
  (dS (eY (iu hr (dO 1) dX) (dY (eE (dO 0))) eM)
  (dY (eE (jq (iq (K:=K)) jk (by rfl) B.tuple jc (dN (eL (ib (N:=["number", "divisor"]) (ix:=[none,some 1]) rfl (fI (dO 0)) (iD (N:=["number", "divisor"]) (ix:=[none,some 1]) (fun _ h=>eS h) (by rfl)) (eX rfl) (fun _ _ _ _ _=>⟨(fW 0 (show List.Nodup (α:=Str) ["number", "divisor"] by decide) (Or.inl rfl)),fK,(nG (dO 0) (dO 1))⟩))) dR)))))))⟩
theorem yd:eF ["top", "bottom", "divisor"] ["top", "bottom"] (eg (fC 16)):=by constructor<;>first|rfl|decide +kernel
theorem I0(D:eI K mg "made" (fC 16))(B:Bs mg)(ER:Er c K mg)(C_common_divisor:ek P w K mg base "common_divisor" 1 (gA K (gF c))):ek P w K mg base "made" 2 (gA K (oR c)):=
 iy D yd (fun | _,_,_,_,_,_,[_,_],_=>rfl) fun f cdv A outer s H E hr=>⟨_,(dS (eY (iu hr (dO 1) dX) (dY qZ) eM)
  (dS (eA 2 yd.nd (Or.inl rfl) (eB C_common_divisor hr (dN (dO 0) (dN (dO 1) dR))))
  (dS (eY (fZ vj vI (dO 1) dX) (dY (eA 2 yd.nd (Or.inl rfl) (lA (dO 2)))) eM)
  (dY (eE (gJ (dN (nG (dO 0) (dO 2)) (dN (nG (dO 1) (dO 2)) dR))))))))⟩
theorem zP:eF ["many", "thing"] ["many", "thing"] (eg (fC 32)):=by constructor<;>first|rfl|decide +kernel
theorem zS(D:eI K mg "is_signs" (fC 32))(B:Bs mg)(ER:Er c K mg)(C_is_whole:ek P w K mg base "is_whole" 1 (gA K (gO c))):ek P w K mg base "is_signs" 2 (gA K (nM c)):=
 iy D zP (fun | _,_,_,_,_,_,[_,_],_=>rfl) fun f cdv A outer s H E hr=>⟨_,(dS (eY (pJ (oV (iX (ka (qo "tuple" (by decide) B.isinstance B.tuple jc (dO 1)))) (mG (j5 hr (eT (fU (K:=K)) ir (by rfl) B.len iw (dN (dO 1) dR)) (dO 0))))) (dY (eE jS)) eM)
  (dY (eE (eT (mX (K:=K) rfl) vB (by rfl) B.all vh (dN (eL (ib (N:=["sign"]) (ix:=[none]) rfl (fI (dO 1)) (iD (N:=["sign"]) (ix:=[none]) (fun _ h=>eS h) (by rfl)) (eX rfl) (fun _ _ _ _ _=>⟨(fW 0 (show List.Nodup (α:=Str) ["sign"] by decide) (Or.inl rfl)),fK,(rF (eB C_is_whole hr (dN (dO 0) dR)) (oU (Al xO xF xO xF (lA dX) (dO 0) dX)))⟩))) dR)))))⟩
theorem wF:eF ["many", "thing"] ["many", "thing"] (eg (fC 34)):=by constructor<;>first|rfl|decide +kernel
theorem wW(D:eI K mg "is_weights" (fC 34))(B:Bs mg)(ER:Er c K mg)(C_is_whole:ek P w K mg base "is_whole" 1 (gA K (gO c))):ek P w K mg base "is_weights" 2 (gA K (lN c)):=
 iy D wF (fun | _,_,_,_,_,_,[_,_],_=>rfl) fun f cdv A outer s H E hr=>⟨_,(dS (eY (pJ (oV (iX (ka (qo "list" (by decide) B.isinstance B.list lT (dO 1)))) (mG (j5 hr (eT (fU (K:=K)) ir (by rfl) B.len iw (dN (dO 1) dR)) (dO 0))))) (dY (eE jS)) eM)
  (dY (eE (eT (mX (K:=K) rfl) vB (by rfl) B.all vh (dN (eL (ib (N:=["weight"]) (ix:=[none]) rfl (fI (dO 1)) (iD (N:=["weight"]) (ix:=[none]) (fun _ h=>eS h) (by rfl)) (eX rfl) (fun _ _ _ _ _=>⟨(fW 0 (show List.Nodup (α:=Str) ["weight"] by decide) (Or.inl rfl)),fK,(eB C_is_whole hr (dN (dO 0) dR))⟩))) dR)))))⟩
theorem v8:eF ["rows", "weights", "width"] ["rows", "weights", "width"] (eg (fC 35)):=by constructor<;>first|rfl|decide +kernel
theorem vS(D:eI K mg "taken_often" (fC 35))(B:Bs mg)(ER:Er c K mg)(C_dot:ek P w K mg base "dot" 1 (gA K (DQ c))):ek P w K mg base "taken_often" 2 (pC K (kq c)):=wN D v8 (fun | _,_,_,_,_,_,[_,_,_],_=>rfl) fun f cdv A outer s H E hr=>⟨_,(dY (nq (ib (N:=["place", "weights", "rows"]) (ix:=[none,some 1,some 0]) rfl (tH.pim (iH B.range (dN (dO 2) dR))) (iD (N:=["place", "weights", "rows"]) (ix:=[none,some 1,some 0]) (fun _ h=>eS h) (by rfl)) (eX rfl) (fun _ _ _ _ _=>⟨(fW 0 (show List.Nodup (α:=Str) ["place", "weights", "rows"] by decide) (Or.inr rfl)),fK,(eB C_dot hr (dN (dO 1) (dN (eL (ib (N:=["row", "place"]) (ix:=[none,some 0]) rfl (fI (dO 2)) (iD (N:=["row", "place"]) (ix:=[none,some 0]) (Bv (iD (N:=["place", "weights", "rows"]) (ix:=[none,some 1,some 0]) (fun _ h=>eS h) (by rfl))) (by rfl)) (eX rfl) (fun _ _ _ _ _=>⟨(fW 0 (show List.Nodup (α:=Str) ["row", "place"] by decide) (Or.inl rfl)),fK,(eQ (dO 0) (dO 1))⟩))) dR)))⟩))))⟩
theorem ju:eF ["low", "high", "whole"] ["low", "high"] (eg (fC 40)):=by constructor<;>first|rfl|decide +kernel
theorem rV(D:eI K mg "whole_between" (fC 40))(B:Bs mg)(ER:Er c K mg)(C_floor_of:ek P w K mg base "floor_of" 1 (gA K (jG c)))(C_less:ek P w K mg base "less" 1 (gA K (je c)))(C_ceiling_of:ek P w K mg base "ceiling_of" 1 (gA K (jt c))):ek P w K mg base "whole_between" 2 (gA K (iM c)):=
 iy D ju (fun | _,_,_,_,_,_,[_,_],_=>rfl) fun f cdv A outer s H E hr=>⟨_,(dS (eA 2 ju.nd (Or.inl rfl) dX)
  (dS (eY (pJ (mN (fZ ph pk (dO 0) iS) (kX (fZ Dh C8 (eQ (dO 0) dX) dX)))) (dY (eA 2 ju.nd (Or.inl rfl) (f9 (eB C_floor_of hr (dN (dO 0) dR)) dX))) (dY (eY (pJ (mN (fZ ph pk (dO 1) iS) (kX (fZ xO xF (eQ (dO 1) dX) dX)))) (dY (eA 2 ju.nd (Or.inl rfl) (lj (eB C_ceiling_of hr (dN (dO 1) dR)) dX))) eM)))
  (dS (eY (pJ (mN (fZ ph pk (dO 0) iS) (kX (iX (ka (eB C_less hr (dN (dO 0) (dN (gJ (dN (dO 2) (dN dX dR))) dR)))))))) (dY (eE iS)) eM)
  (dS (eY (pJ (mN (fZ ph pk (dO 1) iS) (kX (iX (ka (eB C_less hr (dN (gJ (dN (dO 2) (dN dX dR))) (dN (dO 1) dR)))))))) (dY (eE iS)) eM)
  (dY (eE (dO 2)))))))⟩
theorem lI:eF ["rests", "dims", "rest"] ["rests", "dims"] (eg (fC 43)):=by constructor<;>first|rfl|decide +kernel
theorem pI(D:eI K mg "paper_of_noughts" (fC 43))(B:Bs mg)(ER:Er c K mg)(C_turned:ek P w K mg base "turned" 1 (gA K (m9 c)))(C_sign_of:ek P w K mg base "sign_of" 1 (gA K (jr c))):ek P w K mg base "paper_of_noughts" 2 (gA K (gH c)):=
 iy D lI (fun | _,_,_,_,_,_,[_,_],_=>rfl) fun f cdv A outer s H E hr=>⟨_,(dS (gL PassesOwn.never rfl (fI (dO 0)) (f6 2 lI.nd (Or.inl rfl)) (dY (eY (j5 hr (eQ (dO 2) (dO 1)) dX) (dY (eE (eL (l5 (kg (K:=K)) nr (by rfl) B.list lT (dN (i8 (eB C_turned hr (dN (dO 2) (dN (eB C_sign_of hr (dN (eQ (dO 2) (dO 1)) dR)) dR))) (mx (f9 (dO 1) dX)) md) dR))))) eM)))
  (dY (eE iS)))⟩
theorem yn:eF ["sign", "weight"] ["sign", "weight"] (eg (fC 46)):=by constructor<;>first|rfl|decide +kernel
theorem yj(D:eI K mg "may_weigh" (fC 46))(B:Bs mg)(ER:Er c K mg)(C_sign_of:ek P w K mg base "sign_of" 1 (gA K (jr c))):ek P w K mg base "may_weigh" 2 (gA K (mJ c)):=iy D yn (fun | _,_,_,_,_,_,[_,_],_=>rfl) fun f cdv A outer s H E hr=>⟨_,(dY (eE (GU (xu hr (dO 0) dX) (GU (xu hr (dO 1) dX) (oU (xu hr (eB C_sign_of hr (dN (dO 1) dR)) (dO 0)))))))⟩
theorem Ce:eF ["thing"] ["thing"] (eg (fC 51)):=by constructor<;>first|rfl|decide +kernel
theorem CI(D:eI K mg "is_dims" (fC 51))(B:Bs mg)(ER:Er c K mg)(C_is_whole:ek P w K mg base "is_whole" 1 (gA K (gO c))):ek P w K mg base "is_dims" 2 (gA K (nA c)):=iy D Ce (fun | _,_,_,_,_,_,[_],_=>rfl) fun f cdv A outer s H E hr=>⟨_,(dY (eE (rF (eB C_is_whole hr (dN (dO 0) dR)) (oU (Al xO xF xO xF dX (dO 0) (AI 3 ER.k_MOST_DIMS))))))⟩
theorem Ek:eF ["dims", "thing"] ["dims", "thing"] (eg (fC 52)):=by constructor<;>first|rfl|decide +kernel
theorem Fk(D:eI K mg "is_cut" (fC 52))(B:Bs mg)(ER:Er c K mg)(C_is_whole:ek P w K mg base "is_whole" 1 (gA K (gO c))):ek P w K mg base "is_cut" 2 (gA K (oH c)):=
 iy D Ek (fun | _,_,_,_,_,_,[_,_],_=>rfl) fun f cdv A outer s H E hr=>⟨_,(dS (eY (pJ (oV (iX (ka (qo "tuple" (by decide) B.isinstance B.tuple jc (dO 1)))) (mG (j5 hr (eT (fU (K:=K)) ir (by rfl) B.len iw (dN (dO 1) dR)) (f9 (dO 0) dX))))) (dY (eE jS)) eM)
  (dS (eY (iX (ka (eT (mX (K:=K) rfl) vB (by rfl) B.all vh (dN (eL (ib (N:=["number"]) (ix:=[none]) rfl (fI (dO 1)) (iD (N:=["number"]) (ix:=[none]) (fun _ h=>eS h) (by rfl)) (eX rfl) (fun _ _ _ _ _=>⟨(fW 0 (show List.Nodup (α:=Str) ["number"] by decide) (Or.inl rfl)),fK,(eB C_is_whole hr (dN (dO 0) dR))⟩))) dR)))) (dY (eE jS)) eM)
  (dY (eE (eT (pb (K:=K) rfl) zr (by rfl) B.any yg (dN (eL (ib (N:=["number"]) (ix:=[none]) rfl (fI (i8 (dO 1) md (mx (dO 0)))) (iD (N:=["number"]) (ix:=[none]) (fun _ h=>eS h) (by rfl)) (eX rfl) (fun _ _ _ _ _=>⟨(fW 0 (show List.Nodup (α:=Str) ["number"] by decide) (Or.inl rfl)),fK,(C2 hr (dO 0) dX)⟩))) dR))))))⟩
theorem pR:eF ["one", "other", "place"] ["one", "other"] (eg (fC 54)):=by constructor<;>first|rfl|decide +kernel
theorem wA(D:eI K mg "same_spots" (fC 54))(B:Bs mg)(ER:Er c K mg)(C_first_place:ek P w K mg base "first_place" 1 (gA K (ky c))):ek P w K mg base "same_spots" 2 (gA K (lQ c)):=
 iy D pR (fun | _,_,_,_,_,_,[_,_],_=>rfl) fun f cdv A outer s H E hr=>⟨_,(dS (eA 2 pR.nd (Or.inr rfl) (eB C_first_place hr (dN (dO 0) dR)))
  (dY (eE (eT (mX (K:=K) rfl) vB (by rfl) B.all vh (dN (eL (ib (N:=["mine", "theirs", "other", "place", "one"]) (ix:=[none,none,some 1,some 2,some 0]) rfl (jE B.zip (dN (dO 0) (dN (dO 1) dR))) (iD (N:=["mine", "theirs", "other", "place", "one"]) (ix:=[none,none,some 1,some 2,some 0]) (fun _ h=>eS h) (by rfl)) (gR rfl rfl) (fun _ _ _ _ _=>⟨(lh 2 rfl (fJ (fW 0 (show List.Nodup (α:=Str) ["mine", "theirs", "other", "place", "one"] by decide) (Or.inl rfl)) (fJ (fW 1 (show List.Nodup (α:=Str) ["mine", "theirs", "other", "place", "one"] by decide) (Or.inl rfl)) iN))),fK,(xu hr (f7 (dO 0) (eQ (dO 2) (dO 3))) (f7 (dO 1) (eQ (dO 4) (dO 3))))⟩))) dR)))))⟩
theorem iI:eF ["_law_cell", "_law_dims", "_law_ahead", "_law_numbers", "_law_c", "_law_way", "_law_far"] ["_law_cell", "_law_dims", "_law_ahead"] (eg (fC 63)):=by constructor<;>first|rfl|decide +kernel
theorem B4(D:eI K mg "_law_cut" (fC 63))(B:Bs mg)(ER:Er c K mg)(C_law_draw:ek P w K mg base "_law_draw" 1 (gA K (eV c))):ek P w K mg base "_law_cut" 2 (gA K (nB c)):=
 iy D iI (fun | _,_,_,_,_,_,[_,_,_],_=>rfl) fun f cdv A outer s H E hr=>⟨_,(dS (qF (N:=["_law_j", "_law_cell"]) (ix:=[none,some 0]) 3 iI.nd (Or.inl rfl) rfl (tH.pim (iH B.range (dN (dO 1) dR))) (iD (N:=["_law_j", "_law_cell"]) (ix:=[none,some 0]) (fun _ h=>eS h) (by rfl)) (eX rfl) (fun _ _ _ _ _=>⟨(fW 0 (show List.Nodup (α:=Str) ["_law_j", "_law_cell"] by decide) (Or.inl rfl)),fK,(lj (eB C_law_draw hr (dN (dO 1) (dN (dO 0) (dN dX dR)))) dX)⟩) C9)
  (dS (eY (iu hr (dO 3) (eL (lu (eL (fE (dN dX dR))) (dO 1)))) (dY (um 3 (pv 3) (eB C_law_draw hr (dN (dO 0) (dN dX (dN (dO 1) dR)))) (f9 dX (eB C_law_draw hr (dN (dO 0) (dN dX (dN dX dR))))))) eM)
  (dS (eA 4 iI.nd (Or.inl rfl) (lj (eB C_law_draw hr (dN (dO 0) (dN dX (dN dX dR)))) dX))
  (dS (eA 5 iI.nd (Or.inl rfl) (eB C_law_draw hr (dN (dO 0) (dN dX (dN dX dR)))))
  (dS (eY (pJ (mN (iu hr (dO 5) dX) (kX (j5 hr (dO 2) (eL (fE dR)))))) (dY (jd 3 iI.nd (Or.inl rfl) (l5 (kg (K:=K)) nr (by rfl) B.list lT (dN (i8 (eQ (dO 2) (eB C_law_draw hr (dN (dO 0) (dN dX (dN (eT (fU (K:=K)) ir (by rfl) B.len iw (dN (dO 2) dR)) dR))))) md (mx (dO 1))) dR)))) eM)
  (dS (eY (pJ (oV (iu hr (dO 5) dX) (mG (iu hr (dO 5) dX)))) (dY (qM 4 iI.nd (Or.inl rfl) (eT (sj (K:=K) rfl) BU (by rfl) B.sum BC (dN (eL (ib (N:=["_law_number", "_law_part"]) (ix:=[none,none]) rfl (jE B.zip (dN (dO 3) (dN (eL (fE (dN dX (dN dX (dN (lA dX) dR))))) dR))) (iD (N:=["_law_number", "_law_part"]) (ix:=[none,none]) (fun _ h=>eS h) (by rfl)) (gR rfl rfl) (fun _ _ _ _ _=>⟨(lh 2 rfl (fJ (fW 0 (show List.Nodup (α:=Str) ["_law_number", "_law_part"] by decide) (Or.inl rfl)) (fJ (fW 1 (show List.Nodup (α:=Str) ["_law_number", "_law_part"] by decide) (Or.inl rfl)) iN))),fK,(f7 (dO 0) (dO 1))⟩))) dR)))) eM)
  (dS (eY (iu hr (dO 5) dX) (dS (eA 6 iI.nd (Or.inr rfl) (f7 (f9 dX (eB C_law_draw hr (dN (dO 0) (dN dX (dN (Cv dX dX) dR))))) (eQ (eL (fE (dN dX (dN dX (dN (Cv dX dX) dR))))) (eB C_law_draw hr (dN (dO 0) (dN dX (dN dX dR)))))))
  (dS (qF (N:=["_law_number", "_law_far"]) (ix:=[none,some 6]) 3 iI.nd (Or.inl rfl) rfl (fI (dO 3)) (iD (N:=["_law_number", "_law_far"]) (ix:=[none,some 6]) (fun _ h=>eS h) (by rfl)) (eX rfl) (fun _ _ _ _ _=>⟨(fW 0 (show List.Nodup (α:=Str) ["_law_number", "_law_far"] by decide) (Or.inl rfl)),fK,(f7 (dO 0) (dO 1))⟩) Jb)
  (dY (eA 4 iI.nd (Or.inl rfl) (f9 (f7 (dO 4) (dO 6)) (eB C_law_draw hr (dN (dO 0) (dN dX (dN dX dR))))))))) eM)
  (dY (eE (jq (iq (K:=K)) jk (by rfl) B.tuple jc (dN (eL (lx (dO 3) (eL (fE (dN (dO 4) dR))))) dR)))))))))))⟩
theorem jO:eF ["_law_weights", "_law_cell", "_law_many", "_law_at", "_law_by", "_law_some", "_law_k"] ["_law_weights", "_law_cell"] (eg (fC 69)):=by constructor<;>first|rfl|decide +kernel
theorem AG(D:eI K mg "_law_bent" (fC 69))(B:Bs mg)(ER:Er c K mg)(C_law_draw:ek P w K mg base "_law_draw" 1 (gA K (eV c))):ek P w K mg base "_law_bent" 2 (pC K (l8 c)):=
 wN D jO (fun | _,_,_,_,_,_,[_,_],_=>rfl) fun f cdv A outer s H E hr=>⟨_,(dS (eA 2 jO.nd (Or.inr rfl) (eT (fU (K:=K)) ir (by rfl) B.len iw (dN (dO 0) dR)))
  (dS (eA 3 jO.nd (Or.inl rfl) (eB C_law_draw hr (dN (dO 1) (dN dX (dN (dO 2) dR)))))
  (dS (eA 4 jO.nd (Or.inl rfl) (eQ (eL (fE (dN dX (dN (lA dX) (dN dX dR))))) (eB C_law_draw hr (dN (dO 1) (dN dX (dN dX dR))))))
  (dS (jd 5 jO.nd (Or.inl rfl) (fE (dN (dO 0) (dN (eL (ib (N:=["_law_one"]) (ix:=[none]) rfl (fI (dO 0)) (iD (N:=["_law_one"]) (ix:=[none]) (fun _ h=>eS h) (by rfl)) (eX rfl) (fun _ _ _ _ _=>⟨(fW 0 (show List.Nodup (α:=Str) ["_law_one"] by decide) (Or.inl rfl)),fK,(lA (dO 0))⟩))) (dN (eL (ib (N:=["_law_one"]) (ix:=[none]) rfl (fI (dO 0)) (iD (N:=["_law_one"]) (ix:=[none]) (fun _ h=>eS h) (by rfl)) (eX rfl) (fun _ _ _ _ _=>⟨(fW 0 (show List.Nodup (α:=Str) ["_law_one"] by decide) (Or.inl rfl)),fK,(f7 dX (dO 0))⟩))) (dN (eL (lu (eL (fE (dN dX dR))) (dO 2))) dR))))))
  (dS (mm 5 (pv 5) (eL (lx (eL (lx (i8 (dO 0) md (mx (dO 3))) (eL (fE (dN (f9 (eQ (dO 0) (dO 3)) (dO 4)) dR))))) (i8 (dO 0) (mx (f9 (dO 3) dX)) md))))
  (dS (mm 5 (pv 5) (eL (lx (eL (lx (i8 (dO 0) md (mx (dO 3))) (eL (fE (dN dX dR))))) (i8 (dO 0) (mx (f9 (dO 3) dX)) md))))
  (dS (l9 PassesOwn.never rfl (iH B.range (dN dX dR)) (f6 6 jO.nd (Or.inr rfl)) (dY (mm 5 (pv 5) (eL (ib (N:=["_law_j", "_law_cell", "_law_many", "_law_k"]) (ix:=[none,some 1,some 2,some 6]) rfl (tH.pim (iH B.range (dN (dO 2) dR))) (iD (N:=["_law_j", "_law_cell", "_law_many", "_law_k"]) (ix:=[none,some 1,some 2,some 6]) (fun _ h=>eS h) (by rfl)) (eX rfl) (fun _ _ _ _ _=>⟨(fW 0 (show List.Nodup (α:=Str) ["_law_j", "_law_cell", "_law_many", "_law_k"] by decide) (Or.inl rfl)),fK,(lj (eB C_law_draw hr (dN (dO 1) (dN (f9 (f9 dX (f7 (dO 2) (dO 3))) (dO 0)) (dN dX dR)))) dX)⟩))))))
  (dY (oO 5 (pv 5))))))))))⟩
theorem qr:eF ["row", "other", "place", "often", "other_often"] ["row", "other", "place"] (eg (fC 14)):=by constructor<;>first|rfl|decide +kernel
theorem Ct(D:eI K mg "cleared" (fC 14))(B:Bs mg)(ER:Er c K mg)(C_lowest:ek P w K mg base "lowest" 2 (gA K (qI c)))(C_sign_of:ek P w K mg base "sign_of" 2 (gA K (jr c))):ek P w K mg base "cleared" 3 (gA K (gI c)):=
 iy D qr (fun | _,_,_,_,_,_,[_,_,_],_=>rfl) fun f cdv A outer s H E hr=>⟨_,(dS (eY (iu hr (eQ (dO 0) (dO 2)) dX) (dY (eE (dO 0))) eM)
  (dS (eA 3 qr.nd (Or.inr rfl) (eT AB Ih (by rfl) B.abs FH (dN (eQ (dO 1) (dO 2)) dR)))
  (dS (eA 4 qr.nd (Or.inr rfl) (f7 (lA (eQ (dO 0) (dO 2))) (eB C_sign_of hr (dN (eQ (dO 1) (dO 2)) dR))))
  (dY (eE (eB C_lowest hr (dN (jq (iq (K:=K)) jk (by rfl) B.tuple jc (dN (eL (ib (N:=["mine", "theirs", "often", "other_often"]) (ix:=[none,none,some 3,some 4]) rfl (jE B.zip (dN (dO 0) (dN (dO 1) dR))) (iD (N:=["mine", "theirs", "often", "other_often"]) (ix:=[none,none,some 3,some 4]) (fun _ h=>eS h) (by rfl)) (gR rfl rfl) (fun _ _ _ _ _=>⟨(lh 2 rfl (fJ (fW 0 (show List.Nodup (α:=Str) ["mine", "theirs", "often", "other_often"] by decide) (Or.inl rfl)) (fJ (fW 1 (show List.Nodup (α:=Str) ["mine", "theirs", "often", "other_often"] by decide) (Or.inl rfl)) iN))),fK,(f9 (f7 (dO 2) (dO 0)) (f7 (dO 3) (dO 1)))⟩))) dR)) dR)))))))⟩
theorem F6:eF ["one", "other"] ["one", "other"] (eg (fC 17)):=by constructor<;>first|rfl|decide +kernel
theorem FZ(D:eI K mg "minus" (fC 17))(B:Bs mg)(ER:Er c K mg)(C_made:ek P w K mg base "made" 2 (gA K (oR c))):ek P w K mg base "minus" 3 (gA K (uq c)):=iy D F6 (fun | _,_,_,_,_,_,[_,_],_=>rfl) fun f cdv A outer s H E hr=>⟨_,(dY (eE (eB C_made hr (dN (lj (f7 (eQ (dO 0) dX) (eQ (dO 1) dX)) (f7 (eQ (dO 1) dX) (eQ (dO 0) dX))) (dN (f7 (eQ (dO 0) dX) (eQ (dO 1) dX)) dR)))))⟩
theorem GW:eF ["one", "other"] ["one", "other"] (eg (fC 18)):=by constructor<;>first|rfl|decide +kernel
theorem IA(D:eI K mg "times" (fC 18))(B:Bs mg)(ER:Er c K mg)(C_made:ek P w K mg base "made" 2 (gA K (oR c))):ek P w K mg base "times" 3 (gA K (ue c)):=iy D GW (fun | _,_,_,_,_,_,[_,_],_=>rfl) fun f cdv A outer s H E hr=>⟨_,(dY (eE (eB C_made hr (dN (f7 (eQ (dO 0) dX) (eQ (dO 1) dX)) (dN (f7 (eQ (dO 0) dX) (eQ (dO 1) dX)) dR)))))⟩
theorem JO:eF ["one", "other"] ["one", "other"] (eg (fC 19)):=by constructor<;>first|rfl|decide +kernel
theorem IS(D:eI K mg "over" (fC 19))(B:Bs mg)(ER:Er c K mg)(C_made:ek P w K mg base "made" 2 (gA K (oR c))):ek P w K mg base "over" 3 (gA K (qi c)):=
 iy D JO (fun | _,_,_,_,_,_,[_,_],_=>rfl) fun f cdv A outer s H E hr=>⟨_,(dS (eY (iu hr (eQ (dO 1) dX) dX) (dY qZ) eM)
  (dY (eE (eB C_made hr (dN (f7 (eQ (dO 0) dX) (eQ (dO 1) dX)) (dN (f7 (eQ (dO 0) dX) (eQ (dO 1) dX)) dR))))))⟩
theorem vv:eF ["cutting", "thing"] ["cutting", "thing"] (eg (fC 33)):=by constructor<;>first|rfl|decide +kernel
theorem uA(D:eI K mg "check_signs" (fC 33))(B:Bs mg)(ER:Er c K mg)(C_is_signs:ek P w K mg base "is_signs" 2 (gA K (nM c)))(C_Cutting_many:iT P w K mg base c.Cutting "many" 2 (gA K (hW c))):ek P w K mg base "check_signs" 3 (gA K (iR c)):=iy D vv (fun | _,_,_,_,_,_,[_,_],_=>rfl) fun f cdv A outer s H E hr=>⟨_,(dY (eY (iX (ka (eB C_is_signs hr (dN (zf C_Cutting_many hr (dO 0)) (dN (dO 1) dR))))) (dY qZ) eM))⟩
theorem fR:eF ["low", "high", "floors", "whole", "floor", "rest", "over_rest", "found"] ["low", "high"] (eg (fC 41)):=by constructor<;>first|rfl|decide +kernel
theorem uG(D:eI K mg "one_between" (fC 41))(B:Bs mg)(ER:Er c K mg)(C_whole_between:ek P w K mg base "whole_between" 2 (gA K (iM c)))(C_floor_of:ek P w K mg base "floor_of" 2 (gA K (jG c))):ek P w K mg base "one_between" 3 (gA K (jD c)):=
 iy D fR (fun | _,_,_,_,_,_,[_,_],_=>rfl) fun f cdv A outer s H E hr=>⟨_,(dS (eY (pJ (mN (fZ ph pk (dO 0) iS) (kX (iu hr (dO 0) (dO 1))))) (dY (eE (dO 0))) eM)
  (dS (jd 2 fR.nd (Or.inl rfl) (fE dR))
  (dS (eA 3 fR.nd (Or.inl rfl) (eB C_whole_between hr (dN (dO 0) (dN (dO 1) dR))))
  (dS (BQ (fun ρ=>match ρ with | some (.p (.tup [_,.int a]))::some (.p (.tup [_,.int b]))::_=>a.natAbs+b.natAbs+2 | _=>1) PassesOwn.never (fZ Cq Bu (dO 3) iS) (dS (eA 4 fR.nd (Or.inl rfl) (eB C_floor_of hr (dN (dO 0) dR)))
  (dS (mm 2 (pv 2) (dO 4))
  (dS (eA 5 fR.nd (Or.inl rfl) (lj (eQ (dO 0) dX) (f7 (dO 4) (eQ (dO 0) dX))))
  (dS (eA 6 fR.nd (Or.inl rfl) (OB (iu hr (dO 5) dX) iS (gJ (dN (eQ (dO 0) dX) (dN (dO 5) dR)))))
  (dS (eA 0 fR.nd (Or.inl rfl) (gJ (dN (eQ (dO 1) dX) (dN (lj (eQ (dO 1) dX) (f7 (dO 4) (eQ (dO 1) dX))) dR))))
  (dS (eA 1 fR.nd (Or.inl rfl) (dO 6))
  (dY (eA 3 fR.nd (Or.inl rfl) (eB C_whole_between hr (dN (dO 0) (dN (dO 1) dR))))))))))))
  (dS (eA 7 fR.nd (Or.inl rfl) (gJ (dN (dO 3) (dN dX dR))))
  (dS (M7 2 (gL PassesOwn.never rfl (CU B.reversed (dN (dO 2) dR)) (f6 4 fR.nd (Or.inl rfl)) (dY (eA 7 fR.nd (Or.inl rfl) (gJ (dN (f9 (f7 (dO 4) (eQ (dO 7) dX)) (eQ (dO 7) dX)) (dN (eQ (dO 7) dX) dR)))))))
  (dY (eE (dO 7)))))))))⟩
theorem zA:eF ["dims", "ahead", "thing"] ["dims", "ahead", "thing"] (eg (fC 55)):=by constructor<;>first|rfl|decide +kernel
theorem yk(D:eI K mg "can_stand" (fC 55))(B:Bs mg)(ER:Er c K mg)(C_is_cut:ek P w K mg base "is_cut" 2 (gA K (oH c)))(C_same_spots:ek P w K mg base "same_spots" 2 (gA K (lQ c))):ek P w K mg base "can_stand" 3 (gA K (kP c)):=
 iy D zA (fun | _,_,_,_,_,_,[_,_,_],_=>rfl) fun f cdv A outer s H E hr=>⟨_,(dS (eY (pJ (oV (fZ Dh C8 (eT (fU (K:=K)) ir (by rfl) B.len iw (dN (dO 1) dR)) (AI 7 ER.k_MOST_CUTS)) (mG (iX (ka (eB C_is_cut hr (dN (dO 0) (dN (dO 2) dR)))))))) (dY (eE jS)) eM)
  (dY (eE (F7 (eT (pb (K:=K) rfl) zr (by rfl) B.any yg (dN (eL (ib (N:=["cut", "thing"]) (ix:=[none,some 2]) rfl (fI (dO 1)) (iD (N:=["cut", "thing"]) (ix:=[none,some 2]) (fun _ h=>eS h) (by rfl)) (eX rfl) (fun _ _ _ _ _=>⟨(fW 0 (show List.Nodup (α:=Str) ["cut", "thing"] by decide) (Or.inl rfl)),fK,(eB C_same_spots hr (dN (dO 0) (dN (dO 1) dR)))⟩))) dR))))))⟩
theorem mE:eF ["_law_script", "_law_at", "_law_dims", "_law_many", "_law_found", "_law_k", "_law_cut_here"] ["_law_script", "_law_at", "_law_dims", "_law_many"] (eg (fC 64)):=by constructor<;>first|rfl|decide +kernel
theorem zJ(D:eI K mg "_law_cuts" (fC 64))(B:Bs mg)(ER:Er c K mg)(C_law_cut:ek P w K mg base "_law_cut" 2 (gA K (nB c)))(C_law_cell_at:ek P w K mg base "_law_cell_at" 2 (gA K (fO c)))(C_law_same:ek P w K mg base "_law_same" 2 (gA K (kc c))):ek P w K mg base "_law_cuts" 3 (pC K (nW c)):=
 wN D mE (fun | _,_,_,_,_,_,[_,_,_,_],_=>rfl) fun f cdv A outer s H E hr=>⟨_,(dS (jd 4 mE.nd (Or.inl rfl) (fE dR))
  (dS (l9 PassesOwn.never rfl (iH B.range (dN (dO 3) dR)) (f6 5 mE.nd (Or.inl rfl)) (dS (qM 6 mE.nd (Or.inr rfl) (eB C_law_cut hr (dN (eB C_law_cell_at hr (dN (dO 0) (dN (f9 (dO 1) (dO 5)) dR))) (dN (dO 2) (dN (dO 4) dR)))))
  (dY (eY (iu hr (eL (ib (N:=["_law_other", "_law_cut_here"]) (ix:=[none,some 6]) rfl (fI (dO 4)) (iD (N:=["_law_other", "_law_cut_here"]) (ix:=[none,some 6]) (fun _ h=>eS h) (by rfl)) (eX rfl) (fun _ _ _ _ _=>⟨(fW 0 (show List.Nodup (α:=Str) ["_law_other", "_law_cut_here"] by decide) (Or.inl rfl)),(jY (ka (eB C_law_same hr (dN (dO 1) (dN (dO 0) dR))))),(dO 0)⟩))) (eL (fE dR))) (dY (mm 4 (pv 4) (dO 6))) eM))))
  (dY (oO 4 (pv 4)))))⟩
theorem nI:eF ["row", "pivots", "place", "pivot"] ["row", "pivots"] (eg (fC 25)):=by constructor<;>first|rfl|decide +kernel
theorem B6(D:eI K mg "settled" (fC 25))(B:Bs mg)(ER:Er c K mg)(C_cleared:ek P w K mg base "cleared" 3 (gA K (gI c))):ek P w K mg base "settled" 4 (gA K (jP c)):=
 iy D nI (fun | _,_,_,_,_,_,[_,_],_=>rfl) fun f cdv A outer s H E hr=>⟨_,(dS (gL PassesOwn.never rfl (fI (dO 1)) (qh 2 rfl (gM (f6 2 nI.nd (Or.inl rfl)) (gM (f6 3 nI.nd (Or.inl rfl)) l6))) (dY (eA 0 nI.nd (Or.inl rfl) (eB C_cleared hr (dN (dO 0) (dN (dO 3) (dN (dO 2) dR)))))))
  (dY (eE (dO 0))))⟩
theorem wM:eF ["pivots", "row", "place"] ["pivots", "row", "place"] (eg (fC 26)):=by constructor<;>first|rfl|decide +kernel
theorem wC(D:eI K mg "with_pivot" (fC 26))(B:Bs mg)(ER:Er c K mg)(C_cleared:ek P w K mg base "cleared" 3 (gA K (gI c))):ek P w K mg base "with_pivot" 4 (pC K (jV c)):=wN D wM (fun | _,_,_,_,_,_,[_,_,_],_=>rfl) fun f cdv A outer s H E hr=>⟨_,(dY (nq (lx (eL (ib (N:=["other_place", "pivot", "row", "place"]) (ix:=[none,none,some 1,some 2]) rfl (fI (dO 0)) (iD (N:=["other_place", "pivot", "row", "place"]) (ix:=[none,none,some 1,some 2]) (fun _ h=>eS h) (by rfl)) (gR rfl rfl) (fun _ _ _ _ _=>⟨(lh 2 rfl (fJ (fW 0 (show List.Nodup (α:=Str) ["other_place", "pivot", "row", "place"] by decide) (Or.inl rfl)) (fJ (fW 1 (show List.Nodup (α:=Str) ["other_place", "pivot", "row", "place"] by decide) (Or.inl rfl)) iN))),fK,(gJ (dN (dO 0) (dN (eB C_cleared hr (dN (dO 1) (dN (dO 2) (dN (dO 3) dR)))) dR)))⟩))) (eL (fE (dN (gJ (dN (dO 2) (dN (dO 1) dR))) dR))))))⟩
theorem kZ:eF ["row", "parts", "left", "number", "part"] ["row", "parts"] (eg (fC 29)):=by constructor<;>first|rfl|decide +kernel
theorem Ag(D:eI K mg "left_for" (fC 29))(B:Bs mg)(ER:Er c K mg)(C_minus:ek P w K mg base "minus" 3 (gA K (uq c)))(C_times:ek P w K mg base "times" 3 (gA K (ue c))):ek P w K mg base "left_for" 4 (gA K (jM c)):=
 iy D kZ (fun | _,_,_,_,_,_,[_,_],_=>rfl) fun f cdv A outer s H E hr=>⟨_,(dS (eA 2 kZ.nd (Or.inl rfl) (gJ (dN (eQ (dO 0) (eT (fU (K:=K)) ir (by rfl) B.len iw (dN (dO 1) dR))) (dN dX dR))))
  (dS (gL PassesOwn.never rfl (jE B.zip (dN (dO 0) (dN (dO 1) dR))) (qh 2 rfl (gM (f6 3 kZ.nd (Or.inl rfl)) (gM (f6 4 kZ.nd (Or.inl rfl)) l6))) (dY (eA 2 kZ.nd (Or.inl rfl) (eB C_minus hr (dN (dO 2) (dN (eB C_times hr (dN (gJ (dN (dO 3) (dN dX dR))) (dN (dO 4) dR))) dR))))))
  (dY (eE (dO 2)))))⟩
theorem lZ:eF ["rows", "dims", "place", "most", "told", "row", "one", "other", "joined"] ["rows", "dims", "place", "most"] (eg (fC 37)):=by constructor<;>first|rfl|decide +kernel
theorem EC(D:eI K mg "shadow" (fC 37))(B:Bs mg)(ER:Er c K mg)(C_cleared:ek P w K mg base "cleared" 3 (gA K (gI c))):ek P w K mg base "shadow" 4 (pC K (qK c)):=
 wN D lZ (fun | _,_,_,_,_,_,[_,_,_,_],_=>rfl) fun f cdv A outer s H E hr=>⟨_,(dS (Hg 4 lZ.nd (Or.inl rfl))
  (dS (gL PassesOwn.never rfl (fI (dO 0)) (f6 5 lZ.nd (Or.inl rfl)) (dY (eY (iu hr (eQ (dO 5) (dO 2)) dX) (dY (Ad 4 hr (pv 4) (dO 5) jS)) eM)))
  (dS (gL PassesOwn.never rfl (fI (eL (ib (N:=["row", "place"]) (ix:=[none,some 2]) rfl (fI (dO 0)) (iD (N:=["row", "place"]) (ix:=[none,some 2]) (fun _ h=>eS h) (by rfl)) (eX rfl) (fun _ _ _ _ _=>⟨(fW 0 (show List.Nodup (α:=Str) ["row", "place"] by decide) (Or.inl rfl)),(jY (fZ Ao zK (eQ (dO 0) (dO 1)) dX)),(dO 0)⟩)))) (f6 6 lZ.nd (Or.inl rfl)) (dY (gL PassesOwn.never rfl (fI (eL (ib (N:=["row", "place"]) (ix:=[none,some 2]) rfl (fI (dO 0)) (iD (N:=["row", "place"]) (ix:=[none,some 2]) (fun _ h=>eS h) (by rfl)) (eX rfl) (fun _ _ _ _ _=>⟨(fW 0 (show List.Nodup (α:=Str) ["row", "place"] by decide) (Or.inl rfl)),(jY (fZ vj vI (eQ (dO 0) (dO 1)) dX)),(dO 0)⟩)))) (f6 7 lZ.nd (Or.inl rfl)) (dS (eA 8 lZ.nd (Or.inl rfl) (eB C_cleared hr (dN (dO 6) (dN (dO 7) (dN (dO 2) dR)))))
  (dY (eY (fZ xO xF (eT (fU (K:=K)) ir (by rfl) B.len iw (dN (eL (ib (N:=["weight"]) (ix:=[none]) rfl (fI (i8 (dO 8) (mx (f9 (dO 1) dX)) md)) (iD (N:=["weight"]) (ix:=[none]) (fun _ h=>eS h) (by rfl)) (eX rfl) (fun _ _ _ _ _=>⟨(fW 0 (show List.Nodup (α:=Str) ["weight"] by decide) (Or.inl rfl)),(jY (j5 hr (dO 0) dX)),(dO 0)⟩))) dR)) (dO 3)) (dY (Ad 4 hr (pv 4) (dO 8) jS)) eM))))))
  (dY (Gk 4 rfl B.list (pv 4))))))⟩
theorem mQ:eF ["cutting", "signs", "thing", "dims", "come_to"] ["cutting", "signs", "thing"] (eg (fC 47)):=by constructor<;>first|rfl|decide +kernel
theorem wI(D:eI K mg "shows_none" (fC 47))(B:Bs mg)(ER:Er c K mg)(C_check_signs:ek P w K mg base "check_signs" 3 (gA K (iR c)))(C_Cutting_dims:iT P w K mg base c.Cutting "dims" 3 (gA K (g9 c)))(C_taken_often:ek P w K mg base "taken_often" 3 (pC K (kq c)))(C_is_weights:ek P w K mg base "is_weights" 3 (gA K (lN c)))(C_Cutting_cuts:iT P w K mg base c.Cutting "cuts" 3 (pC K (hC c)))(C_Cutting_many:iT P w K mg base c.Cutting "many" 3 (gA K (hW c)))(C_may_weigh:ek P w K mg base "may_weigh" 3 (gA K (mJ c))):ek P w K mg base "shows_none" 4 (gA K (iJ c)):=
 iy D mQ (fun | _,_,_,_,_,_,[_,_,_],_=>rfl) fun f cdv A outer s H E hr=>⟨_,(dS (zY (eB C_check_signs hr (dN (dO 0) (dN (dO 1) dR))))
  (dS (eY (iX (ka (eB C_is_weights hr (dN (zf C_Cutting_many hr (dO 0)) (dN (dO 2) dR))))) (dY (eE jS)) eM)
  (dS (eY (iX (ka (eT (mX (K:=K) rfl) vB (by rfl) B.all vh (dN (eL (ib (N:=["sign", "weight"]) (ix:=[none,none]) rfl (jE B.zip (dN (dO 1) (dN (dO 2) dR))) (iD (N:=["sign", "weight"]) (ix:=[none,none]) (fun _ h=>eS h) (by rfl)) (gR rfl rfl) (fun _ _ _ _ _=>⟨(lh 2 rfl (fJ (fW 0 (show List.Nodup (α:=Str) ["sign", "weight"] by decide) (Or.inl rfl)) (fJ (fW 1 (show List.Nodup (α:=Str) ["sign", "weight"] by decide) (Or.inl rfl)) iN))),fK,(eB C_may_weigh hr (dN (dO 0) (dN (dO 1) dR)))⟩))) dR)))) (dY (eE jS)) eM)
  (dS (eA 3 mQ.nd (Or.inl rfl) (zf C_Cutting_dims hr (dO 0)))
  (dS (eA 4 mQ.nd (Or.inl rfl) (eL (kD C_taken_often hr (dN (eL (FR C_Cutting_cuts hr (dO 0))) (dN (dO 2) (dN (f9 (dO 3) dX) dR))))))
  (dS (eY (ka (eT (pb (K:=K) rfl) zr (by rfl) B.any yg (dN (i8 (dO 4) md (mx (dO 3))) dR))) (dY (eE jS)) eM)
  (dS (eY (j5 hr (eQ (dO 4) (dO 3)) dX) (dY (eE (vE Ao zK (eQ (dO 4) (dO 3)) dX))) eM)
  (dY (eE (eT (pb (K:=K) rfl) zr (by rfl) B.any yg (dN (eL (ib (N:=["sign", "weight"]) (ix:=[none,none]) rfl (jE B.zip (dN (dO 1) (dN (dO 2) dR))) (iD (N:=["sign", "weight"]) (ix:=[none,none]) (fun _ h=>eS h) (by rfl)) (gR rfl rfl) (fun _ _ _ _ _=>⟨(lh 2 rfl (fJ (fW 0 (show List.Nodup (α:=Str) ["sign", "weight"] by decide) (Or.inl rfl)) (fJ (fW 1 (show List.Nodup (α:=Str) ["sign", "weight"] by decide) (Or.inl rfl)) iN))),fK,(rF (C2 hr (dO 0) dX) (oU (C2 hr (dO 1) dX)))⟩))) dR)))))))))))⟩
theorem lE:eF ["dims", "things", "ahead", "thing"] ["dims", "things"] (eg (fC 56)):=by constructor<;>first|rfl|decide +kernel
theorem tK(D:eI K mg "checked_cuts" (fC 56))(B:Bs mg)(ER:Er c K mg)(C_is_dims:ek P w K mg base "is_dims" 3 (gA K (nA c)))(C_can_stand:ek P w K mg base "can_stand" 3 (gA K (kP c))):ek P w K mg base "checked_cuts" 4 (gA K (jb c)):=
 iy D lE (fun | _,_,_,_,_,_,[_,_],_=>rfl) fun f cdv A outer s H E hr=>⟨_,(dS (eY (pJ (oV (iX (ka (eB C_is_dims hr (dN (dO 0) dR)))) (mG (iX (ka (qo "list" (by decide) B.isinstance B.list lT (dO 1))))))) (dY qZ) eM)
  (dS (jd 2 lE.nd (Or.inl rfl) (fE dR))
  (dS (gL PassesOwn.never rfl (fI (dO 1)) (f6 3 lE.nd (Or.inl rfl)) (dS (eY (iX (ka (eB C_can_stand hr (dN (dO 0) (dN (dO 2) (dN (dO 3) dR)))))) (dY qZ) eM)
  (dY (mm 2 (pv 2) (jq (iq (K:=K)) jk (by rfl) B.tuple jc (dN (dO 3) dR))))))
  (dY (eE (jq (iq (K:=K)) jk (by rfl) B.tuple jc (dN (dO 2) dR)))))))⟩
theorem jf:eF ["_law_script", "_law_at", "_law_most", "_law_cell", "_law_dims", "_law_many"] ["_law_script", "_law_at", "_law_most"] (eg (fC 67)):=by constructor<;>first|rfl|decide +kernel
theorem uQ(D:eI K mg "_law_drawn" (fC 67))(B:Bs mg)(ER:Er c K mg)(C_law_cell_at:ek P w K mg base "_law_cell_at" 3 (gA K (fO c)))(C_law_draw:ek P w K mg base "_law_draw" 3 (gA K (eV c)))(C_law_cuts:ek P w K mg base "_law_cuts" 3 (pC K (nW c))):ek P w K mg base "_law_drawn" 4 (gA K (ko c)):=
 iy D jf (fun | _,_,_,_,_,_,[_,_,_],_=>rfl) fun f cdv A outer s H E hr=>⟨_,(dS (eA 3 jf.nd (Or.inl rfl) (eB C_law_cell_at hr (dN (dO 0) (dN (dO 1) dR))))
  (dS (eA 4 jf.nd (Or.inl rfl) (f9 dX (eB C_law_draw hr (dN (dO 3) (dN dX (dN dX dR))))))
  (dS (eA 5 jf.nd (Or.inl rfl) (eB C_law_draw hr (dN (dO 3) (dN dX (dN (f9 (dO 2) dX) dR)))))
  (dS (eY (iu hr (dO 4) dX) (dY (eA 5 jf.nd (Or.inl rfl) (eT (rK rfl) yB (by rfl) B.min BB (dN (dO 5) (dN dX dR))))) eM)
  (dY (eE (gJ (dN (dO 4) (dN (eL (kD C_law_cuts hr (dN (dO 0) (dN (f9 (dO 1) dX) (dN (dO 4) (dN (dO 5) dR)))))) dR)))))))))⟩
theorem gx:eF ["rows", "dims", "pivots", "rests", "row", "left", "places"] ["rows", "dims"] (eg (fC 27)):=by constructor<;>first|rfl|decide +kernel
theorem pE(D:eI K mg "pivots_and_rests" (fC 27))(B:Bs mg)(ER:Er c K mg)(C_settled:ek P w K mg base "settled" 4 (gA K (jP c)))(C_with_pivot:ek P w K mg base "with_pivot" 4 (pC K (jV c))):ek P w K mg base "pivots_and_rests" 5 (gA K (iF c)):=
 iy D gx (fun | _,_,_,_,_,_,[_,_],_=>rfl) fun f cdv A outer s H E hr=>⟨_,(dS (eA 2 gx.nd (Or.inl rfl) (eL (fE dR)))
  (dS (jd 3 gx.nd (Or.inl rfl) (fE dR))
  (dS (gL PassesOwn.never rfl (fI (dO 0)) (f6 4 gx.nd (Or.inl rfl)) (dS (eA 5 gx.nd (Or.inr rfl) (eB C_settled hr (dN (dO 4) (dN (dO 2) dR))))
  (dS (qF (N:=["place", "left"]) (ix:=[none,some 5]) 6 gx.nd (Or.inl rfl) rfl (tH.pim (iH B.range (dN (dO 1) dR))) (iD (N:=["place", "left"]) (ix:=[none,some 5]) (fun _ h=>eS h) (by rfl)) (eX rfl) (fun _ _ _ _ _=>⟨(fW 0 (show List.Nodup (α:=Str) ["place", "left"] by decide) (Or.inl rfl)),(jY (j5 hr (eQ (dO 1) (dO 0)) dX)),(dO 0)⟩) oK)
  (dY (eY (iu hr (dO 6) (eL (fE dR))) (dY (mm 3 (pv 3) (dO 5))) (dY (eA 2 gx.nd (Or.inl rfl) (eL (kD C_with_pivot hr (dN (dO 2) (dN (dO 5) (dN (eQ (dO 6) dX) dR))))))))))))
  (dY (eE (gJ (dN (dO 2) (dN (dO 3) dR))))))))⟩
theorem o7:eF ["pivots", "parts", "spot", "place", "pivot"] ["pivots", "parts"] (eg (fC 30)):=by constructor<;>first|rfl|decide +kernel
theorem Ee(D:eI K mg "filled" (fC 30))(B:Bs mg)(ER:Er c K mg)(C_over:ek P w K mg base "over" 4 (gA K (qi c)))(C_left_for:ek P w K mg base "left_for" 4 (gA K (jM c))):ek P w K mg base "filled" 5 (gA K (qT c)):=
 iy D o7 (fun | _,_,_,_,_,_,[_,_],_=>rfl) fun f cdv A outer s H E hr=>⟨_,(dS (jd 2 o7.nd (Or.inl rfl) (l5 (kg (K:=K)) nr (by rfl) B.list lT (dN (dO 1) dR)))
  (dS (gL PassesOwn.never rfl (fI (dO 0)) (qh 2 rfl (gM (f6 3 o7.nd (Or.inl rfl)) (gM (f6 4 o7.nd (Or.inl rfl)) l6))) (dY (um 2 (pv 2) (dO 3) (eB C_over hr (dN (eB C_left_for hr (dN (dO 4) (dN (dO 1) dR))) (dN (gJ (dN (eQ (dO 4) (dO 3)) (dN dX dR))) dR))))))
  (dY (eE (jq (iq (K:=K)) jk (by rfl) B.tuple jc (dN (dO 2) dR))))))⟩
theorem nT:eF ["rows", "dims", "places", "pivots", "layers", "place", "most"] ["rows", "dims", "places", "pivots"] (eg (fC 38)):=by constructor<;>first|rfl|decide +kernel
theorem Cy(D:eI K mg "shadows" (fC 38))(B:Bs mg)(ER:Er c K mg)(C_shadow:ek P w K mg base "shadow" 4 (pC K (qK c))):ek P w K mg base "shadows" 5 (pC K (oZ c)):=
 wN D nT (fun | _,_,_,_,_,_,[_,_,_,_],_=>rfl) fun f cdv A outer s H E hr=>⟨_,(dS (jd 4 nT.nd (Or.inl rfl) (fE (dN (dO 0) dR)))
  (dS (gL PassesOwn.never rfl (fI (dO 2)) (f6 5 nT.nd (Or.inl rfl)) (dS (qM 6 nT.nd (Or.inl rfl) (f9 (f9 (eT (fU (K:=K)) ir (by rfl) B.len iw (dN (dO 4) dR)) dX) (eT (fU (K:=K)) ir (by rfl) B.len iw (dN (dO 3) dR))))
  (dY (Fe 4 (pv 4) (kD C_shadow hr (dN (eQ (dO 4) (lA dX)) (dN (dO 1) (dN (dO 5) (dN (dO 6) dR)))))))))
  (dY (oO 4 (pv 4)))))⟩
theorem jH:eF ["rows", "place", "parts", "low", "high", "row", "end"] ["rows", "place", "parts"] (eg (fC 39)):=by constructor<;>first|rfl|decide +kernel
theorem BS(D:eI K mg "ends_at" (fC 39))(B:Bs mg)(ER:Er c K mg)(C_over:ek P w K mg base "over" 4 (gA K (qi c)))(C_left_for:ek P w K mg base "left_for" 4 (gA K (jM c)))(C_less:ek P w K mg base "less" 4 (gA K (je c))):ek P w K mg base "ends_at" 5 (gA K (nh c)):=
 iy D jH (fun | _,_,_,_,_,_,[_,_,_],_=>rfl) fun f cdv A outer s H E hr=>⟨_,(dS (eA 3 jH.nd (Or.inl rfl) iS)
  (dS (eA 4 jH.nd (Or.inl rfl) iS)
  (dS (gL PassesOwn.never rfl (fI (dO 0)) (f6 5 jH.nd (Or.inl rfl)) (dY (eY (j5 hr (eQ (dO 5) (dO 1)) dX) (dS (eA 6 jH.nd (Or.inl rfl) (eB C_over hr (dN (eB C_left_for hr (dN (dO 5) (dN (dO 2) dR))) (dN (gJ (dN (eQ (dO 5) (dO 1)) (dN dX dR))) dR))))
  (dS (eY (pJ (mN (fZ Ao zK (eQ (dO 5) (dO 1)) dX) (kX (pJ (oV (fZ Cq Bu (dO 3) iS) (mG (ka (eB C_less hr (dN (dO 3) (dN (dO 6) dR)))))))))) (dY (eA 3 jH.nd (Or.inl rfl) (dO 6))) eM)
  (dY (eY (pJ (mN (fZ vj vI (eQ (dO 5) (dO 1)) dX) (kX (pJ (oV (fZ Cq Bu (dO 4) iS) (mG (ka (eB C_less hr (dN (dO 6) (dN (dO 4) dR)))))))))) (dY (eA 4 jH.nd (Or.inl rfl) (dO 6))) eM)))) eM)))
  (dY (eE (gJ (dN (dO 3) (dN (dO 4) dR))))))))⟩
theorem tY:eF ["self", "dims", "cuts"] ["self", "dims", "cuts"] (eg (jF (fC 57) 0)):=by constructor<;>first|rfl|decide +kernel
theorem tQ(D:ke K c.Cutting "__init__" "Cutting.__init__" (jF (fC 57) 0))(B:Bs mg)(ER:Er c K mg)(C_checked_cuts:ek P w K mg base "checked_cuts" 4 (gA K (jb c))):Aj P w K mg base "Cutting" c.Cutting 5 (E3 K c.Cutting (jg c)):=M4 ER.cl_Cutting ER.na_Cutting_own_cuts ER.na_Cutting_own_dims (by decide) D tY ER.mk_Cutting ER.kp_Cutting ER.mg_Cutting rfl (fun | _,_,_,_,_,_,[_,_,_],_=>rfl) fun f cdv A outer s H E hr=>P9 rfl (pv 0) (eB C_checked_cuts hr (dN (dO 1) (dN (dO 2) dR))) (pv 0) (dO 1)
theorem sN:eF ["_law_cutting", "_law_cuts_here", "_law_dims", "_law_signs", "_law_weights", "_law_found"] ["_law_cutting", "_law_cuts_here", "_law_dims", "_law_signs", "_law_weights"] (eg (fC 68)):=by constructor<;>first|rfl|decide +kernel
theorem AQ(D:eI K mg "_law_is" (fC 68))(B:Bs mg)(ER:Er c K mg)(C_shows_none:ek P w K mg base "shows_none" 4 (gA K (iJ c)))(C_law_none:ek P w K mg base "_law_none" 4 (gA K (ml c))):ek P w K mg base "_law_is" 5 (gA K (nC c)):=
 iy D sN (fun | _,_,_,_,_,_,[_,_,_,_,_],_=>rfl) fun f cdv A outer s H E hr=>⟨_,(dS (eA 5 sN.nd (Or.inl rfl) (eB C_shows_none hr (dN (dO 0) (dN (dO 3) (dN (dO 4) dR)))))
  (dY (eE (rF (qo "bool" (by decide) B.isinstance B.bool Dj (dO 5)) (oU (xu hr (dO 5) (eB C_law_none hr (dN (dO 1) (dN (dO 2) (dN (dO 3) (dN (dO 4) dR)))))))))))⟩
theorem iO:eF ["layers", "places", "parts", "chosen", "number", "place", "ends"] ["layers", "places", "parts"] (eg (fC 42)):=by constructor<;>first|rfl|decide +kernel
theorem tF(D:eI K mg "parts_within" (fC 42))(B:Bs mg)(ER:Er c K mg)(C_ends_at:ek P w K mg base "ends_at" 5 (gA K (nh c)))(C_one_between:ek P w K mg base "one_between" 5 (gA K (jD c))):ek P w K mg base "parts_within" 6 (pC K (j4 c)):=
 wN D iO (fun | _,_,_,_,_,_,[_,_,_],_=>rfl) fun f cdv A outer s H E hr=>⟨_,(dS (jd 3 iO.nd (Or.inl rfl) (l5 (kg (K:=K)) nr (by rfl) B.list lT (dN (dO 2) dR)))
  (dS (gL PassesOwn.never rfl (CU B.reversed (dN (eL (OA rfl B.list B.enumerate (dN (dO 1) dR))) dR)) (qh 2 rfl (gM (f6 4 iO.nd (Or.inl rfl)) (gM (f6 5 iO.nd (Or.inl rfl)) l6))) (dS (qM 6 iO.nd (Or.inl rfl) (eB C_ends_at hr (dN (eQ (dO 0) (dO 4)) (dN (dO 5) (dN (dO 3) dR)))))
  (dY (um 3 (pv 3) (dO 5) (eB C_one_between hr (dN (eQ (dO 6) dX) (dN (eQ (dO 6) dX) dR)))))))
  (dY (oO 3 (pv 3)))))⟩
theorem fL:eF ["cuts", "dims", "signs", "rows", "found", "paper", "pivots", "sided", "places", "layers", "row"] ["cuts", "dims", "signs"] (eg (fC 44)):=by constructor<;>first|rfl|decide +kernel
theorem pD(D:eI K mg "parts_or_weights" (fC 44))(B:Bs mg)(ER:Er c K mg)(C_weighted:ek P w K mg base "weighted" 6 (pC K (nU c)))(C_pivots_and_rests:ek P w K mg base "pivots_and_rests" 6 (gA K (iF c)))(C_paper_of_noughts:ek P w K mg base "paper_of_noughts" 6 (gA K (gH c)))(C_free_places:ek P w K mg base "free_places" 6 (pC K (kz c)))(C_shadows:ek P w K mg base "shadows" 6 (pC K (oZ c)))(C_settled:ek P w K mg base "settled" 6 (gA K (jP c)))(C_filled:ek P w K mg base "filled" 6 (gA K (qT c)))(C_turned:ek P w K mg base "turned" 6 (gA K (m9 c)))(C_parts_within:ek P w K mg base "parts_within" 6 (pC K (j4 c))):ek P w K mg base "parts_or_weights" 7 (gA K (gK c)):=
 iy D fL (fun | _,_,_,_,_,_,[_,_,_],_=>rfl) fun f cdv A outer s H E hr=>⟨_,(dS (eA 3 fL.nd (Or.inl rfl) (eL (kD C_weighted hr (dN (dO 0) dR))))
  (dS (eA 4 fL.nd (Or.inl rfl) (eB C_pivots_and_rests hr (dN (eL (ib (N:=["row", "sign"]) (ix:=[none,none]) rfl (jE B.zip (dN (dO 3) (dN (dO 2) dR))) (iD (N:=["row", "sign"]) (ix:=[none,none]) (fun _ h=>eS h) (by rfl)) (gR rfl rfl) (fun _ _ _ _ _=>⟨(lh 2 rfl (fJ (fW 0 (show List.Nodup (α:=Str) ["row", "sign"] by decide) (Or.inl rfl)) (fJ (fW 1 (show List.Nodup (α:=Str) ["row", "sign"] by decide) (Or.inl rfl)) iN))),(jY (iu hr (dO 1) dX)),(dO 0)⟩))) (dN (dO 1) dR))))
  (dS (eA 5 fL.nd (Or.inl rfl) (eB C_paper_of_noughts hr (dN (eQ (dO 4) dX) (dN (dO 1) dR))))
  (dS (eY (fZ ph pk (dO 5) iS) (dY (eE (gJ (dN sD (dN (dO 5) dR))))) eM)
  (dS (eA 6 fL.nd (Or.inr rfl) (eQ (dO 4) dX))
  (dS (qF (N:=["row", "sign", "pivots"]) (ix:=[none,none,some 6]) 7 fL.nd (Or.inl rfl) rfl (jE B.zip (dN (dO 3) (dN (dO 2) dR))) (iD (N:=["row", "sign", "pivots"]) (ix:=[none,none,some 6]) (fun _ h=>eS h) (by rfl)) (gR rfl rfl) (fun _ _ _ _ _=>⟨(lh 2 rfl (fJ (fW 0 (show List.Nodup (α:=Str) ["row", "sign", "pivots"] by decide) (Or.inl rfl)) (fJ (fW 1 (show List.Nodup (α:=Str) ["row", "sign", "pivots"] by decide) (Or.inl rfl)) iN))),(jY (j5 hr (dO 1) dX)),(eB C_settled hr (dN (eB C_turned hr (dN (dO 0) (dN (dO 1) dR))) (dN (dO 2) dR)))⟩) oK)
  (dS (eA 8 fL.nd (Or.inl rfl) (eL (kD C_free_places hr (dN (dO 6) (dN (dO 1) dR)))))
  (dS (eA 9 fL.nd (Or.inl rfl) (eL (kD C_shadows hr (dN (dO 7) (dN (dO 1) (dN (dO 8) (dN (dO 6) dR)))))))
  (dS (gL PassesOwn.never rfl (fI (eQ (dO 9) (lA dX))) (f6 10 fL.nd (Or.inl rfl)) (dY (eY (fZ Dh C8 (eQ (dO 10) (dO 1)) dX) (dY (eE (gJ (dN sD (dN (eL (l5 (kg (K:=K)) nr (by rfl) B.list lT (dN (i8 (dO 10) (mx (f9 (dO 1) dX)) md) dR))) dR))))) eM)))
  (dY (eE (gJ (dN sD (dN (eB C_filled hr (dN (dO 6) (dN (eL (kD C_parts_within hr (dN (dO 9) (dN (dO 8) (dN (eL (lu (eL (fE (dN (gJ (dN dX (dN dX dR))) dR))) (dO 1))) dR))))) dR))) dR))))))))))))))⟩
theorem Kw:eF ["cutting", "signs"] ["cutting", "signs"] (eg (fC 45)):=by constructor<;>first|rfl|decide +kernel
theorem Jh(D:eI K mg "held" (fC 45))(B:Bs mg)(ER:Er c K mg)(C_check_signs:ek P w K mg base "check_signs" 7 (gA K (iR c)))(C_parts_or_weights:ek P w K mg base "parts_or_weights" 7 (gA K (gK c)))(C_Cutting_cuts:iT P w K mg base c.Cutting "cuts" 7 (pC K (hC c)))(C_Cutting_dims:iT P w K mg base c.Cutting "dims" 7 (gA K (g9 c))):ek P w K mg base "held" 8 (gA K (rH c)):=
 iy D Kw (fun | _,_,_,_,_,_,[_,_],_=>rfl) fun f cdv A outer s H E hr=>⟨_,(dS (zY (eB C_check_signs hr (dN (dO 0) (dN (dO 1) dR))))
  (dY (eE (eB C_parts_or_weights hr (dN (eL (FR C_Cutting_cuts hr (dO 0))) (dN (zf C_Cutting_dims hr (dO 0)) (dN (dO 1) dR)))))))⟩
theorem gY:eF ["_law_script", "_law_dims", "_law_cuts_here", "_law_cutting", "_law_some", "_law_k", "_law_found", "_law_weights", "_law_bent_here", "_law_thing"] ["_law_script"] (eg (fC 71)):=by constructor<;>first|rfl|decide +kernel
theorem Eu{f0:Addr}{fd:FuncData}(D:JM K "law" "law" (fC 71) f0 fd)(B:Bs mg)(ER:Er c K mg)(C_law_drawn_3:ek P w K mg base "_law_drawn" 8 (gA K (ko c)))(C_Cutting_init:Aj P w K mg base "Cutting" c.Cutting 7 (E3 K c.Cutting (jg c)))(C_law_odd_2:ek P w K mg base "_law_odd" 8 (pC K (mL c)))(C_held:ek P w K mg base "held" 8 (gA K (rH c)))(C_law_bent:ek P w K mg base "_law_bent" 8 (pC K (l8 c)))(C_law_cell_at:ek P w K mg base "_law_cell_at" 8 (gA K (fO c)))(C_shows_none:ek P w K mg base "shows_none" 8 (gA K (iJ c)))(C_law_all:ek P w K mg base "_law_all" 8 (gA K (nv c)))(C_law_is_2:ek P w K mg base "_law_is" 8 (gA K (nC c)))(C_law_draw:ek P w K mg base "_law_draw" 8 (gA K (eV c))):mC P w K mg base yh 9 f0 fd ["_law_script"] (gA K (AH c)):=
 P6 D gY fun f cdv A outer s H E hr=>⟨_,(dS (KM (eB C_law_drawn_3 hr (dN (dO 0) (dN dX (dN dX dR)))) (qh 2 rfl (gM (f6 1 gY.nd (Or.inl rfl)) (gM (f6 2 gY.nd (Or.inr rfl)) l6))))
  (dS (eY (iu hr (dO 2) (eL (fE dR))) (dY (eA 2 gY.nd (Or.inr rfl) (eL (fE (dN (f9 (gJ (dN dX dR)) (yi (gJ (dN dX dR)) (dO 1))) dR))))) eM)
  (dS (eA 3 gY.nd (Or.inl rfl) (OI C_Cutting_init hr (dN (dO 1) (dN (dO 2) dR))))
  (dS (qF (N:=["_law_k", "_law_script", "_law_cuts_here"]) (ix:=[none,some 0,some 2]) 4 gY.nd (Or.inl rfl) rfl (tH.pim (iH B.range (dN dX dR))) (iD (N:=["_law_k", "_law_script", "_law_cuts_here"]) (ix:=[none,some 0,some 2]) (fun _ h=>eS h) (by rfl)) (eX rfl) (fun _ _ _ _ _=>⟨(fW 0 (show List.Nodup (α:=Str) ["_law_k", "_law_script", "_law_cuts_here"] by decide) (Or.inr rfl)),fK,(jq (iq (K:=K)) jk (by rfl) B.tuple jc (dN (eL (ib (N:=["_law_j", "_law_script", "_law_k"]) (ix:=[none,some 1,some 0]) rfl (tH.pim (iH B.range (dN (eT (fU (K:=K)) ir (by rfl) B.len iw (dN (dO 2) dR)) dR))) (iD (N:=["_law_j", "_law_script", "_law_k"]) (ix:=[none,some 1,some 0]) (Bv (iD (N:=["_law_k", "_law_script", "_law_cuts_here"]) (ix:=[none,some 0,some 2]) (fun _ h=>eS h) (by rfl))) (by rfl)) (eX rfl) (fun _ _ _ _ _=>⟨(fW 0 (show List.Nodup (α:=Str) ["_law_j", "_law_script", "_law_k"] by decide) (Or.inl rfl)),fK,(lj (eB C_law_draw hr (dN (eB C_law_cell_at hr (dN (dO 1) (dN (f9 dX (dO 2)) dR))) (dN (dO 0) (dN dX dR)))) dX)⟩))) dR))⟩) oK)
  (dS (eA 4 gY.nd (Or.inl rfl) (eL (lx (dO 4) (eL (ib (N:=["_law_signs", "_law_cuts_here"]) (ix:=[none,some 2]) rfl (fI (eB C_law_all hr (dN (gJ (dN (lA dX) (dN dX (dN dX dR)))) (dN (eT (rK rfl) yB (by rfl) B.min BB (dN dX (dN (eT (fU (K:=K)) ir (by rfl) B.len iw (dN (dO 2) dR)) dR))) dR)))) (iD (N:=["_law_signs", "_law_cuts_here"]) (ix:=[none,some 2]) (fun _ h=>eS h) (by rfl)) (eX rfl) (fun _ _ _ _ _=>⟨(fW 0 (show List.Nodup (α:=Str) ["_law_signs", "_law_cuts_here"] by decide) (Or.inl rfl)),fK,(f9 (dO 0) (yi (gJ (dN dX dR)) (lj (eT (fU (K:=K)) ir (by rfl) B.len iw (dN (dO 1) dR)) (eT (rK rfl) yB (by rfl) B.min BB (dN dX (dN (eT (fU (K:=K)) ir (by rfl) B.len iw (dN (dO 1) dR)) dR))))))⟩))))))
  (dS (l9 PassesOwn.never rfl (iH B.range (dN (eT (fU (K:=K)) ir (by rfl) B.len iw (dN (dO 4) dR)) dR)) (f6 5 gY.nd (Or.inl rfl)) (dS (eA 6 gY.nd (Or.inl rfl) (eB C_held hr (dN (dO 3) (dN (eQ (dO 4) (dO 5)) dR))))
  (dS (eA 7 gY.nd (Or.inl rfl) (eL (lu (eL (fE (dN dX dR))) (eT (fU (K:=K)) ir (by rfl) B.len iw (dN (dO 2) dR)))))
  (dS (eY (iu hr (eQ (dO 6) dX) sD) (dY (eA 7 gY.nd (Or.inl rfl) (eQ (dO 6) dX))) eM)
  (dY (gL PassesOwn.never rfl (fI (eL (kD C_law_bent hr (dN (dO 7) (dN (eB C_law_cell_at hr (dN (dO 0) (dN (f9 dX (oA (dO 5) dX)) dR))) dR))))) (f6 8 gY.nd (Or.inl rfl)) (dY (eY (iX (ka (eB C_law_is_2 hr (dN (dO 3) (dN (dO 2) (dN (dO 1) (dN (eQ (dO 4) (dO 5)) (dN (dO 8) dR)))))))) (dY (eE jS)) eM))))))))
  (dS (gL PassesOwn.never rfl (fI (eL (kD C_law_odd_2 hr (dN (eT (fU (K:=K)) ir (by rfl) B.len iw (dN (dO 2) dR)) dR)))) (f6 9 gY.nd (Or.inl rfl)) (dY (eY (fZ Fx EU (eB C_shows_none hr (dN (dO 3) (dN (eQ (dO 4) dX) (dN (dO 9) dR)))) jS) (dY (eE jS)) eM)))
  (dY (eE jS)))))))))⟩
end
end K12
namespace K12
open PySem L2 L3 CL
theorem Ou{K:W.Frag}{h:Heap}{mg:Str→Option Value}{aCutting:Addr}{tMOST_CUTS tMOST_DIMS:_}(X:K.In h)(G:h.Ns mainGlobals mg)(e:W.nsIn K mainGlobals "Cutting" = some (some (.ref aCutting)))(pg:W.plainGet K aCutting Str.empty=true)(hd:W.hasDictIn K aCutting=true)(po:W.plainOver K aCutting=true)(sa:W.findIn K (.ref aCutting) "__setattr__" = some (some (.builtin "object.__setattr__")))(own_cuts:W.findIn K (.ref aCutting) "own_cuts" = some none)(own_dims:W.findIn K (.ref aCutting) "own_dims" = some none)(mk:W.makesIn K aCutting=true)(kp:W.keepIn K (.ref aCutting)=true)(uMOST_CUTS:W.nsIn K mainGlobals "MOST_CUTS" = some (some (.int 7 tMOST_CUTS)))(uMOST_DIMS:W.nsIn K mainGlobals "MOST_DIMS" = some (some (.int 3 tMOST_DIMS))):Er ⟨aCutting,0,0,0,0,0,0,0,0,0,0,0,0⟩ K mg:=⟨trivial,⟨pg,hd,po,sa⟩,own_cuts,own_dims,mk,kp,W.mg_of X G e,⟨_,W.mg_of X G uMOST_CUTS⟩,⟨_,W.mg_of X G uMOST_DIMS⟩⟩
theorem Om{K:W.Frag}{a g:Addr}{m q:Str}{st:Stmt}{oc kV doc pm cdv ct:Value}{od an:Option Addr}{osl:Array (Option Value)}(gf:W.findIn K (.ref a) m=some (some (.ref g)))(gi:W.isFn K (.ref g)=true)(l:K.lookup g=some ⟨oc,od,.func (W.fnOf m q (iG st) (gC st) (eg st) .none kV doc pm an cdv ct),osl⟩)(gc:W.codeIn K cdv q=true)(gk:W.keepIn K (.ref g)=true):ke K a m q st:=⟨_,_,Cd l gc gk,gf,gi,gk⟩
theorem Ni{l:W.OpenLaw}{w:World}{K:W.Frag}{h:Heap}{mg:Str→Option Value}{c:Cs}{fa f:Addr}{oc kV doc pm cdv ct:Value}{od an:Option Addr}{osl:Array (Option Value)}(X:K.In h)(G:h.Ns mainGlobals mg)(hfa:mg "law" = some (.ref fa))
  (a:W.nsIn K mainGlobals "law" = some (some (.ref f))) (lk:K.lookup f=some ⟨oc,od,.func (W.fnOf "law" "law" (iG (fC 71)) (gC (fC 71)) (eg (fC 71)) .none kV doc pm an cdv ct),osl⟩) (cc:W.codeIn K cdv "law" = true) (kk:W.keepIn K (.ref f)=true)
  (B:Bs mg) (ER:Er c K mg) (D0:eI K mg "is_whole" (fC 8)) (D1:eI K mg "sign_of" (fC 10)) (D2:eI K mg "common_divisor" (fC 11)) (D3:eI K mg "dot" (fC 12)) (D4:eI K mg "less" (fC 20)) (D5:eI K mg "floor_of" (fC 21)) (D6:eI K mg "ceiling_of" (fC 22)) (D7:eI K mg "weighted" (fC 24)) (D8:eI K mg "free_places" (fC 28)) (D9:eI K mg "turned" (fC 36)) (D10:eI K mg "first_place" (fC 53)) (D11:eI K mg "_law_cell_at" (fC 59)) (D12:eI K mg "_law_draw" (fC 60)) (D13:eI K mg "_law_same" (fC 62)) (D14:eI K mg "_law_none" (fC 65)) (D15:eI K mg "_law_all" (fC 66)) (D16:eI K mg "_law_odd" (fC 70)) (D17:eI K mg "lowest" (fC 13)) (D18:eI K mg "made" (fC 16)) (D19:eI K mg "is_signs" (fC 32)) (D20:eI K mg "is_weights" (fC 34)) (D21:eI K mg "taken_often" (fC 35)) (D22:eI K mg "whole_between" (fC 40)) (D23:eI K mg "paper_of_noughts" (fC 43)) (D24:eI K mg "may_weigh" (fC 46)) (D25:eI K mg "is_dims" (fC 51)) (D26:eI K mg "is_cut" (fC 52)) (D27:eI K mg "same_spots" (fC 54)) (D28:eI K mg "_law_cut" (fC 63)) (D29:eI K mg "_law_bent" (fC 69)) (D30:eI K mg "cleared" (fC 14)) (D31:eI K mg "minus" (fC 17)) (D32:eI K mg "times" (fC 18)) (D33:eI K mg "over" (fC 19)) (D34:eI K mg "check_signs" (fC 33)) (D35:eI K mg "one_between" (fC 41)) (D36:eI K mg "can_stand" (fC 55)) (D37:eI K mg "_law_cuts" (fC 64)) (D38:eI K mg "settled" (fC 25)) (D39:eI K mg "with_pivot" (fC 26)) (D40:eI K mg "left_for" (fC 29)) (D41:eI K mg "shadow" (fC 37)) (D42:eI K mg "shows_none" (fC 47)) (D43:eI K mg "checked_cuts" (fC 56)) (D44:eI K mg "_law_drawn" (fC 67)) (D45:eI K mg "pivots_and_rests" (fC 27)) (D46:eI K mg "filled" (fC 30)) (D47:eI K mg "shadows" (fC 38)) (D48:eI K mg "ends_at" (fC 39)) (D49:eI K mg "_law_is" (fC 68)) (D50:eI K mg "parts_within" (fC 42)) (D51:eI K mg "parts_or_weights" (fC 44)) (D52:eI K mg "held" (fC 45)) (M0:ke K c.Cutting "dims" "Cutting.dims" (jF (fC 57) 1)) (M1:ke K c.Cutting "cuts" "Cutting.cuts" (jF (fC 57) 2)) (M2:ke K c.Cutting "many" "Cutting.many" (jF (fC 57) 3)) (M3:ke K c.Cutting "__init__" "Cutting.__init__" (jF (fC 57) 0)) :
  ∃fd:FuncData,(∀(s:Shared) (v:Value),BindsTo s fd ⟨[v],[]⟩ [("_law_script",v)])∧∀base:Heap,K.In base→base.Ns mainGlobals mg→mC l.prog w K mg base yh 9 fa fd ["_law_script"] (DD K):=by
 have e:=hfa.symm.trans (W.mg_of X G a);cases e;refine⟨W.fnOf "law" "law" (iG (fC 71)) (gC (fC 71)) (eg (fC 71)) .none kV doc pm an cdv ct,?bnd,fun base _ _=>?main⟩
 case main=>have O0:=AJ (P:=l.prog) (w:=w) (base:=base) D0 B ER;have O1:=Bf (P:=l.prog) (w:=w) (base:=base) D1 B ER;have O2:=q8 (P:=l.prog) (w:=w) (base:=base) D2 B ER;have O3:=Mi (P:=l.prog) (w:=w) (base:=base) D3 B ER;have O4:=Jg (P:=l.prog) (w:=w) (base:=base) D4 B ER;have O5:=Ab (P:=l.prog) (w:=w) (base:=base) D5 B ER;have O6:=wX (P:=l.prog) (w:=w) (base:=base) D6 B ER;have O7:=AV (P:=l.prog) (w:=w) (base:=base) D7 B ER;have O8:=vD (P:=l.prog) (w:=w) (base:=base) D8 B ER;have O9:=EV (P:=l.prog) (w:=w) (base:=base) D9 B ER;have O10:=uL (P:=l.prog) (w:=w) (base:=base) D10 B ER;have O11:=tV (P:=l.prog) (w:=w) (base:=base) M0 B ER;have O12:=tG (P:=l.prog) (w:=w) (base:=base) M1 B ER;have O13:=t6 (P:=l.prog) (w:=w) (base:=base) M2 B ER;have O14:=uJ (P:=l.prog) (w:=w) (base:=base) D11 B ER;have O15:=zG (P:=l.prog) (w:=w) (base:=base) D12 B ER;have O16:=AO (P:=l.prog) (w:=w) (base:=base) D13 B ER;have O17:=AK (P:=l.prog) (w:=w) (base:=base) D14 B ER;have O18:=Bo (P:=l.prog) (w:=w) (base:=base) D15 B ER;have O19:=zd (P:=l.prog) (w:=w) (base:=base) D16 B ER;have O20:=Fi (P:=l.prog) (w:=w) (base:=base) D17 B ER (O2.mono (by decide));have O21:=I0 (P:=l.prog) (w:=w) (base:=base) D18 B ER (O2.mono (by decide));have O22:=zS (P:=l.prog) (w:=w) (base:=base) D19 B ER (O0.mono (by decide));have O23:=wW (P:=l.prog) (w:=w) (base:=base) D20 B ER (O0.mono (by decide));have O24:=vS (P:=l.prog) (w:=w) (base:=base) D21 B ER (O3.mono (by decide));have O25:=rV (P:=l.prog) (w:=w) (base:=base) D22 B ER (O5.mono (by decide)) (O4.mono (by decide)) (O6.mono (by decide));have O26:=pI (P:=l.prog) (w:=w) (base:=base) D23 B ER (O9.mono (by decide)) (O1.mono (by decide));have O27:=yj (P:=l.prog) (w:=w) (base:=base) D24 B ER (O1.mono (by decide));have O28:=CI (P:=l.prog) (w:=w) (base:=base) D25 B ER (O0.mono (by decide));have O29:=Fk (P:=l.prog) (w:=w) (base:=base) D26 B ER (O0.mono (by decide));have O30:=wA (P:=l.prog) (w:=w) (base:=base) D27 B ER (O10.mono (by decide));have O31:=B4 (P:=l.prog) (w:=w) (base:=base) D28 B ER (O15.mono (by decide));have O32:=AG (P:=l.prog) (w:=w) (base:=base) D29 B ER (O15.mono (by decide));have O33:=Ct (P:=l.prog) (w:=w) (base:=base) D30 B ER (O20.mono (by decide)) (O1.mono (by decide));have O34:=FZ (P:=l.prog) (w:=w) (base:=base) D31 B ER (O21.mono (by decide));have O35:=IA (P:=l.prog) (w:=w) (base:=base) D32 B ER (O21.mono (by decide));have O36:=IS (P:=l.prog) (w:=w) (base:=base) D33 B ER (O21.mono (by decide));have O37:=uA (P:=l.prog) (w:=w) (base:=base) D34 B ER (O22.mono (by decide)) (O13.mono (by decide));have O38:=uG (P:=l.prog) (w:=w) (base:=base) D35 B ER (O25.mono (by decide)) (O5.mono (by decide));have O39:=yk (P:=l.prog) (w:=w) (base:=base) D36 B ER (O29.mono (by decide)) (O30.mono (by decide));have O40:=zJ (P:=l.prog) (w:=w) (base:=base) D37 B ER (O31.mono (by decide)) (O14.mono (by decide)) (O16.mono (by decide));have O41:=B6 (P:=l.prog) (w:=w) (base:=base) D38 B ER (O33.mono (by decide));have O42:=wC (P:=l.prog) (w:=w) (base:=base) D39 B ER (O33.mono (by decide));have O43:=Ag (P:=l.prog) (w:=w) (base:=base) D40 B ER (O34.mono (by decide)) (O35.mono (by decide));have O44:=EC (P:=l.prog) (w:=w) (base:=base) D41 B ER (O33.mono (by decide));have O45:=wI (P:=l.prog) (w:=w) (base:=base) D42 B ER (O37.mono (by decide)) (O11.mono (by decide)) (O24.mono (by decide)) (O23.mono (by decide)) (O12.mono (by decide)) (O13.mono (by decide)) (O27.mono (by decide));have O46:=tK (P:=l.prog) (w:=w) (base:=base) D43 B ER (O28.mono (by decide)) (O39.mono (by decide));have O47:=uQ (P:=l.prog) (w:=w) (base:=base) D44 B ER (O14.mono (by decide)) (O15.mono (by decide)) (O40.mono (by decide));have O48:=pE (P:=l.prog) (w:=w) (base:=base) D45 B ER (O41.mono (by decide)) (O42.mono (by decide));have O49:=Ee (P:=l.prog) (w:=w) (base:=base) D46 B ER (O36.mono (by decide)) (O43.mono (by decide));have O50:=Cy (P:=l.prog) (w:=w) (base:=base) D47 B ER (O44.mono (by decide));have O51:=BS (P:=l.prog) (w:=w) (base:=base) D48 B ER (O36.mono (by decide)) (O43.mono (by decide)) (O4.mono (by decide));have O52:=tQ (P:=l.prog) (w:=w) (base:=base) M3 B ER (O46.mono (by decide));have O53:=AQ (P:=l.prog) (w:=w) (base:=base) D49 B ER (O45.mono (by decide)) (O17.mono (by decide));have O54:=tF (P:=l.prog) (w:=w) (base:=base) D50 B ER (O51.mono (by decide)) (O38.mono (by decide));have O55:=pD (P:=l.prog) (w:=w) (base:=base) D51 B ER (O7.mono (by decide)) (O48.mono (by decide)) (O26.mono (by decide)) (O8.mono (by decide)) (O50.mono (by decide)) (O41.mono (by decide)) (O49.mono (by decide)) (O9.mono (by decide)) (O54.mono (by decide));have O56:=Jh (P:=l.prog) (w:=w) (base:=base) D52 B ER (O37.mono (by decide)) (O55.mono (by decide)) (O12.mono (by decide)) (O11.mono (by decide));exact (Eu (P:=l.prog) (w:=w) (base:=base) (Cd (st:=fC 71) lk cc kk) B ER (O47.mono (by decide)) (O52.mono (by decide)) (O19.mono (by decide)) (O56.mono (by decide)) (O32.mono (by decide)) (O14.mono (by decide)) (O45.mono (by decide)) (O18.mono (by decide)) (O53.mono (by decide)) (O15.mono (by decide))).imp (Gs (fun ns _ _=>Fg ns))
 case bnd=>exact fun s v=>.of_eq rfl
end K12
namespace PySem.Challenge.cw_cutlands_k12_papers_looked_at_holds
theorem tw2254493974738818261:True:=trivial
theorem tw12540135909569151267:True:=trivial
theorem tw6595674434446397411:True:=trivial
theorem tw7265124666367548692:True:=trivial
theorem tw10811397806757621601:True:=trivial
theorem tw5871589777131677741:True:=trivial
theorem tw6746598263789471059:True:=trivial
theorem tw8277100070672748017:True:=trivial
theorem tw10561239623326251499:True:=trivial
theorem tw2541489055561636019:True:=trivial
theorem tw15265569151008456437:True:=trivial
theorem tw8725332075831833971:True:=trivial
theorem tw7884611337465785376:True:=trivial
theorem tw14185962578369721568:True:=trivial
theorem tw11007220231266269408:True:=trivial
theorem tw17512586700020374327:True:=trivial
theorem tw16704533699376419182:True:=trivial
theorem tw7101680789984878498:True:=trivial
theorem tw5154582906270935488:True:=trivial
theorem tw9188014390492882201:True:=trivial
theorem tw6697576200782170194:True:=trivial
theorem tw9297112546752768380:True:=trivial
theorem tw3354370533427148654:True:=trivial
theorem tw4732360170443664645:True:=trivial
theorem tw34887909141767627:True:=trivial
theorem tw2674651237551769124:True:=trivial
end PySem.Challenge.cw_cutlands_k12_papers_looked_at_holds
open PySem PySem.W PyProof.Rows
set_option Elab.async true
theorem PySem.Challenge.cw_cutlands_k12_papers_looked_at_holds : PySem.Challenge.rw_cutlands_k12_papers_looked_at.Holds := by
 w_on;o_law;k_head;(case hw=>w_witness2);k_fill;refine L3.OG (l:=PySem.Challenge.rw_cutlands_k12_papers_looked_at) (k:=9) (x:= "_law_script") rfl ⟨rfl,by decide,by decide⟩ rfl (fun w h Y=>PySem.W.kIn_of Y) ?F
 case F=>intro w mg fa h KX G hmg;refine' K12.Ni KX G hmg ?a ?l ?c ?k ?B ?E ?_ ?_ ?_ ?_ ?_ ?_ ?_ ?_ ?_ ?_ ?_ ?_ ?_ ?_ ?_ ?_ ?_ ?_ ?_ ?_ ?_ ?_ ?_ ?_ ?_ ?_ ?_ ?_ ?_ ?_ ?_ ?_ ?_ ?_ ?_ ?_ ?_ ?_ ?_ ?_ ?_ ?_ ?_ ?_ ?_ ?_ ?_ ?_ ?_ ?_ ?_ ?_ ?_ ?_ ?_ ?_ ?_;(case a=>k_is);(case l=>k_is);(case c=>k_is);(case k=>k_is);(case B=>constructor<;>(apply mg_none_of KX G;k_is));(case E=>apply K12.Ou KX G<;>first | k_is | k_exc | decide);all_goals first | (apply L2.Mj KX G<;>k_is) | (apply K12.Om<;>first | k_is | k_exc | decide)
