import PyProof.Rows.All
import Wide.All
import OpenK.AllK
import Wide.FinOn
import Lean
import PyProof.EqAt
import PyProof.EqKinds
import PyProof.TupleCall
import PyProof.P3Eq
import PyProof.NeData
import PyProof.ConsumeWalk
import PyProof.Rows.SumAny
import PyProof.ZipIter
import PyProof.Rows.ZipGen
import PyProof.Rows.SeqMore
import PyProof.FactsAll.tuple
import PyProof.WalksMore
import PyProof.EnumMake
import PyProof.EnumFor
import PyProof.Rows.MinMaxN
import KE.KDictList
import KE.KRevIter
import KE.KItemsList
import PyProof.Rows.SortWalk
import PyProof.Rows.SetFrom
import PyProof.SetRoads
import PyProof.AttrMissHeap
import KE.KDictOf
import PySem.Challenge.RW_cutlands_k13_signs_refused
set_option bootstrap.genMatcherCode false
set_option maxRecDepth 100000
set_option maxHeartbeats 0
set_option linter.all false
noncomputable section
set_option compiler.extract_closed false
set_option hygiene false
abbrev Vq:=PySem.Value
abbrev LI:=List Int
abbrev LL:=List LI
section
open PySem
def aa:=@List.getElem?_eq_some_iff
def ae:=@Heap.get?_push_of_some
def af:=@List.getD_eq_getElem?_getD
def ag:=@List.getElem?_eq_getElem
def ai:=@List.mem_append
def aj:=@List.mem_singleton
def ak:=@wpAny_pure
def ao:=@wpAny_bind
def aq:=@List.getElem?_set_ne
def ar:=@Heap.get?_push_size
def au:=@List.mem_of_getElem?
def av:=@List.getElem?_map
def aw:=@List.length_map
def ax:=@List.mem_append_left
def ay:=@List.length_cons
def az:=@Int.le_of_lt
def aA:=@decide_eq_false
def aB:=@decide_eq_true
def aC:=@List.mem_map
def aD:=@Nat.lt_of_lt_of_le
def aE:=@List.mem_cons
def aF:=@Nat.zero_add
def aG:=@Bool.false_ne_true
def aH:=@List.map_map
def aI:=@Int.mul_le_mul_of_nonneg_right
def aJ:=@Nat.le_refl
def aK:=@Heap.lt_size
def aL:=@Nat.ne_of_lt
def aM:=@Nat.le_trans
def aN:=@Classical.byContradiction
def aO:=@Int.mul_nonneg
def aP:=@if_pos
def aQ:=@if_neg
def aR:=@List.mem_range
def aS:=@List.length_append
def aT:=@List.mem_filter
def aU:=@List.getElem_mem
def aV:=@List.of_mem_zip
def aW:=@Int.mul_pos
def aX:=@Int.natAbs_mul
def aY:=@List.map_append
def aZ:=@Nat.lt_irrefl
def a9:=@List.eq_of_mem_replicate
def bf:=@Nat.le_of_lt
def bg:=@List.filterMap_cons
def bh:=@List.mem_cons_self
def bj:=@List.mem_cons_of_mem
def bu:=@Array.append_assoc
def bx:=@Array.length_toList
def bz:=@Nat.ne_of_gt
def bA:=@Int.mul_one
def bB:=@List.mem_filterMap
def bC:=@List.mem_append_right
def bD:=@List.size_toArray
def bE:=@List.map_cons
def bF:=@Nat.lt_succ_self
def bG:=@Nat.zero_le
def bH:=@List.append_nil
def bI:=@Nat.le_succ
def bJ:=@List.nodup_cons
def bK:=@Option.isSome_iff_exists
def bL:=@List.length_take
def bM:=@List.length_replicate
def bN:=@Int.toNat_natCast
def bO:=@List.length_drop
def bP:=@Bool.and_eq_true
def bQ:=@List.length_set
def bR:=@List.all_cons
def bS:=@List.any_cons
def bT:=@List.replicate_succ
def bU:=@List.flatten_cons
def bV:=@List.append_assoc
def bW:=@List.length_singleton
def bX:=@Nat.succ_mul
def bY:=@List.nil_append
def bZ:=@Nat.mul_comm
def b4:=@List.map_nil
def b5:=@Nat.lt_of_le_of_lt
def b6:=@Nat.add_le_add_left
def b7:=@List.forIn_cons
def b8:=@Bool.false_eq_true
def b9:=@List.lookup_cons
def cf:=@Nat.le_of_succ_le
def cg:=@Nat.lt_succ_of_lt
def cj:=@Option.isSome_some
def ck:=@List.forIn_nil
def cm:=@Nat.le_add_right
def cq:=@Nat.le_succ_of_le
def cu:=@List.range_succ_eq_map
def cv:=@List.all_map
def cw:=@List.any_map
def cx:=@List.take_of_length_le
def cy:=@List.all_eq_true
def cA:=@List.length_nil
def cB:=@Int.toNat_of_nonneg
def cC:=@Nat.lt_trichotomy
def cD:=@Nat.sub_zero
def cE:=@List.pairwise_iff_getElem
def cF:=@Int.gcd_dvd_left
def cG:=@Int.gcd_dvd_right
def cH:=@Int.dvd_mul_of_dvd_left
def cI:=@Int.fmod_nonneg_of_pos
def cJ:=@Int.fmod_lt_of_pos
def cK:=@Int.gcd_pos_of_ne_zero_right
def cL:=@Int.mul_assoc
def cN:=@Int.mul_comm
def cO:=@Int.mul_fdiv_cancel_left
def cP:=@Int.mul_neg
def cQ:=@Nat.eq_zero_or_pos
def cR:=@List.lookup_cons_self
def cS:=@List.drop_eq_getElem_cons
def cT:=@List.map_take
def cU:=@Nat.not_lt_zero
def cV:=@Nat.le_max_left
def cW:=@Nat.le_max_right
def cX:=@Nat.pow_succ
def cY:=@Int.natAbs_add_le
def cZ:=@Int.natAbs_neg
def c6:=@List.drop_zero
def c7:=@List.drop_of_length_le
def c9:=@List.length_reverse
def dc:=@List.mem_iff_getElem?
def de:=@List.dropLast_concat_getLast
def df:=@Nat.two_pow_pos
def dg:=@Int.one_mul
def dh:=@List.take_length
def dk:=@Int.mul_zero
def dm:=@Int.mul_eq_zero
def du:=@Int.neg_mul
def dw:=@Int.zero_mul
def dy:=@Int.mul_add
def dz:=@Int.add_zero
def dA:=@List.length_erase_of_mem
def dB:=@List.map_set
def dC:=@List.length_zip
def dD:=@List.mem_of_mem_take
def dE:=@List.pairwise_append
def dF:=@List.countP_mono_left
def dG:=@Int.le_refl
def dH:=@Int.le_trans
def dI:=@Nat.lt_or_ge
def dJ:=@Int.mul_nonpos_of_nonneg_of_nonpos
def dM:=@List.mem_of_mem_erase
def dN:=@List.countP_eq_length_filter
def dO:=@List.nodup_range
def dP:=@Int.mul_neg_of_pos_of_neg
def dQ:=@Rat.intCast_lt_intCast
def dR:=@Rat.intCast_mul
def dS:=@Int.mul_ne_zero
def dU:=@Rat.mul_pos
def dW:=@Rat.mul_lt_mul_of_pos_right
def dX:=@Rat.lt_of_mul_lt_mul_right
def dY:=@Rat.le_of_lt
def dZ:=@List.sum_cons
def d8:=@Int.fdiv_nonneg
def eg:=@Int.mul_le_mul_of_nonneg_left
def ek:=@Int.not_lt
def eA:=@Int.lt_of_mul_lt_mul_right
def eB:=@Int.pow_pos
def eC:=@Int.mul_le_mul
def eD:=@Int.pow_succ
def eE:=@Nat.mul_le_mul_left
def eF:=@List.mem_or_eq_of_mem_set
def eG:=@List.pairwise_map
def eI:=@List.pairwise_singleton
def eJ:=@Nat.mul_le_mul
def eK:=@Nat.add_le_add_right
def eL:=@List.length_filter_le
def eM:=@List.filter_append
def eO:=@Int.lt_trichotomy
def eP:=@Rat.lt_of_mul_lt_mul_left
def eQ:=@Int.lt_of_mul_lt_mul_left
def eR:=@List.length_eq_zero_iff
def eT:=@List.zip_cons_cons
def eU:=@Nat.mul_le_mul_right
def eV:=@List.filter_sublist
def eW:=@List.length_range
def eX:=@List.mem_of_mem_drop
def eY:=@List.map_id'
def eZ:=@List.forall_mem_append
def fg:=@List.forall_mem_cons
end
set_option Elab.async false
namespace L2
open PySem PySem.Spec PyProof.Rows
abbrev qH:=Sum Int Str
noncomputable def xJ:qH->Value->Bool
 |.inl k,v=>Value.isInt k v
 |.inr x,v=>Value.isStrOf x v
def Rj(w:World):qH->Int
 |.inl k=>hashInt k
 |.inr x=>hashStr w x
theorem jf:∀{k} {v},xJ k v=true->(∃i t,k=Sum.inl i/\v=Value.int i t)\/(∃x t,k=Sum.inr x/\v=Value.str x t)
 |.inl i,v,h=>by obtain⟨t,e⟩:=Value.isInt_shape h;exact .inl ⟨i,t,rfl,e⟩
 |.inr x,v,h=>by obtain⟨t,e⟩:=Value.isStrOf_shape h;exact .inr ⟨x,t,rfl,e⟩
def Fi i t:xJ (.inl i) (.int i t)=true:=by simp[xJ,Value.isInt]
def FC x t:xJ (.inr x) (.str x t)=true:=by simp[xJ,Value.isStrOf]
def OA a b:decide ((Sum.inl a:qH)=Sum.inl b)=(a==b):=by
 by_cases e:a=b
 .subst e;simp
 .have h:¬(Sum.inl a:qH)=Sum.inl b:=λq=>e (Sum.inl.inj q);rw[aA h];exact (beq_eq_false_iff_ne.mpr e).symm
def Ml a b:decide ((Sum.inr a:qH)=Sum.inr b)=decide (a=b):=by
 by_cases e:a=b
 .subst e;simp
 .have h:¬(Sum.inr a:qH)=Sum.inr b:=λq=>e (Sum.inr.inj q);rw[aA h,aA e]
def Ng a b:decide ((Sum.inl a:qH)=Sum.inr b)=false:=aA (λq=>nomatch q)
def Oj a b:decide ((Sum.inr a:qH)=Sum.inl b)=false:=aA (λq=>nomatch q)
noncomputable def ki(prog:Program)(w:World):PySem.KeyKind prog w qH where
 is:=xJ
 hash:=Rj w
 inj:=λv a b l f=>by
  rcases jf l with⟨i,t,rfl,rfl⟩|⟨x,t,rfl,rfl⟩
  .rcases jf f with⟨j,u,rfl,e⟩|⟨y,u,rfl,e⟩
   .injection e with c _;rw[c]
   .exact nomatch e
  .rcases jf f with⟨j,u,rfl,e⟩|⟨y,u,rfl,e⟩
   .exact nomatch e
   .injection e with c _;rw[c]
 byValue:=λk v h=>by rcases jf h with⟨i,t,rfl,rfl⟩|⟨x,t,rfl,rfl⟩<;>rfl
 pyHash:=λd h=>by
  rcases jf d with⟨i,t,rfl,rfl⟩|⟨x,t,rfl,rfl⟩
  .exact wpAny_pyHash_int h
  .exact wpAny_pyHash_str h
 eqBool:=λg d h=>by
  rcases jf g with⟨i,t,rfl,rfl⟩|⟨x,t,rfl,rfl⟩
  .rcases jf d with⟨j,u,rfl,rfl⟩|⟨y,u,rfl,rfl⟩
   .rw[OA]at h;exact wpAny_eqBool_int h
   .rw[Ng]at h;exact SeqAt.EqAt.int_str i t y u _ _ _ _ h
  .rcases jf d with⟨j,u,rfl,rfl⟩|⟨y,u,rfl,rfl⟩
   .rw[Oj]at h;exact SeqAt.EqAt.str_int x t j u _ _ _ _ h
   .rw[Ml]at h;exact wpAny_eqBool_str h
 «strs»:=λk x t v h=>by
  rcases jf h with⟨i,u,rfl,e⟩|⟨y,u,rfl,e⟩
  .exact nomatch e
  .injection e with c _;subst c;cases v<;>rfl
def A1 prog w i t:(ki prog w).is (.inl i) (.int i t)=true:=Fi i t
def Ac prog w x t:(ki prog w).is (.inr x) (.str x t)=true:=FC x t
end L2
namespace L2
open PySem PySem.Spec PyProof.Rows
inductive V where
 |non|bl (b:Bool)|int (i:Int)|str (x:Str)|byt (b:Array UInt8)|flt (b:UInt64)|ref (a:Addr)|ty (n:String)
 deriving DecidableEq
def iw:V->Value->Prop
 |.non,u=>u=Value.none
 |.bl b,u=>u=Value.bool b
 |.int i,u=>∃t,u=Value.int i t
 |.str x,u=>∃t,u=Value.str x t
 |.byt b,u=>∃t,u=Value.bytes b t
 |.flt b,u=>∃t,u=Value.float b t
 |.ref a,u=>u=Value.ref a
 |.ty n,u=>u=Value.type n
abbrev gH:List V->List Value->Prop:=Paired iw
def gH.length(r:gH xs us):xs.length=us.length:=Paired.length r
theorem gH.get:∀{a:List V} {us:List Vq} {i:Nat} {x:V},gH a us->a[i]? = some x->∃u,us[i]? = some u/\iw x u
 |_,_,_,_,.nil,e=>by simp at e
 |_,_,0,_,.cons r _,e=>by simp at e;subst e;exact⟨_,rfl,r⟩
 |_,_,i+1,x,.cons _ t,e=>by obtain⟨u,c,b⟩:=gH.get t (by simpa using e);exact⟨u,by simpa using c,b⟩
theorem gH.set(r:iw x u):∀{xs} {us} i,gH xs us->gH (xs.set i x) (us.set i u)
 |_,_,_,.nil=>.nil
 |_,_,0,.cons _ t=>.cons r t
 |_,_,i+1,.cons q t=>.cons q (gH.set r i t)
theorem gH.append:∀{xs ys} {us ws},gH xs us->gH ys ws->gH (xs++ys) (us++ws)
 |_,_,_,_,.nil,s=>s
 |_,_,_,_,.cons r t,s=>.cons r (gH.append t s)
theorem gH.take:∀{xs} {us} n,gH xs us->gH (xs.take n) (us.take n)
 |_,_,0,_=>.nil
 |_,_,_+1,.nil=>.nil
 |_,_,n+1,.cons r t=>.cons r (gH.take n t)
theorem gH.drop:∀{xs} {us} n,gH xs us->gH (xs.drop n) (us.drop n)
 |_,_,0,r=>r
 |_,_,_+1,.nil=>.nil
 |_,_,n+1,.cons _ t=>gH.drop n t
def uq:Option V->Option Value->Prop
 |some v,some u=>iw v u
 |none,none=>True
 |_,_=>False
def KV{a:Type}:List (a×V)->List (a×Value)->Prop:=Paired λ(p:a×V) (q:a×Value)=>p.1=q.1/\iw p.2 q.2
def kV:qH->V
 |.inl i=>.int i
 |.inr x=>.str x
inductive HO where
 |lst (xs:List V)
 |tup (xs:List V)
 |dK (kvs:List (qH×V))|dT (kvs:List (List qH×V))
 |set (S:Int->Bool) (n:Nat)
 |ins (C dx:Addr) (fs:List (Str×V))
 |own (x:Addr)
 |xd (fs:List (Str×V))
 |met (f x:Addr)
 |rng (lo hi:Int)
 |frz (o:Obj) (u:HO)
 |tbl (ps:Array Vq)
 |ext (φ:Heap->Prop)
abbrev Hp:=Addr->Option HO
noncomputable def ja(H:Hp)(a:Addr)(o:HO):Hp:=λb=>if b=a then some o else H b
def fR:ja H a o a=some o:=by unfold ja;rw[aP rfl]
def fT(h:b≠a):ja H a o b=H b:=by unfold ja;rw[aQ h]
def QH{H:Hp}(h:H a=some o)(c:H b=some u)(d:o≠u):a≠b:=by intro e;subst e;rw[h]at c;exact d (Option.some.inj c)
def gA{H:Hp}(h:H a=some o)(c:H b=none):a≠b:=by intro e;subst e;rw[h]at c;cases c
section
variable (P:Program)(w:World)
def vm(h:Heap)(a:Addr)(b:Array Vq):Prop:=∃o,h.get? a=some o/\o.cls=.type "tuple" /\∃n,o.data=.seq b n/\o.dict=none
def vm.tup(x:vm h a items):IsTup h a items:=let ⟨o,e,c,n,d,_⟩:=x;⟨o,e,c,n,d⟩
def vm.new(h:Heap) items:vm (h.push {cls:=.type "tuple",data:=.seq items}) h.objs.size items:=⟨_,ar _ rfl,rfl,_,rfl,rfl⟩
def jy(H:Hp)(h:Heap)(a:Addr):HO->Prop
 |.lst b=>b.length<=sizeLine/\∃(its:List Vq) (n:Nat),gH b its/\h.get? a=some {cls:=.type "list",data:=.seq its.toArray n}
 |.tup b=>b.length<=sizeLine/\∃its:List Vq,gH b its/\vm h a its.toArray
 |.dK kvs=>kvs.length<=sizeLine/\(a==sysModules)=false/\∃vs,KV kvs vs/\h.DictOf (ki P w) a vs
 |.dT kvs=>kvs.length<=sizeLine/\(a==sysModules)=false/\∃b:List (List qH×Addr×Value),
   Paired (λ(p:List qH×V) (q:List qH×Addr×Value)=>p.1=q.1/\H q.2.1=some (.tup (p.1.map kV))/\iw p.2 q.2.2) kvs b/\
   ∃o d i,h.get? a=some o/\o.ExactDict/\o.data=.dict d i/\d.toList=b.map (entryOfKey (tupleKind (ki P w)))/\(b.map (·.1)).Nodup
 |.set S n=>h.SetOf (intKind P w) a S n
 |.ins C dx fs=>H dx=some (.own a)/\fs.length<=1000/\dx≠a/\h.get? a=some (W.instObj C dx)/\
   ∃c,h.Ns1 dx c/\(∀f,uq (fs.lookup f) (c f))/\PySem.Within c (fs.map (·.1))
 |.own _=>∃o,h.get? a=some o
 |.xd fs=>∃c,h.Ns1 a c/\∀f,uq (fs.lookup f) (c f)
 |.rng lo hi=>∃t u v,h.get? a=some {cls:=.type "range",data:=.fields #[.int lo t,.int hi u,.int 1 v]}
 |.frz o u=>h.get? a=some o/\jy H h a u
 |.tbl ps=>h.get? a=some {cls:=.none,data:=.fields ps}
 |.met f x=>h.get? a=some (W.methodObj (.ref f) (.ref x))
 |.ext φ=>φ h/\(∃o,h.get? a=some o)/\∀e g:Heap,φ e->(∀o,e.get? a=some o->g.get? a=some o)->φ g
def ph(H:Hp)(h:Heap):Prop:=∀a o,H a=some o->jy P w H h a o
end
section
variable {P:Program}{w:World}{H H':Hp}{h h':Heap}{a:Addr}{o:HO}
def jy.lt(x:jy P w H h a o):a<h.objs.size:=by
 cases o with
 |lst xs=>obtain⟨_,_,_,_,e⟩:=x;exact aK e
 |tup xs=>obtain⟨_,_,_,p⟩:=x;exact (vm.tup p).lt
 |dK kvs=>obtain⟨_,_,_,_,o,_,_,e,_⟩:=x;exact aK e
 |dT kvs=>obtain⟨_,_,_,_,o,_,_,e,_⟩:=x;exact aK e
 |set S n=>obtain⟨o,_,_,_,e,_⟩:=x;exact aK e
 |ins C dx fs=>obtain⟨_,_,_,e,_⟩:=x;exact aK e
 |own y=>obtain⟨_,e⟩:=x;exact aK e
 |xd fs=>obtain⟨_,⟨_,_,_,e,_⟩,_⟩:=x;exact aK e
 |rng lo hi=>obtain⟨_,_,_,e⟩:=x;exact aK e
 |frz ob u=>obtain⟨e,_⟩:=x;exact aK e
 |tbl ps=>exact aK (x)
 |met f y=>exact aK (x)
 |ext φ=>obtain⟨_,⟨_,e⟩,_⟩:=x;exact aK e
theorem Paired.mapP{F G:α->β->Prop}:∀{l₁} {l₂},Paired F l₁ l₂->(∀a b,F a b->G a b)->Paired G l₁ l₂
 |_,_,.nil,_=>.nil
 |_,_,.cons r t,f=>.cons (f _ _ r) (Paired.mapP t f)
def Paired.imp'{F G:α->β->Prop}(f:∀a b,F a b->G a b){d:List α}{c:List β}(r:Paired F d c):Paired G d c:=Paired.mapP r f
theorem jy.stay(x:jy P w H h a o)(k:∀b u,(b=a\/H b=some (.own a))->h.get? b=some u->h'.get? b=some u)
  (D:∀b,H b=some (.own a)->H' b=some (.own a)) (I:∀b m,H b=some (.tup m)->H' b=some (.tup m)):jy P w H' h' a o:=by
 induction o with
 |lst m=>obtain⟨z,l,n,r,e⟩:=x;exact⟨z,l,n,r,k _ _ (.inl rfl) e⟩
 |tup m=>obtain⟨z,l,r,g,e,c⟩:=x;exact⟨z,l,r,g,k _ _ (.inl rfl) e,c⟩
 |dK kvs=>obtain⟨z,y,E,r,g,i,j,e,c⟩:=x;exact⟨z,y,E,r,g,i,j,k _ _ (.inl rfl) e,c⟩
 |dT kvs=>obtain⟨z,y,m,r,g,i,j,e,c⟩:=x;exact⟨z,y,m,Paired.mapP r λp q z=>⟨z.1,I _ _ z.2.1,z.2.2⟩,g,i,j,k _ _ (.inl rfl) e,c⟩
 |set S n=>obtain⟨g,i,j,t,e,c⟩:=x;exact⟨g,i,j,t,k _ _ (.inl rfl) e,c⟩
 |ins C dx fs=>obtain⟨d,z,ne,e,A,⟨s,i,j,F,c⟩,r⟩:=x;exact⟨D _ d,z,ne,k _ _ (.inl rfl) e,A,⟨s,i,j,k _ _ (.inr d) F,c⟩,r⟩
 |own y=>obtain⟨g,e⟩:=x;exact⟨g,k _ _ (.inl rfl) e⟩
 |xd fs=>obtain⟨A,⟨s,i,j,e,c⟩,r⟩:=x;exact⟨A,⟨s,i,j,k _ _ (.inl rfl) e,c⟩,r⟩
 |rng lo hi=>obtain⟨t,u,v,e⟩:=x;exact⟨t,u,v,k _ _ (.inl rfl) e⟩
 |frz g u ih=>obtain⟨e,q⟩:=x;exact⟨k _ _ (.inl rfl) e,ih q⟩
 |tbl ps=>have e:=x;exact k a _ (.inl rfl) e
 |met f y=>have e:=x;exact k a _ (.inl rfl) e
 |ext φ=>obtain⟨p,⟨o,e⟩,B⟩:=x;exact⟨B _ _ p λo q=>k _ _ (.inl rfl) q,⟨o,k _ _ (.inl rfl) e⟩,B⟩
def ph.lt(x:ph P w H h)(e:H a=some o):a<h.objs.size:=(x a o e).lt
def ph.fresh(x:ph P w H h)(e:h.objs.size<=a):H a=none:=by
 cases q:H a with
 |none=>rfl
 |some u=>exact absurd (aD (x.lt q) e) (aZ _)
def ph.kept(x:ph P w H h)(k:∀b u,h.get? b=some u->h'.get? b=some u):ph P w H h':=λa o e=>(x a o e).stay (λb u _ q=>k b u q) (λ_ q=>q) λ_ _ q=>q
def ph.laid(x:ph P w H h)(k:∀b u,h.get? b=some u->h'.get? b=some u)(g:h.objs.size<=a)(new:jy P w (ja H a o) h' a o):ph P w (ja H a o) h':=λb u e=>by
 have f:=x.fresh g;by_cases d:b=a
 .subst d;rw[fR]at e;cases e;exact new
 .rw[fT d]at e;exact (x b u e).stay (λc v _ q=>k c v q) (λc q=>by rw[fT (gA q f)];exact q) λc i q=>by rw[fT (gA q f)];exact q
end
def Rd(H:Hp)(a:Addr)(u:HO):Prop:=H a=some u\/∃o,H a=some (.frz o u)
def Rd.ok(r:Rd H a u)(x:ph P w H h):jy P w H h a u:=by
 rcases r with r|⟨o,r⟩
 .exact x a u r
 .obtain⟨_,q⟩:=x a _ r;exact q
def QC:Option HO->Prop
 |some (.lst _)=>True
 |some (.dK _)=>True
 |some (.dT _)=>True
 |some (.set _ _)=>True
 |some (.ins _ _ _)=>True
 |some (.ext _)=>True
 |_=>False
section
variable {P:Program}{w:World}{H:Hp}{h h':Heap}{x e:Addr}{o':HO}
def ph.write(ok:ph P w H h)(l:QC (H x))(o:e=x\/H e=some (.own x))(k:∀b u,b≠e->h.get? b=some u->h'.get? b=some u)(m:∃u,h'.get? e=some u)
  (new:jy P w (ja H x o') h' x o'):ph P w (ja H x o') h':=λb u q=>by
 have d:∀c y,H c=some (.own y)->c≠x:=λc y r z=>by subst z;rw[r]at l;exact l
 have f:∀c i,H c=some (.tup i)->c≠x:=λc i r z=>by subst z;rw[r]at l;exact l
 by_cases j:b=x
 .subst j;rw[fR]at q;cases q;exact new
 .rw[fT j]at q;by_cases a:b=e
  .have n:H b=some (.own x):=by
    rcases o with z|z
    .exact absurd (a.trans z) j
    .rw[a];exact z
   rw[q]at n;cases n;obtain⟨v,p⟩:=m;exact⟨v,by rw[a];exact p⟩
  .refine (ok b u q).stay (λc v g r=>k c v ?_ r) (λc r=>by rw[fT (d c b r)];exact r) λc i r=>by rw[fT (f c i r)];exact r
   rcases g with rfl|g
   .exact a
   .rintro rfl;rcases o with z|z
    .exact d c b g z
    .rw[g]at z;cases z;exact j rfl
end
structure Un(fs ex:List Addr)(H H':Hp)(h h':Heap):Prop where
 keep:∀b o,h.get? b=some o->H b=none->b∉fs->b∉ex->h'.get? b=some o
 slot:∀b o,h.get? b=some o->H b=none->b∈fs->b∉ex->∃sl,h'.get? b=some {o with slots:=sl}
 free:∀b o,h.get? b=some o->H b=none->b∉ex->H' b=none
 there:∀b o,h.get? b=some o->b∉ex->∃o',h'.get? b=some o'
 tups:∀b xs,H b=some (.tup xs)->H' b=some (.tup xs)
 frzs:∀b o u,H b=some (.frz o u)->H' b=some (.frz o u)
 tbls:∀b ps,H b=some (.tbl ps)->∃more,H' b=some (.tbl (ps++more))
section
variable {fs fs' ex ex':List Addr}{H H1 H2:Hp}{h h1 h2 h':Heap}{a x e:Addr}{o:HO}
def Un.any(u:Un fs ex H H1 h h1)(q:h.get? b=some ob)(n:H b=none)(d:b∉ex):∃f,h1.get? b=some {ob with slots:=f}:=by
 by_cases c:b∈fs
 .exact u.slot b ob q n c d
 .exact⟨ob.slots,u.keep b ob q n c d⟩
def Un.kept(k:∀b u,h.get? b=some u->h'.get? b=some u):Un fs ex H H h h':=⟨λb c q _ _ _=>k b c q,λb c q _ _ _=>⟨c.slots,k b c q⟩,λ_ _ _ n _=>n,λb c q _=>⟨c,k b c q⟩,λ_ _ q=>q,λ_ _ _ q=>q,λ_ d q=>⟨#[],by rw[q];simp⟩⟩
def Un.refl:Un fs ex H H h h:=Un.kept λ_ _ q=>q
def Un.laid(k:∀b u,h.get? b=some u->h'.get? b=some u)(d:h.objs.size<=a)(c:H a=none):Un fs ex H (ja H a o) h h' where
 keep:=λb u q _ _ _=>k b u q
 slot:=λb u q _ _ _=>⟨u.slots,k b u q⟩
 free:=λb u q n _=>by rw[fT (aL (aD (aK q) d))];exact n
 there:=λb u q _=>⟨u,k b u q⟩
 tups:=λb f q=>by rw[fT (gA q c)];exact q
 frzs:=λb u f q=>by rw[fT (gA q c)];exact q
 tbls:=λb g q=>⟨#[],by rw[fT (gA q c),q];simp⟩
def Un.write(d:QC (H x))(l:e=x\/H e=some (.own x))(k:∀b u,b≠e->h.get? b=some u->h'.get? b=some u)(g:∃u,h'.get? e=some u):Un fs ex H (ja H x o) h h':=by
 have j:∀b,H b=none->b≠x:=λb n z=>by subst z;rw[n]at d;exact d
 have i:∀b,H b=none->b≠e:=λb n z=>by
  subst z;rcases l with r|r
  .exact j b n r
  .rw[n]at r;cases r
 have f:∀b u,H b=some u->¬QC (some u)->b≠x:=λb u q m z=>by subst z;rw[q]at d;exact m d
 refine⟨λb u q n _ _=>k b u (i b n) q,λb u q n _ _=>⟨u.slots,k b u (i b n) q⟩,λb u q n _=>by rw[fT (j b n)];exact n,λb u q _=>?_,
  λb p q=>by rw[fT (f b _ q λz=>z)];exact q,λb u p q=>by rw[fT (f b _ q λz=>z)];exact q,λb s q=>⟨#[],by rw[fT (f b _ q λz=>z),q];simp⟩⟩
 by_cases c:b=e
 .subst c;exact g
 .exact⟨u,k b u c q⟩
end
noncomputable def trk(h:Heap)(H:Hp):List Addr:=(List.range h.objs.size).filter λa=>(H a).isSome
def yS(h:Heap)(H:Hp):Heap:=W.hideAll h (trk h H)
def EC h H:(yS h H).objs.size=h.objs.size:=W.hideAll_size _ _
def Il(e:h.get? b=some o)(n:H b=none):(yS h H).get? b=some o:=W.hideAll_get _ e λa=>by have q:=(aT.mp a).2;rw[n]at q;simp at q
def JU(e:(yS h H).get? b=some o):h.get? b=some o/\H b=none:=by
 have a:=W.of_hideAll (trk h H) e;refine⟨a,?_⟩;cases q:H b with
 |none=>rfl
 |some x=>have c:b∈trk h H:=aT.mpr ⟨aR.mpr (aK a),by simp[q]⟩;have z:(yS h H).get? b=none:=W.hideAll_none (trk h H) c;rw[z]at e;cases e
end L2
namespace L2
open PySem PySem.Spec PyProof.Rows
structure Mod(K:W.Frag)(mg:Str->Option Value)(base:Heap):Prop where
 kin:K.In base
 glob:base.Ns mainGlobals mg
 blt:∃mb,base.Ns builtinsNs mb/\∀x:Str,x≠ "__name__" ->mb x=bootBuiltins x
 nolimit:base.NoLimit
structure Cx where
 prog:Program
 w:World
 K:W.Frag
 mg:Str->Option Value
 base:Heap
 A:Around
 N:List Str
 s₀:Shared
 H₀:Hp
 env:Env
 outer:List Env
 stack:List Env
 ex:List Addr
 fn:Str->Bool
 calm:Bool
 pn:List (Addr×Obj)
 xe:Vq->Shared->Prop
noncomputable def rh(l:List Env):List Addr:=l.filterMap (·.frame)
abbrev Cx.fs(X:Cx):List Addr:=rh X.outer
def PH(a:Scope)(x:Str):Prop:=a.names.lookup x=some .local\/a.names.lookup x=some .cell\/a.names.lookup x=some .free
def Bh(a:Scope)(x:Str):Prop:=a.names.lookup x=some .local\/a.names.lookup x=some .cell
def Rn(a:Env)(h:Heap)(m:Str->Option Value)(x:Str)(u:Vq):Prop:=(a.kindOf x=some .local/\m x=some u)\/((a.kindOf x=some .cell\/a.kindOf x=some .free)/\∃c,a.cells.lookup x=some c/\h.IsCell c (some u))
structure Cx.Ok(X:Cx):Prop where
 mod:Mod X.K X.mg X.base
 kind:X.env.scope.kind=.function
 glob:X.env.globals=mainGlobals
 blt:X.env.builtins=builtinsNs
 above:X.s₀.heap.objs.size<=X.env.locals
 inj:∀x y c,X.env.cells.lookup x=some c->X.env.cells.lookup y=some c->x=y
 has:∀x,(X.env.kindOf x=some .cell\/X.env.kindOf x=some .free)->∃c,X.env.cells.lookup x=some c
 cab:∀x c,X.fn x=true->X.env.cells.lookup x=some c->X.s₀.heap.objs.size<=c
 hd:X.calm=true->X.A.handled=none
 frames:X.A.frames=some X.stack
 stk:X.stack=X.outer\/(X.stack=X.env::X.outer/\X.env.frame=some X.env.locals)
 exf:∀b∈X.ex,b≠X.env.locals/\∀x c,X.env.cells.lookup x=some c->c≠b
 bs:∀b o,X.base.get? b=some o->X.s₀.heap.get? b=some o/\X.H₀ b=none
 bsz:X.base.objs.size<=X.s₀.heap.objs.size
 noex:∀b o,X.base.get? b=some o->b∉X.ex
 exfs:∀b∈X.ex,b∉X.fs
 funs:X.s₀.heap.FunFrames X.base X.outer
 frf:∀b∈X.fs,X.H₀ b=none
structure fV(X:Cx)(fw:List (Addr×Obj))(σ:List (Option V))(H:Hp)(s:Shared):Prop where
 ok:X.Ok
 os:s.os=X.s₀.os
 bare:AllBare s.gens
 base:Un X.fs X.ex X.H₀ H X.s₀.heap s.heap
 loc:∃m,s.heap.Ns X.env.locals m/\∀(i:Nat) (x:Str) (v:V),X.N[i]? = some x->σ[i]? = some (some v)->PH X.env.scope x->∃u,iw v u/\Rn X.env s.heap m x u
 cell:∀x c,X.env.cells.lookup x=some c->∃v,s.heap.IsCell c v
 free:H X.env.locals=none
 freeC:∀x c,X.env.cells.lookup x=some c->H c=none
 pin:∀p∈X.pn++fw,s.heap.get? p.1=some p.2/\H p.1=none/\p.1≠X.env.locals/\p.1∉X.fs/\∀v,p.2.data≠.cell v
 hok:ph X.prog X.w H s.heap
 len:σ.length=X.N.length
section
variable {X:Cx}{fw:List (Addr×Obj)}{σ:List (Option V)}{H H':Hp}{s:Shared}{h':Heap}
def Cx.Ok.nofr(ok:X.Ok)(e:X.base.get? b=some o):b∉X.fs:=λa=>by have:=(ok.funs.mem a).1;rw[e]at this;cases this
def fV.bs(I:fV X fw σ H s):∀b o,X.base.get? b=some o->s.heap.get? b=some o/\H b=none:=λb o e=>⟨I.base.keep b o (I.ok.bs b o e).1 (I.ok.bs b o e).2 (I.ok.nofr e) (I.ok.noex b o e),I.base.free b o (I.ok.bs b o e).1 (I.ok.bs b o e).2 (I.ok.noex b o e)⟩
def fV.bk(I:fV X fw σ H s):∀b o,X.base.get? b=some o->s.heap.get? b=some o:=λb o e=>(I.bs b o e).1
def fV.mod(I:fV X fw σ H s):Mod X.K X.mg X.base:=I.ok.mod
def fV.kIn(I:fV X fw σ H s):X.K.In s.heap:=I.ok.mod.kin.keeps I.bk
def fV.lt(I:fV X fw σ H s):X.env.locals<s.heap.objs.size:=let ⟨_,hn,_⟩:=I.loc;hn.lt
def fV.sz(I:fV X fw σ H s):X.s₀.heap.objs.size<=s.heap.objs.size:=aM I.ok.above (bf I.lt)
def fV.nofs(I:fV X fw σ H s)(h:s.heap.objs.size<=a):a∉X.fs:=λb=>by obtain⟨_,o,c,_⟩:=I.ok.funs.mem b;exact absurd (aD (aK c) (aM I.sz h)) (aZ _)
def fV.cne(I:fV X fw σ H s):∀x c,X.env.cells.lookup x=some c->c≠X.env.locals:=λx c e z=>by obtain⟨v,o,d,f⟩:=I.cell x c e;obtain⟨m,⟨h,g,i,a,b,_⟩,_⟩:=I.loc;rw[z,a]at d;cases d;rw[b]at f;cases f
def fV.funs(I:fV X fw σ H s):s.heap.FunFrames X.base X.outer:=by
 have all:∀(l:List Env),(∀b∈rh l,b∈X.fs)->X.s₀.heap.FunFrames X.base l->s.heap.FunFrames X.base l:=by
  intro l;induction l with
  |nil=>intro _ _;trivial
  |cons env r ih=>intro f h;obtain⟨j,⟨L,o,d,k,g,i⟩,hr⟩:=h;have c:=f L (by unfold rh;rw[bg,d];exact bh);obtain⟨m,e⟩:=I.base.slot L o g (I.ok.frf L c) c λz=>I.ok.exfs L z c;exact⟨j,⟨L,_,d,k,e,i⟩,ih (λb a=>f b (by unfold rh;rw[bg,d];exact bj _ a)) hr⟩
 exact all X.outer (λ_ a=>a) I.ok.funs
def fV.stack(I:fV X fw σ H s):s.heap.FunFrames X.base X.stack:=by
 rcases I.ok.stk with e|⟨e,a⟩
 .rw[e];exact I.funs
 .rw[e];obtain⟨m,b,_⟩:=I.loc;refine .cons (by rw[I.ok.kind];decide) a b ?_ I.funs;exact Heap.get?_none_of_le (aM I.ok.bsz I.ok.above)
def fV.stkSub(I:fV X fw σ H s):∀b∈rh X.stack,b∈X.env.locals::X.fs:=λb a=>by
 rcases I.ok.stk with e|⟨e,c⟩
 .rw[e]at a;exact bj _ a
 .rw[e]at a;unfold rh at a;rw[bg,c]at a;exact a
def fV.stkFree(I:fV X fw σ H s):∀b∈rh X.stack,H b=none:=λb a=>by
 rcases aE.mp (I.stkSub b a) with e|a
 .rw[e];exact I.free
 .obtain⟨_,o,c,_⟩:=I.ok.funs.mem a;exact I.base.free b o c (I.ok.frf b a) λz=>I.ok.exfs b z a
def fV.step{ch:List Addr}(I:fV X fw σ H s)
  (j:∀b∈ch,(b∈X.ex\/X.s₀.heap.objs.size<=b)/\b≠X.env.locals/\(∀x c,X.env.cells.lookup x=some c->c≠b)/\∀p∈X.pn++fw,p.1≠b)
  (keep:∀b o,b≠X.env.locals->b∉X.fs->b∉ch->s.heap.get? b=some o->H b=none->h'.get? b=some o)
  (C:∀b o,b≠X.env.locals->b∈X.fs->b∉ch->s.heap.get? b=some o->H b=none->∃Z,h'.get? b=some {o with slots:=Z}) (f:∀b o,b∉ch->s.heap.get? b=some o->H b=none->H' b=none)
  (D:∀b o,b∉ch->s.heap.get? b=some o->∃L,h'.get? b=some L)
  (K:∀b B,H b=some (.tup B)->H' b=some (.tup B)) (Q:∀b o u,H b=some (.frz o u)->H' b=some (.frz o u)) (N:∀b S,H b=some (.tbl S)->∃J,H' b=some (.tbl (S++J)))
  (ns:∀m,s.heap.Ns X.env.locals m->h'.Ns X.env.locals m) (hok:ph X.prog X.w H' h') (hg:AllBare g') :
  fV X fw σ H' {s with heap:=h',gens:=g',drawn:=d',toks:=t'}:=by
 have R:∀b o,X.s₀.heap.get? b=some o->b≠X.env.locals:=λb o e=>aL (aD (aK e) I.ok.above);have y:∀b o,X.s₀.heap.get? b=some o->b∉X.ex->b∉ch:=λb o e a E=>by
  rcases (j b E).1 with z|z
  .exact a z
  .exact absurd (aD (aK e) z) (aZ _)
 have g:∀x c,X.env.cells.lookup x=some c->∀v,s.heap.IsCell c v->h'.IsCell c v:=λx c e v ⟨o,F,Y⟩=>by
  have h:c∉ch:=λz=>(j c z).2.2.1 x c e rfl;by_cases hc:c∈X.fs
  .obtain⟨Z,q⟩:=C c o (I.cne x c e) hc h F (I.freeC x c e);exact⟨_,q,Y⟩
  .exact⟨o,keep c o (I.cne x c e) hc h F (I.freeC x c e),Y⟩
 refine⟨I.ok,I.os,hg,⟨λb o e n E a=>?_,λb o e n E a=>?_,λb o e n a=>?_,λb o e a=>?_,λb B e=>K b B (I.base.tups b B e),λb o B e=>Q b o B (I.base.frzs b o B e),λb S e=>?_⟩,?_,λx c e=>?_,?_,λx c e=>?_,λp hp=>?_,hok,I.len⟩
 .exact keep b o (R b o e) E (y b o e a) (I.base.keep b o e n E a) (I.base.free b o e n a)
 .obtain⟨Z,A⟩:=I.base.slot b o e n E a;obtain⟨U,P⟩:=C b _ (R b o e) E (y b o e a) A (I.base.free b o e n a);exact⟨U,P⟩
 .obtain⟨L,A⟩:=I.base.there b o e a;exact f b L (y b o e a) A (I.base.free b o e n a)
 .obtain⟨L,A⟩:=I.base.there b o e a;exact D b L (y b o e a) A
 .obtain⟨m1,A⟩:=I.base.tbls b S e;obtain⟨m2,P⟩:=N b _ A;exact⟨m1++m2,by rw[P,bu]⟩
 .obtain⟨m,hn,hl⟩:=I.loc;refine⟨m,ns m hn,λi x v A P e3=>?_⟩;obtain⟨u,r,l⟩:=hl i x v A P e3;refine⟨u,r,?_⟩;rcases l with l|⟨k,c,e,z⟩
  .exact .inl l
  .exact .inr ⟨k,c,e,g x c e _ z⟩
 .obtain⟨v,z⟩:=I.cell x c e;exact⟨v,g x c e v z⟩
 .obtain⟨m,⟨o,_,_,F,_⟩,_⟩:=I.loc;exact f _ o (λz=>(j _ z).2.1 rfl) F I.free
 .obtain⟨v,o,F,Y⟩:=I.cell x c e;exact f c o (λz=>(j c z).2.2.1 x c e rfl) F (I.freeC x c e)
 .obtain⟨e,n,ne,nf,d⟩:=I.pin p hp;have h:p.1∉ch:=λz=>(j p.1 z).2.2.2 p hp rfl;exact⟨keep p.1 p.2 ne nf h e n,f p.1 p.2 h e n,ne,nf,d⟩
def fV.un(I:fV X fw σ H s)(u:Un X.fs [] H H' s.heap h')(g:ph X.prog X.w H' h'):fV X fw σ H' {s with heap:=h',toks:=t'}:=by obtain⟨m,⟨o,q,v,h,r⟩,_⟩:=id I.loc;obtain⟨x,i⟩:=u.any h I.free (by simp);exact I.step (ch:=[]) (λ_ z=>nomatch z) (λb o _ d _ e n=>u.keep b o e n d (by simp)) (λb o _ d _ e n=>u.slot b o e n d (by simp)) (λb o _ e n=>u.free b o e n (by simp)) (λb o _ e=>u.there b o e (by simp)) u.tups u.frzs u.tbls (λp k=>by obtain⟨l,c,f,a,j⟩:=k;rw[h]at a;cases a;exact⟨_,c,f,i,j⟩) g I.bare
def fV.call(I:fV X fw σ H s)(u:Un (rh X.stack) ch H H' s.heap h')(j:ph X.prog X.w H' h')(l:AllBare g')
  (f:∀b∈ch,(b∈X.ex\/X.s₀.heap.objs.size<=b)/\b≠X.env.locals/\(∀x c,X.env.cells.lookup x=some c->c≠b)/\∀p∈X.pn++fw,p.1≠b) :
  fV X fw σ H' {s with heap:=h',gens:=g',drawn:=d',toks:=t'}:=by
 obtain⟨m,⟨o,C,D,k,r⟩,_⟩:=id I.loc;obtain⟨E,h⟩:=u.any k I.free λz=>(f _ z).2.1 rfl;exact I.step f (λb o h q a e n=>u.keep b o e n (λz=>(aE.mp (I.stkSub b z)).elim h q) a) (λb o _ _ a e n=>u.any e n a) (λb o a e n=>u.free b o e n a) (λb o a e=>u.there b o e a) u.tups u.frzs u.tbls (λB y=>by obtain⟨A,g,i,d,v⟩:=y;rw[k]at d;cases d;exact⟨_,g,i,h,v⟩) j l
def fV.turned(I:fV X fw σ H s)(k:∀b o,b≠it->s.heap.get? b=some o->h'.get? b=some o)(B:H it=none)(f:it≠X.env.locals)
  (i:it∈X.ex\/X.s₀.heap.objs.size<=it) (A:∀x c,X.env.cells.lookup x=some c->c≠it) (j:∀p∈X.pn++fw,p.1≠it):fV X fw σ H {s with heap:=h',toks:=t'}:=by
 have d:∀b u,H b=some u->b≠it:=λb u e z=>by rw[z,B]at e;cases e
 refine I.step (ch:=[it]) (λb w=>?_) (λb o _ _ a e _=>k b o (λz=>a (by simp[z])) e) (λb o _ _ a e _=>⟨o.slots,k b o (λz=>a (by simp[z])) e⟩) (λ_ _ _ _ n=>n)
  (λb o a e=>⟨o,k b o (λz=>a (by simp[z])) e⟩) (λ_ _ e=>e) (λ_ _ _ e=>e) (λb C e=>⟨#[],by rw[e];simp⟩) (λm y=>?_) (λb u e=>?_) I.bare
 .have e:b=it:=by simpa using w
  subst e;exact⟨i,f,A,j⟩
 .obtain⟨o,h,l,g,r⟩:=y;exact⟨o,h,l,k _ o (Ne.symm f) g,r⟩
 .refine (I.hok b u e).stay (λc v a q=>k c v ?_ q) (λ_ q=>q) λ_ _ q=>q;rcases a with z|z
  .rw[z];exact d b u e
  .exact d c _ z
def fV.tok(I:fV X fw σ H s) t:fV X fw σ H {s with toks:=t}:=I.un Un.refl I.hok
def fV.kept(I:fV X fw σ H s)(k:∀b u,s.heap.get? b=some u->h'.get? b=some u):fV X fw σ H {s with heap:=h',toks:=t'}:=I.un (Un.kept k) (I.hok.kept k)
def fV.laid(I:fV X fw σ H s)(k:∀b u,s.heap.get? b=some u->h'.get? b=some u)(c:s.heap.objs.size<=a)(new:jy X.prog X.w (ja H a o) h' a o) :
  fV X fw σ (ja H a o) {s with heap:=h',toks:=t'}:=I.un (Un.laid k c (I.hok.fresh c)) (I.hok.laid k c new)
def fV.write(I:fV X fw σ H s)(c:QC (H x))(d:e=x\/H e=some (.own x))(k:∀b u,b≠e->s.heap.get? b=some u->h'.get? b=some u)(a:∃u,h'.get? e=some u)
  (new:jy X.prog X.w (ja H x o) h' x o):fV X fw σ (ja H x o) {s with heap:=h',toks:=t'}:=I.un (Un.write c d k a) (I.hok.write c d k a new)
def fV.weak(I:fV X fw σ H s)(d:σ'.length=σ.length)(w:∀(i:Nat) v,σ'[i]? = some (some v)->σ[i]? = some (some v)):fV X fw σ' H s:=⟨I.ok,I.os,I.bare,I.base,let ⟨m,hn,hl'⟩:=I.loc;⟨m,hn,λi x v b a c=>hl' i x v b (w i v a) c⟩,I.cell,I.free,I.freeC,I.pin,I.hok,d.trans I.len⟩
def fV.pins_of(I:fV X fw σ H s)(h:∀p∈pins',s.heap.get? p.1=some p.2/\H p.1=none/\p.1≠X.env.locals/\p.1∉X.fs/\∀v,p.2.data≠.cell v):fV X pins' σ H s:=⟨I.ok,I.os,I.bare,I.base,I.loc,I.cell,I.free,I.freeC,λp a=>(ai.mp a).elim (λz=>I.pin p (ax _ z)) (h p),I.hok,I.len⟩
def uZ{N:List Str}(e:N.Nodup){i j:Nat}(a:N[i]? = some x)(b:N[j]? = some x):i=j:=by obtain⟨g,d⟩:=aa.mp a;obtain⟨f,c⟩:=aa.mp b;exact (List.getElem_inj e).mp (d.trans c.symm)
def xR{M:Model}{A:Around}{E:Vq->Shared->Prop}{i:Nat}{x:Str}{v:V}{u:Vq}{Q:Unit->Shared->Prop}(I:fV X fw σ H s)(hN:X.N.Nodup)(U:X.N[i]? = some x)(B:Bh X.env.scope x)(r:iw v u)
  (h:∀s',fV X fw (σ.set i (some v)) H s'->(∃a,Heap.SameBut a s.heap s'.heap/\(a=X.env.locals\/X.env.cells.lookup x=some a))->Q () s') (hf:X.fn x=true\/X.env.scope.names.lookup x=some .local:=by first|exact .inl rfl|exact .inr rfl|assumption):wpAny M A (storeName X.env x u) Q E s:=by
 obtain⟨m,hn,hl⟩:=id I.loc;have hcls:(X.env.scope.kind==.class||(X.env.scope.kind==.module&&X.env.locals != X.env.globals))=false:=by rw[I.ok.kind];rfl
 have J:i<σ.length:=by rw[I.len];exact (aa.mp U).1
 have cne:=I.cne;have tracked:∀{a:Addr} {h':Heap},(∃o,s.heap.get? a=some o/\H a=none)->Heap.SameBut a s.heap h'->ph X.prog X.w H h':=λ{a h'} ha f b ob e=>by
  obtain⟨_,_,C⟩:=ha;refine (I.hok b ob e).stay (λc w' l q=>(f.2 c ?_).trans q) (λ_ q=>q) λ_ _ q=>q;rintro rfl;rcases l with rfl|l
  .rw[C]at e;cases e
  .rw[C]at l;cases l
 rcases B with F|F
 .refine wpAny_storeName_local F hn (λh' hn' f=>?_) hcls;obtain⟨oL,_,_,hoL,_⟩:=id hn;refine h _ ⟨I.ok,I.os,I.bare,⟨λb o e n K B=>?_,λb o e n K B=>?_,I.base.free,λb o e B=>?_,I.base.tups,I.base.frzs,I.base.tbls⟩,⟨_,hn',λj y v' g D e3=>?_⟩,λy c e=>?_,I.free,I.freeC,λp hp=>?_,tracked ⟨oL,hoL,I.free⟩ f,by simpa using I.len⟩ ⟨_,f,.inl rfl⟩
  .exact (f.2 b (aL (aD (aK e) I.ok.above))).trans (I.base.keep b o e n K B)
  .obtain⟨sl,g⟩:=I.base.slot b o e n K B;exact⟨sl,(f.2 b (aL (aD (aK e) I.ok.above))).trans g⟩
  .obtain⟨o',g⟩:=I.base.there b o e B;exact⟨o',(f.2 b (aL (aD (aK e) I.ok.above))).trans g⟩
  .by_cases L:j=i
   .subst L;rw[U]at g;cases g;rw[List.getElem?_set_self J]at D;cases D;exact⟨u,r,.inl ⟨F,by simp⟩⟩
   .rw[aq (Ne.symm L)]at D;obtain⟨u',r',q⟩:=hl j y v' g D e3;refine⟨u',r',?_⟩;rcases q with⟨k,e⟩|⟨k,c,e,z⟩
    .refine .inl ⟨k,?_⟩;have:y≠x:=λe=>L (uZ hN g (e▸U));simp[this,e]
    .exact .inr ⟨k,c,e,z.sameBut f (cne y c e)⟩
  .obtain⟨w',z⟩:=I.cell y c e;exact⟨w',z.sameBut f (cne y c e)⟩
  .obtain⟨e,n,ne,nf,d⟩:=I.pin p hp;exact⟨(f.2 p.1 ne).trans e,n,ne,nf,d⟩
 .have P:X.fn x=true:=by
   rcases hf with z|z
   .exact z
   .rw[z]at F;cases F
  obtain⟨c,l⟩:=I.ok.has x (.inl F);obtain⟨w',z⟩:=I.cell x c l;refine wpAny_storeName_cell I.ok.kind F l z (λh' S f=>?_);obtain⟨oc,R,Z⟩:=id z;refine h {s with heap:=h'} ⟨I.ok,I.os,I.bare,⟨λb o e n K B=>?_,λb o e n K B=>?_,I.base.free,λb o e B=>?_,I.base.tups,I.base.frzs,I.base.tbls⟩,⟨m,hn.sameBut f (Ne.symm (cne x c l)),λj y v' g D e3=>?_⟩,λy c' e=>?_,I.free,I.freeC,λp hp=>?_,tracked ⟨oc,R,I.freeC x c l⟩ f,by simpa using I.len⟩ ⟨c,f,.inr l⟩
  .exact (f.2 b (aL (aD (aK e) (I.ok.cab x c P l)))).trans (I.base.keep b o e n K B)
  .obtain⟨sl,g⟩:=I.base.slot b o e n K B;exact⟨sl,(f.2 b (aL (aD (aK e) (I.ok.cab x c P l)))).trans g⟩
  .obtain⟨o',g⟩:=I.base.there b o e B;exact⟨o',(f.2 b (aL (aD (aK e) (I.ok.cab x c P l)))).trans g⟩
  .by_cases L:j=i
   .subst L;rw[U]at g;cases g;rw[List.getElem?_set_self J]at D;cases D;exact⟨u,r,.inr ⟨.inl F,c,l,S⟩⟩
   .rw[aq (Ne.symm L)]at D;obtain⟨u',r',q⟩:=hl j y v' g D e3;refine⟨u',r',?_⟩;rcases q with q|⟨k,c',e,z'⟩
    .exact .inl q
    .refine .inr ⟨k,c',e,z'.sameBut f ?_⟩;rintro rfl;exact L (uZ hN g (I.ok.inj _ _ _ e l▸U))
  .by_cases Y:c'=c
   .subst Y;exact⟨_,S⟩
   .obtain⟨w2,z2⟩:=I.cell y c' e;exact⟨w2,z2.sameBut f Y⟩
  .obtain⟨e,n,ne,nf,d⟩:=I.pin p hp;refine⟨(f.2 p.1 ?_).trans e,n,ne,nf,d⟩;intro q;rw[q,R]at e;have q':=Option.some.inj e;exact d w' (by rw[<-q'];exact Z)
def vQ{M:Model}{A:Around}{E:Vq->Shared->Prop}{i:Nat}{x:Str}{v:V}{u:Vq}{Q:Unit->Shared->Prop}(I:fV X fw σ H s)(f:X.N.Nodup)(e:X.N[i]? = some x)(c:Bh X.env.scope x)(r:iw v u)
  (h:∀a,fV X fw (σ.set i (some v)) H a->Q () a) (b:X.fn x=true\/X.env.scope.names.lookup x=some .local:=by first|exact .inl rfl|exact .inr rfl|assumption):wpAny M A (storeName X.env x u) Q E s:=
 xR I f e c r (λa d _=>h a d) b
def fV.call'(I:fV X fw σ H s)(f:s'.os=s.os)(u:Un (rh X.stack) ch H H' s.heap s'.heap)(a:ph X.prog X.w H' s'.heap)(g:AllBare s'.gens)
  (d:∀b∈ch,(b∈X.ex\/X.s₀.heap.objs.size<=b)/\b≠X.env.locals/\(∀x c,X.env.cells.lookup x=some c->c≠b)/\∀p∈X.pn++fw,p.1≠b):fV X fw σ H' s':=by
 obtain⟨h',k,j,h,i⟩:=s';have e:=f;subst e;exact I.call u a g d
end
abbrev XK:=Value->Option Addr->Hp->Prop
abbrev St:=List (Option V)
abbrev VK:=V->Hp->Prop
abbrev TE:=St->Hp->VK->Prop
abbrev TT:=St->Hp->(Bool->Hp->Prop)->Prop
abbrev TA:=St->Hp->(List V->Hp->Prop)->Prop
structure oZ where
 nx:St->Hp->Prop
 rt:VK
 bk:St->Hp->Prop:=λ_ _=>False
 ct:St->Hp->Prop:=λ_ _=>False
abbrev TS:=oZ->St->Hp->Prop
def EP(X:Cx)(d:List (Addr×Obj))(b:St)(Q:VK)(u:Vq)(c:Shared):Prop:=∃v a,fV X d b a c/\iw v u/\Q v a
def TP(X:Cx)(e:List (Addr×Obj))(c:St)(Q:Bool->Hp->Prop)(b:Bool)(d:Shared):Prop:=∃a,fV X e c a d/\Q b a
def AP(X:Cx)(e:List (Addr×Obj))(c:St)(Q:List V->Hp->Prop)(us:List Vq)(d:Shared):Prop:=∃a b,fV X e c b d/\gH a us/\Q a b
def SP(X:Cx)(d:List (Addr×Obj))(D:oZ)(f:Flow)(c:Shared):Prop:=
 match f with
 |.next=>∃a b,fV X d a b c/\D.nx a b
 |.brk=>∃a b,fV X d a b c/\D.bk a b
 |.cont=>∃a b,fV X d a b c/\D.ct a b
 |.ret u=>∃v a b,fV X d a b c/\iw v u/\D.rt v b
def PE(X:Cx)(e:Expr)(t:TE):Prop:=∀(b:List (Addr×Obj)) (s:Shared) (a:St) (H:Hp) (Q:VK),fV X b a H s->t a H Q->wpAny (model X.prog X.w) X.A (eval e X.env) (EP X b a Q) X.xe s
def PT(X:Cx)(e:Expr)(t:TT):Prop:=∀(b:List (Addr×Obj)) (s:Shared) (a:St) (H:Hp) (Q:Bool->Hp->Prop),fV X b a H s->t a H Q->wpAny (model X.prog X.w) X.A (isTrue e X.env (eval e X.env)) (TP X b a Q) X.xe s
def PW(X:Cx)(e:Expr)(t:TT):Prop:=∀(a:Sem Vq) (c:List (Addr×Obj)) (s:Shared) (b:St) (H:Hp) (Q:Bool->Hp->Prop),fV X c b H s->t b H Q->wpAny (model X.prog X.w) X.A (isTrue e X.env a) (TP X c b Q) X.xe s
def PW.pt(h:PW X e t):PT X e t:=h _
def PA(X:Cx)(d:List Expr)(t:TA):Prop:=∀(a:Pos) (c:List (Addr×Obj)) (s:Shared) (b:St) (H:Hp) (Q:List V->Hp->Prop),fV X c b H s->t b H Q->wpAny (model X.prog X.w) X.A (spliced (backTo a (starEach d X.env))) (AP X c b Q) X.xe s
def PS(X:Cx)(st:Stmt)(t:TS):Prop:=∀(b:List (Addr×Obj)) (s:Shared) (a:St) (H:Hp) (D:oZ),fV X b a H s->t D a H->wpAny (model X.prog X.w) X.A (exec st X.env) (SP X b D) X.xe s
def wV(X:Cx)(st:List Stmt)(t:TS):Prop:=∀(b:List (Addr×Obj)) (s:Shared) (a:St) (H:Hp) (D:oZ),fV X b a H s->t D a H->wpAny (model X.prog X.w) X.A (execs st X.env) (SP X b D) X.xe s
def jv{b:Type}{t:Sem b}{Q c:b->Shared->Prop}{M:Model}{A:Around}{E:Vq->Shared->Prop}{s:Shared}(h:wpAny M A t Q E s)(d:∀a s,Q a s->c a s):wpAny M A t c E s:=wpAny_mono h d λ_ _ x=>x
end L2
namespace L2
open PySem PySem.Spec PyProof.Rows
section
variable {X:Cx}
def lS(i:Nat):TE:=λa H Q=>∃v,a[i]? = some (some v)/\Q v H
def tC(v:V):TE:=λ_ H Q=>Q v H
def Mv(q:X.N[i]? = some x)(p:PH X.env.scope x)(f:(x==("__debug__" : Str))=false:=by decide)(g:(x==("__classdict__" : Str))=false:=by decide):PE X (.Name x pos) (lS i):=by
 intro o s k H Q I h;obtain⟨v,e,h⟩:=h;obtain⟨m,y,n⟩:=I.loc;obtain⟨u,r,l⟩:=n i x v q e p;have b:EP X o k Q u s:=⟨v,H,I,r,h⟩;rcases l with⟨d,w⟩|⟨d,c,j,a⟩
 .exact wpAny_Name (wpAny_loadName_local I.ok.kind d y w b) f
 .rcases d with d|d
  .exact wpAny_Name (wpAny_loadName_cell I.ok.kind d j a b) f
  .exact wpAny_Name (wpAny_loadName_free I.ok.kind d j a b g) f
def Og{i j pos}:PE X (.Constant (.int i) j pos) (tC (.int i)):=λ_ _ _ H _ I h=>wpAny_Constant_int ⟨.int i,H,I.tok _,⟨_,rfl⟩,h⟩
def PZ{b j pos}:PE X (.Constant (.bool b) j pos) (tC (.bl b)):=λ_ _ _ H _ I h=>Constant_bool ⟨.bl b,H,I,rfl,h⟩
def Nq{j pos}:PE X (.Constant .none j pos) (tC .non):=λ_ _ _ H _ I h=>Constant_none ⟨.non,H,I,rfl,h⟩
def yU{x j pos}:PE X (.Constant (.str x) j pos) (tC (.str x)):=λ_ _ _ H _ I h=>Calls.Constant_str ⟨.str x,H,I.tok _,⟨_,rfl⟩,h⟩
def Gl(X:Cx)(x:Str):Prop:=X.env.kindOf x=some .globalImplicit
def rM(I:fV X fw σ H s)(b:Gl X x)(a:X.mg x=some u)(h:Q u s)
  (c:(x==("__debug__" : Str))=false:=by decide):wpAny (model X.prog X.w) X.A (eval (.Name x pos) X.env) Q E s:=
 Calls.Name_function_global I.ok.kind b (Calls.loadGlobal_global (by rw[I.ok.glob];exact I.mod.glob.keeps I.bk) a h) c
def ot(I:fV X fw σ H s)(c:Gl X x)(a:X.mg x=none)(b:bootBuiltins x=some u)(h:Q u s)
  (g:x≠ "__name__" :=by decide) (d:(x==("__debug__" : Str))=false:=by decide):wpAny (model X.prog X.w) X.A (eval (.Name x pos) X.env) Q E s:=by
 obtain⟨i,f,e⟩:=I.mod.blt;exact Calls.Name_function_global I.ok.kind c (Calls.loadGlobal_builtin (by rw[I.ok.glob];exact I.mod.glob.keeps I.bk) a (by rw[I.ok.blt];exact f.keeps I.bk) ((e x g).trans b) h) d
def qj(b:Gl X x)(a:X.mg x=some u)(r:iw v u)(c:(x==("__debug__" : Str))=false:=by decide):PE X (.Name x pos) (tC v):=λ_ _ _ H _ I h=>rM I b a ⟨v,H,I,r,h⟩ c
def DD(c:Gl X x)(a:X.mg x=none)(b:bootBuiltins x=some u)(r:iw v u)(e:x≠ "__name__" :=by decide)(d:(x==("__debug__" : Str))=false:=by decide):PE X (.Name x pos) (tC v):=λ_ _ _ H _ I h=>ot I c a b ⟨v,H,I,r,h⟩ e d
variable {a b:Expr}{ta tb:TE}{pos:Pos}
def tB(t:TE):TT:=λe H Q=>t e H λx d=>∃c,x=.bl c/\Q c d
def Cj(h:PE X e t)(f:∀c,isTrue e X.env c=(do let v <-c;standAt e.pos;holding [v] (truthy v)):=by intro _;rfl):PT X e (tB t):=by intro i s g H Q I hw;refine isTrue_plain (jv (h i s g H _ I hw) λv s1 ⟨x,H1,I1,r1,q1⟩=>?_) (f _);obtain⟨d,rfl,q⟩:=q1;cases r1;exact wpAny_truthy_bool ⟨H1,I1,q⟩
variable {tA tB':TT}{lO:List Expr}
def Jk(t u:TT):TT:=λe H Q=>t e H λc d=>if c=true then u e d Q else Q false d
def Rx(t u:TT):TT:=λe H Q=>t e H λc d=>if c=true then Q true d else u e d Q
def JC(t:TT):TT:=λe H Q=>t e H λc d=>Q (!c) d
def Dp(g:PT X a tA):PW X (.BoolOp .And [a] pos) tA:=by
 intro i f s d H Q I h;refine isTrue_and (jv (g f s d H Q I h) λc j e=>?_);cases c with
 |true=>exact isTrue_and_nil e
 |false=>exact e
def OI(g:PT X a tA):PW X (.BoolOp .Or [a] pos) tA:=by
 intro i f s d H Q I h;refine isTrue_or (jv (g f s d H Q I h) λc j e=>?_);cases c with
 |false=>exact isTrue_or_nil e
 |true=>exact e
def G6(i:PT X a tA)(g:PW X (.BoolOp .And (b::lO) pos) tB'):PW X (.BoolOp .And (a::b::lO) pos) (Jk tA tB'):=by
 intro f e s d H Q I h;refine isTrue_and (jv (i e s d H _ I h) λc s1 ⟨H1,I1,q1⟩=>?_);cases c with
 |true=>exact g f e s1 d H1 Q I1 q1
 |false=>exact⟨H1,I1,q1⟩
def PB(i:PT X a tA)(g:PW X (.BoolOp .Or (b::lO) pos) tB'):PW X (.BoolOp .Or (a::b::lO) pos) (Rx tA tB'):=by
 intro f e s d H Q I h;refine isTrue_or (jv (i e s d H _ I h) λc s1 ⟨H1,I1,q1⟩=>?_);cases c with
 |true=>exact⟨H1,I1,q1⟩
 |false=>exact g f e s1 d H1 Q I1 q1
def IT(g:PT X a tA):PT X (.UnaryOp .Not a pos) (JC tA):=by intro f s e H Q I h;exact isTrue_not (g f s e H (λc d=>Q (!c) d) I h)
def GV(ta tb:TE):TE:=λe H Q=>ta e H λx d=>∃c,x=.bl c/\if c=true then tb e d Q else Q (.bl false) d
def HL(ta tb:TE):TE:=λe H Q=>ta e H λx d=>∃c,x=.bl c/\if c=true then Q (.bl true) d else tb e d Q
def CS(ta:TE):TE:=λe H Q=>ta e H λx d=>∃c,x=.bl c/\Q (.bl (!c)) d
def Gh{op}(h:PE X a t):PE X (.BoolOp op [a] pos) t:=λd s c H Q I hw=>BoolOp_one (h d s c H Q I hw)
def My(i:PE X a ta)(g:PE X (.BoolOp .And (b::lO) pos) tb):PE X (.BoolOp .And (a::b::lO) pos) (GV ta tb):=by
 intro f s e H Q I h;refine BoolOp_and (jv (i f s e H _ I h) λv s1 ⟨x,H1,I1,r1,d⟩=>?_);obtain⟨c,rfl,d⟩:=d;cases r1;refine wpAny_truthy_bool ?_;cases c with
 |true=>exact g f s1 e H1 Q I1 d
 |false=>exact⟨.bl false,H1,I1,rfl,d⟩
def LR(i:PE X a ta)(g:PE X (.BoolOp .Or (b::lO) pos) tb):PE X (.BoolOp .Or (a::b::lO) pos) (HL ta tb):=by
 intro f s e H Q I h;refine BoolOp_or (jv (i f s e H _ I h) λv s1 ⟨x,H1,I1,r1,d⟩=>?_);obtain⟨c,rfl,d⟩:=d;cases r1;refine wpAny_truthy_bool ?_;cases c with
 |false=>exact g f s1 e H1 Q I1 d
 |true=>exact⟨.bl true,H1,I1,rfl,d⟩
def FH(g:PE X a ta):PE X (.UnaryOp .Not a pos) (CS ta):=by intro f s e H Q I h;refine UnaryOp_ (jv (g f s e H _ I h) λv s1 ⟨x,H1,I1,r1,d⟩=>?_);obtain⟨c,rfl,d⟩:=d;cases r1;exact not_of (wpAny_truthy_bool ⟨.bl (!c),H1,I1,rfl,d⟩)
def Q5(t:TT)(ta tb:TE):TE:=λd H Q=>t d H λc e=>if c=true then ta d e Q else tb d e Q
def Ae(i:PT X c tA)(j:PE X a ta)(g:PE X b tb):PE X (.IfExp c a b pos) (Q5 tA ta tb):=by
 intro f s e H Q I h;refine wpAny_IfExp (jv (i f s e H _ I h) λd s1 ⟨H1,I1,q1⟩=>?_);cases d with
 |true=>exact j f s1 e H1 Q I1 q1
 |false=>exact g f s1 e H1 Q I1 q1
end
end L2
namespace L2
open PySem PySem.Spec PyProof.Rows
def lg(K:W.Frag)(H:Hp)(a:Addr)(c:List V):Prop:=
 Rd H a (.lst c)\/
  ∃(o:Obj) (b:Array Vq) (n:Nat),K.lookup a=some o/\o.cls=.type "list" /\o.dict=none/\o.data=.seq b n/\b.size<=sizeLine/\gH c b.toList
def mx(K:W.Frag)(H:Hp)(a:Addr)(c:List V):Prop:=
 Rd H a (.tup c)\/
  ∃(o:Obj) (b:Array Vq) (n:Nat),K.lookup a=some o/\o.cls=.type "tuple" /\o.data=.seq b n/\b.size<=sizeLine/\gH c b.toList
def RH:Vq->Option V
 |.none=>some .non
 |.bool b=>some (.bl b)
 |.int i _=>some (.int i)
 |.str x _=>some (.str x)
 |.bytes b _=>some (.byt b)
 |.float b _=>some (.flt b)
 |.ref a=>some (.ref a)
 |.type n=>some (.ty n)
 |_=>none
def iw.abs(r:iw x u):RH u=some x:=by
 cases x with
 |non=>cases r;rfl
 |bl _=>cases r;rfl
 |int _=>obtain⟨t,rfl⟩:=r;rfl
 |str _=>obtain⟨t,rfl⟩:=r;rfl
 |byt _=>obtain⟨t,rfl⟩:=r;rfl
 |flt _=>obtain⟨t,rfl⟩:=r;rfl
 |ref _=>cases r;rfl
 |ty _=>cases r;rfl
def iw.inj(r:iw x u)(q:iw y u):x=y:=Option.some.inj (r.abs.symm.trans q.abs)
theorem gH.inj:∀{xs ys} {us},gH xs us->gH ys us->xs=ys
 |_,_,_,.nil,.nil=>rfl
 |_,_,_,.cons r t,.cons r' t'=>by rw[r.inj r',gH.inj t t']
section
variable {X:Cx}{fw:List (Addr×Obj)}{σ:St}{H:Hp}{s:Shared}{a:Addr}{xs ys:List V}
def lg.of{K:W.Frag}(h:H a=some (.lst xs)):lg K H a xs:=.inl (.inl h)
def mx.of{K:W.Frag}(h:H a=some (.tup xs)):mx K H a xs:=.inl (.inl h)
def fV.list(I:fV X fw σ H s)(h:lg X.K H a xs):∃its:List Vq,gH xs its/\PlainL s.heap a its.toArray/\xs.length<=sizeLine:=by
 rcases h with h|⟨o,its,n,d,b,f,c,g,r⟩
 .obtain⟨z,its,n,r,e⟩:=h.ok I.hok;exact⟨its,r,⟨_,n,e,rfl,rfl,rfl⟩,z⟩
 .refine⟨its.toList,r,⟨o,n,I.kIn a o d,b,f,by simpa using c⟩,?_⟩;have e:=r.length;simp only[bx]at e;omega
def fV.tuple(I:fV X fw σ H s)(h:mx X.K H a xs):∃its:List Vq,gH xs its/\IsTup s.heap a its.toArray/\xs.length<=sizeLine:=by
 rcases h with h|⟨o,its,n,d,b,c,f,r⟩
 .obtain⟨z,its,r,p⟩:=h.ok I.hok;exact⟨its,r,p.tup,z⟩
 .refine⟨its.toList,r,⟨o,I.kIn a o d,b,n,by simpa using c⟩,?_⟩;have e:=r.length;simp only[bx]at e;omega
def fV.list_inj(I:fV X fw σ H s)(h:lg X.K H a xs)(k:lg X.K H a ys):xs=ys:=by
 obtain⟨c,r,⟨o,n,e,_,_,d⟩,_⟩:=I.list h;obtain⟨b,j,⟨l,m,f,_,_,g⟩,_⟩:=I.list k;rw[e]at f;cases f;rw[d]at g;injection g with i _;have:c=b:=by simpa using congrArg Array.toList i
 subst this;exact r.inj j
def fV.tuple_inj(I:fV X fw σ H s)(h:mx X.K H a xs)(k:mx X.K H a ys):xs=ys:=by
 obtain⟨c,r,⟨o,e,_,n,d⟩,_⟩:=I.tuple h;obtain⟨b,j,⟨l,f,_,m,g⟩,_⟩:=I.tuple k;rw[e]at f;cases f;rw[d]at g;injection g with i _;have:c=b:=by simpa using congrArg Array.toList i
 subst this;exact r.inj j
end
noncomputable abbrev Cx.wish(X:Cx)(E:Vq->Shared->Prop):Cx:={X with xe:=E}
abbrev Cx.nox(X:Cx):Cx:=X.wish λ_ _=>False
def Cx.Ok.wish{X:Cx}(ok:X.Ok) E:(X.wish E).Ok:=⟨ok.mod,ok.kind,ok.glob,ok.blt,ok.above,ok.inj,ok.has,ok.cab,ok.hd,ok.frames,ok.stk,ok.exf,ok.bs,ok.bsz,ok.noex,ok.exfs,ok.funs,ok.frf⟩
def Cx.Ok.unwish{X:Cx}(ok:(X.wish E).Ok):X.Ok:=⟨ok.mod,ok.kind,ok.glob,ok.blt,ok.above,ok.inj,ok.has,ok.cab,ok.hd,ok.frames,ok.stk,ok.exf,ok.bs,ok.bsz,ok.noex,ok.exfs,ok.funs,ok.frf⟩
section
variable {X:Cx}{fw:List (Addr×Obj)}{σ:St}{H:Hp}{s:Shared}{E:Vq->Shared->Prop}
def fV.wish(I:fV X fw σ H s) E:fV (X.wish E) fw σ H s:=⟨I.ok.wish E,I.os,I.bare,I.base,I.loc,I.cell,I.free,I.freeC,I.pin,I.hok,I.len⟩
def fV.unwish(I:fV (X.wish E) fw σ H s):fV X fw σ H s:=⟨I.ok.unwish,I.os,I.bare,I.base,I.loc,I.cell,I.free,I.freeC,I.pin,I.hok,I.len⟩
def SP.unwish(h:SP (X.wish E) fw D f s'):SP X fw D f s':=by
 cases f with
 |next=>obtain⟨a,b,I,q⟩:=h;exact⟨a,b,I.unwish,q⟩
 |brk=>obtain⟨a,b,I,q⟩:=h;exact⟨a,b,I.unwish,q⟩
 |cont=>obtain⟨a,b,I,q⟩:=h;exact⟨a,b,I.unwish,q⟩
 |ret u=>obtain⟨v,a,b,I,r,q⟩:=h;exact⟨v,a,b,I.unwish,r,q⟩
def wV.nox{st:List Stmt}(h:wV X.nox st t):wV X st t:=λfw s σ H D I hw=>wpAny_mono (h fw s σ H D (I.wish _) hw) (λ_ _ q=>q.unwish) λ_ _ z=>False.elim z
end
section
variable {X:Cx}{st:Stmt}{lO:List Stmt}{t u:TS}{e:Expr}{te:TE}{pos:Pos}
def Hv:TS:=λD a H=>D.nx a H
def zd(t u:TS):TS:=λD a H=>t {D with nx:=u D} a H
def Kw:wV X [] Hv:=λ_ _ a H _ I h=>wpAny_execs_nil ⟨a,H,I,h⟩
def pT(i:PS X st t)(c:wV X lO u):wV X (st::lO) (zd t u):=by
 intro b s g H D I h;refine wpAny_execs_cons (jv (i b s g H {D with nx:=u D} I h) λf d q=>?_);cases f with
 |next=>obtain⟨a,j,k,q⟩:=q;exact c b d a j D k q
 |ret v=>exact q
 |brk=>exact q
 |cont=>exact q
def zf(b:PS X st t):wV X [st] t:=by
 intro c s a H D I h;refine wpAny_execs_cons (jv (b c s a H D I h) λf d q=>?_);cases f with
 |next=>exact wpAny_execs_nil q
 |ret v=>exact q
 |brk=>exact q
 |cont=>exact q
def fV.quiet(I:fV X fw σ H s):interactive X.env=false:=by simp[interactive,I.ok.kind]
def sv(te:TE):TS:=λD a H=>te a H λ_ b=>D.nx a b
def uE(c:PE X e te)(b:swapsWith e none pos.line X.env=pure false:=by rfl):PS X (.Expr e pos) (sv te):=by intro d s a H D I h;exact wpAny_Expr_any (jv (c d s a H _ I h) λv s1 ⟨x,H1,I1,r1,q1⟩=>⟨a,H1,I1,q1⟩) I.quiet b
def yY(te:TE):TS:=λD a H=>te a H D.rt
def zN(b:PE X e te):PS X (.Return (some e) pos) (yY te):=by intro c s a H D I h;exact wpAny_Return_some (jv (b c s a H _ I h) λv s1 ⟨x,H1,I1,r1,q1⟩=>⟨x,a,H1,I1,r1,q1⟩)
def NQ(c:TT)(t u:TS):TS:=λD a H=>c a H λb d=>if b=true then t D a d else u D a d
def Qx(j:PT X c tc)(k:wV X a t)(i:wV X b u):PS X (.If c a b pos) (NQ tc t u):=by
 intro g s f H D I h;refine wpAny_If (jv (j g s f H _ I h) λd s1 ⟨H1,I1,q1⟩=>?_);cases d with
 |true=>exact k g s1 f H1 D I1 q1
 |false=>exact i g s1 f H1 D I1 q1
def zg:TS:=λ_ _ _=>False
def GM:PS X st zg:=λ_ _ _ _ _ _ h=>h.elim
end
abbrev TG:=V->St->Hp->(St->Hp->Prop)->Prop
abbrev Jw:=List V->St->Hp->(St->Hp->Prop)->Prop
def PG(X:Cx)(target:Expr)(t:TG):Prop:=
 ∀(d:List (Addr×Obj)) (s:Shared) (c:St) (H:Hp) (v:V) (u:Vq) (Q:St->Hp->Prop),fV X d c H s->iw v u->t v c H Q->
  wpAny (model X.prog X.w) X.A (assign target X.env u) (λ_ e=>∃a b,fV X d a b e/\Q a b) X.xe s
def OR(X:Cx)(ts:List Expr)(t:Jw):Prop:=
 ∀(e:List (Addr×Obj)) (s:Shared) (d:St) (H:Hp) (b:List V) (f:List Vq) (Q:St->Hp->Prop),fV X e d H s->gH b f->t b d H Q->
  wpAny (model X.prog X.w) X.A (assignInOrder ((assignEach ts X.env).map (·.2)) f) (λ_ g=>∃a c,fV X e a c g/\Q a c) X.xe s
abbrev P3:=V->V->V->Hp->(Hp->Prop)->Prop
def P8(X:Cx)(t:P3):Prop:=
 ∀(e:List (Addr×Obj)) (s:Shared) (c:St) (H:Hp) (o i v:V) (a d u:Vq) (Q:Hp->Prop),fV X e c H s->iw o a->iw i d->iw v u->t o i v H Q->
  wpAny (model X.prog X.w) X.A (setItem a d u) (λ_ f=>∃b,fV X e c b f/\Q b) X.xe s
section
variable {X:Cx}{pos:Pos}
def jj(i:Nat):TG:=λv a H Q=>Q (a.set i (some v)) H
def CV(e:X.N.Nodup)(d:X.N[i]? = some x)(b:Bh X.env.scope x)(a:X.fn x=true\/X.env.scope.names.lookup x=some .local:=by first|exact .inl rfl|exact .inr rfl|assumption):PG X (.Name x pos) (jj i):=by intro f s g H v u Q I r h;exact wpAny_assign_Name (vQ I e d b r (λj c=>⟨_,H,c,h⟩) a)
def E3:Jw:=λb a H Q=>b=[]/\Q a H
def wF(t:TG)(u:Jw):Jw:=λb d H Q=>∃v r,b=v::r/\t v d H λa c=>u r a c Q
def CN:OR X [] E3:=by intro c s a H b d Q I r h;obtain⟨e,h⟩:=h;subst e;cases r;exact assignInOrder_nil ⟨a,H,I,h⟩
theorem zZ(g:PG X e t)(d:OR X es u)
  (b:(assignEach (e::es) X.env).map (·.2)=assign e X.env::(assignEach es X.env).map (·.2):=by rfl):OR X (e::es) (wF t u):=by
 intro a s f H j k Q I r h;obtain⟨v,i,c,h⟩:=h;subst c;cases r with
 |cons r rr=>rw[b];refine assignInOrder_cons (jv (g a s f H _ _ _ I r h) λ_ s1 ⟨σ1,H1,I1,q1⟩=>?_);exact d a s1 σ1 H1 _ _ Q I1 rr q1
def Ey(K:W.Frag)(n:Nat)(t:Jw):TG:=λv c H Q=>∃a b,v=.ref a/\mx K H a b/\b.length=n/\t b c H Q
def HP(l:X.calm=true)(h:OR X es t)
  (z:(assignEach es X.env).length=n:=by rfl) (c:(assignEach es X.env).findIdx? (·.1)=none:=by rfl):PG X (.Tuple es k pos) (Ey X.K n t):=by
 intro i s f H v u Q I r hw;obtain⟨a,p,y,j,g,hw⟩:=hw;subst y;cases r;obtain⟨x,d,q,B⟩:=I.tuple j;refine assign_Tuple_tuple (I.ok.hd l) q (by simp[z,<-g,d.length]) c λA w=>?_;have m:=I.kept (t':=s.toks) λb o e=>w b o (aL (aK e)) e;exact h i _ f H p _ Q m (by simpa using d) hw
def OL(to c:TE)(t:P3):TG:=λv a H Q=>to a H λo e=>c a e λi b=>t o i v b λd=>Q a d
def NV(c:PE X o to)(e:PE X i ti)(d:P8 X t)
  (f:∀v,assign (.Subscript o i pos) X.env v=(do
   let ov <-holding [v] (eval o X.env)
   let iv <-holding [v,ov] (eval i X.env)
   standAt pos
   holding [v,ov,iv] (setItem ov iv v)
   release [v,ov,iv] []):=by intro _;rfl):PG X (.Subscript o i pos) (OL to ti t):=by
 intro b s a H v u Q I r h;rw[f];refine ao (wpAny_holding (jv (c b s a H _ I h) λov s1 ⟨x,H1,I1,r1,q1⟩=>?_));refine ao (wpAny_holding (jv (e b s1 a H1 _ I1 q1) λiv s2 ⟨y,H2,I2,r2,q2⟩=>?_));refine ao (wpAny_standAt (ao (wpAny_holding (jv (d b s2 a H2 x y v ov iv u _ I2 r1 r2 r q2) λ_ s3 ⟨H3,I3,q3⟩=>?_))));exact wpAny_release ⟨a,H3,I3,q3⟩
def mG(c:TE)(g:TG):TS:=λD a H=>c a H λx b=>g x a b D.nx
def IJ(d:PE X e te)(f:PG X tg g)(c:swapsWithSole [tg] e pos.line X.env=pure false:=by rfl)(hw:swappedStores [tg] e X.env=pure none:=by rfl)
  (i:(assignEach [tg] X.env).map (·.2)=[assign tg X.env]:=by rfl):PS X (.Assign [tg] e pos) (mG te g):=by
 intro b s a H D I h;refine wpAny_Assign_stores (jv (d b s a H _ I h) λv s1 ⟨x,H1,I1,r1,q1⟩=>?_) c hw;rw[i];exact jv (f b s1 a H1 x v _ I1 r1 q1) λ_ j q=>q
def sU(l:X.N.Nodup)(g:X.N[i]? = some x)(d:Bh X.env.scope x)(c:PE X e te)(a:swapsWith e (some (.Name x pos')) pos.line X.env=pure false:=by rfl)(b:X.fn x=true\/X.env.scope.names.lookup x=some .local:=by first|exact .inl rfl|exact .inr rfl|assumption) :
  PS X (.Assign [.Name x pos'] e pos) (mG te (jj i)):=by
 intro j s f H D I h;refine wpAny_Assign_Name (jv (c j s f H _ I h) λv s1 ⟨y,H1,I1,r1,q1⟩=>?_) a;exact vQ I1 l g d r1 (λm k=>⟨_,H1,k,q1⟩) b
end
section
variable {X:Cx}{pos:Pos}
def BL(c:TT)(h:TS):TS:=λD a H=>∃W:Nat->St->Hp->Prop,(∃m,W m a H)/\∀m a H,W m a H->
 c a H λb e=>if b=true then ∃N:St->Hp->Prop,(∀d f,N d f->∃g,g<m/\W g d f)/\h {D with nx:=N,ct:=N,bk:=D.nx} a e else D.nx a e
def Gm(y:PassesOwn (model X.prog X.w) X.A X.env X.xe)(C:PT X c tc)(K:wV X body tb):PS X (.While c body [] pos) (BL tc tb):=by
 intro m s B H D I h;obtain⟨W,⟨F,J⟩,i⟩:=h;refine wpAny_While (codeAny_whileLoop (λn Q=>∃e z,fV X m e z Q/\W n e z) ?_ F ⟨B,H,I,J⟩);rintro n L ⟨d,u,E,P⟩;refine wpAny_passesOwn y (jv (C m L d u _ E (i n d u P)) λb s2 ⟨H2,I2,j⟩=>?_);cases b with
 |true=>
  obtain⟨N,x,j⟩:=j;rw[aP rfl];refine wpAny_passesOwn y (jv (K m s2 d H2 _ I2 j) λf R k=>?_);cases f with
  |next=>obtain⟨a,g,o,r⟩:=k;obtain⟨l,p,q⟩:=x a g r;exact⟨l,p,a,g,o,q⟩
  |cont=>obtain⟨a,g,o,r⟩:=k;obtain⟨l,p,q⟩:=x a g r;exact⟨l,p,a,g,o,q⟩
  |brk=>exact k
  |ret v=>exact k
 |false=>rw[aQ aG];exact wpAny_execs_nil ⟨d,H2,I2,j⟩
end
structure It where
 go:Nat->Hp->Prop
 yld:Nat->Hp->V->Hp->Prop
 stop:Nat->Hp->Prop
def rC(X:Cx)(a:List (Addr×Obj))(H:Hp)(b:Addr):Prop:=H b=none/\b≠X.env.locals/\b∉X.fs/\(b∈X.ex\/X.s₀.heap.objs.size<=b)/\(∀x c,X.env.cells.lookup x=some c->c≠b)/\∀p∈X.pn++a,p.1≠b
def fV.fpOk(I:fV X fw σ H s)(a:s.heap.objs.size<=b)(f:H' b=none):rC X fw H' b:=by
 refine⟨f,bz (aD I.lt a),I.nofs a,.inr (aM I.sz a),λx c e z=>?_,λp d z=>?_⟩
 .obtain⟨v,q⟩:=I.cell x c e;exact absurd (aD q.lt (by rw[z];exact a)) (aZ _)
 .exact absurd (aD (aK (I.pin p d).1) (by rw[z];exact a)) (aZ _)
structure AV(P:Program)(w:World)(K:W.Frag)(tg:Expr)(J:It)(fp:List Addr)(it:Addr)(tn:Nat->Heap->Prop):Prop where
 mem:it∈fp
 obj:∀i h,tn i h->∀b∈fp,∃o,h.get? b=some o/\∀v,o.data≠.cell v
 keep:∀i h h',tn i h->(∀b∈fp,∀o,h.get? b=some o->h'.get? b=some o)->tn i h'
 item:∀(X:Cx),X.prog=P->X.w=w->X.K=K->X.calm=true->∀(i:Nat) (fw:List (Addr×Obj)) (s:Shared) (σ:St) (H:Hp) (E:Vq->Shared->Prop),fV X fw σ H s->(∀b∈fp,rC X fw H b)->tn i s.heap->J.go i H->
  wpAny (model P w) X.A (pyNext (.ref it)) (λr s1=>∃u,r=some u/\
   wpAny (model P w) X.A (letOwnedTupleGo tg (.ref it) u) (λ_ s2=>∃x H',fV X fw σ H' s2/\iw x u/\J.yld i H x H'/\tn (i+1) s2.heap/\∀b∈fp,H' b=none) E s1) E s
 done:∀(X:Cx),X.prog=P->X.w=w->X.K=K->X.calm=true->∀(i:Nat) (fw:List (Addr×Obj)) (s:Shared) (σ:St) (H:Hp) (E:Vq->Shared->Prop),fV X fw σ H s->(∀b∈fp,rC X fw H b)->tn i s.heap->J.stop i H->
  wpAny (model P w) X.A (pyNext (.ref it)) (λr s1=>r=none/\fV X fw σ H s1) E s
 self:∀(A:Around) (i:Nat) (s:Shared) (Q:Vq->Shared->Prop) (E:Vq->Shared->Prop),tn i s.heap->Q (.ref it) s->wpAny (model P w) A (pyIter (.ref it)) Q E s
abbrev TI:=St->Hp->(It->Hp->Prop)->Prop
def RQ(X:Cx)(g:List (Addr×Obj))(h:St)(i:Expr)(R:It->Hp->Prop)(c:Vq)(e:Shared):Prop:=∃(it:Addr) (f:List Addr) (d:Nat->Heap->Prop) (J:It) (a:Hp),c=.ref it/\fV X g h a e/\AV X.prog X.w X.K i J f it d/\d 0 e.heap/\(∀b∈f,rC X g a b)/\R J a
def PI(X:Cx)(f a:Expr)(d:TI):Prop:=
 ∀(c:List (Addr×Obj)) (s:Shared) (b:St) (H:Hp) (R:It->Hp->Prop),fV X c b H s->d b H R->
  wpAny (model X.prog X.w) X.A (eval a X.env) (λv e=>wpAny (model X.prog X.w) X.A (pyIter v) (RQ X c b f R) X.xe e) X.xe s
theorem Da{M:Model}{A:Around}{E:Vq->Shared->Prop}{s:Shared}{b:Expr}{it:Addr}{u:Vq}{o:Obj}{n:String}{vs:Array Vq}{Q:Unit->Shared->Prop}(d:s.heap.get? it=some o)(c:o.cls=.type n)(e:o.data=.fields vs)
    (f:["enumerate", "zip", "dict_itemiterator", "dict_reverseitemiterator", "odict_iterator", "itertools.zip_longest", "itertools.pairwise"].contains n=false) (a:Q () s):wpAny M A (letOwnedTupleGo b (.ref it) u) Q E s:=by
  unfold letOwnedTupleGo;cases b<;>first
    |exact ak a
    | (cases u<;>first
        |exact ak a
        | (refine ao (wpAny_load d ?_)
           rw[c,e]
           show wpAny M A (if (["enumerate", "zip", "dict_itemiterator", "dict_reverseitemiterator", "odict_iterator", "itertools.zip_longest", "itertools.pairwise"].contains n&&vs[0]? == some (rawInt _))=true then _ else _) Q E s
           rw[aQ (by intro h;rw[f,Bool.false_and]at h;cases h)]
           exact ak a))
noncomputable def Rp(K:W.Frag)(a:Addr):It:=⟨λi H=>∃b x,lg K H a b/\b[i]? = some x,λi H x c=>c=H/\∀b,lg K H a b->b[i]? = some x,λi H=>∃b,lg K H a b/\b.length<=i⟩
noncomputable def RK(K:W.Frag)(a:Addr):It:=⟨λi H=>∃b x,mx K H a b/\b[i]? = some x,λi H x c=>c=H/\∀b,mx K H a b->b[i]? = some x,λi H=>∃b,mx K H a b/\b.length<=i⟩
noncomputable def Py(a:Int)(n:Nat):It:=⟨λi _=>i<n,λi H x b=>b=H/\x=.int (a+i),λi _=>n<=i⟩
def EO{K:W.Frag} a it:AV P w K tg (Rp K a) [it] it (λi h=>h.IsListIter it a i) where
 mem:=by simp
 obj:=λi h f b g=>by
  have e:b=it:=by simpa using g
  subst e;obtain⟨o,e,c,d⟩:=f;exact⟨o,e,λv z=>by rw[d]at z;cases z⟩
 keep:=λi h Q f k=>f.at λo e=>k it (by simp) o e
 item:=by intro X C hw q N i Y s U H E I m f A;subst C hw q;obtain⟨xs,x,l,D⟩:=A;obtain⟨J,F,p,hz⟩:=I.list l;obtain⟨u,hu,ru⟩:=F.get D;obtain⟨B,L,f2,y,r,n⟩:=m it (by simp);refine wpAny_pyNext_list_item f p.isList (by simpa using hu) λQ j sb=>?_;have Z:=I.turned (t':=s.toks) (λb o g e=>(sb.2 b g).trans e) B L y r n;obtain⟨o,e,c,d⟩:=id j;exact⟨u,rfl,Da e c d (by decide) ⟨x,H,Z,ru,⟨rfl,λys R=>by rw[I.list_inj R l];exact D⟩,j,λb g=>(m b g).1⟩⟩
 done:=by intro X C hw q N i Y s U H E I m f A;subst C hw q;obtain⟨xs,l,D⟩:=A;obtain⟨J,F,p,hz⟩:=I.list l;obtain⟨B,L,f2,y,r,n⟩:=m it (by simp);have hl:=F.length;exact wpAny_pyNext_list_end (I.ok.hd N) f p.isList (by simp;omega) λQ S=>⟨rfl,I.turned (λb o g e=>S b o g e) B L y r n⟩
 self:=λ_ _ _ _ _ f h=>wpAny_pyIter_listiter f h
def Cy{K:W.Frag} a it:AV P w K tg (RK K a) [it] it (λi h=>h.IsTupleIter it a i) where
 mem:=by simp
 obj:=λi h f b g=>by
  have e:b=it:=by simpa using g
  subst e;obtain⟨o,e,c,d⟩:=f;exact⟨o,e,λv z=>by rw[d]at z;cases z⟩
 keep:=λi h Q f k=>f.at λo e=>k it (by simp) o e
 item:=by intro X C hw q N i Y s U H E I m f A;subst C hw q;obtain⟨xs,x,l,D⟩:=A;obtain⟨J,F,p,hz⟩:=I.tuple l;obtain⟨u,hu,ru⟩:=F.get D;obtain⟨B,L,f2,y,r,n⟩:=m it (by simp);refine wpAny_pyNext_tuple_item f (p) (by simpa using hu) λQ j sb=>?_;have Z:=I.turned (t':=s.toks) (λb o g e=>(sb.2 b g).trans e) B L y r n;obtain⟨o,e,c,d⟩:=id j;exact⟨u,rfl,Da e c d (by decide) ⟨x,H,Z,ru,⟨rfl,λys R=>by rw[I.tuple_inj R l];exact D⟩,j,λb g=>(m b g).1⟩⟩
 done:=by intro X C hw q N i Y s U H E I m f A;subst C hw q;obtain⟨xs,l,D⟩:=A;obtain⟨J,F,p,hz⟩:=I.tuple l;obtain⟨B,L,f2,y,r,n⟩:=m it (by simp);have hl:=F.length;exact wpAny_pyNext_tuple_end (I.ok.hd N) f (p) (by simp;omega) λQ S=>⟨rfl,I.turned (λb o g e=>S b o g e) B L y r n⟩
 self:=λ_ _ _ _ _ f h=>wpAny_pyIter_tupleiter f h
def CC{K:W.Frag} it lo n:AV P w K tg (Py lo n) [it] it (λi h=>IsRangeIter h it (lo+(i:Nat)*1) ((n:Int)-(i:Nat)) 1) where
 mem:=by simp
 obj:=λi h a b c=>by
  have e:b=it:=by simpa using c
  subst e;exact⟨_,a,λv z=>by have Q:=z;cases Q⟩
 keep:=λi h x a k=>k it (by simp) _ a
 item:=by intro X u hw j m i B s A H E I f a q;subst u hw j;obtain⟨r,y,N,p,l,g⟩:=f it (by simp);have W:=Walks.range (prog:=X.prog) (w:=X.w) (I.ok.hd m) it lo 1 n;refine W.item i s _ _ q a λv x L F d J=>?_;obtain⟨t,rfl⟩:=F;have D:fV X B A H {s with heap:=x,toks:=L}:=I.turned (λb o c e=>J b o (by simpa using c) e) r y p l g;refine⟨_,rfl,Da d rfl rfl (by decide) ⟨.int (lo+i),H,D,⟨t,?_⟩,⟨rfl,rfl⟩,d,λb c=>(f b c).1⟩⟩;rw[bA]
 done:=by intro X u hw j m i B s A H E I f a q;subst u hw j;obtain⟨r,y,N,p,l,g⟩:=f it (by simp);exact wpAny_pyNext_range_end (I.ok.hd m) a (by have:n<=i:=q;omega) λx C=>⟨rfl,I.turned (λb o c e=>C b o c e) r y p l g⟩
 self:=λ_ _ _ _ _ a h=>wpAny_pyIter_rangeiter a h
end L2
namespace L2
open PySem PySem.Spec PyProof.Rows
section
variable {X:Cx}{tg:Expr}
def FN(K:W.Frag)(e:TE):TI:=λc H R=>e c H λx b=>∃a,x=.ref a/\(∃d,lg K b a d)/\R (Rp K a) b
def M9(K:W.Frag)(e:TE):TI:=λc H R=>e c H λx b=>∃a,x=.ref a/\(∃d,mx K b a d)/\R (RK K a) b
def KB(d:PE X l tl):PI X tg l (FN X.K tl):=by
 intro f s c H R I h;refine jv (d f s c H _ I h) λv s1 ⟨x,H1,I1,r1,q1⟩=>?_;obtain⟨a,e,⟨k,g⟩,q⟩:=q1;subst e;cases r1;obtain⟨j,m,p,n⟩:=I1.list g;refine wpAny_pyIter_list p.isList ?_;refine⟨s1.heap.objs.size,[s1.heap.objs.size],_,_,H1,rfl,I1.kept λb o e=>ae _ e,EO a _,⟨_,ar _ rfl,rfl,rfl⟩,λb i=>?_,q⟩;have e:b=s1.heap.objs.size:=by simpa using i
 subst e;exact I1.fpOk (aJ _) (I1.hok.fresh (aJ _))
def NC(d:PE X l tl):PI X tg l (M9 X.K tl):=by
 intro f s c H R I h;refine jv (d f s c H _ I h) λv s1 ⟨x,H1,I1,r1,q1⟩=>?_;obtain⟨a,e,⟨k,g⟩,q⟩:=q1;subst e;cases r1;obtain⟨j,m,p,n⟩:=I1.tuple g;refine wpAny_pyIter_tuple (p) ?_;refine⟨s1.heap.objs.size,[s1.heap.objs.size],_,_,H1,rfl,I1.kept λb o e=>ae _ e,Cy a _,⟨_,ar _ rfl,rfl,rfl⟩,λb i=>?_,q⟩;have e:b=s1.heap.objs.size:=by simpa using i
 subst e;exact I1.fpOk (aJ _) (I1.hok.fresh (aJ _))
def II{a c:Int}(I:fV X fw σ H s)(j:-(2 ^ 62)<=a)(i:a<2 ^ 62)(k:-(2 ^ 62)<=c)(l:c<2 ^ 62)
  (q:R (Py a (c-a).toNat) H):wpAny (model X.prog X.w) X.A (pyIter (.ref s.heap.objs.size)) (RQ X fw σ tg R) E {s with heap:=s.heap.push {cls:=.type "range",data:=.fields #[.int a t,.int c u,.int 1 v]},toks:=tk}:=by
 refine wpAny_pyIter_range (IsRange.new ..) (small_one j i k l) ?_;have d:fV X fw σ H {s with heap:=s.heap.push {cls:=.type "range",data:=.fields #[.int a t,.int c u,.int 1 v]},toks:=tk}:=I.kept λb o e=>ae _ e;refine⟨(s.heap.push {cls:=.type "range",data:=.fields #[.int a t,.int c u,.int 1 v]}).objs.size,[(s.heap.push {cls:=.type "range",data:=.fields #[.int a t,.int c u,.int 1 v]}).objs.size],_,_,H,rfl,
  d.kept λb o e=>ae _ e,CC _ a (c-a).toNat,?_,λb f=>?_,q⟩
 .have h:a+((0:Nat):Int)*1=a:=by simp
  have g:(((c-a).toNat:Nat):Int)-((0:Nat):Int)=Builtin.Range.rangeSize a c 1:=by rw[rangeSize_one];split<;>omega
  rw[h,g];exact ar _ rfl
 .have e:b=(s.heap.push {cls:=.type "range",data:=.fields #[.int a t,.int c u,.int 1 v]}).objs.size:=by simpa using f
  subst e;exact d.fpOk (aJ _) (d.hok.fresh (aJ _))
def GY(b:TA):TI:=λd H R=>b d H λa c=>∃j:Int,a=[.int j]/\-(2 ^ 62)<=j/\j<2 ^ 62/\R (Py 0 j.toNat) c
def E5(g:Gl X "range")(c:X.mg "range" = none)(l:PA X [a] ta)(d:starEach [a] X.env=[(false,eval a X.env)]:=by rfl):PI X tg (.Call (.Name "range" p) [a] [] pos) (GY ta):=by
 intro k s i H R I h;refine Call_ (ot I g c boot_range (PyProof.Rows.callWith_type1 (jv (l pos k s i H _ I h) λus s1 ⟨vs,H1,I1,r1,b⟩=>?_) d rfl));obtain⟨j,e,b,f,q⟩:=b;subst e;cases r1 with
 |cons r rr=>cases rr;obtain⟨t,rfl⟩:=r;exact call_range_1 (II I1 (by omega) (by omega) b f (by simpa using q))
def Ji(j:TI)(g:TG)(f:TS):TS:=λD a H=>j a H λJ k=>∃W:Nat->Nat->St->Hp->Prop,(∃m,W 0 m a k)/\∀i m a H,W i m a H->
 (J.stop i H/\D.nx a H)\/(J.go i H/\∃N:St->Hp->Prop,(∀b c,N b c->∃e,e<m/\W (i+1) e b c)/\∀x c,J.yld i H x c->g x a c λd h=>f {D with nx:=N,ct:=N,bk:=D.nx} d h)
noncomputable def vq(a:List Addr)(h:Heap):List (Addr×Obj):=a.filterMap λb=>(h.get? b).map λo=>(b,o)
def oG(a:b∈fp)(e:h.get? b=some o):(b,o)∈vq fp h:=bB.mpr ⟨b,a,by rw[e];rfl⟩
def Ej(c:p∈vq fp h):p.1∈fp/\h.get? p.1=some p.2:=by
 obtain⟨b,a,e⟩:=bB.mp c;cases q:h.get? b with
 |none=>rw[q]at e;cases e
 |some o=>rw[q]at e;have d:=Option.some.inj e;subst d;exact⟨a,q⟩
def fV.pinned(I:fV X fw σ H s)(j:∀b∈fp,rC X fw H b)(i:∀b∈fp,∃o,s.heap.get? b=some o/\∀v,o.data≠.cell v):fV X (fw++vq fp s.heap) σ H s:=I.pins_of λp h=>(ai.mp h).elim (λz=>I.pin p (bC _ z)) λz=>by obtain⟨a,e⟩:=Ej z;obtain⟨f,k,g,_⟩:=j p.1 a;obtain⟨o,c,d⟩:=i p.1 a;rw[e]at c;cases c;exact⟨e,f,k,g,d⟩
def fV.unpinned(I:fV X (fw++pl) σ H s):fV X fw σ H s:=I.pins_of λp a=>I.pin p (bC _ (ax _ a))
theorem Ho(K:PassesOwn (model X.prog X.w) X.A X.env X.xe)(hc:X.calm=true)(hi:PI X tg iter wi)(hg:PG X tg g)(p:wV X body tb)
  (hs:∀x,foldedSetIterable iter X.env x=pure x:=by intro _;rfl):PS X (.For tg iter body [] pos) (Ji wi g tb):=by
 intro C s σ H D I h;refine wpAny_For (jv (hi C s σ H _ I h) λv s1 h1=>jv h1 λitv s2 h2=>?_) hs;obtain⟨it,E,tn,J,H2,e,I2,T,Z,f2,W,⟨m0,w0⟩,R⟩:=h2;subst e;have j:∀{z:Hp},(∀b∈E,z b=none)->∀b∈E,rC X C z b:=λhn b p=>⟨hn b p,(f2 b p).2⟩;refine codeAny_forLoop_any (λn s'=>∃i k z,fV X C k z s'/\tn i s'.heap/\(∀b∈E,z b=none)/\W i n k z) ?_ m0 ⟨0,σ,H2,I2,Z,λb p=>(f2 b p).1,w0⟩;rintro n s3 ⟨i,l,S,I3,P,L,w3⟩;rcases R i n l S w3 with⟨Q,qn⟩|⟨go,N,hN,step⟩
 .refine wpAny_passesOwn K (jv (T.done X rfl rfl rfl hc i C s3 l S X.xe I3 (j L) P Q) λr s4 ⟨hr,I4⟩=>?_);subst hr;exact wpAny_execs_nil ⟨l,S,I4,qn⟩
 .refine wpAny_passesOwn K (jv (T.item X rfl rfl rfl hc i C s3 l S X.xe I3 (j L) P go) λr s4 ⟨u,hr,h4⟩=>?_);subst hr;refine wpAny_passesOwn K (jv h4 λ_ s5 ⟨x,H5,I5,r5,y5,st5,fr5⟩=>?_);have U:=I5.pinned (j fr5) (T.obj _ _ st5);refine wpAny_passesOwn K (jv (hg _ s5 l H5 x u _ U r5 (step x H5 y5)) λ_ s6 ⟨σ6,H6,I6,q6⟩=>?_);refine wpAny_passesOwn K (jv (p _ s6 σ6 H6 _ I6 q6) λf Y B=>?_);have q:∀{a:St} {y:Hp},fV X (C++vq E s5.heap) a y Y->N a y->∃m,m<n/\∃i k z,fV X C k z Y/\tn i Y.heap/\(∀b∈E,z b=none)/\W i m k z:=λ{a y} c F=>by obtain⟨m',hm,w7⟩:=hN a y F;refine⟨m',hm,i+1,a,y,c.unpinned,T.keep _ _ _ st5 λb p o e=>(c.pin (b,o) (bC _ (bC _ (oG p e)))).1,λb p=>?_,w7⟩;obtain⟨o,e,d⟩:=T.obj _ _ st5 b p;exact (c.pin (b,o) (bC _ (bC _ (oG p e)))).2.1
  cases f with
  |next=>obtain⟨a,y,c,F⟩:=B;exact q c F
  |cont=>obtain⟨a,y,c,F⟩:=B;exact q c F
  |brk=>obtain⟨a,y,c,B⟩:=B;exact⟨a,y,c.unpinned,B⟩
  |ret v=>obtain⟨x7,a,y,c,r7,B⟩:=B;exact⟨x7,a,y,c.unpinned,r7,B⟩
end
end L2
namespace L2
open PySem PySem.Spec PyProof.Rows
abbrev R2:=V->V->Hp->VK->Prop
def pR(X:Cx)(f:Vq->Value->Sem Value)(r:R2):Prop:=
 ∀(b:List (Addr×Obj)) (s:Shared) (a:St) (H:Hp) (x y:V) (v u:Vq) (Q:VK),fV X b a H s->iw x v->iw y u->r x y H Q->
  wpAny (model X.prog X.w) X.A (f v u) (EP X b a Q) X.xe s
def Rh(X:Cx)(f:Vq->Sem Value)(r:V->Hp->VK->Prop):Prop:=
 ∀(b:List (Addr×Obj)) (s:Shared) (a:St) (H:Hp) (x:V) (v:Vq) (Q:VK),fV X b a H s->iw x v->r x H Q->
  wpAny (model X.prog X.w) X.A (f v) (EP X b a Q) X.xe s
def kj(X:Cx)(f:Vq)(r:List V->Hp->VK->Prop):Prop:=
 ∀(d:List (Addr×Obj)) (s:Shared) (b:St) (H:Hp) (c:List V) (a:List Vq) (Q:VK),fV X d b H s->gH c a->r c H Q->
  wpAny (model X.prog X.w) X.A (call f a) (EP X d b Q) X.xe s
def wR(r:R2)(d b:TE):TE:=λa H Q=>d a H λx e=>b a e λy c=>r x y c Q
def Rk(r:V->Hp->VK->Prop)(a:TE):TE:=λc H Q=>a c H λx b=>r x b Q
def rI(C:Int->Int->Prop)(g:Int->Int->V):R2:=λx y H Q=>∃i j,x=.int i/\y=.int j/\C i j/\Q (g i j) H
def BY(g:Int->Int->V):R2:=λx y H Q=>∃i j,x=.int i/\y=.int j/\Q (g i j) H
def rU(g:Int->V):V->Hp->VK->Prop:=λx H Q=>∃i,x=.int i/\Q (g i) H
section
variable {X:Cx}{a b c:Expr}{ta tb tc:TE}{pos:Pos}
def OB(m:PE X a ta)(k:PE X b tb){R:V->V->Hp->Prop}(I:fV X fw σ H s)
  (h:ta σ H λx j=>tb σ j λy d=>R x y d) {f:Vq->Value->Sem Value}
  (l:∀v u i x y d,fV X fw σ d i->iw x v->iw y u->R x y d->wpAny (model X.prog X.w) X.A (f v u) Q X.xe i) :
  wpAny (model X.prog X.w) X.A (eval a X.env) (λv g=>wpAny (model X.prog X.w) X.A (eval b X.env) (λu e=>wpAny (model X.prog X.w) X.A (f v u) Q X.xe e) X.xe g) X.xe s:=by
 refine jv (m fw s σ H _ I h) λv s1 ⟨x,j,I1,r1,q1⟩=>?_;refine jv (k fw s1 σ j _ I1 q1) λu i ⟨y,d,I2,r2,q2⟩=>?_;exact l v u i x y d I2 r1 r2 q2
def GW(d:pR X (binaryOp op) r)(m:PE X a ta)(j:PE X b tb):PE X (.BinOp a op b pos) (wR r ta tb):=by intro i s g H Q I h;exact wpAny_BinOp (OB m j I h λv u e x y k n f l q=>d i e g k x y v u Q n f l q)
def Qz(f:Rh X (unaryOp op) r)(g:PE X a ta):PE X (.UnaryOp op a pos) (Rk r ta):=by intro e s d H Q I h;exact UnaryOp_ (jv (g e s d H _ I h) λv s1 ⟨x,H1,I1,r1,q1⟩=>f e s1 d H1 x v Q I1 r1 q1)
def Q2{g:Int->Int->Int}
  (d:∀i j t u s Q E,C i j->Q (.int (g i j) s.toks) {s with toks:=s.toks+1}->wpAny (model X.prog X.w) X.A (f (.int i t) (.int j u)) Q E s) :
  pR X f (rI C λi j=>.int (g i j)):=by
 intro o s n H x y v u Q I e m h;obtain⟨i,j,rfl,rfl,k,q⟩:=h;obtain⟨t,rfl⟩:=e;obtain⟨l,rfl⟩:=m;exact d i j t l s _ _ k ⟨.int (g i j),H,I.tok _,⟨_,rfl⟩,q⟩
def Qm{g:Int->Int->Int}
  (d:∀i j t u s Q E,Q (.int (g i j) s.toks) {s with toks:=s.toks+1}->wpAny (model X.prog X.w) X.A (f (.int i t) (.int j u)) Q E s) :
  pR X f (BY λi j=>.int (g i j)):=by
 intro n s m H x y v u Q I e l h;obtain⟨i,j,rfl,rfl,q⟩:=h;obtain⟨t,rfl⟩:=e;obtain⟨k,rfl⟩:=l;exact d i j t k s _ _ ⟨.int (g i j),H,I.tok _,⟨_,rfl⟩,q⟩
def J7{g:Int->Int->Bool}
  (d:∀(i j:Int) (t u:Tok) (s:Shared) (Q:Vq->Shared->Prop) (E:Vq->Shared->Prop),Q (.bool (g i j)) s->wpAny (model X.prog X.w) X.A (f (.int i t) (.int j u)) Q E s) :
  pR X f (BY λi j=>.bl (g i j)):=by
 intro n s m H x y v u Q I e l h;obtain⟨i,j,rfl,rfl,q⟩:=h;obtain⟨t,rfl⟩:=e;obtain⟨k,rfl⟩:=l;exact d i j t k s _ _ ⟨.bl (g i j),H,I,rfl,q⟩
def Pk(i j:Int):Prop:=0<=j/\j<=1000000/\i.natAbs<2 ^ 64
def Ny:pR X (binaryOp .Add) (BY λi j=>.int (i+j)):=Qm λ_ _ _ _ _ _ _ q=>add_int q
def MJ:pR X (binaryOp .Sub) (BY λi j=>.int (i-j)):=Qm λ_ _ _ _ _ _ _ q=>sub_int q
def Ks:pR X (binaryOp .Mod) (rI (λ_ j=>j≠0) λi j=>.int (i.fmod j)):=Q2 λ_ _ _ _ _ _ _ d q=>mod_int' d q
def NK:pR X (binaryOp .Pow) (rI Pk λi j=>.int (i ^ j.toNat)):=Q2 λ_ _ _ _ _ _ _ d q=>pow_int_small d.1 d.2.1 d.2.2 q
def R3{g:Int->Int}
  (d:∀i t s Q E,Q (.int (g i) s.toks) {s with toks:=s.toks+1}->wpAny (model X.prog X.w) X.A (f (.int i t)) Q E s) :
  Rh X f (rU λi=>.int (g i)):=by
 intro k s j H x v Q I e h;obtain⟨i,rfl,q⟩:=h;obtain⟨t,rfl⟩:=e;exact d i t s _ _ ⟨.int (g i),H,I.tok _,⟨_,rfl⟩,q⟩
def Ms:Rh X (unaryOp .USub) (rU λi=>.int (-i)):=R3 λ_ _ _ _ _ q=>neg_int q
end
section
variable {X:Cx}{a b c:Expr}{ta tb tc:TE}{pos:Pos}
def Ha(I:fV X fw σ H s)(q:Q (.bl k) H)(e:k=k'):EP X fw σ Q (.bool k') s:=by subst e;exact⟨.bl k,H,I,rfl,q⟩
def rR:pR X (compareOp .Lt) (BY λi j=>.bl (decide (i<j))):=J7 λ_ _ _ _ _ _ _ q=>lt_int q
def wQ:pR X (compareOp .LtE) (BY λi j=>.bl (decide (i<=j))):=J7 λ_ _ _ _ _ _ _ q=>le_int q
def Dk:pR X (compareOp .Gt) (BY λi j=>.bl (decide (j<i))):=J7 λ_ _ _ _ _ _ _ q=>gt_int q
def xS:pR X (compareOp .GtE) (BY λi j=>.bl (decide (j<=i))):=J7 λ_ _ _ _ _ _ _ q=>ge_int q
def zv:pR X (compareOp .Is) (λx y H Q=>y=.non/\Q (.bl (decide (x=.non))) H):=by
 intro g s f H x y v u Q I d e h;obtain⟨rfl,q⟩:=h;cases e;refine is_none_gen (Ha I q ?_);cases x<;>first
  | (cases d;rfl)
  | (obtain⟨t,rfl⟩:=d;rfl)
def oq:pR X (compareOp .IsNot) (λx y H Q=>y=.non/\Q (.bl (!decide (x=.non))) H):=by
 intro g s f H x y v u Q I d e h;obtain⟨rfl,q⟩:=h;cases e;refine isnot_none_gen (Ha I q ?_);cases x<;>first
  | (cases d;rfl)
  | (obtain⟨t,rfl⟩:=d;rfl)
def sO b (h:op≠.In:=by decide) (d:op≠.NotIn:=by decide):behindInMarks op b=false:=by
 have f:(op==CmpOp.In)=false:=by cases op<;>first|rfl|exact absurd rfl h
 have e:(op==CmpOp.NotIn)=false:=by cases op<;>first|rfl|exact absurd rfl d
 cases b<;>simp[behindInMarks,f,e]
def JD(d:pR X (compareOp op) r)(m:PE X a ta)(j:PE X b tb)(n:behindInMarks op b=false):PE X (.Compare a [op] [b] pos) (wR r ta tb):=by intro i s g H Q I h;exact wpAny_Compare1 (OB m j I h λv u e x y k o f l q=>d i e g k x y v u Q o f l q) n
def AN(t:TE):TT:=λe H Q=>t e H λx d=>∃k,x=.bl k/\Q k d
def Kd(j:pR X (compareOp op) r)(l:PE X a ta)(i:PE X b tb)(g:behindInMarks op b=false):PT X (.Compare a [op] [b] pos) (AN (wR r ta tb)):=by
 intro f s d H Q I h;refine wpAny_isTrue_Compare1 (jv (l f s d H _ I h) λv s1 ⟨x,H1,I1,r1,q1⟩=>jv (i f s1 d H1 _ I1 q1) λu s2 ⟨y,H2,I2,r2,q2⟩=>jv (j f s2 d H2 x y v u _ I2 r1 r2 q2) λc s3 ⟨z,H3,I3,r3,k,e,q3⟩=>?_) g
 subst e;cases r3;exact wpAny_truthy_bool ⟨H3,I3,q3⟩
def BA(r j:R2)(ta tb tc:TE):TE:=λd H Q=>ta d H λx i=>tb d i λy f=>r x y f λz e=>∃k,z=.bl k/\
 (if k=true then tc d e λg h=>j y g h Q else Q (.bl false) e)
theorem IU(n:pR X (compareOp op) r)(i:pR X (compareOp op') r')(o:PE X a ta)(l:PE X b tb)(m:PE X c tc)
  (j:lastMarks [op,op'] [b,c]=false:=by with_unfolding_all rfl):PE X (.Compare a [op,op'] [b,c] pos) (BA r r' ta tb tc):=by
 intro g s f H Q I h;refine Compare_chain (jv (o g s f H _ I h) λv s1 ⟨x,H1,I1,r1,q1⟩=>chain_link (jv (l g s1 f H1 _ I1 q1) λu s2 ⟨y,H2,I2,r2,q2⟩=>jv (n g s2 f H2 x y v u _ I2 r1 r2 q2) λd s3 ⟨z,H3,I3,r3,k,e,q3⟩=>?_)) j
 subst e;cases r3;refine wpAny_truthy_bool ?_;cases k with
 |false=>exact ite_ff ⟨.bl false,H3,I3,rfl,q3⟩
 |true=>exact ite_tt (chain_last (jv (m g s3 f H3 _ I3 q3) λw' s4 ⟨z',H4,I4,r4,q4⟩=>i g s4 f H4 y z' u w' Q I4 r2 r4 q4))
def zk:(sizeLine:Nat)<2 ^ 63:=by rw[sizeLine_eq];decide
def B0:pR X (binaryOp .Add) (λx y H Q=>∃i j,x=.str i/\y=.str j/\i.length+j.length<=sizeLine/\Q (.str (i++j)) H):=by intro l s k H x y v u Q I d f h;obtain⟨i,j,rfl,rfl,g,q⟩:=h;obtain⟨t,rfl⟩:=d;obtain⟨e,rfl⟩:=f;exact add_str (λe m=>⟨.str (i++j),H,I.tok _,⟨_,rfl⟩,q⟩) g
def pH(r:gH [x] us):∃u,us=[u]/\iw x u:=by
 cases r with
 |cons r1 r2=>cases r2;exact⟨_,rfl,r1⟩
def LN(r:gH [x,y] us):∃u d,us=[u,d]/\iw x u/\iw y d:=by
 cases r with
 |cons r1 r2=>
  cases r2 with
  |cons r3 r4=>cases r4;exact⟨_,_,rfl,r1,r3⟩
def vR:kj X (.builtin "abs") (λd H Q=>∃i,d=[.int i]/\Q (.int (if i<0 then -i else i)) H):=by intro g s f H d j Q I r h;obtain⟨i,rfl,q⟩:=h;obtain⟨u,rfl,t,rfl⟩:=pH r;exact call_abs_int λu e=>⟨.int (if i<0 then -i else i),H,I.tok _,⟨_,rfl⟩,q⟩
def Fk(f:X.calm=true):kj X (.builtin "min") (λe H Q=>∃i j,e=[.int i,.int j]/\Q (.int (if j<i then j else i)) H):=by
 intro l s g H e p Q I r h;obtain⟨i,j,rfl,q⟩:=h;obtain⟨u,o,rfl,⟨t,rfl⟩,⟨m,rfl⟩⟩:=LN r;refine min_two_ints (I.ok.hd f) λv n k=>⟨_,H,I.kept k,?_,q⟩;by_cases d:j<i
 .rw[aP d,aP d];exact⟨_,rfl⟩
 .rw[aQ d,aQ d];exact⟨_,rfl⟩
def NW(K:W.Frag)(x:V)(H:Hp)(n:Nat):Prop:=
 match x with
 |.str y=>y.length<=sizeLine/\n=y.length
 |.byt y=>y.size<=sizeLine/\n=y.size
 |.ref p=>(∃d,lg K H p d/\n=d.length)\/∃d,mx K H p d/\n=d.length
 |_=>False
def FI:kj X (.builtin "len") (λf H Q=>∃x n,f=[x]/\NW X.K x H n/\Q (.int n) H):=by
 intro w s v H f z Q I r h;obtain⟨x,n,rfl,e,q⟩:=h;obtain⟨u,rfl,g⟩:=pH r;have A:=sizeLine_eq;cases x with
 |str y=>obtain⟨t,rfl⟩:=g;obtain⟨hy,d⟩:y.length<=sizeLine/\n=y.length:=e;subst d;exact len_str (by omega) ⟨.int _,H,I.tok _,⟨_,rfl⟩,q⟩
 |byt y=>obtain⟨t,rfl⟩:=g;obtain⟨hy,d⟩:y.size<=sizeLine/\n=y.size:=e;subst d;exact W.len_bytes (by omega) ⟨.int _,H,I.tok _,⟨_,rfl⟩,q⟩
 |ref p=>
  cases g;have d:=e;rcases d with⟨f,j,d⟩|⟨f,j,d⟩
  .subst d;obtain⟨l,m,i,o⟩:=I.list j;have k:=m.length;exact Calls.call_len_list i.isList (by simp only[bD];omega) ⟨.int f.length,H,I.tok _,⟨_,by simp only[bD];rw[k]⟩,q⟩
  .subst d;obtain⟨l,m,i,o⟩:=I.tuple j;have k:=m.length;exact len_tuple i (by simp only[bD];omega) ⟨.int f.length,H,I.tok _,⟨_,by simp only[bD];rw[k]⟩,q⟩
 |_=>exact (e).elim
end
end L2
namespace L2
open PySem PySem.Spec PyProof.Rows
structure Bo(h:Heap)(x dx C:Addr)(mA:Str->Option Value):Prop where
 obj:h.get? x=some (W.instObj C dx)
 ns:h.Ns1 dx mA
 ne:dx≠x
def Fx{h:Heap}(n:h.Ns1 dx mA):∃c,h.get? dx=some c/\∀name,W.lookIn name c=some (mA name):=by
 obtain⟨o,d,m,f,j,k,_,l⟩:=n;refine⟨o,f,λname=>?_⟩;have e:=l name;unfold nsFind findBy at e;rw[<-Array.find?_toList]at e;unfold W.lookIn;rw[j];dsimp only;split
 .rename_i y q;rw[q]at e;exact congrArg some e
 .rename_i q;rw[q]at e;have a:d.toList.any (·.refKey)=false:=by rw[List.any_eq_false];intro y g;obtain⟨z,t,b⟩:=k y (Array.mem_toList_iff.mp g);simp[DictEntry.refKey,b]
  have i:¬d.toList.any (·.refKey)=true:=by rw[a];exact aG
  rw[aQ i];exact congrArg some e
def Bo.look(I:Bo h x dx C mA):∃a,W.InstAt h x (W.instObj C dx) C (some a)/\∀name,W.lookIn name a=some (mA name):=
 let ⟨a,ho,hl⟩:=Fx I.ns
 ⟨a,⟨I.obj,rfl,rfl,ho⟩,hl⟩
section
variable {prog:Program}{w:World}{A:Around}{E:Vq->Shared->Prop}{s:Shared}{K:W.Frag}{x dx C f:Addr}{mA:Str->Option Value}{name:Str}{v:Vq}
def Lh(X:K.In s.heap)(I:Bo s.heap x dx C mA)(c:W.plainGet K C name=true)(g:W.hasDictIn K C=true)
  (e:W.findIn K (.ref C) name=some none) (b:mA name=some v) (a:W.handedIn v=true) (h:Q v {s with toks:=s.toks+1}) :
  wpAny (model prog w) A (getAttr (.ref x) name expr) Q E s:=by
 obtain⟨i,J,d⟩:=I.look;exact W.get_value X J (W.plainGet_of c).1 (W.findObj_own g e rfl (by rw[d,b])) a h
def Iu(X:K.In s.heap)(I:Bo s.heap x dx C mA)(a:W.plainGet K C name=true)
  (d:W.findIn K (.ref C) name=some (some (.ref f))) (b:W.isFn K (.ref f)=true) (c:mA name=none) (h:Q (.ref f,[.ref x]) s) :
  wpAny (model prog w) A (getMethod (.ref x) name pl) Q E s:=by
 obtain⟨e,J,g⟩:=I.look;exact W.method_fn X J (W.plainGet_of a).1 (W.plainGet_of a).2 d (beq_iff_eq.mp b) (by show (W.lookIn name e).map (·.isSome)=some false;rw[g,c];rfl) h
def Kc(X:K.In s.heap)(I:Bo s.heap x dx C mA)
  (r:W.findIn K (.ref C) "__setattr__" = some (some (.builtin "object.__setattr__"))) (q:W.plainOver K C=true) (o:W.takerIn K C name=some none) (n:W.hasDictIn K C=true)
  (hw:PySem.Within mA ns) (hsz:ns.length<=sizeLine)
  (h:∀d,Bo d x dx C (λy=>if y=name then some v else mA y)->Heap.SameBut dx s.heap d->Q () {s with heap:=d,toks:=s.toks+2}) :
  wpAny (model prog w) A (setAttr (.ref x) name v) Q E s:=by
 obtain⟨B,J,z⟩:=I.look;refine W.set_plain X J r (W.osa_open X J q o λb=>?_);obtain⟨u,k,e⟩:=W.any_some n;have p:=I.obj;refine ao (ak (ao (ao (wpAny_loadPart p (ao (W.Looks.here (W.looks_clsIn X k) ?_))))));rw[e];refine ak (ao (ak (ao ?_)));refine wpAny_nsSet1 I.ns λd c a=>?_;obtain⟨D,m,l,g,j,i⟩:=c.count (PySem.Within.cons name v hw);refine ao (wpAny_lookBehind g (by rw[j];exact pastItsLine_dict (aM i (by rw[ay];omega))) ?_);exact ak (h _ ⟨(a.2 _ (Ne.symm I.ne)).trans I.obj,c,I.ne⟩ a)
def GD(X:K.In s.heap)(b:W.makesIn K C=true)
  (e:W.findIn K (.ref C) "__init__" = some (some (.ref f))) (c:W.typeIn K (.ref f)=some (.type "function"))
  (h:codeAny (model prog w) (A.under (.builtin "type.__call__" ⟨.ref C::vs,kw⟩)) (.call (.ref f) ⟨.ref (s.heap.objs.size+1)::vs,kw⟩) (W.InitBack (s.heap.objs.size+1) R)
   {s with heap:=(s.heap.push W.emptyDict).push (W.instObj C s.heap.objs.size)}) :
  codeAny (model prog w) A (.call (.ref C) ⟨vs,kw⟩) R s:=by
 obtain⟨j,g,d,t,i⟩:=s;exact W.make_core (W.makes_of X b) (W.looks_findIn X e) (λa=>W.bind_fn X a c) (.inl rfl) h
end
def oW(f:Str)(v:V):List (Str×V)->List (Str×V)
 |[]=>[(f,v)]
 | (g,x)::r=>if g=f then (g,v)::r else (g,x)::oW f v r
theorem tX f g v:∀fs:List (Str×V),(oW f v fs).lookup g=if g=f then some v else fs.lookup g
 |[]=>by
  show List.lookup g [(f,v)]=_;by_cases h:g=f
  .have a:=beq_iff_eq.mpr h;simp only[List.lookup,a,aP h]
  .have a:=beq_eq_false_iff_ne.mpr h;simp only[List.lookup,a,aQ h]
 | (k,x)::r=>by
  have c:=tX f g v r;rw[show oW f v ((k,x)::r)=(if k=f then (k,v)::r else (k,x)::oW f v r) from rfl];by_cases b:k=f
  .rw[aP b];by_cases h:g=k
   .have a:=beq_iff_eq.mpr h;simp only[List.lookup,a,aP (h.trans b)]
   .have a:=beq_eq_false_iff_ne.mpr h;simp only[List.lookup,a,aQ (λe:g=f=>h (e.trans b.symm))]
  .rw[aQ b];by_cases h:g=k
   .have a:=beq_iff_eq.mpr h;simp only[List.lookup,a,aQ (λe:g=f=>b (h.symm.trans e))]
   .have a:=beq_eq_false_iff_ne.mpr h;simp only[List.lookup,a];exact c
theorem sJ f v:∀fs:List (Str×V),f∈(oW f v fs).map (·.1)/\∀g,g∈fs.map (·.1)->g∈(oW f v fs).map (·.1)
 |[]=>⟨by simp[oW],λg h=>by simp at h⟩
 | (k,x)::r=>by
  obtain⟨b,c⟩:=sJ f v r;rw[show oW f v ((k,x)::r)=(if k=f then (k,v)::r else (k,x)::oW f v r) from rfl];by_cases a:k=f
  .rw[aP a];subst a;exact⟨by simp,λg h=>by simpa using h⟩
  .rw[aQ a];refine⟨?_,λg h=>?_⟩
   .rw[bE];exact bj _ b
   .rw[bE]at h ⊢;rcases aE.mp h with e|e
    .exact aE.mpr (.inl e)
    .exact bj _ (c g e)
theorem tV f v:∀fs:List (Str×V),(oW f v fs).length<=fs.length+1
 |[]=>by simp[oW]
 | (k,x)::r=>by
  have b:=tV f v r;rw[show oW f v ((k,x)::r)=(if k=f then (k,v)::r else (k,x)::oW f v r) from rfl];by_cases a:k=f
  .rw[aP a,ay,ay];omega
  .rw[aQ a,ay,ay];omega
def uq.some_of(r:uq (some v) o):∃u,o=some u/\iw v u:=by
 cases o with
 |none=>exact (r).elim
 |some u=>exact⟨u,rfl,r⟩
def uq.none_of(r:uq none o):o=none:=by
 cases o with
 |none=>rfl
 |some u=>exact (r).elim
def DZ(r:iw v u):W.handedIn u=true:=by
 cases v with
 |non=>cases (r);rfl
 |bl b=>cases (r);rfl
 |int i=>obtain⟨t,e⟩:=(r);cases e;rfl
 |str x=>obtain⟨t,e⟩:=(r);cases e;rfl
 |byt b=>obtain⟨t,e⟩:=(r);cases e;rfl
 |flt b=>obtain⟨t,e⟩:=(r);cases e;rfl
 |ref a=>cases (r);rfl
 |ty n=>cases (r);rfl
section
variable {P:Program}{w:World}{H H':Hp}{h h':Heap}{a C dx:Addr}{fs fs':List (Str×V)}
def uw(c:ph P w H h)(e:H a=some (.ins C dx fs)):∃b,Bo h a dx C b/\(∀f,uq (fs.lookup f) (b f))/\PySem.Within b (fs.map (·.1))/\fs.length<=1000/\H dx=some (.own a):=by obtain⟨d,z,ne,g,b,n,r,q⟩:=(c a _ e);exact⟨b,⟨g,n,ne⟩,r,q,z,d⟩
end
structure xh(K:W.Frag)(C:Addr):Prop where
 pg:W.plainGet K C Str.empty=true
 hd:W.hasDictIn K C=true
 po:W.plainOver K C=true
 sa:W.findIn K (.ref C) "__setattr__" = some (some (.builtin "object.__setattr__"))
def xh.get{K:W.Frag}(c:xh K C) f:W.plainGet K C f=true:=c.pg
def lF(K:W.Frag)(C:Addr)(f:Str):Prop:=W.findIn K (.ref C) f=some none
def lF.taker{K:W.Frag}(n:lF K C f):W.takerIn K C f=some none:=by unfold W.takerIn;rw[show W.findIn K (.ref C) f=some none from n];rfl
structure FS(K:W.Frag)(C:Addr)(m:Str)(f:Addr):Prop where
 at_:W.findIn K (.ref C) m=some (some (.ref f))
 fn:W.isFn K (.ref f)=true
 kp:W.keepIn K (.ref f)=true
section
variable {X:Cx}{fw:List (Addr×Obj)}{σ:St}{H:Hp}{s:Shared}{a C dx:Addr}{fs:List (Str×V)}{f:Str}{v:V}{A:Around}{E:Vq->Shared->Prop}
def Bk(I:fV X fw σ H s)(e:H a=some (.ins C dx fs))(c:xh X.K C)(n:lF X.K C f)(l:fs.lookup f=some v)
  (h:∀u g,fV X fw σ H g->iw v u->Q u g):wpAny (model X.prog X.w) A (getAttr (.ref a) f b) Q E s:=by
 obtain⟨j,O,r,_,_,_⟩:=uw I.hok e;obtain⟨u,i,d⟩:=uq.some_of (by rw[<-l];exact r f);exact Lh I.kIn O (c.get f) c.hd n i (DZ d) (h u _ (I.tok _) d)
def vU(I:fV X fw σ H s)(e:H a=some (.ins C dx fs))(c:xh X.K C)(k:FS X.K C m g)(l:fs.lookup m=none)
  (h:Q (.ref g,[.ref a]) s):wpAny (model X.prog X.w) A (getMethod (.ref a) m pl) Q E s:=by
 obtain⟨d,O,r,_,_,_⟩:=uw I.hok e;have b:=uq.none_of (by rw[<-l];exact r m);exact Iu I.kIn O (c.get m) k.at_ k.fn b h
def Bf(I:fV X fw σ H s)(e:H a=some (.ins C dx fs))(c:xh X.K C)(n:lF X.K C f)(L:fs.length<1000)(x:iw y u)
  (h:∀k,fV X fw σ (ja H a (.ins C dx (oW f y fs))) k->Q () k):wpAny (model X.prog X.w) A (setAttr (.ref a) f u) Q E s:=by
 obtain⟨F,O,r,j,_,i⟩:=uw I.hok e;have J:(fs.map (·.1)).length<=sizeLine:=by rw[aw,sizeLine_eq];omega
 refine Kc I.kIn O c.sa c.po n.taker c.hd j J λB d D=>h _ ?_;have m:∃o,B.get? dx=some o:=let ⟨o,_,_,e',_⟩:=d.ns;⟨o,e'⟩;refine I.write (by rw[e];exact True.intro) (.inr i) (λb q p z=>(D.2 b p).trans z) m ?_;refine⟨by rw[fT O.ne];exact i,?_,O.ne,d.obj,_,d.ns,λg=>?_,λg l=>?_⟩
 .have:=tV f y fs;omega
 .rw[tX];by_cases q:g=f
  .rw[aP q,aP q];exact x
  .rw[aQ q,aQ q];exact r g
 .by_cases q:g=f
  .rw[q];exact (sJ f y fs).1
  .refine (sJ f y fs).2 g (j g λz=>l ?_);show (if g=f then some u else F g)=none;rw[aQ q];exact z
def fV.made(I:fV X fw σ H s):fV X fw σ (ja (ja H s.heap.objs.size (.own (s.heap.objs.size+1))) (s.heap.objs.size+1) (.ins C s.heap.objs.size []))
  {s with heap:=(s.heap.push W.emptyDict).push (W.instObj C s.heap.objs.size)}:=by
 have c:(s.heap.push W.emptyDict).get? s.heap.objs.size=some W.emptyDict:=ar s.heap rfl;have i:((s.heap.push W.emptyDict).push (W.instObj C s.heap.objs.size)).get? (s.heap.objs.size+1)=some (W.instObj C s.heap.objs.size):=by have:=ar (s.heap.push W.emptyDict) (o:=W.instObj C s.heap.objs.size) rfl;rwa [Heap.size_push]at this
 have j:(s.heap.push W.emptyDict).Ns s.heap.objs.size (λ_=>none):=⟨W.emptyDict,#[],_,c,rfl,(λe g=>absurd g (by simp)),λ_=>rfl⟩;have d:=I.laid (o:=.own (s.heap.objs.size+1)) (t':=s.toks) (λb u q=>ae _ q) (aJ _) ⟨_,c⟩;refine d.laid (λb u q=>ae _ q) (Nat.le_of_eq (Heap.size_push _ _)) ?_;have ne:s.heap.objs.size≠s.heap.objs.size+1:=aL (bF _);refine⟨by rw[fT ne,fR],bG _,ne,i,λ_=>none,(Heap.Ns1.of_empty j).at λo q=>ae _ q,λ_=>True.intro,λy h=>absurd rfl h⟩
def K9(c:attributeBase e f env (eval e env)=eval e env)
  (h:wpAny (model prog w) A (eval e env) (λo b=>wpAny (model prog w) A (getAttr o f true) Q E b) E s):wpAny (model prog w) A (eval (.Attribute e f pos) env) Q E s:=
 Attribute_any_ h (by rw[arm_eval_Attribute,c])
end
def NM(K:W.Frag)(c:TE)(f:Str):TE:=λe H Q=>c e H λx b=>∃a C d fs v,x=.ref a/\b a=some (.ins C d fs)/\xh K C/\lF K C f/\fs.lookup f=some v/\Q v b
def Ou(K:W.Frag)(e g:TE)(f:Str):TS:=λD b H=>g b H λy h=>e b h λx c=>∃a C d fs,x=.ref a/\c a=some (.ins C d fs)/\xh K C/\lF K C f/\fs.length<1000/\
 D.nx b (ja c a (.ins C d (oW f y fs)))
section
variable {X:Cx}{o e value:Expr}{f:Str}{pos pos' tpos:Pos}{ta tv:TE}
def MK(g:PE X e ta)(b:attributeBase e f X.env (eval e X.env)=eval e X.env):PE X (.Attribute e f pos) (NM X.K ta f):=by intro j s i H Q I h;refine K9 b (jv (g j s i H _ I h) λu s1 ⟨x,H1,I1,rx,a,C,dx,fs,v,ex,ea,c,n,l,q⟩=>?_);subst ex;obtain rfl:u=Value.ref a:=rx;exact Bk I1 ea c n l λp m k d=>⟨v,H1,k,d,q⟩
def Gn(j:PE X o ta)(g:PE X value tv)(i:swapsWith value (some (.Attribute o f pos')) pos.line X.env=pure false):PS X (.Assign [.Attribute o f pos'] value pos) (Ou X.K ta tv f):=by intro d s b H D I h;refine plainObj_wpAny_Assign_Attribute (jv (g d s b H _ I h) λu s1 ⟨y,H1,I1,ry,q⟩=>jv (j d s1 b H1 _ I1 q) λov s2 ⟨x,H2,I2,rx,a,C,dx,fs,ex,ea,c,n,l,q2⟩=>?_) i;subst ex;obtain rfl:ov=Value.ref a:=rx;exact Bf I2 ea c n l ry λm k=>⟨b,_,k,q2⟩
end
section
variable {X:Cx}{fw:List (Addr×Obj)}{σ:St}{H:Hp}{s:Shared}{A:Around}{E:Vq->Shared->Prop}{Q:Vq->Shared->Prop}{c:Vq}{b:Bool}
inductive pS(K:W.Frag)(H:Hp):V->Value->Prop where
 |non:pS K H .non (.type "NoneType")
 |bl (x:Bool):pS K H (.bl x) (.type "bool")
 |int (i:Int):pS K H (.int i) (.type "int")
 |str (x:Str):pS K H (.str x) (.type "str")
 |flt (x:UInt64):pS K H (.flt x) (.type "float")
 |lst {a:Addr} {xs:List V} (e:H a=some (.lst xs)):pS K H (.ref a) (.type "list")
 |frz {a:Addr} {o:Obj} {xs:List V} (e:H a=some (.frz o (.lst xs))):pS K H (.ref a) (.type "list")
 |tup {a:Addr} {xs:List V} (e:H a=some (.tup xs)):pS K H (.ref a) (.type "tuple")
 |dK {a:Addr} {kvs:List (qH×V)} (e:H a=some (.dK kvs)):pS K H (.ref a) (.type "dict")
 |dT {a:Addr} {kvs:List (List qH×V)} (e:H a=some (.dT kvs)):pS K H (.ref a) (.type "dict")
 |ins {a C dx:Addr} {fs:List (Str×V)} (e:H a=some (.ins C dx fs)) (cl:xh K C) (ha:W.findIn K (.ref C) "__class__" = some (some (.builtin "object.__class__")))
   (hn:W.specialIn K (.builtin "object.__class__") "__get__" = some (some (.builtin "getset_descriptor.__get__"))) (htk:W.takesIn K (.builtin "object.__class__")=some true)
   (hm:W.mroIn K C (.type "object")=some true):pS K H (.ref a) (.ref C)
def Ep(I:fV X fw σ H s)(d:iw x u)(ty:pS X.K H x t)(e:W.kitOne X.K t c=some b)(h:∀m,Q (.bool b) {s with toks:=m}) :
  wpAny (model X.prog X.w) A (call (.builtin "isinstance") [u,c]) Q E s:=by
 cases ty with
 |non=>cases (d);exact W.kia_one W.kitx_none I.kIn True.intro e (λz=>nomatch z) h
 |bl y=>cases (d);exact W.kia_one W.kitx_bool I.kIn True.intro e (λz=>nomatch z) h
 |int i=>obtain⟨t,q⟩:=(d);cases q;exact W.kia_one W.kitx_int I.kIn True.intro e (λz=>nomatch z) h
 |str y=>obtain⟨t,q⟩:=(d);cases q;exact W.kia_one W.kitx_str I.kIn True.intro e (λz=>nomatch z) h
 |flt y=>obtain⟨t,q⟩:=(d);cases q;exact W.kia_one W.kitx_float I.kIn True.intro e (λz=>nomatch z) h
 |@lst a j ea=>cases (d);obtain⟨_,_,n,_,f⟩:=(I.hok a _ ea);exact W.kia_one W.kitx_list I.kIn ⟨_,f,rfl⟩ e (λz=>nomatch z) h
 |@frz a ob j ea=>cases (d);obtain⟨_,_,_,n,_,f⟩:=(I.hok a _ ea);exact W.kia_one W.kitx_list I.kIn ⟨_,f,rfl⟩ e (λz=>nomatch z) h
 |@tup a j ea=>cases (d);obtain⟨_,_,_,p⟩:=(I.hok a _ ea);obtain⟨o,f,g,_⟩:=p;exact W.kia_one W.kitx_tuple I.kIn ⟨o,f,g⟩ e (λz=>nomatch z) h
 |@dK a kvs ea=>cases (d);obtain⟨_,_,r,_,p⟩:=(I.hok a _ ea);obtain⟨o,k,l,f,g,_⟩:=p;exact W.kia_one W.kitx_dict I.kIn ⟨o,f,g.1⟩ e (λz=>nomatch z) h
 |@dT a kvs ea=>cases (d);obtain⟨_,_,j,_,o,k,l,f,g,_⟩:=(I.hok a _ ea);exact W.kia_one W.kitx_dict I.kIn ⟨o,f,g.1⟩ e (λz=>nomatch z) h
 |@ins a C dx fs ea cl ha hn htk hm=>cases (d);obtain⟨B,O,_⟩:=uw I.hok ea;obtain⟨v,J,_⟩:=O.look;exact W.kia_one (W.kitx_own (cl.get _) cl.hd ha hn htk hm) I.kIn J e (λz=>nomatch z) h
end
end L2
namespace L2
open PySem PySem.Spec PyProof.Rows
structure iF(k:Nat)(A:Around):Prop where
 hd:A.handled=none
 dp:A.depth+3*k+5<recursionLimit
 un:A.units+16*k+200<cLine
def iF.mono(r:iF k A)(h:j<=k):iF j A:=⟨r.hd,by have:=r.dp;omega,by have:=r.un;omega⟩
def iF.deeper(r:iF (k+1) A) env:iF k (A.deeper env):=⟨r.hd,by have:=r.dp;show A.depth+1+3*k+5<_;omega,by have:=r.un;show A.units+3+16*k+200<_;omega⟩
def BO{A:Around}:(A.under (.builtin "type.__call__" ⟨.ref C::us,kw⟩)).depth=A.depth+1:=by first|rfl|simp[Around.under,Code.weight,Code.isCreation,Code.isGuard,Code.isCaller,Code.frames,Code.isFrame,guardIds]
def Bm{A:Around}:(A.under (.builtin "type.__call__" ⟨.ref C::us,kw⟩)).units=A.units+1:=by first|rfl|simp[Around.under,Code.cUnits,Code.frames,Code.isFrame]
def iF.make(r:iF (k+1) A) C us kw:iF k (A.under (.builtin "type.__call__" ⟨.ref C::us,kw⟩)):=⟨r.hd,by have:=r.dp;rw[BO];omega,by have:=r.un;rw[Bm];omega⟩
def iF.depth(r:iF k A):A.depth<recursionLimit:=by have:=r.dp;omega
def iF.units(r:iF k A):A.units+64<cLine:=by have:=r.un;omega
def qr:TA:=λ_ H Q=>Q [] H
def kY(c:TE)(e:TA):TA:=λa H Q=>c a H λx d=>e a d λf b=>Q (x::f) b
section
variable {X:Cx}{e:Expr}{es:List Expr}{te:TE}{t:TA}{pos:Pos}
def mU:PA X [] qr:=λ_ _ _ _ H Q I h=>Calls.spliced_nil ⟨[],H,I,.nil,h⟩
def i9(d:PE X e te)(hr:PA X es t)(c:starEach (e::es) X.env=(false,eval e X.env)::starEach es X.env:=by rfl):PA X (e::es) (kY te t):=by intro pos b s a H Q I h;rw[c];refine Calls.spliced_cons (jv (d b s a H _ I h) λu s1 ⟨x,H1,I1,r1,q1⟩=>?_);exact jv (hr pos b s1 a H1 _ I1 q1) λus s2 ⟨xs,H2,I2,r2,q2⟩=>⟨x::xs,H2,I2,.cons r1 r2,q2⟩
def LA(t:TA):TE:=λc H Q=>t c H λb a=>b.length<=sizeLine/\∀p,a p=none->Q (.ref p) (ja a p (.tup b))
def NA(t:TA):TE:=λc H Q=>t c H λb a=>b.length<=sizeLine/\∀p,a p=none->Q (.ref p) (ja a p (.lst b))
def Io{x1}(h:PA X es t):PE X (.Tuple es x1 pos) (LA t):=by intro f s d H Q I a;refine wpAny_Tuple_spliced (jv (h pos f s d H _ I a) λus s1 ⟨xs,H1,I1,r,z,q⟩=>⟨by rw[<-r.length];exact z,?_⟩);have c:=I1.hok.fresh (aJ _);refine⟨.ref s1.heap.objs.size,ja H1 s1.heap.objs.size (.tup xs),I1.laid (λb u e=>ae _ e) (aJ _) ?_,rfl,q _ c⟩;exact⟨z,us,r,⟨_,ar _ rfl,rfl,_,rfl,rfl⟩⟩
def N5(h:PA X es t):PE X (.List es pos) (NA t):=by intro f s d H Q I a;refine wpAny_List_spliced (jv (h pos f s d H _ I a) λus s1 ⟨xs,H1,I1,r,z,q⟩=>⟨by rw[<-r.length];exact z,?_⟩);have c:=I1.hok.fresh (aJ _);refine⟨.ref s1.heap.objs.size,ja H1 s1.heap.objs.size (.lst xs),I1.laid (λb u e=>ae _ e) (aJ _) ?_,rfl,q _ c⟩;exact⟨z,us,0,r,ar _ rfl⟩
end
abbrev Sp:=List V->Hp->VK->XK->Prop
abbrev Js:=List Env->Hp->Shared->XK->Value->Shared->Prop
structure CH(P:Program)(w:World)(K:W.Frag)(mg:Str->Option Value)(base:Heap)(A:Around)(outer:List Env)(s:Shared)(H:Hp):Prop where
 frames:A.frames=some outer
 mod:Mod K mg base
 bs:∀b o,base.get? b=some o->s.heap.get? b=some o/\H b=none
 bsz:base.objs.size<=s.heap.objs.size
 funs:s.heap.FunFrames base outer
 frf:∀b∈rh outer,H b=none
 hok:ph P w H s.heap
 bare:AllBare s.gens
def CE(a:List Env)(P:Program)(w:World)(H:Hp)(s:Shared)(Q:VK)(u:Vq)(b:Shared):Prop:=∃v c,b.os=s.os/\AllBare b.gens/\Un (rh a) [] H c s.heap b.heap/\ph P w c b.heap/\iw v u/\Q v c
def CR(c:Js)(a:List Env)(P:Program)(w:World)(H:Hp)(s:Shared)(Q:VK)(E:XK)(r:Result)(b:Shared):Prop:=
 match r with
 |.ok (.ret u)=>CE a P w H s Q u b
 |.ok _=>False
 |.error e=>c a H s E e b
structure mv(P:Program)(w:World)(K:W.Frag)(mg:Str->Option Value)(base:Heap)(CX:Js)(k:Nat)(f:Addr)(fd:FuncData)(ps:List Str)(sp:Sp):Prop where
 len:∀vs H Q E,sp vs H Q E->vs.length=ps.length
 run:∀(A:Around) (outer:List Env) (s:Shared) (H:Hp) (args:Args) (us:List Vq) (vs:List V) (Q:VK) (E:XK),iF k A->CH P w K mg base A outer s H->BindsTo s fd args (ps.zip us)->gH vs us->sp vs H Q E->
  codeAny (model P w) A (.call (.ref f) args) (CR CX outer P w H s Q E) s
def mv.mono{K:W.Frag}(F:mv P w K mg base CX j f fd ps sp)(h:j<=k) :
  mv P w K mg base CX k f fd ps sp:=⟨F.len,λA a s H b d c Q E hr=>F.run A a s H b d c Q E (hr.mono h)⟩
def mv.imp{K:W.Frag}(F:mv P w K mg base CX k f fd ps sp)
  (h:∀vs H Q E,sp' vs H Q E->sp vs H Q E):mv P w K mg base CX k f fd ps sp':=
 ⟨λvs H Q E q=>F.len vs H Q E (h _ _ _ _ q),λA a s H b i vs Q E hr g c d e=>F.run A a s H b i vs Q E hr g c d (h _ _ _ _ e)⟩
def CH.make{K:W.Frag}(e:CH P w K mg base A outer s H) C us kw :
  CH P w K mg base (A.under (.builtin "type.__call__" ⟨.ref C::us,kw⟩)) outer s H:=⟨by first|exact e.frames|(simpa[Around.under,Code.envs,Code.isFrame,pushEnvs] using e.frames),e.mod,e.bs,e.bsz,e.funs,e.frf,e.hok,e.bare⟩
section
variable {X:Cx}{fw:List (Addr×Obj)}{σ:St}{H:Hp}{s s':Shared}
def fV.env0(I:fV X fw σ H s):CH X.prog X.w X.K X.mg X.base X.A X.stack s H:=⟨I.ok.frames,I.ok.mod,I.bs,aM I.ok.bsz I.sz,I.stack,I.stkFree,I.hok,I.bare⟩
def fV.after(I:fV X fw σ H s)(h:CE X.stack X.prog X.w H s Q u s'):EP X fw σ Q u s':=by obtain⟨v,i,f,a,un,e,r,q⟩:=h;obtain⟨j,g,d,t,c⟩:=s';obtain rfl:c=s.os:=f;exact⟨v,i,I.call un e a (λb z=>absurd z (by simp)),r,q⟩
end
def rD(c:Sp)(a:List V)(E:XK)(t:TA):TE:=λe H Q=>t e H λb d=>c (b++a) d Q E
def r0(C:Addr)(m:Str)(i:Sp)(b:List V)(E:XK)(g:TE)(t:TA):TE:=λd H Q=>g d H λx c=>∃a h fs,x=.ref a/\c a=some (.ins C h fs)/\fs.lookup m=none/\
 t d c λf e=>i (x::(f++b)) e Q E
def DB(C:Addr)(f:Sp)(b:List V)(E:XK)(t:TA):TE:=λg H Q=>t g H λe c=>∀x a,c x=none->c a=none->a≠x->
 f (.ref x::(e++b)) (ja (ja c a (.own x)) x (.ins C a [])) (λv d=>v=.non/\Q (.ref x) d) E
def nV(K:W.Frag)(fd:FuncData)(c:List Str)(b:List Vq):Prop:=∀(s:Shared) (a:List Vq),K.In s.heap->(a++b).length=c.length->BindsTo s fd ⟨a,[]⟩ (c.zip (a++b))
def nV.all{K:W.Frag}(h:∀us:List Vq,us.length=ps.length->bindArgs fd ⟨us,[]⟩=pure (ps.zip us)):nV K fd ps []:=λs us _ a=>by rw[bH]at a ⊢;exact .of_eq (h us a)
def lT(d:Js)(X:Cx)(E:XK):Prop:=∀(c:List (Addr×Obj)) (b:St) (H:Hp) (s:Shared) (e:Vq) (a:Shared),fV X c b H s->d X.stack H s E e a->X.xe e a
section
variable {X:Cx}{CX:Js}{k:Nat}{f C:Addr}{fd:FuncData}{ps:List Str}{sp:Sp}{dvs:List V}{ds:List Vq}{E:XK}{x m:Str}{p pos apos:Pos}{e o:Expr}{es:List Expr}{ta:TE}{t:TA}
theorem BS(F:mv X.prog X.w X.K X.mg X.base CX k f fd ps sp)(hr:iF k X.A)(c:nV X.K fd ps ds)(g:gH dvs ds)(d:lT CX X E)
  (I:fV X fw σ H s) (r:gH vs us) (h:sp (vs++dvs) H Q E):wpAny (model X.prog X.w) X.A (call (.ref f) us) (EP X fw σ Q) X.xe s:=by
 have b:=r.append g;have j:(us++ds).length=ps.length:=by rw[<-b.length];exact F.len _ _ _ _ h
 refine wpAny_call (codeAny_mono (F.run X.A X.stack s H ⟨us,[]⟩ (us++ds) (vs++dvs) Q E hr I.env0 (c s us I.kIn j) b h) λr i a=>?_);cases r with
 |error e=>exact d fw σ H s e i I a
 |ok fl=>
  cases fl with
  |ret u=>exact I.after a
  |next=>exact False.elim a
  |brk=>exact False.elim a
  |cont=>exact False.elim a
def Du(F:mv X.prog X.w X.K X.mg X.base CX k f fd ps sp)(hr:iF k X.A)(g:Gl X x)(v:X.mg x=some (.ref f))(n:W.keepIn X.K (.ref f)=true)(j:nV X.K fd ps ds)(i:gH dvs ds)(l:lT CX X E)
  (u:PA X (e::es) t) (a:(x==("__debug__" : Str))=false:=by decide) (y:starEach (e::es) X.env=(false,eval e X.env)::starEach es X.env:=by rfl) (b:(backTo pos (starEach es X.env)).any (·.1)=false:=by rfl) :
  PE X (.Call (.Name x p) (e::es) [] pos) (rD sp dvs E t):=by
 intro d s c H Q I h;refine wpAny_Call_Name_kw (rM I g v ?_ a);refine W.callWith_K I.ok.mod.kin n (jv (u pos d s c H _ I h) λus s1 ⟨vs,H1,I1,r,q⟩=>⟨I1.kIn,?_⟩) y b;exact BS F hr j i l I1 r q
def Lx(D:PE X o ta)(c:xh X.K C)(j:FS X.K C m f)(F:mv X.prog X.w X.K X.mg X.base CX k f fd ps sp)(hr:iF k X.A)(v:nV X.K fd ps ds)(n:gH dvs ds)(z:lT CX X E)(B:PA X (e::es) t)
  (b:starEach (e::es) X.env=(false,eval e X.env)::starEach es X.env:=by rfl) (d:(backTo pos (starEach es X.env)).any (·.1)=false:=by rfl)
  (y:eval (.Call (.Attribute o m apos) (e::es) [] pos) X.env=(do
   let ov <-eval o X.env
   standAt apos.atName
   let (f,first) <-holding [ov] (getMethod ov m pl)
   callWith pos f first (backTo pos (starEach (e::es) X.env)) (backToKw pos (keywordEach [] X.env))):=by rfl) :
  PE X (.Call (.Attribute o m apos) (e::es) [] pos) (r0 C m sp dvs E ta t):=by
 intro i s g H Q I h;refine W.methodCall_KW (jv (D i s g H _ I h) λu s1 ⟨x,H1,I1,rx,a,dx,fs,ex,ea,l,q⟩=>?_) y;subst ex;obtain rfl:u=Value.ref a:=rx;refine vU I1 ea c j l ?_;refine W.callWith_K I.ok.mod.kin j.kp (jv (B pos i s1 g H1 _ I1 q) λus s2 ⟨vs,H2,I2,r,q2⟩=>⟨I2.kIn,?_⟩) b d;exact BS (vs:=.ref a::vs) F hr v n z I2 (.cons rfl r) q2
def Ht(i:PE X o ta)(c:xh X.K C)(b:FS X.K C m f)(F:mv X.prog X.w X.K X.mg X.base CX k f fd ps sp)(hr:iF k X.A)(d:nV X.K fd ps ds)(n:gH dvs ds)(j:lT CX X E)
  (g:eval (.Call (.Attribute o m apos) [] [] pos) X.env=(do
   let ov <-eval o X.env
   standAt apos.atName
   let (f,first) <-holding [ov] (getMethod ov m pl)
   callWith pos f first (backTo pos (starEach [] X.env)) (backToKw pos (keywordEach [] X.env))):=by rfl) :
  PE X (.Call (.Attribute o m apos) [] [] pos) (r0 C m sp dvs E ta qr):=by
 intro v s r H Q I h;refine W.methodCall_KW (jv (i v s r H _ I h) λu s1 ⟨x,H1,I1,rx,a,dx,fs,ex,ea,l,q⟩=>?_) g;subst ex;obtain rfl:u=Value.ref a:=rx;refine vU I1 ea c b l ?_;exact W.callWith_K0 I1.kIn b.kp (BS (vs:=[.ref a]) F hr d n j I1 (.cons rfl .nil) q)
structure Mk(K:W.Frag)(C f:Addr):Prop where
 makes:W.makesIn K C=true
 init:W.findIn K (.ref C) "__init__" = some (some (.ref f))
 fn:W.isFn K (.ref f)=true
 kp:W.keepIn K (.ref C)=true
theorem G5(M:Mk X.K C f)(F:mv X.prog X.w X.K X.mg X.base CX k f fd ps sp)(hr:iF (k+1) X.A)(q:nV X.K fd ps ds)(i:gH dvs ds)
  (z:lT CX X E) (I:fV X fw σ H s) (r:gH vs us)
  (h:∀x dx,H x=none->H dx=none->dx≠x->sp (.ref x::(vs++dvs)) (ja (ja H dx (.own x)) x (.ins C dx [])) (λv y=>v=.non/\Q (.ref x) y) E) :
  wpAny (model X.prog X.w) X.A (call (.ref C) us) (EP X fw σ Q) X.xe s:=by
 have d:=h (s.heap.objs.size+1) s.heap.objs.size (I.hok.fresh (bI _)) (I.hok.fresh (aJ _)) (aL (bF _));have b:=fV.made (C:=C) I;have c:gH (V.ref (s.heap.objs.size+1)::(vs++dvs)) (Value.ref (s.heap.objs.size+1)::(us++ds)):=.cons rfl (r.append i);have g:(Value.ref (s.heap.objs.size+1)::us++ds).length=ps.length:=by have e:=c.length;rw[F.len _ _ _ _ d]at e;exact e.symm
 refine wpAny_call (GD I.kIn M.makes M.init (beq_iff_eq.mp M.fn) (codeAny_mono (F.run _ X.stack _ _ ⟨Value.ref (s.heap.objs.size+1)::us,[]⟩ (Value.ref (s.heap.objs.size+1)::(us++ds)) _ _ E (hr.make C us [])
  (b.env0.make C us []) (q _ (Value.ref (s.heap.objs.size+1)::us) b.kIn g) c d) λr J a=>?_))
 cases r with
 |error e=>exact z fw σ _ _ e J b a
 |ok fl=>
  cases fl with
  |ret u=>obtain⟨v,D,n,B,l,j⟩:=b.after a;subst l;exact⟨B,⟨V.ref (s.heap.objs.size+1),D,n,rfl,j⟩⟩
  |next=>exact False.elim a
  |brk=>exact False.elim a
  |cont=>exact False.elim a
def LG(M:Mk X.K C f)(F:mv X.prog X.w X.K X.mg X.base CX k f fd ps sp)(hr:iF (k+1) X.A)(g:Gl X x)(u:X.mg x=some (.ref C))(j:nV X.K fd ps ds)(i:gH dvs ds)(l:lT CX X E)
  (n:PA X (e::es) t) (a:(x==("__debug__" : Str))=false:=by decide) (v:starEach (e::es) X.env=(false,eval e X.env)::starEach es X.env:=by rfl) (b:(backTo pos (starEach es X.env)).any (·.1)=false:=by rfl) :
  PE X (.Call (.Name x p) (e::es) [] pos) (DB C sp dvs E t):=by
 intro d s c H Q I h;refine wpAny_Call_Name_kw (rM I g u ?_ a);refine W.callWith_K I.ok.mod.kin M.kp (jv (n pos d s c H _ I h) λus s1 ⟨vs,H1,I1,r,q⟩=>⟨I1.kIn,?_⟩) v b;exact G5 M F hr j i l I1 r q
end
structure iP(N P:List Str)(sc:Scope):Prop where
 kind:sc.kind=.function
 co:sc.isCoroutine=false
 gen:sc.isGenerator=false
 nd:N.Nodup
 pre:N.take P.length=P
 par:∀x∈P,sc.names.lookup x=some .local\/sc.names.lookup x=some .cell
 nofree:∀y∈sc.names,y.2≠.free
theorem xT{kindOf:Str->Option NameKind}:∀{binds} {m},(∀v,(x,v)∉binds)->bindL kindOf binds m x=m x
 |[],_,_=>rfl
 | (n,v)::r,m,h=>by
  unfold bindL;rw[xT λw hw=>h w (bj _ hw)];split
  .have:x≠n:=by rintro rfl;exact h v bh
   simp[this]
  .rfl
theorem yq{kindOf:Str->Option NameKind}:∀{binds} {m},(∀v,(x,v)∉binds)->bindC kindOf binds m x=m x
 |[],_,_=>rfl
 | (n,v)::r,m,h=>by
  unfold bindC;rw[yq λw hw=>h w (bj _ hw)];split
  .rfl
  .have:x≠n:=by rintro rfl;exact h v bh
   simp[this]
theorem xM{kindOf:Str->Option NameKind}:∀{P:List Str} {vs:List Vq} {i:Nat} {m:Str->Option Value},P.Nodup->P[i]? = some x->vs[i]? = some v->kindOf x=some .local->
  bindL kindOf (P.zip vs) m x=some v
 |[],_,_,_,_,h,_,_=>by simp at h
 |_::_,[],_,_,_,_,h,_=>by simp at h
 |p::P,w::vs,0,m,nd,h1,h2,hk=>by simp at h1 h2;subst h1;subst h2;show bindL kindOf ((p,w)::P.zip vs) m p=_;unfold bindL;rw[xT λv a=>(bJ.mp nd).1 (aV a).1,aP hk];simp
 |p::P,w::vs,i+1,m,nd,h1,h2,hk=>by unfold bindL;exact xM (bJ.mp nd).2 (by simpa using h1) (by simpa using h2) hk
theorem xD{kindOf:Str->Option NameKind}:∀{P:List Str} {vs:List Vq} {i:Nat} {m:Str->Option Value},P.Nodup->P[i]? = some x->vs[i]? = some v->kindOf x≠some .local->
  bindC kindOf (P.zip vs) m x=some v
 |[],_,_,_,_,h,_,_=>by simp at h
 |_::_,[],_,_,_,_,h,_=>by simp at h
 |p::P,w::vs,0,m,nd,h1,h2,hk=>by simp at h1 h2;subst h1;subst h2;show bindC kindOf ((p,w)::P.zip vs) m p=_;unfold bindC;rw[yq λv a=>(bJ.mp nd).1 (aV a).1,aQ hk];simp
 |p::P,w::vs,i+1,m,nd,h1,h2,hk=>by unfold bindC;exact xD (bJ.mp nd).2 (by simpa using h1) (by simpa using h2) hk
noncomputable def lB(N:List Str)(vs:List V):St:=vs.map some++List.replicate (N.length-vs.length) none
noncomputable def jS(g:Js)(P:Program)(w:World)(K:W.Frag)(mg:Str->Option Value)(base:Heap)(N:List Str)(b:Str)(a:Scope)(f:Addr)(d:Vq)(A:Around)(outer:List Env)(s:Shared)(H:Hp)(E:XK):Cx where
 prog:=P
 w:=w
 K:=K
 mg:=mg
 base:=base
 A:=A.deeper (envOfC b a s.heap.objs.size f d)
 N:=N
 s₀:=s
 H₀:=H
 env:=envOfC b a s.heap.objs.size f d
 outer:=outer
 stack:=envOfC b a s.heap.objs.size f d::outer
 ex:=[]
 calm:=true
 fn:=λ_=>true
 pn:=[]
 xe:=λe i=>wpAny (model P w) (A.deeper (envOfC b a s.heap.objs.size f d)) (leaving (envOfC b a s.heap.objs.size f d) e) (λ_ c=>g outer H s E e c) (λh c=>g outer H s E h c) i
def lJ{a:Scope}(h:a.names.lookup x=some .cell):∃c,(cellsFrom n a.names []).lookup x=some c:=by have q:=W.cellsFrom_some a.names n [] (.inl h);exact bK.mp q
theorem Eo{K:W.Frag}
  (S:iP N ps scope) (F:A.handled=none) (g:CH P w K mg base A outer s H) (Q:vs.length=ps.length) (r:gH vs us)
  (x:InCallC s s.heap.objs.size (bindL (envOfC qual scope s.heap.objs.size f cd).kindOf (ps.zip us) λ_=>none) (cellsFrom (s.heap.objs.size+1) scope.names []) (bindC (envOfC qual scope s.heap.objs.size f cd).kindOf (ps.zip us) λ_=>none) s1) :
  fV (jS CX P w K mg base N qual scope f cd A outer s H E) [] (lB N vs) H s1:=by
 have L:ps.length<=N.length:=by have:=congrArg List.length S.pre;rw[bL]at this;omega
 obtain⟨o,U,rfl,D⟩:=x.done;have l:∀b:Addr,b∉(jS CX P w K mg base N qual scope f cd A outer s H E).ex:=λb z=>absurd (show b∈([]) from z) (by simp);refine⟨⟨g.mod,S.kind,rfl,rfl,aJ _,λy z c o d=>?_,λy j=>?_,λy c _ h=>?_,λ_=>F,Around.frames_deeper g.frames,.inr ⟨rfl,rfl⟩,λb z=>absurd z (l b),g.bs,g.bsz,λb _ _=>l b,λb z=>absurd z (l b),g.funs,g.frf⟩,
  rfl,g.bare,Un.kept D,⟨_,x.toInCall.ns,λi y v o d R=>?_⟩,λy c h=>⟨_,x.cell y c h⟩,g.hok.fresh (aJ _),λy c h=>?_,λp n=>absurd (show p∈([]) from n) (by simp),g.hok.kept D,?_⟩
 .exact name_of_addr x.apart (PySem.mem_of_lookup o) (PySem.mem_of_lookup d)
 .have j:=j;rcases j with j|j
  .exact lJ j
  .exact absurd rfl (S.nofree _ (PySem.mem_of_lookup j))
 .exact bf (x.above y c (PySem.mem_of_lookup h))
 .have B:i<vs.length:=by
   unfold lB at d;by_cases B:i<vs.length
   .exact B
   .rw[List.getElem?_append_right (by simpa using B)]at d;rw[List.getElem?_replicate]at d;split at d<;>cases d
  have J:vs[i]? = some v:=by
   unfold lB at d;rw[List.getElem?_append_left (by simpa using B),av]at d;cases e:vs[i]? with
   |none=>rw[e]at d;cases d
   |some a=>rw[e]at d;cases d;rfl
  obtain⟨u,C,I⟩:=r.get J;have n:ps[i]? = some y:=by rw[<-S.pre,List.getElem?_take_of_lt (by omega)];exact o
  have m:ps.Nodup:=by rw[<-S.pre];exact S.nd.sublist (List.take_sublist _ _)
  refine⟨u,I,?_⟩;rcases S.par y (au n) with k|k
  .exact .inl ⟨k,xM m n C k⟩
  .obtain⟨c,e⟩:=lJ k;refine .inr ⟨.inl k,c,e,?_⟩;have q:=x.cell y c e;rw[xD m n C (by show scope.names.lookup y≠_;rw[k];decide)]at q;exact q
 .exact g.hok.fresh (bf (x.above y c (PySem.mem_of_lookup h)))
 .unfold lB;show _=N.length;rw[aS,aw,bM];omega
theorem Me{K:W.Frag}{X kV l pm c Z oc:Vq}(lk:K.lookup f=some ⟨oc,od,.func (W.fnOf name qual params body scope X kV l pm an c Z),osl⟩)(F:W.codeIn K c qual=true)(S:iP N ps scope)
  (z:∀vs H Q E,sp vs H Q E->vs.length=ps.length)
  (h:∀A a s H vs Q E,iF k (A.deeper (envOfC qual scope s.heap.objs.size f c))->sp vs H Q E->
   ∃t,wV (jS CX P w K mg base N qual scope f c A a s H E) body t/\t {nx:=λ_ g=>Q .non g,rt:=Q} (lB N vs) H) :
  mv P w K mg base CX (k+1) f (W.fnOf name qual params body scope X kV l pm an c Z) ps sp:=by
 refine⟨z,λA a s H U us vs Q E hr B hb r m=>?_⟩;have hl:=z _ _ _ _ m;have R:=B.mod.kin.keeps λb o e=>(B.bs b o e).1;have C:=B.mod.nolimit.keeps λb o e=>(B.bs b o e).1;have i:∀y∈ps.zip us,scope.names.lookup y.1=some .local\/(scope.names.lookup y.1=some .cell/\((cellsFrom (s.heap.objs.size+1) scope.names []).lookup y.1).isSome=true):=λ⟨n,v⟩ hy=>by
  rcases S.par n (aV hy).1 with q|q
  .exact .inl q
  .exact .inr ⟨q,W.cellsFrom_some _ _ _ (.inl q)⟩
 refine codeAny_call_function hr.depth (R _ _ lk) rfl S.co S.gen rfl (W.codeRec_of R F) (hb _ _ _ _ ?_);refine wpAny_newFunctionEnv_cells S.kind i λenv he Y x=>?_;subst he;refine⟨C.keeps x.toInCall.keep,codeAny_func ?_⟩;obtain⟨t,ht,hq⟩:=h A a s H vs Q E (hr.deeper _) m;have I:fV (jS CX P w K mg base N qual scope f c A a s H E) [] (lB N vs) H Y:=Eo S hr.hd B hl r x;refine wpAny_mono (ht [] Y (lB N vs) H _ I hq) (λfl L j=>?_) λe L j=>j;have p:∀{d:St} {g:Hp} {v:V} {u:Vq},fV (jS CX P w K mg base N qual scope f c A a s H E) [] d g L->iw v u->Q v g->CE a P w H s Q u L:=λ{d g v u} J D q=>⟨v,g,J.os,J.bare,J.base,J.hok,D,q⟩
 cases fl with
 |ret u=>obtain⟨v,d,g,J,D,q⟩:=j;exact p J D q
 |next=>obtain⟨d,g,J,q⟩:=j;exact p (v:=V.non) J rfl q
 |brk=>obtain⟨_,_,_,q⟩:=j;exact False.elim q
 |cont=>obtain⟨_,_,_,q⟩:=j;exact False.elim q
end L2
namespace L2
open PySem PySem.Spec PyProof.Rows
section
variable {X:Cx}{x:Str}{p pos:Pos}{e:Expr}{es:List Expr}{t:TA}{id T:String}{r:List V->Hp->VK->Prop}
def De(r:List V->Hp->VK->Prop)(t:TA):TE:=λc H Q=>t c H λa b=>r a b Q
def pC(g:kj X (.builtin id) r)(k:Gl X x)(f:X.mg x=none)(i:bootBuiltins x=some (.builtin id))(l:PA X (e::es) t)(m:x≠ "__name__" :=by decide)(b:(x==("__debug__" : Str))=false:=by decide)
  (j:starEach (e::es) X.env=(false,eval e X.env)::starEach es X.env:=by rfl) (a:(backTo pos (starEach es X.env)).any (·.1)=false:=by rfl):PE X (.Call (.Name x p) (e::es) [] pos) (De r t):=by
 intro d s c H Q I h;refine wpAny_Call_Name_kw (ot I k f i ?_ m b);exact PyProof.Rows.callWith_builtin1 (jv (l pos d s c H _ I h) λus s1 ⟨vs,H1,I1,r1,q1⟩=>g d s1 c H1 vs us Q I1 r1 q1) j a
def tw(g:kj X (.type T) r)(k:Gl X x)(f:X.mg x=none)(i:bootBuiltins x=some (.type T))(l:PA X (e::es) t)(m:x≠ "__name__" :=by decide)(b:(x==("__debug__" : Str))=false:=by decide)
  (j:starEach (e::es) X.env=(false,eval e X.env)::starEach es X.env:=by rfl) (a:(backTo pos (starEach es X.env)).any (·.1)=false:=by rfl):PE X (.Call (.Name x p) (e::es) [] pos) (De r t):=by
 intro d s c H Q I h;refine wpAny_Call_Name_kw (ot I k f i ?_ m b);exact PyProof.Rows.callWith_type1 (jv (l pos d s c H _ I h) λus s1 ⟨vs,H1,I1,r1,q1⟩=>g d s1 c H1 vs us Q I1 r1 q1) j a
end
end L2
namespace HT
open PySem PyProof.Rows
section
variable {prog:Program}{w:World}{A:Around}{E:Vq->Shared->Prop}{s:Shared}
def cat_tup(u:IsTup s.heap t vs.toArray)(r:IsTup s.heap b ws.toArray)(k:vs≠[])
  (q:ws=[]->Q (.ref t) s) (v:ws≠[]->Q (.ref s.heap.objs.size) {s with heap:=s.heap.push {cls:=.type "tuple",data:=.seq (vs++ws).toArray}})
  (hsz:vs.length+ws.length<=sizeLine):wpAny (model prog w) A (binaryOp .Add (.ref t) (.ref b)) Q E s:=by
 obtain⟨⟨cls,m,data,o⟩,g,j,n,l⟩:=id u;obtain⟨⟨i,c,h,f⟩,a,d,p,Jb⟩:=id r;simp only at j l d Jb;subst j l d Jb;have e:vs.toArray++ws.toArray=(vs++ws).toArray:=by simp
 by_cases hw:ws=[]
 .exact concat_meets ⟨_,g,rfl⟩ ⟨_,a,rfl⟩ noFill_tuple_add seq_tuple_add PySem.F.slot_tuple_add PySem.F.entry_tuple_add (PySem.F.args_tuple_add_2 _ _)
   (tuple_addW1 t b vs.toArray ws.toArray n p m c o f (by simpa using k) (by simp[hw])) ⟨g,a,q hw⟩
 .refine concat_meets ⟨_,g,rfl⟩ ⟨_,a,rfl⟩ noFill_tuple_add seq_tuple_add PySem.F.slot_tuple_add PySem.F.entry_tuple_add (PySem.F.args_tuple_add_2 _ _)
   (tuple_addW2 t b vs.toArray ws.toArray n p m c o f (by simpa using k) (by simpa using hw) (by rw[bD,bD];exact hsz)) ⟨g,a,?_⟩
  rw[e];exact v hw
noncomputable def sIx(n d:Nat):Option Int->Nat
 |none=>d
 |some v=>if v<0 then (v+(n:Int)).toNat else min v.toNat n
def sIx_none n d:sIx n d none=d:=rfl
def sIx_nat(n d k:Nat):sIx n d (some (k:Int))=min k n:=by show (if k<0 then (k+(n:Int)).toNat else min (k:Int).toNat n)=min k n;rw[aQ (by omega),bN]
def Dq v (n d:Nat):(if v<0 then max (v+(n:Int)) 0 else min v (n:Int))=((sIx n d (some v):Nat):Int):=by
 show (if v<0 then max (v+n) 0 else min v n)=(((if v<0 then (v+n).toNat else min v.toNat n):Nat):Int);by_cases a:v<0
 .simp only[aP a];omega
 .simp only[aQ a];omega
def CG lo a (n:Nat):Builtin.Slice.sliceAdjust lo a 1 (n:Int)=(((sIx n 0 lo:Nat):Int),((sIx n n a:Nat):Int)):=by
 have b:¬(1<0):=by omega
 unfold Builtin.Slice.sliceAdjust;simp only[b,if_false];refine Prod.ext ?_ ?_
 .cases lo with
  |none=>rfl
  |some v=>exact Dq v n 0
 .cases a with
  |none=>rfl
  |some v=>exact Dq v n n
def Cf(i j:Nat):Builtin.Slice.slicePlaces (i:Int) (j:Int) 1=j-i:=by
 unfold Builtin.Slice.slicePlaces;have a:1>0:=by omega
 simp only[a,if_true,Int.ediv_one];split<;>omega
def vW(p:IsPart v o)(h:Q o s):wpAny (model prog w) A (Builtin.Slice.slicePartIndex v) Q E s:=by
 cases p with
 |none=>exact slicePart_none h
 |int i t=>exact slicePart_int h
def om{a d:Option Int}{n:Nat}(f:s.heap.IsSliceOf sl vl vu .none)(i:IsPart vl a)(e:IsPart vu d)
  (h:Q (((sIx n 0 a:Nat):Int),1,sIx n n d-sIx n 0 a) s):wpAny (model prog w) A (Builtin.Slice.sliceApplied (.ref sl) (pure (n:Int))) Q E s:=by
 obtain⟨j,c,g,b⟩:=id f;unfold Builtin.Slice.sliceApplied Builtin.Slice.sliceFields;refine ao (ao (wpAny_field c b rfl (ao (wpAny_field c b rfl (ao (wpAny_field c b rfl (ak ?_)))))));refine ao (slicePart_none ?_);rw[aQ (by decide)];refine ao (vW i (ao (vW e (ao (ak ?_)))));show wpAny _ _ (match Builtin.Slice.sliceAdjust a d 1 n with|(a,d)=>pure (a,(1:Int),Builtin.Slice.slicePlaces a d 1)) _ _ s;rw[CG a d n];show wpAny _ _ (pure (((sIx n 0 a):Int),1,Builtin.Slice.slicePlaces ((sIx n 0 a):Int) ((sIx n n d):Int) 1)) _ _ s;rw[Cf];exact ak h
def GP(a:Array Vq)(i k:Nat):((List.range k).filterMap λ(m:Nat)=>a[((i:Int)+(m:Int)*1).toNat]?).toArray=((a.toList.drop i).take k).toArray:=by
 have e:(λ(m:Nat)=>a[(i+(m:Int)*1).toNat]?)=λm=>a[i+m]?:=by
  funext m;have:(i+(m:Int)*1).toNat=i+m:=by omega
  rw[this]
 rw[e];have:=pick_run a i k;rw[List.filterMap_map]at this;have b:((λx=>a[x]?) ∘ λx=>i+x)=λm=>a[i+m]?:=rfl;rw[b]at this;rw[this]
theorem getItem_tuple_cut{a b:Option Int}(d:IsTup s.heap t items)(j:s.heap.IsSliceOf sl vl vu .none)(k:IsPart vl a)(m:IsPart vu b)
  (hw:¬(sIx items.size 0 a=0/\sIx items.size items.size b=items.size))
  (h:Q (.ref s.heap.objs.size) {s with heap:=s.heap.push {cls:=.type "tuple",data:=.seq ((items.toList.drop (sIx items.size 0 a)).take (sIx items.size items.size b-sIx items.size 0 a)).toArray}})
  (hsz:items.size<=sizeLine):wpAny (model prog w) A (getItem (.ref t) (.ref sl)) Q E s:=by
 have c:sizeOk (.seq ((items.toList.drop (sIx items.size 0 a)).take (sIx items.size items.size b-sIx items.size 0 a)).toArray):=by show ((items.toList.drop (sIx items.size 0 a)).take (sIx items.size items.size b-sIx items.size 0 a)).toArray.size<=sizeLine;rw[bD,bL,bO,bx];omega
 obtain⟨l,i,g,n⟩:=id j;have e:s.TypeIs (.ref sl) "slice" :=⟨l,i,g⟩;unfold getItem;try with_reducible refine wpAny_holding ?_;first|refine ao (ak ?_)|skip
 refine ao (wpAny_sequenceKey d.typeIs (by decide) ?_);refine ao (wpAny_callSpecial?_slot d.typeIs PyProof.Rows.slot_tuple_getitem
  (wpAny_call_entry PyProof.Rows.slot_tuple_getitem d.typeIs entry_tuple_getitem ?_ (args_tuple_getitem _ _)))
 show wpAny _ _ (Builtin.Tuple.tupleItemsOf (.ref t) >>= _) _ _ s;refine ao (tupleItemsOf_ d ?_);refine ao (wpAny_typeOf e ?_);rw[aP (by decide)];refine ao (om j k m ?_);have f:¬((((sIx items.size 0 a):Int)==0&&(1:Int)==1&&(sIx items.size items.size b-sIx items.size 0 a)==items.size)=true):=by intro q;rw[bP,bP]at q;have o:=eq_of_beq q.1.1;have p:=eq_of_beq q.2;exact hw ⟨by omega,by omega⟩
 show wpAny _ _ (if (((sIx items.size 0 a):Int)==0&&1==1&&(sIx items.size items.size b-sIx items.size 0 a)==items.size)=true then _ else _) _ _ s;rw[aQ f,GP];first
  |exact ao (wpAny_newObj_type (ak ⟨_,rfl,ak h⟩) c)
  |exact ao (wpAny_newObj_type (ao (ak (ak ⟨_,rfl,ak h⟩))) c)
  |exact ao (ao (wpAny_newObj_type (ak (ak ⟨_,rfl,ak h⟩)) c))
  |exact ao (ao (wpAny_newObj_type (ak ⟨_,rfl,ak h⟩) c))
end
end HT
namespace L2
open PySem PySem.Spec PyProof.Rows
abbrev TO:=St->Hp->(Option Int->Hp->Prop)->Prop
def PO(X:Cx)(e:Option Expr)(t:TO):Prop:=
 ∀(c:List (Addr×Obj)) (s:Shared) (a:St) (H:Hp) (Q:Option Int->Hp->Prop),fV X c a H s->t a H Q->
  wpAny (model X.prog X.w) X.A (evalPart e X.env) (λu d=>∃o b,fV X c a b d/\IsPart u o/\Q o b) X.xe s
def Dx:TO:=λ_ H Q=>Q none H
def LU(t:TE):TO:=λb H Q=>t b H λx a=>∃i,x=.int i/\Q (some i) a
section
variable {X:Cx}{e:Expr}{te:TE}{lo hi:Option Expr}{tl th:TO}{pos p2:Pos}
def K3:PO X none Dx:=by intro b s a H Q I h;rw[evalPart_none];exact ak ⟨none,H,I,.none,h⟩
def Kp(h:PE X e te):PO X (some e) (LU te):=by intro b s a H Q I hw;rw[evalPart_some];refine jv (h b s a H _ I hw) λu s1 ⟨x,H1,I1,r1,q1⟩=>?_;obtain⟨i,rfl,q⟩:=q1;obtain⟨t,rfl⟩:=r1;exact⟨some i,H1,I1,.int i t,q⟩
def L9(X:Cx)(r:V->Option Int->Option Int->Hp->VK->Prop):Prop:=
 ∀(f:List (Addr×Obj)) (s:Shared) (d:St) (H:Hp) (x:V) (v b a:Vq) (lo hi:Option Int) (c:Addr) (Q:VK),fV X f d H s->iw x v->s.heap.IsSliceOf c b a .none->IsPart b lo->IsPart a hi->r x lo hi H Q->
  ∃T id,typeLookup (.type T) "__getitem__" = pure (some (.builtin id))/\s.TypeIs v T/\wpAny (model X.prog X.w) X.A (getItem v (.ref c)) (EP X f d Q) X.xe s
def L9.or(h:L9 X r)(l:L9 X r'):L9 X (λx lo hi H Q=>r x lo hi H Q\/r' x lo hi H Q):=by
 intro d s c H x v k a lo hi i Q I b j f g q;rcases q with q|q
 .exact h d s c H x v k a lo hi i Q I b j f g q
 .exact l d s c H x v k a lo hi i Q I b j f g q
def RW(r:V->Option Int->Option Int->Hp->VK->Prop)(te:TE)(tl th:TO):TE:=λa H Q=>te a H λx d=>tl a d λl b=>th a b λu c=>r x l u c Q
def Iw(hr:L9 X r)(m:PE X e te)(d:PO X lo tl)(j:PO X hi th):PE X (.Subscript e (.Slice lo hi none p2) pos) (RW r te tl th):=by intro c s a H Q I h;refine Subscript_ (jv (m c s a H _ I h) λv s1 ⟨x,H1,I1,r1,q1⟩=>?_);refine wpAny_Slice (jv (d c s1 a H1 _ I1 q1) λvl s2 ⟨l,H2,I2,pl,q2⟩=>jv (j c s2 a H2 _ I2 q2) λvu s3 ⟨u,H3,I3,pu,q3⟩=>?_);rw[evalPart_none];refine ak ?_;have g:fV X c a H3 {s3 with heap:=s3.heap.push {cls:=.type "slice",data:=.fields #[vl,vu,.none]}}:=I3.kept λb n q=>ae _ q;obtain⟨T,id,k,i,f⟩:=hr c {s3 with heap:=s3.heap.push {cls:=.type "slice",data:=.fields #[vl,vu,.none]}} a H3 x v vl vu l u s3.heap.objs.size Q g r1 (Heap.IsSliceOf.new ..) pl pu q3;exact tail_any i k f (by with_unfolding_all rfl)
noncomputable def Im(a:List V)(lo hi:Option Int):List V:=(a.drop (HT.sIx a.length 0 lo)).take (HT.sIx a.length a.length hi-HT.sIx a.length 0 lo)
def tT xs lo hi:(Im xs lo hi).length<=xs.length:=by unfold Im;rw[bL,bO];omega
def QE(K:W.Frag):V->Option Int->Option Int->Hp->VK->Prop:=λx lo hi H Q=>∃a b,x=.ref a/\mx K H a b/\
 ¬(HT.sIx b.length 0 lo=0/\HT.sIx b.length b.length hi=b.length)/\∀p,H p=none->Q (.ref p) (ja H p (.tup (Im b lo hi)))
def NB:L9 X (QE X.K):=by
 intro u s p H x v z o lo hi w Q I j n k l h;obtain⟨a,c,rfl,m,hw,q⟩:=h;cases j;obtain⟨f,r,g,i⟩:=I.tuple m;have d:f.toArray.size=c.length:=by rw[bD];exact r.length.symm
 refine⟨"tuple",_,PyProof.Rows.slot_tuple_getitem.lookup,g.typeIs,?_⟩;refine HT.getItem_tuple_cut g n k l (by rw[d];exact hw) ?_ (by rw[d];exact i);rw[d];refine⟨.ref s.heap.objs.size,_,I.laid (λb y q=>ae _ q) (aJ _) ?_,rfl,q _ (I.hok.fresh (aJ _))⟩;exact⟨aM (tT c lo hi) i,_,(r.drop (HT.sIx c.length 0 lo)).take (HT.sIx c.length c.length hi-HT.sIx c.length 0 lo),vm.new _ _⟩
def Qp(K:W.Frag):R2:=λx y H Q=>∃a b d c,x=.ref a/\y=.ref b/\mx K H a d/\mx K H b c/\d≠[]/\d.length+c.length<=sizeLine/\
 (c=[]->Q (.ref a) H)/\(c≠[]->∀p,H p=none->Q (.ref p) (ja H p (.tup (d++c))))
def gH.nil_iff(r:gH xs us):us=[]↔xs=[]:=by
 cases r with
 |nil=>simp
 |cons _ _=>simp
def JQ:pR X (binaryOp .Add) (Qp X.K):=by intro B s A H x y v u Q I i n h;obtain⟨a,b,D,C,rfl,rfl,p,l,m,g,j,k⟩:=h;cases i;cases n;obtain⟨o,d,r,_⟩:=I.tuple p;obtain⟨f,c,p2,_⟩:=I.tuple l;refine HT.cat_tup r p2 (λz=>m (d.nil_iff.mp z)) (λz=>⟨.ref a,H,I,rfl,j (c.nil_iff.mp z)⟩) (λz=>?_) (by rw[<-d.length,<-c.length];exact g);refine⟨.ref s.heap.objs.size,_,I.laid (λb E q=>ae _ q) (aJ _) ?_,rfl,k (λw=>z (c.nil_iff.mpr w)) _ (I.hok.fresh (aJ _))⟩;exact⟨by rw[aS];exact g,_,d.append c,vm.new _ _⟩
end
end L2
namespace L2
open PySem PySem.Spec PyProof.Rows
noncomputable def wU(n:Nat)(i:Int):Option Nat:=if 0<=i then (if i<n then some i.toNat else none) else if -(n:Int)<=i then some (i+n).toNat else none
noncomputable def qC{b:Type}(a:List b)(i:Int):Option b:=(wU a.length i).bind λj=>a[j]?
def CO(h:wU n i=some j):seqIndex? i n=some j/\j<n/\-(n:Int)<=i/\i<n:=by
 unfold wU at h;by_cases b:0<=i
 .rw[aP b]at h;by_cases a:i<n
  .rw[aP a]at h;have e:=Option.some.inj h;exact⟨by rw[seqIndex_of b a,e],by omega,by omega,a⟩
  .rw[aQ a]at h;cases h
 .rw[aQ b]at h;by_cases a:-n<=i
  .rw[aP a]at h;have e:=Option.some.inj h;exact⟨by rw[seqIndex_neg (by omega) a,e],by omega,a,by omega⟩
  .rw[aQ a]at h;cases h
def zK{a:List α}{v:α}(h:qC a i=some v):∃j,seqIndex? i a.length=some j/\a[j]? = some v/\j<a.length/\-(a.length:Int)<=i/\i<a.length:=by
 unfold qC at h;cases e:wU a.length i with
 |none=>rw[e]at h;cases h
 |some j=>rw[e]at h;obtain⟨c,b,f,d⟩:=CO e;exact⟨j,c,h,b,f,d⟩
def HB xs (v:α):qC (xs++[v]) (-1)=some v:=by
 have a:(xs++[v]).length=xs.length+1:=by simp
 have e:wU (xs++[v]).length (-1)=some xs.length:=by unfold wU;rw[a,aQ (by decide),aP (by omega)];congr 1;omega
 unfold qC;rw[e];simp
def DE(b:Expr):Prop:=∀o i,subscripted b false o i=operate [o,i] (getItem o i)
def JB(X:Cx)(r:R2):Prop:=
 ∀(b a:Expr) (d:List (Addr×Obj)) (s:Shared) (c:St) (H:Hp) (x y:V) (v u:Vq) (Q:VK),fV X d c H s->iw x v->iw y u->r x y H Q->
  subscripted a false v u=operate [v,u] (getItem v u)->wpAny (model X.prog X.w) X.A (subscriptTail b a v u) (EP X d c Q) X.xe s
def Sm(X:Cx)(id:String)(r:V->List V->Hp->VK->Prop):Prop:=
 ∀(d:List (Addr×Obj)) (s:Shared) (b:St) (H:Hp) (x:V) (c:List V) (v:Vq) (a:List Vq) (Q:VK),fV X d b H s->iw x v->gH c a->r x c H Q->
  wpAny (model X.prog X.w) X.A (call (.builtin id) (v::a)) (EP X d b Q) X.xe s
section
variable {X:Cx}{a b:Expr}{ta tb:TE}{pos:Pos}
def JB.or(h:JB X r)(k:JB X r'):JB X (λx y H Q=>r x y H Q\/r' x y H Q):=by
 intro d c i s g H x y v u Q I f j q e;rcases q with q|q
 .exact h d c i s g H x y v u Q I f j q e
 .exact k d c i s g H x y v u Q I f j q e
def PY(hr:JB X r)(k:PE X a ta)(g:PE X b tb)(l:DE b):PE X (.Subscript a b pos) (wR r ta tb):=by intro f s e H Q I h;exact Subscript_ (OB k g I h λv u c x y i m d j q=>hr a b f c e i x y v u Q m d j q (l _ _))
def Pt(K:W.Frag):R2:=λx y H Q=>∃p c i v,x=.ref p/\y=.int i/\lg K H p c/\qC c i=some v/\Q v H
def QP(K:W.Frag):R2:=λx y H Q=>∃p c i v,x=.ref p/\y=.int i/\mx K H p c/\qC c i=some v/\Q v H
def Qt:R2:=λx y H Q=>∃z i c,x=.str z/\y=.int i/\z.length<=sizeLine/\qC z.cps.toList i=some c/\Q (.str ⟨#[c]⟩) H
def JM:JB X (Pt X.K):=by
 intro l f F s C H x y v u Q I B N h A;obtain⟨p,S,i,z,rfl,rfl,J,P,q⟩:=h;cases B;obtain⟨t,rfl⟩:=N;obtain⟨k,r,e,Z⟩:=I.list J;obtain⟨j,d,R,U,D,L⟩:=zK P;obtain⟨w,n,g⟩:=r.get R;have E:=r.length;have Y:=zk;have c:EP X F C Q w s:=⟨z,H,I,g,q⟩;by_cases o:0<=i
 .have m:i.toNat=j:=by rw[seqIndex_of o L]at d;exact Option.some.inj d
  exact item_listR e.isList o (by omega) (by rw[m];simpa using n) c A
 .have m:(i+k.toArray.size).toNat=j:=by rw[seqIndex_neg (by omega) D]at d;rw[bD,<-E];exact Option.some.inj d
  exact subscriptTail_builtinR e.isList.typeIs slot_list_getitem.lookup
   (wpAny_getItem_list_neg e.isList (by omega) (by rw[bD]<;>omega) (by omega) (by rw[m];simpa using n) ⟨rfl,c⟩) A
def jA:JB X (QP X.K):=by
 intro f c n s l H x y v u Q I k C h E;obtain⟨p,P,i,z,rfl,rfl,o,F,q⟩:=h;cases k;obtain⟨t,rfl⟩:=C;obtain⟨D,r,g,U⟩:=I.tuple o;obtain⟨j,B,J,R,L,N⟩:=zK F;obtain⟨w,A,e⟩:=r.get J;have m:=r.length;have S:=zk;have d:EP X n l Q w s:=⟨z,H,I,e,q⟩;exact subscriptTail_builtinR g.typeIs slot_tuple_getitem.lookup
  (getItem_tuple g (by omega) (by omega) (by rw[bD,<-m];exact B) (by simpa using A) ⟨rfl,d⟩) E
def Ot:JB X Qt:=by
 intro e d C s B H x y v u Q I g n h o;obtain⟨z,i,c,rfl,rfl,J,r,q⟩:=h;obtain⟨t,rfl⟩:=g;obtain⟨D,rfl⟩:=n;obtain⟨j,f,w,E,k,m⟩:=zK r;have l:z.cps.toList.length=z.length:=by simp[Str.length]
 rw[l]at f k m;have F:=zk;exact tail_any (typeIs_str s z t) slot_str_getitem.lookup (getItem_str (by have p:decide (i < -(2 ^ 63))=false:=aA (by omega);have A:decide (i >= 2 ^ 63)=false:=aA (by omega);rw[p,A,Bool.or_false]) (by rw[f];simpa using w) ⟨.str ⟨#[c]⟩,H,I.tok _,⟨_,rfl⟩,q⟩) o
def RE(K:W.Frag):R2:=λx y H Q=>Pt K x y H Q\/QP K x y H Q\/Qt x y H Q
def Od:JB X (RE X.K):=JM.or (jA.or Ot)
def BI(its:List Vq) n j u:Obj.mapSeq (·.setIfInBounds j u) {cls:=.type "list",data:=.seq its.toArray n}={cls:=.type "list",data:=.seq (its.set j u).toArray n}:=by simp[Obj.mapSeq]
def fV.lst(I:fV X fw σ H s)(h:H p=some (.lst xs)) :
  ∃its n,gH xs its/\s.heap.get? p=some {cls:=.type "list",data:=.seq its.toArray n}/\xs.length<=sizeLine:=by
 obtain⟨z,its,n,r,e⟩:=I.hok p _ h;exact⟨its,n,r,e,z⟩
def fV.lstUpd{its c:List Vq}(I:fV X fw σ H s)(h:H p=some (.lst xs))
  (i:s.heap.get? p=some {cls:=.type "list",data:=.seq its.toArray n}) (d:f {cls:=.type "list",data:=.seq its.toArray n}={cls:=.type "list",data:=.seq c.toArray n'}) (r:gH ys c) (j:ys.length<=sizeLine) t :
  fV X fw σ (ja H p (.lst ys)) {s with heap:=s.heap.update p f,toks:=t}:=by
 have e:(s.heap.update p f).get? p=some {cls:=.type "list",data:=.seq c.toArray n'}:=by rw[Heap.get?_update_self f i (by rw[d]<;>rfl),d]
 refine I.write (by rw[h];trivial) (.inl rfl) (λb u g q=>(Heap.get?_update_other _ _ (Ne.symm g)).trans q) ⟨_,e⟩ ?_;exact⟨j,c,n',r,e⟩
def C5:V->V->V->Hp->(Hp->Prop)->Prop:=λo i v H Q=>∃p c k j,o=.ref p/\i=.int k/\H p=some (.lst c)/\wU c.length k=some j/\Q (ja H p (.lst (c.set j v)))
def GJ:P8 X C5:=by
 intro B s A H o i v L K u Q I z D E h;obtain⟨p,C,k,j,rfl,rfl,y,F,q⟩:=h;cases z;obtain⟨t,rfl⟩:=D;obtain⟨c,n,r,e,J⟩:=I.lst y;obtain⟨d,N,w,l⟩:=CO F;have f:=r.length;have P:=zk;have m:fV X B A (ja H p (.lst (C.set j v))) {s with heap:=s.heap.update p (Obj.mapSeq (·.setIfInBounds j u))}:=I.lstUpd y e (BI c n j u) (r.set E j) (by rw[bQ];exact J) s.toks
 by_cases x:0<=k
 .have g:k.toNat=j:=by rw[seqIndex_of x l]at d;exact Option.some.inj d
  exact W.ki_setAt e x (by omega) (by rw[bD,<-f];exact l) (by rw[g];exact⟨_,m,q⟩)
 .have g:(k+c.toArray.size).toNat=j:=by rw[seqIndex_neg (by omega) w]at d;rw[bD,<-f];exact Option.some.inj d
  exact W.ki_setBack e (by omega) (by rw[bD,<-f];exact w) (by omega) (by rw[g];exact⟨_,m,q⟩)
def zw lo hi n:(sliceBounds lo hi none n).1=((HT.sIx n 0 lo:Nat):Int)/\(sliceBounds lo hi none n).2.1=((HT.sIx n n hi:Nat):Int)/\(sliceBounds lo hi none n).2.2=1:=by
 refine⟨?_,?_,rfl⟩
 .cases lo with
  |none=>simp[sliceBounds,HT.sIx]
  |some i=>
   simp only[sliceBounds,HT.sIx,Option.getD_none,show 1>0 by decide,if_true];by_cases h:i<0
   .simp only[h,if_true]<;>omega
   .simp only[h,if_false]<;>omega
 .cases hi with
  |none=>simp[sliceBounds,HT.sIx]
  |some i=>
   simp only[sliceBounds,HT.sIx,Option.getD_none,show 1>0 by decide,if_true];by_cases h:i<0
   .simp only[h,if_true]<;>omega
   .simp only[h,if_false]<;>omega
def xt(its:List Vq) lo hi:slicePick its.toArray lo hi none=((its.drop (HT.sIx its.length 0 lo)).take (HT.sIx its.length its.length hi-HT.sIx its.length 0 lo)).toArray:=by obtain⟨e,c,d⟩:=zw lo hi its.toArray.size;unfold slicePick;rw[e,c,d];simp only[sliceRange_one,pick_run,bD]<;>rfl
def Qv(K:W.Frag):V->Option Int->Option Int->Hp->VK->Prop:=λx d e H Q=>∃a c,x=.ref a/\lg K H a c/\∀p,H p=none->Q (.ref p) (ja H p (.lst (Im c d e)))
def Jy:L9 X (Qv X.K):=by intro w s u H x v A p d f y Q I g n i j h;obtain⟨a,c,rfl,k,q⟩:=h;cases g;obtain⟨m,r,e,o⟩:=I.list k;have l:=r.length;refine⟨"list",_,slot_list_getitem.lookup,e.isList.typeIs,?_⟩;refine wpAny_getItem_list_slice e.isList n i j .none (by simp) ?_ (by rw[bD]<;>omega);rw[xt,<-l];refine⟨.ref s.heap.objs.size,_,I.laid (λb z q=>ae _ q) (aJ _) ?_,rfl,q _ (I.hok.fresh (aJ _))⟩;exact⟨aM (tT c d f) o,_,0,(r.drop (HT.sIx c.length 0 d)).take (HT.sIx c.length c.length f-HT.sIx c.length 0 d),ar _ rfl⟩
noncomputable def qI:V->Bool
 |.non=>true
 |.bl _=>true
 |.int _=>true
 |.str _=>true
 |_=>false
noncomputable def Jt:V->V->Bool
 |.non,.non=>true
 |.bl a,.bl b=>a==b
 |.bl a,.int b=>(if a then 1 else 0)==b
 |.int a,.bl b=>a==(if b then 1 else 0)
 |.int a,.int b=>a==b
 |.str a,.str b=>a==b
 |_,_=>false
def Mu(f:iw y u)(c:iw x v)(g:qI y=true)(e:qI x=true):SeqAt.EqAt A s u v (Jt y x):=by
 cases y with
 |non=>
  cases f;cases x with
  |non=>cases c;exact SeqAt.EqAt.same _
  |bl b=>cases c;exact SeqAt.EqAt.none_bool b
  |int b=>obtain⟨t,rfl⟩:=c;exact SeqAt.EqAt.none_int b t
  |str b=>obtain⟨t,rfl⟩:=c;exact SeqAt.EqAt.none_str b t
  |_=>exact absurd (e) aG
 |bl a=>
  cases f;cases x with
  |non=>cases c;exact SeqAt.EqAt.bool_none a
  |bl b=>cases c;exact SeqAt.EqAt.bool_bool a b
  |int b=>obtain⟨t,rfl⟩:=c;exact SeqAt.EqAt.bool_int a b t
  |str b=>obtain⟨t,rfl⟩:=c;exact SeqAt.EqAt.bool_str a b t
  |_=>exact absurd (e) aG
 |int a=>
  obtain⟨d,rfl⟩:=f;cases x with
  |non=>cases c;exact SeqAt.EqAt.int_none a d
  |bl b=>cases c;exact SeqAt.EqAt.int_bool a d b
  |int b=>obtain⟨t,rfl⟩:=c;exact SeqAt.EqAt.int_int a d b t
  |str b=>obtain⟨t,rfl⟩:=c;exact SeqAt.EqAt.int_str a d b t
  |_=>exact absurd (e) aG
 |str a=>
  obtain⟨d,rfl⟩:=f;cases x with
  |non=>cases c;exact SeqAt.EqAt.str_none a d
  |bl b=>cases c;exact SeqAt.EqAt.str_bool a d b
  |int b=>obtain⟨t,rfl⟩:=c;exact SeqAt.EqAt.str_int a d b t
  |str b=>obtain⟨t,rfl⟩:=c;exact SeqAt.EqAt.str_str a d b t
  |_=>exact absurd (e) aG
 |_=>exact absurd (g) aG
noncomputable def KM(x:V)(u:Vq):Bool:=match u with
 |.none=>Jt .non x
 |.bool b=>Jt (.bl b) x
 |.int i _=>Jt (.int i) x
 |.str z _=>Jt (.str z) x
 |_=>false
def GA(r:iw y u)(f:qI y=true):KM x u=Jt y x:=by
 cases y with
 |non=>cases r;rfl
 |bl b=>cases r;rfl
 |int i=>obtain⟨t,rfl⟩:=r;rfl
 |str z=>obtain⟨t,rfl⟩:=r;rfl
 |_=>exact absurd (f) aG
theorem zC:∀{xs} {us},gH xs us->xs.all qI=true->us.any (KM x)=xs.any λy=>Jt y x
 |_,_,.nil,_=>rfl
 |y::xs,u::us,.cons r t,f=>by rw[bR,bP]at f;rw[bS,bS,GA r f.1,zC t f.2]
theorem uS(d:iw x v)(e:qI x=true):∀{xs} {us},gH xs us->xs.all qI=true->∀u∈us,SeqAt.EqAt A s u v (KM x u)
 |_,_,.nil,_=>λu c=>by cases c
 |y::xs,u::us,.cons r t,f=>λg c=>by
  rw[bR,bP]at f;rcases aE.mp c with rfl|c
  .rw[GA r f.1];exact Mu r d f.1 e
  .exact uS d e t f.2 g c
noncomputable def Ra(x:V)(c:List V):Bool:=c.any λy=>Jt y x
def Rm(K:W.Frag)(neg:Bool):R2:=λx y H Q=>∃p c,y=.ref p/\(lg K H p c\/mx K H p c)/\qI x=true/\c.all qI=true/\Q (.bl (if neg then !Ra x c else Ra x c)) H
def zy:pR X (compareOp .NotIn) (Rm X.K true):=by
 intro l s k H x y v u Q I f i h;obtain⟨p,m,rfl,d,g,fs,q⟩:=h;cases i;rcases d with d|d
 .obtain⟨c,r,e,j⟩:=I.list d;refine SeqAt.notIn_listAt (KM x) e.isList (λw hw=>uS f g r fs w (by simpa using hw)) ⟨.bl _,H,I,rfl,?_⟩;rw[show c.toArray.any (KM x)=c.any (KM x) by simp,zC r fs];exact q
 .obtain⟨c,r,e,j⟩:=I.tuple d;refine SeqAt.notIn_tupleAt (KM x) e (λw hw=>uS f g r fs w (by simpa using hw)) ⟨.bl _,H,I,rfl,?_⟩;rw[show c.toArray.any (KM x)=c.any (KM x) by simp,zC r fs];exact q
def zE:kj X (.type "list") (λC H Q=>∃p g,C=[.ref p]/\(lg X.K H p g\/mx X.K H p g)/\∀l,H l=none->Q (.ref l) (ja H l (.lst g))):=by
 intro F s E H C L Q I r h;obtain⟨p,g,rfl,k,q⟩:=h;obtain⟨u,rfl,D⟩:=pH r;cases D;have m:∀(c:List Vq),gH g c->g.length<=sizeLine->∀(d:Heap) (f:Nat),(∀b B,s.heap.get? b=some B->d.get? b=some B)->
   d.get? s.heap.objs.size=some {cls:=.type "list",dict:=none,data:=.seq c.toArray f,slots:=#[]}->EP X F E Q (.ref s.heap.objs.size) {s with heap:=d}:=λc i v d f j e=>
  ⟨.ref s.heap.objs.size,_,I.laid j (aJ _) (show jy X.prog X.w _ d _ (.lst g) from ⟨v,c,f,i,e⟩),rfl,q _ (I.hok.fresh (aJ _))⟩
 rcases k with k|k
 .obtain⟨c,i,y,v⟩:=I.list k;have J:=i.length;obtain⟨o,x,z,n,A⟩:=y.isList;exact call_list_seq p (.inl rfl) x z A (λd f j e=>m c i v d f j e) (by simp only[bD]<;>omega)
 .obtain⟨c,i,y,v⟩:=I.tuple k;have J:=i.length;obtain⟨o,x,z,n,A⟩:=y;exact call_list_seq p (.inr rfl) x z A (λd f j e=>m c i v d f j e) (by simp only[bD]<;>omega)
def xj:kj X (.type "tuple") (λm H Q=>∃p d,m=[.ref p]/\((lg X.K H p d/\∀l,H l=none->Q (.ref l) (ja H l (.tup d)))\/(mx X.K H p d/\Q (.ref p) H))):=by
 intro y s x H m B Q I r h;obtain⟨p,d,rfl,h⟩:=h;obtain⟨u,rfl,w⟩:=pH r;cases w;rcases h with⟨f,q⟩|⟨f,q⟩
 .obtain⟨c,j,g,n⟩:=I.list f;have A:=j.length;refine call_tuple_list g.isList (λi v=>?_) (by simp only[bD]<;>omega);have k:=I.kept (t':=s.toks) v;have z:fV X y x (ja H i.objs.size (.tup d)) {s with heap:=i.push {cls:=.type "tuple",data:=.seq c.toArray}}:=
   k.laid (λb o e=>ae _ e) (aJ _) (⟨n,c,j,vm.new _ _⟩)
  exact⟨.ref i.objs.size,_,z,rfl,q _ (k.hok.fresh (aJ _))⟩
 .obtain⟨c,j,g,n⟩:=I.tuple f;exact call_tuple_same g ⟨.ref p,H,I,rfl,q⟩
def OQ(K:W.Frag)(T:String)(x:V)(H:Hp):Prop:=match x with
 |.str _=>T = "str"
 |.int _=>T = "int"
 |.ref p=>(T = "list" /\∃d,lg K H p d)\/(T = "tuple" /\∃o,K.lookup p=some o/\o.cls=.type "tuple" /\o.dict=none)\/
   (T = "dict" /\((∃c,H p=some (.dK c))\/∃c,H p=some (.dT c)))\/(T = "set" /\∃S n,H p=some (.set S n))
 |_=>False
theorem NF{q:List (Addr×Obj)}{m:St}{H:Hp}{s:Shared}{T:String}{x:V}{v:Vq}(I:fV X q m H s)(r:iw x v)(ty:OQ X.K T x H) :
  s.TypeIs v T/\∀a,v=.ref a->∃l,s.heap.get? a=some l/\l.dict=none:=by
 cases x with
 |str z=>obtain⟨t,rfl⟩:=r;cases (ty);exact⟨typeIs_str s z t,λ_ e=>nomatch e⟩
 |int i=>obtain⟨t,rfl⟩:=r;cases (ty);exact⟨typeIs_int s i t,λ_ e=>nomatch e⟩
 |ref p=>
  cases r;rcases ty with⟨rfl,A,u⟩|⟨rfl,o,d,w,h⟩|⟨rfl,d⟩|⟨rfl,S,n,d⟩
  .obtain⟨y,_,k,_⟩:=I.list u;refine⟨k.isList.typeIs,λa e=>?_⟩;cases e;obtain⟨o,n,e,c,h,_⟩:=k;exact⟨o,e,h⟩
  .refine⟨⟨o,I.kIn p o d,w⟩,λa e=>?_⟩;cases e;exact⟨o,I.kIn _ o d,h⟩
  .have z:∃o,s.heap.get? p=some o/\o.ExactDict:=by
    rcases d with⟨g,d⟩|⟨g,d⟩
    .obtain⟨_,_,_,_,o,_,_,e,f,_⟩:=I.hok p _ d;exact⟨o,e,f⟩
    .obtain⟨_,_,_,_,o,_,_,e,f,_⟩:=I.hok p _ d;exact⟨o,e,f⟩
   obtain⟨o,e,f⟩:=z;refine⟨⟨o,e,f.1⟩,λa j=>?_⟩;cases j;exact⟨o,e,f.2.1⟩
  .obtain⟨o,_,_,_,e,f,_⟩:=I.hok p _ d;refine⟨⟨o,e,f.1⟩,λa j=>?_⟩;cases j;exact⟨o,e,f.2.1⟩
 |_=>exact False.elim ty
def RT(K:W.Frag)(T:String)(r:V->List V->Hp->VK->Prop)(to:TE)(t:TA):TE:=λd H Q=>to d H λx c=>OQ K T x c/\t d c λf e=>r x f e Q
variable {o e:Expr}{es:List Expr}{to:TE}{t:TA}{name:Str}{apos cpos:Pos}{T id:String}{r:V->List V->Hp->VK->Prop}
def Iq(n:PlainAttrs T)(g:Slot T name id)(k:typeOf (.builtin id)=pure (.type "method_descriptor"))(u:Sm X id r)(m:PE X o to)(q:PA X (e::es) t)
  (c:attributeBase o name X.env (eval o X.env)=eval o X.env:=by rfl)
  (f:((backTo cpos (starEach (e::es) X.env)).all (λx=>!x.1)&&(backToKw cpos (keywordEach [] X.env)).all (λx=>x.1.isSome)
   && decide ((e::es).length+([]:List Keyword).length+(if ([]:List Keyword).isEmpty then 0 else 1)<30))=true:=by rfl)
  (d:(apos.endLine==cpos.line)=true:=by rfl) (w:starEach (e::es) X.env=(false,eval e X.env)::starEach es X.env:=by rfl) (hplain:(backTo cpos (starEach es X.env)).any (·.1)=false:=by rfl) :
  PE X (.Call (.Attribute o name apos) (e::es) [] cpos) (RT X.K T r to t):=by
 intro j s i H Q I h;refine wpAny_Call_method_late c f d rfl (jv (m j s i H _ I h) λv s1 ⟨x,H1,I1,r1,ty,q1⟩=>?_);obtain⟨p,y⟩:=NF I1 r1 ty;refine⟨T,id,n,g,k,p,y,?_⟩;have l:=q cpos j s1 i H1 _ I1 q1;rw[w]at l ⊢;refine Calls.callWith_builtin (by show (false||(backTo cpos (starEach es X.env)).any (·.1))=false;rw[hplain]<;>rfl) (Calls.evalArgs_plain ?_);exact jv l λus s2 ⟨vs,H2,I2,r2,q2⟩=>u j s2 i H2 x vs v us Q I2 r1 r2 q2
end
end L2
namespace L2
open PySem PySem.Spec PyProof.Rows
def SQ(X:Cx)(id:String)(r:V->List V->Hp->VK->Prop):Prop:=
 ∀(d:List (Addr×Obj)) (s:Shared) (b:St) (H:Hp) (x:V) (c:List V) (v:Vq) (a:List Vq) (Q:VK),fV X d b H s->iw x v->gH c a->r x c H Q->
  wpAny (model X.prog X.w) X.A (call (.builtin id) (v::a)) (EP X d b Q) X.xe s
theorem gH.one:∀{x} {us},gH [x] us->∃u,us=[u]/\iw x u
 |_,_,.cons r .nil=>⟨_,rfl,r⟩
theorem gH.rep(h:gH xs us):∀k:Nat,gH (List.replicate k xs).flatten (List.replicate k us).flatten
 |0=>.nil
 |k+1=>by rw[bT,bT,bU,bU];exact gH.append h (gH.rep h k)
theorem qi(its:List Vq):∀k a,
  List.foldl (λb c=>b++c) a.toArray (List.replicate k its.toArray)=(a++(List.replicate k its).flatten).toArray
 |0,a=>by simp
 |k+1,a=>by
  have e:a.toArray++its.toArray=(a++its).toArray:=by simp
  have d:(a++its)++(List.replicate k its).flatten=a++(List.replicate (k+1) its).flatten:=by rw[bT,bU,bV]
  rw[<-d,<-qi its k (a++its),<-e,bT,List.foldl_cons]
section
variable {X:Cx}{fw:List (Addr×Obj)}{σ:St}{H:Hp}{s:Shared}{l b:Addr}{xs ys zs:List V}
def fV.lset{its a:List Vq}(I:fV X fw σ H s)(j:H l=some (.lst xs))
  (e:s.heap.get? l=some {cls:=.type "list",data:=.seq its.toArray n}) (h:f its.toArray=a.toArray) (g:gH ys a) (i:ys.length<=sizeLine) :
  fV X fw σ (ja H l (.lst ys)) {s with heap:=s.heap.update l (Obj.mapSeq f),toks:=t'}:=by
 have q:=PySem.IsL.update e f;rw[h]at q;refine I.write (by rw[j];exact trivial) (.inl rfl) (λk u c d=>(Heap.get?_update_other s.heap (Obj.mapSeq f) (Ne.symm c)).trans d) ⟨_,q⟩ ?_;exact⟨i,a,_,g,q⟩
def fV.lnew(I:fV X fw σ H s)(a:gH ys its)(c:ys.length<=sizeLine) :
  fV X fw σ (ja H s.heap.objs.size (.lst ys)) {s with heap:=s.heap.push {cls:=.type "list",data:=.seq its.toArray},toks:=t'}:=
 I.laid (λ_ _ q=>ae _ q) (aJ _) ⟨c,its,0,a,ar _ rfl⟩
def fV.fresh(I:fV X fw σ H s):H s.heap.objs.size=none:=I.hok.fresh (aJ _)
def fV.lstM(I:fV X fw σ H s)(a:H l=some (.lst xs)):xs.length<=sizeLine/\∃its n,gH xs its/\xs.length=its.length/\s.heap.get? l=some {cls:=.type "list",data:=.seq its.toArray n}:=by obtain⟨z,its,n,r,e⟩:=I.hok l _ a;exact⟨z,its,n,r,r.length,e⟩
def HR(h:n<=sizeLine):Builtin.List.listTooLong n=false:=by unfold Builtin.List.listTooLong;exact aA (by omega)
end
section
variable {X:Cx}
def yE:V->List V->Hp->VK->Prop:=λx b H Q=>∃l a y,x=.ref l/\b=[y]/\H l=some (.lst a)/\a.length<sizeLine/\Q .non (ja H l (.lst (a++[y])))
def sQ:SQ X "list.append" yE:=by intro j s g H x k v o Q I c f h;obtain⟨l,m,y,rfl,rfl,b,p,q⟩:=h;cases c;obtain⟨u,rfl,d⟩:=f.one;obtain⟨z,a,n,r,i,e⟩:=I.lstM b;refine call_meets F.slot_list_append ⟨_,e,rfl⟩ F.entry_list_append (F.args_list_append_2 _ _) (PySem.list_append l a.toArray n u (by rw[bD];omega)) ⟨e,?_⟩;refine⟨.non,_,I.lset b e (by simp) (r.append (.cons d .nil)) ?_,rfl,q⟩;rw[aS,bW];omega
def Mz:R2:=λx y H Q=>∃l b a c,x=.ref l/\y=.ref b/\H l=some (.lst a)/\H b=some (.lst c)/\a.length+c.length<=sizeLine/\∀p,H p=none->Q (.ref p) (ja H p (.lst (a++c)))
def HM:pR X (binaryOp .Add) Mz:=by
 intro C s w H x y v u Q I i k h;obtain⟨l,b,D,A,rfl,rfl,o,j,F,q⟩:=h;cases i;cases k;obtain⟨z,c,n,r,B,e⟩:=I.lstM o;obtain⟨p,a,E,g,d,m⟩:=I.lstM j;refine PySem.P.add_list e m ?_ (by rw[bD,bD];omega);have f:c.toArray++a.toArray=(c++a).toArray:=by simp
 rw[f];exact⟨.ref _,_,I.lnew (r.append g) (by rw[aS];omega),rfl,q _ I.fresh⟩
def Pu:R2:=λx y H Q=>∃l k a,x=.ref l/\y=.int k/\H l=some (.lst a)/\-(2 ^ 63)<=k/\k<2 ^ 63/\a.length*k.toNat<=sizeLine/\
 ∀p,H p=none->Q (.ref p) (ja H p (.lst (List.replicate k.toNat a).flatten))
def yZ{b:Type}(a:List b) k:(List.replicate k a).flatten.length=k*a.length:=by
 induction k with
 |zero=>simp
 |succ k ih=>rw[bT,bU,aS,ih,bX,Nat.add_comm]
def N2:pR X (binaryOp .Mult) Pu:=by
 intro N s L H x y v u Q I p D h;obtain⟨l,k,P,rfl,rfl,K,A,E,o,q⟩:=h;cases p;obtain⟨t,rfl⟩:=D;obtain⟨z,b,n,r,w,e⟩:=I.lstM K;have C:b.toArray.size*k.toNat<=sizeLine:=by rw[bD,<-w];exact o
 have d:¬b.toArray.size*k.toNat>(2 ^ 63-1) / 8:=by
  have:sizeLine<=(2 ^ 63-1) / 8:=by decide
  omega
 have f:¬(!Builtin.List.listFitsIndex k)=true:=by rw[fitsIndex_both A E];exact aG
 have c:¬Builtin.List.listTooLong (b.toArray.size*k.toNat)=true:=by rw[HR C];exact aG
 have g:List.foldl (λi j=>i++j) #[] (List.replicate (if b.toArray.isEmpty=true then 0 else k.toNat) b.toArray)=(List.replicate k.toNat b).flatten.toArray:=by
  have B:∀m:Nat,List.foldl (λi j=>i++j) #[] (List.replicate m b.toArray)=(List.replicate m b).flatten.toArray:=λm=>by have:=qi b m [];rw[bY]at this;exact this
  rw[B];cases b with
  |nil=>simp
  |cons a r'=>rw[aQ (by simp)]
 refine wpAny_binaryOp_repeat_ref (by decide) ⟨_,e,rfl⟩ (λJ=>typeIs_int J k t) noFill_list_mul F.fills_int_mul F.slot_int_rmul repeat_list F.slot_int_index.lookup
  (call_meets F.slot_int_rmul (typeIs_int s k t) F.entry_int_rmul (F.args_int_rmul_2 _ _) (int___rmul___int_list k t l b.toArray n)
   ⟨e,rfl,⟨_,e,rfl⟩,call_meets F.slot_list_mul ⟨_,e,rfl⟩ F.entry_list_mul (F.args_list_mul_2 _ _) (AutoListH.list___mul___list_int_3 l b.toArray n k t f d c) ⟨e,?_⟩⟩)
 rw[g];exact⟨.ref _,_,I.lnew (r.rep k.toNat) (by rw[yZ,bZ];exact o),rfl,q _ I.fresh⟩
end
end L2
namespace Att
open PySem PySem.W PySem.Calls PyProof.Rows
def uf:∀c vs,WellAll P h vs (c.map WData.int)->IntsAre vs c:=by
 intro c;induction c with
 |nil=>intro vs w;rw[b4]at w;cases w;exact .nil
 |cons n c ih=>
  intro vs w;rw[bE]at w;cases w with
  |cons a b=>cases a;exact .cons _ _ (ih _ b)
theorem script_of{l:OpenLaw}(m:l.most=some n)
  (b:l.row.toRowW.claim.pre args=true) (g:WellAll P h vals args) :
  ∃a vs c,vals=[Value.ref a]/\args=[WData.list (c.map WData.int)]/\h.get? a=some {cls:=.type "list",data:=.seq vs.toArray}/\IntsAre vs c/\c.length<=n:=by
 have i:=(pre_splitW b).1;have j:l.pre.holds [] {args:=args}=true:=(pre_splitW b).2;obtain⟨d,r,rfl,k,s⟩:=hasAllW_cons i;obtain rfl:=hasAllW_nil s;obtain⟨u,rfl,o⟩:=hasW_list k;obtain⟨c,rfl⟩:=items_int o;have p:c.length<=n:=by
  unfold OpenLaw.pre at j;have f:(WTm.not (.lt (.lit (.int n)) (.len (.arg 0)))).holds [] {args:=[.list (c.map .int)]}=true:=by have f:=(holds_andW j).1;rw[m]at f;exact f
  have e:=condW_of f (w_not (w_lt w_lit (w_len_list (w_arg rfl))));rw[aw]at e;refine Nat.le_of_not_lt λq=>?_;first
   | (rw[aB q']at e;exact absurd e (by decide))
   | (simp at e;omega)
 cases g with
 |cons w1 w2=>
  cases w2;cases w1 with
  |list ho zR=>exact⟨_,_,c,rfl,rfl,ho,uf c _ zR,p⟩
def post_true(l:OpenLaw) args:l.row.toRowW.claim.post args (.bool true) args=true:=
 postW_of
  (show WShape.has [] (.bool true) .bool=true by first|rfl|decide|simp[WShape.has,WShape.arms,WShape.armsAll])
  (w_eq_bool (w_res rfl) w_lit) rfl
end Att
namespace L2
open PySem PySem.Spec PyProof.Rows
theorem yp:∀{vs} {ns},IntsAre vs ns->gH (ns.map V.int) vs
 |_,_,.nil=>.nil
 |_,_,.cons n t h=>.cons ⟨t,rfl⟩ (yp h)
def On(H:Hp):Prop:=∀b,H b=none\/∃o a,H b=some (.frz o (.lst a))
theorem FO{K:W.Frag}
  (Z:K.In s₁.heap) (B:s₁.heap.Ns mainGlobals mg) (c:s₁.heap.Ns builtinsNs mb) (Q:∀x:Str,x≠ "__name__" ->mb x=bootBuiltins x) (A:s₁.heap.NoLimit) (hg:s₁.gens = #[])
  (N:s₁.heap.get? a=some {cls:=.type "list",data:=.seq vs.toArray}) (hi:IntsAre vs ns) (hl:ns.length<=sizeLine) (hr:iF k callerA)
  (F:∀f:Heap,K.In f->f.Ns mainGlobals mg->mv P w K mg f CX k fa fd [x] sp) (l:∀(s:Shared) (u:Vq),BindsTo s fd ⟨[u],[]⟩ [(x,u)])
  (R:∀H:Hp,On H->lg K H a (ns.map V.int)->sp [.ref a] H (λv _=>v=.bl true) λ_ _ _=>False)
  (Y:∀H e g,CX [] H s₁ (λ_ _ _=>False) e g->False) :
  codeAny (model P w) callerA (.call (.ref fa) ⟨[.ref a],[]⟩) (λr g=>r=.ok (.ret (.bool true))/\OldK s₁.heap g.heap/\g.os=s₁.os/\AllBare g.gens) s₁:=by
 have rv:=yp hi;have C:=hi.length;have j:∀H:Hp,On H->lg K H a (ns.map V.int)->ph P w H s₁.heap->(∀b,H b≠none->b=a)->(H a≠none->K.lookup a=none)->
   codeAny (model P w) callerA (.call (.ref fa) ⟨[.ref a],[]⟩) (λr g=>r=.ok (.ret (.bool true))/\OldK s₁.heap g.heap/\g.os=s₁.os/\AllBare g.gens) s₁:=by
  intro H hO hS I hA hK;have base_of:∀{b:Addr} {o:Obj},s₁.heap.get? b=some o->H b=none->(yS s₁.heap H).get? b=some o:=λe n=>Il e n;have S:∀{b:Addr} {o:Obj} {J:Array DictEntry} {L:Nat},s₁.heap.get? b=some o->o.data=.dict J L->H b=none:=λ{b o J L} e d=>by
   cases q:H b with
   |none=>rfl
   |some u=>have U:=hA b (by rw[q];simp);subst U;rw[N]at e;cases e;have d':=d;cases d'
  have i:∀{b:Addr} {m:Str->Option Value},s₁.heap.Ns b m->(yS s₁.heap H).Ns b m:=λ{b m} ⟨o,J,L,e,d,r⟩=>⟨o,J,L,base_of e (S e d),d,r⟩;have y:K.In (yS s₁.heap H):=λb o e=>base_of (Z b o e) (by
   cases q:H b with
   |none=>rfl
   |some u=>have U:=hA b (by rw[q];simp);subst U;rw[hK (by rw[q];simp)]at e;cases e)
  have hM:Mod K mg (yS s₁.heap H):=⟨y,i B,⟨mb,i c,Q⟩,let ⟨mc,h1,h2⟩:=A;⟨mc,i h1,h2⟩⟩;have e0:CH P w K mg (yS s₁.heap H) callerA [] s₁ H:=⟨rfl,hM,λb o e=>JU e,Nat.le_of_eq (EC _ _),trivial,λb c=>absurd (show b∈([]) from c) (by simp),I,.of_eq hg⟩;refine codeAny_mono ((F _ y (i B)).run callerA [] s₁ H ⟨[.ref a],[]⟩ [.ref a] [.ref a] _ _ hr e0 (l s₁ (.ref a)) (.cons rfl .nil) (R H hO hS)) λr g h=>?_;cases r with
  |error e=>exact (Y H e g h).elim
  |ok fl=>
   cases fl with
   |next=>exact False.elim h
   |brk=>exact False.elim h
   |cont=>exact False.elim h
   |ret u=>
    obtain⟨v,H',os,p,un,D,r',q⟩:=h;have q':=q;subst q';obtain rfl:u=Value.bool true:=r';refine⟨rfl,OldK.of_keep λb o e=>?_,os,p⟩;cases q:H b with
    |none=>exact un.keep b o e q (by intro z;exact absurd (show b∈([]) from z) (by simp)) (by simp)
    |some u=>
     rcases hO b with z|⟨ob,xs,z⟩
     .rw[q]at z;cases z
     .have z2:=un.frzs b ob _ z;obtain⟨e1,_⟩:=I b _ z;obtain⟨e2,_⟩:=D b _ z2;rw[e]at e1;cases e1;exact e2
 cases X:K.lookup a with
 |some o=>have e:=Z a o X;rw[N]at e;cases e;refine j (λ_=>none) (λ_=>.inl rfl) (.inr ⟨_,vs.toArray,_,X,rfl,rfl,rfl,by rw[bD,C];exact hl,by simpa using rv⟩) (λb u z=>by have E:=z;cases E) (λb z=>absurd rfl z) λz=>absurd rfl z
 |none=>
  refine j (λb=>if b=a then some (.frz {cls:=.type "list",data:=.seq vs.toArray} (.lst (ns.map V.int))) else none) (λb=>?_) (.inl (.inr ⟨{cls:=.type "list",data:=.seq vs.toArray},aP rfl⟩)) (λb u z=>?_) (λb z=>?_) λ_=>X
  .by_cases c:b=a
   .exact .inr ⟨_,_,aP c⟩
   .exact .inl (aQ c)
  .by_cases c:b=a
   .have E:=(aP c).symm.trans z;cases E;subst c;exact⟨N,by rw[aw];exact hl,vs,_,rv,N⟩
   .have E:=(aQ c).symm.trans z;cases E
  .by_cases c:b=a
   .exact c
   .exact absurd (aQ c) z
end L2
namespace L2
open PySem PySem.Spec PyProof.Rows
noncomputable def l5(s:Stmt)(j:Nat):Stmt:=match s with
 |.ClassDef _ _ _ body _ _ _ _ _ _ _=>body.getD j (.Pass ⟨0,0,0,0⟩)
 |_=>.Pass ⟨0,0,0,0⟩
noncomputable def jg(s:Stmt):Arguments:=match s with
 |.FunctionDef _ a _ _ _ _ _ _ _ _=>a
 |_=>{posonlyargs:=[],args:=[],vararg:=none,kwonlyargs:=[],kw_defaults:=[],kwarg:=none,defaults:=[]}
noncomputable def gJ(s:Stmt):List Stmt:=match s with
 |.FunctionDef _ _ b _ _ _ _ _ _ _=>b
 |_=>[]
noncomputable def fK(s:Stmt):Scope:=match s with
 |.FunctionDef _ _ _ _ _ _ sc _ _ _=>sc
 |_=>{kind:=.function,names:=[],isGenerator:=false,isCoroutine:=false}
abbrev uD:Js:=λ_ _ _ _ _ _=>False
abbrev E0:XK:=λ_ _ _=>False
def C3:lT uD X E0:=λ_ _ _ _ _ _ _ h=>h.elim
structure Jr(K:W.Frag)(x qual:Str)(st:Stmt)(f:Addr)(fd:FuncData):Prop where
 ex:∃(oc:Vq) (od:Option Addr) (kV doc pm:Vq) (an:Option Addr) (cdv ct:Vq) (osl:Array (Option Value)),
  fd=W.fnOf x qual (jg st) (gJ st) (fK st) .none kV doc pm an cdv ct/\K.lookup f=some ⟨oc,od,.func fd,osl⟩/\W.codeIn K cdv qual=true
 kp:W.keepIn K (.ref f)=true
section
variable {P:Program}{w:World}{K:W.Frag}{mg:Str->Option Value}{base:Heap}
def Jr.ok{st:Stmt}(F:Jr K x qual st f fd)(S:iP N ps (fK st))(e:∀vs H Q E,sp vs H Q E->vs.length=ps.length)
  (c:∀b A a s H vs Q E,iF k (A.deeper (envOfC qual (fK st) s.heap.objs.size f b))->sp vs H Q E->
   ∃t,wV (jS uD P w K mg base N qual (fK st) f b A a s H E).nox (gJ st) t/\t {nx:=λ_ m=>Q .non m,rt:=Q} (lB N vs) H):mv P w K mg base uD (k+1) f fd ps sp:=by
 obtain⟨n,o,kV,i,u,p,b,r,j,rfl,l,g⟩:=F.ex;refine Me l g S e λA a s H vs Q E hr d=>?_;obtain⟨t,h,q⟩:=c b A a s H vs Q E hr d;exact⟨t,h.nox,q⟩
def Jr.binds{st:Stmt}(F:Jr K x qual st f fd)
  (h:∀(kV a d:Vq) (e:Option Addr) (b c:Vq) (us:List Vq),us.length=ps.length->bindArgs (W.fnOf x qual (jg st) (gJ st) (fK st) .none kV a d e b c) ⟨us,[]⟩=pure (ps.zip us)):nV K fd ps []:=by
 obtain⟨k,j,kV,a,d,e,b,c,g,rfl,l,i⟩:=F.ex;exact .all (h kV a d e b c)
def B8{st:Stmt}{kV b e a d:Vq}(l:K.lookup f=some ⟨oc,od,.func (W.fnOf x qual (jg st) (gJ st) (fK st) .none kV b e an a d),osl⟩)
  (c:W.codeIn K a qual=true) (k:W.keepIn K (.ref f)=true):Jr K x qual st f (W.fnOf x qual (jg st) (gJ st) (fK st) .none kV b e an a d):=⟨⟨oc,od,kV,b,e,an,a,d,osl,rfl,l,c⟩,k⟩
end
def Qy(hr:iF k A):A.units+1<cLine:=b5 (b6 (by decide:1<=64) _) hr.units
section
variable {X:Cx}
def pv i (d:X.N[i]? = some x:=by rfl) (b:PH X.env.scope x:=by first|exact Or.inl rfl|exact Or.inr (Or.inl rfl)|exact Or.inr (Or.inr rfl)) (c:(x==("__debug__" : Str))=false:=by decide)
  (a:(x==("__classdict__" : Str))=false:=by decide):PE X (.Name x pos) (lS i):=Mv d b c a
end
def f6(H a:Hp):Prop:=∀b o,H b=some o->a b=some o
def f6.refl H:f6 H H:=λ_ _ h=>h
def f6.trans(a:f6 H H1)(b:f6 H1 H2):f6 H H2:=λc o h=>b c o (a c o h)
def f6.seq{K:W.Frag}(e:f6 H H')(h:lg K H a xs):lg K H' a xs:=by
 rcases h with (h|⟨o,h⟩)|h
 .exact .inl (.inl (e _ _ h))
 .exact .inl (.inr ⟨o,e _ _ h⟩)
 .exact .inr h
end L2
namespace L2
open PySem PySem.Spec PyProof.Rows
section
variable {P:Program}{w:World}{H:Hp}{h:Heap}{a:Addr}{o:HO}
def ph.track(ok:ph P w H h)(f:H a=none)(new:jy P w (ja H a o) h a o):ph P w (ja H a o) h:=λb u e=>by
 by_cases d:b=a
 .subst d;rw[fR]at e;cases e;exact new
 .rw[fT d]at e;refine (ok b u e).stay (λ_ _ _ q=>q) (λc q=>?_) λc g q=>?_
  .rw[fT (gA q f)];exact q
  .rw[fT (gA q f)];exact q
end
def fV.track(I:fV X fw σ H s)(d:H a=none)(g:a∈X.ex\/X.s₀.heap.objs.size<=a)
  (i:a≠X.env.locals) (j:∀x c,X.env.cells.lookup x=some c->c≠a) (h:∀p∈X.pn++fw,p.1≠a) (new:jy X.prog X.w (ja H a o) s.heap a o):fV X fw σ (ja H a o) s:=by
 have J:=I.step (t':=s.toks) (d':=s.drawn) (ch:=[a])
  (λb f=>by
   have e:b=a:=by simpa using f
   subst e;exact⟨g,i,j,h⟩)
  (λ_ _ _ _ _ e _=>e) (λ_ u _ _ _ e _=>⟨u.slots,e⟩)
  (λb u f _ n=>by rw[fT (by simpa using f)];exact n)
  (λ_ u _ e=>⟨u,e⟩)
  (λb k q=>by rw[fT (gA q d)];exact q)
  (λb u v q=>by rw[fT (gA q d)];exact q)
  (λb l q=>⟨#[],by rw[fT (gA q d),q];simp⟩)
  (λ_ q=>q) (I.hok.track d new) I.bare
 exact J
noncomputable def md(a:Env):List (Str×NameKind)->List (Str×Addr)->List (Str×Addr)
 |[],acc=>acc
 | (n,k)::r,acc=>if k==NameKind.free then (match a.cells.lookup n with
  |some c=>md a r ((n,c)::acc)
  |none=>md a r acc) else md a r acc
def qJ(h:∀y∈scope.names,y.2=.free->∃c,env.cells.lookup y.1=some c):closureFor scope env=pure (md env scope.names []):=by
 have all:∀(l:List (Str×NameKind)) b,(∀y∈l,y.2=.free->∃c,env.cells.lookup y.1=some c)->
   (forIn l b λx cs=>(if (x.2==NameKind.free)=true then (do
    let a <-cellOf env x.1
    pure (ForInStep.yield ((x.1,a)::cs))) else pure (ForInStep.yield cs):Sem _))=pure (md env l b):=by
  intro l;induction l with
  |nil=>intro b _;rfl
  |cons y r ih=>
   intro b j;obtain⟨n,k⟩:=y;rw[b7];by_cases f:(k==NameKind.free)=true
   .obtain⟨c,m⟩:=j (n,k) bh (by simpa using f);have d:=m;have e:cellOf env n=pure c:=by unfold cellOf;rw[d]
    simp only[f,if_true,e,pure_bind];rw[ih _ λy i=>j y (bj _ i)];show pure (md env r ((n,c)::b))=pure (if (k==NameKind.free)=true then (match env.cells.lookup n with
     |some c=>md env r ((n,c)::b)
     |none=>md env r b) else md env r b)
    rw[aP f,d]
   .have g:(k==NameKind.free)=false:=by simpa using f
    simp only[g,b8,if_false,pure_bind];rw[ih _ λy i=>j y (bj _ i)];show pure (md env r b)=pure (if (k==NameKind.free)=true then (match env.cells.lookup n with
     |some c=>md env r ((n,c)::b)
     |none=>md env r b) else md env r b)
    rw[aQ f]
 have:=all scope.names [] h;unfold closureFor;simp only[pure_bind,bind_pure]at this ⊢;exact this
theorem lX:∀{l} {acc},(∀y d,acc.lookup y=some d->env.cells.lookup y=some d)->(md env l acc).lookup x=some c->env.cells.lookup x=some c
 |[],acc,ha,h=>ha x c h
 | (n,k)::r,acc,ha,h=>by
  unfold md at h;by_cases b:(k==NameKind.free)=true
  .rw[aP b]at h;cases e:env.cells.lookup n with
   |none=>rw[e]at h;exact lX ha h
   |some d=>
    rw[e]at h;refine lX (λy d' a=>?_) h;rw[b9]at a;cases q:y==n with
    |true=>rw[q]at a;cases a;rw[beq_iff_eq.mp q];exact e
    |false=>rw[q]at a;exact ha y d' a
  .rw[aQ b]at h;exact lX ha h
theorem pZ:∀{l} {acc},(∃c,acc.lookup x=some c)->∃c,(md env l acc).lookup x=some c
 |[],_,h=>h
 | (n,k)::r,acc,h=>by
  unfold md;by_cases a:(k==NameKind.free)=true
  .rw[aP a];cases e:env.cells.lookup n with
   |none=>exact pZ h
   |some d=>
    refine pZ ?_;rw[b9];cases q:x==n with
    |true=>exact⟨d,rfl⟩
    |false=>exact h
  .rw[aQ a];exact pZ h
theorem nU:∀{l} {acc},(x,NameKind.free)∈l->(∃c,env.cells.lookup x=some c)->∃c,(md env l acc).lookup x=some c
 | (n,k)::r,acc,b,a=>by
  rcases aE.mp b with e|b
  .cases e;obtain⟨c,a⟩:=a;unfold md;rw[aP (by rfl),a];refine pZ ⟨c,?_⟩;rw[b9,beq_self_eq_true]
  .unfold md;by_cases f:(k==NameKind.free)=true
   .rw[aP f];cases env.cells.lookup n with
    |none=>exact nU b a
    |some d=>exact nU b a
   .rw[aQ f];exact nU b a
def rF(h:(relabel scope env).names.lookup x=some .cell\/(relabel scope env).names.lookup x=some .free):(x,NameKind.free)∈scope.names\/scope.names.lookup x=some .cell:=by
 have all:∀(l:List (Str×NameKind)),∀k,(k=NameKind.cell\/k=NameKind.free)->
   (l.map λ(n,k)=>if (k==NameKind.free&&env.scope.kind==.function&&env.kindOf n==some .cell) then (n,NameKind.cell) else (n,k)).lookup x=some k->(x,NameKind.free)∈l\/l.lookup x=some .cell:=by
  intro l;induction l with
  |nil=>intro k _ h;simp at h
  |cons y r ih=>
   intro k b h;obtain⟨n,c⟩:=y;rw[bE]at h;by_cases a:(c==NameKind.free&&env.scope.kind==.function&&env.kindOf n==some .cell)=true
   .have d:c=.free:=by simp only[bP,beq_iff_eq]at a;exact a.1.1
    simp only[a,if_true]at h;rw[b9]at h;cases q:x==n with
    |true=>rw[d,beq_iff_eq.mp q];exact .inl bh
    |false=>
     rw[q]at h;rcases ih k b h with z|z
     .exact .inl (bj _ z)
     .exact .inr (by rw[b9,q];exact z)
   .simp only[a,b8,if_false]at h;rw[b9]at h;cases q:x==n with
    |true=>
     rw[q]at h;have e:c=k:=by simpa using h
     rcases b with rfl|rfl
     .exact .inr (by rw[b9,q,e])
     .rw[e,beq_iff_eq.mp q];exact .inl bh
    |false=>
     rw[q]at h;rcases ih k b h with z|z
     .exact .inl (bj _ z)
     .exact .inr (by rw[b9,q];exact z)
 rcases h with h|h
 .exact all scope.names _ (.inl rfl) h
 .exact all scope.names _ (.inr rfl) h
def yz(h:scope.names.lookup x=some .free):(relabel scope env).names.lookup x=some .cell\/(relabel scope env).names.lookup x=some .free:=by
 have all:∀(l:List (Str×NameKind)),l.lookup x=some .free->
   (l.map λ(n,k)=>if (k==NameKind.free&&env.scope.kind==.function&&env.kindOf n==some .cell) then (n,NameKind.cell) else (n,k)).lookup x=some .cell\/
   (l.map λ(n,k)=>if (k==NameKind.free&&env.scope.kind==.function&&env.kindOf n==some .cell) then (n,NameKind.cell) else (n,k)).lookup x=some .free:=by
  intro l;induction l with
  |nil=>intro h;simp at h
  |cons y r ih=>
   intro h;obtain⟨n,k⟩:=y;rw[bE];rw[b9]at h;cases q:x==n with
   |true=>
    rw[q]at h;have b:k=.free:=by simpa using h
    by_cases a:(k==NameKind.free&&env.scope.kind==.function&&env.kindOf n==some .cell)=true
    .refine .inl ?_;simp only[a,if_true];rw[b9,q]
    .refine .inr ?_;simp only[a,b8,if_false];rw[b9,q,b]
   |false=>
    rw[q]at h;by_cases a:(k==NameKind.free&&env.scope.kind==.function&&env.kindOf n==some .cell)=true
    .simp only[a,if_true];rw[b9,q];exact ih h
    .simp only[a,b8,if_false];rw[b9,q];exact ih h
 exact all scope.names h
def EN(X:Cx)(a:List Expr)(t:TT):Prop:=
 ∀(d:List (Addr×Obj)) (s:Shared) (b:St) (H:Hp) (Q:Bool->Hp->Prop),fV X d b H s->t b H Q->
  wpAny (model X.prog X.w) X.A (forIn a true λc r=>if r=true then do let ok <-isTrue c X.env (eval c X.env);pure (ForInStep.yield ok) else pure (ForInStep.yield r)) (TP X d b Q) X.xe s
def OE:TT:=λ_ H Q=>Q true H
def JW:EN X [] OE:=λ_ _ _ H _ I h=>wpAny_tests_nil ⟨H,I,h⟩
def J9(a:PT X c t):EN X [c] t:=λb s d H Q I h=>wpAny_tests_one (a b s d H Q I h)
theorem mY:∀a k b,(cellsFrom k a b).lookup x=some c->b.lookup x=some c\/(k<=c/\(x,NameKind.cell)∈a)
 |[],_,_,h=>.inl h
 | (n,kd)::r,k,b,h=>by
  unfold cellsFrom at h;split at h
  .rename_i e;rcases mY r _ _ h with q|⟨q,m⟩
   .rw[b9]at q;cases d:x==n with
    |true=>rw[d]at q;cases q;refine .inr ⟨aJ _,?_⟩;rw[beq_iff_eq.mp d,beq_iff_eq.mp e];exact bh
    |false=>rw[d]at q;exact .inl q
   .exact .inr ⟨cf q,bj _ m⟩
  .rcases mY r _ _ h with q|⟨q,m⟩
   .exact .inl q
   .exact .inr ⟨q,bj _ m⟩
theorem l3:∀a k b,(x,NameKind.cell)∉a->(cellsFrom k a b).lookup x=b.lookup x
 |[],_,_,_=>rfl
 | (n,kd)::r,k,b,h=>by
  unfold cellsFrom;have hr:(x,NameKind.cell)∉r:=λz=>h (bj _ z);split
  .rename_i d;rw[l3 r _ _ hr,b9];cases c:x==n with
   |true=>exact absurd (by rw[beq_iff_eq.mp c,beq_iff_eq.mp d];exact bh) h
   |false=>rfl
  .exact l3 r _ _ hr
theorem nM:∀a k b,(x,NameKind.cell)∈a->(cellsFrom k a b).lookup x=some c->k<=c
 |[],_,_,h,_=>nomatch h
 | (n,kd)::r,k,b,h,e=>by
  unfold cellsFrom at e;by_cases hr:(x,NameKind.cell)∈r
  .split at e
   .exact cf (nM r _ _ hr e)
   .exact nM r _ _ hr e
  .rcases aE.mp h with q|q
   .cases q;rw[aP (by rfl),l3 r _ _ hr,b9,beq_self_eq_true]at e;cases e;exact aJ _
   .exact absurd q hr
theorem nB:∀d k a,(∀x y c,a.lookup x=some c->a.lookup y=some c->x=y)->(∀x c,a.lookup x=some c->c<k)->
  ∀x y c,(cellsFrom k d a).lookup x=some c->(cellsFrom k d a).lookup y=some c->x=y
 |[],_,_,h,_=>h
 | (n,kd)::r,k,a,h,hl=>by
  unfold cellsFrom;split
  .refine nB r (k+1) ((n,k)::a) (λx y c b e=>?_) λx c b=>?_
   .rw[b9]at b e;cases f:x==n with
    |true=>
     cases g:y==n with
     |true=>rw[beq_iff_eq.mp f,beq_iff_eq.mp g]
     |false=>rw[f]at b;rw[g]at e;cases b;exact absurd (hl _ _ e) (aZ _)
    |false=>
     rw[f]at b;cases g:y==n with
     |true=>rw[g]at e;cases e;exact absurd (hl _ _ b) (aZ _)
     |false=>rw[g]at e;exact h x y c b e
   .rw[b9]at b;cases f:x==n with
    |true=>rw[f]at b;cases b;exact bF _
    |false=>rw[f]at b;exact cg (hl x c b)
  .exact nB r k a h hl
theorem mV:∀a h b,(cellsFrom h.objs.size a b).lookup x=some c->b.lookup x=some c\/(h.objs.size<=c/\(pushCells h a).IsCell c none)
 |[],_,_,e=>.inl e
 | (n,kd)::r,h,b,e=>by
  unfold cellsFrom at e;unfold pushCells;split at e
  .rename_i d;rw[aP d];have g:(cellsFrom (h.push {cls:=.type "cell",data:=.cell none}).objs.size r ((n,h.objs.size)::b)).lookup x=some c:=by rw[Heap.size_push];exact e
   rcases mV r _ _ g with q|⟨q,m⟩
   .rw[b9]at q;cases f:x==n with
    |true=>rw[f]at q;cases q;exact .inr ⟨aJ _,_,pushCells_keeps r _ _ _ (ar _ rfl),rfl⟩
    |false=>rw[f]at q;exact .inl q
   .rw[Heap.size_push]at q;exact .inr ⟨cf q,m⟩
  .rename_i d;rw[aQ d];exact mV r _ _ e
def sW{M:Model}{A:Around}{E:Vq->Shared->Prop}{s:Shared}{a:Scope}{globals:Addr}{closure:List (Str×Addr)}{e:Str}{c:Option Addr}{d:Vq}{b:Env}{builtins:Addr}{Q:Env->Shared->Prop}
  (j:Q (newEnv a s.heap.objs.size globals (cellsFrom (s.heap.objs.size+1) a.names closure) e c d (some b) builtins) {s with heap:=pushCells (s.heap.push {cls:=.type "dict",data:=.dict #[]}) a.names}) :
  wpAny M A (newFunctionEnv a globals closure [] e c d (some b) builtins) Q E s:=by
 simp only[newFunctionEnv,cj,if_true];refine ao (wpAny_alloc ?_);refine ao (wpAny_layCells _ (λi f g=>by cases h:f==NameKind.cell<;>simp[h]) _ _ _ _ ?_);rw[show ({s with heap:=s.heap.push {cls:=.type "dict",data:=.dict #[]}}:Shared).heap.objs.size=s.heap.objs.size+1 from Heap.size_push ..];rw[ck];exact ao (ak (ak j))
noncomputable def mH(X:Cx)(N:List Str)(a:Scope)(C:Addr)(b:Shared)(H:Hp)(ex:List Addr)(pn:List (Addr×Obj)):Cx:={X with N:=N,s₀:=b,H₀:=H,env:=compEnvC a (cellsFrom (C+1) a.names (md X.env a.names [])) C X.env,outer:=X.stack,ex:=ex,fn:=λx=>a.names.lookup x==some .cell,pn:=pn,xe:=λ_ _=>False}
noncomputable def pull(b:List (Option Nat))(a:St):St:=b.map fun
 |none=>none
 |some j=>(a[j]?).getD none
def RS(J:It)(p:List (Option Nat))(g:TG)(l:TT)(o:TE)(j:St)(n:Hp)(Q:VK):Prop:=∃W:Nat->Nat->List V->Hp->Prop,(∃m,W 0 m [] n)/\∀i m c H,W i m c H->
 (J.stop i H/\∀D,H D=none->Q (.ref D) (ja H D (.lst c)))\/
 (J.go i H/\c.length<sizeLine/\∀x f,J.yld i H x f->g x (pull p j) f λd k=>l d k λb e=>if b=true then o d e λy h=>∃a,a<m/\W (i+1) a (c++[y]) h else ∃a,a<m/\W (i+1) a c e)
def FR(f:List (Option Nat))(c:TI)(g:TG)(b:TT)(e:TE):TE:=λa H Q=>c a H λJ d=>RS J f g b e a d Q
end L2
namespace L2
open PySem PySem.Spec PyProof.Rows
section
variable {prog:Program}{w:World}{A:Around}{R:Result->Shared->Prop}{s:Shared}
theorem zp{u H f:Expr}{q:List Expr}{d:Scope}{D:Pos}{it p:Vq}{a:Env}(J:Nat->Shared->Prop)
  (E:∀n s,J n s->wpAny (model prog w) A (pyNext it) (λr e=>match r with
   |none=>R (.ok .next) e
   |some v=>wpAny (model prog w) A (letOwnedTupleGo H it v) (λ_ j=>wpAny (model prog w) A (assign H a v) (λ_ i=>
     wpAny (model prog w) A (forIn q true λc r=>if r=true then do let ok <-isTrue c a (eval c a);pure (ForInStep.yield ok) else pure (ForInStep.yield r)) (λok b=>
      if ok=true then wpAny (model prog w) A (eval u a) (λx g=>wpAny (model prog w) A (call (.builtin "list.append") [p,x]) (λ_ k=>∃m,m<n/\J m k) (λ_ _=>False) g) (λ_ _=>False) b
      else ∃m,m<n/\J m b) (λ_ _=>False) i) (λ_ _=>False) j) (λ_ _=>False) e) (λ_ _=>False) s)
  (n:Nat) (h:J n s):codeAny (model prog w) A (.compLoop (.ListComp u [⟨H,f,q,0⟩] d D) 0 it p a) R s:=by
 refine codeAny_loop rfl J (λn s I=>?_) n h;show wpAny _ A ((compTurn (.ListComp u [⟨H,f,q,0⟩] d D) 0 it p a).onRaise (λx=>do noteFrame x a;theTreesLotGoes x)) _ _ s;refine wpAny_noted ?_;rw[compTurn_list];refine ao (wpAny_standAt (ao (wpAny_mono (E n s I) (λr e l=>?_) λ_ _ z=>z.elim)));cases r with
 |none=>exact ak l
 |some v=>
  refine ao (wpAny_mono l (λ_ j y=>?_) λ_ _ z=>z.elim);refine ao (wpAny_mono y (λ_ i C=>ao (wpAny_mono C (λok b o=>?_) λ_ _ z=>z.elim)) λ_ _ z=>z.elim);cases ok with
  |false=>exact ak ⟨rfl,o⟩
  |true=>exact ao (ao (wpAny_mono o (λx g B=>ao (wpAny_mono B (λ_ k F=>ak (ak ⟨rfl,F⟩)) λ_ _ z=>z.elim)) λ_ _ z=>z.elim))
end
def oz(d:List (Option Nat))(g:TG):Prop:=∀x a H Q,g x a H Q->g x a H λb c=>(∀i j:Nat,d[i]? = some (some j)->b[i]? = a[i]?)/\Q b c
def wJ(b:ix[k]? = some none):oz ix (jj k):=λx a H Q h=>by
 refine⟨λi j e=>?_,h⟩;have:k≠i:=by rintro rfl;rw[b]at e;cases e
 rw[aq this]
abbrev xk(us:List Vq):Obj:={cls:=.type "list",data:=.seq us.toArray us.length}
section
variable {X:Cx}{tg elt iter:Expr}{ifs:List Expr}{scope:Scope}{pos:Pos}{N:List Str}{ix:List (Option Nat)}{wi:TI}{g:TG}{tt:TT}{te:TE}
structure zY(X:Cx)(scope:Scope)(N:List Str)(ix:List (Option Nat)):Prop where
 kind:scope.kind=.function
 sep:∀y∈scope.names,y.2=.cell->scope.names.lookup y.1=some .cell
 names:∀y∈scope.names,y.2=.local->scope.names.lookup y.1=some .local
 fre:∀y∈scope.names,y.2=.free->∃c,X.env.cells.lookup y.1=some c
 len:N.length=ix.length
 ix:∀(i j:Nat) (x:Str),N[i]? = some x->ix[i]? = some (some j)->X.N[j]? = some x/\scope.names.lookup x=some .free/\PH X.env.scope x/\X.env.kindOf x≠some .local
def QS(L:zY X scope N ix)(I:fV X fw σ H s)(f:∀b∈fp,rC X fw H b)(i:∀b∈fp,b<s.heap.objs.size) o :
  (mH X N scope (s.heap.objs.size+1) {s with heap:=s.heap.push o} H (s.heap.objs.size::fp) (X.pn++fw)).Ok:=by
 have r:fV X fw σ H {s with heap:=s.heap.push o}:=I.kept λb u e=>ae _ e;have sound0:∀x c,(md X.env scope.names []).lookup x=some c->X.env.cells.lookup x=some c:=λx c e=>lX (λy d z=>by simp at z) e;have cellLt:∀x c,X.env.cells.lookup x=some c->c<s.heap.objs.size:=λx c e=>let ⟨_,q⟩:=I.cell x c e;q.lt;have h:∀x c,(cellsFrom (s.heap.objs.size+1+1) scope.names (md X.env scope.names [])).lookup x=some c->X.env.cells.lookup x=some c\/s.heap.objs.size+1+1<=c:=λx c e=>by
  rcases mY _ _ _ e with q|⟨q,_⟩
  .exact .inl (sound0 x c q)
  .exact .inr q
 refine⟨I.ok.mod,L.kind,I.ok.glob,I.ok.blt,?_,nB _ _ _ (λx y c j m=>I.ok.inj x y c (sound0 x c j) (sound0 y c m)) (λx c j=>cg (cg (cellLt x c (sound0 x c j)))),λx v=>?_,λx c j m=>?_,I.ok.hd,I.ok.frames,.inl rfl,λb a=>?_,λb u e=>?_,?_,λb u e a=>?_,λb a=>?_,r.stack,I.stkFree⟩
 .show (s.heap.push o).objs.size<=s.heap.objs.size+1;rw[Heap.size_push];exact aJ _
 .refine bK.mp (W.cellsFrom_some _ _ _ ?_);rcases rF v with k|k
  .exact .inr (bK.mpr (nU k (L.fre _ k rfl)))
  .exact .inl k
 .have l:(scope.names.lookup x==some .cell)=true:=j;have w:scope.names.lookup x=some .cell:=by simpa using l
  show (s.heap.push o).objs.size<=c;rw[Heap.size_push];exact cf (nM _ _ _ (PySem.mem_of_lookup w) m)
 .rcases aE.mp a with rfl|a
  .refine⟨aL (bF _),λx c e z=>?_⟩;rcases h x c e with q|q
   .exact absurd (cellLt x c q) (by rw[z];exact aZ _)
   .rw[z]at q;omega
  .refine⟨aL (cg (i b a)),λx c e=>?_⟩;rcases h x c e with q|q
   .exact (f b a).2.2.2.2.1 x c q
   .intro z;rw[z]at q;exact absurd (aM (cm _ 2) q) (Nat.not_le.mpr (i b a))
 .exact⟨ae _ (I.bs b u e).1,(I.bs b u e).2⟩
 .show X.base.objs.size<=(s.heap.push o).objs.size;rw[Heap.size_push];exact cq (aM I.ok.bsz I.sz)
 .have n:=aK (I.bs b u e).1;rcases aE.mp a with rfl|a
  .exact aZ _ n
  .rcases (f b a).2.2.2.1 with z|z
   .exact I.ok.noex b u e z
   .exact absurd (aD (aK e) (aM I.ok.bsz z)) (aZ _)
 .intro z;have p:=I.stkSub b z;rcases aE.mp a with rfl|a
  .rcases aE.mp p with q|q
   .exact absurd I.lt (by rw[<-q];exact aZ _)
   .exact I.nofs (aJ _) q
  .rcases aE.mp p with q|q
   .exact (f b a).2.1 q
   .exact (f b a).2.2.1 q
end
end L2
namespace L2
open PySem PySem.Spec PyProof.Rows
section
variable {X:Cx}{tg elt iter:Expr}{ifs:List Expr}{scope:Scope}{pos:Pos}{N:List Str}{ix:List (Option Nat)}{wi:TI}{g:TG}{tt:TT}{te:TE}
def zW{i:Nat}(h:(pull ix σ)[i]? = some (some v)):∃j,ix[i]? = some (some j)/\σ[j]? = some (some v):=by
 unfold pull at h;rw[av]at h;cases e:ix[i]? with
 |none=>rw[e]at h;cases h
 |some k=>
  rw[e]at h;cases k with
  |none=>cases h
  |some j=>
   refine⟨j,rfl,?_⟩;have a:(σ[j]?).getD none=some v:=by simpa using h
   cases q:σ[j]? with
   |none=>rw[q]at a;cases a
   |some z=>rw[q]at a;simpa using a
theorem Dt{RR:Vq->Addr->Result->Shared->Prop}{Q:VK}{W:Nat->Nat->List V->Hp->Prop}
  (hc:X.calm=true) (L:zY X scope N ix) (hgk:oz ix g)
  (blk:∀C P H ex pn,PG (mH X N scope C P H ex pn) tg g/\EN (mH X N scope C P H ex pn) ifs tt/\PE (mH X N scope C P H ex pn) elt te)
  (l:fV X fw σ H2 s2) (T:AV X.prog X.w X.K tg J fp it tn) (st2:tn 0 s2.heap) (f2:∀b∈fp,rC X fw H2 b) (w0:W 0 m0 [] H2)
  (turn:∀i m Z H,W i m Z H->(J.stop i H/\∀D,H D=none->Q (.ref D) (ja H D (.lst Z)))\/
   (J.go i H/\Z.length<sizeLine/\∀x s,J.yld i H x s->g x (pull ix σ) s λσ2 H2=>tt σ2 H2 λb H3=>if b=true then te σ2 H3 λy H4=>∃m',m'<m/\W (i+1) m' (Z++[y]) H4 else ∃m',m'<m/\W (i+1) m' Z H3))
  (fin:∀D C m s Y,Y.heap.Ns C m->rC X fw s C->fV X fw σ s Y->Q (.ref D) s->RR (.ref D) C (.ok .next) Y) :
  wpAny (model X.prog X.w) X.A (newList []) (λacc P=>wpAny (model X.prog X.w) X.A (newFunctionEnv scope X.env.globals (md X.env scope.names []) [] X.env.qual none .none (some X.env)) (λcenv s₄=>codeAny (model X.prog X.w) X.A (.compStart (.ListComp elt [⟨tg,iter,ifs,0⟩] scope pos) 0 (.ref it) acc {cenv with scope:=relabel scope X.env}) (RR acc cenv.locals) s₄) E P) E s2:=by
 refine wpAny_newObj_type (sW ?_);have hCs:(s2.heap.push {cls:=.type "list",dict:=none,data:=.seq ([]).toArray}).objs.size=s2.heap.objs.size+1:=Heap.size_push ..;generalize S:pushCells ((s2.heap.push {cls:=.type "list",dict:=none,data:=.seq ([]).toArray}).push {cls:=.type "dict",data:=.dict #[]}) scope.names=h₁;rw[hCs];have hns₁:h₁.Ns (s2.heap.objs.size+1) (λ_=>none):=by rw[<-S,<-hCs];exact (Heap.Ns.new _ _).keeps (pushCells_keeps _ _)
 have U:∀x c,(cellsFrom (s2.heap.objs.size+1+1) scope.names (md X.env scope.names [])).lookup x=some c->X.env.cells.lookup x=some c\/(s2.heap.objs.size+1+1<=c/\h₁.IsCell c none):=λx c e=>by
  have hs3:((s2.heap.push {cls:=.type "list",dict:=none,data:=.seq ([]).toArray}).push {cls:=.type "dict",data:=.dict #[]}).objs.size=s2.heap.objs.size+1+1:=by rw[Heap.size_push,hCs]
  rw[<-hs3]at e;rcases mV _ _ _ e with q|⟨q,m⟩
  .exact .inl (lX (λy d z=>by simp at z) q)
  .rw[hs3]at q;rw[S]at m;exact .inr ⟨q,m⟩
 have fpObj:=T.obj 0 _ st2;have hlt:∀b∈fp,b<s2.heap.objs.size:=λb h=>let ⟨_,e,_⟩:=fpObj b h;aK e;have ok:=QS L l f2 hlt {cls:=.type "list",dict:=none,data:=.seq ([]).toArray};have DC:s2.heap.objs.size≠s2.heap.objs.size+1:=aL (bF _);have hold:∀b o,(s2.heap.push {cls:=.type "list",dict:=none,data:=.seq ([]).toArray}).get? b=some o->h₁.get? b=some o:=λb o e=>by rw[<-S];exact pushCells_keeps _ _ _ _ (ae _ e)
 have old:∀b o,s2.heap.get? b=some o->h₁.get? b=some o:=λb o e=>hold b o (ae _ e);have sound:∀x c,(md X.env scope.names []).lookup x=some c->X.env.cells.lookup x=some c:=λx c e=>lX (λy d z=>by simp at z) e;have cellLt:∀x c,X.env.cells.lookup x=some c->c<s2.heap.objs.size:=λx c e=>let ⟨_,q⟩:=l.cell x c e;q.lt;have hDn:=l.hok.fresh (aJ _);have hCn:=l.hok.fresh (bI _);have F:∀p∈X.pn++fw,p.1<s2.heap.objs.size:=λp f=>aK (l.pin p f).1;have hDfs:s2.heap.objs.size∉rh X.stack:=λz=>by
  rcases aE.mp (l.stkSub _ z) with q|q
  .exact absurd l.lt (by rw[<-q];exact aZ _)
  .exact l.nofs (aJ _) q
 have I':fV (mH X N scope (s2.heap.objs.size+1) {s2 with heap:=s2.heap.push {cls:=.type "list",dict:=none,data:=.seq ([]).toArray}} H2 (s2.heap.objs.size::fp) (X.pn++fw))
   [(s2.heap.objs.size,xk [])] (pull ix σ) H2 {s2 with heap:=h₁,toks:=s2.toks}:=by
  refine⟨ok,rfl,l.bare,Un.kept hold,⟨_,hns₁,λi x v h1 h2 h3=>?_⟩,λx c e=>?_,hCn,λx c e=>?_,λp f=>?_,l.hok.kept old,?_⟩
  .obtain⟨j,ej,es⟩:=zW h2;obtain⟨q1,q2,q3,q4⟩:=L.ix i j x h1 ej;obtain⟨m,_,hl⟩:=l.loc;obtain⟨u,r,lk⟩:=hl j x v q1 es q3;refine⟨u,r,?_⟩;rcases lk with⟨k,_⟩|⟨k,c,hcl,hv⟩
   .exact absurd k q4
   .obtain⟨c',hc'⟩:=nU (PySem.mem_of_lookup q2) ⟨c,hcl⟩;have:=sound x c' hc';rw[hcl]at this;cases this;have hnc:(x,NameKind.cell)∉scope.names:=λz=>by have:=L.sep _ z rfl;rw[q2]at this;cases this
    refine .inr ⟨?_,c,(l3 _ _ _ hnc).trans hc',let ⟨ob,ho,hd⟩:=hv;⟨ob,old c ob ho,hd⟩⟩;exact yz q2
  .rcases U x c e with q|⟨_,q⟩
   .obtain⟨v,ob,ho,hd⟩:=l.cell x c q;exact⟨v,ob,old c ob ho,hd⟩
   .exact⟨none,q⟩
  .rcases U x c e with q|⟨q,_⟩
   .exact l.freeC x c q
   .exact l.hok.fresh (aM (cm _ 2) q)
  .rcases ai.mp f with f|f
   .obtain⟨e,n,ne,nf,d⟩:=l.pin p f;refine⟨old _ _ e,n,aL (cg (F p f)),λz=>?_,d⟩;rcases aE.mp (l.stkSub _ z) with q|q
    .exact ne q
    .exact nf q
   .have e:p=(s2.heap.objs.size,xk []):=by simpa using f
    subst e;exact⟨hold _ _ (ar _ rfl),hDn,DC,hDfs,λv z=>by cases z⟩
  .unfold pull;rw[aw];exact L.len.symm
 generalize a:mH X N scope (s2.heap.objs.size+1) {s2 with heap:=s2.heap.push {cls:=.type "list",dict:=none,data:=.seq ([]).toArray}} H2 (s2.heap.objs.size::fp) (X.pn++fw)=X' at I';obtain⟨hg,hif,he⟩:=blk (s2.heap.objs.size+1) {s2 with heap:=s2.heap.push {cls:=.type "list",dict:=none,data:=.seq ([]).toArray}} H2 (s2.heap.objs.size::fp) (X.pn++fw);rw[a]at hg hif he;have stat:∀{s:Hp} {R:List Vq},(∀b∈fp,s b=none)->∀b∈fp,rC X' [(s2.heap.objs.size,xk R)] s b:=λ{s R} hn b h=>by
  subst a;obtain⟨_,f1,f2',f3,f4,f5⟩:=f2 b h;refine⟨hn b h,aL (cg (hlt b h)),λz=>?_,.inl (bj _ h),λx c e=>?_,λp f=>?_⟩
  .rcases aE.mp (l.stkSub _ z) with q|q
   .exact f1 q
   .exact f2' q
  .rcases U x c e with q|⟨q,_⟩
   .exact f4 x c q
   .intro z;rw[z]at q;exact absurd (aM (cm _ 2) q) (Nat.not_le.mpr (hlt b h))
  .rcases ai.mp f with f|f
   .exact f5 p f
   .have e:p=(s2.heap.objs.size,xk R):=by simpa using f
    subst e;exact Ne.symm (aL (hlt b h))
 have loop:codeAny (model X.prog X.w) X.A (.compLoop (.ListComp elt [⟨tg,iter,ifs,0⟩] scope pos) 0 (.ref it) (.ref s2.heap.objs.size) X'.env) (RR (.ref s2.heap.objs.size) (s2.heap.objs.size+1))
   {s2 with heap:=h₁,toks:=s2.toks}:=by
  refine zp (λn Y=>∃i Z R s,fV X' [(s2.heap.objs.size,xk R)] (pull ix σ) s Y/\gH Z R/\Z.length<=sizeLine/\tn i Y.heap/\(∀b∈fp,s b=none)/\W i n Z s) ?_ m0
   ⟨0,[],[],H2,I',.nil,bG _,T.keep _ _ _ st2 λb _ o e=>old b o e,λb h=>(f2 b h).1,w0⟩
  rintro n s3 ⟨i,Z,R,H3,I3,rv,hz,st3,fr3,w3⟩;have hcX:X'.calm=true:=by subst a;exact hc
  have hA:X'.A=X.A:=by subst a;rfl
  rcases turn i n Z H3 w3 with⟨stop,qn⟩|⟨go,jU,step⟩
  .have hd:=T.done X' (by subst a;rfl) (by subst a;rfl) (by subst a;rfl) hcX i _ s3 _ H3 (λ_ _=>False) I3 (stat fr3) st3 stop;rw[hA]at hd;refine jv hd λr s4 ⟨hr,I4⟩=>?_;subst hr;subst a;obtain⟨m,hn,_⟩:=I4.loc;have hD3:=I4.pin (s2.heap.objs.size,xk R) (bC _ bh);have u1:Un (rh X.stack) fp H2 H3 s2.heap s4.heap:=by
    have B:=I4.base;have nD:∀b o,s2.heap.get? b=some o->b∉fp->b∉s2.heap.objs.size::fp:=λb o e h z=>by
     rcases aE.mp z with q|q
     .exact absurd (aK e) (by rw[q];exact aZ _)
     .exact h q
    exact⟨λb o e n h hx=>B.keep b o (ae _ e) n h (nD b o e hx),λb o e n h hx=>B.slot b o (ae _ e) n h (nD b o e hx),
     λb o e n hx=>B.free b o (ae _ e) n (nD b o e hx),λb o e hx=>B.there b o (ae _ e) (nD b o e hx),B.tups,B.frzs,B.tbls⟩
   have I5:=l.call' I4.os u1 I4.hok I4.bare λb h=>let ⟨_,f1,_,f3,f4,f5⟩:=f2 b h;⟨f3,f1,f4,f5⟩;have I6:fV X fw σ (ja H3 s2.heap.objs.size (.lst Z)) s4:=I5.track hD3.2.1 (.inr l.sz) (Ne.symm (aL l.lt)) (λx c e z=>absurd (cellLt x c e) (by rw[z];exact aZ _))
    (λp f=>aL (F p f)) ⟨hz,R,R.length,rv,hD3.1⟩
   refine fin _ _ m _ s4 hn ⟨?_,?_,?_,.inr (cq l.sz),λx c e z=>?_,λp f=>?_⟩ I6 (qn _ hD3.2.1)
   .rw[fT (Ne.symm DC)];exact I4.free
   .exact Ne.symm (aL (cg l.lt))
   .exact l.nofs (bI _)
   .exact absurd (cellLt x c e) (by rw[z];exact Nat.not_lt.mpr (bI _))
   .exact aL (cg (F p f))
  .have hd:=T.item X' (by subst a;rfl) (by subst a;rfl) (by subst a;rfl) hcX i _ s3 _ H3 (λ_ _=>False) I3 (stat fr3) st3 go;rw[hA]at hd;refine jv hd λr s4 ⟨u,hr,h4⟩=>?_;subst hr;refine jv h4 λ_ s5 ⟨x,H5,I5,r5,y5,st5,fr5⟩=>?_;have I5':=I5.pinned (stat fr5) (T.obj _ _ st5);have hM:model X'.prog X'.w=model X.prog X.w:=by subst a;rfl
   have hE:X'.xe=λ_ _=>False:=by subst a;rfl
   have a6:=hg _ s5 _ H5 x u _ I5' r5 (hgk x _ H5 _ (step x H5 y5));rw[hM,hA,hE]at a6;refine jv a6 λ_ s6 ⟨σ6,H6,I6,agr,q6⟩=>?_;have a7:=hif _ s6 σ6 H6 _ I6 q6;rw[hM,hA,hE]at a7;refine jv a7 λok s7 ⟨H7,I7,q7⟩=>?_;have back:∀{Y:Shared} {s:Hp} {pl:List (Addr×Obj)},fV X' pl σ6 s Y->fV X' pl (pull ix σ) s Y:=λ{Y s pl} I=>by
    refine I.weak ?_ λk v e=>?_
    .have e1:=I.len;have e2:=I3.len;rw[e1,e2]
    .obtain⟨j,ej,_⟩:=zW e;rw[agr k j ej];exact e
   have held:∀{Y:Shared} {s:Hp},fV X' ([(s2.heap.objs.size,xk R)]++vq fp s5.heap) σ6 s Y->tn (i+1) Y.heap/\∀b∈fp,s b=none:=λ{Y s} I=>by refine⟨T.keep _ _ _ st5 λb h o e=>(I.pin (b,o) (bC _ (bC _ (oG h e)))).1,λb h=>?_⟩;obtain⟨o,e,_⟩:=T.obj _ _ st5 b h;exact (I.pin (b,o) (bC _ (bC _ (oG h e)))).2.1
   cases ok with
   |false=>rw[aQ aG]at q7 ⊢;obtain⟨m',hm,w7⟩:=q7;obtain⟨k1,k2⟩:=held I7;exact⟨m',hm,i+1,Z,R,H7,(back I7).unpinned,rv,hz,k1,k2,w7⟩
   |true=>
    rw[aP rfl]at q7 ⊢;have a8:=he _ s7 σ6 H7 _ I7 q7;rw[hM,hA,hE]at a8;refine jv a8 λy s8 ⟨yv,H8,I8,r8,m',hm,w8⟩=>?_;obtain⟨k1,k2⟩:=held I8;have hD8:=I8.pin (s2.heap.objs.size,xk R) (bC _ (ax _ bh));have hl:=rv.length;refine append_at hD8.1 λh9 sb hD9=>?_;have I9:fV X' [] (pull ix σ) H8 s8:=(back I8).pins_of λp f=>by simp at f
    have I10:=I9.turned (t':=s8.toks) (λb o h e=>sb.extBut b o h e) hD8.2.1 hD8.2.2.1 (.inl (by subst a;exact bh))
     (λx c e z=>by
      subst a;rcases U x c e with q|⟨q,_⟩
      .exact absurd (cellLt x c q) (by rw[z];exact aZ _)
      .rw[z]at q;omega) (λp f z=>by
      subst a;rcases ai.mp f with f|f
      .exact absurd (F p f) (by rw[z];exact aZ _)
      .simp at f)
    have e9:h9.get? s2.heap.objs.size=some (xk (R++[y])):=by rw[hD9];simp
    refine⟨m',hm,i+1,Z++[yv],R++[y],H8,I10.pins_of λp f=>?_,rv.append (.cons r8 .nil),by rw[aS,bW];omega,?_,k2,w8⟩
    .have e:p=(s2.heap.objs.size,xk (R++[y])):=by simpa using f
     subst e;exact⟨e9,hD8.2.1,hD8.2.2.1,hD8.2.2.2.1,λv z=>by cases z⟩
    .exact T.keep _ _ _ k1 λb h o e=>sb.extBut b o (aL (hlt b h)) e
 have loop':=loop;subst a;exact codeAny_compStart_list loop (T.self X.A 0 _ _ _ (T.keep _ _ _ st2 λb _ o e=>old b o e) loop')
def Po(r:X.calm=true)(B:PI X tg iter wi)(L:zY X scope N ix)(j:oz ix g)
  (l:∀C a H i d,PG (mH X N scope C a H i d) tg g/\EN (mH X N scope C a H i d) ifs tt/\PE (mH X N scope C a H i d) elt te)
  (K:∀x,foldedSetIterable iter X.env x=pure x:=by intro _;rfl):PE X (.ListComp elt [⟨tg,iter,ifs,0⟩] scope pos) (FR ix wi g tt te):=by
 intro p s n H Q I h;rw[eval_ListComp];refine wpAny_comprehension_free rfl K (qJ L.fre) L.kind L.names (jv (B p s n H _ I h) λv s1 y=>jv y λz Y P=>?_);obtain⟨it,fp,tn,J,H2,e,S,T,k,F,W,⟨Z,u⟩,c⟩:=P;subst e;refine Dt r L j l S T k F u c λD C m R s' U f w q=>?_;refine⟨m,U,λh' E=>⟨.ref D,R,w.turned (λb o A e=>E.extBut b o A e) f.1 f.2.1 f.2.2.2.1 f.2.2.2.2.1 f.2.2.2.2.2,rfl,q⟩⟩
end
end L2
namespace L2
open PySem PySem.Spec PyProof.Rows
structure fJ(K:W.Frag)(mg:Str->Option Value)(x:Str)(st:Stmt):Prop where
 ex:∃f fd,Jr K x x st f fd/\mg x=some (.ref f)
def NG{K:W.Frag}{st:Stmt}{kV d g b e:Vq}(X:K.In h)(G:h.Ns mainGlobals mg)
  (a:W.nsIn K mainGlobals x=some (some (.ref f)))
  (l:K.lookup f=some ⟨oc,od,.func (W.fnOf x x (jg st) (gJ st) (fK st) .none kV d g an b e),osl⟩)
  (c:W.codeIn K b x=true) (k:W.keepIn K (.ref f)=true):fJ K mg x st:=⟨f,_,B8 l c k,W.mg_of X G a⟩
structure lA(P:Program)(w:World)(K:W.Frag)(mg:Str->Option Value)(base:Heap)(x:Str)(k:Nat)(sp:Sp):Prop where
 ex:∃f fd ps,mv P w K mg base uD k f fd ps sp/\mg x=some (.ref f)/\W.keepIn K (.ref f)=true/\nV K fd ps []
def lA.mono{K:W.Frag}(h:lA P w K mg base x j sp)(d:j<=k):lA P w K mg base x k sp:=
 let ⟨f,fd,ps,F,a,b,c⟩:=h.ex
 ⟨f,fd,ps,F.mono d,a,b,c⟩
def yW{K:W.Frag}{st:Stmt}(D:fJ K mg x st)(S:iP N ps (fK st))
  (i:∀(kV d n:Vq) (h:Option Addr) (a j:Vq) (us:List Vq),us.length=ps.length->bindArgs (W.fnOf x x (jg st) (gJ st) (fK st) .none kV d n h a j) ⟨us,[]⟩=pure (ps.zip us))
  (e:∀vs H Q E,sp vs H Q E->vs.length=ps.length)
  (b:∀f a A c s H vs Q E,iF k (A.deeper (envOfC x (fK st) s.heap.objs.size f a))->sp vs H Q E->
   ∃t,wV (jS uD P w K mg base N x (fK st) f a A c s H E).nox (gJ st) t/\t {nx:=λ_ l=>Q .non l,rt:=Q} (lB N vs) H):lA P w K mg base x (k+1) sp:=by
 obtain⟨f,g,F,m⟩:=D.ex;exact⟨f,g,ps,F.ok S e (b f),m,F.kp,F.binds i⟩
section
variable {X:Cx}{x:Str}{k:Nat}{sp:Sp}{e:Expr}{es:List Expr}{t:TA}{p pos:Pos}
def Ai(h:lA X.prog X.w X.K X.mg X.base x k sp)(hr:iF k X.A)(l:PA X (e::es) t)(j:Gl X x:=by rfl)
  (g:(x==("__debug__" : Str))=false:=by decide) (i:starEach (e::es) X.env=(false,eval e X.env)::starEach es X.env:=by rfl) (d:(backTo pos (starEach es X.env)).any (·.1)=false:=by rfl) :
  PE X (.Call (.Name x p) (e::es) [] pos) (rD sp [] E0 t):=by
 obtain⟨f,m,n,F,a,b,c⟩:=h.ex;exact Du F hr j a b c .nil C3 l g i d
end
def JG:pR X (binaryOp .Mult) (rI (λi j=>PySem.IntMulOk i j) λi j=>.int (i*j)):=Q2 λ_ _ _ _ _ _ _ a q=>mul_int q a
def FW:pR X (binaryOp .FloorDiv) (rI (λi j=>j≠0/\Builtin.divisionGoesByPylong i j=false) λi j=>.int (i.fdiv j)):=Q2 λ_ _ _ _ _ _ _ a q=>floordiv_int a.1 q (.inl a.2)
end L2
namespace L2
open PySem PySem.Spec PyProof.Rows
def jy.at_(x:jy P w H h a o):∃b,h.get? a=some b:=by
 cases o with
 |lst xs=>obtain⟨_,_,_,_,e⟩:=x;exact⟨_,e⟩
 |tup xs=>obtain⟨_,_,_,b,e,_⟩:=x;exact⟨b,e⟩
 |dK kvs=>obtain⟨_,_,_,_,b,_,_,e,_⟩:=x;exact⟨b,e⟩
 |dT kvs=>obtain⟨_,_,_,_,b,_,_,e,_⟩:=x;exact⟨b,e⟩
 |set S n=>obtain⟨b,_,_,_,e,_⟩:=x;exact⟨b,e⟩
 |ins C dx fs=>obtain⟨_,_,_,e,_⟩:=x;exact⟨_,e⟩
 |own y=>exact x
 |xd fs=>obtain⟨_,⟨b,_,_,e,_⟩,_⟩:=x;exact⟨b,e⟩
 |rng lo hi=>obtain⟨_,_,_,e⟩:=x;exact⟨_,e⟩
 |frz b u=>obtain⟨e,_⟩:=x;exact⟨b,e⟩
 |tbl ps=>exact⟨_,(x)⟩
 |met f y=>exact⟨_,(x)⟩
 |ext φ=>obtain⟨_,e,_⟩:=x;exact e
structure IX(P:Program)(w:World)(outer:List Env)(H:Hp)(s:Shared)(ea t:Addr)(C:Vq)(vs:List Vq)(B:Heap)(H':Hp)(s':Shared):Prop where
 os:s'.os=s.os
 bare:AllBare s'.gens
 un:Un (rh outer) [] H H' s.heap s'.heap
 hok:ph P w H' s'.heap
 fly:Heap.FlyingW B outer ea C (.ref t) s'.heap
 tup:s'.heap.TupAt t vs
 tn:B.get? t=none
 he:H' ea=none
 ht:H' t=none
 old:∀b o,s.heap.get? b=some o->H b=none->b∉rh outer->B.get? b=some o
 trk:∀b o,s'.heap.get? b=some o->H' b≠none->B.get? b=some o
 ex:∀b o,s.heap.get? b=some o->b∉rh outer->∃o',B.get? b=some o'
def uh(P:Program)(w:World):Js:=λa H s E e f=>∃(b t:Addr) (C:Vq) (d:List Vq) (B:Heap) (c:Hp),e=.ref b/\IX P w a H s b t C d B c f/\E C none c
section
variable {P:Program}{w:World}{K:W.Frag}{mg:Str->Option Value}{base:Heap}{N:List Str}{qual:Str}{scope:Scope}{f:Addr}{cd:Vq}{A:Around}{outer:List Env}{s₀:Shared}{H₀:Hp}{E:XK}
variable {fw:List (Addr×Obj)}{σ:St}{H:Hp}{s:Shared}
theorem xW{j:Shared}(I:fV (jS (uh P w) P w K mg base N qual scope f cd A outer s₀ H₀ E) fw σ H s)
  (hos:j.os=s.os) (hb:AllBare j.gens) (u:Un (rh (envOfC qual scope s₀.heap.objs.size f cd::outer)) [] H H' s.heap j.heap) (J:ph P w H' j.heap)
  (R:∀b o,s.heap.get? b=some o->H b=none->b∉rh (envOfC qual scope s₀.heap.objs.size f cd::outer)->B.get? b=some o) (trk:∀b o,j.heap.get? b=some o->H' b≠none->B.get? b=some o)
  (ex:∀b o,s.heap.get? b=some o->b∉rh (envOfC qual scope s₀.heap.objs.size f cd::outer)->∃i,B.get? b=some i)
  (he:H' ea=none) (ht:H' t=none) (tn:B.get? t=none) (m:Heap.FlyingW B outer ea C (.ref t) h2) (tup:h2.TupAt t vs) (D:j.heap.UpToSlots h2) :
  IX P w outer H₀ s₀ ea t C vs B H' {j with heap:=h2}:=by
 have d:∀b:Addr,b∉(jS (uh P w) P w K mg base N qual scope f cd A outer s₀ H₀ E).ex:=λb z=>absurd (show b∈([]) from z) (by simp);have S:∀b,b∈rh (envOfC qual scope s₀.heap.objs.size f cd::outer)->b=s₀.heap.objs.size\/b∈rh outer:=λb a=>by
  rcases aE.mp (I.stkSub b a) with z|z
  .exact .inl z
  .exact .inr z
 have g:∀b o,s₀.heap.get? b=some o->b∉rh outer->b∉rh (envOfC qual scope s₀.heap.objs.size f cd::outer):=λb o e hn z=>by
  rcases S b z with q|q
  .exact absurd (aK e) (by rw[q];exact aZ _)
  .exact hn q
 have kept:∀b o,s₀.heap.get? b=some o->H₀ b=none->b∉rh outer->B.get? b=some o:=λb o e n a=>R b o (I.base.keep b o e n a (d b)) (I.base.free b o e n (d b)) (g b o e a)
 have k:∀b,H' b≠none->∃o,j.heap.get? b=some o/\h2.get? b=some o:=λb a=>by
  cases q:H' b with
  |none=>exact absurd q a
  |some u'=>obtain⟨o,e⟩:=(J b u' q).at_;exact⟨o,e,m.1 b o (trk b o e a)⟩
 refine⟨hos.trans I.os,hb,⟨λb o e n a _=>m.1 b o (kept b o e n a),λb o e n a _=>?_,λb o e n _=>?_,λb o e _=>?_,λb y e=>u.tups b y (I.base.tups b y e),λb o y e=>u.frzs b o y (I.base.frzs b o y e),λb ps e=>?_⟩,λb u' e=>?_,m,tup,tn,he,ht,kept,λb o e a=>?_,λb o e a=>?_⟩
 .obtain⟨sl,h⟩:=I.base.slot b o e n a (d b);obtain⟨Z,L⟩:=u.any h (I.base.free b o e n (d b)) (by simp);obtain⟨_,i,x,l⟩:=I.ok.funs.mem a;have p:(jS (uh P w) P w K mg base N qual scope f cd A outer s₀ H₀ E).s₀.heap.get? b=some o:=e;rw[p]at x;cases x;obtain⟨r,e3⟩:=D b _ L l;exact⟨r,e3⟩
 .obtain⟨i,h⟩:=I.base.there b o e (d b);exact u.free b i h (I.base.free b o e n (d b)) (by simp)
 .obtain⟨i,h⟩:=I.base.there b o e (d b);obtain⟨o2,L⟩:=u.there b i h (by simp);by_cases hn:H' b=none
  .by_cases F:b∈rh outer
   .obtain⟨_,⟨o3,h3,l⟩⟩:=I.ok.funs.mem F;have p:(jS (uh P w) P w K mg base N qual scope f cd A outer s₀ H₀ E).s₀.heap.get? b=some o:=e;rw[p]at h3;cases h3;have Q:=I.ok.frf b F;obtain⟨sl,U⟩:=I.base.slot b o e Q F (d b);obtain⟨Z,X⟩:=u.any U (I.base.free b o e Q (d b)) (by simp);obtain⟨r,q3⟩:=D b _ X l;exact⟨_,q3⟩
   .by_cases Q:H₀ b=none
    .exact⟨o,m.1 b o (kept b o e Q F)⟩
    .obtain⟨o4,q4⟩:=ex b i h (g b o e F);exact⟨o4,m.1 b o4 q4⟩
  .obtain⟨o3,_,q⟩:=k b hn;exact⟨o3,q⟩
 .obtain⟨m1,h⟩:=I.base.tbls b ps e;obtain⟨m2,L⟩:=u.tbls b _ h;exact⟨m1++m2,by rw[L,bu]⟩
 .have a:H' b≠none:=by rw[e];exact λz=>nomatch z
  refine (J b u' e).stay (λc v hc q=>?_) (λ_ q=>q) λ_ _ q=>q;have Y:H' c≠none:=by
   rcases hc with z|z
   .rw[z];exact a
   .rw[z];exact λz=>nomatch z
  exact m.1 c v (trk c v q Y)
 .obtain⟨o3,U,X⟩:=k b a;have p:=e;rw[X]at p;cases p;exact trk b _ U a
 .obtain⟨i,h⟩:=I.base.there b o e (d b);exact ex b i h (g b o e a)
theorem EB(I:fV (jS (uh P w) P w K mg base N qual scope f cd A outer s₀ H₀ E) fw σ H s)(d:Heap.MadeExcOf s.heap h1 ea C args)(q:E C none H) :
  (jS (uh P w) P w K mg base N qual scope f cd A outer s₀ H₀ E).xe (.ref ea) {s with heap:=h1}:=by
 have i:∀c∈(envOfC qual scope s₀.heap.objs.size f cd::outer),∀b,c.frame=some b->b∈rh (envOfC qual scope s₀.heap.objs.size f cd::outer):=λc B b a=>bB.mpr ⟨c,B,a⟩;have tracked:∀b,H b≠none->b∉rh (envOfC qual scope s₀.heap.objs.size f cd::outer):=λb a z=>a (I.stkFree b z);have g:∀b,s.heap.get? b=none->H b=none:=λb a=>by
  cases z:H b with
  |none=>rfl
  |some u=>obtain⟨o,e⟩:=(I.hok b u z).at_;rw[a]at e;cases e
 refine wpAny_leaves_madeW I.ok.frames rfl (λb o z=>W.of_hideAll _ z) (W.funFrames_hide I.stack i) d λJ t r tup m j=>?_;obtain⟨F,_,y,x⟩:=d.there;have h:H t=none:=by
  cases z:H t with
  |none=>rfl
  |some u=>obtain⟨o,e⟩:=(I.hok t u z).at_;have:=W.hideAll_get (rh (envOfC qual scope s₀.heap.objs.size f cd::outer)) e (tracked t (by rw[z];exact λk=>nomatch k));rw[m]at this;cases this
 refine⟨ea,t,C,args,_,H,rfl,xW I rfl I.bare (Un.kept d.keeps) (I.hok.kept d.keeps) (λb o e n a=>W.hideAll_get _ e a) (λb o e a=>?_) (λb o e a=>⟨o,W.hideAll_get _ e a⟩) (g ea d.new) h m r tup j,q⟩;cases z:H b with
 |none=>exact absurd z a
 |some u=>obtain⟨v,l⟩:=(I.hok b u z).at_;have D:=d.keeps b v l;have p:=e;rw[D]at p;cases p;exact W.hideAll_get _ l (tracked b a)
def GR(i:∀C d b,E1 C d b->E C d b):lT (uh P w) (jS (uh P w) P w K mg base N qual scope f cd A outer s₀ H₀ E) E1:=by intro fw σ H s e l I h;obtain⟨c,t,C,j,B,b,rfl,F,q⟩:=h;refine wpAny_leaves_onW I.ok.frames rfl F.fly λk g a=>?_;exact⟨c,t,C,j,B,b,rfl,xW I F.os F.bare F.un F.hok F.old F.trk F.ex F.he F.ht F.tn g (F.tup.of_slots a) a,i C none b q⟩
end
end L2
namespace L2
open PySem PySem.Spec PyProof.Rows PySem.W
theorem Oc{K:Frag}(X:K.In h)(G:h.Ns mainGlobals mg)(e:nsIn K mainGlobals x=some (some (.ref C)))
  (q:excIn K C bmB newId=true):OwnCls x C bmB newId mg h:=by
 constructor
 .exact mg_of X G e
 unfold excIn at q;split at q<;>try (exact absurd q aG)
 rename_i w f i g;split at q<;>try (exact absurd q aG)
 rename_i z y v p u r n s k d;simp only[bP,beq_iff_eq,Bool.not_eq_true']at q;obtain⟨⟨⟨⟨⟨m,o⟩,b⟩,j⟩,a⟩,c⟩:=q;subst m;subst o;cases f;subst k;subst b;cases i with
 |mk l=>simp only at d;subst d;exact⟨_,_,_,_,_,_,_,_,_,_,_,_,_,_,_,_,_,X _ _ g,.of_isNs (isNs_of_in X a),nsMap_none_of_in X a c,tail_of_in X j⟩
section
variable {P:Program}{w:World}{K:W.Frag}{mg:Str->Option Value}{base:Heap}{N:List Str}{qual:Str}{scope:Scope}{f:Addr}{cd:Vq}{A:Around}{outer:List Env}{s₀:Shared}{H₀:Hp}{E:XK}
def Jd{x:Str}{C:Addr}{g p:List Vq}{B Bn c m initId o:String}{np a u:Pos}{b:Expr}{j:TA}(Q:nsIn K mainGlobals x=some (some (.ref C)))(q:excIn K C g c=true)
  (S:ExcBaseFacts Bn c o p) (l:g.contains (.type Bn)=true) (F:ExcBaseFacts B m initId g)
  (Y:PA (jS (uh P w) P w K mg base N qual scope f cd A outer s₀ H₀ E) [b] j) (z:∀d H R,j d H R->j d H λvs i=>vs.length<=sizeLine/\R vs i)
  (U:Gl (jS (uh P w) P w K mg base N qual scope f cd A outer s₀ H₀ E) x:=by rfl) (n:(x==("__debug__" : Str))=false:=by decide)
  (y:starEach [b] (envOfC qual scope s₀.heap.objs.size f cd)=[(false,eval b (envOfC qual scope s₀.heap.objs.size f cd))]:=by rfl) :
  PS (jS (uh P w) P w K mg base N qual scope f cd A outer s₀ H₀ E) (.Raise (some (.Call (.Name x np) [b] [] a)) none u) (λ_ d H=>j d H λ_ i=>E (.ref C) none i):=by
 intro J s d H D I h;have O:=Oc I.mod.kin I.mod.glob Q q;have X:=O.bound;obtain⟨bm,M,nm,qn,bs,hdct,sn,sub,ab,col,dd,k0,k1,k2,k3,k5,mN,L,hN,k,T⟩:=O.obj;refine wpAny_Raise_call_subU (nm:=nm) (q:=qn) (N:=M) (bs:=bs) (hdct:=hdct) (sn:=sn) (sub:=sub) (ab:=ab) (col:=col) (dd:=dd) (k0:=k0) (k1:=k1) (k2:=k2) (k3:=k3) (k5:=k5)
  S l F (mN:=mN) (T.hasType F.hasBase) (I.ok.hd rfl) ?_ k (rM I U X ⟨rfl,?_⟩ n)
 .show (backTo a (starEach [b] (envOfC qual scope s₀.heap.objs.size f cd))).any (·.1)=false;rw[y];rfl
 .refine (?_:wpAny (model P w) _ (evalArgs (.ref C) true (backTo a (starEach [b] (envOfC qual scope s₀.heap.objs.size f cd))) []) _ _ s);have h2:=Y a J s d H _ I (z d H _ h);have v:wpAny (model P w) (jS (uh P w) P w K mg base N qual scope f cd A outer s₀ H₀ E).A (spliced (backTo a (starEach [b] (envOfC qual scope s₀.heap.objs.size f cd)))) _ _ s:=h2;rw[y]at v ⊢;refine Calls.evalArgs_plain (jv v λus s2 ⟨vs,i,I1,r,jU,q1⟩=>⟨rfl,?_,I1.bk _ _ L,hN.keeps I1.bk,T.keeps I1.bk,λh' e Z=>EB I1 Z q1⟩);show us.length<=sizeLine;rw[<-r.length];exact jU
end
end L2
namespace L2
open PySem PySem.Spec PyProof.Rows PySem.W PySem.Calls Builtin Builtin.ObjectAttr Builtin.Getset_descriptor
structure wW(K:Frag)(D:Addr):Prop where
 ga:findIn K (.ref D) "__getattribute__" = some (some (.builtin "BaseException.__getattribute__"))
 gt:findIn K (.ref D) "__getattr__" = some none
 cl:findIn K (.ref D) "__class__" = some (some (.builtin "object.__class__"))
 gg:specialIn K (.builtin "object.__class__") "__get__" = some (some (.builtin "getset_descriptor.__get__"))
 tk:takesIn K (.builtin "object.__class__")=some true
 ob:mroIn K D (.type "object")=some true
 be:mroIn K D (.type "BaseException")=some true
 is:(clsIn K D).isSome=true
def zA(x D:Addr)(h:Heap):Prop:=∃a,h.get? x=some a/\a.cls=.ref D
def zA.type{M:Model}{x D:Addr}{h:Heap}(e:zA x D h):Looks M h (typeOf (.ref x)) (.ref D):=by obtain⟨c,b,a⟩:=e;exact a▸(Looks.ld b).andThen .now
section
variable {prog:Program}{w:World}{A:Around}{E:Vq->Shared->Prop}{s:Shared}{K:Frag}{x D:Addr}
def xm{R:Result->Shared->Prop}{tp:Vq}(X:K.In s.heap)(I:zA x D s.heap)(a:mroIn K D (.type "object")=some true)
  (h:R (.ok (.ret (.ref D))) s):codeAny (model prog w) A (.call (.builtin "getset_descriptor.__get__") ⟨[.builtin "object.__class__",.ref x,tp],[]⟩) R s:=by
 obtain⟨e,g,dr,t,b⟩:=s;have d:=I.type (M:=model prog w);have c:=looks_mroIn (M:=model prog w) X a;refine codeAny_call_builtin KF.slot_gs.plain KF.entry_gs (KF.slot_gs.check _ _ _ _ _ _ _ _ KF.type_class (KF.args_gs _ _ _) ?_);unfold Builtin.«getset_descriptor.__get__» descrGet;rw[dga_obj];refine ao (ak ?_);unfold descrGetter descrCheckInstance descrNameAndClass isInstance;simp only[KF.owner_class];(repeat lk);refine⟨Code.quiet_builtin _ (by decide +kernel),codeAny_builtin KF.entry_class ?_⟩;unfold Builtin.«object.__class__» shownTypeOf;(repeat lk);exact h
def DU(X:K.In s.heap)(I:zA x D s.heap)(C:wW K D)(h:Q (.done (.ret (.ref D))) s) :
  wpAny (model prog w) A (Builtin.«object.__getattribute__» ⟨[.ref x,.str "__class__" tk],[]⟩) Q E s:=by
 obtain⟨d,g,dr,t,a⟩:=s;have c:=I.type (M:=model prog w);have b:=looks_findIn (M:=model prog w) X C.cl;unfold Builtin.«object.__getattribute__» find;(repeat lk);refine (wpAny_run (xm X I C.ob ?_));(repeat lk);exact h
def Fg(X:K.In s.heap)(I:zA x D s.heap)(C:wW K D)(e:Q () s) :
  wpAny (model prog w) A (checkBuiltinCall "BaseException.__getattribute__" ⟨[.ref x,nameV],[]⟩) Q E s:=by
 have a:builtinKind "BaseException.__getattribute__" = some .slot:=by decide +kernel
 have hsplit:splitId "BaseException.__getattribute__" = some ("BaseException", "__getattribute__"):=by decide +kernel
 have c:=I.type (M:=model prog w);have b:=looks_mroIn (M:=model prog w) X C.be;obtain⟨f,g,dr,t,d⟩:=s;simp only[checkBuiltinCall,a,hsplit];refine ao ?_;unfold isInstance;refine ao (c.at (b.at ?_));rw[aQ (by decide)];(repeat (first|assumption|wp_step))
def vF(X:K.In s.heap)(I:zA x D s.heap)(C:wW K D)(h:Q (some (.ref D)) {s with toks:=s.toks+1}) :
  wpAny (model prog w) A (getAttr? (.ref x) "__class__") Q E s:=by
 obtain⟨m,g,d,t,l⟩:=s;have j:=I.type (M:=model prog w);have i:=looks_findIn (M:=model prog w) X C.ga;have L2:=looks_findIn (M:=model prog w) X C.gt;have b:(Value.builtin "BaseException.__getattribute__" == Value.builtin "object.__getattribute__")=false:=by decide +kernel
 unfold getAttr? getAttrBy? getAttrBy;refine ao (wpAny_mkText (ao (wpAny_attempt (wpAny_holding (ao (j.at (ao (i.at ?_))))))));dsimp only;rw[b];simp only[Bool.and_false,b8,if_false];unfold getAttrByItsOwn hookBefore;rw[aP (show onTheHeap (Value.ref D)=true from rfl)];refine ao (L2.at (ao (wpAny_attempt (wpAny_holding ?_))));unfold callGetattribute boundAndCalled;rw[aQ (by decide)];have f:bindSpecial (.builtin "BaseException.__getattribute__") (.ref x)=pure (.builtin "BaseException.__getattribute__",[.ref x]):=by
  have c:withoutEnding? "BaseException.__getattribute__" "#opaque" = none:=by decide +kernel
  have a:withoutEnding? "BaseException.__getattribute__" "#data" = none:=by decide +kernel
  have k:builtinKind "BaseException.__getattribute__" = some .slot:=by decide +kernel
  simp only[bindSpecial,typeOf,builtinType,c,a,k];rfl
 rw[f];refine ao (ak ?_);have e:=X;refine wpAny_call (codeAny_call_builtin (by decide +kernel) F.entry_bexc_ga (Fg e I C (DU e I C ?_)));dsimp only;rw[handedOut_of (rfl)];exact ak (ak h)
def vG(C:wW K D):KitX K (.ref x) (.ref D) (zA x D) where
 ty:=λ_ _ _ I=>I.type
 it:=λ_ _ X _=>by
  obtain⟨b,a⟩:=bK.mp C.is;unfold clsIn at a;split at a
  .rename_i j i c f d;intro m o v u k q;unfold isType loadHead;exact ao (wpAny_loadPart (k _ _ (X _ _ d)) (ak q))
  .cases a
 ne:=λh tp p l n r X g=>by
  obtain⟨b,a⟩:=bK.mp C.is;refine Bool.eq_false_iff.mpr λq=>?_;have e:=Value.ref.inj (beq_iff_eq.mp q);subst e;unfold clsIn at a;split at a
  .rename_i j i c f d;have z:=(X _ _ d).symm.trans g;cases z
  .cases a
 ca:=λX I k=>vF X I C k
end
end L2
namespace L2
open PySem PySem.Spec PyProof.Rows PySem.W PySem.Calls Builtin Builtin.ObjectAttr Builtin.Getset_descriptor
structure Ln(K:Frag)(D:Addr):Prop where
 is:(clsIn K D).isSome=true
 ty:typeIn K (.ref D)=some (.type "type")
 be:mroIn K D (.type "BaseException")=some true
def wN:isSubtype (.type "type") (.type "tuple")=pure false:=by rw[isSubtype_type];kernel_rfl
section
variable {prog:Program}{w:World}{A:Around}{E:Vq->Shared->Prop}{s:Shared}{K:Frag}{x C D:Addr}
def A3(X:K.In s.heap)(I:zA x C s.heap)(T:Ln K D)(o:mroIn K C (.ref D)=some true)(h:Q true s) :
  wpAny (model prog w) A (excMatches (.ref x) (.ref D)) Q E s:=by
 obtain⟨b,g,dr,t,v⟩:=s;have m:=I.type (M:=model prog w);have f:=looks_mroIn (M:=model prog w) X o;have L2:=looks_mroIn (M:=model prog w) X T.be;have L3:=looks_typeIn (M:=model prog w) X T.ty;have i:Looks (model prog w) b (isType (.ref D)) true:=by
  obtain⟨c,a⟩:=bK.mp T.is;unfold clsIn at a;split at a
  .rename_i r p d j e;intro u y B z k q;unfold isType loadHead;exact ao (wpAny_loadPart (k _ _ (X _ _ e)) (ak q))
  .cases a
 unfold excMatches;have l:Looks (model prog w) b (isInstance (.ref D) (.type "tuple")) false:=L3.andThen (Looks.of_pure wN);refine ao (l.at ?_);simp only[b8,if_false];refine ao (ak ?_);have n:Looks (model prog w) b (isExcClass (.ref D)) true:=i.andThen L2;simp only[b7,ck];refine ao (ao (ao (n.at ?_)));simp only[Bool.not_true,b8,if_false];refine ak (ak (ao (m.at (ao (ao (ao (f.at ?_)))))));simp only[if_true];exact ak (ak (ak h))
end
noncomputable abbrev Cx.tryB(X:Cx)(pn:List (Addr×Obj))(xe:Vq->Shared->Prop):Cx:={X with pn:=pn,xe:=xe}
abbrev Cx.exc(X:Cx)(pn:List (Addr×Obj))(ea:Addr):Cx:={X with A:=X.A.mark (some (.ref ea)),calm:=false,pn:=pn,xe:=λ_ _=>False}
section
variable {X:Cx}{fw pins' pn pn':List (Addr×Obj)}{σ:St}{H H1 H':Hp}{s s1 s':Shared}{xe:Vq->Shared->Prop}{ea t:Addr}{C:Vq}{vs:List Vq}{B h:Heap}
def Cx.Ok.tryB(ok:X.Ok):(X.tryB pn xe).Ok:=⟨ok.mod,ok.kind,ok.glob,ok.blt,ok.above,ok.inj,ok.has,ok.cab,ok.hd,ok.frames,ok.stk,ok.exf,ok.bs,ok.bsz,ok.noex,ok.exfs,ok.funs,ok.frf⟩
def Cx.Ok.exc(ok:X.Ok):(X.exc pn ea).Ok:=⟨ok.mod,ok.kind,ok.glob,ok.blt,ok.above,ok.inj,ok.has,ok.cab,λz=>absurd (z) aG,ok.frames,ok.stk,ok.exf,ok.bs,ok.bsz,ok.noex,ok.exfs,ok.funs,ok.frf⟩
def fV.tryB(I:fV X fw σ H s):fV (X.tryB (X.pn++fw) xe) [] σ H s:=⟨I.ok.tryB,I.os,I.bare,I.base,I.loc,I.cell,I.free,I.freeC,λp a=>I.pin p (by simpa using a),I.hok,I.len⟩
def fV.tryW(I:fV (X.tryB pn xe) fw σ H s):fV (X.tryB pn xe') fw σ H s:=⟨Cx.Ok.tryB (X:=X.tryB pn xe) I.ok,I.os,I.bare,I.base,I.loc,I.cell,I.free,I.freeC,I.pin,I.hok,I.len⟩
def fV.untryB(ok:X.Ok)(I:fV (X.tryB (X.pn++fw) xe) pins' σ H s):fV X fw σ H s:=⟨ok,I.os,I.bare,I.base,I.loc,I.cell,I.free,I.freeC,λp a=>I.pin p (ax _ a),I.hok,I.len⟩
def SP.untryB(ok:X.Ok)(q:SP (X.tryB (X.pn++fw) xe) pins' D f s):SP X fw D f s:=by
 cases f with
 |next=>obtain⟨a,H',I,q⟩:=q;exact⟨a,H',I.untryB ok,q⟩
 |brk=>obtain⟨a,H',I,q⟩:=q;exact⟨a,H',I.untryB ok,q⟩
 |cont=>obtain⟨a,H',I,q⟩:=q;exact⟨a,H',I.untryB ok,q⟩
 |ret u=>obtain⟨v,a,H',I,r,q⟩:=q;exact⟨v,a,H',I.untryB ok,r,q⟩
def fV.exc(I:fV X fw σ H s)(a:∀p∈pn,s.heap.get? p.1=some p.2/\H p.1=none/\p.1≠X.env.locals/\p.1∉X.fs/\∀v,p.2.data≠.cell v):fV (X.exc pn ea) [] σ H s:=⟨I.ok.exc,I.os,I.bare,I.base,I.loc,I.cell,I.free,I.freeC,λp h=>a p (by simpa using h),I.hok,I.len⟩
def fV.unexc(ok:X.Ok)(I:fV (X.exc pn ea) pins' σ H s)(a:∀p∈X.pn++fw,p∈pn):fV X fw σ H s:=⟨ok,I.os,I.bare,I.base,I.loc,I.cell,I.free,I.freeC,λp h=>I.pin p (ax _ (a p h)),I.hok,I.len⟩
def Ab(I:fV X fw σ H1 s1)(F:IX X.prog X.w X.stack H1 s1 ea t C vs B H' s')(k:B.StaysIn h)(A:s'.heap.UpToSlots h):fV X fw σ H' {s' with heap:=h}:=by
 have j:∀b,H' b≠none->∃o,s'.heap.get? b=some o/\h.get? b=some o:=λb a=>by
  cases q:H' b with
  |none=>exact absurd q a
  |some u=>obtain⟨o,e⟩:=(F.hok b u q).at_;exact⟨o,e,k b o (F.trk b o e a)⟩
 have d:∀b o,s1.heap.get? b=some o->H1 b=none->b∈rh X.stack->∃d,h.get? b=some {o with slots:=d}:=λb o e n a=>by obtain⟨d,D⟩:=F.un.slot b o e n a (by simp);obtain⟨_,g,f,m⟩:=I.stack.mem a;rw[e]at f;cases f;obtain⟨p,x⟩:=A b {o with slots:=d} D m;exact⟨p,x⟩
 refine I.call' (ch:=[]) F.os ⟨λb o e n a _=>k b o (F.old b o e n a),λb o e n a _=>d b o e n a,λb o e n _=>F.un.free b o e n (by simp),λb o e _=>?_,F.un.tups,F.un.frzs,F.un.tbls⟩ (λb u e=>?_) F.bare (λb a=>nomatch a)
 .by_cases E:H' b=none
  .by_cases a:b∈rh X.stack
   .obtain⟨y,i⟩:=d b o e (I.stkFree b a) a;exact⟨_,i⟩
   .obtain⟨g,i⟩:=F.ex b o e a;exact⟨g,k b g i⟩
  .obtain⟨g,_,i⟩:=j b E;exact⟨g,i⟩
 .have a:H' b≠none:=by rw[e];exact λz=>nomatch z
  refine (F.hok b u e).stay (λc v r q=>?_) (λ_ q=>q) λ_ _ q=>q;have l:H' c≠none:=by
   rcases r with z|z
   .rw[z];exact a
   .rw[z];exact λz=>nomatch z
  exact k c v (F.trk c v q l)
def qg{M:Model}{A:Around}{E:Vq->Shared->Prop}{i:Nat}{n:Str}{L:Pos}{Q:Unit->Shared->Prop}(I:fV X fw σ H s)(hN:X.N.Nodup)(S:X.N[i]? = some n)(hl:X.env.kindOf n=some .local)
  (h:∀s',fV X fw (σ.set i none) H s'->Q () s'):wpAny M A (do bindName X.env n .none;unbindBehindTheSuite X.env n L) Q E s:=by
 obtain⟨m,U,J⟩:=id I.loc;have u:(X.env.scope.kind==.class||(X.env.scope.kind==.module&&X.env.locals != X.env.globals))=false:=by rw[I.ok.kind];rfl
 have r:i<σ.length:=by rw[I.len];exact (aa.mp S).1
 refine wpAny_nameGoes_keeps hl U u λh' v F f=>?_;obtain⟨oL,_,_,hoL,_⟩:=id U;have tracked:ph X.prog X.w H h':=λb ob e=>by
  refine (I.hok b ob e).stay (λc R x q=>(f.2 c ?_).trans q) (λ_ q=>q) λ_ _ q=>q;have a:=I.free;rintro rfl;rcases x with rfl|x
  .rw[a]at e;cases e
  .rw[a]at x;cases x
 refine h _ ⟨I.ok,I.os,I.bare,⟨λb o e n K l=>?_,λb o e n K l=>?_,I.base.free,λb o e l=>?_,I.base.tups,I.base.frzs,I.base.tbls⟩,⟨_,F,λj y v' g D e3=>?_⟩,λy c e=>?_,I.free,I.freeC,λp hp=>?_,tracked,by simpa using I.len⟩
 .exact (f.2 b (aL (aD (aK e) I.ok.above))).trans (I.base.keep b o e n K l)
 .obtain⟨sl,g⟩:=I.base.slot b o e n K l;exact⟨sl,(f.2 b (aL (aD (aK e) I.ok.above))).trans g⟩
 .obtain⟨Y,g⟩:=I.base.there b o e l;exact⟨Y,(f.2 b (aL (aD (aK e) I.ok.above))).trans g⟩
 .by_cases P:j=i
  .subst P;rw[List.getElem?_set_self r]at D;cases D
  .rw[aq (Ne.symm P)]at D;obtain⟨u',r',q⟩:=J j y v' g D e3;refine⟨u',r',?_⟩;rcases q with⟨k,e⟩|⟨k,c,e,z⟩
   .refine .inl ⟨k,?_⟩;have:y≠n:=λe=>P (uZ hN g (e▸S));simp[this,e]
   .exact .inr ⟨k,c,e,z.sameBut f (I.cne y c e)⟩
 .obtain⟨R,z⟩:=I.cell y c e;exact⟨R,z.sameBut f (I.cne y c e)⟩
 .obtain⟨e,n,ne,Z,d⟩:=I.pin p hp;exact⟨(f.2 p.1 ne).trans e,n,ne,Z,d⟩
noncomputable def oZ.gone(D:oZ)(i:Nat):oZ:={nx:=λσ H=>D.nx (σ.set i none) H,rt:=D.rt,bk:=λσ H=>D.bk (σ.set i none) H,ct:=λσ H=>D.ct (σ.set i none) H}
def Om(K:Frag)(N:List Str)(e:Addr)(i:Nat)(b:XK->TS)(c:Addr->Addr->TS):TS:=λD σ H=>b (λd _ H'=>∃a,d=.ref a/\mroIn K a (.ref e)=some true/\∀ea,H' ea=none->c ea a (D.gone i) ((List.replicate N.length none).set i (some (.ref ea))) H') D σ H
theorem MD
  (hN:X.N.Nodup) (hi:X.N[i]? = some n) (hl:X.env.kindOf n=some .local) (hg:Gl X x) (hm:X.mg x=some (.ref Dh)) (T:Ln X.K Dh)
  (Q:X.stack=X.env::X.outer) (hfr:X.env.frame=some X.env.locals)
  (hb:∀(EK:XK) (pn:List (Addr×Obj)) (xe:Vq->Shared->Prop),lT (uh X.prog X.w) (X.tryB pn xe) EK->wV (X.tryB pn xe) body (tb EK))
  (hs:∀(pn:List (Addr×Obj)) (ea:Addr) (y:Obj) (A:Addr),(ea,y)∈pn->y.cls=.ref A->wV (X.exc pn ea) (Z::suite) (th ea A))
  (hx:Bh X.env.scope n:=by exact .inl rfl) (hfn:X.fn n=true\/X.env.scope.names.lookup n=some .local:=by exact .inr rfl) (hd:(x==("__debug__" : Str))=false:=by decide) :
  PS X (.Try body [.ExceptHandler (some (.Name x np)) (some n) (Z::suite) hpos] [] [] pos) (Om X.K X.N Dh i tb th):=by
 intro fw s σ H D I h;let S:XK:=λCv _ H'=>∃A,Cv=.ref A/\mroIn X.K A (.ref Dh)=some true/\∀ea,H' ea=none->th ea A (D.gone i) ((List.replicate X.N.length none).set i (some (.ref ea))) H';let XE:Vq->Shared->Prop:=λe s'=>∃pins' g H1 s1,fV (X.tryB (X.pn++fw) λ_ _=>False) pins' g H1 s1/\uh X.prog X.w X.stack H1 s1 S e s';have hB:=hb S (X.pn++fw) XE (λpins' g H1 s1 e s' I' q=>⟨pins',g,H1,s1,I'.tryW,q⟩);refine wpAny_Try_except (wpAny_mono (hB [] s σ H D I.tryB h) (λf s1 q=>?_) λe s' q=>?_)
 .have q':=SP.untryB I.ok q;cases f with
  |next=>exact wpAny_execs_nil q'
  |brk=>exact q'
  |cont=>exact q'
  |ret u=>exact q'
 .obtain⟨pins',g,H1,s1,I1,ea,t,Cv,vs,B,H',rfl,F,A,rfl,hsub,hth⟩:=q;have l:=F.fly;have hst':=Q;rw[Q]at l;refine wpAny_looks_onW (I.ok.frames.trans (by rw[Q])) hfr l λh₄ hheld₄ hsm₄=>?_;refine wpAny_landsW hheld₄ λU b hsm₅'=>?_;have I5:=Ab I1 F b.1 (hsm₄.trans hsm₅');have Y:fV (X.exc [] ea) [] g H' {s' with heap:=U}:=(I5.untryB I.ok).exc λp k=>nomatch k;obtain⟨ob,hob,hobc⟩:=b.there;refine wpAny_handleBy_cons (codeAny_handlers_test (rM Y hg hm ?_ hd)) (by intro q;cases q);refine A3 Y.kIn ⟨ob,hob,hobc⟩ T hsub (codeAny_handlers_suite_as ?_);refine lands_againW b λr hfl₆ hsm₆=>?_;have I6:=Ab I1 F hfl₆.1 ((hsm₄.trans hsm₅').trans hsm₆);obtain⟨y,ws,J,hoec,c,hoe0⟩:=hfl₆.first;have neL:ea≠X.env.locals:=λz=>by
   obtain⟨m,⟨o,es,ep,ho,hdo,_⟩,_⟩:=I6.loc;have d:r.get? ea=some o:=by rw[z];exact ho
   rw[J]at d;cases d;rw[hdo]at c;cases c
  have nfs:ea∉X.fs:=λz=>by obtain⟨_,o,ho,hnf⟩:=I6.funs.mem z;have d:=ho;rw[J]at d;cases d;exact hnf _ c
  have I7:fV (X.exc (X.pn++fw++[(ea,y)]) ea) [] ((List.replicate X.N.length none)) H' {s' with heap:=r}:=by
   refine fV.weak (fV.exc (I6.untryB I.ok) λp k=>?_) (by rw[bM];exact I6.len.symm) (λj v e=>by rw[List.getElem?_replicate]at e;split at e<;>cases e);rcases ai.mp k with k|k
   .exact I6.pin p (ax _ k)
   .obtain rfl:p=(ea,y):=by simpa using k
    exact⟨J,F.he,neL,nfs,λv z=>by rw[c]at z;cases z⟩
  refine vQ (X:=X.exc (X.pn++fw++[(ea,y)]) ea) (v:=.ref ea) I7 hN hi hx rfl (λs7 I8=>?_) hfn;refine wpAny_mono (hs _ ea y A (bC _ (aj.mpr rfl)) hoec [] s7 _ H' (D.gone i) I8 (hth ea F.he)) (λf s8 q=>?_) λ_ _ z=>z.elim;have sub:∀p∈X.pn++fw,p∈X.pn++fw++[(ea,y)]:=λp k=>ax _ k;cases f with
  |next=>obtain⟨L,R,E,P⟩:=q;exact qg (E.unexc I.ok sub) hN hi hl λs9 a=>⟨_,R,a,P⟩
  |brk=>obtain⟨L,R,E,P⟩:=q;exact qg (E.unexc I.ok sub) hN hi hl λs9 a=>⟨_,R,a,P⟩
  |cont=>obtain⟨L,R,E,P⟩:=q;exact qg (E.unexc I.ok sub) hN hi hl λs9 a=>⟨_,R,a,P⟩
  |ret u=>obtain⟨v,L,R,E,r9,P⟩:=q;exact qg (E.unexc I.ok sub) hN hi hl λs9 a=>⟨v,_,R,a,r9,P⟩
end
end L2
namespace L2
open PySem PySem.Spec PyProof.Rows PySem.W PySem.Calls
inductive Ez(K:Frag)(H:Hp)(Ca:Addr):V->Bool->Prop where
 |own {D:Addr} {b:Bool} (e:kitOne K (.ref Ca) (.ref D)=some b):Ez K H Ca (.ref D) b
 |ty {T:String} {b:Bool} (e:kitOne K (.ref Ca) (.type T)=some b):Ez K H Ca (.ty T) b
 |tup {p:Addr} {ds:List Addr} {b:Bool} (h:H p=some (.tup (ds.map V.ref))) (e:kitAny K (.ref Ca) (ds.map Value.ref)=some b):Ez K H Ca (.ref p) b
theorem yk:∀{a:List Addr} {us:List Vq},gH (a.map V.ref) us->us=a.map Value.ref
 |[],_,.nil=>rfl
 |d::a,u::us,.cons r t=>by have e:=r;rw[e,yk t];rfl
def uY{K:Frag}(y:(ea,oe)∈X.pn)(l:oe.cls=.ref Ca)(j:X.K=K:=by rfl) :
  kj X (.builtin "isinstance") (λi H Q=>∃c b,i=[.ref ea,c]/\wW K Ca/\Ez K H Ca c b/\Q (.bl b) H):=by
 subst j;intro D s A H i w Q I r h;obtain⟨c,b,rfl,C,k,q⟩:=h;have d:zA ea Ca s.heap:=⟨oe,(I.pin _ (ax _ y)).1,l⟩;cases r with
 |cons r1 r2=>
  cases r2 with
  |cons r3 r4=>
   cases r4;cases (r1);cases k with
   |own e=>cases (r3);exact kia_one (vG C) I.kIn d e (λz=>nomatch z) λa=>⟨.bl b,H,I.tok a,rfl,q⟩
   |ty e=>cases (r3);exact kia_one (vG C) I.kIn d e (λz=>nomatch z) λa=>⟨.bl b,H,I.tok a,rfl,q⟩
   |@tup p ds b hp e=>cases (r3);obtain⟨F,w,x,o,g,f,n,m,_⟩:=(I.hok p _ hp);obtain⟨B,E,u,v⟩:=o;subst f;subst m;rw[yk x]at g;exact kia_tup (vG C) I.kIn d g e (λz=>nomatch z) λa=>⟨.bl b,H,I.tok a,rfl,q⟩
structure nh(P:Program)(w:World)(K:W.Frag)(mg:Str->Option Value)(base:Heap)(x:Str)(k:Nat)(sp:Sp):Prop where
 ex:∃f fd ps,mv P w K mg base (uh P w) k f fd ps sp/\mg x=some (.ref f)/\W.keepIn K (.ref f)=true/\nV K fd ps []
def nh.mono{K:W.Frag}(h:nh P w K mg base x j sp)(d:j<=k):nh P w K mg base x k sp:=
 let ⟨f,fd,ps,F,a,b,c⟩:=h.ex
 ⟨f,fd,ps,F.mono d,a,b,c⟩
def HZ{K:W.Frag}{st:Stmt}(D:fJ K mg x st)(S:iP N ps (fK st))
  (p:∀(kV d j:Vq) (h:Option Addr) (a i:Vq) (us:List Vq),us.length=ps.length->bindArgs (W.fnOf x x (jg st) (gJ st) (fK st) .none kV d j h a i) ⟨us,[]⟩=pure (ps.zip us))
  (e:∀vs H Q E,sp vs H Q E->vs.length=ps.length)
  (b:∀f a A c s H vs Q E,iF k (A.deeper (envOfC x (fK st) s.heap.objs.size f a))->sp vs H Q E->
   ∃t,wV (jS (uh P w) P w K mg base N x (fK st) f a A c s H E) (gJ st) t/\t {nx:=λ_ r=>Q .non r,rt:=Q} (lB N vs) H):nh P w K mg base x (k+1) sp:=by
 obtain⟨f,v,F,m⟩:=D.ex;have q:=F.binds p;have l:=F.kp;obtain⟨u,y,kV,d,j,h,a,i,n,rfl,o,g⟩:=F.ex;exact⟨f,_,ps,Me o g S e (b f a),m,l,q⟩
section
variable {X:Cx}{x:Str}{k:Nat}{sp:Sp}{e:Expr}{es:List Expr}{t:TA}{p pos:Pos}{E:XK}
def FY(h:nh X.prog X.w X.K X.mg X.base x k sp)(hr:iF k X.A)(l:lT (uh X.prog X.w) X E)(m:PA X (e::es) t)(j:Gl X x:=by rfl)
  (g:(x==("__debug__" : Str))=false:=by decide) (i:starEach (e::es) X.env=(false,eval e X.env)::starEach es X.env:=by rfl) (d:(backTo pos (starEach es X.env)).any (·.1)=false:=by rfl) :
  PE X (.Call (.Name x p) (e::es) [] pos) (rD sp [] E t):=by
 obtain⟨f,n,o,F,a,b,c⟩:=h.ex;exact Du F hr j a b c .nil l m g i d
end
def qW{K:Frag}(e:mroIn K C b=some r):(clsIn K C).isSome=true:=by
 unfold mroIn at e;cases h:clsIn K C with
 |none=>rw[h]at e;cases e
 |some cd=>rfl
def AC K a:kitOne K (.ref a) (.ref a)=some true:=by unfold kitOne;rw[aP (beq_self_eq_true _)]
def Oh{K:Frag}{a:Addr}{T:String}{r:Bool}(b:kitMeta T=true)(h:mroIn K a (.type T)=some r):kitOne K (.ref a) (.type T)=some r:=by unfold kitOne;rw[aQ (λq=>by cases beq_iff_eq.mp q)];show (if kitMeta T=true then subIn K (.ref a) (.type T) else none)=some r;rw[aP b];exact h
def K8{K:Frag}(b:a≠c)(e:typeIn K (.ref c)=some (.type "type"))(d:(clsIn K c).isSome=true)(h:mroIn K a (.ref c)=some r):kitOne K (.ref a) (.ref c)=some r:=by unfold kitOne;rw[aQ (λq=>b (by cases beq_iff_eq.mp q;rfl))];show (if ((clsIn K c).isSome&&typeIn K (.ref c)==some (.type "type"))=true then subIn K (.ref a) (.ref c) else none)=some r;rw[aP (by rw[d,e];decide)];exact h
def yQ{K:Frag}{t c:Vq}{cs:List Vq}{r:Option Bool}(h:kitOne K t c=some false)(a:kitAny K t cs=r):kitAny K t (c::cs)=r:=by unfold kitAny;rw[h];exact a
def Lo{K:Frag}{t c:Vq}{cs:List Vq}(h:kitOne K t c=some true):kitAny K t (c::cs)=some true:=by unfold kitAny;rw[h]
end L2
namespace L2
open PySem PySem.Spec PyProof.Rows PySem.W
mutual
inductive DV(K:Frag)(H:Hp):V->PyData->Prop
 |non:DV K H .non .none
 |bl (b:Bool):DV K H (.bl b) (.bool b)
 |int (i:Int):DV K H (.int i) (.int i)
 |str (x:Str):DV K H (.str x) (.str x)
 |lst {a:Addr} {xs:List V} {ds:List PyData} (h:lg K H a xs) (hs:AY K H xs ds):DV K H (.ref a) (.list ds)
 |tup {a:Addr} {xs:List V} {ds:List PyData} (h:mx K H a xs) (hs:AY K H xs ds):DV K H (.ref a) (.tuple ds)
inductive AY(K:Frag)(H:Hp):List V->List PyData->Prop
 |nil:AY K H [] []
 |cons {v:V} {d:PyData} {vs:List V} {ds:List PyData} (h:DV K H v d) (hs:AY K H vs ds):AY K H (v::vs) (d::ds)
end
section
variable {X:Cx}{fw:List (Addr×Obj)}{σ:St}{H:Hp}{s:Shared}
mutual
theorem DV.reads(I:fV X fw σ H s):∀{v} {d} {u},DV X.K H v d->iw v u->∃as,Reads s.heap u d as
 |_,_,_,.non,r=>by cases r;exact⟨_,.none⟩
 |_,_,_,.bl b,r=>by cases r;exact⟨_,.bool b⟩
 |_,_,_,.int i,r=>by obtain⟨t,rfl⟩:=r;exact⟨_,.int i t⟩
 |_,_,_,.str x,r=>by obtain⟨t,rfl⟩:=r;exact⟨_,.str x t⟩
 |_,_,_,.lst h hs,r=>by cases r;obtain⟨f,j,⟨o,n,e,a,k,g⟩,_⟩:=I.list h;obtain⟨as,c⟩:=AY.reads I hs j;exact⟨_,.list e a g (by simpa using c)⟩
 |_,_,_,.tup h hs,r=>by cases r;obtain⟨f,j,⟨o,e,a,n,g⟩,_⟩:=I.tuple h;obtain⟨as,c⟩:=AY.reads I hs j;exact⟨_,.tuple e a g (by simpa using c)⟩
theorem AY.reads(I:fV X fw σ H s):∀{vs} {ds} {us},AY X.K H vs ds->gH vs us->∃as,ReadsAll s.heap us ds as
 |_,_,_,.nil,r=>by cases r;exact⟨_,.nil⟩
 |_,_,_,.cons h hs,r=>by
  cases r with
  |cons r1 r2=>obtain⟨as,a⟩:=DV.reads I h r1;obtain⟨bs,rb⟩:=AY.reads I hs r2;exact⟨_,.cons a rb⟩
end
def Bx(K:Frag)(neg:Bool):R2:=λx y H Q=>∃a b,DV K H x a/\DV K H y b/\(a.canLay0=true/\b.canLay0=true/\a.depth<=100)/\Q (.bl (if neg then !PyData.eqv a b else PyData.eqv a b)) H
def GS(m:X.A.units+200<cLine):pR X (compareOp .Eq) (Bx X.K false):=by intro j s i H x y v u Q I b e h;obtain⟨n,k,d,c,⟨g,f,l⟩,q⟩:=h;obtain⟨as,a⟩:=d.reads I b;obtain⟨bs,rb⟩:=c.reads I e;exact SeqAt.eqOverData _ _ _ _ _ _ _ _ _ _ _ _ a rb g f (by omega) ⟨.bl _,H,I,rfl,q⟩
def Iz(m:X.A.units+200<cLine):pR X (compareOp .NotEq) (Bx X.K true):=by intro j s i H x y v u Q I b e h;obtain⟨n,k,d,c,⟨g,f,l⟩,q⟩:=h;obtain⟨as,a⟩:=d.reads I b;obtain⟨bs,rb⟩:=c.reads I e;exact SeqAt.neOverData _ _ _ _ _ _ _ _ _ _ _ _ a rb g f (by omega) ⟨.bl _,H,I,rfl,q⟩
def QX(hr:iF k A):A.units+200<cLine:=by have:=hr.un;omega
end
end L2
namespace L2
open PySem PySem.Spec PyProof.Rows
theorem AW:∀{bs:List Bool} {us:List Vq},gH (bs.map V.bl) us->us=bs.map Value.bool
 |[],_,.nil=>rfl
 |b::bs,u::us,.cons r t=>by have e:=r;rw[e,AW t];rfl
theorem vT:∀{ns} {us},gH (ns.map V.int) us->IntsAre us ns
 |[],_,.nil=>.nil
 |n::ns,u::us,.cons r t=>by obtain⟨a,e⟩:=(r);rw[e];exact .cons n a (vT t)
def EY{bs:List Bool}:(List.range bs.length).all (λi=>bs.getD i false)=bs.all id:=by
 induction bs with
 |nil=>rfl
 |cons b bs ih=>rw[ay,cu,bR,cv,bR,<-ih];rfl
def yj{bs:List Bool}:(List.range bs.length).any (λi=>bs.getD i false)=bs.any id:=by
 induction bs with
 |nil=>rfl
 |cons b bs ih=>rw[ay,cu,bS,cw,bS,<-ih];rfl
section
variable {X:Cx}
def EZ{bs:List Bool}:TruthOf prog w A (λi v=>(bs.map Value.bool).toArray[i]? = some v) (λi=>bs.getD i false):=λi v s Q E d c=>by
 have e:(bs.map Value.bool)[i]? = some v:=by simpa using d
 rw[av]at e;cases a:bs[i]? with
 |none=>rw[a]at e;cases e
 |some b=>
  rw[a]at e;cases e;have:bs.getD i false=b:=by rw[af,a];rfl
  dsimp only at c;rw[this]at c;exact ak c
def IQ(g:X.calm=true):kj X (.builtin "all") (λd H Q=>∃(p:Addr) (bs:List Bool),d=[.ref p]/\lg X.K H p (bs.map V.bl)/\Q (.bl (bs.all id)) H):=by
 intro w s v H d y Q I r h;obtain⟨p,bs,rfl,j,q⟩:=h;obtain⟨u,rfl,f⟩:=pH r;cases f;obtain⟨m,k,a,C⟩:=I.list j;have e:=AW k;subst e;have c:p<s.heap.objs.size:=by obtain⟨_,e,_⟩:=a.isList;exact aK e
 refine call_all_walk (wpAny_pyIter_list a.isList ⟨s.heap.objs.size,_,_,_,_,_,λi=>bs.getD i false,rfl,Walks.list (A:=X.A.in1) (I.ok.hd g) _ p (aL c) _,⟨⟨_,ar _ rfl,rfl,rfl⟩,a.isList.push _⟩,EZ,λB x l=>?_⟩);refine⟨.bl _,H,I.kept (λb o e=>l b o ?_ (ae _ e)),rfl,?_⟩
 .intro n;have:=aK e;have z:b=s.heap.objs.size:=by simpa using n
  rw[z]at this;exact aZ _ this
 .rw[<-EY]at q;simpa using q
def G8(j:X.calm=true):kj X (.builtin "sum") (λc H Q=>∃(p:Addr) (b:LI),c=[.ref p]/\lg X.K H p (b.map V.int)/\Q (.int b.sum) H):=by intro v s o H c x Q I r h;obtain⟨p,b,rfl,l,q⟩:=h;obtain⟨u,rfl,g⟩:=pH r;cases g;obtain⟨a,m,i,z⟩:=I.list l;have f:=vT m;obtain⟨c,e⟩:=f.allInts.items;have d:=i.isList;rw[e]at d;refine sum_intListG (I.ok.hd j) d λy w k n=>⟨.int b.sum,H,I.kept n,⟨k,?_⟩,q⟩;rw[preSum_eq,cx (by simp),<-nums_intItems,<-e,show a.toArray.toList=a from rfl,f.numsOf]
def qP:bootBuiltins "all" = some (.builtin "all"):=by decide +kernel
def HK:bootBuiltins "any" = some (.builtin "any"):=by decide +kernel
def NR:bootBuiltins "sum" = some (.builtin "sum"):=by decide +kernel
end
end L2
namespace L2
open PySem PySem.Spec PyProof.Rows
def iQ(b:Bool)(h:Heap)(l:Addr)(a:Array Vq):Prop:=if b=true then h.IsTuple l a else h.IsList l a
def kq(b:Bool)(h:Heap)(it l:Addr)(k:Nat):Prop:=if b=true then h.IsTupleIter it l k else h.IsListIter it l k
noncomputable def vA(b:Bool):String:=if b=true then "tuple_iterator" else "list_iterator"
def kq.look(x:kq b h it l k):∃o,h.get? it=some o/\o.cls=.type (vA b)/\o.data=.fields #[.ref l,.int k 0]:=by
 cases b with
 |true=>exact (x)
 |false=>exact (x)
def kq.of{k:Nat}(x:∃o,h.get? it=some o/\o.cls=.type (vA b)/\o.data=.fields #[.ref l,.int k 0]):kq b h it l k:=by
 cases b with
 |true=>exact x
 |false=>exact x
def kq.to(x:kq b h it l k)(e:∀o,h.get? it=some o->h'.get? it=some o):kq b h' it l k:=by obtain⟨o,a,q⟩:=x.look;exact .of ⟨o,e o a,q⟩
def iQ.look(x:iQ b h l xs):∃o n,h.get? l=some o/\o.data=.seq xs n:=by
 cases b with
 |true=>obtain⟨o,a,_,n,c⟩:=(x);exact⟨o,n,a,c⟩
 |false=>obtain⟨o,a,_,n,c⟩:=(x);exact⟨o,n,a,c⟩
def iQ.to(x:iQ b h l xs)(e:∀o,h.get? l=some o->h'.get? l=some o):iQ b h' l xs:=by
 cases b with
 |true=>obtain⟨o,a,q⟩:=(x);exact⟨o,e o a,q⟩
 |false=>obtain⟨o,a,q⟩:=(x);exact⟨o,e o a,q⟩
section
variable {prog:Program}{w:World}{A:Around}{E:Vq->Shared->Prop}{s:Shared}
theorem Kn(f:s.heap.IsTupleIter it l k)(h:s.heap.IsTuple l xs)
  (j:∀x a,xs[k]? = some x->a.IsTupleIter it l (k+1)->Heap.SameBut it s.heap a->Q x {s with heap:=a})
  (g:xs[k]? = none->A.handled=none/\∀a e,Heap.ExtBut it s.heap a->(∃o,a.get? e=some o/\o.cls=.type "StopIteration")->E (.ref e) {s with heap:=a}) :
  wpAny (model prog w) A (Builtin.SmallTypes.nextOf (.ref it)) Q E s:=by
 obtain⟨u,c,q,b⟩:=id f;obtain⟨r,p,_,n,i⟩:=h;unfold Builtin.SmallTypes.nextOf;refine ao (wpAny_callSpecial?_slot f.typeIs F.slot_tuple_iterator_next (wpAny_call_entry F.slot_tuple_iterator_next f.typeIs F.entry_tuple_iterator_next ?_ (F.args_tuple_iterator_next_1 _)));show wpAny _ _ (field (.ref it) 0 >>= _) _ _ s;refine ao (wpAny_field c b rfl ?_);have ne:(Value.ref l==Value.none)=false:=rfl;simp only[ne,b8,if_false];refine ao (wpAny_field c b rfl (ao (wpAny_seqItems p i ?_)));cases d:xs[k]? with
 |some x=>simp only[bN,d];refine ao (wpAny_setField c b (by simp) (ak ⟨x,rfl,ak (j x _ d ?_ (Heap.SameBut.update ..))⟩));refine⟨_,Heap.get?_update_self _ c (Obj.isFreed_of_fields (Obj.data_mapFields b _)),(Obj.cls_mapFields ..).trans q,?_⟩;rw[Obj.data_mapFields b];simp[rawInt]
 |none=>obtain⟨m,g⟩:=g d;simp only[bN,d];refine ao (wpAny_rule (ao (wpAny_setField c b (by simp) ?_)));show wpAny _ _ (newExc (.type "StopIteration") [] >>= _) _ _ _;simp only[newExc,newTuple];refine ao (ao (wpAny_newObj_type (ao (wpAny_of_eq (by first|rfl|(simp only[firstArgMember];rfl)) (wpAny_newObj_type ?_ (by size_fits)))) (by size_fits)));simp only[raiseNew];refine ao (wpAny_handled ?_);rw[show A.in1.handled=none from m];refine ao (ak (wpAny_throw ?_));exact g _ _ (((Heap.SameBut.update ..).extBut.push _).push _) ⟨_,ar _ rfl,rfl⟩
theorem rQ(j:kq b s.heap it l k)(m:iQ b s.heap l xs)
  (i:∀x c,xs[k]? = some x->kq b c it l (k+1)->Heap.SameBut it s.heap c->Q x {s with heap:=c})
  (h:xs[k]? = none->A.handled=none/\∀c e,Heap.ExtBut it s.heap c->(∃o,c.get? e=some o/\o.cls=.type "StopIteration")->E (.ref e) {s with heap:=c}) :
  wpAny (model prog w) A (Builtin.SmallTypes.nextOf (.ref it)) Q E s:=by
 cases b with
 |true=>exact Kn j m i h
 |false=>
  have f:=j;have d:=m;cases g:xs[k]? with
  |some x=>exact wpAny_nextOf_list_item f d g λc a b=>i x c g a b
  |none=>obtain⟨n,h⟩:=h g;exact wpAny_nextOf_list_end n f d g h
def Gj{z TI TO r J S Y:Addr}{Q:Vq->Shared->Prop}(D:ZipApart z TI TO r J S Y)
  (N:IsZip s.heap z TI TO .none) (hTI:IsPair s.heap TI (.ref r) (.ref J)) (hTO:IsPair s.heap TO a b)
  (h1:kq b1 s.heap r S k) (h2:kq b2 s.heap J Y k) (hl1:iQ b1 s.heap S xs) (Z:iQ b2 s.heap Y ys)
  (yes:∀x y g,xs[k]? = some x->ys[k]? = some y->IsZip g z TI TO (rawInt s.heap.objs.size)->IsPair g TO x y->kq b1 g r S (k+1)->kq b2 g J Y (k+1)->IsPair g s.heap.objs.size x y->g.objs.size=s.heap.objs.size+1->
   (∀c o,c≠z->c≠TO->c≠r->c≠J->s.heap.get? c=some o->g.get? c=some o)->Q (.ref s.heap.objs.size) {s with heap:=g})
  (X:xs[k]? = none\/ys[k]? = none->A.handled=none/\∀g e,(∀c o,c≠z->c≠TO->c≠r->c≠J->s.heap.get? c=some o->g.get? c=some o)->(∃o,g.get? e=some o/\o.cls=.type "StopIteration")->E (.ref e) {s with heap:=g}) :
  wpAny (model prog w) A (Builtin.«zip.__next__» ⟨[.ref z],[]⟩) (λfin s'=>∃v,fin=.done (.ret v)/\Q v s') E s:=by
 have n:∀{h:Heap} {e:Addr} {I:Obj} {f:Vq},IsZip h z TI TO f->h.get? e=some I->I.cls=.type "StopIteration" ->e≠z:=λ{h e I f} q ge ce u=>by subst u;rw[q]at ge;cases ge;simp at ce
 show wpAny _ _ (field (.ref z) 2 >>= λ_=>_) _ _ _;refine ao (wpAny_field N rfl rfl ?_);refine ao (wpAny_field N rfl rfl (ao (wpAny_seqItems hTI rfl ?_)));unfold Builtin.SmallTypes.ownedTupleIsFree;refine ao (ao (wpAny_field N rfl rfl (ak ?_)));simp only[if_true];refine ao (wpAny_rule (ao (wpAny_field N rfl rfl (ao (wpAny_setField_rec N (by simp) λg1 y1 K=>?_)))));have z1:=y1;simp only[List.zipIdx_cons,List.zipIdx_nil,b7,ck];refine ao (ao (ao (wpAny_onRaise ?_)));refine ao (rQ (h1.to λo e=>K.extBut _ _ D.i1z e) (hl1.to λo e=>K.extBut _ _ D.l1z e) (λx g2 P t2 F=>ak ?_) (λP=>⟨(X (.inl P)).1,λg2 e F ⟨I,ge,ce⟩=>?_⟩))
 .have p2:=F.extBut _ _ D.TOi1 (K.extBut _ _ D.TOz hTO);refine ao (wpAny_seqItems p2 rfl (ao (wpAny_updateSeq_pair p2 λg3 q3 B=>?_)));have p3:=q3;refine ao (wpAny_letGo (ak (ao (ao (wpAny_onRaise ?_)))));have l:∀c o,c≠z->c≠r->c≠TO->s.heap.get? c=some o->g3.get? c=some o:=λc o d j i e=>B.extBut _ _ i (F.extBut _ _ j (K.extBut _ _ d e));refine ao (rQ (h2.to λo e=>l _ o D.i2z D.i12.symm D.TOi2.symm e) (Z.to λo e=>l _ o D.l2z D.l2i1 D.l2TO e) (λy g4 R t4 p=>ak ?_) (λR=>⟨(X (.inr R)).1,λg4 e p ⟨I,ge,ce⟩=>?_⟩))
  .have p4:=p.extBut _ _ D.TOi2 p3;refine ao (wpAny_seqItems p4 rfl (ao (wpAny_updateSeq_pair p4 λC q5 H=>?_)));have p5:IsPair C TO x y:=q5;refine ao (wpAny_letGo (ak (ak (ao (wpAny_seqItems p5 rfl (ao (wpAny_newTuple ?_)))))));have sz:C.objs.size=s.heap.objs.size:=by rw[H.1,p.1,B.1,F.1,K.1]
   have z5:=H.extBut _ _ D.TOz.symm (p.extBut _ _ D.i2z.symm (B.extBut _ _ D.TOz.symm (F.extBut _ _ D.i1z.symm z1)));have to5:∀c o,c≠z->c≠TO->c≠r->c≠J->s.heap.get? c=some o->C.get? c=some o:=λc o d j i L e=>H.extBut _ _ j (p.extBut _ _ L (l c o d i j e));unfold Builtin.SmallTypes.ownedTupleHandOut;refine ao (ao (wpAny_setField_rec (ae _ z5) (by simp) λg7 y7 k7=>?_));have z7:=y7;refine wpAny_setField_rec z7 (by simp) λU y8 k8=>?_;have z8:=y8;have up:∀c o,c≠z->(C.push {cls:=.type "tuple",data:=.seq #[x,y]}).get? c=some o->U.get? c=some o:=λc o d e=>k8.extBut _ _ d (k7.extBut _ _ d e);have m:∀c o,c≠z->C.get? c=some o->U.get? c=some o:=λc o d e=>up c o d (ae _ e);have p8:=up _ _ (bz (aK z5)) (ar _ rfl);have s8:U.objs.size=C.objs.size+1:=by rw[k8.1,k7.1,Heap.size_push]
   rw[sz]at z8 p8 s8;refine ak ⟨_,rfl,?_⟩;rw[sz];have e1:=t2.to λo e=>m _ o D.i1z (H.extBut _ _ D.TOi1.symm (p.extBut _ _ D.i12 (B.extBut _ _ D.TOi1.symm e)));have e2:=t4.to λo e=>m _ o D.i2z (H.extBut _ _ D.TOi2.symm e);exact yes x y U P R z8 (m _ _ D.TOz p5) e1 e2 p8 s8 λc o d j i L e=>m c o d (to5 c o d j i L e)
  .have z4:=p _ _ D.i2z.symm (B.extBut _ _ D.TOz.symm (F.extBut _ _ D.i1z.symm z1));refine wpAny_setField_rec z4 (by simp) λC _ H=>(X (.inr R)).2 C e (λc o d j i L q=>H.extBut _ _ d (p _ _ L (l c o d i j q))) ⟨I,H.extBut _ _ (n z4 ge ce) ge,ce⟩
 .have z2:=F _ _ D.i1z.symm z1;refine wpAny_setField_rec z2 (by simp) λg3 _ B=>(X (.inl P)).2 g3 e (λc o d j i L q=>B.extBut _ _ d (F _ _ i (K.extBut _ _ d q))) ⟨I,B.extBut _ _ (n z2 ge ce) ge,ce⟩
def Aw{z TI TO g f h i:Addr}(D:ZipApart z TI TO g f h i)
  (u:IsZip s.heap z TI TO .none) (n:IsPair s.heap TI (.ref g) (.ref f)) (m:IsPair s.heap TO a b)
  (J:kq b1 s.heap g h k) (R:kq b2 s.heap f i k) (j:iQ b1 s.heap h xs) (p:iQ b2 s.heap i ys)
  (l:∀x y d,xs[k]? = some x->ys[k]? = some y->IsZip d z TI TO (rawInt s.heap.objs.size)->IsPair d TO x y->kq b1 d g h (k+1)->kq b2 d f i (k+1)->IsPair d s.heap.objs.size x y->d.objs.size=s.heap.objs.size+1->
   (∀c o,c≠z->c≠TO->c≠g->c≠f->s.heap.get? c=some o->d.get? c=some o)->Q (some (.ref s.heap.objs.size)) {s with heap:=d})
  (r:xs[k]? = none\/ys[k]? = none->A.handled=none/\∀d,(∀c o,c≠z->c≠TO->c≠g->c≠f->s.heap.get? c=some o->d.get? c=some o)->Q none {s with heap:=d}) :
  wpAny (model prog w) A (pyNext (.ref z)) Q E s:=by
 have ty:s.TypeIs (.ref z) "zip" :=⟨_,u,rfl⟩;unfold pyNext;refine ao (wpAny_attempt (wpAny_callSpecial?_slot ty F.slot_zip_next (wpAny_call_entry F.slot_zip_next ty F.entry_zip_next
  (Gj D u n m J R j p (λx y d v B C P H K N L I=>ak (l x y d v B C P H K N L I)) λq=>⟨(r q).1,λd e hk ⟨o,ho,hc⟩=>?_⟩) (F.args_zip_next_1 _))))
 exact ao (wpAny_isInstance ⟨o,ho,hc⟩ isSubtype_stop (ak ((r q).2 d hk)))
theorem nQ(a:iQ b s.heap l xs)
  (h:Q (.ref s.heap.objs.size) {s with heap:=s.heap.push {cls:=.type (vA b),data:=.fields #[.ref l,.int 0 0]}}):wpAny (model prog w) A (pyIter (.ref l)) Q E s:=by
 cases b with
 |true=>exact wpAny_pyIter_tuple (a) h
 |false=>exact wpAny_pyIter_list (a) h
end
noncomputable abbrev zo(b:Bool)(l:Addr):Obj:={cls:=.type (vA b),data:=.fields #[.ref l,.int 0 0]}
abbrev zt(x y:Vq):Obj:={cls:=.type "tuple",data:=.seq #[x,y]}
abbrev zz(p q:Addr):Obj:={cls:=.type "zip",data:=.fields #[.none,.bool false,.bool false,.ref p,.ref q]}
noncomputable abbrev zD(b1 b2:Bool)(h:Heap)(l1 l2:Addr):Heap:=
 ((((h.push (zo b1 l1)).push (zo b2 l2)).push (zt (.ref h.objs.size) (.ref (h.push (zo b1 l1)).objs.size))).push (zt .none .none)).push
  (zz ((h.push (zo b1 l1)).push (zo b2 l2)).objs.size (((h.push (zo b1 l1)).push (zo b2 l2)).push (zt (.ref h.objs.size) (.ref (h.push (zo b1 l1)).objs.size))).objs.size)
section
variable {prog:Program}{w:World}{A:Around}{E:Vq->Shared->Prop}{s:Shared}
def Ew b1 b2 l1 l2 xs ys:Meets (Builtin.«zip.__new__» ⟨[.type "zip",.ref l1,.ref l2],[]⟩) (λ_ R s=>iQ b1 s.heap l1 xs/\iQ b2 s.heap l2 ys/\
  R (.ok (.ret (.ref ((((s.heap.push (zo b1 l1)).push (zo b2 l2)).push (zt (.ref s.heap.objs.size) (.ref (s.heap.push (zo b1 l1)).objs.size))).push (zt .none .none)).objs.size))) {s with heap:=zD b1 b2 s.heap l1 l2}):=by
 refine .of_wp λprog w A R s h=>?_;obtain⟨l,g,d,k,f⟩:=s;obtain⟨c,a,i⟩:=h;have sz:=sub_zip;have b:=c;have j:iQ b2 (Shared.heap ⟨l.push (zo b1 l1),g,d,k,f⟩) l2 ys:=a.to λo e=>ae _ e;wp_walk using nQ b,nQ j;exact⟨_,rfl,i⟩
def IE(g:iQ b1 s.heap l1 xs)(f:iQ b2 s.heap l2 ys)
  (h:∀b,IsZip b (s.heap.objs.size+4) (s.heap.objs.size+2) (s.heap.objs.size+3) .none->IsPair b (s.heap.objs.size+2) (.ref s.heap.objs.size) (.ref (s.heap.objs.size+1))->IsPair b (s.heap.objs.size+3) .none .none->
   kq b1 b s.heap.objs.size l1 0->kq b2 b (s.heap.objs.size+1) l2 0->b.objs.size=s.heap.objs.size+5->(∀c o,s.heap.get? c=some o->b.get? c=some o)->Q (.ref (s.heap.objs.size+4)) {s with heap:=b}) :
  wpAny (model prog w) A (call (.type "zip") [.ref l1,.ref l2]) Q E s:=by
 refine callType_new F.called_zip (by decide) (F.typeCall_zip_2 _ _) (F.newCall_zip_2 _ _) (λm=>F.args_object_init_3 m _ _) F.entry_zip_new (Ew b1 b2 l1 l2 xs ys) ⟨g,f,?_⟩;generalize l:s.heap.objs.size=n at *;have d:(s.heap.push (zo b1 l1)).objs.size=n+1:=by rw[Heap.size_push,l]
 have i:((s.heap.push (zo b1 l1)).push (zo b2 l2)).objs.size=n+2:=by rw[Heap.size_push,d]
 generalize a:(s.heap.push (zo b1 l1)).push (zo b2 l2)=g2 at *;have r:∀c o,s.heap.get? c=some o->g2.get? c=some o:=λc o e=>by rw[<-a];exact ae _ (ae _ e)
 have q:g2.get? n=some (zo b1 l1):=by rw[<-a,<-l];exact ae _ (ar _ rfl)
 have u:g2.get? (n+1)=some (zo b2 l2):=by rw[<-a,<-d];exact ar _ rfl
 have k:(g2.push (zt (.ref n) (.ref (n+1)))).objs.size=n+3:=by rw[Heap.size_push,i]
 have j:((g2.push (zt (.ref n) (.ref (n+1)))).push (zt .none .none)).objs.size=n+4:=by rw[Heap.size_push,k]
 have x:zD b1 b2 s.heap l1 l2=((g2.push (zt (.ref n) (.ref (n+1)))).push (zt .none .none)).push (zz (n+2) (n+3)):=by unfold zD;rw[l,d,a,i,k]
 rw[x,d,j];have v:(g2.push (zt (.ref n) (.ref (n+1)))).get? (n+2)=some (zt (.ref n) (.ref (n+1))):=by rw[<-i];exact ar _ rfl
 have y:((g2.push (zt (.ref n) (.ref (n+1)))).push (zt .none .none)).get? (n+3)=some (zt .none .none):=by rw[<-k];exact ar _ rfl
 have p:(((g2.push (zt (.ref n) (.ref (n+1)))).push (zt .none .none)).push (zz (n+2) (n+3))).get? (n+4)=some (zz (n+2) (n+3)):=by rw[<-j];exact ar _ rfl
 have up:∀c o,g2.get? c=some o->(((g2.push (zt (.ref n) (.ref (n+1)))).push (zt .none .none)).push (zz (n+2) (n+3))).get? c=some o:=λc o e=>ae _ (ae _ (ae _ e));exact⟨⟨_,p,rfl⟩,h _ p (ae _ (ae _ v)) (ae _ y) (.of ⟨_,up _ _ q,rfl,rfl⟩) (.of ⟨_,up _ _ u,rfl,rfl⟩) (by rw[Heap.size_push,j]) λc o e=>up c o (r c o e)⟩
end
end L2
namespace L2
open PySem PySem.Spec PyProof.Rows
def fV.turnedL{ch:List Addr}(I:fV X fw σ H s)(k:∀b o,b∉ch->s.heap.get? b=some o->h'.get? b=some o)(f:∀b∈ch,rC X fw H b) :
  fV X fw σ H {s with heap:=h',toks:=t'}:=by
 have d:∀b u,H b=some u->b∉ch:=λb u e z=>by rw[(f b z).1]at e;cases e
 refine I.step (λb j=>let ⟨_,f1,_,f3,f4,f5⟩:=f b j;⟨f3,f1,f4,f5⟩) (λb o _ _ a e _=>k b o a e) (λb o _ _ a e _=>⟨o.slots,k b o a e⟩) (λ_ _ _ _ n=>n)
  (λb o a e=>⟨o,k b o a e⟩) (λ_ _ e=>e) (λ_ _ _ e=>e) (λb p e=>⟨#[],by rw[e];simp⟩) (λm l=>?_) (λb u e=>?_) I.bare
 .obtain⟨o,h,i,g,r⟩:=l;exact⟨o,h,i,k _ o (λz=>(f _ z).2.1 rfl) g,r⟩
 .refine (I.hok b u e).stay (λc v a q=>k c v ?_ q) (λ_ q=>q) λ_ _ q=>q;rcases a with z|z
  .rw[z];exact d b u e
  .exact d c _ z
def uc(K:W.Frag)(H:Hp)(b:Bool)(a:Addr)(c:List V):Prop:=if b=true then mx K H a c else lg K H a c
def fV.seqB(I:fV X fw σ H s)(h:uc X.K H b a xs):∃its:List Vq,gH xs its/\iQ b s.heap a its.toArray/\xs.length<=sizeLine:=by
 cases b with
 |true=>obtain⟨its,r,p,z⟩:=I.tuple (h);exact⟨its,r,p,z⟩
 |false=>obtain⟨its,r,p,z⟩:=I.list (h);exact⟨its,r,p.isList,z⟩
def fV.seqB_inj(I:fV X fw σ H s)(h:uc X.K H b a xs)(c:uc X.K H b a ys):xs=ys:=by
 cases b with
 |true=>exact I.tuple_inj h c
 |false=>exact I.list_inj h c
noncomputable def RG(K:W.Frag)(c f:Bool)(d e:Addr):It:=
  ⟨λi H=>∃a b x y,uc K H c d a/\uc K H f e b/\a[i]? = some x/\b[i]? = some y,
   λi H v g=>∃p x y,v=.ref p/\H p=none/\g=ja H p (.tup [x,y])/\(∀a,uc K H c d a->a[i]? = some x)/\∀b,uc K H f e b->b[i]? = some y,
   λi H=>∃a b,uc K H c d a/\uc K H f e b/\(a.length<=i\/b.length<=i)⟩
def Jg{K:W.Frag}{x1}{z TI TO l m l1 l2:Addr}(D:ZipApart z TI TO l m l1 l2) :
  AV P w K (.Tuple elts x1 pos) (RG K b1 b2 l1 l2) [z,TI,TO,l,m] z (λi h=>IsZip h z TI TO .none/\IsPair h TI (.ref l) (.ref m)/\(∃a b,IsPair h TO a b)/\kq b1 h l l1 i/\kq b2 h m l2 i) where
 mem:=by simp
 obj:=λi h n b f=>by
  obtain⟨p,g,⟨a,c,j⟩,r,A⟩:=n;have mem:b=z\/b=TI\/b=TO\/b=l\/b=m:=by simpa using f
  rcases mem with rfl|rfl|rfl|rfl|rfl
  .exact⟨_,p,λv q=>by cases q⟩
  .exact⟨_,g,λv q=>by cases q⟩
  .exact⟨_,j,λv q=>by cases q⟩
  .obtain⟨o,e,_,d⟩:=r.look;exact⟨o,e,λv q=>by rw[d]at q;cases q⟩
  .obtain⟨o,e,_,d⟩:=A.look;exact⟨o,e,λv q=>by rw[d]at q;cases q⟩
 keep:=λi h Z n k=>by obtain⟨p,g,⟨a,c,j⟩,r,A⟩:=n;exact⟨k z (by simp) _ p,k TI (by simp) _ g,⟨a,c,k TO (by simp) _ j⟩,r.to λo e=>k l (by simp) o e,A.to λo e=>k m (by simp) o e⟩
 item:=by
  intro X hP hw hK hc i fw s σ H E I hf n hg;subst hP hw hK;obtain⟨p,g,⟨a,c,j⟩,r,A⟩:=n;obtain⟨xs,ys,x,y,q1,q2,e1,e2⟩:=hg;obtain⟨J,r1,p1,z1⟩:=I.seqB q1;obtain⟨Y,r2,p2,z2⟩:=I.seqB q2;obtain⟨u,gu,ru⟩:=r1.get e1;obtain⟨v,gv,rv⟩:=r2.get e2;have F:=I.fpOk (aJ _) (I.hok.fresh (aJ _));refine Aw D p g j r A p1 p2 (λR Q Z C B a1 a2 a3 a4 a5 a6 S=>?_) λq=>?_
  .have eu:R=u:=by
    have:J[i]? = some R:=by simpa using C
    rw[gu]at this;cases this;rfl
   have ev:Q=v:=by
    have:Y[i]? = some Q:=by simpa using B
    rw[gv]at this;cases this;rfl
   subst eu;subst ev;refine⟨_,rfl,wpAny_letOwnedTupleGo_zip a1 λN L sb=>?_⟩;have zT:=bz (aK p);have I1:=I.turnedL (t':=s.toks) (ch:=[z,TO,l,m]) (λb o f e=>sb.extBut _ _ (λq=>f (by simp[q])) (S b o (λq=>f (by simp[q])) (λq=>f (by simp[q])) (λq=>f (by simp[q])) (λq=>f (by simp[q])) e))
    (λb f=>hf b (by
     have mem:b=z\/b=TO\/b=l\/b=m:=by simpa using f
     rcases mem with rfl|rfl|rfl|rfl<;>simp))
   have gT:=sb.extBut _ _ zT a5;have I2:fV X fw σ (ja H s.heap.objs.size (.tup [x,y])) {s with heap:=N}:=I1.track F.1 F.2.2.2.1 F.2.1 F.2.2.2.2.1 F.2.2.2.2.2
    ⟨by show 2<=sizeLine;decide,[R,Q],.cons ru (.cons rv .nil),⟨_,gT,rfl,_,rfl,rfl⟩⟩
   have lt:∀{b o},s.heap.get? b=some o->ja H s.heap.objs.size (.tup [x,y]) b=H b:=λ{b o} e=>fT (aL (aK e));refine⟨.ref s.heap.objs.size,_,I2,rfl,⟨_,x,y,rfl,F.1,rfl,λxs' h=>by rw[I.seqB_inj h q1];exact e1,λys' h=>by rw[I.seqB_inj h q2];exact e2⟩,?_,λb f=>?_⟩
   .have k2:∀c o,c≠z->Z.get? c=some o->N.get? c=some o:=λc o c1 e=>sb.extBut _ _ c1 e;exact⟨L,k2 _ _ D.TIz (S _ _ D.TIz D.TITO D.TIi1 D.TIi2 g),⟨_,_,k2 _ _ D.TOz a2⟩,a3.to λo e=>k2 _ o D.i1z e,a4.to λo e=>k2 _ o D.i2z e⟩
   .have mem:b=z\/b=TI\/b=TO\/b=l\/b=m:=by simpa using f
    have U:=(hf b f).1;obtain⟨o1,g1,_⟩:=r.look;obtain⟨o2,g2,_⟩:=A.look;rcases mem with rfl|rfl|rfl|rfl|rfl
    .rw[lt p];exact U
    .rw[lt g];exact U
    .rw[lt j];exact U
    .rw[lt g1];exact U
    .rw[lt g2];exact U
  .exfalso;have m1:J.toArray[i]? = some u:=by simpa using gu
   have m2:Y.toArray[i]? = some v:=by simpa using gv
   rcases q with q|q
   .rw[m1]at q;cases q
   .rw[m2]at q;cases q
 done:=by
  intro X hP hw hK hc i fw s σ H E I hf n hg;subst hP hw hK;obtain⟨p,g,⟨a,c,j⟩,r,A⟩:=n;obtain⟨xs,ys,q1,q2,hl⟩:=hg;obtain⟨J,r1,p1,z1⟩:=I.seqB q1;obtain⟨Y,r2,p2,z2⟩:=I.seqB q2;have n1:=r1.length;have n2:=r2.length;have fpc:∀b∈[z,TO,l,m],rC X fw H b:=λb f=>hf b (by
   have mem:b=z\/b=TO\/b=l\/b=m:=by simpa using f
   rcases mem with rfl|rfl|rfl|rfl<;>simp)
  refine Aw D p g j r A p1 p2 (λR Q Z C B a1 a2 a3 a4 a5 a6 S=>?_) λq=>⟨I.ok.hd hc,λZ S=>⟨rfl,I.turnedL (λb o f e=>S b o (λq=>f (by simp[q])) (λq=>f (by simp[q])) (λq=>f (by simp[q])) (λq=>f (by simp[q])) e) fpc⟩⟩;exfalso;have m1:i<J.length:=by
   have:J[i]? = some R:=by simpa using C
   exact (aa.mp this).1
  have m2:i<Y.length:=by
   have:Y[i]? = some Q:=by simpa using B
   exact (aa.mp this).1
  omega
 self:=λ_ _ _ _ _ n h=>wpAny_pyIter_zip n.1 h
def MM:bootBuiltins "zip" = some (.type "zip"):=by decide +kernel
section
variable {X:Cx}
def MB(K:W.Frag)(d e:Bool)(g:TA):TI:=λh H R=>g h H λf a=>∃b c,f=[.ref b,.ref c]/\(∃i,uc K a d b i)/\(∃j,uc K a e c j)/\R (RG K d e b c) a
def N6{x1}(C:Gl X "zip")(P:X.mg "zip" = none)(L:PA X [a,b] ta)(S:starEach [a,b] X.env=[(false,eval a X.env),(false,eval b X.env)]:=by rfl)
  (c:starEach [b] X.env=[(false,eval b X.env)]:=by rfl):PI X (.Tuple elts x1 tpos) (.Call (.Name "zip" p) [a,b] [] pos) (MB X.K b1 b2 ta):=by
 intro x s v H R I h;refine Call_ (ot I C P MM (PyProof.Rows.callWith_type1 (jv (L pos x s v H _ I h) λN s1 ⟨vs,H1,I1,r1,f⟩=>?_) (by rw[S,c]) (by rw[c];rfl)));obtain⟨w,D,rfl,⟨xs,f⟩,⟨ys,B⟩,q⟩:=f;obtain⟨Z,u2,rfl,U,Y⟩:=LN r1;cases U;cases Y;obtain⟨N,A,r,_⟩:=I1.seqB f;obtain⟨ws,F,l,_⟩:=I1.seqB B;have d:w<s1.heap.objs.size:=by obtain⟨o,n,e,_⟩:=r.look;exact aK e
 have g:D<s1.heap.objs.size:=by obtain⟨o,n,e,_⟩:=l.look;exact aK e
 refine IE r l λh' u k j Q z y J=>?_;refine wpAny_pyIter_zip u ?_;refine⟨_,_,_,_,H1,rfl,I1.kept J,Jg (zipApart_new d g),⟨u,k,⟨_,_,j⟩,Q,z⟩,λb E=>?_,q⟩;have i:b=s1.heap.objs.size+4\/b=s1.heap.objs.size+2\/b=s1.heap.objs.size+3\/b=s1.heap.objs.size\/b=s1.heap.objs.size+1:=by simpa using E
 have m:s1.heap.objs.size<=b:=by rcases i with rfl|rfl|rfl|rfl|rfl<;>omega
 exact I1.fpOk m (I1.hok.fresh m)
end
end L2
namespace L2
open PySem PySem.Spec PyProof.Rows
def lZ(h:H p=none):f6 H (ja H p o):=λb u e=>by rw[fT (gA e h)];exact e
def f6.seqT{K:W.Frag}(e:f6 H H')(h:mx K H a xs):mx K H' a xs:=by
 rcases h with (h|⟨o,h⟩)|h
 .exact .inl (.inl (e _ _ h))
 .exact .inl (.inr ⟨o,e _ _ h⟩)
 .exact .inr h
noncomputable def yN(d:List Str)(b a:Scope)(N:List Str)(c:List (Option Nat)):Bool:=
 a.kind==.function&&a.names.all (λy=>!(y.2==NameKind.cell)||a.names.lookup y.1==some .cell)&&a.names.all (λy=>!(y.2==NameKind.local)||a.names.lookup y.1==some .local) &&
 a.names.all (λy=>!(y.2==NameKind.free)||b.names.lookup y.1==some .cell)&&N.length==c.length &&
 (List.range N.length).all (λi=>match c[i]?,N[i]? with
  |some (some j),some x=>d[j]? == some x&&a.names.lookup x==some .free&&b.names.lookup x==some .cell
  |_,_=>true)
def PF(o:∀x,X.env.scope.names.lookup x=some .cell->∃c,X.env.cells.lookup x=some c)(h:yN X.N X.env.scope scope N ix=true):zY X scope N ix:=by
 unfold yN at h;simp only[bP]at h;obtain⟨⟨⟨⟨⟨l,p⟩,m⟩,s⟩,k⟩,q⟩:=h;refine⟨by simpa using l,λy d e=>?_,λy d e=>?_,λy d e=>?_,by simpa using k,λi j x f r=>?_⟩
 .have:=cy.mp p y d;rw[e]at this;simpa using this
 .have:=cy.mp m y d;rw[e]at this;simpa using this
 .have:=cy.mp s y d;rw[e]at this;exact o _ (by simpa using this)
 .have n:=(aa.mp f).1;have:=cy.mp q i (aR.mpr n);rw[f,r]at this;simp only[bP,beq_iff_eq]at this;obtain⟨⟨a,b⟩,c⟩:=this;exact⟨a,b,.inr (.inl c),λz=>by have g:X.env.scope.names.lookup x=some .local:=z;rw[c]at g;cases g⟩
def GX(L:zY X scope N ix):∀x,(mH X N scope C s₃ H ex pn).env.scope.names.lookup x=some .cell->∃c,(mH X N scope C s₃ H ex pn).env.cells.lookup x=some c:=λx b=>by
 refine bK.mp (W.cellsFrom_some _ _ _ ?_);rcases rF (.inl b) with a|a
 .exact .inr (bK.mpr (nU a (L.fre _ a rfl)))
 .exact .inl a
def uO{K:W.Frag}(n:ix[k]? = some none)(c:ix[l]? = some none):oz ix (Ey K 2 (wF (jj k) (wF (jj l) E3))):=by
 rintro x b H Q ⟨a,h,s,d,y,v,r,w,m,p,u,g,q⟩;refine⟨a,h,s,d,y,v,r,w,m,p,u,g,λi j e=>?_,q⟩;have f:k≠i:=by rintro rfl;rw[n]at e;cases e
 have o:l≠i:=by rintro rfl;rw[c]at e;cases e
 rw[aq o,aq f]
end L2
namespace L2
open PySem PySem.Spec PyProof.Rows
structure jK(K:W.Frag)(C:Addr)(m qual:Str)(st:Stmt):Prop where
 ex:∃f fd,Jr K m qual st f fd/\FS K C m f
structure ji(P:Program)(w:World)(K:W.Frag)(mg:Str->Option Value)(base:Heap)(C:Addr)(m:Str)(k:Nat)(sp:Sp):Prop where
 cl:xh K C
 ex:∃f fd ps,mv P w K mg base uD k f fd ps sp/\FS K C m f/\nV K fd ps []
def Dj{K:W.Frag}{st:Stmt}(j:xh K C)(D:jK K C m qual st)(S:iP N ps (fK st))
  (i:∀(kV d o:Vq) (h:Option Addr) (a l:Vq) (us:List Vq),us.length=ps.length->bindArgs (W.fnOf m qual (jg st) (gJ st) (fK st) .none kV d o h a l) ⟨us,[]⟩=pure (ps.zip us))
  (e:∀vs H Q E,sp vs H Q E->vs.length=ps.length)
  (b:∀f a A c s H vs Q E,iF k (A.deeper (envOfC qual (fK st) s.heap.objs.size f a))->sp vs H Q E->
   ∃t,wV (jS uD P w K mg base N qual (fK st) f a A c s H E).nox (gJ st) t/\t {nx:=λ_ n=>Q .non n,rt:=Q} (lB N vs) H):ji P w K mg base C m (k+1) sp:=by
 obtain⟨f,g,F,m⟩:=D.ex;exact⟨j,f,g,ps,F.ok S e (b f),m,F.binds i⟩
structure Eb(P:Program)(w:World)(K:W.Frag)(mg:Str->Option Value)(base:Heap)(x:Str)(C:Addr)(k:Nat)(sp:Sp):Prop where
 ex:∃f fd ps,mv P w K mg base uD k f fd ps sp/\Mk K C f/\nV K fd ps []
 mgx:mg x=some (.ref C)
section
variable {X:Cx}{x m:Str}{C:Addr}{k:Nat}{sp:Sp}{e o:Expr}{es:List Expr}{t:TA}{ta:TE}{p pos apos:Pos}
def QA(h:Eb X.prog X.w X.K X.mg X.base x C k sp)(hr:iF (k+1) X.A)(j:PA X (e::es) t)(i:Gl X x:=by rfl)
  (d:(x==("__debug__" : Str))=false:=by decide) (g:starEach (e::es) X.env=(false,eval e X.env)::starEach es X.env:=by rfl) (c:(backTo pos (starEach es X.env)).any (·.1)=false:=by rfl) :
  PE X (.Call (.Name x p) (e::es) [] pos) (DB C sp [] E0 t):=by
 obtain⟨f,l,n,F,a,b⟩:=h.ex;exact LG a F hr i h.mgx b .nil C3 j d g c
def PX(h:ji X.prog X.w X.K X.mg X.base C m k sp)(hr:iF k X.A)(i:PE X o ta)(j:PA X (e::es) t)
  (d:starEach (e::es) X.env=(false,eval e X.env)::starEach es X.env:=by rfl) (c:(backTo pos (starEach es X.env)).any (·.1)=false:=by rfl)
  (g:eval (.Call (.Attribute o m apos) (e::es) [] pos) X.env=(do
   let ov <-eval o X.env
   standAt apos.atName
   let (f,first) <-holding [ov] (getMethod ov m pl)
   callWith pos f first (backTo pos (starEach (e::es) X.env)) (backToKw pos (keywordEach [] X.env))):=by rfl) :
  PE X (.Call (.Attribute o m apos) (e::es) [] pos) (r0 C m sp [] E0 ta t):=by
 obtain⟨f,n,l,F,a,b⟩:=h.ex;exact Lx i h.cl a F hr b .nil C3 j d c g
def FL(h:ji X.prog X.w X.K X.mg X.base C m k sp)(hr:iF k X.A)(d:PE X o ta)
  (c:eval (.Call (.Attribute o m apos) [] [] pos) X.env=(do
   let ov <-eval o X.env
   standAt apos.atName
   let (f,first) <-holding [ov] (getMethod ov m pl)
   callWith pos f first (backTo pos (starEach [] X.env)) (backToKw pos (keywordEach [] X.env))):=by rfl) :
  PE X (.Call (.Attribute o m apos) [] [] pos) (r0 C m sp [] E0 ta qr):=by
 obtain⟨f,g,i,F,a,b⟩:=h.ex;exact Ht d h.cl a F hr b .nil C3 c
end
end L2
namespace L2
open PySem PySem.Spec PyProof.Rows
def IG(hN:X.N.Nodup)(E:X.N[i]? = some y)(hx:Bh X.env.scope y)
  (K:X.calm=true) (hi:PI X tg iter wi) (L:zY X scope N ix) (p:oz ix g)
  (A:∀C c H k j,PG (mH X N scope C c H k j) tg g/\EN (mH X N scope C c H k j) ifs tt/\PE (mH X N scope C c H k j) elt te)
  (hf:X.fn y=true\/X.env.scope.names.lookup y=some .local:=by first|exact .inl rfl|exact .inr rfl)
  (l:swapsWith (.ListComp elt [⟨tg,iter,ifs,0⟩] scope pos) (some (.Name y py)) spos.line X.env=pure true:=by rfl)
  (hs:∀x,foldedSetIterable iter X.env x=pure x:=by intro _;rfl):PS X (.Assign [.Name y py] (.ListComp elt [⟨tg,iter,ifs,0⟩] scope pos) spos) (mG (FR ix wi g tt te) (jj i)):=by
 intro F s B H D I h;rw[exec_Assign_Name_used _ _ _ _ l];refine ao (wpAny_standAt (ao ?_));rw[arm_evalThenUse_ListComp];refine ao (jv (wpAny_comprehension_free rfl hs (qJ L.fre) L.kind L.names (jv (hi F s B H _ I h) λv s1 S=>jv S λU s2 h2=>?_)) λ_ s' q=>ak (ak q));obtain⟨it,fp,tn,J,H2,e,I2,T,u,f2,W,⟨m0,P⟩,d⟩:=h2;subst e;refine Dt (Q:=λx H1=>jj i x B H1 D.nx) K L p A I2 T u f2 P d λE0 C m H' s' hn f R q=>?_;refine wpAny_assign_Name (xR (v:=.ref E0) R hN E hx rfl (λs3 Y n=>?_) hf);obtain⟨a,sb,ha⟩:=n;have ne:C≠a:=by
  rcases ha with z|z
  .rw[z];exact f.2.1
  .exact λw=>f.2.2.2.2.1 y a z w.symm
 exact⟨m,hn.sameBut sb ne,λh' r=>⟨_,H',Y.turned (λb o Z e=>r.extBut b o Z e) f.1 f.2.1 f.2.2.2.1 f.2.2.2.2.1 f.2.2.2.2.2,q⟩⟩
end L2
namespace L2
open PySem PySem.Spec PyProof.Rows
section
variable {κ:Type}[DecidableEq κ]
noncomputable def Bb(a:List (κ×V))(k:κ):Option V:=(a.find? λb=>decide (b.1=k)).map (·.2)
noncomputable def sX(a:List (κ×V))(k:κ)(v:V):List (κ×V):=if (a.any λb=>decide (b.1=k))=true then a.map (λb=>if b.1=k then (b.1,v) else b) else a++[(k,v)]
def AO{k:κ}(e:p.1=k):Bb (p::r) k=some p.2:=by simp[Bb,List.find?_cons,e]
def AU{k:κ}(e:¬p.1=k):Bb (p::r) k=Bb r k:=by simp[Bb,List.find?_cons,e]
theorem Aj k:∀a:List (κ×V),(a.any λb=>decide (b.1=k))=(Bb a k).isSome
 |[]=>rfl
 |p::r=>by
  rw[bS];by_cases e:p.1=k
  .simp only[AO e,aB e,Bool.true_or,cj]
  .rw[AU e,aA e,Bool.false_or];exact Aj k r
def tR kvs (k:κ) v:(sX kvs k v).length<=kvs.length+1:=by
 unfold sX;split
 .rw[aw];omega
 .rw[aS,ay,cA];omega
def uq.isSome_eq(r:uq o u):o.isSome=u.isSome:=by
 cases o with
 |none=>cases u with
  |none=>rfl
  |some _=>exact (show False from r).elim
 |some _=>cases u with
  |none=>exact (show False from r).elim
  |some _=>rfl
def KV.any(r:KV kvs vs)(k:κ):(kvs.any λa=>decide (a.1=k))=vs.any λa=>decide (a.1=k):=by
 unfold KV at r;induction r with
 |nil=>rfl
 |cons h t ih=>rw[bS,bS,ih,h.1]
theorem KV.repl(r:KV kvs vs)(k:κ)(d:iw y u) :
  KV (kvs.map λa=>if a.1=k then (a.1,y) else a) (vs.map λa=>if a.1=k then (a.1,u) else a):=by
 unfold KV at r ⊢;induction r with
 |nil=>exact .nil
 |@cons p q ps qs h t ih=>
  rw[bE,bE];refine .cons ?_ ih;obtain⟨b,c⟩:=h;by_cases e:p.1=k
  .rw[aP e,aP (b.symm.trans e)];exact⟨b,d⟩
  .rw[aQ e,aQ (λz=>e (b.trans z))];exact⟨b,c⟩
def KV.put(r:KV kvs vs)(k:κ)(a:iw y u):KV (sX kvs k y) (stored vs k u):=by
 unfold sX stored;rw[r.any k];by_cases e:(vs.any λb=>decide (b.1=k))=true
 .rw[aP e,aP e];exact r.repl k a
 .rw[aQ e,aQ e];exact Paired.snoc r ⟨rfl,a⟩
def KV.length{a:List (κ×V)}(r:KV a vs):a.length=vs.length:=Paired.length r
end
def Ma(r:iw (kV k) u):(ki P w).is k u=true:=by
 cases k with
 |inl i=>obtain⟨t,e⟩:=(show ∃t,u=Value.int i t from r);subst e;exact A1 P w i t
 |inr x=>obtain⟨t,e⟩:=(show ∃t,u=Value.str x t from r);subst e;exact Ac P w x t
theorem yb:∀{ks} {us},gH (ks.map kV) us->ItemsAre (ki P w) ks us
 |[],_,r=>by rw[b4]at r;cases r;exact .nil
 |k::ks,_,r=>by
  rw[bE]at r;cases r with
  |cons h t=>exact .cons (Ma h) (yb t)
abbrev KT(H:Hp):List (List qH×V)->List (List qH×Addr×Value)->Prop:=Paired λp q=>p.1=q.1/\H q.2.1=some (.tup (p.1.map kV))/\iw p.2 q.2.2
def KT.val(r:KT H kvs xs) k:uq (Bb kvs k) ((atKey xs k).map (·.2)):=by
 induction r with
 |nil=>exact True.intro
 |@cons p q ps qs h t ih=>
  obtain⟨c,_,d⟩:=h;by_cases e:p.1=k
  .have a:q.1=k:=c.symm.trans e;have b:atKey (q::qs) k=some q.2:=by simp[atKey,List.find?_cons,a]
   rw[AO e,b];exact d
  .have a:¬q.1=k:=λz=>e (c.trans z);have b:atKey (q::qs) k=atKey qs k:=by simp[atKey,List.find?_cons,a]
   rw[AU e,b];exact ih
theorem KT.repl(r:KT H kvs xs) k (d:iw y u) :
  KT H (kvs.map λb=>if b.1=k then (b.1,y) else b) (xs.map (putAt k u)):=by
 induction r with
 |nil=>exact .nil
 |@cons p q ps qs h t ih=>
  rw[bE,bE];refine .cons ?_ ih;obtain⟨a,c,f⟩:=h;unfold putAt;by_cases e:p.1=k
  .rw[aP e,aP (a.symm.trans e)];exact⟨a,c,d⟩
  .rw[aQ e,aQ (λz=>e (a.trans z))];exact⟨a,c,f⟩
def KT.put(r:KT H kvs xs) k (c:H b=some (.tup (k.map kV))) (a:iw y u) :
  KT H (sX kvs k y) (storedH xs k b u):=by
 have e:(kvs.any λd=>decide (d.1=k))=(atKey xs k).isSome:=by rw[Aj,(r.val k).isSome_eq,Option.isSome_map]
 unfold sX storedH;rw[e];by_cases q:(atKey xs k).isSome=true
 .rw[aP q,aP q];exact r.repl k a
 .rw[aQ q,aQ q];exact Paired.snoc r ⟨rfl,c,a⟩
def KT.keeps(r:KT H kvs xs)(c:∀b a,H b=some (.tup a)->H' b=some (.tup a)):KT H' kvs xs:=Paired.mapP r λ_ _ z=>⟨z.1,c _ _ z.2.1,z.2.2⟩
section
variable {P:Program}{w:World}{H:Hp}{h:Heap}{a:Addr}
def Mi(ok:ph P w H h)(e:Rd H a u):jy P w H h a u:=e.ok ok
def Pj(ok:ph P w H h)(e:Rd H a (.dK kvs)):kvs.length<=sizeLine/\(a==sysModules)=false/\∃vs,KV kvs vs/\h.DictOf (ki P w) a vs:=show jy P w H h a (.dK kvs) from Mi ok e
def QU(ok:ph P w H h)(e:H a=some (.dK kvs)):kvs.length<=sizeLine/\(a==sysModules)=false/\∃vs,KV kvs vs/\h.DictOf (ki P w) a vs:=Pj ok (.inl e)
def Gy(ok:ph P w H h)(e:H a=some (.tup (ks.map kV))):(tupleKind (ki P w)).is h ks a:=by obtain⟨_,b,r,o,d,c,n,f,_⟩:=(show jy P w H h a (.tup (ks.map kV)) from ok a _ e);exact⟨o,b.toArray,n,d,c,f,by simpa using yb r⟩
theorem Qq(ok:ph P w H h)(e:Rd H a (.dT kvs)):kvs.length<=sizeLine/\(a==sysModules)=false/\
  ∃c,KT H kvs c/\h.DictOfH (tupleKind (ki P w)) a c:=by
 obtain⟨z,y,c,r,o,f,j,g,k,i,n,d⟩:=(show jy P w H h a (.dT kvs) from Mi ok e);refine⟨z,y,c,r,o,f,j,g,k,i,n,λx b=>?_,d⟩;have all:∀{l:List (List qH×V)} {m:List (List qH×Addr×Value)},KT H l m->∀x∈m,(tupleKind (ki P w)).is h x.1 x.2.1:=by
  intro l m q;induction q with
  |nil=>intro x b;exact nomatch b
  |@cons p q ps qs hq t ih=>
   intro x b;rcases aE.mp b with e|b
   .subst e;exact Gy ok (by rw[<-hq.1];exact hq.2.1)
   .exact ih x b
 exact all r x b
def Pp(ok:ph P w H h)(e:H a=some (.dT kvs)):kvs.length<=sizeLine/\(a==sysModules)=false/\
  ∃b,KT H kvs b/\h.DictOfH (tupleKind (ki P w)) a b:=Qq ok (.inl e)
end
def Hs(H:Hp)(a:Addr)(y v:V)(d:Hp):Prop:=
 (∃c k,H a=some (.dK c)/\y=kV k/\c.length<sizeLine/\d=ja H a (.dK (sX c k v)))\/
 ∃c k b,H a=some (.dT c)/\y=.ref b/\H b=some (.tup (k.map kV))/\c.length<sizeLine/\d=ja H a (.dT (sX c k v))
def Hs.t{H:Hp}{a b:Addr}{c:List (List qH×V)}{k:List qH}{v:V}(e:H a=some (.dT c))(d:H b=some (.tup (k.map kV)))(f:c.length<sizeLine) :
  Hs H a (.ref b) v (ja H a (.dT (sX c k v))):=.inr ⟨c,k,b,e,rfl,d,f,rfl⟩
section
variable {X:Cx}{fw:List (Addr×Obj)}{σ:St}{H:Hp}{s:Shared}{a:Addr}{y v:V}{u r:Vq}{o:Option V}{A:Around}{E:Vq->Shared->Prop}
def fV.big(I:fV X fw σ H s):sysModules<s.heap.objs.size:=by have h:mainGlobals<s.heap.objs.size:=(I.mod.glob.keeps I.bk).lt;exact Nat.lt_trans (by decide) h
def Dz(I:fV X fw σ H s)(f:QC (H a))(d:Heap.SameBut a s.heap h')(g:∃q,h'.get? a=some q)(new:jy X.prog X.w (ja H a ob) h' a ob) :
  fV X fw σ (ja H a ob) {s with heap:=h',toks:=t'}:=
 I.write (x:=a) (e:=a) f (.inl rfl) (λb q c z=>(d.2 b c).trans z) g new
def N4(z:kvs.length<=sizeLine)(c:(a==sysModules)=false)(b:KV kvs vs)(dd:h'.DictOf (ki P w) a vs) :
  jy P w H' h' a (.dK kvs):=⟨z,c,vs,b,dd⟩
def EX(hu:A.units+1<cLine)(I:fV X fw σ H s)(g:Hs H a y v H')(L:iw y u)(K:iw v r)(h:∀P,fV X fw σ H' P->Q () P) :
  wpAny (model X.prog X.w) A (setItem (.ref a) u r) Q E s:=by
 rcases g with⟨d,k,e,C,l,x⟩|⟨d,k,b,e,C,F,l,x⟩
 .subst C x;obtain⟨z,n,S,f,p⟩:=QU I.hok e;have D:S.length<=sizeLine:=by rw[<-f.length];exact z
  have m:(sX d k v).length<=sizeLine:=by have:=tR d k v;omega
  refine wpAny_setItem_pairs (hsz:=D) (Ma L) p λN i B=>h _ ?_;have he:∃q,N.get? a=some q:=let ⟨q,_,_,j,_⟩:=i;⟨q,j⟩;exact Dz I (by rw[e];exact True.intro) B he (N4 m n (f.put k K) i)
 .subst C x;cases (show u=Value.ref b from L);obtain⟨z,n,Y,f,p⟩:=Pp I.hok e;have D:Y.length<=sizeLine:=by rw[<-Paired.length f];exact z
  have m:(sX d k v).length<=sizeLine:=by have:=tR d k v;omega
  refine wpAny_setItem_heap (hsz:=D) (tupleKind_room_in1 hu) (Gy I.hok F) p λN i B=>h _ ?_;obtain⟨q,U,ep,j,h2,Z,h4,_,R⟩:=i;refine Dz I (by rw[e];exact True.intro) B ⟨q,j⟩ ⟨m,n,_,(f.put k F K).keeps λc ys J=>?_,q,U,ep,j,h2,Z,h4,R⟩;rw[fT (QH J e (λz=>nomatch z))];exact J
end
def Hg(h ty f:TE):TS:=λD b H=>f b H λv g=>h b g λx d=>ty b d λy e=>∃a c,x=.ref a/\Hs e a y v c/\D.nx b c
section
variable {X:Cx}{o i e value:Expr}{pos pos' tpos:Pos}{td ty tv:TE}
def KY(f:X.A.units+1<cLine)(k:PE X o td)(m:PE X i ty)(j:PE X value tv)(l:swapsWith value (some (.Subscript o i pos')) pos.line X.env=pure false) :
  PS X (.Assign [.Subscript o i pos'] value pos) (Hg td ty tv):=by
 intro c s b H D I h;refine wpAny_Assign_Subscript (jv (j c s b H _ I h) λr s1 ⟨v,H1,I1,rv,q1⟩=>jv (k c s1 b H1 _ I1 q1) λu s2 ⟨x,H2,I2,rx,q2⟩=>jv (m c s2 b H2 _ I2 q2) λiv s3 ⟨y,H3,I3,ry,a,H4,ex,g,q3⟩=>?_) l;subst ex;obtain rfl:u=Value.ref a:=rx;exact EX f I3 g ry rv λn d=>⟨b,H4,d,q3⟩
end
def HI(h:Heap)(a:sysModules<h.objs.size):jy P w H (h.push {cls:=.type "dict",data:=.dict #[]}) h.objs.size (.dK []):=⟨bG _,beq_eq_false_iff_ne.mpr (Ne.symm (aL a)),[],.nil,Heap.DictOf.new h⟩
def HQ(h:Heap)(a:sysModules<h.objs.size):jy P w H (h.push {cls:=.type "dict",data:=.dict #[]}) h.objs.size (.dT []):=⟨bG _,beq_eq_false_iff_ne.mpr (Ne.symm (aL a)),[],.nil,_,#[],0,ar _ rfl,⟨rfl,rfl,rfl⟩,rfl,rfl,List.nodup_nil⟩
def Hf:TE:=λ_ H Q=>∀p,H p=none->Q (.ref p) (ja H p (.dK []))
def BF:TE:=λ_ H Q=>∀p,H p=none->Q (.ref p) (ja H p (.dT []))
section
variable {X:Cx}{pos:Pos}
def HE:PE X (.Dict [] [] pos) Hf:=λc s b H Q I h=>wpAny_Dict_empty ⟨.ref s.heap.objs.size,_,I.laid (a:=s.heap.objs.size) (o:=.dK []) (t':=s.toks) (λ_ _ q=>ae _ q) (aJ _) (HI s.heap I.big),rfl,h _ (I.hok.fresh (aJ _))⟩
def Hq:PE X (.Dict [] [] pos) BF:=λc s b H Q I h=>wpAny_Dict_empty ⟨.ref s.heap.objs.size,_,I.laid (a:=s.heap.objs.size) (o:=.dT []) (t':=s.toks) (λ_ _ q=>ae _ q) (aJ _) (HQ s.heap I.big),rfl,h _ (I.hok.fresh (aJ _))⟩
end
end L2
namespace L2
open PySem PySem.Spec PyProof.Rows Builtin
def t8:fillsNumberSlot (.type "tuple") "mul" = pure false:=PySem.fillsNumberSlot_seq F.slot_tuple_mul.lookup (by decide +kernel) F.slot_tuple_rmul.lookup (by decide +kernel)
def zH:seqRepeat? (.type "tuple")=pure (some (.builtin "tuple.__mul__")):=by unfold seqRepeat?;rw[PySem.seqSlot_of (name:= "__mul__") F.slot_tuple_mul.lookup (by decide +kernel),PySem.seqSlot_of (name:= "__rmul__") F.slot_tuple_rmul.lookup (by decide +kernel)];rfl
def wm a t l dct its n sl :
  Meets (Builtin.«int.__rmul__» ⟨[.int a t,.ref l],[]⟩) (λ_ R s=>s.heap.get? l=some ⟨.type "tuple",dct,.seq its n,sl⟩/\R (.ok (.ret Value.notImplemented)) s):=
 .of_wp λb w A R s h=>by obtain⟨i,g,d,c,e⟩:=s;obtain⟨f,h⟩:=h;wp_walk;exact⟨_,rfl,h⟩
def wX a t l dct its n sl (C:-(2 ^ 63)<=a) (I:a<2 ^ 63) (m:its.size*a.toNat<=sizeLine) :
  Meets (Builtin.«tuple.__mul__» ⟨[.ref l,.int a t],[]⟩) (λ_ R s=>s.heap.get? l=some ⟨.type "tuple",dct,.seq its n,sl⟩/\((its.isEmpty=true\/a=1)->R (.ok (.ret (.ref l))) s)/\
   (¬(its.isEmpty=true\/a=1)->a<=0->R (.ok (.ret (.ref s.heap.objs.size))) {s with heap:=s.heap.push {cls:=.type "tuple",data:=.seq #[]}})/\
   (¬(its.isEmpty=true\/a=1)->0<a->R (.ok (.ret (.ref s.heap.objs.size))) {s with heap:=s.heap.push {cls:=.type "tuple",data:=.seq ((List.replicate a.toNat its).foldl (·++·) #[])}})):=
 .of_wp λk w A R s h=>by
  obtain⟨F,g,d,D,B⟩:=s;obtain⟨y,p,q,u⟩:=h;have v:¬(decide (a < -2 ^ 63)||decide (a >= 2 ^ 63))=true:=by simp;omega
  wp_walk;rw[aQ v];wp_walk;by_cases b:its.isEmpty=true\/a=1
  .rw[aP (by rcases b with c|c<;>simp[c])];wp_walk;exact⟨_,rfl,p b⟩
  .rw[aQ (by intro z;exact b (by simpa using z))];by_cases j:a<=0
   .rw[aP (by simp[j])];wp_walk;exact⟨_,rfl,q b j⟩
   .have x:¬its.isEmpty=true:=λz=>b (.inl z);have E:its.size*a<=sizeLine:=by
     have:((its.size*a.toNat:Nat):Int)<=sizeLine:=by exact_mod_cast m
     rw[Int.natCast_mul,cB (by omega)]at this;exact this
    have H:(sizeLine:Int)=2 ^ 24:=by decide
    rw[aQ (by simp[j,x]),aQ (by omega)];rw[aQ (by simp[Tuple.tupleTooMany];omega)];have o:(List.foldl (λf i=>f++i) #[] (List.replicate a.toNat its)).size<=sizeLine:=by
     have e:=qi its.toList a.toNat [];simp only[bY]at e;have r:List.foldl (λf i=>f++i) #[] (List.replicate a.toNat its)=(List.replicate a.toNat its.toList).flatten.toArray:=by simpa using e
     rw[r,bD,yZ,bZ];simpa using m
    wp_walk;exact⟨_,rfl,u b (by omega)⟩
section
variable {X:Cx}
def IH:R2:=λx y H Q=>∃l k a,x=.ref l/\y=.int k/\H l=some (.tup a)/\-(2 ^ 63)<=k/\k<2 ^ 63/\a.length*k.toNat<=sizeLine/\((a=[]\/k=1)->Q (.ref l) H)/\
 (¬(a=[]\/k=1)->∀p,H p=none->Q (.ref p) (ja H p (.tup (List.replicate k.toNat a).flatten)))
def Km:pR X (binaryOp .Mult) IH:=by
 intro fw s σ H x y v u Q I C S h;obtain⟨l,k,j,rfl,rfl,hH,N,Y,A,J,m⟩:=h;cases C;obtain⟨t,rfl⟩:=S;obtain⟨a,r,⟨⟨c,d,dt,p⟩,e,E,n,K⟩,_⟩:=I.tuple (mx.of hH);subst E;subst K;have D:=r.length;have R:a.toArray.size*k.toNat<=sizeLine:=by rw[bD,<-D];exact A
 have i:a.toArray.isEmpty=true↔j=[]:=by
  cases r with
  |nil=>simp
  |cons _ _=>simp
 have f:(a.toArray.isEmpty=true\/k=1)↔(j=[]\/k=1):=by rw[i]
 have g:List.foldl (λB L=>B++L) #[] (List.replicate k.toNat a.toArray)=(List.replicate k.toNat a).flatten.toArray:=by have:=qi a k.toNat [];rw[bY]at this;exact this
 have fr:=I.fresh;refine wpAny_binaryOp_repeat_ref (by decide) ⟨_,e,rfl⟩ (λZ=>typeIs_int Z k t) t8 F.fills_int_mul F.slot_int_rmul zH F.slot_int_index.lookup
  (call_meets F.slot_int_rmul (typeIs_int s k t) F.entry_int_rmul (F.args_int_rmul_2 _ _) (wm k t l d a.toArray n p)
   ⟨e,rfl,⟨_,e,rfl⟩,call_meets F.slot_tuple_mul ⟨_,e,rfl⟩ F.entry_tuple_mul (F.args_tuple_mul_2 _ _) (wX k t l d a.toArray n p N Y R) ⟨e,λz=>?_,λz w=>?_,λz w=>?_⟩⟩)
 .exact⟨.ref l,H,I,rfl,J (f.mp z)⟩
 .have P:k.toNat=0:=by omega
  have q:=m (λy=>z (f.mpr y)) s.heap.objs.size fr;rw[P]at q;exact⟨.ref _,_,I.laid (o:=.tup []) (λb U q=>ae _ q) (aJ _) ⟨bG _,[],.nil,vm.new _ _⟩,rfl,q⟩
 .rw[g];refine⟨.ref _,_,I.laid (o:=.tup (List.replicate k.toNat j).flatten) (λb U q=>ae _ q) (aJ _) ⟨?_,_,r.rep k.toNat,vm.new _ _⟩,rfl,m (λy=>z (f.mpr y)) _ fr⟩;rw[yZ,bZ];exact A
def AK:V->Option Bool
 |.bl b=>some b
 |.int i=>some (i != 0)
 |_=>none
def mj:List V->Option (List Bool)
 |[]=>some []
 |v::vs=>(AK v).bind λb=>(mj vs).bind λr=>some (b::r)
theorem xX:∀{vs} {bs} {us} {i} {u},mj vs=some bs->gH vs us->us[i]? = some u->∃v,iw v u/\AK v=some (bs.getD i false)
 |[],_,_,_,_,_,.nil,e=>by simp at e
 |v::vs,bs,_,i,u,h,.cons r t,e=>by
  cases c:AK v with
  |none=>simp[mj,c]at h
  |some b=>
   cases hr:mj vs with
   |none=>simp[mj,c,hr]at h
   |some r'=>
    simp[mj,c,hr]at h;subst h;cases i with
    |zero=>simp at e;subst e;exact⟨v,r,by simpa using c⟩
    |succ i=>obtain⟨f,a,d⟩:=xX hr t (by simpa using e);exact⟨f,a,by simpa using d⟩
theorem yc:∀{vs} {bs},mj vs=some bs->vs.length=bs.length
 |[],_,h=>by cases h;rfl
 |v::vs,bs,h=>by
  cases a:AK v with
  |none=>simp[mj,a]at h
  |some b=>
   cases hr:mj vs with
   |none=>simp[mj,a,hr]at h
   |some r'=>simp[mj,a,hr]at h;subst h;simp[yc hr]
def vz(h:mj vs=some bs)(r:gH vs us):TruthOf prog w A (λi v=>us.toArray[i]? = some v) (λi=>bs.getD i false):=λi u s Q E e a=>by
 obtain⟨v,d,c⟩:=xX h r (by simpa using e);dsimp only at a;cases v with
 |bl b=>
  cases d;have:b=bs.getD i false:=by simpa[AK] using c
  rw[<-this]at a;exact wpAny_truthy_bool a
 |int n=>
  obtain⟨t,rfl⟩:=d;have:(n != 0)=bs.getD i false:=by simpa[AK] using c
  rw[<-this]at a;exact PyProof.Rows.truthy_int a
 |_=>simp[AK]at c
def Fm(m:X.calm=true):kj X (.builtin "any") (λn H Q=>∃p vs bs,n=[.ref p]/\(lg X.K H p vs\/mx X.K H p vs)/\mj vs=some bs/\Q (.bl (bs.any id)) H):=by
 intro E s D H n F Q I r h;obtain⟨p,vs,bs,rfl,g,a,q⟩:=h;obtain⟨u,rfl,v⟩:=pH r;cases v;have y:=yc a;rcases g with g|g
 .obtain⟨d,j,f,C⟩:=I.list g;have B:=j.length;have c:p<s.heap.objs.size:=by obtain⟨_,e,_⟩:=f.isList;exact aK e
  refine call_any_walk (wpAny_pyIter_list f.isList ⟨s.heap.objs.size,_,_,_,_,_,λi=>bs.getD i false,rfl,Walks.list (A:=X.A.in1) (I.ok.hd m) _ p (aL c) _,⟨⟨_,ar _ rfl,rfl,rfl⟩,f.isList.push _⟩,vz a j,λx w k=>?_⟩);refine⟨.bl _,H,I.kept (λb o e=>k b o (λl=>?_) (ae _ e)),rfl,?_⟩
  .have lt:=aK e;have z:b=s.heap.objs.size:=by simpa using l
   rw[z]at lt;exact aZ _ lt
  .rw[<-yj]at q;have:d.toArray.size=bs.length:=by rw[bD];omega
   rw[this];exact q
 .obtain⟨d,j,f,C⟩:=I.tuple g;have B:=j.length;have c:p<s.heap.objs.size:=by obtain⟨_,e,_⟩:=f;exact aK e
  have pt:=f;refine call_any_walk (wpAny_pyIter_tuple pt ⟨s.heap.objs.size,_,_,_,_,_,λi=>bs.getD i false,rfl,Walks.tuple (A:=X.A.in1) (I.ok.hd m) _ p (aL c) _,⟨⟨_,ar _ rfl,rfl,rfl⟩,pt.push _⟩,vz a j,λx w k=>?_⟩);refine⟨.bl _,H,I.kept (λb o e=>k b o (λl=>?_) (ae _ e)),rfl,?_⟩
  .have lt:=aK e;have z:b=s.heap.objs.size:=by simpa using l
   rw[z]at lt;exact aZ _ lt
  .rw[<-yj]at q;have:d.toArray.size=bs.length:=by rw[bD];omega
   rw[this];exact q
end
end L2
namespace L2
open PySem PySem.Spec PyProof.Rows
section
variable {prog:Program}{w:World}{A:Around}{E:Vq->Shared->Prop}{s:Shared}
def EL{i:Nat}{Q:Vq->Shared->Prop}(I:IsEnum s.heap e it i old)(hi:kq b s.heap it l i)(hl:iQ b s.heap l xs)(j:e≠it)
  (y:∀x h,xs[i]? = some x->IsEnumOut h e it ((i:Int)+1) x s.heap.objs.size->kq b h it l (i+1)->h.get? s.heap.objs.size=some {cls:=.type "tuple",data:=.seq #[.int i s.toks,x]}->h.objs.size=s.heap.objs.size+1->
   (∀c o,c≠e->c≠it->s.heap.get? c=some o->h.get? c=some o)->Q (.ref s.heap.objs.size) {s with heap:=h,toks:=s.toks+1})
  (no:xs[i]? = none->A.handled=none/\∀h x,Heap.ExtBut it s.heap h->(∃o,h.get? x=some o/\o.cls=.type "StopIteration")->E (.ref x) {s with heap:=h}) :
  wpAny (model prog w) A (Builtin.«enumerate.__next__» ⟨[.ref e],[]⟩) (λB s'=>∃v,B=.done (.ret v)/\Q v s') E s:=by
 obtain⟨S,g,d,R,os⟩:=s;show wpAny _ _ (field (.ref e) 2 >>= λ_=>_) _ _ _;refine ao (wpAny_field I rfl rfl (ao (rQ hi hl (λx g1 hx Y k1=>?_) no)));have k:=k1;have F:=(k.2 e j).trans I;refine ao (wpAny_field F rfl rfl ?_);refine ao (wpAny_field F rfl rfl ?_);refine ao (wpAny_mkInt (ao (wpAny_setField_rec F (by simp) λg2 y2 r=>?_)));have X:=y2;refine ao (wpAny_setField_rec X (by simp) λm y3 z=>?_);have z3:=y3;refine ao (wpAny_newTuple ?_);have sz:m.objs.size=S.objs.size:=by have a:=z.1;have c:=r.1;have u:=k.1;dsimp only at a c u;omega
 have D:IsEnum (m.push {cls:=.type "tuple",data:=.seq #[.int i R,x]}) e it (i+1) old:=ae _ z3;have el:=aK I;have H:∀c o,c≠e->c≠it->S.get? c=some o->m.get? c=some o:=λc o f C q=>z.extBut c o f (r.extBut c o f (k.extBut c o C q));unfold Builtin.SmallTypes.ownedTupleIsFree;refine ao (ao (wpAny_field D rfl rfl (ak ?_)));simp only[if_true];refine ao (wpAny_rule (ao (wpAny_field D rfl rfl (ao (wpAny_setField_rec D (by simp) λg5 y5 P=>?_)))));have z5:=y5;unfold Builtin.SmallTypes.ownedTupleHandOut;refine ao (ao (wpAny_setField_rec z5 (by simp) λg6 U L=>?_));have Z:=U;refine wpAny_setField_rec Z (by simp) λp y7 J=>?_;have K:=y7;have up:∀c o,c≠e->(m.push {cls:=.type "tuple",data:=.seq #[.int i R,x]}).get? c=some o->p.get? c=some o:=λc o f q=>J.extBut c o f (L.extBut c o f (P.extBut c o f q));have n:∀c o,c≠e->m.get? c=some o->p.get? c=some o:=λc o f q=>up c o f (ae _ q);have tp:=up _ _ (by rw[sz];exact bz el) (ar _ rfl);have N:p.objs.size=m.objs.size+1:=by have a:=J.1;have c:=L.1;have u:=P.1;dsimp only at a c u;rw[Heap.size_push]at u;omega
 refine ao (wpAny_letGo (ak ⟨_,rfl,?_⟩));rw[sz]at K tp N ⊢;exact y x p hx K (Y.to λo q=>n it o (Ne.symm j) (z.extBut it o (Ne.symm j) (r.extBut it o (Ne.symm j) q))) tp N λc o f C q=>n c o f (H c o f C q)
def sZ{i:Nat}(h:IsEnum s.heap e it i old)(u:kq b s.heap it l i)(p:iQ b s.heap l xs)(f:e≠it)
  (d:∀x a,xs[i]? = some x->IsEnumOut a e it ((i:Int)+1) x s.heap.objs.size->kq b a it l (i+1)->a.get? s.heap.objs.size=some {cls:=.type "tuple",data:=.seq #[.int i s.toks,x]}->a.objs.size=s.heap.objs.size+1->
   (∀c o,c≠e->c≠it->s.heap.get? c=some o->a.get? c=some o)->Q (some (.ref s.heap.objs.size)) {s with heap:=a,toks:=s.toks+1})
  (g:xs[i]? = none->A.handled=none/\∀a,Heap.ExtBut it s.heap a->Q none {s with heap:=a}):wpAny (model prog w) A (pyNext (.ref e)) Q E s:=by
 have ty:s.TypeIs (.ref e) "enumerate" :=⟨_,h,rfl⟩;unfold pyNext;refine ao (wpAny_attempt (wpAny_callSpecial?_slot ty F.slot_enumerate_next (wpAny_call_entry F.slot_enumerate_next ty F.entry_enumerate_next
  (EL h u p f (λx a j m k v n r=>ak (d x a j m k v n r)) λq=>⟨(g q).1,λa x hk ⟨o,ho,hc⟩=>?_⟩) (F.args_enumerate_next_1 _))))
 exact ao (wpAny_isInstance ⟨o,ho,hc⟩ isSubtype_stop (ak ((g q).2 a hk)))
noncomputable abbrev eo(b:Bool)(l:Addr):Obj:={cls:=.type (vA b),data:=.fields #[.ref l,.int 0 0]}
abbrev en(p:Addr):Obj:={cls:=.type "enumerate",data:=.fields #[.none,.bool false,.ref p,rawInt 0,.none,.none]}
def Bv b l xs:Meets (Builtin.«enumerate.__new__» ⟨[.type "enumerate",.ref l],[]⟩) (λ_ R s=>iQ b s.heap l xs/\
  R (.ok (.ret (.ref (s.heap.push (eo b l)).objs.size))) {s with heap:=(s.heap.push (eo b l)).push (en s.heap.objs.size)}):=by
 refine .of_wp λprog w A R s h=>?_;obtain⟨q,g,d,p,k⟩:=s;obtain⟨i,e⟩:=h;have f:=sub_enumerate;have a:=i;obtain⟨o,n,j,m⟩:=a.look;wp_walk using nQ a;refine wpAny_stack_any λr=>ak ?_;split
 .rename_i c _ _ _ _ _;cases (c==Value.type "enumerate")
  .wp_walk using nQ a;exact⟨_,rfl,e⟩
  .wp_walk using nQ a;exact⟨_,rfl,e⟩
 .wp_walk using nQ a;exact⟨_,rfl,e⟩
def yd(g:iQ b s.heap l xs)
  (h:∀a,IsEnum a (s.heap.objs.size+1) s.heap.objs.size 0 .none->kq b a s.heap.objs.size l 0->a.objs.size=s.heap.objs.size+2->(∀c o,s.heap.get? c=some o->a.get? c=some o)->Q (.ref (s.heap.objs.size+1)) {s with heap:=a}) :
  wpAny (model prog w) A (call (.type "enumerate") [.ref l]) Q E s:=by
 refine callType_new F.called_enumerate (by decide) (F.typeCall_enumerate_1 _) (F.newCall_enumerate_1 _) (λf=>F.args_object_init_2 f _) F.entry_enumerate_new (Bv b l xs) ⟨g,?_⟩;have d:(s.heap.push (eo b l)).objs.size=s.heap.objs.size+1:=Heap.size_push ..;have e:=ar (s.heap.push (eo b l)) (o:=en s.heap.objs.size) rfl;rw[d]at e;rw[d];exact⟨⟨_,e,rfl⟩,h _ e (.of ⟨_,ae _ (ar _ rfl),rfl,rfl⟩) (by rw[Heap.size_push,d]) λc o q=>ae _ (ae _ q)⟩
end
noncomputable def Rz(K:W.Frag)(b:Bool)(l:Addr):It:=
  ⟨λi H=>∃a x,uc K H b l a/\a[i]? = some x,
   λi H v c=>∃p x,v=.ref p/\H p=none/\c=ja H p (.tup [.int i,x])/\∀a,uc K H b l a->a[i]? = some x,
   λi H=>∃a,uc K H b l a/\a.length<=i⟩
def EE{K:W.Frag}{x1}(n:e≠it) :
  AV P w K (.Tuple elts x1 pos) (Rz K b l) [e,it] e (λi h=>(∃a,IsEnum h e it i a)/\kq b h it l i) where
 mem:=by simp
 obj:=λi h j c F=>by
  obtain⟨⟨a,g⟩,m⟩:=j;have mem:c=e\/c=it:=by simpa using F
  rcases mem with rfl|rfl
  .exact⟨_,g,λv q=>by cases q⟩
  .obtain⟨o,q,_,d⟩:=m.look;exact⟨o,q,λv q'=>by rw[d]at q';cases q'⟩
 keep:=λi h Y j k=>by obtain⟨⟨a,g⟩,m⟩:=j;exact⟨⟨a,k e (by simp) _ g⟩,m.to λo q=>k it (by simp) o q⟩
 item:=by
  intro X U hw N F i fw s σ H E I L j R;subst U hw N;obtain⟨⟨a,g⟩,m⟩:=j;obtain⟨xs,x,D,e1⟩:=R;obtain⟨C,Q,Z,z1⟩:=I.seqB D;obtain⟨u,gu,ru⟩:=Q.get e1;have y:=I.fpOk (aJ _) (I.hok.fresh (aJ _));refine sZ g m Z n (λB Y p a1 a2 a3 a4 J=>?_) λq=>?_
  .have eu:B=u:=by
    have:C[i]? = some B:=by simpa using p
    rw[gu]at this;cases this;rfl
   subst eu;refine⟨_,rfl,wpAny_letOwnedTupleGo_enum a1 λS A sb=>?_⟩;have r:=sb;have zT:=bz (aK g);have I1:=I.turnedL (t':=s.toks+1) (λb o f q=>r.extBut _ _ (λz=>f (by simp[z])) (J b o (λz=>f (by simp[z])) (λz=>f (by simp[z])) q)) (λb f=>L b f);have gT:=r.extBut _ _ zT a3;have I2:fV X fw σ (ja H s.heap.objs.size (.tup [.int i,x])) {s with heap:=S,toks:=s.toks+1}:=I1.track y.1 y.2.2.2.1 y.2.1 y.2.2.2.2.1 y.2.2.2.2.2
    ⟨by show 2<=sizeLine;decide,[.int i s.toks,B],.cons ⟨_,rfl⟩ (.cons ru .nil),⟨_,gT,rfl,_,rfl,rfl⟩⟩
   have lt:∀{b o},s.heap.get? b=some o->ja H s.heap.objs.size (.tup [.int i,x]) b=H b:=λ{b o} q=>fT (aL (aK q));refine⟨.ref s.heap.objs.size,_,I2,rfl,⟨_,x,rfl,y.1,rfl,λxs' h=>by rw[I.seqB_inj h D];exact e1⟩,?_,λb f=>?_⟩
   .exact⟨⟨_,A⟩,a2.to λo q=>r.extBut _ o (Ne.symm n) q⟩
   .have mem:b=e\/b=it:=by simpa using f
    have hn:=(L b f).1;obtain⟨o1,g1,_⟩:=m.look;rcases mem with rfl|rfl
    .rw[lt g];exact hn
    .rw[lt g1];exact hn
  .exfalso;have m1:C.toArray[i]? = some u:=by simpa using gu
   rw[m1]at q;cases q
 done:=by
  intro X U hw N F i fw s σ H E I L j R;subst U hw N;obtain⟨⟨a,g⟩,m⟩:=j;obtain⟨xs,D,hl⟩:=R;obtain⟨C,Q,Z,z1⟩:=I.seqB D;have n1:=Q.length;refine sZ g m Z n (λB Y p a1 a2 a3 a4 J=>?_) λq=>⟨I.ok.hd F,λY J=>⟨rfl,I.turnedL (ch:=[it]) (λb o f q=>J b o (λz=>f (by simp[z])) q) λb f=>L b (by
   have:b=it:=by simpa using f
   simp[this])⟩⟩
  exfalso;have m1:i<C.length:=by
   have:C[i]? = some B:=by simpa using p
   exact (aa.mp this).1
  omega
 self:=λ_ _ _ _ _ j h=>by obtain⟨⟨a,g⟩,_⟩:=j;exact wpAny_pyIter_enum g h
section
variable {X:Cx}
def Gx(K:W.Frag)(b:Bool)(d:TA):TI:=λe H R=>d e H λc a=>∃l,c=[.ref l]/\(∃f,uc K a b l f)/\R (Rz K b l) a
def FZ{x1}(n:Gl X "enumerate")(z:X.mg "enumerate" = none)(w:PA X [a] ta)(A:starEach [a] X.env=[(false,eval a X.env)]:=by rfl) :
  PI X (.Tuple elts x1 tpos) (.Call (.Name "enumerate" p) [a] [] pos) (Gx X.K b ta):=by
 intro j s i H R I h;refine Call_ (ot I n z boot_enumerate (PyProof.Rows.callWith_type1 (jv (w pos j s i H _ I h) λx s1 ⟨vs,H1,I1,r1,c⟩=>?_) A rfl));obtain⟨l,rfl,⟨B,c⟩,q⟩:=c;obtain⟨u,rfl,g⟩:=pH r1;cases g;obtain⟨x,m,y,_⟩:=I1.seqB c;refine yd y λC f r k v=>?_;refine wpAny_pyIter_enum f ?_;refine⟨_,_,_,_,H1,rfl,I1.kept v,EE (Nat.succ_ne_self _),⟨⟨_,f⟩,r⟩,λb o=>?_,q⟩;have d:b=s1.heap.objs.size+1\/b=s1.heap.objs.size:=by simpa using o
 have e:s1.heap.objs.size<=b:=by rcases d with rfl|rfl<;>omega
 exact I1.fpOk e (I1.hok.fresh e)
end
end L2
namespace HT
open PySem PySem.Spec PyProof.Rows
section
variable {prog:Program}{w:World}{A:Around}{E:Vq->Shared->Prop}{s:Shared}
def getItem_tuple_all{a d:Option Int}(b:IsTup s.heap t items)(i:s.heap.IsSliceOf sl vl vu .none)(m:IsPart vl a)(j:IsPart vu d)
  (hw:sIx items.size 0 a=0/\sIx items.size items.size d=items.size) (h:Q (.ref t) s):wpAny (model prog w) A (getItem (.ref t) (.ref sl)) Q E s:=by
 obtain⟨k,g,e,l⟩:=id i;have f:s.TypeIs (.ref sl) "slice" :=⟨k,g,e⟩;unfold getItem;try with_reducible refine wpAny_holding ?_;first|refine ao (ak ?_)|skip
 refine ao (wpAny_sequenceKey b.typeIs (by decide) ?_);refine ao (wpAny_callSpecial?_slot b.typeIs PyProof.Rows.slot_tuple_getitem
  (wpAny_call_entry PyProof.Rows.slot_tuple_getitem b.typeIs entry_tuple_getitem ?_ (args_tuple_getitem _ _)))
 show wpAny _ _ (Builtin.Tuple.tupleItemsOf (.ref t) >>= _) _ _ s;refine ao (tupleItemsOf_ b ?_);refine ao (wpAny_typeOf f ?_);rw[aP (by decide)];refine ao (om i m j ?_);have c:(((sIx items.size 0 a):Int)==0&&(1:Int)==1&&(sIx items.size items.size d-sIx items.size 0 a)==items.size)=true:=by rw[hw.1,hw.2];simp
 show wpAny _ _ (if (((sIx items.size 0 a):Int)==0&&1==1&&(sIx items.size items.size d-sIx items.size 0 a)==items.size)=true then _ else _) _ _ s;rw[aP c];refine ao (ao (wpAny_typeOf b.typeIs (ak ?_)));rw[aP (by decide)];refine ao (wpAny_rule ?_);exact ak ⟨_,rfl,ak h⟩
end
end HT
namespace L2
open PySem PySem.Spec PyProof.Rows
section
variable {X:Cx}
def Qf(K:W.Frag):V->Option Int->Option Int->Hp->VK->Prop:=λx c d H Q=>∃a b,x=.ref a/\mx K H a b/\(HT.sIx b.length 0 c=0/\HT.sIx b.length b.length d=b.length)/\Q (.ref a) H
def Ld:L9 X (Qf X.K):=by
 intro n s m H x v w l o u p Q I d k e g h;obtain⟨a,f,rfl,i,hw,q⟩:=h;cases d;obtain⟨b,r,c,y⟩:=I.tuple i;have j:b.toArray.size=f.length:=by rw[bD];exact r.length.symm
 refine⟨"tuple",_,PyProof.Rows.slot_tuple_getitem.lookup,c.typeIs,?_⟩;exact HT.getItem_tuple_all c k e g (by rw[j];exact hw) ⟨.ref a,H,I,rfl,q⟩
end
end L2
namespace L2
open PySem PySem.Spec PyProof.Rows
section
variable {prog:Program}{w:World}{A:Around}{E:Vq->Shared->Prop}{s:Shared}{d it:Addr}{es:Array DictEntry}{ep i:Nat}
def tm(h:Heap)(d:Addr)(es:Array DictEntry)(ep:Nat):Prop:=∃o,h.get? d=some o/\o.ExactDict/\o.data=.dict es ep
def tm.to(x:tm h d es ep)(k:∀o,h.get? d=some o->h'.get? d=some o):tm h' d es ep:=let ⟨o,a,r⟩:=x;⟨o,k o a,r⟩
def tm.lt(x:tm h d es ep):d<h.objs.size:=let ⟨_,a,_⟩:=x;aK a
def tm.ty(x:tm s.heap d es ep):s.TypeIs (.ref d) "dict" :=let ⟨o,a,c,_⟩:=x;⟨o,a,c.1⟩
def HG(e:(d==sysModules)=false)(x:tm s.heap d es ep)
  (q:Q (.ref s.heap.objs.size) {s with heap:=s.heap.push {cls:=.type "dict_keyiterator",data:=.fields #[.ref d,.int 0 0,.int es.size 0,.int ep 0]}}):wpAny (model prog w) A (pyIter (.ref d)) Q E s:=by
 obtain⟨o,a,c,b⟩:=id x;refine wpAny_pyIter_slot x.ty F.slot_dict_iter (wpAny_call_entry F.slot_dict_iter x.ty F.entry_dict_iter ?_ (F.args_dict_iter_1 _));unfold Builtin.«dict.__iter__»;refine ao ?_;unfold Builtin.Dict.dictSlotNone;refine ao (wpAny_notOrdered_dict x.ty ?_);show wpAny _ _ (pure (Value.ref d)) _ _ s;refine ak ?_;show wpAny _ _ (Builtin.Dict.showsAll d >>= λ_=>_) _ _ s;unfold Builtin.Dict.showsAll;rw[aQ (by rw[e];exact λz=>nomatch z)];refine ao (ak (ao (wpAny_dictEntries a b (ao (wpAny_dictEpoch a b ?_)))));refine ao (wpAny_newObj_type (ak ⟨_,rfl, "dict_keyiterator",_,⟨_,ar _ rfl,rfl⟩,F.slot_dict_keyiterator_next.lookup,?_⟩));simpa[rawInt] using q
def Nv(j:s.heap.IsKeyIter it d i es.size ep)(x:tm s.heap d es ep) hi
  (q:∀f,f.IsKeyIter it d (i+1) es.size ep->Heap.SameBut it s.heap f->Q (some es[i].key) {s with heap:=f}):wpAny (model prog w) A (pyNext (.ref it)) Q E s:=by
 obtain⟨o,a,c,b⟩:=id j;obtain⟨m,g,l,k⟩:=id x;have e:Builtin.Dict_items.ownsTuple "dict_keyiterator" = false:=by decide
 unfold pyNext;refine ao (wpAny_attempt (wpAny_callSpecial?_slot j.typeIs F.slot_dict_keyiterator_next (wpAny_call_entry F.slot_dict_keyiterator_next j.typeIs F.entry_dict_keyiterator_next ?_ (F.args_dict_keyiterator_next_1 _))));refine ao (ak (ao (ao ?_)));first|refine ao (wpAny_typeNameOfWhole_keyiter j.typeIs (ak (ao (wpAny_fieldsOf a b ?_))))|refine ao (wpAny_typeNameOf_keyiter j.typeIs (ak (ao (wpAny_fieldsOf a b ?_))))
 simp only[e,b8,if_false];show wpAny _ _ (if (Value.ref d==Value.none)=true then _ else _) _ _ s;rw[aQ (λz=>nomatch z)];refine ao (ak (ao (wpAny_dictEntries g k ?_)));rw[aQ (by simp)];refine ao (ak (ao (wpAny_dictEpoch g k ?_)));rw[aQ (by simp)];refine ak ?_;simp only[show ¬(i<0) from by omega,if_false,bN,Array.getElem?_eq_getElem hi];refine ao ?_;first|refine ao (wpAny_typeNameOfWhole_keyiter j.typeIs (ak (ao (wpAny_isOneOf_keyiter j.typeIs ?_))))|refine ao (wpAny_typeNameOf_keyiter j.typeIs (ak (ao (wpAny_isOneOf_keyiter j.typeIs ?_))))
 show wpAny _ _ (setField (.ref it) 1 (rawInt (i+1)) >>= λ_=>_) _ _ s;refine ao (wpAny_setField a b (by simp) ?_);have h:(s.heap.update it (Obj.mapFields (·.setIfInBounds 1 (rawInt (i+1))))).IsKeyIter it d (i+1) es.size ep:=⟨_,Heap.get?_update_self _ a (Obj.isFreed_of_fields (Obj.data_mapFields b _)),(Obj.cls_mapFields ..).trans c,by rw[Obj.data_mapFields b];simp[rawInt]⟩
 refine ao (wpAny_holding (ao (wpAny_isOneOf_keyiter h.typeIs ?_)));exact ak (ak ⟨_,rfl,ak (q _ h (Heap.SameBut.update ..))⟩)
def KU(k:A.handled=none)(j:s.heap.IsKeyIter it d es.size es.size ep)(x:tm s.heap d es ep)(q:∀g,Heap.ExtBut it s.heap g->Q none {s with heap:=g}) :
  wpAny (model prog w) A (pyNext (.ref it)) Q E s:=by
 obtain⟨o,a,c,b⟩:=id j;obtain⟨m,f,l,h⟩:=id x;have e:Builtin.Dict_items.ownsTuple "dict_keyiterator" = false:=by decide
 unfold pyNext;refine ao (wpAny_attempt (wpAny_callSpecial?_slot j.typeIs F.slot_dict_keyiterator_next (wpAny_call_entry F.slot_dict_keyiterator_next j.typeIs F.entry_dict_keyiterator_next ?_ (F.args_dict_keyiterator_next_1 _))));refine ao (ak (ao (ao ?_)));first|refine ao (wpAny_typeNameOfWhole_keyiter j.typeIs (ak (ao (wpAny_fieldsOf a b ?_))))|refine ao (wpAny_typeNameOf_keyiter j.typeIs (ak (ao (wpAny_fieldsOf a b ?_))))
 simp only[e,b8,if_false];show wpAny _ _ (if (Value.ref d==Value.none)=true then _ else _) _ _ s;rw[aQ (λz=>nomatch z)];refine ao (ak (ao (wpAny_dictEntries f h ?_)));rw[aQ (by simp)];refine ao (ak (ao (wpAny_dictEpoch f h ?_)));rw[aQ (by simp)];refine ak ?_;simp only[show ¬(es.size<0) from by omega,if_false,bN,Array.getElem?_eq_none (aJ es.size)];refine ao ?_;first|refine ao (wpAny_typeNameOfWhole_keyiter j.typeIs (ak ?_))|refine ao (wpAny_typeNameOf_keyiter j.typeIs (ak ?_))
 show wpAny _ _ (setField (.ref it) 0 .none >>= λ_=>_) _ _ s;refine ao (wpAny_setField a b (by simp) ?_);refine ao ?_;simp only[newExc,newTuple];refine ao (wpAny_newObj_type ?_ (by size_fits));refine ao (wpAny_of_eq (by first|rfl|(simp only[firstArgMember];rfl)) ?_);refine wpAny_newObj_type ?_ (by size_fits);simp only[raiseNew];refine ao (wpAny_handled ?_);rw[show A.in1.handled=none from k];refine ao (ak (wpAny_throw ?_));refine ao (wpAny_isInstance ⟨_,ar _ rfl,rfl⟩ isSubtype_stop ?_);exact ak (q _ (((Heap.SameBut.update ..).extBut.push _).push _))
def Em(g:A.handled=none) I d (ne:d≠I) es ep :
  Walks prog w A I [I,d] [I] es.size (λi v=>∃e,es[i]? = some e/\v=e.key) (λi h=>h.IsKeyIter I d i es.size ep/\tm h d es ep) where
 sub:=λb a=>by simp at a;simp[a]
 frame:=λ_ _ _ x k=>⟨x.1.at λo e=>k I (by simp) o e,x.2.to λo e=>k d (by simp) o e⟩
 item:=λi s Q E f x q=>Nv x.1 x.2 f λc j k=>q _ c s.toks ⟨es[i],by simp[f],rfl⟩ ⟨j,x.2.to λo e=>k.extBut d o ne e⟩ λb o a e=>k.extBut b o (λz=>a (by simp[z])) e
 done:=λs Q E x q=>KU g x.1 x.2 λc k=>q c s.toks λb o a e=>k b o (λz=>a (by simp[z])) e
 self:=λ_ _ _ _ x q=>wpAny_pyIter_keyiter x.1 q
def K4(a:(d==sysModules)=false):W.KdlSrc prog w "dict" d d es.size (λi v=>∃e,es[i]? = some e/\v=e.key) (λh=>tm h d es ep) where
 type:=λ_ x=>x.ty
 there:=λ_ x=>⟨x.lt,x.lt⟩
 keep:=λ_ _ x k=>x.to λo e=>k d (.inl rfl) o e
 notList:=by decide
 notTuple:=by decide
 hint:=λ_ _ _ _ x q=>W.kdl_hint_dict x.ty q
 iter:=λ_ _ b x=>⟨_,_,(λ_ _ q=>HG a x q),Em b _ d (aL x.lt) es ep,⟨⟨_,ar _ rfl,rfl,rfl⟩,x.to λo e=>ae _ e⟩⟩
end
theorem pG:∀{xs} {us},xs.length=us.length->(∀(i:Nat) v,us[i]? = some v->∃x,xs[i]? = some x/\iw x v)->gH xs us
 |[],[],_,_=>.nil
 |x::xs,u::us,hl,h=>by obtain⟨b,e,r⟩:=h 0 u rfl;simp at e;subst e;exact .cons r (pG (by simpa using hl) λi v a=>by simpa using h (i+1) v (by simpa using a))
theorem sG{F:α->β->Prop}:∀{l:List α} {m:List β} {i:Nat} {a:α},Paired F l m->l[i]? = some a->∃b,m[i]? = some b/\F a b
 |_::_,_::_,0,_,.cons h _,e=>by simp at e;subst e;exact⟨_,rfl,h⟩
 |_::_,_::_,i+1,_,.cons _ r,e=>by simpa using sG r (by simpa using e)
section
variable {X:Cx}
theorem CI(Y:X.calm=true):kj X (.type "list") (λD H Q=>∃a c,D=[.ref a]/\H a=some (.dT c)/\∀(l:Addr) (bs:List Addr),H l=none->bs.length=c.length->
  (∀(i:Nat) (b:Addr),bs[i]? = some b->∃k v,c[i]? = some (k,v)/\H b=some (.tup (k.map kV)))->Q (.ref l) (ja H l (.lst (bs.map V.ref)))):=by
 intro fw s σ H D us Q I r h;obtain⟨a,c,rfl,e,q⟩:=h;obtain⟨u,rfl,R⟩:=pH r;cases R;obtain⟨z,Z,j,E,o,B,ep,P,ex,dt,J,nd⟩:=(I.hok a _ e);have sz:B.size=j.length:=by rw[<-bx,J,aw]
 have p:=Paired.length E;refine W.kdl_call (K4 Z) (I.ok.hd Y) (⟨o,P,ex,dt⟩:tm s.heap a B ep) (by rw[sz,<-p];exact z) λh' tk d S N U f=>?_;have C:∀(i:Nat) v,d[i]? = some v->∃y,j[i]? = some y/\v=.ref y.2.1:=λi v A=>by
  obtain⟨en,h1,h2⟩:=f.2 i v A;have m:B.toList[i]? = some en:=by simpa using h1
  rw[J,av]at m;cases g:j[i]? with
  |none=>rw[g]at m;cases m
  |some y=>rw[g]at m;cases m;exact⟨y,rfl,h2⟩
 have al:d.size=j.length:=by rw[<-sz];exact f.1
 have L:gH ((j.map λy=>y.2.1).map V.ref) d.toList:=by refine pG (by simp[al]) λi v A=>?_;obtain⟨y,x,K⟩:=C i v (by simpa using A);exact⟨.ref y.2.1,by simp[x],by rw[K];rfl⟩
 refine⟨.ref s.heap.objs.size,_,I.laid N (aJ _) (show jy X.prog X.w _ h' _ (.lst ((j.map λy=>y.2.1).map V.ref)) from ⟨by simp[<-p];exact z,d.toList,S,L,by simpa using U⟩),rfl,q _ _ (I.hok.fresh (aJ _)) (by simp[p]) λi b n=>?_⟩;rw[av]at n;cases g:j[i]? with
 |none=>rw[g]at n;cases n
 |some y=>
  rw[g]at n;cases n;have F:i<c.length:=by rw[p];exact (aa.mp g).1
  obtain⟨y',x,K,e3,e4⟩:=sG E (ag F);rw[g]at x;cases x;exact⟨_,_,ag F,e3⟩
end
end L2
namespace L2
open PySem PySem.Spec PyProof.Rows
noncomputable def Rr(K:W.Frag)(a:Addr)(n:Nat):It:=⟨λi H=>i<n/\∃b x,lg K H a b/\b.length=n/\b[n-1-i]? = some x,λi H x c=>c=H/\∀b,lg K H a b->b[n-1-i]? = some x,λi H=>i=n/\∃b,lg K H a b⟩
def Iy{K:W.Frag} a it n:AV P w K tg (Rr K a n) [it] it (λi h=>h.IsRevIter it a ((n:Int)-1-i)) where
 mem:=by simp
 obj:=λi h f b j=>by
  obtain rfl:b=it:=by simpa using j
  obtain⟨o,e,c,d⟩:=f;exact⟨o,e,λv z=>by rw[d]at z;cases z⟩
 keep:=λi h Q f k=>f.at λo e=>k it (by simp) o e
 item:=by
  intro X F hw q L i Y s U H E I l f C;subst F hw q;obtain⟨hi,xs,x,y,hn,N⟩:=C;obtain⟨its,rv,p,hz⟩:=I.list y;obtain⟨u,hu,ru⟩:=rv.get N;obtain⟨D,J,f2,A,r,m⟩:=l it (by simp);have B:n-1-i=((n-1-i:Nat):Int):=by omega
  rw[B]at f;refine wpAny_pyNext_rev_item f p.isList (by simpa using hu) λQ g sb=>?_;have Z:=I.turned (t':=s.toks) (λb o j e=>(sb.2 b j).trans e) D J A r m;have e2:((n-1-i:Nat):Int)-1=n-1-((i+1):Int):=by omega
  rw[e2]at g;obtain⟨o,e,c,d⟩:=id g;exact⟨u,rfl,Da e c d (by decide) ⟨x,H,Z,ru,⟨rfl,λys R=>by rw[I.list_inj R y];exact N⟩,g,λb j=>(l b j).1⟩⟩
 done:=by
  intro X F hw q L i Y s U H E I l f C;subst F hw q;obtain⟨rfl,xs,y⟩:=C;obtain⟨D,J,f2,A,r,m⟩:=l it (by simp);have B:(i:Int)-1-i = -1:=by omega
  rw[B]at f;exact wpAny_pyNext_rev_end (I.ok.hd L) f λQ S=>⟨rfl,I.turned (λb o j e=>S b o j e) D J A r m⟩
 self:=λ_ _ _ _ _ f h=>wpAny_pyIter_revIter f h
section
variable {X:Cx}{tg:Expr}
def Mx(K:W.Frag)(d:TA):TI:=λe H R=>d e H λc a=>∃l b,c=[.ref l]/\lg K a l b/\R (Rr K l b.length) a
def J3(r:Gl X "reversed")(y:X.mg "reversed" = none)(x:PA X [a] ta)(z:starEach [a] X.env=[(false,eval a X.env)]:=by rfl) :
  PI X tg (.Call (.Name "reversed" p) [a] [] pos) (Mx X.K ta):=by
 intro f s d H R I h;refine Call_ (ot I r y (by decide +kernel:bootBuiltins "reversed" = some (.type "reversed")) (PyProof.Rows.callWith_type1 (jv (x pos f s d H _ I h) λus s1 ⟨vs,H1,I1,r1,q1⟩=>?_) z rfl));obtain⟨l,g,rfl,m,q⟩:=q1;obtain⟨u,rfl,j⟩:=pH r1;cases j;obtain⟨c,w,n,B⟩:=I1.list m;have k:=w.length;refine call_reversed_list n.isList ?_;have A:fV X f d H1 {s1 with heap:=s1.heap.push (revObj l (c.toArray.size-1))}:=I1.kept λb o e=>ae _ e;have i:(s1.heap.push (revObj l (c.toArray.size-1))).IsRevIter s1.heap.objs.size l (g.length-1-(0:Int)):=⟨_,ar _ rfl,rfl,by simp[revObj,k]⟩;refine wpAny_pyIter_revIter i ?_;refine⟨s1.heap.objs.size,[s1.heap.objs.size],_,_,H1,rfl,A,Iy l _ g.length,i,λb v=>?_,q⟩;obtain rfl:b=s1.heap.objs.size:=by simpa using v
 exact I1.fpOk (aJ _) (I1.hok.fresh (aJ _))
end
end L2
namespace L2
open PySem PySem.Spec PyProof.Rows
abbrev Rb(h:Heap)(e it:Addr)(i:Int)(item:Vq)(a:Addr)(f:Bool):Prop:=h.get? e=some {cls:=.type "enumerate",dict:=none,data:=.fields #[rawInt a,.bool f,.ref it,rawInt i,.none,item],slots:=#[]}
section
variable {prog:Program}{w:World}{A:Around}{E:Vq->Shared->Prop}{s:Shared}
theorem Bc{i:Nat}{Q:Vq->Shared->Prop}(U:Rb s.heap e it i old a f)(ha:s.heap.get? a=some oa)(N:a≠e)(R:a≠it)(hi:kq b s.heap it l i)(hl:iQ b s.heap l xs)(k:e≠it)
  (B:∀x h,xs[i]? = some x->Rb h e it ((i:Int)+1) old a true->kq b h it l (i+1)->h.get? s.heap.objs.size=some {cls:=.type "tuple",data:=.seq #[.int i s.toks,x]}->h.objs.size=s.heap.objs.size+1->
   (∀c o,c≠e->c≠it->s.heap.get? c=some o->h.get? c=some o)->Q (.ref s.heap.objs.size) {s with heap:=h,toks:=s.toks+1})
  (no:xs[i]? = none->A.handled=none/\∀h x,Heap.ExtBut it s.heap h->(∃o,h.get? x=some o/\o.cls=.type "StopIteration")->E (.ref x) {s with heap:=h}) :
  wpAny (model prog w) A (Builtin.«enumerate.__next__» ⟨[.ref e],[]⟩) (λL s'=>∃v,L=.done (.ret v)/\Q v s') E s:=by
 obtain⟨S,g,d,m,J⟩:=s;show wpAny _ _ (field (.ref e) 2 >>= λ_=>_) _ _ _;refine ao (wpAny_field U rfl rfl (ao (rQ hi hl (λx F Y X k1=>?_) no)));have r:=k1;have P:=(r.2 e k).trans U;show wpAny _ _ (field (.ref e) 3 >>= λ_=>_) _ _ ⟨F,g,d,m,J⟩;refine ao (wpAny_field P rfl rfl ?_);show wpAny _ _ (field (.ref e) 4 >>= λ_=>_) _ _ ⟨F,g,d,m,J⟩;refine ao (wpAny_field P rfl rfl ?_);show wpAny _ _ (mkInt i >>= λ_=>_) _ _ ⟨F,g,d,m,J⟩;refine ao (wpAny_mkInt (ao (wpAny_setField_rec P (by simp) λg2 y2 I=>?_)));have z2:=y2;refine ao (wpAny_setField_rec z2 (by simp) λn y3 K=>?_);have z3:=y3;refine ao (wpAny_newTuple ?_);have sz:n.objs.size=S.objs.size:=by have a:=K.1;have c:=I.1;have u:=r.1;dsimp only at a c u;omega
 have H:Rb (n.push {cls:=.type "tuple",data:=.seq #[.int i m,x]}) e it ((i:Int)+1) old a f:=ae _ z3;have el:=aK U;have D:∀c o,c≠e->c≠it->S.get? c=some o->n.get? c=some o:=λc o p C q=>K.extBut c o p (I.extBut c o p (r.extBut c o C q));have a4:(n.push {cls:=.type "tuple",data:=.seq #[.int i m,x]}).get? a=some oa:=ae _ (D a oa N R ha);have tp:(n.push {cls:=.type "tuple",data:=.seq #[.int i m,x]}).get? n.objs.size=some {cls:=.type "tuple",data:=.seq #[.int i m,x]}:=ar _ rfl;have up:∀c o,c≠e->c≠it->S.get? c=some o->(n.push {cls:=.type "tuple",data:=.seq #[.int i m,x]}).get? c=some o:=λc o p C q=>ae _ (D c o p C q);have Z:∀o,F.get? it=some o->(n.push {cls:=.type "tuple",data:=.seq #[.int i m,x]}).get? it=some o:=λo q=>ae _ (K.extBut it o (Ne.symm k) (I.extBut it o (Ne.symm k) q));show wpAny _ _ (Builtin.SmallTypes.ownedTupleIsFree (.ref e) >>= λ_=>_) _ _ _;unfold Builtin.SmallTypes.ownedTupleIsFree;refine ao (ao (wpAny_field H rfl rfl ?_));show wpAny _ _ (loadIfAlive ((a:Int).toNat) >>= λ_=>_) _ _ _;rw[bN];refine ao (W.kdx_alive a4 ?_);simp only[Option.isNone_some,b8,if_false];refine ao (wpAny_field H rfl (x:=.bool f) rfl ?_);cases f with
 |true=>rw[aQ (λz=>nomatch z)];refine ak ?_;simp only[b8,if_false];refine ak ⟨_,rfl,?_⟩;rw[sz]at tp ⊢;exact B x _ Y H (X.to Z) tp (by rw[Heap.size_push,sz]) up
 |false=>rw[aP (show (Value.bool false != Value.bool true)=true from rfl)];refine ao (wpAny_setField_rec H (by simp) λg5 y5 k5=>?_);have z5:=y5;have j:=k5;refine ak ?_;simp only[b8,if_false];refine ak ⟨_,rfl,?_⟩;have y:=j.extBut _ _ (by rw[sz];exact bz el) tp;rw[sz]at y ⊢;exact B x g5 Y z5 (X.to λo q=>j.extBut it o (Ne.symm k) (Z o q)) y (by rw[j.1,Heap.size_push,sz]) λc o p C q=>j.extBut c o p (up c o p C q)
def EA(h:Heap)(e it:Addr)(i:Nat):Prop:=(i=0/\∃b,IsEnum h e it 0 b)\/∃b a f c,Rb h e it i b a f/\h.get? a=some c/\a≠e/\a≠it
def EA.keep(x:EA h e it i)(v:∀o,h.get? S=some o->o.cls=.type "list")(d:∀b o,b≠S->h.get? b=some o->h'.get? b=some o)(j:∀o,h.get? S=some o->∃k,h'.get? S=some k)(l:e≠S):EA h' e it i:=by
 rcases x with⟨z,c,q⟩|⟨c,a,f,r,q,p,n,u⟩
 .exact .inl ⟨z,c,d _ _ l q⟩
 .by_cases m:a=S
  .subst m;obtain⟨k,g⟩:=j r p;exact .inr ⟨c,a,f,k,d _ _ l q,g,n,u⟩
  .exact .inr ⟨c,a,f,r,d _ _ l q,d _ _ m p,n,u⟩
def wy(st:EA s.heap e it i)(I:kq b s.heap it l i)(H:iQ b s.heap l xs)(j:e≠it)(r:e<s.heap.objs.size)(z:it<s.heap.objs.size)
  (h:∀x d,xs[i]? = some x->EA d e it (i+1)->kq b d it l (i+1)->d.get? s.heap.objs.size=some {cls:=.type "tuple",data:=.seq #[.int i s.toks,x]}->d.objs.size=s.heap.objs.size+1->
   (∀c o,c≠e->c≠it->s.heap.get? c=some o->d.get? c=some o)->Q (some (.ref s.heap.objs.size)) {s with heap:=d,toks:=s.toks+1})
  (C:xs[i]? = none->A.handled=none/\∀d,Heap.ExtBut it s.heap d->Q none {s with heap:=d}):wpAny (model prog w) A (pyNext (.ref e)) Q E s:=by
 rcases st with⟨rfl,g,n⟩|⟨g,a,f,K,n,J,B,D⟩
 .exact sZ n I H j (λx d p u y m v k=>h x d p (.inr ⟨x,_,false,_,by simpa using u,m,bz r,bz z⟩) y m v k) C
 .have ty:s.TypeIs (.ref e) "enumerate" :=⟨_,n,rfl⟩;unfold pyNext;refine ao (wpAny_attempt (wpAny_callSpecial?_slot ty F.slot_enumerate_next (wpAny_call_entry F.slot_enumerate_next ty F.entry_enumerate_next
   (Bc n J B D I H j (λx d p u y m v k=>ak (h x d p (.inr ⟨g,a,true,K,by simpa using u,k a K B D J,B,D⟩) y m v k)) λq=>⟨(C q).1,λd x hk ⟨o,ho,hc⟩=>?_⟩) (F.args_enumerate_next_1 _))))
  exact ao (wpAny_isInstance ⟨o,ho,hc⟩ isSubtype_stop (ak ((C q).2 d hk)))
def Ee:typeLookup (.type "enumerate") "__len__" = pure none:=by rw[typeLookup_type,builtinLookup_eq_fast];kernel_rfl
def B6:typeLookup (.type "enumerate") "__length_hint__" = pure none:=by rw[typeLookup_type,builtinLookup_eq_fast];kernel_rfl
def RF(us:List Vq)(b:Addr)(h:Heap)(as:List Addr):Prop:=∀(j:Nat) (a:Addr),as[j]? = some a->b<a/\∃t x,us[j]? = some x/\h.get? a=some {cls:=.type "tuple",data:=.seq #[.int j t,x]}
section
variable {R:Result->Shared->Prop}{us:List Vq}{b:Bool}
theorem Kg{S e it l:Addr}(hh:A.handled=none)(P:e≠S)(K:it≠S)(hlS:l≠S)(hle:l≠e)(hli:l≠it)(U:e≠it)(hn:us.length<=sizeLine)(res:Vq){B:Heap}(H:e<B.objs.size/\it<B.objs.size/\S<B.objs.size)
  (hR:∀n J d c as,(∀c o,c≠S->c≠e->c≠it->B.get? c=some o->n.get? c=some o)->n.get? S=some {cls:=.type "list",dict:=none,data:=.seq d c,slots:=#[]}->as.length=us.length->(∀a∈as,B.objs.size<=a)->RF us 0 n as->
   d.toList=as.map Value.ref->R (.ok (.ret res)) {s with heap:=n,toks:=J}) :
  ∀(k i:Nat) (h:Heap) (J c:Nat) (d:Array Vq) (as:List Addr),us.length-i=k->i<=us.length->EA h e it i->kq b h it l i->iQ b h l us.toArray->(∀c o,c≠S->c≠e->c≠it->B.get? c=some o->h.get? c=some o)->B.objs.size<=h.objs.size->
   h.get? S=some {cls:=.type "list",dict:=none,data:=.seq d c,slots:=#[]}->d.toList=as.map Value.ref->as.length=i->(∀a∈as,B.objs.size<=a)->RF us 0 h as->
   codeAny (model prog w) A (.builtin "list.extend.loop" ⟨[.ref S,.ref e,res],[]⟩) R {s with heap:=h,toks:=J}:=by
 intro k;induction k with
 |zero=>
  intro i h J c d as hk hi N L D g f hS m u v hG;refine codeAny_builtin PySem.F.entry_extend_loop ?_;rw[Around.under_plainId PySem.F.plain_extend_loop _];show wpAny _ A.in1 (pyNext (.ref e) >>= λ_=>_) _ _ _;refine ao (wy N L D U (aD H.1 f) (aD H.2.1 f) (λx n hx=>?_) λ_=>⟨hh,λn ex=>?_⟩)
  .have:us[i]? = none:=List.getElem?_eq_none (by omega);have Y:us[i]? = some x:=by simpa using hx
   rw[this]at Y;cases Y
  .refine ak (hR n J d c as (λc o q1 q2 Q e=>ex c o Q (g c o q1 q2 Q e)) (ex S _ (Ne.symm K) hS) (by omega) v (λj a I=>?_) m);obtain⟨y,t,x,e1,e2⟩:=hG j a I;have C:=v a (au I);exact⟨y,t,x,e1,ex a _ (bz (aD H.2.1 C)) e2⟩
 |succ k ih=>
  intro i h J c d as hk hi N L D g f hS m u v hG;have p:d.size=i:=by rw[<-bx,m,aw,u]
  refine codeAny_builtin PySem.F.entry_extend_loop ?_;rw[Around.under_plainId PySem.F.plain_extend_loop _];show wpAny _ A.in1 (pyNext (.ref e) >>= λ_=>_) _ _ _;refine ao (wy N L D U (aD H.1 f) (aD H.2.1 f) (λx n hx st' it' ht hz r=>?_) λq=>?_)
  .dsimp only at ht hz r ⊢;have z:=r S _ (Ne.symm P) (Ne.symm K) hS;have up:∀c o,c≠S->n.get? c=some o->(n.update S (Obj.mapSeq (·.push (Value.ref h.objs.size)))).get? c=some o:=λc o C e=>(Heap.get?_update_other _ _ (Ne.symm C)).trans e;have X:=aD H.2.2 f;refine ao (wpAny_updateSeq z rfl (ak ⟨plainId_quiet PySem.F.plain_extend_loop _,ih (i+1) _ (J+1) _ (d.push (Value.ref h.objs.size)) (as++[h.objs.size]) (by omega) (by omega)
    (st'.keep (λo ho=>by rw[z]at ho;cases ho;rfl) up (λo ho=>⟨_,Heap.get?_update_self _ z rfl⟩) P) (it'.to λo q=>up it o K q) (D.to λo q=>up l o hlS (r l o hle hli q))
    (λc o q1 q2 Q e=>up c o q1 (r c o q2 Q (g c o q1 q2 Q e))) (by rw[Heap.size_update];show B.objs.size<=n.objs.size;omega) (Heap.get?_update_self _ z rfl) (by rw[Array.toList_push,m,aY];rfl) (by rw[aS,u];rfl) (λa Z=>?_) (λj a I=>?_)⟩) (by rw[p];omega) (by rw[Array.size_push,p];omega))
   .rcases ai.mp Z with Z|Z
    .exact v a Z
    .rw[aj.mp Z];exact f
   .rcases cC j as.length with q|q|q
    .rw[List.getElem?_append_left q]at I;obtain⟨y,t,x',e1,e2⟩:=hG j a I;have C:=v a (au I);have n1:=bz (aD H.2.2 C);have n2:=bz (aD H.1 C);have n3:=bz (aD H.2.1 C);exact⟨y,t,x',e1,up a _ n1 (r a _ n2 n3 e2)⟩
    .subst q;have C:h.objs.size=a:=by simpa using I
     subst C;refine⟨b5 (bG _) X,J,x,by rw[u];simpa using hx,?_⟩;rw[u];exact up _ _ (bz X) ht
    .have QV:(as++[h.objs.size])[j]? = none:=List.getElem?_eq_none (by rw[aS,bW];omega);rw[QV]at I;cases I
  .exfalso;have:i<us.length:=by omega
   simp[this]at q
def Bq(hh:A.handled=none)(he:IsEnum s.heap e it 0 .none)(hi:kq b s.heap it l 0)(hl:iQ b s.heap l us.toArray)(L:l≠e)(P:l≠it)(U:e≠it)(hn:us.length<=sizeLine)(v:it<s.heap.objs.size)(K:l<s.heap.objs.size)
  (q:∀m N d c as,(∀c o,c≠e->c≠it->s.heap.get? c=some o->m.get? c=some o)->m.get? s.heap.objs.size=some {cls:=.type "list",dict:=none,data:=.seq d c,slots:=#[]}->as.length=us.length->(∀a∈as,s.heap.objs.size<a)->RF us 0 m as->
   d.toList=as.map Value.ref->Q (.ref s.heap.objs.size) {s with heap:=m,toks:=N}):wpAny (model prog w) A (call (.type "list") [.ref e]) Q E s:=by
 have r:=aK he;refine callType_codes (Q₁:=λH i=>H=.ref s.heap.objs.size/\i={s with heap:=s.heap.push {cls:=.type "list",data:=.seq #[]}}) PySem.F.called_list (PySem.F.typeCall_list_1 _) PySem.F.entry_list_init
  (code_list_new _ ⟨rfl,rfl⟩) λH i B=>?_
 obtain⟨rfl,rfl⟩:=B;generalize g:s.heap.objs.size=S at *;have I:(s.heap.push {cls:=.type "list",data:=.seq #[]}).get? S=some {cls:=.type "list",data:=.seq #[]}:=by rw[<-g];exact ar _ rfl
 have kp:∀c o,s.heap.get? c=some o->(s.heap.push {cls:=.type "list",data:=.seq #[]}).get? c=some o:=λc o z=>ae _ z;refine⟨⟨_,I,rfl⟩,PySem.F.args_list_init_2 _ _,?_⟩;show wpAny _ _ (do let old <-Builtin.List.listItems (.ref S);Builtin.List.listUpdate (.ref S) (λ_=>#[]);letGo old.toList.reverse;Builtin.List.listExtendWith (.ref S) (.ref e) .none) _ _ {s with heap:=s.heap.push {cls:=.type "list",data:=.seq #[]}};refine ao ?_;unfold Builtin.List.listItems;refine ao (wpAny_seqItems I rfl (ak ?_));refine ao (wpAny_updateSeq I rfl ?_);have u:=Heap.get?_update_self (Obj.mapSeq (λ_=>(#[]))) I rfl;have k2:∀c o,c≠S->s.heap.get? c=some o->((s.heap.push {cls:=.type "list",data:=.seq #[]}).update S (Obj.mapSeq (λ_=>(#[])))).get? c=some o:=λc o y z=>(Heap.get?_update_other _ _ (Ne.symm y)).trans (kp c o z);refine ao (wpAny_letGo ?_);have f:=aL r;have p:=aL v;have C:=aL K;have D:=k2 e _ f he;unfold Builtin.List.listExtendWith;have k:Shared.TypeIs {s with heap:=(s.heap.push {cls:=.type "list",data:=.seq #[]}).update S (Obj.mapSeq (λ_=>(#[])))} (.ref e) "enumerate" :=⟨_,D,rfl⟩;refine ao (wpAny_typeOf k ?_);have g1:Builtin.List.listSameRef (.ref S) (.ref e)=false:=by simp[Builtin.List.listSameRef,Ne.symm f]
 have g2:(Value.type "enumerate" == Value.type "list")=false:=by decide
 have g3:(Value.type "enumerate" == Value.type "tuple")=false:=by decide
 simp only[g1,g2,g3,Bool.or_false,b8,if_false];refine ao (wpAny_pyIter_enum D ?_);refine ao (wpAny_holding ?_);unfold Builtin.List.listLengthHint;refine ao (wpAny_specialOf k Ee ?_);refine ao (wpAny_specialOf k B6 ?_);refine ak ?_;refine ao (wpAny_rule (ao ?_));refine ao (wpAny_updateSeq u rfl ?_);have n:=Heap.get?_update_self (Obj.mapSeq (·.push Value.none)) u rfl;refine wpAny_updateSeq n rfl ?_;have X:=Heap.get?_update_self (Obj.mapSeq (·.pop)) n rfl;have J:∀c o,c≠S->s.heap.get? c=some o->((((s.heap.push {cls:=.type "list",data:=.seq #[]}).update S (Obj.mapSeq (λ_=>(#[])))).update S (Obj.mapSeq (·.push Value.none))).update S (Obj.mapSeq (·.pop))).get? c=some o:=λc o y z=>(Heap.get?_update_other _ _ (Ne.symm y)).trans ((Heap.get?_update_other _ _ (Ne.symm y)).trans (k2 c o y z))
 have h:((((s.heap.push {cls:=.type "list",data:=.seq #[]}).update S (Obj.mapSeq (λ_=>(#[])))).update S (Obj.mapSeq (·.push Value.none))).update S (Obj.mapSeq (·.pop))).objs.size=S+1:=by rw[Heap.size_update,Heap.size_update,Heap.size_update,Heap.size_push,g]
 refine ak ⟨plainId_quiet PySem.F.plain_extend_loop _,?_⟩;generalize hh4:((((s.heap.push {cls:=.type "list",data:=.seq #[]}).update S (Obj.mapSeq (λ_=>(#[])))).update S (Obj.mapSeq (·.push Value.none))).update S (Obj.mapSeq (·.pop)))=h4 at *;refine Kg (A:=A.in1) hh f p C L P U hn .none ⟨by rw[h];exact cg r,by rw[h];exact cg v,by rw[h];exact bF _⟩ (λm N d c as kk Z e1 e2 e3 e4=>⟨rfl,?_⟩)
  us.length 0 h4 _ _ #[] [] (cD _) (bG _) (.inl ⟨rfl,_,J e _ f he⟩) (hi.to λo z=>J it o p z) (hl.to λo z=>J l o C z) (λ_ _ _ _ _ z=>z) (aJ _) X rfl rfl (λa Y=>nomatch Y) (λj a hj=>by simp at hj)
 exact q m N d c as (λc o z1 z2 x=>kk c o (λzz=>by rw[zz]at x;exact absurd (aK x) (by rw[g];exact aZ _)) z1 z2 (J c o (λzz=>by rw[zz]at x;exact absurd (aK x) (by rw[g];exact aZ _)) x)) Z e1 (λa Y=>by have:=e2 a Y;rw[h]at this;omega) e3 e4
end
end
end L2
namespace L2
open PySem PySem.Spec PyProof.Rows
section
variable {X:Cx}
theorem vL(k:gH xs us)(e:2<=sizeLine):∀(as:List Addr) (j:Nat) (H:Hp),fV X fw σ H s->(∀a∈as,rC X fw H a)->as.Nodup->
  (∀i a,as[i]? = some a->∃t x,us[j+i]? = some x/\s.heap.get? a=some {cls:=.type "tuple",data:=.seq #[.int ((j+i:Nat):Int) t,x]})->
  ∃d,fV X fw σ d s/\f6 H d/\(∀a,a∉as->d a=H a)/\∀i a,as[i]? = some a->∃x,xs[j+i]? = some x/\d a=some (.tup [.int ((j+i:Nat):Int),x])
 |[],j,H,I,_,_,_=>⟨H,I,.refl _,λ_ _=>rfl,λi a h=>by simp at h⟩
 |a::as,j,H,I,hf,nd,hg=>by
  obtain⟨t,u,q,P⟩:=hg 0 a rfl;obtain⟨o,L,R,B,A,w⟩:=hf a (by simp);have N:j+0<xs.length:=by rw[k.length];exact (aa.mp q).1
  have p:=ag N;obtain⟨Q,v,D⟩:=k.get p;rw[q]at v;cases v;have C:fV X fw σ (ja H a (.tup [.int ((j+0):Int),xs[j+0]])) s:=I.track o B L A w ⟨e,[.int ((j+0):Int) t,u],.cons ⟨_,rfl⟩ (.cons D .nil),⟨_,P,rfl,_,rfl,rfl⟩⟩;obtain⟨m,n⟩:=bJ.mp nd;obtain⟨d,F,r,y,J⟩:=vL k e as (j+1) _ C (λb c=>by obtain⟨g0,K⟩:=hf b (by simp[c]);have ne:b≠a:=λz=>m (z▸c);exact⟨by rw[fT ne];exact g0,K⟩) n (λi b c=>by obtain⟨E,l,f,g⟩:=hg (i+1) b (by simpa using c);rw[show j+(i+1)=j+1+i by omega]at f g;exact⟨E,l,f,g⟩)
  refine⟨d,F,(lZ o).trans r,λb c=>?_,λi b c=>?_⟩
  .rw[y b (λz=>c (by simp[z])),fT (λz=>c (by simp[z]))]
  .cases i with
   |zero=>simp at c;subst c;exact⟨_,p,r _ _ fR⟩
   |succ i=>obtain⟨l,f,g⟩:=J i b (by simpa using c);rw[show j+1+i=j+(i+1) by omega]at f g;exact⟨l,f,g⟩
def RC(K:W.Frag)(g:TA):TE:=λh H Q=>g h H λf c=>∃b l e,f=[.ref l]/\uc K c b l e/\∀(p:Addr) (as:List Addr) (d:Hp),f6 c d->c p=none->d p=some (.lst (as.map V.ref))->as.length=e.length->
 (∀(i:Nat) (a:Addr),as[i]? = some a->c a=none/\a≠p/\∃x,e[i]? = some x/\d a=some (.tup [.int (i:Int),x]))->Q (.ref p) d
def IV(hc:X.calm=true)(hg:Gl X "list")(p:X.mg "list" = none)(N:Gl X "enumerate")(S:X.mg "enumerate" = none)(f:PA X [a] ta)(hs:starEach [a] X.env=[(false,eval a X.env)]:=by rfl)
  (he:starEach [Expr.Call (.Name "enumerate" p2) [a] [] pos2] X.env=[(false,eval (.Call (.Name "enumerate" p2) [a] [] pos2) X.env)]:=by rfl) :
  PE X (.Call (.Name "list" p1) [.Call (.Name "enumerate" p2) [a] [] pos2] [] pos) (RC X.K ta):=by
 intro L s σ H Q I h;refine wpAny_Call_Name_kw (ot I hg p (by decide +kernel:bootBuiltins "list" = some (.type "list")) ?_);refine PyProof.Rows.callWith_type1 ?_ he rfl;rw[he];refine Calls.spliced_cons (Call_ (ot I N S boot_enumerate (PyProof.Rows.callWith_type1 (jv (f pos2 L s σ H _ I h) λus s1 ⟨vs,H1,I1,r1,q1⟩=>?_) hs rfl)));obtain⟨b,l,xs,rfl,hq,q⟩:=q1;obtain⟨u,rfl,rx⟩:=pH r1;cases rx;obtain⟨us,rv,m,hz⟩:=I1.seqB hq;refine yd m λk U Y d hk=>Calls.spliced_nil ?_;have R:l<s1.heap.objs.size:=by obtain⟨o,n,e,_⟩:=m.look;exact aK e
 have Z:=rv.length;refine Bq (I1.ok.hd hc) U Y (m.to λo e=>hk l o e) (aL (cg R)) (aL R) (Nat.succ_ne_self _) (by rw[<-Z];exact hz) (by show _<k.objs.size;rw[d];omega) (by rw[d];exact aD R (cm _ _)) λh2 tk w c as k2 hS A B J y=>?_;have kk:∀b o,s1.heap.get? b=some o->h2.get? b=some o:=λb o e=>by have lt:=aK e;exact k2 b o (aL (cg lt)) (aL lt) (hk b o e)
 have I2:=I1.kept (t':=tk) kk;have fp:∀b,s1.heap.objs.size<=b->rC X L H1 b:=λb hb=>I1.fpOk hb (I1.hok.fresh hb);have g:∀a∈as,s1.heap.objs.size<=a:=λa f=>by have:=B a f;rw[d]at this;omega
 have nd:as.Nodup:=by refine cE.mpr λi j C hj hij e=>?_;obtain⟨_,t1,x1,_,g1⟩:=J i _ (ag C);obtain⟨_,t2,x2,_,g2⟩:=J j _ (ag hj);rw[e,g2]at g1;simp at g1;omega
 obtain⟨H',I3,s3,o3,g3⟩:=vL rv (by decide) as 0 H1 I2 (λa f=>fp a (g a f)) nd (λi a f=>by obtain⟨_,t,x,E,D⟩:=J i a f;rw[aF];exact⟨t,x,E,D⟩)
 have P:k.objs.size∉as:=λp=>aZ _ (B _ p);have F:H1 k.objs.size=none:=I1.hok.fresh (by rw[d];omega);obtain⟨f0,f1,f2,f3,f4,f5⟩:=fp k.objs.size (by rw[d];omega);have va:gH (as.map V.ref) w.toList:=by
  rw[y];refine pG (by simp) λi v r=>?_;rw[av]at r ⊢;cases C:as[i]? with
  |none=>rw[C]at r;cases r
  |some a'=>rw[C]at r;cases r;exact⟨_,rfl,rfl⟩
 have I4:fV X L σ (ja H' k.objs.size (.lst (as.map V.ref))) {s1 with heap:=h2,toks:=tk}:=I3.track (by rw[o3 _ P];exact f0) f3 f1 f4 f5 ⟨by rw[aw,A,<-Z];exact hz,w.toList,c,va,by simpa using hS⟩;refine⟨.ref k.objs.size,_,I4,rfl,q _ as _ (s3.trans (lZ (by rw[o3 _ P];exact f0))) F fR (by rw[A,Z]) λi a f=>?_⟩;have p:=au f;have ne:a≠k.objs.size:=λz=>P (z▸p);obtain⟨x,E,D⟩:=g3 i a f;rw[aF]at E D;exact⟨I1.hok.fresh (g a p),ne,x,E,by rw[fT ne];exact D⟩
end
end L2
namespace Cu
noncomputable def G(a b:Int):Int:=(Int.gcd a b:Nat)
def BZ a b:G b (Int.fmod a b)=G a b:=by
 unfold G;have e:=Int.fmod_def a b;rw[e];congr 1;apply Nat.dvd_antisymm
 .apply Int.dvd_gcd
  .have g:=cF b (a-b*Int.fdiv a b);have f:=cG b (a-b*Int.fdiv a b);have d:=Int.dvd_add f (cH (c:=Int.fdiv a b) g);have h:a-b*Int.fdiv a b+b*Int.fdiv a b=a:=by omega
   rw[h]at d;exact d
  .exact cF b _
 .apply Int.dvd_gcd
  .exact cG a b
  .exact Int.dvd_sub (cF a b) (cH (cG a b))
def Et a b (h:b≠0):(Int.fmod a b).natAbs<b.natAbs:=by
 rcases Int.lt_or_gt_of_ne h with c|c
 .have e:=cI (-a) (show 0 < -b by omega);have d:=cJ (-a) (show 0 < -b by omega);rw[Int.neg_fmod_neg]at e d;omega
 .have e:=cI a c;have d:=cJ a c;omega
def Hb a:G a 0=(a.natAbs:Int):=by unfold G;rw[Int.gcd_zero_right]
def uP a b:0<=G a b:=Int.natCast_nonneg _
def Mf a b (h:b≠0):0<G a b:=by have:=cK a h;unfold G;omega
def oK a b:G a b ∣ a:=cF a b
def ml a b:G a b ∣ b:=cG a b
def QT a b (h:b≠0):G a b<=(b.natAbs:Int):=by have:=Int.natAbs_dvd_natAbs.mpr (ml a b);have c:=Nat.le_of_dvd (by omega) this;have:=uP a b;omega
structure RP(t b p q:Int):Prop where
 pos:0<q
 one:G p q=1
 is:p*b=t*q
def uN(e:b≠0)(l:g≠0)(h:g=G t b\/g = - G t b)(f:0<q)(c:t=g*p)(a:b=g*q):RP t b p q:=by
 refine⟨f,?_,?_⟩
 .have d:Int.gcd t b=g.natAbs*Int.gcd p q:=by rw[c,a,Int.gcd_mul_left]
  have i:g.natAbs=Int.gcd t b:=by unfold G at h;omega
  rw[i]at d;have j:=cK t e;have k:Int.gcd p q=1:=by
   have:Int.gcd t b*1=Int.gcd t b*Int.gcd p q:=by rw[<-d,Nat.mul_one]
   exact (Nat.eq_of_mul_eq_mul_left j this).symm
  unfold G;rw[k];rfl
 .have:p*(g*q)=g*p*q:=by rw[<-cL,cN p g]
  rw[<-a,<-c]at this;exact this
def nt g p (a:g≠0):Int.fdiv (g*p) g=p:=by exact cO p a
def G7 t b (d:b≠0):RP t b (Int.fdiv t (if b<0 then-G t b else G t b)) (Int.fdiv b (if b<0 then-G t b else G t b)):=by
 have k:=Mf t b d;obtain⟨p,f⟩:=oK t b;obtain⟨q,e⟩:=ml t b;by_cases h:b<0
 .rw[aP h];have j:t=(-G t b)*(-p):=by rw[Int.neg_mul_neg];exact f
  have c:b=(-G t b)*(-q):=by rw[Int.neg_mul_neg];exact e
  have g:Int.fdiv t (-G t b) = -p:=by have:=nt (-G t b) (-p) (by omega);rw[<-j]at this;exact this
  have i:Int.fdiv b (-G t b) = -q:=by have:=nt (-G t b) (-q) (by omega);rw[<-c]at this;exact this
  rw[g,i];refine uN d (by omega) (Or.inr rfl) ?_ j c;by_cases a:0 < -q
  .exact a
  .exfalso;have:0<=q:=by omega
   have:=aO (az k) this;omega
 .rw[aQ h];have g:Int.fdiv t (G t b)=p:=by have:=nt (G t b) p (by omega);rw[<-f]at this;exact this
  have i:Int.fdiv b (G t b)=q:=by have:=nt (G t b) q (by omega);rw[<-e]at this;exact this
  rw[g,i];refine uN d (by omega) (Or.inl rfl) ?_ f e;by_cases a:0<q
  .exact a
  .exfalso;have:0<=-q:=by omega
   have:=aO (az k) this;rw[cP]at this;omega
end Cu
namespace Cu
open PySem PyProof.Rows
open PySem.Builtin.Int (intBits)
def noPy(h:intBits y<=m)(c:m<=8000):PySem.Builtin.divisionGoesByPylong x y=false:=by
 refine PyProof.noPylong_of_log2 ?_;rcases cQ y.natAbs with a|b
 .rw[a];decide
 .refine (Nat.log2_lt (bz b)).mpr ?_;exact lt_pow_of_bits h (by omega)
end Cu
namespace L2
open PySem PySem.Spec PyProof.Rows
def Ja:kj X (.builtin "isinstance") (λa H Q=>∃x T t b,a=[x,.ty T]/\pS X.K H x t/\W.kitOne X.K t (.type T)=some b/\Q (.bl b) H):=by
 intro f s d H a g Q I r h;obtain⟨x,T,t,b,rfl,ty,e,q⟩:=h;cases r with
 |cons r1 r2=>
  cases r2 with
  |cons r3 r4=>cases r4;cases (r3);exact Ep I r1 ty e λc=>⟨.bl b,H,I.tok c,rfl,q⟩
def yV:bootBuiltins "isinstance" = some (.builtin "isinstance"):=by decide +kernel
def BJ:bootBuiltins "abs" = some (.builtin "abs"):=by decide +kernel
def Bp:bootBuiltins "int" = some (.type "int"):=by decide +kernel
def Dy:bootBuiltins "bool" = some (.type "bool"):=by decide +kernel
def iT:bootBuiltins "tuple" = some (.type "tuple"):=by decide +kernel
def jN:bootBuiltins "len" = some (.builtin "len"):=by decide +kernel
end L2
namespace L2
open PySem PySem.W PySem.Spec PyProof.Rows
def ED{l:W.OpenLaw}{n k:Nat}{q:Program}{j:List Str}{XP:(Str->Option Value)->Heap->Prop}{YP:World->Heap->Prop}{d:DefRec}{K:Params->W.Frag}{U:Js}{X:W.Frag->Sp}{x:Str}
  (hn:l.most=some n) (N:n<=sizeLine) (J:d.params.defaults=[]) (hr:iF k callerA)
  (hY:∀(w:World) (h:Heap),YP w h->(K w.params).In h)
  (F:∀(w:World) (p:Str->Option Value) (D:Addr) (h:Heap),(K w.params).In h->h.Ns mainGlobals p->p d.name=some (.ref D)->
   ∃fd:FuncData,(∀(s:Shared) (u:Vq),BindsTo s fd ⟨[u],[]⟩ [(x,u)])/\
    ∀c:Heap,(K w.params).In c->c.Ns mainGlobals p->mv l.prog w (K w.params) p c U k D fd [x] (X (K w.params)))
  (Q:∀(K:W.Frag) (H:Hp) (a:Addr) (m:LI),m.length<=n->(∀z∈m,PySem.Builtin.Int.intBits z<=2 ^ 20)->On H->lg K H a (m.map V.int)->X K [.ref a] H (λv _=>v=.bl true) λ_ _ _=>False)
  (R:∀(H:Hp) (s:Shared) (e:Vq) (E:Shared),U [] H s (λ_ _ _=>False) e E->False) :
  W.WalkO q j XP YP l.row.toRowW d [] (λf vs=>PySem.call f vs):=by
 intro w s₀ B p mb G Y D o pm cd doc dV kV ho hd hcd hD S hg args vals as y C hrd L hlo;obtain rfl:dV=.none:=Dflts.none hD J;obtain rfl:kV=.none:=Dflts.noKw hD;obtain⟨a,vs,m,rfl,rfl,A,i,jU⟩:=Att.script_of hn y L;have hb:∀z∈m,PySem.Builtin.Int.intBits z<=2 ^ 20:=λz hz=>by have h1:=(layW_cons C).1;have I:=layableW_item h1 (WData.int z) (aC.mpr ⟨z,hz,rfl⟩);exact PyData.bits_of_layable (layable_int I)
 have Z:=hY w _ Y;obtain⟨fd,P,hF⟩:=F w p D _ Z G.T.g S;refine enter_call (codeAny_mono (FO Z G.T.g G.T.b G.T.builtins G.T.nolimit hg A i (aM jU N) hr hF P (λH hO hS=>Q _ H a m jU hb hO hS) λH e E=>R H B e E) λr E hq=>?_);obtain⟨rfl,I,h3,h4⟩:=hq;exact⟨.inl ⟨.bool true,.bool true,[],rfl,λ_=>rfl,.bool true,Att.post_true l _,λ_=>⟨List.Pairwise.nil,λ_ hm=>(nomatch hm)⟩⟩,I,h3,h4⟩
end L2
namespace C4
def R8(c e:LI):Prop:=∀i j,i<c.length->j<c.length->c.getD i 0*e.getD j 0=c.getD j 0*e.getD i 0
def par_of_place(a:c.getD p 0≠0)(h:∀i,i<c.length->c.getD i 0*e.getD p 0=e.getD i 0*c.getD p 0):R8 c e:=λi j k d=>by have g:=h i k;have f:=h j d;refine Int.eq_of_mul_eq_mul_right a ?_;have l:c.getD i 0*e.getD j 0*c.getD p 0=c.getD i 0*(e.getD j 0*c.getD p 0):=cL _ _ _;have b:c.getD j 0*e.getD i 0*c.getD p 0=c.getD j 0*(e.getD i 0*c.getD p 0):=cL _ _ _;rw[l,b,<-g,<-f,<-cL,<-cL,cN (c.getD i 0) (c.getD j 0)]
end C4
namespace L3
open PySem L2
inductive T where
 |non|bl (b:Bool)|int (i:Int)|str (x:Str)
 |tup (ts:List T)|lst (ts:List T)|scr (ns:LI)
 |obj (C:Addr) (fs:List (Str×T))|emp
 |dic (kvs:List (LI×T))
inductive M(α:Type) where
 |bad|ok (a:α)|er (C:Addr) (n:Option Int)
namespace M
noncomputable def bind{b c:Type}(m:M b)(k:b->M c):M c:=match m with
 |.bad=>.bad
 |.ok a=>k a
 |.er C n=>.er C n
instance:Monad M where
 pure:=.ok
 bind:=M.bind
noncomputable def res{b:Type}(m:M b)(P:b->Prop)(E:Addr->Option Int->Prop):Prop:=match m with
 |.bad=>False
 |.ok a=>P a
 |.er C n=>E C n
def res.unb{m:M α}{k:α->M β}{P:β->Prop}(h:res (m.bind k) P E):res m (λa=>res (k a) P E) E:=by cases m<;>exact h
def res.mono{m:M α}{P P':α->Prop}(h:res m P E)(b:∀a,P a->P' a)(c:∀C n,E C n->E' C n):res m P' E':=by
 cases m with
 |bad=>exact h
 |ok a=>exact b a h
 |er C n=>exact c C n h
noncomputable def noEr{a:Type}(m:M a):M a:=match m with
 |.er _ _=>.bad
 |m=>m
def res.noEr{m:M α}{P:α->Prop}(h:res m.noEr P E):res m P E':=by
 cases m with
 |bad=>exact h
 |ok a=>exact h
 |er C n=>exact h.elim
@[simp] theorem bind_ok a (k:α->M β):M.bind (.ok a) k=k a:=rfl
@[simp] theorem Pv(k:α->M β):M.bind (.bad:M α) k=.bad:=rfl
@[simp] theorem Q4 C n (k:α->M β):M.bind (.er C n:M α) k=.er C n:=rfl
noncomputable def NoE{a:Type}(m:M a):Prop:=∀C n,m≠.er C n
def res.ne{m:M α}{P:α->Prop}(h:res m P E)(ne:NoE m):res m P E':=by
 cases m with
 |bad=>exact h
 |ok a=>exact h
 |er C n=>exact absurd rfl (ne C n)
@[simp] theorem noEr_ok(a:α):noEr (.ok a)=.ok a:=rfl
end M
mutual
inductive kb(K:W.Frag)(F:Hp):V->T->Prop
 |non:kb K F .non .non
 |bl (b:Bool):kb K F (.bl b) (.bl b)
 |int (i:Int):kb K F (.int i) (.int i)
 |str (x:Str):kb K F (.str x) (.str x)
 |tup {a:Addr} {xs:List V} {ts:List T} (h:F a=some (.tup xs)) (r:f9 K F xs ts):kb K F (.ref a) (.tup ts)
 |lst {a:Addr} {xs:List V} {ts:List T} (h:F a=some (.lst xs)) (r:f9 K F xs ts):kb K F (.ref a) (.lst ts)
 |scr {a:Addr} {ns:LI} (h:lg K F a (ns.map V.int)):kb K F (.ref a) (.scr ns)
 |obj {a C dx:Addr} {fs:List (Str×V)} {ts:List (Str×T)} (h:F a=some (.ins C dx fs)) (r:nP K F fs ts):kb K F (.ref a) (.obj C ts)
 |emp {a:Addr} (h:F a=some (.dK [])):kb K F (.ref a) .emp
 |dic {a:Addr} {xs:List (List qH×V)} {kvs:List (LI×T)} (h:F a=some (.dT xs)) (r:zP K F xs kvs):kb K F (.ref a) (.dic kvs)
inductive f9(K:W.Frag)(F:Hp):List V->List T->Prop
 |nil:f9 K F [] []
 |cons {v:V} {t:T} {vs:List V} {ts:List T} (h:kb K F v t) (r:f9 K F vs ts):f9 K F (v::vs) (t::ts)
inductive nP(K:W.Frag)(F:Hp):List (Str×V)->List (Str×T)->Prop
 |nil:nP K F [] []
 |cons {x:Str} {v:V} {t:T} {vs:List (Str×V)} {ts:List (Str×T)} (h:kb K F v t) (r:nP K F vs ts):nP K F ((x,v)::vs) ((x,t)::ts)
inductive zP(K:W.Frag)(F:Hp):List (List qH×V)->List (LI×T)->Prop
 |nil:zP K F [] []
 |cons {k:LI} {v:V} {t:T} {vs:List (List qH×V)} {ts:List (LI×T)} (h:kb K F v t) (r:zP K F vs ts):zP K F ((k.map Sum.inl,v)::vs) ((k,t)::ts)
end
section
variable {K:W.Frag}{F F':Hp}
mutual
theorem kb.mono(s:f6 F F'):∀{v} {t},kb K F v t->kb K F' v t
 |_,_,.non=>.non
 |_,_,.bl b=>.bl b
 |_,_,.int i=>.int i
 |_,_,.str x=>.str x
 |_,_,.tup h r=>.tup (s _ _ h) (f9.mono s r)
 |_,_,.lst h r=>.lst (s _ _ h) (f9.mono s r)
 |_,_,.scr h=>.scr (s.seq h)
 |_,_,.obj h r=>.obj (s _ _ h) (nP.mono s r)
 |_,_,.emp h=>.emp (s _ _ h)
 |_,_,.dic h r=>.dic (s _ _ h) (zP.mono s r)
theorem f9.mono(s:f6 F F'):∀{vs} {ts},f9 K F vs ts->f9 K F' vs ts
 |_,_,.nil=>.nil
 |_,_,.cons h r=>.cons (kb.mono s h) (f9.mono s r)
theorem nP.mono(s:f6 F F'):∀{vs} {ts},nP K F vs ts->nP K F' vs ts
 |_,_,.nil=>.nil
 |_,_,.cons h r=>.cons (kb.mono s h) (nP.mono s r)
theorem zP.mono(s:f6 F F'):∀{vs} {ts},zP K F vs ts->zP K F' vs ts
 |_,_,.nil=>.nil
 |_,_,.cons h r=>.cons (kb.mono s h) (zP.mono s r)
end
theorem f9.length:∀{vs} {ts},f9 K F vs ts->vs.length=ts.length
 |_,_,.nil=>rfl
 |_,_,.cons _ r=>by rw[ay,ay,f9.length r]
theorem f9.get:∀{vs:List V} {ts:List T} {i:Nat} {t:T},f9 K F vs ts->ts[i]? = some t->∃v,vs[i]? = some v/\kb K F v t
 |_,_,_,_,.nil,e=>by simp at e
 |_,_,0,_,.cons h _,e=>by simp at e;subst e;exact⟨_,rfl,h⟩
 |_,_,i+1,_,.cons _ r,e=>by obtain⟨v,a,h⟩:=f9.get r (by simpa using e);exact⟨v,by simpa using a,h⟩
def f9.at_{i:Nat}(r:f9 K F vs ts)(e:vs[i]? = some v):∃t,ts[i]? = some t/\kb K F v t:=by
 have b:i<ts.length:=by rw[<-r.length];exact (aa.mp e).1
 obtain⟨c,a,h⟩:=r.get (ag b);rw[e]at a;cases a;exact⟨_,ag b,h⟩
theorem f9.append:∀{vs us} {ts ss},f9 K F vs ts->f9 K F us ss->f9 K F (vs++us) (ts++ss)
 |_,_,_,_,.nil,q=>q
 |_,_,_,_,.cons h r,q=>.cons h (f9.append r q)
theorem f9.set(q:kb K F v t):∀{vs} {ts} i,f9 K F vs ts->f9 K F (vs.set i v) (ts.set i t)
 |_,_,_,.nil=>.nil
 |_,_,0,.cons _ r=>.cons q r
 |_,_,i+1,.cons h r=>.cons h (f9.set q i r)
theorem f9.take:∀{vs} {ts} n,f9 K F vs ts->f9 K F (vs.take n) (ts.take n)
 |_,_,0,_=>.nil
 |_,_,_+1,.nil=>.nil
 |_,_,n+1,.cons h r=>.cons h (f9.take n r)
theorem f9.drop:∀{vs} {ts} n,f9 K F vs ts->f9 K F (vs.drop n) (ts.drop n)
 |_,_,0,r=>r
 |_,_,_+1,.nil=>.nil
 |_,_,n+1,.cons _ r=>f9.drop n r
theorem f9.rep:∀{vs} {ts} n,f9 K F vs ts->f9 K F (List.replicate n vs).flatten (List.replicate n ts).flatten
 |_,_,0,_=>.nil
 |_,_,n+1,r=>by rw[bT,bT,bU,bU];exact r.append (f9.rep n r)
theorem f9.ints:∀{vs:List V} {a:LI},f9 K F vs (a.map T.int)->vs=a.map V.int
 |_,[],.nil=>rfl
 |_,_::_,.cons h r=>by cases h;rw[f9.ints r];rfl
theorem f9.bls:∀{vs:List V} {a:List Bool},f9 K F vs (a.map T.bl)->vs=a.map V.bl
 |_,[],.nil=>rfl
 |_,_::_,.cons h r=>by cases h;rw[f9.bls r];rfl
theorem f9.of_ints:∀(a:LI),f9 K F (a.map V.int) (a.map T.int)
 |[]=>.nil
 |n::a=>.cons (.int n) (f9.of_ints a)
theorem nP.look:∀{fs} {ts},nP K F fs ts->ts.lookup f=some t->∃v,fs.lookup f=some v/\kb K F v t
 |_,_,.nil,e=>by cases e
 |_,_,.cons (x:=x) h r,e=>by
  by_cases b:f=x
  .subst b;rw[cR]at e;cases e;exact⟨_,cR,h⟩
  .have a:(f==x)=false:=by simpa using b
   rw[b9,a]at e;obtain⟨v,d,c⟩:=nP.look r e;exact⟨v,by rw[b9,a];exact d,c⟩
theorem nP.none_:∀{fs} {ts},nP K F fs ts->ts.lookup f=none->fs.lookup f=none
 |_,_,.nil,e=>rfl
 |_,_,.cons (x:=x) h r,e=>by
  by_cases a:f=x
  .subst a;rw[cR]at e;cases e
  .have b:(f==x)=false:=by simpa using a
   rw[b9,b]at e ⊢;exact nP.none_ r e
end
structure Gr(F H F' H':Hp):Prop where
 ff:f6 F F'
 fh:f6 F' H'
 hh:f6 H H'
 nw:∀a,F' a≠none->F a≠none\/H a=none\/∃xs,H a=some (.tup xs)
def Gr.refl(h:f6 F H):Gr F H F H:=⟨.refl _,h,.refl _,λ_ h=>.inl h⟩
def gw(h:f6 H H')(e:H' a=none):H a=none:=by
 cases q:H a with
 |none=>rfl
 |some o=>rw[h a o q]at e;cases e
def Gr.trans(g:Gr F H F' H')(b:Gr F' H' F'' H''):Gr F H F'' H'':=
 ⟨g.ff.trans b.ff,b.fh,g.hh.trans b.hh,λa d=>by
  rcases b.nw a d with q|q|⟨c,q⟩
  .exact g.nw a q
  .exact .inr (.inl (gw g.hh q))
  .cases z:H a with
   |none=>exact .inr (.inl rfl)
   |some o=>exact .inr (.inr ⟨c,by rw[g.hh a o z]at q;exact q⟩)⟩
def Gr.new(s:f6 F H)(h:H p=none):Gr F H (ja F p o) (ja H p o):=by
 have c:=gw s h;refine⟨λb u e=>?_,λb u e=>?_,λb u e=>?_,λb a=>?_⟩
 .rw[fT (gA e c)];exact e
 .by_cases q:b=p
  .subst q;rw[fR]at e ⊢;exact e
  .rw[fT q]at e ⊢;exact s b u e
 .rw[fT (gA e h)];exact e
 .by_cases q:b=p
  .subst q;exact .inr (.inl h)
  .rw[fT q]at a;exact .inl a
def Gr.new'(s:f6 F H)(h:H p=none):Gr F H F (ja H p o):=by
 refine⟨.refl _,λb u e=>?_,λb u e=>?_,λb a=>.inl a⟩
 .rw[fT (gA (s b u e) h)];exact s b u e
 .rw[fT (gA e h)];exact e
def Gr.take(g:Gr F0 H0 F H)(h:H p=some o)(c:F p=none)(d:H0 p=none):Gr F0 H0 (ja F p o) H:=by
 refine⟨λb u e=>?_,λb u e=>?_,g.hh,λb a=>?_⟩
 .rw[fT (gA (g.ff b u e) c)];exact g.ff b u e
 .by_cases q:b=p
  .subst q;rw[fR]at e;rw[<-e];exact h
  .rw[fT q]at e;exact g.fh b u e
 .by_cases q:b=p
  .subst q;exact .inr (.inl d)
  .rw[fT q]at a;exact g.nw b a
def jH(a:F p=none):f6 F (ja F p o):=λb u e=>by rw[fT (gA e a)];exact e
abbrev Pe:=List (Option T)
section
variable (K:W.Frag)
def lR(F:Hp)(a:St)(ρ:Pe):Prop:=∀(i:Nat) (t:T),ρ[i]? = some (some t)->∃v,a[i]? = some (some v)/\kb K F v t
def lR.mono{K:W.Frag}(h:lR K F σ ρ)(s:f6 F F'):lR K F' σ ρ:=λi t e=>let ⟨v,a,b⟩:=h i t e;⟨v,a,b.mono s⟩
def R5(E:XK)(C:Addr)(n:Option Int)(F H:Hp):Prop:=match n with
 |none=>E (.ref C) none H
 |some i=>∀a,F a=some (.xd [("at",.int i)])->E (.ref C) (some a) H
def kE(E:XK)(F H:Hp)(C:Addr)(n:Option Int):Prop:=∀b a,Gr F H b a->R5 E C n b a
def kE.go(h:kE E F H C n)(g:Gr F H F1 H1):kE E F1 H1 C n:=λb a c=>h b a (g.trans c)
def kV(F H:Hp)(Q:VK)(t:T):Prop:=∀v b a,Gr F H b a->kb K b v t->Q v a
def kB(F H:Hp)(Q:Bool->Hp->Prop)(b:Bool):Prop:=∀c a,Gr F H c a->Q b a
def kA(F H:Hp)(Q:List V->Hp->Prop)(ts:List T):Prop:=∀a c b,Gr F H c b->f9 K c a ts->Q a b
def kF(F H:Hp)(Q:VK)(ts:List T):Prop:=∀l c b a,Gr F H b a->H l=none->b l=none->a l=some (.lst c)->f9 K b c ts->Q (.ref l) a
noncomputable def ME(E:XK)(t:TE)(f:Pe->M T):Prop:=∀F H b a Q,f6 F H->lR K F b a->(f a).res (kV K F H Q) (kE E F H)->t b H Q
noncomputable def MT(E:XK)(t:TT)(f:Pe->M Bool):Prop:=∀F H b a Q,f6 F H->lR K F b a->(f a).res (kB F H Q) (kE E F H)->t b H Q
noncomputable def MA(E:XK)(t:TA)(f:Pe->M (List T)):Prop:=∀F H b a Q,f6 F H->lR K F b a->(f a).res (kA K F H Q) (kE E F H)->t b H Q
noncomputable def MF(E:XK)(t:TE)(f:Pe->M (List T)):Prop:=∀F H b a Q,f6 F H->lR K F b a->(f a).res (kF K F H Q) (kE E F H)->t b H Q
end
section
variable {K:W.Frag}{E:XK}{t u ta tb:TE}{f g fa fb:Pe->M T}
def kV.go{t:T}(h:kV K F H Q t)(g:Gr F H F1 H1):kV K F1 H1 Q t:=λv c b a r=>h v c b (g.trans a) r
def kB.go{t:Bool}(h:kB F H Q t)(g:Gr F H F1 H1):kB F1 H1 Q t:=λc b a=>h c b (g.trans a)
def kF.go{t:List T}(h:kF K F H Q t)(g:Gr F H F1 H1):kF K F1 H1 Q t:=λl i k j e a b c d=>h l i k j (g.trans e) (gw g.hh a) b c d
def kV.now{t:T}(h:kV K F H Q t)(s:f6 F H)(r:kb K F v t):Q v H:=h v F H (.refl s) r
def kF.of(h:kV K F H Q (.lst ts)):kF K F H Q ts:=λl c i d g e b a r=>h (.ref l) (ja i l (.lst c)) d (g.take a b e) (.lst fR (r.mono (jH b)))
def MF.me{f:Pe->M (List T)}(h:MF K E t f):ME K E t (λρ=>(f ρ).bind λts=>.ok (.lst ts)):=λF H a ρ Q s V r=>h F H a ρ Q s V ((M.res.unb r).mono (λts q=>kF.of q) λ_ _ z=>z)
def ME.run{k:T->M α}{P:α->Prop}(h:ME K E t f)(s:f6 F H)(v:lR K F σ ρ)(r:((f ρ).bind k).res P (kE E F H))
  (d:∀x w b a,Gr F H b a->kb K b w x->(k x).res P (kE E b a)->Q w a):t σ H Q:=
 h F H σ ρ Q s v ((M.res.unb r).mono (λx q w b a g c=>d x w b a g c (q.mono (λ_ z=>z) λ_ _ z=>z.go g)) λ_ _ z=>z)
def MT.run{t:TT}{f:Pe->M Bool}{k:Bool->M α}{P:α->Prop}(h:MT K E t f)(s:f6 F H)(v:lR K F σ ρ)(r:((f ρ).bind k).res P (kE E F H))
  (c:∀x b a,Gr F H b a->(k x).res P (kE E b a)->Q x a):t σ H Q:=
 h F H σ ρ Q s v ((M.res.unb r).mono (λx q b a g=>c x b a g (q.mono (λ_ z=>z) λ_ _ z=>z.go g)) λ_ _ z=>z)
def MA.run{t:TA}{f:Pe->M (List T)}{k:List T->M α}{P:α->Prop}(h:MA K E t f)(s:f6 F H)(v:lR K F σ ρ)(r:((f ρ).bind k).res P (kE E F H))
  (d:∀x w b a,Gr F H b a->f9 K b w x->(k x).res P (kE E b a)->Q w a):t σ H Q:=
 h F H σ ρ Q s v ((M.res.unb r).mono (λx q w b a g c=>d x w b a g c (q.mono (λ_ z=>z) λ_ _ z=>z.go g)) λ_ _ z=>z)
@[simp] noncomputable def fv(i:Nat):Pe->M T:=λa=>match a[i]? with
 |some (some t)=>.ok t
 |_=>.bad
def Nt:ME K E (lS i) (fv i):=λF H c b Q s V r=>by
 unfold fv at r;split at r
 .rename_i t e;obtain⟨v,a,h⟩:=V i t e;exact⟨v,a,r.now s h⟩
 .exact r.elim
@[simp] noncomputable def cM(t:T):Pe->M T:=λ_=>.ok t
def Hu{t:T}(h:∀F,kb K F v t):ME K E (tC v) (cM t):=λF H b a Q s V r=>kV.now r s (h F)
@[simp] noncomputable def fL(o:T->T->M T)(fa fb:Pe->M T):Pe->M T:=λa=>(fa a).bind λx=>(fb a).bind λy=>o x y
structure MR(K:W.Frag)(r:R2)(o:T->T->M T):Prop where
 ne:∀x y,M.NoE (o x y)
 ok:∀F H v w x y Q,f6 F H->kb K F v x->kb K F w y->(o x y).res (kV K F H Q) (λ_ _=>False)->r v w H Q
def Dw(hr:MR K r o)(k:ME K E ta fa)(i:ME K E tb fb):ME K E (wR r ta tb) (fL o fa fb):=λF H p m Q s V q=>by refine k.run s V q λx v n A a l e=>?_;refine i.run a.fh (V.mono a.ff) e λy w c j b d h=>?_;exact hr.ok c j v w x y Q b.fh (l.mono b.ff) d ((h.ne (hr.ne x y)).mono (λ_ z=>z.go (a.trans b)) λ_ _ z=>z)
noncomputable def kC(C:Int->Int->Bool)(g:Int->Int->T):T->T->M T
 |.int i,.int j=>if C i j then .ok (g i j) else .bad
 |_,_=>.bad
def Am{g:Int->Int->T} x y:M.NoE (kC C g x y):=λa n=>by
 unfold kC;split
 .split<;>exact λz=>nomatch z
 .exact λz=>nomatch z
def kb.int_inv(h:kb K F v (.int i)):v=.int i:=by cases h;rfl
def kb.lst_inv(h:kb K F v (.lst ts)):∃a b,v=.ref a/\F a=some (.lst b)/\f9 K F b ts:=by cases h;exact⟨_,_,rfl,‹_›,‹_›⟩
def kb.tup_inv(h:kb K F v (.tup ts)):∃a b,v=.ref a/\F a=some (.tup b)/\f9 K F b ts:=by cases h;exact⟨_,_,rfl,‹_›,‹_›⟩
def f9.two(h:f9 K F vs [.int i,.int j]):vs=[.int i,.int j]:=by
 cases h with
 |cons h t=>
  cases t with
  |cons h2 t=>cases t;rw[h.int_inv,h2.int_inv]
def yH{g:Int->Int->V}(c:∀i j,Cb i j=true->C i j)(d:∀F i j,kb K F (g i j) (gt i j)):MR K (rI C g) (kC Cb gt):=⟨Am,λF H v w x y Q s a b q=>by
 unfold kC at q;split at q
 .rename_i i j;rw[a.int_inv,b.int_inv];by_cases h:Cb i j=true
  .rw[aP h]at q;exact⟨i,j,rfl,rfl,c i j h,kV.now q s (d F i j)⟩
  .rw[aQ h]at q;exact q.elim
 .exact q.elim⟩
def rS{g:Int->Int->V}(c:∀F i j,kb K F (g i j) (gt i j)):MR K (BY g) (kC (λ_ _=>true) gt):=⟨Am,λF H v w x y Q s a b q=>by
 unfold kC at q;split at q
 .rw[a.int_inv,b.int_inv];exact⟨_,_,rfl,rfl,kV.now q s (c F _ _)⟩
 .exact q.elim⟩
@[simp] noncomputable def uL(o:Int->T)(fa:Pe->M T):Pe->M T:=λa=>(fa a).bind λx=>match x with
 |.int i=>.ok (o i)
 |_=>.bad
def Ph{g:Int->V}(c:∀F i,kb K F (g i) (gt i))(h:ME K E ta fa):ME K E (Rk (rU g) ta) (uL gt fa):=λF H l k Q s V q=>by
 refine h.run s V q λx v a e d j b=>?_;cases j<;>first
  |exact b.elim
  |exact⟨_,rfl,b _ a e d (c a _)⟩
@[simp] noncomputable def gD(fa:Pe->M T):Pe->M Bool:=λa=>(fa a).bind λx=>match x with
 |.bl b=>.ok b
 |_=>.bad
def Jf(h:ME K E ta fa):MT K E (tB ta) (gD fa):=λF H j i Q s V q=>by
 refine h.run s V q λx v c d b e a=>?_;cases e<;>first
  |exact a.elim
  |exact⟨_,rfl,a c d b⟩
def Lm(a:ME K E ta fa):MT K E (AN ta) (gD fa):=Jf a
section
variable {c d:TT}{fc fd:Pe->M Bool}
@[simp] noncomputable def l8(fc fd:Pe->M Bool):Pe->M Bool:=λa=>(fc a).bind λb=>if b then fd a else .ok false
@[simp] noncomputable def t9(fc fd:Pe->M Bool):Pe->M Bool:=λa=>(fc a).bind λb=>if b then .ok true else fd a
@[simp] noncomputable def lq(fc:Pe->M Bool):Pe->M Bool:=λa=>(fc a).bind λb=>.ok (!b)
def M8(j:MT K E c fc)(l:MT K E d fd):MT K E (Jk c d) (l8 fc fd):=λF H m k Q s V q=>by
 refine j.run s V q λb e h a i=>?_;cases b with
 |true=>rw[aP rfl];exact l e h m k Q a.fh (V.mono a.ff) (i.mono (λ_ z=>z.go a) λ_ _ z=>z)
 |false=>rw[aQ aG];exact i e h a
def QD(j:MT K E c fc)(l:MT K E d fd):MT K E (Rx c d) (t9 fc fd):=λF H m k Q s V q=>by
 refine j.run s V q λb e h a i=>?_;cases b with
 |true=>rw[aP rfl];exact i e h a
 |false=>rw[aQ aG];exact l e h m k Q a.fh (V.mono a.ff) (i.mono (λ_ z=>z.go a) λ_ _ z=>z)
def NS(a:MT K E c fc):MT K E (JC c) (lq fc):=λF H l k Q s V q=>by refine a.run s V q λb h i e j=>?_;exact j h i e
@[simp] noncomputable def Pw(fc:Pe->M Bool)(fa fb:Pe->M T):Pe->M T:=λa=>(fc a).bind λb=>if b then fa a else fb a
def QG(m:MT K E c fc)(n:ME K E ta fa)(l:ME K E tb fb):ME K E (Q5 c ta tb) (Pw fc fa fb):=λF H j e Q s V q=>by
 refine m.run s V q λb h i a k=>?_;cases b with
 |true=>rw[aP rfl];exact n h i j e Q a.fh (V.mono a.ff) (k.mono (λ_ z=>z.go a) λ_ _ z=>z)
 |false=>rw[aQ aG];exact l h i j e Q a.fh (V.mono a.ff) (k.mono (λ_ z=>z.go a) λ_ _ z=>z)
end
@[simp] noncomputable def Fd(fa fb:Pe->M T):Pe->M T:=λa=>(gD fa a).bind λb=>if b then fb a else .ok (.bl false)
@[simp] noncomputable def RN(fa fb:Pe->M T):Pe->M T:=λa=>(gD fa a).bind λb=>if b then .ok (.bl true) else fb a
@[simp] noncomputable def FQ(fa:Pe->M T):Pe->M T:=λa=>(gD fa a).bind λb=>.ok (.bl (!b))
def Lk(k:ME K E ta fa)(h:ME K E tb fb):ME K E (GV ta tb) (Fd fa fb):=λF H j i Q s V q=>by
 refine (Jf k).run s V q λb c d a e=>?_;cases b with
 |true=>rw[aP rfl];exact h c d j i Q a.fh (V.mono a.ff) (e.mono (λ_ z=>z.go a) λ_ _ z=>z)
 |false=>rw[aQ aG];exact e _ c d a (.bl _)
def ML(k:ME K E ta fa)(h:ME K E tb fb):ME K E (HL ta tb) (RN fa fb):=λF H j i Q s V q=>by
 refine (Jf k).run s V q λb c d a e=>?_;cases b with
 |true=>rw[aP rfl];exact e _ c d a (.bl _)
 |false=>rw[aQ aG];exact h c d j i Q a.fh (V.mono a.ff) (e.mono (λ_ z=>z.go a) λ_ _ z=>z)
def KG(e:ME K E ta fa):ME K E (CS ta) (FQ fa):=λF H j i Q s V q=>by refine (Jf e).run s V q λb c d a h=>?_;exact h _ c d a (.bl _)
@[simp] noncomputable def fj(fa:Pe->M T)(fr:Pe->M (List T)):Pe->M (List T):=λa=>(fa a).bind λx=>(fr a).bind λb=>.ok (x::b)
@[simp] noncomputable def fC:Pe->M (List T):=λ_=>.ok []
def CD:MA K E qr fC:=λF H b a Q s V q=>q [] F H (.refl s) .nil
def Kk{b:TA}{fr:Pe->M (List T)}(l:ME K E ta fa)(hr:MA K E b fr):MA K E (kY ta b) (fj fa fr):=λF H p n Q s V q=>by refine l.run s V q λx v o w a m h=>?_;refine hr.run a.fh (V.mono a.ff) h λr k d j c e i=>?_;exact i (v::k) d j (a.trans c) (.cons (m.mono c.ff) e)
@[simp] noncomputable def AH(ts:List T):M (List T):=if ts.length<=sizeLine then .ok ts else .bad
@[simp] noncomputable def iL(fr:Pe->M (List T)):Pe->M T:=λb=>(fr b).bind λa=>(AH a).bind λa=>.ok (.tup a)
@[simp] noncomputable def lstM(fr:Pe->M (List T)):Pe->M (List T):=λa=>(fr a).bind AH
def MZ{c:TA}{fr:Pe->M (List T)}(hr:MA K E c fr):ME K E (LA c) (iL fr):=λF H l j Q s V q=>by
 refine hr.run s V q λi n k m b e a=>?_;unfold AH at a;by_cases h:i.length<=sizeLine
 .rw[aP h]at a;refine⟨by rw[e.length];exact h,λp d=>?_⟩;exact a (.ref p) _ _ (b.trans (.new b.fh d)) (.tup fR (e.mono (Gr.new b.fh d).ff))
 .rw[aQ h]at a;exact a.elim
def NX{d:TA}{fr:Pe->M (List T)}(hr:MA K E d fr):MF K E (NA d) (lstM fr):=λF H m l Q s V q=>by
 refine hr.run s V q λj k i n b e a=>?_;unfold AH at a;by_cases h:j.length<=sizeLine
 .rw[aP h]at a;refine⟨by rw[e.length];exact h,λp c=>?_⟩;exact a p k i _ (b.trans (.new' b.fh c)) (gw b.hh c) (gw b.fh c) fR e
 .rw[aQ h]at a;exact a.elim
end
end L3
namespace L3
open PySem L2
inductive W where
 |p (t:T)|o (ts:List T)|d (kvs:List (LI×T))
abbrev En:=List (Option W)
@[simp] def RM:Option W->Option T
 |some (.p t)=>some t
 |_=>none
@[simp] def RV:Option W->Option T
 |some (.p t)=>some t
 |some (.o ts)=>some (.lst ts)
 |_=>none
@[simp] noncomputable def nH(ρ:En):Pe:=ρ.map RM
@[simp] noncomputable def vw(ρ:En):Pe:=ρ.map RV
mutual
@[simp] noncomputable def lf:T->Bool
 |.lst _=>false
 |.scr _=>false
 |.dic _=>false
 |.tup ts=>FF ts
 |.obj _ fs=>Q3 fs
 |_=>true
@[simp] noncomputable def FF:List T->Bool
 |[]=>true
 |t::ts=>lf t&&FF ts
noncomputable def Q3:List (Str×T)->Bool
 |[]=>true
 |t::ts=>lf t.2&&Q3 ts
end
structure Fz where
 hp:Hp
 lt:List (Nat×Addr×List V)
instance:Coe Fz Hp:=⟨Fz.hp⟩
structure Lv(H0 F H:Hp)(σ:St)(ρ:En)(e:Nat×Addr×List V):Prop where
 h:H e.2.1=some (.lst e.2.2)
 f:F e.2.1=none
 z:H0 e.2.1=none
 d:∀(i:Nat) (ts:List T),ρ[i]? = some (some (.o ts))->σ[i]?≠some (some (.ref e.2.1))
def DR(K:W.Frag)(F:Hp)(b:List (List qH×V))(a:List (LI×T)):Prop:=Paired (λ(p:List qH×V) (q:LI×T)=>p.1=q.1.map Sum.inl/\kb K F p.2 q.2) b a
def DR.mono(s:f6 F F')(h:DR K F xs kvs):DR K F' xs kvs:=Paired.imp' (λ_ _ q=>⟨q.1,q.2.mono s⟩) h
structure Dv(K:W.Frag)(H0 F H:Hp)(σ:St)(ρ:En):Prop where
 at_:∀(i:Nat) kvs,ρ[i]? = some (some (.d kvs))->∃a,σ[i]? = some (some (.ref a))/\F a=none/\H0 a=none/\∃xs,H a=some (.dT xs)/\DR K F xs kvs
 dj:∀(i j:Nat) kvs kvs',ρ[i]? = some (some (.d kvs))->ρ[j]? = some (some (.d kvs'))->i≠j->σ[i]?≠σ[j]?
def Ei{a:Type}{l:List a}{x y:a}(h:(l.set i x)[i]? = some y):y=x:=by
 rw[List.getElem?_set]at h;simp only[if_true]at h;split at h
 .exact (Option.some.inj h).symm
 .cases h
def Ek{a:Type}{l:List a}{x y:a}(h:(l.set i x)[j]? = some y):(j=i/\y=x)\/(j≠i/\l[j]? = some y):=by
 by_cases e:j=i
 .subst e;exact .inl ⟨rfl,Ei h⟩
 .rw[aq (λz=>e z.symm)]at h;exact .inr ⟨e,h⟩
def Dv.heap(d:Dv K H0 F H σ ρ)(s:f6 F F')(h:∀a b,H a=some (.dT b)->F a=none->F' a=none/\H' a=some (.dT b)):Dv K H0 F' H' σ ρ:=⟨λi c e=>let ⟨a,e1,e2,e3,b,e4,e5⟩:=d.at_ i c e;let ⟨h1,h2⟩:=h a b e4 e2;⟨a,e1,h1,e3,b,h2,e5.mono s⟩,d.dj⟩
def Dv.set(d:Dv K H0 F H σ ρ)(hw:∀b,w≠some (.d b)):Dv K H0 F H (σ.set i v) (ρ.set i w):=by
 refine⟨λj b e=>?_,λj k b c e n f=>?_⟩
 .rcases Ek e with⟨rfl,q⟩|⟨h,q⟩
  .exact absurd q.symm (hw b)
  .obtain⟨a,l,r⟩:=d.at_ j b q;exact⟨a,by rw[aq (λz=>h z.symm)];exact l,r⟩
 .rcases Ek e with⟨rfl,q⟩|⟨h,q⟩
  .exact absurd q.symm (hw b)
  .rcases Ek n with⟨rfl,g⟩|⟨m,g⟩
   .exact absurd g.symm (hw c)
   .rw[aq (λz=>h z.symm),aq (λz=>m z.symm)];exact d.dj j k b c q g f
def Dv.setR(d:Dv K H0 F H σ ρ)(hw:∀a,w≠some (.d a)):Dv K H0 F H σ (ρ.set i w):=by
 refine⟨λj a e=>?_,λj k a b e h c=>?_⟩
 .rcases Ek e with⟨rfl,q⟩|⟨g,q⟩
  .exact absurd q.symm (hw a)
  .exact d.at_ j a q
 .rcases Ek e with⟨rfl,q⟩|⟨g,q⟩
  .exact absurd q.symm (hw a)
  .rcases Ek h with⟨rfl,f⟩|⟨l,f⟩
   .exact absurd f.symm (hw b)
   .exact d.dj j k a b q f c
structure Sr(K:W.Frag)(F0:Fz)(H0 F H:Hp)(σ:St)(ρ:En):Prop where
 gr:Gr F0.hp H0 F H
 len:σ.length=ρ.length
 pv:∀(i:Nat) (t:T),ρ[i]? = some (some (.p t))->∃v,σ[i]? = some (some v)/\kb K F v t
 ov:∃ad:Nat->Addr,(∀(i:Nat) (ts:List T),ρ[i]? = some (some (.o ts))->σ[i]? = some (some (.ref (ad i)))/\F (ad i)=none/\H0 (ad i)=none/\∃vs,H (ad i)=some (.lst vs)/\f9 K F vs ts)/\
  ∀(i j:Nat) (ts us:List T),ρ[i]? = some (some (.o ts))->ρ[j]? = some (some (.o us))->i≠j->ad i≠ad j
 lv:∀e∈F0.lt,Lv H0 F H σ ρ e
 sl:∀(j:Nat) (l:Addr) (vs:List V),F0.lt.lookup j=some (l,vs)->ρ[j]? = some none->σ[j]? = some (some (.ref l))
 dv:Dv K H0 F H σ ρ
section
variable {K:W.Frag}{F0:Fz}{H0 F H F' H':Hp}{σ:St}{ρ:En}
def Sr.vars(r:Sr K F0 H0 F H σ ρ):lR K F σ (nH ρ):=λi t e=>by
 unfold nH at e;rw[av]at e;cases q:ρ[i]? with
 |none=>rw[q]at e;cases e
 |some w=>
  rw[q]at e;cases w with
  |none=>cases e
  |some w=>
   cases w with
   |p t'=>cases e;exact r.pv i _ q
   |o ts=>cases e
   |d kvs=>cases e
def Sr.grow(r:Sr K F0 H0 F H σ ρ)(g:Gr F H F' H'):Sr K F0 H0 F' H' σ ρ:=by
 obtain⟨j,m,s⟩:=r.ov;refine⟨r.gr.trans g,r.len,λi t e=>?_,⟨j,λi n e=>?_,s⟩,λe p=>?_,r.sl,r.dv.heap g.ff λa x k o=>⟨?_,g.hh _ _ k⟩⟩
 .obtain⟨v,a,b⟩:=r.pv i t e;exact⟨v,a,b.mono g.ff⟩
 .obtain⟨a,b,c,l,d,q⟩:=m i n e;refine⟨a,?_,c,l,g.hh _ _ d,q.mono g.ff⟩;cases z:F' (j i) with
  |none=>rfl
  |some u=>
   rcases g.nw (j i) (by rw[z];exact λw=>nomatch w) with y|y|⟨_,y⟩
   .exact absurd b y
   .rw[d]at y;cases y
   .rw[d]at y;cases y
 .have L:=r.lv e p;refine⟨g.hh _ _ L.h,?_,L.z,L.d⟩;cases z:F' e.2.1 with
  |none=>rfl
  |some u=>
   rcases g.nw e.2.1 (by rw[z];exact λw=>nomatch w) with y|y|⟨_,y⟩
   .exact absurd L.f y
   .rw[L.h]at y;cases y
   .rw[L.h]at y;cases y
 .cases z:F' a with
  |none=>rfl
  |some u=>
   rcases g.nw a (by rw[z];exact λw=>nomatch w) with y|y|⟨_,y⟩
   .exact absurd o y
   .rw[k]at y;cases y
   .rw[k]at y;cases y
theorem Sr.lend(r:Sr K F0 H0 F H σ ρ):∃k,f6 F k/\Gr F0.hp H0 k H/\lR K k σ (vw ρ)/\
  (∀F' H',Gr k H F' H'->∃j,Gr F H j H'/\f6 F j/\f6 j F'/\(∀a,F' a≠none->j a=none->∃L,F' a=some (.lst L))/\(∀a,F' a≠none->j a=none->H a≠none)):=by
 classical
 obtain⟨I,m,N⟩:=r.ov;let f:Addr->Prop:=λa=>∃i h,ρ[i]? = some (some (.o h))/\I i=a;let k:Hp:=λa=>if f a then H a else F a
 have x:f6 F k:=λa o e=>by
  have:¬f a:=by rintro⟨i,h,q,rfl⟩;obtain⟨_,b,_⟩:=m i h q;rw[b]at e;cases e
  show (if f a then H a else F a)=some o;rw[aQ this];exact e
 have J:f6 k H:=λa o e=>by
  by_cases q:f a
  .have s:(if f a then H a else F a)=some o:=e;rw[aP q]at s;exact s
  .have s:(if f a then H a else F a)=some o:=e;rw[aQ q]at s;exact r.gr.fh a o s
 have E:∀a,f a->k a=H a:=λa q=>aP q;have A:∀a,¬f a->k a=F a:=λa q=>aQ q;refine⟨k,x,⟨r.gr.ff.trans x,J,r.gr.hh,λa l=>?_⟩,λi t e=>?_,λF' H' g=>?_⟩
 .by_cases q:f a
  .obtain⟨i,h,e,rfl⟩:=q;exact .inr (.inl (m i h e).2.2.1)
  .rw[A a q]at l;exact r.gr.nw a l
 .unfold vw at e;rw[av]at e;cases q:ρ[i]? with
  |none=>rw[q]at e;cases e
  |some w=>
   rw[q]at e;cases w with
   |none=>cases e
   |some w=>
    cases w with
    |p t'=>cases e;obtain⟨v,a,b⟩:=r.pv i _ q;exact⟨v,a,b.mono x⟩
    |o h=>cases e;obtain⟨a,b,c,y,d,z⟩:=m i h q;exact⟨_,a,.lst (by rw[E _ ⟨i,h,q,rfl⟩];exact d) (z.mono x)⟩
    |d kvs=>cases e
 .let j:Hp:=λa=>if f a then none else F' a
  have n:∀a,¬f a->j a=F' a:=λa q=>aQ q;have C:∀a,f a->j a=none:=λa q=>aP q;have D:f6 F j:=λa o e=>by
   have:¬f a:=by rintro⟨i,h,q,rfl⟩;obtain⟨_,b,_⟩:=m i h q;rw[b]at e;cases e
   rw[n a this];exact g.ff _ _ (x _ _ e)
  have B:f6 j F':=λa o e=>by
   by_cases q:f a
   .rw[C a q]at e;cases e
   .rw[n a q]at e;exact e
  refine⟨j,⟨D,B.trans g.fh,g.hh,λa l=>?_⟩,D,B,λa l u=>?_,λa l u=>?_⟩
  .by_cases q:f a
   .exact absurd (C a q) l
   .rw[n a q]at l;rcases g.nw a l with z|z
    .rw[A a q]at z;exact .inl z
    .exact .inr z
  .by_cases q:f a
   .obtain⟨i,h,e,rfl⟩:=id q;obtain⟨_,_,_,y,d,_⟩:=m i h e;exact⟨y,g.ff _ _ (by rw[E _ q];exact d)⟩
   .rw[n a q]at u;exact absurd u l
  .by_cases q:f a
   .obtain⟨i,h,e,rfl⟩:=id q;obtain⟨_,_,_,y,d,_⟩:=m i h e;rw[d];exact λz=>nomatch z
   .rw[n a q]at u;exact absurd u l
mutual
theorem kb.less(c:f6 Fb F)(h:∀a,F a≠none->Fb a=none->∃d,F a=some (.lst d)):∀{v} {t},kb K F v t->lf t=true->kb K Fb v t
 |_,_,.non,_=>.non
 |_,_,.bl b,_=>.bl b
 |_,_,.int i,_=>.int i
 |_,_,.str x,_=>.str x
 |_,_,.tup (a:=a) e r,l=>by
  refine .tup ?_ (f9.less c h r (by simpa[lf] using l));cases q:Fb a with
  |none=>obtain⟨d,z⟩:=h a (by rw[e];exact λz=>nomatch z) q;rw[e]at z;cases z
  |some u=>rw[<-e];exact (c a u q).symm
 |_,_,.lst _ _,l=>by simp[lf]at l
 |_,_,.scr _,l=>by simp[lf]at l
 |_,_,.obj (a:=a) (dx:=dx) e r,l=>by
  refine .obj (dx:=dx) ?_ (nP.less c h r (by simpa[lf] using l));cases q:Fb a with
  |none=>obtain⟨d,z⟩:=h a (by rw[e];exact λz=>nomatch z) q;rw[e]at z;cases z
  |some u=>rw[<-e];exact (c a u q).symm
 |_,_,.dic _ _,l=>by simp[lf]at l
 |_,_,.emp (a:=a) e,l=>by
  refine .emp ?_;cases q:Fb a with
  |none=>obtain⟨d,z⟩:=h a (by rw[e];exact λz=>nomatch z) q;rw[e]at z;cases z
  |some u=>rw[<-e];exact (c a u q).symm
theorem f9.less(b:f6 Fb F)(h:∀a,F a≠none->Fb a=none->∃c,F a=some (.lst c)):∀{vs} {ts},f9 K F vs ts->FF ts=true->f9 K Fb vs ts
 |_,_,.nil,_=>.nil
 |_,_,.cons q r,l=>by rw[FF,bP]at l;exact .cons (kb.less b h q l.1) (f9.less b h r l.2)
theorem nP.less(b:f6 Fb F)(h:∀a,F a≠none->Fb a=none->∃c,F a=some (.lst c)):∀{vs} {ts},nP K F vs ts->Q3 ts=true->nP K Fb vs ts
 |_,_,.nil,_=>.nil
 |_,_,.cons q r,l=>by rw[Q3,bP]at l;exact .cons (kb.less b h q l.1) (nP.less b h r l.2)
end
end
end L3
namespace L3
open PySem L2
def kT(K:W.Frag)(F H:Hp)(Q:VK)(ts us:List T):Prop:=∀p l d c a b,Gr F H a b->H l=none->a l=none->H p=none->a p=none->p≠l->b l=some (.lst c)->b p=some (.tup (d++[.ref l]))->f9 K a d ts->f9 K a c us->Q (.ref p) b
def kT.of(h:kV K F H Q (.tup (ts++[.lst us]))):kT K F H Q ts us:=λp l s k j v g a b c d e f i r u=>by
 have q:=g.take f b a;have n:ja j l (.lst k) p=none:=by rw[fT e];exact d
 have o:f6 j (ja j l (.lst k)):=jH b;have m:f6 (ja j l (.lst k)) (ja (ja j l (.lst k)) p (.tup (s++[.ref l]))):=jH n;exact h (.ref p) _ v (q.take i n c) (.tup fR ((r.mono (o.trans m)).append (.cons (.lst (m _ _ fR) (u.mono (o.trans m))) .nil)))
inductive O where
 |bad|nx (ρ:En)|rt (t:T)|rf (ts:List T)|rn (ts us:List T)|bk (ρ:En)|ct (ρ:En)|er (C:Addr) (n:Option Int)
section
variable (K:W.Frag)(E:XK)
def kN(e:Fz)(d F:Hp)(D:St->Hp->Prop)(ρ:En):Prop:=∀c b a,f6 F c->Sr K e d c b a ρ->D a b
noncomputable def O.res(o:O)(b:Fz)(a F:Hp)(D:oZ):Prop:=match o with
 |.bad=>False
 |.nx ρ=>kN K b a F D.nx ρ
 |.rt t=>kV K b.hp a D.rt t
 |.rf ts=>kF K b.hp a D.rt ts
 |.rn ts us=>kT K b.hp a D.rt ts us
 |.bk ρ=>kN K b a F D.bk ρ
 |.ct ρ=>kN K b a F D.ct ρ
 |.er C n=>kE E b.hp a C n
noncomputable def MS(t:TS)(g:En->O):Prop:=∀d b F H c a D,Sr K d b F H c a->(g a).res K E d b F D->t D c H
end
section
variable {K:W.Frag}{E:XK}{t u ta tb:TE}{f fa fb:Pe->M T}{F0:Fz}{H0 F H F1 H1:Hp}{σ:St}{ρ:En}{D:oZ}
def kN.go(h:kN K F0 H0 F N ρ)(s:f6 F F1):kN K F0 H0 F1 N ρ:=λd b a c r=>h d b a (s.trans c) r
def O.res.go{o:O}(h:o.res K E F0 H0 F D)(s:f6 F F1):o.res K E F0 H0 F1 D:=by
 cases o with
 |bad=>exact h
 |nx ρ=>exact kN.go h s
 |rt t=>exact h
 |rf ts=>exact h
 |rn ts us=>exact h
 |bk ρ=>exact kN.go h s
 |ct ρ=>exact kN.go h s
 |er C n=>exact h
noncomputable def O.of{b:Type}(m:M b)(k:b->O):O:=match m with
 |.bad=>.bad
 |.ok a=>k a
 |.er C n=>.er C n
@[simp] theorem O.of_ok(a:α) k:O.of (.ok a) k=k a:=rfl
@[simp] theorem O.of_bad k:O.of (.bad:M α) k=.bad:=rfl
@[simp] theorem O.of_er C n k:O.of (.er C n:M α) k=.er C n:=rfl
def O.res_of{m:M α}{k:α->O}(h:(O.of m k).res K E F0 H0 F D):m.res (λa=>(k a).res K E F0 H0 F D) (kE E F0.hp H0):=by cases m<;>exact h
@[simp] noncomputable def fO(a b:En->O):En->O:=λρ=>match a ρ with
 |.nx ρ'=>b ρ'
 |o=>o
def OK{t u:TS}(d:MS K E t a)(h:MS K E u b):MS K E (zd t u) (fO a b):=λF0 H0 F H σ ρ D r q=>by
 refine d F0 H0 F H σ ρ _ r ?_;unfold fO at q;cases e:a ρ with
 |nx ρ'=>rw[e]at q;intro j i c s g;exact h F0 H0 j i c ρ' D g (q.go s)
 |bad=>rw[e]at q;exact q
 |rt t=>rw[e]at q;exact q
 |rf ts=>rw[e]at q;exact q
 |rn ts us=>rw[e]at q;exact q
 |bk ρ=>rw[e]at q;exact q
 |ct ρ=>rw[e]at q;exact q
 |er C n=>rw[e]at q;exact q
@[simp] noncomputable def gG:En->O:=λρ=>.nx ρ
def Ll:MS K E Hv gG:=λF0 H0 F H σ ρ D r q=>q F H σ (.refl _) r
def AM:MS K E zg (λ_=>.bad):=λ_ _ _ _ _ _ _ _ q=>q
def MT.inS(l:MT K E c fc)(r:Sr K F0 H0 F H σ ρ)(q:(O.of (fc (vw ρ)) k).res K E F0 H0 F D)
  (o:∀b e d,f6 F e->Sr K F0 H0 e d σ ρ->(k b).res K E F0 H0 e D->Q b d):c σ H Q:=by
 obtain⟨j,p,g0,V,a⟩:=r.lend;refine l j H σ (vw ρ) Q g0.fh V ((O.res_of q).mono (λb z e d g=>?_) λC n z=>z.go g0);obtain⟨i,m,h,_⟩:=a e d g;exact o b i d h (r.grow m) (z.go h)
@[simp] noncomputable def jT(d:Pe->M Bool)(a b:En->O):En->O:=λρ=>.of (d (vw ρ)) λc=>if c then a ρ else b ρ
def Qj{t u:TS}(g:MT K E c fc)(h:MS K E t a)(i:MS K E u b):MS K E (NQ c t u) (jT fc a b):=λF0 H0 F H σ ρ D r q=>by
 refine g.inS r q λc k j s e d=>?_;cases c with
 |true=>rw[aP rfl];exact h _ _ _ _ _ _ _ e d
 |false=>rw[aQ aG];exact i _ _ _ _ _ _ _ e d
@[simp] noncomputable def gN(f:Pe->M T):En->O:=λρ=>.of (f (vw ρ)) λt=>.rt t
def Ob(h:ME K E t f):MS K E (yY t) (gN f):=λF0 H0 F H σ ρ D r q=>by obtain⟨c,d,g0,V,a⟩:=r.lend;exact h c H σ (vw ρ) _ g0.fh V ((O.res_of q).mono (λb z=>kV.go z g0) λC n z=>z.go g0)
@[simp] noncomputable def rV(f:Pe->M (List T)):En->O:=λρ=>.of (f (vw ρ)) λt=>.rf t
def KI{f:Pe->M (List T)}(h:MF K E t f):MS K E (yY t) (rV f):=λF0 H0 F H σ ρ D r q=>by obtain⟨c,d,g0,V,a⟩:=r.lend;exact h c H σ (vw ρ) _ g0.fh V ((O.res_of q).mono (λb z=>kF.go z g0) λC n z=>z.go g0)
@[simp] noncomputable def oJ(i:Nat):En->O:=λρ=>match ρ[i]? with
 |some (some (.o ts))=>.rf ts
 |_=>.bad
def DY:MS K E (yY (lS i)) (oJ i):=λF0 H0 F H σ ρ D r q=>by
 unfold oJ at q;split at q
 .rename_i k e;obtain⟨g,j,l⟩:=r.ov;obtain⟨a,b,c,h,d,z⟩:=j i k e;exact⟨_,a,q (g i) h F H r.gr c b d z⟩
 .exact q.elim
def rT{a:Type}{l:List a}{x y:a}(h:(l.set i x)[i]? = some y):y=x:=by
 rw[List.getElem?_set]at h;simp only[if_true]at h;split at h
 .exact (Option.some.inj h).symm
 .cases h
def fU{a:Type}{l:List a}{x y:a}(h:(l.set i x)[j]? = some y):(j=i/\y=x)\/(j≠i/\l[j]? = some y):=by
 by_cases e:j=i
 .subst e;exact .inl ⟨rfl,rT h⟩
 .rw[aq (λz=>e z.symm)]at h;exact .inr ⟨e,h⟩
def qd{a:Type}{l:List a}{x:a}(h:i<l.length):(l.set i x)[i]? = some x:=by rw[List.getElem?_set_self h]
def Sr.setP(r:Sr K F0 H0 F H σ ρ)(h:kb K F v x):Sr K F0 H0 F H (σ.set i (some v)) (ρ.set i (some (.p x))):=by
 obtain⟨s,C,N⟩:=r.ov;refine⟨r.gr,by simp[r.len],λj t e=>?_,⟨s,λj m e=>?_,λj k m I e B=>?_⟩,λe J=>?_,λj l A o q=>?_,r.dv.set λ_ z=>nomatch z⟩
 .have y:j<ρ.length:=by simpa using (aa.mp e).1
  rcases fU e with⟨rfl,q⟩|⟨c,q⟩
  .cases q;exact⟨v,qd (by rw[r.len];exact y),h⟩
  .obtain⟨w,a,b⟩:=r.pv j t q;exact⟨w,by rw[aq (λz=>c z.symm)];exact a,b⟩
 .rcases fU e with⟨rfl,q⟩|⟨c,q⟩
  .cases q
  .obtain⟨a,b⟩:=C j m q;exact⟨by rw[aq (λz=>c z.symm)];exact a,b⟩
 .rcases fU e with⟨rfl,q⟩|⟨c,q⟩
  .cases q
  .rcases fU B with⟨rfl,n⟩|⟨P,n⟩
   .cases n
   .exact N j k m I q n
 .have L:=r.lv e J;refine⟨L.h,L.f,L.z,λj m q=>?_⟩;rcases fU q with⟨rfl,g⟩|⟨c,g⟩
  .cases g
  .rw[aq (λz=>c z.symm)];exact L.d j m g
 .rcases fU q with⟨rfl,g⟩|⟨c,g⟩
  .cases g
  .rw[aq (λz=>c z.symm)];exact r.sl j l A o g
def Sr.setO(r:Sr K F0 H0 F H σ ρ)(g:Gr F H F1 H1)(x:H l=none)(hf:F1 l=none)(hv:H1 l=some (.lst vs))(hr:f9 K F1 vs ts) :
  Sr K F0 H0 F1 H1 (σ.set i (some (.ref l))) (ρ.set i (some (.o ts))):=by
 have v:=r.grow g;obtain⟨B,C,_⟩:=r.ov;obtain⟨y,S,h2⟩:=v.ov;have X:∀j m,ρ[j]? = some (some (.o m))->y j≠l:=λj m e z=>by
  obtain⟨a,_⟩:=S j m e;obtain⟨Q,_,_,Z,P,_⟩:=C j m e;rw[a]at Q;have:y j=B j:=by simpa using Q
  rw[<-this,z,x]at P;cases P
 refine⟨v.gr,by simp[r.len],λj t e=>?_,⟨λj=>if j=i then l else y j,λj m e=>?_,λj k m U e R s=>?_⟩,λe Y=>?_,λj l' I A q=>?_,v.dv.set λ_ z=>nomatch z⟩
 .rcases fU e with⟨rfl,q⟩|⟨c,q⟩
  .cases q
  .obtain⟨w,a,b⟩:=v.pv j t q;exact⟨w,by rw[aq (λz=>c z.symm)];exact a,b⟩
 .have N:j<ρ.length:=by simpa using (aa.mp e).1
  rcases fU e with⟨rfl,q⟩|⟨c,q⟩
  .cases q;dsimp only;rw[aP rfl];exact⟨qd (by rw[r.len];exact N),hf,gw r.gr.hh x,vs,hv,hr⟩
  .dsimp only;rw[aQ c];obtain⟨a,b⟩:=S j m q;exact⟨by rw[aq (λz=>c z.symm)];exact a,b⟩
 .rcases fU e with⟨rfl,q⟩|⟨c,q⟩
  .rcases fU R with⟨rfl,p⟩|⟨J,p⟩
   .exact absurd rfl s
   .dsimp only;rw[aP rfl,aQ J];exact λz=>X k U p z.symm
  .rcases fU R with⟨rfl,p⟩|⟨J,p⟩
   .dsimp only;rw[aQ c,aP rfl];exact X j m q
   .dsimp only;rw[aQ c,aQ J];exact h2 j k m U q p s
 .have L:=v.lv e Y;have L0:=r.lv e Y;refine⟨L.h,L.f,L.z,λj ts q=>?_⟩;rcases fU q with⟨rfl,n⟩|⟨c,n⟩
  .intro z;have z':=rT z;have:e.2.1=l:=by simpa using z'
   rw[<-this,L0.h]at x;cases x
  .rw[aq (λz=>c z.symm)];exact L.d j ts n
 .rcases fU q with⟨rfl,n⟩|⟨c,n⟩
  .cases n
  .rw[aq (λz=>c z.symm)];exact r.sl j l' I A n
@[simp] noncomputable def g9(f:Pe->M T)(ρ:En):M T:=f (nH ρ)
@[simp] noncomputable def m9(f:Pe->M T)(ρ:En):M T:=(f (vw ρ)).bind λt=>if lf t then .ok t else .bad
def ME.inH(h:ME K E t f)(r:Sr K F0 H0 F H σ ρ)(q:(O.of (g9 f ρ) k).res K E F0 H0 F D)
  (d:∀x v a b,Gr F H a b->kb K a v x->Sr K F0 H0 a b σ ρ->(k x).res K E F0 H0 a D->Q v b):t σ H Q:=
 h F H σ (nH ρ) Q r.gr.fh r.vars ((O.res_of q).mono (λx z v a b g c=>d x v a b g c (r.grow g) (z.go g.ff)) λC n z=>z.go r.gr)
def ME.inB(h:ME K E t f)(r:Sr K F0 H0 F H σ ρ)(q:(O.of (m9 f ρ) k).res K E F0 H0 F D)
  (p:∀x v b a,Gr F H b a->kb K b v x->Sr K F0 H0 b a σ ρ->(k x).res K E F0 H0 b D->Q v a):t σ H Q:=by
 obtain⟨m,w,g0,V,c⟩:=r.lend;refine h m H σ (vw ρ) Q g0.fh V ((M.res.unb (O.res_of q)).mono (λx z v b a g o=>?_) λC n z=>z.go g0);obtain⟨l,j,s,i,d,_⟩:=c b a g;by_cases e:lf x=true
 .rw[aP e]at z;exact p x v l a j (o.less i d e) (r.grow j) (O.res.go z s)
 .rw[aQ e]at z;exact z.elim
@[simp] noncomputable def setO(i:Nat)(f:En->M T):En->O:=λρ=>.of (f ρ) λt=>.nx (ρ.set i (some (.p t)))
def CT(h:ME K E t f):MS K E (mG t (jj i)) (setO i (g9 f)):=λF0 H0 F H σ ρ D r q=>h.inH r q λx v d c g a e b=>b d c _ (.refl _) (e.setP a)
def K2(h:ME K E t f):MS K E (mG t (jj i)) (setO i (m9 f)):=λF0 H0 F H σ ρ D r q=>h.inB r q λx v d c g a e b=>b d c _ (.refl _) (e.setP a)
@[simp] noncomputable def oS(f:Pe->M (List T))(ρ:En):M (List T):=f (nH ρ)
@[simp] noncomputable def wY(f:Pe->M (List T))(ρ:En):M (List T):=(f (vw ρ)).bind λa=>if FF a then .ok a else .bad
def MF.inH{f:Pe->M (List T)}(h:MF K E t f)(r:Sr K F0 H0 F H σ ρ)(q:(O.of (oS f ρ) k).res K E F0 H0 F D)
  (j:∀ts l vs e i,Gr F H e i->H l=none->e l=none->i l=some (.lst vs)->f9 K e vs ts->(k ts).res K E F0 H0 e D->Q (.ref l) i):t σ H Q:=
 h F H σ (nH ρ) Q r.gr.fh r.vars ((O.res_of q).mono (λts z l vs e i g a b c d=>j ts l vs e i g a b c d (z.go g.ff)) λC n z=>z.go r.gr)
def MF.inB{f:Pe->M (List T)}(h:MF K E t f)(r:Sr K F0 H0 F H σ ρ)(q:(O.of (wY f ρ) k).res K E F0 H0 F D)
  (x:∀ts l vs e i,Gr F H e i->H l=none->e l=none->i l=some (.lst vs)->f9 K e vs ts->(k ts).res K E F0 H0 e D->Q (.ref l) i):t σ H Q:=by
 obtain⟨v,A,g0,V,j⟩:=r.lend;refine h v H σ (vw ρ) Q g0.fh V ((M.res.unb (O.res_of q)).mono (λts z l vs e i g a b c d=>?_) λC n z=>z.go g0);obtain⟨s,w,y,o,m,_⟩:=j e i g;by_cases p:FF ts=true
 .rw[aP p]at z;exact x ts l vs s i w a (gw o b) c (d.less o m p) (O.res.go z y)
 .rw[aQ p]at z;exact z.elim
@[simp] noncomputable def nL(i:Nat)(f:En->M (List T)):En->O:=λρ=>.of (f ρ) λa=>.nx (ρ.set i (some (.o a)))
def DF{f:Pe->M (List T)}(h:MF K E t f):MS K E (mG t (jj i)) (nL i (oS f)):=λF0 H0 F H σ ρ D r q=>h.inH r q λn l m k j g a b c d e=>e k j _ (.refl _) (r.setO g a b c d)
def JK{f:Pe->M (List T)}(h:MF K E t f):MS K E (mG t (jj i)) (nL i (wY f)):=λF0 H0 F H σ ρ D r q=>h.inB r q λn l m k j g a b c d e=>e k j _ (.refl _) (r.setO g a b c d)
@[simp] noncomputable def i6(f:En->M T):En->O:=λρ=>.of (f ρ) λ_=>.nx ρ
def HC(h:ME K E t f):MS K E (sv t) (i6 (g9 f)):=λF0 H0 F H σ ρ D r q=>h.inH r q λx v c b g e d a=>a c b _ (.refl _) d
def Sr.change(r:Sr K F0 H0 F H σ ρ)(e:ρ[i]? = some (some (.o ts)))(hw:f9 K F ws us) :
  ∃l vs,σ[i]? = some (some (.ref l))/\H l=some (.lst vs)/\f9 K F vs ts/\Sr K F0 H0 F (ja H l (.lst ws)) σ (ρ.set i (some (.o us))):=by
 obtain⟨B,Q,A⟩:=r.ov;obtain⟨a,b,c,vs,d,z⟩:=Q i ts e;refine⟨B i,vs,a,d,z,⟨r.gr.ff,λp u q=>?_,λp u q=>?_,r.gr.nw⟩,by simp[r.len],λj t q=>?_,⟨B,λj s q=>?_,λj k s x q N m=>?_⟩,λP he=>?_,λj Y n C q=>?_,(r.dv.heap (.refl _) λp xs J _=>⟨by assumption,by rw[fT (λz=>by rw[z,d]at J;cases J)];exact J⟩).setR λ_ z=>nomatch z⟩
 .rw[fT (gA q b)];exact r.gr.fh p u q
 .rw[fT (gA q c)];exact r.gr.hh p u q
 .rcases fU q with⟨rfl,g⟩|⟨y,g⟩
  .cases g
  .exact r.pv j t g
 .rcases fU q with⟨rfl,g⟩|⟨y,g⟩
  .cases g;exact⟨a,b,c,ws,fR,hw⟩
  .obtain⟨U,X,S,n,R,z'⟩:=Q j s g;exact⟨U,X,S,n,by rw[fT (A j i s ts g e y)];exact R,z'⟩
 .rcases fU q with⟨rfl,g⟩|⟨y,g⟩
  .rcases fU N with⟨rfl,v⟩|⟨Z,v⟩
   .exact absurd rfl m
   .exact A j k ts x e v m
  .rcases fU N with⟨rfl,v⟩|⟨Z,v⟩
   .exact A j k s ts g e m
   .exact A j k s x g v m
 .have L:=r.lv P he;have I:P.2.1≠B i:=λw=>L.d i ts e (by rw[w];exact a);refine⟨by rw[fT I];exact L.h,L.f,L.z,λj s q=>?_⟩;rcases fU q with⟨rfl,g⟩|⟨y,g⟩
  .exact L.d _ ts e
  .exact L.d j s g
 .rcases fU q with⟨rfl,g⟩|⟨y,g⟩
  .cases g
  .exact r.sl j Y n C g
@[simp] noncomputable def mq(ρ:En)(i:Nat):M (List T):=match ρ[i]? with
 |some (some (.o ts))=>.ok ts
 |_=>.bad
def rA(h:mq ρ i=.ok ts):ρ[i]? = some (some (.o ts)):=by
 unfold mq at h;split at h
 .rename_i a e;cases h;exact e
 .cases h
@[simp] noncomputable def pb(i:Nat)(f:En->M T):En->O:=λρ=>.of (mq ρ i) λa=>.of (f ρ) λt=>if a.length<sizeLine then .nx (ρ.set i (some (.o (a++[t])))) else .bad
def vg(r:Sr K F0 H0 F H σ ρ)(e:ρ[i]? = some (some (.o ts)))(m:kb K F v x)
  (q:(if ts.length<sizeLine then O.nx (ρ.set i (some (.o (ts++[x])))) else .bad).res K E F0 H0 F D):∃l,σ[i]? = some (some (.ref l))/\yE (.ref l) [v] H λ_ H1=>D.nx σ H1:=by
 by_cases g:ts.length<sizeLine
 .rw[aP g]at q;obtain⟨k,j,_⟩:=r.ov;obtain⟨_,_,_,n,d,z⟩:=j i ts e;obtain⟨l,b,h,c,s,p⟩:=r.change e (z.append (.cons m .nil));have:b=n:=by
   have a:=(j i ts e).1;rw[h]at a;have:l=k i:=by simpa using a
   rw[this,d]at c;cases c;rfl
  subst this;exact⟨l,h,l,b,v,rfl,rfl,c,by rw[z.length];exact g,q F _ _ (.refl _) p⟩
 .rw[aQ g]at q;exact q.elim
def Fe(K:W.Frag)(i:Nat)(a:TE):TE:=RT K "list" yE (lS i) (kY a qr)
def Lz(s:∀l p H,H l=some (.lst p)->OQ K "list" (.ref l) H)(h:ME K E t f):MS K E (sv (Fe K i t)) (pb i (g9 f)):=λF0 H0 F H σ ρ D r q=>by
 unfold pb at q;cases e:mq ρ i with
 |bad=>rw[e]at q;exact q.elim
 |er C n=>unfold mq at e;split at e<;>cases e
 |ok ts=>rw[e]at q;have j:=rA e;obtain⟨y,o,_⟩:=r.ov;obtain⟨a,_,_,z,d,_⟩:=o i ts j;refine⟨_,a,s _ _ _ d,?_⟩;refine h.inH r q λx v B A g k w m=>?_;obtain⟨l,c,b⟩:=vg w j k m;rw[a]at c;cases c;exact b
def KO(s:∀l p H,H l=some (.lst p)->OQ K "list" (.ref l) H)(h:ME K E t f):MS K E (sv (Fe K i t)) (pb i (m9 f)):=λF0 H0 F H σ ρ D r q=>by
 unfold pb at q;cases e:mq ρ i with
 |bad=>rw[e]at q;exact q.elim
 |er C n=>unfold mq at e;split at e<;>cases e
 |ok ts=>rw[e]at q;have j:=rA e;obtain⟨y,o,_⟩:=r.ov;obtain⟨a,_,_,z,d,_⟩:=o i ts j;refine⟨_,a,s _ _ _ d,?_⟩;refine h.inB r q λx v B A g k w m=>?_;obtain⟨l,c,b⟩:=vg w j k m;rw[a]at c;cases c;exact b
@[simp] noncomputable def vv(i:Nat)(b:En->M T)(f:En->M T):En->O:=λρ=>.of (mq ρ i) λa=>.of (f ρ) λt=>.of (b ρ) λk=>match k with
 |.int k=>match wU a.length k with
  |some j=>.nx (ρ.set i (some (.o (a.set j t))))
  |none=>.bad
 |_=>.bad
theorem GN{i:Nat}{ts:List T}{x y:T}{v w:V}{l:Addr}(n:Sr K F0 H0 F H σ ρ)(h:ρ[i]? = some (some (.o ts)))(p:σ[i]? = some (some (.ref l)))(A:kb K F v x)(e:kb K F w y)
  (b:(match y with
   |.int k=>match wU ts.length k with
    |some j=>O.nx (ρ.set i (some (.o (ts.set j x))))
    |none=>.bad
   |_=>.bad).res K E F0 H0 F D):C5 (.ref l) w v H λI=>D.nx σ I:=by
 cases e with
 |int k=>
  dsimp only at b;cases m:wU ts.length k with
  |none=>rw[m]at b;exact b.elim
  |some j=>
   rw[m]at b;obtain⟨s,r,_⟩:=n.ov;obtain⟨_,_,_,B,d,z⟩:=r i ts h;obtain⟨J,c,q,g,L,C⟩:=n.change h (z.set A j);rw[p]at q;cases q;have:c=B:=by
    have a:=(r i ts h).1;rw[p]at a;have:l=s i:=by simpa using a
    rw[this,d]at g;cases g;rfl
   subst this;exact⟨l,c,k,j,rfl,rfl,g,by rw[z.length];exact m,b F _ _ (.refl _) C⟩
 |_=>exact b.elim
def Mr(h:ME K E t f)(o:ME K E tk fk):MS K E (mG t (OL (lS i) tk C5)) (vv i (m9 fk) (m9 f)):=λF0 H0 F H σ ρ D r q=>by
 unfold vv at q;cases e:mq ρ i with
 |bad=>rw[e]at q;exact q.elim
 |er C n=>unfold mq at e;split at e<;>cases e
 |ok ts=>rw[e]at q;have c:=rA e;obtain⟨A,m,_⟩:=r.ov;have a:=(m i ts c).1;refine h.inB r q λx v J I g j p k=>⟨_,a,?_⟩;exact o.inB p k λy w z B s b d l=>GN d c a (j.mono s.ff) b l
end
end L3
namespace L3
open PySem L2
section
variable {K:W.Frag}{E:XK}{t u ta tb:TE}{f fa fb:Pe->M T}{F0:Fz}{H0 F H F1 H1:Hp}{σ:St}{ρ:En}{D:oZ}
structure xa(K:W.Frag)(J:It)(its:List T)(F1:Hp):Prop where
 go:∀i H,f6 F1 H->i<its.length->J.go i H
 stop:∀H,f6 F1 H->J.stop its.length H
 yld:∀(i:Nat) t F H x H',f6 F1 F->f6 F H->its[i]? = some t->J.yld i H x H'->∃F',Gr F H F' H'/\kb K F' x t
def kI(K:W.Frag)(F H:Hp)(R:It->Hp->Prop)(its:List T):Prop:=∀J b a,Gr F H b a->xa K J its b->R J a
noncomputable def MI(K:W.Frag)(E:XK)(w:TI)(f:Pe->M (List T)):Prop:=∀F H σ ρ R,f6 F H->lR K F σ ρ->(f ρ).res (kI K F H R) (kE E F H)->w σ H R
def Sg(K:W.Frag)(F H:Hp)(R:It->Hp->Prop)(its:List T):Prop:=∀J b a,Gr F H b a->(∀F1,xa K J its F1)->R J a
noncomputable def QK(K:W.Frag)(E:XK)(w:TI)(f:Pe->M (List T)):Prop:=∀F H σ ρ R,f6 F H->lR K F σ ρ->(f ρ).res (Sg K F H R) (kE E F H)->w σ H R
def QK.mi{f:Pe->M (List T)}(h:QK K E w f):MI K E w f:=λF H σ ρ R s V q=>h F H σ ρ R s V (q.mono (λc z J a b g i=>z J a b g (i a)) λ_ _ z=>z)
@[simp] noncomputable def Rg(fa:Pe->M T):Pe->M (List T):=λρ=>(fa ρ).bind λx=>match x with
 |.lst ts=>.ok ts
 |.scr ns=>.ok (ns.map T.int)
 |_=>.bad
@[simp] noncomputable def RX(fa:Pe->M T):Pe->M (List T):=λρ=>(fa ρ).bind λx=>match x with
 |.tup ts=>.ok ts
 |_=>.bad
def CY(c:lg K F a xs)(r:f9 K F xs ts):xa K (Rp K a) ts F where
 go:=λi H s l=>by have e:xs[i]? = some (xs[i]'(by rw[r.length];exact l)):=ag _;exact⟨xs,_,s.seq c,e⟩
 stop:=λH s=>⟨xs,s.seq c,by rw[r.length];exact aJ _⟩
 yld:=λi t m H x o g d e y=>by obtain⟨rfl,k⟩:=y;have j:=k xs ((g.trans d).seq c);obtain⟨n,b,h⟩:=r.at_ j;rw[e]at b;cases b;exact⟨m,.refl d,h.mono g⟩
def sY(s:f6 F H)(h:F a=some (.tup xs)):mx K H a xs:=mx.of (s _ _ h)
def Nw(c:F a=some (.tup xs))(r:f9 K F xs ts):xa K (RK K a) ts F where
 go:=λi H s l=>by have e:xs[i]? = some (xs[i]'(by rw[r.length];exact l)):=ag _;exact⟨xs,_,sY s c,e⟩
 stop:=λH s=>⟨xs,sY s c,by rw[r.length];exact aJ _⟩
 yld:=λi t m H x o g d e y=>by obtain⟨rfl,k⟩:=y;have j:=k xs (sY (g.trans d) c);obtain⟨n,b,h⟩:=r.at_ j;rw[e]at b;cases b;exact⟨m,.refl d,h.mono g⟩
def yR(d:ME K E ta fa):MI K E (FN K ta) (Rg fa):=λF H σ ρ R s V q=>by
  refine d.run s V q λx v F1 H1 a c b=>?_;cases c<;>first
    |exact b.elim
    | (rename_i h r
       exact⟨_,rfl,⟨_,lg.of (a.fh _ _ h)⟩,b _ F1 H1 a (CY (lg.of h) r)⟩)
    | (rename_i h
       exact⟨_,rfl,⟨_,a.fh.seq h⟩,b _ F1 H1 a (CY h (f9.of_ints _))⟩)
def NL(d:ME K E ta fa):MI K E (M9 K ta) (RX fa):=λF H σ ρ R s V q=>by
  refine d.run s V q λx v F1 H1 a c b=>?_;cases c<;>first
    |exact b.elim
    | (rename_i h r
       exact⟨_,rfl,⟨_,mx.of (a.fh _ _ h)⟩,b _ F1 H1 a (Nw h r)⟩)
def QR:(2:Int) ^ 62=4611686018427387904:=by decide +kernel
def Rc:(2:Int) ^ 63=9223372036854775808:=by decide +kernel
noncomputable def zu(j:Int):Bool:=decide (j.natAbs<4611686018427387904)
def p9(h:zu j=true):-(2 ^ 62)<=j/\j<2 ^ 62:=by rw[QR];have:=of_decide_eq_true h;omega
def jI(h:j.natAbs<=1000000):zu j=true:=aB (by omega)
noncomputable def yP(a:Int)(n:Nat):List T:=(List.range n).map λ(i:Nat)=>T.int (a+(i:Int))
def MU F:xa K (Py lo n) (yP lo n) F where
 go:=λi H s a=>by show i<n;simpa[yP] using a
 stop:=λH s=>by simp[yP,Py]
 yld:=λi t c H x d g b e y=>by
  obtain⟨rfl,rfl⟩:=y;have a:i<n:=by simpa[yP] using (aa.mp e).1
  have:t=.int (lo+i):=by unfold yP at e;rw[av,List.getElem?_range a]at e;cases e;rfl
  rw[this];exact⟨c,.refl b,.int _⟩
@[simp] noncomputable def ng(fa:Pe->M (List T)):Pe->M (List T):=λρ=>(fa ρ).bind λa=>match a with
 |[.int j]=>if zu j then .ok (yP 0 j.toNat) else .bad
 |_=>.bad
def Jz{ta:TA}{fa:Pe->M (List T)}(g:MA K E ta fa):QK K E (GY ta) (ng fa):=λF H σ ρ R s V q=>by
 refine g.run s V q λk i F1 H1 e h c=>?_;split at c
 .rename_i j;split at c
  .rename_i d;cases h with
   |cons a b=>cases a;cases b;exact⟨j,rfl,(p9 d).1,(p9 d).2,c _ F1 H1 e MU⟩
  .exact c.elim
 .exact c.elim
noncomputable def seqB(b:Bool):T->M (List T)
 |.tup ts=>if b then .ok ts else .bad
 |.lst ts=>if b then .bad else .ok ts
 |.scr ns=>if b then .bad else .ok (ns.map T.int)
 |_=>.bad
def yT(r:kb K F v x)(e:seqB b x=.ok ts):∃a c,v=.ref a/\(∀H,f6 F H->uc K H b a c)/\f9 K F c ts:=by
 cases r<;>try (cases e)
 .rename_i a c d h r;cases b with
  |true=>cases e;exact⟨a,c,rfl,λH s=>by unfold uc;rw[aP rfl];exact mx.of (s _ _ h),r⟩
  |false=>cases e
 .rename_i a c d h r;cases b with
  |true=>cases e
  |false=>cases e;exact⟨a,c,rfl,λH s=>by unfold uc;rw[aQ aG];exact lg.of (s _ _ h),r⟩
 .rename_i a g h;cases b with
  |true=>cases e
  |false=>cases e;exact⟨a,_,rfl,λH s=>by unfold uc;rw[aQ aG];exact s.seq h,f9.of_ints g⟩
noncomputable def yt(a b:List T):List T:=(a.zip b).map λp=>T.tup [p.1,p.2]
def Oi(j:∀H,f6 F H->uc K H b1 l1 xs)(h:f9 K F xs ts)(l:∀H,f6 F H->uc K H b2 l2 ys)(c:f9 K F ys us):xa K (RG K b1 b2 l1 l2) (yt ts us) F where
 go:=λi H s B=>by
  have a:i<ts.length/\i<us.length:=by simp[yt]at B;omega
  have k:xs[i]? = some (xs[i]'(by rw[h.length];exact a.1)):=ag _;have m:ys[i]? = some (ys[i]'(by rw[c.length];exact a.2)):=ag _;exact⟨xs,ys,_,_,j H s,l H s,k,m⟩
 stop:=λH s=>⟨xs,ys,j H s,l H s,by simp[yt,h.length,c.length];omega⟩
 yld:=λi t L H x N b d e y=>by
  obtain⟨p,r,A,rfl,J,rfl,k,m⟩:=y;obtain⟨n,C,v⟩:=h.at_ (k xs (j H (b.trans d)));obtain⟨q,I,w⟩:=c.at_ (m ys (l H (b.trans d)));have:t=.tup [n,q]:=by unfold yt at e;rw[av,(List.getElem?_zip_eq_some (z:=(n,q))).mpr ⟨C,I⟩]at e;cases e;rfl
  rw[this];have g:=Gr.new (o:=.tup [r,A]) d J;exact⟨_,g,.tup fR (.cons ((v.mono b).mono g.ff) (.cons ((w.mono b).mono g.ff) .nil))⟩
noncomputable def Mq(b e:Bool)(fa:Pe->M (List T)):Pe->M (List T):=λρ=>(fa ρ).bind λd=>match d with
 |[x,y]=>(seqB b x).bind λa=>(seqB e y).bind λc=>.ok (yt a c)
 |_=>.bad
def yI:seqB b x≠.er C n:=by cases x<;>cases b<;>exact λz=>nomatch z
def HD{ta:TA}{fa:Pe->M (List T)}(v:MA K E ta fa):MI K E (MB K b1 b2 ta) (Mq b1 b2 fa):=λF H σ ρ R s V q=>by
 refine v.run s V q λA z F1 H1 h w d=>?_;split at d
 .rename_i x y;cases w with
  |cons a b=>
   cases b with
   |cons b c=>
    cases c;cases g:seqB b1 x with
    |bad=>rw[g]at d;exact d.elim
    |er C n=>exact absurd g yI
    |ok ts=>
     rw[g]at d;cases e:seqB b2 y with
     |bad=>simp only[e,M.bind_ok]at d;exact d.elim
     |er C n=>exact absurd e yI
     |ok us=>simp only[e,M.bind_ok]at d;obtain⟨o,k,rfl,j,l⟩:=yT a g;obtain⟨m,r,rfl,i,p⟩:=yT b e;exact⟨o,m,rfl,⟨k,j _ h.fh⟩,⟨r,i _ h.fh⟩,d _ F1 H1 h (Oi j l i p)⟩
 .exact d.elim
def MG(K:W.Frag)(g:TG)(m:T->Pe->Option Pe):Prop:=∀F H σ (ρ:Pe) x t ρ' Q,f6 F H->σ.length=ρ.length->lR K F σ ρ->kb K F x t->m t ρ=some ρ'->(∀a,a.length=ρ'.length->lR K F a ρ'->Q a H)->g x σ H Q
def Pd(K:W.Frag)(g:Jw)(m:List T->Pe->Option Pe):Prop:=∀F H σ (ρ:Pe) xs ts ρ' Q,f6 F H->σ.length=ρ.length->lR K F σ ρ->f9 K F xs ts->m ts ρ=some ρ'->(∀a,a.length=ρ'.length->lR K F a ρ'->Q a H)->g xs σ H Q
@[simp] def jV(i:Nat):T->Pe->Option Pe:=λt ρ=>some (ρ.set i (some t))
def lR.set{ρ:Pe}(V:lR K F σ ρ)(d:σ.length=ρ.length)(h:kb K F v x):lR K F (σ.set i (some v)) (ρ.set i (some x)):=λj t e=>by
 have c:j<ρ.length:=by simpa using (aa.mp e).1
 rcases fU e with⟨rfl,q⟩|⟨c,q⟩
 .cases q;exact⟨v,qd (by rw[d];exact c),h⟩
 .obtain⟨w,a,b⟩:=V j t q;exact⟨w,by rw[aq (λz=>c z.symm)];exact a,b⟩
def KH:MG K (jj i) (jV i):=λF H σ ρ x t b Q s a V r e k=>by cases e;exact k _ (by simp[a]) (V.set a r)
@[simp] noncomputable def oY:List T->Pe->Option Pe
 |[],ρ=>some ρ
 |_::_,_=>none
@[simp] def iM(m:T->Pe->Option Pe)(n:List T->Pe->Option Pe):List T->Pe->Option Pe
 |[],_=>none
 |t::ts,ρ=>(m t ρ).bind (n ts)
def J4:Pd K E3 oY:=λF H σ ρ h g c Q s d V r e k=>by
 cases r with
 |nil=>cases e;exact⟨rfl,k σ d V⟩
 |cons a b=>cases e
def GO(o:MG K g m)(w:Pd K gs n):Pd K (wF g gs) (iM m n):=λF H σ ρ x y c Q s l V r e k=>by
 cases r with
 |nil=>cases e
 |cons a b=>
  rename_i v t j d;have e:(m t ρ).bind (n d)=some c:=e;cases q:m t ρ with
  |none=>rw[q]at e;cases e
  |some ρ1=>rw[q]at e;refine⟨v,j,rfl,o F H σ ρ v t ρ1 _ s l V a q λh i p=>?_⟩;exact w F H h ρ1 j d c Q s i p b e k
@[simp] noncomputable def oV(k:Nat)(m:List T->Pe->Option Pe):T->Pe->Option Pe
 |.tup ts,ρ=>if ts.length=k then m ts ρ else none
 |_,_=>none
def N9(h:Pd K g m):MG K (Ey K k g) (oV k m):=λF H σ ρ x t b Q s i V r e q=>by
 cases r with
 |tup hx rs=>
  rename_i a j c;have e:(if c.length=k then m c ρ else none)=some b:=e;by_cases d:c.length=k
  .rw[aP d]at e;exact⟨_,_,rfl,mx.of (s _ _ hx),by rw[rs.length];exact d,h F H σ ρ _ _ b Q s i V rs e q⟩
  .rw[aQ d]at e;cases e
 |_=>cases e
noncomputable def JI(K:W.Frag)(g:TG)(m:T->En->Option En):Prop:=∀F0 H0 F H σ ρ x t b Q,Sr K F0 H0 F H σ ρ->kb K F x t->m t ρ=some b->(∀a,Sr K F0 H0 F H a b->Q a H)->g x σ H Q
noncomputable def IK(K:W.Frag)(g:Jw)(m:List T->En->Option En):Prop:=∀F0 H0 F H σ ρ d c b Q,Sr K F0 H0 F H σ ρ->f9 K F d c->m c ρ=some b->(∀a,Sr K F0 H0 F H a b->Q a H)->g d σ H Q
@[simp] noncomputable def jD(i:Nat):T->En->Option En:=λt ρ=>some (ρ.set i (some (.p t)))
def GH:JI K (jj i) (jD i):=λF0 H0 F H σ ρ x t a Q s r e k=>by cases e;exact k _ (s.setP r)
@[simp] noncomputable def kX:List T->En->Option En
 |[],ρ=>some ρ
 |_::_,_=>none
@[simp] noncomputable def gO(m:T->En->Option En)(n:List T->En->Option En):List T->En->Option En
 |[],_=>none
 |t::ts,ρ=>(m t ρ).bind (n ts)
def GK:IK K E3 kX:=λF0 H0 F H σ ρ g d c Q s r e k=>by
 cases r with
 |nil=>cases e;exact⟨rfl,k σ s⟩
 |cons a b=>cases e
def Ed(j:JI K g m)(l:IK K gs n):IK K (wF g gs) (gO m n):=λF0 H0 F H σ ρ p w c Q s r e k=>by
 cases r with
 |nil=>cases e
 |cons a b=>
  rename_i v t i d;have e:(m t ρ).bind (n d)=some c:=e;cases q:m t ρ with
  |none=>rw[q]at e;cases e
  |some ρ1=>rw[q]at e;refine⟨v,i,rfl,j F0 H0 F H σ ρ v t ρ1 _ s a q λh o=>?_⟩;exact l F0 H0 F H h ρ1 i d c Q o b e k
@[simp] noncomputable def lb(k:Nat)(m:List T->En->Option En):T->En->Option En
 |.tup ts,ρ=>if ts.length=k then m ts ρ else none
 |_,_=>none
def Lw(h:IK K g m):JI K (Ey K k g) (lb k m):=λF0 H0 F H σ ρ x t b Q s r e q=>by
 cases r with
 |tup hx rs=>
  rename_i a i c;have e:(if c.length=k then m c ρ else none)=some b:=e;by_cases d:c.length=k
  .rw[aP d]at e;exact⟨_,_,rfl,mx.of (s.gr.fh _ _ hx),by rw[rs.length];exact d,h F0 H0 F H σ ρ _ _ b Q s rs e q⟩
  .rw[aQ d]at e;cases e
 |_=>cases e
noncomputable def iO(m:T->En->Option En)(g:En->O):List T->En->O
 |[],ρ=>.nx ρ
 |t::ts,ρ=>match m t ρ with
  |none=>.bad
  |some ρ1=>match g ρ1 with
   |.nx ρ2=>iO m g ts ρ2
   |.ct ρ2=>iO m g ts ρ2
   |.bk ρ2=>.nx ρ2
   |o=>o
theorem BX{tb:TS}{J:It}(hg:JI K g m)(hb:MS K E tb gb){G:Hp->Hp->Prop}(U:∀i F H,G F H->i<its.length->J.go i H)(X:∀F H,G F H->J.stop its.length H)(S:∀(i:Nat) t F H x c,G F H->its[i]? = some t->J.yld i H x c->∃d,Gr F H d c/\kb K d x t)
  (P:∀d c b ρ',f6 F1 d->Sr K F0 H0 d c b ρ'->G d c) (r:Sr K F0 H0 F H σ ρ) (s1:f6 F1 F)
  (q:(iO m gb its ρ).res K E F0 H0 F D):∃W:Nat->Nat->St->Hp->Prop,(∃m,W 0 m σ H)/\∀i m σ H,W i m σ H->
 (J.stop i H/\D.nx σ H)\/(J.go i H/\∃N:St->Hp->Prop,(∀b c,N b c->∃m',m'<m/\W (i+1) m' b c)/\∀x c,J.yld i H x c->g x σ c λQ H2=>tb {D with nx:=N,ct:=N,bk:=D.nx} Q H2):=by
 refine⟨λi k b c=>i<=its.length/\k=its.length-i/\∃d ρ',f6 F1 d/\Sr K F0 H0 d c b ρ'/\(iO m gb (its.drop i) ρ').res K E F0 H0 d D,⟨_,bG _,rfl,F,ρ,s1,r,by simpa using q⟩,?_⟩
 rintro i k v L ⟨hi,rfl,I,B,w,p,a⟩
 by_cases h:i<its.length
 .right;refine⟨U i I L (P _ _ _ _ w p) h,λb c=>∃d ρ',f6 F1 d/\Sr K F0 H0 d c b ρ'/\(iO m gb (its.drop (i+1)) ρ').res K E F0 H0 d D,λb c z=>⟨its.length-(i+1),by omega,h,rfl,z⟩,λx c y=>?_⟩;have et:=ag h;obtain⟨Z,o,rp⟩:=S i _ I L x c (P _ _ _ _ w p) et y;rw[cS h]at a;unfold iO at a;cases Y:m its[i] B with
  |none=>rw[Y]at a;exact a.elim
  |some ρ3=>
   rw[Y]at a;refine hg F0 H0 Z c v B x _ ρ3 _ (p.grow o) rp Y λb r'=>?_;refine hb F0 H0 Z c b ρ3 _ r' ?_;dsimp only at a;cases j:gb ρ3 with
   |bad=>rw[j]at a;exact a.elim
   |nx ρ4=>rw[j]at a;exact λd R A s l=>⟨d,ρ4,(w.trans o.ff).trans s,l,O.res.go a (o.ff.trans s)⟩
   |ct ρ4=>rw[j]at a;exact λd R A s l=>⟨d,ρ4,(w.trans o.ff).trans s,l,O.res.go a (o.ff.trans s)⟩
   |bk ρ4=>rw[j]at a;exact kN.go a o.ff
   |rt t=>rw[j]at a;exact a
   |rf ts=>rw[j]at a;exact a
   |rn ts us=>rw[j]at a;exact a
   |er C n=>rw[j]at a;exact a
 .left;have e:i=its.length:=by omega
  subst e;refine⟨X I L (P _ _ _ _ w p),?_⟩;rw[List.drop_length]at a;exact a I L v (.refl _) p
def xB{tb:TS}(j:JI K g m)(k:MS K E tb gb)(a:xa K J its F1)(r:Sr K F0 H0 F H σ ρ)(n:f6 F1 F)
  (q:(iO m gb its ρ).res K E F0 H0 F D):∃W:Nat->Nat->St->Hp->Prop,(∃m,W 0 m σ H)/\∀i m σ H,W i m σ H->
 (J.stop i H/\D.nx σ H)\/(J.go i H/\∃N:St->Hp->Prop,(∀c b,N c b->∃h,h<m/\W (i+1) h c b)/\∀x b,J.yld i H x b->g x σ b λd l=>tb {D with nx:=N,ct:=N,bk:=D.nx} d l):=
 BX (G:=λF H=>f6 F1 F/\f6 F H) j k (λi F H q o=>a.go i H (q.1.trans q.2) o) (λF H q=>a.stop H (q.1.trans q.2)) (λi t F H x b q e y=>a.yld i t F H x b q.1 q.2 e y) (λ_ _ _ _ s r=>⟨s,r.gr.fh⟩) r n q
@[simp] noncomputable def mJ(b:Pe->M (List T))(m:T->En->Option En)(g:En->O):En->O:=λρ=>.of (b (nH ρ)) λa=>iO m g a ρ
def OG{tb:TS}(e:MI K E w fi)(c:JI K g m)(d:MS K E tb gb):MS K E (Ji w g tb) (mJ fi m gb):=λF0 H0 F H σ ρ D r q=>e F H σ (nH ρ) _ r.gr.fh r.vars ((O.res_of q).mono (λh z J j i b a=>xB c d a (r.grow b) (.refl _) (z.go b.ff)) λC n z=>z.go r.gr)
@[simp] noncomputable def rY(b:Pe->M (List T))(m:T->En->Option En)(g:En->O):En->O:=λρ=>.of (b (vw ρ)) λa=>iO m g a ρ
def JP{tb:TS}(k:QK K E w fi)(h:JI K g m)(i:MS K E tb gb):MS K E (Ji w g tb) (rY fi m gb):=λF0 H0 F H σ ρ D r q=>by obtain⟨e,v,g0,V,a⟩:=r.lend;refine k e H σ (vw ρ) _ g0.fh V ((O.res_of q).mono (λl z J s p j b=>?_) λC n z=>z.go g0);obtain⟨d,c,o,_⟩:=a s p j;exact xB h i (b d) (r.grow c) (.refl _) (z.go o)
noncomputable def lY(c:Pe->M Bool)(g:En->O):Nat->En->O
 |0,_=>.bad
 |n+1,ρ=>.of (c (vw ρ)) λb=>if b then (match g ρ with
   |.nx ρ2=>lY c g n ρ2
   |.ct ρ2=>lY c g n ρ2
   |.bk ρ2=>.nx ρ2
   |o=>o) else .nx ρ
def HX{tb:TS}(i:En->Nat)(J:MT K E c fc)(L:MS K E tb gb):MS K E (BL c tb) (λρ=>lY fc gb (i ρ) ρ):=λF0 H0 F H σ ρ D r q=>by
 refine⟨λn g o=>∃e d,f6 F e/\Sr K F0 H0 e o g d/\(lY fc gb n d).res K E F0 H0 e D,⟨i ρ,F,ρ,.refl _,r,q⟩,?_⟩;rintro n k P ⟨N,m,x,I,p⟩;cases n with
 |zero=>exact p.elim
 |succ n=>
  unfold lY at p;refine J.inS I p λb w A B y a=>?_;cases b with
  |true=>
   rw[aP rfl]at a ⊢;refine⟨λg o=>∃e d,f6 F e/\Sr K F0 H0 e o g d/\(lY fc gb n d).res K E F0 H0 e D,λg o z=>⟨n,bF n,z⟩,?_⟩;refine L F0 H0 w A k m _ y ?_;cases h:gb m with
   |bad=>rw[h]at a;exact a.elim
   |nx ρ4=>rw[h]at a;exact λe v l s j=>⟨e,ρ4,(x.trans B).trans s,j,O.res.go a s⟩
   |ct ρ4=>rw[h]at a;exact λe v l s j=>⟨e,ρ4,(x.trans B).trans s,j,O.res.go a s⟩
   |bk ρ4=>rw[h]at a;exact a
   |rt t=>rw[h]at a;exact a
   |rf ts=>rw[h]at a;exact a
   |rn ts us=>rw[h]at a;exact a
   |er C n=>rw[h]at a;exact a
  |false=>rw[aQ aG]at a ⊢;exact a w A k (.refl _) y
@[simp] noncomputable def nq(a:List (Option Nat))(ρ:Pe):Pe:=a.map fun
 |none=>none
 |some j=>(ρ[j]?).getD none
def lR.pull{ρ:Pe}(V:lR K F σ ρ) ix:lR K F (L2.pull ix σ) (nq ix ρ):=λi t e=>by
 unfold nq at e;rw[av]at e;cases q:ix[i]? with
 |none=>rw[q]at e;cases e
 |some w=>
  rw[q]at e;cases w with
  |none=>cases e
  |some j=>
   have c:(ρ[j]?).getD none=some t:=by simpa using e
   cases z:ρ[j]? with
   |none=>rw[z]at c;cases c
   |some y=>rw[z]at c;have:y=some t:=c;rw[this]at z;obtain⟨v,a,b⟩:=V j t z;refine⟨v,?_,b⟩;unfold L2.pull;rw[av,q];simp[a]
@[simp] noncomputable def r6(m:T->Pe->Option Pe)(a:Pe->M Bool)(c:Pe->M T)(ρ:Pe)(t:T):M (Option T):=match m t ρ with
 |none=>.bad
 |some ρ1=>(a ρ1).bind λb=>if b then (c ρ1).bind λx=>.ok (some x) else .ok none
noncomputable def pO(k:T->M (Option T)):List T->M (List T)
 |[]=>.ok []
 |t::ts=>(k t).bind λo=>(pO k ts).bind λr=>.ok (match o with
  |some x=>x::r
  |none=>r)
def Jq:XK:=λ_ _ _=>False
def Ni:MT K E OE (λ_=>.ok true):=λF H σ ρ Q s V q=>q F H (.refl s)
theorem HJ{ρ:Pe}(hg:MG K g m)(ht:MT K Jq tt ft)(he:ME K Jq te fe)(V:lR K F1 σ ρ)
  (d:xa K J its F1) (s:f6 F1 H1) (hl:its.length<sizeLine) (q:(pO (r6 m ft fe (nq ix ρ)) its).res (kF K F1 H1 Q) (λ_ _=>False)):RS J ix g tt te σ H1 Q:=by
 refine⟨λi k B H=>i<=its.length/\k=its.length-i/\∃F' l,Gr F1 H1 F' H/\f9 K F' B l/\l.length<=i/\(pO (r6 m ft fe (nq ix ρ)) (its.drop i)).res (λZ=>kF K F1 H1 Q (l++Z)) (λ_ _=>False),
  ⟨_,bG _,rfl,F1,[],.refl s,.nil,bG _,by simpa using q⟩,?_⟩
 rintro i k B C ⟨hi,rfl,S,l,c,A,tl,p⟩;by_cases a:i<its.length
 .right;refine⟨d.go i C (c.ff.trans c.fh) a,by rw[A.length];omega,λx P y=>?_⟩;have et:=ag a;obtain⟨X,o,rp⟩:=d.yld i _ S C x P c.ff c.fh et y;rw[cS a]at p;unfold pO at p;have h:=M.res.unb p;unfold r6 at h;cases R:m its[i] (nq ix ρ) with
  |none=>rw[R]at h;exact h.elim
  |some ρ3=>
   rw[R]at h;have j:=c.trans o;have V3:=(V.mono j.ff).pull ix;refine hg X P _ _ x _ ρ3 _ o.fh (by simp[L2.pull,nq]) V3 rp R λr hl' V'=>?_;have q4:=M.res.unb h;refine ht X P r ρ3 _ o.fh V' (q4.mono (λb z U H4 n=>?_) λ_ _ z=>z.elim);cases b with
   |true=>rw[aP rfl]at z ⊢;have q5:=M.res.unb z;refine he U H4 r ρ3 _ n.fh (V'.mono n.ff) (q5.mono (λx' z' v F5 H5 Y N=>?_) λ_ _ z=>z.elim);refine⟨its.length-(i+1),by omega,a,rfl,F5,l++[x'],(j.trans n).trans Y,(A.mono (o.ff.trans (n.ff.trans Y.ff))).append (.cons N .nil),by simp;omega,?_⟩;have L:=M.res.unb z';exact L.mono (λZ w=>by rw[bV];exact w) λ_ _ w=>w
   |false=>rw[aQ aG]at z ⊢;refine⟨its.length-(i+1),by omega,a,rfl,U,l,j.trans n,A.mono (o.ff.trans n.ff),by omega,?_⟩;exact M.res.unb z
 .left;have e:i=its.length:=by omega
  subst e;rw[List.drop_length]at p;refine⟨d.stop C (c.ff.trans c.fh),λD I=>?_⟩;have h:kF K F1 H1 Q l:=by simpa[pO,M.res] using p
  exact h D B S _ (c.trans (.new' c.fh I)) (gw c.hh I) (gw c.fh I) fR A
def LJ(h:MI K E w fi)(d:MG K g m)(e:MT K Jq tt ft)(i:ME K Jq te fe) :
  MF K E (FR ix w g tt te) (λρ=>(fi ρ).bind λits=>(if its.length<sizeLine then pO (r6 m ft fe (nq ix ρ)) its else .bad).noEr):=λF H σ ρ Q s V q=>by
 refine h F H σ ρ _ s V ((M.res.unb q).mono (λits z J k j b a=>?_) λ_ _ z=>z);split at z
 .rename_i c;exact HJ d e i (V.mono b.ff) a b.fh c (z.noEr.mono (λ_ w=>w.go b) λ_ _ w=>w)
 .exact z.elim
end
end L3
namespace L3
open PySem L2
section
variable {K:W.Frag}{E:XK}{t u ta tb:TE}{f fa fb:Pe->M T}{F0:Fz}{H0 F H F1 H1:Hp}{σ:St}{ρ:En}{D:oZ}
noncomputable def qc(K:W.Frag)(F:List T->M T):Sp:=λb H Q E=>∃a F0,f6 F0 H/\f9 K F0 b a/\(F a).res (kV K F0 H Q) (kE E F0 H)
noncomputable def Ba(K:W.Frag)(F:List T->M (List T)):Sp:=λb H Q E=>∃a F0,f6 F0 H/\f9 K F0 b a/\(F a).res (kF K F0 H Q) (kE E F0 H)
@[simp] noncomputable def jb(fa:Pe->M (List T))(F:List T->M T):Pe->M T:=λρ=>(fa ρ).bind F
@[simp] noncomputable def fM(fa:Pe->M (List T))(F:List T->M T):Pe->M T:=λρ=>(fa ρ).bind λa=>(F a).noEr
@[simp] noncomputable def jo(fa:Pe->M (List T))(F:List T->M (List T)):Pe->M (List T):=λρ=>(fa ρ).bind λa=>(F a).noEr
section
variable {tr:TA}{fr:Pe->M (List T)}{Fn:List T->M T}{Ff:List T->M (List T)}{E':XK}
def Lb(d:MA K E tr fr):ME K E (rD (qc K Fn) [] E tr) (jb fr Fn):=λF H σ ρ Q s V q=>by refine d.run s V q λb g F1 H1 a c e=>?_;exact⟨b,F1,a.fh,by rw[bH];exact c,e.mono (λ_ z=>z.go a) λ_ _ z=>z⟩
def IY(d:MA K E tr fr):ME K E (rD (qc K Fn) [] E' tr) (fM fr Fn):=λF H σ ρ Q s V q=>by refine d.run s V q λb g F1 H1 a c e=>?_;exact⟨b,F1,a.fh,by rw[bH];exact c,(e.mono (λ_ z=>kV.go z a) λ_ _ z=>z).noEr⟩
def G9(d:MA K E tr fr):MF K E (rD (Ba K Ff) [] E' tr) (jo fr Ff):=λF H σ ρ Q s V q=>by refine d.run s V q λb g F1 H1 a c e=>?_;exact⟨b,F1,a.fh,by rw[bH];exact c,(e.mono (λ_ z=>kF.go z a) λ_ _ z=>z).noEr⟩
@[simp] noncomputable def oU(C:Addr)(m:Str)(x:T):M Unit:=match x with
 |.obj C' fs=>if C'=C/\fs.lookup m=none then .ok () else .bad
 |_=>.bad
@[simp] noncomputable def mC(C:Addr)(m:Str)(a:Pe->M T)(fr:Pe->M (List T))(F:List T->M T):Pe->M T:=λρ=>(a ρ).bind λx=>(oU C m x).bind λ_=>(fr ρ).bind λb=>(F (x::b)).noEr
@[simp] noncomputable def qR(C:Addr)(m:Str)(a:Pe->M T)(fr:Pe->M (List T))(F:List T->M (List T)):Pe->M (List T):=λρ=>(a ρ).bind λx=>(oU C m x).bind λ_=>(fr ρ).bind λb=>(F (x::b)).noEr
def Dg(r:kb K F v x)(e:oU C m x=.ok ()):∃a dx fs,v=.ref a/\F a=some (.ins C dx fs)/\fs.lookup m=none:=by
 cases r with
 |obj h rs=>
  rename_i a d dx fs c;have e:(if d=C/\List.lookup m c=none then M.ok () else M.bad)=.ok ():=e;by_cases b:d=C/\List.lookup m c=none
  .obtain⟨rfl,g⟩:=b;exact⟨a,dx,fs,rfl,h,rs.none_ g⟩
  .rw[aQ b]at e;cases e
 |_=>cases e
def DO:oU C m x≠.er C' n:=by
 unfold oU;split
 .split<;>exact λz=>nomatch z
 .exact λz=>nomatch z
def AR(k:ME K E ta fa)(hr:MA K E tr fr):ME K E (r0 C m (qc K Fn) [] E' ta tr) (mC C m fa fr Fn):=λF H σ ρ Q s V q=>by
 refine k.run s V q λx v F1 H1 c g b=>?_;cases e:oU C m x with
 |bad=>rw[e]at b;exact b.elim
 |er C n=>exact absurd e DO
 |ok u=>rw[e]at b;obtain⟨a,r,fs,rfl,h,l⟩:=Dg g e;refine⟨a,r,fs,rfl,c.fh _ _ h,l,?_⟩;refine hr.run c.fh (V.mono c.ff) b λp w i y d j o=>?_;exact⟨x::p,i,d.fh,by rw[bH];exact .cons (g.mono d.ff) j,(o.mono (λ_ z=>kV.go z (c.trans d)) λ_ _ z=>z).noEr⟩
def Ii(k:ME K E ta fa)(hr:MA K E tr fr):MF K E (r0 C m (Ba K Ff) [] E' ta tr) (qR C m fa fr Ff):=λF H σ ρ Q s V q=>by
 refine k.run s V q λx v F1 H1 c g b=>?_;cases e:oU C m x with
 |bad=>rw[e]at b;exact b.elim
 |er C n=>exact absurd e DO
 |ok u=>rw[e]at b;obtain⟨a,r,fs,rfl,h,l⟩:=Dg g e;refine⟨a,r,fs,rfl,c.fh _ _ h,l,?_⟩;refine hr.run c.fh (V.mono c.ff) b λp w i y d j o=>?_;exact⟨x::p,i,d.fh,by rw[bH];exact .cons (g.mono d.ff) j,(o.mono (λ_ z=>kF.go z (c.trans d)) λ_ _ z=>z).noEr⟩
end
@[simp] noncomputable def Rw:O->M T
 |.nx _=>.ok .non
 |.rt t=>.ok t
 |.rf ts=>.ok (.lst ts)
 |.rn ts us=>.ok (.tup (ts++[.lst us]))
 |.er C n=>.er C n
 |_=>.bad
@[simp] noncomputable def Ru:O->M (List T)
 |.rf ts=>.ok ts
 |.er C n=>.er C n
 |_=>.bad
@[simp] noncomputable def gM(n:Nat)(ts:List T):En:=ts.map (λt=>some (W.p t))++List.replicate (n-ts.length) none
@[simp] noncomputable def jw(k n:Nat)(g:En->O):List T->M T:=λa=>if a.length=k then Rw (g (gM n a)) else .bad
@[simp] noncomputable def zI(k n:Nat)(g:En->O):List T->M (List T):=λa=>if a.length=k then Ru (g (gM n a)) else .bad
def xH{n i:Nat}(e:(gM n ts)[i]? = some (some (.d kvs))):False:=by
 unfold gM at e;rw[List.getElem?_append]at e;split at e
 .rw[av]at e;cases q:ts[i]? with
  |none=>rw[q]at e;cases e
  |some x=>rw[q]at e;cases e
 .rw[List.getElem?_replicate]at e;split at e<;>cases e
def wj(s:f6 F H)(r:f9 K F vs ts):Sr K ⟨F,[]⟩ H F H (lB N vs) (gM N.length ts):=by
 refine⟨.refl s,?_,λi t e=>?_,⟨λ_=>0,λi l e=>?_,λi j l m e=>?_⟩,λ_ k=>(nomatch k),λ_ _ _ h=>(by cases h),⟨λi c e=>(xH e).elim,λi j c d e=>(xH e).elim⟩⟩
 .simp[L2.lB,gM,r.length]
 .unfold gM at e;rw[List.getElem?_append]at e;split at e
  .rename_i g;rw[av]at e;cases q:ts[i]? with
   |none=>rw[q]at e;cases e
   |some x=>rw[q]at e;cases e;obtain⟨v,a,b⟩:=r.get q;refine⟨v,?_,b⟩;unfold L2.lB;rw[List.getElem?_append_left (by simpa[r.length] using g),av,a];rfl
  .rw[List.getElem?_replicate]at e;split at e<;>cases e
 .exfalso;unfold gM at e;rw[List.getElem?_append]at e;split at e
  .rw[av]at e;cases q:ts[i]? with
   |none=>rw[q]at e;cases e
   |some x=>rw[q]at e;cases e
  .rw[List.getElem?_replicate]at e;split at e<;>cases e
 .exfalso;unfold gM at e;rw[List.getElem?_append]at e;split at e
  .rw[av]at e;cases q:ts[i]? with
   |none=>rw[q]at e;cases e
   |some x=>rw[q]at e;cases e
  .rw[List.getElem?_replicate]at e;split at e<;>cases e
def uX(h:qc K (jw k n g) vs H Q E):vs.length=k:=by
 obtain⟨b,F0,s,r,q⟩:=h;unfold jw at q;by_cases a:b.length=k
 .rw[r.length];exact a
 .rw[aQ a]at q;exact q.elim
def uu{t:TS}(d:MS K E t g)(h:qc K (jw k N.length g) vs H Q E):t {nx:=λ_ b=>Q .non b,rt:=Q} (lB N vs) H:=by
 obtain⟨a,F0,s,r,q⟩:=h;unfold jw at q;by_cases c:a.length=k
 .rw[aP c]at q;refine d ⟨F0,[]⟩ H F0 H _ _ _ (wj s r) ?_;cases e:g (gM N.length a) with
  |bad=>rw[e]at q;exact q
  |nx ρ=>rw[e]at q;exact λj b i _ l=>q .non j b l.gr .non
  |rt t=>rw[e]at q;exact q
  |rf a=>rw[e]at q;exact kF.of q
  |rn a us=>rw[e]at q;exact kT.of q
  |bk ρ=>rw[e]at q;exact q.elim
  |ct ρ=>rw[e]at q;exact q.elim
  |er C n=>rw[e]at q;exact q
 .rw[aQ c]at q;exact q.elim
def C1(h:Ba K (zI k n g) vs H Q E):vs.length=k:=by
 obtain⟨b,F0,s,r,q⟩:=h;unfold zI at q;by_cases a:b.length=k
 .rw[r.length];exact a
 .rw[aQ a]at q;exact q.elim
def A0{t:TS}(c:MS K E t g)(h:Ba K (zI k N.length g) vs H Q E):t {nx:=λ_ d=>Q .non d,rt:=Q} (lB N vs) H:=by
 obtain⟨a,F0,s,r,q⟩:=h;unfold zI at q;by_cases b:a.length=k
 .rw[aP b]at q;refine c ⟨F0,[]⟩ H F0 H _ _ _ (wj s r) ?_;cases e:g (gM N.length a) with
  |bad=>rw[e]at q;exact q
  |nx ρ=>rw[e]at q;exact q.elim
  |rt t=>rw[e]at q;exact q.elim
  |rf a=>rw[e]at q;exact q
  |rn a us=>rw[e]at q;exact q.elim
  |bk ρ=>rw[e]at q;exact q.elim
  |ct ρ=>rw[e]at q;exact q.elim
  |er C n=>rw[e]at q;exact q
 .rw[aQ b]at q;exact q.elim
@[simp] noncomputable def xv(C:Addr)(x:Str)(fa:Pe->M T):Pe->M T:=λρ=>(fa ρ).bind λo=>match o with
 |.obj C' fs=>if C'=C then (match fs.lookup x with
  |some t=>.ok t
  |none=>.bad) else .bad
 |_=>.bad
def M6(k:xh K C)(n:lF K C x)(l:ME K E ta fa):ME K E (NM K ta x) (xv C x fa):=λF H σ ρ Q s V q=>by
 refine l.run s V q λo v F1 H1 d r b=>?_;cases r with
 |obj h rs=>
  rename_i a g p fs j;dsimp only at b;by_cases c:g=C
  .subst c;rw[aP rfl]at b;cases e:List.lookup x j with
   |none=>rw[e]at b;exact b.elim
   |some y=>rw[e]at b;obtain⟨w,i,m⟩:=rs.look e;exact⟨a,g,p,fs,w,rfl,d.fh _ _ h,k,n,i,b w F1 H1 d m⟩
  .rw[aQ c]at b;exact b.elim
 |_=>exact b.elim
end
end L3
namespace L3
open PySem L2 PySem.Spec PyProof.Rows
structure Pm(K:W.Frag)(E:XK)(X:Cx)(e:Expr)(t:TE)(f:Pe->M T):Prop where
 pe:PE X e t
 me:ME K E t f
structure Fw(K:W.Frag)(E:XK)(X:Cx)(e:Expr)(t:TE)(f:Pe->M (List T)):Prop where
 pe:PE X e t
 mf:MF K E t f
structure BK(K:W.Frag)(E:XK)(X:Cx)(e:Expr)(t:TT)(f:Pe->M Bool):Prop where
 pt:PT X e t
 mt:MT K E t f
structure Nc(K:W.Frag)(E:XK)(X:Cx)(e:Expr)(t:TT)(f:Pe->M Bool):Prop where
 pw:PW X e t
 mt:MT K E t f
structure zS(K:W.Frag)(E:XK)(X:Cx)(es:List Expr)(t:TA)(f:Pe->M (List T)):Prop where
 pa:PA X es t
 ma:MA K E t f
structure Jx(K:W.Frag)(E:XK)(X:Cx)(tg it:Expr)(w:TI)(f:Pe->M (List T)):Prop where
 pi:PI X tg it w
 mi:MI K E w f
structure Cp(K:W.Frag)(E:XK)(X:Cx)(tg it:Expr)(w:TI)(f:Pe->M (List T)):Prop where
 pi:PI X tg it w
 mi:QK K E w f
structure OX(K:W.Frag)(X:Cx)(tg:Expr)(g:TG)(m:T->Pe->Option Pe):Prop where
 pg:PG X tg g
 mg:MG K g m
structure JA(K:W.Frag)(X:Cx)(tg:List Expr)(g:Jw)(m:List T->Pe->Option Pe):Prop where
 pg:OR X tg g
 mg:Pd K g m
structure OY(K:W.Frag)(X:Cx)(tg:Expr)(g:TG)(m:T->En->Option En):Prop where
 pg:PG X tg g
 mg:JI K g m
structure Lc(K:W.Frag)(X:Cx)(tg:List Expr)(g:Jw)(m:List T->En->Option En):Prop where
 pg:OR X tg g
 mg:IK K g m
structure sC(K:W.Frag)(E:XK)(X:Cx)(st:Stmt)(t:TS)(g:En->O):Prop where
 ps:PS X st t
 ms:MS K E t g
structure nF(K:W.Frag)(E:XK)(X:Cx)(sts:List Stmt)(t:TS)(g:En->O):Prop where
 ps:wV X sts t
 ms:MS K E t g
noncomputable def MO(K:W.Frag)(E:XK)(t:TO)(f:Pe->M (Option Int)):Prop:=∀F H c a Q,f6 F H->lR K F c a->(f a).res (λo=>∀d b,Gr F H d b->Q o b) (kE E F H)->t c H Q
structure Q9(K:W.Frag)(E:XK)(X:Cx)(e:Option Expr)(t:TO)(f:Pe->M (Option Int)):Prop where
 po:PO X e t
 mo:MO K E t f
structure Jl(K:W.Frag)(E:XK)(X:Cx)(es:List Expr)(t:TT)(f:Pe->M Bool):Prop where
 pf:EN X es t
 mt:MT K E t f
section
variable {K:W.Frag}{E:XK}{X:Cx}{a b c e o:Expr}{es:List Expr}{ta tb tc te to:TE}{fa fb fc fe fo:Pe->M T}{tr:TA}{fr:Pe->M (List T)}{pos p p2 apos:Pos}
def fI i (h:X.N[i]? = some x:=by rfl) (f:PH X.env.scope x:=by first|exact Or.inl rfl|exact Or.inr (Or.inl rfl)|exact Or.inr (Or.inr rfl)) (g:(x==("__debug__" : Str))=false:=by decide)
  (d:(x==("__classdict__" : Str))=false:=by decide):Pm K E X (.Name x pos) (lS i) (fv i):=⟨pv i h f g d,Nt⟩
def gL{j pos}:Pm K E X (.Constant (.int i) j pos) (tC (.int i)) (cM (.int i)):=⟨Og,Hu λ_=>.int i⟩
def Hi{b:Bool}{j pos}:Pm K E X (.Constant (.bool b) j pos) (tC (.bl b)) (cM (.bl b)):=⟨PZ,Hu λ_=>.bl b⟩
def lE{j pos}:Pm K E X (.Constant .none j pos) (tC .non) (cM .non):=⟨Nq,Hu λ_=>.non⟩
def yu{j pos}:Pm K E X (.Constant (.str x) j pos) (tC (.str x)) (cM (.str x)):=⟨yU,Hu λ_=>.str x⟩
def AS i (d:∃t,X.mg x=some (.int i t)) (f:Gl X x:=by rfl) (g:(x==("__debug__" : Str))=false:=by decide):Pm K E X (.Name x pos) (tC (.int i)) (cM (.int i)):=let ⟨t,h⟩:=d;⟨qj f h ⟨t,rfl⟩ g,Hu λ_=>.int i⟩
def iY(h:Fw K E X e te f):Pm K E X e te (λρ=>(f ρ).bind λts=>.ok (.lst ts)):=⟨h.pe,h.mf.me⟩
def vN(g:pR X (binaryOp op) r)(hr:MR K r m)(f:Pm K E X a ta fa)(d:Pm K E X b tb fb):Pm K E X (.BinOp a op b pos) (wR r ta tb) (fL m fa fb):=⟨GW g f.pe d.pe,Dw hr f.me d.me⟩
def Gz(K:W.Frag):R2:=λx y H Q=>(BY λi j=>.int (i+j)) x y H Q\/(∃i j,x=.str i/\y=.str j/\i.length+j.length<=sizeLine/\Q (.str (i++j)) H)\/Mz x y H Q\/
 ∃a b d f,x=.ref a/\y=.ref b/\H a=some (.tup d)/\H b=some (.tup f)/\d.length+f.length<=sizeLine/\(d=[]->Q (.ref b) H)/\(d≠[]->f=[]->Q (.ref a) H)/\(d≠[]->f≠[]->∀p,H p=none->Q (.ref p) (ja H p (.tup (d++f))))
def Kt(A:X.K=K:=by rfl):pR X (binaryOp .Add) (Gz K):=by
 subst A;intro i s g H x y v u Q I d f h;rcases h with h|h|h|h
 .exact Ny i s g H x y v u Q I d f h
 .exact B0 i s g H x y v u Q I d f h
 .exact HM i s g H x y v u Q I d f h
 .obtain⟨a,b,m,J,rfl,rfl,r,n,hz,D,P,R⟩:=h;by_cases j:m=[]
  .subst j;cases d;cases f;obtain⟨Y,r1,p1,_⟩:=I.tuple (mx.of r);obtain⟨z,r2,p2,_⟩:=I.tuple (mx.of n);cases r1;obtain⟨⟨c1,N,e1,U⟩,q,Z,L,k⟩:=id p1;obtain⟨⟨c2,S,e2,B⟩,w,C,n2,l⟩:=id p2;subst Z k C l;exact concat_meets ⟨_,q,rfl⟩ ⟨_,w,rfl⟩ noFill_tuple_add seq_tuple_add PySem.F.slot_tuple_add PySem.F.entry_tuple_add (PySem.F.args_tuple_add_2 _ _) (tuple_addW0 a b _ _ L n2 N S U B (by simp)) ⟨q,w,⟨.ref b,H,I,rfl,D rfl⟩⟩
  .exact JQ i s g H _ _ v u Q I d f ⟨a,b,m,J,rfl,rfl,mx.of r,mx.of n,j,hz,λe=>P j e,λe p hp=>R j e p hp⟩
noncomputable def iI:T->T->M T
 |.int i,.int j=>.ok (.int (i+j))
 |.str i,.str j=>if i.length+j.length<=sizeLine then .ok (.str (i++j)) else .bad
 |.lst a,.lst b=>if a.length+b.length<=sizeLine then .ok (.lst (a++b)) else .bad
 |.tup a,.tup b=>if a.length+b.length<=sizeLine then .ok (.tup (a++b)) else .bad
 |_,_=>.bad
def JT x y:M.NoE (iI x y):=λC n=>by unfold iI;split<;>first|(intro z;cases z;done)|(split<;>intro z<;>cases z)
def JY:MR K (Gz K) iI:=⟨JT,λF H v w x y Q s n rb q=>by
 cases n with
 |int i=>
  cases rb with
  |int j=>exact .inl ⟨i,j,rfl,rfl,kV.now q s (.int _)⟩
  |_=>exact q.elim
 |str i=>
  cases rb with
  |str j=>
   have d:(if i.length+j.length<=sizeLine then M.ok (T.str (i++j)) else M.bad).res (kV K F H Q) (λ_ _=>False):=q;by_cases h:i.length+j.length<=sizeLine
   .rw[aP h]at d;exact .inr (.inl ⟨i,j,rfl,rfl,h,kV.now d s (.str _)⟩)
   .rw[aQ h]at d;exact d.elim
  |_=>exact q.elim
 |lst h1 r1=>
  cases rb with
  |lst h2 r2=>
   rename_i a m f b l g;have d:(if f.length+g.length<=sizeLine then M.ok (T.lst (f++g)) else M.bad).res (kV K F H Q) (λ_ _=>False):=q;by_cases h:f.length+g.length<=sizeLine
   .rw[aP h]at d;refine .inr (.inr (.inl ⟨a,b,m,l,rfl,rfl,s _ _ h1,s _ _ h2,by rw[r1.length,r2.length];exact h,λp k=>?_⟩));exact d (.ref p) _ _ (.new s k) (.lst fR ((r1.append r2).mono (Gr.new s k).ff))
   .rw[aQ h]at d;exact d.elim
  |_=>exact q.elim
 |tup h1 r1=>
  cases rb with
  |tup h2 r2=>
   rename_i a m f b l g;have d:(if f.length+g.length<=sizeLine then M.ok (T.tup (f++g)) else M.bad).res (kV K F H Q) (λ_ _=>False):=q;by_cases h:f.length+g.length<=sizeLine
   .rw[aP h]at d;refine .inr (.inr (.inr ⟨a,b,m,l,rfl,rfl,s _ _ h1,s _ _ h2,by rw[r1.length,r2.length];exact h,λe=>?_,λ_ e=>?_,λ_ _ p k=>?_⟩))
    .subst e;cases r1;exact kV.now d s (.tup h2 r2)
    .subst e;cases r2;exact kV.now d s (.tup h1 (by rw[bH];exact r1))
    .exact d (.ref p) _ _ (.new s k) (.tup fR ((r1.append r2).mono (Gr.new s k).ff))
   .rw[aQ h]at d;exact d.elim
  |_=>exact q.elim
 |_=>exact q.elim⟩
def uU(f:Pm K E X a ta fa)(d:Pm K E X b tb fb)(g:X.K=K:=by rfl):Pm K E X (.BinOp a .Add b pos) (wR (Gz K) ta tb) (fL iI fa fb):=vN (Kt g) JY f d
@[simp] noncomputable def vZ(fa fb:Pe->M T):Pe->M (List T):=λd=>(fa d).bind λx=>(fb d).bind λy=>match x,y with
 |.lst a,.lst b=>if a.length+b.length<=sizeLine then .ok (a++b) else .bad
 |_,_=>.bad
def GE(u:Pm K E X a ta fa)(r:Pm K E X b tb fb):Fw K E X (.BinOp a .Add b pos) (wR Mz ta tb) (vZ fa fb):=by
 refine⟨GW HM u.pe r.pe,λF H N J Q s V q=>?_⟩;refine u.me.run s V q λx v L P j I A=>?_;refine r.me.run j.fh (V.mono j.ff) A λy w n D d z i=>?_;cases I with
 |lst h1 t1=>
  cases z with
  |lst h2 t2=>
   rename_i a C k b B l;have g:(if k.length+l.length<=sizeLine then M.ok (k++l) else M.bad).res (kF K F H Q) (kE E n D):=i;by_cases h:k.length+l.length<=sizeLine
   .rw[aP h]at g;refine⟨a,b,C,B,rfl,rfl,d.fh _ _ (d.ff _ _ h1),d.fh _ _ h2,by rw[t1.length,t2.length];exact h,λp m=>?_⟩;have f:=j.trans d;exact g p _ n _ (f.trans (.new' d.fh m)) (gw f.hh m) (gw d.fh m) fR ((t1.mono d.ff).append t2)
   .rw[aQ h]at g;exact g.elim
  |_=>exact i.elim
 |_=>exact i.elim
noncomputable def pX:T->T->M T:=kC (λ_ _=>true) λi j=>.int (i-j)
def Gf(f:Pm K E X a ta fa)(d:Pm K E X b tb fb):Pm K E X (.BinOp a .Sub b pos) (wR (BY λi j=>.int (i-j)) ta tb) (fL pX fa fb):=vN MJ (rS λ_ _ _=>.int _) f d
instance {i j:Int}:Decidable (PySem.IntMulOk i j):=inferInstanceAs (Decidable (¬_))
noncomputable def jh:T->T->M T:=kC (λi j=>decide (PySem.IntMulOk i j)) λi j=>.int (i*j)
def Ig(f:Pm K E X a ta fa)(d:Pm K E X b tb fb):Pm K E X (.BinOp a .Mult b pos) (wR (rI (λi j=>PySem.IntMulOk i j) λi j=>.int (i*j)) ta tb) (fL jh fa fb):=vN JG (yH (λi j h=>of_decide_eq_true h) λ_ _ _=>.int _) f d
noncomputable def pW:T->T->M T:=kC (λi j=>decide (j≠0)&&!Builtin.divisionGoesByPylong i j) λi j=>.int (i.fdiv j)
def LB(f:Pm K E X a ta fa)(d:Pm K E X b tb fb):Pm K E X (.BinOp a .FloorDiv b pos) (wR (rI (λi j=>j≠0/\Builtin.divisionGoesByPylong i j=false) λi j=>.int (i.fdiv j)) ta tb) (fL pW fa fb):=vN FW (yH (λi j h=>by simpa using h) λ_ _ _=>.int _) f d
noncomputable def uQ:T->T->M T:=kC (λ_ j=>decide (j≠0)) λi j=>.int (i.fmod j)
def Oq(f:Pm K E X a ta fa)(d:Pm K E X b tb fb):Pm K E X (.BinOp a .Mod b pos) (wR (rI (λ_ j=>j≠0) λi j=>.int (i.fmod j)) ta tb) (fL uQ fa fb):=vN Ks (yH (λi j h=>by simpa using h) λ_ _ _=>.int _) f d
noncomputable def t7:T->T->M T:=kC (λi j=>decide (0<=j)&&decide (j<=1000000)&&decide (i.natAbs<18446744073709551616)) λi j=>.int (i ^ j.toNat)
def B7(f:Pm K E X a ta fa)(d:Pm K E X b tb fb):Pm K E X (.BinOp a .Pow b pos) (wR (rI Pk λi j=>.int (i ^ j.toNat)) ta tb) (fL t7 fa fb):=vN NK (yH (λi j h=>by simp only[bP,decide_eq_true_eq]at h;exact⟨h.1.1,h.1.2,h.2⟩) λ_ _ _=>.int _) f d
def ID(d:Pm K E X a ta fa):Pm K E X (.UnaryOp .USub a pos) (Rk (rU λi=>.int (-i)) ta) (uL (λi=>.int (-i)) fa):=⟨Qz Ms d.pe,Ph (λ_ _=>.int _) d.me⟩
@[simp] noncomputable def wM(fa fb:Pe->M T):Pe->M (List T):=λd=>(fa d).bind λx=>(fb d).bind λy=>match x,y with
 |.lst a,.int k=>if zu k=true/\a.length*k.toNat<=sizeLine then .ok (List.replicate k.toNat a).flatten else .bad
 |_,_=>.bad
def HS(u:Pm K E X a ta fa)(r:Pm K E X b tb fb):Fw K E X (.BinOp a .Mult b pos) (wR Pu ta tb) (wM fa fb):=by
 refine⟨GW N2 u.pe r.pe,λF H L I Q s V q=>?_⟩;refine u.me.run s V q λx v J N j D A=>?_;refine r.me.run j.fh (V.mono j.ff) A λy w n C d z i=>?_;cases D with
 |lst h1 t1=>
  cases z with
  |int k=>
   rename_i a B l;have g:(if zu k=true/\l.length*k.toNat<=sizeLine then M.ok (List.replicate k.toNat l).flatten else M.bad).res (kF K F H Q) (kE E n C):=i;by_cases h:zu k=true/\l.length*k.toNat<=sizeLine
   .rw[aP h]at g;refine⟨a,k,B,rfl,rfl,d.fh _ _ (d.ff _ _ h1),by have:=p9 h.1;rw[QR]at this;rw[Rc];omega,by have:=p9 h.1;rw[QR]at this;rw[Rc];omega,by rw[t1.length];exact h.2,λp m=>?_⟩;have f:=j.trans d;exact g p _ n _ (f.trans (.new' d.fh m)) (gw f.hh m) (gw d.fh m) fR ((t1.mono d.ff).rep k.toNat)
   .rw[aQ h]at g;exact g.elim
  |_=>exact i.elim
 |_=>exact i.elim
def pQ(h:Pm K E X e te fe)(f:∀d,isTrue e X.env d=(do let v <-d;standAt e.pos;holding [v] (truthy v)):=by intro _;rfl):BK K E X e (tB te) (gD fe):=⟨Cj h.pe f,Jf h.me⟩
section
variable {tA tD:TT}{fA fD:Pe->M Bool}{lO:List Expr}
def lu(h:BK K E X a tA fA):BK K E X (.UnaryOp .Not a pos) (JC tA) (lq fA):=⟨IT h.pt,NS h.mt⟩
def pU(h:Nc K E X a tA fA):BK K E X a tA fA:=⟨PW.pt h.pw,h.mt⟩
def l9(h:BK K E X a tA fA):Nc K E X (.BoolOp .And [a] pos) tA fA:=⟨Dp h.pt,h.mt⟩
def l6(h:BK K E X a tA fA):Nc K E X (.BoolOp .Or [a] pos) tA fA:=⟨OI h.pt,h.mt⟩
def nj(h:BK K E X a tA fA)(d:Nc K E X (.BoolOp .And (b::lO) pos) tD fD):Nc K E X (.BoolOp .And (a::b::lO) pos) (Jk tA tD) (l8 fA fD):=⟨G6 h.pt d.pw,M8 h.mt d.mt⟩
def nA(h:BK K E X a tA fA)(d:Nc K E X (.BoolOp .Or (b::lO) pos) tD fD):Nc K E X (.BoolOp .Or (a::b::lO) pos) (Rx tA tD) (t9 fA fD):=⟨PB h.pt d.pw,QD h.mt d.mt⟩
def sS{op}(h:Pm K E X a ta fa):Pm K E X (.BoolOp op [a] pos) ta fa:=⟨Gh h.pe,h.me⟩
def uM(h:Pm K E X a ta fa)(d:Pm K E X (.BoolOp .And (b::lO) pos) tb fb):Pm K E X (.BoolOp .And (a::b::lO) pos) (GV ta tb) (Fd fa fb):=⟨My h.pe d.pe,Lk h.me d.me⟩
def Pg(h:Pm K E X a ta fa)(d:Pm K E X (.BoolOp .Or (b::lO) pos) tb fb):Pm K E X (.BoolOp .Or (a::b::lO) pos) (HL ta tb) (RN fa fb):=⟨LR h.pe d.pe,ML h.me d.me⟩
def Bj(h:Pm K E X a ta fa):Pm K E X (.UnaryOp .Not a pos) (CS ta) (FQ fa):=⟨FH h.pe,KG h.me⟩
def LP(h:BK K E X c tA fA)(f:Pm K E X a ta fa)(d:Pm K E X b tb fb):Pm K E X (.IfExp c a b pos) (Q5 tA ta tb) (Pw fA fa fb):=⟨Ae h.pt f.pe d.pe,QG h.mt f.me d.me⟩
end
def yC(h:pR X (compareOp op) r)(hr:MR K r m)(f:Pm K E X a ta fa)(d:Pm K E X b tb fb)(g:behindInMarks op b=false:=by exact sO _):Pm K E X (.Compare a [op] [b] pos) (wR r ta tb) (fL m fa fb):=⟨JD h f.pe d.pe g,Dw hr f.me d.me⟩
def gB(h:pR X (compareOp op) r)(hr:MR K r m)(f:Pm K E X a ta fa)(d:Pm K E X b tb fb)(g:behindInMarks op b=false:=by exact sO _):BK K E X (.Compare a [op] [b] pos) (AN (wR r ta tb)) (gD (fL m fa fb)):=⟨Kd h f.pe d.pe g,Lm (Dw hr f.me d.me)⟩
noncomputable def Df:T->T->M T:=kC (λ_ _=>true) λi j=>.bl (decide (i<j))
noncomputable def G3:T->T->M T:=kC (λ_ _=>true) λi j=>.bl (decide (i<=j))
noncomputable def Kb:T->T->M T:=kC (λ_ _=>true) λi j=>.bl (decide (j<i))
noncomputable def J0:T->T->M T:=kC (λ_ _=>true) λi j=>.bl (decide (j<=i))
def rP:MR K (BY λi j=>.bl (decide (i<j))) Df:=rS λ_ _ _=>.bl _
def vj:MR K (BY λi j=>.bl (decide (i<=j))) G3:=rS λ_ _ _=>.bl _
def C0:MR K (BY λi j=>.bl (decide (j<i))) Kb:=rS λ_ _ _=>.bl _
def yg:MR K (BY λi j=>.bl (decide (j<=i))) J0:=rS λ_ _ _=>.bl _
@[simp] noncomputable def Q6(m f:T->T->M T)(fa fb fc:Pe->M T):Pe->M T:=λd=>(fa d).bind λx=>(fb d).bind λy=>(m x y).bind λz=>match z with
 |.bl true=>(fc d).bind λw=>f y w
 |.bl false=>.ok (.bl false)
 |_=>.bad
def Gc(hr:MR K r m)(f:MR K r' m')(ha:ME K E ta fa)(U:ME K E tb fb)(N:ME K E tc fc):ME K E (BA r r' ta tb tc) (Q6 m m' fa fb fc):=λF H σ ρ Q s V q=>by
 refine ha.run s V q λx v F1 H1 i r1 J=>?_;refine U.run i.fh (V.mono i.ff) J λy w B Y l u R=>?_;refine hr.ok B Y v w x y _ l.fh (r1.mono l.ff) u (((M.res.unb R).ne (hr.ne x y)).mono (λz n v3 C Z g P=>?_) λ_ _ z=>z);have d:=(i.trans l).trans g;cases P with
 |bl k=>
  refine⟨k,rfl,?_⟩;cases k with
  |true=>rw[aP rfl];have j:=n.mono (λ_ z=>z) λ_ _ z=>z.go g;refine N.run g.fh (V.mono d.ff) j λA S I D h L q4=>?_;exact f.ok I D w S y A Q h.fh (u.mono (g.ff.trans h.ff)) L ((q4.ne (f.ne y A)).mono (λ_ z=>z.go (d.trans h)) λ_ _ z=>z)
  |false=>rw[aQ aG];exact n _ C Z d (.bl _)
 |_=>exact n.elim
def zV(k:pR X (compareOp op) r)(hr:MR K r m)(d:pR X (compareOp op') r')(f:MR K r' m')(i:Pm K E X a ta fa)(g:Pm K E X b tb fb)(h:Pm K E X c tc fc)
  (j:lastMarks [op,op'] [b,c]=false:=by with_unfolding_all rfl):Pm K E X (.Compare a [op,op'] [b,c] pos) (BA r r' ta tb tc) (Q6 m m' fa fb fc):=⟨IU k d i.pe g.pe h.pe j,Gc hr f i.me g.me h.me⟩
mutual
noncomputable def qL:T->Bool
 |.str x=>PyData.canLay0 (.str x)
 |.lst ts=>qq ts
 |.tup ts=>qq ts
 |.scr _=>false
 |.obj _ _=>false
 |.emp=>false
 |.dic _=>false
 |_=>true
noncomputable def qq:List T->Bool
 |[]=>true
 |t::ts=>qL t&&qq ts
end
mutual
def z9:T->PyData
 |.non=>.none
 |.bl b=>.bool b
 |.int i=>.int i
 |.str x=>.str x
 |.lst ts=>.list (ud ts)
 |.tup ts=>.tuple (ud ts)
 |.scr _=>.none
 |.obj _ _=>.none
 |.emp=>.none
 |.dic _=>.none
def ud:List T->List PyData
 |[]=>[]
 |t::ts=>z9 t::ud ts
end
mutual
theorem Hj{F:Hp}:∀{v:V} {t:T},kb K F v t->qL t=true->DV K F v (z9 t)
 |_,_,.non,_=>.non
 |_,_,.bl b,_=>.bl b
 |_,_,.int i,_=>.int i
 |_,_,.str x,_=>.str x
 |_,_,.lst h r,l=>.lst (lg.of h) (BU r (by simpa[qL] using l))
 |_,_,.tup h r,l=>.tup (mx.of h) (BU r (by simpa[qL] using l))
 |_,_,.scr _,l=>by simp[qL]at l
 |_,_,.obj _ _,l=>by simp[qL]at l
 |_,_,.emp _,l=>by simp[qL]at l
 |_,_,.dic _ _,l=>by simp[qL]at l
theorem BU{F:Hp}:∀{vs:List V} {ts:List T},f9 K F vs ts->qq ts=true->AY K F vs (ud ts)
 |_,_,.nil,_=>.nil
 |_,_,.cons h r,l=>by rw[qq,bP]at l;exact .cons (Hj h l.1) (BU r l.2)
end
mutual
theorem yL:∀t,qL t=true->(z9 t).canLay0=true
 |.non,_=>rfl
 |.bl b,_=>rfl
 |.int i,_=>rfl
 |.str x,h=>by simpa[qL,z9] using h
 |.lst ts,h=>by rw[z9,PyData.canLay0];exact wa ts (by simpa[qL] using h)
 |.tup ts,h=>by rw[z9,PyData.canLay0];exact wa ts (by simpa[qL] using h)
 |.scr _,h=>by simp[qL]at h
 |.obj _ _,h=>by simp[qL]at h
 |.emp,h=>by simp[qL]at h
 |.dic _,h=>by simp[qL]at h
theorem wa:∀ts,qq ts=true->PyData.canLayAll0 (ud ts)=true
 |[],_=>rfl
 |t::ts,h=>by rw[qq,bP]at h;rw[ud,PyData.canLayAll0,yL t h.1,wa ts h.2];rfl
end
noncomputable def Di(x y:T):Bool:=(z9 x).eqv (z9 y)
noncomputable def wz(a b:List T):Bool:=PyData.eqvAll (ud a) (ud b)
noncomputable def CW(t:T):Nat:=(z9 t).depth
noncomputable def rJ(ts:List T):Nat:=PyData.depthAll (ud ts)
@[simp] theorem QY i:CW (.int i)=0:=rfl
@[simp] theorem Ro i:CW (.bl i)=0:=rfl
@[simp] theorem Rf i:CW (.str i)=0:=rfl
@[simp] theorem Re:CW .non=0:=rfl
@[simp] theorem K1 ts:CW (.lst ts)=rJ ts+1:=by unfold CW rJ;rw[z9,PyData.depth]
@[simp] theorem LD ts:CW (.tup ts)=rJ ts+1:=by unfold CW rJ;rw[z9,PyData.depth]
@[simp] theorem Qn:rJ []=0:=rfl
@[simp] theorem xw t ts:rJ (t::ts)=max (CW t) (rJ ts):=by unfold CW rJ;rw[ud,PyData.depthAll]
@[simp] theorem JZ i j:Di (.int i) (.int j)=(i==j):=rfl
@[simp] theorem Q8 i j:Di (.str i) (.str j)=(i==j):=rfl
def zx xs ys:Di (.lst xs) (.lst ys)=wz xs ys:=by unfold Di wz;rw[z9,z9,PyData.eqv]
def oE xs ys:Di (.tup xs) (.tup ys)=wz xs ys:=by unfold Di wz;rw[z9,z9,PyData.eqv]
def p7 x xs y ys:wz (x::xs) (y::ys)=(Di x y&&wz xs ys):=by unfold Di wz;rw[ud,ud,PyData.eqvAll]
noncomputable def fX(neg:Bool):T->T->M T:=λx y=>if qL x&&qL y&&decide (CW x<=100) then .ok (.bl (if neg then !Di x y else Di x y)) else .bad
mutual
theorem DV.same{F H:Hp}(s:f6 F H):∀{v:V} {d:PyData},DV K F v d->DV K H v d
 |_,_,.non=>.non
 |_,_,.bl b=>.bl b
 |_,_,.int i=>.int i
 |_,_,.str x=>.str x
 |_,_,.lst h r=>.lst (s.seq h) (AY.same s r)
 |_,_,.tup h r=>.tup (s.seqT h) (AY.same s r)
theorem AY.same{F H:Hp}(s:f6 F H):∀{v:List V} {d:List PyData},AY K F v d->AY K H v d
 |_,_,.nil=>.nil
 |_,_,.cons h r=>.cons (DV.same s h) (AY.same s r)
end
def JJ x y:M.NoE (fX neg x y):=λC n=>by unfold fX;split<;>exact λz=>nomatch z
def DN(neg:Bool):MR K (Bx K neg) (fX neg):=⟨JJ,λF H v w x y Q s a rb q=>by
 unfold fX at q;by_cases h:(qL x&&qL y&&decide (CW x<=100))=true
 .rw[aP h]at q;simp only[bP,decide_eq_true_eq]at h;refine⟨z9 x,z9 y,DV.same s (Hj a h.1.1),DV.same s (Hj rb h.1.2),⟨yL x h.1.1,yL y h.1.2,by exact h.2⟩,?_⟩;exact kV.now q s (.bl _)
 .rw[aQ h]at q;exact q.elim⟩
def Ay{k:Nat}(hr:iF k X.A)(f:Pm K E X a ta fa)(d:Pm K E X b tb fb)(e:X.K=K:=by rfl)(c:behindInMarks .Eq b=false:=by exact sO _):Pm K E X (.Compare a [.Eq] [b] pos) (wR (Bx K false) ta tb) (fL (fX false) fa fb):=yC (e▸GS (QX hr)) (DN false) f d c
def Qe{k:Nat}(hr:iF k X.A)(f:Pm K E X a ta fa)(d:Pm K E X b tb fb)(e:X.K=K:=by rfl)(c:behindInMarks .NotEq b=false:=by exact sO _):Pm K E X (.Compare a [.NotEq] [b] pos) (wR (Bx K true) ta tb) (fL (fX true) fa fb):=yC (e▸Iz (QX hr)) (DN true) f d c
def Gw{k:Nat}(hr:iF k X.A)(f:Pm K E X a ta fa)(d:Pm K E X b tb fb)(e:X.K=K:=by rfl)(c:behindInMarks .Eq b=false:=by exact sO _):BK K E X (.Compare a [.Eq] [b] pos) (AN (wR (Bx K false) ta tb)) (gD (fL (fX false) fa fb)):=gB (e▸GS (QX hr)) (DN false) f d c
def sV{k:Nat}(hr:iF k X.A)(f:Pm K E X a ta fa)(d:Pm K E X b tb fb)(e:X.K=K:=by rfl)(c:behindInMarks .NotEq b=false:=by exact sO _):BK K E X (.Compare a [.NotEq] [b] pos) (AN (wR (Bx K true) ta tb)) (gD (fL (fX true) fa fb)):=gB (e▸Iz (QX hr)) (DN true) f d c
@[simp] noncomputable def jL(neg:Bool):T->T->M T:=λx y=>match y with
 |.non=>.ok (.bl (match x with|.non=>!neg|_=>neg))
 |_=>.bad
def CU x y:M.NoE (jL neg x y):=λC n=>by cases y<;>exact λz=>nomatch z
def zm:MR K (λx y H Q=>y=.non/\Q (.bl (decide (x=.non))) H) (jL false):=⟨CU,λF H v w x y Q s a rb q=>by
 cases rb with
 |non=>refine⟨rfl,?_⟩;cases a<;>exact kV.now q s (.bl _)
 |_=>exact q.elim⟩
def oy:MR K (λx y H Q=>y=.non/\Q (.bl (!decide (x=.non))) H) (jL true):=⟨CU,λF H v w x y Q s a rb q=>by
 cases rb with
 |non=>refine⟨rfl,?_⟩;cases a<;>exact kV.now q s (.bl _)
 |_=>exact q.elim⟩
noncomputable def jP:T->Bool
 |.non=>true
 |.bl _=>true
 |.int _=>true
 |.str _=>true
 |_=>false
noncomputable def uo(x:T)(ts:List T):Bool:=ts.any λy=>Di y x
def kb.flat{F:Hp}{v:V}{x:T}(r:kb K F v x)(h:jP x=true):qI v=true:=by cases r<;>first|rfl|(simp[jP]at h;done)
theorem f9.flat{F:Hp}:∀{vs:List V} {a:List T},f9 K F vs a->a.all jP=true->vs.all qI=true
 |_,_,.nil,_=>rfl
 |_,_,.cons h r,q=>by rw[bR,bP]at q ⊢;exact⟨h.flat q.1,f9.flat r q.2⟩
def P9{F:Hp}{v w:V}{x y:T}(r:kb K F v x)(b:kb K F w y)(h:jP x=true)(a:jP y=true):Jt v w=Di x y:=by cases r<;>first|(exfalso;simp[jP]at h;done)|(cases b<;>first|(exfalso;simp[jP]at a;done)|rfl|simp[Jt,oE])
theorem GQ{F:Hp}{v:V}{x:T}(r:kb K F v x)(h:jP x=true):∀{vs:List V} {a:List T},f9 K F vs a->a.all jP=true->Ra v vs=uo x a
 |_,_,.nil,_=>rfl
 |_,_,.cons q rs,l=>by rw[bR,bP]at l;have b:=GQ r h rs l.2;unfold Ra uo at b ⊢;rw[bS,bS,b,P9 q r l.1 h]
noncomputable def IZ(neg:Bool):T->T->M T:=λx y=>match y with
 |.lst ts=>if jP x&&ts.all jP then .ok (.bl (if neg then !uo x ts else uo x ts)) else .bad
 |.tup ts=>if jP x&&ts.all jP then .ok (.bl (if neg then !uo x ts else uo x ts)) else .bad
 |_=>.bad
def J1 x y:M.NoE (IZ neg x y):=λC n=>by unfold IZ;split<;>first|(intro z;cases z;done)|(split<;>intro z<;>cases z)
def Qg(neg:Bool):MR K (Rm K neg) (IZ neg):=⟨J1,λF H v w x y Q s e rb q=>by
 cases rb with
 |lst h r=>
  rename_i a f c;have d:(if jP x&&c.all jP then M.ok (T.bl (if neg then !uo x c else uo x c)) else M.bad).res (kV K F H Q) (λ_ _=>False):=q;by_cases b:(jP x&&c.all jP)=true
  .rw[aP b]at d;rw[bP]at b;exact⟨a,f,rfl,.inl (lg.of (s _ _ h)),e.flat b.1,r.flat b.2,by rw[GQ e b.1 r b.2];exact kV.now d s (.bl _)⟩
  .rw[aQ b]at d;exact d.elim
 |tup h r=>
  rename_i a f c;have d:(if jP x&&c.all jP then M.ok (T.bl (if neg then !uo x c else uo x c)) else M.bad).res (kV K F H Q) (λ_ _=>False):=q;by_cases b:(jP x&&c.all jP)=true
  .rw[aP b]at d;rw[bP]at b;exact⟨a,f,rfl,.inr (mx.of (s _ _ h)),e.flat b.1,r.flat b.2,by rw[GQ e b.1 r b.2];exact kV.now d s (.bl _)⟩
  .rw[aQ b]at d;exact d.elim
 |_=>exact q.elim⟩
end
end L3
namespace L3
open PySem L2 PySem.Spec PyProof.Rows
section
variable {K:W.Frag}{E:XK}{X:Cx}{a b c e o tg it:Expr}{es:List Expr}{ta tb tc te to:TE}{fa fb fc fe fo:Pe->M T}{tr:TA}{fr:Pe->M (List T)}{pos p p2 apos:Pos}
def gQ:zS K E X [] qr fC:=⟨mU,CD⟩
def fN(d:Pm K E X e te fe)(hr:zS K E X es tr fr)(f:starEach (e::es) X.env=(false,eval e X.env)::starEach es X.env:=by rfl):zS K E X (e::es) (kY te tr) (fj fe fr):=⟨i9 d.pe hr.pa f,Kk d.me hr.ma⟩
def B4{x1}(h:zS K E X es tr fr):Pm K E X (.Tuple es x1 pos) (LA tr) (iL fr):=⟨Io h.pa,MZ h.ma⟩
def zM(h:zS K E X es tr fr):Fw K E X (.List es pos) (NA tr) (lstM fr):=⟨N5 h.pa,NX h.ma⟩
structure MC(K:W.Frag)(r:List V->Hp->VK->Prop)(o:List T->M T):Prop where
 ne:∀xs,M.NoE (o xs)
 ok:∀F H vs xs Q,f6 F H->f9 K F vs xs->(o xs).res (kV K F H Q) (λ_ _=>False)->r vs H Q
structure RI(K:W.Frag)(r:List V->Hp->VK->Prop)(o:List T->M (List T)):Prop where
 ne:∀xs,M.NoE (o xs)
 ok:∀F H vs xs Q,f6 F H->f9 K F vs xs->(o xs).res (kF K F H Q) (λ_ _=>False)->r vs H Q
@[simp] noncomputable def lp(o:List T->M T)(fr:Pe->M (List T)):Pe->M T:=λd=>(fr d).bind o
@[simp] noncomputable def BE(o:List T->M (List T))(fr:Pe->M (List T)):Pe->M (List T):=λd=>(fr d).bind o
def LK{o:List T->M T}(d:MC K r o)(l:MA K E tr fr):ME K E (De r tr) (lp o fr):=λF H u n Q s V q=>by refine l.run s V q λf j h k g m i=>?_;exact d.ok h k j f Q g.fh m ((i.ne (d.ne f)).mono (λ_ z=>z.go g) λ_ _ z=>z)
def QI{o:List T->M (List T)}(d:RI K r o)(l:MA K E tr fr):MF K E (De r tr) (BE o fr):=λF H u n Q s V q=>by refine l.run s V q λf j h k g m i=>?_;exact d.ok h k j f Q g.fh m ((i.ne (d.ne f)).mono (λ_ z=>z.go g) λ_ _ z=>z)
section
variable {x:Str}{id T':String}{r:List V->Hp->VK->Prop}{m:List T->M T}{mf:List T->M (List T)}
def gq(j:kj X (.builtin id) r)(f:MC K r m)(n:Gl X x)(i:X.mg x=none)(k:bootBuiltins x=some (.builtin id))(h:zS K E X (e::es) tr fr)(q:x≠ "__name__" :=by decide)(g:(x==("__debug__" : Str))=false:=by decide)
  (l:starEach (e::es) X.env=(false,eval e X.env)::starEach es X.env:=by rfl) (d:(backTo pos (starEach es X.env)).any (·.1)=false:=by rfl):Pm K E X (.Call (.Name x p) (e::es) [] pos) (De r tr) (lp m fr):=⟨pC j n i k h.pa q g l d,LK f h.ma⟩
def jc(j:kj X (.type T') r)(f:MC K r m)(n:Gl X x)(i:X.mg x=none)(k:bootBuiltins x=some (.type T'))(h:zS K E X (e::es) tr fr)(q:x≠ "__name__" :=by decide)(g:(x==("__debug__" : Str))=false:=by decide)
  (l:starEach (e::es) X.env=(false,eval e X.env)::starEach es X.env:=by rfl) (d:(backTo pos (starEach es X.env)).any (·.1)=false:=by rfl):Pm K E X (.Call (.Name x p) (e::es) [] pos) (De r tr) (lp m fr):=⟨tw j n i k h.pa q g l d,LK f h.ma⟩
def kU(j:kj X (.type T') r)(f:RI K r mf)(n:Gl X x)(i:X.mg x=none)(k:bootBuiltins x=some (.type T'))(h:zS K E X (e::es) tr fr)(q:x≠ "__name__" :=by decide)(g:(x==("__debug__" : Str))=false:=by decide)
  (l:starEach (e::es) X.env=(false,eval e X.env)::starEach es X.env:=by rfl) (d:(backTo pos (starEach es X.env)).any (·.1)=false:=by rfl):Fw K E X (.Call (.Name x p) (e::es) [] pos) (De r tr) (BE mf fr):=⟨tw j n i k h.pa q g l d,QI f h.ma⟩
end
@[simp] noncomputable def lQ:List T->M T
 |[.lst ts]=>.ok (.int ts.length)
 |[.tup ts]=>.ok (.int ts.length)
 |[.scr ns]=>.ok (.int ns.length)
 |[.str z]=>if z.length<=sizeLine then .ok (.int z.length) else .bad
 |_=>.bad
def Ki xs:M.NoE (lQ xs):=λC n=>by unfold lQ;split<;>first|(intro z;cases z;done)|(split<;>first|(intro z;cases z;done)|(split<;>intro z<;>cases z))
def jO:MC K (λg H Q=>∃x n,g=[x]/\NW K x H n/\Q (.int n) H) lQ:=⟨Ki,λF H i g Q s r q=>by
 cases r with
 |nil=>exact q.elim
 |cons h t=>
  cases t with
  |cons _ _=>cases h<;>exact q.elim
  |nil=>
   cases h with
   |lst h r=>exact⟨_,_,rfl,.inl ⟨_,lg.of (s _ _ h),rfl⟩,by rw[r.length];exact kV.now q s (.int _)⟩
   |tup h r=>exact⟨_,_,rfl,.inr ⟨_,mx.of (s _ _ h),rfl⟩,by rw[r.length];exact kV.now q s (.int _)⟩
   |scr h=>exact⟨_,_,rfl,.inl ⟨_,s.seq h,rfl⟩,by rw[aw];exact kV.now q s (.int _)⟩
   |str z=>
    have d:(if z.length<=sizeLine then M.ok (T.int z.length) else M.bad).res (kV K F H Q) (λ_ _=>False):=q;by_cases f:z.length<=sizeLine
    .rw[aP f]at d;exact⟨_,z.length,rfl,⟨f,rfl⟩,kV.now d s (.int _)⟩
    .rw[aQ f]at d;exact d.elim
   |_=>exact q.elim⟩
@[simp] noncomputable def EI:List T->M T
 |[.int i]=>.ok (.int (if i<0 then -i else i))
 |_=>.bad
def Lp xs:M.NoE (EI xs):=λC n=>by unfold EI;split<;>first|(intro z;cases z;done)|(split<;>first|(intro z;cases z;done)|(split<;>intro z<;>cases z))
def Cg:MC K (λd H Q=>∃i,d=[.int i]/\Q (.int (if i<0 then -i else i)) H) EI:=⟨Lp,λF H f d Q s r q=>by
 cases r with
 |nil=>exact q.elim
 |cons h t=>
  cases t with
  |cons _ _=>cases h<;>exact q.elim
  |nil=>
   cases h with
   |int i=>exact⟨i,rfl,kV.now q s (.int _)⟩
   |_=>exact q.elim⟩
@[simp] noncomputable def jQ:List T->M T
 |[.lst ts]=>.ok (.tup ts)
 |[.tup ts]=>.ok (.tup ts)
 |[.scr ns]=>.ok (.tup (ns.map T.int))
 |_=>.bad
def Cq xs:M.NoE (jQ xs):=λC n=>by unfold jQ;split<;>first|(intro z;cases z;done)|(split<;>first|(intro z;cases z;done)|(split<;>intro z<;>cases z))
def jt:MC K (λg H Q=>∃p f,g=[.ref p]/\((lg K H p f/\∀l,H l=none->Q (.ref l) (ja H l (.tup f)))\/(mx K H p f/\Q (.ref p) H))) jQ:=⟨Cq,λF H i g Q s r q=>by
 cases r with
 |nil=>exact q.elim
 |cons h t=>
  cases t with
  |cons _ _=>cases h<;>exact q.elim
  |nil=>
   cases h with
   |lst h r=>exact⟨_,_,rfl,.inl ⟨lg.of (s _ _ h),λl d=>q (.ref l) _ _ (.new s d) (.tup fR (r.mono (Gr.new s d).ff))⟩⟩
   |scr h=>exact⟨_,_,rfl,.inl ⟨s.seq h,λl d=>q (.ref l) _ _ (.new s d) (.tup fR (f9.of_ints _))⟩⟩
   |tup h r=>exact⟨_,_,rfl,.inr ⟨mx.of (s _ _ h),kV.now q s (.tup h r)⟩⟩
   |_=>exact q.elim⟩
@[simp] noncomputable def lW:List T->M (List T)
 |[.lst ts]=>.ok ts
 |[.tup ts]=>.ok ts
 |[.scr ns]=>.ok (ns.map T.int)
 |_=>.bad
def ET xs:M.NoE (lW xs):=λC n=>by unfold lW;split<;>first|(intro z;cases z;done)|(split<;>first|(intro z;cases z;done)|(split<;>intro z<;>cases z))
def mh:RI K (λg H Q=>∃p f,g=[.ref p]/\(lg K H p f\/mx K H p f)/\∀l,H l=none->Q (.ref l) (ja H l (.lst f))) lW:=⟨ET,λF H i g Q s r q=>by
 cases r with
 |nil=>exact q.elim
 |cons h t=>
  cases t with
  |cons _ _=>cases h<;>exact q.elim
  |nil=>
   cases h with
   |lst h r=>exact⟨_,_,rfl,.inl (lg.of (s _ _ h)),λl d=>q l _ F _ (.new' s d) d (gw s d) fR r⟩
   |scr h=>exact⟨_,_,rfl,.inl (s.seq h),λl d=>q l _ F _ (.new' s d) d (gw s d) fR (f9.of_ints _)⟩
   |tup h r=>exact⟨_,_,rfl,.inr (mx.of (s _ _ h)),λl d=>q l _ F _ (.new' s d) d (gw s d) fR r⟩
   |_=>exact q.elim⟩
def j4:List T->Option (LI)
 |[]=>some []
 |.int i::ts=>(j4 ts).bind λr=>some (i::r)
 |_::_=>none
theorem rd:∀{ts} {ns},j4 ts=some ns->ts=ns.map T.int
 |[],_,e=>by cases e;rfl
 |t::ts,ns,e=>by
  cases t with
  |int i=>
   cases q:j4 ts with
   |none=>simp[j4,q]at e
   |some r=>simp[j4,q]at e;subst e;rw[rd q];rfl
  |_=>cases e
@[simp] theorem E4 ns:j4 (ns.map T.int)=some ns:=by
 induction ns with
 |nil=>rfl
 |cons n ns ih=>simp[j4,ih]
def qA:List T->Option (List Bool)
 |[]=>some []
 |.bl i::ts=>(qA ts).bind λr=>some (i::r)
 |_::_=>none
theorem yf:∀{ts} {ns},qA ts=some ns->ts=ns.map T.bl
 |[],_,e=>by cases e;rfl
 |t::ts,ns,e=>by
  cases t with
  |bl i=>
   cases q:qA ts with
   |none=>simp[qA,q]at e
   |some r=>simp[qA,q]at e;subst e;rw[yf q];rfl
  |_=>cases e
@[simp] theorem QM ns:qA (ns.map T.bl)=some ns:=by
 induction ns with
 |nil=>rfl
 |cons n ns ih=>simp[qA,ih]
@[simp] noncomputable def IC:List T->M T
 |[.lst ts]=>match j4 ts with
  |some ns=>.ok (.int ns.sum)
  |none=>.bad
 |_=>.bad
def Lg xs:M.NoE (IC xs):=λC n=>by unfold IC;split<;>first|(intro z;cases z;done)|(split<;>first|(intro z;cases z;done)|(split<;>intro z<;>cases z))
def NN:MC K (λg H Q=>∃(p:Addr) (d:LI),g=[.ref p]/\lg K H p (d.map V.int)/\Q (.int d.sum) H) IC:=⟨Lg,λF H j g Q s r q=>by
 cases r with
 |nil=>exact q.elim
 |cons h t=>
  cases t with
  |cons _ _=>cases h<;>exact q.elim
  |nil=>
   cases h with
   |lst h r=>
    rename_i a g i;have f:(match j4 i with|some d=>M.ok (T.int d.sum)|none=>M.bad).res (kV K F H Q) (λ_ _=>False):=q;cases e:j4 i with
    |none=>rw[e]at f;exact f.elim
    |some d=>rw[e]at f;rw[rd e]at r;have:=r.ints;subst this;exact⟨a,d,rfl,lg.of (s _ _ h),kV.now f s (.int _)⟩
   |_=>exact q.elim⟩
@[simp] noncomputable def xr:List T->M T
 |[.lst ts]=>match qA ts with
  |some ns=>.ok (.bl (ns.all id))
  |none=>.bad
 |_=>.bad
def JN xs:M.NoE (xr xs):=λC n=>by unfold xr;split<;>first|(intro z;cases z;done)|(split<;>first|(intro z;cases z;done)|(split<;>intro z<;>cases z))
def qU:MC K (λf H Q=>∃(p:Addr) (bs:List Bool),f=[.ref p]/\lg K H p (bs.map V.bl)/\Q (.bl (bs.all id)) H) xr:=⟨JN,λF H i f Q s r q=>by
 cases r with
 |nil=>exact q.elim
 |cons h t=>
  cases t with
  |cons _ _=>cases h<;>exact q.elim
  |nil=>
   cases h with
   |lst h r=>
    rename_i a f g;have d:(match qA g with|some ns=>M.ok (T.bl (ns.all id))|none=>M.bad).res (kV K F H Q) (λ_ _=>False):=q;cases e:qA g with
    |none=>rw[e]at d;exact d.elim
    |some ns=>rw[e]at d;rw[yf e]at r;have:=r.bls;subst this;exact⟨a,ns,rfl,lg.of (s _ _ h),kV.now d s (.bl _)⟩
   |_=>exact q.elim⟩
@[simp] noncomputable def OW:T->String
 |.non=> "NoneType"
 |.bl _=> "bool"
 |.int _=> "int"
 |.str _=> "str"
 |.tup _=> "tuple"
 |.lst _=> "list"
 |.scr _=> "script"
 |.obj _ _=> "object"
 |.emp=> "dict"
 |.dic _=> "table"
@[simp] noncomputable def MN(n:String)(x:T):M T:=match x with
 |.scr _=>.bad
 |.obj _ _=>.bad
 |.dic _=>.bad
 |x=>.ok (.bl (OW x==n||(n == "int" && OW x == "bool")))
def Qo(r:kb K F v x)(s:f6 F H)(g:∀j,x≠.scr j)(f:∀C fs,x≠.obj C fs)(k:∀d,x≠.dic d):pS K H v (.type (OW x)):=by
 cases r with
 |non=>exact .non
 |bl b=>exact .bl b
 |int i=>exact .int i
 |str x=>exact .str x
 |tup h r=>exact .tup (s _ _ h)
 |lst h r=>exact .lst (s _ _ h)
 |scr h=>exact absurd rfl (g _)
 |obj h r=>exact absurd rfl (f _ _)
 |emp h=>exact .dK (s _ _ h)
 |dic h r=>exact absurd rfl (k _)
@[simp] noncomputable def tq(n:String)(fe:Pe->M T):Pe->M T:=λd=>(fe d).bind λx=>MN n x
theorem NI(A:∀t∈["NoneType", "bool", "int", "str", "tuple", "list", "dict"],W.kitOne K (.type t) (.type n)=some (t==n||(n == "int" && t == "bool")))(B:ME K E te fe) :
  ME K E (De (λw H Q=>∃x T t b,w=[x,.ty T]/\pS K H x t/\W.kitOne K t (.type T)=some b/\Q (.bl b) H) (kY te (kY (tC (.ty n)) qr))) (tq n fe):=λF H J I Q s V q=>by
 refine B.run s V q λx v u j m D f=>?_;have d:∀b,MN n x=.ok (.bl b)->(∀i,x≠.scr i)->(∀C fs,x≠.obj C fs)->(∀h,x≠.dic h)->b=(OW x==n||(n == "int" && OW x == "bool"))->∃g T t b,[v,L2.V.ty n]=[g,.ty T]/\pS K j g t/\W.kitOne K t (.type T)=some b/\Q (.bl b) j:=by
  intro b e k r l y;rw[e]at f;refine⟨v,n,_,b,rfl,Qo D m.fh k r l,?_,f _ u j m (.bl _)⟩;rw[y];refine A _ ?_;cases x with
  |scr i=>exact absurd rfl (k i)
  |obj C fs=>exact absurd rfl (r C fs)
  |dic h=>exact absurd rfl (l h)
  |_=>simp[OW]
 cases x with
 |scr i=>exact f.elim
 |obj C fs=>exact f.elim
 |dic h=>exact f.elim
 |non=>exact d _ rfl (λ_ z=>nomatch z) (λ_ _ z=>nomatch z) (λ_ z=>nomatch z) rfl
 |bl _=>exact d _ rfl (λ_ z=>nomatch z) (λ_ _ z=>nomatch z) (λ_ z=>nomatch z) rfl
 |int _=>exact d _ rfl (λ_ z=>nomatch z) (λ_ _ z=>nomatch z) (λ_ z=>nomatch z) rfl
 |str _=>exact d _ rfl (λ_ z=>nomatch z) (λ_ _ z=>nomatch z) (λ_ z=>nomatch z) rfl
 |tup _=>exact d _ rfl (λ_ z=>nomatch z) (λ_ _ z=>nomatch z) (λ_ z=>nomatch z) rfl
 |lst _=>exact d _ rfl (λ_ z=>nomatch z) (λ_ _ z=>nomatch z) (λ_ z=>nomatch z) rfl
 |emp=>exact d _ rfl (λ_ z=>nomatch z) (λ_ _ z=>nomatch z) (λ_ z=>nomatch z) rfl
def KW K:∀n∈["int", "bool", "str", "tuple", "list"],∀t∈["NoneType", "bool", "int", "str", "tuple", "list", "dict"],W.kitOne K (.type t) (.type n)=some (t==n||(n == "int" && t == "bool")):=by intro n f t d;simp only[aE,List.mem_nil_iff,or_false]at f d;rcases f with rfl|rfl|rfl|rfl|rfl<;>rcases d with rfl|rfl|rfl|rfl|rfl|rfl|rfl<;>rfl
def mw n (g:n∈["int", "bool", "str", "tuple", "list"]) (i:X.mg "isinstance" = none) (d:X.mg x=none) (h:bootBuiltins x=some (.type n)) (r:Pm K E X e te fe) (u:X.K=K:=by rfl) (f:Gl X "isinstance" :=by rfl) (k:Gl X x:=by rfl)
  (q:x≠ "__name__" :=by decide) (j:(x==("__debug__" : Str))=false:=by decide)
  (s:starEach [e,.Name x p3] X.env=(false,eval e X.env)::starEach [.Name x p3] X.env:=by rfl) (m:starEach [.Name x p3] X.env=(false,eval (.Name x p3) X.env)::starEach [] X.env:=by rfl) (l:(backTo pos (starEach [.Name x p3] X.env)).any (·.1)=false:=by rfl) :
  Pm K E X (.Call (.Name "isinstance" p) [e,.Name x p3] [] pos) (De (λv H Q=>∃x T t b,v=[x,.ty T]/\pS K H x t/\W.kitOne K t (.type T)=some b/\Q (.bl b) H) (kY te (kY (tC (.ty n)) qr))) (tq n fe):=by
 subst u;exact⟨pC Ja f i yV (i9 r.pe (i9 (DD k d h rfl q j) mU m) s) (by decide) (by decide) s l,NI (KW X.K n g) r.me⟩
@[simp] noncomputable def gS:T->T->M T
 |.lst ts,.int i=>match qC ts i with
  |some t=>.ok t
  |none=>.bad
 |.tup ts,.int i=>match qC ts i with
  |some t=>.ok t
  |none=>.bad
 |.scr ns,.int i=>match qC ns i with
  |some t=>.ok (.int t)
  |none=>.bad
 |.str z,.int i=>if z.length<=sizeLine then (match qC z.cps.toList i with
  |some c=>.ok (.str ⟨#[c]⟩)
  |none=>.bad) else .bad
 |_,_=>.bad
def Dc(r:f9 K F vs ts)(h:qC ts i=some t):∃v,qC vs i=some v/\kb K F v t:=by
 unfold qC at h ⊢;rw[r.length];cases e:wU ts.length i with
 |none=>rw[e]at h;cases h
 |some j=>rw[e]at h;exact r.get h
def uK(f:α->β) l i:qC (l.map f) i=(qC l i).map f:=by
 unfold qC;rw[aw];cases wU l.length i with
 |none=>rfl
 |some j=>simp
def Oy x y:M.NoE (gS x y):=λC n=>by unfold gS;split<;>first|(intro z;cases z;done)|(split<;>first|(intro z;cases z;done)|(split<;>intro z<;>cases z))
def QN:MR K (RE K) gS:=⟨Oy,λF H v w x y Q s d rb q=>by
 unfold gS at q;split at q
 .rename_i k i;rw[rb.int_inv];obtain⟨a,g,rfl,h,r⟩:=d.lst_inv;split at q
  .rename_i t e;obtain⟨v,f,j⟩:=Dc r e;exact .inl ⟨a,g,i,v,rfl,rfl,lg.of (s _ _ h),f,kV.now q s j⟩
  .exact q.elim
 .rename_i k i;rw[rb.int_inv];obtain⟨a,g,rfl,h,r⟩:=d.tup_inv;split at q
  .rename_i t e;obtain⟨v,f,j⟩:=Dc r e;exact .inr (.inl ⟨a,g,i,v,rfl,rfl,mx.of (s _ _ h),f,kV.now q s j⟩)
  .exact q.elim
 .rename_i m i;rw[rb.int_inv];cases d with
  |scr h=>
   split at q
   .rename_i t e;exact .inl ⟨_,_,i,.int t,rfl,rfl,s.seq h,by rw[uK,e];rfl,kV.now q s (.int _)⟩
   .exact q.elim
 .rename_i z i;rw[rb.int_inv];cases d with
  |str z=>
   split at q
   .rename_i l;split at q
    .rename_i c e;exact .inr (.inr ⟨z,i,c,rfl,rfl,l,e,kV.now q s (.str _)⟩)
    .exact q.elim
   .exact q.elim
 .exact q.elim⟩
def Dm(f:Pm K E X a ta fa)(d:Pm K E X b tb fb)(h:DE b:=by intro _ _;rfl)(g:X.K=K:=by rfl):Pm K E X (.Subscript a b pos) (wR (RE K) ta tb) (fL gS fa fb):=⟨PY (g▸Od) f.pe d.pe h,Dw QN f.me d.me⟩
def Gv:Q9 K E X none Dx (λ_=>.ok none):=⟨K3,λF H f d Q s V q=>q F H (.refl s)⟩
@[simp] noncomputable def jR(fe:Pe->M T):Pe->M (Option Int):=λd=>(fe d).bind λx=>match x with
 |.int i=>.ok (some i)
 |_=>.bad
def Ib(h:Pm K E X e te fe):Q9 K E X (some e) (LU te) (jR fe):=⟨Kp h.pe,λF H m l Q s V q=>by
 refine h.me.run s V q λx v g j f k d=>?_;cases k with
 |int i=>exact⟨i,rfl,d g j f⟩
 |_=>exact d.elim⟩
noncomputable def oo{f:Type}(d:List f)(g h:Option Int):List f:=(d.drop (HT.sIx d.length 0 g)).take (HT.sIx d.length d.length h-HT.sIx d.length 0 g)
def Mo xs lo hi:Im xs lo hi=oo xs lo hi:=rfl
def f9.cut(r:f9 K F vs ts) lo hi:f9 K F (oo vs lo hi) (oo ts lo hi):=by unfold oo;rw[r.length];exact (r.drop _).take _
def Hl(f:α->β) l lo hi:oo (l.map f) lo hi=(oo l lo hi).map f:=by unfold oo;rw[aw,cT,List.map_drop]
section
variable {lo hi:Option Expr}{tl th:TO}{fl fh:Pe->M (Option Int)}
def MO.run{k:Option Int->M α}{P:α->Prop}(h:MO K E t f)(s:f6 F H)(v:lR K F σ ρ)(r:((f ρ).bind k).res P (kE E F H))
  (j:∀x i d,Gr F H i d->(k x).res P (kE E i d)->Q x d):t σ H Q:=
 h F H σ ρ Q s v ((M.res.unb r).mono (λx q i d g=>j x i d g (q.mono (λ_ z=>z) λ_ _ z=>z.go g)) λ_ _ z=>z)
@[simp] noncomputable def mF(fe:Pe->M T)(fl fh:Pe->M (Option Int)):Pe->M T:=λd=>(fe d).bind λx=>(fl d).bind λl=>(fh d).bind λh=>match x with
 |.tup ts=>.ok (.tup (oo ts l h))
 |.lst ts=>.ok (.lst (oo ts l h))
 |.scr ns=>.ok (.lst ((oo ns l h).map T.int))
 |_=>.bad
def AJ(B:Pm K E X e te fe)(y:Q9 K E X lo tl fl)(z:Q9 K E X hi th fh)(C:X.K=K:=by rfl):Pm K E X (.Subscript e (.Slice lo hi none p2) pos) (RW (λx lo hi H Q=>Qv K x lo hi H Q\/(QE K x lo hi H Q\/Qf K x lo hi H Q)) te tl th) (mF fe fl fh):=by
 subst C;refine⟨Iw (Jy.or (NB.or Ld)) B.pe y.po z.po,λF H U R Q s V q=>?_⟩;refine B.me.run s V q λx v S H1 k N D=>?_;refine y.mo.run k.fh (V.mono k.ff) D λl P Z m L=>?_;refine z.mo.run m.fh ((V.mono k.ff).mono m.ff) L λu w A d j=>?_;have g:=(k.trans m).trans d;have I:=N.mono (m.ff.trans d.ff);cases I with
 |lst h r=>exact .inl ⟨_,_,rfl,lg.of (d.fh _ _ h),λp i=>j (.ref p) _ _ (g.trans (.new d.fh i)) (.lst fR ((r.cut l u).mono (Gr.new d.fh i).ff))⟩
 |scr h=>exact .inl ⟨_,_,rfl,d.fh.seq h,λp i=>j (.ref p) _ _ (g.trans (.new d.fh i)) (.lst fR (by rw[Mo,Hl];exact f9.of_ints _))⟩
 |tup h r=>
  rename_i a Y f;have n:(M.ok (T.tup (oo f l u))).res (kV X.K F H Q) (kE E w A):=j;by_cases hw:HT.sIx f.length 0 l=0/\HT.sIx f.length f.length u=f.length
  .have J:oo f l u=f:=by unfold oo;rw[hw.1,hw.2];simp
   rw[J]at n;exact .inr (.inr ⟨_,_,rfl,mx.of (d.fh _ _ h),by rw[r.length];exact hw,n _ w A g (.tup h r)⟩)
  .exact .inr (.inl ⟨_,_,rfl,mx.of (d.fh _ _ h),by rw[r.length];exact hw,λp i=>n (.ref p) _ _ (g.trans (.new d.fh i)) (.tup fR ((r.cut l u).mono (Gr.new d.fh i).ff))⟩)
 |_=>exact j.elim
end
section
variable {x:Str}{k:Nat}{Fn:List T->M T}{Ff:List T->M (List T)}
def lG(h:lA X.prog X.w X.K X.mg X.base x j (qc K Fn))(hr:iF k X.A)(g:zS K E X (e::es) tr fr)(l:j<=k:=by decide)(m:Gl X x:=by rfl)
  (f:(x==("__debug__" : Str))=false:=by decide) (i:starEach (e::es) X.env=(false,eval e X.env)::starEach es X.env:=by rfl) (d:(backTo pos (starEach es X.env)).any (·.1)=false:=by rfl) :
  Pm K E X (.Call (.Name x p) (e::es) [] pos) (rD (qc K Fn) [] E0 tr) (fM fr Fn):=⟨Ai (h.mono l) hr g.pa m f i d,IY g.ma⟩
def Do(h:lA X.prog X.w X.K X.mg X.base x j (Ba K Ff))(hr:iF k X.A)(g:zS K E X (e::es) tr fr)(l:j<=k:=by decide)(m:Gl X x:=by rfl)
  (f:(x==("__debug__" : Str))=false:=by decide) (i:starEach (e::es) X.env=(false,eval e X.env)::starEach es X.env:=by rfl) (d:(backTo pos (starEach es X.env)).any (·.1)=false:=by rfl) :
  Fw K E X (.Call (.Name x p) (e::es) [] pos) (rD (Ba K Ff) [] E0 tr) (jo fr Ff):=⟨Ai (h.mono l) hr g.pa m f i d,G9 g.ma⟩
end
def Qb(K:W.Frag)(t:TE):TI:=λd H R=>FN K t d H R\/M9 K t d H R
@[simp] noncomputable def ig(fa:Pe->M T):Pe->M (List T):=λd=>(fa d).bind λx=>match x with
 |.lst ts=>.ok ts
 |.scr ns=>.ok (ns.map T.int)
 |.tup ts=>.ok ts
 |_=>.bad
def Ox(g:ME K E ta fa):MI K E (Qb K ta) (ig fa):=λF H f d R s V q=>by
 unfold ig at q;cases e:fa d with
 |bad=>rw[e]at q;exact q.elim
 |er C n=>rw[e]at q;exact .inl (yR g F H f d R s V (by unfold Rg;rw[e];exact q))
 |ok x=>
  rw[e]at q;cases x with
  |lst ts=>exact .inl (yR g F H f d R s V (by unfold Rg;rw[e];exact q))
  |scr ns=>exact .inl (yR g F H f d R s V (by unfold Rg;rw[e];exact q))
  |tup ts=>exact .inr (NL g F H f d R s V (by unfold RX;rw[e];exact q))
  |_=>exact q.elim
def gK(d:Pm K E X a ta fa)(i:X.K=K:=by rfl):Jx K E X tg a (Qb K ta) (ig fa):=by
 subst i;refine⟨λg s f H R I h=>?_,Ox d.me⟩;rcases h with h|h
 .exact KB d.pe g s f H R I h
 .exact NC d.pe g s f H R I h
def Mj(K:W.Frag)(ta:TA):TI:=λf H R=>∃d g,MB K d g ta f H R
@[simp] noncomputable def seqT:T->M (List T)
 |.lst ts=>.ok ts
 |.scr ns=>.ok (ns.map T.int)
 |.tup ts=>.ok ts
 |_=>.bad
@[simp] noncomputable def nc(fa:Pe->M (List T)):Pe->M (List T):=λd=>(fa d).bind λg=>match g with
 |[x,y]=>(seqT x).bind λf=>(seqT y).bind λh=>.ok (yt f h)
 |_=>.bad
noncomputable def rZ:T->Bool
 |.tup _=>true
 |_=>false
def Ci x:seqT x=seqB (rZ x) x:=by cases x<;>rfl
def K7(h:MA K E tr fr):MI K E (Mj K tr) (nc fr):=λF H g d R s V q=>by
 unfold nc at q;cases e:fr d with
 |bad=>rw[e]at q;exact q.elim
 |er C n=>rw[e]at q;exact⟨true,true,HD h F H g d R s V (by unfold Mq;rw[e];exact q)⟩
 |ok xs=>
  rw[e]at q;match xs,e,q with
  |[],_,q=>exact q.elim
  |[_],_,q=>exact q.elim
  |[x,y],e,q=>refine⟨rZ x,rZ y,HD h F H g d R s V ?_⟩;unfold Mq;rw[e];have f:((seqT x).bind λi=>(seqT y).bind λj=>M.ok (yt i j)).res (kI K F H R) (kE E F H):=q;rw[Ci x,Ci y]at f;exact f
  |_::_::_::_,_,q=>exact q.elim
def l7{x1}(g:X.mg "zip" = none)(f:zS K E X [a,b] tr fr)(i:X.K=K:=by rfl)(k:Gl X "zip" :=by rfl)(j:starEach [a,b] X.env=[(false,eval a X.env),(false,eval b X.env)]:=by rfl)
  (d:starEach [b] X.env=[(false,eval b X.env)]:=by rfl):Jx K E X (.Tuple elts x1 tpos) (.Call (.Name "zip" p) [a,b] [] pos) (Mj K tr) (nc fr):=by
 subst i;refine⟨λm s l H R I h=>?_,K7 f.ma⟩;obtain⟨n,q,h⟩:=h;exact N6 k g f.pa j d m s l H R I h
def ni(f:X.mg "range" = none)(d:zS K E X [a] tr fr)(h:Gl X "range" :=by rfl)(g:starEach [a] X.env=[(false,eval a X.env)]:=by rfl):Cp K E X tg (.Call (.Name "range" p) [a] [] pos) (GY tr) (ng fr):=⟨E5 h f d.pa g,Jz d.ma⟩
def Cp.pim(h:Cp K E X tg it w f):Jx K E X tg it w f:=⟨h.pi,h.mi.mi⟩
section
variable {x:Str}{g:TG}{gs:Jw}{m:T->Pe->Option Pe}{ms:List T->Pe->Option Pe}{mo:T->En->Option En}{mos:List T->En->Option En}{n:Nat}
def iD i (h:X.N.Nodup) (d:Bh X.env.scope x:=by first|exact Or.inl rfl|exact Or.inr rfl) (j:X.N[i]? = some x:=by rfl) (f:X.fn x=true\/X.env.scope.names.lookup x=some .local:=by first|exact .inl rfl|exact .inr rfl|assumption):OX K X (.Name x pos) (jj i) (jV i):=⟨CV h j d f,KH⟩
def ie i (h:X.N.Nodup) (d:Bh X.env.scope x:=by first|exact Or.inl rfl|exact Or.inr rfl) (j:X.N[i]? = some x:=by rfl) (f:X.fn x=true\/X.env.scope.names.lookup x=some .local:=by first|exact .inl rfl|exact .inr rfl|assumption):OY K X (.Name x pos) (jj i) (jD i):=⟨CV h j d f,GH⟩
def kK:JA K X [] E3 oY:=⟨CN,J4⟩
def mR:Lc K X [] E3 kX:=⟨CN,GK⟩
def gW(f:OX K X e g m)(d:JA K X es gs ms)(h:(assignEach (e::es) X.env).map (·.2)=assign e X.env::(assignEach es X.env).map (·.2):=by rfl):JA K X (e::es) (wF g gs) (iM m ms):=⟨zZ f.pg d.pg h,GO f.mg d.mg⟩
def iN(f:OY K X e g mo)(d:Lc K X es gs mos)(h:(assignEach (e::es) X.env).map (·.2)=assign e X.env::(assignEach es X.env).map (·.2):=by rfl):Lc K X (e::es) (wF g gs) (gO mo mos):=⟨zZ f.pg d.pg h,Ed f.mg d.mg⟩
def nI n (f:X.calm=true) (h:JA K X es gs ms) (i:X.K=K:=by rfl) (j:(assignEach es X.env).length=n:=by rfl) (d:(assignEach es X.env).findIdx? (·.1)=none:=by rfl):OX K X (.Tuple es k pos) (Ey K n gs) (oV n ms):=by subst i;exact⟨HP f h.pg j d,N9 h.mg⟩
def qQ n (f:X.calm=true) (h:Lc K X es gs mos) (i:X.K=K:=by rfl) (j:(assignEach es X.env).length=n:=by rfl) (d:(assignEach es X.env).findIdx? (·.1)=none:=by rfl):OY K X (.Tuple es k pos) (Ey K n gs) (lb n mos):=by subst i;exact⟨HP f h.pg j d,Lw h.mg⟩
end
section
variable {elt iter:Expr}{ifs:List Expr}{scope:Scope}{N:List Str}{ix:List (Option Nat)}{wi:TI}{g:TG}{tt:TT}{fi:Pe->M (List T)}{m:T->Pe->Option Pe}{ft:Pe->M Bool}
def iA:Jl K E X [] OE (λ_=>.ok true):=⟨JW,Ni⟩
def lh(h:BK K E X c t f):Jl K E X [c] t f:=⟨J9 h.pt,h.mt⟩
@[simp] noncomputable def kP(ix:List (Option Nat))(fi:Pe->M (List T))(m:T->Pe->Option Pe)(ft:Pe->M Bool)(fe:Pe->M T):Pe->M (List T):=λf=>(fi f).bind λd=>(if d.length<sizeLine then pO (r6 m ft fe (nq ix f)) d else .bad).noEr
def Qk(l:X.calm=true)(k:Jx K E X tg iter wi fi)(L:zY X scope N ix)(j:oz ix g)
  (f:∀C d H i h,OX K (mH X N scope C d H i h) tg g m/\Jl K Jq (mH X N scope C d H i h) ifs tt ft/\Pm K Jq (mH X N scope C d H i h) elt te fe)
  (n:∀x,foldedSetIterable iter X.env x=pure x:=by intro _;rfl):Fw K E X (.ListComp elt [⟨tg,iter,ifs,0⟩] scope pos) (FR ix wi g tt te) (kP ix fi m ft fe):=by
 obtain⟨q,r,s⟩:=f 0 X.s₀ X.H₀ [] [];exact⟨Po l k.pi L j (λC d H i h=>⟨(f C d H i h).1.pg,(f C d H i h).2.1.pf,(f C d H i h).2.2.pe⟩) n,LJ k.mi q.mg r.mt s.me⟩
end
end
end L3
namespace L3
open PySem L2 PySem.Spec PyProof.Rows
section
variable {K:W.Frag}{E:XK}{X:Cx}{a b c e o tg it:Expr}{es:List Expr}{ta tb tc te to:TE}{fa fb fc fe fo:Pe->M T}{tr:TA}{fr:Pe->M (List T)}{pos pos' p p2 apos:Pos}{st:Stmt}{lO:List Stmt}{t u:TS}{g g':En->O}{ff:Pe->M (List T)}{x:Str}
def fY:nF K E X [] Hv gG:=⟨Kw,Ll⟩
def fG(h:sC K E X st t g):nF K E X [st] t g:=⟨zf h.ps,h.ms⟩
def fz(h:sC K E X st t g)(d:nF K E X lO u g'):nF K E X (st::lO) (zd t u) (fO g g'):=⟨pT h.ps d.ps,OK h.ms d.ms⟩
def yF:sC K E X st zg (λ_=>.bad):=⟨GM,AM⟩
def gU(h:Pm K E X e te fe):sC K E X (.Return (some e) pos) (yY te) (gN fe):=⟨zN h.pe,Ob h.me⟩
def rK(h:Fw K E X e te ff):sC K E X (.Return (some e) pos) (yY te) (rV ff):=⟨zN h.pe,KI h.mf⟩
def rN i (h:PE X (.Name x p) (lS i)):sC K E X (.Return (some (.Name x p)) pos) (yY (lS i)) (oJ i):=⟨zN h,DY⟩
def gx{tc:TT}{fc:Pe->M Bool}(d:BK K E X c tc fc)(h:nF K E X A t g)(f:nF K E X B u g'):sC K E X (.If c A B pos) (NQ tc t u) (jT fc g g'):=⟨Qx d.pt h.ps f.ps,Qj d.mt h.ms f.ms⟩
def BN{tc:TT}{fc:Pe->M Bool}(d:En->Nat)(i:PassesOwn (model X.prog X.w) X.A X.env X.xe)(f:BK K E X c tc fc)(h:nF K E X A t g):sC K E X (.While c A [] pos) (BL tc t) (λρ=>lY fc g (d ρ) ρ):=⟨Gm i f.pt h.ps,HX d f.mt h.ms⟩
section
variable {w:TI}{fi:Pe->M (List T)}{gt:TG}{m:T->En->Option En}{A:List Stmt}
def iV(j:PassesOwn (model X.prog X.w) X.A X.env X.xe)(i:X.calm=true)(h:Jx K E X tg it w fi)(f:OY K X tg gt m)(d:nF K E X A t g)(k:∀x,foldedSetIterable it X.env x=pure x:=by intro _;rfl):sC K E X (.For tg it A [] pos) (Ji w gt t) (mJ fi m g):=⟨Ho j i h.pi f.pg d.ps k,OG h.mi f.mg d.ms⟩
def pD(j:PassesOwn (model X.prog X.w) X.A X.env X.xe)(i:X.calm=true)(h:Cp K E X tg it w fi)(f:OY K X tg gt m)(d:nF K E X A t g)(k:∀x,foldedSetIterable it X.env x=pure x:=by intro _;rfl):sC K E X (.For tg it A [] pos) (Ji w gt t) (rY fi m g):=⟨Ho j i h.pi f.pg d.ps k,JP h.mi f.mg d.ms⟩
end
def Np i (y:X.N.Nodup) (w:Bh X.env.scope x)
  (s:X.calm=true) (n:Jx K E X tg iter wi fi) (L:zY X scope N ix) (l:oz ix gt)
  (f:∀C d H j h,OX K (mH X N scope C d H j h) tg gt m/\Jl K Jq (mH X N scope C d H j h) ifs tt ft/\Pm K Jq (mH X N scope C d H j h) elt te fe)
  (z:MF K E (FR ix wi gt tt te) (kP ix fi m ft fe)->MS K E (mG (FR ix wi gt tt te) (jj i)) gm)
  (r:X.N[i]? = some x:=by rfl) (B:X.fn x=true\/X.env.scope.names.lookup x=some .local:=by first|exact .inl rfl|exact .inr rfl)
  (k:swapsWith (.ListComp elt [⟨tg,iter,ifs,0⟩] scope pos) (some (.Name x py)) spos.line X.env=pure true:=by rfl)
  (A:∀x,foldedSetIterable iter X.env x=pure x:=by intro _;rfl):sC K E X (.Assign [.Name x py] (.ListComp elt [⟨tg,iter,ifs,0⟩] scope pos) spos) (mG (FR ix wi gt tt te) (jj i)) gm:=by
 obtain⟨q,v,D⟩:=f 0 X.s₀ X.H₀ [] [];exact⟨IG y r w s n.pi L l (λC d H j h=>⟨(f C d H j h).1.pg,(f C d H j h).2.1.pf,(f C d H j h).2.2.pe⟩) B k A,z (LJ n.mi q.mg v.mt D.me)⟩
def ij i (l:X.N.Nodup) (h:Pm K E X e te fe) (j:Bh X.env.scope x:=by first|exact Or.inl rfl|exact Or.inr rfl) (k:X.N[i]? = some x:=by rfl) (d:swapsWith e (some (.Name x pos')) pos.line X.env=pure false:=by rfl) (f:X.fn x=true\/X.env.scope.names.lookup x=some .local:=by first|exact .inl rfl|exact .inr rfl|assumption) :
  sC K E X (.Assign [.Name x pos'] e pos) (mG te (jj i)) (setO i (g9 fe)):=⟨sU l k j h.pe d f,CT h.me⟩
def wu i (l:X.N.Nodup) (h:Pm K E X e te fe) (j:Bh X.env.scope x:=by first|exact Or.inl rfl|exact Or.inr rfl) (k:X.N[i]? = some x:=by rfl) (d:swapsWith e (some (.Name x pos')) pos.line X.env=pure false:=by rfl) (f:X.fn x=true\/X.env.scope.names.lookup x=some .local:=by first|exact .inl rfl|exact .inr rfl|assumption) :
  sC K E X (.Assign [.Name x pos'] e pos) (mG te (jj i)) (setO i (m9 fe)):=⟨sU l k j h.pe d f,K2 h.me⟩
def nS i (l:X.N.Nodup) (h:Fw K E X e te ff) (j:Bh X.env.scope x:=by first|exact Or.inl rfl|exact Or.inr rfl) (k:X.N[i]? = some x:=by rfl) (d:swapsWith e (some (.Name x pos')) pos.line X.env=pure false:=by rfl) (f:X.fn x=true\/X.env.scope.names.lookup x=some .local:=by first|exact .inl rfl|exact .inr rfl|assumption) :
  sC K E X (.Assign [.Name x pos'] e pos) (mG te (jj i)) (nL i (oS ff)):=⟨sU l k j h.pe d f,DF h.mf⟩
def wI(h:MF K E te ff):MS K E (mG te (jj i)) (setO i (g9 λρ=>(ff ρ).bind λts=>.ok (.lst ts))):=CT h.me
def Ce(h:H l=some (.lst xs)):OQ K "list" (.ref l) H:=.inl ⟨rfl,_,lg.of h⟩
def pJ i (r:PE X (.Name x p) (lS i)) (n:Pm K E X e te fe) (m:starEach [e] X.env=(false,eval e X.env)::starEach [] X.env:=by rfl) (q:X.K=K:=by rfl)
  (f:attributeBase (.Name x p) "append" X.env (eval (.Name x p) X.env)=eval (.Name x p) X.env:=by rfl)
  (j:((backTo pos (starEach [e] X.env)).all (λx=>!x.1)&&(backToKw pos (keywordEach [] X.env)).all (λx=>x.1.isSome)&&decide (([e]:List Expr).length+([]:List Keyword).length+(if ([]:List Keyword).isEmpty then 0 else 1)<30))=true:=by rfl)
  (d:(apos.endLine==pos.line)=true:=by rfl) (hplain:(backTo pos (starEach [] X.env)).any (·.1)=false:=by rfl) (k:swapsWith (.Call (.Attribute (.Name x p) "append" apos) [e] [] pos) none pos'.line X.env=pure false:=by rfl) :
  sC K E X (.Expr (.Call (.Attribute (.Name x p) "append" apos) [e] [] pos) pos') (sv (Fe K i te)) (pb i (g9 fe)):=by
 subst q;exact⟨uE (Iq PySem.F.plainAttrs_list PySem.F.slot_list_append PySem.F.type_list_append sQ r (i9 n.pe mU m) f j d m hplain) k,Lz (λl s H h=>Ce h) n.me⟩
def Ia i (r:PE X (.Name x p) (lS i)) (n:Pm K E X e te fe) (m:starEach [e] X.env=(false,eval e X.env)::starEach [] X.env:=by rfl) (q:X.K=K:=by rfl)
  (f:attributeBase (.Name x p) "append" X.env (eval (.Name x p) X.env)=eval (.Name x p) X.env:=by rfl)
  (j:((backTo pos (starEach [e] X.env)).all (λx=>!x.1)&&(backToKw pos (keywordEach [] X.env)).all (λx=>x.1.isSome)&&decide (([e]:List Expr).length+([]:List Keyword).length+(if ([]:List Keyword).isEmpty then 0 else 1)<30))=true:=by rfl)
  (d:(apos.endLine==pos.line)=true:=by rfl) (hplain:(backTo pos (starEach [] X.env)).any (·.1)=false:=by rfl) (k:swapsWith (.Call (.Attribute (.Name x p) "append" apos) [e] [] pos) none pos'.line X.env=pure false:=by rfl) :
  sC K E X (.Expr (.Call (.Attribute (.Name x p) "append" apos) [e] [] pos) pos') (sv (Fe K i te)) (pb i (m9 fe)):=by
 subst q;exact⟨uE (Iq PySem.F.plainAttrs_list PySem.F.slot_list_append PySem.F.type_list_append sQ r (i9 n.pe mU m) f j d m hplain) k,KO (λl s H h=>Ce h) n.me⟩
def uH i (f:PE X (.Name x p) (lS i)) (d:Pm K E X b tb fb) (h:Pm K E X e te fe)
  (l:∀v,assign (.Subscript (.Name x p) b p2) X.env v=(do
   let ov <-holding [v] (eval (.Name x p) X.env)
   let iv <-holding [v,ov] (eval b X.env)
   standAt p2
   holding [v,ov,iv] (setItem ov iv v)
   release [v,ov,iv] []):=by intro _;rfl)
  (j:swapsWithSole [.Subscript (.Name x p) b p2] e pos.line X.env=pure false:=by rfl) (hw:swappedStores [.Subscript (.Name x p) b p2] e X.env=pure none:=by rfl)
  (k:(assignEach [.Subscript (.Name x p) b p2] X.env).map (·.2)=[assign (.Subscript (.Name x p) b p2) X.env]:=by rfl) :
  sC K E X (.Assign [.Subscript (.Name x p) b p2] e pos) (mG te (OL (lS i) tb C5)) (vv i (m9 fb) (m9 fe)):=⟨IJ h.pe (NV f d.pe GJ l) j hw k,Mr h.me d.me⟩
def gI(h:Pm K E X e te fe)(d:swapsWith e none pos.line X.env=pure false:=by rfl):sC K E X (.Expr e pos) (sv te) (i6 (g9 fe)):=⟨uE h.pe d,HC h.me⟩
end
section
variable {P:Program}{w:World}{K:W.Frag}{mg:Str->Option Value}{base:Heap}{x:Str}{st:Stmt}{N ps:List Str}{k:Nat}{g:En->O}
def RB(D:fJ K mg x st)(S:iP N ps (fK st))
  (i:∀(kV c m:Vq) (e:Option Addr) (b l:Vq) (us:List Vq),us.length=ps.length->bindArgs (W.fnOf x x (jg st) (gJ st) (fK st) .none kV c m e b l) ⟨us,[]⟩=pure (ps.zip us))
  (j:∀(f:Addr) (b:Vq) (A:Around) (a:List Env) (s:Shared) (H:Hp) (E:XK),iF k (A.deeper (envOfC x (fK st) s.heap.objs.size f b))->∃t,nF K E (jS uD P w K mg base N x (fK st) f b A a s H E).nox (gJ st) t g) :
  lA P w K mg base x (k+1) (qc K (jw ps.length N.length g)):=
 yW D S i (λd H Q E h=>uX h) λf b A a s H d Q E hr h=>let ⟨t,hp⟩:=j f b A a s H E hr;⟨t,hp.ps,uu hp.ms h⟩
def Rt(D:fJ K mg x st)(S:iP N ps (fK st))
  (i:∀(kV c m:Vq) (e:Option Addr) (b l:Vq) (us:List Vq),us.length=ps.length->bindArgs (W.fnOf x x (jg st) (gJ st) (fK st) .none kV c m e b l) ⟨us,[]⟩=pure (ps.zip us))
  (j:∀(f:Addr) (b:Vq) (A:Around) (a:List Env) (s:Shared) (H:Hp) (E:XK),iF k (A.deeper (envOfC x (fK st) s.heap.objs.size f b))->∃t,nF K E (jS uD P w K mg base N x (fK st) f b A a s H E).nox (gJ st) t g) :
  lA P w K mg base x (k+1) (Ba K (zI ps.length N.length g)):=
 yW D S i (λd H Q E h=>C1 h) λf b A a s H d Q E hr h=>let ⟨t,hp⟩:=j f b A a s H E hr;⟨t,hp.ps,A0 hp.ms h⟩
end
end L3
namespace L3
open PySem L2 PySem.Spec PyProof.Rows
section
variable {K:W.Frag}{E:XK}{X:Cx}{a b c e o tg it:Expr}{es:List Expr}{ta tb tc te to:TE}{fa fb fc fe fo:Pe->M T}{tr:TA}{fr:Pe->M (List T)}{pos p p2 apos:Pos}
@[simp] noncomputable def iB(f:Pe->M (List T)):Pe->M T:=λd=>(f d).bind λg=>.ok (.lst g)
def ia(d:X.K=K:=by rfl):kj X (.builtin "len") (λf H Q=>∃x n,f=[x]/\NW K x H n/\Q (.int n) H):=d▸FI
def E8(f:X.calm=true)(g:X.K=K:=by rfl):kj X (.builtin "sum") (λh H Q=>∃(p:Addr) (d:LI),h=[.ref p]/\lg K H p (d.map V.int)/\Q (.int d.sum) H):=g▸G8 f
def lU(d:X.calm=true)(f:X.K=K:=by rfl):kj X (.builtin "all") (λg H Q=>∃(p:Addr) (bs:List Bool),g=[.ref p]/\lg K H p (bs.map V.bl)/\Q (.bl (bs.all id)) H):=f▸IQ d
def xZ(d:X.calm=true)(f:X.K=K:=by rfl):kj X (.builtin "any") (λg H Q=>∃p vs bs,g=[.ref p]/\(lg K H p vs\/mx K H p vs)/\mj vs=some bs/\Q (.bl (bs.any id)) H):=f▸Fm d
def iK(f:X.K=K:=by rfl):kj X (.type "tuple") (λg H Q=>∃p d,g=[.ref p]/\((lg K H p d/\∀l,H l=none->Q (.ref l) (ja H l (.tup d)))\/(mx K H p d/\Q (.ref p) H))):=f▸xj
def j3(f:X.K=K:=by rfl):kj X (.type "list") (λg H Q=>∃p d,g=[.ref p]/\(lg K H p d\/mx K H p d)/\∀l,H l=none->Q (.ref l) (ja H l (.lst d))):=f▸zE
def Fo(d:X.K=K:=by rfl):pR X (compareOp .NotIn) (Rm K true):=d▸zy
def OO:T->Option Bool
 |.bl b=>some b
 |.int i=>some (i != 0)
 |_=>none
def tZ:List T->Option (List Bool)
 |[]=>some []
 |v::vs=>(OO v).bind λb=>(tZ vs).bind λr=>some (b::r)
theorem yG:∀{vs} {ts},f9 K F vs ts->mj vs=tZ ts
 |_,_,.nil=>rfl
 |v::vs,t::ts,.cons h r=>by
  have e:AK v=OO t:=by cases h<;>rfl
  rw[mj,tZ,yG r,e]
@[simp] theorem OT ns:tZ (ns.map T.bl)=some ns:=by
 induction ns with
 |nil=>rfl
 |cons n ns ih=>simp[tZ,OO,ih]
@[simp] noncomputable def t6(ts:List T):M T:=match tZ ts with
 |some bs=>.ok (.bl (bs.any id))
 |none=>.bad
@[simp] noncomputable def Br:List T->M T
 |[.lst ts]=>t6 ts
 |[.tup ts]=>t6 ts
 |_=>.bad
def FU ts:M.NoE (t6 ts):=λC n=>by unfold t6;split<;>intro z<;>cases z
def Kq xs:M.NoE (Br xs):=λC n=>by unfold Br;split<;>first|exact FU _ C n|(intro z;cases z)
def FX:MC K (λf H Q=>∃p vs bs,f=[.ref p]/\(lg K H p vs\/mx K H p vs)/\mj vs=some bs/\Q (.bl (bs.any id)) H) Br:=⟨Kq,λF H vs f Q s r q=>by
 cases r with
 |nil=>exact q.elim
 |cons h t=>
  cases t with
  |cons _ _=>cases h<;>exact q.elim
  |nil=>
   cases h with
   |lst h r=>
    rename_i a f g;have d:(t6 g).res (kV K F H Q) (λ_ _=>False):=q;unfold t6 at d;cases e:tZ g with
    |none=>rw[e]at d;exact d.elim
    |some bs=>rw[e]at d;exact⟨a,f,bs,rfl,.inl (lg.of (s _ _ h)),by rw[yG r];exact e,kV.now d s (.bl _)⟩
   |tup h r=>
    rename_i a f g;have d:(t6 g).res (kV K F H Q) (λ_ _=>False):=q;unfold t6 at d;cases e:tZ g with
    |none=>rw[e]at d;exact d.elim
    |some bs=>rw[e]at d;exact⟨a,f,bs,rfl,.inr (mx.of (s _ _ h)),by rw[yG r];exact e,kV.now d s (.bl _)⟩
   |_=>exact q.elim⟩
def Nn:Pm K E X (.Dict [] [] pos) Hf (cM .emp):=⟨HE,λF H g f Q s V q p d=>q (.ref p) _ _ (.new s d) (.emp fR)⟩
noncomputable def xA:T->T->M T
 |.tup a,.int k=>if zu k=true/\a.length*k.toNat<=sizeLine then .ok (.tup (List.replicate k.toNat a).flatten) else .bad
 |_,_=>.bad
def FG x y:M.NoE (xA x y):=λC n=>by unfold xA;split<;>first|(split<;>intro z<;>cases z)|(intro z;cases z)
def Ko:MR K IH xA:=⟨FG,λF H v w x y Q s j rb q=>by
 cases j with
 |tup h r=>
  cases rb with
  |int k=>
   rename_i a l g;have d:(if zu k=true/\g.length*k.toNat<=sizeLine then M.ok (T.tup (List.replicate k.toNat g).flatten) else M.bad).res (kV K F H Q) (λ_ _=>False):=q;by_cases f:zu k=true/\g.length*k.toNat<=sizeLine
   .rw[aP f]at d;refine⟨a,k,l,rfl,rfl,s _ _ h,by have:=p9 f.1;rw[QR]at this;rw[Rc];omega,by have:=p9 f.1;rw[QR]at this;rw[Rc];omega,by rw[r.length];exact f.2,λz=>?_,λz p i=>?_⟩
    .have:(List.replicate k.toNat g).flatten=g:=by
      rcases z with z|z
      .subst z;cases r;simp
      .subst z;simp
     rw[this]at d;exact kV.now d s (.tup h r)
    .exact d (.ref p) _ _ (.new s i) (.tup fR ((r.rep k.toNat).mono (Gr.new s i).ff))
   .rw[aQ f]at d;exact d.elim
  |_=>exact q.elim
 |_=>exact q.elim⟩
@[simp] noncomputable def rW(fa fb:Pe->M T):Pe->M T:=fL xA fa fb
def yA(f:Pm K E X a ta fa)(d:Pm K E X b tb fb):Pm K E X (.BinOp a .Mult b pos) (wR IH ta tb) (rW fa fb):=vN Km Ko f d
noncomputable def nr(d:List T):List T:=(d.zipIdx).map λp=>T.tup [.int (p.2:Int),p.1]
def Hw(K:W.Frag)(ta:TA):TI:=λd H R=>∃b,Gx K b ta d H R
@[simp] noncomputable def Dd(fa:Pe->M (List T)):Pe->M (List T):=λf=>(fa f).bind λd=>match d with
 |[x]=>(seqT x).bind λg=>.ok (nr g)
 |_=>.bad
def Lr{b:Bool}(d:∀H,f6 F H->uc K H b l xs)(j:f9 K F xs ts):xa K (Rz K b l) (nr ts) F where
 go:=λi H s u=>by
  have f:i<ts.length:=by simpa[nr] using u
  have h:xs[i]? = some (xs[i]'(by rw[j.length];exact f)):=ag _;exact⟨xs,_,d H s,h⟩
 stop:=λH s=>⟨xs,d H s,by simp[nr,j.length]⟩
 yld:=λi t z H x A m k e y=>by
  obtain⟨p,n,rfl,w,rfl,h⟩:=y;obtain⟨q,v,r⟩:=j.at_ (h xs (d H (m.trans k)));have:t=.tup [.int i,q]:=by unfold nr at e;rw[av,List.getElem?_zipIdx,v]at e;simp at e;exact e.symm
  rw[this];have g:=Gr.new (o:=.tup [.int i,n]) k w;exact⟨_,g,.tup fR (.cons (.int _) (.cons ((r.mono m).mono g.ff) .nil))⟩
noncomputable def Ck(b:Bool)(fa:Pe->M (List T)):Pe->M (List T):=λd=>(fa d).bind λg=>match g with
 |[x]=>(seqB b x).bind λf=>.ok (nr f)
 |_=>.bad
def Ap{b:Bool}(r:MA K E tr fr):MI K E (Gx K b tr) (Ck b fr):=λF H w v R s V q=>by
 refine r.run s V q λz y j m g u d=>?_;split at d
 .rename_i x;cases u with
  |cons a c=>
   cases c;cases f:seqB b x with
   |bad=>rw[f]at d;exact d.elim
   |er C n=>exact absurd f yI
   |ok ts=>rw[f]at d;obtain⟨l,i,rfl,h,k⟩:=yT a f;exact⟨l,rfl,⟨i,h _ g.fh⟩,d _ j m g (Lr h k)⟩
 .exact d.elim
def KL(h:MA K E tr fr):MI K E (Hw K tr) (Dd fr):=λF H g d R s V q=>by
 unfold Dd at q;cases e:fr d with
 |bad=>rw[e]at q;exact q.elim
 |er C n=>rw[e]at q;exact⟨true,Ap h F H g d R s V (by unfold Ck;rw[e];exact q)⟩
 |ok xs=>
  rw[e]at q;match xs,e,q with
  |[],_,q=>exact q.elim
  |[x],e,q=>refine⟨rZ x,Ap h F H g d R s V ?_⟩;unfold Ck;rw[e];have f:((seqT x).bind λi=>M.ok (nr i)).res (kI K F H R) (kE E F H):=q;rw[Ci x]at f;exact f
  |_::_::_,_,q=>exact q.elim
def J8{x1}(f:X.mg "enumerate" = none)(d:zS K E X [a] tr fr)(g:X.K=K:=by rfl)(j:Gl X "enumerate" :=by rfl)(i:starEach [a] X.env=[(false,eval a X.env)]:=by rfl) :
  Jx K E X (.Tuple elts x1 tpos) (.Call (.Name "enumerate" p) [a] [] pos) (Hw K tr) (Dd fr):=by
 subst g;refine⟨λl s k H R I h=>?_,KL d.ma⟩;obtain⟨b,h⟩:=h;exact FZ j f d.pa i l s k H R I h
end
structure Bs(mg:Str->Option Value):Prop where
 abs:mg "abs" = none
 isinstance:mg "isinstance" = none
 int:mg "int" = none
 bool:mg "bool" = none
 len:mg "len" = none
 range:mg "range" = none
 tuple:mg "tuple" = none
 list:mg "list" = none
 str:mg "str" = none
 all:mg "all" = none
 any:mg "any" = none
 sum:mg "sum" = none
 zip:mg "zip" = none
 max:mg "max" = none
 min:mg "min" = none
 enumerate:mg "enumerate" = none
 reversed:mg "reversed" = none
 set:mg "set" = none
 dict:mg "dict" = none
 sorted:mg "sorted" = none
def kM:bootBuiltins "list" = some (.type "list"):=by decide +kernel
def Nr:bootBuiltins "min" = some (.builtin "min"):=by decide +kernel
end L3
namespace L3
open PySem L2
section
variable {α:Type}
theorem yl enc f:∀(l:List α),(∀a∈l,k (enc a)=.ok (some (f a)))->pO k (l.map enc)=.ok (l.map f)
 |[],_=>rfl
 |a::l,h=>by rw[bE,pO,h a (by simp),M.bind_ok,yl enc f l λb c=>h b (by simp[c])];rfl
theorem rX enc f p:∀(l:List α),(∀a∈l,k (enc a)=.ok (if p a then some (f a) else none))->pO k (l.map enc)=.ok ((l.filter p).map f)
 |[],_=>rfl
 |a::l,h=>by
  rw[bE,pO,h a (by simp),M.bind_ok,rX enc f p l λb d=>h b (by simp[d])];by_cases c:p a=true
  .simp[c]
  .simp[c]
theorem iH enc (P:Nat->En->Prop):∀(l:List α) (k:Nat) (ρ:En),P k ρ->
  (∀i a ρ,l[i]? = some a->P (k+i) ρ->∃d c,m (enc a) ρ=some d/\(g d=.nx c\/g d=.ct c)/\P (k+i+1) c)->∃ρ',iO m g (l.map enc) ρ=.nx ρ'/\P (k+l.length) ρ'
 |[],k,ρ,h,_=>⟨ρ,rfl,h⟩
 |a::l,k,ρ,h,st=>by
  obtain⟨d,c,n,f,p⟩:=st 0 a ρ rfl h;obtain⟨ρ',e,q⟩:=iH enc P l (k+1) c p λi b ρ j o=>by have:=st (i+1) b ρ (by simpa using j) (by rw[show k+(i+1)=k+1+i by omega];exact o);rw[show k+1+i+1=k+(i+1)+1 by omega];exact this
  refine⟨ρ',?_,by rw[ay,show k+(l.length+1)=k+1+l.length by omega];exact q⟩;rw[bE,iO,n];rcases f with f|f<;>(dsimp only;rw[f];exact e)
theorem tG enc (P:En->Prop):∀(l:List α) (ρ:En),P ρ->
  (∀a∈l,∀ρ,P ρ->∃d c,m (enc a) ρ=some d/\(g d=.nx c\/g d=.ct c)/\P c)->∃ρ',iO m g (l.map enc) ρ=.nx ρ'/\P ρ'
 |[],ρ,h,_=>⟨ρ,rfl,h⟩
 |a::l,ρ,h,st=>by obtain⟨d,c,j,f,n⟩:=st a (by simp) ρ h;obtain⟨ρ',e,o⟩:=tG enc P l c n λb i ρ k=>st b (by simp[i]) ρ k;refine⟨ρ',?_,o⟩;rw[bE,iO,j];rcases f with f|f<;>(dsimp only;rw[f];exact e)
theorem oF(P:En->Prop)(b:En->Nat)(R:En->Prop)(st:∀ρ,P ρ->(c (vw ρ)=.ok false/\R ρ)\/(c (vw ρ)=.ok true/\∃a,(g ρ=.nx a\/g ρ=.ct a)/\P a/\b a<b ρ)) :
  ∀n ρ,P ρ->b ρ<n->∃ρ',lY c g n ρ=.nx ρ'/\R ρ'
 |0,ρ,_,h=>absurd h (cU _)
 |n+1,ρ,hP,hn=>by
  rcases st ρ hP with⟨e,r⟩|⟨e,a,d,f,j⟩
  .exact⟨ρ,by rw[lY,e];rfl,r⟩
  .obtain⟨ρ',i,r⟩:=oF P b R st n a f (by omega);refine⟨ρ',?_,r⟩;rw[lY,e,O.of_ok,aP rfl];rcases d with d|d<;>(rw[d];exact i)
end
def uz{d:Type}(l:List d) enc f (i:fi ρ=.ok (l.map enc)) (j:l.length<sizeLine)
  (e:∀a∈l,∃b,m (enc a) (nq ix ρ)=some b/\ft b=.ok true/\fe b=.ok (f a)):kP ix fi m ft fe ρ=.ok (l.map f):=by
 have h:=yl (k:=r6 m ft fe (nq ix ρ)) enc f l λa n=>by obtain⟨b,g,c,o⟩:=e a n;unfold r6;rw[g];dsimp only;rw[c,M.bind_ok,aP rfl,o];rfl
 unfold kP;rw[i,M.bind_ok,aw,aP j,h];rfl
theorem B1{d:Type}(l:List d) enc f p (j:fi ρ=.ok (l.map enc)) (n:l.length<sizeLine)
  (e:∀a∈l,∃b,m (enc a) (nq ix ρ)=some b/\ft b=.ok (p a)/\(p a=true->fe b=.ok (f a))):kP ix fi m ft fe ρ=.ok ((l.filter p).map f):=by
 have h:=rX (k:=r6 m ft fe (nq ix ρ)) enc f p l λa o=>by
  obtain⟨b,i,c,q⟩:=e a o;unfold r6;rw[i];dsimp only;rw[c,M.bind_ok];cases g:p a with
  |true=>rw[aP rfl,aP rfl,q g];rfl
  |false=>rw[aQ aG,aQ aG]
 unfold kP;rw[j,M.bind_ok,aw,aP n,h];rfl
def kr{c:Type}(l:List c) enc f (e:fi ρ=.ok (l.map enc)) (g:l.length<sizeLine)
  (d:∀a∈l,∃b,m (enc a) (nq ix ρ)=some b/\ft b=.ok true/\fe b=.ok (f a)) (hr:l.map f=ts):kP ix fi m ft fe ρ=.ok ts:=by rw[<-hr];exact uz l enc f e g d
def nv{c:Type}(l:List c) enc f p (e:fi ρ=.ok (l.map enc)) (g:l.length<sizeLine)
  (d:∀a∈l,∃b,m (enc a) (nq ix ρ)=some b/\ft b=.ok (p a)/\(p a=true->fe b=.ok (f a))) (hr:(l.filter p).map f=ts):kP ix fi m ft fe ρ=.ok ts:=by rw[<-hr];exact B1 l enc f p e g d
def Qu lo n:yP lo n=(List.range n).map λ(i:Nat)=>T.int (lo+(i:Int)):=rfl
noncomputable def tI(a:LI):T:=.tup (a.map T.int)
def tL(a:LI):T:=.lst (a.map T.int)
def fr(p:Int×Int):T:=.tup [.int p.1,.int p.2]
noncomputable def tS(s:List (Int×Int)):T:=.tup (s.map fr)
def B2(l:List α)(i:Int)(b:0<=i)(c:i<l.length):∃a,qC l i=some a/\a∈l:=by
 unfold qC wU;rw[aP b,aP c];have d:i.toNat<l.length:=by omega
 exact⟨l[i.toNat],by simp[d],aU _⟩
def ik(h:PySem.IntMulOk i j):jh (.int i) (.int j)=.ok (.int (i*j)):=by simp[jh,kC,h]
def m8(h:j≠0)(a:Builtin.divisionGoesByPylong i j=false):pW (.int i) (.int j)=.ok (.int (i.fdiv j)):=by simp[pW,kC,h,a]
def rm(h:j≠0):uQ (.int i) (.int j)=.ok (.int (i.fmod j)):=by simp[uQ,kC,h]
@[simp] theorem iR i j:iI (.int i) (.int j)=.ok (.int (i+j)):=rfl
@[simp] theorem mZ i j:pX (.int i) (.int j)=.ok (.int (i-j)):=rfl
@[simp] theorem qf i j:Df (.int i) (.int j)=.ok (.bl (decide (i<j))):=rfl
@[simp] theorem zq i j:G3 (.int i) (.int j)=.ok (.bl (decide (i<=j))):=rfl
@[simp] theorem yx i j:Kb (.int i) (.int j)=.ok (.bl (decide (j<i))):=rfl
@[simp] theorem rB i j:J0 (.int i) (.int j)=.ok (.bl (decide (j<=i))):=rfl
@[simp] theorem ib i j:fX false (.int i) (.int j)=.ok (.bl (i==j)):=by simp[fX,qL,oE]
@[simp] theorem lL i j:fX true (.int i) (.int j)=.ok (.bl (!(i==j))):=by simp[fX,qL,oE]
def tK(h:i.natAbs<2 ^ 64):PySem.IntMulOk i j:=IntMulOk.of_left (PyProof.Rows.intBits_le h)
def Cc(h:j.natAbs<2 ^ 64):PySem.IntMulOk i j:=PySem.IntMulOk.of_right (PyProof.Rows.intBits_le h)
def Bn(n:Nat)(x:Int):Prop:=x.natAbs<2 ^ n
def Bn.mono(h:Bn m x)(a:m<=n):Bn n x:=aD h (Nat.pow_le_pow_right (by decide) a)
def Bn.mul(h:Bn m x)(a:Bn n y):Bn (m+n) (x*y):=by unfold Bn at *;rw[aX,Nat.pow_add];exact Nat.mul_lt_mul'' h a
def Bn.add(h:Bn m x)(c:Bn n y):Bn (max m n+1) (x+y):=by have a:Bn (max m n) x:=h.mono (cV _ _);have b:Bn (max m n) y:=c.mono (cW _ _);unfold Bn at *;rw[cX];have:=cY x y;omega
def Bn.neg(h:Bn m x):Bn m (-x):=by unfold Bn at *;rw[cZ];exact h
def Bn.sub(h:Bn m x)(a:Bn n y):Bn (max m n+1) (x-y):=by rw[Int.sub_eq_add_neg];exact h.add a.neg
def Bn.ok(h:Bn m x)(b:Bn n y)(a:m<=2 ^ 20)(c:n<=2 ^ 20):PySem.IntMulOk x y:=IntMulOk.of_bits (aM (PyProof.Rows.intBits_le h) a) (aM (PyProof.Rows.intBits_le b) c)
def Bn.noPy(h:Bn n y)(a:n<=8000):Builtin.divisionGoesByPylong x y=false:=Cu.noPy (PyProof.Rows.intBits_le h) a
section
variable {a b g:En->O}{ρ ρ':En}{r:O}{fc:Pe->M Bool}{f:Pe->M T}{ff:Pe->M (List T)}{t:T}{ts:List T}{k n i:Nat}
def fF(d:a ρ=.nx ρ')(c:b ρ'=r):fO a b ρ=r:=by unfold fO;rw[d];exact c
def j5(c:a ρ=.rt t)(hr:.rt t=r):fO a b ρ=r:=by unfold fO;rw[c];exact hr
def jW(c:a ρ=.er C m):fO a b ρ=.er C m:=by unfold fO;rw[c]
def fW(h:fc (vw ρ)=.ok true)(c:a ρ=r):jT fc a b ρ=r:=by unfold jT;rw[h];exact c
def fH(h:fc (vw ρ)=.ok false)(c:b ρ=r):jT fc a b ρ=r:=by unfold jT;rw[h];exact c
def fP(h:f (nH ρ)=.ok t)(hr:ρ'=ρ.set i (some (.p t))):setO i (g9 f) ρ=.nx ρ':=by unfold setO g9;rw[h,hr];rfl
def uA(h:f (vw ρ)=.ok t)(c:lf t=true)(hr:ρ'=ρ.set i (some (.p t))):setO i (m9 f) ρ=.nx ρ':=by unfold setO m9;rw[h,hr];simp[c]
def lD(h:ff (nH ρ)=.ok ts)(hr:ρ'=ρ.set i (some (.o ts))):nL i (oS ff) ρ=.nx ρ':=by unfold nL oS;rw[h,hr];rfl
def JX(h:ff (vw ρ)=.ok ts)(c:FF ts=true)(hr:ρ'=ρ.set i (some (.o ts))):nL i (wY ff) ρ=.nx ρ':=by unfold nL wY;rw[h,hr];simp[c]
def tz(c:ρ[i]? = some (some (.o us)))(h:f (nH ρ)=.ok t)(d:us.length<sizeLine)(hr:ρ'=ρ.set i (some (.o (us++[t])))):pb i (g9 f) ρ=.nx ρ':=by unfold pb g9 mq;rw[c,h,hr];simp[d]
def Kh(c:ρ[i]? = some (some (.o us)))(h:f (vw ρ)=.ok t)(d:lf t=true)(e:us.length<sizeLine)(hr:ρ'=ρ.set i (some (.o (us++[t])))):pb i (m9 f) ρ=.nx ρ':=by unfold pb m9 mq;rw[c,h,hr];simp[e,d]
def zc(c:ρ[i]? = some (some (.o us)))(h:f (vw ρ)=.ok t)(l:lf t=true)(e:fk (vw ρ)=.ok (.int j))(d:wU us.length j=some m)(hr:ρ'=ρ.set i (some (.o (us.set m t)))):vv i (m9 fk) (m9 f) ρ=.nx ρ':=by unfold vv m9 mq;rw[c,h,e,hr];simp[l,d]
def fS(h:f (vw ρ)=.ok t):gN f ρ=.rt t:=by unfold gN;rw[h];rfl
def rz(h:ff (vw ρ)=.ok ts):rV ff ρ=.rf ts:=by unfold rV;rw[h];rfl
def jk(h:f (nH ρ)=.ok t):i6 (g9 f) ρ=.nx ρ:=by unfold i6 g9;rw[h];rfl
def iW(h:fi (nH ρ)=.ok its)(c:iO m g its ρ=r):mJ fi m g ρ=r:=by unfold mJ;rw[h];exact c
def oM(h:fi (vw ρ)=.ok its)(c:iO m g its ρ=r):rY fi m g ρ=r:=by unfold rY;rw[h];exact c
def gh(c:ts.length=k)(h:g (gM n ts)=.rt t):jw k n g ts=.ok t:=by unfold jw;rw[aP c,h];rfl
def rL(c:ts.length=k)(h:g (gM n ts)=.nx ρ):jw k n g ts=.ok .non:=by unfold jw;rw[aP c,h];rfl
def iU(c:ts.length=k)(h:g (gM n ts)=.er C m):jw k n g ts=.er C m:=by unfold jw;rw[aP c,h];rfl
def nJ(c:ts.length=k)(h:g (gM n ts)=.rf us):zI k n g ts=.ok us:=by unfold zI;rw[aP c,h];rfl
end
def FK n:yP 0 n=(List.range n).map λ(i:Nat)=>T.int (i:Int):=by simp[yP]
theorem pk{d:Type} f:∀(l:List d),(∀a∈l,qL (f a)=true)->qq (l.map f)=true
 |[],_=>rfl
 |a::l,h=>by rw[bE,qq,h a (by simp),pk f l λb c=>h b (by simp[c])];rfl
theorem pB{d:Type} f n:∀(l:List d),(∀a∈l,CW (f a)<=n)->rJ (l.map f)<=n
 |[],_=>bG _
 |a::l,h=>by rw[bE,xw];have g:=h a (by simp);have e:=pB f n l λb c=>h b (by simp[c]);omega
@[simp] theorem OV(a:LI):qq (a.map T.int)=true:=pk _ _ λ_ _=>rfl
def sN(a:LI):rJ (a.map T.int)<=0:=pB _ _ _ λ_ _=>aJ _
@[simp] theorem Of ns:qL (tI ns)=true:=by simp[tI,qL]
def Nk ns:CW (tI ns)<=1:=by unfold tI;rw[LD];have:=sN ns;omega
@[simp] theorem Pl(l:LL):qq (l.map tI)=true:=pk _ _ λ_ _=>Of _
def AZ(l:LL):rJ (l.map tI)<=1:=pB _ _ _ λ_ _=>Nk _
@[simp] theorem HY l:wz l []=l.isEmpty:=by cases l<;>rfl
theorem A7{d:Type} f (c:∀a b,Di (f a) (f b)=true↔a=b):∀(l m:List d),wz (l.map f) (m.map f)=true↔l=m
 |[],[]=>by simp[p7]
 |[],b::m=>⟨λz=>(nomatch (show false=true from z)),λz=>nomatch z⟩
 |a::l,[]=>by simp[p7]
 |a::l,b::m=>by rw[bE,bE,p7,bP,c a b,A7 f c l m];simp
def ya(l m:LI):wz (l.map T.int) (m.map T.int)=decide (l=m):=by
 have h:=A7 T.int (λa b=>by simp[oE]) l m;by_cases e:l=m
 .rw[aB e];exact h.mpr e
 .rw[aA e];cases c:wz (l.map T.int) (m.map T.int) with
  |false=>rfl
  |true=>exact absurd (h.mp c) e
def OH neg (l m:LI):fX neg (.tup (l.map T.int)) (.tup (m.map T.int))=.ok (.bl (if neg then !decide (l=m) else decide (l=m))):=by have h:=sN l;unfold fX;rw[aP (by simp[qL];omega),oE,ya]
def Oo neg (l m:LI):fX neg (.lst (l.map T.int)) (.lst (m.map T.int))=.ok (.bl (if neg then !decide (l=m) else decide (l=m))):=by have h:=sN l;unfold fX;rw[aP (by simp[qL];omega),zx,ya]
def uv neg ts (h:qq ts=true) (a:rJ ts<=90):fX neg (.lst ts) (.lst [])=.ok (.bl (if neg then !ts.isEmpty else ts.isEmpty)):=by unfold fX;rw[aP (by simp[qL,h,qq];omega),zx,HY]
def ym{a:Type} f (l:List a):nr (l.map f)=l.zipIdx.map λp=>T.tup [.int (p.2:Int),f p.1]:=by unfold nr;rw[List.zipIdx_map,aH];rfl
def Ih{a b:Type} f (g:b->T) (l:List a) m:yt (l.map f) (m.map g)=(l.zip m).map λp=>T.tup [f p.1,g p.2]:=by unfold yt;rw[List.zip_map,aH];rfl
theorem yO{d:Type} f:∀(l:List d),(∀a∈l,lf (f a)=true)->FF (l.map f)=true
 |[],_=>rfl
 |a::l,h=>by rw[bE,FF,h a (by simp),yO f l λb c=>h b (by simp[c])];rfl
@[simp] theorem F7(a:LI):FF (a.map T.int)=true:=yO _ _ λ_ _=>rfl
@[simp] theorem HH ns:lf (tI ns)=true:=by simp[tI]
@[simp] theorem Ls(l:LL):FF (l.map tI)=true:=yO _ _ λ_ _=>HH _
section
variable {α:Type}{fe fd fl:Pe->M T}{ρ:Pe}{ts:List T}{d k:Nat}
def Fc(l:List α)(d:Nat):oo l none (some (d:Int))=l.take d:=by
 unfold oo;rw[HT.sIx_none,HT.sIx_nat,c6,cD];by_cases h:d<=l.length
 .rw[Nat.min_eq_left h]
 .rw[Nat.min_eq_right (by omega),cx (aJ _),cx (by omega)]
def xO(l:List α)(d:Nat):oo l (some (d:Int)) none=l.drop d:=by
 unfold oo;rw[HT.sIx_none,HT.sIx_nat];by_cases h:d<=l.length
 .rw[Nat.min_eq_left h,cx (by simp)]
 .rw[Nat.min_eq_right (by omega),c7 (aJ _),c7 (by omega),List.take_nil]
def Oz n d:HT.sIx n d (some (-1))=n-1:=by unfold HT.sIx;dsimp only;rw[aP (by decide)];omega
def E7(l:List α):oo l none (some (-1))=l.dropLast:=by unfold oo;rw[HT.sIx_none,Oz,c6,cD,List.dropLast_eq_take]
def wC(h:fe ρ=.ok (.tup ts))(a:fd ρ=.ok (.int (d:Int)))(b:d<=ts.length):mF fe (λ_=>.ok none) (jR fd) ρ=.ok (.tup (ts.take d)):=by simp only[mF,jR,h,a,M.bind_ok,Fc]
def Jj(h:fe ρ=.ok (.tup ts))(a:ts≠[]):mF fe (λ_=>.ok none) (jR (uL (λi=>.int (-i)) (cM (.int 1)))) ρ=.ok (.tup ts.dropLast):=by have e:jR (uL (λi=>.int (-i)) (cM (.int 1))) ρ=.ok (some (-1)):=rfl;simp only[mF,h,e,M.bind_ok,E7]
def A6(h:fe ρ=.ok (.tup ts))(a:fd ρ=.ok (.int (d:Int)))(b:0<d)(c:ts≠[]):mF fe (jR fd) (λ_=>.ok none) ρ=.ok (.tup (ts.drop d)):=by simp only[mF,jR,h,a,M.bind_ok,xO]
def oQ(h:lc ρ=.ok ts)(hr:o [.lst ts]=r):lp o (fj (iB lc) fC) ρ=r:=by simp only[lp,fj,fC,iB,h,M.bind_ok];exact hr
def oX(h:f ρ=.ok t)(hr:o [t]=r):lp o (fj f fC) ρ=r:=by simp only[lp,fj,fC,h,M.bind_ok];exact hr
def iE(h:lc ρ=.ok ts):iB lc ρ=.ok (.lst ts):=by simp only[iB,h,M.bind_ok]
def A5(h:fe ρ=.ok (.tup ts)):ig fe ρ=.ok ts:=by simp only[ig,h,M.bind_ok]
def wL(h:fe ρ=.ok (.lst ts)):ig fe ρ=.ok ts:=by simp only[ig,h,M.bind_ok]
def fQ(h:fe ρ=.ok (.bl b)):gD fe ρ=.ok b:=by simp only[gD,h,M.bind_ok]
def qO(h:fc ρ=.ok b)(hr:(!b)=r):L3.lq fc ρ=.ok r:=by simp only[L3.lq,h,M.bind_ok,hr]
def fE(b:fa ρ=.ok x)(a:fb ρ=.ok y)(hr:o x y=r):fL o fa fb ρ=r:=by simp only[fL,b,a,M.bind_ok];exact hr
def qF(h:f ρ=.ok x)(hr:F [x]=.ok t):fM (fj f fC) F ρ=.ok t:=by simp only[fM,fj,fC,h,hr,M.bind_ok];rfl
def hW(h:f ρ=.ok x)(a:g ρ=.ok y)(hr:F [x,y]=.ok t):fM (fj f (fj g fC)) F ρ=.ok t:=by simp only[fM,fj,fC,h,a,hr,M.bind_ok];rfl
def kW{f g k:Pe->M T}(h:f ρ=.ok x)(a:g ρ=.ok y)(b:k ρ=.ok z)(hr:F [x,y,z]=.ok t):fM (fj f (fj g (fj k fC))) F ρ=.ok t:=by simp only[fM,fj,fC,h,a,b,hr,M.bind_ok];rfl
def Mc{f g k l:Pe->M T}(h:f ρ=.ok x)(a:g ρ=.ok y)(b:k ρ=.ok z)(c:l ρ=.ok u)(hr:F [x,y,z,u]=.ok t):fM (fj f (fj g (fj k (fj l fC)))) F ρ=.ok t:=by simp only[fM,fj,fC,h,a,b,c,hr,M.bind_ok];rfl
end
section
variable {ρ:Pe}{ts:List T}{F:List T->M (List T)}{f g k l:Pe->M T}{x y z u:T}
def Nd(h:f ρ=.ok x)(hr:F [x]=.ok ts):jo (fj f fC) F ρ=.ok ts:=by simp only[jo,fj,fC,h,hr,M.bind_ok];rfl
def GI(h:f ρ=.ok x)(a:g ρ=.ok y)(hr:F [x,y]=.ok ts):jo (fj f (fj g fC)) F ρ=.ok ts:=by simp only[jo,fj,fC,h,a,hr,M.bind_ok];rfl
def By(h:f ρ=.ok x)(a:g ρ=.ok y)(b:k ρ=.ok z)(hr:F [x,y,z]=.ok ts):jo (fj f (fj g (fj k fC))) F ρ=.ok ts:=by simp only[jo,fj,fC,h,a,b,hr,M.bind_ok];rfl
def Be(h:f ρ=.ok x)(a:g ρ=.ok y)(b:k ρ=.ok z)(c:l ρ=.ok u)(hr:F [x,y,z,u]=.ok ts):jo (fj f (fj g (fj k (fj l fC)))) F ρ=.ok ts:=by simp only[jo,fj,fC,h,a,b,c,hr,M.bind_ok];rfl
end
def pP{a b:Type}{l:List a}{m:List b}{f:a->T}{g:b->T}(h:fa ρ=.ok x)(e:seqT x=.ok (l.map f))(c:fb ρ=.ok y)(d:seqT y=.ok (m.map g)) :
  nc (fj fa (fj fb fC)) ρ=.ok ((l.zip m).map λp=>T.tup [f p.1,g p.2]):=by
 rw[<-Ih];simp only[nc,fj,fC,h,c,M.bind_ok,e,d]
end L3
namespace L3
open PySem L2 PySem.Spec PyProof.Rows
section
variable {K:W.Frag}{E:XK}{X:Cx}{a b c e o tg it:Expr}{es:List Expr}{ta tb tc te to:TE}{fa fb fc fe fo:Pe->M T}{tr:TA}{fr:Pe->M (List T)}{pos p p2 apos:Pos}
@[simp] noncomputable def rq:List T->M T
 |[.int i,.int j]=>.ok (.int (if j<i then j else i))
 |_=>.bad
def Jc xs:M.NoE (rq xs):=λC n=>by unfold rq;split<;>intro z<;>cases z
def KZ:MC K (λd H Q=>∃i j,d=[.int i,.int j]/\Q (.int (if j<i then j else i)) H) rq:=⟨Jc,λF H f d Q s r q=>by
 unfold rq at q;split at q
 .exact⟨_,_,r.two,kV.now q s (.int _)⟩
 .exact q.elim⟩
end
section
variable {K:W.Frag}{E:XK}{X:Cx}{F0:Fz}{H0 F H:Hp}{σ:L2.St}{ρ:En}
def Sr.freeze(r:Sr K F0 H0 F H σ ρ)(e:ρ[j]? = some (some (.o ts))):∃Y,f6 F Y/\Sr K F0 H0 Y H σ (ρ.set j (some (.p (.lst ts)))):=by
 obtain⟨n,S,U⟩:=r.ov;obtain⟨a,b,c,Q,d,z⟩:=S j ts e;have s:f6 F (ja F (n j) (.lst Q)):=jH b;refine⟨ja F (n j) (.lst Q),s,⟨r.gr.ff.trans s,λp u q=>?_,r.gr.hh,λp l=>?_⟩,by simp[r.len],λi t q=>?_,⟨n,λi A q=>?_,λi k A J q Z N=>?_⟩,λR he=>?_,λi l' m C q=>?_,(r.dv.heap s λp xs l fp=>⟨by rw[fT (λz=>by rw[z,d]at l;cases l)];exact fp,l⟩).setR λ_ z=>nomatch z⟩
 .by_cases l:p=n j
  .subst l;rw[fR]at q;cases q;exact d
  .rw[fT l]at q;exact r.gr.fh p u q
 .by_cases P:p=n j
  .subst P;exact .inr (.inl c)
  .rw[fT P]at l;exact r.gr.nw p l
 .rcases fU q with⟨rfl,g⟩|⟨B,g⟩
  .cases g;exact⟨_,a,.lst fR (z.mono s)⟩
  .obtain⟨v,x,y⟩:=r.pv i t g;exact⟨v,x,y.mono s⟩
 .rcases fU q with⟨rfl,g⟩|⟨B,g⟩
  .cases g
  .obtain⟨a',b',c',m,d',z'⟩:=S i A g;exact⟨a',by rw[fT (U i j A ts g e B)];exact b',c',m,d',z'.mono s⟩
 .rcases fU q with⟨rfl,g⟩|⟨B,g⟩
  .cases g
  .rcases fU Z with⟨rfl,D⟩|⟨hk,D⟩
   .cases D
   .exact U i k A J g D N
 .have L:=r.lv R he;have I:R.2.1≠n j:=λw=>L.d j ts e (by rw[w];exact a);refine⟨L.h,by rw[fT I];exact L.f,L.z,λi A q=>?_⟩;rcases fU q with⟨rfl,g⟩|⟨B,g⟩
  .cases g
  .exact L.d i A g
 .rcases fU q with⟨rfl,g⟩|⟨B,g⟩
  .cases g
  .exact r.sl i l' m C g
@[simp] noncomputable def Pb(j:Nat)(g:En->O):En->O:=λρ=>match ρ[j]? with
 |some (some (.o ts))=>g (ρ.set j (some (.p (.lst ts))))
 |_=>.bad
def Pr j (h:MS K E t g):MS K E t (Pb j g):=λF0 H0 F H σ ρ D r q=>by
 unfold Pb at q;split at q
 .rename_i c e;obtain⟨a,s,b⟩:=r.freeze e;exact h F0 H0 a H σ _ D b (q.go s)
 .exact q.elim
def NH j (h:sC K E X s t g):sC K E X s t (Pb j g):=⟨h.ps,Pr j h.ms⟩
def PJ(e:ρ[j]? = some (some (.o ts)))(h:g (ρ.set j (some (.p (.lst ts))))=r):Pb j g ρ=r:=by unfold Pb;rw[e];exact h
end
def Ir(K:W.Frag):Sp:=λc H Q _=>∃(a:Addr) (b:LI),c=[.ref a]/\lg K H a (b.map V.int)/\b.length<=63/\(∀z∈b,Builtin.Int.intBits z<=2 ^ 20)/\∀d,Q (.bl true) d
def Ip{K:W.Frag}(h:∀b:LI,b.length<=63->(∀z∈b,Builtin.Int.intBits z<=2 ^ 20)->F [.scr b]=.ok (.bl true)) vs H Q E (z:Ir K vs H Q E):qc K F vs H Q E:=by obtain⟨a,b,rfl,f,d,c,e⟩:=z;refine⟨[.scr b],H,λ_ _ x=>x,.cons (.scr f) .nil,?_⟩;rw[h b d c];intro v j i g r;cases r;exact e _
def RO{K:W.Frag}{st:Stmt}(F:Jr K x x st f fd)(S:iP N ps (fK st))
  (d:∀(f:Addr) (b:Vq) (A:Around) (a:List Env) (s:Shared) (H:Hp) (E:XK),iF k (A.deeper (envOfC x (fK st) s.heap.objs.size f b))->∃t,nF K E (jS uD P w K mg base N x (fK st) f b A a s H E).nox (gJ st) t g) :
  mv P w K mg base uD (k+1) f fd ps (qc K (jw ps.length N.length g)):=
 F.ok S (λc H Q E h=>uX h) λb A a s H c Q E hr h=>let ⟨t,hp⟩:=d f b A a s H E hr;⟨t,hp.ps,uu hp.ms h⟩
def QO{l:W.OpenLaw}{q:Program}{k:Nat}{x:Str}{c:List Str}{o:(Str->Option Value)->Heap->Prop}{i:World->Heap->Prop}{d:DefRec}{K:Params->W.Frag}(y:l.most=some 63)(hr:iF k callerA)(g:d.params.defaults=[])
  (r:∀(w:World) (h:Heap),i w h->(K w.params).In h)
  (F:∀(w:World) (e:Str->Option Value) (j:Addr) (h:Heap),(K w.params).In h->h.Ns mainGlobals e->e d.name=some (.ref j)->
   ∃fd:FuncData,(∀(s:Shared) (u:Vq),BindsTo s fd ⟨[u],[]⟩ [(x,u)])/\∀b:Heap,(K w.params).In b->b.Ns mainGlobals e->mv l.prog w (K w.params) e b uD k j fd [x] (Ir (K w.params))) :
  W.WalkO q c o i l.row.toRowW d [] (λf vs=>PySem.call f vs):=
 L2.ED y (by decide) g hr r F (λ_ _ a v m n _ p=>⟨a,v,rfl,p,m,n,λ_=>rfl⟩) λ_ _ _ _ z=>z
end L3
namespace L3
open PySem L2 PySem.Spec PyProof.Rows
section
variable {K:W.Frag}{E:XK}{t:TE}{f:Pe->M T}
def kO(K:W.Frag)(F H:Hp)(x:Addr)(Q:VK)(t:T):Prop:=∀b c,f6 F b->f6 b c->(∀a o,a≠x->H a=some o->c a=some o)->(∀a,b a≠none->F a≠none\/H a=none\/a=x\/∃d,H a=some (.tup d))->kb K b (.ref x) t->Q .non c
noncomputable def BD(K:W.Frag)(C:Addr)(g:List T->M T):Sp:=λd H Q _=>∃x e c b a,d=.ref x::c/\H x=some (.ins C e [])/\a x=none/\f6 a H/\f9 K a c b/\(g b).noEr.res (kO K a H x Q) (λ_ _=>False)
def Gs{fr:Pe->M (List T)}(P:MA K E tr fr):ME K E (DB C (BD K C Fn) [] E' tr) (fM fr Fn):=λF H Y X Q s V q=>by
 refine P.run s V q λD J I A g U i=>?_;intro x l k m v;have w:ja A l (.own x) x=none:=by rw[fT (λz=>v z.symm)];exact k
 have j:f6 A (ja (ja A l (.own x)) x (.ins C l [])):=(lZ m).trans (lZ w);refine⟨x,l,J,D,I,by rw[bH],fR,gw g.fh k,g.fh.trans j,U,?_⟩;cases e:Fn D with
 |bad=>rw[e]at i;exact i.elim
 |er C n=>rw[e]at i;exact i.elim
 |ok t=>
  rw[e]at i;intro N S a b c d r;refine⟨rfl,i (.ref x) N S ⟨g.ff.trans a,b,λp o h=>?_,λp R=>?_⟩ r⟩
  .have u:=g.hh p o h;have B:p≠x:=λz=>by rw[z,k]at u;cases u
   exact c p o B (j p o u)
  .rcases d p R with z|z|z|⟨L,z⟩
   .exact g.nw p z
   .exact .inr (.inl (gw g.hh (gw j z)))
   .rw[z];exact .inr (.inl (gw g.hh k))
   .cases y:H p with
    |none=>exact .inr (.inl rfl)
    |some o=>exact .inr (.inr ⟨L,by rw[j p o (g.hh p o y)]at z;exact z⟩)
noncomputable def xE(C:Addr)(n:Nat)(h d:Str)(e g:Pe->M T):List T->M T:=λc=>if c.length=n then (e (none::c.map some)).bind λa=>(g (none::c.map some)).bind λb=>.ok (.obj C [(h,a),(d,b)]) else .bad
structure Rv(K:W.Frag)(E:XK)(X:Cx)(body:List Stmt)(f1 f2:Str)(g1 g2:Pe->M T):Prop where
 ex:∃(t1 t2:TE),wV X body (zd (Ou K (lS 0) t1 f1) (Ou K (lS 0) t2 f2))/\ME K E t1 g1/\ME K E t2 g2
def RJ(h:X.K=K)(d:PE X o1 (lS 0))(g:Pm K E X a1 t1 g1)(b:PE X o2 (lS 0))(e:Pm K E X a2 t2 g2)
  (c:swapsWith a1 (some (.Attribute o1 f1 p1)) q1.line X.env=pure false:=by rfl) (a:swapsWith a2 (some (.Attribute o2 f2 p2)) q2.line X.env=pure false:=by rfl) :
  Rv K E X [.Assign [.Attribute o1 f1 p1] a1 q1,.Assign [.Attribute o2 f2 p2] a2 q2] f1 f2 g1 g2:=by
 subst h;exact⟨t1,t2,pT (Gn d g.pe c) (zf (Gn b e.pe a)),g.me,e.me⟩
theorem Ow{st:Stmt}(cl:xh K C)(n1:lF K C f1)(n2:lF K C f2)(ne:f1≠f2)(D:jK K C "__init__" qual st)(S:iP N N (fK st))
  (mk:W.makesIn K C=true) (kp:W.keepIn K (.ref C)=true) (hm:mg x=some (.ref C)) (hN:N.length=n+1)
  (hb:∀(kV doc pm:Vq) (an:Option Addr) (j ct:Vq) (us:List Vq),us.length=N.length->bindArgs (W.fnOf "__init__" qual (jg st) (gJ st) (fK st) .none kV doc pm an j ct) ⟨us,[]⟩=pure (N.zip us))
  (hT:∀(f:Addr) (j:Vq) (A:Around) (g:List Env) (s:Shared) (H:Hp) (E:XK),iF k (A.deeper (envOfC qual (fK st) s.heap.objs.size f j))->Rv K E (jS uD P w K mg base N qual (fK st) f j A g s H E).nox (gJ st) f1 f2 g1 g2) :
  Eb P w K mg base x C (k+1) (BD K C (xE C n f1 f2 g1 g2)):=by
 obtain⟨fi,fd,F,Mm⟩:=D.ex;refine⟨⟨fi,fd,N,F.ok S (λvs H Q E h=>?_) (λj A g s H vs Q E hr h=>?_),⟨mk,Mm.at_,Mm.fn,kp⟩,F.binds hb⟩,hm⟩
 .obtain⟨x,B,us,u,F0,rfl,U,fx,s,r,q⟩:=h;unfold xE at q;by_cases J:u.length=n
  .rw[ay,r.length,J,hN]
  .rw[aQ J]at q;exact q.elim
 .obtain⟨x,B,us,u,F0,rfl,U,fx,s0,r,q⟩:=h;obtain⟨t1,t2,ps,m1,m2⟩:=(hT fi j A g s H E hr).ex;refine⟨_,ps,?_⟩;unfold xE at q;by_cases J:u.length=n
  .rw[aP J]at q;have V:lR K F0 (lB N (.ref x::us)) (none::u.map some):=λi t e=>by
    cases i with
    |zero=>cases e
    |succ i=>
     rw[List.getElem?_cons_succ,av]at e;cases hq:u[i]? with
     |none=>rw[hq]at e;cases e
     |some y=>rw[hq]at e;cases e;obtain⟨v,a,b⟩:=r.get hq;refine⟨v,?_,b⟩;unfold L2.lB;rw[List.getElem?_append_left (by rw[aw,ay];exact Nat.succ_lt_succ (aa.mp a).1),av,List.getElem?_cons_succ,a];rfl
   cases Z:g1 (none::u.map some) with
   |bad=>rw[Z]at q;exact q.elim
   |er C n=>rw[Z]at q;exact q.elim
   |ok a=>
    rw[Z,L3.M.bind_ok]at q;cases Y:g2 (none::u.map some) with
    |bad=>rw[Y]at q;exact q.elim
    |er C n=>rw[Y]at q;exact q.elim
    |ok b=>
     rw[Y,L3.M.bind_ok]at q;refine m1 F0 H _ _ _ s0 V ?_;rw[Z];intro v R H1 c r1;have hx1:=c.hh _ _ U;have I:R x=none:=by
      cases z:R x with
      |none=>rfl
      |some o=>
       rcases c.nw x (by rw[z];exact λy=>nomatch y) with y|y|⟨_,y⟩
       .exact absurd fx y
       .rw[U]at y;cases y
       .rw[U]at y;cases y
     refine⟨.ref x,rfl,x,C,B,[],rfl,hx1,cl,n1,by decide,?_⟩;have s1:f6 R (ja H1 x (.ins C B (oW f1 v []))):=λp o h=>by
      have l:p≠x:=λz=>by rw[z,I]at h;cases h
      rw[fT l];exact c.fh p o h
     refine m2 R _ _ _ _ s1 (V.mono c.ff) ?_;rw[Y];intro X L H3 d r2;have hx3:=d.hh x _ fR;have fx2:L x=none:=by
      cases z:L x with
      |none=>rfl
      |some o=>
       rcases d.nw x (by rw[z];exact λy=>nomatch y) with y|y|⟨_,y⟩
       .exact absurd I y
       .rw[fR]at y;cases y
       .rw[fR]at y;cases y
     refine⟨.ref x,rfl,x,C,B,_,rfl,hx3,cl,n2,by show 1<1000;decide,?_⟩;have ep:oW f2 X (oW f1 v [])=[(f1,v),(f2,X)]:=by show (if f1=f2 then _ else _)=_;rw[aQ ne];rfl
     have sF:f6 L (ja L x (.ins C B [(f1,v),(f2,X)])):=lZ fx2;refine q (ja L x (.ins C B [(f1,v),(f2,X)])) _ ((c.ff.trans d.ff).trans sF) (λp o h=>?_) (λp o l h=>?_) (λp l=>?_) (.obj fR (.cons (r1.mono (d.ff.trans sF)) (.cons (r2.mono sF) .nil)))
     .by_cases l:p=x
      .subst l;rw[fR]at h;rw[fR,ep];exact h
      .rw[fT l]at h ⊢;exact d.fh p o h
     .rw[fT l];exact d.hh p o (by rw[fT l];exact c.hh p o h)
     .by_cases m:p=x
      .exact .inr (.inr (.inl m))
      .rw[fT m]at l;rcases d.nw p l with z|z|⟨xs,z⟩
       .rcases c.nw p z with y|y|y
        .exact .inl y
        .exact .inr (.inl y)
        .exact .inr (.inr (.inr y))
       .rw[fT m]at z;exact .inr (.inl (gw c.hh z))
       .rw[fT m]at z;cases y:H p with
        |none=>exact .inr (.inl rfl)
        |some o=>exact .inr (.inr (.inr ⟨xs,by rw[c.hh p o y]at z;exact z⟩))
  .rw[aQ J]at q;exact q.elim
end
section
variable {X:Cx}{K:W.Frag}{E:XK}{x m:Str}{C:Addr}{k:Nat}{Fn:List T->M T}{Ff:List T->M (List T)}{e o:Expr}{es:List Expr}{tr:TA}{fr:Pe->M (List T)}{ta:TE}{fa:Pe->M T}{p pos apos:Pos}
def Ql(h:Eb X.prog X.w X.K X.mg X.base x C j (BD K C Fn))(hr:iF k X.A)(c:zS K E X (e::es) tr fr)(f:j+1<=k:=by decide)(g:Gl X x:=by rfl)
  (b:(x==("__debug__" : Str))=false:=by decide) (d:starEach (e::es) X.env=(false,eval e X.env)::starEach es X.env:=by rfl) (a:(backTo pos (starEach es X.env)).any (·.1)=false:=by rfl) :
  Pm K E X (.Call (.Name x p) (e::es) [] pos) (DB C (BD K C Fn) [] E0 tr) (fM fr Fn):=⟨QA h (hr.mono f) c.pa g b d a,Gs c.ma⟩
def Qa(h:ji X.prog X.w X.K X.mg X.base C m j (qc K Fn))(hr:iF k X.A)(c:Pm K E X o ta fa)(d:zS K E X (e::es) tr fr)(i:j<=k:=by decide)
  (b:starEach (e::es) X.env=(false,eval e X.env)::starEach es X.env:=by rfl) (a:(backTo pos (starEach es X.env)).any (·.1)=false:=by rfl)
  (g:eval (.Call (.Attribute o m apos) (e::es) [] pos) X.env=(do
   let ov <-eval o X.env
   standAt apos.atName
   let (f,first) <-holding [ov] (getMethod ov m pl)
   callWith pos f first (backTo pos (starEach (e::es) X.env)) (backToKw pos (keywordEach [] X.env))):=by rfl) :
  Pm K E X (.Call (.Attribute o m apos) (e::es) [] pos) (r0 C m (qc K Fn) [] E0 ta tr) (mC C m fa fr Fn):=⟨PX h (hr.mono i) c.pe d.pa b a g,AR c.me d.ma⟩
def wH(h:ji X.prog X.w X.K X.mg X.base C m j (qc K Fn))(hr:iF k X.A)(a:Pm K E X o ta fa)(c:j<=k:=by decide)
  (b:eval (.Call (.Attribute o m apos) [] [] pos) X.env=(do
   let ov <-eval o X.env
   standAt apos.atName
   let (f,first) <-holding [ov] (getMethod ov m pl)
   callWith pos f first (backTo pos (starEach [] X.env)) (backToKw pos (keywordEach [] X.env))):=by rfl) :
  Pm K E X (.Call (.Attribute o m apos) [] [] pos) (r0 C m (qc K Fn) [] E0 ta qr) (mC C m fa fC Fn):=⟨FL h (hr.mono c) a.pe b,AR a.me CD⟩
def Hr(h:ji X.prog X.w X.K X.mg X.base C m j (Ba K Ff))(hr:iF k X.A)(a:Pm K E X o ta fa)(c:j<=k:=by decide)
  (b:eval (.Call (.Attribute o m apos) [] [] pos) X.env=(do
   let ov <-eval o X.env
   standAt apos.atName
   let (f,first) <-holding [ov] (getMethod ov m pl)
   callWith pos f first (backTo pos (starEach [] X.env)) (backToKw pos (keywordEach [] X.env))):=by rfl) :
  Fw K E X (.Call (.Attribute o m apos) [] [] pos) (r0 C m (Ba K Ff) [] E0 ta qr) (qR C m fa fC Ff):=⟨FL h (hr.mono c) a.pe b,Ii a.me CD⟩
def vH(b:X.K=K)(d:xh K C)(c:lF K C f)(h:Pm K E X e ta fa)(a:attributeBase e f X.env (eval e X.env)=eval e X.env:=by rfl):Pm K E X (.Attribute e f pos) (NM X.K ta f) (xv C f fa):=by subst b;exact⟨MK h.pe a,M6 d c h.me⟩
@[simp] noncomputable def Ik(f:Pe->M T)(m:T->En->Option En):En->O:=λa=>O.of (g9 f a) λt=>match m t a with
 |some ρ'=>.nx ρ'
 |none=>.bad
def NY{m:T->En->Option En}(h:ME K E t f)(n:JI K g m):MS K E (mG t g) (Ik f m):=λu i F H l b D r q=>
 h.inH r q λx v d c z j w a=>by
  cases e:m x b with
  |none=>rw[e]at a;exact a.elim
  |some ρ'=>rw[e]at a;exact n u i d c l b v x ρ' _ w j e λs y=>a d c _ (.refl _) y
def KN{m:T->En->Option En}(a:Pm K E X e t f)(b:OY K X tg g m)(c:swapsWithSole [tg] e pos.line X.env=pure false:=by rfl)(hw:swappedStores [tg] e X.env=pure none:=by rfl)
  (d:(assignEach [tg] X.env).map (·.2)=[assign tg X.env]:=by rfl):sC K E X (.Assign [tg] e pos) (mG t g) (Ik f m):=⟨IJ a.pe b.pg c hw d,NY a.me b.mg⟩
def Nm{m:T->En->Option En}(h:f (nH ρ)=.ok t)(a:m t ρ=some ρ'):Ik f m ρ=.nx ρ':=by unfold Ik g9;rw[h];simp[a]
end
section
variable {P:Program}{w:World}{K:W.Frag}{mg:Str->Option Value}{base:Heap}{C:Addr}{m qual:Str}{st:Stmt}{N ps:List Str}{k:Nat}{g:En->O}
def Pz(l:xh K C)(D:jK K C m qual st)(S:iP N ps (fK st))
  (i:∀(kV c o:Vq) (e:Option Addr) (b n:Vq) (us:List Vq),us.length=ps.length->bindArgs (W.fnOf m qual (jg st) (gJ st) (fK st) .none kV c o e b n) ⟨us,[]⟩=pure (ps.zip us))
  (j:∀(f:Addr) (b:Vq) (A:Around) (a:List Env) (s:Shared) (H:Hp) (E:XK),iF k (A.deeper (envOfC qual (fK st) s.heap.objs.size f b))->∃t,nF K E (jS uD P w K mg base N qual (fK st) f b A a s H E).nox (gJ st) t g) :
  ji P w K mg base C m (k+1) (qc K (jw ps.length N.length g)):=
 Dj l D S i (λd H Q E h=>uX h) λf b A a s H d Q E hr h=>let ⟨t,hp⟩:=j f b A a s H E hr;⟨t,hp.ps,uu hp.ms h⟩
def PD(l:xh K C)(D:jK K C m qual st)(S:iP N ps (fK st))
  (i:∀(kV c o:Vq) (e:Option Addr) (b n:Vq) (us:List Vq),us.length=ps.length->bindArgs (W.fnOf m qual (jg st) (gJ st) (fK st) .none kV c o e b n) ⟨us,[]⟩=pure (ps.zip us))
  (j:∀(f:Addr) (b:Vq) (A:Around) (a:List Env) (s:Shared) (H:Hp) (E:XK),iF k (A.deeper (envOfC qual (fK st) s.heap.objs.size f b))->∃t,nF K E (jS uD P w K mg base N qual (fK st) f b A a s H E).nox (gJ st) t g) :
  ji P w K mg base C m (k+1) (Ba K (zI ps.length N.length g)):=
 Dj l D S i (λd H Q E h=>C1 h) λf b A a s H d Q E hr h=>let ⟨t,hp⟩:=j f b A a s H E hr;⟨t,hp.ps,A0 hp.ms h⟩
end
end L3
namespace L3
open PySem L2 PySem.Spec PyProof.Rows
section
variable {K:W.Frag}{E:XK}{X:Cx}{a tg:Expr}{tr:TA}{fr:Pe->M (List T)}{p p2 pos pos2:Pos}{F:Hp}
def NJ(d:lg K F l xs)(r:f9 K F xs ts):xa K (Rr K l xs.length) ts.reverse F where
 go:=λi H s c=>by rw[c9,<-r.length]at c;exact⟨c,xs,_,s.seq d,rfl,ag (by omega)⟩
 stop:=λH s=>⟨by rw[c9,r.length],xs,s.seq d⟩
 yld:=λi t m H x o g f e y=>by
  obtain⟨rfl,k⟩:=y;have j:=k xs ((g.trans f).seq d);obtain⟨n,b,h⟩:=r.at_ j;have c:i<ts.length:=by simpa using (aa.mp e).1
  rw[List.getElem?_reverse c,<-r.length]at e;rw[e]at b;cases b;exact⟨m,.refl f,h.mono g⟩
@[simp] noncomputable def DW(d:Pe->M (List T)):Pe->M (List T):=λc=>(d c).bind λb=>match b with
 |[.lst ts]=>.ok ts.reverse
 |_=>.bad
def MH(g:MA K E tr fr):MI K E (Mx K tr) (DW fr):=λF H k j R s V q=>by
 refine g.run s V q λm n d f c i b=>?_;cases i with
 |nil=>exact b.elim
 |cons h t=>
  cases t with
  |cons _ _=>cases h<;>exact b.elim
  |nil=>
   cases h with
   |lst h r=>rename_i l e o;refine⟨l,e,rfl,lg.of (c.fh _ _ h),b _ d f c (NJ (lg.of h) r)⟩
   |_=>exact b.elim
def DH(c:X.mg "reversed" = none)(b:zS K E X [a] tr fr)(d:X.K=K:=by rfl)(f:Gl X "reversed" :=by rfl)(e:starEach [a] X.env=[(false,eval a X.env)]:=by rfl):Jx K E X tg (.Call (.Name "reversed" p) [a] [] pos) (Mx K tr) (DW fr):=by subst d;exact⟨J3 f c b.pa e,MH b.ma⟩
@[simp] noncomputable def P6(e:Pe->M (List T)):Pe->M (List T):=λc=>(e c).bind λb=>match b with
 |[x]=>(seqT x).bind λd=>.ok (nr d)
 |_=>.bad
theorem wA:∀{vs} {ts},vs.length=ts.length->(∀(i:Nat) t,ts[i]? = some t->∃v,vs[i]? = some v/\kb K F v t)->f9 K F vs ts
 |[],[],_,_=>.nil
 |v::vs,t::ts,hl,h=>by obtain⟨c,e,r⟩:=h 0 t rfl;simp at e;subst e;exact .cons r (wA (by simpa using hl) λi t b=>by simpa using h (i+1) t (by simpa using b))
def Pf(ha:MA K E tr fr):MF K E (RC K tr) (P6 fr):=λF H σ ρ Q s Y q=>by
 classical
 refine ha.run s Y q λxs ws B y k r1 A=>?_;have v:∀(b:Bool) (l:Addr) (I:List V) (J:List T),uc K y b l I->f9 K B I J->kF K F H Q (nr J)->∃b' P z,[V.ref l]=[.ref P]/\uc K y b' P z/\∀(p:Addr) (as:List Addr) (g:Hp),f6 y g->y p=none->g p=some (.lst (as.map V.ref))->as.length=z.length->
   (∀(i:Nat) (a:Addr),as[i]? = some a->y a=none/\a≠p/\∃x,z[i]? = some x/\g a=some (.tup [.int i,x]))->Q (.ref p) g:=λb l I J hq r qk=>by
  refine⟨b,l,I,rfl,hq,λp as g sm S hl D L=>?_⟩;let C:Hp:=λc=>if c∈as then g c else B c
  have j:∀c,c∈as->C c=g c:=λc d=>aP d;have f:∀c,c∉as->C c=B c:=λc d=>aQ d;have new:∀c,c∈as->y c=none:=λc d=>by obtain⟨i,m⟩:=dc.mp d;exact (L i c m).1
  have N:f6 B C:=λc o e=>by rw[f c (λd=>by have:=new c d;rw[k.fh c o e]at this;cases this)];exact e
  have pn:p∉as:=λd=>by obtain⟨i,m⟩:=dc.mp d;exact (L i p m).2.1 rfl
  have gr:Gr B y C g:=⟨N,λc o e=>by
   by_cases d:c∈as
   .rw[j c d]at e;exact e
   .rw[f c d]at e;exact sm c o (k.fh c o e),sm,λc d=>by
   by_cases R:c∈as
   .exact .inr (.inl (new c R))
   .rw[f c R]at d;exact .inl d⟩
  refine qk p (as.map V.ref) C g (k.trans gr) (gw k.hh S) (by rw[f p pn];exact gw k.fh S) hl (wA (by simp[nr,D,r.length]) λi t w=>?_);unfold nr at w;rw[av,List.getElem?_zipIdx]at w;cases m:J[i]? with
  |none=>rw[m]at w;cases w
  |some u=>
   rw[m]at w;simp at w;have n:i<as.length:=by rw[D,r.length];exact (aa.mp m).1
   obtain⟨h1,h2,x,e1,e2⟩:=L i _ (ag n);obtain⟨x',U,Z⟩:=r.get m;rw[e1]at U;cases U;refine⟨.ref as[i],by rw[av,ag n];rfl,?_⟩;rw[<-w];exact .tup (by rw[j _ (aU n)];exact e2) (.cons (.int _) (.cons (Z.mono N) .nil))
 cases r1 with
 |nil=>exact A.elim
 |cons h t=>
  cases t with
  |cons _ _=>cases h<;>exact A.elim
  |nil=>
   cases h with
   |lst h r=>exact v false _ _ _ (lg.of (k.fh _ _ h)) r A
   |tup h r=>exact v true _ _ _ (mx.of (k.fh _ _ h)) r A
   |scr h=>exact v false _ _ _ (k.fh.seq h) (f9.of_ints _) A
   |_=>exact A.elim
def Qc(f:X.calm=true)(e:X.mg "list" = none)(b:X.mg "enumerate" = none)(d:zS K E X [a] tr fr)(g:X.K=K:=by rfl)(j:Gl X "list" :=by rfl)(c:Gl X "enumerate" :=by rfl)(h:starEach [a] X.env=[(false,eval a X.env)]:=by rfl)
  (i:starEach [Expr.Call (.Name "enumerate" p2) [a] [] pos2] X.env=[(false,eval (.Call (.Name "enumerate" p2) [a] [] pos2) X.env)]:=by rfl) :
  Fw K E X (.Call (.Name "list" p) [.Call (.Name "enumerate" p2) [a] [] pos2] [] pos) (RC K tr) (P6 fr):=by
 subst g;exact⟨IV f j e c b d.pa h i,Pf d.ma⟩
end
section
variable {K:W.Frag}{E:XK}{X:Cx}{F0:Fz}{H0 F H:Hp}{σ:L2.St}{ρ:En}{x:Str}{e:Expr}{pos pos' p pd:Pos}
noncomputable def ug(a:List (LI×T))(k:LI)(v:T):List (LI×T):=if (a.any λb=>decide (b.1=k))=true then a.map (λb=>if b.1=k then (b.1,v) else b) else a++[(k,v)]
theorem zJ:∀{a b:LI},a.map (Sum.inl:Int->qH)=b.map Sum.inl->a=b
 |[],[],_=>rfl
 |[],_::_,h=>nomatch h
 |_::_,[],h=>nomatch h
 |x::a,y::b,h=>by simp only[bE,List.cons.injEq]at h;rw[Sum.inl.inj h.1,zJ h.2]
def DR.put(h:DR K F xs kvs) k (r:kb K F v t):DR K F (sX xs (k.map Sum.inl) v) (ug kvs k t):=by
 have b:(xs.any λa=>decide (a.1=k.map Sum.inl))=kvs.any λa=>decide (a.1=k):=by
  induction h with
  |nil=>rfl
  |cons q _ ih=>
   rename_i x y _ _ _;rw[bS,bS,ih];congr 1;by_cases z:y.1=k
   .rw[aB z,aB (by rw[q.1,z])]
   .rw[aA z,aA (λw=>z (zJ (by rw[<-q.1,w])))]
 unfold sX ug;rw[b];generalize (kvs.any λa=>decide (a.1=k))=bb;split
 .clear b;unfold DR at h ⊢;induction h with
  |nil=>exact .nil
  |cons q _ ih=>
   rename_i x y _ _ _;refine .cons ?_ ih;dsimp only;by_cases z:y.1=k
   .rw[aP (by rw[q.1,z]),aP z];exact⟨q.1,r⟩
   .rw[aQ (λw=>z (zJ (by rw[<-q.1,w]))),aQ z];exact q
 .clear b;unfold DR at h ⊢;induction h with
  |nil=>exact .cons ⟨rfl,r⟩ .nil
  |cons q _ ih=>exact .cons q ih
@[simp] noncomputable def HF(i:Nat):En->O:=λρ=>.nx (ρ.set i (some (.d [])))
def Sr.setD{p:Addr}(r:Sr K F0 H0 F H σ ρ)(D:H p=none):Sr K F0 H0 F (ja H p (.dT [])) (σ.set i (some (.ref p))) (ρ.set i (some (.d []))):=by
 have hf:=gw r.gr.fh D;have B:=r.grow (Gr.new' (o:=.dT []) r.gr.fh D);obtain⟨R,U,h2⟩:=B.ov;refine⟨B.gr,by simp[r.len],λj t e=>?_,⟨R,λj N e=>?_,λj k N ws e A s=>?_⟩,λe he=>?_,λj Y J I q=>?_,⟨λj c e=>?_,λj k c u e A s=>?_⟩⟩
 .rcases fU e with⟨rfl,q⟩|⟨g,q⟩
  .cases q
  .obtain⟨w,a,b⟩:=B.pv j t q;exact⟨w,by rw[aq (λz=>g z.symm)];exact a,b⟩
 .rcases fU e with⟨rfl,q⟩|⟨g,q⟩
  .cases q
  .obtain⟨a,b⟩:=U j N q;exact⟨by rw[aq (λz=>g z.symm)];exact a,b⟩
 .rcases fU e with⟨rfl,q⟩|⟨g,q⟩
  .cases q
  .rcases fU A with⟨rfl,l⟩|⟨C,l⟩
   .cases l
   .exact h2 j k N ws q l s
 .have L:=B.lv e he;refine⟨L.h,L.f,L.z,λj Z q=>?_⟩;rcases fU q with⟨rfl,v⟩|⟨g,v⟩
  .cases v
  .rw[aq (λz=>g z.symm)];exact L.d j Z v
 .rcases fU q with⟨rfl,v⟩|⟨g,v⟩
  .cases v
  .rw[aq (λz=>g z.symm)];exact r.sl j Y J I v
 .have n:j<ρ.length:=by simpa using (aa.mp e).1
  rcases fU e with⟨rfl,q⟩|⟨g,q⟩
  .cases q;exact⟨p,qd (by rw[r.len];exact n),hf,gw r.gr.hh D,[],fR,.nil⟩
  .obtain⟨a,P,S⟩:=B.dv.at_ j c q;exact⟨a,by rw[aq (λz=>g z.symm)];exact P,S⟩
 .have y:∀(m:Nat) c,ρ[m]? = some (some (.d c))->σ[m]?≠some (some (.ref p)):=λm c q w=>by
   obtain⟨a,P,_,_,xs,Q,_⟩:=r.dv.at_ m c q;rw[P]at w;have:a=p:=by simpa using w
   rw[this,D]at Q;cases Q
  have n:∀{m:Nat} {z},(ρ.set i (some (W.d [])))[m]? = some z->m<σ.length:=λ{m z} q=>by rw[r.len];simpa using (aa.mp q).1
  rcases fU e with⟨rfl,q⟩|⟨g,q⟩
  .rcases fU A with⟨rfl,l⟩|⟨C,l⟩
   .exact absurd rfl s
   .rw[qd (n e),aq (λz=>C z.symm)];exact λw=>y k u l w.symm
  .rcases fU A with⟨rfl,l⟩|⟨C,l⟩
   .rw[qd (n A),aq (λz=>g z.symm)];exact y j c q
   .rw[aq (λz=>g z.symm),aq (λz=>C z.symm)];exact r.dv.dj j k c u q l s
def La:MS K E (mG BF (jj i)) (HF i):=λF0 H0 F H σ ρ D r q p a=>q F _ _ (.refl _) (r.setD a)
def Hz i (f:X.N.Nodup) (c:Bh X.env.scope x:=by first|exact Or.inl rfl|exact Or.inr rfl) (d:X.N[i]? = some x:=by rfl) (a:swapsWith (.Dict [] [] pd) (some (.Name x pos')) pos.line X.env=pure false:=by rfl) (b:X.fn x=true\/X.env.scope.names.lookup x=some .local:=by first|exact .inl rfl|exact .inr rfl|assumption) :
  sC K E X (.Assign [.Name x pos'] (.Dict [] [] pd) pos) (mG BF (jj i)) (HF i):=⟨sU f d c Hq a b,La⟩
@[simp] noncomputable def tE(ρ:En)(i:Nat):M (List (LI×T)):=match ρ[i]? with
 |some (some (.d kvs))=>.ok kvs
 |_=>.bad
def DX(h:tE ρ i=.ok kvs):ρ[i]? = some (some (.d kvs)):=by
 unfold tE at h;split at h
 .rename_i a e;cases h;exact e
 .cases h
noncomputable def Px(ρ:En)(i:Nat)(a:List (LI×T))(t:T):T->O
 |.tup ks=>match j4 ks with
  |some ns=>if a.length<sizeLine then .nx (ρ.set i (some (.d (ug a ns t)))) else .bad
  |none=>.bad
 |_=>.bad
@[simp] noncomputable def vx(i:Nat)(b f:En->M T):En->O:=λρ=>.of (tE ρ i) λa=>.of (f ρ) λt=>.of (b ρ) λk=>Px ρ i a t k
def Sr.changeD(r:Sr K F0 H0 F H σ ρ)(e:ρ[i]? = some (some (.d kvs)))(I:σ[i]? = some (some (.ref a)))(P:F a=none)(N:H0 a=none)(R:H a=some (.dT xs))(Y:DR K F ys kvs'):Sr K F0 H0 F (ja H a (.dT ys)) σ (ρ.set i (some (.d kvs'))):=by
 obtain⟨U,h1,h2⟩:=r.ov;refine⟨⟨r.gr.ff,λp u q=>?_,λp u q=>?_,r.gr.nw⟩,by simp[r.len],λj t q=>?_,⟨U,λj v q=>?_,λj k v D q y g=>?_⟩,λJ he=>?_,λj l' m B q=>?_,⟨λj o q=>?_,λj k o s q y g=>?_⟩⟩
 .rw[fT (gA q P)];exact r.gr.fh p u q
 .rw[fT (gA q N)];exact r.gr.hh p u q
 .rcases fU q with⟨rfl,c⟩|⟨n,c⟩
  .cases c
  .exact r.pv j t c
 .rcases fU q with⟨rfl,c⟩|⟨n,c⟩
  .cases c
  .obtain⟨a',b',c',m,A,z'⟩:=h1 j v c;exact⟨a',b',c',m,by rw[fT (λz=>by rw[z,R]at A;cases A)];exact A,z'⟩
 .rcases fU q with⟨rfl,c⟩|⟨n,c⟩
  .cases c
  .rcases fU y with⟨rfl,l⟩|⟨Q,l⟩
   .cases l
   .exact h2 j k v D c l g
 .have L:=r.lv J he;have C:J.2.1≠a:=λw=>by have:=L.h;rw[w,R]at this;cases this
  refine⟨by rw[fT C];exact L.h,L.f,L.z,λj v q=>?_⟩;rcases fU q with⟨rfl,c⟩|⟨n,c⟩
  .cases c
  .exact L.d j v c
 .rcases fU q with⟨rfl,c⟩|⟨n,c⟩
  .cases c
  .exact r.sl j l' m B c
 .rcases fU q with⟨rfl,c⟩|⟨n,c⟩
  .cases c;exact⟨a,I,P,N,ys,fR,Y⟩
  .obtain⟨b,S,e2,e3,Z,e4,e5⟩:=r.dv.at_ j o c;have:b≠a:=λz=>r.dv.dj j i o kvs c e n (by rw[S,I,z]);exact⟨b,S,e2,e3,Z,by rw[fT this];exact e4,e5⟩
 .rcases fU q with⟨rfl,c⟩|⟨n,c⟩
  .rcases fU y with⟨rfl,l⟩|⟨Q,l⟩
   .exact absurd rfl g
   .exact r.dv.dj j k kvs s e l g
  .rcases fU y with⟨rfl,l⟩|⟨Q,l⟩
   .exact r.dv.dj j k o kvs c e g
   .exact r.dv.dj j k o s c l g
def Kj(h:ME K E t f)(Y:ME K E tk fk):MS K E (Hg (lS i) tk t) (vx i (m9 fk) (m9 f)):=λF0 H0 F H σ ρ D r q=>by
 unfold vx at q;cases e:tE ρ i with
 |bad=>rw[e]at q;exact q.elim
 |er C n=>unfold tE at e;split at e<;>cases e
 |ok kvs=>
  rw[e]at q;have o:=DX e;obtain⟨a,k,_⟩:=r.dv.at_ i kvs o;refine h.inB r q λx v F' H' g L r' N=>⟨_,k,?_⟩;refine Y.inB r' N λy w u S J l z A=>?_;obtain⟨P,j,Z,U,xs,I,dr⟩:=z.dv.at_ i kvs o;rw[k]at j;have:a=P:=by simpa using j
  subst this;cases l with
  |tup h rs=>
   rename_i b vs B;have c:(match j4 B with
    |some ns=>if kvs.length<sizeLine then O.nx (ρ.set i (some (.d (ug kvs ns x)))) else .bad
    |none=>.bad).res K E F0 H0 u D:=A
   cases s:j4 B with
   |none=>rw[s]at c;exact c.elim
   |some ns=>
    rw[s]at c;dsimp only at c;by_cases m:kvs.length<sizeLine
    .rw[aP m]at c;have et:=rd s;rw[et]at rs;have R:=rs.ints;have Q:S b=some (.tup ((ns.map Sum.inl).map L2.kV)):=by rw[aH,J.fh _ _ h,R];rfl
     refine⟨a,_,rfl,Hs.t I Q (by rw[Paired.length dr];exact m),?_⟩;exact c u _ _ (.refl _) (z.changeD o k Z U I (dr.put ns (L.mono J.ff)))
    .rw[aQ m]at c;exact c.elim
  |_=>exact A.elim
def AD i (hr:iF k X.A) (c:PE X (.Name x p) (lS i)) (b:Pm K E X i_ tk fk) (a:Pm K E X v t f) (d:swapsWith v (some (.Subscript (.Name x p) i_ pos')) pos.line X.env=pure false:=by rfl) :
  sC K E X (.Assign [.Subscript (.Name x p) i_ pos'] v pos) (Hg (lS i) tk t) (vx i (m9 fk) (m9 f)):=⟨KY (Qy hr) c b.pe a.pe d,Kj a.me b.me⟩
@[simp] noncomputable def rG(i:Nat):En->O:=λρ=>match ρ[i]? with
 |some (some (.d kvs))=>.rf (kvs.map λa=>tI a.1)
 |_=>.bad
def LH:List V->Hp->VK->Prop:=λd H Q=>∃a c,d=[.ref a]/\H a=some (.dT c)/\∀(l:Addr) (bs:List Addr),H l=none->bs.length=c.length->
  (∀(i:Nat) (b:Addr),bs[i]? = some b->∃k v,c[i]? = some (k,v)/\H b=some (.tup (k.map L2.kV)))->Q (.ref l) (ja H l (.lst (bs.map V.ref)))
def Cz:MS K E (yY (De LH (kY (lS i) qr))) (rG i):=λF0 H0 F H σ ρ D r q=>by
 classical
 unfold rG at q;split at q
 .rename_i m e;obtain⟨a,P,fa,za,U,Z,dr⟩:=r.dv.at_ i m e;refine⟨_,P,a,U,rfl,Z,λl bs u s J=>?_⟩;let A:Hp:=λc=>if c∈bs then H c else F c
  have f:∀c,c∈bs->A c=H c:=λc b=>aP b;have d:∀c,c∉bs->A c=F c:=λc b=>aQ b;have tp:∀c,c∈bs->∃w,H c=some (.tup w):=λc b=>by obtain⟨j,hj⟩:=dc.mp b;obtain⟨k,v,_,h⟩:=J j c hj;exact⟨_,h⟩
  have S:f6 F A:=λc o h=>by
   by_cases b:c∈bs
   .rw[f c b];exact r.gr.fh c o h
   .rw[d c b];exact h
  have ln:l∉bs:=λb=>by obtain⟨w,h⟩:=tp l b;rw[u]at h;cases h
  have C:f6 H (ja H l (.lst (bs.map V.ref))):=lZ u;refine q l (bs.map V.ref) A _ ⟨r.gr.ff.trans S,λc o h=>?_,r.gr.hh.trans C,λc b=>?_⟩ (gw r.gr.hh u) (by rw[d l ln];exact gw r.gr.fh u) fR (wA (by simp[s,Paired.length dr]) λj t n=>?_)
  .by_cases b:c∈bs
   .rw[f c b]at h;exact C c o h
   .rw[d c b]at h;exact C c o (r.gr.fh c o h)
  .by_cases L:c∈bs
   .obtain⟨w,h⟩:=tp c L;cases z:H0 c with
    |none=>exact .inr (.inl rfl)
    |some o=>exact .inr (.inr ⟨w,by rw[r.gr.hh c o z]at h;exact h⟩)
   .rw[d c L]at b;exact r.gr.nw c b
  .rw[av]at n;cases y:m[j]? with
   |none=>rw[y]at n;cases n
   |some kv=>
    rw[y]at n;have B:tI kv.1=t:=by simpa using n
    have g:j<bs.length:=by rw[s,Paired.length dr];exact (aa.mp y).1
    obtain⟨k,v,e1,I⟩:=J j _ (ag g);obtain⟨Y,N,R,_⟩:=sG dr e1;rw[y]at N;cases N;refine⟨.ref bs[j],by rw[av,ag g];rfl,?_⟩;rw[<-B];have Q:k=kv.1.map Sum.inl:=R;rw[Q,aH]at I;exact .tup (by rw[f _ (aU g)];exact I) (f9.of_ints _)
 .exact q.elim
def IL i (c:X.calm=true) (b:X.mg "list" = none) (d:PE X (.Name x p) (lS i)) (f:Gl X "list" :=by rfl) (a:starEach [Expr.Name x p] X.env=[(false,eval (.Name x p) X.env)]:=by rfl) :
  sC K E X (.Return (some (.Call (.Name "list" p1) [.Name x p] [] pos1)) pos) (yY (De LH (kY (lS i) qr))) (rG i):=
 ⟨zN (tw (CI c) f b kM (i9 d mU a) (by decide) (by decide) a rfl),Cz⟩
end
section
variable {K:W.Frag}{E:XK}{X:Cx}{t:TE}
@[simp] noncomputable def xG(i:Nat)(f:En->M (List T)):En->O:=λa=>.of (mq a i) λb=>.of (f a) λc=>if b.length<sizeLine then .nx (a.set i (some (.o (b++[.lst c])))) else .bad
def GU(x:∀l v H,H l=some (.lst v)->OQ K "list" (.ref l) H)(h:MF K E t f):MS K E (sv (Fe K i t)) (xG i (wY f)):=λJ z F H A m D r q=>by
 unfold xG at q;cases e:mq m i with
 |bad=>rw[e]at q;exact q.elim
 |er C n=>unfold mq at e;split at e<;>cases e
 |ok ts=>rw[e]at q;have k:=rA e;obtain⟨y,u,_⟩:=r.ov;obtain⟨a,_,_,B,d,_⟩:=u i ts k;refine⟨_,a,x _ _ _ d,?_⟩;refine h.inB r q λN l L Q P g p c s hr o=>?_;have w:=g.take s c p;obtain⟨I,j,b⟩:=vg (r.grow w) k (.lst fR (hr.mono (jH c))) (o.go (jH c));rw[a]at j;cases j;exact b
variable {e:Expr}{te:TE}{ff:Pe->M (List T)}{p apos pos pos':Pos}
def EG i (k:PE X (.Name x p) (lS i)) (g:Fw K E X e te ff) (f:starEach [e] X.env=(false,eval e X.env)::starEach [] X.env:=by rfl) (j:X.K=K:=by rfl)
  (b:attributeBase (.Name x p) "append" X.env (eval (.Name x p) X.env)=eval (.Name x p) X.env:=by rfl)
  (c:((backTo pos (starEach [e] X.env)).all (λx=>!x.1)&&(backToKw pos (keywordEach [] X.env)).all (λx=>x.1.isSome)&&decide (([e]:List Expr).length+([]:List Keyword).length+(if ([]:List Keyword).isEmpty then 0 else 1)<30))=true:=by rfl)
  (a:(apos.endLine==pos.line)=true:=by rfl) (hplain:(backTo pos (starEach [] X.env)).any (·.1)=false:=by rfl) (d:swapsWith (.Call (.Attribute (.Name x p) "append" apos) [e] [] pos) none pos'.line X.env=pure false:=by rfl) :
  sC K E X (.Expr (.Call (.Attribute (.Name x p) "append" apos) [e] [] pos) pos') (sv (Fe K i te)) (xG i (wY ff)):=by
 subst j;exact⟨uE (Iq PySem.F.plainAttrs_list PySem.F.slot_list_append PySem.F.type_list_append sQ k (i9 g.pe mU f) b c a f hplain) d,GU (λl m H h=>Ce h) g.mf⟩
end
end L3
namespace L3
open PySem L2 PySem.Spec PyProof.Rows
def Os:Nat->(List Value->Prop)->Prop
 |0,P=>P []
 |k+1,P=>∀v,Os k λus=>P (v::us)
theorem nu:∀{k} {P},Os k P->∀us:List Vq,us.length=k->P us
 |0,_,h,[],_=>h
 |k+1,_,h,v::us,e=>nu (h v) us (by simpa using e)
def Pa(X:Cx):Prop:=∀x,X.env.scope.names.lookup x=some .cell->∃c,X.env.cells.lookup x=some c
structure Zx(P:Program)(w:World)(K:W.Frag)(mg:Str->Option Value)(base:Heap):Prop where
 here:True
section
variable {P:Program}{w:World}{K:W.Frag}{mg:Str->Option Value}{base:Heap}
noncomputable abbrev CP(_:Zx P w K mg base)(x:Str)(k:Nat)(F:List T->M T):Prop:=lA P w K mg base x k (qc K F)
noncomputable abbrev CF(_:Zx P w K mg base)(x:Str)(k:Nat)(F:List T->M (List T)):Prop:=lA P w K mg base x k (Ba K F)
end
section
variable {P:Program}{w:World}{K:W.Frag}{mg:Str->Option Value}{base:Heap}{x m qual:Str}{C:Addr}{st:Stmt}{g:En->O}
noncomputable abbrev Qh(P:Program)(w:World)(K:W.Frag)(mg:Str->Option Value)(base:Heap)(k:Nat)(qual:Str)(st:Stmt)(N:List Str)(g:En->O):Prop:=∀{f:Addr} {cdv:Vq} {A:Around} {outer:List Env} {s:Shared} {H:Hp} {E:XK},N.Nodup->Pa (jS uD P w K mg base N qual (fK st) f cdv A outer s H E).nox->iF k (A.deeper (envOfC qual (fK st) s.heap.objs.size f cdv))->∃t,nF K E (jS uD P w K mg base N qual (fK st) f cdv A outer s H E).nox (gJ st) t g
abbrev Mt(x qual:Str)(st:Stmt)(ps:List Str):Prop:=∀(kV doc pm:Vq) (an:Option Addr) (cdv ct:Vq),Os ps.length λus=>bindArgs (W.fnOf x qual (jg st) (gJ st) (fK st) .none kV doc pm an cdv ct) ⟨us,[]⟩=pure (ps.zip us)
def jz(_:Zx P w K mg base) k F N ps (e:F=jw ps.length N.length g) (D:fJ K mg x st) (j:Qh P w K mg base k x st N g) (S:iP N ps (fK st):=by constructor<;>first|rfl|decide +kernel)
  (i:Mt x x st ps:=by first|exact λ_ _ _ _ _ _ _ _=>rfl|exact λ_ _ _ _ _ _ _=>rfl|exact λ_ _ _ _ _ _ _ _ _=>rfl|exact λ_ _ _ _ _ _ _ _ _ _=>rfl|exact λ_ _ _ _ _ _ _ _ _ _ _=>rfl|exact λ_ _ _ _ _ _=>rfl) :
  lA P w K mg base x (k+1) (qc K F):=e▸RB D S (λa b c d e f n l=>nu (i a b c d e f) n l) λ_ _ _ _ _ _ _ r=>j S.nd (λ_ h=>lJ h) r
def tU(_:Zx P w K mg base) k F N ps (e:F=zI ps.length N.length g) (D:fJ K mg x st) (j:Qh P w K mg base k x st N g) (S:iP N ps (fK st):=by constructor<;>first|rfl|decide +kernel)
  (i:Mt x x st ps:=by first|exact λ_ _ _ _ _ _ _ _=>rfl|exact λ_ _ _ _ _ _ _=>rfl|exact λ_ _ _ _ _ _ _ _ _=>rfl|exact λ_ _ _ _ _ _ _ _ _ _=>rfl|exact λ_ _ _ _ _ _ _ _ _ _ _=>rfl|exact λ_ _ _ _ _ _=>rfl) :
  lA P w K mg base x (k+1) (Ba K F):=e▸Rt D S (λa b c d e f n l=>nu (i a b c d e f) n l) λ_ _ _ _ _ _ _ r=>j S.nd (λ_ h=>lJ h) r
def IP(_:Zx P w K mg base) k F N ps (e:F=jw ps.length N.length g) (l:xh K C) (D:jK K C m qual st) (j:Qh P w K mg base k qual st N g) (S:iP N ps (fK st):=by constructor<;>first|rfl|decide +kernel)
  (i:Mt m qual st ps:=by first|exact λ_ _ _ _ _ _ _=>rfl|exact λ_ _ _ _ _ _ _ _=>rfl|exact λ_ _ _ _ _ _ _ _ _=>rfl) :
  ji P w K mg base C m (k+1) (qc K F):=e▸Pz l D S (λa b c d e f o n=>nu (i a b c d e f) o n) λ_ _ _ _ _ _ _ r=>j S.nd (λ_ h=>lJ h) r
def Nh(_:Zx P w K mg base) k F N ps (e:F=zI ps.length N.length g) (l:xh K C) (D:jK K C m qual st) (j:Qh P w K mg base k qual st N g) (S:iP N ps (fK st):=by constructor<;>first|rfl|decide +kernel)
  (i:Mt m qual st ps:=by first|exact λ_ _ _ _ _ _ _=>rfl|exact λ_ _ _ _ _ _ _ _=>rfl|exact λ_ _ _ _ _ _ _ _ _=>rfl) :
  ji P w K mg base C m (k+1) (Ba K F):=e▸PD l D S (λa b c d e f o n=>nu (i a b c d e f) o n) λ_ _ _ _ _ _ _ r=>j S.nd (λ_ h=>lJ h) r
def PN(_:Zx P w K mg base) k F N ps (e:F=jw ps.length N.length g) (D:Jr K x x st f fd) (a:Qh P w K mg base k x st N g) (S:iP N ps (fK st):=by constructor<;>first|rfl|decide +kernel) :
  mv P w K mg base uD (k+1) f fd ps (qc K F):=e▸RO D S λ_ _ _ _ _ _ _ r=>a S.nd (λ_ h=>lJ h) r
def Ri(_:Zx P w K mg base) k F N (e:F=xE C n f1 f2 g1 g2) (v:xh K C) (p:lF K C f1) (y:lF K C f2) (o:W.makesIn K C=true) (j:W.keepIn K (.ref C)=true) (I:mg x=some (.ref C)) (D:jK K C "__init__" qual st)
  (u:∀{f:Addr} {i:Vq} {A:Around} {h:List Env} {s:Shared} {H:Hp} {E:XK},iF k (A.deeper (envOfC qual (fK st) s.heap.objs.size f i))->Rv K E (jS uD P w K mg base N qual (fK st) f i A h s H E).nox (gJ st) f1 f2 g1 g2)
  (S:iP N N (fK st):=by constructor<;>first|rfl|decide +kernel) (q:Mt "__init__" qual st N:=by exact λ_ _ _ _ _ _ _ _ _=>rfl) (ne:f1≠f2:=by decide) (B:N.length=n+1:=by rfl) :
  Eb P w K mg base x C (k+1) (BD K C F):=e▸Ow v p y ne D S o j I B (λa b c d e f z l=>nu (q a b c d e f) z l) λ_ _ _ _ _ _ _ r=>u r
end
section
variable {K:W.Frag}{E:XK}{X:Cx}{tg elt iter:Expr}{ifs:List Expr}{scope:Scope}{wi:TI}{g:TG}{tt:TT}{te:TE}{fe:Pe->M T}{fi:Pe->M (List T)}{m:T->Pe->Option Pe}{ft:Pe->M Bool}{pos:Pos}{x:Str}
noncomputable abbrev RY(K:W.Frag)(X:Cx)(scope:Scope)(N:List Str)(tg elt:Expr)(ifs:List Expr)(g:TG)(tt:TT)(te:TE)(m:T->Pe->Option Pe)(ft:Pe->M Bool)(fe:Pe->M T):Prop:=∀{C s₃ H ex pn},N.Nodup->Pa (mH X N scope C s₃ H ex pn)->OX K (mH X N scope C s₃ H ex pn) tg g m/\Jl K Jq (mH X N scope C s₃ H ex pn) ifs tt ft/\Pm K Jq (mH X N scope C s₃ H ex pn) elt te fe
def i8 N ix (d:Pa X) (f:Jx K E X tg iter wi fi) (b:RY K X scope N tg elt ifs g tt te m ft fe) (h:yN X.N X.env.scope scope N ix=true:=by rfl) (a:oz ix g:=by first|exact wJ rfl|exact uO rfl rfl) (nd:N.Nodup:=by decide) (c:X.calm=true:=by rfl)
  (e:∀x,foldedSetIterable iter X.env x=pure x:=by intro _;rfl):Fw K E X (.ListComp elt [⟨tg,iter,ifs,0⟩] scope pos) (FR ix wi g tt te) (kP ix fi m ft fe):=
 let L:=PF d h
 Qk c f L a (λ_ _ _ _ _=>b nd (GX L)) e
def uR N ix i (p:X.N.Nodup) (f:Pa X) (n:Jx K E X tg iter wi fi) (b:RY K X scope N tg elt ifs g tt te m ft fe)
  (d:MF K E (FR ix wi g tt te) (kP ix fi m ft fe)->MS K E (mG (FR ix wi g tt te) (jj i)) gm) (o:yN X.N X.env.scope scope N ix=true:=by rfl) (a:oz ix g:=by first|exact wJ rfl|exact uO rfl rfl) (nd:N.Nodup:=by decide) (l:Bh X.env.scope x:=by first|exact Or.inl rfl|exact Or.inr rfl) (e:X.calm=true:=by rfl)
  (k:X.N[i]? = some x:=by rfl) (j:X.fn x=true\/X.env.scope.names.lookup x=some .local:=by first|exact .inl rfl|exact .inr rfl)
  (c:swapsWith (.ListComp elt [⟨tg,iter,ifs,0⟩] scope pos) (some (.Name x py)) spos.line X.env=pure true:=by rfl)
  (h:∀x,foldedSetIterable iter X.env x=pure x:=by intro _;rfl):sC K E X (.Assign [.Name x py] (.ListComp elt [⟨tg,iter,ifs,0⟩] scope pos) spos) (mG (FR ix wi g tt te) (jj i)) gm:=
 let L:=PF f o
 Np i p l e n L a (λ_ _ _ _ _=>b nd (GX L)) d k j c h
end
end L3
namespace L3
open PySem L2 PySem.Spec PyProof.Rows
abbrev PR:List Vq:=[.type "ValueError",.type "Exception",.type "BaseException",.type "object"]
section
variable {P:Program}{w:World}{K:W.Frag}{mg:Str->Option Value}{base:Heap}{x m qual:Str}{C:Addr}{st:Stmt}{N ps:List Str}{k j:Nat}{g:En->O}{sp:Sp}
noncomputable abbrev CE(_:Zx P w K mg base)(x:Str)(k:Nat)(F:List T->M T):Prop:=nh P w K mg base x k (qc K F)
noncomputable abbrev Ry(P:Program)(w:World)(K:W.Frag)(mg:Str->Option Value)(base:Heap)(k:Nat)(qual:Str)(st:Stmt)(N:List Str)(g:En->O):Prop:=∀{f:Addr} {cdv:Vq} {A:Around} {outer:List Env} {s:Shared} {H:Hp} {E:XK},N.Nodup->Pa (jS (uh P w) P w K mg base N qual (fK st) f cdv A outer s H E)->iF k (A.deeper (envOfC qual (fK st) s.heap.objs.size f cdv))->∃t,nF K E (jS (uh P w) P w K mg base N qual (fK st) f cdv A outer s H E) (gJ st) t g
def qo(_:Zx P w K mg base) k F N ps (e:F=jw ps.length N.length g) (D:fJ K mg x st) (q:Ry P w K mg base k x st N g) (S:iP N ps (fK st):=by constructor<;>first|rfl|decide +kernel)
  (p:Mt x x st ps:=by first|exact λ_ _ _ _ _ _ _ _=>rfl|exact λ_ _ _ _ _ _ _=>rfl|exact λ_ _ _ _ _ _ _ _ _=>rfl|exact λ_ _ _ _ _ _ _ _ _ _=>rfl) :
  nh P w K mg base x (k+1) (qc K F):=e▸HZ D S (λa b c d e f r n=>nu (p a b c d e f) r n) (λo H Q E h=>uX h) λf l A i s H o Q E hr h=>let ⟨t,hp⟩:=q S.nd (λ_ h=>lJ h) hr;⟨t,hp.ps,uu hp.ms h⟩
end
section
variable {P:Program}{w:World}{K:W.Frag}{mg:Str->Option Value}{base:Heap}{N:List Str}{qual:Str}{scope:Scope}{f:Addr}{cd:Vq}{A:Around}{outer:List Env}{s₀:Shared}{H₀:Hp}{E:XK}
def yo{j}(d:W.nsIn K mainGlobals x=some (some (.ref C)))(q:W.excIn K C PR "ValueError.__new__" = true)
  (c:Gl (jS (uh P w) P w K mg base N qual scope f cd A outer s₀ H₀ E) x:=by rfl) (a:(x==("__debug__" : Str))=false:=by decide)
  (b:starEach [.Constant (.str y) j p2] (envOfC qual scope s₀.heap.objs.size f cd)=[(false,eval (.Constant (.str y) j p2) (envOfC qual scope s₀.heap.objs.size f cd))]:=by rfl) :
  sC K E (jS (uh P w) P w K mg base N qual scope f cd A outer s₀ H₀ E) (.Raise (some (.Call (.Name x np) [.Constant (.str y) j p2] [] cpos)) none pos) (λ_ _ H=>E (.ref C) none H) (λ_=>.er C none):=
 ⟨Jd d q PySem.F.excBase_ValueError (by decide +kernel) PySem.F.excBase_ValueError (i9 yU mU) (λ_ _ _ h=>⟨(by show 1<=sizeLine;decide),h⟩) c a b,λk g F H i e D r q=>q F H r.gr⟩
def gF:lT (uh P w) (jS (uh P w) P w K mg base N qual scope f cd A outer s₀ H₀ E) E:=GR λ_ _ _ h=>h
end
section
variable {K:W.Frag}{E:XK}{X:Cx}{x m:Str}{C:Addr}{k j:Nat}{Fn:List T->M T}{e o:Expr}{es:List Expr}{tr:TA}{fr:Pe->M (List T)}{ta:TE}{fa:Pe->M T}{p pos apos:Pos}
def gC(h:nh X.prog X.w X.K X.mg X.base x j (qc K Fn))(hr:iF k X.A)(g:lT (uh X.prog X.w) X E)(c:zS K E X (e::es) tr fr)(f:j<=k:=by decide)(i:Gl X x:=by rfl)
  (b:(x==("__debug__" : Str))=false:=by decide) (d:starEach (e::es) X.env=(false,eval e X.env)::starEach es X.env:=by rfl) (a:(backTo pos (starEach es X.env)).any (·.1)=false:=by rfl) :
  Pm K E X (.Call (.Name x p) (e::es) [] pos) (rD (qc K Fn) [] E tr) (jb fr Fn):=⟨FY (h.mono f) hr g c.pa i b d a,Lb c.ma⟩
def nW(h:nF K E X.nox sts t g):nF K E X sts t g:=⟨h.ps.nox,h.ms⟩
def mr:nF K E X sts zg (λ_=>.bad):=⟨λ_ _ _ _ _ _ z=>z.elim,AM⟩
end
inductive Hd where
 |no|set (j:Nat) (y:Str)|ret (y:Str)
def Hd.ok(h:Hd)(D:oZ)(c:L2.St)(H:Hp):Prop:=match h with
 |.no=>False
 |.set j y=>∀a b,a.length=c.length->a[j]? = some (some (.str y))->f6 H b->D.nx a b
 |.ret y=>∀b,f6 H b->D.rt (.str y) b
section
variable {K:W.Frag}{E:XK}
noncomputable def RA(K:W.Frag)(E:XK)(t:TS)(g:En->O):Prop:=∀(b a F H:Hp) σ ρ D,Sr K ⟨b,[]⟩ a F H σ ρ->(g ρ).res K E ⟨b,[]⟩ a F D->t D σ H
@[simp] noncomputable def Ar(n:Nat)(g:En->O)(h:Addr->Hd)(a:En->O):En->O:=λb=>match g b with
 |.nx ρ'=>a ρ'
 |.er C none=>(match h C with
  |.no=>.bad
  |.ret y=>.rt (.str y)
  |.set j y=>match a ((List.replicate n none).set j (some (.p (.str y)))) with
   |.rt t=>.rt t
   |_=>.bad)
 |.er _ (some _)=>.bad
 |o=>o
def NP{d:L2.St}(g:Gr F0 H0 F H)(c:i≠j)(a:d.length=n)(s:d[j]? = some (some (.str y))):Sr K ⟨F0,[]⟩ H0 F H (d.set i none) ((List.replicate n none).set j (some (.p (.str y)))):=by
 have at_:∀(l:Nat) (u:W),((List.replicate n none).set j (some (W.p (.str y))))[l]? = some (some u)->l=j/\j<n/\u=.p (.str y):=λl u e=>by
  by_cases a:j=l
  .subst a;by_cases b:j<n
   .rw[List.getElem?_set_self (by simpa using b)]at e;cases e;exact⟨rfl,b,rfl⟩
   .rw[List.getElem?_eq_none (by simpa using b)]at e;cases e
  .rw[aq a,List.getElem?_replicate]at e;split at e<;>cases e
 refine⟨g,by simp[a],λl t e=>?_,⟨λ_=>0,λl o e=>?_,λl m o v e=>?_⟩,λ_ r=>(nomatch r),λ_ _ _ h=>(by cases h),⟨λl f e=>?_,λl m f k e=>?_⟩⟩
 .obtain⟨rfl,b,q⟩:=at_ _ _ e;cases q;exact⟨.str y,by rw[aq c,s],.str y⟩
 all_goals (obtain⟨_,_,q⟩:=at_ _ _ e;cases q)
theorem MV(R:∀B,MS K B (tb B) g)(A:MS K E u g')
  (I:∀C,h C≠.no->W.mroIn K C (.ref Dh)=some true/\∀j y,h C=.set j y->i≠j)
  (Q:∀C b H D,H b=none->(h C).ok D ((List.replicate N.length (none:Option V)).set i (some (.ref b))) H->th b C D ((List.replicate N.length (none:Option V)).set i (some (.ref b))) H) :
  RA K E (zd (Om K N Dh i tb th) u) (Ar N.length g h g'):=λo k F H J f D r q=>by
 refine R _ ⟨o,[]⟩ k F H J f _ r ?_;unfold Ar at q;cases e:g f with
 |nx ρ'=>rw[e]at q;intro d w v s S;exact A ⟨o,[]⟩ k d w v ρ' D S (O.res.go q s)
 |bad=>rw[e]at q;exact q
 |rt t=>rw[e]at q;exact q
 |rf ts=>rw[e]at q;exact q
 |rn ts us=>rw[e]at q;exact q
 |bk f=>rw[e]at q;exact q
 |ct f=>rw[e]at q;exact q
 |er C n=>
  rw[e]at q;cases n with
  |some _=>exact q.elim
  |none=>
   have ne:h C≠.no:=λz=>by dsimp only at q;rw[z]at q;exact q
   intro d w a;refine⟨C,rfl,(I C ne).1,λb Y=>Q C b w _ Y ?_⟩;dsimp only at q;cases l:h C with
   |no=>exact absurd l ne
   |ret y=>rw[l]at q;exact λm c=>q (.str y) d m ⟨a.ff,a.fh.trans c,a.hh.trans c,a.nw⟩ (.str y)
   |set j y=>
    rw[l]at q;intro L m P U c;have X:Gr o k d m:=⟨a.ff,a.fh.trans c,a.hh.trans c,a.nw⟩;refine A ⟨o,[]⟩ k d m _ _ D (NP (n:=N.length) X ((I C ne).2 j y l) (P.trans (by simp)) U) ?_;dsimp only at q;cases x:g' ((List.replicate N.length none).set j (some (.p (.str y)))) with
    |rt t=>rw[x]at q;exact q
    |_=>rw[x]at q;exact q.elim
structure J2(K:W.Frag)(E:XK)(X:Cx)(sts:List Stmt)(t:TS)(g:En->O):Prop where
 ps:wV X sts t
 ms:RA K E t g
def EM{st:Stmt}{b:List Stmt}(h:sC K E X st t g)(i:J2 K E X b u g'):J2 K E X (st::b) (zd t u) (fO g g'):=⟨pT h.ps i.ps,λf d F H j c D r q=>by
 refine h.ms ⟨f,[]⟩ d F H j c _ r ?_;unfold fO at q;cases e:g c with
 |nx ρ'=>rw[e]at q;intro m l a s k;exact i.ms f d m l a ρ' D k (O.res.go q s)
 |_=>rw[e]at q;exact q⟩
end
section
variable {P:Program}{w:World}{K:W.Frag}{mg:Str->Option Value}{base:Heap}{x:Str}{st:Stmt}{g:En->O}
def IR(f:RA K E t g)(h:qc K (jw k N.length g) vs H Q E):t {nx:=λ_ b=>Q .non b,rt:=Q} (lB N vs) H:=by
 obtain⟨a,c,s,r,q⟩:=h;unfold jw at q;by_cases d:a.length=k
 .rw[aP d]at q;refine f c H c H _ _ _ (wj s r) ?_;cases e:g (gM N.length a) with
  |bad=>rw[e]at q;exact q
  |nx ρ=>rw[e]at q;exact λj b i _ l=>q .non j b l.gr .non
  |rt t=>rw[e]at q;exact q
  |rf a=>rw[e]at q;exact kF.of q
  |rn a us=>rw[e]at q;exact kT.of q
  |bk ρ=>rw[e]at q;exact q.elim
  |ct ρ=>rw[e]at q;exact q.elim
  |er C n=>rw[e]at q;exact q
 .rw[aQ d]at q;exact q.elim
def Rq(_:Zx P w K mg base) k F N ps (e:F=jw ps.length N.length g) (D:fJ K mg x st)
  (o:∀{f:Addr} {j:Vq} {A:Around} {i:List Env} {s:Shared} {H:Hp} {E:XK},N.Nodup->Pa (jS uD P w K mg base N x (fK st) f j A i s H E).nox->iF k (A.deeper (envOfC x (fK st) s.heap.objs.size f j))->∃t,J2 K E (jS uD P w K mg base N x (fK st) f j A i s H E).nox (gJ st) t g)
  (S:iP N ps (fK st):=by constructor<;>first|rfl|decide +kernel)
  (n:Mt x x st ps:=by first|exact λ_ _ _ _ _ _ _ _=>rfl|exact λ_ _ _ _ _ _ _=>rfl|exact λ_ _ _ _ _ _ _ _ _=>rfl|exact λ_ _ _ _ _ _ _ _ _ _=>rfl) :
  lA P w K mg base x (k+1) (qc K F):=e▸yW D S (λa b c d e f p l=>nu (n a b c d e f) p l) (λm H Q E h=>uX h) λf j A i s H m Q E hr h=>let ⟨t,hp⟩:=o S.nd (λ_ h=>lJ h) hr;⟨t,hp.ps,IR hp.ms h⟩
end
section
variable {K:W.Frag}{E:XK}
def Oa:bootBuiltins "ValueError" = some (.type "ValueError"):=by decide +kernel
structure Xk(K:W.Frag)(x:Str)(C Cut:Addr):Prop where
 ns:W.nsIn K mainGlobals x=some (some (.ref C))
 ex:W.excIn K C PR "ValueError.__new__" = true
 xc:wW K C
 su:W.mroIn K C (.ref Cut)=some true
 va:W.kitOne K (.ref C) (.type "ValueError")=some true
def LV(i:W.nsIn K mainGlobals x=some (some (.ref C)))(g:W.excIn K C PR "ValueError.__new__" = true)
  (j:W.findIn K (.ref C) "__getattribute__" = some (some (.builtin "BaseException.__getattribute__"))) (c:W.findIn K (.ref C) "__getattr__" = some none) (h:W.findIn K (.ref C) "__class__" = some (some (.builtin "object.__class__")))
  (f:W.specialIn K (.builtin "object.__class__") "__get__" = some (some (.builtin "getset_descriptor.__get__"))) (e:W.takesIn K (.builtin "object.__class__")=some true) (k:W.mroIn K C (.type "object")=some true) (a:W.mroIn K C (.type "BaseException")=some true)
  (d:W.mroIn K C (.ref Cut)=some true) (b:W.mroIn K C (.type "ValueError")=some true):Xk K x C Cut:=⟨i,g,⟨j,c,h,f,e,k,a,qW a⟩,d,Oh (by decide +kernel) b⟩
def tO(n:C≠D)(t:W.typeIn K (.ref D)=some (.type "type"))(o:W.mroIn K D (.type "object")=some true)(s:W.mroIn K C (.ref D)=some false):W.kitOne K (.ref C) (.ref D)=some false:=K8 n t (qW o) s
noncomputable def Jb(A B:Addr)(j:Nat)(y a:Str):Addr->Hd:=λC=>if C=A then .set j y else if C=B then .set j a else .no
def MY(f:W.mroIn K A (.ref Cut)=some true)(d:W.mroIn K B (.ref Cut)=some true)(a:i≠j):∀C,Jb A B j y y' C≠.no->W.mroIn K C (.ref Cut)=some true/\∀l z,Jb A B j y y' C=.set l z->i≠l:=λC h=>by
 unfold Jb at h ⊢;by_cases b:C=A
 .subst b;exact⟨f,λl z e=>by rw[aP rfl]at e;cases e;exact a⟩
 .by_cases c:C=B
  .subst c;exact⟨d,λl z e=>by rw[aQ b,aP rfl]at e;cases e;exact a⟩
  .exact absurd (by rw[aQ b,aQ c]) h
def Nf{b:Addr->L2.St}{c:Addr->Addr->TS}(h:∀a H D,H a=none->(Hd.set j y).ok D (b a) H->c a A D (b a) H)(g:∀a H D,H a=none->(Hd.set j y').ok D (b a) H->c a B D (b a) H) :
  ∀C a H D,H a=none->(Jb A B j y y' C).ok D (b a) H->c a C D (b a) H:=λC a H D d q=>by
 unfold Jb at q;by_cases f:C=A
 .subst f;rw[aP rfl]at q;exact h a H D d q
 .rw[aQ f]at q;by_cases e:C=B
  .subst e;rw[aP rfl]at q;exact g a H D d q
  .rw[aQ e]at q;exact q.elim
def Ge{c a r:List Stmt} i (R:X.N.Nodup) (S:X.mg x=some (.ref Dh)) (T:Ln X.K Dh)
  (z:∀(e:XK) (d:List (Addr×Obj)) (k:Vq->Shared->Prop),lT (uh X.prog X.w) (X.tryB d k) e->nF K e (X.tryB d k) c (tb e) g)
  (U:∀(d:List (Addr×Obj)) (b:Addr) (s:Obj) (v:Addr),(b,s)∈d->s.cls=.ref v->wV (X.exc d b) (f::a) (th b v))
  (A:nF K E X r u g') (o:∀C,h C≠.no->W.mroIn K C (.ref Dh)=some true/\∀j y,h C=.set j y->i≠j)
  (L:∀C b H D,H b=none->(h C).ok D ((List.replicate X.N.length (none:Option V)).set i (some (.ref b))) H->th b C D ((List.replicate X.N.length (none:Option V)).set i (some (.ref b))) H)
  (B:X.K=K:=by rfl) (Q:X.N[i]? = some n:=by rfl) (F:X.env.kindOf n=some .local:=by rfl) (I:Gl X x:=by rfl) (l:X.stack=X.env::X.outer:=by rfl) (m:X.env.frame=some X.env.locals:=by rfl)
  (P:Bh X.env.scope n:=by exact .inl rfl) (q:X.fn n=true\/X.env.scope.names.lookup n=some .local:=by exact .inr rfl) (J:(x==("__debug__" : Str))=false:=by decide) :
  J2 K E X (.Try c [.ExceptHandler (some (.Name x np)) (some n) (f::a) hpos] [] [] pos::r) (zd (Om X.K X.N Dh i tb th) u) (Ar X.N.length g h g'):=by
 subst B;exact⟨pT (MD R Q F I S T l m (λe d k p=>(z e d k p).ps) U P q J) A.ps,MV (λe=>(z e [] (λ_ _=>True) λ_ _ _ _ _ _ _ _=>trivial).ms) A.ms o L⟩
end
def Bt(t:TT)(c:L2.St)(H:Hp)(b:Bool):Prop:=∀Q:Bool->Hp->Prop,(∀a,f6 H a->Q b a)->t c H Q
abbrev Nx(K:W.Frag)(ea C:Addr):List V->Hp->VK->Prop:=λxs H Q=>∃d b,xs=[V.ref ea,d]/\wW K C/\Ez K H C d b/\Q (V.bl b) H
section
variable {K:W.Frag}{σ:L2.St}{H:Hp}{i:Nat}{ea C D:Addr}{a b:Bool}{t u:TT}
def CQ(c:σ[i]? = some (some (.ref ea)))(x:wW K C)(k:W.kitOne K (.ref C) (.ref D)=some b):Bt (tB (De (Nx K ea C) (kY (lS i) (kY (tC (.ref D)) qr)))) σ H b:=λQ q=>⟨_,c,_,b,rfl,x,.own k,b,rfl,q H (.refl _)⟩
def NZ{T:String}(c:σ[i]? = some (some (.ref ea)))(x:wW K C)(k:W.kitOne K (.ref C) (.type T)=some b):Bt (tB (De (Nx K ea C) (kY (lS i) (kY (tC (.ty T)) qr)))) σ H b:=λQ q=>⟨_,c,_,b,rfl,x,.ty k,b,rfl,q H (.refl _)⟩
def KJ(h:Bt t σ H a):Bt (JC t) σ H (!a):=λQ q=>h _ q
def Kx(h:Bt t σ H true)(f:∀c,f6 H c->Bt u σ c b):Bt (Jk t u) σ H b:=λQ q=>h _ λc s=>by rw[aP rfl];exact f c s Q λd e=>q d (s.trans e)
def Gq(h:Bt t σ H false):Bt (Jk t u) σ H false:=λQ q=>h _ λc s=>by rw[aQ (by decide)];exact q c s
def Au(d:σ[i]? = some (some (.ref ea)))(x:wW K C)(k:W.kitAny K (.ref C) ([D1,D2,D3,D4].map Value.ref)=some b) :
  Bt (tB (De (Nx K ea C) (kY (lS i) (kY (LA (kY (tC (.ref D1)) (kY (tC (.ref D2)) (kY (tC (.ref D3)) (kY (tC (.ref D4)) qr))))) qr)))) σ H b:=λQ q=>
 ⟨_,d,(by show 4<=sizeLine;decide),λe c=>⟨_,b,rfl,x,Ez.tup fR k,b,rfl,q _ (lZ c)⟩⟩
def K5(c:σ[i]? = some (some (.bl b))):Bt (tB (lS i)) σ H b:=λQ q=>⟨_,c,b,rfl,q H (.refl _)⟩
def Ly{d e:TE}{D:oZ}(h:Bt (tB d) σ H true)(k:∀c,f6 H c->z D (σ.set j (some (.bl true))) c):zd (mG (HL d e) (jj j)) z D σ H:=h _ λc s=>by rw[aP rfl];exact k c s
def KS{e d:TE}{D:oZ}(h:Bt (tB e) σ H false)(l:∀c,f6 H c->Bt (tB d) σ c true)(k:∀c,f6 H c->z D (σ.set j (some (.bl false))) c):zd (mG (HL e (CS d)) (jj j)) z D σ H:=h _ λc s=>by rw[aQ (by decide)];exact l c s _ λf g=>k f (s.trans g)
def AI{D:oZ}(h:Bt t σ H b)(k:∀c,f6 H c->D.nx (σ.set j (some (if b=true then v else w))) c):mG (Q5 t (tC v) (tC w)) (jj j) D σ H:=h _ λc s=>by
 cases b with
 |false=>rw[aQ (by decide)];exact k c s
 |true=>rw[aP rfl];exact k c s
end
end L3
namespace CL
open PySem L2 L3
structure Cs where
 Cutting:Addr
 Desk:Addr
 CutError:Addr
 NoCutting:Addr
 NoTable:Addr
 NoFraction:Addr
 NoSpot:Addr
 NoSigns:Addr
 NoLand:Addr
 NoFace:Addr
 NoNumber:Addr
 NoText:Addr
 NoDeed:Addr
def sj(c:Cs):En->O:=(fO (setO 2 (g9 (fL uQ (fv 0) (fv 1))))
  (fO (setO 0 (g9 (fv 1)))
  (setO 1 (g9 (fv 2)))))
def sP(c:Cs):En->O:=(fO (λa=>lY (gD (fL (fX true) (fv 1) (cM (.int 0)))) (sj c) ((λa=>match a with|_::some (.p (.int j))::_=>j.natAbs+1|_=>0) a) a)
  (gN (lp EI (fj (fv 0) fC))))
def gR(c:Cs):List T->M T:=jw 2 3 (sP c)
def N3(c:Cs):En->O:=(fO (jT (gD (fL (fX false) (fv 1) (cM (.int 0)))) (λ_=>.bad) gG)
  (fO (setO 2 (g9 (fM (fj (fv 0) (fj (fv 1) fC)) (gR c))))
  (fO (jT (gD (fL Df (fv 1) (cM (.int 0)))) (setO 2 (g9 (uL (λi=>.int (-i)) (fv 2)))) gG)
  (gN (iL (fj (fL pW (fv 0) (fv 2)) (fj (fL pW (fv 1) (fv 2)) fC)))))))
def oI(c:Cs):List T->M T:=jw 2 3 (N3 c)
def OD(c:Cs):En->O:=(fO (jT (gD (fL (fX false) (fL gS (fv 1) (cM (.int 0))) (cM (.int 0)))) (λ_=>.bad) gG)
  (gN (fM (fj (fL jh (fL gS (fv 0) (cM (.int 0))) (fL gS (fv 1) (cM (.int 1)))) (fj (fL jh (fL gS (fv 0) (cM (.int 1))) (fL gS (fv 1) (cM (.int 0)))) fC)) (oI c))))
def pI(c:Cs):List T->M T:=jw 2 2 (OD c)
def nC(c:Cs):En->O:=(fO (jT (gD (fL Df (fv 1) (lp lQ (fj (fv 0) fC)))) (gN (fL gS (fv 0) (fv 1))) gG)
  (gN (cM (.int 0))))
def gZ(c:Cs):List T->M T:=jw 2 2 (nC c)
def Ky(c:Cs):En->O:=(gN (fM (fj (fL pX (fL jh (fL gS (fv 0) (cM (.int 0))) (fL gS (fv 1) (cM (.int 1)))) (fL jh (fL gS (fv 1) (cM (.int 0))) (fL gS (fv 0) (cM (.int 1))))) (fj (fL jh (fL gS (fv 0) (cM (.int 1))) (fL gS (fv 1) (cM (.int 1)))) fC)) (oI c)))
def rE(c:Cs):List T->M T:=jw 2 2 (Ky c)
def Kf(c:Cs):En->O:=(gN (fM (fj (fL jh (fL gS (fv 0) (cM (.int 0))) (fL gS (fv 1) (cM (.int 0)))) (fj (fL jh (fL gS (fv 0) (cM (.int 1))) (fL gS (fv 1) (cM (.int 1)))) fC)) (oI c)))
def rO(c:Cs):List T->M T:=jw 2 2 (Kf c)
def Nz(c:Cs):En->O:=(gN (fL Df (fL jh (fL gS (fv 0) (cM (.int 0))) (fL gS (fv 1) (cM (.int 1)))) (fL jh (fL gS (fv 1) (cM (.int 0))) (fL gS (fv 0) (cM (.int 1))))))
def jM(c:Cs):List T->M T:=jw 2 2 (Nz c)
def CA(c:Cs):En->O:=(gN (fL pW (fL gS (fv 0) (cM (.int 0))) (fL gS (fv 0) (cM (.int 1)))))
def jX(c:Cs):List T->M T:=jw 1 1 (CA c)
def zL(c:Cs):En->O:=(gN (uL (λi=>.int (-i)) (fL pW (uL (λi=>.int (-i)) (fL gS (fv 0) (cM (.int 0)))) (fL gS (fv 0) (cM (.int 1))))))
def jC(c:Cs):List T->M T:=jw 1 1 (zL c)
def BM(c:Cs):En->O:=(gN (Fd (tq "int" (fv 0)) (FQ (tq "bool" (fv 0)))))
def gY(c:Cs):List T->M T:=jw 1 1 (BM c)
def Fs(c:Cs):En->O:=(fO (jT (gD (fL Kb (fv 0) (cM (.int 0)))) (gN (cM (.int 1))) gG)
  (fO (jT (gD (fL Df (fv 0) (cM (.int 0)))) (gN (uL (λi=>.int (-i)) (cM (.int 1)))) gG)
  (gN (cM (.int 0)))))
def kc(c:Cs):List T->M T:=jw 1 1 (Fs c)
def xu(c:Cs):En->O:=(fO (jT (t9 (lq (gD (tq "tuple" (fv 0)))) (gD (fL (fX true) (lp lQ (fj (fv 0) fC)) (cM (.int 2))))) (gN (cM (.bl false))) gG)
  (fO (jT (t9 (lq (gD (fM (fj (fL gS (fv 0) (cM (.int 0))) fC) (gY c)))) (lq (gD (fM (fj (fL gS (fv 0) (cM (.int 1))) fC) (gY c))))) (gN (cM (.bl false))) gG)
  (gN (Fd (fL J0 (fL gS (fv 0) (cM (.int 1))) (cM (.int 1))) (fL (fX false) (fM (fj (fL gS (fv 0) (cM (.int 0))) (fj (fL gS (fv 0) (cM (.int 1))) fC)) (gR c)) (cM (.int 1)))))))
def kH(c:Cs):List T->M T:=jw 1 1 (xu c)
def DQ(c:Cs):En->O:=(gN (Fd (fM (fj (fv 0) fC) (gY c)) (Q6 G3 G3 (cM (.int 1)) (fv 0) (cM (.int 3)))))
def mK(c:Cs):List T->M T:=jw 1 1 (DQ c)
def vV(c:Cs):Pe->M T:=(fM (fj (fv 0) fC) (kH c))
def DS(c:Cs):En->O:=(fO (jT (t9 (lq (gD (tq "tuple" (fv 1)))) (gD (fL (fX true) (lp lQ (fj (fv 1) fC)) (fv 0)))) (gN (cM (.bl false))) gG)
  (gN (lp xr (fj (iB (kP [none] (ig (fv 1)) (jV 0) (λ_=>.ok true) (vV c))) fC))))
def n8(c:Cs):List T->M T:=jw 2 2 (DS c)
def sI(c:Cs):Pe->M T:=(fM (fj (fv 0) fC) (gY c))
def sE(c:Cs):Pe->M T:=(fL (fX true) (fv 0) (cM (.int 0)))
def FV(c:Cs):En->O:=(fO (jT (t9 (lq (gD (tq "tuple" (fv 1)))) (gD (fL (fX true) (lp lQ (fj (fv 1) fC)) (fL iI (fv 0) (cM (.int 1)))))) (gN (cM (.bl false))) gG)
  (fO (jT (lq (gD (lp xr (fj (iB (kP [none] (ig (fv 1)) (jV 0) (λ_=>.ok true) (sI c))) fC)))) (gN (cM (.bl false))) gG)
  (gN (lp Br (fj (iB (kP [none] (ig (mF (fv 1) (λ_=>.ok none) (jR (fv 0)))) (jV 0) (λ_=>.ok true) (sE c))) fC)))))
def og(c:Cs):List T->M T:=jw 2 2 (FV c)
def pE(c:Cs):En->O:=(setO 1 (g9 (fL iI (fv 1) (cM (.int 1)))))
def wZ(c:Cs):En->O:=(fO (setO 1 (g9 (cM (.int 0))))
  (fO (λa=>lY (gD (fL (fX false) (fL gS (fv 0) (fv 1)) (cM (.int 0)))) (pE c) ((λa=>match a with|some (.p (.tup ts))::_=>ts.length+1|_=>0) a) a)
  (gN (fv 1))))
def kL(c:Cs):List T->M T:=jw 1 2 (wZ c)
def qB(c:Cs):Pe->M T:=(fL (fX false) (fL jh (fv 0) (fL gS (fv 2) (fv 3))) (fL jh (fv 1) (fL gS (fv 4) (fv 3))))
def zO(c:Cs):En->O:=(fO (setO 2 (g9 (fM (fj (fv 0) fC) (kL c))))
  (gN (lp xr (fj (iB (kP [none,none,some 1,some 2,some 0] (nc (fj (fv 0) (fj (fv 1) fC))) (oV 2 (iM (jV 0) (iM (jV 1) oY))) (λ_=>.ok true) (qB c))) fC))))
def lK(c:Cs):List T->M T:=jw 2 3 (zO c)
def BW(c:Cs):En->O:=(fO (setO 2 (g9 (fL iI (fL jh (fv 2) (fL gS (fv 5) (cM (.int 1)))) (fL jh (fL jh (fv 4) (fL gS (fv 5) (cM (.int 0)))) (fv 3)))))
  (setO 3 (g9 (fL jh (fv 3) (fL gS (fv 5) (cM (.int 1)))))))
def Ef(c:Cs):En->O:=(fO (setO 2 (g9 (uL (λi=>.int (-i)) (fL gS (fv 0) (uL (λi=>.int (-i)) (cM (.int 1)))))))
  (fO (setO 3 (g9 (cM (.int 1))))
  (fO (mJ (nc (fj (mF (fv 0) (λ_=>.ok none) (jR (uL (λi=>.int (-i)) (cM (.int 1))))) (fj (fv 1) fC))) (lb 2 (gO (jD 4) (gO (jD 5) kX))) (BW c))
  (gN (fM (fj (fv 2) fC) (kc c))))))
def nY(c:Cs):List T->M T:=jw 2 6 (Ef c)
def oA(c:Cs):Pe->M T:=(fM (fj (fv 0) (fj (fv 1) fC)) (lK c))
def Az(c:Cs):En->O:=(fO (jT (t9 (gD (fL J0 (lp lQ (fj (fv 1) fC)) (cM (.int 7)))) (lq (gD (fM (fj (fv 0) (fj (fv 2) fC)) (og c))))) (gN (cM (.bl false))) gG)
  (gN (FQ (lp Br (fj (iB (kP [none,some 2] (ig (fv 1)) (jV 0) (λ_=>.ok true) (oA c))) fC)))))
def k9(c:Cs):List T->M T:=jw 3 3 (Az c)
def oP(c:Cs):En->O:=(fO (jT (lq (gD (fM (fj (fv 0) (fj (fv 2) (fj (fv 3) fC))) (k9 c)))) (λ_=>.bad) gG)
  (pb 2 (g9 (lp jQ (fj (fv 3) fC)))))
def vC(c:Cs):En->O:=(fO (jT (t9 (lq (gD (fM (fj (fv 0) fC) (mK c)))) (lq (gD (tq "list" (fv 1))))) (λ_=>.bad) gG)
  (fO (nL 2 (oS (lstM fC)))
  (fO (mJ (ig (fv 1)) (jD 3) (oP c))
  (gN (lp jQ (fj (fv 2) fC))))))
def ju(c:Cs):List T->M T:=jw 2 4 (vC c)
def jq(c:Cs):List T->M T:=xE c.Cutting 2 "own_cuts" "own_dims" (fM (fj (fv 1) (fj (fv 2) fC)) (ju c)) (fv 1)
def vK(c:Cs):En->O:=(gN (xv c.Cutting "own_dims" (fv 0)))
def iy(c:Cs):List T->M T:=jw 1 1 (vK c)
def wG(c:Cs):En->O:=(rV (BE lW (fj (xv c.Cutting "own_cuts" (fv 0)) fC)))
def iz(c:Cs):List T->M (List T):=zI 1 1 (wG c)
def uV(c:Cs):En->O:=(gN (lp lQ (fj (xv c.Cutting "own_cuts" (fv 0)) fC)))
def iJ(c:Cs):List T->M T:=jw 1 1 (uV c)
def tH(c:Cs):Pe->M T:=(fM (fj (fv 0) (fj (fv 1) fC)) (nY c))
def ub(c:Cs):En->O:=(fO (jT (lq (gD (fM (fj (xv c.Cutting "own_dims" (fv 0)) (fj (fv 1) fC)) (n8 c)))) (λ_=>.bad) gG)
  (gN (lp jQ (fj (iB (kP [none,some 1] (ig (xv c.Cutting "own_cuts" (fv 0))) (jV 0) (λ_=>.ok true) (tH c))) fC))))
def iC(c:Cs):List T->M T:=jw 2 2 (ub c)
def AE(c:Cs):En->O:=(setO 3 (g9 (fL pW (fv 3) (fv 2))))
def BB(c:Cs):En->O:=(fO (jT (gD (fL J0 (fv 0) (fL t7 (cM (.int 10)) (cM (.int 18))))) (fO (setO 3 (g9 (fv 0)))
  (fO (rY (ng (fj (fv 1) fC)) (jD 4) (AE c))
  (gN (fL uQ (fv 3) (fv 2))))) gG)
  (fO (setO 5 (g9 (fL uQ (fL jh (fL iI (fL iI (fL uQ (fv 0) (cM (.int 1000000007))) (fL jh (cM (.int 1009)) (fv 1))) (cM (.int 17))) (cM (.int 69621))) (cM (.int 2147483647)))))
  (fO (setO 5 (g9 (fL uQ (fL iI (fL iI (fL jh (fv 5) (fv 5)) (fL jh (cM (.int 40503)) (fv 1))) (cM (.int 5))) (cM (.int 2147483629)))))
  (gN (fL uQ (fL pW (fL uQ (fL jh (fv 5) (cM (.int 48271))) (cM (.int 2147483647))) (cM (.int 32))) (fv 2))))))
def f7(c:Cs):List T->M T:=jw 3 6 (BB c)
def tW(c:Cs):En->O:=(jT (gD (fL (fX true) (fL jh (fL gS (fv 0) (fv 2)) (fL gS (fv 1) (fv 3))) (fL jh (fL gS (fv 0) (fv 3)) (fL gS (fv 1) (fv 2))))) (gN (cM (.bl false))) gG)
def AX(c:Cs):En->O:=(rY (ng (fj (fv 2) fC)) (jD 3) (tW c))
def Cd(c:Cs):En->O:=(fO (rY (ng (fj (lp lQ (fj (fv 0) fC)) fC)) (jD 2) (AX c))
  (gN (cM (.bl true))))
def kS(c:Cs):List T->M T:=jw 2 4 (Cd c)
def vS(c:Cs):Pe->M T:=(fL pX (fM (fj (fv 1) (fj (fv 0) (fj (cM (.int 7)) fC))) (f7 c)) (cM (.int 3)))
def uT(c:Cs):Pe->M T:=(fL jh (fv 0) (fv 1))
def wo(c:Cs):Pe->M T:=(fL jh (fv 0) (fv 1))
def xK(c:Cs):En->O:=(fO (nL 3 (oS (kP [none,some 0] (ng (fj (fv 1) fC)) (jV 0) (λ_=>.ok true) (vS c))))
  (fO (jT (gD (fL (fX false) (fv 3) (iB (wM (iB (lstM (fj (cM (.int 0)) fC))) (fv 1))))) (vv 3 (m9 (fM (fj (fv 0) (fj (cM (.int 4)) (fj (fv 1) fC))) (f7 c))) (m9 (fL iI (cM (.int 1)) (fM (fj (fv 0) (fj (cM (.int 5)) (fj (cM (.int 3)) fC))) (f7 c))))) gG)
  (fO (setO 4 (g9 (fL pX (fM (fj (fv 0) (fj (cM (.int 6)) (fj (cM (.int 9)) fC))) (f7 c)) (cM (.int 4)))))
  (fO (setO 5 (g9 (fM (fj (fv 0) (fj (cM (.int 7)) (fj (cM (.int 7)) fC))) (f7 c))))
  (fO (jT (l8 (gD (fL (fX false) (fv 5) (cM (.int 1)))) (gD (fL (fX true) (fv 2) (iB (lstM fC))))) (nL 3 (oS (BE lW (fj (mF (fL gS (fv 2) (fM (fj (fv 0) (fj (cM (.int 8)) (fj (lp lQ (fj (fv 2) fC)) fC))) (f7 c))) (λ_=>.ok none) (jR (fv 1))) fC)))) gG)
  (fO (jT (t9 (gD (fL (fX false) (fv 5) (cM (.int 2)))) (gD (fL (fX false) (fv 5) (cM (.int 3))))) (setO 4 (m9 (lp IC (fj (iB (kP [none,none] (nc (fj (fv 3) (fj (iB (lstM (fj (cM (.int 1)) (fj (cM (.int 2)) (fj (uL (λi=>.int (-i)) (cM (.int 1))) fC))))) fC))) (oV 2 (iM (jV 0) (iM (jV 1) oY))) (λ_=>.ok true) (uT c))) fC)))) gG)
  (fO (jT (gD (fL (fX false) (fv 5) (cM (.int 4)))) (fO (setO 6 (g9 (fL jh (fL iI (cM (.int 1)) (fM (fj (fv 0) (fj (cM (.int 9)) (fj (fL t7 (cM (.int 10)) (cM (.int 6))) fC))) (f7 c))) (fL gS (iB (lstM (fj (cM (.int 1)) (fj (cM (.int 1)) (fj (fL t7 (cM (.int 10)) (cM (.int 18))) fC))))) (fM (fj (fv 0) (fj (cM (.int 11)) (fj (cM (.int 3)) fC))) (f7 c))))))
  (fO (nL 3 (wY (kP [none,some 6] (ig (fv 3)) (jV 0) (λ_=>.ok true) (wo c))))
  (setO 4 (g9 (fL iI (fL jh (fv 4) (fv 6)) (fM (fj (fv 0) (fj (cM (.int 10)) (fj (cM (.int 7)) fC))) (f7 c))))))) gG)
  (gN (lp jQ (fj (iB (vZ (fv 3) (iB (lstM (fj (fv 4) fC))))) fC))))))))))
def mO(c:Cs):List T->M T:=jw 3 7 (xK c)
def pA(c:Cs):Pe->M T:=(fv 0)
def tQ(c:Cs):En->O:=(fO (setO 6 (m9 (fM (fj (fM (fj (fv 0) (fj (fL iI (fv 1) (fv 5)) fC)) (gZ c)) (fj (fv 2) (fj (fv 4) fC))) (mO c))))
  (jT (gD (fL (fX false) (iB (kP [none,some 6] (ig (fv 4)) (jV 0) (gD (fM (fj (fv 1) (fj (fv 0) fC)) (kS c))) (pA c))) (iB (lstM fC)))) (pb 4 (g9 (fv 6))) gG))
def BQ(c:Cs):En->O:=(fO (nL 4 (oS (lstM fC)))
  (fO (rY (ng (fj (fv 3) fC)) (jD 5) (tQ c))
  (oJ 4)))
def m7(c:Cs):List T->M (List T):=zI 4 7 (BQ c)
def ye(c:Cs):En->O:=(fO (setO 1 (g9 (fM (fj (fv 1) (fj (fv 2) fC)) (gR c))))
  (jT (gD (fL (fX false) (fv 1) (cM (.int 1)))) (gN (fv 0)) gG))
def Ea(c:Cs):Pe->M T:=(fL pW (fv 0) (fv 1))
def Gb(c:Cs):En->O:=(fO (setO 1 (g9 (cM (.int 0))))
  (fO (mJ (ig (fv 0)) (jD 2) (ye c))
  (fO (jT (gD (fL (fX false) (fv 1) (cM (.int 0)))) (gN (fv 0)) gG)
  (gN (lp jQ (fj (iB (kP [none,some 1] (ig (fv 0)) (jV 0) (λ_=>.ok true) (Ea c))) fC))))))
def pF(c:Cs):List T->M T:=jw 1 3 (Gb c)
def BC(c:Cs):Pe->M T:=(fL iI (fL jh (fv 2) (fv 0)) (fL jh (fv 3) (fv 1)))
def DT(c:Cs):En->O:=(fO (jT (gD (fL (fX false) (fL gS (fv 0) (fv 2)) (cM (.int 0)))) (gN (fv 0)) gG)
  (fO (setO 3 (g9 (lp EI (fj (fL gS (fv 1) (fv 2)) fC))))
  (fO (setO 4 (g9 (fL jh (uL (λi=>.int (-i)) (fL gS (fv 0) (fv 2))) (fM (fj (fL gS (fv 1) (fv 2)) fC) (kc c)))))
  (gN (fM (fj (lp jQ (fj (iB (kP [none,none,some 3,some 4] (nc (fj (fv 0) (fj (fv 1) fC))) (oV 2 (iM (jV 0) (iM (jV 1) oY))) (λ_=>.ok true) (BC c))) fC)) fC) (pF c))))))
def iu(c:Cs):List T->M T:=jw 3 5 (DT c)
def tY(c:Cs):En->O:=(fO (nL 4 (oS (wM (iB (lstM (fj (cM (.int 0)) fC))) (lp lQ (fj (fv 0) fC)))))
  (fO (vv 4 (m9 (fv 2)) (m9 (cM (.int 1))))
  (pb 1 (m9 (fL iI (fv 3) (lp jQ (fj (fv 4) fC)))))))
def Bw(c:Cs):En->O:=(fO (nL 1 (oS (lstM fC)))
  (fO (mJ (Dd (fj (fv 0) fC)) (lb 2 (gO (jD 2) (gO (jD 3) kX))) (tY c))
  (oJ 1)))
def mQ(c:Cs):List T->M (List T):=zI 1 5 (Bw c)
def qZ(c:Cs):En->O:=(setO 0 (g9 (fM (fj (fv 0) (fj (fv 3) (fj (fv 2) fC))) (iu c))))
def Fp(c:Cs):En->O:=(fO (mJ (ig (fv 1)) (lb 2 (gO (jD 2) (gO (jD 3) kX))) (qZ c))
  (gN (fv 0)))
def kf(c:Cs):List T->M T:=jw 2 4 (Fp c)
def qD(c:Cs):Pe->M T:=(iL (fj (fv 0) (fj (fM (fj (fv 1) (fj (fv 2) (fj (fv 3) fC))) (iu c)) fC)))
def zj(c:Cs):En->O:=(rV (vZ (iB (kP [none,none,some 1,some 2] (ig (fv 0)) (oV 2 (iM (jV 0) (iM (jV 1) oY))) (λ_=>.ok true) (qD c))) (iB (lstM (fj (iL (fj (fv 2) (fj (fv 1) fC))) fC)))))
def jB(c:Cs):List T->M (List T):=zI 3 3 (zj c)
def ku(c:Cs):Pe->M T:=(fv 0)
def iS(c:Cs):En->O:=(fO (setO 5 (g9 (fM (fj (fv 4) (fj (fv 2) fC)) (kf c))))
  (fO (setO 6 (g9 (iB (kP [none,some 5] (ng (fj (fv 1) fC)) (jV 0) (gD (fL (fX true) (fL gS (fv 1) (fv 0)) (cM (.int 0)))) (ku c)))))
  (jT (gD (fL (fX false) (fv 6) (iB (lstM fC)))) (pb 3 (g9 (fv 5))) (setO 2 (g9 (iB (jo (fj (fv 2) (fj (fv 5) (fj (fL gS (fv 6) (cM (.int 0))) fC))) (jB c))))))))
def q0(c:Cs):En->O:=(fO (setO 2 (g9 (iB (lstM fC))))
  (fO (nL 3 (oS (lstM fC)))
  (fO (mJ (ig (fv 0)) (jD 4) (iS c))
  (gN (iL (fj (fv 2) (fj (fv 3) fC)))))))
def gX(c:Cs):List T->M T:=jw 2 7 (q0 c)
def vy(c:Cs):Pe->M T:=(fv 0)
def vE(c:Cs):Pe->M T:=(fv 0)
def xi(c:Cs):En->O:=(fO (setO 2 (g9 (iB (kP [none,none] (ig (fv 0)) (oV 2 (iM (jV 0) (iM (jV 1) oY))) (λ_=>.ok true) (vy c)))))
  (rV (kP [none,some 2] (ng (fj (fv 1) fC)) (jV 0) (gD (fL (IZ true) (fv 0) (fv 1))) (vE c))))
def kJ(c:Cs):List T->M (List T):=zI 2 3 (xi c)
def pM(c:Cs):En->O:=(setO 2 (g9 (fM (fj (fv 2) (fj (fM (fj (iL (fj (fv 3) (fj (cM (.int 1)) fC))) (fj (fv 4) fC)) (rO c)) fC)) (rE c))))
def Bu(c:Cs):En->O:=(fO (setO 2 (g9 (iL (fj (fL gS (fv 0) (lp lQ (fj (fv 1) fC))) (fj (cM (.int 1)) fC)))))
  (fO (mJ (nc (fj (fv 0) (fj (fv 1) fC))) (lb 2 (gO (jD 3) (gO (jD 4) kX))) (pM c))
  (gN (fv 2))))
def j8(c:Cs):List T->M T:=jw 2 5 (Bu c)
def sT(c:Cs):En->O:=(vv 2 (m9 (fv 3)) (m9 (fM (fj (fM (fj (fv 4) (fj (fv 1) fC)) (j8 c)) (fj (iL (fj (fL gS (fv 4) (fv 3)) (fj (cM (.int 1)) fC))) fC)) (pI c))))
def Ga(c:Cs):En->O:=(fO (nL 2 (oS (BE lW (fj (fv 1) fC))))
  (fO (mJ (ig (fv 0)) (lb 2 (gO (jD 3) (gO (jD 4) kX))) (sT c))
  (gN (lp jQ (fj (fv 2) fC)))))
def pN(c:Cs):List T->M T:=jw 2 5 (Ga c)
def jG(c:Cs):En->O:=(fO (setO 2 (g9 (fL iI (fL jh (fv 2) (fL gS (fv 5) (cM (.int 1)))) (fL jh (fL jh (fv 4) (fL gS (fv 5) (cM (.int 0)))) (fv 3)))))
  (setO 3 (g9 (fL jh (fv 3) (fL gS (fv 5) (cM (.int 1)))))))
def jx(c:Cs):Pe->M T:=(Fd (fM (fj (fv 0) fC) (gY c)) (Q6 G3 G3 (uL (λi=>.int (-i)) (cM (.int 1))) (fv 0) (cM (.int 1))))
def B9(c:Cs):En->O:=(fO (jT (t9 (lq (gD (tq "tuple" (fv 1)))) (gD (fL (fX true) (lp lQ (fj (fv 1) fC)) (fv 0)))) (gN (cM (.bl false))) gG)
  (gN (lp xr (fj (iB (kP [none] (ig (fv 1)) (jV 0) (λ_=>.ok true) (jx c))) fC))))
def i7(c:Cs):List T->M T:=jw 2 2 (B9 c)
def Ft(c:Cs):Pe->M T:=(fL jh (fv 1) (fv 0))
def F8(c:Cs):En->O:=(gN (lp jQ (fj (iB (kP [none,some 1] (ig (fv 0)) (jV 0) (λ_=>.ok true) (Ft c))) fC)))
def mW(c:Cs):List T->M T:=jw 2 2 (F8 c)
def xP(c:Cs):En->O:=(jT (gD (fL (fX false) (fL gS (fv 5) (fv 2)) (cM (.int 0)))) (vx 4 (m9 (fv 5)) (m9 (cM (.bl true)))) gG)
def tJ(c:Cs):Pe->M T:=(fv 0)
def tf(c:Cs):Pe->M T:=(fv 0)
def sL(c:Cs):Pe->M T:=(fv 0)
def sM(c:Cs):En->O:=(fO (setO 8 (g9 (fM (fj (fv 6) (fj (fv 7) (fj (fv 2) fC))) (iu c))))
  (jT (gD (fL G3 (lp lQ (fj (iB (kP [none] (ig (mF (fv 8) (jR (fL iI (fv 1) (cM (.int 1)))) (λ_=>.ok none))) (jV 0) (gD (fL (fX true) (fv 0) (cM (.int 0)))) (sL c))) fC)) (fv 3))) (vx 4 (m9 (fv 8)) (m9 (cM (.bl true)))) gG))
def xY(c:Cs):En->O:=(mJ (ig (iB (kP [none,some 2] (ig (fv 0)) (jV 0) (gD (fL Df (fL gS (fv 0) (fv 1)) (cM (.int 0)))) (tf c)))) (jD 7) (sM c))
def HV(c:Cs):En->O:=(fO (HF 4)
  (fO (mJ (ig (fv 0)) (jD 5) (xP c))
  (fO (mJ (ig (iB (kP [none,some 2] (ig (fv 0)) (jV 0) (gD (fL Kb (fL gS (fv 0) (fv 1)) (cM (.int 0)))) (tJ c)))) (jD 6) (xY c))
  (rG 4))))
def pK(c:Cs):List T->M (List T):=zI 4 9 (HV c)
def wg(c:Cs):En->O:=(fO (setO 6 (m9 (fL iI (fL iI (lp lQ (fj (fv 4) fC)) (cM (.int 1))) (lp lQ (fj (fv 3) fC)))))
  (xG 4 (wY (jo (fj (fL gS (fv 4) (uL (λi=>.int (-i)) (cM (.int 1)))) (fj (fv 1) (fj (fv 5) (fj (fv 6) fC)))) (pK c)))))
def E9(c:Cs):En->O:=(fO (nL 4 (oS (lstM (fj (fv 0) fC))))
  (fO (mJ (ig (fv 2)) (jD 5) (wg c))
  (oJ 4)))
def nT(c:Cs):List T->M (List T):=zI 4 7 (E9 c)
def vO(c:Cs):En->O:=(jT (gD (fL (fX true) (fL gS (fv 5) (fv 1)) (cM (.int 0)))) (fO (setO 6 (g9 (fM (fj (fM (fj (fv 5) (fj (fv 2) fC)) (j8 c)) (fj (iL (fj (fL gS (fv 5) (fv 1)) (fj (cM (.int 1)) fC))) fC)) (pI c))))
  (fO (jT (l8 (gD (fL Kb (fL gS (fv 5) (fv 1)) (cM (.int 0)))) (t9 (gD (fL (jL false) (fv 3) (cM .non))) (gD (fM (fj (fv 3) (fj (fv 6) fC)) (jM c))))) (setO 3 (g9 (fv 6))) gG)
  (jT (l8 (gD (fL Df (fL gS (fv 5) (fv 1)) (cM (.int 0)))) (t9 (gD (fL (jL false) (fv 4) (cM .non))) (gD (fM (fj (fv 6) (fj (fv 4) fC)) (jM c))))) (setO 4 (g9 (fv 6))) gG))) gG)
def EV(c:Cs):En->O:=(fO (setO 3 (g9 (cM .non)))
  (fO (setO 4 (g9 (cM .non)))
  (fO (mJ (ig (fv 0)) (jD 5) (vO c))
  (gN (iL (fj (fv 3) (fj (fv 4) fC)))))))
def mM(c:Cs):List T->M T:=jw 3 7 (EV c)
def um(c:Cs):En->O:=(fO (setO 2 (g9 (cM (.int 0))))
  (fO (jT (l8 (gD (fL (jL true) (fv 0) (cM .non))) (gD (fL J0 (fL gS (fv 0) (cM (.int 0))) (cM (.int 0))))) (setO 2 (g9 (fL iI (fM (fj (fv 0) fC) (jX c)) (cM (.int 1))))) (jT (l8 (gD (fL (jL true) (fv 1) (cM .non))) (gD (fL G3 (fL gS (fv 1) (cM (.int 0))) (cM (.int 0))))) (setO 2 (g9 (fL pX (fM (fj (fv 1) fC) (jC c)) (cM (.int 1))))) gG))
  (fO (jT (l8 (gD (fL (jL true) (fv 0) (cM .non))) (lq (gD (fM (fj (fv 0) (fj (iL (fj (fv 2) (fj (cM (.int 1)) fC))) fC)) (jM c))))) (gN (cM .non)) gG)
  (fO (jT (l8 (gD (fL (jL true) (fv 1) (cM .non))) (lq (gD (fM (fj (iL (fj (fv 2) (fj (cM (.int 1)) fC))) (fj (fv 1) fC)) (jM c))))) (gN (cM .non)) gG)
  (gN (fv 2))))))
def jd(c:Cs):List T->M T:=jw 2 3 (um c)
def lH(c:Cs):En->O:=(fO (setO 4 (g9 (fM (fj (fv 0) fC) (jX c))))
  (fO (pb 2 (g9 (fv 4)))
  (fO (setO 5 (g9 (fL pX (fL gS (fv 0) (cM (.int 0))) (fL jh (fv 4) (fL gS (fv 0) (cM (.int 1)))))))
  (fO (setO 6 (g9 (Pw (gD (fL (fX false) (fv 5) (cM (.int 0)))) (cM .non) (iL (fj (fL gS (fv 0) (cM (.int 1))) (fj (fv 5) fC))))))
  (fO (setO 0 (g9 (iL (fj (fL gS (fv 1) (cM (.int 1))) (fj (fL pX (fL gS (fv 1) (cM (.int 0))) (fL jh (fv 4) (fL gS (fv 1) (cM (.int 1))))) fC)))))
  (fO (setO 1 (g9 (fv 6)))
  (setO 3 (g9 (fM (fj (fv 0) (fj (fv 1) fC)) (jd c))))))))))
def lj(c:Cs):En->O:=(setO 7 (g9 (iL (fj (fL iI (fL jh (fv 4) (fL gS (fv 7) (cM (.int 0)))) (fL gS (fv 7) (cM (.int 1)))) (fj (fL gS (fv 7) (cM (.int 0))) fC)))))
def xb(c:Cs):En->O:=(fO (jT (l8 (gD (fL (jL true) (fv 0) (cM .non))) (gD (fL (fX false) (fv 0) (fv 1)))) (gN (fv 0)) gG)
  (fO (nL 2 (oS (lstM fC)))
  (fO (setO 3 (g9 (fM (fj (fv 0) (fj (fv 1) fC)) (jd c))))
  (fO (λd=>lY (gD (fL (jL false) (fv 3) (cM .non))) (lH c) ((λd=>match d with|some (.p (.tup [_,.int a]))::some (.p (.tup [_,.int b]))::_=>a.natAbs+b.natAbs+2|_=>1) d) d)
  (fO (setO 7 (g9 (iL (fj (fv 3) (fj (cM (.int 1)) fC)))))
  (fO (Pb 2 (mJ (DW (fj (fv 2) fC)) (jD 4) (lj c)))
  (gN (fv 7))))))))
def jF(c:Cs):List T->M T:=jw 2 8 (xb c)
def oR(c:Cs):En->O:=(fO (setO 6 (m9 (fM (fj (fL gS (fv 0) (fv 4)) (fj (fv 5) (fj (fv 3) fC))) (mM c))))
  (vv 3 (m9 (fv 5)) (m9 (fM (fj (fL gS (fv 6) (cM (.int 0))) (fj (fL gS (fv 6) (cM (.int 1))) fC)) (jF c)))))
def wO(c:Cs):En->O:=(fO (nL 3 (oS (BE lW (fj (fv 2) fC))))
  (fO (mJ (DW (fj (iB (P6 (fj (fv 1) fC))) fC)) (lb 2 (gO (jD 4) (gO (jD 5) kX))) (oR c))
  (oJ 3)))
def j6(c:Cs):List T->M (List T):=zI 3 7 (wO c)
def mD(c:Cs):En->O:=(jT (gD (fL (fX true) (fL gS (fv 2) (fv 1)) (cM (.int 0)))) (gN (iB (BE lW (fj (mF (fM (fj (fv 2) (fj (fM (fj (fL gS (fv 2) (fv 1)) fC) (kc c)) fC)) (mW c)) (jR (fL iI (fv 1) (cM (.int 1)))) (λ_=>.ok none)) fC)))) gG)
def qT(c:Cs):En->O:=(fO (mJ (ig (fv 0)) (jD 2) (mD c))
  (gN (cM .non)))
def ir(c:Cs):List T->M T:=jw 2 3 (qT c)
def mB(c:Cs):Pe->M T:=(fv 0)
def mz(c:Cs):Pe->M T:=(fM (fj (fM (fj (fv 0) (fj (fv 1) fC)) (mW c)) (fj (fv 2) fC)) (kf c))
def ky(c:Cs):En->O:=(jT (gD (fL J0 (fL gS (fv 10) (fv 1)) (cM (.int 0)))) (gN (iL (fj (cM (.str "paper")) (fj (iB (BE lW (fj (mF (fv 10) (jR (fL iI (fv 1) (cM (.int 1)))) (λ_=>.ok none)) fC))) fC)))) gG)
def kR(c:Cs):En->O:=(fO (setO 3 (g9 (iB (jo (fj (fv 0) fC) (mQ c)))))
  (fO (setO 4 (g9 (fM (fj (iB (kP [none,none] (nc (fj (fv 3) (fj (fv 2) fC))) (oV 2 (iM (jV 0) (iM (jV 1) oY))) (gD (fL (fX false) (fv 1) (cM (.int 0)))) (mB c))) (fj (fv 1) fC)) (gX c))))
  (fO (setO 5 (g9 (fM (fj (fL gS (fv 4) (cM (.int 1))) (fj (fv 1) fC)) (ir c))))
  (fO (jT (gD (fL (jL true) (fv 5) (cM .non))) (gN (iL (fj (cM (.str "paper")) (fj (fv 5) fC)))) gG)
  (fO (setO 6 (g9 (fL gS (fv 4) (cM (.int 0)))))
  (fO (setO 7 (g9 (iB (kP [none,none,some 6] (nc (fj (fv 3) (fj (fv 2) fC))) (oV 2 (iM (jV 0) (iM (jV 1) oY))) (gD (fL (fX true) (fv 1) (cM (.int 0)))) (mz c)))))
  (fO (setO 8 (g9 (iB (jo (fj (fv 6) (fj (fv 1) fC)) (kJ c)))))
  (fO (setO 9 (g9 (iB (jo (fj (fv 7) (fj (fv 1) (fj (fv 8) (fj (fv 6) fC)))) (nT c)))))
  (fO (mJ (ig (fL gS (fv 9) (uL (λi=>.int (-i)) (cM (.int 1))))) (jD 10) (ky c))
  (gN (iL (fj (cM (.str "spot")) (fj (fM (fj (fv 6) (fj (iB (jo (fj (fv 9) (fj (fv 8) (fj (iB (wM (iB (lstM (fj (iL (fj (cM (.int 0)) (fj (cM (.int 1)) fC))) fC))) (fv 1))) fC))) (j6 c))) fC)) (pN c)) fC)))))))))))))
def iG(c:Cs):List T->M T:=jw 3 11 (kR c)
def w9(c:Cs):Pe->M T:=(fM (fj (fv 0) fC) (gY c))
def yy(c:Cs):En->O:=(fO (jT (t9 (lq (gD (tq "list" (fv 1)))) (gD (fL (fX true) (lp lQ (fj (fv 1) fC)) (fv 0)))) (gN (cM (.bl false))) gG)
  (gN (lp xr (fj (iB (kP [none] (ig (fv 1)) (jV 0) (λ_=>.ok true) (w9 c))) fC))))
def mE(c:Cs):List T->M T:=jw 2 2 (yy c)
def xg(c:Cs):En->O:=(fO (setO 3 (g9 (fM (fj (fv 0) (fj (fv 1) fC)) (gZ c))))
  (fO (setO 4 (g9 (fL iI (cM (.int 1)) (fM (fj (fv 3) (fj (cM (.int 0)) (fj (cM (.int 3)) fC))) (f7 c)))))
  (fO (setO 5 (g9 (fM (fj (fv 3) (fj (cM (.int 1)) (fj (fL iI (fv 2) (cM (.int 1))) fC))) (f7 c))))
  (fO (jT (gD (fL (fX false) (fv 4) (cM (.int 3)))) (setO 5 (g9 (lp rq (fj (fv 5) (fj (cM (.int 5)) fC))))) gG)
  (gN (iL (fj (fv 4) (fj (iB (jo (fj (fv 0) (fj (fL iI (fv 1) (cM (.int 1))) (fj (fv 4) (fj (fv 5) fC)))) (m7 c))) fC))))))))
def kz(c:Cs):List T->M T:=jw 3 6 (xg c)
def OC(c:Cs):En->O:=(gN (lp lQ (fj (fL gS (fM (fj (fv 0) (fj (fv 1) fC)) (gX c)) (cM (.int 0))) fC)))
def v5(c:Cs):List T->M T:=jw 2 2 (OC c)
def oO(c:Cs):En->O:=(pb 3 (g9 (fL iI (fL iI (mF (fv 2) (λ_=>.ok none) (jR (fv 4))) (iL (fj (fv 5) fC))) (mF (fv 2) (jR (fL iI (fv 4) (cM (.int 1)))) (λ_=>.ok none)))))
def vD(c:Cs):En->O:=(fO (setO 2 (g9 (rW (iL (fj (cM (.int 1)) fC)) (fv 0))))
  (fO (nL 3 (oS (lstM (fj (cM .non) (fj (cM (.int 5)) (fj (cM (.str "+")) (fj (iB (BE lW (fj (fv 2) fC))) (fj (fL iI (fv 2) (iL (fj (cM (.int 1)) fC))) (fj (fL iI (fv 2) (iL (fj (cM (.int 0)) fC))) (fj (cM .emp) (fj (rW (iL (fj (cM .non) fC)) (fL iI (fv 0) (cM (.int 1)))) (fj (iB (lstM (fj (fv 2) fC))) fC))))))))))))
  (fO (jT (gD (fL (fX false) (fv 0) (cM (.int 0)))) (rV (vZ (fv 3) (iB (lstM (fj (iB (lstM fC)) (fj (iL (fj (cM (.int 0)) fC)) fC)))))) gG)
  (fO (setO 4 (g9 (fM (fj (fv 1) (fj (cM (.int 0)) (fj (fv 0) fC))) (f7 c))))
  (fO (mJ (ig (iB (lstM (fj (cM (.int 2)) (fj (uL (λi=>.int (-i)) (cM (.int 2))) (fj (cM (.bl true)) (fj (cM .non) (fj (cM (.str "1")) (fj (iL (fj (cM (.int 1)) fC)) (fj (iB (lstM (fj (cM (.int 1)) fC))) (fj (cM (.bl false)) fC))))))))))) (jD 5) (oO c))
  (rV (vZ (fv 3) (iB (lstM (fj (mF (fv 2) (jR (cM (.int 1))) (λ_=>.ok none)) (fj (iL fC) fC)))))))))))
def jY(c:Cs):List T->M (List T):=zI 2 6 (vD c)
def sR(c:Cs):En->O:=(jT (lq (gD (fM (fj (mC c.Cutting "many" (fv 0) fC (iJ c)) (fj (fv 1) fC)) (i7 c)))) (λ_=>.er c.NoSigns none) gG)
def fZ(c:Cs):List T->M T:=jw 2 2 (sR c)
def ur(c:Cs):En->O:=(fO (i6 (g9 (jb (fj (fv 0) (fj (fv 1) fC)) (fZ c))))
  (fO (jT (lq (gD (fM (fj (mC c.Cutting "many" (fv 0) fC (iJ c)) (fj (fv 2) fC)) (mE c)))) (gN (cM (.bl false))) gG)
  (λ_=>.bad)))
def jr(c:Cs):List T->M T:=jw 3 5 (ur c)
def ue(c:Cs):En->O:=(fO (i6 (g9 (jb (fj (fv 0) (fj (fv 1) fC)) (fZ c))))
  (λ_=>.bad))
def gE(c:Cs):List T->M T:=jw 2 2 (ue c)
def vJ(c:Cs):En->O:=(fO (i6 (g9 (jb (fj (fv 0) (fj (fv 1) fC)) (gE c))))
  (λ_=>.bad))
def kG(c:Cs):List T->M T:=jw 2 2 (vJ c)
def Co(c:Cs):En->O:=(fO (i6 (g9 (jb (fj (fv 0) (fj (fv 1) fC)) (gE c))))
  (λ_=>.bad))
def nZ(c:Cs):List T->M T:=jw 2 9 (Co c)
def qV(c:Cs):En->O:=(fO (i6 (g9 (jb (fj (fv 0) (fj (fv 1) fC)) (gE c))))
  (λ_=>.bad))
def je(c:Cs):List T->M T:=jw 3 6 (qV c)
def wk(c:Cs):En->O:=(fO (i6 (g9 (jb (fj (fv 0) (fj (fv 1) fC)) (gE c))))
  (λ_=>.bad))
def kD(c:Cs):List T->M T:=jw 3 3 (wk c)
def Gu(c:Cs):En->O:=(fO (i6 (g9 (jb (fj (fv 0) (fj (fv 1) fC)) (gE c))))
  (λ_=>.bad))
def rk(c:Cs):List T->M T:=jw 2 5 (Gu c)
def Ec(c:Cs):En->O:=(fO (i6 (g9 (jb (fj (fv 0) (fj (fv 1) fC)) (fZ c))))
  (gN (fM (fj (iB (qR c.Cutting "cuts" (fv 0) fC (iz c))) (fj (mC c.Cutting "dims" (fv 0) fC (iy c)) (fj (fv 1) fC))) (iG c))))
def mm(c:Cs):List T->M T:=jw 2 2 (Ec c)
def vf(c:Cs):En->O:=(fO (setO 2 (g9 (jb (fj (fv 0) (fj (fv 1) fC)) (mm c))))
  (fO (jT (gD (fL (fX true) (fL gS (fv 2) (cM (.int 0))) (cM (.str "spot")))) (λ_=>.er c.NoFace none) gG)
  (gN (fL gS (fv 2) (cM (.int 1))))))
def gz(c:Cs):List T->M T:=jw 2 3 (vf c)
def oj(c:Cs):Pe->M T:=(fv 0)
def v7(c:Cs):En->O:=(fO (i6 (g9 (jb (fj (fv 0) (fj (fv 1) fC)) (gz c))))
  (fO (setO 2 (g9 (iB (kP [none,none] (nc (fj (iB (qR c.Cutting "cuts" (fv 0) fC (iz c))) (fj (fv 1) fC))) (oV 2 (iM (jV 0) (iM (jV 1) oY))) (gD (fL (fX false) (fv 1) (cM (.int 0)))) (oj c)))))
  (gN (fL pX (mC c.Cutting "dims" (fv 0) fC (iy c)) (fM (fj (fv 2) (fj (mC c.Cutting "dims" (fv 0) fC (iy c)) fC)) (v5 c))))))
def jJ(c:Cs):List T->M T:=jw 2 3 (v7 c)
def tN(c:Cs):En->O:=(fO (i6 (g9 (jb (fj (fv 0) (fj (fv 1) fC)) (gz c))))
  (i6 (g9 (jb (fj (fv 0) (fj (fv 2) fC)) (gz c)))))
def iq(c:Cs):List T->M T:=jw 3 3 (tN c)
def y9(c:Cs):En->O:=(fO (setO 4 (g9 (jb (fj (fv 0) (fj (fv 1) fC)) (gz c))))
  (fO (setO 5 (g9 (jb (fj (fv 0) (fj (fv 2) fC)) (gz c))))
  (λ_=>.bad)))
def kZ(c:Cs):List T->M T:=jw 4 6 (y9 c)
def nG(c:Cs):Pe->M T:=(Pw (gD (fL (fX false) (fv 0) (cM (.int 0)))) (fv 1) (fv 0))
def An(c:Cs):En->O:=(fO (i6 (g9 (jb (fj (fv 0) (fj (fv 1) (fj (fv 2) fC))) (iq c))))
  (gN (lp jQ (fj (iB (kP [none,none] (nc (fj (fv 1) (fj (fv 2) fC))) (oV 2 (iM (jV 0) (iM (jV 1) oY))) (λ_=>.ok true) (nG c))) fC))))
def kQ(c:Cs):List T->M T:=jw 3 3 (An c)
def mX(c:Cs):Pe->M T:=(RN (fL (fX false) (fv 0) (cM (.int 0))) (fL (fX false) (fv 0) (fv 1)))
def zb(c:Cs):En->O:=(fO (i6 (g9 (jb (fj (fv 0) (fj (fv 1) (fj (fv 2) fC))) (iq c))))
  (gN (lp xr (fj (iB (kP [none,none] (nc (fj (fv 1) (fj (fv 2) fC))) (oV 2 (iM (jV 0) (iM (jV 1) oY))) (λ_=>.ok true) (mX c))) fC))))
def j7(c:Cs):List T->M T:=jw 3 3 (zb c)
def yM(c:Cs):En->O:=(jT (gD (fL (fX false) (fv 0) (cM (.int 0)))) (i6 (g9 (jb (fj (fv 1) (fj (fv 2) fC)) (mm c)))) (jT (gD (fL (fX false) (fv 0) (cM (.int 1)))) (i6 (g9 (jb (fj (fv 1) (fj (fv 2) (fj (cM .non) fC))) (jr c)))) (jT (gD (fL (fX false) (fv 0) (cM (.int 2)))) (i6 (g9 (jb (fj (fv 1) (fj (fv 2) fC)) (kG c)))) (jT (gD (fL (fX false) (fv 0) (cM (.int 3)))) (i6 (g9 (jb (fj (fv 1) (fj (fv 2) fC)) (nZ c)))) (jT (gD (fL (fX false) (fv 0) (cM (.int 4)))) (i6 (g9 (jb (fj (fv 1) (fj (fv 2) (fj (cM .non) fC))) (je c)))) (jT (gD (fL (fX false) (fv 0) (cM (.int 5)))) (i6 (g9 (jb (fj (fv 1) (fj (fv 2) (fj (cM .non) fC))) (kD c)))) (jT (gD (fL (fX false) (fv 0) (cM (.int 6)))) (i6 (g9 (jb (fj (fv 1) (fj (fv 2) fC)) (rk c)))) (jT (gD (fL (fX false) (fv 0) (cM (.int 7)))) (i6 (g9 (jb (fj (fv 1) (fj (fv 2) fC)) (jJ c)))) (jT (gD (fL Df (fv 0) (cM (.int 10)))) (i6 (g9 (jb (fj (fv 1) (fj (fL gS (iB (lstM (fj (fv 2) (fj (fv 3) fC)))) (fL pX (fv 0) (cM (.int 8)))) (fj (fL gS (iB (lstM (fj (fv 3) (fj (fv 2) fC)))) (fL pX (fv 0) (cM (.int 8)))) fC))) (kQ c)))) (jT (gD (fL Df (fv 0) (cM (.int 12)))) (i6 (g9 (jb (fj (fv 1) (fj (fL gS (iB (lstM (fj (fv 2) (fj (fv 3) fC)))) (fL pX (fv 0) (cM (.int 10)))) (fj (fL gS (iB (lstM (fj (fv 3) (fj (fv 2) fC)))) (fL pX (fv 0) (cM (.int 10)))) fC))) (j7 c)))) (i6 (g9 (jb (fj (fv 1) (fj (fL gS (iB (lstM (fj (fv 2) (fj (fv 3) fC)))) (fL pX (fv 0) (cM (.int 12)))) (fj (fL gS (iB (lstM (fj (fv 3) (fj (fv 2) fC)))) (fL pX (fv 0) (cM (.int 12)))) (fj (cM .non) fC)))) (kZ c))))))))))))))
def j9(c:Cs):List T->M T:=jw 4 4 (yM c)
def ze(c:Cs):En->O:=(fO (setO 4 (g9 (cM (.str "told"))))
  (Ar 7 (i6 (g9 (jb (fj (fv 0) (fj (fv 1) (fj (fv 2) (fj (fv 3) fC)))) (j9 c)))) (Jb c.NoSigns c.NoFace 4 "signs" "odd")
  (gN (fv 4))))
def jE(c:Cs):List T->M T:=jw 4 7 (ze c)
def xF(c:Cs):En->O:=(jT (gD (fL (fX true) (fM (fj (fv 6) (fj (fv 3) (fj (fv 5) (fj (fv 4) fC)))) (jE c)) (cM (.str "signs")))) (gN (cM (.bl false))) gG)
def xy(c:Cs):En->O:=(rY (ng (fj (cM (.int 14)) fC)) (jD 6) (xF c))
def yi(c:Cs):Pe->M T:=(fM (fj (fv 0) (fj (fv 1) (fj (fv 2) (fj (fv 2) fC)))) (jE c))
def IF(c:Cs):En->O:=(fO (Ik (fM (fj (fv 0) (fj (cM (.int 0)) (fj (cM (.int 6)) fC))) (kz c)) (lb 2 (gO (jD 1) (gO (jD 2) kX))))
  (fO (setO 3 (g9 (fM (fj (fv 1) (fj (fv 2) fC)) (jq c))))
  (fO (setO 4 (g9 (mC c.Cutting "sides" (fv 3) (fj (rW (iL (fj (iL (fj (cM (.int 1)) (fj (cM (.int 3)) fC))) fC)) (fv 1)) fC) (iC c))))
  (fO (mJ (ig (iB (jo (fj (lp lQ (fj (fv 2) fC)) (fj (fM (fj (fv 0) (fj (cM (.int 8)) fC)) (gZ c)) fC)) (jY c)))) (jD 5) (xy c))
  (gN (fL (fX false) (iB (kP [none,some 3,some 4] (ig (iB (lstM (fj (cM (.int 0)) (fj (cM (.int 1)) (fj (cM (.int 7)) (fj (cM (.int 8)) (fj (cM (.int 9)) (fj (cM (.int 10)) (fj (cM (.int 11)) fC)))))))))) (jV 0) (λ_=>.ok true) (yi c))) (iB (wM (iB (lstM (fj (cM (.str "told")) fC))) (cM (.int 7))))))))))
def sr(c:Cs):List T->M T:=jw 1 7 (IF c)
variable {c:Cs}
def qS ns (k:Nat):∃v,gZ c [.scr ns,.int k]=.ok (.int v)/\(v=0\/v∈ns):=by
 by_cases h:(k:Int)<ns.length
 .obtain⟨a,e,b⟩:=B2 ns k (by omega) h;exact⟨a,by simp[gZ,nC,h,e],.inr b⟩
 .exact⟨0,by simp[gZ,nC,h],.inl rfl⟩
def kh(h:i.natAbs<2 ^ 64):jh (.int i) (.int j)=.ok (.int (i*j)):=ik (tK h)
def Li cell (k:Nat) b (B:0<b) (F:b<2 ^ 62) (J:k<=1000000):∃d,f7 c [.int cell,.int (k:Int),.int b]=.ok (.int d)/\0<=d/\d<b:=by
 have f:b≠0:=by omega
 have A:∀x:Int,0<=x.fmod b/\x.fmod b<b:=λx=>⟨cI x B,cJ x B⟩;have l:t7 (.int 10) (.int 18)=.ok (.int 1000000000000000000):=by simp[t7,kC]
 by_cases h:(1000000000000000000:Int)<=cell
 .obtain⟨o,e,v,w,rfl⟩:=iH (m:=jD 4) (g:=setO 3 (g9 (fL pW (fv 3) (fv 2)))) (λ(i:Nat)=>T.int (i:Int)) (λ_ o=>∃v w,o=[some (.p (.int cell)),some (.p (.int k)),some (.p (.int b)),some (.p (.int v)),w,none])
   (List.range k) 0 [some (.p (.int cell)),some (.p (.int k)),some (.p (.int b)),some (.p (.int cell)),none,none] ⟨_,_,rfl⟩ (by rintro i a o K ⟨v,w,rfl⟩;have E:Builtin.divisionGoesByPylong v b=false:=Bn.noPy (n:=62) (by unfold Bn;omega) (by decide);exact⟨_,_,rfl,.inl (fP (by simp[m8 f E];rfl) rfl),_,_,rfl⟩)
  refine⟨v.fmod b,gh rfl ?_,A v⟩;have r:zu (k:Int)=true:=jI (by omega);refine j5 (fW (by simp[l,h]) (fF (fP (by simp) rfl) (fF (oM (by simp[r,FK]) e) (fS (by simp[rm f]))))) rfl
 .have s:∀x y:Int,0<y->0<=x.fmod y/\x.fmod y<y:=λx y z=>⟨cI x z,cJ x z⟩;have I:=s cell 1000000007 (by decide);have C:=s ((cell.fmod 1000000007+1009*k+17)*69621) 2147483647 (by decide);generalize u:((cell.fmod 1000000007+1009*k+17)*69621).fmod 2147483647=s1 at C;have D:=s (s1*s1+40503*k+5) 2147483629 (by decide);generalize q:(s1*s1+40503*k+5).fmod 2147483629=s2 at D;have H:Builtin.divisionGoesByPylong ((s2*48271).fmod 2147483647) 32=false:=Bn.noPy (n:=62) (by unfold Bn;decide) (by decide);refine⟨(((s2*48271).fmod 2147483647).fdiv 32).fmod b,gh rfl ?_,A _⟩;refine fF (fH (by simp[l,h]) rfl) (fF (fP (t:=.int s1) ?_ rfl) (fF (fP (t:=.int s2) ?_ rfl) (fS ?_)))
  .rw[<-u];simp[rm,kh (i:=1009) (j:=k) (by decide),kh (i:=cell.fmod 1000000007+1009*k+17) (j:=69621) (by omega)]
  .rw[<-q];simp[rm,kh (i:=40503) (j:=k) (by decide),kh (i:=s1) (j:=s1) (by omega)]
  .simp[rm,f,m8 (j:=32) (by decide) H,kh (i:=s2) (j:=48271) (by omega)]
def dr(c:Cs)(a k b:Int):Int:=match f7 c [.int a,.int k,.int b] with
 |.ok (.int d)=>d
 |_=>0
def kg cell k b (f:0<b) (a:b<2 ^ 62) (g:0<=k) (j:k<=1000000):f7 c [.int cell,.int k,.int b]=.ok (.int (dr c cell k b))/\0<=dr c cell k b/\dr c cell k b<b:=by
 obtain⟨d,e,i,h⟩:=Li cell k.toNat b f a (by omega);rw[cB g]at e;have:dr c cell k b=d:=by unfold dr;rw[e]
 rw[this];exact⟨e,i,h⟩
def JL(l:LI)(i:Int)(d:0<=i)(f:i<l.length):∃w,gS (.lst (l.map T.int)) (.int i)=.ok (.int w)/\w∈l:=by obtain⟨a,e,b⟩:=B2 l i d f;exact⟨a,by simp[uK,e],b⟩
def QL i:(if i<0 then -i else i)=(i.natAbs:Int):=by split<;>omega
def lI a b:gR c [.int a,.int b]=.ok (.int (Cu.G a b)):=by
 obtain⟨d,e,x,w,rfl,i⟩:=oF (c:=gD (fL (fX true) (fv 1) (cM (.int 0)))) (g:=fO (setO 2 (g9 (fL uQ (fv 0) (fv 1)))) (fO (setO 0 (g9 (fv 1))) (setO 1 (g9 (fv 2)))))
  (λd=>∃x y w,d=[some (.p (.int x)),some (.p (.int y)),w]/\Cu.G x y=Cu.G a b) (λd=>match d with|_::some (.p (.int j))::_=>j.natAbs|_=>0)
  (λd=>∃x w,d=[some (.p (.int x)),some (.p (.int 0)),w]/\Cu.G x 0=Cu.G a b) (by
   rintro d ⟨x,y,w,rfl,h⟩;by_cases f:y=0
   .subst f;exact .inl ⟨by simp,_,_,rfl,h⟩
   .refine .inr ⟨by simp[f],_,.inl (fF (fP (t:=.int (x.fmod y)) (by simp[rm f]) rfl) (fF (fP (by simp) rfl) (fP (by simp) rfl))),⟨y,x.fmod y,_,rfl,?_⟩,?_⟩
    .rw[<-h];exact Cu.BZ x y
    .exact Cu.Et x y f)
  (b.natAbs+1) [some (.p (.int a)),some (.p (.int b)),none] ⟨a,b,none,rfl,rfl⟩ (bF _)
 refine gh rfl (fF e (fS ?_));rw[Cu.Hb]at i;simp[QL,i]
def zr{t g:Int}(b:g ∣ t)(a:g≠0):(t.fdiv g).natAbs<=t.natAbs:=by obtain⟨k,rfl⟩:=b;rw[cO k a,aX];exact Nat.le_mul_of_pos_left _ (by omega)
noncomputable def OS:T->Bool
 |.scr _=>false
 |.obj _ _=>false
 |.dic _=>false
 |_=>true
noncomputable def isInt:T->Bool
 |.int _=>true
 |_=>false
def Ao x (h:OS x=true):gY c [x]=.ok (.bl (isInt x)):=by cases x<;>first|(simp[OS]at h;done)|rfl
def Ku x (h:OS x=true):MN "tuple" x=.ok (.bl (rZ x)):=by cases x<;>first|(simp[OS]at h;done)|rfl
noncomputable def qN(x:Int):Int:=if 0<x then 1 else if x<0 then -1 else 0
def El x:-1<=qN x/\qN x<=1:=by unfold qN;split<;>(try split)<;>lia
def qK x:kc c [.int x]=.ok (.int (qN x)):=by
 unfold qN;by_cases h:0<x
 .rw[aP h];exact gh rfl (j5 (fW (by simp[h]) (fS (by simp))) rfl)
 .rw[aQ h];by_cases a:x<0
  .rw[aP a];exact gh rfl (fF (fH (by simp[h]) rfl) (j5 (fW (by simp[a]) (fS (by simp))) rfl))
  .rw[aQ a];exact gh rfl (fF (fH (by simp[h]) rfl) (fF (fH (by simp[a]) rfl) (fS (by simp))))
def oB(bs:List Bool):xr [.lst (bs.map T.bl)]=.ok (.bl (bs.all id)):=by simp
def DK(bs:List Bool):Br [.lst (bs.map T.bl)]=.ok (.bl (bs.any id)):=by simp
noncomputable def qu(d:Nat):T->Bool
 |.tup ts=>decide (ts.length=d+1)&&ts.all isInt&&(match j4 ts with|some ns=>(ns.take d).any (· != 0)|none=>false)
 |_=>false
theorem AQ:∀ts,ts.all isInt=true->∃a:LI,ts=a.map T.int
 |[],_=>⟨[],rfl⟩
 |t::ts,h=>by
  rw[bR,bP]at h;obtain⟨a,e⟩:=AQ ts h.2;cases t with
  |int i=>exact⟨i::a,by rw[e];rfl⟩
  |_=>simp[isInt]at h
def Ex(d:Nat)(r:d<=10) x (k:OS x=true) (m:∀ts,x=.tup ts->ts.length<1000/\∀t∈ts,OS t=true):og c [.int d,x]=.ok (.bl (qu d x)):=by
 have sz:1000<sizeLine:=by decide
 by_cases e:rZ x=true
 .cases x with
  |tup ts=>
   obtain⟨q,l⟩:=m ts rfl;by_cases g:ts.length=d+1
   .have j:kP [none] (ig (fv 1)) (jV 0) (λ_=>.ok true) (sI c) (vw (gM 2 [.int d,.tup ts]))=.ok ((ts.map isInt).map T.bl):=by rw[uz ts id (λt=>T.bl (isInt t)) (by simp) (by lia) λt e=>⟨_,rfl,rfl,by simp[sI,Ao t (l t e)]⟩];simp
    have i:(L3.t9 (L3.lq (gD (tq "tuple" (fv 1)))) (gD (fL (fX true) (lp lQ (fj (fv 1) fC)) (fL iI (fv 0) (cM (.int 1)))))) (vw (gM 2 [.int d,.tup ts]))=.ok false:=by simp[g]
    by_cases f:ts.all isInt=true
    .obtain⟨b,rfl⟩:=AQ ts f;have h:b.length=d+1:=by simpa using g
     have a:qu d (.tup (b.map T.int))=(b.take d).any (· != 0):=by simp[qu,h,f]
     rw[a];have p:kP [none] (ig (mF (fv 1) (λ_=>.ok none) (jR (fv 0)))) (jV 0) (λ_=>.ok true) (sE c) (vw (gM 2 [.int d,.tup (b.map T.int)]))=.ok (((b.take d).map λn=>n != 0).map T.bl):=by rw[uz (b.take d) T.int (λn=>T.bl (n != 0)) (A5 (by rw[cT];exact wC rfl rfl (by simp;lia))) (by simp;lia) λn g=>⟨_,rfl,rfl,by simp[sE,bne]⟩];rw[aH];rfl
     refine gh rfl (fF (fH i rfl) (fF (fH (qO (fQ (oQ j (oB _))) ?_) rfl) (fS (oQ p ?_))))
     .rw[cv];simpa using f
     .rw[DK,cw];rfl
    .have a:qu d (.tup ts)=false:=by simp[qu,f]
     rw[a];refine gh rfl (fF (fH i rfl) (j5 (fW (qO (fQ (oQ j (oB _))) ?_) (fS rfl)) rfl));rw[cv];simpa using f
   .have a:qu d (.tup ts)=false:=by simp[qu,g]
    rw[a];refine gh rfl (j5 (fW ?_ (fS rfl)) rfl);have:¬(ts.length=(d:Int)+1):=by lia
    simp[this]
  |_=>simp[rZ]at e
 .have a:qu d x=false:=by cases x<;>first|rfl|(simp[rZ]at e;done)
  rw[a];refine gh rfl (j5 (fW ?_ (fS rfl)) rfl);have o:rZ x=false:=by simpa using e
  have:=Ku x k;rw[o]at this;simp only[L3.t9,L3.lq,gD,tq,fv,vw,gM,bE,b4,List.cons_append,bY,List.getElem?_cons_succ,List.getElem?_cons_zero,RV,M.bind_ok,this];rfl
def OM(l:List α)(h:l≠[]):qC l (-1)=l.getLast?:=by obtain⟨m,a,rfl⟩:∃m a,l=m++[a]:=⟨l.dropLast,l.getLast h,(de h).symm⟩;rw[L2.HB];simp
def Hm p (f:0<p.2) (e:Cu.G p.1 p.2=1):kH c [fr p]=.ok (.bl true):=by
 obtain⟨t,u⟩:=p;have a:qC [T.int t,T.int u] 1=some (.int u):=rfl;have b:qC [T.int t,T.int u] 0=some (.int t):=rfl;have w:∀i:Int,gY c [.int i]=.ok (.bl true):=λi=>rfl;refine gh rfl (fF (fH (by simp[fr]) rfl) (fF (fH (by simp[fr,b,a,w]) rfl) (fS ?_)));have d:1<=u:=by lia
 simp[fr,b,a,d,lI,e]
def BH(d:Nat)(h:1<=d/\d<=3):mK c [.int d]=.ok (.bl true):=by
 have w:gY c [.int d]=.ok (.bl true):=rfl;have b:(1:Int)<=d:=by lia
 have a:(d:Int)<=3:=by lia
 exact gh rfl (fS (by simp[w,b,a]))
def A2(n:Nat) r (d:r.length=n) (e:n<=100) (h:∀x∈r,-1<=x/\x<=1):i7 c [.int n,tI r]=.ok (.bl true):=by
 have sz:1000<sizeLine:=by decide
 have w:∀i:Int,gY c [.int i]=.ok (.bl true):=λi=>rfl;have b:kP [none] (ig (fv 1)) (jV 0) (λ_=>.ok true) (jx c) (vw (gM 2 [.int n,tI r]))=.ok ((r.map λ_=>true).map T.bl):=by rw[uz r T.int (λ_=>T.bl true) rfl (by lia) λx a=>⟨_,rfl,rfl,by simp[jx,w,(h x a).1,(h x a).2]⟩];simp
 refine gh rfl (fF (fH (by simp[tI,d]) rfl) (fS (oQ b ?_)));rw[oB];simp
def RD n:(List.replicate n [T.int 0]).flatten=(List.replicate n (0:Int)).map T.int:=by
 induction n with
 |zero=>rfl
 |succ n ih=>rw[bT,bU,ih,bT];rfl
def Mh(n:Nat)(d:n<=1000)(h:f ρ=.ok (.int (n:Int))):iB (wM (iB (lstM (fj (cM (.int 0)) fC))) f) ρ=.ok (.lst ((List.replicate n (0:Int)).map T.int)):=by
 have sz:1000<sizeLine:=by decide
 have hr:zu n=true:=jI (by lia);have b:1<=sizeLine:=by decide
 have a:n<=sizeLine:=by lia
 simp[h,hr,b,a,RD]
end CL
namespace L3
open PySem L2
theorem rg{i:Type} enc (P:En->Prop) p t:∀(l:List i) (ρ:En),P ρ->
  (∀a∈l,∀ρ,P ρ->∃d,m (enc a) ρ=some d/\(p a=true->∃c,g d=.nx c/\P c)/\(p a=false->g d=.rt t))->
  (l.all p=true->∃ρ',iO m g (l.map enc) ρ=.nx ρ'/\P ρ')/\(l.all p=false->iO m g (l.map enc) ρ=.rt t)
 |[],ρ,h,_=>⟨λ_=>⟨ρ,rfl,h⟩,λh=>by simp at h⟩
 |a::l,ρ,h,st=>by
  obtain⟨d,q,k,r⟩:=st a (by simp) ρ h;rw[bE,iO,q];dsimp only;cases e:p a with
  |true=>obtain⟨c,s,j⟩:=k e;rw[s];have f:=rg enc P p t l c j λb n ρ o=>st b (by simp[n]) ρ o;rw[bR,e,Bool.true_and];exact f
  |false=>rw[r e,bR,e,Bool.false_and];exact⟨λz=>(by cases z),λ_=>rfl⟩
end L3
namespace CL
open PySem L2 L3
variable {c:Cs}
def HU:Bn (n+1) 1:=by unfold Bn;rw[cX];have:=df n;lia
def Aq ns:j4 (ns.map T.int)=some ns:=by simp
def Ol(a:LI):IC [.lst (a.map T.int)]=.ok (.int a.sum):=by simp
end CL
namespace L3
open PySem L2
theorem se{j:Type} enc (P:Nat->En->Prop) (R:T->Prop):∀(l:List j) (k:Nat) (ρ:En),P k ρ->
  (∀i a ρ,l[i]? = some a->P (k+i) ρ->∃d,m (enc a) ρ=some d/\((∃c,g d=.nx c/\P (k+i+1) c)\/∃t,g d=.rt t/\R t))->
  (∃ρ',iO m g (l.map enc) ρ=.nx ρ'/\P (k+l.length) ρ')\/∃t,iO m g (l.map enc) ρ=.rt t/\R t
 |[],k,ρ,h,_=>.inl ⟨ρ,rfl,h⟩
 |a::l,k,ρ,h,st=>by
  obtain⟨d,q,n⟩:=st 0 a ρ rfl h;rw[bE,iO,q];dsimp only;rcases n with⟨c,f,e⟩|⟨t,f,e⟩
  .rw[f];rw[ay,show k+(l.length+1)=k+1+l.length by lia];exact se enc P R l (k+1) c e λi b ρ o p=>by have:=st (i+1) b ρ (by simpa using o) (by rw[show k+(i+1)=k+1+i by lia];exact p);rw[show k+1+i+1=k+(i+1)+1 by lia];exact this
  .rw[f];exact .inr ⟨t,rfl,e⟩
end L3
namespace CL
open PySem L2 L3
variable {c:Cs}
def Hy(l:List α)(k:Nat) h:qC l (k:Int)=some l[k]:=by unfold qC wU;rw[aP (by lia),aP (by lia)];simp[h]
def KC(l:LI) k (h:k<l.length):qC l (k:Int)=some (l.getD k 0):=by rw[Hy l k h,af,ag h];rfl
def getD_mem(l:LI) k (h:k<l.length):l.getD k 0∈l:=by rw[af,ag h];exact aU h
def jA l (k:Nat) (h:k<l.length):gS (tI l) (.int (k:Int))=.ok (.int (l.getD k 0)):=by simp[tI,uK,KC l k h]
def LY x xs:gS (.lst (x::xs)) (.int 0)=.ok x:=by have h:=Hy (x::xs) 0 (by simp);have a:qC (x::xs) 0=some x:=h;show (match qC (x::xs) 0 with|some t=>M.ok t|none=>.bad)=_;rw[a]
def Jh n (x:T):(List.replicate n [x]).flatten=List.replicate n x:=by
 induction n with
 |zero=>rfl
 |succ n ih=>rw[bT,bU,ih,bT];rfl
def Nu(n:Nat)(d:n<=1000) x (h:f ρ=.ok (.int (n:Int))):iB (wM (iB (lstM (fj (cM x) fC))) f) ρ=.ok (.lst (List.replicate n x)):=by
 have sz:1000<sizeLine:=by decide
 have hr:zu n=true:=jI (by lia);have b:1<=sizeLine:=by decide
 have a:n<=sizeLine:=by lia
 simp[h,hr,b,a,Jh]
end CL
namespace CL
abbrev Vc:=Nat->Int
inductive Qs(P:Vc->Prop):Vc->Prop
 |of {x:Vc}:P x->Qs P x
 |zero:Qs P λ_=>0
 |lin {x y z:Vc} {s a b:Int}:Qs P x->Qs P y->s≠0->(∀i,s*z i=a*x i+b*y i)->Qs P z
def Qs.sub(h:∀x,P x->Qs P' x)(q:Qs P z):Qs P' z:=by
 induction q with
 |of p=>exact h _ p
 |zero=>exact .zero
 |lin _ _ s e i1 i2=>exact .lin i1 i2 s e
def Qs.mono(h:∀x,P x->P' x)(q:Qs P z):Qs P' z:=q.sub λx p=>.of (h x p)
def Qs.comb a b (c:Qs P x) (d:Qs P y):Qs P λi=>a*x i+b*y i:=.lin (s:=1) c d (by decide) λi=>by rw[dg]
end CL
namespace CL
open PySem L2 L3
variable {c:Cs}
noncomputable def vc(l:LI):Vc:=λi=>l.getD i 0
def wd l i (h:l.length<=i):vc l i=0:=by unfold vc;rw[af,List.getElem?_eq_none h];rfl
def rH l i h:vc l i=l[i]:=by unfold vc;rw[af,ag h];rfl
def J5(a:List (Nat×LI)):Vc->Prop:=λx=>∃p∈a,x=vc p.2
def VP(vs:LL):Vc->Prop:=λx=>∃v∈vs,x=vc v
def iZ{a:Type}(l:List a) k v (h:l[k]? = some v):l.take (k+1)=l.take k++[v]:=by rw[List.take_succ,h];rfl
def tF(h:f ρ=.ok (.int i)):uL (λi=>.int (-i)) f ρ=.ok (.int (-i)):=by simp only[uL,h,M.bind_ok]
def zG:Bn n 0:=by unfold Bn;exact df _
def FA N (F:N<=8000) row (H:row.length<1000) (o:∀x∈row,Bn N x):∃g n,0<g/\pF c [tI row]=.ok (tI n)/\n.length=row.length/\(∀i,vc row i=g*vc n i)/\∀y∈n,Bn N y:=by
 have sz:1000<sizeLine:=by decide
 have main:=se (m:=jD 2) (g:=ye c) T.int
  (λk v=>∃(a:Int) (r:Option W),v=[some (.p (tI row)),some (.p (.int a)),r]/\0<=a/\Bn N a/\∀x∈row.take k,a ∣ x)
  (λt=>t=tI row) row 0 _ ⟨0,none,rfl,by decide,zG,λx j=>by simp at j⟩ (by
   rintro i x v d ⟨a,r,rfl,E,s,b⟩;rw[aF]at b ⊢;have u:=au d;refine⟨_,rfl,?_⟩;have w:setO 1 (g9 (fM (fj (fv 1) (fj (fv 2) fC)) (gR c))) [some (.p (tI row)),some (.p (.int a)),some (.p (.int x))]=.nx [some (.p (tI row)),some (.p (.int (Cu.G a x))),some (.p (.int x))]:=fP (hW rfl rfl (lI a x)) rfl;by_cases h:Cu.G a x=1
   .right;exact⟨_,fF w (fW (fQ (fE rfl rfl (by rw[ib,h];rfl))) (fS rfl)),rfl⟩
   .left;refine⟨_,fF w (fH (fQ (fE rfl rfl (by rw[ib];simp[h]))) rfl),_,_,rfl,Cu.uP _ _,?_,λz A=>?_⟩
    .by_cases f:x=0
     .rw[f,Cu.Hb];exact b5 (by lia) s
     .have I:=Cu.QT a x f;have J:=Cu.uP a x;exact b5 (by lia) (o x u)
    .rw[iZ row i x d]at A;rcases ai.mp A with q|q
     .exact Int.dvd_trans (Cu.oK a x) (b z q)
     .rw[aj.mp q];exact Cu.ml a x)
 rcases main with⟨C,e,a,r,rfl,E,s,b⟩|⟨t,e,rfl⟩
 .rw[aF,dh]at b;by_cases l:a=0
  .exact⟨1,row,by decide,gh rfl (fF (fP rfl rfl) (fF (iW rfl e) (j5 (fW (fQ (fE rfl rfl (by rw[ib,l];rfl))) (fS rfl)) rfl))),rfl,λi=>by rw[dg],o⟩
  .refine⟨a,row.map (λx=>x.fdiv a),by lia,gh rfl (fF (fP rfl rfl) (fF (iW rfl e) (fF (fH (fQ (fE rfl rfl (by rw[ib];simp[l]))) rfl) (fS ?_)))),by simp,λi=>?_,λy B=>?_⟩
   .exact oX (iE (kr row T.int (λx=>T.int (x.fdiv a)) rfl (by lia) (λx j=>⟨_,rfl,rfl,fE rfl rfl (m8 l (s.noPy F))⟩) (by rw[aH];rfl))) rfl
   .by_cases d:i<row.length
    .rw[rH row i d,rH _ i (by simpa using d),List.getElem_map];obtain⟨q,D⟩:=b _ (aU d);rw[D,cO q l]
    .rw[wd row i (by lia),wd _ i (by simp;lia),dk]
   .obtain⟨x,j,rfl⟩:=aC.mp B;exact b5 (zr (b x j) l) (o x j)
 .exact⟨1,row,by decide,gh rfl (fF (fP rfl rfl) (j5 (iW rfl e) rfl)),rfl,λi=>by rw[dg],o⟩
def qM{g x:Int}(a:g≠0)(h:g*x=0):x=0:=by
 rcases dm.mp h with z|z
 .exact absurd z a
 .exact z
def Kl o:qN o*o=(o.natAbs:Int):=by
 unfold qN;split
 .rw[dg];lia
 .split
  .rw[du,dg];lia
  .rw[dw];lia
def ke(p:Nat×LI):T:=.tup [.int (p.1:Int),tI p.2]
noncomputable def sm:Nat->(Nat->Int)->Int
 |0,_=>0
 |n+1,f=>f 0+sm n λi=>f (i+1)
theorem ka:∀n f g,(∀i,i<n->f i=g i)->sm n f=sm n g
 |0,_,_,_=>rfl
 |n+1,f,g,h=>by rw[sm,sm,h 0 (by lia),ka n _ _ λi a=>h (i+1) (by lia)]
theorem zF a b:∀n f g,sm n (λi=>a*f i+b*g i)=a*sm n f+b*sm n g
 |0,_,_=>by simp[sm]
 |n+1,f,g=>by rw[sm,sm,sm,zF a b n (λi=>f (i+1)) λi=>g (i+1),dy,dy];lia
theorem vh a:∀n f,sm n (λi=>a*f i)=a*sm n f
 |0,_=>by simp[sm]
 |n+1,f=>by rw[sm,sm,vh a n λi=>f (i+1),dy]
theorem uF:∀n:Nat,sm n (λ_=>0)=0
 |0=>rfl
 |n+1=>by rw[sm,uF n];rfl
theorem yJ:∀(n k:Nat) (f:Nat->Int),k<n->sm n (λi=>(if i=k then 1 else 0)*f i)=f k
 |0,k,f,h=>absurd h (cU _)
 |n+1,0,f,h=>by rw[sm,aP rfl,dg,ka n _ (λ_=>0) (λi _=>by rw[aQ (by lia),dw]),uF,dz]
 |n+1,k+1,f,h=>by rw[sm,aQ (by lia),dw,Int.zero_add,ka n _ (λi=>(if i=k then 1 else 0)*f (i+1)) (λi _=>by simp),yJ n k (λi=>f (i+1)) (by lia)]
def Qs.at0(h:∀x,P x->x k=0)(q:Qs P z):z k=0:=by
 induction q with
 |of p=>exact h _ p
 |zero=>rfl
 |lin _ _ hs e i1 i2=>exact qM hs (by rw[e k,i1,i2,dk,dk];rfl)
theorem pL:∀(m:Nat) (l:List Nat),l.Nodup->(∀x∈l,x<m)->l.length<=m
 |0,[],_,_=>aJ _
 |0,x::l,_,h=>absurd (h x (bh ..)) (cU _)
 |m+1,l,hn,h=>by
  have b:=pL m (l.erase m) (hn.erase m) λx d=>by have q:=(hn.mem_erase_iff).mp d;have:=h x q.2;have:=q.1;lia
  by_cases a:m∈l
  .rw[dA a]at b;lia
  .rw[List.erase_of_not_mem a]at b;lia
def DI(e:fa ρ=.ok (.lst a))(d:fb ρ=.ok (.lst b))(f:a.length+b.length<=sizeLine):vZ fa fb ρ=.ok (a++b):=by simp only[vZ,e,d,M.bind_ok];rw[aP f]
def JE(h:f ρ=.ok a):iB (lstM (fj f fC)) ρ=.ok (.lst [a]):=by
 have b:1<=sizeLine:=by decide
 simp only[iB,lstM,fj,fC,h,M.bind_ok,AH,ay,cA,b,if_true]
def RL(h:f ρ=.ok a):iL (fj f fC) ρ=.ok (.tup [a]):=by
 have b:1<=sizeLine:=by decide
 simp only[iL,fj,fC,h,M.bind_ok,AH,ay,cA,b,if_true]
def nE(h:f ρ=.ok a)(d:g ρ=.ok b):iL (fj f (fj g fC)) ρ=.ok (.tup [a,b]):=by
 have e:2<=sizeLine:=by decide
 simp only[iL,fj,fC,h,d,M.bind_ok,AH,ay,cA,e,if_true]
def IB(h:iB f ρ=.ok (.lst ts)):f ρ=.ok ts:=by
 unfold iB at h;cases d:f ρ with
 |ok us=>rw[d]at h;cases h;rfl
 |bad=>rw[d]at h;cases h
 |er a b=>rw[d]at h;cases h
def uy a b (h:a.length+b.length<=sizeLine):iI (.tup a) (.tup b)=.ok (.tup (a++b)):=by unfold iI;exact aP h
def OF a b (h:a.length+b.length<=1000):iI (tI a) (tI b)=.ok (tI (a++b)):=by
 have sz:1000<sizeLine:=by decide
 unfold tI;rw[uy _ _ (by simp;lia),aY]
def qG(pv:List (Nat×LI)) left (a:Nat) (f:Nat×LI->LI) (g:pv.length<=100) (d:∀p∈pv,iu c [tI p.2,tI left,.int (a:Int)]=.ok (tI (f p))) :
  jB c [.lst (pv.map ke),tI left,.int (a:Int)]=.ok ((pv.map (λp=>(p.1,f p))++[(a,left)]).map ke):=by
 have sz:1000<sizeLine:=by decide
 have e:kP [none,none,some 1,some 2] (ig (fv 0)) (oV 2 (iM (jV 0) (iM (jV 1) oY))) (λ_=>.ok true) (qD c) (vw (gM 3 [.lst (pv.map ke),tI left,.int a]))=.ok ((pv.map (λp=>(p.1,f p))).map ke):=kr pv ke (λp=>ke (p.1,f p)) rfl (by lia) (λp b=>⟨_,rfl,rfl,nE rfl (kW rfl rfl rfl (d p b))⟩) (by rw[aH];rfl)
 refine nJ rfl (rz ?_);rw[aY];exact DI (iE e) (JE (nE rfl rfl)) (by simp;lia)
def nX{d e:Type}[Inhabited e]{P:d->e->Prop}(l:List d)(h:∀a∈l,∃b,P a b):∃f:d->e,∀a∈l,P a (f a):=⟨λa=>Classical.epsilon λb=>P a b,λa g=>Classical.epsilon_spec (h a g)⟩
def AL(a:LL)(z:a.length<=8)(s:∀r∈a,r.length<=100):mQ c [.lst (a.map tI)]=.ok ((a.zipIdx.map λp=>p.1++(List.replicate a.length (0:Int)).set p.2 1).map tI):=by
 have sz:1000<sizeLine:=by decide
 obtain⟨d,e,h,l,f,rfl⟩:=iH (m:=lb 2 (gO (jD 2) (gO (jD 3) kX))) (g:=tY c) (λ(p:LI×Nat)=>T.tup [.int (p.2:Int),tI p.1])
  (λk d=>∃h l f:Option W,d=[some (.p (.lst (a.map tI))),some (.o (((a.zipIdx.take k).map λp=>p.1++(List.replicate a.length (0:Int)).set p.2 1).map tI)),h,l,f])
  a.zipIdx 0 _ ⟨none,none,none,rfl⟩ (by
   rintro i ⟨r,k⟩ d n ⟨h,l,f,rfl⟩;rw[aF];have b:=au n;have j:=List.mem_zipIdx b;have u:k<a.length:=by lia
   have w:=s r (by rw[j.2.2];exact aU _);have v:i<a.length:=by have:=(aa.mp n).1;simpa using this
   have q:wU ((List.replicate a.length (0:Int)).map T.int).length (k:Int)=some k:=by unfold wU;rw[aP (by lia),aP (by rw[aw,bM];lia)];simp
   refine⟨_,_,rfl,.inl (fF (lD (IB (Mh a.length (by lia) (oX rfl (by simp)))) rfl) (fF (zc (m:=k) rfl rfl rfl rfl q rfl) (Kh (t:=tI (r++(List.replicate a.length (0:Int)).set k 1)) rfl ?_ (by simp) (by simp;lia) rfl))),some (.p (.int (k:Int))),some (.p (tI r)),some (.o (((List.replicate a.length (0:Int)).map T.int).set k (.int 1))),?_⟩
   .refine fE (x:=tI r) (y:=tI ((List.replicate a.length (0:Int)).set k 1)) rfl (oX (t:=.lst (((List.replicate a.length (0:Int)).set k 1).map T.int)) ?_ rfl) (OF _ _ (by simp;lia));show (M.ok (T.lst (((List.replicate a.length (0:Int)).map T.int).set k (.int 1))))=_;rw[<-dB]
   .rw[iZ _ i (r,k) n,aY,aY];rfl)
 rw[aF,dh]at e;refine nJ rfl (fF (lD (ts:=[]) (by simp) rfl) (fF (iW ?_ e) rfl));rw[<-ym];rfl
def GL(d B:Nat)(a:LI):Prop:=a.length=d+1/\∀x∈a,Bn B x
structure GC(d B:Nat)(ns:LI):Prop where
 gl:GL d B ns
 re:∃p,p<d/\vc ns p≠0
def MX ns k v i (a:k<ns.length):vc (ns.set k v) i=if k=i then v else vc ns i:=by
 unfold vc;rw[af,List.getElem?_set];by_cases h:k=i
 .subst h;rw[aP rfl,aP rfl,aP a];rfl
 .rw[aQ h,aQ h,<-af]
def LC n k (h:k<n):wU n (k:Int)=some k:=by unfold wU;rw[aP (by lia),aP (by lia)];simp
def vM(n:Nat)(h:n<=1000)(a:f ρ=.ok (.int (n:Int))):ng (fj f fC) ρ=.ok ((List.range n).map λ(i:Nat)=>T.int (i:Int)):=by have hr:zu n=true:=jI (by lia);rw[<-FK];simp[a,hr]
noncomputable def lC(a b:LI):Bool:=(List.range a.length).all λk=>(List.range k).all λj=>vc a k*vc b j==vc a j*vc b k
def Ax n B a b (u:a.length=n) (N:b.length=n) (P:n<=10) (L:B<=1000) (v:∀x∈a,Bn B x) (s:∀x∈b,Bn B x):kS c [tI a,tI b]=.ok (.bl (lC a b)):=by
 have sz:1000<sizeLine:=by decide
 have i:=rg (m:=jD 2) (λ(k:Nat)=>T.int (k:Int)) (λρ=>∃q d,ρ=[some (.p (tI a)),some (.p (tI b)),q,d]) (λk=>(List.range k).all λj=>vc a k*vc b j==vc a j*vc b k) (.bl false) (List.range n) [some (.p (tI a)),some (.p (tI b)),none,none] ⟨none,none,rfl⟩ (by
  rintro k D ρ ⟨q,d,rfl⟩;have F:=aR.mp D;refine⟨_,rfl,?_⟩;have l:=rg (m:=jD 3) (g:=tW c) (λ(j:Nat)=>T.int (j:Int)) (λρ=>∃d,ρ=[some (.p (tI a)),some (.p (tI b)),some (.p (.int (k:Int))),d]) (λj=>vc a k*vc b j==vc a j*vc b k) (.bl false) (List.range k) [some (.p (tI a)),some (.p (tI b)),some (.p (.int (k:Int))),d] ⟨d,rfl⟩ (by
   rintro j K ρ ⟨d,rfl⟩;have J:=aR.mp K;have I:=jA a k (by lia);have C:=jA b j (by lia);have A:=jA a j (by lia);have y:=jA b k (by lia);have H:=ik ((v _ (getD_mem a k (by lia))).ok (s _ (getD_mem b j (by lia))) (by lia) (by lia));have E:=ik ((v _ (getD_mem a j (by lia))).ok (s _ (getD_mem b k (by lia))) (by lia) (by lia));have r:gD (fL (fX true) (fL jh (fL gS (fv 0) (fv 2)) (fL gS (fv 1) (fv 3))) (fL jh (fL gS (fv 0) (fv 3)) (fL gS (fv 1) (fv 2)))) (vw [some (.p (tI a)),some (.p (tI b)),some (.p (.int (k:Int))),some (.p (.int (j:Int)))])=.ok (!(vc a k*vc b j==vc a j*vc b k)):=fQ (fE (fE (fE rfl rfl I) (fE rfl rfl C) H) (fE (fE rfl rfl A) (fE rfl rfl y) E) (lL _ _))
   refine⟨_,rfl,λh=>⟨_,fH (r.trans (by rw[h];rfl)) rfl,_,rfl⟩,λh=>fW (r.trans (by rw[h];rfl)) (fS rfl)⟩)
  have hr:=vM (f:=fv 2) (ρ:=vw [some (.p (tI a)),some (.p (tI b)),some (.p (.int (k:Int))),d]) k (by lia) rfl;refine⟨λh=>?_,λh=>oM hr (l.2 h)⟩;obtain⟨o,e,z,rfl⟩:=l.1 h;exact⟨_,oM hr e,_,_,rfl⟩)
 have hr:=vM (f:=lp lQ (fj (fv 0) fC)) (ρ:=vw (gM 4 [tI a,tI b])) n (by lia) (oX (t:=tI a) rfl (by simp[tI,u]));have w:lC a b=((List.range n).all λk=>(List.range k).all λj=>vc a k*vc b j==vc a j*vc b k):=by unfold lC;rw[u]
 cases h:lC a b with
 |true=>obtain⟨o,e,q,d,rfl⟩:=i.1 (by rw[<-w];exact h);exact gh rfl (fF (oM hr e) (fS rfl))
 |false=>exact gh rfl (j5 (oM hr (i.2 (by rw[<-w];exact h))) rfl)
def vY a (o:a.length<=100) (h:∃p,p<a.length/\vc a p≠0):∃p:Nat,kL c [tI a]=.ok (.int (p:Int))/\p<a.length/\vc a p≠0:=by
 obtain⟨q,r,f⟩:=h;obtain⟨b,e,p,rfl,i,l⟩:=oF (c:=gD (fL (fX false) (fL gS (fv 0) (fv 1)) (cM (.int 0)))) (g:=pE c)
  (λb=>∃k:Nat,b=[some (.p (tI a)),some (.p (.int (k:Int)))]/\k<=q) (λb=>match b with|_::some (.p (.int j))::_=>q-j.toNat|_=>0)
  (λb=>∃k:Nat,b=[some (.p (tI a)),some (.p (.int (k:Int)))]/\k<a.length/\vc a k≠0) (by
   rintro b ⟨k,rfl,hk⟩;have m:gS (tI a) (.int (k:Int))=.ok (.int (vc a k)):=jA a k (by lia);by_cases d:vc a k=0
   .have n:k≠q:=λz=>f (by rw[<-z];exact d);refine .inr ⟨fQ (fE (fE rfl rfl m) rfl (by rw[ib,d];rfl)),_,.inl (fP (fE rfl rfl (by rw[iR];simp)) rfl),⟨k+1,rfl,by lia⟩,?_⟩;show q-(((k+1:Nat):Int)).toNat<q-((k:Int)).toNat;lia
   .exact .inl ⟨fQ (fE (fE rfl rfl m) rfl (by rw[ib];simp[d])),k,rfl,by lia,d⟩)
  ((a.map T.int).length+1) [some (.p (tI a)),some (.p (.int ((0:Nat):Int)))] ⟨0,rfl,by lia⟩ (by rw[aw];lia)
 exact⟨p,gh rfl (fF (fP rfl rfl) (fF e (fS rfl))),i,l⟩
def xo d B a b (R:d<=3) (P:B<=1000) (f:GC d B a) (m:GL d B b) (h:lC a b=false):lK c [tI a,tI b]=.ok (.bl false):=by
 have sz:1000<sizeLine:=by decide
 have E:=f.gl.1;have K:=m.1;obtain⟨q,Q,l⟩:=f.re;obtain⟨p,A,u,g⟩:=vY a (by lia) ⟨q,by lia,l⟩;have F:=jA b p (by lia);have w:=jA a p u;have H:kP [none,none,some 1,some 2,some 0] (nc (fj (fv 0) (fj (fv 1) fC))) (oV 2 (iM (jV 0) (iM (jV 1) oY))) (λ_=>.ok true) (qB c) (vw [some (.p (tI a)),some (.p (tI b)),some (.p (.int p))])=.ok (((a.zip b).map λx=>x.1*vc b p==x.2*vc a p).map T.bl):=kr (a.zip b) (λx=>T.tup [.int x.1,.int x.2]) (λx=>T.bl (x.1*vc b p==x.2*vc a p)) (pP rfl rfl rfl rfl) (by rw[dC];lia) (λx r=>⟨_,rfl,rfl,by have y:=f.gl.2 _ (aV r).1;have J:=m.2 _ (aV r).2;have z:=m.2 _ (getD_mem b p (by lia));have L:=f.gl.2 _ (getD_mem a p u);exact fE (fE rfl (fE rfl rfl F) (ik (y.ok z (by lia) (by lia)))) (fE rfl (fE rfl rfl w) (ik (J.ok L (by lia) (by lia)))) (ib _ _)⟩) (by rw[aH];rfl)
 refine gh rfl (fF (fP (qF rfl A) rfl) (fS (oQ H ?_)));rw[oB];congr 2;cases o:((a.zip b).map λx=>x.1*vc b p==x.2*vc a p).all id with
 |false=>rfl
 |true=>
  exfalso;rw[cy]at o;have e:=C4.par_of_place g λi s=>by
   have N:(a.zip b)[i]? = some (a[i],b[i]'(by lia)):=by rw[List.getElem?_zip_eq_some];exact⟨ag s,ag (by lia)⟩
   have:=o _ (aC.mpr ⟨_,au N,rfl⟩);have D:a[i]*vc b p=(b[i]'(by lia))*vc a p:=by simpa using this
   show vc a i*vc b p=vc b i*vc a p;rw[rH a i s,rH b i (by lia)];exact D
  have:lC a b=true:=by unfold lC;refine cy.mpr λk C=>cy.mpr λj I=>?_;have n:=aR.mp C;have v:=aR.mp I;have:=e k j n (by lia);simpa[vc] using this
  rw[h]at this;cases this
structure Jp(d B:Nat)(cs:LL):Prop where
 gc:∀f∈cs,GC d B f
 few:cs.length<=7
 pw:cs.Pairwise λa b=>lC a b=false
def He(h:GC d B ns):qu d (tI ns)=true:=by
 obtain⟨p,b,a⟩:=h.re;have j:=h.gl.1;unfold tI qu;have g:(ns.map T.int).length=d+1:=by simp[j]
 have f:(ns.map T.int).all isInt=true:=cy.mpr λx e=>by obtain⟨y,-,rfl⟩:=aC.mp e;rfl
 show (decide ((ns.map T.int).length=d+1)&&(ns.map T.int).all isInt&&(match j4 (ns.map T.int) with|some ns=>(ns.take d).any (· != 0)|none=>false))=true;rw[aB g,f,Aq];refine List.any_eq_true.mpr ⟨vc ns p,?_,by simpa using a⟩;rw[rH ns p (by lia)];refine au (i:=p) ?_;rw[List.getElem?_take,aP b,ag (by lia)]
def yB d B (b:LL) ns (n:1<=d/\d<=3) (j:B<=1000) (v:b.length<7) (q:∀f∈b,GC d B f) (g:GC d B ns) (r:∀f∈b,lC f ns=false):k9 c [.int d,.lst (b.map tI),tI ns]=.ok (.bl true):=by
 have sz:1000<sizeLine:=by decide
 have i:=Ex (c:=c) d (by lia) (tI ns) rfl λw e=>by cases e;refine⟨by rw[aw,g.gl.1];lia,λt p=>by obtain⟨y,-,rfl⟩:=aC.mp p;rfl⟩
 rw[He g]at i;have s:kP [none,some 2] (ig (fv 1)) (jV 0) (λ_=>.ok true) (oA c) (vw (gM 3 [.int d,.lst (b.map tI),tI ns]))=.ok ((b.map λ_=>false).map T.bl):=kr b tI (λ_=>T.bl false) rfl (by lia) (λf h=>⟨_,rfl,rfl,hW rfl rfl (xo d B f ns n.2 j (q f h) g.gl (r f h))⟩) (by rw[aH];rfl)
 have k:gD (fL J0 (lp lQ (fj (fv 1) fC)) (cM (.int 7))) (vw (gM 3 [.int d,.lst (b.map tI),tI ns]))=.ok false:=fQ (fE (x:=.int (b.length:Int)) (oX (t:=.lst (b.map tI)) rfl (by simp)) rfl (by rw[rB];congr 2;exact aA (by lia)))
 have m:gD (fM (fj (fv 0) (fj (fv 2) fC)) (og c)) (vw (gM 3 [.int d,.lst (b.map tI),tI ns]))=.ok true:=fQ (hW rfl rfl i);refine gh rfl (fF (fH ?_ rfl) (fS ?_))
 .simp only[L3.t9,L3.lq,k,m,M.bind_ok];rfl
 .have o:lp Br (fj (iB (kP [none,some 2] (ig (fv 1)) (jV 0) (λ_=>.ok true) (oA c))) fC) (vw (gM 3 [.int d,.lst (b.map tI),tI ns]))=.ok (.bl false):=by
   refine oQ s ?_;rw[DK];congr 2;induction b with
   |nil=>rfl
   |cons a l ih=>simp
  have u:=fQ o;simp only[FQ,u,M.bind_ok];rfl
def BG d B cs (s:1<=d/\d<=3) (v:B<=1000) (h:Jp d B cs):ju c [.int d,.lst (cs.map tI)]=.ok (.tup (cs.map tI)):=by
 have sz:1000<sizeLine:=by decide
 have j:=h.few;obtain⟨l,e,r,rfl⟩:=iH (m:=jD 3) (g:=oP c) tI
  (λk l=>∃r:Option W,l=[some (.p (.int d)),some (.p (.lst (cs.map tI))),some (.o ((cs.take k).map tI)),r])
  cs 0 _ ⟨none,rfl⟩ (by
   rintro k a l b ⟨r,rfl⟩;rw[aF];have x:=(aa.mp b).1;have n:=yB (c:=c) d B (cs.take k) a s v (by rw[bL];lia) (λf j=>h.gc f (dD j)) (h.gc a (au b)) λf j=>by have u:=h.pw;rw[<-List.take_append_drop k cs,dE]at u;refine u.2.2 f j a ?_;refine au (i:=0) ?_;rw[List.getElem?_drop,Nat.add_zero];exact b
   have q:gD (fM (fj (fv 0) (fj (fv 2) (fj (fv 3) fC))) (k9 c)) (vw [some (.p (.int d)),some (.p (.lst (cs.map tI))),some (.o ((cs.take k).map tI)),some (.p (tI a))])=.ok true:=fQ (kW (y:=.lst ((cs.take k).map tI)) (z:=tI a) rfl rfl rfl n);refine⟨_,_,rfl,.inl (fF (fH (qO q rfl) rfl) (tz (us:=(cs.take k).map tI) (t:=tI a) rfl (oX (t:=tI a) rfl rfl) (by rw[aw,bL];lia) rfl)),some (.p (tI a)),?_⟩;rw[iZ cs k a b,aY];rfl)
 rw[aF,dh]at e;have w:gD (fM (fj (fv 0) fC) (mK c)) (vw (gM 4 [.int d,.lst (cs.map tI)]))=.ok true:=fQ (qF rfl (BH d s));have A:gD (tq "list" (fv 1)) (vw (gM 4 [.int d,.lst (cs.map tI)]))=.ok true:=rfl;refine gh rfl (fF (fH ?_ rfl) (fF (lD (ts:=[]) (by simp) rfl) (fF (iW rfl e) (fS rfl))));simp only[L3.t9,L3.lq,w,A,M.bind_ok];rfl
noncomputable def hU(c:Cs)(d:Nat)(cs:LL):T:=.obj c.Cutting [("own_cuts",.tup (cs.map tI)),("own_dims",.int d)]
def KD d B cs (a:1<=d/\d<=3) (b:B<=1000) (h:Jp d B cs):jq c [.int d,.lst (cs.map tI)]=.ok (hU c d cs):=by have e:=BG (c:=c) d B cs a b h;have q:fM (fj (fv 1) (fj (fv 2) fC)) (ju c) (none::[T.int d,.lst (cs.map tI)].map some)=.ok (.tup (cs.map tI)):=hW rfl rfl e;unfold jq xE;rw[aP (show [T.int d,T.lst (cs.map tI)].length=2 from rfl),q];rfl
def v9(h:f ρ=.ok (.obj C fs))(a:fs.lookup x=some t):xv C x f ρ=.ok t:=by unfold xv;rw[h,M.bind_ok];show (if C=C then (match fs.lookup x with|some t=>M.ok t|none=>.bad) else .bad)=_;rw[aP rfl,a]
def yD(d:Nat)(cs:LL){f:Pe->M T}{ρ:Pe}(a:f ρ=.ok (hU c d cs)):mC c.Cutting "dims" f fC (iy c) ρ=.ok (.int d):=by
 have e:oU c.Cutting "dims" (hU c d cs)=.ok ():=by unfold oU hU;exact aP ⟨rfl,rfl⟩
 have b:iy c [hU c d cs]=.ok (.int d):=gh rfl (fS (v9 rfl rfl));simp only[mC,a,M.bind_ok,e,fC,b,M.noEr_ok]
def C7 d cs (a:f ρ=.ok (hU c d cs)):qR c.Cutting "cuts" f fC (iz c) ρ=.ok (cs.map tI):=by
 have e:oU c.Cutting "cuts" (hU c d cs)=.ok ():=by unfold oU hU;exact aP ⟨rfl,rfl⟩
 have b:iz c [hU c d cs]=.ok (cs.map tI):=nJ rfl (rz (by have:xv c.Cutting "own_cuts" (fv 0) (vw (gM 1 [hU c d cs]))=.ok (.tup (cs.map tI)):=v9 rfl rfl;simp only[BE,fj,fC,this,M.bind_ok];rfl))
 simp only[qR,a,M.bind_ok,e,fC,b,M.noEr_ok]
end CL
namespace CL
noncomputable def iX(m:Nat)(A u:Vc):Int:=sm m λi=>A i*u i
def oC(h:∀i,s*z i=a*x i+b*y i):s*iX m A z=a*iX m A x+b*iX m A y:=by
 unfold iX;rw[<-vh,<-zF];refine ka m _ _ λi _=>?_;have:=h i;calc s*(A i*z i)=A i*(s*z i):=by rw[Int.mul_left_comm]
  _=A i*(a*x i+b*y i):=by rw[this]
  _=a*(A i*x i)+b*(A i*y i):=by grind
structure jZ(m:Nat)(As:List Vc)(u:Vc):Prop where
 nn:∀i,0<=u i
 out:∀i,m<=i->u i=0
 ne:∃i,u i≠0
 eq:∀A∈As,iX m A u=0
noncomputable def cs(m:Nat)(u:Vc):Nat:=(List.range m).countP λi=>decide (u i≠0)
def Pi(h:∀i,i<m->v i=0->u i=0):cs m u<=cs m v:=by unfold cs;refine dF λi b q=>?_;have a:=aR.mp b;simp only[decide_eq_true_eq]at q ⊢;exact λz=>q (h i a z)
theorem xC{f:Type}{p q:f->Bool}:∀{l:List f},(∀a∈l,p a=true->q a=true)->(∃a∈l,q a=true/\p a=false)->l.countP p<l.countP q
 |[],_,⟨_,h,_⟩=>by cases h
 |a::l,h,⟨b,e,h1,h2⟩=>by
  rw[List.countP_cons,List.countP_cons];have mono:l.countP p<=l.countP q:=dF λc d=>h c (by simp[d]);rcases aE.mp e with rfl|e
  .rw[h1,h2];simp;lia
  .have i:=xC (λc d=>h c (by simp[d])) ⟨b,e,h1,h2⟩;cases g:p a with
   |true=>rw[h a (by simp) g];simp;lia
   |false=>cases j:q a<;>simp<;>lia
def A4(h:∀i,i<m->v i=0->u i=0)(e:k<m)(c:v k≠0)(b:u k=0):cs m u<cs m v:=by unfold cs;refine xC (λi d q=>?_) ⟨k,aR.mpr e,by simpa using c,by simpa using b⟩;have a:=aR.mp d;simp only[decide_eq_true_eq]at q ⊢;exact λz=>q (h i a z)
theorem Md(u v:Vc):∀m,(∃j,j<m/\0<v j)->∃k,k<m/\0<v k/\∀i,i<m->0<v i->u k*v i<=u i*v k
 |0,⟨_,h,_⟩=>absurd h (cU _)
 |m+1,⟨j,hj,hv⟩=>by
  by_cases l:∃j,j<m/\0<v j
  .obtain⟨k,z,c,n⟩:=Md u v m l;by_cases g:0<v m
   .by_cases p:u k*v m<=u m*v k
    .refine⟨k,by lia,c,λi f b=>?_⟩;by_cases e:i=m
     .subst e;exact p
     .exact n i (by lia) b
    .refine⟨m,by lia,g,λi f b=>?_⟩;by_cases e:i=m
     .subst e;exact dG _
     .have a:=n i (by lia) b;have d:u m*v k<=u k*v m:=az (Int.not_le.mp p);have x:u m*v i*v k<=u i*v m*v k:=by
       have o:=aI d (az b);have w:=aI a (az g);have s:u m*v i*v k=u m*v k*v i:=by grind
       have q:u k*v m*v i=u k*v i*v m:=by grind
       have y:u i*v m*v k=u i*v k*v m:=by grind
       rw[s,y];rw[q]at o;exact dH o w
      exact Int.le_of_mul_le_mul_right x c
   .refine⟨k,by lia,c,λi f b=>?_⟩;by_cases e:i=m
    .subst e;exact absurd b g
    .exact n i (by lia) b
  .have r:j=m:=by
    rcases dI j m with h|h
    .exact absurd ⟨j,h,hv⟩ l
    .lia
   subst r;refine⟨j,by lia,hv,λi f b=>?_⟩;by_cases e:i=j
   .subst e;exact dG _
   .exact absurd ⟨i,by lia,b⟩ l
def vI(d:jZ m As u)(g:∀i,m<=i->v i=0)(r:∀A∈As,iX m A v=0)(p:∃j,j<m/\0<v j)(vs:∀i,u i=0->v i=0) :
  ∃k,k<m/\0<v k/\0<u k/\(∀i,0<=v k*u i-u k*v i)/\(∀i,m<=i->v k*u i-u k*v i=0)/\(∀A∈As,iX m A (λi=>v k*u i-u k*v i)=0)/\cs m (λi=>v k*u i-u k*v i)<cs m u:=by
 obtain⟨k,h,e,q⟩:=Md u v m p;have o:u k≠0:=λz=>by rw[vs k z]at e;exact absurd e (by decide)
 have c:0<u k:=by have:=d.nn k;lia
 refine⟨k,h,e,c,λi=>?_,λi f=>?_,λA l=>?_,?_⟩
 .by_cases f:i<m
  .by_cases n:0<v i
   .have:=q i f n;rw[cN (v k)];lia
   .have a:0<=v k*u i:=aO (az e) (d.nn i);have b:u k*v i<=0:=dJ (az c) (by lia);lia
  .rw[d.out i (by lia),g i (by lia)];simp
 .rw[d.out i f,g i f];simp
 .have:=oC (m:=m) (A:=A) (x:=u) (y:=v) (z:=λi=>v k*u i-u k*v i) (s:=1) (a:=v k) (b:=-u k) (λi=>by grind);rw[d.eq A l,r A l]at this;simpa using this
 .refine A4 (λi _ z=>?_) h o ?_
  .rw[z,vs i z];simp
  .rw[cN];lia
theorem wD m:∀(f:List Vc) (T:List Nat),T.Nodup->(∀t∈T,t<m)->f.length<T.length->∃v:Vc,(∃i,v i≠0)/\(∀i,i∉T->v i=0)/\∀A∈f,iX m A v=0
 |[],T,nd,ht,hl=>by
  cases T with
  |nil=>cases hl
  |cons t T=>refine⟨λi=>if i=t then 1 else 0,⟨t,by simp⟩,λi g=>?_,λA l=>nomatch l⟩;have:i≠t:=λz=>g (by simp[z]);simp[this]
 |A::f,T,nd,ht,hl=>by
  cases T with
  |nil=>cases hl
  |cons t T=>
   obtain⟨C,r⟩:=bJ.mp nd;have h:f.length<T.length:=by simp at hl;exact hl
   obtain⟨e,⟨j,u⟩,o1,F⟩:=wD m f T r (λx p=>ht x (by simp[p])) h;have o:j∈T:=aN λz=>u (o1 j z);have q:f.length<((t::T).erase j).length:=by have E:j∈t::T:=bj _ o;rw[dA E,ay];exact h
   obtain⟨c,⟨k,D⟩,o2,w⟩:=wD m f ((t::T).erase j) (nd.erase j) (λx p=>ht x (dM p)) q;have n:c j=0:=o2 j (λz=>by rw[List.Nodup.mem_erase_iff nd]at z;exact z.1 rfl);by_cases l:iX m A c=0
   .exact⟨c,⟨k,D⟩,λi g=>o2 i (λz=>g (dM z)),λB d=>by
     rcases aE.mp d with rfl|d
     .exact l
     .exact w B d⟩
   .refine⟨λi=>iX m A c*e i-iX m A e*c i,⟨j,?_⟩,λi g=>?_,λB d=>?_⟩
    .dsimp only;rw[n];simp[l,u]
    .show iX m A c*e i-iX m A e*c i=0;rw[o1 i (λz=>g (by simp[z])),o2 i (λz=>g (dM z))];simp
    .have:=oC (m:=m) (A:=B) (x:=e) (y:=c) (z:=λi=>iX m A c*e i-iX m A e*c i) (s:=1) (a:=iX m A c) (b:=-iX m A e) (λi=>by grind);rcases aE.mp d with rfl|d
     .rw[dg]at this;rw[this];grind
     .rw[F B d,w B d]at this;simpa using this
def N8(m:Nat)(a:List Vc)(u:Vc):Prop:=jZ m a u/\∀v,jZ m a v->(∀i,u i=0->v i=0)->∀i,v i=0->u i=0
def GB(h:N8 m As u):cs m u<=As.length+1:=by
 obtain⟨D,I⟩:=h;refine Nat.le_of_not_lt λB=>?_;let S:=(List.range m).filter λi=>decide (u i≠0);have o:S.length=cs m u:=by show (List.filter _ _).length=_;unfold cs;rw[dN]
 have q:∀i,i∈S↔i<m/\u i≠0:=λi=>by show i∈List.filter _ _↔_;simp
 have n:S.Nodup:=List.Pairwise.filter _ dO;cases c:S with
 |nil=>rw[c]at o;simp at o;lia
 |cons t T=>
  rw[c]at o n;simp only[ay]at o;obtain⟨g,p⟩:=bJ.mp n;have e:∀i∈T,i<m/\u i≠0:=λi f=>(q i).mp (by rw[c];simp[f]);obtain⟨d,⟨j,L⟩,o0,r⟩:=wD m As T p (λi f=>(e i f).1) (by lia);obtain⟨v,vo,ve,vp,vt⟩:∃v:Vc,(∀i,i∉T->v i=0)/\(∀A∈As,iX m A v=0)/\(∃j,j<m/\0<v j)/\v t=0:=by
   have l:j∈T:=aN λz=>L (o0 j z);by_cases K:0<d j
   .exact⟨d,o0,r,⟨j,(e j l).1,K⟩,o0 t g⟩
   .refine⟨λi=>-d i,λi f=>by show -d i=0;rw[o0 i f];rfl,λA F=>?_,⟨j,(e j l).1,by show 0 < -d j;lia⟩,by show -d t=0;rw[o0 t g];rfl⟩;have:=oC (m:=m) (A:=A) (x:=d) (y:=d) (z:=λi=>-d i) (s:=1) (a:=-1) (b:=0) (λi=>by grind);rw[r A F]at this;simpa using this
  have E:t<m/\u t≠0:=(q t).mp (by rw[c];simp);obtain⟨k,U,Q,P,C,H,J,X⟩:=vI D (λi f=>vo i (λz=>by have:=(e i z).1;lia)) ve vp (λi z=>vo i (λw=>(e i w).2 z));have N:jZ m As (λi=>v k*u i-u k*v i):=⟨C,H,⟨t,by rw[vt];simp;exact⟨by lia,E.2⟩⟩,J⟩;have R:=I _ N (λi z=>by rw[z,vo i (λw=>(e i w).2 z)];simp) k (by rw[cN];lia);lia
def C6{m:Nat}{a Bs:List Vc}{u:Vc}(h:jZ m Bs u)(b:∀A∈a,A∈Bs):jZ m a u:=⟨h.nn,h.out,h.ne,λA c=>h.eq A (b A c)⟩
inductive Cn(P:Vc->Prop):Vc->Prop
 |of {x:Vc}:P x->Cn P x
 |lin {x y z:Vc} {s a b:Int}:Cn P x->Cn P y->0<s->0<=a->0<=b->0<a+b->(∀i,s*z i=a*x i+b*y i)->Cn P z
def Cn.mono(h:∀x,P x->P' x)(q:Cn P z):Cn P' z:=by
 induction q with
 |of q=>exact .of (h _ q)
 |lin _ _ hs ha hb hab e i1 i2=>exact .lin i1 i2 hs ha hb hab e
def uI{a b p q:Int}(i:0<=a)(f:0<=b)(h:0<a*p+b*q):(0<a/\0<p)\/0<b/\0<q:=by
 have c:∀{u v:Int},0<=u->¬(0<u/\0<v)->u*v<=0:=λ{u v} hu hn=>by
  by_cases g:u=0
  .rw[g,dw];exact dG _
  .exact dJ hu (by lia)
 by_cases e:0<a/\0<p
 .exact .inl e
 .by_cases d:0<b/\0<q
  .exact .inr d
  .have:=c i e;have:=c f d;lia
theorem Cn.parts(Z:∀x,P x->∀i,0<=x i){f:Vc->Int}(hf:∀x y z s a b,(∀i,s*z i=a*x i+b*y i)->s*f z=a*f x+b*f y)(h:Cn P z) :
  (∀i,0<=z i)/\(0<f z->∃g,P g/\(∀i,z i=0->g i=0)/\0<f g)/\(f z<0->∃g,P g/\(∀i,z i=0->g i=0)/\f g<0)/\
   (f z=0->(∃g,P g/\(∀i,z i=0->g i=0)/\f g=0)\/∃g l,P g/\P l/\(∀i,z i=0->g i=0)/\(∀i,z i=0->l i=0)/\0<f g/\f l<0):=by
 induction h with
 |of h=>rename_i x;exact⟨Z _ h,λq=>⟨x,h,λ_ z=>z,q⟩,λq=>⟨x,h,λ_ z=>z,q⟩,λq=>.inl ⟨x,h,λ_ z=>z,q⟩⟩
 |lin _ _ hs ha hb hab e i1 i2=>
  rename_i x y z s a b _ _;obtain⟨H,R,Q,z1⟩:=i1;obtain⟨J,L,N,X⟩:=i2;have q:=hf _ _ _ _ _ _ e;have S:∀i,0<=z i:=λi=>by
   have C:=aO ha (H i);have E:=aO hb (J i);have o:0<=s*z i:=by rw[e i];lia
   exact Int.le_of_mul_le_mul_left (a:=s) (by simpa using o) hs
  have A:0<a->∀i,z i=0->x i=0:=λha' i v=>by
   have:=e i;rw[v,dk]at this;have C:=aO ha (H i);have E:=aO hb (J i);have o:a*x i=0:=by lia
   rcases dm.mp o with h|h
   .lia
   .exact h
  have m:0<b->∀i,z i=0->y i=0:=λhb' i v=>by
   have:=e i;rw[v,dk]at this;have C:=aO ha (H i);have E:=aO hb (J i);have o:b*y i=0:=by lia
   rcases dm.mp o with h|h
   .lia
   .exact h
  have up:∀{g w:Vc},(∀i,z i=0->w i=0)->(∀i,w i=0->g i=0)->∀i,z i=0->g i=0:=λC E i v=>E i (C i v);refine⟨S,λh=>?_,λh=>?_,λh=>?_⟩
  .rcases uI ha hb (by rw[<-q];exact aW hs h) with⟨k,p⟩|⟨k,p⟩
   .obtain⟨g,d,j,c⟩:=R p;exact⟨g,d,up (A k) j,c⟩
   .obtain⟨g,d,j,c⟩:=L p;exact⟨g,d,up (m k) j,c⟩
  .have w:=dP hs h;rcases uI (p:=-f x) (q:=-f y) ha hb (by rw[cP,cP];lia) with⟨k,p⟩|⟨k,p⟩
   .obtain⟨g,d,j,c⟩:=Q (by lia);exact⟨g,d,up (A k) j,c⟩
   .obtain⟨g,d,j,c⟩:=N (by lia);exact⟨g,d,up (m k) j,c⟩
  .rw[h,dk]at q;by_cases D:0<a/\0<f x
   .have w:=aW D.1 D.2;rcases uI (p:=0) (q:=-f y) ha hb (by rw[cP];lia) with⟨-,p⟩|⟨k,p⟩
    .lia
    .obtain⟨g,d,j,c⟩:=R D.2;obtain⟨r,K,F,I⟩:=N (by lia);exact .inr ⟨g,r,d,K,up (A D.1) j,up (m k) F,c,I⟩
   .by_cases B:0<a/\f x<0
    .have w:=dP B.1 B.2;rcases uI (p:=0) (q:=f y) ha hb (by lia) with⟨-,p⟩|⟨k,p⟩
     .lia
     .obtain⟨g,d,j,c⟩:=L p;obtain⟨r,K,F,I⟩:=Q B.2;exact .inr ⟨g,r,d,K,up (m k) j,up (A B.1) F,c,I⟩
    .have n:∀{w:Vc},(∀i,z i=0->w i=0)->((∃g,P g/\(∀i,w i=0->g i=0)/\f g=0)\/∃g l,P g/\P l/\(∀i,w i=0->g i=0)/\(∀i,w i=0->l i=0)/\0<f g/\f l<0)->(∃g,P g/\(∀i,z i=0->g i=0)/\f g=0)\/∃g l,P g/\P l/\(∀i,z i=0->g i=0)/\(∀i,z i=0->l i=0)/\0<f g/\f l<0:=λu h=>by
      rcases h with⟨g,d,j,c⟩|⟨g,l,d,j,c,U,Y⟩
      .exact .inl ⟨g,d,up u j,c⟩
      .exact .inr ⟨g,l,d,j,up u c,up u U,Y⟩
     by_cases k:0<a
     .exact n (A k) (z1 (by lia))
     .rw[show a=0 by lia,dw,Int.zero_add]at q;exact n (m (by lia)) (X (by rcases dm.mp q.symm with w|w<;>lia))
def Fh(c:N8 m As u)(b:jZ m As z)(d:∀i,u i=0->z i=0):∃s a:Int,0<s/\0<a/\∀i,s*u i=a*z i:=by
 obtain⟨j,r⟩:=b.ne;have g:j<m:=by
  rcases dI j m with h|h
  .exact h
  .exact absurd (b.out j h) r
 have e:0<z j:=by have:=b.nn j;lia
 obtain⟨k,w,l,f,n,p,q,x⟩:=vI c.1 b.out b.eq ⟨j,g,e⟩ d;refine⟨z k,u k,l,f,λi=>?_⟩;refine aN λo=>?_;have v:jZ m As (λi=>z k*u i-u k*z i):=⟨n,p,⟨i,by lia⟩,q⟩;have:=c.2 _ v (λi z=>by rw[z,d i z];simp) k (by rw[cN];lia);lia
def MP m A:∀x y z s a b,(∀i,s*z i=a*x i+b*y i)->s*iX m A z=a*iX m A x+b*iX m A y:=λ_ _ _ _ _ _ h=>oC h
theorem ND(q:∀x,P x->jZ m As x)(L:∀u,jZ m As u->Cn P u)(h0:∀x,P x->iX m A x=0->P' x)
  (h1:∀x y,P x->P y->0<iX m A x->iX m A y<0->cs m (λi=>(-iX m A y)*x i+iX m A x*y i)<=As.length+2->P' (λi=>(-iX m A y)*x i+iX m A x*y i)) :
  ∀n u,cs m u<=n->jZ m (A::As) u->Cn P' u:=by
 intro n;induction n with
 |zero=>
  intro u hn f;obtain⟨i,p⟩:=f.ne;have im:i<m:=by
   rcases dI i m with h|h
   .exact h
   .exact absurd (f.out i h) p
  have:=A4 (m:=m) (u:=λ_=>0) (v:=u) (λ_ _ _=>rfl) im p rfl;lia
 |succ n ih=>
  intro u hn f;by_cases N:N8 m (A::As) u
  .have K:jZ m As u:=C6 f λB d=>by simp[d]
   have hz:∃z,P' z/\jZ m (A::As) z/\∀i,u i=0->z i=0:=by
    obtain⟨_,_,_,hp⟩:=(L u K).parts (λx hx=>(q x hx).nn) (MP m A);rcases hp (f.eq A (by simp)) with⟨g,o,E,C⟩|⟨g,c,o,E,C,U,F,g6⟩
    .exact⟨g,h0 g o C,⟨(q g o).nn,(q g o).out,(q g o).ne,λB d=>by
      rcases aE.mp d with rfl|d
      .exact C
      .exact (q g o).eq B d⟩,E⟩
    .have r:=q g o;have D:=q c E;have I:∀B,iX m B (λi=>(-iX m A c)*g i+iX m A g*c i)=(-iX m A c)*iX m B g+iX m A g*iX m B c:=λB=>by have:=oC (m:=m) (A:=B) (x:=g) (y:=c) (z:=λi=>(-iX m A c)*g i+iX m A g*c i) (s:=1) (a:=-iX m A c) (b:=iX m A g) (λi=>by grind);simpa using this
     have R:0 < -iX m A c:=by lia
     obtain⟨j,S⟩:=r.ne;have H:jZ m (A::As) (λi=>(-iX m A c)*g i+iX m A g*c i):=by
      refine⟨λi=>?_,λi p=>?_,⟨j,?_⟩,λB d=>?_⟩
      .have X:=aO (az R) (r.nn i);have x2:=aO (az F) (D.nn i);lia
      .rw[r.out i p,D.out i p];simp
      .have gj:0<g j:=by have:=r.nn j;lia
       have X:=aW R gj;have x2:=aO (az F) (D.nn j);lia
      .rw[I B];rcases aE.mp d with rfl|d
       .grind
       .rw[r.eq B d,D.eq B d];simp
     have sz:∀i,u i=0->(-iX m A c)*g i+iX m A g*c i=0:=λi p=>by rw[C i p,U i p];simp
     refine⟨_,h1 g c o E F g6 ?_,H,sz⟩;have f1:=GB N;have f2:cs m (λi=>(-iX m A c)*g i+iX m A g*c i)<=cs m u:=Pi λi _ z=>sz i z;simp only[ay]at f1;lia
   obtain⟨z,Q,H,sz⟩:=hz;obtain⟨s,a,hs,ha,e⟩:=Fh N H sz;exact .lin (.of Q) (.of Q) hs (az ha) (dG 0) (by lia) λi=>by rw[e i];simp
  .obtain⟨v,l,w,k,vk,uk⟩:∃v,jZ m (A::As) v/\(∀i,u i=0->v i=0)/\∃k,v k=0/\u k≠0:=by refine aN λJ=>N ⟨f,λv l w i vi=>aN λui=>J ⟨v,l,w,i,vi,ui⟩⟩
   have km:k<m:=by
    rcases dI k m with h|h
    .exact h
    .exact absurd (f.out k h) uk
   obtain⟨j,S⟩:=l.ne;have jm:j<m:=by
    rcases dI j m with h|h
    .exact h
    .exact absurd (l.out j h) S
   have Y:0<v j:=by have:=l.nn j;lia
   obtain⟨t,ht,a1,Z,a3,a4,a5,a6⟩:=vI f l.out l.eq ⟨j,jm,Y⟩ w;have kp:0<u k:=by have:=f.nn k;lia
   have cn:jZ m (A::As) (λi=>v t*u i-u t*v i):=⟨a3,a4,⟨k,by rw[vk];simp;exact⟨by lia,uk⟩⟩,a5⟩;have l1:=A4 (m:=m) (u:=v) (v:=u) (λi _ z=>w i z) km uk vk;exact .lin (ih _ (by lia) cn) (ih v (by lia) l) a1 (by decide:(0:Int)<=1) (az Z) (by lia) λi=>by grind
end CL
namespace CL
open PySem L2 L3
variable {c:Cs}
def qv(p:Int×Int):Rat:=(p.1:Rat) / (p.2:Rat)
structure GF(A B:Nat)(p:Int×Int):Prop where
 pos:0<p.2
 one:Cu.G p.1 p.2=1
 b1:Bn A p.1
 b2:Bn B p.2
def GF.mono(h:GF A B p)(b:A<=A')(a:B<=B'):GF A' B' p:=⟨h.pos,h.one,h.b1.mono b,h.b2.mono a⟩
def nK{i:Int}(h:0<i):(0:Rat)<(i:Rat):=by have:=(dQ).mpr h;simpa using this
def OP{i:Int}(h:i≠0):(i:Rat)≠0:=λz=>by
 have e:i=(0:Rat):=by simpa using z
 exact h (Rat.intCast_inj.mp e)
def Ie a:Cu.G a 1=1:=by simp[Cu.G]
@[simp] theorem my p:gS (fr p) (.int 0)=.ok (.int p.1):=rfl
@[simp] theorem lM p:gS (fr p) (.int 1)=.ok (.int p.2):=rfl
def vX A B t b (d:b≠0) (m:Bn A t) (j:Bn B b) (k:B<=8000):∃p,oI c [.int t,.int b]=.ok (fr p)/\GF A B p/\qv p=(t:Rat) / (b:Rat):=by
 have o:=Cu.Mf t b d;have l:=Cu.QT t b d;have a:∀x:Int,Builtin.divisionGoesByPylong x (if b<0 then -Cu.G t b else Cu.G t b)=false:=λx=>by refine Bn.noPy ?_ k;unfold Bn at *;refine b5 ?_ j;split<;>lia
 have g:(if b<0 then -Cu.G t b else Cu.G t b)≠0:=by split<;>lia
 have i:(if b<0 then -Cu.G t b else Cu.G t b) ∣ t:=by split<;>first|exact Int.neg_dvd.mpr (Cu.oK t b)|exact Cu.oK t b
 have Jb:(if b<0 then -Cu.G t b else Cu.G t b) ∣ b:=by split<;>first|exact Int.neg_dvd.mpr (Cu.ml t b)|exact Cu.ml t b
 have f:=Cu.G7 t b d;refine⟨(t.fdiv (if b<0 then -Cu.G t b else Cu.G t b),b.fdiv (if b<0 then -Cu.G t b else Cu.G t b)),gh rfl (fF (fH (fQ (fE rfl rfl (by rw[ib];simp[d]))) rfl) (fF (fP (hW rfl rfl (lI t b)) rfl) (fF (ρ':=[some (.p (.int t)),some (.p (.int b)),some (.p (.int (if b<0 then -Cu.G t b else Cu.G t b)))]) ?_ (fS (nE (fE rfl rfl (m8 g (a t))) (fE rfl rfl (m8 g (a b)))))))),⟨f.pos,f.one,b5 (zr i g) m,b5 (zr Jb g) j⟩,?_⟩
 .by_cases h:b<0
  .exact fW (fQ (fE rfl rfl (by rw[qf];simp[h]))) (fP (tF rfl) (by simp[h]))
  .exact fH (fQ (fE rfl rfl (by rw[qf];simp[h]))) (by simp[h])
 .have e:=f.is;generalize t.fdiv (if b<0 then -Cu.G t b else Cu.G t b)=x at *;generalize n:b.fdiv (if b<0 then -Cu.G t b else Cu.G t b)=y at *;have u:=f.pos;have r:(x:Rat)*(b:Rat)=(t:Rat)*(y:Rat):=by rw[<-dR,<-dR,e]
  have q:=OP d;have s:(y:Rat)≠0:=OP (by lia);show (x:Rat) / (y:Rat)=_;grind
def Fy(a:GF A B p)(hr:GF A' B' r)(f:B+B'<=8000)(k:A<=20000)(d:A'<=20000):∃s,rE c [fr p,fr r]=.ok (fr s)/\GF (max (A+B') (A'+B)+1) (B+B') s/\qv s=qv p-qv r:=by have h:=a.pos;have b:=hr.pos;obtain⟨s,e,g,q⟩:=vX (max (A+B') (A'+B)+1) (B+B') (p.1*r.2-r.1*p.2) (p.2*r.2) (dS (by lia) (by lia)) ((a.b1.mul hr.b2).sub (hr.b1.mul a.b2)) (a.b2.mul hr.b2) f;refine⟨s,gh rfl (fS (hW (fE (fE (fE rfl rfl (my p)) (fE rfl rfl (lM r)) (ik (a.b1.ok hr.b2 (by lia) (by lia)))) (fE (fE rfl rfl (my r)) (fE rfl rfl (lM p)) (ik (hr.b1.ok a.b2 (by lia) (by lia)))) (mZ _ _)) (fE (fE rfl rfl (lM p)) (fE rfl rfl (lM r)) (ik (a.b2.ok hr.b2 (by lia) (by lia)))) e)),g,?_⟩;rw[q];have i:(p.2:Rat)≠0:=OP (by lia);have j:(r.2:Rat)≠0:=OP (by lia);unfold qv;simp only[Rat.intCast_sub,dR];grind
def Cm(a:Bn N k)(hr:GF A B r)(d:B<=8000)(h:N<=20000)(f:A<=20000):∃s,rO c [fr (k,1),fr r]=.ok (fr s)/\GF (N+A) B s/\qv s=(k:Rat)*qv r:=by have b:=hr.pos;obtain⟨s,e,g,q⟩:=vX (N+A) B (k*r.1) (1*r.2) (by lia) (a.mul hr.b1) (by rw[dg];exact hr.b2) d;refine⟨s,gh rfl (fS (hW (fE (fE rfl rfl (my (k,1))) (fE rfl rfl (my r)) (ik (a.ok hr.b1 (by lia) (by lia)))) (fE (fE rfl rfl (lM (k,1))) (fE rfl rfl (lM r)) (ik (tK (show (1:Int).natAbs<2 ^ 64 by decide)))) e)),g,?_⟩;rw[q,dg];unfold qv;simp only[dR];grind
def xI(a:k≠0)(b:Bn N k)(hr:GF A B r)(f:B+N<=8000)(h:A<=20000):∃s,pI c [fr r,fr (k,1)]=.ok (fr s)/\GF A (B+N) s/\qv s=qv r / (k:Rat):=by have d:=hr.pos;obtain⟨s,e,g,q⟩:=vX A (B+N) (r.1*1) (r.2*k) (dS (by lia) a) (by rw[bA];exact hr.b1) (hr.b2.mul b) f;refine⟨s,gh rfl (fF (fH (fQ (fE (fE rfl rfl (my (k,1))) rfl (by rw[ib];simp[a]))) rfl) (fS (hW (fE (fE rfl rfl (my r)) (fE rfl rfl (lM (k,1))) (ik (Cc (show (1:Int).natAbs<2 ^ 64 by decide)))) (fE (fE rfl rfl (lM r)) (fE rfl rfl (my (k,1))) (ik (hr.b2.ok b (by lia) (by lia)))) e))),g,?_⟩;rw[q,bA];unfold qv;simp only[dR];grind
def C9(e:0<p.2)(hr:0<r.2):qv p<qv r↔p.1*r.2<r.1*p.2:=by
 have a:=nK e;have b:=nK hr;have i:(p.2:Rat)≠0:=OP (by lia);have j:(r.2:Rat)≠0:=OP (by lia);have f:qv p*(p.2*r.2)=((p.1*r.2:Int):Rat):=by unfold qv;rw[dR];grind
 have g:qv r*((p.2:Rat)*(r.2:Rat))=((r.1*p.2:Int):Rat):=by unfold qv;rw[dR];grind
 have d:=dU a b;rw[<-dQ,<-f,<-g];exact⟨λh=>dW h d,λh=>dX h (dY d)⟩
def vP(a:0<p.2)(hr:0<r.2)(d:IntMulOk p.1 r.2)(b:IntMulOk r.1 p.2):jM c [fr p,fr r]=.ok (.bl (decide (qv p<qv r))):=by
 refine gh rfl (fS (fE (fE (fE rfl rfl (my p)) (fE rfl rfl (lM r)) (ik d)) (fE (fE rfl rfl (my r)) (fE rfl rfl (lM p)) (ik b)) ?_));rw[qf];have:=C9 a hr;by_cases h:p.1*r.2<r.1*p.2
 .rw[aB h,aB (this.mpr h)]
 .rw[aA h,aA (λz=>h (this.mp z))]
noncomputable def nb(x:Int):Nat:=x.natAbs.log2+1
def Af x:Bn (nb x) x:=Nat.lt_log2_self
def DG(h:Bn E x)(b:1<=E):nb x<=E:=by
 unfold nb Bn at *;by_cases a:x.natAbs=0
 .rw[a];simp;exact b
 .have:=(Nat.log2_lt a).mpr h;lia
noncomputable def wt(p:Int×Int):Nat:=max (nb p.1) (nb p.2)
noncomputable def lP(s:List (Int×Int)):Nat:=(s.map wt).sum
structure Fq(p:Int×Int):Prop where
 pos:0<p.2
 one:Cu.G p.1 p.2=1
def Fq.gf(h:Fq p):GF (wt p) (wt p) p:=⟨h.pos,h.one,(Af _).mono (cV _ _),(Af _).mono (cW _ _)⟩
def GF.fq(h:GF A B p):Fq p:=⟨h.pos,h.one⟩
def GF.wt(h:GF A B p)(d:A<=E)(b:B<=E)(a:1<=E):wt p<=E:=Nat.max_le.mpr ⟨DG (h.b1.mono d) a,DG (h.b2.mono b) a⟩
def EW(p:Int×(Int×Int)):T:=.tup [.int p.1,fr p.2]
theorem xU x0 x1 N (y:N<=8000):∀(a:List (Int×(Int×Int))) (left:Int×Int) (B j:Nat) (d b:Option W),j+a.length<=100->(∀p∈a,Bn N p.1/\Fq p.2)->B+lP (a.map Prod.snd)<=8000->GF (N+B+j) B left->
  ∃s l f,iO (lb 2 (gO (jD 3) (gO (jD 4) kX))) (pM c) (a.map EW) [x0,x1,some (.p (fr left)),d,b]=.nx [x0,x1,some (.p (fr s)),l,f]/\GF (N+(B+lP (a.map Prod.snd))+(j+a.length)) (B+lP (a.map Prod.snd)) s/\
   qv s=qv left-(a.map λp=>(p.1:Rat)*qv p.2).sum
 |[],left,B,j,d,b,_,_,_,hg=>⟨left,d,b,rfl,by simpa[lP] using hg,by simp;grind⟩
 |p::a,left,B,j,d,b,hj,hp,hB,hg=>by
  obtain⟨v,A⟩:=hp p (by simp);have i:B+wt p.2+lP (a.map Prod.snd)<=8000:=by simp[lP]at hB ⊢;lia
  obtain⟨t,k,w,n⟩:=Cm v A.gf (by lia) (by lia) (by lia);simp at hj;obtain⟨h,C,z,u⟩:=Fy hg w (by lia) (by lia) (by lia);have o:GF (N+(B+wt p.2)+(j+1)) (B+wt p.2) h:=z.mono (by lia) (by lia);obtain⟨s,l,f,e,g,q⟩:=xU x0 x1 N y a h (B+wt p.2) (j+1) (some (.p (.int p.1))) (some (.p (fr p.2))) (by lia) (λr hr=>hp r (by simp[hr])) i o;refine⟨s,l,f,?_,?_,?_⟩
  .rw[bE,iO];have x:(lb 2 (gO (jD 3) (gO (jD 4) kX))) (EW p) [x0,x1,some (.p (fr left)),d,b]=some [x0,x1,some (.p (fr left)),some (.p (.int p.1)),some (.p (fr p.2))]:=rfl;rw[x];have m:pM c [x0,x1,some (.p (fr left)),some (.p (.int p.1)),some (.p (fr p.2))]=.nx [x0,x1,some (.p (fr h)),some (.p (.int p.1)),some (.p (fr p.2))]:=fP (hW rfl (hW (nE rfl rfl) rfl k) C) rfl;dsimp only;rw[m];exact e
  .have k:B+wt p.2+lP (a.map Prod.snd)=B+lP ((p::a).map Prod.snd):=by simp[lP];lia
   rw[k]at g;exact g.mono (by simp;lia) (aJ _)
  .rw[q,u,n];simp only[bE,dZ];grind
noncomputable def Fv(a:LI)(s:List (Int×Int)):Rat:=((a.zip s).map λp=>(p.1:Rat)*qv p.2).sum
def tP N (l:N<=8000) (u:1<=N) row s (d:s.length<row.length) (n:s.length<=10) (a:∀x∈row,Bn N x) (k:∀p∈s,Fq p) (j:1+lP s<=8000) :
  ∃r,j8 c [tI row,.lst (s.map fr)]=.ok (fr r)/\GF (N+lP s+20) (1+lP s) r/\qv r=(vc row s.length:Rat)-Fv row s:=by
 have i:=jA row s.length d;have f:(row.zip s).map Prod.snd=s:=by rw[List.map_snd_zip];lia
 have h:=a _ (getD_mem row s.length d);obtain⟨r,o,m,e,g,q⟩:=xU (some (.p (tI row))) (some (.p (.lst (s.map fr)))) N l (row.zip s) (vc row s.length,1) 1 0 none none (by simp;lia) (λp b=>⟨a _ (aV b).1,k _ (aV b).2⟩) (by rw[f];exact j) ⟨show 0<1 by decide,Ie _,h.mono (by lia),show Bn 1 1 by unfold Bn;decide⟩;rw[f]at g;refine⟨r,gh rfl (fF (fP (nE (fE rfl (oX (r:=.ok (.int s.length)) rfl (by simp)) ?_) rfl) rfl) (fF (iW (pP rfl rfl rfl rfl) e) (fS rfl))),g.mono (by simp;lia) (aJ _),?_⟩
 .exact i
 .rw[q];unfold Fv;have:qv (vc row s.length,1)=(vc row s.length):=by unfold qv;simp;grind
  rw[this]
def oT:Option (Int×Int)->T
 |none=>.non
 |some p=>fr p
def n9(lo:Option (Int×Int))(q:Rat):Prop:=∀p,lo=some p->qv p<q
def nO(a:Option (Int×Int))(q:Rat):Prop:=∀r,a=some r->q<qv r
noncomputable def Lu:Option (Int×Int)->Int
 |some r=>if r.1<=0 then -((-r.1).fdiv r.2)-1 else 0
 |none=>0
noncomputable def wb(b a:Option (Int×Int)):Int:=match b with
 |some p=>if 0<=p.1 then p.1.fdiv p.2+1 else Lu a
 |none=>Lu a
instance (lo:Option (Int×Int)) (q:Rat):Decidable (n9 lo q):=match lo with
 |none=>.isTrue λ_ h=>nomatch h
 |some p=>if h:qv p<q then .isTrue λr e=>by cases e;exact h else .isFalse λz=>h (z p rfl)
instance (hi:Option (Int×Int)) (q:Rat):Decidable (nO hi q):=match hi with
 |none=>.isTrue λ_ h=>nomatch h
 |some p=>if h:q<qv p then .isTrue λr e=>by cases e;exact h else .isFalse λz=>h (z p rfl)
def FE(a b:Option (Int×Int)):T:=if n9 a (wb a b:Rat)/\nO b (wb a b:Rat) then .int (wb a b) else .non
def Oe(E:Nat)(o:Option (Int×Int)):Prop:=∀p,o=some p->0<p.2/\Bn E p.1/\Bn E p.2
def Eu i:qv (i,1)=(i:Rat):=by unfold qv;simp;grind
def qw(a b:Int)(d:0<b):a.fdiv b*b<=a/\a<(a.fdiv b+1)*b:=by
 have e:=Int.fmod_def a b;have g:=cI a d;have f:=cJ a d;have h:b*a.fdiv b=a.fdiv b*b:=cN _ _;constructor
 .omega
 .have i:(a.fdiv b+1)*b=a.fdiv b*b+b:=by grind
  omega
def zh(a b:Int)(d:0<b):(a.fdiv b).natAbs<=a.natAbs:=by
 obtain⟨m,k⟩:=qw a b d;rcases Int.le_total 0 a with h|h
 .have e:=d8 h (az d);have f:a.fdiv b<=a.fdiv b*b:=by have:=eg (show 1<=b by omega) e;omega
  omega
 .have e:a.fdiv b+1<=1:=by
   refine ek.mp λz=>?_;have f:1<=a.fdiv b:=by omega
   have:=aI f (az d);omega
  by_cases g:a=0
  .subst g;simp
  .have l:a<=a.fdiv b:=by
    refine ek.mp λz=>?_;have i:a.fdiv b+1<=a:=by omega
    have j:=aI i (az d);have n:a*b<=a*1:=Int.mul_le_mul_of_nonpos_left h (by omega);omega
   omega
def L8(g:Oe E lo)(f:Oe E hi):(wb lo hi).natAbs<2 ^ E+1:=by
 have d:(Lu hi).natAbs<2 ^ E+1:=by
  cases e:hi with
  |none=>simp[Lu]
  |some r=>
   obtain⟨a,b,_⟩:=f r e;show (if r.1<=0 then -((-r.1).fdiv r.2)-1 else 0).natAbs<2 ^ E+1;split
   .have:=zh (-r.1) r.2 a;unfold Bn at b;rw[cZ]at this;omega
   .simp
 unfold wb;cases e:lo with
 |none=>exact d
 |some p=>
  obtain⟨a,b,_⟩:=g p e;dsimp only;split
  .have:=zh p.1 p.2 a;unfold Bn at b;omega
  .exact d
def oN neg o:jL neg (oT o) .non=.ok (.bl (if neg then o.isSome else o.isNone)):=by cases o<;>cases neg<;>rfl
def Lq(a:0<p.2/\Bn E p.1/\Bn E p.2)(d:E<=8000)(b:Bn (E+1) i):jM c [fr p,fr (i,1)]=.ok (.bl (decide (qv p<(i:Rat)))):=by have:=vP (c:=c) (r:=(i,1)) a.1 (by decide:(0:Int)<1) (a.2.1.ok (show Bn 1 1 by unfold Bn;decide) (by omega) (by omega)) (b.ok a.2.2 (by omega) (by omega));rw[Eu]at this;exact this
def K6(a:0<p.2/\Bn E p.1/\Bn E p.2)(d:E<=8000)(b:Bn (E+1) i):jM c [fr (i,1),fr p]=.ok (.bl (decide ((i:Rat)<qv p))):=by have:=vP (c:=c) (p:=(i,1)) (by decide:(0:Int)<1) a.1 (b.ok a.2.2 (by omega) (by omega)) (a.2.1.ok (show Bn 1 1 by unfold Bn;decide) (by omega) (by omega));rw[Eu]at this;exact this
def q8(h:fc ρ=.ok false):l8 fc fd ρ=.ok false:=by simp only[L3.l8,h,M.bind_ok];rfl
def lx(h:fc ρ=.ok true)(a:fd ρ=.ok b):l8 fc fd ρ=.ok b:=by simp only[L3.l8,h,a,M.bind_ok];rfl
def F9(h:fc ρ=.ok b):lq fc ρ=.ok (!b):=by simp only[L3.lq,h,M.bind_ok]
def GZ(a:0<p.2/\Bn E p.1/\Bn E p.2)(b:E<=8000):jX c [fr p]=.ok (.int (p.1.fdiv p.2)):=by have:=a.1;exact gh rfl (fS (fE (fE rfl rfl (my p)) (fE rfl rfl (lM p)) (m8 (by omega) (a.2.2.noPy b))))
def P2(a:0<p.2/\Bn E p.1/\Bn E p.2)(b:E<=8000):jC c [fr p]=.ok (.int (-((-p.1).fdiv p.2))):=by have:=a.1;exact gh rfl (fS (tF (fE (tF (fE rfl rfl (my p))) (fE rfl rfl (lM p)) (m8 (by omega) (a.2.2.noPy b)))))
def nR E (n:E<=8000) b a (u:Oe E b) (x:Oe E a):jd c [oT b,oT a]=.ok (FE b a):=by
 have hw:=L8 u x;have A:Bn (E+1) (wb b a):=by unfold Bn;have:=df E;rw[cX];omega
 let R (w:Option W):En:=[some (.p (oT b)),some (.p (oT a)),w];have B:setO 2 (g9 (cM (.int 0))) (R none)=.nx (R (some (.p (.int 0)))):=fP rfl rfl;have k:jT (l8 (gD (fL (jL true) (fv 0) (cM .non))) (gD (fL J0 (fL gS (fv 0) (cM (.int 0))) (cM (.int 0))))) (setO 2 (g9 (fL iI (fM (fj (fv 0) fC) (jX c)) (cM (.int 1))))) (jT (l8 (gD (fL (jL true) (fv 1) (cM .non))) (gD (fL G3 (fL gS (fv 1) (cM (.int 0))) (cM (.int 0))))) (setO 2 (g9 (fL pX (fM (fj (fv 1) fC) (jC c)) (cM (.int 1))))) gG) (R (some (.p (.int 0))))=.nx (R (some (.p (.int (wb b a))))):=by
  have m:∀v,(v=Lu a)->(jT (l8 (gD (fL (jL true) (fv 1) (cM .non))) (gD (fL G3 (fL gS (fv 1) (cM (.int 0))) (cM (.int 0))))) (setO 2 (g9 (fL pX (fM (fj (fv 1) fC) (jC c)) (cM (.int 1))))) gG) (R (some (.p (.int 0))))=.nx (R (some (.p (.int v)))):=λv f=>by
   cases e:a with
   |none=>rw[e,Lu]at f;subst f;exact fH (q8 (fQ (fE rfl rfl (by show jL true (oT a) .non=_;rw[oN,e];rfl)))) rfl
   |some r=>
    rw[e,Lu]at f;have d:jL true (oT a) .non=.ok (.bl true):=by rw[oN,e];rfl
    have g:gS (oT a) (.int 0)=.ok (.int r.1):=by rw[e];rfl
    by_cases hr:r.1<=0
    .rw[aP hr]at f;subst f;exact fW (lx (fQ (fE rfl rfl d)) (fQ (fE (fE rfl rfl g) rfl (by rw[zq];simp[hr])))) (fP (fE (qF rfl (by rw[e];exact P2 (x r e) n)) rfl (mZ _ _)) rfl)
    .rw[aQ hr]at f;subst f;exact fH (lx (fQ (fE rfl rfl d)) (fQ (fE (fE rfl rfl g) rfl (by rw[zq];simp[hr])))) rfl
  cases e:b with
  |none=>exact fH (q8 (fQ (fE rfl rfl (by show jL true (oT b) .non=_;rw[oN,e];rfl)))) (m _ rfl)
  |some p=>
   have d:jL true (oT b) .non=.ok (.bl true):=by rw[oN,e];rfl
   have g:gS (oT b) (.int 0)=.ok (.int p.1):=by rw[e];rfl
   by_cases o:0<=p.1
   .refine fW (lx (fQ (fE rfl rfl d)) (fQ (fE (fE rfl rfl g) rfl (by rw[rB];simp[o])))) (fP (fE (qF rfl (by rw[e];exact GZ (u p e) n)) rfl (iR _ _)) ?_);simp[wb,o,R]
   .exact fH (lx (fQ (fE rfl rfl d)) (fQ (fE (fE rfl rfl g) rfl (by rw[rB];simp[o])))) (m _ (by simp[wb,o]))
 have testlo:l8 (gD (fL (jL true) (fv 0) (cM .non))) (lq (gD (fM (fj (fv 0) (fj (iL (fj (fv 2) (fj (cM (.int 1)) fC))) fC)) (jM c)))) (vw (R (some (.p (.int (wb b a))))))=.ok (!decide (n9 b (wb b a:Rat))):=by
  cases e:b with
  |none=>have:n9 none (wb none a:Rat):=λ_ z=>nomatch z;rw[<-e,aB (by rw[e];exact this)];exact q8 (fQ (fE rfl rfl (by show jL true (oT b) .non=_;rw[oN,e];rfl)))
  |some p=>
   have d:jL true (oT b) .non=.ok (.bl true):=by rw[oN,e];rfl
   rw[<-e];refine lx (fQ (fE rfl rfl d)) (F9 (fQ (hW rfl (nE rfl rfl) ?_)));have q:=Lq (c:=c) (u p e) n A;have s:decide (n9 b (wb b a:Rat))=decide (qv p<(wb b a:Rat)):=by
    by_cases z:qv p<(wb b a:Rat)
    .rw[aB z,aB];intro r j;rw[e]at j;cases j;exact z
    .rw[aA z,aA];exact λy=>z (y p e)
   rw[s];rw[show oT b=fr p by rw[e];rfl];exact q
 have testhi:l8 (gD (fL (jL true) (fv 1) (cM .non))) (lq (gD (fM (fj (iL (fj (fv 2) (fj (cM (.int 1)) fC))) (fj (fv 1) fC)) (jM c)))) (vw (R (some (.p (.int (wb b a))))))=.ok (!decide (nO a (wb b a:Rat))):=by
  cases e:a with
  |none=>have:nO none (wb b none:Rat):=λ_ z=>nomatch z;rw[<-e,aB (by rw[e];exact this)];exact q8 (fQ (fE rfl rfl (by show jL true (oT a) .non=_;rw[oN,e];rfl)))
  |some p=>
   have d:jL true (oT a) .non=.ok (.bl true):=by rw[oN,e];rfl
   rw[<-e];refine lx (fQ (fE rfl rfl d)) (F9 (fQ (hW (y:=oT a) (nE rfl rfl) rfl ?_)));have q:=K6 (c:=c) (i:=wb b a) (x p e) n A;have s:decide (nO a (wb b a:Rat))=decide ((wb b a:Rat)<qv p):=by
    by_cases z:(wb b a:Rat)<qv p
    .rw[aB z,aB];intro r j;rw[e]at j;cases j;exact z
    .rw[aA z,aA];exact λy=>z (y p e)
   rw[s];rw[show oT a=fr p by rw[e];rfl];exact q
 refine gh rfl (fF B (fF k ?_));unfold FE;by_cases l:n9 b (wb b a:Rat)
 .rw[aB l]at testlo;refine fF (fH testlo rfl) ?_;by_cases h:nO a (wb b a:Rat)
  .rw[aB h]at testhi;rw[aP ⟨l,h⟩];exact fF (fH testhi rfl) (fS rfl)
  .rw[aA h]at testhi;rw[aQ (λz=>h z.2)];exact j5 (fW testhi (fS rfl)) rfl
 .rw[aA l]at testlo;rw[aQ (λz=>l z.1)];exact j5 (fW testlo (fS rfl)) rfl
def mI:0<((i,1):Int×Int).2:=by show 0<1;decide
noncomputable def rb(fs:LI)(x:Int×Int):Int×Int:=fs.foldr (λf x=>(f*x.1+x.2,x.1)) x
structure Q0(lo hi:Option (Int×Int))(f:Int)(lo1 hi1:Option (Int×Int)):Prop where
 ex:∃p r:Int×Int,lo=some p/\hi=some r/\f=p.1.fdiv p.2/\lo1=some (r.2,r.1-f*r.2)/\hi1=(if p.1-f*p.2=0 then none else some (p.2,p.1-f*p.2))/\0<p.2/\0<r.2/\p.1*r.2<r.1*p.2/\r.1<=(f+1)*r.2
inductive w6:Option (Int×Int)->Option (Int×Int)->LI->Option (Int×Int)->Option (Int×Int)->Prop
 |nil {lo hi:Option (Int×Int)}:w6 lo hi [] lo hi
 |cons {lo hi lo1 hi1 lo2 hi2:Option (Int×Int)} {f:Int} {fs:LI}:Q0 lo hi f lo1 hi1->w6 lo1 hi1 fs lo2 hi2->w6 lo hi (f::fs) lo2 hi2
def w6.snoc(h:w6 lo hi fs lo1 hi1)(s:Q0 lo1 hi1 f lo2 hi2):w6 lo hi (fs++[f]) lo2 hi2:=by
 induction h with
 |nil=>exact .cons s .nil
 |cons s' _ ih=>exact .cons s' (ih s)
structure Gd(lo hi:Option (Int×Int))(x:Int×Int):Prop where
 lo:n9 lo (qv x)
 hi:nO hi (qv x)
 pos:0<x.2
 one:Cu.G x.1 x.2=1
noncomputable def tp:Option (Int×Int)->Int
 |some p=>p.1
 |none=>1
noncomputable def bt:Option (Int×Int)->Int
 |some p=>p.2
 |none=>0
def JF f a b:Cu.G (f*a+b) a=Cu.G b a:=by
 have h:=Cu.BZ (f*a+b) a;have d:=Cu.BZ b a;have e:(f*a+b).fmod a=b.fmod a:=by rw[Int.add_comm];have:=Int.add_mul_fmod_self_right b f a;exact this
 rw[<-h,e,d]
def N1 a b:Cu.G a b=Cu.G b a:=by unfold Cu.G;rw[Int.gcd_comm]
def Ds(s:Q0 lo hi f lo1 hi1)(h:Gd lo1 hi1 x)(i:0<x.1):Gd lo hi (f*x.1+x.2,x.1):=by
 obtain⟨p,r,rfl,rfl,y,rfl,rfl,b,hr,n,m⟩:=s.ex;obtain⟨l,u,j,q⟩:=h;obtain⟨a,g⟩:=qw p.1 p.2 b;rw[<-y]at a g;have d:0<r.1-f*r.2:=by
  have B:=aI a (az hr);have k:f*r.2*p.2<r.1*p.2:=by
   have:f*r.2*p.2=f*p.2*r.2:=by grind
   lia
  have:=eA k (az b);lia
 have A:=(C9 d j).mp (l _ rfl);refine⟨λC e=>?_,λF e=>?_,i,?_⟩
 .cases e;rw[C9 b i];by_cases w:p.1-f*p.2=0
  .have:p.1=f*p.2:=by lia
   rw[this];have:=aW j b;have z:(f*x.1+x.2)*p.2=f*p.2*x.1+x.2*p.2:=by grind
   lia
  .have o:=u (p.2,p.1-f*p.2) (by rw[aQ w]);have v:0<p.1-f*p.2:=by lia
   have E:=(C9 j v).mp o;have z:(f*x.1+x.2)*p.2=f*x.1*p.2+p.2*x.2:=by grind
   have D:x.1*(p.1-f*p.2)=p.1*x.1-f*x.1*p.2:=by grind
   lia
 .cases e;rw[C9 i hr];lia
 .rw[JF,N1];exact q
theorem IM(e:b=some p)(i:0<p.2)(m:0<p.1)(hr:∀r,a=some r->0<r.2)(j:n9 b (wb b a:Rat))(g:nO a (wb b a:Rat)) :
  Gd b a (wb b a,1)/\0<wb b a/\wb b a<=tp b+tp a/\1<=bt b+bt a:=by
 have h:wb b a=p.1.fdiv p.2+1:=by unfold wb;rw[e];simp;lia
 have l:0<=p.1.fdiv p.2:=d8 (by lia) (by lia);have n:=zh p.1 p.2 i;refine⟨⟨by rw[Eu];exact j,by rw[Eu];exact g,mI,Ie _⟩,by lia,?_,?_⟩
 .cases d:a with
  |none=>rw[d]at h;rw[e];show wb (some p) none<=p.1+1;rw[<-e];lia
  |some r=>have k:=hr r d;have f:=g r d;rw[<-Eu,C9 mI k]at f;dsimp only at f;rw[<-d,e];rw[d];show wb (some p) (some r)<=p.1+r.1;rw[<-e,<-d];have o:wb b a*1<=wb b a*r.2:=eg (by lia) (by lia);lia
 .rw[e];show 1<=p.2+bt a;have:0<=bt a:=by
   cases d:a with
   |none=>exact dG _
   |some r=>have:=hr r d;show 0<=r.2;lia
  lia
theorem Hc(h:w6 j k fs b a):∀p,j=some p->0<p.2->0<p.1->(∀r,k=some r->0<r.2)->(∀r,a=some r->0<r.2)->n9 b (wb b a:Rat)->nO a (wb b a:Rat)->
  Gd j k (rb fs (wb b a,1))/\0<(rb fs (wb b a,1)).1/\(rb fs (wb b a,1)).1<=tp j+tp k/\(rb fs (wb b a,1)).2<=bt j+bt k:=by
 induction h with
 |nil=>intro p e n D hr _ u x;exact IM e n D hr u x
 |cons s _ ih=>
  rename_i j k g d b a f fs _;intro p e n D hr v u x;obtain⟨U,r,H,J,I,o,l,Y,F,X,N⟩:=s.ex;rw[e]at H;cases H;obtain⟨i,w⟩:=qw p.1 p.2 n;rw[<-I]at i w;have C:0<=f:=by rw[I];exact d8 (by lia) (by lia)
  have q:0<r.1-f*r.2:=by
   have R:=aI i (az F);have L:f*r.2*p.2<r.1*p.2:=by
    have:f*r.2*p.2=f*p.2*r.2:=by grind
    lia
   have:=eA L (az n);lia
  have A:∀y,d=some y->0<y.2:=λy m=>by
   rw[l]at m;split at m
   .cases m
   .cases m;dsimp only;lia
  obtain⟨E,B,Q,P⟩:=ih (r.2,r.1-f*r.2) o q F A v u x;refine⟨Ds s E B,?_,?_,?_⟩
  .show 0<f*(rb fs (wb b a,1)).1+(rb fs (wb b a,1)).2;have:=E.pos;have:=aO C (az B);lia
  .show f*(rb fs (wb b a,1)).1+(rb fs (wb b a,1)).2<=_;rw[e,J];show _<=p.1+r.1;have K:tp g+tp d<=r.2+p.2:=by
    rw[o,l];split
    .show r.2+1<=_;lia
    .exact dG _
   have S:bt g+bt d=(r.1-f*r.2)+(p.1-f*p.2):=by
    rw[o,l];split
    .rename_i z;rw[z];rfl
    .rfl
   have m1:f*(rb fs (wb b a,1)).1<=f*(r.2+p.2):=eg (by lia) C;have Z:f*(r.2+p.2)=f*r.2+f*p.2:=dy _ _ _;lia
  .show (rb fs (wb b a,1)).1<=_;rw[e,J];show _<=p.2+r.2;have K:tp g+tp d<=r.2+p.2:=by
    rw[o,l];split
    .show r.2+1<=_;lia
    .exact dG _
   lia
theorem Gk(h:∀p,d=some p->0<p.2)(i:∀r,f=some r->0<r.2)(m:∀p r,d=some p->f=some r->qv p<qv r)(j:¬(n9 d (wb d f:Rat)/\nO f (wb d f:Rat))) :
  ∃p r,d=some p/\f=some r/\p.1*r.2<r.1*p.2/\r.1<=(p.1.fdiv p.2+1)*r.2:=by
 have up:∀p:Int×Int,d=some p->qv p<((p.1.fdiv p.2+1:Int):Rat):=λp e=>by rw[<-Eu,C9 (h p e) mI];have:=(qw p.1 p.2 (h p e)).2;dsimp only;lia
 have s:∀r:Int×Int,f=some r->((-((-r.1).fdiv r.2)-1:Int):Rat)<qv r:=λr e=>by
  rw[<-Eu,C9 mI (i r e)];have:=(qw (-r.1) r.2 (i r e)).2;have w:(-((-r.1).fdiv r.2)-1)*r.2 = -(((-r.1).fdiv r.2+1)*r.2):=by grind
  lia
 have l:∀p:Int×Int,d=some p->p.1<0->qv p<((0:Int):Rat):=λp e z=>by rw[<-Eu,C9 (h p e) mI];dsimp only;lia
 have k:∀r:Int×Int,f=some r->0<r.1->((0:Int):Rat)<qv r:=λr e z=>by rw[<-Eu,C9 mI (i r e)];dsimp only;lia
 cases a:d with
 |none=>
  exfalso;refine j ⟨λp e=>(by rw[a]at e;cases e),λr e=>?_⟩;have g:wb d f=if r.1<=0 then -((-r.1).fdiv r.2)-1 else 0:=by unfold wb;rw[a,e];rfl
  rw[g];split
  .exact s r e
  .exact k r e (by lia)
 |some p=>
  cases b:f with
  |none=>
   exfalso;refine j ⟨λn e=>?_,λr e=>(by rw[b]at e;cases e)⟩;rw[a]at e;cases e;have g:wb d f=if 0<=p.1 then p.1.fdiv p.2+1 else 0:=by unfold wb;rw[a,b];rfl
   rw[g];split
   .exact up p a
   .exact l p a (by lia)
  |some r=>
   have lt:=(C9 (h p a) (i r b)).mp (m p r a b);refine⟨p,r,rfl,rfl,lt,?_⟩;by_cases q:0<=p.1
   .have g:wb d f=p.1.fdiv p.2+1:=by unfold wb;rw[a];simp[q]
    refine ek.mp λz=>j ⟨λn e=>?_,λu e=>?_⟩
    .rw[a]at e;cases e;rw[g];exact up p a
    .rw[b]at e;cases e;rw[g,<-Eu,C9 mI (i r b)];dsimp only;lia
   .by_cases hr:r.1<=0
    .have g:wb d f = -((-r.1).fdiv r.2)-1:=by unfold wb;rw[a,b];simp[q,Lu,hr]
     refine ek.mp λz=>j ⟨λn e=>?_,λu e=>?_⟩
     .rw[a]at e;cases e;rw[g,<-Eu,C9 (h p a) mI];dsimp only;have x:=(qw (-r.1) r.2 (i r b)).1;have y:=(qw p.1 p.2 (h p a)).2;have o:=i r b;have w:-((-r.1).fdiv r.2)*r.2 = -((-r.1).fdiv r.2*r.2):=by grind
      have v:(p.1.fdiv p.2+1)*r.2 < -((-r.1).fdiv r.2)*r.2:=by lia
      have B:=eA v (az o);have A:(p.1.fdiv p.2+1)*p.2<=(-((-r.1).fdiv r.2)-1)*p.2:=aI (by lia) (az (h p a));lia
     .rw[b]at e;cases e;rw[g];exact s r b
    .have g:wb d f=0:=by unfold wb;rw[a,b];simp[q,Lu,hr]
     exfalso;refine j ⟨λn e=>?_,λu e=>?_⟩
     .rw[a]at e;cases e;rw[g];exact l p a (by lia)
     .rw[b]at e;cases e;rw[g];exact k r b (by lia)
noncomputable def OU:En->Nat:=λd=>match d with|some (.p (.tup [_,.int a]))::some (.p (.tup [_,.int b]))::_=>a.natAbs+b.natAbs+2|_=>1
noncomputable def A9:En->Nat:=λd=>match d with|some (.p (.tup [_,.int a]))::some (.p (.tup [_,.int b]))::_::some (.p .non)::_=>a.natAbs+b.natAbs+1|_=>0
def ux(a b:Option (Int×Int))(fs:LI)(d f e:Option W):En:=[some (.p (oT a)),some (.p (oT b)),some (.o (fs.map T.int)),some (.p (FE a b)),d,f,e,none]
structure LZ(E:Nat)(lo hi:Option (Int×Int))(fs:LI)(lo' hi':Option (Int×Int)):Prop where
 path:w6 lo hi fs lo' hi'
 l:Oe E lo'
 h:Oe E hi'
 lt:∀p r,lo'=some p->hi'=some r->qv p<qv r
 fb:∀f∈fs,Bn E f
 few:fs≠[]->∃p,lo'=some p/\p.2<=p.1/\∀r,hi'=some r->0<r.1/\4 ^ (fs.length-1)*(p.1*p.2*(r.1*r.2))<=2 ^ (4*E)
def qE(h:Bn E x):x<2 ^ E/\-(2 ^ E)<x:=by
 unfold Bn at h;have:((2 ^ E):Int)=2 ^ E:=by simp
 lia
def sk(b:x<2 ^ E)(a:-(2 ^ E)<x):Bn E x:=by
 unfold Bn;have:((2 ^ E):Int)=2 ^ E:=by simp
 lia
theorem IW(h:LZ E lo hi fs a b)(hn:¬(n9 a (wb a b:Rat)/\nO b (wb a b:Rat))) :
  ∃p r f,p.1.fdiv p.2=f/\a=some p/\b=some r/\fs.length<=2*E+1/\0<p.2/\0<r.2/\0<r.1-f*r.2/\r.1-f*r.2<=r.2/\0<=p.1-f*p.2/\p.1-f*p.2<p.2/\Bn E (f)/\
   LZ E lo hi (fs++[f]) (some (r.2,r.1-f*r.2)) (if p.1-f*p.2=0 then none else some (p.2,p.1-f*p.2)):=by
 obtain⟨p,r,u,v,lt,le⟩:=Gk (λp e=>(h.l p e).1) (λr e=>(h.h r e).1) h.lt hn;obtain⟨d,A,s⟩:=h.l p u;obtain⟨m,Z,o⟩:=h.h r v;obtain⟨x,fl2⟩:=qw p.1 p.2 d;have F:=b5 (zh p.1 p.2 d) A;generalize K:p.1.fdiv p.2=f at *;have g4:(f+1)*r.2=f*r.2+r.2:=by grind
 have g5:(f+1)*p.2=f*p.2+p.2:=by grind
 have i:0<r.1-f*r.2:=by
  have a1:=aI x (az m);have Q:f*r.2*p.2<r.1*p.2:=by
   have:f*r.2*p.2=f*p.2*r.2:=by grind
   lia
  have:=eA Q (az d);lia
 have st:Q0 a b f (some (r.2,r.1-f*r.2)) (if p.1-f*p.2=0 then none else some (p.2,p.1-f*p.2)):=⟨p,r,u,v,K.symm,rfl,rfl,d,m,lt,le⟩;have P:=(qE o).1;have plt:=(qE s).1;have C:fs.length<=2*E+1:=by
  by_cases k:fs=[]
  .subst k;simp
  .obtain⟨y,n,X,B⟩:=h.few k;rw[u]at n;cases n;obtain⟨L,D⟩:=B r v;have m1:1<=p.1*p.2:=by have:=aW (show 0<p.1 by lia) d;lia
   have m2:1<=r.1*r.2:=by have:=aW L m;lia
   have m3:1<=p.1*p.2*(r.1*r.2):=by have:=aW (show 0<p.1*p.2 by lia) (show 0<r.1*r.2 by lia);lia
   have m4:=dH (eg m3 (az (eB (by decide)))) D;have I:(4:Nat) ^ (fs.length-1)<=2 ^ (4*E):=by
    have:(((4:Nat) ^ (fs.length-1):Nat):Int)<=((2 ^ (4*E):Nat):Int):=by push_cast;lia
    exact Int.ofNat_le.mp this
   rw[show (4:Nat)=2 ^ 2 by decide,<-Nat.pow_mul]at I;have m6:=(Nat.pow_le_pow_iff_right (show 1<2 by decide)).mp I;lia
 refine⟨p,r,f,K,u,v,C,d,m,i,by lia,by lia,by lia,F,h.path.snoc st,λy e=>?_,λH e=>?_,λy H e j=>?_,λg q=>?_,λ_=>⟨_,rfl,?_,λH j=>?_⟩⟩
 .cases e;exact⟨i,o,sk (by dsimp only;lia) (by dsimp only;lia)⟩
 .split at e
  .cases e
  .cases e;exact⟨by dsimp only;omega,s,sk (by dsimp only;omega) (by dsimp only;omega)⟩
 .cases e;split at j
  .cases j
  .cases j;rw[C9 i (by dsimp only;omega)];dsimp only;have x1:r.2*(p.1-f*p.2)=p.1*r.2-f*r.2*p.2:=by grind
   have x2:p.2*(r.1-f*r.2)=r.1*p.2-f*r.2*p.2:=by grind
   lia
 .rcases ai.mp q with q|q
  .exact h.fb g q
  .rw[aj.mp q];exact F
 .dsimp only;lia
 .split at j
  .cases j
  .rename_i hR;cases j;refine⟨d,?_⟩;dsimp only;rw[aS,bW,Nat.add_sub_cancel];by_cases k:fs=[]
   .subst k;simp only[cA,Int.pow_zero,dg];have E2:(2:Int) ^ (4*E)=2 ^ E*2 ^ E*(2 ^ E*2 ^ E):=by rw[show 4*E=E+E+(E+E) by lia,Int.pow_add,Int.pow_add]
    rw[E2];have w:(0:Int)<=2 ^ E:=az (eB (by decide));have U:r.2*(r.1-f*r.2)<=2 ^ E*2 ^ E:=eC (by lia) (by lia) (by lia) w;have S:p.2*(p.1-f*p.2)<=2 ^ E*2 ^ E:=eC (by lia) (by lia) (by lia) w;exact eC U S (aO (by lia) (by lia)) (aO w w)
   .obtain⟨y,n,X,B⟩:=h.few k;rw[u]at n;cases n;obtain⟨L,D⟩:=B r v;have J:1<=f:=by
     refine ek.mp λz=>?_;have:f+1<=1:=by lia
     have:=aI this (az d);lia
    have z1:p.2<=f*p.2:=by have:=aI J (az d);lia
    have z2:r.2<=f*r.2:=by have:=aI J (az m);lia
    have w1:r.2*(2*(r.1-f*r.2))<=r.2*r.1:=eg (by lia) (by lia);have w2:p.2*(2*(p.1-f*p.2))<=p.2*p.1:=eg (by lia) (by lia);have w3:=eC w1 w2 (aO (by lia) (by lia)) (aO (by lia) (by lia));have R:fs.length=fs.length-1+1:=by
     cases fs with
     |nil=>exact absurd rfl k
     |cons _ _=>simp
    rw[R,eD];refine dH ?_ D;have N:(0:Int)<=4 ^ (fs.length-1):=az (eB (by decide));have Y:r.2*(r.1-f*r.2)*(p.2*(p.1-f*p.2))*4=r.2*(2*(r.1-f*r.2))*(p.2*(2*(p.1-f*p.2))):=by grind
    have w5:r.2*r.1*(p.2*p.1)=p.1*p.2*(r.1*r.2):=by grind
    rw[cL,cN 4];refine eg ?_ N;rw[Y,<-w5];exact w3
def uB(h:¬(n9 a (wb a b:Rat)/\nO b (wb a b:Rat))):FE a b=.non:=aQ h
def uG(h:n9 a (wb a b:Rat)/\nO b (wb a b:Rat)):FE a b=.int (wb a b):=aP h
def KP E (N:E<=7000) lo hi:∀ρ,(∃b d fs i j e,ρ=ux b d fs i j e/\LZ E lo hi fs b d)->
  (gD (fL (jL false) (fv 3) (cM .non)) (vw ρ)=.ok false/\∃b d fs i j e,ρ=ux b d fs i j e/\LZ E lo hi fs b d/\n9 b (wb b d:Rat)/\nO d (wb b d:Rat))\/
  (gD (fL (jL false) (fv 3) (cM .non)) (vw ρ)=.ok true/\∃g,(lH c ρ=.nx g\/lH c ρ=.ct g)/\(∃b d fs i j e,g=ux b d fs i j e/\LZ E lo hi fs b d)/\A9 g<A9 ρ):=by
 rintro ρ ⟨b,d,fs,i,j,e,rfl,h⟩;by_cases q:n9 b (wb b d:Rat)/\nO d (wb b d:Rat)
 .left;refine⟨fQ (fE rfl rfl ?_),b,d,fs,i,j,e,rfl,h,q⟩;show jL false (FE b d) .non=_;rw[uG q];rfl
 .right;have sz:20000<sizeLine:=by decide
  refine⟨fQ (fE rfl rfl (by show jL false (FE b d) .non=_;rw[uB q];rfl)),?_⟩;obtain⟨p,r,f,I,x,y,F,A,K,P,L,Q,R,w,v⟩:=IW h q;obtain⟨_,u,n⟩:=h.l p x;obtain⟨_,D,s⟩:=h.h r y;subst x y;have B:=uB q;let a:Option (Int×Int):=if p.1-f*p.2=0 then none else some (p.2,p.1-f*p.2)
  have H:Pw (gD (fL (fX false) (fv 5) (cM (.int 0)))) (cM .non) (iL (fj (fL gS (fv 0) (cM (.int 1))) (fj (fv 5) fC))) (nH [some (.p (fr p)),some (.p (fr r)),some (.o ((fs++[f]).map T.int)),some (.p (FE (some p) (some r))),some (.p (.int f)),some (.p (.int (p.1-f*p.2))),e,none])=.ok (oT a):=by
   by_cases m:p.1-f*p.2=0
   .have:a=none:=aP m;rw[this,m];rfl
   .have:a=some (p.2,p.1-f*p.2):=aQ m;rw[this];have z:gD (fL (fX false) (fv 5) (cM (.int 0))) (nH [some (.p (fr p)),some (.p (fr r)),some (.o ((fs++[f]).map T.int)),some (.p (FE (some p) (some r))),some (.p (.int f)),some (.p (.int (p.1-f*p.2))),e,none])=.ok false:=fQ (fE rfl rfl (by rw[ib];simp[m]));show (gD _ _).bind _=_;rw[z];show iL (fj (fL gS (fv 0) (cM (.int 1))) (fj (fv 5) fC)) (nH [some (.p (fr p)),some (.p (fr r)),some (.o ((fs++[f]).map T.int)),some (.p (FE (some p) (some r))),some (.p (.int f)),some (.p (.int (p.1-f*p.2))),e,none])=_;exact nE (fE rfl rfl (lM p)) rfl
  have J:=nR (c:=c) E (by lia) (some (r.2,r.1-f*r.2)) a v.l v.h;refine⟨ux (some (r.2,r.1-f*r.2)) a (fs++[f]) (some (.p (.int f))) (some (.p (.int (p.1-f*p.2)))) (some (.p (oT a))),.inl ?_,⟨_,_,_,_,_,_,rfl,v⟩,?_⟩
  .refine fF (fP (t:=.int f) (qF rfl (by rw[<-I];exact GZ ⟨A,u,n⟩ (by lia))) rfl) ?_;refine fF (tz (us:=fs.map T.int) rfl (t:=.int f) rfl (by simp;lia) rfl) ?_;refine fF (fP (t:=.int (p.1-f*p.2)) (fE (fE rfl rfl (my p)) (fE rfl (fE rfl rfl (lM p)) (ik (w.ok n (by lia) (by lia)))) (mZ _ _)) rfl) ?_;refine fF (fP (t:=oT a) ?_ rfl) ?_
   .have:=H;rw[aY]at this;exact this
   refine fF (fP (t:=fr (r.2,r.1-f*r.2)) (nE (fE rfl rfl (lM r)) (fE (fE rfl rfl (my r)) (fE rfl (fE rfl rfl (lM r)) (ik (w.ok s (by lia) (by lia)))) (mZ _ _))) rfl) ?_;refine fF (fP (t:=oT a) rfl rfl) ?_;refine fP (hW rfl rfl J) ?_;unfold ux;rw[aY];rfl
  .have C:A9 (ux (some p) (some r) fs i j e)=p.2.natAbs+r.2.natAbs+1:=by unfold ux A9;rw[B];rfl
   rw[C];by_cases hw:n9 (some (r.2,r.1-f*r.2)) (wb (some (r.2,r.1-f*r.2)) a:Rat)/\nO a (wb (some (r.2,r.1-f*r.2)) a:Rat)
   .have:A9 (ux (some (r.2,r.1-f*r.2)) a (fs++[f]) (some (.p (.int f))) (some (.p (.int (p.1-f*p.2)))) (some (.p (oT a))))=0:=by unfold ux A9;rw[uG hw];cases a<;>rfl
    rw[this];lia
   .by_cases m:p.1-f*p.2=0
    .have:a=none:=aP m;have k:A9 (ux (some (r.2,r.1-f*r.2)) a (fs++[f]) (some (.p (.int f))) (some (.p (.int (p.1-f*p.2)))) (some (.p (oT a))))=0:=by unfold ux A9;rw[this];rfl
     rw[k];lia
    .have:a=some (p.2,p.1-f*p.2):=aQ m;have k:A9 (ux (some (r.2,r.1-f*r.2)) a (fs++[f]) (some (.p (.int f))) (some (.p (.int (p.1-f*p.2)))) (some (.p (oT a))))=(r.1-f*r.2).natAbs+(p.1-f*p.2).natAbs+1:=by unfold ux A9;rw[uB hw,this];rfl
     rw[k];lia
theorem yn(h:w6 lo hi fs b a) p (e:lo=some p) (v:0<p.2) (u:0<p.1) (j:Oe E lo) (f:Oe E hi) (i:Oe E a) (s:n9 b (wb b a:Rat)) (l:nO a (wb b a:Rat)) :
  Gd lo hi (rb fs (wb b a,1))/\0<(rb fs (wb b a,1)).1/\Bn (E+1) (rb fs (wb b a,1)).1/\Bn (E+1) (rb fs (wb b a,1)).2:=by
 obtain⟨g,o,x,A⟩:=Hc h p e v u (λr d=>(f r d).1) (λr d=>(i r d).1) s l;have P:(2:Int) ^ (E+1)=2*2 ^ E:=by rw[eD,cN]
 have q:(1:Int)<=2 ^ E:=by have:=eB (n:=2) (m:=E) (by decide);lia
 have w:=qE (j p e).2.1;have C:=qE (j p e).2.2;have H:tp lo=p.1:=by rw[e];rfl
 have B:bt lo=p.2:=by rw[e];rfl
 have z:tp hi<=2 ^ E/\bt hi<=2 ^ E:=by
  cases k:hi with
  |none=>exact⟨q,by show (0:Int)<=_;lia⟩
  |some r=>have y:=qE (f r k).2.1;have D:=qE (f r k).2.2;exact⟨by show r.1<=_;lia,by show r.2<=_;lia⟩
 have F:=g.pos;exact⟨g,o,sk (by lia) (by lia),sk (by lia) (by lia)⟩
noncomputable def Qi(z:Int×Int)(f:Int):Int×Int:=(f*z.1+z.2,z.1)
theorem Aa E (n:E<=7000) x0 x1 x2 x3 x5 x6:∀(a:LI) (z:Int×Int) (b:Option W),(∀f∈a,Bn E f)->(∀k,k<=a.length->Bn (2*E+10) ((a.take k).foldl Qi z).1)->
  ∃d,iO (jD 4) (lj c) (a.map T.int) [x0,x1,x2,x3,b,x5,x6,some (.p (fr z))]=.nx [x0,x1,x2,x3,d,x5,x6,some (.p (fr (a.foldl Qi z)))]
 |[],z,b,_,_=>⟨b,rfl⟩
 |f::a,z,b,hf,hb=>by
  have o:=hf f (by simp);have i:Bn (2*E+10) z.1:=by simpa using hb 0 (bG _)
  obtain⟨d,e⟩:=Aa E n x0 x1 x2 x3 x5 x6 a (Qi z f) (some (.p (.int f))) (λg j=>hf g (by simp[j])) (λk l=>by simpa using hb (k+1) (by simpa using l));refine⟨d,?_⟩;have m:lj c [x0,x1,x2,x3,some (.p (.int f)),x5,x6,some (.p (fr z))]=.nx [x0,x1,x2,x3,some (.p (.int f)),x5,x6,some (.p (fr (Qi z f)))]:=fP (nE (fE (fE rfl (fE rfl rfl (my z)) (ik (o.ok i (by lia) (by lia)))) (fE rfl rfl (lM z)) (iR _ _)) (fE rfl rfl (my z))) rfl
  rw[bE,iO];have h:jD 4 (.int f) [x0,x1,x2,x3,b,x5,x6,some (.p (fr z))]=some [x0,x1,x2,x3,some (.p (.int f)),x5,x6,some (.p (fr z))]:=rfl;rw[h];dsimp only;rw[m];exact e
def zU fs y:fs.reverse.foldl Qi y=rb fs y:=by rw[List.foldl_reverse];rfl
def Kz E (i:E<=7000) x0 x1 x2 x3 x5 x6 fs y x4 (g:∀f∈fs,Bn E f) (d:∀k,k<=fs.length->Bn (2*E+10) (rb (fs.drop k) y).1) :
  ∃a,iO (jD 4) (lj c) (fs.reverse.map T.int) [x0,x1,x2,x3,x4,x5,x6,some (.p (fr y))]=.nx [x0,x1,x2,x3,a,x5,x6,some (.p (fr (rb fs y)))]:=by
 obtain⟨a,e⟩:=Aa E i x0 x1 x2 x3 x5 x6 fs.reverse y x4 (λf b=>g f (by simpa using b)) (λk j=>by
  have h:fs.reverse.take k=(fs.drop (fs.length-k)).reverse:=by rw[List.take_reverse]
  rw[h,zU];exact d _ (by lia))
 rw[zU]at e;exact⟨a,e⟩
def M7 p r:fX false (fr p) (fr r)=.ok (.bl (decide (p=r))):=by
 have:=OH false [p.1,p.2] [r.1,r.2];have e:decide ([p.1,p.2]=[r.1,r.2])=decide (p=r):=by
  by_cases h:p=r
  .rw[aB h,aB (by rw[h])]
  .rw[aA h,aA];intro z;simp at z;exact h (Prod.ext z.1 z.2)
 simp only[b8,if_false]at this;rw[e]at this;exact this
theorem wc E (hE:E<=7000) lo hi (Z:Oe E lo) (h2:Oe E hi) (L:∀p r,lo=some p->hi=some r->qv p<qv r) :
  ∃x,jF c [oT lo,oT hi]=.ok (fr x)/\Gd lo hi x/\Bn (2*E+4) x.1/\Bn (E+1) x.2:=by
 have w0:=nR (c:=c) E (by lia) lo hi Z h2;have i0:LZ E lo hi [] lo hi:=⟨.nil,Z,h2,L,λf hf=>(nomatch hf),λz=>absurd rfl z⟩;have fu:A9 (ux lo hi [] none none none)<OU (ux lo hi [] none none none):=by
  cases el:lo with
  |none=>cases eh:hi<;>(unfold ux A9 OU oT;simp)
  |some p=>
   cases eh:hi with
   |none=>unfold ux A9 OU oT;simp[fr]
   |some r=>
    by_cases hw:n9 (some p) (wb (some p) (some r):Rat)/\nO (some r) (wb (some p) (some r):Rat)
    .unfold ux A9 OU oT;rw[uG hw];simp[fr]
    .unfold ux A9 OU oT;rw[uB hw];simp[fr]
 obtain⟨ρ',e,b,a,fs,I,K,D,rfl,C,hl,hh⟩:=oF (g:=lH c) (λρ=>∃b a fs I K D,ρ=ux b a fs I K D/\LZ E lo hi fs b a) A9
  (λρ=>∃b a fs I K D,ρ=ux b a fs I K D/\LZ E lo hi fs b a/\n9 b (wb b a:Rat)/\nO a (wb b a:Rat)) (KP E hE lo hi) (OU (ux lo hi [] none none none)) (ux lo hi [] none none none) ⟨lo,hi,[],none,none,none,rfl,i0⟩ fu
 have wi:=uG ⟨hl,hh⟩;have P:(2:Int) ^ (E+1)=2*2 ^ E:=by rw[eD,cN]
 have P1:(1:Int)<=2 ^ E:=by have:=eB (n:=2) (m:=E) (by decide);lia
 have wB:Bn (E+1) (wb b a):=by have:=L8 C.l C.h;unfold Bn;have p0:=df E;rw[cX];lia
 have fin:Gd lo hi (rb fs (wb b a,1))/\Bn (2*E+4) (rb fs (wb b a,1)).1/\Bn (E+1) (rb fs (wb b a,1)).2/\∀k,k<=fs.length->Bn (2*E+10) (rb (fs.drop k) (wb b a,1)).1:=by
  have B:=C.path;have hfb:=C.fb;cases B with
  |nil=>exact⟨⟨by show n9 lo (qv (wb lo hi,1));rw[Eu];exact hl,by show nO hi (qv (wb lo hi,1));rw[Eu];exact hh,mI,Ie _⟩,wB.mono (by lia),by show Bn (E+1) 1;exact sk (by lia) (by lia),λk _=>by rw[List.drop_nil];exact wB.mono (by lia)⟩
  |cons s B=>
   rename_i i j f A;obtain⟨p,r,e1,e2,hf,e3,e4,p2,r2,g3,g4⟩:=s.ex;obtain⟨Q,fl2⟩:=qw p.1 p.2 p2;rw[<-hf]at Q fl2;have q4:(f+1)*r.2=f*r.2+r.2:=by grind
   have q5:(f+1)*p.2=f*p.2+p.2:=by grind
   have y:0<r.1-f*r.2:=by
    have a1:=aI Q (az r2);have J:f*r.2*p.2<r.1*p.2:=by
     have:f*r.2*p.2=f*p.2*r.2:=by grind
     lia
    have:=eA J (az p2);lia
   have bp:=qE (Z p e1).2.2;have br:=qE (h2 r e2).2.2;have F:Oe E i:=λo d=>by rw[e3]at d;cases d;exact⟨y,(h2 r e2).2.2,sk (by dsimp only;lia) (by dsimp only;lia)⟩
   have H:Oe E j:=λq d=>by
    rw[e4]at d;split at d
    .cases d
    .cases d;exact⟨by dsimp only;lia,(Z p e1).2.2,sk (by dsimp only;lia) (by dsimp only;lia)⟩
   obtain⟨g,a1,J,a3⟩:=yn B (r.2,r.1-f*r.2) e3 y r2 F H C.h hl hh;have fB:=hfb f (by simp);have gy:Bn (2*E+4) (f*(rb A (wb b a,1)).1+(rb A (wb b a,1)).2):=((fB.mul J).add a3).mono (by lia);refine⟨Ds s g a1,gy,J,λk hk=>?_⟩;have sm:∀(fs:LI) (i j:Option (Int×Int)),w6 i j fs b a->(∃p,i=some p/\0<p.2/\0<p.1)->Oe E i->Oe E j->∀k,k<=fs.length->Bn (2*E+10) (rb (fs.drop k) (wb b a,1)).1:=by
    intro fs;induction fs with
    |nil=>intro _ _ _ _ _ _ k _;rw[List.drop_nil];exact wB.mono (by lia)
    |cons u fs2 ih=>
     rintro i j B ⟨p,e,c1,c2⟩ F H k hk;cases k with
     |zero=>obtain⟨_,_,b2,_⟩:=yn B p e c1 c2 F H C.h hl hh;rw[c6];exact b2.mono (by lia)
     |succ k=>
      cases B with
      |cons s2 hp2=>
       obtain⟨o,q,S,N,hf',U,e4',X,R,g3',g4'⟩:=s2.ex;obtain⟨w,Y⟩:=qw o.1 o.2 X;rw[<-hf']at w Y;have q4':(u+1)*q.2=u*q.2+q.2:=by grind
       have q5':(u+1)*o.2=u*o.2+o.2:=by grind
       have v:0<q.1-u*q.2:=by
        have a1:=aI w (az R);have J:u*q.2*o.2<q.1*o.2:=by
         have:u*q.2*o.2=u*o.2*q.2:=by grind
         lia
        have:=eA J (az X);lia
       have bp':=qE (F o S).2.2;have br':=qE (H q N).2.2;have:=ih _ _ hp2 ⟨_,U,v,R⟩ (λp'' d=>by rw[U]at d;cases d;exact⟨v,(H q N).2.2,sk (by dsimp only;lia) (by dsimp only;lia)⟩) (λr'' d=>by
        rw[e4']at d;split at d
        .cases d
        .cases d;exact⟨by dsimp only;lia,(F o S).2.2,sk (by dsimp only;lia) (by dsimp only;lia)⟩) k (by simpa using hk)
       simpa using this
   cases k with
   |zero=>rw[c6];exact gy.mono (by lia)
   |succ k=>simpa using sm A i j B ⟨_,e3,y,r2⟩ F H k (by simpa using hk)
 obtain⟨f1,u,f3,f4⟩:=fin;obtain⟨y4,eb⟩:=Kz (c:=c) E hE (some (.p (oT b))) (some (.p (oT a))) (some (.p (.lst (fs.map T.int)))) (some (.p (FE b a))) K D fs (wb b a,1) I C.fb f4;refine⟨rb fs (wb b a,1),?_,f1,u,f3⟩;have t0:L3.l8 (gD (fL (jL true) (fv 0) (cM .non))) (gD (fL (fX false) (fv 0) (fv 1))) (vw (gM 8 [oT lo,oT hi]))=.ok false:=by
  cases el:lo with
  |none=>exact q8 (fQ (fE rfl rfl rfl))
  |some p=>
   cases eh:hi with
   |none=>exact lx (fQ (fE rfl rfl rfl)) (fQ (fE rfl rfl (by show fX false (fr p) .non=_;rfl)))
   |some r=>refine lx (fQ (fE rfl rfl rfl)) (fQ (fE rfl rfl ?_));show fX false (fr p) (fr r)=_;rw[M7,aA];intro z;have:=L p r el eh;rw[z]at this;exact absurd this (by grind)
 refine gh rfl (fF (fH t0 rfl) (fF (lD (ts:=[]) rfl rfl) (fF (fP (t:=FE lo hi) (hW rfl rfl w0) rfl) (fF (ρ':=ux b a fs I K D) e (fF (fP (t:=fr (wb b a,1)) (nE (by show fv 3 _=.ok (.int (wb b a));rw[<-wi];rfl) rfl) rfl) (fF (PJ (ts:=fs.map T.int) rfl (iW (its:=fs.reverse.map T.int) (by rw[List.map_reverse];rfl) eb)) (fS rfl)))))))
def rj N M row other a (C:a<row.length) (H:other.length=row.length) (hs:row.length<1000) (Y:N+M+1<=8000) (j:∀x∈row,Bn N x) (l:∀x∈other,Bn M x) (Q:vc other a≠0) :
  ∃r,iu c [tI row,tI other,.int (a:Int)]=.ok (tI r)/\r.length=row.length/\(∀x∈r,Bn (N+M+1) x)/\vc r a=0/\∃g s b:Int,0<g/\0<s/\(∀i,g*vc r i=s*vc row i+b*vc other i)/\(vc row a≠0->s=((vc other a).natAbs:Int)/\b = -vc row a*qN (vc other a)):=by
 have sz:1000<sizeLine:=by decide
 have q:gS (tI row) (.int (a:Int))=.ok (.int (vc row a)):=jA row a C;have A:gS (tI other) (.int (a:Int))=.ok (.int (vc other a)):=jA other a (by lia);have v:Bn N (vc row a):=j _ (getD_mem row a C);have L:Bn M (vc other a):=l _ (getD_mem other a (by lia));by_cases k:vc row a=0
 .exact⟨row,gh rfl (j5 (fW (fQ (fE (fE rfl rfl q) rfl (by rw[ib,k];rfl))) (fS rfl)) rfl),rfl,λx S=>(j x S).mono (by lia),k,1,1,0,by decide,by decide,λi=>by lia,λz=>absurd k z⟩
 .generalize K:vc other a=o at *;generalize Z:vc row a=x0 at *;have U:EI [.int o]=.ok (.int (o.natAbs:Int)):=by simp[QL]
  let w:Int:=-x0*qN o;have I:=El o;have B:Bn N w:=by
   refine b5 ?_ v;show (-x0*qN o).natAbs<=_;rw[aX,cZ];have:(qN o).natAbs<=1:=by lia
   exact aM (eE _ this) (by lia)
  have D:Bn M (o.natAbs:Int):=b5 (by lia) L;let d:LI:=(row.zip other).map λp=>(o.natAbs:Int)*p.1+w*p.2;have P:d.length=row.length:=by simp[d,H]
  have u:∀y∈d,Bn (N+M+1) y:=λy F=>by obtain⟨p,h,rfl⟩:=aC.mp F;exact ((D.mul (j _ (aV h).1)).add (B.mul (l _ (aV h).2))).mono (by lia)
  have e:∀i,vc d i=(o.natAbs:Int)*vc row i+w*vc other i:=λi=>by
   by_cases X:i<row.length
   .rw[rH d i (by lia),rH row i X,rH other i (by lia)];simp[d]
   .rw[wd d i (by lia),wd row i (by lia),wd other i (by lia),dk,dk];rfl
  obtain⟨g,r,J,E,R,f,m⟩:=FA (c:=c) (N+M+1) Y d (by lia) u;refine⟨r,gh rfl (fF (fH (fQ (fE (fE rfl rfl q) rfl (by rw[ib];simp[k]))) rfl) (fF (fP (t:=.int (o.natAbs:Int)) (oX (fE rfl rfl A) U) rfl) (fF (fP (t:=.int w) ?_ rfl) (fS (qF (x:=tI d) ?_ E))))),by lia,m,?_,g,(o.natAbs:Int),w,J,by lia,λi=>by rw[<-f i,e i],λ_=>⟨rfl,rfl⟩⟩
  .refine fE (x:=.int (-x0)) (y:=.int (qN o)) ?_ (qF (fE rfl rfl A) (qK o)) (ik ((v.neg).ok (n:=2) ?_ (by lia) (by decide)))
   .exact tF (fE rfl rfl q)
   .unfold Bn;show _<4;lia
  .refine oX (t:=.lst (d.map T.int)) (iE (kr (row.zip other) (λp=>T.tup [.int p.1,.int p.2]) (λp=>T.int ((o.natAbs:Int)*p.1+w*p.2)) (pP rfl rfl rfl rfl) (by simp;lia) (λp h=>⟨_,rfl,rfl,?_⟩) (by rw[aH];rfl))) rfl;exact fE (fE rfl rfl (ik (D.ok (j _ (aV h).1) (by lia) (by lia)))) (fE rfl rfl (ik (B.ok (l _ (aV h).2) (by lia) (by lia)))) (iR _ _)
  .refine qM (g:=g) (by lia) ?_;rw[<-f a,e a,K,Z];show _ + -x0*qN o*o=_;rw[cL,Kl,du,cN x0];lia
theorem qt P x1 L M (hL:L<1000):∀(pv:List (Nat×LI)) (b:LI) (N:Nat) (j l:Option W),N+pv.length*(M+1)<=8000->b.length=L->(∀x∈b,Bn N x)->(∀p∈pv,p.1<L/\p.2.length=L/\vc p.2 p.1≠0/\(∀x∈p.2,Bn M x)/\P (vc p.2))->pv.Pairwise (λp q=>vc q.2 p.1=0)->
  ∃r n E,iO (lb 2 (gO (jD 2) (gO (jD 3) kX))) (qZ c) (pv.map ke) [some (.p (tI b)),x1,j,l]=.nx [some (.p (tI r)),x1,n,E]/\r.length=L/\(∀x∈r,Bn (N+pv.length*(M+1)) x)/\
   (∃g s y,0<g/\0<s/\Qs P y/\∀i,g*vc r i=s*vc b i+1*y i)/\(∀k,vc b k=0->(∀p∈pv,vc p.2 k=0)->vc r k=0)/\∀p∈pv,vc r p.1=0
 |[],b,N,j,l,_,hl,hb,_,_=>⟨b,j,l,rfl,hl,λx w=>(hb x w).mono (by lia),⟨1,1,λ_=>0,by decide,by decide,.zero,λi=>by lia⟩,λk A _=>A,λp d=>nomatch d⟩
 | (a,prow)::pv,b,N,j,l,hN,hl,hb,hA,hw=>by
  obtain⟨h1,h2,h3,h4,Z⟩:=hA (a,prow) (bh ..);obtain⟨w1,w2⟩:=List.pairwise_cons.mp hw;rw[ay,bX]at hN;obtain⟨H,e1,S,Q,z0,f,z,X,D,F,I,_⟩:=rj N M b prow a (by lia) (by lia) (by lia) (by lia) hb h4 h3;obtain⟨r,n,E,e,v,o,⟨B,h,y,u,m,R,U⟩,J,K⟩:=qt P x1 L M hL pv H (N+M+1) (some (.p (.int a))) (some (.p (tI prow))) (by lia) (by rw[S,hl]) Q (λp d=>hA p (bj _ d)) w2;refine⟨r,n,E,?_,v,λx w=>(o x w).mono (by rw[ay,bX];lia),⟨f*B,h*z,_,aW D u,aW m F,Qs.comb (h*X) f (.of Z) R,λi=>?_⟩,λk A d=>?_,λp d=>?_⟩
  .rw[bE,iO];have z:(lb 2 (gO (jD 2) (gO (jD 3) kX))) (ke (a,prow)) [some (.p (tI b)),x1,j,l]=some [some (.p (tI b)),x1,some (.p (.int a)),some (.p (tI prow))]:=rfl;rw[z];have h:qZ c [some (.p (tI b)),x1,some (.p (.int a)),some (.p (tI prow))]=.nx [some (.p (tI H)),x1,some (.p (.int a)),some (.p (tI prow))]:=fP (kW rfl rfl rfl e1) rfl;dsimp only;rw[h];exact e
  .calc f*B*vc r i=f*(B*vc r i):=by ac_rfl
    _=h*(f*vc H i)+f*y i:=by rw[U i,dg,dy];congr 1;ac_rfl
    _=_:=by rw[I i,dy];simp only[dg,cL,Int.add_assoc]
  .refine J k (qM (g:=f) (by lia) ?_) λp C=>d p (bj _ C);have:=d (a,prow) (bh ..);dsimp only at this;rw[I k,A,this,dk,dk];rfl
  .rcases aE.mp d with rfl|d
   .exact J _ z0 λq Y=>w1 q Y
   .exact K p d
def we P L M N (h:L<1000) (pv:List (Nat×LI)) row (j:N+pv.length*(M+1)<=8000) (a:row.length=L) (f:∀x∈row,Bn N x) (k:∀p∈pv,p.1<L/\p.2.length=L/\vc p.2 p.1≠0/\(∀x∈p.2,Bn M x)/\P (vc p.2)) (hw:pv.Pairwise (λp q=>vc q.2 p.1=0)) :
  ∃r:LI,kf c [tI row,.lst (pv.map ke)]=.ok (tI r)/\r.length=L/\(∀x∈r,Bn (N+pv.length*(M+1)) x)/\
   (∃g s y,0<g/\0<s/\Qs P y/\∀i,g*vc r i=s*vc row i+1*y i)/\∀p∈pv,vc r p.1=0:=by
 obtain⟨r,n,o,e,b,l,d,-,m⟩:=qt P (some (.p (.lst (pv.map ke)))) L M h pv row N none none j a f k hw;exact⟨r,gh rfl (fF (iW rfl e) (fS rfl)),b,l,d,m⟩
def lV(us:LL)(d:Nat)(x:Vc):Prop:=∀k,k<=d->x k=sm us.length λi=>x (d+1+i)*vc (us.getD i []) k
def lV.comb(j:g≠0)(l:lV us d x)(h:lV us d y)(e:∀i,g*z i=a*x i+b*y i):lV us d z:=λk f=>by refine Int.eq_of_mul_eq_mul_left j ?_;rw[e k,l k f,h k f,<-zF,<-vh];refine ka _ _ _ λi _=>?_;have:=e (d+1+i);rw[<-cL g,this];grind
def lV.zero:lV us d λ_=>0:=λk _=>by
 have:(λi=>0*vc (us.getD i []) k)=λ_=>0:=by funext i;simp
 rw[this,uF]
def lV.qs(h:∀x,P x->lV us d x)(q:Qs P z):lV us d z:=by
 induction q with
 |zero=>exact .zero
 |of p=>exact h _ p
 |lin _ _ hs e i1 i2=>exact i1.comb hs i2 e
noncomputable def wr(us:LL)(k:Nat):LI:=us.getD k []++(List.replicate us.length (0:Int)).set k 1
def Ad us d k (a:k<us.length) (f:∀u∈us,u.length=d+1) i:vc (wr us k) i=if i<d+1 then vc (us.getD k []) i else if i-(d+1)=k then 1 else 0:=by
 have b:us.getD k []∈us:=by rw[af,ag a];exact aU a
 have e:=f _ b;unfold wr;generalize us.getD k []=u at *;unfold vc;rw[af,List.getElem?_append,e];split
 .rw[af]
 .rw[List.getElem?_set];split
  .rename_i h;rw[aP h.symm];rw[bM];rw[aP (by lia)];rfl
  .rename_i h;rw[aQ (λz=>h z.symm),List.getElem?_replicate];split<;>rfl
def B3 us d k (a:k<us.length) (b:∀u∈us,u.length=d+1):(wr us k).length=d+1+us.length:=by
 have e:us.getD k []∈us:=by rw[af,ag a];exact aU a
 have f:=b _ e;unfold wr;generalize us.getD k []=u at *;simp[f]
def Mg(f:1<=B) us k (a:k<us.length) (d:∀u∈us,∀x∈u,Bn B x):∀x∈wr us k,Bn B x:=λx e=>by
 have b:us.getD k []∈us:=by rw[af,ag a];exact aU a
 rcases ai.mp e with h|h
 .exact d _ b x h
 .rcases eF h with h|h
  .rw[a9 h];exact zG
  .rw[h];have:Bn 1 1:=by unfold Bn;decide
   exact this.mono f
def FP us d k (a:k<us.length) (b:∀u∈us,u.length=d+1):lV us d (vc (wr us k)):=λp e=>by
 rw[Ad us d k a b p,aP (by lia)];have:(λi=>vc (wr us k) (d+1+i)*vc (us.getD i []) p)=λi=>(if i=k then 1 else 0)*vc (us.getD i []) p:=by funext i;rw[Ad us d k a b (d+1+i),aQ (by lia),show d+1+i-(d+1)=i by lia]
 rw[this,yJ _ k _ a]
noncomputable def Pq(B:Nat):Nat->Nat
 |0=>0
 |k+1=>Pq B k+(B+k*(Pq B k+1))+1
def JR B k:Pq B k<=Pq B (k+1):=by show _<=Pq B k+(B+k*(Pq B k+1))+1;lia
structure PV(us:LL)(d B:Nat)(dn:List Nat)(pv:List (Nat×LI))(rs:LL)(ix:List Nat):Prop where
 len:pv.length=ix.length
 pl:∀p∈pv,p.1<d/\p.2.length=d+1+us.length/\vc p.2 p.1≠0/\(∀x∈p.2,Bn (Pq B pv.length) x)/\lV us d (vc p.2)/\∀i,i∉ix->vc p.2 (d+1+i)=0
 pw:pv.Pairwise λp q=>p.1≠q.1/\vc q.2 p.1=0/\vc p.2 q.1=0
 rr:∀r∈rs,r.length=d+1+us.length/\(∀k,k<d->vc r k=0)/\lV us d (vc r)/\(∀i,i∉dn->vc r (d+1+i)=0)/\∀x∈r,Bn (B+d*(Pq B d+1)) x
 sub:∀i∈ix,i∈dn
 sp:∀z∈dn,Qs (λx=>(∃p∈pv,x=vc p.2)\/∃r∈rs,x=vc r) (vc (wr us z))
def PV.short{pv:List (Nat×LI)}(h:PV us d B dn pv rs ix):pv.length<=d:=by
 have nd:=eG.mpr (h.pw.imp λq=>q.1);have:=pL d (pv.map Prod.fst) nd λx b=>by obtain⟨p,a,rfl⟩:=aC.mp b;exact (h.pl p a).1
 simpa using this
def Ag(h:k<=d):Pq B k<=Pq B d:=by
 induction h with
 |refl=>exact aJ _
 |step _ ih=>exact aM ih (JR B _)
def Qs.at_zero(h:∀x,P x->x k=0)(q:Qs P z):z k=0:=Qs.at0 h q
def Lj{pv:List (Nat×LI)}(h:PV us d B dn pv rs ix)(J:lV us d (vc (wr us z)))(hw:∀i,i≠z->vc (wr us z) (d+1+i)=0)(K:0<g)(L:0<s)(m:Qs (J5 pv) y)(e:∀i,g*vc left i=s*vc (wr us z) i+1*y i)
  (v:left.length=d+1+us.length) (D:∀k,k<d->vc left k=0) (C:∀x∈left,Bn (B+d*(Pq B d+1)) x):PV us d B (dn++[z]) pv (rs++[left]) ix:=by
 have o:=lV.qs (λx ⟨p,j,f⟩=>by rw[f];exact (h.pl p j).2.2.2.2.1) m;refine⟨h.len,h.pl,h.pw,λr hr=>?_,λi l=>ax _ (h.sub i l),λI n=>?_⟩
 .rcases ai.mp hr with hr|hr
  .obtain⟨w,u,A,F,H⟩:=h.rr r hr;exact⟨w,u,A,λi l=>F i (λq=>l (ax _ q)),H⟩
  .rw[aj.mp hr];refine⟨v,D,J.comb (by lia) o e,λi l=>?_,C⟩;refine qM (g:=g) (by lia) ?_;rw[e,hw i (λq=>l (by simp[q]))];have:=Qs.at_zero (λx ⟨p,j,f⟩=>by rw[f];exact (h.pl p j).2.2.2.2.2 i (λq=>l (ax _ (h.sub i q)))) m;rw[this];simp
 .rcases ai.mp n with q|q
  .exact (h.sp I q).mono λx E=>by
    rcases E with⟨p,j,f⟩|⟨r,hr,f⟩
    .exact .inl ⟨p,j,f⟩
    .exact .inr ⟨r,ax _ hr,f⟩
  .rw[aj.mp q];exact .lin (s:=s) (a:=g) (b:=-1) (.of (.inr ⟨left,by simp,rfl⟩)) (m.mono λx ⟨p,j,f⟩=>.inl ⟨p,j,f⟩) (by lia) λi=>by have:=e i;lia
def GT{pv:List (Nat×LI)}(h:PV us d B dn pv rs ix)(hz:lV us d (vc (wr us z)))(hw:∀i,i≠z->vc (wr us z) (d+1+i)=0)(hg:0<g)(hs:0<s)(I:Qs (J5 pv) y)(e:∀i,g*vc left i=s*vc (wr us z) i+1*y i)
  (hl:left.length=d+1+us.length) (m:∀p∈pv,vc left p.1=0) (hb:∀x∈left,Bn (B+pv.length*(Pq B pv.length+1)) x) (ha:a<d) (w:vc left a≠0) (f:Nat×LI->LI)
  (C:∀p∈pv,(f p).length=p.2.length/\(∀x∈f p,Bn (Pq B (pv.length+1)) x)/\vc (f p) a=0/\∃g s b:Int,0<g/\0<s/\∀i,g*vc (f p) i=s*vc p.2 i+b*vc left i) :
  PV us d B (dn++[z]) (pv.map (λp=>(p.1,f p))++[(a,left)]) rs (ix++[z]):=by
 have ly:=lV.qs (λx ⟨p,j,n⟩=>by rw[n];exact (h.pl p j).2.2.2.2.1) I;have S:=hz.comb (by lia) ly e;have R:∀i,i∉ix++[z]->vc left (d+1+i)=0:=λi l=>by refine qM (g:=g) (by lia) ?_;rw[e,hw i (λq=>l (by simp[q]))];have:=Qs.at_zero (λx ⟨p,j,n⟩=>by rw[n];exact (h.pl p j).2.2.2.2.2 i (λq=>l (ax _ q))) I;rw[this];simp
 have ne:∀p∈pv,p.1≠a:=λp j q=>w (q▸m p j);refine⟨by simp[h.len],λp j=>?_,?_,λr hr=>?_,λi l=>?_,λz' P=>?_⟩
 .simp only[aS,aw,bW];rcases ai.mp j with j|j
  .obtain⟨o,k,rfl⟩:=aC.mp j;obtain⟨K,J,L,X,Q,a6⟩:=h.pl o k;obtain⟨f1,f2,f3,A,H,v,D,E,u⟩:=C o k;refine⟨K,by rw[f1,J],λq=>L ?_,f2,Q.comb (by lia) S u,λi l=>?_⟩
   .have:=u o.1;rw[q,m o k,dk,dk,dz]at this;exact qM (g:=H) (by lia) this.symm
   .refine qM (g:=A) (by lia) ?_;rw[u,a6 i (λq=>l (ax _ q)),R i l];simp
  .rw[aj.mp j];exact⟨ha,hl,w,λx N=>(hb x N).mono (by show _<=Pq B pv.length+(B+pv.length*(Pq B pv.length+1))+1;lia),S,R⟩
 .refine dE.mpr ⟨eG.mpr (h.pw.imp_of_mem λ{p q} j F r=>?_),eI _ _,λp j q F=>?_⟩
  .obtain⟨r1,r2,r3⟩:=r;obtain⟨_,_,_,A,H,v,D,E,u⟩:=C p j;obtain⟨_,_,_,g2,s2,b2,hg2,hs2,v2⟩:=C q F;refine⟨r1,qM (g:=g2) (by lia) ?_,qM (g:=A) (by lia) ?_⟩
   .rw[v2,r2,m p j];simp
   .rw[u,r3,m q F];simp
  .obtain⟨o,k,rfl⟩:=aC.mp j;rw[aj.mp F];exact⟨ne o k,m o k,(C o k).2.2.1⟩
 .obtain⟨K,J,L,X,Q⟩:=h.rr r hr;exact⟨K,J,L,λi l=>X i (λq=>l (ax _ q)),Q⟩
 .rcases ai.mp l with l|l
  .exact ax _ (h.sub i l)
  .exact bC _ l
 .let U:Vc->Prop:=λx=>(∃p∈pv.map (λp=>(p.1,f p))++[(a,left)],x=vc p.2)\/∃r∈rs,x=vc r;have Z:Qs U (vc left):=.of (.inl ⟨(a,left),by simp,rfl⟩);have Y:∀p∈pv,Qs U (vc p.2):=λp j=>by obtain⟨_,_,_,A,H,v,D,E,u⟩:=C p j;exact .lin (s:=H) (a:=A) (b:=-v) (.of (.inl ⟨(p.1,f p),ax _ (aC.mpr ⟨p,j,rfl⟩),rfl⟩)) Z (by lia) λi=>by have:=u i;have e2:-v*vc left i = -(v*vc left i):=du _ _;dsimp only at this ⊢;lia
  rcases ai.mp P with q|q
  .exact (h.sp z' q).sub λx N=>by
    rcases N with⟨p,j,n⟩|⟨r,hr,n⟩
    .rw[n];exact Y p j
    .exact .of (.inr ⟨r,hr,n⟩)
  .rw[aj.mp q];exact .lin (s:=s) (a:=g) (b:=-1) Z (I.sub λx ⟨p,j,n⟩=>by rw[n];exact Y p j) (by lia) λi=>by have:=e i;lia
structure PU(d B:Nat):Prop where
 b1:1<=B
 le:∀k,k<=d->B+k*(Pq B k+1)<=8000
 pq:Pq B d<=8000
def P7 us d k (a:k<us.length) (b:∀u∈us,u.length=d+1):∀i,i≠k->vc (wr us k) (d+1+i)=0:=λi e=>by rw[Ad us d k a b,aQ (by lia),aQ (by lia)]
theorem CB us d B (hd:d<=4) (hn:us.length<=8) (hl:∀u∈us,u.length=d+1) (hb:∀u∈us,∀x∈u,Bn B x) (hB:PU d B) zs (hz:∀z∈zs,z<us.length) (hzl:zs.length<=8) :
  ∃pv l I,gX c [.lst ((zs.map (wr us)).map tI),.int (d:Int)]=.ok (.tup [.lst (pv.map ke),.lst (l.map tI)])/\PV us d B zs pv l I/\l.length<=8:=by
 have sz:1000<sizeLine:=by decide
 have hrm:zu (d:Int)=true:=jI (by lia);obtain⟨ρ,e,pv,l,I,x4,x5,U,rfl,n,K⟩:=iH (m:=jD 4) (g:=iS c) (λz=>tI (wr us z))
  (λk ρ=>∃(pv:List (Nat×LI)) (l:LL) (I:List Nat) (x4 x5 U:Option W),ρ=[some (.p (.lst ((zs.map (wr us)).map tI))),some (.p (.int (d:Int))),some (.p (.lst (pv.map ke))),some (.o (l.map tI)),x4,x5,U]/\PV us d B (zs.take k) pv l I/\l.length<=k)
  zs 0 _ ⟨[],[],[],none,none,none,rfl,⟨rfl,(λp a=>nomatch a),List.Pairwise.nil,(λp a=>nomatch a),(λp a=>nomatch a),(λz hz=>by simp at hz)⟩,aJ _⟩ (by
   rintro k z ρ hi ⟨pv,l,I,x4,x5,U,rfl,n,K⟩;rw[aF]at n K ⊢;have E:=hz z (au hi);have hkl:=(aa.mp hi).1;have L:=n.short;have F:=FP us d z E hl;have hww:=P7 us d z E hl;have hbb:=hB.le pv.length L;obtain⟨left,el,hll,J,⟨g,s,y,hg,hs,hy,ey⟩,h0⟩:=we (c:=c) (J5 pv) (d+1+us.length) (Pq B pv.length) B (by lia) pv (wr us z) hbb (B3 us d z E hl) (Mg hB.b1 us z E hb) (λp a=>by obtain⟨q1,q2,q3,q4,_⟩:=n.pl p a;exact⟨by lia,q2,q3,q4,p,a,rfl⟩) (n.pw.imp λh=>h.2.1)
   let w:List Nat:=(List.range d).filter λj=>left.getD j 0 != 0;let R:En:=[some (.p (.lst ((zs.map (wr us)).map tI))),some (.p (.int (d:Int))),some (.p (.lst (pv.map ke))),some (.o (l.map tI)),some (.p (tI (wr us z))),some (.p (tI left)),some (.p (.lst (w.map λ(j:Nat)=>T.int (j:Int))))];have e4:kP [none,some 5] (ng (fj (fv 1) fC)) (jV 0) (gD (fL (fX true) (fL gS (fv 1) (fv 0)) (cM (.int 0)))) (ku c) (nH [some (.p (.lst ((zs.map (wr us)).map tI))),some (.p (.int (d:Int))),some (.p (.lst (pv.map ke))),some (.o (l.map tI)),some (.p (tI (wr us z))),some (.p (tI left)),U])=.ok (w.map λ(j:Nat)=>T.int (j:Int)):=nv (List.range d) (λ(j:Nat)=>T.int (j:Int)) (λ(j:Nat)=>T.int (j:Int)) (λj=>left.getD j 0 != 0) (by simp[hrm,FK]) (by simp;lia) (λj hj=>⟨_,rfl,fQ (fE (fE rfl rfl (jA left j (by have:=aR.mp hj;lia))) rfl (lL _ _)),λ_=>rfl⟩) rfl
   have N:qq (w.map λ(j:Nat)=>T.int (j:Int))=true:=pk _ _ λ_ _=>rfl;have S:rJ (w.map λ(j:Nat)=>T.int (j:Int))<=90:=aM (pB _ 0 _ λ_ _=>aJ _) (by decide);have A:gD (fL (fX false) (fv 6) (iB (lstM fC))) (vw R)=.ok w.isEmpty:=by refine fQ (fE (x:=.lst (w.map λ(j:Nat)=>T.int (j:Int))) (y:=.lst []) rfl (by simp) ?_);rw[uv false _ N S];simp
   have Y:∀r,(jT (gD (fL (fX false) (fv 6) (iB (lstM fC)))) (pb 3 (g9 (fv 5))) (setO 2 (g9 (iB (jo (fj (fv 2) (fj (fv 5) (fj (fL gS (fv 6) (cM (.int 0))) fC))) (jB c)))))) R=r->
     iS c [some (.p (.lst ((zs.map (wr us)).map tI))),some (.p (.int (d:Int))),some (.p (.lst (pv.map ke))),some (.o (l.map tI)),some (.p (tI (wr us z))),x5,U]=r:=λr hr=>
    fF (fP (t:=tI left) (hW rfl rfl el) rfl) (fF (fP (t:=.lst (w.map λ(j:Nat)=>T.int (j:Int))) (iE e4) rfl) hr)
   have mono:B+pv.length*(Pq B pv.length+1)<=B+d*(Pq B d+1):=b6 (eJ L (eK (Ag L) 1)) _;have tk:zs.take (k+1)=zs.take k++[z]:=iZ zs k z hi;cases C:w with
   |nil=>refine⟨_,_,rfl,.inl (Y _ (fW (by rw[A,C];rfl) (tz (t:=tI left) rfl rfl (by simp;lia) rfl))),pv,l++[left],I,_,_,_,by rw[aY];rfl,?_,by simp;lia⟩;rw[tk];refine Lj n F hww hg hs hy ey hll (λi him=>?_) (λx X=>(J x X).mono mono);refine aN λhc=>?_;have:i∈w:=aT.mpr ⟨aR.mpr him,by simpa[vc] using hc⟩;rw[C]at this;exact nomatch this
   |cons D js=>
    have Z:D∈w:=by rw[C];exact bh ..
    have H:D<d:=aR.mp (aT.mp Z).1;have v:vc left D≠0:=by have:=(aT.mp Z).2;simpa[vc] using this
    have Q:pv.length+1<=d:=by
     have nd:(D::pv.map Prod.fst).Nodup:=bJ.mpr ⟨λhm=>by obtain⟨p,a,ep⟩:=aC.mp hm;exact v (ep▸h0 p a),eG.mpr (n.pw.imp λq=>q.1)⟩
     have:=pL d _ nd λx X=>by
      rcases aE.mp X with rfl|X
      .exact H
      .obtain⟨p,a,rfl⟩:=aC.mp X;exact (n.pl p a).1
     simpa using this
    have hP:Pq B (pv.length+1)<=8000:=aM (Ag Q) hB.pq;obtain⟨f,hf⟩:=nX (P:=λ(p:Nat×LI) (r:LI)=>iu c [tI p.2,tI left,.int (D:Int)]=.ok (tI r)/\r.length=p.2.length/\(∀x∈r,Bn (Pq B (pv.length+1)) x)/\vc r D=0/\∃g s b:Int,0<g/\0<s/\∀i,g*vc r i=s*vc p.2 i+b*vc left i) pv λp a=>by obtain⟨q1,q2,q3,q4,_⟩:=n.pl p a;obtain⟨r,a1,a2,a3,a4,g,s,b,a5,a6,a7,_⟩:=rj (c:=c) (Pq B pv.length) (B+pv.length*(Pq B pv.length+1)) p.2 left D (by lia) (by lia) (by lia) hP q4 J v;exact⟨r,a1,a2,a3,a4,g,s,b,a5,a6,a7⟩
    have i0:fL gS (fv 6) (cM (.int 0)) (nH R)=.ok (.int (D:Int)):=fE (x:=.lst (w.map λ(j:Nat)=>T.int (j:Int))) rfl rfl (by rw[C];exact LY _ _);have e5:=qG (c:=c) pv left D f (by lia) λp a=>(hf p a).1;refine⟨_,_,rfl,.inl (Y _ (fH (by rw[A,C];rfl) (fP (iE (By rfl rfl i0 e5)) rfl))),_,l,I++[z],_,_,_,rfl,?_,by lia⟩;rw[tk];exact GT n F hww hg hs hy ey hll h0 J H v f λp a=>(hf p a).2)
 rw[aF,dh]at n;rw[aF]at K;refine⟨pv,l,I,gh rfl (fF (fP (t:=.lst []) (by simp) rfl) (fF (lD (ts:=[]) (by simp) rfl) (fF (iW (by rw[aH];rfl) e) (fS (nE rfl rfl))))),n,by lia⟩
noncomputable def nk(pv:List (Nat×LI))(d:Nat):List Nat:=(List.range d).filter λk=>!(pv.map Prod.fst).contains k
def IS neg (k:Nat) (l:List Nat):IZ neg (.int (k:Int)) (.lst (l.map λ(j:Nat)=>T.int (j:Int)))=.ok (.bl (if neg then !l.contains k else l.contains k)):=by
 have e:(l.map λ(j:Nat)=>T.int j).all jP=true:=cy.mpr λx b=>by obtain⟨y,-,rfl⟩:=aC.mp b;rfl
 have d:uo (.int k) (l.map λ(j:Nat)=>T.int j)=l.contains k:=by
  unfold uo;rw[cw,List.contains_eq_any_beq];congr 1;funext a;show Di (T.int a) (T.int k)=(k==a);rw[JZ];by_cases h:k=a
  .subst h;simp
  .have f:¬(a=(k:Int)):=by lia
   rw[beq_eq_false_iff_ne.mpr f,beq_eq_false_iff_ne.mpr h]
 show (if jP (T.int (k:Int))&&(l.map λ(j:Nat)=>T.int (j:Int)).all jP then _ else _)=_;rw[e,d];rfl
def vB pv (d:Nat) (f:d<=10) (b:pv.length<=100):kJ c [.lst (pv.map ke),.int (d:Int)]=.ok ((nk pv d).map λ(j:Nat)=>T.int (j:Int)):=by
 have sz:1000<sizeLine:=by decide
 have a:zu d=true:=jI (by lia);refine nJ rfl (fF (fP (t:=.lst ((pv.map Prod.fst).map λ(j:Nat)=>T.int j)) (iE (kr pv ke (λp=>T.int p.1) rfl (by lia) (λp b=>⟨_,rfl,rfl,rfl⟩) (by rw[aH];rfl))) rfl) (rz ?_));exact nv (List.range d) (λj=>T.int j) (λj=>T.int j) (λk=>!(pv.map Prod.fst).contains k) (by simp[a,FK]) (by simp;lia) (λj e=>⟨_,rfl,fQ (fE rfl rfl (IS true j _)),λ_=>rfl⟩) rfl
structure Jn(a:Nat)(x y r:LI):Prop where
 len:r.length=x.length
 at0:vc r a=0
 ex:∃g:Int,0<g/\∀i,g*vc r i = -vc y a*vc x i+vc x a*vc y i
def EU N x y a (p:a<x.length) (h:y.length=x.length) (u:x.length<1000) (E:2*N+1<=8000) (n:∀i∈x,Bn N i) (f:∀i∈y,Bn N i) (F:0<vc x a) (C:vc y a<0) :
  ∃r,iu c [tI x,tI y,.int (a:Int)]=.ok (tI r)/\Jn a x y r/\∀i∈r,Bn (2*N+1) i:=by
 obtain⟨r,e,l,b,z,g,s,w,k,d,v,q⟩:=rj N N x y a p h u (by lia) n f (by lia);obtain⟨D,j⟩:=q (by lia);have m:qN (vc y a) = -1:=by unfold qN;rw[aQ (by lia),aP C]
 refine⟨r,e,⟨l,z,g,k,λi=>?_⟩,λi o=>(b i o).mono (by lia)⟩;have A:s = -vc y a:=by lia
 have B:w=vc x a:=by rw[j,m];lia
 rw[v i,A,B]
noncomputable def EJ(d:Nat)(r:LI):Nat:=((r.drop (d+1)).filter λw=>w != 0).length
def AG kvs k t:(ug kvs k t).map Prod.fst=if (kvs.map Prod.fst).contains k then kvs.map Prod.fst else kvs.map Prod.fst++[k]:=by
 have h:(kvs.any λa=>decide (a.1=k))=(kvs.map Prod.fst).contains k:=by grind
 unfold ug;rw[h];split
 .rw[aH];refine List.map_congr_left λa _=>?_;show (if a.1=k then (a.1,t) else a).1=a.1;split<;>rfl
 .simp
def DJ:r∈(ug kvs k t).map Prod.fst↔r∈kvs.map Prod.fst\/r=k:=by
 rw[AG];split
 .simp_all
 .simp
def DM kvs k t:(ug kvs k t).length<=kvs.length+1:=by have:=congrArg List.length (AG kvs k t);rw[aw]at this;rw[this];split<;>simp
def qX r (d:Nat) (h:f ρ=.ok (tI r)) (b:fd ρ=.ok (.int (d:Int))):mF f (jR (fL iI fd (cM (.int 1)))) (λ_=>.ok none) ρ=.ok (tI (r.drop (d+1))):=by
 have a:jR (fL iI fd (cM (.int 1))) ρ=.ok (some ((d+1:Nat):Int)):=by simp_all
 simp only[mF,h,a,M.bind_ok,tI];rw[xO,List.map_drop]
def JO(h:f ρ=.ok (tI r)):ig f ρ=.ok (r.map T.int):=by unfold ig;rw[h];rfl
structure Sh(d a:Nat)(rows:LL)(most N:Nat)(ks:LL):Prop where
 from_:∀r∈ks,(r∈rows/\vc r a=0)\/∃x∈rows,∃y∈rows,0<vc x a/\vc y a<0/\Jn a x y r
 bn:∀r∈ks,∀i∈r,Bn (2*N+1) i
def C2(b:ρ[i]? = some (some (.d kvs)))(g:fk (vw ρ)=.ok (tI k))(e:f (vw ρ)=.ok t)(h:lf t=true)(j:kvs.length<sizeLine):vx i (m9 fk) (m9 f) ρ=.nx (ρ.set i (some (.d (ug kvs k t)))):=by
 unfold vx tE m9;rw[b,g,e];have a:=HH k;simp only[M.bind_ok,h,a,if_true,O.of_ok];show (match j4 (k.map T.int) with
  |some ns=>if kvs.length<sizeLine then O.nx (ρ.set i (some (.d (ug kvs ns t)))) else .bad
  |none=>.bad)=_
 rw[E4];simp only[j,if_true]
theorem E6(d a o N:Nat)(L:Nat)(hL:L<1000)(hd:d<L)(ha:a<L)(hN:2*N+1<=8000)(b:LL)(hrl:b.length<=2000)(hr:∀r∈b,r.length=L/\∀i∈r,Bn N i) :
  ∃ks:LL,pK c [.lst (b.map tI),.int (d:Int),.int (a:Int),.int (o:Int)]=.ok (ks.map tI)/\Sh d a b o N ks/\(∀m,4<=m->b.length<=m->4*ks.length<=m*m)/\(∀r∈b,vc r a=0->r∈ks)/\∀x∈b,∀y∈b,0<vc x a->vc y a<0->∃r,Jn a x y r/\(EJ d r<=o->r∈ks):=by
 have sz:10000000<sizeLine:=by decide
 have I:∀r∈b,gS (tI r) (.int (a:Int))=.ok (.int (vc r a)):=λr v=>jA r a (by rw[(hr r v).1];exact ha);let B (j:List (LI×T)) (A x6 x7 x8:Option W):En:=[some (.p (.lst (b.map tI))),some (.p (.int (d:Int))),some (.p (.int (a:Int))),some (.p (.int (o:Int))),some (.d j),A,x6,x7,x8];obtain⟨ρ1,e1,E,A,rfl,h1,h1l⟩:=iH (m:=jD 5) (g:=xP c) tI
  (λk K=>∃(j:List (LI×T)) (A:Option W),K=B j A none none none/\(∀r,r∈j.map Prod.fst↔r∈b.take k/\vc r a=0)/\j.length<=((b.take k).filter λr=>decide (vc r a=0)).length)
  b 0 (B [] none none none none) ⟨[],none,rfl,λr=>by simp,by simp⟩ (by
   rintro k r K H ⟨j,A,rfl,h,hk⟩;rw[aF]at h hk ⊢;have hm:=au H;have hkr:=(aa.mp H).1;have U:=iZ b k r H;have tl:((b.take k).filter λr=>decide (vc r a=0)).length<=k:=aM (eL _ _) (by simp;lia);by_cases Z:vc r a=0
   .refine⟨_,_,rfl,.inl (fW (fQ (fE (fE rfl rfl (I r hm)) rfl (by rw[ib,Z];rfl))) (C2 (k:=r) (t:=.bl true) rfl rfl rfl rfl (by lia))),ug j r (.bl true),some (.p (tI r)),rfl,λr'=>?_,aM (DM _ _ _) (by rw[U,eM,aS];simp[Z];exact hk)⟩;rw[DJ,h,U];constructor
    .rintro (⟨l,s⟩|rfl)
     .exact⟨ax _ l,s⟩
     .exact⟨by simp,Z⟩
    .rintro⟨l,s⟩;rcases ai.mp l with q|q
     .exact .inl ⟨q,s⟩
     .exact .inr (aj.mp q)
   .refine⟨_,_,rfl,.inl (fH (fQ (fE (fE rfl rfl (I r hm)) rfl (by rw[ib];simp[Z]))) rfl),j,some (.p (tI r)),rfl,λr'=>?_,aM hk (by rw[U,eM,aS];lia)⟩;rw[h,U];constructor
    .rintro⟨l,s⟩;exact⟨ax _ l,s⟩
    .rintro⟨l,s⟩;rcases ai.mp l with q|q
     .exact⟨q,s⟩
     .rw[aj.mp q]at s;exact absurd s Z)
 rw[aF,dh]at h1 h1l;have zl:(b.filter λr=>decide (vc r a=0)).length<=b.length:=eL _ _;let C:=b.filter λr=>decide (0<vc r a);let u:=b.filter λr=>decide (vc r a<0);have mp:∀x,x∈C↔x∈b/\0<vc x a:=λx=>by show x∈List.filter _ _↔_;simp
 have mn:∀x,x∈u↔x∈b/\vc x a<0:=λx=>by show x∈List.filter _ _↔_;simp
 have pl:C.length<=b.length:=eL _ _;have nl:u.length<=b.length:=eL _ _;obtain⟨J,hJ⟩:∃J:LI×LI->LI,∀p∈(C.flatMap λx=>u.map λy=>(x,y)),iu c [tI p.1,tI p.2,.int (a:Int)]=.ok (tI (J p))/\Jn a p.1 p.2 (J p)/\∀i∈J p,Bn (2*N+1) i:=nX (P:=λ(p:LI×LI) (r:LI)=>iu c [tI p.1,tI p.2,.int (a:Int)]=.ok (tI r)/\Jn a p.1 p.2 r/\∀i∈r,Bn (2*N+1) i) _ λp hp=>by obtain⟨x,X,hp⟩:=List.mem_flatMap.mp hp;obtain⟨y,hy,rfl⟩:=aC.mp hp;obtain⟨x1,x2⟩:=(mp x).mp X;obtain⟨y1,y2⟩:=(mn y).mp hy;exact EU (c:=c) N x y a (by rw[(hr x x1).1];exact ha) (by rw[(hr x x1).1,(hr y y1).1]) (by rw[(hr x x1).1];exact hL) hN (hr x x1).2 (hr y y1).2 x2 y2
 have S:∀x∈C,∀y∈u,iu c [tI x,tI y,.int (a:Int)]=.ok (tI (J (x,y)))/\Jn a x y (J (x,y))/\∀i∈J (x,y),Bn (2*N+1) i:=λx X y hy=>hJ (x,y) (List.mem_flatMap.mpr ⟨x,X,aC.mpr ⟨y,hy,rfl⟩⟩);have ePs:∀K:En,K[0]? = some (some (.p (.lst (b.map tI))))->K[2]? = some (some (.p (.int (a:Int))))->True:=λ_ _ _=>trivial;have Q:∀(x:LI),x∈C->∀(j:List (LI×T)) (A x7 x8:Option W),j.length+u.length<=9000000->∃(f:List (LI×T)) (F D:Option W),iO (jD 7) (sM c) (u.map tI) (B j A (some (.p (tI x))) x7 x8)=.nx (B f A (some (.p (tI x))) F D)/\
   (∀r,r∈f.map Prod.fst↔r∈j.map Prod.fst\/∃y∈u,r=J (x,y)/\EJ d (J (x,y))<=o)/\f.length<=j.length+u.length:=by
  intro x X j A x7 x8 hsz;obtain⟨ρ2,e2,f,F,D,rfl,h2,h2l⟩:=iH (m:=jD 7) (g:=sM c) tI
   (λk K=>∃(f:List (LI×T)) (F D:Option W),K=B f A (some (.p (tI x))) F D/\(∀r,r∈f.map Prod.fst↔r∈j.map Prod.fst\/∃y∈u.take k,r=J (x,y)/\EJ d (J (x,y))<=o)/\f.length<=j.length+k)
   u 0 (B j A (some (.p (tI x))) x7 x8) ⟨j,x7,x8,rfl,λr=>by simp,aJ _⟩ (by
    rintro k y K H ⟨f,F,D,rfl,h,hk⟩;rw[aF]at h hk ⊢;have hm:=au H;have hkr:k<u.length:=(aa.mp H).1;have U:u.take (k+1)=u.take k++[y]:=iZ u k y H;obtain⟨f1,f2,f3⟩:=S x X y hm;have sl:mF (fv 8) (jR (fL iI (fv 1) (cM (.int 1)))) (λ_=>.ok none) (vw (B f A (some (.p (tI x))) (some (.p (tI y))) (some (.p (tI (J (x,y)))))))=.ok (tI ((J (x,y)).drop (d+1))):=qX (J (x,y)) d rfl rfl;have lenJ:(J (x,y)).length=L:=by rw[f2.len,(hr x ((mp x).mp X).1).1]
    have lc:kP [none] (ig (mF (fv 8) (jR (fL iI (fv 1) (cM (.int 1)))) (λ_=>.ok none))) (jV 0) (gD (fL (fX true) (fv 0) (cM (.int 0)))) (sL c) (vw (B f A (some (.p (tI x))) (some (.p (tI y))) (some (.p (tI (J (x,y)))))))=.ok ((((J (x,y)).drop (d+1)).filter λw=>w != 0).map T.int):=nv ((J (x,y)).drop (d+1)) T.int T.int (λw=>w != 0) (JO sl) (by simp;lia) (λw hw=>⟨_,rfl,fQ (fE rfl rfl (by rw[lL];rfl)),λ_=>rfl⟩) rfl
    have Y:gD (fL G3 (lp lQ (fj (iB (kP [none] (ig (mF (fv 8) (jR (fL iI (fv 1) (cM (.int 1)))) (λ_=>.ok none))) (jV 0) (gD (fL (fX true) (fv 0) (cM (.int 0)))) (sL c))) fC)) (fv 3)) (vw (B f A (some (.p (tI x))) (some (.p (tI y))) (some (.p (tI (J (x,y)))))))=.ok (decide (EJ d (J (x,y))<=o)):=by
     refine fQ (fE (x:=.int (EJ d (J (x,y)):Int)) (y:=.int (o:Int)) (oX (iE lc) (by simp[EJ])) rfl ?_);rw[zq];by_cases q:EJ d (J (x,y))<=o
     .rw[aB q,aB (by lia)]
     .rw[aA q,aA (by lia)]
    have st1:setO 8 (g9 (fM (fj (fv 6) (fj (fv 7) (fj (fv 2) fC))) (iu c))) (B f A (some (.p (tI x))) (some (.p (tI y))) D)=.nx (B f A (some (.p (tI x))) (some (.p (tI y))) (some (.p (tI (J (x,y)))))):=fP (kW rfl rfl rfl f1) rfl;by_cases q:EJ d (J (x,y))<=o
    .refine⟨_,_,rfl,.inl (fF st1 (fW (by rw[Y,aB q]) (C2 (k:=J (x,y)) (t:=.bl true) rfl rfl rfl rfl (by lia)))),ug f (J (x,y)) (.bl true),some (.p (tI y)),some (.p (tI (J (x,y)))),rfl,λr=>?_,aM (DM _ _ _) (by lia)⟩;rw[DJ,h,U];constructor
     .rintro ((l|⟨y',l,s⟩)|rfl)
      .exact .inl l
      .exact .inr ⟨y',ax _ l,s⟩
      .exact .inr ⟨y,by simp,rfl,q⟩
     .rintro (l|⟨y',l,s⟩)
      .exact .inl (.inl l)
      .rcases ai.mp l with R|R
       .exact .inl (.inr ⟨y',R,s⟩)
       .rw[aj.mp R]at s;exact .inr s.1
    .refine⟨_,_,rfl,.inl (fF st1 (fH (by rw[Y,aA q]) rfl)),f,some (.p (tI y)),some (.p (tI (J (x,y)))),rfl,λr=>?_,by lia⟩;rw[h,U];constructor
     .rintro (l|⟨y',l,s⟩)
      .exact .inl l
      .exact .inr ⟨y',ax _ l,s⟩
     .rintro (l|⟨y',l,s⟩)
      .exact .inl l
      .rcases ai.mp l with R|R
       .exact .inr ⟨y',R,s⟩
       .rw[aj.mp R]at s;exact absurd s.2 q)
  rw[aF,dh]at h2;rw[aF]at h2l;exact⟨f,F,D,e2,h2,h2l⟩
 have sq:b.length*b.length<=2000*2000:=eJ hrl hrl;obtain⟨ρ3,e3,kvs3,y6,F,D,rfl,h3,h3l⟩:=iH (m:=jD 6) (g:=xY c) tI
  (λk K=>∃(j:List (LI×T)) (y6 F D:Option W),K=B j A y6 F D/\(∀r,r∈j.map Prod.fst↔(r∈b/\vc r a=0)\/∃x∈C.take k,∃y∈u,r=J (x,y)/\EJ d (J (x,y))<=o)/\j.length<=(b.filter λr=>decide (vc r a=0)).length+k*u.length)
  C 0 (B E A none none none) ⟨E,none,none,none,rfl,λr=>by rw[h1];simp,by rw[Nat.zero_mul];exact h1l⟩ (by
   rintro k x K H ⟨j,y6,F,D,rfl,h,hk⟩;rw[aF]at h hk ⊢;have hm:=au H;have hkr:k<C.length:=(aa.mp H).1;have U:C.take (k+1)=C.take k++[x]:=iZ C k x H;have kn:(k+1)*u.length<=b.length*b.length:=eJ (by lia) nl;have kn':(k+1)*u.length=k*u.length+u.length:=bX _ _;obtain⟨f,z7,z8,e,h',hl'⟩:=Q x hm j A F D (by lia);have it:ig (iB (kP [none,some 2] (ig (fv 0)) (jV 0) (gD (fL Df (fL gS (fv 0) (fv 1)) (cM (.int 0)))) (tf c))) (nH (B j A (some (.p (tI x))) F D))=.ok (u.map tI):=by
    have:kP [none,some 2] (ig (fv 0)) (jV 0) (gD (fL Df (fL gS (fv 0) (fv 1)) (cM (.int 0)))) (tf c) (nH (B j A (some (.p (tI x))) F D))=.ok (u.map tI):=nv b tI tI (λr=>decide (vc r a<0)) rfl (by lia) (λr v=>⟨_,rfl,fQ (fE (fE rfl rfl (I r v)) rfl (by rw[qf])),λ_=>rfl⟩) rfl
    simp only[ig,iB,this,M.bind_ok]
   refine⟨_,_,rfl,.inl (iW it e),f,some (.p (tI x)),z7,z8,rfl,λr=>?_,by lia⟩;rw[h',h,U];constructor
   .rintro ((l|⟨x',l,s⟩)|⟨y,l,s⟩)
    .exact .inl l
    .exact .inr ⟨x',ax _ l,s⟩
    .exact .inr ⟨x,by simp,y,l,s⟩
   .rintro (l|⟨x',l,y,s,R⟩)
    .exact .inl (.inl l)
    .rcases ai.mp l with q4|q4
     .exact .inl (.inr ⟨x',q4,y,s,R⟩)
     .rw[aj.mp q4]at R;exact .inr ⟨y,s,R⟩)
 rw[aF,dh]at h3;rw[aF]at h3l;have it:ig (iB (kP [none,some 2] (ig (fv 0)) (jV 0) (gD (fL Kb (fL gS (fv 0) (fv 1)) (cM (.int 0)))) (tJ c))) (nH (B E A none none none))=.ok (C.map tI):=by
  have:kP [none,some 2] (ig (fv 0)) (jV 0) (gD (fL Kb (fL gS (fv 0) (fv 1)) (cM (.int 0)))) (tJ c) (nH (B E A none none none))=.ok (C.map tI):=nv b tI tI (λr=>decide (0<vc r a)) rfl (by lia) (λr v=>⟨_,rfl,fQ (fE (fE rfl rfl (I r v)) rfl (by rw[yx])),λ_=>rfl⟩) rfl
  simp only[ig,iB,this,M.bind_ok]
 have kl:C.length*u.length<=b.length*b.length:=eJ pl nl;refine⟨kvs3.map Prod.fst,?_,⟨λr v=>?_,λr v=>?_⟩,λm hm hrm=>?_,λr v Z=>(h3 r).mpr (.inl ⟨v,Z⟩),λx X y hy px ny=>⟨J (x,y),(S x ((mp x).mpr ⟨X,px⟩) y ((mn y).mpr ⟨hy,ny⟩)).2.1,λq=>(h3 _).mpr (.inr ⟨x,(mp x).mpr ⟨X,px⟩,y,(mn y).mpr ⟨hy,ny⟩,rfl,q⟩)⟩⟩
 .refine nJ rfl (fF (ρ':=B [] none none none none) rfl (fF (iW rfl e1) (fF (iW it e3) ?_)));show O.rf _=O.rf _;rw[aH];rfl
 .rcases (h3 r).mp v with q|⟨x,qx,y,qy,rfl,_⟩
  .exact .inl q
  .exact .inr ⟨x,((mp x).mp qx).1,y,((mn y).mp qy).1,((mp x).mp qx).2,((mn y).mp qy).2,(S x qx y qy).2.1⟩
 .rcases (h3 r).mp v with q|⟨x,qx,y,qy,rfl,_⟩
  .exact λi H=>((hr r q.1).2 i H).mono (by lia)
  .exact (S x qx y qy).2.2
 .have cnt3:(b.filter λr=>decide (vc r a=0)).length+C.length+u.length=b.length:=by
   show (List.filter _ _).length+(List.filter _ _).length+(List.filter _ _).length=_;clear hrl hr I B e1 h1 h1l hJ S Q sq e3 h3 h3l it kl mp mn pl nl zl hrm ePs;induction b with
   |nil=>rfl
   |cons r b ih=>
    simp only[List.filter_cons,ay];rcases eO (vc r a) 0 with q|q|q
    .have l:¬vc r a=0:=by lia
     have s:¬0<vc r a:=by lia
     simp only[q,l,s,decide_true,decide_false,if_true,if_false,ay,b8];lia
    .have l:¬vc r a<0:=by lia
     have s:¬0<vc r a:=by lia
     simp only[q,l,s,decide_true,decide_false,if_true,if_false,ay,b8];simp only[Int.lt_irrefl,decide_false,if_false,b8];lia
    .have l:¬vc r a<0:=by lia
     have s:¬vc r a=0:=by lia
     simp only[q,l,s,decide_true,decide_false,if_true,if_false,ay,b8];lia
  rw[aw];generalize (b.filter λr=>decide (vc r a=0)).length=z at *;generalize C.length=p at *;generalize u.length=n at *;refine aM (eE 4 h3l) ?_;have a1:4*(p*n)<=(p+n)*(p+n):=by
   have h1:(4*(p*n):Int)<=((p:Int)+n)*(p+n):=by
    have:0<=((p:Int)-n)*(p-n):=by
     rcases Int.le_total (p:Int) n with q|q
     .exact Int.mul_nonneg_of_nonpos_of_nonpos (by lia) (by lia)
     .exact aO (by lia) (by lia)
    grind
   have:((4*(p*n):Nat):Int)<=(((p+n)*(p+n):Nat):Int):=by push_cast;exact h1
   exact Int.ofNat_le.mp this
  have a2:4*z+(p+n)*(p+n)<=m*m:=by
   have e:∃k,m=z+(p+n)+k:=⟨m-(z+(p+n)),by lia⟩;obtain⟨k,rfl⟩:=e;have e2:(z+(p+n)+k)*(z+(p+n)+k)=(p+n)*(p+n)+(z+k)*(z+k+2*(p+n)):=by grind
   rw[e2];have:4*z<=(z+k)*(z+k+2*(p+n)):=by
    by_cases Z:z+k+2*(p+n)<4
    .grind
    .have:=eJ (cm z k) (show 4<=z+k+2*(p+n) by lia);lia
   lia
  lia
structure QZ(d k j a:Nat)(G G':LL):Prop where
 from_:∀r∈G',(r∈G/\vc r a=0)\/∃x∈G,∃y∈G,0<vc x a/\vc y a<0/\Jn a x y r
 stay:∀r∈G,vc r a=0->r∈G'
 join:∀x∈G,∀y∈G,0<vc x a->vc y a<0->∃r,Jn a x y r/\(EJ d r<=j+2+k->r∈G')
inductive Jv(d k:Nat):Nat->LL->List Nat->List (LL)->Prop
 |nil {j:Nat} {G:LL}:Jv d k j G [] [G]
 |cons {j a:Nat} {G G':LL} {pls:List Nat} {ls:List (LL)}:QZ d k j a G G'->Jv d k (j+1) G' pls ls->Jv d k j G (a::pls) (G::ls)
def Jv.snoc{d k j:Nat}{g G i:LL}{f:List Nat}{e:List (LL)}{a:Nat}(h:Jv d k j g f (e++[G]))(s:QZ d k (j+f.length) a G i):Jv d k j g (f++[a]) (e++[G,i]):=by
 generalize b:e++[G]=m at h;induction h generalizing e with
 |nil=>
  rename_i j l;cases e with
  |nil=>simp at b;subst b;exact .cons s .nil
  |cons x e=>simp at b
 |cons s' h' ih=>
  cases e with
  |nil=>simp at b;obtain⟨rfl,rfl⟩:=b;cases h'
  |cons x e=>simp at b;obtain⟨rfl,b⟩:=b;refine .cons s' (ih ?_ b);rw[ay]at s;rw[Nat.add_assoc,Nat.add_comm 1];exact s
noncomputable def Nb(N:Nat):Nat->Nat
 |0=>N
 |j+1=>2*Nb N j+1
noncomputable def Mb:Nat->Nat
 |0=>8
 |j+1=>Mb j*Mb j / 4
def CM N (h:i<=j):Nb N i<=Nb N j:=by
 induction h with
 |refl=>exact aJ _
 |step _ ih=>exact aM ih (by show _<=2*Nb N _+1;lia)
def J6(a:ρ[i]? = some (some (.o us)))(h:f (vw ρ)=.ok ts)(b:FF ts=true)(d:us.length<sizeLine)(hr:ρ'=ρ.set i (some (.o (us++[.lst ts])))):xG i (wY f) ρ=.nx ρ':=by unfold xG wY mq;rw[a,h,hr];simp[d,b]
def DA xs x:gS (.lst (xs++[x])) (.int (-1))=.ok x:=by
 have h:qC (xs++[x]) (-1)=some x:=by
  unfold qC wU;have a:1<=(xs.length:Int)+1:=by lia
  have b:(-1+((xs.length:Int)+1)).toNat=xs.length:=by lia
  simp[a,b]
 simp[gS,h]
def Qr(h:f ρ=.ok a):lstM (fj f fC) ρ=.ok [a]:=IB (JE h)
theorem Cr(d L N:Nat)(hL:L<1000)(hd:d<L)(b:LL)(J:b.length<=8)(hr:∀r∈b,r.length=L/\∀i∈r,Bn N i)(pv:List (Nat×LI))(hp:pv.length<=100)(f:List Nat)(hpl:f.length<=4)(ha:∀a∈f,a<L)(hN:Nb N f.length<=8000) :
  ∃h,nT c [.lst (b.map tI),.int (d:Int),.lst (f.map λ(j:Nat)=>T.int (j:Int)),.lst (pv.map ke)]=.ok (h.map λg=>T.lst (g.map tI))/\Jv d pv.length 0 b f h/\∀(i:Nat) G,h[i]? = some G->∀r∈G,r.length=L/\∀x∈r,Bn (Nb N i) x:=by
 have sz:1000<sizeLine:=by decide
 let R (h:List (LL)) (z v:Option W):En:=[some (.p (.lst (b.map tI))),some (.p (.int (d:Int))),some (.p (.lst (f.map λ(j:Nat)=>T.int (j:Int)))),some (.p (.lst (pv.map ke))),some (.o (h.map λg=>T.lst (g.map tI))),z,v];obtain⟨C,e,h,G,z,v,rfl,w,u,I,B⟩:=iH (m:=jD 5) (g:=wg c) (λ(j:Nat)=>T.int (j:Int))
  (λk C=>∃(h:List (LL)) (G:LL) (z v:Option W),C=R (h++[G]) z v/\Jv d pv.length 0 b (f.take k) (h++[G])/\h.length=k/\G.length<=Mb k/\∀(i:Nat) H,(h++[G])[i]? = some H->∀r∈H,r.length=L/\∀x∈r,Bn (Nb N i) x)
  f 0 (R [b] none none) ⟨[],b,none,none,rfl,.nil,rfl,J,λi H s=>by
   cases i with
   |zero=>simp at s;subst s;exact hr
   |succ i=>simp at s⟩ (by
   rintro k a C s ⟨h,G,z,v,rfl,w,u,I,B⟩;rw[aF]at w u I ⊢;have hm:=au s;have hk:=(aa.mp s).1;have tk:=iZ f k a s;have E:=B k G (by rw[List.getElem?_append_right (by lia),u];simp);have hM:Mb k<=1024/\4<=Mb k:=by
    have:k=0\/k=1\/k=2\/k=3:=by lia
    rcases this with rfl|rfl|rfl|rfl<;>decide
   have D:=aM (CM N (show k+1<=f.length by lia)) hN;obtain⟨F,f1,Q,f3,f4,X⟩:=E6 d a (k+2+pv.length) (Nb N k) L hL hd (ha a hm) D G (by lia) E;have hlenls:(h++[G]).length=k+1:=by simp[u]
   have step:QZ d pv.length (0+(f.take k).length) a G F:=⟨Q.from_,f4,λx K y U Z Y=>by obtain⟨r,q1,q2⟩:=X x K y U Z Y;refine⟨r,q1,λq=>q2 ?_⟩;rw[bL]at q;lia⟩
   have e6:fL iI (fL iI (lp lQ (fj (fv 4) fC)) (cM (.int 1))) (lp lQ (fj (fv 3) fC)) (vw (R (h++[G]) (some (.p (.int (a:Int)))) v))=.ok (.int ((k+2+pv.length:Nat):Int)):=by refine fE (x:=.int ((k+2:Nat):Int)) (y:=.int (pv.length:Int)) (fE (x:=.int ((k+1:Nat):Int)) (oX (t:=.lst ((h++[G]).map λg=>T.lst (g.map tI))) rfl (by simp[u])) rfl (by rw[iR];congr 2)) (oX (t:=.lst (pv.map ke)) rfl (by simp)) (by rw[iR];congr 2)
   have e7:gS (.lst ((h++[G]).map λg=>T.lst (g.map tI))) (.int (-1))=.ok (.lst (G.map tI)):=by rw[aY];exact DA _ _
   refine⟨_,_,rfl,.inl (fF (uA e6 rfl rfl) (J6 (us:=(h++[G]).map λg=>T.lst (g.map tI)) rfl (ts:=F.map tI) (Be (x:=.lst (G.map tI)) (fE rfl (tF rfl) e7) rfl rfl rfl f1) (Ls _) (by simp[u];lia) rfl)),h++[G],F,some (.p (.int (a:Int))),some (.p (.int ((k+2+pv.length:Nat):Int))),?_,?_,by simp[u],?_,λi H l r n=>?_⟩
   .show List.set _ _ _=_;simp[R]
   .rw[tk];have:=w.snoc step;simpa using this
   .have:=f3 (Mb k) hM.2 I;show _<=Mb k*Mb k / 4;lia
   .by_cases S:i<(h++[G]).length
    .rw[List.getElem?_append_left S]at l;exact B i H l r n
    .rw[List.getElem?_append_right (by lia)]at l;have P:i-(h++[G]).length=0:=by
      rcases cQ (i-(h++[G]).length) with q|q
      .exact q
      .rw[List.getElem?_eq_none (by simp;lia)]at l;cases l
     rw[P]at l;simp at l;subst l;have A:i=k+1:=by lia
     subst A;refine⟨?_,Q.bn r n⟩;rcases Q.from_ r n with q|⟨x,K,y,U,_,_,hj⟩
     .exact (E r q.1).1
     .rw[hj.len];exact (E x K).1)
 rw[aF,dh]at w;exact⟨h++[G],nJ rfl (fF (lD (ts:=[.lst (b.map tI)]) (Qr rfl) rfl) (fF (iW rfl e) rfl)),w,B⟩
end CL
namespace CL
def Cn.posQ{f:Vc->Rat}(n:∀x y z (s a b:Int),(∀i,s*z i=a*x i+b*y i)->(s:Rat)*f z=(a:Rat)*f x+(b:Rat)*f y)(m:∀x,P x->0<f x)(h:Cn P z):0<f z:=by
 induction h with
 |of h=>exact m _ h
 |lin _ _ hs ha hb hab e i1 i2=>
  rename_i x y z s a b _ _;have q:=n _ _ _ _ _ _ e;have k:(0:Rat)<(s:Rat):=nK hs;have:0<(a:Rat)*f x+(b:Rat)*f y:=by
   by_cases l:a=0
   .subst l;have d:(0:Rat)<(b:Rat):=nK (by lia);have:=dU d i2;simp;grind
   .have g:(0:Rat)<(a:Rat):=nK (by lia);have o:=dU g i1;by_cases j:b=0
    .subst j;simp;grind
    .have d:(0:Rat)<(b:Rat):=nK (by lia);have p:=dU d i2;grind
  rw[<-q]at this;refine eP (c:=(s:Rat)) ?_ (dY k);simpa using this
noncomputable def Lt(m:Nat)(g:Nat->Vc)(t:Vc):Vc:=λq=>sm m λj=>t j*g j q
def Ij(h:∀i,s*z i=a*x i+b*y i) q:s*Lt m g z q=a*Lt m g x q+b*Lt m g y q:=by unfold Lt;rw[<-vh,<-zF];refine ka m _ _ λi _=>?_;rw[<-cL,h i];grind
def Gg m g t p:iX m (λi=>g i p) t=Lt m g t p:=by unfold iX Lt;exact ka m _ _ λi _=>cN _ _
noncomputable def ou(i:Nat):Vc:=λj=>if j=i then 1 else 0
def uJ m g i (a:i<m) q:Lt m g (ou i) q=g i q:=by unfold Lt ou;exact yJ m i (λj=>g j q) a
def xx m:∀n u,cs m u<=n->jZ m [] u->Cn (λx=>∃i,i<m/\x=ou i) u:=by
 intro n;induction n with
 |zero=>
  intro u y c;obtain⟨i,e⟩:=c.ne;have d:i<m:=by
   rcases dI i m with h|h
   .exact h
   .exact absurd (c.out i h) e
  have:=A4 (m:=m) (u:=λ_=>0) (v:=u) (λ_ _ _=>rfl) d e rfl;lia
 |succ n ih=>
  intro u y c;obtain⟨i,e⟩:=c.ne;have d:i<m:=by
   rcases dI i m with h|h
   .exact h
   .exact absurd (c.out i h) e
  have B:0<u i:=by have:=c.nn i;lia
  by_cases f:∃j,j≠i/\u j≠0
  .obtain⟨j,r,g⟩:=f;have w:jZ m [] (λk=>if k=i then 0 else u k):=⟨λk=>by split;exact dG _;exact c.nn k,λk p=>by split;rfl;exact c.out k p,⟨j,by simp[r,g]⟩,λA o=>nomatch o⟩;have l:=A4 (m:=m) (u:=λk=>if k=i then 0 else u k) (v:=u) (λk _ z=>by split;rfl;exact z) d e (by simp);refine .lin (s:=1) (a:=u i) (b:=1) (.of ⟨i,d,rfl⟩) (ih _ (by lia) w) (by decide) (by lia) (by decide) (by lia) λk=>?_;unfold ou;by_cases q:k=i
   .subst q;simp
   .simp[q]
  .refine .lin (s:=1) (a:=u i) (b:=0) (.of ⟨i,d,rfl⟩) (.of ⟨i,d,rfl⟩) (by decide) (by lia) (by decide) (by lia) λk=>?_;unfold ou;by_cases q:k=i
   .subst q;simp
   .have:u k=0:=aN λz=>f ⟨k,q,z⟩;simp[q,this]
theorem uC{c:Type}[DecidableEq c]:∀{l m:List c},l.Nodup->(∀x∈l,x∈m)->l.length<=m.length
 |[],_,_,_=>bG _
 |a::l,m,nd,h=>by
  obtain⟨e,f⟩:=bJ.mp nd;have b:a∈m:=h a (by simp);have:=uC (m:=m.erase a) f λx d=>by have ne:x≠a:=λz=>e (z▸d);exact (List.mem_erase_of_ne ne).mpr (h x (by simp[d]))
  rw[dA b]at this;have:0<m.length:=List.length_pos_of_mem b;simp only[ay];lia
structure KR(d n:Nat)(ss ix:List Nat)(sd:LL):Prop where
 len:sd.length=ss.length
 nd:ss.Nodup
 lt:∀i∈ss,i<n
 l:∀r∈sd,r.length=d+1+n
 own:∀j,j<sd.length->vc (sd.getD j []) (d+1+ss.getD j 0)≠0
 oth:∀j,j<sd.length->∀i,i∉ix->i≠ss.getD j 0->vc (sd.getD j []) (d+1+i)=0
def NO(a:LL)(b:List Vc)(G:LL)(t:Vc):Prop:=jZ a.length b t/\∃r∈G,∃s:Int,0<s/\∀q,s*vc r q=Lt a.length (λj=>vc (a.getD j [])) t q
def NU(h:KR d n ss ix sd)(k:r.length=d+1+n)(w:0<s)(e:∀q,s*vc r q=Lt sd.length (λj=>vc (sd.getD j [])) t q):EJ d r<=cs sd.length t+ix.length:=by
 let A:=((List.range sd.length).filter λj=>decide (t j≠0)).map λj=>ss.getD j 0;have u:A.length=cs sd.length t:=by show (List.map _ _).length=_;rw[aw];unfold cs;rw[dN]
 let I:=(List.range n).filter λi=>decide (vc r (d+1+i)≠0);have l:EJ d r=I.length:=by
  unfold EJ;have:r.drop (d+1)=(List.range n).map λi=>vc r (d+1+i):=by refine List.ext_getElem (by simp[k]) λi o x=>?_;simp at o;rw[List.getElem_drop,List.getElem_map,List.getElem_range,rH r (d+1+i) (by lia)]
  rw[this,List.filter_map,aw];congr 2;funext i;simp[bne];rfl
 rw[l,<-u,<-aS];refine uC (List.Pairwise.filter _ dO) λi p=>?_;have b:i<n/\vc r (d+1+i)≠0:=by have:i∈List.filter _ _:=p;simpa using this
 refine aN λa=>b.2 ?_;have m:i∉A:=λz=>a (ax _ z);have v:i∉ix:=λz=>a (bC _ z);refine qM (g:=s) (by lia) ?_;rw[e];show sm sd.length (λj=>t j*vc (sd.getD j []) (d+1+i))=0;rw[ka sd.length _ (λ_=>0) λj f=>?_,uF];by_cases c:t j=0
 .rw[c,dw]
 .have:i≠ss.getD j 0:=λz=>m (by show i∈List.map _ _;exact aC.mpr ⟨j,aT.mpr ⟨aR.mpr f,by simpa using c⟩,z.symm⟩)
  rw[h.oth j f i v this,dk]
def ES{d n:Nat}{ss ix:List Nat}{c:LL}(h:KR d n ss ix c){a:Nat}{C:List Vc}{G X:LL}(U:∀r∈G,r.length=d+1+n/\∃t,jZ c.length C t/\∃s:Int,0<s/\∀q,s*vc r q=Lt c.length (λj=>vc (c.getD j [])) t q)
  (gen:∀u,jZ c.length C u->Cn (NO c C G) u) (st:QZ d ix.length C.length a G X) :
  (∀r∈X,r.length=d+1+n/\∃t,jZ c.length ((λj=>vc (c.getD j []) a)::C) t/\∃s:Int,0<s/\∀q,s*vc r q=Lt c.length (λj=>vc (c.getD j [])) t q)/\
  ∀u,jZ c.length ((λj=>vc (c.getD j []) a)::C) u->Cn (NO c ((λj=>vc (c.getD j []) a)::C) X) u:=by
 let A:Vc:=λj=>vc (c.getD j []) a;have la:∀t,iX c.length A t=Lt c.length (λj=>vc (c.getD j [])) t a:=λt=>Gg c.length (λj=>vc (c.getD j [])) t a;have F:∀{x y r:LI} {t f:Vc} {s H:Int},0<s->0<H->(∀q,s*vc x q=Lt c.length (λj=>vc (c.getD j [])) t q)->(∀q,H*vc y q=Lt c.length (λj=>vc (c.getD j [])) f q)->Jn a x y r->
   ∃L:Int,0<L/\∀q,L*vc r q=Lt c.length (λj=>vc (c.getD j [])) (λi=>(-iX c.length A f)*t i+iX c.length A t*f i) q:=by
  intro x y r t f s H o p e I J;obtain⟨g,hg,v⟩:=J.ex;refine⟨s*H*g,aW (aW o p) hg,λq=>?_⟩;have l1:=Ij (m:=c.length) (g:=λj=>vc (c.getD j [])) (x:=t) (y:=f) (z:=λi=>(-iX c.length A f)*t i+iX c.length A t*f i) (s:=1) (a:=-iX c.length A f) (b:=iX c.length A t) (λi=>by grind) q;rw[dg]at l1;rw[l1,la,la,<-e a,<-I a,<-e q,<-I q];have:=v q;calc s*H*g*vc r q=s*H*(g*vc r q):=by grind
   _=s*H*(-vc y a*vc x q+vc x a*vc y q):=by rw[this]
   _=_:=by grind
 have E:∀{t f:Vc},jZ c.length C t->jZ c.length C f->0<iX c.length A t->iX c.length A f<0->jZ c.length (A::C) (λi=>(-iX c.length A f)*t i+iX c.length A t*f i):=by
  intro t f R Z S p2;have lin:∀B,iX c.length B (λi=>(-iX c.length A f)*t i+iX c.length A t*f i)=(-iX c.length A f)*iX c.length B t+iX c.length A t*iX c.length B f:=λB=>by have:=oC (m:=c.length) (A:=B) (x:=t) (y:=f) (z:=λi=>(-iX c.length A f)*t i+iX c.length A t*f i) (s:=1) (a:=-iX c.length A f) (b:=iX c.length A t) (λi=>by grind);simpa using this
  obtain⟨j,J⟩:=R.ne;have q1:0 < -iX c.length A f:=by lia
  refine⟨λi=>?_,λi hi=>?_,⟨j,?_⟩,λB D=>?_⟩
  .have x1:=aO (az q1) (R.nn i);have x2:=aO (az S) (Z.nn i);lia
  .rw[R.out i hi,Z.out i hi];simp
  .have gj:0<t j:=by have:=R.nn j;lia
   have x1:=aW q1 gj;have x2:=aO (az S) (Z.nn j);lia
  .rw[lin B];rcases aE.mp D with rfl|D
   .grind
   .rw[R.eq B D,Z.eq B D];simp
 have k:∀{r:LI} {t:Vc} {s:Int},0<s->(∀q,s*vc r q=Lt c.length (λj=>vc (c.getD j [])) t q)->(0<vc r a↔0<iX c.length A t)/\(vc r a<0↔iX c.length A t<0)/\(vc r a=0↔iX c.length A t=0):=λ{r t s} o e=>by
  rw[la,<-e a];refine⟨⟨λq=>aW o q,λq=>?_⟩,⟨λq=>dP o q,λq=>?_⟩,⟨λq=>by rw[q,dk],λq=>qM (by lia) q⟩⟩
  .exact eQ (a:=s) (by simpa using q) (az o)
  .exact eQ (a:=s) (by simpa using q) (az o)
 refine⟨λr hr=>?_,λu hu=>?_⟩
 .rcases st.from_ r hr with⟨h1,Q⟩|⟨x,N,y,hy,px,ny,J⟩
  .obtain⟨l,t,w,s,o,e⟩:=U r h1;exact⟨l,t,⟨w.nn,w.out,w.ne,λB D=>by
    rcases aE.mp D with rfl|D
    .exact (k o e).2.2.mp Q
    .exact w.eq B D⟩,s,o,e⟩
  .obtain⟨l,t,w,s,o,e⟩:=U x N;obtain⟨_,f,K,H,p,I⟩:=U y hy;obtain⟨L,Q,Y⟩:=F o p e I J;exact⟨by rw[J.len,l],_,E w K ((k o e).1.mp px) ((k p I).2.1.mp ny),L,Q,Y⟩
 .refine ND (A:=A) (P:=NO c C G) (P':=NO c (A::C) X) (λx N=>N.1) gen (λt ⟨w,r,hr,s,o,e⟩ h0=>?_) (λt f ⟨w,x,N,s,o,e⟩ ⟨K,y,hy,H,p,I⟩ S p2 hcs=>?_) (cs c.length u) u (aJ _) hu
  .exact⟨⟨w.nn,w.out,w.ne,λB D=>by
    rcases aE.mp D with rfl|D
    .exact h0
    .exact w.eq B D⟩,r,st.stay r hr ((k o e).2.2.mpr h0),s,o,e⟩
  .obtain⟨r,J,hk⟩:=st.join x N y hy ((k o e).1.mpr S) ((k p I).2.1.mpr p2);obtain⟨L,Q,Y⟩:=F o p e I J;have rl:r.length=d+1+n:=by rw[J.len,(U x N).1]
   have cl:=NU h rl Q Y;exact⟨E w K S p2,r,hk (by lia),L,Q,Y⟩
end CL
namespace CL
open PySem L2 L3
variable {c:Cs}
noncomputable def sD:Nat->(Nat->Rat)->Rat
 |0,_=>0
 |n+1,f=>f 0+sD n λi=>f (i+1)
theorem mP:∀n f g,(∀i,i<n->f i=g i)->sD n f=sD n g
 |0,_,_,_=>rfl
 |n+1,f,g,h=>by unfold sD;rw[h 0 (by lia),mP n _ _ λi a=>h (i+1) (by lia)]
theorem zQ a b:∀n f g,sD n (λi=>a*f i+b*g i)=a*sD n f+b*sD n g
 |0,_,_=>by unfold sD;grind
 |n+1,f,g=>by unfold sD;rw[zQ a b n (λi=>f (i+1)) λi=>g (i+1)];grind
theorem Ah:∀n:Nat,sD n (λ_=>0)=0
 |0=>rfl
 |n+1=>by unfold sD;rw[Ah n];grind
def KQ(x X:Nat->Rat) v:∀n a,a<n->sD n (λi=>x i*(if i=a then v else X i))=sD n (λi=>x i*X i)+x a*(v-X a):=by
 intro n;induction n generalizing x X with
 |zero=>intro a h;cases h
 |succ n ih=>
  intro a b;unfold sD;cases a with
  |zero=>
   have:sD n (λi=>x (i+1)*(if i+1=0 then v else X (i+1)))=sD n (λi=>x (i+1)*X (i+1)):=mP n _ _ λi _=>by simp
   rw[this];simp;grind
  |succ a=>
   have:=ih (λi=>x (i+1)) (λi=>X (i+1)) a (by lia);have e:sD n (λi=>x (i+1)*(if i+1=a+1 then v else X (i+1)))=sD n (λi=>x (i+1)*(if i=a then v else X (i+1))):=mP n _ _ λi _=>by simp
   rw[e,this];simp;grind
noncomputable def ko(d:Nat)(X:Nat->Rat)(x:Vc):Rat:=sD d (λp=>(x p:Rat)*X p)-(x d:Rat)
def sh(x y z:Vc) s a b (h:∀i,s*z i=a*x i+b*y i):(s:Rat)*ko d X z=(a:Rat)*ko d X x+(b:Rat)*ko d X y:=by
 have f:∀i,s*(z i)=a*(x i)+b*(y i:Rat):=λi=>by
  have:=h i;have e:((s*z i:Int):Rat)=((a*x i+b*y i:Int):Rat):=by rw[this]
  simpa using e
 unfold ko;have k:(s:Rat)*sD d (λp=>(z p:Rat)*X p)=(a:Rat)*sD d (λp=>(x p:Rat)*X p)+(b:Rat)*sD d (λp=>(y p:Rat)*X p):=by
  have:=zQ (s:Rat) 0 d (λp=>(z p:Rat)*X p) (λ_=>0);have j:=zQ (a:Rat) (b:Rat) d (λp=>(x p:Rat)*X p) (λp=>(y p:Rat)*X p);have g:sD d (λi=>(s:Rat)*((z i:Rat)*X i)+0*0)=sD d (λi=>(a:Rat)*((x i:Rat)*X i)+(b:Rat)*((y i:Rat)*X i)):=mP d _ _ λi _=>by have:=f i;grind
  rw[g,j]at this;grind
 have:=f d;grind
def C8(b:a<d) X v x:ko d (λq=>if q=a then v else X q) x=ko d X x+(x a:Rat)*(v-X a):=by unfold ko;have:=KQ (λi=>(x i)) X v d a b;rw[this];grind
def pj(h:∀p,p<d->x p=0):ko d X x = -(x d:Rat):=by
 unfold ko;have e:sD d (λp=>(x p)*X p)=0:=by rw[mP d _ (λ_=>0) λp a=>by rw[h p a];simp];exact Ah d
 rw[e];grind
noncomputable def Xs(s:List (Int×Int)):Nat->Rat:=λq=>qv (s.getD q (0,1))
def Ic s a f (b:a<s.length):Xs (s.set a f)=λq=>if q=a then qv f else Xs s q:=by
 funext q;unfold Xs;rw[af,List.getElem?_set];by_cases h:q=a
 .subst h;simp[b]
 .rw[aQ (λz=>h z.symm),aQ h,af]
def RU:qv (0,1)=0:=by unfold qv;simp;grind
def uW d:∀s a,s.length=d->d<=a.length->Fv a s=sD d (λp=>(vc a p:Rat)*Xs s p):=by
 induction d with
 |zero=>intro s a b _;have:=eR.mp b;subst this;simp[Fv,sD]
 |succ d ih=>
  intro s a b e;cases s with
  |nil=>cases b
  |cons p s=>
   cases a with
   |nil=>simp at e
   |cons x a=>have:=ih s a (by simpa using b) (by simpa using e);unfold Fv at this ⊢;rw[eT,bE,dZ,this];rfl
def pY(d:Nat)(X:Nat->Rat)(a:Nat)(r:LI):Rat:=-(ko d X (vc r)) / (vc r a:Rat)
structure LQ(d:Nat)(X:Nat->Rat)(a E:Nat)(G:LL)(lo hi:Option (Int×Int)):Prop where
 l:Oe E lo
 h:Oe E hi
 lo1:∀r∈G,0<vc r a->∃p,lo=some p/\pY d X a r<=qv p
 lo2:∀p,lo=some p->∃r∈G,0<vc r a/\qv p=pY d X a r
 hi1:∀r∈G,vc r a<0->∃p,hi=some p/\qv p<=pY d X a r
 hi2:∀p,hi=some p->∃r∈G,vc r a<0/\qv p=pY d X a r
def CK(h:fc ρ=.ok false)(a:fd ρ=.ok b):L3.t9 fc fd ρ=.ok b:=by simp only[L3.t9,h,a,M.bind_ok];rfl
def Jm(h:fc ρ=.ok true):L3.t9 fc fd ρ=.ok true:=by simp only[L3.t9,h,M.bind_ok];rfl
def DL(a:0<p.2/\Bn E p.1/\Bn E p.2)(hr:0<r.2/\Bn E r.1/\Bn E r.2)(b:E<=8000):jM c [fr p,fr r]=.ok (.bl (decide (qv p<qv r))):=vP a.1 hr.1 (a.2.1.ok hr.2.2 (by lia) (by lia)) (hr.2.1.ok a.2.2 (by lia) (by lia))
theorem Bd(d a N L:Nat)(hL:d<L)(had:a<d)(hd:d<=10)(h1:1<=N)(s:List (Int×Int))(hs:s.length=d)(hq:∀p∈s,Fq p)(Z:N+lP s+20<=8000)(G:LL)(hG:∀r∈G,r.length=L/\∀x∈r,Bn N x) :
  ∃u n,mM c [.lst (G.map tI),.int (a:Int),.lst (s.map fr)]=.ok (.tup [oT u,oT n])/\LQ d (Xs s) a (N+lP s+20) G u n:=by
 let R (u n:Option (Int×Int)) (K D:Option W):En:=[some (.p (.lst (G.map tI))),some (.p (.int (a:Int))),some (.p (.lst (s.map fr))),some (.p (oT u)),some (.p (oT n)),K,D];obtain⟨S,e,u,n,K,D,rfl,hI⟩:=iH (m:=jD 5) (g:=vO c) tI
  (λk S=>∃(u n:Option (Int×Int)) (K D:Option W),S=R u n K D/\LQ d (Xs s) a (N+lP s+20) (G.take k) u n)
  G 0 (R none none none none) ⟨none,none,none,none,rfl,⟨(λ_ z=>nomatch z),(λ_ z=>nomatch z),λr hr=>by simp at hr,(λ_ z=>nomatch z),λr hr=>by simp at hr,(λ_ z=>nomatch z)⟩⟩ (by
   rintro k r S w ⟨u,n,K,D,rfl,I⟩;rw[aF]at I ⊢;have hm:=au w;have tk:=iZ G k r w;obtain⟨rl,rb⟩:=hG r hm;have H:gS (tI r) (.int (a:Int))=.ok (.int (vc r a)):=jA r a (by lia);by_cases X:vc r a=0
   .refine⟨_,_,rfl,.inl (fH (fQ (fE (fE rfl rfl H) rfl (by rw[lL,X];rfl))) rfl),u,n,some (.p (tI r)),D,rfl,?_⟩;rw[tk];refine⟨I.l,I.h,λb i j=>?_,λp e=>?_,λb i j=>?_,λp e=>?_⟩
    .rcases ai.mp i with q|q
     .exact I.lo1 b q j
     .rw[aj.mp q]at j;lia
    .obtain⟨b,A,C⟩:=I.lo2 p e;exact⟨b,ax _ A,C⟩
    .rcases ai.mp i with q|q
     .exact I.hi1 b q j
     .rw[aj.mp q]at j;lia
    .obtain⟨b,A,C⟩:=I.hi2 p e;exact⟨b,ax _ A,C⟩
   .obtain⟨left,el,gl,ql⟩:=tP (c:=c) N (by lia) h1 r s (by lia) (by lia) rb hq (by lia);have ra:=rb _ (getD_mem r a (by lia));obtain⟨en,ee,U,qe⟩:=xI (c:=c) X ra gl (by lia) (by lia);have J:qv en=pY d (Xs s) a r:=by rw[qe,ql,hs,uW d s r hs (by lia)];unfold pY ko;congr 1;grind
    have Q:0<en.2/\Bn (N+lP s+20) en.1/\Bn (N+lP s+20) en.2:=⟨U.pos,U.b1,U.b2.mono (by lia)⟩;have s1:∀D,setO 6 (g9 (fM (fj (fM (fj (fv 5) (fj (fv 2) fC)) (j8 c)) (fj (iL (fj (fL gS (fv 5) (fv 1)) (fj (cM (.int 1)) fC))) fC)) (pI c))) (R u n (some (.p (tI r))) D)=.nx (R u n (some (.p (tI r))) (some (.p (fr en)))):=λD=>fP (hW (x:=fr left) (y:=fr (vc r a,1)) (hW rfl rfl el) (nE (fE rfl rfl H) rfl) ee) rfl;obtain⟨v,s2,M1,M2,M3⟩:∃v:Option (Int×Int),jT (L3.l8 (gD (fL Kb (fL gS (fv 5) (fv 1)) (cM (.int 0)))) (L3.t9 (gD (fL (jL false) (fv 3) (cM .non))) (gD (fM (fj (fv 3) (fj (fv 6) fC)) (jM c))))) (setO 3 (g9 (fv 6))) gG (R u n (some (.p (tI r))) (some (.p (fr en))))=.nx (R v n (some (.p (tI r))) (some (.p (fr en))))/\
      Oe (N+lP s+20) v/\(∀b∈G.take k++[r],0<vc b a->∃p,v=some p/\pY d (Xs s) a b<=qv p)/\(∀p,v=some p->∃b∈G.take k++[r],0<vc b a/\qv p=pY d (Xs s) a b):=by
     by_cases E:0<vc r a
     .have F:gD (fL Kb (fL gS (fv 5) (fv 1)) (cM (.int 0))) (vw (R u n (some (.p (tI r))) (some (.p (fr en)))))=.ok true:=fQ (fE (fE rfl rfl H) rfl (by rw[yx];simp[E]));have new:∀(_:∀p,u=some p->qv p<qv en),Oe (N+lP s+20) (some en)/\(∀b∈G.take k++[r],0<vc b a->∃p,some en=some p/\pY d (Xs s) a b<=qv p)/\(∀p,some en=some p->∃b∈G.take k++[r],0<vc b a/\qv p=pY d (Xs s) a b):=λo=>by
       refine⟨λp z=>by cases z;exact Q,λb i j=>⟨en,rfl,?_⟩,λp z=>by cases z;exact⟨r,by simp,E,J⟩⟩;rcases ai.mp i with q|q
       .obtain⟨p,Y,e2⟩:=I.lo1 b q j;have:=o p Y;grind
       .rw[aj.mp q,J];grind
      cases f:u with
      |none=>refine⟨some en,?_,new λp z=>by rw[f]at z;cases z⟩;rw[<-f];refine fW (lx F (Jm (fQ (fE rfl rfl ?_)))) (fP (t:=fr en) rfl rfl);show jL false (oT u) .non=_;rw[oN,f];rfl
      |some p=>
       have B:jL false (oT u) .non=.ok (.bl false):=by rw[oN,f];rfl
       have P:jM c [oT u,fr en]=.ok (.bl (decide (qv p<qv en))):=by rw[f];exact DL (I.l p f) Q Z
       by_cases o:qv p<qv en
       .refine⟨some en,?_,new λj z=>by rw[f]at z;cases z;exact o⟩;rw[<-f];exact fW (lx F (CK (fQ (fE rfl rfl B)) (fQ (hW rfl rfl (by rw[P,aB o]))))) (fP (t:=fr en) rfl rfl)
       .refine⟨u,?_,I.l,λb i j=>?_,λj z=>?_⟩
        .rw[<-f];exact fH (lx F (CK (fQ (fE rfl rfl B)) (fQ (hW rfl rfl (by rw[P,aA o]))))) rfl
        .rcases ai.mp i with q|q
         .exact I.lo1 b q j
         .rw[aj.mp q,<-J];exact⟨p,f,by grind⟩
        .obtain⟨b,A,C⟩:=I.lo2 j z;exact⟨b,ax _ A,C⟩
     .refine⟨u,fH (q8 (fQ (fE (fE rfl rfl H) rfl (by rw[yx];simp[E])))) rfl,I.l,λb i j=>?_,λj z=>?_⟩
      .rcases ai.mp i with q|q
       .exact I.lo1 b q j
       .rw[aj.mp q]at j;exact absurd j E
      .obtain⟨b,A,C⟩:=I.lo2 j z;exact⟨b,ax _ A,C⟩
    obtain⟨w,s3,H1,H2,H3⟩:∃w:Option (Int×Int),jT (L3.l8 (gD (fL Df (fL gS (fv 5) (fv 1)) (cM (.int 0)))) (L3.t9 (gD (fL (jL false) (fv 4) (cM .non))) (gD (fM (fj (fv 6) (fj (fv 4) fC)) (jM c))))) (setO 4 (g9 (fv 6))) gG (R v n (some (.p (tI r))) (some (.p (fr en))))=.nx (R v w (some (.p (tI r))) (some (.p (fr en))))/\
      Oe (N+lP s+20) w/\(∀b∈G.take k++[r],vc b a<0->∃p,w=some p/\qv p<=pY d (Xs s) a b)/\(∀p,w=some p->∃b∈G.take k++[r],vc b a<0/\qv p=pY d (Xs s) a b):=by
     by_cases E:vc r a<0
     .have F:gD (fL Df (fL gS (fv 5) (fv 1)) (cM (.int 0))) (vw (R v n (some (.p (tI r))) (some (.p (fr en)))))=.ok true:=fQ (fE (fE rfl rfl H) rfl (by rw[qf];simp[E]));have new:∀(_:∀p,n=some p->qv en<qv p),Oe (N+lP s+20) (some en)/\(∀b∈G.take k++[r],vc b a<0->∃p,some en=some p/\qv p<=pY d (Xs s) a b)/\(∀p,some en=some p->∃b∈G.take k++[r],vc b a<0/\qv p=pY d (Xs s) a b):=λo=>by
       refine⟨λp z=>by cases z;exact Q,λb i j=>⟨en,rfl,?_⟩,λp z=>by cases z;exact⟨r,by simp,E,J⟩⟩;rcases ai.mp i with q|q
       .obtain⟨p,Y,e2⟩:=I.hi1 b q j;have:=o p Y;grind
       .rw[aj.mp q,J];grind
      cases f:n with
      |none=>refine⟨some en,?_,new λp z=>by rw[f]at z;cases z⟩;rw[<-f];refine fW (lx F (Jm (fQ (fE rfl rfl ?_)))) (fP (t:=fr en) rfl rfl);show jL false (oT n) .non=_;rw[oN,f];rfl
      |some p=>
       have B:jL false (oT n) .non=.ok (.bl false):=by rw[oN,f];rfl
       have P:jM c [fr en,oT n]=.ok (.bl (decide (qv en<qv p))):=by rw[f];exact DL Q (I.h p f) Z
       by_cases o:qv en<qv p
       .refine⟨some en,?_,new λj z=>by rw[f]at z;cases z;exact o⟩;rw[<-f];exact fW (lx F (CK (fQ (fE rfl rfl B)) (fQ (hW rfl rfl (by rw[P,aB o]))))) (fP (t:=fr en) rfl rfl)
       .refine⟨n,?_,I.h,λb i j=>?_,λj z=>?_⟩
        .rw[<-f];exact fH (lx F (CK (fQ (fE rfl rfl B)) (fQ (hW rfl rfl (by rw[P,aA o]))))) rfl
        .rcases ai.mp i with q|q
         .exact I.hi1 b q j
         .rw[aj.mp q,<-J];exact⟨p,f,by grind⟩
        .obtain⟨b,A,C⟩:=I.hi2 j z;exact⟨b,ax _ A,C⟩
     .refine⟨n,fH (q8 (fQ (fE (fE rfl rfl H) rfl (by rw[qf];simp[E])))) rfl,I.h,λb i j=>?_,λj z=>?_⟩
      .rcases ai.mp i with q|q
       .exact I.hi1 b q j
       .rw[aj.mp q]at j;exact absurd j E
      .obtain⟨b,A,C⟩:=I.hi2 j z;exact⟨b,ax _ A,C⟩
    refine⟨_,_,rfl,.inl (fW (fQ (fE (fE rfl rfl H) rfl (by rw[lL];simp[X]))) (fF (s1 D) (fF s2 s3))),v,w,some (.p (tI r)),some (.p (fr en)),rfl,?_⟩;rw[tk];exact⟨M1,H1,M2,M3,H2,H3⟩)
 rw[aF,dh]at hI;exact⟨u,n,gh rfl (fF (fP (t:=.non) rfl rfl) (fF (fP (t:=.non) rfl rfl) (fF (iW rfl e) (fS (nE rfl rfl))))),hI⟩
def tM{s:Int}(e:∀q,s*r q=y q):(s:Rat)*ko d X r=ko d X y:=by have:=sh (d:=d) (X:=X) y y r s 1 0 (λi=>by rw[e i];lia);have b:((1:Int):Rat)=1:=rfl;have a:((0:Int):Rat)=0:=rfl;rw[b,a]at this;grind
theorem FJ{d n:Nat}{ss ix:List Nat}{f:LL}(h:KR d n ss ix f){j:Nat}{G:LL}{C:List Nat}{F:List (LL)}(P:Jv d ix.length j G C F) :
  ∀(E:List Vc),E.length=j->(∀r∈G,r.length=d+1+n/\∃t,jZ f.length E t/\∃s:Int,0<s/\∀q,s*vc r q=Lt f.length (λj=>vc (f.getD j [])) t q)->(∀u,jZ f.length E u->Cn (NO f E G) u)->∀(Z:Nat->Prop),(∀r∈G,∀p,Z p->vc r p=0)->
  (∀(i a:Nat),C[i]? = some a->∃J w,F[i]? = some J/\F[i+1]? = some w/\(∀r∈J,vc r a=0->r∈w)/\∀X:Nat->Rat,(∀r∈w,0<ko d X (vc r))->∀x∈J,∀y∈J,0<vc x a->vc y a<0->0 < -(vc y a:Rat)*ko d X (vc x)+(vc x a:Rat)*ko d X (vc y))/\
  ∃Gl,F[C.length]? = some Gl/\F.getLast? = some Gl/\(∀r∈Gl,∀p,(Z p\/p∈C)->vc r p=0)/\∀r∈Gl,r.length=d+1+n/\∃t,jZ f.length [] t/\∃s:Int,0<s/\∀q,s*vc r q=Lt f.length (λj=>vc (f.getD j [])) t q:=by
 induction P with
 |nil=>
  rename_i j G;intro E S L K Z hz;refine⟨λi a q=>by simp at q,G,rfl,rfl,λr hr p o=>?_,λr hr=>?_⟩
  .simp_all
  .obtain⟨l,t,I,q⟩:=L r hr;exact⟨l,t,C6 I λA S=>(nomatch S),q⟩
 |cons st P ih=>
  rename_i j a G G' C F;intro E S L K Z hz;subst S;obtain⟨hG',H⟩:=ES h L K st;obtain⟨i1,Gl,i2,i3,i4,i5⟩:=ih ((λj=>vc (f.getD j []) a)::E) (by simp) hG' H (λp=>Z p\/p=a) (λr hr p o=>by
   rcases st.from_ r hr with⟨Q,q2⟩|⟨x,hx,y,P,px,ny,hj⟩
   .grind
   .rcases o with o|rfl
    .obtain⟨g,hg,v⟩:=hj.ex;refine qM (g:=g) (by lia) ?_;rw[v p,hz x hx p o,hz y P p o];simp
    .exact hj.at0)
  have Y:F[0]? = some G':=by cases P<;>rfl
  have lne:F≠[]:=λz=>by rw[z]at Y;cases Y
  refine⟨λi b q=>?_,Gl,?_,?_,λr hr p o=>i4 r hr p ?_,i5⟩
  .cases i with
   |zero=>
    simp at q;subst q;refine⟨G,G',rfl,by simpa using Y,st.stay,λX hX x hx y hy' px ny=>?_⟩;obtain⟨_,t,I,s,hs,e⟩:=L x hx;obtain⟨_,k,D,s',N,e'⟩:=L y hy';let A:Vc:=λj=>vc (f.getD j []) a;have R:∀t,iX f.length A t=Lt f.length (λj=>vc (f.getD j [])) t a:=λt=>Gg f.length (λj=>vc (f.getD j [])) t a;have p1:0<iX f.length A t:=by rw[R,<-e a];exact aW hs px
    have p2:iX f.length A k<0:=by rw[R,<-e' a];exact dP N ny
    have cz:jZ f.length (A::E) (λi=>(-iX f.length A k)*t i+iX f.length A t*k i):=by
     have lin:∀B,iX f.length B (λi=>(-iX f.length A k)*t i+iX f.length A t*k i)=(-iX f.length A k)*iX f.length B t+iX f.length A t*iX f.length B k:=λB=>by have:=oC (m:=f.length) (A:=B) (x:=t) (y:=k) (z:=λi=>(-iX f.length A k)*t i+iX f.length A t*k i) (s:=1) (a:=-iX f.length A k) (b:=iX f.length A t) (λi=>by grind);simpa using this
     obtain⟨j,hj⟩:=I.ne;have Q:0 < -iX f.length A k:=by lia
     refine⟨λi=>?_,λi hi=>?_,⟨j,?_⟩,λB U=>?_⟩
     .have x1:=aO (az Q) (I.nn i);have x2:=aO (az p1) (D.nn i);lia
     .rw[I.out i hi,D.out i hi];simp
     .have gj:0<t j:=by have:=I.nn j;lia
      have x1:=aW Q gj;have x2:=aO (az p1) (D.nn j);lia
     .rw[lin B];rcases aE.mp U with rfl|U
      .grind
      .rw[I.eq B U,D.eq B U];simp
    have hf:∀x y z (s a b:Int),(∀i,s*z i=a*x i+b*y i)->(s:Rat)*ko d X (Lt f.length (λj=>vc (f.getD j [])) z)=(a:Rat)*ko d X (Lt f.length (λj=>vc (f.getD j [])) x)+(b:Rat)*ko d X (Lt f.length (λj=>vc (f.getD j [])) y):=λx y z s a b hh=>sh _ _ _ s a b λi=>Ij hh i;have pos:=Cn.posQ hf (λu ⟨_,r,hr,s2,hs2,e2⟩=>by rw[<-tM (λq=>e2 q)];exact dU (nK hs2) (hX r hr)) (H _ cz)
    have lz:=hf t k (λi=>(-iX f.length A k)*t i+iX f.length A t*k i) 1 (-iX f.length A k) (iX f.length A t) (λi=>by grind);have e1:=tM (d:=d) (X:=X) (λq=>e q);have e2:=tM (d:=d) (X:=X) (λq=>e' q);have a1:(iX f.length A t:Rat)=(s:Rat)*(vc x a:Rat):=by rw[R,<-e a];simp
    have a2:(iX f.length A k:Rat)=(s':Rat)*(vc y a:Rat):=by rw[R,<-e' a];simp
    have ss0:=dU (nK hs) (nK N);refine eP (c:=(s:Rat)*(s':Rat)) ?_ (dY ss0);have ev:ko d X (Lt f.length (λj=>vc (f.getD j [])) (λi=>(-iX f.length A k)*t i+iX f.length A t*k i))=(s:Rat)*(s':Rat)*(-(vc y a:Rat)*ko d X (vc x)+(vc x a:Rat)*ko d X (vc y)):=by grind
    rw[<-ev];simpa using pos
   |succ i=>obtain⟨J,w,Q,q2,q3⟩:=i1 i b (by simpa using q);exact⟨J,w,by simpa using Q,by simpa using q2,q3⟩
  .simpa using i2
  .rw[List.getLast?_cons_of_ne_nil lne];exact i3
  .rcases o with o|o
   .exact .inl (.inl o)
   .rcases aE.mp o with o|o
    .exact .inl (.inr o)
    .exact .inr o
noncomputable def Sb(N d m:Nat):Nat->Nat
 |0=>d
 |i+1=>3*Sb N d m i+2*Nb N (m-1-i)+44
def Dn s a f:lP (s.set a f)<=lP s+wt f:=by
 induction s generalizing a with
 |nil=>simp[lP]
 |cons p s ih=>
  cases a with
  |zero=>simp[lP];lia
  |succ a=>
   have:=ih a;have d:lP ((p::s).set (a+1) f)=wt p+lP (s.set a f):=by rw[List.set_cons_succ];simp[lP]
   have b:lP (p::s)=wt p+lP s:=by simp[lP]
   lia
def vn n k (h:k<n):wU n (k:Int)=some k:=by unfold wU;rw[aP (by lia),aP (by lia)];simp
def PL l (k:Nat) t (h:l[k]? = some t):gS (.lst l) (.int (k:Int))=.ok t:=by
 have a:=(aa.mp h).1;have:qC l k=some t:=by unfold qC;rw[vn _ _ a];exact h
 simp[this]
def Al{l:List Nat}(h:l.Nodup){i j a:Nat}(m:l[i]? = some a)(k:l[j]? = some a):i=j:=by
 obtain⟨b,d⟩:=aa.mp m;obtain⟨g,e⟩:=aa.mp k;have f:=cE.mp h;rcases cC i j with q|q|q
 .exact absurd (d.trans e.symm) (f i j b g q)
 .exact q
 .exact absurd (e.trans d.symm) (f j i g b q)
def BV(V:Nat)(p:Int×Int):Prop:=Bn V p.2/\Bn (2*V+30) p.1
theorem ua{d n:Nat}{ss ix:List Nat}{f:LL}(h:KR d n ss ix f)(N:Nat)(h1N:1<=N)(hd:d<=10){b:List Nat}{E:List (LL)}(hy:Jv d ix.length 0 f b E)(hpm:b.length<=10)(hpd:∀a∈b,a<d)(hnd:b.Nodup)(hb:∀(i:Nat) G,E[i]? = some G->∀r∈G,r.length=d+1+n/\∀x∈r,Bn (Nb N i) x)
  (Z:Nat->Prop) (hZ:∀r∈f,∀p,Z p->vc r p=0) (zR:∀p,p<d->Z p\/p∈b) (A8:∀Gl,E.getLast? = some Gl->∀r∈Gl,vc r d<0) (hE:∀i,i<b.length->Nb N (b.length-1-i)+Sb N d b.length i+20<=7000) (V:Nat) (h1V:1<=V) (hV:∀i,i<b.length->Nb N (b.length-1-i)+Sb N d b.length i+21<=V) :
  ∃s:List (Int×Int),j6 c [.lst (E.map λg=>T.lst (g.map tI)),.lst (b.map λ(j:Nat)=>T.int (j:Int)),.lst ((List.replicate d ((0,1):Int×Int)).map fr)]=.ok (s.map fr)/\s.length=d/\(∀p∈s,Fq p/\BV V p)/\lP s<=Sb N d b.length b.length/\(∀p,p<d->p∉b->s.getD p (0,1)=(0,1))/\∀r∈f,0<ko d (Xs s) (vc r):=by
 have sz:1000<sizeLine:=by decide
 have g0:∀r∈f,r.length=d+1+n/\∃t,jZ f.length [] t/\∃s:Int,0<s/\∀q,s*vc r q=Lt f.length (λj=>vc (f.getD j [])) t q:=λr hr=>by
  obtain⟨j,hj⟩:=dc.mp hr;have jl:=(aa.mp hj).1;have ej:f.getD j []=r:=by rw[af,hj];rfl
  refine⟨h.l r hr,ou j,⟨λi=>by unfold ou;split<;>lia,λi B=>by unfold ou;rw[aQ (by lia)],⟨j,by simp[ou]⟩,λA hA=>(nomatch hA)⟩,1,by decide,λq=>?_⟩;rw[uJ f.length _ j jl q,ej,dg]
 have gen0:∀u,jZ f.length [] u->Cn (NO f [] f) u:=λu hu=>(xx f.length (cs f.length u) u (aJ _) hu).mono λx ⟨i,B,Y⟩=>by
  subst Y;have hm:f.getD i []∈f:=by rw[af,ag B];exact aU B
  refine⟨⟨λk=>by unfold ou;split<;>lia,λk hk=>by unfold ou;rw[aQ (by lia)],⟨i,by simp[ou]⟩,λA hA=>(nomatch hA)⟩,f.getD i [],hm,1,by decide,λq=>?_⟩;rw[uJ f.length _ i B q,dg]
 obtain⟨at_,Gl,la1,la2,la3,la4⟩:=FJ h hy [] rfl g0 gen0 Z hZ;let m:=b.length;let J:List (Int×Int):=List.replicate d (0,1);let R (s:List (Int×Int)) (x4 x5 K:Option W):En:=[some (.p (.lst (E.map λg=>T.lst (g.map tI)))),some (.p (.lst (b.map λ(j:Nat)=>T.int (j:Int)))),some (.p (.lst (J.map fr))),some (.o (s.map fr)),x4,x5,K];have fq0:Fq (0,1):=⟨by decide,by decide⟩;obtain⟨ρ,e,s,x4,x5,K,rfl,k1,k2,X,H,G,I,k6⟩:=iH (m:=lb 2 (gO (jD 4) (gO (jD 5) kX))) (g:=oR c) (λ(p:Nat×Nat)=>T.tup [.int (p.2:Int),.int (p.1:Int)])
  (λi ρ=>∃(s:List (Int×Int)) (x4 x5 K:Option W),ρ=R s x4 x5 K/\s.length=d/\(∀p∈s,Fq p/\BV V p)/\lP s<=Sb N d m i/\(∀p,p<d->p∉b.drop (m-i)->s.getD p (0,1)=(0,1))/\∃G,E[m-i]? = some G/\∀r∈G,0<ko d (Xs s) (vc r))
  b.zipIdx.reverse 0 (R J none none none) ⟨J,none,none,none,rfl,by simp[J],λp C=>by rw[a9 C];exact⟨fq0,(HU (n:=0)).mono (by lia),zG⟩,by
   show lP (List.replicate d (0,1))<=d;have w1:wt (0,1)=1:=by decide
   simp[lP,w1],λp C _=>by
   show (List.replicate d ((0,1):Int×Int)).getD p (0,1)=(0,1);rw[af,List.getElem?_replicate];split<;>rfl,Gl,by simpa[m] using la1,λr hr=>by
   rw[pj λp C=>la3 r hr p (zR p C)];have:=A8 Gl la2 r hr;have q:=nK (show 0 < -vc r d by lia);simpa using q⟩ (by
   rintro i ⟨a,jn⟩ ρ B ⟨s,x4,x5,K,rfl,k1,k2,X,H,G',I,k6⟩;rw[aF]at X H I ⊢;have il:i<m:=by have:=(aa.mp B).1;simpa[m] using this
   rw[List.getElem?_reverse (by simpa[m] using il)]at B;have hz:b.zipIdx.length-1-i=m-1-i:=by simp[m]
   rw[hz,List.getElem?_zipIdx]at B;have hpl:b[m-1-i]? = some a/\jn=m-1-i:=by
    cases q:b[m-1-i]? with
    |none=>rw[q]at B;cases B
    |some a'=>rw[q]at B;simp at B;exact⟨by rw[B.1],B.2.symm⟩
   obtain⟨D,hjn⟩:=hpl;subst hjn;have am:=au D;have ad:=hpd a am;obtain⟨G,G2,q1,q2,q3,q4⟩:=at_ (m-1-i) a D;have e2:m-1-i+1=m-i:=by lia
   rw[e2,I]at q2;cases q2;have hGb:=hb (m-1-i) G q1;have hEi:=hE i il;have k3':=X;have hE2:Nb N (m-1-i)+lP s+20<=7000:=by show Nb N (m-1-i)+lP s+20<=7000;lia
   have n1:1<=Nb N (m-1-i):=aM h1N (CM N (bG _));obtain⟨F,w,ee,L⟩:=Bd (c:=c) d a (Nb N (m-1-i)) (d+1+n) (by lia) ad hd n1 s k1 (λp C=>(k2 p C).1) (by lia) G hGb;have sa:s.getD a (0,1)=(0,1):=H a ad λhm=>by obtain⟨q,hq⟩:=dc.mp hm;rw[List.getElem?_drop]at hq;have:=Al hnd D hq;lia
   have Xa:Xs s a=0:=by unfold Xs;rw[sa,RU]
   have lt:∀p r,F=some p->w=some r->qv p<qv r:=λp r ep er=>by
    obtain⟨x,hx,px,Y⟩:=L.lo2 p ep;obtain⟨y,hy',ny,ey⟩:=L.hi2 r er;have key:=q4 (Xs s) k6 x hx y hy' px ny;rw[Y,ey];unfold pY;have a1:(0:Rat)<(vc x a:Rat):=nK px;have a2:(0:Rat) < -(vc y a:Rat):=by have:=nK (show 0 < -vc y a by lia);simpa using this
    generalize ko d (Xs s) (vc x)=e1 at *;generalize ko d (Xs s) (vc y)=e2 at *;generalize (vc x a:Rat)=u at *;generalize (vc y a:Rat)=v at *;refine dX (c:=u * -v) ?_ (dY (dU a1 a2));have u0:u≠0:=by grind
    have v0:v≠0:=by grind
    have t1:-e1 / u*(u * -v)=e1*v:=by grind
    have t2:-e2 / v*(u * -v)=e2*u:=by grind
    rw[t1,t2];grind
   obtain⟨x,Y,gd,S,Q⟩:=wc (c:=c) (Nb N (m-1-i)+lP s+20) hE2 F w L.l L.h lt;have wx:wt x<=2*(Nb N (m-1-i)+lP s+20)+4:=Nat.max_le.mpr ⟨DG S (by lia),DG (Q.mono (by lia)) (by lia)⟩;have ixl:gS (.lst (E.map λg=>T.lst (g.map tI))) (.int ((m-1-i:Nat):Int))=.ok (.lst (G.map tI)):=by
    have q:(E.map λg=>T.lst (g.map tI))[m-1-i]? = some (T.lst (G.map tI)):=by rw[av,q1];rfl
    exact PL _ _ _ q
   have s1:setO 6 (m9 (fM (fj (fL gS (fv 0) (fv 4)) (fj (fv 5) (fj (fv 3) fC))) (mM c))) (R s (some (.p (.int ((m-1-i:Nat):Int)))) (some (.p (.int (a:Int)))) K)=.nx (R s (some (.p (.int ((m-1-i:Nat):Int)))) (some (.p (.int (a:Int)))) (some (.p (.tup [oT F,oT w])))):=by refine uA (kW (x:=.lst (G.map tI)) (fE rfl rfl ixl) rfl rfl ee) ?_ rfl;cases F<;>cases w<;>rfl
   have s2:vv 3 (m9 (fv 5)) (m9 (fM (fj (fL gS (fv 6) (cM (.int 0))) (fj (fL gS (fv 6) (cM (.int 1))) fC)) (jF c))) (R s (some (.p (.int ((m-1-i:Nat):Int)))) (some (.p (.int (a:Int)))) (some (.p (.tup [oT F,oT w]))))=.nx (R (s.set a x) (some (.p (.int ((m-1-i:Nat):Int)))) (some (.p (.int (a:Int)))) (some (.p (.tup [oT F,oT w])))):=by
    refine zc (us:=s.map fr) rfl (hW (x:=oT F) (y:=oT w) (fE rfl rfl rfl) (fE rfl rfl rfl) Y) rfl (j:=(a:Int)) (m:=a) rfl ?_ ?_
    .rw[aw];exact vn _ _ (by lia)
    .show _=List.set _ _ _;simp[R,dB]
   refine⟨_,_,rfl,.inl (fF s1 s2),s.set a x,some (.p (.int ((m-1-i:Nat):Int))),some (.p (.int (a:Int))),some (.p (.tup [oT F,oT w])),rfl,by rw[bQ,k1],λp C=>?_,?_,λp C P=>?_,G,by rw[show m-(i+1)=m-1-i by lia];exact q1,λr hr=>?_⟩
   .rcases eF C with q|q
    .exact k2 p q
    .rw[q];exact⟨⟨gd.pos,gd.one⟩,Q.mono (by have:Nb N (m-1-i)+Sb N d m i+21<=V:=hV i il;lia),S.mono (by have:Nb N (m-1-i)+Sb N d m i+21<=V:=hV i il;lia)⟩
   .have:=Dn s a x;show _<=3*Sb N d m i+2*Nb N (m-1-i)+44;lia
   .rw[show m-(i+1)=m-1-i by lia]at P;have dr:b.drop (m-1-i)=a::b.drop (m-i):=by have hlt:=(aa.mp D).1;rw[cS hlt,e2];congr 1;exact (aa.mp D).2
    rw[dr]at P;have pa:p≠a:=λz=>P (by simp[z]);rw[af,aq (λz=>pa z.symm),<-af];exact H p C λz=>P (by simp[z])
   .rw[Ic s a x (by lia),C8 ad,Xa];have nx:(0:Rat)<ko d (Xs s) (vc r)+(vc r a:Rat)*(qv x-0):=by
     rcases eO (vc r a) 0 with q|q|q
     .obtain⟨p,ep,U⟩:=L.hi1 r hr q;have lt2:=gd.hi p ep;unfold pY at U;have a2:(0:Rat) < -(vc r a:Rat):=by have:=nK (show 0 < -vc r a by lia);simpa using this
      generalize ko d (Xs s) (vc r)=e1 at *;generalize (vc r a:Rat)=v at *;have v0:v≠0:=by grind
      have t:qv x < -e1 / v:=by grind
      have:=dW t a2;have t1:-e1 / v * -v=e1:=by grind
      rw[t1]at this;grind
     .have:=k6 r (q3 r hr q);rw[q];simp;grind
     .obtain⟨p,ep,U⟩:=L.lo1 r hr q;have lt2:=gd.lo p ep;unfold pY at U;have a2:(0:Rat)<(vc r a:Rat):=nK q;generalize ko d (Xs s) (vc r)=e1 at *;generalize (vc r a:Rat)=v at *;have v0:v≠0:=by grind
      have t:-e1 / v<qv x:=by grind
      have:=dW t a2;have t1:-e1 / v*v = -e1:=by grind
      rw[t1]at this;grind
    exact nx)
 have fl:(b.zipIdx.reverse).length=m:=by simp[m]
 rw[aF,fl]at X H I;rw[Nat.sub_self]at H I;have G0:E[0]? = some f:=by cases hy<;>rfl
 rw[G0]at I;cases I;have ito:DW (fj (iB (P6 (fj (fv 1) fC))) fC) (nH (R J none none none))=.ok (b.zipIdx.reverse.map λ(p:Nat×Nat)=>T.tup [.int (p.2:Int),.int (p.1:Int)]):=by have U:P6 (fj (fv 1) fC) (nH (R J none none none))=.ok (nr (b.map λ(j:Nat)=>T.int (j:Int))):=rfl;simp only[DW,fj,fC,iB,U,M.bind_ok];rw[ym,List.map_reverse]
 refine⟨s,nJ rfl (fF (lD (ts:=J.map fr) rfl rfl) (fF (iW ito e) rfl)),k1,k2,X,λp C P=>H p C (by simpa using P),k6⟩
def Eh(d M L:Nat)(hdL:d<L)(hd:d<=10)(hM:1<=M)(pv:List (Nat×LI))(s:List (Int×Int))(hs:s.length=d)(V:Nat)(hq:∀p∈s,Fq p/\BV V p)(H:∀p∈pv,p.1<d/\p.2.length=L/\vc p.2 p.1≠0/\∀x∈p.2,Bn M x)(hw:pv.Pairwise λp q=>p.1≠q.1/\vc q.2 p.1=0/\vc p.2 q.1=0)(h0:∀p∈pv,s.getD p.1 (0,1)=(0,1))(hE:pv≠[]->M+lP s+20<=8000)(hV:pv≠[]->M+lP s+1<=V) :
  ∃f,pN c [.lst (pv.map ke),.lst (s.map fr)]=.ok (tS f)/\f.length=d/\(∀p∈f,Fq p/\BV V p)/\lP f<=lP s+pv.length*(M+lP s+20)/\(∀p∈pv,ko d (Xs f) (vc p.2)=0)/\∀r:Vc,(∀p∈pv,r p.1=0)->ko d (Xs f) r=ko d (Xs s) r:=by
 have sz:1000<sizeLine:=by decide
 let R (f:List (Int×Int)) (E B:Option W):En:=[some (.p (.lst (pv.map ke))),some (.p (.lst (s.map fr))),some (.o (f.map fr)),E,B];obtain⟨U,e,f,E,B,rfl,Z,X,J,F,u,K⟩:=iH (m:=lb 2 (gO (jD 3) (gO (jD 4) kX))) (g:=sT c) ke
  (λi U=>∃(f:List (Int×Int)) (E B:Option W),U=R f E B/\f.length=d/\(∀p∈f,Fq p/\BV V p)/\lP f<=lP s+i*(M+lP s+20)/\(∀p∈pv.take i,ko d (Xs f) (vc p.2)=0)/\(∀r:Vc,(∀p∈pv.take i,r p.1=0)->ko d (Xs f) r=ko d (Xs s) r)/\∀q,(∀p∈pv.take i,p.1≠q)->f.getD q (0,1)=s.getD q (0,1))
  pv 0 (R s none none) ⟨s,none,none,rfl,hs,hq,by lia,λp H=>by simp at H,λr _=>rfl,λq _=>rfl⟩ (by
   rintro i ⟨a,h⟩ U P ⟨f,E,B,rfl,Z,X,J,F,u,K⟩;rw[aF]at J F u K ⊢;have w:=au P;have hV:=hV (λz=>by rw[z]at w;cases w);have hE:=hE (λz=>by rw[z]at w;cases w);obtain⟨ha,hl,n,Y⟩:=H _ w;simp only at ha hl n Y;have il:=(aa.mp P).1;have l:∀p∈pv.take i,p.1≠a/\vc h p.1=0/\vc p.2 a=0:=λp b=>by
    obtain⟨j,S⟩:=dc.mp b;rw[List.getElem?_take]at S;split at S
    .rename_i jl;have N:=aa.mp S;have I:=aa.mp P;have:=cE.mp hw j i N.1 I.1 jl;rw[N.2,I.2]at this;exact this
    .cases S
   obtain⟨r,e1,g1,v1⟩:=tP (c:=c) M (by lia) hM h s (by lia) (by lia) Y (λp H=>(hq p H).1) (by lia);obtain⟨o,e2,Q,v2⟩:=xI (c:=c) (k:=vc h a) n (Y _ (by unfold vc;rw[af,ag (show a<h.length by lia)];exact aU _)) g1 (by lia) (by lia)
   have st:sT c (R f (some (.p (.int (a:Int)))) (some (.p (tI h))))=.nx (R (f.set a o) (some (.p (.int (a:Int)))) (some (.p (tI h)))):=by
    refine zc (us:=f.map fr) rfl (hW (x:=fr r) (y:=fr (vc h a,1)) (hW rfl rfl e1) (nE (fE rfl rfl (jA h a (by lia))) rfl) e2) rfl (j:=(a:Int)) (m:=a) rfl ?_ ?_
    .rw[aw];exact vn _ _ (by lia)
    .simp[R,dB]
   have Xa:Xs f a=0:=by have N:=K a λp b=>(l p b).1;have I:=h0 _ w;simp only at I;unfold Xs;rw[N,I,RU]
   have ev:∀r:Vc,ko d (Xs (f.set a o)) r=ko d (Xs f) r+(r a:Rat)*qv o:=λr=>by rw[Ic f a o (by lia),C8 ha,Xa];grind
   have C:=iZ _ i (a,h) P;refine⟨_,_,rfl,.inl st,f.set a o,_,_,rfl,by rw[bQ,Z],λp b=>?_,?_,?_,?_,?_⟩
   .rcases eF b with q|q
    .exact X p q
    .rw[q];have w2:wt o<=M+lP s+20:=Q.wt (by lia) (by lia) (by lia);exact⟨Q.fq,Q.b2.mono (by lia),(Af o.1).mono (aM (cV _ _) (aM w2 (by lia)))⟩
   .have w1:=Dn f a o;have w2:wt o<=M+lP s+20:=Q.wt (by lia) (by lia) (by lia);rw[Nat.add_mul];lia
   .intro p b;rw[C]at b;rw[ev];rcases ai.mp b with q|q
    .rw[F p q,(l p q).2.2];simp;grind
    .have:p=(a,h):=by simpa using q
     subst this;simp only;rw[u (vc h) λp b=>(l p b).2.1,v2,v1];have dq:=uW d s h hs (by lia);rw[dq,hs];unfold ko;have ne:(vc h a:Rat)≠0:=by intro z;exact n (by exact_mod_cast z)
     generalize sD d (λp=>(vc h p:Rat)*Xs s p)=A;generalize (vc h a:Rat)=v at *;grind
   .intro r hr;rw[ev,hr (a,h) (by rw[C];simp),u r λp b=>hr p (by rw[C];simp[b])];simp;grind
   .intro q D;have qa:=D (a,h) (by rw[C];simp);rw[af,aq qa,<-af];exact K q λp b=>D p (by rw[C];simp[b]))
 rw[aF,dh]at F u;rw[aF]at J;exact⟨f,gh rfl (fF (lD (ts:=s.map fr) rfl rfl) (fF (iW rfl e) (fS rfl))),Z,X,J,F,u⟩
def yh row s (a:s.natAbs<=1) (d:row.length<=1000):mW c [tI row,.int s]=.ok (tI (row.map λx=>s*x)):=by
 have sz:1000<sizeLine:=by decide
 refine gh rfl (fS (oX (iE (kr row T.int (λx=>T.int (s*x)) rfl (by lia) (λx b=>⟨_,rfl,rfl,fE rfl rfl (ik (tK (by lia)))⟩) (by rw[aH];rfl))) rfl))
def Ak row s i:vc (row.map λx=>s*x) i=s*vc row i:=by unfold vc;rw[af,af,av];cases row[i]?<;>simp
def LM(a:s.natAbs<=1)(h:Bn N x):Bn N (s*x):=by unfold Bn at *;rw[aX];refine b5 ?_ h;exact aM (eU _ a) (by lia)
def Dr(h:f ρ=.ok (tI ys)):iB (BE lW (fj f fC)) ρ=.ok (tL ys):=by simp only[iB,BE,fj,fC,h,M.bind_ok];rfl
def Cw d L (w:d<L) (z:L<=1000) (a:LL) (hr:∀r∈a,r.length=L) :
  (ir c [.lst (a.map tI),.int (d:Int)]=.ok .non/\∀r∈a,vc r d=0)\/
  ∃r∈a,vc r d≠0/\ir c [.lst (a.map tI),.int (d:Int)]=.ok (tL ((r.map λx=>qN (vc r d)*x).drop (d+1))):=by
 have main:=se (m:=jD 2) (g:=mD c) tI
  (λk n=>∃(s:Option W),n=[some (.p (.lst (a.map tI))),some (.p (.int d)),s]/\∀r∈a.take k,vc r d=0)
  (λt=>∃r∈a,vc r d≠0/\t=tL ((r.map λx=>qN (vc r d)*x).drop (d+1))) a 0 _ ⟨none,rfl,λr h=>by simp at h⟩ (by
   rintro i r n u ⟨s,rfl,h⟩;rw[aF]at h ⊢;have l:=au u;have y:=hr r l;refine⟨_,rfl,?_⟩;have b:gS (tI r) (.int d)=.ok (.int (vc r d)):=jA r d (by lia);by_cases f:vc r d=0
   .left;refine⟨_,fH (fQ (fE (fE rfl rfl b) rfl (by rw[lL,f];rfl))) rfl,_,rfl,λv j=>?_⟩;rw[iZ _ i r u]at j;rcases ai.mp j with q|q
    .exact h v q
    .rw[aj.mp q];exact f
   .right;have o:(qN (vc r d)).natAbs<=1:=by unfold qN;split<;>(try split)<;>simp
    exact⟨_,fW (fQ (fE (fE rfl rfl b) rfl (by rw[lL];simp[f]))) (fS (Dr (qX _ d (hW rfl (qF (fE rfl rfl b) (qK _)) (yh r _ o (by lia))) rfl))),r,l,f,rfl⟩)
 rcases main with⟨n,e,s,rfl,h⟩|⟨t,e,r,l,f,rfl⟩
 .left;rw[aF,dh]at h;exact⟨gh rfl (fF (iW rfl e) (fS rfl)),h⟩
 .right;exact⟨r,l,f,gh rfl (j5 (iW rfl e) rfl)⟩
def Ka us:(us.zipIdx.map λp=>p.1++(List.replicate us.length (0:Int)).set p.2 1)=(List.range us.length).map (wr us):=by
 apply List.ext_getElem
 .simp
 .intro i a b;simp only[aw,List.length_zipIdx]at a;simp[wr,List.getElem_zipIdx,a]
def B5{n:Nat}{f:LI}{k:Nat}{s:Int}:(k,s)∈(List.range n).zip f↔k<n/\f[k]? = some s:=by
 rw[dc];constructor
 .rintro⟨i,g⟩;rw[List.getElem?_zip_eq_some]at g;obtain⟨e,d⟩:=g;simp only at e d;have:=aa.mp e;simp at this;obtain⟨a,b⟩:=this;subst b;exact⟨a,d⟩
 .rintro⟨e,d⟩;exact⟨k,List.getElem?_zip_eq_some.mpr ⟨by simp[e],d⟩⟩
structure Ju(n:Nat)(sg:LI):Prop where
 len:sg.length=n
 one:∀x∈sg,x.natAbs<=1
noncomputable def zer(n:Nat)(a:LI):List Nat:=(((List.range n).zip a).filter λp=>p.2==0).map Prod.fst
noncomputable def wK(n:Nat)(a:LI):List (Nat×Int):=((List.range n).zip a).filter λp=>p.2 != 0
def qh{n:Nat}{d:LI}{k:Nat}:k∈zer n d↔k<n/\d[k]? = some 0:=by
 unfold zer;rw[aC];constructor
 .rintro⟨⟨f,s⟩,h,rfl⟩;obtain⟨b,a⟩:=aT.mp h;have:=B5.mp b;have e:s=0:=by simpa using a
  subst e;exact this
 .rintro⟨b,a⟩;exact⟨(k,0),aT.mpr ⟨B5.mpr ⟨b,a⟩,by simp⟩,rfl⟩
def oH{n:Nat}{a:LI}{k:Nat}{s:Int}:(k,s)∈wK n a↔k<n/\a[k]? = some s/\s≠0:=by unfold wK;rw[aT,B5];simp[and_assoc]
theorem pV{d e:Type}:∀(a:List d) (b:List e),((a.zip b).map Prod.fst).Sublist a
 |[],_=>by simp
 |_::_,[]=>by simp
 |x::a,y::b=>by simp[pV a b]
def ON{g v:Int}(a:0<g)(h:0<g*v):0<v:=aN λq=>by have:=eg (show v<=0 by lia) (az a);rw[dk]at this;lia
def HN(n:Nat)(a:LI):((wK n a).map Prod.fst).Nodup:=by have b:((wK n a).map Prod.fst).Sublist (((List.range n).zip a).map Prod.fst):=(eV).map _;have d:(((List.range n).zip a).map Prod.fst).Sublist (List.range n):=pV _ _;exact (dO).sublist (b.trans d)
def Fu(h:∀i,i<=d->x i=y i):ko d X x=ko d X y:=by unfold ko;rw[mP d _ (λp=>(y p)*X p) λp a=>by rw[h p (by lia)],h d (aJ _)]
def Qs.evl0(h:∀x,P x->ko d X x=0)(q:Qs P z):ko d X z=0:=by
 induction q with
 |of p=>exact h _ p
 |zero=>rw[pj λ_ _=>rfl];simp
 |lin hx hy hs e i1 i2=>
  rename_i x y z s a b;have:=sh (d:=d) (X:=X) x y z s a b e;rw[i1,i2]at this;have f:(s:Rat)≠0:=by intro z;exact hs (by exact_mod_cast z)
  grind
structure Q1(us:LL)(d N:Nat)(pv:List (Nat×LI))(ix:List Nat)(k:Nat)(s:Int)(r:LI):Prop where
 len:r.length=d+1+us.length
 own:0<s*vc r (d+1+k)
 oth:∀i,i∉ix->i≠k->vc r (d+1+i)=0
 lin:lV us d (vc r)
 zer:∀p∈pv,vc r p.1=0
 ex:∃(g s':Int) (y:Vc),0<g/\0<s'/\Qs (J5 pv) y/\∀i,g*vc r i=s'*(s*vc (wr us k) i)+1*y i
 bn:∀x∈r,Bn N x
def Gp{pv:List (Nat×LI)}(hd:d<=4)(hn:us.length<=8)(n:∀u∈us,u.length=d+1)(S:∀u∈us,∀x∈u,Bn B x)(I:PU d B)(h:PV us d B zs pv rs ix)(m:k<us.length)(A:k∉zs)(X:s.natAbs<=1)(h0:s≠0) :
  ∃r,kf c [tI ((wr us k).map λx=>s*x),.lst (pv.map ke)]=.ok (tI r)/\Q1 us d (B+pv.length*(Pq B pv.length+1)) pv ix k s r:=by
 have P:=B3 us d k m n;have Q:k∉ix:=λz=>A (h.sub k z);have C:=I.le pv.length h.short;obtain⟨r,e,l,b,⟨g,o,y,K,v,w,Y⟩,z⟩:=we (J5 pv) (d+1+us.length) (Pq B pv.length) B (by lia) pv ((wr us k).map λx=>s*x) C (by rw[aw,P]) (λx U=>by
  obtain⟨N,D,rfl⟩:=aC.mp U;exact LM X (Mg I.b1 us k m S N D)) (λp j=>by
  obtain⟨q1,J,R,Z,-⟩:=h.pl p j;exact⟨by lia,J,R,Z,⟨p,j,rfl⟩⟩) (h.pw.imp λq=>q.2.1)
 have f:∀i,g*vc r i=o*(s*vc (wr us k) i)+1*y i:=λi=>by rw[Y i,Ak]
 have H:∀i,i∉ix->y (d+1+i)=0:=λi E=>Qs.at0 (λx ⟨p,j,ex⟩=>by rw[ex];exact (h.pl p j).2.2.2.2.2 i E) w;refine⟨r,e,l,?_,λi E F=>?_,?_,z,⟨g,o,y,K,v,w,f⟩,b⟩
 .have q:=f (d+1+k);rw[H k Q,Ad us d k m n,aQ (by lia),aP (by lia)]at q;have ss:s*s=1:=by
   have:s=1\/s = -1:=by lia
   rcases this with e|e<;>rw[e]<;>decide
  have J:g*(s*vc r (d+1+k))=o:=by
   have:g*(s*vc r (d+1+k))=s*(g*vc r (d+1+k)):=by grind
   rw[this,q];grind
  exact ON K (by lia)
 .have q:=f (d+1+i);rw[H i E,P7 us d k m n i F]at q;exact qM (g:=g) (by lia) (by rw[q];simp)
 .have L:=lV.qs (λx ⟨p,j,ex⟩=>by rw[ex];exact (h.pl p j).2.2.2.2.1) w;exact lV.comb (g:=g) (a:=o*s) (b:=1) (by lia) (FP us d k m n) L λi=>by rw[f i];grind
structure Q7(us:LL)(d:Nat)(sg ws:LI):Prop where
 len:ws.length=us.length
 may:∀i s,sg[i]? = some s->0<=s*vc ws i
 zer:∀k,k<d->sm us.length (λi=>vc ws i*vc (us.getD i []) k)=0
 fin:0<sm us.length (λi=>vc ws i*vc (us.getD i []) d)\/(sm us.length (λi=>vc ws i*vc (us.getD i []) d)=0/\∃i s,sg[i]? = some s/\s*vc ws i≠0)
def CZ r k i:vc (r.drop k) i=vc r (k+i):=by unfold vc;rw[af,af,List.getElem?_drop]
theorem Dl:∀m g t,(∀j,j<m->lV us d (g j))->lV us d (Lt m g t)
 |0,g,t,_=>by have:Lt 0 g t=λ_=>0:=rfl;rw[this];exact lV.zero
 |m+1,g,t,h=>by refine lV.comb (g:=1) (a:=t 0) (b:=1) (by decide) (h 0 (by lia)) (Dl m (λj=>g (j+1)) (λj=>t (j+1)) λj e=>h (j+1) (by lia)) λi=>?_;show 1*(t 0*g 0 i+sm m λj=>t (j+1)*g (j+1) i)=t 0*g 0 i+1*(sm m λj=>t (j+1)*g (j+1) i);lia
def K0 m j0 (b:j0<m) f (h:∀j,j<m->j≠j0->f j=0):sm m f=f j0:=by
 rw[<-yJ m j0 f b];refine ka m _ _ λj a=>?_;by_cases q:j=j0
 .rw[aP q];lia
 .rw[aQ q,h j a q];rfl
def Ov{us:LL}{d N:Nat}{n:LI}{pv:List (Nat×LI)}{P:List Nat}(F:Ju us.length n)(J:∀i∈P,i∈zer us.length n){f:Nat×Int->LI}(K:∀p∈wK us.length n,Q1 us d N pv P p.1 p.2 (f p)){r:LI}(hl:r.length=d+1+us.length){t:Vc}(C:jZ ((wK us.length n).map f).length [] t){s:Int}(hs:0<s)(e:∀q,s*vc r q=Lt ((wK us.length n).map f).length (λj=>vc (((wK us.length n).map f).getD j [])) t q)
  (h0:∀k,k<d->vc r k=0) (hd:0<=vc r d):Q7 us d n (r.drop (d+1)):=by
 generalize v:(wK us.length n).map f=sd at *;have B:∀j,j<sd.length->∃p,(wK us.length n)[j]? = some p/\sd.getD j []=f p:=λj l=>by subst v;rw[aw]at l;refine⟨_,ag l,?_⟩;rw[af,av,ag l];rfl
 have U:lV us d (vc r):=by
  have:lV us d (Lt sd.length (λj=>vc (sd.getD j [])) t):=Dl _ _ _ λj l=>by obtain⟨p,o,x⟩:=B j l;rw[x];exact (K p (au o)).lin
  exact lV.comb (g:=s) (a:=1) (b:=0) (by lia) this lV.zero λi=>by rw[e i];lia
 have y:∀j k m,(wK us.length n)[j]? = some (k,m)->j<sd.length/\s*(m*vc r (d+1+k))=t j*(m*vc (sd.getD j []) (d+1+k))/\0<m*vc (sd.getD j []) (d+1+k):=λj k m h=>by
  have A:=au h;have l:j<sd.length:=by rw[<-v,aw];exact (aa.mp h).1
  have S:sd.getD j []=f (k,m):=by obtain⟨p,o,x⟩:=B j l;rw[o]at h;cases h;exact x
  obtain⟨k1,u,w⟩:=oH.mp A;have Y:k∉P:=λz=>by have:=(qh.mp (J k z)).2;rw[u]at this;exact w (Option.some.inj this)
  refine⟨l,?_,by rw[S];exact (K _ A).own⟩;have q:=e (d+1+k);have:Lt sd.length (λj=>vc (sd.getD j [])) t (d+1+k)=t j*vc (sd.getD j []) (d+1+k):=K0 sd.length j l _ λL D H=>by
   obtain⟨p,o,x⟩:=B L D;have:p.1≠k:=λz=>by
    have nd:=HN us.length n;refine H (Al nd (a:=k) ?_ ?_)
    .rw[av,o];simp[z]
    .rw[av,h];rfl
   show t L*vc (sd.getD L []) (d+1+k)=0;rw[x,(K p (au o)).oth k Y (λz=>this z.symm)];simp
  rw[this]at q;grind
 have E:∀i,vc (r.drop (d+1)) i=vc r (d+1+i):=λi=>CZ r (d+1) i;have Q:∀k,k<=d->sm us.length (λi=>vc (r.drop (d+1)) i*vc (us.getD i []) k)=vc r k:=λk I=>by rw[U k I];exact ka _ _ _ λi _=>by rw[E]
 refine⟨by rw[bO];lia,λi m R=>?_,λk I=>by rw[Q k (by lia),h0 k I],?_⟩
 .rw[E];by_cases z:m=0
  .rw[z];simp
  .have il:i<us.length:=by rw[<-F.len];exact (aa.mp R).1
   have A:=oH.mpr ⟨il,R,z⟩;obtain⟨j,l⟩:=dc.mp A;obtain⟨-,u,w⟩:=y j i m l;have:=aO (C.nn j) (az w);rw[<-u]at this;exact aN λq=>by have:=dP hs (show m*vc r (d+1+i)<0 by lia);lia
 .rw[Q d (aJ _)];rcases Int.lt_or_eq_of_le hd with q|q
  .exact .inl q
  .right;refine⟨q.symm,?_⟩;obtain⟨j,l⟩:=C.ne;have X:j<sd.length:=by
    rcases dI j sd.length with h|h
    .exact h
    .exact absurd (C.out j h) l
   obtain⟨⟨k,m⟩,o,-⟩:=B j X;obtain⟨-,u,w⟩:=y j k m o;have Z:=oH.mp (au o);refine⟨k,m,Z.2.1,λz=>?_⟩;rw[E]at z;rw[z,dk]at u;have:=aW (show 0<t j by have:=C.nn j;lia) w;lia
def HW{us:LL}{d B:Nat}{a:LI}{pv:List (Nat×LI)}{g:LL}{o:List Nat}(m:Ju us.length a)(h:PV us d B (zer us.length a) pv g o){r:LI}(hr:r∈g)(u:vc r d≠0):Q7 us d a ((r.map λx=>qN (vc r d)*x).drop (d+1)):=by
 obtain⟨l,z,b,w,-⟩:=h.rr r hr;have f:∀i,vc ((r.map λx=>qN (vc r d)*x).drop (d+1)) i=qN (vc r d)*vc r (d+1+i):=λi=>by rw[CZ,Ak]
 have j:∀k,k<=d->sm us.length (λi=>vc ((r.map λx=>qN (vc r d)*x).drop (d+1)) i*vc (us.getD i []) k)=qN (vc r d)*vc r k:=λk e=>by rw[b k e,<-vh];exact ka _ _ _ λi _=>by rw[f];grind
 refine⟨by rw[bO,aw];lia,λi p n=>?_,λk e=>by rw[j k (by lia),z k e];simp,.inl ?_⟩
 .by_cases q:p=0
  .rw[q];simp
  .rw[f,w i λs=>?_]
   .simp
   .have:=(qh.mp s).2;rw[n]at this;exact q (Option.some.inj this)
 .rw[j d (aJ _)];unfold qN;split
  .lia
  .split
   .lia
   .lia
structure SK(us:LL)(d Wb V:Nat)(sg:LI)(s:List (Int×Int)):Prop where
 len:s.length=d
 fq:∀p∈s,Fq p/\BV V p
 lP:lP s<=Wb
 side:∀(i:Nat) (v:Int),sg[i]? = some v->(v=0->ko d (Xs s) (vc (us.getD i []))=0)/\(v≠0->0<(v:Rat)*ko d (Xs s) (vc (us.getD i [])))
noncomputable def Ns(B k:Nat):Nat:=B+k*(Pq B k+1)
structure Bg(d B Wb V:Nat):Prop where
 sml:PU d B
 v1:1<=V
 vs:∀k m,k+m<=d->(∀i,i<m->Nb (Ns B k) (m-1-i)+Sb (Ns B k) d m i+21<=V)/\(k≠0->Pq B k+Sb (Ns B k) d m m+2<=V)
 ok:∀k m,k+m<=d->Nb (Ns B k) m<=8000/\(∀i,i<m->Nb (Ns B k) (m-1-i)+Sb (Ns B k) d m i+20<=7000)/\(k≠0->Pq B k+Sb (Ns B k) d m m+21<=8000)/\Sb (Ns B k) d m m+k*(Pq B k+Sb (Ns B k) d m m+21)<=Wb
def mL{pv:List (Nat×LI)}:k∈nk pv d↔k<d/\∀p∈pv,p.1≠k:=by
 unfold nk;rw[aT,aR];simp;intro _;constructor
 .intro h a b e z;subst z;exact h b e
 .intro h x e;exact h k x e rfl
def AA pv d:(nk pv d).Nodup:=(dO).sublist eV
def Eg{pv:List (Nat×LI)}(h:PV us d B dn pv rs ix):pv.length+(nk pv d).length<=d:=by
 have nd:(pv.map Prod.fst++nk pv d).Nodup:=by rw[List.nodup_append];refine⟨eG.mpr (h.pw.imp λq=>q.1),AA pv d,λa i b f z=>?_⟩;obtain⟨p,e,rfl⟩:=aC.mp i;exact (mL.mp f).2 p e z
 have:=uC nd λx g=>by
  rcases ai.mp g with q|q
  .obtain⟨p,e,rfl⟩:=aC.mp q;exact aR.mpr (h.pl p e).1
  .exact aR.mpr (mL.mp q).1
 simpa using this
def P5(n:Nat)(d:n<=1000)(h:f ρ=.ok (.int (n:Int))):iB (wM (iB (lstM (fj (iL (fj (cM (.int 0)) (fj (cM (.int 1)) fC))) fC))) f) ρ=.ok (.lst ((List.replicate n ((0,1):Int×Int)).map fr)):=by
 have sz:1000<sizeLine:=by decide
 have hr:zu n=true:=jI (by lia);have g:2<=sizeLine:=by decide
 have a:n<=sizeLine:=by lia
 have e:(List.replicate n [T.tup [T.int 0,T.int 1]]).flatten=(List.replicate n ((0,1):Int×Int)).map fr:=by
  clear h hr a d;induction n with
  |zero=>rfl
  |succ n ih=>rw[bT,bU,ih,bT];rfl
 have b:iB (lstM (fj (iL (fj (cM (.int 0)) (fj (cM (.int 1)) fC))) fC)) ρ=.ok (.lst [T.tup [T.int 0,T.int 1]]):=JE (nE rfl rfl);refine iE ?_;unfold wM;rw[b,h];simp[hr,a];exact .inr rfl
def KR.g0(h:KR d n ss ix sd):∀r∈sd,r.length=d+1+n/\∃t,jZ sd.length [] t/\∃s:Int,0<s/\∀q,s*vc r q=Lt sd.length (λj=>vc (sd.getD j [])) t q:=λr hr=>by
 obtain⟨j,a⟩:=dc.mp hr;have e:=(aa.mp a).1;have b:sd.getD j []=r:=by rw[af,a];rfl
 refine⟨h.l r hr,ou j,⟨λi=>by unfold ou;split<;>lia,λi g=>by unfold ou;rw[aQ (by lia)],⟨j,by simp[ou]⟩,λA f=>(nomatch f)⟩,1,by decide,λq=>?_⟩;rw[uJ sd.length _ j e q,b,dg]
def KR.gen0(_:KR d n ss ix sd):∀u,jZ sd.length [] u->Cn (NO sd [] sd) u:=λu b=>(xx sd.length (cs sd.length u) u (aJ _) b).mono λx ⟨i,hi,ex⟩=>by
 subst ex;have a:sd.getD i []∈sd:=by rw[af,ag hi];exact aU hi
 refine⟨⟨λk=>by unfold ou;split<;>lia,λk f=>by unfold ou;rw[aQ (by lia)],⟨i,by simp[ou]⟩,λA e=>(nomatch e)⟩,sd.getD i [],a,1,by decide,λq=>?_⟩;rw[uJ sd.length _ i hi q,dg]
def MQ{us:LL}{d N:Nat}{b:LI}{pv:List (Nat×LI)}{q:List Nat}{f:Nat×Int->LI}(m:∀p∈wK us.length b,Q1 us d N pv q p.1 p.2 (f p)):KR d us.length ((wK us.length b).map Prod.fst) q ((wK us.length b).map f):=by
 have o:∀j,j<((wK us.length b).map f).length->∃p,p∈wK us.length b/\((wK us.length b).map f).getD j []=f p/\((wK us.length b).map Prod.fst).getD j 0=p.1:=λj a=>by
  rw[aw]at a;refine⟨_,aU a,?_,?_⟩
  .rw[af,av,ag a];rfl
  .rw[af,av,ag a];rfl
 refine⟨by simp,HN _ _,λi l=>?_,λr hr=>?_,λj a=>?_,λj a i l g=>?_⟩
 .obtain⟨⟨k,s⟩,e,rfl⟩:=aC.mp l;exact (oH.mp e).1
 .obtain⟨p,e,rfl⟩:=aC.mp hr;exact (m p e).len
 .obtain⟨p,e,n,h⟩:=o j a;rw[n,h];intro z;have:=(m p e).own;rw[z]at this;simp at this
 .obtain⟨p,e,n,h⟩:=o j a;rw[h]at g;rw[n];exact (m p e).oth i l g
def qm(us:LL)(d B Wb V:Nat)(hd:d<=4)(hn:us.length<=8)(hl:∀u∈us,u.length=d+1)(hb:∀u∈us,∀x∈u,Bn B x)(hB:Bg d B Wb V)(n:LI)(J:Ju us.length n) :
  (∃ws,iG c [.lst (us.map tI),.int (d:Int),tI n]=.ok (.tup [.str "paper",tL ws])/\Q7 us d n ws/\∀x∈ws,Bn 8000 x)\/∃s,iG c [.lst (us.map tI),.int (d:Int),tI n]=.ok (.tup [.str "spot",tS s])/\SK us d Wb V n s:=by
 have sz:1000<sizeLine:=by decide
 obtain⟨pv,rs,ix,e4,F,hrs⟩:=CB (c:=c) us d B hd hn hl hb hB.sml (zer us.length n) (λz hz=>(qh.mp hz).1) (by
  have:=uC (m:=List.range us.length) (l:=zer us.length n) (by have h1:(zer us.length n).Sublist (((List.range us.length).zip n).map Prod.fst):=(eV).map _;exact (dO).sublist (h1.trans (pV _ _))) λx Q=>aR.mpr (qh.mp Q).1
  rw[eW]at this;lia)
 have ew:=AL (c:=c) us hn (λr hr=>by have:=hl r hr;lia);rw[Ka]at ew;let vs:T:=.lst (((List.range us.length).map (wr us)).map tI);let R (x4 x5 x6 x7 x8 x9 C:Option W):En:=[some (.p (.lst (us.map tI))),some (.p (.int (d:Int))),some (.p (tI n)),some (.p vs),x4,x5,x6,x7,x8,x9,C];have zo:∀x4 x5 x6 x7 x8 x9 C,nc (fj (fv 3) (fj (fv 2) fC)) (nH (R x4 x5 x6 x7 x8 x9 C))=.ok (((List.range us.length).zip n).map λp=>T.tup [tI (wr us p.1),.int p.2]):=λx4 x5 x6 x7 x8 x9 C=>pP (x:=vs) (y:=tI n) (l:=List.range us.length) (m:=n) (f:=λk=>tI (wr us k)) (g:=T.int) rfl (by show M.ok _=_;rw[aH];rfl) rfl rfl
 have zl:((List.range us.length).zip n).length<sizeLine:=by rw[dC,eW];lia
 have lc1:kP [none,none] (nc (fj (fv 3) (fj (fv 2) fC))) (oV 2 (iM (jV 0) (iM (jV 1) oY))) (gD (fL (fX false) (fv 1) (cM (.int 0)))) (mB c) (nH (R none none none none none none none))=.ok (((zer us.length n).map (wr us)).map tI):=nv _ _ (λp=>tI (wr us p.1)) (λp=>p.2==0) (zo _ _ _ _ _ _ _) zl (λp w=>⟨_,rfl,fQ (fE rfl rfl (ib _ _)),λ_=>rfl⟩) (by unfold zer;rw[aH,aH];rfl)
 let fo:T:=.tup [.lst (pv.map ke),.lst (rs.map tI)];have CJ:∀{o:O},(fO (setO 5 (g9 (fM (fj (fL gS (fv 4) (cM (.int 1))) (fj (fv 1) fC)) (ir c)))) _) (R (some (.p fo)) none none none none none none)=o->kR c (gM 11 [.lst (us.map tI),.int (d:Int),tI n])=o:=λ{o} h=>fF (ρ':=R none none none none none none none) (fP (iE (Nd rfl ew)) rfl) (fF (ρ':=R (some (.p fo)) none none none none none none) (fP (hW (iE lc1) rfl e4) rfl) h)
 have hlr:∀r∈rs,r.length=d+1+us.length:=λr hr=>(F.rr r hr).1;rcases Cw (c:=c) d (d+1+us.length) (by lia) (by lia) rs hlr with⟨e5,hz⟩|⟨r,hr,h0,e5⟩
 case inr=>
  left;refine⟨_,gh rfl (CJ (fF (ρ':=R (some (.p fo)) (some (.p (tL ((r.map λx=>qN (vc r d)*x).drop (d+1))))) none none none none none) (fP (hW (fE rfl rfl rfl) rfl e5) rfl) (j5 (fW (fQ (fE rfl rfl rfl)) (fS (nE rfl rfl))) rfl))),HW J F hr h0,λx Q=>?_⟩;obtain⟨y,hy,rfl⟩:=aC.mp (eX Q);have b:=(F.rr r hr).2.2.2.2 y hy;have sg1:(qN (vc r d)).natAbs<=1:=by unfold qN;split<;>(try split)<;>simp
  exact LM sg1 (b.mono (hB.sml.le d (aJ _)))
 obtain⟨f,hf⟩:=nX (P:=λ(p:Nat×Int) r=>kf c [tI ((wr us p.1).map λx=>p.2*x),.lst (pv.map ke)]=.ok (tI r)/\Q1 us d (Ns B pv.length) pv ix p.1 p.2 r) (wK us.length n) λp w=>by obtain⟨k,s⟩:=p;obtain⟨k1,k2,k3⟩:=oH.mp w;exact Gp hd hn hl hb hB.sml F k1 (λz=>by have:=(qh.mp z).2;rw[k2]at this;exact k3 (Option.some.inj this)) (J.one s (au k2)) k3
 have E:=λp w=>(hf p w).2;generalize D:(wK us.length n).map f=sd;have hS:=MQ E;rw[D]at hS;have sdl:sd.length<=8:=by rw[<-D,aw];have:(wK us.length n).length<=((List.range us.length).zip n).length:=eL _ _;rw[dC,eW]at this;lia
 have sdr:∀r∈sd,r.length=d+1+us.length/\∀x∈r,Bn (Ns B pv.length) x:=λr hr=>by rw[<-D]at hr;obtain⟨p,w,rfl⟩:=aC.mp hr;exact⟨(E p w).len,(E p w).bn⟩
 let I:Option W:=some (.p fo);let N:Option W:=some (.p .non);let U:Option W:=some (.p (.lst (pv.map ke)));have lc2:kP [none,none,some 6] (nc (fj (fv 3) (fj (fv 2) fC))) (oV 2 (iM (jV 0) (iM (jV 1) oY))) (gD (fL (fX true) (fv 1) (cM (.int 0)))) (mz c) (nH (R I N U none none none none))=.ok (sd.map tI):=nv _ _ (λp=>tI (f p)) (λp=>p.2 != 0) (zo _ _ _ _ _ _ _) zl (λp w=>⟨_,rfl,fQ (fE rfl rfl (lL _ _)),λA=>by have H:p∈wK us.length n:=aT.mpr ⟨w,A⟩;have km:=oH.mp (show (p.1,p.2)∈_ from H);refine hW (x:=tI ((wr us p.1).map λx=>p.2*x)) (y:=.lst (pv.map ke)) (hW rfl rfl (yh _ _ (J.one _ (au km.2.1)) ?_)) rfl (hf p H).1;rw[B3 us d p.1 km.1 hl];lia⟩) (by rw[<-D,aH];rfl)
 have fl:=Eg F;obtain⟨ok1,ok2,ok3,ok4⟩:=hB.ok pv.length (nk pv d).length fl;have e8:=vB (c:=c) pv d (by lia) (by lia);obtain⟨ls,e9,hy,hbl⟩:=Cr (c:=c) d (d+1+us.length) (Ns B pv.length) (by lia) (by lia) sd sdl sdr pv (by lia) (nk pv d) (by lia) (λa ha=>by have:=(mL.mp ha).1;lia) ok1;rw[F.len]at hy;let Z:Nat->Prop:=λp=>∃q∈pv,q.1=p;have hZ:∀r∈sd,∀p,Z p->vc r p=0:=λr hr p ⟨q,hq,e⟩=>by rw[<-D]at hr;obtain⟨p',hp',rfl⟩:=aC.mp hr;rw[<-e];exact (E p' hp').zer q hq
 have zR:∀p,p<d->Z p\/p∈nk pv d:=λp w=>by
  by_cases q:Z p
  .exact .inl q
  .exact .inr (mL.mpr ⟨w,λp' hp' e=>q ⟨p',hp',e⟩⟩)
 obtain⟨-,Gl,la1,K,la3,la4⟩:=FJ hS hy [] rfl hS.g0 hS.gen0 Z hZ;let xs:Option W:=some (.p (.lst (sd.map tI)));let xq:Option W:=some (.p (.lst ((nk pv d).map λ(j:Nat)=>T.int (j:Int))));let xl:Option W:=some (.p (.lst (ls.map λg=>T.lst (g.map tI))));have QW:∀{o:O},(fO (mJ (ig (fL gS (fv 9) (uL (λi=>.int (-i)) (cM (.int 1))))) (jD 10) (ky c)) _) (R I N U xs xq xl none)=o->kR c (gM 11 [.lst (us.map tI),.int (d:Int),tI n])=o:=λ{o} h=>CJ (fF (ρ':=R I N none none none none none) (fP (hW (fE rfl rfl rfl) rfl e5) rfl) (fF (ρ':=R I N none none none none none) (fH (fQ (fE rfl rfl rfl)) rfl) (fF (ρ':=R I N U none none none none) (fP (fE rfl rfl rfl) rfl) (fF (ρ':=R I N U xs none none none) (fP (iE lc2) rfl) (fF (ρ':=R I N U xs xq none none) (fP (iE (GI rfl rfl e8)) rfl) (fF (ρ':=R I N U xs xq xl none) (fP (iE (Be rfl rfl rfl rfl e9)) rfl) h))))))
 have L:ig (fL gS (fv 9) (uL (λi=>.int (-i)) (cM (.int 1)))) (nH (R I N U xs xq xl none))=.ok (Gl.map tI):=by
  have e1:ls.map (λg=>T.lst (g.map tI))=(ls.dropLast.map λg=>T.lst (g.map tI))++[T.lst (Gl.map tI)]:=by
   have A:ls≠[]:=λz=>by rw[z]at K;cases K
   have h1:=de A;have h2:ls.getLast A=Gl:=by rw[List.getLast?_eq_getLast A]at K;exact Option.some.inj K
   rw[h2]at h1;conv=>lhs;rw[<-h1]
   rw[aY];rfl
  have e2:fL gS (fv 9) (uL (λi=>.int (-i)) (cM (.int 1))) (nH (R I N U xs xq xl none))=.ok (T.lst (Gl.map tI)):=fE (x:=.lst (ls.map λg=>T.lst (g.map tI))) (y:=.int (-1)) rfl rfl (by rw[e1];exact DA _ _);unfold ig;rw[e2];rfl
 have gll:∀r∈Gl,r.length=d+1+us.length:=λr hr=>(la4 r hr).1;have main:=se (m:=jD 10) (g:=ky c) tI
  (λk ρ=>∃(C:Option W),ρ=R I N U xs xq xl C/\∀r∈Gl.take k,vc r d<0)
  (λt=>∃r∈Gl,0<=vc r d/\t=.tup [.str "paper",tL (r.drop (d+1))]) Gl 0 _ ⟨none,rfl,λr h=>by simp at h⟩ (by
   rintro i r ρ hi ⟨C,rfl,h⟩;rw[aF]at h ⊢;have H:=au hi;have Y:gS (tI r) (.int (d:Int))=.ok (.int (vc r d)):=jA r d (by have:=gll r H;lia);refine⟨_,rfl,?_⟩;by_cases h0:0<=vc r d
   .right;exact⟨_,fW (fQ (fE (fE rfl rfl Y) rfl (by rw[rB];simp[h0]))) (fS (nE rfl (Dr (qX _ d rfl rfl)))),r,H,h0,rfl⟩
   .left;refine⟨_,fH (fQ (fE (fE rfl rfl Y) rfl (by rw[rB];simp[h0]))) rfl,_,rfl,λr' hr'=>?_⟩;rw[iZ _ i r hi]at hr';rcases ai.mp hr' with q|q
    .exact h r' q
    .rw[aj.mp q];lia)
 rcases main with⟨ρ,e,C,rfl,h⟩|⟨t,e,r,H,h0,rfl⟩
 .right;rw[aF,dh]at h;have n1:1<=Ns B pv.length:=aM hB.sml.b1 (cm _ _);obtain⟨s,p1,p2,p3,p4,p5,p6⟩:=ua (c:=c) hS (Ns B pv.length) n1 (by lia) hy (by lia) (λa ha=>(mL.mp ha).1) (AA pv d) hbl Z hZ zR (λG hG r hr=>by rw[K]at hG;cases hG;exact h r hr) ok2 V hB.v1 (hB.vs pv.length (nk pv d).length fl).1;obtain⟨s',q1,q2,q3,q4,q5,q6⟩:=Eh (c:=c) d (Pq B pv.length+1) (d+1+us.length) (by lia) (by lia) (by lia) pv s p2 V p3 (λp w=>by
   obtain⟨h1,h2,h3,h4,-⟩:=F.pl p w;exact⟨h1,h2,h3,λx Q=>(h4 x Q).mono (by lia)⟩) F.pw (λp w=>p5 p.1 (F.pl p w).1 λz=>(mL.mp z).2 p w rfl) (λA=>by
   have:pv.length≠0:=λz=>A (eR.mp z);have:=ok3 this;lia) (λA=>by
   have:pv.length≠0:=λz=>A (eR.mp z);have:=(hB.vs pv.length (nk pv d).length fl).2 this;lia)
  refine⟨s',gh rfl (QW (fF (iW L e) (fS (nE rfl (hW (x:=.lst (pv.map ke)) rfl (iE (By rfl rfl (P5 d (by lia) rfl) p1)) q1))))),q2,q3,?_,λi v hi=>?_⟩
  .have m1:pv.length*(Pq B pv.length+1+lP s+20)<=pv.length*(Pq B pv.length+Sb (Ns B pv.length) d (nk pv d).length (nk pv d).length+21):=eE _ (by lia);lia
  .have il:i<us.length:=by rw[<-J.len];exact (aa.mp hi).1
   have ew':ko d (Xs s') (vc (wr us i))=ko d (Xs s') (vc (us.getD i [])):=Fu λk hk=>by rw[Ad us d i il hl,aP (by lia)]
   rw[<-ew'];refine⟨λhv=>?_,λhv=>?_⟩
   .subst hv;refine Qs.evl0 (λx Q=>?_) (F.sp i (qh.mpr ⟨il,hi⟩));rcases Q with⟨p,w,rfl⟩|⟨r,hr,rfl⟩
    .exact q5 p w
    .rw[pj (F.rr r hr).2.1,hz r hr];simp
   .have H:(i,v)∈wK us.length n:=oH.mpr ⟨il,hi,hv⟩;have S:=E _ H;obtain⟨g,s2,y,hg,hs2,hy',ey⟩:=S.ex;have y0:ko d (Xs s') y=0:=Qs.evl0 (λx ⟨p,w,ex⟩=>by rw[ex];exact q5 p w) hy';have rp:0<ko d (Xs s') (vc (f (i,v))):=by rw[q6 _ λp w=>S.zer p w];exact p6 _ (by rw[<-D];exact aC.mpr ⟨_,H,rfl⟩)
    have l:=sh (d:=d) (X:=Xs s') (vc (wr us i)) y (vc (f (i,v))) g (s2*v) 1 (λj=>by rw[ey j];grind);rw[y0]at l;have a1:=dU (nK hg) rp;rw[l]at a1;have c1:((s2*v:Int):Rat)=(s2:Rat)*(v:Rat):=by simp
    rw[c1]at a1;have a2:=nK hs2;refine eP (c:=(s2:Rat)) ?_ (dY a2);grind
 .left;obtain⟨l4,t,ct,s,hs,e3⟩:=la4 r H;have Y:∀i∈ix,i∈zer us.length n:=F.sub;subst D;refine⟨_,gh rfl (QW (j5 (iW L e) rfl)),Ov J Y E l4 ct hs e3 (λk hk=>la3 r H k (zR k hk)) h0,λx Q=>?_⟩;exact ((hbl _ Gl la1 r H).2 x (eX Q)).mono ok1
def yr(g:ns.length=d)(a:∀x∈ns,Bn 84 x)(b:Bn 84 v)(hr:∃p,p<d/\vc ns p≠0):GC d 84 (ns++[v]):=by
 refine⟨⟨by simp[g],λx f=>?_⟩,?_⟩
 .rcases ai.mp f with q|q
  .exact a x q
  .rw[aj.mp q];exact b
 .obtain⟨p,e,h⟩:=hr;refine⟨p,e,?_⟩;unfold vc at *;rw[af,List.getElem?_append_left (by lia),<-af];exact h
def Le(k:ns.length=d)(h:ns≠List.replicate d 0):∃p,p<d/\vc ns p≠0:=by
 refine aN λj=>h (List.eq_replicate_iff.mpr ⟨k,λb g=>?_⟩);obtain⟨i,f⟩:=List.getElem?_of_mem g;have e:i<d:=by have:=(aa.mp f).1;lia
 refine aN λa=>j ⟨i,e,?_⟩;unfold vc;rw[af,f];exact a
def N7(b:LI)(f:∀x∈b,x.natAbs<=3):(((b.zip [1,2,(-1:Int)]).map λ(p:Int×Int)=>p.1*p.2).sum).natAbs<=1000:=by
 have e:∀b d:LI,(∀x∈b,x.natAbs<=3)->(((b.zip d).map λ(p:Int×Int)=>p.1*p.2).sum).natAbs<=3*(d.map Int.natAbs).sum:=λb=>by
  induction b with
  |nil=>intro _ _;exact bG _
  |cons a l ih=>
   intro d h;cases d with
   |nil=>exact bG _
   |cons k d=>rw[eT,bE,dZ,bE,dZ,Nat.mul_add];refine aM (cY _ _) (Nat.add_le_add ?_ (ih d λx g=>h x (bj _ g)));rw[aX];exact eU _ (h a bh)
 exact aM (e b _ f) (by decide)
def Bz cell d (fs:LL) (hd:1<=d/\d<=3) (hf:∀f∈fs,GC d 84 f) (hfl:fs.length<=10) :
  ∃u,mO c [.int cell,.int d,.lst (fs.map tI)]=.ok (tI u)/\GC d 84 u:=by
 have sz:1000<sizeLine:=by decide
 let n:LI:=(List.range d).map λ(j:Nat)=>dr c cell j 7-3;have l0:n.length=d:=by simp[n]
 have b0:∀x∈n,x.natAbs<=3:=λx E=>by obtain⟨j,hj,rfl⟩:=aC.mp E;have hj':=aR.mp hj;obtain⟨_,a1,a2⟩:=kg (c:=c) cell j 7 (by lia) (by lia) (by lia) (by lia);lia
 obtain⟨d6,d6a,d6b⟩:=kg (c:=c) cell 6 9 (by decide) (by decide) (by lia) (by lia);obtain⟨d7,d7a,d7b⟩:=kg (c:=c) cell 7 7 (by decide) (by decide) (by lia) (by lia);generalize dr c cell 6 9=c0 at d6 d6a d6b;generalize dr c cell 7 7=way at d7 d7a d7b;let St:LI->Option W->Option W->Option W->En:=λu r s F=>[some (.p (.int cell)),some (.p (.int d)),some (.p (.lst (fs.map tI))),some (.o (u.map T.int)),r,s,F];have e0:kP [none,some 0] (ng (fj (fv 1) fC)) (jV 0) (λ_=>.ok true) (vS c) (nH [some (.p (.int cell)),some (.p (.int d)),some (.p (.lst (fs.map tI))),none,none,none,none])=.ok (n.map T.int):=by refine kr (List.range d) (λ(j:Nat)=>T.int (j:Int)) (λ(j:Nat)=>T.int (dr c cell j 7-3)) (vM d (by lia) rfl) (by simp;lia) (λj hj=>⟨_,rfl,rfl,?_⟩) (by rw[aH];rfl);have hj':=aR.mp hj;obtain⟨e,_,_⟩:=kg (c:=c) cell j 7 (by lia) (by lia) (by lia) (by lia);exact fE (kW rfl rfl rfl e) rfl (mZ _ _)
 obtain⟨g,e1,l1,b1,r1⟩:∃g,(jT (gD (fL (fX false) (fv 3) (iB (wM (iB (lstM (fj (cM (.int 0)) fC))) (fv 1))))) (vv 3 (m9 (fM (fj (fv 0) (fj (cM (.int 4)) (fj (fv 1) fC))) (f7 c))) (m9 (fL iI (cM (.int 1)) (fM (fj (fv 0) (fj (cM (.int 5)) (fj (cM (.int 3)) fC))) (f7 c))))) gG) (St n none none none)=.nx (St g none none none)/\g.length=d/\(∀x∈g,x.natAbs<=3)/\∃p,p<d/\vc g p≠0:=by
  have ec:gD (fL (fX false) (fv 3) (iB (wM (iB (lstM (fj (cM (.int 0)) fC))) (fv 1)))) (vw (St n none none none))=.ok (decide (n=List.replicate d 0)):=fQ (fE (x:=.lst (n.map T.int)) (y:=.lst ((List.replicate d (0:Int)).map T.int)) rfl (Mh d (by lia) rfl) (by rw[Oo];rfl))
  by_cases hz:n=List.replicate d 0
  .obtain⟨d4,d4a,d4b⟩:=kg (c:=c) cell 4 d (by lia) (by lia) (by lia) (by lia);obtain⟨d5,d5a,d5b⟩:=kg (c:=c) cell 5 3 (by lia) (by lia) (by lia) (by lia);obtain⟨p,J⟩:∃p:Nat,dr c cell 4 d=(p:Int):=⟨(dr c cell 4 d).toNat,by lia⟩;rw[J]at d4 d4b;refine⟨n.set p (1+dr c cell 5 3),fW (by rw[ec,aB hz]) (zc (us:=n.map T.int) (t:=.int (1+dr c cell 5 3)) (j:=(p:Int)) (m:=p) rfl (fE rfl (kW rfl rfl rfl d5) (iR _ _)) rfl (kW rfl rfl rfl d4) (LC _ _ (by rw[aw];lia)) ?_),by rw[bQ];exact l0,λx E=>?_,p,by lia,?_⟩
   .simp only[St,dB];rfl
   .rcases eF E with q|q
    .exact b0 x q
    .rw[q];lia
   .rw[MX _ _ _ _ (by lia),aP rfl];lia
  .exact⟨n,fH (by rw[ec,aA hz]) rfl,l0,b0,Le l0 hz⟩
 have C:∀x:Int,x.natAbs<=1000->Bn 84 x:=λx E=>Bn.mono (m:=10) (by unfold Bn;lia) (by decide);have hfe:∀neg,fX neg (.lst (fs.map tI)) (.lst [])=.ok (.bl (if neg then !fs.isEmpty else fs.isEmpty)):=λneg=>by rw[uv neg (fs.map tI) (by simp) (aM (AZ fs) (by decide))];simp
 let r:Int->Option W:=λv=>some (.p (.int v));let s:Option W:=some (.p (.int way));have CJ:∀{o:O},(fO (jT (l8 (gD (fL (fX false) (fv 5) (cM (.int 1)))) (gD (fL (fX true) (fv 2) (iB (lstM fC))))) (nL 3 (oS (BE lW (fj (mF (fL gS (fv 2) (fM (fj (fv 0) (fj (cM (.int 8)) (fj (lp lQ (fj (fv 2) fC)) fC))) (f7 c))) (λ_=>.ok none) (jR (fv 1))) fC)))) gG) _) (St g (r (c0-4)) s none)=o->xK c (gM 7 [.int cell,.int d,.lst (fs.map tI)])=o:=λ{o} h=>fF (ρ':=St n none none none) (lD e0 rfl) (fF (ρ':=St g none none none) e1 (fF (ρ':=St g (r (c0-4)) none none) (fP (fE (kW rfl rfl rfl d6) rfl (mZ _ _)) rfl) (fF (ρ':=St g (r (c0-4)) s none) (fP (kW rfl rfl rfl d7) rfl) h)))
 have q1:gD (fL (fX false) (fv 5) (cM (.int 1))) (vw (St g (r (c0-4)) s none))=.ok (way==1):=fQ (fE (x:=.int way) rfl rfl (ib _ _));have q2:gD (fL (fX true) (fv 2) (iB (lstM fC))) (vw (St g (r (c0-4)) s none))=.ok (!fs.isEmpty):=fQ (fE (x:=.lst (fs.map tI)) (y:=.lst []) rfl (by simp) (by rw[hfe];rfl));have U:∀(u:LI) (v k:Int) F,gD (fL (fX false) (fv 5) (cM (.int k))) (vw (St u (r v) s F))=.ok (way==k):=λu v k F=>fQ (fE (x:=.int way) rfl rfl (ib _ _));have D:∀(u:LI) (v:Int) F,u.length=d->gN (lp jQ (fj (iB (vZ (fv 3) (iB (lstM (fj (fv 4) fC))))) fC)) (St u (r v) s F)=.rt (tI (u++[v])):=λu v F hl=>fS (oX (t:=.lst (u.map T.int++[.int v])) (iE (DI (a:=u.map T.int) (b:=[.int v]) rfl (JE rfl) (by simp;lia))) (by simp[tI]))
 have B:∀(u:LI) (v:Int) F,(L3.t9 (gD (fL (fX false) (fv 5) (cM (.int 2)))) (gD (fL (fX false) (fv 5) (cM (.int 3))))) (vw (St u (r v) s F))=.ok (way==2||way==3):=λu v F=>by simp only[L3.t9,U,M.bind_ok];cases way==2<;>rfl
 have L:¬(way=1/\fs≠[])->(L3.l8 (gD (fL (fX false) (fv 5) (cM (.int 1)))) (gD (fL (fX true) (fv 2) (iB (lstM fC))))) (vw (St g (r (c0-4)) s none))=.ok false:=λhc=>by
  simp only[L3.l8,q1,q2,M.bind_ok];by_cases I:way=1
  .have hn:fs=[]:=by
    by_cases hn:fs=[]
    .exact hn
    .exact absurd ⟨I,hn⟩ hc
   rw[I,hn];rfl
  .have:(way==1)=false:=by simpa using I
   rw[this];rfl
 by_cases hA:way=1/\fs≠[]
 .obtain⟨I,N⟩:=hA;have hlp:=List.length_pos_iff.mpr N;obtain⟨d3,d3a,d3b⟩:=kg (c:=c) cell 8 fs.length (by lia) (by lia) (by lia) (by lia);obtain⟨f,ef,hfm⟩:=B2 fs (dr c cell 8 fs.length) d3a d3b;have gf:=hf f hfm;have tl:(f.take d).length=d:=by rw[bL,gf.gl.1];lia
  have nd:∀k:Int,k≠1->(way==k)=false:=λk hk=>by simp[I];lia
  refine⟨f.take d++[c0-4],gh rfl (CJ (fF (ρ':=St (f.take d) (r (c0-4)) s none) (fW ?_ (lD (ts:=(f.take d).map T.int) ?_ rfl)) (fF (fH (by rw[B,nd 2 (by decide),nd 3 (by decide)];rfl) rfl) (fF (fH (by rw[U,nd 4 (by decide)]) rfl) (D _ _ _ tl))))),yr tl (λx E=>gf.gl.2 x (dD E)) (C _ (by lia)) ?_⟩
  .simp only[L3.l8,q1,q2,M.bind_ok];rw[I];simp[N]
  .have:=wC (fe:=fL gS (fv 2) (fM (fj (fv 0) (fj (cM (.int 8)) (fj (lp lQ (fj (fv 2) fC)) fC))) (f7 c))) (fd:=fv 1) (d:=d) (ts:=f.map T.int) (ρ:=nH (St g (r (c0-4)) s none)) (fE (x:=.lst (fs.map tI)) (y:=.int (dr c cell 8 fs.length)) rfl (kW (z:=.int (fs.length:Int)) rfl rfl (oX rfl (by simp)) d3) (by simp[uK,ef,tI])) rfl (by rw[aw,gf.gl.1];lia);simp only[BE,fj,fC,this,M.bind_ok];rw[cT];rfl
  .obtain⟨p,J,h⟩:=gf.re;refine⟨p,J,?_⟩;unfold vc at *;rw[af,List.getElem?_take,aP J,<-af];exact h
 .have Q:∀x∈g,Bn 84 x:=λx E=>C x (by have:=b1 x E;lia);by_cases H:way=2\/way=3
  .have t23:(way==2||way==3)=true:=by rcases H with h|h<;>rw[h]<;>rfl
   have n4:(way==4)=false:=by rcases H with h|h<;>rw[h]<;>rfl
   let v:Int:=((g.zip [1,2,-1]).map λp=>p.1*p.2).sum;have ez:kP [none,none] (nc (fj (fv 3) (fj (iB (lstM (fj (cM (.int 1)) (fj (cM (.int 2)) (fj (uL (λi=>.int (-i)) (cM (.int 1))) fC))))) fC))) (oV 2 (iM (jV 0) (iM (jV 1) oY))) (λ_=>.ok true) (uT c) (vw (St g (r (c0-4)) s none))=.ok (((g.zip [1,2,-1]).map λp=>p.1*p.2).map T.int):=kr (g.zip [1,2,-1]) (λp=>T.tup [.int p.1,.int p.2]) (λp=>T.int (p.1*p.2)) (pP (x:=.lst (g.map T.int)) (y:=.lst ([1,2,-1].map T.int)) rfl rfl (iE rfl) rfl) (by rw[dC];lia) (λp J=>⟨_,rfl,rfl,fE rfl rfl (kh (by have:=b1 _ (aV J).1;lia))⟩) (by rw[aH];rfl)
   have vb:=N7 g b1;exact⟨g++[v],gh rfl (CJ (fF (fH (L hA) rfl) (fF (ρ':=St g (r v) s none) (fW (by rw[B,t23]) (uA (oQ ez (Ol _)) rfl rfl)) (fF (fH (by rw[U,n4]) rfl) (D _ _ _ l1))))),yr l1 Q (C _ vb) r1⟩
  .have R:(way==2||way==3)=false:=by have h2:¬way=2:=λz=>H (.inl z);have h3:¬way=3:=λz=>H (.inr z);simp[h2,h3]
   by_cases h4:way=4
   .obtain⟨d9,d9a,d9b⟩:=kg (c:=c) cell 9 1000000 (by decide) (by decide) (by lia) (by lia);obtain⟨d11,X,S⟩:=kg (c:=c) cell 11 3 (by decide) (by decide) (by lia) (by lia);obtain⟨Y,P,Z⟩:=kg (c:=c) cell 10 7 (by decide) (by decide) (by lia) (by lia);obtain⟨w,ew,hw⟩:=JL [1,1,1000000000000000000] (dr c cell 11 3) X (by simpa using S);have e18:t7 (.int 10) (.int 18)=.ok (.int 1000000000000000000):=by simp[t7,kC]
    have e6:t7 (.int 10) (.int 6)=.ok (.int 1000000):=by simp[t7,kC]
    generalize dr c cell 9 1000000=f0 at d9 d9a d9b;generalize dr c cell 10 7=g0 at Y P Z;let l:Int:=(1+f0)*w;have hw':1<=w/\w<=1000000000000000000:=by simp only[aE,List.mem_nil_iff,or_false]at hw;lia
    have K:l.natAbs<=1000000*1000000000000000000:=by show ((1+f0)*w).natAbs<=_;rw[aX];exact eJ (by lia) (by lia)
    have hfar1:1<=l:=by have:0<(1+f0)*w:=aW (by lia) (by lia);show 1<=(1+f0)*w;lia
    have hl3:iB (lstM (fj (cM (.int 1)) (fj (cM (.int 1)) (fj (fL t7 (cM (.int 10)) (cM (.int 18))) fC)))) (nH (St g (r (c0-4)) s none))=.ok (.lst ([1,1,1000000000000000000].map T.int)):=by
     have o:fL t7 (cM (.int 10)) (cM (.int 18)) (nH (St g (r (c0-4)) s none))=.ok (.int 1000000000000000000):=fE rfl rfl e18;have h3:3<=sizeLine:=by decide
     simp only[iB,lstM,fj,fC,cM,o,M.bind_ok];rfl
    let A:LI:=g.map λx=>x*l;have es:kP [none,some 6] (ig (fv 3)) (jV 0) (λ_=>.ok true) (wo c) (vw (St g (r (c0-4)) s (some (.p (.int l)))))=.ok (A.map T.int):=kr g T.int (λx=>T.int (x*l)) rfl (by lia) (λx E=>⟨_,rfl,rfl,fE rfl rfl (kh (by have:=b1 x E;lia))⟩) (by rw[aH];rfl)
    refine⟨A++[(c0-4)*l+g0],gh rfl (CJ (fF (fH (L hA) rfl) (fF (fH (by rw[B,R]) rfl) (fF (ρ':=St A (r ((c0-4)*l+g0)) s (some (.p (.int l)))) (fW (by rw[U,h4];rfl) (fF (ρ':=St g (r (c0-4)) s (some (.p (.int l)))) (fP (fE (fE rfl (kW (z:=.int 1000000) rfl rfl (fE rfl rfl e6) d9) (iR _ _)) (fE (x:=.lst ([1,1,1000000000000000000].map T.int)) (y:=.int (dr c cell 11 3)) hl3 (kW rfl rfl rfl d11) ew) (kh (by lia))) rfl) (fF (ρ':=St A (r (c0-4)) s (some (.p (.int l)))) (JX es (F7 _) rfl) (fP (fE (fE rfl rfl (kh (by lia))) (kW rfl rfl rfl Y) (iR _ _)) rfl)))) (D _ _ _ (by simp[A,l1])))))),yr (by simp[A,l1]) (λx E=>?_) ?_ ?_⟩
    .obtain⟨y,hy,rfl⟩:=aC.mp E;have:=b1 y hy;unfold Bn;rw[aX];refine b5 (eJ this K) (by decide)
    .unfold Bn;have I:((c0-4)*l).natAbs<=5*(1000000*1000000000000000000):=by rw[aX];exact eJ (by lia) K
     have h2:=cY ((c0-4)*l) g0;refine b5 (aM h2 (Nat.add_le_add I (show g0.natAbs<=7 by lia))) (by decide)
    .obtain⟨p,J,h⟩:=r1;refine⟨p,J,?_⟩;have:vc A p=vc g p*l:=by unfold vc;rw[af,af,av];cases g[p]?<;>simp
     rw[this];exact dS h (by lia)
   .exact⟨g++[c0-4],gh rfl (CJ (fF (fH (L hA) rfl) (fF (fH (by rw[B,R]) rfl) (fF (fH (by rw[U];simp[h4]) rfl) (D _ _ _ l1))))),yr l1 Q (C _ (by lia)) r1⟩
def BP(h:a.length=b.length):lC a b=lC b a:=by
 unfold lC;rw[h];congr 1;funext k;congr 1;funext j;rw[cN (vc a k),cN (vc a j)];by_cases q:vc b j*vc a k=vc b k*vc a j
 .rw[beq_iff_eq.mpr q,beq_iff_eq.mpr q.symm]
 .rw[beq_eq_false_iff_ne.mpr q,beq_eq_false_iff_ne.mpr λz=>q z.symm]
def zX ns (k0 d h:Nat) (L:1<=d/\d<=3) (S:h<=7):∃cs:LL,m7 c [.scr ns,.int k0,.int d,.int h]=.ok (cs.map tI)/\Jp d 84 cs/\cs.length<=h:=by
 have sz:1000<sizeLine:=by decide
 obtain⟨A,e,cs,E,w,rfl,u,r,z⟩:=iH (m:=jD 5) (g:=tQ c) (λ(i:Nat)=>T.int (i:Int))
  (λk A=>∃(cs:LL) (E w:Option W),A=[some (.p (.scr ns)),some (.p (.int k0)),some (.p (.int d)),some (.p (.int h)),some (.o (cs.map tI)),E,w]/\cs.length<=k/\(∀f∈cs,GC d 84 f)/\cs.Pairwise λa b=>lC a b=false)
  (List.range h) 0 _ ⟨[],none,none,rfl,aJ _,(λf n=>nomatch n),List.Pairwise.nil⟩ (by
   rintro i k A D ⟨cs,E,w,rfl,u,r,z⟩;rw[aF]at u ⊢;have B:i<h:=by simpa using (aa.mp D).1
   have F:k=i:=by rw[List.getElem?_range B]at D;cases D;rfl
   subst F;obtain⟨v,N,-⟩:=qS ns (k0+k);obtain⟨j,en,s⟩:=Bz v d cs L r (by lia);let R:En:=[some (.p (.scr ns)),some (.p (.int k0)),some (.p (.int d)),some (.p (.int h)),some (.o (cs.map tI)),some (.p (.int (k:Int))),some (.p (tI j))];have Q:kP [none,some 6] (ig (fv 4)) (jV 0) (gD (fM (fj (fv 1) (fj (fv 0) fC)) (kS c))) (pA c) (vw R)=.ok ((cs.filter λf=>lC j f).map tI):=nv cs tI tI (λf=>lC j f) rfl (by lia) (λf n=>⟨_,rfl,fQ (hW rfl rfl (Ax (d+1) 84 j f s.gl.1 (r f n).gl.1 (by lia) (by lia) s.gl.2 (r f n).gl.2)),λ_=>rfl⟩) rfl
   have I:gD (fL (fX false) (iB (kP [none,some 6] (ig (fv 4)) (jV 0) (gD (fM (fj (fv 1) (fj (fv 0) fC)) (kS c))) (pA c))) (iB (lstM fC))) (vw R)=.ok (cs.filter λf=>lC j f).isEmpty:=by refine fQ (fE (y:=.lst []) (iE Q) (by simp) ?_);rw[uv false _ (by simp) (aM (AZ _) (by decide))];simp
   have J:setO 6 (m9 (fM (fj (fM (fj (fv 0) (fj (fL iI (fv 1) (fv 5)) fC)) (gZ c)) (fj (fv 2) (fj (fv 4) fC))) (mO c))) [some (.p (.scr ns)),some (.p (.int k0)),some (.p (.int d)),some (.p (.int h)),some (.o (cs.map tI)),some (.p (.int (k:Int))),w]=.nx R:=uA (t:=tI j) (kW (hW (x:=.scr ns) (y:=.int ((k0+k:Nat):Int)) rfl (fE rfl rfl (by rw[iR];simp)) N) rfl rfl en) (HH j) rfl
   by_cases H:(cs.filter λf=>lC j f)=[]
   .refine⟨_,_,rfl,.inl (fF J (fW (I.trans (by rw[H];rfl)) (tz (us:=cs.map tI) (t:=tI j) rfl rfl (by simp;lia) rfl))),cs++[j],_,_,by rw[aY];rfl,by simp;lia,λf n=>?_,dE.mpr ⟨z,eI _ _,λf n g C=>?_⟩⟩
    .rcases ai.mp n with q|q
     .exact r f q
     .rw[aj.mp q];exact s
    .rw[aj.mp C,BP (by rw[(r f n).gl.1,s.gl.1])];cases P:lC j f with
     |false=>rfl
     |true=>have:=aT.mpr ⟨n,P⟩;rw[H]at this;exact nomatch this
   .refine⟨_,_,rfl,.inl (fF J (fH (I.trans (by
     cases K:(cs.filter λf=>lC j f) with
     |nil=>exact absurd K H
     |cons a l=>rfl)) rfl)),cs,_,_,rfl,by lia,r,z⟩)
 rw[aF,eW]at u;exact⟨cs,nJ rfl (fF (lD (ts:=[]) (by simp) rfl) (fF (oM (vM h (by lia) rfl) e) rfl)),⟨r,by lia,z⟩,u⟩
def Rl d (o:d<=3):Bg d 84 9000 3900:=by
 have f:∀d,d<4->∀k,k<4->k<=d->84+k*(Pq 84 k+1)<=8000:=by decide
 have j:∀d,d<4->Pq 84 d<=8000:=by decide
 have g:∀d,d<4->∀k,k<4->∀m,m<4->k+m<=d->Nb (Ns 84 k) m<=8000:=by decide
 have e:∀d,d<4->∀k,k<4->∀m,m<4->k+m<=d->∀i,i<m->Nb (Ns 84 k) (m-1-i)+Sb (Ns 84 k) d m i+21<=3900:=by decide
 have b:∀d,d<4->∀k,k<4->∀m,m<4->k+m<=d->1<=k->Pq 84 k+Sb (Ns 84 k) d m m+2<=3900:=by decide
 have l:∀d,d<4->∀k,k<4->∀m,m<4->k+m<=d->Sb (Ns 84 k) d m m+k*(Pq 84 k+Sb (Ns 84 k) d m m+21)<=9000:=by decide
 refine⟨⟨by decide,λk a=>f d (by lia) k (by lia) a,j d (by lia)⟩,by decide,λk m h=>⟨e d (by lia) k (by lia) m (by lia) h,λa=>b d (by lia) k (by lia) m (by lia) h (by lia)⟩,λk m h=>⟨g d (by lia) k (by lia) m (by lia) h,λi n=>?_,λa=>?_,l d (by lia) k (by lia) m (by lia) h⟩⟩
 .have:=e d (by lia) k (by lia) m (by lia) h i n;lia
 .have:=b d (by lia) k (by lia) m (by lia) h (by lia);lia
def yK d us (b:f ρ=.ok (hU c d us)):mC c.Cutting "many" f fC (iJ c) ρ=.ok (.int us.length):=by
 have e:oU c.Cutting "many" (hU c d us)=.ok ():=by unfold oU hU;exact aP ⟨rfl,rfl⟩
 have a:iJ c [hU c d us]=.ok (.int us.length):=gh rfl (fS (oX (v9 rfl rfl) (by simp)));simp only[mC,b,M.bind_ok,e,fC,a,M.noEr_ok]
def QF(n:Nat)(d:n<=1000)(h:f ρ=.ok (.int (n:Int))):rW (iL (fj (cM (.int 1)) fC)) f ρ=.ok (tI (List.replicate n 1)):=by
 have sz:1000<sizeLine:=by decide
 have hr:zu n=true:=jI (by lia);have b:1<=sizeLine:=by decide
 have a:n<=sizeLine:=by lia
 have e:(List.replicate n [T.int 1]).flatten=(List.replicate n 1).map T.int:=by rw[Jh,List.map_replicate]
 simp[h,xA,hr,b,a,e,tI]
def lN(h:f ρ=.ok x)(a:g ρ=.ok xs):fj f g ρ=.ok (x::xs):=by simp only[fj,h,a,M.bind_ok]
def Bi(h:g ρ=.ok xs)(a:xs.length<=sizeLine):lstM g ρ=.ok xs:=by simp only[lstM,h,M.bind_ok,AH,a,if_true]
def Mn(d:a ρ=.rf ts)(hr:.rf ts=r):fO a b ρ=r:=by unfold fO;rw[d];exact hr
def Tb a b (e:(PyData.str a).canLay0=true) (d:(PyData.str b).canLay0=true):fX false (.str a) (.str b)=.ok (.bl (a==b)):=by simp[fX,qL,oE,e,d]
def Hn:(PyData.str "spot").canLay0=true:=by rw[PyData.canLay0];decide +kernel
def Mp:fX false (.str "spot") (.str "spot")=.ok (.bl true):=by rw[Tb _ _ Hn Hn];congr 2
theorem xN:∀n g t,(∀i,i<n->0<=(t i:Rat)*ko d X (g i))->0<=ko d X (Lt n g t)/\((∃i,i<n/\0<(t i:Rat)*ko d X (g i))->0<ko d X (Lt n g t))
 |0,g,t,_=>by
  have e:ko d X (Lt 0 g t)=0:=by have z:Lt 0 g t=λ_=>0:=rfl;rw[z,pj λ_ _=>rfl];simp
  rw[e];exact⟨Rat.le_refl,λ⟨i,a,_⟩=>absurd a (cU i)⟩
 |n+1,g,t,h=>by
  obtain⟨k,b⟩:=xN n (λj=>g (j+1)) (λj=>t (j+1)) λi a=>h (i+1) (by lia);have l:=sh (d:=d) (X:=X) (g 0) (Lt n (λj=>g (j+1)) (λj=>t (j+1))) (Lt (n+1) g t) 1 (t 0) 1 (λi=>by show 1*(t 0*g 0 i+sm n λj=>t (j+1)*g (j+1) i)=t 0*g 0 i+1*(sm n λj=>t (j+1)*g (j+1) i);lia)
  have f:((1:Int):Rat)=1:=rfl;rw[f]at l;refine⟨by grind,λ⟨i,a,hp⟩=>?_⟩;cases i with
  |zero=>grind
  |succ i=>have:=b ⟨i,by lia,hp⟩;grind
def OZ(us:LL)(d:Nat)(a:LI)(X:Nat->Rat):Prop:=∀(i:Nat) (v:Int),a[i]? = some v->(v=0->ko d X (vc (us.getD i []))=0)/\(v≠0->0<(v:Rat)*ko d X (vc (us.getD i [])))
def JH{us:LL}{d:Nat}{l f:LI}{X:Nat->Rat}(B:Ju us.length l)(h:OZ us d l X)(p:Q7 us d l f):False:=by
 have g:∀i,i<us.length->∀v,l[i]? = some v->0<=(vc f i)*ko d X (vc (us.getD i []))/\(v*vc f i≠0->0<(vc f i:Rat)*ko d X (vc (us.getD i []))):=λi A v j=>by
  obtain⟨a,b⟩:=h i v j;have m:=p.may i v j;have o:=B.one v (au j);generalize ko d X (vc (us.getD i []))=e at a b;generalize vc f i=w at m ⊢;have:v=0\/v=1\/v = -1:=by lia
  rcases this with rfl|rfl|rfl
  .rw[a rfl];simp
  .have x:=b (by decide);have s:((1:Int):Rat)=1:=rfl;rw[s]at x;have n:(0:Rat)<e:=by grind
   have r:0<=w:=by lia
   have u:(0:Rat)<=(w:Rat):=by exact_mod_cast r
   refine⟨Rat.mul_nonneg u (dY n),λz=>dU (nK (by lia)) n⟩
  .have x:=b (by decide);have s:((-1:Int):Rat) = -1:=rfl;rw[s]at x;have n:(0:Rat) < -e:=by grind
   have r:0<=-w:=by lia
   have u:(0:Rat)<=((-w:Int):Rat):=by exact_mod_cast r
   have H:=Rat.mul_nonneg u (dY n);have C:((-w:Int):Rat) = -(w:Rat):=by simp
   rw[C]at H;refine⟨by grind,λz=>?_⟩;have E:=dU (nK (show 0 < -w by lia)) n;rw[C]at E;grind
 have all:∀i,i<us.length->0<=(vc f i:Rat)*ko d X (vc (us.getD i [])):=λi A=>by
  have:i<l.length:=by rw[B.len];exact A
  exact (g i A _ (ag this)).1
 obtain⟨J,I⟩:=xN us.length (λi=>vc (us.getD i [])) (vc f) all;have z:ko d X (Lt us.length (λi=>vc (us.getD i [])) (vc f)) = -((Lt us.length (λi=>vc (us.getD i [])) (vc f) d:Int):Rat):=pj λk F=>p.zer k F;rcases p.fin with q|⟨q,i,v,j,y⟩
 .have:=nK (show 0<Lt us.length (λi=>vc (us.getD i [])) (vc f) d from q);grind
 .have D:i<us.length:=by rw[<-B.len];exact (aa.mp j).1
  have:=I ⟨i,D,(g i D v j).2 y⟩;rw[z]at this;have e:Lt us.length (λi=>vc (us.getD i [])) (vc f) d=0:=q;rw[e]at this;simp at this
theorem xV x0 x1 N (K:N<=1000):∀(f:List (Int×(Int×Int))) (gy a:Int) (A B:Nat) (v:Rat) (g k:Option W),(∀p∈f,Bn N p.1/\Fq p.2)->f.length<=10->A+B+2*f.length+2*lP (f.map Prod.snd)<=500000->N+B<=A->Bn A gy->Bn B a->0<a->(gy:Rat)=(a:Rat)*v->
  ∃d b l m,iO (lb 2 (gO (jD 4) (gO (jD 5) kX))) (jG c) (f.map EW) [x0,x1,some (.p (.int gy)),some (.p (.int a)),g,k]=.nx [x0,x1,some (.p (.int d)),some (.p (.int b)),l,m]/\0<b/\(d:Rat)=(b:Rat)*(v+(f.map λp=>(p.1:Rat)*qv p.2).sum)
 |[],gy,a,A,B,v,g,k,_,_,_,_,_,_,hb,e=>⟨gy,a,g,k,rfl,hb,by rw[e];simp;grind⟩
 | (n,p)::f,gy,a,A,B,v,g,k,hp,hl,hA,hAB,b1,b2,hb,e=>by
  obtain⟨j,i⟩:=hp (n,p) (by simp);simp only at j i;have hw:lP (((n,p)::f).map Prod.snd)=wt p+lP (f.map Prod.snd):=by simp[lP]
  rw[hw]at hA;rw[ay]at hA hl;have r:Bn (wt p) p.1:=(Af _).mono (cV _ _);have h:Bn (wt p) p.2:=(Af _).mono (cW _ _);have J:=ik (b1.ok h (by lia) (by lia));have I:=ik (j.ok r (by lia) (by lia));have F:=ik ((j.mul r).ok b2 (by lia) (by lia));have L:=ik (b2.ok h (by lia) (by lia));have bt:Bn (A+wt p+1) (gy*p.2+n*p.1*a):=((b1.mul h).add ((j.mul r).mul b2)).mono (by lia);have D:Bn (B+wt p) (a*p.2):=b2.mul h;have w:=i.pos;have P:(p.2:Rat)≠0:=by
   intro z;have:p.2=0:=by exact_mod_cast z
   lia
  have x:((gy*p.2+n*p.1*a:Int):Rat)=((a*p.2:Int):Rat)*(v+(n:Rat)*qv p):=by
   have u:((gy*p.2+n*p.1*a:Int):Rat)=(gy:Rat)*(p.2:Rat)+(n:Rat)*(p.1:Rat)*(a:Rat):=by simp
   have C:((a*p.2:Int):Rat)=(a:Rat)*(p.2:Rat):=by simp
   rw[u,C,e];unfold qv;grind
  obtain⟨d,b,l,m,E,s,y⟩:=xV x0 x1 N K f (gy*p.2+n*p.1*a) (a*p.2) (A+wt p+1) (B+wt p) (v+(n:Rat)*qv p) (some (.p (.int n))) (some (.p (fr p))) (λq i=>hp q (by simp[i])) (by lia) (by lia) (by lia) bt D (aW hb w) x;refine⟨d,b,l,m,?_,s,?_⟩
  .rw[bE,iO];have H:jG c [x0,x1,some (.p (.int gy)),some (.p (.int a)),some (.p (.int n)),some (.p (fr p))]=.nx [x0,x1,some (.p (.int (gy*p.2+n*p.1*a))),some (.p (.int (a*p.2))),some (.p (.int n)),some (.p (fr p))]:=
    fF (fP (fE (fE rfl (fE rfl rfl (lM p)) J) (fE (fE rfl (fE rfl rfl (my p)) I) rfl F) (iR _ _)) rfl) (fP (fE rfl (fE rfl rfl (lM p)) L) rfl)
   show (match jG c [x0,x1,some (.p (.int gy)),some (.p (.int a)),some (.p (.int n)),some (.p (fr p))] with|.nx ρ2=>iO (lb 2 (gO (jD 4) (gO (jD 5) kX))) (jG c) (f.map EW) ρ2|.ct ρ2=>iO (lb 2 (gO (jD 4) (gO (jD 5) kX))) (jG c) (f.map EW) ρ2|.bk ρ2=>.nx ρ2|o=>o)=_;rw[H];exact E
  .rw[y,bE,dZ];grind
def Iv(x:Rat):Int:=if 0<x then 1 else if x<0 then -1 else 0
def OJ{gy a:Int}(g:0<a)(e:(gy:Rat)=(a:Rat)*v):qN gy=Iv v:=by
 have d:=nK g;unfold qN Iv;rcases eO gy 0 with h|h|h
 .have f:(gy:Rat)<0:=by exact_mod_cast h
  have b:v<0:=by refine eP ?_ (dY d);grind
  rw[aQ (by lia),aP h,aQ (by grind),aP b]
 .have f:(gy:Rat)=0:=by rw[h];rfl
  have b:v=0:=by grind
  rw[aQ (by lia),aQ (by lia),aQ (by grind),aQ (by grind)]
 .have f:=nK h;have b:0<v:=by refine eP ?_ (dY d);grind
  rw[aP h,aP b]
def FD(A:B<=900) d u (i:GL d B u) (C:d<=3) s (x:s.length=d) (q:∀p∈s,Fq p) (hw:lP s<=200000):gS (tI u) (.int (-1))=.ok (.int (vc u d))/\∃gy a b g,iO (lb 2 (gO (jD 4) (gO (jD 5) kX))) (jG c) ((u.zip s).map EW) [some (.p (tI u)),some (.p (tS s)),some (.p (.int (-(vc u d)))),some (.p (.int 1)),none,none]=.nx [some (.p (tI u)),some (.p (tS s)),some (.p (.int gy)),some (.p (.int a)),b,g]/\qN gy=Iv (ko d (Xs s) (vc u)):=by
 have j:=i.1;have n:gS (tI u) (.int (-1))=.ok (.int (vc u d)):=by
  have h:u≠[]:=λz=>by rw[z]at j;simp at j
  have:qC (u.map T.int) (-1)=some (.int (vc u d)):=by
   rw[OM _ (by simpa using h),List.getLast?_map,List.getLast?_eq_getElem?];have e:u.length-1=d:=by lia
   rw[e,ag (by lia)];unfold vc;rw[af,ag (by lia)];rfl
  simp[tI,this]
 have o:Bn B (vc u d):=by refine i.2 _ ?_;unfold vc;rw[af,ag (by lia)];exact aU _
 have y:(u.zip s).map Prod.snd=s:=by rw[List.map_snd_zip];lia
 obtain⟨gy,a,b,g,e,w,k⟩:=xV (some (.p (tI u))) (some (.p (tS s))) B (by lia) (u.zip s) (-(vc u d)) 1 (B+1) 1 (-(vc u d)) none none (λp l=>⟨i.2 _ (aV l).1,q _ (aV l).2⟩) (by rw[dC];lia) (by rw[y,dC];lia) (by lia) (o.neg.mono (by lia)) HU (by decide) (by
  have m:((-(vc u d):Int):Rat) = -(vc u d):=by simp
  have v:((1:Int):Rat)=1:=rfl;rw[m,v];grind)
 have f:-(vc u d)+((u.zip s).map λp=>p.1*qv p.2).sum=ko d (Xs s) (vc u):=by have:=uW d s u x (by lia);unfold Fv at this;rw[this];unfold ko;grind
 rw[f]at k;have r:=OJ w k;exact⟨n,gy,a,b,g,e,r⟩
def MW:fX true (.str "spot") (.str "spot")=.ok (.bl false):=by
 have:=Mp;unfold fX at this ⊢;split at this
 .rename_i h;rw[aP h];simp at this;simp[this]
 .cases this
end CL
namespace CL
open PySem L2 L3
variable {c:Cs}
def PM d (a:d<=3):PU d 92:=⟨by decide,λk b=>by
 have:k=0\/k=1\/k=2\/k=3:=by omega
 rcases this with rfl|rfl|rfl|rfl<;>decide,aM (Ag a) (by decide)⟩
def Lf x:(Iv x).natAbs<=1:=by unfold Iv;split<;>(try split)<;>simp
theorem G4{d e:Type}:∀(u:List d) (s:List e),u.length=s.length+1->u.dropLast.zip s=u.zip s
 |[],_,h=>by simp at h
 |[a],[],_=>rfl
 |a::b::u,[],h=>by simp at h
 |a::b::u,x::s,h=>by rw[List.dropLast_cons_of_ne_nil (by simp),eT,eT,G4 (b::u) s (by simpa using h)]
 |[a],x::s,h=>by simp at h
structure Sq(d:Nat)(s:List (Int×Int)):Prop where
 len:s.length=d
 fq:∀p∈s,Fq p
 w:lP s<=200000
def EH(f:d<=3)(b:GL d 84 u)(h:Sq d s):nY c [tI u,tS s]=.ok (.int (Iv (ko d (Xs s) (vc u)))):=by
 obtain⟨i,gy,k,l,m,e,j⟩:=FD (c:=c) (by decide) d u b f s h.len h.fq h.w;have a:u.map T.int≠[]:=λz=>by have:=congrArg List.length z;rw[aw,b.1]at this;simp at this
 rw[<-G4 u s (by rw[b.1,h.len])]at e;rw[<-j];refine gh rfl (fF (fP (tF (fE rfl rfl i)) rfl) (fF (fP rfl rfl) (fF (iW (pP (g:=fr) (x:=.tup (u.dropLast.map T.int)) ?_ rfl rfl rfl) e) (fS (qF rfl (qK gy))))));rw[List.map_dropLast];exact Jj (ts:=u.map T.int) rfl a
def BR(f:d<=3)(h:Sq d s):n8 c [.int d,tS s]=.ok (.bl true):=by
 have sz:1000<sizeLine:=by decide
 have e:=h.len;have b:kP [none] (ig (fv 1)) (jV 0) (λ_=>.ok true) (vV c) (vw (gM 2 [.int d,tS s]))=.ok ((s.map λ_=>true).map T.bl):=kr s fr (λ_=>T.bl true) rfl (by lia) (λp a=>⟨_,rfl,rfl,qF rfl (Hm p (h.fq p a).pos (h.fq p a).one)⟩) (by simp)
 exact gh rfl (fF (fH (by simp[tS,e]) rfl) (fS (oQ b (by rw[oB];simp))))
noncomputable abbrev LW(d:Nat)(cs:LL)(s:List (Int×Int)):LI:=cs.map λu=>Iv (ko d (Xs s) (vc u))
def xQ{cs:LL}(b:1<=d/\d<=3)(a:Jp d 84 cs)(h:Sq d s)(i:f ρ=.ok (hU c d cs))(l:g ρ=.ok (tS s)):mC c.Cutting "sides" f (fj g fC) (iC c) ρ=.ok (tI (LW d cs s)):=by
 have sz:1000<sizeLine:=by decide
 have m:=a.few;have k:oU c.Cutting "sides" (hU c d cs)=.ok ():=by unfold oU hU;exact aP ⟨rfl,rfl⟩
 have j:iC c [hU c d cs,tS s]=.ok (tI (LW d cs s)):=by refine gh rfl (fF (fH (qO (fQ (hW (v9 rfl rfl) rfl (BR b.2 h))) rfl) rfl) (fS (oQ ?_ rfl)));refine kr cs tI (λu=>T.int (Iv (ko d (Xs s) (vc u)))) (A5 (v9 rfl rfl)) (by lia) (λu e=>⟨_,rfl,rfl,hW rfl rfl (EH b.2 (a.gc u e).gl h)⟩) ?_;unfold LW;rw[aH];rfl
 simp only[mC,i,l,M.bind_ok,k,fC,fj,j,M.noEr_ok]
def FM(m:Str)(h:(m==("own_cuts" : Str))=false/\(m==("own_dims" : Str))=false)(d:Nat)(cs:LL):oU c.Cutting m (hU c d cs)=.ok ():=by unfold oU hU;refine aP ⟨rfl,?_⟩;simp[List.lookup,h.1,h.2]
section
variable {d:Nat}{cs:LL}{th:T}
def NT(e:g ρ=.er C none)(a:h C=.set j y)(b:g' ((List.replicate n none).set j (some (.p (.str y))))=.rt t):Ar n g h g' ρ=.rt t:=by unfold Ar;rw[e];dsimp only;rw[a];dsimp only;rw[b]
def Na(e:g ρ=.nx ρ')(hr:g' ρ'=r):Ar n g h g' ρ=r:=by unfold Ar;rw[e];exact hr
def gP(h:f (nH ρ)=.er C none):i6 (g9 f) ρ=.er C none:=by unfold i6 g9;rw[h];rfl
end
def Nl:(PyData.str "told").canLay0=true:=by rw[PyData.canLay0];decide +kernel
def R7 a (b:(PyData.str a).canLay0=true):fX true (.str a) (.str a)=.ok (.bl false):=by simp[fX,qL,oE,b]
def KA{cs:LL}(b:1<=d/\d<=3)(a:Jp d 84 cs)(h:Sq d s):iC c [hU c d cs,tS s]=.ok (tI (LW d cs s)):=by
 have e:=xQ (c:=c) b a h (f:=λ_=>.ok (hU c d cs)) (g:=λ_=>.ok (tS s)) (ρ:=[]) rfl rfl;have i:oU c.Cutting "sides" (hU c d cs)=.ok ():=FM _ (by decide) d cs;simp only[mC,fj,fC,M.bind_ok,i]at e;cases q:iC c [hU c d cs,tS s] with
 |ok t=>rw[q]at e;exact e
 |bad=>rw[q]at e;cases e
 |er C n=>rw[q]at e;cases e
structure PP(d B:Nat)(rows:LL)(pv:List (Nat×LI))(rs:LL):Prop where
 pl:∀p∈pv,p.1<d/\p.2.length=d+1/\vc p.2 p.1≠0/\(∀x∈p.2,Bn (Pq B pv.length) x)/\Qs (VP rows) (vc p.2)
 pw:pv.Pairwise λp q=>p.1≠q.1/\vc q.2 p.1=0/\vc p.2 q.1=0
 rr:∀r∈rs,r.length=d+1/\(∀k,k<d->vc r k=0)/\Qs (VP rows) (vc r)
 sp:∀r∈rows,Qs (λx=>(∃p∈pv,x=vc p.2)\/∃r∈rs,x=vc r) (vc r)
section
variable {d B:Nat}{rows rs:LL}{pv:List (Nat×LI)}{row left:LI}{g s:Int}{y:Vc}
def PP.short(h:PP d B rows pv rs):pv.length<=d:=by
 have:=pL d (pv.map Prod.fst) (eG.mpr (h.pw.imp λq=>q.1)) λx b=>by obtain⟨p,a,rfl⟩:=aC.mp b;exact (h.pl p a).1
 simpa using this
def si{x:Vc}(q:Qs (VP rows) x):Qs (VP (rows++[row])) x:=q.mono λz ⟨w,hw,e⟩=>⟨w,ax _ hw,e⟩
def yX(h:PP d B rows pv rs)(b:0<g)(a:Qs (J5 pv) y)(e:∀i,g*vc left i=s*vc row i+1*y i):Qs (VP (rows++[row])) (vc left):=.lin (.of ⟨row,bC _ (aj.mpr rfl),rfl⟩) (a.sub λx ⟨p,hp,ex⟩=>by rw[ex];exact si (h.pl p hp).2.2.2.2) (by lia) e
def JV(h:PP d B rows pv rs)(o:0<g)(w:0<s)(j:Qs (J5 pv) y)(e:∀i,g*vc left i=s*vc row i+1*y i)(n:left.length=d+1)(u:∀k,k<d->vc left k=0):PP d B (rows++[row]) pv (rs++[left]):=by
 have up:∀{x:Vc},Qs (λx=>(∃p∈pv,x=vc p.2)\/∃r∈rs,x=vc r) x->Qs (λx=>(∃p∈pv,x=vc p.2)\/∃r∈rs++[left],x=vc r) x:=λq=>q.mono λz v=>v.imp id λ⟨r,hr,ez⟩=>⟨r,ax _ hr,ez⟩;refine⟨λp f=>?_,h.pw,λr hr=>?_,λr hr=>?_⟩
 .obtain⟨a,b,m,l,q⟩:=h.pl p f;exact⟨a,b,m,l,si q⟩
 .rcases ai.mp hr with q|q
  .obtain⟨a,b,q⟩:=h.rr r q;exact⟨a,b,si q⟩
  .rw[aj.mp q];exact⟨n,u,yX h o j e⟩
 .rcases ai.mp hr with q|q
  .exact up (h.sp r q)
  .rw[aj.mp q];exact .lin (a:=g) (b:=-1) (.of (.inr ⟨left,bC _ (aj.mpr rfl),rfl⟩)) (j.mono λx ⟨p,f,ex⟩=>.inl ⟨p,f,ex⟩) (show s≠0 by lia) λi=>by rw[e i];lia
def Je(h:PP d B rows pv rs)(L:0<g)(hs:0<s)(E:Qs (J5 pv) y)(e:∀i,g*vc left i=s*vc row i+1*y i)(Q:left.length=d+1)(C:∀p∈pv,vc left p.1=0)(R:∀x∈left,Bn (B+pv.length*(Pq B pv.length+1)) x){j:Nat}(Y:j<d)(N:vc left j≠0)
  (f:Nat×LI->LI) (D:∀p∈pv,(f p).length=p.2.length/\(∀x∈f p,Bn (Pq B (pv.length+1)) x)/\vc (f p) j=0/\∃g s b:Int,0<g/\0<s/\∀i,g*vc (f p) i=s*vc p.2 i+b*vc left i):PP d B (rows++[row]) (pv.map (λp=>(p.1,f p))++[(j,left)]) rs:=by
 have S:(pv.map (λp=>(p.1,f p))++[(j,left)]).length=pv.length+1:=by simp
 have at_:∀p∈pv,∀q∈pv,vc p.2 q.1=0->vc (f p) q.1=0:=λp k q o z=>by obtain⟨_,_,_,A,K,I,H,F,u⟩:=D p k;have:=u q.1;rw[z,C q o,dk,dk,dz]at this;exact qM (Int.ne_of_gt H) this
 have n:Qs (λx=>(∃p∈pv.map (λp=>(p.1,f p))++[(j,left)],x=vc p.2)\/∃r∈rs,x=vc r) (vc left):=.of (.inl ⟨(j,left),bC _ (aj.mpr rfl),rfl⟩);have m:∀p∈pv,Qs (λx=>(∃p∈pv.map (λp=>(p.1,f p))++[(j,left)],x=vc p.2)\/∃r∈rs,x=vc r) (vc p.2):=λp k=>by obtain⟨_,_,_,A,K,I,H,F,u⟩:=D p k;exact .lin (a:=A) (b:=-I) (.of (.inl ⟨(p.1,f p),ax _ (aC.mpr ⟨p,k,rfl⟩),rfl⟩)) n (show K≠0 by lia) λi=>by rw[u i];lia
 refine⟨λp k=>?_,?_,λr hr=>?_,λr hr=>?_⟩
 .rw[S];rcases ai.mp k with q|q
  .obtain⟨p,l,rfl⟩:=aC.mp q;obtain⟨a,b,P,Z,q⟩:=h.pl p l;obtain⟨U,X,_,A,K,I,H,F,u⟩:=D p l;refine⟨a,U.trans b,λz=>?_,X,.lin (si q) (yX h L E e) (show A≠0 by lia) u⟩;have:=u p.1;rw[show vc (f p) p.1=0 from z,C p l,dk,dk,dz]at this;exact P (qM (Int.ne_of_gt F) this.symm)
  .rw[aj.mp q];exact⟨Y,Q,N,λx J=>(R x J).mono (by show _<=Pq B pv.length+(B+pv.length*(Pq B pv.length+1))+1;lia),yX h L E e⟩
 .refine dE.mpr ⟨eG.mpr (h.pw.imp_of_mem λ{p q} k o w=>⟨w.1,at_ q o p k w.2.1,at_ p k q o w.2.2⟩),eI _ _,λp k q o=>?_⟩;rw[aj.mp o];obtain⟨p,l,rfl⟩:=aC.mp k;exact⟨λz=>N ((show p.1=j from z)▸C p l),C p l,(D p l).2.2.1⟩
 .obtain⟨a,b,q⟩:=h.rr r hr;exact⟨a,b,si q⟩
 .rcases ai.mp hr with q|q
  .exact (h.sp r q).sub λx J=>by
    rcases J with⟨p,k,v⟩|⟨r,hr,v⟩
    .rw[v];exact m p k
    .exact .of (.inr ⟨r,hr,v⟩)
  .rw[aj.mp q];exact .lin (a:=g) (b:=-1) n (E.sub λx ⟨p,k,v⟩=>by rw[v];exact m p k) (show s≠0 by lia) λi=>by rw[e i];lia
end
theorem Ke(a:LL)(d B:Nat)(hd:d<=4)(hzl:a.length<=8)(hz:∀u∈a,u.length=d+1/\∀x∈u,Bn B x)(hB:PU d B) :
  ∃pv n,gX c [.lst (a.map tI),.int (d:Int)]=.ok (.tup [.lst (pv.map ke),.lst (n.map tI)])/\PP d B a pv n/\n.length<=8:=by
 have sz:1000<sizeLine:=by decide
 have hrm:zu (d:Int)=true:=jI (by lia);obtain⟨ρ,e,pv,n,x4,Z,N,rfl,v,H⟩:=iH (m:=jD 4) (g:=iS c) tI
  (λk ρ=>∃(pv:List (Nat×LI)) (n:LL) (x4 Z N:Option W),ρ=[some (.p (.lst (a.map tI))),some (.p (.int (d:Int))),some (.p (.lst (pv.map ke))),some (.o (n.map tI)),x4,Z,N]/\PP d B (a.take k) pv n/\n.length<=k)
  a 0 _ ⟨[],[],none,none,none,rfl,⟨(λp l=>nomatch l),List.Pairwise.nil,(λp l=>nomatch l),(λz hz=>by simp at hz)⟩,aJ _⟩ (by
   rintro k z ρ hi ⟨pv,n,x4,Z,N,rfl,v,H⟩;rw[aF]at v H ⊢;have S:=hz z (au hi);have hkl:=(aa.mp hi).1;have I:=v.short;have hbb:=hB.le pv.length I;obtain⟨left,el,Y,Q,⟨g,s,y,hg,hs,hy,ey⟩,h0⟩:=we (c:=c) (J5 pv) (d+1) (Pq B pv.length) B (by lia) pv z hbb S.1 S.2 (λp l=>by obtain⟨q1,q2,q3,q4,_⟩:=v.pl p l;exact⟨by lia,q2,q3,q4,p,l,rfl⟩) (v.pw.imp λh=>h.2.1)
   let A:List Nat:=(List.range d).filter λj=>left.getD j 0 != 0;let R:En:=[some (.p (.lst (a.map tI))),some (.p (.int (d:Int))),some (.p (.lst (pv.map ke))),some (.o (n.map tI)),some (.p (tI z)),some (.p (tI left)),some (.p (.lst (A.map λ(j:Nat)=>T.int (j:Int))))];have e4:kP [none,some 5] (ng (fj (fv 1) fC)) (jV 0) (gD (fL (fX true) (fL gS (fv 1) (fv 0)) (cM (.int 0)))) (ku c) (nH [some (.p (.lst (a.map tI))),some (.p (.int (d:Int))),some (.p (.lst (pv.map ke))),some (.o (n.map tI)),some (.p (tI z)),some (.p (tI left)),N])=.ok (A.map λ(j:Nat)=>T.int (j:Int)):=nv (List.range d) (λ(j:Nat)=>T.int (j:Int)) (λ(j:Nat)=>T.int (j:Int)) (λj=>left.getD j 0 != 0) (by simp[hrm,FK]) (by simp;lia) (λj hj=>⟨_,rfl,fQ (fE (fE rfl rfl (jA left j (by have:=aR.mp hj;lia))) rfl (lL _ _)),λ_=>rfl⟩) rfl
   have J:qq (A.map λ(j:Nat)=>T.int (j:Int))=true:=pk _ _ λ_ _=>rfl;have L:rJ (A.map λ(j:Nat)=>T.int (j:Int))<=90:=aM (pB _ 0 _ λ_ _=>aJ _) (by decide);have C:gD (fL (fX false) (fv 6) (iB (lstM fC))) (vw R)=.ok A.isEmpty:=by refine fQ (fE (x:=.lst (A.map λ(j:Nat)=>T.int (j:Int))) (y:=.lst []) rfl (by simp) ?_);rw[uv false _ J L];simp
   have U:∀r,(jT (gD (fL (fX false) (fv 6) (iB (lstM fC)))) (pb 3 (g9 (fv 5))) (setO 2 (g9 (iB (jo (fj (fv 2) (fj (fv 5) (fj (fL gS (fv 6) (cM (.int 0))) fC))) (jB c)))))) R=r->
     iS c [some (.p (.lst (a.map tI))),some (.p (.int (d:Int))),some (.p (.lst (pv.map ke))),some (.o (n.map tI)),some (.p (tI z)),Z,N]=r:=λr hr=>
    fF (fP (t:=tI left) (hW rfl rfl el) rfl) (fF (fP (t:=.lst (A.map λ(j:Nat)=>T.int (j:Int))) (iE e4) rfl) hr)
   have mono:B+pv.length*(Pq B pv.length+1)<=B+d*(Pq B d+1):=b6 (eJ I (eK (Ag I) 1)) _;have tk:a.take (k+1)=a.take k++[z]:=iZ a k z hi;cases D:A with
   |nil=>refine⟨_,_,rfl,.inl (U _ (fW (by rw[C,D];rfl) (tz (t:=tI left) rfl rfl (by simp;lia) rfl))),pv,n++[left],_,_,_,by rw[aY];rfl,?_,by simp;lia⟩;rw[tk];refine JV v hg hs hy ey Y λi him=>?_;refine aN λhc=>?_;have:i∈A:=aT.mpr ⟨aR.mpr him,by simpa[vc] using hc⟩;rw[D]at this;exact nomatch this
   |cons E js=>
    have X:E∈A:=by rw[D];exact bh ..
    have F:E<d:=aR.mp (aT.mp X).1;have w:vc left E≠0:=by have:=(aT.mp X).2;simpa[vc] using this
    have K:pv.length+1<=d:=by
     have nd:(E::pv.map Prod.fst).Nodup:=bJ.mpr ⟨λhm=>by obtain⟨p,l,ep⟩:=aC.mp hm;exact w (ep▸h0 p l),eG.mpr (v.pw.imp λq=>q.1)⟩
     have:=pL d _ nd λx hx=>by
      rcases aE.mp hx with rfl|hx
      .exact F
      .obtain⟨p,l,rfl⟩:=aC.mp hx;exact (v.pl p l).1
     simpa using this
    have hP:Pq B (pv.length+1)<=8000:=aM (Ag K) hB.pq;obtain⟨f,hf⟩:=nX (P:=λ(p:Nat×LI) (r:LI)=>iu c [tI p.2,tI left,.int (E:Int)]=.ok (tI r)/\r.length=p.2.length/\(∀x∈r,Bn (Pq B (pv.length+1)) x)/\vc r E=0/\∃g s b:Int,0<g/\0<s/\∀i,g*vc r i=s*vc p.2 i+b*vc left i) pv λp l=>by obtain⟨q1,q2,q3,q4,_⟩:=v.pl p l;obtain⟨r,a1,a2,a3,a4,g,s,b,a5,a6,a7,_⟩:=rj (c:=c) (Pq B pv.length) (B+pv.length*(Pq B pv.length+1)) p.2 left E (by lia) (by lia) (by lia) hP q4 Q w;exact⟨r,a1,a2,a3,a4,g,s,b,a5,a6,a7⟩
    have i0:fL gS (fv 6) (cM (.int 0)) (nH R)=.ok (.int (E:Int)):=fE (x:=.lst (A.map λ(j:Nat)=>T.int (j:Int))) rfl rfl (by rw[D];exact LY _ _);have e5:=qG (c:=c) pv left E f (by lia) λp l=>(hf p l).1;refine⟨_,_,rfl,.inl (U _ (fH (by rw[C,D];rfl) (fP (iE (By rfl rfl i0 e5)) rfl))),_,n,_,_,_,rfl,?_,by lia⟩;rw[tk];exact Je v hg hs hy ey Y h0 Q F w f λp l=>(hf p l).2)
 rw[aF,dh]at v;rw[aF]at H;refine⟨pv,n,gh rfl (fF (fP (t:=.lst []) (by simp) rfl) (fF (lD (ts:=[]) (by simp) rfl) (fF (iW rfl e) (fS (nE rfl rfl))))),v,by lia⟩
def HA ns (a b:Nat) (u:b<=7):∃(d:Nat) (cs:LL),kz c [.scr ns,.int (a:Int),.int b]=.ok (.tup [.int d,.lst (cs.map tI)])/\(1<=d/\d<=3)/\Jp d 84 cs/\cs.length<=b:=by
 obtain⟨v,n,-⟩:=qS ns a;obtain⟨j,o,i⟩:=kg (c:=c) v 0 3 (by decide) (by decide) (by decide) (by decide);obtain⟨h,q,g⟩:=kg (c:=c) v 1 (b+1) (by lia) (by lia) (by decide) (by decide);obtain⟨d,hd⟩:∃d:Nat,1+dr c v 0 3=(d:Int):=⟨(1+dr c v 0 3).toNat,by lia⟩;obtain⟨m,hmm⟩:∃d:Nat,dr c v 1 (b+1)=(d:Int):=⟨(dr c v 1 (b+1)).toNat,by lia⟩;have e:1<=d/\d<=3:=by lia
 rw[hmm]at h g;let R (m:Nat):En:=[some (.p (.scr ns)),some (.p (.int (a:Int))),some (.p (.int b)),some (.p (.int v)),some (.p (.int d)),some (.p (.int m))];obtain⟨f,hm',e5⟩:∃f:Nat,f<=b/\(jT (gD (fL (fX false) (fv 4) (cM (.int 3)))) (setO 5 (g9 (lp rq (fj (fv 5) (fj (cM (.int 5)) fC))))) gG) (R m)=.nx (R f):=by
  by_cases l:d=3
  .refine⟨min m 5,by lia,fW (fQ (fE rfl rfl (by rw[ib,l];rfl))) (fP ?_ rfl)⟩;show lp rq _ _=_;have:rq [.int (m:Int),.int 5]=.ok (.int ((min m 5:Nat):Int)):=by simp[rq];lia
   simpa[lp,fj,fC,R] using this
  .exact⟨m,by lia,fH (fQ (fE rfl rfl (by rw[ib];simp;lia))) rfl⟩
 obtain⟨cs,k,r,s⟩:=zX ns (a+1) d f e (by lia);refine⟨d,cs,gh rfl (fF (fP (hW rfl rfl n) rfl) (fF (fP (fE rfl (kW rfl rfl rfl j) (by rw[iR,hd])) rfl) (fF (fP (kW rfl rfl (fE rfl rfl (iR _ _)) h) rfl) (fF e5 (fS (nE rfl (iE (Be rfl (fE rfl rfl (by rw[iR];simp)) rfl rfl k)))))))),e,r,by lia⟩
def EF(h:Iv e=v):(v=0->e=0)/\(v≠0->0<(v:Rat)*e):=by
 unfold Iv at h;by_cases a:0<e
 .rw[aP a]at h;subst h;exact⟨λz=>absurd z (by decide),λ_=>by simpa using a⟩
 .rw[aQ a]at h;by_cases b:e<0
  .rw[aP b]at h;subst h;refine⟨λz=>absurd z (by decide),λ_=>?_⟩;have:((-1:Int):Rat)*e = -e:=by grind
   rw[this];grind
  .rw[aQ b]at h;subst h;exact⟨λ_=>by grind,λz=>absurd rfl z⟩
def qY{n:Nat}(h:ts.length≠n):i7 c [.int (n:Int),.tup ts]=.ok (.bl false):=by
 have a:¬(ts.length:Int)=(n:Int):=by lia
 exact gh rfl (j5 (t:=.bl false) (fW (by simp[a]) (fS rfl)) rfl)
def PQ{n:Nat}(l:ts.length<=20)(h:∀t∈ts,∃b,jx c [some t]=.ok (.bl b))(g:∃t∈ts,jx c [some t]=.ok (.bl false)):i7 c [.int (n:Int),.tup ts]=.ok (.bl false):=by
 have sz:1000<sizeLine:=by decide
 by_cases e:ts.length=n
 .obtain⟨f,d⟩:=nX (P:=λ(t:T) (b:Bool)=>jx c [some t]=.ok (.bl b)) ts h;have i:kP [none] (ig (fv 1)) (jV 0) (λ_=>.ok true) (jx c) (vw (gM 2 [.int (n:Int),.tup ts]))=.ok ((ts.map f).map T.bl):=
   kr ts (λt=>t) (λt=>T.bl (f t)) (by rw[eY];rfl) (by lia) (λt a=>⟨_,rfl,rfl,d t a⟩) (by simp)
  refine gh rfl (fF (fH (by simp[e]) rfl) (fS (oQ i ?_)));rw[oB];obtain⟨t,a,k⟩:=g;have j:f t=false:=by have:=d t a;rw[k]at this;injection this with this;injection this with this;exact this.symm
  congr 2;rw[List.all_eq_false];exact⟨false,aC.mpr ⟨t,a,j⟩,by decide⟩
 .exact qY e
def Fj(n a:Nat):List T:=
 let o:=(List.replicate n (1:Int)).map T.int
 [.non,.int 5,.str "+",.lst o,.tup (o++[.int 1]),.tup (o++[.int 0]),.emp,.tup (List.replicate (n+1) .non),.lst [.tup o]]++
  if n=0 then [.lst [],.tup [.int 0]] else ([T.int 2,.int (-2),.bl true,.non,.str "1",.tup [.int 1],.lst [.int 1],.bl false].map λb=>.tup (o.take a++b::o.drop (a+1)))++[.tup (o.drop 1),.tup []]
def QB(n a:Nat)(i:n<=7):∀th∈Fj n a,i7 c [.int (n:Int),th]=.ok (.bl false):=by
 have one:∀b,jx c [some b]=.ok (.bl false)->i7 c [.int (n:Int),.tup (((List.replicate n (1:Int)).map T.int).take a++b::((List.replicate n (1:Int)).map T.int).drop (a+1))]=.ok (.bl false):=λb e=>by
  refine PQ (by simp;lia) (λt g=>?_) ⟨b,by simp,e⟩;have d:t=b\/t∈(List.replicate n (1:Int)).map T.int:=by
   rcases ai.mp g with q|q
   .exact .inr (dD q)
   .rcases aE.mp q with q|q
    .exact .inl q
    .exact .inr (eX q)
  rcases d with rfl|d
  .exact⟨_,e⟩
  .obtain⟨x,h,rfl⟩:=aC.mp d;rw[a9 h];exact⟨true,rfl⟩
 unfold Fj;rw[eZ];refine⟨by simp only[fg];exact⟨rfl,rfl,rfl,rfl,qY (by simp),qY (by simp),rfl,qY (by simp),rfl,λ_ z=>nomatch z⟩,?_⟩
 split
 .rename_i f;simp only[fg];exact⟨rfl,qY (by simp[f]),λ_ z=>nomatch z⟩
 .rename_i f;rw[eZ];refine⟨?_,?_⟩
  .simp only[List.forall_mem_map,fg];exact⟨one _ rfl,one _ rfl,one _ rfl,one _ rfl,one _ rfl,one _ rfl,one _ rfl,one _ rfl,λ_ z=>nomatch z⟩
  .simp only[fg];exact⟨qY (by simp;lia),qY (by simp;lia),λ_ z=>nomatch z⟩
def Kr(e:fa ρ=.ok (.lst a))(d:fb ρ=.ok (.lst b))(f:a.length+b.length<=sizeLine):vZ fa fb ρ=.ok (a++b):=by simp only[vZ,e,d,M.bind_ok];rw[aP f]
def Qd(n:Nat)(d:n<=1000)(h:f ρ=.ok (.int (n:Int))):rW (iL (fj (cM .non) fC)) f ρ=.ok (.tup (List.replicate n .non)):=by
 have sz:1000<sizeLine:=by decide
 have hr:zu n=true:=jI (by lia);have b:1<=sizeLine:=by decide
 have a:n<=sizeLine:=by lia
 simp[h,xA,hr,b,a,Jh]
def AF(n a:Nat)(I:n<=7) cell (h:n=0\/a<n/\f7 c [.int cell,.int 0,.int (n:Int)]=.ok (.int (a:Int))):jY c [.int (n:Int),.int cell]=.ok (Fj n a):=by
 have sz:1000<sizeLine:=by decide
 let o:=(List.replicate n (1:Int)).map T.int;have w:rW (iL (fj (cM (.int 1)) fC)) (fv 0) (nH (gM 6 [.int (n:Int),.int cell]))=.ok (.tup o):=QF n (by lia) rfl;let j:List T:=[.non,.int 5,.str "+",.lst o,.tup (o++[.int 1]),.tup (o++[.int 0]),.emp,.tup (List.replicate (n+1) .non),.lst [.tup o]];have u:∀x:Int,iI (.tup o) (.tup [.int x])=.ok (.tup (o++[.int x])):=λx=>uy o [.int x] (by simp[o];lia);have y:lstM (fj (cM .non) (fj (cM (.int 5)) (fj (cM (.str "+")) (fj (iB (BE lW (fj (fv 2) fC))) (fj (fL iI (fv 2) (iL (fj (cM (.int 1)) fC))) (fj (fL iI (fv 2) (iL (fj (cM (.int 0)) fC))) (fj (cM .emp) (fj (rW (iL (fj (cM .non) fC)) (fL iI (fv 0) (cM (.int 1)))) (fj (iB (lstM (fj (fv 2) fC))) fC))))))))) (nH [some (.p (.int (n:Int))),some (.p (.int cell)),some (.p (.tup o)),none,none,none])=.ok j:=Bi (lN rfl (lN rfl (lN rfl (lN (x:=.lst o) (by simp) (lN (fE rfl rfl (u 1)) (lN (fE rfl rfl (u 0)) (lN rfl (lN (Qd (n+1) (by lia) (fE rfl rfl (by rw[iR];simp))) (lN rfl rfl))))))))) (by show 9<=sizeLine;decide)
 rcases h with h|⟨F,h⟩
 .subst h;exact nJ rfl (fF (fP w rfl) (fF (lD y rfl) (Mn (fW rfl (rz rfl)) rfl)))
 .have r:o≠[]:=λz=>by have:=congrArg List.length z;simp[o]at this;lia
  let l:List T:=[.int 2,.int (-2),.bl true,.non,.str "1",.tup [.int 1],.lst [.int 1],.bl false];let f:T->T:=λb=>.tup (o.take a++b::o.drop (a+1));let R:List T->Option W->En:=λts q=>[some (.p (.int (n:Int))),some (.p (.int cell)),some (.p (.tup o)),some (.o ts),some (.p (.int (a:Int))),q];obtain⟨ρ,e,q,rfl⟩:=iH (m:=jD 5) (g:=oO c) (λt:T=>t) (λk ρ=>∃q:Option W,ρ=R (j++(l.take k).map f) q) l 0 (R j none) ⟨none,by simp⟩ (by rintro i b ρ v ⟨q,rfl⟩;have D:i<8:=(aa.mp v).1;have C:=wC (fe:=fv 2) (fd:=fv 4) (ts:=o) (d:=a) (ρ:=nH (R (j++(l.take (0+i)).map f) (some (.p b)))) rfl rfl (by simp[o];lia);have A:=A6 (fe:=fv 2) (fd:=fL iI (fv 4) (cM (.int 1))) (ts:=o) (d:=a+1) (ρ:=nH (R (j++(l.take (0+i)).map f) (some (.p b)))) rfl (fE rfl rfl (by rw[iR];simp)) (by lia) r;refine⟨R (j++(l.take (0+i)).map f) (some (.p b)),_,rfl,.inl (tz rfl (fE (fE C (RL rfl) (uy _ _ (by simp[o];lia))) A (uy _ _ (by simp[o];lia))) (by simp[j];lia) rfl),some (.p b),?_⟩;rw[aF,List.take_succ_eq_append_getElem D,aY];have B:l[i]=b:=(aa.mp v).2;rw[B];simp[R,f])
  rw[eY]at e;have H:¬(n:Int)=0:=by lia
  have E:vZ (fv 3) (iB (lstM (fj (mF (fv 2) (jR (cM (.int 1))) (λ_=>.ok none)) (fj (iL fC) fC)))) (vw (R (j++(l.take (0+8)).map f) q))=.ok (j++(l.take (0+8)).map f++[.tup (o.drop 1),.tup []]):=Kr rfl (iE (Bi (lN (A6 (fe:=fv 2) (fd:=cM (.int 1)) (ts:=o) (d:=1) rfl rfl (by decide) r) (lN rfl rfl)) (by show 2<=sizeLine;decide))) (by simp[j,l];lia)
  have:Fj n a=j++(l.take (0+8)).map f++[.tup (o.drop 1),.tup []]:=by
   have s:n≠0:=by lia
   simp only[Fj,aQ s];simp[j,l,f,o]
  rw[this];exact nJ rfl (fF (fP w rfl) (fF (lD y rfl) (fF (fH (fQ (fE rfl rfl (by rw[ib];simp;lia))) rfl) (fF (fP (kW rfl rfl rfl h) rfl) (fF (iW (wL rfl) e) (rz E))))))
def Ct(h:f (nH ρ)=.er C none):setO i (g9 f) ρ=.er C none:=by unfold setO g9;rw[h];rfl
section
variable {d:Nat}{cs:LL}{sg:LI}{th:T}
def QQ(h:i7 c [.int (cs.length:Int),th]=.ok (.bl false)):fZ c [hU c d cs,th]=.er c.NoSigns none:=iU rfl (fW (qO (fQ (hW (yK d cs rfl) rfl h)) rfl) rfl)
def LO(e:cs.length<=7)(a:Ju cs.length sg):fZ c [hU c d cs,tI sg]=.ok .non:=rL rfl (fH (qO (fQ (hW (yK d cs rfl) rfl (A2 cs.length sg a.len (by lia) λx b=>by have:=a.one x b;lia))) rfl) rfl)
def L7(h:fZ c [hU c d cs,th]=.er C none):mm c [hU c d cs,th]=.er C none:=iU rfl (jW (gP h))
def LS(i:1<=d/\d<=3)(h:Jp d 84 cs)(g:Ju cs.length sg)(f:∃X,OZ cs d sg X):∃s,mm c [hU c d cs,tI sg]=.ok (.tup [.str "spot",tS s]):=by
 have j:=h.few;rcases qm (c:=c) cs d 84 9000 3900 (by lia) (by lia) (λu a=>(h.gc u a).gl.1) (λu a=>(h.gc u a).gl.2) (Rl d i.2) sg g with⟨k,e,p,b⟩|⟨s,e,p⟩
 .obtain⟨X,f⟩:=f;exact (JH g f p).elim
 .exact⟨s,gh rfl (fF (jk (LO j g)) (fS (kW (iE (C7 d cs rfl)) (yD d cs rfl) rfl e)))⟩
def AB(h:fZ c [hU c d cs,th]=.er C none):gz c [hU c d cs,th]=.er C none:=iU rfl (jW (Ct (L7 h)))
def GG(g:1<=d/\d<=3)(f:Jp d 84 cs)(b:Ju cs.length sg)(a:∃X,OZ cs d sg X):∃s,gz c [hU c d cs,tI sg]=.ok s:=by obtain⟨s,e⟩:=LS (c:=c) g f b a;exact⟨_,gh rfl (fF (fP e rfl) (fF (fH (fQ (fE (fE rfl rfl rfl) rfl MW)) rfl) (fS (fE rfl rfl rfl))))⟩
def Av(h:fZ c [hU c d cs,th]=.er C none):gE c [hU c d cs,th]=.er C none:=iU rfl (jW (gP h))
def LX(h:fZ c [hU c d cs,th]=.er C none):iq c [hU c d cs,th,u]=.er C none:=iU rfl (jW (gP (AB h)))
def Hx(a:gz c [hU c d cs,u]=.ok s)(h:fZ c [hU c d cs,th]=.er C none):iq c [hU c d cs,u,th]=.er C none:=iU rfl (fF (jk a) (gP (AB h)))
def Nj(w:Nat)(hw:w<14)(a:gz c [hU c d cs,u]=.ok s)(h:fZ c [hU c d cs,th]=.er C none):j9 c [.int (w:Int),hU c d cs,th,u]=.er C none:=by
 have i:kQ c [hU c d cs,th,u]=.er C none:=iU rfl (jW (gP (LX h)));have p:kQ c [hU c d cs,u,th]=.er C none:=iU rfl (jW (gP (Hx a h)));have r:j7 c [hU c d cs,th,u]=.er C none:=iU rfl (jW (gP (LX h)));have k:j7 c [hU c d cs,u,th]=.er C none:=iU rfl (jW (gP (Hx a h)));have j:kZ c [hU c d cs,th,u,.non]=.er C none:=iU rfl (jW (Ct (AB h)));have e:kZ c [hU c d cs,u,th,.non]=.er C none:=iU rfl (fF (fP a rfl) (jW (Ct (AB h))));have b:jr c [hU c d cs,th,.non]=.er C none:=iU rfl (jW (gP h));have q:kG c [hU c d cs,th]=.er C none:=iU rfl (jW (gP (Av h)));have l:nZ c [hU c d cs,th]=.er C none:=iU rfl (jW (gP (Av h)));have g:je c [hU c d cs,th,.non]=.er C none:=iU rfl (jW (gP (Av h)));have f:kD c [hU c d cs,th,.non]=.er C none:=iU rfl (jW (gP (Av h)));have m:rk c [hU c d cs,th]=.er C none:=iU rfl (jW (gP (Av h)));have o:jJ c [hU c d cs,th]=.er C none:=iU rfl (jW (gP (AB h)));match w,hw with
 |0,_=>exact iU rfl (fW rfl (gP (L7 h)))
 |1,_=>exact iU rfl (fH rfl (fW rfl (gP b)))
 |2,_=>exact iU rfl (fH rfl (fH rfl (fW rfl (gP q))))
 |3,_=>exact iU rfl (fH rfl (fH rfl (fH rfl (fW rfl (gP l)))))
 |4,_=>exact iU rfl (fH rfl (fH rfl (fH rfl (fH rfl (fW rfl (gP g))))))
 |5,_=>exact iU rfl (fH rfl (fH rfl (fH rfl (fH rfl (fH rfl (fW rfl (gP f)))))))
 |6,_=>exact iU rfl (fH rfl (fH rfl (fH rfl (fH rfl (fH rfl (fH rfl (fW rfl (gP m))))))))
 |7,_=>exact iU rfl (fH rfl (fH rfl (fH rfl (fH rfl (fH rfl (fH rfl (fH rfl (fW rfl (gP o)))))))))
 |8,_=>exact iU rfl (fH rfl (fH rfl (fH rfl (fH rfl (fH rfl (fH rfl (fH rfl (fH rfl (fW rfl (gP i))))))))))
 |9,_=>exact iU rfl (fH rfl (fH rfl (fH rfl (fH rfl (fH rfl (fH rfl (fH rfl (fH rfl (fW rfl (gP p))))))))))
 |10,_=>exact iU rfl (fH rfl (fH rfl (fH rfl (fH rfl (fH rfl (fH rfl (fH rfl (fH rfl (fH rfl (fW rfl (gP r)))))))))))
 |11,_=>exact iU rfl (fH rfl (fH rfl (fH rfl (fH rfl (fH rfl (fH rfl (fH rfl (fH rfl (fH rfl (fW rfl (gP k)))))))))))
 |12,_=>exact iU rfl (fH rfl (fH rfl (fH rfl (fH rfl (fH rfl (fH rfl (fH rfl (fH rfl (fH rfl (fH rfl (gP j)))))))))))
 |13,_=>exact iU rfl (fH rfl (fH rfl (fH rfl (fH rfl (fH rfl (fH rfl (fH rfl (fH rfl (fH rfl (fH rfl (gP e)))))))))))
 |n+14,h=>exact absurd h (by lia)
def I0(w:Nat)(hw:w<14)(a:gz c [hU c d cs,u]=.ok s)(h:i7 c [.int (cs.length:Int),th]=.ok (.bl false)):jE c [.int (w:Int),hU c d cs,th,u]=.ok (.str "signs"):=gh rfl (fF (fP rfl rfl) (NT (gP (Nj w hw a (QQ h))) (aP rfl) (fS rfl)))
def F6(w:Nat)(e:j9 c [.int (w:Int),hU c d cs,th,u]=.ok t):jE c [.int (w:Int),hU c d cs,th,u]=.ok (.str "told"):=gh rfl (fF (fP rfl rfl) (Na (jk e) (fS rfl)))
def JS(h:1<=d/\d<=3)(b:Jp d 84 cs)(n:Ju cs.length sg)(m:∃X,OZ cs d sg X):∃t,jJ c [hU c d cs,tI sg]=.ok t:=by
 have sz:1000<sizeLine:=by decide
 have w:=b.few;obtain⟨s,l⟩:=GG (c:=c) h b n m;let a:=((cs.zip sg).filter λp=>p.2==0).map Prod.fst;have hr:∀u∈a,u∈cs:=λu e=>by obtain⟨p,i,rfl⟩:=aC.mp e;exact (aV (aT.mp i).1).1
 have r:a.length<=8:=by have:=eL (λp:LI×Int=>p.2==0) (cs.zip sg);simp only[a,aw];rw[dC]at this;lia
 obtain⟨pv,v,o,-,-⟩:=Ke (c:=c) a d 92 (by lia) r (λu e=>⟨((b.gc u (hr u e)).gl.1),λx k=>((b.gc u (hr u e)).gl.2 x k).mono (by decide)⟩) (PM d h.2);have j:kP [none,none] (nc (fj (iB (qR c.Cutting "cuts" (fv 0) fC (iz c))) (fj (fv 1) fC))) (oV 2 (iM (jV 0) (iM (jV 1) oY))) (gD (fL (fX false) (fv 1) (cM (.int 0)))) (oj c) (nH (gM 3 [hU c d cs,tI sg]))=.ok (a.map tI):=nv (cs.zip sg) (λp=>.tup [tI p.1,.int p.2]) (λp=>tI p.1) (λp=>p.2==0) (pP (f:=tI) (g:=T.int) (iE (C7 d cs rfl)) rfl rfl rfl) (by rw[dC];lia) (λp i=>⟨_,rfl,fQ (fE rfl rfl (ib _ _)),λ_=>rfl⟩) (by simp[a])
 have q:v5 c [.lst (a.map tI),.int (d:Int)]=.ok (.int (pv.length:Int)):=gh rfl (fS (oX (fE (hW rfl rfl o) rfl rfl) (by simp)));exact⟨_,gh rfl (fF (jk l) (fF (fP (iE j) rfl) (fS (fE (yD d cs rfl) (hW rfl (yD d cs rfl) q) (mZ _ _)))))⟩
def Kv:(PyData.str "signs").canLay0=true:=by rw[PyData.canLay0];decide +kernel
def Mw(i:1<=d/\d<=3)(e:Jp d 84 cs)(a:Ju cs.length sg)(j:∃X,OZ cs d sg X):∀w∈[0,1,7,8,9,10,11],∃t,j9 c [.int ((w:Nat):Int),hU c d cs,tI sg,tI sg]=.ok t:=by
 have sz:1000<sizeLine:=by decide
 have x:=e.few;have A:=a.len;obtain⟨s,r⟩:=LS (c:=c) i e a j;obtain⟨B,o⟩:=GG (c:=c) i e a j;obtain⟨y,v⟩:=JS (c:=c) i e a j;have q:iq c [hU c d cs,tI sg,tI sg]=.ok .non:=rL rfl (fF (jk o) (jk o));have zz:nc (fj (fv 1) (fj (fv 2) fC)) (vw (gM 3 [hU c d cs,tI sg,tI sg]))=.ok ((sg.zip sg).map λp=>.tup [.int p.1,.int p.2]):=pP (f:=T.int) (g:=T.int) (l:=sg) (m:=sg) rfl rfl rfl rfl;have n:(sg.zip sg).length<sizeLine:=by rw[dC];lia
 have k:kQ c [hU c d cs,tI sg,tI sg]=.ok (.tup ((sg.zip sg).map λp=>T.int (if p.1==0 then p.2 else p.1))):=
  gh rfl (fF (jk q) (fS (oQ (kr (sg.zip sg) _ (λp=>T.int (if p.1==0 then p.2 else p.1)) zz n (λp _=>⟨_,rfl,rfl,by
   by_cases h:p.1=0
   .simp[nG,h]
   .simp[nG,h]⟩) rfl) rfl)))
 obtain⟨t5,e5⟩:∃t,j7 c [hU c d cs,tI sg,tI sg]=.ok t:=
  ⟨_,gh rfl (fF (jk q) (fS (oQ (kr (sg.zip sg) _ (λp=>T.bl (p.1==0||p.1==p.2)) zz n (λp _=>⟨_,rfl,rfl,by
   by_cases h:p.1=0
   .simp[mX,h]
   .simp[mX,h]⟩) (ts:=((sg.zip sg).map λp=>(p.1==0||p.1==p.2)).map T.bl) (by simp)) (oB _))))⟩
 have u:jr c [hU c d cs,tI sg,.non]=.ok (.bl false):=gh rfl (fF (jk (LO x a)) (j5 (t:=.bl false) (fW (qO (fQ (b:=false) (hW (yK d cs rfl) rfl rfl)) rfl) (fS rfl)) rfl));simp only[fg];exact⟨⟨_,rL rfl (fW rfl (jk r))⟩,⟨_,rL rfl (fH rfl (fW rfl (jk u)))⟩,⟨_,rL rfl (fH rfl (fH rfl (fH rfl (fH rfl (fH rfl (fH rfl (fH rfl (fW rfl (jk v)))))))))⟩,
  ⟨_,rL rfl (fH rfl (fH rfl (fH rfl (fH rfl (fH rfl (fH rfl (fH rfl (fH rfl (fW rfl (jk k))))))))))⟩,⟨_,rL rfl (fH rfl (fH rfl (fH rfl (fH rfl (fH rfl (fH rfl (fH rfl (fH rfl (fW rfl (jk k))))))))))⟩,
  ⟨_,rL rfl (fH rfl (fH rfl (fH rfl (fH rfl (fH rfl (fH rfl (fH rfl (fH rfl (fH rfl (fW rfl (jk e5)))))))))))⟩,⟨_,rL rfl (fH rfl (fH rfl (fH rfl (fH rfl (fH rfl (fH rfl (fH rfl (fH rfl (fH rfl (fW rfl (jk e5)))))))))))⟩,λ_ z=>nomatch z⟩
def QJ(d:Nat)(a:1<=d/\d<=3)(h:f ρ=.ok (.int (d:Int))):rW (iL (fj (iL (fj (cM (.int 1)) (fj (cM (.int 3)) fC))) fC)) f ρ=.ok (tS (List.replicate d (1,3))):=by
 have:d=1\/d=2\/d=3:=by lia
 refine fE rfl h ?_;rcases this with rfl|rfl|rfl<;>rfl
def Hk(d:Nat)(b:1<=d/\d<=3):Sq d (List.replicate d (1,3)):=by
 have:d=1\/d=2\/d=3:=by lia
 refine⟨by simp,λp a=>?_,?_⟩
 .rw[a9 a];exact⟨by decide,by decide⟩
 .rcases this with rfl|rfl|rfl<;>decide
def Es(hc:c.NoSigns≠c.NoFace) ns:sr c [.scr ns]=.ok (.bl true):=by
 have sz:10000<sizeLine:=by decide
 obtain⟨l,c8,-⟩:=qS (c:=c) ns 8;obtain⟨d,cs,E,f,h,hm⟩:=HA (c:=c) ns 0 6 (by decide);have Q:=KD (c:=c) d 84 cs f (by decide) h;have C:=h.few;let s:List (Int×Int):=List.replicate d (1,3);have A:Sq d s:=Hk d f;have eS:=KA (c:=c) f h A;let g:=LW d cs s;have sg:Ju cs.length g:=⟨by simp[g,LW],λx Z=>by obtain⟨u,-,rfl⟩:=aC.mp Z;exact Lf _⟩
 have z:∃X,OZ cs d g X:=⟨Xs s,λi v L=>by
  obtain⟨hi,e⟩:=aa.mp L;have r:i<cs.length:=by simpa[g,LW] using hi
  have P:Iv (ko d (Xs s) (vc (cs.getD i [])))=v:=by rw[<-e,af,ag r];simp[g,LW]
  exact EF P⟩
 obtain⟨sp,e0⟩:=GG (c:=c) f h sg z;obtain⟨a,ha⟩:∃a:Nat,cs.length=0\/a<cs.length/\f7 c [.int l,.int 0,.int (cs.length:Int)]=.ok (.int (a:Int)):=by
  by_cases h0:cs.length=0
  .exact⟨0,.inl h0⟩
  .obtain⟨J,d1a,D⟩:=kg (c:=c) l 0 (cs.length:Int) (by lia) (Int.lt_of_le_of_lt (show (cs.length:Int)<=7 by lia) (by decide)) (by decide) (by decide);exact⟨(dr c l 0 (cs.length:Int)).toNat,.inr ⟨by lia,by rw[J];congr 2;lia⟩⟩
 have S:=AF (c:=c) cs.length a C l ha;have H:=QB (c:=c) cs.length a C;have o:=Mw (c:=c) f h sg z;let R (n b:Option W):En:=[some (.p (.scr ns)),some (.p (.int (d:Int))),some (.p (.lst (cs.map tI))),some (.p (hU c d cs)),some (.p (tI g)),n,b];have I:fX true (.str "signs") (.str "signs")=.ok (.bl false):=R7 _ Kv;obtain⟨Y,B,U,y,rfl⟩:=tG (m:=jD 5) (g:=xy c) (λt:T=>t) (λj=>∃n b:Option W,j=R n b) (Fj cs.length a) (R none none) ⟨_,_,rfl⟩ (by
  rintro th q j ⟨n,b,rfl⟩;obtain⟨F,K,y,rfl⟩:=tG (m:=jD 6) (g:=xF c) (λ(k:Nat)=>T.int (k:Int)) (λj=>∃b:Option W,j=R (some (.p th)) b) (List.range 14) (R (some (.p th)) b) ⟨_,rfl⟩ (by rintro w hw j ⟨b,rfl⟩;exact⟨_,_,rfl,.inl (fH (fQ (fE (Mc rfl rfl rfl rfl (I0 w (aR.mp hw) e0 (H th q))) rfl I)) rfl),_,rfl⟩)
  exact⟨R (some (.p th)) b,_,rfl,.inl (oM (vM 14 (by decide) rfl) K),_,_,rfl⟩)
 rw[eY]at B;have e3:kP [none,some 3,some 4] (ig (iB (lstM (fj (cM (.int 0)) (fj (cM (.int 1)) (fj (cM (.int 7)) (fj (cM (.int 8)) (fj (cM (.int 9)) (fj (cM (.int 10)) (fj (cM (.int 11)) fC)))))))))) (jV 0) (λ_=>.ok true) (yi c) (vw (R U y))=.ok (List.replicate 7 (.str "told")):=kr [0,1,7,8,9,10,11] (λ(k:Nat)=>T.int (k:Int)) (λ_=>.str "told") (wL (iE (Bi rfl (by show 7<=sizeLine;decide)))) (by show 7<sizeLine;decide) (λw hw=>⟨_,rfl,rfl,by obtain⟨t,e⟩:=o w hw;exact Mc rfl rfl rfl rfl (F6 w e)⟩) rfl
 have N:fX false (.lst (List.replicate 7 (.str "told"))) (.lst (List.replicate 7 (.str "told")))=.ok (.bl true):=by simp[fX,qL,qq,zx,p7,Nl,List.replicate,K1,xw]
 refine gh rfl (fF (ρ':=[some (.p (.scr ns)),some (.p (.int (d:Int))),some (.p (.lst (cs.map tI))),none,none,none,none]) (Nm (kW rfl rfl rfl E) rfl) (fF (fP (hW rfl rfl Q) rfl) (fF (fP (xQ f h A rfl (QJ d f rfl)) rfl) (fF (iW (wL (iE (GI (oX (t:=.lst (cs.map tI)) rfl (by simp)) (hW rfl rfl c8) S))) B) (fS (fE (iE e3) (Nu 7 (by decide) _ rfl) N))))))
end
end CL
namespace K13
open PySem L2 L3 CL
def gy(i:Nat):Stmt:=PySem.Challenge.pw_cutlands_k13_signs_refused.main.body.getD i (.Pass ⟨0,0,0,0⟩)
structure Er(c:Cs)(K:W.Frag)(mg:Str->Option Value):Prop where
 here:True
 cl_Cutting:xh K c.Cutting
 na_Cutting_own_cuts:lF K c.Cutting "own_cuts"
 na_Cutting_own_dims:lF K c.Cutting "own_dims"
 mk_Cutting:W.makesIn K c.Cutting=true
 kp_Cutting:W.keepIn K (.ref c.Cutting)=true
 mg_Cutting:mg "Cutting" = some (.ref c.Cutting)
 k_MOST_CUTS:∃t,mg "MOST_CUTS" = some (.int 7 t)
 k_MOST_DIMS:∃t,mg "MOST_DIMS" = some (.int 3 t)
 cut:mg "CutError" = some (.ref c.CutError)
 hct:Ln K c.CutError
 x_NoSigns:Xk K "NoSigns" c.NoSigns c.CutError
 x_NoFace:Xk K "NoFace" c.NoFace c.CutError
 m_NoFace:mg "NoFace" = some (.ref c.NoFace)
 m_NoLand:mg "NoLand" = some (.ref c.NoLand)
 m_NoNumber:mg "NoNumber" = some (.ref c.NoNumber)
 m_NoSpot:mg "NoSpot" = some (.ref c.NoSpot)
 m_NoSigns:mg "NoSigns" = some (.ref c.NoSigns)
 n_NoSigns_NoFace:W.kitOne K (.ref c.NoSigns) (.ref c.NoFace)=some false
 n_NoSigns_NoLand:W.kitOne K (.ref c.NoSigns) (.ref c.NoLand)=some false
 n_NoSigns_NoNumber:W.kitOne K (.ref c.NoSigns) (.ref c.NoNumber)=some false
 n_NoSigns_NoSpot:W.kitOne K (.ref c.NoSigns) (.ref c.NoSpot)=some false
 n_NoFace_NoLand:W.kitOne K (.ref c.NoFace) (.ref c.NoLand)=some false
 n_NoFace_NoNumber:W.kitOne K (.ref c.NoFace) (.ref c.NoNumber)=some false
 n_NoFace_NoSpot:W.kitOne K (.ref c.NoFace) (.ref c.NoSpot)=some false
 n_NoFace_NoSigns:W.kitOne K (.ref c.NoFace) (.ref c.NoSigns)=some false
 ne:c.NoSigns≠c.NoFace
 val:mg "ValueError" = none
def Qw{K:W.Frag}{h:Heap}{f:Str->Option Value}{aCutting aCutError aNoFace aNoLand aNoNumber aNoSpot aNoSigns:Addr}{tMOST_CUTS tMOST_DIMS:_}(X:K.In h)(G:h.Ns mainGlobals f)(e:W.nsIn K mainGlobals "Cutting" = some (some (.ref aCutting)))(l:W.plainGet K aCutting Str.empty=true)(i:W.hasDictIn K aCutting=true)(n:W.plainOver K aCutting=true)(j:W.findIn K (.ref aCutting) "__setattr__" = some (some (.builtin "object.__setattr__")))(own_cuts:W.findIn K (.ref aCutting) "own_cuts" = some none)(own_dims:W.findIn K (.ref aCutting) "own_dims" = some none)(g:W.makesIn K aCutting=true)(k:W.keepIn K (.ref aCutting)=true)(uMOST_CUTS:W.nsIn K mainGlobals "MOST_CUTS" = some (some (.int 7 tMOST_CUTS)))(uMOST_DIMS:W.nsIn K mainGlobals "MOST_DIMS" = some (some (.int 3 tMOST_DIMS)))(eCutError:W.nsIn K mainGlobals "CutError" = some (some (.ref aCutError)))(eNoFace:W.nsIn K mainGlobals "NoFace" = some (some (.ref aNoFace)))(eNoLand:W.nsIn K mainGlobals "NoLand" = some (some (.ref aNoLand)))(eNoNumber:W.nsIn K mainGlobals "NoNumber" = some (some (.ref aNoNumber)))(eNoSpot:W.nsIn K mainGlobals "NoSpot" = some (some (.ref aNoSpot)))(eNoSigns:W.nsIn K mainGlobals "NoSigns" = some (some (.ref aNoSigns)))(m:W.typeIn K (.ref aCutError)=some (.type "type"))(b:W.mroIn K aCutError (.type "BaseException")=some true)(c:W.specialIn K (.builtin "object.__class__") "__get__" = some (some (.builtin "getset_descriptor.__get__")))(d:W.takesIn K (.builtin "object.__class__")=some true)(qNoSigns:W.excIn K aNoSigns PR "ValueError.__new__" = true)(pNoSigns:W.findIn K (.ref aNoSigns) "__getattribute__" = some (some (.builtin "BaseException.__getattribute__")))(rNoSigns:W.findIn K (.ref aNoSigns) "__getattr__" = some none)(sNoSigns:W.findIn K (.ref aNoSigns) "__class__" = some (some (.builtin "object.__class__")))(tNoSigns:W.mroIn K aNoSigns (.type "object")=some true)(uNoSigns:W.mroIn K aNoSigns (.type "BaseException")=some true)(vNoSigns:W.mroIn K aNoSigns (.ref aCutError)=some true)(wNoSigns:W.mroIn K aNoSigns (.type "ValueError")=some true)(qNoFace:W.excIn K aNoFace PR "ValueError.__new__" = true)(pNoFace:W.findIn K (.ref aNoFace) "__getattribute__" = some (some (.builtin "BaseException.__getattribute__")))(rNoFace:W.findIn K (.ref aNoFace) "__getattr__" = some none)(sNoFace:W.findIn K (.ref aNoFace) "__class__" = some (some (.builtin "object.__class__")))(tNoFace:W.mroIn K aNoFace (.type "object")=some true)(uNoFace:W.mroIn K aNoFace (.type "BaseException")=some true)(vNoFace:W.mroIn K aNoFace (.ref aCutError)=some true)(wNoFace:W.mroIn K aNoFace (.type "ValueError")=some true)(cNoFace:W.typeIn K (.ref aNoFace)=some (.type "type"))(dNoFace:W.mroIn K aNoFace (.type "object")=some true)(cNoLand:W.typeIn K (.ref aNoLand)=some (.type "type"))(dNoLand:W.mroIn K aNoLand (.type "object")=some true)(cNoNumber:W.typeIn K (.ref aNoNumber)=some (.type "type"))(dNoNumber:W.mroIn K aNoNumber (.type "object")=some true)(cNoSpot:W.typeIn K (.ref aNoSpot)=some (.type "type"))(dNoSpot:W.mroIn K aNoSpot (.type "object")=some true)(cNoSigns:W.typeIn K (.ref aNoSigns)=some (.type "type"))(dNoSigns:W.mroIn K aNoSigns (.type "object")=some true)(nNoSignsNoFace:aNoSigns≠aNoFace)(mNoSignsNoFace:W.mroIn K aNoSigns (.ref aNoFace)=some false)(nNoSignsNoLand:aNoSigns≠aNoLand)(mNoSignsNoLand:W.mroIn K aNoSigns (.ref aNoLand)=some false)(nNoSignsNoNumber:aNoSigns≠aNoNumber)(mNoSignsNoNumber:W.mroIn K aNoSigns (.ref aNoNumber)=some false)(nNoSignsNoSpot:aNoSigns≠aNoSpot)(mNoSignsNoSpot:W.mroIn K aNoSigns (.ref aNoSpot)=some false)(nNoFaceNoLand:aNoFace≠aNoLand)(mNoFaceNoLand:W.mroIn K aNoFace (.ref aNoLand)=some false)(nNoFaceNoNumber:aNoFace≠aNoNumber)(mNoFaceNoNumber:W.mroIn K aNoFace (.ref aNoNumber)=some false)(nNoFaceNoSpot:aNoFace≠aNoSpot)(mNoFaceNoSpot:W.mroIn K aNoFace (.ref aNoSpot)=some false)(nNoFaceNoSigns:aNoFace≠aNoSigns)(mNoFaceNoSigns:W.mroIn K aNoFace (.ref aNoSigns)=some false)(a:W.nsIn K mainGlobals "ValueError" = some none):Er ⟨aCutting,0,aCutError,0,0,0,aNoSpot,aNoSigns,aNoLand,aNoFace,aNoNumber,0,0⟩ K f:=⟨trivial,⟨l,i,n,j⟩,own_cuts,own_dims,g,k,W.mg_of X G e,⟨_,W.mg_of X G uMOST_CUTS⟩,⟨_,W.mg_of X G uMOST_DIMS⟩,W.mg_of X G eCutError,⟨qW b,m,b⟩,LV eNoSigns qNoSigns pNoSigns rNoSigns sNoSigns c d tNoSigns uNoSigns vNoSigns wNoSigns,LV eNoFace qNoFace pNoFace rNoFace sNoFace c d tNoFace uNoFace vNoFace wNoFace,W.mg_of X G eNoFace,W.mg_of X G eNoLand,W.mg_of X G eNoNumber,W.mg_of X G eNoSpot,W.mg_of X G eNoSigns,tO nNoSignsNoFace cNoFace dNoFace mNoSignsNoFace,tO nNoSignsNoLand cNoLand dNoLand mNoSignsNoLand,tO nNoSignsNoNumber cNoNumber dNoNumber mNoSignsNoNumber,tO nNoSignsNoSpot cNoSpot dNoSpot mNoSignsNoSpot,tO nNoFaceNoLand cNoLand dNoLand mNoFaceNoLand,tO nNoFaceNoNumber cNoNumber dNoNumber mNoFaceNoNumber,tO nNoFaceNoSpot cNoSpot dNoSpot mNoFaceNoSpot,tO nNoFaceNoSigns cNoSigns dNoSigns mNoFaceNoSigns,nNoSignsNoFace,W.mg_none_of X G a⟩
def Pc{K:W.Frag}{a g:Addr}{m q:Str}{st:Stmt}{f kV c n b k:Vq}{h i:Option Addr}{d:Array (Option Value)}(gf:W.findIn K (.ref a) m=some (some (.ref g)))(j:W.isFn K (.ref g)=true)(l:K.lookup g=some ⟨f,h,.func (W.fnOf m q (jg st) (gJ st) (fK st) .none kV c n i b k),d⟩)(o:W.codeIn K b q=true)(e:W.keepIn K (.ref g)=true):jK K a m q st:=⟨_,_,B8 l o e,gf,j,e⟩
set_option hygiene false in
local macro_rules|`('x')=>`(by repeat' first|(refine' fz ?_ ?_)|(refine' fG ?_)|(exact fY)|(refine' ij _ nd ?_)|(refine' gx ?_ ?_ ?_)|(refine' gU ?_)|(refine' wu _ nd ?_)|(refine' rK ?_)|(refine' gI ?_)|(exact yF)|(refine' nS _ nd ?_)|(exact fI _)|(exact gL)|(refine' fN ?_ ?_)|(exact gQ)|(refine' Dm ?_ ?_)|(refine' lG (by assumption) hr ?_)|(refine' uU ?_ ?_)|(refine' pQ ?_)|(refine' sV hr ?_ ?_)|(refine' Gw hr ?_ ?_)|(refine' lu ?_)|(refine' pU ?_)|(refine' nA ?_ ?_)|(refine' l6 ?_)|(refine' nj ?_ ?_)|(refine' l9 ?_)|(refine' gq (ia (K:=K)) jO (by rfl) B.len jN ?_)|(refine' gB rR rP ?_ ?_)|(refine' gB Dk C0 ?_ ?_)|(refine' gB xS yg ?_ ?_)|(refine' gB wQ vj ?_ ?_)|(refine' gB oq oy ?_ ?_)|(refine' gB zv zm ?_ ?_)|(exact Hi)|(exact lE)|(exact yu)|(refine' B4 ?_)|(refine' Ig ?_ ?_)|(refine' Gf ?_ ?_)|(refine' ID ?_)|(refine' Oq ?_ ?_)|(refine' LB ?_ ?_)|(refine' AJ ?_ ?_ ?_)|(exact Gv)|(refine' Ib ?_)|(refine' mw "tuple" (by decide) B.isinstance B.tuple iT ?_)|(refine' mw "list" (by decide) B.isinstance B.list kM ?_)|(refine' mw "int" (by decide) B.isinstance B.int Bp ?_)|(refine' mw "bool" (by decide) B.isinstance B.bool Dy ?_)|(refine' jc (iK (K:=K)) jt (by rfl) B.tuple iT ?_)|(refine' jc call_int1 mc_int1 (by rfl) B.int Bp ?_)|(refine' gq vR Cg (by rfl) B.abs BJ ?_)|(refine' gq (lU (K:=K) rfl) qU (by rfl) B.all qP ?_)|(refine' iY ?_)|(refine' Do (by assumption) hr ?_)|(refine' kU (j3 (K:=K)) mh (by rfl) B.list kM ?_)|(refine' zM ?_)|(refine' GE ?_ ?_)|(refine' HS ?_ ?_)|(refine' uM ?_ ?_)|(refine' sS ?_)|(refine' Bj ?_))
section
variable {P:Program}{w:World}{K:W.Frag}{mg:Str->Option Value}{base:Heap}{c:Cs}(Z:Zx P w K mg base)(B:Bs mg)(ER:Er c K mg)
include Z B ER
theorem o0(D:fJ K mg "is_whole" (gy 11)):CP Z "is_whole" 1 (gY c):=jz Z 0 (gY c) ["thing"] ["thing"] rfl D λnd hX hr=>⟨_,(fG (gU (uM (mw "int" (by decide) B.isinstance B.int Bp (fI 0)) (sS (Bj (mw "bool" (by decide) B.isinstance B.bool Dy (fI 0)))))))⟩
theorem o1(D:fJ K mg "sign_of" (gy 13)):CP Z "sign_of" 1 (kc c):=jz Z 0 (kc c) ["number"] ["number"] rfl D λnd hX hr=>⟨_,(fz (gx (gB Dk C0 (fI 0) gL) 'x' fY) (fz (gx (gB rR rP (fI 0) gL) 'x' fY) 'x'))⟩
theorem o2(D:fJ K mg "common_divisor" (gy 14)):CP Z "common_divisor" 1 (gR c):=jz Z 0 (gR c) ["one","other","rest"] ["one","other"] rfl D λnd hX hr=>⟨_,(fz (BN (λρ=>match ρ with|_::some (.p (.int j))::_=>j.natAbs+1|_=>0) PassesOwn.never 'x' 'x') (fG (gU (gq vR Cg (by rfl) B.abs BJ 'x'))))⟩
theorem o3(D:fJ K mg "less" (gy 25)):CP Z "less" 1 (jM c):=jz Z 0 (jM c) ["one","other"] ["one","other"] rfl D λnd hX hr=>⟨_,(fG (gU (yC rR rP 'x' 'x')))⟩
theorem o4(D:fJ K mg "floor_of" (gy 26)):CP Z "floor_of" 1 (jX c):=jz Z 0 (jX c) ["one"] ["one"] rfl D λnd hX hr=>⟨_, 'x'⟩
theorem o5(D:fJ K mg "ceiling_of" (gy 27)):CP Z "ceiling_of" 1 (jC c):=jz Z 0 (jC c) ["one"] ["one"] rfl D λnd hX hr=>⟨_, 'x'⟩
theorem o6(D:fJ K mg "weighted" (gy 29)):CF Z "weighted" 1 (mQ c):=tU Z 0 (mQ c) ["cuts","rows","k","cut","weights"] ["cuts"] rfl D λnd hX hr=>⟨_,(fz 'x' (fz (iV PassesOwn.never rfl (J8 B.enumerate 'x') (qQ 2 rfl (iN (ie 2 nd) (iN (ie 3 nd) mR))) (fz (nS 4 nd (HS 'x' (gq (ia (K:=K)) jO (by rfl) B.len jN 'x'))) (fz (uH 4 (pv 4) (fI 2) gL) (fG (Ia 1 (pv 1) (uU (fI 3) (jc (iK (K:=K)) jt (by rfl) B.tuple iT 'x'))))))) (fG (rN 1 (pv 1)))))⟩
theorem o7(D:fJ K mg "free_places" (gy 33)):CF Z "free_places" 1 (kJ c):=tU Z 0 (kJ c) ["pivots","dims","taken"] ["pivots","dims"] rfl D λnd hX hr=>⟨_,(fz (ij 2 nd (iY (i8 ["place","pivot"] [none,none] hX (gK (fI 0)) (λnd hX=>⟨(nI 2 rfl (gW (iD 0 nd) (gW (iD 1 nd) kK))),iA,(fI 0)⟩)))) (fG (rK (i8 ["place","taken"] [none,some 2] hX (Cp.pim (ni B.range 'x')) (λnd hX=>⟨(iD 0 nd),(lh (gB (Fo (K:=K)) (Qg true) (fI 0) (fI 1) (by rfl))),(fI 0)⟩)))))⟩
theorem o8(D:fJ K mg "turned" (gy 43)):CP Z "turned" 1 (mW c):=jz Z 0 (mW c) ["row","sign"] ["row","sign"] rfl D λnd hX hr=>⟨_,(fG (gU (jc (iK (K:=K)) jt (by rfl) B.tuple iT (fN (iY (i8 ["number","sign"] [none,some 1] hX (gK (fI 0)) (λnd hX=>⟨(iD 0 nd),iA, 'x'⟩))) gQ))))⟩
theorem o9(D:fJ K mg "first_place" (gy 85)):CP Z "first_place" 1 (kL c):=jz Z 0 (kL c) ["cut","place"] ["cut"] rfl D λnd hX hr=>⟨_,(fz (ij 1 nd gL) (fz (BN (λρ=>match ρ with|some (.p (.tup ts))::_=>ts.length+1|_=>0) PassesOwn.never 'x' 'x') 'x'))⟩
theorem Tf(D:jK K c.Cutting "dims" "Cutting.dims" (l5 (gy 90) 1)):ji P w K mg base c.Cutting "dims" 1 (qc K (iy c)):=IP Z 0 (iy c) ["self"] ["self"] rfl ER.cl_Cutting D λnd a hr=>⟨_,(fG (gU (vH rfl ER.cl_Cutting ER.na_Cutting_own_dims (fI 0))))⟩
theorem Se(D:jK K c.Cutting "cuts" "Cutting.cuts" (l5 (gy 90) 2)):ji P w K mg base c.Cutting "cuts" 1 (Ba K (iz c)):=Nh Z 0 (iz c) ["self"] ["self"] rfl ER.cl_Cutting D λnd a hr=>⟨_,(fG (rK (kU (j3 (K:=K)) mh (by rfl) B.list kM (fN (vH rfl ER.cl_Cutting ER.na_Cutting_own_cuts (fI 0)) gQ))))⟩
theorem R4(D:jK K c.Cutting "many" "Cutting.many" (l5 (gy 90) 3)):ji P w K mg base c.Cutting "many" 1 (qc K (iJ c)):=IP Z 0 (iJ c) ["self"] ["self"] rfl ER.cl_Cutting D λnd a hr=>⟨_,(fG (gU (gq (ia (K:=K)) jO (by rfl) B.len jN (fN (vH rfl ER.cl_Cutting ER.na_Cutting_own_cuts (fI 0)) gQ))))⟩
theorem SR(D:fJ K mg "_law_cell_at" (gy 100)):CP Z "_law_cell_at" 1 (gZ c):=jz Z 0 (gZ c) ["_law_script","_law_k"] ["_law_script","_law_k"] rfl D λnd a hr=>⟨_,(fz (gx (gB rR rP (fI 1) (gq (ia (K:=K)) jO (by rfl) B.len jN 'x')) 'x' fY) 'x')⟩
theorem SB(D:fJ K mg "_law_draw" (gy 101)):CP Z "_law_draw" 1 (f7 c):=jz Z 0 (f7 c) ["_law_cell","_law_k","_law_bound","_law_left","_law_j","_law_stir"] ["_law_cell","_law_k","_law_bound"] rfl D λnd a hr=>⟨_,(fz (gx (gB xS yg (fI 0) (B7 gL gL)) (fz 'x' (fz (pD PassesOwn.never rfl (ni B.range 'x') (ie 4 nd) 'x') 'x')) fY) 'x')⟩
theorem Ta(D:fJ K mg "_law_same" (gy 102)):CP Z "_law_same" 1 (kS c):=jz Z 0 (kS c) ["_law_one","_law_other","_law_k","_law_j"] ["_law_one","_law_other"] rfl D λnd a hr=>⟨_,(fz (pD PassesOwn.never rfl (ni B.range (fN (gq (ia (K:=K)) jO (by rfl) B.len jN 'x') gQ)) (ie 2 nd) (fG (pD PassesOwn.never rfl (ni B.range 'x') (ie 3 nd) 'x'))) 'x')⟩
theorem SY(D:fJ K mg "lowest" (gy 16))(b:CP Z "common_divisor" 1 (gR c)):CP Z "lowest" 2 (pF c):=jz Z 1 (pF c) ["row","divisor","number"] ["row"] rfl D λnd a hr=>⟨_,(fz (ij 1 nd gL) (fz (iV PassesOwn.never rfl (gK (fI 0)) (ie 2 nd) 'x') (fz 'x' (fG (gU (jc (iK (K:=K)) jt (by rfl) B.tuple iT (fN (iY (i8 ["number","divisor"] [none,some 1] a (gK (fI 0)) (λnd a=>⟨(iD 0 nd),iA, 'x'⟩))) gQ)))))))⟩
theorem SN(D:fJ K mg "made" (gy 19))(a:CP Z "common_divisor" 1 (gR c)):CP Z "made" 2 (oI c):=jz Z 1 (oI c) ["top","bottom","divisor"] ["top","bottom"] rfl D λnd b hr=>⟨_,(fz 'x' (fz 'x' (fz (gx (gB rR rP (fI 1) gL) 'x' fY) 'x')))⟩
theorem Ss(D:fJ K mg "is_fraction" (gy 20))(d:CP Z "is_whole" 1 (gY c))(a:CP Z "common_divisor" 1 (gR c)):CP Z "is_fraction" 2 (kH c):=jz Z 1 (kH c) ["thing"] ["thing"] rfl D λnd b hr=>⟨_,(fz (gx (pU (nA (lu (pQ (mw "tuple" (by decide) B.isinstance B.tuple iT (fI 0)))) (l6 (sV hr (gq (ia (K:=K)) jO (by rfl) B.len jN 'x') gL)))) 'x' fY) (fz 'x' (fG (gU (uM (yC xS yg 'x' gL) (sS (Ay hr 'x' gL)))))))⟩
theorem Tc(D:fJ K mg "is_signs" (gy 39))(b:CP Z "is_whole" 1 (gY c)):CP Z "is_signs" 2 (i7 c):=jz Z 1 (i7 c) ["many","thing"] ["many","thing"] rfl D λnd a hr=>⟨_,(fz (gx (pU (nA (lu (pQ (mw "tuple" (by decide) B.isinstance B.tuple iT (fI 1)))) (l6 (sV hr (gq (ia (K:=K)) jO (by rfl) B.len jN 'x') (fI 0))))) 'x' fY) (fG (gU (gq (lU (K:=K) rfl) qU (by rfl) B.all qP (fN (iY (i8 ["sign"] [none] a (gK (fI 1)) (λnd a=>⟨(iD 0 nd),iA,(uM 'x' (sS (zV wQ vj wQ vj (ID gL) (fI 0) gL)))⟩))) gQ)))))⟩
theorem R1(D:fJ K mg "is_weights" (gy 41))(b:CP Z "is_whole" 1 (gY c)):CP Z "is_weights" 2 (mE c):=jz Z 1 (mE c) ["many","thing"] ["many","thing"] rfl D λnd a hr=>⟨_,(fz (gx (pU (nA (lu (pQ (mw "list" (by decide) B.isinstance B.list kM (fI 1)))) (l6 (sV hr (gq (ia (K:=K)) jO (by rfl) B.len jN 'x') (fI 0))))) 'x' fY) (fG (gU (gq (lU (K:=K) rfl) qU (by rfl) B.all qP (fN (iY (i8 ["weight"] [none] a (gK (fI 1)) (λnd a=>⟨(iD 0 nd),iA, 'x'⟩))) gQ)))))⟩
theorem Sx(D:fJ K mg "whole_between" (gy 47))(d:CP Z "floor_of" 1 (jX c))(a:CP Z "less" 1 (jM c))(e:CP Z "ceiling_of" 1 (jC c)):CP Z "whole_between" 2 (jd c):=jz Z 1 (jd c) ["low","high","whole"] ["low","high"] rfl D λnd b hr=>⟨_,(fz (ij 2 nd gL) (fz (gx (pU (nj (gB oq oy (fI 0) lE) (l9 (gB xS yg 'x' gL)))) 'x' (fG (gx (pU (nj (gB oq oy (fI 1) lE) (l9 (gB wQ vj 'x' gL)))) 'x' fY))) (fz (gx (pU (nj (gB oq oy (fI 0) lE) (l9 'x'))) 'x' fY) (fz (gx (pU (nj (gB oq oy (fI 1) lE) (l9 'x'))) 'x' fY) 'x'))))⟩
theorem R9(D:fJ K mg "paper_of_noughts" (gy 50))(a:CP Z "turned" 1 (mW c))(d:CP Z "sign_of" 1 (kc c)):CP Z "paper_of_noughts" 2 (ir c):=jz Z 1 (ir c) ["rests","dims","rest"] ["rests","dims"] rfl D λnd b hr=>⟨_,(fz (iV PassesOwn.never rfl (gK (fI 0)) (ie 2 nd) (fG (gx 'x' (fG (gU (iY (kU (j3 (K:=K)) mh (by rfl) B.list kM 'x')))) fY))) 'x')⟩
theorem SO(D:fJ K mg "is_dims" (gy 82))(b:CP Z "is_whole" 1 (gY c)):CP Z "is_dims" 2 (mK c):=jz Z 1 (mK c) ["thing"] ["thing"] rfl D λnd a hr=>⟨_,(fG (gU (uM 'x' (sS (zV wQ vj wQ vj gL (fI 0) (AS 3 ER.k_MOST_DIMS))))))⟩
theorem Si(D:fJ K mg "is_cut" (gy 84))(b:CP Z "is_whole" 1 (gY c)):CP Z "is_cut" 2 (og c):=jz Z 1 (og c) ["dims","thing"] ["dims","thing"] rfl D λnd a hr=>⟨_,(fz (gx (pU (nA (lu (pQ (mw "tuple" (by decide) B.isinstance B.tuple iT (fI 1)))) (l6 (sV hr (gq (ia (K:=K)) jO (by rfl) B.len jN 'x') 'x')))) 'x' fY) (fz (gx (lu (pQ (gq (lU (K:=K) rfl) qU (by rfl) B.all qP (fN (iY (i8 ["number"] [none] a (gK (fI 1)) (λnd a=>⟨(iD 0 nd),iA, 'x'⟩))) gQ)))) 'x' fY) (fG (gU (gq (xZ (K:=K) rfl) FX (by rfl) B.any HK (fN (iY (i8 ["number"] [none] a (gK 'x') (λnd a=>⟨(iD 0 nd),iA,(Qe hr (fI 0) gL)⟩))) gQ))))))⟩
theorem SF(D:fJ K mg "same_spots" (gy 86))(b:CP Z "first_place" 1 (kL c)):CP Z "same_spots" 2 (lK c):=jz Z 1 (lK c) ["one","other","place"] ["one","other"] rfl D λnd a hr=>⟨_,(fz 'x' (fG (gU (gq (lU (K:=K) rfl) qU (by rfl) B.all qP (fN (iY (i8 ["mine","theirs","other","place","one"] [none,none,some 1,some 2,some 0] a (l7 B.zip 'x') (λnd a=>⟨(nI 2 rfl (gW (iD 0 nd) (gW (iD 1 nd) kK))),iA,(Ay hr 'x' 'x')⟩))) gQ)))))⟩
theorem SA(D:fJ K mg "side_of" (gy 87))(b:CP Z "sign_of" 1 (kc c)):CP Z "side_of" 2 (nY c):=jz Z 1 (nY c) ["cut","spot","left","bottom","number","part"] ["cut","spot"] rfl D λnd a hr=>⟨_,(fz 'x' (fz (ij 3 nd gL) (fz (iV PassesOwn.never rfl (l7 B.zip 'x') (qQ 2 rfl (iN (ie 4 nd) (iN (ie 5 nd) mR))) 'x') 'x')))⟩
theorem Sf(D:fJ K mg "_law_cut" (gy 103))(b:CP Z "_law_draw" 1 (f7 c)):CP Z "_law_cut" 2 (mO c):=jz Z 1 (mO c) ["_law_cell","_law_dims","_law_ahead","_law_numbers","_law_c","_law_way","_law_far"] ["_law_cell","_law_dims","_law_ahead"] rfl D λnd a hr=>⟨_,(fz (uR ["_law_j","_law_cell"] [none,some 0] 3 nd a (Cp.pim (ni B.range 'x')) (λnd a=>⟨(iD 0 nd),iA, 'x'⟩) DF) (fz (gx 'x' (fG (uH 3 (pv 3) 'x' 'x')) fY) (fz 'x' (fz 'x' (fz (gx 'x' (fG (nS 3 nd (kU (j3 (K:=K)) mh (by rfl) B.list kM (fN (AJ (Dm (fI 2) (lG b hr (fN (fI 0) (fN gL (fN (gq (ia (K:=K)) jO (by rfl) B.len jN 'x') gQ))))) Gv (Ib (fI 1))) gQ)))) fY) (fz (gx 'x' (fG (wu 4 nd (gq (E8 (K:=K) rfl) NN (by rfl) B.sum NR (fN (iY (i8 ["_law_number","_law_part"] [none,none] a (l7 B.zip 'x') (λnd a=>⟨(nI 2 rfl (gW (iD 0 nd) (gW (iD 1 nd) kK))),iA, 'x'⟩))) gQ)))) fY) (fz (gx 'x' (fz (ij 6 nd (Ig (uU gL (lG b hr (fN (fI 0) (fN gL (fN (B7 gL gL) gQ))))) (Dm (iY (zM (fN gL (fN gL (fN (B7 gL gL) gQ))))) 'x'))) (fz (uR ["_law_number","_law_far"] [none,some 6] 3 nd a (gK (fI 3)) (λnd a=>⟨(iD 0 nd),iA, 'x'⟩) JK) 'x')) fY) (fG (gU (jc (iK (K:=K)) jt (by rfl) B.tuple iT 'x'))))))))))⟩
theorem SS(D:fJ K mg "_law_no_signs" (gy 108))(a:CP Z "_law_draw" 1 (f7 c)):CF Z "_law_no_signs" 2 (jY c):=tU Z 1 (jY c) ["_law_many","_law_cell","_law_good","_law_some","_law_at","_law_bad"] ["_law_many","_law_cell"] rfl D λnd b hr=>⟨_,(fz (ij 2 nd (yA 'x' (fI 0))) (fz (nS 3 nd (zM (fN lE (fN gL (fN yu (fN (iY (kU (j3 (K:=K)) mh (by rfl) B.list kM 'x')) (fN 'x' (fN 'x' (fN Nn (fN (yA 'x' 'x') 'x')))))))))) (fz 'x' (fz 'x' (fz (iV PassesOwn.never rfl (gK 'x') (ie 5 nd) (fG (pJ 3 (pv 3) 'x'))) 'x')))))⟩
theorem Sa(D:fJ K mg "cleared" (gy 17))(a:CP Z "lowest" 2 (pF c))(d:CP Z "sign_of" 1 (kc c)):CP Z "cleared" 3 (iu c):=jz Z 2 (iu c) ["row","other","place","often","other_often"] ["row","other","place"] rfl D λnd b hr=>⟨_,(fz 'x' (fz (ij 3 nd (gq vR Cg (by rfl) B.abs BJ 'x')) (fz 'x' (fG (gU (lG a hr (fN (jc (iK (K:=K)) jt (by rfl) B.tuple iT (fN (iY (i8 ["mine","theirs","often","other_often"] [none,none,some 3,some 4] b (l7 B.zip 'x') (λnd b=>⟨(nI 2 rfl (gW (iD 0 nd) (gW (iD 1 nd) kK))),iA, 'x'⟩))) gQ)) gQ)))))))⟩
theorem RZ(D:fJ K mg "minus" (gy 22))(a:CP Z "made" 2 (oI c)):CP Z "minus" 3 (rE c):=jz Z 2 (rE c) ["one","other"] ["one","other"] rfl D λnd b hr=>⟨_, 'x'⟩
theorem S7(D:fJ K mg "times" (gy 23))(a:CP Z "made" 2 (oI c)):CP Z "times" 3 (rO c):=jz Z 2 (rO c) ["one","other"] ["one","other"] rfl D λnd b hr=>⟨_, 'x'⟩
theorem Sd(D:fJ K mg "over" (gy 24))(a:CP Z "made" 2 (oI c)):CP Z "over" 3 (pI c):=jz Z 2 (pI c) ["one","other"] ["one","other"] rfl D λnd b hr=>⟨_, 'x'⟩
theorem Td(D:fJ K mg "check_signs" (gy 40))(b:CP Z "is_signs" 2 (i7 c))(a:ji P w K mg base c.Cutting "many" 1 (qc K (iJ c))):CE Z "check_signs" 3 (fZ c):=qo Z 2 (fZ c) ["cutting","thing"] ["cutting","thing"] rfl D λnd d hr=>⟨_,(fG (gx (lu (pQ (lG b hr (fN (wH a hr (fI 0)) 'x')))) (fG (yo ER.x_NoSigns.ns ER.x_NoSigns.ex)) fY))⟩
theorem Sj(D:fJ K mg "one_between" (gy 48))(e:CP Z "whole_between" 2 (jd c))(g:CP Z "floor_of" 1 (jX c)):CP Z "one_between" 3 (jF c):=jz Z 2 (jF c) ["low","high","floors","whole","floor","rest","over_rest","found"] ["low","high"] rfl D λnd f hr=>⟨_,(fz (gx (pU (nj (gB oq oy (fI 0) lE) (l9 'x'))) 'x' fY) (fz 'x' (fz 'x' (fz (BN (λd=>match d with|some (.p (.tup [_,.int a]))::some (.p (.tup [_,.int b]))::_=>a.natAbs+b.natAbs+2|_=>1) PassesOwn.never (gB zv zm (fI 3) lE) (fz 'x' (fz (pJ 2 (pv 2) (fI 4)) (fz 'x' (fz (ij 6 nd (LP 'x' lE 'x')) 'x'))))) (fz 'x' (fz (NH 2 (iV PassesOwn.never rfl (DH B.reversed 'x') (ie 4 nd) 'x')) 'x'))))))⟩
theorem Sn(D:fJ K mg "is_spot" (gy 83))(b:CP Z "is_fraction" 2 (kH c)):CP Z "is_spot" 3 (n8 c):=jz Z 2 (n8 c) ["dims","thing"] ["dims","thing"] rfl D λnd a hr=>⟨_,(fz (gx (pU (nA (lu (pQ (mw "tuple" (by decide) B.isinstance B.tuple iT (fI 1)))) (l6 (sV hr (gq (ia (K:=K)) jO (by rfl) B.len jN 'x') (fI 0))))) 'x' fY) (fG (gU (gq (lU (K:=K) rfl) qU (by rfl) B.all qP (fN (iY (i8 ["part"] [none] a (gK (fI 1)) (λnd a=>⟨(iD 0 nd),iA, 'x'⟩))) gQ)))))⟩
theorem SW(D:fJ K mg "can_stand" (gy 88))(d:CP Z "is_cut" 2 (og c))(b:CP Z "same_spots" 2 (lK c)):CP Z "can_stand" 3 (k9 c):=jz Z 2 (k9 c) ["dims","ahead","thing"] ["dims","ahead","thing"] rfl D λnd a hr=>⟨_,(fz (gx (pU (nA (gB xS yg (gq (ia (K:=K)) jO (by rfl) B.len jN 'x') (AS 7 ER.k_MOST_CUTS)) (l6 'x'))) 'x' fY) (fG (gU (Bj (gq (xZ (K:=K) rfl) FX (by rfl) B.any HK (fN (iY (i8 ["cut","thing"] [none,some 2] a (gK (fI 1)) (λnd a=>⟨(iD 0 nd),iA, 'x'⟩))) gQ))))))⟩
theorem SI(D:fJ K mg "_law_cuts" (gy 104))(e:CP Z "_law_cut" 2 (mO c))(b:CP Z "_law_cell_at" 1 (gZ c))(d:CP Z "_law_same" 1 (kS c)):CF Z "_law_cuts" 3 (m7 c):=tU Z 2 (m7 c) ["_law_script","_law_at","_law_dims","_law_many","_law_found","_law_k","_law_cut_here"] ["_law_script","_law_at","_law_dims","_law_many"] rfl D λnd a hr=>⟨_,(fz 'x' (fz (pD PassesOwn.never rfl (ni B.range 'x') (ie 5 nd) (fz 'x' (fG (gx (Gw hr (iY (i8 ["_law_other","_law_cut_here"] [none,some 6] a (gK (fI 4)) (λnd a=>⟨(iD 0 nd),(lh 'x'),(fI 0)⟩))) (iY (zM gQ))) (fG (pJ 4 (pv 4) (fI 6))) fY)))) (fG (rN 4 (pv 4)))))⟩
theorem Su(D:fJ K mg "settled" (gy 30))(a:CP Z "cleared" 3 (iu c)):CP Z "settled" 4 (kf c):=jz Z 3 (kf c) ["row","pivots","place","pivot"] ["row","pivots"] rfl D λnd b hr=>⟨_,(fz (iV PassesOwn.never rfl (gK (fI 1)) (qQ 2 rfl (iN (ie 2 nd) (iN (ie 3 nd) mR))) 'x') 'x')⟩
theorem SH(D:fJ K mg "with_pivot" (gy 31))(b:CP Z "cleared" 3 (iu c)):CF Z "with_pivot" 4 (jB c):=tU Z 3 (jB c) ["pivots","row","place"] ["pivots","row","place"] rfl D λnd a hr=>⟨_,(fG (rK (GE (iY (i8 ["other_place","pivot","row","place"] [none,none,some 1,some 2] a (gK (fI 0)) (λnd a=>⟨(nI 2 rfl (gW (iD 0 nd) (gW (iD 1 nd) kK))),iA, 'x'⟩))) 'x')))⟩
theorem S9(D:fJ K mg "left_for" (gy 35))(b:CP Z "minus" 3 (rE c))(a:CP Z "times" 3 (rO c)):CP Z "left_for" 4 (j8 c):=jz Z 3 (j8 c) ["row","parts","left","number","part"] ["row","parts"] rfl D λnd d hr=>⟨_,(fz (ij 2 nd (B4 (fN (Dm (fI 0) (gq (ia (K:=K)) jO (by rfl) B.len jN 'x')) 'x'))) (fz (iV PassesOwn.never rfl (l7 B.zip 'x') (qQ 2 rfl (iN (ie 3 nd) (iN (ie 4 nd) mR))) 'x') 'x'))⟩
theorem S2(D:fJ K mg "shadow" (gy 44))(b:CP Z "cleared" 3 (iu c)):CF Z "shadow" 4 (pK c):=tU Z 3 (pK c) ["rows","dims","place","most","told","row","one","other","joined"] ["rows","dims","place","most"] rfl D λnd a hr=>⟨_,(fz (Hz 4 nd) (fz (iV PassesOwn.never rfl (gK (fI 0)) (ie 5 nd) (fG (gx 'x' (fG (AD 4 hr (pv 4) (fI 5) Hi)) fY))) (fz (iV PassesOwn.never rfl (gK (iY (i8 ["row","place"] [none,some 2] a (gK (fI 0)) (λnd a=>⟨(iD 0 nd),(lh (gB Dk C0 'x' gL)),(fI 0)⟩)))) (ie 6 nd) (fG (iV PassesOwn.never rfl (gK (iY (i8 ["row","place"] [none,some 2] a (gK (fI 0)) (λnd a=>⟨(iD 0 nd),(lh (gB rR rP 'x' gL)),(fI 0)⟩)))) (ie 7 nd) (fz 'x' (fG (gx (gB wQ vj (gq (ia (K:=K)) jO (by rfl) B.len jN (fN (iY (i8 ["weight"] [none] a (gK 'x') (λnd a=>⟨(iD 0 nd),(lh 'x'),(fI 0)⟩))) gQ)) (fI 3)) (fG (AD 4 hr (pv 4) (fI 8) Hi)) fY)))))) (fG (IL 4 rfl B.list (pv 4))))))⟩
theorem Sz(D:fJ K mg "shows_none" (gy 54))(b:CE Z "check_signs" 3 (fZ c))(a:CP Z "is_weights" 2 (mE c))(d:ji P w K mg base c.Cutting "many" 1 (qc K (iJ c))):CE Z "shows_none" 4 (jr c):=qo Z 3 (jr c) ["cutting","signs","thing","dims","come_to"] ["cutting","signs","thing"] rfl D λnd e hr=>⟨_,(fz (gI (gC b hr gF 'x')) (nW (fz (gx (lu (pQ (lG a hr (fN (wH d hr (fI 0)) 'x')))) 'x' fY) mr)))⟩
theorem S5(D:fJ K mg "check_land" (gy 64))(a:CE Z "check_signs" 3 (fZ c)):CE Z "check_land" 4 (gE c):=qo Z 3 (gE c) ["cutting","signs"] ["cutting","signs"] rfl D λnd b hr=>⟨_,(fz (gI (gC a hr gF 'x')) mr)⟩
theorem So(D:fJ K mg "checked_cuts" (gy 89))(a:CP Z "is_dims" 2 (mK c))(b:CP Z "can_stand" 3 (k9 c)):CP Z "checked_cuts" 4 (ju c):=jz Z 3 (ju c) ["dims","things","ahead","thing"] ["dims","things"] rfl D λnd d hr=>⟨_,(fz (gx (pU (nA 'x' (l6 (lu (pQ (mw "list" (by decide) B.isinstance B.list kM (fI 1))))))) (fG yF) fY) (fz 'x' (fz (iV PassesOwn.never rfl (gK (fI 1)) (ie 3 nd) (fz 'x' (fG (pJ 2 (pv 2) (jc (iK (K:=K)) jt (by rfl) B.tuple iT 'x'))))) (fG (gU (jc (iK (K:=K)) jt (by rfl) B.tuple iT 'x'))))))⟩
theorem SX(D:jK K c.Cutting "sides" "Cutting.sides" (l5 (gy 90) 4))(a:CP Z "is_spot" 3 (n8 c))(d:CP Z "side_of" 2 (nY c)):ji P w K mg base c.Cutting "sides" 4 (qc K (iC c)):=IP Z 3 (iC c) ["self","spot"] ["self","spot"] rfl ER.cl_Cutting D λnd b hr=>⟨_,(fz (gx (lu (pQ (lG a hr (fN (vH rfl ER.cl_Cutting ER.na_Cutting_own_dims (fI 0)) 'x')))) (fG yF) fY) (fG (gU (jc (iK (K:=K)) jt (by rfl) B.tuple iT (fN (iY (i8 ["cut","spot"] [none,some 1] b (gK (vH rfl ER.cl_Cutting ER.na_Cutting_own_cuts (fI 0))) (λnd b=>⟨(iD 0 nd),iA, 'x'⟩))) gQ)))))⟩
theorem SG(D:fJ K mg "_law_drawn" (gy 105))(b:CP Z "_law_cell_at" 1 (gZ c))(a:CP Z "_law_draw" 1 (f7 c))(d:CF Z "_law_cuts" 3 (m7 c)):CP Z "_law_drawn" 4 (kz c):=jz Z 3 (kz c) ["_law_script","_law_at","_law_most","_law_cell","_law_dims","_law_many"] ["_law_script","_law_at","_law_most"] rfl D λnd e hr=>⟨_,(fz 'x' (fz 'x' (fz 'x' (fz (gx 'x' (fG (ij 5 nd (gq (Fk rfl) KZ (by rfl) B.min Nr 'x'))) fY) 'x'))))⟩
theorem SD(D:fJ K mg "pivots_and_rests" (gy 32))(b:CP Z "settled" 4 (kf c))(d:CF Z "with_pivot" 4 (jB c)):CP Z "pivots_and_rests" 5 (gX c):=jz Z 4 (gX c) ["rows","dims","pivots","rests","row","left","places"] ["rows","dims"] rfl D λnd a hr=>⟨_,(fz 'x' (fz 'x' (fz (iV PassesOwn.never rfl (gK (fI 0)) (ie 4 nd) (fz 'x' (fz (uR ["place","left"] [none,some 5] 6 nd a (Cp.pim (ni B.range 'x')) (λnd a=>⟨(iD 0 nd),(lh 'x'),(fI 0)⟩) wI) (fG (gx 'x' (fG (pJ 3 (pv 3) (fI 5))) 'x'))))) 'x')))⟩
theorem SM(D:fJ K mg "filled" (gy 36))(b:CP Z "over" 3 (pI c))(a:CP Z "left_for" 4 (j8 c)):CP Z "filled" 5 (pN c):=jz Z 4 (pN c) ["pivots","parts","spot","place","pivot"] ["pivots","parts"] rfl D λnd d hr=>⟨_,(fz (nS 2 nd (kU (j3 (K:=K)) mh (by rfl) B.list kM 'x')) (fz (iV PassesOwn.never rfl (gK (fI 0)) (qQ 2 rfl (iN (ie 3 nd) (iN (ie 4 nd) mR))) (fG (uH 2 (pv 2) (fI 3) 'x'))) (fG (gU (jc (iK (K:=K)) jt (by rfl) B.tuple iT 'x')))))⟩
theorem SE(D:fJ K mg "shadows" (gy 45))(a:CF Z "shadow" 4 (pK c)):CF Z "shadows" 5 (nT c):=tU Z 4 (nT c) ["rows","dims","places","pivots","layers","place","most"] ["rows","dims","places","pivots"] rfl D λnd b hr=>⟨_,(fz 'x' (fz (iV PassesOwn.never rfl (gK (fI 2)) (ie 5 nd) (fz (wu 6 nd (uU (uU (gq (ia (K:=K)) jO (by rfl) B.len jN 'x') gL) (gq (ia (K:=K)) jO (by rfl) B.len jN 'x'))) (fG (EG 4 (pv 4) 'x')))) (fG (rN 4 (pv 4)))))⟩
theorem SU(D:fJ K mg "ends_at" (gy 46))(b:CP Z "over" 3 (pI c))(a:CP Z "left_for" 4 (j8 c))(d:CP Z "less" 1 (jM c)):CP Z "ends_at" 5 (mM c):=jz Z 4 (mM c) ["rows","place","parts","low","high","row","end"] ["rows","place","parts"] rfl D λnd e hr=>⟨_,(fz (ij 3 nd lE) (fz (ij 4 nd lE) (fz (iV PassesOwn.never rfl (gK (fI 0)) (ie 5 nd) (fG (gx 'x' (fz 'x' (fz (gx (pU (nj (gB Dk C0 'x' gL) (l9 (pU (nA (gB zv zm (fI 3) lE) (l6 'x')))))) 'x' fY) (fG (gx (pU (nj (gB rR rP 'x' gL) (l9 (pU (nA (gB zv zm (fI 4) lE) (l6 'x')))))) 'x' fY)))) fY))) 'x')))⟩
theorem Te(D:fJ K mg "number_of" (gy 65))(a:CE Z "check_land" 4 (gE c)):CE Z "number_of" 5 (kG c):=qo Z 4 (kG c) ["cutting","signs"] ["cutting","signs"] rfl D λnd b hr=>⟨_,(fz (gI (gC a hr gF 'x')) mr)⟩
theorem Sw(D:fJ K mg "reach" (gy 74))(a:CE Z "check_land" 4 (gE c)):CE Z "reach" 5 (nZ c):=qo Z 4 (nZ c) ["cutting","signs","dims","rows","stops","place","layers","sign","stop"] ["cutting","signs"] rfl D λnd b hr=>⟨_,(fz (gI (gC a hr gF 'x')) mr)⟩
theorem Sl(D:fJ K mg "shows_bounded" (gy 75))(a:CE Z "check_land" 4 (gE c)):CE Z "shows_bounded" 5 (je c):=qo Z 4 (je c) ["cutting","signs","thing","dims","cuts","come_to"] ["cutting","signs","thing"] rfl D λnd b hr=>⟨_,(fz (gI (gC a hr gF 'x')) mr)⟩
theorem SV(D:fJ K mg "shows_far" (gy 77))(a:CE Z "check_land" 4 (gE c)):CE Z "shows_far" 5 (kD c):=qo Z 4 (kD c) ["cutting","signs","thing"] ["cutting","signs","thing"] rfl D λnd b hr=>⟨_,(fz (gI (gC a hr gF 'x')) mr)⟩
theorem SZ(D:fJ K mg "box" (gy 78))(a:CE Z "check_land" 4 (gE c)):CE Z "box" 5 (rk c):=qo Z 4 (rk c) ["cutting","signs","dims","rows","noughts"] ["cutting","signs"] rfl D λnd b hr=>⟨_,(fz (gI (gC a hr gF 'x')) mr)⟩
theorem S4(D:jK K c.Cutting "__init__" "Cutting.__init__" (l5 (gy 90) 0))(a:CP Z "checked_cuts" 4 (ju c)):Eb P w K mg base "Cutting" c.Cutting 5 (BD K c.Cutting (jq c)):=Ri Z 4 (jq c) ["self","dims","cuts"] rfl ER.cl_Cutting ER.na_Cutting_own_cuts ER.na_Cutting_own_dims ER.mk_Cutting ER.kp_Cutting ER.mg_Cutting D λhr=>RJ rfl (pv 0) (lG a hr (fN (fI 1) (fN (fI 2) gQ))) (pv 0) (fI 1)
theorem Sy(D:fJ K mg "rank" (gy 34))(a:CP Z "pivots_and_rests" 5 (gX c)):CP Z "rank" 6 (v5 c):=jz Z 5 (v5 c) ["rows","dims"] ["rows","dims"] rfl D λnd b hr=>⟨_,(fG (gU (gq (ia (K:=K)) jO (by rfl) B.len jN 'x')))⟩
theorem S3(D:fJ K mg "parts_within" (gy 49))(a:CP Z "ends_at" 5 (mM c))(b:CP Z "one_between" 3 (jF c)):CF Z "parts_within" 6 (j6 c):=tU Z 5 (j6 c) ["layers","places","parts","chosen","number","place","ends"] ["layers","places","parts"] rfl D λnd d hr=>⟨_,(fz (nS 3 nd (kU (j3 (K:=K)) mh (by rfl) B.list kM 'x')) (fz (iV PassesOwn.never rfl (DH B.reversed (fN (iY (Qc rfl B.list B.enumerate 'x')) gQ)) (qQ 2 rfl (iN (ie 4 nd) (iN (ie 5 nd) mR))) (fz 'x' (fG (uH 3 (pv 3) (fI 5) 'x')))) (fG (rN 3 (pv 3)))))⟩
theorem Sv(D:fJ K mg "parts_or_weights" (gy 51))(j:CF Z "weighted" 1 (mQ c))(b:CP Z "pivots_and_rests" 5 (gX c))(e:CP Z "paper_of_noughts" 2 (ir c))(i:CF Z "free_places" 1 (kJ c))(d:CF Z "shadows" 5 (nT c))(f:CP Z "settled" 4 (kf c))(g:CP Z "filled" 5 (pN c))(k:CP Z "turned" 1 (mW c))(h:CF Z "parts_within" 6 (j6 c)):CP Z "parts_or_weights" 7 (iG c):=jz Z 6 (iG c) ["cuts","dims","signs","rows","found","paper","pivots","sided","places","layers","row"] ["cuts","dims","signs"] rfl D λnd a hr=>⟨_,(fz 'x' (fz (ij 4 nd (lG b hr (fN (iY (i8 ["row","sign"] [none,none] a (l7 B.zip 'x') (λnd a=>⟨(nI 2 rfl (gW (iD 0 nd) (gW (iD 1 nd) kK))),(lh 'x'),(fI 0)⟩))) 'x'))) (fz 'x' (fz (gx (gB oq oy (fI 5) lE) 'x' fY) (fz 'x' (fz (uR ["row","sign","pivots"] [none,none,some 6] 7 nd a (l7 B.zip 'x') (λnd a=>⟨(nI 2 rfl (gW (iD 0 nd) (gW (iD 1 nd) kK))),(lh 'x'), 'x'⟩) wI) (fz 'x' (fz 'x' (fz (iV PassesOwn.never rfl (gK 'x') (ie 10 nd) (fG (gx (gB xS yg 'x' gL) (fG (gU (B4 (fN yu (fN (iY (kU (j3 (K:=K)) mh (by rfl) B.list kM 'x')) gQ))))) fY))) 'x')))))))))⟩
theorem S0(D:fJ K mg "held" (gy 52))(d:CE Z "check_signs" 3 (fZ c))(b:CP Z "parts_or_weights" 7 (iG c))(e:ji P w K mg base c.Cutting "cuts" 1 (Ba K (iz c)))(a:ji P w K mg base c.Cutting "dims" 1 (qc K (iy c))):CE Z "held" 8 (mm c):=qo Z 7 (mm c) ["cutting","signs"] ["cutting","signs"] rfl D λnd f hr=>⟨_,(fz (gI (gC d hr gF 'x')) (nW (fG (gU (lG b hr (fN (iY (Hr e hr (fI 0))) (fN (wH a hr (fI 0)) 'x')))))))⟩
theorem S6(D:fJ K mg "face_spot" (gy 92))(a:CE Z "held" 8 (mm c)):CE Z "face_spot" 9 (gz c):=qo Z 8 (gz c) ["cutting","signs","answer"] ["cutting","signs"] rfl D λnd b hr=>⟨_,(fz (ij 2 nd (gC a hr gF 'x')) (fz (gx 'x' (fG (yo ER.x_NoFace.ns ER.x_NoFace.ex)) fY) (nW 'x')))⟩
theorem SL(D:fJ K mg "check_faces" (gy 93))(a:CE Z "face_spot" 9 (gz c)):CE Z "check_faces" 10 (iq c):=qo Z 9 (iq c) ["cutting","one","other"] ["cutting","one","other"] rfl D λnd b hr=>⟨_,(fz (gI (gC a hr gF 'x')) (fG (gI (gC a hr gF 'x'))))⟩
theorem SJ(D:fJ K mg "face_dims" (gy 94))(b:CE Z "face_spot" 9 (gz c))(a:ji P w K mg base c.Cutting "dims" 1 (qc K (iy c)))(e:CP Z "rank" 6 (v5 c))(d:ji P w K mg base c.Cutting "cuts" 1 (Ba K (iz c))):CE Z "face_dims" 10 (jJ c):=qo Z 9 (jJ c) ["cutting","signs","noughts"] ["cutting","signs"] rfl D λnd f hr=>⟨_,(fz (gI (gC b hr gF 'x')) (nW (fz (uR ["cut","sign"] [none,none] 2 nd f (l7 B.zip (fN (iY (Hr d hr (fI 0))) 'x')) (λnd f=>⟨(nI 2 rfl (gW (iD 0 nd) (gW (iD 1 nd) kK))),(lh 'x'),(fI 0)⟩) wI) (fG (gU (Gf (wH a hr (fI 0)) (lG e hr (fN (fI 2) (fN (wH a hr (fI 0)) gQ)))))))))⟩
theorem Sk(D:fJ K mg "between" (gy 98))(a:CE Z "face_spot" 9 (gz c)):CE Z "between" 10 (kZ c):=qo Z 9 (kZ c) ["cutting","one","other","k","one_spot","other_spot"] ["cutting","one","other","k"] rfl D λnd b hr=>⟨_,(fz (ij 4 nd (gC a hr gF 'x')) (fz (ij 5 nd (gC a hr gF 'x')) mr))⟩
theorem R6(D:fJ K mg "beside" (gy 95))(a:CE Z "check_faces" 10 (iq c)):CE Z "beside" 11 (kQ c):=qo Z 10 (kQ c) ["cutting","one","other"] ["cutting","one","other"] rfl D λnd b hr=>⟨_,(fz (gI (gC a hr gF 'x')) (nW (fG (gU (jc (iK (K:=K)) jt (by rfl) B.tuple iT (fN (iY (i8 ["mine","theirs"] [none,none] b (l7 B.zip 'x') (λnd b=>⟨(nI 2 rfl (gW (iD 0 nd) (gW (iD 1 nd) kK))),iA,(LP 'x' (fI 1) (fI 0))⟩))) gQ))))))⟩
theorem S8(D:fJ K mg "at_edge" (gy 96))(a:CE Z "check_faces" 10 (iq c)):CE Z "at_edge" 11 (j7 c):=qo Z 10 (j7 c) ["cutting","one","other"] ["cutting","one","other"] rfl D λnd b hr=>⟨_,(fz (gI (gC a hr gF 'x')) (nW (fG (gU (gq (lU (K:=K) rfl) qU (by rfl) B.all qP (fN (iY (i8 ["mine","theirs"] [none,none] b (l7 B.zip 'x') (λnd b=>⟨(nI 2 rfl (gW (iD 0 nd) (gW (iD 1 nd) kK))),iA,(Pg (Ay hr (fI 0) gL) (sS (Ay hr (fI 0) (fI 1))))⟩))) gQ))))))⟩
theorem SC(D:fJ K mg "_law_ask" (gy 106))(j:CE Z "held" 8 (mm c))(k:CE Z "shows_none" 4 (jr c))(e:CE Z "number_of" 5 (kG c))(h:CE Z "reach" 5 (nZ c))(l:CE Z "shows_bounded" 5 (je c))(g:CE Z "shows_far" 5 (kD c))(f:CE Z "box" 5 (rk c))(a:CE Z "face_dims" 10 (jJ c))(b:CE Z "beside" 11 (kQ c))(i:CE Z "at_edge" 11 (j7 c))(d:CE Z "between" 10 (kZ c)):CE Z "_law_ask" 12 (j9 c):=qo Z 11 (j9 c) ["_law_way","_law_cutting","_law_thing","_law_good"] ["_law_way","_law_cutting","_law_thing","_law_good"] rfl D λnd m hr=>⟨_,(fG (gx 'x' (fG (gI (gC j hr gF 'x'))) (fG (gx 'x' (fG (gI (gC k hr gF 'x'))) (fG (gx 'x' (fG (gI (gC e hr gF 'x'))) (fG (gx 'x' (fG (gI (gC h hr gF 'x'))) (fG (gx 'x' (fG (gI (gC l hr gF 'x'))) (fG (gx 'x' (fG (gI (gC g hr gF 'x'))) (fG (gx 'x' (fG (gI (gC f hr gF 'x'))) (fG (gx 'x' (fG (gI (gC a hr gF 'x'))) (fG (gx (gB rR rP (fI 0) gL) (fG (gI (gC b hr gF 'x'))) (fG (gx (gB rR rP (fI 0) gL) (fG (gI (gC i hr gF 'x'))) (fG (gI (gC d hr gF 'x')))))))))))))))))))))))⟩
theorem S1(D:fJ K mg "_law_said" (gy 107))(f:CE Z "_law_ask" 12 (j9 c)):CP Z "_law_said" 13 (jE c):=Rq Z 12 (jE c) ["_law_way","_law_cutting","_law_thing","_law_good","_law_found","e","_law_odd"] ["_law_way","_law_cutting","_law_thing","_law_good"] rfl D λnd s hr=>⟨_,(EM (ij 4 nd yu) (Ge 5 nd ER.cut ER.hct (λp j r l=>(fG (gI (gC f hr l 'x')))) (λj h n o g b=>(pT (sU (i:=6) nd rfl (Or.inl rfl) (LR (pC (uY (K:=K) g b) rfl B.isinstance yV (i9 (pv 5) (i9 (Io (i9 (qj (v:=.ref c.NoFace) rfl ER.m_NoFace rfl) (i9 (qj (v:=.ref c.NoLand) rfl ER.m_NoLand rfl) (i9 (qj (v:=.ref c.NoNumber) rfl ER.m_NoNumber rfl) (i9 (qj (v:=.ref c.NoSpot) rfl ER.m_NoSpot rfl) mU))))) mU))) (Gh (FH (pC (uY (K:=K) g b) rfl B.isinstance yV (i9 (pv 5) (i9 (DD (v:=.ty "ValueError") rfl ER.val Oa rfl) mU))))))) (zf (sU (i:=4) nd rfl (Or.inl rfl) (Ae (PW.pt (G6 (Cj (pC (uY (K:=K) g b) rfl B.isinstance yV (i9 (pv 5) (i9 (qj (v:=.ref c.NoSigns) rfl ER.m_NoSigns rfl) mU)))) (Dp (IT (Cj (pv 6)))))) yU yU))))) 'x' (MY ER.x_NoSigns.su ER.x_NoFace.su (by decide)) (Nf (λh H D m q=>KS (Au rfl ER.x_NoSigns.xc (yQ ER.n_NoSigns_NoFace (yQ ER.n_NoSigns_NoLand (yQ ER.n_NoSigns_NoNumber (yQ ER.n_NoSigns_NoSpot rfl))))) (λ_ _=>NZ rfl ER.x_NoSigns.xc ER.x_NoSigns.va) λk e=>AI (Kx (CQ rfl ER.x_NoSigns.xc (AC _ _)) λ_ _=>KJ (K5 rfl)) λd a=>q _ d (by simp) rfl (f6.trans e a)) (λh H D m q=>Ly (Au rfl ER.x_NoFace.xc (Lo (AC _ _))) λk e=>AI (Gq (CQ rfl ER.x_NoFace.xc ER.n_NoFace_NoSigns)) λd a=>q _ d (by simp) rfl (f6.trans e a)))))⟩
theorem oL{e:Addr}{fd:FuncData}(D:Jr K "law" "law" (gy 109) e fd)(i:CP Z "_law_drawn" 4 (kz c))(a:Eb P w K mg base "Cutting" c.Cutting 5 (BD K c.Cutting (jq c)))(b:ji P w K mg base c.Cutting "sides" 4 (qc K (iC c)))(d:CF Z "_law_no_signs" 2 (jY c))(h:CP Z "_law_cell_at" 1 (gZ c))(g:CP Z "_law_said" 13 (jE c)):mv P w K mg base uD 14 e fd ["_law_script"] (qc K (sr c)):=PN Z 13 (sr c) ["_law_script","_law_dims","_law_cuts_here","_law_cutting","_law_good","_law_thing","_law_way"] ["_law_script"] rfl D λnd f hr=>⟨_,(fz (KN 'x' (qQ 2 rfl (iN (ie 1 nd) (iN (ie 2 nd) mR)))) (fz (ij 3 nd (Ql a hr 'x')) (fz (ij 4 nd (Qa b hr (fI 3) (fN (yA 'x' (fI 1)) gQ))) (fz (iV PassesOwn.never rfl (gK (iY (Do d hr (fN (gq (ia (K:=K)) jO (by rfl) B.len jN 'x') 'x')))) (ie 5 nd) (fG (pD PassesOwn.never rfl (ni B.range 'x') (ie 6 nd) 'x'))) (fG (gU (Ay hr (iY (i8 ["_law_way","_law_cutting","_law_good"] [none,some 3,some 4] f (gK 'x') (λnd f=>⟨(iD 0 nd),iA, 'x'⟩))) 'x')))))))⟩
end
def M5{l:W.OpenLaw}{w:World}{K:W.Frag}{h:Heap}{b:Str->Option Value}{c:Cs}{fa f:Addr}{oc kV z pm n ct:Vq}{od an:Option Addr}{Y:Array (Option Value)}(X:K.In h)(G:h.Ns mainGlobals b)(hfa:b "law" = some (.ref fa))
  (a:W.nsIn K mainGlobals "law" = some (some (.ref f))) (lk:K.lookup f=some ⟨oc,od,.func (W.fnOf "law" "law" (jg (gy 109)) (gJ (gy 109)) (fK (gy 109)) .none kV z pm an n ct),Y⟩) (cc:W.codeIn K n "law" = true) (kk:W.keepIn K (.ref f)=true)
  (B:Bs b) (ER:Er c K b) (LF:c.NoSigns≠c.NoFace->∀ns:LI,(sr c) [.scr ns]=.ok (.bl true)) (D0:fJ K b "is_whole" (gy 11)) (D1:fJ K b "sign_of" (gy 13)) (D2:fJ K b "common_divisor" (gy 14)) (D3:fJ K b "less" (gy 25)) (D4:fJ K b "floor_of" (gy 26)) (D5:fJ K b "ceiling_of" (gy 27)) (D6:fJ K b "weighted" (gy 29)) (D7:fJ K b "free_places" (gy 33)) (D8:fJ K b "turned" (gy 43)) (D9:fJ K b "first_place" (gy 85)) (D10:fJ K b "_law_cell_at" (gy 100)) (D11:fJ K b "_law_draw" (gy 101)) (D12:fJ K b "_law_same" (gy 102)) (L:fJ K b "lowest" (gy 16)) (D14:fJ K b "made" (gy 19)) (D15:fJ K b "is_fraction" (gy 20)) (D16:fJ K b "is_signs" (gy 39)) (D17:fJ K b "is_weights" (gy 41)) (N:fJ K b "whole_between" (gy 47)) (D19:fJ K b "paper_of_noughts" (gy 50)) (D20:fJ K b "is_dims" (gy 82)) (D21:fJ K b "is_cut" (gy 84)) (D22:fJ K b "same_spots" (gy 86)) (D23:fJ K b "side_of" (gy 87)) (D24:fJ K b "_law_cut" (gy 103)) (D25:fJ K b "_law_no_signs" (gy 108)) (Q:fJ K b "cleared" (gy 17)) (D27:fJ K b "minus" (gy 22)) (D28:fJ K b "times" (gy 23)) (D29:fJ K b "over" (gy 24)) (D30:fJ K b "check_signs" (gy 40)) (D31:fJ K b "one_between" (gy 48)) (D32:fJ K b "is_spot" (gy 83)) (D33:fJ K b "can_stand" (gy 88)) (D34:fJ K b "_law_cuts" (gy 104)) (I:fJ K b "settled" (gy 30)) (D36:fJ K b "with_pivot" (gy 31)) (D37:fJ K b "left_for" (gy 35)) (D38:fJ K b "shadow" (gy 44)) (D39:fJ K b "shows_none" (gy 54)) (D40:fJ K b "check_land" (gy 64)) (D41:fJ K b "checked_cuts" (gy 89)) (D42:fJ K b "_law_drawn" (gy 105)) (D43:fJ K b "pivots_and_rests" (gy 32)) (D44:fJ K b "filled" (gy 36)) (D45:fJ K b "shadows" (gy 45)) (D46:fJ K b "ends_at" (gy 46)) (D47:fJ K b "number_of" (gy 65)) (D48:fJ K b "reach" (gy 74)) (D49:fJ K b "shows_bounded" (gy 75)) (U:fJ K b "shows_far" (gy 77)) (D51:fJ K b "box" (gy 78)) (D52:fJ K b "rank" (gy 34)) (D53:fJ K b "parts_within" (gy 49)) (D54:fJ K b "parts_or_weights" (gy 51)) (D55:fJ K b "held" (gy 52)) (D56:fJ K b "face_spot" (gy 92)) (P:fJ K b "check_faces" (gy 93)) (D58:fJ K b "face_dims" (gy 94)) (D59:fJ K b "between" (gy 98)) (D60:fJ K b "beside" (gy 95)) (D61:fJ K b "at_edge" (gy 96)) (D62:fJ K b "_law_ask" (gy 106)) (D63:fJ K b "_law_said" (gy 107)) (M0:jK K c.Cutting "dims" "Cutting.dims" (l5 (gy 90) 1)) (M1:jK K c.Cutting "cuts" "Cutting.cuts" (l5 (gy 90) 2)) (M2:jK K c.Cutting "many" "Cutting.many" (l5 (gy 90) 3)) (M3:jK K c.Cutting "sides" "Cutting.sides" (l5 (gy 90) 4)) (M4:jK K c.Cutting "__init__" "Cutting.__init__" (l5 (gy 90) 0)) :
  ∃fd:FuncData,(∀(s:Shared) (v:Vq),BindsTo s fd ⟨[v],[]⟩ [("_law_script",v)])/\∀d:Heap,K.In d->d.Ns mainGlobals b->mv l.prog w K b d uD 14 fa fd ["_law_script"] (Ir K):=by
 have e:=hfa.symm.trans (W.mg_of X G a);cases e;refine⟨W.fnOf "law" "law" (jg (gy 109)) (gJ (gy 109)) (fK (gy 109)) .none kV z pm an n ct,?bnd,λd _ _=>?main⟩
 case main=>have Z:Zx l.prog w K b d:=⟨trivial⟩;have E:=o0 Z B ER D0;have O1:=o1 Z B ER D1;have O2:=o2 Z B ER D2;have O3:=o3 Z B ER D3;have O4:=o4 Z B ER D4;have O5:=o5 Z B ER D5;have O6:=o6 Z B ER D6;have O7:=o7 Z B ER D7;have O8:=o8 Z B ER D8;have O9:=o9 Z B ER D9;have D:=Tf Z B ER M0;have q:=Se Z B ER M1;have F:=R4 Z B ER M2;have m:=SR Z B ER D10;have p:=SB Z B ER D11;have O15:=Ta Z B ER D12;have O16:=SY Z B ER L O2;have j:=SN Z B ER D14 O2;have O18:=Ss Z B ER D15 E O2;have O19:=Tc Z B ER D16 E;have O20:=R1 Z B ER D17 E;have O21:=Sx Z B ER N O4 O3 O5;have O22:=R9 Z B ER D19 O8 O1;have O23:=SO Z B ER D20 E;have O24:=Si Z B ER D21 E;have O25:=SF Z B ER D22 O9;have O26:=SA Z B ER D23 O1;have O27:=Sf Z B ER D24 p;have S:=SS Z B ER D25 p;have k:=Sa Z B ER Q O16 O1;have O30:=RZ Z B ER D27 j;have O31:=S7 Z B ER D28 j;have A:=Sd Z B ER D29 j;have o:=Td Z B ER D30 O19 F;have O34:=Sj Z B ER D31 O21 O4;have O35:=Sn Z B ER D32 O18;have O36:=SW Z B ER D33 O24 O25;have O37:=SI Z B ER D34 O27 m O15;have C:=Su Z B ER I k;have O39:=SH Z B ER D36 k;have r:=S9 Z B ER D37 O30 O31;have O41:=S2 Z B ER D38 k;have E42:=Sz Z B ER D39 o O20 F;have g:=S5 Z B ER D40 o;have O44:=So Z B ER D41 O23 O36;have O45:=SX Z B ER M3 O35 O26;have O46:=SG Z B ER D42 m p O37;have x:=SD Z B ER D43 C O39;have O48:=SM Z B ER D44 A r;have O49:=SE Z B ER D45 O41;have R:=SU Z B ER D46 A r O3;have E51:=Te Z B ER D47 g;have E52:=Sw Z B ER D48 g;have E53:=Sl Z B ER D49 g;have E54:=SV Z B ER U g;have J:=SZ Z B ER D51 g;have O56:=S4 Z B ER M4 O44;have O57:=Sy Z B ER D52 x;have O58:=S3 Z B ER D53 R O34;have O59:=Sv Z B ER D54 O6 x O22 O7 O49 C O48 O8 O58;have u:=S0 Z B ER D55 o O59 q D;have i:=S6 Z B ER D56 u;have y:=SL Z B ER P i;have E63:=SJ Z B ER D58 i D O57 q;have E64:=Sk Z B ER D59 i;have E65:=R6 Z B ER D60 y;have E66:=S8 Z B ER D61 y;have E67:=SC Z B ER D62 u E42 E51 E52 E53 E54 J E63 E65 E66 E64;have H:=S1 Z B ER D63 E67;exact (oL Z B ER (B8 (st:=gy 109) lk cc kk) O46 O56 O45 S m H).imp (Ip λns _ _=>LF ER.ne ns)
 case bnd=>exact λs v=>.of_eq rfl
end K13
namespace PySem.Challenge.cw_cutlands_k13_signs_refused_holds
def tw6655221335936054020:0=0:=rfl
def tw6789571246539912619:0=0:=rfl
def tw16228534269299532803:0=0:=rfl
def tw15787326706926235745:0=0:=rfl
def tw7222259399358575708:0=0:=rfl
def tw11664734234483594249:0=0:=rfl
def tw16208163118837073149:0=0:=rfl
def tw3562243614126739277:0=0:=rfl
def tw3666868954359028393:0=0:=rfl
def tw7352714002648165683:0=0:=rfl
def tw8886983022462508393:0=0:=rfl
def tw17395478886461075070:0=0:=rfl
def tw12735656610121504007:0=0:=rfl
def tw15694510301512248937:0=0:=rfl
def tw16676443998422581653:0=0:=rfl
def tw16883173075407505089:0=0:=rfl
def tw5646060218745375696:0=0:=rfl
def tw5746163606707417344:0=0:=rfl
def tw987900326697432043:0=0:=rfl
def tw16887871219917500481:0=0:=rfl
def tw8947897678359367237:0=0:=rfl
def tw6261896327803679562:0=0:=rfl
def tw16866684936240600340:0=0:=rfl
def tw18299682009022461773:0=0:=rfl
def tw11158595686216897459:0=0:=rfl
def tw369974848816308934:0=0:=rfl
def tw6749911097903784569:0=0:=rfl
def tw15333957901957162527:0=0:=rfl
def tw1295437273947148830:0=0:=rfl
def tw14732940945482040061:0=0:=rfl
def tw9191393805570492366:0=0:=rfl
def tw2869275839792866661:0=0:=rfl
def tw12083601117731297224:0=0:=rfl
def tw3655658082576361927:0=0:=rfl
def tw7219156059814759737:0=0:=rfl
def tw1065577401911388963:0=0:=rfl
def tw6622342572991217358:0=0:=rfl
def tw8721160447254561900:0=0:=rfl
def tw15352953351955839245:0=0:=rfl
def tw12322339163356490634:0=0:=rfl
def tw11938651192574695601:0=0:=rfl
def tw6358030365146017602:0=0:=rfl
def tw3790682010683379656:0=0:=rfl
def tw17363921400777324210:0=0:=rfl
def tw18030190219612906596:0=0:=rfl
def tw5896261899815755913:0=0:=rfl
def tw6494289568049058136:0=0:=rfl
def tw108872502836545463:0=0:=rfl
def tw16693331626205917056:0=0:=rfl
def tw10277610158031060495:0=0:=rfl
def tw3243350588266572503:0=0:=rfl
def tw11789916189786270143:0=0:=rfl
def tw1305506354153667814:0=0:=rfl
def tw14084384386268998257:0=0:=rfl
def tw10902883299608803477:0=0:=rfl
def tw9224709397083838579:0=0:=rfl
def tw1376589502525185095:0=0:=rfl
def tw2331005294194806037:0=0:=rfl
def tw7608727468364838440:0=0:=rfl
def tw12192323371831392612:0=0:=rfl
def tw12137917394319895549:0=0:=rfl
def tw7653358843300494456:0=0:=rfl
def tw4478149233495447154:0=0:=rfl
def tw3713666779128266384:0=0:=rfl
def tw1943327497121109341:0=0:=rfl
def tw17234311500518348660:0=0:=rfl
def tw9385461605764349700:0=0:=rfl
def tw14667371775778732674:0=0:=rfl
def tw11254179817143217749:0=0:=rfl
def tw6731442376496311687:0=0:=rfl
def tw7799666344699018150:0=0:=rfl
def tw578957492020074133:0=0:=rfl
def tw4902326169171921589:0=0:=rfl
def tw9773140042635579524:0=0:=rfl
def tw4618644591975819670:0=0:=rfl
def tw12215786606626281995:0=0:=rfl
def tw11304190976875963885:0=0:=rfl
def tw16433441318453007199:0=0:=rfl
def tw4824260206901559278:0=0:=rfl
def tw17721215109196286419:0=0:=rfl
def tw11110781011330291930:0=0:=rfl
def tw6584239233992134804:0=0:=rfl
def tw4749155186975688295:0=0:=rfl
def tw8295266006822620089:0=0:=rfl
def tw12750221532297046267:0=0:=rfl
def tw5917732247484345324:0=0:=rfl
def tw3339177091953244756:0=0:=rfl
def tw869512703535080577:0=0:=rfl
def tw7747260784674953472:0=0:=rfl
def tw9985742552322694016:0=0:=rfl
def tw15887875129246872609:0=0:=rfl
def tw10024031762848388410:0=0:=rfl
def tw18320400991454467464:0=0:=rfl
def tw12434140206374353320:0=0:=rfl
def tw15038603557679916505:0=0:=rfl
def tw12498482497241334576:0=0:=rfl
def tw11764841385604419474:0=0:=rfl
def tw5276523600601137546:0=0:=rfl
def tw11056904956766019944:0=0:=rfl
def tw2915210227844470706:0=0:=rfl
def tw6261460115936886807:0=0:=rfl
def tw14007985403279840842:0=0:=rfl
def tw4219455665746166625:0=0:=rfl
def tw13675570657623161837:0=0:=rfl
def tw482622481032540106:0=0:=rfl
def tw10628656488494494876:0=0:=rfl
def tw10890889508362577432:0=0:=rfl
def tw16858006657187797233:0=0:=rfl
def tw17862321251727360033:0=0:=rfl
def tw9244772443934301964:0=0:=rfl
def tw4308157613950045241:0=0:=rfl
def tw17587898164300872144:0=0:=rfl
def tw6639200614417321017:0=0:=rfl
def tw12179230642066465800:0=0:=rfl
def tw7978118487724972406:0=0:=rfl
def tw2059092492649427990:0=0:=rfl
def tw8822389679134021854:0=0:=rfl
def tw2582238338240419521:0=0:=rfl
def tw18067389478865338092:0=0:=rfl
def tw4870657761156624703:0=0:=rfl
def tw1629712687322577138:0=0:=rfl
def tw4867234417511515930:0=0:=rfl
def tw846529008893387395:0=0:=rfl
def tw18299552999926914373:0=0:=rfl
def tw5544248189283277728:0=0:=rfl
def tw626306090747110045:0=0:=rfl
def tw7043515209689738491:0=0:=rfl
def tw8089187228914270812:0=0:=rfl
def tw8259452932542361992:0=0:=rfl
def tw14040059506898074183:0=0:=rfl
def tw275979656200396150:0=0:=rfl
def tw2089507313567841432:0=0:=rfl
def tw14171136155922884830:0=0:=rfl
def tw16338272600575881704:0=0:=rfl
def tw4727403697386936008:0=0:=rfl
def tw11482570721343675081:0=0:=rfl
def tw11233714078167304163:0=0:=rfl
def tw15145616728802199215:0=0:=rfl
def tw15257910873883944405:0=0:=rfl
def tw3031031769270103836:0=0:=rfl
def tw11364247805568655248:0=0:=rfl
def tw1674596755841659558:0=0:=rfl
def tw14841168923782488667:0=0:=rfl
def tw17423643691604622824:0=0:=rfl
def tw4195683467543298177:0=0:=rfl
def tw10764794283304662294:0=0:=rfl
def tw7198359331848643588:0=0:=rfl
def tw4662246789832772354:0=0:=rfl
def tw10871850603251258870:0=0:=rfl
def tw1176644340909065200:0=0:=rfl
def tw3550977469613556567:0=0:=rfl
def tw7866098691241373770:0=0:=rfl
def tw16144018734557246356:0=0:=rfl
def tw7537804037714380102:0=0:=rfl
def tw17004797511198023715:0=0:=rfl
def tw13404995627255185744:0=0:=rfl
def tw2178240150653074580:0=0:=rfl
def tw744248424172864701:0=0:=rfl
def tw18024217689162372952:0=0:=rfl
def tw11664366241903444833:0=0:=rfl
def tw5633102177817610868:0=0:=rfl
def tw17713974738598399233:0=0:=rfl
def tw7530217543152778688:0=0:=rfl
def tw5960462353689466480:0=0:=rfl
def tw4038164044780585336:0=0:=rfl
def tw988828510699566721:0=0:=rfl
def tw10871820367529284976:0=0:=rfl
def tw13904754852984716214:0=0:=rfl
def tw15732167803184968871:0=0:=rfl
def tw8892182149540115335:0=0:=rfl
def tw1104573976211963521:0=0:=rfl
def tw7586884918954490591:0=0:=rfl
def tw16158441982870973075:0=0:=rfl
def tw5962108460412177886:0=0:=rfl
def tw4131594644610174240:0=0:=rfl
def tw2719685221617955337:0=0:=rfl
def tw847403303128312614:0=0:=rfl
def tw8389754177420277842:0=0:=rfl
def tw13690057472116861477:0=0:=rfl
def tw13770818574545008378:0=0:=rfl
def tw5354018451821288663:0=0:=rfl
def tw12082590262770008412:0=0:=rfl
def tw3215973338386817729:0=0:=rfl
def tw5420488513365237281:0=0:=rfl
def tw4495291412202222444:0=0:=rfl
def tw17855156118572220221:0=0:=rfl
def tw10630155206814407338:0=0:=rfl
def tw6873006748595540007:0=0:=rfl
def tw9720709020520512039:0=0:=rfl
def tw9081636939218009996:0=0:=rfl
def tw15806239129489213163:0=0:=rfl
def tw14651655655646221370:0=0:=rfl
def tw5707426985285205324:0=0:=rfl
def tw4320453035782320340:0=0:=rfl
def tw1502603362418120652:0=0:=rfl
def tw6267070924831690043:0=0:=rfl
def tw10676370509929058074:0=0:=rfl
def tw3374925142679113115:0=0:=rfl
def tw8110822807840420365:0=0:=rfl
def tw2172006053685604066:0=0:=rfl
def tw7560243878141158305:0=0:=rfl
def tw18249885189854630317:0=0:=rfl
def tw4046639708752821122:0=0:=rfl
def tw245222963424405091:0=0:=rfl
def tw5555917625325169470:0=0:=rfl
def tw3119605902154743230:0=0:=rfl
def tw12562387426735357316:0=0:=rfl
def tw13099558457114397698:0=0:=rfl
def tw13370991530733745824:0=0:=rfl
def tw15166312165753421343:0=0:=rfl
def tw17853205696496713918:0=0:=rfl
def tw13046969993540118954:0=0:=rfl
def tw4860388668054013861:0=0:=rfl
def tw4487189917833287746:0=0:=rfl
def tw5693742949052840441:0=0:=rfl
def tw4620975801058515498:0=0:=rfl
def tw10892929980633106316:0=0:=rfl
def tw1630060026334570723:0=0:=rfl
def tw8383312436982376001:0=0:=rfl
def tw11577180142607213889:0=0:=rfl
def tw14241616869323578648:0=0:=rfl
def tw4965314683848800839:0=0:=rfl
def tw2984724134550655329:0=0:=rfl
def tw10087534764599791749:0=0:=rfl
def tw8608462976588802716:0=0:=rfl
def tw10854707967350122057:0=0:=rfl
def tw6506368933545696234:0=0:=rfl
def tw4235891106289202056:0=0:=rfl
def tw4090851871327578453:0=0:=rfl
def tw14496873101992823525:0=0:=rfl
def tw13107780843197327634:0=0:=rfl
def tw5557242909845695591:0=0:=rfl
def tw4363582502163797004:0=0:=rfl
def tw13788895547105338765:0=0:=rfl
end PySem.Challenge.cw_cutlands_k13_signs_refused_holds
open PySem PySem.W PyProof.Rows
set_option Elab.async true
theorem PySem.Challenge.cw_cutlands_k13_signs_refused_holds : PySem.Challenge.rw_cutlands_k13_signs_refused.Holds := by
 w_on;o_law;k_head;(case hw=>w_witness2);k_fill;refine L3.QO (l:=PySem.Challenge.rw_cutlands_k13_signs_refused) (k:=14) (x:= "_law_script") rfl ⟨rfl,by decide,by decide⟩ rfl (λw h Y=>PySem.W.kIn_of Y) ?F
 case F=>intro w mg fa h KX G hmg;refine' K13.M5 KX G hmg ?a ?l ?c ?k ?B ?E (λhc ns=>CL.Es hc ns) ?_ ?_ ?_ ?_ ?_ ?_ ?_ ?_ ?_ ?_ ?_ ?_ ?_ ?_ ?_ ?_ ?_ ?_ ?_ ?_ ?_ ?_ ?_ ?_ ?_ ?_ ?_ ?_ ?_ ?_ ?_ ?_ ?_ ?_ ?_ ?_ ?_ ?_ ?_ ?_ ?_ ?_ ?_ ?_ ?_ ?_ ?_ ?_ ?_ ?_ ?_ ?_ ?_ ?_ ?_ ?_ ?_ ?_ ?_ ?_ ?_ ?_ ?_ ?_ ?_ ?_ ?_ ?_ ?_;(case a=>k_is);(case l=>k_is);(case c=>k_is);(case k=>k_is);(case B=>constructor<;>(apply mg_none_of KX G;k_is));(case E=>apply K13.Qw KX G<;>first | k_is | k_exc | decide);all_goals first | (apply L2.NG KX G<;>k_is) | (apply K13.Pc<;>first | k_is | k_exc | decide)
