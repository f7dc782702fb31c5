import PyProof.Rows.All
import Wide.All
import OpenK.AllK
import Wide.FinOn
import Lean
import PyProof.EqAt
import PyProof.EqKinds
import PyProof.TupleCall
import PyProof.P3Eq
import PyProof.NeData
import PyProof.ConsumeWalk
import PyProof.Rows.SumAny
import PyProof.ZipIter
import PyProof.Rows.ZipGen
import PyProof.Rows.SeqMore
import PyProof.FactsAll.tuple
import PyProof.WalksMore
import PyProof.EnumMake
import PyProof.EnumFor
import PyProof.Rows.MinMaxN
import KE.KDictList
import KE.KRevIter
import KE.KItemsList
import PyProof.Rows.SortWalk
import PyProof.Rows.SetFrom
import PyProof.SetRoads
import PyProof.AttrMissHeap
import KE.KDictOf
import PyProof.ExcInit
import PyProof.ExcClass3
import PyProof.InstStoreFacts
import PyProof.Rows.ChunkEnd
import PySem.Challenge.RW_cutlands_k05_no_cuttings
set_option bootstrap.genMatcherCode false
set_option maxRecDepth 100000
set_option maxHeartbeats 0
set_option linter.all false
noncomputable section
set_option compiler.extract_closed false
set_option hygiene false
abbrev Oq:=@Option
abbrev Vq:=PySem.Value
abbrev Sq:=PySem.Shared
abbrev LI:=List Int
abbrev LL:=List LI
section
open PySem
def aa:=@List.getElem?_eq_some_iff
def ae:=@Heap.get?_push_of_some
def af:=@List.getD_eq_getElem?_getD
def ag:=@List.getElem?_eq_getElem
def ai:=@List.mem_append
def aj:=@List.mem_singleton
def ak:=@wpAny_pure
def ao:=@wpAny_bind
def aq:=@List.getElem?_set_ne
def ar:=@Heap.get?_push_size
def au:=@List.mem_of_getElem?
def av:=@List.getElem?_map
def aw:=@List.length_map
def ax:=@List.mem_append_left
def ay:=@List.length_cons
def aA:=@decide_eq_false
def aB:=@decide_eq_true
def aC:=@List.mem_map
def aD:=@Nat.lt_of_lt_of_le
def aE:=@List.mem_cons
def aF:=@Nat.zero_add
def aG:=@Bool.false_ne_true
def aH:=@List.map_map
def aJ:=@Nat.le_refl
def aK:=@Heap.lt_size
def aL:=@Nat.ne_of_lt
def aM:=@Nat.le_trans
def aN:=@Classical.byContradiction
def aP:=@if_pos
def aQ:=@if_neg
def aR:=@List.mem_range
def aS:=@List.length_append
def aT:=@List.mem_filter
def aU:=@List.getElem_mem
def aV:=@List.of_mem_zip
def aX:=@Int.natAbs_mul
def aY:=@List.map_append
def aZ:=@Nat.lt_irrefl
def bc:=@Array.append_assoc
def bf:=@Nat.le_of_lt
def bg:=@List.filterMap_cons
def bh:=@List.mem_cons_self
def bj:=@List.mem_cons_of_mem
def bo:=@Array.length_toList
def bp:=@Nat.ne_of_gt
def bq:=@List.mem_filterMap
def br:=@List.mem_append_right
def bt:=@List.size_toArray
def bu:=@List.map_cons
def bw:=@Nat.lt_succ_self
def bx:=@Nat.zero_le
def bz:=@List.append_nil
def bA:=@Nat.le_succ
def bB:=@List.nodup_cons
def bC:=@Option.isSome_iff_exists
def bD:=@List.length_take
def bE:=@List.take_sublist
def bF:=@List.length_replicate
def bG:=@Int.toNat_natCast
def bH:=@Bool.and_eq_true
def bJ:=@List.replicate_succ
def bK:=@List.flatten_cons
def bL:=@List.append_assoc
def bM:=@List.length_singleton
def bN:=@List.nil_append
def bO:=@Nat.mul_comm
def bP:=@List.forIn_cons
def bQ:=@Bool.false_eq_true
def bR:=@List.lookup_cons
def bS:=@Nat.le_of_succ_le
def bT:=@Nat.lt_succ_of_lt
def bU:=@List.forIn_nil
def bV:=@Nat.le_add_right
def bW:=@Nat.le_succ_of_le
def bX:=@List.range_succ_eq_map
def bY:=@List.all_cons
def bZ:=@List.all_map
def b4:=@List.take_of_length_le
def b5:=@List.all_eq_true
def b6:=@Int.toNat_of_nonneg
def b7:=@List.contains_cons
def b8:=@Int.mul_assoc
def b9:=@Int.mul_comm
def cf:=@List.lookup_cons_self
def cg:=@List.drop_eq_getElem_cons
def cj:=@List.mem_nil_iff
def ck:=@List.map_take
def cm:=@Nat.min_eq_left
def cn:=@List.drop_of_length_le
def cq:=@Int.fmod_nonneg_of_pos
def cu:=@Int.fmod_lt_of_pos
def cv:=@List.length_zip
def cw:=@Int.natAbs_add_le
def cx:=@List.mem_of_mem_take
def cy:=@Nat.mul_le_mul
def cz:=@Nat.lt_of_le_of_lt
def cA:=@List.pairwise_append
def cB:=@List.length_range
end
set_option Elab.async false
namespace L2
open PySem PySem.Spec PyProof.Rows
abbrev ke:=Sum Int Str
noncomputable def yO:ke->Value->Bool
 |.inl k,v=>Value.isInt k v
 |.inr x,v=>Value.isStrOf x v
def CT(w:World):ke->Int
 |.inl k=>hashInt k
 |.inr x=>hashStr w x
theorem dN:∀{k} {v},yO k v=true->(∃i t,k=Sum.inl i/\v=Value.int i t)\/(∃x t,k=Sum.inr x/\v=Value.str x t)
 |.inl i,v,h=>by obtain⟨t,e⟩:=Value.isInt_shape h;exact .inl ⟨i,t,rfl,e⟩
 |.inr x,v,h=>by obtain⟨t,e⟩:=Value.isStrOf_shape h;exact .inr ⟨x,t,rfl,e⟩
def zP a b:decide ((Sum.inl a:ke)=Sum.inl b)=(a==b):=by
 by_cases e:a=b
 .subst e;simp
 .have h:¬(Sum.inl a:ke)=Sum.inl b:=λq=>e (Sum.inl.inj q);rw[aA h];exact (beq_eq_false_iff_ne.mpr e).symm
def AI a b:decide ((Sum.inr a:ke)=Sum.inr b)=decide (a=b):=by
 by_cases e:a=b
 .subst e;simp
 .have h:¬(Sum.inr a:ke)=Sum.inr b:=λq=>e (Sum.inr.inj q);rw[aA h,aA e]
def zL a b:decide ((Sum.inl a:ke)=Sum.inr b)=false:=aA (λq=>nomatch q)
def zp a b:decide ((Sum.inr a:ke)=Sum.inl b)=false:=aA (λq=>nomatch q)
noncomputable def qW(prog:Program)(w:World):PySem.KeyKind prog w ke where
 is:=yO
 hash:=CT w
 inj:=λv a b g f=>by
  rcases dN g with⟨i,t,rfl,rfl⟩|⟨x,t,rfl,rfl⟩
  .rcases dN f with⟨j,u,rfl,e⟩|⟨y,u,rfl,e⟩
   .injection e with c _;rw[c]
   .exact nomatch e
  .rcases dN f with⟨j,u,rfl,e⟩|⟨y,u,rfl,e⟩
   .exact nomatch e
   .injection e with c _;rw[c]
 byValue:=λk v h=>by rcases dN h with⟨i,t,rfl,rfl⟩|⟨x,t,rfl,rfl⟩<;>rfl
 pyHash:=λd h=>by
  rcases dN d with⟨i,t,rfl,rfl⟩|⟨x,t,rfl,rfl⟩
  .exact wpAny_pyHash_int h
  .exact wpAny_pyHash_str h
 eqBool:=λl d h=>by
  rcases dN l with⟨i,t,rfl,rfl⟩|⟨x,t,rfl,rfl⟩
  .rcases dN d with⟨j,u,rfl,rfl⟩|⟨y,u,rfl,rfl⟩
   .rw[zP]at h;exact wpAny_eqBool_int h
   .rw[zL]at h;exact SeqAt.EqAt.int_str i t y u _ _ _ _ h
  .rcases dN d with⟨j,u,rfl,rfl⟩|⟨y,u,rfl,rfl⟩
   .rw[zp]at h;exact SeqAt.EqAt.str_int x t j u _ _ _ _ h
   .rw[AI]at h;exact wpAny_eqBool_str h
 «strs»:=λk x t v h=>by
  rcases dN h with⟨i,u,rfl,e⟩|⟨y,u,rfl,e⟩
  .exact nomatch e
  .injection e with c _;subst c;cases v<;>rfl
end L2
namespace L2
open PySem PySem.Spec PyProof.Rows
inductive V where
 |non|bl (b:Bool)|int (i:Int)|str (x:Str)|byt (b:Array UInt8)|flt (b:UInt64)|ref (a:Addr)|ty (n:String)
 deriving DecidableEq
def dC:V->Value->Prop
 |.non,u=>u=Value.none
 |.bl b,u=>u=Value.bool b
 |.int i,u=>∃t,u=Value.int i t
 |.str x,u=>∃t,u=Value.str x t
 |.byt b,u=>∃t,u=Value.bytes b t
 |.flt b,u=>∃t,u=Value.float b t
 |.ref a,u=>u=Value.ref a
 |.ty n,u=>u=Value.type n
abbrev c8:List V->List Value->Prop:=Paired dC
def c8.length(r:c8 xs us):xs.length=us.length:=Paired.length r
theorem c8.get:∀{a:List V} {us:List Vq} {i:Nat} {x:V},c8 a us->a[i]? = some x->∃u,us[i]? = some u/\dC x u
 |_,_,_,_,.nil,e=>by simp at e
 |_,_,0,_,.cons r _,e=>by simp at e;subst e;exact⟨_,rfl,r⟩
 |_,_,i+1,x,.cons _ t,e=>by obtain⟨u,b,c⟩:=c8.get t (by simpa using e);exact⟨u,by simpa using b,c⟩
theorem c8.set(r:dC x u):∀{xs} {us} i,c8 xs us->c8 (xs.set i x) (us.set i u)
 |_,_,_,.nil=>.nil
 |_,_,0,.cons _ t=>.cons r t
 |_,_,i+1,.cons q t=>.cons q (c8.set r i t)
theorem c8.append:∀{xs ys} {us ws},c8 xs us->c8 ys ws->c8 (xs++ys) (us++ws)
 |_,_,_,_,.nil,s=>s
 |_,_,_,_,.cons r t,s=>.cons r (c8.append t s)
theorem c8.take:∀{xs} {us} n,c8 xs us->c8 (xs.take n) (us.take n)
 |_,_,0,_=>.nil
 |_,_,_+1,.nil=>.nil
 |_,_,n+1,.cons r t=>.cons r (c8.take n t)
theorem c8.drop:∀{xs} {us} n,c8 xs us->c8 (xs.drop n) (us.drop n)
 |_,_,0,r=>r
 |_,_,_+1,.nil=>.nil
 |_,_,n+1,.cons _ t=>c8.drop n t
def nG:Oq V->Option Value->Prop
 |some v,some u=>dC v u
 |none,none=>True
 |_,_=>False
def KV{a:Type}:List (a×V)->List (a×Value)->Prop:=Paired λ(p:a×V) (q:a×Value)=>p.1=q.1/\dC p.2 q.2
def kV:ke->V
 |.inl i=>.int i
 |.inr x=>.str x
inductive HO where
 |lst (xs:List V)
 |tup (xs:List V)
 |dK (kvs:List (ke×V))|dT (kvs:List (List ke×V))
 |set (S:Int->Bool) (n:Nat)
 |ins (C dx:Addr) (fs:List (Str×V))
 |own (x:Addr)
 |xd (fs:List (Str×V))
 |met (f x:Addr)
 |rng (lo hi:Int)
 |frz (o:Obj) (u:HO)
 |tbl (ps:Array Vq)
 |ext (φ:Heap->Prop)
abbrev Hp:=Addr->Option HO
noncomputable def dB(H:Hp)(a:Addr)(o:HO):Hp:=λb=>if b=a then some o else H b
def cL:dB H a o a=some o:=by unfold dB;rw[aP rfl]
def cN(h:b≠a):dB H a o b=H b:=by unfold dB;rw[aQ h]
def cX{H:Hp}(h:H a=some o)(h':H b=none):a≠b:=by intro e;subst e;rw[h]at h';cases h'
section
variable (P:Program)(w:World)
def ls(h:Heap)(a:Addr)(b:Array Vq):Prop:=∃o,h.get? a=some o/\o.cls=.type "tuple" /\∃n,o.data=.seq b n/\o.dict=none
def ls.tup(x:ls h a items):IsTup h a items:=let ⟨o,e,c,n,d,_⟩:=x;⟨o,e,c,n,d⟩
def ls.new(h:Heap) items:ls (h.push {cls:=.type "tuple",data:=.seq items}) h.objs.size items:=⟨_,ar _ rfl,rfl,_,rfl,rfl⟩
def eY(H:Hp)(h:Heap)(a:Addr):HO->Prop
 |.lst c=>c.length<=sizeLine/\∃(b:List Vq) (n:Nat),c8 c b/\h.get? a=some {cls:=.type "list",data:=.seq b.toArray n}
 |.tup c=>c.length<=sizeLine/\∃b:List Vq,c8 c b/\ls h a b.toArray
 |.dK kvs=>kvs.length<=sizeLine/\(a==sysModules)=false/\∃vs,KV kvs vs/\h.DictOf (qW P w) a vs
 |.dT kvs=>kvs.length<=sizeLine/\(a==sysModules)=false/\∃c:List (List ke×Addr×Value),
   Paired (λ(p:List ke×V) (q:List ke×Addr×Value)=>p.1=q.1/\H q.2.1=some (.tup (p.1.map kV))/\dC p.2 q.2.2) kvs c/\
   ∃o g j,h.get? a=some o/\o.ExactDict/\o.data=.dict g j/\g.toList=c.map (entryOfKey (tupleKind (qW P w)))/\(c.map (·.1)).Nodup
 |.set S n=>h.SetOf (intKind P w) a S n
 |.ins C dx fs=>H dx=some (.own a)/\fs.length<=1000/\dx≠a/\h.get? a=some (W.instObj C dx)/\
   ∃d,h.Ns1 dx d/\(∀f,nG (fs.lookup f) (d f))/\PySem.Within d (fs.map (·.1))
 |.own _=>∃o,h.get? a=some o
 |.xd fs=>∃d,h.Ns1 a d/\∀f,nG (fs.lookup f) (d f)
 |.rng lo hi=>∃t u v,h.get? a=some {cls:=.type "range",data:=.fields #[.int lo t,.int hi u,.int 1 v]}
 |.frz o u=>h.get? a=some o/\eY H h a u
 |.tbl ps=>h.get? a=some {cls:=.none,data:=.fields ps}
 |.met f x=>h.get? a=some (W.methodObj (.ref f) (.ref x))
 |.ext φ=>φ h/\(∃o,h.get? a=some o)/\∀e i:Heap,φ e->(∀o,e.get? a=some o->i.get? a=some o)->φ i
def iW(H:Hp)(h:Heap):Prop:=∀a o,H a=some o->eY P w H h a o
end
section
variable {P:Program}{w:World}{H H':Hp}{h h':Heap}{a:Addr}{o:HO}
def eY.lt(x:eY P w H h a o):a<h.objs.size:=by
 cases o with
 |lst xs=>obtain⟨_,_,_,_,e⟩:=x;exact aK e
 |tup xs=>obtain⟨_,_,_,p⟩:=x;exact (ls.tup p).lt
 |dK kvs=>obtain⟨_,_,_,_,o,_,_,e,_⟩:=x;exact aK e
 |dT kvs=>obtain⟨_,_,_,_,o,_,_,e,_⟩:=x;exact aK e
 |set S n=>obtain⟨o,_,_,_,e,_⟩:=x;exact aK e
 |ins C dx fs=>obtain⟨_,_,_,e,_⟩:=x;exact aK e
 |own y=>obtain⟨_,e⟩:=x;exact aK e
 |xd fs=>obtain⟨_,⟨_,_,_,e,_⟩,_⟩:=x;exact aK e
 |rng lo hi=>obtain⟨_,_,_,e⟩:=x;exact aK e
 |frz ob u=>obtain⟨e,_⟩:=x;exact aK e
 |tbl ps=>exact aK (x)
 |met f y=>exact aK (x)
 |ext φ=>obtain⟨_,⟨_,e⟩,_⟩:=x;exact aK e
theorem Paired.mapP{F G:α->β->Prop}:∀{l₁} {l₂},Paired F l₁ l₂->(∀a b,F a b->G a b)->Paired G l₁ l₂
 |_,_,.nil,_=>.nil
 |_,_,.cons r t,f=>.cons (f _ _ r) (Paired.mapP t f)
def Paired.imp'{F G:α->β->Prop}(f:∀a b,F a b->G a b){d:List α}{c:List β}(r:Paired F d c):Paired G d c:=Paired.mapP r f
theorem eY.stay(x:eY P w H h a o)(k:∀b u,(b=a\/H b=some (.own a))->h.get? b=some u->h'.get? b=some u)
  (G:∀b,H b=some (.own a)->H' b=some (.own a)) (F:∀b m,H b=some (.tup m)->H' b=some (.tup m)):eY P w H' h' a o:=by
 induction o with
 |lst m=>obtain⟨z,l,n,r,e⟩:=x;exact⟨z,l,n,r,k _ _ (.inl rfl) e⟩
 |tup m=>obtain⟨z,l,r,g,e,c⟩:=x;exact⟨z,l,r,g,k _ _ (.inl rfl) e,c⟩
 |dK kvs=>obtain⟨z,y,E,r,g,j,i,e,c⟩:=x;exact⟨z,y,E,r,g,j,i,k _ _ (.inl rfl) e,c⟩
 |dT kvs=>obtain⟨z,y,m,r,g,j,i,e,c⟩:=x;exact⟨z,y,m,Paired.mapP r λp q z=>⟨z.1,F _ _ z.2.1,z.2.2⟩,g,j,i,k _ _ (.inl rfl) e,c⟩
 |set S n=>obtain⟨g,j,i,t,e,c⟩:=x;exact⟨g,j,i,t,k _ _ (.inl rfl) e,c⟩
 |ins C dx fs=>obtain⟨d,z,ne,e,A,⟨s,j,i,D,c⟩,r⟩:=x;exact⟨G _ d,z,ne,k _ _ (.inl rfl) e,A,⟨s,j,i,k _ _ (.inr d) D,c⟩,r⟩
 |own y=>obtain⟨g,e⟩:=x;exact⟨g,k _ _ (.inl rfl) e⟩
 |xd fs=>obtain⟨A,⟨s,j,i,e,c⟩,r⟩:=x;exact⟨A,⟨s,j,i,k _ _ (.inl rfl) e,c⟩,r⟩
 |rng lo hi=>obtain⟨t,u,v,e⟩:=x;exact⟨t,u,v,k _ _ (.inl rfl) e⟩
 |frz g u ih=>obtain⟨e,q⟩:=x;exact⟨k _ _ (.inl rfl) e,ih q⟩
 |tbl ps=>have e:=x;exact k a _ (.inl rfl) e
 |met f y=>have e:=x;exact k a _ (.inl rfl) e
 |ext φ=>obtain⟨p,⟨o,e⟩,B⟩:=x;exact⟨B _ _ p λo q=>k _ _ (.inl rfl) q,⟨o,k _ _ (.inl rfl) e⟩,B⟩
def iW.lt(x:iW P w H h)(e:H a=some o):a<h.objs.size:=(x a o e).lt
def iW.fresh(x:iW P w H h)(e:h.objs.size<=a):H a=none:=by
 cases q:H a with
 |none=>rfl
 |some u=>exact absurd (aD (x.lt q) e) (aZ _)
def iW.kept(x:iW P w H h)(k:∀b u,h.get? b=some u->h'.get? b=some u):iW P w H h':=λa o e=>(x a o e).stay (λb u _ q=>k b u q) (λ_ q=>q) λ_ _ q=>q
def iW.laid(x:iW P w H h)(k:∀b u,h.get? b=some u->h'.get? b=some u)(g:h.objs.size<=a)(new:eY P w (dB H a o) h' a o):iW P w (dB H a o) h':=λb u e=>by
 have f:=x.fresh g;by_cases d:b=a
 .subst d;rw[cL]at e;cases e;exact new
 .rw[cN d]at e;exact (x b u e).stay (λc v _ q=>k c v q) (λc q=>by rw[cN (cX q f)];exact q) λc i q=>by rw[cN (cX q f)];exact q
end
def Rd(H:Hp)(a:Addr)(u:HO):Prop:=H a=some u\/∃o,H a=some (.frz o u)
def Rd.ok(r:Rd H a u)(x:iW P w H h):eY P w H h a u:=by
 rcases r with r|⟨o,r⟩
 .exact x a u r
 .obtain⟨_,q⟩:=x a _ r;exact q
def Co:Oq HO->Prop
 |some (.lst _)=>True
 |some (.dK _)=>True
 |some (.dT _)=>True
 |some (.set _ _)=>True
 |some (.ins _ _ _)=>True
 |some (.ext _)=>True
 |_=>False
section
variable {P:Program}{w:World}{H:Hp}{h h':Heap}{x e:Addr}{o':HO}
def iW.write(ok:iW P w H h)(j:Co (H x))(o:e=x\/H e=some (.own x))(k:∀b u,b≠e->h.get? b=some u->h'.get? b=some u)(m:∃u,h'.get? e=some u)
  (new:eY P w (dB H x o') h' x o'):iW P w (dB H x o') h':=λb u q=>by
 have d:∀c y,H c=some (.own y)->c≠x:=λc y r z=>by subst z;rw[r]at j;exact j
 have f:∀c g,H c=some (.tup g)->c≠x:=λc g r z=>by subst z;rw[r]at j;exact j
 by_cases i:b=x
 .subst i;rw[cL]at q;cases q;exact new
 .rw[cN i]at q;by_cases a:b=e
  .have n:H b=some (.own x):=by
    rcases o with z|z
    .exact absurd (a.trans z) i
    .rw[a];exact z
   rw[q]at n;cases n;obtain⟨v,p⟩:=m;exact⟨v,by rw[a];exact p⟩
  .refine (ok b u q).stay (λc v l r=>k c v ?_ r) (λc r=>by rw[cN (d c b r)];exact r) λc g r=>by rw[cN (f c g r)];exact r
   rcases l with rfl|l
   .exact a
   .rintro rfl;rcases o with z|z
    .exact d c b l z
    .rw[l]at z;cases z;exact i rfl
end
structure Un(fs ex:List Addr)(H H':Hp)(h h':Heap):Prop where
 keep:∀b o,h.get? b=some o->H b=none->b∉fs->b∉ex->h'.get? b=some o
 slot:∀b o,h.get? b=some o->H b=none->b∈fs->b∉ex->∃sl,h'.get? b=some {o with slots:=sl}
 free:∀b o,h.get? b=some o->H b=none->b∉ex->H' b=none
 there:∀b o,h.get? b=some o->b∉ex->∃o',h'.get? b=some o'
 tups:∀b xs,H b=some (.tup xs)->H' b=some (.tup xs)
 frzs:∀b o u,H b=some (.frz o u)->H' b=some (.frz o u)
 tbls:∀b ps,H b=some (.tbl ps)->∃more,H' b=some (.tbl (ps++more))
section
variable {fs fs' ex ex':List Addr}{H H1 H2:Hp}{h h1 h2 h':Heap}{a x e:Addr}{o:HO}
def Un.any(u:Un fs ex H H1 h h1)(q:h.get? b=some ob)(n:H b=none)(d:b∉ex):∃f,h1.get? b=some {ob with slots:=f}:=by
 by_cases c:b∈fs
 .exact u.slot b ob q n c d
 .exact⟨ob.slots,u.keep b ob q n c d⟩
def Un.trans(a:Un fs ex H H1 h h1)(b:Un fs ex H1 H2 h1 h2):Un fs ex H H2 h h2 where
 keep:=λc d q n j f=>b.keep c d (a.keep c d q n j f) (a.free c d q n f) j f
 slot:=λc d q n j f=>by obtain⟨t,g⟩:=a.slot c d q n j f;obtain⟨m,k⟩:=b.slot c _ g (a.free c d q n f) j f;exact⟨m,k⟩
 free:=λc d q n f=>by obtain⟨l,g⟩:=a.there c d q f;exact b.free c l g (a.free c d q n f) f
 there:=λc d q f=>by obtain⟨l,g⟩:=a.there c d q f;exact b.there c l g f
 tups:=λc i q=>b.tups c i (a.tups c i q)
 frzs:=λc d i q=>b.frzs c d i (a.frzs c d i q)
 tbls:=λc p q=>by obtain⟨s,g⟩:=a.tbls c p q;obtain⟨r,k⟩:=b.tbls c _ g;exact⟨s++r,by rw[k,bc]⟩
def Un.kept(k:∀b u,h.get? b=some u->h'.get? b=some u):Un fs ex H H h h':=⟨λb c q _ _ _=>k b c q,λb c q _ _ _=>⟨c.slots,k b c q⟩,λ_ _ _ n _=>n,λb c q _=>⟨c,k b c q⟩,λ_ _ q=>q,λ_ _ _ q=>q,λ_ d q=>⟨#[],by rw[q];simp⟩⟩
def Un.refl:Un fs ex H H h h:=Un.kept λ_ _ q=>q
def Un.laid(k:∀b u,h.get? b=some u->h'.get? b=some u)(d:h.objs.size<=a)(c:H a=none):Un fs ex H (dB H a o) h h' where
 keep:=λb u q _ _ _=>k b u q
 slot:=λb u q _ _ _=>⟨u.slots,k b u q⟩
 free:=λb u q n _=>by rw[cN (aL (aD (aK q) d))];exact n
 there:=λb u q _=>⟨u,k b u q⟩
 tups:=λb f q=>by rw[cN (cX q c)];exact q
 frzs:=λb u f q=>by rw[cN (cX q c)];exact q
 tbls:=λb g q=>⟨#[],by rw[cN (cX q c),q];simp⟩
def Un.write(d:Co (H x))(l:e=x\/H e=some (.own x))(k:∀b u,b≠e->h.get? b=some u->h'.get? b=some u)(f:∃u,h'.get? e=some u):Un fs ex H (dB H x o) h h':=by
 have j:∀b,H b=none->b≠x:=λb n z=>by subst z;rw[n]at d;exact d
 have i:∀b,H b=none->b≠e:=λb n z=>by
  subst z;rcases l with r|r
  .exact j b n r
  .rw[n]at r;cases r
 have g:∀b u,H b=some u->¬Co (some u)->b≠x:=λb u q p z=>by subst z;rw[q]at d;exact p d
 refine⟨λb u q n _ _=>k b u (i b n) q,λb u q n _ _=>⟨u.slots,k b u (i b n) q⟩,λb u q n _=>by rw[cN (j b n)];exact n,λb u q _=>?_,
  λb m q=>by rw[cN (g b _ q λz=>z)];exact q,λb u m q=>by rw[cN (g b _ q λz=>z)];exact q,λb s q=>⟨#[],by rw[cN (g b _ q λz=>z),q];simp⟩⟩
 by_cases c:b=e
 .subst c;exact f
 .exact⟨u,k b u c q⟩
end
noncomputable def trk(h:Heap)(H:Hp):List Addr:=(List.range h.objs.size).filter λa=>(H a).isSome
def nj(h:Heap)(H:Hp):Heap:=W.hideAll h (trk h H)
def sx h H:(nj h H).objs.size=h.objs.size:=W.hideAll_size _ _
def uZ(e:h.get? b=some o)(n:H b=none):(nj h H).get? b=some o:=W.hideAll_get _ e λa=>by have q:=(aT.mp a).2;rw[n]at q;simp at q
def xI(e:(nj h H).get? b=some o):h.get? b=some o/\H b=none:=by
 have a:=W.of_hideAll (trk h H) e;refine⟨a,?_⟩;cases q:H b with
 |none=>rfl
 |some x=>have c:b∈trk h H:=aT.mpr ⟨aR.mpr (aK a),by simp[q]⟩;have z:(nj h H).get? b=none:=W.hideAll_none (trk h H) c;rw[z]at e;cases e
end L2
namespace L2
open PySem PySem.Spec PyProof.Rows
structure Mod(K:W.Frag)(mg:Str->Option Value)(base:Heap):Prop where
 kin:K.In base
 glob:base.Ns mainGlobals mg
 blt:∃mb,base.Ns builtinsNs mb/\∀x:Str,x≠ "__name__" ->mb x=bootBuiltins x
 nolimit:base.NoLimit
structure Cx where
 prog:Program
 w:World
 K:W.Frag
 mg:Str->Option Value
 base:Heap
 A:Around
 N:List Str
 s₀:Sq
 H₀:Hp
 env:Env
 outer:List Env
 stack:List Env
 ex:List Addr
 fn:Str->Bool
 calm:Bool
 pn:List (Addr×Obj)
 xe:Vq->Shared->Prop
noncomputable def hV(l:List Env):List Addr:=l.filterMap (·.frame)
abbrev Cx.fs(X:Cx):List Addr:=hV X.outer
def BD(a:Scope)(x:Str):Prop:=a.names.lookup x=some .local\/a.names.lookup x=some .cell\/a.names.lookup x=some .free
def rT(a:Scope)(x:Str):Prop:=a.names.lookup x=some .local\/a.names.lookup x=some .cell
def C6(a:Env)(h:Heap)(m:Str->Option Value)(x:Str)(u:Vq):Prop:=(a.kindOf x=some .local/\m x=some u)\/((a.kindOf x=some .cell\/a.kindOf x=some .free)/\∃c,a.cells.lookup x=some c/\h.IsCell c (some u))
structure Cx.Ok(X:Cx):Prop where
 mod:Mod X.K X.mg X.base
 kind:X.env.scope.kind=.function
 glob:X.env.globals=mainGlobals
 blt:X.env.builtins=builtinsNs
 above:X.s₀.heap.objs.size<=X.env.locals
 inj:∀x y c,X.env.cells.lookup x=some c->X.env.cells.lookup y=some c->x=y
 has:∀x,(X.env.kindOf x=some .cell\/X.env.kindOf x=some .free)->∃c,X.env.cells.lookup x=some c
 cab:∀x c,X.fn x=true->X.env.cells.lookup x=some c->X.s₀.heap.objs.size<=c
 hd:X.calm=true->X.A.handled=none
 frames:X.A.frames=some X.stack
 stk:X.stack=X.outer\/(X.stack=X.env::X.outer/\X.env.frame=some X.env.locals)
 exf:∀b∈X.ex,b≠X.env.locals/\∀x c,X.env.cells.lookup x=some c->c≠b
 bs:∀b o,X.base.get? b=some o->X.s₀.heap.get? b=some o/\X.H₀ b=none
 bsz:X.base.objs.size<=X.s₀.heap.objs.size
 noex:∀b o,X.base.get? b=some o->b∉X.ex
 exfs:∀b∈X.ex,b∉X.fs
 funs:X.s₀.heap.FunFrames X.base X.outer
 frf:∀b∈X.fs,X.H₀ b=none
structure cS(X:Cx)(cD:List (Addr×Obj))(σ:List (Option V))(H:Hp)(s:Sq):Prop where
 ok:X.Ok
 os:s.os=X.s₀.os
 bare:AllBare s.gens
 base:Un X.fs X.ex X.H₀ H X.s₀.heap s.heap
 loc:∃m,s.heap.Ns X.env.locals m/\∀(i:Nat) (x:Str) (v:V),X.N[i]? = some x->σ[i]? = some (some v)->BD X.env.scope x->∃u,dC v u/\C6 X.env s.heap m x u
 cell:∀x c,X.env.cells.lookup x=some c->∃v,s.heap.IsCell c v
 free:H X.env.locals=none
 freeC:∀x c,X.env.cells.lookup x=some c->H c=none
 pin:∀p∈X.pn++cD,s.heap.get? p.1=some p.2/\H p.1=none/\p.1≠X.env.locals/\p.1∉X.fs/\∀v,p.2.data≠.cell v
 hok:iW X.prog X.w H s.heap
 len:σ.length=X.N.length
section
variable {X:Cx}{cD:List (Addr×Obj)}{σ:List (Option V)}{H H':Hp}{s:Sq}{h':Heap}
def Cx.Ok.nofr(ok:X.Ok)(e:X.base.get? b=some o):b∉X.fs:=λa=>by have:=(ok.funs.mem a).1;rw[e]at this;cases this
def cS.bs(I:cS X cD σ H s):∀b o,X.base.get? b=some o->s.heap.get? b=some o/\H b=none:=λb o e=>⟨I.base.keep b o (I.ok.bs b o e).1 (I.ok.bs b o e).2 (I.ok.nofr e) (I.ok.noex b o e),I.base.free b o (I.ok.bs b o e).1 (I.ok.bs b o e).2 (I.ok.noex b o e)⟩
def cS.bk(I:cS X cD σ H s):∀b o,X.base.get? b=some o->s.heap.get? b=some o:=λb o e=>(I.bs b o e).1
def cS.mod(I:cS X cD σ H s):Mod X.K X.mg X.base:=I.ok.mod
def cS.kIn(I:cS X cD σ H s):X.K.In s.heap:=I.ok.mod.kin.keeps I.bk
def cS.lt(I:cS X cD σ H s):X.env.locals<s.heap.objs.size:=let ⟨_,hn,_⟩:=I.loc;hn.lt
def cS.sz(I:cS X cD σ H s):X.s₀.heap.objs.size<=s.heap.objs.size:=aM I.ok.above (bf I.lt)
def cS.nofs(I:cS X cD σ H s)(h:s.heap.objs.size<=a):a∉X.fs:=λb=>by obtain⟨_,o,c,_⟩:=I.ok.funs.mem b;exact absurd (aD (aK c) (aM I.sz h)) (aZ _)
def cS.cne(I:cS X cD σ H s):∀x c,X.env.cells.lookup x=some c->c≠X.env.locals:=λx c e z=>by obtain⟨v,o,f,d⟩:=I.cell x c e;obtain⟨m,⟨i,g,h,b,a,_⟩,_⟩:=I.loc;rw[z,b]at f;cases f;rw[a]at d;cases d
def cS.funs(I:cS X cD σ H s):s.heap.FunFrames X.base X.outer:=by
 have all:∀(l:List Env),(∀b∈hV l,b∈X.fs)->X.s₀.heap.FunFrames X.base l->s.heap.FunFrames X.base l:=by
  intro l;induction l with
  |nil=>intro _ _;trivial
  |cons env r ih=>intro f i;obtain⟨j,⟨L,o,d,h,k,g⟩,hr⟩:=i;have a:=f L (by unfold hV;rw[bg,d];exact bh);obtain⟨m,e⟩:=I.base.slot L o k (I.ok.frf L a) a λz=>I.ok.exfs L z a;exact⟨j,⟨L,_,d,h,e,g⟩,ih (λb c=>f b (by unfold hV;rw[bg,d];exact bj _ c)) hr⟩
 exact all X.outer (λ_ c=>c) I.ok.funs
def cS.stack(I:cS X cD σ H s):s.heap.FunFrames X.base X.stack:=by
 rcases I.ok.stk with e|⟨e,a⟩
 .rw[e];exact I.funs
 .rw[e];obtain⟨m,b,_⟩:=I.loc;refine .cons (by rw[I.ok.kind];decide) a b ?_ I.funs;exact Heap.get?_none_of_le (aM I.ok.bsz I.ok.above)
def cS.stkSub(I:cS X cD σ H s):∀b∈hV X.stack,b∈X.env.locals::X.fs:=λb a=>by
 rcases I.ok.stk with e|⟨e,c⟩
 .rw[e]at a;exact bj _ a
 .rw[e]at a;unfold hV at a;rw[bg,c]at a;exact a
def cS.stkFree(I:cS X cD σ H s):∀b∈hV X.stack,H b=none:=λb a=>by
 rcases aE.mp (I.stkSub b a) with e|a
 .rw[e];exact I.free
 .obtain⟨_,o,c,_⟩:=I.ok.funs.mem a;exact I.base.free b o c (I.ok.frf b a) λz=>I.ok.exfs b z a
def cS.step{ch:List Addr}(I:cS X cD σ H s)
  (g:∀b∈ch,(b∈X.ex\/X.s₀.heap.objs.size<=b)/\b≠X.env.locals/\(∀x c,X.env.cells.lookup x=some c->c≠b)/\∀p∈X.pn++cD,p.1≠b)
  (j:∀b o,b≠X.env.locals->b∉X.fs->b∉ch->s.heap.get? b=some o->H b=none->h'.get? b=some o)
  (C:∀b o,b≠X.env.locals->b∈X.fs->b∉ch->s.heap.get? b=some o->H b=none->∃S,h'.get? b=some {o with slots:=S}) (f:∀b o,b∉ch->s.heap.get? b=some o->H b=none->H' b=none)
  (D:∀b o,b∉ch->s.heap.get? b=some o->∃L,h'.get? b=some L)
  (Q:∀b B,H b=some (.tup B)->H' b=some (.tup B)) (G:∀b o u,H b=some (.frz o u)->H' b=some (.frz o u)) (P:∀b ps,H b=some (.tbl ps)->∃N,H' b=some (.tbl (ps++N)))
  (ns:∀m,s.heap.Ns X.env.locals m->h'.Ns X.env.locals m) (U:iW X.prog X.w H' h') (hg:AllBare g') :
  cS X cD σ H' {s with heap:=h',gens:=g',drawn:=d',toks:=t'}:=by
 have J:∀b o,X.s₀.heap.get? b=some o->b≠X.env.locals:=λb o e=>aL (aD (aK e) I.ok.above);have y:∀b o,X.s₀.heap.get? b=some o->b∉X.ex->b∉ch:=λb o e a E=>by
  rcases (g b E).1 with z|z
  .exact a z
  .exact absurd (aD (aK e) z) (aZ _)
 have h:∀x c,X.env.cells.lookup x=some c->∀v,s.heap.IsCell c v->h'.IsCell c v:=λx c e v ⟨o,F,R⟩=>by
  have t:c∉ch:=λz=>(g c z).2.2.1 x c e rfl;by_cases hc:c∈X.fs
  .obtain⟨S,q⟩:=C c o (I.cne x c e) hc t F (I.freeC x c e);exact⟨_,q,R⟩
  .exact⟨o,j c o (I.cne x c e) hc t F (I.freeC x c e),R⟩
 refine⟨I.ok,I.os,hg,⟨λb o e n E a=>?_,λb o e n E a=>?_,λb o e n a=>?_,λb o e a=>?_,λb B e=>Q b B (I.base.tups b B e),λb o B e=>G b o B (I.base.frzs b o B e),λb ps e=>?_⟩,?_,λx c e=>?_,?_,λx c e=>?_,λp hp=>?_,U,I.len⟩
 .exact j b o (J b o e) E (y b o e a) (I.base.keep b o e n E a) (I.base.free b o e n a)
 .obtain⟨S,A⟩:=I.base.slot b o e n E a;obtain⟨Y,K⟩:=C b _ (J b o e) E (y b o e a) A (I.base.free b o e n a);exact⟨Y,K⟩
 .obtain⟨L,A⟩:=I.base.there b o e a;exact f b L (y b o e a) A (I.base.free b o e n a)
 .obtain⟨L,A⟩:=I.base.there b o e a;exact D b L (y b o e a) A
 .obtain⟨m1,A⟩:=I.base.tbls b ps e;obtain⟨m2,K⟩:=P b _ A;exact⟨m1++m2,by rw[K,bc]⟩
 .obtain⟨m,hn,hl⟩:=I.loc;refine⟨m,ns m hn,λi x v A K e3=>?_⟩;obtain⟨u,r,l⟩:=hl i x v A K e3;refine⟨u,r,?_⟩;rcases l with l|⟨k,c,e,z⟩
  .exact .inl l
  .exact .inr ⟨k,c,e,h x c e _ z⟩
 .obtain⟨v,z⟩:=I.cell x c e;exact⟨v,h x c e v z⟩
 .obtain⟨m,⟨o,_,_,F,_⟩,_⟩:=I.loc;exact f _ o (λz=>(g _ z).2.1 rfl) F I.free
 .obtain⟨v,o,F,R⟩:=I.cell x c e;exact f c o (λz=>(g c z).2.2.1 x c e rfl) F (I.freeC x c e)
 .obtain⟨e,n,ne,Z,d⟩:=I.pin p hp;have t:p.1∉ch:=λz=>(g p.1 z).2.2.2 p hp rfl;exact⟨j p.1 p.2 ne Z t e n,f p.1 p.2 t e n,ne,Z,d⟩
def cS.un(I:cS X cD σ H s)(u:Un X.fs [] H H' s.heap h')(f:iW X.prog X.w H' h'):cS X cD σ H' {s with heap:=h',toks:=t'}:=by obtain⟨m,⟨o,v,p,h,r⟩,_⟩:=id I.loc;obtain⟨t,j⟩:=u.any h I.free (by simp);exact I.step (ch:=[]) (λ_ z=>nomatch z) (λb o _ d _ e n=>u.keep b o e n d (by simp)) (λb o _ d _ e n=>u.slot b o e n d (by simp)) (λb o _ e n=>u.free b o e n (by simp)) (λb o _ e=>u.there b o e (by simp)) u.tups u.frzs u.tbls (λl i=>by obtain⟨q,g,c,a,k⟩:=i;rw[h]at a;cases a;exact⟨_,g,c,j,k⟩) f I.bare
def cS.call(I:cS X cD σ H s)(u:Un (hV X.stack) ch H H' s.heap h')(i:iW X.prog X.w H' h')(t:AllBare g')
  (d:∀b∈ch,(b∈X.ex\/X.s₀.heap.objs.size<=b)/\b≠X.env.locals/\(∀x c,X.env.cells.lookup x=some c->c≠b)/\∀p∈X.pn++cD,p.1≠b) :
  cS X cD σ H' {s with heap:=h',gens:=g',drawn:=d',toks:=t'}:=by
 obtain⟨m,⟨o,D,A,k,r⟩,_⟩:=id I.loc;obtain⟨C,g⟩:=u.any k I.free λz=>(d _ z).2.1 rfl;exact I.step d (λb o g q a e n=>u.keep b o e n (λz=>(aE.mp (I.stkSub b z)).elim g q) a) (λb o _ _ a e n=>u.any e n a) (λb o a e n=>u.free b o e n a) (λb o a e=>u.there b o e a) u.tups u.frzs u.tbls (λy l=>by obtain⟨B,j,h,f,v⟩:=l;rw[k]at f;cases f;exact⟨_,j,h,g,v⟩) i t
def cS.turned(I:cS X cD σ H s)(k:∀b o,b≠it->s.heap.get? b=some o->h'.get? b=some o)(i:H it=none)(f:it≠X.env.locals)
  (t:it∈X.ex\/X.s₀.heap.objs.size<=it) (y:∀x c,X.env.cells.lookup x=some c->c≠it) (l:∀p∈X.pn++cD,p.1≠it):cS X cD σ H {s with heap:=h',toks:=t'}:=by
 have d:∀b u,H b=some u->b≠it:=λb u e z=>by rw[z,i]at e;cases e
 refine I.step (ch:=[it]) (λb j=>?_) (λb o _ _ a e _=>k b o (λz=>a (by simp[z])) e) (λb o _ _ a e _=>⟨o.slots,k b o (λz=>a (by simp[z])) e⟩) (λ_ _ _ _ n=>n)
  (λb o a e=>⟨o,k b o (λz=>a (by simp[z])) e⟩) (λ_ _ e=>e) (λ_ _ _ e=>e) (λb B e=>⟨#[],by rw[e];simp⟩) (λm g=>?_) (λb u e=>?_) I.bare
 .have e:b=it:=by simpa using j
  subst e;exact⟨t,f,y,l⟩
 .obtain⟨o,w,h,A,r⟩:=g;exact⟨o,w,h,k _ o (Ne.symm f) A,r⟩
 .refine (I.hok b u e).stay (λc v a q=>k c v ?_ q) (λ_ q=>q) λ_ _ q=>q;rcases a with z|z
  .rw[z];exact d b u e
  .exact d c _ z
def cS.tok(I:cS X cD σ H s) t:cS X cD σ H {s with toks:=t}:=I.un Un.refl I.hok
def cS.kept(I:cS X cD σ H s)(k:∀b u,s.heap.get? b=some u->h'.get? b=some u):cS X cD σ H {s with heap:=h',toks:=t'}:=I.un (Un.kept k) (I.hok.kept k)
def cS.laid(I:cS X cD σ H s)(k:∀b u,s.heap.get? b=some u->h'.get? b=some u)(c:s.heap.objs.size<=a)(new:eY X.prog X.w (dB H a o) h' a o) :
  cS X cD σ (dB H a o) {s with heap:=h',toks:=t'}:=I.un (Un.laid k c (I.hok.fresh c)) (I.hok.laid k c new)
def cS.write(I:cS X cD σ H s)(c:Co (H x))(d:e=x\/H e=some (.own x))(k:∀b u,b≠e->s.heap.get? b=some u->h'.get? b=some u)(a:∃u,h'.get? e=some u)
  (new:eY X.prog X.w (dB H x o) h' x o):cS X cD σ (dB H x o) {s with heap:=h',toks:=t'}:=I.un (Un.write c d k a) (I.hok.write c d k a new)
def cS.weak(I:cS X cD σ H s)(c:σ'.length=σ.length)(w:∀(i:Nat) v,σ'[i]? = some (some v)->σ[i]? = some (some v)):cS X cD σ' H s:=⟨I.ok,I.os,I.bare,I.base,let ⟨m,hn,hl'⟩:=I.loc;⟨m,hn,λi x v b a d=>hl' i x v b (w i v a) d⟩,I.cell,I.free,I.freeC,I.pin,I.hok,c.trans I.len⟩
def cS.pins_of(I:cS X cD σ H s)(h:∀p∈pins',s.heap.get? p.1=some p.2/\H p.1=none/\p.1≠X.env.locals/\p.1∉X.fs/\∀v,p.2.data≠.cell v):cS X pins' σ H s:=⟨I.ok,I.os,I.bare,I.base,I.loc,I.cell,I.free,I.freeC,λp a=>(ai.mp a).elim (λz=>I.pin p (ax _ z)) (h p),I.hok,I.len⟩
def lD{N:List Str}(e:N.Nodup){i j:Nat}(a:N[i]? = some x)(b:N[j]? = some x):i=j:=by obtain⟨f,d⟩:=aa.mp a;obtain⟨g,c⟩:=aa.mp b;exact (List.getElem_inj e).mp (d.trans c.symm)
def mH{M:Model}{A:Around}{E:Vq->Shared->Prop}{i:Nat}{x:Str}{v:V}{u:Vq}{Q:Unit->Shared->Prop}(I:cS X cD σ H s)(hN:X.N.Nodup)(L:X.N[i]? = some x)(t:rT X.env.scope x)(r:dC v u)
  (h:∀s',cS X cD (σ.set i (some v)) H s'->(∃a,Heap.SameBut a s.heap s'.heap/\(a=X.env.locals\/X.env.cells.lookup x=some a))->Q () s') (hf:X.fn x=true\/X.env.scope.names.lookup x=some .local:=by first|exact .inl rfl|exact .inr rfl|assumption):wpAny M A (storeName X.env x u) Q E s:=by
 obtain⟨m,hn,hl⟩:=id I.loc;have U:(X.env.scope.kind==.class||(X.env.scope.kind==.module&&X.env.locals != X.env.globals))=false:=by rw[I.ok.kind];rfl
 have F:i<σ.length:=by rw[I.len];exact (aa.mp L).1
 have cne:=I.cne;have tracked:∀{a:Addr} {h':Heap},(∃o,s.heap.get? a=some o/\H a=none)->Heap.SameBut a s.heap h'->iW X.prog X.w H h':=λ{a h'} ha f b ob e=>by
  obtain⟨_,_,B⟩:=ha;refine (I.hok b ob e).stay (λc w' l q=>(f.2 c ?_).trans q) (λ_ q=>q) λ_ _ q=>q;rintro rfl;rcases l with rfl|l
  .rw[B]at e;cases e
  .rw[B]at l;cases l
 rcases t with D|D
 .refine wpAny_storeName_local D hn (λh' hn' f=>?_) U;obtain⟨oL,_,_,hoL,_⟩:=id hn;refine h _ ⟨I.ok,I.os,I.bare,⟨λb o e n G t=>?_,λb o e n G t=>?_,I.base.free,λb o e t=>?_,I.base.tups,I.base.frzs,I.base.tbls⟩,⟨_,hn',λj y v' g C e3=>?_⟩,λy c e=>?_,I.free,I.freeC,λp hp=>?_,tracked ⟨oL,hoL,I.free⟩ f,by simpa using I.len⟩ ⟨_,f,.inl rfl⟩
  .exact (f.2 b (aL (aD (aK e) I.ok.above))).trans (I.base.keep b o e n G t)
  .obtain⟨sl,g⟩:=I.base.slot b o e n G t;exact⟨sl,(f.2 b (aL (aD (aK e) I.ok.above))).trans g⟩
  .obtain⟨o',g⟩:=I.base.there b o e t;exact⟨o',(f.2 b (aL (aD (aK e) I.ok.above))).trans g⟩
  .by_cases K:j=i
   .subst K;rw[L]at g;cases g;rw[List.getElem?_set_self F]at C;cases C;exact⟨u,r,.inl ⟨D,by simp⟩⟩
   .rw[aq (Ne.symm K)]at C;obtain⟨u',r',q⟩:=hl j y v' g C e3;refine⟨u',r',?_⟩;rcases q with⟨k,e⟩|⟨k,c,e,z⟩
    .refine .inl ⟨k,?_⟩;have:y≠x:=λe=>K (lD hN g (e▸L));simp[this,e]
    .exact .inr ⟨k,c,e,z.sameBut f (cne y c e)⟩
  .obtain⟨w',z⟩:=I.cell y c e;exact⟨w',z.sameBut f (cne y c e)⟩
  .obtain⟨e,n,ne,nf,d⟩:=I.pin p hp;exact⟨(f.2 p.1 ne).trans e,n,ne,nf,d⟩
 .have J:X.fn x=true:=by
   rcases hf with z|z
   .exact z
   .rw[z]at D;cases D
  obtain⟨c,l⟩:=I.ok.has x (.inl D);obtain⟨w',z⟩:=I.cell x c l;refine wpAny_storeName_cell I.ok.kind D l z (λh' Y f=>?_);obtain⟨oc,R,P⟩:=id z;refine h {s with heap:=h'} ⟨I.ok,I.os,I.bare,⟨λb o e n G t=>?_,λb o e n G t=>?_,I.base.free,λb o e t=>?_,I.base.tups,I.base.frzs,I.base.tbls⟩,⟨m,hn.sameBut f (Ne.symm (cne x c l)),λj y v' g C e3=>?_⟩,λy Z e=>?_,I.free,I.freeC,λp hp=>?_,tracked ⟨oc,R,I.freeC x c l⟩ f,by simpa using I.len⟩ ⟨c,f,.inr l⟩
  .exact (f.2 b (aL (aD (aK e) (I.ok.cab x c J l)))).trans (I.base.keep b o e n G t)
  .obtain⟨sl,g⟩:=I.base.slot b o e n G t;exact⟨sl,(f.2 b (aL (aD (aK e) (I.ok.cab x c J l)))).trans g⟩
  .obtain⟨o',g⟩:=I.base.there b o e t;exact⟨o',(f.2 b (aL (aD (aK e) (I.ok.cab x c J l)))).trans g⟩
  .by_cases K:j=i
   .subst K;rw[L]at g;cases g;rw[List.getElem?_set_self F]at C;cases C;exact⟨u,r,.inr ⟨.inl D,c,l,Y⟩⟩
   .rw[aq (Ne.symm K)]at C;obtain⟨u',r',q⟩:=hl j y v' g C e3;refine⟨u',r',?_⟩;rcases q with q|⟨k,Z,e,z'⟩
    .exact .inl q
    .refine .inr ⟨k,Z,e,z'.sameBut f ?_⟩;rintro rfl;exact K (lD hN g (I.ok.inj _ _ _ e l▸L))
  .by_cases S:Z=c
   .subst S;exact⟨_,Y⟩
   .obtain⟨w2,z2⟩:=I.cell y Z e;exact⟨w2,z2.sameBut f S⟩
  .obtain⟨e,n,ne,nf,d⟩:=I.pin p hp;refine⟨(f.2 p.1 ?_).trans e,n,ne,nf,d⟩;intro q;rw[q,R]at e;have q':=Option.some.inj e;exact d w' (by rw[<-q'];exact P)
def kz{M:Model}{A:Around}{E:Vq->Shared->Prop}{i:Nat}{x:Str}{v:V}{u:Vq}{Q:Unit->Shared->Prop}(I:cS X cD σ H s)(f:X.N.Nodup)(b:X.N[i]? = some x)(e:rT X.env.scope x)(r:dC v u)
  (h:∀a,cS X cD (σ.set i (some v)) H a->Q () a) (c:X.fn x=true\/X.env.scope.names.lookup x=some .local:=by first|exact .inl rfl|exact .inr rfl|assumption):wpAny M A (storeName X.env x u) Q E s:=
 mH I f b e r (λa d _=>h a d) c
def cS.call'(I:cS X cD σ H s)(g:s'.os=s.os)(u:Un (hV X.stack) ch H H' s.heap s'.heap)(d:iW X.prog X.w H' s'.heap)(f:AllBare s'.gens)
  (a:∀b∈ch,(b∈X.ex\/X.s₀.heap.objs.size<=b)/\b≠X.env.locals/\(∀x c,X.env.cells.lookup x=some c->c≠b)/\∀p∈X.pn++cD,p.1≠b):cS X cD σ H' s':=by
 obtain⟨h',i,k,h,j⟩:=s';have e:=g;subst e;exact I.call u d f a
end
abbrev XK:=Value->Option Addr->Hp->Prop
abbrev St:=List (Option V)
abbrev VK:=V->Hp->Prop
abbrev TE:=St->Hp->VK->Prop
abbrev TT:=St->Hp->(Bool->Hp->Prop)->Prop
abbrev TA:=St->Hp->(List V->Hp->Prop)->Prop
structure iU where
 nx:St->Hp->Prop
 rt:VK
 bk:St->Hp->Prop:=λ_ _=>False
 ct:St->Hp->Prop:=λ_ _=>False
abbrev TS:=iU->St->Hp->Prop
def EP(X:Cx)(c:List (Addr×Obj))(d:St)(Q:VK)(u:Vq)(b:Sq):Prop:=∃v a,cS X c d a b/\dC v u/\Q v a
def TP(X:Cx)(d:List (Addr×Obj))(e:St)(Q:Bool->Hp->Prop)(b:Bool)(c:Sq):Prop:=∃a,cS X d e a c/\Q b a
def AP(X:Cx)(d:List (Addr×Obj))(e:St)(Q:List V->Hp->Prop)(us:List Vq)(c:Sq):Prop:=∃a b,cS X d e b c/\c8 a us/\Q a b
def SP(X:Cx)(d:List (Addr×Obj))(D:iU)(f:Flow)(c:Sq):Prop:=
 match f with
 |.next=>∃a b,cS X d a b c/\D.nx a b
 |.brk=>∃a b,cS X d a b c/\D.bk a b
 |.cont=>∃a b,cS X d a b c/\D.ct a b
 |.ret u=>∃v a b,cS X d a b c/\dC v u/\D.rt v b
def PE(X:Cx)(e:Expr)(t:TE):Prop:=∀(b:List (Addr×Obj)) (s:Sq) (a:St) (H:Hp) (Q:VK),cS X b a H s->t a H Q->wpAny (model X.prog X.w) X.A (eval e X.env) (EP X b a Q) X.xe s
def PT(X:Cx)(e:Expr)(t:TT):Prop:=∀(b:List (Addr×Obj)) (s:Sq) (a:St) (H:Hp) (Q:Bool->Hp->Prop),cS X b a H s->t a H Q->wpAny (model X.prog X.w) X.A (isTrue e X.env (eval e X.env)) (TP X b a Q) X.xe s
def PW(X:Cx)(e:Expr)(t:TT):Prop:=∀(a:Sem Vq) (c:List (Addr×Obj)) (s:Sq) (b:St) (H:Hp) (Q:Bool->Hp->Prop),cS X c b H s->t b H Q->wpAny (model X.prog X.w) X.A (isTrue e X.env a) (TP X c b Q) X.xe s
def PW.pt(h:PW X e t):PT X e t:=h _
def PA(X:Cx)(d:List Expr)(t:TA):Prop:=∀(b:Pos) (c:List (Addr×Obj)) (s:Sq) (a:St) (H:Hp) (Q:List V->Hp->Prop),cS X c a H s->t a H Q->wpAny (model X.prog X.w) X.A (spliced (backTo b (starEach d X.env))) (AP X c a Q) X.xe s
def PS(X:Cx)(st:Stmt)(t:TS):Prop:=∀(a:List (Addr×Obj)) (s:Sq) (b:St) (H:Hp) (D:iU),cS X a b H s->t D b H->wpAny (model X.prog X.w) X.A (exec st X.env) (SP X a D) X.xe s
def jY(X:Cx)(st:List Stmt)(t:TS):Prop:=∀(a:List (Addr×Obj)) (s:Sq) (b:St) (H:Hp) (D:iU),cS X a b H s->t D b H->wpAny (model X.prog X.w) X.A (execs st X.env) (SP X a D) X.xe s
def ed{b:Type}{t:Sem b}{Q c:b->Shared->Prop}{M:Model}{A:Around}{E:Vq->Shared->Prop}{s:Sq}(h:wpAny M A t Q E s)(d:∀a s,Q a s->c a s):wpAny M A t c E s:=wpAny_mono h d λ_ _ x=>x
end L2
namespace L2
open PySem PySem.Spec PyProof.Rows
section
variable {X:Cx}
def f7(i:Nat):TE:=λa H Q=>∃v,a[i]? = some (some v)/\Q v H
def tC(v:V):TE:=λ_ H Q=>Q v H
def zF(t:X.N[i]? = some x)(w:BD X.env.scope x)(f:(x==("__debug__" : Str))=false:=by decide)(g:(x==("__classdict__" : Str))=false:=by decide):PE X (.Name x pos) (f7 i):=by
 intro q s p H Q I h;obtain⟨v,e,h⟩:=h;obtain⟨m,n,o⟩:=I.loc;obtain⟨u,r,l⟩:=o i x v t e w;have d:EP X q p Q u s:=⟨v,H,I,r,h⟩;rcases l with⟨b,k⟩|⟨b,c,j,a⟩
 .exact wpAny_Name (wpAny_loadName_local I.ok.kind b n k d) f
 .rcases b with b|b
  .exact wpAny_Name (wpAny_loadName_cell I.ok.kind b j a d) f
  .exact wpAny_Name (wpAny_loadName_free I.ok.kind b j a d g) f
def Ak{i j pos}:PE X (.Constant (.int i) j pos) (tC (.int i)):=λ_ _ _ H _ I h=>wpAny_Constant_int ⟨.int i,H,I.tok _,⟨_,rfl⟩,h⟩
def Bm{b j pos}:PE X (.Constant (.bool b) j pos) (tC (.bl b)):=λ_ _ _ H _ I h=>Constant_bool ⟨.bl b,H,I,rfl,h⟩
def AU{j pos}:PE X (.Constant .none j pos) (tC .non):=λ_ _ _ H _ I h=>Constant_none ⟨.non,H,I,rfl,h⟩
def zq{x j pos}:PE X (.Constant (.str x) j pos) (tC (.str x)):=λ_ _ _ H _ I h=>Calls.Constant_str ⟨.str x,H,I.tok _,⟨_,rfl⟩,h⟩
def Gl(X:Cx)(x:Str):Prop:=X.env.kindOf x=some .globalImplicit
def iJ(I:cS X cD σ H s)(b:Gl X x)(a:X.mg x=some u)(h:Q u s)
  (c:(x==("__debug__" : Str))=false:=by decide):wpAny (model X.prog X.w) X.A (eval (.Name x pos) X.env) Q E s:=
 Calls.Name_function_global I.ok.kind b (Calls.loadGlobal_global (by rw[I.ok.glob];exact I.mod.glob.keeps I.bk) a h) c
def kW(I:cS X cD σ H s)(b:Gl X x)(a:X.mg x=none)(f:bootBuiltins x=some u)(h:Q u s)
  (e:x≠ "__name__" :=by decide) (c:(x==("__debug__" : Str))=false:=by decide):wpAny (model X.prog X.w) X.A (eval (.Name x pos) X.env) Q E s:=by
 obtain⟨i,d,g⟩:=I.mod.blt;exact Calls.Name_function_global I.ok.kind b (Calls.loadGlobal_builtin (by rw[I.ok.glob];exact I.mod.glob.keeps I.bk) a (by rw[I.ok.blt];exact d.keeps I.bk) ((g x e).trans f) h) c
def iK(b:Gl X x)(a:X.mg x=some u)(r:dC v u)(c:(x==("__debug__" : Str))=false:=by decide):PE X (.Name x pos) (tC v):=λ_ _ _ H _ I h=>iJ I b a ⟨v,H,I,r,h⟩ c
def rE(b:Gl X x)(a:X.mg x=none)(e:bootBuiltins x=some u)(r:dC v u)(d:x≠ "__name__" :=by decide)(c:(x==("__debug__" : Str))=false:=by decide):PE X (.Name x pos) (tC v):=λ_ _ _ H _ I h=>kW I b a e ⟨v,H,I,r,h⟩ d c
variable {a b:Expr}{ta tb:TE}{pos:Pos}
def tB(t:TE):TT:=λe H Q=>t e H λx d=>∃c,x=.bl c/\Q c d
def lN(h:PE X e t)(f:∀c,isTrue e X.env c=(do let v <-c;standAt e.pos;holding [v] (truthy v)):=by intro _;rfl):PT X e (tB t):=by intro g s i H Q I hw;refine isTrue_plain (ed (h g s i H _ I hw) λv s1 ⟨x,H1,I1,r1,q1⟩=>?_) (f _);obtain⟨d,rfl,q⟩:=q1;cases r1;exact wpAny_truthy_bool ⟨H1,I1,q⟩
variable {tA tB':TT}{dP:List Expr}
def xh(t u:TT):TT:=λe H Q=>t e H λc d=>if c=true then u e d Q else Q false d
def CU(t u:TT):TT:=λe H Q=>t e H λc d=>if c=true then Q true d else u e d Q
def xy(t:TT):TT:=λe H Q=>t e H λc d=>Q (!c) d
def rq(d:PT X a tA):PW X (.BoolOp .And [a] pos) tA:=by
 intro i f s g H Q I h;refine isTrue_and (ed (d f s g H Q I h) λc j e=>?_);cases c with
 |true=>exact isTrue_and_nil e
 |false=>exact e
def zE(d:PT X a tA):PW X (.BoolOp .Or [a] pos) tA:=by
 intro i f s g H Q I h;refine isTrue_or (ed (d f s g H Q I h) λc j e=>?_);cases c with
 |false=>exact isTrue_or_nil e
 |true=>exact e
def nv(g:PT X a tA)(f:PW X (.BoolOp .And (b::dP) pos) tB'):PW X (.BoolOp .And (a::b::dP) pos) (xh tA tB'):=by
 intro i d s e H Q I h;refine isTrue_and (ed (g d s e H _ I h) λc s1 ⟨H1,I1,q1⟩=>?_);cases c with
 |true=>exact f i d s1 e H1 Q I1 q1
 |false=>exact⟨H1,I1,q1⟩
def BP(g:PT X a tA)(f:PW X (.BoolOp .Or (b::dP) pos) tB'):PW X (.BoolOp .Or (a::b::dP) pos) (CU tA tB'):=by
 intro i d s e H Q I h;refine isTrue_or (ed (g d s e H _ I h) λc s1 ⟨H1,I1,q1⟩=>?_);cases c with
 |true=>exact⟨H1,I1,q1⟩
 |false=>exact f i d s1 e H1 Q I1 q1
def vK(d:PT X a tA):PT X (.UnaryOp .Not a pos) (xy tA):=by intro f s g H Q I h;exact isTrue_not (d f s g H (λc e=>Q (!c) e) I h)
def uh(ta tb:TE):TE:=λe H Q=>ta e H λx d=>∃c,x=.bl c/\if c=true then tb e d Q else Q (.bl false) d
def uJ(ta:TE):TE:=λe H Q=>ta e H λx d=>∃c,x=.bl c/\Q (.bl (!c)) d
def AQ{op}(h:PE X a t):PE X (.BoolOp op [a] pos) t:=λc s d H Q I hw=>BoolOp_one (h c s d H Q I hw)
def AJ(i:PE X a ta)(g:PE X (.BoolOp .And (b::dP) pos) tb):PE X (.BoolOp .And (a::b::dP) pos) (uh ta tb):=by
 intro e s f H Q I h;refine BoolOp_and (ed (i e s f H _ I h) λv s1 ⟨x,H1,I1,r1,d⟩=>?_);obtain⟨c,rfl,d⟩:=d;cases r1;refine wpAny_truthy_bool ?_;cases c with
 |true=>exact g e s1 f H1 Q I1 d
 |false=>exact⟨.bl false,H1,I1,rfl,d⟩
def zX(e:PE X a ta):PE X (.UnaryOp .Not a pos) (uJ ta):=by intro f s g H Q I h;refine UnaryOp_ (ed (e f s g H _ I h) λv s1 ⟨x,H1,I1,r1,d⟩=>?_);obtain⟨c,rfl,d⟩:=d;cases r1;exact not_of (wpAny_truthy_bool ⟨.bl (!c),H1,I1,rfl,d⟩)
end
end L2
namespace L2
open PySem PySem.Spec PyProof.Rows
def fQ(K:W.Frag)(H:Hp)(a:Addr)(c:List V):Prop:=
 Rd H a (.lst c)\/
  ∃(o:Obj) (b:Array Vq) (n:Nat),K.lookup a=some o/\o.cls=.type "list" /\o.dict=none/\o.data=.seq b n/\b.size<=sizeLine/\c8 c b.toList
def f6(K:W.Frag)(H:Hp)(a:Addr)(c:List V):Prop:=
 Rd H a (.tup c)\/
  ∃(o:Obj) (b:Array Vq) (n:Nat),K.lookup a=some o/\o.cls=.type "tuple" /\o.data=.seq b n/\b.size<=sizeLine/\c8 c b.toList
def CW:Vq->Option V
 |.none=>some .non
 |.bool b=>some (.bl b)
 |.int i _=>some (.int i)
 |.str x _=>some (.str x)
 |.bytes b _=>some (.byt b)
 |.float b _=>some (.flt b)
 |.ref a=>some (.ref a)
 |.type n=>some (.ty n)
 |_=>none
def dC.abs(r:dC x u):CW u=some x:=by
 cases x with
 |non=>cases r;rfl
 |bl _=>cases r;rfl
 |int _=>obtain⟨t,rfl⟩:=r;rfl
 |str _=>obtain⟨t,rfl⟩:=r;rfl
 |byt _=>obtain⟨t,rfl⟩:=r;rfl
 |flt _=>obtain⟨t,rfl⟩:=r;rfl
 |ref _=>cases r;rfl
 |ty _=>cases r;rfl
def dC.inj(r:dC x u)(q:dC y u):x=y:=Option.some.inj (r.abs.symm.trans q.abs)
theorem c8.inj:∀{xs ys} {us},c8 xs us->c8 ys us->xs=ys
 |_,_,_,.nil,.nil=>rfl
 |_,_,_,.cons r t,.cons r' t'=>by rw[r.inj r',c8.inj t t']
section
variable {X:Cx}{cD:List (Addr×Obj)}{σ:St}{H:Hp}{s:Sq}{a:Addr}{xs ys:List V}
def fQ.of{K:W.Frag}(h:H a=some (.lst xs)):fQ K H a xs:=.inl (.inl h)
def f6.of{K:W.Frag}(h:H a=some (.tup xs)):f6 K H a xs:=.inl (.inl h)
def cS.list(I:cS X cD σ H s)(h:fQ X.K H a xs):∃b:List Vq,c8 xs b/\PlainL s.heap a b.toArray/\xs.length<=sizeLine:=by
 rcases h with h|⟨o,b,n,d,c,g,f,i,r⟩
 .obtain⟨z,b,n,r,e⟩:=h.ok I.hok;exact⟨b,r,⟨_,n,e,rfl,rfl,rfl⟩,z⟩
 .refine⟨b.toList,r,⟨o,n,I.kIn a o d,c,g,by simpa using f⟩,?_⟩;have e:=r.length;simp only[bo]at e;omega
def cS.tuple(I:cS X cD σ H s)(h:f6 X.K H a xs):∃b:List Vq,c8 xs b/\IsTup s.heap a b.toArray/\xs.length<=sizeLine:=by
 rcases h with h|⟨o,b,n,d,c,f,g,r⟩
 .obtain⟨z,b,r,p⟩:=h.ok I.hok;exact⟨b,r,p.tup,z⟩
 .refine⟨b.toList,r,⟨o,I.kIn a o d,c,n,by simpa using f⟩,?_⟩;have e:=r.length;simp only[bo]at e;omega
def cS.list_inj(I:cS X cD σ H s)(h:fQ X.K H a xs)(h':fQ X.K H a ys):xs=ys:=by
 obtain⟨c,r,⟨o,n,e,_,_,d⟩,_⟩:=I.list h;obtain⟨b,j,⟨l,k,f,_,_,g⟩,_⟩:=I.list h';rw[e]at f;cases f;rw[d]at g;injection g with i _;have:c=b:=by simpa using congrArg Array.toList i
 subst this;exact r.inj j
def cS.tuple_inj(I:cS X cD σ H s)(h:f6 X.K H a xs)(h':f6 X.K H a ys):xs=ys:=by
 obtain⟨c,r,⟨o,e,_,n,d⟩,_⟩:=I.tuple h;obtain⟨b,j,⟨l,f,_,k,g⟩,_⟩:=I.tuple h';rw[e]at f;cases f;rw[d]at g;injection g with i _;have:c=b:=by simpa using congrArg Array.toList i
 subst this;exact r.inj j
end
noncomputable abbrev Cx.wish(X:Cx)(E:Vq->Shared->Prop):Cx:={X with xe:=E}
abbrev Cx.nox(X:Cx):Cx:=X.wish λ_ _=>False
def Cx.Ok.wish{X:Cx}(ok:X.Ok) E:(X.wish E).Ok:=⟨ok.mod,ok.kind,ok.glob,ok.blt,ok.above,ok.inj,ok.has,ok.cab,ok.hd,ok.frames,ok.stk,ok.exf,ok.bs,ok.bsz,ok.noex,ok.exfs,ok.funs,ok.frf⟩
def Cx.Ok.unwish{X:Cx}(ok:(X.wish E).Ok):X.Ok:=⟨ok.mod,ok.kind,ok.glob,ok.blt,ok.above,ok.inj,ok.has,ok.cab,ok.hd,ok.frames,ok.stk,ok.exf,ok.bs,ok.bsz,ok.noex,ok.exfs,ok.funs,ok.frf⟩
section
variable {X:Cx}{cD:List (Addr×Obj)}{σ:St}{H:Hp}{s:Sq}{E:Vq->Shared->Prop}
def cS.wish(I:cS X cD σ H s) E:cS (X.wish E) cD σ H s:=⟨I.ok.wish E,I.os,I.bare,I.base,I.loc,I.cell,I.free,I.freeC,I.pin,I.hok,I.len⟩
def cS.unwish(I:cS (X.wish E) cD σ H s):cS X cD σ H s:=⟨I.ok.unwish,I.os,I.bare,I.base,I.loc,I.cell,I.free,I.freeC,I.pin,I.hok,I.len⟩
def SP.unwish(h:SP (X.wish E) cD D f s'):SP X cD D f s':=by
 cases f with
 |next=>obtain⟨a,b,I,q⟩:=h;exact⟨a,b,I.unwish,q⟩
 |brk=>obtain⟨a,b,I,q⟩:=h;exact⟨a,b,I.unwish,q⟩
 |cont=>obtain⟨a,b,I,q⟩:=h;exact⟨a,b,I.unwish,q⟩
 |ret u=>obtain⟨v,a,b,I,r,q⟩:=h;exact⟨v,a,b,I.unwish,r,q⟩
def jY.nox{st:List Stmt}(h:jY X.nox st t):jY X st t:=λcD s σ H D I hw=>wpAny_mono (h cD s σ H D (I.wish _) hw) (λ_ _ q=>q.unwish) λ_ _ z=>False.elim z
end
section
variable {X:Cx}{st:Stmt}{dP:List Stmt}{t u:TS}{e:Expr}{te:TE}{pos:Pos}
def rL:TS:=λD a H=>D.nx a H
def oR(t u:TS):TS:=λD σ H=>t {D with nx:=u D} σ H
def rm:jY X [] rL:=λ_ _ a H _ I h=>wpAny_execs_nil ⟨a,H,I,h⟩
def ij(g:PS X st t)(k:jY X dP u):jY X (st::dP) (oR t u):=by
 intro b s i H D I h;refine wpAny_execs_cons (ed (g b s i H {D with nx:=u D} I h) λf j q=>?_);cases f with
 |next=>obtain⟨a,d,c,q⟩:=q;exact k b j a d D c q
 |ret v=>exact q
 |brk=>exact q
 |cont=>exact q
def jt(b:PS X st t):jY X [st] t:=by
 intro a s c H D I h;refine wpAny_execs_cons (ed (b a s c H D I h) λf d q=>?_);cases f with
 |next=>exact wpAny_execs_nil q
 |ret v=>exact q
 |brk=>exact q
 |cont=>exact q
def cS.quiet(I:cS X cD σ H s):interactive X.env=false:=by simp[interactive,I.ok.kind]
def ou(te:TE):TS:=λD a H=>te a H λ_ b=>D.nx a b
def qQ(b:PE X e te)(c:swapsWith e none pos.line X.env=pure false:=by rfl):PS X (.Expr e pos) (ou te):=by intro d s a H D I h;exact wpAny_Expr_any (ed (b d s a H _ I h) λv s1 ⟨x,H1,I1,r1,q1⟩=>⟨a,H1,I1,q1⟩) I.quiet c
def qt(te:TE):TS:=λD a H=>te a H D.rt
def pN(b:PE X e te):PS X (.Return (some e) pos) (qt te):=by intro c s a H D I h;exact wpAny_Return_some (ed (b c s a H _ I h) λv s1 ⟨x,H1,I1,r1,q1⟩=>⟨x,a,H1,I1,r1,q1⟩)
def xF(c:TT)(t u:TS):TS:=λD a H=>c a H λb d=>if b=true then t D a d else u D a d
def yV(k:PT X c tc)(j:jY X a t)(i:jY X b u):PS X (.If c a b pos) (xF tc t u):=by
 intro f s g H D I h;refine wpAny_If (ed (k f s g H _ I h) λd s1 ⟨H1,I1,q1⟩=>?_);cases d with
 |true=>exact j f s1 g H1 D I1 q1
 |false=>exact i f s1 g H1 D I1 q1
end
abbrev TG:=V->St->Hp->(St->Hp->Prop)->Prop
abbrev yQ:=List V->St->Hp->(St->Hp->Prop)->Prop
def PG(X:Cx)(target:Expr)(t:TG):Prop:=
 ∀(b:List (Addr×Obj)) (s:Sq) (c:St) (H:Hp) (v:V) (u:Vq) (Q:St->Hp->Prop),cS X b c H s->dC v u->t v c H Q->
  wpAny (model X.prog X.w) X.A (assign target X.env u) (λ_ e=>∃a d,cS X b a d e/\Q a d) X.xe s
def Bd(X:Cx)(ts:List Expr)(t:yQ):Prop:=
 ∀(e:List (Addr×Obj)) (s:Sq) (f:St) (H:Hp) (c:List V) (b:List Vq) (Q:St->Hp->Prop),cS X e f H s->c8 c b->t c f H Q->
  wpAny (model X.prog X.w) X.A (assignInOrder ((assignEach ts X.env).map (·.2)) b) (λ_ g=>∃a d,cS X e a d g/\Q a d) X.xe s
abbrev BB:=V->V->V->Hp->(Hp->Prop)->Prop
def BH(X:Cx)(t:BB):Prop:=
 ∀(a:List (Addr×Obj)) (s:Sq) (c:St) (H:Hp) (o i v:V) (e b u:Vq) (Q:Hp->Prop),cS X a c H s->dC o e->dC i b->dC v u->t o i v H Q->
  wpAny (model X.prog X.w) X.A (setItem e b u) (λ_ f=>∃d,cS X a c d f/\Q d) X.xe s
section
variable {X:Cx}{pos:Pos}
def ek(i:Nat):TG:=λv a H Q=>Q (a.set i (some v)) H
def rd(e:X.N.Nodup)(a:X.N[i]? = some x)(d:rT X.env.scope x)(b:X.fn x=true\/X.env.scope.names.lookup x=some .local:=by first|exact .inl rfl|exact .inr rfl|assumption):PG X (.Name x pos) (ek i):=by intro g s j H v u Q I r h;exact wpAny_assign_Name (kz I e a d r (λf c=>⟨_,H,c,h⟩) b)
def xp:yQ:=λa b H Q=>a=[]/\Q b H
def oa(t:TG)(u:yQ):yQ:=λb c H Q=>∃v r,b=v::r/\t v c H λa d=>u r a d Q
def w6:Bd X [] xp:=by intro d s a H c b Q I r h;obtain⟨e,h⟩:=h;subst e;cases r;exact assignInOrder_nil ⟨a,H,I,h⟩
theorem uC(d:PG X e t)(g:Bd X es u)
  (c:(assignEach (e::es) X.env).map (·.2)=assign e X.env::(assignEach es X.env).map (·.2):=by rfl):Bd X (e::es) (oa t u):=by
 intro a s f H j i Q I r h;obtain⟨v,k,b,h⟩:=h;subst b;cases r with
 |cons r rr=>rw[c];refine assignInOrder_cons (ed (d a s f H _ _ _ I r h) λ_ s1 ⟨σ1,H1,I1,q1⟩=>?_);exact g a s1 σ1 H1 _ _ Q I1 rr q1
def xP(K:W.Frag)(n:Nat)(t:yQ):TG:=λv c H Q=>∃a b,v=.ref a/\f6 K H a b/\b.length=n/\t b c H Q
def zC(y:X.calm=true)(h:Bd X es t)
  (i:(assignEach es X.env).length=n:=by rfl) (c:(assignEach es X.env).findIdx? (·.1)=none:=by rfl):PG X (.Tuple es k pos) (xP X.K n t):=by
 intro w s m H v u Q I r hw;obtain⟨a,f,g,z,l,hw⟩:=hw;subst g;cases r;obtain⟨p,d,x,B⟩:=I.tuple z;refine assign_Tuple_tuple (I.ok.hd y) x (by simp[i,<-l,d.length]) c λA q=>?_;have j:=I.kept (t':=s.toks) λb o e=>q b o (aL (aK e)) e;exact h w _ m H f _ Q j (by simpa using d) hw
def Ay(to c:TE)(t:BB):TG:=λv a H Q=>to a H λo b=>c a b λi e=>t o i v e λd=>Q a d
def AM(f:PE X o to)(c:PE X i ti)(e:BH X t)
  (d:∀v,assign (.Subscript o i pos) X.env v=(do
   let ov <-holding [v] (eval o X.env)
   let iv <-holding [v,ov] (eval i X.env)
   standAt pos
   holding [v,ov,iv] (setItem ov iv v)
   release [v,ov,iv] []):=by intro _;rfl):PG X (.Subscript o i pos) (Ay to ti t):=by
 intro b s a H v u Q I r h;rw[d];refine ao (wpAny_holding (ed (f b s a H _ I h) λov s1 ⟨x,H1,I1,r1,q1⟩=>?_));refine ao (wpAny_holding (ed (c b s1 a H1 _ I1 q1) λiv s2 ⟨y,H2,I2,r2,q2⟩=>?_));refine ao (wpAny_standAt (ao (wpAny_holding (ed (e b s2 a H2 x y v ov iv u _ I2 r1 r2 r q2) λ_ s3 ⟨H3,I3,q3⟩=>?_))));exact wpAny_release ⟨a,H3,I3,q3⟩
def h7(c:TE)(g:TG):TS:=λD a H=>c a H λx b=>g x a b D.nx
def yX(c:PE X e te)(f:PG X tg g)(d:swapsWithSole [tg] e pos.line X.env=pure false:=by rfl)(hw:swappedStores [tg] e X.env=pure none:=by rfl)
  (i:(assignEach [tg] X.env).map (·.2)=[assign tg X.env]:=by rfl):PS X (.Assign [tg] e pos) (h7 te g):=by
 intro a s b H D I h;refine wpAny_Assign_stores (ed (c a s b H _ I h) λv s1 ⟨x,H1,I1,r1,q1⟩=>?_) d hw;rw[i];exact ed (f a s1 b H1 x v _ I1 r1 q1) λ_ j q=>q
def lI(k:X.N.Nodup)(a:X.N[i]? = some x)(d:rT X.env.scope x)(c:PE X e te)(f:swapsWith e (some (.Name x pos')) pos.line X.env=pure false:=by rfl)(b:X.fn x=true\/X.env.scope.names.lookup x=some .local:=by first|exact .inl rfl|exact .inr rfl|assumption) :
  PS X (.Assign [.Name x pos'] e pos) (h7 te (ek i)):=by
 intro g s l H D I h;refine wpAny_Assign_Name (ed (c g s l H _ I h) λv s1 ⟨y,H1,I1,r1,q1⟩=>?_) f;exact kz I1 k a d r1 (λm j=>⟨_,H1,j,q1⟩) b
end
section
variable {X:Cx}{pos:Pos}
def qE(c:TT)(h:TS):TS:=λD a H=>∃W:Nat->St->Hp->Prop,(∃m,W m a H)/\∀m a H,W m a H->
 c a H λb e=>if b=true then ∃N:St->Hp->Prop,(∀d g,N d g->∃f,f<m/\W f d g)/\h {D with nx:=N,ct:=N,bk:=D.nx} a e else D.nx a e
def uc(u:PassesOwn (model X.prog X.w) X.A X.env X.xe)(G:PT X c tc)(B:jY X body tb):PS X (.While c body [] pos) (qE tc tb):=by
 intro p s E H D I h;obtain⟨W,⟨z,K⟩,i⟩:=h;refine wpAny_While (codeAny_whileLoop (λn J=>∃e t,cS X p e t J/\W n e t) ?_ z ⟨E,H,I,K⟩);rintro n L ⟨d,x,C,F⟩;refine wpAny_passesOwn u (ed (G p L d x _ C (i n d x F)) λb s2 ⟨H2,I2,j⟩=>?_);cases b with
 |true=>
  obtain⟨N,y,j⟩:=j;rw[aP rfl];refine wpAny_passesOwn u (ed (B p s2 d H2 _ I2 j) λf P k=>?_);cases f with
  |next=>obtain⟨a,g,q,o⟩:=k;obtain⟨l,m,r⟩:=y a g o;exact⟨l,m,a,g,q,r⟩
  |cont=>obtain⟨a,g,q,o⟩:=k;obtain⟨l,m,r⟩:=y a g o;exact⟨l,m,a,g,q,r⟩
  |brk=>exact k
  |ret v=>exact k
 |false=>rw[aQ aG];exact wpAny_execs_nil ⟨d,H2,I2,j⟩
end
structure It where
 go:Nat->Hp->Prop
 yld:Nat->Hp->V->Hp->Prop
 stop:Nat->Hp->Prop
def kf(X:Cx)(a:List (Addr×Obj))(H:Hp)(b:Addr):Prop:=H b=none/\b≠X.env.locals/\b∉X.fs/\(b∈X.ex\/X.s₀.heap.objs.size<=b)/\(∀x c,X.env.cells.lookup x=some c->c≠b)/\∀p∈X.pn++a,p.1≠b
def cS.fpOk(I:cS X cD σ H s)(a:s.heap.objs.size<=b)(f:H' b=none):kf X cD H' b:=by
 refine⟨f,bp (aD I.lt a),I.nofs a,.inr (aM I.sz a),λx c e z=>?_,λp d z=>?_⟩
 .obtain⟨v,q⟩:=I.cell x c e;exact absurd (aD q.lt (by rw[z];exact a)) (aZ _)
 .exact absurd (aD (aK (I.pin p d).1) (by rw[z];exact a)) (aZ _)
structure sX(P:Program)(w:World)(K:W.Frag)(tg:Expr)(J:It)(fp:List Addr)(it:Addr)(tn:Nat->Heap->Prop):Prop where
 mem:it∈fp
 obj:∀i h,tn i h->∀b∈fp,∃o,h.get? b=some o/\∀v,o.data≠.cell v
 keep:∀i h h',tn i h->(∀b∈fp,∀o,h.get? b=some o->h'.get? b=some o)->tn i h'
 item:∀(X:Cx),X.prog=P->X.w=w->X.K=K->X.calm=true->∀(i:Nat) (cD:List (Addr×Obj)) (s:Sq) (σ:St) (H:Hp) (E:Vq->Shared->Prop),cS X cD σ H s->(∀b∈fp,kf X cD H b)->tn i s.heap->J.go i H->
  wpAny (model P w) X.A (pyNext (.ref it)) (λr s1=>∃u,r=some u/\
   wpAny (model P w) X.A (letOwnedTupleGo tg (.ref it) u) (λ_ s2=>∃x H',cS X cD σ H' s2/\dC x u/\J.yld i H x H'/\tn (i+1) s2.heap/\∀b∈fp,H' b=none) E s1) E s
 done:∀(X:Cx),X.prog=P->X.w=w->X.K=K->X.calm=true->∀(i:Nat) (cD:List (Addr×Obj)) (s:Sq) (σ:St) (H:Hp) (E:Vq->Shared->Prop),cS X cD σ H s->(∀b∈fp,kf X cD H b)->tn i s.heap->J.stop i H->
  wpAny (model P w) X.A (pyNext (.ref it)) (λr s1=>r=none/\cS X cD σ H s1) E s
 self:∀(A:Around) (i:Nat) (s:Sq) (Q:Vq->Shared->Prop) (E:Vq->Shared->Prop),tn i s.heap->Q (.ref it) s->wpAny (model P w) A (pyIter (.ref it)) Q E s
abbrev TI:=St->Hp->(It->Hp->Prop)->Prop
def Dr(X:Cx)(g:List (Addr×Obj))(h:St)(i:Expr)(R:It->Hp->Prop)(a:Vq)(e:Sq):Prop:=∃(it:Addr) (d:List Addr) (f:Nat->Heap->Prop) (J:It) (c:Hp),a=.ref it/\cS X g h c e/\sX X.prog X.w X.K i J d it f/\f 0 e.heap/\(∀b∈d,kf X g c b)/\R J c
def PI(X:Cx)(f a:Expr)(d:TI):Prop:=
 ∀(c:List (Addr×Obj)) (s:Sq) (b:St) (H:Hp) (R:It->Hp->Prop),cS X c b H s->d b H R->
  wpAny (model X.prog X.w) X.A (eval a X.env) (λv e=>wpAny (model X.prog X.w) X.A (pyIter v) (Dr X c b f R) X.xe e) X.xe s
theorem uH{M:Model}{A:Around}{E:Vq->Shared->Prop}{s:Sq}{b:Expr}{it:Addr}{u:Vq}{o:Obj}{n:String}{vs:Array Vq}{Q:Unit->Shared->Prop}(f:s.heap.get? it=some o)(c:o.cls=.type n)(d:o.data=.fields vs)
    (e:["enumerate", "zip", "dict_itemiterator", "dict_reverseitemiterator", "odict_iterator", "itertools.zip_longest", "itertools.pairwise"].contains n=false) (a:Q () s):wpAny M A (letOwnedTupleGo b (.ref it) u) Q E s:=by
  unfold letOwnedTupleGo;cases b<;>first
    |exact ak a
    | (cases u<;>first
        |exact ak a
        | (refine ao (wpAny_load f ?_)
           rw[c,d]
           show wpAny M A (if (["enumerate", "zip", "dict_itemiterator", "dict_reverseitemiterator", "odict_iterator", "itertools.zip_longest", "itertools.pairwise"].contains n&&vs[0]? == some (rawInt _))=true then _ else _) Q E s
           rw[aQ (by intro h;rw[e,Bool.false_and]at h;cases h)]
           exact ak a))
noncomputable def C2(K:W.Frag)(a:Addr):It:=⟨λi H=>∃b x,fQ K H a b/\b[i]? = some x,λi H x c=>c=H/\∀b,fQ K H a b->b[i]? = some x,λi H=>∃b,fQ K H a b/\b.length<=i⟩
noncomputable def CI(K:W.Frag)(a:Addr):It:=⟨λi H=>∃b x,f6 K H a b/\b[i]? = some x,λi H x c=>c=H/\∀b,f6 K H a b->b[i]? = some x,λi H=>∃b,f6 K H a b/\b.length<=i⟩
noncomputable def B5(a:Int)(n:Nat):It:=⟨λi _=>i<n,λi H x b=>b=H/\x=.int (a+i),λi _=>n<=i⟩
def sk{K:W.Frag} a it:sX P w K tg (C2 K a) [it] it (λi h=>h.IsListIter it a i) where
 mem:=by simp
 obj:=λi h f b g=>by
  have e:b=it:=by simpa using g
  subst e;obtain⟨o,e,c,d⟩:=f;exact⟨o,e,λv z=>by rw[d]at z;cases z⟩
 keep:=λi h J f k=>f.at λo e=>k it (by simp) o e
 item:=by intro X r hw t L i Z s Y H E I l f C;subst r hw t;obtain⟨N,x,m,B⟩:=C;obtain⟨y,D,p,U⟩:=I.list m;obtain⟨u,hu,ru⟩:=D.get B;obtain⟨F,G,f2,q,n,A⟩:=l it (by simp);refine wpAny_pyNext_list_item f p.isList (by simpa using hu) λJ j sb=>?_;have S:=I.turned (t':=s.toks) (λb o g e=>(sb.2 b g).trans e) F G q n A;obtain⟨o,e,c,d⟩:=id j;exact⟨u,rfl,uH e c d (by decide) ⟨x,H,S,ru,⟨rfl,λys Q=>by rw[I.list_inj Q m];exact B⟩,j,λb g=>(l b g).1⟩⟩
 done:=by intro X r hw t L i Z s Y H E I l f C;subst r hw t;obtain⟨N,m,B⟩:=C;obtain⟨y,D,p,U⟩:=I.list m;obtain⟨F,G,f2,q,n,A⟩:=l it (by simp);have hl:=D.length;exact wpAny_pyNext_list_end (I.ok.hd L) f p.isList (by simp;omega) λJ R=>⟨rfl,I.turned (λb o g e=>R b o g e) F G q n A⟩
 self:=λ_ _ _ _ _ f h=>wpAny_pyIter_listiter f h
def qm{K:W.Frag} a it:sX P w K tg (CI K a) [it] it (λi h=>h.IsTupleIter it a i) where
 mem:=by simp
 obj:=λi h f b g=>by
  have e:b=it:=by simpa using g
  subst e;obtain⟨o,e,c,d⟩:=f;exact⟨o,e,λv z=>by rw[d]at z;cases z⟩
 keep:=λi h J f k=>f.at λo e=>k it (by simp) o e
 item:=by intro X r hw t L i Z s Y H E I l f C;subst r hw t;obtain⟨N,x,m,B⟩:=C;obtain⟨y,D,p,U⟩:=I.tuple m;obtain⟨u,hu,ru⟩:=D.get B;obtain⟨F,G,f2,q,n,A⟩:=l it (by simp);refine wpAny_pyNext_tuple_item f (p) (by simpa using hu) λJ j sb=>?_;have S:=I.turned (t':=s.toks) (λb o g e=>(sb.2 b g).trans e) F G q n A;obtain⟨o,e,c,d⟩:=id j;exact⟨u,rfl,uH e c d (by decide) ⟨x,H,S,ru,⟨rfl,λys Q=>by rw[I.tuple_inj Q m];exact B⟩,j,λb g=>(l b g).1⟩⟩
 done:=by intro X r hw t L i Z s Y H E I l f C;subst r hw t;obtain⟨N,m,B⟩:=C;obtain⟨y,D,p,U⟩:=I.tuple m;obtain⟨F,G,f2,q,n,A⟩:=l it (by simp);have hl:=D.length;exact wpAny_pyNext_tuple_end (I.ok.hd L) f (p) (by simp;omega) λJ R=>⟨rfl,I.turned (λb o g e=>R b o g e) F G q n A⟩
 self:=λ_ _ _ _ _ f h=>wpAny_pyIter_tupleiter f h
def qx{K:W.Frag} it lo n:sX P w K tg (B5 lo n) [it] it (λi h=>IsRangeIter h it (lo+(i:Nat)*1) ((n:Int)-(i:Nat)) 1) where
 mem:=by simp
 obj:=λi h a b c=>by
  have e:b=it:=by simpa using c
  subst e;exact⟨_,a,λv z=>by have L:=z;cases L⟩
 keep:=λi h j a k=>k it (by simp) _ a
 item:=by intro X m hw p x i B s A H E I f a r;subst m hw p;obtain⟨u,y,J,l,g,q⟩:=f it (by simp);have W:=Walks.range (prog:=X.prog) (w:=X.w) (I.ok.hd x) it lo 1 n;refine W.item i s _ _ r a λv j C N d G=>?_;obtain⟨t,rfl⟩:=N;have F:cS X B A H {s with heap:=j,toks:=C}:=I.turned (λb o c e=>G b o (by simpa using c) e) u y l g q;refine⟨_,rfl,uH d rfl rfl (by decide) ⟨.int (lo+i),H,F,⟨t,?_⟩,⟨rfl,rfl⟩,d,λb c=>(f b c).1⟩⟩;rw[Int.mul_one]
 done:=by intro X m hw p x i B s A H E I f a r;subst m hw p;obtain⟨u,y,J,l,g,q⟩:=f it (by simp);exact wpAny_pyNext_range_end (I.ok.hd x) a (by have:n<=i:=r;omega) λj D=>⟨rfl,I.turned (λb o c e=>D b o c e) u y l g q⟩
 self:=λ_ _ _ _ _ a h=>wpAny_pyIter_rangeiter a h
end L2
namespace L2
open PySem PySem.Spec PyProof.Rows
section
variable {X:Cx}{tg:Expr}
def ue(K:W.Frag)(c:TE):TI:=λe H R=>c e H λx b=>∃a,x=.ref a/\(∃d,fQ K b a d)/\R (C2 K a) b
def zD(K:W.Frag)(c:TE):TI:=λe H R=>c e H λx b=>∃a,x=.ref a/\(∃d,f6 K b a d)/\R (CI K a) b
def wX(d:PE X l tl):PI X tg l (ue X.K tl):=by
 intro i s f H R I h;refine ed (d i s f H _ I h) λv s1 ⟨x,H1,I1,r1,q1⟩=>?_;obtain⟨a,e,⟨k,j⟩,q⟩:=q1;subst e;cases r1;obtain⟨g,n,p,m⟩:=I1.list j;refine wpAny_pyIter_list p.isList ?_;refine⟨s1.heap.objs.size,[s1.heap.objs.size],_,_,H1,rfl,I1.kept λb o e=>ae _ e,sk a _,⟨_,ar _ rfl,rfl,rfl⟩,λb c=>?_,q⟩;have e:b=s1.heap.objs.size:=by simpa using c
 subst e;exact I1.fpOk (aJ _) (I1.hok.fresh (aJ _))
def zf(d:PE X l tl):PI X tg l (zD X.K tl):=by
 intro i s f H R I h;refine ed (d i s f H _ I h) λv s1 ⟨x,H1,I1,r1,q1⟩=>?_;obtain⟨a,e,⟨k,j⟩,q⟩:=q1;subst e;cases r1;obtain⟨g,n,p,m⟩:=I1.tuple j;refine wpAny_pyIter_tuple (p) ?_;refine⟨s1.heap.objs.size,[s1.heap.objs.size],_,_,H1,rfl,I1.kept λb o e=>ae _ e,qm a _,⟨_,ar _ rfl,rfl,rfl⟩,λb c=>?_,q⟩;have e:b=s1.heap.objs.size:=by simpa using c
 subst e;exact I1.fpOk (aJ _) (I1.hok.fresh (aJ _))
def uX{a c:Int}(I:cS X cD σ H s)(k:-(2 ^ 62)<=a)(l:a<2 ^ 62)(j:-(2 ^ 62)<=c)(g:c<2 ^ 62)
  (q:R (B5 a (c-a).toNat) H):wpAny (model X.prog X.w) X.A (pyIter (.ref s.heap.objs.size)) (Dr X cD σ tg R) E {s with heap:=s.heap.push {cls:=.type "range",data:=.fields #[.int a t,.int c u,.int 1 v]},toks:=tk}:=by
 refine wpAny_pyIter_range (IsRange.new ..) (small_one k l j g) ?_;have d:cS X cD σ H {s with heap:=s.heap.push {cls:=.type "range",data:=.fields #[.int a t,.int c u,.int 1 v]},toks:=tk}:=I.kept λb o e=>ae _ e;refine⟨(s.heap.push {cls:=.type "range",data:=.fields #[.int a t,.int c u,.int 1 v]}).objs.size,[(s.heap.push {cls:=.type "range",data:=.fields #[.int a t,.int c u,.int 1 v]}).objs.size],_,_,H,rfl,
  d.kept λb o e=>ae _ e,qx _ a (c-a).toNat,?_,λb f=>?_,q⟩
 .have i:a+((0:Nat):Int)*1=a:=by simp
  have h:(((c-a).toNat:Nat):Int)-((0:Nat):Int)=Builtin.Range.rangeSize a c 1:=by rw[rangeSize_one];split<;>omega
  rw[i,h];exact ar _ rfl
 .have e:b=(s.heap.push {cls:=.type "range",data:=.fields #[.int a t,.int c u,.int 1 v]}).objs.size:=by simpa using f
  subst e;exact d.fpOk (aJ _) (d.hok.fresh (aJ _))
def v5(a:TA):TI:=λd H R=>a d H λc b=>∃j:Int,c=[.int j]/\-(2 ^ 62)<=j/\j<2 ^ 62/\R (B5 0 j.toNat) b
def sJ(i:Gl X "range")(d:X.mg "range" = none)(c:PA X [a] ta)(f:starEach [a] X.env=[(false,eval a X.env)]:=by rfl):PI X tg (.Call (.Name "range" p) [a] [] pos) (v5 ta):=by
 intro g s k H R I h;refine Call_ (kW I i d boot_range (PyProof.Rows.callWith_type1 (ed (c pos g s k H _ I h) λus s1 ⟨vs,H1,I1,r1,b⟩=>?_) f rfl));obtain⟨j,e,b,l,q⟩:=b;subst e;cases r1 with
 |cons r rr=>cases rr;obtain⟨t,rfl⟩:=r;exact call_range_1 (uX I1 (by omega) (by omega) b l (by simpa using q))
def uN(f:TI)(g:TG)(h:TS):TS:=λD a H=>f a H λJ j=>∃W:Nat->Nat->St->Hp->Prop,(∃m,W 0 m a j)/\∀i m a H,W i m a H->
 (J.stop i H/\D.nx a H)\/(J.go i H/\∃N:St->Hp->Prop,(∀b c,N b c->∃e,e<m/\W (i+1) e b c)/\∀x c,J.yld i H x c->g x a c λd k=>h {D with nx:=N,ct:=N,bk:=D.nx} d k)
noncomputable def kY(a:List Addr)(h:Heap):List (Addr×Obj):=a.filterMap λb=>(h.get? b).map λo=>(b,o)
def gZ(a:b∈fp)(e:h.get? b=some o):(b,o)∈kY fp h:=bq.mpr ⟨b,a,by rw[e];rfl⟩
def sD(c:p∈kY fp h):p.1∈fp/\h.get? p.1=some p.2:=by
 obtain⟨b,a,e⟩:=bq.mp c;cases q:h.get? b with
 |none=>rw[q]at e;cases e
 |some o=>rw[q]at e;have d:=Option.some.inj e;subst d;exact⟨a,q⟩
def cS.pinned(I:cS X cD σ H s)(f:∀b∈fp,kf X cD H b)(k:∀b∈fp,∃o,s.heap.get? b=some o/\∀v,o.data≠.cell v):cS X (cD++kY fp s.heap) σ H s:=I.pins_of λp g=>(ai.mp g).elim (λz=>I.pin p (br _ z)) λz=>by obtain⟨a,e⟩:=sD z;obtain⟨h,i,j,_⟩:=f p.1 a;obtain⟨o,c,d⟩:=k p.1 a;rw[e]at c;cases c;exact⟨e,h,i,j,d⟩
def cS.unpinned(I:cS X (cD++pl) σ H s):cS X cD σ H s:=I.pins_of λp a=>I.pin p (br _ (ax _ a))
theorem t7(F:PassesOwn (model X.prog X.w) X.A X.env X.xe)(hc:X.calm=true)(hi:PI X tg iter wi)(hg:PG X tg g)(l:jY X body tb)
  (hs:∀x,foldedSetIterable iter X.env x=pure x:=by intro _;rfl):PS X (.For tg iter body [] pos) (uN wi g tb):=by
 intro B s Z H D I h;refine wpAny_For (ed (hi B s Z H _ I h) λv s1 h1=>ed h1 λitv s2 h2=>?_) hs;obtain⟨it,E,tn,J,H2,e,I2,T,R,f2,W,⟨m0,w0⟩,G⟩:=h2;subst e;have p:∀{y:Hp},(∀b∈E,y b=none)->∀b∈E,kf X B y b:=λhn b l=>⟨hn b l,(f2 b l).2⟩;refine codeAny_forLoop_any (λn s'=>∃i c y,cS X B c y s'/\tn i s'.heap/\(∀b∈E,y b=none)/\W i n c y) ?_ m0 ⟨0,Z,H2,I2,R,λb l=>(f2 b l).1,w0⟩;rintro n Y ⟨i,q,Q,I3,C,L,w3⟩;rcases G i n q Q w3 with⟨P,qn⟩|⟨go,N,hN,step⟩
 .refine wpAny_passesOwn F (ed (T.done X rfl rfl rfl hc i B Y q Q X.xe I3 (p L) C P) λr s4 ⟨hr,I4⟩=>?_);subst hr;exact wpAny_execs_nil ⟨q,Q,I4,qn⟩
 .refine wpAny_passesOwn F (ed (T.item X rfl rfl rfl hc i B Y q Q X.xe I3 (p L) C go) λr s4 ⟨u,hr,h4⟩=>?_);subst hr;refine wpAny_passesOwn F (ed h4 λ_ s5 ⟨x,H5,I5,r5,y5,st5,fr5⟩=>?_);have U:=I5.pinned (p fr5) (T.obj _ _ st5);refine wpAny_passesOwn F (ed (hg _ s5 q H5 x u _ U r5 (step x H5 y5)) λ_ s6 ⟨σ6,H6,I6,q6⟩=>?_);refine wpAny_passesOwn F (ed (l _ s6 σ6 H6 _ I6 q6) λf S z=>?_);have j:∀{a:St} {t:Hp},cS X (B++kY E s5.heap) a t S->N a t->∃m,m<n/\∃i c y,cS X B c y S/\tn i S.heap/\(∀b∈E,y b=none)/\W i m c y:=λ{a t} k K=>by obtain⟨m',hm,w7⟩:=hN a t K;refine⟨m',hm,i+1,a,t,k.unpinned,T.keep _ _ _ st5 λb l o e=>(k.pin (b,o) (br _ (br _ (gZ l e)))).1,λb l=>?_,w7⟩;obtain⟨o,e,d⟩:=T.obj _ _ st5 b l;exact (k.pin (b,o) (br _ (br _ (gZ l e)))).2.1
  cases f with
  |next=>obtain⟨a,t,k,K⟩:=z;exact j k K
  |cont=>obtain⟨a,t,k,K⟩:=z;exact j k K
  |brk=>obtain⟨a,t,k,z⟩:=z;exact⟨a,t,k.unpinned,z⟩
  |ret v=>obtain⟨x7,a,t,k,r7,z⟩:=z;exact⟨x7,a,t,k.unpinned,r7,z⟩
end
end L2
namespace L2
open PySem PySem.Spec PyProof.Rows
abbrev R2:=V->V->Hp->VK->Prop
def jd(X:Cx)(f:Vq->Value->Sem Value)(r:R2):Prop:=
 ∀(b:List (Addr×Obj)) (s:Sq) (a:St) (H:Hp) (x y:V) (v u:Vq) (Q:VK),cS X b a H s->dC x v->dC y u->r x y H Q->
  wpAny (model X.prog X.w) X.A (f v u) (EP X b a Q) X.xe s
def C9(X:Cx)(f:Vq->Sem Value)(r:V->Hp->VK->Prop):Prop:=
 ∀(b:List (Addr×Obj)) (s:Sq) (a:St) (H:Hp) (x:V) (v:Vq) (Q:VK),cS X b a H s->dC x v->r x H Q->
  wpAny (model X.prog X.w) X.A (f v) (EP X b a Q) X.xe s
def e8(X:Cx)(f:Vq)(r:List V->Hp->VK->Prop):Prop:=
 ∀(d:List (Addr×Obj)) (s:Sq) (c:St) (H:Hp) (b:List V) (a:List Vq) (Q:VK),cS X d c H s->c8 b a->r b H Q->
  wpAny (model X.prog X.w) X.A (call f a) (EP X d c Q) X.xe s
def lQ(r:R2)(b d:TE):TE:=λa H Q=>b a H λx c=>d a c λy e=>r x y e Q
def Di(r:V->Hp->VK->Prop)(a:TE):TE:=λc H Q=>a c H λx b=>r x b Q
def rI(C:Int->Int->Prop)(g:Int->Int->V):R2:=λx y H Q=>∃i j,x=.int i/\y=.int j/\C i j/\Q (g i j) H
def sY(g:Int->Int->V):R2:=λx y H Q=>∃i j,x=.int i/\y=.int j/\Q (g i j) H
def rU(g:Int->V):V->Hp->VK->Prop:=λx H Q=>∃i,x=.int i/\Q (g i) H
section
variable {X:Cx}{a b c:Expr}{ta tb tc:TE}{pos:Pos}
def za(m:PE X a ta)(k:PE X b tb){R:V->V->Hp->Prop}(I:cS X cD σ H s)
  (h:ta σ H λx j=>tb σ j λy d=>R x y d) {f:Vq->Value->Sem Value}
  (l:∀v u i x y d,cS X cD σ d i->dC x v->dC y u->R x y d->wpAny (model X.prog X.w) X.A (f v u) Q X.xe i) :
  wpAny (model X.prog X.w) X.A (eval a X.env) (λv g=>wpAny (model X.prog X.w) X.A (eval b X.env) (λu e=>wpAny (model X.prog X.w) X.A (f v u) Q X.xe e) X.xe g) X.xe s:=by
 refine ed (m cD s σ H _ I h) λv s1 ⟨x,j,I1,r1,q1⟩=>?_;refine ed (k cD s1 σ j _ I1 q1) λu i ⟨y,d,I2,r2,q2⟩=>?_;exact l v u i x y d I2 r1 r2 q2
def vQ(n:jd X (binaryOp op) r)(e:PE X a ta)(d:PE X b tb):PE X (.BinOp a op b pos) (lQ r ta tb):=by intro j s g H Q I h;exact wpAny_BinOp (za e d I h λv u i x y m l f k q=>n j i g m x y v u Q l f k q)
def BK(g:C9 X (unaryOp op) r)(f:PE X a ta):PE X (.UnaryOp op a pos) (Di r ta):=by intro d s e H Q I h;exact UnaryOp_ (ed (f d s e H _ I h) λv s1 ⟨x,H1,I1,r1,q1⟩=>g d s1 e H1 x v Q I1 r1 q1)
def Cp{g:Int->Int->Int}
  (d:∀i j t u s Q E,C i j->Q (.int (g i j) s.toks) {s with toks:=s.toks+1}->wpAny (model X.prog X.w) X.A (f (.int i t) (.int j u)) Q E s) :
  jd X f (rI C λi j=>.int (g i j)):=by
 intro o s n H x y v u Q I k l h;obtain⟨i,j,rfl,rfl,m,q⟩:=h;obtain⟨t,rfl⟩:=k;obtain⟨e,rfl⟩:=l;exact d i j t e s _ _ m ⟨.int (g i j),H,I.tok _,⟨_,rfl⟩,q⟩
def B0{g:Int->Int->Int}
  (d:∀i j t u s Q E,Q (.int (g i j) s.toks) {s with toks:=s.toks+1}->wpAny (model X.prog X.w) X.A (f (.int i t) (.int j u)) Q E s) :
  jd X f (sY λi j=>.int (g i j)):=by
 intro n s m H x y v u Q I k l h;obtain⟨i,j,rfl,rfl,q⟩:=h;obtain⟨t,rfl⟩:=k;obtain⟨e,rfl⟩:=l;exact d i j t e s _ _ ⟨.int (g i j),H,I.tok _,⟨_,rfl⟩,q⟩
def zg{g:Int->Int->Bool}
  (d:∀(i j:Int) (t u:Tok) (s:Sq) (Q:Vq->Shared->Prop) (E:Vq->Shared->Prop),Q (.bool (g i j)) s->wpAny (model X.prog X.w) X.A (f (.int i t) (.int j u)) Q E s) :
  jd X f (sY λi j=>.bl (g i j)):=by
 intro n s m H x y v u Q I k l h;obtain⟨i,j,rfl,rfl,q⟩:=h;obtain⟨t,rfl⟩:=k;obtain⟨e,rfl⟩:=l;exact d i j t e s _ _ ⟨.bl (g i j),H,I,rfl,q⟩
def BI(i j:Int):Prop:=0<=j/\j<=1000000/\i.natAbs<2 ^ 64
def zQ:jd X (binaryOp .Add) (sY λi j=>.int (i+j)):=B0 λ_ _ _ _ _ _ _ q=>add_int q
def AA:jd X (binaryOp .Sub) (sY λi j=>.int (i-j)):=B0 λ_ _ _ _ _ _ _ q=>sub_int q
def yc:jd X (binaryOp .Mod) (rI (λ_ j=>j≠0) λi j=>.int (i.fmod j)):=Cp λ_ _ _ _ _ _ _ d q=>mod_int' d q
def AY:jd X (binaryOp .Pow) (rI BI λi j=>.int (i ^ j.toNat)):=Cp λ_ _ _ _ _ _ _ d q=>pow_int_small d.1 d.2.1 d.2.2 q
def DH{g:Int->Int}
  (d:∀i t s Q E,Q (.int (g i) s.toks) {s with toks:=s.toks+1}->wpAny (model X.prog X.w) X.A (f (.int i t)) Q E s) :
  C9 X f (rU λi=>.int (g i)):=by
 intro j s k H x v Q I e h;obtain⟨i,rfl,q⟩:=h;obtain⟨t,rfl⟩:=e;exact d i t s _ _ ⟨.int (g i),H,I.tok _,⟨_,rfl⟩,q⟩
def AS:C9 X (unaryOp .USub) (rU λi=>.int (-i)):=DH λ_ _ _ _ _ q=>neg_int q
end
section
variable {X:Cx}{a b c:Expr}{ta tb tc:TE}{pos:Pos}
def ze(I:cS X cD σ H s)(q:Q (.bl k) H)(e:k=k'):EP X cD σ Q (.bool k') s:=by subst e;exact⟨.bl k,H,I,rfl,q⟩
def yN:jd X (compareOp .Lt) (sY λi j=>.bl (decide (i<j))):=zg λ_ _ _ _ _ _ _ q=>lt_int q
def vM:jd X (compareOp .LtE) (sY λi j=>.bl (decide (i<=j))):=zg λ_ _ _ _ _ _ _ q=>le_int q
def vq:jd X (compareOp .GtE) (sY λi j=>.bl (decide (j<=i))):=zg λ_ _ _ _ _ _ _ q=>ge_int q
def tJ:jd X (compareOp .Is) (λx y H Q=>y=.non/\Q (.bl (decide (x=.non))) H):=by
 intro f s g H x y v u Q I d e h;obtain⟨rfl,q⟩:=h;cases e;refine is_none_gen (ze I q ?_);cases x<;>first
  | (cases d;rfl)
  | (obtain⟨t,rfl⟩:=d;rfl)
def jN b (h:op≠.In:=by decide) (f:op≠.NotIn:=by decide):behindInMarks op b=false:=by
 have d:(op==CmpOp.In)=false:=by cases op<;>first|rfl|exact absurd rfl h
 have e:(op==CmpOp.NotIn)=false:=by cases op<;>first|rfl|exact absurd rfl f
 cases b<;>simp[behindInMarks,d,e]
def wQ(o:jd X (compareOp op) r)(f:PE X a ta)(e:PE X b tb)(d:behindInMarks op b=false):PE X (.Compare a [op] [b] pos) (lQ r ta tb):=by intro k s i H Q I h;exact wpAny_Compare1 (za f e I h λv u j x y n m g l q=>o k j i n x y v u Q m g l q) d
def pI(t:TE):TT:=λd H Q=>t d H λx e=>∃k,x=.bl k/\Q k e
def yw(l:jd X (compareOp op) r)(i:PE X a ta)(g:PE X b tb)(j:behindInMarks op b=false):PT X (.Compare a [op] [b] pos) (pI (lQ r ta tb)):=by
 intro d s f H Q I h;refine wpAny_isTrue_Compare1 (ed (i d s f H _ I h) λv s1 ⟨x,H1,I1,r1,q1⟩=>ed (g d s1 f H1 _ I1 q1) λu s2 ⟨y,H2,I2,r2,q2⟩=>ed (l d s2 f H2 x y v u _ I2 r1 r2 q2) λc s3 ⟨z,H3,I3,r3,k,e,q3⟩=>?_) j
 subst e;cases r3;exact wpAny_truthy_bool ⟨H3,I3,q3⟩
def p6(r i:R2)(ta tb tc:TE):TE:=λd H Q=>ta d H λx f=>tb d f λy j=>r x y j λz e=>∃k,z=.bl k/\
 (if k=true then tc d e λh g=>i y h g Q else Q (.bl false) e)
theorem vX(o:jd X (compareOp op) r)(i:jd X (compareOp op') r')(l:PE X a ta)(j:PE X b tb)(m:PE X c tc)
  (n:lastMarks [op,op'] [b,c]=false:=by with_unfolding_all rfl):PE X (.Compare a [op,op'] [b,c] pos) (p6 r r' ta tb tc):=by
 intro f s g H Q I h;refine Compare_chain (ed (l f s g H _ I h) λv s1 ⟨x,H1,I1,r1,q1⟩=>chain_link (ed (j f s1 g H1 _ I1 q1) λu s2 ⟨y,H2,I2,r2,q2⟩=>ed (o f s2 g H2 x y v u _ I2 r1 r2 q2) λd s3 ⟨z,H3,I3,r3,k,e,q3⟩=>?_)) n
 subst e;cases r3;refine wpAny_truthy_bool ?_;cases k with
 |false=>exact ite_ff ⟨.bl false,H3,I3,rfl,q3⟩
 |true=>exact ite_tt (chain_last (ed (m f s3 g H3 _ I3 q3) λw' s4 ⟨z',H4,I4,r4,q4⟩=>i f s4 g H4 y z' u w' Q I4 r2 r4 q4))
def nC:(sizeLine:Nat)<2 ^ 63:=by rw[sizeLine_eq];decide
def qL:jd X (binaryOp .Add) (λx y H Q=>∃i j,x=.str i/\y=.str j/\i.length+j.length<=sizeLine/\Q (.str (i++j)) H):=by intro m s l H x y v u Q I f g h;obtain⟨i,j,rfl,rfl,e,q⟩:=h;obtain⟨t,rfl⟩:=f;obtain⟨d,rfl⟩:=g;exact add_str (λd k=>⟨.str (i++j),H,I.tok _,⟨_,rfl⟩,q⟩) e
def ky(r:c8 [x] us):∃u,us=[u]/\dC x u:=by
 cases r with
 |cons r1 r2=>cases r2;exact⟨_,rfl,r1⟩
def BS(r:c8 [x,y] us):∃u d,us=[u,d]/\dC x u/\dC y d:=by
 cases r with
 |cons r1 r2=>
  cases r2 with
  |cons r3 r4=>cases r4;exact⟨_,_,rfl,r1,r3⟩
def Ax(K:W.Frag)(x:V)(H:Hp)(n:Nat):Prop:=
 match x with
 |.str y=>y.length<=sizeLine/\n=y.length
 |.byt y=>y.size<=sizeLine/\n=y.size
 |.ref p=>(∃d,fQ K H p d/\n=d.length)\/∃d,f6 K H p d/\n=d.length
 |_=>False
def vo:e8 X (.builtin "len") (λf H Q=>∃x n,f=[x]/\Ax X.K x H n/\Q (.int n) H):=by
 intro z s w H f A Q I r h;obtain⟨x,n,rfl,e,q⟩:=h;obtain⟨u,rfl,i⟩:=ky r;have v:=sizeLine_eq;cases x with
 |str y=>obtain⟨t,rfl⟩:=i;obtain⟨hy,d⟩:y.length<=sizeLine/\n=y.length:=e;subst d;exact len_str (by omega) ⟨.int _,H,I.tok _,⟨_,rfl⟩,q⟩
 |byt y=>obtain⟨t,rfl⟩:=i;obtain⟨hy,d⟩:y.size<=sizeLine/\n=y.size:=e;subst d;exact W.len_bytes (by omega) ⟨.int _,H,I.tok _,⟨_,rfl⟩,q⟩
 |ref p=>
  cases i;have d:=e;rcases d with⟨f,k,d⟩|⟨f,k,d⟩
  .subst d;obtain⟨j,l,m,o⟩:=I.list k;have g:=l.length;exact Calls.call_len_list m.isList (by simp only[bt];omega) ⟨.int f.length,H,I.tok _,⟨_,by simp only[bt];rw[g]⟩,q⟩
  .subst d;obtain⟨j,l,m,o⟩:=I.tuple k;have g:=l.length;exact len_tuple m (by simp only[bt];omega) ⟨.int f.length,H,I.tok _,⟨_,by simp only[bt];rw[g]⟩,q⟩
 |_=>exact (e).elim
end
end L2
namespace L2
open PySem PySem.Spec PyProof.Rows
structure qf(h:Heap)(x dx C:Addr)(mA:Str->Option Value):Prop where
 obj:h.get? x=some (W.instObj C dx)
 ns:h.Ns1 dx mA
 ne:dx≠x
def mn{h:Heap}(n:h.Ns1 dx mA):∃c,h.get? dx=some c/\∀name,W.lookIn name c=some (mA name):=by
 obtain⟨o,d,m,l,i,j,_,g⟩:=n;refine⟨o,l,λname=>?_⟩;have e:=g name;unfold nsFind findBy at e;rw[<-Array.find?_toList]at e;unfold W.lookIn;rw[i];dsimp only;split
 .rename_i y q;rw[q]at e;exact congrArg some e
 .rename_i q;rw[q]at e;have a:d.toList.any (·.refKey)=false:=by rw[List.any_eq_false];intro y f;obtain⟨z,t,b⟩:=j y (Array.mem_toList_iff.mp f);simp[DictEntry.refKey,b]
  have k:¬d.toList.any (·.refKey)=true:=by rw[a];exact aG
  rw[aQ k];exact congrArg some e
def qf.look(I:qf h x dx C mA):∃a,W.InstAt h x (W.instObj C dx) C (some a)/\∀name,W.lookIn name a=some (mA name):=
 let ⟨a,ho,hl⟩:=mn I.ns
 ⟨a,⟨I.obj,rfl,rfl,ho⟩,hl⟩
section
variable {prog:Program}{w:World}{A:Around}{E:Vq->Shared->Prop}{s:Sq}{K:W.Frag}{x dx C f:Addr}{mA:Str->Option Value}{name:Str}{v:Vq}
def yt(X:K.In s.heap)(I:qf s.heap x dx C mA)(d:W.plainGet K C name=true)(e:W.hasDictIn K C=true)
  (b:W.findIn K (.ref C) name=some none) (g:mA name=some v) (a:W.handedIn v=true) (h:Q v {s with toks:=s.toks+1}) :
  wpAny (model prog w) A (getAttr (.ref x) name expr) Q E s:=by
 obtain⟨i,J,c⟩:=I.look;exact W.get_value X J (W.plainGet_of d).1 (W.findObj_own e b rfl (by rw[c,g])) a h
def vF(X:K.In s.heap)(I:qf s.heap x dx C mA)(a:W.plainGet K C name=true)
  (b:W.findIn K (.ref C) name=some (some (.ref f))) (c:W.isFn K (.ref f)=true) (g:mA name=none) (h:Q (.ref f,[.ref x]) s) :
  wpAny (model prog w) A (getMethod (.ref x) name pl) Q E s:=by
 obtain⟨d,J,e⟩:=I.look;exact W.method_fn X J (W.plainGet_of a).1 (W.plainGet_of a).2 b (beq_iff_eq.mp c) (by show (W.lookIn name d).map (·.isSome)=some false;rw[e,g];rfl) h
def xO(X:K.In s.heap)(I:qf s.heap x dx C mA)
  (m:W.findIn K (.ref C) "__setattr__" = some (some (.builtin "object.__setattr__"))) (k:W.plainOver K C=true) (q:W.takerIn K C name=some none) (p:W.hasDictIn K C=true)
  (hw:PySem.Within mA ns) (n:ns.length<=sizeLine)
  (h:∀h',qf h' x dx C (λy=>if y=name then some v else mA y)->Heap.SameBut dx s.heap h'->Q () {s with heap:=h',toks:=s.toks+2}) :
  wpAny (model prog w) A (setAttr (.ref x) name v) Q E s:=by
 obtain⟨u,J,B⟩:=I.look;refine W.set_plain X J m (W.osa_open X J k q λb=>?_);obtain⟨z,r,g⟩:=W.any_some p;have o:=I.obj;refine ao (ak (ao (ao (wpAny_loadPart o (ao (W.Looks.here (W.looks_clsIn X r) ?_))))));rw[g];refine ak (ao (ak (ao ?_)));refine wpAny_nsSet1 I.ns λh' c a=>?_;obtain⟨t,j,l,d,e,i⟩:=c.count (PySem.Within.cons name v hw);refine ao (wpAny_lookBehind d (by rw[e];exact pastItsLine_dict (aM i (by rw[ay];omega))) ?_);exact ak (h _ ⟨(a.2 _ (Ne.symm I.ne)).trans I.obj,c,I.ne⟩ a)
def vB(X:K.In s.heap)(e:W.makesIn K C=true)
  (b:W.findIn K (.ref C) "__init__" = some (some (.ref f))) (c:W.typeIn K (.ref f)=some (.type "function"))
  (h:codeAny (model prog w) (A.under (.builtin "type.__call__" ⟨.ref C::vs,kw⟩)) (.call (.ref f) ⟨.ref (s.heap.objs.size+1)::vs,kw⟩) (W.InitBack (s.heap.objs.size+1) R)
   {s with heap:=(s.heap.push W.emptyDict).push (W.instObj C s.heap.objs.size)}) :
  codeAny (model prog w) A (.call (.ref C) ⟨vs,kw⟩) R s:=by
 obtain⟨j,g,d,t,i⟩:=s;exact W.make_core (W.makes_of X e) (W.looks_findIn X b) (λa=>W.bind_fn X a c) (.inl rfl) h
end
def ia(f:Str)(v:V):List (Str×V)->List (Str×V)
 |[]=>[(f,v)]
 | (g,x)::r=>if g=f then (g,v)::r else (g,x)::ia f v r
theorem j6 f g v:∀fs:List (Str×V),(ia f v fs).lookup g=if g=f then some v else fs.lookup g
 |[]=>by
  show List.lookup g [(f,v)]=_;by_cases h:g=f
  .have a:=beq_iff_eq.mpr h;simp only[List.lookup,a,aP h]
  .have a:=beq_eq_false_iff_ne.mpr h;simp only[List.lookup,a,aQ h]
 | (k,x)::r=>by
  have c:=j6 f g v r;rw[show ia f v ((k,x)::r)=(if k=f then (k,v)::r else (k,x)::ia f v r) from rfl];by_cases b:k=f
  .rw[aP b];by_cases h:g=k
   .have a:=beq_iff_eq.mpr h;simp only[List.lookup,a,aP (h.trans b)]
   .have a:=beq_eq_false_iff_ne.mpr h;simp only[List.lookup,a,aQ (λe:g=f=>h (e.trans b.symm))]
  .rw[aQ b];by_cases h:g=k
   .have a:=beq_iff_eq.mpr h;simp only[List.lookup,a,aQ (λe:g=f=>b (h.symm.trans e))]
   .have a:=beq_eq_false_iff_ne.mpr h;simp only[List.lookup,a];exact c
theorem jL f v:∀fs:List (Str×V),f∈(ia f v fs).map (·.1)/\∀g,g∈fs.map (·.1)->g∈(ia f v fs).map (·.1)
 |[]=>⟨by simp[ia],λg h=>by simp at h⟩
 | (k,x)::r=>by
  obtain⟨b,c⟩:=jL f v r;rw[show ia f v ((k,x)::r)=(if k=f then (k,v)::r else (k,x)::ia f v r) from rfl];by_cases a:k=f
  .rw[aP a];subst a;exact⟨by simp,λg h=>by simpa using h⟩
  .rw[aQ a];refine⟨?_,λg h=>?_⟩
   .rw[bu];exact bj _ b
   .rw[bu]at h ⊢;rcases aE.mp h with e|e
    .exact aE.mpr (.inl e)
    .exact bj _ (c g e)
theorem jZ f v:∀fs:List (Str×V),(ia f v fs).length<=fs.length+1
 |[]=>by simp[ia]
 | (k,x)::r=>by
  have b:=jZ f v r;rw[show ia f v ((k,x)::r)=(if k=f then (k,v)::r else (k,x)::ia f v r) from rfl];by_cases a:k=f
  .rw[aP a,ay,ay];omega
  .rw[aQ a,ay,ay];omega
def nG.some_of(r:nG (some v) o):∃u,o=some u/\dC v u:=by
 cases o with
 |none=>exact (r).elim
 |some u=>exact⟨u,rfl,r⟩
def nG.none_of(r:nG none o):o=none:=by
 cases o with
 |none=>rfl
 |some u=>exact (r).elim
def mq(r:dC v u):W.handedIn u=true:=by
 cases v with
 |non=>cases (r);rfl
 |bl b=>cases (r);rfl
 |int i=>obtain⟨t,e⟩:=(r);cases e;rfl
 |str x=>obtain⟨t,e⟩:=(r);cases e;rfl
 |byt b=>obtain⟨t,e⟩:=(r);cases e;rfl
 |flt b=>obtain⟨t,e⟩:=(r);cases e;rfl
 |ref a=>cases (r);rfl
 |ty n=>cases (r);rfl
section
variable {P:Program}{w:World}{H H':Hp}{h h':Heap}{a C dx:Addr}{fs fs':List (Str×V)}
def kj(c:iW P w H h)(e:H a=some (.ins C dx fs)):∃b,qf h a dx C b/\(∀f,nG (fs.lookup f) (b f))/\PySem.Within b (fs.map (·.1))/\fs.length<=1000/\H dx=some (.own a):=by obtain⟨d,z,ne,g,b,n,r,q⟩:=(c a _ e);exact⟨b,⟨g,n,ne⟩,r,q,z,d⟩
end
structure lS(K:W.Frag)(C:Addr):Prop where
 pg:W.plainGet K C Str.empty=true
 hd:W.hasDictIn K C=true
 po:W.plainOver K C=true
 sa:W.findIn K (.ref C) "__setattr__" = some (some (.builtin "object.__setattr__"))
def lS.get{K:W.Frag}(c:lS K C) f:W.plainGet K C f=true:=c.pg
def fq(K:W.Frag)(C:Addr)(f:Str):Prop:=W.findIn K (.ref C) f=some none
def fq.taker{K:W.Frag}(n:fq K C f):W.takerIn K C f=some none:=by unfold W.takerIn;rw[show W.findIn K (.ref C) f=some none from n];rfl
structure pq(K:W.Frag)(C:Addr)(m:Str)(f:Addr):Prop where
 at_:W.findIn K (.ref C) m=some (some (.ref f))
 fn:W.isFn K (.ref f)=true
 kp:W.keepIn K (.ref f)=true
section
variable {X:Cx}{cD:List (Addr×Obj)}{σ:St}{H:Hp}{s:Sq}{a C dx:Addr}{fs:List (Str×V)}{f:Str}{v:V}{A:Around}{E:Vq->Shared->Prop}
def qw(I:cS X cD σ H s)(e:H a=some (.ins C dx fs))(c:lS X.K C)(n:fq X.K C f)(l:fs.lookup f=some v)
  (h:∀u g,cS X cD σ H g->dC v u->Q u g):wpAny (model X.prog X.w) A (getAttr (.ref a) f b) Q E s:=by
 obtain⟨j,O,r,_,_,_⟩:=kj I.hok e;obtain⟨u,i,d⟩:=nG.some_of (by rw[<-l];exact r f);exact yt I.kIn O (c.get f) c.hd n i (mq d) (h u _ (I.tok _) d)
def lB(I:cS X cD σ H s)(e:H a=some (.ins C dx fs))(c:lS X.K C)(k:pq X.K C m g)(l:fs.lookup m=none)
  (h:Q (.ref g,[.ref a]) s):wpAny (model X.prog X.w) A (getMethod (.ref a) m pl) Q E s:=by
 obtain⟨d,O,r,_,_,_⟩:=kj I.hok e;have b:=nG.none_of (by rw[<-l];exact r m);exact vF I.kIn O (c.get m) k.at_ k.fn b h
def qj(I:cS X cD σ H s)(e:H a=some (.ins C dx fs))(c:lS X.K C)(n:fq X.K C f)(G:fs.length<1000)(F:dC y u)
  (h:∀j,cS X cD σ (dB H a (.ins C dx (ia f y fs))) j->Q () j):wpAny (model X.prog X.w) A (setAttr (.ref a) f u) Q E s:=by
 obtain⟨t,O,r,i,_,k⟩:=kj I.hok e;have x:(fs.map (·.1)).length<=sizeLine:=by rw[aw,sizeLine_eq];omega
 refine xO I.kIn O c.sa c.po n.taker c.hd i x λl d D=>h _ ?_;have m:∃o,l.get? dx=some o:=let ⟨o,_,_,e',_⟩:=d.ns;⟨o,e'⟩;refine I.write (by rw[e];exact True.intro) (.inr k) (λb q p z=>(D.2 b p).trans z) m ?_;refine⟨by rw[cN O.ne];exact k,?_,O.ne,d.obj,_,d.ns,λg=>?_,λg B=>?_⟩
 .have:=jZ f y fs;omega
 .rw[j6];by_cases q:g=f
  .rw[aP q,aP q];exact F
  .rw[aQ q,aQ q];exact r g
 .by_cases q:g=f
  .rw[q];exact (jL f y fs).1
  .refine (jL f y fs).2 g (i g λz=>B ?_);show (if g=f then some u else t g)=none;rw[aQ q];exact z
def cS.made(I:cS X cD σ H s):cS X cD σ (dB (dB H s.heap.objs.size (.own (s.heap.objs.size+1))) (s.heap.objs.size+1) (.ins C s.heap.objs.size []))
  {s with heap:=(s.heap.push W.emptyDict).push (W.instObj C s.heap.objs.size)}:=by
 have c:(s.heap.push W.emptyDict).get? s.heap.objs.size=some W.emptyDict:=ar s.heap rfl;have g:((s.heap.push W.emptyDict).push (W.instObj C s.heap.objs.size)).get? (s.heap.objs.size+1)=some (W.instObj C s.heap.objs.size):=by have:=ar (s.heap.push W.emptyDict) (o:=W.instObj C s.heap.objs.size) rfl;rwa [Heap.size_push]at this
 have j:(s.heap.push W.emptyDict).Ns s.heap.objs.size (λ_=>none):=⟨W.emptyDict,#[],_,c,rfl,(λe d=>absurd d (by simp)),λ_=>rfl⟩;have i:=I.laid (o:=.own (s.heap.objs.size+1)) (t':=s.toks) (λb u q=>ae _ q) (aJ _) ⟨_,c⟩;refine i.laid (λb u q=>ae _ q) (Nat.le_of_eq (Heap.size_push _ _)) ?_;have ne:s.heap.objs.size≠s.heap.objs.size+1:=aL (bw _);refine⟨by rw[cN ne,cL],bx _,ne,g,λ_=>none,(Heap.Ns1.of_empty j).at λo q=>ae _ q,λ_=>True.intro,λy h=>absurd rfl h⟩
def q8(hb:attributeBase e f env (eval e env)=eval e env)
  (h:wpAny (model prog w) A (eval e env) (λo s₁=>wpAny (model prog w) A (getAttr o f true) Q E s₁) E s):wpAny (model prog w) A (eval (.Attribute e f pos) env) Q E s:=
 Attribute_any_ h (by rw[arm_eval_Attribute,hb])
end
def zk(K:W.Frag)(c:TE)(f:Str):TE:=λe H Q=>c e H λx b=>∃a C d fs v,x=.ref a/\b a=some (.ins C d fs)/\lS K C/\fq K C f/\fs.lookup f=some v/\Q v b
def AD(K:W.Frag)(e g:TE)(f:Str):TS:=λD b H=>g b H λy h=>e b h λx d=>∃a C c fs,x=.ref a/\d a=some (.ins C c fs)/\lS K C/\fq K C f/\fs.length<1000/\
 D.nx b (dB d a (.ins C c (ia f y fs)))
section
variable {X:Cx}{o e value:Expr}{f:Str}{pos pos' tpos:Pos}{ta tv:TE}
def zu(d:PE X e ta)(b:attributeBase e f X.env (eval e X.env)=eval e X.env):PE X (.Attribute e f pos) (zk X.K ta f):=by intro g s j H Q I h;refine q8 b (ed (d g s j H _ I h) λu s1 ⟨x,H1,I1,rx,a,C,dx,fs,v,ex,ea,c,n,l,q⟩=>?_);subst ex;obtain rfl:u=Value.ref a:=rx;exact qw I1 ea c n l λp m i k=>⟨v,H1,i,k,q⟩
def tK(g:PE X o ta)(k:PE X value tv)(j:swapsWith value (some (.Attribute o f pos')) pos.line X.env=pure false):PS X (.Assign [.Attribute o f pos'] value pos) (AD X.K ta tv f):=by intro d s b H D I h;refine plainObj_wpAny_Assign_Attribute (ed (k d s b H _ I h) λu s1 ⟨y,H1,I1,ry,q⟩=>ed (g d s1 b H1 _ I1 q) λov s2 ⟨x,H2,I2,rx,a,C,dx,fs,ex,ea,c,n,l,q2⟩=>?_) j;subst ex;obtain rfl:ov=Value.ref a:=rx;exact qj I2 ea c n l ry λm i=>⟨b,_,i,q2⟩
end
section
variable {X:Cx}{cD:List (Addr×Obj)}{σ:St}{H:Hp}{s:Sq}{A:Around}{E:Vq->Shared->Prop}{Q:Vq->Shared->Prop}{c:Vq}{b:Bool}
inductive iw(K:W.Frag)(H:Hp):V->Value->Prop where
 |non:iw K H .non (.type "NoneType")
 |bl (x:Bool):iw K H (.bl x) (.type "bool")
 |int (i:Int):iw K H (.int i) (.type "int")
 |str (x:Str):iw K H (.str x) (.type "str")
 |flt (x:UInt64):iw K H (.flt x) (.type "float")
 |lst {a:Addr} {xs:List V} (e:H a=some (.lst xs)):iw K H (.ref a) (.type "list")
 |frz {a:Addr} {o:Obj} {xs:List V} (e:H a=some (.frz o (.lst xs))):iw K H (.ref a) (.type "list")
 |tup {a:Addr} {xs:List V} (e:H a=some (.tup xs)):iw K H (.ref a) (.type "tuple")
 |dK {a:Addr} {kvs:List (ke×V)} (e:H a=some (.dK kvs)):iw K H (.ref a) (.type "dict")
 |dT {a:Addr} {kvs:List (List ke×V)} (e:H a=some (.dT kvs)):iw K H (.ref a) (.type "dict")
 |ins {a C dx:Addr} {fs:List (Str×V)} (e:H a=some (.ins C dx fs)) (cl:lS K C) (ha:W.findIn K (.ref C) "__class__" = some (some (.builtin "object.__class__")))
   (hn:W.specialIn K (.builtin "object.__class__") "__get__" = some (some (.builtin "getset_descriptor.__get__"))) (htk:W.takesIn K (.builtin "object.__class__")=some true)
   (hm:W.mroIn K C (.type "object")=some true):iw K H (.ref a) (.ref C)
def sW(I:cS X cD σ H s)(d:dC x u)(r:iw X.K H x t)(e:W.kitOne X.K t c=some b)(h:∀k,Q (.bool b) {s with toks:=k}) :
  wpAny (model X.prog X.w) A (call (.builtin "isinstance") [u,c]) Q E s:=by
 cases r with
 |non=>cases (d);exact W.kia_one W.kitx_none I.kIn True.intro e (λz=>nomatch z) h
 |bl y=>cases (d);exact W.kia_one W.kitx_bool I.kIn True.intro e (λz=>nomatch z) h
 |int i=>obtain⟨t,q⟩:=(d);cases q;exact W.kia_one W.kitx_int I.kIn True.intro e (λz=>nomatch z) h
 |str y=>obtain⟨t,q⟩:=(d);cases q;exact W.kia_one W.kitx_str I.kIn True.intro e (λz=>nomatch z) h
 |flt y=>obtain⟨t,q⟩:=(d);cases q;exact W.kia_one W.kitx_float I.kIn True.intro e (λz=>nomatch z) h
 |@lst a j ea=>cases (d);obtain⟨_,_,n,_,f⟩:=(I.hok a _ ea);exact W.kia_one W.kitx_list I.kIn ⟨_,f,rfl⟩ e (λz=>nomatch z) h
 |@frz a ob j ea=>cases (d);obtain⟨_,_,_,n,_,f⟩:=(I.hok a _ ea);exact W.kia_one W.kitx_list I.kIn ⟨_,f,rfl⟩ e (λz=>nomatch z) h
 |@tup a j ea=>cases (d);obtain⟨_,_,_,p⟩:=(I.hok a _ ea);obtain⟨o,f,g,_⟩:=p;exact W.kia_one W.kitx_tuple I.kIn ⟨o,f,g⟩ e (λz=>nomatch z) h
 |@dK a kvs ea=>cases (d);obtain⟨_,_,v,_,p⟩:=(I.hok a _ ea);obtain⟨o,m,l,f,g,_⟩:=p;exact W.kia_one W.kitx_dict I.kIn ⟨o,f,g.1⟩ e (λz=>nomatch z) h
 |@dT a kvs ea=>cases (d);obtain⟨_,_,j,_,o,m,l,f,g,_⟩:=(I.hok a _ ea);exact W.kia_one W.kitx_dict I.kIn ⟨o,f,g.1⟩ e (λz=>nomatch z) h
 |@ins a C dx fs ea cl ha hn htk hm=>cases (d);obtain⟨D,O,_⟩:=kj I.hok ea;obtain⟨B,J,_⟩:=O.look;exact W.kia_one (W.kitx_own (cl.get _) cl.hd ha hn htk hm) I.kIn J e (λz=>nomatch z) h
end
end L2
namespace L2
open PySem PySem.Spec PyProof.Rows
structure dy(k:Nat)(A:Around):Prop where
 hd:A.handled=none
 dp:A.depth+3*k+5<recursionLimit
 un:A.units+16*k+200<cLine
def dy.mono(r:dy k A)(h:j<=k):dy j A:=⟨r.hd,by have:=r.dp;omega,by have:=r.un;omega⟩
def dy.deeper(r:dy (k+1) A) env:dy k (A.deeper env):=⟨r.hd,by have:=r.dp;show A.depth+1+3*k+5<_;omega,by have:=r.un;show A.units+3+16*k+200<_;omega⟩
def qJ{A:Around}:(A.under (.builtin "type.__call__" ⟨.ref C::us,kw⟩)).depth=A.depth+1:=by first|rfl|simp[Around.under,Code.weight,Code.isCreation,Code.isGuard,Code.isCaller,Code.frames,Code.isFrame,guardIds]
def qr{A:Around}:(A.under (.builtin "type.__call__" ⟨.ref C::us,kw⟩)).units=A.units+1:=by first|rfl|simp[Around.under,Code.cUnits,Code.frames,Code.isFrame]
def dy.make(r:dy (k+1) A) C us kw:dy k (A.under (.builtin "type.__call__" ⟨.ref C::us,kw⟩)):=⟨r.hd,by have:=r.dp;rw[qJ];omega,by have:=r.un;rw[qr];omega⟩
def dy.depth(r:dy k A):A.depth<recursionLimit:=by have:=r.dp;omega
def jo:TA:=λ_ H Q=>Q [] H
def fj(b:TE)(f:TA):TA:=λa H Q=>b a H λx c=>f a c λd e=>Q (x::d) e
section
variable {X:Cx}{e:Expr}{es:List Expr}{te:TE}{t:TA}{pos:Pos}
def ib:PA X [] jo:=λ_ _ _ _ H Q I h=>Calls.spliced_nil ⟨[],H,I,.nil,h⟩
def dZ(c:PE X e te)(hr:PA X es t)(d:starEach (e::es) X.env=(false,eval e X.env)::starEach es X.env:=by rfl):PA X (e::es) (fj te t):=by intro pos a s b H Q I h;rw[d];refine Calls.spliced_cons (ed (c a s b H _ I h) λu s1 ⟨x,H1,I1,r1,q1⟩=>?_);exact ed (hr pos a s1 b H1 _ I1 q1) λus s2 ⟨xs,H2,I2,r2,q2⟩=>⟨x::xs,H2,I2,.cons r1 r2,q2⟩
def xb(t:TA):TE:=λc H Q=>t c H λb a=>b.length<=sizeLine/\∀p,a p=none->Q (.ref p) (dB a p (.tup b))
def Ai(t:TA):TE:=λc H Q=>t c H λb a=>b.length<=sizeLine/\∀p,a p=none->Q (.ref p) (dB a p (.lst b))
def um{x1}(h:PA X es t):PE X (.Tuple es x1 pos) (xb t):=by intro d s f H Q I c;refine wpAny_Tuple_spliced (ed (h pos d s f H _ I c) λus s1 ⟨xs,H1,I1,r,z,q⟩=>⟨by rw[<-r.length];exact z,?_⟩);have a:=I1.hok.fresh (aJ _);refine⟨.ref s1.heap.objs.size,dB H1 s1.heap.objs.size (.tup xs),I1.laid (λb u e=>ae _ e) (aJ _) ?_,rfl,q _ a⟩;exact⟨z,us,r,⟨_,ar _ rfl,rfl,_,rfl,rfl⟩⟩
def z9(h:PA X es t):PE X (.List es pos) (Ai t):=by intro d s f H Q I c;refine wpAny_List_spliced (ed (h pos d s f H _ I c) λus s1 ⟨xs,H1,I1,r,z,q⟩=>⟨by rw[<-r.length];exact z,?_⟩);have a:=I1.hok.fresh (aJ _);refine⟨.ref s1.heap.objs.size,dB H1 s1.heap.objs.size (.lst xs),I1.laid (λb u e=>ae _ e) (aJ _) ?_,rfl,q _ a⟩;exact⟨z,us,0,r,ar _ rfl⟩
end
abbrev Sp:=List V->Hp->VK->XK->Prop
abbrev wy:=List Env->Hp->Shared->XK->Value->Shared->Prop
structure nq(P:Program)(w:World)(K:W.Frag)(mg:Str->Option Value)(base:Heap)(A:Around)(outer:List Env)(s:Sq)(H:Hp):Prop where
 frames:A.frames=some outer
 mod:Mod K mg base
 bs:∀b o,base.get? b=some o->s.heap.get? b=some o/\H b=none
 bsz:base.objs.size<=s.heap.objs.size
 funs:s.heap.FunFrames base outer
 frf:∀b∈hV outer,H b=none
 hok:iW P w H s.heap
 bare:AllBare s.gens
def CE(a:List Env)(P:Program)(w:World)(H:Hp)(s:Sq)(Q:VK)(u:Vq)(b:Sq):Prop:=∃v c,b.os=s.os/\AllBare b.gens/\Un (hV a) [] H c s.heap b.heap/\iW P w c b.heap/\dC v u/\Q v c
def CR(CX:wy)(a:List Env)(P:Program)(w:World)(H:Hp)(s:Sq)(Q:VK)(E:XK)(r:Result)(b:Sq):Prop:=
 match r with
 |.ok (.ret u)=>CE a P w H s Q u b
 |.ok _=>False
 |.error e=>CX a H s E e b
structure fw(P:Program)(w:World)(K:W.Frag)(mg:Str->Option Value)(base:Heap)(CX:wy)(k:Nat)(f:Addr)(fd:FuncData)(ps:List Str)(sp:Sp):Prop where
 len:∀vs H Q E,sp vs H Q E->vs.length=ps.length
 run:∀(A:Around) (outer:List Env) (s:Sq) (H:Hp) (args:Args) (us:List Vq) (vs:List V) (Q:VK) (E:XK),dy k A->nq P w K mg base A outer s H->BindsTo s fd args (ps.zip us)->c8 vs us->sp vs H Q E->
  codeAny (model P w) A (.call (.ref f) args) (CR CX outer P w H s Q E) s
def fw.mono{K:W.Frag}(F:fw P w K mg base CX j f fd ps sp)(h:j<=k) :
  fw P w K mg base CX k f fd ps sp:=⟨F.len,λA a s H b c d Q E hr=>F.run A a s H b c d Q E (hr.mono h)⟩
def fw.imp{K:W.Frag}(F:fw P w K mg base CX k f fd ps sp)
  (h:∀vs H Q E,sp' vs H Q E->sp vs H Q E):fw P w K mg base CX k f fd ps sp':=
 ⟨λvs H Q E q=>F.len vs H Q E (h _ _ _ _ q),λA a s H b d vs Q E hr e c i g=>F.run A a s H b d vs Q E hr e c i (h _ _ _ _ g)⟩
def nq.make{K:W.Frag}(e:nq P w K mg base A outer s H) C us kw :
  nq P w K mg base (A.under (.builtin "type.__call__" ⟨.ref C::us,kw⟩)) outer s H:=⟨by first|exact e.frames|(simpa[Around.under,Code.envs,Code.isFrame,pushEnvs] using e.frames),e.mod,e.bs,e.bsz,e.funs,e.frf,e.hok,e.bare⟩
section
variable {X:Cx}{cD:List (Addr×Obj)}{σ:St}{H:Hp}{s s':Sq}
def cS.env0(I:cS X cD σ H s):nq X.prog X.w X.K X.mg X.base X.A X.stack s H:=⟨I.ok.frames,I.ok.mod,I.bs,aM I.ok.bsz I.sz,I.stack,I.stkFree,I.hok,I.bare⟩
def cS.after(I:cS X cD σ H s)(h:CE X.stack X.prog X.w H s Q u s'):EP X cD σ Q u s':=by obtain⟨v,i,f,a,un,c,r,q⟩:=h;obtain⟨j,g,d,t,e⟩:=s';obtain rfl:e=s.os:=f;exact⟨v,i,I.call un c a (λb z=>absurd z (by simp)),r,q⟩
end
def jq(sp:Sp)(a:List V)(E:XK)(t:TA):TE:=λd H Q=>t d H λc b=>sp (c++a) b Q E
def lC(C:Addr)(m:Str)(sp:Sp)(b:List V)(E:XK)(e:TE)(t:TA):TE:=λd H Q=>e d H λx c=>∃a g fs,x=.ref a/\c a=some (.ins C g fs)/\fs.lookup m=none/\
 t d c λf h=>sp (x::(f++b)) h Q E
def n8(C:Addr)(sp:Sp)(dvs:List V)(E:XK)(t:TA):TE:=λσ H Q=>t σ H λvs H1=>∀x dx,H1 x=none->H1 dx=none->dx≠x->
 sp (.ref x::(vs++dvs)) (dB (dB H1 dx (.own x)) x (.ins C dx [])) (λv H2=>v=.non/\Q (.ref x) H2) E
def fV(K:W.Frag)(fd:FuncData)(ps:List Str)(b:List Vq):Prop:=∀(s:Sq) (a:List Vq),K.In s.heap->(a++b).length=ps.length->BindsTo s fd ⟨a,[]⟩ (ps.zip (a++b))
def fV.all{K:W.Frag}(h:∀us:List Vq,us.length=ps.length->bindArgs fd ⟨us,[]⟩=pure (ps.zip us)):fV K fd ps []:=λs us _ a=>by rw[bz]at a ⊢;exact .of_eq (h us a)
def eA(CX:wy)(X:Cx)(E:XK):Prop:=∀(b:List (Addr×Obj)) (c:St) (H:Hp) (s:Sq) (e:Vq) (a:Sq),cS X b c H s->CX X.stack H s E e a->X.xe e a
section
variable {X:Cx}{CX:wy}{k:Nat}{f C:Addr}{fd:FuncData}{ps:List Str}{sp:Sp}{dvs:List V}{ds:List Vq}{E:XK}{x m:Str}{p pos apos:Pos}{e o:Expr}{es:List Expr}{ta:TE}{t:TA}
theorem p9(F:fw X.prog X.w X.K X.mg X.base CX k f fd ps sp)(hr:dy k X.A)(c:fV X.K fd ps ds)(j:c8 dvs ds)(d:eA CX X E)
  (I:cS X cD σ H s) (r:c8 vs us) (h:sp (vs++dvs) H Q E):wpAny (model X.prog X.w) X.A (call (.ref f) us) (EP X cD σ Q) X.xe s:=by
 have b:=r.append j;have i:(us++ds).length=ps.length:=by rw[<-b.length];exact F.len _ _ _ _ h
 refine wpAny_call (codeAny_mono (F.run X.A X.stack s H ⟨us,[]⟩ (us++ds) (vs++dvs) Q E hr I.env0 (c s us I.kIn i) b h) λr g a=>?_);cases r with
 |error e=>exact d cD σ H s e g I a
 |ok fl=>
  cases fl with
  |ret u=>exact I.after a
  |next=>exact False.elim a
  |brk=>exact False.elim a
  |cont=>exact False.elim a
def qP(F:fw X.prog X.w X.K X.mg X.base CX k f fd ps sp)(hr:dy k X.A)(v:Gl X x)(c:X.mg x=some (.ref f))(j:W.keepIn X.K (.ref f)=true)(g:fV X.K fd ps ds)(d:c8 dvs ds)(n:eA CX X E)
  (i:PA X (e::es) t) (a:(x==("__debug__" : Str))=false:=by decide) (y:starEach (e::es) X.env=(false,eval e X.env)::starEach es X.env:=by rfl) (b:(backTo pos (starEach es X.env)).any (·.1)=false:=by rfl) :
  PE X (.Call (.Name x p) (e::es) [] pos) (jq sp dvs E t):=by
 intro u s l H Q I h;refine wpAny_Call_Name_kw (iJ I v c ?_ a);refine W.callWith_K I.ok.mod.kin j (ed (i pos u s l H _ I h) λus s1 ⟨vs,H1,I1,r,q⟩=>⟨I1.kIn,?_⟩) y b;exact p9 F hr g d n I1 r q
def yu(B:PE X o ta)(c:lS X.K C)(g:pq X.K C m f)(F:fw X.prog X.w X.K X.mg X.base CX k f fd ps sp)(hr:dy k X.A)(v:fV X.K fd ps ds)(n:c8 dvs ds)(z:eA CX X E)(y:PA X (e::es) t)
  (b:starEach (e::es) X.env=(false,eval e X.env)::starEach es X.env:=by rfl) (d:(backTo pos (starEach es X.env)).any (·.1)=false:=by rfl)
  (D:eval (.Call (.Attribute o m apos) (e::es) [] pos) X.env=(do
   let ov <-eval o X.env
   standAt apos.atName
   let (f,first) <-holding [ov] (getMethod ov m pl)
   callWith pos f first (backTo pos (starEach (e::es) X.env)) (backToKw pos (keywordEach [] X.env))):=by rfl) :
  PE X (.Call (.Attribute o m apos) (e::es) [] pos) (lC C m sp dvs E ta t):=by
 intro j s i H Q I h;refine W.methodCall_KW (ed (B j s i H _ I h) λu s1 ⟨x,H1,I1,rx,a,dx,fs,ex,ea,l,q⟩=>?_) D;subst ex;obtain rfl:u=Value.ref a:=rx;refine lB I1 ea c g l ?_;refine W.callWith_K I.ok.mod.kin g.kp (ed (y pos j s1 i H1 _ I1 q) λus s2 ⟨vs,H2,I2,r,q2⟩=>⟨I2.kIn,?_⟩) b d;exact p9 (vs:=.ref a::vs) F hr v n z I2 (.cons rfl r) q2
def v7(g:PE X o ta)(c:lS X.K C)(b:pq X.K C m f)(F:fw X.prog X.w X.K X.mg X.base CX k f fd ps sp)(hr:dy k X.A)(d:fV X.K fd ps ds)(r:c8 dvs ds)(j:eA CX X E)
  (i:eval (.Call (.Attribute o m apos) [] [] pos) X.env=(do
   let ov <-eval o X.env
   standAt apos.atName
   let (f,first) <-holding [ov] (getMethod ov m pl)
   callWith pos f first (backTo pos (starEach [] X.env)) (backToKw pos (keywordEach [] X.env))):=by rfl) :
  PE X (.Call (.Attribute o m apos) [] [] pos) (lC C m sp dvs E ta jo):=by
 intro n s v H Q I h;refine W.methodCall_KW (ed (g n s v H _ I h) λu s1 ⟨x,H1,I1,rx,a,dx,fs,ex,ea,l,q⟩=>?_) i;subst ex;obtain rfl:u=Value.ref a:=rx;refine lB I1 ea c b l ?_;exact W.callWith_K0 I1.kIn b.kp (p9 (vs:=[.ref a]) F hr d r j I1 (.cons rfl .nil) q)
structure Mk(K:W.Frag)(C f:Addr):Prop where
 makes:W.makesIn K C=true
 init:W.findIn K (.ref C) "__init__" = some (some (.ref f))
 fn:W.isFn K (.ref f)=true
 kp:W.keepIn K (.ref C)=true
theorem uO(M:Mk X.K C f)(F:fw X.prog X.w X.K X.mg X.base CX k f fd ps sp)(hr:dy (k+1) X.A)(l:fV X.K fd ps ds)(g:c8 dvs ds)
  (q:eA CX X E) (I:cS X cD σ H s) (r:c8 vs us)
  (h:∀x dx,H x=none->H dx=none->dx≠x->sp (.ref x::(vs++dvs)) (dB (dB H dx (.own x)) x (.ins C dx [])) (λv G=>v=.non/\Q (.ref x) G) E) :
  wpAny (model X.prog X.w) X.A (call (.ref C) us) (EP X cD σ Q) X.xe s:=by
 have d:=h (s.heap.objs.size+1) s.heap.objs.size (I.hok.fresh (bA _)) (I.hok.fresh (aJ _)) (aL (bw _));have b:=cS.made (C:=C) I;have c:c8 (V.ref (s.heap.objs.size+1)::(vs++dvs)) (Value.ref (s.heap.objs.size+1)::(us++ds)):=.cons rfl (r.append g);have n:(Value.ref (s.heap.objs.size+1)::us++ds).length=ps.length:=by have e:=c.length;rw[F.len _ _ _ _ d]at e;exact e.symm
 refine wpAny_call (vB I.kIn M.makes M.init (beq_iff_eq.mp M.fn) (codeAny_mono (F.run _ X.stack _ _ ⟨Value.ref (s.heap.objs.size+1)::us,[]⟩ (Value.ref (s.heap.objs.size+1)::(us++ds)) _ _ E (hr.make C us [])
  (b.env0.make C us []) (l _ (Value.ref (s.heap.objs.size+1)::us) b.kIn n) c d) λr D a=>?_))
 cases r with
 |error e=>exact q cD σ _ _ e D b a
 |ok fl=>
  cases fl with
  |ret u=>obtain⟨v,j,B,y,i,z⟩:=b.after a;subst i;exact⟨y,⟨V.ref (s.heap.objs.size+1),j,B,rfl,z⟩⟩
  |next=>exact False.elim a
  |brk=>exact False.elim a
  |cont=>exact False.elim a
def xk(M:Mk X.K C f)(F:fw X.prog X.w X.K X.mg X.base CX k f fd ps sp)(hr:dy (k+1) X.A)(u:Gl X x)(c:X.mg x=some (.ref C))(g:fV X.K fd ps ds)(d:c8 dvs ds)(l:eA CX X E)
  (i:PA X (e::es) t) (a:(x==("__debug__" : Str))=false:=by decide) (v:starEach (e::es) X.env=(false,eval e X.env)::starEach es X.env:=by rfl) (b:(backTo pos (starEach es X.env)).any (·.1)=false:=by rfl) :
  PE X (.Call (.Name x p) (e::es) [] pos) (n8 C sp dvs E t):=by
 intro n s j H Q I h;refine wpAny_Call_Name_kw (iJ I u c ?_ a);refine W.callWith_K I.ok.mod.kin M.kp (ed (i pos n s j H _ I h) λus s1 ⟨vs,H1,I1,r,q⟩=>⟨I1.kIn,?_⟩) v b;exact uO M F hr g d l I1 r q
end
structure dw(N P:List Str)(sc:Scope):Prop where
 kind:sc.kind=.function
 co:sc.isCoroutine=false
 gen:sc.isGenerator=false
 nd:N.Nodup
 pre:N.take P.length=P
 par:∀x∈P,sc.names.lookup x=some .local\/sc.names.lookup x=some .cell
 nofree:∀y∈sc.names,y.2≠.free
theorem mF{kindOf:Str->Option NameKind}:∀{binds} {m},(∀v,(x,v)∉binds)->bindL kindOf binds m x=m x
 |[],_,_=>rfl
 | (n,v)::r,m,h=>by
  unfold bindL;rw[mF λw hw=>h w (bj _ hw)];split
  .have:x≠n:=by rintro rfl;exact h v bh
   simp[this]
  .rfl
theorem mh{kindOf:Str->Option NameKind}:∀{binds} {m},(∀v,(x,v)∉binds)->bindC kindOf binds m x=m x
 |[],_,_=>rfl
 | (n,v)::r,m,h=>by
  unfold bindC;rw[mh λw hw=>h w (bj _ hw)];split
  .rfl
  .have:x≠n:=by rintro rfl;exact h v bh
   simp[this]
theorem ml{kindOf:Str->Option NameKind}:∀{P:List Str} {vs:List Vq} {i:Nat} {m:Str->Option Value},P.Nodup->P[i]? = some x->vs[i]? = some v->kindOf x=some .local->
  bindL kindOf (P.zip vs) m x=some v
 |[],_,_,_,_,h,_,_=>by simp at h
 |_::_,[],_,_,_,_,h,_=>by simp at h
 |p::P,w::vs,0,m,nd,h1,h2,hk=>by simp at h1 h2;subst h1;subst h2;show bindL kindOf ((p,w)::P.zip vs) m p=_;unfold bindL;rw[mF λv a=>(bB.mp nd).1 (aV a).1,aP hk];simp
 |p::P,w::vs,i+1,m,nd,h1,h2,hk=>by unfold bindL;exact ml (bB.mp nd).2 (by simpa using h1) (by simpa using h2) hk
theorem mx{kindOf:Str->Option NameKind}:∀{P:List Str} {vs:List Vq} {i:Nat} {m:Str->Option Value},P.Nodup->P[i]? = some x->vs[i]? = some v->kindOf x≠some .local->
  bindC kindOf (P.zip vs) m x=some v
 |[],_,_,_,_,h,_,_=>by simp at h
 |_::_,[],_,_,_,_,h,_=>by simp at h
 |p::P,w::vs,0,m,nd,h1,h2,hk=>by simp at h1 h2;subst h1;subst h2;show bindC kindOf ((p,w)::P.zip vs) m p=_;unfold bindC;rw[mh λv a=>(bB.mp nd).1 (aV a).1,aQ hk];simp
 |p::P,w::vs,i+1,m,nd,h1,h2,hk=>by unfold bindC;exact mx (bB.mp nd).2 (by simpa using h1) (by simpa using h2) hk
noncomputable def ee(N:List Str)(vs:List V):St:=vs.map some++List.replicate (N.length-vs.length) none
noncomputable def dH(CX:wy)(P:Program)(w:World)(K:W.Frag)(mg:Str->Option Value)(base:Heap)(N:List Str)(b:Str)(a:Scope)(f:Addr)(d:Vq)(A:Around)(outer:List Env)(s:Sq)(H:Hp)(E:XK):Cx where
 prog:=P
 w:=w
 K:=K
 mg:=mg
 base:=base
 A:=A.deeper (envOfC b a s.heap.objs.size f d)
 N:=N
 s₀:=s
 H₀:=H
 env:=envOfC b a s.heap.objs.size f d
 outer:=outer
 stack:=envOfC b a s.heap.objs.size f d::outer
 ex:=[]
 calm:=true
 fn:=λ_=>true
 pn:=[]
 xe:=λe h=>wpAny (model P w) (A.deeper (envOfC b a s.heap.objs.size f d)) (leaving (envOfC b a s.heap.objs.size f d) e) (λ_ c=>CX outer H s E e c) (λg c=>CX outer H s E g c) h
def eX{a:Scope}(h:a.names.lookup x=some .cell):∃c,(cellsFrom n a.names []).lookup x=some c:=by have q:=W.cellsFrom_some a.names n [] (.inl h);exact bC.mp q
theorem mL{K:W.Frag}
  (S:dw N ps scope) (D:A.handled=none) (g:nq P w K mg base A outer s H) (Q:vs.length=ps.length) (r:c8 vs us)
  (x:InCallC s s.heap.objs.size (bindL (envOfC qual scope s.heap.objs.size f cd).kindOf (ps.zip us) λ_=>none) (cellsFrom (s.heap.objs.size+1) scope.names []) (bindC (envOfC qual scope s.heap.objs.size f cd).kindOf (ps.zip us) λ_=>none) s1) :
  cS (dH CX P w K mg base N qual scope f cd A outer s H E) [] (ee N vs) H s1:=by
 have I:ps.length<=N.length:=by have:=congrArg List.length S.pre;rw[bD]at this;omega
 obtain⟨t,J,rfl,B⟩:=x.done;have l:∀b:Addr,b∉(dH CX P w K mg base N qual scope f cd A outer s H E).ex:=λb z=>absurd (show b∈([]) from z) (by simp);refine⟨⟨g.mod,S.kind,rfl,rfl,aJ _,λy z c t d=>?_,λy j=>?_,λy c _ h=>?_,λ_=>D,Around.frames_deeper g.frames,.inr ⟨rfl,rfl⟩,λb z=>absurd z (l b),g.bs,g.bsz,λb _ _=>l b,λb z=>absurd z (l b),g.funs,g.frf⟩,
  rfl,g.bare,Un.kept B,⟨_,x.toInCall.ns,λi y v t d L=>?_⟩,λy c h=>⟨_,x.cell y c h⟩,g.hok.fresh (aJ _),λy c h=>?_,λp m=>absurd (show p∈([]) from m) (by simp),g.hok.kept B,?_⟩
 .exact name_of_addr x.apart (PySem.mem_of_lookup t) (PySem.mem_of_lookup d)
 .have j:=j;rcases j with j|j
  .exact eX j
  .exact absurd rfl (S.nofree _ (PySem.mem_of_lookup j))
 .exact bf (x.above y c (PySem.mem_of_lookup h))
 .have o:i<vs.length:=by
   unfold ee at d;by_cases o:i<vs.length
   .exact o
   .rw[List.getElem?_append_right (by simpa using o)]at d;rw[List.getElem?_replicate]at d;split at d<;>cases d
  have F:vs[i]? = some v:=by
   unfold ee at d;rw[List.getElem?_append_left (by simpa using o),av]at d;cases e:vs[i]? with
   |none=>rw[e]at d;cases d
   |some a=>rw[e]at d;cases d;rfl
  obtain⟨u,C,G⟩:=r.get F;have m:ps[i]? = some y:=by rw[<-S.pre,List.getElem?_take_of_lt (by omega)];exact t
  have n:ps.Nodup:=by rw[<-S.pre];exact S.nd.sublist (bE _ _)
  refine⟨u,G,?_⟩;rcases S.par y (au m) with k|k
  .exact .inl ⟨k,ml n m C k⟩
  .obtain⟨c,e⟩:=eX k;refine .inr ⟨.inl k,c,e,?_⟩;have q:=x.cell y c e;rw[mx n m C (by show scope.names.lookup y≠_;rw[k];decide)]at q;exact q
 .exact g.hok.fresh (bf (x.above y c (PySem.mem_of_lookup h)))
 .unfold ee;show _=N.length;rw[aS,aw,bF];omega
theorem pE{K:W.Frag}{L kV l X c Y oc:Vq}(lk:K.lookup f=some ⟨oc,od,.func (W.fnOf name qual params body scope L kV l X an c Y),osl⟩)(F:W.codeIn K c qual=true)(S:dw N ps scope)
  (p:∀vs H Q E,sp vs H Q E->vs.length=ps.length)
  (i:∀A a s H vs Q E,dy k (A.deeper (envOfC qual scope s.heap.objs.size f c))->sp vs H Q E->
   ∃t,jY (dH CX P w K mg base N qual scope f c A a s H E) body t/\t {nx:=λ_ g=>Q .non g,rt:=Q} (ee N vs) H) :
  fw P w K mg base CX (k+1) f (W.fnOf name qual params body scope L kV l X an c Y) ps sp:=by
 refine⟨p,λA a s H U us vs Q E hr z hb r B=>?_⟩;have hl:=p _ _ _ _ B;have R:=z.mod.kin.keeps λb o e=>(z.bs b o e).1;have C:=z.mod.nolimit.keeps λb o e=>(z.bs b o e).1;have h:∀y∈ps.zip us,scope.names.lookup y.1=some .local\/(scope.names.lookup y.1=some .cell/\((cellsFrom (s.heap.objs.size+1) scope.names []).lookup y.1).isSome=true):=λ⟨n,v⟩ hy=>by
  rcases S.par n (aV hy).1 with q|q
  .exact .inl q
  .exact .inr ⟨q,W.cellsFrom_some _ _ _ (.inl q)⟩
 refine codeAny_call_function hr.depth (R _ _ lk) rfl S.co S.gen rfl (W.codeRec_of R F) (hb _ _ _ _ ?_);refine wpAny_newFunctionEnv_cells S.kind h λenv he Z x=>?_;subst he;refine⟨C.keeps x.toInCall.keep,codeAny_func ?_⟩;obtain⟨t,ht,hq⟩:=i A a s H vs Q E (hr.deeper _) B;have I:cS (dH CX P w K mg base N qual scope f c A a s H E) [] (ee N vs) H Z:=mL S hr.hd z hl r x;refine wpAny_mono (ht [] Z (ee N vs) H _ I hq) (λfl G j=>?_) λe G j=>j;have m:∀{d:St} {g:Hp} {v:V} {u:Vq},cS (dH CX P w K mg base N qual scope f c A a s H E) [] d g G->dC v u->Q v g->CE a P w H s Q u G:=λ{d g v u} J D q=>⟨v,g,J.os,J.bare,J.base,J.hok,D,q⟩
 cases fl with
 |ret u=>obtain⟨v,d,g,J,D,q⟩:=j;exact m J D q
 |next=>obtain⟨d,g,J,q⟩:=j;exact m (v:=V.non) J rfl q
 |brk=>obtain⟨_,_,_,q⟩:=j;exact False.elim q
 |cont=>obtain⟨_,_,_,q⟩:=j;exact False.elim q
end L2
namespace L2
open PySem PySem.Spec PyProof.Rows
section
variable {X:Cx}{x:Str}{p pos:Pos}{e:Expr}{es:List Expr}{t:TA}{id T:String}{r:List V->Hp->VK->Prop}
def tm(r:List V->Hp->VK->Prop)(t:TA):TE:=λc H Q=>t c H λb a=>r b a Q
def ik(i:e8 X (.builtin id) r)(k:Gl X x)(j:X.mg x=none)(m:bootBuiltins x=some (.builtin id))(g:PA X (e::es) t)(l:x≠ "__name__" :=by decide)(b:(x==("__debug__" : Str))=false:=by decide)
  (f:starEach (e::es) X.env=(false,eval e X.env)::starEach es X.env:=by rfl) (a:(backTo pos (starEach es X.env)).any (·.1)=false:=by rfl):PE X (.Call (.Name x p) (e::es) [] pos) (tm r t):=by
 intro c s d H Q I h;refine wpAny_Call_Name_kw (kW I k j m ?_ l b);exact PyProof.Rows.callWith_builtin1 (ed (g pos c s d H _ I h) λus s1 ⟨vs,H1,I1,r1,q1⟩=>i c s1 d H1 vs us Q I1 r1 q1) f a
def mj(i:e8 X (.type T) r)(k:Gl X x)(j:X.mg x=none)(m:bootBuiltins x=some (.type T))(g:PA X (e::es) t)(l:x≠ "__name__" :=by decide)(b:(x==("__debug__" : Str))=false:=by decide)
  (f:starEach (e::es) X.env=(false,eval e X.env)::starEach es X.env:=by rfl) (a:(backTo pos (starEach es X.env)).any (·.1)=false:=by rfl):PE X (.Call (.Name x p) (e::es) [] pos) (tm r t):=by
 intro c s d H Q I h;refine wpAny_Call_Name_kw (kW I k j m ?_ l b);exact PyProof.Rows.callWith_type1 (ed (g pos c s d H _ I h) λus s1 ⟨vs,H1,I1,r1,q1⟩=>i c s1 d H1 vs us Q I1 r1 q1) f a
end
end L2
namespace HT
open PySem PyProof.Rows
section
variable {prog:Program}{w:World}{A:Around}{E:Vq->Shared->Prop}{s:Sq}
def cat_tup(y:IsTup s.heap t vs.toArray)(u:IsTup s.heap b ws.toArray)(r:vs≠[])
  (v:ws=[]->Q (.ref t) s) (x:ws≠[]->Q (.ref s.heap.objs.size) {s with heap:=s.heap.push {cls:=.type "tuple",data:=.seq (vs++ws).toArray}})
  (i:vs.length+ws.length<=sizeLine):wpAny (model prog w) A (binaryOp .Add (.ref t) (.ref b)) Q E s:=by
 obtain⟨⟨cls,o,data,m⟩,h,q,n,k⟩:=id y;obtain⟨⟨p,d,j,c⟩,a,f,l,g⟩:=id u;simp only at q k f g;subst q k f g;have e:vs.toArray++ws.toArray=(vs++ws).toArray:=by simp
 by_cases hw:ws=[]
 .exact concat_meets ⟨_,h,rfl⟩ ⟨_,a,rfl⟩ noFill_tuple_add seq_tuple_add PySem.F.slot_tuple_add PySem.F.entry_tuple_add (PySem.F.args_tuple_add_2 _ _)
   (tuple_addW1 t b vs.toArray ws.toArray n l o d m c (by simpa using r) (by simp[hw])) ⟨h,a,v hw⟩
 .refine concat_meets ⟨_,h,rfl⟩ ⟨_,a,rfl⟩ noFill_tuple_add seq_tuple_add PySem.F.slot_tuple_add PySem.F.entry_tuple_add (PySem.F.args_tuple_add_2 _ _)
   (tuple_addW2 t b vs.toArray ws.toArray n l o d m c (by simpa using r) (by simpa using hw) (by rw[bt,bt];exact i)) ⟨h,a,?_⟩
  rw[e];exact x hw
noncomputable def sIx(n d:Nat):Oq Int->Nat
 |none=>d
 |some v=>if v<0 then (v+(n:Int)).toNat else min v.toNat n
def sIx_none n d:sIx n d none=d:=rfl
def sIx_nat(n d k:Nat):sIx n d (some (k:Int))=min k n:=by show (if k<0 then (k+(n:Int)).toNat else min (k:Int).toNat n)=min k n;rw[aQ (by omega),bG]
def qS v (n d:Nat):(if v<0 then max (v+(n:Int)) 0 else min v (n:Int))=((sIx n d (some v):Nat):Int):=by
 show (if v<0 then max (v+n) 0 else min v n)=(((if v<0 then (v+n).toNat else min v.toNat n):Nat):Int);by_cases a:v<0
 .simp only[aP a];omega
 .simp only[aQ a];omega
def p0 lo a (n:Nat):Builtin.Slice.sliceAdjust lo a 1 (n:Int)=(((sIx n 0 lo:Nat):Int),((sIx n n a:Nat):Int)):=by
 have b:¬(1<0):=by omega
 unfold Builtin.Slice.sliceAdjust;simp only[b,if_false];refine Prod.ext ?_ ?_
 .cases lo with
  |none=>rfl
  |some v=>exact qS v n 0
 .cases a with
  |none=>rfl
  |some v=>exact qS v n n
def qs(i j:Nat):Builtin.Slice.slicePlaces (i:Int) (j:Int) 1=j-i:=by
 unfold Builtin.Slice.slicePlaces;have a:1>0:=by omega
 simp only[a,if_true,Int.ediv_one];split<;>omega
def lj(p:IsPart v o)(h:Q o s):wpAny (model prog w) A (Builtin.Slice.slicePartIndex v) Q E s:=by
 cases p with
 |none=>exact slicePart_none h
 |int i t=>exact slicePart_int h
def gQ{a b:Oq Int}{n:Nat}(e:s.heap.IsSliceOf sl vl vu .none)(i:IsPart vl a)(g:IsPart vu b)
  (h:Q (((sIx n 0 a:Nat):Int),1,sIx n n b-sIx n 0 a) s):wpAny (model prog w) A (Builtin.Slice.sliceApplied (.ref sl) (pure (n:Int))) Q E s:=by
 obtain⟨j,d,f,c⟩:=id e;unfold Builtin.Slice.sliceApplied Builtin.Slice.sliceFields;refine ao (ao (wpAny_field d c rfl (ao (wpAny_field d c rfl (ao (wpAny_field d c rfl (ak ?_)))))));refine ao (slicePart_none ?_);rw[aQ (by decide)];refine ao (lj i (ao (lj g (ao (ak ?_)))));show wpAny _ _ (match Builtin.Slice.sliceAdjust a b 1 n with|(a,b)=>pure (a,(1:Int),Builtin.Slice.slicePlaces a b 1)) _ _ s;rw[p0 a b n];show wpAny _ _ (pure (((sIx n 0 a):Int),1,Builtin.Slice.slicePlaces ((sIx n 0 a):Int) ((sIx n n b):Int) 1)) _ _ s;rw[qs];exact ak h
def wb(a:Array Vq)(i k:Nat):((List.range k).filterMap λ(m:Nat)=>a[((i:Int)+(m:Int)*1).toNat]?).toArray=((a.toList.drop i).take k).toArray:=by
 have e:(λ(m:Nat)=>a[(i+(m:Int)*1).toNat]?)=λm=>a[i+m]?:=by
  funext m;have:(i+(m:Int)*1).toNat=i+m:=by omega
  rw[this]
 rw[e];have:=pick_run a i k;rw[List.filterMap_map]at this;have b:((λx=>a[x]?) ∘ λx=>i+x)=λm=>a[i+m]?:=rfl;rw[b]at this;rw[this]
theorem getItem_tuple_cut{a b:Oq Int}(d:IsTup s.heap t items)(j:s.heap.IsSliceOf sl vl vu .none)(o:IsPart vl a)(k:IsPart vu b)
  (hw:¬(sIx items.size 0 a=0/\sIx items.size items.size b=items.size))
  (h:Q (.ref s.heap.objs.size) {s with heap:=s.heap.push {cls:=.type "tuple",data:=.seq ((items.toList.drop (sIx items.size 0 a)).take (sIx items.size items.size b-sIx items.size 0 a)).toArray}})
  (m:items.size<=sizeLine):wpAny (model prog w) A (getItem (.ref t) (.ref sl)) Q E s:=by
 have c:sizeOk (.seq ((items.toList.drop (sIx items.size 0 a)).take (sIx items.size items.size b-sIx items.size 0 a)).toArray):=by show ((items.toList.drop (sIx items.size 0 a)).take (sIx items.size items.size b-sIx items.size 0 a)).toArray.size<=sizeLine;rw[bt,bD,List.length_drop,bo];omega
 obtain⟨n,e,i,l⟩:=id j;have f:s.TypeIs (.ref sl) "slice" :=⟨n,e,i⟩;unfold getItem;try with_reducible refine wpAny_holding ?_;first|refine ao (ak ?_)|skip
 refine ao (wpAny_sequenceKey d.typeIs (by decide) ?_);refine ao (wpAny_callSpecial?_slot d.typeIs PyProof.Rows.slot_tuple_getitem
  (wpAny_call_entry PyProof.Rows.slot_tuple_getitem d.typeIs entry_tuple_getitem ?_ (args_tuple_getitem _ _)))
 show wpAny _ _ (Builtin.Tuple.tupleItemsOf (.ref t) >>= _) _ _ s;refine ao (tupleItemsOf_ d ?_);refine ao (wpAny_typeOf f ?_);rw[aP (by decide)];refine ao (gQ j o k ?_);have g:¬((((sIx items.size 0 a):Int)==0&&(1:Int)==1&&(sIx items.size items.size b-sIx items.size 0 a)==items.size)=true):=by intro q;rw[bH,bH]at q;have r:=eq_of_beq q.1.1;have p:=eq_of_beq q.2;exact hw ⟨by omega,by omega⟩
 show wpAny _ _ (if (((sIx items.size 0 a):Int)==0&&1==1&&(sIx items.size items.size b-sIx items.size 0 a)==items.size)=true then _ else _) _ _ s;rw[aQ g,wb];first
  |exact ao (wpAny_newObj_type (ak ⟨_,rfl,ak h⟩) c)
  |exact ao (wpAny_newObj_type (ao (ak (ak ⟨_,rfl,ak h⟩))) c)
  |exact ao (ao (wpAny_newObj_type (ak (ak ⟨_,rfl,ak h⟩)) c))
  |exact ao (ao (wpAny_newObj_type (ak ⟨_,rfl,ak h⟩) c))
end
end HT
namespace L2
open PySem PySem.Spec PyProof.Rows
abbrev TO:=St->Hp->(Option Int->Hp->Prop)->Prop
def PO(X:Cx)(e:Oq Expr)(t:TO):Prop:=
 ∀(b:List (Addr×Obj)) (s:Sq) (a:St) (H:Hp) (Q:Oq Int->Hp->Prop),cS X b a H s->t a H Q->
  wpAny (model X.prog X.w) X.A (evalPart e X.env) (λu d=>∃o c,cS X b a c d/\IsPart u o/\Q o c) X.xe s
def qZ:TO:=λ_ H Q=>Q none H
def yJ(t:TE):TO:=λb H Q=>t b H λx a=>∃i,x=.int i/\Q (some i) a
section
variable {X:Cx}{e:Expr}{te:TE}{lo hi:Oq Expr}{tl th:TO}{pos p2:Pos}
def yF:PO X none qZ:=by intro a s b H Q I h;rw[evalPart_none];exact ak ⟨none,H,I,.none,h⟩
def wL(h:PE X e te):PO X (some e) (yJ te):=by intro a s b H Q I hw;rw[evalPart_some];refine ed (h a s b H _ I hw) λu s1 ⟨x,H1,I1,r1,q1⟩=>?_;obtain⟨i,rfl,q⟩:=q1;obtain⟨t,rfl⟩:=r1;exact⟨some i,H1,I1,.int i t,q⟩
def yT(X:Cx)(r:V->Option Int->Option Int->Hp->VK->Prop):Prop:=
 ∀(d:List (Addr×Obj)) (s:Sq) (f:St) (H:Hp) (x:V) (v a b:Vq) (lo hi:Oq Int) (c:Addr) (Q:VK),cS X d f H s->dC x v->s.heap.IsSliceOf c a b .none->IsPart a lo->IsPart b hi->r x lo hi H Q->
  ∃T id,typeLookup (.type T) "__getitem__" = pure (some (.builtin id))/\s.TypeIs v T/\wpAny (model X.prog X.w) X.A (getItem v (.ref c)) (EP X d f Q) X.xe s
def yT.or(h:yT X r)(h':yT X r'):yT X (λx lo hi H Q=>r x lo hi H Q\/r' x lo hi H Q):=by
 intro i s f H x v j b lo hi g Q I d c k a q;rcases q with q|q
 .exact h i s f H x v j b lo hi g Q I d c k a q
 .exact h' i s f H x v j b lo hi g Q I d c k a q
def Dk(r:V->Option Int->Option Int->Hp->VK->Prop)(te:TE)(tl th:TO):TE:=λa H Q=>te a H λx b=>tl a b λl d=>th a d λu c=>r x l u c Q
def uo(hr:yT X r)(k:PE X e te)(g:PO X lo tl)(j:PO X hi th):PE X (.Subscript e (.Slice lo hi none p2) pos) (Dk r te tl th):=by intro c s a H Q I h;refine Subscript_ (ed (k c s a H _ I h) λv s1 ⟨x,H1,I1,r1,q1⟩=>?_);refine wpAny_Slice (ed (g c s1 a H1 _ I1 q1) λvl s2 ⟨l,H2,I2,pl,q2⟩=>ed (j c s2 a H2 _ I2 q2) λvu s3 ⟨u,H3,I3,pu,q3⟩=>?_);rw[evalPart_none];refine ak ?_;have f:cS X c a H3 {s3 with heap:=s3.heap.push {cls:=.type "slice",data:=.fields #[vl,vu,.none]}}:=I3.kept λb n q=>ae _ q;obtain⟨T,id,d,m,i⟩:=hr c {s3 with heap:=s3.heap.push {cls:=.type "slice",data:=.fields #[vl,vu,.none]}} a H3 x v vl vu l u s3.heap.objs.size Q f r1 (Heap.IsSliceOf.new ..) pl pu q3;exact tail_any m d i (by with_unfolding_all rfl)
noncomputable def vT(a:List V)(lo hi:Oq Int):List V:=(a.drop (HT.sIx a.length 0 lo)).take (HT.sIx a.length a.length hi-HT.sIx a.length 0 lo)
def j4 xs lo hi:(vT xs lo hi).length<=xs.length:=by unfold vT;rw[bD,List.length_drop];omega
def B9(K:W.Frag):V->Option Int->Option Int->Hp->VK->Prop:=λx lo hi H Q=>∃a b,x=.ref a/\f6 K H a b/\
 ¬(HT.sIx b.length 0 lo=0/\HT.sIx b.length b.length hi=b.length)/\∀p,H p=none->Q (.ref p) (dB H p (.tup (vT b lo hi)))
def AB:yT X (B9 X.K):=by
 intro w s t H x v y p lo hi u Q I l k n j h;obtain⟨a,c,rfl,m,hw,q⟩:=h;cases l;obtain⟨f,r,i,g⟩:=I.tuple m;have d:f.toArray.size=c.length:=by rw[bt];exact r.length.symm
 refine⟨"tuple",_,PyProof.Rows.slot_tuple_getitem.lookup,i.typeIs,?_⟩;refine HT.getItem_tuple_cut i k n j (by rw[d];exact hw) ?_ (by rw[d];exact g);rw[d];refine⟨.ref s.heap.objs.size,_,I.laid (λb o q=>ae _ q) (aJ _) ?_,rfl,q _ (I.hok.fresh (aJ _))⟩;exact⟨aM (j4 c lo hi) g,_,(r.drop (HT.sIx c.length 0 lo)).take (HT.sIx c.length c.length hi-HT.sIx c.length 0 lo),ls.new _ _⟩
def BN(K:W.Frag):R2:=λx y H Q=>∃a b d c,x=.ref a/\y=.ref b/\f6 K H a d/\f6 K H b c/\d≠[]/\d.length+c.length<=sizeLine/\
 (c=[]->Q (.ref a) H)/\(c≠[]->∀p,H p=none->Q (.ref p) (dB H p (.tup (d++c))))
def c8.nil_iff(r:c8 xs us):us=[]↔xs=[]:=by
 cases r with
 |nil=>simp
 |cons _ _=>simp
def xX:jd X (binaryOp .Add) (BN X.K):=by intro D s C H x y v u Q I k r h;obtain⟨a,b,A,B,rfl,rfl,j,i,n,f,p,o⟩:=h;cases k;cases r;obtain⟨l,d,m,_⟩:=I.tuple j;obtain⟨g,c,p2,_⟩:=I.tuple i;refine HT.cat_tup m p2 (λz=>n (d.nil_iff.mp z)) (λz=>⟨.ref a,H,I,rfl,p (c.nil_iff.mp z)⟩) (λz=>?_) (by rw[<-d.length,<-c.length];exact f);refine⟨.ref s.heap.objs.size,_,I.laid (λb t q=>ae _ q) (aJ _) ?_,rfl,o (λw=>z (c.nil_iff.mpr w)) _ (I.hok.fresh (aJ _))⟩;exact⟨by rw[aS];exact f,_,d.append c,ls.new _ _⟩
end
end L2
namespace L2
open PySem PySem.Spec PyProof.Rows
noncomputable def qI(n:Nat)(i:Int):Oq Nat:=if 0<=i then (if i<n then some i.toNat else none) else if -(n:Int)<=i then some (i+n).toNat else none
noncomputable def mw{b:Type}(a:List b)(i:Int):Oq b:=(qI a.length i).bind λj=>a[j]?
def qN(h:qI n i=some j):seqIndex? i n=some j/\j<n/\-(n:Int)<=i/\i<n:=by
 unfold qI at h;by_cases b:0<=i
 .rw[aP b]at h;by_cases a:i<n
  .rw[aP a]at h;have e:=Option.some.inj h;exact⟨by rw[seqIndex_of b a,e],by omega,by omega,a⟩
  .rw[aQ a]at h;cases h
 .rw[aQ b]at h;by_cases a:-n<=i
  .rw[aP a]at h;have e:=Option.some.inj h;exact⟨by rw[seqIndex_neg (by omega) a,e],by omega,a,by omega⟩
  .rw[aQ a]at h;cases h
def nA{a:List α}{v:α}(h:mw a i=some v):∃j,seqIndex? i a.length=some j/\a[j]? = some v/\j<a.length/\-(a.length:Int)<=i/\i<a.length:=by
 unfold mw at h;cases e:qI a.length i with
 |none=>rw[e]at h;cases h
 |some j=>rw[e]at h;obtain⟨d,f,c,b⟩:=qN e;exact⟨j,d,h,f,c,b⟩
def qY(b:Expr):Prop:=∀o i,subscripted b false o i=operate [o,i] (getItem o i)
def xK(X:Cx)(r:R2):Prop:=
 ∀(b a:Expr) (d:List (Addr×Obj)) (s:Sq) (c:St) (H:Hp) (x y:V) (v u:Vq) (Q:VK),cS X d c H s->dC x v->dC y u->r x y H Q->
  subscripted a false v u=operate [v,u] (getItem v u)->wpAny (model X.prog X.w) X.A (subscriptTail b a v u) (EP X d c Q) X.xe s
def Dt(X:Cx)(id:String)(r:V->List V->Hp->VK->Prop):Prop:=
 ∀(d:List (Addr×Obj)) (s:Sq) (c:St) (H:Hp) (x:V) (b:List V) (v:Vq) (a:List Vq) (Q:VK),cS X d c H s->dC x v->c8 b a->r x b H Q->
  wpAny (model X.prog X.w) X.A (call (.builtin id) (v::a)) (EP X d c Q) X.xe s
section
variable {X:Cx}{a b:Expr}{ta tb:TE}{pos:Pos}
def xK.or(h:xK X r)(h':xK X r'):xK X (λx y H Q=>r x y H Q\/r' x y H Q):=by
 intro c d f s i H x y v u Q I g e q j;rcases q with q|q
 .exact h c d f s i H x y v u Q I g e q j
 .exact h' c d f s i H x y v u Q I g e q j
def Bu(hr:xK X r)(d:PE X a ta)(c:PE X b tb)(e:qY b):PE X (.Subscript a b pos) (lQ r ta tb):=by intro j s g H Q I h;exact Subscript_ (za d c I h λv u i x y m l f k q=>hr a b j i g m x y v u Q l f k q (e _ _))
def Bc(K:W.Frag):R2:=λx y H Q=>∃p c i v,x=.ref p/\y=.int i/\fQ K H p c/\mw c i=some v/\Q v H
def Bh(K:W.Frag):R2:=λx y H Q=>∃p c i v,x=.ref p/\y=.int i/\f6 K H p c/\mw c i=some v/\Q v H
def Bz:R2:=λx y H Q=>∃z i c,x=.str z/\y=.int i/\z.length<=sizeLine/\mw z.cps.toList i=some c/\Q (.str ⟨#[c]⟩) H
def wV:xK X (Bc X.K):=by
 intro g e F s E H x y v u Q I D N h o;obtain⟨p,R,i,z,rfl,rfl,P,J,q⟩:=h;cases D;obtain⟨t,rfl⟩:=N;obtain⟨l,r,m,Y⟩:=I.list P;obtain⟨j,d,G,U,L,B⟩:=nA J;obtain⟨w,A,f⟩:=r.get G;have C:=r.length;have S:=nC;have c:EP X F E Q w s:=⟨z,H,I,f,q⟩;by_cases n:0<=i
 .have k:i.toNat=j:=by rw[seqIndex_of n B]at d;exact Option.some.inj d
  exact item_listR m.isList n (by omega) (by rw[k];simpa using A) c o
 .have k:(i+l.toArray.size).toNat=j:=by rw[seqIndex_neg (by omega) L]at d;rw[bt,<-C];exact Option.some.inj d
  exact subscriptTail_builtinR m.isList.typeIs slot_list_getitem.lookup
   (wpAny_getItem_list_neg m.isList (by omega) (by rw[bt]<;>omega) (by omega) (by rw[k];simpa using A) ⟨rfl,c⟩) o
def gw:xK X (Bh X.K):=by
 intro e c B s o H x y v u Q I m F h k;obtain⟨p,L,i,z,rfl,rfl,G,E,q⟩:=h;cases m;obtain⟨t,rfl⟩:=F;obtain⟨A,r,g,R⟩:=I.tuple G;obtain⟨j,n,D,P,S,J⟩:=nA E;obtain⟨w,C,d⟩:=r.get D;have l:=r.length;have N:=nC;have f:EP X B o Q w s:=⟨z,H,I,d,q⟩;exact subscriptTail_builtinR g.typeIs slot_tuple_getitem.lookup
  (getItem_tuple g (by omega) (by omega) (by rw[bt,<-l];exact n) (by simpa using C) ⟨rfl,f⟩) k
def zV:xK X Bz:=by
 intro e d G s F H x y v u Q I o A h m;obtain⟨z,i,c,rfl,rfl,E,r,q⟩:=h;obtain⟨t,rfl⟩:=o;obtain⟨C,rfl⟩:=A;obtain⟨j,f,p,D,w,g⟩:=nA r;have n:z.cps.toList.length=z.length:=by simp[Str.length]
 rw[n]at f w g;have B:=nC;exact tail_any (typeIs_str s z t) slot_str_getitem.lookup (getItem_str (by have k:decide (i < -(2 ^ 63))=false:=aA (by omega);have l:decide (i >= 2 ^ 63)=false:=aA (by omega);rw[k,l,Bool.or_false]) (by rw[f];simpa using p) ⟨.str ⟨#[c]⟩,H,I.tok _,⟨_,rfl⟩,q⟩) m
def CH(K:W.Frag):R2:=λx y H Q=>Bc K x y H Q\/Bh K x y H Q\/Bz x y H Q
def z0:xK X (CH X.K):=wV.or (gw.or zV)
def pR(c:List Vq) n j u:Obj.mapSeq (·.setIfInBounds j u) {cls:=.type "list",data:=.seq c.toArray n}={cls:=.type "list",data:=.seq (c.set j u).toArray n}:=by simp[Obj.mapSeq]
def cS.lst(I:cS X cD σ H s)(h:H p=some (.lst xs)) :
  ∃c n,c8 xs c/\s.heap.get? p=some {cls:=.type "list",data:=.seq c.toArray n}/\xs.length<=sizeLine:=by
 obtain⟨z,c,n,r,e⟩:=I.hok p _ h;exact⟨c,n,r,e,z⟩
def cS.lstUpd{d c:List Vq}(I:cS X cD σ H s)(h:H p=some (.lst xs))
  (k:s.heap.get? p=some {cls:=.type "list",data:=.seq d.toArray n}) (g:f {cls:=.type "list",data:=.seq d.toArray n}={cls:=.type "list",data:=.seq c.toArray n'}) (r:c8 ys c) (j:ys.length<=sizeLine) t :
  cS X cD σ (dB H p (.lst ys)) {s with heap:=s.heap.update p f,toks:=t}:=by
 have e:(s.heap.update p f).get? p=some {cls:=.type "list",data:=.seq c.toArray n'}:=by rw[Heap.get?_update_self f k (by rw[g]<;>rfl),g]
 refine I.write (by rw[h];trivial) (.inl rfl) (λb u i q=>(Heap.get?_update_other _ _ (Ne.symm i)).trans q) ⟨_,e⟩ ?_;exact⟨j,c,n',r,e⟩
def rg:V->V->V->Hp->(Hp->Prop)->Prop:=λo i v H Q=>∃p c k j,o=.ref p/\i=.int k/\H p=some (.lst c)/\qI c.length k=some j/\Q (dB H p (.lst (c.set j v)))
def vJ:BH X rg:=by
 intro F s C H o i v L J u Q I E A G h;obtain⟨p,z,k,j,rfl,rfl,m,D,q⟩:=h;cases E;obtain⟨t,rfl⟩:=A;obtain⟨c,n,r,g,B⟩:=I.lst m;obtain⟨d,N,w,y⟩:=qN D;have e:=r.length;have K:=nC;have x:cS X F C (dB H p (.lst (z.set j v))) {s with heap:=s.heap.update p (Obj.mapSeq (·.setIfInBounds j u))}:=I.lstUpd m g (pR c n j u) (r.set G j) (by rw[List.length_set];exact B) s.toks
 by_cases l:0<=k
 .have f:k.toNat=j:=by rw[seqIndex_of l y]at d;exact Option.some.inj d
  exact W.ki_setAt g l (by omega) (by rw[bt,<-e];exact y) (by rw[f];exact⟨_,x,q⟩)
 .have f:(k+c.toArray.size).toNat=j:=by rw[seqIndex_neg (by omega) w]at d;rw[bt,<-e];exact Option.some.inj d
  exact W.ki_setBack g (by omega) (by rw[bt,<-e];exact w) (by omega) (by rw[f];exact⟨_,x,q⟩)
def m7 lo hi n:(sliceBounds lo hi none n).1=((HT.sIx n 0 lo:Nat):Int)/\(sliceBounds lo hi none n).2.1=((HT.sIx n n hi:Nat):Int)/\(sliceBounds lo hi none n).2.2=1:=by
 refine⟨?_,?_,rfl⟩
 .cases lo with
  |none=>simp[sliceBounds,HT.sIx]
  |some i=>
   simp only[sliceBounds,HT.sIx,Option.getD_none,show 1>0 by decide,if_true];by_cases h:i<0
   .simp only[h,if_true]<;>omega
   .simp only[h,if_false]<;>omega
 .cases hi with
  |none=>simp[sliceBounds,HT.sIx]
  |some i=>
   simp only[sliceBounds,HT.sIx,Option.getD_none,show 1>0 by decide,if_true];by_cases h:i<0
   .simp only[h,if_true]<;>omega
   .simp only[h,if_false]<;>omega
def lT(c:List Vq) lo hi:slicePick c.toArray lo hi none=((c.drop (HT.sIx c.length 0 lo)).take (HT.sIx c.length c.length hi-HT.sIx c.length 0 lo)).toArray:=by obtain⟨e,d,f⟩:=m7 lo hi c.toArray.size;unfold slicePick;rw[e,d,f];simp only[sliceRange_one,pick_run,bt]<;>rfl
def By(K:W.Frag):V->Option Int->Option Int->Hp->VK->Prop:=λx e d H Q=>∃a c,x=.ref a/\fQ K H a c/\∀p,H p=none->Q (.ref p) (dB H p (.lst (vT c e d)))
def yx:yT X (By X.K):=by intro y s u H x v z t d e w Q I l j o i h;obtain⟨a,c,rfl,n,q⟩:=h;cases l;obtain⟨m,r,f,k⟩:=I.list n;have g:=r.length;refine⟨"list",_,slot_list_getitem.lookup,f.isList.typeIs,?_⟩;refine wpAny_getItem_list_slice f.isList j o i .none (by simp) ?_ (by rw[bt]<;>omega);rw[lT,<-g];refine⟨.ref s.heap.objs.size,_,I.laid (λb p q=>ae _ q) (aJ _) ?_,rfl,q _ (I.hok.fresh (aJ _))⟩;exact⟨aM (j4 c d e) k,_,0,(r.drop (HT.sIx c.length 0 d)).take (HT.sIx c.length c.length e-HT.sIx c.length 0 d),ar _ rfl⟩
def nK:e8 X (.type "list") (λA H Q=>∃p f,A=[.ref p]/\(fQ X.K H p f\/f6 X.K H p f)/\∀l,H l=none->Q (.ref l) (dB H l (.lst f))):=by
 intro F s E H A G Q I r h;obtain⟨p,f,rfl,t,q⟩:=h;obtain⟨u,rfl,D⟩:=ky r;cases D;have m:∀(c:List Vq),c8 f c->f.length<=sizeLine->∀(d:Heap) (g:Nat),(∀b B,s.heap.get? b=some B->d.get? b=some B)->
   d.get? s.heap.objs.size=some {cls:=.type "list",dict:=none,data:=.seq c.toArray g,slots:=#[]}->EP X F E Q (.ref s.heap.objs.size) {s with heap:=d}:=λc i k d g j e=>
  ⟨.ref s.heap.objs.size,_,I.laid j (aJ _) (show eY X.prog X.w _ d _ (.lst f) from ⟨k,c,g,i,e⟩),rfl,q _ (I.hok.fresh (aJ _))⟩
 rcases t with t|t
 .obtain⟨c,i,z,k⟩:=I.list t;have C:=i.length;obtain⟨o,x,y,n,v⟩:=z.isList;exact call_list_seq p (.inl rfl) x y v (λd g j e=>m c i k d g j e) (by simp only[bt]<;>omega)
 .obtain⟨c,i,z,k⟩:=I.tuple t;have C:=i.length;obtain⟨o,x,y,n,v⟩:=z;exact call_list_seq p (.inr rfl) x y v (λd g j e=>m c i k d g j e) (by simp only[bt]<;>omega)
def lZ:e8 X (.type "tuple") (λk H Q=>∃p d,k=[.ref p]/\((fQ X.K H p d/\∀l,H l=none->Q (.ref l) (dB H l (.tup d)))\/(f6 X.K H p d/\Q (.ref p) H))):=by
 intro x s w H k A Q I r h;obtain⟨p,d,rfl,h⟩:=h;obtain⟨u,rfl,v⟩:=ky r;cases v;rcases h with⟨g,q⟩|⟨g,q⟩
 .obtain⟨c,i,j,n⟩:=I.list g;have z:=i.length;refine call_tuple_list j.isList (λf t=>?_) (by simp only[bt]<;>omega);have m:=I.kept (t':=s.toks) t;have y:cS X x w (dB H f.objs.size (.tup d)) {s with heap:=f.push {cls:=.type "tuple",data:=.seq c.toArray}}:=
   m.laid (λb o e=>ae _ e) (aJ _) (⟨n,c,i,ls.new _ _⟩)
  exact⟨.ref f.objs.size,_,y,rfl,q _ (m.hok.fresh (aJ _))⟩
 .obtain⟨c,i,j,n⟩:=I.tuple g;exact call_tuple_same j ⟨.ref p,H,I,rfl,q⟩
def Ce(K:W.Frag)(T:String)(x:V)(H:Hp):Prop:=match x with
 |.str _=>T = "str"
 |.int _=>T = "int"
 |.ref p=>(T = "list" /\∃d,fQ K H p d)\/(T = "tuple" /\∃o,K.lookup p=some o/\o.cls=.type "tuple" /\o.dict=none)\/
   (T = "dict" /\((∃c,H p=some (.dK c))\/∃c,H p=some (.dT c)))\/(T = "set" /\∃S n,H p=some (.set S n))
 |_=>False
theorem AV{w:List (Addr×Obj)}{q:St}{H:Hp}{s:Sq}{T:String}{x:V}{v:Vq}(I:cS X w q H s)(r:dC x v)(g:Ce X.K T x H) :
  s.TypeIs v T/\∀a,v=.ref a->∃l,s.heap.get? a=some l/\l.dict=none:=by
 cases x with
 |str z=>obtain⟨t,rfl⟩:=r;cases (g);exact⟨typeIs_str s z t,λ_ e=>nomatch e⟩
 |int i=>obtain⟨t,rfl⟩:=r;cases (g);exact⟨typeIs_int s i t,λ_ e=>nomatch e⟩
 |ref p=>
  cases r;rcases g with⟨rfl,B,A⟩|⟨rfl,o,d,y,h⟩|⟨rfl,d⟩|⟨rfl,S,n,d⟩
  .obtain⟨u,_,m,_⟩:=I.list A;refine⟨m.isList.typeIs,λa e=>?_⟩;cases e;obtain⟨o,n,e,c,h,_⟩:=m;exact⟨o,e,h⟩
  .refine⟨⟨o,I.kIn p o d,y⟩,λa e=>?_⟩;cases e;exact⟨o,I.kIn _ o d,h⟩
  .have z:∃o,s.heap.get? p=some o/\o.ExactDict:=by
    rcases d with⟨k,d⟩|⟨k,d⟩
    .obtain⟨_,_,_,_,o,_,_,e,f,_⟩:=I.hok p _ d;exact⟨o,e,f⟩
    .obtain⟨_,_,_,_,o,_,_,e,f,_⟩:=I.hok p _ d;exact⟨o,e,f⟩
   obtain⟨o,e,f⟩:=z;refine⟨⟨o,e,f.1⟩,λa j=>?_⟩;cases j;exact⟨o,e,f.2.1⟩
  .obtain⟨o,_,_,_,e,f,_⟩:=I.hok p _ d;refine⟨⟨o,e,f.1⟩,λa j=>?_⟩;cases j;exact⟨o,e,f.2.1⟩
 |_=>exact False.elim g
def Do(K:W.Frag)(T:String)(r:V->List V->Hp->VK->Prop)(to:TE)(t:TA):TE:=λd H Q=>to d H λx c=>Ce K T x c/\t d c λe f=>r x e f Q
variable {o e:Expr}{es:List Expr}{to:TE}{t:TA}{name:Str}{apos cpos:Pos}{T id:String}{r:V->List V->Hp->VK->Prop}
def B4(w:PlainAttrs T)(f:Slot T name id)(k:typeOf (.builtin id)=pure (.type "method_descriptor"))(m:Dt X id r)(y:PE X o to)(n:PA X (e::es) t)
  (c:attributeBase o name X.env (eval o X.env)=eval o X.env:=by rfl)
  (g:((backTo cpos (starEach (e::es) X.env)).all (λx=>!x.1)&&(backToKw cpos (keywordEach [] X.env)).all (λx=>x.1.isSome)
   && decide ((e::es).length+([]:List Keyword).length+(if ([]:List Keyword).isEmpty then 0 else 1)<30))=true:=by rfl)
  (d:(apos.endLine==cpos.line)=true:=by rfl) (p:starEach (e::es) X.env=(false,eval e X.env)::starEach es X.env:=by rfl) (hplain:(backTo cpos (starEach es X.env)).any (·.1)=false:=by rfl) :
  PE X (.Call (.Attribute o name apos) (e::es) [] cpos) (Do X.K T r to t):=by
 intro j s i H Q I h;refine wpAny_Call_method_late c g d rfl (ed (y j s i H _ I h) λv s1 ⟨x,H1,I1,r1,ty,q1⟩=>?_);obtain⟨q,u⟩:=AV I1 r1 ty;refine⟨T,id,w,f,k,q,u,?_⟩;have l:=n cpos j s1 i H1 _ I1 q1;rw[p]at l ⊢;refine Calls.callWith_builtin (by show (false||(backTo cpos (starEach es X.env)).any (·.1))=false;rw[hplain]<;>rfl) (Calls.evalArgs_plain ?_);exact ed l λus s2 ⟨vs,H2,I2,r2,q2⟩=>m j s2 i H2 x vs v us Q I2 r1 r2 q2
end
end L2
namespace L2
open PySem PySem.Spec PyProof.Rows
def Dy(X:Cx)(id:String)(r:V->List V->Hp->VK->Prop):Prop:=
 ∀(d:List (Addr×Obj)) (s:Sq) (c:St) (H:Hp) (x:V) (b:List V) (v:Vq) (a:List Vq) (Q:VK),cS X d c H s->dC x v->c8 b a->r x b H Q->
  wpAny (model X.prog X.w) X.A (call (.builtin id) (v::a)) (EP X d c Q) X.xe s
theorem c8.one:∀{x} {us},c8 [x] us->∃u,us=[u]/\dC x u
 |_,_,.cons r .nil=>⟨_,rfl,r⟩
theorem c8.rep(h:c8 xs us):∀k:Nat,c8 (List.replicate k xs).flatten (List.replicate k us).flatten
 |0=>.nil
 |k+1=>by rw[bJ,bJ,bK,bK];exact c8.append h (c8.rep h k)
theorem iI(a:List Vq):∀k b,
  List.foldl (λd f=>d++f) b.toArray (List.replicate k a.toArray)=(b++(List.replicate k a).flatten).toArray
 |0,b=>by simp
 |k+1,b=>by
  have e:b.toArray++a.toArray=(b++a).toArray:=by simp
  have c:(b++a)++(List.replicate k a).flatten=b++(List.replicate (k+1) a).flatten:=by rw[bJ,bK,bL]
  rw[<-c,<-iI a k (b++a),<-e,bJ,List.foldl_cons]
section
variable {X:Cx}{cD:List (Addr×Obj)}{σ:St}{H:Hp}{s:Sq}{l b:Addr}{xs ys zs:List V}
def cS.lset{c a:List Vq}(I:cS X cD σ H s)(k:H l=some (.lst xs))
  (e:s.heap.get? l=some {cls:=.type "list",data:=.seq c.toArray n}) (g:f c.toArray=a.toArray) (j:c8 ys a) (i:ys.length<=sizeLine) :
  cS X cD σ (dB H l (.lst ys)) {s with heap:=s.heap.update l (Obj.mapSeq f),toks:=t'}:=by
 have q:=PySem.IsL.update e f;rw[g]at q;refine I.write (by rw[k];exact trivial) (.inl rfl) (λm u d h=>(Heap.get?_update_other s.heap (Obj.mapSeq f) (Ne.symm d)).trans h) ⟨_,q⟩ ?_;exact⟨i,a,_,j,q⟩
def cS.lnew(I:cS X cD σ H s)(c:c8 ys its)(a:ys.length<=sizeLine) :
  cS X cD σ (dB H s.heap.objs.size (.lst ys)) {s with heap:=s.heap.push {cls:=.type "list",data:=.seq its.toArray},toks:=t'}:=
 I.laid (λ_ _ q=>ae _ q) (aJ _) ⟨a,its,0,c,ar _ rfl⟩
def cS.fresh(I:cS X cD σ H s):H s.heap.objs.size=none:=I.hok.fresh (aJ _)
def cS.lstM(I:cS X cD σ H s)(c:H l=some (.lst xs)):xs.length<=sizeLine/\∃a n,c8 xs a/\xs.length=a.length/\s.heap.get? l=some {cls:=.type "list",data:=.seq a.toArray n}:=by obtain⟨z,a,n,r,e⟩:=I.hok l _ c;exact⟨z,a,n,r,r.length,e⟩
def uF(h:n<=sizeLine):Builtin.List.listTooLong n=false:=by unfold Builtin.List.listTooLong;exact aA (by omega)
end
section
variable {X:Cx}
def m5:V->List V->Hp->VK->Prop:=λx b H Q=>∃l a y,x=.ref l/\b=[y]/\H l=some (.lst a)/\a.length<sizeLine/\Q .non (dB H l (.lst (a++[y])))
def sO:Dy X "list.append" m5:=by intro o s m H x i v p Q I c d h;obtain⟨l,g,y,rfl,rfl,b,j,q⟩:=h;cases c;obtain⟨u,rfl,f⟩:=d.one;obtain⟨z,a,n,r,k,e⟩:=I.lstM b;refine call_meets F.slot_list_append ⟨_,e,rfl⟩ F.entry_list_append (F.args_list_append_2 _ _) (PySem.list_append l a.toArray n u (by rw[bt];omega)) ⟨e,?_⟩;refine⟨.non,_,I.lset b e (by simp) (r.append (.cons f .nil)) ?_,rfl,q⟩;rw[aS,bM];omega
def zh:R2:=λx y H Q=>∃l b a c,x=.ref l/\y=.ref b/\H l=some (.lst a)/\H b=some (.lst c)/\a.length+c.length<=sizeLine/\∀p,H p=none->Q (.ref p) (dB H p (.lst (a++c)))
def tR:jd X (binaryOp .Add) zh:=by
 intro D s B H x y v u Q I j m h;obtain⟨l,b,p,E,rfl,rfl,k,o,w,q⟩:=h;cases j;cases m;obtain⟨z,c,n,r,A,e⟩:=I.lstM k;obtain⟨t,a,C,g,d,i⟩:=I.lstM o;refine PySem.P.add_list e i ?_ (by rw[bt,bt];omega);have f:c.toArray++a.toArray=(c++a).toArray:=by simp
 rw[f];exact⟨.ref _,_,I.lnew (r.append g) (by rw[aS];omega),rfl,q _ I.fresh⟩
def BV:R2:=λx y H Q=>∃l k a,x=.ref l/\y=.int k/\H l=some (.lst a)/\-(2 ^ 63)<=k/\k<2 ^ 63/\a.length*k.toNat<=sizeLine/\
 ∀p,H p=none->Q (.ref p) (dB H p (.lst (List.replicate k.toNat a).flatten))
def mX{b:Type}(a:List b) k:(List.replicate k a).flatten.length=k*a.length:=by
 induction k with
 |zero=>simp
 |succ k ih=>rw[bJ,bK,aS,ih,Nat.succ_mul,Nat.add_comm]
def zl:jd X (binaryOp .Mult) BV:=by
 intro N s L H x y v u Q I A G h;obtain⟨l,k,K,rfl,rfl,D,B,E,o,q⟩:=h;cases A;obtain⟨t,rfl⟩:=G;obtain⟨z,b,n,r,w,e⟩:=I.lstM D;have p:b.toArray.size*k.toNat<=sizeLine:=by rw[bt,<-w];exact o
 have d:¬b.toArray.size*k.toNat>(2 ^ 63-1) / 8:=by
  have:sizeLine<=(2 ^ 63-1) / 8:=by decide
  omega
 have f:¬(!Builtin.List.listFitsIndex k)=true:=by rw[fitsIndex_both B E];exact aG
 have c:¬Builtin.List.listTooLong (b.toArray.size*k.toNat)=true:=by rw[uF p];exact aG
 have g:List.foldl (λi j=>i++j) #[] (List.replicate (if b.toArray.isEmpty=true then 0 else k.toNat) b.toArray)=(List.replicate k.toNat b).flatten.toArray:=by
  have C:∀m:Nat,List.foldl (λi j=>i++j) #[] (List.replicate m b.toArray)=(List.replicate m b).flatten.toArray:=λm=>by have:=iI b m [];rw[bN]at this;exact this
  rw[C];cases b with
  |nil=>simp
  |cons a r'=>rw[aQ (by simp)]
 refine wpAny_binaryOp_repeat_ref (by decide) ⟨_,e,rfl⟩ (λJ=>typeIs_int J k t) noFill_list_mul F.fills_int_mul F.slot_int_rmul repeat_list F.slot_int_index.lookup
  (call_meets F.slot_int_rmul (typeIs_int s k t) F.entry_int_rmul (F.args_int_rmul_2 _ _) (int___rmul___int_list k t l b.toArray n)
   ⟨e,rfl,⟨_,e,rfl⟩,call_meets F.slot_list_mul ⟨_,e,rfl⟩ F.entry_list_mul (F.args_list_mul_2 _ _) (AutoListH.list___mul___list_int_3 l b.toArray n k t f d c) ⟨e,?_⟩⟩)
 rw[g];exact⟨.ref _,_,I.lnew (r.rep k.toNat) (by rw[mX,bO];exact o),rfl,q _ I.fresh⟩
end
end L2
namespace Att
open PySem PySem.W PySem.Calls PyProof.Rows
def ka:∀ns vs,WellAll P h vs (ns.map WData.int)->IntsAre vs ns:=by
 intro ns;induction ns with
 |nil=>intro vs w;rw[List.map_nil]at w;cases w;exact .nil
 |cons n ns ih=>
  intro vs w;rw[bu]at w;cases w with
  |cons a b=>cases a;exact .cons _ _ (ih _ b)
theorem script_of{l:OpenLaw}(k:l.most=some n)
  (b:l.row.toRowW.claim.pre args=true) (f:WellAll P h vals args) :
  ∃a vs ns,vals=[Value.ref a]/\args=[WData.list (ns.map WData.int)]/\h.get? a=some {cls:=.type "list",data:=.seq vs.toArray}/\IntsAre vs ns/\ns.length<=n:=by
 have g:=(pre_splitW b).1;have i:l.pre.holds [] {args:=args}=true:=(pre_splitW b).2;obtain⟨d,r,rfl,o,p⟩:=hasAllW_cons g;obtain rfl:=hasAllW_nil p;obtain⟨s,rfl,m⟩:=hasW_list o;obtain⟨ns,rfl⟩:=items_int m;have j:ns.length<=n:=by
  unfold OpenLaw.pre at i;have e:(WTm.not (.lt (.lit (.int n)) (.len (.arg 0)))).holds [] {args:=[.list (ns.map .int)]}=true:=by have e:=(holds_andW i).1;rw[k]at e;exact e
  have c:=condW_of e (w_not (w_lt w_lit (w_len_list (w_arg rfl))));rw[aw]at c;refine Nat.le_of_not_lt λq=>?_;first
   | (rw[aB q']at c;exact absurd c (by decide))
   | (simp at c;omega)
 cases f with
 |cons w1 w2=>
  cases w2;cases w1 with
  |list ho yG=>exact⟨_,_,ns,rfl,rfl,ho,ka ns _ yG,j⟩
def post_true(l:OpenLaw) args:l.row.toRowW.claim.post args (.bool true) args=true:=
 postW_of
  (show WShape.has [] (.bool true) .bool=true by first|rfl|decide|simp[WShape.has,WShape.arms,WShape.armsAll])
  (w_eq_bool (w_res rfl) w_lit) rfl
end Att
namespace L2
open PySem PySem.Spec PyProof.Rows
theorem mP:∀{vs} {ns},IntsAre vs ns->c8 (ns.map V.int) vs
 |_,_,.nil=>.nil
 |_,_,.cons n t h=>.cons ⟨t,rfl⟩ (mP h)
def Aq(H:Hp):Prop:=∀b,H b=none\/∃o a,H b=some (.frz o (.lst a))
theorem uj{K:W.Frag}
  (Y:K.In s₁.heap) (D:s₁.heap.Ns mainGlobals mg) (c:s₁.heap.Ns builtinsNs mb) (J:∀x:Str,x≠ "__name__" ->mb x=bootBuiltins x) (A:s₁.heap.NoLimit) (hg:s₁.gens = #[])
  (G:s₁.heap.get? a=some {cls:=.type "list",data:=.seq vs.toArray}) (Z:IntsAre vs ns) (hl:ns.length<=sizeLine) (hr:dy k callerA)
  (F:∀base:Heap,K.In base->base.Ns mainGlobals mg->fw P w K mg base CX k fa fd [x] sp) (j:∀(s:Sq) (u:Vq),BindsTo s fd ⟨[u],[]⟩ [(x,u)])
  (Q:∀H:Hp,Aq H->fQ K H a (ns.map V.int)->sp [.ref a] H (λv _=>v=.bl true) λ_ _ _=>False)
  (S:∀H e f,CX [] H s₁ (λ_ _ _=>False) e f->False) :
  codeAny (model P w) callerA (.call (.ref fa) ⟨[.ref a],[]⟩) (λr f=>r=.ok (.ret (.bool true))/\OldK s₁.heap f.heap/\f.os=s₁.os/\AllBare f.gens) s₁:=by
 have rv:=mP Z;have B:=Z.length;have i:∀H:Hp,Aq H->fQ K H a (ns.map V.int)->iW P w H s₁.heap->(∀b,H b≠none->b=a)->(H a≠none->K.lookup a=none)->
   codeAny (model P w) callerA (.call (.ref fa) ⟨[.ref a],[]⟩) (λr f=>r=.ok (.ret (.bool true))/\OldK s₁.heap f.heap/\f.os=s₁.os/\AllBare f.gens) s₁:=by
  intro H X hS y hA hK;have base_of:∀{b:Addr} {o:Obj},s₁.heap.get? b=some o->H b=none->(nj s₁.heap H).get? b=some o:=λe n=>uZ e n;have R:∀{b:Addr} {o:Obj} {I:Array DictEntry} {E:Nat},s₁.heap.get? b=some o->o.data=.dict I E->H b=none:=λ{b o I E} e d=>by
   cases q:H b with
   |none=>rfl
   |some u=>have N:=hA b (by rw[q];simp);subst N;rw[G]at e;cases e;have d':=d;cases d'
  have g:∀{b:Addr} {m:Str->Option Value},s₁.heap.Ns b m->(nj s₁.heap H).Ns b m:=λ{b m} ⟨o,I,E,e,d,r⟩=>⟨o,I,E,base_of e (R e d),d,r⟩;have t:K.In (nj s₁.heap H):=λb o e=>base_of (Y b o e) (by
   cases q:H b with
   |none=>rfl
   |some u=>have N:=hA b (by rw[q];simp);subst N;rw[hK (by rw[q];simp)]at e;cases e)
  have hM:Mod K mg (nj s₁.heap H):=⟨t,g D,⟨mb,g c,J⟩,let ⟨mc,h1,h2⟩:=A;⟨mc,g h1,h2⟩⟩;have e0:nq P w K mg (nj s₁.heap H) callerA [] s₁ H:=⟨rfl,hM,λb o e=>xI e,Nat.le_of_eq (sx _ _),trivial,λb c=>absurd (show b∈([]) from c) (by simp),y,.of_eq hg⟩;refine codeAny_mono ((F _ t (g D)).run callerA [] s₁ H ⟨[.ref a],[]⟩ [.ref a] [.ref a] _ _ hr e0 (j s₁ (.ref a)) (.cons rfl .nil) (Q H X hS)) λr f h=>?_;cases r with
  |error e=>exact (S H e f h).elim
  |ok fl=>
   cases fl with
   |next=>exact False.elim h
   |brk=>exact False.elim h
   |cont=>exact False.elim h
   |ret u=>
    obtain⟨v,H',os,l,un,p,r',q⟩:=h;have q':=q;subst q';obtain rfl:u=Value.bool true:=r';refine⟨rfl,OldK.of_keep λb o e=>?_,os,l⟩;cases q:H b with
    |none=>exact un.keep b o e q (by intro z;exact absurd (show b∈([]) from z) (by simp)) (by simp)
    |some u=>
     rcases X b with z|⟨ob,xs,z⟩
     .rw[q]at z;cases z
     .have z2:=un.frzs b ob _ z;obtain⟨U,_⟩:=y b _ z;obtain⟨e2,_⟩:=p b _ z2;rw[e]at U;cases U;exact e2
 cases L:K.lookup a with
 |some o=>have e:=Y a o L;rw[G]at e;cases e;refine i (λ_=>none) (λ_=>.inl rfl) (.inr ⟨_,vs.toArray,_,L,rfl,rfl,rfl,by rw[bt,B];exact hl,by simpa using rv⟩) (λb u z=>by have C:=z;cases C) (λb z=>absurd rfl z) λz=>absurd rfl z
 |none=>
  refine i (λb=>if b=a then some (.frz {cls:=.type "list",data:=.seq vs.toArray} (.lst (ns.map V.int))) else none) (λb=>?_) (.inl (.inr ⟨{cls:=.type "list",data:=.seq vs.toArray},aP rfl⟩)) (λb u z=>?_) (λb z=>?_) λ_=>L
  .by_cases c:b=a
   .exact .inr ⟨_,_,aP c⟩
   .exact .inl (aQ c)
  .by_cases c:b=a
   .have C:=(aP c).symm.trans z;cases C;subst c;exact⟨G,by rw[aw];exact hl,vs,_,rv,G⟩
   .have C:=(aQ c).symm.trans z;cases C
  .by_cases c:b=a
   .exact c
   .exact absurd (aQ c) z
end L2
namespace L2
open PySem PySem.Spec PyProof.Rows
noncomputable def gB(s:Stmt)(j:Nat):Stmt:=match s with
 |.ClassDef _ _ _ body _ _ _ _ _ _ _=>body.getD j (.Pass ⟨0,0,0,0⟩)
 |_=>.Pass ⟨0,0,0,0⟩
noncomputable def dM(s:Stmt):Arguments:=match s with
 |.FunctionDef _ a _ _ _ _ _ _ _ _=>a
 |_=>{posonlyargs:=[],args:=[],vararg:=none,kwonlyargs:=[],kw_defaults:=[],kwarg:=none,defaults:=[]}
noncomputable def cZ(s:Stmt):List Stmt:=match s with
 |.FunctionDef _ _ b _ _ _ _ _ _ _=>b
 |_=>[]
noncomputable def cG(s:Stmt):Scope:=match s with
 |.FunctionDef _ _ _ _ _ _ sc _ _ _=>sc
 |_=>{kind:=.function,names:=[],isGenerator:=false,isCoroutine:=false}
abbrev jR:wy:=λ_ _ _ _ _ _=>False
abbrev E0:XK:=λ_ _ _=>False
def yH:eA jR X E0:=λ_ _ _ _ _ _ _ h=>h.elim
structure wx(K:W.Frag)(x qual:Str)(st:Stmt)(f:Addr)(fd:FuncData):Prop where
 ex:∃(oc:Vq) (od:Oq Addr) (kV doc pm:Vq) (an:Oq Addr) (cdv ct:Vq) (osl:Array (Option Value)),
  fd=W.fnOf x qual (dM st) (cZ st) (cG st) .none kV doc pm an cdv ct/\K.lookup f=some ⟨oc,od,.func fd,osl⟩/\W.codeIn K cdv qual=true
 kp:W.keepIn K (.ref f)=true
section
variable {P:Program}{w:World}{K:W.Frag}{mg:Str->Option Value}{base:Heap}
def wx.ok{st:Stmt}(F:wx K x qual st f fd)(S:dw N ps (cG st))(d:∀vs H Q E,sp vs H Q E->vs.length=ps.length)
  (c:∀b A a s H vs Q E,dy k (A.deeper (envOfC qual (cG st) s.heap.objs.size f b))->sp vs H Q E->
   ∃t,jY (dH jR P w K mg base N qual (cG st) f b A a s H E).nox (cZ st) t/\t {nx:=λ_ i=>Q .non i,rt:=Q} (ee N vs) H):fw P w K mg base jR (k+1) f fd ps sp:=by
 obtain⟨u,n,kV,j,p,o,b,r,l,rfl,m,g⟩:=F.ex;refine pE m g S d λA a s H vs Q E hr e=>?_;obtain⟨t,h,q⟩:=c b A a s H vs Q E hr e;exact⟨t,h.nox,q⟩
def wx.binds{st:Stmt}(F:wx K x qual st f fd)
  (h:∀(kV a d:Vq) (c:Oq Addr) (b e:Vq) (us:List Vq),us.length=ps.length->bindArgs (W.fnOf x qual (dM st) (cZ st) (cG st) .none kV a d c b e) ⟨us,[]⟩=pure (ps.zip us)):fV K fd ps []:=by
 obtain⟨l,j,kV,a,d,c,b,e,i,rfl,k,g⟩:=F.ex;exact .all (h kV a d c b e)
def pM{st:Stmt}{kV b d a e:Vq}(l:K.lookup f=some ⟨oc,od,.func (W.fnOf x qual (dM st) (cZ st) (cG st) .none kV b d an a e),osl⟩)
  (c:W.codeIn K a qual=true) (k:W.keepIn K (.ref f)=true):wx K x qual st f (W.fnOf x qual (dM st) (cZ st) (cG st) .none kV b d an a e):=⟨⟨oc,od,kV,b,d,an,a,e,osl,rfl,l,c⟩,k⟩
end
section
variable {X:Cx}
def pv i (d:X.N[i]? = some x:=by rfl) (c:BD X.env.scope x:=by first|exact Or.inl rfl|exact Or.inr (Or.inl rfl)|exact Or.inr (Or.inr rfl)) (b:(x==("__debug__" : Str))=false:=by decide)
  (a:(x==("__classdict__" : Str))=false:=by decide):PE X (.Name x pos) (f7 i):=zF d c b a
end
def cT(H a:Hp):Prop:=∀b o,H b=some o->a b=some o
def cT.refl H:cT H H:=λ_ _ h=>h
def cT.trans(a:cT H H1)(b:cT H1 H2):cT H H2:=λc o h=>b c o (a c o h)
def cT.seq{K:W.Frag}(e:cT H H')(h:fQ K H a xs):fQ K H' a xs:=by
 rcases h with (h|⟨o,h⟩)|h
 .exact .inl (.inl (e _ _ h))
 .exact .inl (.inr ⟨o,e _ _ h⟩)
 .exact .inr h
end L2
namespace L2
open PySem PySem.Spec PyProof.Rows
section
variable {P:Program}{w:World}{H:Hp}{h:Heap}{a:Addr}{o:HO}
def iW.track(ok:iW P w H h)(f:H a=none)(new:eY P w (dB H a o) h a o):iW P w (dB H a o) h:=λb u e=>by
 by_cases d:b=a
 .subst d;rw[cL]at e;cases e;exact new
 .rw[cN d]at e;refine (ok b u e).stay (λ_ _ _ q=>q) (λc q=>?_) λc g q=>?_
  .rw[cN (cX q f)];exact q
  .rw[cN (cX q f)];exact q
end
def cS.track(I:cS X cD σ H s)(d:H a=none)(i:a∈X.ex\/X.s₀.heap.objs.size<=a)
  (g:a≠X.env.locals) (j:∀x c,X.env.cells.lookup x=some c->c≠a) (h:∀p∈X.pn++cD,p.1≠a) (new:eY X.prog X.w (dB H a o) s.heap a o):cS X cD σ (dB H a o) s:=by
 have J:=I.step (t':=s.toks) (d':=s.drawn) (ch:=[a])
  (λb f=>by
   have e:b=a:=by simpa using f
   subst e;exact⟨i,g,j,h⟩)
  (λ_ _ _ _ _ e _=>e) (λ_ u _ _ _ e _=>⟨u.slots,e⟩)
  (λb u f _ n=>by rw[cN (by simpa using f)];exact n)
  (λ_ u _ e=>⟨u,e⟩)
  (λb k q=>by rw[cN (cX q d)];exact q)
  (λb u v q=>by rw[cN (cX q d)];exact q)
  (λb l q=>⟨#[],by rw[cN (cX q d),q];simp⟩)
  (λ_ q=>q) (I.hok.track d new) I.bare
 exact J
noncomputable def fL(a:Env):List (Str×NameKind)->List (Str×Addr)->List (Str×Addr)
 |[],acc=>acc
 | (n,k)::r,acc=>if k==NameKind.free then (match a.cells.lookup n with
  |some c=>fL a r ((n,c)::acc)
  |none=>fL a r acc) else fL a r acc
def iY(h:∀y∈scope.names,y.2=.free->∃c,env.cells.lookup y.1=some c):closureFor scope env=pure (fL env scope.names []):=by
 have all:∀(l:List (Str×NameKind)) b,(∀y∈l,y.2=.free->∃c,env.cells.lookup y.1=some c)->
   (forIn l b λx m=>(if (x.2==NameKind.free)=true then (do
    let a <-cellOf env x.1
    pure (ForInStep.yield ((x.1,a)::m))) else pure (ForInStep.yield m):Sem _))=pure (fL env l b):=by
  intro l;induction l with
  |nil=>intro b _;rfl
  |cons y r ih=>
   intro b i;obtain⟨n,k⟩:=y;rw[bP];by_cases f:(k==NameKind.free)=true
   .obtain⟨c,o⟩:=i (n,k) bh (by simpa using f);have d:=o;have e:cellOf env n=pure c:=by unfold cellOf;rw[d]
    simp only[f,if_true,e,pure_bind];rw[ih _ λy g=>i y (bj _ g)];show pure (fL env r ((n,c)::b))=pure (if (k==NameKind.free)=true then (match env.cells.lookup n with
     |some c=>fL env r ((n,c)::b)
     |none=>fL env r b) else fL env r b)
    rw[aP f,d]
   .have j:(k==NameKind.free)=false:=by simpa using f
    simp only[j,bQ,if_false,pure_bind];rw[ih _ λy g=>i y (bj _ g)];show pure (fL env r b)=pure (if (k==NameKind.free)=true then (match env.cells.lookup n with
     |some c=>fL env r ((n,c)::b)
     |none=>fL env r b) else fL env r b)
    rw[aQ f]
 have:=all scope.names [] h;unfold closureFor;simp only[pure_bind,bind_pure]at this ⊢;exact this
theorem fz:∀{l} {acc},(∀y d,acc.lookup y=some d->env.cells.lookup y=some d)->(fL env l acc).lookup x=some c->env.cells.lookup x=some c
 |[],acc,ha,h=>ha x c h
 | (n,k)::r,acc,ha,h=>by
  unfold fL at h;by_cases b:(k==NameKind.free)=true
  .rw[aP b]at h;cases e:env.cells.lookup n with
   |none=>rw[e]at h;exact fz ha h
   |some d=>
    rw[e]at h;refine fz (λy d' a=>?_) h;rw[bR]at a;cases q:y==n with
    |true=>rw[q]at a;cases a;rw[beq_iff_eq.mp q];exact e
    |false=>rw[q]at a;exact ha y d' a
  .rw[aQ b]at h;exact fz ha h
theorem iH:∀{l} {acc},(∃c,acc.lookup x=some c)->∃c,(fL env l acc).lookup x=some c
 |[],_,h=>h
 | (n,k)::r,acc,h=>by
  unfold fL;by_cases a:(k==NameKind.free)=true
  .rw[aP a];cases e:env.cells.lookup n with
   |none=>exact iH h
   |some d=>
    refine iH ?_;rw[bR];cases q:x==n with
    |true=>exact⟨d,rfl⟩
    |false=>exact h
  .rw[aQ a];exact iH h
theorem gX:∀{l} {acc},(x,NameKind.free)∈l->(∃c,env.cells.lookup x=some c)->∃c,(fL env l acc).lookup x=some c
 | (n,k)::r,acc,b,a=>by
  rcases aE.mp b with e|b
  .cases e;obtain⟨c,a⟩:=a;unfold fL;rw[aP (by rfl),a];refine iH ⟨c,?_⟩;rw[bR,beq_self_eq_true]
  .unfold fL;by_cases f:(k==NameKind.free)=true
   .rw[aP f];cases env.cells.lookup n with
    |none=>exact gX b a
    |some d=>exact gX b a
   .rw[aQ f];exact gX b a
def jj(h:(relabel scope env).names.lookup x=some .cell\/(relabel scope env).names.lookup x=some .free):(x,NameKind.free)∈scope.names\/scope.names.lookup x=some .cell:=by
 have all:∀(l:List (Str×NameKind)),∀k,(k=NameKind.cell\/k=NameKind.free)->
   (l.map λ(n,k)=>if (k==NameKind.free&&env.scope.kind==.function&&env.kindOf n==some .cell) then (n,NameKind.cell) else (n,k)).lookup x=some k->(x,NameKind.free)∈l\/l.lookup x=some .cell:=by
  intro l;induction l with
  |nil=>intro k _ h;simp at h
  |cons y r ih=>
   intro k c h;obtain⟨n,b⟩:=y;rw[bu]at h;by_cases a:(b==NameKind.free&&env.scope.kind==.function&&env.kindOf n==some .cell)=true
   .have d:b=.free:=by simp only[bH,beq_iff_eq]at a;exact a.1.1
    simp only[a,if_true]at h;rw[bR]at h;cases q:x==n with
    |true=>rw[d,beq_iff_eq.mp q];exact .inl bh
    |false=>
     rw[q]at h;rcases ih k c h with z|z
     .exact .inl (bj _ z)
     .exact .inr (by rw[bR,q];exact z)
   .simp only[a,bQ,if_false]at h;rw[bR]at h;cases q:x==n with
    |true=>
     rw[q]at h;have e:b=k:=by simpa using h
     rcases c with rfl|rfl
     .exact .inr (by rw[bR,q,e])
     .rw[e,beq_iff_eq.mp q];exact .inl bh
    |false=>
     rw[q]at h;rcases ih k c h with z|z
     .exact .inl (bj _ z)
     .exact .inr (by rw[bR,q];exact z)
 rcases h with h|h
 .exact all scope.names _ (.inl rfl) h
 .exact all scope.names _ (.inr rfl) h
def nS(h:scope.names.lookup x=some .free):(relabel scope env).names.lookup x=some .cell\/(relabel scope env).names.lookup x=some .free:=by
 have all:∀(l:List (Str×NameKind)),l.lookup x=some .free->
   (l.map λ(n,k)=>if (k==NameKind.free&&env.scope.kind==.function&&env.kindOf n==some .cell) then (n,NameKind.cell) else (n,k)).lookup x=some .cell\/
   (l.map λ(n,k)=>if (k==NameKind.free&&env.scope.kind==.function&&env.kindOf n==some .cell) then (n,NameKind.cell) else (n,k)).lookup x=some .free:=by
  intro l;induction l with
  |nil=>intro h;simp at h
  |cons y r ih=>
   intro h;obtain⟨n,k⟩:=y;rw[bu];rw[bR]at h;cases q:x==n with
   |true=>
    rw[q]at h;have b:k=.free:=by simpa using h
    by_cases a:(k==NameKind.free&&env.scope.kind==.function&&env.kindOf n==some .cell)=true
    .refine .inl ?_;simp only[a,if_true];rw[bR,q]
    .refine .inr ?_;simp only[a,bQ,if_false];rw[bR,q,b]
   |false=>
    rw[q]at h;by_cases a:(k==NameKind.free&&env.scope.kind==.function&&env.kindOf n==some .cell)=true
    .simp only[a,if_true];rw[bR,q];exact ih h
    .simp only[a,bQ,if_false];rw[bR,q];exact ih h
 exact all scope.names h
def sg(X:Cx)(a:List Expr)(t:TT):Prop:=
 ∀(d:List (Addr×Obj)) (s:Sq) (b:St) (H:Hp) (Q:Bool->Hp->Prop),cS X d b H s->t b H Q->
  wpAny (model X.prog X.w) X.A (forIn a true λc r=>if r=true then do let ok <-isTrue c X.env (eval c X.env);pure (ForInStep.yield ok) else pure (ForInStep.yield r)) (TP X d b Q) X.xe s
def zB:TT:=λ_ H Q=>Q true H
def yh:sg X [] zB:=λ_ _ _ H _ I h=>wpAny_tests_nil ⟨H,I,h⟩
def yD(a:PT X c t):sg X [c] t:=λb s d H Q I h=>wpAny_tests_one (a b s d H Q I h)
theorem gp:∀a k b,(cellsFrom k a b).lookup x=some c->b.lookup x=some c\/(k<=c/\(x,NameKind.cell)∈a)
 |[],_,_,h=>.inl h
 | (n,kd)::r,k,b,h=>by
  unfold cellsFrom at h;split at h
  .rename_i e;rcases gp r _ _ h with q|⟨q,m⟩
   .rw[bR]at q;cases d:x==n with
    |true=>rw[d]at q;cases q;refine .inr ⟨aJ _,?_⟩;rw[beq_iff_eq.mp d,beq_iff_eq.mp e];exact bh
    |false=>rw[d]at q;exact .inl q
   .exact .inr ⟨bS q,bj _ m⟩
  .rcases gp r _ _ h with q|⟨q,m⟩
   .exact .inl q
   .exact .inr ⟨q,bj _ m⟩
theorem fK:∀a k b,(x,NameKind.cell)∉a->(cellsFrom k a b).lookup x=b.lookup x
 |[],_,_,_=>rfl
 | (n,kd)::r,k,b,h=>by
  unfold cellsFrom;have hr:(x,NameKind.cell)∉r:=λz=>h (bj _ z);split
  .rename_i d;rw[fK r _ _ hr,bR];cases c:x==n with
   |true=>exact absurd (by rw[beq_iff_eq.mp c,beq_iff_eq.mp d];exact bh) h
   |false=>rfl
  .exact fK r _ _ hr
theorem gL:∀a k b,(x,NameKind.cell)∈a->(cellsFrom k a b).lookup x=some c->k<=c
 |[],_,_,h,_=>nomatch h
 | (n,kd)::r,k,b,h,e=>by
  unfold cellsFrom at e;by_cases hr:(x,NameKind.cell)∈r
  .split at e
   .exact bS (gL r _ _ hr e)
   .exact gL r _ _ hr e
  .rcases aE.mp h with q|q
   .cases q;rw[aP (by rfl),fK r _ _ hr,bR,beq_self_eq_true]at e;cases e;exact aJ _
   .exact absurd q hr
theorem gF:∀d k a,(∀x y c,a.lookup x=some c->a.lookup y=some c->x=y)->(∀x c,a.lookup x=some c->c<k)->
  ∀x y c,(cellsFrom k d a).lookup x=some c->(cellsFrom k d a).lookup y=some c->x=y
 |[],_,_,h,_=>h
 | (n,kd)::r,k,a,h,hl=>by
  unfold cellsFrom;split
  .refine gF r (k+1) ((n,k)::a) (λx y c b e=>?_) λx c b=>?_
   .rw[bR]at b e;cases f:x==n with
    |true=>
     cases g:y==n with
     |true=>rw[beq_iff_eq.mp f,beq_iff_eq.mp g]
     |false=>rw[f]at b;rw[g]at e;cases b;exact absurd (hl _ _ e) (aZ _)
    |false=>
     rw[f]at b;cases g:y==n with
     |true=>rw[g]at e;cases e;exact absurd (hl _ _ b) (aZ _)
     |false=>rw[g]at e;exact h x y c b e
   .rw[bR]at b;cases f:x==n with
    |true=>rw[f]at b;cases b;exact bw _
    |false=>rw[f]at b;exact bT (hl x c b)
  .exact gF r k a h hl
theorem gj:∀a h b,(cellsFrom h.objs.size a b).lookup x=some c->b.lookup x=some c\/(h.objs.size<=c/\(pushCells h a).IsCell c none)
 |[],_,_,e=>.inl e
 | (n,kd)::r,h,b,e=>by
  unfold cellsFrom at e;unfold pushCells;split at e
  .rename_i d;rw[aP d];have g:(cellsFrom (h.push {cls:=.type "cell",data:=.cell none}).objs.size r ((n,h.objs.size)::b)).lookup x=some c:=by rw[Heap.size_push];exact e
   rcases gj r _ _ g with q|⟨q,m⟩
   .rw[bR]at q;cases f:x==n with
    |true=>rw[f]at q;cases q;exact .inr ⟨aJ _,_,pushCells_keeps r _ _ _ (ar _ rfl),rfl⟩
    |false=>rw[f]at q;exact .inl q
   .rw[Heap.size_push]at q;exact .inr ⟨bS q,m⟩
  .rename_i d;rw[aQ d];exact gj r _ _ e
def jO{M:Model}{A:Around}{E:Vq->Shared->Prop}{s:Sq}{a:Scope}{globals:Addr}{closure:List (Str×Addr)}{c:Str}{e:Oq Addr}{d:Vq}{b:Env}{builtins:Addr}{Q:Env->Shared->Prop}
  (j:Q (newEnv a s.heap.objs.size globals (cellsFrom (s.heap.objs.size+1) a.names closure) c e d (some b) builtins) {s with heap:=pushCells (s.heap.push {cls:=.type "dict",data:=.dict #[]}) a.names}) :
  wpAny M A (newFunctionEnv a globals closure [] c e d (some b) builtins) Q E s:=by
 simp only[newFunctionEnv,Option.isSome_some,if_true];refine ao (wpAny_alloc ?_);refine ao (wpAny_layCells _ (λi f g=>by cases h:f==NameKind.cell<;>simp[h]) _ _ _ _ ?_);rw[show ({s with heap:=s.heap.push {cls:=.type "dict",data:=.dict #[]}}:Sq).heap.objs.size=s.heap.objs.size+1 from Heap.size_push ..];rw[bU];exact ao (ak (ak j))
noncomputable def fX(X:Cx)(N:List Str)(a:Scope)(C:Addr)(b:Sq)(H:Hp)(ex:List Addr)(pn:List (Addr×Obj)):Cx:={X with N:=N,s₀:=b,H₀:=H,env:=compEnvC a (cellsFrom (C+1) a.names (fL X.env a.names [])) C X.env,outer:=X.stack,ex:=ex,fn:=λx=>a.names.lookup x==some .cell,pn:=pn,xe:=λ_ _=>False}
noncomputable def pull(a:List (Option Nat))(b:St):St:=a.map fun
 |none=>none
 |some j=>(b[j]?).getD none
def Ds(J:It)(p:List (Option Nat))(g:TG)(j:TT)(n:TE)(l:St)(k:Hp)(Q:VK):Prop:=∃W:Nat->Nat->List V->Hp->Prop,(∃m,W 0 m [] k)/\∀i m c H,W i m c H->
 (J.stop i H/\∀D,H D=none->Q (.ref D) (dB H D (.lst c)))\/
 (J.go i H/\c.length<sizeLine/\∀x e,J.yld i H x e->g x (pull p l) e λd o=>j d o λb f=>if b=true then n d f λy h=>∃a,a<m/\W (i+1) a (c++[y]) h else ∃a,a<m/\W (i+1) a c f)
def uI(e:List (Option Nat))(c:TI)(g:TG)(b:TT)(f:TE):TE:=λa H Q=>c a H λJ d=>Ds J e g b f a d Q
end L2
namespace L2
open PySem PySem.Spec PyProof.Rows
section
variable {prog:Program}{w:World}{A:Around}{R:Result->Shared->Prop}{s:Sq}
theorem ng{p F j:Expr}{t:List Expr}{b:Scope}{B:Pos}{it q:Vq}{a:Env}(J:Nat->Shared->Prop)
  (D:∀n s,J n s->wpAny (model prog w) A (pyNext it) (λr e=>match r with
   |none=>R (.ok .next) e
   |some v=>wpAny (model prog w) A (letOwnedTupleGo F it v) (λ_ l=>wpAny (model prog w) A (assign F a v) (λ_ o=>
     wpAny (model prog w) A (forIn t true λc r=>if r=true then do let ok <-isTrue c a (eval c a);pure (ForInStep.yield ok) else pure (ForInStep.yield r)) (λok d=>
      if ok=true then wpAny (model prog w) A (eval p a) (λx g=>wpAny (model prog w) A (call (.builtin "list.append") [q,x]) (λ_ f=>∃m,m<n/\J m f) (λ_ _=>False) g) (λ_ _=>False) d
      else ∃m,m<n/\J m d) (λ_ _=>False) o) (λ_ _=>False) l) (λ_ _=>False) e) (λ_ _=>False) s)
  (n:Nat) (h:J n s):codeAny (model prog w) A (.compLoop (.ListComp p [⟨F,j,t,0⟩] b B) 0 it q a) R s:=by
 refine codeAny_loop rfl J (λn s G=>?_) n h;show wpAny _ A ((compTurn (.ListComp p [⟨F,j,t,0⟩] b B) 0 it q a).onRaise (λx=>do noteFrame x a;theTreesLotGoes x)) _ _ s;refine wpAny_noted ?_;rw[compTurn_list];refine ao (wpAny_standAt (ao (wpAny_mono (D n s G) (λr e k=>?_) λ_ _ z=>z.elim)));cases r with
 |none=>exact ak k
 |some v=>
  refine ao (wpAny_mono k (λ_ l u=>?_) λ_ _ z=>z.elim);refine ao (wpAny_mono u (λ_ o E=>ao (wpAny_mono E (λok d i=>?_) λ_ _ z=>z.elim)) λ_ _ z=>z.elim);cases ok with
  |false=>exact ak ⟨rfl,i⟩
  |true=>exact ao (ao (wpAny_mono i (λx g y=>ao (wpAny_mono y (λ_ f C=>ak (ak ⟨rfl,C⟩)) λ_ _ z=>z.elim)) λ_ _ z=>z.elim))
end
def g6(d:List (Option Nat))(g:TG):Prop:=∀x a H Q,g x a H Q->g x a H λb c=>(∀i j:Nat,d[i]? = some (some j)->b[i]? = a[i]?)/\Q b c
def lu(b:ix[k]? = some none):g6 ix (ek k):=λx a H Q h=>by
 refine⟨λi j e=>?_,h⟩;have:k≠i:=by rintro rfl;rw[b]at e;cases e
 rw[aq this]
abbrev lU(us:List Vq):Obj:={cls:=.type "list",data:=.seq us.toArray us.length}
section
variable {X:Cx}{tg elt iter:Expr}{ifs:List Expr}{scope:Scope}{pos:Pos}{N:List Str}{ix:List (Option Nat)}{wi:TI}{g:TG}{tt:TT}{te:TE}
structure pK(X:Cx)(scope:Scope)(N:List Str)(ix:List (Option Nat)):Prop where
 kind:scope.kind=.function
 sep:∀y∈scope.names,y.2=.cell->scope.names.lookup y.1=some .cell
 names:∀y∈scope.names,y.2=.local->scope.names.lookup y.1=some .local
 fre:∀y∈scope.names,y.2=.free->∃c,X.env.cells.lookup y.1=some c
 len:N.length=ix.length
 ix:∀(i j:Nat) (x:Str),N[i]? = some x->ix[i]? = some (some j)->X.N[j]? = some x/\scope.names.lookup x=some .free/\BD X.env.scope x/\X.env.kindOf x≠some .local
def B2(L:pK X scope N ix)(I:cS X cD σ H s)(f:∀b∈fp,kf X cD H b)(i:∀b∈fp,b<s.heap.objs.size) o :
  (fX X N scope (s.heap.objs.size+1) {s with heap:=s.heap.push o} H (s.heap.objs.size::fp) (X.pn++cD)).Ok:=by
 have r:cS X cD σ H {s with heap:=s.heap.push o}:=I.kept λb u e=>ae _ e;have sound0:∀x c,(fL X.env scope.names []).lookup x=some c->X.env.cells.lookup x=some c:=λx c e=>fz (λy d z=>by simp at z) e;have cellLt:∀x c,X.env.cells.lookup x=some c->c<s.heap.objs.size:=λx c e=>let ⟨_,q⟩:=I.cell x c e;q.lt;have h:∀x c,(cellsFrom (s.heap.objs.size+1+1) scope.names (fL X.env scope.names [])).lookup x=some c->X.env.cells.lookup x=some c\/s.heap.objs.size+1+1<=c:=λx c e=>by
  rcases gp _ _ _ e with q|⟨q,_⟩
  .exact .inl (sound0 x c q)
  .exact .inr q
 refine⟨I.ok.mod,L.kind,I.ok.glob,I.ok.blt,?_,gF _ _ _ (λx y c j n=>I.ok.inj x y c (sound0 x c j) (sound0 y c n)) (λx c j=>bT (bT (cellLt x c (sound0 x c j)))),λx v=>?_,λx c j n=>?_,I.ok.hd,I.ok.frames,.inl rfl,λb a=>?_,λb u e=>?_,?_,λb u e a=>?_,λb a=>?_,r.stack,I.stkFree⟩
 .show (s.heap.push o).objs.size<=s.heap.objs.size+1;rw[Heap.size_push];exact aJ _
 .refine bC.mp (W.cellsFrom_some _ _ _ ?_);rcases jj v with k|k
  .exact .inr (bC.mpr (gX k (L.fre _ k rfl)))
  .exact .inl k
 .have l:(scope.names.lookup x==some .cell)=true:=j;have t:scope.names.lookup x=some .cell:=by simpa using l
  show (s.heap.push o).objs.size<=c;rw[Heap.size_push];exact bS (gL _ _ _ (PySem.mem_of_lookup t) n)
 .rcases aE.mp a with rfl|a
  .refine⟨aL (bw _),λx c e z=>?_⟩;rcases h x c e with q|q
   .exact absurd (cellLt x c q) (by rw[z];exact aZ _)
   .rw[z]at q;omega
  .refine⟨aL (bT (i b a)),λx c e=>?_⟩;rcases h x c e with q|q
   .exact (f b a).2.2.2.2.1 x c q
   .intro z;rw[z]at q;exact absurd (aM (bV _ 2) q) (Nat.not_le.mpr (i b a))
 .exact⟨ae _ (I.bs b u e).1,(I.bs b u e).2⟩
 .show X.base.objs.size<=(s.heap.push o).objs.size;rw[Heap.size_push];exact bW (aM I.ok.bsz I.sz)
 .have m:=aK (I.bs b u e).1;rcases aE.mp a with rfl|a
  .exact aZ _ m
  .rcases (f b a).2.2.2.1 with z|z
   .exact I.ok.noex b u e z
   .exact absurd (aD (aK e) (aM I.ok.bsz z)) (aZ _)
 .intro z;have p:=I.stkSub b z;rcases aE.mp a with rfl|a
  .rcases aE.mp p with q|q
   .exact absurd I.lt (by rw[<-q];exact aZ _)
   .exact I.nofs (aJ _) q
  .rcases aE.mp p with q|q
   .exact (f b a).2.1 q
   .exact (f b a).2.2.1 q
end
end L2
namespace L2
open PySem PySem.Spec PyProof.Rows
section
variable {X:Cx}{tg elt iter:Expr}{ifs:List Expr}{scope:Scope}{pos:Pos}{N:List Str}{ix:List (Option Nat)}{wi:TI}{g:TG}{tt:TT}{te:TE}
def oY{i:Nat}(h:(pull ix σ)[i]? = some (some v)):∃j,ix[i]? = some (some j)/\σ[j]? = some (some v):=by
 unfold pull at h;rw[av]at h;cases e:ix[i]? with
 |none=>rw[e]at h;cases h
 |some k=>
  rw[e]at h;cases k with
  |none=>cases h
  |some j=>
   refine⟨j,rfl,?_⟩;have a:(σ[j]?).getD none=some v:=by simpa using h
   cases q:σ[j]? with
   |none=>rw[q]at a;cases a
   |some z=>rw[q]at a;simpa using a
theorem qV{RR:Vq->Addr->Result->Shared->Prop}{Q:VK}{W:Nat->Nat->List V->Hp->Prop}
  (hc:X.calm=true) (L:pK X scope N ix) (hgk:g6 ix g)
  (blk:∀C F H ex pn,PG (fX X N scope C F H ex pn) tg g/\sg (fX X N scope C F H ex pn) ifs tt/\PE (fX X N scope C F H ex pn) elt te)
  (l:cS X cD σ H2 s2) (T:sX X.prog X.w X.K tg J fp it tn) (st2:tn 0 s2.heap) (f2:∀b∈fp,kf X cD H2 b) (w0:W 0 m0 [] H2)
  (turn:∀i m U H,W i m U H->(J.stop i H/\∀D,H D=none->Q (.ref D) (dB H D (.lst U)))\/
   (J.go i H/\U.length<sizeLine/\∀x s,J.yld i H x s->g x (pull ix σ) s λσ2 H2=>tt σ2 H2 λb H3=>if b=true then te σ2 H3 λy H4=>∃m',m'<m/\W (i+1) m' (U++[y]) H4 else ∃m',m'<m/\W (i+1) m' U H3))
  (fin:∀D C m s R,R.heap.Ns C m->kf X cD s C->cS X cD σ s R->Q (.ref D) s->RR (.ref D) C (.ok .next) R) :
  wpAny (model X.prog X.w) X.A (newList []) (λacc F=>wpAny (model X.prog X.w) X.A (newFunctionEnv scope X.env.globals (fL X.env scope.names []) [] X.env.qual none .none (some X.env)) (λcenv s₄=>codeAny (model X.prog X.w) X.A (.compStart (.ListComp elt [⟨tg,iter,ifs,0⟩] scope pos) 0 (.ref it) acc {cenv with scope:=relabel scope X.env}) (RR acc cenv.locals) s₄) E F) E s2:=by
 refine wpAny_newObj_type (jO ?_);have hCs:(s2.heap.push {cls:=.type "list",dict:=none,data:=.seq ([]).toArray}).objs.size=s2.heap.objs.size+1:=Heap.size_push ..;generalize P:pushCells ((s2.heap.push {cls:=.type "list",dict:=none,data:=.seq ([]).toArray}).push {cls:=.type "dict",data:=.dict #[]}) scope.names=h₁;rw[hCs];have hns₁:h₁.Ns (s2.heap.objs.size+1) (λ_=>none):=by rw[<-P,<-hCs];exact (Heap.Ns.new _ _).keeps (pushCells_keeps _ _)
 have S:∀x c,(cellsFrom (s2.heap.objs.size+1+1) scope.names (fL X.env scope.names [])).lookup x=some c->X.env.cells.lookup x=some c\/(s2.heap.objs.size+1+1<=c/\h₁.IsCell c none):=λx c e=>by
  have hs3:((s2.heap.push {cls:=.type "list",dict:=none,data:=.seq ([]).toArray}).push {cls:=.type "dict",data:=.dict #[]}).objs.size=s2.heap.objs.size+1+1:=by rw[Heap.size_push,hCs]
  rw[<-hs3]at e;rcases gj _ _ _ e with q|⟨q,m⟩
  .exact .inl (fz (λy d z=>by simp at z) q)
  .rw[hs3]at q;rw[P]at m;exact .inr ⟨q,m⟩
 have fpObj:=T.obj 0 _ st2;have hlt:∀b∈fp,b<s2.heap.objs.size:=λb h=>let ⟨_,e,_⟩:=fpObj b h;aK e;have ok:=B2 L l f2 hlt {cls:=.type "list",dict:=none,data:=.seq ([]).toArray};have DC:s2.heap.objs.size≠s2.heap.objs.size+1:=aL (bw _);have hold:∀b o,(s2.heap.push {cls:=.type "list",dict:=none,data:=.seq ([]).toArray}).get? b=some o->h₁.get? b=some o:=λb o e=>by rw[<-P];exact pushCells_keeps _ _ _ _ (ae _ e)
 have Z:∀b o,s2.heap.get? b=some o->h₁.get? b=some o:=λb o e=>hold b o (ae _ e);have sound:∀x c,(fL X.env scope.names []).lookup x=some c->X.env.cells.lookup x=some c:=λx c e=>fz (λy d z=>by simp at z) e;have cellLt:∀x c,X.env.cells.lookup x=some c->c<s2.heap.objs.size:=λx c e=>let ⟨_,q⟩:=l.cell x c e;q.lt;have hDn:=l.hok.fresh (aJ _);have hCn:=l.hok.fresh (bA _);have t:∀p∈X.pn++cD,p.1<s2.heap.objs.size:=λp f=>aK (l.pin p f).1;have hDfs:s2.heap.objs.size∉hV X.stack:=λz=>by
  rcases aE.mp (l.stkSub _ z) with q|q
  .exact absurd l.lt (by rw[<-q];exact aZ _)
  .exact l.nofs (aJ _) q
 have I':cS (fX X N scope (s2.heap.objs.size+1) {s2 with heap:=s2.heap.push {cls:=.type "list",dict:=none,data:=.seq ([]).toArray}} H2 (s2.heap.objs.size::fp) (X.pn++cD))
   [(s2.heap.objs.size,lU [])] (pull ix σ) H2 {s2 with heap:=h₁,toks:=s2.toks}:=by
  refine⟨ok,rfl,l.bare,Un.kept hold,⟨_,hns₁,λi x v h1 h2 h3=>?_⟩,λx c e=>?_,hCn,λx c e=>?_,λp f=>?_,l.hok.kept Z,?_⟩
  .obtain⟨j,ej,es⟩:=oY h2;obtain⟨q1,q2,q3,q4⟩:=L.ix i j x h1 ej;obtain⟨m,_,hl⟩:=l.loc;obtain⟨u,r,lk⟩:=hl j x v q1 es q3;refine⟨u,r,?_⟩;rcases lk with⟨k,_⟩|⟨k,c,hcl,hv⟩
   .exact absurd k q4
   .obtain⟨c',hc'⟩:=gX (PySem.mem_of_lookup q2) ⟨c,hcl⟩;have:=sound x c' hc';rw[hcl]at this;cases this;have hnc:(x,NameKind.cell)∉scope.names:=λz=>by have:=L.sep _ z rfl;rw[q2]at this;cases this
    refine .inr ⟨?_,c,(fK _ _ _ hnc).trans hc',let ⟨ob,ho,hd⟩:=hv;⟨ob,Z c ob ho,hd⟩⟩;exact nS q2
  .rcases S x c e with q|⟨_,q⟩
   .obtain⟨v,ob,ho,hd⟩:=l.cell x c q;exact⟨v,ob,Z c ob ho,hd⟩
   .exact⟨none,q⟩
  .rcases S x c e with q|⟨q,_⟩
   .exact l.freeC x c q
   .exact l.hok.fresh (aM (bV _ 2) q)
  .rcases ai.mp f with f|f
   .obtain⟨e,n,ne,nf,d⟩:=l.pin p f;refine⟨Z _ _ e,n,aL (bT (t p f)),λz=>?_,d⟩;rcases aE.mp (l.stkSub _ z) with q|q
    .exact ne q
    .exact nf q
   .have e:p=(s2.heap.objs.size,lU []):=by simpa using f
    subst e;exact⟨hold _ _ (ar _ rfl),hDn,DC,hDfs,λv z=>by cases z⟩
  .unfold pull;rw[aw];exact L.len.symm
 generalize a:fX X N scope (s2.heap.objs.size+1) {s2 with heap:=s2.heap.push {cls:=.type "list",dict:=none,data:=.seq ([]).toArray}} H2 (s2.heap.objs.size::fp) (X.pn++cD)=X' at I';obtain⟨hg,hif,he⟩:=blk (s2.heap.objs.size+1) {s2 with heap:=s2.heap.push {cls:=.type "list",dict:=none,data:=.seq ([]).toArray}} H2 (s2.heap.objs.size::fp) (X.pn++cD);rw[a]at hg hif he;have stat:∀{s:Hp} {G:List Vq},(∀b∈fp,s b=none)->∀b∈fp,kf X' [(s2.heap.objs.size,lU G)] s b:=λ{s G} hn b h=>by
  subst a;obtain⟨_,f1,f2',f3,f4,f5⟩:=f2 b h;refine⟨hn b h,aL (bT (hlt b h)),λz=>?_,.inl (bj _ h),λx c e=>?_,λp f=>?_⟩
  .rcases aE.mp (l.stkSub _ z) with q|q
   .exact f1 q
   .exact f2' q
  .rcases S x c e with q|⟨q,_⟩
   .exact f4 x c q
   .intro z;rw[z]at q;exact absurd (aM (bV _ 2) q) (Nat.not_le.mpr (hlt b h))
  .rcases ai.mp f with f|f
   .exact f5 p f
   .have e:p=(s2.heap.objs.size,lU G):=by simpa using f
    subst e;exact Ne.symm (aL (hlt b h))
 have loop:codeAny (model X.prog X.w) X.A (.compLoop (.ListComp elt [⟨tg,iter,ifs,0⟩] scope pos) 0 (.ref it) (.ref s2.heap.objs.size) X'.env) (RR (.ref s2.heap.objs.size) (s2.heap.objs.size+1))
   {s2 with heap:=h₁,toks:=s2.toks}:=by
  refine ng (λn R=>∃i U G s,cS X' [(s2.heap.objs.size,lU G)] (pull ix σ) s R/\c8 U G/\U.length<=sizeLine/\tn i R.heap/\(∀b∈fp,s b=none)/\W i n U s) ?_ m0
   ⟨0,[],[],H2,I',.nil,bx _,T.keep _ _ _ st2 λb _ o e=>Z b o e,λb h=>(f2 b h).1,w0⟩
  rintro n s3 ⟨i,U,G,H3,I3,rv,hz,st3,fr3,w3⟩;have hcX:X'.calm=true:=by subst a;exact hc
  have hA:X'.A=X.A:=by subst a;rfl
  rcases turn i n U H3 w3 with⟨stop,qn⟩|⟨go,fO,step⟩
  .have hd:=T.done X' (by subst a;rfl) (by subst a;rfl) (by subst a;rfl) hcX i _ s3 _ H3 (λ_ _=>False) I3 (stat fr3) st3 stop;rw[hA]at hd;refine ed hd λr s4 ⟨hr,I4⟩=>?_;subst hr;subst a;obtain⟨m,hn,_⟩:=I4.loc;have hD3:=I4.pin (s2.heap.objs.size,lU G) (br _ bh);have u1:Un (hV X.stack) fp H2 H3 s2.heap s4.heap:=by
    have B:=I4.base;have nD:∀b o,s2.heap.get? b=some o->b∉fp->b∉s2.heap.objs.size::fp:=λb o e h z=>by
     rcases aE.mp z with q|q
     .exact absurd (aK e) (by rw[q];exact aZ _)
     .exact h q
    exact⟨λb o e n h hx=>B.keep b o (ae _ e) n h (nD b o e hx),λb o e n h hx=>B.slot b o (ae _ e) n h (nD b o e hx),
     λb o e n hx=>B.free b o (ae _ e) n (nD b o e hx),λb o e hx=>B.there b o (ae _ e) (nD b o e hx),B.tups,B.frzs,B.tbls⟩
   have I5:=l.call' I4.os u1 I4.hok I4.bare λb h=>let ⟨_,f1,_,f3,f4,f5⟩:=f2 b h;⟨f3,f1,f4,f5⟩;have I6:cS X cD σ (dB H3 s2.heap.objs.size (.lst U)) s4:=I5.track hD3.2.1 (.inr l.sz) (Ne.symm (aL l.lt)) (λx c e z=>absurd (cellLt x c e) (by rw[z];exact aZ _))
    (λp f=>aL (t p f)) ⟨hz,G,G.length,rv,hD3.1⟩
   refine fin _ _ m _ s4 hn ⟨?_,?_,?_,.inr (bW l.sz),λx c e z=>?_,λp f=>?_⟩ I6 (qn _ hD3.2.1)
   .rw[cN (Ne.symm DC)];exact I4.free
   .exact Ne.symm (aL (bT l.lt))
   .exact l.nofs (bA _)
   .exact absurd (cellLt x c e) (by rw[z];exact Nat.not_lt.mpr (bA _))
   .exact aL (bT (t p f))
  .have hd:=T.item X' (by subst a;rfl) (by subst a;rfl) (by subst a;rfl) hcX i _ s3 _ H3 (λ_ _=>False) I3 (stat fr3) st3 go;rw[hA]at hd;refine ed hd λr s4 ⟨u,hr,h4⟩=>?_;subst hr;refine ed h4 λ_ s5 ⟨x,H5,I5,r5,y5,st5,fr5⟩=>?_;have I5':=I5.pinned (stat fr5) (T.obj _ _ st5);have hM:model X'.prog X'.w=model X.prog X.w:=by subst a;rfl
   have hE:X'.xe=λ_ _=>False:=by subst a;rfl
   have a6:=hg _ s5 _ H5 x u _ I5' r5 (hgk x _ H5 _ (step x H5 y5));rw[hM,hA,hE]at a6;refine ed a6 λ_ s6 ⟨σ6,H6,I6,agr,q6⟩=>?_;have a7:=hif _ s6 σ6 H6 _ I6 q6;rw[hM,hA,hE]at a7;refine ed a7 λok s7 ⟨H7,I7,q7⟩=>?_;have back:∀{R:Sq} {s:Hp} {pl:List (Addr×Obj)},cS X' pl σ6 s R->cS X' pl (pull ix σ) s R:=λ{R s pl} I=>by
    refine I.weak ?_ λk v e=>?_
    .have e1:=I.len;have e2:=I3.len;rw[e1,e2]
    .obtain⟨j,ej,_⟩:=oY e;rw[agr k j ej];exact e
   have held:∀{R:Sq} {s:Hp},cS X' ([(s2.heap.objs.size,lU G)]++kY fp s5.heap) σ6 s R->tn (i+1) R.heap/\∀b∈fp,s b=none:=λ{R s} I=>by refine⟨T.keep _ _ _ st5 λb h o e=>(I.pin (b,o) (br _ (br _ (gZ h e)))).1,λb h=>?_⟩;obtain⟨o,e,_⟩:=T.obj _ _ st5 b h;exact (I.pin (b,o) (br _ (br _ (gZ h e)))).2.1
   cases ok with
   |false=>rw[aQ aG]at q7 ⊢;obtain⟨m',hm,w7⟩:=q7;obtain⟨k1,k2⟩:=held I7;exact⟨m',hm,i+1,U,G,H7,(back I7).unpinned,rv,hz,k1,k2,w7⟩
   |true=>
    rw[aP rfl]at q7 ⊢;have a8:=he _ s7 σ6 H7 _ I7 q7;rw[hM,hA,hE]at a8;refine ed a8 λy s8 ⟨yv,H8,I8,r8,m',hm,w8⟩=>?_;obtain⟨k1,k2⟩:=held I8;have Y:=I8.pin (s2.heap.objs.size,lU G) (br _ (ax _ bh));have hl:=rv.length;refine append_at Y.1 λh9 sb hD9=>?_;have I9:cS X' [] (pull ix σ) H8 s8:=(back I8).pins_of λp f=>by simp at f
    have I10:=I9.turned (t':=s8.toks) (λb o h e=>sb.extBut b o h e) Y.2.1 Y.2.2.1 (.inl (by subst a;exact bh))
     (λx c e z=>by
      subst a;rcases S x c e with q|⟨q,_⟩
      .exact absurd (cellLt x c q) (by rw[z];exact aZ _)
      .rw[z]at q;omega) (λp f z=>by
      subst a;rcases ai.mp f with f|f
      .exact absurd (t p f) (by rw[z];exact aZ _)
      .simp at f)
    have e9:h9.get? s2.heap.objs.size=some (lU (G++[y])):=by rw[hD9];simp
    refine⟨m',hm,i+1,U++[yv],G++[y],H8,I10.pins_of λp f=>?_,rv.append (.cons r8 .nil),by rw[aS,bM];omega,?_,k2,w8⟩
    .have e:p=(s2.heap.objs.size,lU (G++[y])):=by simpa using f
     subst e;exact⟨e9,Y.2.1,Y.2.2.1,Y.2.2.2.1,λv z=>by cases z⟩
    .exact T.keep _ _ _ k1 λb h o e=>sb.extBut b o (aL (hlt b h)) e
 have loop':=loop;subst a;exact codeAny_compStart_list loop (T.self X.A 0 _ _ _ (T.keep _ _ _ st2 λb _ o e=>Z b o e) loop')
def BW(G:X.calm=true)(p:PI X tg iter wi)(L:pK X scope N ix)(d:g6 ix g)
  (k:∀C a H ex j,PG (fX X N scope C a H ex j) tg g/\sg (fX X N scope C a H ex j) ifs tt/\PE (fX X N scope C a H ex j) elt te)
  (t:∀x,foldedSetIterable iter X.env x=pure x:=by intro _;rfl):PE X (.ListComp elt [⟨tg,iter,ifs,0⟩] scope pos) (uI ix wi g tt te):=by
 intro z s w H Q I h;rw[eval_ListComp];refine wpAny_comprehension_free rfl t (iY L.fre) L.kind L.names (ed (p z s w H _ I h) λv s1 u=>ed u λF Z E=>?_);obtain⟨it,S,tn,J,R,e,K,T,i,B,W,⟨Y,P⟩,c⟩:=E;subst e;refine qV G L d k K T i B P c λD C m n s' l f y q=>?_;refine⟨m,l,λU A=>⟨.ref D,n,y.turned (λb o r e=>A.extBut b o r e) f.1 f.2.1 f.2.2.2.1 f.2.2.2.2.1 f.2.2.2.2.2,rfl,q⟩⟩
end
end L2
namespace L2
open PySem PySem.Spec PyProof.Rows
structure dq(K:W.Frag)(mg:Str->Option Value)(x:Str)(st:Stmt):Prop where
 ex:∃f fd,wx K x x st f fd/\mg x=some (.ref f)
def AG{K:W.Frag}{st:Stmt}{kV d e b g:Vq}(X:K.In h)(G:h.Ns mainGlobals mg)
  (a:W.nsIn K mainGlobals x=some (some (.ref f)))
  (l:K.lookup f=some ⟨oc,od,.func (W.fnOf x x (dM st) (cZ st) (cG st) .none kV d e an b g),osl⟩)
  (c:W.codeIn K b x=true) (k:W.keepIn K (.ref f)=true):dq K mg x st:=⟨f,_,pM l c k,W.mg_of X G a⟩
structure eV(P:Program)(w:World)(K:W.Frag)(mg:Str->Option Value)(base:Heap)(x:Str)(k:Nat)(sp:Sp):Prop where
 ex:∃f fd ps,fw P w K mg base jR k f fd ps sp/\mg x=some (.ref f)/\W.keepIn K (.ref f)=true/\fV K fd ps []
def eV.mono{K:W.Frag}(h:eV P w K mg base x j sp)(d:j<=k):eV P w K mg base x k sp:=
 let ⟨f,fd,ps,F,a,b,c⟩:=h.ex
 ⟨f,fd,ps,F.mono d,a,b,c⟩
def ni{K:W.Frag}{st:Stmt}(D:dq K mg x st)(S:dw N ps (cG st))
  (i:∀(kV d l:Vq) (j:Oq Addr) (a n:Vq) (us:List Vq),us.length=ps.length->bindArgs (W.fnOf x x (dM st) (cZ st) (cG st) .none kV d l j a n) ⟨us,[]⟩=pure (ps.zip us))
  (e:∀vs H Q E,sp vs H Q E->vs.length=ps.length)
  (b:∀f a A c s H vs Q E,dy k (A.deeper (envOfC x (cG st) s.heap.objs.size f a))->sp vs H Q E->
   ∃t,jY (dH jR P w K mg base N x (cG st) f a A c s H E).nox (cZ st) t/\t {nx:=λ_ h=>Q .non h,rt:=Q} (ee N vs) H):eV P w K mg base x (k+1) sp:=by
 obtain⟨f,g,F,m⟩:=D.ex;exact⟨f,g,ps,F.ok S e (b f),m,F.kp,F.binds i⟩
section
variable {X:Cx}{x:Str}{k:Nat}{sp:Sp}{e:Expr}{es:List Expr}{t:TA}{p pos:Pos}
def nY(h:eV X.prog X.w X.K X.mg X.base x k sp)(hr:dy k X.A)(j:PA X (e::es) t)(l:Gl X x:=by rfl)
  (g:(x==("__debug__" : Str))=false:=by decide) (i:starEach (e::es) X.env=(false,eval e X.env)::starEach es X.env:=by rfl) (d:(backTo pos (starEach es X.env)).any (·.1)=false:=by rfl) :
  PE X (.Call (.Name x p) (e::es) [] pos) (jq sp [] E0 t):=by
 obtain⟨f,m,n,F,a,b,c⟩:=h.ex;exact qP F hr l a b c .nil yH j g i d
end
def xf:jd X (binaryOp .Mult) (rI (λi j=>PySem.IntMulOk i j) λi j=>.int (i*j)):=Cp λ_ _ _ _ _ _ _ a q=>mul_int q a
def uT:jd X (binaryOp .FloorDiv) (rI (λi j=>j≠0/\Builtin.divisionGoesByPylong i j=false) λi j=>.int (i.fdiv j)):=Cp λ_ _ _ _ _ _ _ a q=>floordiv_int a.1 q (.inl a.2)
end L2
namespace L2
open PySem PySem.Spec PyProof.Rows
def kU(h:Heap)(e:Addr)(d:Oq Addr):Prop:=∃a,h.get? e=some a/\a.dict=d
def la(o:Obj) f:(o.mapFields f).dict=o.dict:=by obtain⟨c,d,a,b⟩:=o;cases a<;>rfl
section
variable {M:Model}{A:Around}{E:Vq->Shared->Prop}{s:Sq}{base:Heap}{env:Env}{outer:List Env}{L e:Addr}{oe:Obj}{vs:Array Vq}{qM a0:Vq}{Q:Unit->Shared->Prop}
def rM{hadNext:Bool}(H:A.frames=some (env::outer))(y:s.heap.FunFrames base (env::outer))(S:env.frame=some L)
  (N:s.heap.get? e=some oe) (D:base.StaysIn s.heap) (I:base.get? e=none) (C:oe.data=.fields vs) (v:1<vs.size) (P:vs[0]? = some a0)
  (h:∀h',Heap.NotedW base (env::outer) e oe.cls a0 (rawInt L) s.heap h'->kU h' e oe.dict->Q () {s with heap:=h'}) :
  wpAny M A (do let a <-frameOf env;let z <-entryPlaceOf L hadNext;let b <-EntryCells.newEntry qM a .none (rawInt L) .none z;setField (.ref e) 1 b) Q E s:=by
 have m:∀b o,s.heap.get? b=some o->(∀vs,o.data≠.fields vs)->b≠e:=λb o r f q=>by subst q;rw[N]at r;cases r;exact f vs C
 have x:e∉(env::outer).filterMap (·.frame):=λB=>by obtain⟨_,o,R,f⟩:=y.mem B;exact m e o R f rfl
 refine ao (wpAny_frameOf_fun H y S λc d=>ao (wpAny_entryPlaceOf λz w=>?_));unfold EntryCells.newEntry newFields;refine ao (wpAny_newObj_type ?_ (w.sizeOk5 _ _ _ _ _));have p:c.get? e=some oe:=(d.2.1 e x).trans N;have n:base.StaysIn c:=λb o g=>(d.2.1 b λB=>by rw[(y.mem B).1]at g;cases g).trans (D b o g);have u:c.objs.size≠e:=bp (aK p);generalize J:({cls:=.type "traceback",dict:=none,data:=.fields ([qM,.ref L,.none,rawInt L,.none]++(if z.isEmpty then List.replicate 6 Value.none else z)).toArray}:Obj)=X;have l:=ae X p;have j:=Obj.data_mapFields C (·.setIfInBounds 1 (Value.ref c.objs.size));have k:=Heap.get?_update_self (Obj.mapFields (·.setIfInBounds 1 (Value.ref c.objs.size))) l (Obj.isFreed_of_fields j);have t:=(Heap.get?_update_other (c.push X) (Obj.mapFields (·.setIfInBounds 1 (Value.ref c.objs.size))) (Ne.symm u)).trans (ar c (by rw[<-J];rfl));have i:∀b o,b≠e->c.get? b=some o->((c.push X).update e (Obj.mapFields (·.setIfInBounds 1 (Value.ref c.objs.size)))).get? b=some o:=λb o F r=>(Heap.get?_update_other _ _ (Ne.symm F)).trans (ae _ r)
 refine wpAny_setField l C v (h _ ⟨λb o g=>i b o (λq=>by rw[q,I]at g;cases g) (n b o g),y.of_keeps λb o r f=>?_,?_,λb o r f=>?_⟩ ⟨_,k,la _ _⟩)
 .obtain⟨K,G⟩:=d.2.2 b o r;exact⟨_,i b _ (m b o r f) G,rfl⟩
 .exact⟨_,_,c.objs.size,_,_,k,⟨Obj.cls_mapFields _ _,by rw[Array.getElem?_setIfInBounds_ne (by decide)];exact P⟩,j,by simp[v],n.fresh,u,t,by rw[<-J],by first|(simp;done)|(rcases w with rfl|⟨_,_,_,_,_,_,_,rfl⟩<;>simp)⟩
 .obtain⟨K,G⟩:=d.2.2 b o r;exact⟨K,i b _ (m b o r f) G⟩
def xj(a:A.frames=some (env::outer))(k:s.heap.FunFrames base (env::outer))(d:env.frame=some L)
  (f:s.heap.get? e=some oe) (b:base.StaysIn s.heap) (c:base.get? e=none) (g:oe.data=.fields vs) (i:vs[1]? = some .none) (j:vs[0]? = some a0)
  (h:∀h',Heap.NotedW base (env::outer) e oe.cls a0 (rawInt L) s.heap h'->kU h' e oe.dict->Q () {s with heap:=h'}):wpAny M A (noteFrame (.ref e) env) Q E s:=by
 unfold noteFrame;simp only[d];refine ao (wpAny_field f g i ?_);rw[aQ (by decide)];exact rM a k d f b c g (Array.getElem?_eq_some_iff.mp i).1 j h
def vH{l:Vq}{d:Oq Addr}(u:A.frames=some (env::outer))(C:env.frame=some L)(p:Heap.FlyingW base (env::outer) e l a0 s.heap)(x:kU s.heap e d)
  (h:∀h',Heap.HeldW base (env::outer) e l a0 L h'->s.heap.UpToSlots h'->kU h' e d->Q () {s with heap:=h'}):wpAny M A (noteFrame (.ref e) env) Q E s:=by
 obtain⟨n,k,G,oe,vs,T,I,H,w,⟨rfl,F⟩,y,B,v,t,m,j,z⟩:=p;obtain⟨D,r,rfl⟩:=x;obtain rfl:oe=D:=Option.some.inj (w.symm.trans r);unfold noteFrame;simp only[C];refine ao (wpAny_field w y B ?_);rw[aP (show (Value.ref T != Value.none)=true from by simp)];refine ao (wpAny_field m j z ?_);rw[aQ (show ¬((Value.none==rawInt L)=true) from by simp[rawInt])];refine ao (wpAny_setField m j (Array.getElem?_eq_some_iff.mp z).1 ?_);have a:∀b,b≠T->(s.heap.update T (Obj.mapFields (·.setIfInBounds 3 Value.none))).get? b=s.heap.get? b:=λb f=>Heap.get?_update_other _ _ (Ne.symm f);have g:∀b o,s.heap.get? b=some o->(∀vs,o.data≠.fields vs)->b≠T:=λb o f c q=>by subst q;rw[m]at f;cases f;exact c H j
 exact rM u (G.of_keeps λb o f c=>⟨o,(a b (g b o f c)).trans f,rfl⟩) C ((a e (Ne.symm t)).trans w)
  (λb o i=>(a b λq=>by rw[q,v]at i;cases i).trans (n b o i)) k y (Array.getElem?_eq_some_iff.mp B).1 F
  λh' ⟨x1,x2,x3,x4⟩ x=>h h' ⟨x1,k,x2,x3⟩ (λb o f c=>x4 b o ((a b (g b o f c)).trans f) c) x
def jk{l:List Env}{t K:Vq}{d:Oq Addr}(w:base.StaysIn s.heap)(y:base.get? e=none)(H:s.heap.FunFrames base l)(I:s.heap.TracedAtW base e t a0 K)(J:kU s.heap e d)
  (h:∀h',Heap.FlyingW base l e t a0 h'->s.heap.UpToSlots h'->kU h' e d->Q () {s with heap:=h'}):wpAny M A (setFlight (.ref e) none) Q E s:=by
 obtain⟨oe,vs,T,N,D,z,u,B,C,r,p,v,i,G⟩:=I;obtain⟨F,x,rfl⟩:=J;obtain rfl:oe=F:=Option.some.inj (z.symm.trans x);have j:3<D.size:=(Array.getElem?_eq_some_iff.mp G).1;have a:∀b,b≠T->(s.heap.update T (Obj.mapFields (·.setIfInBounds 3 ((none:Oq Addr).elim Value.none λf=>rawInt f)))).get? b=s.heap.get? b:=λb g=>Heap.get?_update_other _ _ (Ne.symm g)
 have k:∀b o,s.heap.get? b=some o->(∀vs,o.data≠.fields vs)->b≠T:=λb o g c q=>by subst q;rw[v]at g;cases g;exact c D i
 have n:=(a e (Ne.symm p)).trans z;unfold setFlight;refine ao (wpAny_field z B C ?_);rw[aP (show (Value.ref T != Value.none)=true from by simp)];exact wpAny_setField v i j (h _ ⟨λb o m=>(a b λq=>by rw[q,r]at m;cases m).trans (w b o m),y,H.of_keeps λb o g c=>⟨o,(a b (k b o g c)).trans g,rfl⟩,
  oe,vs,T,_,_,n,u,B,C,r,p,Heap.get?_update_self _ v (Obj.isFreed_of_fields (Obj.data_mapFields i _)),Obj.data_mapFields i _,by simp[j]⟩ (λb o g c=>⟨o.slots,(a b (k b o g c)).trans g⟩) ⟨oe,n,rfl⟩)
def ur{a:Vq}{d:Oq Addr}(b:A.frames=some (env::outer))(f:env.frame=some L)(c:Heap.FlyingW base (env::outer) e a a0 s.heap)(h:kU s.heap e d)
  (g:∀h',Heap.FlyingW base outer e a a0 h'->s.heap.UpToSlots h'->kU h' e d->Q () {s with heap:=h'}):wpAny M A (leaving env (.ref e)) Q E s:=by
 unfold leaving;refine ao (vH b f c h λh1 ⟨k1,k2,k3,k4⟩ u1 d1=>jk (s:={s with heap:=h1}) k1 k2 k3 k4 d1 λh2 ⟨f1,f2,⟨_,_,f3⟩,f4⟩ u2 d2=>g h2 ⟨f1,f2,f3,f4⟩ (u1.trans u2) d2)
def sS{t:Addr}{d:Oq Addr}{cls:Vq}(b:A.frames=some (env::outer))(f:env.frame=some L)(c:base.StaysIn s.heap)(h:s.heap.FunFrames base (env::outer))(a:base.get? e=none)
  (g:s.heap.get? e=some {cls:=cls,dict:=d,data:=.fields #[.ref t,.none,.none,.none,.bool false,.none]})
  (i:∀h',Heap.FlyingW base outer e cls (.ref t) h'->s.heap.UpToSlots h'->kU h' e d->Q () {s with heap:=h'}):wpAny M A (leaving env (.ref e)) Q E s:=by
 unfold leaving;exact ao (xj (a0:=.ref t) b h f g c a rfl rfl rfl λh1 ⟨k1,k2,k3,k4⟩ d1=>jk (s:={s with heap:=h1}) k1 a k2 k3 d1 λh2 ⟨f1,f2,⟨_,_,f3⟩,f4⟩ u2 d2=>i h2 ⟨f1,f2,f3,f4⟩ (Heap.UpToSlots.trans k4 u2) d2)
end
end L2
namespace L2
open PySem PySem.Spec PyProof.Rows
def eY.at_(x:eY P w H h a o):∃b,h.get? a=some b:=by
 cases o with
 |lst xs=>obtain⟨_,_,_,_,e⟩:=x;exact⟨_,e⟩
 |tup xs=>obtain⟨_,_,_,b,e,_⟩:=x;exact⟨b,e⟩
 |dK kvs=>obtain⟨_,_,_,_,b,_,_,e,_⟩:=x;exact⟨b,e⟩
 |dT kvs=>obtain⟨_,_,_,_,b,_,_,e,_⟩:=x;exact⟨b,e⟩
 |set S n=>obtain⟨b,_,_,_,e,_⟩:=x;exact⟨b,e⟩
 |ins C dx fs=>obtain⟨_,_,_,e,_⟩:=x;exact⟨_,e⟩
 |own y=>exact x
 |xd fs=>obtain⟨_,⟨b,_,_,e,_⟩,_⟩:=x;exact⟨b,e⟩
 |rng lo hi=>obtain⟨_,_,_,e⟩:=x;exact⟨_,e⟩
 |frz b u=>obtain⟨e,_⟩:=x;exact⟨b,e⟩
 |tbl ps=>exact⟨_,(x)⟩
 |met f y=>exact⟨_,(x)⟩
 |ext φ=>obtain⟨_,e,_⟩:=x;exact e
structure vm(P:Program)(w:World)(outer:List Env)(H:Hp)(s:Sq)(ea t:Addr)(C:Vq)(vs:List Vq)(d:Oq Addr)(B:Heap)(H':Hp)(s':Sq):Prop where
 os:s'.os=s.os
 bare:AllBare s'.gens
 un:Un (hV outer) [] H H' s.heap s'.heap
 hok:iW P w H' s'.heap
 fly:Heap.FlyingW B outer ea C (.ref t) s'.heap
 tup:s'.heap.TupAt t vs
 tn:B.get? t=none
 he:H' ea=none
 ht:H' t=none
 old:∀b o,s.heap.get? b=some o->H b=none->b∉hV outer->B.get? b=some o
 trk:∀b o,s'.heap.get? b=some o->H' b≠none->B.get? b=some o
 ex:∀b o,s.heap.get? b=some o->b∉hV outer->∃o',B.get? b=some o'
 dk:kU s'.heap ea d
def iq(P:Program)(w:World):wy:=λa H s E e g=>∃(b t:Addr) (C:Vq) (f:List Vq) (d:Oq Addr) (B:Heap) (c:Hp),e=.ref b/\vm P w a H s b t C f d B c g/\E C d c
section
variable {P:Program}{w:World}{K:W.Frag}{mg:Str->Option Value}{base:Heap}{N:List Str}{qual:Str}{scope:Scope}{f:Addr}{cd:Vq}{A:Around}{outer:List Env}{s₀:Sq}{H₀:Hp}{E:XK}
variable {cD:List (Addr×Obj)}{σ:St}{H:Hp}{s:Sq}
theorem mz{l:Sq}(I:cS (dH (iq P w) P w K mg base N qual scope f cd A outer s₀ H₀ E) cD σ H s)
  (hos:l.os=s.os) (hb:AllBare l.gens) (u:Un (hV (envOfC qual scope s₀.heap.objs.size f cd::outer)) [] H H' s.heap l.heap) (D:iW P w H' l.heap)
  (Z:∀b o,s.heap.get? b=some o->H b=none->b∉hV (envOfC qual scope s₀.heap.objs.size f cd::outer)->B.get? b=some o) (trk:∀b o,l.heap.get? b=some o->H' b≠none->B.get? b=some o)
  (ex:∀b o,s.heap.get? b=some o->b∉hV (envOfC qual scope s₀.heap.objs.size f cd::outer)->∃j,B.get? b=some j)
  (he:H' ea=none) (ht:H' t=none) (tn:B.get? t=none) (r:Heap.FlyingW B outer ea C (.ref t) h2) (tup:h2.TupAt t vs) (G:l.heap.UpToSlots h2) (dk:kU h2 ea d) :
  vm P w outer H₀ s₀ ea t C vs d B H' {l with heap:=h2}:=by
 have g:∀b:Addr,b∉(dH (iq P w) P w K mg base N qual scope f cd A outer s₀ H₀ E).ex:=λb z=>absurd (show b∈([]) from z) (by simp);have U:∀b,b∈hV (envOfC qual scope s₀.heap.objs.size f cd::outer)->b=s₀.heap.objs.size\/b∈hV outer:=λb a=>by
  rcases aE.mp (I.stkSub b a) with z|z
  .exact .inl z
  .exact .inr z
 have h:∀b o,s₀.heap.get? b=some o->b∉hV outer->b∉hV (envOfC qual scope s₀.heap.objs.size f cd::outer):=λb o e S z=>by
  rcases U b z with q|q
  .exact absurd (aK e) (by rw[q];exact aZ _)
  .exact S q
 have kept:∀b o,s₀.heap.get? b=some o->H₀ b=none->b∉hV outer->B.get? b=some o:=λb o e n a=>Z b o (I.base.keep b o e n a (g b)) (I.base.free b o e n (g b)) (h b o e a)
 have k:∀b,H' b≠none->∃o,l.heap.get? b=some o/\h2.get? b=some o:=λb a=>by
  cases q:H' b with
  |none=>exact absurd q a
  |some X=>obtain⟨o,e⟩:=(D b X q).at_;exact⟨o,e,r.1 b o (trk b o e a)⟩
 refine⟨hos.trans I.os,hb,⟨λb o e n a _=>r.1 b o (kept b o e n a),λb o e n a _=>?_,λb o e n _=>?_,λb o e _=>?_,λb x e=>u.tups b x (I.base.tups b x e),λb o x e=>u.frzs b o x (I.base.frzs b o x e),λb ps e=>?_⟩,λb X e=>?_,r,tup,tn,he,ht,kept,λb o e a=>?_,λb o e a=>?_,dk⟩
 .obtain⟨sl,i⟩:=I.base.slot b o e n a (g b);obtain⟨R,L⟩:=u.any i (I.base.free b o e n (g b)) (by simp);obtain⟨_,j,J,m⟩:=I.ok.funs.mem a;have p:(dH (iq P w) P w K mg base N qual scope f cd A outer s₀ H₀ E).s₀.heap.get? b=some o:=e;rw[p]at J;cases J;obtain⟨F,e3⟩:=G b _ L m;exact⟨F,e3⟩
 .obtain⟨j,i⟩:=I.base.there b o e (g b);exact u.free b j i (I.base.free b o e n (g b)) (by simp)
 .obtain⟨j,i⟩:=I.base.there b o e (g b);obtain⟨o2,L⟩:=u.there b j i (by simp);by_cases S:H' b=none
  .by_cases y:b∈hV outer
   .obtain⟨_,⟨o3,h3,m⟩⟩:=I.ok.funs.mem y;have p:(dH (iq P w) P w K mg base N qual scope f cd A outer s₀ H₀ E).s₀.heap.get? b=some o:=e;rw[p]at h3;cases h3;have Q:=I.ok.frf b y;obtain⟨sl,q1⟩:=I.base.slot b o e Q y (g b);obtain⟨R,Y⟩:=u.any q1 (I.base.free b o e Q (g b)) (by simp);obtain⟨F,q3⟩:=G b _ Y m;exact⟨_,q3⟩
   .by_cases Q:H₀ b=none
    .exact⟨o,r.1 b o (kept b o e Q y)⟩
    .obtain⟨o4,q4⟩:=ex b j i (h b o e y);exact⟨o4,r.1 b o4 q4⟩
  .obtain⟨o3,_,q⟩:=k b S;exact⟨o3,q⟩
 .obtain⟨m1,i⟩:=I.base.tbls b ps e;obtain⟨m2,L⟩:=u.tbls b _ i;exact⟨m1++m2,by rw[L,bc]⟩
 .have a:H' b≠none:=by rw[e];exact λz=>nomatch z
  refine (D b X e).stay (λc v hc q=>?_) (λ_ q=>q) λ_ _ q=>q;have hcn:H' c≠none:=by
   rcases hc with z|z
   .rw[z];exact a
   .rw[z];exact λz=>nomatch z
  exact r.1 c v (trk c v q hcn)
 .obtain⟨o3,q1,Y⟩:=k b a;have p:=e;rw[Y]at p;cases p;exact trk b _ q1 a
 .obtain⟨j,i⟩:=I.base.there b o e (g b);exact ex b j i (h b o e a)
def qd{c:Sq}{g:Hp}{t:Addr}{d:Oq Addr}{args:List Vq}(I:cS (dH (iq P w) P w K mg base N qual scope f cd A outer s₀ H₀ E) cD σ H s)(x:c.os=s.os)(a:AllBare c.gens)
  (y:c.heap.FunFrames base (envOfC qual scope s₀.heap.objs.size f cd::outer)) (B:s.heap.get? ea=none) (D:s.heap.get? t=none) (v:c.heap.get? ea=some {cls:=C,dict:=d,data:=.fields #[.ref t,.none,.none,.none,.bool false,.none]})
  (F:c.heap.TupAt t args) (u:Un (hV (envOfC qual scope s₀.heap.objs.size f cd::outer)) [] H g s.heap c.heap) (r:iW P w g c.heap) (j:g ea=none) (i:g t=none)
  (m:∀b,b∈hV (envOfC qual scope s₀.heap.objs.size f cd::outer)->g b=none) (q:E C d g):(dH (iq P w) P w K mg base N qual scope f cd A outer s₀ H₀ E).xe (.ref ea) c:=by
 have p:∀h∈(envOfC qual scope s₀.heap.objs.size f cd::outer),∀b,h.frame=some b->b∈ea::t::hV (envOfC qual scope s₀.heap.objs.size f cd::outer):=λh v b a=>bj _ (bj _ (bq.mpr ⟨h,v,a⟩));have k:∀b o,s.heap.get? b=some o->b∉hV (envOfC qual scope s₀.heap.objs.size f cd::outer)->b∉ea::t::hV (envOfC qual scope s₀.heap.objs.size f cd::outer):=λb o e n z=>by
  rcases aE.mp z with z|z
  .rw[z,B]at e;cases e
  .rcases aE.mp z with z|z
   .rw[z,D]at e;cases e
   .exact n z
 refine sS (s:=c) (base:=W.hideAll c.heap (ea::t::hV (envOfC qual scope s₀.heap.objs.size f cd::outer))) I.ok.frames rfl (λb o z=>W.of_hideAll _ z) (W.funFrames_hide y p) (W.hideAll_none _ (bh ..)) v λL J l G=>?_;refine⟨ea,t,C,args,d,_,g,rfl,mz I x a u r (λb o e n a=>W.hideAll_get _ (u.keep b o e n a (by simp)) (k b o e a)) (λb o e a=>W.hideAll_get _ e λz=>?_) (λb o e a=>let ⟨o',e'⟩:=u.there b o e (by simp);⟨o',W.hideAll_get _ e' (k b o e a)⟩) j i (W.hideAll_none _ (bj _ (bh ..))) J (F.of_slots l) l G,q⟩;rcases aE.mp z with z|z
 .rw[z]at a;exact a j
 .rcases aE.mp z with z|z
  .rw[z]at a;exact a i
  .exact a (m b z)
def vW(i:∀C d a,E1 C d a->E C d a):eA (iq P w) (dH (iq P w) P w K mg base N qual scope f cd A outer s₀ H₀ E) E1:=by intro cD σ H s e m I h;obtain⟨c,t,C,g,d,B,a,rfl,F,q⟩:=h;refine ur I.ok.frames rfl F.fly F.dk λl k b j=>?_;exact⟨c,t,C,g,d,B,a,rfl,mz I F.os F.bare F.un F.hok F.old F.trk F.ex F.he F.ht F.tn k (F.tup.of_slots b) b j,i C d a q⟩
end
end L2
namespace L2
open PySem PySem.Spec PyProof.Rows PySem.W PySem.Calls Builtin Builtin.ObjectAttr Builtin.Getset_descriptor
structure jQ(K:Frag)(D:Addr):Prop where
 ga:findIn K (.ref D) "__getattribute__" = some (some (.builtin "BaseException.__getattribute__"))
 gt:findIn K (.ref D) "__getattr__" = some none
 cl:findIn K (.ref D) "__class__" = some (some (.builtin "object.__class__"))
 gg:specialIn K (.builtin "object.__class__") "__get__" = some (some (.builtin "getset_descriptor.__get__"))
 tk:takesIn K (.builtin "object.__class__")=some true
 ob:mroIn K D (.type "object")=some true
 be:mroIn K D (.type "BaseException")=some true
 is:(clsIn K D).isSome=true
def lX(x D:Addr)(h:Heap):Prop:=∃a,h.get? x=some a/\a.cls=.ref D
def lX.type{M:Model}{x D:Addr}{h:Heap}(e:lX x D h):Looks M h (typeOf (.ref x)) (.ref D):=by obtain⟨c,a,b⟩:=e;exact b▸(Looks.ld a).andThen .now
section
variable {prog:Program}{w:World}{A:Around}{E:Vq->Shared->Prop}{s:Sq}{K:Frag}{x D:Addr}
def l4{R:Result->Shared->Prop}{b:Vq}(X:K.In s.heap)(I:lX x D s.heap)(a:mroIn K D (.type "object")=some true)
  (h:R (.ok (.ret (.ref D))) s):codeAny (model prog w) A (.call (.builtin "getset_descriptor.__get__") ⟨[.builtin "object.__class__",.ref x,b],[]⟩) R s:=by
 obtain⟨f,g,dr,t,d⟩:=s;have e:=I.type (M:=model prog w);have c:=looks_mroIn (M:=model prog w) X a;refine codeAny_call_builtin KF.slot_gs.plain KF.entry_gs (KF.slot_gs.check _ _ _ _ _ _ _ _ KF.type_class (KF.args_gs _ _ _) ?_);unfold Builtin.«getset_descriptor.__get__» descrGet;rw[dga_obj];refine ao (ak ?_);unfold descrGetter descrCheckInstance descrNameAndClass isInstance;simp only[KF.owner_class];(repeat lk);refine⟨Code.quiet_builtin _ (by decide +kernel),codeAny_builtin KF.entry_class ?_⟩;unfold Builtin.«object.__class__» shownTypeOf;(repeat lk);exact h
def sZ(X:K.In s.heap)(I:lX x D s.heap)(C:jQ K D)(h:Q (.done (.ret (.ref D))) s) :
  wpAny (model prog w) A (Builtin.«object.__getattribute__» ⟨[.ref x,.str "__class__" tk],[]⟩) Q E s:=by
 obtain⟨d,g,dr,t,b⟩:=s;have c:=I.type (M:=model prog w);have a:=looks_findIn (M:=model prog w) X C.cl;unfold Builtin.«object.__getattribute__» find;(repeat lk);refine (wpAny_run (l4 X I C.ob ?_));(repeat lk);exact h
def mR(X:K.In s.heap)(I:lX x D s.heap)(C:jQ K D)(d:Q () s) :
  wpAny (model prog w) A (checkBuiltinCall "BaseException.__getattribute__" ⟨[.ref x,nameV],[]⟩) Q E s:=by
 have b:builtinKind "BaseException.__getattribute__" = some .slot:=by decide +kernel
 have hsplit:splitId "BaseException.__getattribute__" = some ("BaseException", "__getattribute__"):=by decide +kernel
 have c:=I.type (M:=model prog w);have a:=looks_mroIn (M:=model prog w) X C.be;obtain⟨f,g,dr,t,e⟩:=s;simp only[checkBuiltinCall,b,hsplit];refine ao ?_;unfold isInstance;refine ao (c.at (a.at ?_));rw[aQ (by decide)];(repeat (first|assumption|wp_step))
def k6(X:K.In s.heap)(I:lX x D s.heap)(C:jQ K D)(h:Q (some (.ref D)) {s with toks:=s.toks+1}) :
  wpAny (model prog w) A (getAttr? (.ref x) "__class__") Q E s:=by
 obtain⟨m,g,d,t,l⟩:=s;have j:=I.type (M:=model prog w);have f:=looks_findIn (M:=model prog w) X C.ga;have L2:=looks_findIn (M:=model prog w) X C.gt;have c:(Value.builtin "BaseException.__getattribute__" == Value.builtin "object.__getattribute__")=false:=by decide +kernel
 unfold getAttr? getAttrBy? getAttrBy;refine ao (wpAny_mkText (ao (wpAny_attempt (wpAny_holding (ao (j.at (ao (f.at ?_))))))));dsimp only;rw[c];simp only[Bool.and_false,bQ,if_false];unfold getAttrByItsOwn hookBefore;rw[aP (show onTheHeap (Value.ref D)=true from rfl)];refine ao (L2.at (ao (wpAny_attempt (wpAny_holding ?_))));unfold callGetattribute boundAndCalled;rw[aQ (by decide)];have k:bindSpecial (.builtin "BaseException.__getattribute__") (.ref x)=pure (.builtin "BaseException.__getattribute__",[.ref x]):=by
  have b:withoutEnding? "BaseException.__getattribute__" "#opaque" = none:=by decide +kernel
  have a:withoutEnding? "BaseException.__getattribute__" "#data" = none:=by decide +kernel
  have i:builtinKind "BaseException.__getattribute__" = some .slot:=by decide +kernel
  simp only[bindSpecial,typeOf,builtinType,b,a,i];rfl
 rw[k];refine ao (ak ?_);have e:=X;refine wpAny_call (codeAny_call_builtin (by decide +kernel) F.entry_bexc_ga (mR e I C (sZ e I C ?_)));dsimp only;rw[handedOut_of (rfl)];exact ak (ak h)
def lq(C:jQ K D):KitX K (.ref x) (.ref D) (lX x D) where
 ty:=λ_ _ _ I=>I.type
 it:=λ_ _ X _=>by
  obtain⟨b,a⟩:=bC.mp C.is;unfold clsIn at a;split at a
  .rename_i i j d f g;intro r o p v k q;unfold isType loadHead;exact ao (wpAny_loadPart (k _ _ (X _ _ g)) (ak q))
  .cases a
 ne:=λh m u l n t X c=>by
  obtain⟨b,a⟩:=bC.mp C.is;refine Bool.eq_false_iff.mpr λq=>?_;have e:=Value.ref.inj (beq_iff_eq.mp q);subst e;unfold clsIn at a;split at a
  .rename_i i j d f g;have z:=(X _ _ g).symm.trans c;cases z
  .cases a
 ca:=λX I k=>k6 X I C k
end
end L2
namespace L2
open PySem PySem.Spec PyProof.Rows PySem.W PySem.Calls Builtin Builtin.ObjectAttr Builtin.Getset_descriptor
structure ya(K:Frag)(D:Addr):Prop where
 is:(clsIn K D).isSome=true
 ty:typeIn K (.ref D)=some (.type "type")
 be:mroIn K D (.type "BaseException")=some true
def lr:isSubtype (.type "type") (.type "tuple")=pure false:=by rw[isSubtype_type];kernel_rfl
section
variable {prog:Program}{w:World}{A:Around}{E:Vq->Shared->Prop}{s:Sq}{K:Frag}{x C D:Addr}
def px(X:K.In s.heap)(I:lX x C s.heap)(T:ya K D)(f:mroIn K C (.ref D)=some true)(h:Q true s) :
  wpAny (model prog w) A (excMatches (.ref x) (.ref D)) Q E s:=by
 obtain⟨b,g,dr,t,z⟩:=s;have j:=I.type (M:=model prog w);have c:=looks_mroIn (M:=model prog w) X f;have L2:=looks_mroIn (M:=model prog w) X T.be;have L3:=looks_typeIn (M:=model prog w) X T.ty;have l:Looks (model prog w) b (isType (.ref D)) true:=by
  obtain⟨d,a⟩:=bC.mp T.is;unfold clsIn at a;split at a
  .rename_i u v i n o;intro y p r B k q;unfold isType loadHead;exact ao (wpAny_loadPart (k _ _ (X _ _ o)) (ak q))
  .cases a
 unfold excMatches;have e:Looks (model prog w) b (isInstance (.ref D) (.type "tuple")) false:=L3.andThen (Looks.of_pure lr);refine ao (e.at ?_);simp only[bQ,if_false];refine ao (ak ?_);have m:Looks (model prog w) b (isExcClass (.ref D)) true:=l.andThen L2;simp only[bP,bU];refine ao (ao (ao (m.at ?_)));simp only[Bool.not_true,bQ,if_false];refine ak (ak (ao (j.at (ao (ao (ao (c.at ?_)))))));simp only[if_true];exact ak (ak (ak h))
end
noncomputable abbrev Cx.tryB(X:Cx)(pn:List (Addr×Obj))(xe:Vq->Shared->Prop):Cx:={X with pn:=pn,xe:=xe}
abbrev Cx.exc(X:Cx)(pn:List (Addr×Obj))(ea:Addr):Cx:={X with A:=X.A.mark (some (.ref ea)),calm:=false,pn:=pn,xe:=λ_ _=>False}
section
variable {X:Cx}{cD pins' pn pn':List (Addr×Obj)}{σ:St}{H H1 H':Hp}{s s1 s':Sq}{xe:Vq->Shared->Prop}{ea t:Addr}{C:Vq}{vs:List Vq}{dd:Oq Addr}{B h:Heap}
def Cx.Ok.tryB(ok:X.Ok):(X.tryB pn xe).Ok:=⟨ok.mod,ok.kind,ok.glob,ok.blt,ok.above,ok.inj,ok.has,ok.cab,ok.hd,ok.frames,ok.stk,ok.exf,ok.bs,ok.bsz,ok.noex,ok.exfs,ok.funs,ok.frf⟩
def Cx.Ok.exc(ok:X.Ok):(X.exc pn ea).Ok:=⟨ok.mod,ok.kind,ok.glob,ok.blt,ok.above,ok.inj,ok.has,ok.cab,λz=>absurd (z) aG,ok.frames,ok.stk,ok.exf,ok.bs,ok.bsz,ok.noex,ok.exfs,ok.funs,ok.frf⟩
def cS.tryB(I:cS X cD σ H s):cS (X.tryB (X.pn++cD) xe) [] σ H s:=⟨I.ok.tryB,I.os,I.bare,I.base,I.loc,I.cell,I.free,I.freeC,λp a=>I.pin p (by simpa using a),I.hok,I.len⟩
def cS.tryW(I:cS (X.tryB pn xe) cD σ H s):cS (X.tryB pn xe') cD σ H s:=⟨Cx.Ok.tryB (X:=X.tryB pn xe) I.ok,I.os,I.bare,I.base,I.loc,I.cell,I.free,I.freeC,I.pin,I.hok,I.len⟩
def cS.untryB(ok:X.Ok)(I:cS (X.tryB (X.pn++cD) xe) pins' σ H s):cS X cD σ H s:=⟨ok,I.os,I.bare,I.base,I.loc,I.cell,I.free,I.freeC,λp a=>I.pin p (ax _ a),I.hok,I.len⟩
def SP.untryB(ok:X.Ok)(q:SP (X.tryB (X.pn++cD) xe) pins' D f s):SP X cD D f s:=by
 cases f with
 |next=>obtain⟨a,H',I,q⟩:=q;exact⟨a,H',I.untryB ok,q⟩
 |brk=>obtain⟨a,H',I,q⟩:=q;exact⟨a,H',I.untryB ok,q⟩
 |cont=>obtain⟨a,H',I,q⟩:=q;exact⟨a,H',I.untryB ok,q⟩
 |ret u=>obtain⟨v,a,H',I,r,q⟩:=q;exact⟨v,a,H',I.untryB ok,r,q⟩
def cS.exc(I:cS X cD σ H s)(a:∀p∈pn,s.heap.get? p.1=some p.2/\H p.1=none/\p.1≠X.env.locals/\p.1∉X.fs/\∀v,p.2.data≠.cell v):cS (X.exc pn ea) [] σ H s:=⟨I.ok.exc,I.os,I.bare,I.base,I.loc,I.cell,I.free,I.freeC,λp h=>a p (by simpa using h),I.hok,I.len⟩
def cS.unexc(ok:X.Ok)(I:cS (X.exc pn ea) pins' σ H s)(a:∀p∈X.pn++cD,p∈pn):cS X cD σ H s:=⟨ok,I.os,I.bare,I.base,I.loc,I.cell,I.free,I.freeC,λp h=>I.pin p (ax _ (a p h)),I.hok,I.len⟩
def nX(I:cS X cD σ H1 s1)(F:vm X.prog X.w X.stack H1 s1 ea t C vs dd B H' s')(k:B.StaysIn h)(A:s'.heap.UpToSlots h):cS X cD σ H' {s' with heap:=h}:=by
 have i:∀b,H' b≠none->∃o,s'.heap.get? b=some o/\h.get? b=some o:=λb a=>by
  cases q:H' b with
  |none=>exact absurd q a
  |some u=>obtain⟨o,e⟩:=(F.hok b u q).at_;exact⟨o,e,k b o (F.trk b o e a)⟩
 have d:∀b o,s1.heap.get? b=some o->H1 b=none->b∈hV X.stack->∃d,h.get? b=some {o with slots:=d}:=λb o e n a=>by obtain⟨d,r⟩:=F.un.slot b o e n a (by simp);obtain⟨_,g,j,m⟩:=I.stack.mem a;rw[e]at j;cases j;obtain⟨l,y⟩:=A b {o with slots:=d} r m;exact⟨l,y⟩
 refine I.call' (ch:=[]) F.os ⟨λb o e n a _=>k b o (F.old b o e n a),λb o e n a _=>d b o e n a,λb o e n _=>F.un.free b o e n (by simp),λb o e _=>?_,F.un.tups,F.un.frzs,F.un.tbls⟩ (λb u e=>?_) F.bare (λb a=>nomatch a)
 .by_cases x:H' b=none
  .by_cases a:b∈hV X.stack
   .obtain⟨D,f⟩:=d b o e (I.stkFree b a) a;exact⟨_,f⟩
   .obtain⟨g,f⟩:=F.ex b o e a;exact⟨g,k b g f⟩
  .obtain⟨g,_,f⟩:=i b x;exact⟨g,f⟩
 .have a:H' b≠none:=by rw[e];exact λz=>nomatch z
  refine (F.hok b u e).stay (λc v E q=>?_) (λ_ q=>q) λ_ _ q=>q;have p:H' c≠none:=by
   rcases E with z|z
   .rw[z];exact a
   .rw[z];exact λz=>nomatch z
  exact k c v (F.trk c v q p)
def iT{M:Model}{A:Around}{E:Vq->Shared->Prop}{i:Nat}{n:Str}{G:Pos}{Q:Unit->Shared->Prop}(I:cS X cD σ H s)(hN:X.N.Nodup)(R:X.N[i]? = some n)(hl:X.env.kindOf n=some .local)
  (h:∀s',cS X cD (σ.set i none) H s'->Q () s'):wpAny M A (do bindName X.env n .none;unbindBehindTheSuite X.env n G) Q E s:=by
 obtain⟨m,P,L⟩:=id I.loc;have u:(X.env.scope.kind==.class||(X.env.scope.kind==.module&&X.env.locals != X.env.globals))=false:=by rw[I.ok.kind];rfl
 have r:i<σ.length:=by rw[I.len];exact (aa.mp R).1
 refine wpAny_nameGoes_keeps hl P u λZ v F f=>?_;obtain⟨oL,_,_,Y,_⟩:=id P;have tracked:iW X.prog X.w H Z:=λb U e=>by
  refine (I.hok b U e).stay (λc S D q=>(f.2 c ?_).trans q) (λ_ q=>q) λ_ _ q=>q;have a:=I.free;rintro rfl;rcases D with rfl|D
  .rw[a]at e;cases e
  .rw[a]at D;cases D
 refine h _ ⟨I.ok,I.os,I.bare,⟨λb o e n J l=>?_,λb o e n J l=>?_,I.base.free,λb o e l=>?_,I.base.tups,I.base.frzs,I.base.tbls⟩,⟨_,F,λj y v' g x e3=>?_⟩,λy c e=>?_,I.free,I.freeC,λp hp=>?_,tracked,by simpa using I.len⟩
 .exact (f.2 b (aL (aD (aK e) I.ok.above))).trans (I.base.keep b o e n J l)
 .obtain⟨sl,g⟩:=I.base.slot b o e n J l;exact⟨sl,(f.2 b (aL (aD (aK e) I.ok.above))).trans g⟩
 .obtain⟨o',g⟩:=I.base.there b o e l;exact⟨o',(f.2 b (aL (aD (aK e) I.ok.above))).trans g⟩
 .by_cases K:j=i
  .subst K;rw[List.getElem?_set_self r]at x;cases x
  .rw[aq (Ne.symm K)]at x;obtain⟨u',r',q⟩:=L j y v' g x e3;refine⟨u',r',?_⟩;rcases q with⟨k,e⟩|⟨k,c,e,z⟩
   .refine .inl ⟨k,?_⟩;have:y≠n:=λe=>K (lD hN g (e▸R));simp[this,e]
   .exact .inr ⟨k,c,e,z.sameBut f (I.cne y c e)⟩
 .obtain⟨S,z⟩:=I.cell y c e;exact⟨S,z.sameBut f (I.cne y c e)⟩
 .obtain⟨e,n,ne,nf,d⟩:=I.pin p hp;exact⟨(f.2 p.1 ne).trans e,n,ne,nf,d⟩
noncomputable def iU.gone(D:iU)(i:Nat):iU:={nx:=λσ H=>D.nx (σ.set i none) H,rt:=D.rt,bk:=λσ H=>D.bk (σ.set i none) H,ct:=λσ H=>D.ct (σ.set i none) H}
def tQ(K:Frag)(N:List Str)(b:Addr)(i:Nat)(c:XK->TS)(e:Addr->Addr->Option Addr->TS):TS:=λD σ H=>c (λf d H'=>∃a,f=.ref a/\mroIn K a (.ref b)=some true/\∀ea,H' ea=none->e ea a d (D.gone i) ((List.replicate N.length none).set i (some (.ref ea))) H') D σ H
theorem yg{th:Addr->Addr->Option Addr->TS}
  (Y:X.N.Nodup) (U:X.N[i]? = some n) (hl:X.env.kindOf n=some .local) (hg:Gl X x) (hm:X.mg x=some (.ref Dh)) (T:ya X.K Dh)
  (R:X.stack=X.env::X.outer) (hfr:X.env.frame=some X.env.locals)
  (hb:∀(EK:XK) (pn:List (Addr×Obj)) (xe:Vq->Shared->Prop),eA (iq X.prog X.w) (X.tryB pn xe) EK->jY (X.tryB pn xe) body (tb EK))
  (hs:∀(pn:List (Addr×Obj)) (ea:Addr) (oe:Obj) (A:Addr),(ea,oe)∈pn->oe.cls=.ref A->(∃ws,oe.data=.fields ws)->jY (X.exc pn ea) (b₀::suite) (th ea A oe.dict))
  (hx:rT X.env.scope n:=by exact .inl rfl) (hfn:X.fn n=true\/X.env.scope.names.lookup n=some .local:=by exact .inr rfl) (hd:(x==("__debug__" : Str))=false:=by decide) :
  PS X (.Try body [.ExceptHandler (some (.Name x np)) (some n) (b₀::suite) hpos] [] [] pos) (tQ X.K X.N Dh i tb th):=by
 intro cD s σ H D I h;let E0':XK:=λCv d H'=>∃A,Cv=.ref A/\mroIn X.K A (.ref Dh)=some true/\∀ea,H' ea=none->th ea A d (D.gone i) ((List.replicate X.N.length none).set i (some (.ref ea))) H';let XE:Vq->Shared->Prop:=λe s'=>∃pins' g H1 s1,cS (X.tryB (X.pn++cD) λ_ _=>False) pins' g H1 s1/\iq X.prog X.w X.stack H1 s1 E0' e s';have hB:=hb E0' (X.pn++cD) XE (λpins' g H1 s1 e s' I' q=>⟨pins',g,H1,s1,I'.tryW,q⟩);refine wpAny_Try_except (wpAny_mono (hB [] s σ H D I.tryB h) (λf s1 q=>?_) λe s' q=>?_)
 .have q':=SP.untryB I.ok q;cases f with
  |next=>exact wpAny_execs_nil q'
  |brk=>exact q'
  |cont=>exact q'
  |ret u=>exact q'
 .obtain⟨pins',g,H1,s1,I1,ea,t,Cv,vs,dd,B,H',rfl,F,A,rfl,hsub,hth⟩:=q;have E:=F.fly;have hst':=R;rw[R]at E;refine vH (I.ok.frames.trans (by rw[R])) hfr E F.dk λh₄ ⟨y1,y2,y3,y4⟩ hsm₄ dk4=>?_;refine jk (s:={s' with heap:=h₄}) y1 y2 y3 y4 dk4 λG c hsm₅' dk5=>?_;have I5:=nX I1 F c.1 (hsm₄.trans hsm₅');have I5e:cS (X.exc [] ea) [] g H' {s' with heap:=G}:=(I5.untryB I.ok).exc λp r=>nomatch r;obtain⟨ob,hob,hobc⟩:=c.there;refine wpAny_handleBy_cons (codeAny_handlers_test (iJ I5e hg hm ?_ hd)) (by intro q;cases q);refine px I5e.kIn ⟨ob,hob,hobc⟩ T hsub (codeAny_handlers_suite_as ?_);obtain⟨z1,z2,z3,z4⟩:=c;refine jk (s:={s' with heap:=G}) z1 z2 z3 z4.at dk5 λJ hfl₆ hsm₆ dk6=>?_;have I6:=nX I1 F hfl₆.1 ((hsm₄.trans hsm₅').trans hsm₆);obtain⟨oe,ws,l,Z,a,hoe0⟩:=hfl₆.first;obtain⟨ob6,hob6,rfl⟩:=dk6;obtain rfl:oe=ob6:=Option.some.inj (l.symm.trans hob6);have neL:ea≠X.env.locals:=λz=>by
   obtain⟨m,⟨o,es,ep,ho,hdo,_⟩,_⟩:=I6.loc;have k:J.get? ea=some o:=by rw[z];exact ho
   rw[l]at k;cases k;rw[hdo]at a;cases a
  have nfs:ea∉X.fs:=λz=>by obtain⟨_,o,ho,hnf⟩:=I6.funs.mem z;have k:=ho;rw[l]at k;cases k;exact hnf _ a
  have I7:cS (X.exc (X.pn++cD++[(ea,oe)]) ea) [] ((List.replicate X.N.length none)) H' {s' with heap:=J}:=by
   refine cS.weak (cS.exc (I6.untryB I.ok) λp r=>?_) (by rw[bF];exact I6.len.symm) (λj v e=>by rw[List.getElem?_replicate]at e;split at e<;>cases e);rcases ai.mp r with r|r
   .exact I6.pin p (ax _ r)
   .obtain rfl:p=(ea,oe):=by simpa using r
    exact⟨l,F.he,neL,nfs,λv z=>by rw[a]at z;cases z⟩
  refine kz (X:=X.exc (X.pn++cD++[(ea,oe)]) ea) (v:=.ref ea) I7 Y U hx rfl (λs7 I8=>?_) hfn;refine wpAny_mono (hs _ ea oe A (br _ (aj.mpr rfl)) Z ⟨_,a⟩ [] s7 _ H' (D.gone i) I8 (hth ea F.he)) (λf s8 q=>?_) λ_ _ z=>z.elim;have y:∀p∈X.pn++cD,p∈X.pn++cD++[(ea,oe)]:=λp r=>ax _ r;cases f with
  |next=>obtain⟨S,Q,L,P⟩:=q;exact iT (L.unexc I.ok y) Y U hl λs9 b=>⟨_,Q,b,P⟩
  |brk=>obtain⟨S,Q,L,P⟩:=q;exact iT (L.unexc I.ok y) Y U hl λs9 b=>⟨_,Q,b,P⟩
  |cont=>obtain⟨S,Q,L,P⟩:=q;exact iT (L.unexc I.ok y) Y U hl λs9 b=>⟨_,Q,b,P⟩
  |ret u=>obtain⟨v,S,Q,L,r9,P⟩:=q;exact iT (L.unexc I.ok y) Y U hl λs9 b=>⟨v,_,Q,b,r9,P⟩
end
end L2
namespace L2
open PySem PySem.Spec PyProof.Rows PySem.W PySem.Calls
inductive sq(K:Frag)(H:Hp)(Ca:Addr):V->Bool->Prop where
 |own {D:Addr} {b:Bool} (e:kitOne K (.ref Ca) (.ref D)=some b):sq K H Ca (.ref D) b
 |ty {T:String} {b:Bool} (e:kitOne K (.ref Ca) (.type T)=some b):sq K H Ca (.ty T) b
 |tup {p:Addr} {ds:List Addr} {b:Bool} (h:H p=some (.tup (ds.map V.ref))) (e:kitAny K (.ref Ca) (ds.map Value.ref)=some b):sq K H Ca (.ref p) b
theorem mJ:∀{a:List Addr} {us:List Vq},c8 (a.map V.ref) us->us=a.map Value.ref
 |[],_,.nil=>rfl
 |d::a,u::us,.cons r t=>by have e:=r;rw[e,mJ t];rfl
def lA{K:Frag}(j:(ea,oe)∈X.pn)(w:oe.cls=.ref Ca)(l:X.K=K:=by rfl) :
  e8 X (.builtin "isinstance") (λg H Q=>∃c b,g=[.ref ea,c]/\jQ K Ca/\sq K H Ca c b/\Q (.bl b) H):=by
 subst l;intro D s B H g v Q I r h;obtain⟨c,b,rfl,C,u,q⟩:=h;have d:lX ea Ca s.heap:=⟨oe,(I.pin _ (ax _ j)).1,w⟩;cases r with
 |cons r1 r2=>
  cases r2 with
  |cons r3 r4=>
   cases r4;cases (r1);cases u with
   |own e=>cases (r3);exact kia_one (lq C) I.kIn d e (λz=>nomatch z) λa=>⟨.bl b,H,I.tok a,rfl,q⟩
   |ty e=>cases (r3);exact kia_one (lq C) I.kIn d e (λz=>nomatch z) λa=>⟨.bl b,H,I.tok a,rfl,q⟩
   |@tup p ds b hp e=>cases (r3);obtain⟨A,v,x,o,i,f,n,k,_⟩:=(I.hok p _ hp);obtain⟨E,y,t,m⟩:=o;subst f;subst k;rw[mJ x]at i;exact kia_tup (lq C) I.kIn d i e (λz=>nomatch z) λa=>⟨.bl b,H,I.tok a,rfl,q⟩
structure gz(P:Program)(w:World)(K:W.Frag)(mg:Str->Option Value)(base:Heap)(x:Str)(k:Nat)(sp:Sp):Prop where
 ex:∃f fd ps,fw P w K mg base (iq P w) k f fd ps sp/\mg x=some (.ref f)/\W.keepIn K (.ref f)=true/\fV K fd ps []
def gz.mono{K:W.Frag}(h:gz P w K mg base x j sp)(d:j<=k):gz P w K mg base x k sp:=
 let ⟨f,fd,ps,F,a,b,c⟩:=h.ex
 ⟨f,fd,ps,F.mono d,a,b,c⟩
def vU{K:W.Frag}{st:Stmt}(D:dq K mg x st)(S:dw N ps (cG st))
  (n:∀(kV d i:Vq) (h:Oq Addr) (a j:Vq) (us:List Vq),us.length=ps.length->bindArgs (W.fnOf x x (dM st) (cZ st) (cG st) .none kV d i h a j) ⟨us,[]⟩=pure (ps.zip us))
  (e:∀vs H Q E,sp vs H Q E->vs.length=ps.length)
  (b:∀f a A c s H vs Q E,dy k (A.deeper (envOfC x (cG st) s.heap.objs.size f a))->sp vs H Q E->
   ∃t,jY (dH (iq P w) P w K mg base N x (cG st) f a A c s H E) (cZ st) t/\t {nx:=λ_ l=>Q .non l,rt:=Q} (ee N vs) H):gz P w K mg base x (k+1) sp:=by
 obtain⟨f,u,F,m⟩:=D.ex;have q:=F.binds n;have o:=F.kp;obtain⟨y,v,kV,d,i,h,a,j,p,rfl,r,g⟩:=F.ex;exact⟨f,_,ps,pE r g S e (b f a),m,o,q⟩
section
variable {X:Cx}{x:Str}{k:Nat}{sp:Sp}{e:Expr}{es:List Expr}{t:TA}{p pos:Pos}{E:XK}
def r0:eA (iq X.prog X.w) X E0:=λ_ _ _ _ _ _ _ q=>by obtain⟨b,t,C,a,d,B,c,_,_,z⟩:=q;exact z.elim
def vv(h:gz X.prog X.w X.K X.mg X.base x k sp)(hr:dy k X.A)(l:eA (iq X.prog X.w) X E)(j:PA X (e::es) t)(m:Gl X x:=by rfl)
  (g:(x==("__debug__" : Str))=false:=by decide) (i:starEach (e::es) X.env=(false,eval e X.env)::starEach es X.env:=by rfl) (d:(backTo pos (starEach es X.env)).any (·.1)=false:=by rfl) :
  PE X (.Call (.Name x p) (e::es) [] pos) (jq sp [] E t):=by
 obtain⟨f,n,o,F,a,b,c⟩:=h.ex;exact qP F hr m a b c .nil l j g i d
end
def jb{K:Frag}(e:mroIn K C b=some r):(clsIn K C).isSome=true:=by
 unfold mroIn at e;cases h:clsIn K C with
 |none=>rw[h]at e;cases e
 |some cd=>rfl
def ug K a:kitOne K (.ref a) (.ref a)=some true:=by unfold kitOne;rw[aP (beq_self_eq_true _)]
def zw{K:Frag}{a:Addr}{T:String}{r:Bool}(b:kitMeta T=true)(h:mroIn K a (.type T)=some r):kitOne K (.ref a) (.type T)=some r:=by unfold kitOne;rw[aQ (λq=>by cases beq_iff_eq.mp q)];show (if kitMeta T=true then subIn K (.ref a) (.type T) else none)=some r;rw[aP b];exact h
def xG{K:Frag}(b:a≠c)(d:typeIn K (.ref c)=some (.type "type"))(e:(clsIn K c).isSome=true)(h:mroIn K a (.ref c)=some r):kitOne K (.ref a) (.ref c)=some r:=by unfold kitOne;rw[aQ (λq=>b (by cases beq_iff_eq.mp q;rfl))];show (if ((clsIn K c).isSome&&typeIn K (.ref c)==some (.type "type"))=true then subIn K (.ref a) (.ref c) else none)=some r;rw[aP (by rw[e,d];decide)];exact h
def nc{K:Frag}{t c:Vq}{a:List Vq}{r:Oq Bool}(h:kitOne K t c=some false)(b:kitAny K t a=r):kitAny K t (c::a)=r:=by unfold kitAny;rw[h];exact b
end L2
namespace L2
open PySem PySem.Spec PyProof.Rows PySem.W
mutual
inductive DV(K:Frag)(H:Hp):V->PyData->Prop
 |non:DV K H .non .none
 |bl (b:Bool):DV K H (.bl b) (.bool b)
 |int (i:Int):DV K H (.int i) (.int i)
 |str (x:Str):DV K H (.str x) (.str x)
 |lst {a:Addr} {xs:List V} {ds:List PyData} (h:fQ K H a xs) (hs:pj K H xs ds):DV K H (.ref a) (.list ds)
 |tup {a:Addr} {xs:List V} {ds:List PyData} (h:f6 K H a xs) (hs:pj K H xs ds):DV K H (.ref a) (.tuple ds)
inductive pj(K:Frag)(H:Hp):List V->List PyData->Prop
 |nil:pj K H [] []
 |cons {v:V} {d:PyData} {vs:List V} {ds:List PyData} (h:DV K H v d) (hs:pj K H vs ds):pj K H (v::vs) (d::ds)
end
section
variable {X:Cx}{cD:List (Addr×Obj)}{σ:St}{H:Hp}{s:Sq}
mutual
theorem DV.reads(I:cS X cD σ H s):∀{v} {d} {u},DV X.K H v d->dC v u->∃as,Reads s.heap u d as
 |_,_,_,.non,r=>by cases r;exact⟨_,.none⟩
 |_,_,_,.bl b,r=>by cases r;exact⟨_,.bool b⟩
 |_,_,_,.int i,r=>by obtain⟨t,rfl⟩:=r;exact⟨_,.int i t⟩
 |_,_,_,.str x,r=>by obtain⟨t,rfl⟩:=r;exact⟨_,.str x t⟩
 |_,_,_,.lst h hs,r=>by cases r;obtain⟨a,g,⟨o,n,e,c,k,f⟩,_⟩:=I.list h;obtain⟨as,j⟩:=pj.reads I hs g;exact⟨_,.list e c f (by simpa using j)⟩
 |_,_,_,.tup h hs,r=>by cases r;obtain⟨a,g,⟨o,e,c,n,f⟩,_⟩:=I.tuple h;obtain⟨as,j⟩:=pj.reads I hs g;exact⟨_,.tuple e c f (by simpa using j)⟩
theorem pj.reads(I:cS X cD σ H s):∀{vs} {ds} {us},pj X.K H vs ds->c8 vs us->∃as,ReadsAll s.heap us ds as
 |_,_,_,.nil,r=>by cases r;exact⟨_,.nil⟩
 |_,_,_,.cons h hs,r=>by
  cases r with
  |cons r1 r2=>obtain⟨as,b⟩:=DV.reads I h r1;obtain⟨bs,a⟩:=pj.reads I hs r2;exact⟨_,.cons b a⟩
end
def qu(K:Frag)(c:Bool):R2:=λx y H Q=>∃a b,DV K H x a/\DV K H y b/\(a.canLay0=true/\b.canLay0=true/\a.depth<=100)/\Q (.bl (if c then !PyData.eqv a b else PyData.eqv a b)) H
def wo(n:X.A.units+200<cLine):jd X (compareOp .Eq) (qu X.K false):=by intro m s k H x y v u Q I e i h;obtain⟨l,o,g,b,⟨a,c,j⟩,q⟩:=h;obtain⟨as,d⟩:=g.reads I e;obtain⟨bs,f⟩:=b.reads I i;exact SeqAt.eqOverData _ _ _ _ _ _ _ _ _ _ _ _ d f a c (by omega) ⟨.bl _,H,I,rfl,q⟩
def uS(n:X.A.units+200<cLine):jd X (compareOp .NotEq) (qu X.K true):=by intro m s k H x y v u Q I e i h;obtain⟨l,o,g,b,⟨a,c,j⟩,q⟩:=h;obtain⟨as,d⟩:=g.reads I e;obtain⟨bs,f⟩:=b.reads I i;exact SeqAt.neOverData _ _ _ _ _ _ _ _ _ _ _ _ d f a c (by omega) ⟨.bl _,H,I,rfl,q⟩
def Ck(hr:dy k A):A.units+200<cLine:=by have:=hr.un;omega
end
end L2
namespace L2
open PySem PySem.Spec PyProof.Rows
theorem pz:∀{bs:List Bool} {us:List Vq},c8 (bs.map V.bl) us->us=bs.map Value.bool
 |[],_,.nil=>rfl
 |b::bs,u::us,.cons r t=>by have e:=r;rw[e,pz t];rfl
theorem lh:∀{ns} {us},c8 (ns.map V.int) us->IntsAre us ns
 |[],_,.nil=>.nil
 |n::ns,u::us,.cons r t=>by obtain⟨a,e⟩:=(r);rw[e];exact .cons n a (lh t)
def sr{bs:List Bool}:(List.range bs.length).all (λi=>bs.getD i false)=bs.all id:=by
 induction bs with
 |nil=>rfl
 |cons b bs ih=>rw[ay,bX,bY,bZ,bY,<-ih];rfl
def mC{bs:List Bool}:(List.range bs.length).any (λi=>bs.getD i false)=bs.any id:=by
 induction bs with
 |nil=>rfl
 |cons b bs ih=>rw[ay,bX,List.any_cons,List.any_map,List.any_cons,<-ih];rfl
section
variable {X:Cx}
def sP{bs:List Bool}:TruthOf prog w A (λi v=>(bs.map Value.bool).toArray[i]? = some v) (λi=>bs.getD i false):=λi v s Q E d c=>by
 have e:(bs.map Value.bool)[i]? = some v:=by simpa using d
 rw[av]at e;cases a:bs[i]? with
 |none=>rw[a]at e;cases e
 |some b=>
  rw[a]at e;cases e;have:bs.getD i false=b:=by rw[af,a];rfl
  dsimp only at c;rw[this]at c;exact ak c
def tZ(n:X.calm=true):e8 X (.builtin "all") (λd H Q=>∃(p:Addr) (bs:List Bool),d=[.ref p]/\fQ X.K H p (bs.map V.bl)/\Q (.bl (bs.all id)) H):=by
 intro y s x H d B Q I r h;obtain⟨p,bs,rfl,m,q⟩:=h;obtain⟨u,rfl,j⟩:=ky r;cases j;obtain⟨k,l,c,w⟩:=I.list m;have e:=pz l;subst e;have a:p<s.heap.objs.size:=by obtain⟨_,e,_⟩:=c.isList;exact aK e
 refine call_all_walk (wpAny_pyIter_list c.isList ⟨s.heap.objs.size,_,_,_,_,_,λi=>bs.getD i false,rfl,Walks.list (A:=X.A.in1) (I.ok.hd n) _ p (aL a) _,⟨⟨_,ar _ rfl,rfl,rfl⟩,c.isList.push _⟩,sP,λv t g=>?_⟩);refine⟨.bl _,H,I.kept (λb o e=>g b o ?_ (ae _ e)),rfl,?_⟩
 .intro f;have:=aK e;have z:b=s.heap.objs.size:=by simpa using f
  rw[z]at this;exact aZ _ this
 .rw[<-sr]at q;simpa using q
def vz(l:X.calm=true):e8 X (.builtin "sum") (λb H Q=>∃(p:Addr) (ns:LI),b=[.ref p]/\fQ X.K H p (ns.map V.int)/\Q (.int ns.sum) H):=by intro w s v H b x Q I r h;obtain⟨p,ns,rfl,k,q⟩:=h;obtain⟨u,rfl,i⟩:=ky r;cases i;obtain⟨a,j,m,t⟩:=I.list k;have c:=lh j;obtain⟨b,e⟩:=c.allInts.items;have d:=m.isList;rw[e]at d;refine sum_intListG (I.ok.hd l) d λo n f g=>⟨.int ns.sum,H,I.kept g,⟨f,?_⟩,q⟩;rw[preSum_eq,b4 (by simp),<-nums_intItems,<-e,show a.toArray.toList=a from rfl,c.numsOf]
def qp:bootBuiltins "all" = some (.builtin "all"):=by decide +kernel
def vi:bootBuiltins "any" = some (.builtin "any"):=by decide +kernel
def Ah:bootBuiltins "sum" = some (.builtin "sum"):=by decide +kernel
end
end L2
namespace L2
open PySem PySem.Spec PyProof.Rows
def eB(b:Bool)(h:Heap)(l:Addr)(a:Array Vq):Prop:=if b=true then h.IsTuple l a else h.IsList l a
def gI(b:Bool)(h:Heap)(it l:Addr)(k:Nat):Prop:=if b=true then h.IsTupleIter it l k else h.IsListIter it l k
noncomputable def m8(b:Bool):String:=if b=true then "tuple_iterator" else "list_iterator"
def gI.look(x:gI b h it l k):∃o,h.get? it=some o/\o.cls=.type (m8 b)/\o.data=.fields #[.ref l,.int k 0]:=by
 cases b with
 |true=>exact (x)
 |false=>exact (x)
def gI.of{k:Nat}(x:∃o,h.get? it=some o/\o.cls=.type (m8 b)/\o.data=.fields #[.ref l,.int k 0]):gI b h it l k:=by
 cases b with
 |true=>exact x
 |false=>exact x
def gI.to(x:gI b h it l k)(e:∀o,h.get? it=some o->h'.get? it=some o):gI b h' it l k:=by obtain⟨o,a,q⟩:=x.look;exact .of ⟨o,e o a,q⟩
def eB.look(x:eB b h l xs):∃o n,h.get? l=some o/\o.data=.seq xs n:=by
 cases b with
 |true=>obtain⟨o,c,_,n,a⟩:=(x);exact⟨o,n,c,a⟩
 |false=>obtain⟨o,c,_,n,a⟩:=(x);exact⟨o,n,c,a⟩
def eB.to(x:eB b h l xs)(e:∀o,h.get? l=some o->h'.get? l=some o):eB b h' l xs:=by
 cases b with
 |true=>obtain⟨o,a,q⟩:=(x);exact⟨o,e o a,q⟩
 |false=>obtain⟨o,a,q⟩:=(x);exact⟨o,e o a,q⟩
section
variable {prog:Program}{w:World}{A:Around}{E:Vq->Shared->Prop}{s:Sq}
theorem xg(d:s.heap.IsTupleIter it l k)(h:s.heap.IsTuple l xs)
  (i:∀x h',xs[k]? = some x->h'.IsTupleIter it l (k+1)->Heap.SameBut it s.heap h'->Q x {s with heap:=h'})
  (f:xs[k]? = none->A.handled=none/\∀h' e,Heap.ExtBut it s.heap h'->(∃o,h'.get? e=some o/\o.cls=.type "StopIteration")->E (.ref e) {s with heap:=h'}) :
  wpAny (model prog w) A (Builtin.SmallTypes.nextOf (.ref it)) Q E s:=by
 obtain⟨r,b,g,a⟩:=id d;obtain⟨q,m,_,n,j⟩:=h;unfold Builtin.SmallTypes.nextOf;refine ao (wpAny_callSpecial?_slot d.typeIs F.slot_tuple_iterator_next (wpAny_call_entry F.slot_tuple_iterator_next d.typeIs F.entry_tuple_iterator_next ?_ (F.args_tuple_iterator_next_1 _)));show wpAny _ _ (field (.ref it) 0 >>= _) _ _ s;refine ao (wpAny_field b a rfl ?_);have ne:(Value.ref l==Value.none)=false:=rfl;simp only[ne,bQ,if_false];refine ao (wpAny_field b a rfl (ao (wpAny_seqItems m j ?_)));cases c:xs[k]? with
 |some x=>simp only[bG,c];refine ao (wpAny_setField b a (by simp) (ak ⟨x,rfl,ak (i x _ c ?_ (Heap.SameBut.update ..))⟩));refine⟨_,Heap.get?_update_self _ b (Obj.isFreed_of_fields (Obj.data_mapFields a _)),(Obj.cls_mapFields ..).trans g,?_⟩;rw[Obj.data_mapFields a];simp[rawInt]
 |none=>obtain⟨p,f⟩:=f c;simp only[bG,c];refine ao (wpAny_rule (ao (wpAny_setField b a (by simp) ?_)));show wpAny _ _ (newExc (.type "StopIteration") [] >>= _) _ _ _;simp only[newExc,newTuple];refine ao (ao (wpAny_newObj_type (ao (wpAny_of_eq (by first|rfl|(simp only[firstArgMember];rfl)) (wpAny_newObj_type ?_ (by size_fits)))) (by size_fits)));simp only[raiseNew];refine ao (wpAny_handled ?_);rw[show A.in1.handled=none from p];refine ao (ak (wpAny_throw ?_));exact f _ _ (((Heap.SameBut.update ..).extBut.push _).push _) ⟨_,ar _ rfl,rfl⟩
theorem pk(h:gI b s.heap it l k)(i:eB b s.heap l xs)
  (j:∀x h',xs[k]? = some x->gI b h' it l (k+1)->Heap.SameBut it s.heap h'->Q x {s with heap:=h'})
  (g:xs[k]? = none->A.handled=none/\∀h' e,Heap.ExtBut it s.heap h'->(∃o,h'.get? e=some o/\o.cls=.type "StopIteration")->E (.ref e) {s with heap:=h'}) :
  wpAny (model prog w) A (Builtin.SmallTypes.nextOf (.ref it)) Q E s:=by
 cases b with
 |true=>exact xg h i j g
 |false=>
  have d:=h;have c:=i;cases f:xs[k]? with
  |some x=>exact wpAny_nextOf_list_item d c f λh' a b=>j x h' f a b
  |none=>obtain⟨m,g⟩:=g f;exact wpAny_nextOf_list_end m d c f g
def vh{z TI TO p G K L:Addr}{Q:Vq->Shared->Prop}(D:ZipApart z TI TO p G K L)
  (J:IsZip s.heap z TI TO .none) (hTI:IsPair s.heap TI (.ref p) (.ref G)) (hTO:IsPair s.heap TO a b)
  (h1:gI b1 s.heap p K k) (h2:gI b2 s.heap G L k) (X:eB b1 s.heap K xs) (Y:eB b2 s.heap L ys)
  (U:∀x y h',xs[k]? = some x->ys[k]? = some y->IsZip h' z TI TO (rawInt s.heap.objs.size)->IsPair h' TO x y->gI b1 h' p K (k+1)->gI b2 h' G L (k+1)->IsPair h' s.heap.objs.size x y->h'.objs.size=s.heap.objs.size+1->
   (∀c o,c≠z->c≠TO->c≠p->c≠G->s.heap.get? c=some o->h'.get? c=some o)->Q (.ref s.heap.objs.size) {s with heap:=h'})
  (R:xs[k]? = none\/ys[k]? = none->A.handled=none/\∀h' e,(∀c o,c≠z->c≠TO->c≠p->c≠G->s.heap.get? c=some o->h'.get? c=some o)->(∃o,h'.get? e=some o/\o.cls=.type "StopIteration")->E (.ref e) {s with heap:=h'}) :
  wpAny (model prog w) A (Builtin.«zip.__next__» ⟨[.ref z],[]⟩) (λfin s'=>∃v,fin=.done (.ret v)/\Q v s') E s:=by
 have t:∀{h:Heap} {e:Addr} {F:Obj} {f:Vq},IsZip h z TI TO f->h.get? e=some F->F.cls=.type "StopIteration" ->e≠z:=λ{h e F f} q ge ce u=>by subst u;rw[q]at ge;cases ge;simp at ce
 show wpAny _ _ (field (.ref z) 2 >>= λ_=>_) _ _ _;refine ao (wpAny_field J rfl rfl ?_);refine ao (wpAny_field J rfl rfl (ao (wpAny_seqItems hTI rfl ?_)));unfold Builtin.SmallTypes.ownedTupleIsFree;refine ao (ao (wpAny_field J rfl rfl (ak ?_)));simp only[if_true];refine ao (wpAny_rule (ao (wpAny_field J rfl rfl (ao (wpAny_setField_rec J (by simp) λg1 y1 H=>?_)))));have Z:=y1;simp only[List.zipIdx_cons,List.zipIdx_nil,bP,bU];refine ao (ao (ao (wpAny_onRaise ?_)));refine ao (pk (h1.to λo e=>H.extBut _ _ D.i1z e) (X.to λo e=>H.extBut _ _ D.l1z e) (λx g2 P t2 n=>ak ?_) (λP=>⟨(R (.inl P)).1,λg2 e n ⟨F,ge,ce⟩=>?_⟩))
 .have p2:=n.extBut _ _ D.TOi1 (H.extBut _ _ D.TOz hTO);refine ao (wpAny_seqItems p2 rfl (ao (wpAny_updateSeq_pair p2 λg3 q3 m=>?_)));have p3:=q3;refine ao (wpAny_letGo (ak (ao (ao (wpAny_onRaise ?_)))));have i:∀c o,c≠z->c≠p->c≠TO->s.heap.get? c=some o->g3.get? c=some o:=λc o d g j e=>m.extBut _ _ j (n.extBut _ _ g (H.extBut _ _ d e));refine ao (pk (h2.to λo e=>i _ o D.i2z D.i12.symm D.TOi2.symm e) (Y.to λo e=>i _ o D.l2z D.l2i1 D.l2TO e) (λy g4 N t4 r=>ak ?_) (λN=>⟨(R (.inr N)).1,λg4 e r ⟨F,ge,ce⟩=>?_⟩))
  .have p4:=r.extBut _ _ D.TOi2 p3;refine ao (wpAny_seqItems p4 rfl (ao (wpAny_updateSeq_pair p4 λB q5 C=>?_)));have p5:IsPair B TO x y:=q5;refine ao (wpAny_letGo (ak (ak (ao (wpAny_seqItems p5 rfl (ao (wpAny_newTuple ?_)))))));have sz:B.objs.size=s.heap.objs.size:=by rw[C.1,r.1,m.1,n.1,H.1]
   have z5:=C.extBut _ _ D.TOz.symm (r.extBut _ _ D.i2z.symm (m.extBut _ _ D.TOz.symm (n.extBut _ _ D.i1z.symm Z)));have to5:∀c o,c≠z->c≠TO->c≠p->c≠G->s.heap.get? c=some o->B.get? c=some o:=λc o d g j I e=>C.extBut _ _ g (r.extBut _ _ I (i c o d j g e));unfold Builtin.SmallTypes.ownedTupleHandOut;refine ao (ao (wpAny_setField_rec (ae _ z5) (by simp) λg7 y7 k7=>?_));have z7:=y7;refine wpAny_setField_rec z7 (by simp) λS y8 k8=>?_;have z8:=y8;have up:∀c o,c≠z->(B.push {cls:=.type "tuple",data:=.seq #[x,y]}).get? c=some o->S.get? c=some o:=λc o d e=>k8.extBut _ _ d (k7.extBut _ _ d e);have l:∀c o,c≠z->B.get? c=some o->S.get? c=some o:=λc o d e=>up c o d (ae _ e);have p8:=up _ _ (bp (aK z5)) (ar _ rfl);have s8:S.objs.size=B.objs.size+1:=by rw[k8.1,k7.1,Heap.size_push]
   rw[sz]at z8 p8 s8;refine ak ⟨_,rfl,?_⟩;rw[sz];have e1:=t2.to λo e=>l _ o D.i1z (C.extBut _ _ D.TOi1.symm (r.extBut _ _ D.i12 (m.extBut _ _ D.TOi1.symm e)));have e2:=t4.to λo e=>l _ o D.i2z (C.extBut _ _ D.TOi2.symm e);exact U x y S P N z8 (l _ _ D.TOz p5) e1 e2 p8 s8 λc o d g j I e=>l c o d (to5 c o d g j I e)
  .have z4:=r _ _ D.i2z.symm (m.extBut _ _ D.TOz.symm (n.extBut _ _ D.i1z.symm Z));refine wpAny_setField_rec z4 (by simp) λB _ C=>(R (.inr N)).2 B e (λc o d g j I q=>C.extBut _ _ d (r _ _ I (i c o d j g q))) ⟨F,C.extBut _ _ (t z4 ge ce) ge,ce⟩
 .have z2:=n _ _ D.i1z.symm Z;refine wpAny_setField_rec z2 (by simp) λg3 _ m=>(R (.inl P)).2 g3 e (λc o d g j I q=>m.extBut _ _ d (n _ _ j (H.extBut _ _ d q))) ⟨F,m.extBut _ _ (t z2 ge ce) ge,ce⟩
def pD{z TI TO f d g h:Addr}(D:ZipApart z TI TO f d g h)
  (p:IsZip s.heap z TI TO .none) (l:IsPair s.heap TI (.ref f) (.ref d)) (m:IsPair s.heap TO a b)
  (C:gI b1 s.heap f g k) (I:gI b2 s.heap d h k) (i:eB b1 s.heap g xs) (j:eB b2 s.heap h ys)
  (n:∀x y h',xs[k]? = some x->ys[k]? = some y->IsZip h' z TI TO (rawInt s.heap.objs.size)->IsPair h' TO x y->gI b1 h' f g (k+1)->gI b2 h' d h (k+1)->IsPair h' s.heap.objs.size x y->h'.objs.size=s.heap.objs.size+1->
   (∀c o,c≠z->c≠TO->c≠f->c≠d->s.heap.get? c=some o->h'.get? c=some o)->Q (some (.ref s.heap.objs.size)) {s with heap:=h'})
  (r:xs[k]? = none\/ys[k]? = none->A.handled=none/\∀h',(∀c o,c≠z->c≠TO->c≠f->c≠d->s.heap.get? c=some o->h'.get? c=some o)->Q none {s with heap:=h'}) :
  wpAny (model prog w) A (pyNext (.ref z)) Q E s:=by
 have t:s.TypeIs (.ref z) "zip" :=⟨_,p,rfl⟩;unfold pyNext;refine ao (wpAny_attempt (wpAny_callSpecial?_slot t F.slot_zip_next (wpAny_call_entry F.slot_zip_next t F.entry_zip_next
  (vh D p l m C I i j (λx y h' v J H G u N K L B=>ak (n x y h' v J H G u N K L B)) λq=>⟨(r q).1,λh' e hk ⟨o,ho,hc⟩=>?_⟩) (F.args_zip_next_1 _))))
 exact ao (wpAny_isInstance ⟨o,ho,hc⟩ isSubtype_stop (ak ((r q).2 h' hk)))
theorem oA(a:eB b s.heap l xs)
  (h:Q (.ref s.heap.objs.size) {s with heap:=s.heap.push {cls:=.type (m8 b),data:=.fields #[.ref l,.int 0 0]}}):wpAny (model prog w) A (pyIter (.ref l)) Q E s:=by
 cases b with
 |true=>exact wpAny_pyIter_tuple (a) h
 |false=>exact wpAny_pyIter_list (a) h
end
noncomputable abbrev zo(b:Bool)(l:Addr):Obj:={cls:=.type (m8 b),data:=.fields #[.ref l,.int 0 0]}
abbrev zt(x y:Vq):Obj:={cls:=.type "tuple",data:=.seq #[x,y]}
abbrev zz(p q:Addr):Obj:={cls:=.type "zip",data:=.fields #[.none,.bool false,.bool false,.ref p,.ref q]}
noncomputable abbrev mW(b1 b2:Bool)(h:Heap)(l1 l2:Addr):Heap:=
 ((((h.push (zo b1 l1)).push (zo b2 l2)).push (zt (.ref h.objs.size) (.ref (h.push (zo b1 l1)).objs.size))).push (zt .none .none)).push
  (zz ((h.push (zo b1 l1)).push (zo b2 l2)).objs.size (((h.push (zo b1 l1)).push (zo b2 l2)).push (zt (.ref h.objs.size) (.ref (h.push (zo b1 l1)).objs.size))).objs.size)
section
variable {prog:Program}{w:World}{A:Around}{E:Vq->Shared->Prop}{s:Sq}
def se b1 b2 l1 l2 xs ys:Meets (Builtin.«zip.__new__» ⟨[.type "zip",.ref l1,.ref l2],[]⟩) (λ_ R s=>eB b1 s.heap l1 xs/\eB b2 s.heap l2 ys/\
  R (.ok (.ret (.ref ((((s.heap.push (zo b1 l1)).push (zo b2 l2)).push (zt (.ref s.heap.objs.size) (.ref (s.heap.push (zo b1 l1)).objs.size))).push (zt .none .none)).objs.size))) {s with heap:=mW b1 b2 s.heap l1 l2}):=by
 refine .of_wp λprog w A R s h=>?_;obtain⟨c,g,d,b,f⟩:=s;obtain⟨a,l,k⟩:=h;have sz:=sub_zip;have j:=a;have i:eB b2 (Shared.heap ⟨c.push (zo b1 l1),g,d,b,f⟩) l2 ys:=l.to λo e=>ae _ e;wp_walk using oA j,oA i;exact⟨_,rfl,k⟩
def uY(d:eB b1 s.heap l1 xs)(i:eB b2 s.heap l2 ys)
  (h:∀h',IsZip h' (s.heap.objs.size+4) (s.heap.objs.size+2) (s.heap.objs.size+3) .none->IsPair h' (s.heap.objs.size+2) (.ref s.heap.objs.size) (.ref (s.heap.objs.size+1))->IsPair h' (s.heap.objs.size+3) .none .none->
   gI b1 h' s.heap.objs.size l1 0->gI b2 h' (s.heap.objs.size+1) l2 0->h'.objs.size=s.heap.objs.size+5->(∀c o,s.heap.get? c=some o->h'.get? c=some o)->Q (.ref (s.heap.objs.size+4)) {s with heap:=h'}) :
  wpAny (model prog w) A (call (.type "zip") [.ref l1,.ref l2]) Q E s:=by
 refine callType_new F.called_zip (by decide) (F.typeCall_zip_2 _ _) (F.newCall_zip_2 _ _) (λg=>F.args_object_init_3 g _ _) F.entry_zip_new (se b1 b2 l1 l2 xs ys) ⟨d,i,?_⟩;generalize j:s.heap.objs.size=n at *;have b:(s.heap.push (zo b1 l1)).objs.size=n+1:=by rw[Heap.size_push,j]
 have l:((s.heap.push (zo b1 l1)).push (zo b2 l2)).objs.size=n+2:=by rw[Heap.size_push,b]
 generalize a:(s.heap.push (zo b1 l1)).push (zo b2 l2)=g2 at *;have q:∀c o,s.heap.get? c=some o->g2.get? c=some o:=λc o e=>by rw[<-a];exact ae _ (ae _ e)
 have p:g2.get? n=some (zo b1 l1):=by rw[<-a,<-j];exact ae _ (ar _ rfl)
 have v:g2.get? (n+1)=some (zo b2 l2):=by rw[<-a,<-b];exact ar _ rfl
 have f:(g2.push (zt (.ref n) (.ref (n+1)))).objs.size=n+3:=by rw[Heap.size_push,l]
 have k:((g2.push (zt (.ref n) (.ref (n+1)))).push (zt .none .none)).objs.size=n+4:=by rw[Heap.size_push,f]
 have t:mW b1 b2 s.heap l1 l2=((g2.push (zt (.ref n) (.ref (n+1)))).push (zt .none .none)).push (zz (n+2) (n+3)):=by unfold mW;rw[j,b,a,l,f]
 rw[t,b,k];have u:(g2.push (zt (.ref n) (.ref (n+1)))).get? (n+2)=some (zt (.ref n) (.ref (n+1))):=by rw[<-l];exact ar _ rfl
 have r:((g2.push (zt (.ref n) (.ref (n+1)))).push (zt .none .none)).get? (n+3)=some (zt .none .none):=by rw[<-f];exact ar _ rfl
 have m:(((g2.push (zt (.ref n) (.ref (n+1)))).push (zt .none .none)).push (zz (n+2) (n+3))).get? (n+4)=some (zz (n+2) (n+3)):=by rw[<-k];exact ar _ rfl
 have up:∀c o,g2.get? c=some o->(((g2.push (zt (.ref n) (.ref (n+1)))).push (zt .none .none)).push (zz (n+2) (n+3))).get? c=some o:=λc o e=>ae _ (ae _ (ae _ e));exact⟨⟨_,m,rfl⟩,h _ m (ae _ (ae _ u)) (ae _ r) (.of ⟨_,up _ _ p,rfl,rfl⟩) (.of ⟨_,up _ _ v,rfl,rfl⟩) (by rw[Heap.size_push,k]) λc o e=>up c o (q c o e)⟩
end
end L2
namespace L2
open PySem PySem.Spec PyProof.Rows
def cS.turnedL{ch:List Addr}(I:cS X cD σ H s)(k:∀b o,b∉ch->s.heap.get? b=some o->h'.get? b=some o)(f:∀b∈ch,kf X cD H b) :
  cS X cD σ H {s with heap:=h',toks:=t'}:=by
 have d:∀b u,H b=some u->b∉ch:=λb u e z=>by rw[(f b z).1]at e;cases e
 refine I.step (λb i=>let ⟨_,f1,_,f3,f4,f5⟩:=f b i;⟨f3,f1,f4,f5⟩) (λb o _ _ a e _=>k b o a e) (λb o _ _ a e _=>⟨o.slots,k b o a e⟩) (λ_ _ _ _ n=>n)
  (λb o a e=>⟨o,k b o a e⟩) (λ_ _ e=>e) (λ_ _ _ e=>e) (λb p e=>⟨#[],by rw[e];simp⟩) (λm g=>?_) (λb u e=>?_) I.bare
 .obtain⟨o,j,h,l,r⟩:=g;exact⟨o,j,h,k _ o (λz=>(f _ z).2.1 rfl) l,r⟩
 .refine (I.hok b u e).stay (λc v a q=>k c v ?_ q) (λ_ q=>q) λ_ _ q=>q;rcases a with z|z
  .rw[z];exact d b u e
  .exact d c _ z
def pJ(K:W.Frag)(H:Hp)(b:Bool)(a:Addr)(c:List V):Prop:=if b=true then f6 K H a c else fQ K H a c
def cS.seqB(I:cS X cD σ H s)(h:pJ X.K H b a xs):∃c:List Vq,c8 xs c/\eB b s.heap a c.toArray/\xs.length<=sizeLine:=by
 cases b with
 |true=>obtain⟨c,r,p,z⟩:=I.tuple (h);exact⟨c,r,p,z⟩
 |false=>obtain⟨c,r,p,z⟩:=I.list (h);exact⟨c,r,p.isList,z⟩
def cS.seqB_inj(I:cS X cD σ H s)(h:pJ X.K H b a xs)(h':pJ X.K H b a ys):xs=ys:=by
 cases b with
 |true=>exact I.tuple_inj h h'
 |false=>exact I.list_inj h h'
noncomputable def Dd(K:W.Frag)(e f:Bool)(d c:Addr):It:=
  ⟨λi H=>∃a b x y,pJ K H e d a/\pJ K H f c b/\a[i]? = some x/\b[i]? = some y,
   λi H v g=>∃p x y,v=.ref p/\H p=none/\g=dB H p (.tup [x,y])/\(∀a,pJ K H e d a->a[i]? = some x)/\∀b,pJ K H f c b->b[i]? = some y,
   λi H=>∃a b,pJ K H e d a/\pJ K H f c b/\(a.length<=i\/b.length<=i)⟩
def vY{K:W.Frag}{x1}{z TI TO l m l1 l2:Addr}(D:ZipApart z TI TO l m l1 l2) :
  sX P w K (.Tuple elts x1 pos) (Dd K b1 b2 l1 l2) [z,TI,TO,l,m] z (λi h=>IsZip h z TI TO .none/\IsPair h TI (.ref l) (.ref m)/\(∃a b,IsPair h TO a b)/\gI b1 h l l1 i/\gI b2 h m l2 i) where
 mem:=by simp
 obj:=λi h p b f=>by
  obtain⟨n,g,⟨a,c,j⟩,r,t⟩:=p;have mem:b=z\/b=TI\/b=TO\/b=l\/b=m:=by simpa using f
  rcases mem with rfl|rfl|rfl|rfl|rfl
  .exact⟨_,n,λv q=>by cases q⟩
  .exact⟨_,g,λv q=>by cases q⟩
  .exact⟨_,j,λv q=>by cases q⟩
  .obtain⟨o,e,_,d⟩:=r.look;exact⟨o,e,λv q=>by rw[d]at q;cases q⟩
  .obtain⟨o,e,_,d⟩:=t.look;exact⟨o,e,λv q=>by rw[d]at q;cases q⟩
 keep:=λi h U p k=>by obtain⟨n,g,⟨a,c,j⟩,r,t⟩:=p;exact⟨k z (by simp) _ n,k TI (by simp) _ g,⟨a,c,k TO (by simp) _ j⟩,r.to λo e=>k l (by simp) o e,t.to λo e=>k m (by simp) o e⟩
 item:=by
  intro X hP hw hK hc i cD s σ H E I hf p hg;subst hP hw hK;obtain⟨n,g,⟨a,c,j⟩,r,t⟩:=p;obtain⟨xs,ys,x,y,q1,Z,e1,e2⟩:=hg;obtain⟨Q,r1,p1,z1⟩:=I.seqB q1;obtain⟨S,r2,p2,z2⟩:=I.seqB Z;obtain⟨u,gu,ru⟩:=r1.get e1;obtain⟨v,gv,rv⟩:=r2.get e2;have C:=I.fpOk (aJ _) (I.hok.fresh (aJ _));refine pD D n g j r t p1 p2 (λF R U B A a1 a2 a3 a4 a5 a6 N=>?_) λq=>?_
  .have eu:F=u:=by
    have:Q[i]? = some F:=by simpa using B
    rw[gu]at this;cases this;rfl
   have ev:R=v:=by
    have:S[i]? = some R:=by simpa using A
    rw[gv]at this;cases this;rfl
   subst eu;subst ev;refine⟨_,rfl,wpAny_letOwnedTupleGo_zip a1 λL J sb=>?_⟩;have zT:=bp (aK n);have I1:=I.turnedL (t':=s.toks) (ch:=[z,TO,l,m]) (λb o f e=>sb.extBut _ _ (λq=>f (by simp[q])) (N b o (λq=>f (by simp[q])) (λq=>f (by simp[q])) (λq=>f (by simp[q])) (λq=>f (by simp[q])) e))
    (λb f=>hf b (by
     have mem:b=z\/b=TO\/b=l\/b=m:=by simpa using f
     rcases mem with rfl|rfl|rfl|rfl<;>simp))
   have gT:=sb.extBut _ _ zT a5;have I2:cS X cD σ (dB H s.heap.objs.size (.tup [x,y])) {s with heap:=L}:=I1.track C.1 C.2.2.2.1 C.2.1 C.2.2.2.2.1 C.2.2.2.2.2
    ⟨by show 2<=sizeLine;decide,[F,R],.cons ru (.cons rv .nil),⟨_,gT,rfl,_,rfl,rfl⟩⟩
   have lt:∀{b o},s.heap.get? b=some o->dB H s.heap.objs.size (.tup [x,y]) b=H b:=λ{b o} e=>cN (aL (aK e));refine⟨.ref s.heap.objs.size,_,I2,rfl,⟨_,x,y,rfl,C.1,rfl,λxs' h=>by rw[I.seqB_inj h q1];exact e1,λys' h=>by rw[I.seqB_inj h Z];exact e2⟩,?_,λb f=>?_⟩
   .have Y:∀c o,c≠z->U.get? c=some o->L.get? c=some o:=λc o c1 e=>sb.extBut _ _ c1 e;exact⟨J,Y _ _ D.TIz (N _ _ D.TIz D.TITO D.TIi1 D.TIi2 g),⟨_,_,Y _ _ D.TOz a2⟩,a3.to λo e=>Y _ o D.i1z e,a4.to λo e=>Y _ o D.i2z e⟩
   .have mem:b=z\/b=TI\/b=TO\/b=l\/b=m:=by simpa using f
    have G:=(hf b f).1;obtain⟨o1,g1,_⟩:=r.look;obtain⟨o2,g2,_⟩:=t.look;rcases mem with rfl|rfl|rfl|rfl|rfl
    .rw[lt n];exact G
    .rw[lt g];exact G
    .rw[lt j];exact G
    .rw[lt g1];exact G
    .rw[lt g2];exact G
  .exfalso;have m1:Q.toArray[i]? = some u:=by simpa using gu
   have m2:S.toArray[i]? = some v:=by simpa using gv
   rcases q with q|q
   .rw[m1]at q;cases q
   .rw[m2]at q;cases q
 done:=by
  intro X hP hw hK hc i cD s σ H E I hf p hg;subst hP hw hK;obtain⟨n,g,⟨a,c,j⟩,r,t⟩:=p;obtain⟨xs,ys,q1,Z,hl⟩:=hg;obtain⟨Q,r1,p1,z1⟩:=I.seqB q1;obtain⟨S,r2,p2,z2⟩:=I.seqB Z;have n1:=r1.length;have n2:=r2.length;have fpc:∀b∈[z,TO,l,m],kf X cD H b:=λb f=>hf b (by
   have mem:b=z\/b=TO\/b=l\/b=m:=by simpa using f
   rcases mem with rfl|rfl|rfl|rfl<;>simp)
  refine pD D n g j r t p1 p2 (λF R U B A a1 a2 a3 a4 a5 a6 N=>?_) λq=>⟨I.ok.hd hc,λU N=>⟨rfl,I.turnedL (λb o f e=>N b o (λq=>f (by simp[q])) (λq=>f (by simp[q])) (λq=>f (by simp[q])) (λq=>f (by simp[q])) e) fpc⟩⟩;exfalso;have m1:i<Q.length:=by
   have:Q[i]? = some F:=by simpa using B
   exact (aa.mp this).1
  have m2:i<S.length:=by
   have:S[i]? = some R:=by simpa using A
   exact (aa.mp this).1
  omega
 self:=λ_ _ _ _ _ p h=>wpAny_pyIter_zip p.1 h
def zr:bootBuiltins "zip" = some (.type "zip"):=by decide +kernel
section
variable {X:Cx}
def zU(K:W.Frag)(d e:Bool)(f:TA):TI:=λj H R=>f j H λg a=>∃b c,g=[.ref b,.ref c]/\(∃h,pJ K a d b h)/\(∃i,pJ K a e c i)/\R (Dd K d e b c) a
def zm{x1}(P:Gl X "zip")(w:X.mg "zip" = none)(A:PA X [a,b] ta)(D:starEach [a,b] X.env=[(false,eval a X.env),(false,eval b X.env)]:=by rfl)
  (c:starEach [b] X.env=[(false,eval b X.env)]:=by rfl):PI X (.Tuple elts x1 tpos) (.Call (.Name "zip" p) [a,b] [] pos) (zU X.K b1 b2 ta):=by
 intro N s G H R I h;refine Call_ (kW I P w zr (PyProof.Rows.callWith_type1 (ed (A pos N s G H _ I h) λS s1 ⟨vs,H1,I1,r1,k⟩=>?_) (by rw[D,c]) (by rw[c];rfl)));obtain⟨u,L,rfl,⟨U,k⟩,⟨Y,Q⟩,q⟩:=k;obtain⟨u1,u2,rfl,v,B⟩:=BS r1;cases v;cases B;obtain⟨S,C,m,_⟩:=I1.seqB k;obtain⟨ws,x,t,_⟩:=I1.seqB Q;have f:u<s1.heap.objs.size:=by obtain⟨o,n,e,_⟩:=m.look;exact aK e
 have j:L<s1.heap.objs.size:=by obtain⟨o,n,e,_⟩:=t.look;exact aK e
 refine uY m t λZ l g i J y F E=>?_;refine wpAny_pyIter_zip l ?_;refine⟨_,_,_,_,H1,rfl,I1.kept E,vY (zipApart_new f j),⟨l,g,⟨_,_,i⟩,J,y⟩,λb z=>?_,q⟩;have d:b=s1.heap.objs.size+4\/b=s1.heap.objs.size+2\/b=s1.heap.objs.size+3\/b=s1.heap.objs.size\/b=s1.heap.objs.size+1:=by simpa using z
 have r:s1.heap.objs.size<=b:=by rcases d with rfl|rfl|rfl|rfl|rfl<;>omega
 exact I1.fpOk r (I1.hok.fresh r)
end
end L2
namespace L2
open PySem PySem.Spec PyProof.Rows
def gW(h:H p=none):cT H (dB H p o):=λb u e=>by rw[cN (cX e h)];exact e
def cT.seqT{K:W.Frag}(e:cT H H')(h:f6 K H a xs):f6 K H' a xs:=by
 rcases h with (h|⟨o,h⟩)|h
 .exact .inl (.inl (e _ _ h))
 .exact .inl (.inr ⟨o,e _ _ h⟩)
 .exact .inr h
noncomputable def m4(d:List Str)(b a:Scope)(N:List Str)(c:List (Option Nat)):Bool:=
 a.kind==.function&&a.names.all (λy=>!(y.2==NameKind.cell)||a.names.lookup y.1==some .cell)&&a.names.all (λy=>!(y.2==NameKind.local)||a.names.lookup y.1==some .local) &&
 a.names.all (λy=>!(y.2==NameKind.free)||b.names.lookup y.1==some .cell)&&N.length==c.length &&
 (List.range N.length).all (λi=>match c[i]?,N[i]? with
  |some (some j),some x=>d[j]? == some x&&a.names.lookup x==some .free&&b.names.lookup x==some .cell
  |_,_=>true)
def BO(n:∀x,X.env.scope.names.lookup x=some .cell->∃c,X.env.cells.lookup x=some c)(h:m4 X.N X.env.scope scope N ix=true):pK X scope N ix:=by
 unfold m4 at h;simp only[bH]at h;obtain⟨⟨⟨⟨⟨p,r⟩,o⟩,s⟩,k⟩,q⟩:=h;refine⟨by simpa using p,λy d e=>?_,λy d e=>?_,λy d e=>?_,by simpa using k,λi j x f m=>?_⟩
 .have:=b5.mp r y d;rw[e]at this;simpa using this
 .have:=b5.mp o y d;rw[e]at this;simpa using this
 .have:=b5.mp s y d;rw[e]at this;exact n _ (by simpa using this)
 .have l:=(aa.mp f).1;have:=b5.mp q i (aR.mpr l);rw[f,m]at this;simp only[bH,beq_iff_eq]at this;obtain⟨⟨a,b⟩,c⟩:=this;exact⟨a,b,.inr (.inl c),λz=>by have g:X.env.scope.names.lookup x=some .local:=z;rw[c]at g;cases g⟩
def uQ(L:pK X scope N ix):∀x,(fX X N scope C s₃ H ex pn).env.scope.names.lookup x=some .cell->∃c,(fX X N scope C s₃ H ex pn).env.cells.lookup x=some c:=λx b=>by
 refine bC.mp (W.cellsFrom_some _ _ _ ?_);rcases jj (.inl b) with a|a
 .exact .inr (bC.mpr (gX a (L.fre _ a rfl)))
 .exact .inl a
def k9{K:W.Frag}(m:ix[k]? = some none)(n:ix[l]? = some none):g6 ix (xP K 2 (oa (ek k) (oa (ek l) xp))):=by
 rintro x f H Q ⟨a,b,c,t,d,v,r,g,s,u,w,h,q⟩;refine⟨a,b,c,t,d,v,r,g,s,u,w,h,λi j e=>?_,q⟩;have o:k≠i:=by rintro rfl;rw[m]at e;cases e
 have p:l≠i:=by rintro rfl;rw[n]at e;cases e
 rw[aq p,aq o]
end L2
namespace L2
open PySem PySem.Spec PyProof.Rows
structure eJ(K:W.Frag)(C:Addr)(m qual:Str)(st:Stmt):Prop where
 ex:∃f fd,wx K m qual st f fd/\pq K C m f
structure i9(P:Program)(w:World)(K:W.Frag)(mg:Str->Option Value)(base:Heap)(C:Addr)(m:Str)(k:Nat)(sp:Sp):Prop where
 cl:lS K C
 ex:∃f fd ps,fw P w K mg base jR k f fd ps sp/\pq K C m f/\fV K fd ps []
def xq{K:W.Frag}{st:Stmt}(j:lS K C)(D:eJ K C m qual st)(S:dw N ps (cG st))
  (i:∀(kV d n:Vq) (l:Oq Addr) (a o:Vq) (us:List Vq),us.length=ps.length->bindArgs (W.fnOf m qual (dM st) (cZ st) (cG st) .none kV d n l a o) ⟨us,[]⟩=pure (ps.zip us))
  (e:∀vs H Q E,sp vs H Q E->vs.length=ps.length)
  (b:∀f a A c s H vs Q E,dy k (A.deeper (envOfC qual (cG st) s.heap.objs.size f a))->sp vs H Q E->
   ∃t,jY (dH jR P w K mg base N qual (cG st) f a A c s H E).nox (cZ st) t/\t {nx:=λ_ h=>Q .non h,rt:=Q} (ee N vs) H):i9 P w K mg base C m (k+1) sp:=by
 obtain⟨f,g,F,m⟩:=D.ex;exact⟨j,f,g,ps,F.ok S e (b f),m,F.binds i⟩
section
variable {X:Cx}{x m:Str}{C:Addr}{k:Nat}{sp:Sp}{e o:Expr}{es:List Expr}{t:TA}{ta:TE}{p pos apos:Pos}
def AK(h:i9 X.prog X.w X.K X.mg X.base C m k sp)(hr:dy k X.A)(d:PE X o ta)
  (c:eval (.Call (.Attribute o m apos) [] [] pos) X.env=(do
   let ov <-eval o X.env
   standAt apos.atName
   let (f,first) <-holding [ov] (getMethod ov m pl)
   callWith pos f first (backTo pos (starEach [] X.env)) (backToKw pos (keywordEach [] X.env))):=by rfl) :
  PE X (.Call (.Attribute o m apos) [] [] pos) (lC C m sp [] E0 ta jo):=by
 obtain⟨f,g,i,F,a,b⟩:=h.ex;exact v7 d h.cl a F hr b .nil yH c
end
end L2
namespace L2
open PySem PySem.Spec PyProof.Rows
def vx(hN:X.N.Nodup)(A:X.N[i]? = some y)(Z:rT X.env.scope y)
  (hc:X.calm=true) (F:PI X tg iter wi) (L:pK X scope N ix) (k:g6 ix g)
  (t:∀C c H ex r,PG (fX X N scope C c H ex r) tg g/\sg (fX X N scope C c H ex r) ifs tt/\PE (fX X N scope C c H ex r) elt te)
  (U:X.fn y=true\/X.env.scope.names.lookup y=some .local:=by first|exact .inl rfl|exact .inr rfl)
  (l:swapsWith (.ListComp elt [⟨tg,iter,ifs,0⟩] scope pos) (some (.Name y py)) spos.line X.env=pure true:=by rfl)
  (R:∀x,foldedSetIterable iter X.env x=pure x:=by intro _;rfl):PS X (.Assign [.Name y py] (.ListComp elt [⟨tg,iter,ifs,0⟩] scope pos) spos) (h7 (uI ix wi g tt te) (ek i)):=by
 intro cD s u H D I h;rw[exec_Assign_Name_used _ _ _ _ l];refine ao (wpAny_standAt (ao ?_));rw[arm_evalThenUse_ListComp];refine ao (ed (wpAny_comprehension_free rfl R (iY L.fre) L.kind L.names (ed (F cD s u H _ I h) λv s1 S=>ed S λitv s2 h2=>?_)) λ_ s' q=>ak (ak q));obtain⟨it,fp,tn,J,H2,e,I2,T,n,f2,W,⟨m0,w0⟩,d⟩:=h2;subst e;refine qV (Q:=λx P=>ek i x u P D.nx) hc L k t I2 T n f2 w0 d λE0 C m E s' B f Y q=>?_;refine wpAny_assign_Name (mH (v:=.ref E0) Y hN A Z rfl (λs3 I3 j=>?_) U);obtain⟨a,sb,K⟩:=j;have ne:C≠a:=by
  rcases K with z|z
  .rw[z];exact f.2.1
  .exact λw=>f.2.2.2.2.1 y a z w.symm
 exact⟨m,B.sameBut sb ne,λh' p=>⟨_,E,I3.turned (λb o G e=>p.extBut b o G e) f.1 f.2.1 f.2.2.2.1 f.2.2.2.2.1 f.2.2.2.2.2,q⟩⟩
end L2
namespace L2
open PySem PySem.Spec PyProof.Rows
section
variable {X:Cx}{cD:List (Addr×Obj)}{σ:St}{H:Hp}{s:Sq}{a:Addr}{y v:V}{u r:Vq}{o:Oq V}{A:Around}{E:Vq->Shared->Prop}
def cS.big(I:cS X cD σ H s):sysModules<s.heap.objs.size:=by have h:mainGlobals<s.heap.objs.size:=(I.mod.glob.keeps I.bk).lt;exact Nat.lt_trans (by decide) h
end
def tT(h:Heap)(a:sysModules<h.objs.size):eY P w H (h.push {cls:=.type "dict",data:=.dict #[]}) h.objs.size (.dK []):=⟨bx _,beq_eq_false_iff_ne.mpr (Ne.symm (aL a)),[],.nil,Heap.DictOf.new h⟩
def vO:TE:=λ_ H Q=>∀p,H p=none->Q (.ref p) (dB H p (.dK []))
section
variable {X:Cx}{pos:Pos}
def tu:PE X (.Dict [] [] pos) vO:=λb s c H Q I h=>wpAny_Dict_empty ⟨.ref s.heap.objs.size,_,I.laid (a:=s.heap.objs.size) (o:=.dK []) (t':=s.toks) (λ_ _ q=>ae _ q) (aJ _) (tT s.heap I.big),rfl,h _ (I.hok.fresh (aJ _))⟩
end
end L2
namespace L2
open PySem PySem.Spec PyProof.Rows Builtin
def kb:fillsNumberSlot (.type "tuple") "mul" = pure false:=PySem.fillsNumberSlot_seq F.slot_tuple_mul.lookup (by decide +kernel) F.slot_tuple_rmul.lookup (by decide +kernel)
def nr:seqRepeat? (.type "tuple")=pure (some (.builtin "tuple.__mul__")):=by unfold seqRepeat?;rw[PySem.seqSlot_of (name:= "__mul__") F.slot_tuple_mul.lookup (by decide +kernel),PySem.seqSlot_of (name:= "__rmul__") F.slot_tuple_rmul.lookup (by decide +kernel)];rfl
def lG a t l dct its n sl :
  Meets (Builtin.«int.__rmul__» ⟨[.int a t,.ref l],[]⟩) (λ_ R s=>s.heap.get? l=some ⟨.type "tuple",dct,.seq its n,sl⟩/\R (.ok (.ret Value.notImplemented)) s):=
 .of_wp λb w A R s h=>by obtain⟨c,g,d,e,i⟩:=s;obtain⟨f,h⟩:=h;wp_walk;exact⟨_,rfl,h⟩
def l5 a t l dct its n sl (F:-(2 ^ 63)<=a) (H:a<2 ^ 63) (m:its.size*a.toNat<=sizeLine) :
  Meets (Builtin.«tuple.__mul__» ⟨[.ref l,.int a t],[]⟩) (λ_ R s=>s.heap.get? l=some ⟨.type "tuple",dct,.seq its n,sl⟩/\((its.isEmpty=true\/a=1)->R (.ok (.ret (.ref l))) s)/\
   (¬(its.isEmpty=true\/a=1)->a<=0->R (.ok (.ret (.ref s.heap.objs.size))) {s with heap:=s.heap.push {cls:=.type "tuple",data:=.seq #[]}})/\
   (¬(its.isEmpty=true\/a=1)->0<a->R (.ok (.ret (.ref s.heap.objs.size))) {s with heap:=s.heap.push {cls:=.type "tuple",data:=.seq ((List.replicate a.toNat its).foldl (·++·) #[])}})):=
 .of_wp λk w A R s h=>by
  obtain⟨C,g,d,B,G⟩:=s;obtain⟨E,x,r,v⟩:=h;have o:¬(decide (a < -2 ^ 63)||decide (a >= 2 ^ 63))=true:=by simp;omega
  wp_walk;rw[aQ o];wp_walk;by_cases b:its.isEmpty=true\/a=1
  .rw[aP (by rcases b with c|c<;>simp[c])];wp_walk;exact⟨_,rfl,x b⟩
  .rw[aQ (by intro z;exact b (by simpa using z))];by_cases j:a<=0
   .rw[aP (by simp[j])];wp_walk;exact⟨_,rfl,r b j⟩
   .have u:¬its.isEmpty=true:=λz=>b (.inl z);have y:its.size*a<=sizeLine:=by
     have:((its.size*a.toNat:Nat):Int)<=sizeLine:=by exact_mod_cast m
     rw[Int.natCast_mul,b6 (by omega)]at this;exact this
    have D:(sizeLine:Int)=2 ^ 24:=by decide
    rw[aQ (by simp[j,u]),aQ (by omega)];rw[aQ (by simp[Tuple.tupleTooMany];omega)];have q:(List.foldl (λf i=>f++i) #[] (List.replicate a.toNat its)).size<=sizeLine:=by
     have e:=iI its.toList a.toNat [];simp only[bN]at e;have p:List.foldl (λf i=>f++i) #[] (List.replicate a.toNat its)=(List.replicate a.toNat its.toList).flatten.toArray:=by simpa using e
     rw[p,bt,mX,bO];simpa using m
    wp_walk;exact⟨_,rfl,v b (by omega)⟩
section
variable {X:Cx}
def tX:R2:=λx y H Q=>∃l k a,x=.ref l/\y=.int k/\H l=some (.tup a)/\-(2 ^ 63)<=k/\k<2 ^ 63/\a.length*k.toNat<=sizeLine/\((a=[]\/k=1)->Q (.ref l) H)/\
 (¬(a=[]\/k=1)->∀p,H p=none->Q (.ref p) (dB H p (.tup (List.replicate k.toNat a).flatten)))
def wM:jd X (binaryOp .Mult) tX:=by
 intro cD s σ H x y v u Q I L Y h;obtain⟨l,k,i,rfl,rfl,S,N,U,p,P,B⟩:=h;cases L;obtain⟨t,rfl⟩:=Y;obtain⟨a,r,⟨⟨c,d,dt,A⟩,e,Z,n,J⟩,_⟩:=I.tuple (f6.of S);subst Z;subst J;have K:=r.length;have C:a.toArray.size*k.toNat<=sizeLine:=by rw[bt,<-K];exact p
 have j:a.toArray.isEmpty=true↔i=[]:=by
  cases r with
  |nil=>simp
  |cons _ _=>simp
 have f:(a.toArray.isEmpty=true\/k=1)↔(i=[]\/k=1):=by rw[j]
 have g:List.foldl (λE G=>E++G) #[] (List.replicate k.toNat a.toArray)=(List.replicate k.toNat a).flatten.toArray:=by have:=iI a k.toNat [];rw[bN]at this;exact this
 have m:=I.fresh;refine wpAny_binaryOp_repeat_ref (by decide) ⟨_,e,rfl⟩ (λs'=>typeIs_int s' k t) kb F.fills_int_mul F.slot_int_rmul nr F.slot_int_index.lookup
  (call_meets F.slot_int_rmul (typeIs_int s k t) F.entry_int_rmul (F.args_int_rmul_2 _ _) (lG k t l d a.toArray n A)
   ⟨e,rfl,⟨_,e,rfl⟩,call_meets F.slot_tuple_mul ⟨_,e,rfl⟩ F.entry_tuple_mul (F.args_tuple_mul_2 _ _) (l5 k t l d a.toArray n A N U C) ⟨e,λz=>?_,λz w=>?_,λz w=>?_⟩⟩)
 .exact⟨.ref l,H,I,rfl,P (f.mp z)⟩
 .have R:k.toNat=0:=by omega
  have q:=B (λy=>z (f.mpr y)) s.heap.objs.size m;rw[R]at q;exact⟨.ref _,_,I.laid (o:=.tup []) (λb D q=>ae _ q) (aJ _) ⟨bx _,[],.nil,ls.new _ _⟩,rfl,q⟩
 .rw[g];refine⟨.ref _,_,I.laid (o:=.tup (List.replicate k.toNat i).flatten) (λb D q=>ae _ q) (aJ _) ⟨?_,_,r.rep k.toNat,ls.new _ _⟩,rfl,B (λy=>z (f.mpr y)) _ m⟩;rw[mX,bO];exact p
def oE:V->Option Bool
 |.bl b=>some b
 |.int i=>some (i != 0)
 |_=>none
def fM:List V->Option (List Bool)
 |[]=>some []
 |v::vs=>(oE v).bind λb=>(fM vs).bind λr=>some (b::r)
theorem mQ:∀{vs} {bs} {us} {i} {u},fM vs=some bs->c8 vs us->us[i]? = some u->∃v,dC v u/\oE v=some (bs.getD i false)
 |[],_,_,_,_,_,.nil,e=>by simp at e
 |v::vs,bs,_,i,u,h,.cons r t,e=>by
  cases c:oE v with
  |none=>simp[fM,c]at h
  |some b=>
   cases hr:fM vs with
   |none=>simp[fM,c,hr]at h
   |some r'=>
    simp[fM,c,hr]at h;subst h;cases i with
    |zero=>simp at e;subst e;exact⟨v,r,by simpa using c⟩
    |succ i=>obtain⟨f,a,d⟩:=mQ hr t (by simpa using e);exact⟨f,a,by simpa using d⟩
theorem my:∀{vs} {bs},fM vs=some bs->vs.length=bs.length
 |[],_,h=>by cases h;rfl
 |v::vs,bs,h=>by
  cases a:oE v with
  |none=>simp[fM,a]at h
  |some b=>
   cases hr:fM vs with
   |none=>simp[fM,a,hr]at h
   |some r'=>simp[fM,a,hr]at h;subst h;simp[my hr]
def kD(h:fM vs=some bs)(r:c8 vs us):TruthOf prog w A (λi v=>us.toArray[i]? = some v) (λi=>bs.getD i false):=λi u s Q E e a=>by
 obtain⟨v,d,c⟩:=mQ h r (by simpa using e);dsimp only at a;cases v with
 |bl b=>
  cases d;have:b=bs.getD i false:=by simpa[oE] using c
  rw[<-this]at a;exact wpAny_truthy_bool a
 |int n=>
  obtain⟨t,rfl⟩:=d;have:(n != 0)=bs.getD i false:=by simpa[oE] using c
  rw[<-this]at a;exact PyProof.Rows.truthy_int a
 |_=>simp[oE]at c
def rZ(n:X.calm=true):e8 X (.builtin "any") (λm H Q=>∃p vs bs,m=[.ref p]/\(fQ X.K H p vs\/f6 X.K H p vs)/\fM vs=some bs/\Q (.bl (bs.any id)) H):=by
 intro D s C H m E Q I r h;obtain⟨p,vs,bs,rfl,j,d,q⟩:=h;obtain⟨u,rfl,y⟩:=ky r;cases y;have B:=my d;rcases j with j|j
 .obtain⟨c,g,f,x⟩:=I.list j;have w:=g.length;have a:p<s.heap.objs.size:=by obtain⟨_,e,_⟩:=f.isList;exact aK e
  refine call_any_walk (wpAny_pyIter_list f.isList ⟨s.heap.objs.size,_,_,_,_,_,λi=>bs.getD i false,rfl,Walks.list (A:=X.A.in1) (I.ok.hd n) _ p (aL a) _,⟨⟨_,ar _ rfl,rfl,rfl⟩,f.isList.push _⟩,kD d g,λv t l=>?_⟩);refine⟨.bl _,H,I.kept (λb o e=>l b o (λk=>?_) (ae _ e)),rfl,?_⟩
  .have lt:=aK e;have z:b=s.heap.objs.size:=by simpa using k
   rw[z]at lt;exact aZ _ lt
  .rw[<-mC]at q;have:c.toArray.size=bs.length:=by rw[bt];omega
   rw[this];exact q
 .obtain⟨c,g,f,x⟩:=I.tuple j;have w:=g.length;have a:p<s.heap.objs.size:=by obtain⟨_,e,_⟩:=f;exact aK e
  have pt:=f;refine call_any_walk (wpAny_pyIter_tuple pt ⟨s.heap.objs.size,_,_,_,_,_,λi=>bs.getD i false,rfl,Walks.tuple (A:=X.A.in1) (I.ok.hd n) _ p (aL a) _,⟨⟨_,ar _ rfl,rfl,rfl⟩,pt.push _⟩,kD d g,λv t l=>?_⟩);refine⟨.bl _,H,I.kept (λb o e=>l b o (λk=>?_) (ae _ e)),rfl,?_⟩
  .have lt:=aK e;have z:b=s.heap.objs.size:=by simpa using k
   rw[z]at lt;exact aZ _ lt
  .rw[<-mC]at q;have:c.toArray.size=bs.length:=by rw[bt];omega
   rw[this];exact q
end
end L2
namespace HT
open PySem PySem.Spec PyProof.Rows
section
variable {prog:Program}{w:World}{A:Around}{E:Vq->Shared->Prop}{s:Sq}
def getItem_tuple_all{a d:Oq Int}(b:IsTup s.heap t items)(i:s.heap.IsSliceOf sl vl vu .none)(m:IsPart vl a)(l:IsPart vu d)
  (hw:sIx items.size 0 a=0/\sIx items.size items.size d=items.size) (h:Q (.ref t) s):wpAny (model prog w) A (getItem (.ref t) (.ref sl)) Q E s:=by
 obtain⟨k,e,g,j⟩:=id i;have f:s.TypeIs (.ref sl) "slice" :=⟨k,e,g⟩;unfold getItem;try with_reducible refine wpAny_holding ?_;first|refine ao (ak ?_)|skip
 refine ao (wpAny_sequenceKey b.typeIs (by decide) ?_);refine ao (wpAny_callSpecial?_slot b.typeIs PyProof.Rows.slot_tuple_getitem
  (wpAny_call_entry PyProof.Rows.slot_tuple_getitem b.typeIs entry_tuple_getitem ?_ (args_tuple_getitem _ _)))
 show wpAny _ _ (Builtin.Tuple.tupleItemsOf (.ref t) >>= _) _ _ s;refine ao (tupleItemsOf_ b ?_);refine ao (wpAny_typeOf f ?_);rw[aP (by decide)];refine ao (gQ i m l ?_);have c:(((sIx items.size 0 a):Int)==0&&(1:Int)==1&&(sIx items.size items.size d-sIx items.size 0 a)==items.size)=true:=by rw[hw.1,hw.2];simp
 show wpAny _ _ (if (((sIx items.size 0 a):Int)==0&&1==1&&(sIx items.size items.size d-sIx items.size 0 a)==items.size)=true then _ else _) _ _ s;rw[aP c];refine ao (ao (wpAny_typeOf b.typeIs (ak ?_)));rw[aP (by decide)];refine ao (wpAny_rule ?_);exact ak ⟨_,rfl,ak h⟩
end
end HT
namespace L2
open PySem PySem.Spec PyProof.Rows
section
variable {X:Cx}
def B3(K:W.Frag):V->Option Int->Option Int->Hp->VK->Prop:=λx d c H Q=>∃a b,x=.ref a/\f6 K H a b/\(HT.sIx b.length 0 d=0/\HT.sIx b.length b.length c=b.length)/\Q (.ref a) H
def wK:yT X (B3 X.K):=by
 intro t s o H x v w m u l p Q I i g k f h;obtain⟨a,e,rfl,j,hw,q⟩:=h;cases i;obtain⟨b,r,c,n⟩:=I.tuple j;have d:b.toArray.size=e.length:=by rw[bt];exact r.length.symm
 refine⟨"tuple",_,PyProof.Rows.slot_tuple_getitem.lookup,c.typeIs,?_⟩;exact HT.getItem_tuple_all c g k f (by rw[d];exact hw) ⟨.ref a,H,I,rfl,q⟩
end
end L2
namespace L2
open PySem PySem.Spec PyProof.Rows
section
variable {P:Program}{w:World}{mg:Str->Option Value}{base:Heap}{CX:wy}{k:Nat}{f:Addr}{N ps:List Str}{name qual:Str}{params:Arguments}{body:List Stmt}{scope:Scope}{od an:Oq Addr}{osl:Array (Option Value)}{A:Around}{outer:List Env}{s:Sq}{H:Hp}{args:Args}{us:List Vq}{vs:List V}{Q:VK}{E:XK}{ea:Addr}{oe:Obj}
theorem zJ{K:W.Frag}{L kV j X a Y oc:Vq}(lk:K.lookup f=some ⟨oc,od,.func (W.fnOf name qual params body scope L kV j X an a Y),osl⟩)(D:W.codeIn K a qual=true)(S:dw N ps scope)
  (hl:vs.length=ps.length) (hr:dy (k+1) A) (m:nq P w K mg base A outer s H) (hb:BindsTo s (W.fnOf name qual params body scope L kV j X an a Y) args (ps.zip us)) (r:c8 vs us)
  (U:s.heap.get? ea=some oe) (Z:H ea=none) (hf:ea∉hV outer) (hc:∀v,oe.data≠.cell v)
  (h:∃t,jY ((dH CX P w K mg base N qual scope f a A outer s H E).exc [(ea,oe)] ea) body t/\t {nx:=λ_ d=>Q .non d,rt:=Q} (ee N vs) H) :
  codeAny (model P w) (A.mark (some (.ref ea))) (.call (.ref f) args) (CR CX outer P w H s Q E) s:=by
 have R:=m.mod.kin.keeps λb o e=>(m.bs b o e).1;have z:=m.mod.nolimit.keeps λb o e=>(m.bs b o e).1;have g:∀y∈ps.zip us,scope.names.lookup y.1=some .local\/(scope.names.lookup y.1=some .cell/\((cellsFrom (s.heap.objs.size+1) scope.names []).lookup y.1).isSome=true):=λ⟨n,v⟩ hy=>by
  rcases S.par n (aV hy).1 with q|q
  .exact .inl q
  .exact .inr ⟨q,W.cellsFrom_some _ _ _ (.inl q)⟩
 refine codeAny_call_function hr.depth (R _ _ lk) rfl S.co S.gen rfl (W.codeRec_of R D) (hb _ _ _ _ ?_);refine wpAny_newFunctionEnv_cells S.kind g λenv he G x=>?_;subst he;refine⟨z.keeps x.toInCall.keep,codeAny_func ?_⟩;obtain⟨t,ht,hq⟩:=h;have I:cS (dH CX P w K mg base N qual scope f a A outer s H E) [] (ee N vs) H G:=mL S hr.hd m hl r x;have I':cS ((dH CX P w K mg base N qual scope f a A outer s H E).exc [(ea,oe)] ea) [] (ee N vs) H G:=I.exc λp B=>by
  obtain rfl:p=(ea,oe):=by simpa using B
  refine⟨x.toInCall.keep ea oe U,Z,?_,?_,hc⟩
  .exact aL (aK U)
  .exact hf
 refine wpAny_mono (ht [] G (ee N vs) H _ I' hq) (λfl F i=>?_) λe F i=>i.elim;have l:∀{c:St} {d:Hp} {v:V} {u:Vq},cS ((dH CX P w K mg base N qual scope f a A outer s H E).exc [(ea,oe)] ea) [] c d F->dC v u->Q v d->CE outer P w H s Q u F:=λ{c d v u} J C q=>⟨v,d,J.os,J.bare,J.base,J.hok,C,q⟩
 cases fl with
 |ret u=>obtain⟨v,c,d,J,C,q⟩:=i;exact l J C q
 |next=>obtain⟨c,d,J,q⟩:=i;exact l (v:=V.non) J rfl q
 |brk=>obtain⟨_,_,_,q⟩:=i;exact False.elim q
 |cont=>obtain⟨_,_,_,q⟩:=i;exact False.elim q
end
end L2
namespace L2
open PySem PySem.Spec PyProof.Rows PySem.W PySem.Calls Builtin Builtin.ObjectAttr
abbrev wg:List Vq:=[.type "ValueError",.type "Exception",.type "BaseException",.type "object"]
def iO:List Vq->Bool
 |.ref _::r=>iO r
 |l=>l==wg
theorem kZ(a:Vq):∀{l:List Vq},iO l=true->refuseLoop a "__setattr__" l=pure ()
 |.ref c::r,e=>by rw[refuseLoop_ref];exact kZ a (l:=r) e
 |[],e=>by cases e
 |.type n::r,e=>by rw[beq_iff_eq.mp (show (Value.type n::r==wg)=true from e)];exact PySem.F.store_ValueError.passes a
 |.none::r,e=>by cases e
 |.bool _::r,e=>by cases e
 |.int .. :: r,e=>by cases e
 |.str .. :: r,e=>by cases e
 |.builtin _::r,e=>by cases e
 |.float .. :: r,e=>by cases e
 |.ellipsis::r,e=>by cases e
def xu:∀{l:List Vq},iO l=true->l.contains (.type "object")=true:=λ{l} e=>by
 induction l with
 |nil=>cases e
 |cons v r ih=>
  cases v with
  |ref c=>rw[b7,ih e,Bool.or_true]
  |_=>first|(rw[beq_iff_eq.mp (show (_::r==wg)=true from e)];decide)|cases e
section
variable {prog:Program}{w:World}{A:Around}{E:Vq->Shared->Prop}{s:Sq}{K:Frag}{x C:Addr}{ox:Obj}{name:Str}{v:Vq}
def yE{Q:Unit->Shared->Prop}(X:K.In s.heap)(k:s.heap.get? x=some ox)(j:ox.cls=.ref C)(i:ox.dict=none)(L:∃vs,ox.data=.fields vs)
  (hs:findIn K (.ref C) "__setattr__" = some (some (.builtin "object.__setattr__"))) (Z:(clsIn K C).any (λa=>iO a.mro)=true) (ha:findIn K (.ref C) name=some none) (hh:hasDictIn K C=true)
  (h:∀h' S,h'.Ns1 s.heap.objs.size (λy=>if y=name then some v else none)->h'.get? x=some {ox with dict:=some s.heap.objs.size}->(∀b o,b≠x->s.heap.get? b=some o->h'.get? b=some o)->Q () {s with heap:=h',toks:=S}) :
  wpAny (model prog w) A (setAttr (.ref x) name v) Q E s:=by
 obtain⟨vs,l⟩:=L;obtain⟨oc,od,odt,z⟩:=ox;dsimp only at j i l;subst j i l;have J:W.InstAt s.heap x {cls:=.ref C,dict:=none,data:=.fields vs,slots:=z} C none:=⟨k,rfl,rfl,trivial⟩;refine set_plain X J hs ?_;have g:=PySem.F.store_object;obtain⟨a,n,m⟩:=any_some Z;have ne:a.mro.isEmpty=false:=by cases q:a.mro with|nil=>rw[q]at m;cases m|cons _ _=>rfl
 have X':K.In ({s with toks:=s.toks+1}:Sq).heap:=X;have r:Looks (model prog w) ({s with toks:=s.toks+1}:Sq).heap (typeOf (.ref x)) (.ref C):=J.type;have G:Looks (model prog w) ({s with toks:=s.toks+1}:Sq).heap (isInstance (.ref x) (.type "object")) true:=r.andThen (looks_mroIn X (by unfold mroIn;rw[n,Option.bind_some,aQ (by rw[ne];decide),xu m]));refine codeAny_call_builtin g.slot.plain g.entry (@check_slot (model prog w) _ _ _ "object.__setattr__" "object" "__setattr__" (.ref x) [.str name s.toks,v] [] _ g.kind g.split G (g.args (.ref x) (.str name s.toks) v) ?_);have P:Looks (model prog w) ({s with toks:=s.toks+1}:Sq).heap (mroOf (.ref C)) a.mro:=(looks_clsIn X n).andThen .now;rw[osa_eq,refuse_eq];refine ao (ao (r.here (ao (P.here ?_))));rw[kZ _ m];have R:Looks (model prog w) ({s with toks:=s.toks+1}:Sq).heap (typeLookup (.ref C) name) none:=looks_findIn X ha;refine ak (ao (r.here (ao (R.here (ao (ak ?_))))));obtain⟨t,I,D⟩:=any_some hh;obtain rfl:a=t:=Option.some.inj (n.symm.trans I);have L2:Looks (model prog w) ({s with toks:=s.toks+1}:Sq).heap (classData C) a:=looks_clsIn X n;refine ao (ak (ao (ao (wpAny_loadPart k (ao (L2.here ?_))))));rw[D];have d:x≠s.heap.objs.size:=aL (aK k);refine ao (wpAny_alloc' (ao (wpAny_update' (ae _ k) (ak ?_))));have p:((s.heap.push {cls:=.type "dict",data:=.dict #[]}).update x λo=>{cls:=o.cls,dict:=some s.heap.objs.size,data:=o.data,slots:=o.slots}).get? s.heap.objs.size=some {cls:=.type "dict",data:=.dict #[]}:=(Heap.get?_update_ne _ _ _ _ d.symm).trans (Heap.get?_push_at rfl rfl)
 have H:((s.heap.push {cls:=.type "dict",data:=.dict #[]}).update x λo=>{cls:=o.cls,dict:=some s.heap.objs.size,data:=o.data,slots:=o.slots}).Ns s.heap.objs.size (λ_=>none):=⟨_,#[],_,p,rfl,λe he=>absurd he (by simp),λ_=>rfl⟩
 show wpAny _ _ (storeInDict s.heap.objs.size (.str name s.toks) name v) _ _ _;unfold storeInDict newKeyGuard;refine ao (ak (ao (wpAny_nsSet1 (Heap.Ns1.of_empty H) λh' f c=>?_)));obtain⟨oD,U,epD,u,B,N⟩:=f.count (Within.cons name v Within.nil);refine ao (wpAny_lookBehind u (by rw[B];exact pastItsLine_dict (aM N (by rw[ay,List.length_nil,sizeLine_eq];omega))) ?_);refine ak (h h' _ f ((c.2 x d).trans ?_) λb o Y e=>(c.2 b (aL (aK e))).trans ((Heap.get?_update_ne _ _ _ _ Y).trans (ae _ e)));exact Heap.get?_update_self _ (ae _ k) rfl
end
abbrev su(a C t:Addr)(d:Oq Addr):HO:=.ext λh=>h.get? a=some {cls:=.ref C,dict:=d,data:=.fields #[.ref t,.none,.none,.none,.bool false,.none]}
def tM{P:Program}{w:World}{H:Hp}{h:Heap}(e:h.get? a=some {cls:=.ref C,dict:=d,data:=.fields #[.ref t,.none,.none,.none,.bool false,.none]}):eY P w H h a (su a C t d):=⟨e,⟨_,e⟩,λ_ _ p k=>k _ p⟩
structure sC(K:Frag)(C:Addr)(f:Str):Prop where
 sa:findIn K (.ref C) "__setattr__" = some (some (.builtin "object.__setattr__"))
 po:(clsIn K C).any (λcd=>iO cd.mro)=true
 na:findIn K (.ref C) f=some none
 hd:hasDictIn K C=true
section
variable {X:Cx}{cD:List (Addr×Obj)}{σ:St}{H:Hp}{s:Sq}{a C t fI:Addr}{f:Str}{y:V}{u:Vq}{A:Around}{E:Vq->Shared->Prop}
def oV{Q:Unit->Shared->Prop}(I:cS X cD σ H s)(e:H a=some (su a C t none))(c:sC X.K C f)(U:dC y u)
  (h:∀dx J,H dx=none->cS X cD σ (dB (dB H dx (.xd [(f,y)])) a (su a C t (some dx))) J->Q () J):wpAny (model X.prog X.w) A (setAttr (.ref a) f u) Q E s:=by
 obtain⟨G,_,_⟩:=I.hok a _ e;have l:=I.hok.fresh (aJ s.heap.objs.size);refine yE I.kIn G rfl rfl ⟨_,rfl⟩ c.sa c.po c.na c.hd λZ Y L F p=>h _ _ l ?_;have r:∀b,H b=none->b≠a:=λb D z=>by rw[z,e]at D;cases D
 have nd:∀b o,s.heap.get? b=some o->b≠s.heap.objs.size:=λb o q=>aL (aK q);have R:a≠s.heap.objs.size:=nd a _ G;have d:∀b v,H b=some v->b≠a->dB (dB H s.heap.objs.size (.xd [(f,y)])) a (su a C t (some s.heap.objs.size)) b=some v:=λb v q n=>by rw[cN n,cN (cX q l)];exact q
 refine I.step (ch:=[]) (g':=s.gens) (d':=s.drawn) (λ_ z=>nomatch z) (λb o _ _ _ q n=>p b o (r b n) q) (λb o _ _ _ q n=>⟨o.slots,p b o (r b n) q⟩) (λb o _ q n=>by rw[cN (r b n),cN (nd b o q)];exact n) (λb o _ q=>?_)
  (λb N q=>d b _ q λz=>by rw[z,e]at q;cases q) (λb o u q=>d b _ q λz=>by rw[z,e]at q;cases q) (λb ps q=>⟨#[],by rw[d b _ q λz=>by rw[z,e]at q;cases q];simp⟩) (λm P=>P.at λo q=>p _ o (r _ I.free) q) (λb v q=>?_) I.bare
 .by_cases z:b=a
  .exact⟨_,by rw[z];exact F⟩
  .exact⟨o,p b o z q⟩
 .by_cases z:b=a
  .subst z;rw[cL]at q;cases q;exact tM F
  .rw[cN z]at q;by_cases B:b=s.heap.objs.size
   .subst B;rw[cL]at q;cases q;refine⟨_,L,λg=>?_⟩;by_cases x:g=f
    .subst x;simp only[List.lookup,beq_self_eq_true,if_true];exact U
    .have:(g==f)=false:=by simpa using x
     simp only[List.lookup,this,aQ x];exact True.intro
   .rw[cN B]at q;refine (I.hok b v q).stay (λc S j i=>p c S (λk=>?_) i) (λc i=>d c _ i λk=>by rw[k,e]at i;cases i) λc N i=>d c _ i λk=>by rw[k,e]at i;cases i
    rcases j with j|j
    .exact z (j.symm.trans k)
    .rw[k,e]at j;cases j
def BZ(K:Frag)(d e:TE)(f:Str):TS:=λD σ H=>e σ H λy g=>d σ g λx c=>∃a C t,x=.ref a/\c a=some (su a C t none)/\sC K C f/\∀b,c b=none->D.nx σ (dB (dB c b (.xd [(f,y)])) a (su a C t (some b)))
def AZ{o b:Expr}{e d:Pos}{g i:TE}(k:PE X o g)(p:PE X b i)(l:swapsWith b (some (.Attribute o f d)) e.line X.env=pure false):PS X (.Assign [.Attribute o f d] b e) (BZ X.K g i f):=by intro cD s σ H D I h;refine plainObj_wpAny_Assign_Attribute (ed (p cD s σ H _ I h) λu s1 ⟨y,H1,I1,ry,q⟩=>ed (k cD s1 σ H1 _ I1 q) λov s2 ⟨x,H2,I2,rx,a,C,t,ex,ea,c,q2⟩=>?_) l;subst ex;obtain rfl:ov=Value.ref a:=rx;exact oV I2 ea c ry λm r j n=>⟨_,_,n,q2 m j⟩
end
section
variable {prog:Program}{w:World}{A:Around}{E:Vq->Shared->Prop}{h:Heap}{g:Array GenState}{d:Drawn}{t:Nat}{os:OsState}
variable {nm q:Str}{C N:Addr}{bs bm bmB:List Vq}{hdct:Bool}{sn:List Str}{sub:List Vq}{ab:Bool}{col:Oq Bool}{dd:Oq Addr}{k0 k1 k2 k3 k5:Oq Vq}{B Bn newId nid initId inN:String}{bmN:List Vq}
abbrev ja(C t:Addr)(d:Oq Addr):Obj:={cls:=.ref C,dict:=d,data:=.fields #[.ref t,.none,.none,.none,.bool false,.none]}
abbrev fJ(h:Heap)(C:Addr)(dP:List Vq):Heap:=(h.push {cls:=.type "tuple",data:=.seq dP.toArray}).push (ja C h.objs.size none)
def lK(u:ExcBaseFacts Bn newId inN bmN)(l:bmB.contains (.type Bn)=true)(F:ExcBaseFacts B nid initId bmB)(T:OwnTail h bmB bm){mN:Str->Option Value}{c:List Vq}{p:Addr}{oI:Obj}{Q:Fin->Shared->Prop}
  (k:h.get? C=some (excClassObj nm q C N bs bm hdct sn sub ab col dd k0 k1 k2 k3 k5 newId)) (y:h.Ns N mN) (z:mN "__init__" = some (.ref p)) (m:h.get? p=some oI) (s:oI.cls=.type "function")
  (G:wpAny (model prog w) A (call (.ref p) (.ref (h.objs.size+1)::c)) (λr v=>r=.none/\Q (.done (.ret (.ref (h.objs.size+1)))) v) E ⟨fJ h C c,g,d,t,os⟩) (hrest:c.length<=sizeLine:=by size_fits) :
  wpAny (model prog w) A (Builtin.«type.__call__» ⟨.ref C::c,[]⟩) Q E ⟨h,g,d,t,os⟩:=by
 (repeat (first|with_reducible refine wpAny_loadPart_at k ?_|with_reducible refine wpAny_madeBy_exc k ?_|wp_step));refine codeAny_call_builtin_code (Code.quiet_builtin _ u.quiet) (wpAny_check_new_subU u l T k ?_);refine codeAny_exc_new_subU u l F T k ?_ hrest;show wpAny _ _ _ _ _ _;have a:=ae (ja C h.objs.size none) (ae {cls:=.type "tuple",data:=.seq c.toArray} k);have hfI₁:=ae (ja C h.objs.size none) (ae {cls:=.type "tuple",data:=.seq c.toArray} m);have f:(fJ h C c).Ns N mN:=let ⟨o,es,ep,e,r⟩:=y;⟨o,es,ep,ae _ (ae _ e),r⟩;have i:(fJ h C c).get? (h.objs.size+1)=some (ja C h.objs.size none):=by heap_get
 have n:(Value.ref C::bm).contains (.ref C)=true:=by simp
 have j:=T.keeps (h':=fJ h C c) λb o e=>ae _ (ae _ e);unfold isInstance;(repeat (first|with_reducible refine wpAny_loadPart_at i ?_|(with_reducible refine wpAny_isSubtype_exc a ?_;rw[n])|wp_step));show wpAny _ _ (typeLookup (.ref C) _) _ _ _;refine wpAny_typeLookup_tail a f j F.mroIs F.init.lookup ?_;rw[z];refine wpAny_holding (ao ?_);unfold bindSpecial;refine ao (wpAny_typeOf (T:= "function") ⟨_,hfI₁,s⟩ ?_);rw[aP (by decide)];refine ak (ao (wpAny_mono G (λr v hr=>?_) λ_ _ x=>x));obtain⟨rfl,D⟩:=hr;wp_walk;exact D
def sm(n:ExcBaseFacts Bn newId inN bmN)(e:bmB.contains (.type Bn)=true)(F:ExcBaseFacts B nid initId bmB)(T:OwnTail h bmB bm){mN:Str->Option Value}{a:List Vq}{f:Addr}{oI:Obj}{Q:Vq->Shared->Prop}
  (b:h.get? C=some (excClassObj nm q C N bs bm hdct sn sub ab col dd k0 k1 k2 k3 k5 newId)) (j:h.Ns N mN) (k:mN "__init__" = some (.ref f)) (c:h.get? f=some oI) (i:oI.cls=.type "function")
  (l:wpAny (model prog w) (A.under (.builtin "type.__call__" ⟨.ref C::a,[]⟩)) (call (.ref f) (.ref (h.objs.size+1)::a)) (λr m=>r=.none/\Q (.ref (h.objs.size+1)) m) E ⟨fJ h C a,g,d,t,os⟩) (hrest:a.length<=sizeLine:=by size_fits) :
  wpAny (model prog w) A (call (.ref C) a) Q E ⟨h,g,d,t,os⟩:=by
 have s:=tc_lookup;have p:=tc_bind (.ref C);have o:(⟨h,g,d,t,os⟩:Sq).TypeIs (.ref C) "type" :=⟨_,b,rfl⟩;refine wpAny_call (codeAny_of_tree ?_);show wpAny _ _ (callAny (.ref C) _) _ _ _;(repeat (any_goals (first|assumption|with_reducible refine wpAny_loadPart_at b ?_|wp_step)));refine⟨rfl,?_⟩;exact codeAny_call_builtin_at (Code.quiet_builtin _ (by decide +kernel)) entry_typeCall (wpAny_check_type_call_sub b (lK (hrest:=hrest) n e F T b j k c i l))
end
section
variable {M:Model}{A:Around}{E:Vq->Shared->Prop}{env:Env}
variable {nm q:Str}{C N:Addr}{bs bm:List Vq}{hdct:Bool}{sn:List Str}{sub:List Vq}{ab:Bool}{col:Oq Bool}{dd:Oq Addr}{k0 k1 k2 k3 k5:Oq Vq}{newId:String}
def rC{s:Sq}{x:Sem Vq}{Q:Flow->Shared->Prop}(b:bm.contains (.type "BaseException")=true)(k:A.handled=none)
  (h:wpAny M A x (λv a=>∃e t d,v=.ref e/\a.heap.get? C=some (excClassObj nm q C N bs bm hdct sn sub ab col dd k0 k1 k2 k3 k5 newId)/\a.heap.get? e=some (ja C t d)/\E (.ref e) a) E s) :
  wpAny M A (raiseStmt env (some x) none) Q E s:=by
 have f:(Value.ref C::bm).contains (.type "BaseException")=true:=by rw[b7,b,Bool.or_true]
 unfold raiseStmt;refine ao (wpAny_mono h (λv a c=>?_) λ_ _ x=>x);obtain⟨e,t,d,rfl,i,l,j⟩:=c;obtain⟨n,g,d,m,o⟩:=a;(repeat (first|with_reducible refine wpAny_loadPart_at l ?_|with_reducible refine wpAny_loadPart_at i ?_|(with_reducible refine wpAny_isSubtype_exc i ?_;rw[f])|wp_step));exact wpAny_raiseNew_none k j
end
def xx{K:Frag}{h:Heap}{N:Addr}{m:Str->Option Value}{n:Str}{v:Vq}(X:K.In h)(G:h.Ns N m)(e:nsIn K N n=some (some v)):m n=some v:=by
 obtain⟨o,p,k,i,a,_,b⟩:=G;unfold nsIn at e;split at e
 .rename_i c d g r l q;have z:=X _ _ q;rw[i]at z;cases z;cases a;split at e
  .rename_i j f;cases e;rw[<-b];unfold nsFind findBy;rw[<-Array.find?_toList,f];rfl
  .split at e<;>cases e
 .cases e
def jK(K:Frag)(C:Addr)(a:List Vq)(newId:String):Bool:=match K.lookup C with
 |some ⟨.type "type",_,.cls cd,sl⟩=>(match cd.mro,sl.toList with
  |.ref C'::bm,[_,_,_,_,some (.builtin n),_]=>C'==C&&n==newId&&!cd.hasDel&&tailIn K a bm&&nsOkIn K cd.ns&&nsIn K cd.ns "__init__" == findIn K (.ref C) "__init__"
  |_,_=>false)
 |_=>false
theorem yk{K:Frag}(X:K.In h)(q:jK K C bmB newId=true)(o:findIn K (.ref C) "__init__" = some (some (.ref fI))) :
  ∃bm N nm m bs hdct sn sub ab col dd k0 k1 k2 k3 k5 mN,h.get? C=some (excClassObj nm m C N bs bm hdct sn sub ab col dd k0 k1 k2 k3 k5 newId)/\h.Ns N mN/\mN "__init__" = some (.ref fI)/\OwnTail h bmB bm:=by
 unfold jK at q;split at q<;>try (exact absurd q aG)
 rename_i dd j p k;split at q<;>try (exact absurd q aG)
 rename_i s bm v u x w n t g d;simp only[bH,beq_iff_eq,Bool.not_eq_true']at q;obtain⟨⟨⟨⟨⟨f,i⟩,a⟩,r⟩,c⟩,b⟩:=q;subst f;subst i;cases j;subst g;subst a;cases p with
 |mk l=>simp only at d;subst d;have e:=Heap.Ns.of_isNs (isNs_of_in X c);exact⟨_,_,_,_,_,_,_,_,_,_,_,_,_,_,_,_,_,X _ _ k,e,xx X e (b.trans o),tail_of_in X r⟩
section
variable {prog:Program}{w:World}{A:Around}{E:Vq->Shared->Prop}{s:Sq}{env:Env}
variable {nm q:Str}{C N:Addr}{bs bm bmB:List Vq}{hdct:Bool}{sn:List Str}{sub:List Vq}{ab:Bool}{col:Oq Bool}{dd:Oq Addr}{k0 k1 k2 k3 k5:Oq Vq}{B Bn newId nid initId inN:String}{bmN:List Vq}
theorem qA(Y:ExcBaseFacts Bn newId inN bmN)(u:bmB.contains (.type Bn)=true)(F:ExcBaseFacts B nid initId bmB){mN:Str->Option Value}{x:Str}{H i p:Pos}{args:List Expr}{z:Addr}{oI:Obj}{Q:Flow->Shared->Prop}
  (e:bm.contains (.type "BaseException")=true) (J:A.handled=none) (hplain:(backTo i (starEach args env)).any (·.1)=false) (P:mN "__init__" = some (.ref z)) (D:oI.cls=.type "function")
  (h:wpAny (model prog w) A (eval (.Name x H) env) (λf l=>f=.ref C/\wpAny (model prog w) A (evalArgs (.ref C) true (backTo i (starEach args env)) [])
   (λa b=>a.kw=[]/\a.pos.length<=sizeLine/\b.heap.get? C=some (excClassObj nm q C N bs bm hdct sn sub ab col dd k0 k1 k2 k3 k5 newId)/\b.heap.Ns N mN/\OwnTail b.heap bmB bm/\b.heap.get? z=some oI/\
    wpAny (model prog w) (A.under (.builtin "type.__call__" ⟨.ref C::a.pos,[]⟩)) (call (.ref z) (.ref (b.heap.objs.size+1)::a.pos))
     (λr n=>r=.none/\(n.heap.get? C=some (excClassObj nm q C N bs bm hdct sn sub ab col dd k0 k1 k2 k3 k5 newId)/\∃d,n.heap.get? (b.heap.objs.size+1)=some (ja C b.heap.objs.size d))/\E (.ref (b.heap.objs.size+1)) n) E {b with heap:=fJ b.heap C a.pos}) E l) E s) :
  wpAny (model prog w) A (exec (.Raise (some (.Call (.Name x H) args [] i)) none p) env) Q E s:=by
 rw[arm_exec_Raise];(first
  |refine ao (wpAny_standAt (rC (C:=C) (nm:=nm) (q:=q) (N:=N) (bs:=bs) (bm:=bm) (hdct:=hdct) (sn:=sn) (sub:=sub) (ab:=ab) (col:=col) (dd:=dd) (k0:=k0) (k1:=k1) (k2:=k2) (k3:=k3) (k5:=k5) (newId:=newId) e J (ao (wpAny_mono (wpAny_Call_ofName (wpAny_mono h (λf l c=>?_) λ_ _ x=>x)) (λv m k=>ao (wpAny_standAt (ak k))) λ_ _ x=>x))))
  | (simp only[evalOpt,Option.map];refine ao (wpAny_standAt (rC (C:=C) (nm:=nm) (q:=q) (N:=N) (bs:=bs) (bm:=bm) (hdct:=hdct) (sn:=sn) (sub:=sub) (ab:=ab) (col:=col) (dd:=dd) (k0:=k0) (k1:=k1) (k2:=k2) (k3:=k3) (k5:=k5) (newId:=newId) e J (ao (wpAny_mono (wpAny_Call_ofName (wpAny_mono h (λf l c=>?_) λ_ _ x=>x)) (λv m k=>ao (wpAny_standAt (ak k))) λ_ _ x=>x))))))
 obtain⟨rfl,c⟩:=c;unfold callWith;refine ao (wpAny_holding (wpAny_mono c (λa b j=>ao (wpAny_standAt ?_)) λ_ _ x=>x));obtain⟨G,t⟩:=a;obtain⟨y,K,I,L,T,S,j⟩:=j;obtain rfl:t=[]:=y;obtain⟨hp,g,d,Z,os⟩:=b;simp only[hplain];refine ao (wpAny_keeperOf_exc I ?_);refine ao (sm (hrest:=K) Y u F T I L P S D (wpAny_mono j (λr n hr=>⟨hr.1,ao (wpAny_holding (wpAny_point (ak ?_)))⟩) λ_ _ x=>x));obtain⟨_,⟨o,R,X⟩,U⟩:=hr;exact⟨_,_,R,rfl,o,X,U⟩
end
def CQ(K:Frag)(C:Addr)(f:Str):Sp:=λc H Q _=>∃a t y,c=[.ref a,y]/\H a=some (su a C t none)/\∀b,H b=none->Q .non (dB (dB H b (.xd [(f,y)])) a (su a C t (some b)))
def wd{P:Program}{w:World}{a:Hp}{h:Heap}{e dx:Addr}{o o1 o2:HO}(j:a e=none)(ne:dx≠e)(l:∀y,o2≠.own y)(m:∀i,o2≠.tup i)(g:iW P w (dB (dB (dB a e o1) dx o) e o2) h):iW P w (dB a dx o) h:=by
 have f:∀b,b≠e->dB (dB (dB a e o1) dx o) e o2 b=dB a dx o b:=λb d=>by
  rw[cN d];unfold dB;by_cases z:b=dx
  .rw[aP z,aP z]
  .rw[aQ z,aQ z,aQ d]
 intro b v q;have d:b≠e:=λz=>by rw[z,cN (Ne.symm ne),j]at q;cases q
 refine (g b v ((f b d).trans q)).stay (λ_ _ _ k=>k) (λc k=>?_) λc i k=>?_
 .by_cases z:c=e
  .subst z;rw[cL]at k;exact absurd (Option.some.inj k) (l _)
  .rw[<-f c z];exact k
 .by_cases z:c=e
  .subst z;rw[cL]at k;exact absurd (Option.some.inj k) (m _)
  .rw[<-f c z];exact k
section
variable {P:Program}{w:World}{K:W.Frag}{mg:Str->Option Value}{base:Heap}{N:List Str}{qual:Str}{scope:Scope}{f:Addr}{cd:Vq}{A:Around}{outer:List Env}{s₀:Sq}{H₀:Hp}{E:XK}
theorem sU{x g:Str}{C Y:Addr}{G bmN:List Vq}{B Bn newId nid initId inN:String}{np a pos:Pos}{d:Expr}{ta:TA}{k:Nat}{fd:FuncData}{ps:List Str}(ex:nsIn K mainGlobals x=some (some (.ref C)))(q:jK K C G newId=true)(R:pq K C "__init__" Y)
  (Fn:ExcBaseFacts Bn newId inN bmN) (hBn:G.contains (.type Bn)=true) (F:ExcBaseFacts B nid initId G) (FI:fw P w K mg base jR k Y fd ps (CQ K C g)) (hbI:fV K fd ps []) (hr:dy (k+1) (A.deeper (envOfC qual scope s₀.heap.objs.size f cd)))
  (ha:PA (dH (iq P w) P w K mg base N qual scope f cd A outer s₀ H₀ E) [d] ta)
  (hg:Gl (dH (iq P w) P w K mg base N qual scope f cd A outer s₀ H₀ E) x:=by rfl) (hdb:(x==("__debug__" : Str))=false:=by decide)
  (he:starEach [d] (envOfC qual scope s₀.heap.objs.size f cd)=[(false,eval d (envOfC qual scope s₀.heap.objs.size f cd))]:=by rfl) :
  PS (dH (iq P w) P w K mg base N qual scope f cd A outer s₀ H₀ E) (.Raise (some (.Call (.Name x np) [d] [] a)) none pos) (λ_ Z H=>ta Z H λvs m=>∃y,vs=[y]/\∀dx,m dx=none->E (.ref C) (some dx) (dB m dx (.xd [(g,y)]))):=by
 intro cD s Z H D I h;have X:=mg_of I.mod.kin I.mod.glob ex;obtain⟨bm,M,nm,qn,bs,hdct,sn,sub,ab,col,dd,k0,k1,k2,k3,k5,mN,hC,hN,hi,T⟩:=yk I.mod.kin q R.at_;obtain⟨oI,hoI,hcI⟩:∃oI,K.lookup Y=some oI/\oI.cls=.type "function" :=by have hI':(K.lookup Y).map (·.cls)=some (.type "function"):=beq_iff_eq.mp R.fn;exact Option.map_eq_some_iff.mp hI'
 refine qA (nm:=nm) (q:=qn) (N:=M) (bs:=bs) (hdct:=hdct) (sn:=sn) (sub:=sub) (ab:=ab) (col:=col) (dd:=dd) (k0:=k0) (k1:=k1) (k2:=k2) (k3:=k3) (k5:=k5)
  Fn hBn F (mN:=mN) (oI:=oI) (T.hasType F.hasBase) (I.ok.hd rfl) ?_ hi hcI (iJ I hg X ⟨rfl,?_⟩ hdb)
 .show (backTo a (starEach [d] (envOfC qual scope s₀.heap.objs.size f cd))).any (·.1)=false;rw[he];rfl
 .refine (?_:wpAny (model P w) _ (evalArgs (.ref C) true (backTo a (starEach [d] (envOfC qual scope s₀.heap.objs.size f cd))) []) _ _ s);have h3:wpAny (model P w) (dH (iq P w) P w K mg base N qual scope f cd A outer s₀ H₀ E).A (spliced (backTo a (starEach [d] (envOfC qual scope s₀.heap.objs.size f cd)))) _ _ s:=ha a cD s Z H _ I h;rw[he]at h3 ⊢;refine Calls.evalArgs_plain (ed h3 λus s2 ⟨vs,m,I1,r,y,ev,q1⟩=>⟨rfl,?_,I1.bk _ _ hC,hN.keeps I1.bk,T.keeps I1.bk,I1.kIn _ _ hoI,?_⟩)
  .show us.length<=sizeLine;rw[<-r.length,ev];show 1<=sizeLine;decide
  subst ev;obtain⟨u,rfl,ru⟩:=ky r;have e2:(fJ s2.heap C [u]).get? (s2.heap.objs.size+1)=some (ja C s2.heap.objs.size none):=by heap_get
  have et:(fJ s2.heap C [u]).get? s2.heap.objs.size=some {cls:=.type "tuple",data:=.seq [u].toArray}:=by heap_get
  have kk:∀b o,s2.heap.get? b=some o->(fJ s2.heap C [u]).get? b=some o:=λb o z=>ae _ (ae _ z);have fe:=I1.hok.fresh (bA s2.heap.objs.size);have ft:=I1.hok.fresh (aJ s2.heap.objs.size);have I2:cS (dH (iq P w) P w K mg base N qual scope f cd A outer s₀ H₀ E) cD Z (dB m (s2.heap.objs.size+1) (su (s2.heap.objs.size+1) C s2.heap.objs.size none)) {s2 with heap:=fJ s2.heap C [u]}:=I1.laid (t':=s2.toks) kk (bA _) (tM e2);have r2:c8 [V.ref (s2.heap.objs.size+1),y] [Value.ref (s2.heap.objs.size+1),u]:=.cons rfl r;let QQ:VK:=λv H2=>v=.non/\∃dx,m dx=none/\dx≠s2.heap.objs.size+1/\H2=dB (dB (dB m (s2.heap.objs.size+1) (su (s2.heap.objs.size+1) C s2.heap.objs.size none)) dx (.xd [(g,y)])) (s2.heap.objs.size+1) (su (s2.heap.objs.size+1) C s2.heap.objs.size (some dx));have U:CQ K C g [V.ref (s2.heap.objs.size+1),y] (dB m (s2.heap.objs.size+1) (su (s2.heap.objs.size+1) C s2.heap.objs.size none)) QQ E0:=⟨_,_,y,rfl,cL,λdx l=>by
   have ne:dx≠s2.heap.objs.size+1:=λz=>by rw[z,cL]at l;cases l
   rw[cN ne]at l;exact⟨rfl,dx,l,ne,rfl⟩⟩
  refine wpAny_call (codeAny_mono (FI.run _ (envOfC qual scope s₀.heap.objs.size f cd::outer) _ _ ⟨[.ref (s2.heap.objs.size+1),u],[]⟩ [.ref (s2.heap.objs.size+1),u] _ QQ E0 (hr.make C [u] []) (I2.env0.make C [u] []) (hbI _ [.ref (s2.heap.objs.size+1),u] I2.kIn (by rw[bz];exact (r2.length.symm.trans (FI.len _ _ _ _ U)))) r2 U) λr s' i=>?_);cases r with
  |error e=>exact i.elim
  |ok fl=>
   cases fl with
   |next=>exact False.elim i
   |brk=>exact False.elim i
   |cont=>exact False.elim i
   |ret uu=>
    obtain⟨v,H3,I3,rv,rfl,dx,l,ne,rfl⟩:=I2.after i;obtain⟨v',H3',hos,L,un,S,_,rfl,j,t,Q,rfl⟩:=i;obtain⟨eo,_,_⟩:=S (s2.heap.objs.size+1) _ cL;have p:=(Un.laid (fs:=hV (envOfC qual scope s₀.heap.objs.size f cd::outer)) (ex:=[]) (o:=su (s2.heap.objs.size+1) C s2.heap.objs.size none) kk (bA s2.heap.objs.size) fe).trans un;have nt:j≠s2.heap.objs.size:=λz=>by have:=un.free s2.heap.objs.size _ et (by rw[cN (aL (bw _))];exact ft) (by simp);rw[cN (aL (bw _)),z,cL]at this;cases this
    have nf:∀b o,s2.heap.get? b=some o->m b=none->b≠j:=λb o z n k=>by have:=p.free b o z n (by simp);rw[cN (aL (bT (aK z))),k,cL]at this;cases this
    have c:∀b v,m b=some v->dB m j (.xd [(g,y)]) b=some v:=λb v z=>by rw[cN (cX z t)];exact z
    refine⟨rv,⟨I3.bk _ _ hC,some j,eo⟩,qd (args:=[u]) I1 hos L I3.stack (Heap.get?_none_of_le (bA _)) (Heap.get?_none_of_le (aJ _)) eo ?_
     ⟨p.keep,p.slot,λb o z n hx=>by rw[cN (nf b o z n)];exact n,p.there,λb xs z=>c b _ z,λb o v z=>c b _ z,λb ps z=>⟨#[],by rw[c b _ z];simp⟩⟩ (wd fe Q (λ_ z=>by cases z) (λ_ z=>by cases z) S) (by rw[cN (Ne.symm Q)];exact fe) (by rw[cN (Ne.symm nt)];exact ft) (λb X=>?_) (q1 j t)⟩
    .have z:=un.keep s2.heap.objs.size _ et (by rw[cN (aL (bw _))];exact ft) (λhm=>?_) (by simp)
     .exact⟨_,_,z,rfl,rfl⟩
     .obtain⟨_,o',J,_⟩:=I1.stack.mem hm;exact absurd (aK J) (aZ _)
    .obtain⟨_,o',J,_⟩:=I1.stack.mem X;rw[cN (nf b o' J (I1.stkFree b X))];exact I1.stkFree b X
end
section
variable {prog:Program}{w:World}{A:Around}{E:Vq->Shared->Prop}{s:Sq}{K:Frag}{x D:Addr}{ox od:Obj}{name:Str}{v:Vq}
def zO{Q:Vq->Shared->Prop}{b:Bool}(X:K.In s.heap)(J:W.InstAt s.heap x ox D (some od))(C:jQ K D)(o:hasDictIn K D=true)(j:findIn K (.ref D) name=some none)(l:lookIn name od=some (some v))(q:handedIn v=true)
  (h:Q v {s with toks:=s.toks+1}):wpAny (model prog w) A (getAttr (.ref x) name b) Q E s:=by
 obtain⟨i,g,d,t,u⟩:=s;have I:lX x D i:=⟨_,J.at_,J.cls⟩;have n:=J.type (M:=model prog w);have f:=looks_findIn (M:=model prog w) X C.ga;have L2:=looks_findIn (M:=model prog w) X C.gt;have r:=looks_find (M:=model prog w) X J (findObj_own o j rfl l);have e:(Value.builtin "BaseException.__getattribute__" == Value.builtin "object.__getattribute__")=false:=by decide +kernel
 unfold getAttr getAttrBy;refine ao (wpAny_mkText (wpAny_holding (ao (n.at (ao (f.at ?_))))));dsimp only;rw[e];simp only[Bool.and_false,bQ,if_false];unfold getAttrByItsOwn hookBefore;rw[aP (show onTheHeap (Value.ref D)=true from rfl)];refine ao (L2.at (ao (wpAny_attempt (wpAny_holding ?_))));unfold callGetattribute boundAndCalled;rw[aQ (by cases b<;>decide)];have p:bindSpecial (.builtin "BaseException.__getattribute__") (.ref x)=pure (.builtin "BaseException.__getattribute__",[.ref x]):=by
  have c:withoutEnding? "BaseException.__getattribute__" "#opaque" = none:=by decide +kernel
  have a:withoutEnding? "BaseException.__getattribute__" "#data" = none:=by decide +kernel
  have m:builtinKind "BaseException.__getattribute__" = some .slot:=by decide +kernel
  simp only[bindSpecial,typeOf,builtinType,c,a,m];rfl
 rw[p];refine ao (ak ?_);have k:=X;refine wpAny_call (codeAny_call_builtin (by decide +kernel) F.entry_bexc_ga (mR k I C ?_));unfold Builtin.«object.__getattribute__»;(repeat lk);show wpAny _ _ (handedOut v) _ _ _;rw[handedOut_of q];exact ak h
end
section
variable {X:Cx}{pn:List (Addr×Obj)}{ea Ca:Addr}{oe:Obj}
def Bv(K:Frag)(ea Ca:Addr)(d:Oq Addr)(c:TE)(f:Str):TE:=λe H Q=>c e H λv a=>v=.ref ea/\jQ K Ca/\sC K Ca f/\∃b fs y,d=some b/\a b=some (.xd fs)/\fs.lookup f=some y/\Q y a
def t9{e:Expr}{f:Str}{i:Pos}{n:TE}{d:Oq Addr}(r:(ea,oe)∈pn)(k:oe.cls=.ref Ca)(l:oe.dict=d)(m:∃o,oe.data=.fields o)(B:PE (X.exc pn ea) e n)(t:attributeBase e f (X.exc pn ea).env (eval e (X.exc pn ea).env)=eval e (X.exc pn ea).env:=by rfl) :
  PE (X.exc pn ea) (.Attribute e f i) (Bv X.K ea Ca d n f):=by
 subst l;intro A s z H Q I h;refine q8 t (ed (B A s z H _ I h) λu s1 ⟨v,H1,I1,rv,ev,xc,xi,dx,fs,y,hd,hx,hl,q⟩=>?_);subst ev;obtain rfl:u=Value.ref ea:=rv;obtain⟨o,g⟩:=m;obtain⟨x,p,j⟩:=I1.hok dx _ hx;obtain⟨D,C,c⟩:=mn p;have hr:=j f;rw[hl]at hr;cases a:x f with
 |none=>rw[a]at hr;exact hr.elim
 |some w=>rw[a]at hr;have b:dC y w:=hr;refine zO I1.kIn (J:=⟨(I1.pin (ea,oe) (ax _ r)).1,k,by unfold notCls;rw[g],by rw[hd];exact C⟩) xc xi.hd xi.na (by rw[c,a]) (mq b) ⟨y,H1,I1.tok _,b,q⟩
theorem sd{x:Str}{st:Stmt}{N ps:List Str}{k:Nat}{p c:Pos}{a:Expr}{L:TA}{sp:List V->Hp->VK->Prop}(D:dq X.K X.mg x st)(S:dw N ps (cG st))(hr:dy (k+1) X.A)(Y:(ea,oe)∈pn)
  (hb:∀(kV i R:Vq) (P:Oq Addr) (b U:Vq) (us:List Vq),us.length=ps.length->bindArgs (W.fnOf x x (dM st) (cZ st) (cG st) .none kV i R P b U) ⟨us,[]⟩=pure (ps.zip us))
  (C:X.stack=X.env::X.outer) (y:X.env.frame=some X.env.locals) (hl:∀vs H Q,sp vs H Q->vs.length=ps.length)
  (d:∀(f:Addr) (b:Vq) (s:Sq) (H:Hp) (Q:VK) (vs:List V),sp vs H Q->∃t,jY ((dH jR X.prog X.w X.K X.mg X.base N x (cG st) f b X.A X.stack s H E0).exc [(ea,oe)] ea) (cZ st) t/\t {nx:=λ_ H'=>Q .non H',rt:=Q} (ee N vs) H)
  (ha:PA (X.exc pn ea) [a] L) (hg:Gl (X.exc pn ea) x) (v:(x==("__debug__" : Str))=false:=by decide) (he:starEach [a] X.env=(false,eval a X.env)::starEach [] X.env:=by rfl) (G:(backTo c (starEach [] X.env)).any (·.1)=false:=by rfl) :
  PE (X.exc pn ea) (.Call (.Name x p) [a] [] c) (λB H Q=>L B H λvs n=>sp vs n Q):=by
 intro cD s B H Q I h;obtain⟨f,fd,F,m⟩:=D.ex;have FB:=F.binds hb;have kp:=F.kp;obtain⟨oc,od,kV,i,R,P,b,U,osl,rfl,lk,J⟩:=F.ex;refine wpAny_Call_Name_kw (iJ I hg m ?_ v);refine W.callWith_K I.ok.mod.kin kp (ed (ha c cD s B H _ I h) λus s1 ⟨vs,n,I1,r,q⟩=>⟨I1.kIn,?_⟩) he G;obtain⟨g1,g2,g3,g4,Z⟩:=I1.pin (ea,oe) (ax _ Y);have hf:ea∉hV X.stack:=λz=>by
  rw[C]at z;have z':ea∈X.env.locals::hV X.outer:=by simpa[hV,y] using z
  rcases aE.mp z' with w|w
  .exact g3 w
  .exact g4 w
 have e0:nq X.prog X.w X.K X.mg X.base X.A X.stack s1 n:=⟨I1.env0.frames,I1.env0.mod,I1.env0.bs,I1.env0.bsz,I1.env0.funs,I1.env0.frf,I1.env0.hok,I1.env0.bare⟩;have j:=hl _ _ _ q;have o:us.length=ps.length:=r.length.symm.trans j;have g:=FB s1 us I1.kIn (by rw[bz];exact o);rw[bz]at g;refine wpAny_call (codeAny_mono (zJ (CX:=jR) (E:=E0) (ea:=ea) (oe:=oe) lk J S (vs:=vs) j hr e0 g r g1 g2 hf Z (d f b s1 n Q vs q)) λr s' l=>?_);cases r with
 |error e=>exact l.elim
 |ok fl=>
  cases fl with
  |ret u=>exact I1.after l
  |next=>exact False.elim l
  |brk=>exact False.elim l
  |cont=>exact False.elim l
end
end L2
namespace Cu
open PySem PyProof.Rows
open PySem.Builtin.Int (intBits)
def noPy(h:intBits y<=m)(c:m<=8000):PySem.Builtin.divisionGoesByPylong x y=false:=by
 refine PyProof.noPylong_of_log2 ?_;rcases Nat.eq_zero_or_pos y.natAbs with b|a
 .rw[b];decide
 .refine (Nat.log2_lt (bp a)).mpr ?_;exact lt_pow_of_bits h (by omega)
end Cu
namespace L2
open PySem PySem.Spec PyProof.Rows
def uv:e8 X (.builtin "isinstance") (λa H Q=>∃x T t b,a=[x,.ty T]/\iw X.K H x t/\W.kitOne X.K t (.type T)=some b/\Q (.bl b) H):=by
 intro g s f H a i Q I r h;obtain⟨x,T,t,b,rfl,d,e,q⟩:=h;cases r with
 |cons r1 r2=>
  cases r2 with
  |cons r3 r4=>cases r4;cases (r3);exact sW I r1 d e λc=>⟨.bl b,H,I.tok c,rfl,q⟩
def m3:bootBuiltins "isinstance" = some (.builtin "isinstance"):=by decide +kernel
def nO:bootBuiltins "int" = some (.type "int"):=by decide +kernel
def nP:bootBuiltins "bool" = some (.type "bool"):=by decide +kernel
def e7:bootBuiltins "tuple" = some (.type "tuple"):=by decide +kernel
def fU:bootBuiltins "len" = some (.builtin "len"):=by decide +kernel
end L2
namespace L2
open PySem PySem.W PySem.Spec PyProof.Rows
def sH{l:W.OpenLaw}{n k:Nat}{q:Program}{i:List Str}{XP:(Str->Option Value)->Heap->Prop}{S:World->Heap->Prop}{d:DefRec}{K:Params->W.Frag}{CX:wy}{sp:W.Frag->Sp}{x:Str}
  (hn:l.most=some n) (I:n<=sizeLine) (J:d.params.defaults=[]) (hr:dy k callerA)
  (hY:∀(w:World) (h:Heap),S w h->(K w.params).In h)
  (F:∀(w:World) (j:Str->Option Value) (A:Addr) (h:Heap),(K w.params).In h->h.Ns mainGlobals j->j d.name=some (.ref A)->
   ∃fd:FuncData,(∀(s:Sq) (u:Vq),BindsTo s fd ⟨[u],[]⟩ [(x,u)])/\
    ∀base:Heap,(K w.params).In base->base.Ns mainGlobals j->fw l.prog w (K w.params) j base CX k A fd [x] (sp (K w.params)))
  (E:∀(K:W.Frag) (H:Hp) (a:Addr) (ns:LI),ns.length<=n->(∀z∈ns,PySem.Builtin.Int.intBits z<=2 ^ 20)->Aq H->fQ K H a (ns.map V.int)->sp K [.ref a] H (λv _=>v=.bl true) λ_ _ _=>False)
  (P:∀(H:Hp) (s:Sq) (e:Vq) (B:Sq),CX [] H s (λ_ _ _=>False) e B->False) :
  W.WalkO q i XP S l.row.toRowW d [] (λf vs=>PySem.call f vs):=by
 intro w U t j mb G Y A o pm cd doc dV kV ho hd hcd Q L hg Z vals as p m hrd C hlo;obtain rfl:dV=.none:=Dflts.none Q J;obtain rfl:kV=.none:=Dflts.noKw Q;obtain⟨a,vs,ns,rfl,rfl,y,c,R⟩:=Att.script_of hn p C;have hb:∀z∈ns,PySem.Builtin.Int.intBits z<=2 ^ 20:=λz hz=>by have h1:=(layW_cons m).1;have N:=layableW_item h1 (WData.int z) (aC.mpr ⟨z,hz,rfl⟩);exact PyData.bits_of_layable (layable_int N)
 have X:=hY w _ Y;obtain⟨fd,D,hF⟩:=F w j A _ X G.T.g L;refine enter_call (codeAny_mono (uj X G.T.g G.T.b G.T.builtins G.T.nolimit hg y c (aM R I) hr hF D (λH hO hS=>E _ H a ns R hb hO hS) λH e B=>P H t e B) λr B hq=>?_);obtain⟨rfl,N,h3,h4⟩:=hq;exact⟨.inl ⟨.bool true,.bool true,[],rfl,λ_=>rfl,.bool true,Att.post_true l _,λ_=>⟨List.Pairwise.nil,λ_ hm=>(nomatch hm)⟩⟩,N,h3,h4⟩
end L2
namespace C4
def Dz(c e:LI):Prop:=∀i j,i<c.length->j<c.length->c.getD i 0*e.getD j 0=c.getD j 0*e.getD i 0
def par_of_place(b:c.getD p 0≠0)(h:∀i,i<c.length->c.getD i 0*e.getD p 0=e.getD i 0*c.getD p 0):Dz c e:=λi j a k=>by have g:=h i a;have l:=h j k;refine Int.eq_of_mul_eq_mul_right b ?_;have d:c.getD i 0*e.getD j 0*c.getD p 0=c.getD i 0*(e.getD j 0*c.getD p 0):=b8 _ _ _;have f:c.getD j 0*e.getD i 0*c.getD p 0=c.getD j 0*(e.getD i 0*c.getD p 0):=b8 _ _ _;rw[d,f,<-g,<-l,<-b8,<-b8,b9 (c.getD i 0) (c.getD j 0)]
end C4
namespace L3
open PySem L2
inductive T where
 |non|bl (b:Bool)|int (i:Int)|str (x:Str)
 |tup (ts:List T)|lst (ts:List T)|scr (ns:LI)
 |obj (C:Addr) (fs:List (Str×T))|emp
 |dic (kvs:List (LI×T))
inductive M(α:Type) where
 |bad|ok (a:α)|er (C:Addr) (n:Oq Int)
namespace M
noncomputable def bind{c b:Type}(m:M c)(k:c->M b):M b:=match m with
 |.bad=>.bad
 |.ok a=>k a
 |.er C n=>.er C n
instance:Monad M where
 pure:=.ok
 bind:=M.bind
noncomputable def res{b:Type}(m:M b)(P:b->Prop)(E:Addr->Option Int->Prop):Prop:=match m with
 |.bad=>False
 |.ok a=>P a
 |.er C n=>E C n
def res.unb{m:M α}{k:α->M β}{P:β->Prop}(h:res (m.bind k) P E):res m (λa=>res (k a) P E) E:=by cases m<;>exact h
def res.mono{m:M α}{P b:α->Prop}(h:res m P E)(c:∀a,P a->b a)(d:∀C n,E C n->E' C n):res m b E':=by
 cases m with
 |bad=>exact h
 |ok a=>exact c a h
 |er C n=>exact d C n h
noncomputable def noEr{a:Type}(m:M a):M a:=match m with
 |.er _ _=>.bad
 |m=>m
def res.noEr{m:M α}{P:α->Prop}(h:res m.noEr P E):res m P E':=by
 cases m with
 |bad=>exact h
 |ok a=>exact h
 |er C n=>exact h.elim
@[simp] theorem bind_ok a (k:α->M β):M.bind (.ok a) k=k a:=rfl
@[simp] theorem Bk(k:α->M β):M.bind (.bad:M α) k=.bad:=rfl
@[simp] theorem Cg C n (k:α->M β):M.bind (.er C n:M α) k=.er C n:=rfl
noncomputable def NoE{a:Type}(m:M a):Prop:=∀C n,m≠.er C n
def res.ne{m:M α}{P:α->Prop}(h:res m P E)(ne:NoE m):res m P E':=by
 cases m with
 |bad=>exact h
 |ok a=>exact h
 |er C n=>exact absurd rfl (ne C n)
@[simp] theorem noEr_ok(a:α):noEr (.ok a)=.ok a:=rfl
end M
mutual
inductive eR(K:W.Frag)(F:Hp):V->T->Prop
 |non:eR K F .non .non
 |bl (b:Bool):eR K F (.bl b) (.bl b)
 |int (i:Int):eR K F (.int i) (.int i)
 |str (x:Str):eR K F (.str x) (.str x)
 |tup {a:Addr} {xs:List V} {ts:List T} (h:F a=some (.tup xs)) (r:cW K F xs ts):eR K F (.ref a) (.tup ts)
 |lst {a:Addr} {xs:List V} {ts:List T} (h:F a=some (.lst xs)) (r:cW K F xs ts):eR K F (.ref a) (.lst ts)
 |scr {a:Addr} {ns:LI} (h:fQ K F a (ns.map V.int)):eR K F (.ref a) (.scr ns)
 |obj {a C dx:Addr} {fs:List (Str×V)} {ts:List (Str×T)} (h:F a=some (.ins C dx fs)) (r:gP K F fs ts):eR K F (.ref a) (.obj C ts)
 |emp {a:Addr} (h:F a=some (.dK [])):eR K F (.ref a) .emp
 |dic {a:Addr} {xs:List (List ke×V)} {kvs:List (LI×T)} (h:F a=some (.dT xs)) (r:nQ K F xs kvs):eR K F (.ref a) (.dic kvs)
inductive cW(K:W.Frag)(F:Hp):List V->List T->Prop
 |nil:cW K F [] []
 |cons {v:V} {t:T} {vs:List V} {ts:List T} (h:eR K F v t) (r:cW K F vs ts):cW K F (v::vs) (t::ts)
inductive gP(K:W.Frag)(F:Hp):List (Str×V)->List (Str×T)->Prop
 |nil:gP K F [] []
 |cons {x:Str} {v:V} {t:T} {vs:List (Str×V)} {ts:List (Str×T)} (h:eR K F v t) (r:gP K F vs ts):gP K F ((x,v)::vs) ((x,t)::ts)
inductive nQ(K:W.Frag)(F:Hp):List (List ke×V)->List (LI×T)->Prop
 |nil:nQ K F [] []
 |cons {k:LI} {v:V} {t:T} {vs:List (List ke×V)} {ts:List (LI×T)} (h:eR K F v t) (r:nQ K F vs ts):nQ K F ((k.map Sum.inl,v)::vs) ((k,t)::ts)
end
section
variable {K:W.Frag}{F F':Hp}
mutual
theorem eR.mono(s:cT F F'):∀{v} {t},eR K F v t->eR K F' v t
 |_,_,.non=>.non
 |_,_,.bl b=>.bl b
 |_,_,.int i=>.int i
 |_,_,.str x=>.str x
 |_,_,.tup h r=>.tup (s _ _ h) (cW.mono s r)
 |_,_,.lst h r=>.lst (s _ _ h) (cW.mono s r)
 |_,_,.scr h=>.scr (s.seq h)
 |_,_,.obj h r=>.obj (s _ _ h) (gP.mono s r)
 |_,_,.emp h=>.emp (s _ _ h)
 |_,_,.dic h r=>.dic (s _ _ h) (nQ.mono s r)
theorem cW.mono(s:cT F F'):∀{vs} {ts},cW K F vs ts->cW K F' vs ts
 |_,_,.nil=>.nil
 |_,_,.cons h r=>.cons (eR.mono s h) (cW.mono s r)
theorem gP.mono(s:cT F F'):∀{vs} {ts},gP K F vs ts->gP K F' vs ts
 |_,_,.nil=>.nil
 |_,_,.cons h r=>.cons (eR.mono s h) (gP.mono s r)
theorem nQ.mono(s:cT F F'):∀{vs} {ts},nQ K F vs ts->nQ K F' vs ts
 |_,_,.nil=>.nil
 |_,_,.cons h r=>.cons (eR.mono s h) (nQ.mono s r)
end
theorem cW.length:∀{vs} {ts},cW K F vs ts->vs.length=ts.length
 |_,_,.nil=>rfl
 |_,_,.cons _ r=>by rw[ay,ay,cW.length r]
theorem cW.get:∀{vs:List V} {ts:List T} {i:Nat} {t:T},cW K F vs ts->ts[i]? = some t->∃v,vs[i]? = some v/\eR K F v t
 |_,_,_,_,.nil,e=>by simp at e
 |_,_,0,_,.cons h _,e=>by simp at e;subst e;exact⟨_,rfl,h⟩
 |_,_,i+1,_,.cons _ r,e=>by obtain⟨v,a,h⟩:=cW.get r (by simpa using e);exact⟨v,by simpa using a,h⟩
def cW.at_{i:Nat}(r:cW K F vs ts)(e:vs[i]? = some v):∃t,ts[i]? = some t/\eR K F v t:=by
 have a:i<ts.length:=by rw[<-r.length];exact (aa.mp e).1
 obtain⟨c,b,h⟩:=r.get (ag a);rw[e]at b;cases b;exact⟨_,ag a,h⟩
theorem cW.append:∀{vs us} {ts ss},cW K F vs ts->cW K F us ss->cW K F (vs++us) (ts++ss)
 |_,_,_,_,.nil,q=>q
 |_,_,_,_,.cons h r,q=>.cons h (cW.append r q)
theorem cW.set(q:eR K F v t):∀{vs} {ts} i,cW K F vs ts->cW K F (vs.set i v) (ts.set i t)
 |_,_,_,.nil=>.nil
 |_,_,0,.cons _ r=>.cons q r
 |_,_,i+1,.cons h r=>.cons h (cW.set q i r)
theorem cW.take:∀{vs} {ts} n,cW K F vs ts->cW K F (vs.take n) (ts.take n)
 |_,_,0,_=>.nil
 |_,_,_+1,.nil=>.nil
 |_,_,n+1,.cons h r=>.cons h (cW.take n r)
theorem cW.drop:∀{vs} {ts} n,cW K F vs ts->cW K F (vs.drop n) (ts.drop n)
 |_,_,0,r=>r
 |_,_,_+1,.nil=>.nil
 |_,_,n+1,.cons _ r=>cW.drop n r
theorem cW.rep:∀{vs} {ts} n,cW K F vs ts->cW K F (List.replicate n vs).flatten (List.replicate n ts).flatten
 |_,_,0,_=>.nil
 |_,_,n+1,r=>by rw[bJ,bJ,bK,bK];exact r.append (cW.rep n r)
theorem cW.ints:∀{vs:List V} {ns:LI},cW K F vs (ns.map T.int)->vs=ns.map V.int
 |_,[],.nil=>rfl
 |_,_::_,.cons h r=>by cases h;rw[cW.ints r];rfl
theorem cW.bls:∀{vs:List V} {ns:List Bool},cW K F vs (ns.map T.bl)->vs=ns.map V.bl
 |_,[],.nil=>rfl
 |_,_::_,.cons h r=>by cases h;rw[cW.bls r];rfl
theorem cW.of_ints:∀(ns:LI),cW K F (ns.map V.int) (ns.map T.int)
 |[]=>.nil
 |n::ns=>.cons (.int n) (cW.of_ints ns)
theorem gP.look:∀{fs} {ts},gP K F fs ts->ts.lookup f=some t->∃v,fs.lookup f=some v/\eR K F v t
 |_,_,.nil,e=>by cases e
 |_,_,.cons (x:=x) h r,e=>by
  by_cases b:f=x
  .subst b;rw[cf]at e;cases e;exact⟨_,cf,h⟩
  .have a:(f==x)=false:=by simpa using b
   rw[bR,a]at e;obtain⟨v,d,c⟩:=gP.look r e;exact⟨v,by rw[bR,a];exact d,c⟩
theorem gP.none_:∀{fs} {ts},gP K F fs ts->ts.lookup f=none->fs.lookup f=none
 |_,_,.nil,e=>rfl
 |_,_,.cons (x:=x) h r,e=>by
  by_cases a:f=x
  .subst a;rw[cf]at e;cases e
  .have b:(f==x)=false:=by simpa using a
   rw[bR,b]at e ⊢;exact gP.none_ r e
end
structure Gr(F H F' H':Hp):Prop where
 ff:cT F F'
 fh:cT F' H'
 hh:cT H H'
 nw:∀a,F' a≠none->F a≠none\/H a=none\/∃xs,H a=some (.tup xs)
def Gr.refl(h:cT F H):Gr F H F H:=⟨.refl _,h,.refl _,λ_ h=>.inl h⟩
def c9(h:cT H H')(e:H' a=none):H a=none:=by
 cases q:H a with
 |none=>rfl
 |some o=>rw[h a o q]at e;cases e
def Gr.trans(g:Gr F H F' H')(g':Gr F' H' F'' H''):Gr F H F'' H'':=
 ⟨g.ff.trans g'.ff,g'.fh,g.hh.trans g'.hh,λa b=>by
  rcases g'.nw a b with q|q|⟨c,q⟩
  .exact g.nw a q
  .exact .inr (.inl (c9 g.hh q))
  .cases z:H a with
   |none=>exact .inr (.inl rfl)
   |some o=>exact .inr (.inr ⟨c,by rw[g.hh a o z]at q;exact q⟩)⟩
def Gr.new(s:cT F H)(h:H p=none):Gr F H (dB F p o) (dB H p o):=by
 have c:=c9 s h;refine⟨λb u e=>?_,λb u e=>?_,λb u e=>?_,λb a=>?_⟩
 .rw[cN (cX e c)];exact e
 .by_cases q:b=p
  .subst q;rw[cL]at e ⊢;exact e
  .rw[cN q]at e ⊢;exact s b u e
 .rw[cN (cX e h)];exact e
 .by_cases q:b=p
  .subst q;exact .inr (.inl h)
  .rw[cN q]at a;exact .inl a
def Gr.new'(s:cT F H)(h:H p=none):Gr F H F (dB H p o):=by
 refine⟨.refl _,λb u e=>?_,λb u e=>?_,λb a=>.inl a⟩
 .rw[cN (cX (s b u e) h)];exact s b u e
 .rw[cN (cX e h)];exact e
def Gr.take(g:Gr F0 H0 F H)(h:H p=some o)(c:F p=none)(d:H0 p=none):Gr F0 H0 (dB F p o) H:=by
 refine⟨λb u e=>?_,λb u e=>?_,g.hh,λb a=>?_⟩
 .rw[cN (cX (g.ff b u e) c)];exact g.ff b u e
 .by_cases q:b=p
  .subst q;rw[cL]at e;rw[<-e];exact h
  .rw[cN q]at e;exact g.fh b u e
 .by_cases q:b=p
  .subst q;exact .inr (.inl d)
  .rw[cN q]at a;exact g.nw b a
def gK(a:F p=none):cT F (dB F p o):=λb u e=>by rw[cN (cX e a)];exact e
abbrev Pe:=List (Option T)
section
variable (K:W.Frag)
def fy(F:Hp)(a:St)(ρ:Pe):Prop:=∀(i:Nat) (t:T),ρ[i]? = some (some t)->∃v,a[i]? = some (some v)/\eR K F v t
def fy.mono{K:W.Frag}(h:fy K F σ ρ)(s:cT F F'):fy K F' σ ρ:=λi t e=>let ⟨v,a,b⟩:=h i t e;⟨v,a,b.mono s⟩
def DD(E:XK)(C:Addr)(n:Oq Int)(F H:Hp):Prop:=match n with
 |none=>E (.ref C) none H
 |some i=>∀a,F a=some (.xd [("at",.int i)])->E (.ref C) (some a) H
def kE(E:XK)(F H:Hp)(C:Addr)(n:Oq Int):Prop:=∀a b,Gr F H a b->DD E C n a b
def kE.go(h:kE E F H C n)(g:Gr F H F1 H1):kE E F1 H1 C n:=λb c a=>h b c (g.trans a)
def kV(F H:Hp)(Q:VK)(t:T):Prop:=∀v a b,Gr F H a b->eR K a v t->Q v b
def kB(F H:Hp)(Q:Bool->Hp->Prop)(b:Bool):Prop:=∀c a,Gr F H c a->Q b a
def kA(F H:Hp)(Q:List V->Hp->Prop)(ts:List T):Prop:=∀a c b,Gr F H c b->cW K c a ts->Q a b
def kF(F H:Hp)(Q:VK)(ts:List T):Prop:=∀l c b a,Gr F H b a->H l=none->b l=none->a l=some (.lst c)->cW K b c ts->Q (.ref l) a
noncomputable def ME(E:XK)(t:TE)(f:Pe->M T):Prop:=∀F H b a Q,cT F H->fy K F b a->(f a).res (kV K F H Q) (kE E F H)->t b H Q
noncomputable def MT(E:XK)(t:TT)(f:Pe->M Bool):Prop:=∀F H b a Q,cT F H->fy K F b a->(f a).res (kB F H Q) (kE E F H)->t b H Q
noncomputable def MA(E:XK)(t:TA)(f:Pe->M (List T)):Prop:=∀F H b a Q,cT F H->fy K F b a->(f a).res (kA K F H Q) (kE E F H)->t b H Q
noncomputable def MF(E:XK)(t:TE)(f:Pe->M (List T)):Prop:=∀F H b a Q,cT F H->fy K F b a->(f a).res (kF K F H Q) (kE E F H)->t b H Q
end
section
variable {K:W.Frag}{E:XK}{t u ta tb:TE}{f g fa fb:Pe->M T}
def kV.go{t:T}(h:kV K F H Q t)(g:Gr F H F1 H1):kV K F1 H1 Q t:=λv b c a r=>h v b c (g.trans a) r
def kB.go{t:Bool}(h:kB F H Q t)(g:Gr F H F1 H1):kB F1 H1 Q t:=λb c a=>h b c (g.trans a)
def kF.go{t:List T}(h:kF K F H Q t)(g:Gr F H F1 H1):kF K F1 H1 Q t:=λl e j k i a b c d=>h l e j k (g.trans i) (c9 g.hh a) b c d
def kV.now{t:T}(h:kV K F H Q t)(s:cT F H)(r:eR K F v t):Q v H:=h v F H (.refl s) r
def kF.of(h:kV K F H Q (.lst ts)):kF K F H Q ts:=λl c e i g d b a r=>h (.ref l) (dB e l (.lst c)) i (g.take a b d) (.lst cL (r.mono (gK b)))
def MF.me{f:Pe->M (List T)}(h:MF K E t f):ME K E t (λρ=>(f ρ).bind λts=>.ok (.lst ts)):=λF H a ρ Q s V r=>h F H a ρ Q s V ((M.res.unb r).mono (λts q=>kF.of q) λ_ _ z=>z)
def ME.run{k:T->M α}{P:α->Prop}(h:ME K E t f)(s:cT F H)(v:fy K F σ ρ)(r:((f ρ).bind k).res P (kE E F H))
  (c:∀x w a b,Gr F H a b->eR K a w x->(k x).res P (kE E a b)->Q w b):t σ H Q:=
 h F H σ ρ Q s v ((M.res.unb r).mono (λx q w a b g d=>c x w a b g d (q.mono (λ_ z=>z) λ_ _ z=>z.go g)) λ_ _ z=>z)
def MT.run{t:TT}{f:Pe->M Bool}{k:Bool->M α}{P:α->Prop}(h:MT K E t f)(s:cT F H)(v:fy K F σ ρ)(r:((f ρ).bind k).res P (kE E F H))
  (c:∀x b a,Gr F H b a->(k x).res P (kE E b a)->Q x a):t σ H Q:=
 h F H σ ρ Q s v ((M.res.unb r).mono (λx q b a g=>c x b a g (q.mono (λ_ z=>z) λ_ _ z=>z.go g)) λ_ _ z=>z)
def MA.run{t:TA}{f:Pe->M (List T)}{k:List T->M α}{P:α->Prop}(h:MA K E t f)(s:cT F H)(v:fy K F σ ρ)(r:((f ρ).bind k).res P (kE E F H))
  (c:∀x w a b,Gr F H a b->cW K a w x->(k x).res P (kE E a b)->Q w b):t σ H Q:=
 h F H σ ρ Q s v ((M.res.unb r).mono (λx q w a b g d=>c x w a b g d (q.mono (λ_ z=>z) λ_ _ z=>z.go g)) λ_ _ z=>z)
@[simp] noncomputable def cE(i:Nat):Pe->M T:=λa=>match a[i]? with
 |some (some t)=>.ok t
 |_=>.bad
def zY:ME K E (f7 i) (cE i):=λF H c b Q s V r=>by
 unfold cE at r;split at r
 .rename_i t e;obtain⟨v,a,h⟩:=V i t e;exact⟨v,a,r.now s h⟩
 .exact r.elim
@[simp] noncomputable def cM(t:T):Pe->M T:=λ_=>.ok t
def tF{t:T}(h:∀F,eR K F v t):ME K E (tC v) (cM t):=λF H b a Q s V r=>kV.now r s (h F)
@[simp] noncomputable def c6(o:T->T->M T)(fa fb:Pe->M T):Pe->M T:=λa=>(fa a).bind λx=>(fb a).bind λy=>o x y
structure MR(K:W.Frag)(r:R2)(o:T->T->M T):Prop where
 ne:∀x y,M.NoE (o x y)
 ok:∀F H v w x y Q,cT F H->eR K F v x->eR K F w y->(o x y).res (kV K F H Q) (λ_ _=>False)->r v w H Q
def rP(hr:MR K r o)(e:ME K E ta fa)(c:ME K E tb fb):ME K E (lQ r ta tb) (c6 o fa fb):=λF H A m Q s V q=>by refine e.run s V q λx v n p b k j=>?_;refine c.run b.fh (V.mono b.ff) j λy w h l a d i=>?_;exact hr.ok h l v w x y Q a.fh (k.mono a.ff) d ((i.ne (hr.ne x y)).mono (λ_ z=>z.go (b.trans a)) λ_ _ z=>z)
noncomputable def eT(C:Int->Int->Bool)(g:Int->Int->T):T->T->M T
 |.int i,.int j=>if C i j then .ok (g i j) else .bad
 |_,_=>.bad
def pb{g:Int->Int->T} x y:M.NoE (eT C g x y):=λa n=>by
 unfold eT;split
 .split<;>exact λz=>nomatch z
 .exact λz=>nomatch z
def eR.int_inv(h:eR K F v (.int i)):v=.int i:=by cases h;rfl
def eR.lst_inv(h:eR K F v (.lst ts)):∃a b,v=.ref a/\F a=some (.lst b)/\cW K F b ts:=by cases h;exact⟨_,_,rfl,‹_›,‹_›⟩
def eR.tup_inv(h:eR K F v (.tup ts)):∃a b,v=.ref a/\F a=some (.tup b)/\cW K F b ts:=by cases h;exact⟨_,_,rfl,‹_›,‹_›⟩
def nz{g:Int->Int->V}(c:∀i j,Cb i j=true->C i j)(d:∀F i j,eR K F (g i j) (gt i j)):MR K (rI C g) (eT Cb gt):=⟨pb,λF H v w x y Q s a b q=>by
 unfold eT at q;split at q
 .rename_i i j;rw[a.int_inv,b.int_inv];by_cases h:Cb i j=true
  .rw[aP h]at q;exact⟨i,j,rfl,rfl,c i j h,kV.now q s (d F i j)⟩
  .rw[aQ h]at q;exact q.elim
 .exact q.elim⟩
def ko{g:Int->Int->V}(c:∀F i j,eR K F (g i j) (gt i j)):MR K (sY g) (eT (λ_ _=>true) gt):=⟨pb,λF H v w x y Q s a b q=>by
 unfold eT at q;split at q
 .rw[a.int_inv,b.int_inv];exact⟨_,_,rfl,rfl,kV.now q s (c F _ _)⟩
 .exact q.elim⟩
@[simp] noncomputable def l7(o:Int->T)(fa:Pe->M T):Pe->M T:=λa=>(fa a).bind λx=>match x with
 |.int i=>.ok (o i)
 |_=>.bad
def BQ{g:Int->V}(h:∀F i,eR K F (g i) (gt i))(c:ME K E ta fa):ME K E (Di (rU g) ta) (l7 gt fa):=λF H l k Q s V q=>by
 refine c.run s V q λx v a d e j b=>?_;cases j<;>first
  |exact b.elim
  |exact⟨_,rfl,b _ a d e (h a _)⟩
@[simp] noncomputable def dU(fa:Pe->M T):Pe->M Bool:=λa=>(fa a).bind λx=>match x with
 |.bl b=>.ok b
 |_=>.bad
def xZ(b:ME K E ta fa):MT K E (tB ta) (dU fa):=λF H j i Q s V q=>by
 refine b.run s V q λx v h c d e a=>?_;cases e<;>first
  |exact a.elim
  |exact⟨_,rfl,a h c d⟩
def wN(a:ME K E ta fa):MT K E (pI ta) (dU fa):=xZ a
section
variable {c d:TT}{fc fd:Pe->M Bool}
@[simp] noncomputable def qG(fc fd:Pe->M Bool):Pe->M Bool:=λa=>(fc a).bind λb=>if b then fd a else .ok false
@[simp] noncomputable def ll(fc fd:Pe->M Bool):Pe->M Bool:=λa=>(fc a).bind λb=>if b then .ok true else fd a
@[simp] noncomputable def gR(fc:Pe->M Bool):Pe->M Bool:=λa=>(fc a).bind λb=>.ok (!b)
def zW(j:MT K E c fc)(l:MT K E d fd):MT K E (xh c d) (qG fc fd):=λF H m k Q s V q=>by
 refine j.run s V q λb i e a h=>?_;cases b with
 |true=>rw[aP rfl];exact l i e m k Q a.fh (V.mono a.ff) (h.mono (λ_ z=>z.go a) λ_ _ z=>z)
 |false=>rw[aQ aG];exact h i e a
def Bx(j:MT K E c fc)(l:MT K E d fd):MT K E (CU c d) (ll fc fd):=λF H m k Q s V q=>by
 refine j.run s V q λb i e a h=>?_;cases b with
 |true=>rw[aP rfl];exact h i e a
 |false=>rw[aQ aG];exact l i e m k Q a.fh (V.mono a.ff) (h.mono (λ_ z=>z.go a) λ_ _ z=>z)
def Ac(e:MT K E c fc):MT K E (xy c) (gR fc):=λF H l k Q s V q=>by refine e.run s V q λb j a i h=>?_;exact h j a i
end
@[simp] noncomputable def tz(fa fb:Pe->M T):Pe->M T:=λa=>(dU fa a).bind λb=>if b then fb a else .ok (.bl false)
@[simp] noncomputable def pT(fa:Pe->M T):Pe->M T:=λa=>(dU fa a).bind λb=>.ok (.bl (!b))
def ym(i:ME K E ta fa)(h:ME K E tb fb):ME K E (uh ta tb) (tz fa fb):=λF H k j Q s V q=>by
 refine (xZ i).run s V q λb e c a d=>?_;cases b with
 |true=>rw[aP rfl];exact h e c k j Q a.fh (V.mono a.ff) (d.mono (λ_ z=>z.go a) λ_ _ z=>z)
 |false=>rw[aQ aG];exact d _ e c a (.bl _)
def xN(a:ME K E ta fa):ME K E (uJ ta) (pT fa):=λF H j i Q s V q=>by refine (xZ a).run s V q λb h c e d=>?_;exact d _ h c e (.bl _)
@[simp] noncomputable def cC(fa:Pe->M T)(c:Pe->M (List T)):Pe->M (List T):=λa=>(fa a).bind λx=>(c a).bind λb=>.ok (x::b)
@[simp] noncomputable def cF:Pe->M (List T):=λ_=>.ok []
def uW:MA K E jo cF:=λF H b a Q s V q=>q [] F H (.refl s) .nil
def xl{d:TA}{b:Pe->M (List T)}(h:ME K E ta fa)(hr:MA K E d b):MA K E (fj ta d) (cC fa b):=λF H y p Q s V q=>by refine h.run s V q λx v r w a m k=>?_;refine hr.run a.fh (V.mono a.ff) k λo l i n c e j=>?_;exact j (v::l) i n (a.trans c) (.cons (m.mono c.ff) e)
@[simp] noncomputable def vV(ts:List T):M (List T):=if ts.length<=sizeLine then .ok ts else .bad
@[simp] noncomputable def ie(c:Pe->M (List T)):Pe->M T:=λb=>(c b).bind λa=>(vV a).bind λa=>.ok (.tup a)
@[simp] noncomputable def lstM(b:Pe->M (List T)):Pe->M (List T):=λa=>(b a).bind vV
def Ar{e:TA}{c:Pe->M (List T)}(hr:MA K E e c):ME K E (xb e) (ie c):=λF H n k Q s V q=>by
 refine hr.run s V q λj o l m b i a=>?_;unfold vV at a;by_cases h:j.length<=sizeLine
 .rw[aP h]at a;refine⟨by rw[i.length];exact h,λp d=>?_⟩;exact a (.ref p) _ _ (b.trans (.new b.fh d)) (.tup cL (i.mono (Gr.new b.fh d).ff))
 .rw[aQ h]at a;exact a.elim
def zH{e:TA}{d:Pe->M (List T)}(hr:MA K E e d):MF K E (Ai e) (lstM d):=λF H o m Q s V q=>by
 refine hr.run s V q λj l k n b i a=>?_;unfold vV at a;by_cases h:j.length<=sizeLine
 .rw[aP h]at a;refine⟨by rw[i.length];exact h,λp c=>?_⟩;exact a p l k _ (b.trans (.new' b.fh c)) (c9 b.hh c) (c9 b.fh c) cL i
 .rw[aQ h]at a;exact a.elim
end
end L3
namespace L3
open PySem L2
inductive W where
 |p (t:T)|o (ts:List T)|d (kvs:List (LI×T))
abbrev En:=List (Option W)
@[simp] def C1:Oq W->Option T
 |some (.p t)=>some t
 |_=>none
@[simp] def Dj:Oq W->Option T
 |some (.p t)=>some t
 |some (.o ts)=>some (.lst ts)
 |_=>none
@[simp] noncomputable def lP(ρ:En):Pe:=ρ.map C1
@[simp] noncomputable def vw(ρ:En):Pe:=ρ.map Dj
mutual
@[simp] noncomputable def lf:T->Bool
 |.lst _=>false
 |.scr _=>false
 |.dic _=>false
 |.tup ts=>wz ts
 |.obj _ fs=>Cw fs
 |_=>true
@[simp] noncomputable def wz:List T->Bool
 |[]=>true
 |t::ts=>lf t&&wz ts
noncomputable def Cw:List (Str×T)->Bool
 |[]=>true
 |t::ts=>lf t.2&&Cw ts
end
structure Fz where
 hp:Hp
 lt:List (Nat×Addr×List V)
instance:Coe Fz Hp:=⟨Fz.hp⟩
structure Lv(H0 F H:Hp)(σ:St)(ρ:En)(e:Nat×Addr×List V):Prop where
 h:H e.2.1=some (.lst e.2.2)
 f:F e.2.1=none
 z:H0 e.2.1=none
 d:∀(i:Nat) (ts:List T),ρ[i]? = some (some (.o ts))->σ[i]?≠some (some (.ref e.2.1))
def DR(K:W.Frag)(F:Hp)(b:List (List ke×V))(a:List (LI×T)):Prop:=Paired (λ(p:List ke×V) (q:LI×T)=>p.1=q.1.map Sum.inl/\eR K F p.2 q.2) b a
def DR.mono(s:cT F F')(h:DR K F xs kvs):DR K F' xs kvs:=Paired.imp' (λ_ _ q=>⟨q.1,q.2.mono s⟩) h
structure Dv(K:W.Frag)(H0 F H:Hp)(σ:St)(ρ:En):Prop where
 at_:∀(i:Nat) kvs,ρ[i]? = some (some (.d kvs))->∃a,σ[i]? = some (some (.ref a))/\F a=none/\H0 a=none/\∃xs,H a=some (.dT xs)/\DR K F xs kvs
 dj:∀(i j:Nat) kvs kvs',ρ[i]? = some (some (.d kvs))->ρ[j]? = some (some (.d kvs'))->i≠j->σ[i]?≠σ[j]?
def rY{a:Type}{l:List a}{x y:a}(h:(l.set i x)[i]? = some y):y=x:=by
 rw[List.getElem?_set]at h;simp only[if_true]at h;split at h
 .exact (Option.some.inj h).symm
 .cases h
def si{a:Type}{l:List a}{x y:a}(h:(l.set i x)[j]? = some y):(j=i/\y=x)\/(j≠i/\l[j]? = some y):=by
 by_cases e:j=i
 .subst e;exact .inl ⟨rfl,rY h⟩
 .rw[aq (λz=>e z.symm)]at h;exact .inr ⟨e,h⟩
def Dv.heap(d:Dv K H0 F H σ ρ)(s:cT F F')(h:∀a b,H a=some (.dT b)->F a=none->F' a=none/\H' a=some (.dT b)):Dv K H0 F' H' σ ρ:=⟨λi c e=>let ⟨a,e1,e2,e3,b,e4,e5⟩:=d.at_ i c e;let ⟨h1,h2⟩:=h a b e4 e2;⟨a,e1,h1,e3,b,h2,e5.mono s⟩,d.dj⟩
def Dv.set(d:Dv K H0 F H σ ρ)(hw:∀b,w≠some (.d b)):Dv K H0 F H (σ.set i v) (ρ.set i w):=by
 refine⟨λj b e=>?_,λj k b c e n h=>?_⟩
 .rcases si e with⟨rfl,q⟩|⟨g,q⟩
  .exact absurd q.symm (hw b)
  .obtain⟨a,l,r⟩:=d.at_ j b q;exact⟨a,by rw[aq (λz=>g z.symm)];exact l,r⟩
 .rcases si e with⟨rfl,q⟩|⟨g,q⟩
  .exact absurd q.symm (hw b)
  .rcases si n with⟨rfl,f⟩|⟨m,f⟩
   .exact absurd f.symm (hw c)
   .rw[aq (λz=>g z.symm),aq (λz=>m z.symm)];exact d.dj j k b c q f h
def Dv.setR(d:Dv K H0 F H σ ρ)(hw:∀a,w≠some (.d a)):Dv K H0 F H σ (ρ.set i w):=by
 refine⟨λj a e=>?_,λj k a b e h f=>?_⟩
 .rcases si e with⟨rfl,q⟩|⟨g,q⟩
  .exact absurd q.symm (hw a)
  .exact d.at_ j a q
 .rcases si e with⟨rfl,q⟩|⟨g,q⟩
  .exact absurd q.symm (hw a)
  .rcases si h with⟨rfl,c⟩|⟨l,c⟩
   .exact absurd c.symm (hw b)
   .exact d.dj j k a b q c f
structure Sr(K:W.Frag)(F0:Fz)(H0 F H:Hp)(σ:St)(ρ:En):Prop where
 gr:Gr F0.hp H0 F H
 len:σ.length=ρ.length
 pv:∀(i:Nat) (t:T),ρ[i]? = some (some (.p t))->∃v,σ[i]? = some (some v)/\eR K F v t
 ov:∃ad:Nat->Addr,(∀(i:Nat) (ts:List T),ρ[i]? = some (some (.o ts))->σ[i]? = some (some (.ref (ad i)))/\F (ad i)=none/\H0 (ad i)=none/\∃vs,H (ad i)=some (.lst vs)/\cW K F vs ts)/\
  ∀(i j:Nat) (ts us:List T),ρ[i]? = some (some (.o ts))->ρ[j]? = some (some (.o us))->i≠j->ad i≠ad j
 lv:∀e∈F0.lt,Lv H0 F H σ ρ e
 sl:∀(j:Nat) (l:Addr) (vs:List V),F0.lt.lookup j=some (l,vs)->ρ[j]? = some none->σ[j]? = some (some (.ref l))
 dv:Dv K H0 F H σ ρ
section
variable {K:W.Frag}{F0:Fz}{H0 F H F' H':Hp}{σ:St}{ρ:En}
def Sr.vars(r:Sr K F0 H0 F H σ ρ):fy K F σ (lP ρ):=λi t e=>by
 unfold lP at e;rw[av]at e;cases q:ρ[i]? with
 |none=>rw[q]at e;cases e
 |some w=>
  rw[q]at e;cases w with
  |none=>cases e
  |some w=>
   cases w with
   |p t'=>cases e;exact r.pv i _ q
   |o ts=>cases e
   |d kvs=>cases e
def Sr.grow(r:Sr K F0 H0 F H σ ρ)(g:Gr F H F' H'):Sr K F0 H0 F' H' σ ρ:=by
 obtain⟨k,m,p⟩:=r.ov;refine⟨r.gr.trans g,r.len,λi t e=>?_,⟨k,λi n e=>?_,p⟩,λe s=>?_,r.sl,r.dv.heap g.ff λa x j o=>⟨?_,g.hh _ _ j⟩⟩
 .obtain⟨v,a,b⟩:=r.pv i t e;exact⟨v,a,b.mono g.ff⟩
 .obtain⟨a,b,c,l,d,q⟩:=m i n e;refine⟨a,?_,c,l,g.hh _ _ d,q.mono g.ff⟩;cases z:F' (k i) with
  |none=>rfl
  |some u=>
   rcases g.nw (k i) (by rw[z];exact λw=>nomatch w) with y|y|⟨_,y⟩
   .exact absurd b y
   .rw[d]at y;cases y
   .rw[d]at y;cases y
 .have L:=r.lv e s;refine⟨g.hh _ _ L.h,?_,L.z,L.d⟩;cases z:F' e.2.1 with
  |none=>rfl
  |some u=>
   rcases g.nw e.2.1 (by rw[z];exact λw=>nomatch w) with y|y|⟨_,y⟩
   .exact absurd L.f y
   .rw[L.h]at y;cases y
   .rw[L.h]at y;cases y
 .cases z:F' a with
  |none=>rfl
  |some u=>
   rcases g.nw a (by rw[z];exact λw=>nomatch w) with y|y|⟨_,y⟩
   .exact absurd o y
   .rw[j]at y;cases y
   .rw[j]at y;cases y
theorem Sr.lend(r:Sr K F0 H0 F H σ ρ):∃l,cT F l/\Gr F0.hp H0 l H/\fy K l σ (vw ρ)/\
  (∀F' H',Gr l H F' H'->∃j,Gr F H j H'/\cT F j/\cT j F'/\(∀a,F' a≠none->j a=none->∃G,F' a=some (.lst G))/\(∀a,F' a≠none->j a=none->H a≠none)):=by
 classical
 obtain⟨J,m,L⟩:=r.ov;let f:Addr->Prop:=λa=>∃i h,ρ[i]? = some (some (.o h))/\J i=a;let l:Hp:=λa=>if f a then H a else F a
 have s:cT F l:=λa o e=>by
  have:¬f a:=by rintro⟨i,h,q,rfl⟩;obtain⟨_,b,_⟩:=m i h q;rw[b]at e;cases e
  show (if f a then H a else F a)=some o;rw[aQ this];exact e
 have I:cT l H:=λa o e=>by
  by_cases q:f a
  .have u:(if f a then H a else F a)=some o:=e;rw[aP q]at u;exact u
  .have u:(if f a then H a else F a)=some o:=e;rw[aQ q]at u;exact r.gr.fh a o u
 have A:∀a,f a->l a=H a:=λa q=>aP q;have D:∀a,¬f a->l a=F a:=λa q=>aQ q;refine⟨l,s,⟨r.gr.ff.trans s,I,r.gr.hh,λa k=>?_⟩,λi t e=>?_,λF' H' g=>?_⟩
 .by_cases q:f a
  .obtain⟨i,h,e,rfl⟩:=q;exact .inr (.inl (m i h e).2.2.1)
  .rw[D a q]at k;exact r.gr.nw a k
 .unfold vw at e;rw[av]at e;cases q:ρ[i]? with
  |none=>rw[q]at e;cases e
  |some w=>
   rw[q]at e;cases w with
   |none=>cases e
   |some w=>
    cases w with
    |p t'=>cases e;obtain⟨v,a,b⟩:=r.pv i _ q;exact⟨v,a,b.mono s⟩
    |o h=>cases e;obtain⟨a,b,c,y,d,z⟩:=m i h q;exact⟨_,a,.lst (by rw[A _ ⟨i,h,q,rfl⟩];exact d) (z.mono s)⟩
    |d kvs=>cases e
 .let j:Hp:=λa=>if f a then none else F' a
  have x:∀a,¬f a->j a=F' a:=λa q=>aQ q;have C:∀a,f a->j a=none:=λa q=>aP q;have E:cT F j:=λa o e=>by
   have:¬f a:=by rintro⟨i,h,q,rfl⟩;obtain⟨_,b,_⟩:=m i h q;rw[b]at e;cases e
   rw[x a this];exact g.ff _ _ (s _ _ e)
  have B:cT j F':=λa o e=>by
   by_cases q:f a
   .rw[C a q]at e;cases e
   .rw[x a q]at e;exact e
  refine⟨j,⟨E,B.trans g.fh,g.hh,λa k=>?_⟩,E,B,λa k n=>?_,λa k n=>?_⟩
  .by_cases q:f a
   .exact absurd (C a q) k
   .rw[x a q]at k;rcases g.nw a k with z|z
    .rw[D a q]at z;exact .inl z
    .exact .inr z
  .by_cases q:f a
   .obtain⟨i,h,e,rfl⟩:=id q;obtain⟨_,_,_,y,d,_⟩:=m i h e;exact⟨y,g.ff _ _ (by rw[A _ q];exact d)⟩
   .rw[x a q]at n;exact absurd n k
  .by_cases q:f a
   .obtain⟨i,h,e,rfl⟩:=id q;obtain⟨_,_,_,y,d,_⟩:=m i h e;rw[d];exact λz=>nomatch z
   .rw[x a q]at n;exact absurd n k
mutual
theorem eR.less(c:cT Fb F)(h:∀a,F a≠none->Fb a=none->∃d,F a=some (.lst d)):∀{v} {t},eR K F v t->lf t=true->eR K Fb v t
 |_,_,.non,_=>.non
 |_,_,.bl b,_=>.bl b
 |_,_,.int i,_=>.int i
 |_,_,.str x,_=>.str x
 |_,_,.tup (a:=a) e r,l=>by
  refine .tup ?_ (cW.less c h r (by simpa[lf] using l));cases q:Fb a with
  |none=>obtain⟨d,z⟩:=h a (by rw[e];exact λz=>nomatch z) q;rw[e]at z;cases z
  |some u=>rw[<-e];exact (c a u q).symm
 |_,_,.lst _ _,l=>by simp[lf]at l
 |_,_,.scr _,l=>by simp[lf]at l
 |_,_,.obj (a:=a) (dx:=dx) e r,l=>by
  refine .obj (dx:=dx) ?_ (gP.less c h r (by simpa[lf] using l));cases q:Fb a with
  |none=>obtain⟨d,z⟩:=h a (by rw[e];exact λz=>nomatch z) q;rw[e]at z;cases z
  |some u=>rw[<-e];exact (c a u q).symm
 |_,_,.dic _ _,l=>by simp[lf]at l
 |_,_,.emp (a:=a) e,l=>by
  refine .emp ?_;cases q:Fb a with
  |none=>obtain⟨d,z⟩:=h a (by rw[e];exact λz=>nomatch z) q;rw[e]at z;cases z
  |some u=>rw[<-e];exact (c a u q).symm
theorem cW.less(b:cT Fb F)(h:∀a,F a≠none->Fb a=none->∃c,F a=some (.lst c)):∀{vs} {ts},cW K F vs ts->wz ts=true->cW K Fb vs ts
 |_,_,.nil,_=>.nil
 |_,_,.cons q r,l=>by rw[wz,bH]at l;exact .cons (eR.less b h q l.1) (cW.less b h r l.2)
theorem gP.less(b:cT Fb F)(h:∀a,F a≠none->Fb a=none->∃c,F a=some (.lst c)):∀{vs} {ts},gP K F vs ts->Cw ts=true->gP K Fb vs ts
 |_,_,.nil,_=>.nil
 |_,_,.cons q r,l=>by rw[Cw,bH]at l;exact .cons (eR.less b h q l.1) (gP.less b h r l.2)
end
end
end L3
namespace L3
open PySem L2
def kT(K:W.Frag)(F H:Hp)(Q:VK)(ts us:List T):Prop:=∀p l c d a b,Gr F H a b->H l=none->a l=none->H p=none->a p=none->p≠l->b l=some (.lst d)->b p=some (.tup (c++[.ref l]))->cW K a c ts->cW K a d us->Q (.ref p) b
def kT.of(h:kV K F H Q (.tup (ts++[.lst us]))):kT K F H Q ts us:=λp l t k j q g a b c d e f i r u=>by
 have s:=g.take f b a;have o:dB j l (.lst k) p=none:=by rw[cN e];exact d
 have n:cT j (dB j l (.lst k)):=gK b;have m:cT (dB j l (.lst k)) (dB (dB j l (.lst k)) p (.tup (t++[.ref l]))):=gK o;exact h (.ref p) _ q (s.take i o c) (.tup cL ((r.mono (n.trans m)).append (.cons (.lst (m _ _ cL) (u.mono (n.trans m))) .nil)))
inductive O where
 |bad|nx (ρ:En)|rt (t:T)|rf (ts:List T)|rn (ts us:List T)|bk (ρ:En)|ct (ρ:En)|er (C:Addr) (n:Oq Int)
section
variable (K:W.Frag)(E:XK)
def kN(e:Fz)(d F:Hp)(D:St->Hp->Prop)(ρ:En):Prop:=∀b c a,cT F b->Sr K e d b c a ρ->D a c
noncomputable def O.res(o:O)(b:Fz)(a F:Hp)(D:iU):Prop:=match o with
 |.bad=>False
 |.nx ρ=>kN K b a F D.nx ρ
 |.rt t=>kV K b.hp a D.rt t
 |.rf ts=>kF K b.hp a D.rt ts
 |.rn ts us=>kT K b.hp a D.rt ts us
 |.bk ρ=>kN K b a F D.bk ρ
 |.ct ρ=>kN K b a F D.ct ρ
 |.er C n=>kE E b.hp a C n
noncomputable def MS(t:TS)(g:En->O):Prop:=∀d c F H b a D,Sr K d c F H b a->(g a).res K E d c F D->t D b H
end
section
variable {K:W.Frag}{E:XK}{t u ta tb:TE}{f fa fb:Pe->M T}{F0:Fz}{H0 F H F1 H1:Hp}{σ:St}{ρ:En}{D:iU}
def kN.go(h:kN K F0 H0 F N ρ)(s:cT F F1):kN K F0 H0 F1 N ρ:=λc d a b r=>h c d a (s.trans b) r
def O.res.go{o:O}(h:o.res K E F0 H0 F D)(s:cT F F1):o.res K E F0 H0 F1 D:=by
 cases o with
 |bad=>exact h
 |nx ρ=>exact kN.go h s
 |rt t=>exact h
 |rf ts=>exact h
 |rn ts us=>exact h
 |bk ρ=>exact kN.go h s
 |ct ρ=>exact kN.go h s
 |er C n=>exact h
noncomputable def O.of{b:Type}(m:M b)(k:b->O):O:=match m with
 |.bad=>.bad
 |.ok a=>k a
 |.er C n=>.er C n
@[simp] theorem O.of_ok(a:α) k:O.of (.ok a) k=k a:=rfl
@[simp] theorem O.of_bad k:O.of (.bad:M α) k=.bad:=rfl
@[simp] theorem O.of_er C n k:O.of (.er C n:M α) k=.er C n:=rfl
def O.res_of{m:M α}{k:α->O}(h:(O.of m k).res K E F0 H0 F D):m.res (λa=>(k a).res K E F0 H0 F D) (kE E F0.hp H0):=by cases m<;>exact h
@[simp] noncomputable def dm(a b:En->O):En->O:=λρ=>match a ρ with
 |.nx ρ'=>b ρ'
 |o=>o
def zM{t u:TS}(h:MS K E t a)(i:MS K E u b):MS K E (oR t u) (dm a b):=λF0 H0 F H σ ρ D r q=>by
 refine h F0 H0 F H σ ρ _ r ?_;unfold dm at q;cases e:a ρ with
 |nx ρ'=>rw[e]at q;intro g d c s j;exact i F0 H0 g d c ρ' D j (q.go s)
 |bad=>rw[e]at q;exact q
 |rt t=>rw[e]at q;exact q
 |rf ts=>rw[e]at q;exact q
 |rn ts us=>rw[e]at q;exact q
 |bk ρ=>rw[e]at q;exact q
 |ct ρ=>rw[e]at q;exact q
 |er C n=>rw[e]at q;exact q
@[simp] noncomputable def dR:En->O:=λρ=>.nx ρ
def w9:MS K E rL dR:=λF0 H0 F H σ ρ D r q=>q F H σ (.refl _) r
def MT.inS(p:MT K E c fc)(r:Sr K F0 H0 F H σ ρ)(q:(O.of (fc (vw ρ)) k).res K E F0 H0 F D)
  (l:∀b d a,cT F d->Sr K F0 H0 d a σ ρ->(k b).res K E F0 H0 d D->Q b a):c σ H Q:=by
 obtain⟨m,s,h,V,e⟩:=r.lend;refine p m H σ (vw ρ) Q h.fh V ((O.res_of q).mono (λb z d a g=>?_) λC n z=>z.go h);obtain⟨j,o,i,_⟩:=e d a g;exact l b j a i (r.grow o) (z.go i)
@[simp] noncomputable def iy(d:Pe->M Bool)(a b:En->O):En->O:=λρ=>.of (d (vw ρ)) λc=>if c then a ρ else b ρ
def BX{t u:TS}(i:MT K E c fc)(g:MS K E t a)(h:MS K E u b):MS K E (xF c t u) (iy fc a b):=λF0 H0 F H σ ρ D r q=>by
 refine i.inS r q λc k j s e d=>?_;cases c with
 |true=>rw[aP rfl];exact g _ _ _ _ _ _ _ e d
 |false=>rw[aQ aG];exact h _ _ _ _ _ _ _ e d
@[simp] noncomputable def d8(f:Pe->M T):En->O:=λρ=>.of (f (vw ρ)) λt=>.rt t
def yY(h:ME K E t f):MS K E (qt t) (d8 f):=λF0 H0 F H σ ρ D r q=>by obtain⟨d,e,a,V,c⟩:=r.lend;exact h d H σ (vw ρ) _ a.fh V ((O.res_of q).mono (λb z=>kV.go z a) λC n z=>z.go a)
@[simp] noncomputable def oQ(f:Pe->M (List T)):En->O:=λρ=>.of (f (vw ρ)) λt=>.rf t
def wF{f:Pe->M (List T)}(h:MF K E t f):MS K E (qt t) (oQ f):=λF0 H0 F H σ ρ D r q=>by obtain⟨d,e,a,V,c⟩:=r.lend;exact h d H σ (vw ρ) _ a.fh V ((O.res_of q).mono (λb z=>kF.go z a) λC n z=>z.go a)
@[simp] noncomputable def ki(i:Nat):En->O:=λρ=>match ρ[i]? with
 |some (some (.o ts))=>.rf ts
 |_=>.bad
def sR:MS K E (qt (f7 i)) (ki i):=λF0 H0 F H σ ρ D r q=>by
 unfold ki at q;split at q
 .rename_i j e;obtain⟨k,h,l⟩:=r.ov;obtain⟨a,b,c,g,d,z⟩:=h i j e;exact⟨_,a,q (k i) g F H r.gr c b d z⟩
 .exact q.elim
def jg{a:Type}{l:List a}{x y:a}(h:(l.set i x)[i]? = some y):y=x:=by
 rw[List.getElem?_set]at h;simp only[if_true]at h;split at h
 .exact (Option.some.inj h).symm
 .cases h
def dz{a:Type}{l:List a}{x y:a}(h:(l.set i x)[j]? = some y):(j=i/\y=x)\/(j≠i/\l[j]? = some y):=by
 by_cases e:j=i
 .subst e;exact .inl ⟨rfl,jg h⟩
 .rw[aq (λz=>e z.symm)]at h;exact .inr ⟨e,h⟩
def nL{a:Type}{l:List a}{x:a}(h:i<l.length):(l.set i x)[i]? = some x:=by rw[List.getElem?_set_self h]
def Sr.setP(r:Sr K F0 H0 F H σ ρ)(h:eR K F v x):Sr K F0 H0 F H (σ.set i (some v)) (ρ.set i (some (.p x))):=by
 obtain⟨C,B,G⟩:=r.ov;refine⟨r.gr,by simp[r.len],λj t e=>?_,⟨C,λj m e=>?_,λj k m I e A=>?_⟩,λe J=>?_,λj l s n q=>?_,r.dv.set λ_ z=>nomatch z⟩
 .have y:j<ρ.length:=by simpa using (aa.mp e).1
  rcases dz e with⟨rfl,q⟩|⟨c,q⟩
  .cases q;exact⟨v,nL (by rw[r.len];exact y),h⟩
  .obtain⟨w,a,b⟩:=r.pv j t q;exact⟨w,by rw[aq (λz=>c z.symm)];exact a,b⟩
 .rcases dz e with⟨rfl,q⟩|⟨c,q⟩
  .cases q
  .obtain⟨a,b⟩:=B j m q;exact⟨by rw[aq (λz=>c z.symm)];exact a,b⟩
 .rcases dz e with⟨rfl,q⟩|⟨c,q⟩
  .cases q
  .rcases dz A with⟨rfl,o⟩|⟨N,o⟩
   .cases o
   .exact G j k m I q o
 .have L:=r.lv e J;refine⟨L.h,L.f,L.z,λj m q=>?_⟩;rcases dz q with⟨rfl,g⟩|⟨c,g⟩
  .cases g
  .rw[aq (λz=>c z.symm)];exact L.d j m g
 .rcases dz q with⟨rfl,g⟩|⟨c,g⟩
  .cases g
  .rw[aq (λz=>c z.symm)];exact r.sl j l s n g
def Sr.setO(r:Sr K F0 H0 F H σ ρ)(g:Gr F H F1 H1)(x:H l=none)(hf:F1 l=none)(hv:H1 l=some (.lst vs))(hr:cW K F1 vs ts) :
  Sr K F0 H0 F1 H1 (σ.set i (some (.ref l))) (ρ.set i (some (.o ts))):=by
 have v:=r.grow g;obtain⟨y,A,_⟩:=r.ov;obtain⟨J,Q,h2⟩:=v.ov;have S:∀j m,ρ[j]? = some (some (.o m))->J j≠l:=λj m e z=>by
  obtain⟨a,_⟩:=Q j m e;obtain⟨N,_,_,Y,R,_⟩:=A j m e;rw[a]at N;have:J j=y j:=by simpa using N
  rw[<-this,z,x]at R;cases R
 refine⟨v.gr,by simp[r.len],λj t e=>?_,⟨λj=>if j=i then l else J j,λj m e=>?_,λj k m X e P s=>?_⟩,λe U=>?_,λj l' G C q=>?_,v.dv.set λ_ z=>nomatch z⟩
 .rcases dz e with⟨rfl,q⟩|⟨c,q⟩
  .cases q
  .obtain⟨w,a,b⟩:=v.pv j t q;exact⟨w,by rw[aq (λz=>c z.symm)];exact a,b⟩
 .have B:j<ρ.length:=by simpa using (aa.mp e).1
  rcases dz e with⟨rfl,q⟩|⟨c,q⟩
  .cases q;dsimp only;rw[aP rfl];exact⟨nL (by rw[r.len];exact B),hf,c9 r.gr.hh x,vs,hv,hr⟩
  .dsimp only;rw[aQ c];obtain⟨a,b⟩:=Q j m q;exact⟨by rw[aq (λz=>c z.symm)];exact a,b⟩
 .rcases dz e with⟨rfl,q⟩|⟨c,q⟩
  .rcases dz P with⟨rfl,p⟩|⟨I,p⟩
   .exact absurd rfl s
   .dsimp only;rw[aP rfl,aQ I];exact λz=>S k X p z.symm
  .rcases dz P with⟨rfl,p⟩|⟨I,p⟩
   .dsimp only;rw[aQ c,aP rfl];exact S j m q
   .dsimp only;rw[aQ c,aQ I];exact h2 j k m X q p s
 .have L:=v.lv e U;have Z:=r.lv e U;refine⟨L.h,L.f,L.z,λj ts q=>?_⟩;rcases dz q with⟨rfl,n⟩|⟨c,n⟩
  .intro z;have z':=jg z;have:e.2.1=l:=by simpa using z'
   rw[<-this,Z.h]at x;cases x
  .rw[aq (λz=>c z.symm)];exact L.d j ts n
 .rcases dz q with⟨rfl,n⟩|⟨c,n⟩
  .cases n
  .rw[aq (λz=>c z.symm)];exact r.sl j l' G C n
@[simp] noncomputable def fv(f:Pe->M T)(ρ:En):M T:=f (lP ρ)
@[simp] noncomputable def nk(f:Pe->M T)(ρ:En):M T:=(f (vw ρ)).bind λt=>if lf t then .ok t else .bad
def ME.inH(h:ME K E t f)(r:Sr K F0 H0 F H σ ρ)(q:(O.of (fv f ρ) k).res K E F0 H0 F D)
  (c:∀x v a b,Gr F H a b->eR K a v x->Sr K F0 H0 a b σ ρ->(k x).res K E F0 H0 a D->Q v b):t σ H Q:=
 h F H σ (lP ρ) Q r.gr.fh r.vars ((O.res_of q).mono (λx z v a b g d=>c x v a b g d (r.grow g) (z.go g.ff)) λC n z=>z.go r.gr)
def ME.inB(h:ME K E t f)(r:Sr K F0 H0 F H σ ρ)(q:(O.of (nk f ρ) k).res K E F0 H0 F D)
  (o:∀x v b a,Gr F H b a->eR K b v x->Sr K F0 H0 b a σ ρ->(k x).res K E F0 H0 b D->Q v a):t σ H Q:=by
 obtain⟨p,y,j,V,c⟩:=r.lend;refine h p H σ (vw ρ) Q j.fh V ((M.res.unb (O.res_of q)).mono (λx z v b a g w=>?_) λC n z=>z.go j);obtain⟨m,l,s,i,d,_⟩:=c b a g;by_cases e:lf x=true
 .rw[aP e]at z;exact o x v m a l (w.less i d e) (r.grow l) (O.res.go z s)
 .rw[aQ e]at z;exact z.elim
@[simp] noncomputable def setO(i:Nat)(f:En->M T):En->O:=λρ=>.of (f ρ) λt=>.nx (ρ.set i (some (.p t)))
def rG(h:ME K E t f):MS K E (h7 t (ek i)) (setO i (fv f)):=λF0 H0 F H σ ρ D r q=>h.inH r q λx v b d g e c a=>a b d _ (.refl _) (c.setP e)
def xE(h:ME K E t f):MS K E (h7 t (ek i)) (setO i (nk f)):=λF0 H0 F H σ ρ D r q=>h.inB r q λx v b d g e c a=>a b d _ (.refl _) (c.setP e)
@[simp] noncomputable def lY(f:Pe->M (List T))(ρ:En):M (List T):=f (lP ρ)
@[simp] noncomputable def tV(f:Pe->M (List T))(ρ:En):M (List T):=(f (vw ρ)).bind λa=>if wz a then .ok a else .bad
def MF.inH{f:Pe->M (List T)}(h:MF K E t f)(r:Sr K F0 H0 F H σ ρ)(q:(O.of (lY f ρ) k).res K E F0 H0 F D)
  (j:∀ts l vs e i,Gr F H e i->H l=none->e l=none->i l=some (.lst vs)->cW K e vs ts->(k ts).res K E F0 H0 e D->Q (.ref l) i):t σ H Q:=
 h F H σ (lP ρ) Q r.gr.fh r.vars ((O.res_of q).mono (λts z l vs e i g a b c d=>j ts l vs e i g a b c d (z.go g.ff)) λC n z=>z.go r.gr)
def MF.inB{f:Pe->M (List T)}(h:MF K E t f)(r:Sr K F0 H0 F H σ ρ)(q:(O.of (tV f ρ) k).res K E F0 H0 F D)
  (w:∀ts l vs i e,Gr F H i e->H l=none->i l=none->e l=some (.lst vs)->cW K i vs ts->(k ts).res K E F0 H0 i D->Q (.ref l) e):t σ H Q:=by
 obtain⟨x,B,s,V,j⟩:=r.lend;refine h x H σ (vw ρ) Q s.fh V ((M.res.unb (O.res_of q)).mono (λts z l vs i e g a b c d=>?_) λC n z=>z.go s);obtain⟨v,y,A,m,o,_⟩:=j i e g;by_cases p:wz ts=true
 .rw[aP p]at z;exact w ts l vs v e y a (c9 m b) c (d.less m o p) (O.res.go z A)
 .rw[aQ p]at z;exact z.elim
@[simp] noncomputable def jG(i:Nat)(f:En->M (List T)):En->O:=λρ=>.of (f ρ) λa=>.nx (ρ.set i (some (.o a)))
def rF{f:Pe->M (List T)}(h:MF K E t f):MS K E (h7 t (ek i)) (jG i (lY f)):=λF0 H0 F H σ ρ D r q=>h.inH r q λn l m j e g a b c d k=>k j e _ (.refl _) (r.setO g a b c d)
def yA{f:Pe->M (List T)}(h:MF K E t f):MS K E (h7 t (ek i)) (jG i (tV f)):=λF0 H0 F H σ ρ D r q=>h.inB r q λn l m j e g a b c d k=>k j e _ (.refl _) (r.setO g a b c d)
@[simp] noncomputable def iZ(f:En->M T):En->O:=λρ=>.of (f ρ) λ_=>.nx ρ
def tw(h:ME K E t f):MS K E (ou t) (iZ (fv f)):=λF0 H0 F H σ ρ D r q=>h.inH r q λx v b d g e c a=>a b d _ (.refl _) c
def Sr.change(r:Sr K F0 H0 F H σ ρ)(e:ρ[i]? = some (some (.o ts)))(hw:cW K F ws us) :
  ∃l vs,σ[i]? = some (some (.ref l))/\H l=some (.lst vs)/\cW K F vs ts/\Sr K F0 H0 F (dB H l (.lst ws)) σ (ρ.set i (some (.o us))):=by
 obtain⟨I,N,A⟩:=r.ov;obtain⟨a,b,c,vs,d,z⟩:=N i ts e;refine⟨I i,vs,a,d,z,⟨r.gr.ff,λp u q=>?_,λp u q=>?_,r.gr.nw⟩,by simp[r.len],λj t q=>?_,⟨I,λj s q=>?_,λj k s y q P m=>?_⟩,λJ Y=>?_,λj X n C q=>?_,(r.dv.heap (.refl _) λp xs B _=>⟨by assumption,by rw[cN (λz=>by rw[z,d]at B;cases B)];exact B⟩).setR λ_ z=>nomatch z⟩
 .rw[cN (cX q b)];exact r.gr.fh p u q
 .rw[cN (cX q c)];exact r.gr.hh p u q
 .rcases dz q with⟨rfl,g⟩|⟨v,g⟩
  .cases g
  .exact r.pv j t g
 .rcases dz q with⟨rfl,g⟩|⟨v,g⟩
  .cases g;exact⟨a,b,c,ws,cL,hw⟩
  .obtain⟨a',Q,S,n,U,Z⟩:=N j s g;exact⟨a',Q,S,n,by rw[cN (A j i s ts g e v)];exact U,Z⟩
 .rcases dz q with⟨rfl,g⟩|⟨v,g⟩
  .rcases dz P with⟨rfl,x⟩|⟨R,x⟩
   .exact absurd rfl m
   .exact A j k ts y e x m
  .rcases dz P with⟨rfl,x⟩|⟨R,x⟩
   .exact A j k s ts g e m
   .exact A j k s y g x m
 .have L:=r.lv J Y;have G:J.2.1≠I i:=λw=>L.d i ts e (by rw[w];exact a);refine⟨by rw[cN G];exact L.h,L.f,L.z,λj s q=>?_⟩;rcases dz q with⟨rfl,g⟩|⟨v,g⟩
  .exact L.d _ ts e
  .exact L.d j s g
 .rcases dz q with⟨rfl,g⟩|⟨v,g⟩
  .cases g
  .exact r.sl j X n C g
@[simp] noncomputable def i5(ρ:En)(i:Nat):M (List T):=match ρ[i]? with
 |some (some (.o ts))=>.ok ts
 |_=>.bad
def oW(h:i5 ρ i=.ok ts):ρ[i]? = some (some (.o ts)):=by
 unfold i5 at h;split at h
 .rename_i a e;cases h;exact e
 .cases h
@[simp] noncomputable def qk(i:Nat)(f:En->M T):En->O:=λρ=>.of (i5 ρ i) λa=>.of (f ρ) λt=>if a.length<sizeLine then .nx (ρ.set i (some (.o (a++[t])))) else .bad
def uP(r:Sr K F0 H0 F H σ ρ)(e:ρ[i]? = some (some (.o ts)))(p:eR K F v x)
  (q:(if ts.length<sizeLine then O.nx (ρ.set i (some (.o (ts++[x])))) else .bad).res K E F0 H0 F D):∃l,σ[i]? = some (some (.ref l))/\m5 (.ref l) [v] H λ_ H1=>D.nx σ H1:=by
 by_cases c:ts.length<sizeLine
 .rw[aP c]at q;obtain⟨m,h,_⟩:=r.ov;obtain⟨_,_,_,k,d,z⟩:=h i ts e;obtain⟨l,b,j,g,s,n⟩:=r.change e (z.append (.cons p .nil));have:b=k:=by
   have a:=(h i ts e).1;rw[j]at a;have:l=m i:=by simpa using a
   rw[this,d]at g;cases g;rfl
  subst this;exact⟨l,j,l,b,v,rfl,rfl,g,by rw[z.length];exact c,q F _ _ (.refl _) n⟩
 .rw[aQ c]at q;exact q.elim
def BE(K:W.Frag)(i:Nat)(a:TE):TE:=Do K "list" m5 (f7 i) (fj a jo)
def yr(p:∀l k H,H l=some (.lst k)->Ce K "list" (.ref l) H)(h:ME K E t f):MS K E (ou (BE K i t)) (qk i (fv f)):=λF0 H0 F H σ ρ D r q=>by
 unfold qk at q;cases e:i5 ρ i with
 |bad=>rw[e]at q;exact q.elim
 |er C n=>unfold i5 at e;split at e<;>cases e
 |ok ts=>rw[e]at q;have c:=oW e;obtain⟨B,m,_⟩:=r.ov;obtain⟨a,_,_,z,d,_⟩:=m i ts c;refine⟨_,a,p _ _ _ d,?_⟩;refine h.inH r q λx v A y g w s o=>?_;obtain⟨l,j,b⟩:=uP s c w o;rw[a]at j;cases j;exact b
@[simp] noncomputable def qD(i:Nat)(b:En->M T)(f:En->M T):En->O:=λρ=>.of (i5 ρ i) λa=>.of (f ρ) λt=>.of (b ρ) λk=>match k with
 |.int k=>match qI a.length k with
  |some j=>.nx (ρ.set i (some (.o (a.set j t))))
  |none=>.bad
 |_=>.bad
theorem uG{i:Nat}{ts:List T}{x y:T}{v w:V}{l:Addr}(n:Sr K F0 H0 F H σ ρ)(e:ρ[i]? = some (some (.o ts)))(p:σ[i]? = some (some (.ref l)))(G:eR K F v x)(m:eR K F w y)
  (b:(match y with
   |.int k=>match qI ts.length k with
    |some j=>O.nx (ρ.set i (some (.o (ts.set j x))))
    |none=>.bad
   |_=>.bad).res K E F0 H0 F D):rg (.ref l) w v H λB=>D.nx σ B:=by
 cases m with
 |int k=>
  dsimp only at b;cases h:qI ts.length k with
  |none=>rw[h]at b;exact b.elim
  |some j=>
   rw[h]at b;obtain⟨C,q,_⟩:=n.ov;obtain⟨_,_,_,A,d,z⟩:=q i ts e;obtain⟨I,c,r,g,J,s⟩:=n.change e (z.set G j);rw[p]at r;cases r;have:c=A:=by
    have a:=(q i ts e).1;rw[p]at a;have:l=C i:=by simpa using a
    rw[this,d]at g;cases g;rfl
   subst this;exact⟨l,c,k,j,rfl,rfl,g,by rw[z.length];exact h,b F _ _ (.refl _) s⟩
 |_=>exact b.elim
def y0(h:ME K E t f)(k:ME K E tk fk):MS K E (h7 t (Ay (f7 i) tk rg)) (qD i (nk fk) (nk f)):=λF0 H0 F H σ ρ D r q=>by
 unfold qD at q;cases e:i5 ρ i with
 |bad=>rw[e]at q;exact q.elim
 |er C n=>unfold i5 at e;split at e<;>cases e
 |ok ts=>rw[e]at q;have c:=oW e;obtain⟨G,l,_⟩:=r.ov;have a:=(l i ts c).1;refine h.inB r q λx v A z g s p m=>⟨_,a,?_⟩;exact k.inB p m λy w B I d b j o=>uG j c a (s.mono d.ff) b o
end
end L3
namespace L3
open PySem L2
section
variable {K:W.Frag}{E:XK}{t u ta tb:TE}{f fa fb:Pe->M T}{F0:Fz}{H0 F H F1 H1:Hp}{σ:St}{ρ:En}{D:iU}
structure pA(K:W.Frag)(J:It)(its:List T)(F1:Hp):Prop where
 go:∀i H,cT F1 H->i<its.length->J.go i H
 stop:∀H,cT F1 H->J.stop its.length H
 yld:∀(i:Nat) t F H x H',cT F1 F->cT F H->its[i]? = some t->J.yld i H x H'->∃F',Gr F H F' H'/\eR K F' x t
def kI(K:W.Frag)(F H:Hp)(R:It->Hp->Prop)(a:List T):Prop:=∀J b c,Gr F H b c->pA K J a b->R J c
noncomputable def MI(K:W.Frag)(E:XK)(w:TI)(f:Pe->M (List T)):Prop:=∀F H σ ρ R,cT F H->fy K F σ ρ->(f ρ).res (kI K F H R) (kE E F H)->w σ H R
def Dx(K:W.Frag)(F H:Hp)(R:It->Hp->Prop)(a:List T):Prop:=∀J c b,Gr F H c b->(∀F1,pA K J a F1)->R J b
noncomputable def B7(K:W.Frag)(E:XK)(w:TI)(f:Pe->M (List T)):Prop:=∀F H σ ρ R,cT F H->fy K F σ ρ->(f ρ).res (Dx K F H R) (kE E F H)->w σ H R
def B7.mi{f:Pe->M (List T)}(h:B7 K E w f):MI K E w f:=λF H σ ρ R s V q=>h F H σ ρ R s V (q.mono (λb z J a c g i=>z J a c g (i a)) λ_ _ z=>z)
@[simp] noncomputable def CD(fa:Pe->M T):Pe->M (List T):=λρ=>(fa ρ).bind λx=>match x with
 |.lst ts=>.ok ts
 |.scr ns=>.ok (ns.map T.int)
 |_=>.bad
@[simp] noncomputable def Dn(fa:Pe->M T):Pe->M (List T):=λρ=>(fa ρ).bind λx=>match x with
 |.tup ts=>.ok ts
 |_=>.bad
def rN(c:fQ K F a xs)(r:cW K F xs ts):pA K (C2 K a) ts F where
 go:=λi H s h=>by have e:xs[i]? = some (xs[i]'(by rw[r.length];exact h)):=ag _;exact⟨xs,_,s.seq c,e⟩
 stop:=λH s=>⟨xs,s.seq c,by rw[r.length];exact aJ _⟩
 yld:=λi t j H x n g d e y=>by obtain⟨rfl,l⟩:=y;have k:=l xs ((g.trans d).seq c);obtain⟨o,b,m⟩:=r.at_ k;rw[e]at b;cases b;exact⟨j,.refl d,m.mono g⟩
def jE(s:cT F H)(h:F a=some (.tup xs)):f6 K H a xs:=f6.of (s _ _ h)
def zA(c:F a=some (.tup xs))(r:cW K F xs ts):pA K (CI K a) ts F where
 go:=λi H s h=>by have e:xs[i]? = some (xs[i]'(by rw[r.length];exact h)):=ag _;exact⟨xs,_,jE s c,e⟩
 stop:=λH s=>⟨xs,jE s c,by rw[r.length];exact aJ _⟩
 yld:=λi t j H x n g d e y=>by obtain⟨rfl,l⟩:=y;have k:=l xs (jE (g.trans d) c);obtain⟨o,b,m⟩:=r.at_ k;rw[e]at b;cases b;exact⟨j,.refl d,m.mono g⟩
def nF(c:ME K E ta fa):MI K E (ue K ta) (CD fa):=λF H σ ρ R s V q=>by
  refine c.run s V q λx v F1 H1 a d b=>?_;cases d<;>first
    |exact b.elim
    | (rename_i h r
       exact⟨_,rfl,⟨_,fQ.of (a.fh _ _ h)⟩,b _ F1 H1 a (rN (fQ.of h) r)⟩)
    | (rename_i h
       exact⟨_,rfl,⟨_,a.fh.seq h⟩,b _ F1 H1 a (rN h (cW.of_ints _))⟩)
def As(c:ME K E ta fa):MI K E (zD K ta) (Dn fa):=λF H σ ρ R s V q=>by
  refine c.run s V q λx v F1 H1 b d a=>?_;cases d<;>first
    |exact a.elim
    | (rename_i h r
       exact⟨_,rfl,⟨_,f6.of (b.fh _ _ h)⟩,a _ F1 H1 b (zA h r)⟩)
def B8:(2:Int) ^ 62=4611686018427387904:=by decide +kernel
def CG:(2:Int) ^ 63=9223372036854775808:=by decide +kernel
noncomputable def tf(j:Int):Bool:=decide (j.natAbs<4611686018427387904)
def iL(h:tf j=true):-(2 ^ 62)<=j/\j<2 ^ 62:=by rw[B8];have:=of_decide_eq_true h;omega
def jz(h:j.natAbs<=1000000):tf j=true:=aB (by omega)
noncomputable def nE(a:Int)(n:Nat):List T:=(List.range n).map λ(i:Nat)=>T.int (a+(i:Int))
def zi F:pA K (B5 lo n) (nE lo n) F where
 go:=λi H s a=>by show i<n;simpa[nE] using a
 stop:=λH s=>by simp[nE,B5]
 yld:=λi t c H x g d b e y=>by
  obtain⟨rfl,rfl⟩:=y;have a:i<n:=by simpa[nE] using (aa.mp e).1
  have:t=.int (lo+i):=by unfold nE at e;rw[av,List.getElem?_range a]at e;cases e;rfl
  rw[this];exact⟨c,.refl b,.int _⟩
@[simp] noncomputable def gA(fa:Pe->M (List T)):Pe->M (List T):=λρ=>(fa ρ).bind λa=>match a with
 |[.int j]=>if tf j then .ok (nE 0 j.toNat) else .bad
 |_=>.bad
def xM{ta:TA}{fa:Pe->M (List T)}(e:MA K E ta fa):B7 K E (v5 ta) (gA fa):=λF H σ ρ R s V q=>by
 refine e.run s V q λi k F1 H1 g h c=>?_;split at c
 .rename_i j;split at c
  .rename_i d;cases h with
   |cons a b=>cases a;cases b;exact⟨j,rfl,(iL d).1,(iL d).2,c _ F1 H1 g zi⟩
  .exact c.elim
 .exact c.elim
noncomputable def seqB(b:Bool):T->M (List T)
 |.tup ts=>if b then .ok ts else .bad
 |.lst ts=>if b then .bad else .ok ts
 |.scr ns=>if b then .bad else .ok (ns.map T.int)
 |_=>.bad
def rQ(r:eR K F v x)(e:seqB b x=.ok ts):∃a c,v=.ref a/\(∀H,cT F H->pJ K H b a c)/\cW K F c ts:=by
 cases r<;>try (cases e)
 .rename_i a c g h r;cases b with
  |true=>cases e;exact⟨a,c,rfl,λH s=>by unfold pJ;rw[aP rfl];exact f6.of (s _ _ h),r⟩
  |false=>cases e
 .rename_i a c g h r;cases b with
  |true=>cases e
  |false=>cases e;exact⟨a,c,rfl,λH s=>by unfold pJ;rw[aQ aG];exact fQ.of (s _ _ h),r⟩
 .rename_i a d h;cases b with
  |true=>cases e
  |false=>cases e;exact⟨a,_,rfl,λH s=>by unfold pJ;rw[aQ aG];exact s.seq h,cW.of_ints d⟩
noncomputable def mY(a b:List T):List T:=(a.zip b).map λp=>T.tup [p.1,p.2]
def Az(j:∀H,cT F H->pJ K H b1 l1 xs)(m:cW K F xs ts)(l:∀H,cT F H->pJ K H b2 l2 ys)(d:cW K F ys us):pA K (Dd K b1 b2 l1 l2) (mY ts us) F where
 go:=λi H s w=>by
  have a:i<ts.length/\i<us.length:=by simp[mY]at w;omega
  have c:xs[i]? = some (xs[i]'(by rw[m.length];exact a.1)):=ag _;have h:ys[i]? = some (ys[i]'(by rw[d.length];exact a.2)):=ag _;exact⟨xs,ys,_,_,j H s,l H s,c,h⟩
 stop:=λH s=>⟨xs,ys,j H s,l H s,by simp[mY,m.length,d.length];omega⟩
 yld:=λi t L H x J b k e y=>by
  obtain⟨p,r,v,rfl,A,rfl,c,h⟩:=y;obtain⟨n,I,G⟩:=m.at_ (c xs (j H (b.trans k)));obtain⟨q,C,B⟩:=d.at_ (h ys (l H (b.trans k)));have:t=.tup [n,q]:=by unfold mY at e;rw[av,(List.getElem?_zip_eq_some (z:=(n,q))).mpr ⟨I,C⟩]at e;cases e;rfl
  rw[this];have g:=Gr.new (o:=.tup [r,v]) k A;exact⟨_,g,.tup cL (.cons ((G.mono b).mono g.ff) (.cons ((B.mono b).mono g.ff) .nil))⟩
noncomputable def A0(c e:Bool)(fa:Pe->M (List T)):Pe->M (List T):=λρ=>(fa ρ).bind λb=>match b with
 |[x,y]=>(seqB c x).bind λd=>(seqB e y).bind λa=>.ok (mY d a)
 |_=>.bad
def rh:seqB b x≠.er C n:=by cases x<;>cases b<;>exact λz=>nomatch z
def wk{ta:TA}{fa:Pe->M (List T)}(p:MA K E ta fa):MI K E (zU K b1 b2 ta) (A0 b1 b2 fa):=λF H σ ρ R s V q=>by
 refine p.run s V q λz A F1 H1 h w d=>?_;split at d
 .rename_i x y;cases w with
  |cons a b=>
   cases b with
   |cons b c=>
    cases c;cases e:seqB b1 x with
    |bad=>rw[e]at d;exact d.elim
    |er C n=>exact absurd e rh
    |ok ts=>
     rw[e]at d;cases g:seqB b2 y with
     |bad=>simp only[g,M.bind_ok]at d;exact d.elim
     |er C n=>exact absurd g rh
     |ok us=>simp only[g,M.bind_ok]at d;obtain⟨l,m,rfl,j,k⟩:=rQ a e;obtain⟨v,o,rfl,i,r⟩:=rQ b g;exact⟨l,v,rfl,⟨m,j _ h.fh⟩,⟨o,i _ h.fh⟩,d _ F1 H1 h (Az j k i r)⟩
 .exact d.elim
def MG(K:W.Frag)(g:TG)(m:T->Pe->Option Pe):Prop:=∀F H σ (ρ:Pe) x t ρ' Q,cT F H->σ.length=ρ.length->fy K F σ ρ->eR K F x t->m t ρ=some ρ'->(∀a,a.length=ρ'.length->fy K F a ρ'->Q a H)->g x σ H Q
def Br(K:W.Frag)(g:yQ)(m:List T->Pe->Option Pe):Prop:=∀F H σ (ρ:Pe) xs ts ρ' Q,cT F H->σ.length=ρ.length->fy K F σ ρ->cW K F xs ts->m ts ρ=some ρ'->(∀a,a.length=ρ'.length->fy K F a ρ'->Q a H)->g xs σ H Q
@[simp] def h8(i:Nat):T->Pe->Option Pe:=λt ρ=>some (ρ.set i (some t))
def fy.set{ρ:Pe}(V:fy K F σ ρ)(d:σ.length=ρ.length)(h:eR K F v x):fy K F (σ.set i (some v)) (ρ.set i (some x)):=λj t e=>by
 have c:j<ρ.length:=by simpa using (aa.mp e).1
 rcases dz e with⟨rfl,q⟩|⟨c,q⟩
 .cases q;exact⟨v,nL (by rw[d];exact c),h⟩
 .obtain⟨w,a,b⟩:=V j t q;exact⟨w,by rw[aq (λz=>c z.symm)];exact a,b⟩
def xQ:MG K (ek i) (h8 i):=λF H σ ρ x t b Q s a V r e k=>by cases e;exact k _ (by simp[a]) (V.set a r)
@[simp] noncomputable def qB:List T->Pe->Option Pe
 |[],ρ=>some ρ
 |_::_,_=>none
@[simp] def hW(m:T->Pe->Option Pe)(n:List T->Pe->Option Pe):List T->Pe->Option Pe
 |[],_=>none
 |t::ts,ρ=>(m t ρ).bind (n ts)
def yj:Br K xp qB:=λF H σ ρ g h c Q s d V r e k=>by
 cases r with
 |nil=>cases e;exact⟨rfl,k σ d V⟩
 |cons a b=>cases e
def uR(o:MG K g m)(w:Br K gs n):Br K (oa g gs) (hW m n):=λF H σ ρ x y c Q s l V r e k=>by
 cases r with
 |nil=>cases e
 |cons a b=>
  rename_i v t j d;have e:(m t ρ).bind (n d)=some c:=e;cases q:m t ρ with
  |none=>rw[q]at e;cases e
  |some ρ1=>rw[q]at e;refine⟨v,j,rfl,o F H σ ρ v t ρ1 _ s l V a q λh i p=>?_⟩;exact w F H h ρ1 j d c Q s i p b e k
@[simp] noncomputable def pW(k:Nat)(m:List T->Pe->Option Pe):T->Pe->Option Pe
 |.tup ts,ρ=>if ts.length=k then m ts ρ else none
 |_,_=>none
def Aw(h:Br K g m):MG K (xP K k g) (pW k m):=λF H σ ρ x t b Q s i V r e q=>by
 cases r with
 |tup hx rs=>
  rename_i a j d;have e:(if d.length=k then m d ρ else none)=some b:=e;by_cases c:d.length=k
  .rw[aP c]at e;exact⟨_,_,rfl,f6.of (s _ _ hx),by rw[rs.length];exact c,h F H σ ρ _ _ b Q s i V rs e q⟩
  .rw[aQ c]at e;cases e
 |_=>cases e
noncomputable def A5(K:W.Frag)(g:TG)(m:T->En->Option En):Prop:=∀F0 H0 F H σ ρ x t a Q,Sr K F0 H0 F H σ ρ->eR K F x t->m t ρ=some a->(∀b,Sr K F0 H0 F H b a->Q b H)->g x σ H Q
@[simp] noncomputable def lO(i:Nat):T->En->Option En:=λt ρ=>some (ρ.set i (some (.p t)))
def wc:A5 K (ek i) (lO i):=λF0 H0 F H σ ρ x t a Q s r e k=>by cases e;exact k _ (s.setP r)
noncomputable def ei(m:T->En->Option En)(g:En->O):List T->En->O
 |[],ρ=>.nx ρ
 |t::ts,ρ=>match m t ρ with
  |none=>.bad
  |some ρ1=>match g ρ1 with
   |.nx ρ2=>ei m g ts ρ2
   |.ct ρ2=>ei m g ts ρ2
   |.bk ρ2=>.nx ρ2
   |o=>o
theorem pQ{tb:TS}{J:It}(hg:A5 K g m)(hb:MS K E tb gb){G:Hp->Hp->Prop}(R:∀i F H,G F H->i<its.length->J.go i H)(Y:∀F H,G F H->J.stop its.length H)(Q:∀(i:Nat) t F H x c,G F H->its[i]? = some t->J.yld i H x c->∃d,Gr F H d c/\eR K d x t)
  (S:∀d c b ρ',cT F1 d->Sr K F0 H0 d c b ρ'->G d c) (r:Sr K F0 H0 F H σ ρ) (s1:cT F1 F)
  (q:(ei m gb its ρ).res K E F0 H0 F D):∃W:Nat->Nat->St->Hp->Prop,(∃m,W 0 m σ H)/\∀i m σ H,W i m σ H->
 (J.stop i H/\D.nx σ H)\/(J.go i H/\∃N:St->Hp->Prop,(∀b c,N b c->∃Z,Z<m/\W (i+1) Z b c)/\∀x c,J.yld i H x c->g x σ c λU H2=>tb {D with nx:=N,ct:=N,bk:=D.nx} U H2):=by
 refine⟨λi k b c=>i<=its.length/\k=its.length-i/\∃d ρ',cT F1 d/\Sr K F0 H0 d c b ρ'/\(ei m gb (its.drop i) ρ').res K E F0 H0 d D,⟨_,bx _,rfl,F,ρ,s1,r,by simpa using q⟩,?_⟩
 rintro i k v I ⟨hi,rfl,L,p,A,w,a⟩
 by_cases h:i<its.length
 .right;refine⟨R i L I (S _ _ _ _ A w) h,λb c=>∃d ρ',cT F1 d/\Sr K F0 H0 d c b ρ'/\(ei m gb (its.drop (i+1)) ρ').res K E F0 H0 d D,λb c z=>⟨its.length-(i+1),by omega,h,rfl,z⟩,λx c y=>?_⟩;have et:=ag h;obtain⟨F3,o,rp⟩:=Q i _ L I x c (S _ _ _ _ A w) et y;rw[cg h]at a;unfold ei at a;cases P:m its[i] p with
  |none=>rw[P]at a;exact a.elim
  |some ρ3=>
   rw[P]at a;refine hg F0 H0 F3 c v p x _ ρ3 _ (w.grow o) rp P λb r'=>?_;refine hb F0 H0 F3 c b ρ3 _ r' ?_;dsimp only at a;cases j:gb ρ3 with
   |bad=>rw[j]at a;exact a.elim
   |nx ρ4=>rw[j]at a;exact λd X B s l=>⟨d,ρ4,(A.trans o.ff).trans s,l,O.res.go a (o.ff.trans s)⟩
   |ct ρ4=>rw[j]at a;exact λd X B s l=>⟨d,ρ4,(A.trans o.ff).trans s,l,O.res.go a (o.ff.trans s)⟩
   |bk ρ4=>rw[j]at a;exact kN.go a o.ff
   |rt t=>rw[j]at a;exact a
   |rf ts=>rw[j]at a;exact a
   |rn ts us=>rw[j]at a;exact a
   |er C n=>rw[j]at a;exact a
 .left;have e:i=its.length:=by omega
  subst e;refine⟨Y L I (S _ _ _ _ A w),?_⟩;rw[List.drop_length]at a;exact a L I v (.refl _) w
def mE{tb:TS}(l:A5 K g m)(j:MS K E tb gb)(b:pA K J its F1)(r:Sr K F0 H0 F H σ ρ)(n:cT F1 F)
  (q:(ei m gb its ρ).res K E F0 H0 F D):∃W:Nat->Nat->St->Hp->Prop,(∃m,W 0 m σ H)/\∀i m σ H,W i m σ H->
 (J.stop i H/\D.nx σ H)\/(J.go i H/\∃N:St->Hp->Prop,(∀c a,N c a->∃h,h<m/\W (i+1) h c a)/\∀x a,J.yld i H x a->g x σ a λd o=>tb {D with nx:=N,ct:=N,bk:=D.nx} d o):=
 pQ (G:=λF H=>cT F1 F/\cT F H) l j (λi F H q k=>b.go i H (q.1.trans q.2) k) (λF H q=>b.stop H (q.1.trans q.2)) (λi t F H x a q e y=>b.yld i t F H x a q.1 q.2 e y) (λ_ _ _ _ s r=>⟨s,r.gr.fh⟩) r n q
@[simp] noncomputable def qq(b:Pe->M (List T))(m:T->En->Option En)(g:En->O):En->O:=λρ=>.of (b (lP ρ)) λa=>ei m g a ρ
def AN{tb:TS}(c:MI K E w fi)(h:A5 K g m)(d:MS K E tb gb):MS K E (uN w g tb) (qq fi m gb):=λF0 H0 F H σ ρ D r q=>c F H σ (lP ρ) _ r.gr.fh r.vars ((O.res_of q).mono (λe z J j i b a=>mE h d a (r.grow b) (.refl _) (z.go b.ff)) λC n z=>z.go r.gr)
@[simp] noncomputable def i0(b:Pe->M (List T))(m:T->En->Option En)(g:En->O):En->O:=λρ=>.of (b (vw ρ)) λa=>ei m g a ρ
def xB{tb:TS}(i:B7 K E w fi)(s:A5 K g m)(j:MS K E tb gb):MS K E (uN w g tb) (i0 fi m gb):=λF0 H0 F H σ ρ D r q=>by obtain⟨l,x,d,V,a⟩:=r.lend;refine i l H σ (vw ρ) _ d.fh V ((O.res_of q).mono (λp z J o h e c=>?_) λC n z=>z.go d);obtain⟨k,b,v,_⟩:=a o h e;exact mE s j (c k) (r.grow b) (.refl _) (z.go v)
noncomputable def gh(c:Pe->M Bool)(g:En->O):Nat->En->O
 |0,_=>.bad
 |n+1,ρ=>.of (c (vw ρ)) λb=>if b then (match g ρ with
   |.nx ρ2=>gh c g n ρ2
   |.ct ρ2=>gh c g n ρ2
   |.bk ρ2=>.nx ρ2
   |o=>o) else .nx ρ
def uK{tb:TS}(i:En->Nat)(J:MT K E c fc)(G:MS K E tb gb):MS K E (qE c tb) (λρ=>gh fc gb (i ρ) ρ):=λF0 H0 F H σ ρ D r q=>by
 refine⟨λn g o=>∃d e,cT F d/\Sr K F0 H0 d o g e/\(gh fc gb n e).res K E F0 H0 d D,⟨i ρ,F,ρ,.refl _,r,q⟩,?_⟩;rintro n l L ⟨N,k,B,I,p⟩;cases n with
 |zero=>exact p.elim
 |succ n=>
  unfold gh at p;refine J.inS I p λb A y w x a=>?_;cases b with
  |true=>
   rw[aP rfl]at a ⊢;refine⟨λg o=>∃d e,cT F d/\Sr K F0 H0 d o g e/\(gh fc gb n e).res K E F0 H0 d D,λg o z=>⟨n,bw n,z⟩,?_⟩;refine G F0 H0 A y l k _ x ?_;cases h:gb k with
   |bad=>rw[h]at a;exact a.elim
   |nx ρ4=>rw[h]at a;exact λd v m s j=>⟨d,ρ4,(B.trans w).trans s,j,O.res.go a s⟩
   |ct ρ4=>rw[h]at a;exact λd v m s j=>⟨d,ρ4,(B.trans w).trans s,j,O.res.go a s⟩
   |bk ρ4=>rw[h]at a;exact a
   |rt t=>rw[h]at a;exact a
   |rf ts=>rw[h]at a;exact a
   |rn ts us=>rw[h]at a;exact a
   |er C n=>rw[h]at a;exact a
  |false=>rw[aQ aG]at a ⊢;exact a A y l (.refl _) x
@[simp] noncomputable def gD(a:List (Option Nat))(ρ:Pe):Pe:=a.map fun
 |none=>none
 |some j=>(ρ[j]?).getD none
def fy.pull{ρ:Pe}(V:fy K F σ ρ) ix:fy K F (L2.pull ix σ) (gD ix ρ):=λi t e=>by
 unfold gD at e;rw[av]at e;cases q:ix[i]? with
 |none=>rw[q]at e;cases e
 |some w=>
  rw[q]at e;cases w with
  |none=>cases e
  |some j=>
   have c:(ρ[j]?).getD none=some t:=by simpa using e
   cases z:ρ[j]? with
   |none=>rw[z]at c;cases c
   |some y=>rw[z]at c;have:y=some t:=c;rw[this]at z;obtain⟨v,a,b⟩:=V j t z;refine⟨v,?_,b⟩;unfold L2.pull;rw[av,q];simp[a]
@[simp] noncomputable def jl(m:T->Pe->Option Pe)(a:Pe->M Bool)(c:Pe->M T)(ρ:Pe)(t:T):M (Option T):=match m t ρ with
 |none=>.bad
 |some ρ1=>(a ρ1).bind λb=>if b then (c ρ1).bind λx=>.ok (some x) else .ok none
noncomputable def iB(k:T->M (Option T)):List T->M (List T)
 |[]=>.ok []
 |t::ts=>(k t).bind λo=>(iB k ts).bind λr=>.ok (match o with
  |some x=>x::r
  |none=>r)
def wu:XK:=λ_ _ _=>False
def Ad:MT K E zB (λ_=>.ok true):=λF H σ ρ Q s V q=>q F H (.refl s)
theorem uq{ρ:Pe}(hg:MG K g m)(ht:MT K wu tt ft)(he:ME K wu te fe)(V:fy K F1 σ ρ)
  (l:pA K J its F1) (s:cT F1 H1) (hl:its.length<sizeLine) (q:(iB (jl m ft fe (gD ix ρ)) its).res (kF K F1 H1 Q) (λ_ _=>False)):Ds J ix g tt te σ H1 Q:=by
 refine⟨λi k C H=>i<=its.length/\k=its.length-i/\∃S h,Gr F1 H1 S H/\cW K S C h/\h.length<=i/\(iB (jl m ft fe (gD ix ρ)) (its.drop i)).res (λus=>kF K F1 H1 Q (h++us)) (λ_ _=>False),
  ⟨_,bx _,rfl,F1,[],.refl s,.nil,bx _,by simpa using q⟩,?_⟩
 rintro i k C G ⟨hi,rfl,X,h,a,A,tl,r⟩;by_cases c:i<its.length
 .right;refine⟨l.go i G (a.ff.trans a.fh) c,by rw[A.length];omega,λx L y=>?_⟩;have et:=ag c;obtain⟨U,p,rp⟩:=l.yld i _ X G x L a.ff a.fh et y;rw[cg c]at r;unfold iB at r;have j:=M.res.unb r;unfold jl at j;cases I:m its[i] (gD ix ρ) with
  |none=>rw[I]at j;exact j.elim
  |some ρ3=>
   rw[I]at j;have d:=a.trans p;have V3:=(V.mono d.ff).pull ix;refine hg U L _ _ x _ ρ3 _ p.fh (by simp[L2.pull,gD]) V3 rp I λo hl' Y=>?_;have q4:=M.res.unb j;refine ht U L o ρ3 _ p.fh Y (q4.mono (λb z Z H4 n=>?_) λ_ _ z=>z.elim);cases b with
   |true=>rw[aP rfl]at z ⊢;have q5:=M.res.unb z;refine he Z H4 o ρ3 _ n.fh (Y.mono n.ff) (q5.mono (λx' z' v F5 H5 R N=>?_) λ_ _ z=>z.elim);refine⟨its.length-(i+1),by omega,c,rfl,F5,h++[x'],(d.trans n).trans R,(A.mono (p.ff.trans (n.ff.trans R.ff))).append (.cons N .nil),by simp;omega,?_⟩;have P:=M.res.unb z';exact P.mono (λus w=>by rw[bL];exact w) λ_ _ w=>w
   |false=>rw[aQ aG]at z ⊢;refine⟨its.length-(i+1),by omega,c,rfl,Z,h,d.trans n,A.mono (p.ff.trans n.ff),by omega,?_⟩;exact M.res.unb z
 .left;have e:i=its.length:=by omega
  subst e;rw[List.drop_length]at r;refine⟨l.stop G (a.ff.trans a.fh),λD B=>?_⟩;have j:kF K F1 H1 Q h:=by simpa[iB,M.res] using r
  exact j D C X _ (a.trans (.new' a.fh B)) (c9 a.hh B) (c9 a.fh B) cL A
def yS(d:MI K E w fi)(h:MG K g m)(j:MT K wu tt ft)(i:ME K wu te fe) :
  MF K E (uI ix w g tt te) (λρ=>(fi ρ).bind λa=>(if a.length<sizeLine then iB (jl m ft fe (gD ix ρ)) a else .bad).noEr):=λF H σ ρ Q s V q=>by
 refine d F H σ ρ _ s V ((M.res.unb q).mono (λa z J l k b c=>?_) λ_ _ z=>z);split at z
 .rename_i e;exact uq h j i (V.mono b.ff) c b.fh e (z.noEr.mono (λ_ w=>w.go b) λ_ _ w=>w)
 .exact z.elim
end
end L3
namespace L3
open PySem L2
section
variable {K:W.Frag}{E:XK}{t u ta tb:TE}{f fa fb:Pe->M T}{F0:Fz}{H0 F H F1 H1:Hp}{σ:St}{ρ:En}{D:iU}
noncomputable def jx(K:W.Frag)(F:List T->M T):Sp:=λb H Q E=>∃a F0,cT F0 H/\cW K F0 b a/\(F a).res (kV K F0 H Q) (kE E F0 H)
noncomputable def qH(K:W.Frag)(F:List T->M (List T)):Sp:=λb H Q E=>∃a F0,cT F0 H/\cW K F0 b a/\(F a).res (kF K F0 H Q) (kE E F0 H)
@[simp] noncomputable def ip(fa:Pe->M (List T))(F:List T->M T):Pe->M T:=λρ=>(fa ρ).bind F
@[simp] noncomputable def cP(fa:Pe->M (List T))(F:List T->M T):Pe->M T:=λρ=>(fa ρ).bind λa=>(F a).noEr
@[simp] noncomputable def jD(fa:Pe->M (List T))(F:List T->M (List T)):Pe->M (List T):=λρ=>(fa ρ).bind λa=>(F a).noEr
section
variable {tr:TA}{fr:Pe->M (List T)}{Fn:List T->M T}{Ff:List T->M (List T)}{E':XK}
def wU(b:MA K E tr fr):ME K E (jq (jx K Fn) [] E tr) (ip fr Fn):=λF H σ ρ Q s V q=>by refine b.run s V q λe g F1 H1 a d c=>?_;exact⟨e,F1,a.fh,by rw[bz];exact d,c.mono (λ_ z=>z.go a) λ_ _ z=>z⟩
def vZ(b:MA K E tr fr):ME K E (jq (jx K Fn) [] E' tr) (cP fr Fn):=λF H σ ρ Q s V q=>by refine b.run s V q λe g F1 H1 a d c=>?_;exact⟨e,F1,a.fh,by rw[bz];exact d,(c.mono (λ_ z=>kV.go z a) λ_ _ z=>z).noEr⟩
def vS(b:MA K E tr fr):MF K E (jq (qH K Ff) [] E' tr) (jD fr Ff):=λF H σ ρ Q s V q=>by refine b.run s V q λe g F1 H1 a d c=>?_;exact⟨e,F1,a.fh,by rw[bz];exact d,(c.mono (λ_ z=>kF.go z a) λ_ _ z=>z).noEr⟩
@[simp] noncomputable def jU(C:Addr)(m:Str)(x:T):M Unit:=match x with
 |.obj C' fs=>if C'=C/\fs.lookup m=none then .ok () else .bad
 |_=>.bad
@[simp] noncomputable def mK(C:Addr)(m:Str)(b:Pe->M T)(fr:Pe->M (List T))(F:List T->M T):Pe->M T:=λρ=>(b ρ).bind λx=>(jU C m x).bind λ_=>(fr ρ).bind λa=>F (x::a)
@[simp] noncomputable def jH(C:Addr)(m:Str)(b:Pe->M T)(fr:Pe->M (List T))(F:List T->M (List T)):Pe->M (List T):=λρ=>(b ρ).bind λx=>(jU C m x).bind λ_=>(fr ρ).bind λa=>(F (x::a)).noEr
def rS(r:eR K F v x)(e:jU C m x=.ok ()):∃a dx fs,v=.ref a/\F a=some (.ins C dx fs)/\fs.lookup m=none:=by
 cases r with
 |obj h rs=>
  rename_i a b dx fs d;have e:(if b=C/\List.lookup m d=none then M.ok () else M.bad)=.ok ():=e;by_cases c:b=C/\List.lookup m d=none
  .obtain⟨rfl,g⟩:=c;exact⟨a,dx,fs,rfl,h,rs.none_ g⟩
  .rw[aQ c]at e;cases e
 |_=>cases e
def rH:jU C m x≠.er C' n:=by
 unfold jU;split
 .split<;>exact λz=>nomatch z
 .exact λz=>nomatch z
def xo(r:ME K E ta fa)(hr:MA K E tr fr):ME K E (lC C m (jx K Fn) [] E ta tr) (mK C m fa fr Fn):=λF H σ ρ Q s V q=>by
 refine r.run s V q λx v F1 H1 b g c=>?_;cases e:jU C m x with
 |bad=>rw[e]at c;exact c.elim
 |er C n=>exact absurd e rH
 |ok u=>rw[e]at c;obtain⟨a,o,fs,rfl,h,j⟩:=rS g e;refine⟨a,o,fs,rfl,b.fh _ _ h,j,?_⟩;refine hr.run b.fh (V.mono b.ff) c λk w l y d i p=>?_;exact⟨x::k,l,d.fh,by rw[bz];exact .cons (g.mono d.ff) i,p.mono (λ_ z=>kV.go z (b.trans d)) λ_ _ z=>z⟩
def vE(r:ME K E ta fa)(hr:MA K E tr fr):MF K E (lC C m (qH K Ff) [] E' ta tr) (jH C m fa fr Ff):=λF H σ ρ Q s V q=>by
 refine r.run s V q λx v F1 H1 b g c=>?_;cases e:jU C m x with
 |bad=>rw[e]at c;exact c.elim
 |er C n=>exact absurd e rH
 |ok u=>rw[e]at c;obtain⟨a,o,fs,rfl,h,j⟩:=rS g e;refine⟨a,o,fs,rfl,b.fh _ _ h,j,?_⟩;refine hr.run b.fh (V.mono b.ff) c λk w l y d i p=>?_;exact⟨x::k,l,d.fh,by rw[bz];exact .cons (g.mono d.ff) i,(p.mono (λ_ z=>kF.go z (b.trans d)) λ_ _ z=>z).noEr⟩
end
@[simp] noncomputable def CK:O->M T
 |.nx _=>.ok .non
 |.rt t=>.ok t
 |.rf ts=>.ok (.lst ts)
 |.rn ts us=>.ok (.tup (ts++[.lst us]))
 |.er C n=>.er C n
 |_=>.bad
@[simp] noncomputable def Dc:O->M (List T)
 |.rf ts=>.ok ts
 |.er C n=>.er C n
 |_=>.bad
@[simp] noncomputable def cV(n:Nat)(ts:List T):En:=ts.map (λt=>some (W.p t))++List.replicate (n-ts.length) none
@[simp] noncomputable def iS(k n:Nat)(g:En->O):List T->M T:=λa=>if a.length=k then CK (g (cV n a)) else .bad
@[simp] noncomputable def tq(k n:Nat)(g:En->O):List T->M (List T):=λa=>if a.length=k then Dc (g (cV n a)) else .bad
def mv{n i:Nat}(e:(cV n ts)[i]? = some (some (.d kvs))):False:=by
 unfold cV at e;rw[List.getElem?_append]at e;split at e
 .rw[av]at e;cases q:ts[i]? with
  |none=>rw[q]at e;cases e
  |some x=>rw[q]at e;cases e
 .rw[List.getElem?_replicate]at e;split at e<;>cases e
def kH(s:cT F H)(r:cW K F vs ts):Sr K ⟨F,[]⟩ H F H (ee N vs) (cV N.length ts):=by
 refine⟨.refl s,?_,λi t e=>?_,⟨λ_=>0,λi k e=>?_,λi j k m e=>?_⟩,λ_ l=>(nomatch l),λ_ _ _ h=>(by cases h),⟨λi c e=>(mv e).elim,λi j c d e=>(mv e).elim⟩⟩
 .simp[L2.ee,cV,r.length]
 .unfold cV at e;rw[List.getElem?_append]at e;split at e
  .rename_i g;rw[av]at e;cases q:ts[i]? with
   |none=>rw[q]at e;cases e
   |some x=>rw[q]at e;cases e;obtain⟨v,a,b⟩:=r.get q;refine⟨v,?_,b⟩;unfold L2.ee;rw[List.getElem?_append_left (by simpa[r.length] using g),av,a];rfl
  .rw[List.getElem?_replicate]at e;split at e<;>cases e
 .exfalso;unfold cV at e;rw[List.getElem?_append]at e;split at e
  .rw[av]at e;cases q:ts[i]? with
   |none=>rw[q]at e;cases e
   |some x=>rw[q]at e;cases e
  .rw[List.getElem?_replicate]at e;split at e<;>cases e
 .exfalso;unfold cV at e;rw[List.getElem?_append]at e;split at e
  .rw[av]at e;cases q:ts[i]? with
   |none=>rw[q]at e;cases e
   |some x=>rw[q]at e;cases e
  .rw[List.getElem?_replicate]at e;split at e<;>cases e
def jF(h:jx K (iS k n g) vs H Q E):vs.length=k:=by
 obtain⟨b,F0,s,r,q⟩:=h;unfold iS at q;by_cases a:b.length=k
 .rw[r.length];exact a
 .rw[aQ a]at q;exact q.elim
def jh{t:TS}(i:MS K E t g)(h:jx K (iS k N.length g) vs H Q E):t {nx:=λ_ b=>Q .non b,rt:=Q} (ee N vs) H:=by
 obtain⟨a,F0,s,r,q⟩:=h;unfold iS at q;by_cases c:a.length=k
 .rw[aP c]at q;refine i ⟨F0,[]⟩ H F0 H _ _ _ (kH s r) ?_;cases e:g (cV N.length a) with
  |bad=>rw[e]at q;exact q
  |nx ρ=>rw[e]at q;exact λj b d _ l=>q .non j b l.gr .non
  |rt t=>rw[e]at q;exact q
  |rf a=>rw[e]at q;exact kF.of q
  |rn a us=>rw[e]at q;exact kT.of q
  |bk ρ=>rw[e]at q;exact q.elim
  |ct ρ=>rw[e]at q;exact q.elim
  |er C n=>rw[e]at q;exact q
 .rw[aQ c]at q;exact q.elim
def rz(h:qH K (tq k n g) vs H Q E):vs.length=k:=by
 obtain⟨b,F0,s,r,q⟩:=h;unfold tq at q;by_cases a:b.length=k
 .rw[r.length];exact a
 .rw[aQ a]at q;exact q.elim
def oZ{t:TS}(c:MS K E t g)(h:qH K (tq k N.length g) vs H Q E):t {nx:=λ_ d=>Q .non d,rt:=Q} (ee N vs) H:=by
 obtain⟨a,F0,s,r,q⟩:=h;unfold tq at q;by_cases b:a.length=k
 .rw[aP b]at q;refine c ⟨F0,[]⟩ H F0 H _ _ _ (kH s r) ?_;cases e:g (cV N.length a) with
  |bad=>rw[e]at q;exact q
  |nx ρ=>rw[e]at q;exact q.elim
  |rt t=>rw[e]at q;exact q.elim
  |rf a=>rw[e]at q;exact q
  |rn a us=>rw[e]at q;exact q.elim
  |bk ρ=>rw[e]at q;exact q.elim
  |ct ρ=>rw[e]at q;exact q.elim
  |er C n=>rw[e]at q;exact q
 .rw[aQ b]at q;exact q.elim
@[simp] noncomputable def jr(C:Addr)(x:Str)(fa:Pe->M T):Pe->M T:=λρ=>(fa ρ).bind λo=>match o with
 |.obj C' fs=>if C'=C then (match fs.lookup x with
  |some t=>.ok t
  |none=>.bad) else .bad
 |_=>.bad
def Ap(l:lS K C)(m:fq K C x)(i:ME K E ta fa):ME K E (zk K ta x) (jr C x fa):=λF H σ ρ Q s V q=>by
 refine i.run s V q λo v F1 H1 d r b=>?_;cases r with
 |obj h rs=>
  rename_i a c n fs k;dsimp only at b;by_cases g:c=C
  .subst g;rw[aP rfl]at b;cases e:List.lookup x k with
   |none=>rw[e]at b;exact b.elim
   |some y=>rw[e]at b;obtain⟨w,j,p⟩:=rs.look e;exact⟨a,c,n,fs,w,rfl,d.fh _ _ h,l,m,j,b w F1 H1 d p⟩
  .rw[aQ g]at b;exact b.elim
 |_=>exact b.elim
end
end L3
namespace L3
open PySem L2 PySem.Spec PyProof.Rows
structure Pm(K:W.Frag)(E:XK)(X:Cx)(e:Expr)(t:TE)(f:Pe->M T):Prop where
 pe:PE X e t
 me:ME K E t f
structure uB(K:W.Frag)(E:XK)(X:Cx)(e:Expr)(t:TE)(f:Pe->M (List T)):Prop where
 pe:PE X e t
 mf:MF K E t f
structure qU(K:W.Frag)(E:XK)(X:Cx)(e:Expr)(t:TT)(f:Pe->M Bool):Prop where
 pt:PT X e t
 mt:MT K E t f
structure AH(K:W.Frag)(E:XK)(X:Cx)(e:Expr)(t:TT)(f:Pe->M Bool):Prop where
 pw:PW X e t
 mt:MT K E t f
structure oK(K:W.Frag)(E:XK)(X:Cx)(es:List Expr)(t:TA)(f:Pe->M (List T)):Prop where
 pa:PA X es t
 ma:MA K E t f
structure yU(K:W.Frag)(E:XK)(X:Cx)(tg it:Expr)(w:TI)(f:Pe->M (List T)):Prop where
 pi:PI X tg it w
 mi:MI K E w f
structure sM(K:W.Frag)(E:XK)(X:Cx)(tg it:Expr)(w:TI)(f:Pe->M (List T)):Prop where
 pi:PI X tg it w
 mi:B7 K E w f
structure A6(K:W.Frag)(X:Cx)(tg:Expr)(g:TG)(m:T->Pe->Option Pe):Prop where
 pg:PG X tg g
 mg:MG K g m
structure wC(K:W.Frag)(X:Cx)(tg:List Expr)(g:yQ)(m:List T->Pe->Option Pe):Prop where
 pg:Bd X tg g
 mg:Br K g m
structure De(K:W.Frag)(X:Cx)(tg:Expr)(g:TG)(m:T->En->Option En):Prop where
 pg:PG X tg g
 mg:A5 K g m
structure nM(K:W.Frag)(E:XK)(X:Cx)(st:Stmt)(t:TS)(g:En->O):Prop where
 ps:PS X st t
 ms:MS K E t g
structure gU(K:W.Frag)(E:XK)(X:Cx)(sts:List Stmt)(t:TS)(g:En->O):Prop where
 ps:jY X sts t
 ms:MS K E t g
noncomputable def MO(K:W.Frag)(E:XK)(t:TO)(f:Pe->M (Option Int)):Prop:=∀F H b a Q,cT F H->fy K F b a->(f a).res (λo=>∀d c,Gr F H d c->Q o c) (kE E F H)->t b H Q
structure Cm(K:W.Frag)(E:XK)(X:Cx)(e:Oq Expr)(t:TO)(f:Pe->M (Option Int)):Prop where
 po:PO X e t
 mo:MO K E t f
structure vC(K:W.Frag)(E:XK)(X:Cx)(es:List Expr)(t:TT)(f:Pe->M Bool):Prop where
 pf:sg X es t
 mt:MT K E t f
section
variable {K:W.Frag}{E:XK}{X:Cx}{a b c e o:Expr}{es:List Expr}{ta tb tc te to:TE}{fa fb fc fe fo:Pe->M T}{tr:TA}{fr:Pe->M (List T)}{pos p p2 apos:Pos}
def dc i (h:X.N[i]? = some x:=by rfl) (g:BD X.env.scope x:=by first|exact Or.inl rfl|exact Or.inr (Or.inl rfl)|exact Or.inr (Or.inr rfl)) (f:(x==("__debug__" : Str))=false:=by decide)
  (d:(x==("__classdict__" : Str))=false:=by decide):Pm K E X (.Name x pos) (f7 i) (cE i):=⟨pv i h g f d,zY⟩
def dn{j pos}:Pm K E X (.Constant (.int i) j pos) (tC (.int i)) (cM (.int i)):=⟨Ak,tF λ_=>.int i⟩
def BF{b:Bool}{j pos}:Pm K E X (.Constant (.bool b) j pos) (tC (.bl b)) (cM (.bl b)):=⟨Bm,tF λ_=>.bl b⟩
def nN{j pos}:Pm K E X (.Constant .none j pos) (tC .non) (cM .non):=⟨AU,tF λ_=>.non⟩
def vf{j pos}:Pm K E X (.Constant (.str x) j pos) (tC (.str x)) (cM (.str x)):=⟨zq,tF λ_=>.str x⟩
def ph i (d:∃t,X.mg x=some (.int i t)) (f:Gl X x:=by rfl) (g:(x==("__debug__" : Str))=false:=by decide):Pm K E X (.Name x pos) (tC (.int i)) (cM (.int i)):=let ⟨t,h⟩:=d;⟨iK f h ⟨t,rfl⟩ g,tF λ_=>.int i⟩
def eL(h:uB K E X e te f):Pm K E X e te (λρ=>(f ρ).bind λts=>.ok (.lst ts)):=⟨h.pe,h.mf.me⟩
def kX(g:jd X (binaryOp op) r)(hr:MR K r m)(f:Pm K E X a ta fa)(d:Pm K E X b tb fb):Pm K E X (.BinOp a op b pos) (lQ r ta tb) (c6 m fa fb):=⟨vQ g f.pe d.pe,rP hr f.me d.me⟩
def v8(K:W.Frag):R2:=λx y H Q=>(sY λi j=>.int (i+j)) x y H Q\/(∃i j,x=.str i/\y=.str j/\i.length+j.length<=sizeLine/\Q (.str (i++j)) H)\/zh x y H Q\/
 ∃a b d f,x=.ref a/\y=.ref b/\H a=some (.tup d)/\H b=some (.tup f)/\d.length+f.length<=sizeLine/\(d=[]->Q (.ref b) H)/\(d≠[]->f=[]->Q (.ref a) H)/\(d≠[]->f≠[]->∀p,H p=none->Q (.ref p) (dB H p (.tup (d++f))))
def wH(G:X.K=K:=by rfl):jd X (binaryOp .Add) (v8 K):=by
 subst G;intro j s g H x y v u Q I d f h;rcases h with h|h|h|h
 .exact zQ j s g H x y v u Q I d f h
 .exact qL j s g H x y v u Q I d f h
 .exact tR j s g H x y v u Q I d f h
 .obtain⟨a,b,m,z,rfl,rfl,q,n,D,Z,S,Y⟩:=h;by_cases i:m=[]
  .subst i;cases d;cases f;obtain⟨L,r1,N,_⟩:=I.tuple (f6.of q);obtain⟨w,r2,p2,_⟩:=I.tuple (f6.of n);cases r1;obtain⟨⟨c1,d1,e1,s1⟩,t,C,J,l⟩:=id N;obtain⟨⟨c2,U,e2,R⟩,r,A,P,k⟩:=id p2;subst C l A k;exact concat_meets ⟨_,t,rfl⟩ ⟨_,r,rfl⟩ noFill_tuple_add seq_tuple_add PySem.F.slot_tuple_add PySem.F.entry_tuple_add (PySem.F.args_tuple_add_2 _ _) (tuple_addW0 a b _ _ J P d1 U s1 R (by simp)) ⟨t,r,⟨.ref b,H,I,rfl,Z rfl⟩⟩
  .exact xX j s g H _ _ v u Q I d f ⟨a,b,m,z,rfl,rfl,f6.of q,f6.of n,i,D,λe=>S i e,λe p B=>Y i e p B⟩
noncomputable def eD:T->T->M T
 |.int i,.int j=>.ok (.int (i+j))
 |.str i,.str j=>if i.length+j.length<=sizeLine then .ok (.str (i++j)) else .bad
 |.lst a,.lst b=>if a.length+b.length<=sizeLine then .ok (.lst (a++b)) else .bad
 |.tup a,.tup b=>if a.length+b.length<=sizeLine then .ok (.tup (a++b)) else .bad
 |_,_=>.bad
def yn x y:M.NoE (eD x y):=λC n=>by unfold eD;split<;>first|(intro z;cases z;done)|(split<;>intro z<;>cases z)
def xt:MR K (v8 K) eD:=⟨yn,λF H v w x y Q s r l q=>by
 cases r with
 |int i=>
  cases l with
  |int j=>exact .inl ⟨i,j,rfl,rfl,kV.now q s (.int _)⟩
  |_=>exact q.elim
 |str i=>
  cases l with
  |str j=>
   have d:(if i.length+j.length<=sizeLine then M.ok (T.str (i++j)) else M.bad).res (kV K F H Q) (λ_ _=>False):=q;by_cases h:i.length+j.length<=sizeLine
   .rw[aP h]at d;exact .inr (.inl ⟨i,j,rfl,rfl,h,kV.now d s (.str _)⟩)
   .rw[aQ h]at d;exact d.elim
  |_=>exact q.elim
 |lst h1 r1=>
  cases l with
  |lst h2 r2=>
   rename_i a m f b n g;have d:(if f.length+g.length<=sizeLine then M.ok (T.lst (f++g)) else M.bad).res (kV K F H Q) (λ_ _=>False):=q;by_cases h:f.length+g.length<=sizeLine
   .rw[aP h]at d;refine .inr (.inr (.inl ⟨a,b,m,n,rfl,rfl,s _ _ h1,s _ _ h2,by rw[r1.length,r2.length];exact h,λp k=>?_⟩));exact d (.ref p) _ _ (.new s k) (.lst cL ((r1.append r2).mono (Gr.new s k).ff))
   .rw[aQ h]at d;exact d.elim
  |_=>exact q.elim
 |tup h1 r1=>
  cases l with
  |tup h2 r2=>
   rename_i a m f b n g;have d:(if f.length+g.length<=sizeLine then M.ok (T.tup (f++g)) else M.bad).res (kV K F H Q) (λ_ _=>False):=q;by_cases h:f.length+g.length<=sizeLine
   .rw[aP h]at d;refine .inr (.inr (.inr ⟨a,b,m,n,rfl,rfl,s _ _ h1,s _ _ h2,by rw[r1.length,r2.length];exact h,λe=>?_,λ_ e=>?_,λ_ _ p k=>?_⟩))
    .subst e;cases r1;exact kV.now d s (.tup h2 r2)
    .subst e;cases r2;exact kV.now d s (.tup h1 (by rw[bz];exact r1))
    .exact d (.ref p) _ _ (.new s k) (.tup cL ((r1.append r2).mono (Gr.new s k).ff))
   .rw[aQ h]at d;exact d.elim
  |_=>exact q.elim
 |_=>exact q.elim⟩
def nJ(f:Pm K E X a ta fa)(d:Pm K E X b tb fb)(g:X.K=K:=by rfl):Pm K E X (.BinOp a .Add b pos) (lQ (v8 K) ta tb) (c6 eD fa fb):=kX (wH g) xt f d
@[simp] noncomputable def gx(fa fb:Pe->M T):Pe->M (List T):=λd=>(fa d).bind λx=>(fb d).bind λy=>match x,y with
 |.lst a,.lst b=>if a.length+b.length<=sizeLine then .ok (a++b) else .bad
 |_,_=>.bad
def qo(r:Pm K E X a ta fa)(n:Pm K E X b tb fb):uB K E X (.BinOp a .Add b pos) (lQ zh ta tb) (gx fa fb):=by
 refine⟨vQ tR r.pe n.pe,λF H L G Q s V q=>?_⟩;refine r.me.run s V q λx v I J j C B=>?_;refine n.me.run j.fh (V.mono j.ff) B λy w t D d A l=>?_;cases C with
 |lst h1 t1=>
  cases A with
  |lst h2 t2=>
   rename_i a u k b z m;have g:(if k.length+m.length<=sizeLine then M.ok (k++m) else M.bad).res (kF K F H Q) (kE E t D):=l;by_cases h:k.length+m.length<=sizeLine
   .rw[aP h]at g;refine⟨a,b,u,z,rfl,rfl,d.fh _ _ (d.ff _ _ h1),d.fh _ _ h2,by rw[t1.length,t2.length];exact h,λp i=>?_⟩;have f:=j.trans d;exact g p _ t _ (f.trans (.new' d.fh i)) (c9 f.hh i) (c9 d.fh i) cL ((t1.mono d.ff).append t2)
   .rw[aQ h]at g;exact g.elim
  |_=>exact l.elim
 |_=>exact l.elim
noncomputable def ui:T->T->M T:=eT (λ_ _=>true) λi j=>.int (i-j)
def Af(f:Pm K E X a ta fa)(d:Pm K E X b tb fb):Pm K E X (.BinOp a .Sub b pos) (lQ (sY λi j=>.int (i-j)) ta tb) (c6 ui fa fb):=kX AA (ko λ_ _ _=>.int _) f d
instance {i j:Int}:Decidable (PySem.IntMulOk i j):=inferInstanceAs (Decidable (¬_))
noncomputable def gS:T->T->M T:=eT (λi j=>decide (PySem.IntMulOk i j)) λi j=>.int (i*j)
def wt(f:Pm K E X a ta fa)(d:Pm K E X b tb fb):Pm K E X (.BinOp a .Mult b pos) (lQ (rI (λi j=>PySem.IntMulOk i j) λi j=>.int (i*j)) ta tb) (c6 gS fa fb):=kX xf (nz (λi j h=>of_decide_eq_true h) λ_ _ _=>.int _) f d
noncomputable def l8:T->T->M T:=eT (λi j=>decide (j≠0)&&!Builtin.divisionGoesByPylong i j) λi j=>.int (i.fdiv j)
def yB(f:Pm K E X a ta fa)(d:Pm K E X b tb fb):Pm K E X (.BinOp a .FloorDiv b pos) (lQ (rI (λi j=>j≠0/\Builtin.divisionGoesByPylong i j=false) λi j=>.int (i.fdiv j)) ta tb) (c6 l8 fa fb):=kX uT (nz (λi j h=>by simpa using h) λ_ _ _=>.int _) f d
noncomputable def nR:T->T->M T:=eT (λ_ j=>decide (j≠0)) λi j=>.int (i.fmod j)
def Ag(f:Pm K E X a ta fa)(d:Pm K E X b tb fb):Pm K E X (.BinOp a .Mod b pos) (lQ (rI (λ_ j=>j≠0) λi j=>.int (i.fmod j)) ta tb) (c6 nR fa fb):=kX yc (nz (λi j h=>by simpa using h) λ_ _ _=>.int _) f d
noncomputable def iV:T->T->M T:=eT (λi j=>decide (0<=j)&&decide (j<=1000000)&&decide (i.natAbs<18446744073709551616)) λi j=>.int (i ^ j.toNat)
def kx(f:Pm K E X a ta fa)(d:Pm K E X b tb fb):Pm K E X (.BinOp a .Pow b pos) (lQ (rI BI λi j=>.int (i ^ j.toNat)) ta tb) (c6 iV fa fb):=kX AY (nz (λi j h=>by simp only[bH,decide_eq_true_eq]at h;exact⟨h.1.1,h.1.2,h.2⟩) λ_ _ _=>.int _) f d
def nI(d:Pm K E X a ta fa):Pm K E X (.UnaryOp .USub a pos) (Di (rU λi=>.int (-i)) ta) (l7 (λi=>.int (-i)) fa):=⟨BK AS d.pe,BQ (λ_ _=>.int _) d.me⟩
@[simp] noncomputable def oP(fa fb:Pe->M T):Pe->M (List T):=λd=>(fa d).bind λx=>(fb d).bind λy=>match x,y with
 |.lst a,.int k=>if tf k=true/\a.length*k.toNat<=sizeLine then .ok (List.replicate k.toNat a).flatten else .bad
 |_,_=>.bad
def Al(r:Pm K E X a ta fa)(n:Pm K E X b tb fb):uB K E X (.BinOp a .Mult b pos) (lQ BV ta tb) (oP fa fb):=by
 refine⟨vQ zl r.pe n.pe,λF H J D Q s V q=>?_⟩;refine r.me.run s V q λx v G I j B A=>?_;refine n.me.run j.fh (V.mono j.ff) A λy w t C d z m=>?_;cases B with
 |lst h1 t1=>
  cases z with
  |int k=>
   rename_i a u l;have g:(if tf k=true/\l.length*k.toNat<=sizeLine then M.ok (List.replicate k.toNat l).flatten else M.bad).res (kF K F H Q) (kE E t C):=m;by_cases h:tf k=true/\l.length*k.toNat<=sizeLine
   .rw[aP h]at g;refine⟨a,k,u,rfl,rfl,d.fh _ _ (d.ff _ _ h1),by have:=iL h.1;rw[B8]at this;rw[CG];omega,by have:=iL h.1;rw[B8]at this;rw[CG];omega,by rw[t1.length];exact h.2,λp i=>?_⟩;have f:=j.trans d;exact g p _ t _ (f.trans (.new' d.fh i)) (c9 f.hh i) (c9 d.fh i) cL ((t1.mono d.ff).rep k.toNat)
   .rw[aQ h]at g;exact g.elim
  |_=>exact m.elim
 |_=>exact m.elim
def q0(h:Pm K E X e te fe)(he:∀whole,isTrue e X.env whole=(do let v <-whole;standAt e.pos;holding [v] (truthy v)):=by intro _;rfl):qU K E X e (tB te) (dU fe):=⟨lN h.pe he,xZ h.me⟩
section
variable {tA tD:TT}{fA fD:Pe->M Bool}{dP:List Expr}
def kn(h:qU K E X a tA fA):qU K E X (.UnaryOp .Not a pos) (xy tA) (gR fA):=⟨vK h.pt,Ac h.mt⟩
def vt(h:AH K E X a tA fA):qU K E X a tA fA:=⟨PW.pt h.pw,h.mt⟩
def vN(h:qU K E X a tA fA):AH K E X (.BoolOp .And [a] pos) tA fA:=⟨rq h.pt,h.mt⟩
def ju(h:qU K E X a tA fA):AH K E X (.BoolOp .Or [a] pos) tA fA:=⟨zE h.pt,h.mt⟩
def xJ(h:qU K E X a tA fA)(h':AH K E X (.BoolOp .And (b::dP) pos) tD fD):AH K E X (.BoolOp .And (a::b::dP) pos) (xh tA tD) (qG fA fD):=⟨nv h.pt h'.pw,zW h.mt h'.mt⟩
def kL(h:qU K E X a tA fA)(h':AH K E X (.BoolOp .Or (b::dP) pos) tD fD):AH K E X (.BoolOp .Or (a::b::dP) pos) (CU tA tD) (ll fA fD):=⟨BP h.pt h'.pw,Bx h.mt h'.mt⟩
def mZ{op}(h:Pm K E X a ta fa):Pm K E X (.BoolOp op [a] pos) ta fa:=⟨AQ h.pe,h.me⟩
def nu(h:Pm K E X a ta fa)(h':Pm K E X (.BoolOp .And (b::dP) pos) tb fb):Pm K E X (.BoolOp .And (a::b::dP) pos) (uh ta tb) (tz fa fb):=⟨AJ h.pe h'.pe,ym h.me h'.me⟩
def nV(h:Pm K E X a ta fa):Pm K E X (.UnaryOp .Not a pos) (uJ ta) (pT fa):=⟨zX h.pe,xN h.me⟩
end
def uy(h:jd X (compareOp op) r)(hr:MR K r m)(f:Pm K E X a ta fa)(d:Pm K E X b tb fb)(g:behindInMarks op b=false:=by exact jN _):Pm K E X (.Compare a [op] [b] pos) (lQ r ta tb) (c6 m fa fb):=⟨wQ h f.pe d.pe g,rP hr f.me d.me⟩
def eO(h:jd X (compareOp op) r)(hr:MR K r m)(f:Pm K E X a ta fa)(d:Pm K E X b tb fb)(g:behindInMarks op b=false:=by exact jN _):qU K E X (.Compare a [op] [b] pos) (pI (lQ r ta tb)) (dU (c6 m fa fb)):=⟨yw h f.pe d.pe g,wN (rP hr f.me d.me)⟩
noncomputable def CZ:T->T->M T:=eT (λ_ _=>true) λi j=>.bl (decide (i<j))
noncomputable def Cf:T->T->M T:=eT (λ_ _=>true) λi j=>.bl (decide (i<=j))
noncomputable def yR:T->T->M T:=eT (λ_ _=>true) λi j=>.bl (decide (j<=i))
def yM:MR K (sY λi j=>.bl (decide (i<j))) CZ:=ko λ_ _ _=>.bl _
def uz:MR K (sY λi j=>.bl (decide (i<=j))) Cf:=ko λ_ _ _=>.bl _
def tU:MR K (sY λi j=>.bl (decide (j<=i))) yR:=ko λ_ _ _=>.bl _
@[simp] noncomputable def Dg(m f:T->T->M T)(fa fb fc:Pe->M T):Pe->M T:=λd=>(fa d).bind λx=>(fb d).bind λy=>(m x y).bind λz=>match z with
 |.bl true=>(fc d).bind λw=>f y w
 |.bl false=>.ok (.bl false)
 |_=>.bad
def vG(hr:MR K r m)(f:MR K r' m')(D:ME K E ta fa)(C:ME K E tb fb)(Y:ME K E tc fc):ME K E (p6 r r' ta tb tc) (Dg m m' fa fb fc):=λF H σ ρ Q s V q=>by
 refine D.run s V q λx v F1 H1 l Z U=>?_;refine C.run l.fh (V.mono l.ff) U λy w L H2 i t P=>?_;refine hr.ok L H2 v w x y _ i.fh (Z.mono i.ff) t (((M.res.unb P).ne (hr.ne x y)).mono (λz h v3 J I g G=>?_) λ_ _ z=>z);have d:=(l.trans i).trans g;cases G with
 |bl k=>
  refine⟨k,rfl,?_⟩;cases k with
  |true=>rw[aP rfl];have j:=h.mono (λ_ z=>z) λ_ _ z=>z.go g;refine Y.run g.fh (V.mono d.ff) j λu A S B n N R=>?_;exact f.ok S B w A y u Q n.fh (t.mono (g.ff.trans n.ff)) N ((R.ne (f.ne y u)).mono (λ_ z=>z.go (d.trans n)) λ_ _ z=>z)
  |false=>rw[aQ aG];exact h _ J I d (.bl _)
 |_=>exact h.elim
def t6(k:jd X (compareOp op) r)(hr:MR K r m)(f:jd X (compareOp op') r')(d:MR K r' m')(h:Pm K E X a ta fa)(g:Pm K E X b tb fb)(i:Pm K E X c tc fc)
  (j:lastMarks [op,op'] [b,c]=false:=by with_unfolding_all rfl):Pm K E X (.Compare a [op,op'] [b,c] pos) (p6 r r' ta tb tc) (Dg m m' fa fb fc):=⟨vX k f h.pe g.pe i.pe j,vG hr d h.me g.me i.me⟩
mutual
noncomputable def jy:T->Bool
 |.str x=>PyData.canLay0 (.str x)
 |.lst ts=>jW ts
 |.tup ts=>jW ts
 |.scr _=>false
 |.obj _ _=>false
 |.emp=>false
 |.dic _=>false
 |_=>true
noncomputable def jW:List T->Bool
 |[]=>true
 |t::ts=>jy t&&jW ts
end
mutual
def pL:T->PyData
 |.non=>.none
 |.bl b=>.bool b
 |.int i=>.int i
 |.str x=>.str x
 |.lst ts=>.list (j9 ts)
 |.tup ts=>.tuple (j9 ts)
 |.scr _=>.none
 |.obj _ _=>.none
 |.emp=>.none
 |.dic _=>.none
def j9:List T->List PyData
 |[]=>[]
 |t::ts=>pL t::j9 ts
end
mutual
theorem ub{F:Hp}:∀{v:V} {t:T},eR K F v t->jy t=true->DV K F v (pL t)
 |_,_,.non,_=>.non
 |_,_,.bl b,_=>.bl b
 |_,_,.int i,_=>.int i
 |_,_,.str x,_=>.str x
 |_,_,.lst h r,l=>.lst (fQ.of h) (pX r (by simpa[jy] using l))
 |_,_,.tup h r,l=>.tup (f6.of h) (pX r (by simpa[jy] using l))
 |_,_,.scr _,l=>by simp[jy]at l
 |_,_,.obj _ _,l=>by simp[jy]at l
 |_,_,.emp _,l=>by simp[jy]at l
 |_,_,.dic _ _,l=>by simp[jy]at l
theorem pX{F:Hp}:∀{vs:List V} {ts:List T},cW K F vs ts->jW ts=true->pj K F vs (j9 ts)
 |_,_,.nil,_=>.nil
 |_,_,.cons h r,l=>by rw[jW,bH]at l;exact .cons (ub h l.1) (pX r l.2)
end
mutual
theorem nh:∀t,jy t=true->(pL t).canLay0=true
 |.non,_=>rfl
 |.bl b,_=>rfl
 |.int i,_=>rfl
 |.str x,h=>by simpa[jy,pL] using h
 |.lst ts,h=>by rw[pL,PyData.canLay0];exact kJ ts (by simpa[jy] using h)
 |.tup ts,h=>by rw[pL,PyData.canLay0];exact kJ ts (by simpa[jy] using h)
 |.scr _,h=>by simp[jy]at h
 |.obj _ _,h=>by simp[jy]at h
 |.emp,h=>by simp[jy]at h
 |.dic _,h=>by simp[jy]at h
theorem kJ:∀ts,jW ts=true->PyData.canLayAll0 (j9 ts)=true
 |[],_=>rfl
 |t::ts,h=>by rw[jW,bH]at h;rw[j9,PyData.canLayAll0,nh t h.1,kJ ts h.2];rfl
end
noncomputable def tj(x y:T):Bool:=(pL x).eqv (pL y)
noncomputable def lH(a b:List T):Bool:=PyData.eqvAll (j9 a) (j9 b)
noncomputable def rO(t:T):Nat:=(pL t).depth
noncomputable def kc(ts:List T):Nat:=PyData.depthAll (j9 ts)
@[simp] theorem Cj i:rO (.int i)=0:=rfl
@[simp] theorem C8 i:rO (.bl i)=0:=rfl
@[simp] theorem Cz i:rO (.str i)=0:=rfl
@[simp] theorem Ct:rO .non=0:=rfl
@[simp] theorem Cq ts:rO (.lst ts)=kc ts+1:=by unfold rO kc;rw[pL,PyData.depth]
@[simp] theorem yp ts:rO (.tup ts)=kc ts+1:=by unfold rO kc;rw[pL,PyData.depth]
@[simp] theorem Ba:kc []=0:=rfl
@[simp] theorem sy t ts:kc (t::ts)=max (rO t) (kc ts):=by unfold rO kc;rw[j9,PyData.depthAll]
@[simp] theorem Cn i j:tj (.int i) (.int j)=(i==j):=rfl
@[simp] theorem Cy i j:tj (.str i) (.str j)=(i==j):=rfl
def m6 xs ys:tj (.lst xs) (.lst ys)=lH xs ys:=by unfold tj lH;rw[pL,pL,PyData.eqv]
def km xs ys:tj (.tup xs) (.tup ys)=lH xs ys:=by unfold tj lH;rw[pL,pL,PyData.eqv]
def jA x xs y ys:lH (x::xs) (y::ys)=(tj x y&&lH xs ys):=by unfold tj lH;rw[j9,j9,PyData.eqvAll]
noncomputable def df(a:Bool):T->T->M T:=λx y=>if jy x&&jy y&&decide (rO x<=100) then .ok (.bl (if a then !tj x y else tj x y)) else .bad
mutual
theorem DV.same{F H:Hp}(s:cT F H):∀{v:V} {d:PyData},DV K F v d->DV K H v d
 |_,_,.non=>.non
 |_,_,.bl b=>.bl b
 |_,_,.int i=>.int i
 |_,_,.str x=>.str x
 |_,_,.lst h r=>.lst (s.seq h) (pj.same s r)
 |_,_,.tup h r=>.tup (s.seqT h) (pj.same s r)
theorem pj.same{F H:Hp}(s:cT F H):∀{v:List V} {d:List PyData},pj K F v d->pj K H v d
 |_,_,.nil=>.nil
 |_,_,.cons h r=>.cons (DV.same s h) (pj.same s r)
end
def xa x y:M.NoE (df neg x y):=λC n=>by unfold df;split<;>exact λz=>nomatch z
def qR(a:Bool):MR K (qu K a) (df a):=⟨xa,λF H v w x y Q s c b q=>by
 unfold df at q;by_cases h:(jy x&&jy y&&decide (rO x<=100))=true
 .rw[aP h]at q;simp only[bH,decide_eq_true_eq]at h;refine⟨pL x,pL y,DV.same s (ub c h.1.1),DV.same s (ub b h.1.2),⟨nh x h.1.1,nh y h.1.2,by exact h.2⟩,?_⟩;exact kV.now q s (.bl _)
 .rw[aQ h]at q;exact q.elim⟩
def yP{k:Nat}(hr:dy k X.A)(d:Pm K E X a ta fa)(c:Pm K E X b tb fb)(f:X.K=K:=by rfl)(e:behindInMarks .Eq b=false:=by exact jN _):Pm K E X (.Compare a [.Eq] [b] pos) (lQ (qu K false) ta tb) (c6 (df false) fa fb):=uy (f▸wo (Ck hr)) (qR false) d c e
def BU{k:Nat}(hr:dy k X.A)(d:Pm K E X a ta fa)(c:Pm K E X b tb fb)(f:X.K=K:=by rfl)(e:behindInMarks .NotEq b=false:=by exact jN _):Pm K E X (.Compare a [.NotEq] [b] pos) (lQ (qu K true) ta tb) (c6 (df true) fa fb):=uy (f▸uS (Ck hr)) (qR true) d c e
def tN{k:Nat}(hr:dy k X.A)(d:Pm K E X a ta fa)(c:Pm K E X b tb fb)(f:X.K=K:=by rfl)(e:behindInMarks .Eq b=false:=by exact jN _):qU K E X (.Compare a [.Eq] [b] pos) (pI (lQ (qu K false) ta tb)) (dU (c6 (df false) fa fb)):=eO (f▸wo (Ck hr)) (qR false) d c e
def jT{k:Nat}(hr:dy k X.A)(d:Pm K E X a ta fa)(c:Pm K E X b tb fb)(f:X.K=K:=by rfl)(e:behindInMarks .NotEq b=false:=by exact jN _):qU K E X (.Compare a [.NotEq] [b] pos) (pI (lQ (qu K true) ta tb)) (dU (c6 (df true) fa fb)):=eO (f▸uS (Ck hr)) (qR true) d c e
@[simp] noncomputable def vI(a:Bool):T->T->M T:=λx y=>match y with
 |.non=>.ok (.bl (match x with|.non=>!a|_=>a))
 |_=>.bad
def yb x y:M.NoE (vI neg x y):=λC n=>by cases y<;>exact λz=>nomatch z
def uU:MR K (λx y H Q=>y=.non/\Q (.bl (decide (x=.non))) H) (vI false):=⟨yb,λF H v w x y Q s b a q=>by
 cases a with
 |non=>refine⟨rfl,?_⟩;cases b<;>exact kV.now q s (.bl _)
 |_=>exact q.elim⟩
end
end L3
namespace L3
open PySem L2 PySem.Spec PyProof.Rows
section
variable {K:W.Frag}{E:XK}{X:Cx}{a b c e o tg it:Expr}{es:List Expr}{ta tb tc te to:TE}{fa fb fc fe fo:Pe->M T}{tr:TA}{fr:Pe->M (List T)}{pos p p2 apos:Pos}
def dh:oK K E X [] jo cF:=⟨ib,uW⟩
def cH(d:Pm K E X e te fe)(hr:oK K E X es tr fr)(f:starEach (e::es) X.env=(false,eval e X.env)::starEach es X.env:=by rfl):oK K E X (e::es) (fj te tr) (cC fe fr):=⟨dZ d.pe hr.pa f,xl d.me hr.ma⟩
def vg{x1}(h:oK K E X es tr fr):Pm K E X (.Tuple es x1 pos) (xb tr) (ie fr):=⟨um h.pa,Ar h.ma⟩
def iF(h:oK K E X es tr fr):uB K E X (.List es pos) (Ai tr) (lstM fr):=⟨z9 h.pa,zH h.ma⟩
structure MC(K:W.Frag)(r:List V->Hp->VK->Prop)(o:List T->M T):Prop where
 ne:∀xs,M.NoE (o xs)
 ok:∀F H vs xs Q,cT F H->cW K F vs xs->(o xs).res (kV K F H Q) (λ_ _=>False)->r vs H Q
structure CN(K:W.Frag)(r:List V->Hp->VK->Prop)(o:List T->M (List T)):Prop where
 ne:∀xs,M.NoE (o xs)
 ok:∀F H vs xs Q,cT F H->cW K F vs xs->(o xs).res (kF K F H Q) (λ_ _=>False)->r vs H Q
@[simp] noncomputable def fP(o:List T->M T)(fr:Pe->M (List T)):Pe->M T:=λd=>(fr d).bind o
@[simp] noncomputable def sj(o:List T->M (List T))(fr:Pe->M (List T)):Pe->M (List T):=λd=>(fr d).bind o
def yK{o:List T->M T}(g:MC K r o)(i:MA K E tr fr):ME K E (tm r tr) (fP o fr):=λF H t n Q s V q=>by refine i.run s V q λd k h j f m l=>?_;exact g.ok h j k d Q f.fh m ((l.ne (g.ne d)).mono (λ_ z=>z.go f) λ_ _ z=>z)
def BR{o:List T->M (List T)}(g:CN K r o)(i:MA K E tr fr):MF K E (tm r tr) (sj o fr):=λF H t n Q s V q=>by refine i.run s V q λd k h j f m l=>?_;exact g.ok h j k d Q f.fh m ((l.ne (g.ne d)).mono (λ_ z=>z.go f) λ_ _ z=>z)
section
variable {x:Str}{id T':String}{r:List V->Hp->VK->Prop}{m:List T->M T}{mf:List T->M (List T)}
def du(j:e8 X (.builtin id) r)(f:MC K r m)(l:Gl X x)(k:X.mg x=none)(q:bootBuiltins x=some (.builtin id))(h:oK K E X (e::es) tr fr)(n:x≠ "__name__" :=by decide)(g:(x==("__debug__" : Str))=false:=by decide)
  (i:starEach (e::es) X.env=(false,eval e X.env)::starEach es X.env:=by rfl) (d:(backTo pos (starEach es X.env)).any (·.1)=false:=by rfl):Pm K E X (.Call (.Name x p) (e::es) [] pos) (tm r tr) (fP m fr):=⟨ik j l k q h.pa n g i d,yK f h.ma⟩
def eS(j:e8 X (.type T') r)(f:MC K r m)(l:Gl X x)(k:X.mg x=none)(q:bootBuiltins x=some (.type T'))(h:oK K E X (e::es) tr fr)(n:x≠ "__name__" :=by decide)(g:(x==("__debug__" : Str))=false:=by decide)
  (i:starEach (e::es) X.env=(false,eval e X.env)::starEach es X.env:=by rfl) (d:(backTo pos (starEach es X.env)).any (·.1)=false:=by rfl):Pm K E X (.Call (.Name x p) (e::es) [] pos) (tm r tr) (fP m fr):=⟨mj j l k q h.pa n g i d,yK f h.ma⟩
def gO(j:e8 X (.type T') r)(f:CN K r mf)(l:Gl X x)(k:X.mg x=none)(q:bootBuiltins x=some (.type T'))(h:oK K E X (e::es) tr fr)(n:x≠ "__name__" :=by decide)(g:(x==("__debug__" : Str))=false:=by decide)
  (i:starEach (e::es) X.env=(false,eval e X.env)::starEach es X.env:=by rfl) (d:(backTo pos (starEach es X.env)).any (·.1)=false:=by rfl):uB K E X (.Call (.Name x p) (e::es) [] pos) (tm r tr) (sj mf fr):=⟨mj j l k q h.pa n g i d,BR f h.ma⟩
end
@[simp] noncomputable def eP:List T->M T
 |[.lst ts]=>.ok (.int ts.length)
 |[.tup ts]=>.ok (.int ts.length)
 |[.scr ns]=>.ok (.int ns.length)
 |[.str z]=>if z.length<=sizeLine then .ok (.int z.length) else .bad
 |_=>.bad
def xr xs:M.NoE (eP xs):=λC n=>by unfold eP;split<;>first|(intro z;cases z;done)|(split<;>first|(intro z;cases z;done)|(split<;>intro z<;>cases z))
def fS:MC K (λg H Q=>∃x n,g=[x]/\Ax K x H n/\Q (.int n) H) eP:=⟨xr,λF H i g Q s r q=>by
 cases r with
 |nil=>exact q.elim
 |cons h t=>
  cases t with
  |cons _ _=>cases h<;>exact q.elim
  |nil=>
   cases h with
   |lst h r=>exact⟨_,_,rfl,.inl ⟨_,fQ.of (s _ _ h),rfl⟩,by rw[r.length];exact kV.now q s (.int _)⟩
   |tup h r=>exact⟨_,_,rfl,.inr ⟨_,f6.of (s _ _ h),rfl⟩,by rw[r.length];exact kV.now q s (.int _)⟩
   |scr h=>exact⟨_,_,rfl,.inl ⟨_,s.seq h,rfl⟩,by rw[aw];exact kV.now q s (.int _)⟩
   |str z=>
    have d:(if z.length<=sizeLine then M.ok (T.int z.length) else M.bad).res (kV K F H Q) (λ_ _=>False):=q;by_cases f:z.length<=sizeLine
    .rw[aP f]at d;exact⟨_,z.length,rfl,⟨f,rfl⟩,kV.now d s (.int _)⟩
    .rw[aQ f]at d;exact d.elim
   |_=>exact q.elim⟩
@[simp] noncomputable def eF:List T->M T
 |[.lst ts]=>.ok (.tup ts)
 |[.tup ts]=>.ok (.tup ts)
 |[.scr ns]=>.ok (.tup (ns.map T.int))
 |_=>.bad
def qy xs:M.NoE (eF xs):=λC n=>by unfold eF;split<;>first|(intro z;cases z;done)|(split<;>first|(intro z;cases z;done)|(split<;>intro z<;>cases z))
def fE:MC K (λg H Q=>∃p f,g=[.ref p]/\((fQ K H p f/\∀l,H l=none->Q (.ref l) (dB H l (.tup f)))\/(f6 K H p f/\Q (.ref p) H))) eF:=⟨qy,λF H i g Q s r q=>by
 cases r with
 |nil=>exact q.elim
 |cons h t=>
  cases t with
  |cons _ _=>cases h<;>exact q.elim
  |nil=>
   cases h with
   |lst h r=>exact⟨_,_,rfl,.inl ⟨fQ.of (s _ _ h),λl d=>q (.ref l) _ _ (.new s d) (.tup cL (r.mono (Gr.new s d).ff))⟩⟩
   |scr h=>exact⟨_,_,rfl,.inl ⟨s.seq h,λl d=>q (.ref l) _ _ (.new s d) (.tup cL (cW.of_ints _))⟩⟩
   |tup h r=>exact⟨_,_,rfl,.inr ⟨f6.of (s _ _ h),kV.now q s (.tup h r)⟩⟩
   |_=>exact q.elim⟩
@[simp] noncomputable def gd:List T->M (List T)
 |[.lst ts]=>.ok ts
 |[.tup ts]=>.ok ts
 |[.scr ns]=>.ok (ns.map T.int)
 |_=>.bad
def sT xs:M.NoE (gd xs):=λC n=>by unfold gd;split<;>first|(intro z;cases z;done)|(split<;>first|(intro z;cases z;done)|(split<;>intro z<;>cases z))
def ig:CN K (λg H Q=>∃p f,g=[.ref p]/\(fQ K H p f\/f6 K H p f)/\∀l,H l=none->Q (.ref l) (dB H l (.lst f))) gd:=⟨sT,λF H i g Q s r q=>by
 cases r with
 |nil=>exact q.elim
 |cons h t=>
  cases t with
  |cons _ _=>cases h<;>exact q.elim
  |nil=>
   cases h with
   |lst h r=>exact⟨_,_,rfl,.inl (fQ.of (s _ _ h)),λl d=>q l _ F _ (.new' s d) d (c9 s d) cL r⟩
   |scr h=>exact⟨_,_,rfl,.inl (s.seq h),λl d=>q l _ F _ (.new' s d) d (c9 s d) cL (cW.of_ints _)⟩
   |tup h r=>exact⟨_,_,rfl,.inr (f6.of (s _ _ h)),λl d=>q l _ F _ (.new' s d) d (c9 s d) cL r⟩
   |_=>exact q.elim⟩
def fF:List T->Option (LI)
 |[]=>some []
 |.int i::ts=>(fF ts).bind λr=>some (i::r)
 |_::_=>none
theorem kR:∀{ts} {ns},fF ts=some ns->ts=ns.map T.int
 |[],_,e=>by cases e;rfl
 |t::ts,ns,e=>by
  cases t with
  |int i=>
   cases q:fF ts with
   |none=>simp[fF,q]at e
   |some r=>simp[fF,q]at e;subst e;rw[kR q];rfl
  |_=>cases e
@[simp] theorem A3 ns:fF (ns.map T.int)=some ns:=by
 induction ns with
 |nil=>rfl
 |cons n ns ih=>simp[fF,ih]
def iX:List T->Option (List Bool)
 |[]=>some []
 |.bl i::ts=>(iX ts).bind λr=>some (i::r)
 |_::_=>none
theorem mG:∀{ts} {ns},iX ts=some ns->ts=ns.map T.bl
 |[],_,e=>by cases e;rfl
 |t::ts,ns,e=>by
  cases t with
  |bl i=>
   cases q:iX ts with
   |none=>simp[iX,q]at e
   |some r=>simp[iX,q]at e;subst e;rw[mG q];rfl
  |_=>cases e
@[simp] theorem BG ns:iX (ns.map T.bl)=some ns:=by
 induction ns with
 |nil=>rfl
 |cons n ns ih=>simp[iX,ih]
@[simp] noncomputable def uM:List T->M T
 |[.lst ts]=>match fF ts with
  |some ns=>.ok (.int ns.sum)
  |none=>.bad
 |_=>.bad
def wZ xs:M.NoE (uM xs):=λC n=>by unfold uM;split<;>first|(intro z;cases z;done)|(split<;>first|(intro z;cases z;done)|(split<;>intro z<;>cases z))
def zG:MC K (λf H Q=>∃(p:Addr) (ns:LI),f=[.ref p]/\fQ K H p (ns.map V.int)/\Q (.int ns.sum) H) uM:=⟨wZ,λF H i f Q s r q=>by
 cases r with
 |nil=>exact q.elim
 |cons h t=>
  cases t with
  |cons _ _=>cases h<;>exact q.elim
  |nil=>
   cases h with
   |lst h r=>
    rename_i a f g;have d:(match fF g with|some ns=>M.ok (T.int ns.sum)|none=>M.bad).res (kV K F H Q) (λ_ _=>False):=q;cases e:fF g with
    |none=>rw[e]at d;exact d.elim
    |some ns=>rw[e]at d;rw[kR e]at r;have:=r.ints;subst this;exact⟨a,ns,rfl,fQ.of (s _ _ h),kV.now d s (.int _)⟩
   |_=>exact q.elim⟩
@[simp] noncomputable def sV:List T->M T
 |[.lst ts]=>match iX ts with
  |some ns=>.ok (.bl (ns.all id))
  |none=>.bad
 |_=>.bad
def wD xs:M.NoE (sV xs):=λC n=>by unfold sV;split<;>first|(intro z;cases z;done)|(split<;>first|(intro z;cases z;done)|(split<;>intro z<;>cases z))
def pU:MC K (λf H Q=>∃(p:Addr) (bs:List Bool),f=[.ref p]/\fQ K H p (bs.map V.bl)/\Q (.bl (bs.all id)) H) sV:=⟨wD,λF H i f Q s r q=>by
 cases r with
 |nil=>exact q.elim
 |cons h t=>
  cases t with
  |cons _ _=>cases h<;>exact q.elim
  |nil=>
   cases h with
   |lst h r=>
    rename_i a f g;have d:(match iX g with|some ns=>M.ok (T.bl (ns.all id))|none=>M.bad).res (kV K F H Q) (λ_ _=>False):=q;cases e:iX g with
    |none=>rw[e]at d;exact d.elim
    |some ns=>rw[e]at d;rw[mG e]at r;have:=r.bls;subst this;exact⟨a,ns,rfl,fQ.of (s _ _ h),kV.now d s (.bl _)⟩
   |_=>exact q.elim⟩
@[simp] noncomputable def A2:T->String
 |.non=> "NoneType"
 |.bl _=> "bool"
 |.int _=> "int"
 |.str _=> "str"
 |.tup _=> "tuple"
 |.lst _=> "list"
 |.scr _=> "script"
 |.obj _ _=> "object"
 |.emp=> "dict"
 |.dic _=> "table"
@[simp] noncomputable def vd(n:String)(x:T):M T:=match x with
 |.scr _=>.bad
 |.obj _ _=>.bad
 |.dic _=>.bad
 |x=>.ok (.bl (A2 x==n||(n == "int" && A2 x == "bool")))
def Bo(r:eR K F v x)(s:cT F H)(g:∀ns,x≠.scr ns)(j:∀C fs,x≠.obj C fs)(d:∀f,x≠.dic f):iw K H v (.type (A2 x)):=by
 cases r with
 |non=>exact .non
 |bl b=>exact .bl b
 |int i=>exact .int i
 |str x=>exact .str x
 |tup h r=>exact .tup (s _ _ h)
 |lst h r=>exact .lst (s _ _ h)
 |scr h=>exact absurd rfl (g _)
 |obj h r=>exact absurd rfl (j _ _)
 |emp h=>exact .dK (s _ _ h)
 |dic h r=>exact absurd rfl (d _)
@[simp] noncomputable def jV(n:String)(fe:Pe->M T):Pe->M T:=λd=>(fe d).bind λx=>vd n x
theorem AC(B:∀t∈["NoneType", "bool", "int", "str", "tuple", "list", "dict"],W.kitOne K (.type t) (.type n)=some (t==n||(n == "int" && t == "bool")))(A:ME K E te fe) :
  ME K E (tm (λu H Q=>∃x T t b,u=[x,.ty T]/\iw K H x t/\W.kitOne K t (.type T)=some b/\Q (.bl b) H) (fj te (fj (tC (.ty n)) jo))) (jV n fe):=λF H I G Q s V q=>by
 refine A.run s V q λx v w j m D g=>?_;have d:∀b,vd n x=.ok (.bl b)->(∀h,x≠.scr h)->(∀C fs,x≠.obj C fs)->(∀i,x≠.dic i)->b=(A2 x==n||(n == "int" && A2 x == "bool"))->∃f T t b,[v,L2.V.ty n]=[f,.ty T]/\iw K j f t/\W.kitOne K t (.type T)=some b/\Q (.bl b) j:=by
  intro b e l r k y;rw[e]at g;refine⟨v,n,_,b,rfl,Bo D m.fh l r k,?_,g _ w j m (.bl _)⟩;rw[y];refine B _ ?_;cases x with
  |scr h=>exact absurd rfl (l h)
  |obj C fs=>exact absurd rfl (r C fs)
  |dic i=>exact absurd rfl (k i)
  |_=>simp[A2]
 cases x with
 |scr h=>exact g.elim
 |obj C fs=>exact g.elim
 |dic i=>exact g.elim
 |non=>exact d _ rfl (λ_ z=>nomatch z) (λ_ _ z=>nomatch z) (λ_ z=>nomatch z) rfl
 |bl _=>exact d _ rfl (λ_ z=>nomatch z) (λ_ _ z=>nomatch z) (λ_ z=>nomatch z) rfl
 |int _=>exact d _ rfl (λ_ z=>nomatch z) (λ_ _ z=>nomatch z) (λ_ z=>nomatch z) rfl
 |str _=>exact d _ rfl (λ_ z=>nomatch z) (λ_ _ z=>nomatch z) (λ_ z=>nomatch z) rfl
 |tup _=>exact d _ rfl (λ_ z=>nomatch z) (λ_ _ z=>nomatch z) (λ_ z=>nomatch z) rfl
 |lst _=>exact d _ rfl (λ_ z=>nomatch z) (λ_ _ z=>nomatch z) (λ_ z=>nomatch z) rfl
 |emp=>exact d _ rfl (λ_ z=>nomatch z) (λ_ _ z=>nomatch z) (λ_ z=>nomatch z) rfl
def xA K:∀n∈["int", "bool", "str", "tuple", "list"],∀t∈["NoneType", "bool", "int", "str", "tuple", "list", "dict"],W.kitOne K (.type t) (.type n)=some (t==n||(n == "int" && t == "bool")):=by intro n f t d;simp only[aE,cj,or_false]at f d;rcases f with rfl|rfl|rfl|rfl|rfl<;>rcases d with rfl|rfl|rfl|rfl|rfl|rfl|rfl<;>rfl
def gG n (d:n∈["int", "bool", "str", "tuple", "list"]) (h:X.mg "isinstance" = none) (f:X.mg x=none) (q:bootBuiltins x=some (.type n)) (r:Pm K E X e te fe) (v:X.K=K:=by rfl) (i:Gl X "isinstance" :=by rfl) (m:Gl X x:=by rfl)
  (j:x≠ "__name__" :=by decide) (g:(x==("__debug__" : Str))=false:=by decide)
  (s:starEach [e,.Name x p3] X.env=(false,eval e X.env)::starEach [.Name x p3] X.env:=by rfl) (k:starEach [.Name x p3] X.env=(false,eval (.Name x p3) X.env)::starEach [] X.env:=by rfl) (l:(backTo pos (starEach [.Name x p3] X.env)).any (·.1)=false:=by rfl) :
  Pm K E X (.Call (.Name "isinstance" p) [e,.Name x p3] [] pos) (tm (λu H Q=>∃x T t b,u=[x,.ty T]/\iw K H x t/\W.kitOne K t (.type T)=some b/\Q (.bl b) H) (fj te (fj (tC (.ty n)) jo))) (jV n fe):=by
 subst v;exact⟨ik uv i h m3 (dZ r.pe (dZ (rE m f q rfl j g) ib k) s) (by decide) (by decide) s l,AC (xA X.K n d) r.me⟩
@[simp] noncomputable def iQ:T->T->M T
 |.lst ts,.int i=>match mw ts i with
  |some t=>.ok t
  |none=>.bad
 |.tup ts,.int i=>match mw ts i with
  |some t=>.ok t
  |none=>.bad
 |.scr ns,.int i=>match mw ns i with
  |some t=>.ok (.int t)
  |none=>.bad
 |.str z,.int i=>if z.length<=sizeLine then (match mw z.cps.toList i with
  |some c=>.ok (.str ⟨#[c]⟩)
  |none=>.bad) else .bad
 |_,_=>.bad
def rj(r:cW K F vs ts)(h:mw ts i=some t):∃v,mw vs i=some v/\eR K F v t:=by
 unfold mw at h ⊢;rw[r.length];cases e:qI ts.length i with
 |none=>rw[e]at h;cases h
 |some j=>rw[e]at h;exact r.get h
def jw(f:α->β) l i:mw (l.map f) i=(mw l i).map f:=by
 unfold mw;rw[aw];cases qI l.length i with
 |none=>rfl
 |some j=>simp
def AX x y:M.NoE (iQ x y):=λC n=>by unfold iQ;split<;>first|(intro z;cases z;done)|(split<;>first|(intro z;cases z;done)|(split<;>intro z<;>cases z))
def Bf:MR K (CH K) iQ:=⟨AX,λF H v w x y Q s d f q=>by
 unfold iQ at q;split at q
 .rename_i m i;rw[f.int_inv];obtain⟨a,g,rfl,h,r⟩:=d.lst_inv;split at q
  .rename_i t e;obtain⟨v,j,k⟩:=rj r e;exact .inl ⟨a,g,i,v,rfl,rfl,fQ.of (s _ _ h),j,kV.now q s k⟩
  .exact q.elim
 .rename_i m i;rw[f.int_inv];obtain⟨a,g,rfl,h,r⟩:=d.tup_inv;split at q
  .rename_i t e;obtain⟨v,j,k⟩:=rj r e;exact .inr (.inl ⟨a,g,i,v,rfl,rfl,f6.of (s _ _ h),j,kV.now q s k⟩)
  .exact q.elim
 .rename_i n i;rw[f.int_inv];cases d with
  |scr h=>
   split at q
   .rename_i t e;exact .inl ⟨_,_,i,.int t,rfl,rfl,s.seq h,by rw[jw,e];rfl,kV.now q s (.int _)⟩
   .exact q.elim
 .rename_i z i;rw[f.int_inv];cases d with
  |str z=>
   split at q
   .rename_i l;split at q
    .rename_i c e;exact .inr (.inr ⟨z,i,c,rfl,rfl,l,e,kV.now q s (.str _)⟩)
    .exact q.elim
   .exact q.elim
 .exact q.elim⟩
def rJ(f:Pm K E X a ta fa)(d:Pm K E X b tb fb)(g:qY b:=by intro _ _;rfl)(h:X.K=K:=by rfl):Pm K E X (.Subscript a b pos) (lQ (CH K) ta tb) (c6 iQ fa fb):=⟨Bu (h▸z0) f.pe d.pe g,rP Bf f.me d.me⟩
def tG:Cm K E X none qZ (λ_=>.ok none):=⟨yF,λF H f d Q s V q=>q F H (.refl s)⟩
@[simp] noncomputable def eh(fe:Pe->M T):Pe->M (Option Int):=λd=>(fe d).bind λx=>match x with
 |.int i=>.ok (some i)
 |_=>.bad
def we(h:Pm K E X e te fe):Cm K E X (some e) (yJ te) (eh fe):=⟨wL h.pe,λF H m l Q s V q=>by
 refine h.me.run s V q λx v k f g j d=>?_;cases j with
 |int i=>exact⟨i,rfl,d k f g⟩
 |_=>exact d.elim⟩
noncomputable def iD{g:Type}(d:List g)(f h:Oq Int):List g:=(d.drop (HT.sIx d.length 0 f)).take (HT.sIx d.length d.length h-HT.sIx d.length 0 f)
def Au xs lo hi:vT xs lo hi=iD xs lo hi:=rfl
def cW.cut(r:cW K F vs ts) lo hi:cW K F (iD vs lo hi) (iD ts lo hi):=by unfold iD;rw[r.length];exact (r.drop _).take _
def tP(f:α->β) l lo hi:iD (l.map f) lo hi=(iD l lo hi).map f:=by unfold iD;rw[aw,ck,List.map_drop]
section
variable {lo hi:Oq Expr}{tl th:TO}{fl fh:Pe->M (Option Int)}
def MO.run{k:Oq Int->M α}{P:α->Prop}(h:MO K E t f)(s:cT F H)(v:fy K F σ ρ)(r:((f ρ).bind k).res P (kE E F H))
  (j:∀x i d,Gr F H i d->(k x).res P (kE E i d)->Q x d):t σ H Q:=
 h F H σ ρ Q s v ((M.res.unb r).mono (λx q i d g=>j x i d g (q.mono (λ_ z=>z) λ_ _ z=>z.go g)) λ_ _ z=>z)
@[simp] noncomputable def fR(fe:Pe->M T)(fl fh:Pe->M (Option Int)):Pe->M T:=λd=>(fe d).bind λx=>(fl d).bind λl=>(fh d).bind λh=>match x with
 |.tup ts=>.ok (.tup (iD ts l h))
 |.lst ts=>.ok (.lst (iD ts l h))
 |.scr ns=>.ok (.lst ((iD ns l h).map T.int))
 |_=>.bad
def oM(A:Pm K E X e te fe)(t:Cm K E X lo tl fl)(z:Cm K E X hi th fh)(D:X.K=K:=by rfl):Pm K E X (.Subscript e (.Slice lo hi none p2) pos) (Dk (λx lo hi H Q=>By K x lo hi H Q\/(B9 K x lo hi H Q\/B3 K x lo hi H Q)) te tl th) (fR fe fl fh):=by
 subst D;refine⟨uo (yx.or (AB.or wK)) A.pe t.po z.po,λF H S N Q s V q=>?_⟩;refine A.me.run s V q λx v P R k J I=>?_;refine t.mo.run k.fh (V.mono k.ff) I λl U Y j G=>?_;refine z.mo.run j.fh ((V.mono k.ff).mono j.ff) G λu y w d m=>?_;have g:=(k.trans j).trans d;have B:=J.mono (j.ff.trans d.ff);cases B with
 |lst h r=>exact .inl ⟨_,_,rfl,fQ.of (d.fh _ _ h),λp f=>m (.ref p) _ _ (g.trans (.new d.fh f)) (.lst cL ((r.cut l u).mono (Gr.new d.fh f).ff))⟩
 |scr h=>exact .inl ⟨_,_,rfl,d.fh.seq h,λp f=>m (.ref p) _ _ (g.trans (.new d.fh f)) (.lst cL (by rw[Au,tP];exact cW.of_ints _))⟩
 |tup h r=>
  rename_i a L i;have n:(M.ok (T.tup (iD i l u))).res (kV X.K F H Q) (kE E y w):=m;by_cases hw:HT.sIx i.length 0 l=0/\HT.sIx i.length i.length u=i.length
  .have C:iD i l u=i:=by unfold iD;rw[hw.1,hw.2];simp
   rw[C]at n;exact .inr (.inr ⟨_,_,rfl,f6.of (d.fh _ _ h),by rw[r.length];exact hw,n _ y w g (.tup h r)⟩)
  .exact .inr (.inl ⟨_,_,rfl,f6.of (d.fh _ _ h),by rw[r.length];exact hw,λp f=>n (.ref p) _ _ (g.trans (.new d.fh f)) (.tup cL ((r.cut l u).mono (Gr.new d.fh f).ff))⟩)
 |_=>exact m.elim
end
section
variable {x:Str}{k:Nat}{Fn:List T->M T}{Ff:List T->M (List T)}
def jn(h:eV X.prog X.w X.K X.mg X.base x j (jx K Fn))(hr:dy k X.A)(g:oK K E X (e::es) tr fr)(l:j<=k:=by decide)(m:Gl X x:=by rfl)
  (f:(x==("__debug__" : Str))=false:=by decide) (i:starEach (e::es) X.env=(false,eval e X.env)::starEach es X.env:=by rfl) (d:(backTo pos (starEach es X.env)).any (·.1)=false:=by rfl) :
  Pm K E X (.Call (.Name x p) (e::es) [] pos) (jq (jx K Fn) [] E0 tr) (cP fr Fn):=⟨nY (h.mono l) hr g.pa m f i d,vZ g.ma⟩
def yy(h:eV X.prog X.w X.K X.mg X.base x j (qH K Ff))(hr:dy k X.A)(g:oK K E X (e::es) tr fr)(l:j<=k:=by decide)(m:Gl X x:=by rfl)
  (f:(x==("__debug__" : Str))=false:=by decide) (i:starEach (e::es) X.env=(false,eval e X.env)::starEach es X.env:=by rfl) (d:(backTo pos (starEach es X.env)).any (·.1)=false:=by rfl) :
  uB K E X (.Call (.Name x p) (e::es) [] pos) (jq (qH K Ff) [] E0 tr) (jD fr Ff):=⟨nY (h.mono l) hr g.pa m f i d,vS g.ma⟩
end
def Bg(K:W.Frag)(t:TE):TI:=λd H R=>ue K t d H R\/zD K t d H R
@[simp] noncomputable def eU(fa:Pe->M T):Pe->M (List T):=λd=>(fa d).bind λx=>match x with
 |.lst ts=>.ok ts
 |.scr ns=>.ok (ns.map T.int)
 |.tup ts=>.ok ts
 |_=>.bad
def Aa(f:ME K E ta fa):MI K E (Bg K ta) (eU fa):=λF H g d R s V q=>by
 unfold eU at q;cases e:fa d with
 |bad=>rw[e]at q;exact q.elim
 |er C n=>rw[e]at q;exact .inl (nF f F H g d R s V (by unfold CD;rw[e];exact q))
 |ok x=>
  rw[e]at q;cases x with
  |lst ts=>exact .inl (nF f F H g d R s V (by unfold CD;rw[e];exact q))
  |scr ns=>exact .inl (nF f F H g d R s V (by unfold CD;rw[e];exact q))
  |tup ts=>exact .inr (As f F H g d R s V (by unfold Dn;rw[e];exact q))
  |_=>exact q.elim
def fW(d:Pm K E X a ta fa)(i:X.K=K:=by rfl):yU K E X tg a (Bg K ta) (eU fa):=by
 subst i;refine⟨λf s g H R I h=>?_,Aa d.me⟩;rcases h with h|h
 .exact wX d.pe f s g H R I h
 .exact zf d.pe f s g H R I h
def yI(K:W.Frag)(ta:TA):TI:=λf H R=>∃d g,zU K d g ta f H R
@[simp] noncomputable def seqT:T->M (List T)
 |.lst ts=>.ok ts
 |.scr ns=>.ok (ns.map T.int)
 |.tup ts=>.ok ts
 |_=>.bad
@[simp] noncomputable def lR(fa:Pe->M (List T)):Pe->M (List T):=λg=>(fa g).bind λf=>match f with
 |[x,y]=>(seqT x).bind λh=>(seqT y).bind λd=>.ok (mY h d)
 |_=>.bad
noncomputable def jX:T->Bool
 |.tup _=>true
 |_=>false
def ud x:seqT x=seqB (jX x) x:=by cases x<;>rfl
def wJ(f:MA K E tr fr):MI K E (yI K tr) (lR fr):=λF H h d R s V q=>by
 unfold lR at q;cases e:fr d with
 |bad=>rw[e]at q;exact q.elim
 |er C n=>rw[e]at q;exact⟨true,true,wk f F H h d R s V (by unfold A0;rw[e];exact q)⟩
 |ok xs=>
  rw[e]at q;match xs,e,q with
  |[],_,q=>exact q.elim
  |[_],_,q=>exact q.elim
  |[x,y],e,q=>refine⟨jX x,jX y,wk f F H h d R s V ?_⟩;unfold A0;rw[e];have g:((seqT x).bind λj=>(seqT y).bind λi=>M.ok (mY j i)).res (kI K F H R) (kE E F H):=q;rw[ud x,ud y]at g;exact g
  |_::_::_::_,_,q=>exact q.elim
def qO{x1}(g:X.mg "zip" = none)(f:oK K E X [a,b] tr fr)(m:X.K=K:=by rfl)(k:Gl X "zip" :=by rfl)(i:starEach [a,b] X.env=[(false,eval a X.env),(false,eval b X.env)]:=by rfl)
  (d:starEach [b] X.env=[(false,eval b X.env)]:=by rfl):yU K E X (.Tuple elts x1 tpos) (.Call (.Name "zip" p) [a,b] [] pos) (yI K tr) (lR fr):=by
 subst m;refine⟨λj s l H R I h=>?_,wJ f.ma⟩;obtain⟨n,q,h⟩:=h;exact zm k g f.pa i d j s l H R I h
def hI(h:X.mg "range" = none)(d:oK K E X [a] tr fr)(g:Gl X "range" :=by rfl)(f:starEach [a] X.env=[(false,eval a X.env)]:=by rfl):sM K E X tg (.Call (.Name "range" p) [a] [] pos) (v5 tr) (gA fr):=⟨sJ g h d.pa f,xM d.ma⟩
def sM.pim(h:sM K E X tg it w f):yU K E X tg it w f:=⟨h.pi,h.mi.mi⟩
section
variable {x:Str}{g:TG}{gs:yQ}{m:T->Pe->Option Pe}{ms:List T->Pe->Option Pe}{mo:T->En->Option En}{mos:List T->En->Option En}{n:Nat}
def gM i (h:X.N.Nodup) (j:rT X.env.scope x:=by first|exact Or.inl rfl|exact Or.inr rfl) (d:X.N[i]? = some x:=by rfl) (f:X.fn x=true\/X.env.scope.names.lookup x=some .local:=by first|exact .inl rfl|exact .inr rfl|assumption):A6 K X (.Name x pos) (ek i) (h8 i):=⟨rd h d j f,xQ⟩
def jc i (h:X.N.Nodup) (j:rT X.env.scope x:=by first|exact Or.inl rfl|exact Or.inr rfl) (d:X.N[i]? = some x:=by rfl) (f:X.fn x=true\/X.env.scope.names.lookup x=some .local:=by first|exact .inl rfl|exact .inr rfl|assumption):De K X (.Name x pos) (ek i) (lO i):=⟨rd h d j f,wc⟩
def pB:wC K X [] xp qB:=⟨w6,yj⟩
def iR(d:A6 K X e g m)(f:wC K X es gs ms)(h:(assignEach (e::es) X.env).map (·.2)=assign e X.env::(assignEach es X.env).map (·.2):=by rfl):wC K X (e::es) (oa g gs) (hW m ms):=⟨uC d.pg f.pg h,uR d.mg f.mg⟩
def uf n (f:X.calm=true) (h:wC K X es gs ms) (j:X.K=K:=by rfl) (i:(assignEach es X.env).length=n:=by rfl) (d:(assignEach es X.env).findIdx? (·.1)=none:=by rfl):A6 K X (.Tuple es k pos) (xP K n gs) (pW n ms):=by subst j;exact⟨zC f h.pg i d,Aw h.mg⟩
end
section
variable {elt iter:Expr}{ifs:List Expr}{scope:Scope}{N:List Str}{ix:List (Option Nat)}{wi:TI}{g:TG}{tt:TT}{fi:Pe->M (List T)}{m:T->Pe->Option Pe}{ft:Pe->M Bool}
def eN:vC K E X [] zB (λ_=>.ok true):=⟨yh,Ad⟩
def ua(h:qU K E X c t f):vC K E X [c] t f:=⟨yD h.pt,h.mt⟩
@[simp] noncomputable def gY(ix:List (Option Nat))(fi:Pe->M (List T))(m:T->Pe->Option Pe)(ft:Pe->M Bool)(fe:Pe->M T):Pe->M (List T):=λf=>(fi f).bind λd=>(if d.length<sizeLine then iB (jl m ft fe (gD ix f)) d else .bad).noEr
def Bp(k:X.calm=true)(j:yU K E X tg iter wi fi)(L:pK X scope N ix)(i:g6 ix g)
  (f:∀C d H ex h,A6 K (fX X N scope C d H ex h) tg g m/\vC K wu (fX X N scope C d H ex h) ifs tt ft/\Pm K wu (fX X N scope C d H ex h) elt te fe)
  (q:∀x,foldedSetIterable iter X.env x=pure x:=by intro _;rfl):uB K E X (.ListComp elt [⟨tg,iter,ifs,0⟩] scope pos) (uI ix wi g tt te) (gY ix fi m ft fe):=by
 obtain⟨l,r,n⟩:=f 0 X.s₀ X.H₀ [] [];exact⟨BW k j.pi L i (λC d H ex h=>⟨(f C d H ex h).1.pg,(f C d H ex h).2.1.pf,(f C d H ex h).2.2.pe⟩) q,yS j.mi l.mg r.mt n.me⟩
end
end
end L3
namespace L3
open PySem L2 PySem.Spec PyProof.Rows
section
variable {K:W.Frag}{E:XK}{X:Cx}{a b c e o tg it:Expr}{es:List Expr}{ta tb tc te to:TE}{fa fb fc fe fo:Pe->M T}{tr:TA}{fr:Pe->M (List T)}{pos pos' p p2 apos:Pos}{st:Stmt}{dP:List Stmt}{t u:TS}{g g':En->O}{ff:Pe->M (List T)}{x:Str}
def dD:gU K E X [] rL dR:=⟨rm,w9⟩
def c7(h:nM K E X st t g):gU K E X [st] t g:=⟨jt h.ps,h.ms⟩
def cI(h:nM K E X st t g)(h':gU K E X dP u g'):gU K E X (st::dP) (oR t u) (dm g g'):=⟨ij h.ps h'.ps,zM h.ms h'.ms⟩
def eZ(h:Pm K E X e te fe):nM K E X (.Return (some e) pos) (qt te) (d8 fe):=⟨pN h.pe,yY h.me⟩
def oU(h:uB K E X e te ff):nM K E X (.Return (some e) pos) (qt te) (oQ ff):=⟨pN h.pe,wF h.mf⟩
def tY i (h:PE X (.Name x p) (f7 i)):nM K E X (.Return (some (.Name x p)) pos) (qt (f7 i)) (ki i):=⟨pN h,sR⟩
def eE{tc:TT}{fc:Pe->M Bool}(d:qU K E X c tc fc)(h:gU K E X A t g)(h':gU K E X B u g'):nM K E X (.If c A B pos) (xF tc t u) (iy fc g g'):=⟨yV d.pt h.ps h'.ps,BX d.mt h.ms h'.ms⟩
def zS{tc:TT}{fc:Pe->M Bool}(d:En->Nat)(i:PassesOwn (model X.prog X.w) X.A X.env X.xe)(f:qU K E X c tc fc)(h:gU K E X A t g):nM K E X (.While c A [] pos) (qE tc t) (λρ=>gh fc g (d ρ) ρ):=⟨uc i f.pt h.ps,uK d f.mt h.ms⟩
section
variable {w:TI}{fi:Pe->M (List T)}{gt:TG}{m:T->En->Option En}{A:List Stmt}
def qX(i:PassesOwn (model X.prog X.w) X.A X.env X.xe)(j:X.calm=true)(d:yU K E X tg it w fi)(h:De K X tg gt m)(f:gU K E X A t g)(k:∀x,foldedSetIterable it X.env x=pure x:=by intro _;rfl):nM K E X (.For tg it A [] pos) (uN w gt t) (qq fi m g):=⟨t7 i j d.pi h.pg f.ps k,AN d.mi h.mg f.ms⟩
def iC(i:PassesOwn (model X.prog X.w) X.A X.env X.xe)(j:X.calm=true)(d:sM K E X tg it w fi)(h:De K X tg gt m)(f:gU K E X A t g)(k:∀x,foldedSetIterable it X.env x=pure x:=by intro _;rfl):nM K E X (.For tg it A [] pos) (uN w gt t) (i0 fi m g):=⟨t7 i j d.pi h.pg f.ps k,xB d.mi h.mg f.ms⟩
end
def zR i (A:X.N.Nodup) (z:rT X.env.scope x)
  (B:X.calm=true) (l:yU K E X tg iter wi fi) (L:pK X scope N ix) (j:g6 ix gt)
  (f:∀C d H ex h,A6 K (fX X N scope C d H ex h) tg gt m/\vC K wu (fX X N scope C d H ex h) ifs tt ft/\Pm K wu (fX X N scope C d H ex h) elt te fe)
  (q:MF K E (uI ix wi gt tt te) (gY ix fi m ft fe)->MS K E (h7 (uI ix wi gt tt te) (ek i)) gm)
  (n:X.N[i]? = some x:=by rfl) (y:X.fn x=true\/X.env.scope.names.lookup x=some .local:=by first|exact .inl rfl|exact .inr rfl)
  (k:swapsWith (.ListComp elt [⟨tg,iter,ifs,0⟩] scope pos) (some (.Name x py)) spos.line X.env=pure true:=by rfl)
  (w:∀x,foldedSetIterable iter X.env x=pure x:=by intro _;rfl):nM K E X (.Assign [.Name x py] (.ListComp elt [⟨tg,iter,ifs,0⟩] scope pos) spos) (h7 (uI ix wi gt tt te) (ek i)) gm:=by
 obtain⟨s,r,v⟩:=f 0 X.s₀ X.H₀ [] [];exact⟨vx A n z B l.pi L j (λC d H ex h=>⟨(f C d H ex h).1.pg,(f C d H ex h).2.1.pf,(f C d H ex h).2.2.pe⟩) y k w,q (yS l.mi s.mg r.mt v.me)⟩
def eg i (l:X.N.Nodup) (h:Pm K E X e te fe) (j:rT X.env.scope x:=by first|exact Or.inl rfl|exact Or.inr rfl) (d:X.N[i]? = some x:=by rfl) (k:swapsWith e (some (.Name x pos')) pos.line X.env=pure false:=by rfl) (f:X.fn x=true\/X.env.scope.names.lookup x=some .local:=by first|exact .inl rfl|exact .inr rfl|assumption) :
  nM K E X (.Assign [.Name x pos'] e pos) (h7 te (ek i)) (setO i (fv fe)):=⟨lI l d j h.pe k f,rG h.me⟩
def pC i (l:X.N.Nodup) (h:Pm K E X e te fe) (j:rT X.env.scope x:=by first|exact Or.inl rfl|exact Or.inr rfl) (d:X.N[i]? = some x:=by rfl) (k:swapsWith e (some (.Name x pos')) pos.line X.env=pure false:=by rfl) (f:X.fn x=true\/X.env.scope.names.lookup x=some .local:=by first|exact .inl rfl|exact .inr rfl|assumption) :
  nM K E X (.Assign [.Name x pos'] e pos) (h7 te (ek i)) (setO i (nk fe)):=⟨lI l d j h.pe k f,xE h.me⟩
def oj i (l:X.N.Nodup) (h:uB K E X e te ff) (j:rT X.env.scope x:=by first|exact Or.inl rfl|exact Or.inr rfl) (d:X.N[i]? = some x:=by rfl) (k:swapsWith e (some (.Name x pos')) pos.line X.env=pure false:=by rfl) (f:X.fn x=true\/X.env.scope.names.lookup x=some .local:=by first|exact .inl rfl|exact .inr rfl|assumption) :
  nM K E X (.Assign [.Name x pos'] e pos) (h7 te (ek i)) (jG i (lY ff)):=⟨lI l d j h.pe k f,rF h.mf⟩
def wa(h:MF K E te ff):MS K E (h7 te (ek i)) (setO i (fv λρ=>(ff ρ).bind λts=>.ok (.lst ts))):=rG h.me
def Aj(h:H l=some (.lst xs)):Ce K "list" (.ref l) H:=.inl ⟨rfl,_,fQ.of h⟩
def oh i (q:PE X (.Name x p) (f7 i)) (m:Pm K E X e te fe) (n:starEach [e] X.env=(false,eval e X.env)::starEach [] X.env:=by rfl) (r:X.K=K:=by rfl)
  (f:attributeBase (.Name x p) "append" X.env (eval (.Name x p) X.env)=eval (.Name x p) X.env:=by rfl)
  (j:((backTo pos (starEach [e] X.env)).all (λx=>!x.1)&&(backToKw pos (keywordEach [] X.env)).all (λx=>x.1.isSome)&&decide (([e]:List Expr).length+([]:List Keyword).length+(if ([]:List Keyword).isEmpty then 0 else 1)<30))=true:=by rfl)
  (d:(apos.endLine==pos.line)=true:=by rfl) (hplain:(backTo pos (starEach [] X.env)).any (·.1)=false:=by rfl) (k:swapsWith (.Call (.Attribute (.Name x p) "append" apos) [e] [] pos) none pos'.line X.env=pure false:=by rfl) :
  nM K E X (.Expr (.Call (.Attribute (.Name x p) "append" apos) [e] [] pos) pos') (ou (BE K i te)) (qk i (fv fe)):=by
 subst r;exact⟨qQ (B4 PySem.F.plainAttrs_list PySem.F.slot_list_append PySem.F.type_list_append sO q (dZ m.pe ib n) f j d n hplain) k,yr (λl s H h=>Aj h) m.me⟩
def wG i (l:PE X (.Name x p) (f7 i)) (d:Pm K E X b tb fb) (h:Pm K E X e te fe)
  (f:∀v,assign (.Subscript (.Name x p) b p2) X.env v=(do
   let ov <-holding [v] (eval (.Name x p) X.env)
   let iv <-holding [v,ov] (eval b X.env)
   standAt p2
   holding [v,ov,iv] (setItem ov iv v)
   release [v,ov,iv] []):=by intro _;rfl)
  (j:swapsWithSole [.Subscript (.Name x p) b p2] e pos.line X.env=pure false:=by rfl) (hw:swappedStores [.Subscript (.Name x p) b p2] e X.env=pure none:=by rfl)
  (k:(assignEach [.Subscript (.Name x p) b p2] X.env).map (·.2)=[assign (.Subscript (.Name x p) b p2) X.env]:=by rfl) :
  nM K E X (.Assign [.Subscript (.Name x p) b p2] e pos) (h7 te (Ay (f7 i) tb rg)) (qD i (nk fb) (nk fe)):=⟨yX h.pe (AM l d.pe vJ f) j hw k,y0 h.me d.me⟩
def lJ(h:Pm K E X e te fe)(d:swapsWith e none pos.line X.env=pure false:=by rfl):nM K E X (.Expr e pos) (ou te) (iZ (fv fe)):=⟨qQ h.pe d,tw h.me⟩
end
section
variable {P:Program}{w:World}{K:W.Frag}{mg:Str->Option Value}{base:Heap}{x:Str}{st:Stmt}{N ps:List Str}{k:Nat}{g:En->O}
def CS(D:dq K mg x st)(S:dw N ps (cG st))
  (e:∀(kV c l:Vq) (j:Oq Addr) (b m:Vq) (us:List Vq),us.length=ps.length->bindArgs (W.fnOf x x (dM st) (cZ st) (cG st) .none kV c l j b m) ⟨us,[]⟩=pure (ps.zip us))
  (d:∀(f:Addr) (b:Vq) (A:Around) (a:List Env) (s:Sq) (H:Hp) (E:XK),dy k (A.deeper (envOfC x (cG st) s.heap.objs.size f b))->∃t,gU K E (dH jR P w K mg base N x (cG st) f b A a s H E).nox (cZ st) t g) :
  eV P w K mg base x (k+1) (jx K (iS ps.length N.length g)):=
 ni D S e (λi H Q E h=>jF h) λf b A a s H i Q E hr h=>let ⟨t,hp⟩:=d f b A a s H E hr;⟨t,hp.ps,jh hp.ms h⟩
def C0(D:dq K mg x st)(S:dw N ps (cG st))
  (e:∀(kV c l:Vq) (j:Oq Addr) (b m:Vq) (us:List Vq),us.length=ps.length->bindArgs (W.fnOf x x (dM st) (cZ st) (cG st) .none kV c l j b m) ⟨us,[]⟩=pure (ps.zip us))
  (d:∀(f:Addr) (b:Vq) (A:Around) (a:List Env) (s:Sq) (H:Hp) (E:XK),dy k (A.deeper (envOfC x (cG st) s.heap.objs.size f b))->∃t,gU K E (dH jR P w K mg base N x (cG st) f b A a s H E).nox (cZ st) t g) :
  eV P w K mg base x (k+1) (qH K (tq ps.length N.length g)):=
 ni D S e (λi H Q E h=>rz h) λf b A a s H i Q E hr h=>let ⟨t,hp⟩:=d f b A a s H E hr;⟨t,hp.ps,oZ hp.ms h⟩
end
end L3
namespace L3
open PySem L2 PySem.Spec PyProof.Rows
section
variable {K:W.Frag}{E:XK}{X:Cx}{a b c e o tg it:Expr}{es:List Expr}{ta tb tc te to:TE}{fa fb fc fe fo:Pe->M T}{tr:TA}{fr:Pe->M (List T)}{pos p p2 apos:Pos}
@[simp] noncomputable def dE(f:Pe->M (List T)):Pe->M T:=λd=>(f d).bind λg=>.ok (.lst g)
def dJ(f:X.K=K:=by rfl):e8 X (.builtin "len") (λd H Q=>∃x n,d=[x]/\Ax K x H n/\Q (.int n) H):=f▸vo
def sh(f:X.calm=true)(g:X.K=K:=by rfl):e8 X (.builtin "sum") (λd H Q=>∃(p:Addr) (ns:LI),d=[.ref p]/\fQ K H p (ns.map V.int)/\Q (.int ns.sum) H):=g▸vz f
def jC(f:X.calm=true)(g:X.K=K:=by rfl):e8 X (.builtin "all") (λd H Q=>∃(p:Addr) (bs:List Bool),d=[.ref p]/\fQ K H p (bs.map V.bl)/\Q (.bl (bs.all id)) H):=g▸tZ f
def mO(f:X.calm=true)(g:X.K=K:=by rfl):e8 X (.builtin "any") (λd H Q=>∃p vs bs,d=[.ref p]/\(fQ K H p vs\/f6 K H p vs)/\fM vs=some bs/\Q (.bl (bs.any id)) H):=g▸rZ f
def ey(g:X.K=K:=by rfl):e8 X (.type "tuple") (λf H Q=>∃p d,f=[.ref p]/\((fQ K H p d/\∀l,H l=none->Q (.ref l) (dB H l (.tup d)))\/(f6 K H p d/\Q (.ref p) H))):=g▸lZ
def f9(g:X.K=K:=by rfl):e8 X (.type "list") (λf H Q=>∃p d,f=[.ref p]/\(fQ K H p d\/f6 K H p d)/\∀l,H l=none->Q (.ref l) (dB H l (.lst d))):=g▸nK
def zx:T->Option Bool
 |.bl b=>some b
 |.int i=>some (i != 0)
 |_=>none
def j7:List T->Option (List Bool)
 |[]=>some []
 |v::vs=>(zx v).bind λb=>(j7 vs).bind λr=>some (b::r)
theorem mS:∀{vs} {ts},cW K F vs ts->fM vs=j7 ts
 |_,_,.nil=>rfl
 |v::vs,t::ts,.cons h r=>by
  have e:oE v=zx t:=by cases h<;>rfl
  rw[fM,j7,mS r,e]
@[simp] theorem A1 ns:j7 (ns.map T.bl)=some ns:=by
 induction ns with
 |nil=>rfl
 |cons n ns ih=>simp[j7,zx,ih]
@[simp] noncomputable def j3(ts:List T):M T:=match j7 ts with
 |some bs=>.ok (.bl (bs.any id))
 |none=>.bad
@[simp] noncomputable def n6:List T->M T
 |[.lst ts]=>j3 ts
 |[.tup ts]=>j3 ts
 |_=>.bad
def vP ts:M.NoE (j3 ts):=λC n=>by unfold j3;split<;>intro z<;>cases z
def wO xs:M.NoE (n6 xs):=λC n=>by unfold n6;split<;>first|exact vP _ C n|(intro z;cases z)
def t8:MC K (λf H Q=>∃p vs bs,f=[.ref p]/\(fQ K H p vs\/f6 K H p vs)/\fM vs=some bs/\Q (.bl (bs.any id)) H) n6:=⟨wO,λF H vs f Q s r q=>by
 cases r with
 |nil=>exact q.elim
 |cons h t=>
  cases t with
  |cons _ _=>cases h<;>exact q.elim
  |nil=>
   cases h with
   |lst h r=>
    rename_i a f g;have d:(j3 g).res (kV K F H Q) (λ_ _=>False):=q;unfold j3 at d;cases e:j7 g with
    |none=>rw[e]at d;exact d.elim
    |some bs=>rw[e]at d;exact⟨a,f,bs,rfl,.inl (fQ.of (s _ _ h)),by rw[mS r];exact e,kV.now d s (.bl _)⟩
   |tup h r=>
    rename_i a f g;have d:(j3 g).res (kV K F H Q) (λ_ _=>False):=q;unfold j3 at d;cases e:j7 g with
    |none=>rw[e]at d;exact d.elim
    |some bs=>rw[e]at d;exact⟨a,f,bs,rfl,.inr (f6.of (s _ _ h)),by rw[mS r];exact e,kV.now d s (.bl _)⟩
   |_=>exact q.elim⟩
def vn:Pm K E X (.Dict [] [] pos) vO (cM .emp):=⟨tu,λF H g f Q s V q p d=>q (.ref p) _ _ (.new s d) (.emp cL)⟩
noncomputable def rR:T->T->M T
 |.tup a,.int k=>if tf k=true/\a.length*k.toNat<=sizeLine then .ok (.tup (List.replicate k.toNat a).flatten) else .bad
 |_,_=>.bad
def tO x y:M.NoE (rR x y):=λC n=>by unfold rR;split<;>first|(split<;>intro z<;>cases z)|(intro z;cases z)
def xm:MR K tX rR:=⟨tO,λF H v w x y Q s l m q=>by
 cases l with
 |tup h r=>
  cases m with
  |int k=>
   rename_i a j f;have d:(if tf k=true/\f.length*k.toNat<=sizeLine then M.ok (T.tup (List.replicate k.toNat f).flatten) else M.bad).res (kV K F H Q) (λ_ _=>False):=q;by_cases g:tf k=true/\f.length*k.toNat<=sizeLine
   .rw[aP g]at d;refine⟨a,k,j,rfl,rfl,s _ _ h,by have:=iL g.1;rw[B8]at this;rw[CG];omega,by have:=iL g.1;rw[B8]at this;rw[CG];omega,by rw[r.length];exact g.2,λz=>?_,λz p i=>?_⟩
    .have:(List.replicate k.toNat f).flatten=f:=by
      rcases z with z|z
      .subst z;cases r;simp
      .subst z;simp
     rw[this]at d;exact kV.now d s (.tup h r)
    .exact d (.ref p) _ _ (.new s i) (.tup cL ((r.rep k.toNat).mono (Gr.new s i).ff))
   .rw[aQ g]at d;exact d.elim
  |_=>exact q.elim
 |_=>exact q.elim⟩
@[simp] noncomputable def uA(fa fb:Pe->M T):Pe->M T:=c6 rR fa fb
def rl(f:Pm K E X a ta fa)(d:Pm K E X b tb fb):Pm K E X (.BinOp a .Mult b pos) (lQ tX ta tb) (uA fa fb):=kX wM xm f d
end
structure Bs(mg:Str->Option Value):Prop where
 abs:mg "abs" = none
 isinstance:mg "isinstance" = none
 int:mg "int" = none
 bool:mg "bool" = none
 len:mg "len" = none
 range:mg "range" = none
 tuple:mg "tuple" = none
 list:mg "list" = none
 str:mg "str" = none
 all:mg "all" = none
 any:mg "any" = none
 sum:mg "sum" = none
 zip:mg "zip" = none
 max:mg "max" = none
 min:mg "min" = none
 enumerate:mg "enumerate" = none
 reversed:mg "reversed" = none
 set:mg "set" = none
 dict:mg "dict" = none
 sorted:mg "sorted" = none
def hU:bootBuiltins "list" = some (.type "list"):=by decide +kernel
end L3
namespace L3
open PySem L2
section
variable {α:Type}
theorem mD enc f:∀(l:List α),(∀a∈l,k (enc a)=.ok (some (f a)))->iB k (l.map enc)=.ok (l.map f)
 |[],_=>rfl
 |a::l,h=>by rw[bu,iB,h a (by simp),M.bind_ok,mD enc f l λb c=>h b (by simp[c])];rfl
theorem js enc f p:∀(l:List α),(∀a∈l,k (enc a)=.ok (if p a then some (f a) else none))->iB k (l.map enc)=.ok ((l.filter p).map f)
 |[],_=>rfl
 |a::l,h=>by
  rw[bu,iB,h a (by simp),M.bind_ok,js enc f p l λb d=>h b (by simp[d])];by_cases c:p a=true
  .simp[c]
  .simp[c]
theorem iM enc (P:Nat->En->Prop):∀(l:List α) (k:Nat) (ρ:En),P k ρ->
  (∀i a ρ,l[i]? = some a->P (k+i) ρ->∃d c,m (enc a) ρ=some d/\(g d=.nx c\/g d=.ct c)/\P (k+i+1) c)->∃ρ',ei m g (l.map enc) ρ=.nx ρ'/\P (k+l.length) ρ'
 |[],k,ρ,h,_=>⟨ρ,rfl,h⟩
 |a::l,k,ρ,h,st=>by
  obtain⟨d,c,n,f,q⟩:=st 0 a ρ rfl h;obtain⟨ρ',e,p⟩:=iM enc P l (k+1) c q λi b ρ j o=>by have:=st (i+1) b ρ (by simpa using j) (by rw[show k+(i+1)=k+1+i by omega];exact o);rw[show k+1+i+1=k+(i+1)+1 by omega];exact this
  refine⟨ρ',?_,by rw[ay,show k+(l.length+1)=k+1+l.length by omega];exact p⟩;rw[bu,ei,n];rcases f with f|f<;>(dsimp only;rw[f];exact e)
theorem lL(P:En->Prop)(d:En->Nat)(R:En->Prop)(st:∀ρ,P ρ->(c (vw ρ)=.ok false/\R ρ)\/(c (vw ρ)=.ok true/\∃a,(g ρ=.nx a\/g ρ=.ct a)/\P a/\d a<d ρ)) :
  ∀n ρ,P ρ->d ρ<n->∃ρ',gh c g n ρ=.nx ρ'/\R ρ'
 |0,ρ,_,h=>absurd h (Nat.not_lt_zero _)
 |n+1,ρ,hP,hn=>by
  rcases st ρ hP with⟨e,r⟩|⟨e,a,b,f,j⟩
  .exact⟨ρ,by rw[gh,e];rfl,r⟩
  .obtain⟨ρ',i,r⟩:=lL P d R st n a f (by omega);refine⟨ρ',?_,r⟩;rw[gh,e,O.of_ok,aP rfl];rcases b with b|b<;>(rw[b];exact i)
end
def mV{i:Type}(l:List i) enc f (c:fi ρ=.ok (l.map enc)) (n:l.length<sizeLine)
  (g:∀a∈l,∃b,m (enc a) (gD ix ρ)=some b/\ft b=.ok true/\fe b=.ok (f a)):gY ix fi m ft fe ρ=.ok (l.map f):=by
 have h:=mD (k:=jl m ft fe (gD ix ρ)) enc f l λa d=>by obtain⟨b,j,e,o⟩:=g a d;unfold jl;rw[j];dsimp only;rw[e,M.bind_ok,aP rfl,o];rfl
 unfold gY;rw[c,M.bind_ok,aw,aP n,h];rfl
theorem qi{j:Type}(l:List j) enc f p (c:fi ρ=.ok (l.map enc)) (o:l.length<sizeLine)
  (i:∀a∈l,∃b,m (enc a) (gD ix ρ)=some b/\ft b=.ok (p a)/\(p a=true->fe b=.ok (f a))):gY ix fi m ft fe ρ=.ok ((l.filter p).map f):=by
 have h:=js (k:=jl m ft fe (gD ix ρ)) enc f p l λa e=>by
  obtain⟨b,n,g,q⟩:=i a e;unfold jl;rw[n];dsimp only;rw[g,M.bind_ok];cases d:p a with
  |true=>rw[aP rfl,aP rfl,q d];rfl
  |false=>rw[aQ aG,aQ aG]
 unfold gY;rw[c,M.bind_ok,aw,aP o,h];rfl
def gH{e:Type}(l:List e) enc f (c:fi ρ=.ok (l.map enc)) (g:l.length<sizeLine)
  (d:∀a∈l,∃b,m (enc a) (gD ix ρ)=some b/\ft b=.ok true/\fe b=.ok (f a)) (hr:l.map f=ts):gY ix fi m ft fe ρ=.ok ts:=by rw[<-hr];exact mV l enc f c g d
def zc{e:Type}(l:List e) enc f p (c:fi ρ=.ok (l.map enc)) (g:l.length<sizeLine)
  (d:∀a∈l,∃b,m (enc a) (gD ix ρ)=some b/\ft b=.ok (p a)/\(p a=true->fe b=.ok (f a))) (hr:(l.filter p).map f=ts):gY ix fi m ft fe ρ=.ok ts:=by rw[<-hr];exact qi l enc f p c g d
def Cc lo n:nE lo n=(List.range n).map λ(i:Nat)=>T.int (lo+(i:Int)):=rfl
noncomputable def tI(ns:LI):T:=.tup (ns.map T.int)
def ku(l:List α)(i:Int)(b:0<=i)(c:i<l.length):∃a,mw l i=some a/\a∈l:=by
 unfold mw qI;rw[aP b,aP c];have d:i.toNat<l.length:=by omega
 exact⟨l[i.toNat],by simp[d],aU _⟩
def gy(h:PySem.IntMulOk i j):gS (.int i) (.int j)=.ok (.int (i*j)):=by simp[gS,eT,h]
def n9(h:j≠0)(h2:Builtin.divisionGoesByPylong i j=false):l8 (.int i) (.int j)=.ok (.int (i.fdiv j)):=by simp[l8,eT,h,h2]
def kg(h:j≠0):nR (.int i) (.int j)=.ok (.int (i.fmod j)):=by simp[nR,eT,h]
@[simp] theorem fu i j:eD (.int i) (.int j)=.ok (.int (i+j)):=rfl
@[simp] theorem om i j:ui (.int i) (.int j)=.ok (.int (i-j)):=rfl
@[simp] theorem Cr i j:CZ (.int i) (.int j)=.ok (.bl (decide (i<j))):=rfl
@[simp] theorem CC i j:Cf (.int i) (.int j)=.ok (.bl (decide (i<=j))):=rfl
@[simp] theorem kh i j:yR (.int i) (.int j)=.ok (.bl (decide (j<=i))):=rfl
@[simp] theorem gN i j:df false (.int i) (.int j)=.ok (.bl (i==j)):=by simp[df,jy,km]
@[simp] theorem ot i j:df true (.int i) (.int j)=.ok (.bl (!(i==j))):=by simp[df,jy,km]
def sv(h:i.natAbs<2 ^ 64):PySem.IntMulOk i j:=IntMulOk.of_left (PyProof.Rows.intBits_le h)
def Bn(n:Nat)(x:Int):Prop:=x.natAbs<2 ^ n
def Bn.mono(h:Bn m x)(a:m<=n):Bn n x:=aD h (Nat.pow_le_pow_right (by decide) a)
def Bn.mul(h:Bn m x)(h':Bn n y):Bn (m+n) (x*y):=by unfold Bn at *;rw[aX,Nat.pow_add];exact Nat.mul_lt_mul'' h h'
def Bn.ok(h:Bn m x)(h':Bn n y)(b:m<=2 ^ 20)(a:n<=2 ^ 20):PySem.IntMulOk x y:=IntMulOk.of_bits (aM (PyProof.Rows.intBits_le h) b) (aM (PyProof.Rows.intBits_le h') a)
def Bn.noPy(h:Bn n y)(a:n<=8000):Builtin.divisionGoesByPylong x y=false:=Cu.noPy (PyProof.Rows.intBits_le h) a
section
variable {a b g:En->O}{ρ ρ':En}{r:O}{fc:Pe->M Bool}{f:Pe->M T}{ff:Pe->M (List T)}{t:T}{ts:List T}{k n i:Nat}
def cK(c:a ρ=.nx ρ')(d:b ρ'=r):dm a b ρ=r:=by unfold dm;rw[c];exact d
def i8(c:a ρ=.rt t)(hr:.rt t=r):dm a b ρ=r:=by unfold dm;rw[c];exact hr
def eI(h:fc (vw ρ)=.ok true)(c:a ρ=r):iy fc a b ρ=r:=by unfold iy;rw[h];exact c
def dQ(h:fc (vw ρ)=.ok false)(c:b ρ=r):iy fc a b ρ=r:=by unfold iy;rw[h];exact c
def de(h:f (lP ρ)=.ok t)(hr:ρ'=ρ.set i (some (.p t))):setO i (fv f) ρ=.nx ρ':=by unfold setO fv;rw[h,hr];rfl
def rV(h:f (vw ρ)=.ok t)(c:lf t=true)(hr:ρ'=ρ.set i (some (.p t))):setO i (nk f) ρ=.nx ρ':=by unfold setO nk;rw[h,hr];simp[c]
def kK(h:ff (lP ρ)=.ok ts)(hr:ρ'=ρ.set i (some (.o ts))):jG i (lY ff) ρ=.nx ρ':=by unfold jG lY;rw[h,hr];rfl
def yq(h:ff (vw ρ)=.ok ts)(c:wz ts=true)(hr:ρ'=ρ.set i (some (.o ts))):jG i (tV ff) ρ=.nx ρ':=by unfold jG tV;rw[h,hr];simp[c]
def wm(d:ρ[i]? = some (some (.o us)))(h:f (lP ρ)=.ok t)(c:us.length<sizeLine)(hr:ρ'=ρ.set i (some (.o (us++[t])))):qk i (fv f) ρ=.nx ρ':=by unfold qk fv i5;rw[d,h,hr];simp[c]
def An(l:ρ[i]? = some (some (.o us)))(h:f (vw ρ)=.ok t)(c:lf t=true)(d:fk (vw ρ)=.ok (.int j))(e:qI us.length j=some m)(hr:ρ'=ρ.set i (some (.o (us.set m t)))):qD i (nk fk) (nk f) ρ=.nx ρ':=by unfold qD nk i5;rw[l,h,d,hr];simp[c,e]
def dI(h:f (vw ρ)=.ok t):d8 f ρ=.rt t:=by unfold d8;rw[h];rfl
def xR(h:ff (vw ρ)=.ok ts):oQ ff ρ=.rf ts:=by unfold oQ;rw[h];rfl
def qe(h:fi (lP ρ)=.ok its)(c:ei m g its ρ=r):qq fi m g ρ=r:=by unfold qq;rw[h];exact c
def g9(h:fi (vw ρ)=.ok its)(c:ei m g its ρ=r):i0 fi m g ρ=r:=by unfold i0;rw[h];exact c
def dY(c:ts.length=k)(h:g (cV n ts)=.rt t):iS k n g ts=.ok t:=by unfold iS;rw[aP c,h];rfl
def vL(c:ts.length=k)(h:g (cV n ts)=.rf us):tq k n g ts=.ok us:=by unfold tq;rw[aP c,h];rfl
end
def BL n:nE 0 n=(List.range n).map λ(i:Nat)=>T.int (i:Int):=by simp[nE]
theorem kM{d:Type} f:∀(l:List d),(∀a∈l,jy (f a)=true)->jW (l.map f)=true
 |[],_=>rfl
 |a::l,h=>by rw[bu,jW,h a (by simp),kM f l λb c=>h b (by simp[c])];rfl
theorem kS{d:Type} f n:∀(l:List d),(∀a∈l,rO (f a)<=n)->kc (l.map f)<=n
 |[],_=>bx _
 |a::l,h=>by rw[bu,sy];have e:=h a (by simp);have g:=kS f n l λb c=>h b (by simp[c]);omega
@[simp] theorem A7(ns:LI):jW (ns.map T.int)=true:=kM _ _ λ_ _=>rfl
def mr(ns:LI):kc (ns.map T.int)<=0:=kS _ _ _ λ_ _=>aJ _
@[simp] theorem AE ns:jy (tI ns)=true:=by simp[tI,jy]
def AL ns:rO (tI ns)<=1:=by unfold tI;rw[yp];have:=mr ns;omega
@[simp] theorem A9(l:LL):jW (l.map tI)=true:=kM _ _ λ_ _=>AE _
def lF(l:LL):kc (l.map tI)<=1:=kS _ _ _ λ_ _=>AL _
@[simp] theorem tW l:lH l []=l.isEmpty:=by cases l<;>rfl
theorem kQ{d:Type} f (c:∀a b,tj (f a) (f b)=true↔a=b):∀(l m:List d),lH (l.map f) (m.map f)=true↔l=m
 |[],[]=>by simp[jA]
 |[],b::m=>⟨λz=>(nomatch (show false=true from z)),λz=>nomatch z⟩
 |a::l,[]=>by simp[jA]
 |a::l,b::m=>by rw[bu,bu,jA,bH,c a b,kQ f c l m];simp
def mM(l m:LI):lH (l.map T.int) (m.map T.int)=decide (l=m):=by
 have h:=kQ T.int (λa b=>by simp[km]) l m;by_cases e:l=m
 .rw[aB e];exact h.mpr e
 .rw[aA e];cases c:lH (l.map T.int) (m.map T.int) with
  |false=>rfl
  |true=>exact absurd (h.mp c) e
def vj neg (l m:LI):df neg (.lst (l.map T.int)) (.lst (m.map T.int))=.ok (.bl (if neg then !decide (l=m) else decide (l=m))):=by have h:=mr l;unfold df;rw[aP (by simp[jy];omega),m6,mM]
def rk neg ts (h:jW ts=true) (a:kc ts<=90):df neg (.lst ts) (.lst [])=.ok (.bl (if neg then !ts.isEmpty else ts.isEmpty)):=by unfold df;rw[aP (by simp[jy,h,jW];omega),m6,tW]
def uL{a b:Type} f (g:b->T) (l:List a) m:mY (l.map f) (m.map g)=(l.zip m).map λp=>T.tup [f p.1,g p.2]:=by unfold mY;rw[List.zip_map,aH];rfl
theorem rK{d:Type} f:∀(l:List d),(∀a∈l,lf (f a)=true)->wz (l.map f)=true
 |[],_=>rfl
 |a::l,h=>by rw[bu,wz,h a (by simp),rK f l λb c=>h b (by simp[c])];rfl
@[simp] theorem uD(ns:LI):wz (ns.map T.int)=true:=rK _ _ λ_ _=>rfl
@[simp] theorem A8 ns:lf (tI ns)=true:=by simp[tI]
section
variable {α:Type}{fe fd fl:Pe->M T}{ρ:Pe}{ts:List T}{d k:Nat}
def md(l:List α)(d:Nat):iD l none (some (d:Int))=l.take d:=by
 unfold iD;rw[HT.sIx_none,HT.sIx_nat,List.drop_zero,Nat.sub_zero];by_cases h:d<=l.length
 .rw[cm h]
 .rw[Nat.min_eq_right (by omega),b4 (aJ _),b4 (by omega)]
def sE(l:List α)(d:Nat):iD l (some (d:Int)) none=l.drop d:=by
 unfold iD;rw[HT.sIx_none,HT.sIx_nat];by_cases h:d<=l.length
 .rw[cm h,b4 (by simp)]
 .rw[Nat.min_eq_right (by omega),cn (aJ _),cn (by omega),List.take_nil]
def oB(h:fe ρ=.ok (.tup ts))(a:fd ρ=.ok (.int (d:Int)))(b:d<=ts.length):fR fe (λ_=>.ok none) (eh fd) ρ=.ok (.tup (ts.take d)):=by simp only[fR,eh,h,a,M.bind_ok,md]
def r6(h:fe ρ=.ok (.lst ts))(a:fd ρ=.ok (.int (d:Int))):fR fe (λ_=>.ok none) (eh fd) ρ=.ok (.lst (ts.take d)):=by simp only[fR,eh,h,a,M.bind_ok,md]
def sN(h:fe ρ=.ok (.lst ts))(a:fd ρ=.ok (.int (d:Int))):fR fe (eh fd) (λ_=>.ok none) ρ=.ok (.lst (ts.drop d)):=by simp only[fR,eh,h,a,M.bind_ok,sE]
def jv(h:lc ρ=.ok ts)(hr:o [.lst ts]=r):fP o (cC (dE lc) cF) ρ=r:=by simp only[fP,cC,cF,dE,h,M.bind_ok];exact hr
def lW(h:f ρ=.ok t)(hr:o [t]=r):fP o (cC f cF) ρ=r:=by simp only[fP,cC,cF,h,M.bind_ok];exact hr
def fG(h:lc ρ=.ok ts):dE lc ρ=.ok (.lst ts):=by simp only[dE,h,M.bind_ok]
def vD(h:fe ρ=.ok (.tup ts)):eU fe ρ=.ok ts:=by simp only[eU,h,M.bind_ok]
def dA(h:fe ρ=.ok (.bl b)):dU fe ρ=.ok b:=by simp only[dU,h,M.bind_ok]
def nU(h:fc ρ=.ok b)(hr:(!b)=r):L3.gR fc ρ=.ok r:=by simp only[L3.gR,h,M.bind_ok,hr]
def cU(b:fa ρ=.ok x)(a:fb ρ=.ok y)(hr:o x y=r):c6 o fa fb ρ=r:=by simp only[c6,b,a,M.bind_ok];exact hr
def oO(h:f ρ=.ok x)(hr:F [x]=.ok t):cP (cC f cF) F ρ=.ok t:=by simp only[cP,cC,cF,h,hr,M.bind_ok];rfl
def hZ(h:f ρ=.ok x)(a:g ρ=.ok y)(hr:F [x,y]=.ok t):cP (cC f (cC g cF)) F ρ=.ok t:=by simp only[cP,cC,cF,h,a,hr,M.bind_ok];rfl
def dS{f g k:Pe->M T}(h:f ρ=.ok x)(b:g ρ=.ok y)(a:k ρ=.ok z)(hr:F [x,y,z]=.ok t):cP (cC f (cC g (cC k cF))) F ρ=.ok t:=by simp only[cP,cC,cF,h,b,a,hr,M.bind_ok];rfl
end
section
variable {ρ:Pe}{ts:List T}{F:List T->M (List T)}{f g k l:Pe->M T}{x y z u:T}
def yZ(h:f ρ=.ok x)(c:g ρ=.ok y)(b:k ρ=.ok z)(a:l ρ=.ok u)(hr:F [x,y,z,u]=.ok ts):jD (cC f (cC g (cC k (cC l cF)))) F ρ=.ok ts:=by simp only[jD,cC,cF,h,c,b,a,hr,M.bind_ok];rfl
end
def qC{a b:Type}{l:List a}{m:List b}{f:a->T}{g:b->T}(d:fa ρ=.ok x)(h:seqT x=.ok (l.map f))(c:fb ρ=.ok y)(e:seqT y=.ok (m.map g)) :
  lR (cC fa (cC fb cF)) ρ=.ok ((l.zip m).map λp=>T.tup [f p.1,g p.2]):=by
 rw[<-uL];simp only[lR,cC,cF,d,c,M.bind_ok,h,e]
end L3
namespace L3
open PySem L2 PySem.Spec PyProof.Rows
def t5(K:W.Frag):Sp:=λc H Q _=>∃(a:Addr) (b:LI),c=[.ref a]/\fQ K H a (b.map V.int)/\b.length<=63/\(∀z∈b,Builtin.Int.intBits z<=2 ^ 20)/\∀d,Q (.bl true) d
def v9{K:W.Frag}(h:∀ns:LI,ns.length<=63->(∀z∈ns,Builtin.Int.intBits z<=2 ^ 20)->F [.scr ns]=.ok (.bl true)) vs H Q E (z:t5 K vs H Q E):jx K F vs H Q E:=by obtain⟨a,ns,rfl,c,d,b,e⟩:=z;refine⟨[.scr ns],H,λ_ _ x=>x,.cons (.scr c) .nil,?_⟩;rw[h ns d b];intro v f i g r;cases r;exact e _
def C7{K:W.Frag}{st:Stmt}(F:wx K x x st f fd)(S:dw N ps (cG st))
  (d:∀(f:Addr) (b:Vq) (A:Around) (a:List Env) (s:Sq) (H:Hp) (E:XK),dy k (A.deeper (envOfC x (cG st) s.heap.objs.size f b))->∃t,gU K E (dH jR P w K mg base N x (cG st) f b A a s H E).nox (cZ st) t g) :
  fw P w K mg base jR (k+1) f fd ps (jx K (iS ps.length N.length g)):=
 F.ok S (λc H Q E h=>jF h) λb A a s H c Q E hr h=>let ⟨t,hp⟩:=d f b A a s H E hr;⟨t,hp.ps,jh hp.ms h⟩
def Be{l:W.OpenLaw}{q:Program}{k:Nat}{x:Str}{b:List Str}{t:(Str->Option Value)->Heap->Prop}{g:World->Heap->Prop}{d:DefRec}{K:Params->W.Frag}(m:l.most=some 63)(hr:dy k callerA)(e:d.params.defaults=[])
  (p:∀(w:World) (h:Heap),g w h->(K w.params).In h)
  (F:∀(w:World) (c:Str->Option Value) (i:Addr) (h:Heap),(K w.params).In h->h.Ns mainGlobals c->c d.name=some (.ref i)->
   ∃fd:FuncData,(∀(s:Sq) (u:Vq),BindsTo s fd ⟨[u],[]⟩ [(x,u)])/\∀base:Heap,(K w.params).In base->base.Ns mainGlobals c->fw l.prog w (K w.params) c base jR k i fd [x] (t5 (K w.params))) :
  W.WalkO q b t g l.row.toRowW d [] (λf vs=>PySem.call f vs):=
 L2.sH m (by decide) e hr p F (λ_ _ a j o n _ r=>⟨a,j,rfl,r,o,n,λ_=>rfl⟩) λ_ _ _ _ z=>z
end L3
namespace L3
open PySem L2 PySem.Spec PyProof.Rows
section
variable {K:W.Frag}{E:XK}{t:TE}{f:Pe->M T}
def kO(K:W.Frag)(F H:Hp)(x:Addr)(Q:VK)(t:T):Prop:=∀b c,cT F b->cT b c->(∀a o,a≠x->H a=some o->c a=some o)->(∀a,b a≠none->F a≠none\/H a=none\/a=x\/∃d,H a=some (.tup d))->eR K b (.ref x) t->Q .non c
noncomputable def lM(C:Addr)(n:Nat)(g h:Str)(e d:Pe->M T):List T->M T:=λc=>if c.length=n then (e (none::c.map some)).bind λa=>(d (none::c.map some)).bind λb=>.ok (.obj C [(g,a),(h,b)]) else .bad
structure C3(K:W.Frag)(E:XK)(X:Cx)(body:List Stmt)(f1 f2:Str)(g1 g2:Pe->M T):Prop where
 ex:∃(t1 t2:TE),jY X body (oR (AD K (f7 0) t1 f1) (AD K (f7 0) t2 f2))/\ME K E t1 g1/\ME K E t2 g2
def CV(h:X.K=K)(d:PE X o1 (f7 0))(e:Pm K E X a1 t1 g1)(b:PE X o2 (f7 0))(g:Pm K E X a2 t2 g2)
  (a:swapsWith a1 (some (.Attribute o1 f1 p1)) q1.line X.env=pure false:=by rfl) (c:swapsWith a2 (some (.Attribute o2 f2 p2)) q2.line X.env=pure false:=by rfl) :
  C3 K E X [.Assign [.Attribute o1 f1 p1] a1 q1,.Assign [.Attribute o2 f2 p2] a2 q2] f1 f2 g1 g2:=by
 subst h;exact⟨t1,t2,ij (tK d e.pe a) (jt (tK b g.pe c)),e.me,g.me⟩
end
section
variable {X:Cx}{K:W.Frag}{E:XK}{x m:Str}{C:Addr}{k:Nat}{Fn:List T->M T}{Ff:List T->M (List T)}{e o:Expr}{es:List Expr}{tr:TA}{fr:Pe->M (List T)}{ta:TE}{fa:Pe->M T}{p pos apos:Pos}
def z6(h:i9 X.prog X.w X.K X.mg X.base C m j (qH K Ff))(hr:dy k X.A)(a:Pm K E X o ta fa)(c:j<=k:=by decide)
  (b:eval (.Call (.Attribute o m apos) [] [] pos) X.env=(do
   let ov <-eval o X.env
   standAt apos.atName
   let (f,first) <-holding [ov] (getMethod ov m pl)
   callWith pos f first (backTo pos (starEach [] X.env)) (backToKw pos (keywordEach [] X.env))):=by rfl) :
  uB K E X (.Call (.Attribute o m apos) [] [] pos) (lC C m (qH K Ff) [] E0 ta jo) (jH C m fa cF Ff):=⟨AK h (hr.mono c) a.pe b,vE a.me uW⟩
def pY(d:X.K=K)(b:lS K C)(c:fq K C f)(h:Pm K E X e ta fa)(a:attributeBase e f X.env (eval e X.env)=eval e X.env:=by rfl):Pm K E X (.Attribute e f pos) (zk X.K ta f) (jr C f fa):=by subst d;exact⟨zu h.pe a,Ap b c h.me⟩
end
section
variable {P:Program}{w:World}{K:W.Frag}{mg:Str->Option Value}{base:Heap}{C:Addr}{m qual:Str}{st:Stmt}{N ps:List Str}{k:Nat}{g:En->O}
def BA(j:lS K C)(D:eJ K C m qual st)(S:dw N ps (cG st))
  (e:∀(kV c n:Vq) (l:Oq Addr) (b o:Vq) (us:List Vq),us.length=ps.length->bindArgs (W.fnOf m qual (dM st) (cZ st) (cG st) .none kV c n l b o) ⟨us,[]⟩=pure (ps.zip us))
  (d:∀(f:Addr) (b:Vq) (A:Around) (a:List Env) (s:Sq) (H:Hp) (E:XK),dy k (A.deeper (envOfC qual (cG st) s.heap.objs.size f b))->∃t,gU K E (dH jR P w K mg base N qual (cG st) f b A a s H E).nox (cZ st) t g) :
  i9 P w K mg base C m (k+1) (qH K (tq ps.length N.length g)):=
 xq j D S e (λi H Q E h=>rz h) λf b A a s H i Q E hr h=>let ⟨t,hp⟩:=d f b A a s H E hr;⟨t,hp.ps,oZ hp.ms h⟩
end
end L3
namespace L3
open PySem L2 PySem.Spec PyProof.Rows
def Ae:Nat->(List Value->Prop)->Prop
 |0,P=>P []
 |k+1,P=>∀v,Ae k λus=>P (v::us)
theorem fH:∀{k} {P},Ae k P->∀us:List Vq,us.length=k->P us
 |0,_,h,[],_=>h
 |k+1,_,h,v::us,e=>fH (h v) us (by simpa using e)
def A4(X:Cx):Prop:=∀x,X.env.scope.names.lookup x=some .cell->∃c,X.env.cells.lookup x=some c
structure Zx(P:Program)(w:World)(K:W.Frag)(mg:Str->Option Value)(base:Heap):Prop where
 here:True
section
variable {P:Program}{w:World}{K:W.Frag}{mg:Str->Option Value}{base:Heap}
noncomputable abbrev CP(_:Zx P w K mg base)(x:Str)(k:Nat)(F:List T->M T):Prop:=eV P w K mg base x k (jx K F)
noncomputable abbrev CF(_:Zx P w K mg base)(x:Str)(k:Nat)(F:List T->M (List T)):Prop:=eV P w K mg base x k (qH K F)
end
section
variable {P:Program}{w:World}{K:W.Frag}{mg:Str->Option Value}{base:Heap}{x m qual:Str}{C:Addr}{st:Stmt}{g:En->O}
noncomputable abbrev CA(P:Program)(w:World)(K:W.Frag)(mg:Str->Option Value)(base:Heap)(k:Nat)(qual:Str)(st:Stmt)(N:List Str)(g:En->O):Prop:=∀{f:Addr} {cdv:Vq} {A:Around} {outer:List Env} {s:Sq} {H:Hp} {E:XK},N.Nodup->A4 (dH jR P w K mg base N qual (cG st) f cdv A outer s H E).nox->dy k (A.deeper (envOfC qual (cG st) s.heap.objs.size f cdv))->∃t,gU K E (dH jR P w K mg base N qual (cG st) f cdv A outer s H E).nox (cZ st) t g
abbrev w5(x qual:Str)(st:Stmt)(ps:List Str):Prop:=∀(kV doc pm:Vq) (an:Oq Addr) (cdv ct:Vq),Ae ps.length λus=>bindArgs (W.fnOf x qual (dM st) (cZ st) (cG st) .none kV doc pm an cdv ct) ⟨us,[]⟩=pure (ps.zip us)
def lx(_:Zx P w K mg base) k F N ps (e:F=iS ps.length N.length g) (D:dq K mg x st) (l:CA P w K mg base k x st N g) (S:dw N ps (cG st):=by constructor<;>first|rfl|decide +kernel)
  (i:w5 x x st ps:=by first|exact λ_ _ _ _ _ _ _ _=>rfl|exact λ_ _ _ _ _ _ _=>rfl|exact λ_ _ _ _ _ _ _ _ _=>rfl|exact λ_ _ _ _ _ _ _ _ _ _=>rfl|exact λ_ _ _ _ _ _ _ _ _ _ _=>rfl|exact λ_ _ _ _ _ _=>rfl) :
  eV P w K mg base x (k+1) (jx K F):=e▸CS D S (λa b c d e f j n=>fH (i a b c d e f) j n) λ_ _ _ _ _ _ _ r=>l S.nd (λ_ h=>eX h) r
def Bi(_:Zx P w K mg base) k F N ps (e:F=tq ps.length N.length g) (D:dq K mg x st) (l:CA P w K mg base k x st N g) (S:dw N ps (cG st):=by constructor<;>first|rfl|decide +kernel)
  (i:w5 x x st ps:=by first|exact λ_ _ _ _ _ _ _ _=>rfl|exact λ_ _ _ _ _ _ _=>rfl|exact λ_ _ _ _ _ _ _ _ _=>rfl|exact λ_ _ _ _ _ _ _ _ _ _=>rfl|exact λ_ _ _ _ _ _ _ _ _ _ _=>rfl|exact λ_ _ _ _ _ _=>rfl) :
  eV P w K mg base x (k+1) (qH K F):=e▸C0 D S (λa b c d e f j n=>fH (i a b c d e f) j n) λ_ _ _ _ _ _ _ r=>l S.nd (λ_ h=>eX h) r
def zy(_:Zx P w K mg base) k F N ps (e:F=tq ps.length N.length g) (j:lS K C) (D:eJ K C m qual st) (n:CA P w K mg base k qual st N g) (S:dw N ps (cG st):=by constructor<;>first|rfl|decide +kernel)
  (i:w5 m qual st ps:=by first|exact λ_ _ _ _ _ _ _=>rfl|exact λ_ _ _ _ _ _ _ _=>rfl|exact λ_ _ _ _ _ _ _ _ _=>rfl) :
  i9 P w K mg base C m (k+1) (qH K F):=e▸BA j D S (λa b c d e f l o=>fH (i a b c d e f) l o) λ_ _ _ _ _ _ _ r=>n S.nd (λ_ h=>eX h) r
def Bq(_:Zx P w K mg base) k F N ps (e:F=iS ps.length N.length g) (D:wx K x x st f fd) (a:CA P w K mg base k x st N g) (S:dw N ps (cG st):=by constructor<;>first|rfl|decide +kernel) :
  fw P w K mg base jR (k+1) f fd ps (jx K F):=e▸C7 D S λ_ _ _ _ _ _ _ r=>a S.nd (λ_ h=>eX h) r
end
section
variable {K:W.Frag}{E:XK}{X:Cx}{tg elt iter:Expr}{ifs:List Expr}{scope:Scope}{wi:TI}{g:TG}{tt:TT}{te:TE}{fe:Pe->M T}{fi:Pe->M (List T)}{m:T->Pe->Option Pe}{ft:Pe->M Bool}{pos:Pos}{x:Str}
noncomputable abbrev Dq(K:W.Frag)(X:Cx)(scope:Scope)(N:List Str)(tg elt:Expr)(ifs:List Expr)(g:TG)(tt:TT)(te:TE)(m:T->Pe->Option Pe)(ft:Pe->M Bool)(fe:Pe->M T):Prop:=∀{C s₃ H ex pn},N.Nodup->A4 (fX X N scope C s₃ H ex pn)->A6 K (fX X N scope C s₃ H ex pn) tg g m/\vC K wu (fX X N scope C s₃ H ex pn) ifs tt ft/\Pm K wu (fX X N scope C s₃ H ex pn) elt te fe
def iE N ix (d:A4 X) (c:yU K E X tg iter wi fi) (b:Dq K X scope N tg elt ifs g tt te m ft fe) (f:m4 X.N X.env.scope scope N ix=true:=by rfl) (a:g6 ix g:=by first|exact lu rfl|exact k9 rfl rfl) (nd:N.Nodup:=by decide) (e:X.calm=true:=by rfl)
  (h:∀x,foldedSetIterable iter X.env x=pure x:=by intro _;rfl):uB K E X (.ListComp elt [⟨tg,iter,ifs,0⟩] scope pos) (uI ix wi g tt te) (gY ix fi m ft fe):=
 let L:=BO d f
 Bp e c L a (λ_ _ _ _ _=>b nd (uQ L)) h
def pS N ix i (p:X.N.Nodup) (f:A4 X) (d:yU K E X tg iter wi fi) (c:Dq K X scope N tg elt ifs g tt te m ft fe)
  (j:MF K E (uI ix wi g tt te) (gY ix fi m ft fe)->MS K E (h7 (uI ix wi g tt te) (ek i)) gm) (n:m4 X.N X.env.scope scope N ix=true:=by rfl) (b:g6 ix g:=by first|exact lu rfl|exact k9 rfl rfl) (nd:N.Nodup:=by decide) (l:rT X.env.scope x:=by first|exact Or.inl rfl|exact Or.inr rfl) (h:X.calm=true:=by rfl)
  (k:X.N[i]? = some x:=by rfl) (e:X.fn x=true\/X.env.scope.names.lookup x=some .local:=by first|exact .inl rfl|exact .inr rfl)
  (a:swapsWith (.ListComp elt [⟨tg,iter,ifs,0⟩] scope pos) (some (.Name x py)) spos.line X.env=pure true:=by rfl)
  (o:∀x,foldedSetIterable iter X.env x=pure x:=by intro _;rfl):nM K E X (.Assign [.Name x py] (.ListComp elt [⟨tg,iter,ifs,0⟩] scope pos) spos) (h7 (uI ix wi g tt te) (ek i)) gm:=
 let L:=BO f n
 zR i p l h d L b (λ_ _ _ _ _=>c nd (uQ L)) j k e a o
end
end L3
namespace L3
open PySem L2 PySem.Spec PyProof.Rows
abbrev C5:List Vq:=[.type "ValueError",.type "Exception",.type "BaseException",.type "object"]
section
variable {P:Program}{w:World}{K:W.Frag}{mg:Str->Option Value}{base:Heap}{x m qual:Str}{C:Addr}{st:Stmt}{N ps:List Str}{k j:Nat}{g:En->O}{sp:Sp}
structure iP(P:Program)(w:World)(K:W.Frag)(mg:Str->Option Value)(base:Heap)(C:Addr)(m:Str)(k:Nat)(sp:Sp):Prop where
 cl:lS K C
 ex:∃f fd ps,fw P w K mg base (iq P w) k f fd ps sp/\pq K C m f/\fV K fd ps []
def iP.mono(h:iP P w K mg base C x j sp)(c:j<=k):iP P w K mg base C x k sp:=
 let ⟨f,fd,ps,F,a,b⟩:=h.ex
 ⟨h.cl,f,fd,ps,F.mono c,a,b⟩
noncomputable abbrev CE(_:Zx P w K mg base)(x:Str)(k:Nat)(F:List T->M T):Prop:=gz P w K mg base x k (jx K F)
noncomputable abbrev CM(_:Zx P w K mg base)(C:Addr)(x:Str)(k:Nat)(F:List T->M T):Prop:=iP P w K mg base C x k (jx K F)
noncomputable abbrev Bw(P:Program)(w:World)(K:W.Frag)(mg:Str->Option Value)(base:Heap)(k:Nat)(qual:Str)(st:Stmt)(N:List Str)(g:En->O):Prop:=∀{f:Addr} {cdv:Vq} {A:Around} {outer:List Env} {s:Sq} {H:Hp} {E:XK},N.Nodup->A4 (dH (iq P w) P w K mg base N qual (cG st) f cdv A outer s H E)->dy k (A.deeper (envOfC qual (cG st) s.heap.objs.size f cdv))->∃t,gU K E (dH (iq P w) P w K mg base N qual (cG st) f cdv A outer s H E) (cZ st) t g
def CO(_:Zx P w K mg base) k F N ps (e:F=iS ps.length N.length g) (D:dq K mg x st) (l:Bw P w K mg base k x st N g) (S:dw N ps (cG st):=by constructor<;>first|rfl|decide +kernel)
  (n:w5 x x st ps:=by first|exact λ_ _ _ _ _ _ _ _=>rfl|exact λ_ _ _ _ _ _ _=>rfl|exact λ_ _ _ _ _ _ _ _ _=>rfl|exact λ_ _ _ _ _ _ _ _ _ _=>rfl) :
  gz P w K mg base x (k+1) (jx K F):=e▸vU D S (λa b c d e f q p=>fH (n a b c d e f) q p) (λo H Q E h=>jF h) λf r A i s H o Q E hr h=>let ⟨t,hp⟩:=l S.nd (λ_ h=>eX h) hr;⟨t,hp.ps,jh hp.ms h⟩
def Bj(_:Zx P w K mg base) k F N ps (e:F=iS ps.length N.length g) (v:lS K C) (D:eJ K C m qual st) (n:Bw P w K mg base k qual st N g) (S:dw N ps (cG st):=by constructor<;>first|rfl|decide +kernel)
  (o:w5 m qual st ps:=by first|exact λ_ _ _ _ _ _ _=>rfl|exact λ_ _ _ _ _ _ _ _=>rfl|exact λ_ _ _ _ _ _ _ _ _=>rfl|exact λ_ _ _ _ _ _ _ _ _ _=>rfl) :
  iP P w K mg base C m (k+1) (jx K F):=by
 subst e;obtain⟨f,J,F,G⟩:=D.ex;have z:=F.binds λa b c d e f y r=>fH (o a b c d e f) y r;obtain⟨Y,L,kV,p,U,R,I,X,u,rfl,B,i⟩:=F.ex;exact⟨v,f,_,ps,pE B i S (λq H Q E h=>jF h) (λA l s H q Q E hr h=>let ⟨t,hp⟩:=n S.nd (λ_ h=>eX h) hr;⟨t,hp.ps,jh hp.ms h⟩),G,z⟩
end
section
variable {P:Program}{w:World}{K:W.Frag}{mg:Str->Option Value}{base:Heap}{N:List Str}{qual:Str}{scope:Scope}{f:Addr}{cd:Vq}{A:Around}{outer:List Env}{s₀:Sq}{H₀:Hp}{E:XK}
def oS:eA (iq P w) (dH (iq P w) P w K mg base N qual scope f cd A outer s₀ H₀ E) E:=vW λ_ _ _ h=>h
end
section
variable {K:W.Frag}{E:XK}{X:Cx}{x m:Str}{C:Addr}{k j:Nat}{Fn:List T->M T}{e o:Expr}{es:List Expr}{tr:TA}{fr:Pe->M (List T)}{ta:TE}{fa:Pe->M T}{p pos apos:Pos}
def vk(h:gz X.prog X.w X.K X.mg X.base x j (jx K Fn))(hr:dy k X.A)(f:eA (iq X.prog X.w) X E)(c:oK K E X (e::es) tr fr)(g:j<=k:=by decide)(i:Gl X x:=by rfl)
  (b:(x==("__debug__" : Str))=false:=by decide) (d:starEach (e::es) X.env=(false,eval e X.env)::starEach es X.env:=by rfl) (a:(backTo pos (starEach es X.env)).any (·.1)=false:=by rfl) :
  Pm K E X (.Call (.Name x p) (e::es) [] pos) (jq (jx K Fn) [] E tr) (ip fr Fn):=⟨vv (h.mono g) hr f c.pa i b d a,wU c.ma⟩
def AW(h:iP X.prog X.w X.K X.mg X.base C m j (jx K Fn))(hr:dy k X.A)(n:eA (iq X.prog X.w) X E)(i:Pm K E X o ta fa)(g:oK K E X (e::es) tr fr)(q:j<=k:=by decide)
  (d:starEach (e::es) X.env=(false,eval e X.env)::starEach es X.env:=by rfl) (c:(backTo pos (starEach es X.env)).any (·.1)=false:=by rfl)
  (l:eval (.Call (.Attribute o m apos) (e::es) [] pos) X.env=(do
   let ov <-eval o X.env
   standAt apos.atName
   let (f,first) <-holding [ov] (getMethod ov m pl)
   callWith pos f first (backTo pos (starEach (e::es) X.env)) (backToKw pos (keywordEach [] X.env))):=by rfl) :
  Pm K E X (.Call (.Attribute o m apos) (e::es) [] pos) (lC C m (jx K Fn) [] E ta tr) (mK C m fa fr Fn):=by
 obtain⟨f,r,s,F,a,b⟩:=(h.mono q).ex;exact⟨yu i.pe h.cl a F hr b .nil n g.pa d c l,xo i.me g.ma⟩
def nZ(h:gU K E X.nox sts t g):gU K E X sts t g:=⟨h.ps.nox,h.ms⟩
end
section
variable {K:W.Frag}{E:XK}
noncomputable def Da(K:W.Frag)(E:XK)(t:TS)(g:En->O):Prop:=∀(a b F H:Hp) σ ρ D,Sr K ⟨a,[]⟩ b F H σ ρ->(g ρ).res K E ⟨a,[]⟩ b F D->t D σ H
structure xn(K:W.Frag)(E:XK)(X:Cx)(sts:List Stmt)(t:TS)(g:En->O):Prop where
 ps:jY X sts t
 ms:Da K E t g
def sI{st:Stmt}{f:List Stmt}(h:nM K E X st t g)(h':xn K E X f u g'):xn K E X (st::f) (oR t u) (dm g g'):=⟨ij h.ps h'.ps,λc d F H k b D r q=>by
 refine h.ms ⟨c,[]⟩ d F H k b _ r ?_;unfold dm at q;cases e:g b with
 |nx ρ'=>rw[e]at q;intro j i a s l;exact h'.ms c d j i a ρ' D l (O.res.go q s)
 |_=>rw[e]at q;exact q⟩
end
section
variable {P:Program}{w:World}{K:W.Frag}{mg:Str->Option Value}{base:Heap}{x:Str}{st:Stmt}{g:En->O}
def va(i:Da K E t g)(h:jx K (iS k N.length g) vs H Q E):t {nx:=λ_ b=>Q .non b,rt:=Q} (ee N vs) H:=by
 obtain⟨a,d,s,r,q⟩:=h;unfold iS at q;by_cases c:a.length=k
 .rw[aP c]at q;refine i d H d H _ _ _ (kH s r) ?_;cases e:g (cV N.length a) with
  |bad=>rw[e]at q;exact q
  |nx ρ=>rw[e]at q;exact λj b f _ l=>q .non j b l.gr .non
  |rt t=>rw[e]at q;exact q
  |rf a=>rw[e]at q;exact kF.of q
  |rn a us=>rw[e]at q;exact kT.of q
  |bk ρ=>rw[e]at q;exact q.elim
  |ct ρ=>rw[e]at q;exact q.elim
  |er C n=>rw[e]at q;exact q
 .rw[aQ c]at q;exact q.elim
def CJ(_:Zx P w K mg base) k F N ps (e:F=iS ps.length N.length g) (D:dq K mg x st)
  (l:∀{f:Addr} {j:Vq} {A:Around} {i:List Env} {s:Sq} {H:Hp} {E:XK},N.Nodup->A4 (dH jR P w K mg base N x (cG st) f j A i s H E).nox->dy k (A.deeper (envOfC x (cG st) s.heap.objs.size f j))->∃t,xn K E (dH jR P w K mg base N x (cG st) f j A i s H E).nox (cZ st) t g)
  (S:dw N ps (cG st):=by constructor<;>first|rfl|decide +kernel)
  (m:w5 x x st ps:=by first|exact λ_ _ _ _ _ _ _ _=>rfl|exact λ_ _ _ _ _ _ _=>rfl|exact λ_ _ _ _ _ _ _ _ _=>rfl|exact λ_ _ _ _ _ _ _ _ _ _=>rfl) :
  eV P w K mg base x (k+1) (jx K F):=e▸ni D S (λa b c d e f p o=>fH (m a b c d e f) p o) (λn H Q E h=>jF h) λf j A i s H n Q E hr h=>let ⟨t,hp⟩:=l S.nd (λ_ h=>eX h) hr;⟨t,hp.ps,va hp.ms h⟩
end
section
variable {K:W.Frag}{E:XK}
def zb:bootBuiltins "ValueError" = some (.type "ValueError"):=by decide +kernel
def rB(n:C≠D)(t:W.typeIn K (.ref D)=some (.type "type"))(o:W.mroIn K D (.type "object")=some true)(s:W.mroIn K C (.ref D)=some false):W.kitOne K (.ref C) (.ref D)=some false:=xG n t (jb o) s
end
def wA(t:TT)(c:L2.St)(H:Hp)(b:Bool):Prop:=∀Q:Bool->Hp->Prop,(∀a,cT H a->Q b a)->t c H Q
abbrev zK(K:W.Frag)(ea C:Addr):List V->Hp->VK->Prop:=λxs H Q=>∃d b,xs=[V.ref ea,d]/\jQ K C/\sq K H C d b/\Q (V.bl b) H
section
variable {K:W.Frag}{σ:L2.St}{H:Hp}{i:Nat}{ea C D:Addr}{a b:Bool}{t u:TT}
def xW(c:σ[i]? = some (some (.ref ea)))(x:jQ K C)(k:W.kitOne K (.ref C) (.ref D)=some b):wA (tB (tm (zK K ea C) (fj (f7 i) (fj (tC (.ref D)) jo)))) σ H b:=λQ q=>⟨_,c,_,b,rfl,x,.own k,b,rfl,q H (.refl _)⟩
def Ab{T:String}(c:σ[i]? = some (some (.ref ea)))(x:jQ K C)(k:W.kitOne K (.ref C) (.type T)=some b):wA (tB (tm (zK K ea C) (fj (f7 i) (fj (tC (.ty T)) jo)))) σ H b:=λQ q=>⟨_,c,_,b,rfl,x,.ty k,b,rfl,q H (.refl _)⟩
def wI(h:wA t σ H a):wA (xy t) σ H (!a):=λQ q=>h _ q
def nB(h:wA t σ H true)(h':∀c,cT H c->wA u σ c b):wA (xh t u) σ H b:=λQ q=>h _ λc s=>by rw[aP rfl];exact h' c s Q λd e=>q d (s.trans e)
def ye{D:iU}(h:wA t σ H b)(k0:b=false->∀c,cT H c->D.nx σ c)(k1:b=true->∀c,cT H c->v D σ c):xF t v rL D σ H:=h _ λc s=>by
 cases b with
 |false=>rw[aQ (by decide)];exact k0 rfl c s
 |true=>rw[aP rfl];exact k1 rfl c s
def xT(c:σ[i]? = some (some (.bl b))):wA (tB (f7 i)) σ H b:=λQ q=>⟨_,c,b,rfl,q H (.refl _)⟩
end
end L3
namespace L3
open PySem L2 PySem.Spec PyProof.Rows
def CB(t:TE)(b:L2.St)(H:Hp)(v:V):Prop:=∀Q:VK,(∀a,cT H a->Q v a)->t b H Q
def Cd(t:TA)(b:L2.St)(H:Hp)(vs:List V):Prop:=∀Q:List V->Hp->Prop,(∀a,cT H a->Q vs a)->t b H Q
section
variable {K:W.Frag}{σ:L2.St}{H:Hp}{i:Nat}{ea C D:Addr}{b:Bool}{t:TE}{u:TA}{v:V}{vs:List V}
def yd:Cd jo σ H []:=λQ q=>q H (.refl _)
def uV(h:CB t σ H v)(h':∀c,cT H c->Cd u σ c vs):Cd (fj t u) σ H (v::vs):=λQ q=>h _ λe a=>h' e a _ λd f=>q d (a.trans f)
end
end L3
namespace L3
open PySem L2 PySem.Spec PyProof.Rows
section
variable {K:W.Frag}{E:XK}{tr:TA}{fr:Pe->M (List T)}{C:Addr}
@[simp] noncomputable def sG(C:Addr)(fr:Pe->M (List T)):En->O:=λb=>.of (fr (vw b)) λa=>match a with
 |[.int i]=>.er C (some i)
 |_=>.bad
def wR(j:MA K E tr fr):MS K E (λ_ e H=>tr e H λvs f=>∃y,vs=[y]/\∀dx,f dx=none->E (.ref C) (some dx) (dB f dx (.xd [("at",y)]))) (sG C fr):=λt u F H e i D r q=>by
 obtain⟨k,m,d,V,h⟩:=r.lend;refine j k H e (vw i) _ d.fh V ((O.res_of q).mono (λs z vs p o g l=>?_) λC n z=>z.go d);split at z
 .cases l with
  |cons a b=>cases a;cases b;exact⟨_,rfl,λdx c=>z _ _ ((d.trans g).trans (Gr.new g.fh c)) dx cL⟩
 .exact z.elim
end
section
variable {P:Program}{w:World}{K:W.Frag}{mg:Str->Option Value}{base:Heap}{C:Addr}{k j:Nat}
structure rA(P:Program)(w:World)(K:W.Frag)(mg:Str->Option Value)(base:Heap)(C:Addr)(k:Nat):Prop where
 ex:∃f fd ps,fw P w K mg base jR k f fd ps (CQ K C "at")/\pq K C "__init__" f/\fV K fd ps []
def BJ{st:Stmt}(_:Zx P w K mg base) k (v:sC K C "at") (D:eJ K C "__init__" qual st)
  (m:∀{f:Addr} {i:Vq} {A:Around} {g:List Env} {s:Sq} {H:Hp} {E:XK},jY (dH jR P w K mg base ["self", "at"] qual (cG st) f i A g s H E) (cZ st) (BZ K (f7 0) (f7 1) "at"))
  (S:dw ["self", "at"] ["self", "at"] (cG st):=by constructor<;>first|rfl|decide +kernel) (n:w5 "__init__" qual st ["self", "at"]:=by exact λ_ _ _ _ _ _ _ _=>rfl):rA P w K mg base C (k+1):=by
 obtain⟨f,I,F,G⟩:=D.ex;have z:=F.binds λa b c d e f x r=>fH (n a b c d e f) x r;obtain⟨U,J,kV,o,N,L,i,R,u,rfl,B,l⟩:=F.ex;refine⟨f,_,_,pE B l S (λp H Q E h=>?_) (λA g s H p Q E hr h=>?_),G,z⟩
 .obtain⟨a,t,y,rfl,_⟩:=h;rfl
 .obtain⟨a,t,y,rfl,e,q⟩:=h;exact⟨_,m,y,rfl,.ref a,rfl,a,C,t,rfl,e,v,q⟩
end
section
variable {P:Program}{w:World}{K:W.Frag}{mg:Str->Option Value}{base:Heap}{N:List Str}{qual:Str}{scope:Scope}{f:Addr}{cd:Vq}{A:Around}{outer:List Env}{s₀:Sq}{H₀:Hp}{E:XK}
def oG{a:Expr}{g:TA}{c:Pe->M (List T)}(ex:W.nsIn K mainGlobals x=some (some (.ref C)))(q:jK K C C5 "ValueError.__new__" = true)(I:rA P w K mg base C j)(hr:dy k (A.deeper (envOfC qual scope s₀.heap.objs.size f cd)))
  (d:oK K E (dH (iq P w) P w K mg base N qual scope f cd A outer s₀ H₀ E) [a] g c) (h:j+1<=k:=by decide)
  (l:Gl (dH (iq P w) P w K mg base N qual scope f cd A outer s₀ H₀ E) x:=by rfl) (b:(x==("__debug__" : Str))=false:=by decide)
  (m:starEach [a] (envOfC qual scope s₀.heap.objs.size f cd)=[(false,eval a (envOfC qual scope s₀.heap.objs.size f cd))]:=by rfl) :
  nM K E (dH (iq P w) P w K mg base N qual scope f cd A outer s₀ H₀ E) (.Raise (some (.Call (.Name x np) [a] [] cpos)) none pos) (λ_ i H=>g i H λvs e=>∃y,vs=[y]/\∀dx,e dx=none->E (.ref C) (some dx) (dB e dx (.xd [("at",y)]))) (sG C c):=by
 obtain⟨t,r,s,o,p,n⟩:=I.ex;exact⟨sU ex q p PySem.F.excBase_ValueError (by decide +kernel) PySem.F.excBase_ValueError o n (hr.mono h) d.pa l b m,wR d.ma⟩
end
section
variable {P:Program}{w:World}{K:W.Frag}{mg:Str->Option Value}{base:Heap}{x qual:Str}{C:Addr}{k j n:Nat}{f1 f2:Str}{g1 g2:Pe->M T}{N:List Str}{st:Stmt}
noncomputable def iu(K:W.Frag)(C:Addr)(f:List T->M T):Sp:=λd H Q E=>∃x e b c a,d=.ref x::b/\H x=some (.ins C e [])/\a x=none/\cT a H/\cW K a b c/\(f c).res (kO K a H x Q) (kE E a H)
structure ji(P:Program)(w:World)(K:W.Frag)(mg:Str->Option Value)(base:Heap)(x:Str)(C:Addr)(k:Nat)(sp:Sp):Prop where
 ex:∃f fd ps,fw P w K mg base (iq P w) k f fd ps sp/\Mk K C f/\fV K fd ps []
 mgx:mg x=some (.ref C)
theorem xw{st:Stmt}(cl:lS K C)(n1:fq K C f1)(n2:fq K C f2)(ne:f1≠f2)(hno:∀ρ C n,g2 ρ≠.er C n)(D:eJ K C "__init__" qual st)(S:dw N N (cG st))
  (mk:W.makesIn K C=true) (kp:W.keepIn K (.ref C)=true) (hm:mg x=some (.ref C)) (hN:N.length=n+1)
  (hb:∀(kV U pm:Vq) (an:Oq Addr) (l ct:Vq) (us:List Vq),us.length=N.length->bindArgs (W.fnOf "__init__" qual (dM st) (cZ st) (cG st) .none kV U pm an l ct) ⟨us,[]⟩=pure (N.zip us))
  (hT:∀(f:Addr) (l:Vq) (A:Around) (g:List Env) (s:Sq) (H:Hp) (E:XK),dy k (A.deeper (envOfC qual (cG st) s.heap.objs.size f l))->C3 K E (dH (iq P w) P w K mg base N qual (cG st) f l A g s H E) (cZ st) f1 f2 g1 g2) :
  ji P w K mg base x C (k+1) (iu K C (lM C n f1 f2 g1 g2)):=by
 obtain⟨fi,fd,F,Mm⟩:=D.ex;have FB:=F.binds hb;obtain⟨oc,od,kV,U,pm,an,l,ct,osl,rfl,lk,hcd⟩:=F.ex;refine⟨⟨fi,_,N,pE lk hcd S (λvs H Q E h=>?_) (λA g s H vs Q E hr h=>?_),⟨mk,Mm.at_,Mm.fn,kp⟩,FB⟩,hm⟩
 .obtain⟨x,G,us,B,F0,rfl,Y,fx,s,r,q⟩:=h;unfold lM at q;by_cases L:B.length=n
  .rw[ay,r.length,L,hN]
  .rw[aQ L]at q;exact q.elim
 .obtain⟨x,G,us,B,F0,rfl,Y,fx,s0,r,q⟩:=h;obtain⟨t1,t2,ps,m1,m2⟩:=(hT fi l A g s H E hr).ex;refine⟨_,ps,?_⟩;unfold lM at q;by_cases L:B.length=n
  .rw[aP L]at q;have V:fy K F0 (ee N (.ref x::us)) (none::B.map some):=λi t e=>by
    cases i with
    |zero=>cases e
    |succ i=>
     rw[List.getElem?_cons_succ,av]at e;cases hq:B[i]? with
     |none=>rw[hq]at e;cases e
     |some y=>rw[hq]at e;cases e;obtain⟨v,a,b⟩:=r.get hq;refine⟨v,?_,b⟩;unfold L2.ee;rw[List.getElem?_append_left (by rw[aw,ay];exact Nat.succ_lt_succ (aa.mp a).1),av,List.getElem?_cons_succ,a];rfl
   cases J:g1 (none::B.map some) with
   |bad=>rw[J]at q;exact q.elim
   |er C' n'=>rw[J]at q;exact m1 F0 H _ _ _ s0 V (by rw[J];exact q)
   |ok a=>
    rw[J,L3.M.bind_ok]at q;cases X:g2 (none::B.map some) with
    |bad=>rw[X]at q;exact q.elim
    |er C' n'=>exact absurd X (hno _ _ _)
    |ok b=>
     rw[X,L3.M.bind_ok]at q;refine m1 F0 H _ _ _ s0 V ?_;rw[J];intro v Z H1 c r1;have hx1:=c.hh _ _ Y;have R:Z x=none:=by
      cases z:Z x with
      |none=>rfl
      |some o=>
       rcases c.nw x (by rw[z];exact λy=>nomatch y) with y|y|⟨_,y⟩
       .exact absurd fx y
       .rw[Y]at y;cases y
       .rw[Y]at y;cases y
     refine⟨.ref x,rfl,x,C,G,[],rfl,hx1,cl,n1,by decide,?_⟩;have s1:cT Z (dB H1 x (.ins C G (ia f1 v []))):=λp o h=>by
      have m:p≠x:=λz=>by rw[z,R]at h;cases h
      rw[cN m];exact c.fh p o h
     refine m2 Z _ _ _ _ s1 (V.mono c.ff) ?_;rw[X];intro v2 I H3 d r2;have hx3:=d.hh x _ cL;have fx2:I x=none:=by
      cases z:I x with
      |none=>rfl
      |some o=>
       rcases d.nw x (by rw[z];exact λy=>nomatch y) with y|y|⟨_,y⟩
       .exact absurd R y
       .rw[cL]at y;cases y
       .rw[cL]at y;cases y
     refine⟨.ref x,rfl,x,C,G,_,rfl,hx3,cl,n2,by show 1<1000;decide,?_⟩;have ep:ia f2 v2 (ia f1 v [])=[(f1,v),(f2,v2)]:=by show (if f1=f2 then _ else _)=_;rw[aQ ne];rfl
     have sF:cT I (dB I x (.ins C G [(f1,v),(f2,v2)])):=gW fx2;refine q (dB I x (.ins C G [(f1,v),(f2,v2)])) _ ((c.ff.trans d.ff).trans sF) (λp o h=>?_) (λp o m h=>?_) (λp m=>?_) (.obj cL (.cons (r1.mono (d.ff.trans sF)) (.cons (r2.mono sF) .nil)))
     .by_cases m:p=x
      .subst m;rw[cL]at h;rw[cL,ep];exact h
      .rw[cN m]at h ⊢;exact d.fh p o h
     .rw[cN m];exact d.hh p o (by rw[cN m];exact c.hh p o h)
     .by_cases u:p=x
      .exact .inr (.inr (.inl u))
      .rw[cN u]at m;rcases d.nw p m with z|z|⟨xs,z⟩
       .rcases c.nw p z with y|y|y
        .exact .inl y
        .exact .inr (.inl y)
        .exact .inr (.inr (.inr y))
       .rw[cN u]at z;exact .inr (.inl (c9 c.hh z))
       .rw[cN u]at z;cases y:H p with
        |none=>exact .inr (.inl rfl)
        |some o=>exact .inr (.inr (.inr ⟨xs,by rw[c.hh p o y]at z;exact z⟩))
  .rw[aQ L]at q;exact q.elim
def BY(_:Zx P w K mg base) k F N (e:F=lM C n f1 f2 g1 g2) (i:∀ρ C n,g2 ρ≠.er C n) (u:lS K C) (t:fq K C f1) (v:fq K C f2) (z:W.makesIn K C=true) (p:W.keepIn K (.ref C)=true) (l:mg x=some (.ref C)) (D:eJ K C "__init__" qual st)
  (m:∀{f:Addr} {h:Vq} {A:Around} {g:List Env} {s:Sq} {H:Hp} {E:XK},dy k (A.deeper (envOfC qual (cG st) s.heap.objs.size f h))->C3 K E (dH (iq P w) P w K mg base N qual (cG st) f h A g s H E) (cZ st) f1 f2 g1 g2)
  (S:dw N N (cG st):=by constructor<;>first|rfl|decide +kernel) (o:w5 "__init__" qual st N:=by exact λ_ _ _ _ _ _ _ _ _=>rfl) (ne:f1≠f2:=by decide) (y:N.length=n+1:=by rfl) :
  ji P w K mg base x C (k+1) (iu K C F):=e▸xw u t v ne i D S z p l y (λa b c d e f B q=>fH (o a b c d e f) B q) λ_ _ _ _ _ _ _ r=>m r
def AR ρ C n:cE i ρ≠.er C n:=by unfold cE;split<;>exact λh=>nomatch h
end
section
variable {X:Cx}{K:W.Frag}{E:XK}{x:Str}{C:Addr}{k j:Nat}{Fn:List T->M T}{e:Expr}{es:List Expr}{tr:TA}{fr:Pe->M (List T)}{p pos:Pos}
def wj{f:List T->M T}(R:MA K E tr fr)(Z:∀ts t,f ts=.ok t->Fn ts=.ok t)(N:∀ts,f ts≠.bad->(∀t,f ts≠.ok t)->E'=E/\f ts=Fn ts):ME K E (n8 C (iu K C Fn) [] E' tr) (λρ=>(fr ρ).bind f):=λF H σ ρ Q s V q=>by
 refine R.run s V q λts U J A g r1 l=>?_;intro x v w i G;have m:dB A v (.own x) x=none:=by rw[cN (λz=>G z.symm)];exact w
 have u:cT A (dB (dB A v (.own x)) x (.ins C v [])):=(gW i).trans (gW m);refine⟨x,v,U,ts,J,by rw[bz],cL,c9 g.fh w,g.fh.trans u,r1,?_⟩;cases e:f ts with
 |bad=>rw[e]at l;exact l.elim
 |er C' n=>obtain⟨rfl,S⟩:=N ts (by rw[e];exact λz=>nomatch z) (λt=>by rw[e];exact λz=>nomatch z);rw[<-S,e];rw[e]at l;exact l.go ((Gr.new' g.fh i).trans (Gr.new' (g.fh.trans (gW i)) m))
 |ok t=>
  rw[e]at l;rw[Z ts t e];intro Y L a b c d r;refine⟨rfl,l (.ref x) Y L ⟨g.ff.trans a,b,λp o h=>?_,λp P=>?_⟩ r⟩
  .have D:=g.hh p o h;have B:p≠x:=λz=>by rw[z,w]at D;cases D
   exact c p o B (u p o D)
  .rcases d p P with z|z|z|⟨I,z⟩
   .exact g.nw p z
   .exact .inr (.inl (c9 g.hh (c9 u z)))
   .rw[z];exact .inr (.inl (c9 g.hh w))
   .cases y:H p with
    |none=>exact .inr (.inl rfl)
    |some o=>exact .inr (.inr ⟨I,by rw[u p o (g.hh p o y)]at z;exact z⟩)
def vR(h:ji X.prog X.w X.K X.mg X.base x C k sp)(hr:dy (k+1) X.A)(l:eA (iq X.prog X.w) X E)(i:PA X (e::es) tr)(m:Gl X x:=by rfl)
  (d:(x==("__debug__" : Str))=false:=by decide) (g:starEach (e::es) X.env=(false,eval e X.env)::starEach es X.env:=by rfl) (c:(backTo pos (starEach es X.env)).any (·.1)=false:=by rfl) :
  PE X (.Call (.Name x p) (e::es) [] pos) (n8 C sp [] E tr):=by
 obtain⟨f,n,o,F,a,b⟩:=h.ex;exact xk a F hr m h.mgx b .nil l i d g c
def uk(h:ji X.prog X.w X.K X.mg X.base x C j (iu K C Fn))(hr:dy k X.A)(f:eA (iq X.prog X.w) X E)(c:oK K E X (e::es) tr fr)(g:j+1<=k:=by decide)(i:Gl X x:=by rfl)
  (b:(x==("__debug__" : Str))=false:=by decide) (d:starEach (e::es) X.env=(false,eval e X.env)::starEach es X.env:=by rfl) (a:(backTo pos (starEach es X.env)).any (·.1)=false:=by rfl) :
  Pm K E X (.Call (.Name x p) (e::es) [] pos) (n8 C (iu K C Fn) [] E tr) (ip fr Fn):=⟨vR h (hr.mono g) f c.pa i b d a,wj c.ma (λ_ _ h=>h) λ_ _ _=>⟨rfl,rfl⟩⟩
def xC(h:ji X.prog X.w X.K X.mg X.base x C j (iu K C Fn))(hr:dy k X.A)(f:oK K E X (e::es) tr fr)(l:j+1<=k:=by decide)(m:Gl X x:=by rfl)
  (c:(x==("__debug__" : Str))=false:=by decide) (i:starEach (e::es) X.env=(false,eval e X.env)::starEach es X.env:=by rfl) (b:(backTo pos (starEach es X.env)).any (·.1)=false:=by rfl) :
  Pm K E X (.Call (.Name x p) (e::es) [] pos) (n8 C (iu K C Fn) [] E0 tr) (cP fr Fn):=⟨vR h (hr.mono l) r0 f.pa m c i b,wj (E':=E0) f.ma (λd t h=>by
  cases e:Fn d with
  |ok a=>rw[e]at h;exact h
  |bad=>rw[e]at h;cases h
  |er C n=>rw[e]at h;cases h) λd g o=>by
  cases e:Fn d with
  |ok a=>exact absurd (by rw[e];rfl) (o a)
  |bad=>exact absurd (by rw[e];rfl) g
  |er C n=>exact absurd (by rw[e];rfl) g⟩
end
section
variable {K:W.Frag}{E:XK}
@[simp] noncomputable def oq(n:Nat)(g:En->O)(h:Addr->Option Nat)(g':En->O):En->O:=λa=>match g a with
 |.nx ρ'=>g' ρ'
 |.er C (some i)=>(match h C with
  |none=>.bad
  |some j=>match g' ((List.replicate n none).set j (some (.p (.int i)))) with
   |.rt t=>.rt t
   |_=>.bad)
 |.er _ none=>.bad
 |o=>o
def xS{c:L2.St}{y:Int}(g:Gr F0 H0 F H)(f:i≠j)(b:c.length=n)(m:c[j]? = some (some (.int y))):Sr K ⟨F0,[]⟩ H0 F H (c.set i none) ((List.replicate n none).set j (some (.p (.int y)))):=by
 have at_:∀(l:Nat) (u:W),((List.replicate n none).set j (some (W.p (.int y))))[l]? = some (some u)->l=j/\j<n/\u=.p (.int y):=λl u e=>by
  by_cases b:j=l
  .subst b;by_cases a:j<n
   .rw[List.getElem?_set_self (by simpa using a)]at e;cases e;exact⟨rfl,a,rfl⟩
   .rw[List.getElem?_eq_none (by simpa using a)]at e;cases e
  .rw[aq b,List.getElem?_replicate]at e;split at e<;>cases e
 refine⟨g,by simp[b],λl t e=>?_,⟨λ_=>0,λl r e=>?_,λl o r v e=>?_⟩,λ_ s=>(nomatch s),λ_ _ _ h=>(by cases h),⟨λl d e=>?_,λl o d k e=>?_⟩⟩
 .obtain⟨rfl,a,q⟩:=at_ _ _ e;cases q;exact⟨.int y,by rw[aq f,m],.int y⟩
 all_goals (obtain⟨_,_,q⟩:=at_ _ _ e;cases q)
theorem xV{x:Addr->Addr->Option Addr->TS}{h:Addr->Option Nat}(I:∀y,MS K y (tb y) g)(B:MS K E u g')
  (w:∀C j,h C=some j->W.mroIn K C (.ref Dh)=some true/\i≠j)
  (R:∀C j,h C=some j->∀ea dx n H D,H ea=none->H dx=some (.xd [("at",.int n)])->(∀(a:L2.St) b,a.length=N.length->a[j]? = some (some (.int n))->cT H b->D.nx a b)->x ea C (some dx) D ((List.replicate N.length (none:Oq V)).set i (some (.ref ea))) H) :
  Da K E (oR (tQ K N Dh i tb x) u) (oq N.length g h g'):=λl o F H L f D r q=>by
 refine I _ ⟨l,[]⟩ o F H L f _ r ?_;unfold oq at q;cases e:g f with
 |nx ρ'=>rw[e]at q;intro k b a s X;exact B ⟨l,[]⟩ o k b a ρ' D X (O.res.go q s)
 |bad=>rw[e]at q;exact q
 |rt t=>rw[e]at q;exact q
 |rf ts=>rw[e]at q;exact q
 |rn ts us=>rw[e]at q;exact q
 |bk f=>rw[e]at q;exact q
 |ct f=>rw[e]at q;exact q
 |er C n=>
  rw[e]at q;cases n with
  |none=>exact q.elim
  |some m=>
   dsimp only at q;cases d:h C with
   |none=>rw[d]at q;exact q.elim
   |some j=>
    rw[d]at q;intro k b c dx v;refine⟨C,rfl,(w C j d).1,λea S=>R C j d ea dx m b _ S (c.fh _ _ v) λU G Q P A=>?_⟩;have J:Gr l o k G:=⟨c.ff,c.fh.trans A,c.hh.trans A,c.nw⟩;refine B ⟨l,[]⟩ o k G _ _ D (xS (n:=N.length) J (w C j d).2 Q P) ?_;dsimp only at q;cases z:g' ((List.replicate N.length none).set j (some (.p (.int m)))) with
    |rt t=>rw[z]at q;exact q
    |_=>rw[z]at q;exact q.elim
def vp{o:Addr->Addr->Option Addr->TS}{h:Addr->Option Nat}{c a z:List Stmt} i (S:X.N.Nodup) (A:X.mg x=some (.ref Dh)) (T:ya X.K Dh)
  (v:∀(f:XK) (b:List (Addr×Obj)) (l:Vq->Shared->Prop),eA (iq X.prog X.w) (X.tryB b l) f->gU K f (X.tryB b l) c (tb f) g)
  (I:∀(b:List (Addr×Obj)) (ea:Addr) (oe:Obj) (m:Addr) (d:Oq Addr),(ea,oe)∈b->oe.cls=.ref m->oe.dict=d->(∃Z,oe.data=.fields Z)->jY (X.exc b ea) (k::a) (o ea m d))
  (y:gU K E X z u g') (s:∀C j,h C=some j->W.mroIn K C (.ref Dh)=some true/\i≠j)
  (U:∀C j,h C=some j->∀ea dx n H D,H ea=none->H dx=some (.xd [("at",.int n)])->(∀(e:L2.St) H',e.length=X.N.length->e[j]? = some (some (.int n))->cT H H'->D.nx e H')->o ea C (some dx) D ((List.replicate X.N.length (none:Oq V)).set i (some (.ref ea))) H)
  (P:X.K=K:=by rfl) (F:X.N[i]? = some n:=by rfl) (J:X.env.kindOf n=some .local:=by rfl) (R:Gl X x:=by rfl) (t:X.stack=X.env::X.outer:=by rfl) (r:X.env.frame=some X.env.locals:=by rfl)
  (Q:rT X.env.scope n:=by exact .inl rfl) (q:X.fn n=true\/X.env.scope.names.lookup n=some .local:=by exact .inr rfl) (B:(x==("__debug__" : Str))=false:=by decide) :
  xn K E X (.Try c [.ExceptHandler (some (.Name x np)) (some n) (k::a) hpos] [] [] pos::z) (oR (tQ X.K X.N Dh i tb o) u) (oq X.N.length g h g'):=by
 subst P;exact⟨ij (yg S F J R A T t r (λf b l p=>(v f b l p).ps) (λb ea oe m L Y G=>I b ea oe m oe.dict L Y rfl G) Q q B) y.ps,xV (λf=>(v f [] (λ_ _=>True) λ_ _ _ _ _ _ _ _=>trivial).ms) y.ms s U⟩
def wW(A:Addr)(j:Nat):Addr->Option Nat:=λC=>if C=A then some j else none
def Ao(b:W.mroIn K A (.ref Cut)=some true)(a:i≠j):∀C l,wW A j C=some l->W.mroIn K C (.ref Cut)=some true/\i≠l:=λC l h=>by
 unfold wW at h;split at h
 .rename_i z;subst z;cases h;exact⟨b,a⟩
 .cases h
def Av{R:Addr->Nat->Prop}(h:R A j):∀C l,wW A j C=some l->R C l:=λC l e=>by
 unfold wW at e;split at e
 .rename_i z;subst z;cases e;exact h
 .cases e
def Am{b:TE}{z:TS}{D:iU}{a:L2.St}{H:Hp}(h:CB b a H v)(k:∀c,cT H c->z D (a.set j (some v)) c):oR (h7 b (ek j)) z D a H:=h _ k
def tE{f:L2.St}{H:Hp}{c d a e:Addr}(g:f[i]? = some (some (.ref ea)))(x:jQ K C)(k:W.kitAny K (.ref C) ([c,d,a,e].map Value.ref)=some b) :
  CB (tm (zK K ea C) (fj (f7 i) (fj (xb (fj (tC (.ref c)) (fj (tC (.ref d)) (fj (tC (.ref a)) (fj (tC (.ref e)) jo))))) jo))) f H (.bl b):=λQ q=>
 ⟨_,g,(by show 4<=sizeLine;decide),λj h=>⟨_,b,rfl,x,sq.tup cL k,q _ (gW h)⟩⟩
def rD{a:L2.St}{H:Hp}(b:a[i]? = some (some (.ref ea)))(x:jQ K C)(c:sC K C "at")(h:H dx=some (.xd [("at",y)])):CB (Bv K ea C (some dx) (f7 i) "at") a H y:=λQ q=>⟨_,b,rfl,x,c,dx,_,y,rfl,h,rfl,q H (.refl _)⟩
def zj{a:L2.St}{H:Hp}{c:TA}{F:List T->M T}{m:Int}(h:Cd c a H [.int m])(e:F [.int m]=.ok (.bl b)):wA (tB (λa H Q=>c a H λvs d=>jx K F vs d Q E0)) a H b:=λQ q=>h _ λi s=>⟨[.int m],λ_=>none,(λ_ _ z=>nomatch z),.cons (.int m) .nil,by rw[e];exact λv j f g r=>by cases r;exact⟨b,rfl,q f (s.trans g.hh)⟩⟩
def yo{F:List T->M T}{N ps:List Str}{g:En->O}(e:F=iS ps.length N.length g):∀vs H Q,jx K F vs H Q E0->vs.length=ps.length:=λvs H Q h=>by subst e;exact jF h
end
end L3
namespace CL
open PySem L2 L3
structure Cs where
 Cutting:Addr
 Desk:Addr
 CutError:Addr
 NoCutting:Addr
 NoTable:Addr
 NoFraction:Addr
 NoSpot:Addr
 NoSigns:Addr
 NoLand:Addr
 NoFace:Addr
 NoNumber:Addr
 NoText:Addr
 NoDeed:Addr
def gE(c:Cs):En->O:=(dm (iy (dU (c6 CZ (cE 1) (fP eP (cC (cE 0) cF)))) (d8 (c6 iQ (cE 0) (cE 1))) dR)
  (d8 (cM (.int 0))))
def cY(c:Cs):List T->M T:=iS 2 2 (gE c)
def iG(c:Cs):En->O:=(d8 (tz (jV "int" (cE 0)) (pT (jV "bool" (cE 0)))))
def j5(c:Cs):List T->M T:=iS 1 1 (iG c)
def qK(c:Cs):En->O:=(d8 (tz (jV "int" (cE 0)) (pT (jV "bool" (cE 0)))))
def eC(c:Cs):List T->M T:=iS 1 1 (qK c)
def sQ(c:Cs):En->O:=(d8 (tz (cP (cC (cE 0) cF) (eC c)) (Dg Cf Cf (cM (.int 1)) (cE 0) (cM (.int 3)))))
def dX(c:Cs):List T->M T:=iS 1 1 (sQ c)
def jI(c:Cs):Pe->M T:=(cP (cC (cE 0) cF) (eC c))
def jS(c:Cs):Pe->M T:=(c6 (df true) (cE 0) (cM (.int 0)))
def uw(c:Cs):En->O:=(dm (iy (ll (gR (dU (jV "tuple" (cE 1)))) (dU (c6 (df true) (fP eP (cC (cE 1) cF)) (c6 eD (cE 0) (cM (.int 1)))))) (d8 (cM (.bl false))) dR)
  (dm (iy (gR (dU (fP sV (cC (dE (gY [none] (eU (cE 1)) (h8 0) (λ_=>.ok true) (jI c))) cF)))) (d8 (cM (.bl false))) dR)
  (d8 (fP n6 (cC (dE (gY [none] (eU (fR (cE 1) (λ_=>.ok none) (eh (cE 0)))) (h8 0) (λ_=>.ok true) (jS c))) cF)))))
def eK(c:Cs):List T->M T:=iS 2 2 (uw c)
def iA(c:Cs):En->O:=(setO 1 (fv (c6 eD (cE 1) (cM (.int 1)))))
def l3(c:Cs):En->O:=(dm (setO 1 (fv (cM (.int 0))))
  (dm (λa=>gh (dU (c6 (df false) (c6 iQ (cE 0) (cE 1)) (cM (.int 0)))) (iA c) ((λa=>match a with|some (.p (.tup ts))::_=>ts.length+1|_=>0) a) a)
  (d8 (cE 1))))
def eM(c:Cs):List T->M T:=iS 1 2 (l3 c)
def gJ(c:Cs):Pe->M T:=(c6 (df false) (c6 gS (cE 0) (c6 iQ (cE 2) (cE 3))) (c6 gS (cE 1) (c6 iQ (cE 4) (cE 3))))
def mT(c:Cs):En->O:=(dm (setO 2 (fv (cP (cC (cE 0) cF) (eM c))))
  (d8 (fP sV (cC (dE (gY [none,none,some 1,some 2,some 0] (lR (cC (cE 0) (cC (cE 1) cF))) (pW 2 (hW (h8 0) (hW (h8 1) qB))) (λ_=>.ok true) (gJ c))) cF))))
def dO(c:Cs):List T->M T:=iS 2 3 (mT c)
def eW(c:Cs):Pe->M T:=(cP (cC (cE 0) (cC (cE 1) cF)) (dO c))
def oz(c:Cs):En->O:=(dm (iy (ll (dU (c6 yR (fP eP (cC (cE 1) cF)) (cM (.int 7)))) (gR (dU (cP (cC (cE 0) (cC (cE 2) cF)) (eK c))))) (d8 (cM (.bl false))) dR)
  (d8 (pT (fP n6 (cC (dE (gY [none,some 2] (eU (cE 1)) (h8 0) (λ_=>.ok true) (eW c))) cF)))))
def dF(c:Cs):List T->M T:=iS 3 3 (oz c)
def lz(c:Cs):En->O:=(oQ (sj gd (cC (jr c.Cutting "own_cuts" (cE 0)) cF)))
def dG(c:Cs):List T->M (List T):=tq 1 1 (lz c)
def pF(c:Cs):En->O:=(setO 3 (fv (c6 l8 (cE 3) (cE 2))))
def pO(c:Cs):En->O:=(dm (iy (dU (c6 yR (cE 0) (c6 iV (cM (.int 10)) (cM (.int 18))))) (dm (setO 3 (fv (cE 0)))
  (dm (i0 (gA (cC (cE 1) cF)) (lO 4) (pF c))
  (d8 (c6 nR (cE 3) (cE 2))))) dR)
  (dm (setO 5 (fv (c6 nR (c6 gS (c6 eD (c6 eD (c6 nR (cE 0) (cM (.int 1000000007))) (c6 gS (cM (.int 1009)) (cE 1))) (cM (.int 17))) (cM (.int 69621))) (cM (.int 2147483647)))))
  (dm (setO 5 (fv (c6 nR (c6 eD (c6 eD (c6 gS (cE 5) (cE 5)) (c6 gS (cM (.int 40503)) (cE 1))) (cM (.int 5))) (cM (.int 2147483629)))))
  (d8 (c6 nR (c6 l8 (c6 nR (c6 gS (cE 5) (cM (.int 48271))) (cM (.int 2147483647))) (cM (.int 32))) (cE 2))))))
def cO(c:Cs):List T->M T:=iS 3 6 (pO c)
def j1(c:Cs):En->O:=(iy (dU (c6 (df true) (c6 gS (c6 iQ (cE 0) (cE 2)) (c6 iQ (cE 1) (cE 3))) (c6 gS (c6 iQ (cE 0) (cE 3)) (c6 iQ (cE 1) (cE 2))))) (d8 (cM (.bl false))) dR)
def og(c:Cs):En->O:=(i0 (gA (cC (cE 2) cF)) (lO 3) (j1 c))
def pP(c:Cs):En->O:=(dm (i0 (gA (cC (fP eP (cC (cE 0) cF)) cF)) (lO 2) (og c))
  (d8 (cM (.bl true))))
def eQ(c:Cs):List T->M T:=iS 2 4 (pP c)
def kP(c:Cs):Pe->M T:=(c6 ui (cP (cC (cE 1) (cC (cE 0) (cC (cM (.int 7)) cF))) (cO c)) (cM (.int 3)))
def lp(c:Cs):Pe->M T:=(c6 gS (cE 0) (cE 1))
def ly(c:Cs):Pe->M T:=(c6 gS (cE 0) (cE 1))
def mB(c:Cs):En->O:=(dm (jG 3 (lY (gY [none,some 0] (gA (cC (cE 1) cF)) (h8 0) (λ_=>.ok true) (kP c))))
  (dm (iy (dU (c6 (df false) (cE 3) (dE (oP (dE (lstM (cC (cM (.int 0)) cF))) (cE 1))))) (qD 3 (nk (cP (cC (cE 0) (cC (cM (.int 4)) (cC (cE 1) cF))) (cO c))) (nk (c6 eD (cM (.int 1)) (cP (cC (cE 0) (cC (cM (.int 5)) (cC (cM (.int 3)) cF))) (cO c))))) dR)
  (dm (setO 4 (fv (c6 ui (cP (cC (cE 0) (cC (cM (.int 6)) (cC (cM (.int 9)) cF))) (cO c)) (cM (.int 4)))))
  (dm (setO 5 (fv (cP (cC (cE 0) (cC (cM (.int 7)) (cC (cM (.int 7)) cF))) (cO c))))
  (dm (iy (qG (dU (c6 (df false) (cE 5) (cM (.int 1)))) (dU (c6 (df true) (cE 2) (dE (lstM cF))))) (jG 3 (lY (sj gd (cC (fR (c6 iQ (cE 2) (cP (cC (cE 0) (cC (cM (.int 8)) (cC (fP eP (cC (cE 2) cF)) cF))) (cO c))) (λ_=>.ok none) (eh (cE 1))) cF)))) dR)
  (dm (iy (ll (dU (c6 (df false) (cE 5) (cM (.int 2)))) (dU (c6 (df false) (cE 5) (cM (.int 3))))) (setO 4 (nk (fP uM (cC (dE (gY [none,none] (lR (cC (cE 3) (cC (dE (lstM (cC (cM (.int 1)) (cC (cM (.int 2)) (cC (l7 (λi=>.int (-i)) (cM (.int 1))) cF))))) cF))) (pW 2 (hW (h8 0) (hW (h8 1) qB))) (λ_=>.ok true) (lp c))) cF)))) dR)
  (dm (iy (dU (c6 (df false) (cE 5) (cM (.int 4)))) (dm (setO 6 (fv (c6 gS (c6 eD (cM (.int 1)) (cP (cC (cE 0) (cC (cM (.int 9)) (cC (c6 iV (cM (.int 10)) (cM (.int 6))) cF))) (cO c))) (c6 iQ (dE (lstM (cC (cM (.int 1)) (cC (cM (.int 1)) (cC (c6 iV (cM (.int 10)) (cM (.int 18))) cF))))) (cP (cC (cE 0) (cC (cM (.int 11)) (cC (cM (.int 3)) cF))) (cO c))))))
  (dm (jG 3 (tV (gY [none,some 6] (eU (cE 3)) (h8 0) (λ_=>.ok true) (ly c))))
  (setO 4 (fv (c6 eD (c6 gS (cE 4) (cE 6)) (cP (cC (cE 0) (cC (cM (.int 10)) (cC (cM (.int 7)) cF))) (cO c))))))) dR)
  (d8 (fP eF (cC (dE (gx (cE 3) (dE (lstM (cC (cE 4) cF))))) cF))))))))))
def fY(c:Cs):List T->M T:=iS 3 7 (mB c)
def ir(c:Cs):Pe->M T:=(cE 0)
def j0(c:Cs):En->O:=(dm (setO 6 (nk (cP (cC (cP (cC (cE 0) (cC (c6 eD (cE 1) (cE 5)) cF)) (cY c)) (cC (cE 2) (cC (cE 4) cF))) (fY c))))
  (iy (dU (c6 (df false) (dE (gY [none,some 6] (eU (cE 4)) (h8 0) (dU (cP (cC (cE 1) (cC (cE 0) cF)) (eQ c))) (ir c))) (dE (lstM cF)))) (qk 4 (fv (cE 6))) dR))
def pZ(c:Cs):En->O:=(dm (jG 4 (lY (lstM cF)))
  (dm (i0 (gA (cC (cE 3) cF)) (lO 5) (j0 c))
  (ki 4)))
def fB(c:Cs):List T->M (List T):=tq 4 7 (pZ c)
def sL(c:Cs):En->O:=(dm (setO 2 (fv (uA (ie (cC (cM (.int 1)) cF)) (c6 eD (cE 1) (cM (.int 1))))))
  (dm (setO 3 (fv (dE (lstM (cC (c6 eD (uA (ie (cC (cM (.int 0)) cF)) (cE 1)) (ie (cC (cM (.int 5)) cF))) (cC (fR (cE 2) (eh (cM (.int 1))) (λ_=>.ok none)) (cC (c6 eD (cE 2) (ie (cC (cM (.int 1)) cF))) (cC (dE (sj gd (cC (cE 2) cF))) (cC (cM .non) (cC (cM (.int 5)) (cC (cM (.str "1:1")) (cC (ie cF) (cC (c6 eD (fR (cE 2) (λ_=>.ok none) (eh (l7 (λi=>.int (-i)) (cM (.int 1))))) (ie (cC (cM (.bl true)) cF))) cF)))))))))))))
  (dm (setO 3 (fv (dE (gx (cE 3) (dE (lstM (cC (c6 eD (ie (cC (cM (.bl true)) cF)) (fR (cE 2) (eh (cM (.int 1))) (λ_=>.ok none))) (cC (c6 eD (fR (cE 2) (λ_=>.ok none) (eh (l7 (λi=>.int (-i)) (cM (.int 1))))) (ie (cC (cM .non) cF))) (cC (c6 eD (fR (cE 2) (λ_=>.ok none) (eh (l7 (λi=>.int (-i)) (cM (.int 1))))) (ie (cC (cM (.str "1")) cF))) (cC (c6 eD (ie (cC (cM .non) cF)) (fR (cE 2) (eh (cM (.int 1))) (λ_=>.ok none))) (cC (cM .emp) cF)))))))))))
  (d8 (c6 iQ (cE 3) (cP (cC (cE 0) (cC (cM (.int 1)) (cC (cM (.int 14)) cF))) (cO c)))))))
def fZ(c:Cs):List T->M T:=iS 2 4 (sL c)
def dg(c:Cs):En->O:=(dm (iy (gR (dU (cP (cC (cE 0) (cC (cE 2) (cC (cE 3) cF))) (dF c)))) (sG c.NoCutting (cC (fP eP (cC (cE 2) cF)) cF)) dR)
  (qk 2 (fv (fP eF (cC (cE 3) cF)))))
def jJ(c:Cs):En->O:=(dm (iy (ll (gR (dU (cP (cC (cE 0) cF) (dX c)))) (gR (dU (jV "list" (cE 1))))) (sG c.NoCutting (cC (l7 (λi=>.int (-i)) (cM (.int 1))) cF)) dR)
  (dm (jG 2 (lY (lstM cF)))
  (dm (qq (eU (cE 1)) (lO 3) (dg c))
  (d8 (fP eF (cC (cE 2) cF))))))
def cQ(c:Cs):List T->M T:=iS 2 4 (jJ c)
def cR(c:Cs):List T->M T:=lM c.Cutting 2 "own_cuts" "own_dims" (ip (cC (cE 1) (cC (cE 2) cF)) (cQ c)) (cE 1)
def fN(c:Cs):En->O:=(d8 (ip (cC (jr c.Cutting "own_dims" (cE 0)) (cC (dE (gx (dE (sj gd (cC (jr c.Cutting "own_cuts" (cE 0)) cF))) (dE (lstM (cC (cE 1) cF))))) cF)) (cR c)))
def c5(c:Cs):List T->M T:=iS 2 2 (fN c)
def j8(c:Cs):En->O:=(dm (setO 3 (fv (cM .non)))
  (oq 6 (iy (dU (c6 (vI false) (cE 2) (cM .non))) (iZ (fv (ip (cC (cE 0) (cC (cE 1) cF)) (cR c)))) (iZ (fv (mK c.Cutting "with_one" (cE 2) (cC (cE 1) cF) (c5 c))))) (wW c.NoCutting 3)
  (d8 (cE 3))))
def cJ(c:Cs):List T->M T:=iS 3 6 (j8 c)
def lE(c:Cs):Pe->M T:=(c6 gS (cE 1) (cE 0))
def jm(c:Cs):En->O:=(dm (setO 4 (fv (cP (cC (cE 0) (cC (c6 eD (cM (.int 8)) (cE 3)) cF)) (cY c))))
  (dm (setO 5 (fv (cP (cC (cE 4) (cC (cM (.int 2)) (cC (c6 eD (fP eP (cC (cE 2) cF)) (cM (.int 1))) cF))) (cO c))))
  (dm (setO 6 (fv (cP (cC (cE 4) (cC (cE 1) cF)) (fZ c))))
  (dm (iy (dU (c6 (df true) (cP (cC (cE 1) (cC (dE (gx (dE (gx (fR (cE 2) (λ_=>.ok none) (eh (cE 5))) (dE (lstM (cC (cE 6) cF))))) (fR (cE 2) (eh (cE 5)) (λ_=>.ok none)))) (cC (cM .non) cF))) (cJ c)) (cE 5))) (d8 (cM (.bl false))) dR)
  (dm (setO 7 (fv (c6 iQ (dE (lstM (cC (l7 (λi=>.int (-i)) (cM (.int 1))) (cC (cM (.int 1)) (cC (cM (.int 2)) (cC (l7 (λi=>.int (-i)) (cM (.int 3))) (cC (c6 iV (cM (.int 10)) (cM (.int 20))) cF))))))) (cP (cC (cE 4) (cC (cM (.int 3)) (cC (cM (.int 5)) cF))) (cO c)))))
  (dm (setO 8 (fv (cP (cC (cE 4) (cC (cM (.int 4)) (cC (fP eP (cC (cE 2) cF)) cF))) (cO c))))
  (dm (setO 9 (fv (fP eF (cC (dE (gY [none,some 7] (eU (c6 iQ (cE 2) (cE 8))) (h8 0) (λ_=>.ok true) (lE c))) cF))))
  (dm (iy (dU (c6 (df true) (cP (cC (cE 1) (cC (dE (gx (cE 2) (dE (lstM (cC (cE 9) cF))))) (cC (cM .non) cF))) (cJ c)) (fP eP (cC (cE 2) cF)))) (d8 (cM (.bl false))) dR)
  (dm (setO 10 (fv (cP (cC (cE 1) (cC (cE 2) cF)) (cR c))))
  (dm (iy (ll (dU (c6 (df true) (cP (cC (cE 1) (cC (cE 9) (cC (cE 10) cF))) (cJ c)) (fP eP (cC (cE 2) cF)))) (dU (c6 (df true) (cP (cC (cE 1) (cC (cE 6) (cC (cE 10) cF))) (cJ c)) (fP eP (cC (cE 2) cF))))) (d8 (cM (.bl false))) dR)
  (iy (dU (c6 (df true) (dE (jH c.Cutting "cuts" (cE 10) cF (dG c))) (cE 2))) (d8 (cM (.bl false))) dR)))))))))))
def je(c:Cs):Pe->M T:=(fP eF (cC (dE (gx (dE (gx (dE (lstM (cC (cM (.int 1)) cF))) (dE (oP (dE (lstM (cC (cM (.int 0)) cF))) (c6 ui (cE 1) (cM (.int 1))))))) (dE (lstM (cC (c6 eD (cM (.int 1000)) (cE 0)) cF))))) cF))
def kC(c:Cs):En->O:=(iy (ll (dU (c6 (df true) (cP (cC (cE 12) (cC (dE (lstM cF)) (cC (cM .non) cF))) (cJ c)) (l7 (λi=>.int (-i)) (cM (.int 1))))) (dU (c6 (df true) (cP (cC (cE 12) (cC (cE 2) (cC (cM .non) cF))) (cJ c)) (l7 (λi=>.int (-i)) (cM (.int 1)))))) (d8 (cM (.bl false))) dR)
def kG(c:Cs):Pe->M T:=(cP (cC (cE 1) (cC (cE 0) (cC (cM .non) cF))) (cJ c))
def wY(c:Cs):En->O:=(dm (setO 1 (fv (c6 eD (cM (.int 1)) (cP (cC (cP (cC (cE 0) (cC (cM (.int 0)) cF)) (cY c)) (cC (cM (.int 0)) (cC (cM (.int 3)) cF))) (cO c)))))
  (dm (setO 2 (fv (dE (jD (cC (cE 0) (cC (cM (.int 1)) (cC (cE 1) (cC (c6 eD (cM (.int 1)) (cP (cC (cP (cC (cE 0) (cC (cM (.int 0)) cF)) (cY c)) (cC (cM (.int 1)) (cC (cM (.int 6)) cF))) (cO c))) cF)))) (fB c)))))
  (dm (i0 (gA (cC (cM (.int 5)) cF)) (lO 3) (jm c))
  (dm (setO 11 (fv (dE (gY [none,some 1] (gA (cC (cM (.int 8)) cF)) (h8 0) (λ_=>.ok true) (je c)))))
  (dm (iy (dU (c6 (df true) (cP (cC (cE 1) (cC (dE (gx (cE 11) (dE (lstM (cC (cM .non) cF))))) (cC (cM .non) cF))) (cJ c)) (cM (.int 7)))) (d8 (cM (.bl false))) dR)
  (dm (qq (eU (dE (lstM (cC (cM (.int 0)) (cC (cM (.int 4)) (cC (l7 (λi=>.int (-i)) (cM (.int 1))) (cC (c6 iV (cM (.int 10)) (cM (.int 9))) (cC (cM (.bl true)) (cC (cM .non) (cC (cM (.str "2")) (cC (dE (lstM (cC (cM (.int 2)) cF))) (cC (ie (cC (cM (.int 1)) cF)) cF)))))))))))) (lO 12) (kC c))
  (d8 (c6 (df false) (dE (gY [none,some 1] (eU (dE (lstM (cC (cM .non) (cC (ie cF) (cC (fP eF (cC (cE 2) cF)) (cC (cM (.str "1")) (cC (cM (.int 5)) (cC (cM .emp) cF))))))))) (h8 0) (λ_=>.ok true) (kG c))) (dE (oP (dE (lstM (cC (l7 (λi=>.int (-i)) (cM (.int 1))) cF))) (cM (.int 6))))))))))))
def kr(c:Cs):List T->M T:=iS 1 13 (wY c)
variable {c:Cs}
def i7 ns (k:Nat):∃v,cY c [.scr ns,.int k]=.ok (.int v)/\(v=0\/v∈ns):=by
 by_cases h:(k:Int)<ns.length
 .obtain⟨a,e,b⟩:=ku ns k (by omega) h;exact⟨a,by simp[cY,gE,h,e],.inr b⟩
 .exact⟨0,by simp[cY,gE,h],.inl rfl⟩
def eG(h:i.natAbs<2 ^ 64):gS (.int i) (.int j)=.ok (.int (i*j)):=gy (sv h)
def xv cell (k:Nat) b (A:0<b) (D:b<2 ^ 62) (J:k<=1000000):∃d,cO c [.int cell,.int (k:Int),.int b]=.ok (.int d)/\0<=d/\d<b:=by
 have f:b≠0:=by omega
 have B:∀x:Int,0<=x.fmod b/\x.fmod b<b:=λx=>⟨cq x A,cu x A⟩;have l:iV (.int 10) (.int 18)=.ok (.int 1000000000000000000):=by simp[iV,eT]
 by_cases h:(1000000000000000000:Int)<=cell
 .obtain⟨o,e,v,w,rfl⟩:=iM (m:=lO 4) (g:=setO 3 (fv (c6 l8 (cE 3) (cE 2)))) (λ(i:Nat)=>T.int (i:Int)) (λ_ o=>∃v w,o=[some (.p (.int cell)),some (.p (.int k)),some (.p (.int b)),some (.p (.int v)),w,none])
   (List.range k) 0 [some (.p (.int cell)),some (.p (.int k)),some (.p (.int b)),some (.p (.int cell)),none,none] ⟨_,_,rfl⟩ (by rintro i a o I ⟨v,w,rfl⟩;have C:Builtin.divisionGoesByPylong v b=false:=Bn.noPy (n:=62) (by unfold Bn;omega) (by decide);exact⟨_,_,rfl,.inl (de (by simp[n9 f C];rfl) rfl),_,_,rfl⟩)
  refine⟨v.fmod b,dY rfl ?_,B v⟩;have q:tf (k:Int)=true:=jz (by omega);refine i8 (eI (by simp[l,h]) (cK (de (by simp) rfl) (cK (g9 (by simp[q,BL]) e) (dI (by simp[kg f]))))) rfl
 .have u:∀x y:Int,0<y->0<=x.fmod y/\x.fmod y<y:=λx y z=>⟨cq x z,cu x z⟩;have H:=u cell 1000000007 (by decide);have G:=u ((cell.fmod 1000000007+1009*k+17)*69621) 2147483647 (by decide);generalize s:((cell.fmod 1000000007+1009*k+17)*69621).fmod 2147483647=s1 at G;have F:=u (s1*s1+40503*k+5) 2147483629 (by decide);generalize r:(s1*s1+40503*k+5).fmod 2147483629=s2 at F;have E:Builtin.divisionGoesByPylong ((s2*48271).fmod 2147483647) 32=false:=Bn.noPy (n:=62) (by unfold Bn;decide) (by decide);refine⟨(((s2*48271).fmod 2147483647).fdiv 32).fmod b,dY rfl ?_,B _⟩;refine cK (dQ (by simp[l,h]) rfl) (cK (de (t:=.int s1) ?_ rfl) (cK (de (t:=.int s2) ?_ rfl) (dI ?_)))
  .rw[<-s];simp[kg,eG (i:=1009) (j:=k) (by decide),eG (i:=cell.fmod 1000000007+1009*k+17) (j:=69621) (by omega)]
  .rw[<-r];simp[kg,eG (i:=40503) (j:=k) (by decide),eG (i:=s1) (j:=s1) (by omega)]
  .simp[kg,f,n9 (j:=32) (by decide) E,eG (i:=s2) (j:=48271) (by omega)]
def dr(c:Cs)(a k b:Int):Int:=match cO c [.int a,.int k,.int b] with
 |.ok (.int d)=>d
 |_=>0
def dW cell k b (f:0<b) (a:b<2 ^ 62) (h:0<=k) (j:k<=1000000):cO c [.int cell,.int k,.int b]=.ok (.int (dr c cell k b))/\0<=dr c cell k b/\dr c cell k b<b:=by
 obtain⟨d,e,i,g⟩:=xv cell k.toNat b f a (by omega);rw[b6 h]at e;have:dr c cell k b=d:=by unfold dr;rw[e]
 rw[this];exact⟨e,i,g⟩
def qT(l:LI)(i:Int)(b:0<=i)(f:i<l.length):∃w,iQ (.lst (l.map T.int)) (.int i)=.ok (.int w)/\w∈l:=by obtain⟨a,e,d⟩:=ku l i b f;exact⟨a,by simp[jw,e],d⟩
noncomputable def yW:T->Bool
 |.scr _=>false
 |.obj _ _=>false
 |.dic _=>false
 |_=>true
noncomputable def isInt:T->Bool
 |.int _=>true
 |_=>false
def oN x (h:yW x=true):eC c [x]=.ok (.bl (isInt x)):=by cases x<;>first|(simp[yW]at h;done)|rfl
def yi x (h:yW x=true):vd "tuple" x=.ok (.bl (jX x)):=by cases x<;>first|(simp[yW]at h;done)|rfl
def kq(bs:List Bool):sV [.lst (bs.map T.bl)]=.ok (.bl (bs.all id)):=by simp
def nT(bs:List Bool):n6 [.lst (bs.map T.bl)]=.ok (.bl (bs.any id)):=by simp
noncomputable def iz(d:Nat):T->Bool
 |.tup ts=>decide (ts.length=d+1)&&ts.all isInt&&(match fF ts with|some ns=>(ns.take d).any (· != 0)|none=>false)
 |_=>false
theorem pG:∀ts,ts.all isInt=true->∃ns:LI,ts=ns.map T.int
 |[],_=>⟨[],rfl⟩
 |t::ts,h=>by
  rw[bY,bH]at h;obtain⟨ns,e⟩:=pG ts h.2;cases t with
  |int i=>exact⟨i::ns,by rw[e];rfl⟩
  |_=>simp[isInt]at h
def jP(d:Nat)(q:d<=10) x (p:yW x=true) (l:∀ts,x=.tup ts->ts.length<1000/\∀t∈ts,yW t=true):eK c [.int d,x]=.ok (.bl (iz d x)):=by
 have sz:1000<sizeLine:=by decide
 by_cases f:jX x=true
 .cases x with
  |tup ts=>
   obtain⟨r,m⟩:=l ts rfl;by_cases g:ts.length=d+1
   .have i:gY [none] (eU (cE 1)) (h8 0) (λ_=>.ok true) (jI c) (vw (cV 2 [.int d,.tup ts]))=.ok ((ts.map isInt).map T.bl):=by rw[mV ts id (λt=>T.bl (isInt t)) (by simp) (by lia) λt f=>⟨_,rfl,rfl,by simp[jI,oN t (m t f)]⟩];simp
    have j:(L3.ll (L3.gR (dU (jV "tuple" (cE 1)))) (dU (c6 (df true) (fP eP (cC (cE 1) cF)) (c6 eD (cE 0) (cM (.int 1)))))) (vw (cV 2 [.int d,.tup ts]))=.ok false:=by simp[g]
    by_cases e:ts.all isInt=true
    .obtain⟨b,rfl⟩:=pG ts e;have h:b.length=d+1:=by simpa using g
     have a:iz d (.tup (b.map T.int))=(b.take d).any (· != 0):=by simp[iz,h,e]
     rw[a];have k:gY [none] (eU (fR (cE 1) (λ_=>.ok none) (eh (cE 0)))) (h8 0) (λ_=>.ok true) (jS c) (vw (cV 2 [.int d,.tup (b.map T.int)]))=.ok (((b.take d).map λn=>n != 0).map T.bl):=by rw[mV (b.take d) T.int (λn=>T.bl (n != 0)) (vD (by rw[ck];exact oB rfl rfl (by simp;lia))) (by simp;lia) λn g=>⟨_,rfl,rfl,by simp[jS,bne]⟩];rw[aH];rfl
     refine dY rfl (cK (dQ j rfl) (cK (dQ (nU (dA (jv i (kq _))) ?_) rfl) (dI (jv k ?_))))
     .rw[bZ];simpa using e
     .rw[nT,List.any_map];rfl
    .have a:iz d (.tup ts)=false:=by simp[iz,e]
     rw[a];refine dY rfl (cK (dQ j rfl) (i8 (eI (nU (dA (jv i (kq _))) ?_) (dI rfl)) rfl));rw[bZ];simpa using e
   .have a:iz d (.tup ts)=false:=by simp[iz,g]
    rw[a];refine dY rfl (i8 (eI ?_ (dI rfl)) rfl);have:¬(ts.length=(d:Int)+1):=by lia
    simp[this]
  |_=>simp[jX]at f
 .have a:iz d x=false:=by cases x<;>first|rfl|(simp[jX]at f;done)
  rw[a];refine dY rfl (i8 (eI ?_ (dI rfl)) rfl);have o:jX x=false:=by simpa using f
  have:=yi x p;rw[o]at this;simp only[L3.ll,L3.gR,dU,jV,cE,vw,cV,bu,List.map_nil,List.cons_append,bN,List.getElem?_cons_succ,List.getElem?_cons_zero,Dj,M.bind_ok,this];rfl
def lg(d:Nat)(h:1<=d/\d<=3):dX c [.int d]=.ok (.bl true):=by
 have w:eC c [.int d]=.ok (.bl true):=rfl;have b:(1:Int)<=d:=by lia
 have a:(d:Int)<=3:=by lia
 exact dY rfl (dI (by simp[w,b,a]))
def Df n:(List.replicate n [T.int 0]).flatten=(List.replicate n (0:Int)).map T.int:=by
 induction n with
 |zero=>rfl
 |succ n ih=>rw[bJ,bK,ih,bJ];rfl
def Bb(n:Nat)(d:n<=1000)(h:f ρ=.ok (.int (n:Int))):dE (oP (dE (lstM (cC (cM (.int 0)) cF))) f) ρ=.ok (.lst ((List.replicate n (0:Int)).map T.int)):=by
 have sz:1000<sizeLine:=by decide
 have hr:tf n=true:=jz (by lia);have a:1<=sizeLine:=by decide
 have b:n<=sizeLine:=by lia
 simp[h,hr,a,b,Df]
end CL
namespace L3
open PySem L2
theorem i6{f:Type} enc (P:En->Prop) p t:∀(l:List f) (ρ:En),P ρ->
  (∀a∈l,∀ρ,P ρ->∃d,m (enc a) ρ=some d/\(p a=true->∃c,g d=.nx c/\P c)/\(p a=false->g d=.rt t))->
  (l.all p=true->∃ρ',ei m g (l.map enc) ρ=.nx ρ'/\P ρ')/\(l.all p=false->ei m g (l.map enc) ρ=.rt t)
 |[],ρ,h,_=>⟨λ_=>⟨ρ,rfl,h⟩,λh=>by simp at h⟩
 |a::l,ρ,h,st=>by
  obtain⟨d,i,o,s⟩:=st a (by simp) ρ h;rw[bu,ei,i];dsimp only;cases e:p a with
  |true=>obtain⟨c,n,r⟩:=o e;rw[n];have j:=i6 enc P p t l c r λb k ρ q=>st b (by simp[k]) ρ q;rw[bY,e,Bool.true_and];exact j
  |false=>rw[s e,bY,e,Bool.false_and];exact⟨λz=>(by cases z),λ_=>rfl⟩
end L3
namespace CL
open PySem L2 L3
variable {c:Cs}
def oF ns:fF (ns.map T.int)=some ns:=by simp
def AO(a:LI):uM [.lst (a.map T.int)]=.ok (.int a.sum):=by simp
end CL
namespace CL
open PySem L2 L3
variable {c:Cs}
def zN(l:List α)(k:Nat) h:mw l (k:Int)=some l[k]:=by unfold mw qI;rw[aP (by lia),aP (by lia)];simp[h]
def yC(l:LI) k (h:k<l.length):mw l (k:Int)=some (l.getD k 0):=by rw[zN l k h,af,ag h];rfl
def getD_mem(l:LI) k (h:k<l.length):l.getD k 0∈l:=by rw[af,ag h];exact aU h
def gw l (k:Nat) (h:k<l.length):iQ (tI l) (.int (k:Int))=.ok (.int (l.getD k 0)):=by simp[tI,jw,yC l k h]
def Dl n (x:T):(List.replicate n [x]).flatten=List.replicate n x:=by
 induction n with
 |zero=>rfl
 |succ n ih=>rw[bJ,bK,ih,bJ];rfl
end CL
namespace CL
abbrev Vc:=Nat->Int
end CL
namespace CL
open PySem L2 L3
variable {c:Cs}
noncomputable def vc(l:LI):Vc:=λi=>l.getD i 0
def ux l i h:vc l i=l[i]:=by unfold vc;rw[af,ag h];rfl
def iN(f:fa ρ=.ok (.lst a))(d:fb ρ=.ok (.lst b))(e:a.length+b.length<=sizeLine):gx fa fb ρ=.ok (a++b):=by simp only[gx,f,d,M.bind_ok];rw[aP e]
def CY(h:f ρ=.ok a):dE (lstM (cC f cF)) ρ=.ok (.lst [a]):=by
 have b:1<=sizeLine:=by decide
 simp only[dE,lstM,cC,cF,h,M.bind_ok,vV,ay,List.length_nil,b,if_true]
end CL
namespace CL
open PySem L2 L3
variable {c:Cs}
def GL(d B:Nat)(ns:LI):Prop:=ns.length=d+1/\∀x∈ns,Bn B x
structure GC(d B:Nat)(ns:LI):Prop where
 gl:GL d B ns
 re:∃p,p<d/\vc ns p≠0
def GL.mono(h:GL d B ns)(a:B<=B'):GL d B' ns:=⟨h.1,λx b=>(h.2 x b).mono a⟩
def zv ns k v i (a:k<ns.length):vc (ns.set k v) i=if k=i then v else vc ns i:=by
 unfold vc;rw[af,List.getElem?_set];by_cases h:k=i
 .subst h;rw[aP rfl,aP rfl,aP a];rfl
 .rw[aQ h,aQ h,<-af]
def yz n k (h:k<n):qI n (k:Int)=some k:=by unfold qI;rw[aP (by lia),aP (by lia)];simp
def jM(n:Nat)(h:n<=1000)(a:f ρ=.ok (.int (n:Int))):gA (cC f cF) ρ=.ok ((List.range n).map λ(i:Nat)=>T.int (i:Int)):=by have hr:tf n=true:=jz (by lia);rw[<-BL];simp[a,hr]
noncomputable def fg(a b:LI):Bool:=(List.range a.length).all λk=>(List.range k).all λj=>vc a k*vc b j==vc a j*vc b k
def pH n B a b (s:a.length=n) (L:b.length=n) (K:n<=10) (N:B<=1000) (v:∀x∈a,Bn B x) (r:∀x∈b,Bn B x):eQ c [tI a,tI b]=.ok (.bl (fg a b)):=by
 have sz:1000<sizeLine:=by decide
 have i:=i6 (m:=lO 2) (λ(k:Nat)=>T.int (k:Int)) (λρ=>∃o d,ρ=[some (.p (tI a)),some (.p (tI b)),o,d]) (λk=>(List.range k).all λj=>vc a k*vc b j==vc a j*vc b k) (.bl false) (List.range n) [some (.p (tI a)),some (.p (tI b)),none,none] ⟨none,none,rfl⟩ (by
  rintro k A ρ ⟨o,d,rfl⟩;have I:=aR.mp A;refine⟨_,rfl,?_⟩;have l:=i6 (m:=lO 3) (g:=j1 c) (λ(j:Nat)=>T.int (j:Int)) (λρ=>∃d,ρ=[some (.p (tI a)),some (.p (tI b)),some (.p (.int (k:Int))),d]) (λj=>vc a k*vc b j==vc a j*vc b k) (.bl false) (List.range k) [some (.p (tI a)),some (.p (tI b)),some (.p (.int (k:Int))),d] ⟨d,rfl⟩ (by
   rintro j C ρ ⟨d,rfl⟩;have E:=aR.mp C;have D:=gw a k (by lia);have z:=gw b j (by lia);have G:=gw a j (by lia);have y:=gw b k (by lia);have F:=gy ((v _ (getD_mem a k (by lia))).ok (r _ (getD_mem b j (by lia))) (by lia) (by lia));have H:=gy ((v _ (getD_mem a j (by lia))).ok (r _ (getD_mem b k (by lia))) (by lia) (by lia));have w:dU (c6 (df true) (c6 gS (c6 iQ (cE 0) (cE 2)) (c6 iQ (cE 1) (cE 3))) (c6 gS (c6 iQ (cE 0) (cE 3)) (c6 iQ (cE 1) (cE 2)))) (vw [some (.p (tI a)),some (.p (tI b)),some (.p (.int (k:Int))),some (.p (.int (j:Int)))])=.ok (!(vc a k*vc b j==vc a j*vc b k)):=dA (cU (cU (cU rfl rfl D) (cU rfl rfl z) F) (cU (cU rfl rfl G) (cU rfl rfl y) H) (ot _ _))
   refine⟨_,rfl,λh=>⟨_,dQ (w.trans (by rw[h];rfl)) rfl,_,rfl⟩,λh=>eI (w.trans (by rw[h];rfl)) (dI rfl)⟩)
  have hr:=jM (f:=cE 2) (ρ:=vw [some (.p (tI a)),some (.p (tI b)),some (.p (.int (k:Int))),d]) k (by lia) rfl;refine⟨λh=>?_,λh=>g9 hr (l.2 h)⟩;obtain⟨q,e,J,rfl⟩:=l.1 h;exact⟨_,g9 hr e,_,_,rfl⟩)
 have hr:=jM (f:=fP eP (cC (cE 0) cF)) (ρ:=vw (cV 4 [tI a,tI b])) n (by lia) (lW (t:=tI a) rfl (by simp[tI,s]));have u:fg a b=((List.range n).all λk=>(List.range k).all λj=>vc a k*vc b j==vc a j*vc b k):=by unfold fg;rw[s]
 cases h:fg a b with
 |true=>obtain⟨q,e,o,d,rfl⟩:=i.1 (by rw[<-u];exact h);exact dY rfl (cK (g9 hr e) (dI rfl))
 |false=>exact dY rfl (i8 (g9 hr (i.2 (by rw[<-u];exact h))) rfl)
def GC.mono(h:GC d B ns)(a:B<=B'):GC d B' ns:=⟨h.gl.mono a,h.re⟩
def il a (o:a.length<=100) (h:∃p,p<a.length/\vc a p≠0):∃p:Nat,eM c [tI a]=.ok (.int (p:Int))/\p<a.length/\vc a p≠0:=by
 obtain⟨q,r,l⟩:=h;obtain⟨b,e,p,rfl,i,f⟩:=lL (c:=dU (c6 (df false) (c6 iQ (cE 0) (cE 1)) (cM (.int 0)))) (g:=iA c)
  (λb=>∃k:Nat,b=[some (.p (tI a)),some (.p (.int (k:Int)))]/\k<=q) (λb=>match b with|_::some (.p (.int j))::_=>q-j.toNat|_=>0)
  (λb=>∃k:Nat,b=[some (.p (tI a)),some (.p (.int (k:Int)))]/\k<a.length/\vc a k≠0) (by
   rintro b ⟨k,rfl,hk⟩;have m:iQ (tI a) (.int (k:Int))=.ok (.int (vc a k)):=gw a k (by lia);by_cases d:vc a k=0
   .have n:k≠q:=λz=>l (by rw[<-z];exact d);refine .inr ⟨dA (cU (cU rfl rfl m) rfl (by rw[gN,d];rfl)),_,.inl (de (cU rfl rfl (by rw[fu];simp)) rfl),⟨k+1,rfl,by lia⟩,?_⟩;show q-(((k+1:Nat):Int)).toNat<q-((k:Int)).toNat;lia
   .exact .inl ⟨dA (cU (cU rfl rfl m) rfl (by rw[gN];simp[d])),k,rfl,by lia,d⟩)
  ((a.map T.int).length+1) [some (.p (tI a)),some (.p (.int ((0:Nat):Int)))] ⟨0,rfl,by lia⟩ (by rw[aw];lia)
 exact⟨p,dY rfl (cK (de rfl rfl) (cK e (dI rfl))),i,f⟩
def lV d B a b (L:d<=3) (N:B<=1000) (f:GC d B a) (n:GL d B b) (h:fg a b=false):dO c [tI a,tI b]=.ok (.bl false):=by
 have sz:1000<sizeLine:=by decide
 have y:=f.gl.1;have K:=n.1;obtain⟨q,P,l⟩:=f.re;obtain⟨p,w,r,g⟩:=il a (by lia) ⟨q,by lia,l⟩;have G:=gw b p (by lia);have z:=gw a p r;have u:gY [none,none,some 1,some 2,some 0] (lR (cC (cE 0) (cC (cE 1) cF))) (pW 2 (hW (h8 0) (hW (h8 1) qB))) (λ_=>.ok true) (gJ c) (vw [some (.p (tI a)),some (.p (tI b)),some (.p (.int p))])=.ok (((a.zip b).map λx=>x.1*vc b p==x.2*vc a p).map T.bl):=gH (a.zip b) (λx=>T.tup [.int x.1,.int x.2]) (λx=>T.bl (x.1*vc b p==x.2*vc a p)) (qC rfl rfl rfl rfl) (by rw[cv];lia) (λx t=>⟨_,rfl,rfl,by have E:=f.gl.2 _ (aV t).1;have H:=n.2 _ (aV t).2;have A:=n.2 _ (getD_mem b p (by lia));have I:=f.gl.2 _ (getD_mem a p r);exact cU (cU rfl (cU rfl rfl G) (gy (E.ok A (by lia) (by lia)))) (cU rfl (cU rfl rfl z) (gy (H.ok I (by lia) (by lia)))) (gN _ _)⟩) (by rw[aH];rfl)
 refine dY rfl (cK (de (oO rfl w) rfl) (dI (jv u ?_)));rw[kq];congr 2;cases s:((a.zip b).map λx=>x.1*vc b p==x.2*vc a p).all id with
 |false=>rfl
 |true=>
  exfalso;rw[b5]at s;have e:=C4.par_of_place g λi o=>by
   have D:(a.zip b)[i]? = some (a[i],b[i]'(by lia)):=by rw[List.getElem?_zip_eq_some];exact⟨ag o,ag (by lia)⟩
   have:=s _ (aC.mpr ⟨_,au D,rfl⟩);have v:a[i]*vc b p=(b[i]'(by lia))*vc a p:=by simpa using this
   show vc a i*vc b p=vc b i*vc a p;rw[ux a i o,ux b i (by lia)];exact v
  have:fg a b=true:=by unfold fg;refine b5.mpr λk C=>b5.mpr λj F=>?_;have m:=aR.mp C;have J:=aR.mp F;have:=e k j m (by lia);simpa[vc] using this
  rw[h]at this;cases this
structure rW(d B:Nat)(cs:LL):Prop where
 gc:∀f∈cs,GC d B f
 few:cs.length<=7
 pw:cs.Pairwise λa b=>fg a b=false
def n5(h:GC d B ns):iz d (tI ns)=true:=by
 obtain⟨p,hp,hp0⟩:=h.re;have hl:=h.gl.1;unfold tI iz;have h1:(ns.map T.int).length=d+1:=by simp[hl]
 have h2:(ns.map T.int).all isInt=true:=b5.mpr λx hx=>by obtain⟨y,-,rfl⟩:=aC.mp hx;rfl
 show (decide ((ns.map T.int).length=d+1)&&(ns.map T.int).all isInt&&(match fF (ns.map T.int) with|some ns=>(ns.take d).any (· != 0)|none=>false))=true;rw[aB h1,h2,oF];refine List.any_eq_true.mpr ⟨vc ns p,?_,by simpa using hp0⟩;rw[ux ns p (by lia)];refine au (i:=p) ?_;rw[List.getElem?_take,aP hp,ag (by lia)]
def m9 d B (b:LL) ns (k:1<=d/\d<=3) (u:B<=1000) (v:b.length<7) (m:∀f∈b,GC d B f) (g:GC d B ns) (n:∀f∈b,fg f ns=false):dF c [.int d,.lst (b.map tI),tI ns]=.ok (.bl true):=by
 have sz:1000<sizeLine:=by decide
 have i:=jP (c:=c) d (by lia) (tI ns) rfl λw e=>by cases e;refine⟨by rw[aw,g.gl.1];lia,λt r=>by obtain⟨y,-,rfl⟩:=aC.mp r;rfl⟩
 rw[n5 g]at i;have j:gY [none,some 2] (eU (cE 1)) (h8 0) (λ_=>.ok true) (eW c) (vw (cV 3 [.int d,.lst (b.map tI),tI ns]))=.ok ((b.map λ_=>false).map T.bl):=gH b tI (λ_=>T.bl false) rfl (by lia) (λf h=>⟨_,rfl,rfl,hZ rfl rfl (lV d B f ns k.2 u (m f h) g.gl (n f h))⟩) (by rw[aH];rfl)
 have s:dU (c6 yR (fP eP (cC (cE 1) cF)) (cM (.int 7))) (vw (cV 3 [.int d,.lst (b.map tI),tI ns]))=.ok false:=dA (cU (x:=.int (b.length:Int)) (lW (t:=.lst (b.map tI)) rfl (by simp)) rfl (by rw[kh];congr 2;exact aA (by lia)))
 have o:dU (cP (cC (cE 0) (cC (cE 2) cF)) (eK c)) (vw (cV 3 [.int d,.lst (b.map tI),tI ns]))=.ok true:=dA (hZ rfl rfl i);refine dY rfl (cK (dQ ?_ rfl) (dI ?_))
 .simp only[L3.ll,L3.gR,s,o,M.bind_ok];rfl
 .have q:fP n6 (cC (dE (gY [none,some 2] (eU (cE 1)) (h8 0) (λ_=>.ok true) (eW c))) cF) (vw (cV 3 [.int d,.lst (b.map tI),tI ns]))=.ok (.bl false):=by
   refine jv j ?_;rw[nT];congr 2;induction b with
   |nil=>rfl
   |cons a l ih=>simp
  have p:=dA q;simp only[pT,p,M.bind_ok];rfl
noncomputable def gq(c:Cs)(d:Nat)(a:LL):T:=.obj c.Cutting [("own_cuts",.tup (a.map tI)),("own_dims",.int d)]
def qh(h:f ρ=.ok (.obj C fs))(a:fs.lookup x=some t):jr C x f ρ=.ok t:=by unfold jr;rw[h,M.bind_ok];show (if C=C then (match fs.lookup x with|some t=>M.ok t|none=>.bad) else .bad)=_;rw[aP rfl,a]
def xH d cs (a:f ρ=.ok (gq c d cs)):jH c.Cutting "cuts" f cF (dG c) ρ=.ok (cs.map tI):=by
 have b:jU c.Cutting "cuts" (gq c d cs)=.ok ():=by unfold jU gq;exact aP ⟨rfl,rfl⟩
 have e:dG c [gq c d cs]=.ok (cs.map tI):=vL rfl (xR (by have:jr c.Cutting "own_cuts" (cE 0) (vw (cV 1 [gq c d cs]))=.ok (.tup (cs.map tI)):=qh rfl rfl;simp only[sj,cC,cF,this,M.bind_ok];rfl))
 simp only[jH,a,M.bind_ok,b,cF,e,M.noEr_ok]
def nH(f:ns.length=d)(a:∀x∈ns,Bn 84 x)(g:Bn 84 v)(hr:∃p,p<d/\vc ns p≠0):GC d 84 (ns++[v]):=by
 refine⟨⟨by simp[f],λx e=>?_⟩,?_⟩
 .rcases ai.mp e with q|q
  .exact a x q
  .rw[aj.mp q];exact g
 .obtain⟨p,b,h⟩:=hr;refine⟨p,b,?_⟩;unfold vc at *;rw[af,List.getElem?_append_left (by lia),<-af];exact h
def yl(k:ns.length=d)(h:ns≠List.replicate d 0):∃p,p<d/\vc ns p≠0:=by
 refine aN λj=>h (List.eq_replicate_iff.mpr ⟨k,λb g=>?_⟩);obtain⟨i,f⟩:=List.getElem?_of_mem g;have a:i<d:=by have:=(aa.mp f).1;lia
 refine aN λe=>j ⟨i,a,?_⟩;unfold vc;rw[af,f];exact e
def AF(ns:LI)(e:∀x∈ns,x.natAbs<=3):(((ns.zip [1,2,(-1:Int)]).map λ(p:Int×Int)=>p.1*p.2).sum).natAbs<=1000:=by
 have d:∀ns b:LI,(∀x∈ns,x.natAbs<=3)->(((ns.zip b).map λ(p:Int×Int)=>p.1*p.2).sum).natAbs<=3*(b.map Int.natAbs).sum:=λns=>by
  induction ns with
  |nil=>intro _ _;exact bx _
  |cons a l ih=>
   intro b h;cases b with
   |nil=>exact bx _
   |cons k b=>rw[List.zip_cons_cons,bu,List.sum_cons,bu,List.sum_cons,Nat.mul_add];refine aM (cw _ _) (Nat.add_le_add ?_ (ih b λx f=>h x (bj _ f)));rw[aX];exact Nat.mul_le_mul_right _ (h a bh)
 exact aM (d ns _ e) (by decide)
def qg cell d (fs:LL) (hd:1<=d/\d<=3) (hf:∀f∈fs,GC d 84 f) (hfl:fs.length<=10) :
  ∃ns,fY c [.int cell,.int d,.lst (fs.map tI)]=.ok (tI ns)/\GC d 84 ns:=by
 have sz:1000<sizeLine:=by decide
 let n:LI:=(List.range d).map λ(j:Nat)=>dr c cell j 7-3;have l0:n.length=d:=by simp[n]
 have b0:∀x∈n,x.natAbs<=3:=λx D=>by obtain⟨j,hj,rfl⟩:=aC.mp D;have hj':=aR.mp hj;obtain⟨_,a1,a2⟩:=dW (c:=c) cell j 7 (by lia) (by lia) (by lia) (by lia);lia
 obtain⟨d6,d6a,d6b⟩:=dW (c:=c) cell 6 9 (by decide) (by decide) (by lia) (by lia);obtain⟨d7,d7a,d7b⟩:=dW (c:=c) cell 7 7 (by decide) (by decide) (by lia) (by lia);generalize dr c cell 6 9=c0 at d6 d6a d6b;generalize dr c cell 7 7=way at d7 d7a d7b;let St:LI->Option W->Option W->Option W->En:=λns r s E=>[some (.p (.int cell)),some (.p (.int d)),some (.p (.lst (fs.map tI))),some (.o (ns.map T.int)),r,s,E];have e0:gY [none,some 0] (gA (cC (cE 1) cF)) (h8 0) (λ_=>.ok true) (kP c) (lP [some (.p (.int cell)),some (.p (.int d)),some (.p (.lst (fs.map tI))),none,none,none,none])=.ok (n.map T.int):=by refine gH (List.range d) (λ(j:Nat)=>T.int (j:Int)) (λ(j:Nat)=>T.int (dr c cell j 7-3)) (jM d (by lia) rfl) (by simp;lia) (λj hj=>⟨_,rfl,rfl,?_⟩) (by rw[aH];rfl);have hj':=aR.mp hj;obtain⟨e,_,_⟩:=dW (c:=c) cell j 7 (by lia) (by lia) (by lia) (by lia);exact cU (dS rfl rfl rfl e) rfl (om _ _)
 obtain⟨g,e1,l1,b1,r1⟩:∃g,(iy (dU (c6 (df false) (cE 3) (dE (oP (dE (lstM (cC (cM (.int 0)) cF))) (cE 1))))) (qD 3 (nk (cP (cC (cE 0) (cC (cM (.int 4)) (cC (cE 1) cF))) (cO c))) (nk (c6 eD (cM (.int 1)) (cP (cC (cE 0) (cC (cM (.int 5)) (cC (cM (.int 3)) cF))) (cO c))))) dR) (St n none none none)=.nx (St g none none none)/\g.length=d/\(∀x∈g,x.natAbs<=3)/\∃p,p<d/\vc g p≠0:=by
  have ec:dU (c6 (df false) (cE 3) (dE (oP (dE (lstM (cC (cM (.int 0)) cF))) (cE 1)))) (vw (St n none none none))=.ok (decide (n=List.replicate d 0)):=dA (cU (x:=.lst (n.map T.int)) (y:=.lst ((List.replicate d (0:Int)).map T.int)) rfl (Bb d (by lia) rfl) (by rw[vj];rfl))
  by_cases hz:n=List.replicate d 0
  .obtain⟨d4,d4a,d4b⟩:=dW (c:=c) cell 4 d (by lia) (by lia) (by lia) (by lia);obtain⟨d5,d5a,d5b⟩:=dW (c:=c) cell 5 3 (by lia) (by lia) (by lia) (by lia);obtain⟨p,J⟩:∃p:Nat,dr c cell 4 d=(p:Int):=⟨(dr c cell 4 d).toNat,by lia⟩;rw[J]at d4 d4b;refine⟨n.set p (1+dr c cell 5 3),eI (by rw[ec,aB hz]) (An (us:=n.map T.int) (t:=.int (1+dr c cell 5 3)) (j:=(p:Int)) (m:=p) rfl (cU rfl (dS rfl rfl rfl d5) (fu _ _)) rfl (dS rfl rfl rfl d4) (yz _ _ (by rw[aw];lia)) ?_),by rw[List.length_set];exact l0,λx D=>?_,p,by lia,?_⟩
   .simp only[St,List.map_set];rfl
   .rcases List.mem_or_eq_of_mem_set D with q|q
    .exact b0 x q
    .rw[q];lia
   .rw[zv _ _ _ _ (by lia),aP rfl];lia
  .exact⟨n,dQ (by rw[ec,aA hz]) rfl,l0,b0,yl l0 hz⟩
 have A:∀x:Int,x.natAbs<=1000->Bn 84 x:=λx D=>Bn.mono (m:=10) (by unfold Bn;lia) (by decide);have hfe:∀F,df F (.lst (fs.map tI)) (.lst [])=.ok (.bl (if F then !fs.isEmpty else fs.isEmpty)):=λF=>by rw[rk F (fs.map tI) (by simp) (aM (lF fs) (by decide))];simp
 let r:Int->Option W:=λv=>some (.p (.int v));let s:Oq W:=some (.p (.int way));have Z:∀{o:O},(dm (iy (qG (dU (c6 (df false) (cE 5) (cM (.int 1)))) (dU (c6 (df true) (cE 2) (dE (lstM cF))))) (jG 3 (lY (sj gd (cC (fR (c6 iQ (cE 2) (cP (cC (cE 0) (cC (cM (.int 8)) (cC (fP eP (cC (cE 2) cF)) cF))) (cO c))) (λ_=>.ok none) (eh (cE 1))) cF)))) dR) _) (St g (r (c0-4)) s none)=o->mB c (cV 7 [.int cell,.int d,.lst (fs.map tI)])=o:=λ{o} h=>cK (ρ':=St n none none none) (kK e0 rfl) (cK (ρ':=St g none none none) e1 (cK (ρ':=St g (r (c0-4)) none none) (de (cU (dS rfl rfl rfl d6) rfl (om _ _)) rfl) (cK (ρ':=St g (r (c0-4)) s none) (de (dS rfl rfl rfl d7) rfl) h)))
 have q1:dU (c6 (df false) (cE 5) (cM (.int 1))) (vw (St g (r (c0-4)) s none))=.ok (way==1):=dA (cU (x:=.int way) rfl rfl (gN _ _));have q2:dU (c6 (df true) (cE 2) (dE (lstM cF))) (vw (St g (r (c0-4)) s none))=.ok (!fs.isEmpty):=dA (cU (x:=.lst (fs.map tI)) (y:=.lst []) rfl (by simp) (by rw[hfe];rfl));have Y:∀(ns:LI) (v k:Int) E,dU (c6 (df false) (cE 5) (cM (.int k))) (vw (St ns (r v) s E))=.ok (way==k):=λns v k E=>dA (cU (x:=.int way) rfl rfl (gN _ _));have B:∀(ns:LI) (v:Int) E,ns.length=d->d8 (fP eF (cC (dE (gx (cE 3) (dE (lstM (cC (cE 4) cF))))) cF)) (St ns (r v) s E)=.rt (tI (ns++[v])):=λns v E hl=>dI (lW (t:=.lst (ns.map T.int++[.int v])) (fG (iN (a:=ns.map T.int) (b:=[.int v]) rfl (CY rfl) (by simp;lia))) (by simp[tI]))
 have C:∀(ns:LI) (v:Int) E,(L3.ll (dU (c6 (df false) (cE 5) (cM (.int 2)))) (dU (c6 (df false) (cE 5) (cM (.int 3))))) (vw (St ns (r v) s E))=.ok (way==2||way==3):=λns v E=>by simp only[L3.ll,Y,M.bind_ok];cases way==2<;>rfl
 have K:¬(way=1/\fs≠[])->(L3.qG (dU (c6 (df false) (cE 5) (cM (.int 1)))) (dU (c6 (df true) (cE 2) (dE (lstM cF))))) (vw (St g (r (c0-4)) s none))=.ok false:=λhc=>by
  simp only[L3.qG,q1,q2,M.bind_ok];by_cases I:way=1
  .have hn:fs=[]:=by
    by_cases hn:fs=[]
    .exact hn
    .exact absurd ⟨I,hn⟩ hc
   rw[I,hn];rfl
  .have:(way==1)=false:=by simpa using I
   rw[this];rfl
 by_cases hA:way=1/\fs≠[]
 .obtain⟨I,Q⟩:=hA;have hlp:=List.length_pos_iff.mpr Q;obtain⟨d3,d3a,d3b⟩:=dW (c:=c) cell 8 fs.length (by lia) (by lia) (by lia) (by lia);obtain⟨f,ef,hfm⟩:=ku fs (dr c cell 8 fs.length) d3a d3b;have gf:=hf f hfm;have tl:(f.take d).length=d:=by rw[bD,gf.gl.1];lia
  have nd:∀k:Int,k≠1->(way==k)=false:=λk hk=>by simp[I];lia
  refine⟨f.take d++[c0-4],dY rfl (Z (cK (ρ':=St (f.take d) (r (c0-4)) s none) (eI ?_ (kK (ts:=(f.take d).map T.int) ?_ rfl)) (cK (dQ (by rw[C,nd 2 (by decide),nd 3 (by decide)];rfl) rfl) (cK (dQ (by rw[Y,nd 4 (by decide)]) rfl) (B _ _ _ tl))))),nH tl (λx D=>gf.gl.2 x (cx D)) (A _ (by lia)) ?_⟩
  .simp only[L3.qG,q1,q2,M.bind_ok];rw[I];simp[Q]
  .have:=oB (fe:=c6 iQ (cE 2) (cP (cC (cE 0) (cC (cM (.int 8)) (cC (fP eP (cC (cE 2) cF)) cF))) (cO c))) (fd:=cE 1) (d:=d) (ts:=f.map T.int) (ρ:=lP (St g (r (c0-4)) s none)) (cU (x:=.lst (fs.map tI)) (y:=.int (dr c cell 8 fs.length)) rfl (dS (z:=.int (fs.length:Int)) rfl rfl (lW rfl (by simp)) d3) (by simp[jw,ef,tI])) rfl (by rw[aw,gf.gl.1];lia);simp only[sj,cC,cF,this,M.bind_ok];rw[ck];rfl
  .obtain⟨p,J,h⟩:=gf.re;refine⟨p,J,?_⟩;unfold vc at *;rw[af,List.getElem?_take,aP J,<-af];exact h
 .have L:∀x∈g,Bn 84 x:=λx D=>A x (by have:=b1 x D;lia);by_cases G:way=2\/way=3
  .have t23:(way==2||way==3)=true:=by rcases G with h|h<;>rw[h]<;>rfl
   have n4:(way==4)=false:=by rcases G with h|h<;>rw[h]<;>rfl
   let v:Int:=((g.zip [1,2,-1]).map λp=>p.1*p.2).sum;have ez:gY [none,none] (lR (cC (cE 3) (cC (dE (lstM (cC (cM (.int 1)) (cC (cM (.int 2)) (cC (l7 (λi=>.int (-i)) (cM (.int 1))) cF))))) cF))) (pW 2 (hW (h8 0) (hW (h8 1) qB))) (λ_=>.ok true) (lp c) (vw (St g (r (c0-4)) s none))=.ok (((g.zip [1,2,-1]).map λp=>p.1*p.2).map T.int):=gH (g.zip [1,2,-1]) (λp=>T.tup [.int p.1,.int p.2]) (λp=>T.int (p.1*p.2)) (qC (x:=.lst (g.map T.int)) (y:=.lst ([1,2,-1].map T.int)) rfl rfl (fG rfl) rfl) (by rw[cv];lia) (λp J=>⟨_,rfl,rfl,cU rfl rfl (eG (by have:=b1 _ (aV J).1;lia))⟩) (by rw[aH];rfl)
   have vb:=AF g b1;exact⟨g++[v],dY rfl (Z (cK (dQ (K hA) rfl) (cK (ρ':=St g (r v) s none) (eI (by rw[C,t23]) (rV (jv ez (AO _)) rfl rfl)) (cK (dQ (by rw[Y,n4]) rfl) (B _ _ _ l1))))),nH l1 L (A _ vb) r1⟩
  .have R:(way==2||way==3)=false:=by have h2:¬way=2:=λz=>G (.inl z);have h3:¬way=3:=λz=>G (.inr z);simp[h2,h3]
   by_cases h4:way=4
   .obtain⟨d9,d9a,d9b⟩:=dW (c:=c) cell 9 1000000 (by decide) (by decide) (by lia) (by lia);obtain⟨d11,N,S⟩:=dW (c:=c) cell 11 3 (by decide) (by decide) (by lia) (by lia);obtain⟨X,P,U⟩:=dW (c:=c) cell 10 7 (by decide) (by decide) (by lia) (by lia);obtain⟨w,ew,hw⟩:=qT [1,1,1000000000000000000] (dr c cell 11 3) N (by simpa using S);have e18:iV (.int 10) (.int 18)=.ok (.int 1000000000000000000):=by simp[iV,eT]
    have e6:iV (.int 10) (.int 6)=.ok (.int 1000000):=by simp[iV,eT]
    generalize dr c cell 9 1000000=f0 at d9 d9a d9b;generalize dr c cell 10 7=g0 at X P U;let l:Int:=(1+f0)*w;have hw':1<=w/\w<=1000000000000000000:=by simp only[aE,cj,or_false]at hw;lia
    have H:l.natAbs<=1000000*1000000000000000000:=by show ((1+f0)*w).natAbs<=_;rw[aX];exact cy (by lia) (by lia)
    have hfar1:1<=l:=by have:0<(1+f0)*w:=Int.mul_pos (by lia) (by lia);show 1<=(1+f0)*w;lia
    have hl3:dE (lstM (cC (cM (.int 1)) (cC (cM (.int 1)) (cC (c6 iV (cM (.int 10)) (cM (.int 18))) cF)))) (lP (St g (r (c0-4)) s none))=.ok (.lst ([1,1,1000000000000000000].map T.int)):=by
     have o:c6 iV (cM (.int 10)) (cM (.int 18)) (lP (St g (r (c0-4)) s none))=.ok (.int 1000000000000000000):=cU rfl rfl e18;have h3:3<=sizeLine:=by decide
     simp only[dE,lstM,cC,cF,cM,o,M.bind_ok];rfl
    let u:LI:=g.map λx=>x*l;have es:gY [none,some 6] (eU (cE 3)) (h8 0) (λ_=>.ok true) (ly c) (vw (St g (r (c0-4)) s (some (.p (.int l)))))=.ok (u.map T.int):=gH g T.int (λx=>T.int (x*l)) rfl (by lia) (λx D=>⟨_,rfl,rfl,cU rfl rfl (eG (by have:=b1 x D;lia))⟩) (by rw[aH];rfl)
    refine⟨u++[(c0-4)*l+g0],dY rfl (Z (cK (dQ (K hA) rfl) (cK (dQ (by rw[C,R]) rfl) (cK (ρ':=St u (r ((c0-4)*l+g0)) s (some (.p (.int l)))) (eI (by rw[Y,h4];rfl) (cK (ρ':=St g (r (c0-4)) s (some (.p (.int l)))) (de (cU (cU rfl (dS (z:=.int 1000000) rfl rfl (cU rfl rfl e6) d9) (fu _ _)) (cU (x:=.lst ([1,1,1000000000000000000].map T.int)) (y:=.int (dr c cell 11 3)) hl3 (dS rfl rfl rfl d11) ew) (eG (by lia))) rfl) (cK (ρ':=St u (r (c0-4)) s (some (.p (.int l)))) (yq es (uD _) rfl) (de (cU (cU rfl rfl (eG (by lia))) (dS rfl rfl rfl X) (fu _ _)) rfl)))) (B _ _ _ (by simp[u,l1])))))),nH (by simp[u,l1]) (λx D=>?_) ?_ ?_⟩
    .obtain⟨y,hy,rfl⟩:=aC.mp D;have:=b1 y hy;unfold Bn;rw[aX];refine cz (cy this H) (by decide)
    .unfold Bn;have I:((c0-4)*l).natAbs<=5*(1000000*1000000000000000000):=by rw[aX];exact cy (by lia) H
     have h2:=cw ((c0-4)*l) g0;refine cz (aM h2 (Nat.add_le_add I (show g0.natAbs<=7 by lia))) (by decide)
    .obtain⟨p,J,h⟩:=r1;refine⟨p,J,?_⟩;have:vc u p=vc g p*l:=by unfold vc;rw[af,af,av];cases g[p]?<;>simp
     rw[this];exact Int.mul_ne_zero h (by lia)
   .exact⟨g++[c0-4],dY rfl (Z (cK (dQ (K hA) rfl) (cK (dQ (by rw[C,R]) rfl) (cK (dQ (by rw[Y];simp[h4]) rfl) (B _ _ _ l1))))),nH l1 L (A _ (by lia)) r1⟩
def p7(h:a.length=b.length):fg a b=fg b a:=by
 unfold fg;rw[h];congr 1;funext k;congr 1;funext j;rw[b9 (vc a k),b9 (vc a j)];by_cases q:vc b j*vc a k=vc b k*vc a j
 .rw[beq_iff_eq.mpr q,beq_iff_eq.mpr q.symm]
 .rw[beq_eq_false_iff_ne.mpr q,beq_eq_false_iff_ne.mpr λz=>q z.symm]
def lb{a:Pe->M (List T)}{ρ:En}{C:Addr}{i:Int}(h:a (vw ρ)=.ok [.int i]):sG C a ρ=.er C (some i):=by unfold sG;rw[h];rfl
def kl(h:a ρ=.er C n):dm a b ρ=.er C n:=by unfold dm;rw[h]
def mU(a:ts.length=k)(h:g (cV n ts)=.er C m):iS k n g ts=.er C m:=by unfold iS;rw[aP a,h];rfl
def Bt(d B:Nat)(e:Oq W)(a k:LL)(r:LI)(l:1<=d/\d<=3)(j:B<=1000)(h:rW d B (a++r::k)) :
  dg c [some (.p (.int d)),e,some (.o (a.map tI)),some (.p (tI r))]=.nx [some (.p (.int d)),e,some (.o ((a++[r]).map tI)),some (.p (tI r))]:=by
 have sz:1000<sizeLine:=by decide
 have b:=h.few;rw[aS,ay]at b;have g:=m9 (c:=c) d B a r l j (by omega) (λf b=>h.gc f (ax _ b)) (h.gc r (br _ (bh ..))) λf b=>by have i:=h.pw;rw[cA]at i;exact i.2.2 f b r (bh ..)
 have q:dU (cP (cC (cE 0) (cC (cE 2) (cC (cE 3) cF))) (dF c)) (vw [some (.p (.int d)),e,some (.o (a.map tI)),some (.p (tI r))])=.ok true:=dA (dS (y:=.lst (a.map tI)) (z:=tI r) rfl rfl rfl g);exact cK (dQ (nU q rfl) rfl) (wm (us:=a.map tI) (t:=tI r) rfl (lW (t:=tI r) rfl rfl) (by rw[aw];omega) (by rw[aY];rfl))
theorem ve(d B:Nat)(g:Oq W)(j:1<=d/\d<=3)(i:B<=1000):∀(b a:LL) x3 tl,rW d B (a++b)->∃f,ei (lO 3) (dg c) (b.map tI++tl) [some (.p (.int d)),g,some (.o (a.map tI)),x3]=ei (lO 3) (dg c) tl [some (.p (.int d)),g,some (.o ((a++b).map tI)),f]
 |[],a,x3,tl,h=>⟨x3,by simp⟩
 |r::b,a,x3,tl,h=>by obtain⟨f,e⟩:=ve d B g j i b (a++[r]) (some (.p (tI r))) tl (by simpa using h);refine⟨f,?_⟩;rw[bL,List.singleton_append]at e;rw[<-e];show ei (lO 3) (dg c) (tI r::(b.map tI++tl)) _=_;have k:lO 3 (tI r) [some (.p (.int d)),g,some (.o (a.map tI)),x3]=some [some (.p (.int d)),g,some (.o (a.map tI)),some (.p (tI r))]:=rfl;simp only[ei,k,Bt d B g a b r j i h]
def yL(d:Nat)(b:1<=d/\d<=3)(ts:List T):L3.ll (L3.gR (dU (cP (cC (cE 0) cF) (dX c)))) (L3.gR (dU (jV "list" (cE 1)))) (vw (cV 4 [.int d,.lst ts]))=.ok false:=by have a:dU (cP (cC (cE 0) cF) (dX c)) (vw (cV 4 [.int d,.lst ts]))=.ok true:=dA (oO rfl (lg d b));have e:dU (jV "list" (cE 1)) (vw (cV 4 [.int d,.lst ts]))=.ok true:=rfl;simp only[L3.ll,L3.gR,a,e,M.bind_ok];rfl
def oJ d B cs (a:1<=d/\d<=3) (b:B<=1000) (h:rW d B cs):cQ c [.int d,.lst (cs.map tI)]=.ok (.tup (cs.map tI)):=by obtain⟨f,e⟩:=ve (c:=c) d B (some (.p (.lst (cs.map tI)))) a b cs [] none [] h;rw[bz]at e;exact dY rfl (cK (dQ (yL d a _) rfl) (cK (kK (ts:=[]) (by simp) rfl) (cK (qe rfl e) (dI rfl))))
def gC d B pre (x:T) post (i:1<=d/\d<=3) (k:B<=1000) (h:rW d B pre) (a:dF c [.int d,.lst (pre.map tI),x]=.ok (.bl false)):cQ c [.int d,.lst (pre.map tI++x::post)]=.er c.NoCutting (some (pre.length:Int)):=by
 have sz:1000<sizeLine:=by decide
 obtain⟨g,e⟩:=ve (c:=c) d B (some (.p (.lst (pre.map tI++x::post)))) i k pre [] none (x::post) h;rw[bN]at e;have j:dg c [some (.p (.int d)),some (.p (.lst (pre.map tI++x::post))),some (.o (pre.map tI)),some (.p x)]=.er c.NoCutting (some (pre.length:Int)):=by refine kl (eI (nU (dA (b:=false) (dS (y:=.lst (pre.map tI)) (z:=x) rfl rfl rfl a)) rfl) (lb ?_));show (M.ok (T.int ((pre.map tI).length:Int))).bind (λt=>M.ok [t])=_;rw[aw];rfl
 have l:lO 3 x [some (.p (.int d)),some (.p (.lst (pre.map tI++x::post))),some (.o (pre.map tI)),g]=some [some (.p (.int d)),some (.p (.lst (pre.map tI++x::post))),some (.o (pre.map tI)),some (.p x)]:=rfl;have f:=e;rw[show ei (lO 3) (dg c) (x::post) [some (.p (.int d)),some (.p (.lst (pre.map tI++x::post))),some (.o (pre.map tI)),g]=.er c.NoCutting (some (pre.length:Int)) by simp only[ei,l,j]]at f;exact mU rfl (cK (dQ (yL d i _) rfl) (cK (kK (ts:=[]) (by simp) rfl) (kl (qe rfl f))))
def vA d B cs (b:1<=d/\d<=3) (a:B<=1000) (h:rW d B cs):cR c [.int d,.lst (cs.map tI)]=.ok (gq c d cs):=by have e:=oJ (c:=c) d B cs b a h;unfold cR lM;rw[aP (show [T.int d,T.lst (cs.map tI)].length=2 from rfl)];show ((cQ c [.int d,.lst (cs.map tI)]).bind _)=_;rw[e];rfl
def oH{x y:T}(h:cQ c [x,y]=.er C n):cR c [x,y]=.er C n:=by unfold cR lM;rw[aP (show [x,y].length=2 from rfl)];show ((cQ c [x,y]).bind _)=_;rw[h];rfl
def sf(m:Str)(h:(m==("own_cuts" : Str))=false/\(m==("own_dims" : Str))=false)(d:Nat)(a:LL):jU c.Cutting m (gq c d a)=.ok ():=by unfold jU gq;refine aP ⟨rfl,?_⟩;simp[List.lookup,h.1,h.2]
def fC{x y:T}(h:cQ c [x,y]=.er c.NoCutting (some i)):cJ c [x,y,.non]=.ok (.int i):=by
 refine dY rfl (cK (de (t:=.non) rfl rfl) ?_);have e:(iy (dU (c6 (vI false) (cE 2) (cM .non))) (iZ (fv (ip (cC (cE 0) (cC (cE 1) cF)) (cR c)))) (iZ (fv (mK c.Cutting "with_one" (cE 2) (cC (cE 1) cF) (c5 c))))) [some (.p x),some (.p y),some (.p .non),some (.p .non),none,none]=.er c.NoCutting (some i):=by refine eI rfl ?_;unfold iZ fv;rw[show ip (cC (cE 0) (cC (cE 1) cF)) (cR c) (lP [some (.p x),some (.p y),some (.p .non),some (.p .non),none,none])=.er c.NoCutting (some i) from oH h];rfl
 show oq 6 _ (wW c.NoCutting 3) _ [some (.p x),some (.p y),some (.p .non),some (.p .non),none,none]=_;unfold oq;rw[e];simp only[wW,if_true];rfl
def jf{y:T}{d:Nat}{f:LL}(n:f.length<100)(h:cQ c [.int d,.lst (f.map tI++[y])]=.er c.NoCutting (some i))(x:T):cJ c [x,y,gq c d f]=.ok (.int i):=by
 have sz:1000<sizeLine:=by decide
 refine dY rfl (cK (de (t:=.non) rfl rfl) ?_);have hw:c5 c [gq c d f,y]=.er c.NoCutting (some i):=by
  refine mU rfl ?_;have q:ip (cC (jr c.Cutting "own_dims" (cE 0)) (cC (dE (gx (dE (sj gd (cC (jr c.Cutting "own_cuts" (cE 0)) cF))) (dE (lstM (cC (cE 1) cF))))) cF)) (cR c) (vw (cV 2 [gq c d f,y]))=.er c.NoCutting (some i):=by
   have j:jr c.Cutting "own_dims" (cE 0) (vw (cV 2 [gq c d f,y]))=.ok (.int d):=qh rfl rfl;have m:jr c.Cutting "own_cuts" (cE 0) (vw (cV 2 [gq c d f,y]))=.ok (.tup (f.map tI)):=qh rfl rfl;have g:sj gd (cC (jr c.Cutting "own_cuts" (cE 0)) cF) (vw (cV 2 [gq c d f,y]))=.ok (f.map tI):=by simp only[sj,cC,cF,m,M.bind_ok];rfl
   have l:gx (dE (sj gd (cC (jr c.Cutting "own_cuts" (cE 0)) cF))) (dE (lstM (cC (cE 1) cF))) (vw (cV 2 [gq c d f,y]))=.ok (f.map tI++[y]):=iN (a:=f.map tI) (b:=[y]) (fG g) rfl (by simp;omega);simp only[ip,cC,cF,j,fG l,M.bind_ok];exact oH h
  unfold fN d8;rw[q];rfl
 have k:jU c.Cutting "with_one" (gq c d f)=.ok ():=sf _ (by decide) d f;have e:(iy (dU (c6 (vI false) (cE 2) (cM .non))) (iZ (fv (ip (cC (cE 0) (cC (cE 1) cF)) (cR c)))) (iZ (fv (mK c.Cutting "with_one" (cE 2) (cC (cE 1) cF) (c5 c))))) [some (.p x),some (.p y),some (.p (gq c d f)),some (.p .non),none,none]=.er c.NoCutting (some i):=by
  refine dQ rfl ?_;unfold iZ fv;have q:mK c.Cutting "with_one" (cE 2) (cC (cE 1) cF) (c5 c) (lP [some (.p x),some (.p y),some (.p (gq c d f)),some (.p .non),none,none])=.er c.NoCutting (some i):=by show (jU c.Cutting "with_one" (gq c d f)).bind (λ_=>c5 c [gq c d f,y])=_;rw[k,hw];rfl
  rw[q];rfl
 show oq 6 _ (wW c.NoCutting 3) _ [some (.p x),some (.p y),some (.p (gq c d f)),some (.p .non),none,none]=_;unfold oq;rw[e];simp only[wW,if_true];rfl
def oX ns (k0 d h:Nat) (S:1<=d/\d<=3) (Z:h<=7) (P:1<=h):∃j:LL,fB c [.scr ns,.int k0,.int d,.int h]=.ok (j.map tI)/\rW d 84 j/\j.length<=h/\1<=j.length:=by
 have sz:1000<sizeLine:=by decide
 obtain⟨E,e,j,D,B,rfl,A,s,w,I⟩:=iM (m:=lO 5) (g:=j0 c) (λ(i:Nat)=>T.int (i:Int))
  (λk E=>∃(j:LL) (D B:Oq W),E=[some (.p (.scr ns)),some (.p (.int k0)),some (.p (.int d)),some (.p (.int h)),some (.o (j.map tI)),D,B]/\j.length<=k/\(∀f∈j,GC d 84 f)/\(j.Pairwise λa b=>fg a b=false)/\(0<k->1<=j.length))
  (List.range h) 0 _ ⟨[],none,none,rfl,aJ _,(λf r=>nomatch r),List.Pairwise.nil,λz=>absurd z (aZ _)⟩ (by
   rintro i k E F ⟨j,D,B,rfl,A,s,w,-⟩;rw[aF]at A ⊢;have H:i<h:=by simpa using (aa.mp F).1
   have G:k=i:=by rw[List.getElem?_range H]at F;cases F;rfl
   subst G;obtain⟨v,U,-⟩:=i7 ns (k0+k);obtain⟨n,Q,u⟩:=qg v d j S s (by lia);let R:En:=[some (.p (.scr ns)),some (.p (.int k0)),some (.p (.int d)),some (.p (.int h)),some (.o (j.map tI)),some (.p (.int (k:Int))),some (.p (tI n))];have N:gY [none,some 6] (eU (cE 4)) (h8 0) (dU (cP (cC (cE 1) (cC (cE 0) cF)) (eQ c))) (ir c) (vw R)=.ok ((j.filter λf=>fg n f).map tI):=zc j tI tI (λf=>fg n f) rfl (by lia) (λf r=>⟨_,rfl,dA (hZ rfl rfl (pH (d+1) 84 n f u.gl.1 (s f r).gl.1 (by lia) (by lia) u.gl.2 (s f r).gl.2)),λ_=>rfl⟩) rfl
   have K:dU (c6 (df false) (dE (gY [none,some 6] (eU (cE 4)) (h8 0) (dU (cP (cC (cE 1) (cC (cE 0) cF)) (eQ c))) (ir c))) (dE (lstM cF))) (vw R)=.ok (j.filter λf=>fg n f).isEmpty:=by refine dA (cU (y:=.lst []) (fG N) (by simp) ?_);rw[rk false _ (by simp) (aM (lF _) (by decide))];simp
   have L:setO 6 (nk (cP (cC (cP (cC (cE 0) (cC (c6 eD (cE 1) (cE 5)) cF)) (cY c)) (cC (cE 2) (cC (cE 4) cF))) (fY c))) [some (.p (.scr ns)),some (.p (.int k0)),some (.p (.int d)),some (.p (.int h)),some (.o (j.map tI)),some (.p (.int (k:Int))),B]=.nx R:=rV (t:=tI n) (dS (hZ (x:=.scr ns) (y:=.int ((k0+k:Nat):Int)) rfl (cU rfl rfl (by rw[fu];simp)) U) rfl rfl Q) (A8 n) rfl
   by_cases C:(j.filter λf=>fg n f)=[]
   .refine⟨_,_,rfl,.inl (cK L (eI (K.trans (by rw[C];rfl)) (wm (us:=j.map tI) (t:=tI n) rfl rfl (by simp;lia) rfl))),j++[n],_,_,by rw[aY];rfl,by simp;lia,λf r=>?_,cA.mpr ⟨w,List.pairwise_singleton _ _,λf r g J=>?_⟩,λ_=>by simp⟩
    .rcases ai.mp r with q|q
     .exact s f q
     .rw[aj.mp q];exact u
    .rw[aj.mp J,p7 (by rw[(s f r).gl.1,u.gl.1])];cases X:fg n f with
     |false=>rfl
     |true=>have:=aT.mpr ⟨r,X⟩;rw[C]at this;exact nomatch this
   .refine⟨_,_,rfl,.inl (cK L (dQ (K.trans (by
     cases Y:(j.filter λf=>fg n f) with
     |nil=>exact absurd Y C
     |cons a l=>rfl)) rfl)),j,_,_,rfl,by lia,s,w,λ_=>by
     cases j with
     |nil=>exact absurd rfl C
     |cons a l=>simp⟩)
 rw[aF,cB]at A;exact⟨j,vL rfl (cK (kK (ts:=[]) (by simp) rfl) (cK (g9 (jM h (by lia) rfl) e) rfl)),⟨s,by lia,w⟩,A,I (by rw[aF,cB];exact P)⟩
def oo{x:T}(h:dX c [x]=.ok (.bl false))(y:T):cQ c [x,y]=.er c.NoCutting (some (-1)):=by have a:dU (cP (cC (cE 0) cF) (dX c)) (vw (cV 4 [x,y]))=.ok false:=dA (oO rfl h);refine mU rfl (kl (eI ?_ (lb rfl)));simp only[L3.ll,L3.gR,a,M.bind_ok];rfl
def vy(d:Nat)(b:1<=d/\d<=3)(y:T)(h:vd "list" y=.ok (.bl false)):cQ c [.int d,y]=.er c.NoCutting (some (-1)):=by have a:dU (cP (cC (cE 0) cF) (dX c)) (vw (cV 4 [.int d,y]))=.ok true:=dA (oO rfl (lg d b));have e:dU (jV "list" (cE 1)) (vw (cV 4 [.int d,y]))=.ok false:=dA h;refine mU rfl (kl (eI ?_ (lb rfl)));simp only[L3.ll,L3.gR,a,e,M.bind_ok];rfl
def oy(d:Nat)(a:LL)(x:T)(f:a.length<7)(h:eK c [.int d,x]=.ok (.bl false)):dF c [.int d,.lst (a.map tI),x]=.ok (.bl false):=by
 have b:dU (c6 yR (fP eP (cC (cE 1) cF)) (cM (.int 7))) (vw (cV 3 [.int d,.lst (a.map tI),x]))=.ok false:=dA (cU (x:=.int (a.length:Int)) (lW (t:=.lst (a.map tI)) rfl (by simp)) rfl (by rw[kh];congr 2;exact aA (by omega)))
 have e:dU (cP (cC (cE 0) (cC (cE 2) cF)) (eK c)) (vw (cV 3 [.int d,.lst (a.map tI),x]))=.ok false:=dA (hZ rfl rfl h);refine dY rfl (i8 (eI ?_ (dI rfl)) rfl);simp only[L3.ll,L3.gR,b,e,M.bind_ok];rfl
def ql(d:Nat)(a:LL)(x:T)(e:7<=a.length):dF c [.int d,.lst (a.map tI),x]=.ok (.bl false):=by
 have b:dU (c6 yR (fP eP (cC (cE 1) cF)) (cM (.int 7))) (vw (cV 3 [.int d,.lst (a.map tI),x]))=.ok true:=dA (cU (x:=.int (a.length:Int)) (lW (t:=.lst (a.map tI)) rfl (by simp)) rfl (by rw[kh];congr 2;exact aB (by omega)))
 refine dY rfl (i8 (eI ?_ (dI rfl)) rfl);simp only[L3.ll,b,M.bind_ok];rfl
def ny(d:Nat):List T:=
  [.tup (List.replicate d (.int 0)++[.int 5]),.tup (List.replicate d (.int 1)),.tup (List.replicate (d+1) (.int 1)++[.int 1]),.lst (List.replicate (d+1) (.int 1)),.non,.int 5,.str "1:1",.tup [],.tup (List.replicate d (.int 1)++[.bl true]),
   .tup (.bl true::List.replicate d (.int 1)),.tup (List.replicate d (.int 1)++[.non]),.tup (List.replicate d (.int 1)++[.str "1"]),.tup (.non::List.replicate d (.int 1)),.emp]
def zZ cell d (h:1<=d/\d<=3):∃t,fZ c [.int cell,.int (d:Nat)]=.ok t/\t∈ny d:=by
 obtain⟨f,e,b⟩:=dW (c:=c) cell 1 14 (by decide) (by decide) (by decide) (by decide);obtain⟨t,a,g⟩:=ku (ny d) (dr c cell 1 14) e (by simpa[ny] using b);refine⟨t,?_,g⟩;rcases (show d=1\/d=2\/d=3 by omega) with rfl|rfl|rfl
 .exact dY rfl (cK (de rfl rfl) (cK (de rfl rfl) (cK (de rfl rfl) (dI (cU (x:=.lst (ny 1)) (y:=.int (dr c cell 1 14)) rfl (dS rfl rfl rfl f) (by simp[a]))))))
 .exact dY rfl (cK (de rfl rfl) (cK (de rfl rfl) (cK (de rfl rfl) (dI (cU (x:=.lst (ny 2)) (y:=.int (dr c cell 1 14)) rfl (dS rfl rfl rfl f) (by simp[a]))))))
 .exact dY rfl (cK (de rfl rfl) (cK (de rfl rfl) (cK (de rfl rfl) (dI (cU (x:=.lst (ny 3)) (y:=.int (dr c cell 1 14)) rfl (dS rfl rfl rfl f) (by simp[a]))))))
def xY d (f:1<=d/\d<=3):∀t∈ny d,eK c [.int (d:Nat),t]=.ok (.bl false):=by
 have b:∀d∈[1,2,3],∀t∈ny d,yW t=true/\iz d t=false/\(match t with|.tup g=>g.length<1000/\g.all yW=true|_=>True):=by intro d f t a;simp only[aE,cj,or_false]at f;rcases f with rfl|rfl|rfl<;>simp only[ny,aE,cj,or_false]at a<;>rcases a with rfl|rfl|rfl|rfl|rfl|rfl|rfl|rfl|rfl|rfl|rfl|rfl|rfl|rfl<;>exact⟨rfl,rfl,by first|trivial|exact⟨by decide,rfl⟩⟩
 intro t a;obtain⟨j,i,h⟩:=b d (by simp;omega) t a;rw[jP d (by omega) t j λg e=>by subst e;exact⟨h.1,λt a=>b5.mp h.2 t a⟩,i]
def xD:∀x∈[T.int 0,.int 4,.int (-1),.int (10 ^ 9),.bl true,.non,.str "2",.lst [.int 2],.tup [.int 1]],dX c [x]=.ok (.bl false):=by intro x a;simp only[aE,cj,or_false]at a;rcases a with rfl|rfl|rfl|rfl|rfl|rfl|rfl|rfl|rfl<;>rfl
def qF d B a b (H:d<=3) (I:B<=1000) (f:GC d B a) (l:GL d B b):∃z,dO c [tI a,tI b]=.ok (.bl z)/\(∀k:Int,b=a.map (k * ·)->z=true):=by
 have sz:1000<sizeLine:=by decide
 have t:=f.gl.1;have G:=l.1;obtain⟨q,J,j⟩:=f.re;obtain⟨p,r,g,s⟩:=il (c:=c) a (by lia) ⟨q,by lia,j⟩;have C:=gw b p (by lia);have u:=gw a p g;have o:gY [none,none,some 1,some 2,some 0] (lR (cC (cE 0) (cC (cE 1) cF))) (pW 2 (hW (h8 0) (hW (h8 1) qB))) (λ_=>.ok true) (gJ c) (vw [some (.p (tI a)),some (.p (tI b)),some (.p (.int p))])=.ok (((a.zip b).map λx=>x.1*vc b p==x.2*vc a p).map T.bl):=gH (a.zip b) (λx=>T.tup [.int x.1,.int x.2]) (λx=>T.bl (x.1*vc b p==x.2*vc a p)) (qC rfl rfl rfl rfl) (by rw[cv];lia) (λx e=>⟨_,rfl,rfl,by have A:=f.gl.2 _ (aV e).1;have D:=l.2 _ (aV e).2;have w:=l.2 _ (getD_mem b p (by lia));have E:=f.gl.2 _ (getD_mem a p g);exact cU (cU rfl (cU rfl rfl C) (gy (A.ok w (by lia) (by lia)))) (cU rfl (cU rfl rfl u) (gy (D.ok E (by lia) (by lia)))) (gN _ _)⟩) (by rw[aH];rfl)
 refine⟨((a.zip b).map λx=>x.1*vc b p==x.2*vc a p).all id,dY rfl (cK (de (oO rfl r) rfl) (dI (jv o (kq _)))),λk n=>?_⟩;refine b5.mpr λz y=>?_;obtain⟨x,e,rfl⟩:=aC.mp y;obtain⟨i,h⟩:=List.getElem?_of_mem e;rw[List.getElem?_zip_eq_some]at h;have m:=h.2;rw[n,av,h.1]at m;have F:vc b p=k*vc a p:=by rw[n];unfold vc;rw[af,af,av,ag g];rfl
 have v:x.2=k*x.1:=(Option.some.inj m).symm;show id (x.1*vc b p==x.2*vc a p)=true;rw[F,v];show (x.1*(k*vc a p)==k*x.1*vc a p)=true;rw[beq_iff_eq,<-b8,b9 x.1 k]
def pV d B (a:LL) f (k:Int) (p:1<=d/\d<=3) (C:B<=1000) (D:a.length<7) (q:∀g∈a,GC d B g) (l:f∈a) (i:GC d B (f.map (k * ·))):dF c [.int d,.lst (a.map tI),tI (f.map (k * ·))]=.ok (.bl false):=by
 have sz:1000<sizeLine:=by decide
 have n:=jP (c:=c) d (by lia) (tI (f.map (k * ·))) rfl λE e=>by cases e;refine⟨by rw[aw,i.gl.1];lia,λt v=>by obtain⟨y,-,rfl⟩:=aC.mp v;rfl⟩
 rw[n5 i]at n;have j:∀g∈a,∃z,dO c [tI g,tI (f.map (k * ·))]=.ok (.bl z)/\(∀m:Int,f.map (k * ·)=g.map (m * ·)->z=true):=λg b=>qF d B g _ p.2 C (q g b) i.gl;obtain⟨w,hw⟩:∃w:LI->Bool,∀g∈a,dO c [tI g,tI (f.map (k * ·))]=.ok (.bl (w g))/\(∀m:Int,f.map (k * ·)=g.map (m * ·)->w g=true):=⟨λg=>if h:g∈a then Classical.choose (j g h) else false,λg b=>by simp only[dif_pos b];exact Classical.choose_spec (j g b)⟩
 have o:gY [none,some 2] (eU (cE 1)) (h8 0) (λ_=>.ok true) (eW c) (vw (cV 3 [.int d,.lst (a.map tI),tI (f.map (k * ·))]))=.ok ((a.map w).map T.bl):=gH a tI (λg=>T.bl (w g)) rfl (by lia) (λg b=>⟨_,rfl,rfl,hZ rfl rfl (hw g b).1⟩) (by rw[aH];rfl)
 have A:dU (c6 yR (fP eP (cC (cE 1) cF)) (cM (.int 7))) (vw (cV 3 [.int d,.lst (a.map tI),tI (f.map (k * ·))]))=.ok false:=dA (cU (x:=.int (a.length:Int)) (lW (t:=.lst (a.map tI)) rfl (by simp)) rfl (by rw[kh];congr 2;exact aA (by lia)))
 have r:dU (cP (cC (cE 0) (cC (cE 2) cF)) (eK c)) (vw (cV 3 [.int d,.lst (a.map tI),tI (f.map (k * ·))]))=.ok true:=dA (hZ rfl rfl n);refine dY rfl (cK (dQ ?_ rfl) (dI ?_))
 .simp only[L3.ll,L3.gR,A,r,M.bind_ok];rfl
 .have u:fP n6 (cC (dE (gY [none,some 2] (eU (cE 1)) (h8 0) (λ_=>.ok true) (eW c))) cF) (vw (cV 3 [.int d,.lst (a.map tI),tI (f.map (k * ·))]))=.ok (.bl true):=by refine jv o ?_;rw[nT];congr 2;exact List.any_eq_true.mpr ⟨w f,aC.mpr ⟨f,l,rfl⟩,(hw f l).2 k rfl⟩
  have s:=dA u;simp only[pT,s,M.bind_ok];rfl
def rW.mono5(h:rW d B us)(b:B<=B'):rW d B' us:=⟨λf a=>(h.gc f a).mono b,h.few,h.pw⟩
def rW.take5(h:rW d B us) k:rW d B (us.take k):=⟨λf a=>h.gc f (cx a),by have:=h.few;rw[bD];omega,h.pw.sublist (bE ..)⟩
def yf(h:GC d 84 f){w:Int}(hw:w≠0)(g:w.natAbs<=10 ^ 20):GC d 160 (f.map (w * ·)):=by
 refine⟨⟨by rw[aw];exact h.gl.1,λx k=>?_⟩,?_⟩
 .obtain⟨y,j,rfl⟩:=aC.mp k;have l:Bn 67 w:=cz g (by decide);exact (l.mul (h.gl.2 y j)).mono (by decide)
 .obtain⟨p,i,a⟩:=h.re;refine⟨p,i,?_⟩;have b:p<f.length:=by have:=h.gl.1;omega
  have e:vc (f.map (w * ·)) p=w*vc f p:=by unfold vc;rw[af,af,av,ag b];rfl
  rw[e];exact Int.mul_ne_zero hw a
def wB a b:tj (tI a) (tI b)=true↔a=b:=by unfold tI;rw[km,mM,decide_eq_true_eq]
def uE neg (a:LL):df neg (.lst (a.map tI)) (.lst (a.map tI))=.ok (.bl neg.not):=by have h:=lF a;have e:=(kQ tI wB a a).mpr rfl;unfold df;rw[aP (by simp[jy];lia),m6,e];cases neg<;>rfl
def zI(i:Int):df true (.int i) (.int i)=.ok (.bl false):=by rw[ot];simp
def jB(d:Nat)(k:Int):LI:=1::List.replicate (d-1) 0++[1000+k]
def xU d (g:1<=d/\d<=3):rW d 84 ((List.range 7).map λ(k:Nat)=>jB d k):=by
 rcases (show d=1\/d=2\/d=3 by omega) with rfl|rfl|rfl<;>refine⟨λf b=>?_,by decide,by decide⟩<;>simp only[aC,aR]at b<;>obtain⟨k,e,rfl⟩:=b <;>
  (refine⟨⟨rfl,λx a=>?_⟩,0,by decide,by show (1:Int)≠0;decide⟩;simp[jB,List.replicate]at a;unfold Bn;rcases a with rfl|a<;>first|decide|(rcases a with rfl|rfl<;>first|decide|(refine cz (show _<=2000 by omega) (by decide)))|(subst a;refine cz (show _<=2000 by omega) (by decide)))
section
variable {ns:LI}{d:Nat}{cs:LL}
abbrev R5(ns:LI)(d:Nat)(cs:LL)(x3 x4 x5 x6 x7 x8 x9 x10 x11 x12:Oq W):En:=[some (.p (.scr ns)),some (.p (.int d)),some (.p (.lst (cs.map tI))),x3,x4,x5,x6,x7,x8,x9,x10,x11,x12]
def BC(B:1<=d/\d<=3)(g:rW d 84 cs)(h1:1<=cs.length)(h6:cs.length<=6)(k:Nat)(hk:k<5) J C u l j h e :
  ∃F E I D H G m,jm c (R5 ns d cs (some (.p (.int (k:Int)))) J C u l j h e none none)=.nx (R5 ns d cs (some (.p (.int (k:Int)))) F E I D H G m none none):=by
 have sz:1000<sizeLine:=by decide
 obtain⟨v,ev,-⟩:=i7 (c:=c) ns (8+k);obtain⟨d1,d1a,U⟩:=dW (c:=c) v 2 ((cs.length:Int)+1) (by omega) (by omega) (by decide) (by decide);obtain⟨a,ha⟩:∃a:Nat,dr c v 2 ((cs.length:Int)+1)=(a:Int):=⟨(dr c v 2 ((cs.length:Int)+1)).toNat,by omega⟩;rw[ha]at d1 U;have K:a<=cs.length:=by omega
 obtain⟨t,et,ht⟩:=zZ (c:=c) v d B;obtain⟨d3,N,X⟩:=dW (c:=c) v 3 5 (by decide) (by decide) (by decide) (by decide);obtain⟨w,ew,hw⟩:=qT [-1,1,2,-3,10 ^ 20] (dr c v 3 5) N (by simpa using X);obtain⟨d4,R,L⟩:=dW (c:=c) v 4 (cs.length:Int) (by omega) (by omega) (by decide) (by decide);obtain⟨f,ef,hf⟩:=ku cs (dr c v 4 (cs.length:Int)) R L;have A:w≠0/\w.natAbs<=10 ^ 20:=by simp only[aE,cj,or_false]at hw;rcases hw with rfl|rfl|rfl|rfl|rfl<;>decide
 have Q:=g.gc f hf;have gt:=yf Q A.1 A.2;have s:=g.mono5 (B':=160) (by decide);have n:=xY (c:=c) d B t ht;have k1:cQ c [.int d,.lst ((cs.take a).map tI++t::(cs.drop a).map tI)]=.er c.NoCutting (some (a:Int)):=by rw[gC d 84 (cs.take a) t _ B (by decide) (g.take5 a) (oy d _ t (by rw[bD];omega) n),bD,cm K]
 have k2:cQ c [.int d,.lst (cs.map tI++[tI (f.map (w * ·))])]=.er c.NoCutting (some (cs.length:Int)):=gC d 160 cs _ [] B (by decide) s (pV d 160 cs f w B (by decide) (by omega) s.gc hf gt)
 have k3:cQ c [.int d,.lst (cs.map tI++[t])]=.er c.NoCutting (some (cs.length:Int)):=gC d 84 cs t [] B (by decide) g (oy d cs t (by omega) n)
 let S:=λJ C u l j h e=>R5 ns d cs (some (.p (.int (k:Int)))) J C u l j h e none none;have o:∀F E I D H G m,fP eP (cC (cE 2) cF) (vw (S F E I D H G m))=.ok (.int (cs.length:Int)):=λ_ _ _ _ _ _ _=>lW (t:=.lst (cs.map tI)) rfl (by simp);have r:∀F E I D H G m,fP eP (cC (cE 2) cF) (lP (S F E I D H G m))=.ok (.int (cs.length:Int)):=λ_ _ _ _ _ _ _=>lW (t:=.lst (cs.map tI)) rfl (by simp);have s4:setO 4 (fv (cP (cC (cE 0) (cC (c6 eD (cM (.int 8)) (cE 3)) cF)) (cY c))) (S J C u l j h e)=.nx (S (some (.p (.int v))) C u l j h e):=de (hZ (x:=.scr ns) (y:=.int ((8+k:Nat):Int)) rfl (cU rfl rfl (by rw[fu];simp)) ev) rfl
 have s5:setO 5 (fv (cP (cC (cE 4) (cC (cM (.int 2)) (cC (c6 eD (fP eP (cC (cE 2) cF)) (cM (.int 1))) cF))) (cO c))) (S (some (.p (.int v))) C u l j h e)=.nx (S (some (.p (.int v))) (some (.p (.int (a:Int)))) u l j h e):=de (dS (z:=.int ((cs.length:Int)+1)) rfl rfl (cU (r _ _ _ _ _ _ _) rfl (fu _ _)) d1) rfl
 have s6:setO 6 (fv (cP (cC (cE 4) (cC (cE 1) cF)) (fZ c))) (S (some (.p (.int v))) (some (.p (.int (a:Int)))) u l j h e)=.nx (S (some (.p (.int v))) (some (.p (.int (a:Int)))) (some (.p t)) l j h e):=de (hZ rfl rfl et) rfl
 have c1:gx (dE (gx (fR (cE 2) (λ_=>.ok none) (eh (cE 5))) (dE (lstM (cC (cE 6) cF))))) (fR (cE 2) (eh (cE 5)) (λ_=>.ok none)) (vw (S (some (.p (.int v))) (some (.p (.int (a:Int)))) (some (.p t)) l j h e))=.ok ((cs.take a).map tI++t::(cs.drop a).map tI):=by have q1:fR (cE 2) (λ_=>.ok none) (eh (cE 5)) (vw (S (some (.p (.int v))) (some (.p (.int (a:Int)))) (some (.p t)) l j h e))=.ok (.lst ((cs.map tI).take a)):=r6 rfl rfl;have q2:fR (cE 2) (eh (cE 5)) (λ_=>.ok none) (vw (S (some (.p (.int v))) (some (.p (.int (a:Int)))) (some (.p t)) l j h e))=.ok (.lst ((cs.map tI).drop a)):=sN rfl rfl;rw[<-ck]at q1;rw[<-List.map_drop]at q2;have q3:=iN q1 (show dE (lstM (cC (cE 6) cF)) (vw (S (some (.p (.int v))) (some (.p (.int (a:Int)))) (some (.p t)) l j h e))=.ok (.lst [t]) from rfl) (by simp;omega);have q4:=iN (fG q3) q2 (by simp;omega);rw[q4];simp
 have i1:iy (dU (c6 (df true) (cP (cC (cE 1) (cC (dE (gx (dE (gx (fR (cE 2) (λ_=>.ok none) (eh (cE 5))) (dE (lstM (cC (cE 6) cF))))) (fR (cE 2) (eh (cE 5)) (λ_=>.ok none)))) (cC (cM .non) cF))) (cJ c)) (cE 5))) (d8 (cM (.bl false))) dR (S (some (.p (.int v))) (some (.p (.int (a:Int)))) (some (.p t)) l j h e)=.nx (S (some (.p (.int v))) (some (.p (.int (a:Int)))) (some (.p t)) l j h e):=dQ (dA (cU (dS (x:=.int d) rfl (fG c1) rfl (fC k1)) rfl (zI _))) rfl
 have s7:setO 7 (fv (c6 iQ (dE (lstM (cC (l7 (λi=>.int (-i)) (cM (.int 1))) (cC (cM (.int 1)) (cC (cM (.int 2)) (cC (l7 (λi=>.int (-i)) (cM (.int 3))) (cC (c6 iV (cM (.int 10)) (cM (.int 20))) cF))))))) (cP (cC (cE 4) (cC (cM (.int 3)) (cC (cM (.int 5)) cF))) (cO c)))) (S (some (.p (.int v))) (some (.p (.int (a:Int)))) (some (.p t)) l j h e)=.nx (S (some (.p (.int v))) (some (.p (.int (a:Int)))) (some (.p t)) (some (.p (.int w))) j h e):=de (cU (x:=.lst ([-1,1,2,-3,10 ^ 20].map T.int)) (y:=.int (dr c v 3 5)) rfl (dS rfl rfl rfl d3) ew) rfl
 have s8:setO 8 (fv (cP (cC (cE 4) (cC (cM (.int 4)) (cC (fP eP (cC (cE 2) cF)) cF))) (cO c))) (S (some (.p (.int v))) (some (.p (.int (a:Int)))) (some (.p t)) (some (.p (.int w))) j h e)=.nx (S (some (.p (.int v))) (some (.p (.int (a:Int)))) (some (.p t)) (some (.p (.int w))) (some (.p (.int (dr c v 4 (cs.length:Int))))) h e):=de (dS rfl rfl (r _ _ _ _ _ _ _) d4) rfl
 have l9:gY [none,some 7] (eU (c6 iQ (cE 2) (cE 8))) (h8 0) (λ_=>.ok true) (lE c) (lP (S (some (.p (.int v))) (some (.p (.int (a:Int)))) (some (.p t)) (some (.p (.int w))) (some (.p (.int (dr c v 4 (cs.length:Int))))) h e))=.ok ((f.map (w * ·)).map T.int):=by
  refine gH f T.int (λx=>T.int (w*x)) ?_ (by have:=Q.gl.1;omega) (λx hx=>⟨_,rfl,rfl,?_⟩) (by rw[aH];rfl)
  .have q:c6 iQ (cE 2) (cE 8) (lP (S (some (.p (.int v))) (some (.p (.int (a:Int)))) (some (.p t)) (some (.p (.int w))) (some (.p (.int (dr c v 4 (cs.length:Int))))) h e))=.ok (tI f):=cU (x:=.lst (cs.map tI)) (y:=.int (dr c v 4 (cs.length:Int))) rfl rfl (by simp[jw,ef]);unfold eU;rw[q];rfl
  .have P:Bn 67 w:=cz A.2 (by decide);exact cU rfl rfl (gy (P.ok (Q.gl.2 x hx) (by decide) (by decide)))
 have s9:setO 9 (fv (fP eF (cC (dE (gY [none,some 7] (eU (c6 iQ (cE 2) (cE 8))) (h8 0) (λ_=>.ok true) (lE c))) cF))) (S (some (.p (.int v))) (some (.p (.int (a:Int)))) (some (.p t)) (some (.p (.int w))) (some (.p (.int (dr c v 4 (cs.length:Int))))) h e)=.nx (S (some (.p (.int v))) (some (.p (.int (a:Int)))) (some (.p t)) (some (.p (.int w))) (some (.p (.int (dr c v 4 (cs.length:Int))))) (some (.p (tI (f.map (w * ·))))) e):=de (jv l9 rfl) rfl
 have c2:∀m,gx (cE 2) (dE (lstM (cC (cE 9) cF))) (vw (S (some (.p (.int v))) (some (.p (.int (a:Int)))) (some (.p t)) (some (.p (.int w))) (some (.p (.int (dr c v 4 (cs.length:Int))))) (some (.p (tI (f.map (w * ·))))) m))=.ok (cs.map tI++[tI (f.map (w * ·))]):=λ_=>iN (a:=cs.map tI) (b:=[tI (f.map (w * ·))]) rfl rfl (by simp;omega);have i2:iy (dU (c6 (df true) (cP (cC (cE 1) (cC (dE (gx (cE 2) (dE (lstM (cC (cE 9) cF))))) (cC (cM .non) cF))) (cJ c)) (fP eP (cC (cE 2) cF)))) (d8 (cM (.bl false))) dR (S (some (.p (.int v))) (some (.p (.int (a:Int)))) (some (.p t)) (some (.p (.int w))) (some (.p (.int (dr c v 4 (cs.length:Int))))) (some (.p (tI (f.map (w * ·))))) e)=.nx (S (some (.p (.int v))) (some (.p (.int (a:Int)))) (some (.p t)) (some (.p (.int w))) (some (.p (.int (dr c v 4 (cs.length:Int))))) (some (.p (tI (f.map (w * ·))))) e):=dQ (dA (cU (dS (x:=.int d) rfl (fG (c2 _)) rfl (fC k2)) (o _ _ _ _ _ _ _) (zI _))) rfl
 have Y:setO 10 (fv (cP (cC (cE 1) (cC (cE 2) cF)) (cR c))) (S (some (.p (.int v))) (some (.p (.int (a:Int)))) (some (.p t)) (some (.p (.int w))) (some (.p (.int (dr c v 4 (cs.length:Int))))) (some (.p (tI (f.map (w * ·))))) e)=.nx (S (some (.p (.int v))) (some (.p (.int (a:Int)))) (some (.p t)) (some (.p (.int w))) (some (.p (.int (dr c v 4 (cs.length:Int))))) (some (.p (tI (f.map (w * ·))))) (some (.p (gq c d cs)))):=de (hZ rfl rfl (vA d 84 cs B (by decide) g)) rfl
 let Z:=S (some (.p (.int v))) (some (.p (.int (a:Int)))) (some (.p t)) (some (.p (.int w))) (some (.p (.int (dr c v 4 (cs.length:Int))))) (some (.p (tI (f.map (w * ·))))) (some (.p (gq c d cs)));have b1:dU (c6 (df true) (cP (cC (cE 1) (cC (cE 9) (cC (cE 10) cF))) (cJ c)) (fP eP (cC (cE 2) cF))) (vw Z)=.ok false:=dA (cU (dS (x:=.int d) rfl rfl rfl (jf (by omega) k2 _)) (o _ _ _ _ _ _ _) (zI _));have b2:dU (c6 (df true) (cP (cC (cE 1) (cC (cE 6) (cC (cE 10) cF))) (cJ c)) (fP eP (cC (cE 2) cF))) (vw Z)=.ok false:=dA (cU (dS (x:=.int d) rfl rfl rfl (jf (by omega) k3 _)) (o _ _ _ _ _ _ _) (zI _));have i3:iy (ll (dU (c6 (df true) (cP (cC (cE 1) (cC (cE 9) (cC (cE 10) cF))) (cJ c)) (fP eP (cC (cE 2) cF)))) (dU (c6 (df true) (cP (cC (cE 1) (cC (cE 6) (cC (cE 10) cF))) (cJ c)) (fP eP (cC (cE 2) cF))))) (d8 (cM (.bl false))) dR Z=.nx Z:=dQ (by simp only[L3.ll,b1,b2,M.bind_ok];rfl) rfl
 have i4:iy (dU (c6 (df true) (dE (jH c.Cutting "cuts" (cE 10) cF (dG c))) (cE 2))) (d8 (cM (.bl false))) dR Z=.nx Z:=dQ (dA (cU (x:=.lst (cs.map tI)) (y:=.lst (cs.map tI)) (fG (xH d cs rfl)) rfl (uE true cs))) rfl
 exact⟨_,_,_,_,_,_,_,cK s4 (cK s5 (cK s6 (cK i1 (cK s7 (cK s8 (cK s9 (cK i2 (cK Y (cK i3 i4)))))))))⟩
end
theorem nW{m:T->En->Option En}{g:En->O}:∀(l:List T) (P:En->Prop) (ρ:En),P ρ->(∀t∈l,∀ρ,P ρ->∃b a,m t ρ=some b/\g b=.nx a/\P a)->∃ρ',ei m g l ρ=.nx ρ'/\P ρ'
 |[],P,ρ,h,_=>⟨ρ,rfl,h⟩
 |t::l,P,ρ,h,st=>by obtain⟨b,a,i,d,k⟩:=st t (bh ..) ρ h;obtain⟨ρ',e,j⟩:=nW l P a k λt f=>st t (bj _ f);exact⟨ρ',by simp only[ei,i,d,e],j⟩
def BM(d:Nat)(a:1<=d/\d<=3)(k:Nat):je c [some (.int (k:Int)),some (.int (d:Int))]=.ok (tI (jB d k)):=by rcases (show d=1\/d=2\/d=3 by omega) with rfl|rfl|rfl<;>rfl
def tH ns:kr c [.scr ns]=.ok (.bl true):=by
 have sz:10000<sizeLine:=by decide
 obtain⟨v,G,-⟩:=i7 (c:=c) ns 0;obtain⟨d1,d1a,d1b⟩:=dW (c:=c) v 0 3 (by decide) (by decide) (by decide) (by decide);obtain⟨d2,d2a,R⟩:=dW (c:=c) v 1 6 (by decide) (by decide) (by decide) (by decide);obtain⟨d,hdd⟩:∃d:Nat,1+dr c v 0 3=(d:Int):=⟨(1+dr c v 0 3).toNat,by omega⟩;obtain⟨m,hmm⟩:∃m:Nat,1+dr c v 1 6=(m:Int):=⟨(1+dr c v 1 6).toNat,by omega⟩;have C:1<=d/\d<=3:=by omega
 obtain⟨j,Q,g,cl,Y⟩:=oX (c:=c) ns 1 d m C (by omega) (by omega);have S:j.length<=6:=by omega
 have s1:setO 1 (fv (c6 eD (cM (.int 1)) (cP (cC (cP (cC (cE 0) (cC (cM (.int 0)) cF)) (cY c)) (cC (cM (.int 0)) (cC (cM (.int 3)) cF))) (cO c)))) (cV 13 [.scr ns])=.nx [some (.p (.scr ns)),some (.p (.int d)),none,none,none,none,none,none,none,none,none,none,none]:=de (cU rfl (dS (hZ rfl rfl G) rfl rfl d1) (by rw[fu,hdd])) rfl
 have s2:setO 2 (fv (dE (jD (cC (cE 0) (cC (cM (.int 1)) (cC (cE 1) (cC (c6 eD (cM (.int 1)) (cP (cC (cP (cC (cE 0) (cC (cM (.int 0)) cF)) (cY c)) (cC (cM (.int 1)) (cC (cM (.int 6)) cF))) (cO c))) cF)))) (fB c)))) [some (.p (.scr ns)),some (.p (.int d)),none,none,none,none,none,none,none,none,none,none,none]=.nx (R5 ns d j none none none none none none none none none none):=de (fG (yZ (u:=.int (m:Int)) rfl rfl rfl (cU rfl (dS (hZ rfl rfl G) rfl rfl d2) (by rw[fu,hmm])) Q)) rfl
 obtain⟨B,X,z,o,l,r,s,q,n,f,rfl⟩:=iM (m:=lO 3) (g:=jm c) (λ(k:Nat)=>T.int (k:Int)) (λ_ B=>∃z o l r s q n f,B=R5 ns d j z o l r s q n f none none)
  (List.range 5) 0 (R5 ns d j none none none none none none none none none none) ⟨_,_,_,_,_,_,_,_,rfl⟩ (by
   rintro i k B N ⟨z,o,l,r,s,q,n,f,rfl⟩;have H:k<5:=by have:=au N;simpa using this
   obtain⟨y4,y5,y6,y7,y8,y9,J,e⟩:=BC (c:=c) (ns:=ns) C g Y S k H o l r s q n f;exact⟨_,_,rfl,.inl e,_,_,_,_,_,_,_,_,rfl⟩)
 have I:i0 (gA (cC (cM (.int 5)) cF)) (lO 3) (jm c) (R5 ns d j none none none none none none none none none none)=.nx (R5 ns d j z o l r s q n f none none):=g9 (jM 5 (by decide) rfl) X;have E:gY [none,some 1] (gA (cC (cM (.int 8)) cF)) (h8 0) (λ_=>.ok true) (je c) (lP (R5 ns d j z o l r s q n f none none))=.ok (((List.range 8).map λ(k:Nat)=>jB d k).map tI):=gH (List.range 8) (λ(k:Nat)=>T.int (k:Int)) (λ(k:Nat)=>tI (jB d k)) (jM 8 (by decide) rfl) (by decide) (λk H=>⟨_,rfl,rfl,BM d C k⟩) (by rw[aH];rfl)
 have s4:setO 11 (fv (dE (gY [none,some 1] (gA (cC (cM (.int 8)) cF)) (h8 0) (λ_=>.ok true) (je c)))) (R5 ns d j z o l r s q n f none none)=.nx (R5 ns d j z o l r s q n f (some (.p (.lst (((List.range 8).map λ(k:Nat)=>jB d k).map tI)))) none):=de (fG E) rfl;have Z:cQ c [.int d,.lst (((List.range 8).map λ(k:Nat)=>jB d k).map tI++[.non])]=.er c.NoCutting (some 7):=by have e:=gC (c:=c) d 84 ((List.range 7).map λ(k:Nat)=>jB d k) (tI (jB d 7)) [.non] C (by decide) (xU d C) (ql d _ _ (by simp));exact e
 have U:iy (dU (c6 (df true) (cP (cC (cE 1) (cC (dE (gx (cE 11) (dE (lstM (cC (cM .non) cF))))) (cC (cM .non) cF))) (cJ c)) (cM (.int 7)))) (d8 (cM (.bl false))) dR (R5 ns d j z o l r s q n f (some (.p (.lst (((List.range 8).map λ(k:Nat)=>jB d k).map tI)))) none)=.nx (R5 ns d j z o l r s q n f (some (.p (.lst (((List.range 8).map λ(k:Nat)=>jB d k).map tI)))) none):=dQ (dA (cU (dS (x:=.int d) rfl (fG (iN (a:=((List.range 8).map λ(k:Nat)=>jB d k).map tI) (b:=[.non]) rfl rfl (by simp;omega))) rfl (fC Z)) rfl (zI 7))) rfl
 let w:=λh=>R5 ns d j z o l r s q n f (some (.p (.lst (((List.range 8).map λ(k:Nat)=>jB d k).map tI)))) h;obtain⟨B,ew,h,rfl⟩:=nW (m:=lO 12) (g:=kC c) [T.int 0,.int 4,.int (-1),.int (10 ^ 9),.bl true,.non,.str "2",.lst [.int 2],.tup [.int 1]] (λB=>∃h,B=w h) (w none) ⟨none,rfl⟩ (by rintro t D B ⟨h,rfl⟩;have A:=xD (c:=c) t D;refine⟨w (some (.p t)),w (some (.p t)),rfl,?_,_,rfl⟩;have P:dU (c6 (df true) (cP (cC (cE 12) (cC (dE (lstM cF)) (cC (cM .non) cF))) (cJ c)) (l7 (λi=>.int (-i)) (cM (.int 1)))) (vw (w (some (.p t))))=.ok false:=dA (cU (dS (x:=t) rfl rfl rfl (fC (oo A _))) rfl (zI (-1)));have L:dU (c6 (df true) (cP (cC (cE 12) (cC (cE 2) (cC (cM .non) cF))) (cJ c)) (l7 (λi=>.int (-i)) (cM (.int 1)))) (vw (w (some (.p t))))=.ok false:=dA (cU (dS (x:=t) rfl rfl rfl (fC (oo A _))) rfl (zI (-1)));exact dQ (by simp only[L3.ll,P,L,M.bind_ok];rfl) rfl)
 have K:qq (eU (dE (lstM (cC (cM (.int 0)) (cC (cM (.int 4)) (cC (l7 (λi=>.int (-i)) (cM (.int 1))) (cC (c6 iV (cM (.int 10)) (cM (.int 9))) (cC (cM (.bl true)) (cC (cM .non) (cC (cM (.str "2")) (cC (dE (lstM (cC (cM (.int 2)) cF))) (cC (ie (cC (cM (.int 1)) cF)) cF)))))))))))) (lO 12) (kC c) (w none)=.nx (w h):=qe rfl ew;have l6:gY [none,some 1] (eU (dE (lstM (cC (cM .non) (cC (ie cF) (cC (fP eF (cC (cE 2) cF)) (cC (cM (.str "1")) (cC (cM (.int 5)) (cC (cM .emp) cF))))))))) (h8 0) (λ_=>.ok true) (kG c) (vw (w h))=.ok ((List.replicate 6 (-1:Int)).map T.int):=by
  refine gH [T.non,.tup [],.tup (j.map tI),.str "1",.int 5,.emp] id (λ_=>T.int (-1)) rfl (by show 6<sizeLine;omega) (λt D=>⟨_,rfl,rfl,?_⟩) rfl;have A:vd "list" t=.ok (.bl false):=by simp only[aE,cj,or_false]at D;rcases D with rfl|rfl|rfl|rfl|rfl|rfl<;>rfl
  exact dS (x:=.int d) (y:=t) rfl rfl rfl (fC (vy d C t A))
 have F:c6 (df false) (dE (gY [none,some 1] (eU (dE (lstM (cC (cM .non) (cC (ie cF) (cC (fP eF (cC (cE 2) cF)) (cC (cM (.str "1")) (cC (cM (.int 5)) (cC (cM .emp) cF))))))))) (h8 0) (λ_=>.ok true) (kG c))) (dE (oP (dE (lstM (cC (l7 (λi=>.int (-i)) (cM (.int 1))) cF))) (cM (.int 6)))) (vw (w h))=.ok (.bl true):=cU (x:=.lst ((List.replicate 6 (-1:Int)).map T.int)) (y:=.lst ((List.replicate 6 (-1:Int)).map T.int)) (fG l6) rfl (by rw[vj];simp)
 exact dY rfl (cK s1 (cK s2 (cK I (cK s4 (cK U (cK K (dI F)))))))
end CL
namespace K05
open PySem L2 L3 CL
def fT(i:Nat):Stmt:=PySem.Challenge.pw_cutlands_k05_no_cuttings.main.body.getD i (.Pass ⟨0,0,0,0⟩)
structure Er(c:Cs)(K:W.Frag)(mg:Str->Option Value):Prop where
 here:True
 cl_Cutting:lS K c.Cutting
 na_Cutting_own_cuts:fq K c.Cutting "own_cuts"
 na_Cutting_own_dims:fq K c.Cutting "own_dims"
 mk_Cutting:W.makesIn K c.Cutting=true
 kp_Cutting:W.keepIn K (.ref c.Cutting)=true
 mg_Cutting:mg "Cutting" = some (.ref c.Cutting)
 k_MOST_CUTS:∃t,mg "MOST_CUTS" = some (.int 7 t)
 k_MOST_DIMS:∃t,mg "MOST_DIMS" = some (.int 3 t)
 cut:mg "CutError" = some (.ref c.CutError)
 hct:ya K c.CutError
 ns_NoCutting:W.nsIn K mainGlobals "NoCutting" = some (some (.ref c.NoCutting))
 qi_NoCutting:jK K c.NoCutting C5 "ValueError.__new__" = true
 xc_NoCutting:jQ K c.NoCutting
 su_NoCutting:W.mroIn K c.NoCutting (.ref c.CutError)=some true
 va_NoCutting:W.kitOne K (.ref c.NoCutting) (.type "ValueError")=some true
 xi_NoCutting:sC K c.NoCutting "at"
 m_NoLand:mg "NoLand" = some (.ref c.NoLand)
 m_NoNumber:mg "NoNumber" = some (.ref c.NoNumber)
 m_NoSigns:mg "NoSigns" = some (.ref c.NoSigns)
 m_NoSpot:mg "NoSpot" = some (.ref c.NoSpot)
 m_NoCutting:mg "NoCutting" = some (.ref c.NoCutting)
 n_NoCutting_NoLand:W.kitOne K (.ref c.NoCutting) (.ref c.NoLand)=some false
 n_NoCutting_NoNumber:W.kitOne K (.ref c.NoCutting) (.ref c.NoNumber)=some false
 n_NoCutting_NoSigns:W.kitOne K (.ref c.NoCutting) (.ref c.NoSigns)=some false
 n_NoCutting_NoSpot:W.kitOne K (.ref c.NoCutting) (.ref c.NoSpot)=some false
 val:mg "ValueError" = none
def B6{K:W.Frag}{h:Heap}{c:Str->Option Value}{aCutting aCutError aNoLand aNoNumber aNoSigns aNoSpot aNoCutting:Addr}{tMOST_CUTS tMOST_DIMS:_}(X:K.In h)(G:h.Ns mainGlobals c)(e:W.nsIn K mainGlobals "Cutting" = some (some (.ref aCutting)))(d:W.plainGet K aCutting Str.empty=true)(i:W.hasDictIn K aCutting=true)(o:W.plainOver K aCutting=true)(m:W.findIn K (.ref aCutting) "__setattr__" = some (some (.builtin "object.__setattr__")))(own_cuts:W.findIn K (.ref aCutting) "own_cuts" = some none)(own_dims:W.findIn K (.ref aCutting) "own_dims" = some none)(n:W.makesIn K aCutting=true)(j:W.keepIn K (.ref aCutting)=true)(uMOST_CUTS:W.nsIn K mainGlobals "MOST_CUTS" = some (some (.int 7 tMOST_CUTS)))(uMOST_DIMS:W.nsIn K mainGlobals "MOST_DIMS" = some (some (.int 3 tMOST_DIMS)))(eCutError:W.nsIn K mainGlobals "CutError" = some (some (.ref aCutError)))(eNoLand:W.nsIn K mainGlobals "NoLand" = some (some (.ref aNoLand)))(eNoNumber:W.nsIn K mainGlobals "NoNumber" = some (some (.ref aNoNumber)))(eNoSigns:W.nsIn K mainGlobals "NoSigns" = some (some (.ref aNoSigns)))(eNoSpot:W.nsIn K mainGlobals "NoSpot" = some (some (.ref aNoSpot)))(eNoCutting:W.nsIn K mainGlobals "NoCutting" = some (some (.ref aNoCutting)))(f:W.typeIn K (.ref aCutError)=some (.type "type"))(b:W.mroIn K aCutError (.type "BaseException")=some true)(g:W.specialIn K (.builtin "object.__class__") "__get__" = some (some (.builtin "getset_descriptor.__get__")))(l:W.takesIn K (.builtin "object.__class__")=some true)(qNoCutting:jK K aNoCutting C5 "ValueError.__new__" = true)(pNoCutting:W.findIn K (.ref aNoCutting) "__getattribute__" = some (some (.builtin "BaseException.__getattribute__")))(rNoCutting:W.findIn K (.ref aNoCutting) "__getattr__" = some none)(sNoCutting:W.findIn K (.ref aNoCutting) "__class__" = some (some (.builtin "object.__class__")))(tNoCutting:W.mroIn K aNoCutting (.type "object")=some true)(uNoCutting:W.mroIn K aNoCutting (.type "BaseException")=some true)(vNoCutting:W.mroIn K aNoCutting (.ref aCutError)=some true)(wNoCutting:W.mroIn K aNoCutting (.type "ValueError")=some true)(saNoCutting:W.findIn K (.ref aNoCutting) "__setattr__" = some (some (.builtin "object.__setattr__")))(poNoCutting:(W.clsIn K aNoCutting).any (λk=>iO k.mro)=true)(naNoCutting:W.findIn K (.ref aNoCutting) "at" = some none)(hdNoCutting:W.hasDictIn K aNoCutting=true)(cNoLand:W.typeIn K (.ref aNoLand)=some (.type "type"))(dNoLand:W.mroIn K aNoLand (.type "object")=some true)(cNoNumber:W.typeIn K (.ref aNoNumber)=some (.type "type"))(dNoNumber:W.mroIn K aNoNumber (.type "object")=some true)(cNoSigns:W.typeIn K (.ref aNoSigns)=some (.type "type"))(dNoSigns:W.mroIn K aNoSigns (.type "object")=some true)(cNoSpot:W.typeIn K (.ref aNoSpot)=some (.type "type"))(dNoSpot:W.mroIn K aNoSpot (.type "object")=some true)(cNoCutting:W.typeIn K (.ref aNoCutting)=some (.type "type"))(dNoCutting:W.mroIn K aNoCutting (.type "object")=some true)(nNoCuttingNoLand:aNoCutting≠aNoLand)(mNoCuttingNoLand:W.mroIn K aNoCutting (.ref aNoLand)=some false)(nNoCuttingNoNumber:aNoCutting≠aNoNumber)(mNoCuttingNoNumber:W.mroIn K aNoCutting (.ref aNoNumber)=some false)(nNoCuttingNoSigns:aNoCutting≠aNoSigns)(mNoCuttingNoSigns:W.mroIn K aNoCutting (.ref aNoSigns)=some false)(nNoCuttingNoSpot:aNoCutting≠aNoSpot)(mNoCuttingNoSpot:W.mroIn K aNoCutting (.ref aNoSpot)=some false)(a:W.nsIn K mainGlobals "ValueError" = some none):Er ⟨aCutting,0,aCutError,aNoCutting,0,0,aNoSpot,aNoSigns,aNoLand,0,aNoNumber,0,0⟩ K c:=⟨trivial,⟨d,i,o,m⟩,own_cuts,own_dims,n,j,W.mg_of X G e,⟨_,W.mg_of X G uMOST_CUTS⟩,⟨_,W.mg_of X G uMOST_DIMS⟩,W.mg_of X G eCutError,⟨jb b,f,b⟩,eNoCutting,qNoCutting,⟨pNoCutting,rNoCutting,sNoCutting,g,l,tNoCutting,uNoCutting,jb uNoCutting⟩,vNoCutting,zw (by decide +kernel) wNoCutting,⟨saNoCutting,poNoCutting,naNoCutting,hdNoCutting⟩,W.mg_of X G eNoLand,W.mg_of X G eNoNumber,W.mg_of X G eNoSigns,W.mg_of X G eNoSpot,W.mg_of X G eNoCutting,rB nNoCuttingNoLand cNoLand dNoLand mNoCuttingNoLand,rB nNoCuttingNoNumber cNoNumber dNoNumber mNoCuttingNoNumber,rB nNoCuttingNoSigns cNoSigns dNoSigns mNoCuttingNoSigns,rB nNoCuttingNoSpot cNoSpot dNoSpot mNoCuttingNoSpot,W.mg_none_of X G a⟩
def B1{K:W.Frag}{a g:Addr}{m q:Str}{st:Stmt}{p kV c k b n:Vq}{f j:Oq Addr}{d:Array (Option Value)}(i:W.findIn K (.ref a) m=some (some (.ref g)))(h:W.isFn K (.ref g)=true)(l:K.lookup g=some ⟨p,f,.func (W.fnOf m q (dM st) (cZ st) (cG st) .none kV c k j b n),d⟩)(o:W.codeIn K b q=true)(e:W.keepIn K (.ref g)=true):eJ K a m q st:=⟨_,_,pM l o e,i,h,e⟩
set_option hygiene false in
local macro_rules|`('x')=>`(by repeat' first|(refine' cI ?_ ?_)|(refine' c7 ?_)|(exact dD)|(refine' eg _ nd ?_)|(refine' eE ?_ ?_ ?_)|(refine' eZ ?_)|(refine' pC _ nd ?_)|(refine' oU ?_)|(refine' lJ ?_)|(exact ps_nevm)|(refine' oj _ nd ?_)|(exact dc _)|(exact dn)|(refine' cH ?_ ?_)|(exact dh)|(refine' rJ ?_ ?_)|(refine' jn (by assumption) hr ?_)|(refine' nJ ?_ ?_)|(refine' q0 ?_)|(refine' jT hr ?_ ?_)|(refine' tN hr ?_ ?_)|(refine' kn ?_)|(refine' vt ?_)|(refine' kL ?_ ?_)|(refine' ju ?_)|(refine' xJ ?_ ?_)|(refine' vN ?_)|(refine' du (dJ (K:=K)) fS (by rfl) B.len fU ?_)|(refine' eO yN yM ?_ ?_)|(refine' eO op_gt mr_gt ?_ ?_)|(refine' eO vq tU ?_ ?_)|(refine' eO vM uz ?_ ?_)|(refine' eO op_notN mr_notN ?_ ?_)|(refine' eO tJ uU ?_ ?_)|(exact BF)|(exact nN)|(exact vf)|(refine' vg ?_)|(refine' wt ?_ ?_)|(refine' Af ?_ ?_)|(refine' nI ?_)|(refine' Ag ?_ ?_)|(refine' yB ?_ ?_)|(refine' oM ?_ ?_ ?_)|(exact tG)|(refine' we ?_)|(refine' gG "tuple" (by decide) B.isinstance B.tuple e7 ?_)|(refine' gG "list" (by decide) B.isinstance B.list hU ?_)|(refine' gG "int" (by decide) B.isinstance B.int nO ?_)|(refine' gG "bool" (by decide) B.isinstance B.bool nP ?_)|(refine' eS (ey (K:=K)) fE (by rfl) B.tuple e7 ?_)|(refine' eS call_int1 mc_int1 (by rfl) B.int nO ?_)|(refine' du call_abs mc_abs (by rfl) B.abs bt_abs ?_)|(refine' du (jC (K:=K) rfl) pU (by rfl) B.all qp ?_)|(refine' eL ?_)|(refine' yy (by assumption) hr ?_)|(refine' gO (f9 (K:=K)) ig (by rfl) B.list hU ?_)|(refine' iF ?_)|(refine' qo ?_ ?_)|(refine' Al ?_ ?_)|(refine' nu ?_ ?_)|(refine' mZ ?_)|(refine' nV ?_))
section
variable {P:Program}{w:World}{K:W.Frag}{mg:Str->Option Value}{base:Heap}{c:Cs}(Z:Zx P w K mg base)(B:Bs mg)(ER:Er c K mg)
include Z B ER
theorem oC{A:Around}{a:List Env}{k:Nat}{ea:Addr}{oe:Obj}{f:Addr}{b:Vq}{s:Sq}{H:Hp}{Q:VK}{vs:List V}(hr:dy (k+1) A)(h:jx K (j5 c) vs H Q E0):∃t,jY ((dH jR P w K mg base ["_law_found"] "_law_whole" (cG (fT 23)) f b A a s H E0).exc [(ea,oe)] ea) (cZ (fT 23)) t/\t {nx:=λ_ e=>Q .non e,rt:=Q} (ee ["_law_found"] vs) H:=by
 have nd:(["_law_found"]:List Str).Nodup:=by decide
 have d:gU K E0 ((dH jR P w K mg base ["_law_found"] "_law_whole" (cG (fT 23)) f b A a s H E0).exc [(ea,oe)] ea) (cZ (fT 23)) _ (iG c):=(c7 (eZ (nu (gG "int" (by decide) B.isinstance B.int nO (dc 0)) (mZ (nV (gG "bool" (by decide) B.isinstance B.bool nP (dc 0)))))));exact⟨_,d.ps,jh (N:=["_law_found"]) d.ms h⟩
theorem o0(D:eJ K c.NoCutting "__init__" "NoCutting.__init__" (gB (fT 3) 0)):rA P w K mg base c.NoCutting 1:=BJ Z 0 ER.xi_NoCutting D (jt (AZ (pv 0) (pv 1) rfl))
theorem o1(D:dq K mg "is_whole" (fT 9)):CP Z "is_whole" 1 (eC c):=lx Z 0 (eC c) ["thing"] ["thing"] rfl D λnd hX hr=>⟨_,(c7 (eZ (nu (gG "int" (by decide) B.isinstance B.int nO (dc 0)) (mZ (nV (gG "bool" (by decide) B.isinstance B.bool nP (dc 0)))))))⟩
theorem o2(D:dq K mg "first_place" (fT 15)):CP Z "first_place" 1 (eM c):=lx Z 0 (eM c) ["cut","place"] ["cut"] rfl D λnd hX hr=>⟨_,(cI (eg 1 nd dn) (cI (zS (λρ=>match ρ with|some (.p (.tup ts))::_=>ts.length+1|_=>0) PassesOwn.never 'x' 'x') 'x'))⟩
theorem o3(D:eJ K c.Cutting "cuts" "Cutting.cuts" (gB (fT 19) 2)):i9 P w K mg base c.Cutting "cuts" 1 (qH K (dG c)):=zy Z 0 (dG c) ["self"] ["self"] rfl ER.cl_Cutting D λnd hX hr=>⟨_,(c7 (oU (gO (f9 (K:=K)) ig (by rfl) B.list hU (cH (pY rfl ER.cl_Cutting ER.na_Cutting_own_cuts (dc 0)) dh))))⟩
theorem o4(D:dq K mg "_law_cell_at" (fT 21)):CP Z "_law_cell_at" 1 (cY c):=lx Z 0 (cY c) ["_law_script","_law_k"] ["_law_script","_law_k"] rfl D λnd hX hr=>⟨_,(cI (eE (eO yN yM (dc 1) (du (dJ (K:=K)) fS (by rfl) B.len fU 'x')) 'x' dD) 'x')⟩
theorem o5(D:dq K mg "_law_draw" (fT 22)):CP Z "_law_draw" 1 (cO c):=lx Z 0 (cO c) ["_law_cell","_law_k","_law_bound","_law_left","_law_j","_law_stir"] ["_law_cell","_law_k","_law_bound"] rfl D λnd hX hr=>⟨_,(cI (eE (eO vq tU (dc 0) (kx dn dn)) (cI 'x' (cI (iC PassesOwn.never rfl (hI B.range 'x') (jc 4 nd) 'x') 'x')) dD) 'x')⟩
theorem o6(D:dq K mg "_law_same" (fT 24)):CP Z "_law_same" 1 (eQ c):=lx Z 0 (eQ c) ["_law_one","_law_other","_law_k","_law_j"] ["_law_one","_law_other"] rfl D λnd hX hr=>⟨_,(cI (iC PassesOwn.never rfl (hI B.range (cH (du (dJ (K:=K)) fS (by rfl) B.len fU 'x') dh)) (jc 2 nd) (c7 (iC PassesOwn.never rfl (hI B.range 'x') (jc 3 nd) 'x'))) 'x')⟩
theorem o7(D:dq K mg "is_dims" (fT 13))(O1:CP Z "is_whole" 1 (eC c)):CP Z "is_dims" 2 (dX c):=lx Z 1 (dX c) ["thing"] ["thing"] rfl D λnd hX hr=>⟨_,(c7 (eZ (nu 'x' (mZ (t6 vM uz vM uz dn (dc 0) (ph 3 ER.k_MOST_DIMS))))))⟩
theorem o8(D:dq K mg "is_cut" (fT 14))(O1:CP Z "is_whole" 1 (eC c)):CP Z "is_cut" 2 (eK c):=lx Z 1 (eK c) ["dims","thing"] ["dims","thing"] rfl D λnd hX hr=>⟨_,(cI (eE (vt (kL (kn (q0 (gG "tuple" (by decide) B.isinstance B.tuple e7 (dc 1)))) (ju (jT hr (du (dJ (K:=K)) fS (by rfl) B.len fU 'x') 'x')))) 'x' dD) (cI (eE (kn (q0 (du (jC (K:=K) rfl) pU (by rfl) B.all qp (cH (eL (iE ["number"] [none] hX (fW (dc 1)) (λnd hX=>⟨(gM 0 nd),eN, 'x'⟩))) dh)))) 'x' dD) (c7 (eZ (du (mO (K:=K) rfl) t8 (by rfl) B.any vi (cH (eL (iE ["number"] [none] hX (fW 'x') (λnd hX=>⟨(gM 0 nd),eN,(BU hr (dc 0) dn)⟩))) dh))))))⟩
theorem o9(D:dq K mg "same_spots" (fT 16))(O2:CP Z "first_place" 1 (eM c)):CP Z "same_spots" 2 (dO c):=lx Z 1 (dO c) ["one","other","place"] ["one","other"] rfl D λnd hX hr=>⟨_,(cI 'x' (c7 (eZ (du (jC (K:=K) rfl) pU (by rfl) B.all qp (cH (eL (iE ["mine","theirs","other","place","one"] [none,none,some 1,some 2,some 0] hX (qO B.zip 'x') (λnd hX=>⟨(uf 2 rfl (iR (gM 0 nd) (iR (gM 1 nd) pB))),eN,(yP hr 'x' 'x')⟩))) dh)))))⟩
theorem Du(D:dq K mg "_law_cut" (fT 25))(b:CP Z "_law_draw" 1 (cO c)):CP Z "_law_cut" 2 (fY c):=lx Z 1 (fY c) ["_law_cell","_law_dims","_law_ahead","_law_numbers","_law_c","_law_way","_law_far"] ["_law_cell","_law_dims","_law_ahead"] rfl D λnd a hr=>⟨_,(cI (pS ["_law_j","_law_cell"] [none,some 0] 3 nd a (sM.pim (hI B.range 'x')) (λnd a=>⟨(gM 0 nd),eN, 'x'⟩) rF) (cI (eE 'x' (c7 (wG 3 (pv 3) 'x' 'x')) dD) (cI 'x' (cI 'x' (cI (eE 'x' (c7 (oj 3 nd (gO (f9 (K:=K)) ig (by rfl) B.list hU (cH (oM (rJ (dc 2) (jn b hr (cH (dc 0) (cH dn (cH (du (dJ (K:=K)) fS (by rfl) B.len fU 'x') dh))))) tG (we (dc 1))) dh)))) dD) (cI (eE 'x' (c7 (pC 4 nd (du (sh (K:=K) rfl) zG (by rfl) B.sum Ah (cH (eL (iE ["_law_number","_law_part"] [none,none] a (qO B.zip 'x') (λnd a=>⟨(uf 2 rfl (iR (gM 0 nd) (iR (gM 1 nd) pB))),eN, 'x'⟩))) dh)))) dD) (cI (eE 'x' (cI (eg 6 nd (wt (nJ dn (jn b hr (cH (dc 0) (cH dn (cH (kx dn dn) dh))))) (rJ (eL (iF (cH dn (cH dn (cH (kx dn dn) dh))))) 'x'))) (cI (pS ["_law_number","_law_far"] [none,some 6] 3 nd a (fW (dc 3)) (λnd a=>⟨(gM 0 nd),eN, 'x'⟩) yA) 'x')) dD) (c7 (eZ (eS (ey (K:=K)) fE (by rfl) B.tuple e7 'x'))))))))))⟩
theorem DE(D:dq K mg "_law_odd" (fT 27))(a:CP Z "_law_draw" 1 (cO c)):CP Z "_law_odd" 2 (fZ c):=lx Z 1 (fZ c) ["_law_cell","_law_dims","_law_good","_law_some"] ["_law_cell","_law_dims"] rfl D λnd b hr=>⟨_,(cI (eg 2 nd (rl 'x' 'x')) (cI (eg 3 nd (eL (iF (cH (nJ (rl 'x' (dc 1)) 'x') (cH 'x' (cH 'x' (cH (eL (gO (f9 (K:=K)) ig (by rfl) B.list hU 'x')) 'x'))))))) (cI (eg 3 nd (eL (qo (dc 3) (eL (iF (cH 'x' (cH 'x' (cH 'x' (cH 'x' (cH vn dh)))))))))) 'x')))⟩
theorem DB(D:dq K mg "can_stand" (fT 17))(b:CP Z "is_cut" 2 (eK c))(d:CP Z "same_spots" 2 (dO c)):CP Z "can_stand" 3 (dF c):=lx Z 2 (dF c) ["dims","ahead","thing"] ["dims","ahead","thing"] rfl D λnd a hr=>⟨_,(cI (eE (vt (kL (eO vq tU (du (dJ (K:=K)) fS (by rfl) B.len fU 'x') (ph 7 ER.k_MOST_CUTS)) (ju 'x'))) 'x' dD) (c7 (eZ (nV (du (mO (K:=K) rfl) t8 (by rfl) B.any vi (cH (eL (iE ["cut","thing"] [none,some 2] a (fW (dc 1)) (λnd a=>⟨(gM 0 nd),eN, 'x'⟩))) dh))))))⟩
theorem DG(D:dq K mg "_law_cuts" (fT 26))(b:CP Z "_law_cut" 2 (fY c))(d:CP Z "_law_cell_at" 1 (cY c))(e:CP Z "_law_same" 1 (eQ c)):CF Z "_law_cuts" 3 (fB c):=Bi Z 2 (fB c) ["_law_script","_law_at","_law_dims","_law_many","_law_found","_law_k","_law_cut_here"] ["_law_script","_law_at","_law_dims","_law_many"] rfl D λnd a hr=>⟨_,(cI 'x' (cI (iC PassesOwn.never rfl (hI B.range 'x') (jc 5 nd) (cI 'x' (c7 (eE (tN hr (eL (iE ["_law_other","_law_cut_here"] [none,some 6] a (fW (dc 4)) (λnd a=>⟨(gM 0 nd),(ua 'x'),(dc 0)⟩))) (eL (iF dh))) (c7 (oh 4 (pv 4) (dc 6))) dD)))) (c7 (tY 4 (pv 4)))))⟩
theorem Dw(D:dq K mg "checked_cuts" (fT 18))(a:rA P w K mg base c.NoCutting 1)(e:CP Z "is_dims" 2 (dX c))(b:CP Z "can_stand" 3 (dF c)):CE Z "checked_cuts" 4 (cQ c):=CO Z 3 (cQ c) ["dims","things","ahead","thing"] ["dims","things"] rfl D λnd d hr=>⟨_,(cI (eE (vt (kL 'x' (ju (kn (q0 (gG "list" (by decide) B.isinstance B.list hU (dc 1))))))) (c7 (oG ER.ns_NoCutting ER.qi_NoCutting a hr 'x')) dD) (cI 'x' (cI (qX PassesOwn.leaving rfl (fW (dc 1)) (jc 3 nd) (cI (eE 'x' (c7 (oG ER.ns_NoCutting ER.qi_NoCutting a hr (cH (du (dJ (K:=K)) fS (by rfl) B.len fU 'x') dh))) dD) (nZ (c7 (oh 2 (pv 2) (eS (ey (K:=K)) fE (by rfl) B.tuple e7 'x')))))) (nZ (c7 (eZ (eS (ey (K:=K)) fE (by rfl) B.tuple e7 'x')))))))⟩
theorem DF(D:eJ K c.Cutting "__init__" "Cutting.__init__" (gB (fT 19) 0))(a:CE Z "checked_cuts" 4 (cQ c)):ji P w K mg base "Cutting" c.Cutting 5 (iu K c.Cutting (cR c)):=BY Z 4 (cR c) ["self","dims","cuts"] rfl AR ER.cl_Cutting ER.na_Cutting_own_cuts ER.na_Cutting_own_dims ER.mk_Cutting ER.kp_Cutting ER.mg_Cutting D λhr=>CV rfl (pv 0) (vk a hr oS (cH (dc 1) (cH (dc 2) dh))) (pv 0) (dc 1)
theorem DI(D:eJ K c.Cutting "with_one" "Cutting.with_one" (gB (fT 19) 6))(a:ji P w K mg base "Cutting" c.Cutting 5 (iu K c.Cutting (cR c))):CM Z c.Cutting "with_one" 7 (c5 c):=Bj Z 6 (c5 c) ["self","cut"] ["self","cut"] rfl ER.cl_Cutting D λnd b hr=>⟨_,(c7 (eZ (uk a hr oS (cH (pY rfl ER.cl_Cutting ER.na_Cutting_own_dims (dc 0)) (cH (eL (qo (eL (gO (f9 (K:=K)) ig (by rfl) B.list hU (cH (pY rfl ER.cl_Cutting ER.na_Cutting_own_cuts (dc 0)) dh))) 'x')) dh)))))⟩
theorem DA(D:dq K mg "_law_refused" (fT 28))(p:ji P w K mg base "Cutting" c.Cutting 5 (iu K c.Cutting (cR c)))(o:CM Z c.Cutting "with_one" 7 (c5 c))(y:dq K mg "_law_whole" (fT 23)):CP Z "_law_refused" 8 (cJ c):=CJ Z 7 (cJ c) ["_law_dims","_law_thing","_law_cutting","_law_found","e","_law_odd_here"] ["_law_dims","_law_thing","_law_cutting"] rfl D λnd hX hr=>⟨_,(sI (eg 3 nd nN) (vp 4 nd ER.cut ER.hct (λEK G X j=>(c7 (eE (eO tJ uU (dc 2) nN) (c7 (lJ (uk p hr j 'x'))) (c7 (lJ (AW o hr j (dc 2) 'x')))))) (λG A Y Ca d h l k m=>(ij (lI (i:=5) nd rfl (Or.inl rfl) (ik (lA (K:=K) h l) rfl B.isinstance m3 (dZ (pv 4) (dZ (um (dZ (iK (v:=.ref c.NoLand) rfl ER.m_NoLand rfl) (dZ (iK (v:=.ref c.NoNumber) rfl ER.m_NoNumber rfl) (dZ (iK (v:=.ref c.NoSigns) rfl ER.m_NoSigns rfl) (dZ (iK (v:=.ref c.NoSpot) rfl ER.m_NoSpot rfl) ib))))) ib)))) (jt (yV (PW.pt (nv (lN (ik (lA (K:=K) h l) rfl B.isinstance m3 (dZ (pv 4) (dZ (iK (v:=.ref c.NoCutting) rfl ER.m_NoCutting rfl) ib)))) (nv (lN (ik (lA (K:=K) h l) rfl B.isinstance m3 (dZ (pv 4) (dZ (rE (v:=.ty "ValueError") rfl ER.val zb rfl) ib)))) (nv (vK (lN (pv 5))) (rq (lN (sd (sp:=λu H Q=>jx K (j5 c) u H Q E0) (N:=["_law_found"]) (ps:=["_law_found"]) y (by constructor<;>first|rfl|decide +kernel) hr h (λa b c d e f J E=>fH ((show w5 "_law_whole" "_law_whole" (fT 23) ["_law_found"] from λ_ _ _ _ _ _ _=>rfl) a b c d e f) J E) rfl rfl (yo (N:=["_law_found"]) (ps:=["_law_found"]) (g:=iG c) rfl) (λf S s H Q u L=>oC Z B ER hr L) (dZ (t9 h l k m (pv 4)) ib) rfl))))))) (jt (lI (i:=3) nd rfl (Or.inl rfl) (t9 h l k m (pv 4)))) rm)))) 'x' (Ao ER.su_NoCutting (by decide)) (Av λA dx n H D he j q=>Am (tE rfl ER.xc_NoCutting (nc ER.n_NoCutting_NoLand (nc ER.n_NoCutting_NoNumber (nc ER.n_NoCutting_NoSigns (nc ER.n_NoCutting_NoSpot rfl))))) λH1 r=>ye (nB (xW rfl ER.xc_NoCutting (ug _ _)) λHa F=>nB (Ab rfl ER.xc_NoCutting ER.va_NoCutting) λHb I=>nB (wI (a:=false) (xT rfl)) λU C=>zj (uV (rD rfl ER.xc_NoCutting ER.xi_NoCutting (cT.trans (cT.trans (cT.trans r F) I) C _ _ j)) λ_ _=>yd) rfl) (λz=>nomatch z) λ_ H3 t=>rD rfl ER.xc_NoCutting ER.xi_NoCutting (cT.trans r t _ _ j) _ λx R=>q _ x (by simp) rfl (cT.trans (cT.trans r t) R))))⟩
theorem oL{e:Addr}{fd:FuncData}(D:wx K "law" "law" (fT 29) e fd)(g:CF Z "_law_cuts" 3 (fB c))(d:CP Z "_law_draw" 1 (cO c))(j:CP Z "_law_cell_at" 1 (cY c))(h:CP Z "_law_odd" 2 (fZ c))(b:ji P w K mg base "Cutting" c.Cutting 5 (iu K c.Cutting (cR c)))(f:CP Z "_law_refused" 8 (cJ c))(i:i9 P w K mg base c.Cutting "cuts" 1 (qH K (dG c))):fw P w K mg base jR 9 e fd ["_law_script"] (jx K (kr c)):=Bq Z 8 (kr c) ["_law_script","_law_dims","_law_cuts_here","_law_k","_law_cell","_law_at","_law_odd_here","_law_often","_law_place","_law_twin","_law_cutting","_law_rest","_law_wide"] ["_law_script"] rfl D λnd a hr=>⟨_,(cI 'x' (cI 'x' (cI (iC PassesOwn.never rfl (hI B.range 'x') (jc 3 nd) (cI 'x' (cI (eg 5 nd (jn d hr (cH (dc 4) (cH dn (cH (nJ (du (dJ (K:=K)) fS (by rfl) B.len fU 'x') dn) dh))))) (cI 'x' (cI 'x' (cI (eg 7 nd (rJ (eL (iF (cH (nI dn) (cH dn (cH dn (cH (nI dn) (cH (kx dn dn) dh))))))) 'x')) (cI (eg 8 nd (jn d hr (cH (dc 4) (cH dn (cH (du (dJ (K:=K)) fS (by rfl) B.len fU 'x') dh))))) (cI (eg 9 nd (eS (ey (K:=K)) fE (by rfl) B.tuple e7 (cH (eL (iE ["_law_number","_law_often"] [none,some 7] a (fW 'x') (λnd a=>⟨(gM 0 nd),eN, 'x'⟩))) dh))) (cI (eE (jT hr 'x' (du (dJ (K:=K)) fS (by rfl) B.len fU 'x')) 'x' dD) (cI (eg 10 nd (xC b hr 'x')) (cI (eE (vt (kL (jT hr 'x' (du (dJ (K:=K)) fS (by rfl) B.len fU 'x')) (ju (jT hr 'x' (du (dJ (K:=K)) fS (by rfl) B.len fU 'x'))))) 'x' dD) (c7 (eE (jT hr (eL (z6 i hr (dc 10))) (dc 2)) 'x' dD))))))))))))) (cI (pS ["_law_k","_law_dims"] [none,some 1] 11 nd a (sM.pim (hI B.range 'x')) (λnd a=>⟨(gM 0 nd),eN,(eS (ey (K:=K)) fE (by rfl) B.tuple e7 'x')⟩) wa) (cI 'x' (cI (qX PassesOwn.never rfl (fW (eL (iF (cH dn (cH dn (cH (nI dn) (cH (kx dn dn) 'x'))))))) (jc 12 nd) 'x') (c7 (eZ (yP hr (eL (iE ["_law_thing","_law_dims"] [none,some 1] a (fW (eL (iF (cH nN (cH (vg dh) (cH (eS (ey (K:=K)) fE (by rfl) B.tuple e7 'x') (cH vf (cH dn (cH vn dh))))))))) (λnd a=>⟨(gM 0 nd),eN, 'x'⟩))) 'x')))))))))⟩
end
def zd{l:W.OpenLaw}{w:World}{K:W.Frag}{h:Heap}{b:Str->Option Value}{c:Cs}{F f:Addr}{oc kV i I g J:Vq}{U H:Oq Addr}{x:Array (Option Value)}(X:K.In h)(G:h.Ns mainGlobals b)(k:b "law" = some (.ref F))
  (a:W.nsIn K mainGlobals "law" = some (some (.ref f))) (lk:K.lookup f=some ⟨oc,U,.func (W.fnOf "law" "law" (dM (fT 29)) (cZ (fT 29)) (cG (fT 29)) .none kV i I H g J),x⟩) (cc:W.codeIn K g "law" = true) (kk:W.keepIn K (.ref f)=true)
  (B:Bs b) (ER:Er c K b) (LF:∀ns:LI,(kr c) [.scr ns]=.ok (.bl true)) (N:dq K b "is_whole" (fT 9)) (R:dq K b "first_place" (fT 15)) (D2:dq K b "_law_cell_at" (fT 21)) (D3:dq K b "_law_draw" (fT 22)) (D4:dq K b "_law_whole" (fT 23)) (P:dq K b "_law_same" (fT 24)) (D6:dq K b "is_dims" (fT 13)) (Q:dq K b "is_cut" (fT 14)) (D8:dq K b "same_spots" (fT 16)) (D9:dq K b "_law_cut" (fT 25)) (u:dq K b "_law_odd" (fT 27)) (A:dq K b "can_stand" (fT 17)) (p:dq K b "_law_cuts" (fT 26)) (y:dq K b "checked_cuts" (fT 18)) (r:dq K b "_law_refused" (fT 28)) (M0:eJ K c.NoCutting "__init__" "NoCutting.__init__" (gB (fT 3) 0)) (Y:eJ K c.Cutting "cuts" "Cutting.cuts" (gB (fT 19) 2)) (M2:eJ K c.Cutting "__init__" "Cutting.__init__" (gB (fT 19) 0)) (L:eJ K c.Cutting "with_one" "Cutting.with_one" (gB (fT 19) 6)) :
  ∃fd:FuncData,(∀(s:Sq) (v:Vq),BindsTo s fd ⟨[v],[]⟩ [("_law_script",v)])/\∀base:Heap,K.In base->base.Ns mainGlobals b->fw l.prog w K b base jR 9 F fd ["_law_script"] (t5 K):=by
 have e:=k.symm.trans (W.mg_of X G a);cases e;refine⟨W.fnOf "law" "law" (dM (fT 29)) (cZ (fT 29)) (cG (fT 29)) .none kV i I H g J,?bnd,λbase _ _=>?main⟩
 case main=>have Z:Zx l.prog w K b base:=⟨trivial⟩;have O0:=o0 Z B ER M0;have D:=o1 Z B ER N;have S:=o2 Z B ER R;have O3:=o3 Z B ER Y;have E:=o4 Z B ER D2;have t:=o5 Z B ER D3;have O6:=o6 Z B ER P;have O7:=o7 Z B ER D6 D;have O8:=o8 Z B ER Q D;have O9:=o9 Z B ER D8 S;have m:=Du Z B ER D9 t;have z:=DE Z B ER u t;have C:=DB Z B ER A O8 O9;have n:=DG Z B ER p m E O6;have q:=Dw Z B ER y O0 O7 C;have d:=DF Z B ER M2 q;have j:=DI Z B ER L d;have o:=DA Z B ER r d j D4;exact (oL Z B ER (pM (st:=fT 29) lk cc kk) n t E z d o O3).imp (v9 λns _ _=>LF ns)
 case bnd=>exact λs v=>.of_eq rfl
end K05
namespace PySem.Challenge.cw_cutlands_k05_no_cuttings_holds
def tw16939248445946230020:0=0:=rfl
def tw9025958308475425940:0=0:=rfl
def tw8236825590746189166:0=0:=rfl
def tw15111432256170711702:0=0:=rfl
def tw8308335116922241767:0=0:=rfl
def tw2508513251080230661:0=0:=rfl
def tw3622867979845582412:0=0:=rfl
def tw1005840805919565055:0=0:=rfl
def tw13974834844882449478:0=0:=rfl
def tw10684101952373640873:0=0:=rfl
def tw16529210460871316634:0=0:=rfl
def tw262140522091599828:0=0:=rfl
def tw5097566336722278842:0=0:=rfl
def tw16638932234833218019:0=0:=rfl
def tw12072990213293303418:0=0:=rfl
def tw4562180594840603620:0=0:=rfl
def tw16308190281773996694:0=0:=rfl
def tw17441272908006987032:0=0:=rfl
def tw14939311085411407624:0=0:=rfl
def tw6439242972373277523:0=0:=rfl
def tw15558371614255545012:0=0:=rfl
def tw5140803914815458564:0=0:=rfl
def tw6579118359456249382:0=0:=rfl
def tw3039310011069495690:0=0:=rfl
def tw10460121762315871134:0=0:=rfl
def tw18182306132613178831:0=0:=rfl
def tw4567648484615242103:0=0:=rfl
def tw2079347032338603382:0=0:=rfl
def tw1196324200393615583:0=0:=rfl
def tw7327995415806035786:0=0:=rfl
def tw9972989123251803294:0=0:=rfl
def tw8864299766510741655:0=0:=rfl
def tw11062184296283302404:0=0:=rfl
def tw11883063784821911896:0=0:=rfl
def tw8767125135332601336:0=0:=rfl
def tw17488704722643677198:0=0:=rfl
def tw7897615723083766295:0=0:=rfl
def tw16463721150683949656:0=0:=rfl
def tw10970848191140804934:0=0:=rfl
def tw2332338203655173242:0=0:=rfl
def tw1043323575425234879:0=0:=rfl
def tw16016732840194873968:0=0:=rfl
def tw14607217717121200612:0=0:=rfl
def tw9281861360044856389:0=0:=rfl
def tw5278102273839158317:0=0:=rfl
def tw2838024680376780764:0=0:=rfl
def tw17891963664662382958:0=0:=rfl
def tw5340168474961841462:0=0:=rfl
def tw12495479925242150755:0=0:=rfl
def tw4019639546932942171:0=0:=rfl
def tw134003759885956013:0=0:=rfl
def tw4827859159588460162:0=0:=rfl
def tw5757837691217908173:0=0:=rfl
def tw87505833097173791:0=0:=rfl
def tw2213313315012818042:0=0:=rfl
def tw3537910712987599791:0=0:=rfl
def tw2483896878951724735:0=0:=rfl
def tw16424854324472075909:0=0:=rfl
def tw17471816680479955860:0=0:=rfl
def tw4280336380942723985:0=0:=rfl
def tw15350504208218746060:0=0:=rfl
def tw1700863657337813315:0=0:=rfl
def tw17088715287747652899:0=0:=rfl
def tw324467355253394089:0=0:=rfl
def tw14267844844143700832:0=0:=rfl
def tw11000999463181250708:0=0:=rfl
def tw7465807965411300479:0=0:=rfl
def tw10145422973154209424:0=0:=rfl
def tw2918763968549041273:0=0:=rfl
def tw7407531839947507930:0=0:=rfl
def tw17427889249446278191:0=0:=rfl
def tw14186488415936664866:0=0:=rfl
def tw7581246765284984423:0=0:=rfl
def tw17584026474611795063:0=0:=rfl
end PySem.Challenge.cw_cutlands_k05_no_cuttings_holds
open PySem PySem.W PyProof.Rows
set_option Elab.async true
theorem PySem.Challenge.cw_cutlands_k05_no_cuttings_holds : PySem.Challenge.rw_cutlands_k05_no_cuttings.Holds := by
 w_on;o_law;k_head;(case hw=>w_witness2);k_fill;refine L3.Be (l:=PySem.Challenge.rw_cutlands_k05_no_cuttings) (k:=9) (x:= "_law_script") rfl ⟨rfl,by decide,by decide⟩ rfl (λw h Y=>PySem.W.kIn_of Y) ?F
 case F=>intro w mg fa h KX G hmg;refine' K05.zd KX G hmg ?a ?l ?c ?k ?B ?E (λns=>CL.tH ns) ?_ ?_ ?_ ?_ ?_ ?_ ?_ ?_ ?_ ?_ ?_ ?_ ?_ ?_ ?_ ?_ ?_ ?_ ?_;(case a=>k_is);(case l=>k_is);(case c=>k_is);(case k=>k_is);(case B=>constructor<;>(apply mg_none_of KX G;k_is));(case E=>apply K05.B6 KX G<;>first | k_is | k_exc | decide | kernel_rfl);all_goals first | (apply L2.AG KX G<;>k_is) | (apply K05.B1<;>first | k_is | k_exc | decide)
