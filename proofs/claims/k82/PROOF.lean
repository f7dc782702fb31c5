import PyProof.Rows.All
import Wide.All
import OpenK.AllK
import Wide.FinOn
import Lean
import PyProof.EqAt
import PyProof.EqKinds
import PyProof.TupleCall
import PyProof.P3Eq
import PyProof.NeData
import PyProof.ConsumeWalk
import PyProof.Rows.SumAny
import PyProof.ZipIter
import PyProof.Rows.ZipGen
import PyProof.Rows.SeqMore
import PyProof.FactsAll.tuple
import PyProof.WalksMore
import PyProof.EnumMake
import PyProof.EnumFor
import PyProof.Rows.MinMaxN
import KE.KDictList
import KE.KRevIter
import KE.KItemsList
import PyProof.Rows.SortWalk
import PyProof.Rows.SetFrom
import PyProof.SetRoads
import PyProof.StrLoop
import PyProof.StrWalks
import PyProof.StrCalls2
import PyProof.StrLawsTight
import PyProof.StrLawsReplace
import PyProof.SliceStr2
import PyProof.StrOps
import PyProof.Rows.DictRows
import KE.KIntText
import PyProof.AttrMissHeap
import KE.KDictOf
import PyProof.ExcInit
import PyProof.ExcClass3
import PyProof.InstStoreFacts
import PyProof.Rows.ChunkEnd
import KE.KSortTup
import PyProof.SetKind
import PyProof.SetScanFacts
import PyProof.TupleKey
import PyProof.IsRules
import KE.KDictSum
import KE.KLam
import PySem.Challenge.RW_cutlands_k82_no_texts
set_option bootstrap.genMatcherCode false
set_option maxRecDepth 100000
set_option maxHeartbeats 0
set_option linter.all false
noncomputable section
set_option compiler.extract_closed false
set_option hygiene false
abbrev Oq:=@Option
abbrev Vq:=PySem.Value
abbrev Sq:=PySem.Shared
abbrev LI:=List Int
abbrev LL:=List LI
section
open PySem
def aa:=@List.getElem?_eq_some_iff
def ae:=@Heap.get?_push_of_some
def af:=@List.getD_eq_getElem?_getD
def ag:=@List.getElem?_eq_getElem
def ah:=@List.mem_append
def ai:=@List.mem_singleton
def aj:=@wpAny_pure
def ak:=@wpAny_bind
def ao:=@List.getElem?_set_ne
def aq:=@Heap.get?_push_size
def au:=@List.getElem?_map
def av:=@List.length_map
def aw:=@List.mem_append_left
def ax:=@List.length_cons
def az:=@decide_eq_false
def aC:=@Nat.lt_of_lt_of_le
def aD:=@List.mem_cons
def aF:=@Bool.false_ne_true
def aG:=@List.map_map
def aI:=@Nat.le_refl
def aJ:=@Heap.lt_size
def aK:=@Nat.ne_of_lt
def aL:=@Nat.le_trans
def aO:=@if_pos
def aP:=@if_neg
def aQ:=@List.mem_range
def aR:=@List.length_append
def aS:=@List.mem_filter
def aU:=@List.of_mem_zip
def aX:=@List.map_append
def aY:=@Nat.lt_irrefl
def a9:=@Array.append_assoc
def ba:=@Nat.le_of_lt
def bb:=@List.filterMap_cons
def bc:=@List.mem_cons_self
def bg:=@List.mem_cons_of_mem
def bh:=@Array.length_toList
def bj:=@Nat.ne_of_gt
def bo:=@List.mem_filterMap
def bp:=@List.mem_append_right
def bq:=@List.size_toArray
def br:=@List.map_cons
def bt:=@Nat.lt_succ_self
def bu:=@Nat.zero_le
def bw:=@List.append_nil
def bx:=@Nat.le_succ
def bz:=@List.nodup_cons
def bA:=@Option.isSome_iff_exists
def bB:=@List.length_take
def bC:=@List.length_replicate
def bD:=@Int.toNat_natCast
def bE:=@List.length_drop
def bF:=@Bool.and_eq_true
def bG:=@List.replicate_succ
def bH:=@List.flatten_cons
def bJ:=@List.append_assoc
def bK:=@List.length_singleton
def bL:=@List.forIn_cons
def bM:=@Bool.false_eq_true
def bN:=@List.lookup_cons
def bO:=@Nat.le_of_succ_le
def bP:=@Nat.lt_succ_of_lt
def bQ:=@List.forIn_nil
def bR:=@Nat.le_add_right
def bS:=@Nat.not_le
def bT:=@Nat.le_succ_of_le
def bU:=@Nat.not_lt
def bV:=@Bool.not_eq_true'
def bW:=@List.range_succ_eq_map
def bX:=@List.all_eq_true
def bY:=@List.take_of_length_le
def bZ:=@List.length_eq_zero_iff
def b0:=@List.contains_cons
def b4:=@Option.map_eq_some_iff
def b5:=@List.drop_eq_getElem_cons
def b6:=@List.drop_length
def b7:=@List.map_inj_left
def b8:=@List.mem_range'_1
def b9:=@Nat.lt_or_ge
def cf:=@Int.fmod_nonneg_of_pos
def cg:=@Int.fmod_lt_of_pos
def cj:=@Int.toNat_of_nonneg
end
set_option Elab.async false
namespace L2
open PySem PySem.Spec PyProof.Rows
abbrev i8:=Sum Int Str
noncomputable def xP:i8->Value->Bool
 |.inl k,v=>Value.isInt k v
 |.inr x,v=>Value.isStrOf x v
def Cj(w:World):i8->Int
 |.inl k=>hashInt k
 |.inr x=>hashStr w x
theorem dy:∀{k} {v},xP k v=true->(∃i t,k=Sum.inl i/\v=Value.int i t)\/(∃x t,k=Sum.inr x/\v=Value.str x t)
 |.inl i,v,h=>by obtain⟨t,e⟩:=Value.isInt_shape h;exact .inl ⟨i,t,rfl,e⟩
 |.inr x,v,h=>by obtain⟨t,e⟩:=Value.isStrOf_shape h;exact .inr ⟨x,t,rfl,e⟩
def yo a b:decide ((Sum.inl a:i8)=Sum.inl b)=(a==b):=by
 by_cases e:a=b
 .subst e;simp
 .have h:¬(Sum.inl a:i8)=Sum.inl b:=λq=>e (Sum.inl.inj q);rw[az h];exact (beq_eq_false_iff_ne.mpr e).symm
def zJ a b:decide ((Sum.inr a:i8)=Sum.inr b)=decide (a=b):=by
 by_cases e:a=b
 .subst e;simp
 .have h:¬(Sum.inr a:i8)=Sum.inr b:=λq=>e (Sum.inr.inj q);rw[az h,az e]
def yV a b:decide ((Sum.inl a:i8)=Sum.inr b)=false:=az (λq=>nomatch q)
def zB a b:decide ((Sum.inr a:i8)=Sum.inl b)=false:=az (λq=>nomatch q)
noncomputable def qk(prog:Program)(w:World):PySem.KeyKind prog w i8 where
 is:=xP
 hash:=Cj w
 inj:=λv a b g f=>by
  rcases dy g with⟨i,t,rfl,rfl⟩|⟨x,t,rfl,rfl⟩
  .rcases dy f with⟨j,u,rfl,e⟩|⟨y,u,rfl,e⟩
   .injection e with c _;rw[c]
   .exact nomatch e
  .rcases dy f with⟨j,u,rfl,e⟩|⟨y,u,rfl,e⟩
   .exact nomatch e
   .injection e with c _;rw[c]
 byValue:=λk v h=>by rcases dy h with⟨i,t,rfl,rfl⟩|⟨x,t,rfl,rfl⟩<;>rfl
 pyHash:=λd h=>by
  rcases dy d with⟨i,t,rfl,rfl⟩|⟨x,t,rfl,rfl⟩
  .exact wpAny_pyHash_int h
  .exact wpAny_pyHash_str h
 eqBool:=λl d h=>by
  rcases dy l with⟨i,t,rfl,rfl⟩|⟨x,t,rfl,rfl⟩
  .rcases dy d with⟨j,u,rfl,rfl⟩|⟨y,u,rfl,rfl⟩
   .rw[yo]at h;exact wpAny_eqBool_int h
   .rw[yV]at h;exact SeqAt.EqAt.int_str i t y u _ _ _ _ h
  .rcases dy d with⟨j,u,rfl,rfl⟩|⟨y,u,rfl,rfl⟩
   .rw[zB]at h;exact SeqAt.EqAt.str_int x t j u _ _ _ _ h
   .rw[zJ]at h;exact wpAny_eqBool_str h
 «strs»:=λk x t v h=>by
  rcases dy h with⟨i,u,rfl,e⟩|⟨y,u,rfl,e⟩
  .exact nomatch e
  .injection e with c _;subst c;cases v<;>rfl
end L2
namespace L2
open PySem PySem.Spec PyProof.Rows
inductive V where
 |non|bl (b:Bool)|int (i:Int)|str (x:Str)|byt (b:Array UInt8)|flt (b:UInt64)|ref (a:Addr)|ty (n:String)
 deriving DecidableEq
def dA:V->Value->Prop
 |.non,u=>u=Value.none
 |.bl b,u=>u=Value.bool b
 |.int i,u=>∃t,u=Value.int i t
 |.str x,u=>∃t,u=Value.str x t
 |.byt b,u=>∃t,u=Value.bytes b t
 |.flt b,u=>∃t,u=Value.float b t
 |.ref a,u=>u=Value.ref a
 |.ty n,u=>u=Value.type n
abbrev cO:List V->List Value->Prop:=Paired dA
def cO.length(r:cO xs us):xs.length=us.length:=Paired.length r
theorem cO.get:∀{a:List V} {b:List Vq} {i:Nat} {x:V},cO a b->a[i]? = some x->∃u,b[i]? = some u/\dA x u
 |_,_,_,_,.nil,e=>by simp at e
 |_,_,0,_,.cons r _,e=>by simp at e;subst e;exact⟨_,rfl,r⟩
 |_,_,i+1,x,.cons _ t,e=>by obtain⟨u,d,c⟩:=cO.get t (by simpa using e);exact⟨u,by simpa using d,c⟩
theorem cO.append:∀{xs ys} {us ws},cO xs us->cO ys ws->cO (xs++ys) (us++ws)
 |_,_,_,_,.nil,s=>s
 |_,_,_,_,.cons r t,s=>.cons r (cO.append t s)
theorem cO.take:∀{xs} {us} n,cO xs us->cO (xs.take n) (us.take n)
 |_,_,0,_=>.nil
 |_,_,_+1,.nil=>.nil
 |_,_,n+1,.cons r t=>.cons r (cO.take n t)
theorem cO.drop:∀{xs} {us} n,cO xs us->cO (xs.drop n) (us.drop n)
 |_,_,0,r=>r
 |_,_,_+1,.nil=>.nil
 |_,_,n+1,.cons _ t=>cO.drop n t
def zF:Oq V->Option Value->Prop
 |some v,some u=>dA v u
 |none,none=>True
 |_,_=>False
def KV{a:Type}:List (a×V)->List (a×Value)->Prop:=Paired λ(p:a×V) (q:a×Value)=>p.1=q.1/\dA p.2 q.2
def kV:i8->V
 |.inl i=>.int i
 |.inr x=>.str x
inductive HO where
 |lst (xs:List V)
 |tup (xs:List V)
 |dK (kvs:List (i8×V))|dT (kvs:List (List i8×V))
 |set (S:Int->Bool) (n:Nat)
 |ins (C dx:Addr) (fs:List (Str×V))
 |own (x:Addr)
 |xd (fs:List (Str×V))
 |met (f x:Addr)
 |rng (lo hi:Int)
 |frz (o:Obj) (u:HO)
 |tbl (q:Str) (ps:Array Vq)
 |ext (φ:Heap->Prop)
abbrev Hp:=Addr->Option HO
noncomputable def c6(H:Hp)(a:Addr)(o:HO):Hp:=λb=>if b=a then some o else H b
def cy:c6 H a o a=some o:=by unfold c6;rw[aO rfl]
def cx(h:b≠a):c6 H a o b=H b:=by unfold c6;rw[aP h]
def cH{H:Hp}(h:H a=some o)(h':H b=none):a≠b:=by intro e;subst e;rw[h]at h';cases h'
section
variable (P:Program)(w:World)
def mS(h:Heap)(a:Addr)(b:Array Vq):Prop:=∃o,h.get? a=some o/\o.cls=.type "tuple" /\∃n,o.data=.seq b n/\o.dict=none
def mS.tup(x:mS h a items):IsTup h a items:=let ⟨o,e,c,n,d,_⟩:=x;⟨o,e,c,n,d⟩
def mS.new(h:Heap) items:mS (h.push {cls:=.type "tuple",data:=.seq items}) h.objs.size items:=⟨_,aq _ rfl,rfl,_,rfl,rfl⟩
def pY:List Vq->List Value
 |_::_::c::r=>c::pY r
 |_=>[]
def eO(H:Hp)(h:Heap)(a:Addr):HO->Prop
 |.lst c=>c.length<=sizeLine/\∃(its:List Vq) (n:Nat),cO c its/\h.get? a=some {cls:=.type "list",data:=.seq its.toArray n}
 |.tup c=>c.length<=sizeLine/\∃its:List Vq,cO c its/\mS h a its.toArray
 |.dK kvs=>kvs.length<=sizeLine/\(a==sysModules)=false/\∃g,KV kvs g/\h.DictOf (qk P w) a g
 |.dT kvs=>kvs.length<=sizeLine/\(a==sysModules)=false/\∃c:List (List i8×Addr×Value),
   Paired (λ(p:List i8×V) (q:List i8×Addr×Value)=>p.1=q.1/\H q.2.1=some (.tup (p.1.map kV))/\dA p.2 q.2.2) kvs c/\
   ∃o e k,h.get? a=some o/\o.ExactDict/\o.data=.dict e k/\e.toList=c.map (entryOfKey (tupleKind (qk P w)))/\(c.map (·.1)).Nodup
 |.set S n=>h.SetOf (intKind P w) a S n
 |.ins C dx fs=>H dx=some (.own a)/\fs.length<=1000/\dx≠a/\h.get? a=some (W.instObj C dx)/\
   ∃d,h.Ns1 dx d/\(∀f,zF (fs.lookup f) (d f))/\PySem.Within d (fs.map (·.1))
 |.own _=>∃o,h.get? a=some o
 |.xd fs=>∃d,h.Ns1 a d/\∀f,zF (fs.lookup f) (d f)
 |.rng lo hi=>∃t u v,h.get? a=some {cls:=.type "range",data:=.fields #[.int lo t,.int hi u,.int 1 v]}
 |.frz o u=>h.get? a=some o/\eO H h a u
 |.tbl q ps=>h.get? a=some {cls:=.none,data:=.fields ps}/\TriplesOk ps.toList/\∀v∈pY ps.toList,∃b,v=.ref b/\H b=some (.own a)/\h.CodeRec (.ref b) q
 |.met f x=>h.get? a=some (W.methodObj (.ref f) (.ref x))
 |.ext φ=>φ h/\(∃o,h.get? a=some o)/\∀j i:Heap,φ j->(∀o,j.get? a=some o->i.get? a=some o)->φ i
def hZ(H:Hp)(h:Heap):Prop:=∀a o,H a=some o->eO P w H h a o
end
section
variable {P:Program}{w:World}{H H':Hp}{h h':Heap}{a:Addr}{o:HO}
def eO.lt(x:eO P w H h a o):a<h.objs.size:=by
 cases o with
 |lst xs=>obtain⟨_,_,_,_,e⟩:=x;exact aJ e
 |tup xs=>obtain⟨_,_,_,p⟩:=x;exact (mS.tup p).lt
 |dK kvs=>obtain⟨_,_,_,_,o,_,_,e,_⟩:=x;exact aJ e
 |dT kvs=>obtain⟨_,_,_,_,o,_,_,e,_⟩:=x;exact aJ e
 |set S n=>obtain⟨o,_,_,_,e,_⟩:=x;exact aJ e
 |ins C dx fs=>obtain⟨_,_,_,e,_⟩:=x;exact aJ e
 |own y=>obtain⟨_,e⟩:=x;exact aJ e
 |xd fs=>obtain⟨_,⟨_,_,_,e,_⟩,_⟩:=x;exact aJ e
 |rng lo hi=>obtain⟨_,_,_,e⟩:=x;exact aJ e
 |frz ob u=>obtain⟨e,_⟩:=x;exact aJ e
 |tbl q ps=>exact aJ x.1
 |met f y=>exact aJ (x)
 |ext φ=>obtain⟨_,⟨_,e⟩,_⟩:=x;exact aJ e
theorem Paired.mapP{F G:α->β->Prop}:∀{l₁} {l₂},Paired F l₁ l₂->(∀a b,F a b->G a b)->Paired G l₁ l₂
 |_,_,.nil,_=>.nil
 |_,_,.cons r t,f=>.cons (f _ _ r) (Paired.mapP t f)
def Paired.imp'{F G:α->β->Prop}(f:∀a b,F a b->G a b){c:List α}{d:List β}(r:Paired F c d):Paired G c d:=Paired.mapP r f
theorem eO.stay(x:eO P w H h a o)(k:∀b u,(b=a\/H b=some (.own a))->h.get? b=some u->h'.get? b=some u)
  (E:∀b,H b=some (.own a)->H' b=some (.own a)) (K:∀b m,H b=some (.tup m)->H' b=some (.tup m)):eO P w H' h' a o:=by
 induction o with
 |lst m=>obtain⟨z,l,n,r,e⟩:=x;exact⟨z,l,n,r,k _ _ (.inl rfl) e⟩
 |tup m=>obtain⟨z,l,r,g,e,c⟩:=x;exact⟨z,l,r,g,k _ _ (.inl rfl) e,c⟩
 |dK kvs=>obtain⟨z,y,s,r,g,i,j,e,c⟩:=x;exact⟨z,y,s,r,g,i,j,k _ _ (.inl rfl) e,c⟩
 |dT kvs=>obtain⟨z,y,m,r,g,i,j,e,c⟩:=x;exact⟨z,y,m,Paired.mapP r λp q z=>⟨z.1,K _ _ z.2.1,z.2.2⟩,g,i,j,k _ _ (.inl rfl) e,c⟩
 |set S n=>obtain⟨g,i,j,t,e,c⟩:=x;exact⟨g,i,j,t,k _ _ (.inl rfl) e,c⟩
 |ins C dx fs=>obtain⟨d,z,ne,e,D,⟨A,i,j,B,c⟩,r⟩:=x;exact⟨E _ d,z,ne,k _ _ (.inl rfl) e,D,⟨A,i,j,k _ _ (.inr d) B,c⟩,r⟩
 |own y=>obtain⟨g,e⟩:=x;exact⟨g,k _ _ (.inl rfl) e⟩
 |xd fs=>obtain⟨D,⟨A,i,j,e,c⟩,r⟩:=x;exact⟨D,⟨A,i,j,k _ _ (.inl rfl) e,c⟩,r⟩
 |rng lo hi=>obtain⟨t,u,v,e⟩:=x;exact⟨t,u,v,k _ _ (.inl rfl) e⟩
 |frz g u ih=>obtain⟨e,q⟩:=x;exact⟨k _ _ (.inl rfl) e,ih q⟩
 |tbl q ps=>obtain⟨e,t,Q⟩:=x;refine⟨k a _ (.inl rfl) e,t,λv R=>?_⟩;obtain⟨b,L,F,c,o,s,J,I,B,N⟩:=Q v R;cases I;exact⟨_,L,E _ F,_,o,s,J,rfl,k _ _ (.inr F) B,N⟩
 |met f y=>have e:=x;exact k a _ (.inl rfl) e
 |ext φ=>obtain⟨p,⟨o,e⟩,G⟩:=x;exact⟨G _ _ p λo q=>k _ _ (.inl rfl) q,⟨o,k _ _ (.inl rfl) e⟩,G⟩
def hZ.lt(x:hZ P w H h)(e:H a=some o):a<h.objs.size:=(x a o e).lt
def hZ.fresh(x:hZ P w H h)(e:h.objs.size<=a):H a=none:=by
 cases q:H a with
 |none=>rfl
 |some u=>exact absurd (aC (x.lt q) e) (aY _)
def hZ.kept(x:hZ P w H h)(k:∀b u,h.get? b=some u->h'.get? b=some u):hZ P w H h':=λa o e=>(x a o e).stay (λb u _ q=>k b u q) (λ_ q=>q) λ_ _ q=>q
def hZ.laid(x:hZ P w H h)(k:∀b u,h.get? b=some u->h'.get? b=some u)(g:h.objs.size<=a)(new:eO P w (c6 H a o) h' a o):hZ P w (c6 H a o) h':=λb u e=>by
 have f:=x.fresh g;by_cases d:b=a
 .subst d;rw[cy]at e;cases e;exact new
 .rw[cx d]at e;exact (x b u e).stay (λc v _ q=>k c v q) (λc q=>by rw[cx (cH q f)];exact q) λc i q=>by rw[cx (cH q f)];exact q
end
def Rd(H:Hp)(a:Addr)(u:HO):Prop:=H a=some u\/∃o,H a=some (.frz o u)
def Rd.ok(r:Rd H a u)(x:hZ P w H h):eO P w H h a u:=by
 rcases r with r|⟨o,r⟩
 .exact x a u r
 .obtain⟨_,q⟩:=x a _ r;exact q
def BD:Oq HO->Prop
 |some (.lst _)=>True
 |some (.dK _)=>True
 |some (.dT _)=>True
 |some (.set _ _)=>True
 |some (.ins _ _ _)=>True
 |some (.ext _)=>True
 |_=>False
section
variable {P:Program}{w:World}{H:Hp}{h h':Heap}{x e:Addr}{o':HO}
def hZ.write(ok:hZ P w H h)(l:BD (H x))(n:e=x\/H e=some (.own x))(k:∀b u,b≠e->h.get? b=some u->h'.get? b=some u)(m:∃u,h'.get? e=some u)
  (new:eO P w (c6 H x o') h' x o'):hZ P w (c6 H x o') h':=λb u q=>by
 have d:∀c y,H c=some (.own y)->c≠x:=λc y r z=>by subst z;rw[r]at l;exact l
 have f:∀c g,H c=some (.tup g)->c≠x:=λc g r z=>by subst z;rw[r]at l;exact l
 by_cases j:b=x
 .subst j;rw[cy]at q;cases q;exact new
 .rw[cx j]at q;by_cases a:b=e
  .have o:H b=some (.own x):=by
    rcases n with z|z
    .exact absurd (a.trans z) j
    .rw[a];exact z
   rw[q]at o;cases o;obtain⟨v,p⟩:=m;exact⟨v,by rw[a];exact p⟩
  .refine (ok b u q).stay (λc v i r=>k c v ?_ r) (λc r=>by rw[cx (d c b r)];exact r) λc g r=>by rw[cx (f c g r)];exact r
   rcases i with rfl|i
   .exact a
   .rintro rfl;rcases n with z|z
    .exact d c b i z
    .rw[i]at z;cases z;exact j rfl
end
structure Un(fs ex:List Addr)(H H':Hp)(h h':Heap):Prop where
 keep:∀b o,h.get? b=some o->H b=none->b∉fs->b∉ex->h'.get? b=some o
 slot:∀b o,h.get? b=some o->H b=none->b∈fs->b∉ex->∃sl,h'.get? b=some {o with slots:=sl}
 free:∀b o,h.get? b=some o->H b=none->b∉ex->H' b=none
 there:∀b o,h.get? b=some o->b∉ex->∃o',h'.get? b=some o'
 tups:∀b xs,H b=some (.tup xs)->H' b=some (.tup xs)
 frzs:∀b o u,H b=some (.frz o u)->H' b=some (.frz o u)
 tbls:∀b q ps,H b=some (.tbl q ps)->∃more,H' b=some (.tbl q (ps++more))
section
variable {fs fs' ex ex':List Addr}{H H1 H2:Hp}{h h1 h2 h':Heap}{a x e:Addr}{o:HO}
def Un.any(u:Un fs ex H H1 h h1)(q:h.get? b=some ob)(n:H b=none)(d:b∉ex):∃f,h1.get? b=some {ob with slots:=f}:=by
 by_cases c:b∈fs
 .exact u.slot b ob q n c d
 .exact⟨ob.slots,u.keep b ob q n c d⟩
def Un.trans(a:Un fs ex H H1 h h1)(b:Un fs ex H1 H2 h1 h2):Un fs ex H H2 h h2 where
 keep:=λc f q n i d=>b.keep c f (a.keep c f q n i d) (a.free c f q n d) i d
 slot:=λc f q n i d=>by obtain⟨u,g⟩:=a.slot c f q n i d;obtain⟨m,k⟩:=b.slot c _ g (a.free c f q n d) i d;exact⟨m,k⟩
 free:=λc f q n d=>by obtain⟨l,g⟩:=a.there c f q d;exact b.free c l g (a.free c f q n d) d
 there:=λc f q d=>by obtain⟨l,g⟩:=a.there c f q d;exact b.there c l g d
 tups:=λc j q=>b.tups c j (a.tups c j q)
 frzs:=λc f j q=>b.frzs c f j (a.frzs c f j q)
 tbls:=λc p t q=>by obtain⟨r,g⟩:=a.tbls c p t q;obtain⟨s,k⟩:=b.tbls c p _ g;exact⟨r++s,by rw[k,a9]⟩
def Un.kept(k:∀b u,h.get? b=some u->h'.get? b=some u):Un fs ex H H h h':=⟨λb c q _ _ _=>k b c q,λb c q _ _ _=>⟨c.slots,k b c q⟩,λ_ _ _ n _=>n,λb c q _=>⟨c,k b c q⟩,λ_ _ q=>q,λ_ _ _ q=>q,λ_ _ d q=>⟨#[],by rw[q];simp⟩⟩
def Un.refl:Un fs ex H H h h:=Un.kept λ_ _ q=>q
def Un.laid(k:∀b u,h.get? b=some u->h'.get? b=some u)(d:h.objs.size<=a)(c:H a=none):Un fs ex H (c6 H a o) h h' where
 keep:=λb u q _ _ _=>k b u q
 slot:=λb u q _ _ _=>⟨u.slots,k b u q⟩
 free:=λb u q n _=>by rw[cx (aK (aC (aJ q) d))];exact n
 there:=λb u q _=>⟨u,k b u q⟩
 tups:=λb f q=>by rw[cx (cH q c)];exact q
 frzs:=λb u f q=>by rw[cx (cH q c)];exact q
 tbls:=λb _ g q=>⟨#[],by rw[cx (cH q c),q];simp⟩
def Un.write(d:BD (H x))(p:e=x\/H e=some (.own x))(k:∀b u,b≠e->h.get? b=some u->h'.get? b=some u)(f:∃u,h'.get? e=some u):Un fs ex H (c6 H x o) h h':=by
 have j:∀b,H b=none->b≠x:=λb n z=>by subst z;rw[n]at d;exact d
 have i:∀b,H b=none->b≠e:=λb n z=>by
  subst z;rcases p with r|r
  .exact j b n r
  .rw[n]at r;cases r
 have g:∀b u,H b=some u->¬BD (some u)->b≠x:=λb u q m z=>by subst z;rw[q]at d;exact m d
 refine⟨λb u q n _ _=>k b u (i b n) q,λb u q n _ _=>⟨u.slots,k b u (i b n) q⟩,λb u q n _=>by rw[cx (j b n)];exact n,λb u q _=>?_,
  λb l q=>by rw[cx (g b _ q λz=>z)];exact q,λb u l q=>by rw[cx (g b _ q λz=>z)];exact q,λb _ s q=>⟨#[],by rw[cx (g b _ q λz=>z),q];simp⟩⟩
 by_cases c:b=e
 .subst c;exact f
 .exact⟨u,k b u c q⟩
end
noncomputable def trk(h:Heap)(H:Hp):List Addr:=(List.range h.objs.size).filter λa=>(H a).isSome
def uI(h:Heap)(H:Hp):Heap:=W.hideAll h (trk h H)
def qI h H:(uI h H).objs.size=h.objs.size:=W.hideAll_size _ _
def uK(e:h.get? b=some o)(n:H b=none):(uI h H).get? b=some o:=W.hideAll_get _ e λa=>by have q:=(aS.mp a).2;rw[n]at q;simp at q
def vH(e:(uI h H).get? b=some o):h.get? b=some o/\H b=none:=by
 have a:=W.of_hideAll (trk h H) e;refine⟨a,?_⟩;cases q:H b with
 |none=>rfl
 |some x=>have c:b∈trk h H:=aS.mpr ⟨aQ.mpr (aJ a),by simp[q]⟩;have z:(uI h H).get? b=none:=W.hideAll_none (trk h H) c;rw[z]at e;cases e
end L2
namespace L2
open PySem PySem.Spec PyProof.Rows
structure Mod(K:W.Frag)(mg:Str->Option Value)(base:Heap):Prop where
 kin:K.In base
 glob:base.Ns mainGlobals mg
 blt:∃mb,base.Ns builtinsNs mb/\∀x:Str,x≠ "__name__" ->mb x=bootBuiltins x
 nolimit:base.NoLimit
def ub(base:Heap)(H:Hp):Prop:=∀c P a,(c,P)∈base.life.ids->base.CodeRec (.ref c) a->∃b,H P=some (.tbl (a++ ".<locals>.<lambda>") b)
structure Cx where
 prog:Program
 w:World
 K:W.Frag
 mg:Str->Option Value
 base:Heap
 A:Around
 N:List Str
 s₀:Sq
 H₀:Hp
 env:Env
 outer:List Env
 stack:List Env
 ex:List Addr
 fn:Str->Bool
 calm:Bool
 pn:List (Addr×Obj)
 xe:Vq->Shared->Prop
noncomputable def fw(l:List Env):List Addr:=l.filterMap (·.frame)
abbrev Cx.fs(X:Cx):List Addr:=fw X.outer
def AD(a:Scope)(x:Str):Prop:=a.names.lookup x=some .local\/a.names.lookup x=some .cell\/a.names.lookup x=some .free
def oY(a:Scope)(x:Str):Prop:=a.names.lookup x=some .local\/a.names.lookup x=some .cell
def Cr(a:Env)(h:Heap)(m:Str->Option Value)(x:Str)(u:Vq):Prop:=(a.kindOf x=some .local/\m x=some u)\/((a.kindOf x=some .cell\/a.kindOf x=some .free)/\∃c,a.cells.lookup x=some c/\h.IsCell c (some u))
structure Cx.Ok(X:Cx):Prop where
 mod:Mod X.K X.mg X.base
 kind:X.env.scope.kind=.function
 glob:X.env.globals=mainGlobals
 blt:X.env.builtins=builtinsNs
 above:X.s₀.heap.objs.size<=X.env.locals
 inj:∀x y c,X.env.cells.lookup x=some c->X.env.cells.lookup y=some c->x=y
 has:∀x,(X.env.kindOf x=some .cell\/X.env.kindOf x=some .free)->∃c,X.env.cells.lookup x=some c
 cab:∀x c,X.fn x=true->X.env.cells.lookup x=some c->X.s₀.heap.objs.size<=c
 hd:X.calm=true->X.A.handled=none
 frames:X.A.frames=some X.stack
 stk:X.stack=X.outer\/(X.stack=X.env::X.outer/\X.env.frame=some X.env.locals)
 exf:∀b∈X.ex,b≠X.env.locals/\∀x c,X.env.cells.lookup x=some c->c≠b
 bs:∀b o,X.base.get? b=some o->X.s₀.heap.get? b=some o/\X.H₀ b=none
 bsz:X.base.objs.size<=X.s₀.heap.objs.size
 noex:∀b o,X.base.get? b=some o->b∉X.ex
 exfs:∀b∈X.ex,b∉X.fs
 funs:X.s₀.heap.FunFrames X.base X.outer
 frf:∀b∈X.fs,X.H₀ b=none
 tab:ub X.base X.H₀
structure cB(X:Cx)(ck:List (Addr×Obj))(σ:List (Option V))(H:Hp)(s:Sq):Prop where
 ok:X.Ok
 os:s.os=X.s₀.os
 bare:AllBare s.gens
 base:Un X.fs X.ex X.H₀ H X.s₀.heap s.heap
 loc:∃m,s.heap.Ns X.env.locals m/\∀(i:Nat) (x:Str) (v:V),X.N[i]? = some x->σ[i]? = some (some v)->AD X.env.scope x->∃u,dA v u/\Cr X.env s.heap m x u
 cell:∀x c,X.env.cells.lookup x=some c->∃v,s.heap.IsCell c v
 free:H X.env.locals=none
 freeC:∀x c,X.env.cells.lookup x=some c->H c=none
 pin:∀p∈X.pn++ck,s.heap.get? p.1=some p.2/\H p.1=none/\p.1≠X.env.locals/\p.1∉X.fs/\∀v,p.2.data≠.cell v
 hok:hZ X.prog X.w H s.heap
 len:σ.length=X.N.length
section
variable {X:Cx}{ck:List (Addr×Obj)}{σ:List (Option V)}{H H':Hp}{s:Sq}{h':Heap}
def Cx.Ok.nofr(ok:X.Ok)(e:X.base.get? b=some o):b∉X.fs:=λa=>by have:=(ok.funs.mem a).1;rw[e]at this;cases this
def cB.bs(I:cB X ck σ H s):∀b o,X.base.get? b=some o->s.heap.get? b=some o/\H b=none:=λb o e=>⟨I.base.keep b o (I.ok.bs b o e).1 (I.ok.bs b o e).2 (I.ok.nofr e) (I.ok.noex b o e),I.base.free b o (I.ok.bs b o e).1 (I.ok.bs b o e).2 (I.ok.noex b o e)⟩
def cB.tab(I:cB X ck σ H s):ub X.base H:=λc P d a b=>let ⟨ps,e⟩:=I.ok.tab c P d a b;let ⟨more,q⟩:=I.base.tbls _ _ ps e;⟨ps++more,q⟩
def cB.bk(I:cB X ck σ H s):∀b o,X.base.get? b=some o->s.heap.get? b=some o:=λb o e=>(I.bs b o e).1
def cB.mod(I:cB X ck σ H s):Mod X.K X.mg X.base:=I.ok.mod
def cB.kIn(I:cB X ck σ H s):X.K.In s.heap:=I.ok.mod.kin.keeps I.bk
def cB.lt(I:cB X ck σ H s):X.env.locals<s.heap.objs.size:=let ⟨_,hn,_⟩:=I.loc;hn.lt
def cB.sz(I:cB X ck σ H s):X.s₀.heap.objs.size<=s.heap.objs.size:=aL I.ok.above (ba I.lt)
def cB.nofs(I:cB X ck σ H s)(h:s.heap.objs.size<=a):a∉X.fs:=λb=>by obtain⟨_,o,c,_⟩:=I.ok.funs.mem b;exact absurd (aC (aJ c) (aL I.sz h)) (aY _)
def cB.cne(I:cB X ck σ H s):∀x c,X.env.cells.lookup x=some c->c≠X.env.locals:=λx c e z=>by obtain⟨v,o,d,f⟩:=I.cell x c e;obtain⟨m,⟨h,i,g,b,a,_⟩,_⟩:=I.loc;rw[z,b]at d;cases d;rw[a]at f;cases f
def cB.funs(I:cB X ck σ H s):s.heap.FunFrames X.base X.outer:=by
 have all:∀(l:List Env),(∀b∈fw l,b∈X.fs)->X.s₀.heap.FunFrames X.base l->s.heap.FunFrames X.base l:=by
  intro l;induction l with
  |nil=>intro _ _;trivial
  |cons env r ih=>intro f g;obtain⟨j,⟨L,o,a,i,h,k⟩,hr⟩:=g;have c:=f L (by unfold fw;rw[bb,a];exact bc);obtain⟨m,e⟩:=I.base.slot L o h (I.ok.frf L c) c λz=>I.ok.exfs L z c;exact⟨j,⟨L,_,a,i,e,k⟩,ih (λb d=>f b (by unfold fw;rw[bb,a];exact bg _ d)) hr⟩
 exact all X.outer (λ_ d=>d) I.ok.funs
def cB.stack(I:cB X ck σ H s):s.heap.FunFrames X.base X.stack:=by
 rcases I.ok.stk with e|⟨e,b⟩
 .rw[e];exact I.funs
 .rw[e];obtain⟨m,a,_⟩:=I.loc;refine .cons (by rw[I.ok.kind];decide) b a ?_ I.funs;exact Heap.get?_none_of_le (aL I.ok.bsz I.ok.above)
def cB.stkSub(I:cB X ck σ H s):∀b∈fw X.stack,b∈X.env.locals::X.fs:=λb a=>by
 rcases I.ok.stk with e|⟨e,c⟩
 .rw[e]at a;exact bg _ a
 .rw[e]at a;unfold fw at a;rw[bb,c]at a;exact a
def cB.stkFree(I:cB X ck σ H s):∀b∈fw X.stack,H b=none:=λb a=>by
 rcases aD.mp (I.stkSub b a) with e|a
 .rw[e];exact I.free
 .obtain⟨_,o,c,_⟩:=I.ok.funs.mem a;exact I.base.free b o c (I.ok.frf b a) λz=>I.ok.exfs b z a
def cB.step{ch:List Addr}(I:cB X ck σ H s)
  (j:∀b∈ch,(b∈X.ex\/X.s₀.heap.objs.size<=b)/\b≠X.env.locals/\(∀x c,X.env.cells.lookup x=some c->c≠b)/\∀p∈X.pn++ck,p.1≠b)
  (g:∀b o,b≠X.env.locals->b∉X.fs->b∉ch->s.heap.get? b=some o->H b=none->h'.get? b=some o)
  (C:∀b o,b≠X.env.locals->b∈X.fs->b∉ch->s.heap.get? b=some o->H b=none->∃S,h'.get? b=some {o with slots:=S}) (f:∀b o,b∉ch->s.heap.get? b=some o->H b=none->H' b=none)
  (D:∀b o,b∉ch->s.heap.get? b=some o->∃J,h'.get? b=some J)
  (P:∀b B,H b=some (.tup B)->H' b=some (.tup B)) (G:∀b o u,H b=some (.frz o u)->H' b=some (.frz o u)) (L:∀b q R,H b=some (.tbl q R)->∃K,H' b=some (.tbl q (R++K)))
  (ns:∀m,s.heap.Ns X.env.locals m->h'.Ns X.env.locals m) (Y:hZ X.prog X.w H' h') (hg:AllBare g') :
  cB X ck σ H' {s with heap:=h',gens:=g',drawn:=d',toks:=t'}:=by
 have Q:∀b o,X.s₀.heap.get? b=some o->b≠X.env.locals:=λb o e=>aK (aC (aJ e) I.ok.above);have A:∀b o,X.s₀.heap.get? b=some o->b∉X.ex->b∉ch:=λb o e a E=>by
  rcases (j b E).1 with z|z
  .exact a z
  .exact absurd (aC (aJ e) z) (aY _)
 have t:∀x c,X.env.cells.lookup x=some c->∀v,s.heap.IsCell c v->h'.IsCell c v:=λx c e v ⟨o,F,Z⟩=>by
  have h:c∉ch:=λz=>(j c z).2.2.1 x c e rfl;by_cases hc:c∈X.fs
  .obtain⟨S,q⟩:=C c o (I.cne x c e) hc h F (I.freeC x c e);exact⟨_,q,Z⟩
  .exact⟨o,g c o (I.cne x c e) hc h F (I.freeC x c e),Z⟩
 refine⟨I.ok,I.os,hg,⟨λb o e n E a=>?_,λb o e n E a=>?_,λb o e n a=>?_,λb o e a=>?_,λb B e=>P b B (I.base.tups b B e),λb o B e=>G b o B (I.base.frzs b o B e),λb _ R e=>?_⟩,?_,λx c e=>?_,?_,λx c e=>?_,λp hp=>?_,Y,I.len⟩
 .exact g b o (Q b o e) E (A b o e a) (I.base.keep b o e n E a) (I.base.free b o e n a)
 .obtain⟨S,y⟩:=I.base.slot b o e n E a;obtain⟨U,N⟩:=C b _ (Q b o e) E (A b o e a) y (I.base.free b o e n a);exact⟨U,N⟩
 .obtain⟨J,y⟩:=I.base.there b o e a;exact f b J (A b o e a) y (I.base.free b o e n a)
 .obtain⟨J,y⟩:=I.base.there b o e a;exact D b J (A b o e a) y
 .obtain⟨m1,y⟩:=I.base.tbls b _ R e;obtain⟨m2,N⟩:=L b _ _ y;exact⟨m1++m2,by rw[N,a9]⟩
 .obtain⟨m,hn,hl⟩:=I.loc;refine⟨m,ns m hn,λi x v y N e3=>?_⟩;obtain⟨u,r,l⟩:=hl i x v y N e3;refine⟨u,r,?_⟩;rcases l with l|⟨k,c,e,z⟩
  .exact .inl l
  .exact .inr ⟨k,c,e,t x c e _ z⟩
 .obtain⟨v,z⟩:=I.cell x c e;exact⟨v,t x c e v z⟩
 .obtain⟨m,⟨o,_,_,F,_⟩,_⟩:=I.loc;exact f _ o (λz=>(j _ z).2.1 rfl) F I.free
 .obtain⟨v,o,F,Z⟩:=I.cell x c e;exact f c o (λz=>(j c z).2.2.1 x c e rfl) F (I.freeC x c e)
 .obtain⟨e,n,ne,nf,d⟩:=I.pin p hp;have h:p.1∉ch:=λz=>(j p.1 z).2.2.2 p hp rfl;exact⟨g p.1 p.2 ne nf h e n,f p.1 p.2 h e n,ne,nf,d⟩
def cB.un(I:cB X ck σ H s)(u:Un X.fs [] H H' s.heap h')(c:hZ X.prog X.w H' h'):cB X ck σ H' {s with heap:=h',toks:=t'}:=by obtain⟨m,⟨o,q,t,h,r⟩,_⟩:=id I.loc;obtain⟨p,k⟩:=u.any h I.free (by simp);exact I.step (ch:=[]) (λ_ z=>nomatch z) (λb o _ d _ e n=>u.keep b o e n d (by simp)) (λb o _ d _ e n=>u.slot b o e n d (by simp)) (λb o _ e n=>u.free b o e n (by simp)) (λb o _ e=>u.there b o e (by simp)) u.tups u.frzs u.tbls (λl i=>by obtain⟨v,f,g,a,j⟩:=i;rw[h]at a;cases a;exact⟨_,f,g,k,j⟩) c I.bare
def cB.call(I:cB X ck σ H s)(u:Un (fw X.stack) ch H H' s.heap h')(g:hZ X.prog X.w H' h')(v:AllBare g')
  (f:∀b∈ch,(b∈X.ex\/X.s₀.heap.objs.size<=b)/\b≠X.env.locals/\(∀x c,X.env.cells.lookup x=some c->c≠b)/\∀p∈X.pn++ck,p.1≠b) :
  cB X ck σ H' {s with heap:=h',gens:=g',drawn:=d',toks:=t'}:=by
 obtain⟨m,⟨o,B,C,k,r⟩,_⟩:=id I.loc;obtain⟨A,h⟩:=u.any k I.free λz=>(f _ z).2.1 rfl;exact I.step f (λb o h t a e n=>u.keep b o e n (λz=>(aD.mp (I.stkSub b z)).elim h t) a) (λb o _ _ a e n=>u.any e n a) (λb o a e n=>u.free b o e n a) (λb o a e=>u.there b o e a) u.tups u.frzs u.tbls (λy l=>by obtain⟨D,i,j,d,q⟩:=l;rw[k]at d;cases d;exact⟨_,i,j,h,q⟩) g v
def cB.turned(I:cB X ck σ H s)(k:∀b o,b≠it->s.heap.get? b=some o->h'.get? b=some o)(j:H it=none)(f:it≠X.env.locals)
  (A:it∈X.ex\/X.s₀.heap.objs.size<=it) (y:∀x c,X.env.cells.lookup x=some c->c≠it) (w:∀p∈X.pn++ck,p.1≠it):cB X ck σ H {s with heap:=h',toks:=t'}:=by
 have d:∀b u,H b=some u->b≠it:=λb u e z=>by rw[z,j]at e;cases e
 refine I.step (ch:=[it]) (λb t=>?_) (λb o _ _ a e _=>k b o (λz=>a (by simp[z])) e) (λb o _ _ a e _=>⟨o.slots,k b o (λz=>a (by simp[z])) e⟩) (λ_ _ _ _ n=>n)
  (λb o a e=>⟨o,k b o (λz=>a (by simp[z])) e⟩) (λ_ _ e=>e) (λ_ _ _ e=>e) (λb _ B e=>⟨#[],by rw[e];simp⟩) (λm h=>?_) (λb u e=>?_) I.bare
 .have e:b=it:=by simpa using t
  subst e;exact⟨A,f,y,w⟩
 .obtain⟨o,i,l,g,r⟩:=h;exact⟨o,i,l,k _ o (Ne.symm f) g,r⟩
 .refine (I.hok b u e).stay (λc v a q=>k c v ?_ q) (λ_ q=>q) λ_ _ q=>q;rcases a with z|z
  .rw[z];exact d b u e
  .exact d c _ z
def cB.tok(I:cB X ck σ H s) t:cB X ck σ H {s with toks:=t}:=I.un Un.refl I.hok
def cB.kept(I:cB X ck σ H s)(k:∀b u,s.heap.get? b=some u->h'.get? b=some u):cB X ck σ H {s with heap:=h',toks:=t'}:=I.un (Un.kept k) (I.hok.kept k)
def cB.laid(I:cB X ck σ H s)(k:∀b u,s.heap.get? b=some u->h'.get? b=some u)(c:s.heap.objs.size<=a)(new:eO X.prog X.w (c6 H a o) h' a o) :
  cB X ck σ (c6 H a o) {s with heap:=h',toks:=t'}:=I.un (Un.laid k c (I.hok.fresh c)) (I.hok.laid k c new)
def cB.write(I:cB X ck σ H s)(c:BD (H x))(d:e=x\/H e=some (.own x))(k:∀b u,b≠e->s.heap.get? b=some u->h'.get? b=some u)(a:∃u,h'.get? e=some u)
  (new:eO X.prog X.w (c6 H x o) h' x o):cB X ck σ (c6 H x o) {s with heap:=h',toks:=t'}:=I.un (Un.write c d k a) (I.hok.write c d k a new)
def cB.weak(I:cB X ck σ H s)(a:σ'.length=σ.length)(w:∀(i:Nat) v,σ'[i]? = some (some v)->σ[i]? = some (some v)):cB X ck σ' H s:=⟨I.ok,I.os,I.bare,I.base,let ⟨m,hn,hl'⟩:=I.loc;⟨m,hn,λi x v c d b=>hl' i x v c (w i v d) b⟩,I.cell,I.free,I.freeC,I.pin,I.hok,a.trans I.len⟩
def cB.pins_of(I:cB X ck σ H s)(h:∀p∈pins',s.heap.get? p.1=some p.2/\H p.1=none/\p.1≠X.env.locals/\p.1∉X.fs/\∀v,p.2.data≠.cell v):cB X pins' σ H s:=⟨I.ok,I.os,I.bare,I.base,I.loc,I.cell,I.free,I.freeC,λp a=>(ah.mp a).elim (λz=>I.pin p (aw _ z)) (h p),I.hok,I.len⟩
def jZ{N:List Str}(d:N.Nodup){i j:Nat}(a:N[i]? = some x)(b:N[j]? = some x):i=j:=by obtain⟨g,c⟩:=aa.mp a;obtain⟨f,e⟩:=aa.mp b;exact (List.getElem_inj d).mp (c.trans e.symm)
def je{M:Model}{A:Around}{E:Vq->Shared->Prop}{i:Nat}{x:Str}{v:V}{u:Vq}{Q:Unit->Shared->Prop}(I:cB X ck σ H s)(hN:X.N.Nodup)(Y:X.N[i]? = some x)(t:oY X.env.scope x)(r:dA v u)
  (h:∀s',cB X ck (σ.set i (some v)) H s'->(∃a,Heap.SameBut a s.heap s'.heap/\(a=X.env.locals\/X.env.cells.lookup x=some a))->Q () s') (hf:X.fn x=true\/X.env.scope.names.lookup x=some .local:=by first|exact .inl rfl|exact .inr rfl|assumption):wpAny M A (storeName X.env x u) Q E s:=by
 obtain⟨m,hn,hl⟩:=id I.loc;have U:(X.env.scope.kind==.class||(X.env.scope.kind==.module&&X.env.locals != X.env.globals))=false:=by rw[I.ok.kind];rfl
 have D:i<σ.length:=by rw[I.len];exact (aa.mp Y).1
 have cne:=I.cne;have tracked:∀{a:Addr} {h':Heap},(∃o,s.heap.get? a=some o/\H a=none)->Heap.SameBut a s.heap h'->hZ X.prog X.w H h':=λ{a h'} ha f b ob e=>by
  obtain⟨_,_,B⟩:=ha;refine (I.hok b ob e).stay (λc Z l q=>(f.2 c ?_).trans q) (λ_ q=>q) λ_ _ q=>q;rintro rfl;rcases l with rfl|l
  .rw[B]at e;cases e
  .rw[B]at l;cases l
 rcases t with F|F
 .refine wpAny_storeName_local F hn (λh' hn' f=>?_) U;obtain⟨oL,_,_,hoL,_⟩:=id hn;refine h _ ⟨I.ok,I.os,I.bare,⟨λb o e n G t=>?_,λb o e n G t=>?_,I.base.free,λb o e t=>?_,I.base.tups,I.base.frzs,I.base.tbls⟩,⟨_,hn',λj y v' g C e3=>?_⟩,λy c e=>?_,I.free,I.freeC,λp hp=>?_,tracked ⟨oL,hoL,I.free⟩ f,by simpa using I.len⟩ ⟨_,f,.inl rfl⟩
  .exact (f.2 b (aK (aC (aJ e) I.ok.above))).trans (I.base.keep b o e n G t)
  .obtain⟨sl,g⟩:=I.base.slot b o e n G t;exact⟨sl,(f.2 b (aK (aC (aJ e) I.ok.above))).trans g⟩
  .obtain⟨o',g⟩:=I.base.there b o e t;exact⟨o',(f.2 b (aK (aC (aJ e) I.ok.above))).trans g⟩
  .by_cases K:j=i
   .subst K;rw[Y]at g;cases g;rw[List.getElem?_set_self D]at C;cases C;exact⟨u,r,.inl ⟨F,by simp⟩⟩
   .rw[ao (Ne.symm K)]at C;obtain⟨u',r',q⟩:=hl j y v' g C e3;refine⟨u',r',?_⟩;rcases q with⟨k,e⟩|⟨k,c,e,z⟩
    .refine .inl ⟨k,?_⟩;have:y≠x:=λe=>K (jZ hN g (e▸Y));simp[this,e]
    .exact .inr ⟨k,c,e,z.sameBut f (cne y c e)⟩
  .obtain⟨Z,z⟩:=I.cell y c e;exact⟨Z,z.sameBut f (cne y c e)⟩
  .obtain⟨e,n,ne,nf,d⟩:=I.pin p hp;exact⟨(f.2 p.1 ne).trans e,n,ne,nf,d⟩
 .have J:X.fn x=true:=by
   rcases hf with z|z
   .exact z
   .rw[z]at F;cases F
  obtain⟨c,l⟩:=I.ok.has x (.inl F);obtain⟨Z,z⟩:=I.cell x c l;refine wpAny_storeName_cell I.ok.kind F l z (λh' L f=>?_);obtain⟨oc,R,S⟩:=id z;refine h {s with heap:=h'} ⟨I.ok,I.os,I.bare,⟨λb o e n G t=>?_,λb o e n G t=>?_,I.base.free,λb o e t=>?_,I.base.tups,I.base.frzs,I.base.tbls⟩,⟨m,hn.sameBut f (Ne.symm (cne x c l)),λj y v' g C e3=>?_⟩,λy c' e=>?_,I.free,I.freeC,λp hp=>?_,tracked ⟨oc,R,I.freeC x c l⟩ f,by simpa using I.len⟩ ⟨c,f,.inr l⟩
  .exact (f.2 b (aK (aC (aJ e) (I.ok.cab x c J l)))).trans (I.base.keep b o e n G t)
  .obtain⟨sl,g⟩:=I.base.slot b o e n G t;exact⟨sl,(f.2 b (aK (aC (aJ e) (I.ok.cab x c J l)))).trans g⟩
  .obtain⟨o',g⟩:=I.base.there b o e t;exact⟨o',(f.2 b (aK (aC (aJ e) (I.ok.cab x c J l)))).trans g⟩
  .by_cases K:j=i
   .subst K;rw[Y]at g;cases g;rw[List.getElem?_set_self D]at C;cases C;exact⟨u,r,.inr ⟨.inl F,c,l,L⟩⟩
   .rw[ao (Ne.symm K)]at C;obtain⟨u',r',q⟩:=hl j y v' g C e3;refine⟨u',r',?_⟩;rcases q with q|⟨k,c',e,z'⟩
    .exact .inl q
    .refine .inr ⟨k,c',e,z'.sameBut f ?_⟩;rintro rfl;exact K (jZ hN g (I.ok.inj _ _ _ e l▸Y))
  .by_cases P:c'=c
   .subst P;exact⟨_,L⟩
   .obtain⟨w2,z2⟩:=I.cell y c' e;exact⟨w2,z2.sameBut f P⟩
  .obtain⟨e,n,ne,nf,d⟩:=I.pin p hp;refine⟨(f.2 p.1 ?_).trans e,n,ne,nf,d⟩;intro q;rw[q,R]at e;have q':=Option.some.inj e;exact d Z (by rw[<-q'];exact S)
def jU{M:Model}{A:Around}{E:Vq->Shared->Prop}{i:Nat}{x:Str}{v:V}{u:Vq}{Q:Unit->Shared->Prop}(I:cB X ck σ H s)(c:X.N.Nodup)(d:X.N[i]? = some x)(b:oY X.env.scope x)(r:dA v u)
  (h:∀a,cB X ck (σ.set i (some v)) H a->Q () a) (f:X.fn x=true\/X.env.scope.names.lookup x=some .local:=by first|exact .inl rfl|exact .inr rfl|assumption):wpAny M A (storeName X.env x u) Q E s:=
 je I c d b r (λa e _=>h a e) f
def cB.call'(I:cB X ck σ H s)(f:s'.os=s.os)(u:Un (fw X.stack) ch H H' s.heap s'.heap)(d:hZ X.prog X.w H' s'.heap)(g:AllBare s'.gens)
  (a:∀b∈ch,(b∈X.ex\/X.s₀.heap.objs.size<=b)/\b≠X.env.locals/\(∀x c,X.env.cells.lookup x=some c->c≠b)/\∀p∈X.pn++ck,p.1≠b):cB X ck σ H' s':=by
 obtain⟨h',h,j,k,i⟩:=s';have e:=f;subst e;exact I.call u d g a
end
abbrev XK:=Value->Option Addr->Hp->Prop
abbrev St:=List (Option V)
abbrev VK:=V->Hp->Prop
abbrev TE:=St->Hp->VK->Prop
abbrev TT:=St->Hp->(Bool->Hp->Prop)->Prop
abbrev TA:=St->Hp->(List V->Hp->Prop)->Prop
structure gN where
 nx:St->Hp->Prop
 rt:VK
 bk:St->Hp->Prop:=λ_ _=>False
 ct:St->Hp->Prop:=λ_ _=>False
abbrev TS:=gN->St->Hp->Prop
def EP(X:Cx)(b:List (Addr×Obj))(d:St)(Q:VK)(u:Vq)(c:Sq):Prop:=∃v a,cB X b d a c/\dA v u/\Q v a
def TP(X:Cx)(c:List (Addr×Obj))(e:St)(Q:Bool->Hp->Prop)(b:Bool)(d:Sq):Prop:=∃a,cB X c e a d/\Q b a
def AP(X:Cx)(c:List (Addr×Obj))(e:St)(Q:List V->Hp->Prop)(f:List Vq)(d:Sq):Prop:=∃b a,cB X c e a d/\cO b f/\Q b a
def SP(X:Cx)(d:List (Addr×Obj))(D:gN)(f:Flow)(c:Sq):Prop:=
 match f with
 |.next=>∃a b,cB X d a b c/\D.nx a b
 |.brk=>∃a b,cB X d a b c/\D.bk a b
 |.cont=>∃a b,cB X d a b c/\D.ct a b
 |.ret u=>∃v a b,cB X d a b c/\dA v u/\D.rt v b
def PE(X:Cx)(e:Expr)(t:TE):Prop:=∀(b:List (Addr×Obj)) (s:Sq) (a:St) (H:Hp) (Q:VK),cB X b a H s->t a H Q->wpAny (model X.prog X.w) X.A (eval e X.env) (EP X b a Q) X.xe s
def PT(X:Cx)(e:Expr)(t:TT):Prop:=∀(b:List (Addr×Obj)) (s:Sq) (a:St) (H:Hp) (Q:Bool->Hp->Prop),cB X b a H s->t a H Q->wpAny (model X.prog X.w) X.A (isTrue e X.env (eval e X.env)) (TP X b a Q) X.xe s
def PW(X:Cx)(e:Expr)(t:TT):Prop:=∀(a:Sem Vq) (c:List (Addr×Obj)) (s:Sq) (b:St) (H:Hp) (Q:Bool->Hp->Prop),cB X c b H s->t b H Q->wpAny (model X.prog X.w) X.A (isTrue e X.env a) (TP X c b Q) X.xe s
def PW.pt(h:PW X e t):PT X e t:=h _
def PA(X:Cx)(d:List Expr)(t:TA):Prop:=∀(a:Pos) (c:List (Addr×Obj)) (s:Sq) (b:St) (H:Hp) (Q:List V->Hp->Prop),cB X c b H s->t b H Q->wpAny (model X.prog X.w) X.A (spliced (backTo a (starEach d X.env))) (AP X c b Q) X.xe s
def PS(X:Cx)(st:Stmt)(t:TS):Prop:=∀(a:List (Addr×Obj)) (s:Sq) (b:St) (H:Hp) (D:gN),cB X a b H s->t D b H->wpAny (model X.prog X.w) X.A (exec st X.env) (SP X a D) X.xe s
def kq(X:Cx)(st:List Stmt)(t:TS):Prop:=∀(a:List (Addr×Obj)) (s:Sq) (b:St) (H:Hp) (D:gN),cB X a b H s->t D b H->wpAny (model X.prog X.w) X.A (execs st X.env) (SP X a D) X.xe s
def dB{c:Type}{t:Sem c}{Q b:c->Shared->Prop}{M:Model}{A:Around}{E:Vq->Shared->Prop}{s:Sq}(h:wpAny M A t Q E s)(d:∀a s,Q a s->b a s):wpAny M A t b E s:=wpAny_mono h d λ_ _ x=>x
end L2
namespace L2
open PySem PySem.Spec PyProof.Rows
section
variable {X:Cx}
def hI(i:Nat):TE:=λa H Q=>∃v,a[i]? = some (some v)/\Q v H
def tC(v:V):TE:=λ_ H Q=>Q v H
def yz(t:X.N[i]? = some x)(q:AD X.env.scope x)(f:(x==("__debug__" : Str))=false:=by decide)(g:(x==("__classdict__" : Str))=false:=by decide):PE X (.Name x pos) (hI i):=by
 intro w s p H Q I h;obtain⟨v,e,h⟩:=h;obtain⟨m,o,k⟩:=I.loc;obtain⟨u,r,l⟩:=k i x v t e q;have b:EP X w p Q u s:=⟨v,H,I,r,h⟩;rcases l with⟨d,n⟩|⟨d,c,j,a⟩
 .exact wpAny_Name (wpAny_loadName_local I.ok.kind d o n b) f
 .rcases d with d|d
  .exact wpAny_Name (wpAny_loadName_cell I.ok.kind d j a b) f
  .exact wpAny_Name (wpAny_loadName_free I.ok.kind d j a b g) f
def yy{i j pos}:PE X (.Constant (.int i) j pos) (tC (.int i)):=λ_ _ _ H _ I h=>wpAny_Constant_int ⟨.int i,H,I.tok _,⟨_,rfl⟩,h⟩
def AV{b j pos}:PE X (.Constant (.bool b) j pos) (tC (.bl b)):=λ_ _ _ H _ I h=>Constant_bool ⟨.bl b,H,I,rfl,h⟩
def yu{j pos}:PE X (.Constant .none j pos) (tC .non):=λ_ _ _ H _ I h=>Constant_none ⟨.non,H,I,rfl,h⟩
def mK{x j pos}:PE X (.Constant (.str x) j pos) (tC (.str x)):=λ_ _ _ H _ I h=>Calls.Constant_str ⟨.str x,H,I.tok _,⟨_,rfl⟩,h⟩
def Gl(X:Cx)(x:Str):Prop:=X.env.kindOf x=some .globalImplicit
def hW(I:cB X ck σ H s)(c:Gl X x)(b:X.mg x=some u)(h:Q u s)
  (a:(x==("__debug__" : Str))=false:=by decide):wpAny (model X.prog X.w) X.A (eval (.Name x pos) X.env) Q E s:=
 Calls.Name_function_global I.ok.kind c (Calls.loadGlobal_global (by rw[I.ok.glob];exact I.mod.glob.keeps I.bk) b h) a
def jP(I:cB X ck σ H s)(g:Gl X x)(d:X.mg x=none)(a:bootBuiltins x=some u)(h:Q u s)
  (b:x≠ "__name__" :=by decide) (c:(x==("__debug__" : Str))=false:=by decide):wpAny (model X.prog X.w) X.A (eval (.Name x pos) X.env) Q E s:=by
 obtain⟨i,f,e⟩:=I.mod.blt;exact Calls.Name_function_global I.ok.kind g (Calls.loadGlobal_builtin (by rw[I.ok.glob];exact I.mod.glob.keeps I.bk) d (by rw[I.ok.blt];exact f.keeps I.bk) ((e x b).trans a) h) c
def ei(c:Gl X x)(b:X.mg x=some u)(r:dA v u)(a:(x==("__debug__" : Str))=false:=by decide):PE X (.Name x pos) (tC v):=λ_ _ _ H _ I h=>hW I c b ⟨v,H,I,r,h⟩ a
def pT(e:Gl X x)(c:X.mg x=none)(a:bootBuiltins x=some u)(r:dA v u)(d:x≠ "__name__" :=by decide)(b:(x==("__debug__" : Str))=false:=by decide):PE X (.Name x pos) (tC v):=λ_ _ _ H _ I h=>jP I e c a ⟨v,H,I,r,h⟩ d b
variable {a b:Expr}{ta tb:TE}{pos:Pos}
def tB(t:TE):TT:=λe H Q=>t e H λx d=>∃c,x=.bl c/\Q c d
def iE(h:PE X e t)(i:∀c,isTrue e X.env c=(do let v <-c;standAt e.pos;holding [v] (truthy v)):=by intro _;rfl):PT X e (tB t):=by intro f s g H Q I hw;refine isTrue_plain (dB (h f s g H _ I hw) λv s1 ⟨x,H1,I1,r1,q1⟩=>?_) (i _);obtain⟨d,rfl,q⟩:=q1;cases r1;exact wpAny_truthy_bool ⟨H1,I1,q⟩
variable {tA tB':TT}{c8:List Expr}
def ue(t u:TT):TT:=λe H Q=>t e H λc d=>if c=true then u e d Q else Q false d
def B3(t u:TT):TT:=λe H Q=>t e H λc d=>if c=true then Q true d else u e d Q
def xl(t:TT):TT:=λe H Q=>t e H λc d=>Q (!c) d
def mJ(f:PT X a tA):PW X (.BoolOp .And [a] pos) tA:=by
 intro i d s g H Q I h;refine isTrue_and (dB (f d s g H Q I h) λc j e=>?_);cases c with
 |true=>exact isTrue_and_nil e
 |false=>exact e
def zk(f:PT X a tA):PW X (.BoolOp .Or [a] pos) tA:=by
 intro i d s g H Q I h;refine isTrue_or (dB (f d s g H Q I h) λc j e=>?_);cases c with
 |false=>exact isTrue_or_nil e
 |true=>exact e
def j9(i:PT X a tA)(f:PW X (.BoolOp .And (b::c8) pos) tB'):PW X (.BoolOp .And (a::b::c8) pos) (ue tA tB'):=by
 intro g d s e H Q I h;refine isTrue_and (dB (i d s e H _ I h) λc s1 ⟨H1,I1,q1⟩=>?_);cases c with
 |true=>exact f g d s1 e H1 Q I1 q1
 |false=>exact⟨H1,I1,q1⟩
def An(i:PT X a tA)(f:PW X (.BoolOp .Or (b::c8) pos) tB'):PW X (.BoolOp .Or (a::b::c8) pos) (B3 tA tB'):=by
 intro g d s e H Q I h;refine isTrue_or (dB (i d s e H _ I h) λc s1 ⟨H1,I1,q1⟩=>?_);cases c with
 |true=>exact⟨H1,I1,q1⟩
 |false=>exact f g d s1 e H1 Q I1 q1
def ki(f:PT X a tA):PT X (.UnaryOp .Not a pos) (xl tA):=by intro e s g H Q I h;exact isTrue_not (f e s g H (λc d=>Q (!c) d) I h)
def tN(ta tb:TE):TE:=λe H Q=>ta e H λx d=>∃c,x=.bl c/\if c=true then tb e d Q else Q (.bl false) d
def wc(ta tb:TE):TE:=λe H Q=>ta e H λx d=>∃c,x=.bl c/\if c=true then Q (.bl true) d else tb e d Q
def qu(ta:TE):TE:=λe H Q=>ta e H λx d=>∃c,x=.bl c/\Q (.bl (!c)) d
def sM{op}(h:PE X a t):PE X (.BoolOp op [a] pos) t:=λc s d H Q I hw=>BoolOp_one (h c s d H Q I hw)
def zy(i:PE X a ta)(g:PE X (.BoolOp .And (b::c8) pos) tb):PE X (.BoolOp .And (a::b::c8) pos) (tN ta tb):=by
 intro e s f H Q I h;refine BoolOp_and (dB (i e s f H _ I h) λv s1 ⟨x,H1,I1,r1,d⟩=>?_);obtain⟨c,rfl,d⟩:=d;cases r1;refine wpAny_truthy_bool ?_;cases c with
 |true=>exact g e s1 f H1 Q I1 d
 |false=>exact⟨.bl false,H1,I1,rfl,d⟩
def xD(i:PE X a ta)(g:PE X (.BoolOp .Or (b::c8) pos) tb):PE X (.BoolOp .Or (a::b::c8) pos) (wc ta tb):=by
 intro e s f H Q I h;refine BoolOp_or (dB (i e s f H _ I h) λv s1 ⟨x,H1,I1,r1,d⟩=>?_);obtain⟨c,rfl,d⟩:=d;cases r1;refine wpAny_truthy_bool ?_;cases c with
 |false=>exact g e s1 f H1 Q I1 d
 |true=>exact⟨.bl true,H1,I1,rfl,d⟩
def rZ(f:PE X a ta):PE X (.UnaryOp .Not a pos) (qu ta):=by intro e s g H Q I h;refine UnaryOp_ (dB (f e s g H _ I h) λv s1 ⟨x,H1,I1,r1,d⟩=>?_);obtain⟨c,rfl,d⟩:=d;cases r1;exact not_of (wpAny_truthy_bool ⟨.bl (!c),H1,I1,rfl,d⟩)
def BQ(t:TT)(ta tb:TE):TE:=λd H Q=>t d H λc e=>if c=true then ta d e Q else tb d e Q
def ny(i:PT X c tA)(j:PE X a ta)(g:PE X b tb):PE X (.IfExp c a b pos) (BQ tA ta tb):=by
 intro e s f H Q I h;refine wpAny_IfExp (dB (i e s f H _ I h) λd s1 ⟨H1,I1,q1⟩=>?_);cases d with
 |true=>exact j e s1 f H1 Q I1 q1
 |false=>exact g e s1 f H1 Q I1 q1
end
end L2
namespace L2
open PySem PySem.Spec PyProof.Rows
def fX(K:W.Frag)(H:Hp)(a:Addr)(c:List V):Prop:=
 Rd H a (.lst c)\/
  ∃(o:Obj) (b:Array Vq) (n:Nat),K.lookup a=some o/\o.cls=.type "list" /\o.dict=none/\o.data=.seq b n/\b.size<=sizeLine/\cO c b.toList
def fY(K:W.Frag)(H:Hp)(a:Addr)(c:List V):Prop:=
 Rd H a (.tup c)\/
  ∃(o:Obj) (b:Array Vq) (n:Nat),K.lookup a=some o/\o.cls=.type "tuple" /\o.data=.seq b n/\b.size<=sizeLine/\cO c b.toList
def CZ:Vq->Option V
 |.none=>some .non
 |.bool b=>some (.bl b)
 |.int i _=>some (.int i)
 |.str x _=>some (.str x)
 |.bytes b _=>some (.byt b)
 |.float b _=>some (.flt b)
 |.ref a=>some (.ref a)
 |.type n=>some (.ty n)
 |_=>none
def dA.abs(r:dA x u):CZ u=some x:=by
 cases x with
 |non=>cases r;rfl
 |bl _=>cases r;rfl
 |int _=>obtain⟨t,rfl⟩:=r;rfl
 |str _=>obtain⟨t,rfl⟩:=r;rfl
 |byt _=>obtain⟨t,rfl⟩:=r;rfl
 |flt _=>obtain⟨t,rfl⟩:=r;rfl
 |ref _=>cases r;rfl
 |ty _=>cases r;rfl
def dA.inj(r:dA x u)(q:dA y u):x=y:=Option.some.inj (r.abs.symm.trans q.abs)
theorem cO.inj:∀{xs ys} {us},cO xs us->cO ys us->xs=ys
 |_,_,_,.nil,.nil=>rfl
 |_,_,_,.cons r t,.cons r' t'=>by rw[r.inj r',cO.inj t t']
section
variable {X:Cx}{ck:List (Addr×Obj)}{σ:St}{H:Hp}{s:Sq}{a:Addr}{xs ys:List V}
def fX.of{K:W.Frag}(h:H a=some (.lst xs)):fX K H a xs:=.inl (.inl h)
def fY.of{K:W.Frag}(h:H a=some (.tup xs)):fY K H a xs:=.inl (.inl h)
def cB.list(I:cB X ck σ H s)(h:fX X.K H a xs):∃its:List Vq,cO xs its/\PlainL s.heap a its.toArray/\xs.length<=sizeLine:=by
 rcases h with h|⟨o,its,n,d,f,c,b,g,r⟩
 .obtain⟨z,its,n,r,e⟩:=h.ok I.hok;exact⟨its,r,⟨_,n,e,rfl,rfl,rfl⟩,z⟩
 .refine⟨its.toList,r,⟨o,n,I.kIn a o d,f,c,by simpa using b⟩,?_⟩;have e:=r.length;simp only[bh]at e;omega
def cB.tuple(I:cB X ck σ H s)(h:fY X.K H a xs):∃its:List Vq,cO xs its/\IsTup s.heap a its.toArray/\xs.length<=sizeLine:=by
 rcases h with h|⟨o,its,n,c,d,b,f,r⟩
 .obtain⟨z,its,r,p⟩:=h.ok I.hok;exact⟨its,r,p.tup,z⟩
 .refine⟨its.toList,r,⟨o,I.kIn a o c,d,n,by simpa using b⟩,?_⟩;have e:=r.length;simp only[bh]at e;omega
def cB.list_inj(I:cB X ck σ H s)(h:fX X.K H a xs)(h':fX X.K H a ys):xs=ys:=by
 obtain⟨c,r,⟨o,n,e,_,_,d⟩,_⟩:=I.list h;obtain⟨b,i,⟨k,l,g,_,_,f⟩,_⟩:=I.list h';rw[e]at g;cases g;rw[d]at f;injection f with j _;have:c=b:=by simpa using congrArg Array.toList j
 subst this;exact r.inj i
def cB.tuple_inj(I:cB X ck σ H s)(h:fY X.K H a xs)(h':fY X.K H a ys):xs=ys:=by
 obtain⟨c,r,⟨o,e,_,n,d⟩,_⟩:=I.tuple h;obtain⟨b,i,⟨k,g,_,l,f⟩,_⟩:=I.tuple h';rw[e]at g;cases g;rw[d]at f;injection f with j _;have:c=b:=by simpa using congrArg Array.toList j
 subst this;exact r.inj i
end
noncomputable abbrev Cx.wish(X:Cx)(E:Vq->Shared->Prop):Cx:={X with xe:=E}
abbrev Cx.nox(X:Cx):Cx:=X.wish λ_ _=>False
def Cx.Ok.wish{X:Cx}(ok:X.Ok) E:(X.wish E).Ok:=⟨ok.mod,ok.kind,ok.glob,ok.blt,ok.above,ok.inj,ok.has,ok.cab,ok.hd,ok.frames,ok.stk,ok.exf,ok.bs,ok.bsz,ok.noex,ok.exfs,ok.funs,ok.frf,ok.tab⟩
def Cx.Ok.unwish{X:Cx}(ok:(X.wish E).Ok):X.Ok:=⟨ok.mod,ok.kind,ok.glob,ok.blt,ok.above,ok.inj,ok.has,ok.cab,ok.hd,ok.frames,ok.stk,ok.exf,ok.bs,ok.bsz,ok.noex,ok.exfs,ok.funs,ok.frf,ok.tab⟩
section
variable {X:Cx}{ck:List (Addr×Obj)}{σ:St}{H:Hp}{s:Sq}{E:Vq->Shared->Prop}
def cB.wish(I:cB X ck σ H s) E:cB (X.wish E) ck σ H s:=⟨I.ok.wish E,I.os,I.bare,I.base,I.loc,I.cell,I.free,I.freeC,I.pin,I.hok,I.len⟩
def cB.unwish(I:cB (X.wish E) ck σ H s):cB X ck σ H s:=⟨I.ok.unwish,I.os,I.bare,I.base,I.loc,I.cell,I.free,I.freeC,I.pin,I.hok,I.len⟩
def SP.unwish(h:SP (X.wish E) ck D f s'):SP X ck D f s':=by
 cases f with
 |next=>obtain⟨a,b,I,q⟩:=h;exact⟨a,b,I.unwish,q⟩
 |brk=>obtain⟨a,b,I,q⟩:=h;exact⟨a,b,I.unwish,q⟩
 |cont=>obtain⟨a,b,I,q⟩:=h;exact⟨a,b,I.unwish,q⟩
 |ret u=>obtain⟨v,a,b,I,r,q⟩:=h;exact⟨v,a,b,I.unwish,r,q⟩
def kq.nox{st:List Stmt}(h:kq X.nox st t):kq X st t:=λck s σ H D I hw=>wpAny_mono (h ck s σ H D (I.wish _) hw) (λ_ _ q=>q.unwish) λ_ _ z=>False.elim z
end
section
variable {X:Cx}{st:Stmt}{c8:List Stmt}{t u:TS}{e:Expr}{te:TE}{pos:Pos}
def qy:TS:=λD a H=>D.nx a H
def l6(t u:TS):TS:=λD a H=>t {D with nx:=u D} a H
def pH:kq X [] qy:=λ_ _ a H _ I h=>wpAny_execs_nil ⟨a,H,I,h⟩
def gq(i:PS X st t)(d:kq X c8 u):kq X (st::c8) (l6 t u):=by
 intro b s g H D I h;refine wpAny_execs_cons (dB (i b s g H {D with nx:=u D} I h) λf k q=>?_);cases f with
 |next=>obtain⟨a,j,c,q⟩:=q;exact d b k a j D c q
 |ret v=>exact q
 |brk=>exact q
 |cont=>exact q
def iI(c:PS X st t):kq X [st] t:=by
 intro a s b H D I h;refine wpAny_execs_cons (dB (c a s b H D I h) λf d q=>?_);cases f with
 |next=>exact wpAny_execs_nil q
 |ret v=>exact q
 |brk=>exact q
 |cont=>exact q
def cB.quiet(I:cB X ck σ H s):interactive X.env=false:=by simp[interactive,I.ok.kind]
def nN(te:TE):TS:=λD a H=>te a H λ_ b=>D.nx a b
def qb(d:PE X e te)(b:swapsWith e none pos.line X.env=pure false:=by rfl):PS X (.Expr e pos) (nN te):=by intro c s a H D I h;exact wpAny_Expr_any (dB (d c s a H _ I h) λv s1 ⟨x,H1,I1,r1,q1⟩=>⟨a,H1,I1,q1⟩) I.quiet b
def tz(te:TE):TS:=λD a H=>te a H D.rt
def sP(c:PE X e te):PS X (.Return (some e) pos) (tz te):=by intro b s a H D I h;exact wpAny_Return_some (dB (c b s a H _ I h) λv s1 ⟨x,H1,I1,r1,q1⟩=>⟨x,a,H1,I1,r1,q1⟩)
def wx(c:TT)(t u:TS):TS:=λD a H=>c a H λb d=>if b=true then t D a d else u D a d
def xH(j:PT X c tc)(k:kq X a t)(i:kq X b u):PS X (.If c a b pos) (wx tc t u):=by
 intro f s g H D I h;refine wpAny_If (dB (j f s g H _ I h) λd s1 ⟨H1,I1,q1⟩=>?_);cases d with
 |true=>exact k f s1 g H1 D I1 q1
 |false=>exact i f s1 g H1 D I1 q1
end
abbrev TG:=V->St->Hp->(St->Hp->Prop)->Prop
abbrev xV:=List V->St->Hp->(St->Hp->Prop)->Prop
def PG(X:Cx)(target:Expr)(t:TG):Prop:=
 ∀(b:List (Addr×Obj)) (s:Sq) (c:St) (H:Hp) (v:V) (u:Vq) (Q:St->Hp->Prop),cB X b c H s->dA v u->t v c H Q->
  wpAny (model X.prog X.w) X.A (assign target X.env u) (λ_ e=>∃a d,cB X b a d e/\Q a d) X.xe s
def Bc(X:Cx)(h:List Expr)(t:xV):Prop:=
 ∀(b:List (Addr×Obj)) (s:Sq) (d:St) (H:Hp) (f:List V) (c:List Vq) (Q:St->Hp->Prop),cB X b d H s->cO f c->t f d H Q->
  wpAny (model X.prog X.w) X.A (assignInOrder ((assignEach h X.env).map (·.2)) c) (λ_ g=>∃a e,cB X b a e g/\Q a e) X.xe s
section
variable {X:Cx}{pos:Pos}
def dI(i:Nat):TG:=λv a H Q=>Q (a.set i (some v)) H
def qh(b:X.N.Nodup)(c:X.N[i]? = some x)(a:oY X.env.scope x)(e:X.fn x=true\/X.env.scope.names.lookup x=some .local:=by first|exact .inl rfl|exact .inr rfl|assumption):PG X (.Name x pos) (dI i):=by intro g s j H v u Q I r h;exact wpAny_assign_Name (jU I b c a r (λf d=>⟨_,H,d,h⟩) e)
def vo:xV:=λa b H Q=>a=[]/\Q b H
def m3(t:TG)(u:xV):xV:=λd b H Q=>∃v r,d=v::r/\t v b H λa c=>u r a c Q
def wb:Bc X [] vo:=by intro b s a H d c Q I r h;obtain⟨e,h⟩:=h;subst e;cases r;exact assignInOrder_nil ⟨a,H,I,h⟩
theorem r0(f:PG X e t)(d:Bc X es u)
  (b:(assignEach (e::es) X.env).map (·.2)=assign e X.env::(assignEach es X.env).map (·.2):=by rfl):Bc X (e::es) (m3 t u):=by
 intro a s g H k j Q I r h;obtain⟨v,i,c,h⟩:=h;subst c;cases r with
 |cons r rr=>rw[b];refine assignInOrder_cons (dB (f a s g H _ _ _ I r h) λ_ s1 ⟨σ1,H1,I1,q1⟩=>?_);exact d a s1 σ1 H1 _ _ Q I1 rr q1
def wN(K:W.Frag)(n:Nat)(t:xV):TG:=λv c H Q=>∃a b,v=.ref a/\fY K H a b/\b.length=n/\t b c H Q
def yI(p:X.calm=true)(h:Bc X es t)
  (j:(assignEach es X.env).length=n:=by rfl) (c:(assignEach es X.env).findIdx? (·.1)=none:=by rfl):PG X (.Tuple es k pos) (wN X.K n t):=by
 intro w s q H v u Q I r hw;obtain⟨a,i,g,x,f,hw⟩:=hw;subst g;cases r;obtain⟨z,d,m,B⟩:=I.tuple x;refine assign_Tuple_tuple (I.ok.hd p) m (by simp[j,<-f,d.length]) c λA y=>?_;have l:=I.kept (t':=s.toks) λb o e=>y b o (aK (aJ e)) e;exact h w _ q H i _ Q l (by simpa using d) hw
def ik(c:TE)(g:TG):TS:=λD a H=>c a H λx b=>g x a b D.nx
def jR(c:X.N.Nodup)(d:X.N[i]? = some x)(b:oY X.env.scope x)(j:PE X e te)(a:swapsWith e (some (.Name x pos')) pos.line X.env=pure false:=by rfl)(l:X.fn x=true\/X.env.scope.names.lookup x=some .local:=by first|exact .inl rfl|exact .inr rfl|assumption) :
  PS X (.Assign [.Name x pos'] e pos) (ik te (dI i)):=by
 intro f s g H D I h;refine wpAny_Assign_Name (dB (j f s g H _ I h) λv s1 ⟨y,H1,I1,r1,q1⟩=>?_) a;exact jU I1 c d b r1 (λm k=>⟨_,H1,k,q1⟩) l
end
section
variable {X:Cx}{pos:Pos}
def pD(c:TT)(h:TS):TS:=λD a H=>∃W:Nat->St->Hp->Prop,(∃m,W m a H)/\∀m a H,W m a H->
 c a H λb e=>if b=true then ∃N:St->Hp->Prop,(∀d g,N d g->∃f,f<m/\W f d g)/\h {D with nx:=N,ct:=N,bk:=D.nx} a e else D.nx a e
def ud(t:PassesOwn (model X.prog X.w) X.A X.env X.xe)(F:PT X c tc)(J:kq X body tb):PS X (.While c body [] pos) (pD tc tb):=by
 intro q s G H D I h;obtain⟨W,⟨z,K⟩,e⟩:=h;refine wpAny_While (codeAny_whileLoop (λn E=>∃i y,cB X q i y E/\W n i y) ?_ z ⟨G,H,I,K⟩);rintro n B ⟨d,u,C,L⟩;refine wpAny_passesOwn t (dB (F q B d u _ C (e n d u L)) λb s2 ⟨H2,I2,k⟩=>?_);cases b with
 |true=>
  obtain⟨N,x,k⟩:=k;rw[aO rfl];refine wpAny_passesOwn t (dB (J q s2 d H2 _ I2 k) λf P j=>?_);cases f with
  |next=>obtain⟨a,g,r,o⟩:=j;obtain⟨l,m,p⟩:=x a g o;exact⟨l,m,a,g,r,p⟩
  |cont=>obtain⟨a,g,r,o⟩:=j;obtain⟨l,m,p⟩:=x a g o;exact⟨l,m,a,g,r,p⟩
  |brk=>exact j
  |ret v=>exact j
 |false=>rw[aP aF];exact wpAny_execs_nil ⟨d,H2,I2,k⟩
end
structure It where
 go:Nat->Hp->Prop
 yld:Nat->Hp->V->Hp->Prop
 stop:Nat->Hp->Prop
def gZ(X:Cx)(a:List (Addr×Obj))(H:Hp)(b:Addr):Prop:=H b=none/\b≠X.env.locals/\b∉X.fs/\(b∈X.ex\/X.s₀.heap.objs.size<=b)/\(∀x c,X.env.cells.lookup x=some c->c≠b)/\∀p∈X.pn++a,p.1≠b
def cB.fpOk(I:cB X ck σ H s)(a:s.heap.objs.size<=b)(f:H' b=none):gZ X ck H' b:=by
 refine⟨f,bj (aC I.lt a),I.nofs a,.inr (aL I.sz a),λx c e z=>?_,λp d z=>?_⟩
 .obtain⟨v,q⟩:=I.cell x c e;exact absurd (aC q.lt (by rw[z];exact a)) (aY _)
 .exact absurd (aC (aJ (I.pin p d).1) (by rw[z];exact a)) (aY _)
structure oa(P:Program)(w:World)(K:W.Frag)(tg:Expr)(J:It)(fp:List Addr)(it:Addr)(tn:Nat->Heap->Prop):Prop where
 mem:it∈fp
 obj:∀i h,tn i h->∀b∈fp,∃o,h.get? b=some o/\∀v,o.data≠.cell v
 keep:∀i h h',tn i h->(∀b∈fp,∀o,h.get? b=some o->h'.get? b=some o)->tn i h'
 item:∀(X:Cx),X.prog=P->X.w=w->X.K=K->X.calm=true->∀(i:Nat) (ck:List (Addr×Obj)) (s:Sq) (σ:St) (H:Hp) (E:Vq->Shared->Prop),cB X ck σ H s->(∀b∈fp,gZ X ck H b)->tn i s.heap->J.go i H->
  wpAny (model P w) X.A (pyNext (.ref it)) (λr s1=>∃u,r=some u/\
   wpAny (model P w) X.A (letOwnedTupleGo tg (.ref it) u) (λ_ s2=>∃x H',cB X ck σ H' s2/\dA x u/\J.yld i H x H'/\tn (i+1) s2.heap/\∀b∈fp,H' b=none) E s1) E s
 done:∀(X:Cx),X.prog=P->X.w=w->X.K=K->X.calm=true->∀(i:Nat) (ck:List (Addr×Obj)) (s:Sq) (σ:St) (H:Hp) (E:Vq->Shared->Prop),cB X ck σ H s->(∀b∈fp,gZ X ck H b)->tn i s.heap->J.stop i H->
  wpAny (model P w) X.A (pyNext (.ref it)) (λr s1=>r=none/\cB X ck σ H s1) E s
 self:∀(A:Around) (i:Nat) (s:Sq) (Q:Vq->Shared->Prop) (E:Vq->Shared->Prop),tn i s.heap->Q (.ref it) s->wpAny (model P w) A (pyIter (.ref it)) Q E s
abbrev TI:=St->Hp->(It->Hp->Prop)->Prop
def Da(X:Cx)(e:List (Addr×Obj))(i:St)(h:Expr)(R:It->Hp->Prop)(a:Vq)(g:Sq):Prop:=∃(it:Addr) (d:List Addr) (f:Nat->Heap->Prop) (J:It) (c:Hp),a=.ref it/\cB X e i c g/\oa X.prog X.w X.K h J d it f/\f 0 g.heap/\(∀b∈d,gZ X e c b)/\R J c
def PI(X:Cx)(e a:Expr)(d:TI):Prop:=
 ∀(c:List (Addr×Obj)) (s:Sq) (b:St) (H:Hp) (R:It->Hp->Prop),cB X c b H s->d b H R->
  wpAny (model X.prog X.w) X.A (eval a X.env) (λv f=>wpAny (model X.prog X.w) X.A (pyIter v) (Da X c b e R) X.xe f) X.xe s
theorem pI{M:Model}{A:Around}{E:Vq->Shared->Prop}{s:Sq}{b:Expr}{it:Addr}{u:Vq}{o:Obj}{n:String}{c:Array Vq}{Q:Unit->Shared->Prop}(d:s.heap.get? it=some o)(e:o.cls=.type n)(f:o.data=.fields c)
    (g:["enumerate", "zip", "dict_itemiterator", "dict_reverseitemiterator", "odict_iterator", "itertools.zip_longest", "itertools.pairwise"].contains n=false) (a:Q () s):wpAny M A (letOwnedTupleGo b (.ref it) u) Q E s:=by
  unfold letOwnedTupleGo;cases b<;>first
    |exact aj a
    | (cases u<;>first
        |exact aj a
        | (refine ak (wpAny_load d ?_)
           rw[e,f]
           show wpAny M A (if (["enumerate", "zip", "dict_itemiterator", "dict_reverseitemiterator", "odict_iterator", "itertools.zip_longest", "itertools.pairwise"].contains n&&c[0]? == some (rawInt _))=true then _ else _) Q E s
           rw[aP (by intro h;rw[g,Bool.false_and]at h;cases h)]
           exact aj a))
noncomputable def Cy(K:W.Frag)(a:Addr):It:=⟨λi H=>∃b x,fX K H a b/\b[i]? = some x,λi H x c=>c=H/\∀b,fX K H a b->b[i]? = some x,λi H=>∃b,fX K H a b/\b.length<=i⟩
noncomputable def Ct(K:W.Frag)(a:Addr):It:=⟨λi H=>∃b x,fY K H a b/\b[i]? = some x,λi H x c=>c=H/\∀b,fY K H a b->b[i]? = some x,λi H=>∃b,fY K H a b/\b.length<=i⟩
noncomputable def Ao(b:Int)(n:Nat):It:=⟨λi _=>i<n,λi H x a=>a=H/\x=.int (b+i),λi _=>n<=i⟩
def rK{K:W.Frag} a it:oa P w K tg (Cy K a) [it] it (λi h=>h.IsListIter it a i) where
 mem:=by simp
 obj:=λi h f b g=>by
  have e:b=it:=by simpa using g
  subst e;obtain⟨o,e,c,d⟩:=f;exact⟨o,e,λv z=>by rw[d]at z;cases z⟩
 keep:=λi h J f k=>f.at λo e=>k it (by simp) o e
 item:=by intro X y hw t L i ck s Z H E I l f G;subst y hw t;obtain⟨R,x,m,B⟩:=G;obtain⟨F,r,p,Q⟩:=I.list m;obtain⟨u,hu,ru⟩:=r.get B;obtain⟨D,A,Y,C,n,q⟩:=l it (by simp);refine wpAny_pyNext_list_item f p.isList (by simpa using hu) λJ j S=>?_;have U:=I.turned (t':=s.toks) (λb o g e=>(S.2 b g).trans e) D A C n q;obtain⟨o,e,c,d⟩:=id j;exact⟨u,rfl,pI e c d (by decide) ⟨x,H,U,ru,⟨rfl,λys N=>by rw[I.list_inj N m];exact B⟩,j,λb g=>(l b g).1⟩⟩
 done:=by intro X y hw t L i ck s Z H E I l f G;subst y hw t;obtain⟨R,m,B⟩:=G;obtain⟨F,r,p,Q⟩:=I.list m;obtain⟨D,A,Y,C,n,q⟩:=l it (by simp);have hl:=r.length;exact wpAny_pyNext_list_end (I.ok.hd L) f p.isList (by simp;omega) λJ eb=>⟨rfl,I.turned (λb o g e=>eb b o g e) D A C n q⟩
 self:=λ_ _ _ _ _ f h=>wpAny_pyIter_listiter f h
def pF{K:W.Frag} a it:oa P w K tg (Ct K a) [it] it (λi h=>h.IsTupleIter it a i) where
 mem:=by simp
 obj:=λi h f b g=>by
  have e:b=it:=by simpa using g
  subst e;obtain⟨o,e,c,d⟩:=f;exact⟨o,e,λv z=>by rw[d]at z;cases z⟩
 keep:=λi h J f k=>f.at λo e=>k it (by simp) o e
 item:=by intro X y hw t L i ck s Z H E I l f G;subst y hw t;obtain⟨R,x,m,B⟩:=G;obtain⟨F,r,p,Q⟩:=I.tuple m;obtain⟨u,hu,ru⟩:=r.get B;obtain⟨D,A,Y,C,n,q⟩:=l it (by simp);refine wpAny_pyNext_tuple_item f (p) (by simpa using hu) λJ j S=>?_;have U:=I.turned (t':=s.toks) (λb o g e=>(S.2 b g).trans e) D A C n q;obtain⟨o,e,c,d⟩:=id j;exact⟨u,rfl,pI e c d (by decide) ⟨x,H,U,ru,⟨rfl,λys N=>by rw[I.tuple_inj N m];exact B⟩,j,λb g=>(l b g).1⟩⟩
 done:=by intro X y hw t L i ck s Z H E I l f G;subst y hw t;obtain⟨R,m,B⟩:=G;obtain⟨F,r,p,Q⟩:=I.tuple m;obtain⟨D,A,Y,C,n,q⟩:=l it (by simp);have hl:=r.length;exact wpAny_pyNext_tuple_end (I.ok.hd L) f (p) (by simp;omega) λJ eb=>⟨rfl,I.turned (λb o g e=>eb b o g e) D A C n q⟩
 self:=λ_ _ _ _ _ f h=>wpAny_pyIter_tupleiter f h
def pC{K:W.Frag} it lo n:oa P w K tg (Ao lo n) [it] it (λi h=>IsRangeIter h it (lo+(i:Nat)*1) ((n:Int)-(i:Nat)) 1) where
 mem:=by simp
 obj:=λi h a b c=>by
  have e:b=it:=by simpa using c
  subst e;exact⟨_,a,λv z=>by have N:=z;cases N⟩
 keep:=λi h g a k=>k it (by simp) _ a
 item:=by intro X q hw p m i B s A H E I f a y;subst q hw p;obtain⟨x,r,G,u,j,l⟩:=f it (by simp);have W:=Walks.range (prog:=X.prog) (w:=X.w) (I.ok.hd m) it lo 1 n;refine W.item i s _ _ y a λv g D L d F=>?_;obtain⟨t,rfl⟩:=L;have C:cB X B A H {s with heap:=g,toks:=D}:=I.turned (λb o c e=>F b o (by simpa using c) e) x r u j l;refine⟨_,rfl,pI d rfl rfl (by decide) ⟨.int (lo+i),H,C,⟨t,?_⟩,⟨rfl,rfl⟩,d,λb c=>(f b c).1⟩⟩;rw[Int.mul_one]
 done:=by intro X q hw p m i B s A H E I f a y;subst q hw p;obtain⟨x,r,G,u,j,l⟩:=f it (by simp);exact wpAny_pyNext_range_end (I.ok.hd m) a (by have:n<=i:=y;omega) λg J=>⟨rfl,I.turned (λb o c e=>J b o c e) x r u j l⟩
 self:=λ_ _ _ _ _ a h=>wpAny_pyIter_rangeiter a h
end L2
namespace L2
open PySem PySem.Spec PyProof.Rows
section
variable {X:Cx}{tg:Expr}
def uc(K:W.Frag)(c:TE):TI:=λe H R=>c e H λx b=>∃a,x=.ref a/\(∃d,fX K b a d)/\R (Cy K a) b
def Aa(K:W.Frag)(c:TE):TI:=λe H R=>c e H λx b=>∃a,x=.ref a/\(∃d,fY K b a d)/\R (Ct K a) b
def vB(c:PE X l tl):PI X tg l (uc X.K tl):=by
 intro g s d H R I h;refine dB (c g s d H _ I h) λv s1 ⟨x,H1,I1,r1,q1⟩=>?_;obtain⟨a,e,⟨m,i⟩,q⟩:=q1;subst e;cases r1;obtain⟨j,n,p,k⟩:=I1.list i;refine wpAny_pyIter_list p.isList ?_;refine⟨s1.heap.objs.size,[s1.heap.objs.size],_,_,H1,rfl,I1.kept λb o e=>ae _ e,rK a _,⟨_,aq _ rfl,rfl,rfl⟩,λb f=>?_,q⟩;have e:b=s1.heap.objs.size:=by simpa using f
 subst e;exact I1.fpOk (aI _) (I1.hok.fresh (aI _))
def zm(c:PE X l tl):PI X tg l (Aa X.K tl):=by
 intro g s d H R I h;refine dB (c g s d H _ I h) λv s1 ⟨x,H1,I1,r1,q1⟩=>?_;obtain⟨a,e,⟨m,i⟩,q⟩:=q1;subst e;cases r1;obtain⟨j,n,p,k⟩:=I1.tuple i;refine wpAny_pyIter_tuple (p) ?_;refine⟨s1.heap.objs.size,[s1.heap.objs.size],_,_,H1,rfl,I1.kept λb o e=>ae _ e,pF a _,⟨_,aq _ rfl,rfl,rfl⟩,λb f=>?_,q⟩;have e:b=s1.heap.objs.size:=by simpa using f
 subst e;exact I1.fpOk (aI _) (I1.hok.fresh (aI _))
def sZ{a c:Int}(I:cB X ck σ H s)(k:-(2 ^ 62)<=a)(j:a<2 ^ 62)(g:-(2 ^ 62)<=c)(l:c<2 ^ 62)
  (q:R (Ao a (c-a).toNat) H):wpAny (model X.prog X.w) X.A (pyIter (.ref s.heap.objs.size)) (Da X ck σ tg R) E {s with heap:=s.heap.push {cls:=.type "range",data:=.fields #[.int a t,.int c u,.int 1 v]},toks:=tk}:=by
 refine wpAny_pyIter_range (IsRange.new ..) (small_one k j g l) ?_;have d:cB X ck σ H {s with heap:=s.heap.push {cls:=.type "range",data:=.fields #[.int a t,.int c u,.int 1 v]},toks:=tk}:=I.kept λb o e=>ae _ e;refine⟨(s.heap.push {cls:=.type "range",data:=.fields #[.int a t,.int c u,.int 1 v]}).objs.size,[(s.heap.push {cls:=.type "range",data:=.fields #[.int a t,.int c u,.int 1 v]}).objs.size],_,_,H,rfl,
  d.kept λb o e=>ae _ e,pC _ a (c-a).toNat,?_,λb f=>?_,q⟩
 .have h:a+((0:Nat):Int)*1=a:=by simp
  have i:(((c-a).toNat:Nat):Int)-((0:Nat):Int)=Builtin.Range.rangeSize a c 1:=by rw[rangeSize_one];split<;>omega
  rw[h,i];exact aq _ rfl
 .have e:b=(s.heap.push {cls:=.type "range",data:=.fields #[.int a t,.int c u,.int 1 v]}).objs.size:=by simpa using f
  subst e;exact d.fpOk (aI _) (d.hok.fresh (aI _))
def tK(b:TA):TI:=λc H R=>b c H λd a=>∃j:Int,d=[.int j]/\-(2 ^ 62)<=j/\j<2 ^ 62/\R (Ao 0 j.toNat) a
def qF(l:Gl X "range")(g:X.mg "range" = none)(i:PA X [a] ta)(c:starEach [a] X.env=[(false,eval a X.env)]:=by rfl):PI X tg (.Call (.Name "range" p) [a] [] pos) (tK ta):=by
 intro f s k H R I h;refine Call_ (jP I l g boot_range (PyProof.Rows.callWith_type1 (dB (i pos f s k H _ I h) λus s1 ⟨vs,H1,I1,r1,b⟩=>?_) c rfl));obtain⟨j,e,b,d,q⟩:=b;subst e;cases r1 with
 |cons r rr=>cases rr;obtain⟨t,rfl⟩:=r;exact call_range_1 (sZ I1 (by omega) (by omega) b d (by simpa using q))
def sT(j:TI)(g:TG)(f:TS):TS:=λD a H=>j a H λJ k=>∃W:Nat->Nat->St->Hp->Prop,(∃m,W 0 m a k)/\∀i m a H,W i m a H->
 (J.stop i H/\D.nx a H)\/(J.go i H/\∃N:St->Hp->Prop,(∀c b,N c b->∃e,e<m/\W (i+1) e c b)/\∀x b,J.yld i H x b->g x a b λd h=>f {D with nx:=N,ct:=N,bk:=D.nx} d h)
noncomputable def ja(a:List Addr)(h:Heap):List (Addr×Obj):=a.filterMap λb=>(h.get? b).map λo=>(b,o)
def eR(a:b∈fp)(e:h.get? b=some o):(b,o)∈ja fp h:=bo.mpr ⟨b,a,by rw[e];rfl⟩
def rF(c:p∈ja fp h):p.1∈fp/\h.get? p.1=some p.2:=by
 obtain⟨b,a,e⟩:=bo.mp c;cases q:h.get? b with
 |none=>rw[q]at e;cases e
 |some o=>rw[q]at e;have d:=Option.some.inj e;subst d;exact⟨a,q⟩
def cB.pinned(I:cB X ck σ H s)(k:∀b∈fp,gZ X ck H b)(h:∀b∈fp,∃o,s.heap.get? b=some o/\∀v,o.data≠.cell v):cB X (ck++ja fp s.heap) σ H s:=I.pins_of λp g=>(ah.mp g).elim (λz=>I.pin p (bp _ z)) λz=>by obtain⟨a,e⟩:=rF z;obtain⟨i,f,j,_⟩:=k p.1 a;obtain⟨o,c,d⟩:=h p.1 a;rw[e]at c;cases c;exact⟨e,i,f,j,d⟩
def cB.unpinned(I:cB X (ck++pl) σ H s):cB X ck σ H s:=I.pins_of λp a=>I.pin p (bp _ (aw _ a))
theorem tj(C:PassesOwn (model X.prog X.w) X.A X.env X.xe)(Z:X.calm=true)(hi:PI X tg iter wi)(hg:PG X tg g)(k:kq X body tb)
  (hs:∀x,foldedSetIterable iter X.env x=pure x:=by intro _;rfl):PS X (.For tg iter body [] pos) (sT wi g tb):=by
 intro B s σ H D I h;refine wpAny_For (dB (hi B s σ H _ I h) λv s1 h1=>dB h1 λitv s2 h2=>?_) hs;obtain⟨it,K,tn,J,H2,e,I2,T,R,f2,W,⟨m0,w0⟩,P⟩:=h2;subst e;have p:∀{y:Hp},(∀b∈K,y b=none)->∀b∈K,gZ X B y b:=λhn b k=>⟨hn b k,(f2 b k).2⟩;refine codeAny_forLoop_any (λn Y=>∃i q y,cB X B q y Y/\tn i Y.heap/\(∀b∈K,y b=none)/\W i n q y) ?_ m0 ⟨0,σ,H2,I2,R,λb k=>(f2 b k).1,w0⟩;rintro n s3 ⟨i,l,Q,I3,F,E,w3⟩;rcases P i n l Q w3 with⟨G,qn⟩|⟨go,N,hN,step⟩
 .refine wpAny_passesOwn C (dB (T.done X rfl rfl rfl Z i B s3 l Q X.xe I3 (p E) F G) λr s4 ⟨hr,I4⟩=>?_);subst hr;exact wpAny_execs_nil ⟨l,Q,I4,qn⟩
 .refine wpAny_passesOwn C (dB (T.item X rfl rfl rfl Z i B s3 l Q X.xe I3 (p E) F go) λr s4 ⟨u,hr,h4⟩=>?_);subst hr;refine wpAny_passesOwn C (dB h4 λ_ s5 ⟨x,H5,I5,r5,y5,st5,fr5⟩=>?_);have S:=I5.pinned (p fr5) (T.obj _ _ st5);refine wpAny_passesOwn C (dB (hg _ s5 l H5 x u _ S r5 (step x H5 y5)) λ_ s6 ⟨σ6,H6,I6,q6⟩=>?_);refine wpAny_passesOwn C (dB (k _ s6 σ6 H6 _ I6 q6) λf U z=>?_);have c:∀{a:St} {t:Hp},cB X (B++ja K s5.heap) a t U->N a t->∃m,m<n/\∃i q y,cB X B q y U/\tn i U.heap/\(∀b∈K,y b=none)/\W i m q y:=λ{a t} j L=>by obtain⟨m',hm,w7⟩:=hN a t L;refine⟨m',hm,i+1,a,t,j.unpinned,T.keep _ _ _ st5 λb k o e=>(j.pin (b,o) (bp _ (bp _ (eR k e)))).1,λb k=>?_,w7⟩;obtain⟨o,e,d⟩:=T.obj _ _ st5 b k;exact (j.pin (b,o) (bp _ (bp _ (eR k e)))).2.1
  cases f with
  |next=>obtain⟨a,t,j,L⟩:=z;exact c j L
  |cont=>obtain⟨a,t,j,L⟩:=z;exact c j L
  |brk=>obtain⟨a,t,j,z⟩:=z;exact⟨a,t,j.unpinned,z⟩
  |ret v=>obtain⟨x7,a,t,j,r7,z⟩:=z;exact⟨x7,a,t,j.unpinned,r7,z⟩
end
end L2
namespace L2
open PySem PySem.Spec PyProof.Rows
abbrev R2:=V->V->Hp->VK->Prop
def gR(X:Cx)(f:Vq->Value->Sem Value)(r:R2):Prop:=
 ∀(a:List (Addr×Obj)) (s:Sq) (b:St) (H:Hp) (x y:V) (v u:Vq) (Q:VK),cB X a b H s->dA x v->dA y u->r x y H Q->
  wpAny (model X.prog X.w) X.A (f v u) (EP X a b Q) X.xe s
def B9(X:Cx)(f:Vq->Sem Value)(r:V->Hp->VK->Prop):Prop:=
 ∀(a:List (Addr×Obj)) (s:Sq) (b:St) (H:Hp) (x:V) (v:Vq) (Q:VK),cB X a b H s->dA x v->r x H Q->
  wpAny (model X.prog X.w) X.A (f v) (EP X a b Q) X.xe s
def eN(X:Cx)(f:Vq)(r:List V->Hp->VK->Prop):Prop:=
 ∀(a:List (Addr×Obj)) (s:Sq) (c:St) (H:Hp) (b:List V) (d:List Vq) (Q:VK),cB X a c H s->cO b d->r b H Q->
  wpAny (model X.prog X.w) X.A (call f d) (EP X a c Q) X.xe s
def jN(r:R2)(d e:TE):TE:=λa H Q=>d a H λx b=>e a b λy c=>r x y c Q
def B8(r:V->Hp->VK->Prop)(b:TE):TE:=λc H Q=>b c H λx a=>r x a Q
def rI(C:Int->Int->Prop)(g:Int->Int->V):R2:=λx y H Q=>∃i j,x=.int i/\y=.int j/\C i j/\Q (g i j) H
def qR(g:Int->Int->V):R2:=λx y H Q=>∃i j,x=.int i/\y=.int j/\Q (g i j) H
def rU(g:Int->V):V->Hp->VK->Prop:=λx H Q=>∃i,x=.int i/\Q (g i) H
section
variable {X:Cx}{a b c:Expr}{ta tb tc:TE}{pos:Pos}
def ya(l:PE X a ta)(k:PE X b tb){R:V->V->Hp->Prop}(I:cB X ck σ H s)
  (h:ta σ H λx j=>tb σ j λy d=>R x y d) {f:Vq->Value->Sem Value}
  (m:∀v u i x y d,cB X ck σ d i->dA x v->dA y u->R x y d->wpAny (model X.prog X.w) X.A (f v u) Q X.xe i) :
  wpAny (model X.prog X.w) X.A (eval a X.env) (λv e=>wpAny (model X.prog X.w) X.A (eval b X.env) (λu g=>wpAny (model X.prog X.w) X.A (f v u) Q X.xe g) X.xe e) X.xe s:=by
 refine dB (l ck s σ H _ I h) λv s1 ⟨x,j,I1,r1,q1⟩=>?_;refine dB (k ck s1 σ j _ I1 q1) λu i ⟨y,d,I2,r2,q2⟩=>?_;exact m v u i x y d I2 r1 r2 q2
def tV(d:gR X (binaryOp op) r)(l:PE X a ta)(j:PE X b tb):PE X (.BinOp a op b pos) (jN r ta tb):=by intro k s i H Q I h;exact wpAny_BinOp (ya l j I h λv u f x y g n e m q=>d k f i g x y v u Q n e m q)
def A2(f:B9 X (unaryOp op) r)(g:PE X a ta):PE X (.UnaryOp op a pos) (B8 r ta):=by intro d s e H Q I h;exact UnaryOp_ (dB (g d s e H _ I h) λv s1 ⟨x,H1,I1,r1,q1⟩=>f d s1 e H1 x v Q I1 r1 q1)
def BP{g:Int->Int->Int}
  (d:∀i j t u s Q E,C i j->Q (.int (g i j) s.toks) {s with toks:=s.toks+1}->wpAny (model X.prog X.w) X.A (f (.int i t) (.int j u)) Q E s) :
  gR X f (rI C λi j=>.int (g i j)):=by
 intro o s n H x y v u Q I e m h;obtain⟨i,j,rfl,rfl,k,q⟩:=h;obtain⟨t,rfl⟩:=e;obtain⟨l,rfl⟩:=m;exact d i j t l s _ _ k ⟨.int (g i j),H,I.tok _,⟨_,rfl⟩,q⟩
def CK{g:Int->Int->Int}
  (d:∀i j t u s Q E,Q (.int (g i j) s.toks) {s with toks:=s.toks+1}->wpAny (model X.prog X.w) X.A (f (.int i t) (.int j u)) Q E s) :
  gR X f (qR λi j=>.int (g i j)):=by
 intro n s m H x y v u Q I e l h;obtain⟨i,j,rfl,rfl,q⟩:=h;obtain⟨t,rfl⟩:=e;obtain⟨k,rfl⟩:=l;exact d i j t k s _ _ ⟨.int (g i j),H,I.tok _,⟨_,rfl⟩,q⟩
def vM{g:Int->Int->Bool}
  (d:∀(i j:Int) (t u:Tok) (s:Sq) (Q:Vq->Shared->Prop) (E:Vq->Shared->Prop),Q (.bool (g i j)) s->wpAny (model X.prog X.w) X.A (f (.int i t) (.int j u)) Q E s) :
  gR X f (qR λi j=>.bl (g i j)):=by
 intro n s m H x y v u Q I e l h;obtain⟨i,j,rfl,rfl,q⟩:=h;obtain⟨t,rfl⟩:=e;obtain⟨k,rfl⟩:=l;exact d i j t k s _ _ ⟨.bl (g i j),H,I,rfl,q⟩
def AO(i j:Int):Prop:=0<=j/\j<=1000000/\i.natAbs<2 ^ 64
def zC:gR X (binaryOp .Add) (qR λi j=>.int (i+j)):=CK λ_ _ _ _ _ _ _ q=>add_int q
def xj:gR X (binaryOp .Mod) (rI (λ_ j=>j≠0) λi j=>.int (i.fmod j)):=BP λ_ _ _ _ _ _ _ d q=>mod_int' d q
def zH:gR X (binaryOp .Pow) (rI AO λi j=>.int (i ^ j.toNat)):=BP λ_ _ _ _ _ _ _ d q=>pow_int_small d.1 d.2.1 d.2.2 q
def Dt{g:Int->Int}
  (d:∀i t s Q E,Q (.int (g i) s.toks) {s with toks:=s.toks+1}->wpAny (model X.prog X.w) X.A (f (.int i t)) Q E s) :
  B9 X f (rU λi=>.int (g i)):=by
 intro j s k H x v Q I e h;obtain⟨i,rfl,q⟩:=h;obtain⟨t,rfl⟩:=e;exact d i t s _ _ ⟨.int (g i),H,I.tok _,⟨_,rfl⟩,q⟩
def yQ:B9 X (unaryOp .USub) (rU λi=>.int (-i)):=Dt λ_ _ _ _ _ q=>neg_int q
end
section
variable {X:Cx}{a b c:Expr}{ta tb tc:TE}{pos:Pos}
def xC:gR X (compareOp .Lt) (qR λi j=>.bl (decide (i<j))):=vM λ_ _ _ _ _ _ _ q=>lt_int q
def nj:gR X (compareOp .LtE) (qR λi j=>.bl (decide (i<=j))):=vM λ_ _ _ _ _ _ _ q=>le_int q
def uk:gR X (compareOp .Gt) (qR λi j=>.bl (decide (j<i))):=vM λ_ _ _ _ _ _ _ q=>gt_int q
def rV:gR X (compareOp .GtE) (qR λi j=>.bl (decide (j<=i))):=vM λ_ _ _ _ _ _ _ q=>ge_int q
def jg b (h:op≠.In:=by decide) (d:op≠.NotIn:=by decide):behindInMarks op b=false:=by
 have f:(op==CmpOp.In)=false:=by cases op<;>first|rfl|exact absurd rfl h
 have e:(op==CmpOp.NotIn)=false:=by cases op<;>first|rfl|exact absurd rfl d
 cases b<;>simp[behindInMarks,f,e]
def mO(d:gR X (compareOp op) r)(m:PE X a ta)(k:PE X b tb)(e:behindInMarks op b=false):PE X (.Compare a [op] [b] pos) (jN r ta tb):=by intro l s j H Q I h;exact wpAny_Compare1 (ya m k I h λv u g x y i o f n q=>d l g j i x y v u Q o f n q) e
def kn(t:TE):TT:=λd H Q=>t d H λx e=>∃k,x=.bl k/\Q k e
def vX(i:gR X (compareOp op) r)(l:PE X a ta)(g:PE X b tb)(j:behindInMarks op b=false):PT X (.Compare a [op] [b] pos) (kn (jN r ta tb)):=by
 intro d s f H Q I h;refine wpAny_isTrue_Compare1 (dB (l d s f H _ I h) λv s1 ⟨x,H1,I1,r1,q1⟩=>dB (g d s1 f H1 _ I1 q1) λu s2 ⟨y,H2,I2,r2,q2⟩=>dB (i d s2 f H2 x y v u _ I2 r1 r2 q2) λc s3 ⟨z,H3,I3,r3,k,e,q3⟩=>?_) j
 subst e;cases r3;exact wpAny_truthy_bool ⟨H3,I3,q3⟩
def j6(r i:R2)(ta tb tc:TE):TE:=λd H Q=>ta d H λx f=>tb d f λy g=>r x y g λz e=>∃k,z=.bl k/\
 (if k=true then tc d e λh j=>i y h j Q else Q (.bl false) e)
theorem se(l:gR X (compareOp op) r)(i:gR X (compareOp op') r')(o:PE X a ta)(j:PE X b tb)(m:PE X c tc)
  (n:lastMarks [op,op'] [b,c]=false:=by with_unfolding_all rfl):PE X (.Compare a [op,op'] [b,c] pos) (j6 r r' ta tb tc):=by
 intro f s g H Q I h;refine Compare_chain (dB (o f s g H _ I h) λv s1 ⟨x,H1,I1,r1,q1⟩=>chain_link (dB (j f s1 g H1 _ I1 q1) λu s2 ⟨y,H2,I2,r2,q2⟩=>dB (l f s2 g H2 x y v u _ I2 r1 r2 q2) λd s3 ⟨z,H3,I3,r3,k,e,q3⟩=>?_)) n
 subst e;cases r3;refine wpAny_truthy_bool ?_;cases k with
 |false=>exact ite_ff ⟨.bl false,H3,I3,rfl,q3⟩
 |true=>exact ite_tt (chain_last (dB (m f s3 g H3 _ I3 q3) λw' s4 ⟨z',H4,I4,r4,q4⟩=>i f s4 g H4 y z' u w' Q I4 r2 r4 q4))
theorem sm(m:gR X (compareOp op) r)(i:gR X (compareOp op') r')(p:PE X a ta)(j:PE X b tb)(n:PE X c tc)
  (o:lastMarks [op,op'] [b,c]=false:=by with_unfolding_all rfl):PT X (.Compare a [op,op'] [b,c] pos) (kn (j6 r r' ta tb tc)):=by
 intro f s g H Q I h;refine isTrue_chain (dB (p f s g H _ I h) λv s1 ⟨x,H1,I1,r1,q1⟩=>test_link (dB (j f s1 g H1 _ I1 q1) λu s2 ⟨y,H2,I2,r2,q2⟩=>dB (m f s2 g H2 x y v u _ I2 r1 r2 q2) λd s3 ⟨z,H3,I3,r3,k,e,q3⟩=>?_)) o
 subst e;cases r3;refine wpAny_truthy_bool ?_;cases k with
 |false=>obtain⟨t,q,l⟩:=q3;cases q;exact ite_ff ⟨H3,I3,l⟩
 |true=>refine ite_tt (test_last (dB (n f s3 g H3 _ I3 q3) λw' s4 ⟨z',H4,I4,r4,q4⟩=>dB (i f s4 g H4 y z' u w' _ I4 r2 r4 q4) λd' s5 ⟨z2,H5,I5,r5,k2,e2,q5⟩=>?_));subst e2;cases r5;exact wpAny_truthy_bool ⟨H5,I5,q5⟩
def oK:(sizeLine:Nat)<2 ^ 63:=by rw[sizeLine_eq];decide
def pk:gR X (binaryOp .Add) (λx y H Q=>∃i j,x=.str i/\y=.str j/\i.length+j.length<=sizeLine/\Q (.str (i++j)) H):=by intro m s l H x y v u Q I e g h;obtain⟨i,j,rfl,rfl,d,q⟩:=h;obtain⟨t,rfl⟩:=e;obtain⟨f,rfl⟩:=g;exact add_str (λf k=>⟨.str (i++j),H,I.tok _,⟨_,rfl⟩,q⟩) d
def iw(r:cO [x] us):∃u,us=[u]/\dA x u:=by
 cases r with
 |cons r1 r2=>cases r2;exact⟨_,rfl,r1⟩
def AE(r:cO [x,y] us):∃u d,us=[u,d]/\dA x u/\dA y d:=by
 cases r with
 |cons r1 r2=>
  cases r2 with
  |cons r3 r4=>cases r4;exact⟨_,_,rfl,r1,r3⟩
def n5:eN X (.builtin "abs") (λxs H Q=>∃i,xs=[.int i]/\Q (.int (if i<0 then -i else i)) H):=by intro ck s σ H xs us Q I r h;obtain⟨i,rfl,q⟩:=h;obtain⟨u,rfl,t,rfl⟩:=iw r;exact call_abs_int λu tk=>⟨.int (if i<0 then -i else i),H,I.tok _,⟨_,rfl⟩,q⟩
def lu:eN X (.type "int") (λd H Q=>(∃i,d=[.int i]/\Q (.int i) H)\/∃k,d=[.bl k]/\Q (.int (if k then 1 else 0)) H):=by
 intro f s g H d j Q I r h;rcases h with⟨i,rfl,q⟩|⟨k,rfl,q⟩
 .obtain⟨u,rfl,t,rfl⟩:=iw r;exact call_int_int ⟨.int i,H,I,⟨_,rfl⟩,q⟩
 .obtain⟨u,rfl,e⟩:=iw r;cases e;exact call_int_bool ⟨.int (if k then 1 else 0),H,I.tok _,⟨_,rfl⟩,q⟩
def gE:eN X (.type "str") (λd H Q=>∃i,d=[.int i]/\i.natAbs.log2<1920/\Q (.str (toString i)) H):=by intro f s g H d j Q I r h;obtain⟨i,rfl,e,q⟩:=h;obtain⟨u,rfl,t,rfl⟩:=iw r;exact PySem.P.str_of_int e ⟨.str _,H,I.tok _,⟨_,rfl⟩,q⟩
def yE(K:W.Frag)(x:V)(H:Hp)(n:Nat):Prop:=
 match x with
 |.str y=>y.length<=sizeLine/\n=y.length
 |.byt y=>y.size<=sizeLine/\n=y.size
 |.ref p=>(∃d,fX K H p d/\n=d.length)\/∃d,fY K H p d/\n=d.length
 |_=>False
def tY:eN X (.builtin "len") (λf H Q=>∃x n,f=[x]/\yE X.K x H n/\Q (.int n) H):=by
 intro A s z H f w Q I r h;obtain⟨x,n,rfl,e,q⟩:=h;obtain⟨u,rfl,g⟩:=iw r;have v:=sizeLine_eq;cases x with
 |str y=>obtain⟨t,rfl⟩:=g;obtain⟨hy,d⟩:y.length<=sizeLine/\n=y.length:=e;subst d;exact len_str (by omega) ⟨.int _,H,I.tok _,⟨_,rfl⟩,q⟩
 |byt y=>obtain⟨t,rfl⟩:=g;obtain⟨hy,d⟩:y.size<=sizeLine/\n=y.size:=e;subst d;exact W.len_bytes (by omega) ⟨.int _,H,I.tok _,⟨_,rfl⟩,q⟩
 |ref p=>
  cases g;have d:=e;rcases d with⟨f,k,d⟩|⟨f,k,d⟩
  .subst d;obtain⟨l,i,m,o⟩:=I.list k;have j:=i.length;exact Calls.call_len_list m.isList (by simp only[bq];omega) ⟨.int f.length,H,I.tok _,⟨_,by simp only[bq];rw[j]⟩,q⟩
  .subst d;obtain⟨l,i,m,o⟩:=I.tuple k;have j:=i.length;exact len_tuple m (by simp only[bq];omega) ⟨.int f.length,H,I.tok _,⟨_,by simp only[bq];rw[j]⟩,q⟩
 |_=>exact (e).elim
end
end L2
namespace L2
open PySem PySem.Spec PyProof.Rows
structure tm(h:Heap)(x dx C:Addr)(mA:Str->Option Value):Prop where
 obj:h.get? x=some (W.instObj C dx)
 ns:h.Ns1 dx mA
 ne:dx≠x
def lC{h:Heap}(n:h.Ns1 dx mA):∃f,h.get? dx=some f/\∀b,W.lookIn b f=some (mA b):=by
 obtain⟨o,d,p,i,l,k,_,j⟩:=n;refine⟨o,i,λb=>?_⟩;have e:=j b;unfold nsFind findBy at e;rw[<-Array.find?_toList]at e;unfold W.lookIn;rw[l];dsimp only;split
 .rename_i y q;rw[q]at e;exact congrArg some e
 .rename_i q;rw[q]at e;have a:d.toList.any (·.refKey)=false:=by rw[List.any_eq_false];intro y g;obtain⟨z,t,c⟩:=k y (Array.mem_toList_iff.mp g);simp[DictEntry.refKey,c]
  have m:¬d.toList.any (·.refKey)=true:=by rw[a];exact aF
  rw[aP m];exact congrArg some e
def tm.look(I:tm h x dx C mA):∃b,W.InstAt h x (W.instObj C dx) C (some b)/\∀a,W.lookIn a b=some (mA a):=
 let ⟨b,ho,hl⟩:=lC I.ns
 ⟨b,⟨I.obj,rfl,rfl,ho⟩,hl⟩
section
variable {prog:Program}{w:World}{A:Around}{E:Vq->Shared->Prop}{s:Sq}{K:W.Frag}{x dx C f:Addr}{mA:Str->Option Value}{name:Str}{v:Vq}
def wB(X:K.In s.heap)(I:tm s.heap x dx C mA)
  (l:W.findIn K (.ref C) "__setattr__" = some (some (.builtin "object.__setattr__"))) (j:W.plainOver K C=true) (m:W.takerIn K C name=some none) (p:W.hasDictIn K C=true)
  (hw:PySem.Within mA ns) (q:ns.length<=sizeLine)
  (h:∀h',tm h' x dx C (λy=>if y=name then some v else mA y)->Heap.SameBut dx s.heap h'->Q () {s with heap:=h',toks:=s.toks+2}) :
  wpAny (model prog w) A (setAttr (.ref x) name v) Q E s:=by
 obtain⟨B,J,t⟩:=I.look;refine W.set_plain X J l (W.osa_open X J j m λb=>?_);obtain⟨z,o,e⟩:=W.any_some p;have r:=I.obj;refine ak (aj (ak (ak (wpAny_loadPart r (ak (W.Looks.here (W.looks_clsIn X o) ?_))))));rw[e];refine aj (ak (aj (ak ?_)));refine wpAny_nsSet1 I.ns λh' c a=>?_;obtain⟨u,k,n,d,g,i⟩:=c.count (PySem.Within.cons name v hw);refine ak (wpAny_lookBehind d (by rw[g];exact pastItsLine_dict (aL i (by rw[ax];omega))) ?_);exact aj (h _ ⟨(a.2 _ (Ne.symm I.ne)).trans I.obj,c,I.ne⟩ a)
def sC(X:K.In s.heap)(c:W.makesIn K C=true)
  (b:W.findIn K (.ref C) "__init__" = some (some (.ref f))) (e:W.typeIn K (.ref f)=some (.type "function"))
  (h:codeAny (model prog w) (A.under (.builtin "type.__call__" ⟨.ref C::vs,kw⟩)) (.call (.ref f) ⟨.ref (s.heap.objs.size+1)::vs,kw⟩) (W.InitBack (s.heap.objs.size+1) R)
   {s with heap:=(s.heap.push W.emptyDict).push (W.instObj C s.heap.objs.size)}) :
  codeAny (model prog w) A (.call (.ref C) ⟨vs,kw⟩) R s:=by
 obtain⟨i,g,d,t,j⟩:=s;exact W.make_core (W.makes_of X c) (W.looks_findIn X b) (λa=>W.bind_fn X a e) (.inl rfl) h
end
def gP(f:Str)(v:V):List (Str×V)->List (Str×V)
 |[]=>[(f,v)]
 | (g,x)::r=>if g=f then (g,v)::r else (g,x)::gP f v r
theorem jz f g v:∀fs:List (Str×V),(gP f v fs).lookup g=if g=f then some v else fs.lookup g
 |[]=>by
  show List.lookup g [(f,v)]=_;by_cases h:g=f
  .have a:=beq_iff_eq.mpr h;simp only[List.lookup,a,aO h]
  .have a:=beq_eq_false_iff_ne.mpr h;simp only[List.lookup,a,aP h]
 | (k,x)::r=>by
  have c:=jz f g v r;rw[show gP f v ((k,x)::r)=(if k=f then (k,v)::r else (k,x)::gP f v r) from rfl];by_cases b:k=f
  .rw[aO b];by_cases h:g=k
   .have a:=beq_iff_eq.mpr h;simp only[List.lookup,a,aO (h.trans b)]
   .have a:=beq_eq_false_iff_ne.mpr h;simp only[List.lookup,a,aP (λe:g=f=>h (e.trans b.symm))]
  .rw[aP b];by_cases h:g=k
   .have a:=beq_iff_eq.mpr h;simp only[List.lookup,a,aP (λe:g=f=>b (h.symm.trans e))]
   .have a:=beq_eq_false_iff_ne.mpr h;simp only[List.lookup,a];exact c
theorem i9 f v:∀fs:List (Str×V),f∈(gP f v fs).map (·.1)/\∀g,g∈fs.map (·.1)->g∈(gP f v fs).map (·.1)
 |[]=>⟨by simp[gP],λg h=>by simp at h⟩
 | (k,x)::r=>by
  obtain⟨c,b⟩:=i9 f v r;rw[show gP f v ((k,x)::r)=(if k=f then (k,v)::r else (k,x)::gP f v r) from rfl];by_cases a:k=f
  .rw[aO a];subst a;exact⟨by simp,λg h=>by simpa using h⟩
  .rw[aP a];refine⟨?_,λg h=>?_⟩
   .rw[br];exact bg _ c
   .rw[br]at h ⊢;rcases aD.mp h with e|e
    .exact aD.mpr (.inl e)
    .exact bg _ (b g e)
theorem jy f v:∀fs:List (Str×V),(gP f v fs).length<=fs.length+1
 |[]=>by simp[gP]
 | (k,x)::r=>by
  have b:=jy f v r;rw[show gP f v ((k,x)::r)=(if k=f then (k,v)::r else (k,x)::gP f v r) from rfl];by_cases a:k=f
  .rw[aO a,ax,ax];omega
  .rw[aP a,ax,ax];omega
def rB(r:dA v u):W.handedIn u=true:=by
 cases v with
 |non=>cases (r);rfl
 |bl b=>cases (r);rfl
 |int i=>obtain⟨t,e⟩:=(r);cases e;rfl
 |str x=>obtain⟨t,e⟩:=(r);cases e;rfl
 |byt b=>obtain⟨t,e⟩:=(r);cases e;rfl
 |flt b=>obtain⟨t,e⟩:=(r);cases e;rfl
 |ref a=>cases (r);rfl
 |ty n=>cases (r);rfl
section
variable {P:Program}{w:World}{H H':Hp}{h h':Heap}{a C dx:Addr}{fs fs':List (Str×V)}
def pU(c:hZ P w H h)(e:H a=some (.ins C dx fs)):∃b,tm h a dx C b/\(∀f,zF (fs.lookup f) (b f))/\PySem.Within b (fs.map (·.1))/\fs.length<=1000/\H dx=some (.own a):=by obtain⟨d,z,ne,g,b,n,r,q⟩:=(c a _ e);exact⟨b,⟨g,n,ne⟩,r,q,z,d⟩
end
structure xB(K:W.Frag)(C:Addr):Prop where
 pg:W.plainGet K C Str.empty=true
 hd:W.hasDictIn K C=true
 po:W.plainOver K C=true
 sa:W.findIn K (.ref C) "__setattr__" = some (some (.builtin "object.__setattr__"))
def xB.get{K:W.Frag}(c:xB K C) f:W.plainGet K C f=true:=c.pg
def fV(K:W.Frag)(C:Addr)(f:Str):Prop:=W.findIn K (.ref C) f=some none
def fV.taker{K:W.Frag}(n:fV K C f):W.takerIn K C f=some none:=by unfold W.takerIn;rw[show W.findIn K (.ref C) f=some none from n];rfl
structure Ab(K:W.Frag)(C:Addr)(m:Str)(f:Addr):Prop where
 at_:W.findIn K (.ref C) m=some (some (.ref f))
 fn:W.isFn K (.ref f)=true
 kp:W.keepIn K (.ref f)=true
section
variable {X:Cx}{ck:List (Addr×Obj)}{σ:St}{H:Hp}{s:Sq}{a C dx:Addr}{fs:List (Str×V)}{f:Str}{v:V}{A:Around}{E:Vq->Shared->Prop}
def oq(I:cB X ck σ H s)(e:H a=some (.ins C dx fs))(c:xB X.K C)(n:fV X.K C f)(G:fs.length<1000)(B:dA y u)
  (h:∀k,cB X ck σ (c6 H a (.ins C dx (gP f y fs))) k->Q () k):wpAny (model X.prog X.w) A (setAttr (.ref a) f u) Q E s:=by
 obtain⟨F,O,r,j,_,i⟩:=pU I.hok e;have m:(fs.map (·.1)).length<=sizeLine:=by rw[av,sizeLine_eq];omega
 refine wB I.kIn O c.sa c.po n.taker c.hd j m λl d p=>h _ ?_;have x:∃o,l.get? dx=some o:=let ⟨o,_,_,e',_⟩:=d.ns;⟨o,e'⟩;refine I.write (by rw[e];exact True.intro) (.inr i) (λb q t z=>(p.2 b t).trans z) x ?_;refine⟨by rw[cx O.ne];exact i,?_,O.ne,d.obj,_,d.ns,λg=>?_,λg D=>?_⟩
 .have:=jy f y fs;omega
 .rw[jz];by_cases q:g=f
  .rw[aO q,aO q];exact B
  .rw[aP q,aP q];exact r g
 .by_cases q:g=f
  .rw[q];exact (i9 f y fs).1
  .refine (i9 f y fs).2 g (j g λz=>D ?_);show (if g=f then some u else F g)=none;rw[aP q];exact z
def cB.made(I:cB X ck σ H s):cB X ck σ (c6 (c6 H s.heap.objs.size (.own (s.heap.objs.size+1))) (s.heap.objs.size+1) (.ins C s.heap.objs.size []))
  {s with heap:=(s.heap.push W.emptyDict).push (W.instObj C s.heap.objs.size)}:=by
 have c:(s.heap.push W.emptyDict).get? s.heap.objs.size=some W.emptyDict:=aq s.heap rfl;have i:((s.heap.push W.emptyDict).push (W.instObj C s.heap.objs.size)).get? (s.heap.objs.size+1)=some (W.instObj C s.heap.objs.size):=by have:=aq (s.heap.push W.emptyDict) (o:=W.instObj C s.heap.objs.size) rfl;rwa [Heap.size_push]at this
 have h:(s.heap.push W.emptyDict).Ns s.heap.objs.size (λ_=>none):=⟨W.emptyDict,#[],_,c,rfl,(λe j=>absurd j (by simp)),λ_=>rfl⟩;have d:=I.laid (o:=.own (s.heap.objs.size+1)) (t':=s.toks) (λb u q=>ae _ q) (aI _) ⟨_,c⟩;refine d.laid (λb u q=>ae _ q) (Nat.le_of_eq (Heap.size_push _ _)) ?_;have ne:s.heap.objs.size≠s.heap.objs.size+1:=aK (bt _);refine⟨by rw[cx ne,cy],bu _,ne,i,λ_=>none,(Heap.Ns1.of_empty h).at λo q=>ae _ q,λ_=>True.intro,λy g=>absurd rfl g⟩
def vA(c:attributeBase e f env (eval e env)=eval e env)
  (h:wpAny (model prog w) A (eval e env) (λo b=>wpAny (model prog w) A (getAttr o f true) Q E b) E s):wpAny (model prog w) A (eval (.Attribute e f pos) env) Q E s:=
 Attribute_any_ h (by rw[arm_eval_Attribute,c])
end
def zW(K:W.Frag)(g h:TE)(f:Str):TS:=λD b H=>h b H λy e=>g b e λx c=>∃a C d fs,x=.ref a/\c a=some (.ins C d fs)/\xB K C/\fV K C f/\fs.length<1000/\
 D.nx b (c6 c a (.ins C d (gP f y fs)))
section
variable {X:Cx}{o e value:Expr}{f:Str}{pos pos' tpos:Pos}{ta tv:TE}
def sQ(j:PE X o ta)(i:PE X value tv)(g:swapsWith value (some (.Attribute o f pos')) pos.line X.env=pure false):PS X (.Assign [.Attribute o f pos'] value pos) (zW X.K ta tv f):=by intro d s b H D I h;refine plainObj_wpAny_Assign_Attribute (dB (i d s b H _ I h) λu s1 ⟨y,H1,I1,ry,q⟩=>dB (j d s1 b H1 _ I1 q) λov s2 ⟨x,H2,I2,rx,a,C,dx,fs,ex,ea,c,n,l,q2⟩=>?_) g;subst ex;obtain rfl:ov=Value.ref a:=rx;exact oq I2 ea c n l ry λm k=>⟨b,_,k,q2⟩
end
section
variable {X:Cx}{ck:List (Addr×Obj)}{σ:St}{H:Hp}{s:Sq}{A:Around}{E:Vq->Shared->Prop}{Q:Vq->Shared->Prop}{c:Vq}{b:Bool}
inductive gU(K:W.Frag)(H:Hp):V->Value->Prop where
 |non:gU K H .non (.type "NoneType")
 |bl (x:Bool):gU K H (.bl x) (.type "bool")
 |int (i:Int):gU K H (.int i) (.type "int")
 |str (x:Str):gU K H (.str x) (.type "str")
 |flt (x:UInt64):gU K H (.flt x) (.type "float")
 |lst {a:Addr} {xs:List V} (e:H a=some (.lst xs)):gU K H (.ref a) (.type "list")
 |frz {a:Addr} {o:Obj} {xs:List V} (e:H a=some (.frz o (.lst xs))):gU K H (.ref a) (.type "list")
 |tup {a:Addr} {xs:List V} (e:H a=some (.tup xs)):gU K H (.ref a) (.type "tuple")
 |dK {a:Addr} {kvs:List (i8×V)} (e:H a=some (.dK kvs)):gU K H (.ref a) (.type "dict")
 |dT {a:Addr} {kvs:List (List i8×V)} (e:H a=some (.dT kvs)):gU K H (.ref a) (.type "dict")
 |ins {a C dx:Addr} {fs:List (Str×V)} (e:H a=some (.ins C dx fs)) (cl:xB K C) (ha:W.findIn K (.ref C) "__class__" = some (some (.builtin "object.__class__")))
   (hn:W.specialIn K (.builtin "object.__class__") "__get__" = some (some (.builtin "getset_descriptor.__get__"))) (htk:W.takesIn K (.builtin "object.__class__")=some true)
   (hm:W.mroIn K C (.type "object")=some true):gU K H (.ref a) (.ref C)
def qH(I:cB X ck σ H s)(d:dA x u)(r:gU X.K H x t)(e:W.kitOne X.K t c=some b)(h:∀m,Q (.bool b) {s with toks:=m}) :
  wpAny (model X.prog X.w) A (call (.builtin "isinstance") [u,c]) Q E s:=by
 cases r with
 |non=>cases (d);exact W.kia_one W.kitx_none I.kIn True.intro e (λz=>nomatch z) h
 |bl y=>cases (d);exact W.kia_one W.kitx_bool I.kIn True.intro e (λz=>nomatch z) h
 |int i=>obtain⟨t,q⟩:=(d);cases q;exact W.kia_one W.kitx_int I.kIn True.intro e (λz=>nomatch z) h
 |str y=>obtain⟨t,q⟩:=(d);cases q;exact W.kia_one W.kitx_str I.kIn True.intro e (λz=>nomatch z) h
 |flt y=>obtain⟨t,q⟩:=(d);cases q;exact W.kia_one W.kitx_float I.kIn True.intro e (λz=>nomatch z) h
 |@lst a j ea=>cases (d);obtain⟨_,_,n,_,f⟩:=(I.hok a _ ea);exact W.kia_one W.kitx_list I.kIn ⟨_,f,rfl⟩ e (λz=>nomatch z) h
 |@frz a ob j ea=>cases (d);obtain⟨_,_,_,n,_,f⟩:=(I.hok a _ ea);exact W.kia_one W.kitx_list I.kIn ⟨_,f,rfl⟩ e (λz=>nomatch z) h
 |@tup a j ea=>cases (d);obtain⟨_,_,_,p⟩:=(I.hok a _ ea);obtain⟨o,f,g,_⟩:=p;exact W.kia_one W.kitx_tuple I.kIn ⟨o,f,g⟩ e (λz=>nomatch z) h
 |@dK a kvs ea=>cases (d);obtain⟨_,_,v,_,p⟩:=(I.hok a _ ea);obtain⟨o,k,l,f,g,_⟩:=p;exact W.kia_one W.kitx_dict I.kIn ⟨o,f,g.1⟩ e (λz=>nomatch z) h
 |@dT a kvs ea=>cases (d);obtain⟨_,_,j,_,o,k,l,f,g,_⟩:=(I.hok a _ ea);exact W.kia_one W.kitx_dict I.kIn ⟨o,f,g.1⟩ e (λz=>nomatch z) h
 |@ins a C dx fs ea cl ha hn htk hm=>cases (d);obtain⟨D,O,_⟩:=pU I.hok ea;obtain⟨B,J,_⟩:=O.look;exact W.kia_one (W.kitx_own (cl.get _) cl.hd ha hn htk hm) I.kIn J e (λz=>nomatch z) h
end
end L2
namespace L2
open PySem PySem.Spec PyProof.Rows
structure dh(k:Nat)(A:Around):Prop where
 hd:A.handled=none
 dp:A.depth+3*k+5<recursionLimit
 un:A.units+16*k+200<cLine
def dh.mono(r:dh k A)(h:j<=k):dh j A:=⟨r.hd,by have:=r.dp;omega,by have:=r.un;omega⟩
def dh.deeper(r:dh (k+1) A) env:dh k (A.deeper env):=⟨r.hd,by have:=r.dp;show A.depth+1+3*k+5<_;omega,by have:=r.un;show A.units+3+16*k+200<_;omega⟩
def oO{A:Around}:(A.under (.builtin "type.__call__" ⟨.ref C::us,kw⟩)).depth=A.depth+1:=by first|rfl|simp[Around.under,Code.weight,Code.isCreation,Code.isGuard,Code.isCaller,Code.frames,Code.isFrame,guardIds]
def oZ{A:Around}:(A.under (.builtin "type.__call__" ⟨.ref C::us,kw⟩)).units=A.units+1:=by first|rfl|simp[Around.under,Code.cUnits,Code.frames,Code.isFrame]
def dh.make(r:dh (k+1) A) C us kw:dh k (A.under (.builtin "type.__call__" ⟨.ref C::us,kw⟩)):=⟨r.hd,by have:=r.dp;rw[oO];omega,by have:=r.un;rw[oZ];omega⟩
def dh.depth(r:dh k A):A.depth<recursionLimit:=by have:=r.dp;omega
def ib:TA:=λ_ H Q=>Q [] H
def dQ(e:TE)(f:TA):TA:=λa H Q=>e a H λx c=>f a c λd b=>Q (x::d) b
section
variable {X:Cx}{e:Expr}{es:List Expr}{te:TE}{t:TA}{pos:Pos}
def eK:PA X [] ib:=λ_ _ _ _ H Q I h=>Calls.spliced_nil ⟨[],H,I,.nil,h⟩
def cS(d:PE X e te)(hr:PA X es t)(c:starEach (e::es) X.env=(false,eval e X.env)::starEach es X.env:=by rfl):PA X (e::es) (dQ te t):=by intro pos a s b H Q I h;rw[c];refine Calls.spliced_cons (dB (d a s b H _ I h) λu s1 ⟨x,H1,I1,r1,q1⟩=>?_);exact dB (hr pos a s1 b H1 _ I1 q1) λus s2 ⟨xs,H2,I2,r2,q2⟩=>⟨x::xs,H2,I2,.cons r1 r2,q2⟩
def vZ(t:TA):TE:=λc H Q=>t c H λb a=>b.length<=sizeLine/\∀p,a p=none->Q (.ref p) (c6 a p (.tup b))
def yb(t:TA):TE:=λc H Q=>t c H λb a=>b.length<=sizeLine/\∀p,a p=none->Q (.ref p) (c6 a p (.lst b))
def rS{x1}(h:PA X es t):PE X (.Tuple es x1 pos) (vZ t):=by intro c s d H Q I a;refine wpAny_Tuple_spliced (dB (h pos c s d H _ I a) λus s1 ⟨xs,H1,I1,r,z,q⟩=>⟨by rw[<-r.length];exact z,?_⟩);have f:=I1.hok.fresh (aI _);refine⟨.ref s1.heap.objs.size,c6 H1 s1.heap.objs.size (.tup xs),I1.laid (λb u e=>ae _ e) (aI _) ?_,rfl,q _ f⟩;exact⟨z,us,r,⟨_,aq _ rfl,rfl,_,rfl,rfl⟩⟩
def yS(h:PA X es t):PE X (.List es pos) (yb t):=by intro c s d H Q I a;refine wpAny_List_spliced (dB (h pos c s d H _ I a) λus s1 ⟨xs,H1,I1,r,z,q⟩=>⟨by rw[<-r.length];exact z,?_⟩);have f:=I1.hok.fresh (aI _);refine⟨.ref s1.heap.objs.size,c6 H1 s1.heap.objs.size (.lst xs),I1.laid (λb u e=>ae _ e) (aI _) ?_,rfl,q _ f⟩;exact⟨z,us,0,r,aq _ rfl⟩
end
abbrev Sp:=List V->Hp->VK->XK->Prop
abbrev vd:=List Env->Hp->Shared->XK->Value->Shared->Prop
structure oo(P:Program)(w:World)(K:W.Frag)(mg:Str->Option Value)(base:Heap)(A:Around)(outer:List Env)(s:Sq)(H:Hp):Prop where
 frames:A.frames=some outer
 mod:Mod K mg base
 bs:∀b o,base.get? b=some o->s.heap.get? b=some o/\H b=none
 bsz:base.objs.size<=s.heap.objs.size
 funs:s.heap.FunFrames base outer
 frf:∀b∈fw outer,H b=none
 hok:hZ P w H s.heap
 bare:AllBare s.gens
 tab:ub base H
def CE(a:List Env)(P:Program)(w:World)(H:Hp)(s:Sq)(Q:VK)(u:Vq)(b:Sq):Prop:=∃v c,b.os=s.os/\AllBare b.gens/\Un (fw a) [] H c s.heap b.heap/\hZ P w c b.heap/\dA v u/\Q v c
def CR(c:vd)(a:List Env)(P:Program)(w:World)(H:Hp)(s:Sq)(Q:VK)(E:XK)(r:Result)(b:Sq):Prop:=
 match r with
 |.ok (.ret u)=>CE a P w H s Q u b
 |.ok _=>False
 |.error e=>c a H s E e b
structure fy(P:Program)(w:World)(K:W.Frag)(mg:Str->Option Value)(base:Heap)(CX:vd)(k:Nat)(f:Addr)(fd:FuncData)(ps:List Str)(sp:Sp):Prop where
 len:∀vs H Q E,sp vs H Q E->vs.length=ps.length
 run:∀(A:Around) (outer:List Env) (s:Sq) (H:Hp) (args:Args) (us:List Vq) (vs:List V) (Q:VK) (E:XK),dh k A->oo P w K mg base A outer s H->BindsTo s fd args (ps.zip us)->cO vs us->sp vs H Q E->
  codeAny (model P w) A (.call (.ref f) args) (CR CX outer P w H s Q E) s
def fy.mono{K:W.Frag}(F:fy P w K mg base CX j f fd ps sp)(h:j<=k) :
  fy P w K mg base CX k f fd ps sp:=⟨F.len,λA a s H b c d Q E hr=>F.run A a s H b c d Q E (hr.mono h)⟩
def fy.imp{K:W.Frag}(F:fy P w K mg base CX k f fd ps sp)
  (h:∀b H Q E,sp' b H Q E->sp b H Q E):fy P w K mg base CX k f fd ps sp':=
 ⟨λb H Q E q=>F.len b H Q E (h _ _ _ _ q),λA a s H c i b Q E hr j e g d=>F.run A a s H c i b Q E hr j e g (h _ _ _ _ d)⟩
def oo.make{K:W.Frag}(e:oo P w K mg base A outer s H) C us kw :
  oo P w K mg base (A.under (.builtin "type.__call__" ⟨.ref C::us,kw⟩)) outer s H:=⟨by first|exact e.frames|(simpa[Around.under,Code.envs,Code.isFrame,pushEnvs] using e.frames),e.mod,e.bs,e.bsz,e.funs,e.frf,e.hok,e.bare,e.tab⟩
section
variable {X:Cx}{ck:List (Addr×Obj)}{σ:St}{H:Hp}{s s':Sq}
def cB.env0(I:cB X ck σ H s):oo X.prog X.w X.K X.mg X.base X.A X.stack s H:=⟨I.ok.frames,I.ok.mod,I.bs,aL I.ok.bsz I.sz,I.stack,I.stkFree,I.hok,I.bare,I.tab⟩
def cB.after(I:cB X ck σ H s)(h:CE X.stack X.prog X.w H s Q u s'):EP X ck σ Q u s':=by obtain⟨v,i,f,a,un,e,r,q⟩:=h;obtain⟨j,g,d,t,c⟩:=s';obtain rfl:c=s.os:=f;exact⟨v,i,I.call un e a (λb z=>absurd z (by simp)),r,q⟩
end
def i3(c:Sp)(a:List V)(E:XK)(t:TA):TE:=λd H Q=>t d H λe b=>c (e++a) b Q E
def qg(C:Addr)(e:Sp)(c:List V)(E:XK)(t:TA):TE:=λf H Q=>t f H λg b=>∀x a,b x=none->b a=none->a≠x->
 e (.ref x::(g++c)) (c6 (c6 b a (.own x)) x (.ins C a [])) (λv d=>v=.non/\Q (.ref x) d) E
def gO(K:W.Frag)(d:FuncData)(c:List Str)(b:List Vq):Prop:=∀(s:Sq) (a:List Vq),K.In s.heap->(a++b).length=c.length->BindsTo s d ⟨a,[]⟩ (c.zip (a++b))
def gO.all{K:W.Frag}(h:∀a:List Vq,a.length=ps.length->bindArgs fd ⟨a,[]⟩=pure (ps.zip a)):gO K fd ps []:=λs a _ b=>by rw[bw]at b ⊢;exact .of_eq (h a b)
def dP(d:vd)(X:Cx)(E:XK):Prop:=∀(b:List (Addr×Obj)) (c:St) (H:Hp) (s:Sq) (e:Vq) (a:Sq),cB X b c H s->d X.stack H s E e a->X.xe e a
section
variable {X:Cx}{CX:vd}{k:Nat}{f C:Addr}{fd:FuncData}{ps:List Str}{sp:Sp}{dvs:List V}{ds:List Vq}{E:XK}{x m:Str}{p pos apos:Pos}{e o:Expr}{es:List Expr}{ta:TE}{t:TA}
theorem yB(F:fy X.prog X.w X.K X.mg X.base CX k f fd ps sp)(hr:dh k X.A)(c:gO X.K fd ps ds)(i:cO dvs ds)(g:dP CX X E)
  (I:cB X ck σ H s) (r:cO vs us) (h:sp (vs++dvs) H Q E):wpAny (model X.prog X.w) X.A (call (.ref f) us) (EP X ck σ Q) X.xe s:=by
 have b:=r.append i;have d:(us++ds).length=ps.length:=by rw[<-b.length];exact F.len _ _ _ _ h
 refine wpAny_call (codeAny_mono (F.run X.A X.stack s H ⟨us,[]⟩ (us++ds) (vs++dvs) Q E hr I.env0 (c s us I.kIn d) b h) λr j a=>?_);cases r with
 |error e=>exact g ck σ H s e j I a
 |ok fl=>
  cases fl with
  |ret u=>exact I.after a
  |next=>exact False.elim a
  |brk=>exact False.elim a
  |cont=>exact False.elim a
def qp(F:fy X.prog X.w X.K X.mg X.base CX k f fd ps sp)(hr:dh k X.A)(y:Gl X x)(c:X.mg x=some (.ref f))(d:W.keepIn X.K (.ref f)=true)(i:gO X.K fd ps ds)(j:cO dvs ds)(v:dP CX X E)
  (n:PA X (e::es) t) (b:(x==("__debug__" : Str))=false:=by decide) (u:starEach (e::es) X.env=(false,eval e X.env)::starEach es X.env:=by rfl) (a:(backTo pos (starEach es X.env)).any (·.1)=false:=by rfl) :
  PE X (.Call (.Name x p) (e::es) [] pos) (i3 sp dvs E t):=by
 intro l s g H Q I h;refine wpAny_Call_Name_kw (hW I y c ?_ b);refine W.callWith_K I.ok.mod.kin d (dB (n pos l s g H _ I h) λus s1 ⟨vs,H1,I1,r,q⟩=>⟨I1.kIn,?_⟩) u a;exact yB F hr i j v I1 r q
structure Mk(K:W.Frag)(C f:Addr):Prop where
 makes:W.makesIn K C=true
 init:W.findIn K (.ref C) "__init__" = some (some (.ref f))
 fn:W.isFn K (.ref f)=true
 kp:W.keepIn K (.ref C)=true
theorem uP(M:Mk X.K C f)(F:fy X.prog X.w X.K X.mg X.base CX k f fd ps sp)(hr:dh (k+1) X.A)(y:gO X.K fd ps ds)(z:cO dvs ds)
  (G:dP CX X E) (I:cB X ck σ H s) (r:cO vs us)
  (h:∀x dx,H x=none->H dx=none->dx≠x->sp (.ref x::(vs++dvs)) (c6 (c6 H dx (.own x)) x (.ins C dx [])) (λv j=>v=.non/\Q (.ref x) j) E) :
  wpAny (model X.prog X.w) X.A (call (.ref C) us) (EP X ck σ Q) X.xe s:=by
 have c:=h (s.heap.objs.size+1) s.heap.objs.size (I.hok.fresh (bx _)) (I.hok.fresh (aI _)) (aK (bt _));have b:=cB.made (C:=C) I;have d:cO (V.ref (s.heap.objs.size+1)::(vs++dvs)) (Value.ref (s.heap.objs.size+1)::(us++ds)):=.cons rfl (r.append z);have g:(Value.ref (s.heap.objs.size+1)::us++ds).length=ps.length:=by have e:=d.length;rw[F.len _ _ _ _ c]at e;exact e.symm
 refine wpAny_call (sC I.kIn M.makes M.init (beq_iff_eq.mp M.fn) (codeAny_mono (F.run _ X.stack _ _ ⟨Value.ref (s.heap.objs.size+1)::us,[]⟩ (Value.ref (s.heap.objs.size+1)::(us++ds)) _ _ E (hr.make C us [])
  (b.env0.make C us []) (y _ (Value.ref (s.heap.objs.size+1)::us) b.kIn g) d c) λr n a=>?_))
 cases r with
 |error e=>exact G ck σ _ _ e n b a
 |ok fl=>
  cases fl with
  |ret u=>obtain⟨v,B,D,q,l,i⟩:=b.after a;subst l;exact⟨q,⟨V.ref (s.heap.objs.size+1),B,D,rfl,i⟩⟩
  |next=>exact False.elim a
  |brk=>exact False.elim a
  |cont=>exact False.elim a
def wI(M:Mk X.K C f)(F:fy X.prog X.w X.K X.mg X.base CX k f fd ps sp)(hr:dh (k+1) X.A)(v:Gl X x)(c:X.mg x=some (.ref C))(g:gO X.K fd ps ds)(i:cO dvs ds)(u:dP CX X E)
  (l:PA X (e::es) t) (b:(x==("__debug__" : Str))=false:=by decide) (n:starEach (e::es) X.env=(false,eval e X.env)::starEach es X.env:=by rfl) (a:(backTo pos (starEach es X.env)).any (·.1)=false:=by rfl) :
  PE X (.Call (.Name x p) (e::es) [] pos) (qg C sp dvs E t):=by
 intro j s d H Q I h;refine wpAny_Call_Name_kw (hW I v c ?_ b);refine W.callWith_K I.ok.mod.kin M.kp (dB (l pos j s d H _ I h) λus s1 ⟨vs,H1,I1,r,q⟩=>⟨I1.kIn,?_⟩) n a;exact uP M F hr g i u I1 r q
end
structure dC(N P:List Str)(sc:Scope):Prop where
 kind:sc.kind=.function
 co:sc.isCoroutine=false
 gen:sc.isGenerator=false
 nd:N.Nodup
 pre:N.take P.length=P
 par:∀x∈P,sc.names.lookup x=some .local\/sc.names.lookup x=some .cell
 nofree:∀y∈sc.names,y.2≠.free
theorem lG{kindOf:Str->Option NameKind}:∀{binds} {m},(∀v,(x,v)∉binds)->bindL kindOf binds m x=m x
 |[],_,_=>rfl
 | (n,v)::r,m,h=>by
  unfold bindL;rw[lG λw hw=>h w (bg _ hw)];split
  .have:x≠n:=by rintro rfl;exact h v bc
   simp[this]
  .rfl
theorem lb{kindOf:Str->Option NameKind}:∀{binds} {m},(∀v,(x,v)∉binds)->bindC kindOf binds m x=m x
 |[],_,_=>rfl
 | (n,v)::r,m,h=>by
  unfold bindC;rw[lb λw hw=>h w (bg _ hw)];split
  .rfl
  .have:x≠n:=by rintro rfl;exact h v bc
   simp[this]
theorem la{kindOf:Str->Option NameKind}:∀{P:List Str} {a:List Vq} {i:Nat} {m:Str->Option Value},P.Nodup->P[i]? = some x->a[i]? = some v->kindOf x=some .local->
  bindL kindOf (P.zip a) m x=some v
 |[],_,_,_,_,h,_,_=>by simp at h
 |_::_,[],_,_,_,_,h,_=>by simp at h
 |p::P,w::a,0,m,nd,h1,h2,hk=>by simp at h1 h2;subst h1;subst h2;show bindL kindOf ((p,w)::P.zip a) m p=_;unfold bindL;rw[lG λv b=>(bz.mp nd).1 (aU b).1,aO hk];simp
 |p::P,w::a,i+1,m,nd,h1,h2,hk=>by unfold bindL;exact la (bz.mp nd).2 (by simpa using h1) (by simpa using h2) hk
theorem lr{kindOf:Str->Option NameKind}:∀{P:List Str} {a:List Vq} {i:Nat} {m:Str->Option Value},P.Nodup->P[i]? = some x->a[i]? = some v->kindOf x≠some .local->
  bindC kindOf (P.zip a) m x=some v
 |[],_,_,_,_,h,_,_=>by simp at h
 |_::_,[],_,_,_,_,h,_=>by simp at h
 |p::P,w::a,0,m,nd,h1,h2,hk=>by simp at h1 h2;subst h1;subst h2;show bindC kindOf ((p,w)::P.zip a) m p=_;unfold bindC;rw[lb λv b=>(bz.mp nd).1 (aU b).1,aP hk];simp
 |p::P,w::a,i+1,m,nd,h1,h2,hk=>by unfold bindC;exact lr (bz.mp nd).2 (by simpa using h1) (by simpa using h2) hk
noncomputable def eP(N:List Str)(a:List V):St:=a.map some++List.replicate (N.length-a.length) none
noncomputable def c5(g:vd)(P:Program)(w:World)(K:W.Frag)(mg:Str->Option Value)(base:Heap)(N:List Str)(b:Str)(a:Scope)(f:Addr)(d:Vq)(A:Around)(outer:List Env)(s:Sq)(H:Hp)(E:XK):Cx where
 prog:=P
 w:=w
 K:=K
 mg:=mg
 base:=base
 A:=A.deeper (envOfC b a s.heap.objs.size f d)
 N:=N
 s₀:=s
 H₀:=H
 env:=envOfC b a s.heap.objs.size f d
 outer:=outer
 stack:=envOfC b a s.heap.objs.size f d::outer
 ex:=[]
 calm:=true
 fn:=λ_=>true
 pn:=[]
 xe:=λe i=>wpAny (model P w) (A.deeper (envOfC b a s.heap.objs.size f d)) (leaving (envOfC b a s.heap.objs.size f d) e) (λ_ c=>g outer H s E e c) (λh c=>g outer H s E h c) i
def fJ{a:Scope}(h:a.names.lookup x=some .cell):∃c,(cellsFrom n a.names []).lookup x=some c:=by have q:=W.cellsFrom_some a.names n [] (.inl h);exact bA.mp q
theorem rM{K:W.Frag}
  (S:dC N ps scope) (G:A.handled=none) (g:oo P w K mg base A outer s H) (J:vs.length=ps.length) (r:cO vs us)
  (x:InCallC s s.heap.objs.size (bindL (envOfC qual scope s.heap.objs.size f cd).kindOf (ps.zip us) λ_=>none) (cellsFrom (s.heap.objs.size+1) scope.names []) (bindC (envOfC qual scope s.heap.objs.size f cd).kindOf (ps.zip us) λ_=>none) s1) :
  cB (c5 CX P w K mg base N qual scope f cd A outer s H E) [] (eP N vs) H s1:=by
 have D:ps.length<=N.length:=by have:=congrArg List.length S.pre;rw[bB]at this;omega
 obtain⟨t,L,rfl,B⟩:=x.done;have l:∀b:Addr,b∉(c5 CX P w K mg base N qual scope f cd A outer s H E).ex:=λb z=>absurd (show b∈([]) from z) (by simp);refine⟨⟨g.mod,S.kind,rfl,rfl,aI _,λy z c t d=>?_,λy j=>?_,λy c _ h=>?_,λ_=>G,Around.frames_deeper g.frames,.inr ⟨rfl,rfl⟩,λb z=>absurd z (l b),g.bs,g.bsz,λb _ _=>l b,λb z=>absurd z (l b),g.funs,g.frf,g.tab⟩,
  rfl,g.bare,Un.kept B,⟨_,x.toInCall.ns,λi y v t d Q=>?_⟩,λy c h=>⟨_,x.cell y c h⟩,g.hok.fresh (aI _),λy c h=>?_,λp m=>absurd (show p∈([]) from m) (by simp),g.hok.kept B,?_⟩
 .exact name_of_addr x.apart (PySem.mem_of_lookup t) (PySem.mem_of_lookup d)
 .have j:=j;rcases j with j|j
  .exact fJ j
  .exact absurd rfl (S.nofree _ (PySem.mem_of_lookup j))
 .exact ba (x.above y c (PySem.mem_of_lookup h))
 .have o:i<vs.length:=by
   unfold eP at d;by_cases o:i<vs.length
   .exact o
   .rw[List.getElem?_append_right (by simpa using o)]at d;rw[List.getElem?_replicate]at d;split at d<;>cases d
  have I:vs[i]? = some v:=by
   unfold eP at d;rw[List.getElem?_append_left (by simpa using o),au]at d;cases e:vs[i]? with
   |none=>rw[e]at d;cases d
   |some a=>rw[e]at d;cases d;rfl
  obtain⟨u,C,F⟩:=r.get I;have m:ps[i]? = some y:=by rw[<-S.pre,List.getElem?_take_of_lt (by omega)];exact t
  have n:ps.Nodup:=by rw[<-S.pre];exact S.nd.sublist (List.take_sublist _ _)
  refine⟨u,F,?_⟩;rcases S.par y (List.mem_of_getElem? m) with k|k
  .exact .inl ⟨k,la n m C k⟩
  .obtain⟨c,e⟩:=fJ k;refine .inr ⟨.inl k,c,e,?_⟩;have q:=x.cell y c e;rw[lr n m C (by show scope.names.lookup y≠_;rw[k];decide)]at q;exact q
 .exact g.hok.fresh (ba (x.above y c (PySem.mem_of_lookup h)))
 .unfold eP;show _=N.length;rw[aR,av,bC];omega
theorem qr{K:W.Frag}{Z kV B pm c Y oc:Vq}(lk:K.lookup f=some ⟨oc,od,.func (W.fnOf name qual params body scope Z kV B pm an c Y),osl⟩)(L:W.codeIn K c qual=true)(S:dC N ps scope)
  (z:∀d H Q E,sp d H Q E->d.length=ps.length)
  (j:∀A a s H d Q E,dh k (A.deeper (envOfC qual scope s.heap.objs.size f c))->sp d H Q E->
   ∃t,kq (c5 CX P w K mg base N qual scope f c A a s H E) body t/\t {nx:=λ_ h=>Q .non h,rt:=Q} (eP N d) H) :
  fy P w K mg base CX (k+1) f (W.fnOf name qual params body scope Z kV B pm an c Y) ps sp:=by
 refine⟨z,λA a s H R us d Q E hr p hb r C=>?_⟩;have hl:=z _ _ _ _ C;have X:=p.mod.kin.keeps λb o e=>(p.bs b o e).1;have D:=p.mod.nolimit.keeps λb o e=>(p.bs b o e).1;have i:∀y∈ps.zip us,scope.names.lookup y.1=some .local\/(scope.names.lookup y.1=some .cell/\((cellsFrom (s.heap.objs.size+1) scope.names []).lookup y.1).isSome=true):=λ⟨n,v⟩ hy=>by
  rcases S.par n (aU hy).1 with q|q
  .exact .inl q
  .exact .inr ⟨q,W.cellsFrom_some _ _ _ (.inl q)⟩
 refine codeAny_call_function hr.depth (X _ _ lk) rfl S.co S.gen rfl (W.codeRec_of X L) (hb _ _ _ _ ?_);refine wpAny_newFunctionEnv_cells S.kind i λenv he U x=>?_;subst he;refine⟨D.keeps x.toInCall.keep,codeAny_func ?_⟩;obtain⟨t,ht,hq⟩:=j A a s H d Q E (hr.deeper _) C;have I:cB (c5 CX P w K mg base N qual scope f c A a s H E) [] (eP N d) H U:=rM S hr.hd p hl r x;refine wpAny_mono (ht [] U (eP N d) H _ I hq) (λfl F l=>?_) λe F l=>l;have m:∀{g:St} {h:Hp} {v:V} {u:Vq},cB (c5 CX P w K mg base N qual scope f c A a s H E) [] g h F->dA v u->Q v h->CE a P w H s Q u F:=λ{g h v u} J G q=>⟨v,h,J.os,J.bare,J.base,J.hok,G,q⟩
 cases fl with
 |ret u=>obtain⟨v,g,h,J,G,q⟩:=l;exact m J G q
 |next=>obtain⟨g,h,J,q⟩:=l;exact m (v:=V.non) J rfl q
 |brk=>obtain⟨_,_,_,q⟩:=l;exact False.elim q
 |cont=>obtain⟨_,_,_,q⟩:=l;exact False.elim q
end L2
namespace L2
open PySem PySem.Spec PyProof.Rows
section
variable {X:Cx}{x:Str}{p pos:Pos}{e:Expr}{es:List Expr}{t:TA}{id T:String}{r:List V->Hp->VK->Prop}
def vb(r:List V->Hp->VK->Prop)(t:TA):TE:=λb H Q=>t b H λc a=>r c a Q
def e8(i:eN X (.builtin id) r)(m:Gl X x)(j:X.mg x=none)(f:bootBuiltins x=some (.builtin id))(k:PA X (e::es) t)(g:x≠ "__name__" :=by decide)(b:(x==("__debug__" : Str))=false:=by decide)
  (l:starEach (e::es) X.env=(false,eval e X.env)::starEach es X.env:=by rfl) (a:(backTo pos (starEach es X.env)).any (·.1)=false:=by rfl):PE X (.Call (.Name x p) (e::es) [] pos) (vb r t):=by
 intro c s d H Q I h;refine wpAny_Call_Name_kw (jP I m j f ?_ g b);exact PyProof.Rows.callWith_builtin1 (dB (k pos c s d H _ I h) λus s1 ⟨vs,H1,I1,r1,q1⟩=>i c s1 d H1 vs us Q I1 r1 q1) l a
def qL(i:eN X (.type T) r)(m:Gl X x)(j:X.mg x=none)(f:bootBuiltins x=some (.type T))(k:PA X (e::es) t)(g:x≠ "__name__" :=by decide)(b:(x==("__debug__" : Str))=false:=by decide)
  (l:starEach (e::es) X.env=(false,eval e X.env)::starEach es X.env:=by rfl) (a:(backTo pos (starEach es X.env)).any (·.1)=false:=by rfl):PE X (.Call (.Name x p) (e::es) [] pos) (vb r t):=by
 intro c s d H Q I h;refine wpAny_Call_Name_kw (jP I m j f ?_ g b);exact PyProof.Rows.callWith_type1 (dB (k pos c s d H _ I h) λus s1 ⟨vs,H1,I1,r1,q1⟩=>i c s1 d H1 vs us Q I1 r1 q1) l a
end
end L2
namespace HT
open PySem PyProof.Rows
section
variable {prog:Program}{w:World}{A:Around}{E:Vq->Shared->Prop}{s:Sq}
def cat_tup(u:IsTup s.heap t vs.toArray)(v:IsTup s.heap b ws.toArray)(q:vs≠[])
  (y:ws=[]->Q (.ref t) s) (x:ws≠[]->Q (.ref s.heap.objs.size) {s with heap:=s.heap.push {cls:=.type "tuple",data:=.seq (vs++ws).toArray}})
  (i:vs.length+ws.length<=sizeLine):wpAny (model prog w) A (binaryOp .Add (.ref t) (.ref b)) Q E s:=by
 obtain⟨⟨cls,l,data,k⟩,h,o,n,r⟩:=id u;obtain⟨⟨p,f,j,c⟩,a,d,m,g⟩:=id v;simp only at o r d g;subst o r d g;have e:vs.toArray++ws.toArray=(vs++ws).toArray:=by simp
 by_cases hw:ws=[]
 .exact concat_meets ⟨_,h,rfl⟩ ⟨_,a,rfl⟩ noFill_tuple_add seq_tuple_add PySem.F.slot_tuple_add PySem.F.entry_tuple_add (PySem.F.args_tuple_add_2 _ _)
   (tuple_addW1 t b vs.toArray ws.toArray n m l f k c (by simpa using q) (by simp[hw])) ⟨h,a,y hw⟩
 .refine concat_meets ⟨_,h,rfl⟩ ⟨_,a,rfl⟩ noFill_tuple_add seq_tuple_add PySem.F.slot_tuple_add PySem.F.entry_tuple_add (PySem.F.args_tuple_add_2 _ _)
   (tuple_addW2 t b vs.toArray ws.toArray n m l f k c (by simpa using q) (by simpa using hw) (by rw[bq,bq];exact i)) ⟨h,a,?_⟩
  rw[e];exact x hw
noncomputable def sIx(n d:Nat):Oq Int->Nat
 |none=>d
 |some v=>if v<0 then (v+(n:Int)).toNat else min v.toNat n
def sIx_none n d:sIx n d none=d:=rfl
def sIx_nat(n d k:Nat):sIx n d (some (k:Int))=min k n:=by show (if k<0 then (k+(n:Int)).toNat else min (k:Int).toNat n)=min k n;rw[aP (by omega),bD]
def p9 v (n d:Nat):(if v<0 then max (v+(n:Int)) 0 else min v (n:Int))=((sIx n d (some v):Nat):Int):=by
 show (if v<0 then max (v+n) 0 else min v n)=(((if v<0 then (v+n).toNat else min v.toNat n):Nat):Int);by_cases a:v<0
 .simp only[aO a];omega
 .simp only[aP a];omega
def pA lo a (n:Nat):Builtin.Slice.sliceAdjust lo a 1 (n:Int)=(((sIx n 0 lo:Nat):Int),((sIx n n a:Nat):Int)):=by
 have b:¬(1<0):=by omega
 unfold Builtin.Slice.sliceAdjust;simp only[b,if_false];refine Prod.ext ?_ ?_
 .cases lo with
  |none=>rfl
  |some v=>exact p9 v n 0
 .cases a with
  |none=>rfl
  |some v=>exact p9 v n n
def oP(i j:Nat):Builtin.Slice.slicePlaces (i:Int) (j:Int) 1=j-i:=by
 unfold Builtin.Slice.slicePlaces;have a:1>0:=by omega
 simp only[a,if_true,Int.ediv_one];split<;>omega
def jY(p:IsPart v o)(h:Q o s):wpAny (model prog w) A (Builtin.Slice.slicePartIndex v) Q E s:=by
 cases p with
 |none=>exact slicePart_none h
 |int i t=>exact slicePart_int h
def gy{a b:Oq Int}{n:Nat}(e:s.heap.IsSliceOf sl vl vu .none)(g:IsPart vl a)(f:IsPart vu b)
  (h:Q (((sIx n 0 a:Nat):Int),1,sIx n n b-sIx n 0 a) s):wpAny (model prog w) A (Builtin.Slice.sliceApplied (.ref sl) (pure (n:Int))) Q E s:=by
 obtain⟨j,d,i,c⟩:=id e;unfold Builtin.Slice.sliceApplied Builtin.Slice.sliceFields;refine ak (ak (wpAny_field d c rfl (ak (wpAny_field d c rfl (ak (wpAny_field d c rfl (aj ?_)))))));refine ak (slicePart_none ?_);rw[aP (by decide)];refine ak (jY g (ak (jY f (ak (aj ?_)))));show wpAny _ _ (match Builtin.Slice.sliceAdjust a b 1 n with|(a,b)=>pure (a,(1:Int),Builtin.Slice.slicePlaces a b 1)) _ _ s;rw[pA a b n];show wpAny _ _ (pure (((sIx n 0 a):Int),1,Builtin.Slice.slicePlaces ((sIx n 0 a):Int) ((sIx n n b):Int) 1)) _ _ s;rw[oP];exact aj h
def sJ(a:Array Vq)(i k:Nat):((List.range k).filterMap λ(m:Nat)=>a[((i:Int)+(m:Int)*1).toNat]?).toArray=((a.toList.drop i).take k).toArray:=by
 have e:(λ(m:Nat)=>a[(i+(m:Int)*1).toNat]?)=λm=>a[i+m]?:=by
  funext m;have:(i+(m:Int)*1).toNat=i+m:=by omega
  rw[this]
 rw[e];have:=pick_run a i k;rw[List.filterMap_map]at this;have b:((λx=>a[x]?) ∘ λx=>i+x)=λm=>a[i+m]?:=rfl;rw[b]at this;rw[this]
theorem getItem_tuple_cut{a b:Oq Int}(d:IsTup s.heap t items)(j:s.heap.IsSliceOf sl vl vu .none)(o:IsPart vl a)(k:IsPart vu b)
  (hw:¬(sIx items.size 0 a=0/\sIx items.size items.size b=items.size))
  (h:Q (.ref s.heap.objs.size) {s with heap:=s.heap.push {cls:=.type "tuple",data:=.seq ((items.toList.drop (sIx items.size 0 a)).take (sIx items.size items.size b-sIx items.size 0 a)).toArray}})
  (l:items.size<=sizeLine):wpAny (model prog w) A (getItem (.ref t) (.ref sl)) Q E s:=by
 have c:sizeOk (.seq ((items.toList.drop (sIx items.size 0 a)).take (sIx items.size items.size b-sIx items.size 0 a)).toArray):=by show ((items.toList.drop (sIx items.size 0 a)).take (sIx items.size items.size b-sIx items.size 0 a)).toArray.size<=sizeLine;rw[bq,bB,bE,bh];omega
 obtain⟨m,g,i,n⟩:=id j;have e:s.TypeIs (.ref sl) "slice" :=⟨m,g,i⟩;unfold getItem;try with_reducible refine wpAny_holding ?_;first|refine ak (aj ?_)|skip
 refine ak (wpAny_sequenceKey d.typeIs (by decide) ?_);refine ak (wpAny_callSpecial?_slot d.typeIs PyProof.Rows.slot_tuple_getitem
  (wpAny_call_entry PyProof.Rows.slot_tuple_getitem d.typeIs entry_tuple_getitem ?_ (args_tuple_getitem _ _)))
 show wpAny _ _ (Builtin.Tuple.tupleItemsOf (.ref t) >>= _) _ _ s;refine ak (tupleItemsOf_ d ?_);refine ak (wpAny_typeOf e ?_);rw[aO (by decide)];refine ak (gy j o k ?_);have f:¬((((sIx items.size 0 a):Int)==0&&(1:Int)==1&&(sIx items.size items.size b-sIx items.size 0 a)==items.size)=true):=by intro q;rw[bF,bF]at q;have r:=eq_of_beq q.1.1;have p:=eq_of_beq q.2;exact hw ⟨by omega,by omega⟩
 show wpAny _ _ (if (((sIx items.size 0 a):Int)==0&&1==1&&(sIx items.size items.size b-sIx items.size 0 a)==items.size)=true then _ else _) _ _ s;rw[aP f,sJ];first
  |exact ak (wpAny_newObj_type (aj ⟨_,rfl,aj h⟩) c)
  |exact ak (wpAny_newObj_type (ak (aj (aj ⟨_,rfl,aj h⟩))) c)
  |exact ak (ak (wpAny_newObj_type (aj (aj ⟨_,rfl,aj h⟩)) c))
  |exact ak (ak (wpAny_newObj_type (aj ⟨_,rfl,aj h⟩) c))
end
end HT
namespace L2
open PySem PySem.Spec PyProof.Rows
abbrev TO:=St->Hp->(Option Int->Hp->Prop)->Prop
def PO(X:Cx)(e:Oq Expr)(t:TO):Prop:=
 ∀(b:List (Addr×Obj)) (s:Sq) (a:St) (H:Hp) (Q:Oq Int->Hp->Prop),cB X b a H s->t a H Q->
  wpAny (model X.prog X.w) X.A (evalPart e X.env) (λu d=>∃o c,cB X b a c d/\IsPart u o/\Q o c) X.xe s
def pP:TO:=λ_ H Q=>Q none H
def xG(t:TE):TO:=λb H Q=>t b H λx a=>∃i,x=.int i/\Q (some i) a
section
variable {X:Cx}{e:Expr}{te:TE}{lo hi:Oq Expr}{tl th:TO}{pos p2:Pos}
def wF:PO X none pP:=by intro a s b H Q I h;rw[evalPart_none];exact aj ⟨none,H,I,.none,h⟩
def vz(h:PE X e te):PO X (some e) (xG te):=by intro a s b H Q I hw;rw[evalPart_some];refine dB (h a s b H _ I hw) λu s1 ⟨x,H1,I1,r1,q1⟩=>?_;obtain⟨i,rfl,q⟩:=q1;obtain⟨t,rfl⟩:=r1;exact⟨some i,H1,I1,.int i t,q⟩
def xF(X:Cx)(r:V->Option Int->Option Int->Hp->VK->Prop):Prop:=
 ∀(b:List (Addr×Obj)) (s:Sq) (f:St) (H:Hp) (x:V) (v a c:Vq) (lo hi:Oq Int) (d:Addr) (Q:VK),cB X b f H s->dA x v->s.heap.IsSliceOf d a c .none->IsPart a lo->IsPart c hi->r x lo hi H Q->
  ∃T id,typeLookup (.type T) "__getitem__" = pure (some (.builtin id))/\s.TypeIs v T/\wpAny (model X.prog X.w) X.A (getItem v (.ref d)) (EP X b f Q) X.xe s
def xF.or(h:xF X r)(h':xF X r'):xF X (λx lo hi H Q=>r x lo hi H Q\/r' x lo hi H Q):=by
 intro i s f H x v g j lo hi a Q I b c k d q;rcases q with q|q
 .exact h i s f H x v g j lo hi a Q I b c k d q
 .exact h' i s f H x v g j lo hi a Q I b c k d q
def Dd(r:V->Option Int->Option Int->Hp->VK->Prop)(te:TE)(tl th:TO):TE:=λa H Q=>te a H λx c=>tl a c λl b=>th a b λu d=>r x l u d Q
def uO(hr:xF X r)(j:PE X e te)(d:PO X lo tl)(k:PO X hi th):PE X (.Subscript e (.Slice lo hi none p2) pos) (Dd r te tl th):=by intro c s a H Q I h;refine Subscript_ (dB (j c s a H _ I h) λv s1 ⟨x,H1,I1,r1,q1⟩=>?_);refine wpAny_Slice (dB (d c s1 a H1 _ I1 q1) λvl s2 ⟨l,H2,I2,pl,q2⟩=>dB (k c s2 a H2 _ I2 q2) λvu s3 ⟨u,H3,I3,pu,q3⟩=>?_);rw[evalPart_none];refine aj ?_;have i:cB X c a H3 {s3 with heap:=s3.heap.push {cls:=.type "slice",data:=.fields #[vl,vu,.none]}}:=I3.kept λb n q=>ae _ q;obtain⟨T,id,f,g,m⟩:=hr c {s3 with heap:=s3.heap.push {cls:=.type "slice",data:=.fields #[vl,vu,.none]}} a H3 x v vl vu l u s3.heap.objs.size Q i r1 (Heap.IsSliceOf.new ..) pl pu q3;exact tail_any g f m (by with_unfolding_all rfl)
noncomputable def uU(a:List V)(lo hi:Oq Int):List V:=(a.drop (HT.sIx a.length 0 lo)).take (HT.sIx a.length a.length hi-HT.sIx a.length 0 lo)
def jw xs lo hi:(uU xs lo hi).length<=xs.length:=by unfold uU;rw[bB,bE];omega
def A9(K:W.Frag):V->Option Int->Option Int->Hp->VK->Prop:=λx lo hi H Q=>∃a b,x=.ref a/\fY K H a b/\
 ¬(HT.sIx b.length 0 lo=0/\HT.sIx b.length b.length hi=b.length)/\∀p,H p=none->Q (.ref p) (c6 H p (.tup (uU b lo hi)))
def yU:xF X (A9 X.K):=by
 intro w s t H x v u y lo hi o Q I j k n l h;obtain⟨a,c,rfl,m,hw,q⟩:=h;cases j;obtain⟨f,r,i,g⟩:=I.tuple m;have d:f.toArray.size=c.length:=by rw[bq];exact r.length.symm
 refine⟨"tuple",_,PyProof.Rows.slot_tuple_getitem.lookup,i.typeIs,?_⟩;refine HT.getItem_tuple_cut i k n l (by rw[d];exact hw) ?_ (by rw[d];exact g);rw[d];refine⟨.ref s.heap.objs.size,_,I.laid (λb p q=>ae _ q) (aI _) ?_,rfl,q _ (I.hok.fresh (aI _))⟩;exact⟨aL (jw c lo hi) g,_,(r.drop (HT.sIx c.length 0 lo)).take (HT.sIx c.length c.length hi-HT.sIx c.length 0 lo),mS.new _ _⟩
def Au(K:W.Frag):R2:=λx y H Q=>∃a b d c,x=.ref a/\y=.ref b/\fY K H a d/\fY K H b c/\d≠[]/\d.length+c.length<=sizeLine/\
 (c=[]->Q (.ref a) H)/\(c≠[]->∀p,H p=none->Q (.ref p) (c6 H p (.tup (d++c))))
def cO.nil_iff(r:cO xs us):us=[]↔xs=[]:=by
 cases r with
 |nil=>simp
 |cons _ _=>simp
def xk:gR X (binaryOp .Add) (Au X.K):=by intro C s B H x y v u Q I i m h;obtain⟨a,b,t,D,rfl,rfl,k,j,o,f,p,n⟩:=h;cases i;cases m;obtain⟨r,d,l,_⟩:=I.tuple k;obtain⟨g,c,p2,_⟩:=I.tuple j;refine HT.cat_tup l p2 (λz=>o (d.nil_iff.mp z)) (λz=>⟨.ref a,H,I,rfl,p (c.nil_iff.mp z)⟩) (λz=>?_) (by rw[<-d.length,<-c.length];exact f);refine⟨.ref s.heap.objs.size,_,I.laid (λb A q=>ae _ q) (aI _) ?_,rfl,n (λw=>z (c.nil_iff.mpr w)) _ (I.hok.fresh (aI _))⟩;exact⟨by rw[aR];exact f,_,d.append c,mS.new _ _⟩
end
end L2
namespace L2
open PySem PySem.Spec PyProof.Rows
noncomputable def vW(n:Nat)(i:Int):Oq Nat:=if 0<=i then (if i<n then some i.toNat else none) else if -(n:Int)<=i then some (i+n).toNat else none
noncomputable def kr{a:Type}(b:List a)(i:Int):Oq a:=(vW b.length i).bind λj=>b[j]?
def wA(h:vW n i=some j):seqIndex? i n=some j/\j<n/\-(n:Int)<=i/\i<n:=by
 unfold vW at h;by_cases b:0<=i
 .rw[aO b]at h;by_cases a:i<n
  .rw[aO a]at h;have e:=Option.some.inj h;exact⟨by rw[seqIndex_of b a,e],by omega,by omega,a⟩
  .rw[aP a]at h;cases h
 .rw[aP b]at h;by_cases a:-n<=i
  .rw[aO a]at h;have e:=Option.some.inj h;exact⟨by rw[seqIndex_neg (by omega) a,e],by omega,a,by omega⟩
  .rw[aP a]at h;cases h
def mT{a:List α}{v:α}(h:kr a i=some v):∃j,seqIndex? i a.length=some j/\a[j]? = some v/\j<a.length/\-(a.length:Int)<=i/\i<a.length:=by
 unfold kr at h;cases e:vW a.length i with
 |none=>rw[e]at h;cases h
 |some j=>rw[e]at h;obtain⟨d,c,b,f⟩:=wA e;exact⟨j,d,h,c,b,f⟩
def vR{a:List α}{j:Nat}{v:α}(h:a[j]? = some v):kr a (j:Int)=some v:=by
 have b:=(aa.mp h).1;have e:vW a.length j=some j:=by unfold vW;rw[aO (by omega),aO (by omega)];simp
 unfold kr;rw[e];exact h
def mU(b:Expr):Prop:=∀o i,subscripted b false o i=operate [o,i] (getItem o i)
def vg(X:Cx)(r:R2):Prop:=
 ∀(b a:Expr) (c:List (Addr×Obj)) (s:Sq) (d:St) (H:Hp) (x y:V) (v u:Vq) (Q:VK),cB X c d H s->dA x v->dA y u->r x y H Q->
  subscripted a false v u=operate [v,u] (getItem v u)->wpAny (model X.prog X.w) X.A (subscriptTail b a v u) (EP X c d Q) X.xe s
def DN(X:Cx)(id:String)(r:V->List V->Hp->VK->Prop):Prop:=
 ∀(a:List (Addr×Obj)) (s:Sq) (d:St) (H:Hp) (x:V) (b:List V) (v:Vq) (c:List Vq) (Q:VK),cB X a d H s->dA x v->cO b c->r x b H Q->
  wpAny (model X.prog X.w) X.A (call (.builtin id) (v::c)) (EP X a d Q) X.xe s
section
variable {X:Cx}{a b:Expr}{ta tb:TE}{pos:Pos}
def vg.or(h:vg X r)(h':vg X r'):vg X (λx y H Q=>r x y H Q\/r' x y H Q):=by
 intro c d f s g H x y v u Q I j i q e;rcases q with q|q
 .exact h c d f s g H x y v u Q I j i q e
 .exact h' c d f s g H x y v u Q I j i q e
def xN(hr:vg X r)(k:PE X a ta)(i:PE X b tb)(e:mU b):PE X (.Subscript a b pos) (jN r ta tb):=by intro j s g H Q I h;exact Subscript_ (ya k i I h λv u d x y f m c l q=>hr a b j d g f x y v u Q m c l q (e _ _))
def AI(K:W.Frag):R2:=λx y H Q=>∃p c i v,x=.ref p/\y=.int i/\fX K H p c/\kr c i=some v/\Q v H
def AM(K:W.Frag):R2:=λx y H Q=>∃p c i v,x=.ref p/\y=.int i/\fY K H p c/\kr c i=some v/\Q v H
def AC:R2:=λx y H Q=>∃z i c,x=.str z/\y=.int i/\z.length<=sizeLine/\kr z.cps.toList i=some c/\Q (.str ⟨#[c]⟩) H
def wy:vg X (AI X.K):=by
 intro k e F s D H x y v u Q I C J h o;obtain⟨p,S,i,z,rfl,rfl,N,L,q⟩:=h;cases C;obtain⟨t,rfl⟩:=J;obtain⟨l,r,m,R⟩:=I.list N;obtain⟨j,d,G,Y,E,P⟩:=mT L;obtain⟨w,A,f⟩:=r.get G;have B:=r.length;have U:=oK;have c:EP X F D Q w s:=⟨z,H,I,f,q⟩;by_cases n:0<=i
 .have g:i.toNat=j:=by rw[seqIndex_of n P]at d;exact Option.some.inj d
  exact item_listR m.isList n (by omega) (by rw[g];simpa using A) c o
 .have g:(i+l.toArray.size).toNat=j:=by rw[seqIndex_neg (by omega) E]at d;rw[bq,<-B];exact Option.some.inj d
  exact subscriptTail_builtinR m.isList.typeIs slot_list_getitem.lookup
   (wpAny_getItem_list_neg m.isList (by omega) (by rw[bq]<;>omega) (by omega) (by rw[g];simpa using A) ⟨rfl,c⟩) o
def yN:vg X (AM X.K):=by
 intro f d A s o H x y v u Q I l C h m;obtain⟨p,L,i,z,rfl,rfl,E,D,q⟩:=h;cases l;obtain⟨t,rfl⟩:=C;obtain⟨F,r,g,J⟩:=I.tuple E;obtain⟨j,G,B,R,P,S⟩:=mT D;obtain⟨w,n,e⟩:=r.get B;have k:=r.length;have N:=oK;have c:EP X A o Q w s:=⟨z,H,I,e,q⟩;exact subscriptTail_builtinR g.typeIs slot_tuple_getitem.lookup
  (getItem_tuple g (by omega) (by omega) (by rw[bq,<-k];exact G) (by simpa using n) ⟨rfl,c⟩) m
def Ac:vg X AC:=by
 intro e d G s E H x y v u Q I l p h m;obtain⟨z,i,c,rfl,rfl,B,r,q⟩:=h;obtain⟨t,rfl⟩:=l;obtain⟨D,rfl⟩:=p;obtain⟨j,f,o,F,n,A⟩:=mT r;have g:z.cps.toList.length=z.length:=by simp[Str.length]
 rw[g]at f n A;have C:=oK;exact tail_any (typeIs_str s z t) slot_str_getitem.lookup (getItem_str (by have k:decide (i < -(2 ^ 63))=false:=az (by omega);have w:decide (i >= 2 ^ 63)=false:=az (by omega);rw[k,w,Bool.or_false]) (by rw[f];simpa using o) ⟨.str ⟨#[c]⟩,H,I.tok _,⟨_,rfl⟩,q⟩) m
def CC(K:W.Frag):R2:=λx y H Q=>AI K x y H Q\/AM K x y H Q\/AC x y H Q
def yg:vg X (CC X.K):=wy.or (yN.or Ac)
def mx lo hi n:(sliceBounds lo hi none n).1=((HT.sIx n 0 lo:Nat):Int)/\(sliceBounds lo hi none n).2.1=((HT.sIx n n hi:Nat):Int)/\(sliceBounds lo hi none n).2.2=1:=by
 refine⟨?_,?_,rfl⟩
 .cases lo with
  |none=>simp[sliceBounds,HT.sIx]
  |some i=>
   simp only[sliceBounds,HT.sIx,Option.getD_none,show 1>0 by decide,if_true];by_cases h:i<0
   .simp only[h,if_true]<;>omega
   .simp only[h,if_false]<;>omega
 .cases hi with
  |none=>simp[sliceBounds,HT.sIx]
  |some i=>
   simp only[sliceBounds,HT.sIx,Option.getD_none,show 1>0 by decide,if_true];by_cases h:i<0
   .simp only[h,if_true]<;>omega
   .simp only[h,if_false]<;>omega
def kW(its:List Vq) lo hi:slicePick its.toArray lo hi none=((its.drop (HT.sIx its.length 0 lo)).take (HT.sIx its.length its.length hi-HT.sIx its.length 0 lo)).toArray:=by obtain⟨e,c,d⟩:=mx lo hi its.toArray.size;unfold slicePick;rw[e,c,d];simp only[sliceRange_one,pick_run,bq]<;>rfl
def Ay(K:W.Frag):V->Option Int->Option Int->Hp->VK->Prop:=λx e d H Q=>∃a c,x=.ref a/\fX K H a c/\∀p,H p=none->Q (.ref p) (c6 H p (.lst (uU c e d)))
def v5:xF X (Ay X.K):=by intro y s u H x v w z d f p Q I i j o k h;obtain⟨a,c,rfl,m,q⟩:=h;cases i;obtain⟨n,r,e,g⟩:=I.list m;have l:=r.length;refine⟨"list",_,slot_list_getitem.lookup,e.isList.typeIs,?_⟩;refine wpAny_getItem_list_slice e.isList j o k .none (by simp) ?_ (by rw[bq]<;>omega);rw[kW,<-l];refine⟨.ref s.heap.objs.size,_,I.laid (λb t q=>ae _ q) (aI _) ?_,rfl,q _ (I.hok.fresh (aI _))⟩;exact⟨aL (jw c d f) g,_,0,(r.drop (HT.sIx c.length 0 d)).take (HT.sIx c.length c.length f-HT.sIx c.length 0 d),aq _ rfl⟩
def kX:eN X (.type "tuple") (λm H Q=>∃p d,m=[.ref p]/\((fX X.K H p d/\∀l,H l=none->Q (.ref l) (c6 H l (.tup d)))\/(fY X.K H p d/\Q (.ref p) H))):=by
 intro x s w H m z Q I r h;obtain⟨p,d,rfl,h⟩:=h;obtain⟨u,rfl,v⟩:=iw r;cases v;rcases h with⟨i,q⟩|⟨i,q⟩
 .obtain⟨c,g,j,k⟩:=I.list i;have A:=g.length;refine call_tuple_list j.isList (λf t=>?_) (by simp only[bq]<;>omega);have n:=I.kept (t':=s.toks) t;have y:cB X x w (c6 H f.objs.size (.tup d)) {s with heap:=f.push {cls:=.type "tuple",data:=.seq c.toArray}}:=
   n.laid (λb o e=>ae _ e) (aI _) (⟨k,c,g,mS.new _ _⟩)
  exact⟨.ref f.objs.size,_,y,rfl,q _ (n.hok.fresh (aI _))⟩
 .obtain⟨c,g,j,k⟩:=I.tuple i;exact call_tuple_same j ⟨.ref p,H,I,rfl,q⟩
def Bb(K:W.Frag)(T:String)(x:V)(H:Hp):Prop:=match x with
 |.str _=>T = "str"
 |.int _=>T = "int"
 |.ref p=>(T = "list" /\∃d,fX K H p d)\/(T = "tuple" /\∃o,K.lookup p=some o/\o.cls=.type "tuple" /\o.dict=none)\/
   (T = "dict" /\((∃c,H p=some (.dK c))\/∃c,H p=some (.dT c)))\/(T = "set" /\∃S n,H p=some (.set S n))
 |_=>False
theorem yx{w:List (Addr×Obj)}{u:St}{H:Hp}{s:Sq}{T:String}{x:V}{v:Vq}(I:cB X w u H s)(r:dA x v)(g:Bb X.K T x H) :
  s.TypeIs v T/\∀a,v=.ref a->∃l,s.heap.get? a=some l/\l.dict=none:=by
 cases x with
 |str z=>obtain⟨t,rfl⟩:=r;cases (g);exact⟨typeIs_str s z t,λ_ e=>nomatch e⟩
 |int i=>obtain⟨t,rfl⟩:=r;cases (g);exact⟨typeIs_int s i t,λ_ e=>nomatch e⟩
 |ref p=>
  cases r;rcases g with⟨rfl,B,y⟩|⟨rfl,o,d,q,h⟩|⟨rfl,d⟩|⟨rfl,S,n,d⟩
  .obtain⟨A,_,m,_⟩:=I.list y;refine⟨m.isList.typeIs,λa e=>?_⟩;cases e;obtain⟨o,n,e,c,h,_⟩:=m;exact⟨o,e,h⟩
  .refine⟨⟨o,I.kIn p o d,q⟩,λa e=>?_⟩;cases e;exact⟨o,I.kIn _ o d,h⟩
  .have z:∃o,s.heap.get? p=some o/\o.ExactDict:=by
    rcases d with⟨k,d⟩|⟨k,d⟩
    .obtain⟨_,_,_,_,o,_,_,e,f,_⟩:=I.hok p _ d;exact⟨o,e,f⟩
    .obtain⟨_,_,_,_,o,_,_,e,f,_⟩:=I.hok p _ d;exact⟨o,e,f⟩
   obtain⟨o,e,f⟩:=z;refine⟨⟨o,e,f.1⟩,λa j=>?_⟩;cases j;exact⟨o,e,f.2.1⟩
  .obtain⟨o,_,_,_,e,f,_⟩:=I.hok p _ d;refine⟨⟨o,e,f.1⟩,λa j=>?_⟩;cases j;exact⟨o,e,f.2.1⟩
 |_=>exact False.elim g
def xW(K:W.Frag)(T:String)(r:V->List V->Hp->VK->Prop)(to:TE)(t:TA):TE:=λd H Q=>to d H λx c=>Bb K T x c/\t d c λf e=>r x f e Q
variable {o e:Expr}{es:List Expr}{to:TE}{t:TA}{name:Str}{apos cpos:Pos}{T id:String}{r:V->List V->Hp->VK->Prop}
def qo(q:PlainAttrs T)(g:Slot T name id)(k:typeOf (.builtin id)=pure (.type "method_descriptor"))(n:DN X id r)(m:PE X o to)(w:PA X (e::es) t)
  (d:attributeBase o name X.env (eval o X.env)=eval o X.env:=by rfl)
  (f:((backTo cpos (starEach (e::es) X.env)).all (λx=>!x.1)&&(backToKw cpos (keywordEach [] X.env)).all (λx=>x.1.isSome)
   && decide ((e::es).length+([]:List Keyword).length+(if ([]:List Keyword).isEmpty then 0 else 1)<30))=true:=by rfl)
  (c:(apos.endLine==cpos.line)=true:=by rfl) (p:starEach (e::es) X.env=(false,eval e X.env)::starEach es X.env:=by rfl) (hplain:(backTo cpos (starEach es X.env)).any (·.1)=false:=by rfl) :
  PE X (.Call (.Attribute o name apos) (e::es) [] cpos) (xW X.K T r to t):=by
 intro j s i H Q I h;refine wpAny_Call_method_late d f c rfl (dB (m j s i H _ I h) λv s1 ⟨x,H1,I1,r1,ty,q1⟩=>?_);obtain⟨y,u⟩:=yx I1 r1 ty;refine⟨T,id,q,g,k,y,u,?_⟩;have l:=w cpos j s1 i H1 _ I1 q1;rw[p]at l ⊢;refine Calls.callWith_builtin (by show (false||(backTo cpos (starEach es X.env)).any (·.1))=false;rw[hplain]<;>rfl) (Calls.evalArgs_plain ?_);exact dB l λus s2 ⟨vs,H2,I2,r2,q2⟩=>n j s2 i H2 x vs v us Q I2 r1 r2 q2
end
end L2
namespace L2
open PySem PySem.Spec PyProof.Rows
def BK(X:Cx)(id:String)(r:V->List V->Hp->VK->Prop):Prop:=
 ∀(a:List (Addr×Obj)) (s:Sq) (d:St) (H:Hp) (x:V) (b:List V) (v:Vq) (c:List Vq) (Q:VK),cB X a d H s->dA x v->cO b c->r x b H Q->
  wpAny (model X.prog X.w) X.A (call (.builtin id) (v::c)) (EP X a d Q) X.xe s
theorem cO.one:∀{x} {us},cO [x] us->∃u,us=[u]/\dA x u
 |_,_,.cons r .nil=>⟨_,rfl,r⟩
theorem cO.rep(h:cO xs us):∀k:Nat,cO (List.replicate k xs).flatten (List.replicate k us).flatten
 |0=>.nil
 |k+1=>by rw[bG,bG,bH,bH];exact cO.append h (cO.rep h k)
theorem lV(its:List Vq):∀k a,
  List.foldl (λd c=>d++c) a.toArray (List.replicate k its.toArray)=(a++(List.replicate k its).flatten).toArray
 |0,a=>by simp
 |k+1,a=>by
  have e:a.toArray++its.toArray=(a++its).toArray:=by simp
  have b:(a++its)++(List.replicate k its).flatten=a++(List.replicate (k+1) its).flatten:=by rw[bG,bH,bJ]
  rw[<-b,<-lV its k (a++its),<-e,bG,List.foldl_cons]
section
variable {X:Cx}{ck:List (Addr×Obj)}{σ:St}{H:Hp}{s:Sq}{l b:Addr}{xs ys zs:List V}
def cB.lset{its a:List Vq}(I:cB X ck σ H s)(h:H l=some (.lst xs))
  (e:s.heap.get? l=some {cls:=.type "list",data:=.seq its.toArray n}) (j:f its.toArray=a.toArray) (d:cO ys a) (g:ys.length<=sizeLine) :
  cB X ck σ (c6 H l (.lst ys)) {s with heap:=s.heap.update l (Obj.mapSeq f),toks:=t'}:=by
 have q:=PySem.IsL.update e f;rw[j]at q;refine I.write (by rw[h];exact trivial) (.inl rfl) (λk u c i=>(Heap.get?_update_other s.heap (Obj.mapSeq f) (Ne.symm c)).trans i) ⟨_,q⟩ ?_;exact⟨g,a,_,d,q⟩
def cB.lnew(I:cB X ck σ H s)(a:cO ys its)(c:ys.length<=sizeLine) :
  cB X ck σ (c6 H s.heap.objs.size (.lst ys)) {s with heap:=s.heap.push {cls:=.type "list",data:=.seq its.toArray},toks:=t'}:=
 I.laid (λ_ _ q=>ae _ q) (aI _) ⟨c,its,0,a,aq _ rfl⟩
def cB.fresh(I:cB X ck σ H s):H s.heap.objs.size=none:=I.hok.fresh (aI _)
def cB.lstM(I:cB X ck σ H s)(a:H l=some (.lst xs)):xs.length<=sizeLine/\∃its n,cO xs its/\xs.length=its.length/\s.heap.get? l=some {cls:=.type "list",data:=.seq its.toArray n}:=by obtain⟨z,its,n,r,e⟩:=I.hok l _ a;exact⟨z,its,n,r,r.length,e⟩
def uL(h:n<=sizeLine):Builtin.List.listTooLong n=false:=by unfold Builtin.List.listTooLong;exact az (by omega)
end
section
variable {X:Cx}
def mz:V->List V->Hp->VK->Prop:=λx b H Q=>∃l a y,x=.ref l/\b=[y]/\H l=some (.lst a)/\a.length<sizeLine/\Q .non (c6 H l (.lst (a++[y])))
def qU:BK X "list.append" mz:=by intro p s o H x k v m Q I c d h;obtain⟨l,j,y,rfl,rfl,b,i,q⟩:=h;cases c;obtain⟨u,rfl,f⟩:=d.one;obtain⟨z,a,n,r,g,e⟩:=I.lstM b;refine call_meets F.slot_list_append ⟨_,e,rfl⟩ F.entry_list_append (F.args_list_append_2 _ _) (PySem.list_append l a.toArray n u (by rw[bq];omega)) ⟨e,?_⟩;refine⟨.non,_,I.lset b e (by simp) (r.append (.cons f .nil)) ?_,rfl,q⟩;rw[aR,bK];omega
def yA:R2:=λx y H Q=>∃l b c a,x=.ref l/\y=.ref b/\H l=some (.lst c)/\H b=some (.lst a)/\c.length+a.length<=sizeLine/\∀p,H p=none->Q (.ref p) (c6 H p (.lst (c++a)))
def sO:gR X (binaryOp .Add) yA:=by
 intro D s B H x y v u Q I d k h;obtain⟨l,b,w,C,rfl,rfl,j,g,t,q⟩:=h;cases d;cases k;obtain⟨z,c,n,r,p,e⟩:=I.lstM j;obtain⟨E,a,A,o,f,m⟩:=I.lstM g;refine PySem.P.add_list e m ?_ (by rw[bq,bq];omega);have i:c.toArray++a.toArray=(c++a).toArray:=by simp
 rw[i];exact⟨.ref _,_,I.lnew (r.append o) (by rw[aR];omega),rfl,q _ I.fresh⟩
def Bh:R2:=λx y H Q=>∃l k a,x=.ref l/\y=.int k/\H l=some (.lst a)/\-(2 ^ 63)<=k/\k<2 ^ 63/\a.length*k.toNat<=sizeLine/\
 ∀p,H p=none->Q (.ref p) (c6 H p (.lst (List.replicate k.toNat a).flatten))
def wQ{b:Type}(a:List b) k:(List.replicate k a).flatten.length=k*a.length:=by
 induction k with
 |zero=>simp
 |succ k ih=>rw[bG,bH,aR,ih,Nat.succ_mul,Nat.add_comm]
def yk:gR X (binaryOp .Mult) Bh:=by
 intro N s L H x y v u Q I w E h;obtain⟨l,k,K,rfl,rfl,D,J,C,o,q⟩:=h;cases w;obtain⟨t,rfl⟩:=E;obtain⟨z,b,n,r,p,e⟩:=I.lstM D;have B:b.toArray.size*k.toNat<=sizeLine:=by rw[bq,<-p];exact o
 have d:¬b.toArray.size*k.toNat>(2 ^ 63-1) / 8:=by
  have:sizeLine<=(2 ^ 63-1) / 8:=by decide
  omega
 have f:¬(!Builtin.List.listFitsIndex k)=true:=by rw[fitsIndex_both J C];exact aF
 have c:¬Builtin.List.listTooLong (b.toArray.size*k.toNat)=true:=by rw[uL B];exact aF
 have g:List.foldl (λj i=>j++i) #[] (List.replicate (if b.toArray.isEmpty=true then 0 else k.toNat) b.toArray)=(List.replicate k.toNat b).flatten.toArray:=by
  have G:∀m:Nat,List.foldl (λj i=>j++i) #[] (List.replicate m b.toArray)=(List.replicate m b).flatten.toArray:=λm=>by have:=lV b m [];rw[List.nil_append]at this;exact this
  rw[G];cases b with
  |nil=>simp
  |cons a r'=>rw[aP (by simp)]
 refine wpAny_binaryOp_repeat_ref (by decide) ⟨_,e,rfl⟩ (λA=>typeIs_int A k t) noFill_list_mul F.fills_int_mul F.slot_int_rmul repeat_list F.slot_int_index.lookup
  (call_meets F.slot_int_rmul (typeIs_int s k t) F.entry_int_rmul (F.args_int_rmul_2 _ _) (int___rmul___int_list k t l b.toArray n)
   ⟨e,rfl,⟨_,e,rfl⟩,call_meets F.slot_list_mul ⟨_,e,rfl⟩ F.entry_list_mul (F.args_list_mul_2 _ _) (AutoListH.list___mul___list_int_3 l b.toArray n k t f d c) ⟨e,?_⟩⟩)
 rw[g];exact⟨.ref _,_,I.lnew (r.rep k.toNat) (by rw[wQ,Nat.mul_comm];exact o),rfl,q _ I.fresh⟩
end
end L2
namespace Att
open PySem PySem.W PySem.Calls PyProof.Rows
def jG:∀ns c,WellAll P h c (ns.map WData.int)->IntsAre c ns:=by
 intro ns;induction ns with
 |nil=>intro c w;rw[List.map_nil]at w;cases w;exact .nil
 |cons n ns ih=>
  intro c w;rw[br]at w;cases w with
  |cons a b=>cases a;exact .cons _ _ (ih _ b)
theorem script_of{l:OpenLaw}(k:l.most=some n)
  (b:l.row.toRowW.claim.pre args=true) (g:WellAll P h vals args) :
  ∃a i ns,vals=[Value.ref a]/\args=[WData.list (ns.map WData.int)]/\h.get? a=some {cls:=.type "list",data:=.seq i.toArray}/\IntsAre i ns/\ns.length<=n:=by
 have f:=(pre_splitW b).1;have j:l.pre.holds [] {args:=args}=true:=(pre_splitW b).2;obtain⟨d,r,rfl,s,p⟩:=hasAllW_cons f;obtain rfl:=hasAllW_nil p;obtain⟨t,rfl,o⟩:=hasW_list s;obtain⟨ns,rfl⟩:=items_int o;have m:ns.length<=n:=by
  unfold OpenLaw.pre at j;have c:(WTm.not (.lt (.lit (.int n)) (.len (.arg 0)))).holds [] {args:=[.list (ns.map .int)]}=true:=by have c:=(holds_andW j).1;rw[k]at c;exact c
  have e:=condW_of c (w_not (w_lt w_lit (w_len_list (w_arg rfl))));rw[av]at e;refine Nat.le_of_not_lt λq=>?_;first
   | (rw[decide_eq_true q']at e;exact absurd e (by decide))
   | (simp at e;omega)
 cases g with
 |cons w1 w2=>
  cases w2;cases w1 with
  |list ho C8=>exact⟨_,_,ns,rfl,rfl,ho,jG ns _ C8,m⟩
def post_true(l:OpenLaw) args:l.row.toRowW.claim.post args (.bool true) args=true:=
 postW_of
  (show WShape.has [] (.bool true) .bool=true by first|rfl|decide|simp[WShape.has,WShape.arms,WShape.armsAll])
  (w_eq_bool (w_res rfl) w_lit) rfl
end Att
namespace L2
open PySem PySem.Spec PyProof.Rows
theorem lh:∀{vs} {ns},IntsAre vs ns->cO (ns.map V.int) vs
 |_,_,.nil=>.nil
 |_,_,.cons n t h=>.cons ⟨t,rfl⟩ (lh h)
def yX(H:Hp):Prop:=∀b,H b=none\/∃o a,H b=some (.frz o (.lst a))
def nW(h:Heap)(H:Hp)(a:List (Addr×Addr)):Heap:=⟨(uI h H).objs,{ids:=a}⟩
theorem tW{K:W.Frag}
  (KX:K.In s₁.heap) (B:s₁.heap.Ns mainGlobals mg) (f:s₁.heap.Ns builtinsNs mb) (Q:∀x:Str,x≠ "__name__" ->mb x=bootBuiltins x) (C:s₁.heap.NoLimit) (hg:s₁.gens = #[])
  (J:s₁.heap.get? a=some {cls:=.type "list",data:=.seq vs.toArray}) (hi:IntsAre vs ns) (X:ns.length<=sizeLine) (hr:dh k callerA)
  (F:∀base:Heap,K.In base->base.Ns mainGlobals mg->fy P w K mg base CX k fa fd [x] sp) (l:∀(s:Sq) (u:Vq),BindsTo s fd ⟨[u],[]⟩ [(x,u)])
  (U:∀H:Hp,yX H->fX K H a (ns.map V.int)->sp [.ref a] H (λv _=>v=.bl true) λ_ _ _=>False)
  (S:∀H e g,CX [] H s₁ (λ_ _ _=>False) e g->False) :
  codeAny (model P w) callerA (.call (.ref fa) ⟨[.ref a],[]⟩) (λr g=>r=.ok (.ret (.bool true))/\OldK s₁.heap g.heap/\g.os=s₁.os/\AllBare g.gens) s₁:=by
 have rv:=lh hi;have p:=hi.length;have j:∀H:Hp,yX H->fX K H a (ns.map V.int)->hZ P w H s₁.heap->(∀b,H b≠none->b=a)->(H a≠none->K.lookup a=none)->
   codeAny (model P w) callerA (.call (.ref fa) ⟨[.ref a],[]⟩) (λr g=>r=.ok (.ret (.bool true))/\OldK s₁.heap g.heap/\g.os=s₁.os/\AllBare g.gens) s₁:=by
  intro H hO hS A Z hK;have base_of:∀{b:Addr} {o:Obj},s₁.heap.get? b=some o->H b=none->(nW s₁.heap H []).get? b=some o:=λe n=>uK e n;have R:∀{b:Addr} {o:Obj} {G:Array DictEntry} {I:Nat},s₁.heap.get? b=some o->o.data=.dict G I->H b=none:=λ{b o G I} e d=>by
   cases q:H b with
   |none=>rfl
   |some u=>have L:=Z b (by rw[q];simp);subst L;rw[J]at e;cases e;have d':=d;cases d'
  have i:∀{b:Addr} {m:Str->Option Value},s₁.heap.Ns b m->(nW s₁.heap H []).Ns b m:=λ{b m} ⟨o,G,I,e,d,r⟩=>⟨o,G,I,base_of e (R e d),d,r⟩;have t:K.In (nW s₁.heap H []):=λb o e=>base_of (KX b o e) (by
   cases q:H b with
   |none=>rfl
   |some u=>have L:=Z b (by rw[q];simp);subst L;rw[hK (by rw[q];simp)]at e;cases e)
  have hM:Mod K mg (nW s₁.heap H []):=⟨t,i B,⟨mb,i f,Q⟩,let ⟨mc,h1,h2⟩:=C;⟨mc,i h1,h2⟩⟩;have e0:oo P w K mg (nW s₁.heap H []) callerA [] s₁ H:=⟨rfl,hM,λb o e=>vH e,Nat.le_of_eq (qI _ _),trivial,λb f=>absurd (show b∈([]) from f) (by simp),A,.of_eq hg,λc P qn hm=>nomatch (show (c,P)∈([]:List (Addr×Addr)) from hm)⟩;refine codeAny_mono ((F _ t (i B)).run callerA [] s₁ H ⟨[.ref a],[]⟩ [.ref a] [.ref a] _ _ hr e0 (l s₁ (.ref a)) (.cons rfl .nil) (U H hO hS)) λr g h=>?_;cases r with
  |error e=>exact (S H e g h).elim
  |ok fl=>
   cases fl with
   |next=>exact False.elim h
   |brk=>exact False.elim h
   |cont=>exact False.elim h
   |ret u=>
    obtain⟨v,H',os,y,un,D,r',q⟩:=h;have q':=q;subst q';obtain rfl:u=Value.bool true:=r';refine⟨rfl,OldK.of_keep λb o e=>?_,os,y⟩;cases q:H b with
    |none=>exact un.keep b o e q (by intro z;exact absurd (show b∈([]) from z) (by simp)) (by simp)
    |some u=>
     rcases hO b with z|⟨ob,xs,z⟩
     .rw[q]at z;cases z
     .have z2:=un.frzs b ob _ z;obtain⟨Y,_⟩:=A b _ z;obtain⟨e2,_⟩:=D b _ z2;rw[e]at Y;cases Y;exact e2
 cases N:K.lookup a with
 |some o=>have e:=KX a o N;rw[J]at e;cases e;refine j (λ_=>none) (λ_=>.inl rfl) (.inr ⟨_,vs.toArray,_,N,rfl,rfl,rfl,by rw[bq,p];exact X,by simpa using rv⟩) (λb u z=>by have E:=z;cases E) (λb z=>absurd rfl z) λz=>absurd rfl z
 |none=>
  refine j (λb=>if b=a then some (.frz {cls:=.type "list",data:=.seq vs.toArray} (.lst (ns.map V.int))) else none) (λb=>?_) (.inl (.inr ⟨{cls:=.type "list",data:=.seq vs.toArray},aO rfl⟩)) (λb u z=>?_) (λb z=>?_) λ_=>N
  .by_cases f:b=a
   .exact .inr ⟨_,_,aO f⟩
   .exact .inl (aP f)
  .by_cases f:b=a
   .have E:=(aO f).symm.trans z;cases E;subst f;exact⟨J,by rw[av];exact X,vs,_,rv,J⟩
   .have E:=(aP f).symm.trans z;cases E
  .by_cases f:b=a
   .exact f
   .exact absurd (aP f) z
end L2
namespace L2
open PySem PySem.Spec PyProof.Rows
noncomputable def jI(s:Stmt)(j:Nat):Stmt:=match s with
 |.ClassDef _ _ _ body _ _ _ _ _ _ _=>body.getD j (.Pass ⟨0,0,0,0⟩)
 |_=>.Pass ⟨0,0,0,0⟩
noncomputable def dR(s:Stmt):Arguments:=match s with
 |.FunctionDef _ a _ _ _ _ _ _ _ _=>a
 |_=>{posonlyargs:=[],args:=[],vararg:=none,kwonlyargs:=[],kw_defaults:=[],kwarg:=none,defaults:=[]}
noncomputable def cQ(s:Stmt):List Stmt:=match s with
 |.FunctionDef _ _ b _ _ _ _ _ _ _=>b
 |_=>[]
noncomputable def cu(s:Stmt):Scope:=match s with
 |.FunctionDef _ _ _ _ _ _ sc _ _ _=>sc
 |_=>{kind:=.function,names:=[],isGenerator:=false,isCoroutine:=false}
abbrev lI:vd:=λ_ _ _ _ _ _=>False
abbrev E0:XK:=λ_ _ _=>False
def Bp:dP lI X E0:=λ_ _ _ _ _ _ _ h=>h.elim
structure ve(K:W.Frag)(x qual:Str)(st:Stmt)(f:Addr)(fd:FuncData):Prop where
 ex:∃(oc:Vq) (od:Oq Addr) (kV doc pm:Vq) (an:Oq Addr) (cdv ct:Vq) (osl:Array (Option Value)),
  fd=W.fnOf x qual (dR st) (cQ st) (cu st) .none kV doc pm an cdv ct/\K.lookup f=some ⟨oc,od,.func fd,osl⟩/\W.codeIn K cdv qual=true
 kp:W.keepIn K (.ref f)=true
section
variable {P:Program}{w:World}{K:W.Frag}{mg:Str->Option Value}{base:Heap}
def ve.ok{st:Stmt}(F:ve K x qual st f fd)(S:dC N ps (cu st))(e:∀c H Q E,sp c H Q E->c.length=ps.length)
  (d:∀b A a s H c Q E,dh k (A.deeper (envOfC qual (cu st) s.heap.objs.size f b))->sp c H Q E->
   ∃t,kq (c5 lI P w K mg base N qual (cu st) f b A a s H E).nox (cQ st) t/\t {nx:=λ_ m=>Q .non m,rt:=Q} (eP N c) H):fy P w K mg base lI (k+1) f fd ps sp:=by
 obtain⟨n,r,kV,j,u,p,b,o,l,rfl,lk,g⟩:=F.ex;refine qr lk g S e λA a s H c Q E hr i=>?_;obtain⟨t,h,q⟩:=d b A a s H c Q E hr i;exact⟨t,h.nox,q⟩
def ve.binds{st:Stmt}(F:ve K x qual st f fd)
  (h:∀(kV b c:Vq) (g:Oq Addr) (a d:Vq) (e:List Vq),e.length=ps.length->bindArgs (W.fnOf x qual (dR st) (cQ st) (cu st) .none kV b c g a d) ⟨e,[]⟩=pure (ps.zip e)):gO K fd ps []:=by
 obtain⟨k,l,kV,b,c,g,a,d,i,rfl,lk,j⟩:=F.ex;exact .all (h kV b c g a d)
def oE{st:Stmt}{kV b d a e:Vq}(l:K.lookup f=some ⟨oc,od,.func (W.fnOf x qual (dR st) (cQ st) (cu st) .none kV b d an a e),osl⟩)
  (c:W.codeIn K a qual=true) (k:W.keepIn K (.ref f)=true):ve K x qual st f (W.fnOf x qual (dR st) (cQ st) (cu st) .none kV b d an a e):=⟨⟨oc,od,kV,b,d,an,a,e,osl,rfl,l,c⟩,k⟩
end
section
variable {X:Cx}
def pv i (b:X.N[i]? = some x:=by rfl) (d:AD X.env.scope x:=by first|exact Or.inl rfl|exact Or.inr (Or.inl rfl)|exact Or.inr (Or.inr rfl)) (c:(x==("__debug__" : Str))=false:=by decide)
  (a:(x==("__classdict__" : Str))=false:=by decide):PE X (.Name x pos) (hI i):=yz b d c a
end
def rN(o:HO)(x:Oq HO):Prop:=match o with
 |.tbl q ps=>∃a,x=some (.tbl q (ps++a))
 |o=>x=some o
def rN.of(h:x=some o):rN o x:=by
 cases o with
 |tbl q ps=>exact⟨#[],by rw[h];simp⟩
 |_=>exact h
def rN.ne(h:rN o x):x≠none:=by
 cases o with
 |tbl q ps=>obtain⟨m,e⟩:=h;rw[e];exact λz=>nomatch z
 |_=>have e:x=some _:=h;rw[e];exact λz=>nomatch z
def cC(H a:Hp):Prop:=∀b o,H b=some o->rN o (a b)
def cC.refl H:cC H H:=λ_ _ h=>.of h
def cC.trans(a:cC H H1)(b:cC H1 H2):cC H H2:=λc o h=>by
 have q:=a c o h;cases o with
 |tbl q ps=>obtain⟨m,e⟩:=q;obtain⟨d,f⟩:=b c _ e;exact⟨m++d,by rw[f,a9]⟩
 |_=>exact b c _ q
def cC.seq{K:W.Frag}(e:cC H H')(h:fX K H a xs):fX K H' a xs:=by
 rcases h with (h|⟨o,h⟩)|h
 .exact .inl (.inl (e _ _ h))
 .exact .inl (.inr ⟨o,e _ _ h⟩)
 .exact .inr h
end L2
namespace L2
open PySem PySem.Spec PyProof.Rows
section
variable {P:Program}{w:World}{H:Hp}{h:Heap}{a:Addr}{o:HO}
def hZ.track(ok:hZ P w H h)(f:H a=none)(new:eO P w (c6 H a o) h a o):hZ P w (c6 H a o) h:=λb u e=>by
 by_cases d:b=a
 .subst d;rw[cy]at e;cases e;exact new
 .rw[cx d]at e;refine (ok b u e).stay (λ_ _ _ q=>q) (λc q=>?_) λc g q=>?_
  .rw[cx (cH q f)];exact q
  .rw[cx (cH q f)];exact q
end
def cB.track(I:cB X ck σ H s)(d:H a=none)(j:a∈X.ex\/X.s₀.heap.objs.size<=a)
  (g:a≠X.env.locals) (i:∀x c,X.env.cells.lookup x=some c->c≠a) (h:∀p∈X.pn++ck,p.1≠a) (new:eO X.prog X.w (c6 H a o) s.heap a o):cB X ck σ (c6 H a o) s:=by
 have J:=I.step (t':=s.toks) (d':=s.drawn) (ch:=[a])
  (λb f=>by
   have e:b=a:=by simpa using f
   subst e;exact⟨j,g,i,h⟩)
  (λ_ _ _ _ _ e _=>e) (λ_ u _ _ _ e _=>⟨u.slots,e⟩)
  (λb u f _ n=>by rw[cx (by simpa using f)];exact n)
  (λ_ u _ e=>⟨u,e⟩)
  (λb k q=>by rw[cx (cH q d)];exact q)
  (λb u v q=>by rw[cx (cH q d)];exact q)
  (λb _ l q=>⟨#[],by rw[cx (cH q d),q];simp⟩)
  (λ_ q=>q) (I.hok.track d new) I.bare
 exact J
noncomputable def eg(a:Env):List (Str×NameKind)->List (Str×Addr)->List (Str×Addr)
 |[],acc=>acc
 | (n,k)::r,acc=>if k==NameKind.free then (match a.cells.lookup n with
  |some c=>eg a r ((n,c)::acc)
  |none=>eg a r acc) else eg a r acc
def eW(h:∀y∈scope.names,y.2=.free->∃c,env.cells.lookup y.1=some c):closureFor scope env=pure (eg env scope.names []):=by
 have all:∀(l:List (Str×NameKind)) b,(∀y∈l,y.2=.free->∃c,env.cells.lookup y.1=some c)->
   (forIn l b λx m=>(if (x.2==NameKind.free)=true then (do
    let a <-cellOf env x.1
    pure (ForInStep.yield ((x.1,a)::m))) else pure (ForInStep.yield m):Sem _))=pure (eg env l b):=by
  intro l;induction l with
  |nil=>intro b _;rfl
  |cons y r ih=>
   intro b i;obtain⟨n,k⟩:=y;rw[bL];by_cases f:(k==NameKind.free)=true
   .obtain⟨c,o⟩:=i (n,k) bc (by simpa using f);have d:=o;have e:cellOf env n=pure c:=by unfold cellOf;rw[d]
    simp only[f,if_true,e,pure_bind];rw[ih _ λy g=>i y (bg _ g)];show pure (eg env r ((n,c)::b))=pure (if (k==NameKind.free)=true then (match env.cells.lookup n with
     |some c=>eg env r ((n,c)::b)
     |none=>eg env r b) else eg env r b)
    rw[aO f,d]
   .have j:(k==NameKind.free)=false:=by simpa using f
    simp only[j,bM,if_false,pure_bind];rw[ih _ λy g=>i y (bg _ g)];show pure (eg env r b)=pure (if (k==NameKind.free)=true then (match env.cells.lookup n with
     |some c=>eg env r ((n,c)::b)
     |none=>eg env r b) else eg env r b)
    rw[aP f]
 have:=all scope.names [] h;unfold closureFor;simp only[pure_bind,bind_pure]at this ⊢;exact this
theorem dS:∀{l} {acc},(∀y d,acc.lookup y=some d->env.cells.lookup y=some d)->(eg env l acc).lookup x=some c->env.cells.lookup x=some c
 |[],acc,ha,h=>ha x c h
 | (n,k)::r,acc,ha,h=>by
  unfold eg at h;by_cases b:(k==NameKind.free)=true
  .rw[aO b]at h;cases e:env.cells.lookup n with
   |none=>rw[e]at h;exact dS ha h
   |some d=>
    rw[e]at h;refine dS (λy d' a=>?_) h;rw[bN]at a;cases q:y==n with
    |true=>rw[q]at a;cases a;rw[beq_iff_eq.mp q];exact e
    |false=>rw[q]at a;exact ha y d' a
  .rw[aP b]at h;exact dS ha h
theorem hV:∀{l} {acc},(∃c,acc.lookup x=some c)->∃c,(eg env l acc).lookup x=some c
 |[],_,h=>h
 | (n,k)::r,acc,h=>by
  unfold eg;by_cases a:(k==NameKind.free)=true
  .rw[aO a];cases e:env.cells.lookup n with
   |none=>exact hV h
   |some d=>
    refine hV ?_;rw[bN];cases q:x==n with
    |true=>exact⟨d,rfl⟩
    |false=>exact h
  .rw[aP a];exact hV h
theorem fH:∀{l} {acc},(x,NameKind.free)∈l->(∃c,env.cells.lookup x=some c)->∃c,(eg env l acc).lookup x=some c
 | (n,k)::r,acc,b,a=>by
  rcases aD.mp b with e|b
  .cases e;obtain⟨c,a⟩:=a;unfold eg;rw[aO (by rfl),a];refine hV ⟨c,?_⟩;rw[bN,beq_self_eq_true]
  .unfold eg;by_cases f:(k==NameKind.free)=true
   .rw[aO f];cases env.cells.lookup n with
    |none=>exact fH b a
    |some d=>exact fH b a
   .rw[aP f];exact fH b a
def iV(h:(relabel scope env).names.lookup x=some .cell\/(relabel scope env).names.lookup x=some .free):(x,NameKind.free)∈scope.names\/scope.names.lookup x=some .cell:=by
 have all:∀(l:List (Str×NameKind)),∀k,(k=NameKind.cell\/k=NameKind.free)->
   (l.map λ(n,k)=>if (k==NameKind.free&&env.scope.kind==.function&&env.kindOf n==some .cell) then (n,NameKind.cell) else (n,k)).lookup x=some k->(x,NameKind.free)∈l\/l.lookup x=some .cell:=by
  intro l;induction l with
  |nil=>intro k _ h;simp at h
  |cons y r ih=>
   intro k b h;obtain⟨n,c⟩:=y;rw[br]at h;by_cases a:(c==NameKind.free&&env.scope.kind==.function&&env.kindOf n==some .cell)=true
   .have d:c=.free:=by simp only[bF,beq_iff_eq]at a;exact a.1.1
    simp only[a,if_true]at h;rw[bN]at h;cases q:x==n with
    |true=>rw[d,beq_iff_eq.mp q];exact .inl bc
    |false=>
     rw[q]at h;rcases ih k b h with z|z
     .exact .inl (bg _ z)
     .exact .inr (by rw[bN,q];exact z)
   .simp only[a,bM,if_false]at h;rw[bN]at h;cases q:x==n with
    |true=>
     rw[q]at h;have e:c=k:=by simpa using h
     rcases b with rfl|rfl
     .exact .inr (by rw[bN,q,e])
     .rw[e,beq_iff_eq.mp q];exact .inl bc
    |false=>
     rw[q]at h;rcases ih k b h with z|z
     .exact .inl (bg _ z)
     .exact .inr (by rw[bN,q];exact z)
 rcases h with h|h
 .exact all scope.names _ (.inl rfl) h
 .exact all scope.names _ (.inr rfl) h
def iP(h:scope.names.lookup x=some .free):(relabel scope env).names.lookup x=some .cell\/(relabel scope env).names.lookup x=some .free:=by
 have all:∀(l:List (Str×NameKind)),l.lookup x=some .free->
   (l.map λ(n,k)=>if (k==NameKind.free&&env.scope.kind==.function&&env.kindOf n==some .cell) then (n,NameKind.cell) else (n,k)).lookup x=some .cell\/
   (l.map λ(n,k)=>if (k==NameKind.free&&env.scope.kind==.function&&env.kindOf n==some .cell) then (n,NameKind.cell) else (n,k)).lookup x=some .free:=by
  intro l;induction l with
  |nil=>intro h;simp at h
  |cons y r ih=>
   intro h;obtain⟨n,k⟩:=y;rw[br];rw[bN]at h;cases q:x==n with
   |true=>
    rw[q]at h;have b:k=.free:=by simpa using h
    by_cases a:(k==NameKind.free&&env.scope.kind==.function&&env.kindOf n==some .cell)=true
    .refine .inl ?_;simp only[a,if_true];rw[bN,q]
    .refine .inr ?_;simp only[a,bM,if_false];rw[bN,q,b]
   |false=>
    rw[q]at h;by_cases a:(k==NameKind.free&&env.scope.kind==.function&&env.kindOf n==some .cell)=true
    .simp only[a,if_true];rw[bN,q];exact ih h
    .simp only[a,bM,if_false];rw[bN,q];exact ih h
 exact all scope.names h
def nZ(X:Cx)(a:List Expr)(t:TT):Prop:=
 ∀(d:List (Addr×Obj)) (s:Sq) (b:St) (H:Hp) (Q:Bool->Hp->Prop),cB X d b H s->t b H Q->
  wpAny (model X.prog X.w) X.A (forIn a true λc r=>if r=true then do let ok <-isTrue c X.env (eval c X.env);pure (ForInStep.yield ok) else pure (ForInStep.yield r)) (TP X d b Q) X.xe s
def yt:TT:=λ_ H Q=>Q true H
def wq:nZ X [] yt:=λ_ _ _ H _ I h=>wpAny_tests_nil ⟨H,I,h⟩
theorem fE:∀a k b,(cellsFrom k a b).lookup x=some c->b.lookup x=some c\/(k<=c/\(x,NameKind.cell)∈a)
 |[],_,_,h=>.inl h
 | (n,kd)::r,k,b,h=>by
  unfold cellsFrom at h;split at h
  .rename_i e;rcases fE r _ _ h with q|⟨q,m⟩
   .rw[bN]at q;cases d:x==n with
    |true=>rw[d]at q;cases q;refine .inr ⟨aI _,?_⟩;rw[beq_iff_eq.mp d,beq_iff_eq.mp e];exact bc
    |false=>rw[d]at q;exact .inl q
   .exact .inr ⟨bO q,bg _ m⟩
  .rcases fE r _ _ h with q|⟨q,m⟩
   .exact .inl q
   .exact .inr ⟨q,bg _ m⟩
theorem eh:∀a k b,(x,NameKind.cell)∉a->(cellsFrom k a b).lookup x=b.lookup x
 |[],_,_,_=>rfl
 | (n,kd)::r,k,b,h=>by
  unfold cellsFrom;have hr:(x,NameKind.cell)∉r:=λz=>h (bg _ z);split
  .rename_i d;rw[eh r _ _ hr,bN];cases c:x==n with
   |true=>exact absurd (by rw[beq_iff_eq.mp c,beq_iff_eq.mp d];exact bc) h
   |false=>rfl
  .exact eh r _ _ hr
theorem fW:∀a k b,(x,NameKind.cell)∈a->(cellsFrom k a b).lookup x=some c->k<=c
 |[],_,_,h,_=>nomatch h
 | (n,kd)::r,k,b,h,e=>by
  unfold cellsFrom at e;by_cases hr:(x,NameKind.cell)∈r
  .split at e
   .exact bO (fW r _ _ hr e)
   .exact fW r _ _ hr e
  .rcases aD.mp h with q|q
   .cases q;rw[aO (by rfl),eh r _ _ hr,bN,beq_self_eq_true]at e;cases e;exact aI _
   .exact absurd q hr
theorem fS:∀d k a,(∀x y c,a.lookup x=some c->a.lookup y=some c->x=y)->(∀x c,a.lookup x=some c->c<k)->
  ∀x y c,(cellsFrom k d a).lookup x=some c->(cellsFrom k d a).lookup y=some c->x=y
 |[],_,_,h,_=>h
 | (n,kd)::r,k,a,h,hl=>by
  unfold cellsFrom;split
  .refine fS r (k+1) ((n,k)::a) (λx y c b e=>?_) λx c b=>?_
   .rw[bN]at b e;cases f:x==n with
    |true=>
     cases g:y==n with
     |true=>rw[beq_iff_eq.mp f,beq_iff_eq.mp g]
     |false=>rw[f]at b;rw[g]at e;cases b;exact absurd (hl _ _ e) (aY _)
    |false=>
     rw[f]at b;cases g:y==n with
     |true=>rw[g]at e;cases e;exact absurd (hl _ _ b) (aY _)
     |false=>rw[g]at e;exact h x y c b e
   .rw[bN]at b;cases f:x==n with
    |true=>rw[f]at b;cases b;exact bt _
    |false=>rw[f]at b;exact bP (hl x c b)
  .exact fS r k a h hl
theorem eG:∀a h b,(cellsFrom h.objs.size a b).lookup x=some c->b.lookup x=some c\/(h.objs.size<=c/\(pushCells h a).IsCell c none)
 |[],_,_,e=>.inl e
 | (n,kd)::r,h,b,e=>by
  unfold cellsFrom at e;unfold pushCells;split at e
  .rename_i d;rw[aO d];have g:(cellsFrom (h.push {cls:=.type "cell",data:=.cell none}).objs.size r ((n,h.objs.size)::b)).lookup x=some c:=by rw[Heap.size_push];exact e
   rcases eG r _ _ g with q|⟨q,m⟩
   .rw[bN]at q;cases f:x==n with
    |true=>rw[f]at q;cases q;exact .inr ⟨aI _,_,pushCells_keeps r _ _ _ (aq _ rfl),rfl⟩
    |false=>rw[f]at q;exact .inl q
   .rw[Heap.size_push]at q;exact .inr ⟨bO q,m⟩
  .rename_i d;rw[aP d];exact eG r _ _ e
def gw{M:Model}{A:Around}{E:Vq->Shared->Prop}{s:Sq}{a:Scope}{globals:Addr}{closure:List (Str×Addr)}{d:Str}{c:Oq Addr}{e:Vq}{b:Env}{builtins:Addr}{Q:Env->Shared->Prop}
  (j:Q (newEnv a s.heap.objs.size globals (cellsFrom (s.heap.objs.size+1) a.names closure) d c e (some b) builtins) {s with heap:=pushCells (s.heap.push {cls:=.type "dict",data:=.dict #[]}) a.names}) :
  wpAny M A (newFunctionEnv a globals closure [] d c e (some b) builtins) Q E s:=by
 simp only[newFunctionEnv,Option.isSome_some,if_true];refine ak (wpAny_alloc ?_);refine ak (wpAny_layCells _ (λi f g=>by cases h:f==NameKind.cell<;>simp[h]) _ _ _ _ ?_);rw[show ({s with heap:=s.heap.push {cls:=.type "dict",data:=.dict #[]}}:Sq).heap.objs.size=s.heap.objs.size+1 from Heap.size_push ..];rw[bQ];exact ak (aj (aj j))
noncomputable def fk(X:Cx)(N:List Str)(a:Scope)(C:Addr)(s₃:Sq)(H:Hp)(ex:List Addr)(pn:List (Addr×Obj)):Cx:={X with N:=N,s₀:=s₃,H₀:=H,env:=compEnvC a (cellsFrom (C+1) a.names (eg X.env a.names [])) C X.env,outer:=X.stack,ex:=ex,fn:=λx=>a.names.lookup x==some .cell,pn:=pn,xe:=λ_ _=>False}
noncomputable def pull(a:List (Option Nat))(b:St):St:=a.map fun
 |none=>none
 |some j=>(b[j]?).getD none
def CT(J:It)(h:List (Option Nat))(g:TG)(j:TT)(n:TE)(o:St)(l:Hp)(Q:VK):Prop:=∃W:Nat->Nat->List V->Hp->Prop,(∃m,W 0 m [] l)/\∀i m d H,W i m d H->
 (J.stop i H/\∀D,H D=none->Q (.ref D) (c6 H D (.lst d)))\/
 (J.go i H/\d.length<sizeLine/\∀x e,J.yld i H x e->g x (pull h o) e λa k=>j a k λb f=>if b=true then n a f λy p=>∃c,c<m/\W (i+1) c (d++[y]) p else ∃c,c<m/\W (i+1) c d f)
def mY(c:List (Option Nat))(b:TI)(g:TG)(f:TT)(e:TE):TE:=λa H Q=>b a H λJ d=>CT J c g f e a d Q
end L2
namespace L2
open PySem PySem.Spec PyProof.Rows
section
variable {prog:Program}{w:World}{A:Around}{R:Result->Shared->Prop}{s:Sq}
theorem mQ{p E j:Expr}{q:List Expr}{d:Scope}{y:Pos}{it o:Vq}{a:Env}(J:Nat->Shared->Prop)
  (C:∀n s,J n s->wpAny (model prog w) A (pyNext it) (λr b=>match r with
   |none=>R (.ok .next) b
   |some v=>wpAny (model prog w) A (letOwnedTupleGo E it v) (λ_ f=>wpAny (model prog w) A (assign E a v) (λ_ s₃=>
     wpAny (model prog w) A (forIn q true λc r=>if r=true then do let ok <-isTrue c a (eval c a);pure (ForInStep.yield ok) else pure (ForInStep.yield r)) (λok e=>
      if ok=true then wpAny (model prog w) A (eval p a) (λx i=>wpAny (model prog w) A (call (.builtin "list.append") [o,x]) (λ_ l=>∃m,m<n/\J m l) (λ_ _=>False) i) (λ_ _=>False) e
      else ∃m,m<n/\J m e) (λ_ _=>False) s₃) (λ_ _=>False) f) (λ_ _=>False) b) (λ_ _=>False) s)
  (n:Nat) (h:J n s):codeAny (model prog w) A (.compLoop (.ListComp p [⟨E,j,q,0⟩] d y) 0 it o a) R s:=by
 refine codeAny_loop rfl J (λn s F=>?_) n h;show wpAny _ A ((compTurn (.ListComp p [⟨E,j,q,0⟩] d y) 0 it o a).onRaise (λx=>do noteFrame x a;theTreesLotGoes x)) _ _ s;refine wpAny_noted ?_;rw[compTurn_list];refine ak (wpAny_standAt (ak (wpAny_mono (C n s F) (λr b g=>?_) λ_ _ z=>z.elim)));cases r with
 |none=>exact aj g
 |some v=>
  refine ak (wpAny_mono g (λ_ f D=>?_) λ_ _ z=>z.elim);refine ak (wpAny_mono D (λ_ s₃ u=>ak (wpAny_mono u (λok e k=>?_) λ_ _ z=>z.elim)) λ_ _ z=>z.elim);cases ok with
  |false=>exact aj ⟨rfl,k⟩
  |true=>exact ak (ak (wpAny_mono k (λx i t=>ak (wpAny_mono t (λ_ l B=>aj (aj ⟨rfl,B⟩)) λ_ _ z=>z.elim)) λ_ _ z=>z.elim))
end
def eJ(d:List (Option Nat))(g:TG):Prop:=∀x a H Q,g x a H Q->g x a H λb c=>(∀i j:Nat,d[i]? = some (some j)->b[i]? = a[i]?)/\Q b c
def gC(a:ix[k]? = some none):eJ ix (dI k):=λx b H Q h=>by
 refine⟨λi j e=>?_,h⟩;have:k≠i:=by rintro rfl;rw[a]at e;cases e
 rw[ao this]
abbrev f6(us:List Vq):Obj:={cls:=.type "list",data:=.seq us.toArray us.length}
section
variable {X:Cx}{tg elt iter:Expr}{ifs:List Expr}{scope:Scope}{pos:Pos}{N:List Str}{ix:List (Option Nat)}{wi:TI}{g:TG}{tt:TT}{te:TE}
structure jD(X:Cx)(scope:Scope)(N:List Str)(ix:List (Option Nat)):Prop where
 kind:scope.kind=.function
 sep:∀y∈scope.names,y.2=.cell->scope.names.lookup y.1=some .cell
 names:∀y∈scope.names,y.2=.local->scope.names.lookup y.1=some .local
 fre:∀y∈scope.names,y.2=.free->∃c,X.env.cells.lookup y.1=some c
 len:N.length=ix.length
 ix:∀(i j:Nat) (x:Str),N[i]? = some x->ix[i]? = some (some j)->X.N[j]? = some x/\scope.names.lookup x=some .free/\AD X.env.scope x/\X.env.kindOf x≠some .local
def xI(L:jD X scope N ix)(I:cB X ck σ H s)(f:∀b∈fp,gZ X ck H b)(j:∀b∈fp,b<s.heap.objs.size) o :
  (fk X N scope (s.heap.objs.size+1) {s with heap:=s.heap.push o} H (s.heap.objs.size::fp) (X.pn++ck)).Ok:=by
 have r:cB X ck σ H {s with heap:=s.heap.push o}:=I.kept λb u e=>ae _ e;have sound0:∀x c,(eg X.env scope.names []).lookup x=some c->X.env.cells.lookup x=some c:=λx c e=>dS (λy d z=>by simp at z) e;have cellLt:∀x c,X.env.cells.lookup x=some c->c<s.heap.objs.size:=λx c e=>let ⟨_,q⟩:=I.cell x c e;q.lt;have h:∀x c,(cellsFrom (s.heap.objs.size+1+1) scope.names (eg X.env scope.names [])).lookup x=some c->X.env.cells.lookup x=some c\/s.heap.objs.size+1+1<=c:=λx c e=>by
  rcases fE _ _ _ e with q|⟨q,_⟩
  .exact .inl (sound0 x c q)
  .exact .inr q
 refine⟨I.ok.mod,L.kind,I.ok.glob,I.ok.blt,?_,fS _ _ _ (λx y c i m=>I.ok.inj x y c (sound0 x c i) (sound0 y c m)) (λx c i=>bP (bP (cellLt x c (sound0 x c i)))),λx v=>?_,λx c i m=>?_,I.ok.hd,I.ok.frames,.inl rfl,λb a=>?_,λb u e=>?_,?_,λb u e a=>?_,λb a=>?_,r.stack,I.stkFree,I.tab⟩
 .show (s.heap.push o).objs.size<=s.heap.objs.size+1;rw[Heap.size_push];exact aI _
 .refine bA.mp (W.cellsFrom_some _ _ _ ?_);rcases iV v with k|k
  .exact .inr (bA.mpr (fH k (L.fre _ k rfl)))
  .exact .inl k
 .have l:(scope.names.lookup x==some .cell)=true:=i;have t:scope.names.lookup x=some .cell:=by simpa using l
  show (s.heap.push o).objs.size<=c;rw[Heap.size_push];exact bO (fW _ _ _ (PySem.mem_of_lookup t) m)
 .rcases aD.mp a with rfl|a
  .refine⟨aK (bt _),λx c e z=>?_⟩;rcases h x c e with q|q
   .exact absurd (cellLt x c q) (by rw[z];exact aY _)
   .rw[z]at q;omega
  .refine⟨aK (bP (j b a)),λx c e=>?_⟩;rcases h x c e with q|q
   .exact (f b a).2.2.2.2.1 x c q
   .intro z;rw[z]at q;exact absurd (aL (bR _ 2) q) (bS.mpr (j b a))
 .exact⟨ae _ (I.bs b u e).1,(I.bs b u e).2⟩
 .show X.base.objs.size<=(s.heap.push o).objs.size;rw[Heap.size_push];exact bT (aL I.ok.bsz I.sz)
 .have n:=aJ (I.bs b u e).1;rcases aD.mp a with rfl|a
  .exact aY _ n
  .rcases (f b a).2.2.2.1 with z|z
   .exact I.ok.noex b u e z
   .exact absurd (aC (aJ e) (aL I.ok.bsz z)) (aY _)
 .intro z;have p:=I.stkSub b z;rcases aD.mp a with rfl|a
  .rcases aD.mp p with q|q
   .exact absurd I.lt (by rw[<-q];exact aY _)
   .exact I.nofs (aI _) q
  .rcases aD.mp p with q|q
   .exact (f b a).2.1 q
   .exact (f b a).2.2.1 q
end
end L2
namespace L2
open PySem PySem.Spec PyProof.Rows
section
variable {X:Cx}{tg elt iter:Expr}{ifs:List Expr}{scope:Scope}{pos:Pos}{N:List Str}{ix:List (Option Nat)}{wi:TI}{g:TG}{tt:TT}{te:TE}
def iO{i:Nat}(h:(pull ix σ)[i]? = some (some v)):∃j,ix[i]? = some (some j)/\σ[j]? = some (some v):=by
 unfold pull at h;rw[au]at h;cases e:ix[i]? with
 |none=>rw[e]at h;cases h
 |some k=>
  rw[e]at h;cases k with
  |none=>cases h
  |some j=>
   refine⟨j,rfl,?_⟩;have a:(σ[j]?).getD none=some v:=by simpa using h
   cases q:σ[j]? with
   |none=>rw[q]at a;cases a
   |some z=>rw[q]at a;simpa using a
theorem pK{RR:Vq->Addr->Result->Shared->Prop}{Q:VK}{W:Nat->Nat->List V->Hp->Prop}
  (hc:X.calm=true) (L:jD X scope N ix) (hgk:eJ ix g)
  (blk:∀C s₃ H ex pn,PG (fk X N scope C s₃ H ex pn) tg g/\nZ (fk X N scope C s₃ H ex pn) ifs tt/\PE (fk X N scope C s₃ H ex pn) elt te)
  (l:cB X ck σ H2 s2) (T:oa X.prog X.w X.K tg J fp it tn) (st2:tn 0 s2.heap) (f2:∀b∈fp,gZ X ck H2 b) (w0:W 0 m0 [] H2)
  (turn:∀i m S H,W i m S H->(J.stop i H/\∀D,H D=none->Q (.ref D) (c6 H D (.lst S)))\/
   (J.go i H/\S.length<sizeLine/\∀x s,J.yld i H x s->g x (pull ix σ) s λσ2 H2=>tt σ2 H2 λb H3=>if b=true then te σ2 H3 λy H4=>∃m',m'<m/\W (i+1) m' (S++[y]) H4 else ∃m',m'<m/\W (i+1) m' S H3))
  (fin:∀D C m s P,P.heap.Ns C m->gZ X ck s C->cB X ck σ s P->Q (.ref D) s->RR (.ref D) C (.ok .next) P) :
  wpAny (model X.prog X.w) X.A (newList []) (λacc s₃=>wpAny (model X.prog X.w) X.A (newFunctionEnv scope X.env.globals (eg X.env scope.names []) [] X.env.qual none .none (some X.env)) (λcenv s₄=>codeAny (model X.prog X.w) X.A (.compStart (.ListComp elt [⟨tg,iter,ifs,0⟩] scope pos) 0 (.ref it) acc {cenv with scope:=relabel scope X.env}) (RR acc cenv.locals) s₄) E s₃) E s2:=by
 refine wpAny_newObj_type (gw ?_);have hCs:(s2.heap.push {cls:=.type "list",dict:=none,data:=.seq ([]).toArray}).objs.size=s2.heap.objs.size+1:=Heap.size_push ..;generalize G:pushCells ((s2.heap.push {cls:=.type "list",dict:=none,data:=.seq ([]).toArray}).push {cls:=.type "dict",data:=.dict #[]}) scope.names=h₁;rw[hCs];have hns₁:h₁.Ns (s2.heap.objs.size+1) (λ_=>none):=by rw[<-G,<-hCs];exact (Heap.Ns.new _ _).keeps (pushCells_keeps _ _)
 have R:∀x c,(cellsFrom (s2.heap.objs.size+1+1) scope.names (eg X.env scope.names [])).lookup x=some c->X.env.cells.lookup x=some c\/(s2.heap.objs.size+1+1<=c/\h₁.IsCell c none):=λx c e=>by
  have hs3:((s2.heap.push {cls:=.type "list",dict:=none,data:=.seq ([]).toArray}).push {cls:=.type "dict",data:=.dict #[]}).objs.size=s2.heap.objs.size+1+1:=by rw[Heap.size_push,hCs]
  rw[<-hs3]at e;rcases eG _ _ _ e with q|⟨q,m⟩
  .exact .inl (dS (λy d z=>by simp at z) q)
  .rw[hs3]at q;rw[G]at m;exact .inr ⟨q,m⟩
 have fpObj:=T.obj 0 _ st2;have Z:∀b∈fp,b<s2.heap.objs.size:=λb h=>let ⟨_,e,_⟩:=fpObj b h;aJ e;have ok:=xI L l f2 Z {cls:=.type "list",dict:=none,data:=.seq ([]).toArray};have DC:s2.heap.objs.size≠s2.heap.objs.size+1:=aK (bt _);have hold:∀b o,(s2.heap.push {cls:=.type "list",dict:=none,data:=.seq ([]).toArray}).get? b=some o->h₁.get? b=some o:=λb o e=>by rw[<-G];exact pushCells_keeps _ _ _ _ (ae _ e)
 have Y:∀b o,s2.heap.get? b=some o->h₁.get? b=some o:=λb o e=>hold b o (ae _ e);have sound:∀x c,(eg X.env scope.names []).lookup x=some c->X.env.cells.lookup x=some c:=λx c e=>dS (λy d z=>by simp at z) e;have cellLt:∀x c,X.env.cells.lookup x=some c->c<s2.heap.objs.size:=λx c e=>let ⟨_,q⟩:=l.cell x c e;q.lt;have hDn:=l.hok.fresh (aI _);have hCn:=l.hok.fresh (bx _);have t:∀p∈X.pn++ck,p.1<s2.heap.objs.size:=λp f=>aJ (l.pin p f).1;have hDfs:s2.heap.objs.size∉fw X.stack:=λz=>by
  rcases aD.mp (l.stkSub _ z) with q|q
  .exact absurd l.lt (by rw[<-q];exact aY _)
  .exact l.nofs (aI _) q
 have I':cB (fk X N scope (s2.heap.objs.size+1) {s2 with heap:=s2.heap.push {cls:=.type "list",dict:=none,data:=.seq ([]).toArray}} H2 (s2.heap.objs.size::fp) (X.pn++ck))
   [(s2.heap.objs.size,f6 [])] (pull ix σ) H2 {s2 with heap:=h₁,toks:=s2.toks}:=by
  refine⟨ok,rfl,l.bare,Un.kept hold,⟨_,hns₁,λi x v h1 h2 h3=>?_⟩,λx c e=>?_,hCn,λx c e=>?_,λp f=>?_,l.hok.kept Y,?_⟩
  .obtain⟨j,ej,es⟩:=iO h2;obtain⟨q1,q2,q3,q4⟩:=L.ix i j x h1 ej;obtain⟨m,_,hl⟩:=l.loc;obtain⟨u,r,lk⟩:=hl j x v q1 es q3;refine⟨u,r,?_⟩;rcases lk with⟨k,_⟩|⟨k,c,hcl,hv⟩
   .exact absurd k q4
   .obtain⟨c',hc'⟩:=fH (PySem.mem_of_lookup q2) ⟨c,hcl⟩;have:=sound x c' hc';rw[hcl]at this;cases this;have hnc:(x,NameKind.cell)∉scope.names:=λz=>by have:=L.sep _ z rfl;rw[q2]at this;cases this
    refine .inr ⟨?_,c,(eh _ _ _ hnc).trans hc',let ⟨ob,ho,hd⟩:=hv;⟨ob,Y c ob ho,hd⟩⟩;exact iP q2
  .rcases R x c e with q|⟨_,q⟩
   .obtain⟨v,ob,ho,hd⟩:=l.cell x c q;exact⟨v,ob,Y c ob ho,hd⟩
   .exact⟨none,q⟩
  .rcases R x c e with q|⟨q,_⟩
   .exact l.freeC x c q
   .exact l.hok.fresh (aL (bR _ 2) q)
  .rcases ah.mp f with f|f
   .obtain⟨e,n,ne,nf,d⟩:=l.pin p f;refine⟨Y _ _ e,n,aK (bP (t p f)),λz=>?_,d⟩;rcases aD.mp (l.stkSub _ z) with q|q
    .exact ne q
    .exact nf q
   .have e:p=(s2.heap.objs.size,f6 []):=by simpa using f
    subst e;exact⟨hold _ _ (aq _ rfl),hDn,DC,hDfs,λv z=>by cases z⟩
  .unfold pull;rw[av];exact L.len.symm
 generalize a:fk X N scope (s2.heap.objs.size+1) {s2 with heap:=s2.heap.push {cls:=.type "list",dict:=none,data:=.seq ([]).toArray}} H2 (s2.heap.objs.size::fp) (X.pn++ck)=X' at I';obtain⟨hg,hif,he⟩:=blk (s2.heap.objs.size+1) {s2 with heap:=s2.heap.push {cls:=.type "list",dict:=none,data:=.seq ([]).toArray}} H2 (s2.heap.objs.size::fp) (X.pn++ck);rw[a]at hg hif he;have stat:∀{s:Hp} {F:List Vq},(∀b∈fp,s b=none)->∀b∈fp,gZ X' [(s2.heap.objs.size,f6 F)] s b:=λ{s F} hn b h=>by
  subst a;obtain⟨_,f1,f2',f3,f4,f5⟩:=f2 b h;refine⟨hn b h,aK (bP (Z b h)),λz=>?_,.inl (bg _ h),λx c e=>?_,λp f=>?_⟩
  .rcases aD.mp (l.stkSub _ z) with q|q
   .exact f1 q
   .exact f2' q
  .rcases R x c e with q|⟨q,_⟩
   .exact f4 x c q
   .intro z;rw[z]at q;exact absurd (aL (bR _ 2) q) (bS.mpr (Z b h))
  .rcases ah.mp f with f|f
   .exact f5 p f
   .have e:p=(s2.heap.objs.size,f6 F):=by simpa using f
    subst e;exact Ne.symm (aK (Z b h))
 have loop:codeAny (model X.prog X.w) X.A (.compLoop (.ListComp elt [⟨tg,iter,ifs,0⟩] scope pos) 0 (.ref it) (.ref s2.heap.objs.size) X'.env) (RR (.ref s2.heap.objs.size) (s2.heap.objs.size+1))
   {s2 with heap:=h₁,toks:=s2.toks}:=by
  refine mQ (λn P=>∃i S F s,cB X' [(s2.heap.objs.size,f6 F)] (pull ix σ) s P/\cO S F/\S.length<=sizeLine/\tn i P.heap/\(∀b∈fp,s b=none)/\W i n S s) ?_ m0
   ⟨0,[],[],H2,I',.nil,bu _,T.keep _ _ _ st2 λb _ o e=>Y b o e,λb h=>(f2 b h).1,w0⟩
  rintro n s3 ⟨i,S,F,H3,I3,rv,hz,st3,fr3,w3⟩;have hcX:X'.calm=true:=by subst a;exact hc
  have hA:X'.A=X.A:=by subst a;rfl
  rcases turn i n S H3 w3 with⟨stop,qn⟩|⟨go,fq,step⟩
  .have hd:=T.done X' (by subst a;rfl) (by subst a;rfl) (by subst a;rfl) hcX i _ s3 _ H3 (λ_ _=>False) I3 (stat fr3) st3 stop;rw[hA]at hd;refine dB hd λr s4 ⟨hr,I4⟩=>?_;subst hr;subst a;obtain⟨m,hn,_⟩:=I4.loc;have hD3:=I4.pin (s2.heap.objs.size,f6 F) (bp _ bc);have u1:Un (fw X.stack) fp H2 H3 s2.heap s4.heap:=by
    have B:=I4.base;have nD:∀b o,s2.heap.get? b=some o->b∉fp->b∉s2.heap.objs.size::fp:=λb o e h z=>by
     rcases aD.mp z with q|q
     .exact absurd (aJ e) (by rw[q];exact aY _)
     .exact h q
    exact⟨λb o e n h hx=>B.keep b o (ae _ e) n h (nD b o e hx),λb o e n h hx=>B.slot b o (ae _ e) n h (nD b o e hx),
     λb o e n hx=>B.free b o (ae _ e) n (nD b o e hx),λb o e hx=>B.there b o (ae _ e) (nD b o e hx),B.tups,B.frzs,B.tbls⟩
   have I5:=l.call' I4.os u1 I4.hok I4.bare λb h=>let ⟨_,f1,_,f3,f4,f5⟩:=f2 b h;⟨f3,f1,f4,f5⟩;have I6:cB X ck σ (c6 H3 s2.heap.objs.size (.lst S)) s4:=I5.track hD3.2.1 (.inr l.sz) (Ne.symm (aK l.lt)) (λx c e z=>absurd (cellLt x c e) (by rw[z];exact aY _))
    (λp f=>aK (t p f)) ⟨hz,F,F.length,rv,hD3.1⟩
   refine fin _ _ m _ s4 hn ⟨?_,?_,?_,.inr (bT l.sz),λx c e z=>?_,λp f=>?_⟩ I6 (qn _ hD3.2.1)
   .rw[cx (Ne.symm DC)];exact I4.free
   .exact Ne.symm (aK (bP l.lt))
   .exact l.nofs (bx _)
   .exact absurd (cellLt x c e) (by rw[z];exact bU.mpr (bx _))
   .exact aK (bP (t p f))
  .have hd:=T.item X' (by subst a;rfl) (by subst a;rfl) (by subst a;rfl) hcX i _ s3 _ H3 (λ_ _=>False) I3 (stat fr3) st3 go;rw[hA]at hd;refine dB hd λr s4 ⟨u,hr,h4⟩=>?_;subst hr;refine dB h4 λ_ s5 ⟨x,H5,I5,r5,y5,st5,fr5⟩=>?_;have I5':=I5.pinned (stat fr5) (T.obj _ _ st5);have hM:model X'.prog X'.w=model X.prog X.w:=by subst a;rfl
   have hE:X'.xe=λ_ _=>False:=by subst a;rfl
   have a6:=hg _ s5 _ H5 x u _ I5' r5 (hgk x _ H5 _ (step x H5 y5));rw[hM,hA,hE]at a6;refine dB a6 λ_ s6 ⟨σ6,H6,I6,agr,q6⟩=>?_;have a7:=hif _ s6 σ6 H6 _ I6 q6;rw[hM,hA,hE]at a7;refine dB a7 λok s7 ⟨H7,I7,q7⟩=>?_;have back:∀{P:Sq} {s:Hp} {pl:List (Addr×Obj)},cB X' pl σ6 s P->cB X' pl (pull ix σ) s P:=λ{P s pl} I=>by
    refine I.weak ?_ λk v e=>?_
    .have e1:=I.len;have e2:=I3.len;rw[e1,e2]
    .obtain⟨j,ej,_⟩:=iO e;rw[agr k j ej];exact e
   have held:∀{P:Sq} {s:Hp},cB X' ([(s2.heap.objs.size,f6 F)]++ja fp s5.heap) σ6 s P->tn (i+1) P.heap/\∀b∈fp,s b=none:=λ{P s} I=>by refine⟨T.keep _ _ _ st5 λb h o e=>(I.pin (b,o) (bp _ (bp _ (eR h e)))).1,λb h=>?_⟩;obtain⟨o,e,_⟩:=T.obj _ _ st5 b h;exact (I.pin (b,o) (bp _ (bp _ (eR h e)))).2.1
   cases ok with
   |false=>rw[aP aF]at q7 ⊢;obtain⟨m',hm,w7⟩:=q7;obtain⟨k1,k2⟩:=held I7;exact⟨m',hm,i+1,S,F,H7,(back I7).unpinned,rv,hz,k1,k2,w7⟩
   |true=>
    rw[aO rfl]at q7 ⊢;have a8:=he _ s7 σ6 H7 _ I7 q7;rw[hM,hA,hE]at a8;refine dB a8 λy s8 ⟨yv,H8,I8,r8,m',hm,w8⟩=>?_;obtain⟨k1,k2⟩:=held I8;have U:=I8.pin (s2.heap.objs.size,f6 F) (bp _ (aw _ bc));have hl:=rv.length;refine append_at U.1 λh9 sb hD9=>?_;have I9:cB X' [] (pull ix σ) H8 s8:=(back I8).pins_of λp f=>by simp at f
    have I10:=I9.turned (t':=s8.toks) (λb o h e=>sb.extBut b o h e) U.2.1 U.2.2.1 (.inl (by subst a;exact bc))
     (λx c e z=>by
      subst a;rcases R x c e with q|⟨q,_⟩
      .exact absurd (cellLt x c q) (by rw[z];exact aY _)
      .rw[z]at q;omega) (λp f z=>by
      subst a;rcases ah.mp f with f|f
      .exact absurd (t p f) (by rw[z];exact aY _)
      .simp at f)
    have e9:h9.get? s2.heap.objs.size=some (f6 (F++[y])):=by rw[hD9];simp
    refine⟨m',hm,i+1,S++[yv],F++[y],H8,I10.pins_of λp f=>?_,rv.append (.cons r8 .nil),by rw[aR,bK];omega,?_,k2,w8⟩
    .have e:p=(s2.heap.objs.size,f6 (F++[y])):=by simpa using f
     subst e;exact⟨e9,U.2.1,U.2.2.1,U.2.2.2.1,λv z=>by cases z⟩
    .exact T.keep _ _ _ k1 λb h o e=>sb.extBut b o (aK (Z b h)) e
 have loop':=loop;subst a;exact codeAny_compStart_list loop (T.self X.A 0 _ _ _ (T.keep _ _ _ st2 λb _ o e=>Y b o e) loop')
def Aw(p:X.calm=true)(E:PI X tg iter wi)(L:jD X scope N ix)(i:eJ ix g)
  (d:∀C s₃ H ex pn,PG (fk X N scope C s₃ H ex pn) tg g/\nZ (fk X N scope C s₃ H ex pn) ifs tt/\PE (fk X N scope C s₃ H ex pn) elt te)
  (n:∀x,foldedSetIterable iter X.env x=pure x:=by intro _;rfl):PE X (.ListComp elt [⟨tg,iter,ifs,0⟩] scope pos) (mY ix wi g tt te):=by
 intro w s t H Q I h;rw[eval_ListComp];refine wpAny_comprehension_free rfl n (eW L.fre) L.kind L.names (dB (E w s t H _ I h) λv R G=>dB G λF S y=>?_);obtain⟨it,fp,Z,J,U,e,A,T,c,r,W,⟨P,B⟩,a⟩:=y;subst e;refine pK p L i d A T c r B a λD C m z Y l f j q=>?_;refine⟨m,l,λK k=>⟨.ref D,z,j.turned (λb o u e=>k.extBut b o u e) f.1 f.2.1 f.2.2.2.1 f.2.2.2.2.1 f.2.2.2.2.2,rfl,q⟩⟩
end
end L2
namespace L2
open PySem PySem.Spec PyProof.Rows
structure cD(K:W.Frag)(mg:Str->Option Value)(x:Str)(st:Stmt):Prop where
 ex:∃f fd,ve K x x st f fd/\mg x=some (.ref f)
def yY{K:W.Frag}{st:Stmt}{kV d e b g:Vq}(X:K.In h)(G:h.Ns mainGlobals mg)
  (a:W.nsIn K mainGlobals x=some (some (.ref f)))
  (l:K.lookup f=some ⟨oc,od,.func (W.fnOf x x (dR st) (cQ st) (cu st) .none kV d e an b g),osl⟩)
  (c:W.codeIn K b x=true) (k:W.keepIn K (.ref f)=true):cD K mg x st:=⟨f,_,oE l c k,W.mg_of X G a⟩
structure eD(P:Program)(w:World)(K:W.Frag)(mg:Str->Option Value)(base:Heap)(x:Str)(k:Nat)(sp:Sp):Prop where
 ex:∃f fd ps,fy P w K mg base lI k f fd ps sp/\mg x=some (.ref f)/\W.keepIn K (.ref f)=true/\gO K fd ps []
def eD.mono{K:W.Frag}(h:eD P w K mg base x j sp)(d:j<=k):eD P w K mg base x k sp:=
 let ⟨f,fd,ps,F,a,b,c⟩:=h.ex
 ⟨f,fd,ps,F.mono d,a,b,c⟩
def l5{K:W.Frag}{st:Stmt}(D:cD K mg x st)(S:dC N ps (cu st))
  (j:∀(kV g p:Vq) (o:Oq Addr) (a l:Vq) (h:List Vq),h.length=ps.length->bindArgs (W.fnOf x x (dR st) (cQ st) (cu st) .none kV g p o a l) ⟨h,[]⟩=pure (ps.zip h))
  (e:∀d H Q E,sp d H Q E->d.length=ps.length)
  (c:∀f a A b s H d Q E,dh k (A.deeper (envOfC x (cu st) s.heap.objs.size f a))->sp d H Q E->
   ∃t,kq (c5 lI P w K mg base N x (cu st) f a A b s H E).nox (cQ st) t/\t {nx:=λ_ n=>Q .non n,rt:=Q} (eP N d) H):eD P w K mg base x (k+1) sp:=by
 obtain⟨f,i,F,m⟩:=D.ex;exact⟨f,i,ps,F.ok S e (c f),m,F.kp,F.binds j⟩
section
variable {X:Cx}{x:Str}{k:Nat}{sp:Sp}{e:Expr}{es:List Expr}{t:TA}{p pos:Pos}
def oj(h:eD X.prog X.w X.K X.mg X.base x k sp)(hr:dh k X.A)(i:PA X (e::es) t)(l:Gl X x:=by rfl)
  (g:(x==("__debug__" : Str))=false:=by decide) (j:starEach (e::es) X.env=(false,eval e X.env)::starEach es X.env:=by rfl) (d:(backTo pos (starEach es X.env)).any (·.1)=false:=by rfl) :
  PE X (.Call (.Name x p) (e::es) [] pos) (i3 sp [] E0 t):=by
 obtain⟨f,m,n,F,a,b,c⟩:=h.ex;exact qp F hr l a b c .nil Bp i g j d
end
def wu:gR X (binaryOp .Mult) (rI (λi j=>PySem.IntMulOk i j) λi j=>.int (i*j)):=BP λ_ _ _ _ _ _ _ a q=>mul_int q a
def sd:gR X (binaryOp .FloorDiv) (rI (λi j=>j≠0/\Builtin.divisionGoesByPylong i j=false) λi j=>.int (i.fdiv j)):=BP λ_ _ _ _ _ _ _ a q=>floordiv_int a.1 q (.inl a.2)
end L2
namespace L2
open PySem PySem.Spec PyProof.Rows
def gK(h:Heap)(e:Addr)(d:Oq Addr):Prop:=∃a,h.get? e=some a/\a.dict=d
def kl(o:Obj) f:(o.mapFields f).dict=o.dict:=by obtain⟨c,d,a,b⟩:=o;cases a<;>rfl
section
variable {M:Model}{A:Around}{E:Vq->Shared->Prop}{s:Sq}{base:Heap}{env:Env}{outer:List Env}{L e:Addr}{oe:Obj}{vs:Array Vq}{By a0:Vq}{Q:Unit->Shared->Prop}
def mC{hadNext:Bool}(D:A.frames=some (env::outer))(y:s.heap.FunFrames base (env::outer))(S:env.frame=some L)
  (N:s.heap.get? e=some oe) (H:base.StaysIn s.heap) (I:base.get? e=none) (G:oe.data=.fields vs) (x:1<vs.size) (P:vs[0]? = some a0)
  (h:∀h',Heap.NotedW base (env::outer) e oe.cls a0 (rawInt L) s.heap h'->gK h' e oe.dict->Q () {s with heap:=h'}) :
  wpAny M A (do let a <-frameOf env;let z <-entryPlaceOf L hadNext;let b <-EntryCells.newEntry By a .none (rawInt L) .none z;setField (.ref e) 1 b) Q E s:=by
 have n:∀b o,s.heap.get? b=some o->(∀vs,o.data≠.fields vs)->b≠e:=λb o r g q=>by subst q;rw[N]at r;cases r;exact g vs G
 have u:e∉(env::outer).filterMap (·.frame):=λB=>by obtain⟨_,o,R,g⟩:=y.mem B;exact n e o R g rfl
 refine ak (wpAny_frameOf_fun D y S λc d=>ak (wpAny_entryPlaceOf λz w=>?_));unfold EntryCells.newEntry newFields;refine ak (wpAny_newObj_type ?_ (w.sizeOk5 _ _ _ _ _));have l:c.get? e=some oe:=(d.2.1 e u).trans N;have p:base.StaysIn c:=λb o f=>(d.2.1 b λB=>by rw[(y.mem B).1]at f;cases f).trans (H b o f);have v:c.objs.size≠e:=bj (aJ l);generalize K:({cls:=.type "traceback",dict:=none,data:=.fields ([By,.ref L,.none,rawInt L,.none]++(if z.isEmpty then List.replicate 6 Value.none else z)).toArray}:Obj)=X;have k:=ae X l;have j:=Obj.data_mapFields G (·.setIfInBounds 1 (Value.ref c.objs.size));have m:=Heap.get?_update_self (Obj.mapFields (·.setIfInBounds 1 (Value.ref c.objs.size))) k (Obj.isFreed_of_fields j);have t:=(Heap.get?_update_other (c.push X) (Obj.mapFields (·.setIfInBounds 1 (Value.ref c.objs.size))) (Ne.symm v)).trans (aq c (by rw[<-K];rfl));have i:∀b o,b≠e->c.get? b=some o->((c.push X).update e (Obj.mapFields (·.setIfInBounds 1 (Value.ref c.objs.size)))).get? b=some o:=λb o F r=>(Heap.get?_update_other _ _ (Ne.symm F)).trans (ae _ r)
 refine wpAny_setField k G x (h _ ⟨λb o f=>i b o (λq=>by rw[q,I]at f;cases f) (p b o f),y.of_keeps λb o r g=>?_,?_,λb o r g=>?_⟩ ⟨_,m,kl _ _⟩)
 .obtain⟨J,C⟩:=d.2.2 b o r;exact⟨_,i b _ (n b o r g) C,rfl⟩
 .exact⟨_,_,c.objs.size,_,_,m,⟨Obj.cls_mapFields _ _,by rw[Array.getElem?_setIfInBounds_ne (by decide)];exact P⟩,j,by simp[x],p.fresh,v,t,by rw[<-K],by first|(simp;done)|(rcases w with rfl|⟨_,_,_,_,_,_,_,rfl⟩<;>simp)⟩
 .obtain⟨J,C⟩:=d.2.2 b o r;exact⟨J,i b _ (n b o r g) C⟩
def wC(b:A.frames=some (env::outer))(k:s.heap.FunFrames base (env::outer))(i:env.frame=some L)
  (g:s.heap.get? e=some oe) (c:base.StaysIn s.heap) (a:base.get? e=none) (d:oe.data=.fields vs) (f:vs[1]? = some .none) (j:vs[0]? = some a0)
  (h:∀h',Heap.NotedW base (env::outer) e oe.cls a0 (rawInt L) s.heap h'->gK h' e oe.dict->Q () {s with heap:=h'}):wpAny M A (noteFrame (.ref e) env) Q E s:=by
 unfold noteFrame;simp only[i];refine ak (wpAny_field g d f ?_);rw[aP (by decide)];exact mC b k i g c a d (Array.getElem?_eq_some_iff.mp f).1 j h
def oS{k:Vq}{d:Oq Addr}(t:A.frames=some (env::outer))(y:env.frame=some L)(w:Heap.FlyingW base (env::outer) e k a0 s.heap)(u:gK s.heap e d)
  (h:∀h',Heap.HeldW base (env::outer) e k a0 L h'->s.heap.UpToSlots h'->gK h' e d->Q () {s with heap:=h'}):wpAny M A (noteFrame (.ref e) env) Q E s:=by
 obtain⟨x,l,F,oe,vs,T,I,H,v,⟨rfl,D⟩,B,C,r,p,n,i,z⟩:=w;obtain⟨G,m,rfl⟩:=u;obtain rfl:oe=G:=Option.some.inj (v.symm.trans m);unfold noteFrame;simp only[y];refine ak (wpAny_field v B C ?_);rw[aO (show (Value.ref T != Value.none)=true from by simp)];refine ak (wpAny_field n i z ?_);rw[aP (show ¬((Value.none==rawInt L)=true) from by simp[rawInt])];refine ak (wpAny_setField n i (Array.getElem?_eq_some_iff.mp z).1 ?_);have a:∀b,b≠T->(s.heap.update T (Obj.mapFields (·.setIfInBounds 3 Value.none))).get? b=s.heap.get? b:=λb f=>Heap.get?_update_other _ _ (Ne.symm f);have g:∀b o,s.heap.get? b=some o->(∀vs,o.data≠.fields vs)->b≠T:=λb o f c q=>by subst q;rw[n]at f;cases f;exact c H i
 exact mC t (F.of_keeps λb o f c=>⟨o,(a b (g b o f c)).trans f,rfl⟩) y ((a e (Ne.symm p)).trans v)
  (λb o j=>(a b λq=>by rw[q,r]at j;cases j).trans (x b o j)) l B (Array.getElem?_eq_some_iff.mp C).1 D
  λh' ⟨x1,x2,x3,x4⟩ u=>h h' ⟨x1,l,x2,x3⟩ (λb o f c=>x4 b o ((a b (g b o f c)).trans f) c) u
def iZ{l:List Env}{r J:Vq}{d:Oq Addr}(y:base.StaysIn s.heap)(z:base.get? e=none)(F:s.heap.FunFrames base l)(H:s.heap.TracedAtW base e r a0 J)(I:gK s.heap e d)
  (h:∀h',Heap.FlyingW base l e r a0 h'->s.heap.UpToSlots h'->gK h' e d->Q () {s with heap:=h'}):wpAny M A (setFlight (.ref e) none) Q E s:=by
 obtain⟨oe,vs,T,N,C,x,u,B,D,p,n,w,i,K⟩:=H;obtain⟨G,v,rfl⟩:=I;obtain rfl:oe=G:=Option.some.inj (x.symm.trans v);have j:3<C.size:=(Array.getElem?_eq_some_iff.mp K).1;have a:∀b,b≠T->(s.heap.update T (Obj.mapFields (·.setIfInBounds 3 ((none:Oq Addr).elim Value.none λf=>rawInt f)))).get? b=s.heap.get? b:=λb g=>Heap.get?_update_other _ _ (Ne.symm g)
 have k:∀b o,s.heap.get? b=some o->(∀vs,o.data≠.fields vs)->b≠T:=λb o g c q=>by subst q;rw[w]at g;cases g;exact c C i
 have t:=(a e (Ne.symm n)).trans x;unfold setFlight;refine ak (wpAny_field x B D ?_);rw[aO (show (Value.ref T != Value.none)=true from by simp)];exact wpAny_setField w i j (h _ ⟨λb o m=>(a b λq=>by rw[q,p]at m;cases m).trans (y b o m),z,F.of_keeps λb o g c=>⟨o,(a b (k b o g c)).trans g,rfl⟩,
  oe,vs,T,_,_,t,u,B,D,p,n,Heap.get?_update_self _ w (Obj.isFreed_of_fields (Obj.data_mapFields i _)),Obj.data_mapFields i _,by simp[j]⟩ (λb o g c=>⟨o.slots,(a b (k b o g c)).trans g⟩) ⟨oe,t,rfl⟩)
def uw{a:Vq}{d:Oq Addr}(b:A.frames=some (env::outer))(h:env.frame=some L)(c:Heap.FlyingW base (env::outer) e a a0 s.heap)(g:gK s.heap e d)
  (f:∀h',Heap.FlyingW base outer e a a0 h'->s.heap.UpToSlots h'->gK h' e d->Q () {s with heap:=h'}):wpAny M A (leaving env (.ref e)) Q E s:=by
 unfold leaving;refine ak (oS b h c g λh1 ⟨k1,k2,k3,k4⟩ u1 d1=>iZ (s:={s with heap:=h1}) k1 k2 k3 k4 d1 λh2 ⟨f1,f2,⟨_,_,f3⟩,f4⟩ u2 d2=>f h2 ⟨f1,f2,f3,f4⟩ (u1.trans u2) d2)
def qN{t:Addr}{d:Oq Addr}{cls:Vq}(b:A.frames=some (env::outer))(i:env.frame=some L)(c:base.StaysIn s.heap)(f:s.heap.FunFrames base (env::outer))(a:base.get? e=none)
  (h:s.heap.get? e=some {cls:=cls,dict:=d,data:=.fields #[.ref t,.none,.none,.none,.bool false,.none]})
  (g:∀h',Heap.FlyingW base outer e cls (.ref t) h'->s.heap.UpToSlots h'->gK h' e d->Q () {s with heap:=h'}):wpAny M A (leaving env (.ref e)) Q E s:=by
 unfold leaving;exact ak (wC (a0:=.ref t) b f i h c a rfl rfl rfl λh1 ⟨k1,k2,k3,k4⟩ d1=>iZ (s:={s with heap:=h1}) k1 a k2 k3 d1 λh2 ⟨f1,f2,⟨_,_,f3⟩,f4⟩ u2 d2=>g h2 ⟨f1,f2,f3,f4⟩ (Heap.UpToSlots.trans k4 u2) d2)
end
end L2
namespace L2
open PySem PySem.Spec PyProof.Rows
def eO.at_(x:eO P w H h a o):∃b,h.get? a=some b:=by
 cases o with
 |lst xs=>obtain⟨_,_,_,_,e⟩:=x;exact⟨_,e⟩
 |tup xs=>obtain⟨_,_,_,b,e,_⟩:=x;exact⟨b,e⟩
 |dK kvs=>obtain⟨_,_,_,_,b,_,_,e,_⟩:=x;exact⟨b,e⟩
 |dT kvs=>obtain⟨_,_,_,_,b,_,_,e,_⟩:=x;exact⟨b,e⟩
 |set S n=>obtain⟨b,_,_,_,e,_⟩:=x;exact⟨b,e⟩
 |ins C dx fs=>obtain⟨_,_,_,e,_⟩:=x;exact⟨_,e⟩
 |own y=>exact x
 |xd fs=>obtain⟨_,⟨b,_,_,e,_⟩,_⟩:=x;exact⟨b,e⟩
 |rng lo hi=>obtain⟨_,_,_,e⟩:=x;exact⟨_,e⟩
 |frz b u=>obtain⟨e,_⟩:=x;exact⟨b,e⟩
 |tbl q ps=>exact⟨_,x.1⟩
 |met f y=>exact⟨_,(x)⟩
 |ext φ=>obtain⟨_,e,_⟩:=x;exact e
structure qs(P:Program)(w:World)(outer:List Env)(H:Hp)(s:Sq)(ea t:Addr)(C:Vq)(vs:List Vq)(d:Oq Addr)(B:Heap)(H':Hp)(s':Sq):Prop where
 os:s'.os=s.os
 bare:AllBare s'.gens
 un:Un (fw outer) [] H H' s.heap s'.heap
 hok:hZ P w H' s'.heap
 fly:Heap.FlyingW B outer ea C (.ref t) s'.heap
 tup:s'.heap.TupAt t vs
 tn:B.get? t=none
 he:H' ea=none
 ht:H' t=none
 old:∀b o,s.heap.get? b=some o->H b=none->b∉fw outer->B.get? b=some o
 trk:∀b o,s'.heap.get? b=some o->H' b≠none->B.get? b=some o
 ex:∀b o,s.heap.get? b=some o->b∉fw outer->∃o',B.get? b=some o'
 dk:gK s'.heap ea d
def fj(P:Program)(w:World):vd:=λa H s E e f=>∃(b t:Addr) (C:Vq) (g:List Vq) (d:Oq Addr) (B:Heap) (c:Hp),e=.ref b/\qs P w a H s b t C g d B c f/\E C d c
section
variable {P:Program}{w:World}{K:W.Frag}{mg:Str->Option Value}{base:Heap}{N:List Str}{qual:Str}{scope:Scope}{f:Addr}{cd:Vq}{A:Around}{outer:List Env}{s₀:Sq}{H₀:Hp}{E:XK}
variable {ck:List (Addr×Obj)}{σ:St}{H:Hp}{s:Sq}
theorem lL{s1:Sq}(I:cB (c5 (fj P w) P w K mg base N qual scope f cd A outer s₀ H₀ E) ck σ H s)
  (Y:s1.os=s.os) (hb:AllBare s1.gens) (u:Un (fw (envOfC qual scope s₀.heap.objs.size f cd::outer)) [] H H' s.heap s1.heap) (D:hZ P w H' s1.heap)
  (S:∀b o,s.heap.get? b=some o->H b=none->b∉fw (envOfC qual scope s₀.heap.objs.size f cd::outer)->B.get? b=some o) (trk:∀b o,s1.heap.get? b=some o->H' b≠none->B.get? b=some o)
  (ex:∀b o,s.heap.get? b=some o->b∉fw (envOfC qual scope s₀.heap.objs.size f cd::outer)->∃j,B.get? b=some j)
  (he:H' ea=none) (ht:H' t=none) (tn:B.get? t=none) (p:Heap.FlyingW B outer ea C (.ref t) h2) (tup:h2.TupAt t vs) (G:s1.heap.UpToSlots h2) (dk:gK h2 ea d) :
  qs P w outer H₀ s₀ ea t C vs d B H' {s1 with heap:=h2}:=by
 have g:∀b:Addr,b∉(c5 (fj P w) P w K mg base N qual scope f cd A outer s₀ H₀ E).ex:=λb z=>absurd (show b∈([]) from z) (by simp);have U:∀b,b∈fw (envOfC qual scope s₀.heap.objs.size f cd::outer)->b=s₀.heap.objs.size\/b∈fw outer:=λb a=>by
  rcases aD.mp (I.stkSub b a) with z|z
  .exact .inl z
  .exact .inr z
 have h:∀b o,s₀.heap.get? b=some o->b∉fw outer->b∉fw (envOfC qual scope s₀.heap.objs.size f cd::outer):=λb o e R z=>by
  rcases U b z with q|q
  .exact absurd (aJ e) (by rw[q];exact aY _)
  .exact R q
 have kept:∀b o,s₀.heap.get? b=some o->H₀ b=none->b∉fw outer->B.get? b=some o:=λb o e n a=>S b o (I.base.keep b o e n a (g b)) (I.base.free b o e n (g b)) (h b o e a)
 have k:∀b,H' b≠none->∃o,s1.heap.get? b=some o/\h2.get? b=some o:=λb a=>by
  cases q:H' b with
  |none=>exact absurd q a
  |some X=>obtain⟨o,e⟩:=(D b X q).at_;exact⟨o,e,p.1 b o (trk b o e a)⟩
 refine⟨Y.trans I.os,hb,⟨λb o e n a _=>p.1 b o (kept b o e n a),λb o e n a _=>?_,λb o e n _=>?_,λb o e _=>?_,λb r e=>u.tups b r (I.base.tups b r e),λb o r e=>u.frzs b o r (I.base.frzs b o r e),λb _ ps e=>?_⟩,λb X e=>?_,p,tup,tn,he,ht,kept,λb o e a=>?_,λb o e a=>?_,dk⟩
 .obtain⟨sl,i⟩:=I.base.slot b o e n a (g b);obtain⟨Q,L⟩:=u.any i (I.base.free b o e n (g b)) (by simp);obtain⟨_,j,F,l⟩:=I.ok.funs.mem a;have m:(c5 (fj P w) P w K mg base N qual scope f cd A outer s₀ H₀ E).s₀.heap.get? b=some o:=e;rw[m]at F;cases F;obtain⟨x,e3⟩:=G b _ L l;exact⟨x,e3⟩
 .obtain⟨j,i⟩:=I.base.there b o e (g b);exact u.free b j i (I.base.free b o e n (g b)) (by simp)
 .obtain⟨j,i⟩:=I.base.there b o e (g b);obtain⟨o2,L⟩:=u.there b j i (by simp);by_cases R:H' b=none
  .by_cases y:b∈fw outer
   .obtain⟨_,⟨o3,h3,l⟩⟩:=I.ok.funs.mem y;have m:(c5 (fj P w) P w K mg base N qual scope f cd A outer s₀ H₀ E).s₀.heap.get? b=some o:=e;rw[m]at h3;cases h3;have J:=I.ok.frf b y;obtain⟨sl,q1⟩:=I.base.slot b o e J y (g b);obtain⟨Q,Z⟩:=u.any q1 (I.base.free b o e J (g b)) (by simp);obtain⟨x,q3⟩:=G b _ Z l;exact⟨_,q3⟩
   .by_cases J:H₀ b=none
    .exact⟨o,p.1 b o (kept b o e J y)⟩
    .obtain⟨o4,q4⟩:=ex b j i (h b o e y);exact⟨o4,p.1 b o4 q4⟩
  .obtain⟨o3,_,q⟩:=k b R;exact⟨o3,q⟩
 .obtain⟨m1,i⟩:=I.base.tbls b _ ps e;obtain⟨m2,L⟩:=u.tbls b _ _ i;exact⟨m1++m2,by rw[L,a9]⟩
 .have a:H' b≠none:=by rw[e];exact λz=>nomatch z
  refine (D b X e).stay (λc v hc q=>?_) (λ_ q=>q) λ_ _ q=>q;have hcn:H' c≠none:=by
   rcases hc with z|z
   .rw[z];exact a
   .rw[z];exact λz=>nomatch z
  exact p.1 c v (trk c v q hcn)
 .obtain⟨o3,q1,Z⟩:=k b a;have m:=e;rw[Z]at m;cases m;exact trk b _ q1 a
 .obtain⟨j,i⟩:=I.base.there b o e (g b);exact ex b j i (h b o e a)
def ka{s1:Sq}{h:Hp}{t:Addr}{d:Oq Addr}{args:List Vq}(I:cB (c5 (fj P w) P w K mg base N qual scope f cd A outer s₀ H₀ E) ck σ H s)(r:s1.os=s.os)(a:AllBare s1.gens)
  (y:s1.heap.FunFrames base (envOfC qual scope s₀.heap.objs.size f cd::outer)) (B:s.heap.get? g=none) (J:s.heap.get? t=none) (v:s1.heap.get? g=some {cls:=C,dict:=d,data:=.fields #[.ref t,.none,.none,.none,.bool false,.none]})
  (D:s1.heap.TupAt t args) (u:Un (fw (envOfC qual scope s₀.heap.objs.size f cd::outer)) [] H h s.heap s1.heap) (p:hZ P w h s1.heap) (j:h g=none) (l:h t=none)
  (m:∀b,b∈fw (envOfC qual scope s₀.heap.objs.size f cd::outer)->h b=none) (q:E C d h):(c5 (fj P w) P w K mg base N qual scope f cd A outer s₀ H₀ E).xe (.ref g) s1:=by
 have x:∀c∈(envOfC qual scope s₀.heap.objs.size f cd::outer),∀b,c.frame=some b->b∈g::t::fw (envOfC qual scope s₀.heap.objs.size f cd::outer):=λc v b a=>bg _ (bg _ (bo.mpr ⟨c,v,a⟩));have i:∀b o,s.heap.get? b=some o->b∉fw (envOfC qual scope s₀.heap.objs.size f cd::outer)->b∉g::t::fw (envOfC qual scope s₀.heap.objs.size f cd::outer):=λb o e n z=>by
  rcases aD.mp z with z|z
  .rw[z,B]at e;cases e
  .rcases aD.mp z with z|z
   .rw[z,J]at e;cases e
   .exact n z
 refine qN (s:=s1) (base:=W.hideAll s1.heap (g::t::fw (envOfC qual scope s₀.heap.objs.size f cd::outer))) I.ok.frames rfl (λb o z=>W.of_hideAll _ z) (W.funFrames_hide y x) (W.hideAll_none _ (bc ..)) v λL G k F=>?_;refine⟨g,t,C,args,d,_,h,rfl,lL I r a u p (λb o e n a=>W.hideAll_get _ (u.keep b o e n a (by simp)) (i b o e a)) (λb o e a=>W.hideAll_get _ e λz=>?_) (λb o e a=>let ⟨o',e'⟩:=u.there b o e (by simp);⟨o',W.hideAll_get _ e' (i b o e a)⟩) j l (W.hideAll_none _ (bg _ (bc ..))) G (D.of_slots k) k F,q⟩;rcases aD.mp z with z|z
 .rw[z]at a;exact a j
 .rcases aD.mp z with z|z
  .rw[z]at a;exact a l
  .exact a (m b z)
theorem qX(I:cB (c5 (fj P w) P w K mg base N qual scope f cd A outer s₀ H₀ E) ck σ H s)(c:Heap.MadeExcOf s.heap h1 ea C args)(q:E C none H) :
  (c5 (fj P w) P w K mg base N qual scope f cd A outer s₀ H₀ E).xe (.ref ea) {s with heap:=h1}:=by
 have a:∀b,s.heap.get? b=none->H b=none:=λb d=>by
  cases z:H b with
  |none=>rfl
  |some u=>obtain⟨o,e⟩:=(I.hok b u z).at_;rw[d]at e;cases e
 obtain⟨t,i,g,h⟩:=c.there;exact ka (s1:={s with heap:=h1}) I rfl I.bare (Heap.FunFrames.of_keeps (λb o e _=>⟨o,c.keeps b o e,rfl⟩) I.stack) c.new g i ⟨_,_,h,rfl,rfl⟩ (Un.kept c.keeps) (I.hok.kept c.keeps) (a ea c.new) (a t g) (λb d=>I.stkFree b d) q
def rR(c:∀C d b,E1 C d b->E C d b):dP (fj P w) (c5 (fj P w) P w K mg base N qual scope f cd A outer s₀ H₀ E) E1:=by intro ck σ H s e l I h;obtain⟨j,t,C,g,d,B,b,rfl,F,q⟩:=h;refine uw I.ok.frames rfl F.fly F.dk λm k a i=>?_;exact⟨j,t,C,g,d,B,b,rfl,lL I F.os F.bare F.un F.hok F.old F.trk F.ex F.he F.ht F.tn k (F.tup.of_slots a) a i,c C d b q⟩
end
end L2
namespace L2
open PySem PySem.Spec PyProof.Rows
def sR{b a:Env}(h:a.frame=b.frame) e:noteFrame e a=noteFrame e b:=by unfold noteFrame PySem.frameOf;rw[h]
section
variable {M:Model}{A:Around}{E:Vq->Shared->Prop}{s:Sq}{base:Heap}{env:Env}{outer:List Env}{L e:Addr}{a0:Vq}{Q:Unit->Shared->Prop}
def kh{l:List Env}{t P:Vq}{d fo:Oq Addr}(D:base.StaysIn s.heap)(I:s.heap.FunFrames base l)(K:s.heap.TracedAtW base e t a0 P)(N:gK s.heap e d)
  (h:∀h' n,base.StaysIn h'->h'.FunFrames base l->h'.TracedAtW base e t a0 n->(fo=none->n=.none)->s.heap.UpToSlots h'->gK h' e d->Q () {s with heap:=h'}):wpAny M A (setFlight (.ref e) fo) Q E s:=by
 obtain⟨C,y,T,S,G,B,v,F,H,r,p,x,i,R⟩:=K;obtain⟨J,w,rfl⟩:=N;obtain rfl:C=J:=Option.some.inj (B.symm.trans w);have j:3<G.size:=(Array.getElem?_eq_some_iff.mp R).1;have a:∀b,b≠T->(s.heap.update T (Obj.mapFields (·.setIfInBounds 3 (fo.elim Value.none λf=>rawInt f)))).get? b=s.heap.get? b:=λb g=>Heap.get?_update_other _ _ (Ne.symm g)
 have k:∀b o,s.heap.get? b=some o->(∀y,o.data≠.fields y)->b≠T:=λb o g c q=>by subst q;rw[x]at g;cases g;exact c G i
 have u:=(a e (Ne.symm p)).trans B;unfold setFlight;refine ak (wpAny_field B F H ?_);rw[aO (show (Value.ref T != Value.none)=true from by simp)];exact wpAny_setField x i j (h _ (fo.elim Value.none λf=>rawInt f) (λb o m=>(a b λq=>by rw[q,r]at m;cases m).trans (D b o m)) (I.of_keeps λb o g c=>⟨o,(a b (k b o g c)).trans g,rfl⟩)
  ⟨C,y,T,_,_,u,v,F,H,r,p,Heap.get?_update_self _ x (Obj.isFreed_of_fields (Obj.data_mapFields i _)),Obj.data_mapFields i _,by simp[j]⟩ (λz=>by rw[z];rfl) (λb o g c=>⟨o.slots,(a b (k b o g c)).trans g⟩) ⟨C,u,rfl⟩)
def tQ{k x:Vq}{d:Oq Addr}(w:A.frames=some (env::outer))(F:env.frame=some L)(l:base.StaysIn s.heap)(B:base.get? e=none)(C:s.heap.FunFrames base (env::outer))(G:s.heap.TracedAtW base e k a0 x)(m:gK s.heap e d)
  (h:∀h' n,base.StaysIn h'->h'.FunFrames base (env::outer)->h'.TracedAtW base e k a0 n->s.heap.UpToSlots h'->gK h' e d->Q () {s with heap:=h'}):wpAny M A (noteFrame (.ref e) env) Q E s:=by
 have u:=G;have z:=m;obtain⟨R,D,T,S,P,y,⟨rfl,K⟩,I,J,v,t,r,i,H⟩:=G;obtain⟨N,p,rfl⟩:=m;obtain rfl:R=N:=Option.some.inj (y.symm.trans p);unfold noteFrame;simp only[F];refine ak (wpAny_field y I J ?_);rw[aO (show (Value.ref T != Value.none)=true from by simp)];refine ak (wpAny_field r i H ?_);by_cases q:(x==rawInt L)=true
 .rw[aO q];exact aj (h s.heap x l C u (Heap.UpToSlots.refl _) z)
 .rw[aP q];refine ak (wpAny_setField r i (Array.getElem?_eq_some_iff.mp H).1 ?_);have a:∀b,b≠T->(s.heap.update T (Obj.mapFields (·.setIfInBounds 3 Value.none))).get? b=s.heap.get? b:=λb f=>Heap.get?_update_other _ _ (Ne.symm f);have g:∀b o,s.heap.get? b=some o->(∀D,o.data≠.fields D)->b≠T:=λb o f c q=>by subst q;rw[r]at f;cases f;exact c P i
  exact mC w (C.of_keeps λb o f c=>⟨o,(a b (g b o f c)).trans f,rfl⟩) F ((a e (Ne.symm t)).trans y)
   (λb o j=>(a b λq=>by rw[q,v]at j;cases j).trans (l b o j)) B I (Array.getElem?_eq_some_iff.mp J).1 K
   λh' ⟨x1,x2,x3,x4⟩ m=>h h' _ x1 x2 x3 (λb o f c=>x4 b o ((a b (g b o f c)).trans f) c) m
def oR{cls fl:Vq}{d:Oq Addr}(hfr:A.frames=some (env::outer))(hf:env.frame=some L)(hkb:base.StaysIn s.heap)(hen:base.get? e=none)(hl:s.heap.FunFrames base (env::outer))(ht:s.heap.TracedAtW base e cls a0 fl)(dk:gK s.heap e d)
  (hQ:∀h',Heap.FlyingW base outer e cls a0 h'->s.heap.UpToSlots h'->gK h' e d->Q () {s with heap:=h'}):wpAny M A (leaving env (.ref e)) Q E s:=by
 unfold leaving;refine ak (tQ hfr hf hkb hen hl ht dk λh1 fl1 k1 k2 k3 u1 d1=>kh (s:={s with heap:=h1}) (fo:=none) k1 k2 k3 d1 λh2 fl2 f1 f2 f3 f4 u2 d2=>?_);have e:=f4 rfl;subst e;exact hQ h2 ⟨f1,hen,f2.2.2,f3⟩ (u1.trans u2) d2
end
theorem xK{h h' B d:Heap}(c:∀b,B.get? b=none->d.get? b=none):∀{l:List Env},h.FunFrames B l->(∀b,B.get? b=none->h'.get? b=h.get? b)->h'.FunFrames d l
 |[],_,_=>trivial
 |env::l,⟨a,⟨L,o,hf,hn,ho,hd⟩,r⟩,k=>⟨a,⟨L,o,hf,c L hn,(k L hn).trans ho,hd⟩,xK c r k⟩
section
variable {P:Program}{w:World}{K:W.Frag}{mg:Str->Option Value}{base:Heap}{N:List Str}{qual:Str}{scope:Scope}{f:Addr}{cd:Vq}{A:Around}{outer:List Env}{s₀:Sq}{H₀:Hp}{E:XK}
variable {ck:List (Addr×Obj)}{σ:St}{H:Hp}{s:Sq}
theorem oF{s1:Sq}{ch:List Addr}(I:cB (c5 (fj P w) P w K mg base N qual scope f cd A outer s₀ H₀ E) ck σ H s)
  (Y:∀b∈ch,s₀.heap.get? b=none) (hos:s1.os=s.os) (hb:AllBare s1.gens) (u:Un (fw (envOfC qual scope s₀.heap.objs.size f cd::outer)) ch H H' s.heap s1.heap) (F:hZ P w H' s1.heap)
  (U:∀b o,s.heap.get? b=some o->H b=none->b∉fw (envOfC qual scope s₀.heap.objs.size f cd::outer)->b∉ch->B.get? b=some o) (trk:∀b o,s1.heap.get? b=some o->H' b≠none->B.get? b=some o)
  (ex:∀b o,s.heap.get? b=some o->b∉fw (envOfC qual scope s₀.heap.objs.size f cd::outer)->b∉ch->∃k,B.get? b=some k)
  (he:H' ea=none) (ht:H' t=none) (tn:B.get? t=none) (r:Heap.FlyingW B outer ea C (.ref t) h2) (tup:h2.TupAt t vs) (J:s1.heap.UpToSlots h2) (dk:gK h2 ea d) :
  qs P w outer H₀ s₀ ea t C vs d B H' {s1 with heap:=h2}:=by
 have h:∀b o,s₀.heap.get? b=some o->b∉ch:=λb o e z=>by rw[Y b z]at e;cases e
 have g:∀b:Addr,b∉(c5 (fj P w) P w K mg base N qual scope f cd A outer s₀ H₀ E).ex:=λb z=>absurd (show b∈([]) from z) (by simp);have X:∀b,b∈fw (envOfC qual scope s₀.heap.objs.size f cd::outer)->b=s₀.heap.objs.size\/b∈fw outer:=λb a=>by
  rcases aD.mp (I.stkSub b a) with z|z
  .exact .inl z
  .exact .inr z
 have i:∀b o,s₀.heap.get? b=some o->b∉fw outer->b∉fw (envOfC qual scope s₀.heap.objs.size f cd::outer):=λb o e S z=>by
  rcases X b z with q|q
  .exact absurd (aJ e) (by rw[q];exact aY _)
  .exact S q
 have kept:∀b o,s₀.heap.get? b=some o->H₀ b=none->b∉fw outer->B.get? b=some o:=λb o e n a=>U b o (I.base.keep b o e n a (g b)) (I.base.free b o e n (g b)) (i b o e a) (h b o e)
 have l:∀b,H' b≠none->∃o,s1.heap.get? b=some o/\h2.get? b=some o:=λb a=>by
  cases q:H' b with
  |none=>exact absurd q a
  |some Z=>obtain⟨o,e⟩:=(F b Z q).at_;exact⟨o,e,r.1 b o (trk b o e a)⟩
 refine⟨hos.trans I.os,hb,⟨λb o e n a _=>r.1 b o (kept b o e n a),λb o e n a _=>?_,λb o e n _=>?_,λb o e _=>?_,λb x e=>u.tups b x (I.base.tups b x e),λb o x e=>u.frzs b o x (I.base.frzs b o x e),λb _ ps e=>?_⟩,λb Z e=>?_,r,tup,tn,he,ht,kept,λb o e a=>?_,λb o e a=>?_,dk⟩
 .obtain⟨sl,j⟩:=I.base.slot b o e n a (g b);obtain⟨R,Q⟩:=u.any j (I.base.free b o e n (g b)) (h b o e);obtain⟨_,k,G,m⟩:=I.ok.funs.mem a;have p:(c5 (fj P w) P w K mg base N qual scope f cd A outer s₀ H₀ E).s₀.heap.get? b=some o:=e;rw[p]at G;cases G;obtain⟨y,e3⟩:=J b _ Q m;exact⟨y,e3⟩
 .obtain⟨k,j⟩:=I.base.there b o e (g b);exact u.free b k j (I.base.free b o e n (g b)) (h b o e)
 .obtain⟨k,j⟩:=I.base.there b o e (g b);obtain⟨o2,Q⟩:=u.there b k j (h b o e);by_cases S:H' b=none
  .by_cases D:b∈fw outer
   .obtain⟨_,⟨o3,h3,m⟩⟩:=I.ok.funs.mem D;have p:(c5 (fj P w) P w K mg base N qual scope f cd A outer s₀ H₀ E).s₀.heap.get? b=some o:=e;rw[p]at h3;cases h3;have L:=I.ok.frf b D;obtain⟨sl,q1⟩:=I.base.slot b o e L D (g b);obtain⟨R,q2⟩:=u.any q1 (I.base.free b o e L (g b)) (h b o e);obtain⟨y,q3⟩:=J b _ q2 m;exact⟨_,q3⟩
   .by_cases L:H₀ b=none
    .exact⟨o,r.1 b o (kept b o e L D)⟩
    .obtain⟨o4,q4⟩:=ex b k j (i b o e D) (h b o e);exact⟨o4,r.1 b o4 q4⟩
  .obtain⟨o3,_,q⟩:=l b S;exact⟨o3,q⟩
 .obtain⟨m1,j⟩:=I.base.tbls b _ ps e;obtain⟨m2,Q⟩:=u.tbls b _ _ j;exact⟨m1++m2,by rw[Q,a9]⟩
 .have a:H' b≠none:=by rw[e];exact λz=>nomatch z
  refine (F b Z e).stay (λc v hc q=>?_) (λ_ q=>q) λ_ _ q=>q;have hcn:H' c≠none:=by
   rcases hc with z|z
   .rw[z];exact a
   .rw[z];exact λz=>nomatch z
  exact r.1 c v (trk c v q hcn)
 .obtain⟨o3,q1,q2⟩:=l b a;have p:=e;rw[q2]at p;cases p;exact trk b _ q1 a
 .obtain⟨k,j⟩:=I.base.there b o e (g b);exact ex b k j (i b o e a) (h b o e)
def BW(X:Cx)(c:Env)(C:Addr):Vq->Shared->Prop:=λe g=>notedBy (model X.prog X.w) X.A c (λe b=>∃m,b.heap.Ns C m/\∀d,Heap.SameBut C b.heap d->∀a:Env,a.locals=C->
 wpAny (model X.prog X.w) X.A (PySem.passOn "comprehension.variables-let-go" e a:Sem Vq) (λ_ _=>False) X.xe {b with heap:=d}) e g
def gJ(X:Cx)(c:XK):Prop:=∀(ck:List (Addr×Obj)) (σ:St) (H:Hp) (s:Sq) (C:Addr) (m:Str->Option Value) (e:Vq) (b:Sq) (a:Env),cB X ck σ H s->gZ X ck H C->s.heap.Ns C m->a.frame=X.env.frame->
 fj X.prog X.w X.stack H s c e b->BW X a C e b
def xq{E1:XK}(hE:∀C d h,E1 C d h->E C d h):gJ (c5 (fj P w) P w K mg base N qual scope f cd A outer s₀ H₀ E) E1:=by
 intro ck σ H s C m e s' env' I Y hn hfr ⟨ea,t,Cc,vs,d,B,h,J,F,q⟩;subst J;unfold BW notedBy;rw[sR hfr];obtain⟨oC,es,ep,hC,hr⟩:=id hn;have nC:C∉fw (envOfC qual scope s₀.heap.objs.size f cd::outer):=λz=>by
  rcases aD.mp (I.stkSub C z) with z|z
  .exact Y.2.1 z
  .exact Y.2.2.1 z
 have CB:B.get? C=some oC:=F.old C oC hC Y.1 nC;have HC:h C=none:=F.un.free C oC hC Y.1 (by simp);refine oS (L:=s₀.heap.objs.size) I.ok.frames rfl F.fly F.dk λh1 ⟨k1,k2,k3,k4⟩ u1 d1=>?_;refine⟨m,⟨oC,es,ep,k1 C oC CB,hr⟩,λr sb cenv hcl=>?_⟩;let j:=W.hideAll B [C];have b2:∀b o,B.get? b=some o->b≠C->j.get? b=some o:=λb o e n=>W.hideAll_get _ e (by simpa using n);have k:∀b,B.get? b=none->j.get? b=none:=λb e=>by
  cases z:j.get? b with
  |none=>rfl
  |some o=>rw[W.of_hideAll _ z]at e;cases e
 have b2C:j.get? C=none:=W.hideAll_none _ (bc ..);have ne:∀b,B.get? b=none->b≠C:=λb e z=>by rw[z,CB]at e;cases e
 have R:∀b,B.get? b=none->r.get? b=h1.get? b:=λb e=>sb.2 b (ne b e);have st1:j.StaysIn r:=λb o e=>by
  have nb:b≠C:=λz=>by rw[z,b2C]at e;cases e
  rw[sb.2 b nb];exact k1 b o (W.of_hideAll _ e)
 have fr1:r.FunFrames j (envOfC qual scope s₀.heap.objs.size f cd::outer):=xK k k3 R;have Q:r.TracedAtW j ea Cc (.ref t) (rawInt s₀.heap.objs.size):=by obtain⟨oe,vs,T,oT,ts,he,u,hd,D,y,Z,hT,U,h3⟩:=k4;exact⟨oe,vs,T,oT,ts,(R ea k2).trans he,u,hd,D,k T y,Z,(R T y).trans hT,U,h3⟩
 have dk1:gK r ea d:=by obtain⟨ob,e,z⟩:=d1;exact⟨ob,(R ea k2).trans e,z⟩
 have tup1:r.TupAt t vs:=by have:=F.tup.of_slots u1;obtain⟨o,sl,e,z⟩:=this;exact⟨o,sl,(R t F.tn).trans e,z⟩
 obtain⟨oe,vs',T,oT,ts,he,u,hd,D,y,Z,hT,U,h3⟩:=id Q;unfold PySem.passOn;refine ak (wpAny_field he hd D ?_);rw[aP (show ¬((Value.ref T==Value.none)=true) from by simp)];refine ak (kh (s:={s' with heap:=r}) st1 fr1 Q dk1 λh2 fl2 f1 f2 f3 f4 u2 d2=>wpAny_throw ?_);have l:∀b,h b≠none->∃o,s'.heap.get? b=some o/\j.get? b=some o/\h2.get? b=some o:=λb a=>by
  cases z:h b with
  |none=>exact absurd z a
  |some u'=>obtain⟨o,e⟩:=(F.hok b u' z).at_;have G:=b2 b o (F.trk b o e a) λz'=>a (by rw[z'];exact HC);exact⟨o,e,G,f1 b o G⟩
 have p:∀b o,s.heap.get? b=some o->b∈fw (envOfC qual scope s₀.heap.objs.size f cd::outer)->∃sl,h2.get? b=some {o with slots:=sl}:=λb o e a=>by have nb:b≠C:=λz=>nC (by rw[<-z];exact a);obtain⟨_,x,g,X⟩:=I.stack.mem a;rw[e]at g;cases g;obtain⟨s1,J⟩:=F.un.slot b o e (I.stkFree b a) a (by simp);obtain⟨s2,G⟩:=u1 b _ J X;have e2':r.get? b=_:=(sb.2 b nb).trans G;obtain⟨s3,e3⟩:=u2 b _ e2' X;exact⟨s3,e3⟩
 have hlt:s₀.heap.objs.size<=C:=by
  rcases Y.2.2.2.1 with z|z
  .exact absurd (show C∈([]) from z) (by simp)
  .exact z
 refine oR (s:={s' with heap:=h2}) I.ok.frames rfl f1 (k ea F.fly.2.1) f2 f3 d2 λh3 fl S dk=>?_;refine⟨ea,t,Cc,vs,d,j,h,rfl,oF (ch:=[C]) (s1:={s' with heap:=h2}) I (λb a=>?_) F.os F.bare ⟨λb o e n a i=>?_,λb o e n a i=>p b o e a,λb o e n i=>F.un.free b o e n (by simp),λb o e i=>?_,F.un.tups,F.un.frzs,F.un.tbls⟩ (λb u' e=>?_) (λb o e n a i=>?_) (λb o e a=>?_) (λb o e a i=>?_) F.he F.ht (k t F.tn) fl ((tup1.of_slots u2).of_slots S) S dk,hE _ _ _ q⟩
 .rw[ai.mp a];cases z:s₀.heap.get? C with
  |none=>rfl
  |some o=>exact absurd (aJ z) (bU.mpr hlt)
 .exact f1 b o (b2 b o (F.old b o e n a) (by simpa using i))
 .by_cases a:b∈fw (envOfC qual scope s₀.heap.objs.size f cd::outer)
  .obtain⟨sl,g⟩:=p b o e a;exact⟨_,g⟩
  .obtain⟨x,g⟩:=F.ex b o e a;exact⟨x,f1 b x (b2 b x g (by simpa using i))⟩
 .have hb':h b≠none:=by rw[e];exact λz=>nomatch z
  refine (F.hok b u' e).stay (λc v hc q=>?_) (λ_ q=>q) λ_ _ q=>q;have hcn:h c≠none:=by
   rcases hc with z|z
   .rw[z];exact hb'
   .rw[z];exact λz=>nomatch z
  obtain⟨o,J,_,e3⟩:=l c hcn;rw[q]at J;cases J;exact e3
 .exact b2 b o (F.old b o e n a) (by simpa using i)
 .obtain⟨o2,_,G,e3⟩:=l b a;have g:h2.get? b=some o:=e;rw[e3]at g;cases g;exact G
 .obtain⟨x,g⟩:=F.ex b o e a;exact⟨x,b2 b x g (by simpa using i)⟩
end
def gx(X:Cx)(N:List Str)(a:Scope)(C:Addr)(s₃:Sq)(H:Hp)(ex:List Addr)(pn:List (Addr×Obj))(xe:Vq->Shared->Prop):Cx:={fk X N a C s₃ H ex pn with xe:=xe}
section
variable {prog:Program}{w:World}{A:Around}{R:Result->Shared->Prop}{s:Sq}
theorem kM{q F k:Expr}{t:List Expr}{d:Scope}{B:Pos}{it p:Vq}{a:Env}{E':Vq->Shared->Prop}(u:∀e s,E' e s->notedBy (model prog w) A a (λe G=>R (.error e) G) e s)(J:Nat->Shared->Prop)
  (D:∀n s,J n s->wpAny (model prog w) A (pyNext it) (λr b=>match r with
   |none=>R (.ok .next) b
   |some v=>wpAny (model prog w) A (letOwnedTupleGo F it v) (λ_ g=>wpAny (model prog w) A (assign F a v) (λ_ s₃=>
     wpAny (model prog w) A (forIn t true λc r=>if r=true then do let ok <-isTrue c a (eval c a);pure (ForInStep.yield ok) else pure (ForInStep.yield r)) (λok f=>
      if ok=true then wpAny (model prog w) A (eval q a) (λx j=>wpAny (model prog w) A (call (.builtin "list.append") [p,x]) (λ_ o=>∃m,m<n/\J m o) E' j) E' f
      else ∃m,m<n/\J m f) E' s₃) E' g) E' b) E' s)
  (n:Nat) (h:J n s):codeAny (model prog w) A (.compLoop (.ListComp q [⟨F,k,t,0⟩] d B) 0 it p a) R s:=by
 refine codeAny_loop rfl J (λn s H=>?_) n h;show wpAny _ A ((compTurn (.ListComp q [⟨F,k,t,0⟩] d B) 0 it p a).onRaise (λx=>do noteFrame x a;theTreesLotGoes x)) _ _ s;refine wpAny_noted ?_;rw[compTurn_list];refine ak (wpAny_standAt (ak (wpAny_mono (D n s H) (λr b i=>?_) u)));cases r with
 |none=>exact aj i
 |some v=>
  refine ak (wpAny_mono i (λ_ g E=>?_) u);refine ak (wpAny_mono E (λ_ s₃ z=>ak (wpAny_mono z (λok f l=>?_) u)) u);cases ok with
  |false=>exact aj ⟨rfl,l⟩
  |true=>exact ak (ak (wpAny_mono l (λx j y=>ak (wpAny_mono y (λ_ o C=>aj (aj ⟨rfl,C⟩)) u)) u))
end
section
variable {X:Cx}{tg elt iter:Expr}{ifs:List Expr}{scope:Scope}{pos:Pos}{N:List Str}{ix:List (Option Nat)}{wi:TI}{g:TG}{tt:TT}{te:TE}{E1:XK}
theorem nE{RR:Vq->Addr->Result->Shared->Prop}{Q:VK}{W:Nat->Nat->List V->Hp->Prop}
  (hc:X.calm=true) (L:jD X scope N ix) (hgk:eJ ix g)
  (lv:gJ X E1) (blk:∀C s₃ H ex pn xe,dP (fj X.prog X.w) (gx X N scope C s₃ H ex pn xe) E1->PG (gx X N scope C s₃ H ex pn xe) tg g/\nZ (gx X N scope C s₃ H ex pn xe) ifs tt/\PE (gx X N scope C s₃ H ex pn xe) elt te)
  (s:cB X ck σ H2 s2) (T:oa X.prog X.w X.K tg J fp it tn) (st2:tn 0 s2.heap) (f2:∀b∈fp,gZ X ck H2 b) (w0:W 0 m0 [] H2)
  (turn:∀i m ys H,W i m ys H->(J.stop i H/\∀D,H D=none->Q (.ref D) (c6 H D (.lst ys)))\/
   (J.go i H/\ys.length<sizeLine/\∀x G,J.yld i H x G->g x (pull ix σ) G λσ2 H2=>tt σ2 H2 λb R=>if b=true then te σ2 R λy H4=>∃m',m'<m/\W (i+1) m' (ys++[y]) H4 else ∃m',m'<m/\W (i+1) m' ys R))
  (fin:∀D C m G F,F.heap.Ns C m->gZ X ck G C->cB X ck σ G F->Q (.ref D) G->RR (.ref D) C (.ok .next) F)
  (err:∀D C e F,(∃m,F.heap.Ns C m/\∀h',Heap.SameBut C F.heap h'->∀P:Env,P.locals=C->wpAny (model X.prog X.w) X.A (PySem.passOn "comprehension.variables-let-go" e P:Sem Vq) (λ_ _=>False) X.xe {F with heap:=h'})->RR D C (.error e) F) :
  wpAny (model X.prog X.w) X.A (newList []) (λacc s₃=>wpAny (model X.prog X.w) X.A (newFunctionEnv scope X.env.globals (eg X.env scope.names []) [] X.env.qual none .none (some X.env)) (λP s₄=>codeAny (model X.prog X.w) X.A (.compStart (.ListComp elt [⟨tg,iter,ifs,0⟩] scope pos) 0 (.ref it) acc {P with scope:=relabel scope X.env}) (RR acc P.locals) s₄) E s₃) E s2:=by
 refine wpAny_newObj_type (gw ?_);have hCs:(s2.heap.push {cls:=.type "list",dict:=none,data:=.seq ([]).toArray}).objs.size=s2.heap.objs.size+1:=Heap.size_push ..;generalize U:pushCells ((s2.heap.push {cls:=.type "list",dict:=none,data:=.seq ([]).toArray}).push {cls:=.type "dict",data:=.dict #[]}) scope.names=h₁;rw[hCs];have hns₁:h₁.Ns (s2.heap.objs.size+1) (λ_=>none):=by rw[<-U,<-hCs];exact (Heap.Ns.new _ _).keeps (pushCells_keeps _ _)
 have Z:∀x c,(cellsFrom (s2.heap.objs.size+1+1) scope.names (eg X.env scope.names [])).lookup x=some c->X.env.cells.lookup x=some c\/(s2.heap.objs.size+1+1<=c/\h₁.IsCell c none):=λx c e=>by
  have hs3:((s2.heap.push {cls:=.type "list",dict:=none,data:=.seq ([]).toArray}).push {cls:=.type "dict",data:=.dict #[]}).objs.size=s2.heap.objs.size+1+1:=by rw[Heap.size_push,hCs]
  rw[<-hs3]at e;rcases eG _ _ _ e with q|⟨q,m⟩
  .exact .inl (dS (λy d z=>by simp at z) q)
  .rw[hs3]at q;rw[U]at m;exact .inr ⟨q,m⟩
 have fpObj:=T.obj 0 _ st2;have hlt:∀b∈fp,b<s2.heap.objs.size:=λb f=>let ⟨_,e,_⟩:=fpObj b f;aJ e;have ok:=xI L s f2 hlt {cls:=.type "list",dict:=none,data:=.seq ([]).toArray};have DC:s2.heap.objs.size≠s2.heap.objs.size+1:=aK (bt _);have hold:∀b o,(s2.heap.push {cls:=.type "list",dict:=none,data:=.seq ([]).toArray}).get? b=some o->h₁.get? b=some o:=λb o e=>by rw[<-U];exact pushCells_keeps _ _ _ _ (ae _ e)
 have old:∀b o,s2.heap.get? b=some o->h₁.get? b=some o:=λb o e=>hold b o (ae _ e);have sound:∀x c,(eg X.env scope.names []).lookup x=some c->X.env.cells.lookup x=some c:=λx c e=>dS (λy d z=>by simp at z) e;have cellLt:∀x c,X.env.cells.lookup x=some c->c<s2.heap.objs.size:=λx c e=>let ⟨_,q⟩:=s.cell x c e;q.lt;have hDn:=s.hok.fresh (aI _);have hCn:=s.hok.fresh (bx _);have t:∀p∈X.pn++ck,p.1<s2.heap.objs.size:=λp l=>aJ (s.pin p l).1;have hDfs:s2.heap.objs.size∉fw X.stack:=λz=>by
  rcases aD.mp (s.stkSub _ z) with q|q
  .exact absurd s.lt (by rw[<-q];exact aY _)
  .exact s.nofs (aI _) q
 have I':cB (gx X N scope (s2.heap.objs.size+1) {s2 with heap:=s2.heap.push {cls:=.type "list",dict:=none,data:=.seq ([]).toArray}} H2 (s2.heap.objs.size::fp) (X.pn++ck) (BW X (compEnvC scope (cellsFrom (s2.heap.objs.size+1+1) scope.names (eg X.env scope.names [])) (s2.heap.objs.size+1) X.env) (s2.heap.objs.size+1)))
   [(s2.heap.objs.size,f6 [])] (pull ix σ) H2 {s2 with heap:=h₁,toks:=s2.toks}:=by
  refine⟨ok.wish _,rfl,s.bare,Un.kept hold,⟨_,hns₁,λi x v h1 h2 h3=>?_⟩,λx c e=>?_,hCn,λx c e=>?_,λp l=>?_,s.hok.kept old,?_⟩
  .obtain⟨j,ej,es⟩:=iO h2;obtain⟨q1,q2,q3,q4⟩:=L.ix i j x h1 ej;obtain⟨m,_,hl⟩:=s.loc;obtain⟨u,r,lk⟩:=hl j x v q1 es q3;refine⟨u,r,?_⟩;rcases lk with⟨k,_⟩|⟨k,c,hcl,hv⟩
   .exact absurd k q4
   .obtain⟨c',hc'⟩:=fH (PySem.mem_of_lookup q2) ⟨c,hcl⟩;have:=sound x c' hc';rw[hcl]at this;cases this;have hnc:(x,NameKind.cell)∉scope.names:=λz=>by have:=L.sep _ z rfl;rw[q2]at this;cases this
    refine .inr ⟨?_,c,(eh _ _ _ hnc).trans hc',let ⟨ob,ho,hd⟩:=hv;⟨ob,old c ob ho,hd⟩⟩;exact iP q2
  .rcases Z x c e with q|⟨_,q⟩
   .obtain⟨v,ob,ho,hd⟩:=s.cell x c q;exact⟨v,ob,old c ob ho,hd⟩
   .exact⟨none,q⟩
  .rcases Z x c e with q|⟨q,_⟩
   .exact s.freeC x c q
   .exact s.hok.fresh (aL (bR _ 2) q)
  .rcases ah.mp l with l|l
   .obtain⟨e,n,ne,nf,d⟩:=s.pin p l;refine⟨old _ _ e,n,aK (bP (t p l)),λz=>?_,d⟩;rcases aD.mp (s.stkSub _ z) with q|q
    .exact ne q
    .exact nf q
   .have e:p=(s2.heap.objs.size,f6 []):=by simpa using l
    subst e;exact⟨hold _ _ (aq _ rfl),hDn,DC,hDfs,λv z=>by cases z⟩
  .unfold pull;rw[av];exact L.len.symm
 generalize a:gx X N scope (s2.heap.objs.size+1) {s2 with heap:=s2.heap.push {cls:=.type "list",dict:=none,data:=.seq ([]).toArray}} H2 (s2.heap.objs.size::fp) (X.pn++ck) (BW X (compEnvC scope (cellsFrom (s2.heap.objs.size+1+1) scope.names (eg X.env scope.names [])) (s2.heap.objs.size+1) X.env) (s2.heap.objs.size+1))=X' at I';have out:∀{pl:List (Addr×Obj)} {σ':St} {R:Hp} {s4:Sq},cB X' pl σ' R s4->cB X ck σ R s4/\gZ X ck R (s2.heap.objs.size+1)/\∃m,s4.heap.Ns (s2.heap.objs.size+1) m:=λ{pl σ' R s4} I4=>by
  subst a;obtain⟨m,hn,_⟩:=I4.loc;have u1:Un (fw X.stack) fp H2 R s2.heap s4.heap:=by
   have B:=I4.base;have nD:∀b o,s2.heap.get? b=some o->b∉fp->b∉s2.heap.objs.size::fp:=λb o e f z=>by
    rcases aD.mp z with q|q
    .exact absurd (aJ e) (by rw[q];exact aY _)
    .exact f q
   exact⟨λb o e n f Y=>B.keep b o (ae _ e) n f (nD b o e Y),λb o e n f Y=>B.slot b o (ae _ e) n f (nD b o e Y),
    λb o e n Y=>B.free b o (ae _ e) n (nD b o e Y),λb o e Y=>B.there b o (ae _ e) (nD b o e Y),B.tups,B.frzs,B.tbls⟩
  refine⟨s.call' I4.os u1 I4.hok I4.bare λb f=>let ⟨_,f1,_,f3,f4,f5⟩:=f2 b f;⟨f3,f1,f4,f5⟩,⟨I4.free,?_,s.nofs (bx _),.inr (bT s.sz),λx c e z=>?_,λp l=>?_⟩,m,hn⟩
  .exact Ne.symm (aK (bP s.lt))
  .exact absurd (cellLt x c e) (by rw[z];exact bU.mpr (bx _))
  .exact aK (bP (t p l))
 have ps:dP (fj X.prog X.w) X' E1:=λpl σ' R s3 e F I h=>by
  obtain⟨J1,J2,m,J3⟩:=out I;have hst:X'.stack=X.stack:=by subst a;rfl
  rw[hst]at h;have:=lv ck σ R s3 _ m e F (compEnvC scope (cellsFrom (s2.heap.objs.size+1+1) scope.names (eg X.env scope.names [])) (s2.heap.objs.size+1) X.env) J1 J2 J3 rfl h;subst a;exact this
 obtain⟨hg,hif,he⟩:=blk (s2.heap.objs.size+1) {s2 with heap:=s2.heap.push {cls:=.type "list",dict:=none,data:=.seq ([]).toArray}} H2 (s2.heap.objs.size::fp) (X.pn++ck) _ (by rw[a];exact ps);rw[a]at hg hif he;have stat:∀{G:Hp} {S:List Vq},(∀b∈fp,G b=none)->∀b∈fp,gZ X' [(s2.heap.objs.size,f6 S)] G b:=λ{G S} hn b f=>by
  subst a;obtain⟨_,f1,f2',f3,f4,f5⟩:=f2 b f;refine⟨hn b f,aK (bP (hlt b f)),λz=>?_,.inl (bg _ f),λx c e=>?_,λp l=>?_⟩
  .rcases aD.mp (s.stkSub _ z) with q|q
   .exact f1 q
   .exact f2' q
  .rcases Z x c e with q|⟨q,_⟩
   .exact f4 x c q
   .intro z;rw[z]at q;exact absurd (aL (bR _ 2) q) (bS.mpr (hlt b f))
  .rcases ah.mp l with l|l
   .exact f5 p l
   .have e:p=(s2.heap.objs.size,f6 S):=by simpa using l
    subst e;exact Ne.symm (aK (hlt b f))
 have loop:codeAny (model X.prog X.w) X.A (.compLoop (.ListComp elt [⟨tg,iter,ifs,0⟩] scope pos) 0 (.ref it) (.ref s2.heap.objs.size) X'.env) (RR (.ref s2.heap.objs.size) (s2.heap.objs.size+1))
   {s2 with heap:=h₁,toks:=s2.toks}:=by
  refine kM (E':=X'.xe) (λe F z=>?_) (λn F=>∃i ys S G,cB X' [(s2.heap.objs.size,f6 S)] (pull ix σ) G F/\cO ys S/\ys.length<=sizeLine/\tn i F.heap/\(∀b∈fp,G b=none)/\W i n ys G) ?_ m0
   ⟨0,[],[],H2,I',.nil,bu _,T.keep _ _ _ st2 λb _ o e=>old b o e,λb f=>(f2 b f).1,w0⟩
  .subst a;exact wpAny_mono z (λ_ s'' h=>err _ _ _ _ h) λe' s'' h=>err _ _ _ _ h
  rintro n s3 ⟨i,ys,S,R,I3,rv,hz,st3,fr3,w3⟩;have hcX:X'.calm=true:=by subst a;exact hc
  have hA:X'.A=X.A:=by subst a;rfl
  rcases turn i n ys R w3 with⟨stop,qn⟩|⟨go,fq,step⟩
  .have hd:=T.done X' (by subst a;rfl) (by subst a;rfl) (by subst a;rfl) hcX i _ s3 _ R X'.xe I3 (stat fr3) st3 stop;rw[hA]at hd;refine dB hd λr s4 ⟨hr,I4⟩=>?_;subst hr;subst a;obtain⟨m,hn,_⟩:=I4.loc;have hD3:=I4.pin (s2.heap.objs.size,f6 S) (bp _ bc);have u1:Un (fw X.stack) fp H2 R s2.heap s4.heap:=by
    have B:=I4.base;have nD:∀b o,s2.heap.get? b=some o->b∉fp->b∉s2.heap.objs.size::fp:=λb o e f z=>by
     rcases aD.mp z with q|q
     .exact absurd (aJ e) (by rw[q];exact aY _)
     .exact f q
    exact⟨λb o e n f Y=>B.keep b o (ae _ e) n f (nD b o e Y),λb o e n f Y=>B.slot b o (ae _ e) n f (nD b o e Y),
     λb o e n Y=>B.free b o (ae _ e) n (nD b o e Y),λb o e Y=>B.there b o (ae _ e) (nD b o e Y),B.tups,B.frzs,B.tbls⟩
   have I5:=s.call' I4.os u1 I4.hok I4.bare λb f=>let ⟨_,f1,_,f3,f4,f5⟩:=f2 b f;⟨f3,f1,f4,f5⟩;have I6:cB X ck σ (c6 R s2.heap.objs.size (.lst ys)) s4:=I5.track hD3.2.1 (.inr s.sz) (Ne.symm (aK s.lt)) (λx c e z=>absurd (cellLt x c e) (by rw[z];exact aY _))
    (λp l=>aK (t p l)) ⟨hz,S,S.length,rv,hD3.1⟩
   refine fin _ _ m _ s4 hn ⟨?_,?_,?_,.inr (bT s.sz),λx c e z=>?_,λp l=>?_⟩ I6 (qn _ hD3.2.1)
   .rw[cx (Ne.symm DC)];exact I4.free
   .exact Ne.symm (aK (bP s.lt))
   .exact s.nofs (bx _)
   .exact absurd (cellLt x c e) (by rw[z];exact bU.mpr (bx _))
   .exact aK (bP (t p l))
  .have hd:=T.item X' (by subst a;rfl) (by subst a;rfl) (by subst a;rfl) hcX i _ s3 _ R X'.xe I3 (stat fr3) st3 go;rw[hA]at hd;refine dB hd λr s4 ⟨u,hr,h4⟩=>?_;subst hr;refine dB h4 λ_ s5 ⟨x,H5,I5,r5,y5,st5,fr5⟩=>?_;have I5':=I5.pinned (stat fr5) (T.obj _ _ st5);have hM:model X'.prog X'.w=model X.prog X.w:=by subst a;rfl
   have a6:=hg _ s5 _ H5 x u _ I5' r5 (hgk x _ H5 _ (step x H5 y5));rw[hM,hA]at a6;refine dB a6 λ_ s6 ⟨σ6,H6,I6,agr,q6⟩=>?_;have a7:=hif _ s6 σ6 H6 _ I6 q6;rw[hM,hA]at a7;refine dB a7 λok s7 ⟨H7,I7,q7⟩=>?_;have back:∀{F:Sq} {G:Hp} {pl:List (Addr×Obj)},cB X' pl σ6 G F->cB X' pl (pull ix σ) G F:=λ{F G pl} I=>by
    refine I.weak ?_ λk v e=>?_
    .have e1:=I.len;have e2:=I3.len;rw[e1,e2]
    .obtain⟨j,ej,_⟩:=iO e;rw[agr k j ej];exact e
   have held:∀{F:Sq} {G:Hp},cB X' ([(s2.heap.objs.size,f6 S)]++ja fp s5.heap) σ6 G F->tn (i+1) F.heap/\∀b∈fp,G b=none:=λ{F G} I=>by refine⟨T.keep _ _ _ st5 λb f o e=>(I.pin (b,o) (bp _ (bp _ (eR f e)))).1,λb f=>?_⟩;obtain⟨o,e,_⟩:=T.obj _ _ st5 b f;exact (I.pin (b,o) (bp _ (bp _ (eR f e)))).2.1
   cases ok with
   |false=>rw[aP aF]at q7 ⊢;obtain⟨m',hm,w7⟩:=q7;obtain⟨k1,k2⟩:=held I7;exact⟨m',hm,i+1,ys,S,H7,(back I7).unpinned,rv,hz,k1,k2,w7⟩
   |true=>
    rw[aO rfl]at q7 ⊢;have a8:=he _ s7 σ6 H7 _ I7 q7;rw[hM,hA]at a8;refine dB a8 λy s8 ⟨yv,H8,I8,r8,m',hm,w8⟩=>?_;obtain⟨k1,k2⟩:=held I8;have hD8:=I8.pin (s2.heap.objs.size,f6 S) (bp _ (aw _ bc));have hl:=rv.length;refine append_at hD8.1 λh9 sb hD9=>?_;have I9:cB X' [] (pull ix σ) H8 s8:=(back I8).pins_of λp l=>by simp at l
    have I10:=I9.turned (t':=s8.toks) (λb o f e=>sb.extBut b o f e) hD8.2.1 hD8.2.2.1 (.inl (by subst a;exact bc))
     (λx c e z=>by
      subst a;rcases Z x c e with q|⟨q,_⟩
      .exact absurd (cellLt x c q) (by rw[z];exact aY _)
      .rw[z]at q;omega) (λp l z=>by
      subst a;rcases ah.mp l with l|l
      .exact absurd (t p l) (by rw[z];exact aY _)
      .simp at l)
    have e9:h9.get? s2.heap.objs.size=some (f6 (S++[y])):=by rw[hD9];simp
    refine⟨m',hm,i+1,ys++[yv],S++[y],H8,I10.pins_of λp l=>?_,rv.append (.cons r8 .nil),by rw[aR,bK];omega,?_,k2,w8⟩
    .have e:p=(s2.heap.objs.size,f6 (S++[y])):=by simpa using l
     subst e;exact⟨e9,hD8.2.1,hD8.2.2.1,hD8.2.2.2.1,λv z=>by cases z⟩
    .exact T.keep _ _ _ k1 λb f o e=>sb.extBut b o (aK (hlt b f)) e
 have loop':=loop;subst a;exact codeAny_compStart_list loop (T.self X.A 0 _ _ _ (T.keep _ _ _ st2 λb _ o e=>old b o e) loop')
def yi(r:X.calm=true)(z:gJ X E1)(K:PI X tg iter wi)(L:jD X scope N ix)(i:eJ ix g)
  (d:∀C s₃ H ex pn xe,dP (fj X.prog X.w) (gx X N scope C s₃ H ex pn xe) E1->PG (gx X N scope C s₃ H ex pn xe) tg g/\nZ (gx X N scope C s₃ H ex pn xe) ifs tt/\PE (gx X N scope C s₃ H ex pn xe) elt te)
  (n:∀x,foldedSetIterable iter X.env x=pure x:=by intro _;rfl):PE X (.ListComp elt [⟨tg,iter,ifs,0⟩] scope pos) (mY ix wi g tt te):=by
 intro A s u H Q I h;rw[eval_ListComp];refine wpAny_comprehension_free rfl n (eW L.fre) L.kind L.names (dB (K A s u H _ I h) λv Y R=>dB R λP Z B=>?_);obtain⟨it,fp,tn,J,H2,e,F,T,c,t,W,⟨U,G⟩,a⟩:=B;subst e;refine nE r L i z d F T c t G a (λD C m E p l f j q=>?_) λD C e p h=>h;refine⟨m,l,λS k=>⟨.ref D,E,j.turned (λb o y e=>k.extBut b o y e) f.1 f.2.1 f.2.2.2.1 f.2.2.2.2.1 f.2.2.2.2.2,rfl,q⟩⟩
end
end L2
namespace L2
open PySem PySem.Spec PyProof.Rows PySem.W
theorem yZ{K:Frag}(X:K.In h)(G:h.Ns mainGlobals mg)(e:nsIn K mainGlobals x=some (some (.ref C)))
  (q:excIn K C bmB newId=true):OwnCls x C bmB newId mg h:=by
 constructor
 .exact mg_of X G e
 unfold excIn at q;split at q<;>try (exact absurd q aF)
 rename_i p k i o;split at q<;>try (exact absurd q aF)
 rename_i r t u v s w n y g d;simp only[bF,beq_iff_eq,bV]at q;obtain⟨⟨⟨⟨⟨f,m⟩,b⟩,j⟩,a⟩,c⟩:=q;subst f;subst m;cases k;subst g;subst b;cases i with
 |mk l=>simp only at d;subst d;exact⟨_,_,_,_,_,_,_,_,_,_,_,_,_,_,_,_,_,X _ _ o,.of_isNs (isNs_of_in X a),nsMap_none_of_in X a c,tail_of_in X j⟩
section
variable {P:Program}{w:World}{K:W.Frag}{mg:Str->Option Value}{base:Heap}{N:List Str}{qual:Str}{scope:Scope}{f:Addr}{cd:Vq}{A:Around}{outer:List Env}{s₀:Sq}{H₀:Hp}{E:XK}
def uX{x:Str}{C:Addr}{d k:List Vq}{B Bn newId l initId p:String}{y a t:Pos}{b:Expr}{i:TA}(ex:nsIn K mainGlobals x=some (some (.ref C)))(q:excIn K C d newId=true)
  (L:ExcBaseFacts Bn newId p k) (n:d.contains (.type Bn)=true) (F:ExcBaseFacts B l initId d)
  (Y:PA (c5 (fj P w) P w K mg base N qual scope f cd A outer s₀ H₀ E) [b] i) (z:∀c H R,i c H R->i c H λj g=>j.length<=sizeLine/\R j g)
  (hg:Gl (c5 (fj P w) P w K mg base N qual scope f cd A outer s₀ H₀ E) x:=by rfl) (o:(x==("__debug__" : Str))=false:=by decide)
  (v:starEach [b] (envOfC qual scope s₀.heap.objs.size f cd)=[(false,eval b (envOfC qual scope s₀.heap.objs.size f cd))]:=by rfl) :
  PS (c5 (fj P w) P w K mg base N qual scope f cd A outer s₀ H₀ E) (.Raise (some (.Call (.Name x y) [b] [] a)) none t) (λ_ c H=>i c H λ_ g=>E (.ref C) none g):=by
 intro U s c H D I h;have O:=yZ I.mod.kin I.mod.glob ex q;have Q:=O.bound;obtain⟨bm,M,nm,J,bs,hdct,sn,sub,ab,col,dd,k0,k1,k2,k3,k5,mN,Z,S,m,T⟩:=O.obj;refine wpAny_Raise_call_subU (nm:=nm) (q:=J) (N:=M) (bs:=bs) (hdct:=hdct) (sn:=sn) (sub:=sub) (ab:=ab) (col:=col) (dd:=dd) (k0:=k0) (k1:=k1) (k2:=k2) (k3:=k3) (k5:=k5)
  L n F (mN:=mN) (T.hasType F.hasBase) (I.ok.hd rfl) ?_ m (hW I hg Q ⟨rfl,?_⟩ o)
 .show (backTo a (starEach [b] (envOfC qual scope s₀.heap.objs.size f cd))).any (·.1)=false;rw[v];rfl
 .refine (?_:wpAny (model P w) _ (evalArgs (.ref C) true (backTo a (starEach [b] (envOfC qual scope s₀.heap.objs.size f cd))) []) _ _ s);have X:=Y a U s c H _ I (z c H _ h);have u:wpAny (model P w) (c5 (fj P w) P w K mg base N qual scope f cd A outer s₀ H₀ E).A (spliced (backTo a (starEach [b] (envOfC qual scope s₀.heap.objs.size f cd)))) _ _ s:=X;rw[v]at u ⊢;refine Calls.evalArgs_plain (dB u λus s2 ⟨j,g,I1,r,fq,q1⟩=>⟨rfl,?_,I1.bk _ _ Z,S.keeps I1.bk,T.keeps I1.bk,λh' e G=>qX I1 G q1⟩);show us.length<=sizeLine;rw[<-r.length];exact fq
end
end L2
namespace L2
open PySem PySem.Spec PyProof.Rows PySem.W PySem.Calls Builtin Builtin.ObjectAttr Builtin.Getset_descriptor
structure iN(K:Frag)(D:Addr):Prop where
 ga:findIn K (.ref D) "__getattribute__" = some (some (.builtin "BaseException.__getattribute__"))
 gt:findIn K (.ref D) "__getattr__" = some none
 cl:findIn K (.ref D) "__class__" = some (some (.builtin "object.__class__"))
 gg:specialIn K (.builtin "object.__class__") "__get__" = some (some (.builtin "getset_descriptor.__get__"))
 tk:takesIn K (.builtin "object.__class__")=some true
 ob:mroIn K D (.type "object")=some true
 be:mroIn K D (.type "BaseException")=some true
 is:(clsIn K D).isSome=true
def kx(x D:Addr)(h:Heap):Prop:=∃a,h.get? x=some a/\a.cls=.ref D
def kx.type{M:Model}{x D:Addr}{h:Heap}(e:kx x D h):Looks M h (typeOf (.ref x)) (.ref D):=by obtain⟨c,b,a⟩:=e;exact a▸(Looks.ld b).andThen .now
section
variable {prog:Program}{w:World}{A:Around}{E:Vq->Shared->Prop}{s:Sq}{K:Frag}{x D:Addr}
def kR{R:Result->Shared->Prop}{a:Vq}(X:K.In s.heap)(I:kx x D s.heap)(b:mroIn K D (.type "object")=some true)
  (h:R (.ok (.ret (.ref D))) s):codeAny (model prog w) A (.call (.builtin "getset_descriptor.__get__") ⟨[.builtin "object.__class__",.ref x,a],[]⟩) R s:=by
 obtain⟨c,g,dr,t,e⟩:=s;have d:=I.type (M:=model prog w);have f:=looks_mroIn (M:=model prog w) X b;refine codeAny_call_builtin KF.slot_gs.plain KF.entry_gs (KF.slot_gs.check _ _ _ _ _ _ _ _ KF.type_class (KF.args_gs _ _ _) ?_);unfold Builtin.«getset_descriptor.__get__» descrGet;rw[dga_obj];refine ak (aj ?_);unfold descrGetter descrCheckInstance descrNameAndClass isInstance;simp only[KF.owner_class];(repeat lk);refine⟨Code.quiet_builtin _ (by decide +kernel),codeAny_builtin KF.entry_class ?_⟩;unfold Builtin.«object.__class__» shownTypeOf;(repeat lk);exact h
def rG(X:K.In s.heap)(I:kx x D s.heap)(C:iN K D)(h:Q (.done (.ret (.ref D))) s) :
  wpAny (model prog w) A (Builtin.«object.__getattribute__» ⟨[.ref x,.str "__class__" tk],[]⟩) Q E s:=by
 obtain⟨a,g,dr,t,c⟩:=s;have b:=I.type (M:=model prog w);have d:=looks_findIn (M:=model prog w) X C.cl;unfold Builtin.«object.__getattribute__» find;(repeat lk);refine (wpAny_run (kR X I C.ob ?_));(repeat lk);exact h
def ly(X:K.In s.heap)(I:kx x D s.heap)(C:iN K D)(d:Q () s) :
  wpAny (model prog w) A (checkBuiltinCall "BaseException.__getattribute__" ⟨[.ref x,nameV],[]⟩) Q E s:=by
 have a:builtinKind "BaseException.__getattribute__" = some .slot:=by decide +kernel
 have hsplit:splitId "BaseException.__getattribute__" = some ("BaseException", "__getattribute__"):=by decide +kernel
 have b:=I.type (M:=model prog w);have c:=looks_mroIn (M:=model prog w) X C.be;obtain⟨e,g,dr,t,f⟩:=s;simp only[checkBuiltinCall,a,hsplit];refine ak ?_;unfold isInstance;refine ak (b.at (c.at ?_));rw[aP (by decide)];(repeat (first|assumption|wp_step))
def j8(X:K.In s.heap)(I:kx x D s.heap)(C:iN K D)(h:Q (some (.ref D)) {s with toks:=s.toks+1}) :
  wpAny (model prog w) A (getAttr? (.ref x) "__class__") Q E s:=by
 obtain⟨l,g,d,t,m⟩:=s;have j:=I.type (M:=model prog w);have k:=looks_findIn (M:=model prog w) X C.ga;have L2:=looks_findIn (M:=model prog w) X C.gt;have c:(Value.builtin "BaseException.__getattribute__" == Value.builtin "object.__getattribute__")=false:=by decide +kernel
 unfold getAttr? getAttrBy? getAttrBy;refine ak (wpAny_mkText (ak (wpAny_attempt (wpAny_holding (ak (j.at (ak (k.at ?_))))))));dsimp only;rw[c];simp only[Bool.and_false,bM,if_false];unfold getAttrByItsOwn hookBefore;rw[aO (show onTheHeap (Value.ref D)=true from rfl)];refine ak (L2.at (ak (wpAny_attempt (wpAny_holding ?_))));unfold callGetattribute boundAndCalled;rw[aP (by decide)];have f:bindSpecial (.builtin "BaseException.__getattribute__") (.ref x)=pure (.builtin "BaseException.__getattribute__",[.ref x]):=by
  have b:withoutEnding? "BaseException.__getattribute__" "#opaque" = none:=by decide +kernel
  have a:withoutEnding? "BaseException.__getattribute__" "#data" = none:=by decide +kernel
  have i:builtinKind "BaseException.__getattribute__" = some .slot:=by decide +kernel
  simp only[bindSpecial,typeOf,builtinType,b,a,i];rfl
 rw[f];refine ak (aj ?_);have e:=X;refine wpAny_call (codeAny_call_builtin (by decide +kernel) F.entry_bexc_ga (ly e I C (rG e I C ?_)));dsimp only;rw[handedOut_of (rfl)];exact aj (aj h)
def jV(C:iN K D):KitX K (.ref x) (.ref D) (kx x D) where
 ty:=λ_ _ _ I=>I.type
 it:=λ_ _ X _=>by
  obtain⟨g,a⟩:=bA.mp C.is;unfold clsIn at a;split at a
  .rename_i j i f c b;intro u m o t k q;unfold isType loadHead;exact ak (wpAny_loadPart (k _ _ (X _ _ b)) (aj q))
  .cases a
 ne:=λh v r l n p X d=>by
  obtain⟨g,a⟩:=bA.mp C.is;refine Bool.eq_false_iff.mpr λq=>?_;have e:=Value.ref.inj (beq_iff_eq.mp q);subst e;unfold clsIn at a;split at a
  .rename_i j i f c b;have z:=(X _ _ b).symm.trans d;cases z
  .cases a
 ca:=λX I k=>j8 X I C k
end
end L2
namespace L2
open PySem PySem.Spec PyProof.Rows PySem.W PySem.Calls Builtin Builtin.ObjectAttr Builtin.Getset_descriptor
structure wm(K:Frag)(D:Addr):Prop where
 is:(clsIn K D).isSome=true
 ty:typeIn K (.ref D)=some (.type "type")
 be:mroIn K D (.type "BaseException")=some true
def ke:isSubtype (.type "type") (.type "tuple")=pure false:=by rw[isSubtype_type];kernel_rfl
section
variable {prog:Program}{w:World}{A:Around}{E:Vq->Shared->Prop}{s:Sq}{K:Frag}{x C D:Addr}
def nv(X:K.In s.heap)(I:kx x C s.heap)(T:wm K D)(e:mroIn K C (.ref D)=some true)(h:Q true s) :
  wpAny (model prog w) A (excMatches (.ref x) (.ref D)) Q E s:=by
 obtain⟨b,g,dr,t,z⟩:=s;have j:=I.type (M:=model prog w);have m:=looks_mroIn (M:=model prog w) X e;have L2:=looks_mroIn (M:=model prog w) X T.be;have L3:=looks_typeIn (M:=model prog w) X T.ty;have i:Looks (model prog w) b (isType (.ref D)) true:=by
  obtain⟨o,a⟩:=bA.mp T.is;unfold clsIn at a;split at a
  .rename_i y u n d c;intro B p r v k q;unfold isType loadHead;exact ak (wpAny_loadPart (k _ _ (X _ _ c)) (aj q))
  .cases a
 unfold excMatches;have l:Looks (model prog w) b (isInstance (.ref D) (.type "tuple")) false:=L3.andThen (Looks.of_pure ke);refine ak (l.at ?_);simp only[bM,if_false];refine ak (aj ?_);have f:Looks (model prog w) b (isExcClass (.ref D)) true:=i.andThen L2;simp only[bL,bQ];refine ak (ak (ak (f.at ?_)));simp only[Bool.not_true,bM,if_false];refine aj (aj (ak (j.at (ak (ak (ak (m.at ?_)))))));simp only[if_true];exact aj (aj (aj h))
end
noncomputable abbrev Cx.tryB(X:Cx)(pn:List (Addr×Obj))(xe:Vq->Shared->Prop):Cx:={X with pn:=pn,xe:=xe}
abbrev Cx.exc(X:Cx)(pn:List (Addr×Obj))(ea:Addr):Cx:={X with A:=X.A.mark (some (.ref ea)),calm:=false,pn:=pn,xe:=λ_ _=>False}
section
variable {X:Cx}{ck pins' pn pn':List (Addr×Obj)}{σ:St}{H H1 H':Hp}{s s1 s':Sq}{xe:Vq->Shared->Prop}{ea t:Addr}{C:Vq}{vs:List Vq}{dd:Oq Addr}{B h:Heap}
def Cx.Ok.tryB(ok:X.Ok):(X.tryB pn xe).Ok:=⟨ok.mod,ok.kind,ok.glob,ok.blt,ok.above,ok.inj,ok.has,ok.cab,ok.hd,ok.frames,ok.stk,ok.exf,ok.bs,ok.bsz,ok.noex,ok.exfs,ok.funs,ok.frf,ok.tab⟩
def Cx.Ok.exc(ok:X.Ok):(X.exc pn ea).Ok:=⟨ok.mod,ok.kind,ok.glob,ok.blt,ok.above,ok.inj,ok.has,ok.cab,λz=>absurd (z) aF,ok.frames,ok.stk,ok.exf,ok.bs,ok.bsz,ok.noex,ok.exfs,ok.funs,ok.frf,ok.tab⟩
def cB.tryB(I:cB X ck σ H s):cB (X.tryB (X.pn++ck) xe) [] σ H s:=⟨I.ok.tryB,I.os,I.bare,I.base,I.loc,I.cell,I.free,I.freeC,λp a=>I.pin p (by simpa using a),I.hok,I.len⟩
def cB.tryW(I:cB (X.tryB pn xe) ck σ H s):cB (X.tryB pn xe') ck σ H s:=⟨Cx.Ok.tryB (X:=X.tryB pn xe) I.ok,I.os,I.bare,I.base,I.loc,I.cell,I.free,I.freeC,I.pin,I.hok,I.len⟩
def cB.untryB(ok:X.Ok)(I:cB (X.tryB (X.pn++ck) xe) pins' σ H s):cB X ck σ H s:=⟨ok,I.os,I.bare,I.base,I.loc,I.cell,I.free,I.freeC,λp a=>I.pin p (aw _ a),I.hok,I.len⟩
def SP.untryB(ok:X.Ok)(q:SP (X.tryB (X.pn++ck) xe) pins' D f s):SP X ck D f s:=by
 cases f with
 |next=>obtain⟨a,H',I,q⟩:=q;exact⟨a,H',I.untryB ok,q⟩
 |brk=>obtain⟨a,H',I,q⟩:=q;exact⟨a,H',I.untryB ok,q⟩
 |cont=>obtain⟨a,H',I,q⟩:=q;exact⟨a,H',I.untryB ok,q⟩
 |ret u=>obtain⟨v,a,H',I,r,q⟩:=q;exact⟨v,a,H',I.untryB ok,r,q⟩
def cB.exc(I:cB X ck σ H s)(a:∀p∈pn,s.heap.get? p.1=some p.2/\H p.1=none/\p.1≠X.env.locals/\p.1∉X.fs/\∀v,p.2.data≠.cell v):cB (X.exc pn ea) [] σ H s:=⟨I.ok.exc,I.os,I.bare,I.base,I.loc,I.cell,I.free,I.freeC,λp h=>a p (by simpa using h),I.hok,I.len⟩
def cB.unexc(ok:X.Ok)(I:cB (X.exc pn ea) pins' σ H s)(a:∀p∈X.pn++ck,p∈pn):cB X ck σ H s:=⟨ok,I.os,I.bare,I.base,I.loc,I.cell,I.free,I.freeC,λp h=>I.pin p (aw _ (a p h)),I.hok,I.len⟩
def nF(I:cB X ck σ H1 s1)(F:qs X.prog X.w X.stack H1 s1 ea t C vs dd B H' s')(k:B.StaysIn h)(A:s'.heap.UpToSlots h):cB X ck σ H' {s' with heap:=h}:=by
 have j:∀b,H' b≠none->∃o,s'.heap.get? b=some o/\h.get? b=some o:=λb a=>by
  cases q:H' b with
  |none=>exact absurd q a
  |some u=>obtain⟨o,e⟩:=(F.hok b u q).at_;exact⟨o,e,k b o (F.trk b o e a)⟩
 have d:∀b o,s1.heap.get? b=some o->H1 b=none->b∈fw X.stack->∃d,h.get? b=some {o with slots:=d}:=λb o e n a=>by obtain⟨d,r⟩:=F.un.slot b o e n a (by simp);obtain⟨_,i,g,m⟩:=I.stack.mem a;rw[e]at g;cases g;obtain⟨l,E⟩:=A b {o with slots:=d} r m;exact⟨l,E⟩
 refine I.call' (ch:=[]) F.os ⟨λb o e n a _=>k b o (F.old b o e n a),λb o e n a _=>d b o e n a,λb o e n _=>F.un.free b o e n (by simp),λb o e _=>?_,F.un.tups,F.un.frzs,F.un.tbls⟩ (λb u e=>?_) F.bare (λb a=>nomatch a)
 .by_cases y:H' b=none
  .by_cases a:b∈fw X.stack
   .obtain⟨x,f⟩:=d b o e (I.stkFree b a) a;exact⟨_,f⟩
   .obtain⟨i,f⟩:=F.ex b o e a;exact⟨i,k b i f⟩
  .obtain⟨i,_,f⟩:=j b y;exact⟨i,f⟩
 .have a:H' b≠none:=by rw[e];exact λz=>nomatch z
  refine (F.hok b u e).stay (λc v D q=>?_) (λ_ q=>q) λ_ _ q=>q;have p:H' c≠none:=by
   rcases D with z|z
   .rw[z];exact a
   .rw[z];exact λz=>nomatch z
  exact k c v (F.trk c v q p)
def hU{M:Model}{A:Around}{E:Vq->Shared->Prop}{i:Nat}{n:Str}{K:Pos}{Q:Unit->Shared->Prop}(I:cB X ck σ H s)(hN:X.N.Nodup)(S:X.N[i]? = some n)(U:X.env.kindOf n=some .local)
  (h:∀s',cB X ck (σ.set i none) H s'->Q () s'):wpAny M A (do bindName X.env n .none;unbindBehindTheSuite X.env n K) Q E s:=by
 obtain⟨m,P,F⟩:=id I.loc;have r:(X.env.scope.kind==.class||(X.env.scope.kind==.module&&X.env.locals != X.env.globals))=false:=by rw[I.ok.kind];rfl
 have l:i<σ.length:=by rw[I.len];exact (aa.mp S).1
 refine wpAny_nameGoes_keeps U P r λY v G f=>?_;obtain⟨oL,_,_,hoL,_⟩:=id P;have tracked:hZ X.prog X.w H Y:=λb ob e=>by
  refine (I.hok b ob e).stay (λc R x q=>(f.2 c ?_).trans q) (λ_ q=>q) λ_ _ q=>q;have a:=I.free;rintro rfl;rcases x with rfl|x
  .rw[a]at e;cases e
  .rw[a]at x;cases x
 refine h _ ⟨I.ok,I.os,I.bare,⟨λb o e n J u=>?_,λb o e n J u=>?_,I.base.free,λb o e u=>?_,I.base.tups,I.base.frzs,I.base.tbls⟩,⟨_,G,λj y v' g D e3=>?_⟩,λy c e=>?_,I.free,I.freeC,λp Z=>?_,tracked,by simpa using I.len⟩
 .exact (f.2 b (aK (aC (aJ e) I.ok.above))).trans (I.base.keep b o e n J u)
 .obtain⟨sl,g⟩:=I.base.slot b o e n J u;exact⟨sl,(f.2 b (aK (aC (aJ e) I.ok.above))).trans g⟩
 .obtain⟨o',g⟩:=I.base.there b o e u;exact⟨o',(f.2 b (aK (aC (aJ e) I.ok.above))).trans g⟩
 .by_cases L:j=i
  .subst L;rw[List.getElem?_set_self l]at D;cases D
  .rw[ao (Ne.symm L)]at D;obtain⟨u',r',q⟩:=F j y v' g D e3;refine⟨u',r',?_⟩;rcases q with⟨k,e⟩|⟨k,c,e,z⟩
   .refine .inl ⟨k,?_⟩;have:y≠n:=λe=>L (jZ hN g (e▸S));simp[this,e]
   .exact .inr ⟨k,c,e,z.sameBut f (I.cne y c e)⟩
 .obtain⟨R,z⟩:=I.cell y c e;exact⟨R,z.sameBut f (I.cne y c e)⟩
 .obtain⟨e,n,ne,nf,d⟩:=I.pin p Z;exact⟨(f.2 p.1 ne).trans e,n,ne,nf,d⟩
noncomputable def gN.gone(D:gN)(i:Nat):gN:={nx:=λσ H=>D.nx (σ.set i none) H,rt:=D.rt,bk:=λσ H=>D.bk (σ.set i none) H,ct:=λσ H=>D.ct (σ.set i none) H}
def sG(K:Frag)(N:List Str)(c:Addr)(i:Nat)(f:XK->TS)(e:Addr->Addr->Option Addr->TS):TS:=λD σ H=>f (λb d H'=>∃a,b=.ref a/\mroIn K a (.ref c)=some true/\∀ea,H' ea=none->e ea a d (D.gone i) ((List.replicate N.length none).set i (some (.ref ea))) H') D σ H
theorem vq{th:Addr->Addr->Option Addr->TS}
  (hN:X.N.Nodup) (hi:X.N[i]? = some n) (hl:X.env.kindOf n=some .local) (hg:Gl X x) (hm:X.mg x=some (.ref Dh)) (T:wm X.K Dh)
  (S:X.stack=X.env::X.outer) (hfr:X.env.frame=some X.env.locals)
  (hb:∀(EK:XK) (pn:List (Addr×Obj)) (xe:Vq->Shared->Prop),dP (fj X.prog X.w) (X.tryB pn xe) EK->kq (X.tryB pn xe) body (tb EK))
  (hs:∀(pn:List (Addr×Obj)) (ea:Addr) (k:Obj) (L:Addr),(ea,k)∈pn->k.cls=.ref L->(∃ws,k.data=.fields ws)->kq (X.exc pn ea) (b₀::suite) (th ea L k.dict))
  (hx:oY X.env.scope n:=by exact .inl rfl) (hfn:X.fn n=true\/X.env.scope.names.lookup n=some .local:=by exact .inr rfl) (hd:(x==("__debug__" : Str))=false:=by decide) :
  PS X (.Try body [.ExceptHandler (some (.Name x np)) (some n) (b₀::suite) hpos] [] [] pos) (sG X.K X.N Dh i tb th):=by
 intro ck s σ H D I h;let E0':XK:=λCv d H'=>∃L,Cv=.ref L/\mroIn X.K L (.ref Dh)=some true/\∀ea,H' ea=none->th ea L d (D.gone i) ((List.replicate X.N.length none).set i (some (.ref ea))) H';let XE:Vq->Shared->Prop:=λe s'=>∃pins' l H1 s1,cB (X.tryB (X.pn++ck) λ_ _=>False) pins' l H1 s1/\fj X.prog X.w X.stack H1 s1 E0' e s';have hB:=hb E0' (X.pn++ck) XE (λpins' l H1 s1 e s' I' q=>⟨pins',l,H1,s1,I'.tryW,q⟩);refine wpAny_Try_except (wpAny_mono (hB [] s σ H D I.tryB h) (λf s1 q=>?_) λe s' q=>?_)
 .have q':=SP.untryB I.ok q;cases f with
  |next=>exact wpAny_execs_nil q'
  |brk=>exact q'
  |cont=>exact q'
  |ret u=>exact q'
 .obtain⟨pins',l,H1,s1,I1,ea,t,Cv,vs,dd,B,H',rfl,F,L,rfl,Y,hth⟩:=q;have G:=F.fly;have hst':=S;rw[S]at G;refine oS (I.ok.frames.trans (by rw[S])) hfr G F.dk λh₄ ⟨y1,y2,y3,y4⟩ hsm₄ dk4=>?_;refine iZ (s:={s' with heap:=h₄}) y1 y2 y3 y4 dk4 λE b hsm₅' dk5=>?_;have I5:=nF I1 F b.1 (hsm₄.trans hsm₅');have Z:cB (X.exc [] ea) [] l H' {s' with heap:=E}:=(I5.untryB I.ok).exc λp y=>nomatch y;obtain⟨ob,hob,hobc⟩:=b.there;refine wpAny_handleBy_cons (codeAny_handlers_test (hW Z hg hm ?_ hd)) (by intro q;cases q);refine nv Z.kIn ⟨ob,hob,hobc⟩ T Y (codeAny_handlers_suite_as ?_);obtain⟨z1,z2,z3,z4⟩:=b;refine iZ (s:={s' with heap:=E}) z1 z2 z3 z4.at dk5 λJ hfl₆ hsm₆ dk6=>?_;have I6:=nF I1 F hfl₆.1 ((hsm₄.trans hsm₅').trans hsm₆);obtain⟨k,ws,A,hoec,a,hoe0⟩:=hfl₆.first;obtain⟨ob6,hob6,rfl⟩:=dk6;obtain rfl:k=ob6:=Option.some.inj (A.symm.trans hob6);have neL:ea≠X.env.locals:=λz=>by
   obtain⟨m,⟨o,es,ep,ho,hdo,_⟩,_⟩:=I6.loc;have g:J.get? ea=some o:=by rw[z];exact ho
   rw[A]at g;cases g;rw[hdo]at a;cases a
  have nfs:ea∉X.fs:=λz=>by obtain⟨_,o,ho,hnf⟩:=I6.funs.mem z;have g:=ho;rw[A]at g;cases g;exact hnf _ a
  have I7:cB (X.exc (X.pn++ck++[(ea,k)]) ea) [] ((List.replicate X.N.length none)) H' {s' with heap:=J}:=by
   refine cB.weak (cB.exc (I6.untryB I.ok) λp y=>?_) (by rw[bC];exact I6.len.symm) (λj v e=>by rw[List.getElem?_replicate]at e;split at e<;>cases e);rcases ah.mp y with y|y
   .exact I6.pin p (aw _ y)
   .obtain rfl:p=(ea,k):=by simpa using y
    exact⟨A,F.he,neL,nfs,λv z=>by rw[a]at z;cases z⟩
  refine jU (X:=X.exc (X.pn++ck++[(ea,k)]) ea) (v:=.ref ea) I7 hN hi hx rfl (λs7 I8=>?_) hfn;refine wpAny_mono (hs _ ea k L (bp _ (ai.mpr rfl)) hoec ⟨_,a⟩ [] s7 _ H' (D.gone i) I8 (hth ea F.he)) (λf s8 q=>?_) λ_ _ z=>z.elim;have r:∀p∈X.pn++ck,p∈X.pn++ck++[(ea,k)]:=λp y=>aw _ y;cases f with
  |next=>obtain⟨P,Q,R,U⟩:=q;exact hU (R.unexc I.ok r) hN hi hl λs9 c=>⟨_,Q,c,U⟩
  |brk=>obtain⟨P,Q,R,U⟩:=q;exact hU (R.unexc I.ok r) hN hi hl λs9 c=>⟨_,Q,c,U⟩
  |cont=>obtain⟨P,Q,R,U⟩:=q;exact hU (R.unexc I.ok r) hN hi hl λs9 c=>⟨_,Q,c,U⟩
  |ret u=>obtain⟨v,P,Q,R,r9,U⟩:=q;exact hU (R.unexc I.ok r) hN hi hl λs9 c=>⟨v,_,Q,c,r9,U⟩
end
end L2
namespace L2
open PySem PySem.Spec PyProof.Rows PySem.W PySem.Calls
inductive qO(K:Frag)(H:Hp)(Ca:Addr):V->Bool->Prop where
 |own {D:Addr} {b:Bool} (e:kitOne K (.ref Ca) (.ref D)=some b):qO K H Ca (.ref D) b
 |ty {T:String} {b:Bool} (e:kitOne K (.ref Ca) (.type T)=some b):qO K H Ca (.ty T) b
 |tup {p:Addr} {ds:List Addr} {b:Bool} (h:H p=some (.tup (ds.map V.ref))) (e:kitAny K (.ref Ca) (ds.map Value.ref)=some b):qO K H Ca (.ref p) b
theorem lX:∀{a:List Addr} {b:List Vq},cO (a.map V.ref) b->b=a.map Value.ref
 |[],_,.nil=>rfl
 |d::a,u::b,.cons r t=>by have e:=r;rw[e,lX t];rfl
def gA{K:Frag}(j:(ea,oe)∈X.pn)(u:oe.cls=.ref Ca)(w:X.K=K:=by rfl) :
  eN X (.builtin "isinstance") (λi H Q=>∃c b,i=[.ref ea,c]/\iN K Ca/\qO K H Ca c b/\Q (.bl b) H):=by
 subst w;intro D s B H i v Q I r h;obtain⟨c,b,rfl,C,k,q⟩:=h;have d:kx ea Ca s.heap:=⟨oe,(I.pin _ (aw _ j)).1,u⟩;cases r with
 |cons r1 r2=>
  cases r2 with
  |cons r3 r4=>
   cases r4;cases (r1);cases k with
   |own e=>cases (r3);exact kia_one (jV C) I.kIn d e (λz=>nomatch z) λa=>⟨.bl b,H,I.tok a,rfl,q⟩
   |ty e=>cases (r3);exact kia_one (jV C) I.kIn d e (λz=>nomatch z) λa=>⟨.bl b,H,I.tok a,rfl,q⟩
   |@tup p ds b hp e=>cases (r3);obtain⟨y,v,t,o,g,f,n,x,_⟩:=(I.hok p _ hp);obtain⟨A,E,m,l⟩:=o;subst f;subst x;rw[lX t]at g;exact kia_tup (jV C) I.kIn d g e (λz=>nomatch z) λa=>⟨.bl b,H,I.tok a,rfl,q⟩
structure fN(P:Program)(w:World)(K:W.Frag)(mg:Str->Option Value)(base:Heap)(x:Str)(k:Nat)(sp:Sp):Prop where
 ex:∃f fd ps,fy P w K mg base (fj P w) k f fd ps sp/\mg x=some (.ref f)/\W.keepIn K (.ref f)=true/\gO K fd ps []
def fN.mono{K:W.Frag}(h:fN P w K mg base x j sp)(d:j<=k):fN P w K mg base x k sp:=
 let ⟨f,fd,ps,F,a,b,c⟩:=h.ex
 ⟨f,fd,ps,F.mono d,a,b,c⟩
def uH{K:W.Frag}{st:Stmt}(D:cD K mg x st)(S:dC N ps (cu st))
  (r:∀(kV e n:Vq) (l:Oq Addr) (a j:Vq) (h:List Vq),h.length=ps.length->bindArgs (W.fnOf x x (dR st) (cQ st) (cu st) .none kV e n l a j) ⟨h,[]⟩=pure (ps.zip h))
  (g:∀d H Q E,sp d H Q E->d.length=ps.length)
  (c:∀f a A b s H d Q E,dh k (A.deeper (envOfC x (cu st) s.heap.objs.size f a))->sp d H Q E->
   ∃t,kq (c5 (fj P w) P w K mg base N x (cu st) f a A b s H E) (cQ st) t/\t {nx:=λ_ u=>Q .non u,rt:=Q} (eP N d) H):fN P w K mg base x (k+1) sp:=by
 obtain⟨f,y,F,m⟩:=D.ex;have q:=F.binds r;have o:=F.kp;obtain⟨v,z,kV,e,n,l,a,j,p,rfl,lk,i⟩:=F.ex;exact⟨f,_,ps,qr lk i S g (c f a),m,o,q⟩
section
variable {X:Cx}{x:Str}{k:Nat}{sp:Sp}{e:Expr}{es:List Expr}{t:TA}{p pos:Pos}{E:XK}
def t5(h:fN X.prog X.w X.K X.mg X.base x k sp)(hr:dh k X.A)(i:dP (fj X.prog X.w) X E)(j:PA X (e::es) t)(m:Gl X x:=by rfl)
  (g:(x==("__debug__" : Str))=false:=by decide) (l:starEach (e::es) X.env=(false,eval e X.env)::starEach es X.env:=by rfl) (d:(backTo pos (starEach es X.env)).any (·.1)=false:=by rfl) :
  PE X (.Call (.Name x p) (e::es) [] pos) (i3 sp [] E t):=by
 obtain⟨f,n,o,F,a,b,c⟩:=h.ex;exact qp F hr m a b c .nil i j g l d
end
def gL{K:Frag}(e:mroIn K C b=some r):(clsIn K C).isSome=true:=by
 unfold mroIn at e;cases h:clsIn K C with
 |none=>rw[h]at e;cases e
 |some cd=>rfl
def n9 K a:kitOne K (.ref a) (.ref a)=some true:=by unfold kitOne;rw[aO (beq_self_eq_true _)]
def uq{K:Frag}{a:Addr}{T:String}{r:Bool}(b:kitMeta T=true)(h:mroIn K a (.type T)=some r):kitOne K (.ref a) (.type T)=some r:=by unfold kitOne;rw[aP (λq=>by cases beq_iff_eq.mp q)];show (if kitMeta T=true then subIn K (.ref a) (.type T) else none)=some r;rw[aO b];exact h
def wG{K:Frag}(b:a≠c)(d:typeIn K (.ref c)=some (.type "type"))(e:(clsIn K c).isSome=true)(h:mroIn K a (.ref c)=some r):kitOne K (.ref a) (.ref c)=some r:=by unfold kitOne;rw[aP (λq=>b (by cases beq_iff_eq.mp q;rfl))];show (if ((clsIn K c).isSome&&typeIn K (.ref c)==some (.type "type"))=true then subIn K (.ref a) (.ref c) else none)=some r;rw[aO (by rw[e,d];decide)];exact h
def g9{K:Frag}{t c:Vq}{a:List Vq}{r:Oq Bool}(h:kitOne K t c=some false)(b:kitAny K t a=r):kitAny K t (c::a)=r:=by unfold kitAny;rw[h];exact b
end L2
namespace L2
open PySem PySem.Spec PyProof.Rows PySem.W
mutual
inductive DV(K:Frag)(H:Hp):V->PyData->Prop
 |non:DV K H .non .none
 |bl (b:Bool):DV K H (.bl b) (.bool b)
 |int (i:Int):DV K H (.int i) (.int i)
 |str (x:Str):DV K H (.str x) (.str x)
 |lst {a:Addr} {xs:List V} {ds:List PyData} (h:fX K H a xs) (hs:nu K H xs ds):DV K H (.ref a) (.list ds)
 |tup {a:Addr} {xs:List V} {ds:List PyData} (h:fY K H a xs) (hs:nu K H xs ds):DV K H (.ref a) (.tuple ds)
inductive nu(K:Frag)(H:Hp):List V->List PyData->Prop
 |nil:nu K H [] []
 |cons {v:V} {d:PyData} {vs:List V} {ds:List PyData} (h:DV K H v d) (hs:nu K H vs ds):nu K H (v::vs) (d::ds)
end
section
variable {X:Cx}{ck:List (Addr×Obj)}{σ:St}{H:Hp}{s:Sq}
mutual
theorem DV.reads(I:cB X ck σ H s):∀{v} {d} {u},DV X.K H v d->dA v u->∃as,Reads s.heap u d as
 |_,_,_,.non,r=>by cases r;exact⟨_,.none⟩
 |_,_,_,.bl b,r=>by cases r;exact⟨_,.bool b⟩
 |_,_,_,.int i,r=>by obtain⟨t,rfl⟩:=r;exact⟨_,.int i t⟩
 |_,_,_,.str x,r=>by obtain⟨t,rfl⟩:=r;exact⟨_,.str x t⟩
 |_,_,_,.lst h hs,r=>by cases r;obtain⟨j,c,⟨o,n,e,f,k,a⟩,_⟩:=I.list h;obtain⟨as,g⟩:=nu.reads I hs c;exact⟨_,.list e f a (by simpa using g)⟩
 |_,_,_,.tup h hs,r=>by cases r;obtain⟨j,c,⟨o,e,f,n,a⟩,_⟩:=I.tuple h;obtain⟨as,g⟩:=nu.reads I hs c;exact⟨_,.tuple e f a (by simpa using g)⟩
theorem nu.reads(I:cB X ck σ H s):∀{vs} {ds} {us},nu X.K H vs ds->cO vs us->∃as,ReadsAll s.heap us ds as
 |_,_,_,.nil,r=>by cases r;exact⟨_,.nil⟩
 |_,_,_,.cons h hs,r=>by
  cases r with
  |cons r1 r2=>obtain⟨as,a⟩:=DV.reads I h r1;obtain⟨bs,b⟩:=nu.reads I hs r2;exact⟨_,.cons a b⟩
end
def px(K:Frag)(c:Bool):R2:=λx y H Q=>∃a b,DV K H x a/\DV K H y b/\(a.canLay0=true/\b.canLay0=true/\a.depth<=100)/\Q (.bl (if c then !PyData.eqv a b else PyData.eqv a b)) H
def uy(o:X.A.units+200<cLine):gR X (compareOp .Eq) (px X.K false):=by intro m s k H x y v u Q I b e h;obtain⟨n,j,f,a,⟨c,d,l⟩,q⟩:=h;obtain⟨as,g⟩:=f.reads I b;obtain⟨bs,i⟩:=a.reads I e;exact SeqAt.eqOverData _ _ _ _ _ _ _ _ _ _ _ _ g i c d (by omega) ⟨.bl _,H,I,rfl,q⟩
def rT(o:X.A.units+200<cLine):gR X (compareOp .NotEq) (px X.K true):=by intro m s k H x y v u Q I b e h;obtain⟨n,j,f,a,⟨c,d,l⟩,q⟩:=h;obtain⟨as,g⟩:=f.reads I b;obtain⟨bs,i⟩:=a.reads I e;exact SeqAt.neOverData _ _ _ _ _ _ _ _ _ _ _ _ g i c d (by omega) ⟨.bl _,H,I,rfl,q⟩
def BE(hr:dh k A):A.units+200<cLine:=by have:=hr.un;omega
end
end L2
namespace L2
open PySem PySem.Spec PyProof.Rows
theorem nU:∀{bs:List Bool} {a:List Vq},cO (bs.map V.bl) a->a=bs.map Value.bool
 |[],_,.nil=>rfl
 |b::bs,u::a,.cons r t=>by have e:=r;rw[e,nU t];rfl
def rh{bs:List Bool}:(List.range bs.length).all (λi=>bs.getD i false)=bs.all id:=by
 induction bs with
 |nil=>rfl
 |cons b bs ih=>rw[ax,bW,List.all_cons,List.all_map,List.all_cons,<-ih];rfl
def ls{bs:List Bool}:(List.range bs.length).any (λi=>bs.getD i false)=bs.any id:=by
 induction bs with
 |nil=>rfl
 |cons b bs ih=>rw[ax,bW,List.any_cons,List.any_map,List.any_cons,<-ih];rfl
section
variable {X:Cx}
def qP{bs:List Bool}:TruthOf prog w A (λi v=>(bs.map Value.bool).toArray[i]? = some v) (λi=>bs.getD i false):=λi v s Q E d c=>by
 have e:(bs.map Value.bool)[i]? = some v:=by simpa using d
 rw[au]at e;cases a:bs[i]? with
 |none=>rw[a]at e;cases e
 |some b=>
  rw[a]at e;cases e;have:bs.getD i false=b:=by rw[af,a];rfl
  dsimp only at c;rw[this]at c;exact aj c
def tJ(k:X.calm=true):eN X (.builtin "all") (λd H Q=>∃(p:Addr) (bs:List Bool),d=[.ref p]/\fX X.K H p (bs.map V.bl)/\Q (.bl (bs.all id)) H):=by
 intro B s y H d x Q I r h;obtain⟨p,bs,rfl,m,q⟩:=h;obtain⟨u,rfl,g⟩:=iw r;cases g;obtain⟨n,l,a,v⟩:=I.list m;have e:=nU l;subst e;have c:p<s.heap.objs.size:=by obtain⟨_,e,_⟩:=a.isList;exact aJ e
 refine call_all_walk (wpAny_pyIter_list a.isList ⟨s.heap.objs.size,_,_,_,_,_,λi=>bs.getD i false,rfl,Walks.list (A:=X.A.in1) (I.ok.hd k) _ p (aK c) _,⟨⟨_,aq _ rfl,rfl,rfl⟩,a.isList.push _⟩,qP,λt w j=>?_⟩);refine⟨.bl _,H,I.kept (λb o e=>j b o ?_ (ae _ e)),rfl,?_⟩
 .intro f;have:=aJ e;have z:b=s.heap.objs.size:=by simpa using f
  rw[z]at this;exact aY _ this
 .rw[<-rh]at q;simpa using q
def kc:bootBuiltins "all" = some (.builtin "all"):=by decide +kernel
def tP:bootBuiltins "any" = some (.builtin "any"):=by decide +kernel
end
end L2
namespace L2
open PySem PySem.Spec PyProof.Rows
def dX(b:Bool)(h:Heap)(l:Addr)(a:Array Vq):Prop:=if b=true then h.IsTuple l a else h.IsList l a
def fU(b:Bool)(h:Heap)(it l:Addr)(k:Nat):Prop:=if b=true then h.IsTupleIter it l k else h.IsListIter it l k
noncomputable def mF(b:Bool):String:=if b=true then "tuple_iterator" else "list_iterator"
def fU.look(x:fU b h it l k):∃o,h.get? it=some o/\o.cls=.type (mF b)/\o.data=.fields #[.ref l,.int k 0]:=by
 cases b with
 |true=>exact (x)
 |false=>exact (x)
def fU.of{k:Nat}(x:∃o,h.get? it=some o/\o.cls=.type (mF b)/\o.data=.fields #[.ref l,.int k 0]):fU b h it l k:=by
 cases b with
 |true=>exact x
 |false=>exact x
def fU.to(x:fU b h it l k)(e:∀o,h.get? it=some o->h'.get? it=some o):fU b h' it l k:=by obtain⟨o,a,q⟩:=x.look;exact .of ⟨o,e o a,q⟩
def dX.look(x:dX b h l xs):∃o n,h.get? l=some o/\o.data=.seq xs n:=by
 cases b with
 |true=>obtain⟨o,a,_,n,c⟩:=(x);exact⟨o,n,a,c⟩
 |false=>obtain⟨o,a,_,n,c⟩:=(x);exact⟨o,n,a,c⟩
def dX.to(x:dX b h l xs)(e:∀o,h.get? l=some o->h'.get? l=some o):dX b h' l xs:=by
 cases b with
 |true=>obtain⟨o,a,q⟩:=(x);exact⟨o,e o a,q⟩
 |false=>obtain⟨o,a,q⟩:=(x);exact⟨o,e o a,q⟩
section
variable {prog:Program}{w:World}{A:Around}{E:Vq->Shared->Prop}{s:Sq}
theorem vY(f:s.heap.IsTupleIter it l k)(g:s.heap.IsTuple l xs)
  (p:∀x h',xs[k]? = some x->h'.IsTupleIter it l (k+1)->Heap.SameBut it s.heap h'->Q x {s with heap:=h'})
  (d:xs[k]? = none->A.handled=none/\∀h' e,Heap.ExtBut it s.heap h'->(∃o,h'.get? e=some o/\o.cls=.type "StopIteration")->E (.ref e) {s with heap:=h'}) :
  wpAny (model prog w) A (Builtin.SmallTypes.nextOf (.ref it)) Q E s:=by
 obtain⟨r,b,h,a⟩:=id f;obtain⟨q,m,_,n,i⟩:=g;unfold Builtin.SmallTypes.nextOf;refine ak (wpAny_callSpecial?_slot f.typeIs F.slot_tuple_iterator_next (wpAny_call_entry F.slot_tuple_iterator_next f.typeIs F.entry_tuple_iterator_next ?_ (F.args_tuple_iterator_next_1 _)));show wpAny _ _ (field (.ref it) 0 >>= _) _ _ s;refine ak (wpAny_field b a rfl ?_);have ne:(Value.ref l==Value.none)=false:=rfl;simp only[ne,bM,if_false];refine ak (wpAny_field b a rfl (ak (wpAny_seqItems m i ?_)));cases c:xs[k]? with
 |some x=>simp only[bD,c];refine ak (wpAny_setField b a (by simp) (aj ⟨x,rfl,aj (p x _ c ?_ (Heap.SameBut.update ..))⟩));refine⟨_,Heap.get?_update_self _ b (Obj.isFreed_of_fields (Obj.data_mapFields a _)),(Obj.cls_mapFields ..).trans h,?_⟩;rw[Obj.data_mapFields a];simp[rawInt]
 |none=>obtain⟨j,d⟩:=d c;simp only[bD,c];refine ak (wpAny_rule (ak (wpAny_setField b a (by simp) ?_)));show wpAny _ _ (newExc (.type "StopIteration") [] >>= _) _ _ _;simp only[newExc,newTuple];refine ak (ak (wpAny_newObj_type (ak (wpAny_of_eq (by first|rfl|(simp only[firstArgMember];rfl)) (wpAny_newObj_type ?_ (by size_fits)))) (by size_fits)));simp only[raiseNew];refine ak (wpAny_handled ?_);rw[show A.in1.handled=none from j];refine ak (aj (wpAny_throw ?_));exact d _ _ (((Heap.SameBut.update ..).extBut.push _).push _) ⟨_,aq _ rfl,rfl⟩
theorem oh(i:fU b s.heap it l k)(h:dX b s.heap l xs)
  (j:∀x h',xs[k]? = some x->fU b h' it l (k+1)->Heap.SameBut it s.heap h'->Q x {s with heap:=h'})
  (g:xs[k]? = none->A.handled=none/\∀h' e,Heap.ExtBut it s.heap h'->(∃o,h'.get? e=some o/\o.cls=.type "StopIteration")->E (.ref e) {s with heap:=h'}) :
  wpAny (model prog w) A (Builtin.SmallTypes.nextOf (.ref it)) Q E s:=by
 cases b with
 |true=>exact vY i h j g
 |false=>
  have c:=i;have d:=h;cases f:xs[k]? with
  |some x=>exact wpAny_nextOf_list_item c d f λh' a b=>j x h' f a b
  |none=>obtain⟨m,g⟩:=g f;exact wpAny_nextOf_list_end m c d f g
def uj{z TI TO t F S N:Addr}{Q:Vq->Shared->Prop}(D:ZipApart z TI TO t F S N)
  (J:IsZip s.heap z TI TO .none) (X:IsPair s.heap TI (.ref t) (.ref F)) (hTO:IsPair s.heap TO a b)
  (h1:fU b1 s.heap t S k) (h2:fU b2 s.heap F N k) (hl1:dX b1 s.heap S xs) (hl2:dX b2 s.heap N ys)
  (U:∀x y h',xs[k]? = some x->ys[k]? = some y->IsZip h' z TI TO (rawInt s.heap.objs.size)->IsPair h' TO x y->fU b1 h' t S (k+1)->fU b2 h' F N (k+1)->IsPair h' s.heap.objs.size x y->h'.objs.size=s.heap.objs.size+1->
   (∀c o,c≠z->c≠TO->c≠t->c≠F->s.heap.get? c=some o->h'.get? c=some o)->Q (.ref s.heap.objs.size) {s with heap:=h'})
  (L:xs[k]? = none\/ys[k]? = none->A.handled=none/\∀h' e,(∀c o,c≠z->c≠TO->c≠t->c≠F->s.heap.get? c=some o->h'.get? c=some o)->(∃o,h'.get? e=some o/\o.cls=.type "StopIteration")->E (.ref e) {s with heap:=h'}) :
  wpAny (model prog w) A (Builtin.«zip.__next__» ⟨[.ref z],[]⟩) (λZ s'=>∃v,Z=.done (.ret v)/\Q v s') E s:=by
 have C:∀{h:Heap} {e:Addr} {G:Obj} {f:Vq},IsZip h z TI TO f->h.get? e=some G->G.cls=.type "StopIteration" ->e≠z:=λ{h e G f} q ge ce u=>by subst u;rw[q]at ge;cases ge;simp at ce
 show wpAny _ _ (field (.ref z) 2 >>= λ_=>_) _ _ _;refine ak (wpAny_field J rfl rfl ?_);refine ak (wpAny_field J rfl rfl (ak (wpAny_seqItems X rfl ?_)));unfold Builtin.SmallTypes.ownedTupleIsFree;refine ak (ak (wpAny_field J rfl rfl (aj ?_)));simp only[if_true];refine ak (wpAny_rule (ak (wpAny_field J rfl rfl (ak (wpAny_setField_rec J (by simp) λg1 y1 I=>?_)))));have z1:=y1;simp only[List.zipIdx_cons,List.zipIdx_nil,bL,bQ];refine ak (ak (ak (wpAny_onRaise ?_)));refine ak (oh (h1.to λo e=>I.extBut _ _ D.i1z e) (hl1.to λo e=>I.extBut _ _ D.l1z e) (λx g2 R t2 p=>aj ?_) (λR=>⟨(L (.inl R)).1,λg2 e p ⟨G,ge,ce⟩=>?_⟩))
 .have p2:=p.extBut _ _ D.TOi1 (I.extBut _ _ D.TOz hTO);refine ak (wpAny_seqItems p2 rfl (ak (wpAny_updateSeq_pair p2 λg3 q3 r=>?_)));have p3:=q3;refine ak (wpAny_letGo (aj (ak (ak (wpAny_onRaise ?_)))));have l:∀c o,c≠z->c≠t->c≠TO->s.heap.get? c=some o->g3.get? c=some o:=λc o d g j e=>r.extBut _ _ j (p.extBut _ _ g (I.extBut _ _ d e));refine ak (oh (h2.to λo e=>l _ o D.i2z D.i12.symm D.TOi2.symm e) (hl2.to λo e=>l _ o D.l2z D.l2i1 D.l2TO e) (λy g4 K t4 n=>aj ?_) (λK=>⟨(L (.inr K)).1,λg4 e n ⟨G,ge,ce⟩=>?_⟩))
  .have p4:=n.extBut _ _ D.TOi2 p3;refine ak (wpAny_seqItems p4 rfl (ak (wpAny_updateSeq_pair p4 λm q5 B=>?_)));have p5:IsPair m TO x y:=q5;refine ak (wpAny_letGo (aj (aj (ak (wpAny_seqItems p5 rfl (ak (wpAny_newTuple ?_)))))));have sz:m.objs.size=s.heap.objs.size:=by rw[B.1,n.1,r.1,p.1,I.1]
   have z5:=B.extBut _ _ D.TOz.symm (n.extBut _ _ D.i2z.symm (r.extBut _ _ D.TOz.symm (p.extBut _ _ D.i1z.symm z1)));have Y:∀c o,c≠z->c≠TO->c≠t->c≠F->s.heap.get? c=some o->m.get? c=some o:=λc o d g j H e=>B.extBut _ _ g (n.extBut _ _ H (l c o d j g e));unfold Builtin.SmallTypes.ownedTupleHandOut;refine ak (ak (wpAny_setField_rec (ae _ z5) (by simp) λg7 y7 k7=>?_));have z7:=y7;refine wpAny_setField_rec z7 (by simp) λP y8 k8=>?_;have z8:=y8;have up:∀c o,c≠z->(m.push {cls:=.type "tuple",data:=.seq #[x,y]}).get? c=some o->P.get? c=some o:=λc o d e=>k8.extBut _ _ d (k7.extBut _ _ d e);have i:∀c o,c≠z->m.get? c=some o->P.get? c=some o:=λc o d e=>up c o d (ae _ e);have p8:=up _ _ (bj (aJ z5)) (aq _ rfl);have s8:P.objs.size=m.objs.size+1:=by rw[k8.1,k7.1,Heap.size_push]
   rw[sz]at z8 p8 s8;refine aj ⟨_,rfl,?_⟩;rw[sz];have e1:=t2.to λo e=>i _ o D.i1z (B.extBut _ _ D.TOi1.symm (n.extBut _ _ D.i12 (r.extBut _ _ D.TOi1.symm e)));have e2:=t4.to λo e=>i _ o D.i2z (B.extBut _ _ D.TOi2.symm e);exact U x y P R K z8 (i _ _ D.TOz p5) e1 e2 p8 s8 λc o d g j H e=>i c o d (Y c o d g j H e)
  .have z4:=n _ _ D.i2z.symm (r.extBut _ _ D.TOz.symm (p.extBut _ _ D.i1z.symm z1));refine wpAny_setField_rec z4 (by simp) λm _ B=>(L (.inr K)).2 m e (λc o d g j H q=>B.extBut _ _ d (n _ _ H (l c o d j g q))) ⟨G,B.extBut _ _ (C z4 ge ce) ge,ce⟩
 .have z2:=p _ _ D.i1z.symm z1;refine wpAny_setField_rec z2 (by simp) λg3 _ r=>(L (.inl R)).2 g3 e (λc o d g j H q=>r.extBut _ _ d (p _ _ j (I.extBut _ _ d q))) ⟨G,r.extBut _ _ (C z2 ge ce) ge,ce⟩
def nK{z TI TO f d h g:Addr}(D:ZipApart z TI TO f d h g)
  (p:IsZip s.heap z TI TO .none) (m:IsPair s.heap TI (.ref f) (.ref d)) (n:IsPair s.heap TO a b)
  (N:fU b1 s.heap f h k) (I:fU b2 s.heap d g k) (i:dX b1 s.heap h xs) (j:dX b2 s.heap g ys)
  (l:∀x y h',xs[k]? = some x->ys[k]? = some y->IsZip h' z TI TO (rawInt s.heap.objs.size)->IsPair h' TO x y->fU b1 h' f h (k+1)->fU b2 h' d g (k+1)->IsPair h' s.heap.objs.size x y->h'.objs.size=s.heap.objs.size+1->
   (∀c o,c≠z->c≠TO->c≠f->c≠d->s.heap.get? c=some o->h'.get? c=some o)->Q (some (.ref s.heap.objs.size)) {s with heap:=h'})
  (r:xs[k]? = none\/ys[k]? = none->A.handled=none/\∀h',(∀c o,c≠z->c≠TO->c≠f->c≠d->s.heap.get? c=some o->h'.get? c=some o)->Q none {s with heap:=h'}) :
  wpAny (model prog w) A (pyNext (.ref z)) Q E s:=by
 have t:s.TypeIs (.ref z) "zip" :=⟨_,p,rfl⟩;unfold pyNext;refine ak (wpAny_attempt (wpAny_callSpecial?_slot t F.slot_zip_next (wpAny_call_entry F.slot_zip_next t F.entry_zip_next
  (uj D p m n N I i j (λx y h' C v H K J L B u G=>aj (l x y h' C v H K J L B u G)) λq=>⟨(r q).1,λh' e hk ⟨o,ho,hc⟩=>?_⟩) (F.args_zip_next_1 _))))
 exact ak (wpAny_isInstance ⟨o,ho,hc⟩ isSubtype_stop (aj ((r q).2 h' hk)))
theorem ng(a:dX b s.heap l xs)
  (h:Q (.ref s.heap.objs.size) {s with heap:=s.heap.push {cls:=.type (mF b),data:=.fields #[.ref l,.int 0 0]}}):wpAny (model prog w) A (pyIter (.ref l)) Q E s:=by
 cases b with
 |true=>exact wpAny_pyIter_tuple (a) h
 |false=>exact wpAny_pyIter_list (a) h
end
noncomputable abbrev zo(b:Bool)(l:Addr):Obj:={cls:=.type (mF b),data:=.fields #[.ref l,.int 0 0]}
abbrev zt(x y:Vq):Obj:={cls:=.type "tuple",data:=.seq #[x,y]}
abbrev zz(p q:Addr):Obj:={cls:=.type "zip",data:=.fields #[.none,.bool false,.bool false,.ref p,.ref q]}
noncomputable abbrev mn(b1 b2:Bool)(h:Heap)(l1 l2:Addr):Heap:=
 ((((h.push (zo b1 l1)).push (zo b2 l2)).push (zt (.ref h.objs.size) (.ref (h.push (zo b1 l1)).objs.size))).push (zt .none .none)).push
  (zz ((h.push (zo b1 l1)).push (zo b2 l2)).objs.size (((h.push (zo b1 l1)).push (zo b2 l2)).push (zt (.ref h.objs.size) (.ref (h.push (zo b1 l1)).objs.size))).objs.size)
section
variable {prog:Program}{w:World}{A:Around}{E:Vq->Shared->Prop}{s:Sq}
def rz b1 b2 l1 l2 xs ys:Meets (Builtin.«zip.__new__» ⟨[.type "zip",.ref l1,.ref l2],[]⟩) (λ_ R s=>dX b1 s.heap l1 xs/\dX b2 s.heap l2 ys/\
  R (.ok (.ret (.ref ((((s.heap.push (zo b1 l1)).push (zo b2 l2)).push (zt (.ref s.heap.objs.size) (.ref (s.heap.push (zo b1 l1)).objs.size))).push (zt .none .none)).objs.size))) {s with heap:=mn b1 b2 s.heap l1 l2}):=by
 refine .of_wp λprog w A R s h=>?_;obtain⟨a,g,d,b,c⟩:=s;obtain⟨f,k,l⟩:=h;have sz:=sub_zip;have j:=f;have i:dX b2 (Shared.heap ⟨a.push (zo b1 l1),g,d,b,c⟩) l2 ys:=k.to λo e=>ae _ e;wp_walk using ng j,ng i;exact⟨_,rfl,l⟩
def sV(g:dX b1 s.heap l1 xs)(j:dX b2 s.heap l2 ys)
  (h:∀h',IsZip h' (s.heap.objs.size+4) (s.heap.objs.size+2) (s.heap.objs.size+3) .none->IsPair h' (s.heap.objs.size+2) (.ref s.heap.objs.size) (.ref (s.heap.objs.size+1))->IsPair h' (s.heap.objs.size+3) .none .none->
   fU b1 h' s.heap.objs.size l1 0->fU b2 h' (s.heap.objs.size+1) l2 0->h'.objs.size=s.heap.objs.size+5->(∀c o,s.heap.get? c=some o->h'.get? c=some o)->Q (.ref (s.heap.objs.size+4)) {s with heap:=h'}) :
  wpAny (model prog w) A (call (.type "zip") [.ref l1,.ref l2]) Q E s:=by
 refine callType_new F.called_zip (by decide) (F.typeCall_zip_2 _ _) (F.newCall_zip_2 _ _) (λf=>F.args_object_init_3 f _ _) F.entry_zip_new (rz b1 b2 l1 l2 xs ys) ⟨g,j,?_⟩;generalize d:s.heap.objs.size=n at *;have b:(s.heap.push (zo b1 l1)).objs.size=n+1:=by rw[Heap.size_push,d]
 have i:((s.heap.push (zo b1 l1)).push (zo b2 l2)).objs.size=n+2:=by rw[Heap.size_push,b]
 generalize a:(s.heap.push (zo b1 l1)).push (zo b2 l2)=g2 at *;have q:∀c o,s.heap.get? c=some o->g2.get? c=some o:=λc o e=>by rw[<-a];exact ae _ (ae _ e)
 have r:g2.get? n=some (zo b1 l1):=by rw[<-a,<-d];exact ae _ (aq _ rfl)
 have t:g2.get? (n+1)=some (zo b2 l2):=by rw[<-a,<-b];exact aq _ rfl
 have l:(g2.push (zt (.ref n) (.ref (n+1)))).objs.size=n+3:=by rw[Heap.size_push,i]
 have k:((g2.push (zt (.ref n) (.ref (n+1)))).push (zt .none .none)).objs.size=n+4:=by rw[Heap.size_push,l]
 have p:mn b1 b2 s.heap l1 l2=((g2.push (zt (.ref n) (.ref (n+1)))).push (zt .none .none)).push (zz (n+2) (n+3)):=by unfold mn;rw[d,b,a,i,l]
 rw[p,b,k];have u:(g2.push (zt (.ref n) (.ref (n+1)))).get? (n+2)=some (zt (.ref n) (.ref (n+1))):=by rw[<-i];exact aq _ rfl
 have v:((g2.push (zt (.ref n) (.ref (n+1)))).push (zt .none .none)).get? (n+3)=some (zt .none .none):=by rw[<-l];exact aq _ rfl
 have m:(((g2.push (zt (.ref n) (.ref (n+1)))).push (zt .none .none)).push (zz (n+2) (n+3))).get? (n+4)=some (zz (n+2) (n+3)):=by rw[<-k];exact aq _ rfl
 have up:∀c o,g2.get? c=some o->(((g2.push (zt (.ref n) (.ref (n+1)))).push (zt .none .none)).push (zz (n+2) (n+3))).get? c=some o:=λc o e=>ae _ (ae _ (ae _ e));exact⟨⟨_,m,rfl⟩,h _ m (ae _ (ae _ u)) (ae _ v) (.of ⟨_,up _ _ r,rfl,rfl⟩) (.of ⟨_,up _ _ t,rfl,rfl⟩) (by rw[Heap.size_push,k]) λc o e=>up c o (q c o e)⟩
end
end L2
namespace L2
open PySem PySem.Spec PyProof.Rows
def cB.turnedL{ch:List Addr}(I:cB X ck σ H s)(k:∀b o,b∉ch->s.heap.get? b=some o->h'.get? b=some o)(f:∀b∈ch,gZ X ck H b) :
  cB X ck σ H {s with heap:=h',toks:=t'}:=by
 have d:∀b u,H b=some u->b∉ch:=λb u e z=>by rw[(f b z).1]at e;cases e
 refine I.step (λb l=>let ⟨_,f1,_,f3,f4,f5⟩:=f b l;⟨f3,f1,f4,f5⟩) (λb o _ _ a e _=>k b o a e) (λb o _ _ a e _=>⟨o.slots,k b o a e⟩) (λ_ _ _ _ n=>n)
  (λb o a e=>⟨o,k b o a e⟩) (λ_ _ e=>e) (λ_ _ _ e=>e) (λb _ p e=>⟨#[],by rw[e];simp⟩) (λm h=>?_) (λb u e=>?_) I.bare
 .obtain⟨o,i,j,g,r⟩:=h;exact⟨o,i,j,k _ o (λz=>(f _ z).2.1 rfl) g,r⟩
 .refine (I.hok b u e).stay (λc v a q=>k c v ?_ q) (λ_ q=>q) λ_ _ q=>q;rcases a with z|z
  .rw[z];exact d b u e
  .exact d c _ z
def n6(K:W.Frag)(H:Hp)(b:Bool)(a:Addr)(xs:List V):Prop:=if b=true then fY K H a xs else fX K H a xs
def cB.seqB(I:cB X ck σ H s)(h:n6 X.K H b a xs):∃its:List Vq,cO xs its/\dX b s.heap a its.toArray/\xs.length<=sizeLine:=by
 cases b with
 |true=>obtain⟨its,r,p,z⟩:=I.tuple (h);exact⟨its,r,p,z⟩
 |false=>obtain⟨its,r,p,z⟩:=I.list (h);exact⟨its,r,p.isList,z⟩
def cB.seqB_inj(I:cB X ck σ H s)(h:n6 X.K H b a xs)(h':n6 X.K H b a ys):xs=ys:=by
 cases b with
 |true=>exact I.tuple_inj h h'
 |false=>exact I.list_inj h h'
noncomputable def B7(K:W.Frag)(d c:Bool)(e f:Addr):It:=
  ⟨λi H=>∃a b x y,n6 K H d e a/\n6 K H c f b/\a[i]? = some x/\b[i]? = some y,
   λi H v g=>∃p x y,v=.ref p/\H p=none/\g=c6 H p (.tup [x,y])/\(∀a,n6 K H d e a->a[i]? = some x)/\∀b,n6 K H c f b->b[i]? = some y,
   λi H=>∃a b,n6 K H d e a/\n6 K H c f b/\(a.length<=i\/b.length<=i)⟩
def tR{K:W.Frag}{x1}{z TI TO m l l1 l2:Addr}(D:ZipApart z TI TO m l l1 l2) :
  oa P w K (.Tuple elts x1 pos) (B7 K b1 b2 l1 l2) [z,TI,TO,m,l] z (λi h=>IsZip h z TI TO .none/\IsPair h TI (.ref m) (.ref l)/\(∃a b,IsPair h TO a b)/\fU b1 h m l1 i/\fU b2 h l l2 i) where
 mem:=by simp
 obj:=λi h p b f=>by
  obtain⟨n,g,⟨a,c,j⟩,r,t⟩:=p;have mem:b=z\/b=TI\/b=TO\/b=m\/b=l:=by simpa using f
  rcases mem with rfl|rfl|rfl|rfl|rfl
  .exact⟨_,n,λv q=>by cases q⟩
  .exact⟨_,g,λv q=>by cases q⟩
  .exact⟨_,j,λv q=>by cases q⟩
  .obtain⟨o,e,_,d⟩:=r.look;exact⟨o,e,λv q=>by rw[d]at q;cases q⟩
  .obtain⟨o,e,_,d⟩:=t.look;exact⟨o,e,λv q=>by rw[d]at q;cases q⟩
 keep:=λi h U p k=>by obtain⟨n,g,⟨a,c,j⟩,r,t⟩:=p;exact⟨k z (by simp) _ n,k TI (by simp) _ g,⟨a,c,k TO (by simp) _ j⟩,r.to λo e=>k m (by simp) o e,t.to λo e=>k l (by simp) o e⟩
 item:=by
  intro X hP hw hK hc i ck s σ H E I Z p hg;subst hP hw hK;obtain⟨n,g,⟨a,c,j⟩,r,t⟩:=p;obtain⟨xs,ys,x,y,q1,q2,e1,e2⟩:=hg;obtain⟨L,r1,p1,z1⟩:=I.seqB q1;obtain⟨G,r2,p2,z2⟩:=I.seqB q2;obtain⟨u,gu,ru⟩:=r1.get e1;obtain⟨v,gv,rv⟩:=r2.get e2;have C:=I.fpOk (aI _) (I.hok.fresh (aI _));refine nK D n g j r t p1 p2 (λN S U A B a1 a2 a3 a4 a5 a6 J=>?_) λq=>?_
  .have eu:N=u:=by
    have:L[i]? = some N:=by simpa using A
    rw[gu]at this;cases this;rfl
   have ev:S=v:=by
    have:G[i]? = some S:=by simpa using B
    rw[gv]at this;cases this;rfl
   subst eu;subst ev;refine⟨_,rfl,wpAny_letOwnedTupleGo_zip a1 λR Q sb=>?_⟩;have zT:=bj (aJ n);have I1:=I.turnedL (t':=s.toks) (ch:=[z,TO,m,l]) (λb o f e=>sb.extBut _ _ (λq=>f (by simp[q])) (J b o (λq=>f (by simp[q])) (λq=>f (by simp[q])) (λq=>f (by simp[q])) (λq=>f (by simp[q])) e))
    (λb f=>Z b (by
     have mem:b=z\/b=TO\/b=m\/b=l:=by simpa using f
     rcases mem with rfl|rfl|rfl|rfl<;>simp))
   have gT:=sb.extBut _ _ zT a5;have I2:cB X ck σ (c6 H s.heap.objs.size (.tup [x,y])) {s with heap:=R}:=I1.track C.1 C.2.2.2.1 C.2.1 C.2.2.2.2.1 C.2.2.2.2.2
    ⟨by show 2<=sizeLine;decide,[N,S],.cons ru (.cons rv .nil),⟨_,gT,rfl,_,rfl,rfl⟩⟩
   have lt:∀{b o},s.heap.get? b=some o->c6 H s.heap.objs.size (.tup [x,y]) b=H b:=λ{b o} e=>cx (aK (aJ e));refine⟨.ref s.heap.objs.size,_,I2,rfl,⟨_,x,y,rfl,C.1,rfl,λxs' h=>by rw[I.seqB_inj h q1];exact e1,λys' h=>by rw[I.seqB_inj h q2];exact e2⟩,?_,λb f=>?_⟩
   .have Y:∀c o,c≠z->U.get? c=some o->R.get? c=some o:=λc o c1 e=>sb.extBut _ _ c1 e;exact⟨Q,Y _ _ D.TIz (J _ _ D.TIz D.TITO D.TIi1 D.TIi2 g),⟨_,_,Y _ _ D.TOz a2⟩,a3.to λo e=>Y _ o D.i1z e,a4.to λo e=>Y _ o D.i2z e⟩
   .have mem:b=z\/b=TI\/b=TO\/b=m\/b=l:=by simpa using f
    have F:=(Z b f).1;obtain⟨o1,g1,_⟩:=r.look;obtain⟨o2,g2,_⟩:=t.look;rcases mem with rfl|rfl|rfl|rfl|rfl
    .rw[lt n];exact F
    .rw[lt g];exact F
    .rw[lt j];exact F
    .rw[lt g1];exact F
    .rw[lt g2];exact F
  .exfalso;have m1:L.toArray[i]? = some u:=by simpa using gu
   have m2:G.toArray[i]? = some v:=by simpa using gv
   rcases q with q|q
   .rw[m1]at q;cases q
   .rw[m2]at q;cases q
 done:=by
  intro X hP hw hK hc i ck s σ H E I Z p hg;subst hP hw hK;obtain⟨n,g,⟨a,c,j⟩,r,t⟩:=p;obtain⟨xs,ys,q1,q2,hl⟩:=hg;obtain⟨L,r1,p1,z1⟩:=I.seqB q1;obtain⟨G,r2,p2,z2⟩:=I.seqB q2;have n1:=r1.length;have n2:=r2.length;have fpc:∀b∈[z,TO,m,l],gZ X ck H b:=λb f=>Z b (by
   have mem:b=z\/b=TO\/b=m\/b=l:=by simpa using f
   rcases mem with rfl|rfl|rfl|rfl<;>simp)
  refine nK D n g j r t p1 p2 (λN S U A B a1 a2 a3 a4 a5 a6 J=>?_) λq=>⟨I.ok.hd hc,λU J=>⟨rfl,I.turnedL (λb o f e=>J b o (λq=>f (by simp[q])) (λq=>f (by simp[q])) (λq=>f (by simp[q])) (λq=>f (by simp[q])) e) fpc⟩⟩;exfalso;have m1:i<L.length:=by
   have:L[i]? = some N:=by simpa using A
   exact (aa.mp this).1
  have m2:i<G.length:=by
   have:G[i]? = some S:=by simpa using B
   exact (aa.mp this).1
  omega
 self:=λ_ _ _ _ _ p h=>wpAny_pyIter_zip p.1 h
def zA:bootBuiltins "zip" = some (.type "zip"):=by decide +kernel
section
variable {X:Cx}
def yr(K:W.Frag)(e d:Bool)(g:TA):TI:=λh H R=>g h H λi a=>∃b c,i=[.ref b,.ref c]/\(∃f,n6 K a e b f)/\(∃j,n6 K a d c j)/\R (B7 K e d b c) a
def zg{x1}(Q:Gl X "zip")(u:X.mg "zip" = none)(J:PA X [a,b] ta)(y:starEach [a,b] X.env=[(false,eval a X.env),(false,eval b X.env)]:=by rfl)
  (c:starEach [b] X.env=[(false,eval b X.env)]:=by rfl):PI X (.Tuple elts x1 tpos) (.Call (.Name "zip" p) [a,b] [] pos) (yr X.K b1 b2 ta):=by
 intro E s B H R I h;refine Call_ (jP I Q u zA (PyProof.Rows.callWith_type1 (dB (J pos E s B H _ I h) λA s1 ⟨vs,H1,I1,r1,g⟩=>?_) (by rw[y,c]) (by rw[c];rfl)));obtain⟨P,F,rfl,⟨U,g⟩,⟨ys,L⟩,q⟩:=g;obtain⟨Z,Y,rfl,t,N⟩:=AE r1;cases t;cases N;obtain⟨A,G,r,_⟩:=I1.seqB g;obtain⟨ws,w,m,_⟩:=I1.seqB L;have i:P<s1.heap.objs.size:=by obtain⟨o,n,e,_⟩:=r.look;exact aJ e
 have f:F<s1.heap.objs.size:=by obtain⟨o,n,e,_⟩:=m.look;exact aJ e
 refine sV r m λS k d j x v D z=>?_;refine wpAny_pyIter_zip k ?_;refine⟨_,_,_,_,H1,rfl,I1.kept z,tR (zipApart_new i f),⟨k,d,⟨_,_,j⟩,x,v⟩,λb C=>?_,q⟩;have mem:b=s1.heap.objs.size+4\/b=s1.heap.objs.size+2\/b=s1.heap.objs.size+3\/b=s1.heap.objs.size\/b=s1.heap.objs.size+1:=by simpa using C
 have l:s1.heap.objs.size<=b:=by rcases mem with rfl|rfl|rfl|rfl|rfl<;>omega
 exact I1.fpOk l (I1.hok.fresh l)
end
end L2
namespace L2
open PySem PySem.Spec PyProof.Rows
def gh(h:H p=none):cC H (c6 H p o):=λb u e=>by rw[cx (cH e h)];exact .of e
def cC.seqT{K:W.Frag}(e:cC H H')(h:fY K H a xs):fY K H' a xs:=by
 rcases h with (h|⟨o,h⟩)|h
 .exact .inl (.inl (e _ _ h))
 .exact .inl (.inr ⟨o,e _ _ h⟩)
 .exact .inr h
noncomputable def js(N0:List Str)(b a:Scope)(N:List Str)(c:List (Option Nat)):Bool:=
 a.kind==.function&&a.names.all (λy=>!(y.2==NameKind.cell)||a.names.lookup y.1==some .cell)&&a.names.all (λy=>!(y.2==NameKind.local)||a.names.lookup y.1==some .local) &&
 a.names.all (λy=>!(y.2==NameKind.free)||b.names.lookup y.1==some .cell)&&N.length==c.length &&
 (List.range N.length).all (λi=>match c[i]?,N[i]? with
  |some (some j),some x=>N0[j]? == some x&&a.names.lookup x==some .free&&b.names.lookup x==some .cell
  |_,_=>true)
def wZ(k:∀x,X.env.scope.names.lookup x=some .cell->∃c,X.env.cells.lookup x=some c)(h:js X.N X.env.scope scope N ix=true):jD X scope N ix:=by
 unfold js at h;simp only[bF]at h;obtain⟨⟨⟨⟨⟨s,n⟩,m⟩,l⟩,r⟩,q⟩:=h;refine⟨by simpa using s,λy d e=>?_,λy d e=>?_,λy d e=>?_,by simpa using r,λi j x f p=>?_⟩
 .have:=bX.mp n y d;rw[e]at this;simpa using this
 .have:=bX.mp m y d;rw[e]at this;simpa using this
 .have:=bX.mp l y d;rw[e]at this;exact k _ (by simpa using this)
 .have o:=(aa.mp f).1;have:=bX.mp q i (aQ.mpr o);rw[f,p]at this;simp only[bF,beq_iff_eq]at this;obtain⟨⟨a,b⟩,c⟩:=this;exact⟨a,b,.inr (.inl c),λz=>by have g:X.env.scope.names.lookup x=some .local:=z;rw[c]at g;cases g⟩
def ot(L:jD X scope N ix):∀x,(fk X N scope C s₃ H ex pn).env.scope.names.lookup x=some .cell->∃c,(fk X N scope C s₃ H ex pn).env.cells.lookup x=some c:=λx b=>by
 refine bA.mp (W.cellsFrom_some _ _ _ ?_);rcases iV (.inl b) with a|a
 .exact .inr (bA.mpr (fH a (L.fre _ a rfl)))
 .exact .inl a
def gM{K:W.Frag}(m:ix[k]? = some none)(b:ix[l]? = some none):eJ ix (wN K 2 (m3 (dI k) (m3 (dI l) vo))):=by
 rintro x o H Q ⟨a,d,c,t,f,v,r,u,g,n,p,w,q⟩;refine⟨a,d,c,t,f,v,r,u,g,n,p,w,λi j e=>?_,q⟩;have s:k≠i:=by rintro rfl;rw[m]at e;cases e
 have h:l≠i:=by rintro rfl;rw[b]at e;cases e
 rw[ao h,ao s]
end L2
namespace L2
open PySem PySem.Spec PyProof.Rows
structure gW(K:W.Frag)(C:Addr)(m qual:Str)(st:Stmt):Prop where
 ex:∃f fd,ve K m qual st f fd/\Ab K C m f
end L2
namespace L2
open PySem PySem.Spec PyProof.Rows
def sH(U:X.N.Nodup)(t:X.N[i]? = some y)(hx:oY X.env.scope y)
  (P:X.calm=true) (hi:PI X tg iter wi) (L:jD X scope N ix) (p:eJ ix g)
  (l:∀C s₃ H ex pn,PG (fk X N scope C s₃ H ex pn) tg g/\nZ (fk X N scope C s₃ H ex pn) ifs tt/\PE (fk X N scope C s₃ H ex pn) elt te)
  (E:X.fn y=true\/X.env.scope.names.lookup y=some .local:=by first|exact .inl rfl|exact .inr rfl)
  (j:swapsWith (.ListComp elt [⟨tg,iter,ifs,0⟩] scope pos) (some (.Name y py)) spos.line X.env=pure true:=by rfl)
  (F:∀x,foldedSetIterable iter X.env x=pure x:=by intro _;rfl):PS X (.Assign [.Name y py] (.ListComp elt [⟨tg,iter,ifs,0⟩] scope pos) spos) (ik (mY ix wi g tt te) (dI i)):=by
 intro Y s r H D I h;rw[exec_Assign_Name_used _ _ _ _ j];refine ak (wpAny_standAt (ak ?_));rw[arm_evalThenUse_ListComp];refine ak (dB (wpAny_comprehension_free rfl F (eW L.fre) L.kind L.names (dB (hi Y s r H _ I h) λv s1 h1=>dB h1 λitv s2 Z=>?_)) λ_ K q=>aj (aj q));obtain⟨it,fp,tn,J,H2,e,I2,T,d,R,W,⟨m0,w0⟩,c⟩:=Z;subst e;refine pK (Q:=λx G=>dI i x r G D.nx) P L p l I2 T d R w0 c λE0 C m H' K B f u q=>?_;refine wpAny_assign_Name (je (v:=.ref E0) u U t hx rfl (λs3 I3 n=>?_) E);obtain⟨a,A,ha⟩:=n;have ne:C≠a:=by
  rcases ha with z|z
  .rw[z];exact f.2.1
  .exact λw=>f.2.2.2.2.1 y a z w.symm
 exact⟨m,B.sameBut A ne,λh' k=>⟨_,H',I3.turned (λb o S e=>k.extBut b o S e) f.1 f.2.1 f.2.2.2.1 f.2.2.2.2.1 f.2.2.2.2.2,q⟩⟩
end L2
namespace L2
open PySem PySem.Spec PyProof.Rows
section
variable {X:Cx}{ck:List (Addr×Obj)}{σ:St}{H:Hp}{s:Sq}{a:Addr}{y v:V}{u r:Vq}{o:Oq V}{A:Around}{E:Vq->Shared->Prop}
def cB.big(I:cB X ck σ H s):sysModules<s.heap.objs.size:=by have h:mainGlobals<s.heap.objs.size:=(I.mod.glob.keeps I.bk).lt;exact Nat.lt_trans (by decide) h
end
def uo(h:Heap)(a:sysModules<h.objs.size):eO P w H (h.push {cls:=.type "dict",data:=.dict #[]}) h.objs.size (.dK []):=⟨bu _,beq_eq_false_iff_ne.mpr (Ne.symm (aK a)),[],.nil,Heap.DictOf.new h⟩
def tZ:TE:=λ_ H Q=>∀p,H p=none->Q (.ref p) (c6 H p (.dK []))
section
variable {X:Cx}{pos:Pos}
def uD:PE X (.Dict [] [] pos) tZ:=λb s c H Q I h=>wpAny_Dict_empty ⟨.ref s.heap.objs.size,_,I.laid (a:=s.heap.objs.size) (o:=.dK []) (t':=s.toks) (λ_ _ q=>ae _ q) (aI _) (uo s.heap I.big),rfl,h _ (I.hok.fresh (aI _))⟩
end
end L2
namespace L2
open PySem PySem.Spec PyProof.Rows Builtin
section
variable {X:Cx}
def nQ:V->Option Bool
 |.bl b=>some b
 |.int i=>some (i != 0)
 |_=>none
def e7:List V->Option (List Bool)
 |[]=>some []
 |v::vs=>(nQ v).bind λb=>(e7 vs).bind λr=>some (b::r)
theorem ll:∀{vs} {bs} {us} {i} {u},e7 vs=some bs->cO vs us->us[i]? = some u->∃v,dA v u/\nQ v=some (bs.getD i false)
 |[],_,_,_,_,_,.nil,e=>by simp at e
 |v::vs,bs,_,i,u,h,.cons r t,e=>by
  cases c:nQ v with
  |none=>simp[e7,c]at h
  |some b=>
   cases hr:e7 vs with
   |none=>simp[e7,c,hr]at h
   |some r'=>
    simp[e7,c,hr]at h;subst h;cases i with
    |zero=>simp at e;subst e;exact⟨v,r,by simpa using c⟩
    |succ i=>obtain⟨f,a,d⟩:=ll hr t (by simpa using e);exact⟨f,a,by simpa using d⟩
theorem lg:∀{vs} {bs},e7 vs=some bs->vs.length=bs.length
 |[],_,h=>by cases h;rfl
 |v::vs,bs,h=>by
  cases a:nQ v with
  |none=>simp[e7,a]at h
  |some b=>
   cases hr:e7 vs with
   |none=>simp[e7,a,hr]at h
   |some r'=>simp[e7,a,hr]at h;subst h;simp[lg hr]
def j0(h:e7 vs=some bs)(r:cO vs us):TruthOf prog w A (λi v=>us.toArray[i]? = some v) (λi=>bs.getD i false):=λi u s Q E e a=>by
 obtain⟨v,d,c⟩:=ll h r (by simpa using e);dsimp only at a;cases v with
 |bl b=>
  cases d;have:b=bs.getD i false:=by simpa[nQ] using c
  rw[<-this]at a;exact wpAny_truthy_bool a
 |int n=>
  obtain⟨t,rfl⟩:=d;have:(n != 0)=bs.getD i false:=by simpa[nQ] using c
  rw[<-this]at a;exact PyProof.Rows.truthy_int a
 |_=>simp[nQ]at c
def qK(t:X.calm=true):eN X (.builtin "any") (λn H Q=>∃p k bs,n=[.ref p]/\(fX X.K H p k\/fY X.K H p k)/\e7 k=some bs/\Q (.bl (bs.any id)) H):=by
 intro F s E H n D Q I r h;obtain⟨p,k,bs,rfl,j,a,q⟩:=h;obtain⟨u,rfl,y⟩:=iw r;cases y;have C:=lg a;rcases j with j|j
 .obtain⟨c,g,f,w⟩:=I.list j;have x:=g.length;have d:p<s.heap.objs.size:=by obtain⟨_,e,_⟩:=f.isList;exact aJ e
  refine call_any_walk (wpAny_pyIter_list f.isList ⟨s.heap.objs.size,_,_,_,_,_,λi=>bs.getD i false,rfl,Walks.list (A:=X.A.in1) (I.ok.hd t) _ p (aK d) _,⟨⟨_,aq _ rfl,rfl,rfl⟩,f.isList.push _⟩,j0 a g,λv B m=>?_⟩);refine⟨.bl _,H,I.kept (λb o e=>m b o (λl=>?_) (ae _ e)),rfl,?_⟩
  .have lt:=aJ e;have z:b=s.heap.objs.size:=by simpa using l
   rw[z]at lt;exact aY _ lt
  .rw[<-ls]at q;have:c.toArray.size=bs.length:=by rw[bq];omega
   rw[this];exact q
 .obtain⟨c,g,f,w⟩:=I.tuple j;have x:=g.length;have d:p<s.heap.objs.size:=by obtain⟨_,e,_⟩:=f;exact aJ e
  have pt:=f;refine call_any_walk (wpAny_pyIter_tuple pt ⟨s.heap.objs.size,_,_,_,_,_,λi=>bs.getD i false,rfl,Walks.tuple (A:=X.A.in1) (I.ok.hd t) _ p (aK d) _,⟨⟨_,aq _ rfl,rfl,rfl⟩,pt.push _⟩,j0 a g,λv B m=>?_⟩);refine⟨.bl _,H,I.kept (λb o e=>m b o (λl=>?_) (ae _ e)),rfl,?_⟩
  .have lt:=aJ e;have z:b=s.heap.objs.size:=by simpa using l
   rw[z]at lt;exact aY _ lt
  .rw[<-ls]at q;have:c.toArray.size=bs.length:=by rw[bq];omega
   rw[this];exact q
end
end L2
namespace HT
open PySem PySem.Spec PyProof.Rows
section
variable {prog:Program}{w:World}{A:Around}{E:Vq->Shared->Prop}{s:Sq}
def getItem_tuple_all{a d:Oq Int}(b:IsTup s.heap t items)(i:s.heap.IsSliceOf sl vl vu .none)(m:IsPart vl a)(l:IsPart vu d)
  (hw:sIx items.size 0 a=0/\sIx items.size items.size d=items.size) (h:Q (.ref t) s):wpAny (model prog w) A (getItem (.ref t) (.ref sl)) Q E s:=by
 obtain⟨j,e,g,k⟩:=id i;have f:s.TypeIs (.ref sl) "slice" :=⟨j,e,g⟩;unfold getItem;try with_reducible refine wpAny_holding ?_;first|refine ak (aj ?_)|skip
 refine ak (wpAny_sequenceKey b.typeIs (by decide) ?_);refine ak (wpAny_callSpecial?_slot b.typeIs PyProof.Rows.slot_tuple_getitem
  (wpAny_call_entry PyProof.Rows.slot_tuple_getitem b.typeIs entry_tuple_getitem ?_ (args_tuple_getitem _ _)))
 show wpAny _ _ (Builtin.Tuple.tupleItemsOf (.ref t) >>= _) _ _ s;refine ak (tupleItemsOf_ b ?_);refine ak (wpAny_typeOf f ?_);rw[aO (by decide)];refine ak (gy i m l ?_);have c:(((sIx items.size 0 a):Int)==0&&(1:Int)==1&&(sIx items.size items.size d-sIx items.size 0 a)==items.size)=true:=by rw[hw.1,hw.2];simp
 show wpAny _ _ (if (((sIx items.size 0 a):Int)==0&&1==1&&(sIx items.size items.size d-sIx items.size 0 a)==items.size)=true then _ else _) _ _ s;rw[aO c];refine ak (ak (wpAny_typeOf b.typeIs (aj ?_)));rw[aO (by decide)];refine ak (wpAny_rule ?_);exact aj ⟨_,rfl,aj h⟩
end
end HT
namespace L2
open PySem PySem.Spec PyProof.Rows
section
variable {X:Cx}
def AX(K:W.Frag):V->Option Int->Option Int->Hp->VK->Prop:=λx d c H Q=>∃a b,x=.ref a/\fY K H a b/\(HT.sIx b.length 0 d=0/\HT.sIx b.length b.length c=b.length)/\Q (.ref a) H
def xv:xF X (AX X.K):=by
 intro t s n H x v p w o u m Q I e f k g h;obtain⟨a,d,rfl,j,hw,q⟩:=h;cases e;obtain⟨b,r,c,l⟩:=I.tuple j;have i:b.toArray.size=d.length:=by rw[bq];exact r.length.symm
 refine⟨"tuple",_,PyProof.Rows.slot_tuple_getitem.lookup,c.typeIs,?_⟩;exact HT.getItem_tuple_all c f k g (by rw[i];exact hw) ⟨.ref a,H,I,rfl,q⟩
end
end L2
namespace L2
open PySem PySem.Spec PyProof.Rows
section
variable {X:Cx}{tg:Expr}
def CA(x:Str):It:=⟨λi _=>∃c,x.cps[i]? = some c,λi H y a=>a=H/\∃c,x.cps[i]? = some c/\y=.str ⟨#[c]⟩,λi _=>x.cps[i]? = none⟩
def jt{prog:Program}{w:World}{A:Around}{E:Vq->Shared->Prop}{s:Sq}{it:Addr}{x:Str}{t:Tok}{i:Nat}{Q:Vq->Shared->Prop}(st:s.heap.IsStrIter it "str_ascii_iterator" x t i)(h:Q (.ref it) s):wpAny (model prog w) A (pyIter (.ref it)) Q E s:=by refine wpAny_pyIter_slot st.typeIs F.slot_str_ascii_iterator_iter (wpAny_call_entry F.slot_str_ascii_iterator_iter st.typeIs F.entry_str_ascii_iterator_iter ?_ (F.args_str_ascii_iterator_iter_1 _));show wpAny _ _ (ret (.ref it)) _ _ s;exact aj ⟨_,rfl, "str_ascii_iterator",_,st.typeIs,F.slot_str_ascii_iterator_next.lookup,h⟩
def sk{K:W.Frag}(x:Str)(t:Tok) it:oa P w K tg (CA x) [it] it (λi h=>h.IsStrIter it "str_ascii_iterator" x t i) where
 mem:=by simp
 obj:=λi h a b f=>by
  have e:b=it:=by simpa using f
  subst e;obtain⟨o,e,c,d⟩:=a;exact⟨o,e,λv z=>by rw[d]at z;cases z⟩
 keep:=λi h B a k=>by obtain⟨o,e,r⟩:=a;exact⟨o,k it (by simp) o e,r⟩
 item:=by intro X p hw n C i R s N H E I j a A;subst p hw n;obtain⟨c,D⟩:=A;obtain⟨y,q,J,u,l,m⟩:=j it (by simp);refine wpAny_pyNext_ascii_item a D λB g F=>?_;have G:=I.turned (t':=s.toks+1) (λb o f e=>(F.2 b f).trans e) y q u l m;obtain⟨o,e,L,d⟩:=id g;exact⟨_,rfl,pI e L d (by decide) ⟨.str ⟨#[c]⟩,H,G,⟨_,rfl⟩,⟨rfl,c,D,rfl⟩,g,λb f=>(j b f).1⟩⟩
 done:=by intro X p hw n C i R s N H E I j a A;subst p hw n;obtain⟨y,q,J,u,l,m⟩:=j it (by simp);exact wpAny_pyNext_ascii_end (I.ok.hd C) a A λB Q=>⟨rfl,I.turned (λb o f e=>Q b o f e) y q u l m⟩
 self:=λ_ _ _ _ _ a h=>jt a h
def yc(b:TE):TI:=λc H R=>b c H λx a=>∃z,x=.str z/\z.cps.all (· < 128)=true/\R (CA z) a
def yj(c:PE X l tl):PI X tg l (yc tl):=by
 intro d s f H R I h;refine dB (c d s f H _ I h) λv s1 ⟨x,H1,I1,r1,q1⟩=>?_;obtain⟨z,e,g,q⟩:=q1;subst e;obtain⟨t,rfl⟩:=r1;refine wpAny_pyIter_ascii g ?_;refine⟨s1.heap.objs.size,[s1.heap.objs.size],_,_,H1,rfl,I1.kept λb o e=>ae _ e,sk z t _,⟨_,aq _ rfl,rfl,rfl⟩,λb a=>?_,q⟩;have e:b=s1.heap.objs.size:=by simpa using a
 subst e;exact I1.fpOk (aI _) (I1.hok.fresh (aI _))
def Df(x y:Str):Bool:=decide (0+y.length<=x.length)&&Builtin.Str.subAt x y 0
def l7:V->List V->Hp->VK->Prop:=λx c H Q=>∃a b,x=.str a/\c=[.str b]/\Q (.bl (Df a b)) H
def rE:BK X "str.startswith" l7:=by intro j s i H x f v g Q I c d h;obtain⟨a,b,rfl,rfl,q⟩:=h;obtain⟨t,rfl⟩:=c;obtain⟨u,rfl,⟨e,rfl⟩⟩:=d.one;exact call_gives F.slot_str_startswith (typeIs_str s a t) F.entry_str_startswith (F.args_str_startswith_2 _ _) (gives_str_startswith a b t e) ⟨.bl _,H,I,rfl,q⟩
def f9(c:Nat):List Nat->List (List Nat)
 |[]=>[[]]
 |x::xs=>if x=c then []::f9 c xs else match f9 c xs with
  |p::r=>(x::p)::r
  |[]=>[[x]]
theorem pJ(c:Nat):∀l,∃p r,f9 c l=p::r
 |[]=>⟨_,_,rfl⟩
 |x::xs=>by
  unfold f9;obtain⟨p,r,e⟩:=pJ c xs;rw[e];by_cases h:x=c
  .rw[aO h];exact⟨_,_,rfl⟩
  .rw[aP h];exact⟨_,_,rfl⟩
def nA(c:Nat):List (List Nat)->List Nat
 |[]=>[]
 |[p]=>p
 |p::q::r=>p++c::nA c (q::r)
theorem lP(c:Nat):∀(p:List Nat),c∉p->f9 c p=[p]
 |[],_=>rfl
 |x::xs,h=>by have a:x≠c:=λz=>h (z▸bc ..);unfold f9;rw[aP a,lP c xs λz=>h (bg _ z)]
theorem nP(c:Nat):∀(p l:List Nat),c∉p->f9 c (p++c::l)=p::f9 c l
 |[],l,_=>by show f9 c (c::l)=_;rw[f9,aO rfl]
 |x::xs,l,h=>by have a:x≠c:=λz=>h (z▸bc ..);rw[List.cons_append,f9,aP a,nP c xs l λz=>h (bg _ z)]
theorem lT(c:Nat):∀(a:List (List Nat)),a≠[]->(∀p∈a,c∉p)->f9 c (nA c a)=a
 |[],h,_=>absurd rfl h
 |[p],_,h=>lP c p (h p (by simp))
 |p::q::r,_,h=>by rw[nA,nP c p _ (h p (by simp)),lT c (q::r) (by simp) λx b=>h x (bg _ b)]
theorem ux(c:Nat):∀b:List Str,(Str.join ⟨#[c]⟩ b).cps.toList=nA c (b.map λp=>p.cps.toList)
 |[]=>rfl
 |[p]=>rfl
 |p::q::r=>by show (p++⟨#[c]⟩++Str.join ⟨#[c]⟩ (q::r)).cps.toList=_;have a:=ux c (q::r);rw[br]at a;rw[br,br,nA,<-a];simp[Str.cps_append]
def ur(x y:Str):Txt.split x y≠[]:=by
 unfold Txt.split;split
 .simp
 .split
  .simp
  .rw[StrLaws.partsBetween_eq];obtain⟨p,r,e⟩:=StrLaws.partsFrom_ne x y.length 0 (Builtin.Str.occurrences x y 0 x.length (x.length+1));rw[e];simp
def m9(l:List Nat):Str:=⟨l.toArray⟩
def p6(x:Str)(c:Nat):Txt.split x ⟨#[c]⟩=(f9 c x.cps.toList).map m9:=by
 have h:=ux c (Txt.split x ⟨#[c]⟩);rw[StrLaws.join_split]at h;rw[h,lT c _ (by simpa using ur x ⟨#[c]⟩) λp b=>?_,aG]
 .refine (List.map_id _).symm.trans (List.map_congr_left λp _=>?_);show p=m9 p.cps.toList;unfold m9;simp
 .obtain⟨q,a,rfl⟩:=List.mem_map.mp b;exact StrLaws.split_free x c q a
def oU:V->List V->Hp->VK->Prop:=λx b H Q=>∃a c,x=.str a/\b=[.str ⟨#[c]⟩]/\a.length<sizeLine/\∀p,H p=none->Q (.ref p) (c6 H p (.lst ((f9 c a.cps.toList).map λl=>V.str (m9 l))))
theorem lM:∀(l:List (Str×Tok)),cO (l.map λp=>V.str p.1) (strValues l)
 |[]=>.nil
 |p::l=>.cons ⟨p.2,rfl⟩ (lM l)
theorem nV(c:Nat):∀l:List Nat,(f9 c l).length<=l.length+1
 |[]=>aI 1
 |x::xs=>by
  have a:=nV c xs;unfold f9;obtain⟨p,r,e⟩:=pJ c xs;rw[e]at a ⊢;simp only[ax]at a;by_cases h:x=c
  .rw[aO h];simp only[ax];omega
  .rw[aP h];simp only[ax];omega
def uJ:BK X "str.split" oU:=by
 intro r s n H x B v C Q I y z h;obtain⟨a,c,rfl,rfl,i,q⟩:=h;obtain⟨t,rfl⟩:=y;obtain⟨u,rfl,⟨g,rfl⟩⟩:=z.one;have m:(f9 c a.cps.toList).length<=sizeLine:=by
  have:=nV c a.cps.toList;have e:a.cps.toList.length=a.length:=by simp[Str.length]
  rw[e]at this;exact aL this i
 have b:∀(l:List (Str×Tok)) (k:Nat),l.map (·.1)=Txt.split a ⟨#[c]⟩->EP X r n Q (.ref s.heap.objs.size) {s with toks:=k,heap:=s.heap.push {cls:=.type "list",data:=.seq (strValues l).toArray}}:=λl k e=>by
  rw[p6]at e;have A:(l.map λp=>V.str p.1)=(f9 c a.cps.toList).map λl=>V.str (m9 l):=by have:=congrArg (List.map V.str) e;rw[aG,aG]at this;exact this
  have o:=lM l;rw[A]at o;exact⟨.ref _,_,I.lnew o (by rw[av];exact m),rfl,q _ I.fresh⟩
 cases d:(decide (a.length<(⟨#[c]⟩:Str).length)||decide (Builtin.Str.strKind a<Builtin.Str.strKind ⟨#[c]⟩))
 .cases f:(Builtin.Str.occurrences a ⟨#[c]⟩ 0 a.length (a.length+1)).isEmpty
  .have j:Txt.split a ⟨#[c]⟩=Builtin.Str.partsBetween a (Builtin.Str.occurrences a ⟨#[c]⟩ 0 a.length (a.length+1)) (⟨#[c]⟩:Str).length:=(aP (ne_true_of_eq_false d)).trans (aP (ne_true_of_eq_false f));have w:(Builtin.Str.partsBetween a (Builtin.Str.occurrences a ⟨#[c]⟩ 0 a.length (a.length+1)) (⟨#[c]⟩:Str).length).length<=sizeLine:=by rw[<-j,p6,av];exact m
   refine call_meets F.slot_str_split (typeIs_str _ _ _) F.entry_str_split (F.args_str_split_2 _ _) (meets_str_split_sep a ⟨#[c]⟩ t g d rfl f (ba i) w) ?_;show wants (EP X r n Q) X.xe _ {s with toks:=_,heap:=s.heap.push {cls:=.type "list",data:=.seq (strsFrom s.toks (Builtin.Str.partsBetween a (Builtin.Str.occurrences a ⟨#[c]⟩ 0 a.length (a.length+1)) (⟨#[c]⟩:Str).length)).toArray}};rw[strsFrom_eq];exact b (numbered s.toks _) _ ((numbered_texts _ _).trans j.symm)
  .exact call_meets F.slot_str_split (typeIs_str _ _ _) F.entry_str_split (F.args_str_split_2 _ _) (meets_str_split_not_found a ⟨#[c]⟩ t g d rfl f)
    (b [(a,t)] s.toks ((aP (ne_true_of_eq_false d)).trans (aO f)).symm)
 .exact call_meets F.slot_str_split (typeIs_str _ _ _) F.entry_str_split (F.args_str_split_2 _ _) (meets_str_split_cannot_occur a ⟨#[c]⟩ t g d)
   (b [(a,t)] s.toks (aO d).symm)
def uG:V->List V->Hp->VK->Prop:=λx c H Q=>∃a p b,x=.str a/\c=[.ref p]/\H p=some (.lst ((b:List Str).map V.str))/\JoinOk a b=true/\Q (.str (Txt.join a b)) H
theorem lJ:∀{a:List Str} {b:List Vq},cO (a.map V.str) b->∃l:List (Str×Tok),b=strValues l/\l.map (·.1)=a
 |[],_,.nil=>⟨[],rfl,rfl⟩
 |x::a,_,.cons ⟨t,e⟩ r=>by obtain⟨l,rfl,c⟩:=lJ r;subst e;exact⟨(x,t)::l,rfl,by rw[br,c]⟩
def xp:BK X "str.join" uG:=by intro A s y H x m v w Q I b d h;obtain⟨a,p,B,rfl,rfl,g,ok,q⟩:=h;obtain⟨t,rfl⟩:=b;obtain⟨u,rfl,c⟩:=d.one;cases c;obtain⟨z,i,n,r,j,e⟩:=I.lstM g;obtain⟨l,rfl,f⟩:=lJ r;exact SC.join (l:=l) ⟨_,e,rfl,_,rfl⟩ f ok λo k=>⟨.str _,H,I.tok _,⟨_,rfl⟩,q⟩
def kQ:eN X (.type "int") (λa H Q=>∃x n,a=[.str x]/\x.length<=640/\intText? x=some n/\Q (.int n) H):=by intro d s e H a f Q I r h;obtain⟨x,n,rfl,b,c,q⟩:=h;obtain⟨u,rfl,⟨t,rfl⟩⟩:=iw r;exact W.KIN.call_text c b ⟨.int n,H,I.tok _,⟨_,rfl⟩,q⟩
def inS(y x:Str):Bool:=!(Builtin.Str.occurrences x y 0 x.length 1).isEmpty
def zO:gR X (compareOp .In) (λy x H Q=>∃a b,y=.str a/\x=.str b/\Q (.bl (inS a b)) H):=by intro g s f H x y v u Q I c d h;obtain⟨a,b,rfl,rfl,q⟩:=h;obtain⟨t,rfl⟩:=c;obtain⟨e,rfl⟩:=d;exact in_str ⟨.bl _,H,I,rfl,q⟩
def qM(P:Program)(w:World)(K:W.Frag)(d:Addr)(a:List (Str×V)):Prop:=(d==sysModules)=false/\∃o b,K.lookup d=some o/\o.IsDictOf (strKind P w) b/\b.map (·.1)=a.map (·.1)/\cO (a.map (·.2)) (b.map (·.2))
def uC{a:Type}[DecidableEq a](k:a):List (a×V)->Option V
 |[]=>none
 |p::r=>if p.1=k then some p.2 else uC k r
theorem mG{f:Type}[DecidableEq f](k:f):∀{c:List (f×V)} {d:List (f×Value)},d.map (·.1)=c.map (·.1)->cO (c.map (·.2)) (d.map (·.2))->(uC k c=none/\valueAt d k=none)\/∃v u,uC k c=some v/\valueAt d k=some u/\dA v u
 |[],[],_,_=>.inl ⟨rfl,rfl⟩
 | (a,v)::c,(b,u)::d,e,r=>by
  simp only[br,List.cons.injEq]at e;obtain⟨i,j⟩:=e;subst i;cases r with
  |cons r1 r2=>
   unfold uC valueAt;by_cases h:b=k
   .exact .inr ⟨v,u,by rw[aO h],by simp[h],r1⟩
   .have g:=mG k j r2;rw[aP h];unfold valueAt at g;simpa[h] using g
 |[],_::_,e,_=>by cases e
 |_::_,[],e,_=>by cases e
def vF{d:Addr}{a:List (Str×V)}(T:qM X.prog X.w X.K d a):vg X (λx y H Q=>∃i v,x=.ref d/\y=.str i/\uC i a=some v/\Q v H):=by
 intro c b G s E H x y v u Q I j A h l;obtain⟨i,r,rfl,rfl,e,q⟩:=h;cases j;obtain⟨t,rfl⟩:=A;obtain⟨F,o,k,f,n,B,p⟩:=T;have D:s.heap.DictOf (strKind X.prog X.w) d k:=Heap.dictOf_iff.mpr ⟨o,I.kIn _ _ f,n⟩;rcases mG i B p with⟨z,_⟩|⟨C,J,z,m,g⟩
 .rw[z]at e;cases e
 .rw[z]at e;cases e;exact tail_any D.typeIs slot_dict_getitem.lookup (wpAny_getItem_of (strKind_is X.prog X.w i t) D.mapOf m ⟨_,H,I.tok _,g,q⟩) l
def wj{d:Addr}{b:List (Str×V)}(T:qM X.prog X.w X.K d b):gR X (compareOp .In) (λy x H Q=>∃a,x=.ref d/\y=.str a/\Q (.bl (uC a b).isSome) H):=by
 intro B s A H y x v u Q I m e h;obtain⟨a,rfl,rfl,q⟩:=h;cases e;obtain⟨t,rfl⟩:=m;obtain⟨g,o,f,c,j,n,l⟩:=T;have D:s.heap.DictOf (strKind X.prog X.w) d f:=Heap.dictOf_iff.mpr ⟨o,I.kIn _ _ c,j⟩;refine wpAny_in_of (strKind_is X.prog X.w a t) g D.mapOf ?_;rcases mG a n l with⟨z,k⟩|⟨r,C,z,i,p⟩
 .rw[z]at q;rw[k];exact⟨.bl false,H,I.tok _,rfl,q⟩
 .rw[z]at q;rw[i];exact⟨.bl true,H,I.tok _,rfl,q⟩
def sY(a:Nat):Builtin.Str.strSliceIndices (some 1) none 1 a=Builtin.Str.strSliceIndices (some ((min 1 a:Nat):Int)) (some (a:Int)) 1 a:=by
 have g:¬((1:Int)<0):=by decide
 have f:¬((a:Int)<0):=by omega
 have d:¬(((min 1 a:Nat):Int)<0):=by omega
 have c:max (0:Int) (min 1 (a:Int))=((min 1 a:Nat):Int):=by omega
 have e:max (0:Int) (min (a:Int) (a:Int))=a:=by omega
 have b:max (0:Int) (min ((min 1 a:Nat):Int) (a:Int))=((min 1 a:Nat):Int):=by omega
 simp only[Builtin.Str.strSliceIndices,g,f,d,if_false,c,e,b,show ((1:Int)>0)=True from by simp,if_true]
def qB(x:Str)(a:Tok):slicePicked x (some (1,a)) none none=Builtin.Str.strSliceIndices (some ((min 1 x.length:Nat):Int)) (some (x.length:Int)) 1 x.length:=sY x.length
def BL(x:Str):Str:=m9 (x.cps.toList.drop 1)
def q8{s:Sq}(x:Str)(t tk:Tok){Q:Vq->Shared->Prop}(hz:x.length<=sizeLine)(h:∀t' k,Q (.str (BL x) t') {s with toks:=k}):(sliceMade x t (some (1,tk)) none none).post Q s:=by
 have hp:=qB x tk;have hl:x.cps.toList.length=x.length:=by simp[Str.length]
 have fm:(slicePicked x (some (1,tk)) none none).filterMap (x.cps[·]?)=x.cps.toList.drop 1:=by
  rw[hp,StrLaws.sliced_plain x (by omega) (aI _),bY (by rw[bE,hl];omega)];by_cases h0:x.length=0
  .have:x.cps.toList=[]:=bZ.mp (hl.trans h0);rw[this];simp
  .rw[show min 1 x.length=1 by omega]
 unfold sliceMade;split
 .rename_i hc;have hc:(slicePicked x (some (1,tk)) none none).length=x.length:=by simpa using hc
  have h0:x.length=0:=by rw[hp,StrLaws.strSliceIndices_plain (by omega) (aI _)]at hc;simp at hc;omega
  have e:x=BL x:=by have:x.cps.toList=[]:=bZ.mp (hl.trans h0);refine Str.ext' ?_;apply Array.toList_inj.mp;show _=(x.cps.toList.drop 1).toArray.toList;rw[this];rfl
  have:=h t s.toks;rw[<-e]at this;exact this
 .rw[fm];refine⟨?_,h _ _⟩;show (x.cps.toList.drop 1).toArray.size<=sizeLine;rw[bq,bE,hl];exact aL (Nat.sub_le _ _) hz
def xZ(b:TE):TE:=λc H Q=>b c H λx a=>∃z,x=.str z/\z.length<=sizeLine/\Q (.str (BL z)) a
def wt{j c i a:_}(m:PE X e te)(f:∀o r,letTemporaryGo e o r=pure ():=by intro _ _;rfl):PE X (.Subscript e (.Slice (some (.Constant (.int 1) j c)) none none i) a) (xZ te):=by intro l s g H Q I h;refine wpAny_Subscript_str_slice (dB (m l s g H _ I h) λv s1 ⟨x,H1,I1,r1,q1⟩=>?_) f;obtain⟨z,rfl,d,q⟩:=q1;obtain⟨t,rfl⟩:=r1;show wpAny _ _ (eval (.Constant (.int 1) j c) X.env) _ _ _;refine wpAny_Constant_int ?_;refine aj ⟨z,t,some (1,_),none,rfl,rfl,rfl,q8 z t _ d λn k=>⟨.str _,H1,?_,⟨_,rfl⟩,q⟩⟩;exact I1.kept λb o e=>ae _ e
end
end L2
namespace L2
open PySem PySem.Spec PyProof.Rows PySem.W PySem.Calls Builtin Builtin.ObjectAttr
abbrev sD:List Vq:=[.type "ValueError",.type "Exception",.type "BaseException",.type "object"]
def ia:List Vq->Bool
 |.ref _::r=>ia r
 |l=>l==sD
theorem km(a:Vq):∀{l:List Vq},ia l=true->refuseLoop a "__setattr__" l=pure ()
 |.ref c::r,e=>by rw[refuseLoop_ref];exact km a (l:=r) e
 |[],e=>by cases e
 |.type n::r,e=>by rw[beq_iff_eq.mp (show (Value.type n::r==sD)=true from e)];exact PySem.F.store_ValueError.passes a
 |.none::r,e=>by cases e
 |.bool _::r,e=>by cases e
 |.int .. :: r,e=>by cases e
 |.str .. :: r,e=>by cases e
 |.builtin _::r,e=>by cases e
 |.float .. :: r,e=>by cases e
 |.ellipsis::r,e=>by cases e
def vJ:∀{l:List Vq},ia l=true->l.contains (.type "object")=true:=λ{l} e=>by
 induction l with
 |nil=>cases e
 |cons v r ih=>
  cases v with
  |ref c=>rw[b0,ih e,Bool.or_true]
  |_=>first|(rw[beq_iff_eq.mp (show (_::r==sD)=true from e)];decide)|cases e
section
variable {prog:Program}{w:World}{A:Around}{E:Vq->Shared->Prop}{s:Sq}{K:Frag}{x C:Addr}{ox:Obj}{name:Str}{v:Vq}
def wU{Q:Unit->Shared->Prop}(X:K.In s.heap)(j:s.heap.get? x=some ox)(g:ox.cls=.ref C)(f:ox.dict=none)(B:∃u,ox.data=.fields u)
  (Y:findIn K (.ref C) "__setattr__" = some (some (.builtin "object.__setattr__"))) (R:(clsIn K C).any (λa=>ia a.mro)=true) (ha:findIn K (.ref C) name=some none) (hh:hasDictIn K C=true)
  (h:∀h' tk,h'.Ns1 s.heap.objs.size (λy=>if y=name then some v else none)->h'.get? x=some {ox with dict:=some s.heap.objs.size}->(∀b o,b≠x->s.heap.get? b=some o->h'.get? b=some o)->Q () {s with heap:=h',toks:=tk}) :
  wpAny (model prog w) A (setAttr (.ref x) name v) Q E s:=by
 obtain⟨u,i⟩:=B;obtain⟨oc,od,odt,z⟩:=ox;dsimp only at g f i;subst g f i;have J:W.InstAt s.heap x {cls:=.ref C,dict:=none,data:=.fields u,slots:=z} C none:=⟨j,rfl,rfl,trivial⟩;refine set_plain X J Y ?_;have c:=PySem.F.store_object;obtain⟨a,n,m⟩:=any_some R;have ne:a.mro.isEmpty=false:=by cases q:a.mro with|nil=>rw[q]at m;cases m|cons _ _=>rfl
 have X':K.In ({s with toks:=s.toks+1}:Sq).heap:=X;have L:Looks (model prog w) ({s with toks:=s.toks+1}:Sq).heap (typeOf (.ref x)) (.ref C):=J.type;have I:Looks (model prog w) ({s with toks:=s.toks+1}:Sq).heap (isInstance (.ref x) (.type "object")) true:=L.andThen (looks_mroIn X (by unfold mroIn;rw[n,Option.bind_some,aP (by rw[ne];decide),vJ m]));refine codeAny_call_builtin c.slot.plain c.entry (@check_slot (model prog w) _ _ _ "object.__setattr__" "object" "__setattr__" (.ref x) [.str name s.toks,v] [] _ c.kind c.split I (c.args (.ref x) (.str name s.toks) v) ?_);have S:Looks (model prog w) ({s with toks:=s.toks+1}:Sq).heap (mroOf (.ref C)) a.mro:=(looks_clsIn X n).andThen .now;rw[osa_eq,refuse_eq];refine ak (ak (L.here (ak (S.here ?_))));rw[km _ m];have L1:Looks (model prog w) ({s with toks:=s.toks+1}:Sq).heap (typeLookup (.ref C) name) none:=looks_findIn X ha;refine aj (ak (L.here (ak (L1.here (ak (aj ?_))))));obtain⟨P,p,G⟩:=any_some hh;obtain rfl:a=P:=Option.some.inj (n.symm.trans p);have L2:Looks (model prog w) ({s with toks:=s.toks+1}:Sq).heap (classData C) a:=looks_clsIn X n;refine ak (aj (ak (ak (wpAny_loadPart j (ak (L2.here ?_))))));rw[G];have l:x≠s.heap.objs.size:=aK (aJ j);refine ak (wpAny_alloc' (ak (wpAny_update' (ae _ j) (aj ?_))));have D:((s.heap.push {cls:=.type "dict",data:=.dict #[]}).update x λo=>{cls:=o.cls,dict:=some s.heap.objs.size,data:=o.data,slots:=o.slots}).get? s.heap.objs.size=some {cls:=.type "dict",data:=.dict #[]}:=(Heap.get?_update_ne _ _ _ _ l.symm).trans (Heap.get?_push_at rfl rfl)
 have r:((s.heap.push {cls:=.type "dict",data:=.dict #[]}).update x λo=>{cls:=o.cls,dict:=some s.heap.objs.size,data:=o.data,slots:=o.slots}).Ns s.heap.objs.size (λ_=>none):=⟨_,#[],_,D,rfl,λe he=>absurd he (by simp),λ_=>rfl⟩
 show wpAny _ _ (storeInDict s.heap.objs.size (.str name s.toks) name v) _ _ _;unfold storeInDict newKeyGuard;refine ak (aj (ak (wpAny_nsSet1 (Heap.Ns1.of_empty r) λh' d k=>?_)));obtain⟨oD,U,Z,t,H,N⟩:=d.count (Within.cons name v Within.nil);refine ak (wpAny_lookBehind t (by rw[H];exact pastItsLine_dict (aL N (by rw[ax,List.length_nil,sizeLine_eq];omega))) ?_);refine aj (h h' _ d ((k.2 x l).trans ?_) λb o hb e=>(k.2 b (aK (aJ e))).trans ((Heap.get?_update_ne _ _ _ _ hb).trans (ae _ e)));exact Heap.get?_update_self _ (ae _ j) rfl
end
abbrev qY(a C t:Addr)(d:Oq Addr):HO:=.ext λh=>h.get? a=some {cls:=.ref C,dict:=d,data:=.fields #[.ref t,.none,.none,.none,.bool false,.none]}
def tu{P:Program}{w:World}{H:Hp}{h:Heap}(e:h.get? a=some {cls:=.ref C,dict:=d,data:=.fields #[.ref t,.none,.none,.none,.bool false,.none]}):eO P w H h a (qY a C t d):=⟨e,⟨_,e⟩,λ_ _ p k=>k _ p⟩
structure rD(K:Frag)(C:Addr)(f:Str):Prop where
 sa:findIn K (.ref C) "__setattr__" = some (some (.builtin "object.__setattr__"))
 po:(clsIn K C).any (λcd=>ia cd.mro)=true
 na:findIn K (.ref C) f=some none
 hd:hasDictIn K C=true
section
variable {X:Cx}{ck:List (Addr×Obj)}{σ:St}{H:Hp}{s:Sq}{a C t fI:Addr}{f:Str}{y:V}{u:Vq}{A:Around}{E:Vq->Shared->Prop}
def nX{Q:Unit->Shared->Prop}(I:cB X ck σ H s)(e:H a=some (qY a C t none))(c:rD X.K C f)(S:dA y u)
  (h:∀dx D,H dx=none->cB X ck σ (c6 (c6 H dx (.xd [(f,y)])) a (qY a C t (some dx))) D->Q () D):wpAny (model X.prog X.w) A (setAttr (.ref a) f u) Q E s:=by
 obtain⟨B,_,_⟩:=I.hok a _ e;have l:=I.hok.fresh (aI s.heap.objs.size);refine wU I.kIn B rfl rfl ⟨_,rfl⟩ c.sa c.po c.na c.hd λY tk L J p=>h _ _ l ?_;have r:∀b,H b=none->b≠a:=λb F z=>by rw[z,e]at F;cases F
 have nd:∀b o,s.heap.get? b=some o->b≠s.heap.objs.size:=λb o q=>aK (aJ q);have U:a≠s.heap.objs.size:=nd a _ B;have d:∀b v,H b=some v->b≠a->c6 (c6 H s.heap.objs.size (.xd [(f,y)])) a (qY a C t (some s.heap.objs.size)) b=some v:=λb v q n=>by rw[cx n,cx (cH q l)];exact q
 refine I.step (ch:=[]) (g':=s.gens) (d':=s.drawn) (λ_ z=>nomatch z) (λb o _ _ _ q n=>p b o (r b n) q) (λb o _ _ _ q n=>⟨o.slots,p b o (r b n) q⟩) (λb o _ q n=>by rw[cx (r b n),cx (nd b o q)];exact n) (λb o _ q=>?_)
  (λb N q=>d b _ q λz=>by rw[z,e]at q;cases q) (λb o u q=>d b _ q λz=>by rw[z,e]at q;cases q) (λb _ Z q=>⟨#[],by rw[d b _ q λz=>by rw[z,e]at q;cases q];simp⟩) (λm P=>P.at λo q=>p _ o (r _ I.free) q) (λb v q=>?_) I.bare
 .by_cases z:b=a
  .exact⟨_,by rw[z];exact J⟩
  .exact⟨o,p b o z q⟩
 .by_cases z:b=a
  .subst z;rw[cy]at q;cases q;exact tu J
  .rw[cx z]at q;by_cases G:b=s.heap.objs.size
   .subst G;rw[cy]at q;cases q;refine⟨_,L,λg=>?_⟩;by_cases x:g=f
    .subst x;simp only[List.lookup,beq_self_eq_true,if_true];exact S
    .have:(g==f)=false:=by simpa using x
     simp only[List.lookup,this,aP x];exact True.intro
   .rw[cx G]at q;refine (I.hok b v q).stay (λc R j i=>p c R (λk=>?_) i) (λc i=>d c _ i λk=>by rw[k,e]at i;cases i) λc N i=>d c _ i λk=>by rw[k,e]at i;cases i
    rcases j with j|j
    .exact z (j.symm.trans k)
    .rw[k,e]at j;cases j
def AK(K:Frag)(e g:TE)(f:Str):TS:=λD σ H=>g σ H λy d=>e σ d λx b=>∃a C t,x=.ref a/\b a=some (qY a C t none)/\rD K C f/\∀c,b c=none->D.nx σ (c6 (c6 b c (.xd [(f,y)])) a (qY a C t (some c)))
def zq{o b:Expr}{e d:Pos}{g i:TE}(n:PE X o g)(l:PE X b i)(j:swapsWith b (some (.Attribute o f d)) e.line X.env=pure false):PS X (.Assign [.Attribute o f d] b e) (AK X.K g i f):=by intro ck s σ H D I h;refine plainObj_wpAny_Assign_Attribute (dB (l ck s σ H _ I h) λu s1 ⟨y,H1,I1,ry,q⟩=>dB (n ck s1 σ H1 _ I1 q) λov s2 ⟨x,H2,I2,rx,a,C,t,ex,ea,c,q2⟩=>?_) j;subst ex;obtain rfl:ov=Value.ref a:=rx;exact nX I2 ea c ry λk r m p=>⟨_,_,p,q2 k m⟩
end
section
variable {prog:Program}{w:World}{A:Around}{E:Vq->Shared->Prop}{h:Heap}{g:Array GenState}{d:Drawn}{t:Nat}{os:OsState}
variable {nm q:Str}{C N:Addr}{bs bm bmB:List Vq}{hdct:Bool}{sn:List Str}{sub:List Vq}{ab:Bool}{col:Oq Bool}{dd:Oq Addr}{k0 k1 k2 k3 k5:Oq Vq}{B Bn newId nid initId inN:String}{bmN:List Vq}
abbrev iC(C t:Addr)(d:Oq Addr):Obj:={cls:=.ref C,dict:=d,data:=.fields #[.ref t,.none,.none,.none,.bool false,.none]}
abbrev eV(h:Heap)(C:Addr)(c8:List Vq):Heap:=(h.push {cls:=.type "tuple",data:=.seq c8.toArray}).push (iC C h.objs.size none)
def kg(n:ExcBaseFacts Bn newId inN bmN)(j:bmB.contains (.type Bn)=true)(F:ExcBaseFacts B nid initId bmB)(T:OwnTail h bmB bm){mN:Str->Option Value}{c:List Vq}{m:Addr}{oI:Obj}{Q:Fin->Shared->Prop}
  (l:h.get? C=some (excClassObj nm q C N bs bm hdct sn sub ab col dd k0 k1 k2 k3 k5 newId)) (y:h.Ns N mN) (G:mN "__init__" = some (.ref m)) (u:h.get? m=some oI) (s:oI.cls=.type "function")
  (D:wpAny (model prog w) A (call (.ref m) (.ref (h.objs.size+1)::c)) (λr v=>r=.none/\Q (.done (.ret (.ref (h.objs.size+1)))) v) E ⟨eV h C c,g,d,t,os⟩) (hrest:c.length<=sizeLine:=by size_fits) :
  wpAny (model prog w) A (Builtin.«type.__call__» ⟨.ref C::c,[]⟩) Q E ⟨h,g,d,t,os⟩:=by
 (repeat (first|with_reducible refine wpAny_loadPart_at l ?_|with_reducible refine wpAny_madeBy_exc l ?_|wp_step));refine codeAny_call_builtin_code (Code.quiet_builtin _ n.quiet) (wpAny_check_new_subU n j T l ?_);refine codeAny_exc_new_subU n j F T l ?_ hrest;show wpAny _ _ _ _ _ _;have a:=ae (iC C h.objs.size none) (ae {cls:=.type "tuple",data:=.seq c.toArray} l);have hfI₁:=ae (iC C h.objs.size none) (ae {cls:=.type "tuple",data:=.seq c.toArray} u);have f:(eV h C c).Ns N mN:=let ⟨o,es,ep,e,r⟩:=y;⟨o,es,ep,ae _ (ae _ e),r⟩;have k:(eV h C c).get? (h.objs.size+1)=some (iC C h.objs.size none):=by heap_get
 have p:(Value.ref C::bm).contains (.ref C)=true:=by simp
 have i:=T.keeps (h':=eV h C c) λb o e=>ae _ (ae _ e);unfold isInstance;(repeat (first|with_reducible refine wpAny_loadPart_at k ?_|(with_reducible refine wpAny_isSubtype_exc a ?_;rw[p])|wp_step));show wpAny _ _ (typeLookup (.ref C) _) _ _ _;refine wpAny_typeLookup_tail a f i F.mroIs F.init.lookup ?_;rw[G];refine wpAny_holding (ak ?_);unfold bindSpecial;refine ak (wpAny_typeOf (T:= "function") ⟨_,hfI₁,s⟩ ?_);rw[aO (by decide)];refine aj (ak (wpAny_mono D (λr v hr=>?_) λ_ _ x=>x));obtain⟨rfl,z⟩:=hr;wp_walk;exact z
def rl(l:ExcBaseFacts Bn newId inN bmN)(e:bmB.contains (.type Bn)=true)(F:ExcBaseFacts B nid initId bmB)(T:OwnTail h bmB bm){mN:Str->Option Value}{a:List Vq}{c:Addr}{oI:Obj}{Q:Vq->Shared->Prop}
  (b:h.get? C=some (excClassObj nm q C N bs bm hdct sn sub ab col dd k0 k1 k2 k3 k5 newId)) (j:h.Ns N mN) (n:mN "__init__" = some (.ref c)) (i:h.get? c=some oI) (f:oI.cls=.type "function")
  (m:wpAny (model prog w) (A.under (.builtin "type.__call__" ⟨.ref C::a,[]⟩)) (call (.ref c) (.ref (h.objs.size+1)::a)) (λr k=>r=.none/\Q (.ref (h.objs.size+1)) k) E ⟨eV h C a,g,d,t,os⟩) (hrest:a.length<=sizeLine:=by size_fits) :
  wpAny (model prog w) A (call (.ref C) a) Q E ⟨h,g,d,t,os⟩:=by
 have s:=tc_lookup;have p:=tc_bind (.ref C);have o:(⟨h,g,d,t,os⟩:Sq).TypeIs (.ref C) "type" :=⟨_,b,rfl⟩;refine wpAny_call (codeAny_of_tree ?_);show wpAny _ _ (callAny (.ref C) _) _ _ _;(repeat (any_goals (first|assumption|with_reducible refine wpAny_loadPart_at b ?_|wp_step)));refine⟨rfl,?_⟩;exact codeAny_call_builtin_at (Code.quiet_builtin _ (by decide +kernel)) entry_typeCall (wpAny_check_type_call_sub b (kg (hrest:=hrest) l e F T b j n i f m))
end
section
variable {M:Model}{A:Around}{E:Vq->Shared->Prop}{env:Env}
variable {nm q:Str}{C N:Addr}{bs bm:List Vq}{hdct:Bool}{sn:List Str}{sub:List Vq}{ab:Bool}{col:Oq Bool}{dd:Oq Addr}{k0 k1 k2 k3 k5:Oq Vq}{newId:String}
def p0{s:Sq}{x:Sem Vq}{Q:Flow->Shared->Prop}(b:bm.contains (.type "BaseException")=true)(k:A.handled=none)
  (h:wpAny M A x (λv a=>∃e t d,v=.ref e/\a.heap.get? C=some (excClassObj nm q C N bs bm hdct sn sub ab col dd k0 k1 k2 k3 k5 newId)/\a.heap.get? e=some (iC C t d)/\E (.ref e) a) E s) :
  wpAny M A (raiseStmt env (some x) none) Q E s:=by
 have f:(Value.ref C::bm).contains (.type "BaseException")=true:=by rw[b0,b,Bool.or_true]
 unfold raiseStmt;refine ak (wpAny_mono h (λv a c=>?_) λ_ _ x=>x);obtain⟨e,t,d,rfl,i,l,j⟩:=c;obtain⟨m,g,d,n,o⟩:=a;(repeat (first|with_reducible refine wpAny_loadPart_at l ?_|with_reducible refine wpAny_loadPart_at i ?_|(with_reducible refine wpAny_isSubtype_exc i ?_;rw[f])|wp_step));exact wpAny_raiseNew_none k j
end
def wO{K:Frag}{h:Heap}{N:Addr}{m:Str->Option Value}{n:Str}{v:Vq}(X:K.In h)(G:h.Ns N m)(e:nsIn K N n=some (some v)):m n=some v:=by
 obtain⟨o,l,p,a,f,_,b⟩:=G;unfold nsIn at e;split at e
 .rename_i c d g r j q;have z:=X _ _ q;rw[a]at z;cases z;cases f;split at e
  .rename_i k i;cases e;rw[<-b];unfold nsFind findBy;rw[<-Array.find?_toList,i];rfl
  .split at e<;>cases e
 .cases e
def jj(K:Frag)(C:Addr)(a:List Vq)(newId:String):Bool:=match K.lookup C with
 |some ⟨.type "type",_,.cls cd,sl⟩=>(match cd.mro,sl.toList with
  |.ref C'::bm,[_,_,_,_,some (.builtin n),_]=>C'==C&&n==newId&&!cd.hasDel&&tailIn K a bm&&nsOkIn K cd.ns&&nsIn K cd.ns "__init__" == findIn K (.ref C) "__init__"
  |_,_=>false)
 |_=>false
theorem vm{K:Frag}(X:K.In h)(q:jj K C bmB newId=true)(j:findIn K (.ref C) "__init__" = some (some (.ref fI))) :
  ∃bm N nm k bs hdct sn sub ab col dd k0 k1 k2 k3 k5 mN,h.get? C=some (excClassObj nm k C N bs bm hdct sn sub ab col dd k0 k1 k2 k3 k5 newId)/\h.Ns N mN/\mN "__init__" = some (.ref fI)/\OwnTail h bmB bm:=by
 unfold jj at q;split at q<;>try (exact absurd q aF)
 rename_i dd o i r;split at q<;>try (exact absurd q aF)
 rename_i s bm u v t w n x g d;simp only[bF,beq_iff_eq,bV]at q;obtain⟨⟨⟨⟨⟨f,p⟩,a⟩,m⟩,b⟩,c⟩:=q;subst f;subst p;cases o;subst g;subst a;cases i with
 |mk l=>simp only at d;subst d;have e:=Heap.Ns.of_isNs (isNs_of_in X b);exact⟨_,_,_,_,_,_,_,_,_,_,_,_,_,_,_,_,_,X _ _ r,e,wO X e (c.trans j),tail_of_in X m⟩
section
variable {prog:Program}{w:World}{A:Around}{E:Vq->Shared->Prop}{s:Sq}{env:Env}
variable {nm q:Str}{C N:Addr}{bs bm bmB:List Vq}{hdct:Bool}{sn:List Str}{sub:List Vq}{ab:Bool}{col:Oq Bool}{dd:Oq Addr}{k0 k1 k2 k3 k5:Oq Vq}{B Bn newId nid initId inN:String}{bmN:List Vq}
theorem pB(R:ExcBaseFacts Bn newId inN bmN)(t:bmB.contains (.type Bn)=true)(F:ExcBaseFacts B nid initId bmB){mN:Str->Option Value}{x:Str}{G l z:Pos}{args:List Expr}{o:Addr}{oI:Obj}{Q:Flow->Shared->Prop}
  (j:bm.contains (.type "BaseException")=true) (I:A.handled=none) (hplain:(backTo l (starEach args env)).any (·.1)=false) (Y:mN "__init__" = some (.ref o)) (D:oI.cls=.type "function")
  (h:wpAny (model prog w) A (eval (.Name x G) env) (λf e=>f=.ref C/\wpAny (model prog w) A (evalArgs (.ref C) true (backTo l (starEach args env)) [])
   (λa b=>a.kw=[]/\a.pos.length<=sizeLine/\b.heap.get? C=some (excClassObj nm q C N bs bm hdct sn sub ab col dd k0 k1 k2 k3 k5 newId)/\b.heap.Ns N mN/\OwnTail b.heap bmB bm/\b.heap.get? o=some oI/\
    wpAny (model prog w) (A.under (.builtin "type.__call__" ⟨.ref C::a.pos,[]⟩)) (call (.ref o) (.ref (b.heap.objs.size+1)::a.pos))
     (λr n=>r=.none/\(n.heap.get? C=some (excClassObj nm q C N bs bm hdct sn sub ab col dd k0 k1 k2 k3 k5 newId)/\∃d,n.heap.get? (b.heap.objs.size+1)=some (iC C b.heap.objs.size d))/\E (.ref (b.heap.objs.size+1)) n) E {b with heap:=eV b.heap C a.pos}) E e) E s) :
  wpAny (model prog w) A (exec (.Raise (some (.Call (.Name x G) args [] l)) none z) env) Q E s:=by
 rw[arm_exec_Raise];(first
  |refine ak (wpAny_standAt (p0 (C:=C) (nm:=nm) (q:=q) (N:=N) (bs:=bs) (bm:=bm) (hdct:=hdct) (sn:=sn) (sub:=sub) (ab:=ab) (col:=col) (dd:=dd) (k0:=k0) (k1:=k1) (k2:=k2) (k3:=k3) (k5:=k5) (newId:=newId) j I (ak (wpAny_mono (wpAny_Call_ofName (wpAny_mono h (λf e c=>?_) λ_ _ x=>x)) (λv m i=>ak (wpAny_standAt (aj i))) λ_ _ x=>x))))
  | (simp only[evalOpt,Option.map];refine ak (wpAny_standAt (p0 (C:=C) (nm:=nm) (q:=q) (N:=N) (bs:=bs) (bm:=bm) (hdct:=hdct) (sn:=sn) (sub:=sub) (ab:=ab) (col:=col) (dd:=dd) (k0:=k0) (k1:=k1) (k2:=k2) (k3:=k3) (k5:=k5) (newId:=newId) j I (ak (wpAny_mono (wpAny_Call_ofName (wpAny_mono h (λf e c=>?_) λ_ _ x=>x)) (λv m i=>ak (wpAny_standAt (aj i))) λ_ _ x=>x))))))
 obtain⟨rfl,c⟩:=c;unfold callWith;refine ak (wpAny_holding (wpAny_mono c (λa b k=>ak (wpAny_standAt ?_)) λ_ _ x=>x));obtain⟨H,y⟩:=a;obtain⟨p,S,J,L,T,P,k⟩:=k;obtain rfl:y=[]:=p;obtain⟨Z,g,d,tk,os⟩:=b;simp only[hplain];refine ak (wpAny_keeperOf_exc J ?_);refine ak (rl (hrest:=S) R t F T J L Y P D (wpAny_mono k (λr n hr=>⟨hr.1,ak (wpAny_holding (wpAny_point (aj ?_)))⟩) λ_ _ x=>x));obtain⟨_,⟨u,U,X⟩,K⟩:=hr;exact⟨_,_,U,rfl,u,X,K⟩
end
def CG(K:Frag)(C:Addr)(f:Str):Sp:=λc H Q _=>∃a t y,c=[.ref a,y]/\H a=some (qY a C t none)/\∀b,H b=none->Q .non (c6 (c6 H b (.xd [(f,y)])) a (qY a C t (some b)))
def uB{P:Program}{w:World}{a:Hp}{h:Heap}{e dx:Addr}{o o1 o2:HO}(l:a e=none)(ne:dx≠e)(m:∀y,o2≠.own y)(j:∀i,o2≠.tup i)(g:hZ P w (c6 (c6 (c6 a e o1) dx o) e o2) h):hZ P w (c6 a dx o) h:=by
 have f:∀b,b≠e->c6 (c6 (c6 a e o1) dx o) e o2 b=c6 a dx o b:=λb d=>by
  rw[cx d];unfold c6;by_cases z:b=dx
  .rw[aO z,aO z]
  .rw[aP z,aP z,aP d]
 intro b v q;have d:b≠e:=λz=>by rw[z,cx (Ne.symm ne),l]at q;cases q
 refine (g b v ((f b d).trans q)).stay (λ_ _ _ k=>k) (λc k=>?_) λc i k=>?_
 .by_cases z:c=e
  .subst z;rw[cy]at k;exact absurd (Option.some.inj k) (m _)
  .rw[<-f c z];exact k
 .by_cases z:c=e
  .subst z;rw[cy]at k;exact absurd (Option.some.inj k) (j _)
  .rw[<-f c z];exact k
section
variable {P:Program}{w:World}{K:W.Frag}{mg:Str->Option Value}{base:Heap}{N:List Str}{qual:Str}{scope:Scope}{f:Addr}{cd:Vq}{A:Around}{outer:List Env}{s₀:Sq}{H₀:Hp}{E:XK}
theorem qD{x g:Str}{C Y:Addr}{L bmN:List Vq}{B Bn newId nid initId inN:String}{np a pos:Pos}{d:Expr}{ta:TA}{k:Nat}{fd:FuncData}{ps:List Str}(ex:nsIn K mainGlobals x=some (some (.ref C)))(q:jj K C L newId=true)(Q:Ab K C "__init__" Y)
  (Fn:ExcBaseFacts Bn newId inN bmN) (hBn:L.contains (.type Bn)=true) (F:ExcBaseFacts B nid initId L) (FI:fy P w K mg base lI k Y fd ps (CG K C g)) (hbI:gO K fd ps []) (hr:dh (k+1) (A.deeper (envOfC qual scope s₀.heap.objs.size f cd)))
  (ha:PA (c5 (fj P w) P w K mg base N qual scope f cd A outer s₀ H₀ E) [d] ta)
  (hg:Gl (c5 (fj P w) P w K mg base N qual scope f cd A outer s₀ H₀ E) x:=by rfl) (hdb:(x==("__debug__" : Str))=false:=by decide)
  (he:starEach [d] (envOfC qual scope s₀.heap.objs.size f cd)=[(false,eval d (envOfC qual scope s₀.heap.objs.size f cd))]:=by rfl) :
  PS (c5 (fj P w) P w K mg base N qual scope f cd A outer s₀ H₀ E) (.Raise (some (.Call (.Name x np) [d] [] a)) none pos) (λ_ Z H=>ta Z H λvs m=>∃y,vs=[y]/\∀dx,m dx=none->E (.ref C) (some dx) (c6 m dx (.xd [(g,y)]))):=by
 intro ck s Z H D I h;have R:=mg_of I.mod.kin I.mod.glob ex;obtain⟨bm,M,nm,qn,bs,hdct,sn,sub,ab,col,dd,k0,k1,k2,k3,k5,mN,hC,hN,hi,T⟩:=vm I.mod.kin q Q.at_;obtain⟨oI,hoI,hcI⟩:∃oI,K.lookup Y=some oI/\oI.cls=.type "function" :=by have hI':(K.lookup Y).map (·.cls)=some (.type "function"):=beq_iff_eq.mp Q.fn;exact b4.mp hI'
 refine pB (nm:=nm) (q:=qn) (N:=M) (bs:=bs) (hdct:=hdct) (sn:=sn) (sub:=sub) (ab:=ab) (col:=col) (dd:=dd) (k0:=k0) (k1:=k1) (k2:=k2) (k3:=k3) (k5:=k5)
  Fn hBn F (mN:=mN) (oI:=oI) (T.hasType F.hasBase) (I.ok.hd rfl) ?_ hi hcI (hW I hg R ⟨rfl,?_⟩ hdb)
 .show (backTo a (starEach [d] (envOfC qual scope s₀.heap.objs.size f cd))).any (·.1)=false;rw[he];rfl
 .refine (?_:wpAny (model P w) _ (evalArgs (.ref C) true (backTo a (starEach [d] (envOfC qual scope s₀.heap.objs.size f cd))) []) _ _ s);have h3:wpAny (model P w) (c5 (fj P w) P w K mg base N qual scope f cd A outer s₀ H₀ E).A (spliced (backTo a (starEach [d] (envOfC qual scope s₀.heap.objs.size f cd)))) _ _ s:=ha a ck s Z H _ I h;rw[he]at h3 ⊢;refine Calls.evalArgs_plain (dB h3 λus s2 ⟨vs,m,I1,r,y,ev,q1⟩=>⟨rfl,?_,I1.bk _ _ hC,hN.keeps I1.bk,T.keeps I1.bk,I1.kIn _ _ hoI,?_⟩)
  .show us.length<=sizeLine;rw[<-r.length,ev];show 1<=sizeLine;decide
  subst ev;obtain⟨u,rfl,ru⟩:=iw r;have e2:(eV s2.heap C [u]).get? (s2.heap.objs.size+1)=some (iC C s2.heap.objs.size none):=by heap_get
  have et:(eV s2.heap C [u]).get? s2.heap.objs.size=some {cls:=.type "tuple",data:=.seq [u].toArray}:=by heap_get
  have kk:∀b o,s2.heap.get? b=some o->(eV s2.heap C [u]).get? b=some o:=λb o z=>ae _ (ae _ z);have fe:=I1.hok.fresh (bx s2.heap.objs.size);have ft:=I1.hok.fresh (aI s2.heap.objs.size);have I2:cB (c5 (fj P w) P w K mg base N qual scope f cd A outer s₀ H₀ E) ck Z (c6 m (s2.heap.objs.size+1) (qY (s2.heap.objs.size+1) C s2.heap.objs.size none)) {s2 with heap:=eV s2.heap C [u]}:=I1.laid (t':=s2.toks) kk (bx _) (tu e2);have r2:cO [V.ref (s2.heap.objs.size+1),y] [Value.ref (s2.heap.objs.size+1),u]:=.cons rfl r;let QQ:VK:=λv H2=>v=.non/\∃dx,m dx=none/\dx≠s2.heap.objs.size+1/\H2=c6 (c6 (c6 m (s2.heap.objs.size+1) (qY (s2.heap.objs.size+1) C s2.heap.objs.size none)) dx (.xd [(g,y)])) (s2.heap.objs.size+1) (qY (s2.heap.objs.size+1) C s2.heap.objs.size (some dx));have U:CG K C g [V.ref (s2.heap.objs.size+1),y] (c6 m (s2.heap.objs.size+1) (qY (s2.heap.objs.size+1) C s2.heap.objs.size none)) QQ E0:=⟨_,_,y,rfl,cy,λdx j=>by
   have ne:dx≠s2.heap.objs.size+1:=λz=>by rw[z,cy]at j;cases j
   rw[cx ne]at j;exact⟨rfl,dx,j,ne,rfl⟩⟩
  refine wpAny_call (codeAny_mono (FI.run _ (envOfC qual scope s₀.heap.objs.size f cd::outer) _ _ ⟨[.ref (s2.heap.objs.size+1),u],[]⟩ [.ref (s2.heap.objs.size+1),u] _ QQ E0 (hr.make C [u] []) (I2.env0.make C [u] []) (hbI _ [.ref (s2.heap.objs.size+1),u] I2.kIn (by rw[bw];exact (r2.length.symm.trans (FI.len _ _ _ _ U)))) r2 U) λr s' i=>?_);cases r with
  |error e=>exact i.elim
  |ok fl=>
   cases fl with
   |next=>exact False.elim i
   |brk=>exact False.elim i
   |cont=>exact False.elim i
   |ret uu=>
    obtain⟨v,H3,I3,rv,rfl,dx,j,ne,rfl⟩:=I2.after i;obtain⟨v',H3',hos,J,un,X,_,rfl,l,t,S,rfl⟩:=i;obtain⟨eo,_,_⟩:=X (s2.heap.objs.size+1) _ cy;have p:=(Un.laid (fs:=fw (envOfC qual scope s₀.heap.objs.size f cd::outer)) (ex:=[]) (o:=qY (s2.heap.objs.size+1) C s2.heap.objs.size none) kk (bx s2.heap.objs.size) fe).trans un;have nt:l≠s2.heap.objs.size:=λz=>by have:=un.free s2.heap.objs.size _ et (by rw[cx (aK (bt _))];exact ft) (by simp);rw[cx (aK (bt _)),z,cy]at this;cases this
    have nf:∀b o,s2.heap.get? b=some o->m b=none->b≠l:=λb o z n k=>by have:=p.free b o z n (by simp);rw[cx (aK (bP (aJ z))),k,cy]at this;cases this
    have c:∀b v,m b=some v->c6 m l (.xd [(g,y)]) b=some v:=λb v z=>by rw[cx (cH z t)];exact z
    refine⟨rv,⟨I3.bk _ _ hC,some l,eo⟩,ka (args:=[u]) I1 hos J I3.stack (Heap.get?_none_of_le (bx _)) (Heap.get?_none_of_le (aI _)) eo ?_
     ⟨p.keep,p.slot,λb o z n hx=>by rw[cx (nf b o z n)];exact n,p.there,λb xs z=>c b _ z,λb o v z=>c b _ z,λb _ ps z=>⟨#[],by rw[c b _ z];simp⟩⟩ (uB fe S (λ_ z=>by cases z) (λ_ z=>by cases z) X) (by rw[cx (Ne.symm S)];exact fe) (by rw[cx (Ne.symm nt)];exact ft) (λb R=>?_) (q1 l t)⟩
    .have z:=un.keep s2.heap.objs.size _ et (by rw[cx (aK (bt _))];exact ft) (λhm=>?_) (by simp)
     .exact⟨_,_,z,rfl,rfl⟩
     .obtain⟨_,o',G,_⟩:=I1.stack.mem hm;exact absurd (aJ G) (aY _)
    .obtain⟨_,o',G,_⟩:=I1.stack.mem R;rw[cx (nf b o' G (I1.stkFree b R))];exact I1.stkFree b R
end
section
variable {prog:Program}{w:World}{A:Around}{E:Vq->Shared->Prop}{s:Sq}{K:Frag}{x D:Addr}{ox od:Obj}{name:Str}{v:Vq}
def zS{Q:Vq->Shared->Prop}{b:Bool}(X:K.In s.heap)(J:W.InstAt s.heap x ox D (some od))(C:iN K D)(n:hasDictIn K D=true)(p:findIn K (.ref D) name=some none)(f:lookIn name od=some (some v))(m:handedIn v=true)
  (h:Q v {s with toks:=s.toks+1}):wpAny (model prog w) A (getAttr (.ref x) name b) Q E s:=by
 obtain⟨i,g,d,t,r⟩:=s;have I:kx x D i:=⟨_,J.at_,J.cls⟩;have o:=J.type (M:=model prog w);have q:=looks_findIn (M:=model prog w) X C.ga;have L2:=looks_findIn (M:=model prog w) X C.gt;have u:=looks_find (M:=model prog w) X J (findObj_own n p rfl f);have e:(Value.builtin "BaseException.__getattribute__" == Value.builtin "object.__getattribute__")=false:=by decide +kernel
 unfold getAttr getAttrBy;refine ak (wpAny_mkText (wpAny_holding (ak (o.at (ak (q.at ?_))))));dsimp only;rw[e];simp only[Bool.and_false,bM,if_false];unfold getAttrByItsOwn hookBefore;rw[aO (show onTheHeap (Value.ref D)=true from rfl)];refine ak (L2.at (ak (wpAny_attempt (wpAny_holding ?_))));unfold callGetattribute boundAndCalled;rw[aP (by cases b<;>decide)];have k:bindSpecial (.builtin "BaseException.__getattribute__") (.ref x)=pure (.builtin "BaseException.__getattribute__",[.ref x]):=by
  have c:withoutEnding? "BaseException.__getattribute__" "#opaque" = none:=by decide +kernel
  have a:withoutEnding? "BaseException.__getattribute__" "#data" = none:=by decide +kernel
  have l:builtinKind "BaseException.__getattribute__" = some .slot:=by decide +kernel
  simp only[bindSpecial,typeOf,builtinType,c,a,l];rfl
 rw[k];refine ak (aj ?_);have j:=X;refine wpAny_call (codeAny_call_builtin (by decide +kernel) F.entry_bexc_ga (ly j I C ?_));unfold Builtin.«object.__getattribute__»;(repeat lk);show wpAny _ _ (handedOut v) _ _ _;rw[handedOut_of m];exact aj h
end
section
variable {X:Cx}{pn:List (Addr×Obj)}{ea Ca:Addr}{oe:Obj}
def AU(K:Frag)(ea Ca:Addr)(d:Oq Addr)(c:TE)(f:Str):TE:=λe H Q=>c e H λv a=>v=.ref ea/\iN K Ca/\rD K Ca f/\∃b fs y,d=some b/\a b=some (.xd fs)/\fs.lookup f=some y/\Q y a
def zX{e:Expr}{f:Str}{j:Pos}{n:TE}{d:Oq Addr}(t:(ea,oe)∈pn)(k:oe.cls=.ref Ca)(m:oe.dict=d)(g:∃o,oe.data=.fields o)(B:PE (X.exc pn ea) e n)(z:attributeBase e f (X.exc pn ea).env (eval e (X.exc pn ea).env)=eval e (X.exc pn ea).env:=by rfl) :
  PE (X.exc pn ea) (.Attribute e f j) (AU X.K ea Ca d n f):=by
 subst m;intro A s x H Q I h;refine vA z (dB (B A s x H _ I h) λu s1 ⟨v,H1,I1,rv,ev,xc,xi,dx,fs,y,hd,hx,hl,q⟩=>?_);subst ev;obtain rfl:u=Value.ref ea:=rv;obtain⟨o,i⟩:=g;obtain⟨C,p,c⟩:=I1.hok dx _ hx;obtain⟨D,r,l⟩:=lC p;have hr:=c f;rw[hl]at hr;cases a:C f with
 |none=>rw[a]at hr;exact hr.elim
 |some w=>rw[a]at hr;have b:dA y w:=hr;refine zS I1.kIn (J:=⟨(I1.pin (ea,oe) (aw _ t)).1,k,by unfold notCls;rw[i],by rw[hd];exact r⟩) xc xi.hd xi.na (by rw[l,a]) (rB b) ⟨y,H1,I1.tok _,b,q⟩
end
end L2
namespace L2.Sp
open PySem PySem.SetTable
end L2.Sp
namespace L2.Sp
open PySem PySem.SetTable
end L2.Sp
namespace L2.Sp
open PySem PySem.SetTable
end L2.Sp
namespace L2.Sp
open PySem PySem.SetTable
end L2.Sp
namespace L2.Sp
open PySem PySem.SetTable PyProof.Rows
end L2.Sp
namespace L2.Sp
open PySem PySem.SetTable PyProof.Rows
end L2.Sp
namespace L2.Sp
open PySem PySem.SetTable PyProof.Rows
end L2.Sp
namespace L2.Sp
open PySem PySem.SetTable PyProof.Rows
end L2.Sp
namespace L2.Sp
open PySem PySem.SetTable PyProof.Rows
end L2.Sp
namespace Cu
open PySem PyProof.Rows
open PySem.Builtin.Int (intBits)
def noPy(h:intBits y<=m)(c:m<=8000):PySem.Builtin.divisionGoesByPylong x y=false:=by
 refine PyProof.noPylong_of_log2 ?_;rcases Nat.eq_zero_or_pos y.natAbs with a|b
 .rw[a];decide
 .refine (Nat.log2_lt (bj b)).mpr ?_;exact lt_pow_of_bits h (by omega)
end Cu
namespace L2
open PySem PySem.Spec PyProof.Rows
def sI:eN X (.builtin "isinstance") (λa H Q=>∃x T t b,a=[x,.ty T]/\gU X.K H x t/\W.kitOne X.K t (.type T)=some b/\Q (.bl b) H):=by
 intro i s g H a f Q I r h;obtain⟨x,T,t,b,rfl,d,e,q⟩:=h;cases r with
 |cons r1 r2=>
  cases r2 with
  |cons r3 r4=>cases r4;cases (r3);exact qH I r1 d e λc=>⟨.bl b,H,I.tok c,rfl,q⟩
def iB:bootBuiltins "isinstance" = some (.builtin "isinstance"):=by decide +kernel
def tT:bootBuiltins "abs" = some (.builtin "abs"):=by decide +kernel
def jW:bootBuiltins "int" = some (.type "int"):=by decide +kernel
def qi:bootBuiltins "bool" = some (.type "bool"):=by decide +kernel
def e6:bootBuiltins "tuple" = some (.type "tuple"):=by decide +kernel
def fG:bootBuiltins "len" = some (.builtin "len"):=by decide +kernel
end L2
namespace L2
open PySem PySem.W PySem.Spec PyProof.Rows
def qE{l:W.OpenLaw}{n k:Nat}{q:Program}{c:List Str}{XP:(Str->Option Value)->Heap->Prop}{YP:World->Heap->Prop}{d:DefRec}{K:Params->W.Frag}{CX:vd}{Z:W.Frag->Sp}{x:Str}
  (hn:l.most=some n) (J:n<=sizeLine) (E:d.params.defaults=[]) (hr:dh k callerA)
  (hY:∀(w:World) (h:Heap),YP w h->(K w.params).In h)
  (F:∀(w:World) (j:Str->Option Value) (fa:Addr) (h:Heap),(K w.params).In h->h.Ns mainGlobals j->j d.name=some (.ref fa)->
   ∃B:FuncData,(∀(s:Sq) (u:Vq),BindsTo s B ⟨[u],[]⟩ [(x,u)])/\
    ∀base:Heap,(K w.params).In base->base.Ns mainGlobals j->fy l.prog w (K w.params) j base CX k fa B [x] (Z (K w.params)))
  (N:∀(K:W.Frag) (H:Hp) (a:Addr) (ns:LI),ns.length<=n->(∀z∈ns,PySem.Builtin.Int.intBits z<=2 ^ 20)->yX H->fX K H a (ns.map V.int)->Z K [.ref a] H (λv _=>v=.bl true) λ_ _ _=>False)
  (L:∀(H:Hp) (s:Sq) (e:Vq) (A:Sq),CX [] H s (λ_ _ _=>False) e A->False) :
  W.WalkO q c XP YP l.row.toRowW d [] (λf U=>PySem.call f U):=by
 intro w s₀ m j mb G Y fa o pm cd doc dV kV ho hd hcd hD D hg S R as y p hrd I hlo;obtain rfl:dV=.none:=Dflts.none hD E;obtain rfl:kV=.none:=Dflts.noKw hD;obtain⟨a,U,ns,rfl,rfl,t,i,X⟩:=Att.script_of hn y I;have hb:∀z∈ns,PySem.Builtin.Int.intBits z<=2 ^ 20:=λz hz=>by have h1:=(layW_cons p).1;have P:=layableW_item h1 (WData.int z) (List.mem_map.mpr ⟨z,hz,rfl⟩);exact PyData.bits_of_layable (layable_int P)
 have Q:=hY w _ Y;obtain⟨B,C,hF⟩:=F w j fa _ Q G.T.g D;refine enter_call (codeAny_mono (tW Q G.T.g G.T.b G.T.builtins G.T.nolimit hg t i (aL X J) hr hF C (λH hO hS=>N _ H a ns X hb hO hS) λH e A=>L H m e A) λr A hq=>?_);obtain⟨rfl,P,h3,h4⟩:=hq;exact⟨.inl ⟨.bool true,.bool true,[],rfl,λ_=>rfl,.bool true,Att.post_true l _,λ_=>⟨List.Pairwise.nil,λ_ hm=>(nomatch hm)⟩⟩,P,h3,h4⟩
end L2
namespace L3
open PySem L2
inductive T where
 |non|bl (b:Bool)|int (i:Int)|str (x:Str)
 |tup (ts:List T)|lst (ts:List T)|scr (ns:LI)
 |obj (C:Addr) (fs:List (Str×T))|emp
 |dic (kvs:List (LI×T))
inductive M(α:Type) where
 |bad|ok (a:α)|er (C:Addr) (n:Oq Int)
namespace M
noncomputable def bind{b c:Type}(m:M b)(k:b->M c):M c:=match m with
 |.bad=>.bad
 |.ok a=>k a
 |.er C n=>.er C n
instance:Monad M where
 pure:=.ok
 bind:=M.bind
noncomputable def res{b:Type}(m:M b)(P:b->Prop)(E:Addr->Option Int->Prop):Prop:=match m with
 |.bad=>False
 |.ok a=>P a
 |.er C n=>E C n
def res.unb{m:M α}{k:α->M β}{P:β->Prop}(h:res (m.bind k) P E):res m (λa=>res (k a) P E) E:=by cases m<;>exact h
def res.mono{m:M α}{P b:α->Prop}(h:res m P E)(d:∀a,P a->b a)(c:∀C n,E C n->E' C n):res m b E':=by
 cases m with
 |bad=>exact h
 |ok a=>exact d a h
 |er C n=>exact c C n h
noncomputable def noEr{a:Type}(m:M a):M a:=match m with
 |.er _ _=>.bad
 |m=>m
def res.noEr{m:M α}{P:α->Prop}(h:res m.noEr P E):res m P E':=by
 cases m with
 |bad=>exact h
 |ok a=>exact h
 |er C n=>exact h.elim
@[simp] theorem bind_ok a (k:α->M β):M.bind (.ok a) k=k a:=rfl
@[simp] theorem Bf(k:α->M β):M.bind (.bad:M α) k=.bad:=rfl
@[simp] theorem BI C n (k:α->M β):M.bind (.er C n:M α) k=.er C n:=rfl
noncomputable def NoE{a:Type}(m:M a):Prop:=∀C n,m≠.er C n
def res.ne{m:M α}{P:α->Prop}(h:res m P E)(ne:NoE m):res m P E':=by
 cases m with
 |bad=>exact h
 |ok a=>exact h
 |er C n=>exact absurd rfl (ne C n)
@[simp] theorem BC(a:α):noEr (.ok a)=.ok a:=rfl
end M
mutual
inductive eM(K:W.Frag)(F:Hp):V->T->Prop
 |non:eM K F .non .non
 |bl (b:Bool):eM K F (.bl b) (.bl b)
 |int (i:Int):eM K F (.int i) (.int i)
 |str (x:Str):eM K F (.str x) (.str x)
 |tup {a:Addr} {xs:List V} {ts:List T} (h:F a=some (.tup xs)) (r:cE K F xs ts):eM K F (.ref a) (.tup ts)
 |lst {a:Addr} {xs:List V} {ts:List T} (h:F a=some (.lst xs)) (r:cE K F xs ts):eM K F (.ref a) (.lst ts)
 |scr {a:Addr} {ns:LI} (h:fX K F a (ns.map V.int)):eM K F (.ref a) (.scr ns)
 |obj {a C dx:Addr} {fs:List (Str×V)} {ts:List (Str×T)} (h:F a=some (.ins C dx fs)) (r:iU K F fs ts):eM K F (.ref a) (.obj C ts)
 |emp {a:Addr} (h:F a=some (.dK [])):eM K F (.ref a) .emp
 |dic {a:Addr} {xs:List (List i8×V)} {kvs:List (LI×T)} (h:F a=some (.dT xs)) (r:mP K F xs kvs):eM K F (.ref a) (.dic kvs)
inductive cE(K:W.Frag)(F:Hp):List V->List T->Prop
 |nil:cE K F [] []
 |cons {v:V} {t:T} {vs:List V} {ts:List T} (h:eM K F v t) (r:cE K F vs ts):cE K F (v::vs) (t::ts)
inductive iU(K:W.Frag)(F:Hp):List (Str×V)->List (Str×T)->Prop
 |nil:iU K F [] []
 |cons {x:Str} {v:V} {t:T} {vs:List (Str×V)} {ts:List (Str×T)} (h:eM K F v t) (r:iU K F vs ts):iU K F ((x,v)::vs) ((x,t)::ts)
inductive mP(K:W.Frag)(F:Hp):List (List i8×V)->List (LI×T)->Prop
 |nil:mP K F [] []
 |cons {k:LI} {v:V} {t:T} {vs:List (List i8×V)} {ts:List (LI×T)} (h:eM K F v t) (r:mP K F vs ts):mP K F ((k.map Sum.inl,v)::vs) ((k,t)::ts)
end
section
variable {K:W.Frag}{F F':Hp}
mutual
theorem eM.mono(s:cC F F'):∀{v} {t},eM K F v t->eM K F' v t
 |_,_,.non=>.non
 |_,_,.bl b=>.bl b
 |_,_,.int i=>.int i
 |_,_,.str x=>.str x
 |_,_,.tup h r=>.tup (s _ _ h) (cE.mono s r)
 |_,_,.lst h r=>.lst (s _ _ h) (cE.mono s r)
 |_,_,.scr h=>.scr (s.seq h)
 |_,_,.obj h r=>.obj (s _ _ h) (iU.mono s r)
 |_,_,.emp h=>.emp (s _ _ h)
 |_,_,.dic h r=>.dic (s _ _ h) (mP.mono s r)
theorem cE.mono(s:cC F F'):∀{vs} {ts},cE K F vs ts->cE K F' vs ts
 |_,_,.nil=>.nil
 |_,_,.cons h r=>.cons (eM.mono s h) (cE.mono s r)
theorem iU.mono(s:cC F F'):∀{vs} {ts},iU K F vs ts->iU K F' vs ts
 |_,_,.nil=>.nil
 |_,_,.cons h r=>.cons (eM.mono s h) (iU.mono s r)
theorem mP.mono(s:cC F F'):∀{vs} {ts},mP K F vs ts->mP K F' vs ts
 |_,_,.nil=>.nil
 |_,_,.cons h r=>.cons (eM.mono s h) (mP.mono s r)
end
theorem cE.length:∀{vs} {ts},cE K F vs ts->vs.length=ts.length
 |_,_,.nil=>rfl
 |_,_,.cons _ r=>by rw[ax,ax,cE.length r]
theorem cE.get:∀{a:List V} {b:List T} {i:Nat} {t:T},cE K F a b->b[i]? = some t->∃v,a[i]? = some v/\eM K F v t
 |_,_,_,_,.nil,e=>by simp at e
 |_,_,0,_,.cons h _,e=>by simp at e;subst e;exact⟨_,rfl,h⟩
 |_,_,i+1,_,.cons _ r,e=>by obtain⟨v,c,h⟩:=cE.get r (by simpa using e);exact⟨v,by simpa using c,h⟩
def cE.at_{i:Nat}(r:cE K F vs ts)(e:vs[i]? = some v):∃t,ts[i]? = some t/\eM K F v t:=by
 have a:i<ts.length:=by rw[<-r.length];exact (aa.mp e).1
 obtain⟨c,b,h⟩:=r.get (ag a);rw[e]at b;cases b;exact⟨_,ag a,h⟩
theorem cE.append:∀{vs us} {ts ss},cE K F vs ts->cE K F us ss->cE K F (vs++us) (ts++ss)
 |_,_,_,_,.nil,q=>q
 |_,_,_,_,.cons h r,q=>.cons h (cE.append r q)
theorem cE.take:∀{vs} {ts} n,cE K F vs ts->cE K F (vs.take n) (ts.take n)
 |_,_,0,_=>.nil
 |_,_,_+1,.nil=>.nil
 |_,_,n+1,.cons h r=>.cons h (cE.take n r)
theorem cE.drop:∀{vs} {ts} n,cE K F vs ts->cE K F (vs.drop n) (ts.drop n)
 |_,_,0,r=>r
 |_,_,_+1,.nil=>.nil
 |_,_,n+1,.cons _ r=>cE.drop n r
theorem cE.rep:∀{vs} {ts} n,cE K F vs ts->cE K F (List.replicate n vs).flatten (List.replicate n ts).flatten
 |_,_,0,_=>.nil
 |_,_,n+1,r=>by rw[bG,bG,bH,bH];exact r.append (cE.rep n r)
theorem cE.bls:∀{a:List V} {ns:List Bool},cE K F a (ns.map T.bl)->a=ns.map V.bl
 |_,[],.nil=>rfl
 |_,_::_,.cons h r=>by cases h;rw[cE.bls r];rfl
theorem cE.of_ints:∀(ns:LI),cE K F (ns.map V.int) (ns.map T.int)
 |[]=>.nil
 |n::ns=>.cons (.int n) (cE.of_ints ns)
end
def lj(h:rN o (some u))(b:∀q a,u≠.tbl q a):o=u:=by
 cases o with
 |tbl q a=>obtain⟨m,e⟩:=h;exact absurd (Option.some.inj e) (b _ _)
 |_=>exact (Option.some.inj h).symm
def xX{x y:Oq HO}(h:rN o x)(k:∀a,x=some a->rN a y):rN o y:=by
 cases o with
 |tbl q ps=>obtain⟨m,e⟩:=h;obtain⟨b,c⟩:=k _ e;exact⟨m++b,by rw[c,a9]⟩
 |_=>exact k _ h
def iH{H:Hp}(h:rN u (H b))(h':H p=none):b≠p:=λz=>h.ne (by rw[z];exact h')
structure Gr(F H F' H':Hp):Prop where
 ff:cC F F'
 fh:cC F' H'
 hh:cC H H'
 nw:∀a,F' a≠none->F a≠none\/H a=none\/∃xs,H a=some (.tup xs)
def Gr.refl(h:cC F H):Gr F H F H:=⟨.refl _,h,.refl _,λ_ h=>.inl h⟩
def cN(h:cC H H')(e:H' a=none):H a=none:=by
 cases q:H a with
 |none=>rfl
 |some o=>exact absurd e (h a o q).ne
def Gr.trans(g:Gr F H F' H')(g':Gr F' H' F'' H''):Gr F H F'' H'':=
 ⟨g.ff.trans g'.ff,g'.fh,g.hh.trans g'.hh,λa c=>by
  rcases g'.nw a c with q|q|⟨b,q⟩
  .exact g.nw a q
  .exact .inr (.inl (cN g.hh q))
  .cases z:H a with
   |none=>exact .inr (.inl rfl)
   |some o=>exact .inr (.inr ⟨b,by have k:=g.hh a o z;rw[q]at k;rw[lj k λ_ _ y=>nomatch y]⟩)⟩
def Gr.new(s:cC F H)(h:H p=none):Gr F H (c6 F p o) (c6 H p o):=by
 have c:=cN s h;refine⟨λb u e=>?_,λb u e=>?_,λb u e=>?_,λb a=>?_⟩
 .rw[cx (cH e c)];exact .of e
 .by_cases q:b=p
  .subst q;rw[cy]at e ⊢;exact .of e
  .rw[cx q]at e ⊢;exact s b u e
 .rw[cx (cH e h)];exact .of e
 .by_cases q:b=p
  .subst q;exact .inr (.inl h)
  .rw[cx q]at a;exact .inl a
def Gr.new'(s:cC F H)(h:H p=none):Gr F H F (c6 H p o):=by
 refine⟨.refl _,λb u e=>?_,λb u e=>?_,λb a=>.inl a⟩
 .rw[cx (iH (s b u e) h)];exact s b u e
 .rw[cx (cH e h)];exact .of e
def Gr.take(g:Gr F0 H0 F H)(h:H p=some o)(d:F p=none)(c:H0 p=none):Gr F0 H0 (c6 F p o) H:=by
 refine⟨λb u e=>?_,λb u e=>?_,g.hh,λb a=>?_⟩
 .rw[cx (iH (g.ff b u e) d)];exact g.ff b u e
 .by_cases q:b=p
  .subst q;rw[cy]at e;cases e;exact .of h
  .rw[cx q]at e;exact g.fh b u e
 .by_cases q:b=p
  .subst q;exact .inr (.inl c)
  .rw[cx q]at a;exact g.nw b a
def fR(a:F p=none):cC F (c6 F p o):=λb u e=>by rw[cx (cH e a)];exact .of e
abbrev Pe:=List (Option T)
section
variable (K:W.Frag)
def eF(F:Hp)(a:St)(ρ:Pe):Prop:=∀(i:Nat) (t:T),ρ[i]? = some (some t)->∃v,a[i]? = some (some v)/\eM K F v t
def eF.mono{K:W.Frag}(h:eF K F σ ρ)(s:cC F F'):eF K F' σ ρ:=λi t e=>let ⟨v,a,b⟩:=h i t e;⟨v,a,b.mono s⟩
def DY(E:XK)(C:Addr)(n:Oq Int)(F H:Hp):Prop:=match n with
 |none=>E (.ref C) none H
 |some i=>∀a,F a=some (.xd [("at",.int i)])->E (.ref C) (some a) H
def kE(E:XK)(F H:Hp)(C:Addr)(n:Oq Int):Prop:=∀a b,Gr F H a b->DY E C n a b
def kE.go(h:kE E F H C n)(g:Gr F H F1 H1):kE E F1 H1 C n:=λb c a=>h b c (g.trans a)
def kV(F H:Hp)(Q:VK)(t:T):Prop:=∀v a b,Gr F H a b->eM K a v t->Q v b
def kB(F H:Hp)(Q:Bool->Hp->Prop)(b:Bool):Prop:=∀c a,Gr F H c a->Q b a
def kA(F H:Hp)(Q:List V->Hp->Prop)(d:List T):Prop:=∀c a b,Gr F H a b->cE K a c d->Q c b
def kF(F H:Hp)(Q:VK)(d:List T):Prop:=∀l c a b,Gr F H a b->H l=none->a l=none->b l=some (.lst c)->cE K a c d->Q (.ref l) b
noncomputable def ME(E:XK)(t:TE)(f:Pe->M T):Prop:=∀F H b a Q,cC F H->eF K F b a->(f a).res (kV K F H Q) (kE E F H)->t b H Q
noncomputable def MT(E:XK)(t:TT)(f:Pe->M Bool):Prop:=∀F H b a Q,cC F H->eF K F b a->(f a).res (kB F H Q) (kE E F H)->t b H Q
noncomputable def MA(E:XK)(t:TA)(f:Pe->M (List T)):Prop:=∀F H b a Q,cC F H->eF K F b a->(f a).res (kA K F H Q) (kE E F H)->t b H Q
noncomputable def MF(E:XK)(t:TE)(f:Pe->M (List T)):Prop:=∀F H b a Q,cC F H->eF K F b a->(f a).res (kF K F H Q) (kE E F H)->t b H Q
end
section
variable {K:W.Frag}{E:XK}{t u ta tb:TE}{f g fa fb:Pe->M T}
def kV.go{t:T}(h:kV K F H Q t)(g:Gr F H F1 H1):kV K F1 H1 Q t:=λv b c a r=>h v b c (g.trans a) r
def kB.go{t:Bool}(h:kB F H Q t)(g:Gr F H F1 H1):kB F1 H1 Q t:=λb c a=>h b c (g.trans a)
def kF.go{t:List T}(h:kF K F H Q t)(g:Gr F H F1 H1):kF K F1 H1 Q t:=λl k i j e a b c d=>h l k i j (g.trans e) (cN g.hh a) b c d
def kV.now{t:T}(h:kV K F H Q t)(s:cC F H)(r:eM K F v t):Q v H:=h v F H (.refl s) r
def kF.of(h:kV K F H Q (.lst ts)):kF K F H Q ts:=λl i d e g c b a r=>h (.ref l) (c6 d l (.lst i)) e (g.take a b c) (.lst cy (r.mono (fR b)))
def MF.me{f:Pe->M (List T)}(h:MF K E t f):ME K E t (λρ=>(f ρ).bind λa=>.ok (.lst a)):=λF H b ρ Q s V r=>h F H b ρ Q s V ((M.res.unb r).mono (λa q=>kF.of q) λ_ _ z=>z)
def ME.run{k:T->M α}{P:α->Prop}(h:ME K E t f)(s:cC F H)(v:eF K F σ ρ)(r:((f ρ).bind k).res P (kE E F H))
  (d:∀x w a b,Gr F H a b->eM K a w x->(k x).res P (kE E a b)->Q w b):t σ H Q:=
 h F H σ ρ Q s v ((M.res.unb r).mono (λx q w a b g c=>d x w a b g c (q.mono (λ_ z=>z) λ_ _ z=>z.go g)) λ_ _ z=>z)
def MT.run{t:TT}{f:Pe->M Bool}{k:Bool->M α}{P:α->Prop}(h:MT K E t f)(s:cC F H)(v:eF K F σ ρ)(r:((f ρ).bind k).res P (kE E F H))
  (c:∀x b a,Gr F H b a->(k x).res P (kE E b a)->Q x a):t σ H Q:=
 h F H σ ρ Q s v ((M.res.unb r).mono (λx q b a g=>c x b a g (q.mono (λ_ z=>z) λ_ _ z=>z.go g)) λ_ _ z=>z)
def MA.run{t:TA}{f:Pe->M (List T)}{k:List T->M α}{P:α->Prop}(h:MA K E t f)(s:cC F H)(v:eF K F σ ρ)(r:((f ρ).bind k).res P (kE E F H))
  (d:∀x w a b,Gr F H a b->cE K a w x->(k x).res P (kE E a b)->Q w b):t σ H Q:=
 h F H σ ρ Q s v ((M.res.unb r).mono (λx q w a b g c=>d x w a b g c (q.mono (λ_ z=>z) λ_ _ z=>z.go g)) λ_ _ z=>z)
@[simp] noncomputable def cn(i:Nat):Pe->M T:=λa=>match a[i]? with
 |some (some t)=>.ok t
 |_=>.bad
def ze:ME K E (hI i) (cn i):=λF H c b Q s V r=>by
 unfold cn at r;split at r
 .rename_i t e;obtain⟨v,a,h⟩:=V i t e;exact⟨v,a,r.now s h⟩
 .exact r.elim
@[simp] noncomputable def cM(t:T):Pe->M T:=λ_=>.ok t
def qT{t:T}(h:∀F,eM K F v t):ME K E (tC v) (cM t):=λF H b a Q s V r=>kV.now r s (h F)
@[simp] noncomputable def cL(o:T->T->M T)(fa fb:Pe->M T):Pe->M T:=λa=>(fa a).bind λx=>(fb a).bind λy=>o x y
structure MR(K:W.Frag)(r:R2)(o:T->T->M T):Prop where
 ne:∀x y,M.NoE (o x y)
 ok:∀F H v w x y Q,cC F H->eM K F v x->eM K F w y->(o x y).res (kV K F H Q) (λ_ _=>False)->r v w H Q
def og(hr:MR K r o)(e:ME K E ta fa)(d:ME K E tb fb):ME K E (jN r ta tb) (cL o fa fb):=λF H m p Q s V q=>by refine e.run s V q λx v n l a h j=>?_;refine d.run a.fh (V.mono a.ff) j λy w c b g2 k i=>?_;exact hr.ok c b v w x y Q g2.fh (h.mono g2.ff) k ((i.ne (hr.ne x y)).mono (λ_ z=>z.go (a.trans g2)) λ_ _ z=>z)
noncomputable def eQ(C:Int->Int->Bool)(g:Int->Int->T):T->T->M T
 |.int i,.int j=>if C i j then .ok (g i j) else .bad
 |_,_=>.bad
def nY{g:Int->Int->T} x y:M.NoE (eQ C g x y):=λa n=>by
 unfold eQ;split
 .split<;>exact λz=>nomatch z
 .exact λz=>nomatch z
def eM.int_inv(h:eM K F v (.int i)):v=.int i:=by cases h;rfl
def eM.lst_inv(h:eM K F v (.lst ts)):∃a b,v=.ref a/\F a=some (.lst b)/\cE K F b ts:=by cases h;exact⟨_,_,rfl,‹_›,‹_›⟩
def eM.tup_inv(h:eM K F v (.tup ts)):∃a b,v=.ref a/\F a=some (.tup b)/\cE K F b ts:=by cases h;exact⟨_,_,rfl,‹_›,‹_›⟩
def mV{g:Int->Int->V}(c:∀i j,Cb i j=true->C i j)(d:∀F i j,eM K F (g i j) (gt i j)):MR K (rI C g) (eQ Cb gt):=⟨nY,λF H v w x y Q s a b q=>by
 unfold eQ at q;split at q
 .rename_i i j;rw[a.int_inv,b.int_inv];by_cases h:Cb i j=true
  .rw[aO h]at q;exact⟨i,j,rfl,rfl,c i j h,kV.now q s (d F i j)⟩
  .rw[aP h]at q;exact q.elim
 .exact q.elim⟩
def jH{g:Int->Int->V}(c:∀F i j,eM K F (g i j) (gt i j)):MR K (qR g) (eQ (λ_ _=>true) gt):=⟨nY,λF H v w x y Q s a b q=>by
 unfold eQ at q;split at q
 .rw[a.int_inv,b.int_inv];exact⟨_,_,rfl,rfl,kV.now q s (c F _ _)⟩
 .exact q.elim⟩
@[simp] noncomputable def Bz(o:Int->T)(fa:Pe->M T):Pe->M T:=λa=>(fa a).bind λx=>match x with
 |.int i=>.ok (o i)
 |_=>.bad
def Bv{g:Int->V}(j:∀F i,eM K F (g i) (gt i))(e:ME K E ta fa):ME K E (B8 (rU g) ta) (Bz gt fa):=λF H k l Q s V q=>by
 refine e.run s V q λx v a c d h b=>?_;cases h<;>first
  |exact b.elim
  |exact⟨_,rfl,b _ a c d (j a _)⟩
@[simp] noncomputable def fu(fa:Pe->M T):Pe->M Bool:=λa=>(fa a).bind λx=>match x with
 |.bl b=>.ok b
 |_=>.bad
def sy(e:ME K E ta fa):MT K E (tB ta) (fu fa):=λF H j i Q s V q=>by
 refine e.run s V q λx v h c d b a=>?_;cases b<;>first
  |exact a.elim
  |exact⟨_,rfl,a h c d⟩
def pL(a:ME K E ta fa):MT K E (kn ta) (fu fa):=sy a
section
variable {c d:TT}{fc fd:Pe->M Bool}
@[simp] noncomputable def oN(fc fd:Pe->M Bool):Pe->M Bool:=λa=>(fc a).bind λb=>if b then fd a else .ok false
@[simp] noncomputable def rO(fc fd:Pe->M Bool):Pe->M Bool:=λa=>(fc a).bind λb=>if b then .ok true else fd a
@[simp] noncomputable def iK(fc:Pe->M Bool):Pe->M Bool:=λa=>(fc a).bind λb=>.ok (!b)
def zU(l:MT K E c fc)(k:MT K E d fd):MT K E (ue c d) (oN fc fd):=λF H m j Q s V q=>by
 refine l.run s V q λb i e a h=>?_;cases b with
 |true=>rw[aO rfl];exact k i e m j Q a.fh (V.mono a.ff) (h.mono (λ_ z=>z.go a) λ_ _ z=>z)
 |false=>rw[aP aF];exact h i e a
def A4(l:MT K E c fc)(k:MT K E d fd):MT K E (B3 c d) (rO fc fd):=λF H m j Q s V q=>by
 refine l.run s V q λb i e a h=>?_;cases b with
 |true=>rw[aO rfl];exact h i e a
 |false=>rw[aP aF];exact k i e m j Q a.fh (V.mono a.ff) (h.mono (λ_ z=>z.go a) λ_ _ z=>z)
def z0(h:MT K E c fc):MT K E (xl c) (iK fc):=λF H l k Q s V q=>by refine h.run s V q λb j a i e=>?_;exact e j a i
@[simp] noncomputable def CH(fc:Pe->M Bool)(fa fb:Pe->M T):Pe->M T:=λa=>(fc a).bind λb=>if b then fa a else fb a
def Bm(m:MT K E c fc)(n:ME K E ta fa)(l:ME K E tb fb):ME K E (BQ c ta tb) (CH fc fa fb):=λF H j e Q s V q=>by
 refine m.run s V q λb k h a i=>?_;cases b with
 |true=>rw[aO rfl];exact n k h j e Q a.fh (V.mono a.ff) (i.mono (λ_ z=>z.go a) λ_ _ z=>z)
 |false=>rw[aP aF];exact l k h j e Q a.fh (V.mono a.ff) (i.mono (λ_ z=>z.go a) λ_ _ z=>z)
end
@[simp] noncomputable def oA(fa fb:Pe->M T):Pe->M T:=λa=>(fu fa a).bind λb=>if b then fb a else .ok (.bl false)
@[simp] noncomputable def Cg(fa fb:Pe->M T):Pe->M T:=λa=>(fu fa a).bind λb=>if b then .ok (.bl true) else fb a
@[simp] noncomputable def vx(fa:Pe->M T):Pe->M T:=λa=>(fu fa a).bind λb=>.ok (.bl (!b))
def vn(j:ME K E ta fa)(h:ME K E tb fb):ME K E (tN ta tb) (oA fa fb):=λF H k i Q s V q=>by
 refine (sy j).run s V q λb e c a d=>?_;cases b with
 |true=>rw[aO rfl];exact h e c k i Q a.fh (V.mono a.ff) (d.mono (λ_ z=>z.go a) λ_ _ z=>z)
 |false=>rw[aP aF];exact d _ e c a (.bl _)
def zf(j:ME K E ta fa)(h:ME K E tb fb):ME K E (wc ta tb) (Cg fa fb):=λF H k i Q s V q=>by
 refine (sy j).run s V q λb e c a d=>?_;cases b with
 |true=>rw[aO rfl];exact d _ e c a (.bl _)
 |false=>rw[aP aF];exact h e c k i Q a.fh (V.mono a.ff) (d.mono (λ_ z=>z.go a) λ_ _ z=>z)
def wo(e:ME K E ta fa):ME K E (qu ta) (vx fa):=λF H j i Q s V q=>by refine (sy e).run s V q λb h a d c=>?_;exact c _ h a d (.bl _)
@[simp] noncomputable def cm(fa:Pe->M T)(b:Pe->M (List T)):Pe->M (List T):=λa=>(fa a).bind λx=>(b a).bind λc=>.ok (x::c)
@[simp] noncomputable def cw:Pe->M (List T):=λ_=>.ok []
def yJ:MA K E ib cw:=λF H b a Q s V q=>q [] F H (.refl s) .nil
def vQ{c:TA}{b:Pe->M (List T)}(h:ME K E ta fa)(hr:MA K E c b):MA K E (dQ ta c) (cm fa b):=λF H p w Q s V q=>by refine h.run s V q λx v r o a j l=>?_;refine hr.run a.fh (V.mono a.ff) l λn i e d g2 m k=>?_;exact k (v::i) e d (a.trans g2) (.cons (j.mono g2.ff) m)
@[simp] noncomputable def wz(a:List T):M (List T):=if a.length<=sizeLine then .ok a else .bad
@[simp] noncomputable def rq(b:Pe->M (List T)):Pe->M T:=λc=>(b c).bind λa=>(wz a).bind λa=>.ok (.tup a)
@[simp] noncomputable def lstM(a:Pe->M (List T)):Pe->M (List T):=λb=>(a b).bind wz
def yT{e:TA}{c:Pe->M (List T)}(hr:MA K E e c):ME K E (vZ e) (rq c):=λF H l o Q s V q=>by
 refine hr.run s V q λj n m k b i a=>?_;unfold wz at a;by_cases h:j.length<=sizeLine
 .rw[aO h]at a;refine⟨by rw[i.length];exact h,λp d=>?_⟩;exact a (.ref p) _ _ (b.trans (.new b.fh d)) (.tup cy (i.mono (Gr.new b.fh d).ff))
 .rw[aP h]at a;exact a.elim
def yO{e:TA}{d:Pe->M (List T)}(hr:MA K E e d):MF K E (yb e) (lstM d):=λF H n o Q s V q=>by
 refine hr.run s V q λj l k m b i a=>?_;unfold wz at a;by_cases h:j.length<=sizeLine
 .rw[aO h]at a;refine⟨by rw[i.length];exact h,λp c=>?_⟩;exact a p l k _ (b.trans (.new' b.fh c)) (cN b.hh c) (cN b.fh c) cy i
 .rw[aP h]at a;exact a.elim
end
end L3
namespace L3
open PySem L2
inductive W where
 |p (t:T)|o (ts:List T)|d (kvs:List (LI×T))
abbrev En:=List (Option W)
@[simp] def B6:Oq W->Option T
 |some (.p t)=>some t
 |_=>none
@[simp] def DJ:Oq W->Option T
 |some (.p t)=>some t
 |some (.o ts)=>some (.lst ts)
 |_=>none
@[simp] noncomputable def lx(ρ:En):Pe:=ρ.map B6
@[simp] noncomputable def vw(ρ:En):Pe:=ρ.map DJ
mutual
@[simp] noncomputable def lf:T->Bool
 |.lst _=>false
 |.scr _=>false
 |.dic _=>false
 |.tup ts=>BH ts
 |.obj _ fs=>BU fs
 |_=>true
@[simp] noncomputable def BH:List T->Bool
 |[]=>true
 |t::ts=>lf t&&BH ts
noncomputable def BU:List (Str×T)->Bool
 |[]=>true
 |t::ts=>lf t.2&&BU ts
end
structure Fz where
 hp:Hp
 lt:List (Nat×Addr×List V)
instance:Coe Fz Hp:=⟨Fz.hp⟩
structure Lv(H0 F H:Hp)(σ:St)(ρ:En)(e:Nat×Addr×List V):Prop where
 h:H e.2.1=some (.lst e.2.2)
 f:F e.2.1=none
 z:H0 e.2.1=none
 d:∀(i:Nat) (ts:List T),ρ[i]? = some (some (.o ts))->σ[i]?≠some (some (.ref e.2.1))
def DR(K:W.Frag)(F:Hp)(b:List (List i8×V))(a:List (LI×T)):Prop:=Paired (λ(p:List i8×V) (q:LI×T)=>p.1=q.1.map Sum.inl/\eM K F p.2 q.2) b a
def DR.mono(s:cC F F')(h:DR K F xs kvs):DR K F' xs kvs:=Paired.imp' (λ_ _ q=>⟨q.1,q.2.mono s⟩) h
structure Dv(K:W.Frag)(H0 F H:Hp)(σ:St)(ρ:En):Prop where
 at_:∀(i:Nat) kvs,ρ[i]? = some (some (.d kvs))->∃a,σ[i]? = some (some (.ref a))/\F a=none/\H0 a=none/\∃xs,H a=some (.dT xs)/\DR K F xs kvs
 dj:∀(i j:Nat) kvs kvs',ρ[i]? = some (some (.d kvs))->ρ[j]? = some (some (.d kvs'))->i≠j->σ[i]?≠σ[j]?
def qG{a:Type}{l:List a}{x y:a}(h:(l.set i x)[i]? = some y):y=x:=by
 rw[List.getElem?_set]at h;simp only[if_true]at h;split at h
 .exact (Option.some.inj h).symm
 .cases h
def ro{a:Type}{l:List a}{x y:a}(h:(l.set i x)[j]? = some y):(j=i/\y=x)\/(j≠i/\l[j]? = some y):=by
 by_cases e:j=i
 .subst e;exact .inl ⟨rfl,qG h⟩
 .rw[ao (λz=>e z.symm)]at h;exact .inr ⟨e,h⟩
def Dv.heap(d:Dv K H0 F H σ ρ)(s:cC F F')(h:∀a b,H a=some (.dT b)->F a=none->F' a=none/\H' a=some (.dT b)):Dv K H0 F' H' σ ρ:=⟨λi c e=>let ⟨a,e1,e2,e3,b,e4,e5⟩:=d.at_ i c e;let ⟨h1,h2⟩:=h a b e4 e2;⟨a,e1,h1,e3,b,h2,e5.mono s⟩,d.dj⟩
def Dv.set(d:Dv K H0 F H σ ρ)(hw:∀b,w≠some (.d b)):Dv K H0 F H (σ.set i v) (ρ.set i w):=by
 refine⟨λj b e=>?_,λj k b c e n g=>?_⟩
 .rcases ro e with⟨rfl,q⟩|⟨h,q⟩
  .exact absurd q.symm (hw b)
  .obtain⟨a,l,r⟩:=d.at_ j b q;exact⟨a,by rw[ao (λz=>h z.symm)];exact l,r⟩
 .rcases ro e with⟨rfl,q⟩|⟨h,q⟩
  .exact absurd q.symm (hw b)
  .rcases ro n with⟨rfl,f⟩|⟨m,f⟩
   .exact absurd f.symm (hw c)
   .rw[ao (λz=>h z.symm),ao (λz=>m z.symm)];exact d.dj j k b c q f g
def Dv.setR(d:Dv K H0 F H σ ρ)(hw:∀a,w≠some (.d a)):Dv K H0 F H σ (ρ.set i w):=by
 refine⟨λj a e=>?_,λj k a b e h f=>?_⟩
 .rcases ro e with⟨rfl,q⟩|⟨g,q⟩
  .exact absurd q.symm (hw a)
  .exact d.at_ j a q
 .rcases ro e with⟨rfl,q⟩|⟨g,q⟩
  .exact absurd q.symm (hw a)
  .rcases ro h with⟨rfl,c⟩|⟨l,c⟩
   .exact absurd c.symm (hw b)
   .exact d.dj j k a b q c f
structure Sr(K:W.Frag)(F0:Fz)(H0 F H:Hp)(σ:St)(ρ:En):Prop where
 gr:Gr F0.hp H0 F H
 len:σ.length=ρ.length
 pv:∀(i:Nat) (t:T),ρ[i]? = some (some (.p t))->∃v,σ[i]? = some (some v)/\eM K F v t
 ov:∃ad:Nat->Addr,(∀(i:Nat) (ts:List T),ρ[i]? = some (some (.o ts))->σ[i]? = some (some (.ref (ad i)))/\F (ad i)=none/\H0 (ad i)=none/\∃vs,H (ad i)=some (.lst vs)/\cE K F vs ts)/\
  ∀(i j:Nat) (ts us:List T),ρ[i]? = some (some (.o ts))->ρ[j]? = some (some (.o us))->i≠j->ad i≠ad j
 lv:∀e∈F0.lt,Lv H0 F H σ ρ e
 sl:∀(j:Nat) (l:Addr) (vs:List V),F0.lt.lookup j=some (l,vs)->ρ[j]? = some none->σ[j]? = some (some (.ref l))
 dv:Dv K H0 F H σ ρ
section
variable {K:W.Frag}{F0:Fz}{H0 F H F' H':Hp}{σ:St}{ρ:En}
def Sr.vars(r:Sr K F0 H0 F H σ ρ):eF K F σ (lx ρ):=λi t e=>by
 unfold lx at e;rw[au]at e;cases q:ρ[i]? with
 |none=>rw[q]at e;cases e
 |some w=>
  rw[q]at e;cases w with
  |none=>cases e
  |some w=>
   cases w with
   |p t'=>cases e;exact r.pv i _ q
   |o ts=>cases e
   |d kvs=>cases e
def Sr.grow(r:Sr K F0 H0 F H σ ρ)(g:Gr F H F' H'):Sr K F0 H0 F' H' σ ρ:=by
 obtain⟨k,s,m⟩:=r.ov;refine⟨r.gr.trans g,r.len,λi t e=>?_,⟨k,λi o e=>?_,m⟩,λe n=>?_,r.sl,r.dv.heap g.ff λa x j p=>⟨?_,g.hh _ _ j⟩⟩
 .obtain⟨v,a,b⟩:=r.pv i t e;exact⟨v,a,b.mono g.ff⟩
 .obtain⟨a,b,c,l,d,q⟩:=s i o e;refine⟨a,?_,c,l,g.hh _ _ d,q.mono g.ff⟩;cases z:F' (k i) with
  |none=>rfl
  |some u=>
   rcases g.nw (k i) (by rw[z];exact λw=>nomatch w) with y|y|⟨_,y⟩
   .exact absurd b y
   .rw[d]at y;cases y
   .rw[d]at y;cases y
 .have L:=r.lv e n;refine⟨g.hh _ _ L.h,?_,L.z,L.d⟩;cases z:F' e.2.1 with
  |none=>rfl
  |some u=>
   rcases g.nw e.2.1 (by rw[z];exact λw=>nomatch w) with y|y|⟨_,y⟩
   .exact absurd L.f y
   .rw[L.h]at y;cases y
   .rw[L.h]at y;cases y
 .cases z:F' a with
  |none=>rfl
  |some u=>
   rcases g.nw a (by rw[z];exact λw=>nomatch w) with y|y|⟨_,y⟩
   .exact absurd p y
   .rw[j]at y;cases y
   .rw[j]at y;cases y
theorem Sr.lend(r:Sr K F0 H0 F H σ ρ):∃k,cC F k/\Gr F0.hp H0 k H/\eF K k σ (vw ρ)/\
  (∀F' H',Gr k H F' H'->∃j,Gr F H j H'/\cC F j/\cC j F'/\(∀a,F' a≠none->j a=none->∃I,F' a=some (.lst I))/\(∀a,F' a≠none->j a=none->H a≠none)):=by
 classical
 obtain⟨J,m,L⟩:=r.ov;let f:Addr->Prop:=λa=>∃i h,ρ[i]? = some (some (.o h))/\J i=a;let k:Hp:=λa=>if f a then H a else F a
 have s:cC F k:=λa o e=>by
  have:¬f a:=by rintro⟨i,h,q,rfl⟩;obtain⟨_,b,_⟩:=m i h q;rw[b]at e;cases e
  show rN o (if f a then H a else F a);rw[aP this];exact .of e
 have G:cC k H:=λa o e=>by
  by_cases q:f a
  .have n:(if f a then H a else F a)=some o:=e;rw[aO q]at n;exact .of n
  .have n:(if f a then H a else F a)=some o:=e;rw[aP q]at n;exact r.gr.fh a o n
 have E:∀a,f a->k a=H a:=λa q=>aO q;have D:∀a,¬f a->k a=F a:=λa q=>aP q;refine⟨k,s,⟨r.gr.ff.trans s,G,r.gr.hh,λa l=>?_⟩,λi t e=>?_,λF' H' g=>?_⟩
 .by_cases q:f a
  .obtain⟨i,h,e,rfl⟩:=q;exact .inr (.inl (m i h e).2.2.1)
  .rw[D a q]at l;exact r.gr.nw a l
 .unfold vw at e;rw[au]at e;cases q:ρ[i]? with
  |none=>rw[q]at e;cases e
  |some w=>
   rw[q]at e;cases w with
   |none=>cases e
   |some w=>
    cases w with
    |p t'=>cases e;obtain⟨v,a,b⟩:=r.pv i _ q;exact⟨v,a,b.mono s⟩
    |o h=>cases e;obtain⟨a,b,c,y,d,z⟩:=m i h q;exact⟨_,a,.lst (by rw[E _ ⟨i,h,q,rfl⟩];exact d) (z.mono s)⟩
    |d kvs=>cases e
 .let j:Hp:=λa=>if f a then none else F' a
  have u:∀a,¬f a->j a=F' a:=λa q=>aP q;have A:∀a,f a->j a=none:=λa q=>aO q;have B:cC F j:=λa o e=>by
   have:¬f a:=by rintro⟨i,h,q,rfl⟩;obtain⟨_,b,_⟩:=m i h q;rw[b]at e;cases e
   rw[u a this];exact (s.trans g.ff) _ _ e
  have C:cC j F':=λa o e=>by
   by_cases q:f a
   .rw[A a q]at e;cases e
   .rw[u a q]at e;exact .of e
  refine⟨j,⟨B,C.trans g.fh,g.hh,λa l=>?_⟩,B,C,λa l x=>?_,λa l x=>?_⟩
  .by_cases q:f a
   .exact absurd (A a q) l
   .rw[u a q]at l;rcases g.nw a l with z|z
    .rw[D a q]at z;exact .inl z
    .exact .inr z
  .by_cases q:f a
   .obtain⟨i,h,e,rfl⟩:=id q;obtain⟨_,_,_,y,d,_⟩:=m i h e;exact⟨y,g.ff _ (.lst y) (by rw[E _ q];exact d)⟩
   .rw[u a q]at x;exact absurd x l
  .by_cases q:f a
   .obtain⟨i,h,e,rfl⟩:=id q;obtain⟨_,_,_,y,d,_⟩:=m i h e;rw[d];exact λz=>nomatch z
   .rw[u a q]at x;exact absurd x l
mutual
theorem eM.less(c:cC Fb F)(h:∀a,F a≠none->Fb a=none->∃d,F a=some (.lst d)):∀{v} {t},eM K F v t->lf t=true->eM K Fb v t
 |_,_,.non,_=>.non
 |_,_,.bl b,_=>.bl b
 |_,_,.int i,_=>.int i
 |_,_,.str x,_=>.str x
 |_,_,.tup (a:=a) e r,l=>by
  refine .tup ?_ (cE.less c h r (by simpa[lf] using l));cases q:Fb a with
  |none=>obtain⟨d,z⟩:=h a (by rw[e];exact λz=>nomatch z) q;rw[e]at z;cases z
  |some u=>have k:=c a u q;rw[e]at k;rw[lj k λ_ _ y=>nomatch y]
 |_,_,.lst _ _,l=>by simp[lf]at l
 |_,_,.scr _,l=>by simp[lf]at l
 |_,_,.obj (a:=a) (dx:=dx) e r,l=>by
  refine .obj (dx:=dx) ?_ (iU.less c h r (by simpa[lf] using l));cases q:Fb a with
  |none=>obtain⟨d,z⟩:=h a (by rw[e];exact λz=>nomatch z) q;rw[e]at z;cases z
  |some u=>have k:=c a u q;rw[e]at k;rw[lj k λ_ _ y=>nomatch y]
 |_,_,.dic _ _,l=>by simp[lf]at l
 |_,_,.emp (a:=a) e,l=>by
  refine .emp ?_;cases q:Fb a with
  |none=>obtain⟨d,z⟩:=h a (by rw[e];exact λz=>nomatch z) q;rw[e]at z;cases z
  |some u=>have k:=c a u q;rw[e]at k;rw[lj k λ_ _ y=>nomatch y]
theorem cE.less(b:cC Fb F)(h:∀a,F a≠none->Fb a=none->∃c,F a=some (.lst c)):∀{vs} {ts},cE K F vs ts->BH ts=true->cE K Fb vs ts
 |_,_,.nil,_=>.nil
 |_,_,.cons q r,l=>by rw[BH,bF]at l;exact .cons (eM.less b h q l.1) (cE.less b h r l.2)
theorem iU.less(b:cC Fb F)(h:∀a,F a≠none->Fb a=none->∃c,F a=some (.lst c)):∀{vs} {ts},iU K F vs ts->BU ts=true->iU K Fb vs ts
 |_,_,.nil,_=>.nil
 |_,_,.cons q r,l=>by rw[BU,bF]at l;exact .cons (eM.less b h q l.1) (iU.less b h r l.2)
end
end
end L3
namespace L3
open PySem L2
def kT(K:W.Frag)(F H:Hp)(Q:VK)(f e:List T):Prop:=∀p l c d a b,Gr F H a b->H l=none->a l=none->H p=none->a p=none->p≠l->b l=some (.lst d)->b p=some (.tup (c++[.ref l]))->cE K a c f->cE K a d e->Q (.ref p) b
def kT.of(h:kV K F H Q (.tup (ts++[.lst us]))):kT K F H Q ts us:=λp l u k j t g a b c d e f i r q=>by
 have s:=g.take f b a;have n:c6 j l (.lst k) p=none:=by rw[cx e];exact d
 have o:cC j (c6 j l (.lst k)):=fR b;have m:cC (c6 j l (.lst k)) (c6 (c6 j l (.lst k)) p (.tup (u++[.ref l]))):=fR n;exact h (.ref p) _ t (s.take i n c) (.tup cy ((r.mono (o.trans m)).append (.cons (.lst (m _ _ cy) (q.mono (o.trans m))) .nil)))
inductive O where
 |bad|nx (ρ:En)|rt (t:T)|rf (ts:List T)|rn (ts us:List T)|bk (ρ:En)|ct (ρ:En)|er (C:Addr) (n:Oq Int)
section
variable (K:W.Frag)(E:XK)
def kN(d:Fz)(e F:Hp)(D:St->Hp->Prop)(ρ:En):Prop:=∀b c a,cC F b->Sr K d e b c a ρ->D a c
noncomputable def O.res(o:O)(a:Fz)(b F:Hp)(D:gN):Prop:=match o with
 |.bad=>False
 |.nx ρ=>kN K a b F D.nx ρ
 |.rt t=>kV K a.hp b D.rt t
 |.rf ts=>kF K a.hp b D.rt ts
 |.rn ts us=>kT K a.hp b D.rt ts us
 |.bk ρ=>kN K a b F D.bk ρ
 |.ct ρ=>kN K a b F D.ct ρ
 |.er C n=>kE E a.hp b C n
noncomputable def MS(t:TS)(g:En->O):Prop:=∀b d F H c a D,Sr K b d F H c a->(g a).res K E b d F D->t D c H
end
section
variable {K:W.Frag}{E:XK}{t u ta tb:TE}{f fa fb:Pe->M T}{F0:Fz}{H0 F H F1 H1:Hp}{σ:St}{ρ:En}{D:gN}
def kN.go(h:kN K F0 H0 F N ρ)(s:cC F F1):kN K F0 H0 F1 N ρ:=λc d a b r=>h c d a (s.trans b) r
def O.res.go{o:O}(h:o.res K E F0 H0 F D)(s:cC F F1):o.res K E F0 H0 F1 D:=by
 cases o with
 |bad=>exact h
 |nx ρ=>exact kN.go h s
 |rt t=>exact h
 |rf ts=>exact h
 |rn ts us=>exact h
 |bk ρ=>exact kN.go h s
 |ct ρ=>exact kN.go h s
 |er C n=>exact h
noncomputable def O.of{b:Type}(m:M b)(k:b->O):O:=match m with
 |.bad=>.bad
 |.ok a=>k a
 |.er C n=>.er C n
@[simp] theorem O.of_ok(a:α) k:O.of (.ok a) k=k a:=rfl
@[simp] theorem O.of_bad k:O.of (.bad:M α) k=.bad:=rfl
@[simp] theorem O.of_er C n k:O.of (.er C n:M α) k=.er C n:=rfl
def O.res_of{m:M α}{k:α->O}(h:(O.of m k).res K E F0 H0 F D):m.res (λa=>(k a).res K E F0 H0 F D) (kE E F0.hp H0):=by cases m<;>exact h
@[simp] noncomputable def cK(a b:En->O):En->O:=λρ=>match a ρ with
 |.nx ρ'=>b ρ'
 |o=>o
def yf{t u:TS}(j:MS K E t a)(h:MS K E u b):MS K E (l6 t u) (cK a b):=λF0 H0 F H σ ρ D r q=>by
 refine j F0 H0 F H σ ρ _ r ?_;unfold cK at q;cases e:a ρ with
 |nx ρ'=>rw[e]at q;intro g i c s d;exact h F0 H0 g i c ρ' D d (q.go s)
 |bad=>rw[e]at q;exact q
 |rt t=>rw[e]at q;exact q
 |rf ts=>rw[e]at q;exact q
 |rn ts us=>rw[e]at q;exact q
 |bk ρ=>rw[e]at q;exact q
 |ct ρ=>rw[e]at q;exact q
 |er C n=>rw[e]at q;exact q
@[simp] noncomputable def dW:En->O:=λρ=>.nx ρ
def wM:MS K E qy dW:=λF0 H0 F H σ ρ D r q=>q F H σ (.refl _) r
def MT.inS(m:MT K E c fc)(r:Sr K F0 H0 F H σ ρ)(q:(O.of (fc (vw ρ)) k).res K E F0 H0 F D)
  (l:∀b d e,cC F d->Sr K F0 H0 d e σ ρ->(k b).res K E F0 H0 d D->Q b e):c σ H Q:=by
 obtain⟨p,s,h,V,a⟩:=r.lend;refine m p H σ (vw ρ) Q h.fh V ((O.res_of q).mono (λb z d e g=>?_) λC n z=>z.go h);obtain⟨o,j,i,_⟩:=a d e g;exact l b o e i (r.grow j) (z.go i)
@[simp] noncomputable def iy(d:Pe->M Bool)(a b:En->O):En->O:=λρ=>.of (d (vw ρ)) λc=>if c then a ρ else b ρ
def AB{t u:TS}(g:MT K E c fc)(i:MS K E t a)(h:MS K E u b):MS K E (wx c t u) (iy fc a b):=λF0 H0 F H σ ρ D r q=>by
 refine g.inS r q λc j k s d e=>?_;cases c with
 |true=>rw[aO rfl];exact i _ _ _ _ _ _ _ d e
 |false=>rw[aP aF];exact h _ _ _ _ _ _ _ d e
@[simp] noncomputable def dU(f:Pe->M T):En->O:=λρ=>.of (f (vw ρ)) λt=>.rt t
def zx(h:ME K E t f):MS K E (tz t) (dU f):=λF0 H0 F H σ ρ D r q=>by obtain⟨d,e,a,V,c⟩:=r.lend;exact h d H σ (vw ρ) _ a.fh V ((O.res_of q).mono (λb z=>kV.go z a) λC n z=>z.go a)
@[simp] noncomputable def lE(f:Pe->M (List T)):En->O:=λρ=>.of (f (vw ρ)) λt=>.rf t
def wK{f:Pe->M (List T)}(h:MF K E t f):MS K E (tz t) (lE f):=λF0 H0 F H σ ρ D r q=>by obtain⟨d,e,a,V,c⟩:=r.lend;exact h d H σ (vw ρ) _ a.fh V ((O.res_of q).mono (λb z=>kF.go z a) λC n z=>z.go a)
def iQ{a:Type}{l:List a}{x y:a}(h:(l.set i x)[i]? = some y):y=x:=by
 rw[List.getElem?_set]at h;simp only[if_true]at h;split at h
 .exact (Option.some.inj h).symm
 .cases h
def cW{a:Type}{l:List a}{x y:a}(h:(l.set i x)[j]? = some y):(j=i/\y=x)\/(j≠i/\l[j]? = some y):=by
 by_cases e:j=i
 .subst e;exact .inl ⟨rfl,iQ h⟩
 .rw[ao (λz=>e z.symm)]at h;exact .inr ⟨e,h⟩
def mv{a:Type}{l:List a}{x:a}(h:i<l.length):(l.set i x)[i]? = some x:=by rw[List.getElem?_set_self h]
def Sr.setP(r:Sr K F0 H0 F H σ ρ)(h:eM K F v x):Sr K F0 H0 F H (σ.set i (some v)) (ρ.set i (some (.p x))):=by
 obtain⟨I,J,C⟩:=r.ov;refine⟨r.gr,by simp[r.len],λj t e=>?_,⟨I,λj m e=>?_,λj k m B e y=>?_⟩,λe G=>?_,λj l A o q=>?_,r.dv.set λ_ z=>nomatch z⟩
 .have s:j<ρ.length:=by simpa using (aa.mp e).1
  rcases cW e with⟨rfl,q⟩|⟨c,q⟩
  .cases q;exact⟨v,mv (by rw[r.len];exact s),h⟩
  .obtain⟨w,a,b⟩:=r.pv j t q;exact⟨w,by rw[ao (λz=>c z.symm)];exact a,b⟩
 .rcases cW e with⟨rfl,q⟩|⟨c,q⟩
  .cases q
  .obtain⟨a,b⟩:=J j m q;exact⟨by rw[ao (λz=>c z.symm)];exact a,b⟩
 .rcases cW e with⟨rfl,q⟩|⟨c,q⟩
  .cases q
  .rcases cW y with⟨rfl,n⟩|⟨N,n⟩
   .cases n
   .exact C j k m B q n
 .have L:=r.lv e G;refine⟨L.h,L.f,L.z,λj m q=>?_⟩;rcases cW q with⟨rfl,g⟩|⟨c,g⟩
  .cases g
  .rw[ao (λz=>c z.symm)];exact L.d j m g
 .rcases cW q with⟨rfl,g⟩|⟨c,g⟩
  .cases g
  .rw[ao (λz=>c z.symm)];exact r.sl j l A o g
def Sr.setO(r:Sr K F0 H0 F H σ ρ)(g:Gr F H F1 H1)(x:H l=none)(Z:F1 l=none)(hv:H1 l=some (.lst vs))(hr:cE K F1 vs G) :
  Sr K F0 H0 F1 H1 (σ.set i (some (.ref l))) (ρ.set i (some (.o G))):=by
 have s:=r.grow g;obtain⟨B,I,_⟩:=r.ov;obtain⟨C,Y,h2⟩:=s.ov;have S:∀j m,ρ[j]? = some (some (.o m))->C j≠l:=λj m e z=>by
  obtain⟨a,_⟩:=Y j m e;obtain⟨Q,_,_,vs0,P,_⟩:=I j m e;rw[a]at Q;have:C j=B j:=by simpa using Q
  rw[<-this,z,x]at P;cases P
 refine⟨s.gr,by simp[r.len],λj t e=>?_,⟨λj=>if j=i then l else C j,λj m e=>?_,λj k m X e R p=>?_⟩,λe U=>?_,λj l' N J q=>?_,s.dv.set λ_ z=>nomatch z⟩
 .rcases cW e with⟨rfl,q⟩|⟨c,q⟩
  .cases q
  .obtain⟨w,a,b⟩:=s.pv j t q;exact⟨w,by rw[ao (λz=>c z.symm)];exact a,b⟩
 .have A:j<ρ.length:=by simpa using (aa.mp e).1
  rcases cW e with⟨rfl,q⟩|⟨c,q⟩
  .cases q;dsimp only;rw[aO rfl];exact⟨mv (by rw[r.len];exact A),Z,cN r.gr.hh x,vs,hv,hr⟩
  .dsimp only;rw[aP c];obtain⟨a,b⟩:=Y j m q;exact⟨by rw[ao (λz=>c z.symm)];exact a,b⟩
 .rcases cW e with⟨rfl,q⟩|⟨c,q⟩
  .rcases cW R with⟨rfl,v⟩|⟨y,v⟩
   .exact absurd rfl p
   .dsimp only;rw[aO rfl,aP y];exact λz=>S k X v z.symm
  .rcases cW R with⟨rfl,v⟩|⟨y,v⟩
   .dsimp only;rw[aP c,aO rfl];exact S j m q
   .dsimp only;rw[aP c,aP y];exact h2 j k m X q v p
 .have L:=s.lv e U;have L0:=r.lv e U;refine⟨L.h,L.f,L.z,λj G q=>?_⟩;rcases cW q with⟨rfl,n⟩|⟨c,n⟩
  .intro z;have z':=iQ z;have:e.2.1=l:=by simpa using z'
   rw[<-this,L0.h]at x;cases x
  .rw[ao (λz=>c z.symm)];exact L.d j G n
 .rcases cW q with⟨rfl,n⟩|⟨c,n⟩
  .cases n
  .rw[ao (λz=>c z.symm)];exact r.sl j l' N J n
@[simp] noncomputable def ed(f:Pe->M T)(ρ:En):M T:=f (lx ρ)
def ME.inH(h:ME K E t f)(r:Sr K F0 H0 F H σ ρ)(q:(O.of (ed f ρ) k).res K E F0 H0 F D)
  (d:∀x v a b,Gr F H a b->eM K a v x->Sr K F0 H0 a b σ ρ->(k x).res K E F0 H0 a D->Q v b):t σ H Q:=
 h F H σ (lx ρ) Q r.gr.fh r.vars ((O.res_of q).mono (λx z v a b g c=>d x v a b g c (r.grow g) (z.go g.ff)) λC n z=>z.go r.gr)
@[simp] noncomputable def setO(i:Nat)(f:En->M T):En->O:=λρ=>.of (f ρ) λt=>.nx (ρ.set i (some (.p t)))
def pO(h:ME K E t f):MS K E (ik t (dI i)) (setO i (ed f)):=λF0 H0 F H σ ρ D r q=>h.inH r q λx v d e g a c b=>b d e _ (.refl _) (c.setP a)
@[simp] noncomputable def wg(f:Pe->M (List T))(ρ:En):M (List T):=f (lx ρ)
def MF.inH{f:Pe->M (List T)}(h:MF K E t f)(r:Sr K F0 H0 F H σ ρ)(q:(O.of (wg f ρ) k).res K E F0 H0 F D)
  (o:∀m l j e i,Gr F H e i->H l=none->e l=none->i l=some (.lst j)->cE K e j m->(k m).res K E F0 H0 e D->Q (.ref l) i):t σ H Q:=
 h F H σ (lx ρ) Q r.gr.fh r.vars ((O.res_of q).mono (λm z l j e i g a b c d=>o m l j e i g a b c d (z.go g.ff)) λC n z=>z.go r.gr)
@[simp] noncomputable def Ae(i:Nat)(f:En->M (List T)):En->O:=λρ=>.of (f ρ) λa=>.nx (ρ.set i (some (.o a)))
def xn{f:Pe->M (List T)}(h:MF K E t f):MS K E (ik t (dI i)) (Ae i (wg f)):=λF0 H0 F H σ ρ D r q=>h.inH r q λn l m e j g a b c d k=>k e j _ (.refl _) (r.setO g a b c d)
@[simp] noncomputable def eI(f:En->M T):En->O:=λρ=>.of (f ρ) λ_=>.nx ρ
def uv(h:ME K E t f):MS K E (nN t) (eI (ed f)):=λF0 H0 F H σ ρ D r q=>h.inH r q λx v c d g e b a=>a c d _ (.refl _) b
def Sr.change(r:Sr K F0 H0 F H σ ρ)(e:ρ[i]? = some (some (.o ts)))(hw:cE K F ws us) :
  ∃l A,σ[i]? = some (some (.ref l))/\H l=some (.lst A)/\cE K F A ts/\Sr K F0 H0 F (c6 H l (.lst ws)) σ (ρ.set i (some (.o us))):=by
 obtain⟨I,Q,B⟩:=r.ov;obtain⟨a,b,c,A,d,z⟩:=Q i ts e;refine⟨I i,A,a,d,z,⟨r.gr.ff,λp u q=>?_,λp u q=>?_,r.gr.nw⟩,by simp[r.len],λj t q=>?_,⟨I,λj n q=>?_,λj k n v q P m=>?_⟩,λN he=>?_,λj U s J q=>?_,(r.dv.heap (.refl _) λp xs C _=>⟨by assumption,by rw[cx (λz=>by rw[z,d]at C;cases C)];exact C⟩).setR λ_ z=>nomatch z⟩
 .rw[cx (cH q b)];exact r.gr.fh p u q
 .rw[cx (cH q c)];exact r.gr.hh p u q
 .rcases cW q with⟨rfl,g⟩|⟨x,g⟩
  .cases g
  .exact r.pv j t g
 .rcases cW q with⟨rfl,g⟩|⟨x,g⟩
  .cases g;exact⟨a,b,c,ws,cy,hw⟩
  .obtain⟨Y,Z,X,s,R,z'⟩:=Q j n g;exact⟨Y,Z,X,s,by rw[cx (B j i n ts g e x)];exact R,z'⟩
 .rcases cW q with⟨rfl,g⟩|⟨x,g⟩
  .rcases cW P with⟨rfl,y⟩|⟨S,y⟩
   .exact absurd rfl m
   .exact B j k ts v e y m
  .rcases cW P with⟨rfl,y⟩|⟨S,y⟩
   .exact B j k n ts g e m
   .exact B j k n v g y m
 .have L:=r.lv N he;have G:N.2.1≠I i:=λw=>L.d i ts e (by rw[w];exact a);refine⟨by rw[cx G];exact L.h,L.f,L.z,λj n q=>?_⟩;rcases cW q with⟨rfl,g⟩|⟨x,g⟩
  .exact L.d _ ts e
  .exact L.d j n g
 .rcases cW q with⟨rfl,g⟩|⟨x,g⟩
  .cases g
  .exact r.sl j U s J g
@[simp] noncomputable def nz(ρ:En)(i:Nat):M (List T):=match ρ[i]? with
 |some (some (.o ts))=>.ok ts
 |_=>.bad
def uM(h:nz ρ i=.ok ts):ρ[i]? = some (some (.o ts)):=by
 unfold nz at h;split at h
 .rename_i a e;cases h;exact e
 .cases h
@[simp] noncomputable def xf(i:Nat)(f:En->M T):En->O:=λρ=>.of (nz ρ i) λa=>.of (f ρ) λt=>if a.length<sizeLine then .nx (ρ.set i (some (.o (a++[t])))) else .bad
def tf(r:Sr K F0 H0 F H σ ρ)(e:ρ[i]? = some (some (.o ts)))(m:eM K F v x)
  (q:(if ts.length<sizeLine then O.nx (ρ.set i (some (.o (ts++[x])))) else .bad).res K E F0 H0 F D):∃l,σ[i]? = some (some (.ref l))/\mz (.ref l) [v] H λ_ H1=>D.nx σ H1:=by
 by_cases c:ts.length<sizeLine
 .rw[aO c]at q;obtain⟨p,j,_⟩:=r.ov;obtain⟨_,_,_,k,d,z⟩:=j i ts e;obtain⟨l,b,h,g,s,n⟩:=r.change e (z.append (.cons m .nil));have:b=k:=by
   have a:=(j i ts e).1;rw[h]at a;have:l=p i:=by simpa using a
   rw[this,d]at g;cases g;rfl
  subst this;exact⟨l,h,l,b,v,rfl,rfl,g,by rw[z.length];exact c,q F _ _ (.refl _) n⟩
 .rw[aP c]at q;exact q.elim
def AH(K:W.Frag)(i:Nat)(a:TE):TE:=xW K "list" mz (hI i) (dQ a ib)
def vG(o:∀l k H,H l=some (.lst k)->Bb K "list" (.ref l) H)(h:ME K E t f):MS K E (nN (AH K i t)) (xf i (ed f)):=λF0 H0 F H σ ρ D r q=>by
 unfold xf at q;cases e:nz ρ i with
 |bad=>rw[e]at q;exact q.elim
 |er C n=>unfold nz at e;split at e<;>cases e
 |ok ts=>rw[e]at q;have c:=uM e;obtain⟨B,w,_⟩:=r.ov;obtain⟨a,_,_,y,d,_⟩:=w i ts c;refine⟨_,a,o _ _ _ d,?_⟩;refine h.inH r q λx v z A g m p s=>?_;obtain⟨l,j,b⟩:=tf p c m s;rw[a]at j;cases j;exact b
end
end L3
namespace L3
open PySem L2
section
variable {K:W.Frag}{E:XK}{t u ta tb:TE}{f fa fb:Pe->M T}{F0:Fz}{H0 F H F1 H1:Hp}{σ:St}{ρ:En}{D:gN}
structure kJ(K:W.Frag)(J:It)(its:List T)(F1:Hp):Prop where
 go:∀i H,cC F1 H->i<its.length->J.go i H
 stop:∀H,cC F1 H->J.stop its.length H
 yld:∀(i:Nat) t F H x H',cC F1 F->cC F H->its[i]? = some t->J.yld i H x H'->∃F',Gr F H F' H'/\eM K F' x t
def kI(K:W.Frag)(F H:Hp)(R:It->Hp->Prop)(its:List T):Prop:=∀J a b,Gr F H a b->kJ K J its a->R J b
noncomputable def MI(K:W.Frag)(E:XK)(w:TI)(f:Pe->M (List T)):Prop:=∀F H σ ρ R,cC F H->eF K F σ ρ->(f ρ).res (kI K F H R) (kE E F H)->w σ H R
def Dp(K:W.Frag)(F H:Hp)(R:It->Hp->Prop)(its:List T):Prop:=∀J b a,Gr F H b a->(∀F1,kJ K J its F1)->R J a
noncomputable def AY(K:W.Frag)(E:XK)(w:TI)(f:Pe->M (List T)):Prop:=∀F H σ ρ R,cC F H->eF K F σ ρ->(f ρ).res (Dp K F H R) (kE E F H)->w σ H R
def AY.mi{f:Pe->M (List T)}(h:AY K E w f):MI K E w f:=λF H σ ρ R s V q=>h F H σ ρ R s V (q.mono (λb z J a c g i=>z J a c g (i a)) λ_ _ z=>z)
@[simp] noncomputable def BO(fa:Pe->M T):Pe->M (List T):=λρ=>(fa ρ).bind λx=>match x with
 |.lst ts=>.ok ts
 |.scr ns=>.ok (ns.map T.int)
 |_=>.bad
@[simp] noncomputable def Dk(fa:Pe->M T):Pe->M (List T):=λρ=>(fa ρ).bind λx=>match x with
 |.tup ts=>.ok ts
 |_=>.bad
def pR(c:fX K F a xs)(r:cE K F xs ts):kJ K (Cy K a) ts F where
 go:=λi H s m=>by have e:xs[i]? = some (xs[i]'(by rw[r.length];exact m)):=ag _;exact⟨xs,_,s.seq c,e⟩
 stop:=λH s=>⟨xs,s.seq c,by rw[r.length];exact aI _⟩
 yld:=λi t k H x o d g e y=>by obtain⟨rfl,l⟩:=y;have h:=l xs ((d.trans g).seq c);obtain⟨n,b,j⟩:=r.at_ h;rw[e]at b;cases b;exact⟨k,.refl g,j.mono d⟩
def jf(s:cC F H)(h:F a=some (.tup xs)):fY K H a xs:=fY.of (s _ _ h)
def z6(c:F a=some (.tup xs))(r:cE K F xs ts):kJ K (Ct K a) ts F where
 go:=λi H s m=>by have e:xs[i]? = some (xs[i]'(by rw[r.length];exact m)):=ag _;exact⟨xs,_,jf s c,e⟩
 stop:=λH s=>⟨xs,jf s c,by rw[r.length];exact aI _⟩
 yld:=λi t k H x o d g e y=>by obtain⟨rfl,l⟩:=y;have h:=l xs (jf (d.trans g) c);obtain⟨n,b,j⟩:=r.at_ h;rw[e]at b;cases b;exact⟨k,.refl g,j.mono d⟩
def mh(d:ME K E ta fa):MI K E (uc K ta) (BO fa):=λF H σ ρ R s V q=>by
  refine d.run s V q λx v F1 H1 a c b=>?_;cases c<;>first
    |exact b.elim
    | (rename_i h r
       exact⟨_,rfl,⟨_,fX.of (a.fh _ _ h)⟩,b _ F1 H1 a (pR (fX.of h) r)⟩)
    | (rename_i h
       exact⟨_,rfl,⟨_,a.fh.seq h⟩,b _ F1 H1 a (pR h (cE.of_ints _))⟩)
def yG(d:ME K E ta fa):MI K E (Aa K ta) (Dk fa):=λF H σ ρ R s V q=>by
  refine d.run s V q λx v F1 H1 b c a=>?_;cases c<;>first
    |exact a.elim
    | (rename_i h r
       exact⟨_,rfl,⟨_,fY.of (b.fh _ _ h)⟩,a _ F1 H1 b (z6 h r)⟩)
def Ck:(2:Int) ^ 62=4611686018427387904:=by decide +kernel
def De:(2:Int) ^ 63=9223372036854775808:=by decide +kernel
noncomputable def xQ(j:Int):Bool:=decide (j.natAbs<4611686018427387904)
def jM(h:xQ j=true):-(2 ^ 62)<=j/\j<2 ^ 62:=by rw[Ck];have:=of_decide_eq_true h;omega
def lK(h:j.natAbs<=1000000):xQ j=true:=decide_eq_true (by omega)
noncomputable def mD(a:Int)(n:Nat):List T:=(List.range n).map λ(i:Nat)=>T.int (a+(i:Int))
def zI F:kJ K (Ao lo n) (mD lo n) F where
 go:=λi H s a=>by show i<n;simpa[mD] using a
 stop:=λH s=>by simp[mD,Ao]
 yld:=λi t b H x d g c e y=>by
  obtain⟨rfl,rfl⟩:=y;have a:i<n:=by simpa[mD] using (aa.mp e).1
  have:t=.int (lo+i):=by unfold mD at e;rw[au,List.getElem?_range a]at e;cases e;rfl
  rw[this];exact⟨b,.refl c,.int _⟩
@[simp] noncomputable def il(fa:Pe->M (List T)):Pe->M (List T):=λρ=>(fa ρ).bind λa=>match a with
 |[.int j]=>if xQ j then .ok (mD 0 j.toNat) else .bad
 |_=>.bad
def we{ta:TA}{fa:Pe->M (List T)}(g:MA K E ta fa):AY K E (tK ta) (il fa):=λF H σ ρ R s V q=>by
 refine g.run s V q λi k F1 H1 e h c=>?_;split at c
 .rename_i j;split at c
  .rename_i d;cases h with
   |cons a b=>cases a;cases b;exact⟨j,rfl,(jM d).1,(jM d).2,c _ F1 H1 e zI⟩
  .exact c.elim
 .exact c.elim
noncomputable def seqB(b:Bool):T->M (List T)
 |.tup ts=>if b then .ok ts else .bad
 |.lst ts=>if b then .bad else .ok ts
 |.scr ns=>if b then .bad else .ok (ns.map T.int)
 |_=>.bad
def pX(r:eM K F v x)(e:seqB b x=.ok ts):∃a c,v=.ref a/\(∀H,cC F H->n6 K H b a c)/\cE K F c ts:=by
 cases r<;>try (cases e)
 .rename_i a c g h r;cases b with
  |true=>cases e;exact⟨a,c,rfl,λH s=>by unfold n6;rw[aO rfl];exact fY.of (s _ _ h),r⟩
  |false=>cases e
 .rename_i a c g h r;cases b with
  |true=>cases e
  |false=>cases e;exact⟨a,c,rfl,λH s=>by unfold n6;rw[aP aF];exact fX.of (s _ _ h),r⟩
 .rename_i a d h;cases b with
  |true=>cases e
  |false=>cases e;exact⟨a,_,rfl,λH s=>by unfold n6;rw[aP aF];exact s.seq h,cE.of_ints d⟩
noncomputable def oH(b a:List T):List T:=(b.zip a).map λp=>T.tup [p.1,p.2]
def zd(l:∀H,cC F H->n6 K H b1 l1 xs)(j:cE K F xs ts)(h:∀H,cC F H->n6 K H b2 l2 ys)(m:cE K F ys us):kJ K (B7 K b1 b2 l1 l2) (oH ts us) F where
 go:=λi H s G=>by
  have a:i<ts.length/\i<us.length:=by simp[oH]at G;omega
  have c:xs[i]? = some (xs[i]'(by rw[j.length];exact a.1)):=ag _;have k:ys[i]? = some (ys[i]'(by rw[m.length];exact a.2)):=ag _;exact⟨xs,ys,_,_,l H s,h H s,c,k⟩
 stop:=λH s=>⟨xs,ys,l H s,h H s,by simp[oH,j.length,m.length];omega⟩
 yld:=λi t J H x L b d e y=>by
  obtain⟨p,A,v,rfl,r,rfl,c,k⟩:=y;obtain⟨n,B,I⟩:=j.at_ (c xs (l H (b.trans d)));obtain⟨q,w,C⟩:=m.at_ (k ys (h H (b.trans d)));have:t=.tup [n,q]:=by unfold oH at e;rw[au,(List.getElem?_zip_eq_some (z:=(n,q))).mpr ⟨B,w⟩]at e;cases e;rfl
  rw[this];have g:=Gr.new (o:=.tup [A,v]) d r;exact⟨_,g,.tup cy (.cons ((I.mono b).mono g.ff) (.cons ((C.mono b).mono g.ff) .nil))⟩
noncomputable def zr(b a:Bool)(fa:Pe->M (List T)):Pe->M (List T):=λρ=>(fa ρ).bind λc=>match c with
 |[x,y]=>(seqB b x).bind λe=>(seqB a y).bind λd=>.ok (oH e d)
 |_=>.bad
def qd:seqB b x≠.er C n:=by cases x<;>cases b<;>exact λz=>nomatch z
def uN{ta:TA}{fa:Pe->M (List T)}(p:MA K E ta fa):MI K E (yr K b1 b2 ta) (zr b1 b2 fa):=λF H σ ρ R s V q=>by
 refine p.run s V q λz A F1 H1 h v d=>?_;split at d
 .rename_i x y;cases v with
  |cons a b=>
   cases b with
   |cons b c=>
    cases c;cases e:seqB b1 x with
    |bad=>rw[e]at d;exact d.elim
    |er C n=>exact absurd e qd
    |ok ts=>
     rw[e]at d;cases g:seqB b2 y with
     |bad=>simp only[g,M.bind_ok]at d;exact d.elim
     |er C n=>exact absurd g qd
     |ok us=>simp only[g,M.bind_ok]at d;obtain⟨o,r,rfl,i,l⟩:=pX a e;obtain⟨w,k,rfl,j,m⟩:=pX b g;exact⟨o,w,rfl,⟨r,i _ h.fh⟩,⟨k,j _ h.fh⟩,d _ F1 H1 h (zd i l j m)⟩
 .exact d.elim
def MG(K:W.Frag)(g:TG)(m:T->Pe->Option Pe):Prop:=∀F H σ (ρ:Pe) x t ρ' Q,cC F H->σ.length=ρ.length->eF K F σ ρ->eM K F x t->m t ρ=some ρ'->(∀a,a.length=ρ'.length->eF K F a ρ'->Q a H)->g x σ H Q
def A6(K:W.Frag)(g:xV)(m:List T->Pe->Option Pe):Prop:=∀F H σ (ρ:Pe) xs ts ρ' Q,cC F H->σ.length=ρ.length->eF K F σ ρ->cE K F xs ts->m ts ρ=some ρ'->(∀a,a.length=ρ'.length->eF K F a ρ'->Q a H)->g xs σ H Q
@[simp] def lB(i:Nat):T->Pe->Option Pe:=λt ρ=>some (ρ.set i (some t))
def eF.set{ρ:Pe}(V:eF K F σ ρ)(d:σ.length=ρ.length)(h:eM K F v x):eF K F (σ.set i (some v)) (ρ.set i (some x)):=λj t e=>by
 have c:j<ρ.length:=by simpa using (aa.mp e).1
 rcases cW e with⟨rfl,q⟩|⟨c,q⟩
 .cases q;exact⟨v,mv (by rw[d];exact c),h⟩
 .obtain⟨w,a,b⟩:=V j t q;exact⟨w,by rw[ao (λz=>c z.symm)];exact a,b⟩
def wD:MG K (dI i) (lB i):=λF H σ ρ x t b Q s a V r e k=>by cases e;exact k _ (by simp[a]) (V.set a r)
@[simp] noncomputable def zE:List T->Pe->Option Pe
 |[],ρ=>some ρ
 |_::_,_=>none
@[simp] def qe(m:T->Pe->Option Pe)(n:List T->Pe->Option Pe):List T->Pe->Option Pe
 |[],_=>none
 |t::ts,ρ=>(m t ρ).bind (n ts)
def wR:A6 K vo zE:=λF H σ ρ g h d Q s c V r e k=>by
 cases r with
 |nil=>cases e;exact⟨rfl,k σ c V⟩
 |cons a b=>cases e
def uZ(w:MG K g m)(p:A6 K gs n):A6 K (m3 g gs) (qe m n):=λF H σ ρ x y c Q s l V r e k=>by
 cases r with
 |nil=>cases e
 |cons a b=>
  rename_i v t j d;have e:(m t ρ).bind (n d)=some c:=e;cases q:m t ρ with
  |none=>rw[q]at e;cases e
  |some ρ1=>rw[q]at e;refine⟨v,j,rfl,w F H σ ρ v t ρ1 _ s l V a q λi h o=>?_⟩;exact p F H i ρ1 j d c Q s h o b e k
@[simp] noncomputable def za(k:Nat)(m:List T->Pe->Option Pe):T->Pe->Option Pe
 |.tup ts,ρ=>if ts.length=k then m ts ρ else none
 |_,_=>none
def ym(h:A6 K g m):MG K (wN K k g) (za k m):=λF H σ ρ x t b Q s i V r e q=>by
 cases r with
 |tup hx rs=>
  rename_i a j d;have e:(if d.length=k then m d ρ else none)=some b:=e;by_cases c:d.length=k
  .rw[aO c]at e;exact⟨_,_,rfl,fY.of (s _ _ hx),by rw[rs.length];exact c,h F H σ ρ _ _ b Q s i V rs e q⟩
  .rw[aP c]at e;cases e
 |_=>cases e
noncomputable def Ai(K:W.Frag)(g:TG)(m:T->En->Option En):Prop:=∀F0 H0 F H σ ρ x t a Q,Sr K F0 H0 F H σ ρ->eM K F x t->m t ρ=some a->(∀b,Sr K F0 H0 F H b a->Q b H)->g x σ H Q
@[simp] noncomputable def xg(i:Nat):T->En->Option En:=λt ρ=>some (ρ.set i (some (.p t)))
def uA:Ai K (dI i) (xg i):=λF0 H0 F H σ ρ x t a Q s r e k=>by cases e;exact k _ (s.setP r)
noncomputable def fF(m:T->En->Option En)(g:En->O):List T->En->O
 |[],ρ=>.nx ρ
 |t::ts,ρ=>match m t ρ with
  |none=>.bad
  |some ρ1=>match g ρ1 with
   |.nx ρ2=>fF m g ts ρ2
   |.ct ρ2=>fF m g ts ρ2
   |.bk ρ2=>.nx ρ2
   |o=>o
theorem oG{tb:TS}{J:It}(hg:Ai K g m)(hb:MS K E tb gb){G:Hp->Hp->Prop}(Y:∀i F H,G F H->i<its.length->J.go i H)(X:∀F H,G F H->J.stop its.length H)(Q:∀(i:Nat) t F H x c,G F H->its[i]? = some t->J.yld i H x c->∃d,Gr F H d c/\eM K d x t)
  (S:∀d c b ρ',cC F1 d->Sr K F0 H0 d c b ρ'->G d c) (r:Sr K F0 H0 F H σ ρ) (s1:cC F1 F)
  (q:(fF m gb its ρ).res K E F0 H0 F D):∃W:Nat->Nat->St->Hp->Prop,(∃m,W 0 m σ H)/\∀i m σ H,W i m σ H->
 (J.stop i H/\D.nx σ H)\/(J.go i H/\∃N:St->Hp->Prop,(∀b c,N b c->∃Z,Z<m/\W (i+1) Z b c)/\∀x c,J.yld i H x c->g x σ c λP H2=>tb {D with nx:=N,ct:=N,bk:=D.nx} P H2):=by
 refine⟨λi k b c=>i<=its.length/\k=its.length-i/\∃d ρ',cC F1 d/\Sr K F0 H0 d c b ρ'/\(fF m gb (its.drop i) ρ').res K E F0 H0 d D,⟨_,bu _,rfl,F,ρ,s1,r,by simpa using q⟩,?_⟩
 rintro i k A L ⟨hi,rfl,I,v,p,B,a⟩
 by_cases h:i<its.length
 .right;refine⟨Y i I L (S _ _ _ _ p B) h,λb c=>∃d ρ',cC F1 d/\Sr K F0 H0 d c b ρ'/\(fF m gb (its.drop (i+1)) ρ').res K E F0 H0 d D,λb c z=>⟨its.length-(i+1),by omega,h,rfl,z⟩,λx c y=>?_⟩;have et:=ag h;obtain⟨F3,o,rp⟩:=Q i _ I L x c (S _ _ _ _ p B) et y;rw[b5 h]at a;unfold fF at a;cases U:m its[i] v with
  |none=>rw[U]at a;exact a.elim
  |some ρ3=>
   rw[U]at a;refine hg F0 H0 F3 c A v x _ ρ3 _ (B.grow o) rp U λb r'=>?_;refine hb F0 H0 F3 c b ρ3 _ r' ?_;dsimp only at a;cases j:gb ρ3 with
   |bad=>rw[j]at a;exact a.elim
   |nx ρ4=>rw[j]at a;exact λd R w s l=>⟨d,ρ4,(p.trans o.ff).trans s,l,O.res.go a (o.ff.trans s)⟩
   |ct ρ4=>rw[j]at a;exact λd R w s l=>⟨d,ρ4,(p.trans o.ff).trans s,l,O.res.go a (o.ff.trans s)⟩
   |bk ρ4=>rw[j]at a;exact kN.go a o.ff
   |rt t=>rw[j]at a;exact a
   |rf ts=>rw[j]at a;exact a
   |rn ts us=>rw[j]at a;exact a
   |er C n=>rw[j]at a;exact a
 .left;have e:i=its.length:=by omega
  subst e;refine⟨X I L (S _ _ _ _ p B),?_⟩;rw[b6]at a;exact a I L A (.refl _) B
def lQ{tb:TS}(n:Ai K g m)(k:MS K E tb gb)(a:kJ K J its F1)(r:Sr K F0 H0 F H σ ρ)(s1:cC F1 F)
  (q:(fF m gb its ρ).res K E F0 H0 F D):∃W:Nat->Nat->St->Hp->Prop,(∃m,W 0 m σ H)/\∀i m σ H,W i m σ H->
 (J.stop i H/\D.nx σ H)\/(J.go i H/\∃N:St->Hp->Prop,(∀c b,N c b->∃h,h<m/\W (i+1) h c b)/\∀x b,J.yld i H x b->g x σ b λd j=>tb {D with nx:=N,ct:=N,bk:=D.nx} d j):=
 oG (G:=λF H=>cC F1 F/\cC F H) n k (λi F H q l=>a.go i H (q.1.trans q.2) l) (λF H q=>a.stop H (q.1.trans q.2)) (λi t F H x b q e y=>a.yld i t F H x b q.1 q.2 e y) (λ_ _ _ _ s r=>⟨s,r.gr.fh⟩) r s1 q
@[simp] noncomputable def qQ(b:Pe->M (List T))(m:T->En->Option En)(g:En->O):En->O:=λρ=>.of (b (lx ρ)) λa=>fF m g a ρ
def yl{tb:TS}(d:MI K E w fi)(h:Ai K g m)(c:MS K E tb gb):MS K E (sT w g tb) (qQ fi m gb):=λF0 H0 F H σ ρ D r q=>d F H σ (lx ρ) _ r.gr.fh r.vars ((O.res_of q).mono (λe z J i j b a=>lQ h c a (r.grow b) (.refl _) (z.go b.ff)) λC n z=>z.go r.gr)
@[simp] noncomputable def lA(b:Pe->M (List T))(m:T->En->Option En)(g:En->O):En->O:=λρ=>.of (b (vw ρ)) λa=>fF m g a ρ
def vv{tb:TS}(p:AY K E w fi)(v:Ai K g m)(j:MS K E tb gb):MS K E (sT w g tb) (lA fi m gb):=λF0 H0 F H σ ρ D r q=>by obtain⟨l,x,d,V,a⟩:=r.lend;refine p l H σ (vw ρ) _ d.fh V ((O.res_of q).mono (λs z J h o i b=>?_) λC n z=>z.go d);obtain⟨k,c,e,_⟩:=a h o i;exact lQ v j (b k) (r.grow c) (.refl _) (z.go e)
noncomputable def gF(c:Pe->M Bool)(g:En->O):Nat->En->O
 |0,_=>.bad
 |n+1,ρ=>.of (c (vw ρ)) λb=>if b then (match g ρ with
   |.nx ρ2=>gF c g n ρ2
   |.ct ρ2=>gF c g n ρ2
   |.bk ρ2=>.nx ρ2
   |o=>o) else .nx ρ
def uQ{tb:TS}(h:En->Nat)(G:MT K E c fc)(I:MS K E tb gb):MS K E (pD c tb) (λρ=>gF fc gb (h ρ) ρ):=λF0 H0 F H σ ρ D r q=>by
 refine⟨λn g o=>∃e d,cC F e/\Sr K F0 H0 e o g d/\(gF fc gb n d).res K E F0 H0 e D,⟨h ρ,F,ρ,.refl _,r,q⟩,?_⟩;rintro n l N ⟨L,k,w,J,v⟩;cases n with
 |zero=>exact v.elim
 |succ n=>
  unfold gF at v;refine G.inS J v λb A y x B a=>?_;cases b with
  |true=>
   rw[aO rfl]at a ⊢;refine⟨λg o=>∃e d,cC F e/\Sr K F0 H0 e o g d/\(gF fc gb n d).res K E F0 H0 e D,λg o z=>⟨n,bt n,z⟩,?_⟩;refine I F0 H0 A y l k _ B ?_;cases i:gb k with
   |bad=>rw[i]at a;exact a.elim
   |nx ρ4=>rw[i]at a;exact λe p m s j=>⟨e,ρ4,(w.trans x).trans s,j,O.res.go a s⟩
   |ct ρ4=>rw[i]at a;exact λe p m s j=>⟨e,ρ4,(w.trans x).trans s,j,O.res.go a s⟩
   |bk ρ4=>rw[i]at a;exact a
   |rt t=>rw[i]at a;exact a
   |rf ts=>rw[i]at a;exact a
   |rn ts us=>rw[i]at a;exact a
   |er C n=>rw[i]at a;exact a
  |false=>rw[aP aF]at a ⊢;exact a A y l (.refl _) B
@[simp] noncomputable def fv(a:List (Option Nat))(ρ:Pe):Pe:=a.map fun
 |none=>none
 |some j=>(ρ[j]?).getD none
def eF.pull{ρ:Pe}(V:eF K F σ ρ) ix:eF K F (L2.pull ix σ) (fv ix ρ):=λi t e=>by
 unfold fv at e;rw[au]at e;cases q:ix[i]? with
 |none=>rw[q]at e;cases e
 |some w=>
  rw[q]at e;cases w with
  |none=>cases e
  |some j=>
   have c:(ρ[j]?).getD none=some t:=by simpa using e
   cases z:ρ[j]? with
   |none=>rw[z]at c;cases c
   |some y=>rw[z]at c;have:y=some t:=c;rw[this]at z;obtain⟨v,a,b⟩:=V j t z;refine⟨v,?_,b⟩;unfold L2.pull;rw[au,q];simp[a]
@[simp] noncomputable def gY(m:T->Pe->Option Pe)(c:Pe->M Bool)(a:Pe->M T)(ρ:Pe)(t:T):M (Option T):=match m t ρ with
 |none=>.bad
 |some ρ1=>(c ρ1).bind λb=>if b then (a ρ1).bind λx=>.ok (some x) else .ok none
noncomputable def fO(k:T->M (Option T)):List T->M (List T)
 |[]=>.ok []
 |t::ts=>(k t).bind λo=>(fO k ts).bind λr=>.ok (match o with
  |some x=>x::r
  |none=>r)
def vf:XK:=λ_ _ _=>False
def zD:MT K E yt (λ_=>.ok true):=λF H σ ρ Q s V q=>q F H (.refl s)
theorem uY{ρ:Pe}(hg:MG K g m)(ht:MT K vf tt ft)(he:ME K vf te fe)(V:eF K F1 σ ρ)
  (c:kJ K J its F1) (s:cC F1 H1) (hl:its.length<sizeLine) (q:(fO (gY m ft fe (fv ix ρ)) its).res (kF K F1 H1 Q) (λ_ _=>False)):CT J ix g tt te σ H1 Q:=by
 refine⟨λi k N H=>i<=its.length/\k=its.length-i/\∃X j,Gr F1 H1 X H/\cE K X N j/\j.length<=i/\(fO (gY m ft fe (fv ix ρ)) (its.drop i)).res (λY=>kF K F1 H1 Q (j++Y)) (λ_ _=>False),
  ⟨_,bu _,rfl,F1,[],.refl s,.nil,bu _,by simpa using q⟩,?_⟩
 rintro i k N L ⟨hi,rfl,U,j,g2,r,tl,o⟩;by_cases a:i<its.length
 .right;refine⟨c.go i L (g2.ff.trans g2.fh) a,by rw[r.length];omega,λx I y=>?_⟩;have et:=ag a;obtain⟨Z,n,rp⟩:=c.yld i _ U L x I g2.ff g2.fh et y;rw[b5 a]at o;unfold fO at o;have d:=M.res.unb o;unfold gY at d;cases C:m its[i] (fv ix ρ) with
  |none=>rw[C]at d;exact d.elim
  |some ρ3=>
   rw[C]at d;have h:=g2.trans n;have V3:=(V.mono h.ff).pull ix;refine hg Z I _ _ x _ ρ3 _ n.fh (by simp[L2.pull,fv]) V3 rp C λp hl' R=>?_;have q4:=M.res.unb d;refine ht Z I p ρ3 _ n.fh R (q4.mono (λb z S H4 l=>?_) λ_ _ z=>z.elim);cases b with
   |true=>rw[aO rfl]at z ⊢;have q5:=M.res.unb z;refine he S H4 p ρ3 _ l.fh (R.mono l.ff) (q5.mono (λx' z' v F5 H5 P G=>?_) λ_ _ z=>z.elim);refine⟨its.length-(i+1),by omega,a,rfl,F5,j++[x'],(h.trans l).trans P,(r.mono (n.ff.trans (l.ff.trans P.ff))).append (.cons G .nil),by simp;omega,?_⟩;have B:=M.res.unb z';exact B.mono (λY w=>by rw[bJ];exact w) λ_ _ w=>w
   |false=>rw[aP aF]at z ⊢;refine⟨its.length-(i+1),by omega,a,rfl,S,j,h.trans l,r.mono (n.ff.trans l.ff),by omega,?_⟩;exact M.res.unb z
 .left;have e:i=its.length:=by omega
  subst e;rw[b6]at o;refine⟨c.stop L (g2.ff.trans g2.fh),λD A=>?_⟩;have d:kF K F1 H1 Q j:=by simpa[fO,M.res] using o
  exact d D N U _ (g2.trans (.new' g2.fh A)) (cN g2.hh A) (cN g2.fh A) cy r
def xx(h:MI K E w fi)(i:MG K g m)(d:MT K vf tt ft)(e:ME K vf te fe) :
  MF K E (mY ix w g tt te) (λρ=>(fi ρ).bind λits=>(if its.length<sizeLine then fO (gY m ft fe (fv ix ρ)) its else .bad).noEr):=λF H σ ρ Q s V q=>by
 refine h F H σ ρ _ s V ((M.res.unb q).mono (λits z J j k b a=>?_) λ_ _ z=>z);split at z
 .rename_i c;exact uY i d e (V.mono b.ff) a b.fh c (z.noEr.mono (λ_ w=>w.go b) λ_ _ w=>w)
 .exact z.elim
end
end L3
namespace L3
open PySem L2
section
variable {K:W.Frag}{E:XK}{t u ta tb:TE}{f fa fb:Pe->M T}{F0:Fz}{H0 F H F1 H1:Hp}{σ:St}{ρ:En}{D:gN}
noncomputable def mr(K:W.Frag)(F:List T->M T):Sp:=λb H Q E=>∃a F0,cC F0 H/\cE K F0 b a/\(F a).res (kV K F0 H Q) (kE E F0 H)
noncomputable def xS(K:W.Frag)(F:List T->M (List T)):Sp:=λb H Q E=>∃a F0,cC F0 H/\cE K F0 b a/\(F a).res (kF K F0 H Q) (kE E F0 H)
@[simp] noncomputable def dg(fa:Pe->M (List T))(F:List T->M T):Pe->M T:=λρ=>(fa ρ).bind F
@[simp] noncomputable def c7(fa:Pe->M (List T))(F:List T->M T):Pe->M T:=λρ=>(fa ρ).bind λa=>(F a).noEr
@[simp] noncomputable def fT(fa:Pe->M (List T))(F:List T->M (List T)):Pe->M (List T):=λρ=>(fa ρ).bind λa=>(F a).noEr
section
variable {tr:TA}{fr:Pe->M (List T)}{Fn:List T->M T}{Ff:List T->M (List T)}{E':XK}
def xr(d:MA K E tr fr):ME K E (i3 (mr K Fn) [] E tr) (dg fr Fn):=λF H σ ρ Q s V q=>by refine d.run s V q λe g F1 H1 a b c=>?_;exact⟨e,F1,a.fh,by rw[bw];exact b,c.mono (λ_ z=>z.go a) λ_ _ z=>z⟩
def rQ(d:MA K E tr fr):ME K E (i3 (mr K Fn) [] E' tr) (c7 fr Fn):=λF H σ ρ Q s V q=>by refine d.run s V q λe g F1 H1 a b c=>?_;exact⟨e,F1,a.fh,by rw[bw];exact b,(c.mono (λ_ z=>kV.go z a) λ_ _ z=>z).noEr⟩
def sE(d:MA K E tr fr):MF K E (i3 (xS K Ff) [] E' tr) (fT fr Ff):=λF H σ ρ Q s V q=>by refine d.run s V q λe g F1 H1 a b c=>?_;exact⟨e,F1,a.fh,by rw[bw];exact b,(c.mono (λ_ z=>kF.go z a) λ_ _ z=>z).noEr⟩
end
@[simp] noncomputable def C5:O->M T
 |.nx _=>.ok .non
 |.rt t=>.ok t
 |.rf ts=>.ok (.lst ts)
 |.rn ts us=>.ok (.tup (ts++[.lst us]))
 |.er C n=>.er C n
 |_=>.bad
@[simp] noncomputable def CV:O->M (List T)
 |.rf ts=>.ok ts
 |.er C n=>.er C n
 |_=>.bad
@[simp] noncomputable def eS(n:Nat)(a:List T):En:=a.map (λt=>some (W.p t))++List.replicate (n-a.length) none
@[simp] noncomputable def gS(k n:Nat)(g:En->O):List T->M T:=λa=>if a.length=k then C5 (g (eS n a)) else .bad
@[simp] noncomputable def vh(k n:Nat)(g:En->O):List T->M (List T):=λa=>if a.length=k then CV (g (eS n a)) else .bad
def lR{n i:Nat}(e:(eS n ts)[i]? = some (some (.d kvs))):False:=by
 unfold eS at e;rw[List.getElem?_append]at e;split at e
 .rw[au]at e;cases q:ts[i]? with
  |none=>rw[q]at e;cases e
  |some x=>rw[q]at e;cases e
 .rw[List.getElem?_replicate]at e;split at e<;>cases e
def kf(s:cC F H)(r:cE K F vs ts):Sr K ⟨F,[]⟩ H F H (eP N vs) (eS N.length ts):=by
 refine⟨.refl s,?_,λi t e=>?_,⟨λ_=>0,λi k e=>?_,λi j k m e=>?_⟩,λ_ l=>(nomatch l),λ_ _ _ h=>(by cases h),⟨λi c e=>(lR e).elim,λi j c d e=>(lR e).elim⟩⟩
 .simp[L2.eP,eS,r.length]
 .unfold eS at e;rw[List.getElem?_append]at e;split at e
  .rename_i g;rw[au]at e;cases q:ts[i]? with
   |none=>rw[q]at e;cases e
   |some x=>rw[q]at e;cases e;obtain⟨v,a,b⟩:=r.get q;refine⟨v,?_,b⟩;unfold L2.eP;rw[List.getElem?_append_left (by simpa[r.length] using g),au,a];rfl
  .rw[List.getElem?_replicate]at e;split at e<;>cases e
 .exfalso;unfold eS at e;rw[List.getElem?_append]at e;split at e
  .rw[au]at e;cases q:ts[i]? with
   |none=>rw[q]at e;cases e
   |some x=>rw[q]at e;cases e
  .rw[List.getElem?_replicate]at e;split at e<;>cases e
 .exfalso;unfold eS at e;rw[List.getElem?_append]at e;split at e
  .rw[au]at e;cases q:ts[i]? with
   |none=>rw[q]at e;cases e
   |some x=>rw[q]at e;cases e
  .rw[List.getElem?_replicate]at e;split at e<;>cases e
def l3(h:mr K (gS k n g) vs H Q E):vs.length=k:=by
 obtain⟨b,F0,s,r,q⟩:=h;unfold gS at q;by_cases a:b.length=k
 .rw[r.length];exact a
 .rw[aP a]at q;exact q.elim
def mR{t:TS}(i:MS K E t g)(h:mr K (gS k N.length g) vs H Q E):t {nx:=λ_ b=>Q .non b,rt:=Q} (eP N vs) H:=by
 obtain⟨a,F0,s,r,q⟩:=h;unfold gS at q;by_cases c:a.length=k
 .rw[aO c]at q;refine i ⟨F0,[]⟩ H F0 H _ _ _ (kf s r) ?_;cases e:g (eS N.length a) with
  |bad=>rw[e]at q;exact q
  |nx ρ=>rw[e]at q;exact λl b j _ d=>q .non l b d.gr .non
  |rt t=>rw[e]at q;exact q
  |rf a=>rw[e]at q;exact kF.of q
  |rn a us=>rw[e]at q;exact kT.of q
  |bk ρ=>rw[e]at q;exact q.elim
  |ct ρ=>rw[e]at q;exact q.elim
  |er C n=>rw[e]at q;exact q
 .rw[aP c]at q;exact q.elim
def vL(h:xS K (vh k n g) vs H Q E):vs.length=k:=by
 obtain⟨b,F0,s,r,q⟩:=h;unfold vh at q;by_cases a:b.length=k
 .rw[r.length];exact a
 .rw[aP a]at q;exact q.elim
def sh{t:TS}(c:MS K E t g)(h:xS K (vh k N.length g) vs H Q E):t {nx:=λ_ d=>Q .non d,rt:=Q} (eP N vs) H:=by
 obtain⟨a,F0,s,r,q⟩:=h;unfold vh at q;by_cases b:a.length=k
 .rw[aO b]at q;refine c ⟨F0,[]⟩ H F0 H _ _ _ (kf s r) ?_;cases e:g (eS N.length a) with
  |bad=>rw[e]at q;exact q
  |nx ρ=>rw[e]at q;exact q.elim
  |rt t=>rw[e]at q;exact q.elim
  |rf a=>rw[e]at q;exact q
  |rn a us=>rw[e]at q;exact q.elim
  |bk ρ=>rw[e]at q;exact q.elim
  |ct ρ=>rw[e]at q;exact q.elim
  |er C n=>rw[e]at q;exact q
 .rw[aP b]at q;exact q.elim
end
end L3
namespace L3
open PySem L2 PySem.Spec PyProof.Rows
structure Pm(K:W.Frag)(E:XK)(X:Cx)(e:Expr)(t:TE)(f:Pe->M T):Prop where
 pe:PE X e t
 me:ME K E t f
structure uW(K:W.Frag)(E:XK)(X:Cx)(e:Expr)(t:TE)(f:Pe->M (List T)):Prop where
 pe:PE X e t
 mf:MF K E t f
structure oX(K:W.Frag)(E:XK)(X:Cx)(e:Expr)(t:TT)(f:Pe->M Bool):Prop where
 pt:PT X e t
 mt:MT K E t f
structure zV(K:W.Frag)(E:XK)(X:Cx)(e:Expr)(t:TT)(f:Pe->M Bool):Prop where
 pw:PW X e t
 mt:MT K E t f
structure pQ(K:W.Frag)(E:XK)(X:Cx)(es:List Expr)(t:TA)(f:Pe->M (List T)):Prop where
 pa:PA X es t
 ma:MA K E t f
structure sq(K:W.Frag)(E:XK)(X:Cx)(tg it:Expr)(w:TI)(f:Pe->M (List T)):Prop where
 pi:PI X tg it w
 mi:MI K E w f
structure rj(K:W.Frag)(E:XK)(X:Cx)(tg it:Expr)(w:TI)(f:Pe->M (List T)):Prop where
 pi:PI X tg it w
 mi:AY K E w f
structure yK(K:W.Frag)(X:Cx)(tg:Expr)(g:TG)(m:T->Pe->Option Pe):Prop where
 pg:PG X tg g
 mg:MG K g m
structure xb(K:W.Frag)(X:Cx)(tg:List Expr)(g:xV)(m:List T->Pe->Option Pe):Prop where
 pg:Bc X tg g
 mg:A6 K g m
structure CD(K:W.Frag)(X:Cx)(tg:Expr)(g:TG)(m:T->En->Option En):Prop where
 pg:PG X tg g
 mg:Ai K g m
structure mX(K:W.Frag)(E:XK)(X:Cx)(st:Stmt)(t:TS)(g:En->O):Prop where
 ps:PS X st t
 ms:MS K E t g
structure gQ(K:W.Frag)(E:XK)(X:Cx)(sts:List Stmt)(t:TS)(g:En->O):Prop where
 ps:kq X sts t
 ms:MS K E t g
noncomputable def MO(K:W.Frag)(E:XK)(t:TO)(f:Pe->M (Option Int)):Prop:=∀F H b a Q,cC F H->eF K F b a->(f a).res (λo=>∀d c,Gr F H d c->Q o c) (kE E F H)->t b H Q
structure BM(K:W.Frag)(E:XK)(X:Cx)(e:Oq Expr)(t:TO)(f:Pe->M (Option Int)):Prop where
 po:PO X e t
 mo:MO K E t f
structure sr(K:W.Frag)(E:XK)(X:Cx)(es:List Expr)(t:TT)(f:Pe->M Bool):Prop where
 pf:nZ X es t
 mt:MT K E t f
section
variable {K:W.Frag}{E:XK}{X:Cx}{a b c e o:Expr}{es:List Expr}{ta tb tc te to:TE}{fa fb fc fe fo:Pe->M T}{tr:TA}{fr:Pe->M (List T)}{pos p p2 apos:Pos}
def cG i (f:X.N[i]? = some x:=by rfl) (h:AD X.env.scope x:=by first|exact Or.inl rfl|exact Or.inr (Or.inl rfl)|exact Or.inr (Or.inr rfl)) (g:(x==("__debug__" : Str))=false:=by decide)
  (d:(x==("__classdict__" : Str))=false:=by decide):Pm K E X (.Name x pos) (hI i) (cn i):=⟨pv i f h g d,ze⟩
def du{j pos}:Pm K E X (.Constant (.int i) j pos) (tC (.int i)) (cM (.int i)):=⟨yy,qT λ_=>.int i⟩
def xM{b:Bool}{j pos}:Pm K E X (.Constant (.bool b) j pos) (tC (.bl b)) (cM (.bl b)):=⟨AV,qT λ_=>.bl b⟩
def tM{j pos}:Pm K E X (.Constant .none j pos) (tC .non) (cM .non):=⟨yu,qT λ_=>.non⟩
def dq{j pos}:Pm K E X (.Constant (.str x) j pos) (tC (.str x)) (cM (.str x)):=⟨mK,qT λ_=>.str x⟩
def iX i (f:∃t,X.mg x=some (.int i t)) (g:Gl X x:=by rfl) (d:(x==("__debug__" : Str))=false:=by decide):Pm K E X (.Name x pos) (tC (.int i)) (cM (.int i)):=let ⟨t,h⟩:=f;⟨ei g h ⟨t,rfl⟩ d,qT λ_=>.int i⟩
def nO y (f:∃t,X.mg x=some (.str y t)) (g:Gl X x:=by rfl) (d:(x==("__debug__" : Str))=false:=by decide):Pm K E X (.Name x pos) (tC (.str y)) (cM (.str y)):=let ⟨t,h⟩:=f;⟨ei g h ⟨t,rfl⟩ d,qT λ_=>.str y⟩
def ee(h:uW K E X e te f):Pm K E X e te (λρ=>(f ρ).bind λd=>.ok (.lst d)):=⟨h.pe,h.mf.me⟩
def lO(g:gR X (binaryOp op) r)(hr:MR K r m)(f:Pm K E X a ta fa)(d:Pm K E X b tb fb):Pm K E X (.BinOp a op b pos) (jN r ta tb) (cL m fa fb):=⟨tV g f.pe d.pe,og hr f.me d.me⟩
def uz(K:W.Frag):R2:=λx y H Q=>(qR λi j=>.int (i+j)) x y H Q\/(∃i j,x=.str i/\y=.str j/\i.length+j.length<=sizeLine/\Q (.str (i++j)) H)\/yA x y H Q\/
 ∃a b d f,x=.ref a/\y=.ref b/\H a=some (.tup d)/\H b=some (.tup f)/\d.length+f.length<=sizeLine/\(d=[]->Q (.ref b) H)/\(d≠[]->f=[]->Q (.ref a) H)/\(d≠[]->f≠[]->∀p,H p=none->Q (.ref p) (c6 H p (.tup (d++f))))
def vD(N:X.K=K:=by rfl):gR X (binaryOp .Add) (uz K):=by
 subst N;intro i s g H x y v u Q I d f h;rcases h with h|h|h|h
 .exact zC i s g H x y v u Q I d f h
 .exact pk i s g H x y v u Q I d f h
 .exact sO i s g H x y v u Q I d f h
 .obtain⟨a,b,m,ys,rfl,rfl,r,q,z,Z,U,B⟩:=h;by_cases j:m=[]
  .subst j;cases d;cases f;obtain⟨its,Y,S,_⟩:=I.tuple (fY.of r);obtain⟨t,r2,p2,_⟩:=I.tuple (fY.of q);cases Y;obtain⟨⟨c1,A,e1,C⟩,n,L,R,l⟩:=id S;obtain⟨⟨c2,P,e2,D⟩,g2,G,J,k⟩:=id p2;subst L l G k;exact concat_meets ⟨_,n,rfl⟩ ⟨_,g2,rfl⟩ noFill_tuple_add seq_tuple_add PySem.F.slot_tuple_add PySem.F.entry_tuple_add (PySem.F.args_tuple_add_2 _ _) (tuple_addW0 a b _ _ R J A P C D (by simp)) ⟨n,g2,⟨.ref b,H,I,rfl,Z rfl⟩⟩
  .exact xk i s g H _ _ v u Q I d f ⟨a,b,m,ys,rfl,rfl,fY.of r,fY.of q,j,z,λe=>U j e,λe p w=>B j e p w⟩
noncomputable def cT:T->T->M T
 |.int i,.int j=>.ok (.int (i+j))
 |.str i,.str j=>if i.length+j.length<=sizeLine then .ok (.str (i++j)) else .bad
 |.lst a,.lst b=>if a.length+b.length<=sizeLine then .ok (.lst (a++b)) else .bad
 |.tup a,.tup b=>if a.length+b.length<=sizeLine then .ok (.tup (a++b)) else .bad
 |_,_=>.bad
def wW x y:M.NoE (cT x y):=λC n=>by unfold cT;split<;>first|(intro z;cases z;done)|(split<;>intro z<;>cases z)
def xm:MR K (uz K) cT:=⟨wW,λF H v w x y Q s r l q=>by
 cases r with
 |int i=>
  cases l with
  |int j=>exact .inl ⟨i,j,rfl,rfl,kV.now q s (.int _)⟩
  |_=>exact q.elim
 |str i=>
  cases l with
  |str j=>
   have d:(if i.length+j.length<=sizeLine then M.ok (T.str (i++j)) else M.bad).res (kV K F H Q) (λ_ _=>False):=q;by_cases h:i.length+j.length<=sizeLine
   .rw[aO h]at d;exact .inr (.inl ⟨i,j,rfl,rfl,h,kV.now d s (.str _)⟩)
   .rw[aP h]at d;exact d.elim
  |_=>exact q.elim
 |lst h1 r1=>
  cases l with
  |lst h2 r2=>
   rename_i a m g b n f;have d:(if g.length+f.length<=sizeLine then M.ok (T.lst (g++f)) else M.bad).res (kV K F H Q) (λ_ _=>False):=q;by_cases h:g.length+f.length<=sizeLine
   .rw[aO h]at d;refine .inr (.inr (.inl ⟨a,b,m,n,rfl,rfl,s _ _ h1,s _ _ h2,by rw[r1.length,r2.length];exact h,λp k=>?_⟩));exact d (.ref p) _ _ (.new s k) (.lst cy ((r1.append r2).mono (Gr.new s k).ff))
   .rw[aP h]at d;exact d.elim
  |_=>exact q.elim
 |tup h1 r1=>
  cases l with
  |tup h2 r2=>
   rename_i a m g b n f;have d:(if g.length+f.length<=sizeLine then M.ok (T.tup (g++f)) else M.bad).res (kV K F H Q) (λ_ _=>False):=q;by_cases h:g.length+f.length<=sizeLine
   .rw[aO h]at d;refine .inr (.inr (.inr ⟨a,b,m,n,rfl,rfl,s _ _ h1,s _ _ h2,by rw[r1.length,r2.length];exact h,λe=>?_,λ_ e=>?_,λ_ _ p k=>?_⟩))
    .subst e;cases r1;exact kV.now d s (.tup h2 r2)
    .subst e;cases r2;exact kV.now d s (.tup h1 (by rw[bw];exact r1))
    .exact d (.ref p) _ _ (.new s k) (.tup cy ((r1.append r2).mono (Gr.new s k).ff))
   .rw[aP h]at d;exact d.elim
  |_=>exact q.elim
 |_=>exact q.elim⟩
def jo(f:Pm K E X a ta fa)(d:Pm K E X b tb fb)(g:X.K=K:=by rfl):Pm K E X (.BinOp a .Add b pos) (jN (uz K) ta tb) (cL cT fa fb):=lO (vD g) xm f d
@[simp] noncomputable def gG(fa fb:Pe->M T):Pe->M (List T):=λd=>(fa d).bind λx=>(fb d).bind λy=>match x,y with
 |.lst a,.lst b=>if a.length+b.length<=sizeLine then .ok (a++b) else .bad
 |_,_=>.bad
def kb(r:Pm K E X a ta fa)(n:Pm K E X b tb fb):uW K E X (.BinOp a .Add b pos) (jN yA ta tb) (gG fa fb):=by
 refine⟨tV sO r.pe n.pe,λF H G J Q s V q=>?_⟩;refine r.me.run s V q λx v I D i z A=>?_;refine n.me.run i.fh (V.mono i.ff) A λy w m u g2 B l=>?_;cases z with
 |lst h1 t1=>
  cases B with
  |lst h2 t2=>
   rename_i a t k b C j;have f:(if k.length+j.length<=sizeLine then M.ok (k++j) else M.bad).res (kF K F H Q) (kE E m u):=l;by_cases h:k.length+j.length<=sizeLine
   .rw[aO h]at f;refine⟨a,b,t,C,rfl,rfl,g2.fh _ _ (g2.ff _ _ h1),g2.fh _ _ h2,by rw[t1.length,t2.length];exact h,λp g=>?_⟩;have d:=i.trans g2;exact f p _ m _ (d.trans (.new' g2.fh g)) (cN d.hh g) (cN g2.fh g) cy ((t1.mono g2.ff).append t2)
   .rw[aP h]at f;exact f.elim
  |_=>exact l.elim
 |_=>exact l.elim
instance {i j:Int}:Decidable (PySem.IntMulOk i j):=inferInstanceAs (Decidable (¬_))
noncomputable def jk:T->T->M T:=eQ (λi j=>decide (PySem.IntMulOk i j)) λi j=>.int (i*j)
def sg(f:Pm K E X a ta fa)(d:Pm K E X b tb fb):Pm K E X (.BinOp a .Mult b pos) (jN (rI (λi j=>PySem.IntMulOk i j) λi j=>.int (i*j)) ta tb) (cL jk fa fb):=lO wu (mV (λi j h=>of_decide_eq_true h) λ_ _ _=>.int _) f d
noncomputable def lZ:T->T->M T:=eQ (λi j=>decide (j≠0)&&!Builtin.divisionGoesByPylong i j) λi j=>.int (i.fdiv j)
def vt(f:Pm K E X a ta fa)(d:Pm K E X b tb fb):Pm K E X (.BinOp a .FloorDiv b pos) (jN (rI (λi j=>j≠0/\Builtin.divisionGoesByPylong i j=false) λi j=>.int (i.fdiv j)) ta tb) (cL lZ fa fb):=lO sd (mV (λi j h=>by simpa using h) λ_ _ _=>.int _) f d
noncomputable def kY:T->T->M T:=eQ (λ_ j=>decide (j≠0)) λi j=>.int (i.fmod j)
def yd(f:Pm K E X a ta fa)(d:Pm K E X b tb fb):Pm K E X (.BinOp a .Mod b pos) (jN (rI (λ_ j=>j≠0) λi j=>.int (i.fmod j)) ta tb) (cL kY fa fb):=lO xj (mV (λi j h=>by simpa using h) λ_ _ _=>.int _) f d
noncomputable def wd:T->T->M T:=eQ (λi j=>decide (0<=j)&&decide (j<=1000000)&&decide (i.natAbs<18446744073709551616)) λi j=>.int (i ^ j.toNat)
def y0(f:Pm K E X a ta fa)(d:Pm K E X b tb fb):Pm K E X (.BinOp a .Pow b pos) (jN (rI AO λi j=>.int (i ^ j.toNat)) ta tb) (cL wd fa fb):=lO zH (mV (λi j h=>by simp only[bF,decide_eq_true_eq]at h;exact⟨h.1.1,h.1.2,h.2⟩) λ_ _ _=>.int _) f d
def yq(d:Pm K E X a ta fa):Pm K E X (.UnaryOp .USub a pos) (B8 (rU λi=>.int (-i)) ta) (Bz (λi=>.int (-i)) fa):=⟨A2 yQ d.pe,Bv (λ_ _=>.int _) d.me⟩
@[simp] noncomputable def AG(fa fb:Pe->M T):Pe->M (List T):=λd=>(fa d).bind λx=>(fb d).bind λy=>match x,y with
 |.lst a,.int k=>if xQ k=true/\a.length*k.toNat<=sizeLine then .ok (List.replicate k.toNat a).flatten else .bad
 |_,_=>.bad
def zj(r:Pm K E X a ta fa)(n:Pm K E X b tb fb):uW K E X (.BinOp a .Mult b pos) (jN Bh ta tb) (AG fa fb):=by
 refine⟨tV yk r.pe n.pe,λF H D I Q s V q=>?_⟩;refine r.me.run s V q λx v G C i z A=>?_;refine n.me.run i.fh (V.mono i.ff) A λy w m u g2 B l=>?_;cases z with
 |lst h1 t1=>
  cases B with
  |int k=>
   rename_i a t j;have f:(if xQ k=true/\j.length*k.toNat<=sizeLine then M.ok (List.replicate k.toNat j).flatten else M.bad).res (kF K F H Q) (kE E m u):=l;by_cases h:xQ k=true/\j.length*k.toNat<=sizeLine
   .rw[aO h]at f;refine⟨a,k,t,rfl,rfl,g2.fh _ _ (g2.ff _ _ h1),by have:=jM h.1;rw[Ck]at this;rw[De];omega,by have:=jM h.1;rw[Ck]at this;rw[De];omega,by rw[t1.length];exact h.2,λp g=>?_⟩;have d:=i.trans g2;exact f p _ m _ (d.trans (.new' g2.fh g)) (cN d.hh g) (cN g2.fh g) cy ((t1.mono g2.ff).rep k.toNat)
   .rw[aP h]at f;exact f.elim
  |_=>exact l.elim
 |_=>exact l.elim
def iv(h:Pm K E X e te fe)(f:∀d,isTrue e X.env d=(do let v <-d;standAt e.pos;holding [v] (truthy v)):=by intro _;rfl):oX K E X e (tB te) (fu fe):=⟨iE h.pe f,sy h.me⟩
section
variable {tA tD:TT}{fA fD:Pe->M Bool}{c8:List Expr}
def eY(h:oX K E X a tA fA):oX K E X (.UnaryOp .Not a pos) (xl tA) (iK fA):=⟨ki h.pt,z0 h.mt⟩
def nI(h:zV K E X a tA fA):oX K E X a tA fA:=⟨PW.pt h.pw,h.mt⟩
def si(h:oX K E X a tA fA):zV K E X (.BoolOp .And [a] pos) tA fA:=⟨mJ h.pt,h.mt⟩
def fM(h:oX K E X a tA fA):zV K E X (.BoolOp .Or [a] pos) tA fA:=⟨zk h.pt,h.mt⟩
def vp(h:oX K E X a tA fA)(h':zV K E X (.BoolOp .And (b::c8) pos) tD fD):zV K E X (.BoolOp .And (a::b::c8) pos) (ue tA tD) (oN fA fD):=⟨j9 h.pt h'.pw,zU h.mt h'.mt⟩
def gX(h:oX K E X a tA fA)(h':zV K E X (.BoolOp .Or (b::c8) pos) tD fD):zV K E X (.BoolOp .Or (a::b::c8) pos) (B3 tA tD) (rO fA fD):=⟨An h.pt h'.pw,A4 h.mt h'.mt⟩
def jT{op}(h:Pm K E X a ta fa):Pm K E X (.BoolOp op [a] pos) ta fa:=⟨sM h.pe,h.me⟩
def mM(h:Pm K E X a ta fa)(h':Pm K E X (.BoolOp .And (b::c8) pos) tb fb):Pm K E X (.BoolOp .And (a::b::c8) pos) (tN ta tb) (oA fa fb):=⟨zy h.pe h'.pe,vn h.me h'.me⟩
def Bg(h:Pm K E X a ta fa)(h':Pm K E X (.BoolOp .Or (b::c8) pos) tb fb):Pm K E X (.BoolOp .Or (a::b::c8) pos) (wc ta tb) (Cg fa fb):=⟨xD h.pe h'.pe,zf h.me h'.me⟩
def oJ(h:Pm K E X a ta fa):Pm K E X (.UnaryOp .Not a pos) (qu ta) (vx fa):=⟨rZ h.pe,wo h.me⟩
def As(h:oX K E X c tA fA)(f:Pm K E X a ta fa)(d:Pm K E X b tb fb):Pm K E X (.IfExp c a b pos) (BQ tA ta tb) (CH fA fa fb):=⟨ny h.pt f.pe d.pe,Bm h.mt f.me d.me⟩
end
def ou(g:gR X (compareOp op) r)(hr:MR K r m)(f:Pm K E X a ta fa)(d:Pm K E X b tb fb)(h:behindInMarks op b=false:=by exact jg _):Pm K E X (.Compare a [op] [b] pos) (jN r ta tb) (cL m fa fb):=⟨mO g f.pe d.pe h,og hr f.me d.me⟩
def ey(g:gR X (compareOp op) r)(hr:MR K r m)(f:Pm K E X a ta fa)(d:Pm K E X b tb fb)(h:behindInMarks op b=false:=by exact jg _):oX K E X (.Compare a [op] [b] pos) (kn (jN r ta tb)) (fu (cL m fa fb)):=⟨vX g f.pe d.pe h,pL (og hr f.me d.me)⟩
noncomputable def Cf:T->T->M T:=eQ (λ_ _=>true) λi j=>.bl (decide (i<j))
noncomputable def Ah:T->T->M T:=eQ (λ_ _=>true) λi j=>.bl (decide (i<=j))
noncomputable def Bd:T->T->M T:=eQ (λ_ _=>true) λi j=>.bl (decide (j<i))
noncomputable def BS:T->T->M T:=eQ (λ_ _=>true) λi j=>.bl (decide (j<=i))
def xO:MR K (qR λi j=>.bl (decide (i<j))) Cf:=jH λ_ _ _=>.bl _
def nB:MR K (qR λi j=>.bl (decide (i<=j))) Ah:=jH λ_ _ _=>.bl _
def um:MR K (qR λi j=>.bl (decide (j<i))) Bd:=jH λ_ _ _=>.bl _
def tG:MR K (qR λi j=>.bl (decide (j<=i))) BS:=jH λ_ _ _=>.bl _
@[simp] noncomputable def Bt(m f:T->T->M T)(fa fb fc:Pe->M T):Pe->M T:=λd=>(fa d).bind λx=>(fb d).bind λy=>(m x y).bind λz=>match z with
 |.bl true=>(fc d).bind λw=>f y w
 |.bl false=>.ok (.bl false)
 |_=>.bad
def nh(hr:MR K r m)(f:MR K r' m')(L:ME K E ta fa)(I:ME K E tb fb)(G:ME K E tc fc):ME K E (j6 r r' ta tb tc) (Bt m m' fa fb fc):=λF H σ ρ Q s V q=>by
 refine L.run s V q λx v F1 H1 j P U=>?_;refine I.run j.fh (V.mono j.ff) U λy w C B g2 t R=>?_;refine hr.ok C B v w x y _ g2.fh (P.mono g2.ff) t (((M.res.unb R).ne (hr.ne x y)).mono (λz h v3 Y S g Z=>?_) λ_ _ z=>z);have d:=(j.trans g2).trans g;cases Z with
 |bl k=>
  refine⟨k,rfl,?_⟩;cases k with
  |true=>rw[aO rfl];have i:=h.mono (λ_ z=>z) λ_ _ z=>z.go g;refine G.run g.fh (V.mono d.ff) i λn N D J l A u=>?_;exact f.ok D J w N y n Q l.fh (t.mono (g.ff.trans l.ff)) A ((u.ne (f.ne y n)).mono (λ_ z=>z.go (d.trans l)) λ_ _ z=>z)
  |false=>rw[aP aF];exact h _ Y S d (.bl _)
 |_=>exact h.elim
def sW(j:gR X (compareOp op) r)(hr:MR K r m)(f:gR X (compareOp op') r')(d:MR K r' m')(i:Pm K E X a ta fa)(g:Pm K E X b tb fb)(h:Pm K E X c tc fc)
  (k:lastMarks [op,op'] [b,c]=false:=by with_unfolding_all rfl):Pm K E X (.Compare a [op,op'] [b,c] pos) (j6 r r' ta tb tc) (Bt m m' fa fb fc):=⟨se j f i.pe g.pe h.pe k,nh hr d i.me g.me h.me⟩
def rg(j:gR X (compareOp op) r)(hr:MR K r m)(f:gR X (compareOp op') r')(d:MR K r' m')(i:Pm K E X a ta fa)(g:Pm K E X b tb fb)(h:Pm K E X c tc fc)
  (k:lastMarks [op,op'] [b,c]=false:=by with_unfolding_all rfl):oX K E X (.Compare a [op,op'] [b,c] pos) (kn (j6 r r' ta tb tc)) (fu (Bt m m' fa fb fc)):=⟨sm j f i.pe g.pe h.pe k,pL (nh hr d i.me g.me h.me)⟩
mutual
noncomputable def ku:T->Bool
 |.str x=>PyData.canLay0 (.str x)
 |.lst ts=>oV ts
 |.tup ts=>oV ts
 |.scr _=>false
 |.obj _ _=>false
 |.emp=>false
 |.dic _=>false
 |_=>true
noncomputable def oV:List T->Bool
 |[]=>true
 |t::ts=>ku t&&oV ts
end
mutual
def rX:T->PyData
 |.non=>.none
 |.bl b=>.bool b
 |.int i=>.int i
 |.str x=>.str x
 |.lst ts=>.list (qC ts)
 |.tup ts=>.tuple (qC ts)
 |.scr _=>.none
 |.obj _ _=>.none
 |.emp=>.none
 |.dic _=>.none
def qC:List T->List PyData
 |[]=>[]
 |t::ts=>rX t::qC ts
end
mutual
theorem sU{F:Hp}:∀{v:V} {t:T},eM K F v t->ku t=true->DV K F v (rX t)
 |_,_,.non,_=>.non
 |_,_,.bl b,_=>.bl b
 |_,_,.int i,_=>.int i
 |_,_,.str x,_=>.str x
 |_,_,.lst h r,l=>.lst (fX.of h) (oW r (by simpa[ku] using l))
 |_,_,.tup h r,l=>.tup (fY.of h) (oW r (by simpa[ku] using l))
 |_,_,.scr _,l=>by simp[ku]at l
 |_,_,.obj _ _,l=>by simp[ku]at l
 |_,_,.emp _,l=>by simp[ku]at l
 |_,_,.dic _ _,l=>by simp[ku]at l
theorem oW{F:Hp}:∀{b:List V} {a:List T},cE K F b a->oV a=true->nu K F b (qC a)
 |_,_,.nil,_=>.nil
 |_,_,.cons h r,l=>by rw[oV,bF]at l;exact .cons (sU h l.1) (oW r l.2)
end
mutual
theorem mL:∀t,ku t=true->(rX t).canLay0=true
 |.non,_=>rfl
 |.bl b,_=>rfl
 |.int i,_=>rfl
 |.str x,h=>by simpa[ku,rX] using h
 |.lst ts,h=>by rw[rX,PyData.canLay0];exact j7 ts (by simpa[ku] using h)
 |.tup ts,h=>by rw[rX,PyData.canLay0];exact j7 ts (by simpa[ku] using h)
 |.scr _,h=>by simp[ku]at h
 |.obj _ _,h=>by simp[ku]at h
 |.emp,h=>by simp[ku]at h
 |.dic _,h=>by simp[ku]at h
theorem j7:∀a,oV a=true->PyData.canLayAll0 (qC a)=true
 |[],_=>rfl
 |t::a,h=>by rw[oV,bF]at h;rw[qC,PyData.canLayAll0,mL t h.1,j7 a h.2];rfl
end
noncomputable def BB(x y:T):Bool:=(rX x).eqv (rX y)
noncomputable def Ag(t:T):Nat:=(rX t).depth
@[simp] theorem BA i:Ag (.int i)=0:=rfl
@[simp] theorem Ci i:Ag (.bl i)=0:=rfl
@[simp] theorem BG i:Ag (.str i)=0:=rfl
@[simp] theorem BR:Ag .non=0:=rfl
@[simp] theorem BN i j:BB (.int i) (.int j)=(i==j):=rfl
@[simp] theorem BZ i j:BB (.str i) (.str j)=(i==j):=rfl
noncomputable def dH(a:Bool):T->T->M T:=λx y=>if ku x&&ku y&&decide (Ag x<=100) then .ok (.bl (if a then !BB x y else BB x y)) else .bad
mutual
theorem DV.same{F H:Hp}(s:cC F H):∀{v:V} {d:PyData},DV K F v d->DV K H v d
 |_,_,.non=>.non
 |_,_,.bl b=>.bl b
 |_,_,.int i=>.int i
 |_,_,.str x=>.str x
 |_,_,.lst h r=>.lst (s.seq h) (nu.same s r)
 |_,_,.tup h r=>.tup (s.seqT h) (nu.same s r)
theorem nu.same{F H:Hp}(s:cC F H):∀{v:List V} {d:List PyData},nu K F v d->nu K H v d
 |_,_,.nil=>.nil
 |_,_,.cons h r=>.cons (DV.same s h) (nu.same s r)
end
def vj x y:M.NoE (dH neg x y):=λC n=>by unfold dH;split<;>exact λz=>nomatch z
def qx(a:Bool):MR K (px K a) (dH a):=⟨vj,λF H v w x y Q s b c q=>by
 unfold dH at q;by_cases h:(ku x&&ku y&&decide (Ag x<=100))=true
 .rw[aO h]at q;simp only[bF,decide_eq_true_eq]at h;refine⟨rX x,rX y,DV.same s (sU b h.1.1),DV.same s (sU c h.1.2),⟨mL x h.1.1,mL y h.1.2,by exact h.2⟩,?_⟩;exact kV.now q s (.bl _)
 .rw[aP h]at q;exact q.elim⟩
def qa{k:Nat}(hr:dh k X.A)(e:Pm K E X a ta fa)(c:Pm K E X b tb fb)(f:X.K=K:=by rfl)(d:behindInMarks .Eq b=false:=by exact jg _):Pm K E X (.Compare a [.Eq] [b] pos) (jN (px K false) ta tb) (cL (dH false) fa fb):=ou (f▸uy (BE hr)) (qx false) e c d
def xE{k:Nat}(hr:dh k X.A)(e:Pm K E X a ta fa)(c:Pm K E X b tb fb)(f:X.K=K:=by rfl)(d:behindInMarks .NotEq b=false:=by exact jg _):Pm K E X (.Compare a [.NotEq] [b] pos) (jN (px K true) ta tb) (cL (dH true) fa fb):=ou (f▸rT (BE hr)) (qx true) e c d
def pb{k:Nat}(hr:dh k X.A)(e:Pm K E X a ta fa)(c:Pm K E X b tb fb)(f:X.K=K:=by rfl)(d:behindInMarks .Eq b=false:=by exact jg _):oX K E X (.Compare a [.Eq] [b] pos) (kn (jN (px K false) ta tb)) (fu (cL (dH false) fa fb)):=ey (f▸uy (BE hr)) (qx false) e c d
def j1{k:Nat}(hr:dh k X.A)(e:Pm K E X a ta fa)(c:Pm K E X b tb fb)(f:X.K=K:=by rfl)(d:behindInMarks .NotEq b=false:=by exact jg _):oX K E X (.Compare a [.NotEq] [b] pos) (kn (jN (px K true) ta tb)) (fu (cL (dH true) fa fb)):=ey (f▸rT (BE hr)) (qx true) e c d
end
end L3
namespace L3
open PySem L2 PySem.Spec PyProof.Rows
section
variable {K:W.Frag}{E:XK}{X:Cx}{a b c e o tg it:Expr}{es:List Expr}{ta tb tc te to:TE}{fa fb fc fe fo:Pe->M T}{tr:TA}{fr:Pe->M (List T)}{pos p p2 apos:Pos}
def cX:pQ K E X [] ib cw:=⟨eK,yJ⟩
def cz(d:Pm K E X e te fe)(hr:pQ K E X es tr fr)(f:starEach (e::es) X.env=(false,eval e X.env)::starEach es X.env:=by rfl):pQ K E X (e::es) (dQ te tr) (cm fe fr):=⟨cS d.pe hr.pa f,vQ d.me hr.ma⟩
def ti{x1}(h:pQ K E X es tr fr):Pm K E X (.Tuple es x1 pos) (vZ tr) (rq fr):=⟨rS h.pa,yT h.ma⟩
def kj(h:pQ K E X es tr fr):uW K E X (.List es pos) (yb tr) (lstM fr):=⟨yS h.pa,yO h.ma⟩
structure MC(K:W.Frag)(r:List V->Hp->VK->Prop)(o:List T->M T):Prop where
 ne:∀xs,M.NoE (o xs)
 ok:∀F H vs xs Q,cC F H->cE K F vs xs->(o xs).res (kV K F H Q) (λ_ _=>False)->r vs H Q
@[simp] noncomputable def ig(o:List T->M T)(fr:Pe->M (List T)):Pe->M T:=λd=>(fr d).bind o
def xY{o:List T->M T}(f:MC K r o)(k:MA K E tr fr):ME K E (vb r tr) (ig o fr):=λF H n t Q s V q=>by refine k.run s V q λd h j i g l m=>?_;exact f.ok j i h d Q g.fh l ((m.ne (f.ne d)).mono (λ_ z=>z.go g) λ_ _ z=>z)
section
variable {x:Str}{id T':String}{r:List V->Hp->VK->Prop}{m:List T->M T}{mf:List T->M (List T)}
def cR(k:eN X (.builtin id) r)(g:MC K r m)(q:Gl X x)(l:X.mg x=none)(i:bootBuiltins x=some (.builtin id))(h:pQ K E X (e::es) tr fr)(j:x≠ "__name__" :=by decide)(f:(x==("__debug__" : Str))=false:=by decide)
  (n:starEach (e::es) X.env=(false,eval e X.env)::starEach es X.env:=by rfl) (d:(backTo pos (starEach es X.env)).any (·.1)=false:=by rfl):Pm K E X (.Call (.Name x p) (e::es) [] pos) (vb r tr) (ig m fr):=⟨e8 k q l i h.pa j f n d,xY g h.ma⟩
def dw(k:eN X (.type T') r)(g:MC K r m)(q:Gl X x)(l:X.mg x=none)(i:bootBuiltins x=some (.type T'))(h:pQ K E X (e::es) tr fr)(j:x≠ "__name__" :=by decide)(f:(x==("__debug__" : Str))=false:=by decide)
  (n:starEach (e::es) X.env=(false,eval e X.env)::starEach es X.env:=by rfl) (d:(backTo pos (starEach es X.env)).any (·.1)=false:=by rfl):Pm K E X (.Call (.Name x p) (e::es) [] pos) (vb r tr) (ig m fr):=⟨qL k q l i h.pa j f n d,xY g h.ma⟩
end
@[simp] noncomputable def ji:List T->M T
 |[.lst ts]=>.ok (.int ts.length)
 |[.tup ts]=>.ok (.int ts.length)
 |[.scr ns]=>.ok (.int ns.length)
 |[.str z]=>if z.length<=sizeLine then .ok (.int z.length) else .bad
 |_=>.bad
def v8 xs:M.NoE (ji xs):=λC n=>by unfold ji;split<;>first|(intro z;cases z;done)|(split<;>first|(intro z;cases z;done)|(split<;>intro z<;>cases z))
def fK:MC K (λg H Q=>∃x n,g=[x]/\yE K x H n/\Q (.int n) H) ji:=⟨v8,λF H i g Q s r q=>by
 cases r with
 |nil=>exact q.elim
 |cons h t=>
  cases t with
  |cons _ _=>cases h<;>exact q.elim
  |nil=>
   cases h with
   |lst h r=>exact⟨_,_,rfl,.inl ⟨_,fX.of (s _ _ h),rfl⟩,by rw[r.length];exact kV.now q s (.int _)⟩
   |tup h r=>exact⟨_,_,rfl,.inr ⟨_,fY.of (s _ _ h),rfl⟩,by rw[r.length];exact kV.now q s (.int _)⟩
   |scr h=>exact⟨_,_,rfl,.inl ⟨_,s.seq h,rfl⟩,by rw[av];exact kV.now q s (.int _)⟩
   |str z=>
    have d:(if z.length<=sizeLine then M.ok (T.int z.length) else M.bad).res (kV K F H Q) (λ_ _=>False):=q;by_cases f:z.length<=sizeLine
    .rw[aO f]at d;exact⟨_,z.length,rfl,⟨f,rfl⟩,kV.now d s (.int _)⟩
    .rw[aP f]at d;exact d.elim
   |_=>exact q.elim⟩
@[simp] noncomputable def xu:List T->M T
 |[.int i]=>.ok (.int (if i<0 then -i else i))
 |_=>.bad
def vK xs:M.NoE (xu xs):=λC n=>by unfold xu;split<;>first|(intro z;cases z;done)|(split<;>first|(intro z;cases z;done)|(split<;>intro z<;>cases z))
def uE:MC K (λd H Q=>∃i,d=[.int i]/\Q (.int (if i<0 then -i else i)) H) xu:=⟨vK,λF H f d Q s r q=>by
 cases r with
 |nil=>exact q.elim
 |cons h t=>
  cases t with
  |cons _ _=>cases h<;>exact q.elim
  |nil=>
   cases h with
   |int i=>exact⟨i,rfl,kV.now q s (.int _)⟩
   |_=>exact q.elim⟩
@[simp] noncomputable def nS:List T->M T
 |[.int i]=>.ok (.int i)
 |[.bl k]=>.ok (.int (if k then 1 else 0))
 |_=>.bad
def tq xs:M.NoE (nS xs):=λC n=>by unfold nS;split<;>first|(intro z;cases z;done)|(split<;>first|(intro z;cases z;done)|(split<;>intro z<;>cases z))
def pN:MC K (λd H Q=>(∃i,d=[.int i]/\Q (.int i) H)\/∃k,d=[.bl k]/\Q (.int (if k then 1 else 0)) H) nS:=⟨tq,λF H f d Q s r q=>by
 cases r with
 |nil=>exact q.elim
 |cons h t=>
  cases t with
  |cons _ _=>cases h<;>exact q.elim
  |nil=>
   cases h with
   |int i=>exact .inl ⟨i,rfl,kV.now q s (.int _)⟩
   |bl k=>exact .inr ⟨k,rfl,kV.now q s (.int _)⟩
   |_=>exact q.elim⟩
@[simp] noncomputable def fQ:List T->M T
 |[.lst ts]=>.ok (.tup ts)
 |[.tup ts]=>.ok (.tup ts)
 |[.scr ns]=>.ok (.tup (ns.map T.int))
 |_=>.bad
def oQ xs:M.NoE (fQ xs):=λC n=>by unfold fQ;split<;>first|(intro z;cases z;done)|(split<;>first|(intro z;cases z;done)|(split<;>intro z<;>cases z))
def fC:MC K (λg H Q=>∃p f,g=[.ref p]/\((fX K H p f/\∀l,H l=none->Q (.ref l) (c6 H l (.tup f)))\/(fY K H p f/\Q (.ref p) H))) fQ:=⟨oQ,λF H i g Q s r q=>by
 cases r with
 |nil=>exact q.elim
 |cons h t=>
  cases t with
  |cons _ _=>cases h<;>exact q.elim
  |nil=>
   cases h with
   |lst h r=>exact⟨_,_,rfl,.inl ⟨fX.of (s _ _ h),λl d=>q (.ref l) _ _ (.new s d) (.tup cy (r.mono (Gr.new s d).ff))⟩⟩
   |scr h=>exact⟨_,_,rfl,.inl ⟨s.seq h,λl d=>q (.ref l) _ _ (.new s d) (.tup cy (cE.of_ints _))⟩⟩
   |tup h r=>exact⟨_,_,rfl,.inr ⟨fY.of (s _ _ h),kV.now q s (.tup h r)⟩⟩
   |_=>exact q.elim⟩
def jx:List T->Option (List Bool)
 |[]=>some []
 |.bl i::ts=>(jx ts).bind λr=>some (i::r)
 |_::_=>none
theorem lN:∀{ts} {ns},jx ts=some ns->ts=ns.map T.bl
 |[],_,e=>by cases e;rfl
 |t::ts,ns,e=>by
  cases t with
  |bl i=>
   cases q:jx ts with
   |none=>simp[jx,q]at e
   |some r=>simp[jx,q]at e;subst e;rw[lN q];rfl
  |_=>cases e
@[simp] noncomputable def pE:List T->M T
 |[.lst ts]=>match jx ts with
  |some ns=>.ok (.bl (ns.all id))
  |none=>.bad
 |_=>.bad
def vk xs:M.NoE (pE xs):=λC n=>by unfold pE;split<;>first|(intro z;cases z;done)|(split<;>first|(intro z;cases z;done)|(split<;>intro z<;>cases z))
def j3:MC K (λf H Q=>∃(p:Addr) (bs:List Bool),f=[.ref p]/\fX K H p (bs.map V.bl)/\Q (.bl (bs.all id)) H) pE:=⟨vk,λF H i f Q s r q=>by
 cases r with
 |nil=>exact q.elim
 |cons h t=>
  cases t with
  |cons _ _=>cases h<;>exact q.elim
  |nil=>
   cases h with
   |lst h r=>
    rename_i a f g;have d:(match jx g with|some ns=>M.ok (T.bl (ns.all id))|none=>M.bad).res (kV K F H Q) (λ_ _=>False):=q;cases e:jx g with
    |none=>rw[e]at d;exact d.elim
    |some ns=>rw[e]at d;rw[lN e]at r;have:=r.bls;subst this;exact⟨a,ns,rfl,fX.of (s _ _ h),kV.now d s (.bl _)⟩
   |_=>exact q.elim⟩
@[simp] noncomputable def Af:T->String
 |.non=> "NoneType"
 |.bl _=> "bool"
 |.int _=> "int"
 |.str _=> "str"
 |.tup _=> "tuple"
 |.lst _=> "list"
 |.scr _=> "script"
 |.obj _ _=> "object"
 |.emp=> "dict"
 |.dic _=> "table"
@[simp] noncomputable def Am(n:String)(x:T):M T:=match x with
 |.scr _=>.bad
 |.obj _ _=>.bad
 |.dic _=>.bad
 |x=>.ok (.bl (Af x==n||(n == "int" && Af x == "bool")))
def AN(r:eM K F v x)(s:cC F H)(j:∀ns,x≠.scr ns)(f:∀C fs,x≠.obj C fs)(d:∀g,x≠.dic g):gU K H v (.type (Af x)):=by
 cases r with
 |non=>exact .non
 |bl b=>exact .bl b
 |int i=>exact .int i
 |str x=>exact .str x
 |tup h r=>exact .tup (s _ _ h)
 |lst h r=>exact .lst (s _ _ h)
 |scr h=>exact absurd rfl (j _)
 |obj h r=>exact absurd rfl (f _ _)
 |emp h=>exact .dK (s _ _ h)
 |dic h r=>exact absurd rfl (d _)
@[simp] noncomputable def pz(n:String)(fe:Pe->M T):Pe->M T:=λd=>(fe d).bind λx=>Am n x
theorem zG(w:∀t∈["NoneType", "bool", "int", "str", "tuple", "list", "dict"],W.kitOne K (.type t) (.type n)=some (t==n||(n == "int" && t == "bool")))(B:ME K E te fe) :
  ME K E (vb (λu H Q=>∃x T t b,u=[x,.ty T]/\gU K H x t/\W.kitOne K t (.type T)=some b/\Q (.bl b) H) (dQ te (dQ (tC (.ty n)) ib))) (pz n fe):=λF H G I Q s V q=>by
 refine B.run s V q λx v y j k D g=>?_;have d:∀b,Am n x=.ok (.bl b)->(∀h,x≠.scr h)->(∀C fs,x≠.obj C fs)->(∀i,x≠.dic i)->b=(Af x==n||(n == "int" && Af x == "bool"))->∃f T t b,[v,L2.V.ty n]=[f,.ty T]/\gU K j f t/\W.kitOne K t (.type T)=some b/\Q (.bl b) j:=by
  intro b e r m l A;rw[e]at g;refine⟨v,n,_,b,rfl,AN D k.fh r m l,?_,g _ y j k (.bl _)⟩;rw[A];refine w _ ?_;cases x with
  |scr h=>exact absurd rfl (r h)
  |obj C fs=>exact absurd rfl (m C fs)
  |dic i=>exact absurd rfl (l i)
  |_=>simp[Af]
 cases x with
 |scr h=>exact g.elim
 |obj C fs=>exact g.elim
 |dic i=>exact g.elim
 |non=>exact d _ rfl (λ_ z=>nomatch z) (λ_ _ z=>nomatch z) (λ_ z=>nomatch z) rfl
 |bl _=>exact d _ rfl (λ_ z=>nomatch z) (λ_ _ z=>nomatch z) (λ_ z=>nomatch z) rfl
 |int _=>exact d _ rfl (λ_ z=>nomatch z) (λ_ _ z=>nomatch z) (λ_ z=>nomatch z) rfl
 |str _=>exact d _ rfl (λ_ z=>nomatch z) (λ_ _ z=>nomatch z) (λ_ z=>nomatch z) rfl
 |tup _=>exact d _ rfl (λ_ z=>nomatch z) (λ_ _ z=>nomatch z) (λ_ z=>nomatch z) rfl
 |lst _=>exact d _ rfl (λ_ z=>nomatch z) (λ_ _ z=>nomatch z) (λ_ z=>nomatch z) rfl
 |emp=>exact d _ rfl (λ_ z=>nomatch z) (λ_ _ z=>nomatch z) (λ_ z=>nomatch z) rfl
def wY K:∀n∈["int", "bool", "str", "tuple", "list"],∀t∈["NoneType", "bool", "int", "str", "tuple", "list", "dict"],W.kitOne K (.type t) (.type n)=some (t==n||(n == "int" && t == "bool")):=by intro n f t d;simp only[aD,List.mem_nil_iff,or_false]at f d;rcases f with rfl|rfl|rfl|rfl|rfl<;>rcases d with rfl|rfl|rfl|rfl|rfl|rfl|rfl<;>rfl
def gH n (g:n∈["int", "bool", "str", "tuple", "list"]) (q:X.mg "isinstance" = none) (k:X.mg x=none) (d:bootBuiltins x=some (.type n)) (r:Pm K E X e te fe) (v:X.K=K:=by rfl) (l:Gl X "isinstance" :=by rfl) (j:Gl X x:=by rfl)
  (h:x≠ "__name__" :=by decide) (m:(x==("__debug__" : Str))=false:=by decide)
  (s:starEach [e,.Name x p3] X.env=(false,eval e X.env)::starEach [.Name x p3] X.env:=by rfl) (i:starEach [.Name x p3] X.env=(false,eval (.Name x p3) X.env)::starEach [] X.env:=by rfl) (f:(backTo pos (starEach [.Name x p3] X.env)).any (·.1)=false:=by rfl) :
  Pm K E X (.Call (.Name "isinstance" p) [e,.Name x p3] [] pos) (vb (λu H Q=>∃x T t b,u=[x,.ty T]/\gU K H x t/\W.kitOne K t (.type T)=some b/\Q (.bl b) H) (dQ te (dQ (tC (.ty n)) ib))) (pz n fe):=by
 subst v;exact⟨e8 sI l q iB (cS r.pe (cS (pT j k d rfl h m) eK i) s) (by decide) (by decide) s f,zG (wY X.K n g) r.me⟩
@[simp] noncomputable def iG:T->T->M T
 |.lst ts,.int i=>match kr ts i with
  |some t=>.ok t
  |none=>.bad
 |.tup ts,.int i=>match kr ts i with
  |some t=>.ok t
  |none=>.bad
 |.scr ns,.int i=>match kr ns i with
  |some t=>.ok (.int t)
  |none=>.bad
 |.str z,.int i=>if z.length<=sizeLine then (match kr z.cps.toList i with
  |some c=>.ok (.str ⟨#[c]⟩)
  |none=>.bad) else .bad
 |_,_=>.bad
def pM(r:cE K F vs ts)(h:kr ts i=some t):∃v,kr vs i=some v/\eM K F v t:=by
 unfold kr at h ⊢;rw[r.length];cases e:vW ts.length i with
 |none=>rw[e]at h;cases h
 |some j=>rw[e]at h;exact r.get h
def w9(f:α->β) l i:kr (l.map f) i=(kr l i).map f:=by
 unfold kr;rw[av];cases vW l.length i with
 |none=>rfl
 |some j=>simp
def yF x y:M.NoE (iG x y):=λC n=>by unfold iG;split<;>first|(intro z;cases z;done)|(split<;>first|(intro z;cases z;done)|(split<;>intro z<;>cases z))
def AZ:MR K (CC K) iG:=⟨yF,λF H v w x y Q s d f q=>by
 unfold iG at q;split at q
 .rename_i m i;rw[f.int_inv];obtain⟨a,g,rfl,h,r⟩:=d.lst_inv;split at q
  .rename_i t e;obtain⟨v,j,k⟩:=pM r e;exact .inl ⟨a,g,i,v,rfl,rfl,fX.of (s _ _ h),j,kV.now q s k⟩
  .exact q.elim
 .rename_i m i;rw[f.int_inv];obtain⟨a,g,rfl,h,r⟩:=d.tup_inv;split at q
  .rename_i t e;obtain⟨v,j,k⟩:=pM r e;exact .inr (.inl ⟨a,g,i,v,rfl,rfl,fY.of (s _ _ h),j,kV.now q s k⟩)
  .exact q.elim
 .rename_i n i;rw[f.int_inv];cases d with
  |scr h=>
   split at q
   .rename_i t e;exact .inl ⟨_,_,i,.int t,rfl,rfl,s.seq h,by rw[w9,e];rfl,kV.now q s (.int _)⟩
   .exact q.elim
 .rename_i z i;rw[f.int_inv];cases d with
  |str z=>
   split at q
   .rename_i l;split at q
    .rename_i c e;exact .inr (.inr ⟨z,i,c,rfl,rfl,l,e,kV.now q s (.str _)⟩)
    .exact q.elim
   .exact q.elim
 .exact q.elim⟩
def pV(f:Pm K E X a ta fa)(d:Pm K E X b tb fb)(g:mU b:=by intro _ _;rfl)(h:X.K=K:=by rfl):Pm K E X (.Subscript a b pos) (jN (CC K) ta tb) (cL iG fa fb):=⟨xN (h▸yg) f.pe d.pe g,og AZ f.me d.me⟩
def zM:BM K E X none pP (λ_=>.ok none):=⟨wF,λF H f d Q s V q=>q F H (.refl s)⟩
@[simp] noncomputable def qf(fe:Pe->M T):Pe->M (Option Int):=λd=>(fe d).bind λx=>match x with
 |.int i=>.ok (some i)
 |_=>.bad
def zu(h:Pm K E X e te fe):BM K E X (some e) (xG te) (qf fe):=⟨vz h.pe,λF H m l Q s V q=>by
 refine h.me.run s V q λx v k g j f d=>?_;cases f with
 |int i=>exact⟨i,rfl,d k g j⟩
 |_=>exact d.elim⟩
noncomputable def gn{g:Type}(d:List g)(f h:Oq Int):List g:=(d.drop (HT.sIx d.length 0 f)).take (HT.sIx d.length d.length h-HT.sIx d.length 0 f)
def yC xs lo hi:uU xs lo hi=gn xs lo hi:=rfl
def cE.cut(r:cE K F vs ts) lo hi:cE K F (gn vs lo hi) (gn ts lo hi):=by unfold gn;rw[r.length];exact (r.drop _).take _
def ua(f:α->β) l lo hi:gn (l.map f) lo hi=(gn l lo hi).map f:=by unfold gn;rw[av,List.map_take,List.map_drop]
section
variable {lo hi:Oq Expr}{tl th:TO}{fl fh:Pe->M (Option Int)}
def MO.run{k:Oq Int->M α}{P:α->Prop}(h:MO K E t f)(s:cC F H)(v:eF K F σ ρ)(r:((f ρ).bind k).res P (kE E F H))
  (j:∀x i d,Gr F H i d->(k x).res P (kE E i d)->Q x d):t σ H Q:=
 h F H σ ρ Q s v ((M.res.unb r).mono (λx q i d g=>j x i d g (q.mono (λ_ z=>z) λ_ _ z=>z.go g)) λ_ _ z=>z)
@[simp] noncomputable def wL(fe:Pe->M T)(fl fh:Pe->M (Option Int)):Pe->M T:=λd=>(fe d).bind λx=>(fl d).bind λl=>(fh d).bind λh=>match x with
 |.tup ts=>.ok (.tup (gn ts l h))
 |.lst ts=>.ok (.lst (gn ts l h))
 |.scr ns=>.ok (.lst ((gn ns l h).map T.int))
 |_=>.bad
def tX(w:Pm K E X e te fe)(n:BM K E X lo tl fl)(t:BM K E X hi th fh)(A:X.K=K:=by rfl):Pm K E X (.Subscript e (.Slice lo hi none p2) pos) (Dd (λx lo hi H Q=>Ay K x lo hi H Q\/(A9 K x lo hi H Q\/AX K x lo hi H Q)) te tl th) (wL fe fl fh):=by
 subst A;refine⟨uO (v5.or (yU.or xv)) w.pe n.po t.po,λF H R U Q s V q=>?_⟩;refine w.me.run s V q λx v S N k C G=>?_;refine n.mo.run k.fh (V.mono k.ff) G λl P L g2 D=>?_;refine t.mo.run g2.fh ((V.mono k.ff).mono g2.ff) D λu z y d j=>?_;have g:=(k.trans g2).trans d;have I:=C.mono (g2.ff.trans d.ff);cases I with
 |lst h r=>exact .inl ⟨_,_,rfl,fX.of (d.fh _ _ h),λp f=>j (.ref p) _ _ (g.trans (.new d.fh f)) (.lst cy ((r.cut l u).mono (Gr.new d.fh f).ff))⟩
 |scr h=>exact .inl ⟨_,_,rfl,d.fh.seq h,λp f=>j (.ref p) _ _ (g.trans (.new d.fh f)) (.lst cy (by rw[yC,ua];exact cE.of_ints _))⟩
 |tup h r=>
  rename_i a J i;have m:(M.ok (T.tup (gn i l u))).res (kV X.K F H Q) (kE E z y):=j;by_cases hw:HT.sIx i.length 0 l=0/\HT.sIx i.length i.length u=i.length
  .have B:gn i l u=i:=by unfold gn;rw[hw.1,hw.2];simp
   rw[B]at m;exact .inr (.inr ⟨_,_,rfl,fY.of (d.fh _ _ h),by rw[r.length];exact hw,m _ z y g (.tup h r)⟩)
  .exact .inr (.inl ⟨_,_,rfl,fY.of (d.fh _ _ h),by rw[r.length];exact hw,λp f=>m (.ref p) _ _ (g.trans (.new d.fh f)) (.tup cy ((r.cut l u).mono (Gr.new d.fh f).ff))⟩)
 |_=>exact j.elim
end
section
variable {x:Str}{k:Nat}{Fn:List T->M T}{Ff:List T->M (List T)}
def gD(h:eD X.prog X.w X.K X.mg X.base x j (mr K Fn))(hr:dh k X.A)(g:pQ K E X (e::es) tr fr)(i:j<=k:=by decide)(m:Gl X x:=by rfl)
  (f:(x==("__debug__" : Str))=false:=by decide) (l:starEach (e::es) X.env=(false,eval e X.env)::starEach es X.env:=by rfl) (d:(backTo pos (starEach es X.env)).any (·.1)=false:=by rfl) :
  Pm K E X (.Call (.Name x p) (e::es) [] pos) (i3 (mr K Fn) [] E0 tr) (c7 fr Fn):=⟨oj (h.mono i) hr g.pa m f l d,rQ g.ma⟩
def vO(h:eD X.prog X.w X.K X.mg X.base x j (xS K Ff))(hr:dh k X.A)(g:pQ K E X (e::es) tr fr)(i:j<=k:=by decide)(m:Gl X x:=by rfl)
  (f:(x==("__debug__" : Str))=false:=by decide) (l:starEach (e::es) X.env=(false,eval e X.env)::starEach es X.env:=by rfl) (d:(backTo pos (starEach es X.env)).any (·.1)=false:=by rfl) :
  uW K E X (.Call (.Name x p) (e::es) [] pos) (i3 (xS K Ff) [] E0 tr) (fT fr Ff):=⟨oj (h.mono i) hr g.pa m f l d,sE g.ma⟩
end
def AJ(K:W.Frag)(t:TE):TI:=λd H R=>uc K t d H R\/Aa K t d H R
@[simp] noncomputable def iF(fa:Pe->M T):Pe->M (List T):=λd=>(fa d).bind λx=>match x with
 |.lst ts=>.ok ts
 |.scr ns=>.ok (ns.map T.int)
 |.tup ts=>.ok ts
 |_=>.bad
def yM(f:ME K E ta fa):MI K E (AJ K ta) (iF fa):=λF H g d R s V q=>by
 unfold iF at q;cases e:fa d with
 |bad=>rw[e]at q;exact q.elim
 |er C n=>rw[e]at q;exact .inl (mh f F H g d R s V (by unfold BO;rw[e];exact q))
 |ok x=>
  rw[e]at q;cases x with
  |lst ts=>exact .inl (mh f F H g d R s V (by unfold BO;rw[e];exact q))
  |scr ns=>exact .inl (mh f F H g d R s V (by unfold BO;rw[e];exact q))
  |tup ts=>exact .inr (yG f F H g d R s V (by unfold Dk;rw[e];exact q))
  |_=>exact q.elim
def fB(d:Pm K E X a ta fa)(i:X.K=K:=by rfl):sq K E X tg a (AJ K ta) (iF fa):=by
 subst i;refine⟨λf s g H R I h=>?_,yM d.me⟩;rcases h with h|h
 .exact vB d.pe f s g H R I h
 .exact zm d.pe f s g H R I h
def xR(K:W.Frag)(ta:TA):TI:=λg H R=>∃f d,yr K f d ta g H R
@[simp] noncomputable def seqT:T->M (List T)
 |.lst ts=>.ok ts
 |.scr ns=>.ok (ns.map T.int)
 |.tup ts=>.ok ts
 |_=>.bad
@[simp] noncomputable def xt(fa:Pe->M (List T)):Pe->M (List T):=λd=>(fa d).bind λf=>match f with
 |[x,y]=>(seqT x).bind λh=>(seqT y).bind λg=>.ok (oH h g)
 |_=>.bad
noncomputable def rW:T->Bool
 |.tup _=>true
 |_=>false
def uR x:seqT x=seqB (rW x) x:=by cases x<;>rfl
def wV(g:MA K E tr fr):MI K E (xR K tr) (xt fr):=λF H h d R s V q=>by
 unfold xt at q;cases e:fr d with
 |bad=>rw[e]at q;exact q.elim
 |er C n=>rw[e]at q;exact⟨true,true,uN g F H h d R s V (by unfold zr;rw[e];exact q)⟩
 |ok xs=>
  rw[e]at q;match xs,e,q with
  |[],_,q=>exact q.elim
  |[_],_,q=>exact q.elim
  |[x,y],e,q=>refine⟨rW x,rW y,uN g F H h d R s V ?_⟩;unfold zr;rw[e];have f:((seqT x).bind λj=>(seqT y).bind λi=>M.ok (oH j i)).res (kI K F H R) (kE E F H):=q;rw[uR x,uR y]at f;exact f
  |_::_::_::_,_,q=>exact q.elim
def vU{x1}(j:X.mg "zip" = none)(f:pQ K E X [a,b] tr fr)(m:X.K=K:=by rfl)(l:Gl X "zip" :=by rfl)(g:starEach [a,b] X.env=[(false,eval a X.env),(false,eval b X.env)]:=by rfl)
  (d:starEach [b] X.env=[(false,eval b X.env)]:=by rfl):sq K E X (.Tuple elts x1 tpos) (.Call (.Name "zip" p) [a,b] [] pos) (xR K tr) (xt fr):=by
 subst m;refine⟨λi s k H R I h=>?_,wV f.ma⟩;obtain⟨q,n,h⟩:=h;exact zg l j f.pa g d i s k H R I h
def jO(h:X.mg "range" = none)(d:pQ K E X [a] tr fr)(g:Gl X "range" :=by rfl)(f:starEach [a] X.env=[(false,eval a X.env)]:=by rfl):rj K E X tg (.Call (.Name "range" p) [a] [] pos) (tK tr) (il fr):=⟨qF g h d.pa f,we d.ma⟩
def rj.pim(h:rj K E X tg it w f):sq K E X tg it w f:=⟨h.pi,h.mi.mi⟩
section
variable {x:Str}{g:TG}{gs:xV}{m:T->Pe->Option Pe}{ms:List T->Pe->Option Pe}{mo:T->En->Option En}{mos:List T->En->Option En}{n:Nat}
def fP i (d:X.N.Nodup) (j:oY X.env.scope x:=by first|exact Or.inl rfl|exact Or.inr rfl) (h:X.N[i]? = some x:=by rfl) (f:X.fn x=true\/X.env.scope.names.lookup x=some .local:=by first|exact .inl rfl|exact .inr rfl|assumption):yK K X (.Name x pos) (dI i) (lB i):=⟨qh d h j f,wD⟩
def mH i (d:X.N.Nodup) (j:oY X.env.scope x:=by first|exact Or.inl rfl|exact Or.inr rfl) (h:X.N[i]? = some x:=by rfl) (f:X.fn x=true\/X.env.scope.names.lookup x=some .local:=by first|exact .inl rfl|exact .inr rfl|assumption):CD K X (.Name x pos) (dI i) (xg i):=⟨qh d h j f,uA⟩
def sL:xb K X [] vo zE:=⟨wb,wR⟩
def lW(f:yK K X e g m)(d:xb K X es gs ms)(h:(assignEach (e::es) X.env).map (·.2)=assign e X.env::(assignEach es X.env).map (·.2):=by rfl):xb K X (e::es) (m3 g gs) (qe m ms):=⟨r0 f.pg d.pg h,uZ f.mg d.mg⟩
def ye n (f:X.calm=true) (h:xb K X es gs ms) (j:X.K=K:=by rfl) (i:(assignEach es X.env).length=n:=by rfl) (d:(assignEach es X.env).findIdx? (·.1)=none:=by rfl):yK K X (.Tuple es k pos) (wN K n gs) (za n ms):=by subst j;exact⟨yI f h.pg i d,ym h.mg⟩
end
section
variable {elt iter:Expr}{ifs:List Expr}{scope:Scope}{N:List Str}{ix:List (Option Nat)}{wi:TI}{g:TG}{tt:TT}{fi:Pe->M (List T)}{m:T->Pe->Option Pe}{ft:Pe->M Bool}
def dD:sr K E X [] yt (λ_=>.ok true):=⟨wq,zD⟩
@[simp] noncomputable def kD(ix:List (Option Nat))(fi:Pe->M (List T))(m:T->Pe->Option Pe)(ft:Pe->M Bool)(fe:Pe->M T):Pe->M (List T):=λf=>(fi f).bind λd=>(if d.length<sizeLine then fO (gY m ft fe (fv ix f)) d else .bad).noEr
def A1(n:X.calm=true)(h:sq K E X tg iter wi fi)(L:jD X scope N ix)(f:eJ ix g)
  (d:∀C s₃ H ex pn,yK K (fk X N scope C s₃ H ex pn) tg g m/\sr K vf (fk X N scope C s₃ H ex pn) ifs tt ft/\Pm K vf (fk X N scope C s₃ H ex pn) elt te fe)
  (i:∀x,foldedSetIterable iter X.env x=pure x:=by intro _;rfl):uW K E X (.ListComp elt [⟨tg,iter,ifs,0⟩] scope pos) (mY ix wi g tt te) (kD ix fi m ft fe):=by
 obtain⟨l,k,j⟩:=d 0 X.s₀ X.H₀ [] [];exact⟨Aw n h.pi L f (λC s₃ H ex pn=>⟨(d C s₃ H ex pn).1.pg,(d C s₃ H ex pn).2.1.pf,(d C s₃ H ex pn).2.2.pe⟩) i,xx h.mi l.mg k.mt j.me⟩
end
end
end L3
namespace L3
open PySem L2 PySem.Spec PyProof.Rows
section
variable {K:W.Frag}{E:XK}{X:Cx}{a b c e o tg it:Expr}{es:List Expr}{ta tb tc te to:TE}{fa fb fc fe fo:Pe->M T}{tr:TA}{fr:Pe->M (List T)}{pos pos' p p2 apos:Pos}{st:Stmt}{c8:List Stmt}{t u:TS}{g g':En->O}{ff:Pe->M (List T)}{x:Str}
def cU:gQ K E X [] qy dW:=⟨pH,wM⟩
def cA(h:mX K E X st t g):gQ K E X [st] t g:=⟨iI h.ps,h.ms⟩
def cq(h:mX K E X st t g)(h':gQ K E X c8 u g'):gQ K E X (st::c8) (l6 t u) (cK g g'):=⟨gq h.ps h'.ps,yf h.ms h'.ms⟩
def dM(h:Pm K E X e te fe):mX K E X (.Return (some e) pos) (tz te) (dU fe):=⟨sP h.pe,zx h.me⟩
def m8(h:uW K E X e te ff):mX K E X (.Return (some e) pos) (tz te) (lE ff):=⟨sP h.pe,wK h.mf⟩
def dc{tc:TT}{fc:Pe->M Bool}(d:oX K E X c tc fc)(h:gQ K E X A t g)(h':gQ K E X B u g'):mX K E X (.If c A B pos) (wx tc t u) (iy fc g g'):=⟨xH d.pt h.ps h'.ps,AB d.mt h.ms h'.ms⟩
def rP{tc:TT}{fc:Pe->M Bool}(d:En->Nat)(i:PassesOwn (model X.prog X.w) X.A X.env X.xe)(f:oX K E X c tc fc)(h:gQ K E X A t g):mX K E X (.While c A [] pos) (pD tc t) (λρ=>gF fc g (d ρ) ρ):=⟨ud i f.pt h.ps,uQ d f.mt h.ms⟩
section
variable {w:TI}{fi:Pe->M (List T)}{gt:TG}{m:T->En->Option En}{A:List Stmt}
def pS(j:PassesOwn (model X.prog X.w) X.A X.env X.xe)(k:X.calm=true)(f:sq K E X tg it w fi)(h:CD K X tg gt m)(d:gQ K E X A t g)(i:∀x,foldedSetIterable it X.env x=pure x:=by intro _;rfl):mX K E X (.For tg it A [] pos) (sT w gt t) (qQ fi m g):=⟨tj j k f.pi h.pg d.ps i,yl f.mi h.mg d.ms⟩
def nq(j:PassesOwn (model X.prog X.w) X.A X.env X.xe)(k:X.calm=true)(f:rj K E X tg it w fi)(h:CD K X tg gt m)(d:gQ K E X A t g)(i:∀x,foldedSetIterable it X.env x=pure x:=by intro _;rfl):mX K E X (.For tg it A [] pos) (sT w gt t) (lA fi m g):=⟨tj j k f.pi h.pg d.ps i,vv f.mi h.mg d.ms⟩
end
def zp i (v:X.N.Nodup) (y:oY X.env.scope x)
  (s:X.calm=true) (j:sq K E X tg iter wi fi) (L:jD X scope N ix) (h:eJ ix gt)
  (d:∀C s₃ H ex pn,yK K (fk X N scope C s₃ H ex pn) tg gt m/\sr K vf (fk X N scope C s₃ H ex pn) ifs tt ft/\Pm K vf (fk X N scope C s₃ H ex pn) elt te fe)
  (l:MF K E (mY ix wi gt tt te) (kD ix fi m ft fe)->MS K E (ik (mY ix wi gt tt te) (dI i)) gm)
  (k:X.N[i]? = some x:=by rfl) (n:X.fn x=true\/X.env.scope.names.lookup x=some .local:=by first|exact .inl rfl|exact .inr rfl)
  (f:swapsWith (.ListComp elt [⟨tg,iter,ifs,0⟩] scope pos) (some (.Name x py)) spos.line X.env=pure true:=by rfl)
  (q:∀x,foldedSetIterable iter X.env x=pure x:=by intro _;rfl):mX K E X (.Assign [.Name x py] (.ListComp elt [⟨tg,iter,ifs,0⟩] scope pos) spos) (ik (mY ix wi gt tt te) (dI i)) gm:=by
 obtain⟨z,w,r⟩:=d 0 X.s₀ X.H₀ [] [];exact⟨sH v k y s j.pi L h (λC s₃ H ex pn=>⟨(d C s₃ H ex pn).1.pg,(d C s₃ H ex pn).2.1.pf,(d C s₃ H ex pn).2.2.pe⟩) n f q,l (xx j.mi z.mg w.mt r.me)⟩
def cY i (j:X.N.Nodup) (h:Pm K E X e te fe) (f:oY X.env.scope x:=by first|exact Or.inl rfl|exact Or.inr rfl) (k:X.N[i]? = some x:=by rfl) (d:swapsWith e (some (.Name x pos')) pos.line X.env=pure false:=by rfl) (l:X.fn x=true\/X.env.scope.names.lookup x=some .local:=by first|exact .inl rfl|exact .inr rfl|assumption) :
  mX K E X (.Assign [.Name x pos'] e pos) (ik te (dI i)) (setO i (ed fe)):=⟨jR j k f h.pe d l,pO h.me⟩
def sA i (j:X.N.Nodup) (h:uW K E X e te ff) (f:oY X.env.scope x:=by first|exact Or.inl rfl|exact Or.inr rfl) (k:X.N[i]? = some x:=by rfl) (d:swapsWith e (some (.Name x pos')) pos.line X.env=pure false:=by rfl) (l:X.fn x=true\/X.env.scope.names.lookup x=some .local:=by first|exact .inl rfl|exact .inr rfl|assumption) :
  mX K E X (.Assign [.Name x pos'] e pos) (ik te (dI i)) (Ae i (wg ff)):=⟨jR j k f h.pe d l,xn h.mf⟩
def i0(h:MF K E te ff):MS K E (ik te (dI i)) (setO i (ed λρ=>(ff ρ).bind λd=>.ok (.lst d))):=pO h.me
def zR(h:H l=some (.lst xs)):Bb K "list" (.ref l) H:=.inl ⟨rfl,_,fX.of h⟩
def tU i (q:PE X (.Name x p) (hI i)) (n:Pm K E X e te fe) (m:starEach [e] X.env=(false,eval e X.env)::starEach [] X.env:=by rfl) (r:X.K=K:=by rfl)
  (f:attributeBase (.Name x p) "append" X.env (eval (.Name x p) X.env)=eval (.Name x p) X.env:=by rfl)
  (j:((backTo pos (starEach [e] X.env)).all (λx=>!x.1)&&(backToKw pos (keywordEach [] X.env)).all (λx=>x.1.isSome)&&decide (([e]:List Expr).length+([]:List Keyword).length+(if ([]:List Keyword).isEmpty then 0 else 1)<30))=true:=by rfl)
  (d:(apos.endLine==pos.line)=true:=by rfl) (hplain:(backTo pos (starEach [] X.env)).any (·.1)=false:=by rfl) (k:swapsWith (.Call (.Attribute (.Name x p) "append" apos) [e] [] pos) none pos'.line X.env=pure false:=by rfl) :
  mX K E X (.Expr (.Call (.Attribute (.Name x p) "append" apos) [e] [] pos) pos') (nN (AH K i te)) (xf i (ed fe)):=by
 subst r;exact⟨qb (qo PySem.F.plainAttrs_list PySem.F.slot_list_append PySem.F.type_list_append qU q (cS n.pe eK m) f j d m hplain) k,vG (λl s H h=>zR h) n.me⟩
def dO(h:Pm K E X e te fe)(d:swapsWith e none pos.line X.env=pure false:=by rfl):mX K E X (.Expr e pos) (nN te) (eI (ed fe)):=⟨qb h.pe d,uv h.me⟩
end
section
variable {P:Program}{w:World}{K:W.Frag}{mg:Str->Option Value}{base:Heap}{x:Str}{st:Stmt}{N ps:List Str}{k:Nat}{g:En->O}
def B1(D:cD K mg x st)(S:dC N ps (cu st))
  (j:∀(kV c n:Vq) (m:Oq Addr) (b l:Vq) (d:List Vq),d.length=ps.length->bindArgs (W.fnOf x x (dR st) (cQ st) (cu st) .none kV c n m b l) ⟨d,[]⟩=pure (ps.zip d))
  (e:∀(f:Addr) (b:Vq) (A:Around) (a:List Env) (s:Sq) (H:Hp) (E:XK),dh k (A.deeper (envOfC x (cu st) s.heap.objs.size f b))->∃t,gQ K E (c5 lI P w K mg base N x (cu st) f b A a s H E).nox (cQ st) t g) :
  eD P w K mg base x (k+1) (mr K (gS ps.length N.length g)):=
 l5 D S j (λi H Q E h=>l3 h) λf b A a s H i Q E hr h=>let ⟨t,hp⟩:=e f b A a s H E hr;⟨t,hp.ps,mR hp.ms h⟩
def B5(D:cD K mg x st)(S:dC N ps (cu st))
  (j:∀(kV c n:Vq) (m:Oq Addr) (b l:Vq) (d:List Vq),d.length=ps.length->bindArgs (W.fnOf x x (dR st) (cQ st) (cu st) .none kV c n m b l) ⟨d,[]⟩=pure (ps.zip d))
  (e:∀(f:Addr) (b:Vq) (A:Around) (a:List Env) (s:Sq) (H:Hp) (E:XK),dh k (A.deeper (envOfC x (cu st) s.heap.objs.size f b))->∃t,gQ K E (c5 lI P w K mg base N x (cu st) f b A a s H E).nox (cQ st) t g) :
  eD P w K mg base x (k+1) (xS K (vh ps.length N.length g)):=
 l5 D S j (λi H Q E h=>vL h) λf b A a s H i Q E hr h=>let ⟨t,hp⟩:=e f b A a s H E hr;⟨t,hp.ps,sh hp.ms h⟩
end
end L3
namespace L3
open PySem L2 PySem.Spec PyProof.Rows
section
variable {K:W.Frag}{E:XK}{X:Cx}{a b c e o tg it:Expr}{es:List Expr}{ta tb tc te to:TE}{fa fb fc fe fo:Pe->M T}{tr:TA}{fr:Pe->M (List T)}{pos p p2 apos:Pos}
@[simp] noncomputable def dN(f:Pe->M (List T)):Pe->M T:=λd=>(f d).bind λg=>.ok (.lst g)
def dE(f:X.K=K:=by rfl):eN X (.builtin "len") (λd H Q=>∃x n,d=[x]/\yE K x H n/\Q (.int n) H):=f▸tY
def gz(d:X.calm=true)(g:X.K=K:=by rfl):eN X (.builtin "all") (λf H Q=>∃(p:Addr) (bs:List Bool),f=[.ref p]/\fX K H p (bs.map V.bl)/\Q (.bl (bs.all id)) H):=g▸tJ d
def lF(f:X.calm=true)(h:X.K=K:=by rfl):eN X (.builtin "any") (λg H Q=>∃p d bs,g=[.ref p]/\(fX K H p d\/fY K H p d)/\e7 d=some bs/\Q (.bl (bs.any id)) H):=h▸qK f
def ez(g:X.K=K:=by rfl):eN X (.type "tuple") (λf H Q=>∃p d,f=[.ref p]/\((fX K H p d/\∀l,H l=none->Q (.ref l) (c6 H l (.tup d)))\/(fY K H p d/\Q (.ref p) H))):=g▸kX
def AW:T->Option Bool
 |.bl b=>some b
 |.int i=>some (i != 0)
 |_=>none
def lY:List T->Option (List Bool)
 |[]=>some []
 |v::vs=>(AW v).bind λb=>(lY vs).bind λr=>some (b::r)
theorem my:∀{vs} {ts},cE K F vs ts->e7 vs=lY ts
 |_,_,.nil=>rfl
 |v::vs,t::ts,.cons h r=>by
  have e:nQ v=AW t:=by cases h<;>rfl
  rw[e7,lY,my r,e]
@[simp] noncomputable def jB(d:List T):M T:=match lY d with
 |some bs=>.ok (.bl (bs.any id))
 |none=>.bad
@[simp] noncomputable def tE:List T->M T
 |[.lst ts]=>jB ts
 |[.tup ts]=>jB ts
 |_=>.bad
def tF ts:M.NoE (jB ts):=λC n=>by unfold jB;split<;>intro z<;>cases z
def wa xs:M.NoE (tE xs):=λC n=>by unfold tE;split<;>first|exact tF _ C n|(intro z;cases z)
def tO:MC K (λf H Q=>∃p i bs,f=[.ref p]/\(fX K H p i\/fY K H p i)/\e7 i=some bs/\Q (.bl (bs.any id)) H) tE:=⟨wa,λF H i f Q s r q=>by
 cases r with
 |nil=>exact q.elim
 |cons h t=>
  cases t with
  |cons _ _=>cases h<;>exact q.elim
  |nil=>
   cases h with
   |lst h r=>
    rename_i a f g;have d:(jB g).res (kV K F H Q) (λ_ _=>False):=q;unfold jB at d;cases e:lY g with
    |none=>rw[e]at d;exact d.elim
    |some bs=>rw[e]at d;exact⟨a,f,bs,rfl,.inl (fX.of (s _ _ h)),by rw[my r];exact e,kV.now d s (.bl _)⟩
   |tup h r=>
    rename_i a f g;have d:(jB g).res (kV K F H Q) (λ_ _=>False):=q;unfold jB at d;cases e:lY g with
    |none=>rw[e]at d;exact d.elim
    |some bs=>rw[e]at d;exact⟨a,f,bs,rfl,.inr (fY.of (s _ _ h)),by rw[my r];exact e,kV.now d s (.bl _)⟩
   |_=>exact q.elim⟩
def yH:Pm K E X (.Dict [] [] pos) tZ (cM .emp):=⟨uD,λF H g f Q s V q p d=>q (.ref p) _ _ (.new s d) (.emp cy)⟩
end
structure Bs(mg:Str->Option Value):Prop where
 abs:mg "abs" = none
 isinstance:mg "isinstance" = none
 int:mg "int" = none
 bool:mg "bool" = none
 len:mg "len" = none
 range:mg "range" = none
 tuple:mg "tuple" = none
 list:mg "list" = none
 str:mg "str" = none
 all:mg "all" = none
 any:mg "any" = none
 sum:mg "sum" = none
 zip:mg "zip" = none
 max:mg "max" = none
 min:mg "min" = none
 enumerate:mg "enumerate" = none
 reversed:mg "reversed" = none
 set:mg "set" = none
 dict:mg "dict" = none
 sorted:mg "sorted" = none
def l8:bootBuiltins "list" = some (.type "list"):=by decide +kernel
def l4:bootBuiltins "str" = some (.type "str"):=by decide +kernel
end L3
namespace L3
open PySem L2
section
variable {α:Type}
theorem lz enc f:∀(l:List α),(∀a∈l,k (enc a)=.ok (some (f a)))->fO k (l.map enc)=.ok (l.map f)
 |[],_=>rfl
 |a::l,h=>by rw[br,fO,h a (by simp),M.bind_ok,lz enc f l λb c=>h b (by simp[c])];rfl
theorem lS enc (P:Nat->En->Prop):∀(l:List α) (k:Nat) (ρ:En),P k ρ->
  (∀i a ρ,l[i]? = some a->P (k+i) ρ->∃d c,m (enc a) ρ=some d/\(g d=.nx c\/g d=.ct c)/\P (k+i+1) c)->∃ρ',fF m g (l.map enc) ρ=.nx ρ'/\P (k+l.length) ρ'
 |[],k,ρ,h,_=>⟨ρ,rfl,h⟩
 |a::l,k,ρ,h,st=>by
  obtain⟨d,c,o,f,p⟩:=st 0 a ρ rfl h;obtain⟨ρ',e,n⟩:=lS enc P l (k+1) c p λi b ρ j q=>by have:=st (i+1) b ρ (by simpa using j) (by rw[show k+(i+1)=k+1+i by omega];exact q);rw[show k+1+i+1=k+(i+1)+1 by omega];exact this
  refine⟨ρ',?_,by rw[ax,show k+(l.length+1)=k+1+l.length by omega];exact n⟩;rw[br,fF,o];rcases f with f|f<;>(dsimp only;rw[f];exact e)
theorem jr enc (P:En->Prop):∀(l:List α) (ρ:En),P ρ->
  (∀a∈l,∀ρ,P ρ->∃d c,m (enc a) ρ=some d/\(g d=.nx c\/g d=.ct c)/\P c)->∃ρ',fF m g (l.map enc) ρ=.nx ρ'/\P ρ'
 |[],ρ,h,_=>⟨ρ,rfl,h⟩
 |a::l,ρ,h,st=>by obtain⟨d,c,k,f,n⟩:=st a (by simp) ρ h;obtain⟨ρ',e,j⟩:=jr enc P l c n λb i ρ o=>st b (by simp[i]) ρ o;refine⟨ρ',?_,j⟩;rw[br,fF,k];rcases f with f|f<;>(dsimp only;rw[f];exact e)
end
def vy{n:Type}(l:List n) enc f (g:fi ρ=.ok (l.map enc)) (c:l.length<sizeLine)
  (e:∀a∈l,∃b,m (enc a) (fv ix ρ)=some b/\ft b=.ok true/\fe b=.ok (f a)):kD ix fi m ft fe ρ=.ok (l.map f):=by
 have h:=lz (k:=gY m ft fe (fv ix ρ)) enc f l λa o=>by obtain⟨b,i,j,d⟩:=e a o;unfold gY;rw[i];dsimp only;rw[j,M.bind_ok,aO rfl,d];rfl
 unfold kD;rw[g,M.bind_ok,av,aO c,h];rfl
def yh{g:Type}(l:List g) enc f (e:fi ρ=.ok (l.map enc)) (c:l.length<sizeLine)
  (d:∀a∈l,∃b,m (enc a) (fv ix ρ)=some b/\ft b=.ok true/\fe b=.ok (f a)) (hr:l.map f=ts):kD ix fi m ft fe ρ=.ok ts:=by rw[<-hr];exact vy l enc f e c d
def A7 lo n:mD lo n=(List.range n).map λ(i:Nat)=>T.int (lo+(i:Int)):=rfl
def wX(h:PySem.IntMulOk i j):jk (.int i) (.int j)=.ok (.int (i*j)):=by simp[jk,eQ,h]
def nT(h:j≠0)(a:Builtin.divisionGoesByPylong i j=false):lZ (.int i) (.int j)=.ok (.int (i.fdiv j)):=by simp[lZ,eQ,h,a]
def jL(h:j≠0):kY (.int i) (.int j)=.ok (.int (i.fmod j)):=by simp[kY,eQ,h]
@[simp] theorem nG i j:cT (.int i) (.int j)=.ok (.int (i+j)):=rfl
@[simp] theorem BJ i j:Cf (.int i) (.int j)=.ok (.bl (decide (i<j))):=rfl
@[simp] theorem BX i j:Ah (.int i) (.int j)=.ok (.bl (decide (i<=j))):=rfl
@[simp] theorem BV i j:Bd (.int i) (.int j)=.ok (.bl (decide (j<i))):=rfl
@[simp] theorem BF i j:BS (.int i) (.int j)=.ok (.bl (decide (j<=i))):=rfl
@[simp] theorem uf i j:dH false (.int i) (.int j)=.ok (.bl (i==j)):=by simp[dH,ku]
@[simp] theorem sS i j:dH true (.int i) (.int j)=.ok (.bl (!(i==j))):=by simp[dH,ku]
def ri(h:i.natAbs<2 ^ 64):PySem.IntMulOk i j:=IntMulOk.of_left (PyProof.Rows.intBits_le h)
def Bn(n:Nat)(x:Int):Prop:=x.natAbs<2 ^ n
def Bn.noPy(h:Bn n y)(a:n<=8000):Builtin.divisionGoesByPylong x y=false:=Cu.noPy (PyProof.Rows.intBits_le h) a
section
variable {a b g:En->O}{ρ ρ':En}{r:O}{fc:Pe->M Bool}{f:Pe->M T}{ff:Pe->M (List T)}{t:T}{ts:List T}{k n i:Nat}
def dn(d:a ρ=.nx ρ')(c:b ρ'=r):cK a b ρ=r:=by unfold cK;rw[d];exact c
def zc(c:a ρ=.rt t)(hr:.rt t=r):cK a b ρ=r:=by unfold cK;rw[c];exact hr
def zK(h:fc (vw ρ)=.ok true)(c:a ρ=r):iy fc a b ρ=r:=by unfold iy;rw[h];exact c
def m5(h:fc (vw ρ)=.ok false)(c:b ρ=r):iy fc a b ρ=r:=by unfold iy;rw[h];exact c
def dY(h:f (lx ρ)=.ok t)(hr:ρ'=ρ.set i (some (.p t))):setO i (ed f) ρ=.nx ρ':=by unfold setO ed;rw[h,hr];rfl
def oz(h:f (vw ρ)=.ok t):dU f ρ=.rt t:=by unfold dU;rw[h];rfl
def w6(h:f (lx ρ)=.ok t):eI (ed f) ρ=.nx ρ:=by unfold eI ed;rw[h];rfl
def zP(h:fi (lx ρ)=.ok its)(c:fF m g its ρ=r):qQ fi m g ρ=r:=by unfold qQ;rw[h];exact c
def pG(h:fi (vw ρ)=.ok its)(c:fF m g its ρ=r):lA fi m g ρ=r:=by unfold lA;rw[h];exact c
def lH(c:ts.length=k)(h:g (eS n ts)=.rt t):gS k n g ts=.ok t:=by unfold gS;rw[aO c,h];rfl
end
def Aq n:mD 0 n=(List.range n).map λ(i:Nat)=>T.int (i:Int):=by simp[mD]
section
variable {α:Type}{fe fd fl:Pe->M T}{ρ:Pe}{ts:List T}{d k:Nat}
def qW(l:List α)(d:Nat):gn l none (some (d:Int))=l.take d:=by
 unfold gn;rw[HT.sIx_none,HT.sIx_nat,List.drop_zero,Nat.sub_zero];by_cases h:d<=l.length
 .rw[Nat.min_eq_left h]
 .rw[Nat.min_eq_right (by omega),bY (aI _),bY (by omega)]
def Bo(h:f ρ=.ok t)(hr:o [t]=r):ig o (cm f cw) ρ=r:=by simp only[ig,cm,cw,h,M.bind_ok];exact hr
def sx(h:lc ρ=.ok ts):dN lc ρ=.ok (.lst ts):=by simp only[dN,h,M.bind_ok]
def sX(h:fe ρ=.ok (.lst ts)):iF fe ρ=.ok ts:=by simp only[iF,h,M.bind_ok]
def f7(h:fe ρ=.ok (.bl b)):fu fe ρ=.ok b:=by simp only[fu,h,M.bind_ok]
def dJ(b:fa ρ=.ok x)(a:fb ρ=.ok y)(hr:o x y=r):cL o fa fb ρ=r:=by simp only[cL,b,a,M.bind_ok];exact hr
def ip(h:f ρ=.ok x)(a:g ρ=.ok y)(hr:F [x,y]=.ok t):c7 (cm f (cm g cw)) F ρ=.ok t:=by simp only[c7,cm,cw,h,a,hr,M.bind_ok];rfl
def nM{f g k:Pe->M T}(h:f ρ=.ok x)(b:g ρ=.ok y)(a:k ρ=.ok z)(hr:F [x,y,z]=.ok t):c7 (cm f (cm g (cm k cw))) F ρ=.ok t:=by simp only[c7,cm,cw,h,b,a,hr,M.bind_ok];rfl
end
end L3
namespace L3
open PySem L2 PySem.Spec PyProof.Rows
def rY(K:W.Frag):Sp:=λd H Q _=>∃(a:Addr) (b:LI),d=[.ref a]/\fX K H a (b.map V.int)/\b.length<=63/\(∀z∈b,Builtin.Int.intBits z<=2 ^ 20)/\∀c,Q (.bl true) c
def sN{K:W.Frag}(h:∀ns:LI,ns.length<=63->(∀z∈ns,Builtin.Int.intBits z<=2 ^ 20)->F [.scr ns]=.ok (.bl true)) vs H Q E (z:rY K vs H Q E):mr K F vs H Q E:=by obtain⟨a,ns,rfl,e,d,b,c⟩:=z;refine⟨[.scr ns],H,.refl _,.cons (.scr e) .nil,?_⟩;rw[h ns d b];intro v f i g r;cases r;exact c _
def CS{K:W.Frag}{st:Stmt}(F:ve K x x st f fd)(S:dC N ps (cu st))
  (c:∀(f:Addr) (b:Vq) (A:Around) (a:List Env) (s:Sq) (H:Hp) (E:XK),dh k (A.deeper (envOfC x (cu st) s.heap.objs.size f b))->∃t,gQ K E (c5 lI P w K mg base N x (cu st) f b A a s H E).nox (cQ st) t g) :
  fy P w K mg base lI (k+1) f fd ps (mr K (gS ps.length N.length g)):=
 F.ok S (λd H Q E h=>l3 h) λb A a s H d Q E hr h=>let ⟨t,hp⟩:=c f b A a s H E hr;⟨t,hp.ps,mR hp.ms h⟩
def Ba{l:W.OpenLaw}{q:Program}{k:Nat}{x:Str}{b:List Str}{v:(Str->Option Value)->Heap->Prop}{i:World->Heap->Prop}{d:DefRec}{K:Params->W.Frag}(n:l.most=some 63)(hr:dh k callerA)(e:d.params.defaults=[])
  (t:∀(w:World) (h:Heap),i w h->(K w.params).In h)
  (F:∀(w:World) (c:Str->Option Value) (fa:Addr) (h:Heap),(K w.params).In h->h.Ns mainGlobals c->c d.name=some (.ref fa)->
   ∃g:FuncData,(∀(s:Sq) (u:Vq),BindsTo s g ⟨[u],[]⟩ [(x,u)])/\∀base:Heap,(K w.params).In base->base.Ns mainGlobals c->fy l.prog w (K w.params) c base lI k fa g [x] (rY (K w.params))) :
  W.WalkO q b v i l.row.toRowW d [] (λf o=>PySem.call f o):=
 L2.qE n (by decide) e hr t F (λ_ _ a j m r _ p=>⟨a,j,rfl,p,m,r,λ_=>rfl⟩) λ_ _ _ _ z=>z
end L3
namespace L3
open PySem L2 PySem.Spec PyProof.Rows
section
variable {K:W.Frag}{E:XK}{t:TE}{f:Pe->M T}
def kO(K:W.Frag)(F H:Hp)(x:Addr)(Q:VK)(t:T):Prop:=∀b c,cC F b->cC b c->(∀a o,a≠x->H a=some o->rN o (c a))->(∀a,b a≠none->F a≠none\/H a=none\/a=x\/∃d,H a=some (.tup d))->eM K b (.ref x) t->Q .non c
noncomputable def nr(C:Addr)(n:Nat)(d g:Str)(e g2:Pe->M T):List T->M T:=λc=>if c.length=n then (e (none::c.map some)).bind λa=>(g2 (none::c.map some)).bind λb=>.ok (.obj C [(d,a),(g,b)]) else .bad
structure Co(K:W.Frag)(E:XK)(X:Cx)(body:List Stmt)(f1 f2:Str)(g1 g2:Pe->M T):Prop where
 ex:∃(t1 t2:TE),kq X body (l6 (zW K (hI 0) t1 f1) (zW K (hI 0) t2 f2))/\ME K E t1 g1/\ME K E t2 g2
def CJ(h:X.K=K)(c:PE X o1 (hI 0))(g:Pm K E X a1 t1 g1)(b:PE X o2 (hI 0))(e:Pm K E X a2 t2 g2)
  (a:swapsWith a1 (some (.Attribute o1 f1 p1)) q1.line X.env=pure false:=by rfl) (d:swapsWith a2 (some (.Attribute o2 f2 p2)) q2.line X.env=pure false:=by rfl) :
  Co K E X [.Assign [.Attribute o1 f1 p1] a1 q1,.Assign [.Attribute o2 f2 p2] a2 q2] f1 f2 g1 g2:=by
 subst h;exact⟨t1,t2,gq (sQ c g.pe a) (iI (sQ b e.pe d)),g.me,e.me⟩
end
end L3
namespace L3
open PySem L2 PySem.Spec PyProof.Rows
def yD:Nat->(List Value->Prop)->Prop
 |0,P=>P []
 |k+1,P=>∀v,yD k λa=>P (v::a)
theorem gI:∀{k} {P},yD k P->∀a:List Vq,a.length=k->P a
 |0,_,h,[],_=>h
 |k+1,_,h,v::a,e=>gI (h v) a (by simpa using e)
def vc(X:Cx):Prop:=∀x,X.env.scope.names.lookup x=some .cell->∃c,X.env.cells.lookup x=some c
structure Zx(P:Program)(w:World)(K:W.Frag)(mg:Str->Option Value)(base:Heap):Prop where
 here:True
section
variable {P:Program}{w:World}{K:W.Frag}{mg:Str->Option Value}{base:Heap}
noncomputable abbrev CP(_:Zx P w K mg base)(x:Str)(k:Nat)(F:List T->M T):Prop:=eD P w K mg base x k (mr K F)
noncomputable abbrev CF(_:Zx P w K mg base)(x:Str)(k:Nat)(F:List T->M (List T)):Prop:=eD P w K mg base x k (xS K F)
end
section
variable {P:Program}{w:World}{K:W.Frag}{mg:Str->Option Value}{base:Heap}{x m qual:Str}{C:Addr}{st:Stmt}{g:En->O}
noncomputable abbrev B4(P:Program)(w:World)(K:W.Frag)(mg:Str->Option Value)(base:Heap)(k:Nat)(qual:Str)(st:Stmt)(N:List Str)(g:En->O):Prop:=∀{f:Addr} {cdv:Vq} {A:Around} {outer:List Env} {s:Sq} {H:Hp} {E:XK},N.Nodup->vc (c5 lI P w K mg base N qual (cu st) f cdv A outer s H E).nox->dh k (A.deeper (envOfC qual (cu st) s.heap.objs.size f cdv))->∃t,gQ K E (c5 lI P w K mg base N qual (cu st) f cdv A outer s H E).nox (cQ st) t g
abbrev Al(x qual:Str)(st:Stmt)(ps:List Str):Prop:=∀(kV doc pm:Vq) (an:Oq Addr) (cdv ct:Vq),yD ps.length λus=>bindArgs (W.fnOf x qual (dR st) (cQ st) (cu st) .none kV doc pm an cdv ct) ⟨us,[]⟩=pure (ps.zip us)
def kU(_:Zx P w K mg base) k F N ps (e:F=gS ps.length N.length g) (D:cD K mg x st) (l:B4 P w K mg base k x st N g) (S:dC N ps (cu st):=by constructor<;>first|rfl|decide +kernel)
  (i:Al x x st ps:=by first|exact λ_ _ _ _ _ _ _ _=>rfl|exact λ_ _ _ _ _ _ _=>rfl|exact λ_ _ _ _ _ _ _ _ _=>rfl|exact λ_ _ _ _ _ _ _ _ _ _=>rfl|exact λ_ _ _ _ _ _ _ _ _ _ _=>rfl|exact λ_ _ _ _ _ _=>rfl) :
  eD P w K mg base x (k+1) (mr K F):=e▸B1 D S (λa b c d e f n j=>gI (i a b c d e f) n j) λ_ _ _ _ _ _ _ r=>l S.nd (λ_ h=>fJ h) r
def pW(_:Zx P w K mg base) k F N ps (e:F=vh ps.length N.length g) (D:cD K mg x st) (l:B4 P w K mg base k x st N g) (S:dC N ps (cu st):=by constructor<;>first|rfl|decide +kernel)
  (i:Al x x st ps:=by first|exact λ_ _ _ _ _ _ _ _=>rfl|exact λ_ _ _ _ _ _ _=>rfl|exact λ_ _ _ _ _ _ _ _ _=>rfl|exact λ_ _ _ _ _ _ _ _ _ _=>rfl|exact λ_ _ _ _ _ _ _ _ _ _ _=>rfl|exact λ_ _ _ _ _ _=>rfl) :
  eD P w K mg base x (k+1) (xS K F):=e▸B5 D S (λa b c d e f n j=>gI (i a b c d e f) n j) λ_ _ _ _ _ _ _ r=>l S.nd (λ_ h=>fJ h) r
def Bj(_:Zx P w K mg base) k F N ps (e:F=gS ps.length N.length g) (D:ve K x x st f fd) (a:B4 P w K mg base k x st N g) (S:dC N ps (cu st):=by constructor<;>first|rfl|decide +kernel) :
  fy P w K mg base lI (k+1) f fd ps (mr K F):=e▸CS D S λ_ _ _ _ _ _ _ r=>a S.nd (λ_ h=>fJ h) r
end
section
variable {K:W.Frag}{E:XK}{X:Cx}{tg elt iter:Expr}{ifs:List Expr}{scope:Scope}{wi:TI}{g:TG}{tt:TT}{te:TE}{fe:Pe->M T}{fi:Pe->M (List T)}{m:T->Pe->Option Pe}{ft:Pe->M Bool}{pos:Pos}{x:Str}
noncomputable abbrev Dj(K:W.Frag)(X:Cx)(scope:Scope)(N:List Str)(tg elt:Expr)(ifs:List Expr)(g:TG)(tt:TT)(te:TE)(m:T->Pe->Option Pe)(ft:Pe->M Bool)(fe:Pe->M T):Prop:=∀{C s₃ H ex pn},N.Nodup->vc (fk X N scope C s₃ H ex pn)->yK K (fk X N scope C s₃ H ex pn) tg g m/\sr K vf (fk X N scope C s₃ H ex pn) ifs tt ft/\Pm K vf (fk X N scope C s₃ H ex pn) elt te fe
def g6 N ix (h:vc X) (e:sq K E X tg iter wi fi) (a:Dj K X scope N tg elt ifs g tt te m ft fe) (d:js X.N X.env.scope scope N ix=true:=by rfl) (b:eJ ix g:=by first|exact gC rfl|exact gM rfl rfl) (nd:N.Nodup:=by decide) (f:X.calm=true:=by rfl)
  (c:∀x,foldedSetIterable iter X.env x=pure x:=by intro _;rfl):uW K E X (.ListComp elt [⟨tg,iter,ifs,0⟩] scope pos) (mY ix wi g tt te) (kD ix fi m ft fe):=
 let L:=wZ h d
 A1 f e L b (λ_ _ _ _ _=>a nd (ot L)) c
def sv N ix i (j:X.N.Nodup) (o:vc X) (k:sq K E X tg iter wi fi) (a:Dj K X scope N tg elt ifs g tt te m ft fe)
  (n:MF K E (mY ix wi g tt te) (kD ix fi m ft fe)->MS K E (ik (mY ix wi g tt te) (dI i)) gm) (e:js X.N X.env.scope scope N ix=true:=by rfl) (b:eJ ix g:=by first|exact gC rfl|exact gM rfl rfl) (nd:N.Nodup:=by decide) (f:oY X.env.scope x:=by first|exact Or.inl rfl|exact Or.inr rfl) (l:X.calm=true:=by rfl)
  (h:X.N[i]? = some x:=by rfl) (p:X.fn x=true\/X.env.scope.names.lookup x=some .local:=by first|exact .inl rfl|exact .inr rfl)
  (c:swapsWith (.ListComp elt [⟨tg,iter,ifs,0⟩] scope pos) (some (.Name x py)) spos.line X.env=pure true:=by rfl)
  (d:∀x,foldedSetIterable iter X.env x=pure x:=by intro _;rfl):mX K E X (.Assign [.Name x py] (.ListComp elt [⟨tg,iter,ifs,0⟩] scope pos) spos) (ik (mY ix wi g tt te) (dI i)) gm:=
 let L:=wZ o e
 zp i j f l k L b (λ_ _ _ _ _=>a nd (ot L)) n h p c d
end
end L3
namespace L3
open PySem L2 PySem.Spec PyProof.Rows
abbrev zN:List Vq:=[.type "ValueError",.type "Exception",.type "BaseException",.type "object"]
section
variable {P:Program}{w:World}{K:W.Frag}{mg:Str->Option Value}{base:Heap}{x m qual:Str}{C:Addr}{st:Stmt}{N ps:List Str}{k j:Nat}{g:En->O}{sp:Sp}
noncomputable abbrev CE(_:Zx P w K mg base)(x:Str)(k:Nat)(F:List T->M T):Prop:=fN P w K mg base x k (mr K F)
noncomputable abbrev CQ(P:Program)(w:World)(K:W.Frag)(mg:Str->Option Value)(base:Heap)(k:Nat)(qual:Str)(st:Stmt)(N:List Str)(g:En->O):Prop:=∀{f:Addr} {cdv:Vq} {A:Around} {outer:List Env} {s:Sq} {H:Hp} {E:XK},N.Nodup->vc (c5 (fj P w) P w K mg base N qual (cu st) f cdv A outer s H E)->dh k (A.deeper (envOfC qual (cu st) s.heap.objs.size f cdv))->∃t,gQ K E (c5 (fj P w) P w K mg base N qual (cu st) f cdv A outer s H E) (cQ st) t g
def kH(_:Zx P w K mg base) k F N ps (e:F=gS ps.length N.length g) (D:cD K mg x st) (n:CQ P w K mg base k x st N g) (S:dC N ps (cu st):=by constructor<;>first|rfl|decide +kernel)
  (r:Al x x st ps:=by first|exact λ_ _ _ _ _ _ _ _=>rfl|exact λ_ _ _ _ _ _ _=>rfl|exact λ_ _ _ _ _ _ _ _ _=>rfl|exact λ_ _ _ _ _ _ _ _ _ _=>rfl) :
  fN P w K mg base x (k+1) (mr K F):=e▸uH D S (λa b c d e f q l=>gI (r a b c d e f) q l) (λo H Q E h=>l3 h) λf p A i s H o Q E hr h=>let ⟨t,hp⟩:=n S.nd (λ_ h=>fJ h) hr;⟨t,hp.ps,mR hp.ms h⟩
end
section
variable {P:Program}{w:World}{K:W.Frag}{mg:Str->Option Value}{base:Heap}{N:List Str}{qual:Str}{scope:Scope}{f:Addr}{cd:Vq}{A:Around}{outer:List Env}{s₀:Sq}{H₀:Hp}{E:XK}
def eA{j}(ex:W.nsIn K mainGlobals x=some (some (.ref C)))(q:W.excIn K C zN "ValueError.__new__" = true)
  (c:Gl (c5 (fj P w) P w K mg base N qual scope f cd A outer s₀ H₀ E) x:=by rfl) (a:(x==("__debug__" : Str))=false:=by decide)
  (b:starEach [.Constant (.str y) j p2] (envOfC qual scope s₀.heap.objs.size f cd)=[(false,eval (.Constant (.str y) j p2) (envOfC qual scope s₀.heap.objs.size f cd))]:=by rfl) :
  mX K E (c5 (fj P w) P w K mg base N qual scope f cd A outer s₀ H₀ E) (.Raise (some (.Call (.Name x np) [.Constant (.str y) j p2] [] cpos)) none pos) (λ_ _ H=>E (.ref C) none H) (λ_=>.er C none):=
 ⟨uX ex q PySem.F.excBase_ValueError (by decide +kernel) PySem.F.excBase_ValueError (cS mK eK) (λ_ _ _ h=>⟨(by show 1<=sizeLine;decide),h⟩) c a b,λe i F H g d D r q=>q F H r.gr⟩
def cV:dP (fj P w) (c5 (fj P w) P w K mg base N qual scope f cd A outer s₀ H₀ E) E:=rR λ_ _ _ h=>h
end
section
variable {K:W.Frag}{E:XK}{X:Cx}{x m:Str}{C:Addr}{k j:Nat}{Fn:List T->M T}{e o:Expr}{es:List Expr}{tr:TA}{fr:Pe->M (List T)}{ta:TE}{fa:Pe->M T}{p pos apos:Pos}
def cP(h:fN X.prog X.w X.K X.mg X.base x j (mr K Fn))(hr:dh k X.A)(d:dP (fj X.prog X.w) X E)(c:pQ K E X (e::es) tr fr)(f:j<=k:=by decide)(i:Gl X x:=by rfl)
  (b:(x==("__debug__" : Str))=false:=by decide) (g:starEach (e::es) X.env=(false,eval e X.env)::starEach es X.env:=by rfl) (a:(backTo pos (starEach es X.env)).any (·.1)=false:=by rfl) :
  Pm K E X (.Call (.Name x p) (e::es) [] pos) (i3 (mr K Fn) [] E tr) (dg fr Fn):=⟨t5 (h.mono f) hr d c.pa i b g a,xr c.ma⟩
def fg(h:gQ K E X.nox sts t g):gQ K E X sts t g:=⟨h.ps.nox,h.ms⟩
end
section
variable {K:W.Frag}{E:XK}
noncomputable def CU(K:W.Frag)(E:XK)(t:TS)(g:En->O):Prop:=∀(a b F H:Hp) σ ρ D,Sr K ⟨a,[]⟩ b F H σ ρ->(g ρ).res K E ⟨a,[]⟩ b F D->t D σ H
def yp{c:L2.St}(g:Gr F0 H0 F H)(d:i≠j)(a:c.length=n)(s:c[j]? = some (some (.str y))):Sr K ⟨F0,[]⟩ H0 F H (c.set i none) ((List.replicate n none).set j (some (.p (.str y)))):=by
 have at_:∀(l:Nat) (u:W),((List.replicate n none).set j (some (W.p (.str y))))[l]? = some (some u)->l=j/\j<n/\u=.p (.str y):=λl u e=>by
  by_cases a:j=l
  .subst a;by_cases b:j<n
   .rw[List.getElem?_set_self (by simpa using b)]at e;cases e;exact⟨rfl,b,rfl⟩
   .rw[List.getElem?_eq_none (by simpa using b)]at e;cases e
  .rw[ao a,List.getElem?_replicate]at e;split at e<;>cases e
 refine⟨g,by simp[a],λl t e=>?_,⟨λ_=>0,λl o e=>?_,λl m o v e=>?_⟩,λ_ r=>(nomatch r),λ_ _ _ h=>(by cases h),⟨λl f e=>?_,λl m f k e=>?_⟩⟩
 .obtain⟨rfl,b,q⟩:=at_ _ _ e;cases q;exact⟨.str y,by rw[ao d,s],.str y⟩
 all_goals (obtain⟨_,_,q⟩:=at_ _ _ e;cases q)
structure vi(K:W.Frag)(E:XK)(X:Cx)(sts:List Stmt)(t:TS)(g:En->O):Prop where
 ps:kq X sts t
 ms:CU K E t g
def rL{st:Stmt}{b:List Stmt}(h:mX K E X st t g)(h':vi K E X b u g'):vi K E X (st::b) (l6 t u) (cK g g'):=⟨gq h.ps h'.ps,λc f F H k d D r q=>by
 refine h.ms ⟨c,[]⟩ f F H k d _ r ?_;unfold cK at q;cases e:g d with
 |nx ρ'=>rw[e]at q;intro j l a s i;exact h'.ms c f j l a ρ' D i (O.res.go q s)
 |_=>rw[e]at q;exact q⟩
end
section
variable {P:Program}{w:World}{K:W.Frag}{mg:Str->Option Value}{base:Heap}{x:Str}{st:Stmt}{g:En->O}
def uT(i:CU K E t g)(h:mr K (gS k N.length g) vs H Q E):t {nx:=λ_ b=>Q .non b,rt:=Q} (eP N vs) H:=by
 obtain⟨a,d,s,r,q⟩:=h;unfold gS at q;by_cases c:a.length=k
 .rw[aO c]at q;refine i d H d H _ _ _ (kf s r) ?_;cases e:g (eS N.length a) with
  |bad=>rw[e]at q;exact q
  |nx ρ=>rw[e]at q;exact λl b j _ f=>q .non l b f.gr .non
  |rt t=>rw[e]at q;exact q
  |rf a=>rw[e]at q;exact kF.of q
  |rn a us=>rw[e]at q;exact kT.of q
  |bk ρ=>rw[e]at q;exact q.elim
  |ct ρ=>rw[e]at q;exact q.elim
  |er C n=>rw[e]at q;exact q
 .rw[aP c]at q;exact q.elim
def Ce(_:Zx P w K mg base) k F N ps (e:F=gS ps.length N.length g) (D:cD K mg x st)
  (m:∀{f:Addr} {j:Vq} {A:Around} {i:List Env} {s:Sq} {H:Hp} {E:XK},N.Nodup->vc (c5 lI P w K mg base N x (cu st) f j A i s H E).nox->dh k (A.deeper (envOfC x (cu st) s.heap.objs.size f j))->∃t,vi K E (c5 lI P w K mg base N x (cu st) f j A i s H E).nox (cQ st) t g)
  (S:dC N ps (cu st):=by constructor<;>first|rfl|decide +kernel)
  (p:Al x x st ps:=by first|exact λ_ _ _ _ _ _ _ _=>rfl|exact λ_ _ _ _ _ _ _=>rfl|exact λ_ _ _ _ _ _ _ _ _=>rfl|exact λ_ _ _ _ _ _ _ _ _ _=>rfl) :
  eD P w K mg base x (k+1) (mr K F):=e▸l5 D S (λa b c d e f o l=>gI (p a b c d e f) o l) (λn H Q E h=>l3 h) λf j A i s H n Q E hr h=>let ⟨t,hp⟩:=m S.nd (λ_ h=>fJ h) hr;⟨t,hp.ps,uT hp.ms h⟩
end
section
variable {K:W.Frag}{E:XK}
def zZ:bootBuiltins "ValueError" = some (.type "ValueError"):=by decide +kernel
structure Xk(K:W.Frag)(x:Str)(C Cut:Addr):Prop where
 ns:W.nsIn K mainGlobals x=some (some (.ref C))
 ex:W.excIn K C zN "ValueError.__new__" = true
 xc:iN K C
 su:W.mroIn K C (.ref Cut)=some true
 va:W.kitOne K (.ref C) (.type "ValueError")=some true
def AS(ns:W.nsIn K mainGlobals x=some (some (.ref C)))(ex:W.excIn K C zN "ValueError.__new__" = true)
  (d:W.findIn K (.ref C) "__getattribute__" = some (some (.builtin "BaseException.__getattribute__"))) (f:W.findIn K (.ref C) "__getattr__" = some none) (e:W.findIn K (.ref C) "__class__" = some (some (.builtin "object.__class__")))
  (a:W.specialIn K (.builtin "object.__class__") "__get__" = some (some (.builtin "getset_descriptor.__get__"))) (c:W.takesIn K (.builtin "object.__class__")=some true) (x5:W.mroIn K C (.type "object")=some true) (x6:W.mroIn K C (.type "BaseException")=some true)
  (b:W.mroIn K C (.ref Cut)=some true) (g:W.mroIn K C (.type "ValueError")=some true):Xk K x C Cut:=⟨ns,ex,⟨d,f,e,a,c,x5,x6,gL x6⟩,b,uq (by decide +kernel) g⟩
def iu(n:C≠D)(t:W.typeIn K (.ref D)=some (.type "type"))(o:W.mroIn K D (.type "object")=some true)(s:W.mroIn K C (.ref D)=some false):W.kitOne K (.ref C) (.ref D)=some false:=wG n t (gL o) s
end
def ph(t:TT)(c:L2.St)(H:Hp)(b:Bool):Prop:=∀Q:Bool->Hp->Prop,(∀a,cC H a->Q b a)->t c H Q
abbrev zQ(K:W.Frag)(ea C:Addr):List V->Hp->VK->Prop:=λxs H Q=>∃d b,xs=[V.ref ea,d]/\iN K C/\qO K H C d b/\Q (V.bl b) H
section
variable {K:W.Frag}{σ:L2.St}{H:Hp}{i:Nat}{ea C D:Addr}{a b:Bool}{t u:TT}
def h8(c:σ[i]? = some (some (.ref ea)))(x:iN K C)(k:W.kitOne K (.ref C) (.ref D)=some b):ph (tB (vb (zQ K ea C) (dQ (hI i) (dQ (tC (.ref D)) ib)))) σ H b:=λQ q=>⟨_,c,_,b,rfl,x,.own k,b,rfl,q H (.refl _)⟩
def sj{T:String}(c:σ[i]? = some (some (.ref ea)))(x:iN K C)(k:W.kitOne K (.ref C) (.type T)=some b):ph (tB (vb (zQ K ea C) (dQ (hI i) (dQ (tC (.ty T)) ib)))) σ H b:=λQ q=>⟨_,c,_,b,rfl,x,.ty k,b,rfl,q H (.refl _)⟩
def jJ(h:ph t σ H a):ph (xl t) σ H (!a):=λQ q=>h _ q
def jK(h:ph t σ H true)(h':∀c,cC H c->ph u σ c b):ph (ue t u) σ H b:=λQ q=>h _ λc s=>by rw[aO rfl];exact h' c s Q λd e=>q d (s.trans e)
def nH(h:ph t σ H false):ph (ue t u) σ H false:=λQ q=>h _ λc s=>by rw[aP (by decide)];exact q c s
def qm{D:gN}(h:ph t σ H b)(k0:b=false->∀c,cC H c->D.nx σ c)(k1:b=true->∀c,cC H c->v D σ c):wx t v qy D σ H:=h _ λc s=>by
 cases b with
 |false=>rw[aP (by decide)];exact k0 rfl c s
 |true=>rw[aO rfl];exact k1 rfl c s
def mZ(c:σ[i]? = some (some (.ref ea)))(x:iN K C)(k:W.kitAny K (.ref C) ([D1,D2,D3,D4].map Value.ref)=some b) :
  ph (tB (vb (zQ K ea C) (dQ (hI i) (dQ (vZ (dQ (tC (.ref D1)) (dQ (tC (.ref D2)) (dQ (tC (.ref D3)) (dQ (tC (.ref D4)) ib))))) ib)))) σ H b:=λQ q=>
 ⟨_,c,(by show 4<=sizeLine;decide),λe d=>⟨_,b,rfl,x,qO.tup cy k,b,rfl,q _ (gh d)⟩⟩
def p7(c:σ[i]? = some (some (.bl b))):ph (tB (hI i)) σ H b:=λQ q=>⟨_,c,b,rfl,q H (.refl _)⟩
def qw{d e:TE}{D:gN}(h:ph (tB d) σ H false)(h':∀c,cC H c->ph (tB e) σ c true)(k:∀c,cC H c->z D (σ.set j (some (.bl false))) c):l6 (ik (wc d (qu e)) (dI j)) z D σ H:=h _ λc s=>by rw[aP (by decide)];exact h' c s _ λf g=>k f (s.trans g)
def qj{D:gN}(h:ph t σ H b)(k:∀c,cC H c->z D (σ.set j (some (if b=true then v else w))) c):l6 (ik (BQ t (tC v) (tC w)) (dI j)) z D σ H:=h _ λc s=>by
 cases b with
 |false=>rw[aP (by decide)];exact k c s
 |true=>rw[aO rfl];exact k c s
end
end L3
namespace L3
open PySem L2 PySem.Spec PyProof.Rows
def DO(t:TE)(b:L2.St)(H:Hp)(v:V):Prop:=∀Q:VK,(∀a,cC H a->Q v a)->t b H Q
end L3
namespace L3
open PySem L2 PySem.Spec PyProof.Rows
section
variable {K:W.Frag}{E:XK}{tr:TA}{fr:Pe->M (List T)}{C:Addr}
@[simp] noncomputable def vP(C:Addr)(fr:Pe->M (List T)):En->O:=λa=>.of (fr (vw a)) λb=>match b with
 |[.int i]=>.er C (some i)
 |_=>.bad
def v9(l:MA K E tr fr):MS K E (λ_ e H=>tr e H λf i=>∃y,f=[y]/\∀dx,i dx=none->E (.ref C) (some dx) (c6 i dx (.xd [("at",y)]))) (vP C fr):=λo v F H e m D r q=>by
 obtain⟨k,u,c,V,h⟩:=r.lend;refine l k H e (vw m) _ c.fh V ((O.res_of q).mono (λt z f p s g j=>?_) λC n z=>z.go c);split at z
 .cases j with
  |cons a b=>cases a;cases b;exact⟨_,rfl,λdx d=>z _ _ ((c.trans g).trans (Gr.new g.fh d)) dx cy⟩
 .exact z.elim
end
section
variable {P:Program}{w:World}{K:W.Frag}{mg:Str->Option Value}{base:Heap}{C:Addr}{k j:Nat}
structure qt(P:Program)(w:World)(K:W.Frag)(mg:Str->Option Value)(base:Heap)(C:Addr)(k:Nat):Prop where
 ex:∃f fd ps,fy P w K mg base lI k f fd ps (CG K C "at")/\Ab K C "__init__" f/\gO K fd ps []
def Ar{st:Stmt}(_:Zx P w K mg base) k (B:rD K C "at") (D:gW K C "__init__" qual st)
  (n:∀{f:Addr} {i:Vq} {A:Around} {g:List Env} {s:Sq} {H:Hp} {E:XK},kq (c5 lI P w K mg base ["self", "at"] qual (cu st) f i A g s H E) (cQ st) (AK K (hI 0) (hI 1) "at"))
  (S:dC ["self", "at"] ["self", "at"] (cu st):=by constructor<;>first|rfl|decide +kernel) (z:Al "__init__" qual st ["self", "at"]:=by exact λ_ _ _ _ _ _ _ _=>rfl):qt P w K mg base C (k+1):=by
 obtain⟨f,I,F,x⟩:=D.ex;have u:=F.binds λa b c d e f v m=>gI (z a b c d e f) v m;obtain⟨G,N,kV,p,R,L,i,J,r,rfl,lk,l⟩:=F.ex;refine⟨f,_,_,qr lk l S (λo H Q E h=>?_) (λA g s H o Q E hr h=>?_),x,u⟩
 .obtain⟨a,t,y,rfl,_⟩:=h;rfl
 .obtain⟨a,t,y,rfl,e,q⟩:=h;exact⟨_,n,y,rfl,.ref a,rfl,a,C,t,rfl,e,B,q⟩
end
section
variable {P:Program}{w:World}{K:W.Frag}{mg:Str->Option Value}{base:Heap}{N:List Str}{qual:Str}{scope:Scope}{f:Addr}{cd:Vq}{A:Around}{outer:List Env}{s₀:Sq}{H₀:Hp}{E:XK}
def nc{a:Expr}{e:TA}{c:Pe->M (List T)}(ex:W.nsIn K mainGlobals x=some (some (.ref C)))(q:jj K C zN "ValueError.__new__" = true)(I:qt P w K mg base C j)(hr:dh k (A.deeper (envOfC qual scope s₀.heap.objs.size f cd)))
  (g:pQ K E (c5 (fj P w) P w K mg base N qual scope f cd A outer s₀ H₀ E) [a] e c) (m:j+1<=k:=by decide)
  (r:Gl (c5 (fj P w) P w K mg base N qual scope f cd A outer s₀ H₀ E) x:=by rfl) (b:(x==("__debug__" : Str))=false:=by decide)
  (o:starEach [a] (envOfC qual scope s₀.heap.objs.size f cd)=[(false,eval a (envOfC qual scope s₀.heap.objs.size f cd))]:=by rfl) :
  mX K E (c5 (fj P w) P w K mg base N qual scope f cd A outer s₀ H₀ E) (.Raise (some (.Call (.Name x np) [a] [] cpos)) none pos) (λ_ n H=>e n H λi d=>∃y,i=[y]/\∀dx,d dx=none->E (.ref C) (some dx) (c6 d dx (.xd [("at",y)]))) (vP C c):=by
 obtain⟨s,u,t,p,h,l⟩:=I.ex;exact⟨qD ex q h PySem.F.excBase_ValueError (by decide +kernel) PySem.F.excBase_ValueError p l (hr.mono m) g.pa r b o,v9 g.ma⟩
end
section
variable {P:Program}{w:World}{K:W.Frag}{mg:Str->Option Value}{base:Heap}{x qual:Str}{C:Addr}{k j n:Nat}{f1 f2:Str}{g1 g2:Pe->M T}{N:List Str}{st:Stmt}
noncomputable def jX(K:W.Frag)(C:Addr)(d:List T->M T):Sp:=λf H Q E=>∃x e c b a,f=.ref x::c/\H x=some (.ins C e [])/\a x=none/\cC a H/\cE K a c b/\(d b).res (kO K a H x Q) (kE E a H)
structure lD(P:Program)(w:World)(K:W.Frag)(mg:Str->Option Value)(base:Heap)(x:Str)(C:Addr)(k:Nat)(sp:Sp):Prop where
 ex:∃f fd ps,fy P w K mg base (fj P w) k f fd ps sp/\Mk K C f/\gO K fd ps []
 mgx:mg x=some (.ref C)
theorem vE{st:Stmt}(cl:xB K C)(n1:fV K C f1)(n2:fV K C f2)(ne:f1≠f2)(hno:∀ρ C n,g2 ρ≠.er C n)(D:gW K C "__init__" qual st)(S:dC N N (cu st))
  (mk:W.makesIn K C=true) (kp:W.keepIn K (.ref C)=true) (hm:mg x=some (.ref C)) (hN:N.length=n+1)
  (hb:∀(kV L pm:Vq) (an:Oq Addr) (l ct:Vq) (G:List Vq),G.length=N.length->bindArgs (W.fnOf "__init__" qual (dR st) (cQ st) (cu st) .none kV L pm an l ct) ⟨G,[]⟩=pure (N.zip G))
  (hT:∀(f:Addr) (l:Vq) (A:Around) (g:List Env) (s:Sq) (H:Hp) (E:XK),dh k (A.deeper (envOfC qual (cu st) s.heap.objs.size f l))->Co K E (c5 (fj P w) P w K mg base N qual (cu st) f l A g s H E) (cQ st) f1 f2 g1 g2) :
  lD P w K mg base x C (k+1) (jX K C (nr C n f1 f2 g1 g2)):=by
 obtain⟨fi,fd,F,Mm⟩:=D.ex;have FB:=F.binds hb;obtain⟨oc,od,kV,L,pm,an,l,ct,osl,rfl,lk,hcd⟩:=F.ex;refine⟨⟨fi,_,N,qr lk hcd S (λvs H Q E h=>?_) (λA g s H vs Q E hr h=>?_),⟨mk,Mm.at_,Mm.fn,kp⟩,FB⟩,hm⟩
 .obtain⟨x,I,G,B,Y,rfl,hx,fx,s,r,q⟩:=h;unfold nr at q;by_cases X:B.length=n
  .rw[ax,r.length,X,hN]
  .rw[aP X]at q;exact q.elim
 .obtain⟨x,I,G,B,Y,rfl,hx,fx,s0,r,q⟩:=h;obtain⟨t1,t2,ps,m1,m2⟩:=(hT fi l A g s H E hr).ex;refine⟨_,ps,?_⟩;unfold nr at q;by_cases X:B.length=n
  .rw[aO X]at q;have V:eF K Y (eP N (.ref x::G)) (none::B.map some):=λi t e=>by
    cases i with
    |zero=>cases e
    |succ i=>
     rw[List.getElem?_cons_succ,au]at e;cases hq:B[i]? with
     |none=>rw[hq]at e;cases e
     |some y=>rw[hq]at e;cases e;obtain⟨v,a,b⟩:=r.get hq;refine⟨v,?_,b⟩;unfold L2.eP;rw[List.getElem?_append_left (by rw[av,ax];exact Nat.succ_lt_succ (aa.mp a).1),au,List.getElem?_cons_succ,a];rfl
   cases R:g1 (none::B.map some) with
   |bad=>rw[R]at q;exact q.elim
   |er C' n'=>rw[R]at q;exact m1 Y H _ _ _ s0 V (by rw[R];exact q)
   |ok a=>
    rw[R,L3.M.bind_ok]at q;cases e2:g2 (none::B.map some) with
    |bad=>rw[e2]at q;exact q.elim
    |er C' n'=>exact absurd e2 (hno _ _ _)
    |ok b=>
     rw[e2,L3.M.bind_ok]at q;refine m1 Y H _ _ _ s0 V ?_;rw[R];intro v Z H1 c r1;have hx1:=c.hh _ _ hx;have J:Z x=none:=by
      cases z:Z x with
      |none=>rfl
      |some o=>
       rcases c.nw x (by rw[z];exact λy=>nomatch y) with y|y|⟨_,y⟩
       .exact absurd fx y
       .rw[hx]at y;cases y
       .rw[hx]at y;cases y
     refine⟨.ref x,rfl,x,C,I,[],rfl,hx1,cl,n1,by decide,?_⟩;have s1:cC Z (c6 H1 x (.ins C I (gP f1 v []))):=λp o h=>by
      have m:p≠x:=λz=>by rw[z,J]at h;cases h
      rw[cx m];exact c.fh p o h
     refine m2 Z _ _ _ _ s1 (V.mono c.ff) ?_;rw[e2];intro v2 U H3 d r2;have hx3:=d.hh x _ cy;have fx2:U x=none:=by
      cases z:U x with
      |none=>rfl
      |some o=>
       rcases d.nw x (by rw[z];exact λy=>nomatch y) with y|y|⟨_,y⟩
       .exact absurd J y
       .rw[cy]at y;cases y
       .rw[cy]at y;cases y
     refine⟨.ref x,rfl,x,C,I,_,rfl,hx3,cl,n2,by show 1<1000;decide,?_⟩;have ep:gP f2 v2 (gP f1 v [])=[(f1,v),(f2,v2)]:=by show (if f1=f2 then _ else _)=_;rw[aP ne];rfl
     have sF:cC U (c6 U x (.ins C I [(f1,v),(f2,v2)])):=gh fx2;refine q (c6 U x (.ins C I [(f1,v),(f2,v2)])) _ ((c.ff.trans d.ff).trans sF) (λp o h=>?_) (λp o m h=>?_) (λp m=>?_) (.obj cy (.cons (r1.mono (d.ff.trans sF)) (.cons (r2.mono sF) .nil)))
     .by_cases m:p=x
      .subst m;rw[cy]at h;rw[cy,ep];exact .of h
      .rw[cx m]at h ⊢;exact d.fh p o h
     .rw[cx m];exact xX (c.hh p o h) λo' e=>d.hh p o' (by rw[cx m];exact e)
     .by_cases u:p=x
      .exact .inr (.inr (.inl u))
      .rw[cx u]at m;rcases d.nw p m with z|z|⟨xs,z⟩
       .rcases c.nw p z with y|y|y
        .exact .inl y
        .exact .inr (.inl y)
        .exact .inr (.inr (.inr y))
       .rw[cx u]at z;exact .inr (.inl (cN c.hh z))
       .rw[cx u]at z;cases y:H p with
        |none=>exact .inr (.inl rfl)
        |some o=>exact .inr (.inr (.inr ⟨xs,by have k:=c.hh p o y;rw[z]at k;rw[lj k λ_ _ y=>nomatch y]⟩))
  .rw[aP X]at q;exact q.elim
def Bq(_:Zx P w K mg base) k F N (e:F=nr C n f1 f2 g1 g2) (i:∀ρ C n,g2 ρ≠.er C n) (z:xB K C) (y:fV K C f1) (q:fV K C f2) (B:W.makesIn K C=true) (o:W.keepIn K (.ref C)=true) (m:mg x=some (.ref C)) (D:gW K C "__init__" qual st)
  (p:∀{f:Addr} {h:Vq} {A:Around} {g:List Env} {s:Sq} {H:Hp} {E:XK},dh k (A.deeper (envOfC qual (cu st) s.heap.objs.size f h))->Co K E (c5 (fj P w) P w K mg base N qual (cu st) f h A g s H E) (cQ st) f1 f2 g1 g2)
  (S:dC N N (cu st):=by constructor<;>first|rfl|decide +kernel) (u:Al "__init__" qual st N:=by exact λ_ _ _ _ _ _ _ _ _=>rfl) (ne:f1≠f2:=by decide) (v:N.length=n+1:=by rfl) :
  lD P w K mg base x C (k+1) (jX K C F):=e▸vE z y q ne i D S B o m v (λa b c d e f t l=>gI (u a b c d e f) t l) λ_ _ _ _ _ _ _ r=>p r
def yw ρ C n:cn i ρ≠.er C n:=by unfold cn;split<;>exact λh=>nomatch h
end
section
variable {X:Cx}{K:W.Frag}{E:XK}{x:Str}{C:Addr}{k j:Nat}{Fn:List T->M T}{e:Expr}{es:List Expr}{tr:TA}{fr:Pe->M (List T)}{p pos:Pos}
def yW{f:List T->M T}(Y:MA K E tr fr)(N:∀g t,f g=.ok t->Fn g=.ok t)(S:∀g,f g≠.bad->(∀t,f g≠.ok t)->E'=E/\f g=Fn g):ME K E (qg C (jX K C Fn) [] E' tr) (λρ=>(fr ρ).bind f):=λF H σ ρ Q s V q=>by
 refine Y.run s V q λg L R D i r1 m=>?_;intro x v w l G;have u:c6 D v (.own x) x=none:=by rw[cx (λz=>G z.symm)];exact w
 have A:cC D (c6 (c6 D v (.own x)) x (.ins C v [])):=(gh l).trans (gh u);refine⟨x,v,L,g,R,by rw[bw],cy,cN i.fh w,i.fh.trans A,r1,?_⟩;cases e:f g with
 |bad=>rw[e]at m;exact m.elim
 |er C' n=>obtain⟨rfl,e2⟩:=S g (by rw[e];exact λz=>nomatch z) (λt=>by rw[e];exact λz=>nomatch z);rw[<-e2,e];rw[e]at m;exact m.go ((Gr.new' i.fh l).trans (Gr.new' (i.fh.trans (gh l)) u))
 |ok t=>
  rw[e]at m;rw[N g t e];intro P Z a b c d r;refine⟨rfl,m (.ref x) P Z ⟨i.ff.trans a,b,λp o h=>?_,λp I=>?_⟩ r⟩
  .have h1:=i.hh p o h;have B:p≠x:=iH h1 w;exact xX (i.hh.trans A p o h) λU e=>c p U B e
  .rcases d p I with z|z|z|⟨J,z⟩
   .exact i.nw p z
   .exact .inr (.inl (cN i.hh (cN A z)))
   .rw[z];exact .inr (.inl (cN i.hh w))
   .cases y:H p with
    |none=>exact .inr (.inl rfl)
    |some o=>exact .inr (.inr ⟨J,by have k:=i.hh.trans A p o y;rw[z]at k;rw[lj k λ_ _ y=>nomatch y]⟩)
def zL(h:lD X.prog X.w X.K X.mg X.base x C k sp)(hr:dh (k+1) X.A)(g:dP (fj X.prog X.w) X E)(i:PA X (e::es) tr)(m:Gl X x:=by rfl)
  (d:(x==("__debug__" : Str))=false:=by decide) (l:starEach (e::es) X.env=(false,eval e X.env)::starEach es X.env:=by rfl) (c:(backTo pos (starEach es X.env)).any (·.1)=false:=by rfl) :
  PE X (.Call (.Name x p) (e::es) [] pos) (qg C sp [] E tr):=by
 obtain⟨f,n,o,F,a,b⟩:=h.ex;exact wI a F hr m h.mgx b .nil g i d l c
def zl(h:lD X.prog X.w X.K X.mg X.base x C j (jX K C Fn))(hr:dh k X.A)(d:dP (fj X.prog X.w) X E)(c:pQ K E X (e::es) tr fr)(f:j+1<=k:=by decide)(i:Gl X x:=by rfl)
  (b:(x==("__debug__" : Str))=false:=by decide) (g:starEach (e::es) X.env=(false,eval e X.env)::starEach es X.env:=by rfl) (a:(backTo pos (starEach es X.env)).any (·.1)=false:=by rfl) :
  Pm K E X (.Call (.Name x p) (e::es) [] pos) (qg C (jX K C Fn) [] E tr) (dg fr Fn):=⟨zL h (hr.mono f) d c.pa i b g a,yW c.ma (λ_ _ h=>h) λ_ _ _=>⟨rfl,rfl⟩⟩
end
section
variable {K:W.Frag}{E:XK}
def xo{c:L2.St}{y:Int}(g:Gr F0 H0 F H)(d:i≠j)(a:c.length=n)(s:c[j]? = some (some (.int y))):Sr K ⟨F0,[]⟩ H0 F H (c.set i none) ((List.replicate n none).set j (some (.p (.int y)))):=by
 have at_:∀(l:Nat) (u:W),((List.replicate n none).set j (some (W.p (.int y))))[l]? = some (some u)->l=j/\j<n/\u=.p (.int y):=λl u e=>by
  by_cases a:j=l
  .subst a;by_cases b:j<n
   .rw[List.getElem?_set_self (by simpa using b)]at e;cases e;exact⟨rfl,b,rfl⟩
   .rw[List.getElem?_eq_none (by simpa using b)]at e;cases e
  .rw[ao a,List.getElem?_replicate]at e;split at e<;>cases e
 refine⟨g,by simp[a],λl t e=>?_,⟨λ_=>0,λl o e=>?_,λl m o v e=>?_⟩,λ_ r=>(nomatch r),λ_ _ _ h=>(by cases h),⟨λl f e=>?_,λl m f k e=>?_⟩⟩
 .obtain⟨rfl,b,q⟩:=at_ _ _ e;cases q;exact⟨.int y,by rw[ao d,s],.int y⟩
 all_goals (obtain⟨_,_,q⟩:=at_ _ _ e;cases q)
def wH{a:L2.St}{H:Hp}(b:a[i]? = some (some (.ref ea)))(x:iN K C)(c:rD K C "at")(h:H dx=some (.xd [("at",y)])):DO (AU K ea C (some dx) (hI i) "at") a H y:=λQ q=>⟨_,b,rfl,x,c,dx,_,y,rfl,h,rfl,q H (.refl _)⟩
end
end L3
namespace L3
open PySem L2 PySem.Spec PyProof.Rows
section
variable {K:W.Frag}{E:XK}{X:Cx}{ta tb to:TE}{fa fb fo:Pe->M T}{a b o:Expr}{pos apos:Pos}
@[simp] noncomputable def sf(fa:Pe->M T):Pe->M (List T):=λd=>(fa d).bind λx=>match x with
 |.str z=>if z.cps.all (· < 128) then .ok (z.cps.toList.map λc=>T.str ⟨#[c]⟩) else .bad
 |_=>.bad
def zh(z:Str) F:kJ K (CA z) (z.cps.toList.map λc=>T.str ⟨#[c]⟩) F where
 go:=λi H s d=>by
  have d:i<z.cps.size:=by simpa using d
  exact⟨z.cps[i],by simp[d]⟩
 stop:=λH s=>by show z.cps[_]? = none;simp
 yld:=λi t g H x j k h e y=>by obtain⟨rfl,c,f,rfl⟩:=y;rw[au,Array.getElem?_toList,f]at e;cases e;exact⟨g,.refl h,.str _⟩
def zY(i:ME K E ta fa):MI K E (yc ta) (sf fa):=λF H k j R s V q=>by
 refine i.run s V q λx v d f g e c=>?_;cases e with
 |str z=>
  dsimp only at c;by_cases h:z.cps.all (· < 128)=true
  .rw[aO h]at c;exact⟨z,rfl,h,c _ d f g (zh z d)⟩
  .rw[aP h]at c;exact c.elim
 |_=>exact c.elim
def mE(c:Pm K E X a ta fa):sq K E X tg a (yc ta) (sf fa):=⟨yj c.pe,zY c.me⟩
def oB(z:Str)(H:Hp):Bb K "str" (.str z) H:=rfl
@[simp] noncomputable def Cd(fo fa:Pe->M T):Pe->M T:=λc=>(fo c).bind λx=>match x with
 |.str z=>(fa c).bind λy=>(match y with
  |.str u=>.ok (.bl (Df z u))
  |_=>.bad)
 |_=>.bad
def rk(f:ME K E to fo)(j:ME K E ta fa):ME K E (xW K "str" l7 to (dQ ta ib)) (Cd fo fa):=λF H m p Q s V q=>by
 refine f.run s V q λx v n h c k e=>?_;cases k with
 |str z=>
  refine⟨oB z h,?_⟩;refine j.run c.fh (V.mono c.ff) e λy w i g g2 l d=>?_;cases l with
  |str u=>exact⟨z,u,rfl,rfl,d _ i g (c.trans g2) (.bl _)⟩
  |_=>exact d.elim
 |_=>exact e.elim
@[simp] noncomputable def Aj(fo fa:Pe->M T):Pe->M (List T):=λd=>(fo d).bind λx=>match x with
 |.str z=>(fa d).bind λy=>(match y with
  |.str ⟨⟨[c]⟩⟩=>if z.length<sizeLine then .ok ((f9 c z.cps.toList).map λl=>T.str (m9 l)) else .bad
  |_=>.bad)
 |_=>.bad
theorem k6(F:Hp):∀c:List Str,cE K F (c.map V.str) (c.map T.str)
 |[]=>.nil
 |x::c=>.cons (.str x) (k6 F c)
def ug(m:ME K E to fo)(A:ME K E ta fa):MF K E (xW K "str" oU to (dQ ta ib)) (Aj fo fa):=λF H D I Q s V q=>by
 refine m.run s V q λx v G t i B k=>?_;cases B with
 |str z=>
  refine⟨oB z t,?_⟩;refine A.run i.fh (V.mono i.ff) k λy w j n g2 C d=>?_;split at d
  .rename_i c;cases C;by_cases h:z.length<sizeLine
   .rw[aO h]at d;refine⟨z,c,rfl,rfl,h,λp g=>?_⟩;have f:=i.trans g2;have r:=k6 (K:=K) j ((f9 c z.cps.toList).map m9);rw[aG,aG]at r;have l:H p=none:=by
     cases e:H p with
     |none=>rfl
     |some u=>exact absurd g (by have:=f.hh _ _ e;intro z;exact iH this z rfl)
    exact d p _ j (c6 n p _) (f.trans (.new' f.fh g)) l (cN f.fh g) cy r
   .rw[aP h]at d;exact d.elim
  .exact d.elim
 |_=>exact k.elim
def rH(h:Pm K E X o to fo)(i:Pm K E X e ta fa)(j:X.K=K:=by rfl)(d:attributeBase o "startswith" X.env (eval o X.env)=eval o X.env:=by rfl)
  (f:((backTo cpos (starEach [e] X.env)).all (λx=>!x.1)&&(backToKw cpos (keywordEach [] X.env)).all (λx=>x.1.isSome)
   && decide (([e]:List Expr).length+([]:List Keyword).length+(if ([]:List Keyword).isEmpty then 0 else 1)<30))=true:=by rfl)
  (c:(apos.endLine==cpos.line)=true:=by rfl) (g:starEach [e] X.env=(false,eval e X.env)::starEach [] X.env:=by rfl) (hplain:(backTo cpos (starEach [] X.env)).any (·.1)=false:=by rfl) :
  Pm K E X (.Call (.Attribute o "startswith" apos) [e] [] cpos) (xW K "str" l7 to (dQ ta ib)) (Cd fo fa):=by
 subst j;exact⟨qo PySem.F.plainAttrs_str PySem.F.slot_str_startswith PySem.F.type_str_startswith rE h.pe (cS i.pe eK g) d f c g hplain,rk h.me i.me⟩
def iJ(h:Pm K E X o to fo)(i:Pm K E X e ta fa)(j:X.K=K:=by rfl)(d:attributeBase o "split" X.env (eval o X.env)=eval o X.env:=by rfl)
  (f:((backTo cpos (starEach [e] X.env)).all (λx=>!x.1)&&(backToKw cpos (keywordEach [] X.env)).all (λx=>x.1.isSome)
   && decide (([e]:List Expr).length+([]:List Keyword).length+(if ([]:List Keyword).isEmpty then 0 else 1)<30))=true:=by rfl)
  (c:(apos.endLine==cpos.line)=true:=by rfl) (g:starEach [e] X.env=(false,eval e X.env)::starEach [] X.env:=by rfl) (hplain:(backTo cpos (starEach [] X.env)).any (·.1)=false:=by rfl) :
  uW K E X (.Call (.Attribute o "split" apos) [e] [] cpos) (xW K "str" oU to (dQ ta ib)) (Aj fo fa):=by
 subst j;exact⟨qo PySem.F.plainAttrs_str PySem.F.slot_str_split PySem.F.type_str_split uJ h.pe (cS i.pe eK g) d f c g hplain,ug h.me i.me⟩
def j4:List T->Option (List Str)
 |[]=>some []
 |.str x::ts=>(j4 ts).map (x :: ·)
 |_::_=>none
theorem jS:∀{d:List T} {c:List Str},j4 d=some c->d=c.map T.str
 |[],_,h=>by cases h;rfl
 |t::d,c,h=>by
  cases t<;>first|(cases h;done)|skip
  unfold j4 at h;obtain⟨r,e,rfl⟩:=b4.mp h;rw[jS e];rfl
theorem m4:∀{d:List V} {c:List Str},cE K F d (c.map T.str)->d=c.map V.str
 |_,[],h=>by cases h;rfl
 |_,x::c,h=>by
  cases h with
  |cons a b=>cases a;rw[m4 b];rfl
@[simp] noncomputable def xA(fo fa:Pe->M T):Pe->M T:=λc=>(fo c).bind λx=>match x with
 |.str z=>(fa c).bind λy=>(match y with
  |.lst ts=>(match j4 ts with
   |some ss=>if JoinOk z ss then .ok (.str (Txt.join z ss)) else .bad
   |none=>.bad)
  |_=>.bad)
 |_=>.bad
def vN(j:ME K E to fo)(n:ME K E ta fa):ME K E (xW K "str" uG to (dQ ta ib)) (xA fo fa):=λF H D I Q s V q=>by
 refine j.run s V q λx v G l d u i=>?_;cases u with
 |str z=>
  refine⟨oB z l,?_⟩;refine n.run d.fh (V.mono d.ff) i λy w m k g2 B c=>?_;cases B with
  |lst h r=>
   rename_i p C t;dsimp only at c;cases g:j4 t with
   |none=>rw[g]at c;exact c.elim
   |some ss=>
    rw[g]at c;dsimp only at c;have e:=jS g;subst e;have A:=m4 r;subst A;by_cases f:JoinOk z ss=true
    .rw[aO f]at c;exact⟨z,p,ss,rfl,rfl,g2.fh _ _ h,f,c _ m k (d.trans g2) (.str _)⟩
    .rw[aP f]at c;exact c.elim
  |_=>exact c.elim
 |_=>exact i.elim
def pZ(h:Pm K E X o to fo)(i:Pm K E X e ta fa)(j:X.K=K:=by rfl)(d:attributeBase o "join" X.env (eval o X.env)=eval o X.env:=by rfl)
  (f:((backTo cpos (starEach [e] X.env)).all (λx=>!x.1)&&(backToKw cpos (keywordEach [] X.env)).all (λx=>x.1.isSome)
   && decide (([e]:List Expr).length+([]:List Keyword).length+(if ([]:List Keyword).isEmpty then 0 else 1)<30))=true:=by rfl)
  (c:(apos.endLine==cpos.line)=true:=by rfl) (g:starEach [e] X.env=(false,eval e X.env)::starEach [] X.env:=by rfl) (hplain:(backTo cpos (starEach [] X.env)).any (·.1)=false:=by rfl) :
  Pm K E X (.Call (.Attribute o "join" apos) [e] [] cpos) (xW K "str" uG to (dQ ta ib)) (xA fo fa):=by
 subst j;exact⟨qo PySem.F.plainAttrs_str PySem.F.slot_str_join PySem.F.type_str_join xp h.pe (cS i.pe eK g) d f c g hplain,vN h.me i.me⟩
@[simp] noncomputable def jA:List T->M T
 |[.int i]=>if i.natAbs.log2<1920 then .ok (.str (toString i)) else .bad
 |_=>.bad
def t8 xs:M.NoE (jA xs):=λC n=>by unfold jA;split<;>first|(intro z;cases z;done)|(split<;>intro z<;>cases z)
def mW:MC K (λc H Q=>∃i,c=[.int i]/\i.natAbs.log2<1920/\Q (.str (toString i)) H) jA:=⟨t8,λF H d c Q s r q=>by
 unfold jA at q;split at q
 .rename_i i;cases r with
  |cons a b=>
   cases a;cases b;by_cases h:i.natAbs.log2<1920
   .rw[aO h]at q;exact⟨i,rfl,h,kV.now q s (.str _)⟩
   .rw[aP h]at q;exact q.elim
 .exact q.elim⟩
@[simp] noncomputable def uh:List T->M T
 |[.str x]=>if x.length<=640 then (match intText? x with
  |some n=>.ok (.int n)
  |none=>.bad) else .bad
 |_=>.bad
def vV xs:M.NoE (uh xs):=λC n=>by unfold uh;split<;>first|(intro z;cases z;done)|(split<;>first|(intro z;cases z;done)|(split<;>intro z<;>cases z))
def vS:MC K (λc H Q=>∃x n,c=[.str x]/\x.length<=640/\intText? x=some n/\Q (.int n) H) uh:=⟨vV,λF H d c Q s r q=>by
 unfold uh at q;split at q
 .rename_i x;cases r with
  |cons a b=>
   cases a;cases b;by_cases h:x.length<=640
   .rw[aO h]at q;cases e:intText? x with
    |none=>rw[e]at q;exact q.elim
    |some n=>rw[e]at q;exact⟨x,n,rfl,h,e,kV.now q s (.int _)⟩
   .rw[aP h]at q;exact q.elim
 .exact q.elim⟩
@[simp] noncomputable def qJ:T->T->M T
 |.str x,.str y=>.ok (.bl (inS x y))
 |_,_=>.bad
def vI x y:M.NoE (qJ x y):=λC n=>by unfold qJ;split<;>(intro z;cases z)
def zb:MR K (λy x H Q=>∃a b,y=.str a/\x=.str b/\Q (.bl (inS a b)) H) qJ:=⟨vI,λF H v w x y Q s c d q=>by
 unfold qJ at q;split at q
 .cases c;cases d;exact⟨_,_,rfl,rfl,kV.now q s (.bl _)⟩
 .exact q.elim⟩
def zw(d:Pm K E X a ta fa)(c:Pm K E X b tb fb)(e:behindInMarks .In b=false:=by rfl):Pm K E X (.Compare a [.In] [b] pos) (jN (λy x H Q=>∃a b,y=.str a/\x=.str b/\Q (.bl (inS a b)) H) ta tb) (cL qJ fa fb):=⟨mO zO d.pe c.pe e,og zb d.me c.me⟩
@[simp] noncomputable def Dm(fa:Pe->M T):Pe->M T:=λc=>(fa c).bind λx=>match x with
 |.str z=>if z.length<=sizeLine then .ok (.str (BL z)) else .bad
 |_=>.bad
def vC{j p1 p2}(d:Pm K E X a ta fa)(f:∀o r,letTemporaryGo a o r=pure ():=by intro _ _;rfl):Pm K E X (.Subscript a (.Slice (some (.Constant (.int 1) j p1)) none none p2) pos) (xZ ta) (Dm fa):=⟨wt d.pe f,λF H l m Q s V q=>by
 refine d.me.run s V q λx v i e g k c=>?_;cases k with
 |str z=>
  dsimp only at c;by_cases h:z.length<=sizeLine
  .rw[aO h]at c;exact⟨z,rfl,h,c _ i e g (.str _)⟩
  .rw[aP h]at c;exact c.elim
 |_=>exact c.elim⟩
def lk{c d:Type}[DecidableEq c](k:c):List (c×d)->Option d
 |[]=>none
 |p::r=>if p.1=k then some p.2 else lk k r
theorem oy{d e:Type}[DecidableEq d](k:d)(f:e->V):∀c:List (d×e),uC k (c.map λp=>(p.1,f p.2))=(lk k c).map f
 |[]=>rfl
 |p::r=>by
  unfold lk;rw[br,uC];by_cases h:p.1=k
  .rw[aO h,aO h];rfl
  .rw[aP h,aP h];exact oy k f r
@[simp] noncomputable def Dl(c:List (Str×Int))(fb:Pe->M T):Pe->M T:=λd=>(fb d).bind λy=>match y with
 |.str i=>(match lk i c with
  |some z=>.ok (.int z)
  |none=>.bad)
 |_=>.bad
def wJ{x:Str}{p:Pos}(c:List (Str×Int)){d:Addr}(g:X.mg x=some (.ref d)/\qM X.prog X.w X.K d (c.map λp=>(p.1,V.int p.2)))(h:Pm K E X b tb fb)(j:mU b:=by intro _ _;rfl)(t:Gl X x:=by rfl)(n:(x==("__debug__" : Str))=false:=by decide) :
  Pm K E X (.Subscript (.Name x p) b pos) (jN (λx y H Q=>∃i v,x=.ref d/\y=.str i/\uC i (c.map λp=>(p.1,V.int p.2))=some v/\Q v H) (tC (.ref d)) tb) (Dl c fb):=
 ⟨xN (vF g.2) (ei t g.1 rfl n) h.pe j,λF H u A Q s V q=>by
  refine h.me.run s V q λy w m k l r f=>?_;cases r with
  |str i=>
   dsimp only at f;cases e:lk i c with
   |none=>rw[e]at f;exact f.elim
   |some z=>rw[e]at f;exact⟨i,.int z,rfl,rfl,by rw[oy,e];rfl,f _ m k l (.int _)⟩
  |_=>exact f.elim⟩
@[simp] noncomputable def AA(c:List (Str×Int))(fb:Pe->M T):Pe->M T:=λd=>(fb d).bind λy=>match y with
 |.str i=>.ok (.bl (lk i c).isSome)
 |_=>.bad
def tw{x:Str}{p:Pos}(c:List (Str×Int)){d:Addr}(f:X.mg x=some (.ref d)/\qM X.prog X.w X.K d (c.map λp=>(p.1,V.int p.2)))(g:Pm K E X b tb fb)(k:behindInMarks .In (.Name x p)=false:=by rfl)(u:Gl X x:=by rfl)(r:(x==("__debug__" : Str))=false:=by decide) :
  Pm K E X (.Compare b [.In] [.Name x p] pos) (jN (λy x H Q=>∃a,x=.ref d/\y=.str a/\Q (.bl (uC a (c.map λp=>(p.1,V.int p.2))).isSome) H) tb (tC (.ref d))) (AA c fb):=
 ⟨mO (wj f.2) g.pe (ei u f.1 rfl r) k,λF H v z Q s m q=>by
  refine g.me.run s m q λy w n j l t h=>?_;cases t with
  |str i=>
   have e:(uC i (c.map λp=>(p.1,V.int p.2))).isSome=(lk i c).isSome:=by rw[oy];cases lk i c<;>rfl
   exact⟨i,rfl,rfl,by rw[e];exact h _ n j l (.bl _)⟩
  |_=>exact h.elim⟩
def Dg{P:Program}{c:Str->Option Value}{x:Str}{T:Program->Addr->Prop}(h:∃d,c x=some (.ref d)/\∀P,T P d):c x=some (.ref h.choose)/\T P h.choose:=⟨h.choose_spec.1,h.choose_spec.2 P⟩
def Ap{P:Program}{w:World}{d:Addr}{t n m k1 k2 k3:Int}{j h i s r k:Tok}{g f c:Str}{v:Nat}(x:(d==sysModules)=false)
  (l:K.lookup d=some ⟨.type "dict",none,.dict #[⟨t,.str g j,.int k1 s⟩,⟨n,.str f h,.int k2 r⟩,⟨m,.str c i,.int k3 k⟩] v,#[]⟩) (u:t=hashStr w g) (z:n=hashStr w f) (y:m=hashStr w c) (nd:[g,f,c].Nodup) :
  qM P w K d (([(g,k1),(f,k2),(c,k3)]:List (Str×Int)).map λp=>(p.1,V.int p.2)):=by
 subst u z y;refine⟨x,_,[(g,.int k1 s),(f,.int k2 r),(c,.int k3 k)],l,⟨_,_,⟨rfl,rfl,rfl⟩,rfl,λe q=>?_,.cons (strKind_is P w g j) rfl (.cons (strKind_is P w f h) rfl (.cons (strKind_is P w c i) rfl .nil)),nd⟩,rfl,.cons ⟨_,rfl⟩ (.cons ⟨_,rfl⟩ (.cons ⟨_,rfl⟩ .nil))⟩;simp only[List.mem_toArray,aD,List.not_mem_nil,or_false]at q;rcases q with rfl|rfl|rfl
 .exact⟨g,strKind_is P w g j,rfl⟩
 .exact⟨f,strKind_is P w f h,rfl⟩
 .exact⟨c,strKind_is P w c i,rfl⟩
end
end L3
namespace L2
open PySem PySem.Spec PyProof.Rows
section
variable {X:Cx}{tg elt iter:Expr}{ifs:List Expr}{scope:Scope}{pos:Pos}{N:List Str}{ix:List (Option Nat)}{wi:TI}{g:TG}{tt:TT}{te:TE}
def rJ{r:XK}(Y:gJ X r)(Z:X.N.Nodup)(A:X.N[i]? = some y)(hx:oY X.env.scope y)
  (R:X.calm=true) (hi:PI X tg iter wi) (L:jD X scope N ix) (p:eJ ix g)
  (l:∀C s₃ H ex pn xe,dP (fj X.prog X.w) (gx X N scope C s₃ H ex pn xe) r->PG (gx X N scope C s₃ H ex pn xe) tg g/\nZ (gx X N scope C s₃ H ex pn xe) ifs tt/\PE (gx X N scope C s₃ H ex pn xe) elt te)
  (G:X.fn y=true\/X.env.scope.names.lookup y=some .local:=by first|exact .inl rfl|exact .inr rfl)
  (j:swapsWith (.ListComp elt [⟨tg,iter,ifs,0⟩] scope pos) (some (.Name y py)) spos.line X.env=pure true:=by rfl)
  (K:∀x,foldedSetIterable iter X.env x=pure x:=by intro _;rfl):PS X (.Assign [.Name y py] (.ListComp elt [⟨tg,iter,ifs,0⟩] scope pos) spos) (ik (mY ix wi g tt te) (dI i)):=by
 intro ck s u H D I h;rw[exec_Assign_Name_used _ _ _ _ j];refine ak (wpAny_standAt (ak ?_));rw[arm_evalThenUse_ListComp];refine ak (dB (wpAny_comprehension_free rfl K (eW L.fre) L.kind L.names (dB (hi ck s u H _ I h) λv s1 h1=>dB h1 λitv s2 h2=>?_)) λ_ t q=>aj (aj q));obtain⟨it,fp,tn,J,H2,e,I2,T,d,S,W,⟨m0,w0⟩,c⟩:=h2;subst e;refine nE (Q:=λx P=>dI i x u P D.nx) R L p Y l I2 T d S w0 c (λE0 C m H' t F f B q=>?_) λD C e t h=>h;refine wpAny_assign_Name (je (v:=.ref E0) B Z A hx rfl (λs3 I3 n=>?_) G);obtain⟨a,E,ha⟩:=n;have ne:C≠a:=by
  rcases ha with z|z
  .rw[z];exact f.2.1
  .exact λw=>f.2.2.2.2.1 y a z w.symm
 exact⟨m,F.sameBut E ne,λh' k=>⟨_,H',I3.turned (λb o U e=>k.extBut b o U e) f.1 f.2.1 f.2.2.2.1 f.2.2.2.2.1 f.2.2.2.2.2,q⟩⟩
end
end L2
namespace L3
open PySem L2 PySem.Spec PyProof.Rows
section
variable {K:W.Frag}{E:XK}{X:Cx}{tg elt iter:Expr}{ifs:List Expr}{scope:Scope}{N:List Str}{ix:List (Option Nat)}{wi w:TI}{g gt:TG}{tt:TT}{te:TE}{fe:Pe->M T}{fi:Pe->M (List T)}{m:T->Pe->Option Pe}{ft:Pe->M Bool}{pos py spos:Pos}{x:Str}{F1 H1:Hp}{σ:L2.St}{J:It}{its:List T}{Q:VK}{gm:En->O}
@[simp] noncomputable def Ak(ix:List (Option Nat))(fi:Pe->M (List T))(m:T->Pe->Option Pe)(ft:Pe->M Bool)(fe:Pe->M T):Pe->M (List T):=λa=>(fi a).bind λits=>if its.length<sizeLine then fO (gY m ft fe (fv ix a)) its else .bad
theorem qZ{ρ:Pe}(hg:MG K g m)(ht:MT K E tt ft)(he:ME K E te fe)(V:eF K F1 σ ρ)
  (d:kJ K J its F1) (s:cC F1 H1) (hl:its.length<sizeLine) (q:(fO (gY m ft fe (fv ix ρ)) its).res (kF K F1 H1 Q) (kE E F1 H1)):CT J ix g tt te σ H1 Q:=by
 refine⟨λi k F H=>i<=its.length/\k=its.length-i/\∃R j,Gr F1 H1 R H/\cE K R F j/\j.length<=i/\(fO (gY m ft fe (fv ix ρ)) (its.drop i)).res (λS=>kF K F1 H1 Q (j++S)) (kE E F1 H1),
  ⟨_,bu _,rfl,F1,[],.refl s,.nil,bu _,by simpa using q⟩,?_⟩
 rintro i k F C ⟨hi,rfl,P,j,g2,p,tl,n⟩;by_cases c:i<its.length
 .right;refine⟨d.go i C (g2.ff.trans g2.fh) c,by rw[p.length];omega,λx B y=>?_⟩;have et:=ag c;obtain⟨U,l,rp⟩:=d.yld i _ P C x B g2.ff g2.fh et y;rw[b5 c]at n;unfold fO at n;have f:=M.res.unb n;unfold gY at f;cases u:m its[i] (fv ix ρ) with
  |none=>rw[u]at f;exact f.elim
  |some ρ3=>
   rw[u]at f;have a:=g2.trans l;have Y:=(V.mono a.ff).pull ix;refine hg U B _ _ x _ ρ3 _ l.fh (by simp[L2.pull,fv]) Y rp u λo hl' I=>?_;have Z:=M.res.unb f;refine ht U B o ρ3 _ l.fh I (Z.mono (λb z L H4 h=>?_) λ_ _ z=>z.go a);cases b with
   |true=>rw[aO rfl]at z ⊢;have q5:=M.res.unb z;refine he L H4 o ρ3 _ h.fh (I.mono h.ff) (q5.mono (λx' z' v F5 H5 G A=>?_) λ_ _ z=>z.go (a.trans h));refine⟨its.length-(i+1),by omega,c,rfl,F5,j++[x'],(a.trans h).trans G,(p.mono (l.ff.trans (h.ff.trans G.ff))).append (.cons A .nil),by simp;omega,?_⟩;have t:=M.res.unb z';exact t.mono (λS w=>by rw[bJ];exact w) λ_ _ w=>w
   |false=>rw[aP aF]at z ⊢;refine⟨its.length-(i+1),by omega,c,rfl,L,j,a.trans h,p.mono (l.ff.trans h.ff),by omega,?_⟩;exact M.res.unb z
 .left;have e:i=its.length:=by omega
  subst e;rw[b6]at n;refine⟨d.stop C (g2.ff.trans g2.fh),λD r=>?_⟩;have f:kF K F1 H1 Q j:=by simpa[fO,M.res] using n
  exact f D F P _ (g2.trans (.new' g2.fh r)) (cN g2.hh r) (cN g2.fh r) cy p
def tH(h:MI K E w fi)(i:MG K g m)(d:MT K E tt ft)(e:ME K E te fe):MF K E (mY ix w g tt te) (Ak ix fi m ft fe):=λF H σ f Q s V q=>by
 refine h F H σ f _ s V ((M.res.unb q).mono (λits z J j k a b=>?_) λ_ _ z=>z);split at z
 .rename_i c;exact qZ i d e (V.mono a.ff) b a.fh c (z.mono (λ_ w=>w.go a) λ_ _ w=>w.go a)
 .exact z.elim
noncomputable abbrev A0(K:W.Frag)(E:XK)(X:Cx)(scope:Scope)(N:List Str)(tg elt:Expr)(ifs:List Expr)(g:TG)(tt:TT)(te:TE)(m:T->Pe->Option Pe)(ft:Pe->M Bool)(fe:Pe->M T):Prop:=∀{C s₃ H ex pn xe},N.Nodup->vc (gx X N scope C s₃ H ex pn xe)->dP (fj X.prog X.w) (gx X N scope C s₃ H ex pn xe) E->yK K (gx X N scope C s₃ H ex pn xe) tg g m/\sr K E (gx X N scope C s₃ H ex pn xe) ifs tt ft/\Pm K E (gx X N scope C s₃ H ex pn xe) elt te fe
def l9(L:jD X scope N ix) C s₃ H ex pn xe:vc (gx X N scope C s₃ H ex pn xe):=ot (C:=C) (s₃:=s₃) (H:=H) (ex:=ex) (pn:=pn) L
def v7 N ix (e:vc X) (i:gJ X E) (c:sq K E X tg iter wi fi) (a:A0 K E X scope N tg elt ifs g tt te m ft fe) (d:js X.N X.env.scope scope N ix=true:=by rfl) (b:eJ ix g:=by first|exact gC rfl|exact gM rfl rfl) (nd:N.Nodup:=by decide) (h:X.calm=true:=by rfl)
  (f:∀x,foldedSetIterable iter X.env x=pure x:=by intro _;rfl):uW K E X (.ListComp elt [⟨tg,iter,ifs,0⟩] scope pos) (mY ix wi g tt te) (Ak ix fi m ft fe):=
 let L:=wZ e d
 let ⟨b1,b2,b3⟩:=a (C:=0) (s₃:=X.s₀) (H:=X.H₀) (ex:=[]) (pn:=[]) (xe:=λ_ _=>True) nd (l9 L _ _ _ _ _ _) λ_ _ _ _ _ _ _ _=>trivial
 ⟨yi h i c.pi L b (λC s₃ H ex pn xe p=>let q:=a (C:=C) (s₃:=s₃) (H:=H) (ex:=ex) (pn:=pn) (xe:=xe) nd (l9 L C s₃ H ex pn xe) p;⟨q.1.pg,q.2.1.pf,q.2.2.pe⟩) f,tH c.mi b1.mg b2.mt b3.me⟩
def ql N ix i (r:X.N.Nodup) (j:vc X) (o:gJ X E) (d:sq K E X tg iter wi fi) (a:A0 K E X scope N tg elt ifs g tt te m ft fe)
  (h:MF K E (mY ix wi g tt te) (Ak ix fi m ft fe)->MS K E (ik (mY ix wi g tt te) (dI i)) gm) (e:js X.N X.env.scope scope N ix=true:=by rfl) (c:eJ ix g:=by first|exact gC rfl|exact gM rfl rfl) (nd:N.Nodup:=by decide) (s:oY X.env.scope x:=by first|exact Or.inl rfl|exact Or.inr rfl) (n:X.calm=true:=by rfl)
  (f:X.N[i]? = some x:=by rfl) (k:X.fn x=true\/X.env.scope.names.lookup x=some .local:=by first|exact .inl rfl|exact .inr rfl)
  (b:swapsWith (.ListComp elt [⟨tg,iter,ifs,0⟩] scope pos) (some (.Name x py)) spos.line X.env=pure true:=by rfl)
  (l:∀x,foldedSetIterable iter X.env x=pure x:=by intro _;rfl):mX K E X (.Assign [.Name x py] (.ListComp elt [⟨tg,iter,ifs,0⟩] scope pos) spos) (ik (mY ix wi g tt te) (dI i)) gm:=
 let L:=wZ j e
 let ⟨b1,b2,b3⟩:=a (C:=0) (s₃:=X.s₀) (H:=X.H₀) (ex:=[]) (pn:=[]) (xe:=λ_ _=>True) nd (l9 L _ _ _ _ _ _) λ_ _ _ _ _ _ _ _=>trivial
 ⟨rJ o r f s n d.pi L c (λC s₃ H ex pn xe p=>let q:=a (C:=C) (s₃:=s₃) (H:=H) (ex:=ex) (pn:=pn) (xe:=xe) nd (l9 L C s₃ H ex pn xe) p;⟨q.1.pg,q.2.1.pf,q.2.2.pe⟩) k b l,h (tH d.mi b1.mg b2.mt b3.me)⟩
end
section
variable {P:Program}{w:World}{K:W.Frag}{mg:Str->Option Value}{base:Heap}{N:List Str}{qual:Str}{scope:Scope}{f:Addr}{cd:Vq}{A:Around}{outer:List Env}{s₀:Sq}{H₀:Hp}{E:XK}
def jn:gJ (c5 (fj P w) P w K mg base N qual scope f cd A outer s₀ H₀ E) E:=xq λ_ _ _ h=>h
end
section
variable {K:W.Frag}{E:XK}{X:Cx}
@[simp] noncomputable def kK(n:Nat)(g:En->O)(A B:Addr)(j:Nat)(y:Str)(g':En->O):En->O:=λa=>match g a with
 |.nx ρ'=>g' ρ'
 |.er C none=>if C=A then (match g' ((List.replicate n none).set j (some (.p (.str y)))) with
  |.rt t=>.rt t
  |_=>.bad) else .bad
 |.er C (some i)=>if C=B then (match g' ((List.replicate n none).set j (some (.p (.int i)))) with
  |.rt t=>.rt t
  |_=>.bad) else .bad
 |o=>o
theorem vT{L:Addr->Addr->Option Addr->TS}{A B:Addr}{j:Nat}{y:Str}(hb:∀S,MS K S (tb S) g)(R:MS K E u g')
  (mA:W.mroIn K A (.ref Dh)=some true) (Y:W.mroIn K B (.ref Dh)=some true) (w:i≠j)
  (U:∀b H D,H b=none->(∀(a:L2.St) c,a.length=N.length->a[j]? = some (some (.str y))->cC H c->D.nx a c)->L b A none D ((List.replicate N.length (none:Oq V)).set i (some (.ref b))) H)
  (Z:∀b dx n H D,H b=none->H dx=some (.xd [("at",.int n)])->(∀(a:L2.St) c,a.length=N.length->a[j]? = some (some (.int n))->cC H c->D.nx a c)->L b B (some dx) D ((List.replicate N.length (none:Oq V)).set i (some (.ref b))) H) :
  CU K E (l6 (sG K N Dh i tb L) u) (kK N.length g A B j y g'):=λh k F H σ z D r q=>by
 refine hb _ ⟨h,[]⟩ k F H σ z _ r ?_;unfold kK at q;cases e:g z with
 |nx ρ'=>rw[e]at q;intro f c a s r';exact R ⟨h,[]⟩ k f c a ρ' D r' (O.res.go q s)
 |bad=>rw[e]at q;exact q
 |rt t=>rw[e]at q;exact q
 |rf ts=>rw[e]at q;exact q
 |rn ts us=>rw[e]at q;exact q
 |bk z=>rw[e]at q;exact q
 |ct z=>rw[e]at q;exact q
 |er C n=>
  rw[e]at q;cases n with
  |none=>
   dsimp only at q;by_cases v:C=A
   .subst v;rw[aO rfl]at q;intro f c d;refine⟨C,rfl,mA,λb Q=>U b c _ Q λG o P J l=>?_⟩;have g2:Gr h k f o:=⟨d.ff,d.fh.trans l,d.hh.trans l,d.nw⟩;refine R ⟨h,[]⟩ k f o _ _ D (yp (n:=N.length) g2 w P J) ?_;cases x:g' ((List.replicate N.length none).set j (some (.p (.str y)))) with
    |rt t=>rw[x]at q;exact q
    |_=>rw[x]at q;exact q.elim
   .rw[aP v]at q;exact q.elim
  |some m=>
   dsimp only at q;by_cases v:C=B
   .subst v;rw[aO rfl]at q;intro f c d dx I;refine⟨C,rfl,Y,λb Q=>Z b dx m c _ Q (d.fh _ _ I) λG o P J l=>?_⟩;have g2:Gr h k f o:=⟨d.ff,d.fh.trans l,d.hh.trans l,d.nw⟩;refine R ⟨h,[]⟩ k f o _ _ D (xo (n:=N.length) g2 w P J) ?_;cases x:g' ((List.replicate N.length none).set j (some (.p (.int m)))) with
    |rt t=>rw[x]at q;exact q
    |_=>rw[x]at q;exact q.elim
   .rw[aP v]at q;exact q.elim
def uF{l:Addr->Addr->Option Addr->TS}{A B:Addr}{j:Nat}{y:Str}{e c z:List Stmt} i (R:X.N.Nodup) (F:X.mg x=some (.ref Dh)) (T:wm X.K Dh)
  (t:∀(f:XK) (pn:List (Addr×Obj)) (xe:Vq->Shared->Prop),dP (fj X.prog X.w) (X.tryB pn xe) f->gQ K f (X.tryB pn xe) e (tb f) g)
  (J:∀(pn:List (Addr×Obj)) (b:Addr) (h:Obj) (m:Addr) (d:Oq Addr),(b,h)∈pn->h.cls=.ref m->h.dict=d->(∃Y,h.data=.fields Y)->kq (X.exc pn b) (k::c) (l b m d))
  (v:gQ K E X z u g') (mA:W.mroIn K A (.ref Dh)=some true) (I:W.mroIn K B (.ref Dh)=some true) (q:i≠j)
  (G:∀b H D,H b=none->(∀(a:L2.St) H',a.length=X.N.length->a[j]? = some (some (.str y))->cC H H'->D.nx a H')->l b A none D ((List.replicate X.N.length (none:Oq V)).set i (some (.ref b))) H)
  (L:∀b dx n H D,H b=none->H dx=some (.xd [("at",.int n)])->(∀(a:L2.St) H',a.length=X.N.length->a[j]? = some (some (.int n))->cC H H'->D.nx a H')->l b B (some dx) D ((List.replicate X.N.length (none:Oq V)).set i (some (.ref b))) H)
  (P:X.K=K:=by rfl) (hi:X.N[i]? = some n:=by rfl) (C:X.env.kindOf n=some .local:=by rfl) (hg:Gl X x:=by rfl) (s:X.stack=X.env::X.outer:=by rfl) (o:X.env.frame=some X.env.locals:=by rfl)
  (Z:oY X.env.scope n:=by exact .inl rfl) (r:X.fn n=true\/X.env.scope.names.lookup n=some .local:=by exact .inr rfl) (S:(x==("__debug__" : Str))=false:=by decide) :
  vi K E X (.Try e [.ExceptHandler (some (.Name x np)) (some n) (k::c) hpos] [] [] pos::z) (l6 (sG X.K X.N Dh i tb l) u) (kK X.N.length g A B j y g'):=by
 subst P;exact⟨gq (vq R hi C hg F T s o (λf pn xe p=>(t f pn xe p).ps) (λpn b h m h1 U Q=>J pn b h m h.dict h1 U rfl Q) Z r S) v.ps,vT (λf=>(t f [] (λ_ _=>True) λ_ _ _ _ _ _ _ _=>trivial).ms) v.ms mA I q G L⟩
noncomputable def yR:T->T->M T
 |.str x,.int n=>if 2<=n/\n<=100/\0<x.length/\x.length<=100 then .ok (.str ⟨(List.replicate n.toNat x.cps).foldl (·++·) #[]⟩) else .bad
 |_,_=>.bad
def CI:R2:=λx y H Q=>∃i n,x=.str i/\y=.int n/\(2<=n/\n<=100/\0<i.length/\i.length<=100)/\Q (.str ⟨(List.replicate n.toNat i.cps).foldl (·++·) #[]⟩) H
def A8:gR X (binaryOp .Mult) CI:=by
 intro l s j H x y v u Q I c e h;obtain⟨i,n,rfl,rfl,⟨o,m,k,d⟩,q⟩:=h;obtain⟨t,rfl⟩:=c;obtain⟨g,rfl⟩:=e;have b:i.length*n.toNat<=10000:=Nat.mul_le_mul d (show n.toNat<=100 by omega);have sz:10000<sizeLine:=by decide
 have a:¬n<1:=by omega
 have f:(n==1||i.length==0)=false:=by rw[Bool.or_eq_false_iff];exact⟨beq_eq_false_iff_ne.mpr (by omega),beq_eq_false_iff_ne.mpr (by omega)⟩
 refine PySem.P.mul_str ?_ (λ_ _=>?_) (λ_ _=>?_) ?_
 .rw[az (by omega),az (by omega)];rfl
 .have:(100:Int)<=(2 ^ 63-1) / n:=by rw[Int.le_ediv_iff_mul_le (by omega)];omega
  omega
 .exact az (by omega)
 .rw[aP a,aP (by rw[f];decide)];exact⟨fits_reps (az (by omega)),.str _,H,I.tok _,⟨_,rfl⟩,q⟩
def A3 x y:M.NoE (yR x y):=λC n=>by
 unfold yR;split
 .split<;>(intro z;cases z)
 .intro z;cases z
def AR:MR K CI yR:=⟨A3,λF H v w x y Q s b c q=>by
 cases b with
 |str i=>
  cases c with
  |int n=>
   have a:(if 2<=n/\n<=100/\0<i.length/\i.length<=100 then M.ok (T.str ⟨(List.replicate n.toNat i.cps).foldl (·++·) #[]⟩) else M.bad).res (kV K F H Q) (λ_ _=>False):=q;split at a
   .rename_i h;exact⟨i,n,rfl,rfl,h,kV.now a s (.str _)⟩
   .exact a.elim
  |_=>exact q.elim
 |_=>exact q.elim⟩
def uS(d:Pm K E X a ta fa)(c:Pm K E X b tb fb):Pm K E X (.BinOp a .Mult b pos) (jN CI ta tb) (cL yR fa fb):=lO A8 AR d c
end
end L3
namespace CL
open PySem L2 L3
structure Cs where
 Cutting:Addr
 Desk:Addr
 CutError:Addr
 NoCutting:Addr
 NoTable:Addr
 NoFraction:Addr
 NoSpot:Addr
 NoSigns:Addr
 NoLand:Addr
 NoFace:Addr
 NoNumber:Addr
 NoText:Addr
 NoDeed:Addr
def iM(c:Cs):En->O:=(cK (setO 2 (ed (cL kY (cn 0) (cn 1))))
  (cK (setO 0 (ed (cn 1)))
  (setO 1 (ed (cn 2)))))
def jb(c:Cs):En->O:=(cK (λa=>gF (fu (cL (dH true) (cn 1) (cM (.int 0)))) (iM c) ((λa=>match a with|_::some (.p (.int j))::_=>j.natAbs+1|_=>0) a) a)
  (dU (ig xu (cm (cn 0) cw))))
def d4(c:Cs):List T->M T:=gS 2 3 (jb c)
def om(c:Cs):En->O:=(dU (oA (pz "int" (cn 0)) (vx (pz "bool" (cn 0)))))
def eT(c:Cs):List T->M T:=gS 1 1 (om c)
def rA(c:Cs):En->O:=(dU (oA (c7 (cm (cn 0) cw) (eT c)) (Bt Ah Ah (cM (.int 1)) (cn 0) (cM (.int 3)))))
def h7(c:Cs):List T->M T:=gS 1 1 (rA c)
def qS(c:Cs):Pe->M T:=(c7 (cm (cn 0) cw) (eT c))
def qV(c:Cs):Pe->M T:=(cL (dH true) (cn 0) (cM (.int 0)))
def uV(c:Cs):En->O:=(cK (iy (rO (iK (fu (pz "tuple" (cn 1)))) (fu (cL (dH true) (ig ji (cm (cn 1) cw)) (cL cT (cn 0) (cM (.int 1)))))) (dU (cM (.bl false))) dW)
  (cK (iy (iK (fu (ig pE (cm (dN (kD [none] (iF (cn 1)) (lB 0) (λ_=>.ok true) (qS c))) cw)))) (dU (cM (.bl false))) dW)
  (dU (ig tE (cm (dN (kD [none] (iF (wL (cn 1) (λ_=>.ok none) (qf (cn 0)))) (lB 0) (λ_=>.ok true) (qV c))) cw)))))
def fZ(c:Cs):List T->M T:=gS 2 2 (uV c)
def j5(c:Cs):En->O:=(setO 1 (ed (cL cT (cn 1) (cM (.int 1)))))
def kZ(c:Cs):En->O:=(cK (setO 1 (ed (cM (.int 0))))
  (cK (λa=>gF (fu (cL (dH false) (cL iG (cn 0) (cn 1)) (cM (.int 0)))) (j5 c) ((λa=>match a with|some (.p (.tup ts))::_=>ts.length+1|_=>0) a) a)
  (dU (cn 1))))
def eZ(c:Cs):List T->M T:=gS 1 2 (kZ c)
def kC(c:Cs):Pe->M T:=(cL (dH false) (cL jk (cn 0) (cL iG (cn 2) (cn 3))) (cL jk (cn 1) (cL iG (cn 4) (cn 3))))
def ml(c:Cs):En->O:=(cK (setO 2 (ed (c7 (cm (cn 0) cw) (eZ c))))
  (dU (ig pE (cm (dN (kD [none,none,some 1,some 2,some 0] (xt (cm (cn 0) (cm (cn 1) cw))) (za 2 (qe (lB 0) (qe (lB 1) zE))) (λ_=>.ok true) (kC c))) cw))))
def fz(c:Cs):List T->M T:=gS 2 3 (ml c)
def mq(c:Cs):Pe->M T:=(c7 (cm (cn 0) (cm (cn 1) cw)) (fz c))
def ni(c:Cs):En->O:=(cK (iy (rO (fu (cL BS (ig ji (cm (cn 1) cw)) (cM (.int 7)))) (iK (fu (c7 (cm (cn 0) (cm (cn 2) cw)) (fZ c))))) (dU (cM (.bl false))) dW)
  (dU (vx (ig tE (cm (dN (kD [none,some 2] (iF (cn 1)) (lB 0) (λ_=>.ok true) (mq c))) cw)))))
def fL(c:Cs):List T->M T:=gS 3 3 (ni c)
def nJ(c:Cs):En->O:=(setO 3 (ed (cL lZ (cn 3) (cn 2))))
def oM(c:Cs):En->O:=(cK (iy (fu (cL BS (cn 0) (cL wd (cM (.int 10)) (cM (.int 18))))) (cK (setO 3 (ed (cn 0)))
  (cK (lA (il (cm (cn 1) cw)) (xg 4) (nJ c))
  (dU (cL kY (cn 3) (cn 2))))) dW)
  (cK (setO 5 (ed (cL kY (cL jk (cL cT (cL cT (cL kY (cn 0) (cM (.int 1000000007))) (cL jk (cM (.int 1009)) (cn 1))) (cM (.int 17))) (cM (.int 69621))) (cM (.int 2147483647)))))
  (cK (setO 5 (ed (cL kY (cL cT (cL cT (cL jk (cn 5) (cn 5)) (cL jk (cM (.int 40503)) (cn 1))) (cM (.int 5))) (cM (.int 2147483629)))))
  (dU (cL kY (cL lZ (cL kY (cL jk (cn 5) (cM (.int 48271))) (cM (.int 2147483647))) (cM (.int 32))) (cn 2))))))
def c9(c:Cs):List T->M T:=gS 3 6 (oM c)
def ko(c:Cs):Pe->M T:=(cL qJ (cn 0) (cM (.str "0123456789")))
def kP(c:Cs):En->O:=(cK (iy (rO (iK (fu (Bt Ah Ah (cM (.int 1)) (ig ji (cm (cn 0) cw)) (cn 1)))) (iK (fu (ig pE (cm (dN (kD [none] (sf (cn 0)) (lB 0) (λ_=>.ok true) (ko c))) cw))))) (dU (cM (.bl false))) dW)
  (dU (Cg (cL (dH false) (cn 0) (cM (.str "0"))) (cL (dH true) (cL iG (cn 0) (cM (.int 0))) (cM (.str "0"))))))
def eU(c:Cs):List T->M T:=gS 2 2 (kP c)
def iD(c:Cs):En->O:=(cK (setO 1 (ed (dN (lstM (cm (cM (.str "")) (cm (cM (.str "-")) (cm (cM (.str "-0")) (cm (cM (.str "+1")) (cm (cM (.str "01")) (cm (cM (.str "1/")) (cm (cM (.str "/2")) (cm (cM (.str "1/1")) (cm (cM (.str "2/4")) (cm (cM (.str "0/2")) (cm (cM (.str "1/0")) (cm (cM (.str "1/-2")) (cm (cM (.str "1/2/3")) (cm (cM (.str " 1")) (cm (cM (.str "1 ")) (cm (cM (.str "1.5")) cw))))))))))))))))))))
  (cK (setO 1 (ed (dN (gG (cn 1) (dN (lstM (cm (cM (.str "1/02")) (cm (cM (.str "-01/2")) (cm (cM (.str "--1")) (cm (cM (.str "a")) (cm (cL yR (cM (.str "1")) (cM (.int 61))) (cm (cL cT (cM (.str "1/")) (cL yR (cM (.str "1")) (cM (.int 61)))) (cm (cM (.str "1\n")) (cm (cM (.str "1,2")) (cm (cL cT (cL cT (cn 0) (cM (.str "/"))) (cn 0)) cw)))))))))))))))
  (dU (cn 1))))
def de(c:Cs):List T->M T:=gS 1 2 (iD c)
def jv(c:Cs):En->O:=(cK (setO 1 (ed (dN (lstM (cm (cM (.str "")) (cm (cM (.str ",")) (cm (cL cT (cn 0) (cM (.str ","))) (cm (cL cT (cM (.str ",")) (cn 0)) (cm (cL cT (cn 0) (cM (.str ",,1"))) (cm (cL cT (cn 0) (cM (.str ", 1"))) (cm (cM (.str "1,2,3,4")) (cm (cL cT (cM (.str "2/4,")) (cn 0)) (cm (cL cT (cn 0) (cM (.str ",-0"))) cw)))))))))))))
  (lE (gG (cn 1) (dN (lstM (cm (cL cT (cn 0) (cM (.str ",01"))) (cm (cL cT (cM (.str " ")) (cn 0)) (cm (cL cT (cn 0) (cM (.str ";1"))) (cm (cL cT (cL cT (cM (.str "(")) (cn 0)) (cM (.str ")"))) (cm (cL cT (cn 0) (cM (.str ",1/0"))) (cm (cM (.str "x")) cw)))))))))))
def dF(c:Cs):List T->M (List T):=vh 1 2 (jv c)
def kS(c:Cs):En->O:=(cK (setO 1 (ed (dN (lstM (cm (cM (.str "")) (cm (cM (.str ":")) (cm (cM (.str "1")) (cm (cM (.str "1:")) (cm (cM (.str ":1")) (cm (cM (.str "1,2")) (cm (cM (.str "1:2:3")) (cm (cM (.str "1,:2")) (cm (cM (.str ",1:2")) (cm (cM (.str "0:1")) (cm (cM (.str "0,0:1")) (cm (cM (.str "0,0,0:5")) (cm (cM (.str "1,2,3,4:5")) (cm (cM (.str "1/2:1")) cw))))))))))))))))))
  (cK (setO 1 (ed (dN (gG (cn 1) (dN (lstM (cm (cM (.str "1:1/2")) (cm (cM (.str "01:2")) (cm (cM (.str "1:02")) (cm (cM (.str "-0,1:2")) (cm (cM (.str "1: 2")) (cm (cM (.str "1 :2")) (cm (cM (.str " 1:2")) (cm (cM (.str "1:2 ")) (cm (cM (.str "1:-0")) (cm (cM (.str "+1:2")) (cm (cM (.str "1;2")) cw)))))))))))))))))
  (lE (gG (cn 1) (dN (lstM (cm (cL cT (cn 0) (cM (.str ":1"))) (cm (cL cT (cn 0) (cM (.str "\n"))) (cm (cL cT (cL yR (cM (.str "1")) (cM (.int 61))) (cM (.str ":1"))) cw)))))))))
def ef(c:Cs):List T->M (List T):=vh 1 2 (kS c)
def iR(c:Cs):En->O:=(cK (setO 1 (ed (dN (lstM (cm (cM (.str "")) (cm (cM (.str " ")) (cm (cM (.str "2 ")) (cm (cM (.str " 2")) (cm (cM (.str "2  1,0:1")) (cm (cM (.str "2 1,0:1 ")) (cm (cM (.str "two")) (cm (cM (.str "-0")) (cm (cM (.str "02")) (cm (cM (.str "2 1,0")) (cm (cM (.str "2 0,0:1")) (cm (cM (.str "2,1,0:1")) (cm (cM (.str "1:1")) (cm (cM (.str "2 x")) cw))))))))))))))))))
  (lE (gG (cn 1) (dN (lstM (cm (cL cT (cL cT (cM (.str "2 ")) (cn 0)) (cM (.str " :"))) (cm (cn 0) (cm (cL cT (cL cT (cM (.str "2 ")) (cn 0)) (cM (.str "\n"))) (cm (cL cT (cM (.str "2\t")) (cn 0)) (cm (cM (.str "1.0")) (cm (cM (.str "2 1,0:1;0,1:1")) cw)))))))))))
def dz(c:Cs):List T->M (List T):=vh 1 2 (iR c)
def jh(c:Cs):En->O:=(lE (lstM (cm (cM (.str "")) (cm (cM (.str " ")) (cm (cM (.str "..")) (cm (cM (.str "+.")) (cm (cM (.str "1")) (cm (cM (.str "+ -")) (cm (cM (.str " +")) (cm (cM (.str "+ ")) (cm (cM (.str "++x")) (cm (cM (.str "plus")) (cm (cL cT (cn 0) (cM (.str "\n"))) (cm (cL cT (cn 0) (cM (.str "1"))) (cm (cL cT (cL cT (cM (.str "-")) (cn 0)) (cM (.str "*"))) (cm (cM (.str "~")) cw))))))))))))))))
def dG(c:Cs):List T->M (List T):=vh 1 1 (jh c)
def jE(c:Cs):En->O:=(iy (iK (fu (pz "str" (cn 0)))) (λ_=>.er c.NoText none) dW)
def cJ(c:Cs):List T->M T:=gS 1 1 (jE c)
def iz(c:Cs):En->O:=(cK (setO 1 (ed (dN (Aj (cn 0) (cM (.str ","))))))
  (cK (iy (fu (cL Bd (ig ji (cm (cn 1) cw)) (cM (.int 3)))) (λ_=>.er c.NoText none) dW)
  (dU (cn 1))))
def c0(c:Cs):List T->M T:=gS 1 2 (iz c)
def ju(c:Cs):En->O:=(cK (setO 1 (ed (CH (fu (Cd (cn 0) (cM (.str "-")))) (Dm (cn 0)) (cn 0))))
  (cK (iy (rO (iK (fu (c7 (cm (cn 1) (cm (cM (.int 60)) cw)) (eU c)))) (fu (cL (dH false) (cn 0) (cM (.str "-0"))))) (λ_=>.er c.NoText none) dW)
  (dU (ig uh (cm (cn 0) cw)))))
def cI(c:Cs):List T->M T:=gS 1 2 (ju c)
def iS(c:Cs):Pe->M T:=(AA [("+",1),("0",0),("-",-1)] (cn 0))
def i5(c:Cs):Pe->M T:=(Dl [("+",1),("0",0),("-",-1)] (cn 0))
def jF(c:Cs):En->O:=(cK (eI (ed (dg (cm (cn 0) cw) (cJ c))))
  (cK (iy (fu (cL (dH false) (cn 0) (cM (.str ".")))) (dU (rq cw)) dW)
  (cK (iy (rO (fu (cL (dH false) (cn 0) (cM (.str "")))) (iK (fu (ig pE (cm (dN (kD [none] (sf (cn 0)) (lB 0) (λ_=>.ok true) (iS c))) cw))))) (λ_=>.er c.NoText none) dW)
  (dU (ig fQ (cm (dN (kD [none] (sf (cn 0)) (lB 0) (λ_=>.ok true) (i5 c))) cw))))))
def eE(c:Cs):List T->M T:=gS 1 1 (jF c)
def iA(c:Cs):En->O:=(cK (eI (ed (dg (cm (cn 0) cw) (cJ c))))
  (cK (setO 1 (ed (dN (Aj (cn 0) (cM (.str "/"))))))
  (cK (iy (fu (cL (dH false) (ig ji (cm (cn 1) cw)) (cM (.int 1)))) (dU (rq (cm (dg (cm (cn 0) cw) (cI c)) (cm (cM (.int 1)) cw)))) dW)
  (cK (iy (fu (cL (dH true) (ig ji (cm (cn 1) cw)) (cM (.int 2)))) (λ_=>.er c.NoText none) dW)
  (cK (setO 2 (ed (dg (cm (cL iG (cn 1) (cM (.int 0))) cw) (cI c))))
  (cK (setO 3 (ed (dg (cm (cL iG (cn 1) (cM (.int 1))) cw) (cI c))))
  (cK (iy (rO (fu (cL Cf (cn 3) (cM (.int 2)))) (fu (cL (dH true) (c7 (cm (cn 2) (cm (cn 3) cw)) (d4 c)) (cM (.int 1))))) (λ_=>.er c.NoText none) dW)
  (dU (rq (cm (cn 2) (cm (cn 3) cw)))))))))))
def cZ(c:Cs):List T->M T:=gS 1 4 (iA c)
def jC(c:Cs):Pe->M T:=(dg (cm (cn 0) cw) (cI c))
def kG(c:Cs):En->O:=(cK (eI (ed (dg (cm (cn 0) cw) (cJ c))))
  (cK (setO 1 (ed (dN (Aj (cn 0) (cM (.str ":"))))))
  (cK (iy (fu (cL (dH true) (ig ji (cm (cn 1) cw)) (cM (.int 2)))) (λ_=>.er c.NoText none) dW)
  (cK (setO 2 (ed (dN (Ak [none] (iF (dg (cm (cL iG (cn 1) (cM (.int 0))) cw) (c0 c))) (lB 0) (λ_=>.ok true) (jC c)))))
  (cK (setO 3 (ed (ig fQ (cm (dN (gG (cn 2) (dN (lstM (cm (dg (cm (cL iG (cn 1) (cM (.int 1))) cw) (cI c)) cw))))) cw))))
  (cK (iy (iK (fu (c7 (cm (ig ji (cm (cn 2) cw)) (cm (cn 3) cw)) (fZ c)))) (λ_=>.er c.NoText none) dW)
  (dU (cn 3))))))))
def d3(c:Cs):List T->M T:=gS 1 4 (kG c)
def jc(c:Cs):Pe->M T:=(dg (cm (cn 0) cw) (cZ c))
def jQ(c:Cs):En->O:=(cK (eI (ed (dg (cm (cn 0) cw) (cJ c))))
  (dU (ig fQ (cm (dN (Ak [none] (iF (dg (cm (cn 0) cw) (c0 c))) (lB 0) (λ_=>.ok true) (jc c))) cw))))
def eX(c:Cs):List T->M T:=gS 1 1 (jQ c)
def ij(c:Cs):En->O:=(cK (iy (iK (fu (c7 (cm (cn 0) (cm (cn 2) (cm (cn 3) cw))) (fL c)))) (vP c.NoCutting (cm (ig ji (cm (cn 2) cw)) cw)) dW)
  (xf 2 (ed (ig fQ (cm (cn 3) cw)))))
def iL(c:Cs):En->O:=(cK (iy (rO (iK (fu (c7 (cm (cn 0) cw) (h7 c)))) (iK (fu (pz "list" (cn 1))))) (vP c.NoCutting (cm (Bz (λi=>.int (-i)) (cM (.int 1))) cw)) dW)
  (cK (Ae 2 (wg (lstM cw)))
  (cK (qQ (iF (cn 1)) (xg 3) (ij c))
  (dU (ig fQ (cm (cn 2) cw))))))
def d9(c:Cs):List T->M T:=gS 2 4 (iL c)
def dZ(c:Cs):List T->M T:=nr c.Cutting 2 "own_cuts" "own_dims" (dg (cm (cn 1) (cm (cn 2) cw)) (d9 c)) (cn 1)
def ie(c:Cs):Pe->M T:=(dg (cm (cn 0) cw) (d3 c))
def i4(c:Cs):En->O:=(cK (eI (ed (dg (cm (cn 0) cw) (cJ c))))
  (cK (setO 1 (ed (dN (Aj (cn 0) (cM (.str " "))))))
  (cK (setO 2 (ed (dg (cm (cL iG (cn 1) (cM (.int 0))) cw) (cI c))))
  (cK (setO 3 (ed (dN (Ak [none] (iF (wL (cn 1) (qf (cM (.int 1))) (λ_=>.ok none))) (lB 0) (λ_=>.ok true) (ie c)))))
  (dU (dg (cm (cn 2) (cm (cn 3) cw)) (dZ c)))))))
def d5(c:Cs):List T->M T:=gS 1 4 (i4 c)
def kL(c:Cs):En->O:=(iy (fu (cL (dH false) (cn 0) (cM (.int 0)))) (eI (ed (dg (cm (cn 1) cw) (cZ c)))) (iy (fu (cL (dH false) (cn 0) (cM (.int 1)))) (eI (ed (dg (cm (cn 1) cw) (eX c)))) (iy (fu (cL (dH false) (cn 0) (cM (.int 2)))) (eI (ed (dg (cm (cn 1) cw) (d3 c)))) (iy (fu (cL (dH false) (cn 0) (cM (.int 3)))) (eI (ed (dg (cm (cn 1) cw) (d5 c)))) (eI (ed (dg (cm (cn 1) cw) (eE c))))))))
def cv(c:Cs):List T->M T:=gS 2 2 (kL c)
def mw(c:Cs):En->O:=(cK (setO 2 (ed (cM (.str "told"))))
  (kK 5 (eI (ed (dg (cm (cn 0) (cm (cn 1) cw)) (cv c)))) c.NoText c.NoCutting 2 "none"
  (dU (cn 2))))
def cF(c:Cs):List T->M T:=gS 2 5 (mw c)
def jm(c:Cs):En->O:=(cK (setO 6 (ed (cL iG (cL iG (cn 4) (cn 5)) (c7 (cm (cn 1) (cm (cL cT (cM (.int 2)) (cn 5)) (cm (ig ji (cm (cL iG (cn 4) (cn 5)) cw)) cw))) (c9 c)))))
  (cK (setO 7 (ed (cL iG (dN (lstM (cm (cM .non) (cm (cM (.int 5)) (cm (cM (.bl true)) (cm (dN (lstM (cm (cM (.str "1")) cw))) (cm (rq (cm (cM (.str "1")) cw)) (cm (cM .emp) cw)))))))) (c7 (cm (cn 1) (cm (cM (.int 9)) (cm (cM (.int 6)) cw))) (c9 c)))))
  (cK (iy (rO (fu (cL (dH true) (c7 (cm (cn 5) (cm (cn 6) cw)) (cF c)) (cM (.str "none")))) (fu (cL (dH true) (c7 (cm (cn 5) (cm (cn 7) cw)) (cF c)) (cM (.str "none"))))) (dU (cM (.bl false))) dW)
  (iy (oN (fu (cL (dH true) (cn 5) (cM (.int 1)))) (fu (cL (dH true) (c7 (cm (cn 5) (cm (cL iG (cn 3) (cn 5)) cw)) (cF c)) (cM (.str "told"))))) (dU (cM (.bl false))) dW))))
def lq(c:Cs):Pe->M T:=(cL cT (cM (.str "1,0:")) (ig jA (cm (cn 0) cw)))
def jq(c:Cs):En->O:=(cK (setO 2 (ed (ig jA (cm (cL cT (cM (.int 1)) (c7 (cm (cn 1) (cm (cM (.int 1)) (cm (cM (.int 90)) cw))) (c9 c))) cw))))
  (cK (setO 3 (ed (dN (lstM (cm (cn 2) (cm (cL cT (cL cT (cL cT (cn 2) (cM (.str ",-"))) (cn 2)) (cM (.str "/91"))) (cm (cL cT (cL cT (cn 2) (cM (.str ",0:-"))) (cn 2)) (cm (cL cT (cL cT (cM (.str "2 0,")) (cn 2)) (cM (.str ":5"))) (cm (cM (.str "+0-")) cw)))))))))
  (cK (setO 4 (ed (dN (lstM (cm (c7 (cm (cn 2) cw) (de c)) (cm (dN (fT (cm (cn 2) cw) (dF c))) (cm (dN (fT (cm (cL iG (cn 3) (cM (.int 2))) cw) (ef c))) cw)))))))
  (cK (setO 4 (ed (dN (gG (cn 4) (dN (lstM (cm (dN (fT (cm (cL iG (cn 3) (cM (.int 2))) cw) (dz c))) (cm (dN (fT (cm (cM (.str "+0-")) cw) (dG c))) cw))))))))
  (cK (lA (il (cm (cM (.int 5)) cw)) (xg 5) (jm c))
  (cK (iy (fu (cL (dH true) (c7 (cm (cM (.int 1)) (cm (cL cT (cn 2) (cM (.str ",-1/91"))) cw)) (cF c)) (cM (.str "told")))) (dU (cM (.bl false))) dW)
  (cK (setO 8 (ed (c7 (cm (cn 1) (cm (cM (.int 10)) (cm (cM (.int 5)) cw))) (c9 c))))
  (cK (setO 9 (ed (dN (kD [none] (il (cm (cn 8) cw)) (lB 0) (λ_=>.ok true) (lq c)))))
  (cK (setO 10 (ed (cL iG (dN (lstM (cm (cM (.str "1:2")) (cm (cM (.str "1,0,0:3")) (cm (cM (.str "1,0:0")) (cm (cM (.str "-2,0:0")) cw)))))) (c7 (cm (cn 1) (cm (cM (.int 11)) (cm (cL cT (cM (.int 2)) (cL jk (cM (.int 2)) (ig nS (cm (cL Bd (cn 8) (cM (.int 0))) cw)))) cw))) (c9 c)))))
  (iy (fu (cL (dH true) (c7 (cm (cM (.int 3)) (cm (xA (cM (.str " ")) (dN (gG (dN (gG (dN (lstM (cm (cM (.str "2")) cw))) (cn 9))) (dN (lstM (cm (cn 10) (cm (cM (.str "0,1:1")) cw))))))) cw)) (cF c)) (cn 8))) (dU (cM (.bl false))) dW))))))))))
def lU(c:Cs):Pe->M T:=(c7 (cm (cM (.int 3)) (cm (cn 0) cw)) (cF c))
def jl(c:Cs):Pe->M T:=(cL cT (cM (.str "1:")) (ig jA (cm (cn 0) cw)))
def ui(c:Cs):En->O:=(cK (qQ (iF (dN (gG (wL (cn 0) (λ_=>.ok none) (qf (cM (.int 20)))) (dN (lstM (cm (cM (.int 0)) (cm (cM (.int 5)) cw))))))) (xg 1) (jq c))
  (cK (setO 11 (ed (dN (kD [none] (iF (dN (lstM (cm (cM (.str "0")) (cm (cM (.str "4")) (cm (cM (.str "-1")) (cm (cM (.str "60 1:1")) (cm (cM (.str "7 1,0:1")) cw)))))))) (lB 0) (λ_=>.ok true) (lU c)))))
  (dU (oA (cL (dH false) (cn 11) (dN (AG (dN (lstM (cm (Bz (λi=>.int (-i)) (cM (.int 1))) cw))) (cM (.int 5))))) (cL (dH false) (c7 (cm (cM (.int 3)) (cm (xA (cM (.str " ")) (dN (gG (dN (lstM (cm (cM (.str "1")) cw))) (dN (kD [none] (il (cm (cM (.int 9)) cw)) (lB 0) (λ_=>.ok true) (jl c)))))) cw)) (cF c)) (cM (.int 7)))))))
def iY(c:Cs):List T->M T:=gS 1 12 (ui c)
def gB{b:Type}{a n:Nat}{f g:Nat->b}(h:(List.range' a n).map f=(List.range' a n).map g)(k:Nat)(c:a<=k/\k<a+n):f k=g k:=b7.mp h k (b8.mpr c)
def ic(k:Nat):Str:=if k<9 then ⟨#[49+k]⟩ else ⟨#[48+(k+1) / 10,48+(k+1) % 10]⟩
def g2(k:Nat):Str:=ic k++ ",0:-" ++ic k
def gd(k:Nat):List T:=[.str (ic k),.str (ic k++ ",-" ++ic k++ "/91"),.str (g2 k),.str ("2 0," ++ic k++ ":5"),.str "+0-"]
def C0:List T:=[.str "",.str "-",.str "-0",.str "+1",.str "01",.str "1/",.str "/2",.str "1/1",.str "2/4",.str "0/2",.str "1/0",.str "1/-2",.str "1/2/3",.str " 1",.str "1 ",.str "1.5",.str "1/02",.str "-01/2",.str "--1",.str "a",.str ⟨Array.replicate 61 49⟩,.str ("1/" ++⟨Array.replicate 61 49⟩),.str "1\n",.str "1,2"]
def C2:List T:=[.str "",.str ":",.str "1",.str "1:",.str ":1",.str "1,2",.str "1:2:3",.str "1,:2",.str ",1:2",.str "0:1",.str "0,0:1",.str "0,0,0:5",.str "1,2,3,4:5",.str "1/2:1",.str "1:1/2",.str "01:2",.str "1:02",.str "-0,1:2",.str "1: 2",.str "1 :2",.str " 1:2",.str "1:2 ",.str "1:-0",.str "+1:2",.str "1;2"]
def C3:List T:=[.str "",.str " ",.str "2 ",.str " 2",.str "2  1,0:1",.str "2 1,0:1 ",.str "two",.str "-0",.str "02",.str "2 1,0",.str "2 0,0:1",.str "2,1,0:1",.str "1:1",.str "2 x"]
def C4:List T:=[.str "",.str " ",.str "..",.str "+.",.str "1",.str "+ -",.str " +",.str "+ ",.str "++x",.str "plus",.str "+0-\n",.str "+0-1",.str "-+0-*",.str "~"]
def N0(k:Nat):List T:=[.str (ic k++ "/" ++ic k)]
def N1(k:Nat):List T:=[.str "",.str ",",.str (ic k++ ","),.str ("," ++ic k),.str (ic k++ ",,1"),.str (ic k++ ", 1"),.str "1,2,3,4",.str ("2/4," ++ic k),.str (ic k++ ",-0"),.str (ic k++ ",01"),.str (" " ++ic k),.str (ic k++ ";1"),.str ("(" ++ic k++ ")"),.str (ic k++ ",1/0"),.str "x"]
def N2(k:Nat):List T:=[.str (g2 k++ ":1"),.str (g2 k++ "\n"),.str (⟨Array.replicate 61 49⟩++ ":1")]
def N3(k:Nat):List T:=[.str ("2 " ++g2 k++ " :"),.str (g2 k),.str ("2 " ++g2 k++ "\n"),.str ("2\t" ++g2 k),.str "1.0",.str "2 1,0:1;0,1:1"]
def Bx(k:Nat):List (List T):=[C0++N0 k,N1 k,C2++N2 k,C3++N3 k,C4]
def xa:List T:=[.non,.int 5,.bl true,.lst [.str "1"],.tup [.str "1"],.emp]
def AQ(a:Nat):List T:=(List.range a).map λj=>.str ("1,0:" ++⟨#[48+j]⟩)
def Ad:List T:=[.str "1:2",.str "1,0,0:3",.str "1,0:0",.str "-2,0:0"]
def Bi:M T->Str
 |.ok (.str x)=>x
 |_=> ""
def pj(a q:Nat):Str:=Bi ((xA (cM (.str " ")) (dN (gG (dN (gG (dN (lstM (cm (cM (.str "2")) cw))) (cn 9))) (dN (lstM (cm (cn 10) (cm (cM (.str "0,1:1")) cw))))))) (([none,none,none,none,none,none,none,none,none,some (.lst (AQ a)),some (Ad.getD q .non),none]:Pe)))
section
variable {c:Cs}{x0 x1 x2 x3 x4 x5 x6 x7 x8 x9 x10 x11:Oq W}
def Bu:(List.range' 0 90).map (λ(k:Nat)=>jA [.int (1+(k:Int))])=(List.range' 0 90).map (λk=>.ok (.str (ic k))):=by kernel_rfl
def C6:(List.range' 0 90).map (λ(k:Nat)=>(dN (lstM (cm (cn 2) (cm (cL cT (cL cT (cL cT (cn 2) (cM (.str ",-"))) (cn 2)) (cM (.str "/91"))) (cm (cL cT (cL cT (cn 2) (cM (.str ",0:-"))) (cn 2)) (cm (cL cT (cL cT (cM (.str "2 0,")) (cn 2)) (cM (.str ":5"))) (cm (cM (.str "+0-")) cw))))))) (lx [x0,x1,some (.p (.str (ic k))),x3,x4,x5,x6,x7,x8,x9,x10,x11]))=(List.range' 0 90).map (λk=>.ok (.lst (gd k))):=by kernel_rfl
def C7:(List.range' 0 90).map (λ(k:Nat)=>(dN (lstM (cm (c7 (cm (cn 2) cw) (de c)) (cm (dN (fT (cm (cn 2) cw) (dF c))) (cm (dN (fT (cm (cL iG (cn 3) (cM (.int 2))) cw) (ef c))) cw))))) (lx [x0,x1,some (.p (.str (ic k))),some (.p (.lst (gd k))),x4,x5,x6,x7,x8,x9,x10,x11]))=(List.range' 0 90).map (λk=>.ok (.lst (((Bx k).take 3).map T.lst))):=by kernel_rfl
def CW:(List.range' 0 90).map (λ(k:Nat)=>(dN (gG (cn 4) (dN (lstM (cm (dN (fT (cm (cL iG (cn 3) (cM (.int 2))) cw) (dz c))) (cm (dN (fT (cm (cM (.str "+0-")) cw) (dG c))) cw)))))) (lx [x0,x1,some (.p (.str (ic k))),some (.p (.lst (gd k))),some (.p (.lst (((Bx k).take 3).map T.lst))),x5,x6,x7,x8,x9,x10,x11]))=(List.range' 0 90).map (λk=>.ok (.lst ((Bx k).map T.lst))):=by kernel_rfl
def Cm:(List.range' 0 90).map (λ(k:Nat)=>(cL cT (cn 2) (cM (.str ",-1/91"))) (vw [x0,x1,some (.p (.str (ic k))),x3,x4,x5,x6,x7,x8,x9,x10,x11]))=(List.range' 0 90).map (λk=>.ok (.str (ic k++ ",-1/91"))):=by kernel_rfl
def Cn:(List.range' 0 5).map (λ(a:Nat)=>(dN (kD [none] (il (cm (cn 8) cw)) (lB 0) (λ_=>.ok true) (lq c))) (lx [x0,x1,x2,x3,x4,x5,x6,x7,some (.p (.int (a:Int))),x9,x10,x11]))=(List.range' 0 5).map (λa=>.ok (.lst (AQ a))):=by kernel_rfl
def C1:(List.range' 0 5).map (λ(a:Nat)=>(cL cT (cM (.int 2)) (cL jk (cM (.int 2)) (ig nS (cm (cL Bd (cn 8) (cM (.int 0))) cw)))) (lx [x0,x1,x2,x3,x4,x5,x6,x7,some (.p (.int (a:Int))),x9,x10,x11]))=(List.range' 0 5).map (λa=>.ok (.int (if a=0 then 2 else 4))):=by kernel_rfl
def Cw:(List.range' 0 5).map (λ(a:Nat)=>(List.range' 0 4).map λ(q:Nat)=>(xA (cM (.str " ")) (dN (gG (dN (gG (dN (lstM (cm (cM (.str "2")) cw))) (cn 9))) (dN (lstM (cm (cn 10) (cm (cM (.str "0,1:1")) cw))))))) (vw [x0,x1,x2,x3,x4,x5,x6,x7,x8,some (.p (.lst (AQ a))),some (.p (Ad.getD q .non)),x11]))=(List.range' 0 5).map (λa=>(List.range' 0 4).map λq=>.ok (.str (pj a q))):=by kernel_rfl
end
section
variable {c:Cs}
def kz(c:Cs)(w:Int)(l:List T):Prop:=(l.map λt=>cv c [.int w,t])=l.map λ_=>.er c.NoText none
def kz.mem{w:Int}{l:List T}(h:kz c w l){t:T}(a:t∈l):cv c [.int w,t]=.er c.NoText none:=b7.mp h t a
def kz.app{w:Int}{l m:List T}(h:kz c w l)(h':kz c w m):kz c w (l++m):=by unfold kz at *;rw[aX,aX,h,h']
def DG:kz c 0 C0:=by unfold kz;kernel_rfl
def Dz:kz c 2 C2:=by unfold kz;kernel_rfl
def DK:kz c 3 C3:=by unfold kz;kernel_rfl
def DM:kz c 4 C4:=by unfold kz;kernel_rfl
def xw(c:Cs)(k:Nat):List (List (M T)):=[(N0 k).map λt=>cv c [.int 0,t],(N1 k).map λt=>cv c [.int 1,t],(N2 k).map λt=>cv c [.int 2,t],(N3 k).map λt=>cv c [.int 3,t]]
def xy(c:Cs)(k:Nat):List (List (M T)):=[(N0 k).map λ_=>.er c.NoText none,(N1 k).map λ_=>.er c.NoText none,(N2 k).map λ_=>.er c.NoText none,(N3 k).map λ_=>.er c.NoText none]
def DL:(List.range' 0 15).map (xw c)=(List.range' 0 15).map (xy c):=by kernel_rfl
def DI:(List.range' 15 15).map (xw c)=(List.range' 15 15).map (xy c):=by kernel_rfl
def Dy:(List.range' 30 15).map (xw c)=(List.range' 30 15).map (xy c):=by kernel_rfl
def DD:(List.range' 45 15).map (xw c)=(List.range' 45 15).map (xy c):=by kernel_rfl
def DA:(List.range' 60 15).map (xw c)=(List.range' 60 15).map (xy c):=by kernel_rfl
def DX:(List.range' 75 15).map (xw c)=(List.range' 75 15).map (xy c):=by kernel_rfl
def Cq(k:Nat)(b:k<90):xw c k=xy c k:=by
 rcases b9 k 15 with h|h
 .exact gB DL k ⟨bu _,h⟩
 rcases b9 k 30 with a|a
 .exact gB DI k ⟨h,a⟩
 rcases b9 k 45 with h|h
 .exact gB Dy k ⟨a,h⟩
 rcases b9 k 60 with a|a
 .exact gB DD k ⟨h,a⟩
 rcases b9 k 75 with h|h
 .exact gB DA k ⟨a,h⟩
 .exact gB DX k ⟨h,b⟩
def CY(k:Nat)(d:k<90):kz c 0 (C0++N0 k)/\kz c 1 (N1 k)/\kz c 2 (C2++N2 k)/\kz c 3 (C3++N3 k)/\kz c 4 C4:=by have h:=Cq (c:=c) k d;unfold xw xy at h;obtain⟨a,h⟩:=List.cons.inj h;obtain⟨f,h⟩:=List.cons.inj h;obtain⟨e,h⟩:=List.cons.inj h;obtain⟨b,-⟩:=List.cons.inj h;exact⟨DG.app a,f,Dz.app e,DK.app b,DM⟩
def Av:(List.range' 0 5).map (λ(w:Nat)=>xa.map λt=>cv c [.int (w:Int),t])=(List.range' 0 5).map (λ_=>xa.map λ_=>.er c.NoText none):=by kernel_rfl
def BY(c:Cs)(k:Nat):List (M T):=[cv c [.int 0,.str (ic k)],cv c [.int 1,.str (ic k++ ",-1/91")],cv c [.int 2,.str (g2 k)],cv c [.int 3,.str ("2 0," ++ic k++ ":5")],cv c [.int 4,.str "+0-"]]
def DZ:(List.range' 0 30).map (BY c)=(List.range' 0 30).map (λ_=>List.replicate 5 (.ok .non)):=by kernel_rfl
def DU:(List.range' 30 30).map (BY c)=(List.range' 30 30).map (λ_=>List.replicate 5 (.ok .non)):=by kernel_rfl
def DS:(List.range' 60 30).map (BY c)=(List.range' 60 30).map (λ_=>List.replicate 5 (.ok .non)):=by kernel_rfl
def xJ(k:Nat)(b:k<90):BY c k=List.replicate 5 (.ok .non):=by
 rcases b9 k 30 with h|h
 .exact gB DZ k ⟨bu _,h⟩
 rcases b9 k 60 with a|a
 .exact gB DU k ⟨h,a⟩
 .exact gB DS k ⟨a,b⟩
def Cp:(List.range' 0 5).map (λ(a:Nat)=>(List.range' 0 (if a=0 then 2 else 4)).map λ(q:Nat)=>cv c [.int 3,.str (pj a q)])=(List.range' 0 5).map (λa=>(List.range' 0 (if a=0 then 2 else 4)).map λ_=>.er c.NoCutting (some (a:Int))):=by kernel_rfl
def Cz:(([.str "0",.str "4",.str "-1",.str "60 1:1",.str "7 1,0:1"]:List T).map λt=>cv c [.int 3,t])=List.replicate 5 (.er c.NoCutting (some (-1))):=by kernel_rfl
def t9(c:Cs):Str:=Bi ((xA (cM (.str " ")) (dN (gG (dN (lstM (cm (cM (.str "1")) cw))) (dN (kD [none] (il (cm (cM (.int 9)) cw)) (lB 0) (λ_=>.ok true) (jl c)))))) ([]:Pe))
def AF(ρ:Pe):(xA (cM (.str " ")) (dN (gG (dN (lstM (cm (cM (.str "1")) cw))) (dN (kD [none] (il (cm (cM (.int 9)) cw)) (lB 0) (λ_=>.ok true) (jl c)))))) ρ=.ok (.str (t9 c)):=by kernel_rfl
def B0:cv c [.int 3,.str (t9 c)]=.er c.NoCutting (some 7):=by kernel_rfl
end
def gp(h:i.natAbs<2 ^ 64):jk (.int i) (.int j)=.ok (.int (i*j)):=wX (ri h)
def xh cell (k:Nat) b (B:0<b) (D:b<2 ^ 62) (H:k<=1000000):∃d,c9 c [.int cell,.int (k:Int),.int b]=.ok (.int d)/\0<=d/\d<b:=by
 have f:b≠0:=by omega
 have A:∀x:Int,0<=x.fmod b/\x.fmod b<b:=λx=>⟨cf x B,cg x B⟩;have l:wd (.int 10) (.int 18)=.ok (.int 1000000000000000000):=by simp[wd,eQ]
 by_cases h:(1000000000000000000:Int)<=cell
 .obtain⟨s,e,v,w,rfl⟩:=lS (m:=xg 4) (g:=setO 3 (ed (cL lZ (cn 3) (cn 2)))) (λ(i:Nat)=>T.int (i:Int)) (λ_ s=>∃v w,s=[some (.p (.int cell)),some (.p (.int k)),some (.p (.int b)),some (.p (.int v)),w,none])
   (List.range k) 0 [some (.p (.int cell)),some (.p (.int k)),some (.p (.int b)),some (.p (.int cell)),none,none] ⟨_,_,rfl⟩ (by rintro i a s J ⟨v,w,rfl⟩;have F:Builtin.divisionGoesByPylong v b=false:=Bn.noPy (n:=62) (by unfold Bn;omega) (by decide);exact⟨_,_,rfl,.inl (dY (by simp[nT f F];rfl) rfl),_,_,rfl⟩)
  refine⟨v.fmod b,lH rfl ?_,A v⟩;have q:xQ (k:Int)=true:=lK (by omega);refine zc (zK (by simp[l,h]) (dn (dY (by simp) rfl) (dn (pG (by simp[q,Aq]) e) (oz (by simp[jL f]))))) rfl
 .have u:∀x y:Int,0<y->0<=x.fmod y/\x.fmod y<y:=λx y z=>⟨cf x z,cg x z⟩;have I:=u cell 1000000007 (by decide);have G:=u ((cell.fmod 1000000007+1009*k+17)*69621) 2147483647 (by decide);generalize o:((cell.fmod 1000000007+1009*k+17)*69621).fmod 2147483647=s1 at G;have E:=u (s1*s1+40503*k+5) 2147483629 (by decide);generalize r:(s1*s1+40503*k+5).fmod 2147483629=s2 at E;have C:Builtin.divisionGoesByPylong ((s2*48271).fmod 2147483647) 32=false:=Bn.noPy (n:=62) (by unfold Bn;decide) (by decide);refine⟨(((s2*48271).fmod 2147483647).fdiv 32).fmod b,lH rfl ?_,A _⟩;refine dn (m5 (by simp[l,h]) rfl) (dn (dY (t:=.int s1) ?_ rfl) (dn (dY (t:=.int s2) ?_ rfl) (oz ?_)))
  .rw[<-o];simp[jL,gp (i:=1009) (j:=k) (by decide),gp (i:=cell.fmod 1000000007+1009*k+17) (j:=69621) (by omega)]
  .rw[<-r];simp[jL,gp (i:=40503) (j:=k) (by decide),gp (i:=s1) (j:=s1) (by omega)]
  .simp[jL,f,nT (j:=32) (by decide) C,gp (i:=s2) (j:=48271) (by omega)]
def dr(c:Cs)(cell k b:Int):Int:=match c9 c [.int cell,.int k,.int b] with
 |.ok (.int d)=>d
 |_=>0
def iW cell k b (f:0<b) (a:b<2 ^ 62) (g:0<=k) (j:k<=1000000):c9 c [.int cell,.int k,.int b]=.ok (.int (dr c cell k b))/\0<=dr c cell k b/\dr c cell k b<b:=by
 obtain⟨d,e,i,h⟩:=xh cell k.toNat b f a (by omega);rw[cj g]at e;have:dr c cell k b=d:=by unfold dr;rw[e]
 rw[this];exact⟨e,i,h⟩
def Dq n:(List.replicate n [T.int 0]).flatten=(List.replicate n (0:Int)).map T.int:=by
 induction n with
 |zero=>rfl
 |succ n ih=>rw[bG,bH,ih,bG];rfl
end CL
namespace CL
open PySem L2 L3
variable {c:Cs}
def yP(l:List α)(k:Nat) h:kr l (k:Int)=some l[k]:=by unfold kr vW;rw[aO (by lia),aO (by lia)];simp[h]
def Dc n (x:T):(List.replicate n [x]).flatten=List.replicate n x:=by
 induction n with
 |zero=>rfl
 |succ n ih=>rw[bG,bH,ih,bG];rfl
end CL
namespace CL
open PySem L2 L3
variable {c:Cs}
def yn(h:fc ρ=.ok false):oN fc fd ρ=.ok false:=by simp only[L3.oN,h,M.bind_ok];rfl
def mj(h:fc ρ=.ok true)(a:fd ρ=.ok b):oN fc fd ρ=.ok b:=by simp only[L3.oN,h,a,M.bind_ok];rfl
end CL
namespace CL
open PySem L2 L3
variable {c:Cs}
def zv(n:Nat)(h:n<=1000)(a:f ρ=.ok (.int (n:Int))):il (cm f cw) ρ=.ok ((List.range n).map λ(i:Nat)=>T.int (i:Int)):=by have hr:xQ n=true:=lK (by lia);rw[<-Aq];simp[a,hr]
end CL
namespace CL
open PySem L2 L3
variable {c:Cs}
def iT{a:Type}[Inhabited a](l:List a) f k w (h:k<l.length):iG (.lst (l.map f)) (.int (k:Int))=.ok (f (l.getD k w)):=by have e:=yP (l.map f) k (by rw[av];exact h);rw[List.getElem_map]at e;show (match kr (l.map f) k with|some t=>M.ok t|none=>.bad)=_;rw[e,af,ag h];rfl
def zi(h:fa ρ=.ok (.bl true))(a:fb ρ=.ok t):oA fa fb ρ=.ok t:=by simp only[oA,fu,h,M.bind_ok,a,if_true]
def qq{w:Int}{t:T}(h:cv c [.int w,t]=.er c.NoText none):cF c [.int w,t]=.ok (.str "none"):=by
 have e:dg (cm (cn 0) (cm (cn 1) cw)) (cv c) (lx [some (.p (.int w)),some (.p t),some (.p (.str "told")),none,none])=.er c.NoText none:=by show (cv c [.int w,t])=_;exact h
 refine lH rfl (dn (dY (t:=.str "told") rfl rfl) ?_);show kK 5 _ _ _ 2 "none" _ [some (.p (.int w)),some (.p t),some (.p (.str "told")),none,none]=_;have a:eI (ed (dg (cm (cn 0) (cm (cn 1) cw)) (cv c))) [some (.p (.int w)),some (.p t),some (.p (.str "told")),none,none]=.er c.NoText none:=by unfold eI ed;rw[e];rfl
 unfold kK;rw[a];dsimp only;rw[aO rfl];rfl
def md{w i:Int}{t:T}(h:cv c [.int w,t]=.er c.NoCutting (some i)):cF c [.int w,t]=.ok (.int i):=by
 have e:dg (cm (cn 0) (cm (cn 1) cw)) (cv c) (lx [some (.p (.int w)),some (.p t),some (.p (.str "told")),none,none])=.er c.NoCutting (some i):=by show (cv c [.int w,t])=_;exact h
 refine lH rfl (dn (dY (t:=.str "told") rfl rfl) ?_);show kK 5 _ _ _ 2 "none" _ [some (.p (.int w)),some (.p t),some (.p (.str "told")),none,none]=_;have a:eI (ed (dg (cm (cn 0) (cm (cn 1) cw)) (cv c))) [some (.p (.int w)),some (.p t),some (.p (.str "told")),none,none]=.er c.NoCutting (some i):=by unfold eI ed;rw[e];rfl
 unfold kK;rw[a];dsimp only;rw[aO rfl];rfl
def gj{w:Int}{t:T}(h:cv c [.int w,t]=.ok .non):cF c [.int w,t]=.ok (.str "told"):=by
 have e:dg (cm (cn 0) (cm (cn 1) cw)) (cv c) (lx [some (.p (.int w)),some (.p t),some (.p (.str "told")),none,none])=.ok .non:=by show (cv c [.int w,t])=_;exact h
 refine lH rfl (dn (dY (t:=.str "told") rfl rfl) ?_);show kK 5 _ _ _ 2 "none" _ [some (.p (.int w)),some (.p t),some (.p (.str "told")),none,none]=_;have a:=w6 e;unfold kK;rw[a];rfl
def A5(L:List T)(q:Nat)(h:q<L.length):iG (.lst L) (.int (q:Int))=.ok (L.getD q .non):=by have a:kr L (q:Int)=some L[q]:=vR (ag h);show (match kr L (q:Int) with|some t=>M.ok t|none=>.bad)=_;rw[a,af,ag h];rfl
def xT(L:List T)(q:Nat)(h:q<L.length):∃t∈L,iG (.lst L) (.int (q:Int))=.ok t:=⟨L[q],List.getElem_mem h,by rw[A5 L q h,af,ag h];rfl⟩
def xU:dH true (.str "none") (.str "none")=.ok (.bl false):=by kernel_rfl
def nR:dH true (.str "told") (.str "told")=.ok (.bl false):=by kernel_rfl
section
variable {ns:LI}{cell:Int}{k:Nat}{x5 x6 x7 x8 x9 x10 x11:Oq W}
def Az(n:k<90)(w:Nat)(hw:w<5):∃g h,jm c [some (.p (.scr ns)),some (.p (.int cell)),some (.p (.str (ic k))),some (.p (.lst (gd k))),some (.p (.lst ((Bx k).map T.lst))),some (.p (.int (w:Int))),x6,x7,x8,x9,x10,x11] =
  .nx [some (.p (.scr ns)),some (.p (.int cell)),some (.p (.str (ic k))),some (.p (.lst (gd k))),some (.p (.lst ((Bx k).map T.lst))),some (.p (.int (w:Int))),g,h,x8,x9,x10,x11]:=by
 have d:=CY (c:=c) k n;have o:w=0\/w=1\/w=2\/w=3\/w=4:=by omega
 obtain⟨L,eL,nL,l0,l1⟩:∃L,iG (.lst ((Bx k).map T.lst)) (.int (w:Int))=.ok (.lst L)/\kz c (w:Int) L/\0<L.length/\L.length<100:=by
  rcases o with rfl|rfl|rfl|rfl|rfl
  .exact⟨_,iT (Bx k) T.lst 0 [] (by simp[Bx]),d.1,(by show 0<25;decide),by show 25<100;decide⟩
  .exact⟨_,iT (Bx k) T.lst 1 [] (by simp[Bx]),d.2.1,(by show 0<15;decide),by show 15<100;decide⟩
  .exact⟨_,iT (Bx k) T.lst 2 [] (by simp[Bx]),d.2.2.1,(by show 0<28;decide),by show 28<100;decide⟩
  .exact⟨_,iT (Bx k) T.lst 3 [] (by simp[Bx]),d.2.2.2.1,(by show 0<20;decide),by show 20<100;decide⟩
  .exact⟨_,iT (Bx k) T.lst 4 [] (by simp[Bx]),d.2.2.2.2,(by show 0<14;decide),by show 14<100;decide⟩
 obtain⟨m,i,l⟩:=iW (c:=c) cell (2+(w:Int)) (L.length:Int) (by omega) (by omega) (by omega) (by omega);obtain⟨q6,hq6⟩:∃q:Nat,dr c cell (2+(w:Int)) (L.length:Int)=(q:Int):=⟨_,(cj i).symm⟩;rw[hq6]at m l;obtain⟨a,v,B⟩:=xT L q6 (by omega);obtain⟨r,f,j⟩:=iW (c:=c) cell 9 6 (by decide) (by decide) (by decide) (by decide);obtain⟨q7,hq7⟩:∃q:Nat,dr c cell 9 6=(q:Int):=⟨_,(cj f).symm⟩;rw[hq7]at r j;obtain⟨b,A,y⟩:=xT xa q7 (show q7<6 by omega);have s:=qq (nL.mem v);have u:=qq (b7.mp (gB (Av (c:=c)) w ⟨bu _,by omega⟩) b A);have e:=xJ (c:=c) k n;let R (g h:Oq W):En:=[some (.p (.scr ns)),some (.p (.int cell)),some (.p (.str (ic k))),some (.p (.lst (gd k))),some (.p (.lst ((Bx k).map T.lst))),some (.p (.int (w:Int))),g,h,x8,x9,x10,x11];refine⟨some (.p a),some (.p b),dn (ρ':=R (some (.p a)) x7) (dY (t:=a) (dJ (dJ rfl rfl eL) (nM rfl (dJ rfl rfl (nG _ _)) (Bo (dJ rfl rfl eL) (by simp)) m) B) rfl) (dn (ρ':=R (some (.p a)) (some (.p b))) (dY (t:=b) (dJ (x:=.lst xa) rfl (nM rfl rfl rfl r) y) rfl) (dn (m5 ?_ rfl) (m5 ?_ rfl)))⟩
 .have z:=f7 (dJ (fa:=c7 (cm (cn 5) (cm (cn 6) cw)) (cF c)) (fb:=cM (.str "none")) (ρ:=vw (R (some (.p a)) (some (.p b)))) (ip rfl rfl s) rfl xU);have C:=f7 (dJ (fa:=c7 (cm (cn 5) (cm (cn 7) cw)) (cF c)) (fb:=cM (.str "none")) (ρ:=vw (R (some (.p a)) (some (.p b)))) (ip rfl rfl u) rfl xU);show L3.rO _ _ _=_;simp only[L3.rO,z,C,M.bind_ok];rfl
 .rcases o with rfl|rfl|rfl|rfl|rfl
  .exact mj (f7 (dJ rfl rfl rfl)) (f7 (dJ (ip rfl (dJ rfl rfl rfl) (gj (List.cons.inj e).1)) rfl nR))
  .exact yn (f7 (dJ rfl rfl rfl))
  .exact mj (f7 (dJ rfl rfl rfl)) (f7 (dJ (ip rfl (dJ rfl rfl rfl) (gj (List.cons.inj (List.cons.inj (List.cons.inj e).2).2).1)) rfl nR))
  .exact mj (f7 (dJ rfl rfl rfl)) (f7 (dJ (ip rfl (dJ rfl rfl rfl) (gj (List.cons.inj (List.cons.inj (List.cons.inj (List.cons.inj e).2).2).2).1)) rfl nR))
  .exact mj (f7 (dJ rfl rfl rfl)) (f7 (dJ (ip rfl (dJ rfl rfl rfl) (gj (List.cons.inj (List.cons.inj (List.cons.inj (List.cons.inj (List.cons.inj e).2).2).2).2).1)) rfl nR))
def Br(Z X N:Oq W):∃D E K h d f J G o,jq c [some (.p (.scr ns)),some (.p (.int cell)),Z,X,N,x5,x6,x7,x8,x9,x10,x11] =
  .nx [some (.p (.scr ns)),some (.p (.int cell)),D,E,K,h,d,f,J,G,o,x11]:=by
 obtain⟨P,C,F⟩:=iW (c:=c) cell 1 90 (by decide) (by decide) (by decide) (by decide);obtain⟨k,hk⟩:∃q:Nat,dr c cell 1 90=(q:Int):=⟨_,(cj C).symm⟩;rw[hk]at P F;have Q:k<90:=by omega
 have r:0<=k/\k<0+90:=by omega
 obtain⟨R,I,H⟩:=iW (c:=c) cell 10 5 (by decide) (by decide) (by decide) (by decide);obtain⟨a,ha⟩:∃q:Nat,dr c cell 10 5=(q:Int):=⟨_,(cj I).symm⟩;rw[ha]at R H;have A:0<=a/\a<0+5:=by omega
 let b:Nat:=if a=0 then 2 else 4
 have hb:2<=b/\b<=4:=by show 2<=(if a=0 then 2 else 4)/\(if a=0 then 2 else 4)<=4;split<;>omega
 have eb:((if a=0 then 2 else 4:Int))=((b:Nat):Int):=by show _=(((if a=0 then 2 else 4:Nat)):Int);split<;>rfl
 obtain⟨y,v,s⟩:=iW (c:=c) cell 11 (b:Int) (by omega) (by omega) (by decide) (by decide);obtain⟨q,hq⟩:∃q:Nat,dr c cell 11 (b:Int)=(q:Int):=⟨_,(cj v).symm⟩;rw[hq]at y s;have Y:q<Ad.length:=by show q<4;omega
 have iq:=A5 Ad q Y;have pq:=md (b7.mp (gB (Cp (c:=c)) a A) q (b8.mpr ⟨bu _,by show q<0+b;omega⟩));have gk:=xJ (c:=c) k Q;let S (D E K h d f J G o:Oq W):En:=[some (.p (.scr ns)),some (.p (.int cell)),D,E,K,h,d,f,J,G,o,x11];let j:Oq W:=some (.p (.str (ic k)));let l:Oq W:=some (.p (.lst (gd k)));let n:Oq W:=some (.p (.lst ((Bx k).map T.lst)));let B:Oq W:=some (.p (.int (a:Int)));let L:Oq W:=some (.p (.lst (AQ a)));let u:Oq W:=some (.p (Ad.getD q .non));obtain⟨ρ5,e5,h,d,f,rfl⟩:=jr (m:=xg 5) (g:=jm c) (λ(i:Nat)=>T.int (i:Int)) (λU=>∃h d f,U=S j l n h d f x8 x9 x10) (List.range 5) (S j l n x5 x6 x7 x8 x9 x10) ⟨_,_,_,rfl⟩ (by rintro w hw U ⟨h,d,f,rfl⟩;obtain⟨u6,u7,e⟩:=Az (c:=c) (ns:=ns) (cell:=cell) (x6:=d) (x7:=f) (x8:=x8) (x9:=x9) (x10:=x10) (x11:=x11) Q w (aQ.mp hw);exact⟨_,_,rfl,.inl e,_,_,_,rfl⟩)
 have n8:dH true (.int (a:Int)) (.int (a:Int))=.ok (.bl false):=by rw[sS];simp
 refine⟨j,l,n,h,d,f,B,L,u,?_⟩;refine dn (ρ':=S j X N x5 x6 x7 x8 x9 x10) (dY (t:=.str (ic k)) (Bo (dJ rfl (nM rfl rfl rfl P) (nG _ _)) (gB Bu k r)) rfl) ?_;refine dn (ρ':=S j l N x5 x6 x7 x8 x9 x10) (dY (t:=.lst (gd k)) (gB C6 k r) rfl) ?_;refine dn (ρ':=S j l (some (.p (.lst (((Bx k).take 3).map T.lst)))) x5 x6 x7 x8 x9 x10) (dY (t:=.lst (((Bx k).take 3).map T.lst)) (gB C7 k r) rfl) ?_;refine dn (ρ':=S j l n x5 x6 x7 x8 x9 x10) (dY (t:=.lst ((Bx k).map T.lst)) (gB CW k r) rfl) ?_;refine dn (pG (zv 5 (by decide) rfl) e5) ?_;refine dn (m5 (f7 (dJ (ip rfl (gB Cm k r) (gj (List.cons.inj (List.cons.inj gk).2).1)) rfl nR)) rfl) ?_;refine dn (ρ':=S j l n h d f B x9 x10) (dY (t:=.int (a:Int)) (nM rfl rfl rfl R) rfl) ?_;refine dn (ρ':=S j l n h d f B L x10) (dY (t:=.lst (AQ a)) (gB Cn a A) rfl) ?_;refine dn (ρ':=S j l n h d f B L u) (dY (t:=Ad.getD q .non) (dJ (x:=.lst Ad) rfl (nM rfl rfl ((gB C1 a A).trans (congrArg (λz=>M.ok (T.int z)) eb)) y) iq) rfl) ?_;exact m5 (f7 (dJ (ip rfl (b7.mp (gB Cw a A) q (b8.mpr ⟨bu _,by omega⟩)) pq) rfl n8)) rfl
end
def rC(ns:LI):iY c [.scr ns]=.ok (.bl true):=by
 have sz:1000<sizeLine:=by decide
 let S (o b f n j d i l k a s:Oq W):En:=[some (.p (.scr ns)),o,b,f,n,j,d,i,l,k,a,s];let u:LI:=gn ns none (some 20)++[0,5];have J:(gn ns none (some 20)).length<=20:=by rw[show gn ns none (some 20)=ns.take 20 from qW ns 20,bB];exact Nat.min_le_left _ _
 obtain⟨A,y,o,b,f,n,j,d,i,l,k,a,rfl⟩:=jr (m:=xg 1) (g:=jq c) T.int (λw=>∃o b f n j d i l k a,w=S o b f n j d i l k a none) u (S none none none none none none none none none none none) ⟨_,_,_,_,_,_,_,_,_,_,rfl⟩ (by rintro x N w ⟨o,b,f,n,j,d,i,l,k,a,rfl⟩;obtain⟨E,H,K,I,L,F,D,G,z,e⟩:=Br (c:=c) (ns:=ns) (cell:=x) (x5:=j) (x6:=d) (x7:=i) (x8:=l) (x9:=k) (x10:=a) (x11:=none) b f n;exact⟨_,_,rfl,.inl e,_,_,_,_,_,_,_,_,_,_,rfl⟩)
 let q:List T:=[.str "0",.str "4",.str "-1",.str "60 1:1",.str "7 1,0:1"];have C:∀t∈q,cF c [.int 3,t]=.ok (.int (-1)):=λt r=>md (by have h:=Cz (c:=c);have B:(q.map λt=>cv c [.int 3,t])=q.map λ_=>.er c.NoCutting (some (-1)):=h;exact b7.mp B t r)
 have v:kD [none] (iF (dN (lstM (cm (cM (.str "0")) (cm (cM (.str "4")) (cm (cM (.str "-1")) (cm (cM (.str "60 1:1")) (cm (cM (.str "7 1,0:1")) cw)))))))) (lB 0) (λ_=>.ok true) (lU c) (lx (S o b f n j d i l k a none))=.ok (q.map λ_=>T.int (-1)):=yh q (λt=>t) (λ_=>T.int (-1)) (by rw[List.map_id'];rfl) (by show 5<sizeLine;omega) (λt r=>⟨_,rfl,rfl,ip rfl rfl (C t r)⟩) rfl
 refine lH rfl (dn (zP (its:=u.map T.int) ?_ y) (dn (ρ':=S o b f n j d i l k a (some (.p (.lst (q.map λ_=>T.int (-1)))))) (dY (sx v) rfl) (oz (zi ?_ ?_))))
 .refine sX (sx ?_);show (if ((gn ns none (some 20)).map T.int).length+2<=sizeLine then M.ok ((gn ns none (some 20)).map T.int++[.int 0,.int 5]) else .bad)=_;rw[av,aO (by omega)];simp[u]
 .exact dJ rfl rfl (by kernel_rfl)
 .exact dJ (ip rfl (AF _) (md B0)) rfl (by rw[uf];rfl)
end CL
namespace K82
open PySem L2 L3 CL
def eB(i:Nat):Stmt:=PySem.Challenge.pw_cutlands_k82_no_texts.main.body.getD i (.Pass ⟨0,0,0,0⟩)
structure Er(w:World)(c:Cs)(K:W.Frag)(mg:Str->Option Value):Prop where
 here:True
 cl_Cutting:xB K c.Cutting
 na_Cutting_own_cuts:fV K c.Cutting "own_cuts"
 na_Cutting_own_dims:fV K c.Cutting "own_dims"
 mk_Cutting:W.makesIn K c.Cutting=true
 kp_Cutting:W.keepIn K (.ref c.Cutting)=true
 mg_Cutting:mg "Cutting" = some (.ref c.Cutting)
 k_FIGURES:∃t,mg "FIGURES" = some (.str "0123456789" t)
 k_MOST_CUTS:∃t,mg "MOST_CUTS" = some (.int 7 t)
 k_MOST_DIMS:∃t,mg "MOST_DIMS" = some (.int 3 t)
 k_MOST_FIGURES:∃t,mg "MOST_FIGURES" = some (.int 60 t)
 k_NO_SIGNS:∃t,mg "NO_SIGNS" = some (.str "." t)
 tb_SIGNS:∃d,mg "SIGNS" = some (.ref d)/\∀P,qM P w K d (([("+",1),("0",0),("-",-1)]:List (Str×Int)).map λp=>(p.1,V.int p.2))
 cut:mg "CutError" = some (.ref c.CutError)
 hct:wm K c.CutError
 x_NoText:Xk K "NoText" c.NoText c.CutError
 ns_NoCutting:W.nsIn K mainGlobals "NoCutting" = some (some (.ref c.NoCutting))
 qi_NoCutting:jj K c.NoCutting zN "ValueError.__new__" = true
 xc_NoCutting:iN K c.NoCutting
 su_NoCutting:W.mroIn K c.NoCutting (.ref c.CutError)=some true
 va_NoCutting:W.kitOne K (.ref c.NoCutting) (.type "ValueError")=some true
 xi_NoCutting:rD K c.NoCutting "at"
 m_NoFraction:mg "NoFraction" = some (.ref c.NoFraction)
 m_NoNumber:mg "NoNumber" = some (.ref c.NoNumber)
 m_NoSigns:mg "NoSigns" = some (.ref c.NoSigns)
 m_NoSpot:mg "NoSpot" = some (.ref c.NoSpot)
 m_NoText:mg "NoText" = some (.ref c.NoText)
 m_NoCutting:mg "NoCutting" = some (.ref c.NoCutting)
 n_NoText_NoFraction:W.kitOne K (.ref c.NoText) (.ref c.NoFraction)=some false
 n_NoText_NoNumber:W.kitOne K (.ref c.NoText) (.ref c.NoNumber)=some false
 n_NoText_NoSigns:W.kitOne K (.ref c.NoText) (.ref c.NoSigns)=some false
 n_NoText_NoSpot:W.kitOne K (.ref c.NoText) (.ref c.NoSpot)=some false
 n_NoText_NoCutting:W.kitOne K (.ref c.NoText) (.ref c.NoCutting)=some false
 n_NoCutting_NoFraction:W.kitOne K (.ref c.NoCutting) (.ref c.NoFraction)=some false
 n_NoCutting_NoNumber:W.kitOne K (.ref c.NoCutting) (.ref c.NoNumber)=some false
 n_NoCutting_NoSigns:W.kitOne K (.ref c.NoCutting) (.ref c.NoSigns)=some false
 n_NoCutting_NoSpot:W.kitOne K (.ref c.NoCutting) (.ref c.NoSpot)=some false
 n_NoCutting_NoText:W.kitOne K (.ref c.NoCutting) (.ref c.NoText)=some false
 val:mg "ValueError" = none
def Bw{w:World}{K:W.Frag}{h:Heap}{c:Str->Option Value}{aCutting dSIGNS aCutError aNoFraction aNoNumber aNoSigns aNoSpot aNoText aNoCutting:Addr}{tFIGURES tMOST_CUTS tMOST_DIMS tMOST_FIGURES tNO_SIGNS:_}{hSIGNS0:Int}{pSIGNS0 qSIGNS0:Tok}{hSIGNS1:Int}{pSIGNS1 qSIGNS1:Tok}{hSIGNS2:Int}{pSIGNS2 qSIGNS2:Tok}{epSIGNS:Nat}(X:K.In h)(G:h.Ns mainGlobals c)(e:W.nsIn K mainGlobals "Cutting" = some (some (.ref aCutting)))(n:W.plainGet K aCutting Str.empty=true)(o:W.hasDictIn K aCutting=true)(j:W.plainOver K aCutting=true)(i:W.findIn K (.ref aCutting) "__setattr__" = some (some (.builtin "object.__setattr__")))(own_cuts:W.findIn K (.ref aCutting) "own_cuts" = some none)(own_dims:W.findIn K (.ref aCutting) "own_dims" = some none)(l:W.makesIn K aCutting=true)(m:W.keepIn K (.ref aCutting)=true)(uFIGURES:W.nsIn K mainGlobals "FIGURES" = some (some (.str "0123456789" tFIGURES)))(uMOST_CUTS:W.nsIn K mainGlobals "MOST_CUTS" = some (some (.int 7 tMOST_CUTS)))(uMOST_DIMS:W.nsIn K mainGlobals "MOST_DIMS" = some (some (.int 3 tMOST_DIMS)))(uMOST_FIGURES:W.nsIn K mainGlobals "MOST_FIGURES" = some (some (.int 60 tMOST_FIGURES)))(uNO_SIGNS:W.nsIn K mainGlobals "NO_SIGNS" = some (some (.str "." tNO_SIGNS)))(uSIGNS:W.nsIn K mainGlobals "SIGNS" = some (some (.ref dSIGNS)))(sSIGNS:(dSIGNS==sysModules)=false)(lSIGNS:K.lookup dSIGNS=some ⟨.type "dict",none,.dict #[⟨hSIGNS0,.str "+" pSIGNS0,.int (1) qSIGNS0⟩,⟨hSIGNS1,.str "0" pSIGNS1,.int (0) qSIGNS1⟩,⟨hSIGNS2,.str "-" pSIGNS2,.int (-1) qSIGNS2⟩] epSIGNS,#[]⟩)(gSIGNS0:hSIGNS0=hashStr w "+")(gSIGNS1:hSIGNS1=hashStr w "0")(gSIGNS2:hSIGNS2=hashStr w "-")(eCutError:W.nsIn K mainGlobals "CutError" = some (some (.ref aCutError)))(eNoFraction:W.nsIn K mainGlobals "NoFraction" = some (some (.ref aNoFraction)))(eNoNumber:W.nsIn K mainGlobals "NoNumber" = some (some (.ref aNoNumber)))(eNoSigns:W.nsIn K mainGlobals "NoSigns" = some (some (.ref aNoSigns)))(eNoSpot:W.nsIn K mainGlobals "NoSpot" = some (some (.ref aNoSpot)))(eNoText:W.nsIn K mainGlobals "NoText" = some (some (.ref aNoText)))(eNoCutting:W.nsIn K mainGlobals "NoCutting" = some (some (.ref aNoCutting)))(g:W.typeIn K (.ref aCutError)=some (.type "type"))(f:W.mroIn K aCutError (.type "BaseException")=some true)(b:W.specialIn K (.builtin "object.__class__") "__get__" = some (some (.builtin "getset_descriptor.__get__")))(d:W.takesIn K (.builtin "object.__class__")=some true)(qNoText:W.excIn K aNoText zN "ValueError.__new__" = true)(pNoText:W.findIn K (.ref aNoText) "__getattribute__" = some (some (.builtin "BaseException.__getattribute__")))(rNoText:W.findIn K (.ref aNoText) "__getattr__" = some none)(sNoText:W.findIn K (.ref aNoText) "__class__" = some (some (.builtin "object.__class__")))(tNoText:W.mroIn K aNoText (.type "object")=some true)(uNoText:W.mroIn K aNoText (.type "BaseException")=some true)(vNoText:W.mroIn K aNoText (.ref aCutError)=some true)(wNoText:W.mroIn K aNoText (.type "ValueError")=some true)(qNoCutting:jj K aNoCutting zN "ValueError.__new__" = true)(pNoCutting:W.findIn K (.ref aNoCutting) "__getattribute__" = some (some (.builtin "BaseException.__getattribute__")))(rNoCutting:W.findIn K (.ref aNoCutting) "__getattr__" = some none)(sNoCutting:W.findIn K (.ref aNoCutting) "__class__" = some (some (.builtin "object.__class__")))(tNoCutting:W.mroIn K aNoCutting (.type "object")=some true)(uNoCutting:W.mroIn K aNoCutting (.type "BaseException")=some true)(vNoCutting:W.mroIn K aNoCutting (.ref aCutError)=some true)(wNoCutting:W.mroIn K aNoCutting (.type "ValueError")=some true)(saNoCutting:W.findIn K (.ref aNoCutting) "__setattr__" = some (some (.builtin "object.__setattr__")))(poNoCutting:(W.clsIn K aNoCutting).any (λk=>ia k.mro)=true)(naNoCutting:W.findIn K (.ref aNoCutting) "at" = some none)(hdNoCutting:W.hasDictIn K aNoCutting=true)(cNoFraction:W.typeIn K (.ref aNoFraction)=some (.type "type"))(dNoFraction:W.mroIn K aNoFraction (.type "object")=some true)(cNoNumber:W.typeIn K (.ref aNoNumber)=some (.type "type"))(dNoNumber:W.mroIn K aNoNumber (.type "object")=some true)(cNoSigns:W.typeIn K (.ref aNoSigns)=some (.type "type"))(dNoSigns:W.mroIn K aNoSigns (.type "object")=some true)(cNoSpot:W.typeIn K (.ref aNoSpot)=some (.type "type"))(dNoSpot:W.mroIn K aNoSpot (.type "object")=some true)(cNoText:W.typeIn K (.ref aNoText)=some (.type "type"))(dNoText:W.mroIn K aNoText (.type "object")=some true)(cNoCutting:W.typeIn K (.ref aNoCutting)=some (.type "type"))(dNoCutting:W.mroIn K aNoCutting (.type "object")=some true)(nNoTextNoFraction:aNoText≠aNoFraction)(mNoTextNoFraction:W.mroIn K aNoText (.ref aNoFraction)=some false)(nNoTextNoNumber:aNoText≠aNoNumber)(mNoTextNoNumber:W.mroIn K aNoText (.ref aNoNumber)=some false)(nNoTextNoSigns:aNoText≠aNoSigns)(mNoTextNoSigns:W.mroIn K aNoText (.ref aNoSigns)=some false)(nNoTextNoSpot:aNoText≠aNoSpot)(mNoTextNoSpot:W.mroIn K aNoText (.ref aNoSpot)=some false)(nNoTextNoCutting:aNoText≠aNoCutting)(mNoTextNoCutting:W.mroIn K aNoText (.ref aNoCutting)=some false)(nNoCuttingNoFraction:aNoCutting≠aNoFraction)(mNoCuttingNoFraction:W.mroIn K aNoCutting (.ref aNoFraction)=some false)(nNoCuttingNoNumber:aNoCutting≠aNoNumber)(mNoCuttingNoNumber:W.mroIn K aNoCutting (.ref aNoNumber)=some false)(nNoCuttingNoSigns:aNoCutting≠aNoSigns)(mNoCuttingNoSigns:W.mroIn K aNoCutting (.ref aNoSigns)=some false)(nNoCuttingNoSpot:aNoCutting≠aNoSpot)(mNoCuttingNoSpot:W.mroIn K aNoCutting (.ref aNoSpot)=some false)(nNoCuttingNoText:aNoCutting≠aNoText)(mNoCuttingNoText:W.mroIn K aNoCutting (.ref aNoText)=some false)(a:W.nsIn K mainGlobals "ValueError" = some none):Er w ⟨aCutting,0,aCutError,aNoCutting,0,aNoFraction,aNoSpot,aNoSigns,0,0,aNoNumber,aNoText,0⟩ K c:=⟨trivial,⟨n,o,j,i⟩,own_cuts,own_dims,l,m,W.mg_of X G e,⟨_,W.mg_of X G uFIGURES⟩,⟨_,W.mg_of X G uMOST_CUTS⟩,⟨_,W.mg_of X G uMOST_DIMS⟩,⟨_,W.mg_of X G uMOST_FIGURES⟩,⟨_,W.mg_of X G uNO_SIGNS⟩,⟨_,W.mg_of X G uSIGNS,λP=>Ap sSIGNS lSIGNS gSIGNS0 gSIGNS1 gSIGNS2 (by decide)⟩,W.mg_of X G eCutError,⟨gL f,g,f⟩,AS eNoText qNoText pNoText rNoText sNoText b d tNoText uNoText vNoText wNoText,eNoCutting,qNoCutting,⟨pNoCutting,rNoCutting,sNoCutting,b,d,tNoCutting,uNoCutting,gL uNoCutting⟩,vNoCutting,uq (by decide +kernel) wNoCutting,⟨saNoCutting,poNoCutting,naNoCutting,hdNoCutting⟩,W.mg_of X G eNoFraction,W.mg_of X G eNoNumber,W.mg_of X G eNoSigns,W.mg_of X G eNoSpot,W.mg_of X G eNoText,W.mg_of X G eNoCutting,iu nNoTextNoFraction cNoFraction dNoFraction mNoTextNoFraction,iu nNoTextNoNumber cNoNumber dNoNumber mNoTextNoNumber,iu nNoTextNoSigns cNoSigns dNoSigns mNoTextNoSigns,iu nNoTextNoSpot cNoSpot dNoSpot mNoTextNoSpot,iu nNoTextNoCutting cNoCutting dNoCutting mNoTextNoCutting,iu nNoCuttingNoFraction cNoFraction dNoFraction mNoCuttingNoFraction,iu nNoCuttingNoNumber cNoNumber dNoNumber mNoCuttingNoNumber,iu nNoCuttingNoSigns cNoSigns dNoSigns mNoCuttingNoSigns,iu nNoCuttingNoSpot cNoSpot dNoSpot mNoCuttingNoSpot,iu nNoCuttingNoText cNoText dNoText mNoCuttingNoText,W.mg_none_of X G a⟩
def Ax{K:W.Frag}{a g:Addr}{m q:Str}{st:Stmt}{h kV c o b j:Vq}{n k:Oq Addr}{d:Array (Option Value)}(p:W.findIn K (.ref a) m=some (some (.ref g)))(i:W.isFn K (.ref g)=true)(l:K.lookup g=some ⟨h,n,.func (W.fnOf m q (dR st) (cQ st) (cu st) .none kV c o k b j),d⟩)(f:W.codeIn K b q=true)(e:W.keepIn K (.ref g)=true):gW K a m q st:=⟨_,_,oE l f e,p,i,e⟩
set_option hygiene false in
local macro_rules|`('x')=>`(by repeat' first|(refine' cq ?_ ?_)|(refine' cA ?_)|(exact cU)|(refine' cY _ nd ?_)|(refine' dc ?_ ?_ ?_)|(refine' dM ?_)|(refine' ps_setBm _ nd ?_)|(refine' m8 ?_)|(refine' dO ?_)|(exact ps_nevm)|(refine' sA _ nd ?_)|(exact cG _)|(exact du)|(refine' cz ?_ ?_)|(exact cX)|(refine' pV ?_ ?_)|(refine' gD (by assumption) hr ?_)|(refine' jo ?_ ?_)|(refine' iv ?_)|(refine' j1 hr ?_ ?_)|(refine' pb hr ?_ ?_)|(refine' eY ?_)|(refine' nI ?_)|(refine' gX ?_ ?_)|(refine' fM ?_)|(refine' vp ?_ ?_)|(refine' si ?_)|(refine' cR (dE (K:=K)) fK (by rfl) B.len fG ?_)|(refine' ey xC xO ?_ ?_)|(refine' ey uk um ?_ ?_)|(refine' ey rV tG ?_ ?_)|(refine' ey nj nB ?_ ?_)|(refine' ey op_notN mr_notN ?_ ?_)|(refine' ey op_isN mr_isN ?_ ?_)|(exact xM)|(exact tM)|(exact dq)|(refine' ti ?_)|(refine' sg ?_ ?_)|(refine' pm_sub ?_ ?_)|(refine' yq ?_)|(refine' yd ?_ ?_)|(refine' vt ?_ ?_)|(refine' tX ?_ ?_ ?_)|(exact zM)|(refine' zu ?_)|(refine' gH "tuple" (by decide) B.isinstance B.tuple e6 ?_)|(refine' gH "list" (by decide) B.isinstance B.list l8 ?_)|(refine' gH "int" (by decide) B.isinstance B.int jW ?_)|(refine' gH "bool" (by decide) B.isinstance B.bool qi ?_)|(refine' dw (ez (K:=K)) fC (by rfl) B.tuple e6 ?_)|(refine' dw lu pN (by rfl) B.int jW ?_)|(refine' cR n5 uE (by rfl) B.abs tT ?_)|(refine' cR (gz (K:=K) rfl) j3 (by rfl) B.all kc ?_)|(refine' ee ?_)|(refine' vO (by assumption) hr ?_)|(refine' pf_callTy (call_listK (K:=K)) mc_list1 (by rfl) B.list l8 ?_)|(refine' kj ?_)|(refine' kb ?_ ?_)|(refine' zj ?_ ?_)|(refine' mM ?_ ?_)|(refine' jT ?_)|(refine' oJ ?_))
section
variable {P:Program}{w:World}{K:W.Frag}{mg:Str->Option Value}{base:Heap}{c:Cs}(Z:Zx P w K mg base)(B:Bs mg)(ER:Er w c K mg)
include Z B ER
theorem o0(D:gW K c.NoCutting "__init__" "NoCutting.__init__" (jI (eB 3) 0)):qt P w K mg base c.NoCutting 1:=Ar Z 0 ER.xi_NoCutting D (iI (zq (pv 0) (pv 1) rfl))
theorem o1(D:cD K mg "is_whole" (eB 10)):CP Z "is_whole" 1 (eT c):=kU Z 0 (eT c) ["thing"] ["thing"] rfl D λnd hX hr=>⟨_,(cA (dM (mM (gH "int" (by decide) B.isinstance B.int jW (cG 0)) (jT (oJ (gH "bool" (by decide) B.isinstance B.bool qi (cG 0)))))))⟩
theorem o2(D:cD K mg "common_divisor" (eB 12)):CP Z "common_divisor" 1 (d4 c):=kU Z 0 (d4 c) ["one","other","rest"] ["one","other"] rfl D λnd hX hr=>⟨_,(cq (rP (λρ=>match ρ with|_::some (.p (.int j))::_=>j.natAbs+1|_=>0) PassesOwn.never 'x' 'x') (cA (dM (cR n5 uE (by rfl) B.abs tT 'x'))))⟩
theorem o3(D:cD K mg "first_place" (eB 18)):CP Z "first_place" 1 (eZ c):=kU Z 0 (eZ c) ["cut","place"] ["cut"] rfl D λnd hX hr=>⟨_,(cq (cY 1 nd du) (cq (rP (λρ=>match ρ with|some (.p (.tup ts))::_=>ts.length+1|_=>0) PassesOwn.never 'x' 'x') 'x'))⟩
theorem o4(D:cD K mg "check_text" (eB 28)):CE Z "check_text" 1 (cJ c):=kH Z 0 (cJ c) ["thing"] ["thing"] rfl D λnd hX hr=>⟨_,(cA (dc (eY (iv (gH "str" (by decide) B.isinstance B.str l4 (cG 0)))) (cA (eA ER.x_NoText.ns ER.x_NoText.ex)) cU))⟩
theorem o5(D:cD K mg "are_figures" (eB 29)):CP Z "are_figures" 1 (eU c):=kU Z 0 (eU c) ["text","most"] ["text","most"] rfl D λnd hX hr=>⟨_,(cq (dc (nI (gX (eY (rg nj nB nj nB du (cR (dE (K:=K)) fK (by rfl) B.len fG 'x') (cG 1))) (fM (eY (iv (cR (gz (K:=K) rfl) j3 (by rfl) B.all kc (cz (ee (g6 ["sign"] [none] hX (mE (cG 0)) (λnd hX=>⟨(fP 0 nd),dD,(zw (cG 0) (nO "0123456789" ER.k_FIGURES))⟩))) cX))))))) 'x' cU) (cA (dM (Bg (qa hr (cG 0) dq) (jT (xE hr 'x' dq))))))⟩
theorem o6(D:cD K mg "parts_of_dims" (eB 32)):CE Z "parts_of_dims" 1 (c0 c):=kH Z 0 (c0 c) ["text","parts"] ["text"] rfl D λnd hX hr=>⟨_,(cq (cY 1 nd (ee (iJ (cG 0) dq))) (cq (dc (ey uk um (cR (dE (K:=K)) fK (by rfl) B.len fG 'x') (iX 3 ER.k_MOST_DIMS)) (cA (eA ER.x_NoText.ns ER.x_NoText.ex)) cU) (fg 'x')))⟩
theorem o7(D:cD K mg "_law_draw" (eB 39)):CP Z "_law_draw" 1 (c9 c):=kU Z 0 (c9 c) ["_law_cell","_law_k","_law_bound","_law_left","_law_j","_law_stir"] ["_law_cell","_law_k","_law_bound"] rfl D λnd hX hr=>⟨_,(cq (dc (ey rV tG (cG 0) (y0 du du)) (cq 'x' (cq (nq PassesOwn.never rfl (jO B.range 'x') (mH 4 nd) 'x') 'x')) cU) 'x')⟩
theorem o8(D:cD K mg "_law_no_fractions" (eB 42)):CP Z "_law_no_fractions" 1 (de c):=kU Z 0 (de c) ["_law_good","_law_some"] ["_law_good"] rfl D λnd hX hr=>⟨_,(cq 'x' (cq (cY 1 nd (ee (kb (cG 1) (ee (kj (cz dq (cz dq (cz dq (cz dq (cz (uS dq du) (cz (jo dq (uS dq du)) 'x'))))))))))) 'x'))⟩
theorem o9(D:cD K mg "_law_no_spots" (eB 43)):CF Z "_law_no_spots" 1 (dF c):=pW Z 0 (dF c) ["_law_good","_law_some"] ["_law_good"] rfl D λnd hX hr=>⟨_, 'x'⟩
theorem DT(D:cD K mg "_law_no_cuts" (eB 44)):CF Z "_law_no_cuts" 1 (ef c):=pW Z 0 (ef c) ["_law_good","_law_some"] ["_law_good"] rfl D λnd a hr=>⟨_,(cq 'x' (cq 'x' (cA (m8 (kb (cG 1) (ee (kj (cz 'x' (cz 'x' (cz (jo (uS dq du) dq) cX))))))))))⟩
theorem Ds(D:cD K mg "_law_no_cuttings" (eB 45)):CF Z "_law_no_cuttings" 1 (dz c):=pW Z 0 (dz c) ["_law_good","_law_some"] ["_law_good"] rfl D λnd a hr=>⟨_, 'x'⟩
theorem DB(D:cD K mg "_law_no_signs" (eB 46)):CF Z "_law_no_signs" 1 (dG c):=pW Z 0 (dG c) ["_law_good"] ["_law_good"] rfl D λnd a hr=>⟨_, 'x'⟩
theorem DQ(D:cD K mg "is_dims" (eB 16))(a:CP Z "is_whole" 1 (eT c)):CP Z "is_dims" 2 (h7 c):=kU Z 1 (h7 c) ["thing"] ["thing"] rfl D λnd b hr=>⟨_,(cA (dM (mM 'x' (jT (sW nj nB nj nB du (cG 0) (iX 3 ER.k_MOST_DIMS))))))⟩
theorem Do(D:cD K mg "is_cut" (eB 17))(b:CP Z "is_whole" 1 (eT c)):CP Z "is_cut" 2 (fZ c):=kU Z 1 (fZ c) ["dims","thing"] ["dims","thing"] rfl D λnd a hr=>⟨_,(cq (dc (nI (gX (eY (iv (gH "tuple" (by decide) B.isinstance B.tuple e6 (cG 1)))) (fM (j1 hr (cR (dE (K:=K)) fK (by rfl) B.len fG 'x') 'x')))) 'x' cU) (cq (dc (eY (iv (cR (gz (K:=K) rfl) j3 (by rfl) B.all kc (cz (ee (g6 ["number"] [none] a (fB (cG 1)) (λnd a=>⟨(fP 0 nd),dD, 'x'⟩))) cX)))) 'x' cU) (cA (dM (cR (lF (K:=K) rfl) tO (by rfl) B.any tP (cz (ee (g6 ["number"] [none] a (fB 'x') (λnd a=>⟨(fP 0 nd),dD,(xE hr (cG 0) du)⟩))) cX))))))⟩
theorem DW(D:cD K mg "same_spots" (eB 19))(b:CP Z "first_place" 1 (eZ c)):CP Z "same_spots" 2 (fz c):=kU Z 1 (fz c) ["one","other","place"] ["one","other"] rfl D λnd a hr=>⟨_,(cq 'x' (cA (dM (cR (gz (K:=K) rfl) j3 (by rfl) B.all kc (cz (ee (g6 ["mine","theirs","other","place","one"] [none,none,some 1,some 2,some 0] a (vU B.zip 'x') (λnd a=>⟨(ye 2 rfl (lW (fP 0 nd) (lW (fP 1 nd) sL))),dD,(qa hr 'x' 'x')⟩))) cX)))))⟩
theorem Dr(D:cD K mg "read_number" (eB 30))(a:CP Z "are_figures" 1 (eU c)):CE Z "read_number" 2 (cI c):=kH Z 1 (cI c) ["text","figures"] ["text"] rfl D λnd b hr=>⟨_,(cq (cY 1 nd (As (iv (rH (cG 0) dq)) (vC (cG 0)) (cG 0))) (cq (dc (nI (gX (eY (iv (gD a hr (cz (cG 1) (cz (iX 60 ER.k_MOST_FIGURES) cX))))) (fM 'x'))) (cA (eA ER.x_NoText.ns ER.x_NoText.ex)) cU) (fg (cA (dM (dw kQ vS (by rfl) B.int jW 'x'))))))⟩
theorem Du(D:cD K mg "read_signs" (eB 36))(b:CE Z "check_text" 1 (cJ c)):CE Z "read_signs" 2 (eE c):=kH Z 1 (eE c) ["text"] ["text"] rfl D λnd a hr=>⟨_,(cq (dO (cP b hr cV 'x')) (cq (dc (pb hr (cG 0) (nO "." ER.k_NO_SIGNS)) (fg 'x') cU) (cq (dc (nI (gX 'x' (fM (eY (iv (cR (gz (K:=K) rfl) j3 (by rfl) B.all kc (cz (ee (g6 ["mark"] [none] a (mE (cG 0)) (λnd a=>⟨(fP 0 nd),dD,((tw [("+",1),("0",0),("-",-1)] (Dg ER.tb_SIGNS) (cG 0)))⟩))) cX))))))) (cA (eA ER.x_NoText.ns ER.x_NoText.ex)) cU) (fg (cA (dM (dw (ez (K:=K)) fC (by rfl) B.tuple e6 (cz (ee (g6 ["mark"] [none] a (mE (cG 0)) (λnd a=>⟨(fP 0 nd),dD,(wJ [("+",1),("0",0),("-",-1)] (Dg ER.tb_SIGNS) (cG 0))⟩))) cX))))))))⟩
theorem Dw(D:cD K mg "can_stand" (eB 20))(b:CP Z "is_cut" 2 (fZ c))(d:CP Z "same_spots" 2 (fz c)):CP Z "can_stand" 3 (fL c):=kU Z 2 (fL c) ["dims","ahead","thing"] ["dims","ahead","thing"] rfl D λnd a hr=>⟨_,(cq (dc (nI (gX (ey rV tG (cR (dE (K:=K)) fK (by rfl) B.len fG 'x') (iX 7 ER.k_MOST_CUTS)) (fM 'x'))) 'x' cU) (cA (dM (oJ (cR (lF (K:=K) rfl) tO (by rfl) B.any tP (cz (ee (g6 ["cut","thing"] [none,some 2] a (fB (cG 1)) (λnd a=>⟨(fP 0 nd),dD, 'x'⟩))) cX))))))⟩
theorem Eb(D:cD K mg "read_fraction" (eB 31))(b:CE Z "check_text" 1 (cJ c))(a:CE Z "read_number" 2 (cI c))(d:CP Z "common_divisor" 1 (d4 c)):CE Z "read_fraction" 3 (cZ c):=kH Z 2 (cZ c) ["text","parts","top","bottom"] ["text"] rfl D λnd e hr=>⟨_,(cq (dO (cP b hr cV 'x')) (cq (cY 1 nd (ee (iJ (cG 0) dq))) (cq (dc (pb hr (cR (dE (K:=K)) fK (by rfl) B.len fG 'x') du) (cA (dM (ti (cz (cP a hr cV 'x') 'x')))) cU) (cq (dc (j1 hr (cR (dE (K:=K)) fK (by rfl) B.len fG 'x') du) (cA (eA ER.x_NoText.ns ER.x_NoText.ex)) cU) (cq (cY 2 nd (cP a hr cV 'x')) (cq (cY 3 nd (cP a hr cV 'x')) (cq (dc (nI (gX (ey xC xO (cG 3) du) (fM 'x'))) (cA (eA ER.x_NoText.ns ER.x_NoText.ex)) cU) (fg 'x'))))))))⟩
theorem Ea(D:cD K mg "read_cut" (eB 34))(f:CE Z "check_text" 1 (cJ c))(a:CE Z "read_number" 2 (cI c))(b:CP Z "is_cut" 2 (fZ c))(g:CE Z "parts_of_dims" 1 (c0 c)):CE Z "read_cut" 3 (d3 c):=kH Z 2 (d3 c) ["text","halves","numbers","cut"] ["text"] rfl D λnd d hr=>⟨_,(cq (dO (cP f hr cV 'x')) (cq (cY 1 nd (ee (iJ (cG 0) dq))) (cq (dc (j1 hr (cR (dE (K:=K)) fK (by rfl) B.len fG 'x') du) (cA (eA ER.x_NoText.ns ER.x_NoText.ex)) cU) (cq (ql ["part"] [none] 2 nd d jn (fB (cP g hr cV 'x')) (λnd d e=>⟨(fP 0 nd),dD,(cP a hr e 'x')⟩) i0) (cq (cY 3 nd (dw (ez (K:=K)) fC (by rfl) B.tuple e6 (cz (ee (kb (cG 2) (ee (kj (cz (cP a hr cV 'x') cX))))) cX))) (cq (dc (eY (iv (gD b hr (cz (cR (dE (K:=K)) fK (by rfl) B.len fG 'x') 'x')))) (cA (eA ER.x_NoText.ns ER.x_NoText.ex)) cU) (fg 'x')))))))⟩
theorem Dx(D:cD K mg "checked_cuts" (eB 21))(a:qt P w K mg base c.NoCutting 1)(b:CP Z "is_dims" 2 (h7 c))(d:CP Z "can_stand" 3 (fL c)):CE Z "checked_cuts" 4 (d9 c):=kH Z 3 (d9 c) ["dims","things","ahead","thing"] ["dims","things"] rfl D λnd e hr=>⟨_,(cq (dc (nI (gX 'x' (fM (eY (iv (gH "list" (by decide) B.isinstance B.list l8 (cG 1))))))) (cA (nc ER.ns_NoCutting ER.qi_NoCutting a hr 'x')) cU) (cq 'x' (cq (pS PassesOwn.leaving rfl (fB (cG 1)) (mH 3 nd) (cq (dc 'x' (cA (nc ER.ns_NoCutting ER.qi_NoCutting a hr (cz (cR (dE (K:=K)) fK (by rfl) B.len fG 'x') cX))) cU) (fg (cA (tU 2 (pv 2) (dw (ez (K:=K)) fC (by rfl) B.tuple e6 'x')))))) (fg (cA (dM (dw (ez (K:=K)) fC (by rfl) B.tuple e6 'x')))))))⟩
theorem DF(D:cD K mg "read_spot" (eB 33))(e:CE Z "check_text" 1 (cJ c))(a:CE Z "read_fraction" 3 (cZ c))(f:CE Z "parts_of_dims" 1 (c0 c)):CE Z "read_spot" 4 (eX c):=kH Z 3 (eX c) ["text"] ["text"] rfl D λnd b hr=>⟨_,(cq (dO (cP e hr cV 'x')) (cA (dM (dw (ez (K:=K)) fC (by rfl) B.tuple e6 (cz (ee (v7 ["part"] [none] b jn (fB (cP f hr cV 'x')) (λnd b d=>⟨(fP 0 nd),dD,(cP a hr d 'x')⟩))) cX)))))⟩
theorem Dn(D:gW K c.Cutting "__init__" "Cutting.__init__" (jI (eB 22) 0))(a:CE Z "checked_cuts" 4 (d9 c)):lD P w K mg base "Cutting" c.Cutting 5 (jX K c.Cutting (dZ c)):=Bq Z 4 (dZ c) ["self","dims","cuts"] rfl yw ER.cl_Cutting ER.na_Cutting_own_cuts ER.na_Cutting_own_dims ER.mk_Cutting ER.kp_Cutting ER.mg_Cutting D λhr=>CJ rfl (pv 0) (cP a hr cV (cz (cG 1) (cz (cG 2) cX))) (pv 0) (cG 1)
theorem DE(D:cD K mg "read_cutting" (eB 35))(g:CE Z "check_text" 1 (cJ c))(a:CE Z "read_number" 2 (cI c))(d:lD P w K mg base "Cutting" c.Cutting 5 (jX K c.Cutting (dZ c)))(b:CE Z "read_cut" 3 (d3 c)):CE Z "read_cutting" 7 (d5 c):=kH Z 6 (d5 c) ["text","words","dims","cuts"] ["text"] rfl D λnd e hr=>⟨_,(cq (dO (cP g hr cV 'x')) (cq (cY 1 nd (ee (iJ (cG 0) dq))) (cq (cY 2 nd (cP a hr cV 'x')) (cq (ql ["word"] [none] 3 nd e jn (fB 'x') (λnd e f=>⟨(fP 0 nd),dD,(cP b hr f 'x')⟩) i0) (cA (dM (zl d hr cV 'x')))))))⟩
theorem DP(D:cD K mg "_law_read" (eB 40))(f:CE Z "read_fraction" 3 (cZ c))(e:CE Z "read_spot" 4 (eX c))(b:CE Z "read_cut" 3 (d3 c))(a:CE Z "read_cutting" 7 (d5 c))(d:CE Z "read_signs" 2 (eE c)):CE Z "_law_read" 8 (cv c):=kH Z 7 (cv c) ["_law_way","_law_text"] ["_law_way","_law_text"] rfl D λnd g hr=>⟨_,(cA (dc 'x' (cA (dO (cP f hr cV 'x'))) (cA (dc 'x' (cA (dO (cP e hr cV 'x'))) (cA (dc 'x' (cA (dO (cP b hr cV 'x'))) (cA (dc 'x' (cA (dO (cP a hr cV 'x'))) (cA (dO (cP d hr cV 'x')))))))))))⟩
theorem DH(D:cD K mg "_law_said" (eB 41))(k:CE Z "_law_read" 8 (cv c)):CP Z "_law_said" 9 (cF c):=Ce Z 8 (cF c) ["_law_way","_law_text","_law_found","e","_law_odd"] ["_law_way","_law_text"] rfl D λnd C hr=>⟨_,(rL (cY 2 nd dq) (uF 3 nd ER.cut ER.hct (λy u G j=>(cA (dO (cP k hr j 'x')))) (λu m N L d a b l h=>(gq (jR (i:=4) nd rfl (Or.inl rfl) (xD (e8 (gA (K:=K) a b) rfl B.isinstance iB (cS (pv 3) (cS (rS (cS (ei (v:=.ref c.NoFraction) rfl ER.m_NoFraction rfl) (cS (ei (v:=.ref c.NoNumber) rfl ER.m_NoNumber rfl) (cS (ei (v:=.ref c.NoSigns) rfl ER.m_NoSigns rfl) (cS (ei (v:=.ref c.NoSpot) rfl ER.m_NoSpot rfl) eK))))) eK))) (sM (rZ (e8 (gA (K:=K) a b) rfl B.isinstance iB (cS (pv 3) (cS (pT (v:=.ty "ValueError") rfl ER.val zZ rfl) eK))))))) (gq (jR (i:=2) nd rfl (Or.inl rfl) (ny (PW.pt (j9 (iE (e8 (gA (K:=K) a b) rfl B.isinstance iB (cS (pv 3) (cS (ei (v:=.ref c.NoText) rfl ER.m_NoText rfl) eK)))) (j9 (ki (iE (e8 (gA (K:=K) a b) rfl B.isinstance iB (cS (pv 3) (cS (ei (v:=.ref c.NoCutting) rfl ER.m_NoCutting rfl) eK))))) (mJ (ki (iE (pv 4))))))) mK mK)) (iI (xH (PW.pt (j9 (iE (e8 (gA (K:=K) a b) rfl B.isinstance iB (cS (pv 3) (cS (ei (v:=.ref c.NoCutting) rfl ER.m_NoCutting rfl) eK)))) (j9 (ki (iE (e8 (gA (K:=K) a b) rfl B.isinstance iB (cS (pv 3) (cS (ei (v:=.ref c.NoText) rfl ER.m_NoText rfl) eK))))) (mJ (ki (iE (pv 4))))))) (iI (jR (i:=2) nd rfl (Or.inl rfl) (zX a b l h (pv 3)))) pH))))) 'x' ER.x_NoText.su ER.su_NoCutting (by decide) (λm H D x q=>qw (mZ rfl ER.x_NoText.xc (g9 ER.n_NoText_NoFraction (g9 ER.n_NoText_NoNumber (g9 ER.n_NoText_NoSigns (g9 ER.n_NoText_NoSpot rfl))))) (λ_ _=>sj rfl ER.x_NoText.xc ER.x_NoText.va) λs e=>qj (jK (h8 rfl ER.x_NoText.xc (n9 _ _)) λ_ _=>jK (jJ (h8 rfl ER.x_NoText.xc ER.n_NoText_NoCutting)) λ_ _=>jJ (p7 rfl)) λr f=>qm (nH (h8 rfl ER.x_NoText.xc ER.n_NoText_NoCutting)) (λ_ o g=>q _ o (by simp) rfl (cC.trans (cC.trans e f) g)) λz=>nomatch z) (λm F n H D x j q=>qw (mZ rfl ER.xc_NoCutting (g9 ER.n_NoCutting_NoFraction (g9 ER.n_NoCutting_NoNumber (g9 ER.n_NoCutting_NoSigns (g9 ER.n_NoCutting_NoSpot rfl))))) (λ_ _=>sj rfl ER.xc_NoCutting ER.va_NoCutting) λs e=>qj (nH (h8 rfl ER.xc_NoCutting ER.n_NoCutting_NoText)) λr f=>qm (jK (h8 rfl ER.xc_NoCutting (n9 _ _)) λE J=>jK (jJ (h8 rfl ER.xc_NoCutting ER.n_NoCutting_NoText)) λI A=>jJ (p7 rfl)) (λz=>nomatch z) λ_ o g=>wH rfl ER.xc_NoCutting ER.xi_NoCutting (cC.trans (cC.trans e f) g _ _ j) _ λt p=>q _ t (by simp) rfl (cC.trans (cC.trans (cC.trans e f) g) p))))⟩
theorem oL{f:Addr}{e:FuncData}(D:ve K "law" "law" (eB 47) f e)(d:CP Z "_law_draw" 1 (c9 c))(b:CP Z "_law_said" 9 (cF c))(k:CP Z "_law_no_fractions" 1 (de c))(j:CF Z "_law_no_spots" 1 (dF c))(h:CF Z "_law_no_cuts" 1 (ef c))(g:CF Z "_law_no_cuttings" 1 (dz c))(i:CF Z "_law_no_signs" 1 (dG c)):fy P w K mg base lI 10 f e ["_law_script"] (mr K (iY c)):=Bj Z 9 (iY c) ["_law_script","_law_cell","_law_number","_law_goods","_law_bads","_law_way","_law_text","_law_odd","_law_at","_law_some","_law_wrong","_law_dims"] ["_law_script"] rfl D λnd a hr=>⟨_,(cq (pS PassesOwn.never rfl (fB 'x') (mH 1 nd) (cq (cY 2 nd (dw gE mW (by rfl) B.str l4 'x')) (cq 'x' (cq 'x' (cq 'x' (cq (nq PassesOwn.never rfl (jO B.range 'x') (mH 5 nd) (cq (cY 6 nd (pV 'x' (gD d hr (cz (cG 1) (cz 'x' (cz (cR (dE (K:=K)) fK (by rfl) B.len fG 'x') cX)))))) (cq (cY 7 nd (pV (ee (kj (cz tM (cz du (cz xM (cz 'x' (cz 'x' (cz yH cX)))))))) 'x')) 'x'))) (cq 'x' (cq 'x' (cq (sv ["_law_k"] [none] 9 nd a (rj.pim (jO B.range 'x')) (λnd a=>⟨(fP 0 nd),dD,(jo dq (dw gE mW (by rfl) B.str l4 'x'))⟩) i0) (cq (cY 10 nd (pV 'x' (gD d hr (cz (cG 1) (cz du (cz (jo du (sg du (dw lu pN (by rfl) B.int jW (cz (ou uk um (cG 8) du) cX)))) cX)))))) (cA (dc (j1 hr (gD b hr (cz du (cz (pZ dq 'x') cX))) (cG 8)) 'x' cU)))))))))))) (cq (sv ["_law_text"] [none] 11 nd a (fB 'x') (λnd a=>⟨(fP 0 nd),dD, 'x'⟩) i0) (cA (dM (mM (qa hr (cG 11) 'x') (jT (qa hr (gD b hr (cz du (cz (pZ dq (ee (kb 'x' (ee (g6 ["_law_k"] [none] a (rj.pim (jO B.range 'x')) (λnd a=>⟨(fP 0 nd),dD,(jo dq (dw gE mW (by rfl) B.str l4 'x'))⟩)))))) cX))) du)))))))⟩
end
def yL{l:W.OpenLaw}{w:World}{K:W.Frag}{h:Heap}{b:Str->Option Value}{c:Cs}{fa f:Addr}{oc kV k pm g ct:Vq}{od an:Oq Addr}{A:Array (Option Value)}(X:K.In h)(G:h.Ns mainGlobals b)(x:b "law" = some (.ref fa))
  (a:W.nsIn K mainGlobals "law" = some (some (.ref f))) (lk:K.lookup f=some ⟨oc,od,.func (W.fnOf "law" "law" (dR (eB 47)) (cQ (eB 47)) (cu (eB 47)) .none kV k pm an g ct),A⟩) (cc:W.codeIn K g "law" = true) (kk:W.keepIn K (.ref f)=true)
  (B:Bs b) (ER:Er w c K b) (LF:∀ns:LI,(iY c) [.scr ns]=.ok (.bl true)) (D0:cD K b "is_whole" (eB 10)) (D1:cD K b "common_divisor" (eB 12)) (D2:cD K b "first_place" (eB 18)) (D3:cD K b "check_text" (eB 28)) (D4:cD K b "are_figures" (eB 29)) (D5:cD K b "parts_of_dims" (eB 32)) (D6:cD K b "_law_draw" (eB 39)) (D7:cD K b "_law_no_fractions" (eB 42)) (D8:cD K b "_law_no_spots" (eB 43)) (D9:cD K b "_law_no_cuts" (eB 44)) (U:cD K b "_law_no_cuttings" (eB 45)) (I:cD K b "_law_no_signs" (eB 46)) (r:cD K b "is_dims" (eB 16)) (S:cD K b "is_cut" (eB 17)) (D14:cD K b "same_spots" (eB 19)) (E:cD K b "read_number" (eB 30)) (p:cD K b "read_signs" (eB 36)) (D17:cD K b "can_stand" (eB 20)) (o:cD K b "read_fraction" (eB 31)) (D19:cD K b "read_cut" (eB 34)) (q:cD K b "checked_cuts" (eB 21)) (H:cD K b "read_spot" (eB 33)) (D22:cD K b "read_cutting" (eB 35)) (R:cD K b "_law_read" (eB 40)) (J:cD K b "_law_said" (eB 41)) (M0:gW K c.NoCutting "__init__" "NoCutting.__init__" (jI (eB 3) 0)) (M1:gW K c.Cutting "__init__" "Cutting.__init__" (jI (eB 22) 0)) :
  ∃fd:FuncData,(∀(s:Sq) (v:Vq),BindsTo s fd ⟨[v],[]⟩ [("_law_script",v)])/\∀base:Heap,K.In base->base.Ns mainGlobals b->fy l.prog w K b base lI 10 fa fd ["_law_script"] (rY K):=by
 have e:=x.symm.trans (W.mg_of X G a);cases e;refine⟨W.fnOf "law" "law" (dR (eB 47)) (cQ (eB 47)) (cu (eB 47)) .none kV k pm an g ct,?bnd,λbase _ _=>?main⟩
 case main=>have Z:Zx l.prog w K b base:=⟨trivial⟩;have O0:=o0 Z B ER M0;have O1:=o1 Z B ER D0;have O2:=o2 Z B ER D1;have O3:=o3 Z B ER D2;have j:=o4 Z B ER D3;have O5:=o5 Z B ER D4;have E6:=o6 Z B ER D5;have O7:=o7 Z B ER D6;have O8:=o8 Z B ER D7;have O9:=o9 Z B ER D8;have F:=DT Z B ER D9;have P:=Ds Z B ER U;have L:=DB Z B ER I;have Q:=DQ Z B ER r O1;have i:=Do Z B ER S O1;have y:=DW Z B ER D14 O3;have d:=Dr Z B ER E O5;have t:=Du Z B ER p j;have D:=Dw Z B ER D17 i y;have m:=Eb Z B ER o j d O2;have n:=Ea Z B ER D19 j d i E6;have z:=Dx Z B ER q O0 Q D;have Y:=DF Z B ER H j m E6;have u:=Dn Z B ER M1 z;have N:=DE Z B ER D22 j d u n;have E25:=DP Z B ER R m Y n N t;have C:=DH Z B ER J E25;exact (oL Z B ER (oE (st:=eB 47) lk cc kk) O7 C O8 O9 F P L).imp (sN λns _ _=>LF ns)
 case bnd=>exact λs v=>.of_eq rfl
end K82
namespace PySem.Challenge.cw_cutlands_k82_no_texts_holds
def tw2085161398220222553:0=0:=rfl
def tw16641092621374731789:0=0:=rfl
def tw9068096890237869056:0=0:=rfl
def tw17619632047287169792:0=0:=rfl
def tw4693523960557641004:0=0:=rfl
def tw13214310749673625934:0=0:=rfl
def tw15313913782845567772:0=0:=rfl
def tw1396478191364743452:0=0:=rfl
def tw17988343842813732353:0=0:=rfl
def tw13344241874178303689:0=0:=rfl
def tw9579413906816381693:0=0:=rfl
def tw1959167290454012103:0=0:=rfl
def tw14637401393827998567:0=0:=rfl
def tw4495400175391407986:0=0:=rfl
def tw16690014646016296968:0=0:=rfl
def tw398670909288756867:0=0:=rfl
def tw6977923987623386949:0=0:=rfl
def tw1748318722899096316:0=0:=rfl
def tw1719216202272730819:0=0:=rfl
def tw11729858342455975175:0=0:=rfl
def tw10343759769065147562:0=0:=rfl
def tw1078790129786648412:0=0:=rfl
def tw17287851991335039402:0=0:=rfl
def tw12644008449430304945:0=0:=rfl
def tw15087884400561323233:0=0:=rfl
def tw8587490567230730262:0=0:=rfl
def tw15126774512375421435:0=0:=rfl
def tw4924080404037976289:0=0:=rfl
def tw17881492238140421432:0=0:=rfl
def tw4032356485616028974:0=0:=rfl
def tw960033554807002164:0=0:=rfl
def tw18087362342210285285:0=0:=rfl
def tw5473975589243494065:0=0:=rfl
def tw11433814761644532422:0=0:=rfl
def tw7525735042603104669:0=0:=rfl
def tw99506145077529900:0=0:=rfl
def tw9148346434379908330:0=0:=rfl
def tw12012798359535252322:0=0:=rfl
def tw13379291168198102754:0=0:=rfl
def tw14752758250436496551:0=0:=rfl
def tw1040378959039956452:0=0:=rfl
def tw9352295530950984098:0=0:=rfl
def tw16748127436401855549:0=0:=rfl
def tw7473541602415923495:0=0:=rfl
def tw6883268367229150385:0=0:=rfl
def tw16839735790631900776:0=0:=rfl
def tw14275568385545830289:0=0:=rfl
def tw3763447786688397769:0=0:=rfl
def tw5188949040993303225:0=0:=rfl
def tw539884302499364750:0=0:=rfl
def tw15358164615427601488:0=0:=rfl
def tw8565191457786395596:0=0:=rfl
def tw13143281263540086742:0=0:=rfl
def tw6876234678501479121:0=0:=rfl
def tw4259864999615210907:0=0:=rfl
def tw9194214527302497624:0=0:=rfl
def tw4802506062251592470:0=0:=rfl
def tw11501626178242900051:0=0:=rfl
def tw16411390538689764110:0=0:=rfl
def tw10867878073955720211:0=0:=rfl
def tw52104228345419746:0=0:=rfl
def tw6047743243900177575:0=0:=rfl
def tw14677506817567120237:0=0:=rfl
def tw16185381990490466522:0=0:=rfl
def tw16057086516024625107:0=0:=rfl
def tw8253518203255598809:0=0:=rfl
def tw13457870108631920722:0=0:=rfl
def tw10480044456268810180:0=0:=rfl
def tw6076743666850733738:0=0:=rfl
def tw15045197113206548577:0=0:=rfl
def tw8399277168850225994:0=0:=rfl
def tw4683046540306022955:0=0:=rfl
def tw13656133310780150715:0=0:=rfl
def tw17197936312241438882:0=0:=rfl
def tw9695069364630376754:0=0:=rfl
def tw2575530874478357090:0=0:=rfl
def tw5194929675428797191:0=0:=rfl
def tw10695854204154816257:0=0:=rfl
def tw14614738565475250322:0=0:=rfl
def tw5304706237659437725:0=0:=rfl
def tw2919410959463353184:0=0:=rfl
def tw7386864997647731518:0=0:=rfl
def tw2014731508055673000:0=0:=rfl
def tw15972901612923092867:0=0:=rfl
def tw11541644649162735717:0=0:=rfl
def tw8137383180702338722:0=0:=rfl
def tw11383180199327046486:0=0:=rfl
def tw17776735620505998968:0=0:=rfl
def tw17959485482064501563:0=0:=rfl
def tw4096192670949278285:0=0:=rfl
def tw8982651377769054228:0=0:=rfl
def tw3993090332231275437:0=0:=rfl
def tw4079157461685031189:0=0:=rfl
def tw12588541413384931757:0=0:=rfl
def tw15447903536468033886:0=0:=rfl
def tw15857105981926190451:0=0:=rfl
def tw15911187405944859070:0=0:=rfl
def tw7380064159314038433:0=0:=rfl
def tw5893774617186237095:0=0:=rfl
def tw1934795513247673511:0=0:=rfl
def tw7653631002756656526:0=0:=rfl
def tw12382666404151536048:0=0:=rfl
def tw11142551857842626707:0=0:=rfl
def tw16027749289563449175:0=0:=rfl
end PySem.Challenge.cw_cutlands_k82_no_texts_holds
open PySem PySem.W PyProof.Rows
set_option Elab.async true
theorem PySem.Challenge.cw_cutlands_k82_no_texts_holds : PySem.Challenge.rw_cutlands_k82_no_texts.Holds := by
 w_on;o_law;k_head;(case hw=>w_witness2);k_fill;refine L3.Ba (l:=PySem.Challenge.rw_cutlands_k82_no_texts) (k:=10) (x:= "_law_script") rfl ⟨rfl,by decide,by decide⟩ rfl (λw h Y=>PySem.W.kIn_of Y) ?F
 case F=>intro w mg fa h KX G hmg;refine' K82.yL KX G hmg ?a ?l ?c ?k ?B ?E (λns=>CL.rC ns) ?_ ?_ ?_ ?_ ?_ ?_ ?_ ?_ ?_ ?_ ?_ ?_ ?_ ?_ ?_ ?_ ?_ ?_ ?_ ?_ ?_ ?_ ?_ ?_ ?_ ?_ ?_;(case a=>k_is);(case l=>k_is);(case c=>k_is);(case k=>k_is);(case B=>constructor<;>(apply mg_none_of KX G;k_is));(case E=>apply K82.Bw KX G<;>first | k_is | k_exc | decide | kernel_rfl);all_goals first | (apply L2.yY KX G<;>k_is) | (apply K82.Ax<;>first | k_is | k_exc | decide | rfl | kernel_rfl)
